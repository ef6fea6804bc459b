import PyProof.Rows.All
import Wide.All
import OpenK.AllK
import Wide.FinOn
import Lean
import PyProof.EqAt
import PyProof.EqKinds
import PyProof.TupleCall
import PySem.Challenge.RW_steermill_k53_whole_one_hand_one_rule
noncomputable section
local macro_rules | `(tactic| omega) => `(tactic| lia)
open List renaming length_map->wa,getElem?_eq_getElem->wc,getD_eq_getElem?_getD->we,mem_of_getElem?->wg,mem_map->wj,getElem?_map->wk,getElem_mem->wm,mem_singleton->wn,take_of_length_le->wo,mem_cons_self->wp,mem_append->wq,mem_cons_of_mem->wr,length_take->wt,map_append->wv,getElem?_eq_some_iff->ww,replicate->wx,length_append->wD,mem_append_right->wE,mem_cons->wF,length_zipWith->wG,getElem_of_mem->wI,size_toArray->wJ,length_replicate->wL,mem_append_left->wQ,of_mem_zip->wT,range->wV,getElem?_append_left->wW,getElem?_set->wY,getElem?_append_right->wZ,mem_filter->ve,length_set->vg,eq_of_mem_replicate->vk,map_map->vm,range_succ->vn,getElem?_eq_none->vo,length->vt,mem_of_mem_take->vw,zipWith->vy,getElem?_zipWith->vz,mem_range->vA,map_congr_left->vB,length_drop->vE,getElem_zipWith->vF,getElem?_range->vH,not_mem_nil->vI,take_length->vK,eq_nil_of_length_eq_zero->vN,length_cons->vO,replicate_succ->vQ,take_succ_eq_append_getElem->vR,drop_of_length_le->vU,flatten_cons->vV,map_cons->vW,length_zip->vZ,drop->ud,map_take->ue,length_filter_le->um,map_drop->uo,mem_of_mem_drop->uq,replicate_succ'->ur,take->uu,length_range->uv,getElem?_replicate->uy,ext_getElem->uD,filter_cons->uE,pairwise_cons->uJ,exists_cons_of_ne_nil->uL,append_nil->uN,getElem?_zip_eq_some->uO,pairwise_map->uQ,getElem_map->uR,getElem?_drop->uV,getElem?_set_self->uX,drop_zero->gi,map_fst_zip->gv,nodup_cons->gA,foldl_append->gV,pairwise_lt_range->gX,all_eq_true->gY,eraseIdx_sublist->Gd,getElem?_set_ne->Ge,foldl_cons->Gf,length_nil->Gg,map_nil->Gi,filterMap_cons->Go,idxOf_lt_length_of_mem->Gq,getElem?_take->Gs,getElem?_inj->GA,nodup_append->GB,getElem?_take_of_lt->GD,lookup_cons->GH,mem_flatten->GN,pairwise_singleton->GP,length_singleton->GU,mem_iff_getElem?->GW,pairwise_append->wac,mem_filterMap->wah,map_replicate->waj,map_id'->wap,append_assoc->waq,getElem_zip->waC,map_snd_zip->waD,map_reverse->waF,mem_reverse->waG,nil_append->waI,sum_append->waL,map->waM,zip_append->waO,foldl->waR,sum_nil->wa2,map_set->wa5
open Nat renaming le_refl->wu,le_trans->wN,lt_or_ge->wO,mul_le_mul_right->wP,lt_of_lt_of_le->wR,mul_le_mul_left->wU,ne_of_lt->vd,zero_add->vp,zero_le->vq,pow_le_pow_right->vv,reduceAdd->vD,lt_irrefl->vM,mul_le_mul->vY,not_lt_zero->ug,succ_mul->uk,lt_succ_self->ul,min_eq_left->uw,le_of_lt->ux,le_mul_of_pos_right->uz,min_eq_right->uF,gcd->uG,lt_of_le_of_lt->uH,pow_add->uK,sub_self->uM,lt_succ_of_lt->uP,one_mul->uS,lt_or_eq_of_le->uW,le_of_eq->gj,pow_succ->gm,pow_mod->gD,add_mul->gJ,min_le_left->gK,two_pow_pos->gL,lt_succ_iff_lt_or_eq->gO,eq_zero_or_pos->gQ,mul_comm->gR,sub_zero->gS,le_of_lt_succ->gW,le_add_right->gZ,dvd_trans->Ga,mul_mod->Gb,pow_pos->Gc,le_antisymm->Gh,min_self->Gn,one_le_two_pow->Gr,mul_one->Gu,le_of_succ_le->Gy,gcd_dvd_right->Gz,mul_assoc->GC,mod_eq_of_lt->GK,gcd_dvd_left->GL,coprime_comm->GM,add_sub_cancel_left->GO,le_total->GQ,div_add_mod->GR,pow_mul->GZ,le_succ->wab,le_of_dvd->waf,mod_lt->wag,ne_of_gt->wak,pow_zero->wan,zero_mul->wao,lt_trichotomy->wat,dvd_mul_right->waw,le_of_not_lt->way,mul_lt_mul''->waA,succ_le_succ->waB,zero_lt_one->waP,div_lt_self->waQ,add_comm->waT,div_self->wa0,lt_trans->wa1,gcd_comm->wa3,add_zero->wa4,one_pow->wa9,gcd_rec->wba,pow_two->wbb,pow_one->wbc,mul_sub->wbe,mul_pos->wbf
open Int renaming fmod_nonneg_of_pos->wy,fmod_lt_of_pos->wH,toNat_natCast->wS,gcd->vf,zero_add->vC,natAbs_mul->vG,fdiv_eq_ediv_of_dvd->vL,natAbs_natCast->vS,fmod_eq_emod_of_nonneg->uh,mul_le_mul_of_nonneg_left->ut,gcd_eq_natAbs_gcd_natAbs->uB,ediv_mul_cancel->uC,natCast_nonneg->uI,eq_ofNat_of_zero_le->uT,emod_lt_of_pos->uU,natCast_mul->uY,gcd_pos_of_ne_zero_right->uZ,emod_add_mul_ediv->gf,natAbs_pos->gh,lt_or_le->gk,gcd_dvd_left->gu,emod_nonneg->gB,mul_ne_zero->gC,dvd_mul_of_dvd_right->gM,gcd_dvd_right->gU,mul_zero->Gk,zero_dvd->Gm,gcd_pos_of_ne_zero_left->Gp,mul_pos->Gv,fdiv_eq_ediv_of_nonneg->Gw,natAbs_add_le->Gx,natAbs_dvd_natAbs->waa,le_of_dvd->wad,zero_fmod->wae,dvd_zero->wal,gcd_zero->wam,dvd_mul_right->war,natAbs_sub_le->was,lt_trichotomy->wav,dvd_sub->waz,dvd_mul_left->waE,natCast_emod->waH,ediv_nonneg->waJ,dvd_trans->waS,fmod_def->waU,gcd_comm->waV,zero_mul->waW,dvd_refl->waX,mul_comm->waY,gcd_ediv->waZ,one_mul->wa6,neg_dvd->wa7
open Option renaming map_eq_some_iff->wK,getD_none->wax
open Bool renaming false_ne_true->wX,eq_false_iff->vX,eq_iff_iff->gy,and_eq_true->GJ,false_eq_true->wai
open Rat renaming intCast_mul->vh,divInt->vJ,intCast_eq_zero_iff->uA,num_divInt_den->gP,divInt_eq_divInt_iff->GE,divInt_ofNat->GF,intCast_add->GS,intCast_inj->GT,divInt_mul_divInt->GV,divInt_eq_div->wau,num_eq_zero->waK,intCast_neg->waN,inv_def->wa8
open Classical renaming byContradiction->gw,choose_spec->GY
set_option Elab.async false
set_option linter.all false
set_option maxRecDepth 100000
namespace L2
open PySem PySem.Spec PyProof.Rows
abbrev Key:=Sum Int Str
def keyIs:Key->Value->Bool
 | .inl k,v=>Value.isInt k v
 | .inr x,v=>Value.isStrOf x v
def keyH(w:World):Key->Int
 | .inl k=>hashInt k
 | .inr x=>hashStr w x
theorem yD:∀ {k:Key} {v:Value},keyIs k v=true->(∃ i t,k=Sum.inl i/\v=Value.int i t)\/(∃ x t,k=Sum.inr x/\v=Value.str x t)
 | .inl i,v,h=>by
  obtain⟨t,e⟩:=Value.isInt_shape (k:=i) (v:=v) h;exact .inl ⟨i,t,rfl,e⟩
 | .inr x,v,h=>by
  obtain⟨t,e⟩:=Value.isStrOf_shape (x:=x) (v:=v) h;exact .inr ⟨x,t,rfl,e⟩
theorem zjg(a b:Int):decide ((Sum.inl a:Key)=Sum.inl b) =(a == b):=by
 by_cases e:a=b
 ·subst e;simp
 ·have h:¬(Sum.inl a:Key)=Sum.inl b:=fun q=>e (Sum.inl.inj q)
  rw[decide_eq_false h];exact(beq_eq_false_iff_ne.mpr e).symm
theorem zi5(a b:Str):decide ((Sum.inr a:Key)=Sum.inr b)=decide (a=b):=by
 by_cases e:a=b
 ·subst e;simp
 ·have h:¬(Sum.inr a:Key)=Sum.inr b:=fun q=>e (Sum.inr.inj q)
  rw[decide_eq_false h,decide_eq_false e]
theorem zjO(a:Int)(b:Str):decide ((Sum.inl a:Key)=Sum.inr b)=false:=decide_eq_false (fun q=>nomatch q)
theorem zjC(a:Str)(b:Int):decide ((Sum.inr a:Key)=Sum.inl b)=false:=decide_eq_false (fun q=>nomatch q)
def mixKind(prog:Program)(w:World):PySem.KeyKind prog w Key where
 is:=keyIs
 hash:=keyH w
 inj:=fun v a b ha hb=>by
  rcases yD ha with⟨i,t,rfl,rfl⟩|⟨x,t,rfl,rfl⟩
  ·rcases yD hb with⟨j,u,rfl,e⟩|⟨y,u,rfl,e⟩
   ·injection e with e1 _;rw[e1]
   ·exact nomatch e
  ·rcases yD hb with⟨j,u,rfl,e⟩|⟨y,u,rfl,e⟩
   ·exact nomatch e
   ·injection e with e1 _;rw[e1]
 byValue:=fun k v h=>by
  rcases yD h with⟨i,t,rfl,rfl⟩|⟨x,t,rfl,rfl⟩ <;> rfl
 pyHash:=fun hv h=>by
  rcases yD hv with⟨i,t,rfl,rfl⟩|⟨x,t,rfl,rfl⟩
  ·exact wpAny_pyHash_int h
  ·exact wpAny_pyHash_str h
 eqBool:=fun hu hv h=>by
  rcases yD hu with⟨i,t,rfl,rfl⟩|⟨x,t,rfl,rfl⟩
  ·rcases yD hv with⟨j,u,rfl,rfl⟩|⟨y,u,rfl,rfl⟩
   ·rw[zjg]at h;exact wpAny_eqBool_int h
   ·rw[zjO]at h;exact SeqAt.EqAt.int_str i t y u _ _ _ _ h
  ·rcases yD hv with⟨j,u,rfl,rfl⟩|⟨y,u,rfl,rfl⟩
   ·rw[zjC]at h;exact SeqAt.EqAt.str_int x t j u _ _ _ _ h
   ·rw[zi5]at h;exact wpAny_eqBool_str h
 «strs»:=fun k x t v h=>by
  rcases yD h with⟨i,u,rfl,e⟩|⟨y,u,rfl,e⟩
  ·exact nomatch e
  ·injection e with e1 _
   subst e1;cases v <;> rfl
end L2
namespace L2
open PySem PySem.Spec PyProof.Rows
inductive V where
 | non|bl (b:Bool) | int (i:Int) | str (x:Str) | byt (b:Array UInt8) | flt (b:UInt64) | ref (a:Addr) | ty (n:String)
 deriving DecidableEq
def RelV:V->Value->Prop
 | .non,u=>u=Value.none
 | .bl b,u=>u=Value.bool b
 | .int i,u=>∃ t,u=Value.int i t
 | .str x,u=>∃ t,u=Value.str x t
 | .byt b,u=>∃ t,u=Value.bytes b t
 | .flt b,u=>∃ t,u=Value.float b t
 | .ref a,u=>u=Value.ref a
 | .ty n,u=>u=Value.type n
abbrev Vals:List V->List Value->Prop:=Paired RelV
theorem Vals.length{xs:List V}{us:List Value}(r:Vals xs us):xs.length=us.length:=Paired.length r
theorem Vals.get:∀ {xs:List V} {us:List Value} {i:Nat} {x:V},Vals xs us->xs[i]?=some x->∃ u,us[i]?=some u/\RelV x u
 | _,_,_,_,.nil,e=>by simp at e
 | _,_,0,_,.cons r _,e=>by simp at e;subst e;exact⟨_,rfl,r⟩
 | _,_,i+1,x,.cons _ t,e=>by
  obtain⟨u,h1,h2⟩:=Vals.get (i:=i) (x:=x) t (by simpa using e);exact⟨u,by simpa using h1,h2⟩
theorem Vals.set{x:V}{u:Value}(r:RelV x u):∀ {xs:List V} {us:List Value} (i:Nat),Vals xs us->Vals (xs.set i x) (us.set i u)
 | _,_,_,.nil=>.nil
 | _,_,0,.cons _ t=>.cons r t
 | _,_,i+1,.cons q t=>.cons q (Vals.set r i t)
theorem Vals.append:∀ {xs ys:List V} {us ws:List Value},Vals xs us->Vals ys ws->Vals (xs++ys) (us++ws)
 | _,_,_,_,.nil,s=>s
 | _,_,_,_,.cons r t,s=>.cons r (Vals.append t s)
theorem Vals.take:∀ {xs:List V} {us:List Value} (n:Nat),Vals xs us->Vals (xs.take n) (us.take n)
 | _,_,0,_=>.nil
 | _,_,_+1,.nil=>.nil
 | _,_,n+1,.cons r t=>.cons r (Vals.take n t)
theorem Vals.drop:∀ {xs:List V} {us:List Value} (n:Nat),Vals xs us->Vals (xs.drop n) (us.drop n)
 | _,_,0,r=>r
 | _,_,_+1,.nil=>.nil
 | _,_,n+1,.cons _ t=>Vals.drop n t
def RelO:Option V->Option Value->Prop
 | some v,some u=>RelV v u
 | none,none=>True
 | _,_=>False
def KV{κ:Type}:List (κ×V)->List (κ×Value)->Prop:=Paired fun(p:κ×V) (q:κ×Value)=>p.1=q.1/\RelV p.2 q.2
def kV:Key->V
 | .inl i=>.int i
 | .inr x=>.str x
inductive HO where
 | lst (xs:List V)
 | tup (xs:List V)
 | dK (kvs:List (Key×V)) | dT (kvs:List (List Key×V))
 | set (S:Int->Bool) (n:Nat)
 | ins (C dx:Addr) (fs:List (Str×V))
 | own (x:Addr)
 | xd (fs:List (Str×V))
 | met (f x:Addr)
 | rng (lo hi:Int)
 | frz (o:Obj) (u:HO)
 | tbl (ps:Array Value)
 | ext (φ:Heap->Prop)
abbrev Hp:=Addr->Option HO
def upd(H:Hp)(a:Addr)(o:HO):Hp:=fun b=>if b=a then some o else H b
theorem zg{H:Hp}{a:Addr}{o:HO}:upd H a o a=some o:=by unfold upd;rw[if_pos rfl]
theorem zM{H:Hp}{a b:Addr}{o:HO}(h:b≠a):upd H a o b=H b:=by unfold upd;rw[if_neg h]
theorem ye{H:Hp}{a b:Addr}{o:HO}(h:H a=some o)(h':H b=none):a≠b:=by
 intro e;subst e;rw[h]at h';cases h'
section
variable(P:Program)(w:World)
def ObjOk(H:Hp)(h:Heap)(a:Addr):HO->Prop
 | .lst xs=>xs.length<=sizeLine/\∃(its:List Value)(n:Nat),Vals xs its/\h.get? a=some { cls:=.type "list",data:=.seq its.toArray n }
 | .tup xs=>xs.length<=sizeLine/\∃ its:List Value,Vals xs its/\IsTup h a its.toArray
 | .dK kvs=>kvs.length<=sizeLine/\(a == sysModules)=false/\∃ vs,KV kvs vs/\h.DictOf (mixKind P w) a vs
 | .dT kvs=>kvs.length<=sizeLine/\(a == sysModules)=false/\∃ xs:List (List Key×Addr×Value),
   Paired (fun(p:List Key×V) (q:List Key×Addr×Value)=>p.1=q.1/\H q.2.1=some (.tup (p.1.map kV))/\RelV p.2 q.2.2) kvs xs /\
   ∃ o es ep,h.get? a=some o/\o.ExactDict/\o.data=.dict es ep/\es.toList=xs.map (entryOfKey (tupleKind (mixKind P w)))/\(xs.map (·.1)).Nodup
 | .set S n=>h.SetOf (intKind P w) a S n
 | .ins C dx fs=>H dx=some (.own a)/\fs.length<=1000/\dx≠a/\h.get? a=some (PySem.W.instObj C dx) /\
   ∃ mA,h.Ns1 dx mA/\(∀ f,RelO (fs.lookup f) (mA f))/\PySem.Within mA (fs.map (·.1))
 | .own _=>∃ o,h.get? a=some o
 | .xd fs=>∃ mA,h.Ns1 a mA/\∀ f,RelO (fs.lookup f) (mA f)
 | .rng lo hi=>∃ t u v,h.get? a=some { cls:=.type "range",data:=.fields #[.int lo t,.int hi u,.int 1 v] }
 | .frz o u=>h.get? a=some o/\ObjOk H h a u
 | .tbl ps=>h.get? a=some { cls:=.none,data:=.fields ps }
 | .met f x=>h.get? a=some (PySem.W.methodObj (.ref f) (.ref x))
 | .ext φ=>φ h/\(∃ o,h.get? a=some o)/\∀ h1 h2:Heap,φ h1->(∀ o,h1.get? a=some o->h2.get? a=some o)->φ h2
def HOk(H:Hp)(h:Heap):Prop:=∀ a o,H a=some o->ObjOk P w H h a o
end
section
variable{P:Program}{w:World}{H H':Hp}{h h':Heap}{a:Addr}{o:HO}
theorem ObjOk.lt(x:ObjOk P w H h a o):a<h.objs.size:=by
 cases o with
 | lst xs=>obtain⟨_,_,_,_,e⟩:=x;exact Heap.lt_size e
 | tup xs=>obtain⟨_,_,_,p⟩:=x;exact p.lt
 | dK kvs=>obtain⟨_,_,_,_,o,_,_,e,_⟩:=x;exact Heap.lt_size e
 | dT kvs=>obtain⟨_,_,_,_,o,_,_,e,_⟩:=x;exact Heap.lt_size e
 | set S n=>obtain⟨o,_,_,_,e,_⟩:=x;exact Heap.lt_size e
 | ins C dx fs=>obtain⟨_,_,_,e,_⟩:=x;exact Heap.lt_size e
 | own y=>obtain⟨_,e⟩:=x;exact Heap.lt_size e
 | xd fs=>obtain⟨_,⟨_,_,_,e,_⟩,_⟩:=x;exact Heap.lt_size e
 | rng lo hi=>obtain⟨_,_,_,e⟩:=x;exact Heap.lt_size e
 | frz ob u=>obtain⟨e,_⟩:=x;exact Heap.lt_size e
 | tbl ps=>exact Heap.lt_size (show h.get? a=some _ from x)
 | met f y=>exact Heap.lt_size (show h.get? a=some _ from x)
 | ext φ=>obtain⟨_,⟨_,e⟩,_⟩:=x;exact Heap.lt_size e
theorem Paired.mapP{α β:Type}{F G:α->β->Prop}:∀ {l₁:List α} {l₂:List β},Paired F l₁ l₂->(∀ a b,F a b->G a b)->Paired G l₁ l₂
 | _,_,.nil,_=>.nil
 | _,_,.cons r t,f=>.cons (f _ _ r) (Paired.mapP t f)
theorem ObjOk.stay(x:ObjOk P w H h a o)(k:∀ b u,(b=a\/H b=some (.own a))->h.get? b=some u->h'.get? b=some u)
  (ho:∀ b,H b=some (.own a)->H' b=some (.own a)) (ht:∀ b xs,H b=some (.tup xs)->H' b=some (.tup xs)):ObjOk P w H' h' a o:=by
 induction o with
 | lst xs=>obtain⟨z,its,n,r,e⟩:=x;exact⟨z,its,n,r,k _ _ (.inl rfl) e⟩
 | tup xs=>obtain⟨z,its,r,ob,e,c⟩:=x;exact⟨z,its,r,ob,k _ _ (.inl rfl) e,c⟩
 | dK kvs=>obtain⟨z,y,vs,r,ob,es,ep,e,c⟩:=x;exact⟨z,y,vs,r,ob,es,ep,k _ _ (.inl rfl) e,c⟩
 | dT kvs =>
  obtain⟨z,y,xs,r,ob,es,ep,e,c⟩:=x;exact⟨z,y,xs,Paired.mapP r fun p q z=>⟨z.1,ht _ _ z.2.1,z.2.2⟩,ob,es,ep,k _ _ (.inl rfl) e,c⟩
 | set S n=>obtain⟨ob,es,ep,t,e,c⟩:=x;exact⟨ob,es,ep,t,k _ _ (.inl rfl) e,c⟩
 | ins C dx fs =>
  obtain⟨d,z,ne,e,mA,⟨od,es,ep,e2,c⟩,r⟩:=x;exact⟨ho _ d,z,ne,k _ _ (.inl rfl) e,mA,⟨od,es,ep,k _ _ (.inr d) e2,c⟩,r⟩
 | own y=>obtain⟨ob,e⟩:=x;exact⟨ob,k _ _ (.inl rfl) e⟩
 | xd fs=>obtain⟨mA,⟨od,es,ep,e,c⟩,r⟩:=x;exact⟨mA,⟨od,es,ep,k _ _ (.inl rfl) e,c⟩,r⟩
 | rng lo hi=>obtain⟨t,u,v,e⟩:=x;exact⟨t,u,v,k _ _ (.inl rfl) e⟩
 | frz ob u ih=>obtain⟨e,q⟩:=x;exact⟨k _ _ (.inl rfl) e,ih q⟩
 | tbl ps =>
  have e:h.get? a=some { cls:=.none,data:=.fields ps }:=x;show h'.get? a=some { cls:=.none,data:=.fields ps };exact k a _ (.inl rfl) e
 | met f y =>
  have e:h.get? a=some (PySem.W.methodObj (.ref f) (.ref y)):=x;show h'.get? a=some (PySem.W.methodObj (.ref f) (.ref y));exact k a _ (.inl rfl) e
 | ext φ=>obtain⟨p,⟨o,e⟩,st⟩:=x;exact⟨st _ _ p fun o q=>k _ _ (.inl rfl) q,⟨o,k _ _ (.inl rfl) e⟩,st⟩
theorem HOk.lt(x:HOk P w H h)(e:H a=some o):a<h.objs.size:=(x a o e).lt
theorem HOk.fresh(x:HOk P w H h)(e:h.objs.size<=a):H a=none:=by
 cases q:H a with
 | none=>rfl
 | some u=>exact absurd (wR (x.lt q) e) (vM _)
theorem HOk.kept(x:HOk P w H h)(k:∀ b u,h.get? b=some u->h'.get? b=some u):HOk P w H h':=fun a o e =>
 (x a o e).stay (fun b u _ q=>k b u q) (fun _ q=>q) fun _ _ q=>q
theorem HOk.laid(x:HOk P w H h)(k:∀ b u,h.get? b=some u->h'.get? b=some u)(hp:h.objs.size<=a)(new:ObjOk P w (upd H a o) h' a o):HOk P w (upd H a o) h':=fun b u e=>by
 have hn:=x.fresh hp
 by_cases hb:b=a
 ·subst hb;rw[zg]at e;cases e;exact new
 ·rw[zM hb]at e;exact(x b u e).stay (fun c v _ q=>k c v q) (fun c q=>by rw[zM (ye q hn)];exact q) fun c xs q=>by rw[zM (ye q hn)];exact q
end
def Rd(H:Hp)(a:Addr)(u:HO):Prop:=H a=some u\/∃ o,H a=some (.frz o u)
theorem Rd.ok{P:Program}{w:World}{H:Hp}{h:Heap}{a:Addr}{u:HO}(r:Rd H a u)(x:HOk P w H h):ObjOk P w H h a u:=by
 rcases r with r|⟨o,r⟩
 ·exact x a u r
 ·obtain⟨_,q⟩:=x a _ r;exact q
def Mut:Option HO->Prop
 | some (.lst _)=>True
 | some (.dK _)=>True
 | some (.dT _)=>True
 | some (.set _ _)=>True
 | some (.ins _ _ _)=>True
 | some (.ext _)=>True
 | _=>False
section
variable{P:Program}{w:World}{H:Hp}{h h':Heap}{x e:Addr}{o':HO}
theorem HOk.write(ok:HOk P w H h)(mu:Mut (H x))(he:e=x\/H e=some (.own x))(k:∀ b u,b≠e->h.get? b=some u->h'.get? b=some u)(heo:∃ u,h'.get? e=some u)
  (new:ObjOk P w (upd H x o') h' x o'):HOk P w (upd H x o') h':=fun b u q=>by
 have nown:∀ c y,H c=some (.own y)->c≠x:=fun c y r z=>by subst z;rw[r]at mu;exact mu
 have ntup:∀ c xs,H c=some (.tup xs)->c≠x:=fun c xs r z=>by subst z;rw[r]at mu;exact mu
 by_cases hb:b=x
 ·subst hb;rw[zg]at q;cases q;exact new
 ·rw[zM hb]at q
  by_cases hbe:b=e
  ·have q':H b=some (.own x):=by
    rcases he with z|z
    ·exact absurd (hbe.trans z) hb
    ·rw[hbe];exact z
   rw[q]at q';cases q';obtain⟨v,hv⟩:=heo;exact⟨v,by rw[hbe];exact hv⟩
  ·refine(ok b u q).stay (fun c v hc r=>k c v ?_ r) (fun c r=>by rw[zM (nown c b r)];exact r) fun c xs r=>by rw[zM (ntup c xs r)];exact r
   rcases hc with rfl|hc
   ·exact hbe
   ·rintro rfl
    rcases he with z|z
    ·exact nown c b hc z
    ·rw[hc]at z;cases z;exact hb rfl
end
structure Un(fs ex:List Addr)(H H':Hp)(h h':Heap):Prop where
 keep:∀ b o,h.get? b=some o->H b=none->b∉fs->b∉ex->h'.get? b=some o
 slot:∀ b o,h.get? b=some o->H b=none->b∈fs->b∉ex->∃ sl,h'.get? b=some { o with slots:=sl }
 free:∀ b o,h.get? b=some o->H b=none->b∉ex->H' b=none
 there:∀ b o,h.get? b=some o->b∉ex->∃ o',h'.get? b=some o'
 tups:∀ b xs,H b=some (.tup xs)->H' b=some (.tup xs)
 frzs:∀ b o u,H b=some (.frz o u)->H' b=some (.frz o u)
 tbls:∀ b ps,H b=some (.tbl ps)->∃ more,H' b=some (.tbl (ps++more))
section
variable{fs fs' ex ex':List Addr}{H H1 H2:Hp}{h h1 h2 h':Heap}{a x e:Addr}{o:HO}
theorem Un.any(u:Un fs ex H H1 h h1){b:Addr}{ob:Obj}(q:h.get? b=some ob)(n:H b=none)(hx:b∉ex):∃ sl,h1.get? b=some { ob with slots:=sl }:=by
 by_cases hb:b∈fs
 ·exact u.slot b ob q n hb hx
 ·exact⟨ob.slots,u.keep b ob q n hb hx⟩
theorem Un.kept(k:∀ b u,h.get? b=some u->h'.get? b=some u):Un fs ex H H h h' :=
 ⟨fun b ob q _ _ _=>k b ob q,fun b ob q _ _ _=>⟨ob.slots,k b ob q⟩,fun _ _ _ n _=>n,fun b ob q _=>⟨ob,k b ob q⟩,fun _ _ q=>q,fun _ _ _ q=>q,fun _ ps q=>⟨#[],by rw[q];simp⟩⟩
theorem Un.refl:Un fs ex H H h h:=Un.kept fun _ _ q=>q
theorem Un.laid(k:∀ b u,h.get? b=some u->h'.get? b=some u)(hp:h.objs.size<=a)(hn:H a=none):Un fs ex H (upd H a o) h h' where
 keep:=fun b u q _ _ _=>k b u q
 slot:=fun b u q _ _ _=>⟨u.slots,k b u q⟩
 free:=fun b u q n _=>by rw[zM (vd (wR (Heap.lt_size q) hp))];exact n
 there:=fun b u q _=>⟨u,k b u q⟩
 tups:=fun b xs q=>by rw[zM (ye q hn)];exact q
 frzs:=fun b u xs q=>by rw[zM (ye q hn)];exact q
 tbls:=fun b ps q=>⟨#[],by rw[zM (ye q hn),q];simp⟩
theorem Un.write(mu:Mut (H x))(he:e=x\/H e=some (.own x))(k:∀ b u,b≠e->h.get? b=some u->h'.get? b=some u)(heo:∃ u,h'.get? e=some u):Un fs ex H (upd H x o) h h':=by
 have hx:∀ b,H b=none->b≠x:=fun b n z=>by subst z;rw[n]at mu;exact mu
 have hb:∀ b,H b=none->b≠e:=fun b n z=>by
  subst z
  rcases he with r|r
  ·exact hx b n r
  ·rw[n]at r;cases r
 have hm:∀ b u,H b=some u->¬ Mut (some u)->b≠x:=fun b u q nm z=>by subst z;rw[q]at mu;exact nm mu
 refine⟨fun b u q n _ _=>k b u (hb b n) q,fun b u q n _ _=>⟨u.slots,k b u (hb b n) q⟩,fun b u q n _=>by rw[zM (hx b n)];exact n,fun b u q _=>?_,
  fun b xs q=>by rw[zM (hm b _ q fun z=>z)];exact q,fun b u xs q=>by rw[zM (hm b _ q fun z=>z)];exact q,fun b ps q=>⟨#[],by rw[zM (hm b _ q fun z=>z),q];simp⟩⟩
 by_cases hbe:b=e
 ·subst hbe;exact heo
 ·exact⟨u,k b u hbe q⟩
end
def trk(h:Heap)(H:Hp):List Addr:=(wV h.objs.size).filter fun a=>(H a).isSome
def hidT(h:Heap)(H:Hp):Heap:=PySem.W.hideAll h (trk h H)
theorem zel(h:Heap)(H:Hp):(hidT h H).objs.size=h.objs.size:=PySem.W.hideAll_size _ _
theorem zgG{h:Heap}{H:Hp}{b:Addr}{o:Obj}(e:h.get? b=some o)(n:H b=none):(hidT h H).get? b=some o :=
 PySem.W.hideAll_get _ e fun hm=>by
  have q:(H b).isSome=true:=(ve.mp hm).2;rw[n]at q;simp at q
theorem zix{h:Heap}{H:Hp}{b:Addr}{o:Obj}(e:(hidT h H).get? b=some o):h.get? b=some o/\H b=none:=by
 have e':h.get? b=some o:=PySem.W.of_hideAll (trk h H) e;refine⟨e',?_⟩;cases q:H b with
 | none=>rfl
 | some x =>
  have hm:b∈trk h H:=ve.mpr ⟨vA.mpr (Heap.lt_size e'),by simp[q]⟩;have z:(hidT h H).get? b=none:=PySem.W.hideAll_none (trk h H) hm;rw[z]at e;cases e
end L2
namespace L2
open PySem PySem.Spec PyProof.Rows
structure Mod(K:PySem.W.Frag)(mg:Str->Option Value)(base:Heap):Prop where
 kin:K.In base
 glob:base.Ns mainGlobals mg
 blt:∃ mb,base.Ns builtinsNs mb/\∀ x:Str,x ≠ "__name__" -> mb x=bootBuiltins x
 nolimit:base.NoLimit
structure Cx where
 prog:Program
 w:World
 K:PySem.W.Frag
 mg:Str->Option Value
 base:Heap
 A:Around
 N:List Str
 s₀:Shared
 H₀:Hp
 env:Env
 outer:List Env
 stack:List Env
 ex:List Addr
 fn:Str->Bool
 calm:Bool
 pn:List (Addr×Obj)
 xe:Value->Shared->Prop
def frs(l:List Env):List Addr:=l.filterMap (·.frame)
abbrev Cx.fs(X:Cx):List Addr:=frs X.outer
def Vis(sc:Scope)(x:Str):Prop:=sc.names.lookup x=some .local\/sc.names.lookup x=some .cell\/sc.names.lookup x=some .free
def Loc(sc:Scope)(x:Str):Prop:=sc.names.lookup x=some .local\/sc.names.lookup x=some .cell
def Look(env:Env)(h:Heap)(m:Str->Option Value)(x:Str)(u:Value):Prop :=
 (env.kindOf x=some .local/\m x=some u)\/((env.kindOf x=some .cell\/env.kindOf x=some .free)/\∃ c,env.cells.lookup x=some c/\h.IsCell c (some u))
structure Cx.Ok(X:Cx):Prop where
 mod:Mod X.K X.mg X.base
 kind:X.env.scope.kind=.function
 glob:X.env.globals=mainGlobals
 blt:X.env.builtins=builtinsNs
 above:X.s₀.heap.objs.size<=X.env.locals
 inj:∀ x y c,X.env.cells.lookup x=some c->X.env.cells.lookup y=some c->x=y
 has:∀ x,(X.env.kindOf x=some .cell\/X.env.kindOf x=some .free)->∃ c,X.env.cells.lookup x=some c
 cab:∀ x c,X.fn x=true->X.env.cells.lookup x=some c->X.s₀.heap.objs.size<=c
 hd:X.calm=true->X.A.handled=none
 frames:X.A.frames=some X.stack
 stk:X.stack=X.outer\/(X.stack=X.env::X.outer/\X.env.frame=some X.env.locals)
 exf:∀ b∈X.ex,b≠X.env.locals/\∀ x c,X.env.cells.lookup x=some c->c≠b
 bs:∀ b o,X.base.get? b=some o->X.s₀.heap.get? b=some o/\X.H₀ b=none
 bsz:X.base.objs.size<=X.s₀.heap.objs.size
 noex:∀ b o,X.base.get? b=some o->b∉X.ex
 exfs:∀ b∈X.ex,b∉X.fs
 funs:X.s₀.heap.FunFrames X.base X.outer
 frf:∀ b∈X.fs,X.H₀ b=none
structure Inv(X:Cx)(pins:List (Addr×Obj))(σ:List (Option V))(H:Hp)(s:Shared):Prop where
 ok:X.Ok
 os:s.os=X.s₀.os
 bare:AllBare s.gens
 base:Un X.fs X.ex X.H₀ H X.s₀.heap s.heap
 loc:∃ m,s.heap.Ns X.env.locals m/\∀(i:Nat)(x:Str)(v:V),X.N[i]?=some x->σ[i]?=some (some v)->Vis X.env.scope x->∃ u,RelV v u/\Look X.env s.heap m x u
 cell:∀ x c,X.env.cells.lookup x=some c->∃ v,s.heap.IsCell c v
 free:H X.env.locals=none
 freeC:∀ x c,X.env.cells.lookup x=some c->H c=none
 pin:∀ p∈X.pn++pins,s.heap.get? p.1=some p.2/\H p.1=none/\p.1≠X.env.locals/\p.1∉X.fs/\∀ v,p.2.data≠.cell v
 hok:HOk X.prog X.w H s.heap
 len:σ.length=X.N.length
section
variable{X:Cx}{pins:List (Addr×Obj)}{σ:List (Option V)}{H H':Hp}{s:Shared}{h':Heap}
theorem Cx.Ok.nofr(ok:X.Ok){b:Addr}{o:Obj}(e:X.base.get? b=some o):b∉X.fs:=fun hb=>by
 have:=(ok.funs.mem hb).1;rw[e]at this;cases this
theorem Inv.bs(I:Inv X pins σ H s):∀ b o,X.base.get? b=some o->s.heap.get? b=some o/\H b=none:=fun b o e =>
 ⟨I.base.keep b o (I.ok.bs b o e).1 (I.ok.bs b o e).2 (I.ok.nofr e) (I.ok.noex b o e),I.base.free b o (I.ok.bs b o e).1 (I.ok.bs b o e).2 (I.ok.noex b o e)⟩
theorem Inv.bk(I:Inv X pins σ H s):∀ b o,X.base.get? b=some o->s.heap.get? b=some o:=fun b o e=>(I.bs b o e).1
theorem Inv.mod(I:Inv X pins σ H s):Mod X.K X.mg X.base:=I.ok.mod
theorem Inv.kIn(I:Inv X pins σ H s):X.K.In s.heap:=I.ok.mod.kin.keeps I.bk
theorem Inv.nolimit(I:Inv X pins σ H s):s.heap.NoLimit:=I.ok.mod.nolimit.keeps I.bk
theorem Inv.lt(I:Inv X pins σ H s):X.env.locals<s.heap.objs.size:=let ⟨_,hn,_⟩:=I.loc;hn.lt
theorem Inv.sz(I:Inv X pins σ H s):X.s₀.heap.objs.size<=s.heap.objs.size:=wN I.ok.above (ux I.lt)
theorem Inv.nofs(I:Inv X pins σ H s){a:Addr}(h:s.heap.objs.size<=a):a∉X.fs:=fun hb=>by
 obtain⟨_,o,ho,_⟩:=I.ok.funs.mem hb;exact absurd (wR (Heap.lt_size ho) (wN I.sz h)) (vM _)
theorem Inv.cne(I:Inv X pins σ H s):∀ x c,X.env.cells.lookup x=some c->c≠X.env.locals:=fun x c e z=>by
 obtain⟨v,o,ho,hd⟩:=I.cell x c e;obtain⟨m,⟨o',es,ep,ho',hd',_⟩,_⟩:=I.loc;rw[z,ho']at ho;cases ho;rw[hd']at hd;cases hd
theorem Inv.funs(I:Inv X pins σ H s):s.heap.FunFrames X.base X.outer:=by
 have all:∀(l:List Env),(∀ b∈frs l,b∈X.fs)->X.s₀.heap.FunFrames X.base l->s.heap.FunFrames X.base l:=by
  intro l
  induction l with
  | nil=>intro _ _;trivial
  | cons env r ih =>
   intro hs hl;obtain⟨hk,⟨L,o,hf,hn,ho,hd⟩,hr⟩:=hl;have hL:L∈X.fs:=hs L (by unfold frs;rw[Go,hf];exact wp);obtain⟨sl,e⟩:=I.base.slot L o ho (I.ok.frf L hL) hL fun z=>I.ok.exfs L z hL
   exact⟨hk,⟨L,_,hf,hn,e,hd⟩,ih (fun b hb=>hs b (by unfold frs;rw[Go,hf];exact wr _ hb)) hr⟩
 exact all X.outer (fun _ hb=>hb) I.ok.funs
theorem Inv.stack(I:Inv X pins σ H s):s.heap.FunFrames X.base X.stack:=by
 rcases I.ok.stk with e|⟨e,hf⟩
 ·rw[e];exact I.funs
 ·rw[e];obtain⟨m,hn,_⟩:=I.loc;refine .cons (by rw[I.ok.kind];decide) hf hn ?_ I.funs;exact Heap.get?_none_of_le (wN I.ok.bsz I.ok.above)
theorem Inv.stkSub(I:Inv X pins σ H s):∀ b∈frs X.stack,b∈X.env.locals::X.fs:=fun b hb=>by
 rcases I.ok.stk with e|⟨e,hf⟩
 ·rw[e]at hb;exact wr _ hb
 ·rw[e]at hb;unfold frs at hb;rw[Go,hf]at hb;exact hb
theorem Inv.stkFree(I:Inv X pins σ H s):∀ b∈frs X.stack,H b=none:=fun b hb=>by
 rcases wF.mp (I.stkSub b hb)with e|hb
 ·rw[e];exact I.free
 ·obtain⟨_,o,ho,_⟩:=I.ok.funs.mem hb;exact I.base.free b o ho (I.ok.frf b hb) fun z=>I.ok.exfs b z hb
theorem Inv.step{g':Array GenState}{t':Nat}{d':Drawn}{ch:List Addr}(I:Inv X pins σ H s)
  (hch:∀ b∈ch,(b∈X.ex\/X.s₀.heap.objs.size<=b)/\b≠X.env.locals/\(∀ x c,X.env.cells.lookup x=some c->c≠b)/\∀ p∈X.pn++pins,p.1≠b)
  (keep:∀ b o,b≠X.env.locals->b∉X.fs->b∉ch->s.heap.get? b=some o->H b=none->h'.get? b=some o)
  (slot:∀ b o,b≠X.env.locals->b∈X.fs->b∉ch->s.heap.get? b=some o->H b=none->∃ sl,h'.get? b=some { o with slots:=sl }) (free:∀ b o,b∉ch->s.heap.get? b=some o->H b=none->H' b=none)
  (there:∀ b o,b∉ch->s.heap.get? b=some o->∃ o',h'.get? b=some o')
  (tups:∀ b xs,H b=some (.tup xs)->H' b=some (.tup xs)) (frzs:∀ b o u,H b=some (.frz o u)->H' b=some (.frz o u)) (tbls:∀ b ps,H b=some (.tbl ps)->∃ more,H' b=some (.tbl (ps++more)))
  (ns:∀ m,s.heap.Ns X.env.locals m->h'.Ns X.env.locals m) (hok:HOk X.prog X.w H' h') (hg:AllBare g') :
  Inv X pins σ H' { s with heap:=h',gens:=g',drawn:=d',toks:=t' }:=by
 have neL:∀ b o,X.s₀.heap.get? b=some o->b≠X.env.locals:=fun b o e=>vd (wR (Heap.lt_size e) I.ok.above)
 have neC:∀ b o,X.s₀.heap.get? b=some o->b∉X.ex->b∉ch:=fun b o e hx hb=>by
  rcases (hch b hb).1 with z|z
  ·exact hx z
  ·exact absurd (wR (Heap.lt_size e) z) (vM _)
 have cellK:∀ x c,X.env.cells.lookup x=some c->∀ v,s.heap.IsCell c v->h'.IsCell c v:=fun x c e v ⟨o,ho,hd⟩=>by
  have nch:c∉ch:=fun z=>(hch c z).2.2.1 x c e rfl
  by_cases hc:c∈X.fs
  ·obtain⟨sl,q⟩:=slot c o (I.cne x c e) hc nch ho (I.freeC x c e);exact⟨_,q,hd⟩
  ·exact⟨o,keep c o (I.cne x c e) hc nch ho (I.freeC x c e),hd⟩
 refine⟨I.ok,I.os,hg,⟨fun b o e n hb hx=>?_,fun b o e n hb hx=>?_,fun b o e n hx=>?_,fun b o e hx=>?_,fun b xs e=>tups b xs (I.base.tups b xs e),fun b o xs e=>frzs b o xs (I.base.frzs b o xs e),fun b ps e=>?_⟩,?_,fun x c e=>?_,?_,fun x c e=>?_,fun p hp=>?_,hok,I.len⟩
 ·exact keep b o (neL b o e) hb (neC b o e hx) (I.base.keep b o e n hb hx) (I.base.free b o e n hx)
 ·obtain⟨sl,e1⟩:=I.base.slot b o e n hb hx;obtain⟨sl',e2⟩:=slot b _ (neL b o e) hb (neC b o e hx) e1 (I.base.free b o e n hx);exact⟨sl',e2⟩
 ·obtain⟨o',e1⟩:=I.base.there b o e hx;exact free b o' (neC b o e hx) e1 (I.base.free b o e n hx)
 ·obtain⟨o',e1⟩:=I.base.there b o e hx;exact there b o' (neC b o e hx) e1
 ·obtain⟨m1,e1⟩:=I.base.tbls b ps e;obtain⟨m2,e2⟩:=tbls b _ e1;exact⟨m1++m2,by rw[e2,Array.append_assoc]⟩
 ·obtain⟨m,hn,hl⟩:=I.loc;refine⟨m,ns m hn,fun i x v e1 e2 e3=>?_⟩;obtain⟨u,r,l⟩:=hl i x v e1 e2 e3;refine⟨u,r,?_⟩
  rcases l with l|⟨k,c,e,z⟩
  ·exact .inl l
  ·exact .inr ⟨k,c,e,cellK x c e _ z⟩
 ·obtain⟨v,z⟩:=I.cell x c e;exact⟨v,cellK x c e v z⟩
 ·obtain⟨m,⟨o,_,_,ho,_⟩,_⟩:=I.loc;exact free _ o (fun z=>(hch _ z).2.1 rfl) ho I.free
 ·obtain⟨v,o,ho,hd⟩:=I.cell x c e;exact free c o (fun z=>(hch c z).2.2.1 x c e rfl) ho (I.freeC x c e)
 ·obtain⟨e,n,ne,nf,d⟩:=I.pin p hp;have nch:p.1∉ch:=fun z=>(hch p.1 z).2.2.2 p hp rfl
  exact⟨keep p.1 p.2 ne nf nch e n,free p.1 p.2 nch e n,ne,nf,d⟩
theorem Inv.un{t':Nat}(I:Inv X pins σ H s)(u:Un X.fs [] H H' s.heap h')(hok:HOk X.prog X.w H' h'):Inv X pins σ H' { s with heap:=h',toks:=t' }:=by
 obtain⟨m,⟨o,es,ep,ho,r⟩,_⟩:=id I.loc;obtain⟨sl,hL⟩:=u.any ho I.free (by simp);exact I.step (g':=s.gens) (d':=s.drawn) (ch:=[]) (fun _ z=>nomatch z) (fun b o _ hb _ e n=>u.keep b o e n hb (by simp)) (fun b o _ hb _ e n=>u.slot b o e n hb (by simp)) (fun b o _ e n=>u.free b o e n (by simp)) (fun b o _ e=>u.there b o e (by simp)) u.tups u.frzs u.tbls (fun m' hm=>by
  obtain⟨o',es',ep',ho',r'⟩:=hm;rw[ho]at ho';cases ho';exact⟨_,es',ep',hL,r'⟩) hok I.bare
theorem Inv.call{g':Array GenState}{t':Nat}{d':Drawn}{ch:List Addr}(I:Inv X pins σ H s)(u:Un (frs X.stack) ch H H' s.heap h')(hok:HOk X.prog X.w H' h')(hg:AllBare g')
  (hch:∀ b∈ch,(b∈X.ex\/X.s₀.heap.objs.size<=b)/\b≠X.env.locals/\(∀ x c,X.env.cells.lookup x=some c->c≠b)/\∀ p∈X.pn++pins,p.1≠b) :
  Inv X pins σ H' { s with heap:=h',gens:=g',drawn:=d',toks:=t' }:=by
 obtain⟨m,⟨o,es,ep,ho,r⟩,_⟩:=id I.loc;obtain⟨sl,hL⟩:=u.any ho I.free fun z=>(hch _ z).2.1 rfl
 exact I.step (ch:=ch) hch (fun b o hL hb hc e n=>u.keep b o e n (fun z=>(wF.mp (I.stkSub b z)).elim hL hb) hc) (fun b o _ _ hc e n=>u.any e n hc) (fun b o hc e n=>u.free b o e n hc) (fun b o hc e=>u.there b o e hc) u.tups u.frzs u.tbls (fun m' hm=>by
  obtain⟨o',es',ep',ho',r'⟩:=hm;rw[ho]at ho';cases ho';exact⟨_,es',ep',hL,r'⟩) hok hg
theorem Inv.turned{t':Nat}{it:Addr}(I:Inv X pins σ H s)(k:∀ b o,b≠it->s.heap.get? b=some o->h'.get? b=some o)(hn:H it=none)(hL:it≠X.env.locals)
  (h1:it∈X.ex\/X.s₀.heap.objs.size<=it) (h2:∀ x c,X.env.cells.lookup x=some c->c≠it) (h3:∀ p∈X.pn++pins,p.1≠it):Inv X pins σ H { s with heap:=h',toks:=t' }:=by
 have nit:∀ b u,H b=some u->b≠it:=fun b u e z=>by rw[z,hn]at e;cases e
 refine I.step (g':=s.gens) (d':=s.drawn) (ch:=[it]) (fun b hb=>?_) (fun b o _ _ hc e _=>k b o (fun z=>hc (by simp[z])) e) (fun b o _ _ hc e _=>⟨o.slots,k b o (fun z=>hc (by simp[z])) e⟩) (fun _ _ _ _ n=>n)
  (fun b o hc e=>⟨o,k b o (fun z=>hc (by simp[z])) e⟩) (fun _ _ e=>e) (fun _ _ _ e=>e) (fun b ps e=>⟨#[],by rw[e];simp⟩) (fun m hm=>?_) (fun b u e=>?_) I.bare
 ·have e:b=it:=by simpa using hb
  subst e;exact⟨h1,hL,h2,h3⟩
 ·obtain⟨o,es,ep,ho,r⟩:=hm;exact⟨o,es,ep,k _ o (Ne.symm hL) ho,r⟩
 ·refine(I.hok b u e).stay (fun c v hc q=>k c v ?_ q) (fun _ q=>q) fun _ _ q=>q
  rcases hc with z|z
  ·rw[z];exact nit b u e
  ·exact nit c _ z
theorem Inv.tok(I:Inv X pins σ H s)(t:Nat):Inv X pins σ H { s with toks:=t }:=I.un (h':=s.heap) (t':=t) Un.refl I.hok
theorem Inv.kept{t':Nat}(I:Inv X pins σ H s)(k:∀ b u,s.heap.get? b=some u->h'.get? b=some u):Inv X pins σ H { s with heap:=h',toks:=t' }:=I.un (Un.kept k) (I.hok.kept k)
theorem Inv.laid{a:Addr}{o:HO}{t':Nat}(I:Inv X pins σ H s)(k:∀ b u,s.heap.get? b=some u->h'.get? b=some u)(hp:s.heap.objs.size<=a)(new:ObjOk X.prog X.w (upd H a o) h' a o) :
  Inv X pins σ (upd H a o) { s with heap:=h',toks:=t' }:=I.un (Un.laid k hp (I.hok.fresh hp)) (I.hok.laid k hp new)
theorem Inv.write{x e:Addr}{o:HO}{t':Nat}(I:Inv X pins σ H s)(mu:Mut (H x))(he:e=x\/H e=some (.own x))(k:∀ b u,b≠e->s.heap.get? b=some u->h'.get? b=some u)(heo:∃ u,h'.get? e=some u)
  (new:ObjOk X.prog X.w (upd H x o) h' x o):Inv X pins σ (upd H x o) { s with heap:=h',toks:=t' }:=I.un (Un.write mu he k heo) (I.hok.write mu he k heo new)
theorem Inv.weak{σ':List (Option V)}(I:Inv X pins σ H s)(hl:σ'.length=σ.length)(w:∀(i:Nat) v,σ'[i]?=some (some v)->σ[i]?=some (some v)):Inv X pins σ' H s :=
 ⟨I.ok,I.os,I.bare,I.base,let ⟨m,hn,hl'⟩:=I.loc;⟨m,hn,fun i x v e1 e2 e3=>hl' i x v e1 (w i v e2) e3⟩,I.cell,I.free,I.freeC,I.pin,I.hok,hl.trans I.len⟩
theorem Inv.pins_of{pins':List (Addr×Obj)}(I:Inv X pins σ H s)(h:∀ p∈pins',s.heap.get? p.1=some p.2/\H p.1=none/\p.1≠X.env.locals/\p.1∉X.fs/\∀ v,p.2.data≠.cell v):Inv X pins' σ H s :=
 ⟨I.ok,I.os,I.bare,I.base,I.loc,I.cell,I.free,I.freeC,fun p hp=>(wq.mp hp).elim (fun z=>I.pin p (wQ _ z)) (h p),I.hok,I.len⟩
theorem zb5{N:List Str}(hN:N.Nodup){i j:Nat}{x:Str}(a:N[i]?=some x)(b:N[j]?=some x):i=j:=by
 obtain⟨h1,e1⟩:=ww.mp a;obtain⟨h2,e2⟩:=ww.mp b;exact(List.getElem_inj hN).mp (e1.trans e2.symm)
theorem zal{M:Model}{A:Around}{E:Value->Shared->Prop}{i:Nat}{x:Str}{v:V}{u:Value}{Q:Unit->Shared->Prop}(I:Inv X pins σ H s)(hN:X.N.Nodup)(hi:X.N[i]?=some x)(hx:Loc X.env.scope x)(r:RelV v u)
  (h:∀ s',Inv X pins (σ.set i (some v)) H s'->(∃ a,Heap.SameBut a s.heap s'.heap/\(a=X.env.locals\/X.env.cells.lookup x=some a))->Q () s') (hf:X.fn x=true\/X.env.scope.names.lookup x=some .local:=by first|exact .inl rfl|exact .inr rfl|assumption):wpAny M A (storeName X.env x u) Q E s:=by
 obtain⟨m,hn,hl⟩:=id I.loc;have hcls:(X.env.scope.kind == .class || (X.env.scope.kind == .module && X.env.locals != X.env.globals))=false:=by rw[I.ok.kind];rfl
 have hiσ:i<σ.length:=by rw[I.len];exact(ww.mp hi).1
 have cne:=I.cne;have tracked:∀ {a:Addr} {h':Heap},(∃ o,s.heap.get? a=some o/\H a=none)->Heap.SameBut a s.heap h'->HOk X.prog X.w H h':=fun {a h'} ha hs b ob e=>by
  obtain⟨_,_,hfree⟩:=ha;refine(I.hok b ob e).stay (fun c w' hc q=>(hs.2 c ?_).trans q) (fun _ q=>q) fun _ _ q=>q
  rintro rfl
  rcases hc with rfl|hc
  ·rw[hfree]at e;cases e
  ·rw[hfree]at hc;cases hc
 rcases hx with hk|hk
 ·refine wpAny_storeName_local hk hn (fun h' hn' hs=>?_) hcls;obtain⟨oL,_,_,hoL,_⟩:=id hn;refine h _ ⟨I.ok,I.os,I.bare,⟨fun b o e n hb hx=>?_,fun b o e n hb hx=>?_,I.base.free,fun b o e hx=>?_,I.base.tups,I.base.frzs,I.base.tbls⟩,⟨_,hn',fun j y v' e1 e2 e3=>?_⟩,fun y c e=>?_,I.free,I.freeC,fun p hp=>?_,tracked ⟨oL,hoL,I.free⟩ hs,by simpa using I.len⟩ ⟨_,hs,.inl rfl⟩
  ·exact(hs.2 b (vd (wR (Heap.lt_size e) I.ok.above))).trans (I.base.keep b o e n hb hx)
  ·obtain⟨sl,e1⟩:=I.base.slot b o e n hb hx;exact⟨sl,(hs.2 b (vd (wR (Heap.lt_size e) I.ok.above))).trans e1⟩
  ·obtain⟨o',e1⟩:=I.base.there b o e hx;exact⟨o',(hs.2 b (vd (wR (Heap.lt_size e) I.ok.above))).trans e1⟩
  ·by_cases hj:j=i
   ·subst hj;rw[hi]at e1;cases e1;rw[uX hiσ]at e2;cases e2;exact⟨u,r,.inl ⟨hk,by simp⟩⟩
   ·rw[Ge (Ne.symm hj)]at e2;obtain⟨u',r',q⟩:=hl j y v' e1 e2 e3;refine⟨u',r',?_⟩
    rcases q with⟨k,e⟩|⟨k,c,e,z⟩
    ·refine .inl ⟨k,?_⟩;have:y≠x:=fun e=>hj (zb5 hN e1 (e ▸ hi))
     simp[this,e]
    ·exact .inr ⟨k,c,e,z.sameBut hs (cne y c e)⟩
  ·obtain⟨w',z⟩:=I.cell y c e;exact⟨w',z.sameBut hs (cne y c e)⟩
  ·obtain⟨e,n,ne,nf,d⟩:=I.pin p hp;exact⟨(hs.2 p.1 ne).trans e,n,ne,nf,d⟩
 ·have hfn:X.fn x=true:=by
   rcases hf with z|z
   ·exact z
   ·rw[z]at hk;cases hk
  obtain⟨c,hc⟩:=I.ok.has x (.inl hk);obtain⟨w',z⟩:=I.cell x c hc;refine wpAny_storeName_cell I.ok.kind hk hc z (fun h' hc' hs=>?_);obtain⟨oc,hoc,hocd⟩:=id z;refine h { s with heap:=h' } ⟨I.ok,I.os,I.bare,⟨fun b o e n hb hx=>?_,fun b o e n hb hx=>?_,I.base.free,fun b o e hx=>?_,I.base.tups,I.base.frzs,I.base.tbls⟩,⟨m,hn.sameBut hs (Ne.symm (cne x c hc)),fun j y v' e1 e2 e3=>?_⟩,fun y c' e=>?_,I.free,I.freeC,fun p hp=>?_,tracked ⟨oc,hoc,I.freeC x c hc⟩ hs,by simpa using I.len⟩ ⟨c,hs,.inr hc⟩
  ·exact(hs.2 b (vd (wR (Heap.lt_size e) (I.ok.cab x c hfn hc)))).trans (I.base.keep b o e n hb hx)
  ·obtain⟨sl,e1⟩:=I.base.slot b o e n hb hx;exact⟨sl,(hs.2 b (vd (wR (Heap.lt_size e) (I.ok.cab x c hfn hc)))).trans e1⟩
  ·obtain⟨o',e1⟩:=I.base.there b o e hx;exact⟨o',(hs.2 b (vd (wR (Heap.lt_size e) (I.ok.cab x c hfn hc)))).trans e1⟩
  ·by_cases hj:j=i
   ·subst hj;rw[hi]at e1;cases e1;rw[uX hiσ]at e2;cases e2;exact⟨u,r,.inr ⟨.inl hk,c,hc,hc'⟩⟩
   ·rw[Ge (Ne.symm hj)]at e2;obtain⟨u',r',q⟩:=hl j y v' e1 e2 e3;refine⟨u',r',?_⟩
    rcases q with q|⟨k,c',e,z'⟩
    ·exact .inl q
    ·refine .inr ⟨k,c',e,z'.sameBut hs ?_⟩
     rintro rfl
     exact hj (zb5 hN e1 (I.ok.inj _ _ _ e hc ▸ hi))
  ·by_cases hcc:c'=c
   ·subst hcc;exact⟨_,hc'⟩
   ·obtain⟨w2,z2⟩:=I.cell y c' e;exact⟨w2,z2.sameBut hs hcc⟩
  ·obtain⟨e,n,ne,nf,d⟩:=I.pin p hp;refine⟨(hs.2 p.1 ?_).trans e,n,ne,nf,d⟩;intro q;rw[q,hoc]at e;have q':oc=p.2:=Option.some.inj e;exact d w' (by rw[← q'];exact hocd)
theorem Zm{M:Model}{A:Around}{E:Value->Shared->Prop}{i:Nat}{x:Str}{v:V}{u:Value}{Q:Unit->Shared->Prop}(I:Inv X pins σ H s)(hN:X.N.Nodup)(hi:X.N[i]?=some x)(hx:Loc X.env.scope x)(r:RelV v u)
  (h:∀ s',Inv X pins (σ.set i (some v)) H s'->Q () s') (hf:X.fn x=true\/X.env.scope.names.lookup x=some .local:=by first|exact .inl rfl|exact .inr rfl|assumption):wpAny M A (storeName X.env x u) Q E s :=
 zal I hN hi hx r (fun s' I' _=>h s' I') hf
theorem Inv.call'{s':Shared}{ch:List Addr}(I:Inv X pins σ H s)(ho:s'.os=s.os)(u:Un (frs X.stack) ch H H' s.heap s'.heap)(hok:HOk X.prog X.w H' s'.heap)(hg:AllBare s'.gens)
  (hch:∀ b∈ch,(b∈X.ex\/X.s₀.heap.objs.size<=b)/\b≠X.env.locals/\(∀ x c,X.env.cells.lookup x=some c->c≠b)/\∀ p∈X.pn++pins,p.1≠b):Inv X pins σ H' s':=by
 obtain⟨h',g',d',t',o'⟩:=s';have e:o'=s.os:=ho;subst e;exact I.call (g':=g') (t':=t') (d':=d') u hok hg hch
end
abbrev XK:=Value->Option Addr->Hp->Prop
abbrev St:=List (Option V)
abbrev VK:=V->Hp->Prop
abbrev TE:=St->Hp->VK->Prop
abbrev TT:=St->Hp->(Bool->Hp->Prop)->Prop
abbrev TA:=St->Hp->(List V->Hp->Prop)->Prop
structure Ends where
 nx:St->Hp->Prop
 rt:VK
 bk:St->Hp->Prop:=fun _ _=>False
 ct:St->Hp->Prop:=fun _ _=>False
abbrev TS:=Ends->St->Hp->Prop
def EP(X:Cx)(pins:List (Addr×Obj))(σ:St)(Q:VK)(u:Value)(s':Shared):Prop:=∃ v H',Inv X pins σ H' s'/\RelV v u/\Q v H'
def TP(X:Cx)(pins:List (Addr×Obj))(σ:St)(Q:Bool->Hp->Prop)(b:Bool)(s':Shared):Prop:=∃ H',Inv X pins σ H' s'/\Q b H'
def AP(X:Cx)(pins:List (Addr×Obj))(σ:St)(Q:List V->Hp->Prop)(us:List Value)(s':Shared):Prop:=∃ vs H',Inv X pins σ H' s'/\Vals vs us/\Q vs H'
def SP(X:Cx)(pins:List (Addr×Obj))(D:Ends)(f:Flow)(s':Shared):Prop :=
 match f with
 | .next=>∃ σ' H',Inv X pins σ' H' s'/\D.nx σ' H'
 | .brk=>∃ σ' H',Inv X pins σ' H' s'/\D.bk σ' H'
 | .cont=>∃ σ' H',Inv X pins σ' H' s'/\D.ct σ' H'
 | .ret u=>∃ v σ' H',Inv X pins σ' H' s'/\RelV v u/\D.rt v H'
def PE(X:Cx)(e:Expr)(t:TE):Prop :=
 ∀(pins:List (Addr×Obj))(s:Shared)(σ:St)(H:Hp)(Q:VK),Inv X pins σ H s->t σ H Q->wpAny (model X.prog X.w) X.A (eval e X.env) (EP X pins σ Q) X.xe s
def PT(X:Cx)(e:Expr)(t:TT):Prop :=
 ∀(pins:List (Addr×Obj))(s:Shared)(σ:St)(H:Hp)(Q:Bool->Hp->Prop),Inv X pins σ H s->t σ H Q->wpAny (model X.prog X.w) X.A (isTrue e X.env (eval e X.env)) (TP X pins σ Q) X.xe s
def PW(X:Cx)(e:Expr)(t:TT):Prop :=
 ∀(whole:Sem Value)(pins:List (Addr×Obj))(s:Shared)(σ:St)(H:Hp)(Q:Bool->Hp->Prop),Inv X pins σ H s->t σ H Q->wpAny (model X.prog X.w) X.A (isTrue e X.env whole) (TP X pins σ Q) X.xe s
theorem PW.pt{X:Cx}{e:Expr}{t:TT}(h:PW X e t):PT X e t:=h _
def PA(X:Cx)(es:List Expr)(t:TA):Prop :=
 ∀(pos:Pos)(pins:List (Addr×Obj))(s:Shared)(σ:St)(H:Hp)(Q:List V->Hp->Prop),Inv X pins σ H s->t σ H Q->wpAny (model X.prog X.w) X.A (spliced (backTo pos (starEach es X.env))) (AP X pins σ Q) X.xe s
def PS(X:Cx)(st:Stmt)(t:TS):Prop :=
 ∀(pins:List (Addr×Obj))(s:Shared)(σ:St)(H:Hp)(D:Ends),Inv X pins σ H s->t D σ H->wpAny (model X.prog X.w) X.A (exec st X.env) (SP X pins D) X.xe s
def PSs(X:Cx)(st:List Stmt)(t:TS):Prop :=
 ∀(pins:List (Addr×Obj))(s:Shared)(σ:St)(H:Hp)(D:Ends),Inv X pins σ H s->t D σ H->wpAny (model X.prog X.w) X.A (execs st X.env) (SP X pins D) X.xe s
theorem thn{α:Type}{t:Sem α}{Q Q':α->Shared->Prop}{M:Model}{A:Around}{E:Value->Shared->Prop}{s:Shared}(h:wpAny M A t Q E s)(hQ:∀ a s,Q a s->Q' a s):wpAny M A t Q' E s:=wpAny_mono h hQ fun _ _ x=>x
end L2
namespace L2
open PySem PySem.Spec PyProof.Rows
section
variable{X:Cx}
inductive zht(i:Nat)(σ:St)(H:Hp)(Q:VK):Prop where
 | mk (v:V) (h0_:σ[i]?=some (some v)) (h1_:Q v H):zht i σ H Q
def tVar(i:Nat):TE:=fun σ H Q=>zht i σ H Q
def tC(v:V):TE:=fun _ H Q=>Q v H
theorem zjb {i:Nat} {x:Str} {pos:Pos} (hN:X.N[i]?=some x) (hv:Vis X.env.scope x) (hd:(x ==("__debug__" : Str))=false:=by decide) (hcd:(x ==("__classdict__" : Str))=false:=by decide):PE X (.Name x pos) (tVar i):=by
 intro pins s σ H Q I h;obtain⟨v,e,h⟩:=h;obtain⟨m,hn,hl⟩:=I.loc;obtain⟨u,r,l⟩:=hl i x v hN e hv;have fin:EP X pins σ Q u s:=⟨v,H,I,r,h⟩
 rcases l with⟨hk,hm⟩|⟨hk,c,hc,hcell⟩
 ·exact wpAny_Name (wpAny_loadName_local I.ok.kind hk hn hm fin) hd
 ·rcases hk with hk|hk
  ·exact wpAny_Name (wpAny_loadName_cell I.ok.kind hk hc hcell fin) hd
  ·exact wpAny_Name (wpAny_loadName_free I.ok.kind hk hc hcell fin hcd) hd
theorem zf{i j pos}:PE X (.Constant (.int i) j pos) (tC (.int i)):=fun _ _ _ H _ I h=>wpAny_Constant_int ⟨.int i,H,I.tok _,⟨_,rfl⟩,h⟩
theorem zjU{b j pos}:PE X (.Constant (.bool b) j pos) (tC (.bl b)):=fun _ _ _ H _ I h=>Constant_bool ⟨.bl b,H,I,rfl,h⟩
theorem zhs{x j pos}:PE X (.Constant (.str x) j pos) (tC (.str x)):=fun _ _ _ H _ I h=>Calls.Constant_str ⟨.str x,H,I.tok _,⟨_,rfl⟩,h⟩
def Gl(X:Cx)(x:Str):Prop:=X.env.kindOf x=some .globalImplicit
theorem zfe{E:Value->Shared->Prop}{pins:List (Addr×Obj)}{s:Shared}{σ:St}{H:Hp}{x:Str}{u:Value}{pos:Pos}{Q:Value->Shared->Prop}(I:Inv X pins σ H s)(hg:Gl X x)(hm:X.mg x=some u)(h:Q u s)
  (hd:(x ==("__debug__" : Str))=false:=by decide):wpAny (model X.prog X.w) X.A (eval (.Name x pos) X.env) Q E s :=
 Calls.Name_function_global I.ok.kind hg (Calls.loadGlobal_global (by rw[I.ok.glob];exact I.mod.glob.keeps I.bk) hm h) hd
theorem zam{E:Value->Shared->Prop}{pins:List (Addr×Obj)}{s:Shared}{σ:St}{H:Hp}{x:Str}{u:Value}{pos:Pos}{Q:Value->Shared->Prop}(I:Inv X pins σ H s)(hg:Gl X x)(hm:X.mg x=none)(hv:bootBuiltins x=some u)(h:Q u s)
  (hn:x ≠ "__name__" := by decide) (hd:(x ==("__debug__" : Str))=false:=by decide):wpAny (model X.prog X.w) X.A (eval (.Name x pos) X.env) Q E s:=by
 obtain⟨mb,h1,h2⟩:=I.mod.blt;exact Calls.Name_function_global I.ok.kind hg (Calls.loadGlobal_builtin (by rw[I.ok.glob];exact I.mod.glob.keeps I.bk) hm (by rw[I.ok.blt];exact h1.keeps I.bk) ((h2 x hn).trans hv) h) hd
theorem zec {x:Str} {v:V} {u:Value} {pos:Pos} (hg:Gl X x) (hm:X.mg x=some u) (r:RelV v u) (hd:(x ==("__debug__" : Str))=false:=by decide):PE X (.Name x pos) (tC v) :=
 fun _ _ _ H _ I h=>zfe I hg hm ⟨v,H,I,r,h⟩ hd
variable{a b:Expr}{ta tb:TE}{pos:Pos}
inductive I_tB(x:V)(H1:Hp)(Q:Bool->Hp->Prop):Prop where
 | mk (c:Bool) (h0_:x=.bl c) (h1_:Q c H1):I_tB x H1 Q
def tB(t:TE):TT:=fun σ H Q=>t σ H fun x H1=>I_tB x H1 Q
theorem zaO{e:Expr}{t:TE}(h:PE X e t)(he:∀ whole,isTrue e X.env whole =(do let v ← whole;standAt e.pos;holding [v] (truthy v)):=by intro _;rfl):PT X e (tB t):=by
 intro pins s σ H Q I hw;refine isTrue_plain (thn (h pins s σ H _ I hw) fun v s1 ⟨x,H1,I1,r1,q1⟩=>?_) (he _);obtain⟨d,rfl,q⟩:=q1;cases r1;exact wpAny_truthy_bool ⟨H1,I1,q⟩
variable{tA tB':TT}{rest:List Expr}
def tAnd(t u:TT):TT:=fun σ H Q=>t σ H fun c H1=>if c=true then u σ H1 Q else Q false H1
def tNot(t:TT):TT:=fun σ H Q=>t σ H fun c H1=>Q (!c) H1
theorem pw_and1(ha:PT X a tA):PW X (.BoolOp .And [a] pos) tA:=by
 intro wh pins s σ H Q I h;refine isTrue_and (thn (ha pins s σ H Q I h) fun c s1 e=>?_);cases c with
 | true=>exact isTrue_and_nil e
 | false=>exact e
theorem pw_and(ha:PT X a tA)(hb:PW X (.BoolOp .And (b::rest) pos) tB'):PW X (.BoolOp .And (a::b::rest) pos) (tAnd tA tB'):=by
 intro wh pins s σ H Q I h;refine isTrue_and (thn (ha pins s σ H _ I h) fun c s1 ⟨H1,I1,q1⟩=>?_);cases c with
 | true=>exact hb wh pins s1 σ H1 Q I1 q1
 | false=>exact⟨H1,I1,q1⟩
theorem zha(ha:PT X a tA):PT X (.UnaryOp .Not a pos) (tNot tA):=by
 intro pins s σ H Q I h;exact isTrue_not (ha pins s σ H (fun c H1=>Q (!c) H1) I h)
def tOrV(ta tb:TE):TE:=fun σ H Q=>ta σ H fun x H1=>∃ c,x=.bl c/\if c=true then Q (.bl true) H1 else tb σ H1 Q
theorem zho{op}{t:TE}(h:PE X a t):PE X (.BoolOp op [a] pos) t:=fun pins s σ H Q I hw=>BoolOp_one (h pins s σ H Q I hw)
theorem zjt(ha:PE X a ta)(hb:PE X (.BoolOp .Or (b::rest) pos) tb):PE X (.BoolOp .Or (a::b::rest) pos) (tOrV ta tb):=by
 intro pins s σ H Q I h;refine BoolOp_or (thn (ha pins s σ H _ I h) fun v s1 ⟨x,H1,I1,r1,q1⟩=>?_);obtain⟨c,rfl,q1⟩:=q1;cases r1;refine wpAny_truthy_bool ?_;cases c with
 | false=>exact hb pins s1 σ H1 Q I1 q1
 | true=>exact⟨.bl true,H1,I1,rfl,q1⟩
def tIf(t:TT)(ta tb:TE):TE:=fun σ H Q=>t σ H fun c H1=>if c=true then ta σ H1 Q else tb σ H1 Q
theorem zgi{c:Expr}(hc:PT X c tA)(ha:PE X a ta)(hb:PE X b tb):PE X (.IfExp c a b pos) (tIf tA ta tb):=by
 intro pins s σ H Q I h;refine wpAny_IfExp (thn (hc pins s σ H _ I h) fun d s1 ⟨H1,I1,q1⟩=>?_);cases d with
 | true=>exact ha pins s1 σ H1 Q I1 q1
 | false=>exact hb pins s1 σ H1 Q I1 q1
end
end L2
namespace L2
open PySem PySem.Spec PyProof.Rows
def SqL(K:PySem.W.Frag)(H:Hp)(a:Addr)(xs:List V):Prop :=
 Rd H a (.lst xs) \/
  ∃(o:Obj)(its:Array Value)(n:Nat),K.lookup a=some o/\o.cls=.type "list" /\ o.dict=none/\o.data=.seq its n/\its.size<=sizeLine/\Vals xs its.toList
def SqT(K:PySem.W.Frag)(H:Hp)(a:Addr)(xs:List V):Prop :=
 Rd H a (.tup xs) \/
  ∃(o:Obj)(its:Array Value)(n:Nat),K.lookup a=some o/\o.cls=.type "tuple" /\ o.data=.seq its n/\its.size<=sizeLine/\Vals xs its.toList
def absV:Value->Option V
 | .none=>some .non
 | .bool b=>some (.bl b)
 | .int i _=>some (.int i)
 | .str x _=>some (.str x)
 | .bytes b _=>some (.byt b)
 | .float b _=>some (.flt b)
 | .ref a=>some (.ref a)
 | .type n=>some (.ty n)
 | _=>none
theorem RelV.abs{x:V}{u:Value}(r:RelV x u):absV u=some x:=by
 cases x with
 | non=>cases r;rfl
 | bl _=>cases r;rfl
 | int _=>obtain⟨t,rfl⟩:=r;rfl
 | str _=>obtain⟨t,rfl⟩:=r;rfl
 | byt _=>obtain⟨t,rfl⟩:=r;rfl
 | flt _=>obtain⟨t,rfl⟩:=r;rfl
 | ref _=>cases r;rfl
 | ty _=>cases r;rfl
theorem RelV.inj{x y:V}{u:Value}(r:RelV x u)(q:RelV y u):x=y:=Option.some.inj (r.abs.symm.trans q.abs)
theorem Vals.inj:∀ {xs ys:List V} {us:List Value},Vals xs us->Vals ys us->xs=ys
 | _,_,_,.nil,.nil=>rfl
 | _,_,_,.cons r t,.cons r' t'=>by rw[r.inj r',Vals.inj t t']
section
variable{X:Cx}{pins:List (Addr×Obj)}{σ:St}{H:Hp}{s:Shared}{a:Addr}{xs ys:List V}
theorem SqL.of{K:PySem.W.Frag}(h:H a=some (.lst xs)):SqL K H a xs:=.inl (.inl h)
theorem SqT.of{K:PySem.W.Frag}(h:H a=some (.tup xs)):SqT K H a xs:=.inl (.inl h)
theorem Inv.list(I:Inv X pins σ H s)(h:SqL X.K H a xs):∃ its:List Value,Vals xs its/\PlainL s.heap a its.toArray/\xs.length<=sizeLine:=by
 rcases h with h|⟨o,its,n,hk,hc,hd,hs,hz,r⟩
 ·obtain⟨z,its,n,r,e⟩:=h.ok I.hok;exact⟨its,r,⟨_,n,e,rfl,rfl,rfl⟩,z⟩
 ·refine⟨its.toList,r,⟨o,n,I.kIn a o hk,hc,hd,by simpa using hs⟩,?_⟩;have e:=r.length;simp only[Array.length_toList]at e;omega
theorem Inv.tuple(I:Inv X pins σ H s)(h:SqT X.K H a xs):∃ its:List Value,Vals xs its/\IsTup s.heap a its.toArray/\xs.length<=sizeLine:=by
 rcases h with h|⟨o,its,n,hk,hc,hs,hz,r⟩
 ·obtain⟨z,its,r,p⟩:=h.ok I.hok;exact⟨its,r,p,z⟩
 ·refine⟨its.toList,r,⟨o,I.kIn a o hk,hc,n,by simpa using hs⟩,?_⟩;have e:=r.length;simp only[Array.length_toList]at e;omega
theorem Inv.list_inj(I:Inv X pins σ H s)(h:SqL X.K H a xs)(h':SqL X.K H a ys):xs=ys:=by
 obtain⟨its,r,⟨o,n,e,_,_,d⟩,_⟩:=I.list h;obtain⟨its',r',⟨o',n',e',_,_,d'⟩,_⟩:=I.list h';rw[e]at e';cases e';rw[d]at d'
 injection d' with d1 _
 have:its=its':=by simpa using congrArg Array.toList d1
 subst this;exact r.inj r'
end
abbrev Cx.wish(X:Cx)(E:Value->Shared->Prop):Cx:={ X with xe:=E }
abbrev Cx.nox(X:Cx):Cx:=X.wish fun _ _=>False
theorem Cx.Ok.wish{X:Cx}(ok:X.Ok)(E:Value->Shared->Prop):(X.wish E).Ok :=
 ⟨ok.mod,ok.kind,ok.glob,ok.blt,ok.above,ok.inj,ok.has,ok.cab,ok.hd,ok.frames,ok.stk,ok.exf,ok.bs,ok.bsz,ok.noex,ok.exfs,ok.funs,ok.frf⟩
theorem Cx.Ok.unwish{X:Cx}{E:Value->Shared->Prop}(ok:(X.wish E).Ok):X.Ok :=
 ⟨ok.mod,ok.kind,ok.glob,ok.blt,ok.above,ok.inj,ok.has,ok.cab,ok.hd,ok.frames,ok.stk,ok.exf,ok.bs,ok.bsz,ok.noex,ok.exfs,ok.funs,ok.frf⟩
section
variable{X:Cx}{pins:List (Addr×Obj)}{σ:St}{H:Hp}{s:Shared}{E:Value->Shared->Prop}
theorem Inv.wish(I:Inv X pins σ H s)(E:Value->Shared->Prop):Inv (X.wish E) pins σ H s:=⟨I.ok.wish E,I.os,I.bare,I.base,I.loc,I.cell,I.free,I.freeC,I.pin,I.hok,I.len⟩
theorem Inv.unwish(I:Inv (X.wish E) pins σ H s):Inv X pins σ H s:=⟨I.ok.unwish,I.os,I.bare,I.base,I.loc,I.cell,I.free,I.freeC,I.pin,I.hok,I.len⟩
theorem SP.unwish{D:Ends}{f:Flow}{s':Shared}(h:SP (X.wish E) pins D f s'):SP X pins D f s':=by
 cases f with
 | next=>obtain⟨σ',H',I,q⟩:=h;exact⟨σ',H',I.unwish,q⟩
 | brk=>obtain⟨σ',H',I,q⟩:=h;exact⟨σ',H',I.unwish,q⟩
 | cont=>obtain⟨σ',H',I,q⟩:=h;exact⟨σ',H',I.unwish,q⟩
 | ret u=>obtain⟨v,σ',H',I,r,q⟩:=h;exact⟨v,σ',H',I.unwish,r,q⟩
theorem PSs.nox{st:List Stmt}{t:TS}(h:PSs X.nox st t):PSs X st t:=fun pins s σ H D I hw =>
 wpAny_mono (h pins s σ H D (I.wish _) hw) (fun _ _ q=>q.unwish) fun _ _ z=>False.elim z
end
section
variable{X:Cx}{st:Stmt}{rest:List Stmt}{t u:TS}{e:Expr}{te:TE}{pos:Pos}
def tNext:TS:=fun D σ H=>D.nx σ H
def tSeq(t u:TS):TS:=fun D σ H=>t { D with nx:=u D } σ H
theorem zQ:PSs X [] tNext:=fun _ _ σ H _ I h=>wpAny_execs_nil ⟨σ,H,I,h⟩
theorem zc(h1:PS X st t)(h2:PSs X rest u):PSs X (st::rest) (tSeq t u):=by
 intro pins s σ H D I h;refine wpAny_execs_cons (thn (h1 pins s σ H { D with nx:=u D } I h) fun f s1 q=>?_);cases f with
 | next =>
  obtain⟨σ',H',I',q⟩:=q;exact h2 pins s1 σ' H' D I' q
 | ret v=>exact q
 | brk=>exact q
 | cont=>exact q
theorem zi(h1:PS X st t):PSs X [st] t:=by
 intro pins s σ H D I h;refine wpAny_execs_cons (thn (h1 pins s σ H D I h) fun f s1 q=>?_);cases f with
 | next=>exact wpAny_execs_nil q
 | ret v=>exact q
 | brk=>exact q
 | cont=>exact q
theorem Inv.quiet{pins:List (Addr×Obj)}{σ:St}{H:Hp}{s:Shared}(I:Inv X pins σ H s):interactive X.env=false:=by simp[interactive,I.ok.kind]
def tDrop(te:TE):TS:=fun D σ H=>te σ H fun _ H1=>D.nx σ H1
theorem yU(he:PE X e te)(hs:swapsWith e none pos.line X.env=pure false:=by rfl):PS X (.Expr e pos) (tDrop te):=by
 intro pins s σ H D I h;exact wpAny_Expr_any (thn (he pins s σ H _ I h) fun v s1 ⟨x,H1,I1,r1,q1⟩=>⟨σ,H1,I1,q1⟩) I.quiet hs
def tRet(te:TE):TS:=fun D σ H=>te σ H D.rt
theorem zq(he:PE X e te):PS X (.Return (some e) pos) (tRet te):=by
 intro pins s σ H D I h;exact wpAny_Return_some (thn (he pins s σ H _ I h) fun v s1 ⟨x,H1,I1,r1,q1⟩=>⟨x,σ,H1,I1,r1,q1⟩)
def tIfS(c:TT)(t u:TS):TS:=fun D σ H=>c σ H fun b H1=>if b=true then t D σ H1 else u D σ H1
theorem yz{c:Expr}{a b:List Stmt}{tc:TT}(hc:PT X c tc)(ha:PSs X a t)(hb:PSs X b u):PS X (.If c a b pos) (tIfS tc t u):=by
 intro pins s σ H D I h;refine wpAny_If (thn (hc pins s σ H _ I h) fun d s1 ⟨H1,I1,q1⟩=>?_);cases d with
 | true=>exact ha pins s1 σ H1 D I1 q1
 | false=>exact hb pins s1 σ H1 D I1 q1
def tNever:TS:=fun _ _ _=>False
theorem Yt:PS X st tNever:=fun _ _ _ _ _ _ h=>h.elim
end
abbrev TG:=V->St->Hp->(St->Hp->Prop)->Prop
abbrev TGs:=List V->St->Hp->(St->Hp->Prop)->Prop
def PG(X:Cx)(target:Expr)(t:TG):Prop :=
 ∀(pins:List (Addr×Obj))(s:Shared)(σ:St)(H:Hp)(v:V)(u:Value)(Q:St->Hp->Prop),Inv X pins σ H s->RelV v u->t v σ H Q ->
  wpAny (model X.prog X.w) X.A (assign target X.env u) (fun _ s'=>∃ σ' H',Inv X pins σ' H' s'/\Q σ' H') X.xe s
def PGs(X:Cx)(ts:List Expr)(t:TGs):Prop :=
 ∀(pins:List (Addr×Obj))(s:Shared)(σ:St)(H:Hp)(vs:List V)(us:List Value)(Q:St->Hp->Prop),Inv X pins σ H s->Vals vs us->t vs σ H Q ->
  wpAny (model X.prog X.w) X.A (assignInOrder ((assignEach ts X.env).map (·.2)) us) (fun _ s'=>∃ σ' H',Inv X pins σ' H' s'/\Q σ' H') X.xe s
abbrev TSet:=V->V->V->Hp->(Hp->Prop)->Prop
def PSet(X:Cx)(t:TSet):Prop :=
 ∀(pins:List (Addr×Obj))(s:Shared)(σ:St)(H:Hp)(o i v:V)(ov iv u:Value)(Q:Hp->Prop),Inv X pins σ H s->RelV o ov->RelV i iv->RelV v u->t o i v H Q ->
  wpAny (model X.prog X.w) X.A (setItem ov iv u) (fun _ s'=>∃ H',Inv X pins σ H' s'/\Q H') X.xe s
abbrev TIp:=V->V->Hp->VK->Prop
def PIp(X:Cx)(op:Operator)(t:TIp):Prop :=
 ∀(pins:List (Addr×Obj))(s:Shared)(σ:St)(H:Hp)(x y:V)(v u:Value)(Q:VK),Inv X pins σ H s->RelV x v->RelV y u->t x y H Q ->
  wpAny (model X.prog X.w) X.A (inplaceOp op v u) (EP X pins σ Q) X.xe s
section
variable{X:Cx}{pos:Pos}
def gName(i:Nat):TG:=fun v σ H Q=>Q (σ.set i (some v)) H
theorem zC{i:Nat}{x:Str}(hN:X.N.Nodup)(hi:X.N[i]?=some x)(hx:Loc X.env.scope x)(hf:X.fn x=true\/X.env.scope.names.lookup x=some .local:=by first|exact .inl rfl|exact .inr rfl|assumption):PG X (.Name x pos) (gName i):=by
 intro pins s σ H v u Q I r h;exact wpAny_assign_Name (Zm I hN hi hx r (fun s' I'=>⟨_,H,I',h⟩) hf)
def gNil:TGs:=fun vs σ H Q=>vs=[]/\Q σ H
inductive zfx(t:TG)(u:TGs)(vs:List V)(σ:St)(H:Hp)(Q:St->Hp->Prop):Prop where
 | mk (v:V) (r:List V) (h0_:vs=v::r) (h1_:t v σ H fun σ' H'=>u r σ' H' Q):zfx t u vs σ H Q
def gCons(t:TG)(u:TGs):TGs:=fun vs σ H Q=>zfx t u vs σ H Q
theorem yW:PGs X [] gNil:=by
 intro pins s σ H vs us Q I r h;obtain⟨e,h⟩:=h;subst e;cases r;exact assignInOrder_nil ⟨σ,H,I,h⟩
theorem zP{e:Expr}{es:List Expr}{t:TG}{u:TGs}(h1:PG X e t)(h2:PGs X es u)
  (hs:(assignEach (e::es) X.env).map (·.2)=assign e X.env ::(assignEach es X.env).map (·.2):=by rfl):PGs X (e::es) (gCons t u):=by
 intro pins s σ H vs us Q I r h;obtain⟨v,vr,e1,h⟩:=h;subst e1;cases r with
 | cons r rr =>
  rw[hs];refine assignInOrder_cons (thn (h1 pins s σ H _ _ _ I r h) fun _ s1 ⟨σ1,H1,I1,q1⟩=>?_);exact h2 pins s1 σ1 H1 _ _ Q I1 rr q1
inductive zhm(K:PySem.W.Frag)(n:Nat)(t:TGs)(v:V)(σ:St)(H:Hp)(Q:St->Hp->Prop):Prop where
 | mk (a:Addr) (xs:List V) (h0_:v=.ref a) (h1_:SqT K H a xs) (h2_:xs.length=n) (h3_:t xs σ H Q):zhm K n t v σ H Q
def gTup(K:PySem.W.Frag)(n:Nat)(t:TGs):TG:=fun v σ H Q=>zhm K n t v σ H Q
theorem zjc{es:List Expr}{k:Nat}{t:TGs}{n:Nat}(hc:X.calm=true)(h:PGs X es t)
  (hn:(assignEach es X.env).length=n:=by rfl) (hst:(assignEach es X.env).findIdx? (·.1)=none:=by rfl):PG X (.Tuple es k pos) (gTup X.K n t):=by
 intro pins s σ H v u Q I r hw;obtain⟨a,xs,e1,hq,hl,hw⟩:=hw;subst e1;cases r;obtain⟨its,rv,ht,hz⟩:=I.tuple hq;refine assign_Tuple_tuple (I.ok.hd hc) ht (by simp[hn,← hl,rv.length]) hst fun h' hx=>?_
 have I1:Inv X pins σ H { s with heap:=h' }:=I.kept (t':=s.toks) fun b o e=>hx b o (vd (Heap.lt_size e)) e
 exact h pins _ σ H xs _ Q I1 (by simpa using rv) hw
def gSub(to ti:TE)(t:TSet):TG:=fun v σ H Q=>to σ H fun o H1=>ti σ H1 fun i H2=>t o i v H2 fun H3=>Q σ H3
theorem Xm{o i:Expr}{to ti:TE}{t:TSet}(ho:PE X o to)(hi:PE X i ti)(hs:PSet X t)
  (ha:∀ v,assign (.Subscript o i pos) X.env v =(do
   let ov ← holding [v] (eval o X.env)
   let iv ← holding [v,ov] (eval i X.env)
   standAt pos
   holding [v,ov,iv] (setItem ov iv v)
   release [v,ov,iv] []):=by intro _;rfl):PG X (.Subscript o i pos) (gSub to ti t):=by
 intro pins s σ H v u Q I r h;rw[ha];refine wpAny_bind (wpAny_holding (thn (ho pins s σ H _ I h) fun ov s1 ⟨x,H1,I1,r1,q1⟩=>?_));refine wpAny_bind (wpAny_holding (thn (hi pins s1 σ H1 _ I1 q1) fun iv s2 ⟨y,H2,I2,r2,q2⟩=>?_));refine wpAny_bind (wpAny_standAt (wpAny_bind (wpAny_holding (thn (hs pins s2 σ H2 x y v ov iv u _ I2 r1 r2 r q2) fun _ s3 ⟨H3,I3,q3⟩=>?_))));exact wpAny_release ⟨σ,H3,I3,q3⟩
def tAsg(te:TE)(g:TG):TS:=fun D σ H=>te σ H fun x H1=>g x σ H1 D.nx
theorem qg{tg e:Expr}{te:TE}{g:TG}(he:PE X e te)(hg:PG X tg g)(hs:swapsWithSole [tg] e pos.line X.env=pure false:=by rfl)(hw:swappedStores [tg] e X.env=pure none:=by rfl)
  (h1:(assignEach [tg] X.env).map (·.2)=[assign tg X.env]:=by rfl):PS X (.Assign [tg] e pos) (tAsg te g):=by
 intro pins s σ H D I h;refine wpAny_Assign_stores (thn (he pins s σ H _ I h) fun v s1 ⟨x,H1,I1,r1,q1⟩=>?_) hs hw;rw[h1];exact thn (hg pins s1 σ H1 x v _ I1 r1 q1) fun _ s2 q=>q
theorem zk{i:Nat}{x:Str}{e:Expr}{te:TE}{pos':Pos}(hN:X.N.Nodup)(hi:X.N[i]?=some x)(hx:Loc X.env.scope x)(he:PE X e te)(hs:swapsWith e (some (.Name x pos')) pos.line X.env=pure false:=by rfl)(hf:X.fn x=true\/X.env.scope.names.lookup x=some .local:=by first|exact .inl rfl|exact .inr rfl|assumption) :
  PS X (.Assign [.Name x pos'] e pos) (tAsg te (gName i)):=by
 intro pins s σ H D I h;refine wpAny_Assign_Name (thn (he pins s σ H _ I h) fun v s1 ⟨y,H1,I1,r1,q1⟩=>?_) hs;exact Zm I1 hN hi hx r1 (fun s2 I2=>⟨_,H1,I2,q1⟩) hf
def tPar(i j:Nat)(ta:TA):TS:=fun D σ H=>ta σ H fun vs H1=>∃ v w,vs=[v,w]/\D.nx ((σ.set i (some v)).set j (some w)) H1
theorem zjl{i j:Nat}{x y:Str}{a b:Expr}{ta:TA}{px py pt:Pos}{kt k2 pt2}(hc:X.calm=true)(hN:X.N.Nodup)(hi:X.N[i]?=some x)(hj:X.N[j]?=some y)(hij:i≠j)
  (hx:X.env.scope.names.lookup x=some .local) (hy:X.env.scope.names.lookup y=some .local) (ha:PA X [a,b] ta)
  (hw:swappedStores [.Tuple [.Name x px,.Name y py] kt pt] (.Tuple [a,b] k2 pt2) X.env=pure (some [x,y]))
  (hs:swapsWithSole [.Tuple [.Name x px,.Name y py] kt pt] (.Tuple [a,b] k2 pt2) pos.line X.env=pure false:=by rfl) :
  PS X (.Assign [.Tuple [.Name x px,.Name y py] kt pt] (.Tuple [a,b] k2 pt2) pos) (tPar i j ta):=by
 intro pins s σ H D I h;rw[exec_Assign_arm];refine wpAny_bind (wpAny_standAt ?_);rw[hs];refine wpAny_bind (wpAny_pure ?_);rw[if_neg (by decide)];refine wpAny_bind (Tuple_ (thn (ha _ pins s σ H _ I h) fun us s1 ⟨vs,H1,I1,r1,q1⟩=>?_));obtain⟨v,w,e1,q1⟩:=q1;subst e1;obtain⟨u1,u2,rfl,rv,rw'⟩ : ∃ u1 u2,us=[u1,u2]/\RelV v u1/\RelV w u2:=by
  cases r1 with
  | cons p q =>
   cases q with
   | cons p' q' =>
    cases q';exact⟨_,_,rfl,p,p'⟩
 refine wpAny_newObj_type ?_ (by show 2<=sizeLine;decide);have I2:Inv X pins σ H1 { s1 with heap:=s1.heap.push { cls:=.type "tuple",data:=.seq [u1,u2].toArray } }:=I1.kept (t':=s1.toks) fun b o e=>Heap.get?_push_of_some _ e
 rw[hw];refine wpAny_bind (wpAny_pure ?_);show wpAny (model X.prog X.w) X.A (do rule "assign.swapped-stores";let items ← unpackItems (.ref s1.heap.objs.size) 2 none;assignInOrder [fun v=>bindName X.env y v,fun v=>bindName X.env x v] items.reverse;pure Flow.next) _ _ _;refine wpAny_bind (wpAny_rule (wpAny_bind (unpackItems_tuple (items:=#[u1,u2]) (I.ok.hd hc) (IsTup.new s1.heap _) fun h' hx'=>?_)));have I3:=I2.kept (h':=h') (t':=s1.toks) fun b o e=>hx' b o (vd (Heap.lt_size e)) e
 show wpAny _ _ (assignInOrder [fun v=>bindName X.env y v,fun v=>bindName X.env x v] [u2,u1] >>= fun _=>pure Flow.next) _ _ _;refine wpAny_bind (assignInOrder_cons (wpAny_bindName (Zm I3 hN hj (.inl hy) rw' (fun s2 I4=>?_) (.inr hy))));refine assignInOrder_cons (wpAny_bindName (Zm I4 hN hi (.inl hx) rv (fun s3 I5=>assignInOrder_nil (wpAny_pure ?_)) (.inr hx)));rw[List.set_comm _ _ (Ne.symm hij)]at I5;exact⟨_,H1,I5,q1⟩
def tAug(i:Nat)(te:TE)(ti:TIp):TS:=fun D σ H=>∃ x,σ[i]?=some (some x)/\te σ H fun y H1=>ti x y H1 fun z H2=>D.nx (σ.set i (some z)) H2
theorem zi9{i:Nat}{x:Str}{e:Expr}{te:TE}{op:Operator}{ti:TIp}{pos':Pos}(hN:X.N.Nodup)(hi:X.N[i]?=some x)(hx:Loc X.env.scope x)(he:PE X e te)(ho:PIp X op ti)(hf:X.fn x=true\/X.env.scope.names.lookup x=some .local:=by first|exact .inl rfl|exact .inr rfl|assumption) :
  PS X (.AugAssign (.Name x pos') op e pos) (tAug i te ti):=by
 intro pins s σ H D I h;obtain⟨v,e1,h⟩:=h;obtain⟨m,hn,hl⟩:=I.loc;have vis:Vis X.env.scope x:=by rcases hx with k|k;exact .inl k;exact .inr (.inl k)
 obtain⟨u,r,l⟩:=hl i x v hi e1 vis;refine wpAny_AugAssign_Name ?_;have go:wpAny (model X.prog X.w) X.A (eval e X.env) (fun w s₂=>wpAny (model X.prog X.w) X.A (inplaceOp op u w) (fun r s₃=>wpAny (model X.prog X.w) X.A (storeName X.env x r) (fun _=>SP X pins D .next) X.xe s₃) X.xe s₂) X.xe s:=by
  refine thn (he pins s σ H _ I h) fun w s1 ⟨y,H1,I1,r1,q1⟩=>?_
  refine thn (ho pins s1 σ H1 v y u w _ I1 r r1 q1) fun z s2 ⟨zv,H2,I2,r2,q2⟩=>?_
  exact Zm I2 hN hi hx r2 (fun s3 I3=>⟨_,H2,I3,q2⟩) hf
 rcases l with⟨hk,hm⟩|⟨hk,c,hc,hcell⟩
 ·exact wpAny_loadName_local I.ok.kind hk hn hm go
 ·rcases hk with hk|hk
  ·exact wpAny_loadName_cell I.ok.kind hk hc hcell go
  ·rcases hx with k|k
   ·have:X.env.scope.names.lookup x=some .free:=hk;rw[k]at this;cases this
   ·have:X.env.scope.names.lookup x=some .free:=hk;rw[k]at this;cases this
def ipI(f:Int->Int->Int):TIp:=fun x y H Q=>∃ i j,x=.int i/\y=.int j/\Q (.int (f i j)) H
theorem zjy:PIp X .Add (ipI fun i j=>i+j):=by
 intro pins s σ H x y v u Q I r1 r2 h;obtain⟨i,j,e1,e2,q⟩:=h;subst e1;subst e2;obtain⟨t,rfl⟩:=r1;obtain⟨t',rfl⟩:=r2;exact iadd_int ⟨.int _,H,I.tok _,⟨_,rfl⟩,q⟩
end
section
variable{X:Cx}{pos:Pos}
def tWhile(c:TT)(tb:TS):TS:=fun D σ H=>∃ W:Nat->St->Hp->Prop,(∃ m,W m σ H)/\∀ m σ H,W m σ H ->
 c σ H fun b H1=>if b=true then ∃ N:St->Hp->Prop,(∀ σ' H',N σ' H'->∃ m',m'<m/\W m' σ' H')/\tb { D with nx:=N,ct:=N,bk:=D.nx } σ H1 else D.nx σ H1
theorem jl{c:Expr}{body:List Stmt}{tc:TT}{tb:TS}(hp:PassesOwn (model X.prog X.w) X.A X.env X.xe)(hc:PT X c tc)(hb:PSs X body tb):PS X (.While c body [] pos) (tWhile tc tb):=by
 intro pins s σ H D I h;obtain⟨W,⟨m0,w0⟩,turn⟩:=h;refine wpAny_While (codeAny_whileLoop (fun n s'=>∃ σ' H',Inv X pins σ' H' s'/\W n σ' H') ?_ m0 ⟨σ,H,I,w0⟩)
 rintro n s1 ⟨σ1,H1,I1,w1⟩
 refine wpAny_passesOwn hp (thn (hc pins s1 σ1 H1 _ I1 (turn n σ1 H1 w1)) fun b s2 ⟨H2,I2,q2⟩=>?_);cases b with
 | true =>
  obtain⟨N,hN,q2⟩:=q2;rw[if_pos rfl];refine wpAny_passesOwn hp (thn (hb pins s2 σ1 H2 _ I2 q2) fun f s3 q3=>?_);cases f with
  | next =>
   obtain⟨σ3,H3,I3,n3⟩:=q3;obtain⟨m',hm,w3⟩:=hN σ3 H3 n3;exact⟨m',hm,σ3,H3,I3,w3⟩
  | cont =>
   obtain⟨σ3,H3,I3,n3⟩:=q3;obtain⟨m',hm,w3⟩:=hN σ3 H3 n3;exact⟨m',hm,σ3,H3,I3,w3⟩
  | brk=>exact q3
  | ret v=>exact q3
 | false =>
  rw[if_neg wX];exact wpAny_execs_nil ⟨σ1,H2,I2,q2⟩
end
structure It where
 go:Nat->Hp->Prop
 yld:Nat->Hp->V->Hp->Prop
 stop:Nat->Hp->Prop
def FpOk(X:Cx)(pins:List (Addr×Obj))(H:Hp)(b:Addr):Prop :=
 H b=none/\b≠X.env.locals/\b∉X.fs/\(b∈X.ex\/X.s₀.heap.objs.size<=b)/\(∀ x c,X.env.cells.lookup x=some c->c≠b)/\∀ p∈X.pn++pins,p.1≠b
theorem Inv.fpOk{X:Cx}{pins:List (Addr×Obj)}{σ:St}{H H':Hp}{s:Shared}{b:Addr}(I:Inv X pins σ H s)(hb:s.heap.objs.size<=b)(hn:H' b=none):FpOk X pins H' b:=by
 refine⟨hn,wak (wR I.lt hb),I.nofs hb,.inr (wN I.sz hb),fun x c e z=>?_,fun p hp z=>?_⟩
 ·obtain⟨v,q⟩:=I.cell x c e;exact absurd (wR q.lt (by rw[z];exact hb)) (vM _)
 ·exact absurd (wR (Heap.lt_size (I.pin p hp).1) (by rw[z];exact hb)) (vM _)
structure Turn(P:Program)(w:World)(K:PySem.W.Frag)(tg:Expr)(J:It)(fp:List Addr)(it:Addr)(tn:Nat->Heap->Prop):Prop where
 mem:it∈fp
 obj:∀ i h,tn i h->∀ b∈fp,∃ o,h.get? b=some o/\∀ v,o.data≠.cell v
 keep:∀ i h h',tn i h->(∀ b∈fp,∀ o,h.get? b=some o->h'.get? b=some o)->tn i h'
 item:∀(X:Cx),X.prog=P->X.w=w->X.K=K->X.calm=true->∀(i:Nat)(pins:List (Addr×Obj))(s:Shared)(σ:St)(H:Hp)(E:Value->Shared->Prop),Inv X pins σ H s->(∀ b∈fp,FpOk X pins H b)->tn i s.heap->J.go i H ->
  wpAny (model P w) X.A (pyNext (.ref it)) (fun r s1=>∃ u,r=some u /\
   wpAny (model P w) X.A (letOwnedTupleGo tg (.ref it) u) (fun _ s2=>∃ x H',Inv X pins σ H' s2/\RelV x u/\J.yld i H x H'/\tn (i+1) s2.heap/\∀ b∈fp,H' b=none) E s1) E s
 done:∀(X:Cx),X.prog=P->X.w=w->X.K=K->X.calm=true->∀(i:Nat)(pins:List (Addr×Obj))(s:Shared)(σ:St)(H:Hp)(E:Value->Shared->Prop),Inv X pins σ H s->(∀ b∈fp,FpOk X pins H b)->tn i s.heap->J.stop i H ->
  wpAny (model P w) X.A (pyNext (.ref it)) (fun r s1=>r=none/\Inv X pins σ H s1) E s
 self:∀(A:Around)(i:Nat)(s:Shared)(Q:Value->Shared->Prop)(E:Value->Shared->Prop),tn i s.heap->Q (.ref it) s->wpAny (model P w) A (pyIter (.ref it)) Q E s
abbrev TI:=St->Hp->(It->Hp->Prop)->Prop
def PIE(X:Cx)(pins:List (Addr×Obj))(σ:St)(tg:Expr)(R:It->Hp->Prop)(itv:Value)(s2:Shared):Prop :=
 ∃(it:Addr)(fp:List Addr)(tn:Nat->Heap->Prop)(J:It)(H':Hp),itv=.ref it/\Inv X pins σ H' s2/\Turn X.prog X.w X.K tg J fp it tn/\tn 0 s2.heap/\(∀ b∈fp,FpOk X pins H' b)/\R J H'
def PI(X:Cx)(tg iter:Expr)(wi:TI):Prop :=
 ∀(pins:List (Addr×Obj))(s:Shared)(σ:St)(H:Hp)(R:It->Hp->Prop),Inv X pins σ H s->wi σ H R ->
  wpAny (model X.prog X.w) X.A (eval iter X.env) (fun v s1=>wpAny (model X.prog X.w) X.A (pyIter v) (PIE X pins σ tg R) X.xe s1) X.xe s
theorem ziA{M:Model}{A:Around}{E:Value->Shared->Prop}{s:Shared}{tg:Expr}{it:Addr}{u:Value}{o:Obj}{n:String}{vs:Array Value}{Q:Unit->Shared->Prop}(ho:s.heap.get? it=some o)(hc:o.cls=.type n)(hd:o.data=.fields vs)
  (hn:["enumerate", "zip", "dict_itemiterator", "dict_reverseitemiterator", "odict_iterator", "itertools.zip_longest", "itertools.pairwise"].contains n=false) (hQ:Q () s):wpAny M A (letOwnedTupleGo tg (.ref it) u) Q E s:=by
 unfold letOwnedTupleGo;cases tg <;> first
  | exact wpAny_pure hQ
  | (cases u <;> first
    | exact wpAny_pure hQ
    | (refine wpAny_bind (wpAny_load ho ?_)
       rw[hc,hd];show wpAny M A (if (["enumerate", "zip", "dict_itemiterator", "dict_reverseitemiterator", "odict_iterator", "itertools.zip_longest", "itertools.pairwise"].contains n && vs[0]? == some (rawInt _))=true then _ else _) Q E s;rw[if_neg (by intro h;rw[hn,Bool.false_and]at h;cases h)];exact wpAny_pure hQ))
def Itl(K:PySem.W.Frag)(a:Addr):It :=
 ⟨fun i H=>∃ xs x,SqL K H a xs/\xs[i]?=some x,fun i H x H'=>H'=H/\∀ xs,SqL K H a xs->xs[i]?=some x,fun i H=>∃ xs,SqL K H a xs/\xs.length<=i⟩
def Itr(lo:Int)(n:Nat):It:=⟨fun i _=>i<n,fun i H x H'=>H'=H/\x=.int (lo+i),fun i _=>n<=i⟩
theorem zfE{P:Program}{w:World}{K:PySem.W.Frag}{tg:Expr}(a it:Addr):Turn P w K tg (Itl K a) [it] it (fun i h=>h.IsListIter it a i) where
 mem:=by simp
 obj:=fun i h st b hb=>by
  have e:b=it:=by simpa using hb
  subst e;obtain⟨o,e,c,d⟩:=st;exact⟨o,e,fun v z=>by rw[d]at z;cases z⟩
 keep:=fun i h h' st k=>st.at fun o e=>k it (by simp) o e
 item:=by
  intro X hP hw hK hc i pins s σ H E I hf st hg;subst hP hw hK;obtain⟨xs,x,hq,hx⟩:=hg;obtain⟨its,rv,p,hz⟩:=I.list hq;obtain⟨u,hu,ru⟩:=rv.get hx;obtain⟨f0,f1,f2,f3,f4,f5⟩:=hf it (by simp);refine wpAny_pyNext_list_item st p.isList (x:=u) (by simpa using hu) fun h' st' sb=>?_
  have I1:Inv X pins σ H { s with heap:=h' }:=I.turned (t':=s.toks) (fun b o hb e=>(sb.2 b hb).trans e) f0 f1 f3 f4 f5;obtain⟨o,e,c,d⟩:=id st';exact⟨u,rfl,ziA (s:={ s with heap:=h' }) e c d (by decide) ⟨x,H,I1,ru,⟨rfl,fun ys hy=>by rw[I.list_inj hy hq];exact hx⟩,st',fun b hb=>(hf b hb).1⟩⟩
 done:=by
  intro X hP hw hK hc i pins s σ H E I hf st hg;subst hP hw hK;obtain⟨xs,hq,hx⟩:=hg;obtain⟨its,rv,p,hz⟩:=I.list hq;obtain⟨f0,f1,f2,f3,f4,f5⟩:=hf it (by simp);have hl:=rv.length;exact wpAny_pyNext_list_end (I.ok.hd hc) st p.isList (by simp;omega) fun h' eb=>⟨rfl,I.turned (t':=s.toks) (fun b o hb e=>eb b o hb e) f0 f1 f3 f4 f5⟩
 self:=fun _ _ _ _ _ st h=>wpAny_pyIter_listiter st h
theorem zcV{P:Program}{w:World}{K:PySem.W.Frag}{tg:Expr}(it:Addr)(lo:Int)(n:Nat):Turn P w K tg (Itr lo n) [it] it (fun i h=>IsRangeIter h it (lo +(i:Nat)*1) ((n:Int) - (i:Nat)) 1) where
 mem:=by simp
 obj:=fun i h st b hb=>by
  have e:b=it:=by simpa using hb
  subst e;exact⟨_,st,fun v z=>by
   have z':Data.fields _=Data.cell v:=z;cases z'⟩
 keep:=fun i h h' st k=>k it (by simp) _ st
 item:=by
  intro X hP hw hK hc i pins s σ H E I hf st hg;subst hP hw hK;obtain⟨f0,f1,f2,f3,f4,f5⟩:=hf it (by simp);have W:=Walks.range (prog:=X.prog) (w:=X.w) (I.ok.hd hc) it lo 1 n;refine W.item i s _ _ hg st fun v h' tk hv st' kk=>?_
  obtain⟨t,rfl⟩:=hv;have I1:Inv X pins σ H { s with heap:=h',toks:=tk }:=I.turned (fun b o hb e=>kk b o (by simpa using hb) e) f0 f1 f3 f4 f5;refine⟨_,rfl,ziA (s:={ s with heap:=h',toks:=tk }) (n := "range_iterator") st' rfl rfl (by decide) ⟨.int (lo+i),H,I1,⟨t,?_⟩,⟨rfl,rfl⟩,st',fun b hb=>(hf b hb).1⟩⟩;rw[Int.mul_one]
 done:=by
  intro X hP hw hK hc i pins s σ H E I hf st hg;subst hP hw hK;obtain⟨f0,f1,f2,f3,f4,f5⟩:=hf it (by simp);exact wpAny_pyNext_range_end (I.ok.hd hc) st (by have:n<=i:=hg;omega) fun h' eb=>⟨rfl,I.turned (t':=s.toks) (fun b o hb e=>eb b o hb e) f0 f1 f3 f4 f5⟩
 self:=fun _ _ _ _ _ st h=>wpAny_pyIter_rangeiter st h
end L2
namespace L2
open PySem PySem.Spec PyProof.Rows
section
variable{X:Cx}{tg:Expr}
inductive zfn(K:PySem.W.Frag)(x:V)(H1:Hp)(R:It->Hp->Prop):Prop where
 | mk (a:Addr) (h0_:x=.ref a) (h1_:(∃ xs,SqL K H1 a xs)) (h2_:R (Itl K a) H1):zfn K x H1 R
def iList(K:PySem.W.Frag)(tl:TE):TI:=fun σ H R=>tl σ H fun x H1=>zfn K x H1 R
theorem zfv{l:Expr}{tl:TE}(hl:PE X l tl):PI X tg l (iList X.K tl):=by
 intro pins s σ H R I h;refine thn (hl pins s σ H _ I h) fun v s1 ⟨x,H1,I1,r1,q1⟩=>?_
 obtain⟨a,e,⟨xs,hq⟩,q⟩:=q1;subst e;cases r1;obtain⟨its,rv,p,hz⟩:=I1.list hq;refine wpAny_pyIter_list p.isList ?_;refine⟨s1.heap.objs.size,[s1.heap.objs.size],_,_,H1,rfl,I1.kept (t':=s1.toks) fun b o e=>Heap.get?_push_of_some _ e,zfE a _,⟨_,Heap.get?_push_size _ rfl,rfl,rfl⟩,fun b hb=>?_,q⟩;have e:b=s1.heap.objs.size:=by simpa using hb
 subst e;exact I1.fpOk (wu _) (I1.hok.fresh (wu _))
theorem zgk{pins:List (Addr×Obj)}{σ:St}{H:Hp}{s:Shared}{R:It->Hp->Prop}{E:Value->Shared->Prop}{lo hi:Int}{t u v:Tok}{tk:Nat}(I:Inv X pins σ H s)(h1 : -(2^62)<=lo)(h2:lo<2^62)(h3 : -(2^62)<=hi)(h4:hi<2^62)
  (q:R (Itr lo (hi - lo).toNat) H):wpAny (model X.prog X.w) X.A (pyIter (.ref s.heap.objs.size)) (PIE X pins σ tg R) E { s with heap:=s.heap.push { cls:=.type "range",data:=.fields #[.int lo t,.int hi u,.int 1 v] },toks:=tk }:=by
 refine wpAny_pyIter_range (IsRange.new ..) (small_one h1 h2 h3 h4) ?_;have I1:Inv X pins σ H { s with heap:=s.heap.push { cls:=.type "range",data:=.fields #[.int lo t,.int hi u,.int 1 v] },toks:=tk }:=I.kept fun b o e=>Heap.get?_push_of_some _ e
 refine⟨(s.heap.push { cls:=.type "range",data:=.fields #[.int lo t,.int hi u,.int 1 v] }).objs.size,[(s.heap.push { cls:=.type "range",data:=.fields #[.int lo t,.int hi u,.int 1 v] }).objs.size],_,_,H,rfl,
  I1.kept (t':=tk) fun b o e=>Heap.get?_push_of_some _ e,zcV _ lo (hi - lo).toNat,?_,fun b hb=>?_,q⟩
 ·have e1:lo +((0:Nat):Int)*1=lo:=by simp
  have e2:(((hi - lo).toNat:Nat):Int) - ((0:Nat):Int)=Builtin.Range.rangeSize lo hi 1:=by rw[rangeSize_one];split <;> omega
  show IsRangeIter _ _ (lo +((0:Nat):Int)*1) ((((hi - lo).toNat:Nat):Int) - ((0:Nat):Int)) 1;rw[e1,e2];exact Heap.get?_push_size _ rfl
 ·have e:b =(s.heap.push { cls:=.type "range",data:=.fields #[.int lo t,.int hi u,.int 1 v] }).objs.size:=by simpa using hb
  subst e;exact I1.fpOk (wu _) (I1.hok.fresh (wu _))
inductive zet(vs:List V)(H1:Hp)(R:It->Hp->Prop):Prop where
 | mk (j:Int) (h0_:vs=[.int j]) (h1_ : -(2^62)<=j) (h2_:j<2^62) (h3_:R (Itr 0 j.toNat) H1):zet vs H1 R
def iRng1(ta:TA):TI:=fun σ H R=>ta σ H fun vs H1=>zet vs H1 R
theorem zR {a:Expr} {ta:TA} {p pos:Pos} (hg:Gl X "range") (hm:X.mg "range" = none) (ha:PA X [a] ta) (hs:starEach [a] X.env=[(false,eval a X.env)]:=by rfl):PI X tg (.Call (.Name "range" p) [a] [] pos) (iRng1 ta):=by
 intro pins s σ H R I h;refine Call_ (zam I hg hm boot_range (PyProof.Rows.callWith_type1 (thn (ha pos pins s σ H _ I h) fun us s1 ⟨vs,H1,I1,r1,q1⟩=>?_) hs rfl));obtain⟨j,e,q1,q2,q⟩:=q1;subst e;cases r1 with
 | cons r rr =>
  cases rr;obtain⟨t,rfl⟩:=r;exact call_range_1 (zgk I1 (by omega) (by omega) q1 q2 (by simpa using q))
def tFor(wi:TI)(g:TG)(tb:TS):TS:=fun D σ H=>wi σ H fun J H1=>∃ W:Nat->Nat->St->Hp->Prop,(∃ m,W 0 m σ H1)/\∀ i m σ H,W i m σ H ->
 (J.stop i H/\D.nx σ H)\/(J.go i H/\∃ N:St->Hp->Prop,(∀ σ' H',N σ' H'->∃ m',m'<m/\W (i+1) m' σ' H')/\∀ x H',J.yld i H x H'->g x σ H' fun σ2 H2=>tb { D with nx:=N,ct:=N,bk:=D.nx } σ2 H2)
def pinsAt(fp:List Addr)(h:Heap):List (Addr×Obj):=fp.filterMap fun b=>(h.get? b).map fun o=>(b,o)
theorem qJ{fp:List Addr}{h:Heap}{b:Addr}{o:Obj}(hb:b∈fp)(e:h.get? b=some o):(b,o)∈pinsAt fp h:=wah.mpr ⟨b,hb,by rw[e];rfl⟩
theorem zek{fp:List Addr}{h:Heap}{p:Addr×Obj}(hp:p∈pinsAt fp h):p.1∈fp/\h.get? p.1=some p.2:=by
 obtain⟨b,hb,e⟩:=wah.mp hp;cases q:h.get? b with
 | none=>rw[q]at e;cases e
 | some o =>
  rw[q]at e;have e':(b,o)=p:=Option.some.inj e;subst e';exact⟨hb,q⟩
theorem Inv.pinned{pins:List (Addr×Obj)}{σ:St}{H:Hp}{s:Shared}{fp:List Addr}(I:Inv X pins σ H s)(hf:∀ b∈fp,FpOk X pins H b)(ho:∀ b∈fp,∃ o,s.heap.get? b=some o/\∀ v,o.data≠.cell v):Inv X (pins++pinsAt fp s.heap) σ H s :=
 I.pins_of fun p hp=>(wq.mp hp).elim (fun z=>I.pin p (wE _ z)) fun z=>by
  obtain⟨hb,e⟩:=zek z;obtain⟨f0,f1,f2,_⟩:=hf p.1 hb;obtain⟨o,e',d⟩:=ho p.1 hb;rw[e]at e';cases e';exact⟨e,f0,f1,f2,d⟩
theorem Inv.unpinned{pins pl:List (Addr×Obj)}{σ:St}{H:Hp}{s:Shared}(I:Inv X (pins++pl) σ H s):Inv X pins σ H s:=I.pins_of fun p hp=>I.pin p (wE _ (wQ _ hp))
theorem yE{iter:Expr}{body:List Stmt}{wi:TI}{g:TG}{tb:TS}{pos:Pos}(hp:PassesOwn (model X.prog X.w) X.A X.env X.xe)(hc:X.calm=true)(hi:PI X tg iter wi)(hg:PG X tg g)(hb:PSs X body tb)
  (hs:∀ x,foldedSetIterable iter X.env x=pure x:=by intro _;rfl):PS X (.For tg iter body [] pos) (tFor wi g tb):=by
 intro pins s σ H D I h;refine wpAny_For (thn (hi pins s σ H _ I h) fun v s1 h1=>thn h1 fun itv s2 h2=>?_) hs;obtain⟨it,fp,tn,J,H2,e,I2,T,st2,f2,W,⟨m0,w0⟩,turn⟩:=h2;subst e;have stat:∀ {H':Hp},(∀ b∈fp,H' b=none)->∀ b∈fp,FpOk X pins H' b:=fun hn b hb=>⟨hn b hb,(f2 b hb).2⟩
 refine codeAny_forLoop_any (fun n s'=>∃ i σ' H',Inv X pins σ' H' s'/\tn i s'.heap/\(∀ b∈fp,H' b=none)/\W i n σ' H') ?_ m0 ⟨0,σ,H2,I2,st2,fun b hb=>(f2 b hb).1,w0⟩
 rintro n s3 ⟨i,σ3,H3,I3,st3,fr3,w3⟩
 rcases turn i n σ3 H3 w3 with⟨stop,qn⟩|⟨go,N,hN,step⟩
 ·refine wpAny_passesOwn hp (thn (T.done X rfl rfl rfl hc i pins s3 σ3 H3 X.xe I3 (stat fr3) st3 stop) fun r s4 ⟨hr,I4⟩=>?_);subst hr;exact wpAny_execs_nil ⟨σ3,H3,I4,qn⟩
 ·refine wpAny_passesOwn hp (thn (T.item X rfl rfl rfl hc i pins s3 σ3 H3 X.xe I3 (stat fr3) st3 go) fun r s4 ⟨u,hr,h4⟩=>?_);subst hr;refine wpAny_passesOwn hp (thn h4 fun _ s5 ⟨x,H5,I5,r5,y5,st5,fr5⟩=>?_);have I5':=I5.pinned (stat fr5) (T.obj _ _ st5);refine wpAny_passesOwn hp (thn (hg _ s5 σ3 H5 x u _ I5' r5 (step x H5 y5)) fun _ s6 ⟨σ6,H6,I6,q6⟩=>?_);refine wpAny_passesOwn hp (thn (hb _ s6 σ6 H6 _ I6 q6) fun f s7 q7=>?_);have again:∀ {σ7:St} {H7:Hp},Inv X (pins++pinsAt fp s5.heap) σ7 H7 s7->N σ7 H7->∃ m,m<n/\∃ i σ' H',Inv X pins σ' H' s7/\tn i s7.heap/\(∀ b∈fp,H' b=none)/\W i m σ' H':=fun {σ7 H7} I7 n7=>by
   obtain⟨m',hm,w7⟩:=hN σ7 H7 n7;refine⟨m',hm,i+1,σ7,H7,I7.unpinned,T.keep _ _ _ st5 fun b hb o e=>(I7.pin (b,o) (wE _ (wE _ (qJ hb e)))).1,fun b hb=>?_,w7⟩;obtain⟨o,e,d⟩:=T.obj _ _ st5 b hb;exact(I7.pin (b,o) (wE _ (wE _ (qJ hb e)))).2.1
  cases f with
  | next=>obtain⟨σ7,H7,I7,n7⟩:=q7;exact again I7 n7
  | cont=>obtain⟨σ7,H7,I7,n7⟩:=q7;exact again I7 n7
  | brk=>obtain⟨σ7,H7,I7,q7⟩:=q7;exact⟨σ7,H7,I7.unpinned,q7⟩
  | ret v=>obtain⟨x7,σ7,H7,I7,r7,q7⟩:=q7;exact⟨x7,σ7,H7,I7.unpinned,r7,q7⟩
end
theorem xN{K:PySem.W.Frag}{a:Addr}{xs:List V}{g:TG}{tb:TS}{D:Ends}{σ:St}{H:Hp}(Pv:Nat->St->Hp->Prop)(h0:Pv 0 σ H)(hl:∀ i σ H,i<=xs.length->Pv i σ H->SqL K H a xs)
  (hs:∀ i x σ H,xs[i]?=some x->Pv i σ H->g x σ H fun σ2 H2=>tb { D with nx:=Pv (i+1),ct:=Pv (i+1),bk:=D.nx } σ2 H2) (hd:∀ σ H,Pv xs.length σ H->D.nx σ H) :
  ∃ W:Nat->Nat->St->Hp->Prop,(∃ m,W 0 m σ H)/\∀ i m σ H,W i m σ H ->
   ((Itl K a).stop i H/\D.nx σ H)\/((Itl K a).go i H/\∃ N:St->Hp->Prop,(∀ σ' H',N σ' H'->∃ m',m'<m/\W (i+1) m' σ' H')/\∀ x H',(Itl K a).yld i H x H'->g x σ H' fun σ2 H2=>tb { D with nx:=N,ct:=N,bk:=D.nx } σ2 H2):=by
 refine⟨fun i m σ H=>m=xs.length - i/\i<=xs.length/\Pv i σ H,⟨xs.length,by simp,vq _,h0⟩,?_⟩
 rintro i m σ H ⟨rfl,hi,p⟩
 have q:=hl i σ H hi p
 by_cases hlt:i<xs.length
 ·refine .inr ⟨⟨xs,xs[i],q,by simp[hlt]⟩,Pv (i+1),fun σ' H' p'=>⟨xs.length - (i+1),by omega,rfl,hlt,p'⟩,fun x H' y=>?_⟩;obtain⟨e,y⟩:=y;subst e;exact hs i x σ _ (y xs q) p
 ·have e:i=xs.length:=by omega
  subst e;exact .inl ⟨⟨xs,q,wu _⟩,hd σ H p⟩
theorem yw{lo:Int}{n:Nat}{g:TG}{tb:TS}{D:Ends}{σ:St}{H:Hp}(Pv:Nat->St->Hp->Prop)(h0:Pv 0 σ H)
  (hs:∀ i σ H,i<n->Pv i σ H->g (.int (lo+i)) σ H fun σ2 H2=>tb { D with nx:=Pv (i+1),ct:=Pv (i+1),bk:=D.nx } σ2 H2) (hd:∀ σ H,Pv n σ H->D.nx σ H) :
  ∃ W:Nat->Nat->St->Hp->Prop,(∃ m,W 0 m σ H)/\∀ i m σ H,W i m σ H ->
   ((Itr lo n).stop i H/\D.nx σ H)\/((Itr lo n).go i H/\∃ N:St->Hp->Prop,(∀ σ' H',N σ' H'->∃ m',m'<m/\W (i+1) m' σ' H')/\∀ x H',(Itr lo n).yld i H x H'->g x σ H' fun σ2 H2=>tb { D with nx:=N,ct:=N,bk:=D.nx } σ2 H2):=by
 refine⟨fun i m σ H=>m=n - i/\i<=n/\Pv i σ H,⟨n,by simp,vq _,h0⟩,?_⟩
 rintro i m σ H ⟨rfl,hi,p⟩
 by_cases hlt:i<n
 ·refine .inr ⟨hlt,Pv (i+1),fun σ' H' p'=>⟨n - (i+1),by omega,rfl,hlt,p'⟩,fun x H' y=>?_⟩;obtain⟨e,y⟩:=y;subst e y;exact hs i σ _ hlt p
 ·have e:i=n:=by omega
  subst e;exact .inl ⟨wu _,hd σ H p⟩
end L2
namespace L2
open PySem PySem.Spec PyProof.Rows
abbrev R2:=V->V->Hp->VK->Prop
def OpR(X:Cx)(f:Value->Value->Sem Value)(r:R2):Prop :=
 ∀(pins:List (Addr×Obj))(s:Shared)(σ:St)(H:Hp)(x y:V)(v u:Value)(Q:VK),Inv X pins σ H s->RelV x v->RelV y u->r x y H Q ->
  wpAny (model X.prog X.w) X.A (f v u) (EP X pins σ Q) X.xe s
def UnR(X:Cx)(f:Value->Sem Value)(r:V->Hp->VK->Prop):Prop :=
 ∀(pins:List (Addr×Obj))(s:Shared)(σ:St)(H:Hp)(x:V)(v:Value)(Q:VK),Inv X pins σ H s->RelV x v->r x H Q ->
  wpAny (model X.prog X.w) X.A (f v) (EP X pins σ Q) X.xe s
def CallR(X:Cx)(f:Value)(r:List V->Hp->VK->Prop):Prop :=
 ∀(pins:List (Addr×Obj))(s:Shared)(σ:St)(H:Hp)(xs:List V)(us:List Value)(Q:VK),Inv X pins σ H s->Vals xs us->r xs H Q ->
  wpAny (model X.prog X.w) X.A (call f us) (EP X pins σ Q) X.xe s
def tOp(r:R2)(ta tb:TE):TE:=fun σ H Q=>ta σ H fun x H1=>tb σ H1 fun y H2=>r x y H2 Q
def tUn(r:V->Hp->VK->Prop)(ta:TE):TE:=fun σ H Q=>ta σ H fun x H1=>r x H1 Q
inductive I_rI(C:Int->Int->Prop)(g:Int->Int->V)(x y:V)(H:Hp)(Q:VK):Prop where
 | mk (i j:Int) (h0_:x=.int i) (h1_:y=.int j) (h2_:C i j) (h3_:Q (g i j) H):I_rI C g x y H Q
def rI(C:Int->Int->Prop)(g:Int->Int->V):R2:=fun x y H Q=>I_rI C g x y H Q
inductive ziR(g:Int->Int->V)(x y:V)(H:Hp)(Q:VK):Prop where
 | mk (i j:Int) (h0_:x=.int i) (h1_:y=.int j) (h2_:Q (g i j) H):ziR g x y H Q
def rI0(g:Int->Int->V):R2:=fun x y H Q=>ziR g x y H Q
inductive I_rU(g:Int->V)(x:V)(H:Hp)(Q:VK):Prop where
 | mk (i:Int) (h0_:x=.int i) (h1_:Q (g i) H):I_rU g x H Q
def rU(g:Int->V):V->Hp->VK->Prop:=fun x H Q=>I_rU g x H Q
section
variable{X:Cx}{a b c:Expr}{ta tb tc:TE}{pos:Pos}
theorem binT(ha:PE X a ta)(hb:PE X b tb){pins:List (Addr×Obj)}{s:Shared}{σ:St}{H:Hp}{R:V->V->Hp->Prop}(I:Inv X pins σ H s)
  (h:ta σ H fun x H1=>tb σ H1 fun y H2=>R x y H2) {Q:Value->Shared->Prop} {f:Value->Value->Sem Value}
  (hf:∀ v u s2 x y H2,Inv X pins σ H2 s2->RelV x v->RelV y u->R x y H2->wpAny (model X.prog X.w) X.A (f v u) Q X.xe s2) :
  wpAny (model X.prog X.w) X.A (eval a X.env) (fun v s₁=>wpAny (model X.prog X.w) X.A (eval b X.env) (fun u s₂=>wpAny (model X.prog X.w) X.A (f v u) Q X.xe s₂) X.xe s₁) X.xe s:=by
 refine thn (ha pins s σ H _ I h) fun v s1 ⟨x,H1,I1,r1,q1⟩=>?_
 refine thn (hb pins s1 σ H1 _ I1 q1) fun u s2 ⟨y,H2,I2,r2,q2⟩=>?_
 exact hf v u s2 x y H2 I2 r1 r2 q2
theorem zm{op:Operator}{r:R2}(ho:OpR X (binaryOp op) r)(ha:PE X a ta)(hb:PE X b tb):PE X (.BinOp a op b pos) (tOp r ta tb):=by
 intro pins s σ H Q I h;exact wpAny_BinOp (binT ha hb I h fun v u s2 x y H2 I2 rx ry q=>ho pins s2 σ H2 x y v u Q I2 rx ry q)
theorem zfP{op:UnaryOp}{r:V->Hp->VK->Prop}(ho:UnR X (unaryOp op) r)(ha:PE X a ta):PE X (.UnaryOp op a pos) (tUn r ta):=by
 intro pins s σ H Q I h;exact UnaryOp_ (thn (ha pins s σ H _ I h) fun v s1 ⟨x,H1,I1,r1,q1⟩=>ho pins s1 σ H1 x v Q I1 r1 q1)
theorem opI{f:Value->Value->Sem Value}{C:Int->Int->Prop}{g:Int->Int->Int}
  (rule:∀(i j:Int)(t u:Tok)(s:Shared)(Q:Value->Shared->Prop)(E:Value->Shared->Prop),C i j->Q (.int (g i j) s.toks) { s with toks:=s.toks+1 }->wpAny (model X.prog X.w) X.A (f (.int i t) (.int j u)) Q E s) :
  OpR X f (rI C fun i j=>.int (g i j)):=by
 intro pins s σ H x y v u Q I rx ry h;obtain⟨i,j,rfl,rfl,hc,q⟩:=h;obtain⟨t,rfl⟩:=rx;obtain⟨t',rfl⟩:=ry;exact rule i j t t' s _ _ hc ⟨.int (g i j),H,I.tok _,⟨_,rfl⟩,q⟩
theorem opI0{f:Value->Value->Sem Value}{g:Int->Int->Int}
  (rule:∀(i j:Int)(t u:Tok)(s:Shared)(Q:Value->Shared->Prop)(E:Value->Shared->Prop),Q (.int (g i j) s.toks) { s with toks:=s.toks+1 }->wpAny (model X.prog X.w) X.A (f (.int i t) (.int j u)) Q E s) :
  OpR X f (rI0 fun i j=>.int (g i j)):=by
 intro pins s σ H x y v u Q I rx ry h;obtain⟨i,j,rfl,rfl,q⟩:=h;obtain⟨t,rfl⟩:=rx;obtain⟨t',rfl⟩:=ry;exact rule i j t t' s _ _ ⟨.int (g i j),H,I.tok _,⟨_,rfl⟩,q⟩
theorem opB0{f:Value->Value->Sem Value}{g:Int->Int->Bool}
  (rule:∀(i j:Int)(t u:Tok)(s:Shared)(Q:Value->Shared->Prop)(E:Value->Shared->Prop),Q (.bool (g i j)) s->wpAny (model X.prog X.w) X.A (f (.int i t) (.int j u)) Q E s) :
  OpR X f (rI0 fun i j=>.bl (g i j)):=by
 intro pins s σ H x y v u Q I rx ry h;obtain⟨i,j,rfl,rfl,q⟩:=h;obtain⟨t,rfl⟩:=rx;obtain⟨t',rfl⟩:=ry;exact rule i j t t' s _ _ ⟨.bl (g i j),H,I,rfl,q⟩
def CPow(i j:Int):Prop:=0<=j/\j<=1000000/\i.natAbs<2^64
theorem yy:OpR X (binaryOp .Add) (rI0 fun i j=>.int (i+j)):=opI0 fun _ _ _ _ _ _ _ q=>add_int q
theorem xZ:OpR X (binaryOp .Sub) (rI0 fun i j=>.int (i - j)):=opI0 fun _ _ _ _ _ _ _ q=>sub_int q
theorem zO:OpR X (binaryOp .Mod) (rI (fun _ j=>j≠0) fun i j=>.int (i.fmod j)):=opI fun _ _ _ _ _ _ _ hc q=>mod_int' hc q
theorem zfc:OpR X (binaryOp .Pow) (rI CPow fun i j=>.int (i^j.toNat)):=opI fun _ _ _ _ _ _ _ hc q=>pow_int_small hc.1 hc.2.1 hc.2.2 q
theorem unI{f:Value->Sem Value}{g:Int->Int}
  (rule:∀(i:Int)(t:Tok)(s:Shared)(Q:Value->Shared->Prop)(E:Value->Shared->Prop),Q (.int (g i) s.toks) { s with toks:=s.toks+1 }->wpAny (model X.prog X.w) X.A (f (.int i t)) Q E s) :
  UnR X f (rU fun i=>.int (g i)):=by
 intro pins s σ H x v Q I rx h;obtain⟨i,rfl,q⟩:=h;obtain⟨t,rfl⟩:=rx;exact rule i t s _ _ ⟨.int (g i),H,I.tok _,⟨_,rfl⟩,q⟩
theorem zb4:UnR X (unaryOp .USub) (rU fun i=>.int (-i)):=unI fun _ _ _ _ _ q=>neg_int q
end
def scal:V->V->Bool
 | .non,.non=>true | .non,.int _=>true | .int _,.non=>true | .non,.bl _=>true | .bl _,.non=>true | .non,.str _=>true | .str _,.non=>true
 | .int _,.int _=>true | .bl _,.bl _=>true | .str _,.str _=>true | .byt _,.byt _=>true
 | .int _,.str _=>true | .str _,.int _=>true | .bl _,.str _=>true | .str _,.bl _=>true
 | _,_=>false
def rEq:R2:=fun x y H Q=>scal x y=true/\Q (.bl (decide (x=y))) H
def rNe:R2:=fun x y H Q=>scal x y=true/\Q (.bl (!decide (x=y))) H
theorem zd8{i j:Int}:decide (V.int i=V.int j) =(i == j):=by
 rw[gy];simp
theorem zhk{i j:Bool}:decide (V.bl i=V.bl j) =(i == j):=by
 rw[gy];simp
theorem zfq{i j:Str}:decide (V.str i=V.str j) =(i == j):=by
 rw[gy];simp
theorem zfF{i j:Array UInt8}:decide (V.byt i=V.byt j) =(i.toList == j.toList):=by
 rw[gy];cases i;cases j;simp
section
variable{X:Cx}{a b c:Expr}{ta tb tc:TE}{pos:Pos}
theorem yq{pins:List (Addr×Obj)}{σ:St}{H:Hp}{s:Shared}{Q:VK}{k k':Bool}(I:Inv X pins σ H s)(q:Q (.bl k) H)(e:k=k'):EP X pins σ Q (.bool k') s:=by
 subst e;exact⟨.bl k,H,I,rfl,q⟩
theorem xc:OpR X (compareOp .Eq) rEq:=by
 intro pins s σ H x y v u Q I rx ry h;obtain⟨hs,q⟩:=h;cases x with
 | non =>
  cases rx;cases y with
  | non=>cases ry;exact PySem.EqNone.eq_none_none (yq I q (by simp))
  | bl j=>cases ry;exact PySem.EqNone.eq_none_bool (yq I q (by simp))
  | int j=>obtain⟨t',rfl⟩:=ry;exact PySem.EqNone.eq_none_int (yq I q (by simp))
  | str j=>obtain⟨t',rfl⟩:=ry;exact PySem.EqNone.eq_none_str (yq I q (by simp))
  | _=>exact absurd (show false=true from hs) wX
 | bl i =>
  cases rx;cases y with
  | non=>cases ry;exact PySem.EqNone.eq_bool_none (yq I q (by simp))
  | bl j=>cases ry;exact eq_bool (yq I q zhk)
  | str j=>obtain⟨t',rfl⟩:=ry;exact PySem.EqMixed.eq_bool_str (yq I q (by simp))
  | _=>exact absurd (show false=true from hs) wX
 | int i =>
  obtain⟨t,rfl⟩:=rx;cases y with
  | non=>cases ry;exact PySem.EqNone.eq_int_none (yq I q (by simp))
  | int j=>obtain⟨t',rfl⟩:=ry;exact eq_int (yq I q zd8)
  | str j=>obtain⟨t',rfl⟩:=ry;exact PySem.EqMixed.eq_int_str (yq I q (by simp))
  | _=>exact absurd (show false=true from hs) wX
 | str i =>
  obtain⟨t,rfl⟩:=rx;cases y with
  | non=>cases ry;exact PySem.EqNone.eq_str_none (yq I q (by simp))
  | bl j=>cases ry;exact PySem.EqMixed.eq_str_bool (yq I q (by simp))
  | int j=>obtain⟨t',rfl⟩:=ry;exact PySem.EqMixed.eq_str_int (yq I q (by simp))
  | str j=>obtain⟨t',rfl⟩:=ry;exact eq_str (yq I q zfq)
  | _=>exact absurd (show false=true from hs) wX
 | byt i =>
  obtain⟨t,rfl⟩:=rx;cases y with
  | byt j=>obtain⟨t',rfl⟩:=ry;exact PySem.W.eq_bytes (yq I q zfF)
  | _=>exact absurd (show false=true from hs) wX
 | _=>cases y <;> exact absurd (show false=true from hs) wX
theorem zbF:OpR X (compareOp .NotEq) rNe:=by
 intro pins s σ H x y v u Q I rx ry h;obtain⟨hs,q⟩:=h;cases x with
 | non =>
  cases rx;cases y with
  | non=>cases ry;exact PySem.EqNone.ne_none_none (yq I q (by simp))
  | bl j=>cases ry;exact PySem.EqNone.ne_none_bool (yq I q (by simp))
  | int j=>obtain⟨t',rfl⟩:=ry;exact PySem.EqNone.ne_none_int (yq I q (by simp))
  | str j=>obtain⟨t',rfl⟩:=ry;exact PySem.EqNone.ne_none_str (yq I q (by simp))
  | _=>exact absurd (show false=true from hs) wX
 | bl i =>
  cases rx;cases y with
  | non=>cases ry;exact PySem.EqNone.ne_bool_none (yq I q (by simp))
  | bl j=>cases ry;exact ne_bool (yq I q (congrArg not zhk))
  | str j=>obtain⟨t',rfl⟩:=ry;exact PySem.EqMixed.ne_bool_str (yq I q (by simp))
  | _=>exact absurd (show false=true from hs) wX
 | int i =>
  obtain⟨t,rfl⟩:=rx;cases y with
  | non=>cases ry;exact PySem.EqNone.ne_int_none (yq I q (by simp))
  | int j=>obtain⟨t',rfl⟩:=ry;exact ne_int (yq I q (congrArg not zd8))
  | str j=>obtain⟨t',rfl⟩:=ry;exact PySem.EqMixed.ne_int_str (yq I q (by simp))
  | _=>exact absurd (show false=true from hs) wX
 | str i =>
  obtain⟨t,rfl⟩:=rx;cases y with
  | non=>cases ry;exact PySem.EqNone.ne_str_none (yq I q (by simp))
  | bl j=>cases ry;exact PySem.EqMixed.ne_str_bool (yq I q (by simp))
  | int j=>obtain⟨t',rfl⟩:=ry;exact PySem.EqMixed.ne_str_int (yq I q (by simp))
  | str j=>obtain⟨t',rfl⟩:=ry;exact ne_str (yq I q (congrArg not zfq))
  | _=>exact absurd (show false=true from hs) wX
 | byt i =>
  obtain⟨t,rfl⟩:=rx;cases y with
  | byt j=>obtain⟨t',rfl⟩:=ry;exact PySem.W.ne_bytes (yq I q (congrArg not zfF))
  | _=>exact absurd (show false=true from hs) wX
 | _=>cases y <;> exact absurd (show false=true from hs) wX
theorem zaD:OpR X (compareOp .Lt) (rI0 fun i j=>.bl (decide (i<j))):=opB0 fun _ _ _ _ _ _ _ q=>lt_int q
theorem ZY:OpR X (compareOp .Gt) (rI0 fun i j=>.bl (decide (j<i))):=opB0 fun _ _ _ _ _ _ _ q=>gt_int q
theorem kae(b:Expr){op:CmpOp}(h:op≠.In:=by decide)(h2:op≠.NotIn:=by decide):behindInMarks op b=false:=by
 have e1:(op == CmpOp.In)=false:=by cases op <;> first|rfl|exact absurd rfl h
 have e2:(op == CmpOp.NotIn)=false:=by cases op <;> first|rfl|exact absurd rfl h2
 cases b <;> simp[behindInMarks,e1,e2]
theorem ja{op:CmpOp}{r:R2}(ho:OpR X (compareOp op) r)(ha:PE X a ta)(hb:PE X b tb)(hm:behindInMarks op b=false):PE X (.Compare a [op] [b] pos) (tOp r ta tb):=by
 intro pins s σ H Q I h;exact wpAny_Compare1 (binT ha hb I h fun v u s2 x y H2 I2 rx ry q=>ho pins s2 σ H2 x y v u Q I2 rx ry q) hm
inductive ze1(x:V)(H':Hp)(Q:Bool->Hp->Prop):Prop where
 | mk (k:Bool) (h0_:x=.bl k) (h1_:Q k H'):ze1 x H' Q
def tTest(t:TE):TT:=fun σ H Q=>t σ H fun x H'=>ze1 x H' Q
theorem zI{op:CmpOp}{r:R2}(ho:OpR X (compareOp op) r)(ha:PE X a ta)(hb:PE X b tb)(hm:behindInMarks op b=false):PT X (.Compare a [op] [b] pos) (tTest (tOp r ta tb)):=by
 intro pins s σ H Q I h;refine wpAny_isTrue_Compare1 (thn (ha pins s σ H _ I h) fun v s1 ⟨x,H1,I1,r1,q1⟩=>thn (hb pins s1 σ H1 _ I1 q1) fun u s2 ⟨y,H2,I2,r2,q2⟩ =>
  thn (ho pins s2 σ H2 x y v u _ I2 r1 r2 q2) fun c s3 ⟨z,H3,I3,r3,k,e,q3⟩=>?_) hm
 subst e;cases r3;exact wpAny_truthy_bool ⟨H3,I3,q3⟩
theorem line63:(sizeLine:Nat)<2^63:=by rw[sizeLine_eq];decide
theorem vals1{x:V}{us:List Value}(r:Vals [x] us):∃ u,us=[u]/\RelV x u:=by
 cases r with
 | cons r1 r2=>cases r2;exact⟨_,rfl,r1⟩
theorem vals2{x y:V}{us:List Value}(r:Vals [x,y] us):∃ u w',us=[u,w']/\RelV x u/\RelV y w':=by
 cases r with
 | cons r1 r2 =>
  cases r2 with
  | cons r3 r4=>cases r4;exact⟨_,_,rfl,r1,r3⟩
theorem JC:CallR X (.builtin "abs") (fun xs H Q=>∃ i,xs=[.int i]/\Q (.int (if i<0 then -i else i)) H):=by
 intro pins s σ H xs us Q I r h;obtain⟨i,rfl,q⟩:=h;obtain⟨u,rfl,t,rfl⟩:=vals1 r;exact call_abs_int fun u tk=>⟨.int (if i<0 then -i else i),H,I.tok _,⟨_,rfl⟩,q⟩
theorem QT (hc:X.calm=true):CallR X (.builtin "max") (fun xs H Q=>∃ i j,xs=[.int i,.int j]/\Q (.int (if j > i then j else i)) H):=by
 intro pins s σ H xs us Q I r h;obtain⟨i,j,rfl,q⟩:=h;obtain⟨u,w',rfl,⟨t,rfl⟩,⟨t',rfl⟩⟩:=vals2 r;refine max_two_ints (I.ok.hd hc) fun h' tk k=>⟨_,H,I.kept k,?_,q⟩
 by_cases hj:j > i
 ·rw[if_pos hj,if_pos hj];exact⟨_,rfl⟩
 ·rw[if_neg hj,if_neg hj];exact⟨_,rfl⟩
theorem XG:CallR X (.type "int") (fun xs H Q=>(∃ i,xs=[.int i]/\Q (.int i) H)\/∃ k,xs=[.bl k]/\Q (.int (if k then 1 else 0)) H):=by
 intro pins s σ H xs us Q I r h
 rcases h with⟨i,rfl,q⟩|⟨k,rfl,q⟩
 ·obtain⟨u,rfl,t,rfl⟩:=vals1 r;exact call_int_int ⟨.int i,H,I,⟨_,rfl⟩,q⟩
 ·obtain⟨u,rfl,r1⟩:=vals1 r;cases r1;exact call_int_bool ⟨.int (if k then 1 else 0),H,I.tok _,⟨_,rfl⟩,q⟩
end
end L2
namespace L2
open PySem PySem.Spec PyProof.Rows
end L2
namespace L2
open PySem PySem.Spec PyProof.Rows
structure Room(k:Nat)(A:Around):Prop where
 hd:A.handled=none
 dp:A.depth+3*k+5<recursionLimit
 un:A.units+16*k+200<cLine
theorem Room.mono{j k:Nat}{A:Around}(r:Room k A)(h:j<=k):Room j A:=⟨r.hd,by have:=r.dp;omega,by have:=r.un;omega⟩
theorem Room.deeper{k:Nat}{A:Around}(r:Room (k+1) A)(env:Env):Room k (A.deeper env) :=
 ⟨r.hd,by have:=r.dp;show A.depth+1+3*k+5<_;omega,by have:=r.un;show A.units+3+16*k+200<_;omega⟩
theorem Room.depth{k:Nat}{A:Around}(r:Room k A):A.depth<recursionLimit:=by have:=r.dp;omega
theorem Room.units{k:Nat}{A:Around}(r:Room k A):A.units+64<cLine:=by have:=r.un;omega
def tNil:TA:=fun _ H Q=>Q [] H
def tCons(ta:TE)(tr:TA):TA:=fun σ H Q=>ta σ H fun x H1=>tr σ H1 fun xs H2=>Q (x::xs) H2
section
variable{X:Cx}{e:Expr}{es:List Expr}{te:TE}{t:TA}{pos:Pos}
theorem zd:PA X [] tNil:=fun _ _ _ _ H Q I h=>Calls.spliced_nil ⟨[],H,I,.nil,h⟩
theorem za(ha:PE X e te)(hr:PA X es t)(hs:starEach (e::es) X.env =(false,eval e X.env)::starEach es X.env:=by rfl):PA X (e::es) (tCons te t):=by
 intro pos pins s σ H Q I h;rw[hs];show wpAny _ _ (spliced ((false,eval e X.env)::backTo pos (starEach es X.env))) _ _ s;refine Calls.spliced_cons (thn (ha pins s σ H _ I h) fun u s1 ⟨x,H1,I1,r1,q1⟩=>?_);exact thn (hr pos pins s1 σ H1 _ I1 q1) fun us s2 ⟨xs,H2,I2,r2,q2⟩=>⟨x::xs,H2,I2,.cons r1 r2,q2⟩
def tTup(t:TA):TE:=fun σ H Q=>t σ H fun xs H1=>xs.length<=sizeLine/\∀ p,H1 p=none->Q (.ref p) (upd H1 p (.tup xs))
def tLst(t:TA):TE:=fun σ H Q=>t σ H fun xs H1=>xs.length<=sizeLine/\∀ p,H1 p=none->Q (.ref p) (upd H1 p (.lst xs))
theorem xa{x1}(h:PA X es t):PE X (.Tuple es x1 pos) (tTup t):=by
 intro pins s σ H Q I hq;refine wpAny_Tuple_spliced (thn (h pos pins s σ H _ I hq) fun us s1 ⟨xs,H1,I1,r,z,q⟩=>⟨by rw[← r.length];exact z,?_⟩);have hf:H1 s1.heap.objs.size=none:=I1.hok.fresh (wu _);refine⟨.ref s1.heap.objs.size,upd H1 s1.heap.objs.size (.tup xs),I1.laid (t':=s1.toks) (fun b u e=>Heap.get?_push_of_some _ e) (wu _) ?_,rfl,q _ hf⟩;exact⟨z,us,r,⟨_,Heap.get?_push_size _ rfl,rfl,_,rfl⟩⟩
theorem yl(h:PA X es t):PE X (.List es pos) (tLst t):=by
 intro pins s σ H Q I hq;refine wpAny_List_spliced (thn (h pos pins s σ H _ I hq) fun us s1 ⟨xs,H1,I1,r,z,q⟩=>⟨by rw[← r.length];exact z,?_⟩);have hf:H1 s1.heap.objs.size=none:=I1.hok.fresh (wu _);refine⟨.ref s1.heap.objs.size,upd H1 s1.heap.objs.size (.lst xs),I1.laid (t':=s1.toks) (fun b u e=>Heap.get?_push_of_some _ e) (wu _) ?_,rfl,q _ hf⟩;exact⟨z,us,0,r,Heap.get?_push_size _ rfl⟩
end
abbrev Sp:=List V->Hp->VK->XK->Prop
abbrev CXT:=List Env->Hp->Shared->XK->Value->Shared->Prop
structure Env0(P:Program)(w:World)(K:PySem.W.Frag)(mg:Str->Option Value)(base:Heap)(A:Around)(outer:List Env)(s:Shared)(H:Hp):Prop where
 frames:A.frames=some outer
 mod:Mod K mg base
 bs:∀ b o,base.get? b=some o->s.heap.get? b=some o/\H b=none
 bsz:base.objs.size<=s.heap.objs.size
 funs:s.heap.FunFrames base outer
 frf:∀ b∈frs outer,H b=none
 hok:HOk P w H s.heap
 bare:AllBare s.gens
def CE(outer:List Env)(P:Program)(w:World)(H:Hp)(s:Shared)(Q:VK)(u:Value)(s':Shared):Prop :=
 ∃ v H',s'.os=s.os/\AllBare s'.gens/\Un (frs outer) [] H H' s.heap s'.heap/\HOk P w H' s'.heap/\RelV v u/\Q v H'
def CR(CX:CXT)(outer:List Env)(P:Program)(w:World)(H:Hp)(s:Shared)(Q:VK)(E:XK)(r:Result)(s':Shared):Prop :=
 match r with
 | .ok (.ret u)=>CE outer P w H s Q u s'
 | .ok _=>False
 | .error e=>CX outer H s E e s'
structure FnOk(P:Program)(w:World)(K:PySem.W.Frag)(mg:Str->Option Value)(base:Heap)(CX:CXT)(k:Nat)(f:Addr)(fd:FuncData)(ps:List Str)(sp:Sp):Prop where
 len:∀ vs H Q E,sp vs H Q E->vs.length=ps.length
 run:∀(A:Around)(outer:List Env)(s:Shared)(H:Hp)(args:Args)(us:List Value)(vs:List V)(Q:VK)(E:XK),Room k A->Env0 P w K mg base A outer s H->BindsTo s fd args (ps.zip us)->Vals vs us->sp vs H Q E ->
  codeAny (model P w) A (.call (.ref f) args) (CR CX outer P w H s Q E) s
theorem FnOk.imp{P:Program}{w:World}{K:PySem.W.Frag}{mg:Str->Option Value}{base:Heap}{CX:CXT}{k:Nat}{f:Addr}{fd:FuncData}{ps:List Str}{sp sp':Sp}(F:FnOk P w K mg base CX k f fd ps sp)
  (h:∀ vs H Q E,sp' vs H Q E->sp vs H Q E):FnOk P w K mg base CX k f fd ps sp' :=
 ⟨fun vs H Q E q=>F.len vs H Q E (h _ _ _ _ q),fun A outer s H args us vs Q E hr he hb hv hs=>F.run A outer s H args us vs Q E hr he hb hv (h _ _ _ _ hs)⟩
section
variable{X:Cx}{pins:List (Addr×Obj)}{σ:St}{H:Hp}{s s':Shared}
theorem Inv.env0(I:Inv X pins σ H s):Env0 X.prog X.w X.K X.mg X.base X.A X.stack s H :=
 ⟨I.ok.frames,I.ok.mod,I.bs,wN I.ok.bsz I.sz,I.stack,I.stkFree,I.hok,I.bare⟩
theorem Inv.after{Q:VK}{u:Value}(I:Inv X pins σ H s)(h:CE X.stack X.prog X.w H s Q u s'):EP X pins σ Q u s':=by
 obtain⟨v,H',os,bare,un,hok,r,q⟩:=h;obtain⟨hh,g,d,t,os'⟩:=s';obtain rfl:os'=s.os:=os;exact⟨v,H',I.call (h':=hh) (g':=g) (d':=d) (t':=t) (ch:=[]) un hok bare (fun b z=>absurd z (by simp)),r,q⟩
end
def tCall(sp:Sp)(dvs:List V)(E:XK)(t:TA):TE:=fun σ H Q=>t σ H fun vs H1=>sp (vs++dvs) H1 Q E
def Binds(K:PySem.W.Frag)(fd:FuncData)(ps:List Str)(ds:List Value):Prop :=
 ∀(s:Shared)(us:List Value),K.In s.heap->(us++ds).length=ps.length->BindsTo s fd ⟨us,[]⟩ (ps.zip (us++ds))
theorem Binds.all{K:PySem.W.Frag}{fd:FuncData}{ps:List Str}(h:∀ us:List Value,us.length=ps.length->bindArgs fd ⟨us,[]⟩=pure (ps.zip us)):Binds K fd ps []:=fun s us _ hl=>by
 rw[uN]at hl ⊢;exact .of_eq (h us hl)
def Passes(CX:CXT)(X:Cx)(E:XK):Prop:=∀(pins:List (Addr×Obj))(σ:St)(H:Hp)(s:Shared)(e:Value)(s':Shared),Inv X pins σ H s->CX X.stack H s E e s'->X.xe e s'
section
variable{X:Cx}{CX:CXT}{k:Nat}{f C:Addr}{fd:FuncData}{ps:List Str}{sp:Sp}{dvs:List V}{ds:List Value}{E:XK}{x m:Str}{p pos apos:Pos}{e o:Expr}{es:List Expr}{ta:TE}{t:TA}
theorem ziV{pins:List (Addr×Obj)}{σ:St}{H:Hp}{s:Shared}{Q:VK}{us:List Value}{vs:List V}(F:FnOk X.prog X.w X.K X.mg X.base CX k f fd ps sp)(hr:Room k X.A)(hb:Binds X.K fd ps ds)(hd:Vals dvs ds)(hx:Passes CX X E)
  (I:Inv X pins σ H s) (r:Vals vs us) (h:sp (vs++dvs) H Q E):wpAny (model X.prog X.w) X.A (call (.ref f) us) (EP X pins σ Q) X.xe s:=by
 have r2:Vals (vs++dvs) (us++ds):=r.append hd;have hl:(us++ds).length=ps.length:=by rw[← r2.length];exact F.len _ _ _ _ h
 refine wpAny_call (codeAny_mono (F.run X.A X.stack s H ⟨us,[]⟩ (us++ds) (vs++dvs) Q E hr I.env0 (hb s us I.kIn hl) r2 h) fun r s' hq=>?_);cases r with
 | error e=>exact hx pins σ H s e s' I hq
 | ok fl =>
  cases fl with
  | ret u=>exact I.after hq
  | next=>exact False.elim hq
  | brk=>exact False.elim hq
  | cont=>exact False.elim hq
theorem zij(F:FnOk X.prog X.w X.K X.mg X.base CX k f fd ps sp)(hr:Room k X.A)(hg:Gl X x)(hm:X.mg x=some (.ref f))(hk:PySem.W.keepIn X.K (.ref f)=true)(hb:Binds X.K fd ps ds)(hd:Vals dvs ds)(hx:Passes CX X E)
  (ha:PA X (e::es) t) (hdb:(x ==("__debug__" : Str))=false:=by decide) (he:starEach (e::es) X.env =(false,eval e X.env)::starEach es X.env:=by rfl) (hpl:(backTo pos (starEach es X.env)).any (·.1)=false:=by rfl) :
  PE X (.Call (.Name x p) (e::es) [] pos) (tCall sp dvs E t):=by
 intro pins s σ H Q I h;refine wpAny_Call_Name_kw (zfe I hg hm ?_ hdb);refine PySem.W.callWith_K (h₀:=X.base) I.ok.mod.kin hk (thn (ha pos pins s σ H _ I h) fun us s1 ⟨vs,H1,I1,r,q⟩=>⟨I1.kIn,?_⟩) he hpl;exact ziV F hr hb hd hx I1 r q
end
structure kad(N P:List Str)(sc:Scope):Prop where
 kind:sc.kind=.function
 co:sc.isCoroutine=false
 gen:sc.isGenerator=false
 nd:N.Nodup
 pre:N.take P.length=P
 par:∀ x∈P,sc.names.lookup x=some .local\/sc.names.lookup x=some .cell
 nofree:∀ y∈sc.names,y.2≠.free
theorem zab{kindOf:Str->Option NameKind}{x:Str}:∀ {binds:List (Str×Value)} {m:Str->Option Value},(∀ v,(x,v)∉binds)->bindL kindOf binds m x=m x
 | [],_,_=>rfl
 | (n,v)::r,m,h=>by
  unfold bindL;rw[zab fun w hw=>h w (wr _ hw)]
  split
  ·have:x≠n:=by rintro rfl;exact h v wp
   simp[this]
  ·rfl
theorem QO{kindOf:Str->Option NameKind}{x:Str}:∀ {binds:List (Str×Value)} {m:Str->Option Value},(∀ v,(x,v)∉binds)->bindC kindOf binds m x=m x
 | [],_,_=>rfl
 | (n,v)::r,m,h=>by
  unfold bindC;rw[QO fun w hw=>h w (wr _ hw)]
  split
  ·rfl
  ·have:x≠n:=by rintro rfl;exact h v wp
   simp[this]
theorem zaH{kindOf:Str->Option NameKind}{x:Str}{v:Value}:∀ {P:List Str} {vs:List Value} {i:Nat} {m:Str->Option Value},P.Nodup->P[i]?=some x->vs[i]?=some v->kindOf x=some .local ->
  bindL kindOf (P.zip vs) m x=some v
 | [],_,_,_,_,h,_,_=>by simp at h
 | _::_,[],_,_,_,_,h,_=>by simp at h
 | p::P,w::vs,0,m,nd,h1,h2,hk=>by
  simp at h1 h2;subst h1;subst h2;show bindL kindOf ((p,w)::P.zip vs) m p=_;unfold bindL;rw[zab fun v hv=>(gA.mp nd).1 (wT hv).1,if_pos hk];simp
 | p::P,w::vs,i+1,m,nd,h1,h2,hk=>by
  show bindL kindOf ((p,w)::P.zip vs) m x=_;unfold bindL;exact zaH (i:=i) (gA.mp nd).2 (by simpa using h1) (by simpa using h2) hk
theorem zaB{kindOf:Str->Option NameKind}{x:Str}{v:Value}:∀ {P:List Str} {vs:List Value} {i:Nat} {m:Str->Option Value},P.Nodup->P[i]?=some x->vs[i]?=some v->kindOf x≠some .local ->
  bindC kindOf (P.zip vs) m x=some v
 | [],_,_,_,_,h,_,_=>by simp at h
 | _::_,[],_,_,_,_,h,_=>by simp at h
 | p::P,w::vs,0,m,nd,h1,h2,hk=>by
  simp at h1 h2;subst h1;subst h2;show bindC kindOf ((p,w)::P.zip vs) m p=_;unfold bindC;rw[QO fun v hv=>(gA.mp nd).1 (wT hv).1,if_neg hk];simp
 | p::P,w::vs,i+1,m,nd,h1,h2,hk=>by
  show bindC kindOf ((p,w)::P.zip vs) m x=_;unfold bindC;exact zaB (i:=i) (gA.mp nd).2 (by simpa using h1) (by simpa using h2) hk
def start(N:List Str)(vs:List V):St:=vs.map some++wx (N.length - vs.length) none
def cxOf(CX:CXT)(P:Program)(w:World)(K:PySem.W.Frag)(mg:Str->Option Value)(base:Heap)(N:List Str)(qual:Str)(scope:Scope)(f:Addr)(cd:Value)(A:Around)(outer:List Env)(s:Shared)(H:Hp)(E:XK):Cx where
 prog:=P
 w:=w
 K:=K
 mg:=mg
 base:=base
 A:=A.deeper (envOfC qual scope s.heap.objs.size f cd)
 N:=N
 s₀:=s
 H₀:=H
 env:=envOfC qual scope s.heap.objs.size f cd
 outer:=outer
 stack:=envOfC qual scope s.heap.objs.size f cd::outer
 ex:=[]
 calm:=true
 fn:=fun _=>true
 pn:=[]
 xe:=fun e s'=>wpAny (model P w) (A.deeper (envOfC qual scope s.heap.objs.size f cd)) (leaving (envOfC qual scope s.heap.objs.size f cd) e) (fun _ s''=>CX outer H s E e s'') (fun e' s''=>CX outer H s E e' s'') s'
theorem zcF{sc:Scope}{n:Nat}{x:Str}(h:sc.names.lookup x=some .cell):∃ c,(cellsFrom n sc.names []).lookup x=some c:=by
 have q:=PySem.W.cellsFrom_some sc.names n [] (.inl h);exact Option.isSome_iff_exists.mp q
theorem zfk{CX:CXT}{P:Program}{w:World}{K:PySem.W.Frag}{mg:Str->Option Value}{base:Heap}{N ps:List Str}{qual:Str}{scope:Scope}{f:Addr}{cd:Value}{A:Around}{outer:List Env}{s s1:Shared}{H:Hp}{E:XK}{us:List Value}{vs:List V}
  (S:kad N ps scope) (hd:A.handled=none) (e0:Env0 P w K mg base A outer s H) (hl:vs.length=ps.length) (r:Vals vs us)
  (x:InCallC s s.heap.objs.size (bindL (envOfC qual scope s.heap.objs.size f cd).kindOf (ps.zip us) fun _=>none) (cellsFrom (s.heap.objs.size+1) scope.names []) (bindC (envOfC qual scope s.heap.objs.size f cd).kindOf (ps.zip us) fun _=>none) s1) :
  Inv (cxOf CX P w K mg base N qual scope f cd A outer s H E) [] (start N vs) H s1:=by
 have hpl:ps.length<=N.length:=by have:=congrArg vt S.pre;rw[wt]at this;omega
 obtain⟨h1,tk,rfl,hk⟩:=x.done;have noA:∀ b:Addr,b∉(cxOf CX P w K mg base N qual scope f cd A outer s H E).ex:=fun b z=>absurd (show b∈([]:List Addr)from z) (by simp)
 refine⟨⟨e0.mod,S.kind,rfl,rfl,wu _,fun y z c h1 h2=>?_,fun y hy=>?_,fun y c _ h=>?_,fun _=>hd,Around.frames_deeper e0.frames,.inr ⟨rfl,rfl⟩,fun b z=>absurd z (noA b),e0.bs,e0.bsz,fun b _ _=>noA b,fun b z=>absurd z (noA b),e0.funs,e0.frf⟩,
  rfl,e0.bare,Un.kept hk,⟨_,x.toInCall.ns,fun i y v h1 h2 h3=>?_⟩,fun y c h=>⟨_,x.cell y c h⟩,e0.hok.fresh (wu _),fun y c h=>?_,fun p hp=>absurd (show p∈([]:List (Addr×Obj))from hp) (by simp),e0.hok.kept hk,?_⟩
 ·exact name_of_addr x.apart (PySem.mem_of_lookup h1) (PySem.mem_of_lookup h2)
 ·have hy:scope.names.lookup y=some .cell\/scope.names.lookup y=some .free:=hy
  rcases hy with hy|hy
  ·exact zcF hy
  ·exact absurd rfl (S.nofree _ (PySem.mem_of_lookup hy))
 ·exact ux (x.above y c (PySem.mem_of_lookup h))
 ·have hi:i<vs.length:=by
   unfold start at h2
   by_cases hi:i<vs.length
   ·exact hi
   ·rw[wZ (by simpa using hi)]at h2;rw[uy]at h2
    split at h2 <;> cases h2
  have ha:vs[i]?=some v:=by
   unfold start at h2;rw[wW (by simpa using hi),wk]at h2;cases e:vs[i]? with
   | none=>rw[e]at h2;cases h2
   | some a=>rw[e]at h2;cases h2;rfl
  obtain⟨u,hu,rv⟩:=r.get ha;have hp:ps[i]?=some y:=by
   rw[← S.pre,GD (by omega)];exact h1
  have ndP:ps.Nodup:=by rw[← S.pre];exact S.nd.sublist (List.take_sublist _ _)
  refine⟨u,rv,?_⟩
  rcases S.par y (wg hp)with k|k
  ·exact .inl ⟨k,zaH ndP hp hu k⟩
  ·obtain⟨c,e⟩:=zcF (n:=s.heap.objs.size+1) k;refine .inr ⟨.inl k,c,e,?_⟩;have q:=x.cell y c e;rw[zaB ndP hp hu (by show scope.names.lookup y≠_;rw[k];decide)]at q;exact q
 ·exact e0.hok.fresh (ux (x.above y c (PySem.mem_of_lookup h)))
 ·unfold start;show _=N.length;rw[wD,wa,wL];omega
theorem zj1{CX:CXT}{P:Program}{w:World}{K:PySem.W.Frag}{mg:Str->Option Value}{base:Heap}{k:Nat}{f:Addr}{name qual:Str}{params:Arguments}{body:List Stmt}{scope:Scope}{dV kV doc pm cdv ct oc:Value}{an od:Option Addr}
  {osl:Array (Option Value)} {N ps:List Str} {sp:Sp} (lk:K.lookup f=some ⟨oc,od,.func (PySem.W.fnOf name qual params body scope dV kV doc pm an cdv ct),osl⟩) (hcd:PySem.W.codeIn K cdv qual=true) (S:kad N ps scope)
  (len:∀ vs H Q E,sp vs H Q E->vs.length=ps.length)
  (hbody:∀(A:Around)(outer:List Env)(s:Shared)(H:Hp)(vs:List V)(Q:VK)(E:XK),Room k (A.deeper (envOfC qual scope s.heap.objs.size f cdv))->sp vs H Q E ->
   ∃ t,PSs (cxOf CX P w K mg base N qual scope f cdv A outer s H E) body t/\t { nx:=fun _ H'=>Q .non H',rt:=Q } (start N vs) H) :
  FnOk P w K mg base CX (k+1) f (PySem.W.fnOf name qual params body scope dV kV doc pm an cdv ct) ps sp:=by
 refine⟨len,fun A outer s H args us vs Q E hr e0 hb r hsp=>?_⟩;have hl:=len _ _ _ _ hsp;have KX:K.In s.heap:=e0.mod.kin.keeps fun b o e=>(e0.bs b o e).1
 have lim:s.heap.NoLimit:=e0.mod.nolimit.keeps fun b o e=>(e0.bs b o e).1
 have hkind:∀ y∈ps.zip us,scope.names.lookup y.1=some .local\/(scope.names.lookup y.1=some .cell/\((cellsFrom (s.heap.objs.size+1) scope.names []).lookup y.1).isSome=true):=fun⟨n,v⟩ hy=>by
  rcases S.par n (wT hy).1 with q|q
  ·exact .inl q
  ·exact .inr ⟨q,PySem.W.cellsFrom_some _ _ _ (.inl q)⟩
 refine codeAny_call_function hr.depth (KX _ _ lk) rfl S.co S.gen rfl (PySem.W.codeRec_of KX hcd) (hb _ _ _ _ ?_);refine wpAny_newFunctionEnv_cells S.kind hkind fun env he s1 x=>?_
 subst he;refine⟨lim.keeps x.toInCall.keep,codeAny_func ?_⟩;obtain⟨t,ht,hq⟩:=hbody A outer s H vs Q E (hr.deeper _) hsp;have I:Inv (cxOf CX P w K mg base N qual scope f cdv A outer s H E) [] (start N vs) H s1:=zfk S hr.hd e0 hl r x;refine wpAny_mono (ht [] s1 (start N vs) H _ I hq) (fun fl s' hs=>?_) fun e s' hs=>hs
 have fin:∀ {σ':St} {H':Hp} {v:V} {u:Value},Inv (cxOf CX P w K mg base N qual scope f cdv A outer s H E) [] σ' H' s'->RelV v u->Q v H'->CE outer P w H s Q u s' :=
  fun {σ' H' v u} J rv q=>⟨v,H',J.os,J.bare,J.base,J.hok,rv,q⟩
 cases fl with
 | ret u =>
  obtain⟨v,σ',H',J,rv,q⟩:=hs;exact fin J rv q
 | next =>
  obtain⟨σ',H',J,q⟩:=hs;exact fin (v:=V.non) (u:=Value.none) J rfl q
 | brk =>
  obtain⟨_,_,_,q⟩:=hs;exact False.elim q
 | cont =>
  obtain⟨_,_,_,q⟩:=hs;exact False.elim q
end L2
namespace L2
open PySem PySem.Spec PyProof.Rows
section
variable{X:Cx}{x:Str}{p pos:Pos}{e:Expr}{es:List Expr}{t:TA}{id T:String}{r:List V->Hp->VK->Prop}
def tCB(r:List V->Hp->VK->Prop)(t:TA):TE:=fun σ H Q=>t σ H fun vs H1=>r vs H1 Q
theorem zw (hc:CallR X (.builtin id) r) (hg:Gl X x) (hm:X.mg x=none) (hv:bootBuiltins x=some (.builtin id)) (ha:PA X (e::es) t) (hn:x ≠ "__name__" := by decide) (hdb:(x ==("__debug__" : Str))=false:=by decide)
  (he:starEach (e::es) X.env =(false,eval e X.env)::starEach es X.env:=by rfl) (hpl:(backTo pos (starEach es X.env)).any (·.1)=false:=by rfl):PE X (.Call (.Name x p) (e::es) [] pos) (tCB r t):=by
 intro pins s σ H Q I h;refine wpAny_Call_Name_kw (zam I hg hm hv ?_ hn hdb);exact PyProof.Rows.callWith_builtin1 (thn (ha pos pins s σ H _ I h) fun us s1 ⟨vs,H1,I1,r1,q1⟩=>hc pins s1 σ H1 vs us Q I1 r1 q1) he hpl
theorem qw (hc:CallR X (.type T) r) (hg:Gl X x) (hm:X.mg x=none) (hv:bootBuiltins x=some (.type T)) (ha:PA X (e::es) t) (hn:x ≠ "__name__" := by decide) (hdb:(x ==("__debug__" : Str))=false:=by decide)
  (he:starEach (e::es) X.env =(false,eval e X.env)::starEach es X.env:=by rfl) (hpl:(backTo pos (starEach es X.env)).any (·.1)=false:=by rfl):PE X (.Call (.Name x p) (e::es) [] pos) (tCB r t):=by
 intro pins s σ H Q I h;refine wpAny_Call_Name_kw (zam I hg hm hv ?_ hn hdb);exact PyProof.Rows.callWith_type1 (thn (ha pos pins s σ H _ I h) fun us s1 ⟨vs,H1,I1,r1,q1⟩=>hc pins s1 σ H1 vs us Q I1 r1 q1) he hpl
end
end L2
namespace HT
open PySem PyProof.Rows
section
variable{prog:Program}{w:World}{A:Around}{E:Value->Shared->Prop}{s:Shared}
def sIx(n d:Nat):Option Int->Nat
 | none=>d
 | some v=>if v<0 then(v +(n:Int)).toNat else min v.toNat n
theorem ji(n d:Nat):sIx n d none=d:=rfl
theorem jM(n d k:Nat):sIx n d (some (k:Int))=min k n:=by
 show(if (k:Int)<0 then((k:Int) +(n:Int)).toNat else min (k:Int).toNat n)=min k n;rw[if_neg (by omega),wS]
end
end HT
namespace L2
open PySem PySem.Spec PyProof.Rows
abbrev TO:=St->Hp->(Option Int->Hp->Prop)->Prop
def PO(X:Cx)(e:Option Expr)(t:TO):Prop :=
 ∀(pins:List (Addr×Obj))(s:Shared)(σ:St)(H:Hp)(Q:Option Int->Hp->Prop),Inv X pins σ H s->t σ H Q ->
  wpAny (model X.prog X.w) X.A (evalPart e X.env) (fun u s'=>∃ o H',Inv X pins σ H' s'/\IsPart u o/\Q o H') X.xe s
def tNoPart:TO:=fun _ H Q=>Q none H
def tPart(t:TE):TO:=fun σ H Q=>t σ H fun x H1=>∃ i,x=.int i/\Q (some i) H1
section
variable{X:Cx}{e:Expr}{te:TE}{lo hi:Option Expr}{tl th:TO}{pos p2:Pos}
theorem je:PO X none tNoPart:=by
 intro pins s σ H Q I h;rw[evalPart_none];exact wpAny_pure ⟨none,H,I,.none,h⟩
theorem xq(h:PE X e te):PO X (some e) (tPart te):=by
 intro pins s σ H Q I hw;rw[evalPart_some];refine thn (h pins s σ H _ I hw) fun u s1 ⟨x,H1,I1,r1,q1⟩=>?_
 obtain⟨i,rfl,q⟩:=q1;obtain⟨t,rfl⟩:=r1;exact⟨some i,H1,I1,.int i t,q⟩
def SlR(X:Cx)(r:V->Option Int->Option Int->Hp->VK->Prop):Prop :=
 ∀(pins:List (Addr×Obj))(s:Shared)(σ:St)(H:Hp)(x:V)(v vl vu:Value)(lo hi:Option Int)(sl:Addr)(Q:VK),Inv X pins σ H s->RelV x v->s.heap.IsSliceOf sl vl vu .none->IsPart vl lo->IsPart vu hi->r x lo hi H Q ->
  ∃ T id,typeLookup (.type T) "__getitem__" = pure (some (.builtin id))/\s.TypeIs v T/\wpAny (model X.prog X.w) X.A (getItem v (.ref sl)) (EP X pins σ Q) X.xe s
def tSl(r:V->Option Int->Option Int->Hp->VK->Prop)(te:TE)(tl th:TO):TE:=fun σ H Q=>te σ H fun x H1=>tl σ H1 fun l H2=>th σ H2 fun u H3=>r x l u H3 Q
theorem yT{r:V->Option Int->Option Int->Hp->VK->Prop}(hr:SlR X r)(he:PE X e te)(hl:PO X lo tl)(hu:PO X hi th):PE X (.Subscript e (.Slice lo hi none p2) pos) (tSl r te tl th):=by
 intro pins s σ H Q I h;refine Subscript_ (thn (he pins s σ H _ I h) fun v s1 ⟨x,H1,I1,r1,q1⟩=>?_);refine wpAny_Slice (thn (hl pins s1 σ H1 _ I1 q1) fun vl s2 ⟨l,H2,I2,pl,q2⟩=>thn (hu pins s2 σ H2 _ I2 q2) fun vu s3 ⟨u,H3,I3,pu,q3⟩=>?_);rw[evalPart_none];refine wpAny_pure ?_;have I4:Inv X pins σ H3 { s3 with heap:=s3.heap.push { cls:=.type "slice",data:=.fields #[vl,vu,.none] } }:=I3.kept (t':=s3.toks) fun b ob q=>Heap.get?_push_of_some _ q
 obtain⟨T,id,hT,ht,hg⟩:=hr pins { s3 with heap:=s3.heap.push { cls:=.type "slice",data:=.fields #[vl,vu,.none] } } σ H3 x v vl vu l u s3.heap.objs.size Q I4 r1 (Heap.IsSliceOf.new ..) pl pu q3;show wpAny (model X.prog X.w) X.A (subscriptTail e (.Slice lo hi none p2) v (.ref s3.heap.objs.size)) (EP X pins σ Q) X.xe { s3 with heap:=s3.heap.push { cls:=.type "slice",data:=.fields #[vl,vu,.none] } };exact tail_any (ops:=[.ref s3.heap.objs.size,v]) ht hT hg (by with_unfolding_all rfl)
def cutV(xs:List V)(lo hi:Option Int):List V:=(xs.drop (HT.sIx xs.length 0 lo)).take (HT.sIx xs.length xs.length hi - HT.sIx xs.length 0 lo)
theorem zbd(xs:List V)(lo hi:Option Int):(cutV xs lo hi).length<=xs.length:=by
 unfold cutV;rw[wt,vE];omega
end
end L2
namespace L2
open PySem PySem.Spec PyProof.Rows
def ixN(n:Nat)(i:Int):Option Nat:=if 0<=i then(if i<n then some i.toNat else none)else if -(n:Int)<=i then some (i+n).toNat else none
def atI{α:Type}(xs:List α)(i:Int):Option α:=(ixN xs.length i).bind fun j=>xs[j]?
theorem zeq{n:Nat}{i:Int}{j:Nat}(h:ixN n i=some j):seqIndex? i n=some j/\j<n/\-(n:Int)<=i/\i<n:=by
 unfold ixN at h
 by_cases h0:0<=i
 ·rw[if_pos h0]at h
  by_cases h1:i<n
  ·rw[if_pos h1]at h;have e:i.toNat=j:=Option.some.inj h;exact⟨by rw[seqIndex_of h0 h1,e],by omega,by omega,h1⟩
  ·rw[if_neg h1]at h;cases h
 ·rw[if_neg h0]at h
  by_cases h1 : -(n:Int)<=i
  ·rw[if_pos h1]at h;have e:(i+n).toNat=j:=Option.some.inj h;exact⟨by rw[seqIndex_neg (by omega) h1,e],by omega,h1,by omega⟩
  ·rw[if_neg h1]at h;cases h
theorem zeT{α:Type}{xs:List α}{i:Int}{v:α}(h:atI xs i=some v):∃ j,seqIndex? i xs.length=some j/\xs[j]?=some v/\j<xs.length/\-(xs.length:Int)<=i/\i<xs.length:=by
 unfold atI at h;cases e:ixN xs.length i with
 | none=>rw[e]at h;cases h
 | some j =>
  rw[e]at h;obtain⟨h1,h2,h3,h4⟩:=zeq e;exact⟨j,h1,h,h2,h3,h4⟩
theorem zH{α:Type}{xs:List α}{j:Nat}{v:α}(h:xs[j]?=some v):atI xs (j:Int)=some v:=by
 have hj:j<xs.length:=(ww.mp h).1;have e:ixN xs.length (j:Int)=some j:=by
  unfold ixN;rw[if_pos (by omega),if_pos (by omega)];simp
 unfold atI;rw[e];exact h
def PlainIx(b:Expr):Prop:=∀ o i,subscripted b false o i=operate [o,i] (getItem o i)
def IxR(X:Cx)(r:R2):Prop :=
 ∀(value slice:Expr)(pins:List (Addr×Obj))(s:Shared)(σ:St)(H:Hp)(x y:V)(v u:Value)(Q:VK),Inv X pins σ H s->RelV x v->RelV y u->r x y H Q ->
  subscripted slice false v u=operate [v,u] (getItem v u)->wpAny (model X.prog X.w) X.A (subscriptTail value slice v u) (EP X pins σ Q) X.xe s
def MtR(X:Cx)(id:String)(r:V->List V->Hp->VK->Prop):Prop :=
 ∀(pins:List (Addr×Obj))(s:Shared)(σ:St)(H:Hp)(x:V)(xs:List V)(v:Value)(us:List Value)(Q:VK),Inv X pins σ H s->RelV x v->Vals xs us->r x xs H Q ->
  wpAny (model X.prog X.w) X.A (call (.builtin id) (v::us)) (EP X pins σ Q) X.xe s
section
variable{X:Cx}{a b:Expr}{ta tb:TE}{pos:Pos}
theorem zj3{r:R2}(hr:IxR X r)(ha:PE X a ta)(hb:PE X b tb)(hs:PlainIx b):PE X (.Subscript a b pos) (tOp r ta tb):=by
 intro pins s σ H Q I h;exact Subscript_ (binT ha hb I h fun v u s2 x y H2 I2 rx ry q=>hr a b pins s2 σ H2 x y v u Q I2 rx ry q (hs _ _))
inductive zhD(K:PySem.W.Frag)(x y:V)(H:Hp)(Q:VK):Prop where
 | mk (p:Addr) (xs:List V) (i:Int) (v:V) (h0_:x=.ref p) (h1_:y=.int i) (h2_:SqL K H p xs) (h3_:atI xs i=some v) (h4_:Q v H):zhD K x y H Q
def rIxL(K:PySem.W.Frag):R2:=fun x y H Q=>zhD K x y H Q
inductive zg3(K:PySem.W.Frag)(x y:V)(H:Hp)(Q:VK):Prop where
 | mk (p:Addr) (xs:List V) (i:Int) (v:V) (h0_:x=.ref p) (h1_:y=.int i) (h2_:SqT K H p xs) (h3_:atI xs i=some v) (h4_:Q v H):zg3 K x y H Q
def rIxT(K:PySem.W.Frag):R2:=fun x y H Q=>zg3 K x y H Q
theorem zhO:IxR X (rIxL X.K):=by
 intro value slice pins s σ H x y v u Q I rx ry h hs;obtain⟨p,xs,i,z,rfl,rfl,hq,he,q⟩:=h;cases rx;obtain⟨t,rfl⟩:=ry;obtain⟨its,r,pl,hz⟩:=I.list hq;obtain⟨j,h1,h2,h3,h4,h5⟩:=zeT he;obtain⟨w,ew,rw'⟩:=r.get h2;have hl:=r.length;have hn:=line63;have fin:EP X pins σ Q w s:=⟨z,H,I,rw',q⟩
 by_cases h0:0<=i
 ·have hj:i.toNat=j:=by
   rw[seqIndex_of h0 h5]at h1;exact Option.some.inj h1
  exact item_listR pl.isList h0 (by omega) (by rw[hj];simpa using ew) fin hs
 ·have hj:(i +(its.toArray.size:Int)).toNat=j:=by
   rw[seqIndex_neg (by omega) h4]at h1;rw[wJ,← hl];exact Option.some.inj h1
  exact subscriptTail_builtinR (x:=w) pl.isList.typeIs slot_list_getitem.lookup
   (wpAny_getItem_list_neg (Q:=fun r s'=>r=w/\EP X pins σ Q r s') pl.isList (by omega) (by rw[wJ] <;> omega) (by omega) (by rw[hj];simpa using ew) ⟨rfl,fin⟩) hs
theorem zhE:IxR X (rIxT X.K):=by
 intro value slice pins s σ H x y v u Q I rx ry h hs;obtain⟨p,xs,i,z,rfl,rfl,hq,he,q⟩:=h;cases rx;obtain⟨t,rfl⟩:=ry;obtain⟨its,r,pl,hz⟩:=I.tuple hq;obtain⟨j,h1,h2,h3,h4,h5⟩:=zeT he;obtain⟨w,ew,rw'⟩:=r.get h2;have hl:=r.length;have hn:=line63;have fin:EP X pins σ Q w s:=⟨z,H,I,rw',q⟩;exact subscriptTail_builtinR (x:=w) pl.typeIs slot_tuple_getitem.lookup
  (getItem_tuple (j:=j) (Q:=fun r s'=>r=w/\EP X pins σ Q r s') pl (by omega) (by omega) (by rw[wJ,← hl];exact h1) (by simpa using ew) ⟨rfl,fin⟩) hs
theorem zcR (its:List Value) (n j:Nat) (u:Value):Obj.mapSeq (·.setIfInBounds j u) { cls:=.type "list",data:=.seq its.toArray n }={ cls:=.type "list",data:=.seq (its.set j u).toArray n }:=by
 simp[Obj.mapSeq]
theorem Inv.lst{pins:List (Addr×Obj)}{σ:St}{H:Hp}{s:Shared}{p:Addr}{xs:List V}(I:Inv X pins σ H s)(h:H p=some (.lst xs)) :
  ∃(its:List Value)(n:Nat),Vals xs its/\s.heap.get? p=some { cls:=.type "list",data:=.seq its.toArray n }/\xs.length<=sizeLine:=by
 obtain⟨z,its,n,r,e⟩:=I.hok p _ h;exact⟨its,n,r,e,z⟩
theorem Inv.lstUpd{pins:List (Addr×Obj)}{σ:St}{H:Hp}{s:Shared}{p:Addr}{xs ys:List V}{its its':List Value}{n n':Nat}{f:Obj->Obj}(I:Inv X pins σ H s)(h:H p=some (.lst xs))
  (ho:s.heap.get? p=some { cls:=.type "list",data:=.seq its.toArray n }) (hf:f { cls:=.type "list",data:=.seq its.toArray n }={ cls:=.type "list",data:=.seq its'.toArray n' }) (r:Vals ys its') (hz:ys.length<=sizeLine) (t:Nat) :
  Inv X pins σ (upd H p (.lst ys)) { s with heap:=s.heap.update p f,toks:=t }:=by
 have e:(s.heap.update p f).get? p=some { cls:=.type "list",data:=.seq its'.toArray n' }:=by
  rw[Heap.get?_update_self f ho (by rw[hf] <;> rfl),hf]
 refine I.write (x:=p) (e:=p) (by rw[h];trivial) (.inl rfl) (fun b u hb q=>(Heap.get?_update_other _ _ (Ne.symm hb)).trans q) ⟨_,e⟩ ?_;exact⟨hz,its',n',r,e⟩
inductive zeL(o i v:V)(H:Hp)(Q:Hp->Prop):Prop where
 | mk (p:Addr) (xs:List V) (k:Int) (j:Nat) (h0_:o=.ref p) (h1_:i=.int k) (h2_:H p=some (.lst xs)) (h3_:ixN xs.length k=some j) (h4_:Q (upd H p (.lst (xs.set j v)))):zeL  o i v H Q
def rSetL:V->V->V->Hp->(Hp->Prop)->Prop:=fun o i v H Q=>zeL  o i v H Q
theorem qd:PSet X rSetL:=by
 intro pins s σ H o i v ov iv u Q I ro ri rv h;obtain⟨p,xs,k,j,rfl,rfl,hp,hj,q⟩:=h;cases ro;obtain⟨t,rfl⟩:=ri;obtain⟨its,n,r,ho,hz⟩:=I.lst hp;obtain⟨h1,h2,h3,h4⟩:=zeq hj;have hl:=r.length;have hn:=line63;have I':Inv X pins σ (upd H p (.lst (xs.set j v))) { s with heap:=s.heap.update p (Obj.mapSeq (·.setIfInBounds j u)) } :=
  I.lstUpd hp ho (zcR its n j u) (r.set rv j) (by rw[vg];exact hz) s.toks
 by_cases h0:0<=k
 ·have hk:k.toNat=j:=by
   rw[seqIndex_of h0 h4]at h1;exact Option.some.inj h1
  exact PySem.W.ki_setAt ho h0 (by omega) (by rw[wJ,← hl];exact h4) (by rw[hk];exact⟨_,I',q⟩)
 ·have hk:(k +(its.toArray.size:Int)).toNat=j:=by
   rw[seqIndex_neg (by omega) h3]at h1;rw[wJ,← hl];exact Option.some.inj h1
  exact PySem.W.ki_setBack ho (by omega) (by rw[wJ,← hl];exact h3) (by omega) (by rw[hk];exact⟨_,I',q⟩)
theorem zau(lo hi:Option Int)(n:Nat):(sliceBounds lo hi none n).1 =((HT.sIx n 0 lo:Nat):Int)/\(sliceBounds lo hi none n).2.1 =((HT.sIx n n hi:Nat):Int)/\(sliceBounds lo hi none n).2.2=1:=by
 refine⟨?_,?_,rfl⟩
 ·cases lo with
  | none=>simp[sliceBounds,HT.sIx]
  | some i =>
   simp only[sliceBounds,HT.sIx,wax,show(1:Int) > 0 by decide,if_true]
   by_cases h:i<0
   ·simp only[h,if_true] <;> omega
   ·simp only[h,if_false] <;> omega
 ·cases hi with
  | none=>simp[sliceBounds,HT.sIx]
  | some i =>
   simp only[sliceBounds,HT.sIx,wax,show(1:Int) > 0 by decide,if_true]
   by_cases h:i<0
   ·simp only[h,if_true] <;> omega
   ·simp only[h,if_false] <;> omega
theorem Qu(its:List Value)(lo hi:Option Int):slicePick its.toArray lo hi none =((its.drop (HT.sIx its.length 0 lo)).take (HT.sIx its.length its.length hi - HT.sIx its.length 0 lo)).toArray:=by
 obtain⟨h1,h2,h3⟩:=zau lo hi its.toArray.size;unfold slicePick;rw[h1,h2,h3];simp only[sliceRange_one,pick_run,wJ] <;> rfl
inductive zg9(K:PySem.W.Frag)(x:V)(lo hi:Option Int)(H:Hp)(Q:VK):Prop where
 | mk (a:Addr) (xs:List V) (h0_:x=.ref a) (h1_:SqL K H a xs) (h2_:∀ p,H p=none->Q (.ref p) (upd H p (.lst (cutV xs lo hi)))):zg9 K x lo hi H Q
def rSlL(K:PySem.W.Frag):V->Option Int->Option Int->Hp->VK->Prop:=fun x lo hi H Q=>zg9 K x lo hi H Q
theorem zep:SlR X (rSlL X.K):=by
 intro pins s σ H x v vl vu lo hi sl Q I rx hs pl pu h;obtain⟨a,xs,rfl,hx,q⟩:=h;cases rx;obtain⟨its,r,ht,hz⟩:=I.list hx;have hlen:=r.length;refine⟨"list",_,slot_list_getitem.lookup,ht.isList.typeIs,?_⟩;refine wpAny_getItem_list_slice ht.isList hs pl pu .none (by simp) ?_ (by rw[wJ] <;> omega);rw[Qu,← hlen];refine⟨.ref s.heap.objs.size,_,I.laid (t':=s.toks) (o:=.lst (cutV xs lo hi)) (fun b ob q=>Heap.get?_push_of_some _ q) (wu _) ?_,rfl,q _ (I.hok.fresh (wu _))⟩;exact⟨wN (zbd xs lo hi) hz,_,0,(r.drop (HT.sIx xs.length 0 lo)).take (HT.sIx xs.length xs.length hi - HT.sIx xs.length 0 lo),Heap.get?_push_size _ rfl⟩
theorem zae:CallR X (.builtin "len") (fun xs H Q=>∃ p ys,xs=[.ref p]/\(SqL X.K H p ys\/SqT X.K H p ys)/\Q (.int ys.length) H):=by
 intro pins s σ H xs us Q I r h;obtain⟨p,ys,rfl,hq,q⟩:=h;obtain⟨u,rfl,rx⟩:=vals1 r;cases rx;have hn:=line63
 rcases hq with hq|hq
 ·obtain⟨its,r',pl,hz⟩:=I.list hq;have hlen:=r'.length;exact Calls.call_len_list pl.isList (by simp only[wJ] <;> omega) ⟨.int ys.length,H,I.tok _,⟨s.toks+1,by rw[wJ,hlen]⟩,q⟩
 ·obtain⟨its,r',pl,hz⟩:=I.tuple hq;have hlen:=r'.length;exact len_tuple pl (by simp only[wJ] <;> omega) ⟨.int ys.length,H,I.tok _,⟨s.toks+1,by rw[wJ,hlen]⟩,q⟩
theorem QV:CallR X (.type "list") (fun xs H Q=>∃ p ys,xs=[.ref p]/\(SqL X.K H p ys\/SqT X.K H p ys)/\∀ l,H l=none->Q (.ref l) (upd H l (.lst ys))):=by
 intro pins s σ H xs us Q I r h;obtain⟨p,ys,rfl,hq,q⟩:=h;obtain⟨u,rfl,rx⟩:=vals1 r;cases rx;have fin:∀(its:List Value),Vals ys its->ys.length<=sizeLine->∀(h':Heap)(c':Nat),(∀ b o',s.heap.get? b=some o'->h'.get? b=some o') ->
   h'.get? s.heap.objs.size=some { cls:=.type "list",dict:=none,data:=.seq its.toArray c',slots:=#[] }->EP X pins σ Q (.ref s.heap.objs.size) { s with heap:=h' }:=fun its r' hz h' c' kp e =>
  ⟨.ref s.heap.objs.size,_,I.laid (t':=s.toks) kp (wu _) (show ObjOk X.prog X.w _ h' _ (.lst ys)from⟨hz,its,c',r',e⟩),rfl,q _ (I.hok.fresh (wu _))⟩
 rcases hq with hq|hq
 ·obtain⟨its,r',pl,hz⟩:=I.list hq;have hlen:=r'.length;obtain⟨o,ho,hc,n,hd⟩:=pl.isList;exact call_list_seq p (.inl rfl) ho hc hd (fun h' c' kp e=>fin its r' hz h' c' kp e) (by simp only[wJ] <;> omega)
 ·obtain⟨its,r',pl,hz⟩:=I.tuple hq;have hlen:=r'.length;obtain⟨o,ho,hc,n,hd⟩:=pl;exact call_list_seq p (.inr rfl) ho hc hd (fun h' c' kp e=>fin its r' hz h' c' kp e) (by simp only[wJ] <;> omega)
def tyV(K:PySem.W.Frag)(T:String)(x:V)(H:Hp):Prop:=match x with
 | .str _=>T = "str"
 | .int _=>T = "int"
 | .ref p=>(T = "list" /\ ∃ xs,SqL K H p xs)\/(T = "tuple" /\ ∃ o,K.lookup p=some o/\o.cls=.type "tuple" /\ o.dict=none) \/
   (T = "dict" /\ ((∃ kvs,H p=some (.dK kvs))\/∃ kvs,H p=some (.dT kvs)))\/(T = "set" /\ ∃ S n,H p=some (.set S n))
 | _=>False
theorem zjp{pins:List (Addr×Obj)}{σ:St}{H:Hp}{s:Shared}{T:String}{x:V}{v:Value}(I:Inv X pins σ H s)(r:RelV x v)(ty:tyV X.K T x H) :
  s.TypeIs v T/\∀ a,v=.ref a->∃ ob,s.heap.get? a=some ob/\ob.dict=none:=by
 cases x with
 | str z =>
  obtain⟨t,rfl⟩:=r;cases (show T = "str" from ty);exact⟨typeIs_str s z t,fun _ e=>nomatch e⟩
 | int i =>
  obtain⟨t,rfl⟩:=r;cases (show T = "int" from ty);exact⟨typeIs_int s i t,fun _ e=>nomatch e⟩
 | ref p =>
  cases r
  rcases ty with⟨rfl,xs,hq⟩|⟨rfl,o,hk,hc,hd⟩|⟨rfl,hk⟩|⟨rfl,S,n,hk⟩
  ·obtain⟨its,_,pl,_⟩:=I.list hq;refine⟨pl.isList.typeIs,fun a e=>?_⟩;cases e;obtain⟨o,n,e,c,hd,_⟩:=pl;exact⟨o,e,hd⟩
  ·refine⟨⟨o,I.kIn p o hk,hc⟩,fun a e=>?_⟩;cases e;exact⟨o,I.kIn _ o hk,hd⟩
  ·have z:∃ o,s.heap.get? p=some o/\o.ExactDict:=by
    rcases hk with⟨kvs,hk⟩|⟨kvs,hk⟩
    ·obtain⟨_,_,_,_,o,_,_,e,ex,_⟩:=I.hok p _ hk;exact⟨o,e,ex⟩
    ·obtain⟨_,_,_,_,o,_,_,e,ex,_⟩:=I.hok p _ hk;exact⟨o,e,ex⟩
   obtain⟨o,e,ex⟩:=z;refine⟨⟨o,e,ex.1⟩,fun a e2=>?_⟩;cases e2;exact⟨o,e,ex.2.1⟩
  ·obtain⟨o,_,_,_,e,ex,_⟩:=I.hok p _ hk;refine⟨⟨o,e,ex.1⟩,fun a e2=>?_⟩;cases e2;exact⟨o,e,ex.2.1⟩
 | _=>exact False.elim ty
def tBM(K:PySem.W.Frag)(T:String)(r:V->List V->Hp->VK->Prop)(to:TE)(t:TA):TE:=fun σ H Q=>to σ H fun x H1=>tyV K T x H1/\t σ H1 fun xs H2=>r x xs H2 Q
variable{o e:Expr}{es:List Expr}{to:TE}{t:TA}{name:Str}{apos cpos:Pos}{T id:String}{r:V->List V->Hp->VK->Prop}
theorem Zy (pa:PlainAttrs T) (slot:Slot T name id) (hty:typeOf (.builtin id)=pure (.type "method_descriptor")) (hm:MtR X id r) (ho:PE X o to) (ha:PA X (e::es) t)
  (hbase:attributeBase o name X.env (eval o X.env)=eval o X.env:=by rfl)
  (hfew:((backTo cpos (starEach (e::es) X.env)).all (fun x=>!x.1) && (backToKw cpos (keywordEach [] X.env)).all (fun x=>x.1.isSome)
   && decide ((e::es).length +([]:List Keyword).length +(if ([]:List Keyword).isEmpty then 0 else 1)<30))=true:=by rfl)
  (hline:(apos.endLine == cpos.line)=true:=by rfl) (hs:starEach (e::es) X.env =(false,eval e X.env)::starEach es X.env:=by rfl) (hplain:(backTo cpos (starEach es X.env)).any (·.1)=false:=by rfl) :
  PE X (.Call (.Attribute o name apos) (e::es) [] cpos) (tBM X.K T r to t):=by
 intro pins s σ H Q I h;refine wpAny_Call_method_late hbase hfew hline rfl (thn (ho pins s σ H _ I h) fun v s1 ⟨x,H1,I1,r1,ty,q1⟩=>?_);obtain⟨h1,h2⟩:=zjp I1 r1 ty;refine⟨T,id,pa,slot,hty,h1,h2,?_⟩;have hA:=ha cpos pins s1 σ H1 _ I1 q1;rw[hs]at hA ⊢;refine Calls.callWith_builtin (by show(false || (backTo cpos (starEach es X.env)).any (·.1))=false;rw[hplain] <;> rfl) (Calls.evalArgs_plain ?_);exact thn hA fun us s2 ⟨vs,H2,I2,r2,q2⟩=>hm pins s2 σ H2 x vs v us Q I2 r1 r2 q2
end
end L2
namespace L2
open PySem PySem.Spec PyProof.Rows
def MtM(X:Cx)(id:String)(r:V->List V->Hp->VK->Prop):Prop :=
 ∀(pins:List (Addr×Obj))(s:Shared)(σ:St)(H:Hp)(x:V)(xs:List V)(v:Value)(us:List Value)(Q:VK),Inv X pins σ H s->RelV x v->Vals xs us->r x xs H Q ->
  wpAny (model X.prog X.w) X.A (call (.builtin id) (v::us)) (EP X pins σ Q) X.xe s
theorem Vals.one:∀ {x:V} {us:List Value},Vals [x] us->∃ u,us=[u]/\RelV x u
 | _,_,.cons r .nil=>⟨_,rfl,r⟩
theorem Vals.two:∀ {x y:V} {us:List Value},Vals [x,y] us->∃ u v,us=[u,v]/\RelV x u/\RelV y v
 | _,_,_,.cons r (.cons q .nil)=>⟨_,_,rfl,r,q⟩
theorem Vals.rep{xs:List V}{us:List Value}(h:Vals xs us):∀ k:Nat,Vals (wx k xs).flatten (wx k us).flatten
 | 0=>.nil
 | k+1=>by
  rw[vQ,vQ,vV,vV];exact Vals.append h (Vals.rep h k)
theorem QR(its:List Value):∀(k:Nat)(acc:List Value),
  waR (fun x1 x2=>x1++x2) acc.toArray (wx k its.toArray) =(acc ++(wx k its).flatten).toArray
 | 0,acc=>by simp
 | k+1,acc=>by
  have e:acc.toArray++its.toArray =(acc++its).toArray:=by simp
  have e2:(acc++its) ++(wx k its).flatten=acc ++(wx (k+1) its).flatten:=by
   rw[vQ,vV,waq]
  rw[← e2,← QR its k (acc++its),← e,vQ,Gf]
section
variable{X:Cx}{pins:List (Addr×Obj)}{σ:St}{H:Hp}{s:Shared}{l b:Addr}{xs ys zs:List V}
theorem Inv.lset{its its':List Value}{n:Nat}{f:Array Value->Array Value}{t':Nat}(I:Inv X pins σ H s)(hH:H l=some (.lst xs))
  (e:s.heap.get? l=some { cls:=.type "list",data:=.seq its.toArray n }) (hf:f its.toArray=its'.toArray) (hv:Vals ys its') (hz:ys.length<=sizeLine) :
  Inv X pins σ (upd H l (.lst ys)) { s with heap:=s.heap.update l (Obj.mapSeq f),toks:=t' }:=by
 have q:=PySem.IsL.update e f;rw[hf]at q;refine I.write (x:=l) (e:=l) (by rw[hH];exact trivial) (.inl rfl) (fun b' u hb hu=>(Heap.get?_update_other s.heap (Obj.mapSeq f) (Ne.symm hb)).trans hu) ⟨_,q⟩ ?_;exact⟨hz,its',_,hv,q⟩
theorem Inv.lnew{its:List Value}{t':Nat}(I:Inv X pins σ H s)(hv:Vals ys its)(hz:ys.length<=sizeLine) :
  Inv X pins σ (upd H s.heap.objs.size (.lst ys)) { s with heap:=s.heap.push { cls:=.type "list",data:=.seq its.toArray },toks:=t' } :=
 I.laid (fun _ _ q=>Heap.get?_push_of_some _ q) (wu _) ⟨hz,its,0,hv,Heap.get?_push_size _ rfl⟩
theorem Inv.fresh(I:Inv X pins σ H s):H s.heap.objs.size=none:=I.hok.fresh (wu _)
theorem Inv.lstM (I:Inv X pins σ H s) (hH:H l=some (.lst xs)):xs.length<=sizeLine/\∃(its:List Value)(n:Nat),Vals xs its/\xs.length=its.length/\s.heap.get? l=some { cls:=.type "list",data:=.seq its.toArray n }:=by
 obtain⟨z,its,n,r,e⟩:=I.hok l _ hH;exact⟨z,its,n,r,r.length,e⟩
theorem notLongL{n:Nat}(h:n<=sizeLine):Builtin.List.listTooLong n=false:=by
 unfold Builtin.List.listTooLong;exact decide_eq_false (by omega)
end
section
variable{X:Cx}
inductive zaK(x:V)(vs:List V)(H:Hp)(Q:VK):Prop where
 | mk (l:Addr) (xs:List V) (y:V) (h0_:x=.ref l) (h1_:vs=[y]) (h2_:H l=some (.lst xs)) (h3_:xs.length<sizeLine) (h4_:Q .non (upd H l (.lst (xs++[y])))):zaK  x vs H Q
def rAppend:V->List V->Hp->VK->Prop:=fun x vs H Q=>zaK  x vs H Q
theorem yK:MtM X "list.append" rAppend:=by
 intro pins s σ H x vs v us Q I rx rv h;obtain⟨l,xs,y,rfl,rfl,hH,hz,q⟩:=h;cases rx;obtain⟨u,rfl,ru⟩:=rv.one;obtain⟨z,its,n,r,hl,e⟩:=I.lstM hH;refine call_meets F.slot_list_append ⟨_,e,rfl⟩ F.entry_list_append (F.args_list_append_2 _ _) (PySem.list_append l its.toArray n u (by rw[wJ];omega)) ⟨e,?_⟩;refine⟨.non,_,I.lset (its':=its++[u]) hH e (by simp) (r.append (.cons ru .nil)) ?_,rfl,q⟩;rw[wD,GU];omega
def rExtend:V->List V->Hp->VK->Prop:=fun x vs H Q=>∃ l b xs zs,x=.ref l/\vs=[.ref b]/\H l=some (.lst xs)/\H b=some (.lst zs)/\xs.length+zs.length<=sizeLine/\Q .non (upd H l (.lst (xs++zs)))
theorem zav:MtM X "list.extend" rExtend:=by
 intro pins s σ H x vs v us Q I rx rv h;obtain⟨l,b,xs,zs,rfl,rfl,hH,hB,hz,q⟩:=h;cases rx;obtain⟨u,rfl,ru⟩:=rv.one;cases ru;obtain⟨z,its,n,r,hl,e⟩:=I.lstM hH;obtain⟨z2,its2,n2,r2,hl2,e2⟩:=I.lstM hB;have hsz:its.toArray.size+its2.toArray.size<=sizeLine:=by rw[wJ,wJ];omega
 have hlong:¬(!its.toArray.isEmpty && Builtin.List.listTooLong (its.toArray.size+its2.toArray.size))=true:=by
  rw[notLongL hsz,Bool.and_false];exact wX
 refine call_meets F.slot_list_extend ⟨_,e,rfl⟩ F.entry_list_extend (F.args_list_extend_2 _ _)
  (AutoSeq1.list_extend_list_list_0 l its.toArray n b its2.toArray n2 hlong (by rw[wJ];omega) (by omega)) ⟨e,e2,?_⟩
 refine⟨.non,_,I.lset (its':=its++its2) hH e (by simp) (r.append r2) ?_,rfl,q⟩;rw[wD];omega
inductive zhC(x y:V)(H:Hp)(Q:VK):Prop where
 | mk (l b:Addr) (xs zs:List V) (h0_:x=.ref l) (h1_:y=.ref b) (h2_:H l=some (.lst xs)) (h3_:H b=some (.lst zs)) (h4_:xs.length+zs.length<=sizeLine) (h5_:∀ p,H p=none->Q (.ref p) (upd H p (.lst (xs++zs)))):zhC  x y H Q
def rCat:R2:=fun x y H Q=>zhC  x y H Q
theorem qh:OpR X (binaryOp .Add) rCat:=by
 intro pins s σ H x y v u Q I rx ry h;obtain⟨l,b,xs,zs,rfl,rfl,hH,hB,hz,q⟩:=h;cases rx;cases ry;obtain⟨z,its,n,r,hl,e⟩:=I.lstM hH;obtain⟨z2,its2,n2,r2,hl2,e2⟩:=I.lstM hB;refine PySem.P.add_list e e2 ?_ (by rw[wJ,wJ];omega);have ea:its.toArray++its2.toArray =(its++its2).toArray:=by simp
 rw[ea];exact⟨.ref _,_,I.lnew (t':=s.toks) (r.append r2) (by rw[wD];omega),rfl,q _ I.fresh⟩
def rRep:R2:=fun x y H Q=>∃ l k xs,x=.ref l/\y=.int k/\H l=some (.lst xs)/\-(2^63)<=k/\k<2^63/\xs.length*k.toNat<=sizeLine /\
 ∀ p,H p=none->Q (.ref p) (upd H p (.lst (wx k.toNat xs).flatten))
theorem zhP{α:Type}(xs:List α)(k:Nat):(wx k xs).flatten.length=k*xs.length:=by
 induction k with
 | zero=>simp
 | succ k ih=>rw[vQ,vV,wD,ih,uk,waT]
theorem zjv:OpR X (binaryOp .Mult) rRep:=by
 intro pins s σ H x y v u Q I rx ry h;obtain⟨l,k,xs,rfl,rfl,hH,h1,h2,hz,q⟩:=h;cases rx;obtain⟨t,rfl⟩:=ry;obtain⟨z,its,n,r,hl,e⟩:=I.lstM hH;have hlen:its.toArray.size*k.toNat<=sizeLine:=by rw[wJ,← hl];exact hz
 have hcap:¬ its.toArray.size*k.toNat >(2^63 - 1) / 8:=by
  have:(sizeLine:Nat)<=(2^63 - 1) / 8:=by decide
  omega
 have hfit:¬(!Builtin.List.listFitsIndex k)=true:=by
  rw[fitsIndex_both h1 h2];exact wX
 have hlong:¬ Builtin.List.listTooLong (its.toArray.size*k.toNat)=true:=by
  rw[notLongL hlen];exact wX
 have hnew:waR (fun x1 x2=>x1++x2) #[] (wx (if its.toArray.isEmpty=true then 0 else k.toNat) its.toArray) =(wx k.toNat its).flatten.toArray:=by
  have f0:∀ m:Nat,waR (fun x1 x2=>x1++x2) #[] (wx m its.toArray) =(wx m its).flatten.toArray:=fun m=>by
   have:=QR its m [];rw[waI]at this;exact this
  rw[f0];cases its with
  | nil=>simp
  | cons a r'=>rw[if_neg (by simp)]
 refine wpAny_binaryOp_repeat_ref (T := "list") (U := "int") (by decide) ⟨_,e,rfl⟩ (fun s'=>typeIs_int s' k t) noFill_list_mul F.fills_int_mul F.slot_int_rmul repeat_list F.slot_int_index.lookup
  (call_meets F.slot_int_rmul (typeIs_int s k t) F.entry_int_rmul (F.args_int_rmul_2 _ _) (int___rmul___int_list k t l its.toArray n)
   ⟨e,rfl,⟨_,e,rfl⟩,call_meets F.slot_list_mul ⟨_,e,rfl⟩ F.entry_list_mul (F.args_list_mul_2 _ _) (AutoListH.list___mul___list_int_3 l its.toArray n k t hfit hcap hlong) ⟨e,?_⟩⟩)
 rw[hnew];exact⟨.ref _,_,I.lnew (t':=s.toks) (r.rep k.toNat) (by rw[zhP,gR];exact hz),rfl,q _ I.fresh⟩
end
end L2
namespace Att
open PySem PySem.W PySem.Calls PyProof.Rows
theorem Xi{P:Params}{h:Heap}:∀(ns:List Int)(vs:List Value),WellAll P h vs (ns.map WData.int)->IntsAre vs ns:=by
 intro ns
 induction ns with
 | nil =>
  intro vs w;rw[Gi]at w;cases w;exact .nil
 | cons n ns ih =>
  intro vs w;rw[vW]at w;cases w with
  | cons a b =>
   cases a;exact .cons _ _ (ih _ b)
theorem zfL{l:OpenLaw}{n:Nat}(hn:l.most=some n){P:Params}{h:Heap}{args:List WData}{vals:List Value}
  (hpre:l.row.toRowW.claim.pre args=true) (hwl:WellAll P h vals args) :
  ∃ a vs ns,vals=[Value.ref a]/\args=[WData.list (ns.map WData.int)]/\h.get? a=some { cls:=.type "list",data:=.seq vs.toArray }/\IntsAre vs ns/\ns.length<=n:=by
 have hsh:WShape.hasAll [] args [.list .int]=true:=(pre_splitW hpre).1;have hc:l.pre.holds [] { args:=args }=true:=(pre_splitW hpre).2;obtain⟨d,r,rfl,h1,h2⟩:=hasAllW_cons hsh;obtain rfl:=hasAllW_nil h2;obtain⟨xs,rfl,h3⟩:=hasW_list h1;obtain⟨ns,rfl⟩:=items_int h3;have hlen:ns.length<=n:=by
  unfold OpenLaw.pre at hc;have h4:(WTm.not (.lt (.lit (.int (n:Int))) (.len (.arg 0)))).holds [] { args:=[.list (ns.map .int)] }=true:=by
   have h4:=(holds_andW hc).1;rw[hn]at h4;exact h4
  have h5:=condW_of h4 (w_not (w_lt w_lit (w_len_list (w_arg rfl))));rw[wa]at h5;refine way fun q=>?_
  have q':(n:Int) <((ns.length:Nat):Int):=by omega
  first
   | (rw[decide_eq_true q']at h5;exact absurd h5 (by decide))
   | (simp at h5;omega)
 cases hwl with
 | cons w1 w2 =>
  cases w2;cases w1 with
  | list ho hall=>exact⟨_,_,ns,rfl,rfl,ho,Xi ns _ hall,hlen⟩
theorem zeX(l:OpenLaw)(args:List WData):l.row.toRowW.claim.post args (.bool true) args=true :=
 postW_of (r:=l.row.toRowW) (X:=(true == true))
  (show WShape.has [] (.bool true) .bool=true by first|rfl|decide|simp[WShape.has,WShape.arms,WShape.armsAll])
  (show(WTm.eq .res (.lit (.bool true))).value [] { args:=args,res:=some (.bool true),after:=args }=some (.bool (true == true))from w_eq_bool (w_res rfl) w_lit) rfl
theorem za3{l:OpenLaw}{n:Nat}{q:Program}{loose:List Str}{XP:(Str->Option Value)->Heap->Prop}{YP:World->Heap->Prop}{d:DefRec}
  (hn:l.most=some n) (hdf:d.params.defaults=[])
  (call:∀(w:World)(s₀ s₁:Shared)(mg mb:Str->Option Value)(fa:Addr)(o:Obj)(pm cd doc:Value)(a:Addr)(vs:List Value)(ns:List Int),
   Ground q loose [] XP w s₀ mg mb s₁.heap->YP w s₁.heap ->
   s₁.heap.get? fa=some o->o.data=.func (docDef d.name d.params d.body d.scope pm cd doc)->s₁.heap.CodeRec cd d.name->mg d.name=some (.ref fa) ->
   s₁.heap.get? a=some { cls:=.type "list",data:=.seq vs.toArray }->IntsAre vs ns->ns.length<=n->s₁.gens=#[] ->
   codeAny (model l.prog w) callerA (.call (.ref fa) ⟨[.ref a],[]⟩) (fun r s'=>r=.ok (.ret (.bool true))/\OldK s₁.heap s'.heap/\s'.os=s₁.os/\AllBare s'.gens) s₁) :
  WalkO q loose XP YP l.row.toRowW d [] (fun f vs=>PySem.call f vs):=by
 intro w s₀ s₁ mg mb G Y fa o pm cd doc dV kV ho hd hcd hD hmg hg args vals as hpre hlay hrd hwl hlo;obtain rfl:dV=.none:=Dflts.none hD hdf;obtain rfl:kV=.none:=Dflts.noKw hD;obtain⟨a,vs,ns,rfl,rfl,hobj,hints,hlen⟩:=zfL hn hpre hwl;refine enter_call (codeAny_mono (call w s₀ s₁ mg mb fa o pm cd doc a vs ns G Y ho (fd_plain hd) hcd hmg hobj hints hlen hg) fun r s' hq=>?_);obtain⟨rfl,h2,h3,h4⟩:=hq;exact⟨.inl ⟨.bool true,.bool true,[],rfl,fun _=>rfl,.bool true,zeX l _,fun _=>⟨List.Pairwise.nil,fun _ hm=>(nomatch hm)⟩⟩,h2,h3,h4⟩
end Att
namespace L2
open PySem PySem.Spec PyProof.Rows
theorem zaI:∀ {vs:List Value} {ns:List Int},IntsAre vs ns->Vals (ns.map V.int) vs
 | _,_,.nil=>.nil
 | _,_,.cons n t h=>.cons ⟨t,rfl⟩ (zaI h)
def Only(H:Hp):Prop:=∀ b,H b=none\/∃ o xs,H b=some (.frz o (.lst xs))
theorem zgA{P:Program}{w:World}{K:PySem.W.Frag}{mg mb:Str->Option Value}{CX:CXT}{k:Nat}{fa a:Addr}{fd:FuncData}{x:Str}{sp:Sp}{s₁:Shared}{vs:List Value}{ns:List Int}
  (KX:K.In s₁.heap) (hns:s₁.heap.Ns mainGlobals mg) (hb:s₁.heap.Ns builtinsNs mb) (hbb:∀ x:Str,x ≠ "__name__" -> mb x=bootBuiltins x) (hlim:s₁.heap.NoLimit) (hSe:s₁.heap.NoSeer) (hg:s₁.gens=#[])
  (ha:s₁.heap.get? a=some { cls:=.type "list",data:=.seq vs.toArray }) (hi:IntsAre vs ns) (hl:ns.length<=sizeLine) (hr:Room k callerA)
  (F:∀ base:Heap,K.In base->base.Ns mainGlobals mg->base.NoSeer->FnOk P w K mg base CX k fa fd [x] sp) (hbind:∀(s:Shared)(u:Value),BindsTo s fd ⟨[u],[]⟩ [(x,u)])
  (hsp:∀ H:Hp,Only H->SqL K H a (ns.map V.int)->sp [.ref a] H (fun v _=>v=.bl true) fun _ _ _=>False)
  (hCX:∀ H e s',CX [] H s₁ (fun _ _ _=>False) e s'->False) :
  codeAny (model P w) callerA (.call (.ref fa) ⟨[.ref a],[]⟩) (fun r s'=>r=.ok (.ret (.bool true))/\OldK s₁.heap s'.heap/\s'.os=s₁.os/\AllBare s'.gens) s₁:=by
 have rv:=zaI hi;have lenV:=hi.length;have core:∀ H:Hp,Only H->SqL K H a (ns.map V.int)->HOk P w H s₁.heap->(∀ b,H b≠none->b=a)->(H a≠none->K.lookup a=none) ->
   codeAny (model P w) callerA (.call (.ref fa) ⟨[.ref a],[]⟩) (fun r s'=>r=.ok (.ret (.bool true))/\OldK s₁.heap s'.heap/\s'.os=s₁.os/\AllBare s'.gens) s₁:=by
  intro H hO hS hok hA hK;have base_of:∀ {b:Addr} {o:Obj},s₁.heap.get? b=some o->H b=none->(hidT s₁.heap H).get? b=some o:=fun e n=>zgG e n
  have noA:∀ {b:Addr} {o:Obj} {es:Array DictEntry} {ep:Nat},s₁.heap.get? b=some o->o.data=.dict es ep->H b=none:=fun {b o es ep} e d=>by
   cases q:H b with
   | none=>rfl
   | some u =>
    have e':b=a:=hA b (by rw[q];simp);subst e';rw[ha]at e;cases e;have d':Data.seq vs.toArray _=Data.dict es ep:=d;cases d'
  have nsK:∀ {b:Addr} {m:Str->Option Value},s₁.heap.Ns b m->(hidT s₁.heap H).Ns b m:=fun {b m} ⟨o,es,ep,e,d,r⟩=>⟨o,es,ep,base_of e (noA e d),d,r⟩
  have hKb:K.In (hidT s₁.heap H):=fun b o e=>base_of (KX b o e) (by
   cases q:H b with
   | none=>rfl
   | some u =>
    have e':b=a:=hA b (by rw[q];simp);subst e';rw[hK (by rw[q];simp)]at e;cases e)
  have hM:Mod K mg (hidT s₁.heap H):=⟨hKb,nsK hns,⟨mb,nsK hb,hbb⟩,let ⟨mc,h1,h2⟩:=hlim;⟨mc,nsK h1,h2⟩⟩;have e0:Env0 P w K mg (hidT s₁.heap H) callerA [] s₁ H:=⟨rfl,hM,fun b o e=>zix e,gj (zel _ _),trivial,fun b hb=>absurd (show b∈([]:List Addr)from hb) (by simp),hok,.of_eq hg⟩;have hSb:(hidT s₁.heap H).NoSeer:=⟨(let ⟨mc,h1,h2⟩:=hSe.statics;⟨mc,nsK h1,h2⟩),(let ⟨mc,h1,h2⟩:=hSe.mods;⟨mc,nsK h1,h2⟩),(let ⟨mc,h1,h2⟩:=hSe.imp;⟨mc,nsK h1,h2⟩),by
   obtain⟨m',bm,ob,h1,h2,h3,h4,h5⟩:=hSe.main;refine⟨m',bm,ob,nsK h1,h2,base_of h3 ?_,h4,h5⟩;cases q:H bm with
   | none=>rfl
   | some u =>
    have e':bm=a:=hA bm (by rw[q];simp);subst e';rw[ha]at h3;cases h3;exact absurd h4 (by simp)⟩
  refine codeAny_mono ((F _ hKb (nsK hns) hSb).run callerA [] s₁ H ⟨[.ref a],[]⟩ [.ref a] [.ref a] _ _ hr e0 (hbind s₁ (.ref a)) (.cons rfl .nil) (hsp H hO hS)) fun r s' h=>?_
  cases r with
  | error e=>exact(hCX H e s' h).elim
  | ok fl =>
   cases fl with
   | next=>exact False.elim h
   | brk=>exact False.elim h
   | cont=>exact False.elim h
   | ret u =>
    obtain⟨v,H',os,bare,un,hok',r',q⟩:=h;have q':v=.bl true:=q;subst q';obtain rfl:u=Value.bool true:=r';refine⟨rfl,OldK.of_keep fun b o e=>?_,os,bare⟩;cases q:H b with
    | none=>exact un.keep b o e q (by intro z;exact absurd (show b∈([]:List Addr)from z) (by simp)) (by simp)
    | some u =>
     rcases hO b with z|⟨ob,xs,z⟩
     ·rw[q]at z;cases z
     ·have z2:=un.frzs b ob _ z;obtain⟨e1,_⟩:=hok b _ z;obtain⟨e2,_⟩:=hok' b _ z2;rw[e]at e1;cases e1;exact e2
 cases hk:K.lookup a with
 | some o =>
  have e:=KX a o hk;rw[ha]at e;cases e;refine core (fun _=>none) (fun _=>.inl rfl) (.inr ⟨_,vs.toArray,_,hk,rfl,rfl,rfl,by rw[wJ,lenV];exact hl,by simpa using rv⟩) (fun b u z=>by have z':(none:Option HO)=some u:=z;cases z') (fun b z=>absurd rfl z) fun z=>absurd rfl z
 | none =>
  refine core (fun b=>if b=a then some (.frz { cls:=.type "list",data:=.seq vs.toArray } (.lst (ns.map V.int)))else none) (fun b=>?_) (.inl (.inr ⟨{ cls:=.type "list",data:=.seq vs.toArray },if_pos rfl⟩)) (fun b u z=>?_) (fun b z=>?_) fun _=>hk
  ·by_cases hb:b=a
   ·exact .inr ⟨_,_,if_pos hb⟩
   ·exact .inl (if_neg hb)
  ·by_cases hb:b=a
   ·have z':=(if_pos hb).symm.trans z;cases z';subst hb;exact⟨ha,by rw[wa];exact hl,vs,_,rv,ha⟩
   ·have z':=(if_neg hb).symm.trans z;cases z'
  ·by_cases hb:b=a
   ·exact hb
   ·exact absurd (if_neg hb) z
end L2
namespace L2
open PySem PySem.Spec PyProof.Rows
end L2
namespace L2
open PySem PySem.Spec PyProof.Rows
def kau(s:Stmt):Arguments:=match s with
 | .FunctionDef _ a _ _ _ _ _ _ _ _=>a
 | _=>{ posonlyargs:=[],args:=[],vararg:=none,kwonlyargs:=[],kw_defaults:=[],kwarg:=none,defaults:=[] }
def kaq(s:Stmt):List Stmt:=match s with
 | .FunctionDef _ _ b _ _ _ _ _ _ _=>b
 | _=>[]
def kac(s:Stmt):Scope:=match s with
 | .FunctionDef _ _ _ _ _ _ sc _ _ _=>sc
 | _=>{ kind:=.function,names:=[],isGenerator:=false,isCoroutine:=false }
abbrev CX0:CXT:=fun _ _ _ _ _ _=>False
abbrev E0:XK:=fun _ _ _=>False
theorem pass0{X:Cx}:Passes CX0 X E0:=fun _ _ _ _ _ _ _ h=>h.elim
structure Fun(K:PySem.W.Frag)(x qual:Str)(st:Stmt)(f:Addr)(fd:FuncData):Prop where
 ex:∃(oc:Value)(od:Option Addr)(kV doc pm:Value)(an:Option Addr)(cdv ct:Value)(osl:Array (Option Value)),
  fd=PySem.W.fnOf x qual (kau st) (kaq st) (kac st) .none kV doc pm an cdv ct/\K.lookup f=some ⟨oc,od,.func fd,osl⟩/\PySem.W.codeIn K cdv qual=true
 kp:PySem.W.keepIn K (.ref f)=true
section
variable{P:Program}{w:World}{K:PySem.W.Frag}{mg:Str->Option Value}{base:Heap}
theorem Fun.ok{x qual:Str}{st:Stmt}{f:Addr}{fd:FuncData}{N ps:List Str}{k:Nat}{sp:Sp}(F:Fun K x qual st f fd)(S:kad N ps (kac st))(len:∀ vs H Q E,sp vs H Q E->vs.length=ps.length)
  (hbody:∀(cdv:Value)(A:Around)(outer:List Env)(s:Shared)(H:Hp)(vs:List V)(Q:VK)(E:XK),Room k (A.deeper (envOfC qual (kac st) s.heap.objs.size f cdv))->sp vs H Q E ->
   ∃ t,PSs (cxOf CX0 P w K mg base N qual (kac st) f cdv A outer s H E).nox (kaq st) t/\t { nx:=fun _ H'=>Q .non H',rt:=Q } (start N vs) H):FnOk P w K mg base CX0 (k+1) f fd ps sp:=by
 obtain⟨oc,od,kV,doc,pm,an,cdv,ct,osl,rfl,lk,hcd⟩:=F.ex;refine zj1 lk hcd S len fun A outer s H vs Q E hr hsp=>?_
 obtain⟨t,h,q⟩:=hbody cdv A outer s H vs Q E hr hsp;exact⟨t,h.nox,q⟩
theorem Fun.binds{x qual:Str}{st:Stmt}{f:Addr}{fd:FuncData}{ps:List Str}(F:Fun K x qual st f fd)
  (h:∀(kV doc pm:Value)(an:Option Addr)(cdv ct:Value)(us:List Value),us.length=ps.length->bindArgs (PySem.W.fnOf x qual (kau st) (kaq st) (kac st) .none kV doc pm an cdv ct) ⟨us,[]⟩=pure (ps.zip us)):Binds K fd ps []:=by
 obtain⟨oc,od,kV,doc,pm,an,cdv,ct,osl,rfl,lk,hcd⟩:=F.ex;exact .all (h kV doc pm an cdv ct)
theorem zhg{x qual:Str}{st:Stmt}{f:Addr}{oc:Value}{od an:Option Addr}{osl:Array (Option Value)}{kV doc pm cdv ct:Value}(l:K.lookup f=some ⟨oc,od,.func (PySem.W.fnOf x qual (kau st) (kaq st) (kac st) .none kV doc pm an cdv ct),osl⟩)
  (c:PySem.W.codeIn K cdv qual=true) (k:PySem.W.keepIn K (.ref f)=true):Fun K x qual st f (PySem.W.fnOf x qual (kau st) (kaq st) (kac st) .none kV doc pm an cdv ct):=⟨⟨oc,od,kV,doc,pm,an,cdv,ct,osl,rfl,l,c⟩,k⟩
end
section
variable{X:Cx}
theorem pv (i:Nat) {x:Str} {pos:Pos} (hN:X.N[i]?=some x:=by rfl) (hv:Vis X.env.scope x:=by first|exact Or.inl rfl|exact Or.inr (Or.inl rfl) | exact Or.inr (Or.inr rfl)) (hd:(x ==("__debug__" : Str))=false:=by decide)
  (hcd:(x ==("__classdict__" : Str))=false:=by decide):PE X (.Name x pos) (tVar i):=zjb hN hv hd hcd
end
theorem iteF{A B:Prop}(h:B):if false=true then A else B:=by
 rw[if_neg wX];exact h
theorem iteT{A B:Prop}(h:A):if true=true then A else B:=by
 rw[if_pos rfl];exact h
theorem ite2{c A B:Prop}[Decidable c](h1:c->A)(h2:¬ c->B):if c then A else B:=by
 by_cases h:c
 ·rw[if_pos h];exact h1 h
 ·rw[if_neg h];exact h2 h
def Same(H H':Hp):Prop:=∀ b o,H b=some o->H' b=some o
theorem Same.refl(H:Hp):Same H H:=fun _ _ h=>h
theorem Same.trans{H H1 H2:Hp}(a:Same H H1)(b:Same H1 H2):Same H H2:=fun c o h=>b c o (a c o h)
end L2
namespace Nm
def primeB(n:Nat):Bool:=decide (1<n) && (wV n).all fun d=>decide (d<2) || decide (n % d≠0)
structure PrS(k:Int):Prop where
 lo:1<k
 hi:k<99
 pr:primeB k.toNat=true
structure Pr(k:Int):Prop where
 lo:1<k
 hi:k<2305843009213693952
 cp:∀ r:Int,0<r->r<k->vf k r=1
def kaa(k:Int):Prop:=k=0\/Pr k
def KindS(k:Int):Prop:=k=0\/PrS k
theorem kaa.lt{k:Int}(h:kaa k):0<=k/\k<2305843009213693952:=by
 rcases h with h|h
 ·omega
 ·have:=h.lo;have:=h.hi;omega
theorem Jw:∀ k<99,primeB k=true->∀ r<k,0<r->uG k r=1:=by decide +kernel
theorem PrS.big{k:Int}(h:PrS k):Pr k:=by
 refine⟨h.lo,by have:=h.hi;omega,fun r h0 h1=>?_⟩;have:=Jw k.toNat (by have:=h.hi;omega) h.pr r.toNat (by omega) (by omega);have e1:k.natAbs=k.toNat:=by omega
 have e2:r.natAbs=r.toNat:=by omega
 rw[uB,e1,e2];exact this
theorem KindS.ok{k:Int}(h:KindS k):kaa k:=h.imp id PrS.big
theorem Pr.cop{k r:Int}(h:Pr k)(h0:0<r)(h1:r<k):vf k r=1:=h.cp r h0 h1
theorem zb9(a b:Int):vf b (a.fmod b)=vf a b:=by
 rw[waU,Int.gcd_sub_mul_left_right,waV]
theorem zcY(a:Int){b:Int}(hb:b≠0):(a.fmod b).natAbs<b.natAbs:=by
 rcases gk 0 b with h|h
 ·have h1:=wy a h;have h2:=wH a h;omega
 ·have hb':0 < -b:=by omega
  have h1:=wy (-a) hb';have h2:=wH (-a) hb';have e:(-a).fmod (-b) = -(a.fmod b):=by
   rw[Int.neg_fmod_neg]
  omega
end Nm
namespace Nm
structure OvInv(p r l g ml mg:Int):Prop where
 l0:0<=l
 l1:l<2305843009213693952
 g0:0<=g
 g1:g<2305843009213693952
 cop:vf l g=1
 left:p ∣ l - ml*r
 right:p ∣ g - mg*r
theorem zbR{p r:Int}(h:Pr p)(h0:0<r)(h1:r<p):OvInv p r p r 0 1:=by
 have:=h.lo;have:=h.hi;refine⟨by omega,by omega,by omega,by omega,h.cop h0 h1,?_,?_⟩
 ·rw[waW,Int.sub_zero];exact waX p
 ·rw[wa6,Int.sub_self];exact wal p
theorem zeJ{p r l g ml mg:Int}(h:OvInv p r l g ml mg)(hg:g≠0):OvInv p r g (l - l / g*g) mg (ml - l / g*mg):=by
 have g0:=h.g0;have g1:=h.g1;have e:l - l / g*g=l % g:=by
  have:=gf l g;rw[waY (l / g) g];omega
 have m0:=gB l hg;have m1:=uU l (show 0<g by omega);refine⟨g0,g1,by omega,by omega,?_,h.right,?_⟩
 ·rw[Int.gcd_sub_mul_right_right,waV];exact h.cop
 ·have e2:l - l / g*g - (ml - l / g*mg)*r =(l - ml*r) - l / g *(g - mg*r):=by grind
  rw[e2];exact waz h.left (gM h.right)
theorem zfM{l g:Int}(g0:0<=g)(hg:g≠0):(l - l / g*g).toNat<g.toNat:=by
 have e:l - l / g*g=l % g:=by
  have:=gf l g;rw[waY (l / g) g];omega
 have m0:=gB l hg;have m1:=uU l (show 0<g by omega);omega
theorem zhd{p r l ml mg:Int}(h:OvInv p r l 0 ml mg)(hp:0<p):p ∣ ml % p*r - 1:=by
 have c:=h.cop;rw[wam]at c;have e:l=1:=by have:=h.l0;omega
 have d:=h.left;rw[e]at d;have e1:ml % p*r - 1 = -(1 - ml*r) - p *(ml / p)*r:=by
  have:=gf ml p
  grind
 rw[e1];exact waz (Int.dvd_neg.mpr d) (Int.dvd_mul_of_dvd_left (war p _))
def sg(t b:Int):Int:=if b<0 then -((vf t b:Nat):Int)else((vf t b:Nat):Int)
theorem zdU{t b:Int}(hb:b≠0):sg t b≠0:=by
 have:=uZ t hb;unfold sg;split <;> omega
theorem zjT(t b:Int):(sg t b).natAbs=vf t b:=by
 unfold sg;split <;> omega
theorem Zp(t b:Int):sg t b ∣ t:=by
 unfold sg;split
 ·exact wa7.mpr (gu t b)
 ·exact gu t b
theorem ZA(t b:Int):sg t b ∣ b:=by
 unfold sg;split
 ·exact wa7.mpr (gU t b)
 ·exact gU t b
theorem zen{q:Rat}{t b:Int}(hb:b≠0)(h:q.num*b=t*q.den):vJ t b=q:=by
 rw[← gP q];have hd:(q.den:Int)≠0:=by have:=q.den_nz;omega
 rw[GE hb hd];omega
theorem YF{t b:Int}(hb:b≠0):t.fdiv (sg t b) =(vJ t b).num/\b.fdiv (sg t b) =((vJ t b).den:Nat):=by
 have hs:=zdU (t:=t) hb;rw[vL (Zp t b),vL (ZA t b)];have et:=uC (Zp t b);have eb:=uC (ZA t b);have hpos:0<b / sg t b:=by
  have hne:b / sg t b≠0:=fun z=>by rw[z,waW]at eb;exact hb eb.symm
  have hg:=uZ t hb
  rcases gk b 0 with h|h
  ·have e:sg t b = -((vf t b:Nat):Int):=by unfold sg;rw[if_pos h]
   have:0<=b / sg t b:=Int.ediv_nonneg_of_nonpos_of_nonpos (by omega) (by omega);omega
  ·have e:sg t b =((vf t b:Nat):Int):=by unfold sg;rw[if_neg (by omega)]
   have:0<=b / sg t b:=waJ (by omega) (by omega);omega
 have hcop:vf (t / sg t b) (b / sg t b)=1:=by
  rw[waZ (Zp t b) (ZA t b),zjT];exact wa0 (uZ t hb)
 let q:Rat:=⟨t / sg t b,(b / sg t b).toNat,by omega,by
  show uG (t / sg t b).natAbs (b / sg t b).toNat=1;have:(b / sg t b).toNat =(b / sg t b).natAbs:=by omega
  rw[this];exact hcop⟩
 have hq:vJ t b=q:=zen hb (by
  show t / sg t b*b=t *(((b / sg t b).toNat:Nat):Int);have e:(((b / sg t b).toNat:Nat):Int)=b / sg t b:=by omega
  rw[e];have:t / sg t b*b=t / sg t b *(b / sg t b*sg t b):=by rw[eb]
  have:t *(b / sg t b)=t / sg t b*sg t b *(b / sg t b):=by rw[et]
  grind)
 rw[hq];refine⟨rfl,?_⟩;show b / sg t b =(((b / sg t b).toNat:Nat):Int);omega
theorem zdI(x y:Rat):vJ (x.num*y.den+y.num*x.den) (x.den*y.den)=x+y:=by
 rw[Rat.add_def',← GF];simp
theorem zed(x y:Rat):vJ (x.num*y.den - y.num*x.den) (x.den*y.den)=x - y:=by
 rw[Rat.sub_def',← GF];simp
theorem za8(x y:Rat):vJ (x.num*y.num) (x.den*y.den)=x*y:=by
 rw[Rat.mul_def',← GF];simp
theorem zhQ(x y:Rat):vJ (x.num*y.den) (x.den*y.num)=x / y:=by
 rw[Rat.div_def,wa8,← gP x,GV];simp[gP]
end Nm
namespace L2
open PySem PySem.Spec PyProof.Rows
theorem yb:bootBuiltins "len" = some (.builtin "len"):=by decide +kernel
theorem ze7:bootBuiltins "abs" = some (.builtin "abs"):=by decide +kernel
theorem zjh:bootBuiltins "sum" = some (.builtin "sum"):=by decide +kernel
theorem zg6:bootBuiltins "max" = some (.builtin "max"):=by decide +kernel
theorem zfm:bootBuiltins "sorted" = some (.builtin "sorted"):=by decide +kernel
theorem zeQ:bootBuiltins "int" = some (.type "int"):=by decide +kernel
theorem zdX:bootBuiltins "list" = some (.type "list"):=by decide +kernel
theorem zjQ:bootBuiltins "zip" = some (.type "zip"):=by decide +kernel
def Sm(n:Nat)(x:Int):Prop:=x.natAbs<2^n
theorem Sm.bits{n:Nat}{x:Int}(h:Sm n x):Builtin.Int.intBits x<=n:=by
 unfold Builtin.Int.intBits
 split
 ·exact vq _
 ·rename_i h0;have h0':x.natAbs≠0:=by
   intro z;have e:x=0:=by omega
   rw[e]at h0;exact h0 rfl
  have:=(Nat.log2_lt h0').mpr h;omega
theorem Sm.mulOk{m n:Nat}{a b:Int}(ha:Sm m a)(hb:Sm n b)(h:m+n<=134217728):IntMulOk a b:=IntMulOk.of_le ha.bits hb.bits h
theorem Sm.mono{m n:Nat}{x:Int}(h:Sm m x)(hmn:m<=n):Sm n x:=wR h (vv (by decide) hmn)
theorem Sm.mul{m n:Nat}{a b:Int}(ha:Sm m a)(hb:Sm n b):Sm (m+n) (a*b):=by
 unfold Sm;rw[vG,uK];exact waA ha hb
theorem Sm.add{n:Nat}{a b:Int}(ha:Sm n a)(hb:Sm n b):Sm (n+1) (a+b):=by
 unfold Sm at *;rw[gm];have:=Gx a b;omega
theorem Sm.sub{n:Nat}{a b:Int}(ha:Sm n a)(hb:Sm n b):Sm (n+1) (a - b):=by
 unfold Sm at *;rw[gm];have:=was a b;omega
theorem Sm.neg{n:Nat}{a:Int}(ha:Sm n a):Sm n (-a):=by
 unfold Sm at *;rw[Int.natAbs_neg];exact ha
theorem Sm.le{n:Nat}{a b:Int}(ha:Sm n a)(h:b.natAbs<=a.natAbs):Sm n b:=uH h ha
section
variable{X:Cx}{a b c:Expr}{ta tb tc:TE}{pos:Pos}
theorem zW:OpR X (binaryOp .Mult) (rI IntMulOk fun i j=>.int (i*j)):=opI fun _ _ _ _ _ _ _ hc q=>mul_int q hc
end
structure Kn(P:Program)(w:World)(K:PySem.W.Frag)(mg:Str->Option Value)(base:Heap)(x:Str)(k:Nat)(ps:List Str)(sp:Sp):Prop where
 ex:∃(f:Addr)(fd:FuncData),FnOk P w K mg base CX0 k f fd ps sp/\mg x=some (.ref f)/\PySem.W.keepIn K (.ref f)=true/\Binds K fd ps []
theorem zbj{X:Cx}{x:Str}{k:Nat}{ps:List Str}{sp:Sp}{p pos:Pos}{e:Expr}{es:List Expr}{t:TA}(D:Kn X.prog X.w X.K X.mg X.base x k ps sp)(hr:Room k X.A)(hg:Gl X x)(ha:PA X (e::es) t)
  (hdb:(x ==("__debug__" : Str))=false:=by decide) (he:starEach (e::es) X.env =(false,eval e X.env)::starEach es X.env:=by rfl) (hpl:(backTo pos (starEach es X.env)).any (·.1)=false:=by rfl) :
  PE X (.Call (.Name x p) (e::es) [] pos) (tCall sp [] E0 t):=by
 obtain⟨f,fd,F,hm,hk,hb⟩:=D.ex;exact zij F hr hg hm hk hb .nil pass0 ha hdb he hpl
structure Df(K:PySem.W.Frag)(mg:Str->Option Value)(x:Str)(ps:List Str)(st:Stmt):Prop where
 ex:∃(f:Addr)(fd:FuncData),Fun K x x st f fd/\mg x=some (.ref f)/\Binds K fd ps []
section
variable{P:Program}{w:World}{K:PySem.W.Frag}{mg:Str->Option Value}{base:Heap}
theorem Df.kn{x:Str}{st:Stmt}{N ps:List Str}{k:Nat}{sp:Sp}(D:Df K mg x ps st)(S:kad N ps (kac st))(len:∀ vs H Q E,sp vs H Q E->vs.length=ps.length)
  (hbody:∀(f:Addr)(cdv:Value)(A:Around)(outer:List Env)(s:Shared)(H:Hp)(vs:List V)(Q:VK)(E:XK),Room k (A.deeper (envOfC x (kac st) s.heap.objs.size f cdv))->sp vs H Q E ->
   ∃ t,PSs (cxOf CX0 P w K mg base N x (kac st) f cdv A outer s H E).nox (kaq st) t/\t { nx:=fun _ H'=>Q .non H',rt:=Q } (start N vs) H):Kn P w K mg base x (k+1) ps sp:=by
 obtain⟨f,fd,F,hm,hb⟩:=D.ex;exact⟨f,fd,F.ok S len (fun cdv A outer s H vs Q E hr h=>hbody f cdv A outer s H vs Q E hr h),hm,F.kp,hb⟩
theorem zjY{x:Str}{ps:List Str}{st:Stmt}{h:Heap}{f:Addr}{oc:Value}{od an:Option Addr}{osl:Array (Option Value)}{kV doc pm cdv ct:Value}(X:K.In h)(G:h.Ns mainGlobals mg)
  (a:PySem.W.nsIn K mainGlobals x=some (some (.ref f)))
  (l:K.lookup f=some ⟨oc,od,.func (PySem.W.fnOf x x (kau st) (kaq st) (kac st) .none kV doc pm an cdv ct),osl⟩)
  (c:PySem.W.codeIn K cdv x=true) (k:PySem.W.keepIn K (.ref f)=true)
  (hb:∀(kV doc pm:Value)(an:Option Addr)(cdv ct:Value)(us:List Value),us.length=ps.length->bindArgs (PySem.W.fnOf x x (kau st) (kaq st) (kac st) .none kV doc pm an cdv ct) ⟨us,[]⟩=pure (ps.zip us)):Df K mg x ps st:=by
 have F:=zhg (st:=st) l c k;exact⟨f,_,F,PySem.W.mg_of X G a,F.binds hb⟩
end
theorem bind1{fd:FuncData}{ps:List Str}(h:∀ a0,bindArgs fd ⟨[a0],[]⟩=pure (ps.zip [a0]))(us:List Value)(e:us.length=1):bindArgs fd ⟨us,[]⟩=pure (ps.zip us):=by
 match us,e with | [a0],_=>exact h a0
theorem kat{fd:FuncData}{ps:List Str}(h:∀ a0 a1,bindArgs fd ⟨[a0,a1],[]⟩=pure (ps.zip [a0,a1]))(us:List Value)(e:us.length=2):bindArgs fd ⟨us,[]⟩=pure (ps.zip us):=by
 match us,e with | [a0,a1],_=>exact h a0 a1
theorem kas{fd:FuncData}{ps:List Str}(h:∀ a0 a1 a2,bindArgs fd ⟨[a0,a1,a2],[]⟩=pure (ps.zip [a0,a1,a2]))(us:List Value)(e:us.length=3):bindArgs fd ⟨us,[]⟩=pure (ps.zip us):=by
 match us,e with | [a0,a1,a2],_=>exact h a0 a1 a2
theorem bind4{fd:FuncData}{ps:List Str}(h:∀ a0 a1 a2 a3,bindArgs fd ⟨[a0,a1,a2,a3],[]⟩=pure (ps.zip [a0,a1,a2,a3]))(us:List Value)(e:us.length=4):bindArgs fd ⟨us,[]⟩=pure (ps.zip us):=by
 match us,e with | [a0,a1,a2,a3],_=>exact h a0 a1 a2 a3
def spLaw(K:PySem.W.Frag):Sp:=fun vs H Q _=>∃(a:Addr)(ns:List Int),vs=[.ref a]/\SqL K H a (ns.map V.int)/\ns.length<=63/\∀ H',Q (.bl true) H'
theorem ze{H:Hp}{p:Addr}(h:H p=none)(o:HO):Same H (upd H p o):=fun b u q=>by rw[zM (ye q h)];exact q
theorem zju {K:PySem.W.Frag} {mg:Str->Option Value} {st:Stmt} {h:Heap} {f fa:Addr} {oc:Value} {od an:Option Addr} {osl:Array (Option Value)} {kV doc pm cdv ct:Value} (X:K.In h) (G:h.Ns mainGlobals mg) (hmg:mg "law" = some (.ref fa))
  (a:PySem.W.nsIn K mainGlobals "law" = some (some (.ref f)))
  (l:K.lookup f=some ⟨oc,od,.func (PySem.W.fnOf "law" "law" (kau st) (kaq st) (kac st) .none kV doc pm an cdv ct),osl⟩)
  (c:PySem.W.codeIn K cdv "law" = true) (k:PySem.W.keepIn K (.ref f)=true)
  (hb:∀(kV doc pm:Value)(an:Option Addr)(cdv ct:Value)(v:Value),bindArgs (PySem.W.fnOf "law" "law" (kau st) (kaq st) (kac st) .none kV doc pm an cdv ct) ⟨[v],[]⟩=pure [(("_law_script" : Str),v)]) :
  ∃ fd:FuncData,Fun K "law" "law" st fa fd/\∀(s:Shared)(v:Value),BindsTo s fd ⟨[v],[]⟩ [("_law_script",v)]:=by
 have e:=hmg.symm.trans (PySem.W.mg_of X G a);cases e;exact⟨_,zhg (st:=st) l c k,fun s v=>.of_eq (hb _ _ _ _ _ _ v)⟩
end L2
namespace L2
open PySem PySem.Spec PyProof.Rows
def fragFrom:Nat->List Obj->PySem.W.Frag
 | _,[]=>[]
 | i,o::r=>match o.data with
  | .freed=>fragFrom (i+1) r
  | _=>(i,o)::fragFrom (i+1) r
def fragH(h:Heap):PySem.W.Frag:=fragFrom 0 h.objs.toList
theorem Xn:∀(l:List Obj)(i a:Nat)(o:Obj),(fragFrom i l).lookup a=some o->∃ j,a=i+j/\l[j]?=some o/\(∀ c d sl,o≠⟨c,d,.freed,sl⟩)
 | [],i,a,o,h=>by cases h
 | p::r,i,a,o,h=>by
  unfold fragFrom at h;have go:(fragFrom (i+1) r).lookup a=some o->∃ j,a=i+j/\(p::r)[j]?=some o/\(∀ c d sl,o≠⟨c,d,.freed,sl⟩):=fun h=>by
   obtain⟨j,e,e',n⟩:=Xn r (i+1) a o h;exact⟨j+1,by omega,by simpa using e',n⟩
  split at h
  ·exact go h
  ·rename_i hf;rw[GH]at h
   split at h
   ·rename_i e;cases h;have e:a=i:=by simpa using e
    exact⟨0,by omega,by simp,fun c d sl e=>hf (by rw[e])⟩
   ·exact go h
theorem zf0(h:Heap):(fragH h).In h:=fun a o e=>by
 obtain⟨j,rfl,e',n⟩:=Xn _ _ _ _ e;unfold Heap.get?;have e'':h.objs[0+j]?=some o:=by
  rw[vp]
  simpa using e'
 rw[e''];obtain⟨c,d,dt,sl⟩:=o;cases dt <;> first|rfl|exact absurd rfl (n _ _ _)
def fnSh(K:PySem.W.Frag)(x:Str):Option (FuncData×Bool×Bool):=match PySem.W.nsIn K mainGlobals x with
 | some (some (.ref f))=>(match K.lookup f with
  | some ⟨_,_,.func fd,_⟩=>some ({ fd with kwdefaults:=.none,doc:=.none,pyModule:=.none,annotations:=none,code:=.none,closureTuple:=.none },PySem.W.codeIn K fd.code x,PySem.W.keepIn K (.ref f))
  | _=>none)
 | _=>none
def fnEx(x:Str)(st:Stmt):Option (FuncData×Bool×Bool):=some (PySem.W.fnOf x x (kau st) (kaq st) (kac st) .none .none .none .none none .none .none,true,true)
theorem zee{K:PySem.W.Frag}{x:Str}{st:Stmt}(e:fnSh K x=fnEx x st):∃(f:Addr)(oc:Value)(od an:Option Addr)(osl:Array (Option Value))(kV doc pm cdv ct:Value),
  PySem.W.nsIn K mainGlobals x=some (some (.ref f))/\K.lookup f=some ⟨oc,od,.func (PySem.W.fnOf x x (kau st) (kaq st) (kac st) .none kV doc pm an cdv ct),osl⟩ /\
  PySem.W.codeIn K cdv x=true/\PySem.W.keepIn K (.ref f)=true:=by
 unfold fnSh fnEx at e
 split at e
 ·rename_i f hf
  split at e
  ·rename_i oc od fd osl hl;obtain⟨nm,qn,pa,bo,sc,gl,cl,de,kd,dc,pm,an,co,ct,bi⟩:=fd;simp only[Option.some.injEq,Prod.mk.injEq,FuncData.mk.injEq]at e;obtain⟨⟨rfl,rfl,rfl,rfl,rfl,rfl,rfl,rfl,-,-,-,-,-,-,rfl⟩,e1,e2⟩:=e;exact⟨f,oc,od,an,osl,kd,dc,pm,co,ct,hf,hl,e1,e2⟩
  ·cases e
 ·cases e
def ctSh(K:PySem.W.Frag)(x:Str):Option Int:=match PySem.W.nsIn K mainGlobals x with
 | some (some (.int i _))=>some i
 | _=>none
section
variable{K:PySem.W.Frag}{mg:Str->Option Value}{h:Heap}
theorem zjX{x:Str}{i:Int}(X:K.In h)(G:h.Ns mainGlobals mg)(e:ctSh K x=some i):∃ t,mg x=some (.int i t):=by
 unfold ctSh at e
 split at e
 ·rename_i j t hn;cases e;exact⟨t,PySem.W.mg_of X G hn⟩
 ·cases e
theorem zX{x:Str}{ps:List Str}{st:Stmt}(X:K.In h)(G:h.Ns mainGlobals mg)(e:fnSh K x=fnEx x st)
  (hb:∀(kV doc pm:Value)(an:Option Addr)(cdv ct:Value)(us:List Value),us.length=ps.length->bindArgs (PySem.W.fnOf x x (kau st) (kaq st) (kac st) .none kV doc pm an cdv ct) ⟨us,[]⟩=pure (ps.zip us)):Df K mg x ps st:=by
 obtain⟨f,oc,od,an,osl,kV,doc,pm,cdv,ct,a,l,c,k⟩:=zee e;exact zjY X G a l c k hb
theorem ziS {st:Stmt} {fa:Addr} (X:K.In h) (G:h.Ns mainGlobals mg) (hmg:mg "law" = some (.ref fa)) (e:fnSh K "law" = fnEx "law" st)
  (hb:∀(kV doc pm:Value)(an:Option Addr)(cdv ct:Value)(v:Value),bindArgs (PySem.W.fnOf "law" "law" (kau st) (kaq st) (kac st) .none kV doc pm an cdv ct) ⟨[v],[]⟩=pure [(("_law_script" : Str),v)]) :
  ∃ fd:FuncData,Fun K "law" "law" st fa fd/\∀(s:Shared)(v:Value),BindsTo s fd ⟨[v],[]⟩ [("_law_script",v)]:=by
 obtain⟨f,oc,od,an,osl,kV,doc,pm,cdv,ct,a,l,c,k⟩:=zee e;exact zju X G hmg a l c k hb
end
def nth{α:Type}:List α->Nat->Option α
 | [],_=>none
 | a::_,0=>some a
 | _::r,n+1=>nth r n
theorem zx{α:Type}{l l':List α}(h:l=l')(n:Nat){a b:α}(x:nth l n=some a)(y:nth l' n=some b):a=b:=by
 subst h;exact Option.some.inj (x.symm.trans y)
def lawOnly(p:Program):Program:={ p with main:={ p.main with body:=p.main.body.filter fun st=>match st with
 | .FunctionDef n ..=>n ==("law" : Str)
 | _=>false } }
def looseOf (p:Program):List Str:=(p.main.scope.names.map (·.1)).filter fun n=>!(n ==("law" : Str))
def lawRec (p:Program):DefRec:=match PySem.W.defOf (lawOnly p) "law" with
 | some (d,_)=>d
 | none=>⟨"law",{ posonlyargs:=[],args:=[],vararg:=none,kwonlyargs:=[],kw_defaults:=[],kwarg:=none,defaults:=[] },[],{ kind:=.function,names:=[],isGenerator:=false,isCoroutine:=false },default⟩
def runT(p:Program)(N:Nat)(w:World)(os:OsState):Option Shared :=
 PySem.W.Fast.tw14082659384304107361 PySem.W.Fast.tw14364793385576792824 p w 11 (some (.ref 6)) N ⟨PySem.W.boot_heap w.params,#[],PySem.W.boot_drawn,PySem.W.boot_toks,os⟩ (PySem.W.topStub p)
def statT(p:Program)(w:World)(s₁:Shared):Bool:=PySem.W.staticsOk (importedModules p.main.body) (PySem.W.boot_heap w.params) s₁.heap && PySem.W.namesBound p s₁.heap && PySem.W.gensDone s₁ && PySem.W.laidKept (PySem.W.boot_heap w.params) s₁.heap
def seenT(p:Program)(s:Shared):=PySem.W.Fast.tw4187177175401517315 (lawOnly p) (looseOf p) (importedModules p.main.body) (fun _=>true) true s
structure Behind{β:Type}(p:Program)(N:Nat)(lk:PySem.W.Frag->β)(val:β):Prop where
 st:∀(w:World)(os:OsState),(runT p N w os).map (statT p w)=some true
 sn:∀(w:World)(os:OsState),(runT p N w os).map (seenT p)=some (PySem.W.openGood (lawOnly p) (looseOf p))
 lk:∀(w:World)(os:OsState),(runT p N w os).map (fun s=>lk (fragH s.heap))=some val
theorem zeF (w:World):((PySem.W.boot_heap w.params).isNs mainGlobals && (#[]:Array GenState).size == 0)=true/\(PySem.W.boot_heap w.params).objs.size=11/\(PySem.W.boot_heap w.params).nsMap mainGlobals "__annotations__" = some (.ref 6):=by
 refine⟨?_,?_,?_⟩
 ·kernel_rfl
 ·kernel_rfl
 ·rw[PySem.W.Fast.te8920871248978507458];kernel_rfl
theorem zff{β:Type}{p:Program}{N:Nat}{lk:PySem.W.Frag->β}{val:β}(e:PySem.W.opening p=PySem.W.plainProg p.main.scope.names)(hN:Nat.ble 600 N=true)(f:∀ s,fenceModules? p s=some s)
  (h:Behind p N lk val) :
  PySem.W.LeftO p (lawOnly p) (looseOf p) (fun _=>true) (fun s=>lk (fragH s.heap)) (fun _=>val) N:=fun w=>by
 obtain⟨⟨hp,gs,d,k,os⟩,e1,e2⟩:=wK.mp (PySem.W.boot_open e hN f w);obtain⟨rfl,rfl,rfl,rfl⟩ : hp=PySem.W.boot_heap w.params/\gs=#[]/\d=PySem.W.boot_drawn/\k=PySem.W.boot_toks:=by simpa using e2
 obtain⟨z1,z2,z3⟩:=zeF w;have zs:=h.st w os;have zn:=h.sn w os;have zl:=h.lk w os;unfold seenT at zn;unfold runT at zs zn zl;rw[← PySem.W.Fast.te14082659384304107361,← PySem.W.Fast.te14364793385576792824]at zs zn zl;rw[← PySem.W.Fast.te4187177175401517315]at zn;obtain⟨s₁,er,es⟩:=wK.mp zs;rw[er]at zn zl;unfold statT at es;unfold PySem.W.openEnds;rw[e1];show(PySem.W.topFrom treeTable p w N _).map _=_;unfold PySem.W.topFrom
 dsimp only
 rw[z1,z2,z3,er];show((match PySem.W.staticsOk (importedModules p.main.body) (PySem.W.boot_heap w.params) s₁.heap && PySem.W.namesBound p s₁.heap && PySem.W.gensDone s₁ && PySem.W.laidKept (PySem.W.boot_heap w.params) s₁.heap with|true=>some s₁|false=>none).map _:Option _)=_;rw[es];exact congrArg some (Prod.ext (Option.some.inj zn) (Option.some.inj zl))
theorem zdf {β:Type} {l:PySem.W.OpenLaw} (k N:Nat) (lk:PySem.W.Frag->β) (val:β) (ws:PySem.W.Fast.tw9446332074065402090 l=true) (hl:l.name = "law") (hn:l.most=some 63) (hwr:l.writes=false)
  (e:PySem.W.opening l.prog=PySem.W.plainProg l.prog.main.scope.names) (hN:Nat.ble 600 N=true) (f:∀ s,fenceModules? l.prog s=some s)
  (h:Behind l.prog N lk val)
  (hd:PySem.W.defOf (lawOnly l.prog) "law" = some (lawRec l.prog,[])) (hp:l.prog.theDef "law" = some ((lawRec l.prog).params,(lawRec l.prog).body,(lawRec l.prog).scope))
  (hk:PySem.W.kwWritten? (lawRec l.prog).params.kwonlyargs (lawRec l.prog).params.kw_defaults=some []) (hdf:(lawRec l.prog).params.defaults=[]) (hnm:(lawRec l.prog).name = "law")
  (ok:(PySem.W.chainsOk (lawOnly l.prog) && PySem.W.opensWell l.prog && (PySem.W.frees l.row.toRowW && l.row.within.isEmpty))=true) (hb:l.prog.bare) (hw:l.row.toRowW.promised) (hi:PyProof.Rows.importsNone (lawOnly l.prog)=true) (hr:Room k callerA)
  (F:∀(w:World)(mg:Str->Option Value)(fa:Addr)(h:Heap)(K:PySem.W.Frag),K.In h->lk K=val->h.Ns mainGlobals mg->mg "law" = some (.ref fa) ->
   ∃ fd:FuncData,(∀(s:Shared)(u:Value),BindsTo s fd ⟨[u],[]⟩ [("_law_script",u)])/\∀ base:Heap,K.In base->base.Ns mainGlobals mg->base.NoSeer->FnOk l.prog w K mg base CX0 k fa fd ["_law_script"] (spLaw K)):l.Holds:=by
 rw[← PySem.W.Fast.te9446332074065402090]at ws;refine PySem.W.holds_law ws fun said=>?_
 have hl':l.row.toRowW.name = "law" := hl;refine PySem.W.holds_open (r:=l.row) (q:=lawOnly l.prog) (loose:=looseOf l.prog) (Xt:=fun _=>true) (XP:=fun _ _=>True) (Yf:=fun s=>lk (fragH s.heap)) (Ya:=fun _=>val)
  (YP:=fun _ h=>∃ K:PySem.W.Frag,K.In h/\lk K=val) (d:=lawRec l.prog) (kwd:=[]) (N:=N) (zff e hN f h) (fun w s e=>⟨_,zf0 _,e⟩) (fun w h h' y kp=>?_) (fun _ _=>True.intro) (fun _ _ _ _ _=>True.intro)
  (by rw[hl'];exact hd) (by rw[hl'];exact hp) hk (fun s _=>PySem.W.recFacts_of (R:=[]) rfl) ?_ said ok hb hw ?_
 ·obtain⟨K,i,q⟩:=y;exact⟨K,i.keeps kp,q⟩
 ·show(!l.writes || _)=true;rw[hwr];rfl
 ·refine Att.za3 hn hdf fun w s₀ s₁ mg mb fa o pm cd doc a vs ns G Y ho hd hcd hmg hobj hints hlen hg=>?_
  obtain⟨K,KX,q⟩:=Y;rw[hnm]at hmg;obtain⟨fd,hb,hF⟩:=F w mg fa _ K KX q G.T.g hmg;exact zgA KX G.T.g G.T.b G.T.builtins G.T.nolimit (G.T.seer hi) hg hobj hints (wN hlen (by decide)) hr hF hb (fun H hO hS=>⟨a,ns,rfl,hS,hlen,fun _=>rfl⟩) fun H e s' z=>z
end L2
namespace KL
open PySem PySem.Spec PyProof.Rows L2
abbrev Ss:List Str:=["one", "other"]
abbrev Su:List Str:=["top", "bottom"]
abbrev Sv:List Str:=["prime", "rest"]
abbrev Sx:List Str:=["kind", "whole"]
abbrev Sy:List Str:=["kind", "one", "other"]
abbrev Sz:List Str:=["_law_one", "_law_other"]
abbrev SA:List Str:=["kind", "row"]
abbrev SB:List Str:=["kind", "top", "bottom"]
abbrev SC:List Str:=["kind", "wholes"]
abbrev SD:List Str:=["kind", "row", "lead_row", "column"]
abbrev SE:List Str:=["kind", "rows"]
abbrev SF:List Str:=["kind", "width"]
abbrev SG:List Str:=["kind", "table", "row"]
abbrev SH:List Str:=["table"]
abbrev SI:List Str:=["kind", "table", "rows", "room"]
abbrev SJ:List Str:=["kind", "table", "rows"]
abbrev SK:List Str:=["kind", "table"]
abbrev SL:List Str:=["kind", "size"]
abbrev SM:List Str:=["kind", "machine"]
abbrev SN:List Str:=["machine"]
abbrev SO:List Str:=["kind", "machine", "standing", "inputs"]
abbrev SQ:List Str:=["kind", "room", "row"]
abbrev SR:List Str:=["kind", "machine", "standing"]
abbrev SS:List Str:=["kind", "machine", "F"]
abbrev ST:List Str:=["kind", "columns", "room"]
abbrev SU:List Str:=["kind", "machine", "hand"]
abbrev SV:List Str:=["kind", "table", "row", "polynomial"]
abbrev SW:List Str:=["kind", "machine", "polynomial"]
abbrev SX:List Str:=["_law_top", "_law_bottom"]
abbrev SY:List Str:=["_law_cell", "_law_k"]
abbrev SZ:List Str:=["_law_prime_here", "_law_cell"]
abbrev qc:List Str:=["_law_prime_here", "_law_whole_here"]
abbrev qe:List Str:=["_law_prime_here", "_law_one", "_law_other"]
abbrev qf:List Str:=["_law_prime_here", "_law_cells", "_law_k"]
abbrev qm:List Str:=["_law_head", "_law_n", "_law_plain"]
abbrev qM:List Str:=["_law_row", "_law_column"]
abbrev qW:List Str:=["_law_prime_here", "_law_cells", "_law_sizes", "_law_sorts_here"]
abbrev Qe:List Str:=["_law_prime_here", "_law_tables", "_law_cell"]
abbrev Qg:List Str:=["_law_cells", "_law_most"]
abbrev Qn:List Str:=["_law_table"]
abbrev Qy:List Str:=["_law_prime_here", "_law_table", "_law_column"]
abbrev QA:List Str:=["_law_prime_here", "_law_one"]
abbrev QD:List Str:=["_law_prime_here", "_law_rows"]
abbrev QL:List Str:=["_law_prime_here", "_law_machine_here"]
abbrev da:List Str:=["_law_prime_here", "_law_table"]
abbrev dg:List Str:=["_law_prime_here", "_law_machine_here", "_law_rule"]
theorem dh:sizeLine=16777216:=by decide
set_option maxHeartbeats 4000000
def top(i:Nat):Stmt:=PySem.Challenge.pw_steermill_k53_whole_one_hand_one_rule.main.body.getD i (.Pass ⟨0,0,0,0⟩)
abbrev yQ:Stmt:=top 4
theorem sC:kad ["one", "other", "left", "right", "rest"] ["one", "other"] (kac yQ):=⟨rfl,rfl,rfl,by decide +kernel,rfl,by decide +kernel,by decide +kernel⟩
abbrev qA:Stmt:=top 5
theorem Sf:kad ["top", "bottom", "divisor"] ["top", "bottom"] (kac qA):=⟨rfl,rfl,rfl,by decide +kernel,rfl,by decide +kernel,by decide +kernel⟩
abbrev qH:Stmt:=top 6
theorem Sd:kad ["prime", "rest", "left", "right", "many_left", "many_right", "whole", "less", "many_less"] ["prime", "rest"] (kac qH):=⟨rfl,rfl,rfl,by decide +kernel,rfl,by decide +kernel,by decide +kernel⟩
abbrev Yy:Stmt:=top 7
theorem zeD:kad ["kind", "whole"] ["kind", "whole"] (kac Yy):=⟨rfl,rfl,rfl,by decide +kernel,rfl,by decide +kernel,by decide +kernel⟩
abbrev Ju:Stmt:=top 8
theorem zgY:kad ["kind", "one", "other"] ["kind", "one", "other"] (kac Ju):=⟨rfl,rfl,rfl,by decide +kernel,rfl,by decide +kernel,by decide +kernel⟩
abbrev zcJ:Stmt:=top 9
theorem zhY:kad ["kind", "one", "other"] ["kind", "one", "other"] (kac zcJ):=⟨rfl,rfl,rfl,by decide +kernel,rfl,by decide +kernel,by decide +kernel⟩
abbrev YC:Stmt:=top 11
theorem Sj:kad ["kind", "row", "bottom", "part"] ["kind", "row"] (kac YC):=⟨rfl,rfl,rfl,by decide +kernel,rfl,by decide +kernel,by decide +kernel⟩
abbrev qF:Stmt:=top 12
theorem zbz:kad ["kind", "top", "bottom"] ["kind", "top", "bottom"] (kac qF):=⟨rfl,rfl,rfl,by decide +kernel,rfl,by decide +kernel,by decide +kernel⟩
abbrev jL:Stmt:=top 13
theorem zag:kad ["one", "other"] ["one", "other"] (kac jL):=⟨rfl,rfl,rfl,by decide +kernel,rfl,by decide +kernel,by decide +kernel⟩
abbrev yN:Stmt:=top 15
theorem Zq:kad ["kind", "one", "other"] ["kind", "one", "other"] (kac yN):=⟨rfl,rfl,rfl,by decide +kernel,rfl,by decide +kernel,by decide +kernel⟩
abbrev JV:Stmt:=top 16
theorem Sl:kad ["kind", "wholes", "divisor", "whole"] ["kind", "wholes"] (kac JV):=⟨rfl,rfl,rfl,by decide +kernel,rfl,by decide +kernel,by decide +kernel⟩
abbrev Ze:Stmt:=top 17
theorem zc4:kad ["kind", "row", "lead_row", "column"] ["kind", "row", "lead_row", "column"] (kac Ze):=⟨rfl,rfl,rfl,by decide +kernel,rfl,by decide +kernel,by decide +kernel⟩
abbrev Qx:Stmt:=top 18
theorem Sn:kad ["kind", "rows", "done", "waiting", "width", "column", "leading", "lead_row"] ["kind", "rows"] (kac Qx):=⟨rfl,rfl,rfl,by decide +kernel,rfl,by decide +kernel,by decide +kernel⟩
abbrev Zb:Stmt:=top 20
theorem zdj:kad ["kind", "width"] ["kind", "width"] (kac Zb):=⟨rfl,rfl,rfl,by decide +kernel,rfl,by decide +kernel,by decide +kernel⟩
abbrev jg:Stmt:=top 21
theorem QC:kad ["kind", "one", "other"] ["kind", "one", "other"] (kac jg):=⟨rfl,rfl,rfl,by decide +kernel,rfl,by decide +kernel,by decide +kernel⟩
abbrev Zu:Stmt:=top 22
theorem zdb:kad ["one", "other"] ["one", "other"] (kac Zu):=⟨rfl,rfl,rfl,by decide +kernel,rfl,by decide +kernel,by decide +kernel⟩
abbrev Yv:Stmt:=top 23
theorem Si:kad ["rows", "told", "row"] ["rows"] (kac Yv):=⟨rfl,rfl,rfl,by decide +kernel,rfl,by decide +kernel,by decide +kernel⟩
abbrev YD:Stmt:=top 24
theorem zey:kad ["table"] ["table"] (kac YD):=⟨rfl,rfl,rfl,by decide +kernel,rfl,by decide +kernel,by decide +kernel⟩
abbrev ZB:Stmt:=top 25
theorem Sh:kad ["kind", "one", "other", "columns", "told", "row", "left"] ["kind", "one", "other"] (kac ZB):=⟨rfl,rfl,rfl,by decide +kernel,rfl,by decide +kernel,by decide +kernel⟩
abbrev Qz:Stmt:=top 26
theorem So:kad ["kind", "table", "row", "right"] ["kind", "table", "row"] (kac Qz):=⟨rfl,rfl,rfl,by decide +kernel,rfl,by decide +kernel,by decide +kernel⟩
abbrev zcl:Stmt:=top 27
theorem ziF:kad ["kind", "size"] ["kind", "size"] (kac zcl):=⟨rfl,rfl,rfl,by decide +kernel,rfl,by decide +kernel,by decide +kernel⟩
abbrev yM:Stmt:=top 28
theorem sk:kad ["kind", "table", "width", "pair"] ["kind", "table"] (kac yM):=⟨rfl,rfl,rfl,by decide +kernel,rfl,by decide +kernel,by decide +kernel⟩
abbrev jR:Stmt:=top 30
theorem sZ:kad ["kind", "wholes", "lead"] ["kind", "wholes"] (kac jR):=⟨rfl,rfl,rfl,by decide +kernel,rfl,by decide +kernel,by decide +kernel⟩
abbrev qX:Stmt:=top 31
theorem Sg:kad ["kind", "rows", "wholes"] ["kind", "rows"] (kac qX):=⟨rfl,rfl,rfl,by decide +kernel,rfl,by decide +kernel,by decide +kernel⟩
abbrev zcp:Stmt:=top 32
theorem Sq:kad ["kind", "table", "size", "units", "rows"] ["kind", "table"] (kac zcp):=⟨rfl,rfl,rfl,by decide +kernel,rfl,by decide +kernel,by decide +kernel⟩
abbrev Zs:Stmt:=top 34
theorem zdk:kad ["machine"] ["machine"] (kac Zs):=⟨rfl,rfl,rfl,by decide +kernel,rfl,by decide +kernel,by decide +kernel⟩
abbrev qZ:Stmt:=top 35
theorem zc8:kad ["kind", "machine", "standing", "inputs"] ["kind", "machine", "standing", "inputs"] (kac qZ):=⟨rfl,rfl,rfl,by decide +kernel,rfl,by decide +kernel,by decide +kernel⟩
abbrev Za:Stmt:=top 36
theorem zda:kad ["kind", "machine", "standing"] ["kind", "machine", "standing"] (kac Za):=⟨rfl,rfl,rfl,by decide +kernel,rfl,by decide +kernel,by decide +kernel⟩
abbrev YG:Stmt:=top 44
theorem ze4:kad ["kind", "one", "other"] ["kind", "one", "other"] (kac YG):=⟨rfl,rfl,rfl,by decide +kernel,rfl,by decide +kernel,by decide +kernel⟩
abbrev Zd:Stmt:=top 47
theorem zde:kad ["kind", "room", "row"] ["kind", "room", "row"] (kac Zd):=⟨rfl,rfl,rfl,by decide +kernel,rfl,by decide +kernel,by decide +kernel⟩
abbrev Zt:Stmt:=top 48
theorem zdl:kad ["kind", "table", "rows", "room"] ["kind", "table", "rows", "room"] (kac Zt):=⟨rfl,rfl,rfl,by decide +kernel,rfl,by decide +kernel,by decide +kernel⟩
abbrev jv:Stmt:=top 49
theorem sX:kad ["kind", "table", "rows", "room", "wider"] ["kind", "table", "rows"] (kac jv):=⟨rfl,rfl,rfl,by decide +kernel,rfl,by decide +kernel,by decide +kernel⟩
abbrev qE:Stmt:=top 50
theorem zbn:kad ["table"] ["table"] (kac qE):=⟨rfl,rfl,rfl,by decide +kernel,rfl,by decide +kernel,by decide +kernel⟩
abbrev jn:Stmt:=top 51
theorem sP:kad ["kind", "table", "rows", "n"] ["kind", "table", "rows"] (kac jn):=⟨rfl,rfl,rfl,by decide +kernel,rfl,by decide +kernel,by decide +kernel⟩
abbrev xH:Stmt:=top 53
theorem YI:kad ["kind", "machine"] ["kind", "machine"] (kac xH):=⟨rfl,rfl,rfl,by decide +kernel,rfl,by decide +kernel,by decide +kernel⟩
abbrev JY:Stmt:=top 55
theorem zgb:kad ["kind", "machine", "F"] ["kind", "machine", "F"] (kac JY):=⟨rfl,rfl,rfl,by decide +kernel,rfl,by decide +kernel,by decide +kernel⟩
abbrev jU:Stmt:=top 56
theorem Sb:kad ["kind", "columns", "room", "hand"] ["kind", "columns", "room"] (kac jU):=⟨rfl,rfl,rfl,by decide +kernel,rfl,by decide +kernel,by decide +kernel⟩
abbrev JJ:Stmt:=top 57
theorem Sk:kad ["kind", "machine", "hand", "columns", "here", "standings", "inputs", "room", "put_in"] ["kind", "machine", "hand"] (kac JJ):=⟨rfl,rfl,rfl,by decide +kernel,rfl,by decide +kernel,by decide +kernel⟩
abbrev yA:Stmt:=top 58
theorem sh:kad ["kind", "table", "row", "polynomial", "columns", "told", "factor"] ["kind", "table", "row", "polynomial"] (kac yA):=⟨rfl,rfl,rfl,by decide +kernel,rfl,by decide +kernel,by decide +kernel⟩
abbrev qG:Stmt:=top 59
theorem Sc:kad ["kind", "machine", "polynomial", "n", "steered", "hand", "led", "backs", "F", "last"] ["kind", "machine", "polynomial"] (kac qG):=⟨rfl,rfl,rfl,by decide +kernel,rfl,by decide +kernel,by decide +kernel⟩
abbrev xF:Stmt:=top 62
theorem sJ:kad ["_law_one", "_law_other"] ["_law_one", "_law_other"] (kac xF):=⟨rfl,rfl,rfl,by decide +kernel,rfl,by decide +kernel,by decide +kernel⟩
abbrev jh:Stmt:=top 63
theorem sU:kad ["_law_cell", "_law_k", "_law_left", "_law_j", "_law_one"] ["_law_cell", "_law_k"] (kac jh):=⟨rfl,rfl,rfl,by decide +kernel,rfl,by decide +kernel,by decide +kernel⟩
abbrev js:Stmt:=top 64
theorem Jx:kad ["_law_prime_here", "_law_cell"] ["_law_prime_here", "_law_cell"] (kac js):=⟨rfl,rfl,rfl,by decide +kernel,rfl,by decide +kernel,by decide +kernel⟩
abbrev xb:Stmt:=top 65
theorem sE:kad ["_law_top", "_law_bottom", "_law_by"] ["_law_top", "_law_bottom"] (kac xb):=⟨rfl,rfl,rfl,by decide +kernel,rfl,by decide +kernel,by decide +kernel⟩
abbrev jO:Stmt:=top 66
theorem QH:kad ["_law_prime_here", "_law_whole_here"] ["_law_prime_here", "_law_whole_here"] (kac jO):=⟨rfl,rfl,rfl,by decide +kernel,rfl,by decide +kernel,by decide +kernel⟩
abbrev jS:Stmt:=top 67
theorem zas:kad ["_law_prime_here", "_law_one", "_law_other"] ["_law_prime_here", "_law_one", "_law_other"] (kac jS):=⟨rfl,rfl,rfl,by decide +kernel,rfl,by decide +kernel,by decide +kernel⟩
abbrev jp:Stmt:=top 68
theorem Qo:kad ["_law_prime_here", "_law_one", "_law_other"] ["_law_prime_here", "_law_one", "_law_other"] (kac jp):=⟨rfl,rfl,rfl,by decide +kernel,rfl,by decide +kernel,by decide +kernel⟩
abbrev jq:Stmt:=top 69
theorem Qt:kad ["_law_prime_here", "_law_one", "_law_other"] ["_law_prime_here", "_law_one", "_law_other"] (kac jq):=⟨rfl,rfl,rfl,by decide +kernel,rfl,by decide +kernel,by decide +kernel⟩
abbrev jf:Stmt:=top 71
theorem sY:kad ["_law_prime_here", "_law_table", "_law_column", "_law_told", "_law_row", "_law_one", "_law_j"] ["_law_prime_here", "_law_table", "_law_column"] (kac jf):=⟨rfl,rfl,rfl,by decide +kernel,rfl,by decide +kernel,by decide +kernel⟩
abbrev xQ:Stmt:=top 72
theorem XN:kad ["_law_table"] ["_law_table"] (kac xQ):=⟨rfl,rfl,rfl,by decide +kernel,rfl,by decide +kernel,by decide +kernel⟩
abbrev xI:Stmt:=top 73
theorem Xb:kad ["_law_prime_here", "_law_one", "_law_other"] ["_law_prime_here", "_law_one", "_law_other"] (kac xI):=⟨rfl,rfl,rfl,by decide +kernel,rfl,by decide +kernel,by decide +kernel⟩
abbrev jG:Stmt:=top 76
theorem Sa:kad ["_law_prime_here", "_law_one", "_law_told", "_law_left"] ["_law_prime_here", "_law_one"] (kac jG):=⟨rfl,rfl,rfl,by decide +kernel,rfl,by decide +kernel,by decide +kernel⟩
abbrev xy:Stmt:=top 77
theorem sF:kad ["_law_prime_here", "_law_rows", "_law_nought", "_law_left", "_law_told", "_law_at_here", "_law_some", "_law_first", "_law_by"] ["_law_prime_here", "_law_rows"] (kac xy):=⟨rfl,rfl,rfl,by decide +kernel,rfl,by decide +kernel,by decide +kernel⟩
abbrev yY:Stmt:=top 78
theorem sV:kad ["_law_cell", "_law_primes"] ["_law_cell"] (kac yY):=⟨rfl,rfl,rfl,by decide +kernel,rfl,by decide +kernel,by decide +kernel⟩
abbrev Zl:Stmt:=top 79
theorem zcW:kad ["_law_prime_here", "_law_cells", "_law_k"] ["_law_prime_here", "_law_cells", "_law_k"] (kac Zl):=⟨rfl,rfl,rfl,by decide +kernel,rfl,by decide +kernel,by decide +kernel⟩
abbrev jw:Stmt:=top 80
theorem sO:kad ["_law_prime_here", "_law_cells", "_law_k", "_law_one"] ["_law_prime_here", "_law_cells", "_law_k"] (kac jw):=⟨rfl,rfl,rfl,by decide +kernel,rfl,by decide +kernel,by decide +kernel⟩
abbrev jm:Stmt:=top 81
theorem JT:kad ["_law_head", "_law_n", "_law_plain"] ["_law_head", "_law_n", "_law_plain"] (kac jm):=⟨rfl,rfl,rfl,by decide +kernel,rfl,by decide +kernel,by decide +kernel⟩
abbrev jP:Stmt:=top 82
theorem QZ:kad ["_law_row", "_law_column"] ["_law_row", "_law_column"] (kac jP):=⟨rfl,rfl,rfl,by decide +kernel,rfl,by decide +kernel,by decide +kernel⟩
abbrev xA:Stmt:=top 83
theorem sG:kad ["_law_prime_here", "_law_cells", "_law_sizes", "_law_sorts_here", "_law_n", "_law_m", "_law_q", "_law_nought", "_law_tables", "_law_at_here", "_law_rows", "_law_columns", "_law_told", "_law_i", "_law_j", "_law_row"] ["_law_prime_here", "_law_cells", "_law_sizes", "_law_sorts_here"] (kac xA):=⟨rfl,rfl,rfl,by decide +kernel,rfl,by decide +kernel,by decide +kernel⟩
abbrev yS:Stmt:=top 84
theorem sv:kad ["_law_prime_here", "_law_tables", "_law_cell", "_law_n", "_law_i", "_law_j", "_law_c", "_law_table", "_law_hands", "_law_sights", "_law_some", "_law_row"] ["_law_prime_here", "_law_tables", "_law_cell"] (kac yS):=⟨rfl,rfl,rfl,by decide +kernel,rfl,by decide +kernel,by decide +kernel⟩
abbrev xC:Stmt:=top 85
theorem sH:kad ["_law_cells", "_law_most", "_law_head", "_law_prime_here", "_law_sizes", "_law_plain", "_law_tables", "_law_at_here", "_law_k"] ["_law_cells", "_law_most"] (kac xC):=⟨rfl,rfl,rfl,by decide +kernel,rfl,by decide +kernel,by decide +kernel⟩
abbrev xK:Stmt:=top 87
theorem sI:kad ["_law_prime_here", "_law_machine_here", "_law_table", "_law_hands", "_law_sights", "_law_some", "_law_there", "_law_k"] ["_law_prime_here", "_law_machine_here"] (kac xK):=⟨rfl,rfl,rfl,by decide +kernel,rfl,by decide +kernel,by decide +kernel⟩
abbrev yR:Stmt:=top 88
theorem su:kad ["_law_prime_here", "_law_one", "_law_other", "_law_told", "_law_k", "_law_sum_here"] ["_law_prime_here", "_law_one", "_law_other"] (kac yR):=⟨rfl,rfl,rfl,by decide +kernel,rfl,by decide +kernel,by decide +kernel⟩
abbrev yO:Stmt:=top 89
theorem so:kad ["_law_prime_here", "_law_one", "_law_other", "_law_told", "_law_i", "_law_j"] ["_law_prime_here", "_law_one", "_law_other"] (kac yO):=⟨rfl,rfl,rfl,by decide +kernel,rfl,by decide +kernel,by decide +kernel⟩
abbrev jE:Stmt:=top 90
theorem Se:kad ["_law_prime_here", "_law_rows", "_law_told", "_law_j", "_law_part"] ["_law_prime_here", "_law_rows"] (kac jE):=⟨rfl,rfl,rfl,by decide +kernel,rfl,by decide +kernel,by decide +kernel⟩
abbrev jj:Stmt:=top 91
theorem sK:kad ["_law_prime_here", "_law_table", "_law_rows", "_law_i", "_law_row", "_law_j", "_law_one"] ["_law_prime_here", "_law_table"] (kac jj):=⟨rfl,rfl,rfl,by decide +kernel,rfl,by decide +kernel,by decide +kernel⟩
abbrev jr:Stmt:=top 92
theorem sQ:kad ["_law_prime_here", "_law_machine_here", "_law_rule", "_law_put"] ["_law_prime_here", "_law_machine_here", "_law_rule"] (kac jr):=⟨rfl,rfl,rfl,by decide +kernel,rfl,by decide +kernel,by decide +kernel⟩
abbrev zgV:Stmt:=top 93
theorem Sr:kad ["_law_script", "_law_cells", "_law_prime_here", "_law_machine_here", "_law_at_here", "_law_n", "_law_one", "_law_rule"] ["_law_script"] (kac zgV):=⟨rfl,rfl,rfl,by decide +kernel,rfl,by decide +kernel,by decide +kernel⟩
end KL
namespace KL
open PySem PySem.Spec PyProof.Rows L2
abbrev hx(x:Str)(s:Stmt):Str×Stmt:=(x,s)
def hdX:List (Str×Stmt):=[hx "common_divisor" yQ,hx "fraction" qA,hx "one_over" qH,hx "number" Yy,hx "minus" Ju,hx "over" zcJ,hx "scaled" YC,hx "quotient" qF,hx "whole_sum" jL,hx "sum_of_products" yN,hx "eased" JV,hx "cleared" Ze,hx "swept" Qx,hx "noughts" Zb,hx "difference" jg,hx "abreast" Zu,hx "strung" Yv,hx "turned" YD,hx "product" ZB,hx "image" Qz,hx "unit" zcl,hx "over_one_bottom" yM,hx "over_lead" jR,hx "reduced" qX,hx "back" zcp,hx "leading" Zs,hx "next_of" qZ,hx "drifted" Za,hx "joined" YG,hx "lies_in" Zd,hx "widened" Zt,hx "grown_room" jv,hx "rests_of" qE,hx "least_room" jn,hx "steered_room" xH,hx "ruled" JY,hx "free_hand" jU,hx "chain" JJ,hx "row_of_polynomial" yA,hx "rule_for" qG,hx "_law_divisor" xF,hx "_law_mixed" jh,hx "_law_drawn" js,hx "_law_fraction" xb,hx "_law_make" jO,hx "_law_plus" jS,hx "_law_times" jp,hx "_law_minus" jq,hx "_law_image" jf,hx "_law_across" xQ,hx "_law_product" xI,hx "_law_back" jG,hx "_law_reduced" xy,hx "_law_prime" yY,hx "_law_at" Zl,hx "_law_small" jw,hx "_law_sorts" jm,hx "_law_lets" jP,hx "_law_blocked" xA,hx "_law_exchanged" yS,hx "_law_machine" xC,hx "_law_steered" xK,hx "_law_poly_plus" yR,hx "_law_poly_times" yO,hx "_law_det" jE,hx "_law_great" jj,hx "_law_ruled" jr,hx "law" zgV]
def hdY:List Str:=["abs", "all", "bool", "int", "isinstance", "len", "list", "max", "range", "reversed", "sorted", "sum", "tuple", "zip"]
def hdZ:List Str:=[]
def hdC:List Str:=["GREAT_PRIME"]
def lk(K:PySem.W.Frag):List (Option (FuncData×Bool×Bool))×List (Option (Option Value))×List (Option Addr)×List (Option Int):=(hdX.map fun x=>fnSh K x.1,hdY.map (PySem.W.nsIn K mainGlobals),hdZ.map (fun _=>none),hdC.map (ctSh K))
def lv:List (Option (FuncData×Bool×Bool))×List (Option (Option Value))×List (Option Addr)×List (Option Int):=(hdX.map fun x=>fnEx x.1 x.2,hdY.map fun _=>some none,hdZ.map fun _=>none,[some 2305843009213693951])
theorem h_ws:PySem.W.Fast.tw9446332074065402090 PySem.Challenge.rw_steermill_k53_whole_one_hand_one_rule=true:=by kernel_rfl
theorem h_st(w:World)(os:OsState):(runT PySem.Challenge.rw_steermill_k53_whole_one_hand_one_rule.prog 3200 w os).map (statT PySem.Challenge.rw_steermill_k53_whole_one_hand_one_rule.prog w)=some true:=by kernel_rfl
theorem h_sn(w:World)(os:OsState):(runT PySem.Challenge.rw_steermill_k53_whole_one_hand_one_rule.prog 3200 w os).map (seenT PySem.Challenge.rw_steermill_k53_whole_one_hand_one_rule.prog)=some (PySem.W.openGood (lawOnly PySem.Challenge.rw_steermill_k53_whole_one_hand_one_rule.prog) (looseOf PySem.Challenge.rw_steermill_k53_whole_one_hand_one_rule.prog)):=by kernel_rfl
theorem h_lk(w:World)(os:OsState):(runT PySem.Challenge.rw_steermill_k53_whole_one_hand_one_rule.prog 3200 w os).map (fun s=>lk (fragH s.heap))=some lv:=by kernel_rfl
end KL
namespace Nm
inductive Nb where
 | q (r:Rat)
 | z (i:Int)
 deriving DecidableEq
abbrev TB:=List (List Nb)
def Nb.ok(k:Int):Nb->Prop
 | .q _=>k=0
 | .z i=>k≠0/\0<=i/\i<k
def zinv(k b:Int):Int:=(((wV k.toNat).find? fun(x:Nat)=>decide (k ∣ (x:Int)*b - 1)).getD 0:Nat)
theorem zdq{k b x y:Int}(hx0:0<=x)(hx:x<k)(hy0:0<=y)(hy:y<k)(h1:k ∣ x*b - 1)(h2:k ∣ y*b - 1):x=y:=by
 have h:k ∣ x - y:=by
  have e:x - y=y *(x*b - 1) - x *(y*b - 1):=by grind
  rw[e];exact waz (gM h1) (gM h2)
 obtain⟨c,hc⟩:=h
 rcases gk c 0 with h|h
 ·have:k*c<=k *(-1):=ut (by omega) (by omega);omega
 ·rcases gk 0 c with h'|h'
  ·have:k*1<=k*c:=ut (by omega) (by omega);omega
  ·have:c=0:=by omega
   rw[this,Gk]at hc;omega
theorem ze9{k b x:Int}(h0:0<=x)(h1:x<k)(h:k ∣ x*b - 1):zinv k b=x:=by
 unfold zinv;cases e:(wV k.toNat).find? fun(x:Nat)=>decide (k ∣ (x:Int)*b - 1)with
 | none =>
  rw[List.find?_eq_none]at e;have:=e x.toNat (by rw[vA];omega);rw[show((x.toNat:Nat):Int)=x by omega]at this;simp[h]at this
 | some y =>
  have hm:=List.mem_of_find?_eq_some e;rw[vA]at hm;have hp:=List.find?_some e;have hp':k ∣ (y:Int)*b - 1:=by simpa using hp
  show((y:Nat):Int)=x;exact zdq (uI y) (by omega) h0 h1 hp' h
theorem zhf{p r:Int}(hp:0<p):∀(n:Nat)(l g ml mg:Int),g.toNat<n->OvInv p r l g ml mg->∃ x,0<=x/\x<p/\p ∣ x*r - 1
 | 0,_,_,_,_,h,_=>absurd h (ug _)
 | n+1,l,g,ml,mg,h,I=>by
  by_cases z:g=0
  ·subst z;exact⟨ml % p,gB _ (by omega),uU _ hp,zhd I hp⟩
  ·exact zhf hp n _ _ _ _ (wR (zfM I.g0 z) (by omega)) (zeJ I z)
theorem XX{k b:Int}(h:Pr k)(h0:0<b)(h1:b<k):∃ x,0<=x/\x<k/\k ∣ x*b - 1 :=
 zhf (by have:=h.lo;omega) _ _ _ _ _ (ul _) (zbR h h0 h1)
def nnum(k w:Int):Nb:=if k=0 then .q (w:Rat)else .z (w.fmod k)
def nadd(k:Int):Nb->Nb->Nb
 | .q a,.q b=>.q (a+b)
 | .z a,.z b=>.z ((a+b).fmod k)
 | _,_=>.z 0
def nsub(k:Int):Nb->Nb->Nb
 | .q a,.q b=>.q (a - b)
 | .z a,.z b=>.z ((a - b).fmod k)
 | _,_=>.z 0
def nmul(k:Int):Nb->Nb->Nb
 | .q a,.q b=>.q (a*b)
 | .z a,.z b=>.z ((a*b).fmod k)
 | _,_=>.z 0
def ndiv(k:Int):Nb->Nb->Nb
 | .q a,.q b=>.q (a / b)
 | .z a,.z b=>.z ((a*zinv k b).fmod k)
 | _,_=>.z 0
theorem Yk(k a:Int):k ∣ a.fmod k - a:=by
 rw[waU];refine⟨-(a.fdiv k),?_⟩
 grind
theorem xY(r:Rat):(r.den:Int)≠0:=by have:=r.den_nz;omega
theorem den_pos(r:Rat):0 <(r.den:Int):=by have:=r.den_pos;omega
theorem zjw{r:Rat}(h:r≠0):r.num≠0:=fun z=>h (waK.mp z)
end Nm
namespace L2
open PySem PySem.Spec PyProof.Rows
def kav(cells:List (Str×Addr)):List (Str×NameKind)->List (Str×Addr)->List (Str×Addr)
 | [],acc=>acc
 | (n,k)::r,acc=>if (k == NameKind.free)=true then kav cells r ((n,(cells.lookup n).getD 0)::acc)else kav cells r acc
theorem ZL{env:Env}(f:Str×NameKind->List (Str×Addr)->Sem (ForInStep (List (Str×Addr))))
  (hf:∀ name kind cs,f (name,kind) cs=if (kind == NameKind.free)=true then(do let a ← cellOf env name;pure (.yield ((name,a)::cs)))else pure (.yield cs)) :
  ∀(l:List (Str×NameKind))(acc:List (Str×Addr)),(∀ x∈l,x.2=.free->∃ c,env.cells.lookup x.1=some c)->(forIn l acc f:Sem _)=pure (kav env.cells l acc)
 | [],acc,_=>by rw[List.forIn_nil];rfl
 | (n,k)::r,acc,h=>by
  rw[List.forIn_cons,hf];have hr:∀ x∈r,x.2=.free->∃ c,env.cells.lookup x.1=some c:=fun x hx=>h x (wr _ hx)
  by_cases hk:(k == NameKind.free)=true
  ·obtain⟨c,hc⟩:=h (n,k) wp (by simpa using hk);rw[if_pos hk];have e:cellOf env n=pure c:=by unfold cellOf;rw[hc]
   rw[e];show(forIn r ((n,c)::acc) f:Sem _)=_;rw[ZL f hf r _ hr]
   conv=>rhs;unfold kav
   rw[if_pos hk,hc]
   rfl
  ·rw[if_neg hk];show(forIn r acc f:Sem _)=_;rw[ZL f hf r _ hr]
   conv=>rhs;unfold kav
   rw[if_neg hk]
theorem JA{scope:Scope}{env:Env}(h:∀ x∈scope.names,x.2=.free->∃ c,env.cells.lookup x.1=some c):closureFor scope env=pure (kav env.cells scope.names []):=by
 simp only[closureFor];rw[ZL (env:=env) _ (fun name kind cs=>by cases hk:kind == NameKind.free <;> simp[hk]) scope.names [] h]
 rfl
theorem Yh{cells:List (Str×Addr)}:∀ {l:List (Str×NameKind)} {acc:List (Str×Addr)} {n:Str} {c:Addr},(∀ x∈l,x.2=.free->∃ c,cells.lookup x.1=some c)->(n,c)∈kav cells l acc ->
  (n,c)∈acc\/((n,NameKind.free)∈l/\cells.lookup n=some c)
 | [],acc,n,c,_,h=>.inl h
 | (m,k)::r,acc,n,c,hl,h=>by
  have hr:∀ x∈r,x.2=.free->∃ c,cells.lookup x.1=some c:=fun x hx=>hl x (wr _ hx)
  unfold kav at h
  by_cases hk:(k == NameKind.free)=true
  ·rw[if_pos hk]at h;have hk':k=.free:=by simpa using hk
   subst hk';obtain⟨c',hc'⟩:=hl (m,.free) wp rfl
   rcases Yh hr h with h|⟨h1,h2⟩
   ·rcases wF.mp h with e|h
    ·have hc2:cells.lookup m=some c':=hc';rw[hc2]at e;cases e;exact .inr ⟨wp,hc'⟩
    ·exact .inl h
   ·exact .inr ⟨wr _ h1,h2⟩
  ·rw[if_neg hk]at h
   rcases Yh hr h with h|⟨h1,h2⟩
   ·exact .inl h
   ·exact .inr ⟨wr _ h1,h2⟩
theorem xm{α:Type}:∀ {l:List (Str×α)} {n:Str},(∃ c,(n,c)∈l)->∃ c,l.lookup n=some c
 | [],n,⟨c,h⟩=>nomatch h
 | (m,v)::r,n,⟨c,h⟩=>by
  rw[GH];cases hb:n == m with
  | true=>exact⟨v,rfl⟩
  | false =>
   rcases wF.mp h with e|h
   ·cases e;simp at hb
   ·exact xm ⟨c,h⟩
theorem ZK{cells:List (Str×Addr)}:∀ {l:List (Str×NameKind)} {acc:List (Str×Addr)} {p:Str×Addr},p∈acc->p∈kav cells l acc
 | [],acc,p,h=>h
 | (m,k)::r,acc,p,h=>by
  unfold kav
  split
  ·exact ZK (wr _ h)
  ·exact ZK h
theorem qD{cells:List (Str×Addr)}:∀ {l:List (Str×NameKind)} {acc:List (Str×Addr)} {n:Str},(n,NameKind.free)∈l->∃ c,(n,c)∈kav cells l acc
 | (m,k)::r,acc,n,h=>by
  unfold kav
  rcases wF.mp h with e|h
  ·cases e;exact⟨_,ZK wp⟩
  ·split
   ·exact qD h
   ·exact qD h
theorem ym:∀(l:List (Str×NameKind))(n:Nat)(acc:List (Str×Addr)),cellsFrom n l acc=cellsFrom n l []++acc
 | [],n,acc=>rfl
 | (m,k)::r,n,acc=>by
  unfold cellsFrom
  split
  ·rw[ym r (n+1) ((m,n)::acc),ym r (n+1) [(m,n)],waq];rfl
  ·exact ym r n acc
theorem jN:∀ {l:List (Str×NameKind)} {n:Nat} {x:Str} {c:Addr},(x,c)∈cellsFrom n l []->(x,NameKind.cell)∈l
 | (m,k)::r,n,x,c,h=>by
  unfold cellsFrom at h
  by_cases hk:(k == NameKind.cell)=true
  ·rw[if_pos hk,ym]at h
   rcases wq.mp h with h|h
   ·exact wr _ (jN h)
   ·have e:(x,c) =(m,n):=by simpa using h
    cases e;have:k=.cell:=by simpa using hk
    subst this;exact wp
  ·rw[if_neg hk]at h;exact wr _ (jN h)
theorem jW:∀ {l:List (Str×NameKind)} {n:Nat} {x:Str},(x,NameKind.cell)∈l->∃ c,(x,c)∈cellsFrom n l []
 | (m,k)::r,n,x,h=>by
  unfold cellsFrom
  rcases wF.mp h with e|h
  ·cases e;rw[if_pos (by decide),ym];exact⟨n,wE _ wp⟩
  ·split
   ·rw[ym];obtain⟨c,hc⟩:=jW (n:=n+1) h;exact⟨c,wQ _ hc⟩
   ·exact jW h
def blk(X:Cx)(own fre:List Str)(scope:Scope)(L:Addr)(cells:List (Str×Addr))(s₀:Shared)(H₀:Hp)(ex:List Addr)(pn:List (Addr×Obj)):Cx where
 prog:=X.prog
 w:=X.w
 K:=X.K
 mg:=X.mg
 base:=X.base
 A:=X.A
 N:=own++fre
 s₀:=s₀
 H₀:=H₀
 env:=compEnvC scope cells L X.env
 outer:=X.stack
 stack:=X.stack
 ex:=ex
 fn:=fun x=>own.contains x
 calm:=X.calm
 pn:=pn
 xe:=fun _ _=>False
def bst(own:Nat)(idx:List Nat)(σ:St):St:=wx own none++idx.map fun i=>(σ[i]?).join
structure BlkOk(X:Cx)(own fre:List Str)(idx:List Nat)(scope:Scope):Prop where
 kind:scope.kind=.function
 free:(scope.names.all fun x=>x.2 != .free || (X.env.kindOf x.1 == some .cell || X.env.kindOf x.1 == some .free))=true
 loc:(scope.names.all fun x=>x.2 != .local || scope.names.lookup x.1 == some .local)=true
 ownB:(scope.names.all fun x=>x.2 != .free || !own.contains x.1)=true
 freB:((fre.zip idx).all fun p=>scope.names.lookup p.1 == some .free && X.N[p.2]? == some p.1)=true
 len:fre.length=idx.length
 nd:(scope.names.map (·.1)).Nodup
theorem zh9{l:List (Str×NameKind)}:(l.map (·.1)).Nodup->∀ {x:Str} {k1 k2:NameKind},(x,k1)∈l->(x,k2)∈l->k1=k2:=by
 induction l with
 | nil=>intro _ x k1 k2 h;exact nomatch h
 | cons p r ih =>
  intro nd x k1 k2 h1 h2;rw[vW,gA]at nd
  rcases wF.mp h1 with e1|h1 <;> rcases wF.mp h2 with e2|h2
  ·rw[← e1]at e2;cases e2;rfl
  ·exact absurd (wj.mpr ⟨_,h2,by rw[← e1]⟩) nd.1
  ·exact absurd (wj.mpr ⟨_,h1,by rw[← e2]⟩) nd.1
  ·exact ih nd.2 h1 h2
section
variable{X:Cx}{own fre:List Str}{idx:List Nat}{scope:Scope}{pins:List (Addr×Obj)}{σ:St}{H:Hp}{s:Shared}
theorem BlkOk.freeC(B:BlkOk X own fre idx scope){x:Str×NameKind}(hx:x∈scope.names)(h:x.2=.free):X.env.kindOf x.1=some .cell\/X.env.kindOf x.1=some .free:=by
 have:=gY.mp B.free x hx;rw[h]at this
 simpa using this
theorem BlkOk.cells(B:BlkOk X own fre idx scope)(ok:X.Ok):∀ x∈scope.names,x.2=.free->∃ c,X.env.cells.lookup x.1=some c:=fun x hx h=>ok.has x.1 (B.freeC hx h)
def rl(env:Env)(p:Str×NameKind):Str×NameKind:=if (p.2 == NameKind.free && env.scope.kind == .function && env.kindOf p.1 == some .cell)=true then(p.1,NameKind.cell)else p
theorem zg8(env:Env)(p:Str×NameKind):(rl env p).1=p.1:=by unfold rl;split <;> rfl
theorem zhp(env:Env)(p:Str×NameKind):(rl env p).2=p.2\/((rl env p).2=.cell/\p.2=.free):=by
 unfold rl
 split
 ·rename_i hc;rw[GJ,GJ]at hc;exact .inr ⟨rfl,by simpa using hc.1.1⟩
 ·exact .inl rfl
theorem jY{α:Type}(p:Str×α)(r:List (Str×α))(x:Str):(p::r).lookup x=if (x == p.1)=true then some p.2 else r.lookup x:=by
 rw[show p =(p.1,p.2)from rfl,GH];cases x == p.1 <;> rfl
theorem qy{env:Env}:∀ {l:List (Str×NameKind)} {x:Str} {k:NameKind},(l.map (rl env)).lookup x=some k->(l.lookup x=some k\/(k=.cell/\l.lookup x=some .free))
 | [],x,k,h=>by simp at h
 | p::r,x,k,h=>by
  rw[vW,jY,zg8]at h;rw[jY]
  by_cases hx:(x == p.1)=true
  ·rw[if_pos hx]at h ⊢
   rcases zhp env p with e|⟨e1,e2⟩
   ·rw[e]at h;exact .inl h
   ·rw[e1]at h;cases h;rw[e2];exact .inr ⟨rfl,rfl⟩
  ·rw[if_neg hx]at h ⊢;exact qy h
theorem Yl{env:Env}:∀ {l:List (Str×NameKind)} {x:Str},l.lookup x=some .free->(l.map (rl env)).lookup x=some .cell\/(l.map (rl env)).lookup x=some .free
 | [],x,h=>by simp at h
 | p::r,x,h=>by
  rw[jY]at h;rw[vW,jY,zg8]
  by_cases hx:(x == p.1)=true
  ·rw[if_pos hx]at h ⊢
   rcases zhp env p with e|⟨e1,e2⟩
   ·rw[e];exact .inr h
   ·rw[e1];exact .inl rfl
  ·rw[if_neg hx]at h ⊢;exact Yl h
theorem zcv(B:BlkOk X own fre idx scope)(ok:X.Ok){n:Nat}{x:Str}{c:Addr}(h:(cellsFrom n scope.names (kav X.env.cells scope.names [])).lookup x=some c) :
  ((x,c)∈cellsFrom n scope.names []/\(x,NameKind.cell)∈scope.names)\/((x,NameKind.free)∈scope.names/\X.env.cells.lookup x=some c):=by
 have h1:=mem_of_lookup h;rw[ym]at h1
 rcases wq.mp h1 with h1|h1
 ·exact .inl ⟨h1,jN h1⟩
 ·rcases Yh (B.cells ok) h1 with h1|h1
  ·exact nomatch h1
  ·exact .inr h1
end
section
variable{prog:Program}{w:World}{A:Around}{E:Value->Shared->Prop}{R:Result->Shared->Prop}{s:Shared}
theorem zaM{elt target iter:Expr}{ifs:List Expr}{scope:Scope}{pos:Pos}{it acc:Value}{env:Env}(I:Nat->Shared->Prop)
  (turn:∀ n s,I n s->wpAny (model prog w) A (pyNext it) (fun r s₁=>match r with
   | none=>R (.ok .next) s₁
   | some v=>wpAny (model prog w) A (letOwnedTupleGo target it v) (fun _ s₂=>wpAny (model prog w) A (assign target env v) (fun _ s₃ =>
     wpAny (model prog w) A (forIn ifs true fun c r=>if r=true then do let ok ← isTrue c env (eval c env);pure (ForInStep.yield ok)else pure (ForInStep.yield r)) (fun ok s₄ =>
      if ok=true then wpAny (model prog w) A (eval elt env) (fun x s₅ =>
       wpAny (model prog w) A (call (.builtin "list.append") [acc,x]) (fun _ s₆=>∃ m,m<n/\I m s₆) (fun _ _=>False) s₅) (fun _ _=>False) s₄
      else ∃ m,m<n/\I m s₄) (fun _ _=>False) s₃) (fun _ _=>False) s₂) (fun _ _=>False) s₁) (fun _ _=>False) s)
  (n:Nat) (h:I n s) :
  codeAny (model prog w) A (.compLoop (.ListComp elt [⟨target,iter,ifs,0⟩] scope pos) 0 it acc env) R s:=by
 refine codeAny_loop rfl I (fun n s hI=>?_) n h;show wpAny _ A ((compTurn (.ListComp elt [⟨target,iter,ifs,0⟩] scope pos) 0 it acc env).onRaise (fun x=>do noteFrame x env;theTreesLotGoes x)) _ _ s;refine wpAny_noted ?_;rw[compTurn_list];refine wpAny_bind (wpAny_standAt (wpAny_bind (wpAny_mono (turn n s hI) (fun r s₁ h₁=>?_) fun _ _ h'=>h'.elim)));cases r with
 | none=>exact wpAny_pure h₁
 | some v =>
  refine wpAny_bind (wpAny_mono h₁ (fun _ s₂ h₂=>?_) fun _ _ h'=>h'.elim);refine wpAny_bind (wpAny_mono h₂ (fun _ s₃ h₃=>wpAny_bind (wpAny_mono h₃ (fun ok s₄ h₄=>?_) fun _ _ h'=>h'.elim)) fun _ _ h'=>h'.elim);cases ok with
  | false=>exact wpAny_pure ⟨rfl,h₄⟩
  | true =>
   exact wpAny_bind (wpAny_bind (wpAny_mono h₄ (fun x s₅ h₅=>wpAny_bind (wpAny_mono h₅ (fun _ s₆ h₆=>wpAny_pure (wpAny_pure ⟨rfl,h₆⟩)) fun _ _ h'=>h'.elim)) fun _ _ h'=>h'.elim))
end
section
variable{X:Cx}{own fre:List Str}{idx:List Nat}{scope:Scope}{pins:List (Addr×Obj)}{σ:St}{H:Hp}{s:Shared}
abbrev bcells(X:Cx)(scope:Scope)(L:Addr):List (Str×Addr):=cellsFrom (L+1) scope.names (kav X.env.cells scope.names [])
abbrev dictO:Obj:={ cls:=.type "dict",data:=.dict #[] }
theorem zeN{own:Nat}{idx:List Nat}{σ:St}{i:Nat}{v:V}(h:(bst own idx σ)[i]?=some (some v)):∃ j k,i=own+j/\idx[j]?=some k/\σ[k]?=some (some v):=by
 unfold bst at h
 by_cases hi:i<own
 ·rw[wW (by simpa using hi)]at h;rw[uy]at h;rw[if_pos hi]at h;cases h
 ·rw[wZ (by simpa using way hi)]at h;rw[wL,wk]at h;cases e:idx[i - own]? with
  | none=>rw[e]at h;cases h
  | some k =>
   rw[e]at h;refine⟨i - own,k,by omega,e,?_⟩;have h':some ((σ[k]?).join)=some (some v):=h;have h2:=Option.some.inj h';cases e2:σ[k]? with
   | none=>rw[e2]at h2;cases h2
   | some o=>rw[e2]at h2;rw[show o=some v from h2]
theorem zfa(B:BlkOk X own fre idx scope)(I:Inv X pins σ H s){ex:List Addr}(hex:∀ b∈ex,FpOk X pins H b/\b<s.heap.objs.size) :
  Inv (blk X own fre scope s.heap.objs.size (bcells X scope s.heap.objs.size) s H ex (X.pn++pins)) [] (bst own.length idx σ) H { s with heap:=pushCells (s.heap.push dictO) scope.names }:=by
 have ok:=I.ok;have hsz:(s.heap.push dictO).objs.size=s.heap.objs.size+1:=Heap.size_push ..;have keep:∀ b o,s.heap.get? b=some o->(pushCells (s.heap.push dictO) scope.names).get? b=some o:=fun b o e=>pushCells_keeps _ _ b o (Heap.get?_push_of_some _ e)
 have cok:=cellsFrom_ok scope.names (s.heap.push dictO) (s.heap.objs.size+1) [] ⟨fun _ _ hm=>(nomatch hm),List.Pairwise.nil⟩ (by rw[hsz];exact wu _);rw[hsz]at cok;have freeLt:∀ x c,X.env.cells.lookup x=some c->c<s.heap.objs.size:=fun x c e=>let ⟨_,h⟩:=I.cell x c e;h.lt
 have cellC:∀ x c,(bcells X scope s.heap.objs.size).lookup x=some c->(s.heap.objs.size+1<=c/\(pushCells (s.heap.push dictO) scope.names).IsCell c none/\(x,c)∈cellsFrom (s.heap.objs.size+1) scope.names []/\(x,NameKind.cell)∈scope.names)\/(X.env.cells.lookup x=some c/\c<s.heap.objs.size/\(x,NameKind.free)∈scope.names):=fun x c e=>by
  rcases zcv B ok e with⟨h1,h2⟩|⟨h1,h2⟩
  ·exact .inl ⟨(cok.empty x c h1).2,(cok.empty x c h1).1,h1,h2⟩
  ·exact .inr ⟨h2,freeLt x c h2,h1⟩
 have hfs:∀ b∈frs X.stack,b<s.heap.objs.size:=fun b hb=>by
  rcases wF.mp (I.stkSub b hb)with e|hb
  ·rw[e];exact I.lt
  ·obtain⟨_,o,ho,_⟩:=I.ok.funs.mem hb;exact wR (Heap.lt_size ho) I.sz
 have OK:(blk X own fre scope s.heap.objs.size (bcells X scope s.heap.objs.size) s H ex (X.pn++pins)).Ok:=by
  refine⟨ok.mod,B.kind,ok.glob,ok.blt,wu _,?_,?_,?_,ok.hd,ok.frames,.inl rfl,?_,fun b o e=>I.bs b o e,wN ok.bsz I.sz,?_,?_,I.stack,I.stkFree⟩
  ·intro x y c e1 e2
   rcases cellC x c e1 with⟨l1,_,m1,_⟩|⟨f1,l1,_⟩ <;> rcases cellC y c e2 with⟨l2,_,m2,_⟩|⟨f2,l2,_⟩
   ·exact name_of_addr cok.apart m1 m2
   ·exact absurd (wR l2 (Gy l1)) (vM _)
   ·exact absurd (wR l1 (Gy l2)) (vM _)
   ·exact ok.inj x y c f1 f2
  ·intro x hk;have hk':(relabel scope X.env).names.lookup x=some .cell\/(relabel scope X.env).names.lookup x=some .free:=hk;have hor:(x,NameKind.cell)∈scope.names\/(x,NameKind.free)∈scope.names:=by
    rcases hk' with h|h
    ·rcases qy h with h|⟨_,h⟩
     ·exact .inl (mem_of_lookup h)
     ·exact .inr (mem_of_lookup h)
    ·rcases qy h with h|⟨h,_⟩
     ·exact .inr (mem_of_lookup h)
     ·cases h
   refine xm ?_;show ∃ c,(x,c)∈cellsFrom (s.heap.objs.size+1) scope.names (kav X.env.cells scope.names []);rw[ym]
   rcases hor with h|h
   ·obtain⟨c,hc⟩:=jW (n:=s.heap.objs.size+1) h;exact⟨c,wQ _ hc⟩
   ·obtain⟨c,hc⟩:=qD (cells:=X.env.cells) (acc:=[]) h;exact⟨c,wE _ hc⟩
  ·intro x c hf e
   rcases cellC x c e with⟨l1,_⟩|⟨_,_,m1⟩
   ·show s.heap.objs.size<=c;omega
   ·have:=gY.mp B.ownB _ m1;have hf':own.contains x=true:=hf;rw[hf']at this;simp at this
  ·intro b hb;obtain⟨⟨_,_,_,_,f4,_⟩,hlt⟩:=hex b hb;refine⟨vd hlt,fun x c e=>?_⟩
   rcases cellC x c e with⟨l1,_⟩|⟨f1,_,_⟩
   ·exact Ne.symm (vd (wR hlt (Gy l1)))
   ·exact f4 x c f1
  ·intro b o e hb;obtain⟨⟨_,_,_,f3,_,_⟩,_⟩:=hex b hb
   rcases f3 with f3|f3
   ·exact ok.noex b o e f3
   ·exact absurd (Heap.lt_size (ok.bs b o e).1) (Nat.not_lt.mpr f3)
  ·intro b hb hm;obtain⟨⟨_,f1,f2,_⟩,_⟩:=hex b hb
   rcases wF.mp (I.stkSub b hm)with e|hm
   ·exact f1 e
   ·exact f2 hm
 refine⟨OK,rfl,I.bare,Un.kept keep,?_,?_,I.fresh,?_,?_,I.hok.kept keep,?_⟩
 ·refine⟨fun _=>none,(Heap.Ns.new s.heap (.type "dict")).keeps (pushCells_keeps _ _),fun i x v e1 e2 e3=>?_⟩;obtain⟨j,k,rfl,hj,hk⟩:=zeN e2;have e1':(own++fre)[own.length+j]?=some x:=e1;rw[wZ (gZ _ _),GO]at e1';have hz:(x,k)∈fre.zip idx:=by
   refine GW.mpr ⟨j,?_⟩;rw[uO];exact⟨e1',hj⟩
  have hq:=gY.mp B.freB _ hz;rw[GJ]at hq;have q1:scope.names.lookup x=some .free:=by simpa using hq.1
  have q2:X.N[k]?=some x:=by simpa using hq.2
  have kin:=B.freeC (mem_of_lookup q1) rfl;have vis:Vis X.env.scope x:=.inr kin;obtain⟨m,hn,hl⟩:=I.loc;obtain⟨u,r,look⟩:=hl k x v q2 hk vis;refine⟨u,r,?_⟩;obtain⟨c,hc,hcell⟩ : ∃ c,X.env.cells.lookup x=some c/\s.heap.IsCell c (some u):=by
   rcases look with⟨hk1,_⟩|⟨_,c,e,z⟩
   ·rcases kin with h|h <;>(rw[hk1]at h;cases h)
   ·exact⟨c,e,z⟩
  refine .inr ⟨Yl q1,c,?_,hcell.keeps keep⟩;have hl2:∃ c',(bcells X scope s.heap.objs.size).lookup x=some c':=by
   refine xm ?_;show ∃ c,(x,c)∈cellsFrom (s.heap.objs.size+1) scope.names (kav X.env.cells scope.names []);rw[ym];obtain⟨c,hc⟩:=qD (cells:=X.env.cells) (acc:=[]) (mem_of_lookup q1);exact⟨c,wE _ hc⟩
  obtain⟨c',hc'⟩:=hl2
  rcases zcv B ok hc' with⟨_,h2⟩|⟨_,h2⟩
  ·exact nomatch zh9 B.nd h2 (mem_of_lookup q1)
  ·rw[hc]at h2;cases h2;exact hc'
 ·intro x c e
  rcases cellC x c e with⟨_,h,_⟩|⟨h,_,_⟩
  ·exact⟨none,h⟩
  ·obtain⟨v,z⟩:=I.cell x c h;exact⟨v,z.keeps keep⟩
 ·intro x c e
  rcases cellC x c e with⟨l,_⟩|⟨h,_,_⟩
  ·exact I.hok.fresh (by omega)
  ·exact I.freeC x c h
 ·intro p hp;rw[uN]at hp;obtain⟨h1,h2,h3,h4,h5⟩:=I.pin p hp;refine⟨keep _ _ h1,h2,vd (Heap.lt_size h1),fun hm=>?_,h5⟩
  rcases wF.mp (I.stkSub p.1 hm)with e|hm
  ·exact h3 e
  ·exact h4 hm
 ·show(bst own.length idx σ).length =(own++fre).length;unfold bst;rw[wD,wL,wa,wD,B.len]
theorem ziQ{L D:Addr}{cells:List (Str×Addr)}{s₀ s':Shared}{H₀ H':Hp}{fp:List Addr}{pl:List (Addr×Obj)}{σb:St}{ys:List V}{its:List Value}{n:Nat}(I:Inv X pins σ H₀ s₀)(I':Inv (blk X own fre scope L cells s₀ H₀ (D::fp) (X.pn++pins)) pl σb H' s')
  (hfp:∀ b∈fp,FpOk X pins H₀ b) (hD:FpOk X pins H₀ D) (hD':H' D=none) (hv:Vals ys its) (hz:ys.length<=sizeLine) (e:s'.heap.get? D=some { cls:=.type "list",data:=.seq its.toArray n }) :
  Inv X pins σ (upd H' D (.lst ys)) s':=by
 have u:=I'.base;have nD:H₀ D=none:=hD.1;refine I.call' (ch:=D::fp) (H':=upd H' D (.lst ys)) I'.os ⟨u.keep,u.slot,fun b o h1 h2 h3=>?_,u.there,fun b xs h=>?_,fun b o v h=>?_,fun b ps h=>?_⟩ (fun b o h=>?_) I'.bare fun b hb=>?_
 ·rw[zM (fun z=>h3 (by rw[z];exact wp))];exact u.free b o h1 h2 h3
 ·rw[zM (ye h nD)];exact u.tups b xs h
 ·rw[zM (ye h nD)];exact u.frzs b o v h
 ·rw[zM (ye h nD)];exact u.tbls b ps h
 ·by_cases hb:b=D
  ·subst hb;rw[zg]at h;cases h;exact⟨hz,its,n,hv,e⟩
  ·rw[zM hb]at h;exact(I'.hok b o h).stay (fun c v _ q=>q) (fun c q=>by rw[zM (ye q hD')];exact q) fun c xs q=>by rw[zM (ye q hD')];exact q
 ·rcases wF.mp hb with rfl|hb
  ·obtain⟨_,f1,_,f3,f4,f5⟩:=hD;exact⟨f3,f1,f4,f5⟩
  ·obtain⟨_,f1,_,f3,f4,f5⟩:=hfp b hb;exact⟨f3,f1,f4,f5⟩
def GOwn(k:Nat)(g:TG):Prop:=∀ v σ H Q,g v σ H Q->g v σ H fun σ' H'=>Q σ' H'/\σ'.drop k=σ.drop k/\σ'.length=σ.length
def GOwns(k:Nat)(g:TGs):Prop:=∀ v σ H Q,g v σ H Q->g v σ H fun σ' H'=>Q σ' H'/\σ'.drop k=σ.drop k/\σ'.length=σ.length
theorem yd{k i:Nat}(h:i<k):GOwn k (gName i):=fun v σ H Q q=>⟨q,by rw[List.drop_set_of_lt h],vg⟩
theorem xn{k:Nat}:GOwns k gNil:=fun v σ H Q ⟨e,q⟩=>⟨e,q,rfl,rfl⟩
theorem zY{k:Nat}{t:TG}{u:TGs}(ht:GOwn k t)(hm:∀ v σ H Q Q',(∀ σ' H',Q σ' H'->Q' σ' H')->t v σ H Q->t v σ H Q')(hu:GOwns k u):GOwns k (gCons t u):=fun vs σ H Q ⟨v,r,e,q⟩ =>
 ⟨v,r,e,hm _ _ _ _ _ (fun σ' H' ⟨q1,q2,q3⟩=>by
  have q4:=hu _ _ _ _ q1;rw[q2,q3]at q4;exact q4) (ht _ _ _ _ q)⟩
theorem ya{i:Nat}:∀ v σ H (Q Q':St->Hp->Prop),(∀ σ' H',Q σ' H'->Q' σ' H')->gName i v σ H Q->gName i v σ H Q':=fun _ _ _ _ _ h q=>h _ _ q
theorem xO{K:PySem.W.Frag}{k n:Nat}{t:TGs}(h:GOwns k t):GOwn k (gTup K n t):=fun v σ H Q ⟨a,xs,e,h1,h2,q⟩=>⟨a,xs,e,h1,h2,h _ _ _ _ q⟩
theorem zbN{own:Nat}{idx:List Nat}{σ σ':St}(hd:σ'.drop own =(bst own idx σ).drop own)(i:Nat)(v:V)(h:(bst own idx σ)[i]?=some (some v)):σ'[i]?=some (some v):=by
 obtain⟨j,k,rfl,_,_⟩:=zeN h;rw[← uV,hd,uV];exact h
def tCompW(own:Nat)(idx:List Nat)(wi:TI)(g:TG)(tt:TT)(te:TE)(R:List V->Hp->Prop):St->Hp->Prop:=fun σ H=>wi σ H fun J H1=>∃ W:Nat->Nat->List V->Hp->Prop,(∃ m,W 0 m [] H1)/\∀ i m ys H,W i m ys H ->
 (J.stop i H/\ys.length<=sizeLine/\R ys H) \/
 (J.go i H/\ys.length<sizeLine/\∀ x H',J.yld i H x H'->g x (bst own idx σ) H' fun σ2 H2=>tt σ2 H2 fun b H3=>if b=true then te σ2 H3 fun y H4=>∃ m',m'<m/\W (i+1) m' (ys++[y]) H4 else ∃ m',m'<m/\W (i+1) m' ys H3)
def PTs(Y:Cx)(ifs:List Expr)(t:TT):Prop:=∀(pins:List (Addr×Obj))(s:Shared)(σ:St)(H:Hp)(Q:Bool->Hp->Prop),Inv Y pins σ H s->t σ H Q ->
 wpAny (model Y.prog Y.w) Y.A (forIn ifs true fun c r=>if r=true then do let ok ← isTrue c Y.env (eval c Y.env);pure (ForInStep.yield ok)else pure (ForInStep.yield r)) (TP Y pins σ Q) Y.xe s
def tTrue:TT:=fun _ H Q=>Q true H
theorem zJ{Y:Cx}:PTs Y [] tTrue:=fun pins s σ H Q I h=>wpAny_tests_nil ⟨H,I,h⟩
theorem Qd{Y:Cx}{c:Expr}{t:TT}(h:PT Y c t):PTs Y [c] t:=fun pins s σ H Q I hq=>wpAny_tests_one (h pins s σ H Q I hq)
theorem zcB{elt tg iter:Expr}{ifs:List Expr}{pos:Pos}{wi:TI}{g:TG}{tt:TT}{te:TE}{use:Option (Value->Sem Unit)}{R:List V->Hp->Prop}{Q:Value->Shared->Prop}(B:BlkOk X own fre idx scope)(hc:X.calm=true)(hi:PI X tg iter wi)(hg:GOwn own.length g)
  (hb:∀(L:Addr)(cells:List (Str×Addr))(s₀:Shared)(H₀:Hp)(ex:List Addr)(pn:List (Addr×Obj)),PG (blk X own fre scope L cells s₀ H₀ ex pn) tg g/\PTs (blk X own fre scope L cells s₀ H₀ ex pn) ifs tt/\PE (blk X own fre scope L cells s₀ H₀ ex pn) elt te)
  (hs:∀ x,foldedSetIterable iter X.env x=pure x) (I:Inv X pins σ H s) (h:tCompW own.length idx wi g tt te R σ H)
  (hq:∀(ys:List V)(H':Hp)(s':Shared)(L D:Addr)(m:Str->Option Value),R ys H'->H' D=none->Inv X pins σ (upd H' D (.lst ys)) s'->s'.heap.Ns L m->upd H' D (.lst ys) L=none->FpOk X pins (upd H' D (.lst ys)) L ->
   compPost (model X.prog X.w) X.A X.xe use Q (.ref D) L (.ok .next) s') :
  wpAny (model X.prog X.w) X.A (comprehension (.ListComp elt [⟨tg,iter,ifs,0⟩] scope pos) scope X.env (firstIterPos [⟨tg,iter,ifs,0⟩] pos) (newList []) false (eval iter X.env) use) Q X.xe s:=by
 have hnames:∀ x∈scope.names,x.2=.local->scope.names.lookup x.1=some .local:=fun x hx hl=>by
  have:=gY.mp B.loc x hx;rw[hl]at this
  simpa using this
 refine wpAny_comprehension_free (use:=use) rfl hs (JA (B.cells I.ok)) B.kind hnames (wpAny_mono (hi pins s σ H _ I h) (fun v s1 h1=>wpAny_mono h1 (fun itv s2 h2=>?_) fun _ _ e=>e) fun _ _ e=>e);obtain⟨it,fp,tn,J,H2,rfl,I2,T,st2,f2,W,⟨m0,w0⟩,turn⟩:=h2;refine wpAny_newObj_type ?_;generalize hs3:({ s2 with heap:=s2.heap.push { cls:=.type "list",dict:=none,data:=.seq ([]:List Value).toArray } }:Shared)=s3;have hD3:s3.heap.get? s2.heap.objs.size=some { cls:=.type "list",data:=.seq ([]:List Value).toArray 0 }:=by rw[← hs3];exact Heap.get?_push_size _ rfl
 have keep23:∀ b o,s2.heap.get? b=some o->s3.heap.get? b=some o:=fun b o e=>by rw[← hs3];exact Heap.get?_push_of_some _ e
 have I3:Inv X pins σ H2 s3:=by rw[← hs3];exact I2.kept (t':=s2.toks) fun b o e=>Heap.get?_push_of_some _ e
 have sz3:s3.heap.objs.size=s2.heap.objs.size+1:=by rw[← hs3];exact Heap.size_push ..
 generalize hD:s2.heap.objs.size=D at *;have nD:H2 D=none:=by rw[← hD];exact I2.fresh
 have okD:FpOk X pins H2 D:=I2.fpOk (by rw[hD];exact wu _) nD;have ltfp:∀ b∈fp,b<D:=fun b hb=>by
  obtain⟨o,ho,_⟩:=T.obj _ _ st2 b hb;rw[← hD];exact Heap.lt_size ho
 simp only[newFunctionEnv,Option.isSome_some,if_true];refine wpAny_bind (wpAny_alloc ?_);refine wpAny_bind (wpAny_layCells _ (fun name kind cells=>by cases hkc:kind == NameKind.cell <;> simp[hkc]) _ _ _ _ ?_);refine wpAny_bind (wpAny_pure (wpAny_pure ?_));have hL1:(s3.heap.push dictO).objs.size=s3.heap.objs.size+1:=Heap.size_push ..;have I4:=zfa (ex:=D::fp) B I3 (fun b hb=>by
  rcases wF.mp hb with rfl|hb
  ·exact⟨okD,by rw[sz3];exact ul _⟩
  ·exact⟨f2 b hb,by rw[sz3];exact uP (ltfp b hb)⟩)
 generalize hs4:({ s3 with heap:=pushCells (s3.heap.push dictO) scope.names }:Shared)=s4 at I4;have keep34:∀ b o,s3.heap.get? b=some o->s4.heap.get? b=some o:=fun b o e=>by rw[← hs4];exact pushCells_keeps _ _ b o (Heap.get?_push_of_some _ e)
 generalize hY:blk X own fre scope s3.heap.objs.size (bcells X scope s3.heap.objs.size) s3 H2 (D::fp) (X.pn++pins)=Y at I4;have YA:Y.A=X.A:=by rw[← hY];rfl
 have Yp:Y.prog=X.prog:=by rw[← hY];rfl
 have Yw:Y.w=X.w:=by rw[← hY];rfl
 have YK:Y.K=X.K:=by rw[← hY];rfl
 have Yc:Y.calm=true:=by rw[← hY];exact hc
 have Yx:Y.xe=fun _ _=>False:=by rw[← hY];rfl
 have Yex:Y.ex=D::fp:=by rw[← hY];rfl
 have Ypn:Y.pn=X.pn++pins:=by rw[← hY];rfl
 have YL:Y.env.locals=s3.heap.objs.size:=by rw[← hY];rfl
 have hbY:PG Y tg g/\PTs Y ifs tt/\PE Y elt te:=by rw[← hY];exact hb ..
 have nDY:D≠Y.env.locals:=by rw[YL,sz3];exact vd (ul _)
 have okY:=I4.ok;have fsD:D∉Y.fs:=okY.exfs D (by rw[Yex];exact wp);have pnD:∀ p∈Y.pn,p.1≠D:=by rw[Ypn];exact okD.2.2.2.2.2
 have FO:∀ {H':Hp} {o:Obj},(∀ b∈fp,H' b=none)->∀ b∈fp,FpOk Y [(D,o)] H' b:=fun {H' o} hn b hb=>by
  have m:b∈Y.ex:=by rw[Yex];exact wr _ hb
  refine⟨hn b hb,(okY.exf b m).1,okY.exfs b m,.inl m,(okY.exf b m).2,fun p hp=>?_⟩
  rcases wq.mp hp with hp|hp
  ·rw[Ypn]at hp;exact(f2 b hb).2.2.2.2.2 p hp
  ·have e:p =(D,o):=by simpa using hp
   rw[e];exact Ne.symm (vd (ltfp b hb))
 have pinD:∀ {pl:List (Addr×Obj)} {σ':St} {H':Hp} {s':Shared} {o:Obj},Inv Y pl σ' H' s'->s'.heap.get? D=some o->H' D=none->(∀ v,o.data≠.cell v)->Inv Y [(D,o)] σ' H' s':=fun {pl σ' H' s' o} I' e hn hd=>I'.pins_of fun p hp=>by
  have e':p =(D,o):=by simpa using hp
  subst e';exact⟨e,hn,nDY,fsD,hd⟩
 have loop:codeAny (model X.prog X.w) X.A (.compLoop (.ListComp elt [⟨tg,iter,ifs,0⟩] scope pos) 0 (.ref it) (.ref D) Y.env) (compPost (model X.prog X.w) X.A X.xe use Q (.ref D) s3.heap.objs.size) s4:=by
  refine zaM (fun n s'=>∃ i ys its k H',Inv Y [(D,({ cls:=.type "list",data:=.seq (its:List Value).toArray k }:Obj))] (bst own.length idx σ) H' s'/\tn i s'.heap/\(∀ b∈fp,H' b=none)/\Vals ys its/\ys.length<=sizeLine/\W i n ys H') ?_ m0
   ⟨0,[],[],0,H2,pinD I4 (keep34 _ _ hD3) nD (fun v z=>nomatch z),T.keep _ _ _ st2 fun b _ o e=>keep34 _ _ (keep23 _ _ e),fun b hb=>(f2 b hb).1,.nil,vq _,w0⟩
  rintro n s' ⟨i,ys,its,k,H',I',st',fr',hv,hz,w'⟩
  have pD:=I'.pin _ (wE _ wp)
  rcases turn i n ys H' w' with⟨stop,hl,hR⟩|⟨go,hl,step⟩
  ·have z:=T.done Y Yp Yw YK Yc i _ s' _ H' (fun _ _=>False) I' (FO fr') st' stop;rw[YA]at z;refine thn z fun r s5 ⟨hr,I5⟩=>?_
   subst hr;have pD5:=I5.pin _ (wE _ wp);have I5':=I5;rw[← hY]at I5';have E:=ziQ I3 I5' (fun b hb=>f2 b hb) okD pD5.2.1 hv hl pD5.1;obtain⟨m5,hm5,_⟩:=I5.loc;rw[YL]at hm5;have nL:H' s3.heap.objs.size=none:=by rw[← YL];exact I5.free
   have nL':upd H' D (.lst ys) s3.heap.objs.size=none:=by rw[zM (by rw[← YL];exact Ne.symm nDY)];exact nL
   exact hq ys H' s5 _ D m5 hR pD5.2.1 E hm5 nL' (I3.fpOk (wu _) nL')
  ·have z:=T.item Y Yp Yw YK Yc i _ s' _ H' (fun _ _=>False) I' (FO fr') st' go;rw[YA]at z;refine thn z fun r s5 ⟨u,hr,h5⟩=>?_
   subst hr;refine thn h5 fun _ s6 ⟨x,H6,I6,r6,y6,st6,fr6⟩=>?_
   have I6':=I6.pinned (FO fr6) (T.obj _ _ st6);have z7:=hbY.1 _ s6 _ H6 x u _ I6' r6 (hg _ _ _ _ (step x H6 y6));rw[Yp,Yw,YA,Yx]at z7;refine thn z7 fun _ s7 ⟨σ7,H7,I7,q7,d7,l7⟩=>?_
   have z8:=hbY.2.1 _ s7 σ7 H7 _ I7 q7;rw[Yp,Yw,YA,Yx]at z8;refine thn z8 fun ok s8 ⟨H8,I8,q8⟩=>?_
   have tnK:∀ {σ9:St} {H9:Hp} {s9:Shared},Inv Y ([(D,({ cls:=.type "list",data:=.seq its.toArray k }:Obj))]++pinsAt fp s6.heap) σ9 H9 s9->tn (i+1) s9.heap/\∀ b∈fp,H9 b=none:=fun I9 =>
    ⟨T.keep _ _ _ st6 fun b hb o e=>(I9.pin (b,o) (wE _ (wE _ (qJ hb e)))).1,fun b hb=>by
     obtain⟨o,e,d⟩:=T.obj _ _ st6 b hb;exact(I9.pin (b,o) (wE _ (wE _ (qJ hb e)))).2.1⟩
   cases ok with
   | false =>
    rw[if_neg wX]at q8 ⊢;obtain⟨m',hm,w8⟩:=q8;obtain⟨t8,n8⟩:=tnK I8;exact⟨m',hm,i+1,ys,its,k,H8,I8.unpinned.weak l7.symm (zbN d7),t8,n8,hv,hz,w8⟩
   | true =>
    rw[if_pos rfl]at q8 ⊢;have z9:=hbY.2.2 _ s8 σ7 H8 _ I8 q8;rw[Yp,Yw,YA,Yx]at z9;refine thn z9 fun y s9 ⟨v9,H9,I9,r9,m',hm,w9⟩=>?_
    obtain⟨t9,n9⟩:=tnK I9;have pD9:=I9.pin (D,{ cls:=.type "list",data:=.seq its.toArray k }) (wE _ (wQ _ wp));refine append_at pD9.1 (fun h10 sb hD10=>?_) (by rw[wJ,← hv.length];exact ux hl);have I9a:Inv Y [] σ7 H9 s9:=I9.pins_of fun p hp=>nomatch hp
    have I10:Inv Y [] σ7 H9 { s9 with heap:=h10 }:=I9a.turned (t':=s9.toks) (it:=D) (fun b o hb e=>sb.extBut b o hb e) pD9.2.1 nDY (.inl (by rw[Yex];exact wp)) (okY.exf D (by rw[Yex];exact wp)).2 (fun p hp=>by
     rw[uN]at hp;exact pnD p hp)
    refine⟨m',hm,i+1,ys++[v9],its++[y],k+1,H9,pinD (I10.weak l7.symm (zbN d7)) ?_ pD9.2.1 (fun v z=>nomatch z),?_,n9,hv.append (.cons r9 .nil),?_,w9⟩
    ·show h10.get? D=_;rw[hD10,List.push_toArray]
    ·exact T.keep _ _ _ t9 fun b hb o e=>sb.extBut b o (vd (ltfp b hb)) e
    ·rw[wD,GU];exact hl
 have goal:codeAny (model X.prog X.w) X.A (.compStart (.ListComp elt [⟨tg,iter,ifs,0⟩] scope pos) 0 (.ref it) (.ref D) Y.env) (compPost (model X.prog X.w) X.A X.xe use Q (.ref D) s3.heap.objs.size) s4 :=
  codeAny_compStart_list loop (T.self X.A 0 s4 _ _ (T.keep _ _ _ st2 fun b _ o e=>keep34 _ _ (keep23 _ _ e)) loop)
 rw[← hY]at goal;have hsz:({ s3 with heap:=s3.heap.push { cls:=.type "dict",data:=.dict #[] } }:Shared).heap.objs.size=s3.heap.objs.size+1:=Heap.size_push ..;rw[hsz]
 first
  | exact goal
  | (rw[← hs4]at goal;exact goal)
end
def tComp(own:Nat)(idx:List Nat)(wi:TI)(g:TG)(tt:TT)(te:TE):TE:=fun σ H Q=>tCompW own idx wi g tt te (fun ys H'=>∀ p,H' p=none->Q (.ref p) (upd H' p (.lst ys))) σ H
section
variable{X:Cx}{scope:Scope}
theorem jy{elt tg iter:Expr}{ifs:List Expr}{pos:Pos}{wi:TI}{g:TG}{tt:TT}{te:TE}(own fre:List Str)(idx:List Nat)(B:BlkOk X own fre idx scope)(hc:X.calm=true)(hi:PI X tg iter wi)(hg:GOwn own.length g)
  (hb:∀(L:Addr)(cells:List (Str×Addr))(s₀:Shared)(H₀:Hp)(ex:List Addr)(pn:List (Addr×Obj)),PG (blk X own fre scope L cells s₀ H₀ ex pn) tg g/\PTs (blk X own fre scope L cells s₀ H₀ ex pn) ifs tt/\PE (blk X own fre scope L cells s₀ H₀ ex pn) elt te)
  (hs:∀ x,foldedSetIterable iter X.env x=pure x:=by intro _;rfl):PE X (.ListComp elt [⟨tg,iter,ifs,0⟩] scope pos) (tComp own.length idx wi g tt te):=by
 intro pins s σ H Q I h;rw[eval_ListComp];refine zcB (use:=none) B hc hi hg hb hs I h fun ys H' s' L D m hR hD I' hn nL fL=>?_
 refine⟨m,hn,fun h' hs'=>?_⟩;obtain⟨f0,f1,f2,f3,f4,f5⟩:=fL;exact⟨.ref D,_,I'.turned (t':=s'.toks) (it:=L) (fun b o hb e=>hs'.extBut b o hb e) f0 f1 f3 f4 f5,rfl,hR D hD⟩
def tAsgC(own:Nat)(idx:List Nat)(wi:TI)(g:TG)(tt:TT)(te:TE)(i:Nat):TS:=fun D σ H=>tCompW own idx wi g tt te (fun ys H'=>∀ p,H' p=none->D.nx (σ.set i (some (.ref p))) (upd H' p (.lst ys))) σ H
theorem zhL{elt tg iter:Expr}{ifs:List Expr}{pos pos' spos:Pos}{wi:TI}{g:TG}{tt:TT}{te:TE}{i:Nat}{x:Str}(hN:X.N.Nodup)(hi':X.N[i]?=some x)(hx:X.env.scope.names.lookup x=some .local)(own fre:List Str)(idx:List Nat)(B:BlkOk X own fre idx scope)(hc:X.calm=true)(hi:PI X tg iter wi)(hg:GOwn own.length g)
  (hb:∀(L:Addr)(cells:List (Str×Addr))(s₀:Shared)(H₀:Hp)(ex:List Addr)(pn:List (Addr×Obj)),PG (blk X own fre scope L cells s₀ H₀ ex pn) tg g/\PTs (blk X own fre scope L cells s₀ H₀ ex pn) ifs tt/\PE (blk X own fre scope L cells s₀ H₀ ex pn) elt te)
  (hsw:swapsWith (.ListComp elt [⟨tg,iter,ifs,0⟩] scope pos) (some (.Name x pos')) spos.line X.env=pure true:=by rfl)
  (hs:∀ x,foldedSetIterable iter X.env x=pure x:=by intro _;rfl):PS X (.Assign [.Name x pos'] (.ListComp elt [⟨tg,iter,ifs,0⟩] scope pos) spos) (tAsgC own.length idx wi g tt te i):=by
 intro pins s σ H D I h;rw[exec_Assign_Name_used _ _ _ _ hsw];refine wpAny_bind (wpAny_standAt (wpAny_bind ?_));show wpAny _ X.A (do let _ ← comprehension (.ListComp elt [⟨tg,iter,ifs,0⟩] scope pos) scope X.env _ (newList []) false (eval iter X.env) (some (assign (.Name x pos') X.env))) _ _ s;refine wpAny_bind (wpAny_mono (zcB (use:=some (assign (.Name x pos') X.env)) (Q:=fun _ s'=>SP X pins D .next s') B hc hi hg hb hs I h fun ys H' s' L Da m hR hD I' hn nL fL=>?_) (fun _ s' hq=>wpAny_pure (wpAny_pure hq)) fun _ _ e=>e);obtain⟨f0,f1,f2,f3,f4,f5⟩:=fL;show wpAny _ X.A (assign (.Name x pos') X.env (.ref Da)) _ _ _;refine wpAny_assign_Name (zal I' hN hi' (.inl hx) (show RelV (.ref Da) (.ref Da)from rfl) (fun s2 I2 ⟨a,sb,ha⟩=>?_) (.inr hx));have hLa:L≠a:=by
  rcases ha with rfl|ha
  ·exact f1
  ·exact Ne.symm (f4 x a ha)
 refine⟨m,hn.sameBut sb hLa,fun h' hs'=>?_⟩;exact⟨_,_,I2.turned (t':=s2.toks) (it:=L) (fun b o hb e=>hs'.extBut b o hb e) f0 f1 f3 f4 f5,hR Da hD⟩
end
end L2
namespace L2
open PySem PySem.Spec PyProof.Rows
mutual
def Rp(H:Hp):PyData->V->Prop
 | .none,v=>v=.non
 | .bool b,v=>v=.bl b
 | .int i,v=>v=.int i
 | .str x,v=>v=.str x
 | .list ds,v=>∃ a xs,v=.ref a/\H a=some (.lst xs)/\Rps H ds xs
 | .tuple ds,v=>∃ a xs,v=.ref a/\H a=some (.tup xs)/\Rps H ds xs
 | .dict _,_=>False
def Rps(H:Hp):List PyData->List V->Prop
 | [],xs=>xs=[]
 | d::ds,xs=>∃ x r,xs=x::r/\Rp H d x/\Rps H ds r
end
mutual
theorem Rp.mono{H H':Hp}(g:Same H H'):∀(d:PyData)(v:V),Rp H d v->Rp H' d v
 | .none,_,h=>by simpa only [Rp] using h
 | .bool _,_,h=>by simpa only [Rp] using h
 | .int _,_,h=>by simpa only [Rp] using h
 | .str _,_,h=>by simpa only [Rp] using h
 | .list ds,v,h=>by
  simp only[Rp]at h ⊢;obtain⟨a,xs,e,h1,h2⟩:=h;exact⟨a,xs,e,g _ _ h1,Rps.mono g ds xs h2⟩
 | .tuple ds,v,h=>by
  simp only[Rp]at h ⊢;obtain⟨a,xs,e,h1,h2⟩:=h;exact⟨a,xs,e,g _ _ h1,Rps.mono g ds xs h2⟩
 | .dict _,_,h=>by simp only[Rp]at h
theorem Rps.mono{H H':Hp}(g:Same H H'):∀(ds:List PyData)(xs:List V),Rps H ds xs->Rps H' ds xs
 | [],xs,h=>by simpa only [Rps] using h
 | d::ds,xs,h=>by
  simp only[Rps]at h ⊢;obtain⟨x,r,e,h1,h2⟩:=h;exact⟨x,r,e,Rp.mono g d x h1,Rps.mono g ds r h2⟩
end
section
variable{X:Cx}{pins:List (Addr×Obj)}{σ:St}{H:Hp}{s:Shared}
mutual
theorem Rp.reads(I:Inv X pins σ H s):∀(d:PyData)(v:V)(u:Value),Rp H d v->RelV v u->∃ as,Reads s.heap u d as
 | .none,v,u,h,r=>by
  simp only[Rp]at h;subst h;cases (show u=Value.none from r);exact⟨_,.none⟩
 | .bool b,v,u,h,r=>by
  simp only[Rp]at h;subst h;cases (show u=Value.bool b from r);exact⟨_,.bool b⟩
 | .int i,v,u,h,r=>by
  simp only[Rp]at h;subst h;obtain⟨t,e⟩:=(show ∃ t,u=Value.int i t from r);subst e;exact⟨_,.int i t⟩
 | .str x,v,u,h,r=>by
  simp only[Rp]at h;subst h;obtain⟨t,e⟩:=(show ∃ t,u=Value.str x t from r);subst e;exact⟨_,.str x t⟩
 | .list ds,v,u,h,r=>by
  simp only[Rp]at h;obtain⟨a,xs,e,h1,h2⟩:=h;subst e;cases (show u=Value.ref a from r);obtain⟨_,its,n,hv,hg⟩:=(show ObjOk X.prog X.w H s.heap a (.lst xs)from I.hok a _ h1);obtain⟨as,q⟩:=Rps.reads I ds xs its h2 hv;exact⟨_,.list hg rfl rfl q⟩
 | .tuple ds,v,u,h,r=>by
  simp only[Rp]at h;obtain⟨a,xs,e,h1,h2⟩:=h;subst e;cases (show u=Value.ref a from r);obtain⟨_,its,hv,o,hg,hc,n,hd⟩:=(show ObjOk X.prog X.w H s.heap a (.tup xs)from I.hok a _ h1);obtain⟨as,q⟩:=Rps.reads I ds xs its h2 hv;exact⟨_,.tuple hg hc hd q⟩
 | .dict _,v,u,h,r=>by simp only[Rp]at h
theorem Rps.reads(I:Inv X pins σ H s):∀(ds:List PyData)(xs:List V)(us:List Value),Rps H ds xs->Vals xs us->∃ as,ReadsAll s.heap us ds as
 | [],xs,us,h,r=>by
  simp only[Rps]at h;subst h;cases r;exact⟨_,.nil⟩
 | d::ds,xs,us,h,r=>by
  simp only[Rps]at h;obtain⟨x,rr,e,h1,h2⟩:=h;subst e;cases r with
  | cons r1 r2 =>
   obtain⟨as,q1⟩:=Rp.reads I d x _ h1 r1;obtain⟨bs,q2⟩:=Rps.reads I ds rr _ h2 r2;exact⟨_,.cons q1 q2⟩
end
def rEqD(f:Bool->Bool):R2:=fun x y H Q=>∃ dx dy,Rp H dx x/\Rp H dy y/\dx.canLay0=true/\dy.canLay0=true/\min dx.depth dy.depth<=60/\Q (.bl (f (PyData.eqv dx dy))) H
theorem zhb{k:Nat}(hr:Room k X.A):OpR X (compareOp .Eq) (rEqD id):=by
 intro pins s σ H x y v u Q I rx ry h;obtain⟨dx,dy,h1,h2,l1,l2,hd,q⟩:=h;obtain⟨as,r1⟩:=Rp.reads I dx x v h1 rx;obtain⟨bs,r2⟩:=Rp.reads I dy y u h2 ry;exact SeqAt.compareEq_reads r1 r2 l1 l2 (by have:=hr.units;omega) ⟨.bl _,H,I,rfl,q⟩
theorem zhB{k:Nat}(hr:Room k X.A):OpR X (compareOp .NotEq) (rEqD not):=by
 intro pins s σ H x y v u Q I rx ry h;obtain⟨dx,dy,h1,h2,l1,l2,hd,q⟩:=h;obtain⟨as,r1⟩:=Rp.reads I dx x v h1 rx;obtain⟨bs,r2⟩:=Rp.reads I dy y u h2 ry;exact SeqAt.compareNe_reads r1 r2 l1 l2 (by have:=hr.units;omega) ⟨.bl _,H,I,rfl,q⟩
end
def Itz(K:PySem.W.Frag)(a b:Addr):It :=
 ⟨fun i H=>∃ xs ys x y,SqL K H a xs/\SqL K H b ys/\xs[i]?=some x/\ys[i]?=some y,
   fun i H v H'=>∃ T x y,v=.ref T/\H T=none/\H'=upd H T (.tup [x,y])/\(∀ xs,SqL K H a xs->xs[i]?=some x)/\(∀ ys,SqL K H b ys->ys[i]?=some y),
   fun i H=>∃ xs ys,SqL K H a xs/\SqL K H b ys/\(xs.length<=i\/ys.length<=i)⟩
def ZipAt(z TI TO i1 i2 a b:Addr)(i:Nat)(h:Heap):Prop:=IsZip h z TI TO .none/\IsPair h TI (.ref i1) (.ref i2)/\(∃ u v,IsPair h TO u v)/\h.IsListIter i1 a i/\h.IsListIter i2 b i
theorem zgt{P:Program}{w:World}{K:PySem.W.Frag}{elts:List Expr}{k1:Nat}{pos:Pos}(z TI TO i1 i2 a b:Addr)(D:ZipApart z TI TO i1 i2 a b) :
  Turn P w K (.Tuple elts k1 pos) (Itz K a b) [z,TI,TO,i1,i2] z (ZipAt z TI TO i1 i2 a b) where
 mem:=by simp
 obj:=fun i h st c hc=>by
  obtain⟨hz,hTI,⟨u,v,hTO⟩,⟨o1,e1,_,d1⟩,⟨o2,e2,_,d2⟩⟩:=st;simp only[wF,vI,or_false]at hc
  rcases hc with rfl|rfl|rfl|rfl|rfl
  ·exact⟨_,hz,fun v z=>nomatch z⟩
  ·exact⟨_,hTI,fun v z=>nomatch z⟩
  ·exact⟨_,hTO,fun v z=>nomatch z⟩
  ·exact⟨o1,e1,fun v z=>by rw[d1]at z;cases z⟩
  ·exact⟨o2,e2,fun v z=>by rw[d2]at z;cases z⟩
 keep:=fun i h h' st k=>by
  obtain⟨hz,hTI,⟨u,v,hTO⟩,h1,h2⟩:=st;exact⟨k z (by simp) _ hz,k TI (by simp) _ hTI,⟨u,v,k TO (by simp) _ hTO⟩,h1.at fun o e=>k i1 (by simp) o e,h2.at fun o e=>k i2 (by simp) o e⟩
 item:=by
  intro X hP hw hK hc i pins s σ H E I hf st hg;subst hP hw hK;obtain⟨hz,hTI,⟨u0,v0,hTO⟩,h1,h2⟩:=st;obtain⟨xs,ys,x,y,q1,q2,ex,ey⟩:=hg;obtain⟨its1,rv1,p1,_⟩:=I.list q1;obtain⟨its2,rv2,p2,_⟩:=I.list q2;obtain⟨u,hu,ru⟩:=rv1.get ex;obtain⟨u',hu',ru'⟩:=rv2.get ey;refine wpAny_pyNext_zip_item D hz hTI hTO h1 h2 p1.isList p2.isList (x:=u) (y:=u') (by simpa using hu) (by simpa using hu') fun h' z' TO' i1' i2' T' sz keep=>?_
  refine⟨_,rfl,wpAny_letOwnedTupleGo_zip (s:={ s with heap:=h' }) z' fun h'' z'' sb=>?_⟩;have hlt:∀ c o,s.heap.get? c=some o->c<s.heap.objs.size:=fun c o e=>Heap.lt_size e
  have zlt:=hlt _ _ hz;have TOlt:=hlt _ _ hTO;have TIlt:=hlt _ _ hTI;have i1lt:i1<s.heap.objs.size:=let ⟨o,e,_⟩:=h1;hlt _ _ e
  have i2lt:i2<s.heap.objs.size:=let ⟨o,e,_⟩:=h2;hlt _ _ e
  have fz:=hf z (by simp);have fTO:=hf TO (by simp);have f1:=hf i1 (by simp);have f2:=hf i2 (by simp);have nT:H s.heap.objs.size=none:=I.fresh;have keep2:∀ c o,c≠z->c≠TO->c≠i1->c≠i2->s.heap.get? c=some o->h''.get? c=some o:=fun c o c1 c2 c3 c4 e=>sb.extBut c o c1 (keep c o c1 c2 c3 c4 e)
  have hT:h''.get? s.heap.objs.size=some { cls:=.type "tuple",data:=.seq #[u,u'] }:=sb.extBut _ _ (wak zlt) T';have TOK:IsTup h'' s.heap.objs.size [u,u'].toArray:=⟨_,hT,rfl,_,rfl⟩;refine⟨.ref s.heap.objs.size,upd H s.heap.objs.size (.tup [x,y]),?_,rfl,⟨_,x,y,rfl,nT,rfl,fun zs h=>by rw[I.list_inj h q1];exact ex,fun zs h=>by rw[I.list_inj h q2];exact ey⟩,⟨z'',?_,⟨u,u',?_⟩,?_,?_⟩,?_⟩
  ·have nch:∀ c,H c≠none->c≠z/\c≠TO/\c≠i1/\c≠i2:=fun c hc=>⟨fun e=>hc (by rw[e];exact fz.1),fun e=>hc (by rw[e];exact fTO.1),fun e=>hc (by rw[e];exact f1.1),fun e=>hc (by rw[e];exact f2.1)⟩
   refine Inv.step (s:=s) (g':=s.gens) (d':=s.drawn) (t':=s.toks) (ch:=[z,TO,i1,i2]) (h':=h'') I (fun b hb=>?_) (fun b o _ _ hc e _=>?_) (fun b o _ _ hc e _=>⟨o.slots,?_⟩) (fun b o _ e n=>?_) (fun b o hc e=>⟨o,?_⟩) (fun b xs e=>?_) (fun b o v e=>?_) (fun b ps e=>⟨#[],?_⟩) (fun m hm=>?_) (fun b o e=>?_) I.bare
   ·simp only[wF,vI,or_false]at hb
    rcases hb with rfl|rfl|rfl|rfl
    ·exact⟨fz.2.2.2.1,fz.2.1,fz.2.2.2.2.1,fz.2.2.2.2.2⟩
    ·exact⟨fTO.2.2.2.1,fTO.2.1,fTO.2.2.2.2.1,fTO.2.2.2.2.2⟩
    ·exact⟨f1.2.2.2.1,f1.2.1,f1.2.2.2.2.1,f1.2.2.2.2.2⟩
    ·exact⟨f2.2.2.2.1,f2.2.1,f2.2.2.2.2.1,f2.2.2.2.2.2⟩
   ·simp only[wF,vI,or_false,not_or]at hc;exact keep2 b o hc.1 hc.2.1 hc.2.2.1 hc.2.2.2 e
   ·simp only[wF,vI,or_false,not_or]at hc;exact keep2 b o hc.1 hc.2.1 hc.2.2.1 hc.2.2.2 e
   ·rw[zM (vd (Heap.lt_size e))];exact n
   ·simp only[wF,vI,or_false,not_or]at hc;exact keep2 b o hc.1 hc.2.1 hc.2.2.1 hc.2.2.2 e
   ·rw[zM (ye e nT)];exact e
   ·rw[zM (ye e nT)];exact e
   ·rw[zM (ye e nT)];simpa using e
   ·obtain⟨o,es,ep,ho,r⟩:=hm;exact⟨o,es,ep,keep2 _ o (Ne.symm fz.2.1) (Ne.symm fTO.2.1) (Ne.symm f1.2.1) (Ne.symm f2.2.1) ho,r⟩
   ·by_cases hb:b=s.heap.objs.size
    ·subst hb;rw[zg]at e;cases e;exact⟨by show 2<=sizeLine;decide,[u,u'],.cons ru (.cons ru' .nil),TOK⟩
    ·rw[zM hb]at e;refine(I.hok b o e).stay (fun c v hc q=>?_) (fun c q=>by rw[zM (ye q nT)];exact q) fun c xs q=>by rw[zM (ye q nT)];exact q
     have hne:H c≠none:=by
      rcases hc with rfl|hc
      ·rw[e];exact fun z=>nomatch z
      ·rw[hc];exact fun z=>nomatch z
     obtain⟨c1,c2,c3,c4⟩:=nch c hne;exact keep2 c v c1 c2 c3 c4 q
  ·exact sb.extBut _ _ D.TIz (keep _ _ D.TIz D.TITO D.TIi1 D.TIi2 hTI)
  ·exact sb.extBut _ _ D.TOz TO'
  ·exact i1'.at fun o e=>sb.extBut _ _ D.i1z e
  ·exact i2'.at fun o e=>sb.extBut _ _ D.i2z e
  ·intro b hb;rw[zM ?_]
   ·exact(hf b hb).1
   ·simp only[wF,vI,or_false]at hb
    rcases hb with rfl|rfl|rfl|rfl|rfl
    ·exact vd zlt
    ·exact vd TIlt
    ·exact vd TOlt
    ·exact vd i1lt
    ·exact vd i2lt
 done:=by
  intro X hP hw hK hc i pins s σ H E I hf st hg;subst hP hw hK;obtain⟨hz,hTI,⟨u0,v0,hTO⟩,h1,h2⟩:=st;obtain⟨xs,ys,q1,q2,hx⟩:=hg;obtain⟨its1,rv1,p1,_⟩:=I.list q1;obtain⟨its2,rv2,p2,_⟩:=I.list q2;have l1:=rv1.length;have l2:=rv2.length;have fz:=hf z (by simp);have fTO:=hf TO (by simp);have f1:=hf i1 (by simp);have f2:=hf i2 (by simp);refine wpAny_pyNext_zip_end (I.ok.hd hc) D hz hTI hTO h1 h2 p1.isList p2.isList (by
   rcases hx with hx|hx
   ·exact .inl (by simp;omega)
   ·exact .inr (by simp;omega)) fun h' keep=>⟨rfl,?_⟩
  have nch:∀ c,H c≠none->c≠z/\c≠TO/\c≠i1/\c≠i2:=fun c hc=>⟨fun e=>hc (by rw[e];exact fz.1),fun e=>hc (by rw[e];exact fTO.1),fun e=>hc (by rw[e];exact f1.1),fun e=>hc (by rw[e];exact f2.1)⟩
  refine Inv.step (s:=s) (g':=s.gens) (d':=s.drawn) (t':=s.toks) (ch:=[z,TO,i1,i2]) (h':=h') I (fun b hb=>?_) (fun b o _ _ hc e _=>?_) (fun b o _ _ hc e _=>⟨o.slots,?_⟩) (fun b o _ e n=>n) (fun b o hc e=>⟨o,?_⟩) (fun b xs e=>e) (fun b o v e=>e) (fun b ps e=>⟨#[],by simpa using e⟩) (fun m hm=>?_) (fun b o e=>?_) I.bare
  ·simp only[wF,vI,or_false]at hb
   rcases hb with rfl|rfl|rfl|rfl
   ·exact⟨fz.2.2.2.1,fz.2.1,fz.2.2.2.2.1,fz.2.2.2.2.2⟩
   ·exact⟨fTO.2.2.2.1,fTO.2.1,fTO.2.2.2.2.1,fTO.2.2.2.2.2⟩
   ·exact⟨f1.2.2.2.1,f1.2.1,f1.2.2.2.2.1,f1.2.2.2.2.2⟩
   ·exact⟨f2.2.2.2.1,f2.2.1,f2.2.2.2.2.1,f2.2.2.2.2.2⟩
  ·simp only[wF,vI,or_false,not_or]at hc;exact keep b o hc.1 hc.2.1 hc.2.2.1 hc.2.2.2 e
  ·simp only[wF,vI,or_false,not_or]at hc;exact keep b o hc.1 hc.2.1 hc.2.2.1 hc.2.2.2 e
  ·simp only[wF,vI,or_false,not_or]at hc;exact keep b o hc.1 hc.2.1 hc.2.2.1 hc.2.2.2 e
  ·obtain⟨o,es,ep,ho,r⟩:=hm;exact⟨o,es,ep,keep _ o (Ne.symm fz.2.1) (Ne.symm fTO.2.1) (Ne.symm f1.2.1) (Ne.symm f2.2.1) ho,r⟩
  ·refine(I.hok b o e).stay (fun c v hc q=>?_) (fun c q=>q) fun c xs q=>q
   have hne:H c≠none:=by
    rcases hc with rfl|hc
    ·rw[e];exact fun z=>nomatch z
    ·rw[hc];exact fun z=>nomatch z
   obtain⟨c1,c2,c3,c4⟩:=nch c hne;exact keep c v c1 c2 c3 c4 q
 self:=fun _ _ _ _ _ st h=>wpAny_pyIter_zip st.1 h
section
variable{X:Cx}
def iZip(K:PySem.W.Frag)(ta:TA):TI:=fun σ H R=>ta σ H fun vs H1=>∃ a b xs ys,vs=[.ref a,.ref b]/\SqL K H1 a xs/\SqL K H1 b ys/\R (Itz K a b) H1
theorem zi8 {a b:Expr} {ta:TA} {p pos:Pos} {elts:List Expr} {k1:Nat} {tpos:Pos} (hg:Gl X "zip") (hm:X.mg "zip" = none) (ha:PA X [a,b] ta) (hs:starEach [a,b] X.env=[(false,eval a X.env),(false,eval b X.env)]:=by rfl) (hs2:starEach [b] X.env=[(false,eval b X.env)]:=by rfl) :
  PI X (.Tuple elts k1 tpos) (.Call (.Name "zip" p) [a,b] [] pos) (iZip X.K ta):=by
 intro pins s σ H R I h;refine wpAny_Call_Name_kw (zam I hg hm zjQ ?_);refine PyProof.Rows.callWith_type1 (thn (ha pos pins s σ H _ I h) fun us s1 ⟨vs,H1,I1,r1,q1⟩=>?_) (by rw[hs,hs2]) (by rw[hs2];rfl);obtain⟨a1,b1,xs,ys,rfl,h1,h2,q⟩:=q1;obtain⟨u,w',rfl,ra,rb⟩:=Vals.two r1;cases ra;cases rb;obtain⟨its1,rv1,p1,_⟩:=I1.list h1;obtain⟨its2,rv2,p2,_⟩:=I1.list h2;have l1:a1<s1.heap.objs.size:=let ⟨_,e,_⟩:=p1.isList;Heap.lt_size e
 have l2:b1<s1.heap.objs.size:=let ⟨_,e,_⟩:=p2.isList;Heap.lt_size e
 refine call_zip_2 p1.isList p2.isList fun h' hz hTI hTO hi1 hi2 hsz keep=>?_
 have I2:Inv X pins σ H1 { s1 with heap:=h' }:=I1.kept (t':=s1.toks) keep;refine wpAny_pyIter_zip (s:={ s1 with heap:=h' }) hz ?_;refine⟨_,_,_,_,H1,rfl,I2,zgt _ _ _ _ _ a1 b1 (zipApart_new l1 l2),⟨hz,hTI,⟨_,_,hTO⟩,hi1,hi2⟩,fun b hb=>?_,q⟩;have hb':s1.heap.objs.size<=b:=by
  simp only[wF,vI,or_false]at hb
  rcases hb with rfl|rfl|rfl|rfl|rfl <;> omega
 exact I1.fpOk hb' (I1.hok.fresh hb')
theorem Xp(ns:List Int):∀ j,j<=ns.length->preSum (fun i=>ns.getD i 0) j =(ns.take j).sum
 | 0,_=>by simp[preSum]
 | j+1,h=>by
  have hj:j<ns.length:=h;rw[preSum,Xp ns j (ux hj),vR hj,waL];simp[List.getD,hj]
theorem zfC (hc:X.calm=true):CallR X (.builtin "sum") (fun xs H Q=>∃ p ns,xs=[.ref p]/\SqL X.K H p ((ns:List Int).map V.int)/\Q (.int ns.sum) H):=by
 intro pins s σ H xs us Q I r h;obtain⟨p,ns,rfl,hq,q⟩:=h;obtain⟨u,rfl,ru⟩:=Vals.one r;cases ru;obtain⟨its,rv,pl,_⟩:=I.list hq;have hh:X.A.in1.handled=none:=I.ok.hd hc;have lt:p<s.heap.objs.size:=let ⟨_,e,_⟩:=pl.isList;Heap.lt_size e
 have hl:its.length=ns.length:=by rw[← rv.length,wa]
 refine call_sum_walkG (wpAny_pyIter_list pl.isList ?_);refine⟨s.heap.objs.size,_,_,_,_,_,fun i=>ns.getD i 0,rfl,Walks.list hh s.heap.objs.size p (vd lt) its.toArray,⟨⟨_,Heap.get?_push_size _ rfl,rfl,rfl⟩,pl.isList.at fun o e=>Heap.get?_push_of_some _ e⟩,fun b hb=>?_,fun i v hv=>?_,fun h' tk t' keep=>?_⟩
 ·simp only[wF,vI,or_false]at hb
  rcases hb with rfl|rfl
  ·rw[Heap.size_push];exact ul _
  ·rw[Heap.size_push];exact uP lt
 ·have hv':its[i]?=some v:=by simpa using hv
  have hi:i<ns.length:=by rw[← hl];exact(ww.mp hv').1
  obtain⟨u,hu,ru⟩:=rv.get (i:=i) (x:=.int ns[i]) (by rw[wk,wc hi];rfl);rw[hu]at hv';cases hv';obtain⟨t,e⟩:=ru;refine⟨t,?_⟩;rw[e];simp[List.getD,hi]
 ·have e:preSum (fun i=>ns.getD i 0) its.toArray.size=ns.sum:=by
   rw[wJ,hl,Xp ns _ (wu _),vK]
  rw[e];refine⟨.int ns.sum,H,?_,⟨t',rfl⟩,q⟩;exact I.kept (h':=h') (t':=tk) fun b o eb=>keep b o (by simp only[wF,vI,or_false];exact vd (Heap.lt_size eb)) (Heap.get?_push_of_some _ eb)
end
end L2
namespace L2
open PySem PySem.Spec PyProof.Rows Nm
def toD:Nb->PyData
 | .q r=>.tuple [.int r.num,.int (r.den:Int)]
 | .z i=>.int i
def RN(H:Hp)(x:Nb)(v:V):Prop:=Rp H (toD x) v
theorem RN.q{H:Hp}{r:Rat}{v:V}(h:RN H (.q r) v):∃ a,v=.ref a/\H a=some (.tup [.int r.num,.int (r.den:Int)]):=by
 simp only[RN,toD,Rp,Rps]at h;obtain⟨a,xs,e,h1,x,r1,e1,e2,y,r2,e3,e4,e5⟩:=h;subst e5 e4 e3 e2 e1;exact⟨a,e,h1⟩
theorem RN.of_q{H:Hp}{r:Rat}{a:Addr}(h:H a=some (.tup [.int r.num,.int (r.den:Int)])):RN H (.q r) (.ref a):=by
 simp only[RN,toD,Rp,Rps];exact⟨a,_,rfl,h,_,_,rfl,rfl,_,_,rfl,rfl,rfl⟩
theorem RN.z{H:Hp}{i:Int}{v:V}(h:RN H (.z i) v):v=.int i:=by
 simpa only [RN,toD,Rp] using h
theorem RN.of_z{H:Hp}{i:Int}:RN H (.z i) (.int i):=by
 simp only[RN,toD,Rp]
theorem RN.mono{H H':Hp}{x:Nb}{v:V}(h:RN H x v)(g:Same H H'):RN H' x v:=Rp.mono g _ _ h
theorem XF(x:Nb):(toD x).canLay0=true:=by
 cases x <;> rfl
theorem YU(x:Nb):(toD x).depth<=1:=by
 cases x <;> simp[toD,PyData.depth,PyData.depthAll]
theorem YZ(x y:Nb):PyData.eqv (toD x) (toD y)=decide (x=y):=by
 cases x with
 | q r =>
  cases y with
  | q s =>
   show((r.num == s.num) && (((r.den:Int) ==(s.den:Int)) && true))=decide (Nb.q r=Nb.q s)
   by_cases h:r=s
   ·subst h;simp
   ·have h':¬ Nb.q r=Nb.q s:=fun z=>h (Nb.q.inj z)
    rw[decide_eq_false h'];rw[Bool.and_eq_false_iff]
    by_cases h1:r.num=s.num
    ·right
     rw[Bool.and_true];have:¬(r.den:Int) =(s.den:Int):=fun z=>h (Rat.ext h1 (by omega))
     simp[this]
    ·left;simp[h1]
  | z j=>simp[toD,PyData.eqv]
 | z i =>
  cases y with
  | q s=>simp[toD,PyData.eqv]
  | z j =>
   show(i == j)=decide (Nb.z i=Nb.z j)
   by_cases h:i=j
   ·subst h;simp
   ·have h':¬ Nb.z i=Nb.z j:=fun z=>h (Nb.z.inj z)
    rw[decide_eq_false h'];simp[h]
def nsm(n:Nat):Nb->Prop
 | .q r=>Sm n r.num/\Sm n (r.den:Int)
 | .z i=>Sm n i
theorem nsm.mono{m n:Nat}{x:Nb}(h:nsm m x)(hmn:m<=n):nsm n x:=by
 cases x with
 | q r=>exact⟨Sm.mono h.1 hmn,Sm.mono h.2 hmn⟩
 | z i=>exact Sm.mono (show Sm m i from h) hmn
theorem XH{k i:Int}(h0:0<=i)(h1:i<k)(h9:k<2305843009213693952):Sm 61 i:=by
 unfold Sm;have:(2:Nat)^61=2305843009213693952:=by decide
 omega
theorem JM{t b:Int}(hb:b≠0):((vJ t b).den:Int).natAbs<=b.natAbs:=by
 have h:=(YF (t:=t) hb).2;rw[← h,vL (ZA t b)];have e:=uC (ZA t b);have h1:(b / sg t b*sg t b).natAbs=b.natAbs:=by rw[e]
 rw[vG]at h1;have h2:0 <(sg t b).natAbs:=gh.mpr (zdU hb);rw[← h1];exact uz _ h2
theorem Qp{t b:Int}(hb:b≠0):(vJ t b).num.natAbs<=t.natAbs:=by
 have h:=(YF (t:=t) hb).1;rw[← h,vL (Zp t b)];have e:=uC (Zp t b);have h1:(t / sg t b*sg t b).natAbs=t.natAbs:=by rw[e]
 rw[vG]at h1;have h2:0 <(sg t b).natAbs:=gh.mpr (zdU hb);rw[← h1];exact uz _ h2
theorem qr{m n:Nat}{t b:Int}(hb:b≠0)(ht:Sm m t)(hs:Sm n b):Sm m (vJ t b).num/\Sm n ((vJ t b).den:Int):=⟨ht.le (Qp hb),hs.le (JM hb)⟩
theorem zeH{k:Int}(hk:k≠0)(k0:0<=k)(a:Int):Nb.ok k (.z (a.fmod k)):=⟨hk,wy a (by omega),wH a (by omega)⟩
theorem qQ{k:Int}{x y:Nb}(hx:x.ok k)(hy:y.ok k):(k=0/\∃ r s,x=.q r/\y=.q s)\/(k≠0/\∃ i j,x=.z i/\y=.z j/\0<=i/\i<k/\0<=j/\j<k):=by
 cases x with
 | q r =>
  cases y with
  | q s=>exact .inl ⟨hx,r,s,rfl,rfl⟩
  | z j=>exact absurd (show k=0 from hx) hy.1
 | z i =>
  cases y with
  | q s=>exact absurd (show k=0 from hy) hx.1
  | z j=>exact .inr ⟨hx.1,i,j,rfl,rfl,hx.2.1,hx.2.2,hy.2.1,hy.2.2⟩
section
variable{k:Int}{x y:Nb}
theorem YV(k0:0<=k)(hx:x.ok k)(hy:y.ok k):(nsub k x y).ok k:=by
 rcases qQ hx hy with⟨h,r,s,rfl,rfl⟩|⟨h,i,j,rfl,rfl,_⟩
 ·exact h
 ·exact zeH h k0 _
theorem zba(k0:0<=k)(hx:x.ok k)(hy:y.ok k):(nmul k x y).ok k:=by
 rcases qQ hx hy with⟨h,r,s,rfl,rfl⟩|⟨h,i,j,rfl,rfl,_⟩
 ·exact h
 ·exact zeH h k0 _
theorem zjn{n:Nat}(hk:kaa k)(h:k≠0)(hn:61<=n)(a:Int):nsm n (.z (a.fmod k)):=by
 have hl:=hk.lt;have h0:=wy a (show 0<k by omega);have h1:=wH a (show 0<k by omega);exact(XH h0 h1 hl.2).mono hn
theorem jX(r s:Rat):(r.den:Int) *(s.den:Int)≠0:=gC (xY r) (xY s)
theorem zhW{m:Nat}(hk:kaa k)(hx:x.ok k)(hy:y.ok k)(sx:nsm m x)(sy:nsm m y)(hm:61<=m):nsm (m+m) (nmul k x y):=by
 rcases qQ hx hy with⟨h,r,s,rfl,rfl⟩|⟨h,i,j,rfl,rfl,_⟩
 ·show Sm _ (r*s).num/\Sm _ ((r*s).den:Int);rw[← za8];exact qr (jX r s) (sx.1.mul sy.1) (sx.2.mul sy.2)
 ·exact zjn hk h (by omega) _
end
end L2
namespace L2
open PySem PySem.Spec PyProof.Rows Nm
section
variable{α β:Type}{R S:α->β->Prop}
theorem zj:∀ {xs:List α} {ys:List β},Paired R xs ys->xs.length=ys.length
 | _,_,.nil=>rfl
 | _,_,.cons _ t=>congrArg (·+1) (zj t)
theorem xp(f:∀ a b,R a b->S a b):∀ {xs:List α} {ys:List β},Paired R xs ys->Paired S xs ys
 | _,_,.nil=>.nil
 | _,_,.cons r t=>.cons (f _ _ r) (xp f t)
theorem qk:∀ {xs xs':List α} {ys ys':List β},Paired R xs ys->Paired R xs' ys'->Paired R (xs++xs') (ys++ys')
 | _,_,_,_,.nil,s=>s
 | _,_,_,_,.cons r t,s=>.cons r (qk t s)
theorem zS{xs:List α}{ys:List β}{a:α}{b:β}(h:Paired R xs ys)(r:R a b):Paired R (xs++[a]) (ys++[b]):=qk h (.cons r .nil)
theorem yv:∀ {xs:List α} {ys:List β} {i:Nat} {a:α},Paired R xs ys->xs[i]?=some a->∃ b,ys[i]?=some b/\R a b
 | _,_,_,_,.nil,e=>by simp at e
 | _,_,0,_,.cons r _,e=>by simp at e;subst e;exact⟨_,rfl,r⟩
 | _,_,i+1,a,.cons _ t,e=>by
  obtain⟨b,h1,h2⟩:=yv (i:=i) (a:=a) t (by simpa using e);exact⟨b,by simpa using h1,h2⟩
theorem zT:∀ {xs:List α} {ys:List β} {i:Nat} {b:β},Paired R xs ys->ys[i]?=some b->∃ a,xs[i]?=some a/\R a b
 | _,_,_,_,.nil,e=>by simp at e
 | _,_,0,_,.cons r _,e=>by simp at e;subst e;exact⟨_,rfl,r⟩
 | _,_,i+1,b,.cons _ t,e=>by
  obtain⟨a,h1,h2⟩:=zT (i:=i) (b:=b) t (by simpa using e);exact⟨a,by simpa using h1,h2⟩
theorem QN:∀ {xs:List α} {ys:List β} {b:β},Paired R xs ys->b∈ys->∃ a∈xs,R a b
 | _,_,_,.nil,e=>nomatch e
 | _,_,b,.cons r t,e=>by
  rcases wF.mp e with rfl|e
  ·exact⟨_,wp,r⟩
  ·obtain⟨a,h1,h2⟩:=QN t e;exact⟨a,wr _ h1,h2⟩
end
theorem zp{α:Type}{l:List α}{i:Nat}{x:α}(h:l[i]?=some x):l.take (i+1)=l.take i++[x]:=by
 obtain⟨hi,e⟩:=ww.mp h;rw[vR hi,e]
def kah(H:Hp)(xs:List Nb)(a:Addr):Prop:=∃ vs,H a=some (.lst vs)/\Paired (RN H) xs vs
def kag(H:Hp)(M:TB)(top:Addr)(ras:List Addr):Prop:=H top=some (.lst (ras.map V.ref))/\Paired (kah H) M ras
theorem yJ{H H':Hp}(g:Same H H'){xs:List Nb}{vs:List V}(h:Paired (RN H) xs vs):Paired (RN H') xs vs:=xp (fun _ _ r=>r.mono g) h
theorem kah.mono{H H':Hp}{xs:List Nb}{a:Addr}(h:kah H xs a)(g:Same H H'):kah H' xs a :=
 let ⟨vs,h1,h2⟩:=h
 ⟨vs,g _ _ h1,yJ g h2⟩
theorem kag.mono{H H':Hp}{M:TB}{top:Addr}{ras:List Addr}(h:kag H M top ras)(g:Same H H'):kag H' M top ras:=⟨g _ _ h.1,xp (fun _ _ r=>r.mono g) h.2⟩
theorem kag.row{H:Hp}{M:TB}{top:Addr}{ras:List Addr}{i:Nat}{v:V}(h:kag H M top ras)(e:(ras.map V.ref)[i]?=some v):∃ xs a,M[i]?=some xs/\ras[i]?=some a/\v=.ref a/\kah H xs a:=by
 rw[wk]at e;obtain⟨a,ha,rfl⟩:=wK.mp e;obtain⟨xs,hx,r⟩:=zT h.2 ha;exact⟨xs,a,hx,ha,rfl,r⟩
def rowD(xs:List Nb):PyData:=.list (xs.map toD)
def tabD(M:TB):PyData:=.list (M.map rowD)
theorem zdG{H:Hp}:∀ {xs:List Nb} {vs:List V},Paired (RN H) xs vs->Rps H (xs.map toD) vs
 | _,_,.nil=>by simp[Rps]
 | _,_,.cons r t=>by
  simp only[vW,Rps];exact⟨_,_,rfl,r,zdG t⟩
theorem kah.rp{H:Hp}{xs:List Nb}{a:Addr}(h:kah H xs a):Rp H (rowD xs) (.ref a):=by
 obtain⟨vs,h1,h2⟩:=h;simp only[rowD,Rp];exact⟨a,vs,rfl,h1,zdG h2⟩
theorem zbK{H:Hp}:∀ {M:TB} {ras:List Addr},Paired (kah H) M ras->Rps H (M.map rowD) (ras.map V.ref)
 | _,_,.nil=>by simp[Rps]
 | _,_,.cons r t=>by
  simp only[vW,Rps];exact⟨_,_,rfl,r.rp,zbK t⟩
theorem kag.rp{H:Hp}{M:TB}{top:Addr}{ras:List Addr}(h:kag H M top ras):Rp H (tabD M) (.ref top):=by
 simp only[tabD,Rp];exact⟨top,_,rfl,h.1,zbK h.2⟩
theorem ZF{α:Type}(f:α->PyData)(h:∀ x,(f x).canLay0=true):∀ l:List α,PyData.canLayAll0 (l.map f)=true
 | []=>rfl
 | x::r=>by
  show((f x).canLay0 && PyData.canLayAll0 (r.map f))=true;rw[h x,ZF f h r];rfl
theorem qj{α:Type}(f:α->PyData)(n:Nat)(h:∀ x,(f x).depth<=n):∀ l:List α,PyData.depthAll (l.map f)<=n
 | []=>vq _
 | x::r=>by
  show max (f x).depth (PyData.depthAll (r.map f))<=n;exact Nat.max_le.mpr ⟨h x,qj f n h r⟩
theorem Qw(xs:List Nb):(rowD xs).canLay0=true:=ZF toD XF xs
theorem Jj(xs:List Nb):(rowD xs).depth<=2:=waB (qj toD 1 YU xs)
theorem JS(M:TB):(tabD M).canLay0=true:=ZF rowD Qw M
theorem Jb(M:TB):(tabD M).depth<=3:=waB (qj rowD 2 Jj M)
theorem ZN{α:Type}(f:α->PyData)(h:∀ x,PyData.eqv (f x) (f x)=true):∀ l:List α,PyData.eqvAll (l.map f) (l.map f)=true
 | []=>rfl
 | x::r=>by
  show(PyData.eqv (f x) (f x) && PyData.eqvAll (r.map f) (r.map f))=true;rw[h x,ZN f h r];rfl
theorem zgS(x:Nb):PyData.eqv (toD x) (toD x)=true:=by rw[YZ];simp
theorem zeY(xs:List Nb):PyData.eqv (rowD xs) (rowD xs)=true:=ZN toD zgS xs
theorem zfg(M:TB):PyData.eqv (tabD M) (tabD M)=true:=ZN rowD zeY M
def Nxt(n i:Nat)(J:Prop):Prop:=∃ m',m'<n - i/\m'=n - (i+1)/\i+1<=n/\J
theorem nxt{n i:Nat}{J:Prop}(h:i<n)(j:J):Nxt n i J:=⟨n - (i+1),by omega,rfl,h,j⟩
section
variable{K:PySem.W.Frag}{g:TG}{tt:TT}{te:TE}{R:List V->Hp->Prop}{H:Hp}{σb:St}
theorem zN{a:Addr}{xs:List V}(J:Nat->List V->Hp->Prop)(h0:J 0 [] H)(hl:∀(i:Nat)(ys:List V)(H':Hp),i<=xs.length->J i ys H'->SqL K H' a xs/\ys.length<sizeLine)
  (hs:∀(i:Nat)(x:V)(ys:List V)(H':Hp),xs[i]?=some x->i<xs.length->J i ys H'->g x σb H' fun σ2 H2=>tt σ2 H2 fun b H3=>if b=true then te σ2 H3 fun y H4=>Nxt xs.length i (J (i+1) (ys++[y]) H4)else Nxt xs.length i (J (i+1) ys H3))
  (hd:∀(ys:List V)(H':Hp),J xs.length ys H'->R ys H') :
  ∃ W:Nat->Nat->List V->Hp->Prop,(∃ m,W 0 m [] H)/\∀ i m ys H,W i m ys H ->
   ((Itl K a).stop i H/\ys.length<=sizeLine/\R ys H) \/
   ((Itl K a).go i H/\ys.length<sizeLine/\∀ x H',(Itl K a).yld i H x H'->g x σb H' fun σ2 H2=>tt σ2 H2 fun b H3=>if b=true then te σ2 H3 fun y H4=>∃ m',m'<m/\W (i+1) m' (ys++[y]) H4 else ∃ m',m'<m/\W (i+1) m' ys H3):=by
 refine⟨fun i m ys H=>m=xs.length - i/\i<=xs.length/\J i ys H,⟨xs.length,by simp,vq _,h0⟩,?_⟩
 rintro i m ys H1 ⟨rfl,hi,j⟩
 obtain⟨q,hz⟩:=hl i ys H1 hi j
 by_cases hlt:i<xs.length
 ·refine .inr ⟨⟨xs,xs[i],q,by simp[hlt]⟩,hz,fun x H' y=>?_⟩;obtain⟨e,y⟩:=y;subst e;exact hs i x ys _ (y xs q) hlt j
 ·have e:i=xs.length:=by omega
  subst e;exact .inl ⟨⟨xs,q,wu _⟩,ux hz,hd ys H1 j⟩
theorem yt{lo:Int}{n:Nat}(J:Nat->List V->Hp->Prop)(h0:J 0 [] H)(hl:∀(i:Nat)(ys:List V)(H':Hp),i<=n->J i ys H'->ys.length<sizeLine)
  (hs:∀(i:Nat)(ys:List V)(H':Hp),i<n->J i ys H'->g (.int (lo+i)) σb H' fun σ2 H2=>tt σ2 H2 fun b H3=>if b=true then te σ2 H3 fun y H4=>Nxt n i (J (i+1) (ys++[y]) H4)else Nxt n i (J (i+1) ys H3))
  (hd:∀(ys:List V)(H':Hp),J n ys H'->R ys H') :
  ∃ W:Nat->Nat->List V->Hp->Prop,(∃ m,W 0 m [] H)/\∀ i m ys H,W i m ys H ->
   ((Itr lo n).stop i H/\ys.length<=sizeLine/\R ys H) \/
   ((Itr lo n).go i H/\ys.length<sizeLine/\∀ x H',(Itr lo n).yld i H x H'->g x σb H' fun σ2 H2=>tt σ2 H2 fun b H3=>if b=true then te σ2 H3 fun y H4=>∃ m',m'<m/\W (i+1) m' (ys++[y]) H4 else ∃ m',m'<m/\W (i+1) m' ys H3):=by
 refine⟨fun i m ys H=>m=n - i/\i<=n/\J i ys H,⟨n,by simp,vq _,h0⟩,?_⟩
 rintro i m ys H1 ⟨rfl,hi,j⟩
 have hz:=hl i ys H1 hi j
 by_cases hlt:i<n
 ·refine .inr ⟨hlt,hz,fun x H' y=>?_⟩;obtain⟨e,y⟩:=y;subst e y;exact hs i ys _ hlt j
 ·have e:i=n:=by omega
  subst e;exact .inl ⟨wu _,ux hz,hd ys H1 j⟩
theorem xS{a b:Addr}{xs zs:List V}(he:xs.length=zs.length)(J:Nat->List V->Hp->Prop)(h0:J 0 [] H)(hl:∀(i:Nat)(ys:List V)(H':Hp),i<=xs.length->J i ys H'->SqL K H' a xs/\SqL K H' b zs/\ys.length<sizeLine)
  (hs:∀(i:Nat)(x z:V)(T:Addr)(ys:List V)(H':Hp),xs[i]?=some x->zs[i]?=some z->i<xs.length->H' T=none->J i ys H'->g (.ref T) σb (upd H' T (.tup [x,z])) fun σ2 H2=>tt σ2 H2 fun b H3=>if b=true then te σ2 H3 fun y H4=>Nxt xs.length i (J (i+1) (ys++[y]) H4)else Nxt xs.length i (J (i+1) ys H3))
  (hd:∀(ys:List V)(H':Hp),J xs.length ys H'->R ys H') :
  ∃ W:Nat->Nat->List V->Hp->Prop,(∃ m,W 0 m [] H)/\∀ i m ys H,W i m ys H ->
   ((Itz K a b).stop i H/\ys.length<=sizeLine/\R ys H) \/
   ((Itz K a b).go i H/\ys.length<sizeLine/\∀ x H',(Itz K a b).yld i H x H'->g x σb H' fun σ2 H2=>tt σ2 H2 fun b H3=>if b=true then te σ2 H3 fun y H4=>∃ m',m'<m/\W (i+1) m' (ys++[y]) H4 else ∃ m',m'<m/\W (i+1) m' ys H3):=by
 refine⟨fun i m ys H=>m=xs.length - i/\i<=xs.length/\J i ys H,⟨xs.length,by simp,vq _,h0⟩,?_⟩
 rintro i m ys H1 ⟨rfl,hi,j⟩
 obtain⟨q1,q2,hz⟩:=hl i ys H1 hi j
 by_cases hlt:i<xs.length
 ·refine .inr ⟨⟨xs,zs,xs[i],zs[i]'(by omega),q1,q2,by simp[hlt],by simp[show i<zs.length by omega]⟩,hz,fun x H' y=>?_⟩;obtain⟨T,u,v,rfl,hT,rfl,y1,y2⟩:=y;exact hs i u v T ys _ (y1 xs q1) (y2 zs q2) hlt hT j
 ·have e:i=xs.length:=by omega
  subst e;exact .inl ⟨⟨xs,zs,q1,q2,.inl (wu _)⟩,ux hz,hd ys H1 j⟩
end
end L2
namespace La
open Lean.Grind
section
variable{F:Type}[Field F]
inductive Span(S:(Nat->F)->Prop):(Nat->F)->Prop
 | zero:Span S (fun _=>0)
 | step (c:F) {r v:Nat->F} (h:S r) (t:Span S v):Span S (fun j=>c*r j+v j)
variable{S T:(Nat->F)->Prop}{u v:Nat->F}
theorem Span.cast(h:Span S u)(e:∀ j,u j=v j):Span S v:=by
 have:u=v:=funext e;rw[← this];exact h
theorem Span.of(h:S v):Span S v:=(Span.step 1 h .zero).cast fun j=>by grind
theorem Span.add(h:Span S u)(g:Span S v):Span S (fun j=>u j+v j):=by
 induction h with
 | zero=>exact g.cast fun j=>by grind
 | step c hr _ ih=>exact(Span.step c hr ih).cast fun j=>by grind
theorem Span.smul(c:F)(h:Span S v):Span S (fun j=>c*v j):=by
 induction h with
 | zero=>exact Span.zero.cast fun j=>by grind
 | step d hr _ ih=>exact(Span.step (c*d) hr ih).cast fun j=>by grind
theorem Span.lin(a b:F)(h:Span S u)(g:Span S v):Span S (fun j=>a*u j+b*v j):=(h.smul a).add (g.smul b)
theorem Span.bind(f:∀ r,S r->Span T r)(h:Span S v):Span T v:=by
 induction h with
 | zero=>exact .zero
 | step c hr _ ih=>exact((f _ hr).smul c).add ih
theorem Span.mono(f:∀ r,S r->T r)(h:Span S v):Span T v:=h.bind fun r q=>.of (f r q)
theorem Span.all{P:(Nat->F)->Prop}(h:Span S v)(z:P fun _=>0)(s:∀ c r v,S r->P v->P (fun j=>c*r j+v j)):P v:=by
 induction h with
 | zero=>exact z
 | step c hr _ ih=>exact s c _ _ hr ih
theorem Span.zero_at{i:Nat}(h:Span S v)(z:∀ r,S r->r i=0):v i=0 :=
 h.all (P:=fun v=>v i=0) rfl fun c r v hr hv=>by
  show c*r i+v i=0;rw[z r hr,hv];grind
abbrev Pv(F:Type):=Nat×(Nat->F)
def Rows(P:List (Pv F)):(Nat->F)->Prop:=fun r=>∃ p∈P,p.2=r
structure Rr(n:Nat)(P:List (Pv F)):Prop where
 inc:P.Pairwise fun a b=>a.1<b.1
 lt:∀ p∈P,p.1<n
 out:∀ p∈P,∀ j,n<=j->p.2 j=0
 bef:∀ p∈P,∀ j,j<p.1->p.2 j=0
 one:∀ p∈P,p.2 p.1=1
 oth:∀ p∈P,∀ q∈P,p.1≠q.1->p.2 q.1=0
def comb:List (Pv F)->(Nat->F)->Nat->F
 | [],_,_=>0
 | p::P,v,j=>v p.1*p.2 j+comb P v j
theorem zbM(c:F)(u v:Nat->F)(j:Nat):∀ P:List (Pv F),comb P (fun i=>c*u i+v i) j=c*comb P u j+comb P v j
 | []=>by simp only[comb];grind
 | p::P=>by simp only[comb];rw[zbM c u v j P];grind
theorem xf(v:Nat->F)(j:Nat):∀ P:List (Pv F),(∀ p∈P,v p.1*p.2 j=0)->comb P v j=0
 | [],_=>rfl
 | p::P,h=>by
  simp only[comb];rw[h p wp,xf v j P fun q hq=>h q (wr _ hq)];grind
theorem Xq(v:Nat->F):∀ P:List (Pv F),Span (Rows P) (comb P v)
 | []=>Span.zero.cast fun _=>rfl
 | p::P=>by
  have h:=(Xq v P).mono (T:=Rows (p::P)) fun r ⟨q,hq,e⟩=>⟨q,wr _ hq,e⟩
  exact(Span.step (v p.1) (r:=p.2) (S:=Rows (p::P)) ⟨p,wp,rfl⟩ h).cast fun j=>rfl
theorem XD{v:Nat->F}{p:Pv F}(j:Nat):∀ P:List (Pv F),P.Pairwise (fun a b=>a.1<b.1)->p∈P->v p.1=1->(∀ q∈P,q.1≠p.1->v q.1=0)->comb P v j=p.2 j
 | [],_,h,_,_=>nomatch h
 | q::P,inc,h,h1,h0=>by
  rw[uJ]at inc;simp only[comb]
  rcases wF.mp h with e|h
  ·subst e;rw[xf v j P fun r hr=>by rw[h0 r (wr _ hr) (wak (inc.1 r hr))];grind];rw[h1];grind
  ·rw[h0 q wp (vd (inc.1 p h)),XD j P inc.2 h h1 fun r hr=>h0 r (wr _ hr)];grind
variable{n:Nat}{P Q:List (Pv F)}
theorem Rr.self(R:Rr n P){p:Pv F}(h:p∈P)(j:Nat):comb P p.2 j=p.2 j:=XD j P R.inc h (R.one p h) fun q hq ne=>R.oth p h q hq (Ne.symm ne)
theorem Rr.comb(R:Rr n P)(h:Span (Rows P) v):∀ j,La.comb P v j=v j:=fun j =>
 h.all (P:=fun v=>La.comb P v j=v j) (xf _ j P fun p _=>by grind) fun c r v ⟨p,hp,e⟩ hv=>by
  rw[zbM,hv,← e,R.self hp j]
theorem Rr.out_of(R:Rr n P)(h:Span (Rows P) v)(j:Nat)(hj:n<=j):v j=0:=h.zero_at fun r ⟨p,hp,e⟩=>by rw[← e];exact R.out p hp j hj
theorem Rr.lead(R:Rr n P){i:Nat}(h:Span (Rows P) v)(z:∀ j,j<i->v j=0)(ne:v i≠0):∃ p∈P,p.1=i:=by
 refine gw fun no=>ne ?_
 rw[← R.comb h i];refine xf _ i P fun p hp=>?_
 rcases wat p.1 i with g|g|g
 ·rw[z p.1 g];grind
 ·exact absurd ⟨p,hp,g⟩ no
 ·rw[R.bef p hp i g];grind
theorem Jc:∀ {P Q:List (Pv F)},P.Pairwise (fun a b=>a.1<b.1)->Q.Pairwise (fun a b=>a.1<b.1)->(∀ p∈P,p∈Q)->(∀ q∈Q,q∈P)->P=Q
 | [],[],_,_,_,_=>rfl
 | [],q::_,_,_,_,h=>nomatch h q wp
 | p::_,[],_,_,h,_=>nomatch h p wp
 | p::P,q::Q,hP,hQ,h1,h2=>by
  rw[uJ]at hP hQ;have e:p=q:=by
   rcases wF.mp (h1 p wp)with e|m
   ·exact e
   ·rcases wF.mp (h2 q wp)with e|m'
    ·exact e.symm
    ·have:=hP.1 q m';have:=hQ.1 p m;omega
  subst e;rw[Jc hP.2 hQ.2 (fun r hr=>?_) (fun r hr=>?_)]
  ·rcases wF.mp (h1 r (wr _ hr))with e|m
   ·subst e;exact absurd (hP.1 r hr) (vM _)
   ·exact m
  ·rcases wF.mp (h2 r (wr _ hr))with e|m
   ·subst e;exact absurd (hQ.1 r hr) (vM _)
   ·exact m
theorem Rr.leads(R:Rr n P)(R':Rr n Q)(sub:∀ v,Span (Rows P) v->Span (Rows Q) v){p:Pv F}(hp:p∈P):∃ q∈Q,q.1=p.1 :=
 R'.lead (sub _ (.of ⟨p,hp,rfl⟩)) (fun j hj=>R.bef p hp j hj) (by rw[R.one p hp];grind)
theorem Rr.mem_of(R:Rr n P)(R':Rr n Q)(s1:∀ v,Span (Rows P) v->Span (Rows Q) v)(s2:∀ v,Span (Rows Q) v->Span (Rows P) v){p:Pv F}(hp:p∈P):p∈Q:=by
 obtain⟨q,hq,e⟩:=R.leads R' s1 hp;have:p=q:=by
  refine Prod.ext e.symm (funext fun j=>?_);rw[← R'.comb (s1 _ (.of ⟨p,hp,rfl⟩)) j];refine XD j Q R'.inc hq (by rw[e];exact R.one p hp) fun r hr ne=>?_
  obtain⟨p',hp',e'⟩:=R'.leads R s2 hr;rw[← e'];exact R.oth p hp p' hp' fun z=>ne (by rw[← e',← z,e])
 rw[this];exact hq
theorem Rr.unique(R:Rr n P)(R':Rr n Q)(s1:∀ v,Span (Rows P) v->Span (Rows Q) v)(s2:∀ v,Span (Rows Q) v->Span (Rows P) v):P=Q :=
 Jc R.inc R'.inc (fun _ h=>R.mem_of R' s1 s2 h) fun _ h=>R'.mem_of R s2 s1 h
structure Sw(n c:Nat)(O:(Nat->F)->Prop)(D:List (Pv F))(W:List (Nat->F)):Prop where
 inc:D.Pairwise fun a b=>a.1<b.1
 lt:∀ p∈D,p.1<c
 bef:∀ p∈D,∀ j,j<p.1->p.2 j=0
 one:∀ p∈D,p.2 p.1≠0
 oth:∀ p∈D,∀ q∈D,p.1≠q.1->p.2 q.1=0
 nil:∀ w∈W,∀ j,j<c->w j=0
 to:∀ r,O r->Span (fun r=>Rows D r\/r∈W) r
 fro:∀ r,(Rows D r\/r∈W)->Span O r
theorem zf6(n:Nat)(W:List (Nat->F))(O:(Nat->F)->Prop)(h1:∀ r,O r->Span (·∈W) r)(h2:∀ r∈W,Span O r):Sw n 0 O ([]:List (Pv F)) W where
 inc:=.nil
 lt:=fun p h=>nomatch h
 bef:=fun p h=>nomatch h
 one:=fun p h=>nomatch h
 oth:=fun p h=>nomatch h
 nil:=fun w _ j h=>absurd h (ug j)
 to:=fun r h=>(h1 r h).mono fun _=>.inr
 fro:=fun r h=>h.elim (fun⟨p,hp,_⟩=>nomatch hp) (h2 r)
variable{c:Nat}{O:(Nat->F)->Prop}{D D':List (Pv F)}{W W':List (Nat->F)}
theorem Sw.skip(s:Sw n c O D W)(h:∀ w∈W,w c=0):Sw n (c+1) O D W :=
 { s with
  lt:=fun p hp=>uP (s.lt p hp)
  nil:=fun w hw j hj=>by
   rcases gO.mp hj with g|g
   ·exact s.nil w hw j g
   ·rw[g];exact h w hw }
def Clr(c:Nat)(l r r':Nat->F):Prop:=(∃ a b:F,a≠0/\∀ j,r' j=a*r j+b*l j)/\r' c=0
theorem Clr.back{l r r':Nat->F}(h:Clr c l r r'){S:(Nat->F)->Prop}(hl:Span S l)(hr:Span S r'):Span S r:=by
 obtain⟨⟨a,b,ha,e⟩,_⟩:=h;exact(hr.lin (1 / a) (-b / a) hl).cast fun j=>by rw[e j];grind
theorem Clr.to{l r r':Nat->F}(h:Clr c l r r'){S:(Nat->F)->Prop}(hl:Span S l)(hr:Span S r):Span S r':=by
 obtain⟨⟨a,b,ha,e⟩,_⟩:=h;exact(hr.lin a b hl).cast fun j=>by rw[e j]
theorem Sw.turn{α:Type}{E:List α}{a b:α->Pv F}(s:Sw n c O (E.map a) W){l:Nat->F}(hl:l∈W)(lc:l c≠0)(hf:∀ e∈E,(b e).1 =(a e).1/\Clr c l (a e).2 (b e).2)
  (hW:∀ w∈W',(w∈W/\w c=0)\/∃ r∈W,Clr c l r w) (hW2:∀ w∈W,w∈W'\/w=l\/∃ w'∈W',Clr c l w w'):Sw n (c+1) O (E.map b++[(c,l)]) W':=by
 have lz:∀ j,j<c->l j=0:=s.nil l hl;have ina:∀ e∈E,a e∈E.map a:=fun e he=>wj.mpr ⟨e,he,rfl⟩
 have alt:∀ e∈E,(a e).1<c:=fun e he=>s.lt _ (ina e he)
 have fz:∀ e∈E,∀ j,j<c->(a e).2 j=0->(b e).2 j=0:=fun e he j hj z=>by
  obtain⟨_,⟨x,y,ha,q⟩,_⟩:=hf e he;rw[q j,z,lz j hj];grind
 have mem:∀ q∈E.map b++[(c,l)],(∃ e∈E,q=b e)\/q =(c,l):=fun q hq=>by
  rcases wq.mp hq with h|h
  ·obtain⟨p,hp,e⟩:=wj.mp h;exact .inl ⟨p,hp,e.symm⟩
  ·exact .inr (wn.mp h)
 have inl:(c,l)∈E.map b++[(c,l)]:=wE _ (wn.mpr rfl);have ind:∀ e∈E,b e∈E.map b++[(c,l)]:=fun e he=>wQ _ (wj.mpr ⟨e,he,rfl⟩)
 refine⟨?_,fun q hq=>?_,fun q hq j hj=>?_,fun q hq=>?_,fun q hq q' hq' ne=>?_,fun w hw j hj=>?_,fun r hr=>?_,fun r hr=>?_⟩
 ·rw[wac];refine⟨?_,GP _ _,fun x hx y hy=>?_⟩
  ·have h:=s.inc;rw[uQ]at h ⊢;refine h.imp_of_mem fun {x y} hx hy q=>?_
   rw[(hf x hx).1,(hf y hy).1];exact q
  ·obtain⟨p,hp,e⟩:=wj.mp hx;rw[wn.mp hy,← e,(hf p hp).1];exact alt p hp
 ·rcases mem q hq with⟨p,hp,rfl⟩|rfl
  ·rw[(hf p hp).1];exact uP (alt p hp)
  ·exact ul _
 ·rcases mem q hq with⟨p,hp,rfl⟩|rfl
  ·rw[(hf p hp).1]at hj;exact fz p hp j (wa1 hj (alt p hp)) (s.bef _ (ina p hp) j hj)
  ·exact lz j hj
 ·rcases mem q hq with⟨p,hp,rfl⟩|rfl
  ·obtain⟨e1,⟨x,y,ha,e⟩,_⟩:=hf p hp;rw[e1,e,lz _ (alt p hp)];have:=s.one _ (ina p hp);intro z
   grind
  ·exact lc
 ·rcases mem q hq with⟨p,hp,rfl⟩|rfl
  ·rcases mem q' hq' with⟨p',hp',rfl⟩|rfl
   ·rw[(hf p hp).1,(hf p' hp').1]at ne;rw[(hf p' hp').1];exact fz p hp _ (alt p' hp') (s.oth _ (ina p hp) _ (ina p' hp') ne)
   ·exact(hf p hp).2.2
  ·rcases mem q' hq' with⟨p',hp',rfl⟩|rfl
   ·rw[(hf p' hp').1];exact lz _ (alt p' hp')
   ·exact absurd rfl ne
 ·rcases hW w hw with⟨h,z⟩|⟨r,hr,⟨⟨x,y,ha,e⟩,z⟩⟩
  ·rcases gO.mp hj with g|g
   ·exact s.nil w h j g
   ·rw[g];exact z
  ·rcases gO.mp hj with g|g
   ·rw[e j,s.nil r hr j g,lz j g];grind
   ·rw[g];exact z
 ·refine(s.to r hr).bind fun u hu=>?_
  have L:Span (fun r=>Rows (E.map b++[(c,l)]) r\/r∈W') l:=.of (.inl ⟨_,inl,rfl⟩)
  rcases hu with⟨q,hq,rfl⟩|hu
  ·obtain⟨p,hp,rfl⟩:=wj.mp hq;exact(hf p hp).2.back L (.of (.inl ⟨_,ind p hp,rfl⟩))
  ·rcases hW2 u hu with h|h|⟨w',h,k⟩
   ·exact .of (.inr h)
   ·rw[h];exact L
   ·exact k.back L (.of (.inr h))
 ·have L:Span O l:=s.fro l (.inr hl)
  rcases hr with⟨q,hq,rfl⟩|hr
  ·rcases mem q hq with⟨p,hp,rfl⟩|rfl
   ·exact(hf p hp).2.to L (s.fro _ (.inl ⟨_,ina p hp,rfl⟩))
   ·exact L
  ·rcases hW r hr with⟨h,_⟩|⟨u,hu,k⟩
   ·exact s.fro _ (.inr h)
   ·exact k.to L (s.fro _ (.inr hu))
theorem Sw.done(s:Sw n n O D W)(ow:∀ w∈W,∀ j,n<=j->w j=0)(od:∀ p∈D,∀ j,n<=j->p.2 j=0):Rr n (D.map fun p=>(p.1,fun j=>p.2 j / p.2 p.1)) /\
  (∀ v,Span (Rows (D.map fun p=>(p.1,fun j=>p.2 j / p.2 p.1))) v->Span O v)/\(∀ v,Span O v->Span (Rows (D.map fun p=>(p.1,fun j=>p.2 j / p.2 p.1))) v):=by
 have wz:∀ w∈W,∀ j,w j=0:=fun w hw j=>by
  rcases wO j n with g|g
  ·exact s.nil w hw j g
  ·exact ow w hw j g
 refine⟨⟨?_,fun q hq=>?_,fun q hq j hj=>?_,fun q hq j hj=>?_,fun q hq=>?_,fun q hq q' hq' ne=>?_⟩,fun v hv=>?_,fun v hv=>?_⟩
 ·rw[uQ];exact s.inc
 ·obtain⟨p,hp,rfl⟩:=wj.mp hq;exact s.lt p hp
 ·obtain⟨p,hp,rfl⟩:=wj.mp hq;show p.2 j / p.2 p.1=0;rw[od p hp j hj];grind
 ·obtain⟨p,hp,rfl⟩:=wj.mp hq;show p.2 j / p.2 p.1=0;rw[s.bef p hp j hj];grind
 ·obtain⟨p,hp,rfl⟩:=wj.mp hq;show p.2 p.1 / p.2 p.1=1;have:=s.one p hp
  grind
 ·obtain⟨p,hp,rfl⟩:=wj.mp hq;obtain⟨p',hp',rfl⟩:=wj.mp hq';show p.2 p'.1 / p.2 p.1=0;rw[s.oth p hp p' hp' ne];grind
 ·refine hv.bind fun r ⟨q,hq,e⟩=>?_
  obtain⟨p,hp,rfl⟩:=wj.mp hq;rw[← e];exact((s.fro p.2 (.inl ⟨p,hp,rfl⟩)).smul (1 / p.2 p.1)).cast fun j=>by grind
 ·refine(hv.bind s.to).bind fun r hr=>?_
  rcases hr with⟨p,hp,rfl⟩|hr
  ·have:=s.one p hp;have h:Span (Rows (D.map fun p=>(p.1,fun j=>p.2 j / p.2 p.1))) (fun j=>p.2 j / p.2 p.1):=Span.of ⟨_,wj.mpr ⟨p,hp,rfl⟩,rfl⟩;exact(h.smul (p.2 p.1)).cast fun j=>by grind
  ·exact Span.zero.cast fun j=>(wz r hr j).symm
end
end La
namespace La
open Lean.Grind Nm
def ι{F:Type}[CommRing F](w:Int):F:=(Ring.intCast:IntCast F).intCast w
section
variable{F:Type}[CommRing F]
theorem ι_add(x y:Int):(ι (x+y):F)=ι x+ι y:=Ring.intCast_add x y
theorem ι_mul(x y:Int):(ι (x*y):F)=ι x*ι y:=Ring.intCast_mul x y
theorem ι_sub(x y:Int):(ι (x - y):F)=ι x - ι y:=Ring.intCast_sub x y
theorem ι_neg(x:Int):(ι (-x):F) = -ι x:=Ring.intCast_neg x
theorem ι_zero:(ι 0:F)=0:=Ring.intCast_zero
theorem ι_one:(ι 1:F)=1:=Ring.intCast_one
end
structure Kf(k:Int)(F:Type)[Field F] where
 to:Nb->F
 of:F->Nb
 ok:∀ x,(of x).ok k
 to_of:∀ x,to (of x)=x
 of_to:∀ x,x.ok k->of (to x)=x
 add:∀ {x y},x.ok k->y.ok k->to (nadd k x y)=to x+to y
 sub:∀ {x y},x.ok k->y.ok k->to (nsub k x y)=to x - to y
 mul:∀ {x y},x.ok k->y.ok k->to (nmul k x y)=to x*to y
 div:∀ {x y},x.ok k->y.ok k->y≠nnum k 0->to (ndiv k x y)=to x / to y
 num:∀ w:Int,to (nnum k w)=ι w
 zero:∀ w:Int,(ι w:F)=0↔k ∣ w
 rat:∀ r:Rat,k=0->to (.q r)*ι (r.den:Int)=ι r.num
 rest:∀ i:Int,k≠0->to (.z i)=ι i
def zpw{F:Type}[CommRing F](inv:F->F)(a:F):Int->F
 | .ofNat n=>a^n
 | .negSucc n=>inv (a^(n+1))
@[reducible] noncomputable def fieldOf {F:Type} [CommRing F] (h01:(0:F)≠1) (hinv:∀ a:F,∃ b:F,(a=0->b=0)/\(a≠0->a*b=1)):Field F :=
 have un:∀ a b c:F,a*b=1->a*c=1->b=c:=fun a b c h1 h2=>by
  have:b=b *(a*c):=by rw[h2];grind
  have:c=c *(a*b):=by rw[h1];grind
  grind
 let inv:F->F:=fun a=>Classical.choose (hinv a)
 have i0:∀ a,a=0->inv a=0:=fun a=>(GY (hinv a)).1
 have i1:∀ a,a≠0->a*inv a=1:=fun a=>(GY (hinv a)).2
 have ii:∀ a,inv (inv a)=a:=fun a=>by
  by_cases h:a=0
  ·rw[i0 a h,i0 0 rfl,h]
  ·have h':inv a≠0:=fun z=>by
    have:=i1 a h;rw[z]at this;exact h01 (by rw[← this];grind)
   have e1:=i1 a h;have e2:=i1 _ h';exact un (inv a) _ _ e2 (by rw[← e1];grind)
 letI:Inv F:=⟨inv⟩
 letI:Div F:=⟨fun a b=>a*inv b⟩
 letI:HPow F Int F:=⟨zpw inv⟩
 {zpow:=⟨zpw inv⟩
  div_eq_mul_inv:=fun a b=>rfl
  zero_ne_one:=h01
  inv_zero:=i0 0 rfl
  mul_inv_cancel:=fun {a} h=>i1 a h
  zpow_zero:=fun a=>Semiring.pow_zero a
  zpow_succ:=fun a n=>Semiring.pow_succ a n
  zpow_neg:=fun a n=>by
   show zpw inv a (-n)=inv (zpw inv a n)
   match n with
   | .ofNat 0 =>
    show a^0=inv (a^0);rw[Semiring.pow_zero];have:=i1 1 (Ne.symm h01);exact un 1 _ _ (by grind) this
   | .ofNat (m+1)=>rfl
   | .negSucc m =>
    show a^(m+1)=inv (inv (a^(m+1)));rw[ii] }
def kfRat:Kf 0 Rat where
 to:=fun x=>match x with | .q r=>r | .z _=>0
 of:=.q
 ok:=fun _=>rfl
 to_of:=fun _=>rfl
 of_to:=fun x h=>by cases x with
  | q r=>rfl
  | z i=>exact absurd rfl h.1
 add:=fun {x y} hx hy=>by
  cases x with
  | z i=>exact absurd rfl hx.1
  | q r=>cases y with
   | z i=>exact absurd rfl hy.1
   | q s=>rfl
 sub:=fun {x y} hx hy=>by
  cases x with
  | z i=>exact absurd rfl hx.1
  | q r=>cases y with
   | z i=>exact absurd rfl hy.1
   | q s=>rfl
 mul:=fun {x y} hx hy=>by
  cases x with
  | z i=>exact absurd rfl hx.1
  | q r=>cases y with
   | z i=>exact absurd rfl hy.1
   | q s=>rfl
 div:=fun {x y} hx hy _=>by
  cases x with
  | z i=>exact absurd rfl hx.1
  | q r=>cases y with
   | z i=>exact absurd rfl hy.1
   | q s=>rfl
 num:=fun w=>rfl
 zero:=fun w=>by
  rw[Gm];exact uA
 rat:=fun r _=>by
  show r *((r.den:Int):Rat) =((r.num:Int):Rat);have e:vJ r.num r.den*vJ (r.den:Int) 1=vJ r.num 1:=by
   rw[GV,GE (by have:=xY r;omega) (by decide)]
   grind
  have o:∀ a:Int,vJ a 1 =(a:Rat):=fun a=>by
   rw[wau];show(a:Rat) / 1=a
   grind
  rw[gP,o,o]at e;exact e
 rest:=fun i h=>absurd rfl h
theorem zdM{F:Type}[Field F]{a b z:F}(h:z*b=1):a*z=a / b:=by
 have n:b≠0:=fun e=>by rw[e]at h;grind
 grind
section
variable{k:Int}{p:Nat}[NeZero p]
theorem zj6(hp:(p:Int)=k):(ι k:Fin p)=0:=by
 subst hp;show Fin.intCast (p:Int)=0;unfold Fin.intCast;rw[if_pos (uI p)];refine Fin.ext ?_;show(p:Int).natAbs % p=0 % p;simp
theorem zd5(hp:(p:Int)=k){w:Int}(h:k ∣ w):(ι w:Fin p)=0:=by
 obtain⟨c,rfl⟩:=h;rw[ι_mul,zj6 hp];grind
theorem qY(hp:(p:Int)=k){a b:Int}(h:k ∣ a - b):(ι a:Fin p)=ι b:=by
 have:=zd5 hp h;rw[ι_sub]at this
 grind
theorem zeB(hp:(p:Int)=k){i:Int}(h0:0<=i)(h1:i<k):((ι i:Fin p).val:Int)=i:=by
 show((Fin.intCast i:Fin p).val:Int)=i;unfold Fin.intCast;rw[if_pos h0];show((i.natAbs % p:Nat):Int)=i;rw[GK (by omega)];omega
theorem fin_ι(x:Fin p):(ι (x.val:Int):Fin p)=x:=by
 show(Fin.intCast (x.val:Int):Fin p)=x;unfold Fin.intCast;rw[if_pos (uI _)];refine Fin.ext ?_;show(x.val:Int).natAbs % p=x.val;rw[vS,GK x.isLt]
theorem zbP(hp:(p:Int)=k)(w:Int):(ι w:Fin p)=0↔k ∣ w:=by
 refine⟨fun h=>?_,zd5 hp⟩;have k0:0<k:=by have:=NeZero.ne p;omega
 have e:(ι w:Fin p)=ι (w % k):=qY hp ⟨w / k,by have:=gf w k;omega⟩;have v:=zeB (p:=p) hp (gB w (by omega)) (uU w k0);rw[← e,h]at v;have:w % k=0:=by rw[← v];rfl
 exact Int.dvd_of_emod_eq_zero this
theorem ziO(h:Pr k)(hp:(p:Int)=k)(a:Fin p):∃ b:Fin p,(a=0->b=0)/\(a≠0->a*b=1):=by
 by_cases z:a=0
 ·exact⟨0,fun _=>rfl,fun n=>absurd z n⟩
 ·have a0:0 <(a.val:Int):=by
   have:a.val≠0:=fun e=>z (Fin.ext e)
   omega
  obtain⟨x,x0,xk,hx⟩:=XX h a0 (by have:=a.isLt;omega);refine⟨ι x,fun e=>absurd e z,fun _=>?_⟩;have:=qY (p:=p) hp hx;rw[ι_mul,fin_ι,ι_one]at this
  grind
theorem zjS(h:Pr k)(hp:(p:Int)=k):(0:Fin p)≠1:=fun e=>by
 have:(ι 1:Fin p)=0:=by rw[ι_one];exact e.symm
 have:=(zbP hp 1).mp this;have:=wad (by decide) this;have:=h.lo;omega
@[reducible] noncomputable def fieldFin (h:Pr k) (hp:(p:Int)=k):Field (Fin p):=fieldOf (zjS h hp) (ziO h hp)
def kfFin(h:Pr k)(hp:(p:Int)=k) : @Kf k (Fin p) (fieldFin h hp) :=
 letI:=fieldFin h hp
 have k1:=h.lo;have k0:k≠0:=by omega
 have fm:∀ a:Int,(ι (a.fmod k):Fin p)=ι a:=fun a=>qY hp (Yk k a)
 {to:=fun x=>match x with | .q _=>0 | .z i=>ι i
  of:=fun x=>.z x.val
  ok:=fun x=>⟨k0,uI _,by have:=x.isLt;omega⟩
  to_of:=fun x=>fin_ι x
  of_to:=fun x hx=>by cases x with
   | q r=>exact absurd hx k0
   | z i=>exact congrArg Nb.z (zeB hp hx.2.1 hx.2.2)
  add:=fun {x y} hx hy=>by
   cases x with
   | q r=>exact absurd hx k0
   | z i=>cases y with
    | q s=>exact absurd hy k0
    | z j=>exact(fm _).trans (ι_add i j)
  sub:=fun {x y} hx hy=>by
   cases x with
   | q r=>exact absurd hx k0
   | z i=>cases y with
    | q s=>exact absurd hy k0
    | z j=>exact(fm _).trans (ι_sub i j)
  mul:=fun {x y} hx hy=>by
   cases x with
   | q r=>exact absurd hx k0
   | z i=>cases y with
    | q s=>exact absurd hy k0
    | z j=>exact(fm _).trans (ι_mul i j)
  div:=fun {x y} hx hy ne=>by
   cases x with
   | q r=>exact absurd hx k0
   | z i=>cases y with
    | q s=>exact absurd hy k0
    | z j =>
     have j0:j≠0:=fun z=>ne (by unfold nnum;rw[if_neg k0,z,wae])
     obtain⟨x,x0,xk,hx'⟩:=XX h (show 0<j by have:=hy.2.1;omega) hy.2.2;have e:=qY (p:=p) hp hx';rw[ι_mul,ι_one]at e;refine Eq.trans (b:=ι i*ι x) ?_ (zdM e);show(ι ((i*zinv k j).fmod k):Fin p)=ι i*ι x;rw[fm,ι_mul,ze9 x0 xk hx']
  num:=fun w=>by
   unfold nnum;rw[if_neg k0];exact fm w
  zero:=zbP hp
  rat:=fun r e=>absurd e k0
  rest:=fun i _=>rfl }
end
theorem yi{k:Int}(h:kaa k):∃(F:Type)(inst:Field F)(dec:DecidableEq F),Nonempty (Kf k F):=by
 rcases h with rfl|h
 ·exact⟨Rat,inferInstance,inferInstance,⟨kfRat⟩⟩
 ·have k1:=h.lo;haveI:NeZero k.toNat:=⟨by omega⟩;have hp:((k.toNat:Nat):Int)=k:=by omega
  exact⟨Fin k.toNat,fieldFin h hp,inferInstance,⟨kfFin h hp⟩⟩
end La
namespace La
open Lean.Grind Nm
section
variable{k:Int}{F:Type}[Field F]
def fv(ws:List Int):Nat->F:=fun j=>ι (ws.getD j 0)
theorem zcG{ws:List Int}{j:Nat}(h:ws.length<=j):(fv ws j:F)=0:=by
 unfold fv;rw[we,vo h];exact ι_zero
def Nf(k:Int)(ws:List Int):Prop:=k≠0->∀ w∈ws,0<=w/\w<k
theorem XC(φ:Kf k F){ws:List Int}(h:Nf k ws)(j:Nat):(fv ws j:F)=0↔ws.getD j 0=0:=by
 unfold fv;rw[φ.zero]
 constructor
 ·intro d
  by_cases k0:k=0
  ·rw[k0,Gm]at d;exact d
  ·have hw:0<=ws.getD j 0/\ws.getD j 0<k:=by
    rcases wO j ws.length with g|g
    ·rw[we,wc g];exact h k0 _ (wm g)
    ·rw[we,vo g];refine⟨Int.le_refl _,?_⟩;show 0<k;have n:0<=k:=by
      rcases gk k 0 with z|z
      ·exfalso
       have:=φ.ok (φ.to (.z 0));generalize φ.of (φ.to (.z 0))=x at this;cases x with
       | q r=>exact k0 this
       | z i=>obtain⟨_,i0,i1⟩:=this;omega
      ·exact z
     omega
   obtain⟨c,hc⟩:=d
   rcases wav c 0 with g|g|g
   ·have:k*c<=k *(-1):=ut (by omega) (by omega);omega
   ·rw[hc,g,Gk]
   ·have:k*1<=k*c:=ut (by omega) (by omega);omega
 ·intro e;rw[e];exact wal k
def gcdL(ws:List Int):Nat:=ws.foldl (fun d w=>uG d w.natAbs) 0
theorem qu:∀(ws:List Int)(d:Nat),(ws.foldl (fun d w=>uG d w.natAbs) d ∣ d)/\∀ w∈ws,((ws.foldl (fun d w=>uG d w.natAbs) d:Nat):Int) ∣ w
 | [],d=>⟨Nat.dvd_refl d,fun w h=>nomatch h⟩
 | x::ws,d=>by
  obtain⟨h1,h2⟩:=qu ws (uG d x.natAbs);refine⟨Ga h1 (GL _ _),fun w hw=>?_⟩
  rcases wF.mp hw with e|hw
  ·rw[e];exact Int.ofNat_dvd_left.mpr (Ga h1 (Gz _ _))
  ·exact h2 w hw
theorem zci{ws:List Int}{w:Int}(h:w∈ws):((gcdL ws:Nat):Int) ∣ w:=(qu ws 0).2 w h
def kam(k:Int)(ws:List Int):List Int:=if k≠0 then ws.map (·.fmod k)else if gcdL ws=0 then ws else ws.map fun w=>w.fdiv ((gcdL ws:Nat):Int)
theorem Jf(ws:List Int):(kam k ws).length=ws.length:=by
 unfold kam;split
 ·exact wa _
 ·split
  ·rfl
  ·exact wa _
theorem zaW(k0:0<=k)(ws:List Int):Nf k (kam k ws):=fun h w hw=>by
 unfold kam at hw;rw[if_pos h]at hw;obtain⟨x,_,rfl⟩:=wj.mp hw;exact⟨wy x (by omega),wH x (by omega)⟩
theorem zcg{α β:Type}(f:α->β)(a:α)(b:β)(h:f a=b)(l:List α)(j:Nat):(l.map f).getD j b=f (l.getD j a):=by
 rw[we,we,wk,← h];cases l[j]? <;> rfl
theorem qb{w d:Int}(h:d ∣ w)(hd:d≠0):w.fdiv d*d=w:=by
 rw[vL h];exact uC h
theorem YY(φ:Kf k F)(ws:List Int):∃ a:F,a≠0/\∀ j,fv (kam k ws) j=a*fv ws j:=by
 have one:(1:F)≠0:=fun e=>Field.zero_ne_one e.symm
 unfold kam
 split
 ·rename_i h;refine⟨1,one,fun j=>?_⟩;unfold fv;rw[zcg (fun w:Int=>w.fmod k) 0 0 (wae k)];have d:=(φ.zero _).mpr (Yk k (ws.getD j 0));rw[ι_sub]at d
  grind
 ·rename_i h;have k0:k=0:=gw fun z=>h z
  split
  ·exact⟨1,one,fun j=>by grind⟩
  ·rename_i g;have gn:(ι ((gcdL ws:Nat):Int):F)≠0:=fun z=>by
    rw[φ.zero,k0,Gm]at z;omega
   refine⟨1 / ι ((gcdL ws:Nat):Int),fun z=>?_,fun j=>?_⟩
   ·have:ι ((gcdL ws:Nat):Int) *(1 / ι ((gcdL ws:Nat):Int)) =(1:F):=by grind
    rw[z]at this;exact one (by rw[← this];grind)
   ·unfold fv;rw[zcg (fun w:Int=>w.fdiv ((gcdL ws:Nat):Int)) 0 0 (Int.zero_fdiv _)];have dv:((gcdL ws:Nat):Int) ∣ ws.getD j 0:=by
     rcases wO j ws.length with z|z
     ·rw[we,wc z];exact zci (wm z)
     ·rw[we,vo z];exact wal _
    have e:=qb dv (by omega);have e2:(ι ((ws.getD j 0).fdiv ((gcdL ws:Nat):Int)):F)*ι ((gcdL ws:Nat):Int)=ι (ws.getD j 0):=by rw[← ι_mul,e]
    grind
def mixed(row lead:List Int)(c:Nat):List Int:=vy (fun l r=>lead.getD c 0*l - row.getD c 0*r) row lead
def kaf(k:Int)(lead:List Int)(c:Nat)(row:List Int):List Int:=if row.getD c 0=0 then row else kam k (mixed row lead c)
theorem qp{row lead:List Int}(h:row.length=lead.length)(c:Nat):(mixed row lead c).length=row.length:=by
 unfold mixed;rw[wG];omega
theorem jo{row lead:List Int}(h:row.length=lead.length)(c:Nat):(kaf k lead c row).length=row.length:=by
 unfold kaf;split
 ·rfl
 ·rw[Jf,qp h]
theorem Jh{row lead:List Int}(h:row.length=lead.length)(c j:Nat):(mixed row lead c).getD j 0=lead.getD c 0*row.getD j 0 - row.getD c 0*lead.getD j 0:=by
 rcases wO j row.length with g|g
 ·have g2:j<lead.length:=by omega
  unfold mixed;rw[we,vz,wc g,wc g2];show lead.getD c 0*row[j] - row.getD c 0*lead[j]=_;simp[we,wc g,wc g2]
 ·have g2:lead.length<=j:=by omega
  have g3:(mixed row lead c).length<=j:=by rw[qp h];exact g
  simp[we,vo g,vo g2,vo g3]
theorem Xz(k0:0<=k){row lead:List Int}(c:Nat)(h:Nf k row):Nf k (kaf k lead c row):=by
 unfold kaf;split
 ·exact h
 ·exact zaW k0 _
theorem zaY(φ:Kf k F){row lead:List Int}(h:row.length=lead.length){c:Nat}(lc:(fv lead c:F)≠0):Clr c (fv lead:Nat->F) (fv row) (fv (kaf k lead c row)):=by
 unfold kaf;have one:(1:F)≠0:=fun e=>Field.zero_ne_one e.symm
 split
 ·rename_i z;refine⟨⟨1,0,one,fun j=>by grind⟩,?_⟩;show ι (row.getD c 0)=0;rw[z];exact ι_zero
 ·obtain⟨a,ha,e⟩:=YY φ (mixed row lead c);have m:∀ j,(fv (mixed row lead c) j:F)=fv lead c*fv row j - fv row c*fv lead j:=fun j=>by
   unfold fv;rw[Jh h,ι_sub,ι_mul,ι_mul]
  refine⟨⟨a*fv lead c,-(a*fv row c),fun z=>?_,fun j=>?_⟩,?_⟩
  ·grind
  ·rw[e j,m j];grind
  ·rw[e c,m c];grind
def kao(k:Int)(c:Nat)(s:List (Nat×List Int)×List (List Int)):List (Nat×List Int)×List (List Int) :=
 match s.2.filter (fun r=>decide (r.getD c 0≠0))with
 | []=>s
 | l::rest=>(s.1.map (fun p=>(p.1,kaf k l c p.2))++[(c,l)],s.2.filter (fun r=>decide (r.getD c 0=0))++rest.map (kaf k l c))
def swTo(k:Int)(rows:List (List Int)):Nat->List (Nat×List Int)×List (List Int)
 | 0=>([],rows.map (kam k))
 | c+1=>kao k c (swTo k rows c)
structure Fine(k:Int)(n:Nat)(s:List (Nat×List Int)×List (List Int)):Prop where
 dl:∀ p∈s.1,p.2.length=n
 wl:∀ w∈s.2,w.length=n
 df:∀ p∈s.1,Nf k p.2
 wf:∀ w∈s.2,Nf k w
theorem Fine.turn{n c:Nat}{s:List (Nat×List Int)×List (List Int)}(k0:0<=k)(h:Fine k n s):Fine k n (kao k c s):=by
 unfold kao;cases e:s.2.filter (fun r=>decide (r.getD c 0≠0))with
 | nil=>exact h
 | cons l rest =>
  have sub:∀ r∈l::rest,r∈s.2:=fun r hr=>by rw[← e]at hr;exact(ve.mp hr).1
  have hl:=sub l wp;refine⟨fun p hp=>?_,fun w hw=>?_,fun p hp=>?_,fun w hw=>?_⟩
  ·rcases wq.mp hp with hp|hp
   ·obtain⟨q,hq,rfl⟩:=wj.mp hp;show(kaf k l c q.2).length=n;rw[jo (by rw[h.dl q hq,h.wl l hl]),h.dl q hq]
   ·rw[wn.mp hp];exact h.wl l hl
  ·rcases wq.mp hw with hw|hw
   ·exact h.wl w (ve.mp hw).1
   ·obtain⟨q,hq,rfl⟩:=wj.mp hw;have:=h.wl q (sub q (wr _ hq));rw[jo (by rw[this,h.wl l hl]),this]
  ·rcases wq.mp hp with hp|hp
   ·obtain⟨q,hq,rfl⟩:=wj.mp hp;exact Xz k0 c (h.df q hq)
   ·rw[wn.mp hp];exact h.wf l hl
  ·rcases wq.mp hw with hw|hw
   ·exact h.wf w (ve.mp hw).1
   ·obtain⟨q,hq,rfl⟩:=wj.mp hw;exact Xz k0 c (h.wf q (sub q (wr _ hq)))
theorem Fine.to{n:Nat}{rows:List (List Int)}(k0:0<=k)(h:∀ r∈rows,r.length=n):∀ c,Fine k n (swTo k rows c)
 | 0=>by
  refine⟨fun p hp=>(nomatch hp),fun w hw=>?_,fun p hp=>(nomatch hp),fun w hw=>?_⟩
  ·obtain⟨r,hr,rfl⟩:=wj.mp hw;rw[Jf,h r hr]
  ·obtain⟨r,hr,rfl⟩:=wj.mp hw;exact zaW k0 r
 | c+1=>(Fine.to k0 h c).turn k0
def inF(D:List (Nat×List Int)):List (Pv F):=D.map fun p=>(p.1,fv p.2)
theorem zii(φ:Kf k F)(k0:0<=k){n:Nat}{rows:List (List Int)}(h:∀ r∈rows,r.length=n):∀ c,Sw n c (fun v=>∃ r∈rows,v =(fv r:Nat->F)) (inF (swTo k rows c).1) ((swTo k rows c).2.map fv)
 | 0=>by
  refine zf6 n _ _ (fun v ⟨r,hr,e⟩=>?_) fun v hv=>?_
  ·obtain⟨a,ha,q⟩:=YY φ r;have hm:(fv (kam k r):Nat->F)∈(swTo k rows 0).2.map fv:=wj.mpr ⟨_,wj.mpr ⟨r,hr,rfl⟩,rfl⟩;have hs:Span (fun v=>v∈(swTo k rows 0).2.map fv) (fv (kam k r):Nat->F):=.of hm;exact(hs.smul (1 / a)).cast fun j=>by rw[e,q j];grind
  ·obtain⟨w,hw,rfl⟩:=wj.mp hv;obtain⟨r,hr,rfl⟩:=wj.mp hw;obtain⟨a,ha,q⟩:=YY φ r;have hs:Span (fun v=>∃ r∈rows,v =(fv r:Nat->F)) (fv r):=.of ⟨r,hr,rfl⟩;exact(hs.smul a).cast fun j=>(q j).symm
 | c+1=>by
  have ih:=zii φ k0 h c;have fine:=Fine.to k0 h c;show Sw n (c+1) _ (inF (kao k c (swTo k rows c)).1) ((kao k c (swTo k rows c)).2.map fv);generalize swTo k rows c=s at ih fine;have zr:∀ r∈s.2,((fv r c:F)=0↔r.getD c 0=0):=fun r hr=>XC φ (fine.wf r hr) c
  unfold kao;cases e:s.2.filter (fun r=>decide (r.getD c 0≠0))with
  | nil =>
   refine ih.skip fun w hw=>?_
   obtain⟨r,hr,rfl⟩:=wj.mp hw;rw[zr r hr];refine gw fun z=>?_
   have:r∈s.2.filter (fun r=>decide (r.getD c 0≠0)):=ve.mpr ⟨hr,by simpa using z⟩;rw[e]at this;exact nomatch this
  | cons l rest =>
   have mem:∀ r∈l::rest,r∈s.2/\r.getD c 0≠0:=fun r hr=>by
    rw[← e]at hr;obtain⟨h1,h2⟩:=ve.mp hr;exact⟨h1,by simpa using h2⟩
   obtain⟨hl,lz⟩:=mem l wp;have lc:(fv l c:F)≠0:=fun z=>lz ((zr l hl).mp z)
   have ll:=fine.wl l hl;have cl:∀ r,r.length=n->Clr c (fv l:Nat->F) (fv r) (fv (kaf k l c r)):=fun r hr=>zaY φ (by rw[hr,ll]) lc
   show Sw n (c+1) _ (inF (s.1.map (fun p=>(p.1,kaf k l c p.2))++[(c,l)])) ((s.2.filter (fun r=>decide (r.getD c 0=0))++rest.map (kaf k l c)).map fv);have e1:(inF (s.1.map (fun p=>(p.1,kaf k l c p.2))++[(c,l)]):List (Pv F))=s.1.map (fun p=>(p.1,fv (kaf k l c p.2)))++[(c,fv l)]:=by
    unfold inF;rw[wv,vm];rfl
   rw[e1];refine Sw.turn (E:=s.1) (a:=fun p=>(p.1,fv p.2)) (b:=fun p=>(p.1,fv (kaf k l c p.2))) ih (wj.mpr ⟨l,hl,rfl⟩) lc (fun p hp=>⟨rfl,cl p.2 (fine.dl p hp)⟩) (fun w hw=>?_) (fun w hw=>?_)
   ·obtain⟨r,hr,rfl⟩:=wj.mp hw
    rcases wq.mp hr with hr|hr
    ·obtain⟨h1,h2⟩:=ve.mp hr;exact .inl ⟨wj.mpr ⟨r,h1,rfl⟩,(zr r h1).mpr (by simpa using h2)⟩
    ·obtain⟨q,hq,rfl⟩:=wj.mp hr;have hq2:=(mem q (wr _ hq)).1;exact .inr ⟨fv q,wj.mpr ⟨q,hq2,rfl⟩,cl q (fine.wl q hq2)⟩
   ·obtain⟨r,hr,rfl⟩:=wj.mp hw
    by_cases z:r.getD c 0=0
    ·exact .inl (wj.mpr ⟨r,wQ _ (ve.mpr ⟨hr,by simpa using z⟩),rfl⟩)
    ·have hm:r∈l::rest:=by rw[← e];exact ve.mpr ⟨hr,by simpa using z⟩
     rcases wF.mp hm with q|q
     ·exact .inr (.inl (by rw[q]))
     ·exact .inr (.inr ⟨_,wj.mpr ⟨_,wE _ (wj.mpr ⟨r,q,rfl⟩),rfl⟩,cl r (fine.wl r hr)⟩)
abbrev RmI(F:Type)[Field F](rows:List (List Int)):(Nat->F)->Prop:=fun v=>∃ r∈rows,v=fv r
theorem zf9(φ:Kf k F)(k0:0<=k){n:Nat}{rows:List (List Int)}(h:∀ r∈rows,r.length=n) :
  Rr n ((swTo k rows n).1.map fun p=>(p.1,fun j=>(fv p.2 j / fv p.2 p.1:F))) /\
  (∀ v,Span (Rows ((swTo k rows n).1.map fun p=>(p.1,fun j=>(fv p.2 j / fv p.2 p.1:F)))) v->Span (RmI F rows) v)/\(∀ v,Span (RmI F rows) v->Span (Rows ((swTo k rows n).1.map fun p=>(p.1,fun j=>(fv p.2 j / fv p.2 p.1:F)))) v):=by
 have s:=zii φ k0 h n;have fine:=Fine.to k0 h n;have d:=s.done (fun w hw j hj=>by
  obtain⟨r,hr,rfl⟩:=wj.mp hw;exact zcG (by rw[fine.wl r hr];exact hj)) (fun p hp j hj=>by
  obtain⟨q,hq,rfl⟩:=wj.mp hp;exact zcG (by rw[fine.dl q hq];exact hj))
 have e:((inF (swTo k rows n).1:List (Pv F)).map fun p=>(p.1,fun j=>p.2 j / p.2 p.1)) =(swTo k rows n).1.map fun p=>(p.1,fun j=>(fv p.2 j / fv p.2 p.1:F)):=by
  unfold inF;rw[vm];rfl
 rw[e]at d;exact d
theorem qB(φ:Kf k F)(k0:0<=k){n:Nat}{rows:List (List Int)}(h:∀ r∈rows,r.length=n){p:Nat×List Int}(hp:p∈(swTo k rows n).1) :
  p.1<n/\p.2.length=n/\p.2.getD p.1 0≠0/\∀ j,j<p.1->p.2.getD j 0=0:=by
 have s:=zii φ k0 h n;have fine:=Fine.to k0 h n;have hm:((p.1,fv p.2):Pv F)∈inF (swTo k rows n).1:=wj.mpr ⟨p,hp,rfl⟩;have z:=fun j=>XC φ (fine.df p hp) j
 exact⟨s.lt _ hm,fine.dl p hp,fun e=>s.one _ hm ((z p.1).mpr e),fun j hj=>(z j).mp (s.bef _ hm j hj)⟩
end
end La
namespace La
open Lean.Grind Nm
section
variable{k:Int}{F:Type}[Field F]
theorem zL(h:kaa k)(w:Int):(nnum k w).ok k:=by
 unfold nnum
 split
 ·assumption
 ·rename_i n;have:=h.lt;exact⟨n,wy w (by omega),wH w (by omega)⟩
def OkR(k:Int)(xs:List Nb):Prop:=∀ x∈xs,x.ok k
def nv(φ:Kf k F)(xs:List Nb):Nat->F:=fun j=>φ.to (xs.getD j (nnum k 0))
theorem Kf.num0(φ:Kf k F):φ.to (nnum k 0)=0:=by rw[φ.num];exact ι_zero
theorem Kf.num1(φ:Kf k F):φ.to (nnum k 1)=1:=by rw[φ.num];exact ι_one
theorem Kf.inj(φ:Kf k F){x y:Nb}(hx:x.ok k)(hy:y.ok k)(h:φ.to x=φ.to y):x=y:=by rw[← φ.of_to x hx,← φ.of_to y hy,h]
theorem Kf.zero_iff(φ:Kf k F)(hk:kaa k){x:Nb}(hx:x.ok k):φ.to x=0↔x=nnum k 0 :=
 ⟨fun h=>φ.inj hx (zL hk 0) (by rw[h,φ.num0]),fun h=>by rw[h,φ.num0]⟩
theorem yh(φ:Kf k F){xs:List Nb}{j:Nat}(h:xs.length<=j):nv φ xs j=0:=by
 unfold nv;rw[we,vo h];exact φ.num0
theorem yf(φ:Kf k F){xs:List Nb}{j:Nat}{x:Nb}(h:xs[j]?=some x):nv φ xs j=φ.to x:=by
 unfold nv;rw[we,h];rfl
theorem zcu(φ:Kf k F){xs ys:List Nb}(hx:OkR k xs)(hy:OkR k ys)(hl:xs.length=ys.length)(h:∀ j,nv φ xs j=nv φ ys j):xs=ys:=by
 refine uD hl fun j h1 h2=>?_
 have e:=h j;rw[yf φ (wc h1),yf φ (wc h2)]at e;exact φ.inj (hx _ (wm h1)) (hy _ (wm h2)) e
def dot:Nat->(Nat->F)->(Nat->F)->F
 | 0,_,_=>0
 | n+1,u,v=>dot n u v+u n*v n
theorem zV{n:Nat}{u u' v v':Nat->F}(h:∀ j,j<n->u j*v j=u' j*v' j):dot n u v=dot n u' v':=by
 induction n with
 | zero=>rfl
 | succ n ih=>simp only[dot];rw[ih fun j hj=>h j (by omega),h n (by omega)]
theorem ju(a:F)(n:Nat)(u v:Nat->F):dot n (fun j=>a*u j) v=a*dot n u v:=by
 induction n with
 | zero=>simp only[dot];grind
 | succ n ih=>simp only[dot];rw[ih];grind
theorem Xj(n:Nat)(u u' v:Nat->F):dot n (fun j=>u j+u' j) v=dot n u v+dot n u' v:=by
 induction n with
 | zero=>simp only[dot];grind
 | succ n ih=>simp only[dot];rw[ih];grind
theorem yj(n:Nat)(u v:Nat->F):dot n u v=dot n v u:=zV fun j _=>by grind
theorem dot_zero(n:Nat)(u v:Nat->F)(h:∀ j,j<n->u j*v j=0):dot n u v=0:=by
 induction n with
 | zero=>rfl
 | succ n ih=>simp only[dot];rw[ih fun j hj=>h j (by omega),h n (by omega)];grind
def ndotF(k:Int)(l:List (Nb×Nb)):Nb:=l.foldl (fun s p=>nadd k s (nmul k p.1 p.2)) (nnum k 0)
def ndot(k:Int)(xs ys:List Nb):Nb:=ndotF k (xs.zip ys)
theorem yG{x y:Nb}(hk:kaa k)(hx:x.ok k)(hy:y.ok k):(nadd k x y).ok k:=by
 have hl:=hk.lt;cases x with
 | q r=>cases y with
  | q s=>exact hx
  | z j=>exact absurd (show k=0 from hx) hy.1
 | z i=>cases y with
  | q s=>exact absurd (show k=0 from hy) hx.1
  | z j=>exact⟨hx.1,wy _ (by have:=hx.1;omega),wH _ (by have:=hx.1;omega)⟩
theorem yB{x y:Nb}(hk:kaa k)(hx:x.ok k)(hy:y.ok k):(nmul k x y).ok k:=by
 have hl:=hk.lt;cases x with
 | q r=>cases y with
  | q s=>exact hx
  | z j=>exact absurd (show k=0 from hx) hy.1
 | z i=>cases y with
  | q s=>exact absurd (show k=0 from hy) hx.1
  | z j=>exact⟨hx.1,wy _ (by have:=hx.1;omega),wH _ (by have:=hx.1;omega)⟩
theorem ze2{x y:Nb}(hk:kaa k)(hx:x.ok k)(hy:y.ok k):(ndiv k x y).ok k:=by
 have hl:=hk.lt;cases x with
 | q r=>cases y with
  | q s=>exact hx
  | z j=>exact absurd (show k=0 from hx) hy.1
 | z i=>cases y with
  | q s=>exact absurd (show k=0 from hy) hx.1
  | z j=>exact⟨hx.1,wy _ (by have:=hx.1;omega),wH _ (by have:=hx.1;omega)⟩
theorem ZU(l:List (Nb×Nb))(p:Nb×Nb):ndotF k (l++[p])=nadd k (ndotF k l) (nmul k p.1 p.2):=by
 unfold ndotF;rw[gV];rfl
theorem qI(hk:kaa k):∀(l:List (Nb×Nb)),(∀ p∈l,p.1.ok k/\p.2.ok k)->(ndotF k l).ok k:=by
 intro l;unfold ndotF;have go:∀(l:List (Nb×Nb))(s:Nb),s.ok k->(∀ p∈l,p.1.ok k/\p.2.ok k)->(l.foldl (fun s p=>nadd k s (nmul k p.1 p.2)) s).ok k:=by
  intro l
  induction l with
  | nil=>intro s hs _;exact hs
  | cons p l ih=>intro s hs h;exact ih _ (yG hk hs (yB hk (h p wp).1 (h p wp).2)) fun q hq=>h q (wr _ hq)
 exact fun h=>go l _ (zL hk 0) h
theorem zbT{xs ys:List Nb}(hx:OkR k xs)(hy:OkR k ys):∀ p∈xs.zip ys,p.1.ok k/\p.2.ok k:=fun p hp=>by
 obtain⟨a,b⟩:=p;obtain⟨h1,h2⟩:=wT hp;exact⟨hx _ h1,hy _ h2⟩
theorem xU(hk:kaa k){xs ys:List Nb}(hx:OkR k xs)(hy:OkR k ys):(ndot k xs ys).ok k:=qI hk _ (zbT hx hy)
theorem QI(φ:Kf k F)(hk:kaa k){xs ys:List Nb}(hx:OkR k xs)(hy:OkR k ys)(hl:xs.length=ys.length):∀ i,i<=xs.length->φ.to (ndotF k ((xs.zip ys).take i))=dot i (nv φ xs) (nv φ ys)
 | 0,_=>by
  show φ.to (nnum k 0)=0;exact φ.num0
 | i+1,h=>by
  have h1:i<xs.length:=h;have h2:i<ys.length:=by omega
  have hz:i <(xs.zip ys).length:=by rw[vZ];omega
  rw[vR hz,ZU,waC];have ih:=QI φ hk hx hy hl i (by omega);have o1:=hx _ (wm h1);have o2:=hy _ (wm h2);rw[φ.add (qI hk _ fun p hp=>zbT hx hy p (vw hp)) (yB hk o1 o2),ih,φ.mul o1 o2];simp only[dot];rw[yf φ (wc h1),yf φ (wc h2)]
theorem qS(φ:Kf k F)(hk:kaa k){xs ys:List Nb}(hx:OkR k xs)(hy:OkR k ys)(hl:xs.length=ys.length):φ.to (ndot k xs ys)=dot xs.length (nv φ xs) (nv φ ys):=by
 have h:=QI φ hk hx hy hl xs.length (wu _);rw[wo (by rw[vZ];omega)]at h;exact h
def scW(b:Int):Nb->Int
 | .q r=>r.num*b.fdiv (r.den:Int)
 | .z i=>i
def dvB(b:Int):Nb->Prop
 | .q r=>(r.den:Int) ∣ b
 | .z _=>True
structure Scl(k:Int)(xs:List Nb)(ws:List Int)(b:Int):Prop where
 eq:ws=xs.map (scW b)
 pos:0<b
 one:k≠0->b=1
 dv:∀ x∈xs,dvB b x
theorem Scl.len{xs:List Nb}{ws:List Int}{b:Int}(s:Scl k xs ws b):ws.length=xs.length:=by rw[s.eq,wa]
theorem Scl.ne(φ:Kf k F)(hk:kaa k){xs:List Nb}{ws:List Int}{b:Int}(s:Scl k xs ws b):(ι b:F)≠0:=fun z=>by
 rw[φ.zero]at z
 by_cases k0:k=0
 ·rw[k0,Gm]at z;have:=s.pos;omega
 ·rw[s.one k0]at z;have:=wad (by decide) z
  rcases hk with h|h
  ·exact k0 h
  ·have:=h.lo;omega
theorem zjf(φ:Kf k F){b:Int}(one:k≠0->b=1){x:Nb}(hx:x.ok k)(dv:dvB b x):(ι (scW b x):F)=φ.to x*ι b:=by
 cases x with
 | q r =>
  have k0:k=0:=hx;have e:=φ.rat r k0;have d:(r.den:Int) ∣ b:=dv;have e2:=qb d (xY r);show(ι (r.num*b.fdiv (r.den:Int)):F)=_;rw[ι_mul,← e];have e3:(ι (b.fdiv (r.den:Int)):F)*ι (r.den:Int)=ι b:=by rw[← ι_mul,e2]
  grind
 | z i =>
  have k0:k≠0:=hx.1;rw[φ.rest i k0,one k0,ι_one];show(ι i:F)=_
  grind
theorem Scl.fv(φ:Kf k F){xs:List Nb}{ws:List Int}{b:Int}(s:Scl k xs ws b)(hx:OkR k xs)(j:Nat):(La.fv ws j:F)=nv φ xs j*ι b:=by
 rcases wO j xs.length with g|g
 ·have e:ws[j]?=some (scW b xs[j]):=by rw[s.eq,wk,wc g];rfl
  rw[yf φ (wc g),← zjf φ s.one (hx _ (wm g)) (s.dv _ (wm g))];unfold La.fv;rw[we,e];rfl
 ·rw[yh φ g,zcG (by rw[s.len];exact g)];grind
theorem zh4(n:Nat){ws vs:List Int}(h1:ws.length=n)(h2:vs.length=n):(ι (vy (·*·) ws vs).sum:F)=dot n (fv ws) (fv vs):=by
 have go:∀ i,i<=n->(ι ((vy (·*·) ws vs).take i).sum:F)=dot i (fv ws) (fv vs):=by
  intro i
  induction i with
  | zero=>intro _;rw[List.take_zero,wa2];exact ι_zero
  | succ i ih =>
   intro hi;have hz:i <(vy (·*·) ws vs).length:=by rw[wG];omega
   rw[vR hz,waL,ι_add,ih (by omega),vF];simp only[dot];have e1:(fv ws i:F)=ι (ws[i]'(by omega)):=by unfold fv;rw[we,wc (by omega)];rfl
   have e2:(fv vs i:F)=ι (vs[i]'(by omega)):=by unfold fv;rw[we,wc (by omega)];rfl
   rw[e1,e2,← ι_mul];simp
 have:=go n (wu _);rw[wo (by rw[wG];omega)]at this;exact this
theorem Qm(φ:Kf k F){b:Int}(h:(ι b:F)≠0):nnum k b≠nnum k 0:=fun z=>h (by rw[← φ.num,z,φ.num0])
theorem zjd(hk:kaa k){xs ys:List Nb}{ws vs:List Int}{b c:Int}(hl:xs.length=ys.length)(s1:Scl k xs ws b)(s2:Scl k ys vs c)(hx:OkR k xs)(hy:OkR k ys) :
  nnum k (b*c)≠nnum k 0/\ndiv k (nnum k (vy (·*·) ws vs).sum) (nnum k (b*c))=ndot k xs ys:=by
 obtain⟨F,_,_,⟨φ⟩⟩:=yi hk;have n1:=s1.ne φ hk;have n2:=s2.ne φ hk;have n3:(ι (b*c):F)≠0:=fun z=>by rw[ι_mul]at z;grind
 have nn:=Qm φ n3;refine⟨nn,φ.inj (ze2 hk (zL hk _) (zL hk _)) (xU hk hx hy) ?_⟩;rw[φ.div (zL hk _) (zL hk _) nn,φ.num,φ.num,qS φ hk hx hy hl,zh4 xs.length s1.len (by rw[s2.len,hl]),ι_mul];have e:dot xs.length (La.fv ws) (La.fv vs) =(ι b*ι c)*dot xs.length (nv φ xs) (nv φ ys):=by
  rw[← ju];exact zV fun j _=>by rw[s1.fv φ hx,s2.fv φ hy];grind
 rw[e];grind
def RmN(φ:Kf k F)(M:TB):(Nat->F)->Prop:=fun v=>∃ r∈M,v=nv φ r
def OkM(k:Int)(n:Nat)(M:TB):Prop:=∀ r∈M,r.length=n/\OkR k r
structure IsR(φ:Kf k F)(n:Nat)(R:TB)(ls:List Nat):Prop where
 ok:OkM k n R
 len:ls.length=R.length
 rr:Rr n (ls.zip (R.map (nv φ)))
structure kaw(φ:Kf k F)(n:Nat)(M R:TB)(ls:List Nat):Prop extends IsR φ n R ls where
 to:∀ v,Span (RmN φ M) v->Span (RmN φ R) v
 fro:∀ v,Span (RmN φ R) v->Span (RmN φ M) v
theorem YE{φ:Kf k F}{R:TB}{ls:List Nat}(h:ls.length=R.length)(v:Nat->F):Rows (ls.zip (R.map (nv φ))) v↔RmN φ R v:=by
 constructor
 ·rintro ⟨p,hp,rfl⟩
  obtain⟨a,b⟩:=p;obtain⟨r,hr,e⟩:=wj.mp (wT hp).2;exact⟨r,hr,e.symm⟩
 ·rintro ⟨r,hr,rfl⟩
  obtain⟨i,hi,e⟩:=wI hr;have h1:i<ls.length:=by omega
  have h2:i <(R.map (nv φ)).length:=by rw[wa];exact hi
  refine⟨(ls[i],(R.map (nv φ))[i]),?_,by simp[e]⟩;rw[← waC (h:=by rw[vZ];omega)];exact wm _
theorem IsR.rows{φ:Kf k F}{n:Nat}{R:TB}{ls:List Nat}(h:IsR φ n R ls){v:Nat->F}:Span (Rows (ls.zip (R.map (nv φ)))) v↔Span (RmN φ R) v :=
 ⟨fun q=>q.mono fun u=>(YE h.len u).mp,fun q=>q.mono fun u=>(YE h.len u).mpr⟩
theorem IsR.unique{φ:Kf k F}{n:Nat}{R R':TB}{ls ls':List Nat}(h:IsR φ n R ls)(h':IsR φ n R' ls')(s1:∀ v,Span (RmN φ R) v->Span (RmN φ R') v)(s2:∀ v,Span (RmN φ R') v->Span (RmN φ R) v):R=R'/\ls=ls':=by
 have e:=h.rr.unique h'.rr (fun v q=>h'.rows.mpr (s1 v (h.rows.mp q))) (fun v q=>h.rows.mpr (s2 v (h'.rows.mp q)));have el:=congrArg (waM Prod.fst) e;have er:=congrArg (waM Prod.snd) e;rw[gv (by rw[wa];exact gj h.len),gv (by rw[wa];exact gj h'.len)]at el;rw[waD (by rw[wa];exact gj h.len.symm),waD (by rw[wa];exact gj h'.len.symm)]at er;refine⟨?_,el⟩;have hl:R.length=R'.length:=by have:=congrArg vt er;simpa using this
 refine uD hl fun i h1 h2=>?_
 have e2:(R.map (nv φ))[i]'(by simpa using h1) =(R'.map (nv φ))[i]'(by simpa using h2):=by simp only[er]
 rw[uR,uR]at e2;have o1:=h.ok _ (wm h1);have o2:=h'.ok _ (wm h2);exact zcu φ o1.2 o2.2 (by rw[o1.1,o2.1]) fun j=>by rw[e2]
theorem kaw.unique{φ:Kf k F}{n:Nat}{M M' R R':TB}{ls ls':List Nat}(h:kaw φ n M R ls)(h':kaw φ n M' R' ls')(s1:∀ v,Span (RmN φ M) v->Span (RmN φ M') v)(s2:∀ v,Span (RmN φ M') v->Span (RmN φ M) v):R=R' :=
 (h.toIsR.unique h'.toIsR (fun v q=>h'.to v (s1 v (h.fro v q))) (fun v q=>h.to v (s2 v (h'.fro v q)))).1
def overL(k:Int)(p:Nat×List Int):List Nb:=p.2.map fun w=>ndiv k (nnum k w) (nnum k (p.2.getD p.1 0))
def redM(k:Int)(n:Nat)(Ws:List (List Int)):TB:=(swTo k Ws n).1.map (overL k)
def leadsM(k:Int)(n:Nat)(Ws:List (List Int)):List Nat:=(swTo k Ws n).1.map (·.1)
theorem YJ(φ:Kf k F)(hk:kaa k){n:Nat}{M:TB}{Ws:List (List Int)}(ok:OkM k n M)(hl:Ws.length=M.length)(hs:∀(i:Nat)(r:List Nb)(ws:List Int),M[i]?=some r->Ws[i]?=some ws->∃ b,Scl k r ws b) :
  kaw φ n M (redM k n Ws) (leadsM k n Ws):=by
 have k0:=hk.lt.1;have pair:∀ ws∈Ws,∃ r∈M,∃ b,Scl k r ws b:=fun ws hw=>by
  obtain⟨i,hi,e⟩:=wI hw;have h2:i<M.length:=by omega
  exact⟨M[i],wm h2,hs i M[i] ws (wc h2) (by rw[wc hi,e])⟩
 have pair2:∀ r∈M,∃ ws∈Ws,∃ b,Scl k r ws b:=fun r hr=>by
  obtain⟨i,hi,e⟩:=wI hr;have h2:i<Ws.length:=by omega
  exact⟨Ws[i],wm h2,hs i r Ws[i] (by rw[wc hi,e]) (wc h2)⟩
 have wl:∀ ws∈Ws,ws.length=n:=fun ws hw=>by
  obtain⟨r,hr,b,s⟩:=pair ws hw;rw[s.len,(ok r hr).1]
 obtain⟨rr,s1,s2⟩:=zf9 φ k0 wl;have sp1:∀ v,Span (RmI F Ws) v->Span (RmN φ M) v:=fun v q=>q.bind fun u ⟨ws,hw,e⟩=>by
  obtain⟨r,hr,b,s⟩:=pair ws hw;have:Span (RmN φ M) (nv φ r):=.of ⟨r,hr,rfl⟩;exact(this.smul (ι b)).cast fun j=>by rw[e,s.fv φ (ok r hr).2];grind
 have sp2:∀ v,Span (RmN φ M) v->Span (RmI F Ws) v:=fun v q=>q.bind fun u ⟨r,hr,e⟩=>by
  obtain⟨ws,hw,b,s⟩:=pair2 r hr;have:Span (RmI F Ws) (La.fv ws):=.of ⟨ws,hw,rfl⟩;have n:=s.ne φ hk;exact(this.smul (1 / ι b)).cast fun j=>by rw[e,s.fv φ (ok r hr).2];grind
 have rowv:∀ p∈(swTo k Ws n).1,(nv φ (overL k p):Nat->F)=fun j=>fv p.2 j / fv p.2 p.1:=fun p hp=>by
  obtain⟨p1,p2,p3,p4⟩:=qB φ k0 wl hp;have fine:=Fine.to k0 wl n;have ln:(ι (p.2.getD p.1 0):F)≠0:=fun z=>p3 ((XC φ (fine.df p hp) p.1).mp z)
  funext j
  rcases wO j p.2.length with g|g
  ·have e:(overL k p)[j]?=some (ndiv k (nnum k p.2[j]) (nnum k (p.2.getD p.1 0))):=by unfold overL;rw[wk,wc g];rfl
   rw[yf φ e,φ.div (zL hk _) (zL hk _) (Qm φ ln),φ.num,φ.num];show _=fv p.2 j / fv p.2 p.1;unfold fv;rw[we (l:=p.2) (i:=j),wc g];rfl
  ·rw[yh φ (by unfold overL;rw[wa];exact g)];show _=fv p.2 j / fv p.2 p.1;rw[zcG g];grind
 have zz:(leadsM k n Ws).zip ((redM k n Ws).map (nv φ)) =(swTo k Ws n).1.map fun p=>(p.1,fun j=>(fv p.2 j / fv p.2 p.1:F)):=by
  unfold leadsM redM;rw[vm,List.zip_map',List.map_inj_left];intro p hp;show(p.1,nv φ (overL k p))=_;rw[rowv p hp]
 have hlen:(leadsM k n Ws).length =(redM k n Ws).length:=by unfold leadsM redM;rw[wa,wa]
 refine⟨⟨fun r hr=>?_,hlen,by rw[zz];exact rr⟩,fun v q=>?_,fun v q=>?_⟩
 ·obtain⟨p,hp,rfl⟩:=wj.mp hr;obtain⟨p1,p2,p3,p4⟩:=qB φ k0 wl hp;refine⟨by unfold overL;rw[wa];exact p2,fun x hx=>?_⟩;obtain⟨w,_,rfl⟩:=wj.mp hx;exact ze2 hk (zL hk _) (zL hk _)
 ·have:=s2 v (sp2 v q);rw[← zz]at this;exact this.mono fun u=>(YE hlen u).mp
 ·refine sp1 v (s1 v ?_);rw[← zz];exact q.mono fun u=>(YE hlen u).mpr
end
end La
namespace Nm
theorem php:∀(n:Nat)(f:Nat->Nat),(∀ i,i<n+1->f i<n)->∃ i j,i<j/\j<n+1/\f i=f j
 | 0,f,h=>absurd (h 0 (by omega)) (by omega)
 | n+1,f,h=>by
  by_cases c:∃ i,i<n+1/\f i=f (n+1)
  ·obtain⟨i,hi,e⟩:=c;exact⟨i,n+1,hi,by omega,e⟩
  have c':∀ i,i<n+1->f i≠f (n+1):=fun i hi e=>c ⟨i,hi,e⟩
  have hv:=h (n+1) (by omega);obtain⟨i,j,hij,hj,e⟩:=php n (fun i=>if f i=n then f (n+1)else f i) (fun i hi=>by
   have h1:=h i (by omega);have h2:=c' i hi
   split <;> omega)
  refine⟨i,j,hij,by omega,?_⟩;have hi:=c' i (by omega);have hj':=c' j (by omega)
  split at e <;> split at e <;> omega
theorem onto{n:Nat}{f:Nat->Nat}(hf:∀ i,i<n->f i<n)(inj:∀ i j,i<j->j<n->f i≠f j){r:Nat}(hr:r<n):∃ i,i<n/\f i=r:=by
 cases Classical.em (∃ i,i<n/\f i=r)with
 | inl h=>exact h
 | inr h =>
  exfalso
  obtain⟨m,rfl⟩ : ∃ m,n=m+1:=⟨n - 1,by omega⟩;obtain⟨i,j,hij,hj,e⟩:=php m (fun i=>if f i=m then r else f i) (fun i hi=>by
   have h1:=hf i (by omega);have h2:f i≠r:=fun e=>h ⟨i,by omega,e⟩
   split <;> omega)
  have h1:f i≠r:=fun e=>h ⟨i,by omega,e⟩
  have h2:f j≠r:=fun e=>h ⟨j,by omega,e⟩
  have h3:=inj i j hij (by omega)
  split at e <;> split at e <;> omega
theorem za7{p a x y:Nat}(hx:a^x % p=1 % p)(hy:a^y % p=1 % p):a^(x % y) % p=1 % p:=by
 have e:a^x =(a^y)^(x / y)*a^(x % y):=by rw[← GZ,← uK,GR]
 have h1:(a^y)^(x / y) % p=1 % p:=by rw[gD,hy,← gD,wa9]
 rw[e,Gb,h1,← Gb,uS]at hx;exact hx
theorem zid{p a:Nat}:∀ x y,a^x % p=1 % p->a^y % p=1 % p->a^(uG x y) % p=1 % p:=fun x y=>by
 induction x,y using uG.induction with
 | H0 n=>intro _ h;rw[Nat.gcd_zero_left];exact h
 | H1 m n hm ih =>
  intro hx hy;rw[wba];exact ih (za7 hy hx) hx
theorem zfr{Q q' M g:Nat}(hQ:∀ h,h<=Q->h ∣ Q->h=Q\/h ∣ q')(Q0:0<Q)(hg:g ∣ Q*M)(hn:¬ g ∣ q'*M):Q ∣ g:=by
 have h1:uG g Q ∣ Q:=Gz _ _
 rcases hQ _ (waf Q0 h1) h1 with e|e
 ·rw[← e];exact GL _ _
 ·exfalso
  apply hn
  have h2:g ∣ uG (g*M) (Q*M):=Nat.dvd_gcd (waw _ _) hg;rw[Nat.gcd_mul_right]at h2;exact Ga h2 (Nat.mul_dvd_mul_right e M)
def pw(p:Nat):Nat->Nat->Nat->Nat
 | 0,_,_=>1 % p
 | f+1,a,n=>if n=0 then 1 % p else if n % 2=1 then pw p f (a*a % p) (n / 2)*a % p else pw p f (a*a % p) (n / 2)
theorem pw_eq(p:Nat):∀ f a n,n<2^f->pw p f a n=a^n % p
 | 0,a,n,h=>by
  have:n=0:=by simpa using h
  subst this;rfl
 | f+1,a,n,h=>by
  have e:a^n =(a*a)^(n / 2)*a^(n % 2):=by rw[← wbb,← GZ,← uK,GR]
  have ih:=pw_eq p f (a*a % p) (n / 2) (by rw[gm]at h;omega);unfold pw
  split
  ·rename_i z;subst z;rfl
  ·split
   ·rename_i z;rw[ih,← gD,e,z,wbc,Nat.mod_mul_mod]
   ·rename_i z;rw[ih,← gD,e,show n % 2=0 by omega,wan,Gu]
def gp:Nat:=2305843009213693951
theorem ziB(N:Nat)(h:N=2305843009213693950):37^N % gp=1 % gp:=by
 rw[← pw_eq gp 61 37 N (by rw[h];decide),h];decide +kernel
theorem zj4(N:Nat)(h:N=2305843009213693950):∀ q∈[2,3,5,7,11,13,31,41,61,151,331,1321],37^(N / q) % gp≠1 % gp:=by
 intro q hq;rw[← pw_eq gp 61 37 _ (uH (Nat.div_le_self _ _) (by rw[h];decide))];subst h
 revert q
 decide +kernel
set_option maxHeartbeats 1000000 in
theorem zi2{d:Nat}(h0:0<d)(h1:d<2305843009213693950)(h:37^d % gp=1 % gp):False:=by
 obtain⟨N,hN⟩ : ∃ N,N=2305843009213693950:=⟨_,rfl⟩;have hg:=zid d N h (ziB N hN);have dl:uG d N ∣ N:=Gz _ _;have dd:uG d N ∣ d:=GL _ _;generalize uG d N=g at *;have no:∀ q∈[2,3,5,7,11,13,31,41,61,151,331,1321],∀ y,y*q=N->0<q->¬ g ∣ y:=fun q hq y hy q0 ⟨m,e⟩=>by
  refine zj4 N hN q hq ?_;rw[← hy,Nat.mul_div_cancel _ q0,e,GZ,gD,hg,← gD,wa9]
 have fl:∀ Q q' M q:Nat,q∈[2,3,5,7,11,13,31,41,61,151,331,1321]->(∀ h,h<=Q->h ∣ Q->h=Q\/h ∣ q')->0<Q->0<q->Q*M=N->q'*M*q=N->Q ∣ g:=fun Q q' M q hq h Q0 q0 e1 e2 =>
  zfr h Q0 (by rw[e1];exact dl) (no q hq _ e2 q0)
 clear hg h no dl;subst hN;have a1:2 ∣ g:=fl 2 1 1152921504606846975 2 (by decide) (by decide +kernel) (by decide) (by decide) (by decide) (by decide);have a2:9 ∣ g:=fl 9 3 256204778801521550 3 (by decide) (by decide +kernel) (by decide) (by decide) (by decide) (by decide);have a3:25 ∣ g:=fl 25 5 92233720368547758 5 (by decide) (by decide +kernel) (by decide) (by decide) (by decide) (by decide);have a4:7 ∣ g:=fl 7 1 329406144173384850 7 (by decide) (by decide +kernel) (by decide) (by decide) (by decide) (by decide);have a5:11 ∣ g:=fl 11 1 209622091746699450 11 (by decide) (by decide +kernel) (by decide) (by decide) (by decide) (by decide);have a6:13 ∣ g:=fl 13 1 177372539170284150 13 (by decide) (by decide +kernel) (by decide) (by decide) (by decide) (by decide);have a7:31 ∣ g:=fl 31 1 74382032555280450 31 (by decide) (by decide +kernel) (by decide) (by decide) (by decide) (by decide);have a8:41 ∣ g:=fl 41 1 56240073395455950 41 (by decide) (by decide +kernel) (by decide) (by decide) (by decide) (by decide);have a9:61 ∣ g:=fl 61 1 37800705069076950 61 (by decide) (by decide +kernel) (by decide) (by decide) (by decide) (by decide);have a10:151 ∣ g:=fl 151 1 15270483504726450 151 (by decide) (by decide +kernel) (by decide) (by decide) (by decide) (by decide);have a11:331 ∣ g:=fl 331 1 6966293079195450 331 (by decide) (by decide +kernel) (by decide) (by decide) (by decide) (by decide);have a12:1321 ∣ g:=fl 1321 1 1745528394559950 1321 (by decide) (by decide +kernel) (by decide) (by decide) (by decide) (by decide);clear fl;have mk:∀ x y z:Nat,Nat.Coprime x y->x*y=z->x ∣ g->y ∣ g->z ∣ g:=fun x y z h e p q=>e ▸ Nat.Coprime.mul_dvd_of_dvd_of_dvd h p q
 have c:=mk 2 9 18 (by decide +kernel) (by decide) a1 a2;have c:=mk 18 25 450 (by decide +kernel) (by decide) c a3;have c:=mk 450 7 3150 (by decide +kernel) (by decide) c a4;have c:=mk 3150 11 34650 (by decide +kernel) (by decide) c a5;have c:=mk 34650 13 450450 (by decide +kernel) (by decide) c a6;have c:=mk 450450 31 13963950 (by decide +kernel) (by decide) c a7;have c:=mk 13963950 41 572521950 (by decide +kernel) (by decide) c a8;have c:=mk 572521950 61 34923838950 (by decide +kernel) (by decide) c a9;have c:=mk 34923838950 151 5273499681450 (by decide +kernel) (by decide) c a10;have c:=mk 5273499681450 331 1745528394559950 (by decide +kernel) (by decide) c a11;have c:=mk 1745528394559950 1321 2305843009213693950 (by decide +kernel) (by decide) c a12;have e:2305843009213693950 ∣ g:=c;exact absurd (waf h0 (Ga e dd)) (Nat.not_le_of_lt h1)
theorem zhA(i:Nat):uG gp (37^i % gp)=1:=by
 rw[wa3,← wba,wa3];exact Nat.Coprime.pow_left i (by decide +kernel)
theorem zgI(r:Nat)(h0:0<r)(h1:r<gp):uG gp r=1:=by
 have cancel:∀ i j,i<j->j<2305843009213693950->37^i % gp≠37^j % gp:=fun i j hij hj e=>by
  have e1:37^j=37^i*37^(j - i):=by rw[← uK];congr 1;omega
  have d:gp ∣ 37^j - 37^i:=Nat.dvd_of_mod_eq_zero (Nat.sub_mod_eq_zero_of_mod_eq e.symm);rw[e1,show 37^i*37^(j - i) - 37^i=37^i *(37^(j - i) - 1) by rw[wbe,Gu]]at d;have c:Nat.Coprime gp (37^i):=(Nat.Coprime.pow_left i (by decide +kernel:Nat.Coprime 37 gp)).symm;have d':=c.dvd_of_dvd_mul_left d;refine zi2 (d:=j - i) (by omega) (by omega) ?_;obtain⟨c,hc⟩:=d';have h1:1<=37^(j - i):=Nat.one_le_pow _ _ (by decide);rw[show 37^(j - i)=1+gp*c by omega,Nat.add_mul_mod_self_left]
 have pos:∀ i,0<37^i % gp:=fun i=>by
  have:=zhA i
  rcases gQ (37^i % gp)with z|z
  ·rw[z,Nat.gcd_zero_right]at this;exact absurd this (by decide)
  ·exact z
 obtain⟨i,_,e⟩:=onto (n:=2305843009213693950) (f:=fun i=>37^i % gp - 1) (fun i _=>by
   have h:37^i % gp<2305843009213693951:=wag _ (by decide);have:=pos i;show 37^i % gp - 1<_;omega) (fun i j hij hj e=>by
   have:=pos i;have:=pos j;have:=cancel i j hij hj;omega) (r:=r - 1) (by have:r<2305843009213693951:=h1;omega)
 have:=pos i;have e':37^i % gp=r:=by omega
 rw[← e'];exact zhA i
theorem zjB:Pr 2305843009213693951:=⟨by decide,by decide,fun r h0 h1=>by
 have:=zgI r.toNat (by omega) (by show r.toNat<2305843009213693951;omega);rw[uB,show r.natAbs=r.toNat by omega];exact this⟩
end Nm
namespace La
open Lean.Grind Nm
section
variable{k:Int}
theorem zew(l:List Int)(w:Int):gcdL (l++[w])=uG (gcdL l) w.natAbs:=by unfold gcdL;rw[gV];rfl
theorem zaU(l l':List Int):gcdL (l++l') ∣ gcdL l:=by unfold gcdL;rw[gV];exact(qu l' _).1
theorem zfQ{ws:List Int}{i:Nat}(h:gcdL (ws.take i)=1):gcdL ws=1:=by
 have:=zaU (ws.take i) (ws.drop i);rw[List.take_append_drop,h]at this;exact Nat.dvd_one.mp this
theorem zds{ws:List Int}(h:gcdL ws=1):kam 0 ws=ws:=by
 unfold kam;rw[if_neg (by simp),if_neg (by omega),h];have:(fun w:Int=>w.fdiv ((1:Nat):Int))=id:=funext fun w=>Int.fdiv_one w
 rw[this,List.map_id]
theorem zcZ{ws:List Int}(h:gcdL ws=0):kam 0 ws=ws:=by
 unfold kam;rw[if_neg (by simp),if_pos h]
theorem zdF{ws:List Int}(h:gcdL ws≠0):kam 0 ws=ws.map fun w=>w.fdiv ((gcdL ws:Nat):Int):=by
 unfold kam;rw[if_neg (by simp),if_neg h]
theorem zc9(h:k≠0)(ws:List Int):kam k ws=ws.map (·.fmod k):=by
 unfold kam;rw[if_pos h]
theorem Zk(rows:List (List Int)):∀ c,(swTo k rows c).1.length +(swTo k rows c).2.length=rows.length
 | 0=>by show 0 +(rows.map (kam k)).length=_;rw[wa];omega
 | c+1=>by
  have ih:=Zk rows c;show(kao k c (swTo k rows c)).1.length +(kao k c (swTo k rows c)).2.length=_;generalize swTo k rows c=s at ih;unfold kao;cases e:s.2.filter (fun r=>decide (r.getD c 0≠0))with
  | nil=>exact ih
  | cons l rest =>
   show(s.1.map _++[(c,l)]).length +(s.2.filter _++rest.map _).length=_;have h1:(s.2.filter (fun r=>decide (r.getD c 0≠0))).length=rest.length+1:=by rw[e];rfl
   have h2:∀ l:List (List Int),(l.filter (fun r=>decide (r.getD c 0≠0))).length +(l.filter (fun r=>decide (r.getD c 0=0))).length=l.length:=by
    intro l
    induction l with
    | nil=>rfl
    | cons x l ih =>
     rw[uE,uE]
     by_cases z:x.getD c 0=0
     ·simp only[z,ne_eq,not_true_eq_false,decide_false,decide_true,if_true,vO];simp only[wai,if_false];simp only[ne_eq]at ih;omega
     ·simp only[z,ne_eq,not_false_eq_true,decide_false,decide_true,if_true,vO];simp only[wai,if_false];simp only[ne_eq]at ih;omega
   have h3:=h2 s.2;simp only[wD,wa,vO,Gg];omega
theorem zcz:∀ c,swTo k [] c =([],[])
 | 0=>rfl
 | c+1=>by
  show kao k c (swTo k [] c)=_;rw[zcz c];rfl
theorem xt{α:Type}{l:List α}{i:Nat}{x:α}(p:α->Bool)(h:l[i]?=some x):(l.take (i+1)).filter p =(l.take i).filter p ++(if p x=true then [x] else []):=by
 obtain⟨hi,e⟩:=ww.mp h;rw[vR hi,List.filter_append,e,uE,List.filter_nil]
theorem zfV{ws:List Int}{p:Nat}(hp:p<ws.length)(hz:∀ j,j<p->ws.getD j 0=0)(hn:ws.getD p 0≠0):(ws.filter fun w=>decide (w≠0))[0]?=some (ws.getD p 0):=by
 induction ws generalizing p with
 | nil=>simp at hp
 | cons w ws ih =>
  cases p with
  | zero =>
   have h:w≠0:=by simpa using hn
   rw[uE,if_pos (by simpa using h)];simp
  | succ p =>
   have h0:w=0:=by simpa using hz 0 (Nat.succ_pos p)
   rw[uE,if_neg (by simp[h0])];have:=ih (p:=p) (by simpa using hp) (fun j hj=>by have:=hz (j+1) (by omega);simpa using this) (by simpa using hn);rw[this];simp
end
end La
namespace La
open Lean.Grind Nm
def dB(D B:Nat):Nb->Prop
 | .q r=>∃ a:Int,r *((D:Int):Rat) =((a:Int):Rat)/\a.natAbs<=B
 | .z _=>True
theorem dB.mul{k:Int}{D B D' B':Nat}{x y:Nb}(hx:dB D B x)(hy:dB D' B' y)(ox:x.ok k)(oy:y.ok k):dB (D*D') (B*B') (nmul k x y):=by
 cases x with
 | q r =>
  cases y with
  | q s =>
   obtain⟨a,ea,ha⟩:=hx;obtain⟨b,eb,hb⟩:=hy;refine⟨a*b,?_,?_⟩
   ·have e1:(((D*D':Nat):Int):Rat) =((D:Int):Rat) *((D':Int):Rat):=by rw[uY,vh]
    rw[e1,vh,← ea,← eb]
    grind
   ·rw[vG];exact vY ha hb
  | z j=>exact absurd (show k=0 from ox) oy.1
 | z i =>
  cases y with
  | q s=>exact absurd (show k=0 from oy) ox.1
  | z j=>trivial
theorem dB.add{k:Int}{D B B':Nat}{x y:Nb}(hx:dB D B x)(hy:dB D B' y)(ox:x.ok k)(oy:y.ok k):dB D (B+B') (nadd k x y):=by
 cases x with
 | q r =>
  cases y with
  | q s =>
   obtain⟨a,ea,ha⟩:=hx;obtain⟨b,eb,hb⟩:=hy;refine⟨a+b,?_,?_⟩
   ·rw[GS,← ea,← eb]
    grind
   ·have:=Gx a b;omega
  | z j=>exact absurd (show k=0 from ox) oy.1
 | z i =>
  cases y with
  | q s=>exact absurd (show k=0 from oy) ox.1
  | z j=>trivial
theorem dB.mono{D B B':Nat}{x:Nb}(hx:dB D B x)(h:B<=B'):dB D B' x:=by
 cases x with
 | q r=>obtain⟨a,ea,ha⟩:=hx;exact⟨a,ea,wN ha h⟩
 | z i=>trivial
theorem dB.num{k w:Int}{D B:Nat}(h:w.natAbs*D<=B):dB D B (nnum k w):=by
 unfold nnum
 split
 ·refine⟨w*D,by rw[vh],?_⟩;rw[vG,vS];exact h
 ·trivial
theorem dB.parts{r:Rat}{D B:Nat}(hD:D≠0)(h:dB D B (.q r)):r.den<=D/\r.num.natAbs<=B:=by
 obtain⟨a,ea,ha⟩:=h;have e0:=kfRat.rat r rfl;have e0':r *((r.den:Int):Rat) =((r.num:Int):Rat):=e0;have e1:r.num *(D:Int)=a *(r.den:Int):=by
  have:((r.num *(D:Int):Int):Rat) =((a *(r.den:Int):Int):Rat):=by
   rw[vh,vh,← e0',← ea]
   grind
  exact GT.mp this
 have e2:r.num.natAbs*D=a.natAbs*r.den:=by
  have:=congrArg Int.natAbs e1;rw[vG,vG,vS,vS]at this;exact this
 have cop:Nat.Coprime r.den r.num.natAbs:=(GM.mp r.reduced);have dv:r.den ∣ D:=cop.dvd_of_dvd_mul_left ⟨a.natAbs,by rw[e2,gR]⟩;have le:r.den<=D:=waf (by omega) dv;refine⟨le,?_⟩;have h1:r.num.natAbs*D<=a.natAbs*D:=by rw[e2];exact wU _ le
 have h2:r.num.natAbs<=a.natAbs:=Nat.le_of_mul_le_mul_right h1 (by omega);omega
section
variable{k:Int}{F:Type}[Field F]
theorem yk{α:Type}{l:List α}{i:Nat}{x y:α}(h:y∈l.set i x):y=x\/y∈l:=by
 rcases List.mem_or_eq_of_mem_set h with h|h
 ·exact .inr h
 ·exact .inl h
theorem zi1{φ:Kf k F}{f:Nb->Nb}{xs:List Nb}(g:F->F)(h0:g 0=0)(h:∀ x∈xs,φ.to (f x)=g (φ.to x))(j:Nat):nv φ (xs.map f) j=g (nv φ xs j):=by
 rcases wO j xs.length with l|l
 ·rw[yf φ (x:=f xs[j]) (by rw[wk,wc l];rfl),yf φ (wc l),h _ (wm l)]
 ·rw[yh φ (by rw[wa];exact l),yh φ l,h0]
theorem zg4{φ:Kf k F}{f:Nb->Nb->Nb}{xs ys:List Nb}(hl:xs.length=ys.length)(g:F->F->F)(h0:g 0 0=0)(h:∀ x∈xs,∀ y∈ys,φ.to (f x y)=g (φ.to x) (φ.to y))(j:Nat):nv φ (vy f xs ys) j=g (nv φ xs j) (nv φ ys j):=by
 rcases wO j xs.length with l|l
 ·have l2:j<ys.length:=by omega
  rw[yf φ (x:=f xs[j] ys[j]) (by rw[vz,wc l,wc l2]),yf φ (wc l),yf φ (wc l2),h _ (wm l) _ (wm l2)]
 ·rw[yh φ (by rw[wG];omega),yh φ l,yh φ (by omega),h0]
end
end La
namespace La
open Lean.Grind Nm
section
variable{k:Int}{F:Type}[Field F]
theorem zby{n l:Nat}{u v:Nat->F}(hl:l<n)(h:∀ j,j<n->j≠l->u j*v j=0):dot n u v=u l*v l:=by
 induction n with
 | zero=>exact absurd hl (ug l)
 | succ n ih =>
  simp only[dot]
  by_cases e:l=n
  ·subst e;rw[dot_zero l u v fun j hj=>h j (by omega) (by omega)];grind
  ·rw[ih (by omega) fun j hj ne=>h j (by omega) ne,h n (by omega) (Ne.symm e)];grind
theorem Zc(n:Nat)(u v w:Nat->F):dot n u (fun j=>v j+w j)=dot n u v+dot n u w:=by
 rw[yj,Xj,yj n v,yj n w]
theorem ZR(a:F)(n:Nat)(u v:Nat->F):dot n u (fun j=>a*v j)=a*dot n u v:=by
 rw[yj,ju,yj n v]
theorem Span.dot_zero{S:(Nat->F)->Prop}{n:Nat}{x v:Nat->F}(h:Span S v)(z:∀ r,S r->dot n r x=0):dot n v x=0 :=
 h.all (P:=fun v=>dot n v x=0) (La.dot_zero n _ _ fun j _=>by grind) fun c r v hr hv=>by
  rw[Xj n (fun j=>c*r j) v x,ju,z r hr,hv];grind
theorem ziJ{α β:Type}{xs:List α}{ys:List β}{i:Nat}{a:α}{b:β}(h1:xs[i]?=some a)(h2:ys[i]?=some b):(a,b)∈xs.zip ys :=
 wg (i:=i) (by rw[uO];exact⟨h1,h2⟩)
def trF(n:Nat)(A:TB):TB:=(wV n).map fun j=>A.map fun r=>r.getD j (.z 0)
def kar(l:Nat)(c:F):Nat->F:=fun j=>if j=l then c else 0
theorem qz{n l:Nat}(hl:l<n)(u:Nat->F)(c:F):dot n u (kar l c)=c*u l:=by
 rw[zby hl fun j hj ne=>by unfold kar;rw[if_neg ne];grind];unfold kar;rw[if_pos rfl];grind
end
end La
namespace La
open Lean.Grind Nm
def rowD(D B:Nat)(xs:List Nb):Prop:=∀ x∈xs,dB D (2^B - 1) x
def rowB(B:Nat)(xs:List Nb):Prop:=∃ D:Nat,D≠0/\D<2^B/\rowD D B xs
def kap(B:Nat)(M:TB):Prop:=∀ r∈M,rowB B r
theorem rowB.mono{B C:Nat}{xs:List Nb}(h:rowB B xs)(hc:B<=C):rowB C xs:=by
 obtain⟨D,d0,d1,hd⟩:=h;have:2^B<=2^C:=vv (by decide) hc;exact⟨D,d0,by omega,fun x hx=>(hd x hx).mono (by omega)⟩
theorem kap.mono{B C:Nat}{M:TB}(h:kap B M)(hc:B<=C):kap C M:=fun r hr=>(h r hr).mono hc
theorem kap.app{B:Nat}{M N:TB}(h:kap B M)(g:kap B N):kap B (M++N):=fun r hr=>by
 rcases wq.mp hr with q|q
 ·exact h r q
 ·exact g r q
theorem dB.den_dvd{D B:Nat}{r:Rat}(hD:D≠0)(h:dB D B (.q r)):(r.den:Int) ∣ (D:Int):=by
 obtain⟨a,ea,ha⟩:=h;have e0':r *((r.den:Int):Rat) =((r.num:Int):Rat):=kfRat.rat r rfl;have e1:r.num *(D:Int)=a *(r.den:Int):=by
  have:((r.num *(D:Int):Int):Rat) =((a *(r.den:Int):Int):Rat):=by
   rw[vh,vh,← e0',← ea]
   grind
  exact GT.mp this
 have e2:r.num.natAbs*D=a.natAbs*r.den:=by
  have:=congrArg Int.natAbs e1;rw[vG,vG,vS,vS]at this;exact this
 have cop:Nat.Coprime r.den r.num.natAbs:=(GM.mp r.reduced);have dv:r.den ∣ D:=cop.dvd_of_dvd_mul_left ⟨a.natAbs,by rw[e2,gR]⟩;exact Int.ofNat_dvd.mpr dv
theorem zd7{D B:Nat}{b:Int}{x:Nb}{k:Int}(hk:kaa k)(ox:x.ok k)(h7:61<=B)(hD:D≠0)(h:dB D (2^B - 1) x)(hb:0<b)(hx:dvB b x)(hd:k=0->b ∣ (D:Int)):(scW b x).natAbs<2^B:=by
 have p2:0<2^B:=Gc (by decide);cases x with
 | q r =>
  obtain⟨a,ea,ha⟩:=h;obtain⟨e,he⟩:=hd ox;have hdv:(r.den:Int) ∣ b:=hx;have e1:=qb hdv (xY r);have e0':r *((r.den:Int):Rat) =((r.num:Int):Rat):=kfRat.rat r rfl;have key:a=scW b (.q r)*e:=by
   show a=r.num*b.fdiv (r.den:Int)*e;generalize b.fdiv (r.den:Int)=u at *;have hDD:((D:Int):Rat) =(u:Rat) *((r.den:Int):Rat) *(e:Rat):=by rw[he,← e1,vh,vh]
   have:((a:Int):Rat) =((r.num*u*e:Int):Rat):=by
    rw[vh,vh,← ea,← e0',hDD];generalize ((r.den:Int):Rat)=dd
    grind
   exact GT.mp this
  have ene:e≠0:=fun z=>by rw[z,Gk]at he;omega
  have:(scW b (.q r)).natAbs<=a.natAbs:=by
   rw[key,vG];exact uz _ (gh.mpr ene)
  omega
 | z i =>
  have:=hk.lt;obtain⟨_,i0,i1⟩:=ox;show i.natAbs<2^B;have:2^61<=2^B:=vv (by decide) h7;have:(2:Nat)^61=2305843009213693952:=by decide
  omega
theorem zh1{b d D:Int}(hb:0<b)(hd:0<d)(h1:b ∣ D)(h2:d ∣ D):b.fdiv ((vf b d:Nat):Int)*d ∣ D:=by
 have g0:0 <((vf b d:Nat):Int):=by have:=Gp d (show b≠0 by omega);omega
 have db:((vf b d:Nat):Int) ∣ b:=gu b d;have dd:((vf b d:Nat):Int) ∣ d:=gU b d;have e1:=qb db (by omega);have e2:=qb dd (by omega);have cop:vf (b.fdiv ((vf b d:Nat):Int)) (d.fdiv ((vf b d:Nat):Int))=1:=by
  rw[vL db,vL dd,waZ db dd,vS];exact wa0 (by omega)
 generalize hx:b.fdiv ((vf b d:Nat):Int)=x at *;generalize hy:d.fdiv ((vf b d:Nat):Int)=y at *;generalize hg:((vf b d:Nat):Int)=g at *;obtain⟨s,hs⟩:=h1;obtain⟨t,ht⟩:=h2;have e3:x*s=y*t:=by
  have:g *(x*s)=g *(y*t):=by
   have h:x*g*s=y*g*t:=by rw[e1,e2,← hs,← ht]
   grind
  exact Int.eq_of_mul_eq_mul_left (by omega) this
 have dv:y ∣ s:=by
  have:y ∣ x*s:=⟨t,e3⟩;have h1:y.natAbs ∣ x.natAbs*s.natAbs:=by rw[← vG];exact waa.mpr this
  have c1:Nat.Coprime y.natAbs x.natAbs:=by
   have:uG x.natAbs y.natAbs=1:=cop;exact(GM.mp this)
  exact waa.mp (c1.dvd_of_dvd_mul_left h1)
 obtain⟨u,hu⟩:=dv;refine⟨u,?_⟩;rw[hs,hu,← e1,← e2]
 grind
theorem zc6{k:Int}(hk:kaa k){B p:Nat}{ws:List Int}(h:∀ w∈ws,w.natAbs<2^B)(hp:p<ws.length)(ne:ws.getD p 0≠0)(nn:nnum k (ws.getD p 0)≠nnum k 0):rowB B (overL k (p,ws)):=by
 have hl:ws.getD p 0∈ws:=by
  rw[we,wc hp];exact wm hp
 have p2:0<2^B:=Gc (by decide);have hlb:=h _ hl;refine⟨(ws.getD p 0).natAbs,by omega,hlb,fun x hx=>?_⟩;unfold overL at hx;obtain⟨w,hw,rfl⟩:=wj.mp hx;show dB (ws.getD p 0).natAbs (2^B - 1) (ndiv k (nnum k w) (nnum k (ws.getD p 0)));generalize hL:ws.getD p 0=l at *
 by_cases k0:k=0
 ·subst k0;have hwb:=h w hw;have e1:nnum 0 w=.q (w:Rat):=rfl;have e2:nnum 0 l=.q (l:Rat):=rfl;rw[e1,e2];show ∃ a:Int,(w:Rat) / (l:Rat) *(((l.natAbs:Nat):Int):Rat) =((a:Int):Rat)/\a.natAbs<=2^B - 1;have nl:(l:Rat)≠0:=fun z=>ne (uA.mp z)
  rcases Int.le_total 0 l with s|s
  ·refine⟨w,?_,by omega⟩;rw[show((l.natAbs:Nat):Int)=l by omega]
   grind
  ·refine⟨-w,?_,by omega⟩;rw[show((l.natAbs:Nat):Int) = -l by omega,waN,waN]
   grind
 ·have e1:nnum k w=.z (w.fmod k):=by unfold nnum;rw[if_neg k0]
  have e2:nnum k l=.z (l.fmod k):=by unfold nnum;rw[if_neg k0]
  rw[e1,e2]
  trivial
end La
namespace La
open Lean.Grind Nm
section
variable{k:Int}{F:Type}[Field F]
abbrev Rm(φ:Kf k F)(M:TB):(Nat->F)->Prop:=Span (RmN φ M)
def perp(n:Nat)(U:(Nat->F)->Prop):(Nat->F)->Prop:=fun v=>(∀ j,n<=j->v j=0)/\∀ u,U u->dot n u v=0
variable{φ:Kf k F}{n:Nat}{R R' A:TB}{ls ls':List Nat}
theorem IsR.supp(h:IsR φ n R ls){v:Nat->F}(hv:Rm φ R v)(j:Nat)(hj:n<=j):v j=0:=h.rr.out_of (h.rows.mpr hv) j hj
theorem IsR.ext(h:IsR φ n R ls)(h':IsR φ n R' ls')(e:∀ v,Rm φ R v↔Rm φ R' v):R=R':=(h.unique h' (fun v=>(e v).mp) (fun v=>(e v).mpr)).1
theorem IsR.get(h:IsR φ n R ls){i l:Nat}{r:List Nb}(hl:ls[i]?=some l)(hr:R[i]?=some r):(l,nv φ r)∈ls.zip (R.map (nv φ)):=ziJ hl (by rw[wk,hr];rfl)
theorem IsR.lead_of(h:IsR φ n R ls){l:Nat}(hl:l∈ls):∃(i:Nat)(r:List Nb),ls[i]?=some l/\R[i]?=some r:=by
 obtain⟨i,hi,e⟩:=wI hl;have h2:i<R.length:=by rw[← h.len];exact hi
 exact⟨i,R[i],by rw[wc hi,e],wc h2⟩
theorem IsR.row_of(h:IsR φ n R ls){r:List Nb}(hr:r∈R):∃(i l:Nat),ls[i]?=some l/\R[i]?=some r:=by
 obtain⟨i,hi,e⟩:=wI hr;have h2:i<ls.length:=by rw[h.len];exact hi
 exact⟨i,ls[i],wc h2,by rw[wc hi,e]⟩
theorem zh6(n:Nat)(u v w:Nat->F):dot n u (fun j=>v j - w j)=dot n u v - dot n u w:=by
 have:(fun j=>v j - w j)=fun j=>v j +(-1)*w j:=funext fun j=>by grind
 rw[this,Zc n u v (fun j=>(-1)*w j),ZR];grind
theorem Span.dot_zero_r{S:(Nat->F)->Prop}{x v:Nat->F}(h:Span S v)(z:∀ r,S r->dot n x r=0):dot n x v=0:=by
 rw[yj];exact h.dot_zero fun r hr=>by rw[yj];exact z r hr
theorem QK(h:IsR φ n R ls)(hk:kaa k)(v:Nat->F):perp n (perp n (Rm φ R)) v↔Rm φ R v:=by
 constructor
 ·intro hv;have cR:Rm φ R (comb (ls.zip (R.map (nv φ))) v):=h.rows.mp (Xq v _);have ag:∀ f,f<n->f∉ls->∃ a:Nat->F,perp n (Rm φ R) a/\a f=1/\∀ j,j≠f->j∉ls->a j=0:=fun f hf nf=>by
   let a:Nat->F:=fun j=>if j=f then 1 else comb (ls.zip (R.map (nv φ))) (fun _=>0) j +(if hj:j∈ls then - (nv φ ((R.getD (ls.idxOf j) [])) f)else 0)
   have a0:∀ j,j≠f->j∉ls->a j=0:=fun j hj hn=>by
    show(if j=f then 1 else _)=_;rw[if_neg hj,dif_neg hn,xf _ j _ fun p _=>by grind];grind
   have al:∀(i l:Nat)(r:List Nb),ls[i]?=some l->R[i]?=some r->a l = - nv φ r f:=fun i l r hl hr=>by
    have lf:l≠f:=fun e=>nf (by rw[← e];exact wg hl)
    have hm:=wg hl;have nd:ls.Nodup:=by
     have:=h.rr.inc;rw[← uQ (f:=Prod.fst) (R:=(·<·)),gv (by rw[wa];exact gj h.len)]at this;exact this.imp fun h=>vd h
    have ei:ls.idxOf l=i:=by
     have h1:ls[ls.idxOf l]?=some l:=by rw[wc (Gq hm)];simp
     exact(GA (Gq hm) nd).mp (h1.trans hl.symm)
    show(if l=f then 1 else _)=_;rw[if_neg lf,dif_pos hm,xf _ l _ fun p _=>by grind,ei,we,hr];show 0 + -(nv φ r f)=_
    grind
   refine⟨a,⟨fun j hj=>a0 j (by omega) fun hm=>?_,fun u hu=>?_⟩,by show(if f=f then 1 else _)=_;rw[if_pos rfl],a0⟩
   ·obtain⟨i,r,hl,hr⟩:=h.lead_of hm;have:j<n:=h.rr.lt _ (h.get hl hr);omega
   ·refine hu.dot_zero fun s ⟨r,hr,e⟩=>?_
    rw[e];obtain⟨i,l,hl,hi⟩:=h.row_of hr;have hp:=h.get hl hi;have ln:l<n:=h.rr.lt _ hp;have lf:l≠f:=fun e=>nf (by rw[← e];exact wg hl)
    have af:a f=1:=by show(if f=f then 1 else _)=_;rw[if_pos rfl]
    have e:dot n (nv φ r) a=dot n (nv φ r) (kar f 1)+dot n (nv φ r) (kar l (- nv φ r f)):=by
     rw[← Zc];refine zV fun j hj=>?_
     unfold kar
     by_cases e1:j=f
     ·subst e1;rw[if_pos rfl,if_neg (Ne.symm lf),af];grind
     ·by_cases e2:j=l
      ·subst e2;rw[if_neg lf,if_pos rfl,al i j r hl hi];grind
      ·rw[if_neg e1,if_neg e2]
       by_cases hm:j∈ls
       ·obtain⟨i',r',hl',hi'⟩:=h.lead_of hm;have:nv φ r j=0:=h.rr.oth _ hp _ (h.get hl' hi') (Ne.symm e2);rw[this];grind
       ·rw[a0 j e1 hm];grind
    have o:nv φ r l=1:=h.rr.one _ hp;rw[e,qz hf,qz ln,o];grind
  have lead:∀ l,l∈ls->comb (ls.zip (R.map (nv φ))) v l=v l:=fun l hl=>by
   obtain⟨i,r,h1,h2⟩:=h.lead_of hl;have hp:=h.get h1 h2;have gen:∀(P:List (Pv F)),P.Pairwise (fun a b=>a.1<b.1)->(∀ p∈P,p∈ls.zip (R.map (nv φ)))->(∃ p∈P,p.1=l)->comb P v l=v l*1:=by
    intro P
    induction P with
    | nil=>intro _ _ ⟨p,hp,_⟩;exact nomatch hp
    | cons p P ih =>
     intro pw hm hex;rw[uJ]at pw;have hp0:=hm p wp;simp only[comb]
     by_cases ep:p.1=l
     ·have o:p.2 p.1=1:=h.rr.one _ hp0;rw[xf v l P fun q hq=>?_]
      ·rw[← ep,o];grind
      ·have hq0:=hm q (wr _ hq);have:p.1<q.1:=pw.1 q hq;have z:q.2 p.1=0:=h.rr.oth q hq0 p hp0 (by omega);rw[← ep,z];grind
     ·obtain⟨q,hq,eq⟩:=hex
      rcases wF.mp hq with z|z
      ·rw[z]at eq;exact absurd eq ep
      ·have hq0:=hm q (wr _ z);have z2:p.2 q.1=0:=h.rr.oth p hp0 q hq0 (by rw[eq];exact ep);rw[ih pw.2 (fun r hr=>hm r (wr _ hr)) ⟨q,z,eq⟩,← eq,z2];grind
   rw[gen _ h.rr.inc (fun p hp=>hp) ⟨_,hp,rfl⟩];grind
  refine cR.cast fun j=>?_
  rcases wO j n with hj|hj
  ·by_cases hm:j∈ls
   ·exact lead j hm
   ·obtain⟨a,pa,af,a0⟩:=ag j hj hm;have d0:dot n a (fun j=>v j - comb (ls.zip (R.map (nv φ))) v j)=0:=by
     have h1:dot n a v=0:=hv.2 a pa;have h2:dot n a (comb (ls.zip (R.map (nv φ))) v)=0:=by rw[yj];exact pa.2 _ cR
     rw[zh6,h1,h2];grind
    rw[zby hj fun t ht ne=>?_,af]at d0
    ·grind
    ·by_cases tm:t∈ls
     ·rw[lead t tm];grind
     ·rw[a0 t ne tm];grind
  ·rw[h.supp cR j hj,hv.1 j hj]
 ·intro hv;exact⟨fun j hj=>h.supp hv j hj,fun u hu=>by rw[yj];exact hu.2 v hv⟩
end
end La
namespace La
open Lean.Grind Nm
section
variable{k:Int}{F:Type}[Field F]{φ:Kf k F}{n:Nat}
theorem qK(hk:kaa k):∀ {xs:List Nb},OkR k xs->∃ b,Scl k xs (xs.map (scW b)) b:=by
 intro xs ox
 by_cases k0:k=0
 ·have:∃ b:Int,0<b/\∀ x∈xs,dvB b x:=by
   induction xs with
   | nil=>exact⟨1,by decide,fun x hx=>nomatch hx⟩
   | cons x xs ih =>
    obtain⟨b,b0,hb⟩:=ih fun y hy=>ox y (wr _ hy)
    cases x with
    | z i=>exact absurd k0 (ox (.z i) wp).1
    | q r =>
     refine⟨b *(r.den:Int),Gv b0 (den_pos r),fun y hy=>?_⟩
     rcases wF.mp hy with e|hy
     ·rw[e];exact waE _ _
     ·have:=hb y hy;cases y with
      | q s=>exact waS (show(s.den:Int) ∣ b from this) (war _ _)
      | z j=>trivial
  obtain⟨b,b0,hb⟩:=this;exact⟨b,rfl,b0,fun z=>absurd k0 z,hb⟩
 ·refine⟨1,rfl,by decide,fun _=>rfl,fun x hx=>?_⟩;have o:=ox x hx;cases x with
  | q r=>exact absurd o k0
  | z i=>trivial
theorem ZS(φ:Kf k F)(hk:kaa k){M:TB}(oM:OkM k n M):∃ R ls,kaw φ n M R ls:=by
 have:∃ Ws:List (List Int),Ws.length=M.length/\∀(i:Nat)(r:List Nb)(ws:List Int),M[i]?=some r->Ws[i]?=some ws->∃ b,Scl k r ws b:=by
  induction M with
  | nil=>exact⟨[],rfl,fun i r ws h=>by simp at h⟩
  | cons m M ih =>
   obtain⟨Ws,l,h⟩:=ih fun r hr=>oM r (wr _ hr)
   obtain⟨b,hb⟩:=qK hk (oM m wp).2;refine⟨m.map (scW b)::Ws,by simp[l],fun i r ws h1 h2=>?_⟩;cases i with
   | zero=>simp at h1 h2;subst h1 h2;exact⟨b,hb⟩
   | succ i=>exact h i r ws (by simpa using h1) (by simpa using h2)
 obtain⟨Ws,l,h⟩:=this;exact⟨_,_,YJ φ hk oM l h⟩
def ofV(φ:Kf k F)(n:Nat)(v:Nat->F):List Nb:=(wV n).map fun j=>φ.of (v j)
theorem zhy(v:Nat->F):(ofV φ n v).length=n/\OkR k (ofV φ n v):=by
 refine⟨by unfold ofV;simp,fun x hx=>?_⟩;unfold ofV at hx;obtain⟨j,_,rfl⟩:=wj.mp hx;exact φ.ok _
theorem zjG{v:Nat->F}(hv:∀ j,n<=j->v j=0)(j:Nat):nv φ (ofV φ n v) j=v j:=by
 rcases wO j n with h|h
 ·rw[yf φ (x:=φ.of (v j)) (by unfold ofV;rw[wk,vH h];rfl),φ.to_of]
 ·rw[yh φ (by rw[(zhy (φ:=φ) v).1];exact h),hv j h]
theorem jQ:∀ {P Q:List Nat},P.Pairwise (·<·)->Q.Pairwise (·<·)->(∀ p∈P,p∈Q)->(∀ q∈Q,q∈P)->P=Q
 | [],[],_,_,_,_=>rfl
 | [],q::_,_,_,_,h=>nomatch h q wp
 | p::_,[],_,_,h,_=>nomatch h p wp
 | p::P,q::Q,hP,hQ,h1,h2=>by
  rw[uJ]at hP hQ;have e:p=q:=by
   rcases wF.mp (h1 p wp)with e|m
   ·exact e
   ·rcases wF.mp (h2 q wp)with e|m'
    ·exact e.symm
    ·have:=hP.1 q m';have:=hQ.1 p m;omega
  subst e;rw[jQ hP.2 hQ.2 (fun r hr=>?_) (fun r hr=>?_)]
  ·rcases wF.mp (h1 r (wr _ hr))with e|m
   ·subst e;exact absurd (hP.1 r hr) (vM _)
   ·exact m
  ·rcases wF.mp (h2 r (wr _ hr))with e|m
   ·subst e;exact absurd (hQ.1 r hr) (vM _)
   ·exact m
theorem qo(p:Nat->Bool):∀ l:List Nat,(l.filter p).length +(l.filter fun x=>!p x).length=l.length
 | []=>rfl
 | x::l=>by
  have ih:=qo p l;rw[uE,uE];cases h:p x <;> simp <;> omega
variable{U W:TB}{lu lw:List Nat}
theorem IsR.inc(h:IsR φ n U lu):lu.Pairwise (·<·):=by
 have:=h.rr.inc;rw[← uQ (f:=Prod.fst) (R:=(·<·)),gv (by rw[wa];exact gj h.len)]at this;exact this
theorem IsR.lead_iff(h:IsR φ n U lu)(p:Nat):p∈lu↔∃ v,Rm φ U v/\(∀ j,j<p->v j=0)/\v p≠0:=by
 constructor
 ·intro hp;obtain⟨i,r,h1,h2⟩:=h.lead_of hp;have hm:=h.get h1 h2;have o:nv φ r p=1:=h.rr.one _ hm;exact⟨nv φ r,.of ⟨r,wg h2,rfl⟩,h.rr.bef _ hm,by rw[o];exact fun e=>Field.zero_ne_one e.symm⟩
 ·rintro ⟨v,hv,z,ne⟩
  obtain⟨q,hq,e⟩:=h.rr.lead (h.rows.mpr hv) z ne;rw[← e];exact(wT (show(q.1,q.2)∈_ from hq)).1
theorem IsR.zero(h:IsR φ n U lu){v:Nat->F}(hv:Rm φ U v)(z:∀ l∈lu,v l=0)(j:Nat):v j=0:=by
 rw[← h.rr.comb (h.rows.mpr hv) j];exact xf v j _ fun p hp=>by
  rw[z p.1 (wT (show(p.1,p.2)∈_ from hp)).1];grind
theorem IsR.take_off(h:IsR φ n U lu)(v:Nat->F):∃ u,Rm φ U u/\∀ l∈lu,u l=v l:=by
 refine⟨comb (lu.zip (U.map (nv φ))) v,h.rows.mp (Xq v _),fun l hl=>?_⟩;obtain⟨i,r,h1,h2⟩:=h.lead_of hl;have hp:=h.get h1 h2;have gen:∀(P:List (Pv F)),P.Pairwise (fun a b=>a.1<b.1)->(∀ p∈P,p∈lu.zip (U.map (nv φ)))->(∃ p∈P,p.1=l)->comb P v l=v l*1:=by
  intro P
  induction P with
  | nil=>intro _ _ ⟨p,hp,_⟩;exact nomatch hp
  | cons p P ih =>
   intro pw hm hex;rw[uJ]at pw;have hp0:=hm p wp;simp only[comb]
   by_cases ep:p.1=l
   ·have o:p.2 p.1=1:=h.rr.one _ hp0;rw[xf v l P fun q hq=>?_]
    ·rw[← ep,o];grind
    ·have hq0:=hm q (wr _ hq);have:p.1<q.1:=pw.1 q hq;have z:q.2 p.1=0:=h.rr.oth q hq0 p hp0 (by omega);rw[← ep,z];grind
   ·obtain⟨q,hq,eq⟩:=hex
    rcases wF.mp hq with z|z
    ·rw[z]at eq;exact absurd eq ep
    ·have hq0:=hm q (wr _ z);have z2:p.2 q.1=0:=h.rr.oth p hp0 q hq0 (by rw[eq];exact ep);rw[ih pw.2 (fun r hr=>hm r (wr _ hr)) ⟨q,z,eq⟩,← eq,z2];grind
 rw[gen _ h.rr.inc (fun p hp=>hp) ⟨_,hp,rfl⟩];grind
end
end La
namespace La
open Lean.Grind Nm
section
variable{k:Int}{F:Type}[Field F]{φ:Kf k F}{n:Nat}
theorem Span.read{S:(Nat->F)->Prop}{v:Nat->F}{t:Nat}{f:Nat->Nat}{g:Nat->F}(h:Span S v)(hr:∀ r,S r->r t=dot n (fun i=>r (f i)) g):v t=dot n (fun i=>v (f i)) g:=by
 refine h.all (P:=fun v=>v t=dot n (fun i=>v (f i)) g) ?_ fun c r v q e=>?_
 ·exact(La.dot_zero n _ g fun j _=>by grind).symm
 ·show c*r t+v t=dot n (fun i=>c*r (f i)+v (f i)) g;rw[Xj n (fun i=>c*r (f i)) (fun i=>v (f i)),ju c n (fun i=>r (f i)),← hr r q,← e]
theorem zfA{xs ys:List Nb}(j:Nat):nv φ (xs++ys) j=if j<xs.length then nv φ xs j else nv φ ys (j - xs.length):=by
 unfold nv
 split
 ·rename_i h;rw[we,wW h,← we]
 ·rename_i h;rw[we,wZ (by omega),← we]
theorem JD{xs:List Nb}{m j:Nat}(h:j<m):nv φ (xs.take m) j=nv φ xs j:=by
 unfold nv;rw[we,GD h,← we]
theorem zbS{xs:List Nb}{m:Nat}(j:Nat):nv φ (xs.drop m) j=nv φ xs (m+j):=by
 unfold nv;rw[we,uV,← we]
def kaj(k:Int)(n i:Nat):List Nb:=(wV n).map fun j=>if i=j then nnum k 1 else nnum k 0
def kak(k:Int)(n:Nat):TB:=(wV n).map (kaj k n)
theorem ZG(hk:kaa k)(n i:Nat):(kaj k n i).length=n/\OkR k (kaj k n i):=by
 refine⟨by unfold kaj;simp,fun x hx=>?_⟩;obtain⟨j,_,rfl⟩:=wj.mp hx
 split
 ·exact zL hk 1
 ·exact zL hk 0
theorem xL{i:Nat}(h:i<n):(kak k n)[i]?=some (kaj k n i):=by unfold kak;rw[wk,vH h];rfl
theorem yH(hk:kaa k)(n:Nat):OkM k n (kak k n)/\(kak k n).length=n:=by
 refine⟨fun r hr=>?_,by unfold kak;simp⟩;obtain⟨i,_,rfl⟩:=wj.mp hr;exact ZG hk n i
theorem qx{i:Nat}(hi:i<n)(j:Nat):nv φ (kaj k n i) j=kar i 1 j:=by
 unfold kar
 rcases wO j n with h|h
 ·rw[yf φ (x:=if i=j then nnum k 1 else nnum k 0) (by unfold kaj;rw[wk,vH h];rfl)]
  split
  ·rename_i e;subst e;rw[if_pos rfl];exact φ.num1
  ·rename_i e;rw[if_neg (Ne.symm e)];exact φ.num0
 ·rw[yh φ (by unfold kaj;simp;exact h),if_neg (by omega)]
def kan(k:Int)(n:Nat)(M:TB):TB:=vy (·++·) M (kak k n)
theorem ZI{M:TB}(lM:M.length=n){i:Nat}{m:List Nb}(h:M[i]?=some m):(kan k n M)[i]?=some (m++kaj k n i):=by
 have hi:i<n:=by rw[← lM];exact(ww.mp h).1
 unfold kan;rw[vz,h,xL hi]
theorem Je{M:TB}(lM:M.length=n){r:List Nb}(h:r∈kan k n M):∃ i m,i<n/\M[i]?=some m/\r=m++kaj k n i:=by
 obtain⟨i,hi,e⟩:=wI h;have l:i<n:=by
  unfold kan at hi;rw[wG]at hi;omega
 refine⟨i,M[i],l,wc (by omega),?_⟩;have:=ZI (k:=k) lM (wc (show i<M.length by omega));rw[wc hi,e]at this;exact Option.some.inj this
theorem Zx(hk:kaa k){M:TB}(oM:OkM k n M)(lM:M.length=n):OkM k (n+n) (kan k n M)/\(kan k n M).length=n:=by
 refine⟨fun r hr=>?_,by unfold kan;rw[wG,(yH hk n).2];omega⟩;obtain⟨i,m,hi,hm,rfl⟩:=Je lM hr;have o:=oM m (wg hm);have u:=ZG hk n i;refine⟨by rw[wD,o.1,u.1],fun x hx=>?_⟩
 rcases wq.mp hx with h|h
 ·exact o.2 x h
 ·exact u.2 x h
theorem Xd(hk:kaa k){M:TB}(oM:OkM k n M){i:Nat}{m:List Nb}(h:M[i]?=some m)(hi:i<n):(∀ j,j<n->nv φ (m++kaj k n i) j=nv φ m j)/\∀ t,nv φ (m++kaj k n i) (n+t)=kar i 1 t:=by
 have o:=oM m (wg h);refine⟨fun j hj=>by rw[zfA,if_pos (by omega)],fun t=>?_⟩;rw[zfA,if_neg (by omega),o.1,GO,qx hi]
theorem zbc(hk:kaa k){M:TB}(oM:OkM k n M)(lM:M.length=n){v:Nat->F}(hv:Rm φ (kan k n M) v){j:Nat}(hj:j<n):v j=dot n (fun i=>v (n+i)) (fun i=>nv φ (M.getD i []) j):=by
 refine Span.read hv fun r ⟨x,hx,e⟩=>?_
 obtain⟨i,m,hi,hm,rfl⟩:=Je lM hx;obtain⟨h1,h2⟩:=Xd (φ:=φ) hk oM hm hi;rw[e,h1 j hj,show(fun t=>nv φ (m++kaj k n i) (n+t))=kar i 1 from funext h2,yj,qz hi];have:M.getD i []=m:=by rw[we,hm];rfl
 rw[this];grind
theorem zdE(hk:kaa k){R:TB}(hU:R.map (uu n)=kak k n){v:Nat->F}(hv:Rm φ R v)(t:Nat):v (n+t)=dot n v (fun p=>nv φ (R.getD p []) (n+t)):=by
 refine Span.read (f:=fun p=>p) hv fun r ⟨x,hx,e⟩=>?_
 obtain⟨p,hp,ep⟩:=wI hx;have lR:R.length=n:=by have:=congrArg vt hU;rw[wa,(yH hk n).2]at this;exact this
 have hpn:p<n:=by omega
 have eu:x.take n=kaj k n p:=by
  have:=congrArg (fun l=>l[p]?) hU;simp only[wk]at this;rw[wc hp,ep,xL hpn]at this;exact Option.some.inj this
 have:R.getD p []=x:=by rw[we,wc hp,ep];rfl
 rw[e];have h1:dot n (fun i=>nv φ x i) (fun p=>nv φ (R.getD p []) (n+t))=dot n (kar p 1) (fun p=>nv φ (R.getD p []) (n+t)):=zV fun j hj=>by rw[← qx (φ:=φ) hpn,← eu,JD hj]
 rw[h1,yj,qz hpn,this];grind
end
end La
namespace La
open Lean.Grind Nm
section
variable{k:Int}{F:Type}[Field F]{φ:Kf k F}{n:Nat}
theorem zgC(φ:Kf k F)(hk:kaa k){M R:TB}{ls:List Nat}(oM:OkM k n M)(red:kaw φ n M R ls):R.length<=M.length:=by
 have:∃ Ws:List (List Int),Ws.length=M.length/\∀(i:Nat)(r:List Nb)(ws:List Int),M[i]?=some r->Ws[i]?=some ws->∃ b,Scl k r ws b:=by
  clear red
  induction M with
  | nil=>exact⟨[],rfl,fun i r ws h=>by simp at h⟩
  | cons m M ih =>
   obtain⟨Ws,l,h⟩:=ih fun r hr=>oM r (wr _ hr)
   obtain⟨b,hb⟩:=qK hk (oM m wp).2;refine⟨m.map (scW b)::Ws,by simp[l],fun i r ws h1 h2=>?_⟩;cases i with
   | zero=>simp at h1 h2;subst h1 h2;exact⟨b,hb⟩
   | succ i=>exact h i r ws (by simpa using h1) (by simpa using h2)
 obtain⟨Ws,l,h⟩:=this;have eR:R=redM k n Ws:=red.unique (YJ φ hk oM l h) (fun v q=>q) (fun v q=>q);have:=Zk (k:=k) Ws n;rw[eR];unfold redM;rw[wa];omega
theorem zgr{ls:List Nat}(inc:ls.Pairwise (·<·))(all:∀ p,p<n->p∈ls)(len:ls.length<=n):ls=wV n:=by
 have h1:ls.filter (fun x=>decide (x<n))=wV n:=jQ (inc.filter _) gX (fun p hp=>by
  rw[ve]at hp;exact vA.mpr (of_decide_eq_true hp.2)) (fun q hq=>by
  have:=vA.mp hq;rw[ve];exact⟨all q this,decide_eq_true this⟩)
 have h2:=qo (fun x=>decide (x<n)) ls;rw[h1,uv]at h2;have h3:ls.filter (fun x=>!decide (x<n))=[]:=vN (by omega);rw[List.filter_eq_nil_iff]at h3;rw[← h1];refine(List.filter_eq_self.mpr fun x hx=>?_).symm;have:=h3 x hx
 simpa using this
theorem zbr(hk:kaa k){M:TB}(oM:OkM k n M)(lM:M.length=n){v:Nat->F}(h:Rm φ M v):∃ w,Rm φ (kan k n M) w/\∀ j,j<n->w j=v j:=by
 refine h.all (P:=fun v=>∃ w,Rm φ (kan k n M) w/\∀ j,j<n->w j=v j) ⟨fun _=>0,.zero,fun _ _=>rfl⟩ fun c r v ⟨x,hx,e⟩ ⟨w,hw,ew⟩=>?_
 obtain⟨i,hi,ei⟩:=wI hx;have hg:M[i]?=some x:=by rw[wc hi,ei]
 have b:=ZI (k:=k) lM hg;refine⟨fun j=>c*nv φ (x++kaj k n i) j+w j,.step c ⟨_,wg b,rfl⟩ hw,fun j hj=>?_⟩
 dsimp only
 rw[(Xd (φ:=φ) hk oM hg (by omega)).1 j hj,ew j hj,e]
theorem zg1{M:TB}(oM:OkM k n M){v:Nat->F}(h:Rm φ M v){j:Nat}(hj:n<=j):v j=0 :=
 Span.zero_at h fun r ⟨x,hx,e⟩=>by rw[e,yh φ (by rw[(oM x hx).1];exact hj)]
theorem zeu(hk:kaa k){M R:TB}{ls:List Nat}(oM:OkM k n M)(lM:M.length=n)(red:kaw φ (n+n) (kan k n M) R ls)(all:∀ p,p<n->∃ v,Rm φ M v/\(∀ j,j<p->v j=0)/\v p≠0):R.map (uu n)=kak k n:=by
 have lR:=zgC φ hk (Zx hk oM lM).1 red;rw[(Zx hk oM lM).2]at lR;have h:=red.toIsR;have el:ls=wV n:=zgr h.inc (fun p hp=>by
  obtain⟨v,hv,z,ne⟩:=all p hp;obtain⟨w,hw,e⟩:=zbr hk oM lM hv;exact(h.lead_iff p).mpr ⟨w,red.to w hw,fun j hj=>by rw[e j (by omega),z j hj],by rw[e p hp];exact ne⟩) (by rw[h.len];exact lR)
 have hl:R.length=n:=by rw[← h.len,el,uv]
 refine uD (by rw[wa,hl,(yH hk n).2]) fun p h1 h2=>?_
 have hp:p<n:=by rw[wa]at h1;omega
 have e2:(kak k n)[p]=kaj k n p:=by
  have:=xL (k:=k) hp;rw[wc h2]at this;exact Option.some.inj this
 rw[uR,e2];have o:=h.ok _ (wm (show p<R.length by omega));have u:=ZG hk n p;refine zcu φ (fun x hx=>o.2 x (vw hx)) u.2 (by rw[wt,o.1,u.1];omega) fun j=>?_
 have lp:∀ q,q<n->ls[q]?=some q:=fun q hq=>by rw[el,vH hq]
 rcases wO j n with hj|hj
 ·rw[JD hj,qx hp];have m1:=h.get (lp p hp) (wc (show p<R.length by omega));have m2:=h.get (lp j hj) (wc (show j<R.length by omega));unfold kar
  split
  ·rename_i e;subst e;exact h.rr.one _ m1
  ·rename_i e;exact h.rr.oth _ m1 _ m2 (Ne.symm e)
 ·rw[yh φ (by rw[wt];omega),yh φ (by rw[u.1];exact hj)]
theorem Qa(φ:Kf k F)(hk:kaa k)(n:Nat):IsR φ n (kak k n) (wV n):=by
 have mem:∀ p∈(wV n).zip ((kak k n).map (nv φ)),p.1<n/\p.2=kar p.1 1:=fun p hp=>by
  obtain⟨i,hi,e⟩:=wI hp;have hin:i<n:=by rw[vZ,uv]at hi;omega
  have:((wV n).zip ((kak k n).map (nv φ)))[i]?=some (i,nv φ (kaj k n i)):=by
   rw[uO];exact⟨vH hin,by rw[wk,xL hin];rfl⟩
  rw[wc hi,e]at this;rw[Option.some.inj this];exact⟨hin,funext fun j=>qx hin j⟩
 refine⟨(yH hk n).1,by rw[uv,(yH hk n).2],?_,fun p hp=>(mem p hp).1,fun p hp j hj=>?_,fun p hp j hj=>?_,fun p hp=>?_,fun p hp q hq ne=>?_⟩
 ·rw[← uQ (f:=Prod.fst) (R:=(·<·)),gv (by rw[wa,uv,(yH hk n).2];exact wu _)];exact gX
 ·rw[(mem p hp).2];unfold kar;rw[if_neg (by have:=(mem p hp).1;omega)]
 ·rw[(mem p hp).2];unfold kar;rw[if_neg (by omega)]
 ·rw[(mem p hp).2];unfold kar;rw[if_pos rfl]
 ·rw[(mem p hp).2];unfold kar;rw[if_neg (Ne.symm ne)]
end
end La
namespace La
open Lean.Grind Nm
section
variable{k:Int}{F:Type}[Field F]{φ:Kf k F}
theorem zbZ(n:Nat)(c:Nat->F)(b:Nat->Nat->F)(a:Nat->F):∀ m,dot m a (fun i=>dot n (b i) c)=dot n (fun j=>dot m a (fun i=>b i j)) c
 | 0=>by
  rw[dot_zero n (fun j=>dot 0 a fun i=>b i j) c fun j _=>by simp only[dot];grind]
  rfl
 | m+1=>by
  have e:dot n (fun j=>dot (m+1) a (fun i=>b i j)) c=dot n (fun j=>dot m a (fun i=>b i j)) c+dot n (fun j=>a m*b m j) c:=by
   rw[← Xj]
   rfl
  rw[e,← zbZ n c b a m,ju]
  rfl
def imgR(k:Int)(M:TB)(x:List Nb):List Nb:=M.map fun r=>ndot k r x
def prodR(k:Int)(c:Nat)(M N:TB):TB:=M.map fun r=>(trF c N).map fun col=>ndot k r col
theorem Qv(hk:kaa k){n:Nat}{M:TB}{x:List Nb}(oM:OkM k n M)(ox:OkR k x):(imgR k M x).length=M.length/\OkR k (imgR k M x):=by
 refine⟨by unfold imgR;rw[wa],fun y hy=>?_⟩;unfold imgR at hy;obtain⟨r,hr,rfl⟩:=wj.mp hy;exact xU hk (oM r hr).2 ox
theorem ziq(n:Nat)(M:TB):(trF n M).length=n:=by unfold trF;simp
theorem ziM{n i:Nat}{M:TB}(h:i<n):(trF n M)[i]?=some (M.map fun r=>r.getD i (.z 0)):=by unfold trF;simp[h]
theorem zjj{n j:Nat}{M:TB}(h:OkM k n M)(hj:j<n):(M.map fun r=>r.getD j (.z 0)).length=M.length/\OkR k (M.map fun r=>r.getD j (.z 0)):=by
 refine⟨wa _,fun x hx=>?_⟩;obtain⟨row,hrow,rfl⟩:=wj.mp hx;obtain⟨h1,h2⟩:=h row hrow;have hj':j<row.length:=by omega
 rw[we,wc hj'];exact h2 _ (wm hj')
theorem zjE{n:Nat}{M:TB}(h:OkM k n M):OkM k M.length (trF n M):=fun r hr=>by
 unfold trF at hr;obtain⟨j,hj,rfl⟩:=wj.mp hr;rw[vA]at hj;exact zjj h hj
theorem zgj(hk:kaa k){b c:Nat}{M N:TB}(oM:OkM k b M)(oN:OkM k c N):(prodR k c M N).length=M.length/\OkM k c (prodR k c M N):=by
 refine⟨by unfold prodR;rw[wa],fun r hr=>?_⟩;unfold prodR at hr;obtain⟨m,hm,rfl⟩:=wj.mp hr;refine⟨by rw[wa,ziq],fun x hx=>?_⟩;obtain⟨col,hcol,rfl⟩:=wj.mp hx;exact xU hk (oM m hm).2 (zjE oN col hcol).2
end
end La
namespace La
open Lean.Grind Nm
section
variable{k:Int}{F:Type}[Field F]{φ:Kf k F}
def Unit2(n:Nat)(T S:Nat->Nat->F):Prop:=∀ p q,p<n->q<n->dot n (T p) (fun l=>S l q)=if p=q then 1 else 0
def PairU(k:Int)(n:Nat)(T S:TB):Prop:=∀(F:Type) [Field F] (φ:Kf k F),Unit2 n (fun p=>nv φ (T.getD p [])) (fun l q=>nv φ (S.getD l []) q)
end
end La
namespace La
open Lean.Grind Nm
section
variable{k:Int}{F:Type}[Field F]{φ:Kf k F}{n:Nat}
theorem zeG{S:TB}{f:List Nb->List Nb}{l:Nat}(hl:l<S.length):(S.map f).getD l []=f (S.getD l []):=by
 rw[we,wk,we,wc hl];rfl
theorem zia{xs:List Nb}{j:Nat}(hj:j<xs.length):φ.to (xs.getD j (.z 0))=nv φ xs j:=by
 rw[yf φ (wc hj),we,wc hj];rfl
theorem xJ{S:TB}{i:Nat}(hi:i<S.length):S[i]?=some (S.getD i []):=by rw[we,wc hi];rfl
end
end La
namespace La
open Lean.Grind Nm
section
variable{k:Int}{F:Type}[Field F]{φ:Kf k F}{n:Nat}
theorem Rm.app{A B:TB}{v:Nat->F}:Rm φ (A++B) v↔∃ a b,Rm φ A a/\Rm φ B b/\∀ j,v j=a j+b j:=by
 constructor
 ·intro hv;refine hv.all (P:=fun v=>∃ a b,Rm φ A a/\Rm φ B b/\∀ j,v j=a j+b j) ⟨fun _=>0,fun _=>0,.zero,.zero,fun j=>by grind⟩ fun c r v ⟨x,hx,e⟩ ⟨a,b,ha,hb,ev⟩=>?_
  rcases wq.mp hx with q|q
  ·exact⟨fun j=>c*r j+a j,b,.step c ⟨x,q,e⟩ ha,hb,fun j=>by show c*r j+v j=c*r j+a j+b j;rw[ev j];grind⟩
  ·exact⟨a,fun j=>c*r j+b j,ha,.step c ⟨x,q,e⟩ hb,fun j=>by show c*r j+v j=a j +(c*r j+b j);rw[ev j];grind⟩
 ·rintro ⟨a,b,ha,hb,ev⟩
  have h1:Rm φ (A++B) a:=ha.mono fun r ⟨x,hx,e⟩=>⟨x,wQ _ hx,e⟩
  have h2:Rm φ (A++B) b:=hb.mono fun r ⟨x,hx,e⟩=>⟨x,wE _ hx,e⟩
  exact(h1.add h2).cast fun j=>(ev j).symm
def limg(φ:Kf k F)(n:Nat)(A:TB)(v:Nat->F):Nat->F:=fun i=>dot n (nv φ (A.getD i [])) v
theorem Qi(A:TB)(c:F)(u v:Nat->F)(i:Nat):limg φ n A (fun j=>c*u j+v j) i=c*limg φ n A u i+limg φ n A v i:=by
 unfold limg;rw[Zc n _ (fun j=>c*u j) v,ZR]
theorem Zi(A:TB)(i:Nat):limg φ n A (fun _=>0) i=0:=dot_zero n _ _ fun j _=>by grind
theorem zeA(j:Nat):nv φ [] j=0:=yh φ (vq _)
theorem QJ(hk:kaa k){A:TB}{x:List Nb}(oA:OkM k n A)(ox:OkR k x)(lx:x.length=n)(i:Nat):nv φ (imgR k A x) i=limg φ n A (nv φ x) i:=by
 unfold limg
 rcases wO i A.length with h|h
 ·have g:A[i]?=some A[i]:=wc h;have ge:A.getD i []=A[i]:=by rw[we,g];rfl
  have oa:=oA A[i] (wm h);rw[yf φ (xs:=imgR k A x) (x:=ndot k A[i] x) (by unfold imgR;rw[wk,g];rfl),qS φ hk oa.2 ox (by rw[oa.1,lx]),oa.1,ge]
 ·rw[yh φ (by unfold imgR;rw[wa];exact h)];have ge:A.getD i []=[]:=by rw[we,vo h];rfl
  rw[ge,dot_zero n _ _ fun j _=>by rw[zeA];grind]
theorem Rm.img(hk:kaa k){A R:TB}(oA:OkM k n A)(oR:OkM k n R){w:Nat->F}:Rm φ (R.map (imgR k A)) w↔∃ v,Rm φ R v/\∀ i,w i=limg φ n A v i:=by
 constructor
 ·intro h;refine h.all (P:=fun w=>∃ v,Rm φ R v/\∀ i,w i=limg φ n A v i) ⟨fun _=>0,.zero,fun i=>(Zi A i).symm⟩ fun c r w ⟨x,hx,e⟩ ⟨v,hv,ev⟩=>?_
  obtain⟨y,hy,rfl⟩:=wj.mp hx;have oy:=oR y hy;refine⟨fun j=>c*nv φ y j+v j,.step c ⟨y,hy,rfl⟩ hv,fun i=>?_⟩;rw[Qi,← ev i,← QJ hk oA oy.2 oy.1,e]
 ·rintro ⟨v,hv,ev⟩
  have:Rm φ (R.map (imgR k A)) (limg φ n A v):=by
   refine hv.all (P:=fun v=>Rm φ (R.map (imgR k A)) (limg φ n A v)) (Span.cast .zero fun i=>(Zi A i).symm) fun c r v ⟨x,hx,e⟩ hw=>?_
   have ox:=oR x hx;refine Span.cast (.step c (r:=nv φ (imgR k A x)) ⟨_,wj.mpr ⟨x,hx,rfl⟩,rfl⟩ hw) fun i=>?_
   rw[Qi,e,QJ hk oA ox.2 ox.1]
  exact this.cast fun i=>(ev i).symm
def kry(k:Int)(A B:TB):Nat->TB
 | 0=>B
 | t+1=>B ++(kry k A B t).map (imgR k A)
theorem jc(hk:kaa k){A B:TB}(oA:OkM k n A)(lA:A.length=n)(oB:OkM k n B):∀ t,OkM k n (kry k A B t)
 | 0=>oB
 | t+1=>fun r hr=>by
  rcases wq.mp hr with h|h
  ·exact oB r h
  ·obtain⟨x,hx,rfl⟩:=wj.mp h;have:=Qv hk oA (jc hk oA lA oB t x hx).2;exact⟨by rw[this.1,lA],this.2⟩
theorem zcj(hk:kaa k){A B R:TB}(oA:OkM k n A)(lA:A.length=n)(oB:OkM k n B)(oR:OkM k n R){t:Nat}(e:∀ v,Rm φ R v↔Rm φ (kry k A B t) v)(v:Nat->F):Rm φ (B++R.map (imgR k A)) v↔Rm φ (kry k A B (t+1)) v:=by
 show _↔Rm φ (B ++(kry k A B t).map (imgR k A)) v;rw[Rm.app,Rm.app]
 constructor
 ·rintro ⟨a,b,ha,hb,ev⟩
  obtain⟨u,hu,eu⟩:=(Rm.img hk oA oR).mp hb;exact⟨a,b,ha,(Rm.img hk oA (jc hk oA lA oB t)).mpr ⟨u,(e u).mp hu,eu⟩,ev⟩
 ·rintro ⟨a,b,ha,hb,ev⟩
  obtain⟨u,hu,eu⟩:=(Rm.img hk oA (jc hk oA lA oB t)).mp hb;exact⟨a,b,ha,(Rm.img hk oA oR).mpr ⟨u,(e u).mpr hu,eu⟩,ev⟩
theorem Zz(hk:kaa k){A B:TB}(oA:OkM k n A)(lA:A.length=n)(oB:OkM k n B):∀(t:Nat)(v:Nat->F),Rm φ (kry k A B t) v->Rm φ (kry k A B (t+1)) v
 | 0,v,h=>h.mono fun r ⟨x,hx,e⟩=>⟨x,wQ _ hx,e⟩
 | t+1,v,h=>by
  have h':Rm φ (B ++(kry k A B t).map (imgR k A)) v:=h;obtain⟨a,b,ha,hb,ev⟩:=Rm.app.mp h';obtain⟨u,hu,eu⟩:=(Rm.img hk oA (jc hk oA lA oB t)).mp hb;exact Rm.app.mpr ⟨a,b,ha,(Rm.img hk oA (jc hk oA lA oB (t+1))).mpr ⟨u,Zz hk oA lA oB t u hu,eu⟩,ev⟩
theorem zeE(hk:kaa k){A B:TB}(oA:OkM k n A)(lA:A.length=n)(oB:OkM k n B)(t:Nat):∀(d:Nat)(v:Nat->F),Rm φ (kry k A B t) v->Rm φ (kry k A B (t+d)) v
 | 0,v,h=>h
 | d+1,v,h=>Zz hk oA lA oB (t+d) v (zeE hk oA lA oB t d v h)
theorem Qq(hk:kaa k){A B:TB}(oA:OkM k n A)(lA:A.length=n)(oB:OkM k n B){t:Nat}(s:∀ v,Rm φ (kry k A B (t+1)) v->Rm φ (kry k A B t) v):∀(d:Nat)(v:Nat->F),Rm φ (kry k A B (t+d)) v->Rm φ (kry k A B t) v
 | 0,v,h=>h
 | d+1,v,h=>by
  refine s v ?_;have h':Rm φ (B ++(kry k A B (t+d)).map (imgR k A)) v:=h;obtain⟨a,b,ha,hb,ev⟩:=Rm.app.mp h';obtain⟨u,hu,eu⟩:=(Rm.img hk oA (jc hk oA lA oB (t+d))).mp hb;exact Rm.app.mpr ⟨a,b,ha,(Rm.img hk oA (jc hk oA lA oB t)).mpr ⟨u,Qq hk oA lA oB s d u hu,eu⟩,ev⟩
theorem zgD(hk:kaa k){A B:TB}(oA:OkM k n A)(lA:A.length=n)(oB:OkM k n B){t:Nat}(s:∀ v,Rm φ (kry k A B (t+1)) v->Rm φ (kry k A B t) v){m:Nat}(hm:t<=m)(v:Nat->F):Rm φ (kry k A B m) v↔Rm φ (kry k A B t) v:=by
 obtain⟨d,rfl⟩:=Nat.le.dest hm;exact⟨Qq hk oA lA oB s d v,zeE hk oA lA oB t d v⟩
theorem IsR.sub_len{U W:TB}{lu lw:List Nat}(hU:IsR φ n U lu)(hW:IsR φ n W lw)(sub:∀ v,Rm φ U v->Rm φ W v):U.length<=W.length/\(W.length<=U.length->∀ v,Rm φ W v->Rm φ U v):=by
 have inc:=hU.inc;have inc':=hW.inc;have sb:∀ p∈lu,p∈lw:=fun p hp=>by
  obtain⟨v,hv,z,ne⟩:=(hU.lead_iff p).mp hp;exact(hW.lead_iff p).mpr ⟨v,sub v hv,z,ne⟩
 have ef:lu=lw.filter fun p=>decide (p∈lu):=jQ inc (inc'.filter _) (fun p hp=>ve.mpr ⟨sb p hp,decide_eq_true hp⟩) fun p hp=>of_decide_eq_true (ve.mp hp).2
 have le:lu.length<=lw.length:=by rw[ef];exact um _ _
 refine⟨by rw[← hU.len,← hW.len];exact le,fun ge v hv=>?_⟩;have e:(lw.filter fun p=>decide (p∈lu)).length=lw.length:=by rw[← ef];rw[← hU.len,← hW.len]at ge;omega
 have sb':∀ p∈lw,p∈lu:=fun p hp=>of_decide_eq_true (List.length_filter_eq_length_iff.mp e p hp)
 obtain⟨u,hu,eu⟩:=hU.take_off v;have hd:Rm φ W (fun j=>v j +(-1)*u j):=hv.add ((sub u hu).smul (-1));have z:=hW.zero hd fun l hl=>by rw[eu l (sb' l hl)];grind
 exact hu.cast fun j=>by have:=z j;grind
end
end La
namespace La
open Lean.Grind Nm
section
variable{k:Int}
theorem zdy(hk:kaa k){x y z:Nb}(ox:x.ok k)(oy:y.ok k)(oz:z.ok k):nadd k (nadd k x y) z=nadd k x (nadd k y z):=by
 obtain⟨F,_,_,⟨φ⟩⟩:=yi hk;refine φ.inj (yG hk (yG hk ox oy) oz) (yG hk ox (yG hk oy oz)) ?_;rw[φ.add (yG hk ox oy) oz,φ.add ox oy,φ.add ox (yG hk oy oz),φ.add oy oz]
 grind
theorem zeI(hk:kaa k){x y:Nb}(ox:x.ok k)(oy:y.ok k):nadd k x y=nadd k y x:=by
 obtain⟨F,_,_,⟨φ⟩⟩:=yi hk;refine φ.inj (yG hk ox oy) (yG hk oy ox) ?_;rw[φ.add ox oy,φ.add oy ox]
 grind
theorem Xu(hk:kaa k){x:Nb}(ox:x.ok k):nadd k x (nnum k 0)=x:=by
 obtain⟨F,_,_,⟨φ⟩⟩:=yi hk;refine φ.inj (yG hk ox (zL hk 0)) ox ?_;rw[φ.add ox (zL hk 0),φ.num0]
 grind
theorem zfi(hk:kaa k){x:Nb}(ox:x.ok k):nadd k (nnum k 0) x=x:=by rw[zeI hk (zL hk 0) ox,Xu hk ox]
theorem QB(hk:kaa k):∀(l:List (Nb×Nb))(s:Nb),s.ok k->(∀ p∈l,p.1.ok k/\p.2.ok k)->l.foldl (fun s p=>nadd k s (nmul k p.1 p.2)) s=nadd k s (ndotF k l)
 | [],s,os,_=>(Xu hk os).symm
 | p::l,s,os,h=>by
  have op:=h p wp;have om:=yB hk op.1 op.2;have hl:∀ q∈l,q.1.ok k/\q.2.ok k:=fun q hq=>h q (wr _ hq)
  have e:ndotF k (p::l)=nadd k (nmul k p.1 p.2) (ndotF k l):=by
   show l.foldl (fun s p=>nadd k s (nmul k p.1 p.2)) (nadd k (nnum k 0) (nmul k p.1 p.2))=_;rw[zfi hk om];exact QB hk l _ om hl
  rw[Gf,QB hk l _ (yG hk os om) hl,e,zdy hk os om (qI hk l hl)]
theorem zgy(hk:kaa k){a b x y:List Nb}(oa:OkR k a)(ob:OkR k b)(ox:OkR k x)(oy:OkR k y)(h:a.length=x.length):ndot k (a++b) (x++y)=nadd k (ndot k a x) (ndot k b y):=by
 have e:(a++b).zip (x++y)=a.zip x++b.zip y:=waO h;show ndotF k ((a++b).zip (x++y))=_;rw[e];show(a.zip x++b.zip y).foldl _ _=_;rw[gV];exact QB hk (b.zip y) (ndotF k (a.zip x)) (qI hk _ (zbT oa ox)) (zbT ob oy)
theorem zhx(hk:kaa k)(n:Nat):OkR k (wx n (nnum k 0)):=fun x hx=>by rw[vk hx];exact zL hk 0
theorem zcO(hk:kaa k){n:Nat}{x:List Nb}(ox:OkR k x)(h:x.length=n):ndot k (wx n (nnum k 0)) x=nnum k 0:=by
 obtain⟨F,_,_,⟨φ⟩⟩:=yi hk;refine φ.inj (xU hk (zhx hk n) ox) (zL hk 0) ?_;rw[qS φ hk (zhx hk n) ox (by simp[h]),φ.num0];refine dot_zero _ _ _ fun j hj=>?_
 rw[wL]at hj;rw[yf φ (x:=nnum k 0) (by rw[uy,if_pos hj]),φ.num0]
 grind
def addR(k:Int)(u v:List Nb):List Nb:=vy (nadd k) u v
theorem JG{u v:List Nb}(h:u.length=v.length):(addR k u v).length=u.length:=by unfold addR;rw[wG];omega
theorem zh7(hk:kaa k){u v:List Nb}(ou:OkR k u)(ov:OkR k v):OkR k (addR k u v):=fun x hx=>by
 unfold addR at hx;obtain⟨i,hi,rfl⟩:=wI hx;rw[vF];exact yG hk (ou _ (wm _)) (ov _ (wm _))
theorem zcy{u v:List Nb}{i:Nat}{x y:Nb}(hu:u[i]?=some x)(hv:v[i]?=some y):(addR k u v)[i]?=some (nadd k x y):=by unfold addR;rw[vz,hu,hv]
theorem zib{F:Type}[Field F](φ:Kf k F){u v:List Nb}(ou:OkR k u)(ov:OkR k v)(h:u.length=v.length)(j:Nat):nv φ (addR k u v) j=nv φ u j+nv φ v j:=by
 rcases wO j u.length with hj|hj
 ·have e1:=wc hj;have e2:=wc (l:=v) (i:=j) (by omega);rw[yf φ (zcy e1 e2),yf φ e1,yf φ e2,φ.add (ou _ (wm _)) (ov _ (wm _))]
 ·rw[yh φ (xs:=u) hj,yh φ (xs:=v) (by omega),yh φ (by rw[JG h];exact hj)]
  grind
end
end La
namespace La
open Lean.Grind Nm
section
variable{k:Int}{n:Nat}{F:Type}[Field F]{φ:Kf k F}
theorem zaw{R:TB}{p:Nat}(hp:p<R.length):(R.map (ud n)).getD p [] =(R.getD p []).drop n:=zeG hp
theorem zbi{M R:TB}{ls:List Nat}(hk:kaa k)(red:kaw φ (n+n) (kan k n M) R ls)(hU:R.map (uu n)=kak k n):OkM k n (R.map (ud n))/\R.length=n:=by
 have lR:R.length=n:=by have:=congrArg vt hU;rw[wa,(yH hk n).2]at this;exact this
 refine⟨fun r hr=>?_,lR⟩;obtain⟨x,hx,rfl⟩:=wj.mp hr;have o:=red.ok x hx;exact⟨by rw[vE,o.1];omega,fun y hy=>o.2 y (uq hy)⟩
theorem row_of{R:TB}{p:Nat}(hp:p<R.length):Rm φ R (nv φ (R.getD p [])):=.of ⟨_,by rw[we,wc hp];exact wm hp,rfl⟩
theorem zd9{M R:TB}{ls:List Nat}(hk:kaa k)(oM:OkM k n M)(lM:M.length=n)(red:kaw φ (n+n) (kan k n M) R ls)(hU:R.map (uu n)=kak k n):Unit2 n (fun p=>nv φ ((R.map (ud n)).getD p [])) (fun l q=>nv φ (M.getD l []) q):=fun p q hp hq=>by
 have lR:=(zbi hk red hU).2;have h:=zbc hk oM lM (red.fro _ (row_of (φ:=φ) (R:=R) (p:=p) (by omega))) hq;have eu:(R.getD p []).take n=kaj k n p:=by
  have:=congrArg (fun l=>l[p]?) hU;simp only[wk]at this;rw[xJ (by omega),xL hp]at this;exact Option.some.inj this
 show dot n (nv φ ((R.map (ud n)).getD p [])) (fun l=>nv φ (M.getD l []) q)=_;rw[zaw (by omega)];have e:(fun i=>nv φ ((R.getD p []).drop n) i)=fun i=>nv φ (R.getD p []) (n+i):=funext fun i=>zbS i
 show dot n (fun i=>nv φ ((R.getD p []).drop n) i) _=_;rw[e,← h,← JD (m:=n) hq,eu,qx hp];unfold kar
 by_cases c:p=q
 ·rw[if_pos c,if_pos c.symm]
 ·rw[if_neg c,if_neg (fun z=>c z.symm)]
theorem zdD{M R:TB}{ls:List Nat}(hk:kaa k)(oM:OkM k n M)(lM:M.length=n)(red:kaw φ (n+n) (kan k n M) R ls)(hU:R.map (uu n)=kak k n):Unit2 n (fun p=>nv φ (M.getD p [])) (fun l q=>nv φ ((R.map (ud n)).getD l []) q):=fun p q hp hq=>by
 have lR:=(zbi hk red hU).2;have hm:=xJ (S:=M) (i:=p) (by omega);have hb:=ZI (k:=k) lM hm;have h:=zdE hk hU (red.to _ (.of ⟨_,wg hb,rfl⟩)) q;obtain⟨h1,h2⟩:=Xd (φ:=φ) hk oM hm hp;rw[h2 q]at h;have e1:dot n (nv φ (M.getD p []++kaj k n p)) (fun p=>nv φ (R.getD p []) (n+q))=dot n (nv φ (M.getD p [])) (fun l=>nv φ ((R.map (ud n)).getD l []) q):=zV fun j hj=>by
  rw[h1 j hj,zaw (by omega),zbS]
 show dot n (nv φ (M.getD p [])) (fun l=>nv φ ((R.map (ud n)).getD l []) q)=_;rw[← e1,← h];unfold kar
 by_cases c:p=q
 ·rw[if_pos c,if_pos c.symm]
 ·rw[if_neg c,if_neg (fun z=>c z.symm)]
end
section
variable{k:Int}{n:Nat}
theorem zeV{M R:TB}{ls:List Nat}(hk:kaa k)(oM:OkM k n M)(lM:M.length=n)(red:∀(F:Type) [Field F] (φ:Kf k F),kaw φ (n+n) (kan k n M) R ls)(hU:R.map (uu n)=kak k n):PairU k n M (R.map (ud n))/\PairU k n (R.map (ud n)) M :=
 ⟨fun F _ φ=>zdD hk oM lM (red F φ) hU,fun F _ φ=>zd9 hk oM lM (red F φ) hU⟩
end
end La
namespace La
open Lean.Grind Nm
def zdot:Nat->(Nat->Int)->(Nat->Int)->Int
 | 0,_,_=>0
 | n+1,u,v=>zdot n u v+u n*v n
theorem Xk{F:Type}[Field F](u v:Nat->Int):∀ n,(ι (zdot n u v):F)=dot n (fun j=>ι (u j)) (fun j=>ι (v j))
 | 0=>ι_zero
 | n+1=>by
  show(ι (zdot n u v+u n*v n):F)=dot n _ _+ι (u n)*ι (v n);rw[ι_add,ι_mul,Xk u v n]
theorem zaq(p:Int)(u y z:Nat->Int):∀ n,(∀ j,j<n->y j=p*z j)->zdot n u y=p*zdot n u z
 | 0,_=>by show(0:Int)=p*0;omega
 | n+1,h=>by
  show zdot n u y+u n*y n=p *(zdot n u z+u n*z n);rw[zaq p u y z n fun j hj=>h j (by omega),h n (by omega)]
  grind
def zr(ws:List Int):Nat->Int:=fun j=>ws.getD j 0
def Kz(n:Nat)(A B:List (List Int)):Nat->(Nat->Int)->Prop
 | 0,v=>∃ r∈B,v=zr r
 | t+1,v=>(∃ r∈B,v=zr r)\/∃ u,Kz n A B t u/\v=fun i=>zdot n (zr (A.getD i [])) u
section
variable{n:Nat}{A B:List (List Int)}
theorem zim{p:Int}{F:Type}[Field F](φ:Kf p F)(hp:kaa p)(lA:A.length=n)(wA:∀ r∈A,r.length=n)(wB:∀ r∈B,r.length=n) :
  ∀(t:Nat)(r:List Nb),r∈kry p (A.map (·.map (nnum p))) (B.map (·.map (nnum p))) t->∃ v,Kz n A B t v/\∀ i,nv φ r i=ι (v i):=by
 have row:∀(ws:List Int)(j:Nat),nv φ (ws.map (nnum p)) j=ι (zr ws j):=fun ws j=>by
  unfold zr;rw[we];cases h:ws[j]? with
  | none=>rw[yh φ (by rw[wa];exact List.getElem?_eq_none_iff.mp h)];exact ι_zero.symm
  | some x=>rw[yf φ (x:=nnum p x) (by rw[wk,h];rfl),φ.num];rfl
 have okB:∀(M:List (List Int)),(∀ r∈M,r.length=n)->OkM p n (M.map (·.map (nnum p))):=fun M h r hr=>by
  obtain⟨ws,hw,rfl⟩:=wj.mp hr;refine⟨by rw[wa];exact h ws hw,fun x hx=>?_⟩;obtain⟨w,_,rfl⟩:=wj.mp hx;exact zL hp w
 have oA:=okB A wA;have oB:=okB B wB;intro t
 induction t with
 | zero =>
  intro r hr;obtain⟨ws,hw,rfl⟩:=wj.mp hr;exact⟨zr ws,⟨ws,hw,rfl⟩,row ws⟩
 | succ t ih =>
  intro r hr
  rcases wq.mp hr with h|h
  ·obtain⟨ws,hw,rfl⟩:=wj.mp h;exact⟨zr ws,.inl ⟨ws,hw,rfl⟩,row ws⟩
  ·obtain⟨x,hx,rfl⟩:=wj.mp h;obtain⟨u,hu,e⟩:=ih x hx;have ox:=jc hp oA (by rw[wa];exact lA) oB t x hx;refine⟨_,.inr ⟨u,hu,rfl⟩,fun i=>?_⟩;rw[QJ hp oA ox.2 ox.1];show dot n _ _=ι (zdot n _ u);rw[Xk];refine zV fun j _=>?_
   rw[e j]
   congr 1
   have:(A.map (·.map (nnum p))).getD i [] =(A.getD i []).map (nnum p):=by
    rw[we,we,wk];cases A[i]? <;> rfl
   rw[this];exact row _ j
theorem ziE{F:Type}[Field F](φ:Kf 0 F){A0 B0:TB}(oA:OkM 0 n A0)(lA:A0.length=n)(oB:OkM 0 n B0){a b:Int}(hA:Scl 0 A0.flatten (A0.flatten.map (scW a)) a)(hB:Scl 0 B0.flatten (B0.flatten.map (scW b)) b) :
  ∀(t:Nat)(v:Nat->Int),Kz n (A0.map (·.map (scW a))) (B0.map (·.map (scW b))) t v->∃ r∈kry 0 A0 B0 t,∃ c:F,∀ i,(ι (v i):F)=c*nv φ r i:=by
 have row:∀(M:TB)(b:Int),OkM 0 n M->Scl 0 M.flatten (M.flatten.map (scW b)) b->∀ r∈M,∀ j,(ι (zr (r.map (scW b)) j):F)=ι b*nv φ r j:=fun M b oM s r hr j=>by
  have sr:Scl 0 r (r.map (scW b)) b:=⟨rfl,s.pos,s.one,fun x hx=>s.dv x (GN.mpr ⟨r,hr,hx⟩)⟩;have:=sr.fv φ (oM r hr).2 j;show(La.fv (r.map (scW b)) j:F)=_;rw[this];grind
 intro t
 induction t with
 | zero =>
  rintro v ⟨ws,hw,rfl⟩
  obtain⟨r,hr,rfl⟩:=wj.mp hw;exact⟨r,hr,ι b,row B0 b oB hB r hr⟩
 | succ t ih =>
  rintro v (⟨ws,hw,rfl⟩|⟨u,hu,rfl⟩)
  ·obtain⟨r,hr,rfl⟩:=wj.mp hw;exact⟨r,wQ _ hr,ι b,row B0 b oB hB r hr⟩
  ·obtain⟨r,hr,c,e⟩:=ih u hu;have or:=jc (.inl rfl) oA lA oB t r hr;refine⟨imgR 0 A0 r,wE _ (wj.mpr ⟨r,hr,rfl⟩),ι a*c,fun i=>?_⟩;rw[QJ (.inl rfl) oA or.2 or.1];show(ι (zdot n _ u):F)=_*dot n _ _;rw[Xk,← ju];refine zV fun j _=>?_
   rw[e j];have:(ι (zr ((A0.map (·.map (scW a))).getD i []) j):F)=ι a*nv φ (A0.getD i []) j:=by
    rw[we,we,wk];cases h:A0[i]? with
    | none =>
     show(ι (zr [] j):F)=ι a*nv φ [] j;rw[zeA,show zr [] j=0 from rfl,ι_zero];grind
    | some r=>exact row A0 a oA hA r (wg h) j
   rw[this];grind
theorem ziZ{p:Int}{F:Type}[Field F](φ:Kf p F)(hp:kaa p)(lA:A.length=n)(wA:∀ r∈A,r.length=n)(wB:∀ r∈B,r.length=n)
  (full:∀ j,j<n->Rm φ (kry p (A.map (·.map (nnum p))) (B.map (·.map (nnum p))) n) (kar j 1)) {y:Nat->Int} (h:∀ v,Kz n A B n v->zdot n v y=0) (j:Nat) (hj:j<n):p ∣ y j:=by
 rw[← φ.zero];have z:dot n (fun i=>ι (y i)) (kar j 1) =(0:F):=(full j hj).dot_zero_r fun r ⟨x,hx,e⟩=>by
  obtain⟨v,hv,ev⟩:=zim φ hp lA wA wB n x hx;have:=h v hv;rw[e,yj,← show dot n (fun i=>ι (v i)) (fun i=>ι (y i))=dot n (nv φ x) (fun i=>(ι (y i):F))from zV fun i _=>by rw[ev i],← Xk,this];exact ι_zero
 rw[qz hj]at z
 grind
theorem zem{p:Int}(p1:1<p)(dv:∀ y:Nat->Int,(∀ v,Kz n A B n v->zdot n v y=0)->∀ j,j<n->p ∣ y j):∀(m:Nat)(y:Nat->Int),(∀ v,Kz n A B n v->zdot n v y=0)->∀ j,j<n->(y j).natAbs<m->y j=0
 | 0,y,h,j,hj,hm=>absurd hm (ug _)
 | m+1,y,h,j,hj,hm=>by
  by_cases z:y j=0
  ·exact z
  have e:∀ i,i<n->y i=p *(y i / p):=fun i hi=>(Int.mul_ediv_cancel' (dv y h i hi)).symm
  have h':∀ v,Kz n A B n v->zdot n v (fun i=>y i / p)=0:=fun v hv=>by
   have:=h v hv;rw[zaq p v y (fun i=>y i / p) n e]at this
   rcases Int.mul_eq_zero.mp this with q|q
   ·omega
   ·exact q
  have lt:(y j / p).natAbs<m:=by
   have e1:=e j hj;have e2:(y j).natAbs=p.natAbs *(y j / p).natAbs:=by rw[← vG,← e1]
   have q0:y j / p≠0:=fun q=>z (by rw[e1,q,Gk])
   have:2 *(y j / p).natAbs<=p.natAbs *(y j / p).natAbs:=wP _ (by omega);have:0 <(y j / p).natAbs:=gh.mpr q0;omega
  have:=zem p1 dv m (fun i=>y i / p) h' j hj lt;rw[e j hj,this,Gk]
end
theorem zaR{n:Nat}{p:Int}(hp:Pr p){A0 B0:TB}(oA:OkM 0 n A0)(lA:A0.length=n)(oB:OkM 0 n B0){a b:Int}(hA:Scl 0 A0.flatten (A0.flatten.map (scW a)) a)(hB:Scl 0 B0.flatten (B0.flatten.map (scW b)) b)
  (full:∀(F:Type) [Field F] (φ:Kf p F) (j:Nat),j<n->Rm φ (kry p ((A0.map (·.map (scW a))).map (·.map (nnum p))) ((B0.map (·.map (scW b))).map (·.map (nnum p))) n) (kar j 1))
  {F:Type} [Field F] (φ:Kf 0 F) (v:Nat->F) (hv:∀ j,n<=j->v j=0):Rm φ (kry 0 A0 B0 n) v:=by
 obtain⟨Fp,_,_,⟨φp⟩⟩:=yi (k:=p) (.inr hp);have wd:∀(M:TB)(b:Int),OkM 0 n M->∀ r∈M.map (·.map (scW b)),r.length=n:=fun M b oM r hr=>by
  obtain⟨x,hx,rfl⟩:=wj.mp hr;rw[wa];exact(oM x hx).1
 have dv:=fun(y:Nat->Int) h j hj=>ziZ (y:=y) φp (.inr hp) (by rw[wa];exact lA) (wd A0 a oA) (wd B0 b oB) (full Fp φp) h j hj
 obtain⟨W,ls,red⟩:=ZS φ (.inl rfl) (jc (.inl rfl) oA lA oB n);refine red.fro v ((QK red.toIsR (.inl rfl) v).mp ⟨hv,fun u hu=>?_⟩);have zu:∀ j,j<n->u j=0:=fun j hj=>by
  obtain⟨lx,ox⟩:=zhy (φ:=φ) (n:=n) u;obtain⟨c,sc⟩:=qK (k:=0) (.inl rfl) ox;have nvx:=zjG (φ:=φ) (n:=n) (v:=u) hu.1;have fvx:=fun i=>sc.fv φ ox i
  have z:∀ v,Kz n (A0.map (·.map (scW a))) (B0.map (·.map (scW b))) n v->zdot n v (zr ((ofV φ n u).map (scW c)))=0:=fun v hv=>by
   obtain⟨r,hr,d,e⟩:=ziE φ oA lA oB hA hB n v hv;have o:=hu.2 (nv φ r) (red.to _ (.of ⟨r,hr,rfl⟩));have:(ι (zdot n v (zr ((ofV φ n u).map (scW c)))):F)=0:=by
    rw[Xk];have e2:dot n (fun j=>(ι (v j):F)) (fun j=>ι (zr ((ofV φ n u).map (scW c)) j))=d*ι c*dot n (nv φ r) u:=by
     rw[← ju];refine zV fun i _=>?_
     have:=fvx i;rw[nvx i]at this;show ι (v i)*La.fv ((ofV φ n u).map (scW c)) i=_;rw[e i,this];grind
    rw[e2,o];grind
   rw[φ.zero]at this;exact Gm.mp this
  have y0:=zem (p:=p) hp.lo dv _ _ z j hj (ul _);have:=fvx j;rw[nvx j]at this;have e:(La.fv ((ofV φ n u).map (scW c)) j:F)=0:=by
   show(ι (zr ((ofV φ n u).map (scW c)) j):F)=0;rw[y0];exact ι_zero
  rw[e]at this;have ne:=sc.ne φ (.inl rfl)
  grind
 exact dot_zero n _ _ fun j hj=>by rw[zu j hj];grind
end La
namespace La
open Lean.Grind Nm
section
variable{k:Int}{n:Nat}{F:Type}[Field F]{φ:Kf k F}
theorem zik{M N:TB}{v:Nat->F}(h:∀ r∈M,r∈N)(hv:Rm φ M v):Rm φ N v:=hv.mono fun _ ⟨x,hx,e⟩=>⟨x,h x hx,e⟩
theorem yP{c i j:Nat}{M:TB}(oM:OkM k c M)(hj:j<c):nv φ ((trF c M).getD j []) i=nv φ (M.getD i []) j:=by
 have e:(trF c M).getD j []=M.map fun r=>r.getD j (.z 0):=by rw[we,ziM hj];rfl
 rw[e]
 rcases wO i M.length with h|h
 ·have g:M.getD i []=M[i]:=by rw[we,wc h];rfl
  have o:=oM M[i] (wm h);rw[yf φ (x:=M[i].getD j (.z 0)) (by rw[wk,wc h];rfl),g,zia (by rw[o.1];exact hj)]
 ·rw[yh φ (by rw[wa];exact h),we,vo h];exact(zeA j).symm
theorem zdt{A:TB}(oA:OkM k n A)(lA:A.length=n)(u v:Nat->F):dot n (limg φ n (trF n A) u) v=dot n u (limg φ n A v):=by
 unfold limg;rw[zbZ n v (fun i=>nv φ (A.getD i [])) u n];refine zV fun j hj=>?_
 congr 1
 rw[yj n u];refine zV fun i _=>?_
 rw[yP oA hj]
end
end La
namespace La
open Lean.Grind Nm
end La
namespace La
open Lean.Grind Nm
section
variable{R:Type}[CommRing R]
def rdot:List R->List R->R
 | a::as,b::bs=>a*b+rdot as bs
 | _,_=>0
def bpow(inner:List (List R))(v:List R):Nat->List R
 | 0=>v
 | i+1=>inner.map fun r=>rdot r (bpow inner v i)
def bfac(W:List (List R))(s:Nat):List R :=
 1 ::(-((W.getD s []).getD s 0)) ::(wV s).map fun st=>-(rdot ((W.getD s []).take s) (bpow ((W.take s).map (·.take s)) ((W.take s).map (·.getD s 0)) st))
def wgr(W:List (List R)):Nat->List R
 | 0=>[1]
 | s+1=>(wV (s+2)).map fun pl=>rdot (wgr W s) ((bfac W s).reverse.drop (s+1 - pl))
end
structure Hm{R S:Type}[CommRing R][CommRing S](f:R->S):Prop where
 zero:f 0=0
 one:f 1=1
 add:∀ a b,f (a+b)=f a+f b
 mul:∀ a b,f (a*b)=f a*f b
 neg:∀ a,f (-a) = -f a
section
variable{R S:Type}[CommRing R][CommRing S]{f:R->S}
theorem Yz(h:Hm f):∀(as bs:List R),f (rdot as bs)=rdot (as.map f) (bs.map f)
 | [],_=>h.zero
 | _::_,[]=>h.zero
 | a::as,b::bs=>by
  show f (a*b+rdot as bs)=f a*f b+rdot (as.map f) (bs.map f);rw[h.add,h.mul,Yz h as bs]
theorem zcx(h:Hm f)(inner:List (List R))(v:List R):∀ i,(bpow inner v i).map f=bpow (inner.map (·.map f)) (v.map f) i
 | 0=>rfl
 | i+1=>by
  show((inner.map fun r=>rdot r (bpow inner v i)).map f) =(inner.map (·.map f)).map fun r=>rdot r (bpow _ _ i)
  rw[vm,vm];refine vB fun r _=>?_
  show f (rdot r _)=rdot (r.map f) _;rw[Yz h,zcx h inner v i]
theorem zex(h:Hm f)(xs:List R)(i:Nat):f (xs.getD i 0) =(xs.map f).getD i 0:=by
 rw[we,we,wk];cases xs[i]? with
 | none=>exact h.zero
 | some x=>rfl
theorem zdZ(W:List (List R))(i:Nat):(W.getD i []).map f =(W.map (·.map f)).getD i []:=by
 rw[we,we,wk];cases W[i]? with
 | none=>rfl
 | some x=>rfl
theorem zgX(h:Hm f)(W:List (List R))(s:Nat):(bfac W s).map f=bfac (W.map (·.map f)) s:=by
 unfold bfac;rw[vW,vW,h.one,h.neg,zex h,zdZ,vm]
 congr 2
 refine vB fun st _=>?_
 show f (-_) = -_;rw[h.neg,Yz h,zcx h,ue,zdZ]
 congr 3
 ·rw[vm,← ue,vm];refine vB fun r _=>?_
  exact ue
 ·rw[vm,← ue,vm];refine vB fun r _=>?_
  exact zex h r s
theorem za4(h:Hm f)(W:List (List R)):∀ s,(wgr W s).map f=wgr (W.map (·.map f)) s
 | 0=>by show [f 1]=[1];rw[h.one]
 | s+1=>by
  show((wV (s+2)).map _).map f =(wV (s+2)).map _;rw[vm];refine vB fun pl _=>?_
  show f (rdot _ _)=rdot _ _;rw[Yz h,za4 h W s,uo,waF,zgX h]
end
section
variable{R:Type}[CommRing R]
def sgn(j:Nat):R:=if j % 2=0 then 1 else -1
def csum(f:Nat->R):Nat->R
 | 0=>0
 | j+1=>csum f j+f j
def minor(j:Nat)(rows:List (List R)):List (List R):=(rows.drop 1).map fun r=>r.take j++r.drop (j+1)
def cdet:Nat->List (List R)->R
 | 0,_=>1
 | d+1,rows=>csum (fun j=>sgn j *((rows.getD 0 []).getD j 0*cdet d (minor j rows))) (d+1)
theorem great1(x a:R):cdet 1 [[x + -a]] =(wgr [[a]] 1).getD 0 0*x +(wgr [[a]] 1).getD 1 0:=by
 simp[cdet,csum,minor,sgn,wgr,bfac,rdot,vn,bpow]
 grind
theorem great2(x a b c d:R):cdet 2 [[x + -a,-b],[-c,x + -d]] =(wgr [[a,b],[c,d]] 2).getD 0 0 *(x*x) +(wgr [[a,b],[c,d]] 2).getD 1 0*x +(wgr [[a,b],[c,d]] 2).getD 2 0:=by
 simp[cdet,csum,minor,sgn,wgr,bfac,rdot,vn,bpow]
 grind
theorem great3(x a b c d e f g h i:R):cdet 3 [[x + -a,-b,-c],[-d,x + -e,-f],[-g,-h,x + -i]] =(wgr [[a,b,c],[d,e,f],[g,h,i]] 3).getD 0 0 *(x *(x*x)) +(wgr [[a,b,c],[d,e,f],[g,h,i]] 3).getD 1 0 *(x*x) +(wgr [[a,b,c],[d,e,f],[g,h,i]] 3).getD 2 0*x +(wgr [[a,b,c],[d,e,f],[g,h,i]] 3).getD 3 0:=by
 simp[cdet,csum,minor,sgn,wgr,bfac,rdot,vn,bpow]
 grind
set_option maxHeartbeats 4000000 in
theorem great4(x a00 a01 a02 a03 a10 a11 a12 a13 a20 a21 a22 a23 a30 a31 a32 a33:R):cdet 4 [[x + -a00,-a01,-a02,-a03],[-a10,x + -a11,-a12,-a13],[-a20,-a21,x + -a22,-a23],[-a30,-a31,-a32,x + -a33]] =(wgr [[a00,a01,a02,a03],[a10,a11,a12,a13],[a20,a21,a22,a23],[a30,a31,a32,a33]] 4).getD 0 0 *(x *(x *(x*x))) +(wgr [[a00,a01,a02,a03],[a10,a11,a12,a13],[a20,a21,a22,a23],[a30,a31,a32,a33]] 4).getD 1 0 *(x *(x*x)) +(wgr [[a00,a01,a02,a03],[a10,a11,a12,a13],[a20,a21,a22,a23],[a30,a31,a32,a33]] 4).getD 2 0 *(x*x) +(wgr [[a00,a01,a02,a03],[a10,a11,a12,a13],[a20,a21,a22,a23],[a30,a31,a32,a33]] 4).getD 3 0*x +(wgr [[a00,a01,a02,a03],[a10,a11,a12,a13],[a20,a21,a22,a23],[a30,a31,a32,a33]] 4).getD 4 0:=by
 simp[cdet,csum,minor,sgn,wgr,bfac,rdot,vn,bpow]
 grind
end
section
variable{R:Type}[CommRing R]
def PSr(R:Type):=Nat->R
def ptl(p:PSr R):PSr R:=fun n=>p (n+1)
def pmu:Nat->PSr R->PSr R->R
 | 0,p,q=>p 0*q 0
 | n+1,p,q=>p 0*q (n+1)+pmu n (ptl p) q
def cst(c:R):PSr R
 | 0=>c
 | _+1=>0
theorem Zn:∀(n:Nat)(p p' q:PSr R),pmu n (fun i=>p i+p' i) q=pmu n p q+pmu n p' q
 | 0,p,p',q=>by show(p 0+p' 0)*q 0=p 0*q 0+p' 0*q 0;grind
 | n+1,p,p',q=>by
  show(p 0+p' 0)*q (n+1)+pmu n (fun i=>ptl p i+ptl p' i) q=_;rw[Zn n];show _=p 0*q (n+1)+pmu n (ptl p) q +(p' 0*q (n+1)+pmu n (ptl p') q)
  grind
theorem zbW:∀(n:Nat)(c:R)(p q:PSr R),pmu n (fun i=>c*p i) q=c*pmu n p q
 | 0,c,p,q=>by show(c*p 0)*q 0=c *(p 0*q 0);grind
 | n+1,c,p,q=>by
  show(c*p 0)*q (n+1)+pmu n (fun i=>c*ptl p i) q=c *(p 0*q (n+1)+pmu n (ptl p) q);rw[zbW n]
  grind
theorem zat:∀(n:Nat)(p q:PSr R),pmu (n+1) p q=p (n+1)*q 0+pmu n p (ptl q)
 | 0,p,q=>by show p 0*q 1+p 1*q 0=p 1*q 0+p 0*q 1;grind
 | n+1,p,q=>by
  show p 0*q (n+2)+pmu (n+1) (ptl p) q=p (n+2)*q 0 +(p 0*q (n+2)+pmu n (ptl p) (ptl q));rw[zat n (ptl p) q];show p 0*q (n+2) +(p (n+2)*q 0+_)=_
  grind
theorem jT:∀(n:Nat)(p q:PSr R),pmu n p q=pmu n q p
 | 0,p,q=>by show p 0*q 0=q 0*p 0;grind
 | n+1,p,q=>by
  rw[zat n p q,jT n p (ptl q)];show p (n+1)*q 0+_=q 0*p (n+1)+pmu n (ptl q) p
  grind
theorem zaS:∀(n:Nat)(p q r:PSr R),pmu n (fun i=>pmu i p q) r=pmu n p (fun i=>pmu i q r)
 | 0,p,q,r=>by show(p 0*q 0)*r 0=p 0 *(q 0*r 0);grind
 | n+1,p,q,r=>by
  show(p 0*q 0)*r (n+1)+pmu n (fun i=>p 0*q (i+1)+pmu i (ptl p) q) r=p 0 *(q 0*r (n+1)+pmu n (ptl q) r)+pmu n (ptl p) (fun i=>pmu i q r);rw[Zn n (fun i=>p 0*q (i+1)) (fun i=>pmu i (ptl p) q) r,zaS n (ptl p) q r];have:=zbW n (p 0) (ptl q) r;have e:pmu n (fun i=>p 0*q (i+1)) r=p 0*pmu n (ptl q) r:=this;rw[e]
  grind
theorem JK:∀(n:Nat)(q:PSr R),pmu n (fun _=>0) q=0
 | 0,q=>by show 0*q 0=0;grind
 | n+1,q=>by
  show 0*q (n+1)+pmu n (fun _=>0) q=0;rw[JK n q];grind
theorem jd:∀(n:Nat)(c:R)(q:PSr R),pmu n (cst c) q=c*q n
 | 0,c,q=>rfl
 | n+1,c,q=>by
  show c*q (n+1)+pmu n (fun _=>0) q=c*q (n+1);rw[JK];grind
end
end La
namespace La
open Lean.Grind Nm
section
variable{R:Type}[CommRing R]
local instance natC:NatCast R:=Semiring.natCast
local instance intC:IntCast R:=Ring.intCast
theorem zdK(a b:R)(n:Nat):cst (a+b) n=cst a n+cst b n:=by
 cases n with
 | zero=>rfl
 | succ n=>show(0:R)=0+0;grind
theorem zft(a:R)(n:Nat):cst (-a) n = -cst a n:=by
 cases n with
 | zero=>rfl
 | succ n=>show(0:R) = -0;grind
theorem ziz(a b:R)(n:Nat):cst (a*b) n=pmu n (cst a) (cst b):=by
 rw[jd];cases n with
 | zero=>rfl
 | succ n=>show(0:R)=a*0;grind
def ppw(p:PSr R):Nat->PSr R
 | 0=>cst 1
 | n+1=>fun i=>pmu i (ppw p n) p
@[reducible] noncomputable def psRing:CommRing (PSr R) where
 add p q:=fun i=>p i+q i
 mul p q:=fun i=>pmu i p q
 natCast:=⟨fun n=>cst (n:R)⟩
 ofNat n:=⟨cst (n:R)⟩
 nsmul:=⟨fun n p=>fun i=>pmu i (cst (n:R)) p⟩
 npow:=⟨fun p n=>ppw p n⟩
 add_zero p:=by
  funext i
  show p i+cst ((0:Nat):R) i=p i;have:(((0:Nat):R))=0:=Semiring.natCast_zero;rw[this];cases i <;>(show p _ +(0:R)=p _;grind)
 add_comm p q:=by funext i;show p i+q i=q i+p i;grind
 add_assoc p q r:=by funext i;show p i+q i+r i=p i +(q i+r i);grind
 mul_assoc p q r:=by funext i;exact zaS i p q r
 mul_one p:=by
  funext i
  show pmu i p (cst ((1:Nat):R))=p i;have:(((1:Nat):R))=1:=Semiring.natCast_one;rw[this,jT,jd];grind
 one_mul p:=by
  funext i
  show pmu i (cst ((1:Nat):R)) p=p i;have:(((1:Nat):R))=1:=Semiring.natCast_one;rw[this,jd];grind
 left_distrib p q r:=by
  funext i
  exact(jT i p _).trans ((Zn i q r p).trans (by rw[jT i q p,jT i r p];rfl))
 right_distrib p q r:=by funext i;exact Zn i p q r
 zero_mul p:=by
  funext i
  show pmu i (cst ((0:Nat):R)) p=cst ((0:Nat):R) i;have:(((0:Nat):R))=0:=Semiring.natCast_zero;rw[this,jd];cases i <;>(show(0:R)*p _=0;grind)
 mul_zero p:=by
  funext i
  show pmu i p (cst ((0:Nat):R))=cst ((0:Nat):R) i;have:(((0:Nat):R))=0:=Semiring.natCast_zero;rw[this,jT,jd];cases i <;>(show(0:R)*p _=0;grind)
 pow_zero p:=by
  funext i
  show cst (1:R) i=cst ((1:Nat):R) i;have:(((1:Nat):R))=1:=Semiring.natCast_one;rw[this]
 pow_succ p n:=rfl
 ofNat_succ n:=by
  funext i
  show cst ((n+1:Nat):R) i=cst ((n:Nat):R) i+cst ((1:Nat):R) i;rw[← zdK,Semiring.natCast_succ,Semiring.natCast_one]
 ofNat_eq_natCast n:=rfl
 nsmul_eq_natCast_mul n p:=rfl
 neg p:=fun i=>-p i
 sub p q:=fun i=>p i + -q i
 intCast:=⟨fun n=>cst ((n:Int):R)⟩
 zsmul:=⟨fun n p=>fun i=>pmu i (cst ((n:Int):R)) p⟩
 neg_add_cancel p:=by
  funext i
  show -p i+p i=cst ((0:Nat):R) i;have:(((0:Nat):R))=0:=Semiring.natCast_zero;rw[this];cases i <;>(show -p _+p _ =(0:R);grind)
 sub_eq_add_neg p q:=rfl
 neg_zsmul n p:=by
  funext i
  show pmu i (cst (((-n:Int)):R)) p = -pmu i (cst ((n:Int):R)) p;rw[jd,jd,Ring.intCast_neg];grind
 zsmul_natCast_eq_nsmul n p:=by
  funext i
  show pmu i (cst (((n:Nat):Int):R)) p=pmu i (cst ((n:Nat):R)) p;rw[jd,jd,Ring.intCast_natCast]
 intCast_ofNat n:=by
  funext i
  show cst (((OfNat.ofNat n:Int)):R) i=cst ((n:Nat):R) i;rw[Ring.intCast_ofNat,Semiring.ofNat_eq_natCast]
 intCast_neg n:=by
  funext i
  show cst (((-n:Int)):R) i = -cst ((n:Int):R) i;rw[Ring.intCast_neg,zft]
 mul_comm p q:=by funext i;exact jT i p q
noncomputable instance psI:CommRing (PSr R):=psRing
theorem QW:Hm (cst:R->PSr R):=by
 have z:((0:Nat):R)=0:=Semiring.natCast_zero;have o:((1:Nat):R)=1:=Semiring.natCast_one;refine⟨?_,?_,fun a b=>?_,fun a b=>?_,fun a=>?_⟩
 ·show cst (0:R)=cst ((0:Nat):R);rw[z]
 ·show cst (1:R)=cst ((1:Nat):R);rw[o]
 ·funext n;exact zdK a b n
 ·funext n;exact ziz a b n
 ·funext n;exact zft a n
def pX:PSr R
 | 1=>1
 | _=>0
theorem zjV:ptl (pX:PSr R)=cst 1:=by
 funext n
 cases n with
 | zero=>rfl
 | succ n=>rfl
theorem xg(p q:PSr R)(n:Nat):(p+q) n=p n+q n:=rfl
theorem zhn(p:PSr R)(n:Nat):(-p) n = -p n:=rfl
theorem X_0(p:PSr R):((pX:PSr R)*p:PSr R) 0=0:=by show(0:R)*p 0=0;grind
theorem X_s(p:PSr R)(n:Nat):((pX:PSr R)*p:PSr R) (n+1)=p n:=by
 show(0:R)*p (n+1)+pmu n (ptl pX) p=p n;rw[zjV,jd];grind
theorem X_1(p:PSr R):((pX:PSr R)*p:PSr R) 1=p 0:=X_s p 0
theorem X_j1(p:PSr R)(j:Nat):((pX:PSr R)*p:PSr R) (j+1)=p (j+0):=X_s p (j+0)
theorem X_2(p:PSr R):((pX:PSr R)*p:PSr R) 2=p 1:=X_s p 1
theorem X_j2(p:PSr R)(j:Nat):((pX:PSr R)*p:PSr R) (j+2)=p (j+1):=X_s p (j+1)
theorem X_3(p:PSr R):((pX:PSr R)*p:PSr R) 3=p 2:=X_s p 2
theorem X_j3(p:PSr R)(j:Nat):((pX:PSr R)*p:PSr R) (j+3)=p (j+2):=X_s p (j+2)
theorem X_4(p:PSr R):((pX:PSr R)*p:PSr R) 4=p 3:=X_s p 3
theorem X_j4(p:PSr R)(j:Nat):((pX:PSr R)*p:PSr R) (j+4)=p (j+3):=X_s p (j+3)
theorem X_5(p:PSr R):((pX:PSr R)*p:PSr R) 5=p 4:=X_s p 4
theorem X_j5(p:PSr R)(j:Nat):((pX:PSr R)*p:PSr R) (j+5)=p (j+4):=X_s p (j+4)
theorem c_at(c:R)(p:PSr R)(n:Nat):(cst c*p) n=c*p n:=jd n c p
def pol(cs:List R):PSr R:=fun j=>cs.getD j 0
theorem JO(t:R):pol [-t] = -(cst t):=by
 funext n
 rw[zhn];cases n with
 | zero=>rfl
 | succ n=>show(0:R) = -0;grind
theorem JH(t:R):pol [-t,1]=pX + -(cst t):=by
 funext n
 rw[xg,zhn]
 match n with
 | 0=>show -t=0 + -t;grind
 | 1=>show(1:R)=1 + -0;grind
 | n+2=>show(0:R)=0 + -0;grind
theorem zcH(W:List (List R))(s i:Nat):(wgr (W.map (·.map cst)) s).getD i 0 =(cst ((wgr W s).getD i 0):PSr R):=by
 rw[← za4 QW,← zex QW]
theorem pol1(c0 c1:R):cst c0 *(pX)+cst c1=pol [c1,c0]:=by
 funext j
 match j with
 | 0=>simp only[xg,c_at,X_0,X_1,X_2,X_3,X_4,X_5,X_j2,X_j3,X_j4,X_j5,vp,vD];show c0 *(0:R)+c1=c1;grind
 | 1=>simp only[xg,c_at,X_0,X_1,X_2,X_3,X_4,X_5,X_j2,X_j3,X_j4,X_j5,vp,vD];show c0 *(1:R) +(0:R)=c0;grind
 | j+2=>simp only[xg,c_at,X_0,X_1,X_2,X_3,X_4,X_5,X_j2,X_j3,X_j4,X_j5,vp,vD];show c0 *(0:R) +(0:R) =(0:R);grind
theorem law1(a00:R):cdet 1 ([[pol [-a00,1]]]:List (List (PSr R)))=pol [(wgr [[a00]] 1).getD 1 0,(wgr [[a00]] 1).getD 0 0]:=by
 simp only[JO,JH];have h:=great1 (pX:PSr R) (cst a00);have e:=fun i=>zcH [[a00]] 1 i
 simp only[vW,Gi]at e;rw[e 0,e 1]at h;rw[h];exact pol1 _ _
theorem pol2(c0 c1 c2:R):cst c0 *(pX*pX)+cst c1 *(pX)+cst c2=pol [c2,c1,c0]:=by
 funext j
 match j with
 | 0=>simp only[xg,c_at,X_0,X_1,X_2,X_3,X_4,X_5,X_j2,X_j3,X_j4,X_j5,vp,vD];show c0 *(0:R)+c1 *(0:R)+c2=c2;grind
 | 1=>simp only[xg,c_at,X_0,X_1,X_2,X_3,X_4,X_5,X_j2,X_j3,X_j4,X_j5,vp,vD];show c0 *(0:R)+c1 *(1:R) +(0:R)=c1;grind
 | 2=>simp only[xg,c_at,X_0,X_1,X_2,X_3,X_4,X_5,X_j2,X_j3,X_j4,X_j5,vp,vD];show c0 *(1:R)+c1 *(0:R) +(0:R)=c0;grind
 | j+3=>simp only[xg,c_at,X_0,X_1,X_2,X_3,X_4,X_5,X_j2,X_j3,X_j4,X_j5,vp,vD];show c0 *(0:R)+c1 *(0:R) +(0:R) =(0:R);grind
theorem law2(a00 a01 a10 a11:R):cdet 2 ([[pol [-a00,1],pol [-a01]],[pol [-a10],pol [-a11,1]]]:List (List (PSr R)))=pol [(wgr [[a00,a01],[a10,a11]] 2).getD 2 0,(wgr [[a00,a01],[a10,a11]] 2).getD 1 0,(wgr [[a00,a01],[a10,a11]] 2).getD 0 0]:=by
 simp only[JO,JH];have h:=great2 (pX:PSr R) (cst a00) (cst a01) (cst a10) (cst a11);have e:=fun i=>zcH [[a00,a01],[a10,a11]] 2 i
 simp only[vW,Gi]at e;rw[e 0,e 1,e 2]at h;rw[h];exact pol2 _ _ _
theorem pol3(c0 c1 c2 c3:R):cst c0 *(pX *(pX*pX))+cst c1 *(pX*pX)+cst c2 *(pX)+cst c3=pol [c3,c2,c1,c0]:=by
 funext j
 match j with
 | 0=>simp only[xg,c_at,X_0,X_1,X_2,X_3,X_4,X_5,X_j2,X_j3,X_j4,X_j5,vp,vD];show c0 *(0:R)+c1 *(0:R)+c2 *(0:R)+c3=c3;grind
 | 1=>simp only[xg,c_at,X_0,X_1,X_2,X_3,X_4,X_5,X_j2,X_j3,X_j4,X_j5,vp,vD];show c0 *(0:R)+c1 *(0:R)+c2 *(1:R) +(0:R)=c2;grind
 | 2=>simp only[xg,c_at,X_0,X_1,X_2,X_3,X_4,X_5,X_j2,X_j3,X_j4,X_j5,vp,vD];show c0 *(0:R)+c1 *(1:R)+c2 *(0:R) +(0:R)=c1;grind
 | 3=>simp only[xg,c_at,X_0,X_1,X_2,X_3,X_4,X_5,X_j2,X_j3,X_j4,X_j5,vp,vD];show c0 *(1:R)+c1 *(0:R)+c2 *(0:R) +(0:R)=c0;grind
 | j+4=>simp only[xg,c_at,X_0,X_1,X_2,X_3,X_4,X_5,X_j2,X_j3,X_j4,X_j5,vp,vD];show c0 *(0:R)+c1 *(0:R)+c2 *(0:R) +(0:R) =(0:R);grind
theorem law3(a00 a01 a02 a10 a11 a12 a20 a21 a22:R):cdet 3 ([[pol [-a00,1],pol [-a01],pol [-a02]],[pol [-a10],pol [-a11,1],pol [-a12]],[pol [-a20],pol [-a21],pol [-a22,1]]]:List (List (PSr R)))=pol [(wgr [[a00,a01,a02],[a10,a11,a12],[a20,a21,a22]] 3).getD 3 0,(wgr [[a00,a01,a02],[a10,a11,a12],[a20,a21,a22]] 3).getD 2 0,(wgr [[a00,a01,a02],[a10,a11,a12],[a20,a21,a22]] 3).getD 1 0,(wgr [[a00,a01,a02],[a10,a11,a12],[a20,a21,a22]] 3).getD 0 0]:=by
 simp only[JO,JH];have h:=great3 (pX:PSr R) (cst a00) (cst a01) (cst a02) (cst a10) (cst a11) (cst a12) (cst a20) (cst a21) (cst a22);have e:=fun i=>zcH [[a00,a01,a02],[a10,a11,a12],[a20,a21,a22]] 3 i
 simp only[vW,Gi]at e;rw[e 0,e 1,e 2,e 3]at h;rw[h];exact pol3 _ _ _ _
theorem pol4(c0 c1 c2 c3 c4:R):cst c0 *(pX *(pX *(pX*pX)))+cst c1 *(pX *(pX*pX))+cst c2 *(pX*pX)+cst c3 *(pX)+cst c4=pol [c4,c3,c2,c1,c0]:=by
 funext j
 match j with
 | 0=>simp only[xg,c_at,X_0,X_1,X_2,X_3,X_4,X_5,X_j2,X_j3,X_j4,X_j5,vp,vD];show c0 *(0:R)+c1 *(0:R)+c2 *(0:R)+c3 *(0:R)+c4=c4;grind
 | 1=>simp only[xg,c_at,X_0,X_1,X_2,X_3,X_4,X_5,X_j2,X_j3,X_j4,X_j5,vp,vD];show c0 *(0:R)+c1 *(0:R)+c2 *(0:R)+c3 *(1:R) +(0:R)=c3;grind
 | 2=>simp only[xg,c_at,X_0,X_1,X_2,X_3,X_4,X_5,X_j2,X_j3,X_j4,X_j5,vp,vD];show c0 *(0:R)+c1 *(0:R)+c2 *(1:R)+c3 *(0:R) +(0:R)=c2;grind
 | 3=>simp only[xg,c_at,X_0,X_1,X_2,X_3,X_4,X_5,X_j2,X_j3,X_j4,X_j5,vp,vD];show c0 *(0:R)+c1 *(1:R)+c2 *(0:R)+c3 *(0:R) +(0:R)=c1;grind
 | 4=>simp only[xg,c_at,X_0,X_1,X_2,X_3,X_4,X_5,X_j2,X_j3,X_j4,X_j5,vp,vD];show c0 *(1:R)+c1 *(0:R)+c2 *(0:R)+c3 *(0:R) +(0:R)=c0;grind
 | j+5=>simp only[xg,c_at,X_0,X_1,X_2,X_3,X_4,X_5,X_j2,X_j3,X_j4,X_j5,vp,vD];show c0 *(0:R)+c1 *(0:R)+c2 *(0:R)+c3 *(0:R) +(0:R) =(0:R);grind
theorem law4(a00 a01 a02 a03 a10 a11 a12 a13 a20 a21 a22 a23 a30 a31 a32 a33:R):cdet 4 ([[pol [-a00,1],pol [-a01],pol [-a02],pol [-a03]],[pol [-a10],pol [-a11,1],pol [-a12],pol [-a13]],[pol [-a20],pol [-a21],pol [-a22,1],pol [-a23]],[pol [-a30],pol [-a31],pol [-a32],pol [-a33,1]]]:List (List (PSr R)))=pol [(wgr [[a00,a01,a02,a03],[a10,a11,a12,a13],[a20,a21,a22,a23],[a30,a31,a32,a33]] 4).getD 4 0,(wgr [[a00,a01,a02,a03],[a10,a11,a12,a13],[a20,a21,a22,a23],[a30,a31,a32,a33]] 4).getD 3 0,(wgr [[a00,a01,a02,a03],[a10,a11,a12,a13],[a20,a21,a22,a23],[a30,a31,a32,a33]] 4).getD 2 0,(wgr [[a00,a01,a02,a03],[a10,a11,a12,a13],[a20,a21,a22,a23],[a30,a31,a32,a33]] 4).getD 1 0,(wgr [[a00,a01,a02,a03],[a10,a11,a12,a13],[a20,a21,a22,a23],[a30,a31,a32,a33]] 4).getD 0 0]:=by
 simp only[JO,JH];have h:=great4 (pX:PSr R) (cst a00) (cst a01) (cst a02) (cst a03) (cst a10) (cst a11) (cst a12) (cst a13) (cst a20) (cst a21) (cst a22) (cst a23) (cst a30) (cst a31) (cst a32) (cst a33);have e:=fun i=>zcH [[a00,a01,a02,a03],[a10,a11,a12,a13],[a20,a21,a22,a23],[a30,a31,a32,a33]] 4 i
 simp only[vW,Gi]at e;rw[e 0,e 1,e 2,e 3,e 4]at h;rw[h];exact pol4 _ _ _ _ _
end
end La
namespace La
open Lean.Grind Nm
section
variable{k:Int}{F:Type}[Field F]
theorem ex1{α:Type}{T:List (List α)}(l:T.length=1)(h:∀ r∈T,r.length=1):∃ a,T=[[a]]:=by
 match T,l with
 | [r0],_ =>
  match r0,h r0 (by simp)with
  | [a],_=>exact⟨a,rfl⟩
theorem ex2{α:Type}{T:List (List α)}(l:T.length=2)(h:∀ r∈T,r.length=2):∃ a b c d,T=[[a,b],[c,d]]:=by
 match T,l with
 | [r0,r1],_ =>
  match r0,h r0 (by simp),r1,h r1 (by simp)with
  | [a,b],_,[c,d],_=>exact⟨a,b,c,d,rfl⟩
theorem ex3{α:Type}{T:List (List α)}(l:T.length=3)(h:∀ r∈T,r.length=3):∃ a b c d e f g i j,T=[[a,b,c],[d,e,f],[g,i,j]]:=by
 match T,l with
 | [r0,r1,r2],_ =>
  match r0,h r0 (by simp),r1,h r1 (by simp),r2,h r2 (by simp)with
  | [a,b,c],_,[d,e,f],_,[g,i,j],_=>exact⟨a,b,c,d,e,f,g,i,j,rfl⟩
theorem ex4{α:Type}{T:List (List α)}(l:T.length=4)(h:∀ r∈T,r.length=4):∃ a00 a01 a02 a03 a10 a11 a12 a13 a20 a21 a22 a23 a30 a31 a32 a33,T=[[a00,a01,a02,a03],[a10,a11,a12,a13],[a20,a21,a22,a23],[a30,a31,a32,a33]]:=by
 match T,l with
 | [r0,r1,r2,r3],_ =>
  match r0,h r0 (by simp),r1,h r1 (by simp),r2,h r2 (by simp),r3,h r3 (by simp)with
  | [a,b,c,d],_,[e,f,g,i],_,[j,m,n,o],_,[p,q,r,s],_=>exact⟨a,b,c,d,e,f,g,i,j,m,n,o,p,q,r,s,rfl⟩
theorem qL(W:List (List F))(s:Nat):(wgr W s).length=s+1:=by
 cases s with
 | zero=>rfl
 | succ s=>show((wV (s+2)).map _).length=_;simp
theorem hm_ι:Hm (ι:Int->F):=⟨ι_zero,ι_one,ι_add,ι_mul,ι_neg⟩
end
def GrP(k:Int)(n:Nat)(M:TB)(xs:List Nb):Prop:=∀(F:Type) [Field F] (φ:Kf k F) (j:Nat),nv φ xs j =((wgr (M.map fun r=>r.map φ.to) n).reverse).getD j 0
end La
namespace La
open Lean.Grind Nm
section
variable{F:Type}[CommRing F]
def mulT(P Q:Nat->F):Nat->Nat->F
 | 0,_=>0
 | i+1,m=>mulT P Q i m+P i *(if i<=m then Q (m - i)else 0)
theorem zaa(P Q:Nat->F):∀ n,mulT P Q (n+1) 0=P 0*Q 0
 | 0=>by show(0:F)+P 0*Q 0=P 0*Q 0;grind
 | n+1=>by
  show mulT P Q (n+1) 0+P (n+1) *(if n+1<=0 then _ else 0)=_;rw[zaa P Q n,if_neg (by omega)];grind
theorem Jm(P Q:Nat->F)(m:Nat):∀ n,mulT P Q (n+1) (m+1)=P 0*Q (m+1)+mulT (fun i=>P (i+1)) Q n m
 | 0=>by show(0:F)+P 0*Q (m+1)=P 0*Q (m+1)+0;grind
 | n+1=>by
  show mulT P Q (n+1) (m+1)+P (n+1) *(if n+1<=m+1 then Q (m+1 - (n+1))else 0)=P 0*Q (m+1) +(mulT (fun i=>P (i+1)) Q n m+P (n+1) *(if n<=m then Q (m - n)else 0));rw[Jm P Q m n]
  by_cases c:n<=m
  ·rw[if_pos c,if_pos (by omega),show m+1 - (n+1)=m - n by omega];grind
  ·rw[if_neg c,if_neg (by omega)];grind
theorem zcn:∀(n m:Nat)(P Q:Nat->F),(∀ i,n<=i->P i=0)->pmu m P Q=mulT P Q n m
 | 0,m,P,Q,h=>by
  have:P=fun _=>0:=funext fun i=>h i (vq _)
  rw[this];exact JK m Q
 | n+1,0,P,Q,h=>(zaa P Q n).symm
 | n+1,m+1,P,Q,h=>by
  rw[Jm];show P 0*Q (m+1)+pmu m (ptl P) Q=_;rw[zcn n m (ptl P) Q (fun i hi=>h (i+1) (by omega))]
  rfl
end
end La
namespace La
open Lean.Grind Nm
theorem zh5{k:Int}{F:Type}[Field F]{φ:Kf k F}{xs:List Nb}{j q:Nat}{y:Nb}(hj:j<xs.length):nv φ (xs.set j y) q=if q=j then φ.to y else nv φ xs q:=by
 unfold nv;rw[we,we,wY]
 by_cases c:q=j
 ·subst c;rw[if_pos rfl,if_pos hj,if_pos rfl];rfl
 ·rw[if_neg (Ne.symm c),if_neg c]
end La
namespace La
open Lean.Grind Nm
def pnv{k:Int}{F:Type}[Field F](φ:Kf k F)(xs:List Nb):PSr F:=fun j=>nv φ xs j
end La
namespace La
open Lean.Grind Nm
def grRow(k:Int)(M:TB)(i j:Nat):List Nb:=if i=j then [nsub k (nnum k 0) ((M.getD i []).getD j (.z 0)),nnum k 1] else [nsub k (nnum k 0) ((M.getD i []).getD j (.z 0))]
def grR(k:Int)(M:TB)(n:Nat):List (TB):=(wV n).map fun i=>(wV n).map fun j=>grRow k M i j
section
variable{k:Int}{F:Type}[Field F]
theorem yx(φ:Kf k F)(hk:kaa k){x:Nb}(ox:x.ok k):pnv φ [nsub k (nnum k 0) x]=pol [-(φ.to x)]:=by
 have e:φ.to (nsub k (nnum k 0) x) = -(φ.to x):=by rw[φ.sub (zL hk 0) ox,φ.num0];grind
 funext j
 match j with
 | 0=>exact e
 | j+1=>exact yh φ (by simp)
theorem jz(φ:Kf k F)(hk:kaa k){x:Nb}(ox:x.ok k):pnv φ [nsub k (nnum k 0) x,nnum k 1]=pol [-(φ.to x),1]:=by
 have e:φ.to (nsub k (nnum k 0) x) = -(φ.to x):=by rw[φ.sub (zL hk 0) ox,φ.num0];grind
 have e1:φ.to (nnum k 1)=1:=by rw[φ.num,ι_one]
 funext j
 match j with
 | 0=>exact e
 | 1=>exact e1
 | j+2=>exact yh φ (by simp)
theorem zj8{α:Type}{l:List α}(h:l.length=2):∃ a b,l=[a,b]:=by match l,h with | [a,b],_=>exact⟨a,b,rfl⟩
theorem zj0{α:Type}{l:List α}(h:l.length=3):∃ a b c,l=[a,b,c]:=by match l,h with | [a,b,c],_=>exact⟨a,b,c,rfl⟩
theorem zj9{α:Type}{l:List α}(h:l.length=4):∃ a b c d,l=[a,b,c,d]:=by match l,h with | [a,b,c,d],_=>exact⟨a,b,c,d,rfl⟩
theorem zj5{α:Type}{l:List α}(h:l.length=5):∃ a b c d e,l=[a,b,c,d,e]:=by match l,h with | [a,b,c,d,e],_=>exact⟨a,b,c,d,e,rfl⟩
theorem ziI(φ:Kf k F)(hk:kaa k){n:Nat}{M:TB}(n1:1<=n)(n4:n<=4)(lM:M.length=n)(oM:OkM k n M):cdet n ((grR k M n).map fun r=>r.map fun x=>pnv φ x)=fun j=>((wgr (M.map fun r=>r.map φ.to) n).reverse).getD j 0:=by
 have hl:∀ r∈M,r.length=n:=fun r hr=>(oM r hr).1
 have hx:∀ r∈M,∀ x∈r,x.ok k:=fun r hr=>(oM r hr).2
 rcases (show n=1\/n=2\/n=3\/n=4 by omega)with e|e|e|e <;> subst e
 ·obtain⟨a,rfl⟩:=ex1 lM hl;have oa:=hx [a] (by simp) a (by simp);show cdet 1 [[pnv φ [nsub k (nnum k 0) a,nnum k 1]]]=_;rw[jz φ hk oa,law1];obtain⟨c0,c1,ec⟩:=zj8 (qL [[φ.to a]] 1);show pol _=fun j=>(wgr [[φ.to a]] 1).reverse.getD j 0
  rw[ec];rfl
 ·obtain⟨a,b,c,d,rfl⟩:=ex2 lM hl;have oa:=hx [a,b] (by simp) a (by simp);have ob:=hx [a,b] (by simp) b (by simp);have oc:=hx [c,d] (by simp) c (by simp);have od:=hx [c,d] (by simp) d (by simp);show cdet 2 [[pnv φ [nsub k (nnum k 0) a,nnum k 1],pnv φ [nsub k (nnum k 0) b]],[pnv φ [nsub k (nnum k 0) c],pnv φ [nsub k (nnum k 0) d,nnum k 1]]]=_;rw[jz φ hk oa,yx φ hk ob,yx φ hk oc,jz φ hk od,law2];obtain⟨c0,c1,c2,ec⟩:=zj0 (qL [[φ.to a,φ.to b],[φ.to c,φ.to d]] 2);show pol _=fun j=>(wgr [[φ.to a,φ.to b],[φ.to c,φ.to d]] 2).reverse.getD j 0
  rw[ec];rfl
 ·obtain⟨a,b,c,d,e,f,g,x,y,rfl⟩:=ex3 lM hl;have oa:=hx [a,b,c] (by simp) a (by simp);have ob:=hx [a,b,c] (by simp) b (by simp);have oc:=hx [a,b,c] (by simp) c (by simp);have od:=hx [d,e,f] (by simp) d (by simp);have oe:=hx [d,e,f] (by simp) e (by simp);have of:=hx [d,e,f] (by simp) f (by simp);have og:=hx [g,x,y] (by simp) g (by simp);have ox:=hx [g,x,y] (by simp) x (by simp);have oy:=hx [g,x,y] (by simp) y (by simp);show cdet 3 [[pnv φ [nsub k (nnum k 0) a,nnum k 1],pnv φ [nsub k (nnum k 0) b],pnv φ [nsub k (nnum k 0) c]],[pnv φ [nsub k (nnum k 0) d],pnv φ [nsub k (nnum k 0) e,nnum k 1],pnv φ [nsub k (nnum k 0) f]],[pnv φ [nsub k (nnum k 0) g],pnv φ [nsub k (nnum k 0) x],pnv φ [nsub k (nnum k 0) y,nnum k 1]]]=_;rw[jz φ hk oa,yx φ hk ob,yx φ hk oc,yx φ hk od,jz φ hk oe,yx φ hk of,yx φ hk og,yx φ hk ox,jz φ hk oy,law3];obtain⟨c0,c1,c2,c3,ec⟩:=zj9 (qL [[φ.to a,φ.to b,φ.to c],[φ.to d,φ.to e,φ.to f],[φ.to g,φ.to x,φ.to y]] 3);show pol _=fun j=>(wgr [[φ.to a,φ.to b,φ.to c],[φ.to d,φ.to e,φ.to f],[φ.to g,φ.to x,φ.to y]] 3).reverse.getD j 0
  rw[ec];rfl
 ·obtain⟨a00,a01,a02,a03,a10,a11,a12,a13,a20,a21,a22,a23,a30,a31,a32,a33,rfl⟩:=ex4 lM hl;have o0:=hx [a00,a01,a02,a03] (by simp);have o1:=hx [a10,a11,a12,a13] (by simp);have o2:=hx [a20,a21,a22,a23] (by simp);have o3:=hx [a30,a31,a32,a33] (by simp);show cdet 4 [[pnv φ [nsub k (nnum k 0) a00,nnum k 1],pnv φ [nsub k (nnum k 0) a01],pnv φ [nsub k (nnum k 0) a02],pnv φ [nsub k (nnum k 0) a03]],[pnv φ [nsub k (nnum k 0) a10],pnv φ [nsub k (nnum k 0) a11,nnum k 1],pnv φ [nsub k (nnum k 0) a12],pnv φ [nsub k (nnum k 0) a13]],[pnv φ [nsub k (nnum k 0) a20],pnv φ [nsub k (nnum k 0) a21],pnv φ [nsub k (nnum k 0) a22,nnum k 1],pnv φ [nsub k (nnum k 0) a23]],[pnv φ [nsub k (nnum k 0) a30],pnv φ [nsub k (nnum k 0) a31],pnv φ [nsub k (nnum k 0) a32],pnv φ [nsub k (nnum k 0) a33,nnum k 1]]]=_;rw[jz φ hk (o0 a00 (by simp)),yx φ hk (o0 a01 (by simp)),yx φ hk (o0 a02 (by simp)),yx φ hk (o0 a03 (by simp)),yx φ hk (o1 a10 (by simp)),jz φ hk (o1 a11 (by simp)),yx φ hk (o1 a12 (by simp)),yx φ hk (o1 a13 (by simp)),yx φ hk (o2 a20 (by simp)),yx φ hk (o2 a21 (by simp)),jz φ hk (o2 a22 (by simp)),yx φ hk (o2 a23 (by simp)),yx φ hk (o3 a30 (by simp)),yx φ hk (o3 a31 (by simp)),yx φ hk (o3 a32 (by simp)),jz φ hk (o3 a33 (by simp)),law4];obtain⟨c0,c1,c2,c3,c4,ec⟩:=zj5 (qL [[φ.to a00,φ.to a01,φ.to a02,φ.to a03],[φ.to a10,φ.to a11,φ.to a12,φ.to a13],[φ.to a20,φ.to a21,φ.to a22,φ.to a23],[φ.to a30,φ.to a31,φ.to a32,φ.to a33]] 4);show pol _=fun j=>(wgr [[φ.to a00,φ.to a01,φ.to a02,φ.to a03],[φ.to a10,φ.to a11,φ.to a12,φ.to a13],[φ.to a20,φ.to a21,φ.to a22,φ.to a23],[φ.to a30,φ.to a31,φ.to a32,φ.to a33]] 4).reverse.getD j 0
  rw[ec];rfl
end
end La
namespace La
open Lean.Grind Nm
section
variable{F:Type}[Field F]
def vT(T:List (List F))(n:Nat)(u:Nat->F):Nat->F:=fun j=>dot n u (fun i=>(T.getD i []).getD j 0)
def vP(T:List (List F))(n:Nat)(u:Nat->F):Nat->Nat->F
 | 0=>u
 | i+1=>vT T n (vP T n u i)
theorem ch1(a:F)(u:Nat->F)(j:Nat)(hj:j<1):(wgr [[a]] 1).getD 1 0*vP [[a]] 1 u 0 j +(wgr [[a]] 1).getD 0 0*vP [[a]] 1 u 1 j=0:=by
 have:j=0:=by omega
 subst this;simp[vP,vT,dot,wgr,bfac,rdot,vn,bpow]
 grind
theorem ch2(a b c d:F)(u:Nat->F)(j:Nat)(hj:j<2):(wgr [[a,b],[c,d]] 2).getD 2 0*vP [[a,b],[c,d]] 2 u 0 j +(wgr [[a,b],[c,d]] 2).getD 1 0*vP [[a,b],[c,d]] 2 u 1 j +(wgr [[a,b],[c,d]] 2).getD 0 0*vP [[a,b],[c,d]] 2 u 2 j=0:=by
 rcases j with _|_|j
 ·simp[vP,vT,dot,wgr,bfac,rdot,vn,bpow]
  grind
 ·simp[vP,vT,dot,wgr,bfac,rdot,vn,bpow]
  grind
 ·omega
set_option maxHeartbeats 4000000 in
theorem ch3(a b c d e f g h i:F)(u:Nat->F)(j:Nat)(hj:j<3):(wgr [[a,b,c],[d,e,f],[g,h,i]] 3).getD 3 0*vP [[a,b,c],[d,e,f],[g,h,i]] 3 u 0 j +(wgr [[a,b,c],[d,e,f],[g,h,i]] 3).getD 2 0*vP [[a,b,c],[d,e,f],[g,h,i]] 3 u 1 j +(wgr [[a,b,c],[d,e,f],[g,h,i]] 3).getD 1 0*vP [[a,b,c],[d,e,f],[g,h,i]] 3 u 2 j +(wgr [[a,b,c],[d,e,f],[g,h,i]] 3).getD 0 0*vP [[a,b,c],[d,e,f],[g,h,i]] 3 u 3 j=0:=by
 rcases j with _|_|_|j
 ·simp[vP,vT,dot,wgr,bfac,rdot,vn,bpow]
  grind
 ·simp[vP,vT,dot,wgr,bfac,rdot,vn,bpow]
  grind
 ·simp[vP,vT,dot,wgr,bfac,rdot,vn,bpow]
  grind
 ·omega
set_option maxHeartbeats 40000000 in
theorem ch40(a00 a01 a02 a03 a10 a11 a12 a13 a20 a21 a22 a23 a30 a31 a32 a33:F)(u:Nat->F):(wgr [[a00,a01,a02,a03],[a10,a11,a12,a13],[a20,a21,a22,a23],[a30,a31,a32,a33]] 4).getD 4 0*vP [[a00,a01,a02,a03],[a10,a11,a12,a13],[a20,a21,a22,a23],[a30,a31,a32,a33]] 4 u 0 0 +(wgr [[a00,a01,a02,a03],[a10,a11,a12,a13],[a20,a21,a22,a23],[a30,a31,a32,a33]] 4).getD 3 0*vP [[a00,a01,a02,a03],[a10,a11,a12,a13],[a20,a21,a22,a23],[a30,a31,a32,a33]] 4 u 1 0 +(wgr [[a00,a01,a02,a03],[a10,a11,a12,a13],[a20,a21,a22,a23],[a30,a31,a32,a33]] 4).getD 2 0*vP [[a00,a01,a02,a03],[a10,a11,a12,a13],[a20,a21,a22,a23],[a30,a31,a32,a33]] 4 u 2 0 +(wgr [[a00,a01,a02,a03],[a10,a11,a12,a13],[a20,a21,a22,a23],[a30,a31,a32,a33]] 4).getD 1 0*vP [[a00,a01,a02,a03],[a10,a11,a12,a13],[a20,a21,a22,a23],[a30,a31,a32,a33]] 4 u 3 0 +(wgr [[a00,a01,a02,a03],[a10,a11,a12,a13],[a20,a21,a22,a23],[a30,a31,a32,a33]] 4).getD 0 0*vP [[a00,a01,a02,a03],[a10,a11,a12,a13],[a20,a21,a22,a23],[a30,a31,a32,a33]] 4 u 4 0=0:=by
 simp[vP,vT,dot,wgr,bfac,rdot,vn,bpow]
 grind
set_option maxHeartbeats 40000000 in
theorem ch41(a00 a01 a02 a03 a10 a11 a12 a13 a20 a21 a22 a23 a30 a31 a32 a33:F)(u:Nat->F):(wgr [[a00,a01,a02,a03],[a10,a11,a12,a13],[a20,a21,a22,a23],[a30,a31,a32,a33]] 4).getD 4 0*vP [[a00,a01,a02,a03],[a10,a11,a12,a13],[a20,a21,a22,a23],[a30,a31,a32,a33]] 4 u 0 1 +(wgr [[a00,a01,a02,a03],[a10,a11,a12,a13],[a20,a21,a22,a23],[a30,a31,a32,a33]] 4).getD 3 0*vP [[a00,a01,a02,a03],[a10,a11,a12,a13],[a20,a21,a22,a23],[a30,a31,a32,a33]] 4 u 1 1 +(wgr [[a00,a01,a02,a03],[a10,a11,a12,a13],[a20,a21,a22,a23],[a30,a31,a32,a33]] 4).getD 2 0*vP [[a00,a01,a02,a03],[a10,a11,a12,a13],[a20,a21,a22,a23],[a30,a31,a32,a33]] 4 u 2 1 +(wgr [[a00,a01,a02,a03],[a10,a11,a12,a13],[a20,a21,a22,a23],[a30,a31,a32,a33]] 4).getD 1 0*vP [[a00,a01,a02,a03],[a10,a11,a12,a13],[a20,a21,a22,a23],[a30,a31,a32,a33]] 4 u 3 1 +(wgr [[a00,a01,a02,a03],[a10,a11,a12,a13],[a20,a21,a22,a23],[a30,a31,a32,a33]] 4).getD 0 0*vP [[a00,a01,a02,a03],[a10,a11,a12,a13],[a20,a21,a22,a23],[a30,a31,a32,a33]] 4 u 4 1=0:=by
 simp[vP,vT,dot,wgr,bfac,rdot,vn,bpow]
 grind
set_option maxHeartbeats 40000000 in
theorem ch42(a00 a01 a02 a03 a10 a11 a12 a13 a20 a21 a22 a23 a30 a31 a32 a33:F)(u:Nat->F):(wgr [[a00,a01,a02,a03],[a10,a11,a12,a13],[a20,a21,a22,a23],[a30,a31,a32,a33]] 4).getD 4 0*vP [[a00,a01,a02,a03],[a10,a11,a12,a13],[a20,a21,a22,a23],[a30,a31,a32,a33]] 4 u 0 2 +(wgr [[a00,a01,a02,a03],[a10,a11,a12,a13],[a20,a21,a22,a23],[a30,a31,a32,a33]] 4).getD 3 0*vP [[a00,a01,a02,a03],[a10,a11,a12,a13],[a20,a21,a22,a23],[a30,a31,a32,a33]] 4 u 1 2 +(wgr [[a00,a01,a02,a03],[a10,a11,a12,a13],[a20,a21,a22,a23],[a30,a31,a32,a33]] 4).getD 2 0*vP [[a00,a01,a02,a03],[a10,a11,a12,a13],[a20,a21,a22,a23],[a30,a31,a32,a33]] 4 u 2 2 +(wgr [[a00,a01,a02,a03],[a10,a11,a12,a13],[a20,a21,a22,a23],[a30,a31,a32,a33]] 4).getD 1 0*vP [[a00,a01,a02,a03],[a10,a11,a12,a13],[a20,a21,a22,a23],[a30,a31,a32,a33]] 4 u 3 2 +(wgr [[a00,a01,a02,a03],[a10,a11,a12,a13],[a20,a21,a22,a23],[a30,a31,a32,a33]] 4).getD 0 0*vP [[a00,a01,a02,a03],[a10,a11,a12,a13],[a20,a21,a22,a23],[a30,a31,a32,a33]] 4 u 4 2=0:=by
 simp[vP,vT,dot,wgr,bfac,rdot,vn,bpow]
 grind
set_option maxHeartbeats 40000000 in
theorem ch43(a00 a01 a02 a03 a10 a11 a12 a13 a20 a21 a22 a23 a30 a31 a32 a33:F)(u:Nat->F):(wgr [[a00,a01,a02,a03],[a10,a11,a12,a13],[a20,a21,a22,a23],[a30,a31,a32,a33]] 4).getD 4 0*vP [[a00,a01,a02,a03],[a10,a11,a12,a13],[a20,a21,a22,a23],[a30,a31,a32,a33]] 4 u 0 3 +(wgr [[a00,a01,a02,a03],[a10,a11,a12,a13],[a20,a21,a22,a23],[a30,a31,a32,a33]] 4).getD 3 0*vP [[a00,a01,a02,a03],[a10,a11,a12,a13],[a20,a21,a22,a23],[a30,a31,a32,a33]] 4 u 1 3 +(wgr [[a00,a01,a02,a03],[a10,a11,a12,a13],[a20,a21,a22,a23],[a30,a31,a32,a33]] 4).getD 2 0*vP [[a00,a01,a02,a03],[a10,a11,a12,a13],[a20,a21,a22,a23],[a30,a31,a32,a33]] 4 u 2 3 +(wgr [[a00,a01,a02,a03],[a10,a11,a12,a13],[a20,a21,a22,a23],[a30,a31,a32,a33]] 4).getD 1 0*vP [[a00,a01,a02,a03],[a10,a11,a12,a13],[a20,a21,a22,a23],[a30,a31,a32,a33]] 4 u 3 3 +(wgr [[a00,a01,a02,a03],[a10,a11,a12,a13],[a20,a21,a22,a23],[a30,a31,a32,a33]] 4).getD 0 0*vP [[a00,a01,a02,a03],[a10,a11,a12,a13],[a20,a21,a22,a23],[a30,a31,a32,a33]] 4 u 4 3=0:=by
 simp[vP,vT,dot,wgr,bfac,rdot,vn,bpow]
 grind
theorem zjJ{n:Nat}(n1:1<=n)(n4:n<=4){T:List (List F)}(l:T.length=n)(h:∀ r∈T,r.length=n):(wgr T n).getD 0 0=1:=by
 rcases (by omega:n=1\/n=2\/n=3\/n=4)with rfl|rfl|rfl|rfl
 ·obtain⟨a,rfl⟩:=ex1 l h;simp[wgr,bfac,rdot,vn,bpow];grind
 ·obtain⟨a,b,c,d,rfl⟩:=ex2 l h;simp[wgr,bfac,rdot,vn,bpow];grind
 ·obtain⟨a,b,c,d,e,f,g,i,j,rfl⟩:=ex3 l h;simp[wgr,bfac,rdot,vn,bpow];grind
 ·obtain⟨a00,a01,a02,a03,a10,a11,a12,a13,a20,a21,a22,a23,a30,a31,a32,a33,rfl⟩:=ex4 l h;simp[wgr,bfac,rdot,vn,bpow];grind
theorem zje{n:Nat}(n1:1<=n)(n4:n<=4){T:List (List F)}(l:T.length=n)(h:∀ r∈T,r.length=n)(u:Nat->F){j:Nat}(hj:j<n):dot (n+1) (fun i=>(wgr T n).getD (n - i) 0) (fun i=>vP T n u i j)=0:=by
 rcases (by omega:n=1\/n=2\/n=3\/n=4)with rfl|rfl|rfl|rfl
 ·obtain⟨a,rfl⟩:=ex1 l h;have:=ch1 a u j hj;simp only[dot];grind
 ·obtain⟨a,b,c,d,rfl⟩:=ex2 l h;have:=ch2 a b c d u j hj;simp only[dot];grind
 ·obtain⟨a,b,c,d,e,f,g,i,q,rfl⟩:=ex3 l h;have:=ch3 a b c d e f g i q u j hj;simp only[dot];grind
 ·obtain⟨a00,a01,a02,a03,a10,a11,a12,a13,a20,a21,a22,a23,a30,a31,a32,a33,rfl⟩:=ex4 l h;simp only[dot]
  rcases (by omega:j=0\/j=1\/j=2\/j=3)with rfl|rfl|rfl|rfl
  ·have:=ch40 a00 a01 a02 a03 a10 a11 a12 a13 a20 a21 a22 a23 a30 a31 a32 a33 u;grind
  ·have:=ch41 a00 a01 a02 a03 a10 a11 a12 a13 a20 a21 a22 a23 a30 a31 a32 a33 u;grind
  ·have:=ch42 a00 a01 a02 a03 a10 a11 a12 a13 a20 a21 a22 a23 a30 a31 a32 a33 u;grind
  ·have:=ch43 a00 a01 a02 a03 a10 a11 a12 a13 a20 a21 a22 a23 a30 a31 a32 a33 u;grind
end
end La
namespace L2
open PySem PySem.Spec PyProof.Rows Nm
def TopOk(X:Cx):Prop:=∃ env l,X.stack=env::l/\env.scope.isGenerator=false/\env.scope.isCoroutine=false/\env.builtins=builtinsNs/\env.globals=mainGlobals
theorem yc{X:Cx}{k:Nat}(hr:Room k X.A)(hk:40<=k)(hP:X.prog.given.tree=none)(hS:X.base.NoSeer)(hT:TopOk X):OpR X (binaryOp .FloorDiv) (rI (fun _ j=>j≠0) fun i j=>.int (i.fdiv j)):=by
 intro pins s σ H x y v u Q I rx ry h;obtain⟨i,j,rfl,rfl,hc,q⟩:=h;obtain⟨t,rfl⟩:=rx;obtain⟨t',rfl⟩:=ry;obtain⟨env,l,e,h1,h2,h3,h4⟩:=hT;have hd:X.A.depth+Builtin.pylongFrames<recursionLimit:=by
  have:=hr.dp;have:Builtin.pylongFrames=100:=rfl;omega
 exact floordiv_int hc ⟨.int (i.fdiv j),H,I.tok _,⟨_,rfl⟩,q⟩ (.inr (PylongRoom.of I.nolimit hd (SeerAt.of (hS.keeps I.bk) hP (I.ok.frames.trans (congrArg some e)) h1 h2 h3 h4)))
def IRow(H:Hp)(ws:List Int)(a:Addr):Prop:=H a=some (.lst (ws.map V.int))
theorem IRow.mono{H H':Hp}{ws:List Int}{a:Addr}(h:IRow H ws a)(g:Same H H'):IRow H' ws a:=g _ _ h
structure NewT(H H':Hp)(M:TB)(top:Addr)(ras:List Addr):Prop where
 tab:kag H' M top ras
 ft:H top=none
 fr:∀ r∈ras,H r=none
 nd:ras.Nodup
 nt:top∉ras
structure NewR(H H':Hp)(xs:List Nb)(a:Addr):Prop where
 row:kah H' xs a
 fa:H a=none
theorem Same.none{H H':Hp}(g:Same H H'){p:Addr}(h:H' p=none):H p=none:=by
 cases e:H p with
 | none=>rfl
 | some u=>rw[g _ _ e]at h;cases h
theorem yC{H H':Hp}{p:Addr}{o:HO}(g:Same H H')(h:H p=none):Same H (upd H' p o):=fun b u q=>by
 rw[zM (ye q h)];exact g _ _ q
theorem kah.len{H:Hp}{xs:List Nb}{a:Addr}(h:kah H xs a):∃ vs,H a=some (.lst vs)/\Paired (RN H) xs vs/\vs.length=xs.length :=
 let ⟨vs,h1,h2⟩:=h
 ⟨vs,h1,h2,(zj h2).symm⟩
theorem Zf{α β:Type}{R:α->β->Prop}:∀ {xs:List α} {ys:List β},xs.length=ys.length->(∀(i:Nat)(a:α)(b:β),xs[i]?=some a->ys[i]?=some b->R a b)->Paired R xs ys
 | [],[],_,_=>.nil
 | [],_::_,h,_=>by simp at h
 | _::_,[],h,_=>by simp at h
 | a::xs,b::ys,h,f=>.cons (f 0 a b rfl rfl) (Zf (by simpa using h) fun i x y h1 h2=>f (i+1) x y (by simpa using h1) (by simpa using h2))
theorem xl{α β:Type}{R:α->β->Prop}{xs:List α}{ys:List β}{i:Nat}{a:α}{b:β}(h:Paired R xs ys)(h1:xs[i]?=some a)(h2:ys[i]?=some b):R a b:=by
 obtain⟨b',e,r⟩:=yv h h1;rw[h2]at e;cases e;exact r
theorem sm_one:Sm 1 1:=by unfold Sm;decide
theorem xw(n:Nat):Sm n 0:=by unfold Sm;exact Gc (by decide)
theorem zbf{n:Nat}{w d:Int}(h:Sm n w)(hd:d ∣ w):Sm n (w.fdiv d):=by
 rw[vL hd]
 by_cases z:d=0
 ·subst z;rw[Int.ediv_zero];exact xw n
 ·have e:=uC hd;refine h.le ?_;have h1:(w / d*d).natAbs=w.natAbs:=by rw[e]
  rw[vG]at h1;rw[← h1];exact uz _ (gh.mpr z)
theorem zdO{n:Nat}{w k:Int}(k0:0<k)(k9:k<2305843009213693952)(hn:61<=n):Sm n (w.fmod k) :=
 (XH (wy w k0) (wH w k0) k9).mono hn
theorem zhj{n:Nat}:∀ {ws:List Int},(∀ w∈ws,Sm n w)->Sm (n+ws.length) ws.sum
 | [],_=>by rw[wa2];exact xw _
 | w::ws,h=>by
  rw[List.sum_cons];have h1:=zhj (ws:=ws) fun x hx=>h x (wr _ hx)
  have h2:=(h w wp).mono (gZ n ws.length);exact(h2.add h1).mono (by rw[vO];omega)
theorem yI{n:Nat}{k w:Int}(hk:kaa k)(h:Sm n w)(hn:61<=n):nsm n (nnum k w):=by
 unfold nnum
 split
 ·exact⟨h,Sm.mono (m:=1) sm_one (by omega)⟩
 ·rename_i k0;exact zdO (by have:=hk.lt;omega) hk.lt.2 hn
def gLst(K:PySem.W.Frag)(n:Nat)(t:TGs):TG:=fun v σ H Q=>∃ a xs,v=.ref a/\SqL K H a xs/\xs.length=n/\t xs σ H Q
theorem zi3{X:Cx}{pos:Pos}{es:List Expr}{k:Nat}{t:TGs}{n:Nat}(hc:X.calm=true)(h:PGs X es t)
  (hn:(assignEach es X.env).length=n:=by rfl) (hst:(assignEach es X.env).findIdx? (·.1)=none:=by rfl):PG X (.Tuple es k pos) (gLst X.K n t):=by
 intro pins s σ H v u Q I r hw;obtain⟨a,xs,e1,hq,hl,hw⟩:=hw;subst e1;cases r;obtain⟨its,rv,pl,hz⟩:=I.list hq;have e:(assignEach es X.env).length=its.toArray.size:=by simp[hn,← hl,rv.length]
 rw[assign_Tuple];refine wpAny_bind (wpAny_standAt ?_);unfold unpack;rw[e,hst];refine wpAny_bind (wpAny_holding (PySem.W.kun_itemsOf (I.ok.hd hc) pl.isList fun h' hx=>?_));have I1:Inv X pins σ H { s with heap:=h' }:=I.kept (t':=s.toks) fun b o e=>hx b o (vd (Heap.lt_size e)) e
 exact h pins _ σ H xs _ Q I1 (by simpa using rv) hw
theorem zgE{b d:Int}(hb:0<b)(hd:0<d):0<b.fdiv ((vf b d:Nat):Int)*d/\b ∣ b.fdiv ((vf b d:Nat):Int)*d/\d ∣ b.fdiv ((vf b d:Nat):Int)*d/\((vf b d:Nat):Int)≠0:=by
 have g0:0 <((vf b d:Nat):Int):=by have:=Gp d (show b≠0 by omega);omega
 have db:((vf b d:Nat):Int) ∣ b:=gu b d;have dd:((vf b d:Nat):Int) ∣ d:=gU b d;have e1:=La.qb db (by omega);have e2:=La.qb dd (by omega);have p1:0<b.fdiv ((vf b d:Nat):Int):=by
  rcases wav 0 (b.fdiv ((vf b d:Nat):Int))with h|h|h
  ·exact h
  ·rw[← h]at e1;omega
  ·have:=Int.mul_neg_of_neg_of_pos h g0;omega
 refine⟨Gv p1 hd,⟨d.fdiv ((vf b d:Nat):Int),?_⟩,waE _ _,by omega⟩;generalize b.fdiv ((vf b d:Nat):Int)=x at *;generalize d.fdiv ((vf b d:Nat):Int)=y at *;generalize ((vf b d:Nat):Int)=g at *;rw[← e1,← e2]
 grind
theorem zay{k:Int}{H:Hp}(k0:k≠0):∀ {xs:List Nb} {vs:List V},La.OkR k xs->Paired (RN H) xs vs->∃ is:List Int,xs=is.map Nb.z/\vs=is.map V.int
 | _,_,_,.nil=>⟨[],rfl,rfl⟩
 | x::xs,v::vs,h,.cons r t=>by
  obtain⟨is,e1,e2⟩:=zay k0 (fun y hy=>h y (wr _ hy)) t;have hx:=h x wp;cases x with
  | q a=>exact absurd hx k0
  | z i=>exact⟨i::is,by rw[e1];rfl,by rw[e2,r.z];rfl⟩
theorem zef{k:Int}(k0:k≠0)(is:List Int):La.Scl k (is.map Nb.z) is 1 :=
 ⟨by rw[vm];exact(List.map_id'' (fun _=>rfl) is).symm,by decide,fun _=>rfl,fun x hx=>by
  obtain⟨i,_,rfl⟩:=wj.mp hx
  trivial⟩
theorem RN.upd{H:Hp}{x:Nb}{v:V}{t:Addr}{zs zs':List V}(h:RN H x v)(ht:H t=some (.lst zs)):RN (upd H t (.lst zs')) x v:=by
 cases x with
 | q r =>
  obtain⟨a,rfl,ha⟩:=h.q;exact RN.of_q (by rw[zM (fun e=>by rw[e,ht]at ha;cases ha)];exact ha)
 | z i=>rw[h.z];exact RN.of_z
theorem kah.upd{H:Hp}{xs:List Nb}{a t:Addr}{zs zs':List V}(h:kah H xs a)(ne:a≠t)(ht:H t=some (.lst zs)):kah (upd H t (.lst zs')) xs a :=
 let ⟨vs,h1,h2⟩:=h
 ⟨vs,by rw[zM ne];exact h1,xp (fun _ _ r=>r.upd ht) h2⟩
theorem kah.some{H:Hp}{xs:List Nb}{a:Addr}(h:kah H xs a):∃ o,H a=some o:=let ⟨vs,h1,_⟩:=h;⟨_,h1⟩
structure Grow(H H':Hp)(M:TB)(ras:List Addr):Prop where
 same:Same H H'
 rows:Paired (kah H') M ras
 fr:∀ r∈ras,H r=none
 nd:ras.Nodup
theorem Grow.nil(H:Hp){H':Hp}(g:Same H H'):Grow H H' [] []:=⟨g,.nil,fun _ h=>(nomatch h),.nil⟩
section
variable{H H' H2:Hp}{M:TB}{ras:List Addr}
theorem Grow.mono(G:Grow H H' M ras)(g:Same H' H2):Grow H H2 M ras:=⟨G.same.trans g,xp (fun _ _ r=>r.mono g) G.rows,G.fr,G.nd⟩
theorem Grow.not_mem(G:Grow H H' M ras){p:Addr}(hp:H' p=none):p∉ras:=fun hm=>by
 obtain⟨xs,_,h⟩:=QN G.rows hm;obtain⟨o,e⟩:=h.some;rw[hp]at e;cases e
theorem Grow.snoc(G:Grow H H' M ras){xs:List Nb}{vs:List V}{p:Addr}(hp:H' p=none)(hr:Paired (RN H') xs vs):Grow H (upd H' p (.lst vs)) (M++[xs]) (ras++[p]):=by
 have g:=ze hp (.lst vs);have G':=G.mono g;refine⟨G'.same,zS G'.rows ⟨vs,zg,yJ g hr⟩,fun r hr'=>?_,?_⟩
 ·rcases wq.mp hr' with h|h
  ·exact G.fr r h
  ·rw[wn.mp h];exact G.same.none hp
 ·rw[GB];refine⟨G.nd,by simp,fun a ha b hb=>?_⟩;rw[wn.mp hb];exact fun e=>G.not_mem hp (by rw[← e];exact ha)
theorem Grow.done(G:Grow H H' M ras){top:Addr}(ht:H' top=none):NewT H (upd H' top (.lst (ras.map V.ref))) M top ras :=
 ⟨⟨zg,xp (fun _ _ r=>r.mono (ze ht _)) G.rows⟩,G.same.none ht,G.fr,G.nd,G.not_mem ht⟩
theorem Grow.push(G:Grow H H' M ras){t p:Addr}{xs:List Nb}{vs zs zs':List V}(tn:H t=none)(ht:H' t=some (.lst zs))(tr:t∉ras)(g:Same H' H2)(hp:H2 p=none)(hr:Paired (RN H2) xs vs) :
  Grow H (upd (upd H2 p (.lst vs)) t (.lst zs')) (M++[xs]) (ras++[p])/\t∉ras++[p]:=by
 have G1:=(G.mono g).snoc hp hr;have ht2:H2 t=some (.lst zs):=g _ _ ht;have tp:t≠p:=fun e=>by rw[e,hp]at ht2;cases ht2
 have ht3:upd H2 p (.lst vs) t=some (.lst zs):=by rw[zM tp];exact ht2
 have nm:t∉ras++[p]:=fun h=>by
  rcases wq.mp h with h|h
  ·exact tr h
  ·exact tp (wn.mp h)
 refine⟨⟨yC G1.same tn,?_,G1.fr,G1.nd⟩,nm⟩;refine Zf (zj G1.rows) fun i x a h1 h2=>(xl G1.rows h1 h2).upd (fun e=>nm ?_) ht3
 rw[← e];exact wg h2
end
def SclAt(H:Hp)(k:Int)(m:Nat)(xs:List Nb)(p:Addr):Prop:=∃ l ws b,H p=some (.tup [.ref l,.int b])/\IRow H ws l/\La.Scl k xs ws b/\Sm m b/\∀ w∈ws,Sm m w
theorem SclAt.mono{H H':Hp}{k:Int}{m:Nat}{xs:List Nb}{p:Addr}(h:SclAt H k m xs p)(g:Same H H'):SclAt H' k m xs p :=
 let ⟨l,ws,b,h1,h2,r⟩:=h
 ⟨l,ws,b,g _ _ h1,h2.mono g,r⟩
def kab(n:Nat)(M:TB):TB:=(wV n).map fun j=>M.map fun r=>r.getD j (.z 0)
theorem zK(n:Nat)(M:TB):(kab n M).length=n:=by unfold kab;simp
theorem ZZ{n i:Nat}{M:TB}(h:i<n):(kab n M)[i]?=some (M.map fun r=>r.getD i (.z 0)):=by unfold kab;simp[h]
theorem yu{k:Int}{n:Nat}{M:TB}(h:La.OkM k n M):La.OkM k M.length (kab n M):=fun r hr=>by
 unfold kab at hr;obtain⟨j,hj,rfl⟩:=wj.mp hr;rw[vA]at hj;refine⟨wa _,fun x hx=>?_⟩;obtain⟨row,hrow,rfl⟩:=wj.mp hx;obtain⟨h1,h2⟩:=h row hrow;have hj':j<row.length:=by omega
 rw[we,wc hj'];exact h2 _ (wm hj')
def kal(k:Int)(c:Nat)(M N:TB):TB:=M.map fun r=>(kab c N).map fun col=>La.ndot k r col
def imgM(k:Int)(M:TB)(xs:List Nb):List Nb:=M.map fun r=>La.ndot k r xs
theorem tyes{σ:St}{H:Hp}{A B:Hp->Prop}(h:A H):tTrue σ H fun b H3=>if b=true then A H3 else B H3:=by
 show if true=true then A H else B H
 exact iteT h
theorem gyes{i:Nat}{x:V}{σ:St}{H:Hp}{A B:St->Hp->Prop}(h:A (σ.set i (some x)) H):gName i x σ H fun σ2 H2=>tTrue σ2 H2 fun b H3=>if b=true then A σ2 H3 else B σ2 H3:=by
 show if true=true then A (σ.set i (some x)) H else B (σ.set i (some x)) H
 exact iteT h
theorem zdH{K:PySem.W.Frag}{te:TE}{σb:St}{t:Addr}{ras:List Addr}{M:TB}{H:Hp}{R:List V->Hp->Prop}(hT:kag H M t ras)(hz:M.length<sizeLine)
  (hte:∀(a:Addr)(us:List V)(H':Hp)(Q:VK),H' a=some (.lst us)->(∀ l,H' l=none->Q (.ref l) (upd H' l (.lst us)))->te (σb.set 0 (some (.ref a))) H' Q)
  (hd:∀(ras2:List Addr)(H':Hp),Grow H H' M ras2->R (ras2.map V.ref) H') :
  ∃ W:Nat->Nat->List V->Hp->Prop,(∃ m,W 0 m [] H)/\∀ i m ys H,W i m ys H ->
   ((Itl K t).stop i H/\ys.length<=sizeLine/\R ys H) \/
   ((Itl K t).go i H/\ys.length<sizeLine/\∀ x H',(Itl K t).yld i H x H'->gName 0 x σb H' fun σ2 H2=>tTrue σ2 H2 fun b H3=>if b=true then te σ2 H3 fun y H4=>∃ m',m'<m/\W (i+1) m' (ys++[y]) H4 else ∃ m',m'<m/\W (i+1) m' ys H3):=by
 have hl:=zj hT.2;refine zN (xs:=ras.map V.ref) (fun i ys H'=>∃ ras2,ys=ras2.map V.ref/\Grow H H' (M.take i) ras2) ⟨[],rfl,Grow.nil H (Same.refl H)⟩ ?_ ?_ ?_
 ·rintro i ys H' hi ⟨ras2,rfl,G⟩
  refine⟨SqL.of (G.same _ _ hT.1),?_⟩;have:=zj G.rows;rw[wt]at this;rw[wa];omega
 ·rintro i v ys H' hv hi ⟨ras2,rfl,G⟩
  obtain⟨xs,a,hx,ha,rfl,hrow⟩:=(hT.mono G.same).row hv;obtain⟨us,hu,pu,lu⟩:=hrow.len;refine gyes ?_;refine hte a us H' _ hu fun l hl'=>?_
  refine nxt hi ⟨ras2++[l],by rw[wv];rfl,?_⟩;rw[zp hx];exact G.snoc hl' pu
 ·rintro ys H' ⟨ras2,rfl,G⟩
  rw[wa,wo (by omega)]at G;exact hd ras2 H' G
theorem zbH{H:Hp}{d:PyData}{ds:List PyData}{v:V}{vs:List V}(h:Rp H d v)(r:Rps H ds vs):Rps H (d::ds) (v::vs):=by
 simp only[Rps];exact⟨_,_,rfl,h,r⟩
theorem zhU{H:Hp}:Rps H [] []:=by simp only[Rps]
section
variable{X:Cx}{K:PySem.W.Frag}
theorem Qj(hK:X.K=K):IxR X (rIxT K):=hK ▸ zhE
theorem zcc(hK:X.K=K):SlR X (rSlL K):=hK ▸ zep
theorem Xe (hK:X.K=K):CallR X (.builtin "len") (fun xs H Q=>∃ p ys,xs=[.ref p]/\(SqL K H p ys\/SqT K H p ys)/\Q (.int ys.length) H):=hK ▸ zae
theorem zdn (hK:X.K=K):CallR X (.type "list") (fun xs H Q=>∃ p ys,xs=[.ref p]/\(SqL K H p ys\/SqT K H p ys)/\∀ l,H l=none->Q (.ref l) (upd H l (.lst ys))):=hK ▸ QV
theorem zeR (hc:X.calm=true) (hK:X.K=K):CallR X (.builtin "sum") (fun xs H Q=>∃ p ns,xs=[.ref p]/\SqL K H p ((ns:List Int).map V.int)/\Q (.int ns.sum) H):=hK ▸ zfC hc
theorem zgd{tg l:Expr}{tl:TE}(hK:X.K=K)(hl:PE X l tl):PI X tg l (iList K tl):=hK ▸ zfv hl
theorem zfB{pos:Pos}{es:List Expr}{k:Nat}{t:TGs}(n:Nat)(hK:X.K=K)(hc:X.calm=true)(h:PGs X es t)
  (hn:(assignEach es X.env).length=n:=by rfl) (hst:(assignEach es X.env).findIdx? (·.1)=none:=by rfl):PG X (.Tuple es k pos) (gTup K n t):=hK ▸ zjc hc h hn hst
theorem zih{pos:Pos}{es:List Expr}{k:Nat}{t:TGs}(n:Nat)(hK:X.K=K)(hc:X.calm=true)(h:PGs X es t)
  (hn:(assignEach es X.env).length=n:=by rfl) (hst:(assignEach es X.env).findIdx? (·.1)=none:=by rfl):PG X (.Tuple es k pos) (gLst K n t):=hK ▸ zi3 hc h hn hst
end
end L2
namespace L2
open PySem PySem.Spec PyProof.Rows Nm
def IRs(H:Hp)(Ws:List (List Int))(t:Addr)(ras:List Addr):Prop:=H t=some (.lst (ras.map V.ref))/\Paired (IRow H) Ws ras
theorem qN{H H':Hp}(g:Same H H'){Ws:List (List Int)}{ras:List Addr}(h:Paired (IRow H) Ws ras):Paired (IRow H') Ws ras:=xp (fun _ _ r=>r.mono g) h
theorem IRs.mono{H H':Hp}{Ws:List (List Int)}{t:Addr}{ras:List Addr}(h:IRs H Ws t ras)(g:Same H H'):IRs H' Ws t ras:=⟨g _ _ h.1,qN g h.2⟩
theorem IRs.row{H:Hp}{Ws:List (List Int)}{t:Addr}{ras:List Addr}{i:Nat}{v:V}(h:IRs H Ws t ras)(e:(ras.map V.ref)[i]?=some v):∃ ws a,Ws[i]?=some ws/\ras[i]?=some a/\v=.ref a/\IRow H ws a:=by
 rw[wk]at e;obtain⟨a,ha,rfl⟩:=wK.mp e;obtain⟨xs,hx,r⟩:=zT h.2 ha;exact⟨xs,a,hx,ha,rfl,r⟩
theorem IRow.ne{H:Hp}{ws:List Int}{a t:Addr}{rs:List Addr}(h:IRow H ws a)(hw:ws≠[])(ht:H t=some (.lst (rs.map V.ref))):a≠t:=fun e=>by
 subst e;unfold IRow at h;rw[ht]at h;cases ws with
 | nil=>exact hw rfl
 | cons w ws =>
  cases rs with
  | nil=>cases h
  | cons r rs=>cases h
theorem jD{H:Hp}{t:Addr}{rs:List Addr}{o:HO}(ht:H t=some (.lst (rs.map V.ref))){Ws:List (List Int)}{ras:List Addr}(h:Paired (IRow H) Ws ras)(hw:∀ ws∈Ws,ws≠[]):Paired (IRow (upd H t o)) Ws ras :=
 Zf (zj h) fun i ws a h1 h2=>by
  have r:=xl h h1 h2;show upd H t o a=_;rw[zM (r.ne (hw ws (wg h1)) ht)];exact r
theorem Xw{H:Hp}{ws:List Int}{a:Addr}{j:Nat}(h:IRow H ws a)(hj:j<ws.length):atI (ws.map V.int) (0 +(j:Int))=some (.int (ws.getD j 0)):=by
 rw[vC];refine zH ?_;rw[wk,we,wc hj];rfl
theorem cut1(xs:List V):cutV xs (some 1) none=xs.drop 1:=by
 unfold cutV;cases xs with
 | nil=>rfl
 | cons x xs =>
  rw[show(1:Int) =((1:Nat):Int)from rfl,HT.jM,HT.ji];simp
def SzS(b:Nat)(s:List (Nat×List Int)×List (List Int)):Prop:=(∀ p∈s.1,∀ w∈p.2,Sm b w)/\∀ r∈s.2,∀ w∈r,Sm b w
theorem JR{k:Int}(hk:kaa k){b:Nat}(h7:61<=b){ws:List Int}(h:∀ w∈ws,Sm b w):∀ w∈La.kam k ws,Sm b w:=fun w hw=>by
 unfold La.kam at hw
 split at hw
 ·rename_i k0;obtain⟨x,_,rfl⟩:=wj.mp hw;exact zdO (by have:=hk.lt;omega) hk.lt.2 h7
 ·split at hw
  ·exact h w hw
  ·obtain⟨x,hx,rfl⟩:=wj.mp hw;exact zbf (h x hx) (La.zci hx)
theorem xM{b:Nat}{ws:List Int}(h:∀ w∈ws,Sm b w)(c:Nat):Sm b (ws.getD c 0):=by
 rcases wO c ws.length with g|g
 ·rw[we,wc g];exact h _ (wm g)
 ·rw[we,vo g];exact xw b
theorem zgB{b:Nat}{row lead:List Int}(hl:row.length=lead.length)(h1:∀ w∈row,Sm b w)(h2:∀ w∈lead,Sm b w)(c:Nat):∀ w∈La.mixed row lead c,Sm (2*b+1) w:=fun w hw=>by
 obtain⟨j,hj,e⟩:=wI hw;have e2:=La.Jh hl c j;rw[we,wc hj]at e2;have e3:w=lead.getD c 0*row.getD j 0 - row.getD c 0*lead.getD j 0:=by rw[← e,← e2];rfl
 rw[e3];exact(((xM h2 c).mul (xM h1 j)).sub ((xM h1 c).mul (xM h2 j))).mono (by omega)
theorem XU{k:Int}(hk:kaa k){b:Nat}(h7:61<=b){row lead:List Int}(hl:row.length=lead.length)(h1:∀ w∈row,Sm b w)(h2:∀ w∈lead,Sm b w)(c:Nat):∀ w∈La.kaf k lead c row,Sm (2*b+1) w:=by
 unfold La.kaf
 split
 ·exact fun w hw=>(h1 w hw).mono (by omega)
 ·exact JR hk (by omega) (zgB hl h1 h2 c)
theorem SzS.turn{k:Int}(hk:kaa k){n c b:Nat}(h7:61<=b){s:List (Nat×List Int)×List (List Int)}(f:La.Fine k n s)(h:SzS b s):SzS (2*b+1) (La.kao k c s):=by
 unfold La.kao;cases e:s.2.filter (fun r=>decide (r.getD c 0≠0))with
 | nil=>exact⟨fun p hp w hw=>(h.1 p hp w hw).mono (by omega),fun p hp w hw=>(h.2 p hp w hw).mono (by omega)⟩
 | cons l rest =>
  have sub:∀ r∈l::rest,r∈s.2:=fun r hr=>by rw[← e]at hr;exact(ve.mp hr).1
  have hl:=sub l wp;refine⟨fun p hp=>?_,fun r hr=>?_⟩
  ·rcases wq.mp hp with hp|hp
   ·obtain⟨q,hq,rfl⟩:=wj.mp hp;exact XU hk h7 (by rw[f.dl q hq,f.wl l hl]) (h.1 q hq) (h.2 l hl) c
   ·rw[wn.mp hp];exact fun w hw=>(h.2 l hl w hw).mono (by omega)
  ·rcases wq.mp hr with hr|hr
   ·exact fun w hw=>(h.2 r (ve.mp hr).1 w hw).mono (by omega)
   ·obtain⟨q,hq,rfl⟩:=wj.mp hr;have hq2:=sub q (wr _ hq);exact XU hk h7 (by rw[f.wl q hq2,f.wl l hl]) (h.2 q hq2) (h.2 l hl) c
theorem zin{k:Int}(hk:kaa k){n b:Nat}(h7:61<=b){rows:List (List Int)}(hl:∀ r∈rows,r.length=n)(h:∀ r∈rows,∀ w∈r,Sm b w):∀ c,SzS ((b+1)*2^c - 1) (La.swTo k rows c)
 | 0=>⟨fun p hp=>(nomatch hp),fun r hr w hw=>by
   obtain⟨x,hx,rfl⟩:=wj.mp hr;exact(JR hk h7 (h x hx) w hw).mono (by omega)⟩
 | c+1=>by
  have ih:=zin hk h7 hl h c;have h1:2^c ≥ 1:=Gr;have h2:(b+1)*1<=(b+1)*2^c:=wU _ h1;have e:(b+1)*2^(c+1) - 1=2 *((b+1)*2^c - 1)+1:=by
   rw[gm];have:(b+1) *(2^c*2) =(b+1)*2^c*2:=by rw[GC]
   omega
  rw[e];exact SzS.turn hk (by omega) (La.Fine.to hk.lt.1 hl c) ih
end L2
namespace L2
open PySem PySem.Spec PyProof.Rows Nm
theorem zcK{α β:Type}{R:α->β->Prop}{xs:List α}{ys:List β}(h:Paired R xs ys)(i:Nat){a:α}{b:β}(r:R a b):Paired R (xs.set i a) (ys.set i b):=by
 refine Zf (by rw[vg,vg];exact zj h) fun j x y h1 h2=>?_
 by_cases e:i=j
 ·subst e;have l1:i<xs.length:=by have:=(ww.mp h1).1;rw[vg]at this;exact this
  have l2:i<ys.length:=by rw[← zj h];exact l1
  rw[uX l1]at h1;rw[uX l2]at h2;cases h1;cases h2;exact r
 ·rw[Ge e]at h1 h2;exact xl h h1 h2
theorem qP{n j:Nat}(h:j<n):ixN n (j:Int)=some j:=by
 unfold ixN;rw[if_pos (by omega),if_pos (by omega)];simp
theorem zjo{k:Int}(hk:kaa k){D B m:Nat}{x:Nb}(h:La.dB D B x)(ox:x.ok k)(hD0:D≠0)(hD:D<2^m)(hB:B<2^m)(m7:61<=m):nsm m x:=by
 cases x with
 | q r =>
  obtain⟨h1,h2⟩:=La.dB.parts hD0 h;refine⟨uH h2 hB,?_⟩;show((r.den:Nat):Int).natAbs<2^m;rw[vS];exact uH h1 hD
 | z i =>
  have:=hk.lt;exact(XH ox.2.1 ox.2.2 this.2).mono m7
theorem Xr{H:Hp}{t:Addr}{zs zs':List V}(ht:H t=some (.lst zs)){xs:List Nb}{vs:List V}(h:Paired (RN H) xs vs):Paired (RN (upd H t (.lst zs'))) xs vs:=xp (fun _ _ r=>r.upd ht) h
theorem Zg{t u:TS}{D:Ends}{σ:St}{H:Hp}(N:St->Hp->Prop)(hN:∀ σ H,N σ H->u D σ H)(h:(∀ σ H,N σ H->u D σ H)->t { D with nx:=u D } σ H):tSeq t u D σ H:=h hN
end L2
namespace L2
open PySem PySem.Spec PyProof.Rows Nm
theorem zeC(v:V):∀ n:Nat,(wx n [v]).flatten=wx n v
 | 0=>rfl
 | n+1=>by rw[vQ,vV,zeC v n,vQ];rfl
theorem zhu{R:Nb->V->Prop}{x:Nb}{v:V}(r:R x v):∀ n:Nat,Paired R (wx n x) (wx n v)
 | 0=>.nil
 | n+1=>by rw[vQ,vQ];exact .cons r (zhu r n)
theorem zfJ(r x y:Rat):vJ (r.num*x.den*y.den+x.num*y.num*r.den) (r.den*x.den*y.den)=r+x*y:=by
 rw[wau];have h1:r *((r.den:Int):Rat) =((r.num:Int):Rat):=La.kfRat.rat r rfl;have h2:x *((x.den:Int):Rat) =((x.num:Int):Rat):=La.kfRat.rat x rfl;have h3:y *((y.den:Int):Rat) =((y.num:Int):Rat):=La.kfRat.rat y rfl;have n1:((r.den:Int):Rat)≠0:=fun z=>xY r (uA.mp z)
 have n2:((x.den:Int):Rat)≠0:=fun z=>xY x (uA.mp z)
 have n3:((y.den:Int):Rat)≠0:=fun z=>xY y (uA.mp z)
 rw[GS,vh,vh,vh,vh,vh,vh];generalize ((r.den:Int):Rat)=a at *;generalize ((x.den:Int):Rat)=b at *;generalize ((y.den:Int):Rat)=c at *;generalize ((r.num:Int):Rat)=a' at *;generalize ((x.num:Int):Rat)=b' at *;generalize ((y.num:Int):Rat)=c' at *
 grind
end L2
namespace L2
open PySem PySem.Spec PyProof.Rows Nm
theorem zcL{k:Int}(hk:kaa k){m n:Nat}(m7:61<=m):∀(l:List (Nb×Nb)),(∀ p∈l,p.1.ok k/\p.2.ok k/\nsm m p.1/\nsm n p.2)->∀ s:Nb,s.ok k->∀ T,61<=T->nsm T s->nsm (T+l.length *(m+n+1)) (l.foldl (fun s p=>nadd k s (nmul k p.1 p.2)) s)
 | [],_,s,_,T,_,h=>by simpa using h
 | p::l,hl,s,os,T,t7,h=>by
  obtain⟨o1,o2,s1,s2⟩:=hl p wp;have om:=La.yB hk o1 o2;have step:nsm (T +(m+n+1)) (nadd k s (nmul k p.1 p.2)):=by
   obtain⟨x,y⟩:=p
   rcases qQ o1 o2 with⟨k0,r,t,rfl,rfl⟩|⟨k0,i,j,rfl,rfl,_⟩
   ·cases s with
    | z i=>exact absurd k0 os.1
    | q u =>
     show Sm _ (u+r*t).num/\Sm _ ((u+r*t).den:Int);rw[← zfJ];have hb:(u.den:Int)*r.den*t.den≠0:=gC (gC (xY u) (xY r)) (xY t);have st:Sm (T+m+n+1) (u.num*r.den*t.den+r.num*t.num*u.den):=((h.1.mul s1.2).mul s2.2).add (((s1.1.mul s2.1).mul h.2).mono (by omega));have d:=qr hb st ((h.2.mul s1.2).mul s2.2);exact⟨d.1.mono (by omega),d.2.mono (by omega)⟩
   ·cases s with
    | q u=>exact absurd (show k=0 from os) k0
    | z u=>exact(zjn hk k0 (by omega) _:nsm (T +(m+n+1)) (.z _))
  have:=zcL hk m7 l (fun q hq=>hl q (wr _ hq)) _ (La.yG hk os om) _ (by omega) step;rw[Gf];refine this.mono ?_;rw[vO,gJ];omega
theorem Jn{k:Int}(hk:kaa k){m n:Nat}(m7:61<=m){xs ys:List Nb}(ox:La.OkR k xs)(oy:La.OkR k ys)(sx:∀ x∈xs,nsm m x)(sy:∀ y∈ys,nsm n y):nsm (61+xs.length *(m+n+1)) (La.ndot k xs ys):=by
 unfold La.ndot La.ndotF;have h:=zcL hk (n:=n) m7 (xs.zip ys) (fun p hp=>by
  obtain⟨a,b⟩:=p;obtain⟨h1,h2⟩:=wT hp;exact⟨ox _ h1,oy _ h2,sx _ h1,sy _ h2⟩) (nnum k 0) (La.zL hk 0) 61 (by decide) (yI hk (xw 61) (by decide))
 refine h.mono ?_;rw[vZ];have:min xs.length ys.length *(m+n+1)<=xs.length *(m+n+1):=wP _ (gK _ _);omega
theorem Zw{k:Int}(hk:kaa k)(k0:k≠0){x:Nb}(h:x.ok k):nsm 61 x:=by
 cases x with
 | q r=>exact absurd (show k=0 from h) k0
 | z i=>exact XH h.2.1 h.2.2 hk.lt.2
structure ROk(k:Int)(n m:Nat)(xs:List Nb):Prop where
 len:xs.length=n
 ok:La.OkR k xs
 sz:∀ x∈xs,nsm m x
theorem ROk.up{k:Int}{n m m':Nat}{xs:List Nb}(h:ROk k n m xs)(hm:m<=m'):ROk k n m' xs:=⟨h.len,h.ok,fun x hx=>(h.sz x hx).mono hm⟩
structure TOk(k:Int)(r c m:Nat)(M:TB):Prop where
 len:M.length=r
 ok:La.OkM k c M
 sz:∀ r∈M,∀ x∈r,nsm m x
theorem TOk.up{k:Int}{r c m m':Nat}{M:TB}(h:TOk k r c m M)(hm:m<=m'):TOk k r c m' M:=⟨h.len,h.ok,fun r hr x hx=>(h.sz r hr x hx).mono hm⟩
theorem TOk.row{k:Int}{r c m:Nat}{M:TB}(h:TOk k r c m M){x:List Nb}(hx:x∈M):ROk k c m x:=⟨(h.ok x hx).1,(h.ok x hx).2,h.sz x hx⟩
theorem ROk.app{k:Int}{n n' m:Nat}{xs ys:List Nb}(h:ROk k n m xs)(h':ROk k n' m ys):ROk k (n+n') m (xs++ys) :=
 ⟨by rw[wD,h.len,h'.len],fun x hx=>(wq.mp hx).elim (h.ok x) (h'.ok x),fun x hx=>(wq.mp hx).elim (h.sz x) (h'.sz x)⟩
theorem zbt{k:Int}(hk:kaa k){r c m m':Nat}(m7:61<=m){M:TB}{x:List Nb}(hM:TOk k r c m M)(hx:ROk k c m' x):ROk k r (61+c *(m+m'+1)) (imgM k M x):=by
 refine⟨by unfold imgM;rw[wa,hM.len],fun y hy=>?_,fun y hy=>?_⟩
 all_goals
  unfold imgM at hy;obtain⟨row,hr,rfl⟩:=wj.mp hy
 ·exact La.xU hk (hM.ok row hr).2 hx.ok
 ·have:=Jn hk m7 (hM.ok row hr).2 hx.ok (hM.sz row hr) hx.sz;rw[(hM.ok row hr).1]at this;exact this
theorem zck{k:Int}{r c m:Nat}{M:TB}(hM:TOk k r c m M):TOk k c r m (kab c M):=by
 refine⟨zK _ _,by have:=yu hM.ok;rw[hM.len]at this;exact this,fun q hq x hx=>?_⟩;unfold kab at hq;obtain⟨j,hj,rfl⟩:=wj.mp hq;rw[vA]at hj;obtain⟨row,hrow,rfl⟩:=wj.mp hx;have hj':j<row.length:=by have:=(hM.ok row hrow).1;omega
 rw[we,wc hj'];exact hM.sz row hrow _ (wm hj')
theorem zgs{k:Int}(hk:kaa k){r b c m m':Nat}(m7:61<=m){M N:TB}(hM:TOk k r b m M)(hN:TOk k b c m' N):TOk k r c (61+b *(m+m'+1)) (kal k c M N):=by
 have hT:=zck hN;refine⟨by unfold kal;rw[wa,hM.len],fun q hq=>?_,fun q hq x hx=>?_⟩
 all_goals
  unfold kal at hq;obtain⟨row,hr,rfl⟩:=wj.mp hq
 ·refine⟨by rw[wa,zK],fun x hx=>?_⟩;obtain⟨col,hc,rfl⟩:=wj.mp hx;exact La.xU hk (hM.ok row hr).2 (hT.ok col hc).2
 ·obtain⟨col,hc,rfl⟩:=wj.mp hx;have:=Jn hk m7 (hM.ok row hr).2 (hT.ok col hc).2 (hM.sz row hr) (hT.sz col hc);rw[(hM.ok row hr).1]at this;exact this
structure MOk(k:Int)(n h s m:Nat)(A B C:TB):Prop where
 a:TOk k n n m A
 b:TOk k n h m B
 c:TOk k s n m C
structure kax(H:Hp)(A B C:TB)(p ta tb tc:Addr)(ra rb rc:List Addr):Prop where
 tup:H p=some (.tup [.ref ta,.ref tb,.ref tc])
 a:kag H A ta ra
 b:kag H B tb rb
 c:kag H C tc rc
theorem kax.mono{H H':Hp}{A B C:TB}{p ta tb tc:Addr}{ra rb rc:List Addr}(h:kax H A B C p ta tb tc ra rb rc)(g:Same H H'):kax H' A B C p ta tb tc ra rb rc:=⟨g _ _ h.tup,h.a.mono g,h.b.mono g,h.c.mono g⟩
theorem zjq{H:Hp}{ds:List PyData}{vs:List V}{a:Addr}(h:H a=some (.tup vs))(r:Rps H ds vs):Rp H (.tuple ds) (.ref a):=by
 simp only[Rp];exact⟨a,_,rfl,h,r⟩
def augM(A B:TB):TB:=vy (·++·) A B
theorem Qf{A B:TB}{i:Nat}{a b:List Nb}(hA:A[i]?=some a)(hB:B[i]?=some b):(augM A B)[i]?=some (a++b):=by unfold augM;rw[vz,hA,hB]
theorem zcE{k:Int}{r c c' m:Nat}{A B:TB}(hA:TOk k r c m A)(hB:TOk k r c' m B):TOk k r (c+c') m (augM A B):=by
 have row:∀ q∈augM A B,ROk k (c+c') m q:=fun q hq=>by
  obtain⟨i,hi⟩:=GW.mp hq;have hl:i <(augM A B).length:=(ww.mp hi).1;unfold augM at hl;rw[wG,hA.len,hB.len]at hl;have i1:i<A.length:=by rw[hA.len];omega
  have i2:i<B.length:=by rw[hB.len];omega
  rw[Qf (wc i1) (wc i2)]at hi;cases hi;exact(hA.row (wm i1)).app (hB.row (wm i2))
 exact⟨by unfold augM;rw[wG,hA.len,hB.len];omega,fun q hq=>⟨(row q hq).len,(row q hq).ok⟩,fun q hq=>(row q hq).sz⟩
def nextM(k:Int)(A B:TB)(xs us:List Nb):List Nb:=imgM k (augM A B) (xs++us)
end L2
namespace L2
open PySem PySem.Spec PyProof.Rows Nm
theorem kag.upd{H:Hp}{M:TB}{t p:Addr}{ras:List Addr}{zs zs':List V}(h:kag H M t ras)(ht:t≠p)(hr:p∉ras)(hp:H p=some (.lst zs)):kag (upd H p (.lst zs')) M t ras:=by
 refine⟨by rw[zM ht];exact h.1,Zf (zj h.2) fun i x a h1 h2=>(xl h.2 h1 h2).upd (fun e=>hr ?_) hp⟩;rw[← e];exact wg h2
theorem kag.rsome{H:Hp}{M:TB}{t:Addr}{ras:List Addr}(h:kag H M t ras){r:Addr}(hr:r∈ras):∃ o,H r=some o:=by
 obtain⟨xs,_,hx⟩:=QN h.2 hr;exact hx.some
def adr(rs:List (List Addr))(i j:Nat):Option Addr:=(rs[i]?).bind (·[j]?)
theorem qU{rs:List (List Addr)}{ras:List Addr}{i j:Nat}(h:i<rs.length):adr (rs++[ras]) i j=adr rs i j:=by unfold adr;rw[wW h]
theorem jV{rs:List (List Addr)}{ras:List Addr}{j:Nat}:adr (rs++[ras]) rs.length j=ras[j]?:=by unfold adr;rw[wZ (wu _),uM];rfl
theorem Qc{rs:List (List Addr)}{i j:Nat}{a:Addr}(h:adr rs i j=some a):∃ ras,rs[i]?=some ras/\ras[j]?=some a:=by
 unfold adr at h;exact Option.bind_eq_some_iff.mp h
structure kai(H H':Hp)(Ms:List (TB))(ts:List Addr)(rs:List (List Addr)):Prop where
 same:Same H H'
 lt:ts.length=Ms.length
 lr:rs.length=Ms.length
 tabs:∀(i:Nat) M t ras,Ms[i]?=some M->ts[i]?=some t->rs[i]?=some ras->kag H' M t ras
 frt:∀ t∈ts,H t=none
 frr:∀ ras∈rs,∀ r∈ras,H r=none
 nd:ts.Nodup
 sep:∀ t∈ts,∀ ras∈rs,t∉ras
 inj:∀ i j i' j' a,adr rs i j=some a->adr rs i' j'=some a->i=i'/\j=j'
theorem kai.nil{H H':Hp}(g:Same H H'):kai H H' [] [] [] :=
 ⟨g,rfl,rfl,fun i M t ras h=>by simp at h,fun t h=>(nomatch h),fun r h=>(nomatch h),.nil,fun t h=>(nomatch h),fun i j i' j' a h=>by simp[adr]at h⟩
section
variable{H H' H2:Hp}{Ms:List (TB)}{ts:List Addr}{rs:List (List Addr)}
theorem kai.mono(G:kai H H' Ms ts rs)(g:Same H' H2):kai H H2 Ms ts rs:=⟨G.same.trans g,G.lt,G.lr,fun i M t ras h1 h2 h3=>(G.tabs i M t ras h1 h2 h3).mono g,G.frt,G.frr,G.nd,G.sep,G.inj⟩
theorem kai.get(G:kai H H' Ms ts rs){i:Nat}(hi:i<Ms.length):∃ M t ras,Ms[i]?=some M/\ts[i]?=some t/\rs[i]?=some ras/\kag H' M t ras :=
 ⟨_,_,_,wc hi,wc (by rw[G.lt];exact hi),wc (by rw[G.lr];exact hi),G.tabs i _ _ _ (wc hi) (wc (by rw[G.lt];exact hi)) (wc (by rw[G.lr];exact hi))⟩
theorem kai.tsome(G:kai H H' Ms ts rs){t:Addr}(h:t∈ts):∃ o,H' t=some o:=by
 obtain⟨i,hi,rfl⟩:=wI h;obtain⟨M,t',ras,h1,h2,h3,h4⟩:=G.get (i:=i) (by rw[← G.lt];exact hi);rw[wc hi]at h2;cases h2;exact⟨_,h4.1⟩
theorem kai.rsome(G:kai H H' Ms ts rs){ras:List Addr}{r:Addr}(h:ras∈rs)(hr:r∈ras):∃ o,H' r=some o:=by
 obtain⟨i,hi,rfl⟩:=wI h;obtain⟨M,t',ras',h1,h2,h3,h4⟩:=G.get (i:=i) (by rw[← G.lr];exact hi);rw[wc hi]at h3;cases h3;exact h4.rsome hr
theorem kai.push(G:kai H H' Ms ts rs){M:TB}{t:Addr}{ras:List Addr}(g:Same H' H2)(N:NewT H' H2 M t ras):kai H H2 (Ms++[M]) (ts++[t]) (rs++[ras]):=by
 have ot:∀ x∈ts,x≠t:=fun x hx e=>by
  obtain⟨o,ho⟩:=G.tsome hx;rw[e,N.ft]at ho;cases ho
 have olds:∀ x∈rs,∀ r∈x,r∉ras:=fun x hx r hr h=>by
  obtain⟨o,ho⟩:=G.rsome hx hr;rw[N.fr r h]at ho;cases ho
 refine⟨G.same.trans g,by simp[G.lt],by simp[G.lr],fun i M' t' ras' h1 h2 h3=>?_,fun x hx=>?_,fun x hx r hr=>?_,?_,fun x hx y hy=>?_,fun i j i' j' a h1 h2=>?_⟩
 ·rcases wO i Ms.length with h|h
  ·rw[wW h]at h1;rw[wW (by rw[G.lt];exact h)]at h2;rw[wW (by rw[G.lr];exact h)]at h3;exact(G.tabs i M' t' ras' h1 h2 h3).mono g
  ·have e:i=Ms.length:=by
    have:=(ww.mp h1).1;simp at this;omega
   subst e;rw[wZ (wu _),uM]at h1;rw[← G.lt,wZ (wu _),uM]at h2;rw[← G.lr,wZ (wu _),uM]at h3;cases h1;cases h2;cases h3;exact N.tab
 ·rcases wq.mp hx with h|h
  ·exact G.frt x h
  ·rw[wn.mp h];exact G.same.none N.ft
 ·rcases wq.mp hx with h|h
  ·exact G.frr x h r hr
  ·rw[wn.mp h]at hr;exact G.same.none (N.fr r hr)
 ·rw[GB];exact⟨G.nd,by simp,fun x hx y hy=>by rw[wn.mp hy];exact ot x hx⟩
 ·rcases wq.mp hx with h|h
  ·rcases wq.mp hy with h'|h'
   ·exact G.sep x h y h'
   ·rw[wn.mp h'];intro hm;obtain⟨o,ho⟩:=G.tsome h;rw[N.fr x hm]at ho;cases ho
  ·rw[wn.mp h]
   rcases wq.mp hy with h'|h'
   ·intro hm;obtain⟨o,ho⟩:=G.rsome h' hm;rw[N.ft]at ho;cases ho
   ·rw[wn.mp h'];exact N.nt
 ·have lim:∀ i j,adr (rs++[ras]) i j=some a->i<=rs.length:=fun i j h=>by
   obtain⟨x,hx,_⟩:=Qc h;have:=(ww.mp hx).1;simp at this;omega
  have mem:∀ i j,i<rs.length->adr (rs++[ras]) i j=some a->∃ x∈rs,a∈x:=fun i j hi h=>by
   rw[qU hi]at h;obtain⟨x,hx,hx'⟩:=Qc h;exact⟨x,wg hx,wg hx'⟩
  rcases wO i rs.length with h|h <;> rcases wO i' rs.length with h'|h'
  ·rw[qU h]at h1;rw[qU h']at h2;exact G.inj i j i' j' a h1 h2
  ·obtain⟨x,hx,ha⟩:=mem i j h h1;have e:i'=rs.length:=Gh (lim i' j' h2) h';rw[e,jV]at h2;exact absurd (wg h2) (olds x hx a ha)
  ·obtain⟨x,hx,ha⟩:=mem i' j' h' h2;have e:i=rs.length:=Gh (lim i j h1) h;rw[e,jV]at h1;exact absurd (wg h1) (olds x hx a ha)
  ·have e:i=rs.length:=Gh (lim i j h1) h;have e':i'=rs.length:=Gh (lim i' j' h2) h';rw[e,jV]at h1;rw[e',jV]at h2;exact⟨by omega,(GA (ww.mp h1).1 N.nd).mp (h1.trans h2.symm)⟩
theorem kai.updAt(G:kai H H' Ms ts rs){p:Addr}{zs zs':List V}(hp:H p=none)(h:H' p=some (.lst zs))(nt:p∉ts)(nr:∀ ras∈rs,p∉ras):kai H (upd H' p (.lst zs')) Ms ts rs :=
 ⟨yC G.same hp,G.lt,G.lr,fun i M t ras h1 h2 h3=>(G.tabs i M t ras h1 h2 h3).upd (fun e=>nt (by rw[← e];exact wg h2)) (nr ras (wg h3)) h,G.frt,G.frr,G.nd,G.sep,G.inj⟩
end
def powX(k:Int)(A:TB)(x:List Nb):Nat->List Nb
 | 0=>x
 | i+1=>imgM k A (powX k A x i)
def szP(n z:Nat):Nat->Nat
 | 0=>z
 | i+1=>61+n *(z+szP n z i+1)
theorem ziW{n z:Nat}(h:61<=z):∀ i,61<=szP n z i
 | 0=>h
 | i+1=>by simp only[szP];omega
theorem zcw{k:Int}(hk:kaa k){n z:Nat}(z7:61<=z){A:TB}{x:List Nb}(hA:TOk k n n z A)(hx:ROk k n z x):∀ i,ROk k n (szP n z i) (powX k A x i)
 | 0=>hx
 | i+1=>zbt hk z7 hA (zcw hk z7 hA hx i)
end L2
namespace L2
open PySem PySem.Spec PyProof.Rows Nm
end L2
namespace L2
open PySem PySem.Spec PyProof.Rows Nm
theorem zhi{k:Int}(hk:kaa k){n b:Nat}(h7:61<=b){rows:List (List Int)}(hl:∀ r∈rows,r.length=n)(h:∀ r∈rows,∀ w∈r,Sm b w):∀ c,SzS ((b+1)*2^(La.swTo k rows c).1.length - 1) (La.swTo k rows c)
 | 0=>⟨fun p hp=>(nomatch hp),fun r hr w hw=>by
   obtain⟨x,hx,rfl⟩:=wj.mp hr;exact(JR hk h7 (h x hx) w hw).mono (by show b<=(b+1)*2^0 - 1;omega)⟩
 | c+1=>by
  have ih:=zhi hk h7 hl h c;have fine:=La.Fine.to hk.lt.1 hl c;show SzS ((b+1)*2^(La.kao k c (La.swTo k rows c)).1.length - 1) (La.kao k c (La.swTo k rows c));generalize La.swTo k rows c=s at ih fine;have h1:2^s.1.length ≥ 1:=Gr;have h2:(b+1)*1<=(b+1)*2^s.1.length:=wU _ h1;cases e:s.2.filter (fun r=>decide (r.getD c 0≠0))with
  | nil =>
   have t:La.kao k c s=s:=by unfold La.kao;simp only[e]
   rw[t];exact ih
  | cons l rest =>
   have t:=SzS.turn (c:=c) hk (show 61<=(b+1)*2^s.1.length - 1 by omega) fine ih;have len:(La.kao k c s).1.length=s.1.length+1:=by
    unfold La.kao;simp only[e];rw[wD,wa];rfl
   rw[len];have e2:(b+1)*2^(s.1.length+1) - 1=2 *((b+1)*2^s.1.length - 1)+1:=by
    rw[gm];have:(b+1) *(2^s.1.length*2) =(b+1)*2^s.1.length*2:=by rw[GC]
    omega
   rw[e2];exact t
theorem zaE{k:Int}(hk:kaa k){n B:Nat}{M R:TB}{ls:List Nat}(h7:61<=B)(oM:La.OkM k n M)(hM:La.kap B M)(red:∀(F:Type) [Lean.Grind.Field F] (φ:La.Kf k F),La.kaw φ n M R ls):La.kap ((B+1)*2^R.length) R:=by
 obtain⟨F0,i0,d0,⟨φ0⟩⟩:=La.yi hk;have:∃ Ws:List (List Int),Ws.length=M.length/\(∀(i:Nat)(r:List Nb)(ws:List Int),M[i]?=some r->Ws[i]?=some ws->∃ b,La.Scl k r ws b)/\∀ ws∈Ws,ws.length=n/\∀ w∈ws,Sm B w:=by
  clear red
  induction M with
  | nil=>exact⟨[],rfl,fun i r ws h=>by simp at h,fun ws h=>(nomatch h)⟩
  | cons m M ih =>
   obtain⟨Ws,l,h,hs⟩:=ih (fun r hr=>oM r (wr _ hr)) (fun r hr=>hM r (wr _ hr));have om:=oM m wp;obtain⟨D,D0,D1,hD⟩:=hM m wp
   by_cases k0:k=0
   ·have dv:∀ x∈m,La.dvB (D:Int) x:=fun x hx=>by
     cases x with
     | q r=>exact La.dB.den_dvd D0 (hD _ hx)
     | z i=>trivial
    have sc:La.Scl k m (m.map (La.scW (D:Int))) (D:Int):=⟨rfl,by omega,fun z=>absurd k0 z,dv⟩;refine⟨m.map (La.scW (D:Int))::Ws,by simp[l],fun i r ws h1 h2=>?_,fun ws hw=>?_⟩
    ·cases i with
     | zero=>simp at h1 h2;subst h1 h2;exact⟨_,sc⟩
     | succ i=>exact h i r ws (by simpa using h1) (by simpa using h2)
    ·rcases wF.mp hw with e|hw
     ·rw[e];refine⟨by rw[wa];exact om.1,fun w hw=>?_⟩;obtain⟨x,hx,rfl⟩:=wj.mp hw;exact La.zd7 hk (om.2 x hx) h7 D0 (hD x hx) (by omega) (dv x hx) fun _=>waX _
     ·exact hs ws hw
   ·have dv:∀ x∈m,La.dvB 1 x:=fun x hx=>by
     cases x with
     | q r=>exact absurd (om.2 _ hx) k0
     | z i=>trivial
    have sc:La.Scl k m (m.map (La.scW 1)) 1:=⟨rfl,by decide,fun _=>rfl,dv⟩;refine⟨m.map (La.scW 1)::Ws,by simp[l],fun i r ws h1 h2=>?_,fun ws hw=>?_⟩
    ·cases i with
     | zero=>simp at h1 h2;subst h1 h2;exact⟨_,sc⟩
     | succ i=>exact h i r ws (by simpa using h1) (by simpa using h2)
    ·rcases wF.mp hw with e|hw
     ·rw[e];refine⟨by rw[wa];exact om.1,fun w hw=>?_⟩;obtain⟨x,hx,rfl⟩:=wj.mp hw;exact La.zd7 hk (om.2 x hx) h7 D0 (hD x hx) (by decide) (dv x hx) fun z=>absurd z k0
     ·exact hs ws hw
 obtain⟨Ws,lW,scl,hs⟩:=this;have r2:=La.YJ φ0 hk oM lW scl;have eR:R=La.redM k n Ws:=(red F0 φ0).unique r2 (fun v q=>q) (fun v q=>q);have wl:∀ r∈Ws,r.length=n:=fun r hr=>(hs r hr).1
 have szs:=zhi hk h7 wl (fun r hr=>(hs r hr).2) n;have fine:=La.Fine.to hk.lt.1 wl n;have len:R.length =(La.swTo k Ws n).1.length:=by rw[eR];unfold La.redM;rw[wa]
 rw[len];intro r hr;rw[eR]at hr;unfold La.redM at hr;obtain⟨p,hp,rfl⟩:=wj.mp hr;obtain⟨h1,h2,h3,h4⟩:=La.qB φ0 hk.lt.1 wl hp;have nn:nnum k (p.2.getD p.1 0)≠nnum k 0:=La.Qm φ0 fun z=>h3 ((La.XC φ0 (fine.df p hp) p.1).mp z)
 have b:=La.zc6 hk (B:=(B+1)*2^(La.swTo k Ws n).1.length - 1) (p:=p.1) (ws:=p.2) (fun w hw=>szs.1 p hp w hw) (by omega) h3 nn;exact b.mono (by omega)
def IsRa(k:Int)(n:Nat)(W:TB)(lw:List Nat):Prop:=∀(F:Type) [Lean.Grind.Field F] (φ:La.Kf k F),La.IsR φ n W lw
theorem ZP{k:Int}(hk:kaa k){n:Nat}{W:TB}{lw:List Nat}(h:IsRa k n W lw):La.OkM k n W/\lw.length=W.length/\lw.Pairwise (·<·)/\∀ l∈lw,l<n:=by
 obtain⟨F,_,_,⟨φ⟩⟩:=La.yi hk;refine⟨(h F φ).ok,(h F φ).len,(h F φ).inc,fun l hl=>?_⟩;obtain⟨i,r,h1,h2⟩:=(h F φ).lead_of hl;exact(h F φ).rr.lt _ ((h F φ).get h1 h2)
theorem Ye:∀ {l:List Nat} {m n:Nat},l.Pairwise (·<·)->(∀ x∈l,m<=x/\x<n)->m<=n->l.length<=n - m
 | [],_,_,_,_,_=>vq _
 | x::l,m,n,pw,h,mn=>by
  rw[uJ]at pw;have hx:=h x wp;have:=Ye (l:=l) (m:=x+1) (n:=n) pw.2 (fun y hy=>⟨pw.1 y hy,(h y (wr _ hy)).2⟩) (by omega);rw[vO];omega
theorem jt{k:Int}(hk:kaa k){n:Nat}{W:TB}{lw:List Nat}(h:IsRa k n W lw):W.length<=n:=by
 obtain⟨_,e,pw,lt⟩:=ZP hk h;have:=Ye (m:=0) pw (fun x hx=>⟨vq _,lt x hx⟩) (vq _);omega
theorem jF{k:Int}{n:Nat}{M R:TB}{ls:List Nat}(h:∀(F:Type) [Lean.Grind.Field F] (φ:La.Kf k F),La.kaw φ n M R ls):IsRa k n R ls:=fun F _ φ=>(h F φ).toIsR
theorem zco{k:Int}(hk:kaa k){n:Nat}{W W':TB}{lw lw':List Nat}(h:IsRa k n W lw)(h':IsRa k n W' lw')(e:∀(F:Type) [Lean.Grind.Field F] (φ:La.Kf k F) (v:Nat->F),La.Rm φ W v↔La.Rm φ W' v):W=W':=by
 obtain⟨F,_,_,⟨φ⟩⟩:=La.yi hk;exact(h F φ).ext (h' F φ) (e F φ)
def freeOf(n:Nat)(ls:List Nat):List Nat:=(wV n).filter fun f=>!decide (f∈ls)
theorem zgJ(n:Nat)(ls:List Nat)(f:Nat):f∈freeOf n ls↔f<n/\f∉ls:=by
 unfold freeOf;rw[ve,vA];simp
theorem zgo{k:Int}(hk:kaa k){n:Nat}{W:TB}{lw:List Nat}(h:IsRa k n W lw):(freeOf n lw).length+W.length=n:=by
 obtain⟨_,e,pw,lt⟩:=ZP hk h;have h1:=La.qo (fun x=>decide (x∈lw)) (wV n);have h2:(wV n).filter (fun x=>decide (x∈lw))=lw:=La.jQ ((gX (n:=n)).filter _) pw (fun p hp=>by simpa using (ve.mp hp).2) (fun p hp=>ve.mpr ⟨vA.mpr (lt p hp),by simpa using hp⟩);rw[h2,uv]at h1;unfold freeOf;omega
theorem Grow.snocR{H H1 H2:Hp}{M:TB}{ras:List Addr}(G:Grow H H1 M ras)(g:Same H1 H2){xs:List Nb}{p:Addr}(hr:kah H2 xs p)(hp:H1 p=none):Grow H H2 (M++[xs]) (ras++[p]):=by
 have G':=G.mono g;refine⟨G'.same,zS G'.rows hr,fun r hr'=>?_,?_⟩
 ·rcases wq.mp hr' with h|h
  ·exact G.fr r h
  ·rw[wn.mp h];exact G.same.none hp
 ·rw[GB];refine⟨G.nd,by simp,fun a ha b hb e=>G.not_mem hp ?_⟩;rw[← wn.mp hb,← e];exact ha
theorem zaP{k:Int}(hk:kaa k){n C:Nat}{W:TB}(oW:La.OkM k n W)(h:La.kap C W)(c7:61<=C):∀ r∈W,∀ x∈r,nsm C x:=fun r hr x hx=>by
 obtain⟨D,d0,d1,hd⟩:=h r hr;have:0<2^C:=Gc (by decide);exact zjo hk (hd x hx) ((oW r hr).2 x hx) d0 d1 (by omega) c7
def SameR(k:Int)(W M:TB):Prop:=∀(F:Type) [Lean.Grind.Field F] (φ:La.Kf k F) (v:Nat->F),La.Rm φ W v↔La.Rm φ M v
def Gen(k:Int)(n g:Nat)(W:TB):Prop:=∃ M,La.OkM k n M/\La.kap g M/\SameR k W M
theorem zgH{k:Int}{n:Nat}{W M:TB}{lw:List Nat}(h:IsRa k n W lw)(e:SameR k W M):∀(F:Type) [Lean.Grind.Field F] (φ:La.Kf k F),La.kaw φ n M W lw:=fun F _ φ=>{ (h F φ)with to:=fun v q=>(e F φ v).mpr q,fro:=fun v q=>(e F φ v).mp q }
theorem zgv{k:Int}(hk:kaa k){n g:Nat}{W:TB}{lw:List Nat}(h:IsRa k n W lw)(g7:61<=g)(hg:Gen k n g W):La.kap ((g+1)*2^W.length) W:=by
 obtain⟨M,oM,cM,e⟩:=hg;exact zaE hk g7 oM cM (zgH h e)
theorem zb2{k:Int}(hk:kaa k){n g:Nat}{W:TB}{lw:List Nat}(h:IsRa k n W lw)(g7:61<=g)(hg:Gen k n g W):La.kap ((g+1)*2^n) W :=
 (zgv hk h g7 hg).mono (wU _ (vv (by decide) (jt hk h)))
end L2
namespace L2
open PySem PySem.Spec PyProof.Rows Nm
set_option maxHeartbeats 4000000
def RdR(k:Int)(n:Nat)(W:TB):Prop:=∃ lw,IsRa k n W lw
end L2
namespace L2
open PySem PySem.Spec PyProof.Rows Nm
theorem Ja{m:Nat}:∀(xs:List Nb),(∀ x∈xs,nsm m x)->∃ D:Nat,D≠0/\D<=2^(xs.length*m)/\∀ r:Rat,Nb.q r∈xs->r.den ∣ D
 | [],_=>⟨1,by decide,by simp,fun r h=>(nomatch h)⟩
 | x::xs,h=>by
  obtain⟨D,d0,dl,dd⟩:=Ja xs fun y hy=>h y (wr _ hy)
  have pm:2^((x::xs).length*m)=2^(xs.length*m)*2^m:=by rw[vO,gJ,uS,uK]
  cases x with
  | z i =>
   refine⟨D,d0,?_,fun r hr=>?_⟩
   ·rw[pm];exact wN dl (uz _ (gL m))
   ·rcases wF.mp hr with e|e
    ·cases e
    ·exact dd r e
  | q s =>
   have hs:s.den<2^m:=by
    have:=(h (.q s) wp).2;unfold Sm at this;omega
   refine⟨D*s.den,Nat.mul_ne_zero d0 s.den_nz,?_,fun r hr=>?_⟩
   ·rw[pm];exact vY dl (ux hs)
   ·rcases wF.mp hr with e|e
    ·cases e;exact Nat.dvd_mul_left _ _
    ·exact Ga (dd r e) (waw _ _)
theorem YB{k:Int}{n m:Nat}{xs:List Nb}(m1:1<=m)(h:ROk k n m xs):La.rowB ((n+1)*m) xs:=by
 obtain⟨D,d0,dl,dd⟩:=Ja xs h.sz;rw[h.len]at dl;have pm:2^((n+1)*m)=2^(n*m)*2^m:=by rw[gJ,uS,uK]
 have m2:2<=2^m:=vv (n:=2) (by decide) m1;have p1:0<2^(n*m):=gL _;refine⟨D,d0,?_,fun x hx=>?_⟩
 ·rw[pm]
  calc D<=2^(n*m):=dl
   _<2^(n*m)*2:=by omega
   _<=2^(n*m)*2^m:=wU _ m2
 ·cases x with
  | z i=>trivial
  | q r =>
   obtain⟨c,hc⟩:=dd r hx;have sr:=h.sz _ hx;refine⟨(c:Int)*r.num,?_,?_⟩
   ·have e1:((D:Int):Rat) =((r.den:Int):Rat) *((c:Int):Rat):=by rw[hc,uY,vh]
    have e2:r *((r.den:Int):Rat) =((r.num:Int):Rat):=La.kfRat.rat r rfl;rw[e1,vh,← e2]
    grind
   ·rw[vG];have hn:r.num.natAbs<2^m:=sr.1;have hc':c<=D:=by
     rw[hc];exact Nat.le_mul_of_pos_left _ r.den_pos
    have:((c:Int)).natAbs*r.num.natAbs<=2^(n*m) *(2^m - 1):=vY (by omega) (by omega);have e:2^(n*m) *(2^m - 1)=2^(n*m)*2^m - 2^(n*m):=by rw[wbe,Gu]
    rw[pm];omega
theorem zfo{k:Int}{r n m:Nat}{M:TB}(m1:1<=m)(h:TOk k r n m M):La.kap ((n+1)*m) M:=fun x hx=>YB m1 (h.row hx)
theorem ZM{k:Int}{n B:Nat}{M:TB}(k0:k≠0)(oM:La.OkM k n M)(b1:1<=B):La.kap B M:=fun r hr=>⟨1,by decide,wR (by decide:(1:Nat)<2^1) (vv (by decide) b1),fun x hx=>by
 have:=(oM r hr).2 x hx;cases x with
 | z i=>trivial
 | q s=>exact absurd (show k=0 from this) k0⟩
def Fit(k:Int)(n:Nat):Prop:=1<=n/\(n<=3\/(k≠0/\n<=10))
theorem Fit.n10{k:Int}{n:Nat}(h:Fit k n):n<=10:=by rcases h.2 with h|h <;> omega
theorem Qk{k:Int}{A B:TB}:∀(t:Nat)(r:List Nb),r∈La.kry k A B t->∃ b∈B,∃ i,i<=t/\r=powX k A b i
 | 0,r,hr=>⟨r,hr,0,wu _,rfl⟩
 | t+1,r,hr=>by
  rcases wq.mp hr with h|h
  ·exact⟨r,h,0,vq _,rfl⟩
  ·obtain⟨x,hx,rfl⟩:=wj.mp h;obtain⟨b,hb,i,hi,rfl⟩:=Qk t x hx;exact⟨b,hb,i+1,by omega,rfl⟩
theorem szP3:∀ n,n<4->∀ i,i<5->(n+1)*szP n 80 i<=74560:=by decide
theorem ze3{k:Int}(hk:kaa k){n b t:Nat}{A B:TB}(hf:Fit k n)(hA:TOk k n n 80 A)(hB:TOk k b n 80 B)(ht:t<=n+1):La.kap 74560 (La.kry k A B t):=by
 rcases hf.2 with h|h
 ·intro r hr;obtain⟨x,hx,i,hi,rfl⟩:=Qk t r hr;exact(YB (wN (by decide) (ziW (n:=n) (z:=80) (by decide) i)) (zcw hk (by decide) hA (hB.row hx) i)).mono (szP3 n (by omega) i (by omega))
 ·exact ZM h.1 (La.jc hk hA.ok hA.len hB.ok t) (by decide)
def capC(n c:Nat):Nat:=if n<=3 then c else 61
theorem pow2{n m:Nat}(h:n<=m):2^n<=2^m:=vv (by decide) h
theorem cap7{n c:Nat}(h:61<=c):61<=capC n c:=by unfold capC;split <;> omega
theorem cap1{k:Int}{n c:Nat}(hf:Fit k n)(h:(c+1)*8<=60000000):(capC n c+1)*2^n<=60000000:=by
 unfold capC
 split
 ·rename_i h3;exact wN (wU _ (pow2 h3)) h
 ·exact wN (wU _ (pow2 hf.n10)) (by decide)
theorem Jt{k:Int}{n c:Nat}{M:TB}(hf:Fit k n)(oM:La.OkM k n M)(h:n<=3->La.kap c M):La.kap (capC n c) M:=by
 unfold capC
 split
 ·rename_i h3;exact h h3
 ·rcases hf.2 with h'|h'
  ·omega
  ·exact ZM h'.1 oM (by decide)
theorem pow8{n:Nat}(h:n<=3):2^n<=8:=pow2 h
theorem QU{k:Int}(hk:kaa k){n b t:Nat}{A B R:TB}(hf:Fit k n)(hA:TOk k n n 80 A)(hB:TOk k b n 80 B)(ht:t<=n+1)(hR:RdR k n R)(e:SameR k R (La.kry k A B t)):TOk k R.length n 596488 R/\La.kap (capC n 596488) R:=by
 obtain⟨ls,iR⟩:=hR;have oR:=(ZP hk iR).1;have g:Gen k n 74560 R:=⟨_,La.jc hk hA.ok hA.len hB.ok t,ze3 hk hf hA hB ht,e⟩;have rb:La.kap (capC n 596488) R:=Jt hf oR fun h=>(zb2 hk iR (by decide) g).mono (wU 74561 (pow8 h))
 have cl:capC n 596488<=596488:=by unfold capC;split <;> omega
 exact⟨⟨rfl,oR,zaP hk oR (rb.mono cl) (by decide)⟩,rb⟩
theorem ze0{k:Int}(hk:kaa k){n:Nat}{A R:TB}(hf:Fit k n)(hA:TOk k n n 80 A)(hR:TOk k R.length n 596488 R):La.OkM k n (R.map (imgM k A))/\La.kap (capC n 7159072) (R.map (imgM k A)):=by
 have row:∀ x∈R,ROk k n (61+n *(80+596488+1)) (imgM k A x):=fun x hx=>zbt hk (by decide) hA (hR.row hx)
 have ok:La.OkM k n (R.map (imgM k A)):=fun r hr=>by
  obtain⟨x,hx,rfl⟩:=wj.mp hr;exact⟨(row x hx).len,(row x hx).ok⟩
 refine⟨ok,Jt hf ok fun h r hr=>?_⟩;obtain⟨x,hx,rfl⟩:=wj.mp hr;refine(YB (by omega) (row x hx)).mono ?_
 rcases (show n=0\/n=1\/n=2\/n=3 by omega)with e|e|e|e <;> subst e <;> decide
theorem Jq{k:Int}{n b:Nat}{B:TB}(hf:Fit k n)(hB:TOk k b n 80 B):La.kap (capC n 7159072) B:=Jt hf hB.ok fun h=>(zfo (by decide) hB).mono (wN (wP _ (show n+1<=4 by omega)) (by decide))
structure LeastOf(k:Int)(n:Nat)(A B R:TB):Prop where
 rd:RdR k n R
 eq:SameR k R (La.kry k A B n)
structure LrI(k:Int)(n:Nat)(A B R W:TB)(t:Nat):Prop where
 rR:RdR k n R
 rW:RdR k n W
 eR:SameR k R (La.kry k A B t)
 eW:SameR k W (La.kry k A B (t+1))
 le:t<=R.length
theorem LrI.sub{k:Int}(hk:kaa k){n b:Nat}{A B R W:TB}{t:Nat}(I:LrI k n A B R W t)(hA:TOk k n n 80 A)(hB:TOk k b n 80 B){F:Type}[Lean.Grind.Field F](φ:La.Kf k F):R.length<=W.length/\(W.length<=R.length->∀ v,La.Rm φ W v->La.Rm φ R v):=by
 obtain⟨lr,iR⟩:=I.rR;obtain⟨lw,iW⟩:=I.rW;exact(iR F φ).sub_len (iW F φ) fun v hv=>(I.eW F φ v).mpr (La.Zz hk hA.ok hA.len hB.ok t v ((I.eR F φ v).mp hv))
theorem LrI.done{k:Int}(hk:kaa k){n b:Nat}{A B R W:TB}{t:Nat}(I:LrI k n A B R W t)(hA:TOk k n n 80 A)(hB:TOk k b n 80 B)(h:¬ R.length<W.length):LeastOf k n A B R:=by
 refine⟨I.rR,fun F _ φ v=>?_⟩;have s:∀ v,La.Rm φ (La.kry k A B (t+1)) v->La.Rm φ (La.kry k A B t) v:=fun v hv=>(I.eR F φ v).mp ((I.sub hk hA hB φ).2 (by omega) v ((I.eW F φ v).mpr hv))
 exact(I.eR F φ v).trans (La.zgD hk hA.ok hA.len hB.ok s (by obtain⟨lr,iR⟩:=I.rR;have:=jt hk iR;have:=I.le;omega) v).symm
theorem LrI.step{k:Int}(hk:kaa k){n b:Nat}{A B R W W':TB}{t:Nat}(I:LrI k n A B R W t)(hA:TOk k n n 80 A)(hB:TOk k b n 80 B)(h:R.length<W.length)(rW':RdR k n W')(e:SameR k W' (B++W.map (imgM k A))):LrI k n A B W W' (t+1):=by
 obtain⟨lw,iW⟩:=I.rW;have lW:=jt hk iW;have oW:=(ZP hk iW).1;refine⟨I.rW,rW',I.eW,fun F _ φ v=>(e F φ v).trans (La.zcj hk hA.ok hA.len hB.ok oW (I.eW F φ) v),by have:=I.le;omega⟩
end L2
namespace L2
open PySem PySem.Spec PyProof.Rows Nm
end L2
namespace L2
open PySem PySem.Spec PyProof.Rows Nm
def szk(k:Int)(m:Nat)(x:Nb):Prop:=k=0->nsm m x
theorem szk.mono{k:Int}{m n:Nat}{x:Nb}(h:szk k m x)(hm:m<=n):szk k n x:=fun k0=>(h k0).mono hm
theorem szk.nsm{k:Int}(hk:kaa k){m n:Nat}{x:Nb}(o:x.ok k)(h:szk k m x)(hm:m<=n)(h7:61<=n):nsm n x:=by
 by_cases k0:k=0
 ·exact(h k0).mono hm
 ·exact(Zw hk k0 o).mono h7
theorem Jv{k:Int}{m n:Nat}{x y:Nb}(ox:x.ok k)(oy:y.ok k)(sx:szk k m x)(sy:szk k n y):szk k (m+n+1) (nadd k x y):=fun k0=>by
 rcases qQ ox oy with⟨_,r,s,rfl,rfl⟩|⟨h,_⟩
 ·have hx:=sx k0;have hy:=sy k0;show Sm _ (r+s).num/\Sm _ ((r+s).den:Int);rw[← zdI];obtain⟨h1,h2⟩:=qr (t:=r.num*s.den+s.num*r.den) (jX r s) ((hx.1.mul hy.2).add ((hy.1.mul hx.2).mono (by omega))) (hx.2.mul hy.2);exact⟨h1,h2.mono (wab _)⟩
 ·exact absurd k0 h
theorem jH{k:Int}{m n:Nat}{x y:Nb}(ox:x.ok k)(oy:y.ok k)(sx:szk k m x)(sy:szk k n y):szk k (m+n) (nmul k x y):=fun k0=>by
 rcases qQ ox oy with⟨_,r,s,rfl,rfl⟩|⟨h,_⟩
 ·have hx:=sx k0;have hy:=sy k0;show Sm _ (r*s).num/\Sm _ ((r*s).den:Int);rw[← za8];exact qr (jX r s) (hx.1.mul hy.1) (hx.2.mul hy.2)
 ·exact absurd k0 h
section
variable{H H':Hp}{Ms:List (TB)}{ts:List Addr}{rs:List (List Addr)}
theorem zcM{i j:Nat}{ras:List Addr}{a:Addr}(h1:rs[i]?=some ras)(h2:ras[j]?=some a):adr rs i j=some a:=by unfold adr;rw[h1];exact h2
theorem kai.setRow(G:kai H H' Ms ts rs){i j:Nat}{M:TB}{ras:List Addr}{a:Addr}(hM:Ms[i]?=some M)(hr:rs[i]?=some ras)(ha:ras[j]?=some a){us:List V}(hu:H' a=some (.lst us)){xs:List Nb}{vs:List V}(hv:Paired (RN H') xs vs):kai H (upd H' a (.lst vs)) (Ms.set i (M.set j xs)) ts rs:=by
 have rm:=wg hr;have am:=wg ha;refine⟨yC G.same (G.frr ras rm a am),by rw[vg];exact G.lt,by rw[vg];exact G.lr,fun i' M' t' ras' h1 h2 h3=>?_,G.frt,G.frr,G.nd,G.sep,G.inj⟩;have nt:t'≠a:=fun e=>G.sep t' (wg h2) ras rm (by rw[e];exact am)
 by_cases e:i'=i
 ·subst e;rw[hr]at h3;cases h3;have lM:i'<Ms.length:=(ww.mp hM).1;rw[wY,if_pos rfl,if_pos lM]at h1;cases h1;have T:=G.tabs i' M t' ras hM h2 hr;refine⟨by rw[zM nt];exact T.1,Zf (by rw[vg];exact zj T.2) fun j' x' a' e1 e2=>?_⟩
  by_cases ej:j'=j
  ·subst ej;rw[ha]at e2;cases e2;have lj:j'<M.length:=by rw[zj T.2];exact(ww.mp ha).1
   rw[wY,if_pos rfl,if_pos lj]at e1;cases e1;exact⟨vs,zg,xp (fun _ _ r=>r.upd hu) hv⟩
  ·rw[wY,if_neg (Ne.symm ej)]at e1;exact(xl T.2 e1 e2).upd (fun z=>ej (by subst z;exact(G.inj _ _ _ _ _ (zcM hr e2) (zcM hr ha)).2)) hu
 ·rw[wY,if_neg (Ne.symm e)]at h1;refine(G.tabs i' M' t' ras' h1 h2 h3).upd nt (fun hm=>e ?_) hu;obtain⟨j',hj',e2⟩:=wI hm;exact(G.inj _ _ _ _ _ (zcM h3 (by rw[wc hj',e2])) (zcM hr ha)).1
theorem kai.setSlot(G:kai H H' Ms ts rs){i j:Nat}{M:TB}{ras:List Addr}{t p:Addr}{xs:List Nb}(hM:Ms[i]?=some M)(ht:ts[i]?=some t)(hr:rs[i]?=some ras)(hj:j<ras.length)(hp:kah H' xs p)(fp:H p=none)(np:p∉ts)(nr:∀ ras∈rs,p∉ras) :
  kai H (upd H' t (.lst ((ras.set j p).map V.ref))) (Ms.set i (M.set j xs)) ts (rs.set i (ras.set j p)):=by
 have tm:=wg ht;have rm:=wg hr;have T0:=G.tabs i M t ras hM ht hr;have li:i<rs.length:=(ww.mp hr).1;have lM:i<Ms.length:=(ww.mp hM).1;have pt:p≠t:=fun e=>np (by rw[e];exact tm)
 have mem':∀ x∈rs.set i (ras.set j p),∀ a∈x,a=p\/∃ y∈rs,a∈y:=fun x hx a ha=>by
  rcases La.yk hx with e|e
  ·subst e
   rcases La.yk ha with e|e
   ·exact .inl e
   ·exact .inr ⟨ras,rm,e⟩
  ·exact .inr ⟨x,e,ha⟩
 have adr':∀ i' j',adr (rs.set i (ras.set j p)) i' j'=if i'=i/\j'=j then some p else adr rs i' j':=fun i' j'=>by
  unfold adr;rw[wY]
  by_cases e:i'=i
  ·subst e;rw[if_pos rfl,if_pos li,hr];show(ras.set j p)[j']?=if i'=i'/\j'=j then some p else ras[j']?
   rw[wY]
   by_cases ej:j'=j
   ·subst ej;rw[if_pos rfl,if_pos hj,if_pos ⟨rfl,rfl⟩]
   ·rw[if_neg (Ne.symm ej),if_neg (fun h=>ej h.2)]
  ·rw[if_neg (Ne.symm e),if_neg (fun h=>e h.1)]
 have notp:∀ i' j' a,adr rs i' j'=some a->a≠p:=fun i' j' a h e=>by
  obtain⟨x,hx,hx'⟩:=Qc h;exact nr x (wg hx) (by rw[← e];exact wg hx')
 refine⟨yC G.same (G.frt t tm),by rw[vg];exact G.lt,by rw[vg,vg];exact G.lr,fun i' M' t' ras' h1 h2 h3=>?_,G.frt,fun x hx a ha=>?_,G.nd,fun x hx y hy hm=>?_,fun i1 j1 i2 j2 a h1 h2=>?_⟩
 ·by_cases e:i'=i
  ·subst e;rw[ht]at h2;cases h2;rw[wY,if_pos rfl,if_pos lM]at h1;rw[wY,if_pos rfl,if_pos li]at h3;cases h1;cases h3;refine⟨zg,Zf (by rw[vg,vg];exact zj T0.2) fun j' x' a' e1 e2=>?_⟩
   by_cases ej:j'=j
   ·subst ej;rw[wY,if_pos rfl,if_pos (by rw[zj T0.2];exact hj)]at e1;rw[wY,if_pos rfl,if_pos hj]at e2;cases e1;cases e2;exact hp.upd pt T0.1
   ·rw[wY,if_neg (Ne.symm ej)]at e1 e2;exact(xl T0.2 e1 e2).upd (fun z=>G.sep t tm ras rm (by rw[← z];exact wg e2)) T0.1
  ·rw[wY,if_neg (Ne.symm e)]at h1 h3;have n1:t'≠t:=fun z=>e (by
    subst z;exact(GA (ww.mp h2).1 G.nd).mp (h2.trans ht.symm))
   exact(G.tabs i' M' t' ras' h1 h2 h3).upd n1 (G.sep t tm ras' (wg h3)) T0.1
 ·rcases mem' x hx a ha with e|⟨y,hy,hay⟩
  ·rw[e];exact fp
  ·exact G.frr y hy a hay
 ·rcases mem' y hy x hm with e|⟨z,hz,hxz⟩
  ·exact np (by rw[← e];exact hx)
  ·exact G.sep x hx z hz hxz
 ·rw[adr']at h1 h2
  by_cases c1:i1=i/\j1=j
  ·rw[if_pos c1]at h1;cases h1
   by_cases c2:i2=i/\j2=j
   ·exact⟨c1.1.trans c2.1.symm,c1.2.trans c2.2.symm⟩
   ·rw[if_neg c2]at h2;exact absurd rfl (notp _ _ _ h2)
  ·rw[if_neg c1]at h1
   by_cases c2:i2=i/\j2=j
   ·rw[if_pos c2]at h2;cases h2;exact absurd rfl (notp _ _ _ h1)
   ·rw[if_neg c2]at h2;exact G.inj _ _ _ _ _ h1 h2
end
end L2
namespace L2
open PySem PySem.Spec PyProof.Rows Nm
theorem zdV:∀ {ns:List Int} {its:List Value},Vals (ns.map V.int) its->IntsAre its ns
 | [],_,h=>by cases h;exact .nil
 | n::ns,_,h=>by
  cases h with
  | cons r t =>
   obtain⟨tk,e⟩:=r;subst e;exact .cons n tk (zdV t)
theorem zbu:∀ {ns:List Int} {its:List Value},IntsAre its ns->Vals (ns.map V.int) its
 | _,_,.nil=>.nil
 | _,_,.cons n tk t=>.cons ⟨tk,rfl⟩ (zbu t)
section
variable{X:Cx}{K:PySem.W.Frag}
theorem Ys:CallR X (.builtin "sorted") (fun xs H Q=>∃ p ns,xs=[.ref p]/\SqL X.K H p ((ns:List Int).map V.int)/\ns.length<64/\∀(l:Addr)(ns':List Int),H l=none->ns'.Perm ns->ns'.Pairwise (·<=·)->Q (.ref l) (upd H l (.lst (ns'.map V.int)))):=by
 intro pins s σ H xs us Q I r h;obtain⟨p,ns,rfl,hq,h64,q⟩:=h;obtain⟨u,rfl,rx⟩:=vals1 r;cases rx;obtain⟨its,r',pl,hz⟩:=I.list hq;have hl:=r'.length;rw[wa]at hl;refine sorted_ints pl.isList (zdV r') (by omega) fun out ns' a1 a2 a3=>?_
 obtain⟨e,he⟩:=sortedAll_at s.heap its out;have hl':=(zbu a1).length;rw[wa]at hl';have hp:=a2.length_eq;rw[wa]at hz;refine⟨.ref (s.heap.objs.size+1),_,I.laid (t':=s.toks) (fun _ _=>sortedAll_old) (wab _) (show ObjOk X.prog X.w _ _ _ (.lst (ns'.map V.int))from⟨by rw[wa];omega,out.toList,e,zbu a1,he⟩),rfl,q _ ns' (I.hok.fresh (wab _)) a2 a3⟩
theorem zad (hK:X.K=K):CallR X (.builtin "sorted") (fun xs H Q=>∃ p ns,xs=[.ref p]/\SqL K H p ((ns:List Int).map V.int)/\ns.length<64/\∀(l:Addr)(ns':List Int),H l=none->ns'.Perm ns->ns'.Pairwise (·<=·)->Q (.ref l) (upd H l (.lst (ns'.map V.int)))):=hK ▸ Ys
inductive IntEs:List Expr->List Int->Prop
 | nil:IntEs [] []
 | cons {i:Int} {j:Nat} {pos:Pos} {es:List Expr} {ns:List Int}:IntEs es ns->IntEs (.Constant (.int i) j pos::es) (i::ns)
def tInts(ns:List Int):TA:=fun _ H Q=>Q (ns.map V.int) H
theorem ziD{es:List Expr}(ns:List Int)(h:IntEs es ns):PA X es (tInts ns):=by
 induction h with
 | nil=>exact zd
 | @cons i j pos es ms _ ih=>exact za (te:=tC (.int i)) (t:=tInts ms) zf ih rfl
end
end L2
namespace L2
open PySem PySem.Spec PyProof.Rows
def K0:PySem.W.Frag:=[]
section
variable{X:Cx}{K:PySem.W.Frag}
theorem SqL.up{H:Hp}{a:Addr}{xs:List V}(h:SqL K0 H a xs):SqL K H a xs:=by
 rcases h with h|⟨o,its,n,hl,_⟩
 ·exact .inl h
 ·cases hl
theorem SqT.up{H:Hp}{a:Addr}{xs:List V}(h:SqT K0 H a xs):SqT K H a xs:=by
 rcases h with h|⟨o,its,n,hl,_⟩
 ·exact .inl h
 ·cases hl
theorem zjm{T:String}{x:V}{H:Hp}(h:tyV K0 T x H):tyV K T x H:=by
 cases x with
 | ref p =>
  rcases h with⟨e,xs,hx⟩|⟨e,o,ho,_⟩|h|h
  ·exact .inl ⟨e,xs,hx.up⟩
  ·cases ho
  ·exact .inr (.inr (.inl h))
  ·exact .inr (.inr (.inr h))
 | _=>exact h
def mo(t:TE):TE:=fun σ H Q=>∃ Q0:VK,t σ H Q0/\∀ x H',Q0 x H'->Q x H'
def moA(t:TA):TA:=fun σ H Q=>∃ Q0:List V->Hp->Prop,t σ H Q0/\∀ x H',Q0 x H'->Q x H'
theorem PE.mo{e:Expr}{t:TE}(h:PE X e t):PE X e (mo t):=fun pins s σ H Q I ⟨Q0,h0,hq⟩ =>
 thn (h pins s σ H Q0 I h0) fun v s1 ⟨x,H1,I1,r,q⟩=>⟨x,H1,I1,r,hq x H1 q⟩
theorem PA.mo{es:List Expr}{t:TA}(h:PA X es t):PA X es (moA t):=fun pos pins s σ H Q I ⟨Q0,h0,hq⟩ =>
 thn (h pos pins s σ H Q0 I h0) fun v s1 ⟨x,H1,I1,r,q⟩=>⟨x,H1,I1,r,hq x H1 q⟩
theorem zo:IxR X (rIxL K0):=fun value slice pins s σ H x y v u Q I rx ry ⟨p,xs,i,w,e1,e2,h,e3,q⟩ hs =>
 zhO value slice pins s σ H x y v u Q I rx ry ⟨p,xs,i,w,e1,e2,h.up,e3,q⟩ hs
theorem zG:IxR X (rIxT K0):=fun value slice pins s σ H x y v u Q I rx ry ⟨p,xs,i,w,e1,e2,h,e3,q⟩ hs =>
 zhE value slice pins s σ H x y v u Q I rx ry ⟨p,xs,i,w,e1,e2,h.up,e3,q⟩ hs
theorem xB:SlR X (rSlL K0):=fun pins s σ H x v vl vu lo hi sl Q I rx hs p1 p2 ⟨a,xs,e,h,q⟩ =>
 zep pins s σ H x v vl vu lo hi sl Q I rx hs p1 p2 ⟨a,xs,e,h.up,q⟩
inductive ILen(xs:List V)(H:Hp)(Q:VK):Prop where
 | mk (p:Addr) (ys:List V) (e:xs=[.ref p]) (h:SqL K0 H p ys\/SqT K0 H p ys) (q:Q (.int (ys.length:Int)) H):ILen xs H Q
theorem zA:CallR X (.builtin "len") ILen :=
 fun pins s σ H xs us Q I vs ⟨p,ys,e,h,q⟩=>Xe (K:=X.K) rfl pins s σ H xs us Q I vs ⟨p,ys,e,h.imp SqL.up SqT.up,q⟩
theorem Jp:CallR X (.type "list") (fun xs H Q=>∃ p ys,xs=[.ref p]/\(SqL K0 H p ys\/SqT K0 H p ys)/\∀ l,H l=none->Q (.ref l) (upd H l (.lst ys))) :=
 fun pins s σ H xs us Q I vs ⟨p,ys,e,h,q⟩=>zdn (K:=X.K) rfl pins s σ H xs us Q I vs ⟨p,ys,e,h.imp SqL.up SqT.up,q⟩
theorem zfb (hc:X.calm=true):CallR X (.builtin "sum") (fun xs H Q=>∃ p ns,xs=[.ref p]/\SqL K0 H p (waM V.int ns)/\Q (.int ns.sum) H) :=
 fun pins s σ H xs us Q I vs ⟨p,ys,e,h,q⟩=>zeR (K:=X.K) hc rfl pins s σ H xs us Q I vs ⟨p,ys,e,h.up,q⟩
theorem zaQ:CallR X (.builtin "sorted") (fun xs H Q=>∃ p ns,xs=[.ref p]/\SqL K0 H p (waM V.int ns)/\ns.length<64/\∀(l:Addr)(ns':List Int),H l=none->ns'.Perm ns->ns'.Pairwise (·<=·)->Q (.ref l) (upd H l (.lst (ns'.map V.int)))) :=
 fun pins s σ H xs us Q I vs ⟨p,ys,e,h,q⟩=>zad (K:=X.K) rfl pins s σ H xs us Q I vs ⟨p,ys,e,h.up,q⟩
theorem xv{pos:Pos}{es:List Expr}{k:Nat}{t:TGs}(n:Nat)(hc:X.calm=true)(hg:PGs X es t)(hn:(assignEach es X.env).length=n:=by rfl)(hs:(assignEach es X.env).findIdx? (fun x=>x.fst)=none:=by rfl):PG X (.Tuple es k pos) (gTup K0 n t) :=
 fun pins s σ H v u Q I r ⟨a,xs,e,h,l,q⟩=>zfB (K:=X.K) n rfl hc hg hn hs pins s σ H v u Q I r ⟨a,xs,e,h.up,l,q⟩
theorem zhT{pos:Pos}{es:List Expr}{k:Nat}{t:TGs}(n:Nat)(hc:X.calm=true)(hg:PGs X es t)(hn:(assignEach es X.env).length=n:=by rfl)(hs:(assignEach es X.env).findIdx? (fun x=>x.fst)=none:=by rfl):PG X (.Tuple es k pos) (gLst K0 n t) :=
 fun pins s σ H v u Q I r ⟨a,xs,e,h,q⟩=>zih (K:=X.K) n rfl hc hg hn hs pins s σ H v u Q I r ⟨a,xs,e,h.up,q⟩
structure It.le(J0 J:It):Prop where
 go:∀ i H,J0.go i H->J.go i H
 stop:∀ i H,J0.stop i H->J.stop i H
 yld:∀ i H x H',J.yld i H x H'->J0.yld i H x H'
theorem Turn.weaken{P:Program}{w:World}{tg:Expr}{J J0:It}{fp:List Addr}{it:Addr}{tn:Nat->Heap->Prop}(T:Turn P w K tg J fp it tn)(l:It.le J0 J):Turn P w K tg J0 fp it tn where
 mem:=T.mem
 obj:=T.obj
 keep:=T.keep
 self:=T.self
 item:=fun X p1 p2 p3 p4 i pins s σ H E I f t g=>thn (T.item X p1 p2 p3 p4 i pins s σ H E I f t (l.go i H g)) fun r s1 ⟨u,e,hw⟩=>⟨u,e,thn hw fun _ s2 ⟨x,H',a,b,y,c⟩=>⟨x,H',a,b,l.yld _ _ _ _ y,c⟩⟩
 done:=fun X p1 p2 p3 p4 i pins s σ H E I f t g=>T.done X p1 p2 p3 p4 i pins s σ H E I f t (l.stop i H g)
theorem zjF(a:Addr):It.le (Itl K0 a) (Itl K a):=⟨fun i H ⟨xs,x,h,e⟩=>⟨xs,x,h.up,e⟩,fun i H ⟨xs,h,e⟩=>⟨xs,h.up,e⟩,fun i H x H' ⟨e,h⟩=>⟨e,fun xs hx=>h xs hx.up⟩⟩
theorem zjM(a b:Addr):It.le (Itz K0 a b) (Itz K a b):=⟨fun i H ⟨xs,ys,x,y,h,h2,e⟩=>⟨xs,ys,x,y,h.up,h2.up,e⟩,fun i H ⟨xs,ys,h,h2,e⟩=>⟨xs,ys,h.up,h2.up,e⟩,
 fun i H v H' ⟨T,x,y,e1,e2,e3,h1,h2⟩=>⟨T,x,y,e1,e2,e3,fun xs hx=>h1 xs hx.up,fun ys hy=>h2 ys hy.up⟩⟩
theorem zhG{pins:List (Addr×Obj)}{σ:St}{tg:Expr}{R:It->Hp->Prop}{itv:Value}{s:Shared}(h:PIE X pins σ tg (fun J H=>∃ J0,It.le J0 J/\R J0 H) itv s):PIE X pins σ tg R itv s:=by
 obtain⟨it,fp,tn,J,H',e,I2,T,t0,fo,J0,l,q⟩:=h;exact⟨it,fp,tn,J0,H',e,I2,T.weaken l,t0,fo,q⟩
theorem zE{tg l:Expr}{tl:TE}(hl:PE X l tl):PI X tg l (iList K0 tl):=fun pins s σ H R I h =>
 thn (zfv hl.mo pins s σ H (fun J H=>∃ J0,It.le J0 J/\R J0 H) I ⟨_,h,fun x H1 ⟨a,e,⟨xs,hx⟩,q⟩=>⟨a,e,⟨xs,hx.up⟩,_,zjF a,q⟩⟩) fun _ _ hw=>thn hw fun _ _ hp=>zhG hp
theorem jZ {a b:Expr} {ta:TA} {p pos:Pos} {elts:List Expr} {k1:Nat} {tpos:Pos} (hg:Gl X "zip") (hm:X.mg "zip" = none) (ha:PA X [a,b] ta) (hs:starEach [a,b] X.env=[(false,eval a X.env),(false,eval b X.env)]:=by rfl) (hs2:starEach [b] X.env=[(false,eval b X.env)]:=by rfl) :
  PI X (.Tuple elts k1 tpos) (.Call (.Name "zip" p) [a,b] [] pos) (iZip K0 ta):=fun pins s σ H R I h =>
 thn (zi8 hg hm ha.mo hs hs2 pins s σ H (fun J H=>∃ J0,It.le J0 J/\R J0 H) I ⟨_,h,fun x H1 ⟨a,b,xs,ys,e,hx,hy,q⟩=>⟨a,b,xs,ys,e,hx.up,hy.up,_,zjM a b,q⟩⟩) fun _ _ hw=>thn hw fun _ _ hp=>zhG hp
theorem bm0{o e':Expr}{T:String}{r:V->List V->Hp->VK->Prop}{to:TE}{t:TA}(h:∀ to',PE X o to'->PE X e' (tBM X.K T r to' t))(ho:PE X o to):PE X e' (tBM K0 T r to t):=fun pins s σ H Q I hh =>
 h (mo to) ho.mo pins s σ H Q I ⟨_,hh,fun x H1 ⟨a,b⟩=>⟨zjm a,b⟩⟩
end
end L2
namespace L2
open PySem PySem.Spec PyProof.Rows
section
variable{X:Cx}{scope:Scope}
theorem zt{x:Str}{k j:Nat}{ps:List Str}{sp:Sp}{p pos:Pos}{e:Expr}{es:List Expr}{t:TA}(D:Kn X.prog X.w X.K X.mg X.base x k ps sp)(hr:Room j X.A)(ha:PA X (e::es) t)(hj:k<=j:=by decide)(hg:Gl X x:=by rfl)
  (hdb:(x ==("__debug__" : Str))=false:=by decide) (he:starEach (e::es) X.env =(false,eval e X.env)::starEach es X.env:=by rfl) (hpl:(backTo pos (starEach es X.env)).any (·.1)=false:=by rfl) :
  PE X (.Call (.Name x p) (e::es) [] pos) (tCall sp [] E0 t):=zbj D (hr.mono hj) hg ha hdb he hpl
theorem yV{y:Str}{elt iter:Expr}{ifs:List Expr}{pos posn:Pos}{wi:TI}{tt:TT}{te:TE}(fre:List Str)(idx:List Nat)(hi:PI X (.Name y posn) iter wi)
  (hb:∀(L:Addr)(cells:List (Str×Addr))(s₀:Shared)(H₀:Hp)(ex:List Addr)(pn:List (Addr×Obj)),PTs (blk X [y] fre scope L cells s₀ H₀ ex pn) ifs tt/\PE (blk X [y] fre scope L cells s₀ H₀ ex pn) elt te)
  (B:BlkOk X [y] fre idx scope:=by exact⟨rfl,rfl,rfl,rfl,rfl,rfl,by decide +kernel⟩) (hc:X.calm=true:=by rfl)
  (hg:∀(L:Addr)(cells:List (Str×Addr))(s₀:Shared)(H₀:Hp)(ex:List Addr)(pn:List (Addr×Obj)),PG (blk X [y] fre scope L cells s₀ H₀ ex pn) (.Name y posn) (gName 0):=by exact fun _ _ _ _ _ _=>zC (i:=0) (by dsimp only [blk];decide) rfl (by first|exact Or.inl rfl|exact Or.inr rfl))
  (hs:∀ x,foldedSetIterable iter X.env x=pure x:=by intro _;rfl):PE X (.ListComp elt [⟨.Name y posn,iter,ifs,0⟩] scope pos) (tComp [y].length idx wi (gName 0) tt te) :=
 jy [y] fre idx B hc hi (yd (waP)) (fun a b c d e f=>⟨hg a b c d e f,hb a b c d e f⟩) hs
theorem Yd{y:Str}{elt iter:Expr}{ifs:List Expr}{pos pos' spos posn:Pos}{wi:TI}{tt:TT}{te:TE}(i:Nat){x:Str}(hN:X.N.Nodup)(fre:List Str)(idx:List Nat)(hi:PI X (.Name y posn) iter wi)
  (hb:∀(L:Addr)(cells:List (Str×Addr))(s₀:Shared)(H₀:Hp)(ex:List Addr)(pn:List (Addr×Obj)),PTs (blk X [y] fre scope L cells s₀ H₀ ex pn) ifs tt/\PE (blk X [y] fre scope L cells s₀ H₀ ex pn) elt te)
  (hi':X.N[i]?=some x:=by rfl) (hx:X.env.scope.names.lookup x=some .local:=by rfl)
  (B:BlkOk X [y] fre idx scope:=by exact⟨rfl,rfl,rfl,rfl,rfl,rfl,by decide +kernel⟩) (hc:X.calm=true:=by rfl)
  (hg:∀(L:Addr)(cells:List (Str×Addr))(s₀:Shared)(H₀:Hp)(ex:List Addr)(pn:List (Addr×Obj)),PG (blk X [y] fre scope L cells s₀ H₀ ex pn) (.Name y posn) (gName 0):=by exact fun _ _ _ _ _ _=>zC (i:=0) (by dsimp only [blk];decide) rfl (by first|exact Or.inl rfl|exact Or.inr rfl))
  (hsw:swapsWith (.ListComp elt [⟨.Name y posn,iter,ifs,0⟩] scope pos) (some (.Name x pos')) spos.line X.env=pure true:=by rfl)
  (hs:∀ x,foldedSetIterable iter X.env x=pure x:=by intro _;rfl):PS X (.Assign [.Name x pos'] (.ListComp elt [⟨.Name y posn,iter,ifs,0⟩] scope pos) spos) (tAsgC [y].length idx wi (gName 0) tt te i) :=
 zhL hN hi' hx [y] fre idx B hc hi (yd (waP)) (fun a b c d e f=>⟨hg a b c d e f,hb a b c d e f⟩) hsw hs
theorem zD{a b:Expr}{pos:Pos}{ta tb:TE}{r:R2}(hr:IxR X r)(ha:PE X a ta)(hb:PE X b tb)(hs:PlainIx b:=by exact fun _ _=>rfl):PE X (.Subscript a b pos) (tOp r ta tb):=zj3 hr ha hb hs
end
end L2
namespace L2
open PySem PySem.Spec PyProof.Rows
def RemS(l:Addr)(items:Array Value)(n:Nat)(x:Value)(j i:Nat):PySem.Spec:=fun A R s =>
 s.heap.get? l=some { cls:=Value.type "list",data:=Data.seq items n }/\j<items.size/\items.size<=sizeLine/\A.units+63<cLine /\
 (∃ dx bs,Reads s.heap x dx bs/\dx.canLay0=true/\dx.depth<=60/\∀ m v,i<=m->m<=j->items[m]?=some v->∃ d as,Reads s.heap v d as/\d.canLay0=true/\PyData.eqv d dx=decide (m=j)) /\
 R (Except.ok (Flow.ret Value.none)) { s with heap:=s.heap.update l (Obj.mapSeq fun xs=>xs.eraseIdxIfInBounds j) }
theorem zaJ(l:Addr)(items:Array Value)(n:Nat)(x:Value)(j:Nat):∀ k i:Nat,i+k=j->Meets (Builtin.«list.remove.loop» { pos:=[Value.ref l,x,rawInt (i:Int)] }) (RemS l items n x j i):=by
 intro k
 induction k with
 | zero =>
  intro i e prog w A R s ⟨hg,hj,hz,hu,⟨dx,bs,rx,cx,px,hm⟩,hR⟩;obtain rfl:i=j:=by omega
  have hi:items[i]?=some items[i]:=Array.getElem?_eq_getElem hj;obtain⟨d,as,r,c,ev⟩:=hm i _ (wu _) (wu _) hi;unfold Builtin.«list.remove.loop» rawInt;refine wpAny_bind (listItems_at hg rfl ?_);simp only[wS,hi];refine wpAny_bind (SeqAt.eqBoolOverData prog w A.in1 _ s _ _ d dx as bs _ r rx c cx (by show A.units+1+_<_;omega) ?_);rw[ev,decide_eq_true rfl,if_pos rfl];refine wpAny_bind (listUpdate_at hg rfl ?_ hz ?_)
  ·exact wpAny_pure hR
  ·show(items.eraseIdxIfInBounds i).size<=_;have:(items.eraseIdxIfInBounds i).size<=items.size:=by
    unfold Array.eraseIdxIfInBounds
    split
    all_goals (rw[Array.size_eraseIdx];omega)
   omega
 | succ k ih =>
  intro i e prog w A R s ⟨hg,hj,hz,hu,⟨dx,bs,rx,cx,px,hm⟩,hR⟩;have hlt:i<items.size:=by omega
  have hi:items[i]?=some items[i]:=Array.getElem?_eq_getElem hlt;obtain⟨d,as,r,c,ev⟩:=hm i _ (wu _) (by omega) hi;unfold Builtin.«list.remove.loop» rawInt;refine wpAny_bind (listItems_at hg rfl ?_);simp only[wS,hi];refine wpAny_bind (SeqAt.eqBoolOverData prog w A.in1 _ s _ _ d dx as bs _ r rx c cx (by show A.units+1+_<_;omega) ?_);rw[ev,decide_eq_false (by omega),if_neg (by decide)];exact MeetsSeq.meets_again rfl MeetsSeq.plain_remove_loop MeetsSeq.entry_remove_loop (ih (i+1) (by omega)) prog w A R s ⟨hg,hj,hz,hu,⟨dx,bs,rx,cx,px,fun m v h1 h2 h3=>hm m v (by omega) h2 h3⟩,hR⟩
theorem removeD(l:Addr)(items:Array Value)(n:Nat)(x:Value)(j:Nat):Meets (Builtin.«list.remove» { pos:=[Value.ref l,x] }) (RemS l items n x j 0) :=
 MeetsSeq.meets_again rfl MeetsSeq.plain_remove_loop MeetsSeq.entry_remove_loop (zaJ l items n x j j 0 (by omega))
theorem zb1{α β:Type}{R:α->β->Prop}{xs:List α}{ys:List β}(h:Paired R xs ys):∀ j,Paired R (xs.eraseIdx j) (ys.eraseIdx j):=by
 induction h with
 | nil=>intro j;exact .nil
 | cons r _ ih=>intro j;cases j with
  | zero=>assumption
  | succ j=>exact .cons r (ih j)
section
variable{X:Cx}
inductive IRem(x:V)(vs:List V)(H:Hp)(Q:VK):Prop where
 | mk (l:Addr) (xs:List V) (y:V) (j:Nat) (dy:PyData) (h0_:x=.ref l) (h1_:vs=[y]) (h2_:H l=some (.lst xs)) (h3_:j<xs.length) (h4_:Rp H dy y) (h5_:dy.canLay0=true) (h6_:dy.depth<=60)
   (h7_:∀ m z,m<=j->xs[m]?=some z->∃ d,Rp H d z/\d.canLay0=true/\PyData.eqv d dy=decide (m=j)) (h8_:Q .non (upd H l (.lst (xs.eraseIdx j)))):IRem x vs H Q
theorem zeO {k:Nat} (hr:Room k X.A):MtM X "list.remove" IRem:=by
 intro pins s σ H x vs v us Q I rx rv h;obtain⟨l,xs,y,j,dy,rfl,rfl,hH,hj,hy,cy,py,hm,q⟩:=h;cases rx;obtain⟨u,rfl,ru⟩:=rv.one;obtain⟨z,its,n,r,hl,e⟩:=I.lstM hH;obtain⟨bs,ry⟩:=Rp.reads I dy y u hy ru;refine call_meets F.slot_list_remove ⟨_,e,rfl⟩ F.entry_list_remove (F.args_list_remove_2 _ _) (removeD l its.toArray n u j) ⟨e,by rw[wJ];omega,by rw[wJ];omega,by have:=hr.units;omega,⟨dy,bs,ry,cy,py,fun m v _ hmj hv=>?_⟩,?_⟩
 ·rw[List.getElem?_toArray]at hv;obtain⟨zz,hzz,rz⟩:=zT r hv;obtain⟨d,hd,cd,ed⟩:=hm m zz hmj hzz;obtain⟨as,ra⟩:=Rp.reads I d zz v hd rz;exact⟨d,as,ra,cd,ed⟩
 ·refine⟨.non,_,I.lset (its':=its.eraseIdx j) (ys:=xs.eraseIdx j) hH e ?_ ?_ ?_,rfl,q⟩
  ·show its.toArray.eraseIdxIfInBounds j=_;rw[Array.eraseIdxIfInBounds];rw[dif_pos (by rw[wJ];omega)];simp
  ·exact zb1 r j
  ·rw[List.length_eraseIdx];split <;> omega
end
end L2
namespace La
open Lean.Grind Nm
section
variable{k:Int}{F:Type}[Field F]{φ:Kf k F}{n:Nat}
theorem Rr.snoc{P:List (Pv F)}(R:Rr n P){c:Nat}(lt:∀ q∈P,q.1<c)(hc:c<n){f:Nat->F}(f0:∀ j,j<c->f j=0)(f1:f c=1)(fo:∀ j,n<=j->f j=0) :
  Rr n (P.map (fun q=>(q.1,fun j=>q.2 j - q.2 c*f j))++[(c,f)]):=by
 have cases:∀ q∈P.map (fun q=>(q.1,fun j=>q.2 j - q.2 c*f j))++[(c,f)],(∃ p∈P,q =(p.1,fun j=>p.2 j - p.2 c*f j))\/q =(c,f):=fun q hq=>by
  rcases wq.mp hq with h|h
  ·obtain⟨p,hp,e⟩:=wj.mp h;exact .inl ⟨p,hp,e.symm⟩
  ·exact .inr (wn.mp h)
 refine⟨?_,fun q hq=>?_,fun q hq j hj=>?_,fun q hq j hj=>?_,fun q hq=>?_,fun q hq r hr ne=>?_⟩
 ·rw[wac];refine⟨?_,GP _ _,fun a ha b hb=>?_⟩
  ·rw[uQ];exact R.inc
  ·obtain⟨p,hp,rfl⟩:=wj.mp ha;rw[wn.mp hb];exact lt p hp
 ·rcases cases q hq with⟨p,hp,rfl⟩|rfl
  ·exact R.lt p hp
  ·exact hc
 ·rcases cases q hq with⟨p,hp,rfl⟩|rfl
  ·show p.2 j - p.2 c*f j=0;rw[R.out p hp j hj,fo j hj];grind
  ·exact fo j hj
 ·rcases cases q hq with⟨p,hp,rfl⟩|rfl
  ·show p.2 j - p.2 c*f j=0;have hj':j<p.1:=hj;rw[R.bef p hp j hj',f0 j (wa1 hj' (lt p hp))];grind
  ·exact f0 j hj
 ·rcases cases q hq with⟨p,hp,rfl⟩|rfl
  ·show p.2 p.1 - p.2 c*f p.1=1;rw[R.one p hp,f0 _ (lt p hp)];grind
  ·exact f1
 ·rcases cases q hq with⟨p,hp,rfl⟩|rfl
  ·rcases cases r hr with⟨p',hp',rfl⟩|rfl
   ·show p.2 p'.1 - p.2 c*f p'.1=0;rw[R.oth p hp p' hp' ne,f0 _ (lt p' hp')];grind
   ·show p.2 c - p.2 c*f c=0;rw[f1];grind
  ·rcases cases r hr with⟨p',hp',rfl⟩|rfl
   ·exact f0 _ (lt p' hp')
   ·exact absurd rfl ne
def gjR(k:Int)(c:Nat)(f r:List Nb):List Nb:=vy (fun x y=>nsub k x (nmul k (r.getD c (nnum k 0)) y)) r f
theorem zhh(hk:kaa k){c:Nat}{f r:List Nb}(of:OkR k f)(or:OkR k r)(hl:r.length=f.length):(gjR k c f r).length=r.length/\OkR k (gjR k c f r):=by
 have rc:(r.getD c (nnum k 0)).ok k:=by
  rcases wO c r.length with h|h
  ·rw[we,wc h];exact or _ (wm h)
  ·rw[we,vo h];exact zL hk 0
 refine⟨by unfold gjR;rw[wG,hl,Gn],fun x hx=>?_⟩;unfold gjR at hx;obtain⟨i,hi,e⟩:=wI hx;rw[vF]at e;rw[← e];exact L2.YV hk.lt.1 (or _ (wm _)) (L2.zba hk.lt.1 rc (of _ (wm _)))
theorem zhF(hk:kaa k){c:Nat}{f r:List Nb}(of:OkR k f)(or:OkR k r)(hl:r.length=f.length)(j:Nat):nv φ (gjR k c f r) j=nv φ r j - nv φ r c*nv φ f j:=by
 have rc:(r.getD c (nnum k 0)).ok k:=by
  rcases wO c r.length with h|h
  ·rw[we,wc h];exact or _ (wm h)
  ·rw[we,vo h];exact zL hk 0
 exact zg4 hl (fun x y=>x - nv φ r c*y) (by grind) (fun x hx y hy=>by
  rw[φ.sub (or x hx) (L2.zba hk.lt.1 rc (of y hy)),φ.mul rc (of y hy)];rfl) j
structure Gj(φ:Kf k F)(n c:Nat)(M told left:TB)(ls:List Nat):Prop where
 okt:OkM k n told
 okl:OkM k n left
 len:ls.length=told.length
 rr:Rr n (ls.zip (told.map (nv φ)))
 lt:∀ l∈ls,l<c
 zl:∀ r∈left,∀ j,j<c->nv φ r j=0
 sp:∀ v,Rm φ (told++left) v↔Rm φ M v
theorem Gj.start{M:TB}(oM:OkM k n M):Gj φ n 0 M [] M [] where
 okt:=fun _ h=>(nomatch h)
 okl:=oM
 len:=rfl
 rr:=by
  show Rr n [];exact⟨.nil,(fun _ h=>nomatch h),(fun _ h=>nomatch h),(fun _ h=>nomatch h),(fun _ h=>nomatch h),(fun _ h=>nomatch h)⟩
 lt:=fun _ h=>(nomatch h)
 zl:=fun _ _ _ h=>absurd h (ug _)
 sp:=fun _=>Iff.rfl
theorem Gj.skip{c:Nat}{M told left:TB}{ls:List Nat}(G:Gj φ n c M told left ls)(z:∀ r∈left,nv φ r c=0):Gj φ n (c+1) M told left ls :=
 ⟨G.okt,G.okl,G.len,G.rr,fun l hl=>uP (G.lt l hl),fun r hr j hj=>(by
  rcases uW (gW hj)with h|h
  ·exact G.zl r hr j h
  ·rw[h];exact z r hr),G.sp⟩
theorem zax{α:Type}{l:List α}{j:Nat}{p r:α}(hp:l[j]?=some p)(hr:r∈l):r=p\/r∈l.eraseIdx j:=by
 obtain⟨hj,e⟩:=ww.mp hp;obtain⟨i,hi,ei⟩:=wI hr
 by_cases h:i=j
 ·subst h;rw[e]at ei;exact .inl ei.symm
 ·right
  rw[List.eraseIdx_eq_take_drop_succ]
  rcases Nat.lt_or_gt_of_ne h with g|g
  ·exact wQ _ (by rw[List.mem_take_iff_getElem];exact⟨i,by omega,ei⟩)
  ·exact wE _ (by rw[List.mem_drop_iff_getElem];exact⟨i - (j+1),by omega,by rw[← ei];congr 1;omega⟩)
theorem Gj.turn(hk:kaa k){c j:Nat}{M told left:TB}{ls:List Nat}{p:List Nb}{b:Nb}(G:Gj φ n c M told left ls)(hc:c<n)(hp:left[j]?=some p)(ob:b.ok k)(eb:φ.to b*nv φ p c=1) :
  Gj φ n (c+1) M (told.map (gjR k c (p.map (nmul k b)))++[p.map (nmul k b)]) ((left.eraseIdx j).map (gjR k c (p.map (nmul k b)))) (ls++[c]):=by
 have pm:=wg hp;have op:=G.okl p pm;have ef:∀ i,nv φ (p.map (nmul k b)) i=φ.to b*nv φ p i:=fun i=>zi1 (fun x=>φ.to b*x) (by grind) (fun x hx=>φ.mul ob (op.2 x hx)) i
 have lf:(p.map (nmul k b)).length=n:=by rw[wa];exact op.1
 have of:OkR k (p.map (nmul k b)):=fun x hx=>by
  obtain⟨y,hy,rfl⟩:=wj.mp hx;exact L2.zba hk.lt.1 ob (op.2 y hy)
 have f0:∀ i,i<c->nv φ (p.map (nmul k b)) i=0:=fun i hi=>by rw[ef,G.zl p pm i hi];grind
 have f1:nv φ (p.map (nmul k b)) c=1:=by rw[ef];exact eb
 have e2:∀ i,nv φ p i=nv φ p c*nv φ (p.map (nmul k b)) i:=fun i=>by rw[ef];grind
 have se:=Gd (l:=left) j;generalize p.map (nmul k b)=f at *;have oe:∀ r∈left.eraseIdx j,r∈left:=fun r hr=>se.subset hr
 have gt:∀ r∈told,nv φ (gjR k c f r)=fun i=>nv φ r i - nv φ r c*nv φ f i:=fun r hr=>funext fun i=>zhF hk of (G.okt r hr).2 (by rw[(G.okt r hr).1,lf]) i
 have gl:∀ r∈left,nv φ (gjR k c f r)=fun i=>nv φ r i - nv φ r c*nv φ f i:=fun r hr=>funext fun i=>zhF hk of (G.okl r hr).2 (by rw[(G.okl r hr).1,lf]) i
 have fin:Rm φ (told++left) (nv φ f):=by
  have h:Rm φ (told++left) (nv φ p):=.of ⟨p,wE _ pm,rfl⟩;exact(h.smul (φ.to b)).cast fun i=>(ef i).symm
 refine⟨fun r hr=>?_,fun r hr=>?_,?_,?_,fun l hl=>?_,fun r hr i hi=>?_,fun v=>?_⟩
 ·rcases wq.mp hr with h|h
  ·obtain⟨t,ht,rfl⟩:=wj.mp h;have ot:=G.okt t ht;have:=zhh hk (c:=c) of ot.2 (by rw[ot.1,lf]);exact⟨by rw[this.1];exact ot.1,this.2⟩
  ·rw[wn.mp h];exact⟨lf,of⟩
 ·obtain⟨t,ht,rfl⟩:=wj.mp hr;have ot:=G.okl t (oe t ht);have:=zhh hk (c:=c) of ot.2 (by rw[ot.1,lf]);exact⟨by rw[this.1];exact ot.1,this.2⟩
 ·rw[wD,wD,wa,G.len];rfl
 ·have em:(told.map (gjR k c f)++[f]).map (nv φ) =(told.map (nv φ)).map (fun u=>fun i=>u i - u c*nv φ f i)++[nv φ f]:=by
   rw[wv,vm,vm];refine congrArg (·++_) (vB fun r hr=>?_);exact gt r hr
  rw[em,waO (by rw[wa,wa];exact G.len),List.zip_map_right];exact G.rr.snoc (fun q hq=>G.lt _ (wT hq).1) hc f0 f1 fun i hi=>yh φ (by rw[lf];exact hi)
 ·rcases wq.mp hl with h|h
  ·exact uP (G.lt l h)
  ·rw[wn.mp h];exact ul c
 ·obtain⟨t,ht,rfl⟩:=wj.mp hr;rw[gl t (oe t ht)];show nv φ t i - nv φ t c*nv φ f i=0
  rcases uW (gW hi)with h|h
  ·rw[G.zl t (oe t ht) i h,f0 i h];grind
  ·rw[h,f1];grind
 ·rw[← G.sp v];have sub:∀(u w:Nat->F)(a:F)(N:TB),Rm φ N u->Rm φ N w->Rm φ N (fun i=>u i - a*w i):=fun u w a N hu hw=>(hu.add (hw.smul (-a))).cast fun i=>by grind
  constructor
  ·refine fun h=>h.bind fun u ⟨r,hr,e⟩=>?_
   subst e
   rcases wq.mp hr with h|h
   ·rcases wq.mp h with h|h
    ·obtain⟨t,ht,rfl⟩:=wj.mp h;rw[gt t ht];exact sub _ _ _ _ (.of ⟨t,wQ _ ht,rfl⟩) fin
    ·rw[wn.mp h];exact fin
   ·obtain⟨t,ht,rfl⟩:=wj.mp h;rw[gl t (oe t ht)];exact sub _ _ _ _ (.of ⟨t,wE _ (oe t ht),rfl⟩) fin
  ·have fin':Rm φ (told.map (gjR k c f)++[f] ++(left.eraseIdx j).map (gjR k c f)) (nv φ f):=.of ⟨f,wQ _ (wE _ (wn.mpr rfl)),rfl⟩;refine fun h=>h.bind fun u ⟨r,hr,e⟩=>?_
   subst e;have back:∀ r,nv φ (gjR k c f r) =(fun i=>nv φ r i - nv φ r c*nv φ f i)->gjR k c f r∈told.map (gjR k c f)++[f] ++(left.eraseIdx j).map (gjR k c f)->Rm φ (told.map (gjR k c f)++[f] ++(left.eraseIdx j).map (gjR k c f)) (nv φ r):=fun r e hm=>by
    have h1:Rm φ (told.map (gjR k c f)++[f] ++(left.eraseIdx j).map (gjR k c f)) (nv φ (gjR k c f r)):=.of ⟨_,hm,rfl⟩;rw[e]at h1;exact(h1.add (fin'.smul (nv φ r c))).cast fun i=>by grind
   rcases wq.mp hr with h|h
   ·exact back r (gt r h) (wQ _ (wQ _ (wj.mpr ⟨r,h,rfl⟩)))
   ·rcases zax hp h with e|e
    ·rw[e];exact(fin'.smul (nv φ p c)).cast fun i=>(e2 i).symm
    ·exact back r (gl r h) (wE _ (wj.mpr ⟨r,e,rfl⟩))
theorem Gj.done{c:Nat}{M told left:TB}{ls:List Nat}(G:Gj φ n c M told left ls)(h:left=[]\/n<=c):IsR φ n told ls/\∀ v,Rm φ told v↔Rm φ M v:=by
 refine⟨⟨G.okt,G.len,G.rr⟩,fun v=>?_⟩;rw[← G.sp v];have z:∀ r∈left,∀ i,nv φ r i=0:=fun r hr i=>by
  rcases h with h|h
  ·rw[h]at hr;exact nomatch hr
  ·rcases wO i c with g|g
   ·exact G.zl r hr i g
   ·exact yh φ (by rw[(G.okl r hr).1];omega)
 constructor
 ·exact fun q=>q.mono fun r ⟨x,hx,e⟩=>⟨x,wQ _ hx,e⟩
 ·intro q;obtain⟨a,b,ha,hb,ev⟩:=Rm.app.mp q;have zb:∀ i,b i=0:=fun i=>hb.zero_at fun r ⟨x,hx,e⟩=>by rw[e];exact z x hx i
  exact ha.cast fun i=>by rw[ev i,zb i];grind
theorem zb3(hk:kaa k){A B:TB}(oA:OkM k n A)(lA:A.length=n)(oB:OkM k n B)(n1:1<=n)(v:Nat->F):Rm φ (kry k A B n) v->Rm φ (kry k A B (n - 1)) v:=by
 by_cases h:∃ s,s<n/\∀ v,Rm φ (kry k A B (s+1)) v->Rm φ (kry k A B s) v
 ·obtain⟨s,hs,st⟩:=h;intro hv;have h1:=Qq hk oA lA oB st (n - s) v (by rw[show s +(n - s)=n by omega];exact hv);have h2:=zeE hk oA lA oB s (n - 1 - s) v h1;rw[show s +(n - 1 - s)=n - 1 by omega]at h2;exact h2
 ·exfalso
  have key:∀ t,t<=n->∀ R ls,kaw φ n (kry k A B t) R ls->t+1<=R.length:=by
   intro t
   induction t with
   | zero =>
    intro _ R ls hR;refine Nat.succ_le_of_lt (Nat.pos_of_ne_zero fun e=>h ⟨0,by omega,fun v hv=>?_⟩);have eR:R=[]:=vN e;subst eR;have zB:∀ u,Rm φ B u->∀ i,u i=0:=fun u hu i=>(hR.to u hu).zero_at fun r ⟨x,hx,_⟩=>nomatch hx
    have hv':Rm φ (B++B.map (imgR k A)) v:=hv;obtain⟨a,b,ha,hb,ev⟩:=Rm.app.mp hv';obtain⟨u,hu,eu⟩:=(Rm.img hk oA oB).mp hb;have:∀ i,b i=0:=fun i=>by
     rw[eu i,show u =(fun _=>0)from funext (zB u hu)];exact Zi A i
    exact Span.cast ha fun i=>by rw[ev i,this i];grind
   | succ t ih =>
    intro ht R ls hR;obtain⟨R',ls',hR'⟩:=ZS φ hk (jc hk oA lA oB t);have h1:=ih (by omega) R' ls' hR';have sub:=hR'.toIsR.sub_len hR.toIsR fun v hv=>hR.to v (Zz hk oA lA oB t v (hR'.fro v hv))
    rcases wO R'.length R.length with g|g
    ·omega
    ·exact absurd ⟨t,by omega,fun v hv=>hR'.fro v (sub.2 g v (hR.to v hv))⟩ h
  obtain⟨R,ls,hR⟩:=ZS φ hk (jc hk oA lA oB n);have h1:=key n (wu _) R ls hR;have h2:ls.length<=n:=by
   have:=L2.Ye (m:=0) hR.toIsR.inc (fun x hx=>⟨vq _,(by
    obtain⟨i,r,e1,e2⟩:=hR.toIsR.lead_of hx;exact hR.rr.lt _ (hR.toIsR.get e1 e2):x<n)⟩) (vq _)
   omega
  have:=hR.len;omega
end
end La
namespace L2
open PySem PySem.Spec PyProof.Rows Nm
theorem zca{k:Int}(hk:kaa k)(n:Nat):TOk k n n 61 (La.kak k n):=by
 refine⟨(La.yH hk n).2,(La.yH hk n).1,fun q hq x hx=>?_⟩;unfold La.kak at hq;obtain⟨i,_,rfl⟩:=wj.mp hq;unfold La.kaj at hx;obtain⟨j,_,rfl⟩:=wj.mp hx
 split
 ·exact yI hk (sm_one.mono (by decide)) (by decide)
 ·exact yI hk (xw 61) (by decide)
theorem zhN{k:Int}{r r' c m:Nat}{M N:TB}(hM:TOk k r c m M)(hN:TOk k r' c m N):TOk k (r+r') c m (M++N) :=
 ⟨by rw[wD,hM.len,hN.len],fun q hq=>(wq.mp hq).elim (hM.ok q) (hN.ok q),fun q hq=>(wq.mp hq).elim (hM.sz q) (hN.sz q)⟩
theorem zhK{H:Hp}{M N:TB}{t1 t2 t:Addr}{r1 r2:List Addr}(h1:kag H M t1 r1)(h2:kag H N t2 r2)(ht:H t=none):kag (upd H t (.lst (r1.map V.ref++r2.map V.ref))) (M++N) t (r1++r2):=by
 have g:=ze ht (.lst (r1.map V.ref++r2.map V.ref));exact⟨by rw[zg,wv],qk (h1.mono g).2 (h2.mono g).2⟩
section
variable{k:Int}(hk:kaa k)
theorem TOk.get{r c m:Nat}{M:TB}(h:TOk k r c m M){i:Nat}(hi:i<r):∃ a,M[i]?=some a/\ROk k c m a:=by
 have hl:i<M.length:=by rw[h.len];exact hi
 exact⟨M[i],wc hl,h.row (wm hl)⟩
def rulM(k:Int)(n:Nat)(A B F:TB):TB:=kal k n (augM A B) (La.kak k n++F)
end
end L2
open PySem PySem.Spec PyProof.Rows
namespace L2
end L2
namespace L2
open PySem PySem.Spec PyProof.Rows Nm
theorem zjr(xs:List V)(i j:Nat):cutV xs (some (i:Int)) (some (j:Int)) =(xs.drop i).take (j - i):=by
 unfold cutV;rw[HT.jM,HT.jM]
 rcases wO i xs.length with h|h
 ·rw[uw (a:=i) (ux h)]
  rcases GQ j xs.length with h2|h2
  ·rw[uw h2]
  ·rw[uF h2,wo (by rw[vE];omega),wo (by rw[vE];omega)]
 ·rw[uF h,vU (wu _),vU h];simp
theorem zcD(xs:List V)(i:Nat):cutV xs (some (i:Int)) none=xs.drop i:=by
 unfold cutV;rw[HT.jM,HT.ji]
 rcases GQ i xs.length with h|h
 ·rw[uw h,wo (by rw[vE];omega)]
 ·rw[uF h,vU (wu _),vU h];simp
theorem zhr(xs:List V)(j:Nat):cutV xs none (some (j:Int))=xs.take j:=by
 unfold cutV;rw[HT.ji,gS,gi,HT.jM]
 rcases GQ j xs.length with h|h
 ·rw[uw h]
 ·rw[uF h,wo (wu _),wo h]
theorem Ql{m m':Nat}:∀(ws us:List Int),(∀ w∈ws,Sm m w)->(∀ w∈us,Sm m' w)->Sm (m+m'+ws.length) (La.rdot ws us)
 | [],us,_,_=>by cases us <;> exact xw _
 | _::_,[],_,_=>xw _
 | a::as,b::bs,h1,h2=>by
  have ih:=Ql as bs (fun w hw=>h1 w (wr _ hw)) (fun w hw=>h2 w (wr _ hw));show Sm ((m+m'+as.length)+1) (a*b+La.rdot as bs);exact(((h1 a wp).mul (h2 b wp)).mono (gZ _ _)).add ih
theorem zio{α β:Type}{R:α->β->Prop}{xs:List α}{ys:List β}(h:Paired R xs ys)(n:Nat):Paired R (xs.take n) (ys.take n):=by
 have l:=zj h;refine Zf (by rw[wt,wt,l]) fun i x a h1 h2=>?_
 rw[Gs]at h1 h2
 split at h1
 ·rename_i hi;rw[if_pos hi]at h2;exact xl h h1 h2
 ·cases h1
def ITab(H:Hp)(W:List (List Int))(t:Addr)(ls:List Addr):Prop:=H t=some (.lst (ls.map V.ref))/\Paired (IRow H) W ls
theorem ITab.mono{H H':Hp}{W:List (List Int)}{t:Addr}{ls:List Addr}(h:ITab H W t ls)(g:Same H H'):ITab H' W t ls:=⟨g _ _ h.1,xp (fun _ _ r=>r.mono g) h.2⟩
theorem ITab.row{H:Hp}{W:List (List Int)}{t:Addr}{ls:List Addr}(h:ITab H W t ls){i:Nat}{v:V}(e:(ls.map V.ref)[i]?=some v):∃ ws a,W[i]?=some ws/\ls[i]?=some a/\v=.ref a/\IRow H ws a:=by
 rw[wk]at e;obtain⟨a,ha,rfl⟩:=wK.mp e;obtain⟨ws,hw,r⟩:=zT h.2 ha;exact⟨ws,a,hw,ha,rfl,r⟩
theorem ITab.snoc{H H':Hp}{W:List (List Int)}{ls:List Addr}(h:Paired (IRow H) W ls)(g:Same H H'){ws:List Int}{a:Addr}(r:IRow H' ws a):Paired (IRow H') (W++[ws]) (ls++[a]):=zS (xp (fun _ _ r=>r.mono g) h) r
section
variable{m:Nat}
theorem zez{inner:List (List Int)}{v:List Int}(h1:∀ r∈inner,r.length<=4/\∀ w∈r,Sm m w)(h2:∀ w∈v,Sm m w):∀ i,∀ w∈La.bpow inner v i,Sm ((i+1) *(m+4)) w
 | 0,w,hw=>(h2 w hw).mono (by omega)
 | i+1,w,hw=>by
  have hw':w∈inner.map fun r=>La.rdot r (La.bpow inner v i):=hw
  obtain⟨r,hr,rfl⟩:=wj.mp hw';refine(Ql r _ (h1 r hr).2 (zez h1 h2 i)).mono ?_;have:=(h1 r hr).1;rw[show(i+1+1) *(m+4) =(i+1) *(m+4) +(m+4) by rw[uk]];omega
theorem zhR{W:List (List Int)}(h:∀ r∈W,r.length<=4/\∀ w∈r,Sm m w){s:Nat}(s3:s<=3):∀ w∈La.bfac W s,Sm (5 *(m+4)) w:=fun w hw=>by
 have row:∀ r,r∈W\/r=[]->∀ x∈r,Sm m x:=fun r hr x hx=>by
  rcases hr with hr|hr
  ·exact(h r hr).2 x hx
  ·rw[hr]at hx;cases hx
 have gd:∀ i,W.getD i []∈W\/W.getD i []=[]:=fun i=>by
  rw[we];cases e:W[i]? with
  | none=>exact .inr rfl
  | some r=>exact .inl (wg e)
 have gx:∀(r:List Int),(∀ x∈r,Sm m x)->∀ i,Sm m (r.getD i 0):=fun r hr i=>by
  rw[we];cases e:r[i]? with
  | none=>exact xw _
  | some x=>exact hr x (wg e)
 unfold La.bfac at hw
 rcases wF.mp hw with e|hw
 ·rw[e];exact sm_one.mono (by omega)
 rcases wF.mp hw with e|hw
 ·rw[e];exact(gx _ (row _ (gd s)) s).neg.mono (by omega)
 obtain⟨st,hst,rfl⟩:=wj.mp hw;rw[vA]at hst;refine Sm.neg ?_;have l4:((W.getD s []).take s).length<=3:=by rw[wt];omega
 refine(Ql _ _ (fun x hx=>row _ (gd s) x (vw hx)) (zez (m:=m) (inner:=(W.take s).map (·.take s)) (v:=(W.take s).map (·.getD s 0)) (fun r hr=>?_) (fun x hx=>?_) st)).mono ?_
 ·obtain⟨r',hr',rfl⟩:=wj.mp hr;have hm:=h r' (vw hr');exact⟨by rw[wt];omega,fun x hx=>hm.2 x (vw hx)⟩
 ·obtain⟨r',hr',rfl⟩:=wj.mp hx;exact gx _ (h r' (vw hr')).2 s
 ·have:(st+1) *(m+4)<=3 *(m+4):=wP _ (by omega);omega
theorem zd6(W:List (List Int)):∀ s,(La.wgr W s).length=s+1
 | 0=>rfl
 | s+1=>by show((wV (s+2)).map _).length=_;simp
theorem zhl{W:List (List Int)}(h:∀ r∈W,r.length<=4/\∀ w∈r,Sm m w):∀ s,s<=4->∀ w∈La.wgr W s,Sm (1+s *(5 *(m+4)+6)) w
 | 0,_,w,hw=>by
  rw[wn.mp hw];exact sm_one.mono (by omega)
 | s+1,hs,w,hw=>by
  have hw':w∈(wV (s+2)).map fun pl=>La.rdot (La.wgr W s) ((La.bfac W s).reverse.drop (s+1 - pl)):=hw
  obtain⟨pl,_,rfl⟩:=wj.mp hw';refine(Ql _ _ (zhl h s (by omega)) (fun x hx=>zhR h (by omega) x (waG.mp (uq hx)))).mono ?_;rw[zd6,show(s+1) *(5 *(m+4)+6)=s *(5 *(m+4)+6) +(5 *(m+4)+6) by rw[uk]];omega
end
end L2
namespace L2
open PySem PySem.Spec PyProof.Rows Nm
def subR(k:Int)(xs ys:List Nb):List Nb:=vy (nsub k) xs ys
def zerN(k:Int)(n:Nat):List Nb:=wx n (nnum k 0)
section
variable{k:Int}(hk:kaa k){n:Nat}{x y:List Nb}
include hk
theorem ziK(ox:La.OkR k x)(oy:La.OkR k y):La.OkR k (subR k x y):=fun z hz=>by
 unfold subR at hz;rw[← List.map_uncurry_zip_eq_zipWith]at hz;obtain⟨⟨a,b⟩,hp,rfl⟩:=wj.mp hz;exact YV hk.lt.1 (ox _ (wT hp).1) (oy _ (wT hp).2)
section
variable{F:Type}[Lean.Grind.Field F](φ:La.Kf k F)
theorem zjz(ox:La.OkR k x)(oy:La.OkR k y)(h:x.length=y.length)(j:Nat):La.nv φ (subR k x y) j=La.nv φ x j - La.nv φ y j :=
 La.zg4 h (fun a b=>a - b) (by grind) (fun a ha b hb=>φ.sub (ox a ha) (oy b hb)) j
theorem zjN(s j:Nat):La.nv φ (zerN k s) j=0:=by
 rcases wO j s with h|h
 ·rw[La.yf φ (x:=nnum k 0) (by unfold zerN;rw[uy,if_pos h]),φ.num0]
 ·exact La.yh φ (by unfold zerN;rw[wL];exact h)
end
theorem sub_len(h:x.length=y.length):(subR k x y).length=x.length:=by unfold subR;rw[wG];omega
section
variable{A C:TB}(oA:La.OkM k n A)(lA:A.length=n)
include oA lA
theorem jB(ox:La.OkR k x)(lx:x.length=n):∀ i,La.OkR k (powX k A x i)/\(powX k A x i).length=n
 | 0=>⟨ox,lx⟩
 | i+1=>by
  obtain⟨o,l⟩:=jB ox lx i;obtain⟨a,b⟩:=La.Qv hk oA o;exact⟨b,a.trans lA⟩
end
theorem XV(ox:La.OkR k x)(oy:La.OkR k y)(h:x.length=y.length):La.ndot k x y=La.ndot k y x:=by
 obtain⟨F,_,_,⟨φ⟩⟩:=La.yi hk;refine φ.inj (La.xU hk ox oy) (La.xU hk oy ox) ?_;rw[La.qS φ hk ox oy h,La.qS φ hk oy ox h.symm,h,La.yj]
end
end L2
namespace L2
open PySem PySem.Spec PyProof.Rows Nm
theorem zcq{k:Int}(hk:kaa k){D D' B B':Nat}:∀(l:List (Nb×Nb))(s:Nb)(c:Nat),(∀ p∈l,La.dB D B p.1/\La.dB D' B' p.2/\p.1.ok k/\p.2.ok k)->s.ok k->La.dB (D*D') c s->La.dB (D*D') (c+l.length *(B*B')) (l.foldl (fun s p=>nadd k s (nmul k p.1 p.2)) s)
 | [],s,c,_,_,h=>by rw[Gg,wao];exact h
 | p::l,s,c,hp,os,h=>by
  obtain⟨h1,h2,o1,o2⟩:=hp p wp;have om:=La.yB hk o1 o2;have:=zcq hk l (nadd k s (nmul k p.1 p.2)) (c+B*B') (fun q hq=>hp q (wr _ hq)) (La.yG hk os om) (h.add (h1.mul h2 o1 o2) os om);rw[Gf];refine this.mono ?_;rw[vO,gJ,uS];omega
theorem zhX{k:Int}(hk:kaa k){D D' B B' n:Nat}{x y:List Nb}(ox:La.OkR k x)(oy:La.OkR k y)(lx:x.length=n)(hx:∀ u∈x,La.dB D B u)(hy:∀ u∈y,La.dB D' B' u):La.dB (D*D') (n *(B*B')) (La.ndot k x y):=by
 unfold La.ndot La.ndotF;have h:=zcq hk (x.zip y) (nnum k 0) 0 (fun p hp=>⟨hx _ (wT hp).1,hy _ (wT hp).2,ox _ (wT hp).1,oy _ (wT hp).2⟩) (La.zL hk 0) (La.dB.num (by simp));refine h.mono ?_;rw[vp];refine wP _ ?_;rw[vZ];omega
theorem QM{k:Int}{B:Nat}{x:List Nb}(k0:k≠0)(ox:La.OkR k x)(b1:1<=B):La.rowB B x:=ZM (k:=k) (n:=x.length) (M:=[x]) k0 (fun r hr=>by rw[wn.mp hr];exact⟨rfl,ox⟩) b1 x wp
theorem zcf{k:Int}(hk:kaa k){C:Nat}{x:List Nb}(ox:La.OkR k x)(h:La.rowB C x)(c7:61<=C):∀ y∈x,nsm C y:=zaP hk (n:=x.length) (W:=[x]) (fun r hr=>by rw[wn.mp hr];exact⟨rfl,ox⟩) (fun r hr=>by rw[wn.mp hr];exact h) c7 x wp
theorem zb6{k:Int}{n:Nat}:IsRa k n [] []:=fun F _ φ=>((La.Gj.start (φ:=φ) (n:=n) (M:=[]) (fun _ h=>nomatch h)).done (.inl rfl)).1
theorem zcC{k:Int}{A B:TB}{b:List Nb}(hb:b∈B):∀(t j:Nat),j<=t->powX k A b j∈La.kry k A B t
 | 0,0,_=>hb
 | 0,j+1,h=>by omega
 | t+1,0,_=>wQ _ hb
 | t+1,j+1,h=>wE _ (wj.mpr ⟨powX k A b j,zcC hb t j (by omega),rfl⟩)
theorem zb0{k:Int}(hk:kaa k){n:Nat}{R W M:TB}{lr lw:List Nat}{x:List Nb}(iR:IsRa k n R lr)(iW:IsRa k n W lw)(eR:SameR k R (M++[x]))(eW:SameR k W M):R.length=W.length↔∀(F:Type) [Lean.Grind.Field F] (φ:La.Kf k F),La.Rm φ M (La.nv φ x):=by
 have mx:∀(F:Type) [Lean.Grind.Field F] (φ:La.Kf k F),La.Rm φ R (La.nv φ x):=fun F _ φ=>(eR F φ _).mpr (.of ⟨x,wE _ wp,rfl⟩)
 have sub:∀(F:Type) [Lean.Grind.Field F] (φ:La.Kf k F) (v:Nat->F),La.Rm φ W v->La.Rm φ R v:=fun F _ φ v h=>(eR F φ v).mpr (((eW F φ v).mp h).mono fun u ⟨r,hr,e⟩=>⟨r,wQ _ hr,e⟩)
 constructor
 ·intro h F _ φ;exact(eW F φ _).mp (((iW F φ).sub_len (iR F φ) (sub F φ)).2 (by omega) _ (mx F φ))
 ·intro h;have:R=W:=zco hk iR iW fun F _ φ v=>⟨fun hv=>?_,sub F φ v⟩
  ·rw[this]
  ·refine(eW F φ v).mpr (((eR F φ v).mp hv).bind fun u ⟨r,hr,e⟩=>?_)
   rcases wq.mp hr with h'|h'
   ·exact .of ⟨r,h',e⟩
   ·rw[wn.mp h']at e;rw[e];exact h F φ
end L2
namespace L2
open PySem PySem.Spec PyProof.Rows Nm
end L2
namespace L2
open Nm
end L2
namespace L2
open PySem PySem.Spec PyProof.Rows Nm
theorem Xh{α:Type}[DecidableEq α](f:α->PyData)(h:∀ x y,PyData.eqv (f x) (f y)=decide (x=y)):∀ l l':List α,PyData.eqvAll (l.map f) (l'.map f)=decide (l=l')
 | [],[]=>rfl
 | [],_::_=>rfl
 | _::_,[]=>rfl
 | x::l,y::l'=>by
  show(PyData.eqv (f x) (f y) && PyData.eqvAll (l.map f) (l'.map f))=_;rw[h,Xh f h l l',gy];simp
theorem zhI(M N:TB):PyData.eqv (tabD M) (tabD N)=decide (M=N):=Xh rowD (fun xs ys=>Xh toD YZ xs ys) M N
theorem zbI{α β:Type}{R:α->β->Prop}{xs:List α}{ys:List β}(h:Paired R xs ys)(n:Nat):Paired R (xs.take n) (ys.take n):=by
 have l:=zj h;refine Zf (by rw[wt,wt,l]) fun i x a h1 h2=>?_
 rw[Gs]at h1 h2
 split at h1
 ·rename_i hi;rw[if_pos hi]at h2;exact xl h h1 h2
 ·cases h1
end L2
namespace L2
open PySem PySem.Spec PyProof.Rows Nm
end L2
namespace L2
open PySem PySem.Spec PyProof.Rows Nm
theorem jJ{k:Int}{F:Type}[Lean.Grind.Field F]{φ:La.Kf k F}(hk:kaa k){n:Nat}{A:TB}{x:List Nb}(oA:La.OkM k n A)(ox:La.OkR k x)(lx:x.length=n)(i:Nat):La.nv φ (imgM k A x) i=La.limg φ n A (La.nv φ x) i:=La.QJ hk oA ox lx i
end L2
namespace L2
open PySem PySem.Spec PyProof.Rows Nm
def whk(k:Int)(m:Nat)(x:Nb):Prop:=k=0->∃ i:Int,x=nnum k i/\i.natAbs<2^m
theorem whk.mono{k:Int}{m n:Nat}{x:Nb}(h:whk k m x)(hm:m<=n):whk k n x:=fun k0=>by
 obtain⟨i,e,hi⟩:=h k0;exact⟨i,e,wR hi (vv (by decide) hm)⟩
theorem whk.szk{k:Int}{m:Nat}{x:Nb}(h:whk k m x)(m1:1<=m):szk k m x:=fun k0=>by
 obtain⟨i,e,hi⟩:=h k0;subst k0;rw[e];exact⟨hi,sm_one.mono m1⟩
theorem whk.nsm{k:Int}(hk:kaa k){m n:Nat}{x:Nb}(o:x.ok k)(h:whk k m x)(hm:m<=n)(h7:61<=n):nsm n x:=((h.mono hm).szk (wN (by decide) h7)).nsm hk o (wu _) h7
theorem xX{k:Int}(k0:k=0)(i:Int):nnum k i=.q (i:Rat):=by unfold nnum;rw[if_pos k0]
theorem zfd{a b m n:Nat}(ha:a<2^m)(hb:b<2^n):a+b<2^(max m n+1):=by
 have h1:2^m<=2^max m n:=vv (by decide) (Nat.le_max_left _ _);have h2:2^n<=2^max m n:=vv (by decide) (Nat.le_max_right _ _);rw[gm];omega
theorem zcb{k:Int}{m n:Nat}{x y:Nb}(ox:x.ok k)(oy:y.ok k)(sx:whk k m x)(sy:whk k n y):whk k (max m n+1) (nadd k x y):=fun k0=>by
 obtain⟨i,rfl,hi⟩:=sx k0;obtain⟨j,rfl,hj⟩:=sy k0;refine⟨i+j,?_,uH (Gx i j) (zfd hi hj)⟩;rw[xX k0,xX k0,xX k0];show Nb.q ((i:Rat) +(j:Rat))=_;rw[GS]
theorem zgP{k:Int}{m n:Nat}{x y:Nb}(ox:x.ok k)(oy:y.ok k)(sx:whk k m x)(sy:whk k n y):whk k (max m n+1) (nsub k x y):=fun k0=>by
 obtain⟨i,rfl,hi⟩:=sx k0;obtain⟨j,rfl,hj⟩:=sy k0;refine⟨i - j,?_,uH (was i j) (zfd hi hj)⟩;rw[xX k0,xX k0,xX k0];show Nb.q ((i:Rat) - (j:Rat))=_;rw[Rat.intCast_sub]
theorem Qs{k:Int}{m n:Nat}{x y:Nb}(ox:x.ok k)(oy:y.ok k)(sx:whk k m x)(sy:whk k n y):whk k (m+n) (nmul k x y):=fun k0=>by
 obtain⟨i,rfl,hi⟩:=sx k0;obtain⟨j,rfl,hj⟩:=sy k0;refine⟨i*j,?_,?_⟩
 ·rw[xX k0,xX k0,xX k0];show Nb.q ((i:Rat) *(j:Rat))=_;rw[vh]
 ·rw[vG,uK];exact waA hi hj
structure TW(k:Int)(r c m:Nat)(M:TB):Prop where
 len:M.length=r
 ok:La.OkM k c M
 sz:∀ r∈M,∀ x∈r,whk k m x
theorem TW.up{k:Int}{r c m m':Nat}{M:TB}(h:TW k r c m M)(hm:m<=m'):TW k r c m' M:=⟨h.len,h.ok,fun r hr x hx=>(h.sz r hr x hx).mono hm⟩
theorem TW.tok{k:Int}(hk:kaa k){r c m n:Nat}{M:TB}(h:TW k r c m M)(hm:m<=n)(h7:61<=n):TOk k r c n M:=⟨h.len,h.ok,fun r hr x hx=>(h.sz r hr x hx).nsm hk ((h.ok r hr).2 x hx) hm h7⟩
theorem TW.set{k:Int}{r c m i:Nat}{M:TB}{xs:List Nb}(h:TW k r c m M)(lx:xs.length=c)(ox:La.OkR k xs)(sx:∀ x∈xs,whk k m x):TW k r c m (M.set i xs):=by
 refine⟨by rw[vg];exact h.len,fun q hq=>?_,fun q hq=>?_⟩
 all_goals
  rcases La.yk hq with e|e
 ·rw[e];exact⟨lx,ox⟩
 ·exact h.ok q e
 ·rw[e];exact sx
 ·exact h.sz q e
end L2
namespace L2
open PySem PySem.Spec PyProof.Rows Nm
theorem Xf{k:Int}{m:Nat}{x:Nb}(k0:k=0)(h:whk k m x):La.dB 1 (2^m - 1) x:=by
 obtain⟨i,rfl,hi⟩:=h k0;exact La.dB.num (by omega)
theorem zeo{k:Int}{m B:Nat}{x:Nb}(ox:x.ok k)(h:k=0->La.dB 1 B x)(hb:B<2^m):whk k m x:=fun k0=>by
 have h:=h k0;cases x with
 | z i=>exact absurd k0 ox.1
 | q r =>
  obtain⟨a,ea,ha⟩:=h;refine⟨a,?_,by omega⟩;rw[xX k0];have e1:(((1:Nat):Int):Rat)=1:=by rfl
  rw[e1]at ea;have:r =(a:Rat):=by rw[← ea];grind
  rw[this]
theorem zhZ{k:Int}{m:Nat}{x:List Nb}(m1:1<=m)(ox:La.OkR k x)(h:∀ y∈x,whk k m y):La.rowB m x:=by
 by_cases k0:k=0
 ·have:2^1<=2^m:=vv (by decide) m1;exact⟨1,by decide,by omega,fun y hy=>Xf k0 (h y hy)⟩
 ·exact QM k0 ox m1
theorem zb8{k:Int}(hk:kaa k){n a b c:Nat}{x y:List Nb}(ox:La.OkR k x)(oy:La.OkR k y)(lx:x.length=n)(hn:n<=2^c)(hx:∀ u∈x,whk k a u)(hy:∀ u∈y,whk k b u):whk k (a+b+c) (La.ndot k x y):=by
 refine zeo (B:=n *((2^a - 1) *(2^b - 1))) (La.xU hk ox oy) (fun k0=>?_) ?_
 ·exact zhX hk ox oy lx (fun u hu=>Xf k0 (hx u hu)) (fun u hu=>Xf k0 (hy u hu))
 ·have p1:=gL a;have p2:=gL b;have p3:=gL c;rw[uK,uK];have h1:(2^a - 1) *(2^b - 1)<=(2^a - 1)*2^b:=wU _ (by omega);have h2:(2^a - 1)*2^b=2^a*2^b - 2^b:=by rw[Nat.sub_mul,uS]
  have h3:0<2^a*2^b:=wbf p1 p2
  calc n *((2^a - 1) *(2^b - 1))<=2^c *(2^a*2^b - 1):=vY hn (by omega)
   _<2^c *(2^a*2^b):=Nat.mul_lt_mul_of_pos_left (by omega) p3
   _=2^a*2^b*2^c:=gR ..
theorem zis{k:Int}(hk:kaa k){r n a b:Nat}{A:TB}{x:List Nb}(n4:k=0->n<=4)(hA:TW k r n a A)(ox:La.OkR k x)(hx:∀ u∈x,whk k b u):∀ y∈imgM k A x,whk k (a+b+2) y:=fun y hy k0=>by
 unfold imgM at hy;obtain⟨q,hq,rfl⟩:=wj.mp hy;have o:=hA.ok q hq;exact zb8 hk o.2 ox o.1 (n4 k0) (hA.sz q hq) hx k0
theorem zfw{k:Int}(hk:kaa k){n a b:Nat}{A:TB}{x:List Nb}(n4:k=0->n<=4)(hA:TW k n n a A)(ox:La.OkR k x)(lx:x.length=n)(hx:∀ u∈x,whk k b u):∀ i,∀ y∈powX k A x i,whk k (b+i *(a+2)) y
 | 0=>fun y hy=>(hx y hy).mono (by omega)
 | i+1=>fun y hy=>by
  have o:=jB hk hA.ok hA.len ox lx i;exact(zis hk n4 hA o.1 (zfw hk n4 hA ox lx hx i) y hy).mono (by rw[gJ,uS];omega)
theorem XW{k:Int}{c m:Nat}{M:TB}(oM:La.OkM k c M)(h:∀ r∈M,∀ x∈r,whk k m x):∀ r∈kab c M,∀ x∈r,whk k m x:=fun r hr x hx=>by
 unfold kab at hr;obtain⟨j,hj,rfl⟩:=wj.mp hr;obtain⟨q,hq,rfl⟩:=wj.mp hx;have hl:=(oM q hq).1;rw[vA]at hj;rw[we,wc (by omega)];exact h q hq _ (wm _)
end L2
namespace L2
open PySem PySem.Spec PyProof.Rows Nm
end L2
namespace L2
open PySem PySem.Spec PyProof.Rows Nm
end L2
namespace L2
open PySem PySem.Spec PyProof.Rows Nm
end L2
namespace L2
open PySem PySem.Spec PyProof.Rows Nm
theorem getT{h l:Nat}(M:TB)(hl:l<h):(kab h M)[l]?=some ((kab h M).getD l []):=by
 have hl':l <(kab h M).length:=by rw[zK];exact hl
 rw[we,wc hl'];rfl
end L2
namespace L2
open PySem PySem.Spec PyProof.Rows Nm
end L2
namespace L2
open PySem PySem.Spec PyProof.Rows Nm
section
variable{k:Int}{b:Nat}(hk:kaa k){A:TB}(oA:La.OkM k b A)(lA:A.length=b)
include hk oA lA
theorem zev{F:Type}[Lean.Grind.Field F](φ:La.Kf k F){c y:List Nb}(oc:La.OkR k c)(lc:c.length=b)(oy:La.OkR k y)(ly:y.length=b):∀ i j,La.dot b (La.nv φ (powX k (kab b A) c i)) (La.nv φ (powX k A y j))=La.dot b (La.nv φ c) (La.nv φ (powX k A y (i+j)))
 | 0,j=>by rw[vp];rfl
 | i+1,j=>by
  have oT:La.OkM k b (kab b A):=by have:=yu oA;rw[lA]at this;exact this
  have op:=jB hk oT (zK b A) oc lc i;have oq:=jB hk oA lA oy ly j;have e1:La.nv φ (powX k (kab b A) c (i+1))=La.limg φ b (La.trF b A) (La.nv φ (powX k (kab b A) c i)):=funext fun t=>jJ hk oT op.1 op.2 t
  have e2:La.limg φ b A (La.nv φ (powX k A y j))=La.nv φ (powX k A y (j+1)):=funext fun t=>(jJ hk oA oq.1 oq.2 t).symm
  rw[e1,La.zdt oA lA,e2,zev φ oc lc oy ly i (j+1),show i +(j+1)=i+1+j by omega]
end
end L2
namespace L2
open PySem PySem.Spec PyProof.Rows Nm
end L2
namespace L2
open PySem PySem.Spec PyProof.Rows Nm
section
variable{k:Int}{F:Type}[Lean.Grind.Field F]{φ:La.Kf k F}
structure LinF(T:(Nat->F)->Nat->F):Prop where
 lin:∀(c:F)(u v:Nat->F)(j:Nat),T (fun i=>c*u i+v i) j=c*T u j+T v j
 zer:∀ j,T (fun _=>0) j=0
theorem LinF.rm{T:(Nat->F)->Nat->F}(L:LinF T){M Y:TB}(h:∀ r∈M,La.Rm φ Y (T (La.nv φ r))){v:Nat->F}(hv:La.Rm φ M v):La.Rm φ Y (T v) :=
 hv.all (P:=fun v=>La.Rm φ Y (T v)) (La.Span.cast .zero fun j=>(L.zer j).symm) fun c r v ⟨x,hx,e⟩ hv=>(((h x hx).smul c).add hv).cast fun j=>by rw[L.lin,e]
def Rnk(φ:La.Kf k F)(n:Nat)(M:TB)(r:Nat):Prop:=∃ R ls,La.IsR φ n R ls/\(∀ v,La.Rm φ R v↔La.Rm φ M v)/\R.length=r
theorem zjx(hk:kaa k){n:Nat}{M:TB}(oM:La.OkM k n M):∃ R ls,La.kaw φ n M R ls/\R.length<=M.length:=by
 have:∃ Ws:List (List Int),Ws.length=M.length/\∀(i:Nat)(r:List Nb)(ws:List Int),M[i]?=some r->Ws[i]?=some ws->∃ b,La.Scl k r ws b:=by
  induction M with
  | nil=>exact⟨[],rfl,fun i r ws h=>by simp at h⟩
  | cons m M ih =>
   obtain⟨Ws,l,h⟩:=ih fun r hr=>oM r (wr _ hr)
   obtain⟨b,hb⟩:=La.qK hk (oM m wp).2;refine⟨m.map (La.scW b)::Ws,by simp[l],fun i r ws h1 h2=>?_⟩;cases i with
   | zero=>simp at h1 h2;subst h1 h2;exact⟨b,hb⟩
   | succ i=>exact h i r ws (by simpa using h1) (by simpa using h2)
 obtain⟨Ws,l,h⟩:=this;refine⟨_,_,La.YJ φ hk oM l h,?_⟩;have:=La.Zk (k:=k) Ws n;unfold La.redM;rw[wa];omega
theorem ziC{n r r':Nat}{M M':TB}(h:Rnk φ n M r)(h':Rnk φ n M' r')(sub:∀ v,La.Rm φ M v->La.Rm φ M' v):r<=r'/\(r'<=r->∀ v,La.Rm φ M' v->La.Rm φ M v):=by
 obtain⟨R,ls,i,e,rfl⟩:=h;obtain⟨R',ls',i',e',rfl⟩:=h';have:=i.sub_len i' fun v hv=>(e' v).mpr (sub v ((e v).mp hv))
 exact⟨this.1,fun hl v hv=>(e v).mp (this.2 hl v ((e' v).mpr hv))⟩
theorem zjI(hk:kaa k){n r:Nat}{M Y:TB}(oY:La.OkM k n Y)(h:Rnk φ n M r)(sub:∀ v,La.Rm φ M v->La.Rm φ Y v):r<=Y.length:=by
 obtain⟨R,ls,red,l⟩:=zjx (φ:=φ) hk oY;exact wN (ziC h ⟨R,ls,red.toIsR,fun v=>⟨red.fro v,red.to v⟩,rfl⟩ sub).1 l
end
end L2
namespace L2
open PySem PySem.Spec PyProof.Rows Nm
section
variable{k:Int}(hk:kaa k){n:Nat}{F:Type}[Lean.Grind.Field F](φ:La.Kf k F)
include hk
theorem zhc{M:TB}(oM:La.OkM k n M)(lM:M.length=n){w:List Nb}(ow:La.OkR k w)(lw:w.length=n):∀ i j,j<n->La.vP (M.map fun r=>r.map φ.to) n (La.nv φ w) i j=La.nv φ (powX k (kab n M) w i) j
 | 0,j,hj=>rfl
 | i+1,j,hj=>by
  have oT:La.OkM k n (kab n M):=by have:=yu oM;rw[lM]at this;exact this
  have op:=jB hk oT (zK n M) ow lw i;have e1:La.nv φ (powX k (kab n M) w (i+1)) j=La.limg φ n (kab n M) (La.nv φ (powX k (kab n M) w i)) j:=jJ hk oT op.1 op.2 j;rw[e1];show La.dot n (La.vP (M.map fun r=>r.map φ.to) n (La.nv φ w) i) (fun i'=>((M.map fun r=>r.map φ.to).getD i' []).getD j 0)=La.dot n (La.nv φ ((kab n M).getD j [])) (La.nv φ (powX k (kab n M) w i));rw[La.yj];refine La.zV fun i' hi'=>?_
  rw[zhc oM lM ow lw i i' hi']
  congr 1
  have e2:La.nv φ ((kab n M).getD j []) i'=La.nv φ (M.getD i' []) j:=La.yP oM hj;rw[e2];have hi2:i'<M.length:=by omega
  have e3:M.getD i' []=M[i']:=by rw[we,wc hi2];rfl
  have lr:=(oM _ (wm hi2)).1;have e4:(M.map fun r=>r.map φ.to).getD i' []=M[i'].map φ.to:=by rw[we,wk,wc hi2];rfl
  rw[e3,e4,we,wk,wc (by omega),La.yf φ (wc (by omega))]
  rfl
theorem zjD{M:TB}{xs:List Nb}(g:La.GrP k n M xs){i:Nat}(hi:i<=n):La.nv φ xs i =(La.wgr (M.map fun r=>r.map φ.to) n).getD (n - i) 0:=by
 rw[g F φ i,we,we,List.getElem?_reverse (by rw[La.qL];omega),La.qL]
 rfl
theorem zj2(n1:1<=n)(n4:n<=4){M:TB}(oM:La.OkM k n M)(lM:M.length=n){xs w:List Nb}(g:La.GrP k n M xs)(ow:La.OkR k w)(lw:w.length=n){j:Nat}(hj:j<n):La.dot (n+1) (La.nv φ xs) (fun i=>La.nv φ (powX k (kab n M) w i) j)=0:=by
 have:=La.zje n1 n4 (T:=M.map fun r=>r.map φ.to) (by rw[wa];exact lM) (fun r hr=>by
  obtain⟨x,hx,rfl⟩:=wj.mp hr;rw[wa];exact(oM x hx).1) (La.nv φ w) hj
 rw[← this];refine La.zV fun i hi=>?_
 rw[zjD hk φ g (by omega),zhc hk φ oM lM ow lw i j hj]
theorem zhq(n1:1<=n)(n4:n<=4){M:TB}(oM:La.OkM k n M)(lM:M.length=n){xs:List Nb}(g:La.GrP k n M xs):La.nv φ xs n=1:=by
 rw[zjD hk φ g (wu n),uM];exact La.zjJ n1 n4 (by rw[wa];exact lM) fun r hr=>by
  obtain⟨x,hx,rfl⟩:=wj.mp hr;rw[wa];exact(oM x hx).1
theorem zf2(n1:1<=n)(n4:n<=4){A M:TB}(oA:La.OkM k n A)(lA:A.length=n)(oM:La.OkM k n M)(lM:M.length=n){b f w xs:List Nb}(ob:La.OkR k b)(lb:b.length=n)(ow:La.OkR k w)(lw:w.length=n)(g:La.GrP k n M xs)
  (eM:∀ i j,i<n->j<n->La.nv φ (M.getD i []) j=La.nv φ (A.getD i []) j+La.nv φ b i*La.nv φ f j)
  (wb:∀ i,i<n->La.dot n (La.nv φ w) (La.nv φ (powX k A b i))=if i+1=n then 1 else 0) {j:Nat} (hj:j<n):La.dot (n+1) (La.nv φ xs) (fun i=>La.nv φ (powX k (kab n A) w i) j)+La.nv φ f j=0:=by
 have oTA:La.OkM k n (kab n A):=by have:=yu oA;rw[lA]at this;exact this
 have oTM:La.OkM k n (kab n M):=by have:=yu oM;rw[lM]at this;exact this
 have pA:=fun i=>jB hk oTA (zK n A) ow lw i
 have pM:=fun i=>jB hk oTM (zK n M) ow lw i
 have stA:∀ i j,j<n->La.nv φ (powX k (kab n A) w (i+1)) j=La.dot n (La.nv φ (powX k (kab n A) w i)) (fun i'=>La.nv φ (A.getD i' []) j):=fun i j hj=>by
  have e1:La.nv φ (powX k (kab n A) w (i+1)) j=La.limg φ n (kab n A) (La.nv φ (powX k (kab n A) w i)) j:=jJ hk oTA (pA i).1 (pA i).2 j;rw[e1];show La.dot n (La.nv φ ((kab n A).getD j [])) _=_;rw[La.yj];exact La.zV fun i' hi'=>by
   have e2:La.nv φ ((kab n A).getD j []) i'=La.nv φ (A.getD i' []) j:=La.yP oA hj;rw[e2]
 have stM:∀ i j,j<n->La.nv φ (powX k (kab n M) w (i+1)) j=La.dot n (La.nv φ (powX k (kab n M) w i)) (fun i'=>La.nv φ (M.getD i' []) j):=fun i j hj=>by
  have e1:La.nv φ (powX k (kab n M) w (i+1)) j=La.limg φ n (kab n M) (La.nv φ (powX k (kab n M) w i)) j:=jJ hk oTM (pM i).1 (pM i).2 j;rw[e1];show La.dot n (La.nv φ ((kab n M).getD j [])) _=_;rw[La.yj];exact La.zV fun i' hi'=>by
   have e2:La.nv φ ((kab n M).getD j []) i'=La.nv φ (M.getD i' []) j:=La.yP oM hj;rw[e2]
 have up:∀ i,i<n->(∀ j,j<n->La.nv φ (powX k (kab n M) w i) j=La.nv φ (powX k (kab n A) w i) j)->∀ j,j<n->La.nv φ (powX k (kab n M) w (i+1)) j=La.nv φ (powX k (kab n A) w (i+1)) j +(if i+1=n then La.nv φ f j else 0):=fun i hi ih j hj=>by
  rw[stM i j hj,stA i j hj];have e1:La.dot n (La.nv φ (powX k (kab n M) w i)) (fun i'=>La.nv φ (M.getD i' []) j)=La.dot n (La.nv φ (powX k (kab n A) w i)) (fun i'=>La.nv φ (A.getD i' []) j+La.nv φ f j*La.nv φ b i'):=La.zV fun i' hi'=>by rw[ih i' hi',eM i' j hi' hj];grind
  rw[e1,La.Zc n _ (fun i'=>La.nv φ (A.getD i' []) j) (fun i'=>La.nv φ f j*La.nv φ b i'),La.ZR];have e2:La.dot n (La.nv φ (powX k (kab n A) w i)) (La.nv φ b)=if i+1=n then 1 else 0:=by
   have:=zev hk oA lA φ ow lw ob lb i 0;rw[wa4]at this;rw[← wb i hi,← this];rfl
  rw[e2]
  split <;> grind
 have eq:∀ i,i<n->∀ j,j<n->La.nv φ (powX k (kab n M) w i) j=La.nv φ (powX k (kab n A) w i) j:=by
  intro i
  induction i with
  | zero=>intro _ j _;rfl
  | succ i ih =>
   intro hi j hj;rw[up i (by omega) (ih (by omega)) j hj,if_neg (by omega)];grind
 have last:La.nv φ (powX k (kab n M) w n) j=La.nv φ (powX k (kab n A) w n) j+La.nv φ f j:=by
  have:=up (n - 1) (by omega) (eq (n - 1) (by omega)) j hj;rw[show n - 1+1=n by omega,if_pos rfl]at this;exact this
 have ch:=zj2 hk φ n1 n4 oM lM g ow lw hj;have one:=zhq hk φ n1 n4 oM lM g;have s1:La.dot (n+1) (La.nv φ xs) (fun i=>La.nv φ (powX k (kab n M) w i) j)=La.dot n (La.nv φ xs) (fun i=>La.nv φ (powX k (kab n A) w i) j)+La.nv φ xs n *(La.nv φ (powX k (kab n A) w n) j+La.nv φ f j):=by
  show La.dot n _ _+La.nv φ xs n*La.nv φ (powX k (kab n M) w n) j=_;rw[last]
  congr 1
  exact La.zV fun i hi=>by rw[eq i hi j hj]
 rw[s1]at ch;show La.dot n _ _+La.nv φ xs n*La.nv φ (powX k (kab n A) w n) j+_=0;rw[one]at ch ⊢
 grind
end
def hrn(k:Int)(n:Nat)(A:TB)(w xs:List Nb):Nat->List Nb
 | 0=>w
 | t+1=>imgM k (kab n (A++[w])) (hrn k n A w xs t++[xs.getD (n - 1 - t) (nnum k 0)])
section
variable{k:Int}(hk:kaa k){n:Nat}{A:TB}{w xs:List Nb}(oA:La.OkM k n A)(lA:A.length=n)(ow:La.OkR k w)(lw:w.length=n)(ox:La.OkR k xs)(lx:xs.length=n+1)
include hk oA lA ow lw ox lx
theorem zeZ:La.OkM k (n+1) (kab n (A++[w])):=by
 have o:La.OkM k n (A++[w]):=fun r hr=>by
  rcases wq.mp hr with h|h
  ·exact oA r h
  ·rw[wn.mp h];exact⟨lw,ow⟩
 have:=yu o;rw[wD,lA]at this;exact this
theorem zbU:∀ t,t<=n->La.OkR k (hrn k n A w xs t)/\(hrn k n A w xs t).length=n
 | 0,_=>⟨ow,lw⟩
 | t+1,ht=>by
  obtain⟨o,l⟩:=zbU t (by omega);have oT:=zeZ hk oA lA ow lw ox lx;have oy:La.OkR k (hrn k n A w xs t++[xs.getD (n - 1 - t) (nnum k 0)]):=fun x hx=>by
   rcases wq.mp hx with h|h
   ·exact o x h
   ·rw[wn.mp h,we,wc (by omega)];exact ox _ (wm _)
  have:=La.Qv hk oT oy;exact⟨this.2,this.1.trans (zK n _)⟩
theorem zd2{F:Type}[Lean.Grind.Field F](φ:La.Kf k F)(ys:List Nb)(z:Nb){i:Nat}:La.nv φ (ys++[z]) i=if i<ys.length then La.nv φ ys i else if i=ys.length then φ.to z else 0:=by
 rcases wat i ys.length with h|h|h
 ·rw[if_pos h,La.yf φ (show(ys++[z])[i]?=some ys[i] by rw[wW h];exact wc h),La.yf φ (wc h)]
 ·subst h;rw[if_neg (vM _),if_pos rfl,La.yf φ (show(ys++[z])[ys.length]?=some z by rw[wZ (wu _),uM];rfl)]
 ·rw[if_neg (by omega),if_neg (by omega)];exact La.yh φ (by rw[wD];show ys.length+1<=i;omega)
theorem zgq{F:Type}[Lean.Grind.Field F](φ:La.Kf k F){t j:Nat}(ht:t<n)(hj:j<n):La.nv φ (hrn k n A w xs (t+1)) j=La.dot n (La.nv φ (hrn k n A w xs t)) (fun i=>La.nv φ (A.getD i []) j)+La.nv φ xs (n - 1 - t)*La.nv φ w j:=by
 obtain⟨o,l⟩:=zbU hk oA lA ow lw ox lx t (by omega);have oT:=zeZ hk oA lA ow lw ox lx;have gx:xs[n - 1 - t]?=some (xs.getD (n - 1 - t) (nnum k 0)):=by rw[we,wc (by omega)];rfl
 have oy:La.OkR k (hrn k n A w xs t++[xs.getD (n - 1 - t) (nnum k 0)]):=fun x hx=>by
  rcases wq.mp hx with h|h
  ·exact o x h
  ·rw[wn.mp h];exact ox _ (wg gx)
 have o2:La.OkM k n (A++[w]):=fun r hr=>by
  rcases wq.mp hr with h|h
  ·exact oA r h
  ·rw[wn.mp h];exact⟨lw,ow⟩
 have e1:La.nv φ (hrn k n A w xs (t+1)) j=La.limg φ (n+1) (kab n (A++[w])) (La.nv φ (hrn k n A w xs t++[xs.getD (n - 1 - t) (nnum k 0)])) j:=jJ hk oT oy (by rw[wD,l];rfl) j;rw[e1];show La.dot n _ _+La.nv φ ((kab n (A++[w])).getD j []) n*La.nv φ (hrn k n A w xs t++[xs.getD (n - 1 - t) (nnum k 0)]) n=_;have tu:∀ i,La.nv φ ((kab n (A++[w])).getD j []) i=La.nv φ ((A++[w]).getD i []) j:=fun i=>La.yP o2 hj
 have a1:(A++[w]).getD n []=w:=by rw[we,wZ (by omega),lA,uM];rfl
 rw[tu n,a1,zd2 hk oA lA ow lw ox lx φ,if_neg (by omega),if_pos l.symm,La.yf φ gx];have s:La.dot n (La.nv φ ((kab n (A++[w])).getD j [])) (La.nv φ (hrn k n A w xs t++[xs.getD (n - 1 - t) (nnum k 0)]))=La.dot n (La.nv φ (hrn k n A w xs t)) (fun i=>La.nv φ (A.getD i []) j):=by
  rw[La.yj];refine La.zV fun i hi=>?_
  rw[tu i,zd2 hk oA lA ow lw ox lx φ,if_pos (by omega)];have a2:(A++[w]).getD i []=A.getD i []:=by rw[we,wW (by omega),we]
  rw[a2]
 rw[s];grind
theorem zhe{F:Type}[Lean.Grind.Field F](φ:La.Kf k F)(one:La.nv φ xs n=1){j:Nat}(hj:j<n):∀ t,t<=n->∀ j,j<n->La.nv φ (hrn k n A w xs t) j=La.dot (t+1) (fun i=>La.nv φ xs (n - t+i)) (fun i=>La.nv φ (powX k (kab n A) w i) j)
 | 0,_,j,hj=>by
  show La.nv φ w j=0+La.nv φ xs (n - 0+0)*La.nv φ w j;rw[gS,wa4,one];grind
 | t+1,ht,j,hj=>by
  have oTA:La.OkM k n (kab n A):=by have:=yu oA;rw[lA]at this;exact this
  have ih:=zhe φ one hj t (by omega);rw[zgq hk oA lA ow lw ox lx φ (by omega) hj];have e1:La.dot n (La.nv φ (hrn k n A w xs t)) (fun i=>La.nv φ (A.getD i []) j)=La.dot n (fun i'=>La.dot (t+1) (fun i=>La.nv φ xs (n - t+i)) (fun i=>La.nv φ (powX k (kab n A) w i) i')) (fun i=>La.nv φ (A.getD i []) j):=La.zV fun i hi=>by rw[ih i hi]
  rw[e1];have sw:∀ m,La.dot n (fun i'=>La.dot m (fun i=>La.nv φ xs (n - t+i)) (fun i=>La.nv φ (powX k (kab n A) w i) i')) (fun i=>La.nv φ (A.getD i []) j)=La.dot m (fun i=>La.nv φ xs (n - t+i)) (fun i=>La.nv φ (powX k (kab n A) w (i+1)) j):=by
   intro m
   induction m with
   | zero=>exact La.dot_zero n _ _ fun i _=>by show(0:F)*_=0;grind
   | succ m ihm =>
    show La.dot n (fun i'=>La.dot m _ _+La.nv φ xs (n - t+m)*La.nv φ (powX k (kab n A) w m) i') _=La.dot m _ _+_;rw[La.Xj n (fun i'=>La.dot m (fun i=>La.nv φ xs (n - t+i)) (fun i=>La.nv φ (powX k (kab n A) w i) i')) (fun i'=>La.nv φ xs (n - t+m)*La.nv φ (powX k (kab n A) w m) i'),ihm,La.ju]
    congr 1
    congr 1
    have op:=jB hk oTA (zK n A) ow lw m;have e2:La.nv φ (powX k (kab n A) w (m+1)) j=La.limg φ n (kab n A) (La.nv φ (powX k (kab n A) w m)) j:=jJ hk oTA op.1 op.2 j;show _=La.nv φ (powX k (kab n A) w (m+1)) j;rw[e2];show _=La.dot n (La.nv φ ((kab n A).getD j [])) _;rw[La.yj];exact La.zV fun i hi=>by
     have e3:La.nv φ ((kab n A).getD j []) i=La.nv φ (A.getD i []) j:=La.yP oA hj;rw[e3]
  rw[sw (t+1)];have fr:∀(u v:Nat->F) m,La.dot (m+1) u v=u 0*v 0+La.dot m (fun i=>u (i+1)) (fun i=>v (i+1)):=by
   intro u v m
   induction m with
   | zero=>show(0:F)+_=_+0;grind
   | succ m ihm =>
    show La.dot (m+1) u v+u (m+1)*v (m+1)=_ +(La.dot m _ _+u (m+1)*v (m+1));rw[ihm];grind
  rw[fr _ _ (t+1)];have e4:La.dot (t+1) (fun i=>La.nv φ xs (n - t+i)) (fun i=>La.nv φ (powX k (kab n A) w (i+1)) j)=La.dot (t+1) (fun i=>La.nv φ xs (n - (t+1) +(i+1))) (fun i=>La.nv φ (powX k (kab n A) w (i+1)) j):=La.zV fun i _=>by rw[show n - (t+1) +(i+1)=n - t+i by omega]
  rw[e4];have e5:n - (t+1)+0=n - 1 - t:=by omega
  show _=La.nv φ xs (n - (t+1)+0)*La.nv φ w j+_;rw[e5];grind
end
end L2
namespace L2
open PySem PySem.Spec PyProof.Rows Nm
def stL(k:Int)(A:TB)(b:List Nb)(i:Nat):TB:=(wV i).map (powX k A b)
theorem JN(k:Int)(A:TB)(b:List Nb)(i:Nat):(stL k A b i).length=i:=by unfold stL;rw[wa,uv]
theorem ziP{k:Int}{A:TB}{b:List Nb}{i j:Nat}(h:j<i):(stL k A b i)[j]?=some (powX k A b j):=by unfold stL;rw[wk,vH h];rfl
theorem zgl(k:Int)(A:TB)(b:List Nb)(i:Nat):stL k A b (i+1)=stL k A b i++[powX k A b i]:=by unfold stL;rw[vn,wv];rfl
theorem stL_mem{k:Int}{A:TB}{b r:List Nb}{i:Nat}:r∈stL k A b i↔∃ j,j<i/\r=powX k A b j:=by
 unfold stL;rw[wj];exact⟨fun⟨j,h,e⟩=>⟨j,vA.mp h,e.symm⟩,fun⟨j,h,e⟩=>⟨j,vA.mpr h,e.symm⟩⟩
theorem zgx{k:Int}(hk:kaa k){n:Nat}{U:TB}{lu:List Nat}(i:IsRa k n U lu)(l:U.length=n)(F:Type)[Lean.Grind.Field F](φ:La.Kf k F){p:Nat}(hp:p<n):La.Rm φ U (La.kar p 1):=by
 have fr:=zgo hk i;have e0:freeOf n lu=[]:=vN (by omega);have all:∀ f,f<n->f∈lu:=fun f hf=>by
  by_cases h:f∈lu
  ·exact h
  ·have:=(zgJ n lu f).mpr ⟨hf,h⟩;rw[e0]at this;exact nomatch this
 obtain⟨u,hu,eu⟩:=(i F φ).take_off (La.kar p 1);refine hu.cast fun j=>?_
 rcases wO j n with hj|hj
 ·exact eu j (all j hj)
 ·have:u j=0:=(i F φ).rr.out_of ((i F φ).rows.mpr hu) j hj;rw[this];unfold La.kar;rw[if_neg (by omega)]
section
variable{k:Int}(hk:kaa k){n:Nat}{A:TB}(oA:La.OkM k n A)(lA:A.length=n){b:List Nb}(ob:La.OkR k b)(lb:b.length=n)
include hk oA lA ob lb
theorem zct(i:Nat):La.OkM k n (stL k A b i):=fun r hr=>by
 obtain⟨j,hj,rfl⟩:=stL_mem.mp hr;have:=jB hk oA lA ob lb j;exact⟨this.2,this.1⟩
theorem zdQ:∀(t:Nat),(∀ r,r∈La.kry k A [b] t↔r∈stL k A b (t+1)):=fun t r=>by
 rw[stL_mem]
 constructor
 ·intro h;obtain⟨x,hx,i,hi,e⟩:=Qk t r h;rw[wn.mp hx]at e;exact⟨i,by omega,e⟩
 ·rintro ⟨j,hj,rfl⟩
  exact zcC wp t j (by omega)
theorem zjH{R:TB}{lr:List Nat}(iR:IsRa k n R lr)(eR:SameR k R (La.kry k A [b] n))(l:R.length=n):∀(F:Type) [Lean.Grind.Field F] (φ:La.Kf k F) (i:Nat),i<n->¬ La.Rm φ (stL k A b i) (La.nv φ (powX k A b i)):=fun F _ φ i hi h=>by
 have lin:LinF (La.limg φ n A):=⟨fun c u v j=>La.Qi A c u v j,fun j=>La.Zi A j⟩;have st:∀ r∈stL k A b i,La.Rm φ (stL k A b i) (La.limg φ n A (La.nv φ r)):=fun r hr=>by
  obtain⟨j,hj,rfl⟩:=stL_mem.mp hr;have op:=jB hk oA lA ob lb j;have e:La.limg φ n A (La.nv φ (powX k A b j))=La.nv φ (powX k A b (j+1)):=funext fun q=>(jJ hk oA op.1 op.2 q).symm
  rw[e]
  rcases wO (j+1) i with g|g
  ·exact .of ⟨_,stL_mem.mpr ⟨j+1,g,rfl⟩,rfl⟩
  ·have:j+1=i:=by omega
   rw[this];exact h
 have all:∀ t,La.Rm φ (stL k A b i) (La.nv φ (powX k A b t)):=by
  intro t
  induction t with
  | zero =>
   rcases gQ i with e|e
   ·subst e;exact h
   ·exact .of ⟨_,stL_mem.mpr ⟨0,e,rfl⟩,rfl⟩
  | succ t ih =>
   have op:=jB hk oA lA ob lb t;have e:La.limg φ n A (La.nv φ (powX k A b t))=La.nv φ (powX k A b (t+1)):=funext fun q=>(jJ hk oA op.1 op.2 q).symm
   rw[← e];exact lin.rm st ih
 have le:=zjI (φ:=φ) hk (zct hk oA lA ob lb i) ⟨R,lr,iR F φ,fun _=>Iff.rfl,rfl⟩ fun v hv=>((eR F φ v).mp hv).bind fun u ⟨x,hx,e⟩=>by
  obtain⟨j,hj,rfl⟩:=stL_mem.mp ((zdQ hk oA lA ob lb n x).mp hx);rw[e];exact all j
 rw[JN]at le;omega
theorem zfS{R:TB}{lr:List Nat}(n1:1<=n)(iR:IsRa k n R lr)(eR:SameR k R (La.kry k A [b] n))(l:R.length=n)(F:Type)[Lean.Grind.Field F](φ:La.Kf k F){p:Nat}(hp:p<n):La.Rm φ (stL k A b n) (La.kar p 1):=by
 have ob1:La.OkM k n [b]:=fun r hr=>by rw[wn.mp hr];exact⟨lb,ob⟩
 have h1:=(eR F φ _).mp (zgx hk iR l F φ hp);have h2:=La.zb3 hk oA lA ob1 n1 _ h1;exact La.zik (fun r hr=>by
  have:=(zdQ hk oA lA ob lb (n - 1) r).mp hr
  rwa [show n - 1+1=n by omega]at this) h2
theorem zir(n1:1<=n)(n4:n<=4){M:TB}(oM:La.OkM k n M)(lM:M.length=n){f w xs:List Nb}(of:La.OkR k f)(lf:f.length=n)(ow:La.OkR k w)(lw:w.length=n)(ox:La.OkR k xs)(lx:xs.length=n+1)(g:La.GrP k n M xs)
  (eM:∀(F:Type) [Lean.Grind.Field F] (φ:La.Kf k F) (i j:Nat),i<n->j<n->La.nv φ (M.getD i []) j=La.nv φ (A.getD i []) j+La.nv φ b i*La.nv φ f j)
  (wb:∀(F:Type) [Lean.Grind.Field F] (φ:La.Kf k F) (i:Nat),i<n->La.dot n (La.nv φ w) (La.nv φ (powX k A b i))=if i+1=n then 1 else 0):subR k (zerN k n) (hrn k n A w xs n)=f:=by
 obtain⟨F,_,_,⟨φ⟩⟩:=La.yi hk;have oh:=zbU hk oA lA ow lw ox lx n (wu n);have oz:La.OkR k (zerN k n):=fun y hy=>by rw[vk hy];exact La.zL hk 0
 have lz:(zerN k n).length=n:=by unfold zerN;rw[wL]
 have lh:(zerN k n).length =(hrn k n A w xs n).length:=lz.trans oh.2.symm;refine La.zcu φ (ziK hk oz oh.1) of ((sub_len hk lh).trans (lz.trans lf.symm)) fun j=>?_
 rw[zjz hk φ oz oh.1 lh,zjN hk φ]
 rcases wO j n with hj|hj
 ·have e1:=zhe hk oA lA ow lw ox lx φ (zhq hk φ n1 n4 oM lM g) hj n (wu n) j hj;have e2:=zf2 hk φ n1 n4 oA lA oM lM ob lb ow lw g (eM F φ) (wb F φ) hj;have e3:La.dot (n+1) (fun i=>La.nv φ xs (n - n+i)) (fun i=>La.nv φ (powX k (kab n A) w i) j)=La.dot (n+1) (La.nv φ xs) (fun i=>La.nv φ (powX k (kab n A) w i) j):=La.zV fun i _=>by rw[uM,vp]
  rw[e1,e3]
  grind
 ·rw[La.yh φ (by omega),La.yh φ (by omega)];grind
end
theorem zfX{k:Int}(hk:kaa k){n h:Nat}{A B:TB}(oA:La.OkM k n A)(lA:A.length=n)(oB:La.OkM k h B)(lB:B.length=n){Z:TB}(oZ:La.OkM k n Z)(lZ:Z.length=h)(z:∀ r∈Z,∀ x∈r,x=nnum k 0):rulM k n A B Z=A:=by
 obtain⟨F,_,_,⟨φ⟩⟩:=La.yi hk;have oI:=La.yH hk n;have oU:La.OkM k n (La.kak k n++Z):=fun r hr=>by
  rcases wq.mp hr with g|g
  ·exact oI.1 r g
  ·exact oZ r g
 have lU:(La.kak k n++Z).length=n+h:=by rw[wD,oI.2,lZ]
 have oT:=yu oU;rw[lU]at oT;refine uD (by unfold rulM kal augM;rw[wa,wG];omega) fun i h1 h2=>?_
 have hb:i<B.length:=by omega
 have er:(rulM k n A B Z)[i] =(kab n (La.kak k n++Z)).map fun col=>La.ndot k (A[i]++B[i]) col:=by
  have e:(rulM k n A B Z)[i]?=some ((kab n (La.kak k n++Z)).map fun col=>La.ndot k (A[i]++B[i]) col):=by unfold rulM kal;rw[wk,Qf (wc h2) (wc hb)];rfl
  rw[wc h1]at e;exact Option.some.inj e
 have nvU:∀ p j,p<n->La.nv φ ((La.kak k n).getD p []) j=if j=p then 1 else 0:=fun p j hp=>by
  have e:(La.kak k n).getD p []=La.kaj k n p:=by
   unfold La.kak;rw[we,wk,vH hp];rfl
  rw[e,La.qx hp]
  rfl
 have oa:=oA _ (wm h2);have obb:=oB _ (wm hb);have oab:La.OkR k (A[i]++B[i]):=fun x hx=>by
  rcases wq.mp hx with g|g
  ·exact oa.2 x g
  ·exact obb.2 x g
 have lab:(A[i]++B[i]).length=n+h:=by rw[wD,oa.1,obb.1]
 rw[er];refine La.zcu φ (fun x hx=>?_) oa.2 (by rw[wa,zK,oa.1]) fun j=>?_
 ·obtain⟨c,hc,rfl⟩:=wj.mp hx;exact La.xU hk oab (oT c hc).2
 rcases wO j n with hj|hj
 ·have gT:=getT (La.kak k n++Z) hj;have oc:=oT _ (wg gT);rw[La.yf φ (show((kab n (La.kak k n++Z)).map fun col=>La.ndot k (A[i]++B[i]) col)[j]?=some (La.ndot k (A[i]++B[i]) ((kab n (La.kak k n++Z)).getD j [])) by rw[wk,gT];rfl),La.qS φ hk oab oc.2 (by rw[lab,oc.1]),lab];have hj2:j<A[i].length:=by omega
  have one:=La.zby (F:=F) (n:=n+h) (l:=j) (by omega) (u:=La.nv φ (A[i]++B[i])) (v:=La.nv φ ((kab n (La.kak k n++Z)).getD j [])) (fun q hq ne=>?_)
  ·rw[one];have t1:La.nv φ ((kab n (La.kak k n++Z)).getD j []) j=La.nv φ ((La.kak k n++Z).getD j []) j:=La.yP oU hj;have t2:(La.kak k n++Z).getD j [] =(La.kak k n).getD j []:=by rw[we,wW (by rw[oI.2];exact hj),we]
   rw[t1,t2,nvU j j hj,if_pos rfl,La.yf φ (show(A[i]++B[i])[j]?=some A[i][j] by rw[wW hj2];exact wc hj2),La.yf φ (wc hj2)]
   grind
  ·have t1:La.nv φ ((kab n (La.kak k n++Z)).getD j []) q=La.nv φ ((La.kak k n++Z).getD q []) j:=La.yP oU hj;rw[t1]
   rcases wO q n with g|g
   ·have t2:(La.kak k n++Z).getD q [] =(La.kak k n).getD q []:=by rw[we,wW (by rw[oI.2];exact g),we]
    rw[t2,nvU q j g,if_neg (fun e=>ne e.symm)];grind
   ·have t2:(La.kak k n++Z).getD q []=Z.getD (q - n) []:=by rw[we,wZ (by rw[oI.2];exact g),oI.2,we]
    have hz:q - n<Z.length:=by omega
    have gz:Z[q - n]?=some (Z.getD (q - n) []):=by rw[we,wc hz];rfl
    have oz:=oZ _ (wg gz);rw[t2,La.yf φ (wc (show j <(Z.getD (q - n) []).length by rw[oz.1];exact hj)),z _ (wg gz) _ (wm _)];have:φ.to (nnum k 0)=0:=φ.num0;rw[this];grind
 ·rw[La.yh φ (by rw[wa,zK];exact hj),La.yh φ (by omega)]
end L2
namespace L2
open PySem PySem.Spec PyProof.Rows Nm
def Itv(K:PySem.W.Frag)(a:Addr)(N:Nat):It :=
 ⟨fun i H=>∃ xs x,SqL K H a xs/\i<N/\xs[N - 1 - i]?=some x,fun i H x H'=>H'=H/\∀ xs,SqL K H a xs->xs[N - 1 - i]?=some x,fun i _=>i=N⟩
theorem zge{P:Program}{w:World}{K:PySem.W.Frag}{tg:Expr}(a it:Addr)(N:Nat):Turn P w K tg (Itv K a N) [it] it (fun i h=>i<=N/\h.IsRevIter it a ((N:Int) - 1 - (i:Int))) where
 mem:=by simp
 obj:=fun i h st b hb=>by
  have e:b=it:=by simpa using hb
  subst e;obtain⟨_,o,e,c,d⟩:=st;exact⟨o,e,fun v z=>by rw[d]at z;cases z⟩
 keep:=fun i h h' st k=>⟨st.1,st.2.at fun o e=>k it (by simp) o e⟩
 item:=by
  intro X hP hw hK hc i pins s σ H E I hf st hg;subst hP hw hK;obtain⟨xs,x,hq,hi,hx⟩:=hg;obtain⟨its,rv,p,hz⟩:=I.list hq;obtain⟨u,hu,ru⟩:=rv.get hx;obtain⟨f0,f1,f2,f3,f4,f5⟩:=hf it (by simp);have ei:(N:Int) - 1 - (i:Int) =((N - 1 - i:Nat):Int):=by omega
  have st1:=st.2;rw[ei]at st1;refine wpAny_pyNext_rev_item st1 p.isList (x:=u) (by simpa using hu) fun h' st' sb=>?_
  have I1:Inv X pins σ H { s with heap:=h' }:=I.turned (t':=s.toks) (fun b o hb e=>(sb.2 b hb).trans e) f0 f1 f3 f4 f5;rw[show((N - 1 - i:Nat):Int) - 1 =(N:Int) - 1 - ((i+1:Nat):Int) by omega]at st';obtain⟨o,e,c,d⟩:=id st';exact⟨u,rfl,ziA (s:={ s with heap:=h' }) e c d (by decide) ⟨x,H,I1,ru,⟨rfl,fun ys hy=>by rw[I.list_inj hy hq];exact hx⟩,⟨hi,st'⟩,fun b hb=>(hf b hb).1⟩⟩
 done:=by
  intro X hP hw hK hc i pins s σ H E I hf st hg;subst hP hw hK;have hi:i=N:=hg;obtain⟨f0,f1,f2,f3,f4,f5⟩:=hf it (by simp);have st1:=st.2;rw[show(N:Int) - 1 - (i:Int) = -1 by omega]at st1;exact wpAny_pyNext_rev_end (I.ok.hd hc) st1 fun h' eb=>⟨rfl,I.turned (t':=s.toks) (fun b o hb e=>eb b o hb e) f0 f1 f3 f4 f5⟩
 self:=fun _ _ _ _ _ st h=>wpAny_pyIter_revIter st.2 h
section
variable{X:Cx}{K:PySem.W.Frag}{tg e:Expr}{t:TA}{p2 pos2:Pos}
def iRev(K:PySem.W.Frag)(t:TA):TI:=fun σ H R=>t σ H fun xs H1=>∃ a ys,xs=[.ref a]/\SqL K H1 a ys/\R (Itv K a ys.length) H1
theorem zi4 (hK:X.K=K) (hg:Gl X "reversed") (hm:X.mg "reversed" = none) (ha:PA X [e] t)
  (h2:starEach [e] X.env =(false,eval e X.env)::starEach [] X.env:=by rfl) (h4:(backTo pos2 (starEach [] X.env)).any (·.1)=false:=by rfl) :
  PI X tg (.Call (.Name "reversed" p2) [e] [] pos2) (iRev K t):=by
 subst hK;intro pins s σ H R I h;refine wpAny_Call_Name_kw (zam I hg hm (u:=.type "reversed") PyProof.Rows.boot_reversed ?_);refine PyProof.Rows.callWith_type1 (thn (ha pos2 pins s σ H _ I h) fun us s1 ⟨vs,H1,I1,r1,q1⟩=>?_) h2 h4;obtain⟨l,ys,rfl,hq,q⟩:=q1;obtain⟨u,rfl,rx⟩:=vals1 r1;cases rx;obtain⟨its,r',pl,hz⟩:=I1.list hq;have hlen:=r'.length;refine call_reversed_list pl.isList ?_;have st:(s1.heap.push (revObj l ((its.toArray.size:Int) - 1))).IsRevIter s1.heap.objs.size l ((its.toArray.size:Int) - 1):=⟨_,Heap.get?_push_size _ rfl,rfl,rfl⟩;refine wpAny_pyIter_revIter st ?_;refine⟨s1.heap.objs.size,[s1.heap.objs.size],_,_,H1,rfl,I1.kept (t':=s1.toks) fun b o e=>Heap.get?_push_of_some _ e,zge l _ ys.length,⟨vq _,?_⟩,fun b hb=>?_,q⟩
 ·rw[show(ys.length:Int) - 1 - ((0:Nat):Int) =(its.toArray.size:Int) - 1 by rw[wJ,← hlen];omega];exact st
 ·have e:b=s1.heap.objs.size:=by simpa using hb
  subst e;exact I1.fpOk (wu _) (I1.hok.fresh (wu _))
end
theorem zh0{K:PySem.W.Frag}{a:Addr}{xs:List V}{N:Nat}(hN:xs.length=N){g:TG}{tb:TS}{D:Ends}{σ:St}{H:Hp}(Pv:Nat->St->Hp->Prop)(h0:Pv 0 σ H)(hl:∀ i σ H,i<=N->Pv i σ H->SqL K H a xs)
  (hs:∀ i x σ H,i<N->xs[N - 1 - i]?=some x->Pv i σ H->g x σ H fun σ2 H2=>tb { D with nx:=Pv (i+1),ct:=Pv (i+1),bk:=D.nx } σ2 H2) (hd:∀ σ H,Pv N σ H->D.nx σ H) :
  ∃ W:Nat->Nat->St->Hp->Prop,(∃ m,W 0 m σ H)/\∀ i m σ H,W i m σ H ->
   ((Itv K a N).stop i H/\D.nx σ H)\/((Itv K a N).go i H/\∃ Z:St->Hp->Prop,(∀ σ' H',Z σ' H'->∃ m',m'<m/\W (i+1) m' σ' H')/\∀ x H',(Itv K a N).yld i H x H'->g x σ H' fun σ2 H2=>tb { D with nx:=Z,ct:=Z,bk:=D.nx } σ2 H2):=by
 refine⟨fun i m σ H=>m=N - i/\i<=N/\Pv i σ H,⟨N,by simp,vq _,h0⟩,?_⟩
 rintro i m σ H ⟨rfl,hi,p⟩
 have q:=hl i σ H hi p
 by_cases hlt:i<N
 ·have hx:N - 1 - i<xs.length:=by omega
  refine .inr ⟨⟨xs,xs[N - 1 - i],q,hlt,by simp[hx]⟩,Pv (i+1),fun σ' H' p'=>⟨N - (i+1),by omega,rfl,hlt,p'⟩,fun x H' y=>?_⟩;obtain⟨e,y⟩:=y;subst e;exact hs i x σ _ hlt (y xs q) p
 ·have e:i=N:=by omega
  subst e;exact .inl ⟨rfl,hd σ H p⟩
end L2
namespace L2
open PySem PySem.Spec PyProof.Rows Nm
def toI:Nb->Int
 | .q r=>r.num
 | .z i=>i
theorem zeU{k:Int}(k0:k=0){m:Nat}{x:Nb}(h:whk k m x):x=nnum k (toI x)/\Sm m (toI x):=by
 obtain⟨i,e,hi⟩:=h k0;have e2:toI x=i:=by
  rw[e,xX k0];show((i:Rat)).num=i;exact Rat.num_intCast i
 rw[e2];exact⟨e,hi⟩
theorem zf5{k:Int}(hk:kaa k){n:Nat}(n4:n<=4){M:TB}(oM:La.OkM k n M)(wM:∀ r∈M,∀ x∈r,whk k 17 x){xs:List Nb}(ox:La.OkR k xs)(lx:xs.length=n+1)(g:La.GrP k n M xs):∀ x∈xs,nsm 1008 x:=fun x hx=>by
 by_cases k0:k=0
 ·subst k0;obtain⟨j,hj,ej⟩:=wI hx
  let W:List (List Int):=M.map fun r=>r.map toI
  have e1:(M.map fun r=>r.map La.kfRat.to)=W.map fun r=>r.map (La.ι:Int->Rat):=by
   show _ =(M.map fun r=>r.map toI).map _;rw[vm];refine vB fun r hr=>?_
   show r.map _ =(r.map toI).map _;rw[vm];refine vB fun y hy=>?_
   have:=(zeU rfl (wM r hr y hy)).1;show La.kfRat.to y=La.ι (toI y);rw[← La.kfRat.num (toI y),← this]
  have e2:=g Rat La.kfRat j;rw[e1,← La.za4 La.hm_ι W n,← waF,La.yf La.kfRat (wc hj),ej]at e2;have lW:((La.wgr W n).reverse).length=n+1:=by rw[List.length_reverse,zd6]
  have hj2:j <((La.wgr W n).reverse).length:=by omega
  have e3:(((La.wgr W n).reverse).map (La.ι:Int->Rat)).getD j 0=La.ι (((La.wgr W n).reverse)[j]):=by
   rw[we,wk,wc hj2];rfl
  rw[e3,← La.kfRat.num]at e2;have e4:=La.kfRat.inj (ox x hx) (La.zL hk _) e2;rw[e4];have mem:((La.wgr W n).reverse)[j]∈La.wgr W n:=waG.mp (wm hj2);have sm:=zhl (m:=17) (W:=W) (fun r hr=>by
   obtain⟨q,hq,rfl⟩:=wj.mp hr;refine⟨by rw[wa,(oM q hq).1];exact n4,fun w hw=>?_⟩;obtain⟨y,hy,rfl⟩:=wj.mp hw;exact(zeU rfl (wM q hq y hy)).2) n n4 _ mem
  refine yI hk (sm.mono ?_) (by decide);have:n *(5 *(17+4)+6)<=4 *(5 *(17+4)+6):=wP _ n4;omega
 ·exact(Zw hk k0 (ox x hx)).mono (by decide)
def adT(k:Int)(M N:TB):TB:=vy (La.addR k) M N
theorem zdT{k:Int}{M N:TB}{i:Nat}{a b:List Nb}(h1:M[i]?=some a)(h2:N[i]?=some b):(adT k M N)[i]?=some (La.addR k a b):=by unfold adT;rw[vz,h1,h2]
section
variable{k:Int}(hk:kaa k){n:Nat}{A B:TB}{f:List Nb}(oA:La.OkM k n A)(lA:A.length=n)(oB:La.OkM k 1 B)(lB:B.length=n)(of:La.OkR k f)(lf:f.length=n)
include hk oA lA oB lB of lf
theorem JE:La.OkM k n (kal k n B [f])/\(kal k n B [f]).length=n/\∀(F:Type) [Lean.Grind.Field F] (φ:La.Kf k F) (i j:Nat),i<n->j<n->La.nv φ ((kal k n B [f]).getD i []) j=La.nv φ ((kab 1 B).getD 0 []) i*La.nv φ f j:=by
 have o1:La.OkM k n [f]:=fun r hr=>by rw[wn.mp hr];exact⟨lf,of⟩
 have o:=La.zgj hk (c:=n) oB o1;refine⟨o.2,o.1.trans lB,fun F _ φ i j hi hj=>?_⟩;have hb:i<B.length:=by omega
 have ob:=oB _ (wm hb);have gT:=getT [f] hj;have oT:=yu o1;have oc:=oT _ (wg gT);have er:(kal k n B [f]).getD i [] =(kab n [f]).map fun col=>La.ndot k B[i] col:=by
  unfold kal;rw[we,wk,wc hb];rfl
 rw[er,La.yf φ (show((kab n [f]).map fun col=>La.ndot k B[i] col)[j]?=some (La.ndot k B[i] ((kab n [f]).getD j [])) by rw[wk,gT];rfl),La.qS φ hk ob.2 oc.2 (by rw[ob.1,oc.1];rfl),ob.1];show La.dot 0 _ _+La.nv φ B[i] 0*La.nv φ ((kab n [f]).getD j []) 0=_;have t1:La.nv φ ((kab n [f]).getD j []) 0=La.nv φ ([f].getD 0 []) j:=La.yP o1 hj;have t2:La.nv φ ((kab 1 B).getD 0 []) i=La.nv φ (B.getD i []) 0:=La.yP oB (by decide);have t3:B.getD i []=B[i]:=by rw[we,wc hb];rfl
 rw[t1,t2,t3];show(0:F)+_=_;have:([f]:TB).getD 0 []=f:=rfl;rw[this];grind
theorem zd1:La.OkM k n (adT k A (kal k n B [f]))/\(adT k A (kal k n B [f])).length=n/\∀(F:Type) [Lean.Grind.Field F] (φ:La.Kf k F) (i j:Nat),i<n->j<n->La.nv φ ((adT k A (kal k n B [f])).getD i []) j=La.nv φ (A.getD i []) j+La.nv φ ((kab 1 B).getD 0 []) i*La.nv φ f j:=by
 obtain⟨oP,lP,eP⟩:=JE hk oA lA oB lB of lf;refine⟨fun r hr=>?_,by unfold adT;rw[wG];omega,fun F _ φ i j hi hj=>?_⟩
 ·unfold adT at hr;obtain⟨i,hi,e⟩:=wI hr;rw[vF]at e;rw[wG]at hi;have o1:=oA _ (wm (l:=A) (n:=i) (by omega));have o2:=oP _ (wm (l:=kal k n B [f]) (n:=i) (by omega));rw[← e];exact⟨(La.JG (o1.1.trans o2.1.symm)).trans o1.1,La.zh7 hk o1.2 o2.2⟩
 ·have ha:i<A.length:=by omega
  have hp:i <(kal k n B [f]).length:=by omega
  have o1:=oA _ (wm ha);have o2:=oP _ (wm hp);have e1:(adT k A (kal k n B [f])).getD i []=La.addR k A[i] (kal k n B [f])[i]:=by rw[we,zdT (wc ha) (wc hp)];rfl
  have e2:A.getD i []=A[i]:=by rw[we,wc ha];rfl
  have e3:(kal k n B [f]).getD i [] =(kal k n B [f])[i]:=by rw[we,wc hp];rfl
  rw[e1,La.zib φ o1.2 o2.2 (o1.1.trans o2.1.symm),e2,← e3,eP F φ i j hi hj]
theorem zif(wA:∀ r∈A,∀ x∈r,whk k 14 x)(wB:∀ r∈B,∀ x∈r,whk k 14 x)(wf:∀ x∈f,whk k 2 x):(∀ r∈kal k n B [f],∀ x∈r,whk k 16 x)/\∀ r∈adT k A (kal k n B [f]),∀ x∈r,whk k 17 x:=by
 obtain⟨oP,lP,_⟩:=JE hk oA lA oB lB of lf;have o1:La.OkM k n [f]:=fun r hr=>by rw[wn.mp hr];exact⟨lf,of⟩
 have w1:∀ r∈kal k n B [f],∀ x∈r,whk k 16 x:=fun r hr x hx=>by
  unfold kal at hr;obtain⟨b,hb,rfl⟩:=wj.mp hr;obtain⟨c,hc,rfl⟩:=wj.mp hx;have ob:=oB b hb;have oc:=yu o1 c hc;exact zb8 hk ob.2 oc.2 ob.1 (show 1<=2^0 by decide) (wB b hb) (XW o1 (fun r hr=>by rw[wn.mp hr];exact wf) c hc)
 refine⟨w1,fun r hr x hx=>?_⟩;unfold adT at hr;obtain⟨i,hi,e⟩:=wI hr;rw[vF]at e;rw[wG]at hi;have m1:=wm (l:=A) (n:=i) (by omega);have m2:=wm (l:=kal k n B [f]) (n:=i) (by omega);rw[← e]at hx;unfold La.addR at hx;obtain⟨j,hj,e2⟩:=wI hx;rw[vF]at e2;rw[wG]at hj;have n1:=wm (l:=A[i]'(by omega)) (n:=j) (by omega);have n2:=wm (l:=(kal k n B [f])[i]'(by omega)) (n:=j) (by omega);rw[← e2];exact(zcb ((oA _ m1).2 _ n1) ((oP _ m2).2 _ n2) (wA _ m1 _ n1) (w1 _ m2 _ n2)).mono (by decide)
end
end L2
namespace KL
open PySem PySem.Spec PyProof.Rows L2 Nm
set_option maxHeartbeats 4000000
section
variable{P:Program}{w:World}{K:PySem.W.Frag}{mg:Str->Option Value}{base:Heap}
theorem yX{a b:Int}(h0:0<=a)(h1:a<=2305843009213693952):IntMulOk a b:=IntMulOk.of_left (intBits_le_64 (by omega) (by omega))
def zcQ:Sp:=fun vs H Q _=>∃(a b:Int),vs=[.int a,.int b]/\Q (.int ((vf a b:Nat):Int)) H
theorem zfu(i:Int):(if i<0 then -i else i) =(i.natAbs:Int):=by split <;> omega
theorem zj7 (D:Df K mg "common_divisor" Ss yQ) (m_abs:mg "abs" = none):Kn P w K mg base "common_divisor" 1 Ss zcQ:=by
 refine D.kn sC (fun vs H Q E h=>?_) (fun f cdv A outer s H vs Q E hr h=>?_)
 ·obtain⟨a,b,rfl,_⟩:=h;rfl
 obtain⟨a,b,rfl,q⟩:=h;refine⟨_,(zc (zk (i:=2) sC.nd rfl (.inl rfl) (zw JC rfl m_abs ze7 (za (pv 0) zd))) (zc (zk (i:=3) sC.nd rfl (.inl rfl) (zw JC rfl m_abs ze7 (za (pv 1) zd))) (zc (jl PassesOwn.never (zI zbF (pv 3) zf (kae _)) (zc (zk (i:=4) sC.nd rfl (.inl rfl) (zm zO (pv 2) (pv 3))) (zc (zk (i:=2) sC.nd rfl (.inl rfl) (pv 3)) (zi (zk (i:=3) sC.nd rfl (.inl rfl) (pv 4)))))) (zi (zq (pv 2)))))),?_⟩;refine⟨_,rfl,a,rfl,_,rfl,b,rfl,?_⟩;rw[zfu,zfu];refine⟨fun m σ H'=>∃ l r o,σ=[some (.int a),some (.int b),some (.int l),some (.int r),o]/\H'=H/\0<=l/\0<=r/\vf l r=vf a b/\m=r.toNat,⟨_,_,_,none,rfl,rfl,uI _,uI _,by simp[uB],rfl⟩,?_⟩
 rintro m σ H' ⟨l,r,o,rfl,rfl,l0,r0,g,rfl⟩
 refine⟨_,rfl,rfl,_,rfl,?_⟩;refine ite2 (fun c=>?_) (fun c=>?_)
 ·have c':r≠0:=fun z=>by rw[z]at c;exact absurd c (by decide)
  have m0:=wy l (show 0<r by omega);have m1:=wH l (show 0<r by omega);refine⟨_,fun _ _ h=>h,?_⟩;exact⟨_,rfl,_,rfl,_,_,rfl,rfl,c',_,rfl,_,rfl,_,by omega,r,l.fmod r,_,rfl,rfl,r0,m0,(zb9 l r).trans g,rfl⟩
 ·have c':r=0:=by
   rcases gk 0 r with h|h
   ·exact absurd (by have h':¬ V.int r=V.int 0:=fun z=>(by have:=V.int.inj z;omega);rw[decide_eq_false h'];rfl) c
   ·omega
  subst c';refine⟨_,rfl,?_⟩;have e:l =((vf a b:Nat):Int):=by rw[← g,wam];omega
  show Q (.int l) H';rw[e];exact q
def qO:Sp:=fun vs H Q _=>∃(t b:Int),vs=[.int t,.int b]/\b≠0/\∀ v H',Same H H'->RN H' (.q (vJ t b)) v->Q v H'
theorem zbb (hP:P.given.tree=none) (hS:base.NoSeer) (D:Df K mg "fraction" Su qA) (yF:Kn P w K mg base "common_divisor" 1 Ss zcQ):Kn P w K mg base "fraction" 41 Su qO:=by
 refine D.kn Sf (fun vs H Q E h=>?_) (fun f cdv A outer s H vs Q E hr h=>?_)
 ·obtain⟨a,b,rfl,_⟩:=h;rfl
 obtain⟨t,b,rfl,hb,q⟩:=h;refine⟨_,(zc (zk (i:=2) Sf.nd rfl (.inl rfl) (zt yF hr (za (pv 0) (za (pv 1) zd)))) (zc (yz (zI zaD (pv 1) zf (kae _)) (zi (zk (i:=2) Sf.nd rfl (.inl rfl) (zfP zb4 (pv 2)))) zQ) (zi (zq (xa (za (zm (yc hr (by decide) hP hS ⟨_,_,rfl,rfl,rfl,rfl,rfl⟩) (pv 0) (pv 2)) (za (zm (yc hr (by decide) hP hS ⟨_,_,rfl,rfl,rfl,rfl,rfl⟩) (pv 1) (pv 2)) zd))))))),?_⟩;obtain⟨e1,e2⟩:=YF (t:=t) hb;have cd:sg t b≠0:=zdU hb;have fin:∀ p,H p=none->Q (.ref p) (upd H p (.tup [.int (t.fdiv (sg t b)),.int (b.fdiv (sg t b))])):=fun p hp=>by
  rw[e1,e2];exact q _ _ (ze hp _) (RN.of_q zg)
 refine⟨_,rfl,_,rfl,t,b,rfl,?_⟩;refine⟨_,rfl,_,_,rfl,rfl,_,rfl,?_⟩;refine ite2 (fun c=>?_) (fun c=>?_)
 ·have c':b<0:=of_decide_eq_true c;have e:sg t b = -((vf t b:Nat):Int):=by unfold sg;rw[if_pos c']
  rw[e]at cd fin;exact⟨_,rfl,_,rfl,_,rfl,_,rfl,_,_,rfl,rfl,cd,_,rfl,_,rfl,_,_,rfl,rfl,cd,(by show 2<=sizeLine;decide),fin⟩
 ·have c':¬ b<0:=of_decide_eq_false (vX.mpr c);have e:sg t b =((vf t b:Nat):Int):=by unfold sg;rw[if_neg c']
  rw[e]at cd fin;exact⟨_,rfl,_,rfl,_,_,rfl,rfl,cd,_,rfl,_,rfl,_,_,rfl,rfl,cd,(by show 2<=sizeLine;decide),fin⟩
def YX:Sp:=fun vs H Q _=>∃(p r:Int),vs=[.int p,.int r]/\Pr p/\0<r/\r<p/\∀ x,0<=x->x<p->p ∣ x*r - 1->Q (.int x) H
theorem zbw (hP:P.given.tree=none) (hS:base.NoSeer) (D:Df K mg "one_over" Sv qH):Kn P w K mg base "one_over" 41 Sv YX:=by
 refine D.kn Sd (fun vs H Q E h=>?_) (fun f cdv A outer s H vs Q E hr h=>?_)
 ·obtain⟨a,b,rfl,_⟩:=h;rfl
 obtain⟨p,r,rfl,hp,r0,rp,q⟩:=h;refine⟨_,(zc (zk (i:=2) Sd.nd rfl (.inl rfl) (pv 0)) (zc (zk (i:=3) Sd.nd rfl (.inl rfl) (pv 1)) (zc (zk (i:=4) Sd.nd rfl (.inl rfl) zf) (zc (zk (i:=5) Sd.nd rfl (.inl rfl) zf) (zc (jl PassesOwn.never (zI zbF (pv 3) zf (kae _)) (zc (zk (i:=6) Sd.nd rfl (.inl rfl) (zm (yc hr (by decide) hP hS ⟨_,_,rfl,rfl,rfl,rfl,rfl⟩) (pv 2) (pv 3))) (zc (zk (i:=7) Sd.nd rfl (.inl rfl) (zm xZ (pv 2) (zm zW (pv 6) (pv 3)))) (zc (zk (i:=8) Sd.nd rfl (.inl rfl) (zm xZ (pv 4) (zm zW (pv 6) (pv 5)))) (zc (zk (i:=2) Sd.nd rfl (.inl rfl) (pv 3)) (zc (zk (i:=4) Sd.nd rfl (.inl rfl) (pv 5)) (zc (zk (i:=3) Sd.nd rfl (.inl rfl) (pv 7)) (zi (zk (i:=5) Sd.nd rfl (.inl rfl) (pv 8)))))))))) (zi (zq (zm zO (pv 4) (pv 0))))))))),?_⟩;have p0:0<p:=by have:=hp.lo;omega
 refine⟨_,rfl,_,rfl,?_⟩;refine⟨fun m σ H'=>∃ l g ml mg o1 o2 o3,σ=[some (.int p),some (.int r),some (.int l),some (.int g),some (.int ml),some (.int mg),o1,o2,o3]/\H'=H/\OvInv p r l g ml mg/\m=g.toNat,⟨_,_,_,_,_,none,none,none,rfl,rfl,zbR hp r0 rp,rfl⟩,?_⟩
 rintro m σ H' ⟨l,g,ml,mg,o1,o2,o3,rfl,rfl,inv,rfl⟩
 have l0:=inv.l0;have l1:=inv.l1;have g0:=inv.g0;have g1:=inv.g1;refine⟨_,rfl,rfl,_,rfl,?_⟩;refine ite2 (fun c=>?_) (fun c=>?_)
 ·have c':g≠0:=fun z=>by rw[z]at c;exact absurd c (by decide)
  have ed:l.fdiv g=l / g:=Gw l g0;have d0:0<=l.fdiv g:=by rw[ed];exact waJ l0 g0
  have d1:l.fdiv g<=l:=by rw[ed];exact Int.ediv_le_self g l0
  have tn:=zeJ inv c';have tm:=zfM (l:=l) g0 c';rw[← ed]at tn tm;refine⟨_,fun _ _ h=>h,?_⟩;refine⟨_,rfl,_,rfl,_,_,rfl,rfl,c',?_⟩;refine⟨_,rfl,_,rfl,_,rfl,_,_,rfl,rfl,yX d0 (by omega),_,_,rfl,rfl,_,rfl,_,rfl,_,rfl,_,_,rfl,rfl,yX d0 (by omega),_,_,rfl,rfl,_,rfl,_,rfl,_,rfl,_,rfl,_,tm,g,_,mg,_,_,_,_,rfl,rfl,tn,rfl⟩
 ·have c':g=0:=by
   rcases gk 0 g with h|h
   ·exact absurd (by have h':¬ V.int g=V.int 0:=fun z=>(by have:=V.int.inj z;omega);rw[decide_eq_false h'];rfl) c
   ·omega
  subst c';refine⟨_,rfl,_,rfl,_,_,rfl,rfl,(show p≠0 by omega),?_⟩;have em:ml.fmod p=ml % p:=uh ml (by omega);show Q (.int (ml.fmod p)) H';rw[em];exact q _ (gB _ (by omega)) (uU _ p0) (zhd inv p0)
def ql:Sp:=fun vs H Q _=>∃(k w:Int),vs=[.int k,.int w]/\∀ v H',Same H H'->RN H' (nnum k w) v->Q v H'
theorem zd3 (D:Df K mg "number" Sx Yy):Kn P w K mg base "number" 1 Sx ql:=by
 refine D.kn zeD (fun vs H Q E h=>?_) (fun f cdv A outer s H vs Q E hr h=>?_)
 ·obtain⟨k,w,rfl,_⟩:=h;rfl
 obtain⟨k,w,rfl,q⟩:=h;refine⟨_,(zc (yz (zI xc (pv 0) zf (kae _)) (zi (zq (xa (za (pv 1) (za zf zd))))) zQ) (zi (zq (zm zO (pv 1) (pv 0))))),?_⟩;refine⟨_,rfl,rfl,_,rfl,?_⟩;refine ite2 (fun c=>?_) (fun c=>?_)
 ·have e:k=0:=V.int.inj (of_decide_eq_true c);subst e;refine⟨_,rfl,(by show 2<=sizeLine;decide),fun p hp=>?_⟩;refine q _ _ (ze hp _) ?_;show RN _ (.q (w:Rat)) _;exact RN.of_q zg
 ·have c':¬ V.int k=V.int 0:=of_decide_eq_false (vX.mpr c);have e:k≠0:=fun z=>c' (by rw[z])
  refine⟨_,rfl,_,rfl,_,_,rfl,rfl,e,?_⟩;refine q _ _ (Same.refl H) ?_;unfold nnum;rw[if_neg e];exact RN.of_z
structure Two(H:Hp)(k:Int)(x y:Nb)(a b:V):Prop where
 kd:kaa k
 xo:x.ok k
 yo:y.ok k
 xs:nsm 60000000 x
 ys:nsm 60000000 y
 xr:RN H x a
 yr:RN H y b
def xV(f:Int->Nb->Nb->Nb):Sp:=fun vs H Q _=>∃(k:Int)(x y:Nb)(a b:V),vs=[.int k,a,b]/\Two H k x y a b/\∀ v H',Same H H'->RN H' (f k x y) v->Q v H'
theorem Zv{H:Hp}{k:Int}{x y:Nb}{a b:V}(T:Two H k x y a b) :
  (k=0/\∃ r s pa pb,x=.q r/\y=.q s/\a=.ref pa/\b=.ref pb/\H pa=some (.tup [.int r.num,.int (r.den:Int)])/\H pb=some (.tup [.int s.num,.int (s.den:Int)])/\Sm 60000000 r.num/\Sm 60000000 (r.den:Int)/\Sm 60000000 s.num/\Sm 60000000 (s.den:Int)) \/
  (k≠0/\Pr k/\∃ i j,x=.z i/\y=.z j/\a=.int i/\b=.int j/\0<=i/\i<k/\0<=j/\j<k):=by
 obtain⟨kd,xo,yo,xs,ys,xr,yr⟩:=T;cases x with
 | q r =>
  have k0:k=0:=xo;cases y with
  | q s =>
   obtain⟨pa,ea,ha⟩:=xr.q;obtain⟨pb,eb,hb⟩:=yr.q;exact .inl ⟨k0,r,s,pa,pb,rfl,rfl,ea,eb,ha,hb,xs.1,xs.2,ys.1,ys.2⟩
  | z j=>exact absurd k0 yo.1
 | z i =>
  cases y with
  | q s=>exact absurd (show k=0 from yo) xo.1
  | z j =>
   refine .inr ⟨xo.1,?_,i,j,rfl,rfl,xr.z,yr.z,xo.2.1,xo.2.2,yo.2.1,yo.2.2⟩
   rcases kd with h|h
   ·exact absurd h xo.1
   ·exact h
theorem xE{m n:Nat}{a b:Int}(ha:Sm m a)(hb:Sm n b)(h:m+n<=134217728:=by decide):IntMulOk a b:=ha.mulOk hb h
theorem zdp(r s:Rat):(r.den:Int) *(s.den:Int)≠0:=gC (xY r) (xY s)
def zdR:Sp:=fun vs H Q _=>∃(k:Int)(x y:Nb)(a b:V),vs=[.int k,a,b]/\Two H k x y a b/\y≠nnum k 0/\∀ v H',Same H H'->RN H' (ndiv k x y) v->Q v H'
theorem zie (D:Df K mg "over" Sy zcJ) (ZV:Kn P w K mg base "fraction" 41 Su qO) (jx:Kn P w K mg base "number" 1 Sx ql) (zdh:Kn P w K mg base "one_over" 41 Sv YX):Kn P w K mg base "over" 42 Sy zdR:=by
 refine D.kn zhY (fun vs H Q E h=>?_) (fun f cdv A outer s H vs Q E hr h=>?_)
 ·obtain⟨k,x,y,a,b,rfl,_⟩:=h;rfl
 obtain⟨k,x,y,a,b,rfl,T,ne,q⟩:=h;refine⟨_,(zc (yz (zI (zhb hr) (pv 2) (zt jx hr (za (pv 0) (za zf zd))) (kae _)) (zi Yt) zQ) (zc (yz (zI xc (pv 0) zf (kae _)) (zi (zq (zt ZV hr (za (zm zW (zD zG (pv 1) zf) (zD zG (pv 2) zf)) (za (zm zW (zD zG (pv 1) zf) (zD zG (pv 2) zf)) zd))))) zQ) (zi (zq (zm zO (zm zW (pv 1) (zt zdh hr (za (pv 0) (za (pv 2) zd)))) (pv 0)))))),?_⟩;refine⟨_,rfl,_,rfl,k,0,rfl,fun v0 H0 g0 r0=>?_⟩;refine⟨toD y,toD (nnum k 0),T.yr.mono g0,r0,XF _,XF _,wN (gK _ _) (wN (YU y) (by decide)),_,rfl,?_⟩;show if PyData.eqv (toD y) (toD (nnum k 0))=true then _ else _
 rw[YZ,decide_eq_false ne];refine iteF ?_
 rcases Zv T with⟨rfl,r,s,pa,pb,rfl,rfl,rfl,rfl,ha,hb,rn,rd,sn,sd⟩|⟨k0,hp,i,j,rfl,rfl,rfl,rfl,i0,ik,j0,jk⟩
 ·have ha':=g0 _ _ ha;have hb':=g0 _ _ hb;have s0:s≠0:=fun z=>ne (by rw[z];rfl)
  refine⟨_,rfl,rfl,_,rfl,iteT ?_⟩;refine⟨_,rfl,pa,_,_,_,rfl,rfl,SqT.of ha',rfl,_,rfl,pb,_,_,_,rfl,rfl,SqT.of hb',rfl,_,_,rfl,rfl,xE rn sd,_,rfl,pa,_,_,_,rfl,rfl,SqT.of ha',rfl,_,rfl,pb,_,_,_,rfl,rfl,SqT.of hb',rfl,_,_,rfl,rfl,xE rd sn,_,_,rfl,gC (xY r) (zjw s0),fun v H' g h=>?_⟩;rw[zhQ]at h;exact q v H' (g0.trans g) h
 ·have j1:j≠0:=fun z=>ne (by unfold nnum;rw[if_neg k0,z,wae])
  refine⟨_,rfl,rfl,_,rfl,?_⟩;rw[decide_eq_false (show ¬ V.int k=V.int 0 from fun z=>k0 (V.int.inj z))];refine iteF ?_;refine⟨_,rfl,_,rfl,_,rfl,k,j,rfl,hp,by omega,jk,fun x x0 xk hx=>?_⟩;refine⟨_,_,rfl,rfl,yX i0 (by have:=hp.hi;omega),_,rfl,_,_,rfl,rfl,k0,?_⟩;refine q _ _ g0 ?_;show RN _ (.z ((i*zinv k j).fmod k)) _;rw[ze9 x0 xk hx];exact RN.of_z
theorem zga (D:Df K mg "minus" Sy Ju) (ZV:Kn P w K mg base "fraction" 41 Su qO):Kn P w K mg base "minus" 42 Sy (xV nsub):=by
 refine D.kn zgY (fun vs H Q E h=>?_) (fun f cdv A outer s H vs Q E hr h=>?_)
 ·obtain⟨k,x,y,a,b,rfl,_⟩:=h;rfl
 obtain⟨k,x,y,a,b,rfl,T,q⟩:=h;refine⟨_,(zc (yz (zI xc (pv 0) zf (kae _)) (zi (zq (zt ZV hr (za (zm xZ (zm zW (zD zG (pv 1) zf) (zD zG (pv 2) zf)) (zm zW (zD zG (pv 2) zf) (zD zG (pv 1) zf))) (za (zm zW (zD zG (pv 1) zf) (zD zG (pv 2) zf)) zd))))) zQ) (zi (zq (zm zO (zm xZ (pv 1) (pv 2)) (pv 0))))),?_⟩
 rcases Zv T with⟨rfl,r,s,pa,pb,rfl,rfl,rfl,rfl,ha,hb,rn,rd,sn,sd⟩|⟨k0,hp,i,j,rfl,rfl,rfl,rfl,i0,ik,j0,jk⟩
 ·refine⟨_,rfl,rfl,_,rfl,iteT ?_⟩;refine⟨_,rfl,pa,_,_,_,rfl,rfl,SqT.of ha,rfl,_,rfl,pb,_,_,_,rfl,rfl,SqT.of hb,rfl,_,_,rfl,rfl,xE rn sd,_,rfl,pb,_,_,_,rfl,rfl,SqT.of hb,rfl,_,rfl,pa,_,_,_,rfl,rfl,SqT.of ha,rfl,_,_,rfl,rfl,xE sn rd,_,_,rfl,rfl,_,rfl,pa,_,_,_,rfl,rfl,SqT.of ha,rfl,_,rfl,pb,_,_,_,rfl,rfl,SqT.of hb,rfl,_,_,rfl,rfl,xE rd sd,_,_,rfl,zdp r s,fun v H' g h=>?_⟩;rw[zed]at h;exact q v H' g h
 ·refine⟨_,rfl,rfl,_,rfl,?_⟩;rw[decide_eq_false (show ¬ V.int k=V.int 0 from fun z=>k0 (V.int.inj z))];refine iteF ?_;refine⟨_,rfl,_,rfl,_,_,rfl,rfl,_,rfl,_,_,rfl,rfl,k0,?_⟩;exact q _ _ (Same.refl H) RN.of_z
theorem ziY (D:Df K mg "_law_divisor" Sz xF) (m_abs:mg "abs" = none):Kn P w K mg base "_law_divisor" 1 Sz zcQ:=by
 refine D.kn sJ (fun vs H Q E h=>?_) (fun f cdv A outer s H vs Q E hr h=>?_)
 ·obtain⟨a,b,rfl,_⟩:=h;rfl
 obtain⟨a,b,rfl,q⟩:=h;refine⟨_,(zc (jl PassesOwn.never (zI zbF (pv 1) zf (kae _)) (zi (zjl (i:=0) (j:=1) rfl sJ.nd rfl rfl (by decide) rfl rfl (za (pv 1) (za (zm zO (pv 0) (pv 1)) zd)) rfl))) (zi (zq (zw JC rfl m_abs ze7 (za (pv 0) zd))))),?_⟩;refine⟨fun m σ H'=>∃ l r,σ=[some (.int l),some (.int r)]/\H'=H/\vf l r=vf a b/\m=r.natAbs,⟨_,_,_,rfl,rfl,rfl,rfl⟩,?_⟩
 rintro m σ H' ⟨l,r,rfl,rfl,g,rfl⟩
 refine⟨_,rfl,rfl,_,rfl,?_⟩;refine ite2 (fun c=>?_) (fun c=>?_)
 ·have c':r≠0:=fun z=>by rw[z]at c;exact absurd c (by decide)
  refine⟨_,fun _ _ h=>h,?_⟩;exact⟨_,rfl,_,rfl,_,rfl,_,_,rfl,rfl,c',_,_,rfl,_,zcY l c',r,l.fmod r,rfl,rfl,(zb9 l r).trans g,rfl⟩
 ·have c':r=0:=by
   by_cases h:r=0
   ·exact h
   ·exact absurd (by have h':¬ V.int r=V.int 0:=fun z=>h (V.int.inj z);rw[decide_eq_false h'];rfl) c
  subst c';refine⟨_,rfl,l,rfl,?_⟩;have e:(if l<0 then -l else l) =((vf a b:Nat):Int):=by rw[zfu,← g,wam]
  show Q (.int (if l<0 then -l else l)) H';rw[e];exact q
def szM(m:Nat)(M:TB):Prop:=∀ r∈M,∀ x∈r,nsm m x
theorem zdg{k:Int}{m n:Nat}{M:TB}(ok:La.OkM k n M)(h:szM m M):szM m (kab n M):=fun r hr x hx=>by
 unfold kab at hr;obtain⟨j,hj,rfl⟩:=wj.mp hr;rw[vA]at hj;obtain⟨row,hrow,rfl⟩:=wj.mp hx;have hj':j<row.length:=by have:=(ok row hrow).1;omega
 rw[we,wc hj'];exact h row hrow _ (wm hj')
def Xx:Sp:=fun vs H Q _=>∃(k:Int)(xs:List Nb)(a:Addr)(B:Nat),vs=[.int k,.ref a]/\kaa k/\kah H xs a/\La.OkR k xs/\La.rowB B xs/\61<=B/\B<=60000000/\xs.length<sizeLine /\
 ∀ p H',Same H H'->SclAt H' k B xs p->Q (.ref p) H'
theorem zfs (hP:P.given.tree=none) (hS:base.NoSeer) (D:Df K mg "scaled" SA YC) (yF:Kn P w K mg base "common_divisor" 1 Ss zcQ) (Jd:mg "list" = none):Kn P w K mg base "scaled" 41 SA Xx:=by
 refine D.kn Sj (fun vs H Q E h=>?_) (fun f cdv A outer s H vs Q E hr h=>?_)
 ·obtain⟨k,xs,a,B,rfl,_⟩:=h;rfl
 obtain⟨k,xs,a,B,rfl,hk,hrow,ok,⟨Dn,dn0,dn1,hD⟩,b7,b6,hlen,q⟩:=h;have kl:=hk.lt;have szl:=dh
 obtain⟨vs,ha,hp,hvl⟩:=hrow.len;refine⟨_,(zc (yz (zI zbF (pv 0) zf (kae _)) (zi (zq (xa (za (qw Jp rfl Jd zdX (za (pv 1) zd)) (za zf zd))))) zQ) (zc (zk (i:=2) Sj.nd rfl (.inr rfl) zf) (zc (yE PassesOwn.never rfl (zE (pv 1)) (zC (i:=3) Sj.nd rfl (.inl rfl)) (zi (zk (i:=2) Sj.nd rfl (.inr rfl) (zm zW (zm (yc hr (by decide) hP hS ⟨_,_,rfl,rfl,rfl,rfl,rfl⟩) (pv 2) (zt yF hr (za (pv 2) (za (zD zG (pv 3) zf) zd)))) (zD zG (pv 3) zf))))) (zi (zq (xa (za (yV ["bottom"] [2] (zE (pv 1)) fun _ _ _ _ _ _=>⟨zJ,(zm zW (zD zG (pv 0) zf) (zm (yc hr (by decide) hP hS ⟨_,_,rfl,rfl,rfl,rfl,rfl⟩) (pv 1) (zD zG (pv 0) zf)))⟩) (za (pv 2) zd)))))))),?_⟩;refine⟨_,rfl,rfl,_,rfl,?_⟩;refine ite2 (fun c=>?_) (fun c=>?_)
 ·have k0:k≠0:=fun z=>by rw[z]at c;exact absurd c (by decide)
  obtain⟨is,rfl,rfl⟩:=zay k0 ok hp;refine⟨_,rfl,a,_,rfl,.inl (SqL.of ha),fun l hl=>⟨(by show 2<=sizeLine;decide),fun p hp'=>?_⟩⟩;have n1:l≠p:=fun e=>by rw[e,zg]at hp';cases hp'
  refine q p _ ((ze hl _).trans (ze hp' _)) ⟨l,is,1,zg,?_,zef k0 is,?_,fun w hw=>?_⟩
  ·show upd _ _ _ l=_;rw[zM n1];exact zg
  ·exact sm_one.mono (by omega)
  ·have o:=ok (.z w) (wj.mpr ⟨w,hw,rfl⟩);exact(XH o.2.1 o.2.2 kl.2).mono b7
 ·have k0:k=0:=by
   by_cases z:k=0
   ·exact z
   ·exact absurd (by have h':¬ V.int k=V.int 0:=fun e=>z (V.int.inj e);rw[decide_eq_false h'];rfl) c
  subst k0;have isq:∀(i:Nat)(x:Nb),xs[i]?=some x->∃ r,x=.q r:=fun i x hx=>by
   have o:=ok x (wg hx);cases x with
   | q r=>exact⟨r,rfl⟩
   | z j=>exact absurd rfl o.1
  have dle:∀ b:Int,0<b->b ∣ (Dn:Int)->Sm B b:=fun b b0 hb=>by
   have:=wad (by omega) hb;show b.natAbs<2^B;omega
  have parts:∀ r:Rat,.q r∈xs->Sm B r.num/\Sm B (r.den:Int)/\(r.den:Int) ∣ (Dn:Int):=fun r hr=>by
   obtain⟨h1,h2⟩:=La.dB.parts dn0 (hD _ hr);have dv:=La.dB.den_dvd dn0 (hD _ hr);refine⟨?_,dle _ (den_pos r) dv,dv⟩;show r.num.natAbs<2^B;have:0<2^B:=Gc (by decide);omega
  refine⟨_,rfl,a,rfl,⟨_,SqL.of ha⟩,?_⟩;refine xN (xs:=vs) (fun i σ H'=>∃ b o,σ=[some (.int 0),some (.ref a),some (.int b),o]/\H'=H/\0<b/\(∀ x∈xs.take i,La.dvB b x)/\b ∣ (Dn:Int)) ⟨1,none,rfl,rfl,by decide,fun x hx=>by simp at hx,⟨_,(wa6 _).symm⟩⟩ ?_ ?_ ?_
  ·rintro i σ H' _ ⟨b,o,rfl,rfl,_⟩
   exact SqL.of ha
  ·rintro i v σ H' hv ⟨b,o,rfl,rfl,b0,dv,bD⟩
   obtain⟨x,hx,rx⟩:=zT hp hv;obtain⟨r,rfl⟩:=isq i x hx;obtain⟨pa,rfl,hpa⟩:=rx.q;obtain⟨sn,sd,dD⟩:=parts r (wg hx);obtain⟨l1,l2,l3,l4⟩:=zgE b0 (den_pos r);have l5:=La.zh1 b0 (den_pos r) bD dD;have sf:Sm B (b.fdiv ((vf b (r.den:Int):Nat):Int)):=zbf (dle b b0 bD) (gu _ _);refine⟨_,rfl,_,rfl,_,rfl,pa,_,_,_,rfl,rfl,SqT.of hpa,rfl,_,_,rfl,_,_,rfl,rfl,l4,?_⟩;refine⟨_,rfl,pa,_,_,_,rfl,rfl,SqT.of hpa,rfl,_,_,rfl,rfl,sf.mulOk sd (by omega),?_⟩;refine⟨_,_,rfl,rfl,l1,fun y hy=>?_,l5⟩;rw[zp hx]at hy
   rcases wq.mp hy with hy|hy
   ·have:=dv y hy;cases y with
    | q s=>exact waS (show(s.den:Int) ∣ b from this) l2
    | z j=>trivial
   ·rw[wn.mp hy];exact l3
  ·rintro σ H' ⟨b,o,rfl,rfl,b0,dv,bD⟩
   rw[hvl]at dv;rw[vK]at dv;have sb:=dle b b0 bD;refine⟨_,rfl,a,rfl,⟨_,SqL.of ha⟩,?_⟩;refine zN (xs:=vs) (fun i ys H2=>H2=H'/\ys =((xs.take i).map (La.scW b)).map V.int) ⟨rfl,by simp⟩ ?_ ?_ ?_
   ·rintro i ys H2 hi ⟨rfl,rfl⟩
    refine⟨SqL.of ha,?_⟩;rw[wa,wa,wt];omega
   ·rintro i v ys H2 hv hi ⟨rfl,rfl⟩
    obtain⟨x,hx,rx⟩:=zT hp hv;obtain⟨r,rfl⟩:=isq i x hx;obtain⟨pa,rfl,hpa⟩:=rx.q;obtain⟨sn,sd,dD⟩:=parts r (wg hx);have dx:(r.den:Int) ∣ b:=dv _ (wg hx)
    first|refine gyes ?_|refine tyes ?_
    refine⟨_,rfl,pa,_,_,_,rfl,rfl,SqT.of hpa,rfl,_,rfl,_,rfl,pa,_,_,_,rfl,rfl,SqT.of hpa,rfl,_,_,rfl,rfl,xY r,_,_,rfl,rfl,sn.mulOk (zbf sb dx) (by omega),nxt hi ⟨rfl,?_⟩⟩;rw[zp hx,wv,wv];rfl
   ·rintro ys H2 ⟨rfl,rfl⟩ l hl
    rw[hvl,vK]at *;refine⟨_,rfl,(by show 2<=sizeLine;decide),fun p hp'=>?_⟩;have n1:l≠p:=fun e=>by rw[e,zg]at hp';cases hp'
    refine q p _ ((ze hl _).trans (ze hp' _)) ⟨l,xs.map (La.scW b),b,zg,?_,⟨rfl,b0,fun z=>absurd rfl z,dv⟩,sb,fun w hw=>?_⟩
    ·show upd _ _ _ l=_;rw[zM n1];exact zg
    ·obtain⟨x,hx,rfl⟩:=wj.mp hw;exact La.zd7 hk (ok x hx) b7 dn0 (hD x hx) b0 (dv x hx) fun _=>bD
def zbB:Sp:=fun vs H Q _=>∃(k t b:Int),vs=[.int k,.int t,.int b]/\kaa k/\nnum k b≠nnum k 0/\Sm 60000000 t/\Sm 60000000 b/\∀ v H',Same H H'->RN H' (ndiv k (nnum k t) (nnum k b)) v->Q v H'
theorem ziG (D:Df K mg "quotient" SB qF) (zjR:Kn P w K mg base "over" 42 Sy zdR) (jx:Kn P w K mg base "number" 1 Sx ql):Kn P w K mg base "quotient" 43 SB zbB:=by
 refine D.kn zbz (fun vs H Q E h=>?_) (fun f cdv A outer s H vs Q E hr h=>?_)
 ·obtain⟨k,t,b,rfl,_⟩:=h;rfl
 obtain⟨k,t,b,rfl,hk,ne,st,sb,q⟩:=h;refine⟨_,(zi (zq (zt zjR hr (za (pv 0) (za (zt jx hr (za (pv 0) (za (pv 1) zd))) (za (zt jx hr (za (pv 0) (za (pv 2) zd))) zd)))))),?_⟩;refine⟨_,rfl,_,rfl,_,rfl,k,t,rfl,fun v1 H1 g1 r1=>?_⟩;refine⟨_,rfl,_,rfl,k,b,rfl,fun v2 H2 g2 r2=>?_⟩;refine⟨k,_,_,v1,v2,rfl,⟨hk,La.zL hk t,La.zL hk b,yI hk st (by decide),yI hk sb (by decide),r1.mono g2,r2⟩,ne,fun v3 H3 g3 r3=>?_⟩;exact q v3 H3 ((g1.trans g2).trans g3) r3
def Qh:Sp:=fun vs H Q _=>∃(k:Int)(ws:List Int)(a:Addr),vs=[.int k,.ref a]/\kaa k/\IRow H ws a/\ws.length<sizeLine/\∀ p H',Same H H'->IRow H' (La.kam k ws) p->Q (.ref p) H'
theorem zgW (hP:P.given.tree=none) (hS:base.NoSeer) (D:Df K mg "eased" SC JV) (yF:Kn P w K mg base "common_divisor" 1 Ss zcQ):Kn P w K mg base "eased" 41 SC Qh:=by
 refine D.kn Sl (fun vs H Q E h=>?_) (fun f cdv A outer s H vs Q E hr h=>?_)
 ·obtain⟨k,ws,a,rfl,_⟩:=h;rfl
 obtain⟨k,ws,a,rfl,hk,ha,hz,q⟩:=h;refine⟨_,(zc (yz (zI zbF (pv 0) zf (kae _)) (zi (zq (yV ["kind"] [0] (zE (pv 1)) fun _ _ _ _ _ _=>⟨zJ,(zm zO (pv 0) (pv 1))⟩))) zQ) (zc (zk (i:=2) Sl.nd rfl (.inr rfl) zf) (zc (yE PassesOwn.never rfl (zE (pv 1)) (zC (i:=3) Sl.nd rfl (.inl rfl)) (zc (zk (i:=2) Sl.nd rfl (.inr rfl) (zt yF hr (za (pv 2) (za (pv 3) zd)))) (zi (yz (zI xc (pv 2) zf (kae _)) (zi (zq (pv 1))) zQ)))) (zc (yz (zI xc (pv 2) zf (kae _)) (zi (zq (pv 1))) zQ) (zi (zq (yV ["divisor"] [2] (zE (pv 1)) fun _ _ _ _ _ _=>⟨zJ,(zm (yc hr (by decide) hP hS ⟨_,_,rfl,rfl,rfl,rfl,rfl⟩) (pv 0) (pv 1))⟩))))))),?_⟩;refine⟨_,rfl,rfl,_,rfl,?_⟩;refine ite2 (fun c=>?_) (fun c=>?_)
 ·have k0:k≠0:=fun z=>by rw[z]at c;exact absurd c (by decide)
  refine⟨_,rfl,a,rfl,⟨_,SqL.of ha⟩,?_⟩;refine zN (xs:=ws.map V.int) (fun i ys H'=>H'=H/\ys =((ws.take i).map (·.fmod k)).map V.int) ⟨rfl,by simp⟩ ?_ ?_ ?_
  ·rintro i ys H' hi ⟨rfl,rfl⟩
   refine⟨SqL.of ha,?_⟩;rw[wa,wa,wt];omega
  ·rintro i v ys H' hv hi ⟨rfl,rfl⟩
   rw[wk]at hv;obtain⟨u,hu,rfl⟩:=wK.mp hv
   first|refine gyes ?_|refine tyes ?_
   refine⟨_,rfl,_,rfl,_,_,rfl,rfl,k0,nxt hi ⟨rfl,?_⟩⟩;rw[zp hu,wv,wv];rfl
  ·rintro ys H' ⟨rfl,rfl⟩ p hp
   rw[wa,vK];refine q p _ (ze hp _) ?_;rw[La.zc9 k0];exact zg
 ·have k0:k=0:=by
   by_cases z:k=0
   ·exact z
   ·exact absurd (by have h':¬ V.int k=V.int 0:=fun e=>z (V.int.inj e);rw[decide_eq_false h'];rfl) c
  subst k0;refine⟨_,rfl,a,rfl,⟨_,SqL.of ha⟩,?_⟩;refine xN (xs:=ws.map V.int) (fun i σ H'=>∃ o,σ=[some (.int 0),some (.ref a),some (.int ((La.gcdL (ws.take i):Nat):Int)),o]/\H'=H) ⟨none,rfl,rfl⟩ ?_ ?_ ?_
  ·rintro i σ H' _ ⟨o,rfl,rfl⟩
   exact SqL.of ha
  ·rintro i v σ H' hv ⟨o,rfl,rfl⟩
   rw[wk]at hv;obtain⟨u,hu,rfl⟩:=wK.mp hv;have eg:((vf ((La.gcdL (ws.take i):Nat):Int) u:Nat):Int) =((La.gcdL (ws.take (i+1)):Nat):Int):=by
    rw[zp hu,La.zew,uB,vS]
   refine⟨_,rfl,_,rfl,_,_,rfl,?_⟩;rw[eg];refine⟨_,rfl,rfl,_,rfl,?_⟩;refine ite2 (fun c1=>?_) (fun c1=>?_)
   ·have e1:((La.gcdL (ws.take (i+1)):Nat):Int)=1:=V.int.inj (of_decide_eq_true c1);refine⟨_,rfl,q a _ (Same.refl _) ?_⟩;rw[La.zds (La.zfQ (i:=i+1) (by omega))];exact ha
   ·exact⟨_,rfl,rfl⟩
  ·rintro σ H' ⟨o,rfl,rfl⟩
   rw[wa,vK];refine⟨_,rfl,rfl,_,rfl,?_⟩;refine ite2 (fun c1=>?_) (fun c1=>?_)
   ·have e1:((La.gcdL ws:Nat):Int)=0:=V.int.inj (of_decide_eq_true c1);refine⟨_,rfl,q a _ (Same.refl _) ?_⟩;rw[La.zcZ (by omega)];exact ha
   ·have e1:((La.gcdL ws:Nat):Int)≠0:=fun z=>by rw[z]at c1;exact c1 (by decide)
    refine⟨_,rfl,a,rfl,⟨_,SqL.of ha⟩,?_⟩;refine zN (xs:=ws.map V.int) (fun i ys H2=>H2=H'/\ys =((ws.take i).map fun w=>w.fdiv ((La.gcdL ws:Nat):Int)).map V.int) ⟨rfl,by simp⟩ ?_ ?_ ?_
    ·rintro i ys H2 hi ⟨rfl,rfl⟩
     refine⟨SqL.of ha,?_⟩;rw[wa,wa,wt];omega
    ·rintro i v ys H2 hv hi ⟨rfl,rfl⟩
     rw[wk]at hv;obtain⟨u,hu,rfl⟩:=wK.mp hv
     first|refine gyes ?_|refine tyes ?_
     refine⟨_,rfl,_,rfl,_,_,rfl,rfl,e1,nxt hi ⟨rfl,?_⟩⟩;rw[zp hu,wv,wv];rfl
    ·rintro ys H2 ⟨rfl,rfl⟩ p hp
     rw[wa,vK];refine q p _ (ze hp _) ?_;rw[La.zdF (by omega)];exact zg
def Jk:Sp:=fun vs H Q _=>∃(k:Int)(row lead:List Int)(c:Nat)(ra la:Addr)(b:Nat),vs=[.int k,.ref ra,.ref la,.int (0 +(c:Int))]/\kaa k/\IRow H row ra/\IRow H lead la/\row.length=lead.length/\c<row.length/\row.length<sizeLine/\(∀ w∈row,Sm b w)/\(∀ w∈lead,Sm b w)/\b<=60000000 /\
 ∀ p H',Same H H'->IRow H' (La.kaf k lead c row) p->Q (.ref p) H'
theorem zcU (D:Df K mg "cleared" SD Ze) (zbs:Kn P w K mg base "eased" 41 SC Qh) (m_zip:mg "zip" = none):Kn P w K mg base "cleared" 42 SD Jk:=by
 refine D.kn zc4 (fun vs H Q E h=>?_) (fun f cdv A outer s H vs Q E hr h=>?_)
 ·obtain⟨k,row,lead,c,ra,la,b,rfl,_⟩:=h;rfl
 obtain⟨k,row,lead,c,ra,la,b,rfl,hk,hra,hla,hl,hc,hz,s1,s2,hb,q⟩:=h;refine⟨_,(zc (yz (zI xc (zD zo (pv 1) (pv 3)) zf (kae _)) (zi (zq (pv 1))) zQ) (zi (zq (zt zbs hr (za (pv 0) (za (jy ["left", "right"] ["lead_row", "column", "row"] [2,3,1] ⟨rfl,rfl,rfl,rfl,rfl,rfl,by decide +kernel⟩ rfl (jZ rfl m_zip (za (pv 1) (za (pv 2) zd))) (xO (zY (yd (by decide)) ya (zY (yd (by decide)) ya xn))) fun _ _ _ _ _ _=>⟨(xv 2 rfl (zP (zC (i:=0) (by decide:(["left", "right", "lead_row", "column", "row"]:List Str).Nodup) rfl (by first|exact Or.inl rfl|exact Or.inr rfl)) (zP (zC (i:=1) (by decide:(["left", "right", "lead_row", "column", "row"]:List Str).Nodup) rfl (by first|exact Or.inl rfl|exact Or.inr rfl)) yW))),zJ,(zm xZ (zm zW (zD zo (pv 2) (pv 3)) (pv 0)) (zm zW (zD zo (pv 4) (pv 3)) (pv 1)))⟩) zd)))))),?_⟩;refine⟨_,rfl,_,rfl,ra,_,_,_,rfl,rfl,SqL.of hra,Xw hra hc,rfl,_,rfl,?_⟩;refine ite2 (fun c1=>?_) (fun c1=>?_)
 ·have e1:row.getD c 0=0:=V.int.inj (of_decide_eq_true c1);refine⟨_,rfl,q ra _ (Same.refl _) ?_⟩;unfold La.kaf;rw[if_pos e1];exact hra
 ·have e1:row.getD c 0≠0:=fun z=>by rw[z]at c1;exact c1 (by decide)
  refine⟨_,rfl,_,rfl,_,rfl,ra,la,_,_,rfl,SqL.of hra,SqL.of hla,?_⟩;refine xS (xs:=row.map V.int) (zs:=lead.map V.int) (by rw[wa,wa];omega) (fun i ys' H'=>Same H H'/\ys' =((La.mixed row lead c).take i).map V.int) ⟨Same.refl H,by simp⟩ ?_ ?_ ?_
  ·rintro i ys' H' hi ⟨g,rfl⟩
   refine⟨SqL.of (hra.mono g),SqL.of (hla.mono g),?_⟩;rw[wa,wt,La.qp hl];omega
  ·rintro i x z T ys' H' hx hy hi hT ⟨g,rfl⟩
   rw[wk]at hx hy;obtain⟨u,hu,rfl⟩:=wK.mp hx;obtain⟨u',hu',rfl⟩:=wK.mp hy;have g':=g.trans (ze hT (.tup [.int u,.int u']));refine⟨T,_,rfl,SqT.of zg,rfl,_,_,rfl,_,_,rfl,rfl,?_⟩
   first|refine gyes ?_|refine tyes ?_
   refine⟨_,rfl,_,rfl,la,_,_,_,rfl,rfl,SqL.of (hla.mono g'),Xw (hla.mono g') (by omega),_,rfl,_,_,rfl,rfl,(xM s2 c).mulOk (s1 u (wg hu)) (by omega),?_⟩;refine⟨_,rfl,_,rfl,ra,_,_,_,rfl,rfl,SqL.of (hra.mono g'),Xw (hra.mono g') (by omega),_,rfl,_,_,rfl,rfl,(xM s1 c).mulOk (s2 u' (wg hu')) (by omega),_,_,rfl,rfl,nxt hi ⟨g',?_⟩⟩;have e:(La.mixed row lead c)[i]?=some (lead.getD c 0*u - row.getD c 0*u'):=by unfold La.mixed;rw[vz,hu,hu']
   rw[zp e,wv];rfl
  ·rintro ys' H' ⟨g,rfl⟩ pl hpl
   rw[wa,wo (by rw[La.qp hl];exact wu _)];refine⟨k,_,pl,rfl,hk,zg,by rw[La.qp hl];exact hz,fun p H2 g2 hp=>?_⟩;refine q p H2 ((g.trans (ze hpl _)).trans g2) ?_;unfold La.kaf;rw[if_neg e1];exact hp
def zcA:Sp:=fun vs H Q _=>∃(k:Int)(Ws:List (List Int))(n b:Nat)(t:Addr)(ras:List Addr),vs=[.int k,.ref t]/\kaa k/\IRs H Ws t ras/\(∀ r∈Ws,r.length=n)/\n<sizeLine/\Ws.length<=8000000/\(∀ r∈Ws,∀ w∈r,Sm b w)/\61<=b/\(b+1)*2^n<=60000000 /\
 ∀ p rs H',Same H H'->IRs H' ((La.swTo k Ws n).1.map (·.2)) p rs->Q (.ref p) H'
theorem zgz (D:Df K mg "swept" SE Qx) (zbs:Kn P w K mg base "eased" 41 SC Qh) (zah:Kn P w K mg base "cleared" 42 SD Jk) (m_len:mg "len" = none) (zy:mg "range" = none):Kn P w K mg base "swept" 43 SE zcA:=by
 refine D.kn Sn (fun vs H Q E h=>?_) (fun f cdv A outer s H vs Q E hr h=>?_)
 ·obtain⟨k,Ws,n,b,t,ras,rfl,_⟩:=h;rfl
 obtain⟨k,Ws,n,b,t,ras,rfl,hk,hI,hl,nz,wz,sz,b7,hb,q⟩:=h;have szl:=dh
 have lras:=zj hI.2;refine⟨_,(zc (zk (i:=2) Sn.nd rfl (.inl rfl) (yl zd)) (zc (Yd 3 Sn.nd ["kind"] [0] (zE (pv 1)) fun _ _ _ _ _ _=>⟨zJ,(zt zbs hr (za (pv 1) (za (pv 0) zd)))⟩) (zc (zk (i:=4) Sn.nd rfl (.inl rfl) (zgi (zI ZY (zw zA rfl m_len yb (za (pv 1) zd)) zf (kae _)) (zw zA rfl m_len yb (za (zD zo (pv 1) zf) zd)) zf)) (zc (yE PassesOwn.never rfl (zR rfl zy (za (pv 4) zd)) (zC (i:=5) Sn.nd rfl (.inr rfl)) (zc (Yd 6 Sn.nd ["column"] [5] (zE (pv 3)) fun _ _ _ _ _ _=>⟨(Qd (zI zbF (zD zo (pv 0) (pv 1)) zf (kae _))),(pv 0)⟩) (zi (yz (zI ZY (zw zA rfl m_len yb (za (pv 6) zd)) zf (kae _)) (zc (zk (i:=7) Sn.nd rfl (.inr rfl) (zD zo (pv 6) zf)) (zc (Yd 3 Sn.nd ["column"] [5] (zE (pv 3)) fun _ _ _ _ _ _=>⟨(Qd (zI xc (zD zo (pv 0) (pv 1)) zf (kae _))),(pv 0)⟩) (zc (yU (bm0 (fun _ h=>Zy PySem.F.plainAttrs_list PySem.F.slot_list_extend PySem.F.type_list_extend zav h (za (yV ["kind", "lead_row", "column"] [0,7,5] (zE (yT xB (pv 6) (xq zf) je)) fun _ _ _ _ _ _=>⟨zJ,(zt zah hr (za (pv 1) (za (pv 0) (za (pv 2) (za (pv 3) zd)))))⟩) zd)) (pv 3))) (zc (Yd 2 Sn.nd ["kind", "lead_row", "column"] [0,7,5] (zE (pv 2)) fun _ _ _ _ _ _=>⟨zJ,(zt zah hr (za (pv 1) (za (pv 0) (za (pv 2) (za (pv 3) zd)))))⟩) (zi (yU (bm0 (fun _ h=>Zy PySem.F.plainAttrs_list PySem.F.slot_list_append PySem.F.type_list_append yK h (za (pv 7) zd)) (pv 2)))))))) zQ)))) (zi (zq (pv 2))))))),?_⟩;refine⟨(by show 0<=sizeLine;decide),fun pd hpd=>?_⟩;have g0:=ze hpd (.lst []);have hpd0:upd H pd (.lst []) pd=some (.lst []):=zg;generalize upd H pd (.lst [])=H0 at *;refine⟨_,rfl,t,rfl,⟨_,SqL.of (g0 _ _ hI.1)⟩,?_⟩;refine zN (xs:=ras.map V.ref) (fun i ys H'=>∃ rs,ys=rs.map V.ref/\Same H0 H'/\Paired (IRow H') ((Ws.map (La.kam k)).take i) rs) ⟨[],rfl,Same.refl _,.nil⟩ ?_ ?_ ?_
 ·rintro i ys H' hi ⟨rs,rfl,g,pr⟩
  refine⟨SqL.of (g _ _ (g0 _ _ hI.1)),?_⟩;have:=zj pr;rw[wt,wa]at this;rw[wa];omega
 ·rintro i v ys H' hv hi ⟨rs,rfl,g,pr⟩
  obtain⟨ws,a,hw,ha,rfl,hrow⟩:=(hI.mono (g0.trans g)).row hv
  first|refine gyes ?_|refine tyes ?_
  refine⟨_,rfl,_,rfl,k,ws,a,rfl,hk,hrow,by rw[hl ws (wg hw)];exact nz,fun p H2 g2 hp=>nxt hi ⟨rs++[p],by rw[wv];rfl,g.trans g2,?_⟩⟩;have e:(Ws.map (La.kam k))[i]?=some (La.kam k ws):=by rw[wk,hw];rfl
  rw[zp e];exact zS (qN g2 pr) hp
 rintro ys H' ⟨rs,rfl,g,pr⟩ pw hpw
 rw[wa,wo (by rw[wa];omega)]at pr;have g1:=(g0.trans g).trans (ze hpw (.lst (rs.map V.ref)));have hpw1:upd H' pw (.lst (rs.map V.ref)) pw=some (.lst (rs.map V.ref)):=zg;have pr1:=qN (ze hpw (.lst (rs.map V.ref))) pr;have hpd1:=ze hpw (.lst (rs.map V.ref)) _ _ (g _ _ hpd0);generalize upd H' pw (.lst (rs.map V.ref))=H1 at *;clear g pr hpw g0 hpd0;refine⟨_,rfl,t,_,rfl,.inl (SqL.of (g1 _ _ hI.1)),_,_,rfl,rfl,_,rfl,?_⟩;rw[wa,← lras];refine ite2 (fun c=>?_) (fun c=>?_)
 ·have c':0 <(Ws.length:Int):=of_decide_eq_true c;obtain⟨r0,ras',e0⟩ : ∃ r0 ras',ras=r0::ras':=by
   cases ras with
   | nil=>rw[Gg]at lras;omega
   | cons a b=>exact⟨a,b,rfl⟩
  obtain⟨w0,hw0,hr0⟩:=zT (hI.mono g1).2 (i:=0) (b:=r0) (by rw[e0];rfl);have lw0:=hl w0 (wg hw0);refine⟨_,rfl,t,_,_,_,rfl,rfl,SqL.of (g1 _ _ hI.1),(by rw[e0];exact zH (j:=0) rfl),r0,_,rfl,.inl (SqL.of hr0),?_⟩;rw[wa,lw0];refine⟨_,rfl,_,rfl,(by omega),(by omega),?_⟩;rw[wS];have fine:=La.Fine.to (k:=k) hk.lt.1 hl;have szs:=zin hk b7 hl sz;have lens:=La.Zk (k:=k) Ws;refine yw (lo:=0) (n:=n) (fun i σ H'=>∃ td tw rd rw o5 o6 o7,σ=[some (.int k),some (.ref t),some (.ref td),some (.ref tw),some (.int (n:Int)),o5,o6,o7]/\Same H H'/\IRs H' ((La.swTo k Ws i).1.map (·.2)) td rd/\IRs H' (La.swTo k Ws i).2 tw rw) ⟨pd,pw,[],rs,none,none,none,rfl,g1,⟨hpd1,.nil⟩,⟨hpw1,pr1⟩⟩ ?_ ?_
  ·rintro i σ H2 hi ⟨td,tw,rd,rw',o5,o6,o7,rfl,g2,hD,hW⟩
   have fi:=fine i;have si:=szs i;have li:=lens i;have e1:La.swTo k Ws (i+1)=La.kao k i (La.swTo k Ws i):=rfl;rw[e1];generalize La.swTo k Ws i=S at *;obtain⟨Dn,Wt⟩:=S;have bnd:(b+1)*2^i - 1<=60000000:=by
    have:2^i<=2^n:=vv (by decide) (by omega);have:(b+1)*2^i<=(b+1)*2^n:=wU _ this;omega
   generalize (b+1)*2^i - 1=bb at *
   dsimp only at hD hW li
   have lD:=zj hD.2;have lW:=zj hW.2;rw[wa]at lD;have wlen:∀ ws∈Wt,ws.length=n:=fi.wl;have dlen:∀ ws∈Dn.map (·.2),ws.length=n:=fun ws hw=>by
    obtain⟨p,hp,rfl⟩:=wj.mp hw;exact fi.dl p hp
   have nn:∀ ws:List Int,ws.length=n->ws≠[]:=fun ws h e=>by rw[e]at h;simp at h;omega
   refine⟨_,rfl,tw,rfl,⟨_,SqL.of hW.1⟩,?_⟩;refine zN (xs:=rw'.map V.ref) (fun j ys H3=>H3=H2/\∃ rl,ys=rl.map V.ref/\Paired (IRow H2) ((Wt.take j).filter fun r=>decide (r.getD i 0≠0)) rl) ⟨rfl,[],rfl,.nil⟩ ?_ ?_ ?_
   ·rintro j ys H3 hj ⟨rfl,rl,rfl,prl⟩
    refine⟨SqL.of hW.1,?_⟩;have:=zj prl;have h2:=um (fun r:List Int=>decide (r.getD i 0≠0)) (Wt.take j);rw[wt]at h2;rw[wa];omega
   ·rintro j v ys H3 hv hj ⟨rfl,rl,rfl,prl⟩
    obtain⟨ws,a,hw,ha,rfl,hrow⟩:=hW.row hv;have lw:=wlen ws (wg hw);refine⟨_,rfl,_,rfl,a,_,_,_,rfl,rfl,SqL.of hrow,Xw hrow (by omega),rfl,_,rfl,?_⟩;refine ite2 (fun c1=>?_) (fun c1=>?_)
    ·have z:ws.getD i 0≠0:=fun z=>by rw[z]at c1;exact absurd c1 (by decide)
     refine⟨_,rfl,nxt hj ⟨rfl,rl++[a],by rw[wv];rfl,?_⟩⟩;rw[La.xt _ hw,if_pos (decide_eq_true z)];exact zS prl hrow
    ·have z:ws.getD i 0=0:=by
      by_cases z:ws.getD i 0=0
      ·exact z
      ·exact absurd (by have h':¬ V.int (ws.getD i 0)=V.int 0:=fun e=>z (V.int.inj e);rw[decide_eq_false h'];rfl) c1
     refine nxt hj ⟨rfl,rl,rfl,?_⟩;rw[La.xt _ hw,if_neg (show ¬ decide (ws.getD i 0≠0)=true from fun h=>of_decide_eq_true h z),uN];exact prl
   rintro ys H3 ⟨rfl,rl,rfl,prl⟩ pl hpl
   rw[wa,wo (by omega)]at prl;have g3:=ze hpl (.lst (rl.map V.ref));have hpl3:upd H3 pl (.lst (rl.map V.ref)) pl=some (.lst (rl.map V.ref)):=zg;have prl3:=qN g3 prl;have hD3:=hD.mono g3;have hW3:=hW.mono g3;have g23:=g2.trans g3;generalize upd H3 pl (.lst (rl.map V.ref))=H4 at *;clear prl hpl hD hW;have lrl:=zj prl3;refine⟨_,rfl,pl,_,rfl,.inl (SqL.of hpl3),_,_,rfl,rfl,_,rfl,?_⟩;rw[wa,← lrl];refine ite2 (fun c1=>?_) (fun c1=>?_)
   ·have c2:0 <((Wt.filter fun r=>decide (r.getD i 0≠0)).length:Int):=of_decide_eq_true c1;cases ef:Wt.filter (fun r=>decide (r.getD i 0≠0))with
    | nil=>rw[ef]at c2;simp at c2
    | cons lead rest =>
     rw[ef]at prl3 lrl;have turn:La.kao k i (Dn,Wt) =(Dn.map (fun p=>(p.1,La.kaf k lead i p.2))++[(i,lead)],Wt.filter (fun r=>decide (r.getD i 0=0))++rest.map (La.kaf k lead i)):=by
      unfold La.kao;simp only[ef]
     rw[turn];obtain⟨ld,rl',rfl⟩ : ∃ ld rl',rl=ld::rl':=by
      cases rl with
      | nil=>simp at lrl
      | cons a b=>exact⟨a,b,rfl⟩
     obtain⟨hld,prest⟩ : IRow H4 lead ld/\Paired (IRow H4) rest rl':=by
      cases prl3 with
      | cons h t=>exact⟨h,t⟩
     have memW:∀ r∈lead::rest,r∈Wt:=fun r hr=>by rw[← ef]at hr;exact(ve.mp hr).1
     have hlead:=memW lead wp;have llead:=wlen lead hlead;have slead:=si.2 lead hlead;have lf:=um (fun r:List Int=>decide (r.getD i 0≠0)) Wt;rw[ef,vO]at lf;refine⟨_,rfl,pl,_,_,_,rfl,rfl,SqL.of hpl3,zH (j:=0) rfl,?_⟩;refine⟨_,rfl,tw,rfl,⟨_,SqL.of hW3.1⟩,?_⟩;refine zN (xs:=rw'.map V.ref) (fun j ys H5=>H5=H4/\∃ rz,ys=rz.map V.ref/\Paired (IRow H4) ((Wt.take j).filter fun r=>decide (r.getD i 0=0)) rz) ⟨rfl,[],rfl,.nil⟩ ?_ ?_ ?_
     ·rintro j ys H5 hj ⟨rfl,rz,rfl,prz⟩
      refine⟨SqL.of hW3.1,?_⟩;have:=zj prz;have h2:=um (fun r:List Int=>decide (r.getD i 0=0)) (Wt.take j);rw[wt]at h2;rw[wa];omega
     ·rintro j v ys H5 hv hj ⟨rfl,rz,rfl,prz⟩
      obtain⟨ws,a,hw,ha,rfl,hrow⟩:=hW3.row hv;have lw:=wlen ws (wg hw);refine⟨_,rfl,_,rfl,a,_,_,_,rfl,rfl,SqL.of hrow,Xw hrow (by omega),rfl,_,rfl,?_⟩;refine ite2 (fun c1=>?_) (fun c1=>?_)
      ·have z:ws.getD i 0=0:=V.int.inj (of_decide_eq_true c1);refine⟨_,rfl,nxt hj ⟨rfl,rz++[a],by rw[wv];rfl,?_⟩⟩;rw[La.xt _ hw,if_pos (decide_eq_true z)];exact zS prz hrow
      ·have z:ws.getD i 0≠0:=fun z=>by rw[z]at c1;exact c1 (by decide)
       refine nxt hj ⟨rfl,rz,rfl,?_⟩;rw[La.xt _ hw,if_neg (show ¬ decide (ws.getD i 0=0)=true from fun h=>z (of_decide_eq_true h)),uN];exact prz
     rintro ys H5 ⟨rfl,rz,rfl,prz⟩ pz hpz
     rw[wa,wo (by omega)]at prz;have g5:=ze hpz (.lst (rz.map V.ref));have hpz5:upd H5 pz (.lst (rz.map V.ref)) pz=some (.lst (rz.map V.ref)):=zg;have pzH:H pz=none:=g23.none hpz;have ntd:td≠pz:=fun e=>by rw[← e,hD3.1]at hpz;cases hpz
     have prz5:=qN g5 prz;have prest5:=qN g5 prest;have hld5:=hld.mono g5;have hD5:=hD3.mono g5;have hpl5:=g5 _ _ hpl3;have g25:=g23.trans g5;generalize upd H5 pz (.lst (rz.map V.ref))=H6 at *;clear prz hpz prest hld hD3 hpl3 g23 hW3 prl3 g3 g5 c1;have lrz:=zj prz5;have lfz:=um (fun r:List Int=>decide (r.getD i 0=0)) Wt;have zlen:∀ ws∈Wt.filter (fun r=>decide (r.getD i 0=0)),ws.length=n:=fun ws hw=>wlen ws (ve.mp hw).1
     have lrest:=zj prest5;refine⟨_,rfl,.inl ⟨rfl,_,SqL.of hpz5⟩,_,rfl,_,rfl,pl,_,rfl,SqL.of hpl5,fun pc hpc=>?_⟩;rw[cut1];have g7:=ze hpc (.lst (((ld::rl').map V.ref).drop 1));have hpc7:upd H6 pc (.lst (((ld::rl').map V.ref).drop 1)) pc=some (.lst (rl'.map V.ref)):=zg;generalize upd H6 pc (.lst (((ld::rl').map V.ref).drop 1))=H7 at *;refine⟨pc,rfl,⟨_,SqL.of hpc7⟩,?_⟩;refine zN (xs:=rl'.map V.ref) (fun j ys H8=>∃ rc,ys=rc.map V.ref/\Same H7 H8/\Paired (IRow H8) ((rest.map (La.kaf k lead i)).take j) rc) ⟨[],rfl,Same.refl _,.nil⟩ ?_ ?_ ?_
     ·rintro j ys H8 hj ⟨rc,rfl,g8,prc⟩
      refine⟨SqL.of (g8 _ _ hpc7),?_⟩;have:=zj prc;rw[wt,wa]at this;rw[wa];omega
     ·rintro j v ys H8 hv hj ⟨rc,rfl,g8,prc⟩
      rw[wk]at hv;obtain⟨a,ha,rfl⟩:=wK.mp hv;obtain⟨ws,hw,hrow⟩:=zT prest5 ha;have hm:=memW ws (wr _ (wg hw));have lw:=wlen ws hm
      first|refine gyes ?_|refine tyes ?_
      refine⟨_,rfl,_,rfl,_,rfl,_,rfl,k,ws,lead,i,a,ld,bb,rfl,hk,hrow.mono (g7.trans g8),hld5.mono (g7.trans g8),by omega,by omega,by omega,si.2 ws hm,slead,bnd,fun p H9 g9 hp=>nxt hj ⟨rc++[p],by rw[wv];rfl,g8.trans g9,?_⟩⟩;have e:(rest.map (La.kaf k lead i))[j]?=some (La.kaf k lead i ws):=by rw[wk,hw];rfl
      rw[zp e];exact zS (qN g9 prc) hp
     rintro ys H8 ⟨rc,rfl,g8,prc⟩ pe hpe
     rw[wa,wo (by rw[wa];omega)]at prc;have lrc:=zj prc;rw[wa]at lrc;have g9:=(g7.trans g8).trans (ze hpe (.lst (rc.map V.ref)));have hpe9:upd H8 pe (.lst (rc.map V.ref)) pe=some (.lst (rc.map V.ref)):=zg;have prc9:=qN (ze hpe (.lst (rc.map V.ref))) prc;generalize upd H8 pe (.lst (rc.map V.ref))=H9 at *;clear prc hpe g8 hpc7 hpc g7;have clen:∀ ws∈rest.map (La.kaf k lead i),ws.length=n:=fun ws hw=>by
      obtain⟨x,hx,rfl⟩:=wj.mp hw;have hm:=wlen x (memW x (wr _ hx));rw[La.jo (by omega)];exact hm
     refine⟨pz,pe,_,_,rfl,rfl,g9 _ _ hpz5,hpe9,(by rw[wa,wa];omega),?_⟩;have hpz9:=g9 _ _ hpz5;have prz10:=jD (o:=.lst (rz.map V.ref++rc.map V.ref)) hpz9 (qN g9 prz5) fun ws hw=>nn ws (zlen ws hw)
     have prc10:=jD (o:=.lst (rz.map V.ref++rc.map V.ref)) hpz9 prc9 fun ws hw=>nn ws (clen ws hw)
     have hld10:IRow (upd H9 pz (.lst (rz.map V.ref++rc.map V.ref))) lead ld:=by
      show upd H9 pz _ ld=_;rw[zM ((hld5.mono g9).ne (nn lead llead) hpz9)];exact hld5.mono g9
     have hW10:upd H9 pz (.lst (rz.map V.ref++rc.map V.ref)) pz=some (.lst ((rz++rc).map V.ref)):=by rw[zg,wv]
     have hD10:IRs (upd H9 pz (.lst (rz.map V.ref++rc.map V.ref))) (Dn.map (·.2)) td rd:=⟨by rw[zM ntd];exact g9 _ _ hD5.1,jD hpz9 (qN g9 hD5.2) fun ws hw=>nn ws (dlen ws hw)⟩;have g10:Same H (upd H9 pz (.lst (rz.map V.ref++rc.map V.ref))):=yC (g25.trans g9) pzH;generalize upd H9 pz (.lst (rz.map V.ref++rc.map V.ref))=H10 at *;clear hpz9 hD5 hld5 prz5 prc9 hpe9 prest5 hpl5;refine⟨_,rfl,td,rfl,⟨_,SqL.of hD10.1⟩,?_⟩;refine zN (xs:=rd.map V.ref) (fun j ys H11=>∃ rn,ys=rn.map V.ref/\Same H10 H11/\Paired (IRow H11) ((Dn.map fun p=>La.kaf k lead i p.2).take j) rn) ⟨[],rfl,Same.refl _,.nil⟩ ?_ ?_ ?_
     ·rintro j ys H11 hj ⟨rn,rfl,g11,prn⟩
      refine⟨SqL.of (g11 _ _ hD10.1),?_⟩;have:=zj prn;rw[wt,wa]at this;rw[wa];omega
     ·rintro j v ys H11 hv hj ⟨rn,rfl,g11,prn⟩
      obtain⟨ws,a,hw,ha,rfl,hrow⟩:=(hD10.mono g11).row hv;rw[wk]at hw;obtain⟨p0,hp0,rfl⟩:=wK.mp hw;have hm:=wg hp0;have lw:=fi.dl p0 hm
      first|refine gyes ?_|refine tyes ?_
      refine⟨_,rfl,_,rfl,_,rfl,_,rfl,k,p0.2,lead,i,a,ld,bb,rfl,hk,hrow,hld10.mono g11,by omega,by omega,by omega,si.1 p0 hm,slead,bnd,fun p H12 g12 hp=>nxt hj ⟨rn++[p],by rw[wv];rfl,g11.trans g12,?_⟩⟩;have e:(Dn.map fun p=>La.kaf k lead i p.2)[j]?=some (La.kaf k lead i p0.2):=by rw[wk,hp0];rfl
      rw[zp e];exact zS (qN g12 prn) hp
     rintro ys H11 ⟨rn,rfl,g11,prn⟩ pn hpn
     rw[wa,wo (by rw[wa];omega)]at prn;have lrn:=zj prn;rw[wa]at lrn;have nlen:∀ ws∈Dn.map (fun p=>La.kaf k lead i p.2),ws.length=n:=fun ws hw=>by
      obtain⟨x,hx,rfl⟩:=wj.mp hw;have hm:=fi.dl x hx;rw[La.jo (by omega)];exact hm
     have npz:pz≠pn:=fun e=>by rw[← e,g11 _ _ hW10]at hpn;cases hpn
     have pnH:H pn=none:=(g10.trans g11).none hpn;have g12:=ze hpn (.lst (rn.map V.ref));have hpn12:upd H11 pn (.lst (rn.map V.ref)) pn=some (.lst (rn.map V.ref)):=zg;have prn12:=qN g12 prn;have prz12:=qN (g11.trans g12) prz10;have prc12:=qN (g11.trans g12) prc10;have hld12:=hld10.mono (g11.trans g12);have hW12:=(g11.trans g12) _ _ hW10;have gh12:=(g10.trans g11).trans g12;generalize upd H11 pn (.lst (rn.map V.ref))=H12 at *;refine⟨_,rfl,.inl ⟨rfl,_,SqL.of hpn12⟩,_,rfl,pn,_,_,rfl,rfl,hpn12,(by rw[wa];omega),?_⟩;refine⟨pn,pz,rn++[ld],rz++rc,_,_,_,rfl,yC gh12 pnH,⟨?_,?_⟩,⟨?_,?_⟩⟩
     ·rw[zg,wv];rfl
     ·have e:(Dn.map (fun p=>(p.1,La.kaf k lead i p.2))++[(i,lead)]).map (·.2) =(Dn.map fun p=>La.kaf k lead i p.2)++[lead]:=by
       rw[wv,vm];rfl
      rw[e];refine zS (jD hpn12 prn12 fun ws hw=>nn ws (nlen ws hw)) ?_;show upd H12 pn _ ld=_;rw[zM (hld12.ne (nn lead llead) hpn12)];exact hld12
     ·rw[zM npz];exact hW12
     ·exact qk (jD hpn12 prz12 fun ws hw=>nn ws (zlen ws hw)) (jD hpn12 prc12 fun ws hw=>nn ws (clen ws hw))
   ·have c2:¬ 0 <((Wt.filter fun r=>decide (r.getD i 0≠0)).length:Int):=of_decide_eq_false (vX.mpr c1);have ef:Wt.filter (fun r=>decide (r.getD i 0≠0))=[]:=vN (by omega);have turn:La.kao k i (Dn,Wt) =(Dn,Wt):=by
     unfold La.kao;simp only[ef]
    rw[turn];exact⟨td,tw,rd,rw',_,_,_,rfl,g23,hD3,hW3⟩
  ·rintro σ H2 ⟨td,tw,rd,rw',o5,o6,o7,rfl,g2,hD,hW⟩
   exact⟨_,rfl,q td rd H2 g2 hD⟩
 ·have c':¬ 0 <(Ws.length:Int):=of_decide_eq_false (vX.mpr c);have ew:Ws=[]:=vN (by omega);refine⟨_,rfl,_,rfl,(by decide),(by decide),?_⟩;refine yw (lo:=0) (n:=(0:Int).toNat) (fun i σ H'=>∃ o5 o6 o7,σ=[some (.int k),some (.ref t),some (.ref pd),some (.ref pw),some (.int 0),o5,o6,o7]/\H'=H1) ⟨none,none,none,rfl,rfl⟩ ?_ ?_
  ·intro i σ H2 hi;exact absurd hi (ug i)
  ·rintro σ H2 ⟨o5,o6,o7,rfl,rfl⟩
   refine⟨_,rfl,q pd [] _ g1 ?_⟩;rw[ew,La.zcz];exact⟨hpd1,.nil⟩
def Yj:Sp:=fun vs H Q _=>∃(k:Int)(p:Nat)(ws:List Int)(a:Addr),vs=[.int k,.ref a]/\kaa k/\IRow H ws a/\p<ws.length/\ws.getD p 0≠0/\(∀ j,j<p->ws.getD j 0=0)/\nnum k (ws.getD p 0)≠nnum k 0/\(∀ w∈ws,Sm 60000000 w)/\ws.length<sizeLine /\
 ∀ vs' a' H',Same H H'->H' a'=none->Paired (RN H') (La.overL k (p,ws)) vs'->Q (.ref a') (upd H' a' (.lst vs'))
theorem QG (D:Df K mg "over_lead" SC jR) (ZC:Kn P w K mg base "quotient" 43 SB zbB):Kn P w K mg base "over_lead" 44 SC Yj:=by
 refine D.kn sZ (fun vs H Q E h=>?_) (fun f cdv A outer s H vs Q E hr h=>?_)
 ·obtain⟨k,p,ws,a,rfl,_⟩:=h;rfl
 obtain⟨k,p,ws,a,rfl,hk,ha,hp,hn,hz,ne,sz,hl,q⟩:=h;refine⟨_,(zc (zk (i:=2) sZ.nd rfl (.inr rfl) (zD zo (yV [] [] (zE (pv 1)) fun _ _ _ _ _ _=>⟨(Qd (zI zbF (pv 0) zf (kae _))),(pv 0)⟩) zf)) (zi (zq (yV ["kind", "lead"] [0,2] (zE (pv 1)) fun _ _ _ _ _ _=>⟨zJ,(zt ZC hr (za (pv 1) (za (pv 0) (za (pv 2) zd))))⟩)))),?_⟩;refine⟨_,rfl,a,rfl,⟨_,SqL.of ha⟩,?_⟩;refine zN (xs:=ws.map V.int) (fun i ys H'=>H'=H/\ys =((ws.take i).filter fun w=>decide (w≠0)).map V.int) ⟨rfl,by simp⟩ ?_ ?_ ?_
 ·rintro i ys H' hi ⟨rfl,rfl⟩
  refine⟨SqL.of ha,?_⟩;have h2:=um (fun w:Int=>decide (w≠0)) (ws.take i);rw[wt]at h2;rw[wa];omega
 ·rintro i v ys H' hv hi ⟨rfl,rfl⟩
  rw[wk]at hv;obtain⟨u,hu,rfl⟩:=wK.mp hv;refine⟨_,rfl,rfl,_,rfl,?_⟩;refine ite2 (fun c1=>?_) (fun c1=>?_)
  ·have z:u≠0:=fun z=>by rw[z]at c1;exact absurd c1 (by decide)
   refine⟨_,rfl,nxt hi ⟨rfl,?_⟩⟩;rw[La.xt _ hu,if_pos (decide_eq_true z),wv];rfl
  ·have z:u=0:=by
    by_cases z:u=0
    ·exact z
    ·exact absurd (by have h':¬ V.int u=V.int 0:=fun e=>z (V.int.inj e);rw[decide_eq_false h'];rfl) c1
   refine nxt hi ⟨rfl,?_⟩;rw[La.xt _ hu,if_neg (show ¬ decide (u≠0)=true from fun h=>of_decide_eq_true h z),uN]
 rintro ys H' ⟨rfl,rfl⟩ pf hpf
 rw[wa,vK];have g1:=ze hpf (.lst ((ws.filter fun w=>decide (w≠0)).map V.int));refine⟨pf,_,_,_,rfl,rfl,SqL.of zg,zH (j:=0) (by rw[wk,La.zfV hp hz hn];rfl),?_⟩;have ha1:=ha.mono g1;generalize upd H' pf (.lst ((ws.filter fun w=>decide (w≠0)).map V.int))=H1 at *;refine⟨_,rfl,a,rfl,⟨_,SqL.of ha1⟩,?_⟩;refine zN (xs:=ws.map V.int) (fun i ys H2=>Same H1 H2/\Paired (RN H2) ((La.overL k (p,ws)).take i) ys) ⟨Same.refl _,.nil⟩ ?_ ?_ ?_
 ·rintro i ys H2 hi ⟨g2,pr⟩
  refine⟨SqL.of (ha1.mono g2),?_⟩;have:=zj pr;unfold La.overL at this;rw[wt,wa]at this;rw[wa]at hi;show ys.length<sizeLine;have e:(p,ws).2=ws:=rfl;rw[e]at this;omega
 ·rintro i v ys H2 hv hi ⟨g2,pr⟩
  rw[wk]at hv;obtain⟨u,hu,rfl⟩:=wK.mp hv
  first|refine gyes ?_|refine tyes ?_
  refine⟨_,rfl,_,rfl,_,rfl,k,u,ws.getD p 0,rfl,hk,ne,sz u (wg hu),xM sz p,fun v3 H3 g3 r3=>nxt hi ⟨g2.trans g3,?_⟩⟩;have e:(La.overL k (p,ws))[i]?=some (ndiv k (nnum k u) (nnum k (ws.getD p 0))):=by unfold La.overL;rw[wk];show Option.map _ ws[i]?=_;rw[hu];rfl
  rw[zp e];exact zS (yJ g3 pr) r3
 ·rintro ys H2 ⟨g2,pr⟩ a' ha'
  rw[wa,wo (by unfold La.overL;rw[wa];exact wu _)]at pr;exact q ys a' H2 (g1.trans g2) ha' pr
def jA:Sp:=fun vs H Q _=>∃(k:Int)(M:TB)(n B:Nat)(t:Addr)(ras:List Addr),vs=[.int k,.ref t]/\kaa k/\kag H M t ras/\La.OkM k n M/\La.kap B M/\61<=B/\(B+1)*2^n<=60000000/\n<sizeLine/\M.length<=8000000 /\
 ∀ R ls top rs H',Same H H'->NewT H H' R top rs->(∀(F:Type) [Lean.Grind.Field F] (φ:La.Kf k F),La.kaw φ n M R ls)->R.length<=M.length->Q (.ref top) H'
theorem zcT (D:Df K mg "reduced" SE qX) (xR:Kn P w K mg base "scaled" 41 SA Xx) (zhS:Kn P w K mg base "swept" 43 SE zcA) (zbe:Kn P w K mg base "over_lead" 44 SC Yj):Kn P w K mg base "reduced" 45 SE jA:=by
 refine D.kn Sg (fun vs H Q E h=>?_) (fun f cdv A outer s H vs Q E hr h=>?_)
 ·obtain⟨k,M,n,B,t,ras,rfl,_⟩:=h;rfl
 obtain⟨k,M,n,B,t,ras,rfl,hk,hT,oM,sM,b2,hb,nz,mz,q⟩:=h;have lras:=zj hT.2;have szl:=dh
 have b1:B<=60000000/\(B+1)*2^n - 1<=60000000:=by
  have h1:1<=2^n:=Gr;have h2:(B+1)*1<=(B+1)*2^n:=wU _ h1;omega
 refine⟨_,(zc (Yd 2 Sg.nd ["kind"] [0] (zE (pv 1)) fun _ _ _ _ _ _=>⟨zJ,(zD zG (zt xR hr (za (pv 1) (za (pv 0) zd))) zf)⟩) (zi (zq (yV ["kind"] [0] (zE (zt zhS hr (za (pv 0) (za (pv 2) zd)))) fun _ _ _ _ _ _=>⟨zJ,(zt zbe hr (za (pv 1) (za (pv 0) zd)))⟩)))),?_⟩;refine⟨_,rfl,t,rfl,⟨_,SqL.of hT.1⟩,?_⟩;refine zN (xs:=ras.map V.ref) (fun i ys H'=>∃ Ws rl,ys=rl.map V.ref/\Same H H'/\Paired (IRow H') Ws rl/\Paired (fun xs ws=>(∃ b,La.Scl k xs ws b)/\∀ w∈ws,Sm (B) w) (M.take i) Ws) ⟨[],[],rfl,Same.refl _,.nil,.nil⟩ ?_ ?_ ?_
 ·rintro i ys H' hi ⟨Ws,rl,rfl,g,pr,ps⟩
  refine⟨SqL.of (g _ _ hT.1),?_⟩;have h1:=zj pr;have h2:=zj ps;rw[wt]at h2;rw[wa];omega
 ·rintro i v ys H' hv hi ⟨Ws,rl,rfl,g,pr,ps⟩
  obtain⟨xs,a,hx,ha,rfl,hrow⟩:=(hT.mono g).row hv;obtain⟨lx,ox⟩:=oM xs (wg hx)
  first|refine gyes ?_|refine tyes ?_
  refine⟨_,rfl,_,rfl,k,xs,a,B,rfl,hk,hrow,ox,sM xs (wg hx),b2,b1.1,by omega,fun p H2 g2 sc=>?_⟩;obtain⟨l,ws,b,hp,hl,sc,sb,sw⟩:=sc;refine⟨p,_,_,_,rfl,rfl,SqT.of hp,rfl,nxt hi ⟨Ws++[ws],rl++[l],by rw[wv];rfl,g.trans g2,zS (qN g2 pr) hl,?_⟩⟩;rw[zp hx];exact zS ps ⟨⟨b,sc⟩,sw⟩
 rintro ys H' ⟨Ws,rl,rfl,g,pr,ps⟩ pw hpw
 rw[wa,wo (by omega)]at ps;have lps:=zj ps;have g1:=g.trans (ze hpw (.lst (rl.map V.ref)));have hpw1:upd H' pw (.lst (rl.map V.ref)) pw=some (.lst (rl.map V.ref)):=zg;have pr1:=qN (ze hpw (.lst (rl.map V.ref))) pr;generalize upd H' pw (.lst (rl.map V.ref))=H1 at *;have wl:∀ r∈Ws,r.length=n:=fun r hr=>by
  obtain⟨xs,hx,⟨b,sc⟩,_⟩:=QN ps hr;rw[sc.len,(oM xs hx).1]
 have ws':∀ r∈Ws,∀ w∈r,Sm (B) w:=fun r hr=>by
  obtain⟨xs,hx,_,h⟩:=QN ps hr;exact h
 refine⟨_,rfl,_,rfl,k,Ws,n,B,pw,rl,rfl,hk,⟨hpw1,pr1⟩,wl,nz,by omega,ws',b2,hb,fun pp rs H2 g2 hI=>?_⟩;refine⟨pp,rfl,⟨_,SqL.of hI.1⟩,?_⟩;have red:∀(F:Type) [Lean.Grind.Field F] (φ:La.Kf k F),La.kaw φ n M (La.redM k n Ws) (La.leadsM k n Ws):=fun F _ φ=>La.YJ φ hk oM lps.symm fun i r ws h1 h2=>(xl ps h1 h2).1
 have fine:=La.Fine.to (k:=k) hk.lt.1 wl n;have szs:=zin hk b2 wl ws' n;have lens:=La.Zk (k:=k) Ws n;obtain⟨F0,i0,d0,⟨φ0⟩⟩:=La.yi hk;have lead:∀ p∈(La.swTo k Ws n).1,p.1<n/\p.2.length=n/\p.2.getD p.1 0≠0/\(∀ j,j<p.1->p.2.getD j 0=0)/\nnum k (p.2.getD p.1 0)≠nnum k 0:=fun p hp=>by
  obtain⟨h1,h2,h3,h4⟩:=La.qB φ0 hk.lt.1 wl hp;refine⟨h1,h2,h3,h4,La.Qm φ0 fun z=>h3 ?_⟩;exact(La.XC φ0 (fine.df p hp) p.1).mp z
 generalize hS:(La.swTo k Ws n).1=Dn at *;have lrs:=zj hI.2;rw[wa]at lrs;have eR:La.redM k n Ws=Dn.map (La.overL k):=by unfold La.redM;rw[hS]
 refine zN (xs:=rs.map V.ref) (fun i ys H3=>∃ ras2,ys=ras2.map V.ref/\Grow H2 H3 ((La.redM k n Ws).take i) ras2) ⟨[],rfl,Grow.nil H2 (Same.refl H2)⟩ ?_ ?_ ?_
 ·rintro i ys H3 hi ⟨ras2,rfl,G⟩
  refine⟨SqL.of (G.same _ _ hI.1),?_⟩;have:=zj G.rows;rw[wt,eR,wa]at this;rw[wa];omega
 ·rintro i v ys H3 hv hi ⟨ras2,rfl,G⟩
  obtain⟨ws,a,hw,ha,rfl,hrow⟩:=(hI.mono G.same).row hv;rw[wk]at hw;obtain⟨p,hp,rfl⟩:=wK.mp hw;have hm:=wg hp;obtain⟨l1,l2,l3,l4,l5⟩:=lead p hm
  first|refine gyes ?_|refine tyes ?_
  refine⟨_,rfl,_,rfl,k,p.1,p.2,a,rfl,hk,hrow,by omega,l3,l4,l5,fun w hw=>(szs.1 p (by rw[hS];exact hm) w hw).mono (by omega),by omega,fun vs' a' H4 g4 ha' pr4=>nxt hi ⟨ras2++[a'],by rw[wv];rfl,?_⟩⟩;have e:(La.redM k n Ws)[i]?=some (La.overL k (p.1,p.2)):=by rw[eR,wk,hp];rfl
  rw[zp e];exact(G.mono g4).snoc ha' pr4
 rintro ys H3 ⟨ras2,rfl,G⟩ top ht
 rw[wa,wo (by rw[eR,wa];omega)]at G;have N:=G.done ht;refine q (La.redM k n Ws) (La.leadsM k n Ws) top ras2 _ ((g1.trans g2).trans (G.same.trans (ze ht _))) ⟨N.tab,(g1.trans g2).none N.ft,fun r hr=>(g1.trans g2).none (N.fr r hr),N.nd,N.nt⟩ red (by rw[eR,wa];omega)
def Jl:Sp:=fun vs H Q _=>∃(k:Int)(n:Nat),vs=[.int k,.int (n:Int)]/\n<=1000/\∀ v0 pt H',Same H H'->RN H' (nnum k 0) v0->H' pt=some (.lst (wx n v0))->H pt=none->Q (.ref pt) H'
theorem zc2 (D:Df K mg "noughts" SF Zb) (jx:Kn P w K mg base "number" 1 Sx ql):Kn P w K mg base "noughts" 2 SF Jl:=by
 refine D.kn zdj (fun vs H Q E h=>?_) (fun f cdv A outer s H vs Q E hr h=>?_)
 ·obtain⟨k,n,rfl,_⟩:=h;rfl
 obtain⟨k,n,rfl,hn,q⟩:=h;have szl:=dh
 refine⟨_,(zi (zq (zm zjv (yl (za (zt jx hr (za (pv 0) (za zf zd))) zd)) (pv 1)))),?_⟩;refine⟨_,rfl,k,0,rfl,fun v0 H1 g1 rv0=>⟨(by show 1<=sizeLine;decide),fun p1 hp1=>?_⟩⟩;refine⟨_,rfl,p1,_,_,rfl,rfl,zg,(by omega),(by omega),(by show 1 *(n:Int).toNat<=sizeLine;omega),fun pt hpt=>?_⟩;rw[zeC,wS];exact q v0 pt _ ((g1.trans (ze hp1 (.lst [v0]))).trans (ze hpt (.lst (wx n v0)))) ((rv0.mono (ze hp1 (.lst [v0]))).mono (ze hpt (.lst (wx n v0)))) zg ((g1.trans (ze hp1 (.lst [v0]))).none hpt)
def XB:Sp:=fun vs H Q _=>∃(k:Int)(A B:TB)(n C:Nat)(t1 t2:Addr)(r1 r2:List Addr),vs=[.int k,.ref t1,.ref t2]/\kaa k/\kag H A t1 r1/\kag H B t2 r2/\La.OkM k n A/\La.OkM k n B/\La.kap C A/\La.kap C B/\61<=C/\(C+1)*2^n<=60000000/\n<=64/\A.length<=1000/\B.length<=1000 /\
 ∀ R ls top rs H',Same H H'->NewT H H' R top rs->(∀(F:Type) [Lean.Grind.Field F] (φ:La.Kf k F),La.kaw φ n (A++B) R ls)->Q (.ref top) H'
theorem zeW (D:Df K mg "joined" Sy YG) (xW:Kn P w K mg base "reduced" 45 SE jA):Kn P w K mg base "joined" 46 Sy XB:=by
 refine D.kn ze4 (fun vs H Q E h=>?_) (fun f cdv A' outer s H vs Q E hr h=>?_)
 ·obtain⟨k,A,B,n,C,t1,t2,r1,r2,rfl,_⟩:=h;rfl
 obtain⟨k,A,B,n,C,t1,t2,r1,r2,rfl,hk,hA,hB,oA,oB,cA,cB,c7,hc,n64,lA,lB,q⟩:=h;have szl:=dh
 have l1:=zj hA.2;have l2:=zj hB.2;refine⟨_,(zi (zq (zt xW hr (za (pv 0) (za (zm qh (pv 1) (pv 2)) zd))))),?_⟩;refine⟨_,rfl,_,rfl,_,rfl,t1,t2,_,_,rfl,rfl,hA.1,hB.1,(by rw[wa,wa];omega),fun p hp=>?_⟩;have g:=ze hp (.lst (r1.map V.ref++r2.map V.ref));have T:kag (upd H p (.lst (r1.map V.ref++r2.map V.ref))) (A++B) p (r1++r2):=⟨by rw[zg,wv],qk (hA.mono g).2 (hB.mono g).2⟩;generalize upd H p (.lst (r1.map V.ref++r2.map V.ref))=H1 at *;refine⟨k,A++B,n,C,p,r1++r2,rfl,hk,T,(fun r hr=>(wq.mp hr).elim (oA r) (oB r)),cA.app cB,c7,hc,by omega,(by rw[wD];omega),fun R ls top rs H2 g2 nt red _=>?_⟩;exact q R ls top rs H2 (g.trans g2) ⟨nt.tab,g.none nt.ft,fun r hr=>g.none (nt.fr r hr),nt.nd,nt.nt⟩ red
def zfG:Sp:=fun vs H Q _=>∃(ws us:List Int)(l l':Addr)(m:Nat),vs=[.ref l,.ref l']/\IRow H ws l/\IRow H us l'/\ws.length=us.length/\(∀ w∈ws,Sm m w)/\(∀ w∈us,Sm m w)/\2*m<=60000000/\ws.length<sizeLine /\
 ∀ H',Same H H'->Q (.int (vy (·*·) ws us).sum) H'
theorem zhV (D:Df K mg "whole_sum" Ss jL) (m_sum:mg "sum" = none) (m_zip:mg "zip" = none):Kn P w K mg base "whole_sum" 1 Ss zfG:=by
 refine D.kn zag (fun vs H Q E h=>?_) (fun f cdv A outer s H vs Q E hr h=>?_)
 ·obtain⟨ws,us,l,l',m,rfl,_⟩:=h;rfl
 obtain⟨ws,vs,l,l',m,rfl,hl,hl',hlen,sw,sw',hsz,hz,q⟩:=h;refine⟨_,(zi (zq (zw (zfb rfl) rfl m_sum zjh (za (jy ["left", "right"] [] [] ⟨rfl,rfl,rfl,rfl,rfl,rfl,by decide +kernel⟩ rfl (jZ rfl m_zip (za (pv 0) (za (pv 1) zd))) (xO (zY (yd (by decide)) ya (zY (yd (by decide)) ya xn))) fun _ _ _ _ _ _=>⟨(xv 2 rfl (zP (zC (i:=0) (by decide:(["left", "right"]:List Str).Nodup) rfl (by first|exact Or.inl rfl|exact Or.inr rfl)) (zP (zC (i:=1) (by decide:(["left", "right"]:List Str).Nodup) rfl (by first|exact Or.inl rfl|exact Or.inr rfl)) yW))),zJ,(zm zW (pv 0) (pv 1))⟩) zd)))),?_⟩;refine⟨_,rfl,_,rfl,l,l',ws.map V.int,vs.map V.int,rfl,SqL.of hl,SqL.of hl',?_⟩;refine xS (xs:=ws.map V.int) (zs:=vs.map V.int) (by rw[wa,wa];omega) (fun i ys' H'=>Same H H'/\ys' =((vy (·*·) ws vs).take i).map V.int) ⟨Same.refl H,by simp⟩ ?_ ?_ ?_
 ·rintro i ys' H' hi ⟨g,rfl⟩
  refine⟨SqL.of (hl.mono g),SqL.of (hl'.mono g),?_⟩;rw[wa,wt,wG];omega
 ·rintro i x z T ys' H' hx hy hi hT ⟨g,rfl⟩
  rw[wk]at hx hy;obtain⟨u,hu,rfl⟩:=wK.mp hx;obtain⟨u',hu',rfl⟩:=wK.mp hy;refine⟨T,_,rfl,SqT.of zg,rfl,_,_,rfl,_,_,rfl,rfl,?_⟩
  first|refine gyes ?_|refine tyes ?_
  refine⟨_,rfl,_,rfl,_,_,rfl,rfl,(sw u (wg hu)).mulOk (sw' u' (wg hu')) (by omega),nxt hi ⟨g.trans (ze hT _),?_⟩⟩;have e:(vy (·*·) ws vs)[i]?=some (u*u'):=by rw[vz,hu,hu']
  rw[zp e,wv];rfl
 ·rintro ys' H' ⟨g,rfl⟩ pl hpl
  have el:(ws.map V.int).length =(vy (·*·) ws vs).length:=by rw[wa,wG];omega
  rw[el,vK];exact⟨pl,_,rfl,SqL.of zg,q _ (g.trans (ze hpl (.lst ((vy (·*·) ws vs).map V.int))))⟩
def zdW:Sp:=fun vs H Q _=>∃(k:Int)(xs ys:List Nb)(p p':Addr)(m:Nat),vs=[.int k,.ref p,.ref p']/\kaa k/\SclAt H k m xs p/\SclAt H k m ys p'/\La.OkR k xs/\La.OkR k ys/\xs.length=ys.length/\61<=m/\2*m+xs.length<=60000000/\xs.length<sizeLine /\
 ∀ v H',Same H H'->RN H' (La.ndot k xs ys) v->Q v H'
theorem zi7 (D:Df K mg "sum_of_products" Sy yN) (ZC:Kn P w K mg base "quotient" 43 SB zbB) (za1:Kn P w K mg base "whole_sum" 1 Ss zfG):Kn P w K mg base "sum_of_products" 44 Sy zdW:=by
 refine D.kn Zq (fun vs H Q E h=>?_) (fun f cdv A outer s H vs Q E hr h=>?_)
 ·obtain⟨k,xs,ys,p,p',m,rfl,_⟩:=h;rfl
 obtain⟨k,xs,ys,p,p',m,rfl,hk,⟨l,ws,b,hp,hl,sc,sb,sw⟩,⟨l',vs,b',hp',hl',sc',sb',sw'⟩,ox,oy,hlen,m7,hsz,hz,q⟩:=h;refine⟨_,(zi (zq (zt ZC hr (za (pv 0) (za (zt za1 hr (za (zD zG (pv 1) zf) (za (zD zG (pv 2) zf) zd))) (za (zm zW (zD zG (pv 1) zf) (zD zG (pv 2) zf)) zd)))))),?_⟩;have ewl:=sc.len;have evl:=sc'.len;refine⟨_,rfl,_,rfl,p,_,_,_,rfl,rfl,SqT.of hp,rfl,_,rfl,p',_,_,_,rfl,rfl,SqT.of hp',rfl,ws,vs,l,l',m,rfl,hl,hl',(by omega),sw,sw',(by omega),(by omega),fun H' g2=>?_⟩;obtain⟨ne,e⟩:=La.zjd hk hlen sc sc' ox oy;have st:Sm (m+m +(vy (·*·) ws vs).length) (vy (·*·) ws vs).sum:=zhj fun w hw=>by
  obtain⟨i,hi,e⟩:=wI hw;rw[vF]at e;rw[← e];exact(sw _ (wm _)).mul (sw' _ (wm _))
 rw[wG]at st;refine⟨_,rfl,p,_,_,_,rfl,rfl,SqT.of (g2 _ _ hp),rfl,_,rfl,p',_,_,_,rfl,rfl,SqT.of (g2 _ _ hp'),rfl,_,_,rfl,rfl,sb.mulOk sb' (by omega),k,_,_,rfl,hk,ne,st.mono (by omega),(sb.mul sb').mono (by omega),fun v H2 g3 r=>?_⟩;rw[e]at r;exact q v H2 (g2.trans g3) r
theorem zhH{x:Str}{ps:List Str}{l:Nat}{sp sp':Sp}(D:Kn P w K mg base x l ps sp)(h:∀ vs H Q E,sp' vs H Q E->sp vs H Q E):Kn P w K mg base x l ps sp':=by
 obtain⟨f,fd,F,r⟩:=D.ex;exact⟨f,fd,F.imp h,r⟩
def qC:Sp:=fun vs H Q _=>∃(k:Int)(xs:List Nb)(a:Addr)(m:Nat),vs=[.int k,.ref a]/\kaa k/\kah H xs a/\La.OkR k xs/\(∀ x∈xs,nsm m x)/\61<=m/\(xs.length+2)*m<=60000000 /\
 ∀ p H',Same H H'->SclAt H' k ((xs.length+2)*m) xs p->Q (.ref p) H'
theorem Xc (d:Kn P w K mg base "scaled" 41 SA Xx):Kn P w K mg base "scaled" 41 SA qC:=zhH d fun vs H Q E h=>by
 obtain⟨k,xs,a,m,rfl,hk,hr,ox,sx,m7,hsz,q⟩:=h;have szl:=dh
 have h1:(xs.length+2)*61<=(xs.length+2)*m:=wU _ m7;have h2:(xs.length+1)*m<=(xs.length+2)*m:=wP _ (by omega);exact⟨k,xs,a,(xs.length+2)*m,rfl,hk,hr,ox,(YB (k:=k) (n:=xs.length) (by omega) ⟨rfl,ox,sx⟩).mono h2,by omega,hsz,by omega,q⟩
theorem QP{n m:Nat}(h7:61<=m)(h:(n+2)*m<=20000000):2 *((n+2)*m)+n<=60000000/\61<=(n+2)*m/\n<sizeLine/\(n+2)*m<=60000000:=by
 have h1:(n+2)*61<=(n+2)*m:=wU _ h7;have:sizeLine=16777216:=by decide
 omega
def Zo:Sp:=fun vs H Q _=>∃(k:Int)(M:TB)(xs:List Nb)(b m:Nat)(t1 a:Addr)(r1:List Addr),vs=[.int k,.ref t1,.ref a]/\kaa k/\kag H M t1 r1/\kah H xs a/\La.OkM k b M/\xs.length=b/\La.OkR k xs/\szM m M/\(∀ x∈xs,nsm m x)/\61<=m/\(b+2)*m<=20000000/\M.length<sizeLine /\
 ∀ p H',Same H H'->NewR H H' (imgM k M xs) p->Q (.ref p) H'
theorem zf1 (D:Df K mg "image" SG Qz) (xR:Kn P w K mg base "scaled" 41 SA qC) (xu:Kn P w K mg base "sum_of_products" 44 Sy zdW):Kn P w K mg base "image" 45 SG Zo:=by
 refine D.kn So (fun vs H Q E h=>?_) (fun f cdv A outer s H vs Q E hr h=>?_)
 ·obtain⟨k,M,xs,b,m,t1,a,r1,rfl,_⟩:=h;rfl
 obtain⟨k,M,xs,b,m,t1,a,r1,rfl,hk,hM,hx,oM,lx,ox,sM,sx,m7,hsz,mz,q⟩:=h;refine⟨_,(zc (zk (i:=3) So.nd rfl (.inr rfl) (zt xR hr (za (pv 0) (za (pv 2) zd)))) (zi (zq (yV ["kind", "right"] [0,3] (zE (pv 1)) fun _ _ _ _ _ _=>⟨zJ,(zt xu hr (za (pv 1) (za (zt xR hr (za (pv 1) (za (pv 0) zd))) (za (pv 2) zd))))⟩)))),?_⟩;obtain⟨z1,z2,z3,z4⟩:=QP m7 hsz;refine⟨_,rfl,_,rfl,k,xs,a,m,rfl,hk,hx,ox,sx,m7,by rw[lx];exact z4,fun p0 H0 g0 sc0=>?_⟩;rw[lx]at sc0;refine⟨_,rfl,t1,rfl,⟨_,SqL.of (g0 _ _ hM.1)⟩,?_⟩;have hl:=zj hM.2;refine zN (xs:=r1.map V.ref) (fun i ys H'=>Same H0 H'/\Paired (RN H') ((imgM k M xs).take i) ys) ⟨Same.refl _,.nil⟩ ?_ ?_ ?_
 ·rintro i ys H' hi ⟨g,pr⟩
  refine⟨SqL.of (g _ _ (g0 _ _ hM.1)),?_⟩;have:=zj pr;unfold imgM at this;rw[wt,wa]at this;omega
 ·rintro i v ys H' hv hi ⟨g,pr⟩
  obtain⟨row,ra,hrow,ha,rfl,hR⟩:=(hM.mono (g0.trans g)).row hv;obtain⟨lr,orow⟩:=oM row (wg hrow)
  first|refine gyes ?_|refine tyes ?_
  refine⟨_,rfl,_,rfl,_,rfl,k,row,ra,m,rfl,hk,hR,orow,sM row (wg hrow),m7,by rw[lr];exact z4,fun p1 H1 g1 sc1=>?_⟩;rw[lr]at sc1;refine⟨_,rfl,k,row,xs,p1,p0,(b+2)*m,rfl,hk,sc1,sc0.mono (g.trans g1),orow,ox,by rw[lr,lx],z2,by rw[lr];exact z1,by rw[lr];exact z3,fun v2 H2 g2 r2=>?_⟩;refine nxt hi ⟨(g.trans g1).trans g2,?_⟩;have e:(imgM k M xs)[i]?=some (La.ndot k row xs):=by unfold imgM;rw[wk,hrow];rfl
  rw[zp e];exact zS (yJ (g1.trans g2) pr) r2
 ·rintro ys H' ⟨g,pr⟩ p hp
  rw[wa,wo (by unfold imgM;rw[wa];omega)]at pr;exact q p _ ((g0.trans g).trans (ze hp _)) ⟨⟨ys,zg,yJ (ze hp _) pr⟩,(g0.trans g).none hp⟩
def xh:Sp:=fun vs H Q _=>∃(M:TB)(n:Nat)(top:Addr)(ras:List Addr),vs=[.ref top]/\kag H M top ras/\M≠[]/\(∀ r∈M,r.length=n)/\n<sizeLine/\M.length<sizeLine /\
 ∀ t ras' H',Same H H'->NewT H H' (kab n M) t ras'->Q (.ref t) H'
theorem zfO (D:Df K mg "turned" SH YD) (zy:mg "range" = none) (m_len:mg "len" = none):Kn P w K mg base "turned" 1 SH xh:=by
 refine D.kn zey (fun vs H Q E h=>?_) (fun f cdv A outer s H vs Q E hr h=>?_)
 ·obtain⟨M,n,top,ras,rfl,_⟩:=h;rfl
 obtain⟨M,n,top,ras,rfl,hT,hM,hn,nz,mz,q⟩:=h;refine⟨_,(zi (zq (yV ["table"] [0] (zR rfl zy (za (zw zA rfl m_len yb (za (zD zo (pv 0) zf) zd)) zd)) fun _ _ _ _ _ _=>⟨zJ,(yV ["column"] [0] (zE (pv 1)) fun _ _ _ _ _ _=>⟨zJ,(zD zo (pv 0) (pv 1))⟩)⟩))),?_⟩;obtain⟨M0,M',rfl⟩:=uL hM;have hras:=zj hT.2;obtain⟨r0,ras',e0⟩ : ∃ r0 ras',ras=r0::ras':=by
  cases ras with
  | nil=>simp at hras
  | cons a b=>exact⟨a,b,rfl⟩
 obtain⟨vs0,h0,p0,l0⟩:=(xl hT.2 (i:=0) rfl (by rw[e0];rfl)).len;have n0:=hn M0 wp;have szl:=dh
 refine⟨_,rfl,top,_,_,_,rfl,rfl,SqL.of hT.1,(by rw[e0];exact zH (j:=0) rfl),r0,_,rfl,.inl (SqL.of h0),_,rfl,(by omega),(by omega),?_⟩;have en:(vs0.length:Int).toNat=n:=by omega
 rw[en];refine yt (lo:=0) (n:=n) (fun i ys H'=>∃ ras2,ys=ras2.map V.ref/\Grow H H' ((kab n (M0::M')).take i) ras2) ⟨[],rfl,Grow.nil H (Same.refl H)⟩ ?_ ?_ ?_
 ·rintro i ys H' hi ⟨ras2,rfl,G⟩
  have:=zj G.rows;rw[wt,zK]at this;rw[wa];omega
 ·rintro i ys H' hi ⟨ras2,rfl,G⟩
  first|refine gyes ?_|refine tyes ?_
  refine⟨_,rfl,top,rfl,⟨_,SqL.of (G.same _ _ hT.1)⟩,?_⟩;refine zN (xs:=ras.map V.ref) (fun j ys' H2=>H2=H'/\Paired (RN H') (((M0::M').map fun r=>r.getD i (.z 0)).take j) ys') ⟨rfl,.nil⟩ ?_ ?_ ?_
  ·rintro j ys' H2 hj ⟨rfl,pr⟩
   refine⟨SqL.of (G.same _ _ hT.1),?_⟩;have:=zj pr;rw[wt,wa]at this;omega
  ·rintro j v ys' H2 hv hj ⟨rfl,pr⟩
   obtain⟨xs,a,hx,ha,rfl,hrow⟩:=(hT.mono G.same).row hv;obtain⟨us,hu,pu,lu⟩:=hrow.len;have nx:=hn xs (wg hx);have hi':i<xs.length:=by omega
   obtain⟨u,eu,ru⟩:=yv pu (wc hi')
   first|refine gyes ?_|refine tyes ?_
   refine⟨_,rfl,_,rfl,a,_,_,_,rfl,rfl,SqL.of hu,(by rw[vC];exact zH eu),nxt hj ⟨rfl,?_⟩⟩;have e:((M0::M').map fun r=>r.getD i (.z 0))[j]?=some (xs.getD i (.z 0)):=by rw[wk,hx];rfl
   rw[zp e];refine zS pr ?_;rw[we,wc hi'];exact ru
  ·rintro ys' H2 ⟨rfl,pr⟩ p hp
   rw[wo (by rw[wa,wa];omega)]at pr;refine nxt hi ⟨ras2++[p],by rw[wv];rfl,?_⟩;rw[zp (ZZ hi)];exact G.snoc hp pr
 ·rintro ys H' ⟨ras2,rfl,G⟩ t ht
  rw[wo (by rw[zK];exact wu _)]at G;exact q t ras2 _ (G.same.trans (ze ht _)) (G.done ht)
def XZ:Sp:=fun vs H Q _=>∃(k:Int)(A B R:TB)(n b:Nat)(tA tB tR:Addr)(rA rB rR:List Addr),vs=[.int k,.ref tA,.ref tB,.ref tR]/\kaa k/\kag H A tA rA/\kag H B tB rB/\kag H R tR rR/\Fit k n/\TOk k n n 80 A/\TOk k b n 80 B/\b<=1000/\TOk k R.length n 596488 R/\R.length<=10 /\
 ∀ W t rs H',Same H H'->NewT H H' W t rs->RdR k n W->SameR k W (B++R.map (imgM k A))->Q (.ref t) H'
theorem zc7 (D:Df K mg "widened" SI Zt) (qV:Kn P w K mg base "image" 45 SG Zo) (JP:Kn P w K mg base "joined" 46 Sy XB):Kn P w K mg base "widened" 47 SI XZ:=by
 refine D.kn zdl (fun vs H Q E h=>?_) (fun f cdv A' outer s' H vs Q E hr h=>?_)
 ·obtain⟨k,A,B,R,n,b,tA,tB,tR,rA,rB,rR,rfl,_⟩:=h;rfl
 obtain⟨k,A,B,R,n,b,tA,tB,tR,rA,rB,rR,rfl,hk,hA,hB,hR,hf,oA,oB,b1000,oR,lR,q⟩:=h;have szl:=dh
 have n10:=hf.n10;have lrR:=zj hR.2;obtain⟨oI,cI⟩:=ze0 hk hf oA oR;refine⟨_,(zi (zq (zt JP hr (za (pv 0) (za (pv 2) (za (yV ["kind", "table"] [0,1] (zE (pv 3)) fun _ _ _ _ _ _=>⟨zJ,(zt qV hr (za (pv 1) (za (pv 2) (za (pv 0) zd))))⟩) zd)))))),?_⟩;refine⟨_,rfl,_,rfl,_,rfl,tR,rfl,⟨_,SqL.of hR.1⟩,?_⟩;refine zN (xs:=rR.map V.ref) (fun i ys H'=>∃ ras,ys=ras.map V.ref/\Grow H H' ((R.map (imgM k A)).take i) ras) ⟨[],rfl,Grow.nil H (Same.refl H)⟩ ?_ ?_ ?_
 ·rintro i ys H' hi ⟨ras,rfl,G⟩
  refine⟨SqL.of (G.same _ _ hR.1),?_⟩;have:=zj G.rows;rw[wt]at this;rw[wa]at hi ⊢;omega
 ·rintro i v ys H' hv hi ⟨ras,rfl,G⟩
  obtain⟨row,a,hrow,ha,rfl,hRow⟩:=(hR.mono G.same).row hv;have rr:=oR.row (wg hrow);have oA':=oA.up (show(80:Nat)<=596488 by decide)
  first|refine gyes ?_|refine tyes ?_
  refine⟨_,rfl,_,rfl,_,rfl,k,A,row,n,596488,tA,a,rA,rfl,hk,hA.mono G.same,hRow,oA'.ok,rr.len,rr.ok,oA'.sz,rr.sz,(by decide),(by omega),(by rw[oA.len];omega),fun p H1 g1 nr=>nxt hi ⟨ras++[p],by rw[wv];rfl,?_⟩⟩;have e:(R.map (imgM k A))[i]?=some (imgM k A row):=by rw[wk,hrow];rfl
  rw[zp e];exact G.snocR g1 nr.row nr.fa
 ·rintro ys H' ⟨ras,rfl,G⟩ pI hpI
  rw[wa,wo (by rw[wa];omega)]at G;have N:=G.done hpI;have g1:=G.same.trans (ze hpI (.lst (ras.map V.ref)));generalize upd H' pI (.lst (ras.map V.ref))=H1 at *;refine⟨k,B,R.map (imgM k A),n,capC n 7159072,tB,pI,rB,ras,rfl,hk,hB.mono g1,N.tab,oB.ok,oI,Jq hf oB,cI,cap7 (by decide),cap1 hf (by decide),(by omega),(by rw[oB.len];exact b1000),(by rw[wa];omega),fun W lw t rs H2 g2 nt red=>?_⟩;exact q W t rs H2 (g1.trans g2) ⟨nt.tab,g1.none nt.ft,fun r hr=>g1.none (nt.fr r hr),nt.nd,nt.nt⟩ ⟨lw,jF red⟩ fun F _ φ v=>⟨fun h=>(red F φ).fro v h,fun h=>(red F φ).to v h⟩
def zcd:Sp:=fun vs H Q _=>∃(k:Int)(A B:TB)(n b:Nat)(tA tB:Addr)(rA rB:List Addr),vs=[.int k,.ref tA,.ref tB]/\kaa k/\kag H A tA rA/\kag H B tB rB/\Fit k n/\TOk k n n 80 A/\TOk k b n 80 B/\b<=1000 /\
 ∀ R t rs H',Same H H'->NewT H H' R t rs->LeastOf k n A B R->Q (.ref t) H'
theorem zgM (D:Df K mg "grown_room" SJ jv) (xW:Kn P w K mg base "reduced" 45 SE jA) (QS:Kn P w K mg base "widened" 47 SI XZ) (m_len:mg "len" = none):Kn P w K mg base "grown_room" 48 SJ zcd:=by
 refine D.kn sX (fun vs H Q E h=>?_) (fun f cdv A' outer s' H vs Q E hr h=>?_)
 ·obtain⟨k,A,B,n,b,tA,tB,rA,rB,rfl,_⟩:=h;rfl
 obtain⟨k,A,B,n,b,tA,tB,rA,rB,rfl,hk,hA,hB,hf,oA,oB,b1000,q⟩:=h;have szl:=dh
 have n10:=hf.n10;refine⟨_,(zc (zk (i:=3) sX.nd rfl (.inl rfl) (zt xW hr (za (pv 0) (za (pv 2) zd)))) (zc (zk (i:=4) sX.nd rfl (.inl rfl) (zt QS hr (za (pv 0) (za (pv 1) (za (pv 2) (za (pv 3) zd)))))) (zc (jl PassesOwn.never (zI ZY (zw zA rfl m_len yb (za (pv 4) zd)) (zw zA rfl m_len yb (za (pv 3) zd)) (kae _)) (zc (zk (i:=3) sX.nd rfl (.inl rfl) (pv 4)) (zi (zk (i:=4) sX.nd rfl (.inl rfl) (zt QS hr (za (pv 0) (za (pv 1) (za (pv 2) (za (pv 3) zd))))))))) (zi (zq (pv 3)))))),?_⟩;refine⟨_,rfl,_,rfl,k,B,n,capC n 7159072,tB,rB,rfl,hk,hB,oB.ok,Jq hf oB,cap7 (by decide),cap1 hf (by decide),(by omega),(by rw[oB.len];omega),fun R ls t1 r1 H1 g1 n1 red _=>?_⟩;have rR:RdR k n R:=⟨ls,jF red⟩;have eR:SameR k R (La.kry k A B 0):=fun F _ φ v=>⟨fun h=>(red F φ).fro v h,fun h=>(red F φ).to v h⟩
 have sR:=(QU hk hf oA oB (vq _) rR eR).1;have lR:R.length<=10:=by have:=jt hk (jF red);omega
 refine⟨_,rfl,_,rfl,_,rfl,_,rfl,k,A,B,R,n,b,tA,tB,t1,rA,rB,r1,rfl,hk,hA.mono g1,hB.mono g1,n1.tab,hf,oA,oB,b1000,sR,lR,fun W t2 r2 H2 g2 n2 rW eW=>?_⟩;have I0:LrI k n A B R W 0:=by
  refine⟨rR,rW,eR,fun F _ φ v=>(eW F φ v).trans (La.zcj hk oA.ok oA.len oB.ok (ZP hk (jF red)).1 (eR F φ) v),vq _⟩
 have N1:NewT H H2 R t1 r1:=⟨n1.tab.mono g2,n1.ft,n1.fr,n1.nd,n1.nt⟩;have N2:NewT H H2 W t2 r2:=⟨n2.tab,g1.none n2.ft,fun r hr=>g1.none (n2.fr r hr),n2.nd,n2.nt⟩;have gH:=g1.trans g2;clear n1 n2 g1 red sR lR rR eR rW eW;refine⟨fun m σ H'=>∃ R W t t1 r1 t2 r2,σ=[some (.int k),some (.ref tA),some (.ref tB),some (.ref t1),some (.ref t2)]/\Same H H'/\NewT H H' R t1 r1/\NewT H H' W t2 r2/\LrI k n A B R W t/\m=n - t,⟨_,R,W,0,t1,r1,t2,r2,rfl,gH,N1,N2,I0,rfl⟩,?_⟩;clear I0 N1 N2 gH
 rintro m σ H' ⟨R,W,t,t1,r1,t2,r2,rfl,gH,N1,N2,I,rfl⟩
 have l1:=zj N1.tab.2;have l2:=zj N2.tab.2;refine⟨_,rfl,t2,_,rfl,.inl (SqL.of N2.tab.1),_,rfl,t1,_,rfl,.inl (SqL.of N1.tab.1),_,_,rfl,rfl,_,rfl,?_⟩;refine ite2 (fun c=>?_) (fun c=>?_)
 ·have c':(((r1.map V.ref).length:Nat):Int) <(((r2.map V.ref).length:Nat):Int):=of_decide_eq_true c;rw[wa,wa]at c';have lt:R.length<W.length:=by omega
  have tn:t<n:=by obtain⟨lw',iW'⟩:=I.rW;have:=jt hk iW';have:=I.le;omega
  obtain⟨lw,iW⟩:=I.rW;have sW:=(QU hk hf oA oB (show t+1<=n+1 by omega) I.rW I.eW).1;have lW:W.length<=10:=by have:=jt hk iW;omega
  refine⟨_,fun _ _ h=>h,?_⟩;refine⟨_,rfl,?_⟩;refine⟨_,rfl,_,rfl,_,rfl,_,rfl,k,A,B,W,n,b,tA,tB,t2,rA,rB,r2,rfl,hk,hA.mono gH,hB.mono gH,N2.tab,hf,oA,oB,b1000,sW,lW,fun W' t3 r3 H3 g3 n3 rW' eW'=>?_⟩;have I':=I.step hk oA oB lt rW' eW';exact⟨_,(by omega),W,W',t+1,t2,r2,t3,r3,rfl,gH.trans g3,⟨N2.tab.mono g3,N2.ft,N2.fr,N2.nd,N2.nt⟩,⟨n3.tab,gH.none n3.ft,fun r hr=>gH.none (n3.fr r hr),n3.nd,n3.nt⟩,I',rfl⟩
 ·have c':¬(((r1.map V.ref).length:Nat):Int) <(((r2.map V.ref).length:Nat):Int):=of_decide_eq_false (vX.mpr c);rw[wa,wa]at c';exact⟨_,rfl,q R t1 r1 H' gH N1 (I.done hk oA oB (by omega))⟩
def zaA:Sp:=fun vs H Q _=>∃(M:TB)(n:Nat)(t:Addr)(ras:List Addr),vs=[.ref t]/\kag H M t ras/\(∀ r∈M,r.length=n)/\n<=100/\M.length<=100/\∀ p H',Same H H'->NewR H H' M.flatten p->Q (.ref p) H'
theorem JI{n:Nat}:∀(M:TB),(∀ r∈M,r.length=n)->M.flatten.length=M.length*n
 | [],_=>by simp
 | r::M,h=>by
  rw[vV,wD,JI M (fun r hr=>h r (wr _ hr)),h r wp,vO,uk];omega
theorem zei (D:Df K mg "strung" ["rows"] Yv):Kn P w K mg base "strung" 1 ["rows"] zaA:=by
 refine D.kn Si (fun vs H Q E h=>?_) (fun f cdv A outer s H vs Q E hr h=>?_)
 ·obtain⟨M,n,t,ras,rfl,_⟩:=h;rfl
 obtain⟨M,n,t,ras,rfl,hT,hn,n100,m100,q⟩:=h;have szl:=dh
 have lr:=zj hT.2;refine⟨_,(zc (zk (i:=1) Si.nd rfl (.inl rfl) (yl zd)) (zc (yE PassesOwn.never rfl (zE (pv 0)) (zC (i:=2) Si.nd rfl (.inl rfl)) (zi (yU (bm0 (fun _ h=>Zy PySem.F.plainAttrs_list PySem.F.slot_list_extend PySem.F.type_list_extend zav h (za (pv 2) zd)) (pv 1))))) (zi (zq (pv 1))))),?_⟩;refine⟨(by show 0<=sizeLine;decide),fun pt hpt=>?_⟩;have g0:=ze hpt (.lst []);refine⟨_,rfl,t,rfl,⟨_,SqL.of (g0 _ _ hT.1)⟩,?_⟩;refine xN (xs:=ras.map V.ref) (fun i σ H'=>∃ us o2,σ=[some (.ref t),some (.ref pt),o2]/\Same H H'/\H' pt=some (.lst us)/\Paired (RN H') (M.take i).flatten us) ⟨[],none,rfl,g0,zg,.nil⟩ ?_ ?_ ?_
 ·rintro i σ H' _ ⟨us,o2,rfl,g,_⟩
  exact SqL.of (g _ _ hT.1)
 ·rintro i v σ H' hv ⟨us,o2,rfl,g,hp,pu⟩
  obtain⟨row,a,hrow,ha,rfl,hR⟩:=(hT.mono g).row hv;obtain⟨zs,hz,pz,lz⟩:=hR.len;have lrow:=hn row (wg hrow);have lu:=zj pu;rw[JI (n:=n) (M.take i) (fun r hr=>hn r (vw hr)),wt]at lu;have il:=(ww.mp hrow).1;have b1:min i M.length*n<=100*100:=vY (by omega) n100;refine⟨_,rfl,.inl ⟨rfl,_,SqL.of hp⟩,_,rfl,pt,a,us,zs,rfl,rfl,hp,hz,(by omega),us++zs,_,rfl,yC g hpt,zg,?_⟩;rw[zp hrow,List.flatten_append,vV,List.flatten_nil,uN];exact Xr hp (qk pu pz)
 ·rintro σ H' ⟨us,o2,rfl,g,hp,pu⟩
  rw[wa,wo (by omega)]at pu;exact⟨_,rfl,q pt H' g ⟨⟨us,hp,pu⟩,hpt⟩⟩
theorem zbV{n:Nat}:∀(M:TB)(i:Nat)(r:List Nb),(∀ r∈M,r.length=n)->M[i]?=some r->(M.flatten.drop (i*n)).take n=r
 | [],i,r,_,h=>by simp at h
 | r0::M,0,r,hn,h=>by
  have e:r0=r:=by simpa using h
  rw[wao,gi,vV,List.take_append_of_le_length (by rw[hn r0 wp];exact wu _),wo (by rw[hn r0 wp];exact wu _),e]
 | r0::M,i+1,r,hn,h=>by
  have l0:=hn r0 wp;rw[vV,uk,waT (i*n) n,← List.drop_drop];have e:ud n r0=[]:=vU (by omega);rw[List.drop_append_of_le_length (by omega),e,waI];exact zbV M i r (fun r hr=>hn r (wr _ hr)) (by simpa using h)
def zg5:Sp:=fun vs H Q _=>∃(k:Int)(M:TB)(r n m:Nat)(t:Addr)(ras:List Addr),vs=[.int k,.ref t]/\kaa k/\kag H M t ras/\TOk k r n m M/\1<=r/\r<=100/\n<=10/\61<=m/\m<=1000 /\
 ∀ p t' b ls H',Same H H'->H' p=some (.tup [.ref t',.int b])->ITab H' (M.map fun r=>r.map (La.scW b)) t' ls->La.Scl k M.flatten (M.flatten.map (La.scW b)) b->Sm 1002000 b->(∀ x∈M.flatten,Sm 1002000 (La.scW b x))->Q (.ref p) H'
theorem zjk (D:Df K mg "over_one_bottom" SK yM) (xR:Kn P w K mg base "scaled" 41 SA qC) (zgg:Kn P w K mg base "strung" 1 ["rows"] zaA) (m_len:mg "len" = none) (zy:mg "range" = none):Kn P w K mg base "over_one_bottom" 42 SK zg5:=by
 refine D.kn sk (fun vs H Q E h=>?_) (fun f cdv A outer s H vs Q E hr h=>?_)
 ·obtain⟨k,M,r,n,m,t,ras,rfl,_⟩:=h;rfl
 obtain⟨k,M,r,n,m,t,ras,rfl,hk,hT,oM,n1,r100,n10,m7,m1000,q⟩:=h;have szl:=dh
 refine⟨_,(zc (zk (i:=2) sk.nd rfl (.inr rfl) (zw zA rfl m_len yb (za (zD zo (pv 1) zf) zd))) (zc (zk (i:=3) sk.nd rfl (.inr rfl) (zt xR hr (za (pv 0) (za (zt zgg hr (za (pv 1) zd)) zd)))) (zi (zq (xa (za (yV ["pair", "width"] [3,2] (zR rfl zy (za (zw zA rfl m_len yb (za (pv 1) zd)) zd)) fun _ _ _ _ _ _=>⟨zJ,(yT xB (zD zG (pv 1) zf) (xq (zm zW (pv 0) (pv 2))) (xq (zm zW (zm yy (pv 0) zf) (pv 2))))⟩) (za (zD zG (pv 3) zf) zd))))))),?_⟩;have lr:=zj hT.2;rw[oM.len]at lr;obtain⟨r0,ras',e0⟩ : ∃ r0 ras',ras=r0::ras':=by
  cases ras with
  | nil=>rw[Gg]at lr;omega
  | cons a b=>exact⟨a,b,rfl⟩
 obtain⟨x0,hx0,hr0⟩:=zT hT.2 (i:=0) (b:=r0) (by rw[e0];rfl);obtain⟨u0,hu0,pu0,lu0⟩:=hr0.len;have lx0:=(oM.ok x0 (wg hx0)).1;have rn:∀ r∈M,r.length=n:=fun r hr=>(oM.ok r hr).1
 have fl:=JI M rn;rw[oM.len]at fl;have nn:r*n<=1000:=vY r100 n10;refine⟨_,rfl,t,_,_,_,rfl,rfl,SqL.of hT.1,(by rw[e0];exact zH (j:=0) rfl),r0,_,rfl,.inl (SqL.of hu0),?_⟩;rw[lu0,lx0];have okf:La.OkR k M.flatten:=fun x hx=>by
  obtain⟨r,hr,hx'⟩:=GN.mp hx;exact(oM.ok r hr).2 x hx'
 refine⟨_,rfl,_,rfl,M,n,t,ras,rfl,hT,rn,(by omega),(by rw[oM.len];omega),fun p1 H1 g1 N1=>?_⟩;refine⟨k,M.flatten,p1,m,rfl,hk,N1.row,okf,(fun x hx=>by
  obtain⟨r,hr,hx'⟩:=GN.mp hx;exact oM.sz r hr x hx'),m7,(by rw[fl];have:(r*n+2)*m<=1002*1000:=vY (by omega) m1000;omega),fun pp H2 g2 sc=>?_⟩
 have b18:(M.flatten.length+2)*m<=1002000:=by rw[fl];exact wN (vY (show r*n+2<=1002 by omega) m1000) (by decide)
 obtain⟨l,ws,b,hp,hl,sc,sb,sw⟩:=sc;have ew:=sc.eq;subst ew;have g12:=g1.trans g2;refine⟨_,rfl,t,_,rfl,.inl (SqL.of (g12 _ _ hT.1)),_,rfl,(by omega),(by rw[wa,← lr];omega),?_⟩;rw[wS,wa,← lr];have lW:(M.map fun r=>r.map (La.scW b)).length=r:=by rw[wa];exact oM.len
 refine yt (lo:=0) (n:=r) (fun i ys H'=>∃ ls,ys=ls.map V.ref/\Same H2 H'/\Paired (IRow H') ((M.map fun r=>r.map (La.scW b)).take i) ls) ⟨[],rfl,Same.refl _,.nil⟩ ?_ ?_ ?_
 ·rintro i ys H' hi ⟨ls,rfl,g,pr⟩
  have:=zj pr;rw[wt]at this;rw[wa];omega
 ·rintro i ys H' hi ⟨ls,rfl,g,pr⟩
  first|refine gyes ?_|refine tyes ?_
  rw[vC];refine⟨_,rfl,pp,_,_,_,rfl,rfl,SqT.of (g _ _ hp),rfl,_,rfl,_,rfl,_,_,rfl,rfl,(IntMulOk.of_left (intBits_le_64 (by omega) (by omega))),_,rfl,_,rfl,_,_,rfl,rfl,_,rfl,_,_,rfl,rfl,(IntMulOk.of_left (intBits_le_64 (by omega) (by omega))),_,rfl,l,_,rfl,SqL.of (hl.mono g),fun p3 hp3=>?_⟩;obtain⟨r',hr,_⟩:=oM.get hi;have ec:cutV ((M.flatten.map (La.scW b)).map V.int) (some ((i:Int) *(n:Int))) (some (((i:Int)+1) *(n:Int))) =(r'.map (La.scW b)).map V.int:=by
   rw[show(i:Int) *(n:Int) =((i*n:Nat):Int) by rw[uY],show((i:Int)+1) *(n:Int) =(((i+1)*n:Nat):Int) by rw[uY];rfl,zjr,← uo,← ue,← uo,← ue,show(i+1)*n - i*n=n by rw[uk];omega,zbV M i r' rn hr]
  rw[ec];refine nxt hi ⟨ls++[p3],by rw[wv];rfl,g.trans (ze hp3 _),?_⟩;rw[zp (x:=r'.map (La.scW b)) (by rw[wk,hr];rfl)];exact ITab.snoc pr (ze hp3 _) zg
 ·rintro ys H' ⟨ls,rfl,g,pr⟩ t' ht'
  rw[wo (by omega)]at pr;have g3:=ze ht' (.lst (ls.map V.ref));have T3:ITab (upd H' t' (.lst (ls.map V.ref))) (M.map fun r=>r.map (La.scW b)) t' ls:=⟨zg,xp (fun _ _ r=>r.mono g3) pr⟩;generalize upd H' t' (.lst (ls.map V.ref))=H3 at *;refine⟨_,rfl,pp,_,_,_,rfl,rfl,SqT.of (g3 _ _ (g _ _ hp)),rfl,(by show 2<=sizeLine;decide),fun p hp'=>?_⟩;have g4:=ze hp' (.tup [.ref t',.int b]);exact q p t' b ls _ (((g12.trans g).trans g3).trans g4) zg (T3.mono g4) sc (sb.mono b18) (fun x hx=>(sw _ (wj.mpr ⟨x,hx,rfl⟩)).mono b18)
abbrev gpi:Int:=2305843009213693951
theorem ZH:kaa gpi:=.inr zjB
def restM(b:Int)(M:TB):TB:=(M.map fun r=>r.map (La.scW b)).map fun r=>r.map (nnum gpi)
theorem QX{r n m:Nat}{M:TB}(h:TOk 0 r n m M)(b:Int):TOk gpi r n 80 (restM b M):=by
 have ok:La.OkM gpi n (restM b M):=fun x hx=>by
  obtain⟨y,hy,rfl⟩:=wj.mp hx;obtain⟨z,hz,rfl⟩:=wj.mp hy;refine⟨by rw[wa,wa];exact(h.ok z hz).1,fun u hu=>?_⟩;obtain⟨w,_,rfl⟩:=wj.mp hu;exact La.zL ZH w
 exact⟨by unfold restM;rw[wa,wa];exact h.len,ok,fun r hr x hx=>(Zw ZH (by decide) ((ok r hr).2 x hx)).mono (by decide)⟩
def zcs:Sp:=fun vs H Q _=>∃(M:TB)(r n:Nat)(t:Addr)(ras:List Addr),vs=[.ref t]/\kag H M t ras/\TOk 0 r n 80 M/\1<=r/\r<=100/\n<=10 /\
 ∀ b t' rs H',Same H H'->NewT H H' (restM b M) t' rs->La.Scl 0 M.flatten (M.flatten.map (La.scW b)) b->Q (.ref t') H'
theorem zgc {tk:Nat} (D:Df K mg "rests_of" SH qE) (Yg:Kn P w K mg base "over_one_bottom" 42 SK zg5) (yL:mg "GREAT_PRIME" = some (.int 2305843009213693951 tk)):Kn P w K mg base "rests_of" 43 SH zcs:=by
 refine D.kn zbn (fun vs H Q E h=>?_) (fun f cdv A outer s H vs Q E hr h=>?_)
 ·obtain⟨M,r,n,t,ras,rfl,_⟩:=h;rfl
 obtain⟨M,r,n,t,ras,rfl,hT,oM,r1,r100,n10,q⟩:=h;have szl:=dh
 refine⟨_,(zi (zq (yV [] [] (zE (zD zG (zt Yg hr (za zf (za (pv 0) zd))) zf)) fun _ _ _ _ _ _=>⟨zJ,(yV [] [] (zE (pv 0)) fun _ _ _ _ _ _=>⟨zJ,(zm zO (pv 0) (zec (v:=.int 2305843009213693951) rfl yL ⟨_,rfl⟩))⟩)⟩))),?_⟩;refine⟨_,rfl,0,M,r,n,80,t,ras,rfl,.inl rfl,hT,oM,r1,r100,n10,by decide,by decide,fun p t' b ls H1 g1 hp T sc _ _=>?_⟩;refine⟨p,_,_,_,rfl,rfl,SqT.of hp,rfl,t',rfl,⟨_,SqL.of T.1⟩,?_⟩;have lW:(M.map fun r=>r.map (La.scW b)).length=r:=by rw[wa];exact oM.len
 have lG:(restM b M).length=r:=by unfold restM;rw[wa];exact lW
 have ll:=zj T.2;refine zN (xs:=ls.map V.ref) (fun i ys H'=>∃ rs,ys=rs.map V.ref/\Grow H1 H' ((restM b M).take i) rs) ⟨[],rfl,Grow.nil H1 (Same.refl H1)⟩ ?_ ?_ ?_
 ·rintro i ys H' hi ⟨rs,rfl,G⟩
  refine⟨SqL.of (G.same _ _ T.1),?_⟩;have:=zj G.rows;rw[wt]at this;rw[wa]at hi ⊢;omega
 ·rintro i v ys H' hv hi ⟨rs,rfl,G⟩
  obtain⟨ws,a,hw,ha,rfl,hRow⟩:=(T.mono G.same).row hv;have lws:ws.length=n:=by
   obtain⟨y,hy,rfl⟩:=wj.mp (wg hw);rw[wa];exact(oM.ok y hy).1
  first|refine gyes ?_|refine tyes ?_
  refine⟨_,rfl,a,rfl,⟨_,SqL.of hRow⟩,?_⟩;refine zN (xs:=ws.map V.int) (fun j ys' H6=>Same H' H6/\Paired (RN H6) ((ws.map (nnum gpi)).take j) ys') ⟨Same.refl _,.nil⟩ ?_ ?_ ?_
  ·rintro j ys' H6 hj ⟨g6,pr6⟩
   refine⟨SqL.of (g6 _ _ hRow),?_⟩;have:=zj pr6;rw[wt,wa]at this;omega
  ·rintro j v ys' H6 hv6 hj ⟨g6,pr6⟩
   rw[wk]at hv6;obtain⟨x,hx,rfl⟩:=wK.mp hv6
   first|refine gyes ?_|refine tyes ?_
   refine⟨_,rfl,_,_,rfl,rfl,(by decide),nxt hj ⟨g6,?_⟩⟩;rw[zp (x:=nnum gpi x) (by rw[wk,hx];rfl)];exact zS pr6 RN.of_z
  ·rintro ys' H6 ⟨g6,pr6⟩ p6 hp6
   rw[wa,wo (by rw[wa];exact wu _)]at pr6;refine nxt hi ⟨rs++[p6],by rw[wv];rfl,?_⟩;have e:(restM b M)[i]?=some (ws.map (nnum gpi)):=by unfold restM;rw[wk,hw];rfl
   rw[zp e];exact(G.mono g6).snoc hp6 pr6
 ·rintro ys H' ⟨rs,rfl,G⟩ t2 ht
  rw[wo (by rw[lG,wa];omega)]at G;have N:=G.done ht;have g2:=G.same.trans (ze ht (.lst (rs.map V.ref)));exact q b t2 rs _ (g1.trans g2) ⟨N.tab,g1.none N.ft,fun r hr=>g1.none (N.fr r hr),N.nd,N.nt⟩ sc
def Js:Sp:=fun vs H Q _=>∃(k:Int)(n:Nat),vs=[.int k,.int (n:Int)]/\n<=1000/\∀ t ras H',Same H H'->NewT H H' (La.kak k n) t ras->Q (.ref t) H'
theorem ziL (D:Df K mg "unit" SL zcl) (jx:Kn P w K mg base "number" 1 Sx ql) (zy:mg "range" = none) (m_int:mg "int" = none):Kn P w K mg base "unit" 2 SL Js:=by
 refine D.kn ziF (fun vs H Q E h=>?_) (fun f cdv A outer s H vs Q E hr h=>?_)
 ·obtain⟨k,n,rfl,_⟩:=h;rfl
 obtain⟨k,n,rfl,hn,q⟩:=h;have szl:=dh
 refine⟨_,(zi (zq (yV ["size", "kind"] [1,0] (zR rfl zy (za (pv 1) zd)) fun _ _ _ _ _ _=>⟨zJ,(yV ["kind", "row"] [2,0] (zR rfl zy (za (pv 1) zd)) fun _ _ _ _ _ _=>⟨zJ,(zt jx hr (za (pv 1) (za (qw XG rfl m_int zeQ (za (ja xc (pv 2) (pv 0) (kae _)) zd)) zd)))⟩)⟩))),?_⟩;have lT:(La.kak k n).length=n:=by unfold La.kak;simp
 refine⟨_,rfl,n,rfl,(by omega),(by omega),?_⟩;rw[wS];refine yt (lo:=0) (n:=n) (fun i ys H'=>∃ ras2,ys=ras2.map V.ref/\Grow H H' ((La.kak k n).take i) ras2) ⟨[],rfl,Grow.nil H (Same.refl H)⟩ ?_ ?_ ?_
 ·rintro i ys H' hi ⟨ras2,rfl,G⟩
  have:=zj G.rows;rw[wt]at this;rw[wa];omega
 ·rintro i ys H' hi ⟨ras2,rfl,G⟩
  first|refine gyes ?_|refine tyes ?_
  refine⟨_,rfl,n,rfl,(by omega),(by omega),?_⟩;rw[wS];have lR:(La.kaj k n i).length=n:=by unfold La.kaj;simp
  refine yt (lo:=0) (n:=n) (fun j ys' H6=>Same H' H6/\Paired (RN H6) ((La.kaj k n i).take j) ys') ⟨Same.refl _,.nil⟩ ?_ ?_ ?_
  ·rintro j ys' H6 hj ⟨g6,pr6⟩
   have:=zj pr6;rw[wt]at this;omega
  ·rintro j ys' H6 hj ⟨g6,pr6⟩
   first|refine gyes ?_|refine tyes ?_
   refine⟨_,rfl,_,rfl,_,rfl,rfl,.inr ⟨_,rfl,k,_,rfl,fun v H7 g7 r7=>nxt hj ⟨g6.trans g7,?_⟩⟩⟩;have e:(La.kaj k n i)[j]?=some (if i=j then nnum k 1 else nnum k 0):=by unfold La.kaj;rw[wk,vH hj];rfl
   rw[zp e];refine zS (yJ g7 pr6) ?_
   by_cases c:i=j
   ·rw[if_pos c];rw[c,decide_eq_true rfl]at r7;exact r7
   ·rw[if_neg c];rw[decide_eq_false (fun z=>c (by have:=V.int.inj z;omega))]at r7;exact r7
  ·rintro ys' H6 ⟨g6,pr6⟩ p hp
   rw[wo (by omega)]at pr6;refine nxt hi ⟨ras2++[p],by rw[wv];rfl,?_⟩;rw[zp (La.xL hi)];exact(G.mono g6).snoc hp pr6
 ·rintro ys H' ⟨ras2,rfl,G⟩ t ht
  rw[wo (by omega)]at G;exact q t ras2 _ (G.same.trans (ze ht _)) (G.done ht)
def zcm:Sp:=fun vs H Q _=>∃(k:Int)(A B:TB)(n b:Nat)(tA tB:Addr)(rA rB:List Addr),vs=[.int k,.ref tA,.ref tB]/\kaa k/\kag H A tA rA/\kag H B tB rB/\Fit k n/\TOk k n n 80 A/\TOk k b n 80 B/\1<=b/\b<=100 /\
 ∀ R t rs H',Same H H'->NewT H H' R t rs->LeastOf k n A B R->Q (.ref t) H'
theorem zbO{k:Int}(hk:kaa k){n:Nat}{F:Type}[Lean.Grind.Field F](φ:La.Kf k F)(v:Nat->F)(hv:∀ j,n<=j->v j=0):La.Rm φ (La.kak k n) v:=by
 refine(La.QK (La.Qa φ hk n) hk v).mp ⟨hv,fun u hu=>?_⟩;refine La.dot_zero n _ _ fun j hj=>?_
 have z:=hu.2 _ (.of ⟨_,wg (La.xL (k:=k) hj),rfl⟩);rw[La.yj,La.zV (u':=u) (v':=La.kar j 1) fun i _=>by rw[La.qx hj i],La.qz hj]at z
 grind
theorem zc5{n b:Nat}{a c:Int}{A B R:TB}(oA:TOk 0 n n 80 A)(oB:TOk 0 b n 80 B)(hA:La.Scl 0 A.flatten (A.flatten.map (La.scW a)) a)(hB:La.Scl 0 B.flatten (B.flatten.map (La.scW c)) c)(L:LeastOf gpi n (restM a A) (restM c B) R)(hl:R.length=n):LeastOf 0 n A B (La.kak 0 n):=by
 refine⟨⟨wV n,fun F _ φ=>La.Qa φ (.inl rfl) n⟩,fun F _ φ v=>⟨fun h=>?_,fun h=>?_⟩⟩
 ·refine La.zaR zjB oA.ok oA.len oB.ok hA hB (fun F _ φ j hj=>?_) φ v fun j hj=>La.zg1 (La.yH (.inl rfl) n).1 h hj
  obtain⟨lr,iR⟩:=L.rd;have oU:=La.yH ZH n;have sub:=((iR F φ).sub_len (La.Qa φ ZH n) fun v hv=>zbO ZH φ v fun j hj=>(iR F φ).supp hv j hj).2 (by rw[oU.2,hl];exact wu _);refine(L.eq F φ _).mp (sub _ ?_);exact .of ⟨_,wg (La.xL hj),funext fun i=>(La.qx hj i).symm⟩
 ·exact zbO (.inl rfl) φ v fun j hj=>La.zg1 (La.jc (.inl rfl) oA.ok oA.len oB.ok n) h hj
theorem zgZ {tk:Nat} (D:Df K mg "least_room" SJ jn) (Ym:Kn P w K mg base "grown_room" 48 SJ zcd) (Jr:Kn P w K mg base "rests_of" 43 SH zcs) (zaG:Kn P w K mg base "unit" 2 SL Js) (yL:mg "GREAT_PRIME" = some (.int 2305843009213693951 tk)) (m_len:mg "len" = none):Kn P w K mg base "least_room" 49 SJ zcm:=by
 refine D.kn sP (fun vs H Q E h=>?_) (fun f cdv A' outer s' H vs Q E hr h=>?_)
 ·obtain⟨k,A,B,n,b,tA,tB,rA,rB,rfl,_⟩:=h;rfl
 obtain⟨k,A,B,n,b,tA,tB,rA,rB,rfl,hk,hA,hB,hf,oA,oB,b1,b100,q⟩:=h;have szl:=dh
 have n10:=hf.n10;have lA:=zj hA.2;rw[oA.len]at lA;refine⟨_,(zc (zk (i:=3) sP.nd rfl (.inl rfl) (zw zA rfl m_len yb (za (pv 1) zd))) (zc (yz (PW.pt (pw_and (zI xc (pv 0) zf (kae _)) (pw_and1 (zI xc (zw zA rfl m_len yb (za (zt Ym hr (za (zec (v:=.int 2305843009213693951) rfl yL ⟨_,rfl⟩) (za (zt Jr hr (za (pv 1) zd)) (za (zt Jr hr (za (pv 2) zd)) zd)))) zd)) (pv 3) (kae _))))) (zi (zq (zt zaG hr (za (pv 0) (za (pv 3) zd))))) zQ) (zi (zq (zt Ym hr (za (pv 0) (za (pv 1) (za (pv 2) zd)))))))),?_⟩;refine⟨_,rfl,tA,_,rfl,.inl (SqL.of hA.1),?_⟩;rw[wa,← lA];refine⟨_,rfl,rfl,_,rfl,?_⟩;refine ite2 (fun c=>?_) (fun c=>?_)
 ·have k0:k=0:=V.int.inj (of_decide_eq_true c);subst k0;have n3:n<=3:=by rcases hf.2 with h|h;exact h;exact absurd rfl h.1
  refine⟨_,rfl,A,n,n,tA,rA,rfl,hA,oA,hf.1,by omega,by omega,fun a t1 r1 H1 g1 n1 sA=>?_⟩;refine⟨_,rfl,B,b,n,tB,rB,rfl,hB.mono g1,oB,b1,b100,by omega,fun c2 t2 r2 H2 g2 n2 sB=>?_⟩;refine⟨gpi,restM a A,restM c2 B,n,b,t1,t2,r1,r2,rfl,ZH,n1.tab.mono g2,n2.tab,⟨hf.1,.inl n3⟩,QX oA a,QX oB c2,by omega,fun R t3 r3 H3 g3 n3' L=>?_⟩;have l3:=zj n3'.tab.2;have g13:=(g1.trans g2).trans g3;refine⟨t3,_,rfl,.inl (SqL.of n3'.tab.1),_,rfl,rfl,_,rfl,?_⟩;refine ite2 (fun d=>?_) (fun d=>?_)
  ·have d':=V.int.inj (of_decide_eq_true d);rw[wa]at d';refine⟨_,rfl,_,rfl,0,n,rfl,by omega,fun t ras H4 g4 nt=>?_⟩;exact q _ t ras H4 (g13.trans g4) ⟨nt.tab,g13.none nt.ft,fun r hr=>g13.none (nt.fr r hr),nt.nd,nt.nt⟩ (zc5 oA oB sA sB L (by omega))
  ·refine⟨_,rfl,_,rfl,_,rfl,0,A,B,n,b,tA,tB,rA,rB,rfl,hk,hA.mono g13,hB.mono g13,hf,oA,oB,by omega,fun R t rs H4 g4 nt lo=>?_⟩;exact q R t rs H4 (g13.trans g4) ⟨nt.tab,g13.none nt.ft,fun r hr=>g13.none (nt.fr r hr),nt.nd,nt.nt⟩ lo
 ·refine iteF ?_;refine⟨_,rfl,_,rfl,_,rfl,k,A,B,n,b,tA,tB,rA,rB,rfl,hk,hA,hB,hf,oA,oB,by omega,fun R t rs H4 g4 nt lo=>?_⟩;exact q R t rs H4 g4 nt lo
def XY:Sp:=fun vs H Q _=>∃(k:Int)(A B C:TB)(n h s:Nat)(pm ta tb tc:Addr)(ra rb rc:List Addr),vs=[.int k,.ref pm]/\kaa k/\kax H A B C pm ta tb tc ra rb rc/\Fit k n/\MOk k n h s 80 A B C/\1<=h/\h<=100 /\
 ∀ R t rs H',Same H H'->NewT H H' R t rs->LeastOf k n A (kab h B) R->Q (.ref t) H'
theorem zdd (D:Df K mg "steered_room" SM xH) (xG:Kn P w K mg base "turned" 1 SH xh) (zan:Kn P w K mg base "least_room" 49 SJ zcm):Kn P w K mg base "steered_room" 50 SM XY:=by
 refine D.kn YI (fun vs H Q E h=>?_) (fun f cdv A' outer s' H vs Q E hr h=>?_)
 ·obtain⟨k,A,B,C,n,h,s,pm,ta,tb,tc,ra,rb,rc,rfl,_⟩:=h;rfl
 obtain⟨k,A,B,C,n,h,s,pm,ta,tb,tc,ra,rb,rc,rfl,hk,hM,hf,oM,h1,h100,q⟩:=h;have szl:=dh
 have n10:=hf.n10;have n1:=hf.1;have lB:=oM.b.len;refine⟨_,(zi (zq (zt zan hr (za (pv 0) (za (zD zG (pv 1) zf) (za (zt xG hr (za (zD zG (pv 1) zf) zd)) zd)))))),?_⟩;refine⟨_,rfl,_,rfl,pm,_,_,_,rfl,rfl,SqT.of hM.tup,rfl,_,rfl,pm,_,_,_,rfl,rfl,SqT.of hM.tup,rfl,B,h,tb,rb,rfl,hM.b,(fun e=>by rw[e]at lB;simp at lB;omega),(fun r hr=>(oM.b.ok r hr).1),by omega,by omega,fun t1 r1 H1 g1 n1'=>?_⟩;refine⟨k,A,kab h B,n,h,ta,t1,ra,r1,rfl,hk,hM.a.mono g1,n1'.tab,hf,oM.a,zck oM.b,h1,by omega,fun R t rs H2 g2 nt lo=>?_⟩;exact q R t rs H2 (g1.trans g2) ⟨nt.tab,g1.none nt.ft,fun r hr=>g1.none (nt.fr r hr),nt.nd,nt.nt⟩ lo
def ZD:Sp:=fun vs H Q _=>∃(A B:TB)(n h:Nat)(ta tb:Addr)(ra rb:List Addr),vs=[.ref ta,.ref tb]/\kag H A ta ra/\kag H B tb rb/\A.length=B.length/\(∀ r∈A,r.length=n)/\(∀ r∈B,r.length=h)/\n+h<=sizeLine/\A.length<sizeLine /\
 ∀ p ras H',Same H H'->NewT H H' (augM A B) p ras->Q (.ref p) H'
theorem zdr (D:Df K mg "abreast" Ss Zu) (m_zip:mg "zip" = none):Kn P w K mg base "abreast" 1 Ss ZD:=by
 refine D.kn zdb (fun vs H Q E h=>?_) (fun f cdv A' outer s' H vs Q E hr h=>?_)
 ·obtain⟨A,B,n,h,ta,tb,ra,rb,rfl,_⟩:=h;rfl
 obtain⟨A,B,n,h,ta,tb,ra,rb,rfl,hA,hB,lAB,nA,nB,nh,lA,q⟩:=h;have szl:=dh
 refine⟨_,(zi (zq (jy ["left", "right"] [] [] ⟨rfl,rfl,rfl,rfl,rfl,rfl,by decide +kernel⟩ rfl (jZ rfl m_zip (za (pv 0) (za (pv 1) zd))) (xO (zY (yd (by decide)) ya (zY (yd (by decide)) ya xn))) fun _ _ _ _ _ _=>⟨(xv 2 rfl (zP (zC (i:=0) (by decide:(["left", "right"]:List Str).Nodup) rfl (by first|exact Or.inl rfl|exact Or.inr rfl)) (zP (zC (i:=1) (by decide:(["left", "right"]:List Str).Nodup) rfl (by first|exact Or.inl rfl|exact Or.inr rfl)) yW))),zJ,(zm qh (pv 0) (pv 1))⟩))),?_⟩;have la:=zj hA.2;have lb:=zj hB.2;refine⟨_,rfl,_,rfl,ta,tb,_,_,rfl,SqL.of hA.1,SqL.of hB.1,?_⟩;refine xS (xs:=ra.map V.ref) (zs:=rb.map V.ref) (by rw[wa,wa];omega) (fun i ys H'=>∃ ras,ys=ras.map V.ref/\Grow H H' ((augM A B).take i) ras) ⟨[],rfl,Grow.nil H (Same.refl H)⟩ ?_ ?_ ?_
 ·rintro i ys H' hi ⟨ras,rfl,G⟩
  refine⟨SqL.of (G.same _ _ hA.1),SqL.of (G.same _ _ hB.1),?_⟩;have:=zj G.rows;rw[wt]at this;rw[wa]at hi ⊢;omega
 ·rintro i x z T ys H' hx' hz' hi hT ⟨ras,rfl,G⟩
  have g':=ze hT (.tup [x,z]);have G1:=G.mono g';obtain⟨row,a,hrow,ha,rfl,hR⟩:=(hA.mono G1.same).row hx';obtain⟨row2,a2,hrow2,ha2,rfl,hR2⟩:=(hB.mono G1.same).row hz';obtain⟨us1,hu1,pu1,lu1⟩:=hR.len;obtain⟨us2,hu2,pu2,lu2⟩:=hR2.len;have r1:=nA _ (wg hrow);have r2:=nB _ (wg hrow2);refine⟨T,_,rfl,SqT.of zg,rfl,_,_,rfl,_,_,rfl,rfl,?_⟩;generalize upd H' T (.tup [.ref a,.ref a2])=H1 at *
  first|refine gyes ?_|refine tyes ?_
  refine⟨_,rfl,_,rfl,a,a2,_,_,rfl,rfl,hu1,hu2,(by rw[lu1,lu2,r1,r2];exact nh),fun p hp=>?_⟩;refine nxt hi ⟨ras++[p],by rw[wv];rfl,?_⟩;rw[zp (Qf hrow hrow2)];exact G1.snoc hp (qk pu1 pu2)
 ·rintro ys H' ⟨ras,rfl,G⟩ pb hpb
  rw[wa,wo (by unfold augM;rw[wG];omega)]at G;have N:=G.done hpb;have g1:=G.same.trans (ze hpb (.lst (ras.map V.ref)));exact q pb ras _ g1 N
def zdS:Sp:=fun vs H Q _=>∃(k:Int)(M:TB)(n C:Nat)(t:Addr)(ras:List Addr),vs=[.int k,.ref t]/\kaa k/\kag H M t ras/\La.OkM k n M/\M.length=n/\La.kap C M/\61<=C/\(C+1)*2^(n+n)<=60000000/\n<=30/\(∀ R ls,(∀(F:Type) [Lean.Grind.Field F] (φ:La.Kf k F),La.kaw φ (n+n) (La.kan k n M) R ls)->R.map (uu n)=La.kak k n) /\
 ∀ R ls t' ras' H',Same H H'->NewT H H' (R.map (ud n)) t' ras'->(∀(F:Type) [Lean.Grind.Field F] (φ:La.Kf k F),La.kaw φ (n+n) (La.kan k n M) R ls)->Q (.ref t') H'
theorem Yi{k:Int}{n C:Nat}{M:TB}(c7:61<=C)(hM:La.kap C M):La.kap C (augM M (La.kak k n)):=fun r hr=>by
 unfold augM at hr;obtain⟨i,hi,e⟩:=wI hr;rw[vF]at e;rw[← e];obtain⟨D,d0,dl,hd⟩:=hM _ (wm (l:=M) (n:=i) (by rw[wG]at hi;omega));refine⟨D,d0,dl,fun x hx=>?_⟩
 rcases wq.mp hx with h|h
 ·exact hd x h
 ·have hu:=wm (l:=La.kak k n) (n:=i) (by rw[wG]at hi;omega);unfold La.kak at hu;obtain⟨j,_,ej⟩:=wj.mp hu;have hx':x∈La.kaj k n j:=by rw[ej];exact h
  unfold La.kaj at hx';obtain⟨q,_,rfl⟩:=wj.mp hx'
  by_cases c:j=q
  ·rw[if_pos c];exact La.dB.num (by show 1*D<=_;omega)
  ·rw[if_neg c];exact La.dB.num (by show 0*D<=_;omega)
theorem zgh{α β:Type}{R:α->β->Prop}{xs:List α}{ys:List β}(h:Paired R xs ys)(n:Nat):Paired R (xs.drop n) (ys.drop n):=by
 have hl:=zj h;refine Zf (by rw[vE,vE,hl]) fun i a b h1 h2=>?_
 rw[uV]at h1 h2;exact xl h h1 h2
theorem cutToF{xs:List V}(N:Nat):cutV xs none (some (N:Int))=xs.take N:=by
 unfold cutV;rw[HT.ji,gS,gi,HT.jM]
 rcases wO N xs.length with h|h
 ·rw[uw (by omega)]
 ·rw[uF (by omega),wo (wu _),wo h]
theorem cutFromF{xs:List V}(N:Nat):cutV xs (some (N:Int)) none=xs.drop N:=by
 unfold cutV;rw[HT.ji,HT.jM]
 rcases wO N xs.length with h|h
 ·rw[uw (by omega),wo (by rw[vE];exact wu _)]
 ·rw[uF (by omega),vU (wu _),vU h,List.take_nil]
theorem zh3 (D:Df K mg "back" SK zcp) (zaG:Kn P w K mg base "unit" 2 SL Js) (YH:Kn P w K mg base "abreast" 1 Ss ZD) (xW:Kn P w K mg base "reduced" 45 SE jA) (m_len:mg "len" = none):Kn P w K mg base "back" 46 SK zdS:=by
 refine D.kn Sq (fun vs H Q E h=>?_) (fun f cdv A outer s H vs Q E hr h=>?_)
 ·obtain⟨k,M,n,C,t,ras,rfl,_⟩:=h;rfl
 obtain⟨k,M,n,C,t,ras,rfl,hk,hT,oM,lM,cM,c7,hc,n30,full,q⟩:=h;have szl:=dh
 refine⟨_,(zc (zk (i:=2) Sq.nd rfl (.inr rfl) (zw zA rfl m_len yb (za (pv 1) zd))) (zc (zk (i:=3) Sq.nd rfl (.inl rfl) (zt zaG hr (za (pv 0) (za (pv 2) zd)))) (zc (zk (i:=4) Sq.nd rfl (.inl rfl) (zt xW hr (za (pv 0) (za (zt YH hr (za (pv 1) (za (pv 3) zd))) zd)))) (zc (yz (zI (zhB hr) (yV ["size"] [2] (zE (pv 4)) fun _ _ _ _ _ _=>⟨zJ,(yT xB (pv 0) je (xq (pv 1)))⟩) (pv 3) (kae _)) (zi Yt) zQ) (zi (zq (yV ["size"] [2] (zE (pv 4)) fun _ _ _ _ _ _=>⟨zJ,(yT xB (pv 0) (xq (pv 1)) je)⟩))))))),?_⟩;have lr:=zj hT.2;rw[lM]at lr;refine⟨_,rfl,t,_,rfl,.inl (SqL.of hT.1),?_⟩;rw[wa,← lr];refine⟨_,rfl,_,rfl,k,n,rfl,by omega,fun t1 r1 H1 g1 N1=>?_⟩;have oU:=zca hk n;refine⟨_,rfl,_,rfl,_,rfl,M,La.kak k n,n,n,t,t1,ras,r1,rfl,hT.mono g1,N1.tab,(by rw[lM,oU.len]),(fun r hr=>(oM r hr).1),(fun r hr=>(oU.ok r hr).1),(by omega),(by rw[lM];omega),fun t2 r2 H2 g2 N2=>?_⟩;have oB:La.OkM k (n+n) (augM M (La.kak k n))/\(augM M (La.kak k n)).length=n:=La.Zx hk oM lM;refine⟨k,augM M (La.kak k n),n+n,C,t2,r2,rfl,hk,N2.tab,oB.1,Yi c7 cM,c7,hc,(by omega),(by rw[oB.2];omega),fun R ls t3 r3 H3 g3 N3 red lR=>?_⟩;rw[oB.2]at lR;have g13:=(g1.trans g2).trans g3;have l3:=zj N3.tab.2;have U3:=N1.tab.mono (g2.trans g3);have oR:La.OkM k (n+n) R:=by
  obtain⟨F0,i0,d0,⟨φ0⟩⟩:=La.yi hk;exact(red F0 φ0).ok
 clear N1 N2 g1 g2 g3;refine⟨_,rfl,t3,rfl,⟨_,SqL.of N3.tab.1⟩,?_⟩;refine zN (xs:=r3.map V.ref) (fun i ys H'=>∃ ras2,ys=ras2.map V.ref/\Grow H3 H' ((R.map (uu n)).take i) ras2) ⟨[],rfl,Grow.nil H3 (Same.refl H3)⟩ ?_ ?_ ?_
 ·rintro i ys H' hi ⟨ras2,rfl,G⟩
  refine⟨SqL.of (G.same _ _ N3.tab.1),?_⟩;have:=zj G.rows;rw[wt,wa]at this;rw[wa];omega
 ·rintro i v ys H' hv hi ⟨ras2,rfl,G⟩
  obtain⟨row,a,hx,ha,rfl,hrow⟩:=(N3.tab.mono G.same).row hv;obtain⟨us,hus,pus,lus⟩:=hrow.len
  first|refine gyes ?_|refine tyes ?_
  refine⟨_,rfl,_,rfl,_,rfl,a,_,rfl,SqL.of hus,fun p hp=>?_⟩;rw[cutToF];refine nxt hi ⟨ras2++[p],by rw[wv];rfl,?_⟩;have e:(R.map (uu n))[i]?=some (row.take n):=by rw[wk,hx];rfl
  rw[zp e];exact G.snoc hp (zbI pus n)
 rintro ys H4 ⟨ras2,rfl,G⟩ pl hpl
 rw[wa,wo (by rw[wa];omega)]at G;have N4:=G.done hpl;have g4:=G.same.trans (ze hpl (.lst (ras2.map V.ref)));generalize upd H4 pl (.lst (ras2.map V.ref))=H5 at *;have U5:=U3.mono g4;refine⟨_,rfl,tabD _,tabD _,N4.tab.rp,U5.rp,JS _,JS _,wN (gK _ _) (wN (Jb _) (by decide)),_,rfl,?_⟩;rw[zhI];have eU:=full R ls red;rw[decide_eq_true eU];refine iteF ?_;have T5:=N3.tab.mono g4;have lR2:R.length=n:=by have:=congrArg vt eU;rw[wa,(La.yH hk n).2]at this;exact this
 refine⟨_,rfl,t3,rfl,⟨_,SqL.of T5.1⟩,?_⟩;refine zN (xs:=r3.map V.ref) (fun i ys H'=>∃ ras2,ys=ras2.map V.ref/\Grow H5 H' ((R.map (ud n)).take i) ras2) ⟨[],rfl,Grow.nil H5 (Same.refl H5)⟩ ?_ ?_ ?_
 ·rintro i ys H' hi ⟨ras2,rfl,G⟩
  refine⟨SqL.of (G.same _ _ T5.1),?_⟩;have:=zj G.rows;rw[wt,wa]at this;rw[wa];omega
 ·rintro i v ys H' hv hi ⟨ras2,rfl,G⟩
  obtain⟨row,a,hx,ha,rfl,hrow⟩:=(T5.mono G.same).row hv;obtain⟨us,hus,pus,lus⟩:=hrow.len
  first|refine gyes ?_|refine tyes ?_
  refine⟨_,rfl,_,rfl,_,rfl,a,_,rfl,SqL.of hus,fun p hp=>?_⟩;rw[cutFromF];refine nxt hi ⟨ras2++[p],by rw[wv];rfl,?_⟩;have e:(R.map (ud n))[i]?=some (row.drop n):=by rw[wk,hx];rfl
  rw[zp e];exact G.snoc hp (zgh pus n)
 rintro ys H6 ⟨ras3,rfl,G6⟩ pr hpr
 rw[wa,wo (by rw[wa];omega)]at G6;have N6:=G6.done hpr;have g:=g13.trans g4;exact q R ls pr ras3 _ (g.trans (G6.same.trans (ze hpr _))) ⟨N6.tab,g.none N6.ft,fun r hr=>g.none (N6.fr r hr),N6.nd,N6.nt⟩ red
def ZJ:Sp:=fun vs H Q _=>∃(k:Int)(M N:TB)(b c m:Nat)(t1 t2:Addr)(r1 r2:List Addr),vs=[.int k,.ref t1,.ref t2]/\kaa k/\kag H M t1 r1/\kag H N t2 r2/\La.OkM k b M/\La.OkM k c N/\N.length=b/\0<b/\szM m M/\szM m N/\61<=m/\(b+2)*m<=20000000/\c<sizeLine/\M.length<sizeLine /\
 ∀ t ras H',Same H H'->NewT H H' (kal k c M N) t ras->Q (.ref t) H'
theorem zdC (D:Df K mg "product" Sy ZB) (xG:Kn P w K mg base "turned" 1 SH xh) (xR:Kn P w K mg base "scaled" 41 SA qC) (xu:Kn P w K mg base "sum_of_products" 44 Sy zdW):Kn P w K mg base "product" 45 Sy ZJ:=by
 refine D.kn Sh (fun vs H Q E h=>?_) (fun f cdv A outer s H vs Q E hr h=>?_)
 ·obtain⟨k,M,N,b,c,m,t1,t2,r1,r2,rfl,_⟩:=h;rfl
 obtain⟨k,M,N,b,c,m,t1,t2,r1,r2,rfl,hk,hM,hN,oM,oN,lN,b0,sM,sN,m7,hsz,cz,mz,q⟩:=h;refine⟨_,(zc (Yd 3 Sh.nd ["kind"] [0] (zE (zt xG hr (za (pv 2) zd))) fun _ _ _ _ _ _=>⟨zJ,(zt xR hr (za (pv 1) (za (pv 0) zd)))⟩) (zc (zk (i:=4) Sh.nd rfl (.inl rfl) (yl zd)) (zc (yE PassesOwn.never rfl (zE (pv 1)) (zC (i:=5) Sh.nd rfl (.inl rfl)) (zc (zk (i:=6) Sh.nd rfl (.inr rfl) (zt xR hr (za (pv 0) (za (pv 5) zd)))) (zi (yU (bm0 (fun _ h=>Zy PySem.F.plainAttrs_list PySem.F.slot_list_append PySem.F.type_list_append yK h (za (yV ["kind", "left"] [0,6] (zE (pv 3)) fun _ _ _ _ _ _=>⟨zJ,(zt xu hr (za (pv 1) (za (pv 2) (za (pv 0) zd))))⟩) zd)) (pv 4)))))) (zi (zq (pv 4)))))),?_⟩;obtain⟨z1,z2,z3,z4⟩:=QP m7 hsz;have oT:=yu oN;rw[lN]at oT;have sT:=zdg oN sN;refine⟨_,rfl,N,c,t2,r2,rfl,hN,(fun e=>by rw[e]at lN;simp at lN;omega),(fun r hr=>(oN r hr).1),cz,by omega,fun tt rt H1 g1 nT=>?_⟩;refine⟨tt,rfl,⟨_,SqL.of nT.tab.1⟩,?_⟩;have tl:=zj nT.tab.2;rw[zK]at tl;refine zN (xs:=rt.map V.ref) (fun i ys H'=>∃ ps,ys=ps.map V.ref/\Same H1 H'/\Paired (fun xs p=>SclAt H' k ((b+2)*m) xs p) ((kab c N).take i) ps) ⟨[],rfl,Same.refl _,.nil⟩ ?_ ?_ ?_
 ·rintro i ys H' hi ⟨ps,rfl,g,pr⟩
  refine⟨SqL.of (g _ _ nT.tab.1),?_⟩;have:=zj pr;rw[wt,zK]at this;rw[wa];omega
 ·rintro i v ys H' hv hi ⟨ps,rfl,g,pr⟩
  obtain⟨xs,a,hx,ha,rfl,hrow⟩:=(nT.tab.mono g).row hv;obtain⟨lx,ox⟩:=oT xs (wg hx)
  first|refine gyes ?_|refine tyes ?_
  refine⟨_,rfl,_,rfl,k,xs,a,m,rfl,hk,hrow,ox,sT xs (wg hx),m7,by rw[lx];exact z4,fun p H2 g2 sc=>?_⟩;rw[lx]at sc;refine nxt hi ⟨ps++[p],by rw[wv];rfl,g.trans g2,?_⟩;rw[zp hx];exact zS (xp (fun _ _ r=>r.mono g2) pr) sc
 ·rintro ys H' ⟨ps,rfl,g,pr⟩ pc hpc
  rw[wa,wo (by rw[zK];omega)]at pr;have pcl:=zj pr;rw[zK]at pcl;have gq:Same H (upd H' pc (.lst (ps.map V.ref))):=(g1.trans g).trans (ze hpc _);have prq:Paired (fun xs p=>SclAt (upd H' pc (.lst (ps.map V.ref))) k ((b+2)*m) xs p) (kab c N) ps:=xp (fun _ _ r=>r.mono (ze hpc _)) pr;have hpq:upd H' pc (.lst (ps.map V.ref)) pc=some (.lst (ps.map V.ref)):=zg;generalize upd H' pc (.lst (ps.map V.ref))=Hq at *;refine⟨(by show 0<=sizeLine;decide),fun pt hpt=>?_⟩;refine⟨_,rfl,t1,rfl,⟨_,SqL.of (ze hpt _ _ _ (gq _ _ hM.1))⟩,?_⟩;refine xN (xs:=r1.map V.ref) (fun i σ H4=>∃ ras o5 o6,σ=[some (.int k),some (.ref t1),some (.ref t2),some (.ref pc),some (.ref pt),o5,o6]/\Grow Hq H4 ((kal k c M N).take i) ras/\H4 pt=some (.lst (ras.map V.ref))/\pt∉ras) ⟨[],none,none,rfl,Grow.nil Hq (ze hpt _),zg,by simp⟩ ?_ ?_ ?_
  ·rintro i σ H4 _ ⟨ras,o5,o6,rfl,G,_⟩
   exact SqL.of (G.same _ _ (gq _ _ hM.1))
  ·rintro i v σ H4 hv ⟨ras,o5,o6,rfl,G,hpt4,npt4⟩
   obtain⟨xs,a,hx,ha,rfl,hrow⟩:=(hM.mono (gq.trans G.same)).row hv;obtain⟨lx,ox⟩:=oM xs (wg hx);refine⟨_,rfl,_,rfl,k,xs,a,m,rfl,hk,hrow,ox,sM xs (wg hx),m7,by rw[lx];exact z4,fun p H5 g5 sc=>?_⟩;rw[lx]at sc;have gq5:=G.same.trans g5;refine⟨_,rfl,.inl ⟨rfl,_,SqL.of (g5 _ _ hpt4)⟩,_,rfl,pc,rfl,⟨_,SqL.of (gq5 _ _ hpq)⟩,?_⟩;refine zN (xs:=ps.map V.ref) (fun j ys' H6=>Same H5 H6/\Paired (RN H6) (((kab c N).map fun col=>La.ndot k xs col).take j) ys') ⟨Same.refl _,.nil⟩ ?_ ?_ ?_
   ·rintro j ys' H6 hj ⟨g6,pr6⟩
    refine⟨SqL.of (g6 _ _ (gq5 _ _ hpq)),?_⟩;have:=zj pr6;rw[wt,wa,zK]at this;omega
   ·rintro j v ys' H6 hv' hj ⟨g6,pr6⟩
    rw[wk]at hv';obtain⟨pj,hpj,rfl⟩:=wK.mp hv';obtain⟨col,hcol,scj⟩:=zT prq hpj;obtain⟨lc,oc⟩:=oT col (wg hcol)
    first|refine gyes ?_|refine tyes ?_
    refine⟨_,rfl,_,rfl,_,rfl,k,xs,col,p,pj,(b+2)*m,rfl,hk,sc.mono g6,scj.mono (gq5.trans g6),ox,oc,by rw[lx,lc],z2,by rw[lx];exact z1,by rw[lx];exact z3,fun v7 H7 g7 r7=>?_⟩;refine nxt hj ⟨g6.trans g7,?_⟩;have e:((kab c N).map fun col=>La.ndot k xs col)[j]?=some (La.ndot k xs col):=by rw[wk,hcol];rfl
    rw[zp e];exact zS (yJ g7 pr6) r7
   ·rintro ys' H6 ⟨g6,pr6⟩ pn hpn
    rw[wa,wo (by rw[wa,zK];omega)]at pr6;have g46:=g5.trans g6;have npn:pt≠pn:=fun e=>by rw[← e,g46 _ _ hpt4]at hpn;cases hpn
    refine⟨pt,_,_,rfl,rfl,(by rw[zM npn];exact g46 _ _ hpt4),?_,?_⟩
    ·have e1:=zj G.rows;rw[wt]at e1;have e2:=(ww.mp ha).1;have e3:=zj hM.2;rw[wa];omega
    obtain⟨G2,nm2⟩:=G.push (zs':=(ras.map V.ref)++[.ref pn]) hpt hpt4 npt4 g46 hpn pr6;refine⟨ras++[pn],_,_,rfl,?_,?_,nm2⟩
    ·have e:(kal k c M N)[i]?=some ((kab c N).map fun col=>La.ndot k xs col):=by unfold kal;rw[wk,hx];rfl
     rw[zp e];exact G2
    ·rw[zg,wv];rfl
  ·rintro σ H4 ⟨ras,o5,o6,rfl,G,hpt4,npt4⟩
   rw[wa,wo (by unfold kal;rw[wa];have:=zj hM.2;omega)]at G;exact⟨_,rfl,q pt ras H4 (gq.trans G.same) ⟨⟨hpt4,G.rows⟩,gq.none hpt,fun r hr=>gq.none (G.fr r hr),G.nd,npt4⟩⟩
def ZQ:Sp:=fun vs H Q _=>∃(k:Int)(A B C:TB)(n h s m:Nat)(pm ta tb tc:Addr)(ra rb rc:List Addr),vs=[.ref pm]/\kax H A B C pm ta tb tc ra rb rc/\MOk k n h s m A B C/\(n+h+2)*m<=20000000/\61<=m /\
 ∀ p ras H',Same H H'->NewT H H' (augM A B) p ras->Q (.ref p) H'
theorem zdm (D:Df K mg "leading" SN Zs) (YH:Kn P w K mg base "abreast" 1 Ss ZD):Kn P w K mg base "leading" 2 SN ZQ:=by
 refine D.kn zdk (fun vs H Q E h=>?_) (fun f cdv A' outer s' H vs Q E hr h=>?_)
 ·obtain⟨k,A,B,C,n,h,s,m,pm,ta,tb,tc,ra,rb,rc,rfl,_⟩:=h;rfl
 obtain⟨k,A,B,C,n,h,s,m,pm,ta,tb,tc,ra,rb,rc,rfl,hM,oM,hsz,m7,q⟩:=h;obtain⟨z1,z2,z3,z4⟩:=QP m7 hsz;have szl:=dh
 refine⟨_,(zi (zq (zt YH hr (za (zD zG (pv 0) zf) (za (zD zG (pv 0) zf) zd))))),?_⟩;exact⟨_,rfl,pm,_,_,_,rfl,rfl,SqT.of hM.tup,rfl,_,rfl,pm,_,_,_,rfl,rfl,SqT.of hM.tup,rfl,A,B,n,h,ta,tb,ra,rb,rfl,hM.a,hM.b,by rw[oM.a.len,oM.b.len],fun r hr=>(oM.a.ok r hr).1,fun r hr=>(oM.b.ok r hr).1,by omega,by rw[oM.a.len];omega,q⟩
def zfj:Sp:=fun vs H Q _=>∃(k:Int)(A B C:TB)(xs us:List Nb)(n h s m:Nat)(pm ta tb tc ax au:Addr)(ra rb rc:List Addr),vs=[.int k,.ref pm,.ref ax,.ref au]/\kaa k/\kax H A B C pm ta tb tc ra rb rc/\kah H xs ax/\kah H us au/\MOk k n h s m A B C/\ROk k n m xs/\ROk k h m us/\61<=m/\(n+h+2)*m<=20000000 /\
 ∀ p H',Same H H'->NewR H H' (nextM k A B xs us) p->Q (.ref p) H'
theorem zil (D:Df K mg "next_of" SO qZ) (qV:Kn P w K mg base "image" 45 SG Zo) (Xo:Kn P w K mg base "leading" 2 SN ZQ):Kn P w K mg base "next_of" 46 SO zfj:=by
 refine D.kn zc8 (fun vs H Q E h=>?_) (fun f cdv A' outer s' H vs Q E hr h=>?_)
 ·obtain⟨k,A,B,C,xs,us,n,h,s,m,pm,ta,tb,tc,ax,au,ra,rb,rc,rfl,_⟩:=h;rfl
 obtain⟨k,A,B,C,xs,us,n,h,s,m,pm,ta,tb,tc,ax,au,ra,rb,rc,rfl,hk,hM,hx,hu,oM,rx,ru,m7,hsz,q⟩:=h;obtain⟨z1,z2,z3,z4⟩:=QP m7 hsz;have szl:=dh
 refine⟨_,(zi (zq (zt qV hr (za (pv 0) (za (zt Xo hr (za (pv 1) zd)) (za (zm qh (pv 2) (pv 3)) zd)))))),?_⟩;have oAB:=zcE oM.a oM.b;refine⟨_,rfl,_,rfl,k,A,B,C,n,h,s,m,pm,ta,tb,tc,ra,rb,rc,rfl,hM,oM,hsz,m7,fun pb ras H1 g1 N=>?_⟩;obtain⟨us1,hu1,pu1,lu1⟩:=(hx.mono g1).len;obtain⟨us2,hu2,pu2,lu2⟩:=(hu.mono g1).len;refine⟨_,rfl,_,rfl,ax,au,_,_,rfl,rfl,hu1,hu2,(by rw[lu1,lu2,rx.len,ru.len];omega),fun p hp=>?_⟩;have g2:=ze hp (.lst (us1++us2));have R2:kah (upd H1 p (.lst (us1++us2))) (xs++us) p:=⟨_,zg,yJ g2 (qk pu1 pu2)⟩;generalize upd H1 p (.lst (us1++us2))=H2 at *;have rxu:=rx.app ru;refine⟨k,augM A B,xs++us,n+h,m,pb,p,ras,rfl,hk,N.tab.mono g2,R2,oAB.ok,rxu.len,rxu.ok,oAB.sz,rxu.sz,m7,hsz,(by rw[oAB.len];omega),fun pr H3 g3 nr=>?_⟩;exact q pr H3 ((g1.trans g2).trans g3) ⟨nr.row,(g1.trans g2).none nr.fa⟩
def Qr:Sp:=fun vs H Q _=>∃(k:Int)(n:Nat)(W:TB)(lw:List Nat)(xs:List Nb)(C:Nat)(t a:Addr)(ras:List Addr),vs=[.int k,.ref t,.ref a]/\kaa k/\kag H W t ras/\IsRa k n W lw/\kah H xs a/\xs.length=n/\La.OkR k xs/\La.kap C W/\La.rowB C xs/\61<=C/\n<=64/\(C+1)*2^n<=60000000 /\
 ∀ R ls H',Same H H'->(∀(F:Type) [Lean.Grind.Field F] (φ:La.Kf k F),La.kaw φ n (W++[xs]) R ls)->Q (.bl (decide (R.length=W.length))) H'
theorem zgN (D:Df K mg "lies_in" SQ Zd) (JP:Kn P w K mg base "joined" 46 Sy XB) (m_len:mg "len" = none):Kn P w K mg base "lies_in" 47 SQ Qr:=by
 refine D.kn zde (fun vs H Q E h=>?_) (fun f cdv A' outer s H vs Q E hr h=>?_)
 ·obtain⟨k,n,W,lw,xs,C,t,a,ras,rfl,_⟩:=h;rfl
 obtain⟨k,n,W,lw,xs,C,t,a,ras,rfl,hk,hT,iW,hx,lx,ox,cW,cx,c7,n64,hc,q⟩:=h;have lW:=jt hk iW;refine⟨_,(zi (zq (ja xc (zw zA rfl m_len yb (za (zt JP hr (za (pv 0) (za (pv 1) (za (yl (za (pv 2) zd)) zd)))) zd)) (zw zA rfl m_len yb (za (pv 1) zd)) (kae _)))),?_⟩;refine⟨_,rfl,_,rfl,_,rfl,(by show 1<=sizeLine;decide),fun p hp=>?_⟩;have g1:=ze hp (.lst [.ref a]);have T1:kag (upd H p (.lst [.ref a])) [xs] p [a]:=⟨zg,.cons (hx.mono g1) .nil⟩;have TW:=hT.mono g1;generalize upd H p (.lst [.ref a])=H1 at *;refine⟨k,W,[xs],n,C,t,p,ras,[a],rfl,hk,TW,T1,(ZP hk iW).1,(fun r hr=>by rw[wn.mp hr];exact⟨lx,ox⟩),cW,(fun r hr=>by rw[wn.mp hr];exact cx),c7,hc,n64,by omega,(by show 1<=1000;decide),fun R ls top rs H2 g2 nR red=>?_⟩;have l1:=zj nR.tab.2;have l2:=zj hT.2;refine⟨top,_,rfl,.inl (SqL.of nR.tab.1),_,rfl,t,_,rfl,.inl (SqL.of (g2 _ _ TW.1)),rfl,?_⟩;have el:decide (V.int ((rs.map V.ref).length:Int)=V.int ((ras.map V.ref).length:Int))=decide (R.length=W.length):=decide_eq_decide.mpr (by rw[wa,wa,← l1,← l2];exact⟨fun e=>by have:=V.int.inj e;omega,fun e=>by rw[e]⟩);show Q (.bl (decide (V.int ((rs.map V.ref).length:Int)=V.int ((ras.map V.ref).length:Int)))) H2;rw[el];exact q R ls H2 (g1.trans g2) red
def zfz:Sp:=fun vs H Q _=>∃(k:Int)(xs ys:List Nb)(a b:Addr),vs=[.int k,.ref a,.ref b]/\kaa k/\kah H xs a/\kah H ys b/\La.OkR k xs/\La.OkR k ys/\xs.length=ys.length/\xs.length<=1000/\(∀ x∈xs,nsm 60000000 x)/\(∀ x∈ys,nsm 60000000 x) /\
 ∀ p H',Same H H'->NewR H H' (subR k xs ys) p->Q (.ref p) H'
theorem zhJ (D:Df K mg "difference" Sy jg) (ziv:Kn P w K mg base "minus" 42 Sy (xV nsub)) (m_zip:mg "zip" = none):Kn P w K mg base "difference" 43 Sy zfz:=by
 refine D.kn QC (fun vs H Q E h=>?_) (fun f cdv A outer s H vs Q E hr h=>?_)
 ·obtain⟨k,xs,ys,a,b,rfl,_⟩:=h;rfl
 obtain⟨k,xs,ys,a,b,rfl,hk,hx,hy,ox,oy,lxy,l1000,sx,sy,q⟩:=h;have szl:=dh
 obtain⟨us1,hu1,pu1,lu1⟩:=hx.len;obtain⟨us2,hu2,pu2,lu2⟩:=hy.len;have ls:=sub_len hk lxy;refine⟨_,(zi (zq (jy ["left", "right"] ["kind"] [0] ⟨rfl,rfl,rfl,rfl,rfl,rfl,by decide +kernel⟩ rfl (jZ rfl m_zip (za (pv 1) (za (pv 2) zd))) (xO (zY (yd (by decide)) ya (zY (yd (by decide)) ya xn))) fun _ _ _ _ _ _=>⟨(xv 2 rfl (zP (zC (i:=0) (by decide:(["left", "right", "kind"]:List Str).Nodup) rfl (by first|exact Or.inl rfl|exact Or.inr rfl)) (zP (zC (i:=1) (by decide:(["left", "right", "kind"]:List Str).Nodup) rfl (by first|exact Or.inl rfl|exact Or.inr rfl)) yW))),zJ,(zt ziv hr (za (pv 2) (za (pv 0) (za (pv 1) zd))))⟩))),?_⟩;refine⟨_,rfl,_,rfl,a,b,us1,us2,rfl,SqL.of hu1,SqL.of hu2,?_⟩;refine xS (xs:=us1) (zs:=us2) (by omega) (fun j ys' H'=>Same H H'/\Paired (RN H') ((subR k xs ys).take j) ys') ⟨Same.refl _,.nil⟩ ?_ ?_ ?_
 ·rintro j ys' H' hj ⟨g,pr⟩
  refine⟨SqL.of (g _ _ hu1),SqL.of (g _ _ hu2),?_⟩;have:=zj pr;rw[wt]at this;omega
 ·rintro j x z T ys' H' hx' hz hj hT ⟨g,pr⟩
  obtain⟨nx,ex,rx⟩:=zT pu1 hx';obtain⟨nz,ez,rz⟩:=zT pu2 hz;have gN:=ze hT (.tup [x,z]);have gT:=g.trans gN;refine⟨T,_,rfl,SqT.of zg,rfl,_,_,rfl,_,_,rfl,rfl,?_⟩;generalize upd H' T (.tup [x,z])=H2 at *
  first|refine gyes ?_|refine tyes ?_
  refine⟨_,rfl,_,rfl,_,rfl,k,nx,nz,x,z,rfl,⟨hk,ox nx (wg ex),oy nz (wg ez),sx nx (wg ex),sy nz (wg ez),rx.mono gT,rz.mono gT⟩,fun v H3 g3 r3=>nxt hj ⟨gT.trans g3,?_⟩⟩;have e:(subR k xs ys)[j]?=some (nsub k nx nz):=by unfold subR;rw[vz,ex,ez]
  rw[zp e];exact zS (yJ (gN.trans g3) pr) r3
 ·rintro ys' H' ⟨g,pr⟩ p hp
  rw[wo (by omega)]at pr;have g2:=ze hp (.lst ys');exact q p _ (g.trans g2) ⟨⟨ys',zg,yJ g2 pr⟩,g.none hp⟩
def zbL:Sp:=fun vs H Q _=>∃(k:Int)(A B C:TB)(xs:List Nb)(n h s m:Nat)(pm ta tb tc ax:Addr)(ra rb rc:List Addr),vs=[.int k,.ref pm,.ref ax]/\kaa k/\kax H A B C pm ta tb tc ra rb rc/\kah H xs ax/\MOk k n h s m A B C/\ROk k n m xs/\61<=m/\(n+2)*m<=20000000/\n<=1000 /\
 ∀ p H',Same H H'->NewR H H' (imgM k A xs) p->Q (.ref p) H'
theorem zgQ (D:Df K mg "drifted" SR Za) (qV:Kn P w K mg base "image" 45 SG Zo):Kn P w K mg base "drifted" 46 SR zbL:=by
 refine D.kn zda (fun vs H Q E h=>?_) (fun f cdv A' outer s' H vs Q E hr h=>?_)
 ·obtain⟨k,A,B,C,xs,n,h,s,m,pm,ta,tb,tc,ax,ra,rb,rc,rfl,_⟩:=h;rfl
 obtain⟨k,A,B,C,xs,n,h,s,m,pm,ta,tb,tc,ax,ra,rb,rc,rfl,hk,hM,hx,oM,rx,m7,hsz,n1000,q⟩:=h;have szl:=dh
 refine⟨_,(zi (zq (zt qV hr (za (pv 0) (za (zD zG (pv 1) zf) (za (pv 2) zd)))))),?_⟩;exact⟨_,rfl,_,rfl,pm,_,_,_,rfl,rfl,SqT.of hM.tup,rfl,_,rfl,k,A,xs,n,m,ta,ax,ra,rfl,hk,hM.a,hx,oM.a.ok,rx.len,rx.ok,oM.a.sz,rx.sz,m7,hsz,(by rw[oM.a.len];omega),q⟩
def zch:Sp:=fun vs H Q _=>∃(k:Int)(A B C F:TB)(n h s m:Nat)(pm ta tb tc tf:Addr)(ra rb rc rf:List Addr),vs=[.int k,.ref pm,.ref tf]/\kaa k/\kax H A B C pm ta tb tc ra rb rc/\kag H F tf rf/\MOk k n h s m A B C/\TOk k h n m F/\1<=n/\n<=1000/\61<=m/\(n+h+2)*m<=20000000 /\
 ∀ t ras H',Same H H'->NewT H H' (rulM k n A B F) t ras->Q (.ref t) H'
theorem zgL (D:Df K mg "ruled" SS JY) (YS:Kn P w K mg base "product" 45 Sy ZJ) (Xo:Kn P w K mg base "leading" 2 SN ZQ) (zaG:Kn P w K mg base "unit" 2 SL Js) (m_len:mg "len" = none):Kn P w K mg base "ruled" 46 SS zch:=by
 refine D.kn zgb (fun vs H Q E h=>?_) (fun f cdv A' outer s' H vs Q E hr h=>?_)
 ·obtain⟨k,A,B,C,F,n,h,s,m,pm,ta,tb,tc,tf,ra,rb,rc,rf,rfl,_⟩:=h;rfl
 obtain⟨k,A,B,C,F,n,h,s,m,pm,ta,tb,tc,tf,ra,rb,rc,rf,rfl,hk,hM,hF,oM,oF,n1,n1000,m7,hsz,q⟩:=h;obtain⟨z1,z2,z3,z4⟩:=QP m7 hsz;have szl:=dh
 refine⟨_,(zi (zq (zt YS hr (za (pv 0) (za (zt Xo hr (za (pv 1) zd)) (za (zm qh (zt zaG hr (za (pv 0) (za (zw zA rfl m_len yb (za (zD zG (pv 1) zf) zd)) zd))) (pv 2)) zd)))))),?_⟩;have la:=zj hM.a.2;rw[oM.a.len]at la;have oAB:=zcE oM.a oM.b;have oI:=zhN ((zca hk n).up m7) oF;refine⟨_,rfl,_,rfl,k,A,B,C,n,h,s,m,pm,ta,tb,tc,ra,rb,rc,rfl,hM,oM,hsz,m7,fun t1 r1 H1 g1 N1=>?_⟩;have M1:=hM.mono g1;refine⟨_,rfl,_,rfl,pm,_,_,_,rfl,rfl,SqT.of M1.tup,rfl,ta,_,rfl,.inl (SqL.of M1.a.1),k,n,(by rw[wa,← la];rfl),n1000,fun t2 r2 H2 g2 N2=>?_⟩;have l2:=zj N2.tab.2;rw[(La.yH hk n).2]at l2;have lf:=zj hF.2;rw[oF.len]at lf;have F2:=(hF.mono g1).mono g2;refine⟨_,rfl,t2,tf,_,_,rfl,rfl,N2.tab.1,F2.1,(by rw[wa,wa];omega),fun t3 ht3=>?_⟩;have T3:=zhK N2.tab F2 ht3;have g3:=ze ht3 (.lst (r2.map V.ref++rf.map V.ref));generalize upd H2 t3 (.lst (r2.map V.ref++rf.map V.ref))=H3 at *;have g13:=(g1.trans g2).trans g3;refine⟨k,augM A B,La.kak k n++F,n+h,n,m,t1,t3,r1,r2++rf,rfl,hk,N1.tab.mono (g2.trans g3),T3,oAB.ok,oI.ok,oI.len,(by omega),oAB.sz,oI.sz,m7,hsz,(by omega),(by rw[oAB.len];omega),fun t ras H' g' N=>?_⟩;exact q t ras H' (g13.trans g') ⟨N.tab,g13.none N.ft,fun r hr=>g13.none (N.fr r hr),N.nd,N.nt⟩
theorem pw_row{k:Int}(hk:kaa k){n:Nat}{A:TB}{b:List Nb}(n3:k=0->n<=3)(wA:TW k n n 14 A)(ob:La.OkR k b)(lb:b.length=n)(wb:∀ x∈b,whk k 14 x){i:Nat}(hi:i<=n):La.rowB 62 (powX k A b i):=by
 have op:=jB hk wA.ok wA.len ob lb i
 by_cases k0:k=0
 ·have:=n3 k0;exact zhZ (by decide) op.1 fun y hy=>(zfw hk (fun _=>by omega) wA ob lb wb i y hy).mono (by omega)
 ·exact QM k0 op.1 (by decide)
theorem zfH{k:Int}(hk:kaa k){n:Nat}{A B:TB}{x:List Nb}(oA:La.OkM k n A)(lA:A.length=n)(oB:La.OkM k 1 B)(lB:B.length=n)(ox:La.OkR k x)(lx:x.length=n):nextM k A B x [nnum k 0]=imgM k A x:=by
 unfold nextM imgM augM;refine uD (by rw[wa,wG,wa];omega) fun i h1 h2=>?_
 have ha:i<A.length:=by rw[wa]at h2;exact h2
 have hb:i<B.length:=by omega
 rw[uR,uR,vF];have oa:=oA _ (wm ha);have obb:=oB _ (wm hb);have o0:La.OkR k [nnum k 0]:=fun y hy=>by rw[wn.mp hy];exact La.zL hk 0
 rw[La.zgy hk oa.2 obb.2 ox o0 (oa.1.trans lx.symm),XV hk obb.2 o0 obb.1,show [nnum k 0]=wx 1 (nnum k 0)from rfl,La.zcO hk obb.2 obb.1,La.Xu hk (La.xU hk oa.2 ox)]
def zeK:Sp:=fun vs H Q _=>∃(k:Int)(n:Nat)(b:List Nb)(tc pe a:Addr)(rc:List Addr),vs=[.int k,.ref tc,.ref pe]/\kaa k/\H tc=some (.lst (rc.map V.ref))/\rc[0]?=some a/\kah H b a/\H pe=some (.lst [])/\b.length=n/\La.OkR k b/\La.rowB 62 b/\n<=10/\(∀(F:Type) [Lean.Grind.Field F] (φ:La.Kf k F),¬ La.Rm φ [] (La.nv φ b)) /\
 ∀ H',Same H H'->Q (.int 0) H'
theorem ziu (D:Df K mg "free_hand" ST jU) (YT:Kn P w K mg base "lies_in" 47 SQ Qr):Kn P w K mg base "free_hand" 48 ST zeK:=by
 refine D.kn Sb (fun vs H Q E h=>?_) (fun f cdv A' outer s' H vs Q E hr h=>?_)
 ·obtain⟨k,n,b,tc,pe,a,rc,rfl,_⟩:=h;rfl
 obtain⟨k,n,b,tc,pe,a,rc,rfl,hk,hc,ha,hb,he,lb,ob,bb,n10,no,q⟩:=h;have big:(62+1)*2^n<=60000000:=wN (wU _ (pow2 n10)) (by decide);refine⟨_,(zc (zk (i:=3) Sb.nd rfl (.inl rfl) zf) (zc (jl PassesOwn.never (zaO (zt YT hr (za (pv 0) (za (pv 2) (za (zD zo (pv 1) (pv 3)) zd))))) (zi (zi9 (i:=3) Sb.nd rfl (.inl rfl) zf zjy))) (zi (zq (pv 3))))),?_⟩;refine⟨fun m σ H'=>σ=[some (.int k),some (.ref tc),some (.ref pe),some (.int 0)]/\H'=H,⟨0,rfl,rfl⟩,?_⟩
 rintro m σ H' ⟨rfl,rfl⟩
 refine⟨_,rfl,_,rfl,_,rfl,_,rfl,tc,_,_,.ref a,rfl,rfl,SqL.of hc,zH (j:=0) (by rw[wk,ha];rfl),k,n,[],[],b,62,pe,a,[],rfl,hk,⟨he,.nil⟩,zb6,hb,lb,ob,(fun _ h=>nomatch h),bb,by decide,by omega,big,fun R ls H1 g1 red=>⟨_,rfl,?_⟩⟩;have ne:¬ R.length =([]:TB).length:=fun e=>by
  obtain⟨F,_,_,⟨φ⟩⟩:=La.yi hk;exact no F φ ((zb0 hk (jF red) zb6 (fun F _ φ v=>⟨(red F φ).fro v,(red F φ).to v⟩) (fun F _ φ v=>Iff.rfl)).mp e F φ)
 rw[decide_eq_false ne];exact iteF ⟨_,rfl,q H1 g1⟩
def zbX:Sp:=fun vs H Q _=>∃(k:Int)(A B C:TB)(b:List Nb)(n s:Nat)(pm ta tb tc:Addr)(ra rb rc:List Addr),vs=[.int k,.ref pm,.int 0]/\kaa k/\kax H A B C pm ta tb tc ra rb rc/\(1<=n/\n<=4/\(k=0->n<=3))/\MOk k n 1 s 80 A B C/\TW k n n 14 A/\kab 1 B=[b]/\(∀ x∈b,whk k 14 x)/\(∀(F:Type) [Lean.Grind.Field F] (φ:La.Kf k F) (i:Nat),i<n->¬ La.Rm φ (stL k A b i) (La.nv φ (powX k A b i))) /\
 ∀ p p1 p2 r1 r2 H',Same H H'->H' p=some (.tup [.ref p1,.ref p2])->kag H' (stL k A b n) p1 r1->kag H' (wx n [nnum k 0]) p2 r2->Q (.ref p) H'
theorem zf3 (D:Df K mg "chain" SU JJ) (xG:Kn P w K mg base "turned" 1 SH xh) (xW:Kn P w K mg base "reduced" 45 SE jA) (zac:Kn P w K mg base "noughts" 2 SF Jl) (YT:Kn P w K mg base "lies_in" 47 SQ Qr) (zeP:Kn P w K mg base "drifted" 46 SR zbL) (zeM:Kn P w K mg base "next_of" 46 SO zfj) (m_len:mg "len" = none):Kn P w K mg base "chain" 48 SU zbX:=by
 refine D.kn Sk (fun vs H Q E h=>?_) (fun f cdv A' outer s' H vs Q E hr h=>?_)
 ·obtain⟨k,A,B,C,b,n,s,pm,ta,tb,tc,ra,rb,rc,rfl,_⟩:=h;rfl
 obtain⟨k,A,B,C,b,n,s,pm,ta,tb,tc,ra,rb,rc,rfl,hk,hM,⟨n1,n4,n3⟩,oM,wA,eb,wb,ind,q⟩:=h;have szl:=dh
 have lA:=oM.a.len;have lB:=oM.b.len;have oBt:La.OkM k n (kab 1 B):=by have:=yu oM.b.ok;rw[lB]at this;exact this
 have ob:=oBt b (by rw[eb];exact wp);have rows:∀ i,i<=n->La.kap 62 (stL k A b i):=fun i hi r hr=>by
  obtain⟨j,hj,rfl⟩:=stL_mem.mp hr;exact pw_row hk n3 wA ob.2 ob.1 wb (by omega)
 have rok:∀ i,i<=n->ROk k n 80 (powX k A b i):=fun i hi=>by
  have op:=jB hk oM.a.ok lA ob.2 ob.1 i;exact⟨op.2,op.1,fun x hx=>(zcf hk op.1 (pw_row hk n3 wA ob.2 ob.1 wb hi) (by decide) x hx).mono (by decide)⟩
 have rok0:ROk k 1 80 [nnum k 0]:=⟨rfl,fun y hy=>by rw[wn.mp hy];exact La.zL hk 0,fun y hy=>by rw[wn.mp hy];exact yI hk (show Sm 80 0 by unfold Sm;decide) (by decide)⟩;have big:(62+1)*2^n<=60000000:=wN (wU _ (pow2 n4)) (by decide);have big2:(1008+1)*2^n<=60000000:=wN (wU _ (pow2 n4)) (by decide);refine⟨_,(zc (zk (i:=3) Sk.nd rfl (.inl rfl) (zt xG hr (za (zD zG (pv 1) zf) zd))) (zc (zk (i:=4) Sk.nd rfl (.inl rfl) (zD zo (pv 3) (pv 2))) (zc (zk (i:=5) Sk.nd rfl (.inl rfl) (yl (za (pv 4) zd))) (zc (zk (i:=6) Sk.nd rfl (.inl rfl) (yl zd)) (zc (jl PassesOwn.never (zI zaD (zw zA rfl m_len yb (za (pv 5) zd)) (zw zA rfl m_len yb (za (pv 4) zd)) (kae _)) (zc (zk (i:=7) Sk.nd rfl (.inl rfl) (zt xW hr (za (pv 0) (za (pv 5) zd)))) (zc (zk (i:=8) Sk.nd rfl (.inl rfl) (zt zac hr (za (pv 0) (za (zw zA rfl m_len yb (za (pv 3) zd)) zd)))) (zc (yz (zaO (zt YT hr (za (pv 0) (za (pv 7) (za (zt zeP hr (za (pv 0) (za (pv 1) (za (pv 4) zd)))) zd))))) (zi Yt) zQ) (zc (zk (i:=4) Sk.nd rfl (.inl rfl) (zt zeM hr (za (pv 0) (za (pv 1) (za (pv 4) (za (pv 8) zd)))))) (zc (yU (bm0 (fun _ h=>Zy PySem.F.plainAttrs_list PySem.F.slot_list_append PySem.F.type_list_append yK h (za (pv 4) zd)) (pv 5))) (zi (yU (bm0 (fun _ h=>Zy PySem.F.plainAttrs_list PySem.F.slot_list_append PySem.F.type_list_append yK h (za (pv 8) zd)) (pv 6)))))))))) (zi (zq (xa (za (pv 5) (za (zm qh (pv 6) (yl (za (zt zac hr (za (pv 0) (za (zw zA rfl m_len yb (za (pv 3) zd)) zd))) zd))) zd)))))))))),?_⟩;refine⟨_,rfl,pm,_,_,.ref tb,rfl,rfl,SqT.of hM.tup,rfl,B,1,tb,rb,rfl,hM.b,(fun e=>by rw[e]at lB;simp at lB;omega),(fun r hr=>(oM.b.ok r hr).1),by omega,by omega,fun tk rk H1 g1 NC=>?_⟩;have tK:=NC.tab;rw[eb]at tK;obtain⟨a0,era⟩ : ∃ a0,rk=[a0]:=by
  have:=zj tK.2
  match rk,this with
  | [a],_=>exact⟨a,rfl⟩
 subst era;have hb1:kah H1 b a0:=xl tK.2 (i:=0) rfl rfl;have hM1:=hM.mono g1;refine⟨_,rfl,_,rfl,tk,_,_,.ref a0,rfl,rfl,SqL.of tK.1,zH (j:=0) rfl,?_⟩;refine⟨_,rfl,(by show 1<=sizeLine;decide),fun pst hpst=>?_⟩;have g2:=ze hpst (.lst [.ref a0]);have h2:upd H1 pst (.lst [.ref a0]) pst=some (.lst [.ref a0]):=zg;generalize upd H1 pst (.lst [.ref a0])=H2 at *;refine⟨(by show 0<=sizeLine;decide),fun pin hpin=>?_⟩;have g3:=ze hpin (.lst []);have h3:upd H2 pin (.lst []) pin=some (.lst []):=zg;have hst3:=g3 _ _ h2;have g13:=g2.trans g3;have f1:H1 pin=none:=g2.none hpin;have npp:pst≠pin:=fun e=>by rw[e]at h2;rw[h2]at hpin;cases hpin
 have na1:a0≠pst:=fun e=>by obtain⟨_,hh,_⟩:=hb1;rw[e,hpst]at hh;cases hh
 have na2:a0≠pin:=fun e=>by obtain⟨_,hh,_⟩:=hb1;rw[e,f1]at hh;cases hh
 have hb3:=hb1.mono g13;generalize upd H2 pin (.lst [])=H3 at *;clear hpin h2 g2 g3;refine⟨fun m σ H'=>∃(i:Nat)(ph:Addr)(rst rin:List Addr)(o7 o8:Option V),σ=[some (.int k),some (.ref pm),some (.int 0),some (.ref tk),some (.ref ph),some (.ref pst),some (.ref pin),o7,o8]/\Same H1 H'/\i<n/\kag H' (stL k A b (i+1)) pst rst/\kag H' (wx i [nnum k 0]) pin rin/\kah H' (powX k A b i) ph/\(ph≠pst/\ph≠pin/\pst∉rst/\pst∉rin/\pin∉rst/\pin∉rin)/\m=n - i,⟨_,0,a0,[a0],[],none,none,rfl,g13,by omega,⟨hst3,.cons hb3 .nil⟩,⟨h3,.nil⟩,hb3,⟨na1,na2,(fun h=>na1 (wn.mp h).symm),(fun h=>nomatch h),(fun h=>na2 (wn.mp h).symm),(fun h=>nomatch h)⟩,rfl⟩,?_⟩;clear hst3 h3 hb3 g13
 rintro m σ H4 ⟨i,ph,rst,rin,o7,o8,rfl,g4,hi,hS,hI,hP,⟨c1,c2,c3,c4,c5,c6⟩,rfl⟩
 have lst:=zj hS.2;rw[JN]at lst;have lin:=zj hI.2;rw[wL]at lin;obtain⟨us,hus,pus,lus⟩:=hP.len;have lp:=(rok i (by omega)).len;have hk4:=g4 _ _ tK.1;have hM4:=hM1.mono g4;refine⟨_,rfl,pst,_,rfl,.inl (SqL.of hS.1),_,rfl,ph,_,rfl,.inl (SqL.of hus),_,_,rfl,rfl,_,rfl,?_⟩;rw[wa,← lst,lus,lp]
 rcases wO (i+1) n with hlt|hge
 rotate_left
 ·
  rw[decide_eq_false (show ¬((i+1:Nat):Int) <(n:Int) by omega)];refine iteF ?_;have ei:i+1=n:=by omega
  refine⟨_,rfl,_,rfl,_,rfl,_,rfl,tk,_,rfl,.inl (SqL.of hk4),k,1,rfl,by omega,fun v0 pz H5 g5 r0 hz fz=>?_⟩;have hz':kah H5 [nnum k 0] pz:=⟨_,hz,.cons r0 .nil⟩;refine⟨(by show 1<=sizeLine;decide),fun pl hpl=>?_⟩;have g6:=ze hpl (.lst [.ref pz]);have h6:upd H5 pl (.lst [.ref pz]) pl=some (.lst [.ref pz]):=zg;have hI6:=(hI.mono g5).mono g6;have hS6:=(hS.mono g5).mono g6;have hz6:=hz'.mono g6;generalize upd H5 pl (.lst [.ref pz])=H6 at *;refine⟨pin,pl,_,_,rfl,rfl,hI6.1,h6,(by rw[wa];show rin.length+1<=_;omega),fun pc hpc=>?_⟩;have g7:=ze hpc (.lst (rin.map V.ref++[.ref pz]));have hS7:=hS6.mono g7;have hI7:kag (upd H6 pc (.lst (rin.map V.ref++[.ref pz]))) (wx n [nnum k 0]) pc (rin++[pz]):=⟨by rw[zg,wv];rfl,by
   rw[← ei,ur];exact zS (hI6.mono g7).2 (hz6.mono g7)⟩
  generalize upd H6 pc (.lst (rin.map V.ref++[.ref pz]))=H7 at *;refine⟨(by show 2<=sizeLine;decide),fun pt hpt=>?_⟩;have g8:=ze hpt (.tup [.ref pst,.ref pc]);rw[ei]at hS7;exact q pt pst pc rst (rin++[pz]) _ (((((g1.trans g4).trans g5).trans g6).trans g7).trans g8) zg (hS7.mono g8) (hI7.mono g8)
 rw[decide_eq_true (show((i+1:Nat):Int) <(n:Int) by omega)];refine iteT ⟨_,fun _ _ h=>h,?_⟩;refine⟨_,rfl,_,rfl,k,stL k A b (i+1),n,62,pst,rst,rfl,hk,hS,zct hk oM.a.ok lA ob.2 ob.1 (i+1),rows (i+1) (by omega),by decide,big,by omega,(by rw[JN];omega),fun W lw tw rw' H5 g5 NW red _=>?_⟩;have iW:=jF red;have eW:SameR k W (stL k A b (i+1)):=fun F _ φ v=>⟨(red F φ).fro v,(red F φ).to v⟩
 have bW:La.kap 1008 W:=(zb2 hk iW (g:=62) (by decide) ⟨_,zct hk oM.a.ok lA ob.2 ob.1 (i+1),rows (i+1) (by omega),eW⟩).mono (wN (wU _ (pow2 n4)) (by decide));refine⟨_,rfl,_,rfl,tk,_,rfl,.inl (SqL.of (g5 _ _ hk4)),k,1,rfl,by omega,fun v0 pz H6 g6 r0 hz fz=>?_⟩;have hz':kah H6 [nnum k 0] pz:=⟨_,hz,.cons r0 .nil⟩;have g46:=g5.trans g6;have hM6:=hM4.mono g46;have hP6:=hP.mono g46;have m80:(n+2)*80<=20000000:=wN (wP _ (show n+2<=6 by omega)) (by decide);have m81:(n+1+2)*80<=20000000:=wN (wP _ (show n+1+2<=7 by omega)) (by decide);refine⟨_,rfl,_,rfl,_,rfl,_,rfl,_,rfl,k,A,B,C,powX k A b i,n,1,s,80,pm,ta,tb,tc,ph,ra,rb,rc,rfl,hk,hM6,hP6,oM,rok i (by omega),by decide,m80,by omega,fun pd H7 g7 ND=>?_⟩;have rd:=rok (i+1) (by omega);refine⟨k,n,W,lw,powX k A b (i+1),1008,tw,pd,rw',rfl,hk,(NW.tab.mono g6).mono g7,iW,ND.row,rd.len,rd.ok,bW,(pw_row hk n3 wA ob.2 ob.1 wb (by omega)).mono (by decide),by decide,by omega,big2,fun R ls H8 g8 red2=>⟨_,rfl,?_⟩⟩;have ne:¬ R.length=W.length:=fun e=>by
  obtain⟨F,_,_,⟨φ⟩⟩:=La.yi hk;refine ind F φ (i+1) hlt ((eW F φ _).mp ((zb0 hk (jF red2) iW (fun F _ φ v=>⟨(red2 F φ).fro v,(red2 F φ).to v⟩) (fun F _ φ v=>Iff.rfl)).mp e F φ))
 rw[decide_eq_false ne];refine iteF ?_
 dsimp only
 have g48:=(g46.trans g7).trans g8;have hM8:=hM4.mono g48;have hP8:=hP.mono g48;have hz8:=(hz'.mono g7).mono g8;refine⟨_,rfl,_,rfl,_,rfl,_,rfl,k,A,B,C,powX k A b i,[nnum k 0],n,1,s,80,pm,ta,tb,tc,ph,pz,ra,rb,rc,rfl,hk,hM8,hP8,hz8,oM,rok i (by omega),rok0,by decide,m81,fun pn H9 g9 NR=>?_⟩;have rn:=NR.row;rw[zfH hk oM.a.ok lA oM.b.ok lB (rok i (by omega)).ok (rok i (by omega)).len]at rn;have g49:=g48.trans g9;have hS9:=hS.mono g49;have hI9:=hI.mono g49;have hz9:=hz8.mono g9;have n1':pn≠pst:=fun e=>by have:=NR.fa;rw[e,g48 _ _ hS.1]at this;cases this
 have n2':pn≠pin:=fun e=>by have:=NR.fa;rw[e,g48 _ _ hI.1]at this;cases this
 have z1':pz≠pst:=fun e=>by rw[e,g5 _ _ hS.1]at fz;cases fz
 have z2':pz≠pin:=fun e=>by rw[e,g5 _ _ hI.1]at fz;cases fz
 refine⟨_,rfl,.inl ⟨rfl,_,SqL.of hS9.1⟩,_,rfl,pst,_,_,rfl,rfl,hS9.1,(by rw[wa];omega),?_⟩;have hS10:kag (upd H9 pst (.lst (rst.map V.ref++[.ref pn]))) (stL k A b (i+1+1)) pst (rst++[pn]):=⟨by rw[zg,wv];rfl,by
  rw[zgl k A b (i+1)];exact zS (Zf (zj hS9.2) fun u x c h1 h2=>(xl hS9.2 h1 h2).upd (fun e=>c3 (by rw[← e];exact wg h2)) hS9.1) (kah.upd rn n1' hS9.1)⟩
 have hI10:kag (upd H9 pst (.lst (rst.map V.ref++[.ref pn]))) (wx i [nnum k 0]) pin rin:=hI9.upd (Ne.symm npp) c4 hS9.1;have rn10:kah (upd H9 pst (.lst (rst.map V.ref++[.ref pn]))) (powX k A b (i+1)) pn:=kah.upd rn n1' hS9.1;have hz10:kah (upd H9 pst (.lst (rst.map V.ref++[.ref pn]))) [nnum k 0] pz:=hz9.upd z1' hS9.1;have g10:Same H1 (upd H9 pst (.lst (rst.map V.ref++[.ref pn]))):=yC (g4.trans g49) hpst;generalize upd H9 pst (.lst (rst.map V.ref++[.ref pn]))=H10 at *;refine⟨_,rfl,.inl ⟨rfl,_,SqL.of hI10.1⟩,_,rfl,pin,_,_,rfl,rfl,hI10.1,(by rw[wa];omega),?_⟩;refine⟨n - (i+1),by omega,i+1,pn,rst++[pn],rin++[pz],_,_,rfl,yC g10 f1,hlt,hS10.upd npp (fun h=>?_) hI10.1,⟨by rw[zg,wv];rfl,?_⟩,rn10.upd n2' hI10.1,⟨n1',n2',fun h=>?_,fun h=>?_,fun h=>?_,fun h=>?_⟩,rfl⟩
 ·rcases wq.mp h with h|h
  ·exact c5 h
  ·exact n2' (wn.mp h).symm
 ·rw[ur];exact zS (Zf (zj hI10.2) fun u x c h1 h2=>(xl hI10.2 h1 h2).upd (fun e=>c6 (by rw[← e];exact wg h2)) hI10.1) (hz10.upd z2' hI10.1)
 ·rcases wq.mp h with h|h
  ·exact c3 h
  ·exact n1' (wn.mp h).symm
 ·rcases wq.mp h with h|h
  ·exact c4 h
  ·exact z1' (wn.mp h).symm
 ·rcases wq.mp h with h|h
  ·exact c5 h
  ·exact n2' (wn.mp h).symm
 ·rcases wq.mp h with h|h
  ·exact c6 h
  ·exact z2' (wn.mp h).symm
theorem zjP(n d:Nat):HT.sIx n d (some (-1))=n - 1:=by
 show(if (-1:Int)<0 then((-1:Int) +(n:Int)).toNat else min (-1:Int).toNat n)=_;rw[if_pos (by decide)];omega
theorem zig(xs:List V):cutV xs none (some (-1))=xs.take (xs.length - 1):=by
 unfold cutV;rw[HT.ji,gS,gi,zjP]
def zh:Nat->Nat
 | 0=>1008
 | t+1=>61+5 *(1008+zh t+1)
theorem zjL:∀ t,t<=4->zh t<=1426536:=by decide
theorem zjs:∀ t,1008<=zh t
 | 0=>wu _
 | t+1=>by have:=zjs t;show 1008<=61+5 *(1008+zh t+1);omega
def Ji:Sp:=fun vs H Q _=>∃(k:Int)(A:TB)(w xs:List Nb)(n:Nat)(t aw ap:Addr)(ra:List Addr),vs=[.int k,.ref t,.ref aw,.ref ap]/\kaa k/\kag H A t ra/\kah H w aw/\kah H xs ap/\TOk k n n 1008 A/\ROk k n 1008 w/\ROk k (n+1) 1008 xs/\1<=n/\n<=4 /\
 ∀ p H',Same H H'->kah H' (hrn k n A w xs n) p->(∀ x∈hrn k n A w xs n,nsm 1426536 x)->Q (.ref p) H'
theorem zdc (D:Df K mg "row_of_polynomial" SV yA) (xG:Kn P w K mg base "turned" 1 SH xh) (qV:Kn P w K mg base "image" 45 SG Zo) (ZE:mg "reversed" = none):Kn P w K mg base "row_of_polynomial" 46 SV Ji:=by
 refine D.kn sh (fun vs H Q E h=>?_) (fun f cdv A' outer s' H vs Q E hr h=>?_)
 ·obtain⟨k,A,w,xs,n,t,aw,ap,ra,rfl,_⟩:=h;rfl
 obtain⟨k,A,w,xs,n,t,aw,ap,ra,rfl,hk,hT,hw,hx,oA,ow,ox,n1,n4,q⟩:=h;have szl:=dh
 have lr:=zj hT.2;rw[oA.len]at lr;have oAw:TOk k (n+1) n 1008 (A++[w]):=⟨by rw[wD,oA.len];rfl,fun r hr=>by
  rcases wq.mp hr with h|h
  ·exact oA.ok r h
  ·rw[wn.mp h];exact⟨ow.len,ow.ok⟩,fun r hr=>by
  rcases wq.mp hr with h|h
  ·exact oA.sz r h
  ·rw[wn.mp h];exact ow.sz⟩
 have oT:=zck oAw;have big:(n+1+2)*1426536<=20000000:=wN (wP _ (show n+1+2<=7 by omega)) (by decide);refine⟨_,(zc (zk (i:=4) sh.nd rfl (.inl rfl) (zt xG hr (za (zm qh (pv 1) (yl (za (pv 2) zd))) zd))) (zc (zk (i:=5) sh.nd rfl (.inl rfl) (pv 2)) (zc (yE PassesOwn.never rfl (zi4 (K:=K) rfl rfl ZE (za (yT xB (pv 3) je (xq (zfP zb4 zf))) zd)) (zC (i:=6) sh.nd rfl (.inl rfl)) (zi (zk (i:=5) sh.nd rfl (.inl rfl) (zt qV hr (za (pv 0) (za (pv 4) (za (zm qh (pv 5) (yl (za (pv 6) zd))) zd))))))) (zi (zq (pv 5)))))),?_⟩;refine⟨_,rfl,_,rfl,(by show 1<=sizeLine;decide),fun p1 hp1=>?_⟩;have g1:=ze hp1 (.lst [.ref aw]);have h1:upd H p1 (.lst [.ref aw]) p1=some (.lst [.ref aw]):=zg;have hT1:=hT.mono g1;have hw1:=hw.mono g1;generalize upd H p1 (.lst [.ref aw])=H1 at *;refine⟨t,p1,_,_,rfl,rfl,hT1.1,h1,(by rw[wa];show ra.length+1<=_;omega),fun p2 hp2=>?_⟩;have g2:=ze hp2 (.lst (ra.map V.ref++[.ref aw]));have T2:kag (upd H1 p2 (.lst (ra.map V.ref++[.ref aw]))) (A++[w]) p2 (ra++[aw]):=⟨by rw[zg,wv];rfl,zS (hT1.mono g2).2 (hw1.mono g2)⟩;generalize upd H1 p2 (.lst (ra.map V.ref++[.ref aw]))=H2 at *;refine⟨A++[w],n,p2,ra++[aw],rfl,T2,(fun e=>by simp at e),(fun r hr=>(oAw.ok r hr).1),by omega,(by rw[oAw.len];omega),fun tc rc H3 g3 NC=>?_⟩;have g03:=(g1.trans g2).trans g3;have hw3:=hw.mono g03;have hx3:=hx.mono g03;refine⟨_,rfl,?_⟩;obtain⟨us,hus,pus,lus⟩:=hx3.len;refine⟨_,rfl,_,rfl,_,rfl,ap,_,rfl,SqL.of hus,fun pp hpp=>?_⟩;rw[zig,lus,ox.len,Nat.add_sub_cancel];have g4:=ze hpp (.lst (us.take n));have h4:upd H3 pp (.lst (us.take n)) pp=some (.lst (us.take n)):=zg;have pus4:=yJ g4 pus;have hC4:=NC.tab.mono g4;have hw4:=hw3.mono g4;generalize upd H3 pp (.lst (us.take n))=H4 at *;have lt:(us.take n).length=n:=by rw[wt,lus,ox.len];omega
 refine⟨pp,_,rfl,SqL.of h4,?_⟩;rw[lt];refine zh0 lt (fun i σ H'=>∃(pt:Addr)(o6:Option V),σ=[some (.int k),some (.ref t),some (.ref aw),some (.ref ap),some (.ref tc),some (.ref pt),o6]/\Same H4 H'/\kah H' (hrn k n A w xs i) pt/\ROk k n (zh i) (hrn k n A w xs i)) ⟨aw,none,rfl,Same.refl _,hw4,ow⟩ ?_ ?_ ?_
 ·rintro i σ H' _ ⟨pt,o6,rfl,g,_⟩
  exact SqL.of (g _ _ h4)
 ·rintro i v σ H5 hi hv ⟨pt,o6,rfl,g,hr5,rk⟩
  have hi3:i<=3:=by omega
  have hz:=zjL i (by omega);rw[Gs,if_pos (by omega)]at hv;obtain⟨x,hx',rx⟩:=zT pus4 hv;have ex:xs.getD (n - 1 - i) (nnum k 0)=x:=by rw[we,hx'];rfl
  have mx:=wg hx';obtain⟨us5,hu5,pu5,lu5⟩:=hr5.len;refine⟨_,rfl,_,rfl,_,rfl,_,rfl,(by show 1<=sizeLine;decide),fun q1 hq1=>?_⟩;have g6:=ze hq1 (.lst [v]);have h6:upd H5 q1 (.lst [v]) q1=some (.lst [v]):=zg;have hu6:=g6 _ _ hu5;have pu6:=yJ g6 pu5;have rx6:=(rx.mono g).mono g6;have hC6:=(hC4.mono g).mono g6;have g46:=g.trans g6;generalize upd H5 q1 (.lst [v])=H6 at *;refine⟨pt,q1,_,_,rfl,rfl,hu6,h6,(by rw[lu5,rk.len];show n+1<=_;omega),fun q2 hq2=>?_⟩;have g7:=ze hq2 (.lst (us5++[v]));have R7:kah (upd H6 q2 (.lst (us5++[v]))) (hrn k n A w xs i++[x]) q2:=⟨_,zg,zS (yJ g7 pu6) (rx6.mono g7)⟩;have hC7:=hC6.mono g7;generalize upd H6 q2 (.lst (us5++[v]))=H7 at *;have rkx:ROk k (n+1) (zh i) (hrn k n A w xs i++[x]):=⟨by rw[wD,rk.len];rfl,fun y hy=>by
   rcases wq.mp hy with h|h
   ·exact rk.ok y h
   ·rw[wn.mp h];exact ox.ok x mx,fun y hy=>by
   rcases wq.mp hy with h|h
   ·exact rk.sz y h
   ·rw[wn.mp h];exact(ox.sz x mx).mono (zjs i)⟩
  refine⟨k,kab n (A++[w]),hrn k n A w xs i++[x],n+1,1426536,tc,q2,rc,rfl,hk,hC7,R7,oT.ok,rkx.len,rkx.ok,(fun r hr y hy=>(oT.sz r hr y hy).mono (by decide)),(fun y hy=>(rkx.sz y hy).mono hz),by decide,big,(by rw[oT.len];omega),fun pr H8 g8 NR=>?_⟩;have er:imgM k (kab n (A++[w])) (hrn k n A w xs i++[x])=hrn k n A w xs (i+1):=by rw[← ex];rfl
  have sz:=zbt hk (by decide) oT rkx;rw[er]at sz;have row:=NR.row;rw[er]at row;refine⟨pr,_,rfl,(g46.trans g7).trans g8,row,sz.up ?_⟩;show 61 +(n+1) *(1008+zh i+1)<=61+5 *(1008+zh i+1);exact Nat.add_le_add_left (wP _ (by omega)) _
 ·rintro σ H5 ⟨pt,o6,rfl,g,hr5,rk⟩
  exact⟨_,rfl,q pt H5 ((g03.trans g4).trans g) hr5 fun x hx=>(rk.sz x hx).mono (zjL n n4)⟩
def Jg:Sp:=fun vs H Q _=>∃(k:Int)(A B C M R0:TB)(l0:List Nat)(b f xs:List Nb)(n s:Nat)(pm ta tb tc ap:Addr)(ra rb rc:List Addr),vs=[.int k,.ref pm,.ref ap]/\kaa k/\kax H A B C pm ta tb tc ra rb rc/\kah H xs ap/\(n<=4/\Fit k n)/\MOk k n 1 s 80 A B C/\TW k n n 14 A/\kab 1 B=[b]/\(∀ x∈b,whk k 14 x)/\(IsRa k n R0 l0/\SameR k R0 (La.kry k A [b] n)/\R0.length=n)/\ROk k (n+1) 1008 xs/\(La.OkM k n M/\M.length=n)/\La.GrP k n M xs/\(La.OkR k f/\f.length=n)/\(∀(F:Type) [Lean.Grind.Field F] (φ:La.Kf k F) (i j:Nat),i<n->j<n->La.nv φ (M.getD i []) j=La.nv φ (A.getD i []) j+La.nv φ b i*La.nv φ f j) /\
 ∀ p tF rF H',Same H H'->H' p=some (.tup [.str "rule",.ref tF])->kag H' [f] tF rF->Q (.ref p) H'
theorem zc3 (D:Df K mg "rule_for" SW qG) (XL:Kn P w K mg base "steered_room" 50 SM XY) (zbx:Kn P w K mg base "free_hand" 48 ST zeK) (xG:Kn P w K mg base "turned" 1 SH xh) (zhM:Kn P w K mg base "chain" 48 SU zbX) (zji:Kn P w K mg base "back" 46 SK zdS) (YS:Kn P w K mg base "product" 45 Sy ZJ) (ziy:Kn P w K mg base "ruled" 46 SS zch) (qR:Kn P w K mg base "row_of_polynomial" 46 SV Ji) (zak:Kn P w K mg base "difference" 43 Sy zfz) (m_len:mg "len" = none):Kn P w K mg base "rule_for" 51 SW Jg:=by
 refine D.kn Sc (fun vs H Q E h=>?_) (fun f' cdv A' outer s' H vs Q E hr h=>?_)
 ·obtain⟨k,A,B,C,M,R0,l0,b,f,xs,n,s,pm,ta,tb,tc,ap,ra,rb,rc,rfl,_⟩:=h;rfl
 obtain⟨k,A,B,C,M,R0,l0,b,f,xs,n,s,pm,ta,tb,tc,ap,ra,rb,rc,rfl,hk,hM,hx,⟨n4,ft⟩,oM,wA,eb,wb,⟨i0,e0,len0⟩,ox,⟨oMm,lMm⟩,gr,⟨of,lf⟩,eM,q⟩:=h;have szl:=dh
 have n1:=ft.1;have n3:k=0->n<=3:=fun e=>by
  rcases ft.2 with h|h
  ·exact h
  ·exact absurd e h.1
 have lA:=oM.a.len;have lB:=oM.b.len;have la:=zj hM.a.2;rw[lA]at la;have oBt:La.OkM k n (kab 1 B):=by have:=yu oM.b.ok;rw[lB]at this;exact this
 have ob:=oBt b (by rw[eb];exact wp);have ind:=zjH hk oM.a.ok lA ob.2 ob.1 i0 e0 len0;refine⟨_,(zc (zk (i:=3) Sc.nd rfl (.inr rfl) (zw zA rfl m_len yb (za (zD zG (pv 1) zf) zd))) (zc (zk (i:=4) Sc.nd rfl (.inl rfl) (zt XL hr (za (pv 0) (za (pv 1) zd)))) (zc (yz (zI zaD (zw zA rfl m_len yb (za (pv 4) zd)) (pv 3) (kae _)) (zi Yt) zQ) (zc (zk (i:=5) Sc.nd rfl (.inl rfl) (zt zbx hr (za (pv 0) (za (zt xG hr (za (zD zG (pv 1) zf) zd)) (za (yl zd) zd))))) (zc (zk (i:=6) Sc.nd rfl (.inl rfl) (zt zhM hr (za (pv 0) (za (pv 1) (za (pv 5) zd))))) (zc (zk (i:=7) Sc.nd rfl (.inl rfl) (zt zji hr (za (pv 0) (za (zD zG (pv 6) zf) zd)))) (zc (zk (i:=8) Sc.nd rfl (.inl rfl) (zt xG hr (za (zt YS hr (za (pv 0) (za (pv 7) (za (zD zG (pv 6) zf) zd)))) zd))) (zc (Yd 9 Sc.nd ["n"] [3] (zE (pv 7)) fun _ _ _ _ _ _=>⟨zJ,(zD zo (pv 0) (zm xZ (pv 1) zf))⟩) (zc (qg (zt zak hr (za (pv 0) (za (zD zo (pv 8) (pv 5)) (za (zt qR hr (za (pv 0) (za (zt ziy hr (za (pv 0) (za (pv 1) (za (pv 8) zd)))) (za (pv 9) (za (pv 2) zd))))) zd)))) (Xm (pv 8) (pv 5) qd)) (zi (zq (xa (za zhs (za (pv 8) zd)))))))))))))),?_⟩;refine⟨_,rfl,pm,_,_,.ref ta,rfl,rfl,SqT.of hM.tup,rfl,ta,_,rfl,.inl (SqL.of hM.a.1),?_⟩;rw[wa,← la];refine⟨_,rfl,_,rfl,k,A,B,C,n,1,s,pm,ta,tb,tc,ra,rb,rc,rfl,hk,hM,ft,oM,by decide,by decide,fun R tr rr H1 g1 NR LR=>?_⟩;have eqR:R=R0:=by
  obtain⟨lr,iR⟩:=LR.rd;refine zco hk iR i0 fun F _ φ v=>?_
  rw[LR.eq F φ v,eb,e0 F φ v]
 have lrr:=zj NR.tab.2;rw[eqR,len0]at lrr;refine⟨_,rfl,tr,_,rfl,.inl (SqL.of NR.tab.1),_,rfl,_,_,rfl,rfl,_,rfl,?_⟩;rw[wa,← lrr,decide_eq_false (show ¬(n:Int) <(n:Int) by omega)];refine iteF ?_
 dsimp only
 have hM1:=hM.mono g1;refine⟨_,rfl,_,rfl,pm,_,_,.ref tb,rfl,rfl,SqT.of hM1.tup,rfl,B,1,tb,rb,rfl,hM1.b,(fun e=>by rw[e]at lB;simp at lB;omega),(fun r hr=>(oM.b.ok r hr).1),by omega,by omega,fun tk rk H2 g2 NC=>?_⟩;have tK:=NC.tab;rw[eb]at tK;obtain⟨a0,era⟩ : ∃ a0,rk=[a0]:=by
  have:=zj tK.2
  match rk,this with
  | [a],_=>exact⟨a,rfl⟩
 subst era;refine⟨(by show 0<=sizeLine;decide),fun pe hpe=>?_⟩;have g3:=ze hpe (.lst []);have h3:upd H2 pe (.lst []) pe=some (.lst []):=zg;have tK3:=tK.mono g3;have g13:=g2.trans g3;generalize upd H2 pe (.lst [])=H3 at *;have hb3:kah H3 b a0:=xl tK3.2 (i:=0) rfl rfl;refine⟨k,n,b,tk,pe,a0,[a0],rfl,hk,tK3.1,rfl,hb3,h3,ob.1,ob.2,pw_row hk n3 wA ob.2 ob.1 wb (i:=0) (vq _),by omega,(fun F _ φ=>ind F φ 0 (by omega)),fun H4 g4=>?_⟩;have hM4:=(hM1.mono g13).mono g4;refine⟨_,rfl,_,rfl,_,rfl,k,A,B,C,b,n,s,pm,ta,tb,tc,ra,rb,rc,rfl,hk,hM4,⟨n1,n4,n3⟩,oM,wA,eb,wb,ind,fun pl pS pI rS rI H5 g5 hpl hS hI=>?_⟩;have oS:=zct hk oM.a.ok lA ob.2 ob.1 n;have lS:=JN k A b n;have bS:La.kap 62 (stL k A b n):=fun r hr=>by
  obtain⟨j,hj,rfl⟩:=stL_mem.mp hr;exact pw_row hk n3 wA ob.2 ob.1 wb (by omega)
 have fullS:∀(F:Type) [Lean.Grind.Field F] (φ:La.Kf k F) (p:Nat),p<n->La.Rm φ (stL k A b n) (La.kar p 1):=fun F _ φ p hp=>zfS hk oM.a.ok lA ob.2 ob.1 n1 i0 e0 len0 F φ hp
 have full:∀ R ls,(∀(F:Type) [Lean.Grind.Field F] (φ:La.Kf k F),La.kaw φ (n+n) (La.kan k n (stL k A b n)) R ls)->R.map (uu n)=La.kak k n:=fun R ls red=>by
  obtain⟨F,_,_,⟨φ⟩⟩:=La.yi hk;refine La.zeu hk oS lS (red F φ) fun p hp=>⟨La.kar p 1,fullS F φ p hp,fun j hj=>by unfold La.kar;rw[if_neg (by omega)],by unfold La.kar;rw[if_pos rfl];exact fun e=>Lean.Grind.Field.zero_ne_one e.symm⟩
 have bigB:(62+1)*2^(n+n)<=60000000:=wN (wU _ (pow2 (show n+n<=8 by omega))) (by decide);refine⟨_,rfl,_,rfl,pl,_,_,.ref pS,rfl,rfl,SqT.of hpl,rfl,k,stL k A b n,n,62,pS,rS,rfl,hk,hS,oS,lS,bS,by decide,bigB,by omega,full,fun Rb lb' tB rB H6 g6 NB redB=>?_⟩;obtain⟨F0,_,_,⟨φ0⟩⟩:=La.yi hk;have hU:=full Rb lb' redB;have okB:=La.zbi hk (redB F0 φ0) hU;have pair:=(La.zeV hk oS lS redB hU).1;have bB:La.kap 1008 (Rb.map (ud n)):=fun r hr=>by
  obtain⟨x,hx',rfl⟩:=wj.mp hr;have bes:=La.Zx hk oS lS;have:=zaE hk (B:=62) (by decide) bes.1 (by
   have:=Yi (k:=k) (n:=n) (by decide) bS;exact this) redB
  obtain⟨D',d0',dl',hd'⟩:=(this.mono (wN (wU _ (pow2 (show Rb.length<=4 by rw[okB.2];exact n4))) (by decide:(62+1)*2^4<=1008))) x hx';exact⟨D',d0',dl',fun y hy=>hd' y (uq hy)⟩
 have lBk:(Rb.map (ud n)).length=n:=by rw[wa];exact okB.2
 have szB:∀ r∈Rb.map (ud n),∀ y∈r,nsm 1008 y:=fun r hr y hy=>zcf hk (okB.1 r hr).2 (bB r hr) (by decide) y hy
 generalize Rb.map (ud n)=Bk at *;have hpl6:=g6 _ _ hpl;have hI6:=hI.mono g6;have oZ:La.OkM k 1 (wx n [nnum k 0]):=fun r hr=>by
  rw[vk hr];exact⟨rfl,fun y hy=>by rw[wn.mp hy];exact La.zL hk 0⟩
 have zZ:∀ r∈wx n [nnum k 0],∀ y∈r,y=nnum k 0:=fun r hr y hy=>by
  rw[vk hr]at hy;exact wn.mp hy
 have nz:nsm 1008 (nnum k 0):=yI hk ((show Sm 80 0 by unfold Sm;decide).mono (by decide)) (by decide);have m1008:(n+2)*1008<=20000000:=wN (wP _ (show n+2<=6 by omega)) (by decide);refine⟨_,rfl,_,rfl,_,rfl,pl,_,_,.ref pI,rfl,rfl,SqT.of hpl6,rfl,k,Bk,wx n [nnum k 0],n,1,1008,tB,pI,rB,rI,rfl,hk,NB.tab,hI6,okB.1,oZ,wL ..,by omega,szB,(fun r hr y hy=>by rw[zZ r hr y hy];exact nz),by decide,m1008,by omega,(by rw[lBk];omega),fun tP rP H7 g7 NP=>?_⟩;have eP:kal k 1 Bk (wx n [nnum k 0])=wx n [nnum k 0]:=by
  have tz:kab 1 (wx n [nnum k 0])=[wx n (nnum k 0)]:=by
   show [(wx n [nnum k 0]).map fun r=>r.getD 0 (.z 0)]=_;rw[waj];rfl
  unfold kal;rw[tz];refine uD (by rw[wa,lBk,wL]) fun i h1 h2=>?_
  have hi:i<Bk.length:=by rw[wa]at h1;exact h1
  rw[uR,List.getElem_replicate];have o:=okB.1 _ (wm hi);show [La.ndot k Bk[i] (wx n (nnum k 0))]=_;rw[XV hk o.2 (fun y hy=>by rw[vk hy];exact La.zL hk 0) (by rw[o.1,wL]),La.zcO hk o.2 o.1]
 have tP':=NP.tab;rw[eP]at tP';refine⟨wx n [nnum k 0],1,tP,rP,rfl,tP',(fun e=>by have:=congrArg vt e;rw[wL]at this;simp at this;omega),(fun r hr=>(oZ r hr).1),by omega,(by rw[wL];omega),fun tF rF H8 g8 NF=>?_⟩;have eF:kab 1 (wx n [nnum k 0])=[zerN k n]:=by
  show [(wx n [nnum k 0]).map fun r=>r.getD 0 (.z 0)]=_;rw[waj];rfl
 have tF':=NF.tab;rw[eF]at tF';obtain⟨z0,ezr⟩ : ∃ z0,rF=[z0]:=by
  have:=zj tF'.2
  match rF,this with
  | [a],_=>exact⟨a,rfl⟩
 subst ezr;have g68:=g7.trans g8;have hB8:=NB.tab.mono g68;have lrB:=zj hB8.2;rw[lBk]at lrB;refine⟨_,rfl,tB,rfl,⟨_,SqL.of hB8.1⟩,?_⟩;refine zN (xs:=rB.map V.ref) (fun i ys H'=>H'=H8/\Paired (RN H8) ((Bk.map fun r=>r.getD (n - 1) (nnum k 0)).take i) ys) ⟨rfl,.nil⟩ ?_ ?_ ?_
 ·rintro i ys H' hi ⟨rfl,pr⟩
  have:=zj pr;rw[wt,wa]at this;exact⟨SqL.of hB8.1,by omega⟩
 ·rintro i v ys H' hv hi ⟨rfl,pr⟩
  obtain⟨row,a,hrow,ha,rfl,hR⟩:=hB8.row hv;obtain⟨us,hu,pu,lu⟩:=hR.len;have o:=okB.1 row (wg hrow);have hl:n - 1<row.length:=by rw[o.1];omega
  have eg:row[n - 1]?=some (row.getD (n - 1) (nnum k 0)):=by rw[we,wc hl];rfl
  obtain⟨u,eu,ru⟩:=yv pu eg
  first|refine gyes ?_|refine tyes ?_
  refine⟨_,rfl,_,rfl,_,_,rfl,rfl,a,_,_,u,rfl,rfl,SqL.of hu,(by rw[show(n:Int) - 1 =((n - 1:Nat):Int) by omega];exact zH eu),nxt hi ⟨rfl,?_⟩⟩;have e:(Bk.map fun r=>r.getD (n - 1) (nnum k 0))[i]?=some (row.getD (n - 1) (nnum k 0)):=by rw[wk,hrow];rfl
  rw[zp e];exact zS pr ru
 rintro ys H8' ⟨rfl,pr⟩ pw hpw
 rw[wa,wo (by rw[wa,lBk];omega)]at pr;have g9:=ze hpw (.lst ys);have hw9:kah (upd H8' pw (.lst ys)) (Bk.map fun r=>r.getD (n - 1) (nnum k 0)) pw:=⟨_,zg,yJ g9 pr⟩;have g19:Same H1 (upd H8' pw (.lst ys)):=((((g13.trans g4).trans g5).trans g6).trans g68).trans g9;have tF9:=tF'.mono g9;generalize upd H8' pw (.lst ys)=H9 at *;have lw:(Bk.map fun r=>r.getD (n - 1) (nnum k 0)).length=n:=by rw[wa];exact lBk
 have rw9:ROk k n 1008 (Bk.map fun r=>r.getD (n - 1) (nnum k 0)):=⟨lw,fun y hy=>by
  obtain⟨r,hr',rfl⟩:=wj.mp hy;have o:=okB.1 r hr';rw[we,wc (by rw[o.1];omega)];exact o.2 _ (wm _),fun y hy=>by
  obtain⟨r,hr',rfl⟩:=wj.mp hy;have o:=okB.1 r hr';rw[we,wc (by rw[o.1];omega)];exact szB r hr' _ (wm _)⟩
 have wbd:∀(F:Type) [Lean.Grind.Field F] (φ:La.Kf k F) (i:Nat),i<n->La.dot n (La.nv φ (Bk.map fun r=>r.getD (n - 1) (nnum k 0))) (La.nv φ (powX k A b i))=if i+1=n then 1 else 0:=fun F _ φ i hi=>by
  have u2:=pair F φ i (n - 1) hi (by omega);have es:(stL k A b n).getD i []=powX k A b i:=by rw[we,ziP hi];rfl
  have u3:La.dot n (La.nv φ ((stL k A b n).getD i [])) (fun l=>La.nv φ (Bk.getD l []) (n - 1))=if i=n - 1 then 1 else 0:=u2
  rw[es]at u3;rw[La.yj];have e5:La.dot n (La.nv φ (powX k A b i)) (La.nv φ (Bk.map fun r=>r.getD (n - 1) (nnum k 0)))=La.dot n (La.nv φ (powX k A b i)) (fun l=>La.nv φ (Bk.getD l []) (n - 1)):=La.zV fun l hl=>by
   congr 1
   have hl':l<Bk.length:=by omega
   have e6:Bk.getD l []=Bk[l]:=by rw[we,wc hl'];rfl
   rw[e6,La.yf φ (show(Bk.map fun r=>r.getD (n - 1) (nnum k 0))[l]?=some (Bk[l].getD (n - 1) (nnum k 0)) by rw[wk,wc hl'];rfl)]
   rfl
  rw[e5,u3]
  by_cases h:i+1=n
  ·rw[if_pos h,if_pos (by omega)]
  ·rw[if_neg h,if_neg (by omega)]
 generalize (Bk.map fun r=>r.getD (n - 1) (nnum k 0))=w at *;have oz:La.OkR k (zerN k n):=fun y hy=>by rw[vk hy];exact La.zL hk 0
 have lz:(zerN k n).length=n:=by unfold zerN;rw[wL]
 have zF:∀ r∈[zerN k n],∀ y∈r,y=nnum k 0:=fun r hr y hy=>by
  rw[wn.mp hr]at hy;exact vk hy
 have oF:La.OkM k n [zerN k n]:=fun r hr=>by rw[wn.mp hr];exact⟨lz,oz⟩
 have nz80:nsm 80 (nnum k 0):=yI hk (show Sm 80 0 by unfold Sm;decide) (by decide);have hM9:=hM1.mono g19;have m83:(n+1+2)*80<=20000000:=wN (wP _ (show n+1+2<=7 by omega)) (by decide);refine⟨_,rfl,_,rfl,_,rfl,tF,_,_,.ref z0,rfl,rfl,SqL.of tF9.1,zH (j:=0) rfl,_,rfl,_,rfl,_,rfl,_,rfl,k,A,B,C,[zerN k n],n,1,s,80,pm,ta,tb,tc,tF,ra,rb,rc,[z0],rfl,hk,hM9,tF9,oM,⟨rfl,oF,fun r hr y hy=>by rw[zF r hr y hy];exact nz80⟩,n1,by omega,by decide,m83,fun tR rR H10 g10 NRu=>?_⟩;have tR':=NRu.tab;rw[zfX hk oM.a.ok lA oM.b.ok lB oF rfl zF]at tR';have hx10:=(hx.mono (g1.trans g19)).mono g10;refine⟨_,rfl,_,rfl,k,A,w,xs,n,tR,pw,ap,rR,rfl,hk,tR',hw9.mono g10,hx10,oM.a.up (by decide),rw9,ox,n1,n4,fun ph H11 g11 hh szh=>?_⟩;have z11:kah H11 (zerN k n) z0:=xl ((tF9.mono g10).mono g11).2 (i:=0) rfl rfl;have oh:=zbU hk oM.a.ok lA rw9.ok rw9.len ox.ok ox.len n (wu n);refine⟨k,zerN k n,hrn k n A w xs n,z0,ph,rfl,hk,z11,hh,oz,oh.1,lz.trans oh.2.symm,by omega,(fun y hy=>by rw[vk hy];exact nz80.mono (by decide)),(fun y hy=>(szh y hy).mono (by decide)),fun pf H12 g12 ND=>?_⟩;have row:=ND.row;rw[zir hk oM.a.ok lA ob.2 ob.1 n1 n4 oMm lMm of lf rw9.ok rw9.len ox.ok ox.len gr eM wbd]at row;have g912:=(g10.trans g11).trans g12;have tF12:=tF9.mono g912;refine⟨_,rfl,_,rfl,tF,_,_,0,rfl,rfl,tF12.1,qP (by simp),?_⟩;have nft:pf≠tF:=fun e=>by have:=ND.fa;rw[e,g11 _ _ (g10 _ _ tF9.1)]at this;cases this
 have h13:kag (upd H12 tF (.lst (([z0].map V.ref).set 0 (.ref pf)))) [f] tF [pf]:=⟨by rw[zg];rfl,.cons (row.upd nft tF12.1) .nil⟩;have fF:H1 tF=none:=(((((g13.trans g4).trans g5).trans g6).trans g7)).none NF.ft;have g13':Same H1 (upd H12 tF (.lst (([z0].map V.ref).set 0 (.ref pf)))):=yC (g19.trans g912) fF;generalize upd H12 tF (.lst (([z0].map V.ref).set 0 (.ref pf)))=H13 at *;refine⟨_,rfl,(by show 2<=sizeLine;decide),fun pr hpr=>?_⟩;have g14:=ze hpr (.tup [.str "rule",.ref tF]);exact q pr tF [pf] _ ((g1.trans g13').trans g14) zg (h13.mono g14)
theorem qT{a b:Int}(h0 : -(2^64)<b)(h1:b<2^64):IntMulOk a b:=IntMulOk.of_right (intBits_le_64 h0 h1)
theorem xT{a b:Int}(h0 : -(2^64)<a)(h1:a<2^64):IntMulOk a b:=IntMulOk.of_left (intBits_le_64 h0 h1)
def qi:Sp:=fun vs H Q _=>∃(t b:Int),vs=[.int t,.int b]/\0<b/\∀ p H',Same H H'->H' p=some (.tup [.int (vJ t b).num,.int ((vJ t b).den:Int)])->Q (.ref p) H'
theorem zaX (hP:P.given.tree=none) (hS:base.NoSeer) (D:Df K mg "_law_fraction" SX xb) (XM:Kn P w K mg base "_law_divisor" 1 Sz zcQ):Kn P w K mg base "_law_fraction" 41 SX qi:=by
 refine D.kn sE (fun vs H Q E h=>?_) (fun f cdv A outer s H vs Q E hr h=>?_)
 ·obtain⟨t,b,rfl,_⟩:=h;rfl
 obtain⟨t,b,rfl,b0,q⟩:=h;refine⟨_,(zc (zk (i:=2) sE.nd rfl (.inl rfl) (zt XM hr (za (pv 0) (za (pv 1) zd)))) (zi (zq (xa (za (zm (yc hr (by decide) hP hS ⟨_,_,rfl,rfl,rfl,rfl,rfl⟩) (pv 0) (pv 2)) (za (zm (yc hr (by decide) hP hS ⟨_,_,rfl,rfl,rfl,rfl,rfl⟩) (pv 1) (pv 2)) zd)))))),?_⟩;have e:sg t b =((vf t b:Nat):Int):=by unfold sg;rw[if_neg (by omega)]
 have ne:((vf t b:Nat):Int)≠0:=by rw[← e];exact zdU (by omega)
 obtain⟨e1,e2⟩:=YF (t:=t) (b:=b) (by omega);rw[e]at e1 e2;refine⟨_,rfl,_,rfl,t,b,rfl,_,rfl,_,rfl,_,_,rfl,rfl,ne,_,rfl,_,rfl,_,_,rfl,rfl,ne,(by show 2<=sizeLine;decide),fun p hp=>?_⟩;show Q (.ref p) (upd H p (.tup [.int (t.fdiv ((vf t b:Nat):Int)),.int (b.fdiv ((vf t b:Nat):Int))]));rw[e1,e2];exact q p _ (ze hp _) zg
def Qb:Sp:=fun vs H Q _=>∃(c j:Int),vs=[.int c,.int j]/\0<=j/\j<=1000/\∀ m:Int,0<=m->m<2147483648->Q (.int m) H
theorem ten7:(10:Int)^(7:Int).toNat=10000000:=by decide
theorem cpow10{j:Int}(h0:0<=j)(h1:j<=100):CPow 10 j:=⟨h0,by omega,by decide⟩
theorem zgF (hP:P.given.tree=none) (hS:base.NoSeer) (D:Df K mg "_law_mixed" SY jh) (zy:mg "range" = none):Kn P w K mg base "_law_mixed" 41 SY Qb:=by
 refine D.kn sU (fun vs H Q E h=>?_) (fun f cdv A outer s H vs Q E hr h=>?_)
 ·obtain⟨c,j,rfl,_⟩:=h;rfl
 obtain⟨c,j,rfl,j0,j1,q⟩:=h;refine⟨_,(zc (yz (zI ZY (pv 0) (zm zfc zf zf) (kae _)) (zc (zk (i:=2) sU.nd rfl (.inl rfl) (zm (yc hr (by decide) hP hS ⟨_,_,rfl,rfl,rfl,rfl,rfl⟩) (pv 0) zf)) (zc (yE PassesOwn.never rfl (zR rfl zy (za (pv 1) zd)) (zC (i:=3) sU.nd rfl (.inl rfl)) (zi (zk (i:=2) sU.nd rfl (.inl rfl) (zm (yc hr (by decide) hP hS ⟨_,_,rfl,rfl,rfl,rfl,rfl⟩) (pv 2) (zm zfc zf zf))))) (zi (zq (zm zO (pv 2) (zm zfc zf zf)))))) zQ) (zc (zk (i:=4) sU.nd rfl (.inl rfl) (zm zO (zm zW (zm yy (zm yy (zm zO (pv 0) zf) (zm zW (zm zW zf (pv 1)) (pv 1))) (zm zW zf (pv 1))) zf) zf)) (zi (zq (zm zO (zm zW (pv 4) (zm yy (zm yy (zm zO (pv 4) zf) (zm zW zf (pv 1))) zf)) zf))))),?_⟩;have n1:(2147483647:Int)≠0:=by decide
 have n2:(2147483629:Int)≠0:=by decide
 have n3:(65537:Int)≠0:=by decide
 have n4:(1000:Int)≠0:=by decide
 have n5:(10:Int)^(7:Int).toNat≠0:=by decide
 refine⟨_,rfl,_,_,rfl,rfl,cpow10 (by decide) (by decide),_,_,rfl,rfl,_,rfl,?_⟩;refine ite2 (fun cc=>?_) (fun cc=>?_)
 ·refine⟨_,rfl,_,_,rfl,rfl,n4,?_⟩;refine⟨_,rfl,j,rfl,(by omega),(by omega),?_⟩;refine yw (lo:=0) (n:=j.toNat) (fun i σ H'=>∃ lf o3 o4,σ=[some (.int c),some (.int j),some (.int lf),o3,o4]/\H'=H) ⟨_,none,none,rfl,rfl⟩ ?_ ?_
  ·rintro i σ H' hi ⟨lf,o3,o4,rfl,rfl⟩
   exact⟨_,rfl,_,_,rfl,rfl,cpow10 (by decide) (by decide),_,_,rfl,rfl,n5,_,_,_,rfl,rfl⟩
  ·rintro σ H' ⟨lf,o3,o4,rfl,rfl⟩
   refine⟨_,rfl,_,_,rfl,rfl,cpow10 (by decide) (by decide),_,_,rfl,rfl,n5,?_⟩
   dsimp only
   rw[ten7];have h0:=wy lf (show(0:Int)<10000000 by decide);have h1:=wH lf (show(0:Int)<10000000 by decide);exact q _ h0 (by omega)
 ·have f0:=wy c (show(0:Int)<2147483647 by decide);have f1:=wH c (show(0:Int)<2147483647 by decide);refine⟨_,rfl,_,_,rfl,rfl,n1,_,rfl,_,_,rfl,rfl,xT (by decide) (by decide),_,rfl,_,_,rfl,rfl,qT (by omega) (by omega),_,_,rfl,rfl,_,rfl,_,_,rfl,rfl,xT (by decide) (by decide),_,_,rfl,rfl,_,_,rfl,rfl,qT (by decide) (by decide),_,_,rfl,rfl,n1,?_⟩
  dsimp only
  generalize ((c.fmod 2147483647+40503*j*j+17*j)*48271).fmod 2147483647=o at *;refine⟨_,rfl,_,rfl,_,_,rfl,rfl,n3,_,rfl,_,_,rfl,rfl,xT (by decide) (by decide),_,_,rfl,rfl,_,_,rfl,rfl,_,_,rfl,rfl,qT ?_ ?_,_,_,rfl,rfl,n2,?_⟩
  ·have h0:=wy o (show(0:Int)<65537 by decide);show -(2^64)<o.fmod 65537+3*j+1;omega
  ·have h1:=wH o (show(0:Int)<65537 by decide);show o.fmod 65537+3*j+1<2^64;omega
  dsimp only
  generalize o *(o.fmod 65537+3*j+1)=x;have h0:=wy x (show(0:Int)<2147483629 by decide);have h1:=wH x (show(0:Int)<2147483629 by decide);exact q _ h0 (by omega)
def zai:Sp:=fun vs H Q _=>∃(k c:Int),vs=[.int k,.int c]/\kaa k/\∀ x v H',Same H H'->RN H' x v->x.ok k->Q v H'
theorem zfT{k c m:Int}(hk:1<k)(h0:0<=m)(h1:m<4)(c0:0<=c)(c1:c<k):∃ w:Int,atI [V.int 0,V.int 1,V.int (k - 1),V.int c] m=some (.int w)/\0<=w/\w<k:=by
 rcases (show m=0\/m=1\/m=2\/m=3 by omega)with rfl|rfl|rfl|rfl
 ·exact⟨0,rfl,by omega,by omega⟩
 ·exact⟨1,rfl,by omega,by omega⟩
 ·exact⟨k - 1,rfl,by omega,by omega⟩
 ·exact⟨c,rfl,c0,c1⟩
theorem zdP (hP:P.given.tree=none) (hS:base.NoSeer) (D:Df K mg "_law_drawn" SZ js) (yn:Kn P w K mg base "_law_fraction" 41 SX qi):Kn P w K mg base "_law_drawn" 42 SZ zai:=by
 refine D.kn Jx (fun vs H Q E h=>?_) (fun f cdv A outer s H vs Q E hr h=>?_)
 ·obtain⟨k,c,rfl,_⟩:=h;rfl
 obtain⟨k,c,rfl,hk,q⟩:=h;have kl:=hk.lt;refine⟨_,(zc (yz (zI ZY (pv 0) zf (kae _)) (zi (zq (zD zo (yl (za zf (za zf (za (zm xZ (pv 0) zf) (za (zm zO (zm (yc hr (by decide) hP hS ⟨_,_,rfl,rfl,rfl,rfl,rfl⟩) (pv 1) zf) (pv 0)) zd))))) (zm zO (pv 1) zf)))) zQ) (zc (yz (zI xc (zm zO (pv 1) zf) zf (kae _)) (zi (zq (xa (za (zm xZ (zm zO (zm (yc hr (by decide) hP hS ⟨_,_,rfl,rfl,rfl,rfl,rfl⟩) (pv 1) zf) zf) zf) (za zf zd))))) zQ) (zi (zq (zt yn hr (za (zm xZ (zm zO (zm (yc hr (by decide) hP hS ⟨_,_,rfl,rfl,rfl,rfl,rfl⟩) (pv 1) zf) zf) zf) (za (zm yy zf (zm zO (zm (yc hr (by decide) hP hS ⟨_,_,rfl,rfl,rfl,rfl,rfl⟩) (pv 1) zf) zf)) zd))))))),?_⟩;have n4:(4:Int)≠0:=by decide
 have n3:(3:Int)≠0:=by decide
 refine⟨_,rfl,_,_,rfl,rfl,_,rfl,?_⟩;refine ite2 (fun ck=>?_) (fun ck=>?_)
 ·have k0:0<k:=of_decide_eq_true ck;have k1:1<k:=by
   rcases hk with h|h
   ·omega
   ·exact h.1
  refine⟨_,rfl,_,_,rfl,rfl,_,rfl,_,_,rfl,rfl,n4,_,rfl,_,_,rfl,rfl,(show k≠0 by omega),(by show 4<=sizeLine;decide),fun p hp=>?_⟩;obtain⟨w,ew,w0,w1⟩:=zfT k1 (wy c (show(0:Int)<4 by decide)) (wH c (show(0:Int)<4 by decide)) (wy (c.fdiv 4) k0) (wH (c.fdiv 4) k0);exact⟨_,rfl,_,_,rfl,rfl,n4,p,_,_,_,rfl,rfl,SqL.of zg,ew,q (.z w) _ _ (ze hp _) RN.of_z ⟨by omega,w0,w1⟩⟩
 ·have k0:k=0:=by
   have:¬ 0<k:=of_decide_eq_false (vX.mpr ck);omega
  refine⟨_,rfl,_,_,rfl,rfl,n3,rfl,_,rfl,?_⟩;refine ite2 (fun c3=>?_) (fun c3=>?_)
  ·refine⟨_,rfl,_,_,rfl,rfl,n3,_,_,rfl,rfl,n3,_,_,rfl,rfl,(by show 2<=sizeLine;decide),fun p hp=>?_⟩;exact q (.q ((((c.fdiv 3).fmod 3 - 1:Int)):Rat)) _ _ (ze hp _) (RN.of_q (r:=(((c.fdiv 3).fmod 3 - 1:Int):Rat)) zg) k0
  ·have b0:=wy (c.fdiv 57) (show(0:Int)<4 by decide);exact⟨_,rfl,_,_,rfl,rfl,n3,_,_,rfl,rfl,(by show(19:Int)≠0;decide),_,_,rfl,rfl,_,rfl,_,_,rfl,rfl,(by show(57:Int)≠0;decide),_,_,rfl,rfl,n4,_,_,rfl,rfl,_,_,rfl,(by omega),fun p H' g hp=>q (.q _) _ H' g (RN.of_q hp) k0⟩
def xD:Sp:=fun vs H Q _=>∃(k w:Int),vs=[.int k,.int w]/\kaa k/\∀ v H',Same H H'->RN H' (nnum k w) v->Q v H'
theorem zgm (D:Df K mg "_law_make" qc jO):Kn P w K mg base "_law_make" 1 qc xD:=by
 refine D.kn QH (fun vs H Q E h=>?_) (fun f cdv A outer s H vs Q E hr h=>?_)
 ·obtain⟨k,w,rfl,_⟩:=h;rfl
 obtain⟨k,x,rfl,hk,q⟩:=h;have kl:=hk.lt;refine⟨_,(zc (yz (zI xc (pv 0) zf (kae _)) (zi (zq (xa (za (pv 1) (za zf zd))))) zQ) (zi (zq (zm zO (pv 1) (pv 0))))),?_⟩;refine⟨_,rfl,rfl,_,rfl,?_⟩;refine ite2 (fun c=>?_) (fun c=>?_)
 ·have k0:k=0:=V.int.inj (of_decide_eq_true c);subst k0;exact⟨_,rfl,(by show 2<=sizeLine;decide),fun p hp=>q _ _ (ze hp _) (RN.of_q (r:=(x:Rat)) zg)⟩
 ·have k0:k≠0:=fun e=>c (by show decide (V.int k=V.int 0)=true;rw[e];decide)
  refine⟨_,rfl,_,rfl,_,_,rfl,rfl,k0,q _ _ (Same.refl H) ?_⟩;unfold nnum;rw[if_neg k0];exact RN.of_z
theorem zgK (D:Df K mg "_law_plus" qe jS) (yn:Kn P w K mg base "_law_fraction" 41 SX qi):Kn P w K mg base "_law_plus" 42 qe (xV nadd):=by
 refine D.kn zas (fun vs H Q E h=>?_) (fun f cdv A outer s H vs Q E hr h=>?_)
 ·obtain⟨k,x,y,a,b,rfl,_⟩:=h;rfl
 obtain⟨k,x,y,a,b,rfl,T,q⟩:=h;have kl:=T.kd.lt;refine⟨_,(zc (yz (zI xc (pv 0) zf (kae _)) (zi (zq (zt yn hr (za (zm yy (zm zW (zD zG (pv 1) zf) (zD zG (pv 2) zf)) (zm zW (zD zG (pv 2) zf) (zD zG (pv 1) zf))) (za (zm zW (zD zG (pv 1) zf) (zD zG (pv 2) zf)) zd))))) zQ) (zi (zq (zm zO (zm yy (pv 1) (pv 2)) (pv 0))))),?_⟩
 rcases Zv T with⟨rfl,r,s,pa,pb,rfl,rfl,rfl,rfl,ha,hb,rn,rd,sn,sd⟩|⟨k0,hp,i,j,rfl,rfl,rfl,rfl,i0,ik,j0,jk⟩
 ·refine⟨_,rfl,rfl,_,rfl,iteT ?_⟩;refine⟨_,rfl,pa,_,_,_,rfl,rfl,SqT.of ha,rfl,_,rfl,pb,_,_,_,rfl,rfl,SqT.of hb,rfl,_,_,rfl,rfl,xE rn sd,_,rfl,pb,_,_,_,rfl,rfl,SqT.of hb,rfl,_,rfl,pa,_,_,_,rfl,rfl,SqT.of ha,rfl,_,_,rfl,rfl,xE sn rd,_,_,rfl,rfl,_,rfl,pa,_,_,_,rfl,rfl,SqT.of ha,rfl,_,rfl,pb,_,_,_,rfl,rfl,SqT.of hb,rfl,_,_,rfl,rfl,xE rd sd,_,_,rfl,Gv (den_pos r) (den_pos s),fun p H' g h=>?_⟩;rw[zdI]at h;exact q _ H' g (RN.of_q h)
 ·refine⟨_,rfl,rfl,_,rfl,?_⟩;rw[decide_eq_false (fun e=>k0 (V.int.inj e))];refine iteF ?_;refine⟨_,rfl,_,rfl,_,_,rfl,rfl,_,rfl,_,_,rfl,rfl,k0,?_⟩;exact q _ _ (Same.refl H) RN.of_z
theorem zeS (D:Df K mg "_law_times" qe jp) (yn:Kn P w K mg base "_law_fraction" 41 SX qi):Kn P w K mg base "_law_times" 42 qe (xV nmul):=by
 refine D.kn Qo (fun vs H Q E h=>?_) (fun f cdv A outer s H vs Q E hr h=>?_)
 ·obtain⟨k,x,y,a,b,rfl,_⟩:=h;rfl
 obtain⟨k,x,y,a,b,rfl,T,q⟩:=h;have kl:=T.kd.lt;refine⟨_,(zc (yz (zI xc (pv 0) zf (kae _)) (zi (zq (zt yn hr (za (zm zW (zD zG (pv 1) zf) (zD zG (pv 2) zf)) (za (zm zW (zD zG (pv 1) zf) (zD zG (pv 2) zf)) zd))))) zQ) (zi (zq (zm zO (zm zW (pv 1) (pv 2)) (pv 0))))),?_⟩
 rcases Zv T with⟨rfl,r,s,pa,pb,rfl,rfl,rfl,rfl,ha,hb,rn,rd,sn,sd⟩|⟨k0,hp,i,j,rfl,rfl,rfl,rfl,i0,ik,j0,jk⟩
 ·refine⟨_,rfl,rfl,_,rfl,iteT ?_⟩;refine⟨_,rfl,pa,_,_,_,rfl,rfl,SqT.of ha,rfl,_,rfl,pb,_,_,_,rfl,rfl,SqT.of hb,rfl,_,_,rfl,rfl,xE rn sn,_,rfl,pa,_,_,_,rfl,rfl,SqT.of ha,rfl,_,rfl,pb,_,_,_,rfl,rfl,SqT.of hb,rfl,_,_,rfl,rfl,xE rd sd,_,_,rfl,Gv (den_pos r) (den_pos s),fun p H' g h=>?_⟩;rw[za8]at h;exact q _ H' g (RN.of_q h)
 ·refine⟨_,rfl,rfl,_,rfl,?_⟩;rw[decide_eq_false (fun e=>k0 (V.int.inj e))];refine iteF ?_;refine⟨_,rfl,_,rfl,_,_,rfl,rfl,yX i0 (by have:=hp.hi;omega),_,rfl,_,_,rfl,rfl,k0,?_⟩;exact q _ _ (Same.refl H) RN.of_z
theorem zi6{k:Int}(hk:kaa k){x y:Nb}(ox:x.ok k)(oy:y.ok k):nadd k x (nmul k (nnum k (-1)) y)=nsub k x y:=by
 obtain⟨F,_,_,⟨φ⟩⟩:=La.yi hk;have o1:=La.zL hk (-1);have om:=La.yB hk o1 oy;refine φ.inj (La.yG hk ox om) (YV (by have:=hk.lt;omega) ox oy) ?_;rw[φ.add ox om,φ.mul o1 oy,φ.sub ox oy,φ.num];have:(La.ι (-1):F) = -1:=by
  have h1:(La.ι (-1):F)+La.ι 1=0:=by rw[← La.ι_add];exact La.ι_zero
  rw[La.ι_one]at h1
  grind
 rw[this]
 grind
def Zr:Sp:=fun vs H Q _=>∃(k:Int)(x y:Nb)(a b:V),vs=[.int k,a,b]/\kaa k/\x.ok k/\y.ok k/\nsm 30000000 x/\nsm 30000000 y/\RN H x a/\RN H y b/\∀ v H',Same H H'->RN H' (nsub k x y) v->Q v H'
theorem zdY (D:Df K mg "_law_minus" qe jq) (zU:Kn P w K mg base "_law_make" 1 qc xD) (yp:Kn P w K mg base "_law_plus" 42 qe (xV nadd)) (yg:Kn P w K mg base "_law_times" 42 qe (xV nmul)):Kn P w K mg base "_law_minus" 43 qe Zr:=by
 refine D.kn Qt (fun vs H Q E h=>?_) (fun f cdv A outer s H vs Q E hr h=>?_)
 ·obtain⟨k,x,y,a,b,rfl,_⟩:=h;rfl
 obtain⟨k,x,y,a,b,rfl,hk,ox,oy,sx,sy,rx,ry,q⟩:=h;refine⟨_,(zi (zq (zt yp hr (za (pv 0) (za (pv 1) (za (zt yg hr (za (pv 0) (za (zt zU hr (za (pv 0) (za (zfP zb4 zf) zd))) (za (pv 2) zd)))) zd)))))),?_⟩;have o1:=La.zL hk (-1);have s1:nsm 30000000 (nnum k (-1)):=yI hk (sm_one.neg.mono (by decide)) (by decide);refine⟨_,rfl,_,rfl,_,rfl,_,rfl,_,rfl,k,-1,rfl,hk,fun v1 H1 g1 r1=>?_⟩;refine⟨_,rfl,k,nnum k (-1),y,_,_,rfl,⟨hk,o1,oy,nsm.mono s1 (by decide),nsm.mono sy (by decide),r1,ry.mono g1⟩,fun v2 H2 g2 r2=>?_⟩;refine⟨k,x,_,_,_,rfl,⟨hk,ox,La.yB hk o1 oy,sx.mono (by decide),(zhW hk o1 oy s1 sy (by decide)).mono (by decide),(rx.mono g1).mono g2,r2⟩,fun v3 H3 g3 r3=>?_⟩;rw[zi6 hk ox oy]at r3;exact q v3 H3 ((g1.trans g2).trans g3) r3
def primesN:List Nat:=[2,3,5,7,11,13,17,19,23,29,31,37,41,43,47,53,59,61,67,71,73,79,83,89,97]
theorem zeb:∀ w∈primesN,primeB w=true/\1<w/\w<99:=by decide
theorem zgn{i:Nat}(h:i<25):∃ k:Int,(([2,3,5,7,11,13,17,19,23,29,31,37,41,43,47,53,59,61,67,71,73,79,83,89,97]:List Int).map V.int)[i]?=some (.int k)/\KindS k:=by
 rw[show(([2,3,5,7,11,13,17,19,23,29,31,37,41,43,47,53,59,61,67,71,73,79,83,89,97]:List Int).map V.int)=primesN.map fun(w:Nat)=>V.int (w:Int)from rfl];have hi:i<primesN.length:=h;refine⟨(primesN[i]:Int),by rw[wk,wc hi];rfl,.inr ?_⟩;obtain⟨h1,h2,h3⟩:=zeb primesN[i] (wm hi);exact⟨by omega,by omega,by rw[wS];exact h1⟩
def zaf:Sp:=fun vs H Q _=>∃(c:Int),vs=[.int c]/\∀ k H',Same H H'->KindS k->(c.fmod 3=0->k=0)->Q (.int k) H'
theorem zfl (hP:P.given.tree=none) (hS:base.NoSeer) (D:Df K mg "_law_prime" ["_law_cell"] yY):Kn P w K mg base "_law_prime" 41 ["_law_cell"] zaf:=by
 refine D.kn sV (fun vs H Q E h=>?_) (fun f cdv A outer s H vs Q E hr h=>?_)
 ·obtain⟨c,rfl,_⟩:=h;rfl
 obtain⟨c,rfl,q⟩:=h;obtain⟨es,pa,pb,pc,hes,e0⟩ : ∃(es:List Expr)(pa pb pc:Pos),IntEs es [2,3,5,7,11,13,17,19,23,29,31,37,41,43,47,53,59,61,67,71,73,79,83,89,97]/\kaq yY=Stmt.Assign (targets:=[Expr.Name "_law_primes" pa]) (value:=Expr.List es pb) (pos:=pc) ::(kaq yY).tail:=⟨_,_,_,_,by repeat constructor,rfl⟩;rw[e0];refine⟨_,(zc (zk (i:=1) sV.nd rfl (.inl rfl) (yl (ziD [2,3,5,7,11,13,17,19,23,29,31,37,41,43,47,53,59,61,67,71,73,79,83,89,97] hes))) (zc (yz (zI xc (zm zO (pv 0) zf) zf (kae _)) (zi (zq zf)) zQ) (zi (zq (zD zo (pv 1) (zD zo (yl (za (zm zO (zm (yc hr (by decide) hP hS ⟨_,_,rfl,rfl,rfl,rfl,rfl⟩) (pv 0) zf) zf) (za (zm zO (zm (yc hr (by decide) hP hS ⟨_,_,rfl,rfl,rfl,rfl,rfl⟩) (pv 0) zf) zf) zd))) (zm xZ (zm zO (pv 0) zf) zf))))))),?_⟩;have n3:(3:Int)≠0:=by decide
 refine⟨(by show 25<=sizeLine;decide),fun p hp=>?_⟩;have hpp:upd H p (.lst (([2,3,5,7,11,13,17,19,23,29,31,37,41,43,47,53,59,61,67,71,73,79,83,89,97]:List Int).map V.int)) p=some (.lst (([2,3,5,7,11,13,17,19,23,29,31,37,41,43,47,53,59,61,67,71,73,79,83,89,97]:List Int).map V.int)):=zg;have g1:=ze hp (.lst (([2,3,5,7,11,13,17,19,23,29,31,37,41,43,47,53,59,61,67,71,73,79,83,89,97]:List Int).map V.int));generalize upd H p (.lst (([2,3,5,7,11,13,17,19,23,29,31,37,41,43,47,53,59,61,67,71,73,79,83,89,97]:List Int).map V.int))=H1 at *;refine⟨_,rfl,_,_,rfl,rfl,n3,rfl,_,rfl,?_⟩;refine ite2 (fun cc=>?_) (fun cc=>?_)
 ·exact q 0 _ g1 (.inl rfl) (fun _=>rfl)
 ·have c3:c.fmod 3≠0:=fun e=>cc (by show decide (V.int (c.fmod 3)=V.int 0)=true;rw[e];decide)
  have f0:=wy c (show(0:Int)<3 by decide);have f1:=wH c (show(0:Int)<3 by decide);have a0:=wy (c.fdiv 3) (show(0:Int)<4 by decide);have a1:=wH (c.fdiv 3) (show(0:Int)<4 by decide);have b0:=wy (c.fdiv 3) (show(0:Int)<25 by decide);have b1:=wH (c.fdiv 3) (show(0:Int)<25 by decide);refine⟨_,rfl,_,rfl,_,_,rfl,rfl,n3,_,_,rfl,rfl,(by show(4:Int)≠0;decide),_,rfl,_,_,rfl,rfl,n3,_,_,rfl,rfl,(by show(25:Int)≠0;decide),(by show 2<=sizeLine;decide),fun p2 hp2=>?_⟩;have g2:=ze hp2 (.lst [V.int ((c.fdiv 3).fmod 4),V.int ((c.fdiv 3).fmod 25)]);obtain⟨i,ei,hi⟩ : ∃ i:Nat,atI [V.int ((c.fdiv 3).fmod 4),V.int ((c.fdiv 3).fmod 25)] (c.fmod 3 - 1)=some (.int (i:Int))/\i<25:=by
   rcases (show c.fmod 3=1\/c.fmod 3=2 by omega)with e|e
   ·refine⟨((c.fdiv 3).fmod 4).toNat,?_,by omega⟩;rw[e,show((((c.fdiv 3).fmod 4).toNat:Nat):Int) =(c.fdiv 3).fmod 4 by omega]
    rfl
   ·refine⟨((c.fdiv 3).fmod 25).toNat,?_,by omega⟩;rw[e,show((((c.fdiv 3).fmod 25).toNat:Nat):Int) =(c.fdiv 3).fmod 25 by omega]
    rfl
  obtain⟨k,ek,hk⟩:=zgn hi;exact⟨_,rfl,_,_,rfl,rfl,n3,_,_,rfl,rfl,p2,_,_,_,rfl,rfl,SqL.of zg,ei,p,_,_,_,rfl,rfl,SqL.of (g2 _ _ hpp),zH ek,q k _ (g1.trans g2) hk (fun e=>absurd e c3)⟩
def zhz:Sp:=fun vs H Q _=>∃(k:Int)(pc:Addr)(cs:List Int)(i:Nat)(iI:Int),vs=[.int k,.ref pc,.int iI]/\iI =(i:Int)/\kaa k/\H pc=some (.lst (cs.map V.int))/\cs≠[]/\∀ x v H',Same H H'->RN H' x v->x.ok k->Q v H'
theorem ziU (D:Df K mg "_law_at" qf Zl) (Yn:Kn P w K mg base "_law_drawn" 42 SZ zai) (qt:Kn P w K mg base "_law_mixed" 41 SY Qb) (m_len:mg "len" = none):Kn P w K mg base "_law_at" 43 qf zhz:=by
 refine D.kn zcW (fun vs H Q E h=>?_) (fun f cdv A outer s H vs Q E hr h=>?_)
 ·obtain⟨k,pc,cs,i,iI,rfl,_⟩:=h;rfl
 obtain⟨k,pc,cs,i,iI,rfl,rfl,hk,hc,ne,q⟩:=h;refine⟨_,(zc (yz (zI zaD (pv 2) (zw zA rfl m_len yb (za (pv 1) zd)) (kae _)) (zi (zq (zt Yn hr (za (pv 0) (za (zD zo (pv 1) (pv 2)) zd))))) zQ) (zi (zq (zt Yn hr (za (pv 0) (za (zt qt hr (za (zm yy (zD zo (pv 1) zf) (pv 2)) (za (zm zO (pv 2) zf) zd))) zd)))))),?_⟩;refine⟨_,rfl,_,rfl,pc,_,rfl,.inl (SqL.of hc),_,_,rfl,rfl,_,rfl,?_⟩;refine ite2 (fun cc=>?_) (fun cc=>?_)
 ·have c':(i:Int) <(((cs.map V.int).length:Nat):Int):=of_decide_eq_true cc;rw[wa]at c';have e:(cs.map V.int)[i]?=some (.int cs[i]):=by rw[wk,wc (by omega)];rfl
  exact⟨_,rfl,_,rfl,_,rfl,pc,_,_,_,rfl,rfl,SqL.of hc,zH e,k,_,rfl,hk,q⟩
 ·obtain⟨c0,cs',rfl⟩:=uL ne;have f0:=wy (i:Int) (show(0:Int)<30 by decide);have f1:=wH (i:Int) (show(0:Int)<30 by decide);exact⟨_,rfl,_,rfl,pc,_,_,_,rfl,rfl,SqL.of hc,zH (j:=0) rfl,_,rfl,_,_,rfl,rfl,_,rfl,_,_,rfl,rfl,(by show(30:Int)≠0;decide),_,_,rfl,(by omega),(by omega),fun m _ _=>⟨k,m,rfl,hk,q⟩⟩
def YR:Sp:=fun vs H Q _=>∃(k:Int)(pc:Addr)(cs:List Int)(i:Nat)(iI:Int),vs=[.int k,.ref pc,.int iI]/\iI =(i:Int)/\kaa k/\H pc=some (.lst (cs.map V.int))/\cs≠[]/\∀ x v H',Same H H'->RN H' x v->x.ok k->whk k 2 x->Q v H'
theorem zfp (D:Df K mg "_law_small" qf jw) (zeh:Kn P w K mg base "_law_at" 43 qf zhz):Kn P w K mg base "_law_small" 44 qf YR:=by
 refine D.kn sO (fun vs H Q E h=>?_) (fun f cdv A outer s H vs Q E hr h=>?_)
 ·obtain⟨k,pc,cs,i,iI,rfl,_⟩:=h;rfl
 obtain⟨k,pc,cs,i,iI,rfl,rfl,hk,hc,ne,q⟩:=h;refine⟨_,(zc (zk (i:=3) sO.nd rfl (.inl rfl) (zt zeh hr (za (pv 0) (za (pv 1) (za (pv 2) zd))))) (zc (yz (zI xc (pv 0) zf (kae _)) (zi (zq (xa (za (zm xZ (zm zO (zD zG (pv 3) zf) zf) zf) (za zf zd))))) zQ) (zi (zq (pv 3))))),?_⟩;refine⟨_,rfl,_,rfl,_,rfl,k,pc,cs,i,_,rfl,rfl,hk,hc,ne,fun x v H1 g1 rx ox=>?_⟩;refine⟨_,rfl,rfl,_,rfl,?_⟩;refine ite2 (fun cc=>?_) (fun cc=>?_)
 ·have k0:k=0:=V.int.inj (of_decide_eq_true cc);subst k0;cases x with
  | z j=>exact absurd rfl ox.1
  | q r =>
   obtain⟨p,rfl,hp⟩:=rx.q;have f0:=wy r.num (show(0:Int)<5 by decide);have f1:=wH r.num (show(0:Int)<5 by decide);refine⟨_,rfl,p,_,_,_,rfl,rfl,SqT.of hp,rfl,_,_,rfl,rfl,(by show(5:Int)≠0;decide),_,_,rfl,rfl,(by show 2<=sizeLine;decide),fun p2 hp2=>?_⟩;refine q (.q ((r.num.fmod 5 - 2:Int):Rat)) _ _ (g1.trans (ze hp2 _)) (RN.of_q (r:=((r.num.fmod 5 - 2:Int):Rat)) zg) rfl fun _=>⟨r.num.fmod 5 - 2,rfl,?_⟩
   have:(2:Nat)^2=4:=by decide
   omega
 ·have k0:k≠0:=fun e=>cc (by show decide (V.int k=V.int 0)=true;rw[e];decide)
  exact⟨_,rfl,q x v H1 g1 rx ox fun e=>absurd e k0⟩
def zaC:Sp:=fun vs H Q _=>∃(h:Int)(n:Nat)(b:Bool),vs=[.int h,.int (n:Int),.bl b]/\n<=60/\∀(ss:List Int)(l:Addr)(H':Hp),Same H H'->H' l=some (.lst (ss.map V.int))->ss.length=n->Q (.ref l) H'
theorem zd4 (D:Df K mg "_law_sorts" qm jm) (qt:Kn P w K mg base "_law_mixed" 41 SY Qb) (zy:mg "range" = none) (JQ:mg "sorted" = none):Kn P w K mg base "_law_sorts" 42 qm zaC:=by
 refine D.kn JT (fun vs H Q E h=>?_) (fun f cdv A outer s H vs Q E hr h=>?_)
 ·obtain⟨h,n,b,rfl,_⟩:=h;rfl
 obtain⟨h,n,b,rfl,n60,q⟩:=h;have szl:=dh
 refine⟨_,(zc (yz (zaO (pv 2)) (zi (zq (yV [] [] (zR rfl zy (za (pv 1) zd)) fun _ _ _ _ _ _=>⟨zJ,zf⟩))) zQ) (zi (zq (zw zaQ rfl JQ zfm (za (yV ["_law_head"] [0] (zR rfl zy (za (pv 1) zd)) fun _ _ _ _ _ _=>⟨zJ,(zm zO (zt qt hr (za (pv 1) (za (zm yy zf (pv 0)) zd))) zf)⟩) zd))))),?_⟩;refine⟨_,rfl,_,rfl,?_⟩;refine ite2 (fun cc=>?_) (fun cc=>?_)
 ·refine⟨_,rfl,n,rfl,(by omega),(by omega),?_⟩;rw[wS];refine yt (lo:=0) (n:=n) (fun i ys H'=>H'=H/\ys =(wx i (1:Int)).map V.int) ⟨rfl,rfl⟩ ?_ ?_ ?_
  ·rintro i ys H' hi ⟨rfl,rfl⟩
   rw[wa,wL];omega
  ·rintro i ys H' hi ⟨rfl,rfl⟩
   first|refine gyes ?_|refine tyes ?_
   refine nxt hi ⟨rfl,?_⟩;rw[ur,wv];rfl
  ·rintro ys H' ⟨rfl,rfl⟩ p hp
   exact q _ p _ (ze hp _) zg (by rw[wL])
 ·refine⟨_,rfl,n,rfl,(by omega),(by omega),?_⟩;rw[wS];refine yt (lo:=0) (n:=n) (fun i ys H'=>H'=H/\∃ ss:List Int,ys=ss.map V.int/\ss.length=i) ⟨rfl,[],rfl,rfl⟩ ?_ ?_ ?_
  ·rintro i ys H' hi ⟨rfl,ss,rfl,l⟩
   rw[wa];omega
  ·rintro i ys H' hi ⟨rfl,ss,rfl,l⟩
   first|refine gyes ?_|refine tyes ?_
   refine⟨_,rfl,_,rfl,_,_,rfl,rfl,_,_,rfl,(by omega),(by omega),fun m _ _=>⟨_,_,rfl,rfl,(by show(4:Int)≠0;decide),nxt hi ⟨rfl,ss++[m.fmod 4],?_,by rw[wD,l];rfl⟩⟩⟩;rw[wv];rfl
  ·rintro ys H' ⟨rfl,ss,rfl,l⟩ p hp
   refine⟨p,ss,rfl,SqL.of zg,(by omega),fun l2 ss' hl2 pm _=>?_⟩;exact q ss' l2 _ ((ze hp _).trans (ze hl2 _)) zg (by rw[pm.length_eq,l])
def zce:Sp:=fun vs H Q _=>∃(a b:Int),vs=[.int a,.int b]/\∀ c,Q (.bl c) H
theorem zf4 (D:Df K mg "_law_lets" qM jP):Kn P w K mg base "_law_lets" 1 qM zce:=by
 refine D.kn QZ (fun vs H Q E h=>?_) (fun f cdv A outer s H vs Q E hr h=>?_)
 ·obtain⟨a,b,rfl,_⟩:=h;rfl
 obtain⟨a,b,rfl,q⟩:=h;refine⟨_,(zc (yz (zI xc (pv 0) zf (kae _)) (zi (zq (zjt (ja xc (pv 1) zf (kae _)) (zho (ja xc (pv 1) zf (kae _)))))) zQ) (zc (yz (zI xc (pv 0) zf (kae _)) (zi (zq (ja ZY (pv 1) zf (kae _)))) zQ) (zi (zq (zjt (ja xc (pv 0) zf (kae _)) (zho (ja xc (pv 1) zf (kae _)))))))),?_⟩;refine⟨_,rfl,rfl,_,rfl,?_⟩;refine ite2 (fun c1=>?_) (fun c1=>?_)
 ·refine⟨_,rfl,rfl,_,rfl,?_⟩;refine ite2 (fun c2=>?_) (fun c2=>?_)
  ·exact q _
  ·exact⟨_,rfl,rfl,q _⟩
 ·refine⟨_,rfl,rfl,_,rfl,?_⟩;refine ite2 (fun c2=>?_) (fun c2=>?_)
  ·exact⟨_,rfl,_,_,rfl,rfl,q _⟩
  ·refine⟨_,rfl,rfl,_,rfl,?_⟩;refine ite2 (fun c3=>?_) (fun c3=>?_)
   ·exact q _
   ·exact⟨_,rfl,rfl,q _⟩
theorem zao{K:PySem.W.Frag}{a:Addr}{xs:List V}{g:TG}{tb:TS}{D:Ends}{σ:L2.St}{H:Hp}(Pv:Nat->L2.St->Hp->Prop)(h0:Pv 0 σ H)(hl:∀ i σ H,i<=xs.length->Pv i σ H->SqL K H a xs)
  (hs:∀(N B:L2.St->Hp->Prop)(i:Nat)(x:V)(σ:L2.St)(H:Hp),(∀ σ' H',Pv (i+1) σ' H'->N σ' H')->xs[i]?=some x->Pv i σ H->g x σ H fun σ2 H2=>tb { D with nx:=N,ct:=N,bk:=B } σ2 H2) (hd:∀ σ H,Pv xs.length σ H->D.nx σ H) :
  ∃ W:Nat->Nat->L2.St->Hp->Prop,(∃ m,W 0 m σ H)/\∀ i m σ H,W i m σ H ->
   ((Itl K a).stop i H/\D.nx σ H)\/((Itl K a).go i H/\∃ N:L2.St->Hp->Prop,(∀ σ' H',N σ' H'->∃ m',m'<m/\W (i+1) m' σ' H')/\∀ x H',(Itl K a).yld i H x H'->g x σ H' fun σ2 H2=>tb { D with nx:=N,ct:=N,bk:=D.nx } σ2 H2) :=
 xN Pv h0 hl (fun i x σ H hx p=>hs (Pv (i+1)) D.nx i x σ H (fun _ _ h=>h) hx p) hd
theorem ZO{lo:Int}{n:Nat}{g:TG}{tb:TS}{D:Ends}{σ:L2.St}{H:Hp}(Pv:Nat->L2.St->Hp->Prop)(h0:Pv 0 σ H)
  (hs:∀(N B:L2.St->Hp->Prop)(i:Nat)(σ:L2.St)(H:Hp),(∀ σ' H',Pv (i+1) σ' H'->N σ' H')->i<n->Pv i σ H->g (.int (lo+i)) σ H fun σ2 H2=>tb { D with nx:=N,ct:=N,bk:=B } σ2 H2) (hd:∀ σ H,Pv n σ H->D.nx σ H) :
  ∃ W:Nat->Nat->L2.St->Hp->Prop,(∃ m,W 0 m σ H)/\∀ i m σ H,W i m σ H ->
   ((Itr lo n).stop i H/\D.nx σ H)\/((Itr lo n).go i H/\∃ N:L2.St->Hp->Prop,(∀ σ' H',N σ' H'->∃ m',m'<m/\W (i+1) m' σ' H')/\∀ x H',(Itr lo n).yld i H x H'->g x σ H' fun σ2 H2=>tb { D with nx:=N,ct:=N,bk:=D.nx } σ2 H2) :=
 yw Pv h0 (fun i σ H hi p=>hs (Pv (i+1)) D.nx i σ H (fun _ _ h=>h) hi p) hd
def Xl:Sp:=fun vs H Q _=>∃(k:Int)(pc pz ps:Addr)(cs ss:List Int)(n m q:Nat),vs=[.int k,.ref pc,.ref pz,.ref ps]/\kaa k/\H pc=some (.lst (cs.map V.int))/\cs≠[]/\H pz=some (.tup [.int (n:Int),.int (m:Int),.int (q:Int)])/\H ps=some (.lst (ss.map V.int))/\ss.length=n/\n<=10/\m<=10/\q<=10 /\
 ∀(A B C:TB)(pt pr:Addr)(ts:List Addr)(rs:List (List Addr))(at':Nat)(H':Hp),kai H H' [A,B,C] ts rs->TW k n n 2 A->TW k n m 2 B->TW k q n 2 C->H' pt=some (.lst (ts.map V.ref))->H pt=none->pt∉ts->(∀ ras∈rs,pt∉ras)->H' pr=some (.tup [.ref pt,.int (at':Int)])->Q (.ref pr) H'
def dimR(n m q j:Nat):Nat:=if j=2 then q else n
def dimC(n m q j:Nat):Nat:=if j=1 then m else n
theorem zbm (D:Df K mg "_law_blocked" qW xA) (zU:Kn P w K mg base "_law_make" 1 qc xD) (qq:Kn P w K mg base "_law_small" 44 qf YR) (zbq:Kn P w K mg base "_law_lets" 1 qM zce) (zy:mg "range" = none):Kn P w K mg base "_law_blocked" 45 qW Xl:=by
 refine D.kn sG (fun vs H Q E h=>?_) (fun f cdv A' outer s' H vs Q E hr h=>?_)
 ·obtain⟨k,pc,pz,ps,cs,ss,n,m,q,rfl,_⟩:=h;rfl
 obtain⟨k,pc,pz,ps,cs,ss,n,m,qn,rfl,hk,hc,ne,hz,hs,ls,n10,m10,q10,q⟩:=h;have szl:=dh
 refine⟨_,(zc (qg (pv 2) (xv 3 rfl (zP (zC (i:=4) sG.nd rfl (.inl rfl)) (zP (zC (i:=5) sG.nd rfl (.inl rfl)) (zP (zC (i:=6) sG.nd rfl (.inl rfl)) yW))))) (zc (zk (i:=7) sG.nd rfl (.inr rfl) (zt zU hr (za (pv 0) (za zf zd)))) (zc (zk (i:=8) sG.nd rfl (.inl rfl) (yl zd)) (zc (zk (i:=9) sG.nd rfl (.inr rfl) zf) (zc (yE PassesOwn.never rfl (zE (yl (za (xa (za (pv 4) (za (pv 4) zd))) (za (xa (za (pv 4) (za (pv 5) zd))) (za (xa (za (pv 6) (za (pv 4) zd))) zd))))) (xv 2 rfl (zP (zC (i:=10) sG.nd rfl (.inl rfl)) (zP (zC (i:=11) sG.nd rfl (.inr rfl)) yW))) (zc (zk (i:=12) sG.nd rfl (.inl rfl) (yl zd)) (zc (yE PassesOwn.never rfl (zR rfl zy (za (pv 10) zd)) (zC (i:=13) sG.nd rfl (.inr rfl)) (zi (yU (bm0 (fun _ h=>Zy PySem.F.plainAttrs_list PySem.F.slot_list_append PySem.F.type_list_append yK h (za (yV ["_law_prime_here", "_law_cells", "_law_at_here", "_law_i", "_law_columns"] [0,1,9,13,11] (zR rfl zy (za (pv 11) zd)) fun _ _ _ _ _ _=>⟨zJ,(zt qq hr (za (pv 1) (za (pv 2) (za (zm yy (zm yy (pv 3) (zm zW (pv 4) (pv 5))) (pv 0)) zd))))⟩) zd)) (pv 12))))) (zc (yU (bm0 (fun _ h=>Zy PySem.F.plainAttrs_list PySem.F.slot_list_append PySem.F.type_list_append yK h (za (pv 12) zd)) (pv 8))) (zi (zk (i:=9) sG.nd rfl (.inr rfl) (zm yy (pv 9) (zm zW (pv 10) (pv 11))))))))) (zc (yE PassesOwn.never rfl (zR rfl zy (za (pv 4) zd)) (zC (i:=13) sG.nd rfl (.inr rfl)) (zc (yE PassesOwn.never rfl (zR rfl zy (za (pv 4) zd)) (zC (i:=14) sG.nd rfl (.inl rfl)) (zi (yz (zha (zaO (zt zbq hr (za (zD zo (pv 3) (pv 13)) (za (zD zo (pv 3) (pv 14)) zd))))) (zi (qg (pv 7) (Xm (zD zo (zD zo (pv 8) zf) (pv 13)) (pv 14) qd))) zQ))) (zc (yz (zI ZY (zD zo (pv 3) (pv 13)) zf (kae _)) (zi (qg (yV ["_law_nought"] [7] (zR rfl zy (za (pv 5) zd)) fun _ _ _ _ _ _=>⟨zJ,(pv 1)⟩) (Xm (zD zo (pv 8) zf) (pv 13) qd))) zQ) (zi (yz (zI xc (zm zO (zD zo (pv 3) (pv 13)) zf) zf (kae _)) (zi (yE PassesOwn.never rfl (zE (zD zo (pv 8) zf)) (zC (i:=15) sG.nd rfl (.inl rfl)) (zi (qg (pv 7) (Xm (pv 15) (pv 13) qd))))) zQ))))) (zi (zq (xa (za (pv 8) (za (pv 9) zd))))))))))),?_⟩;refine⟨_,rfl,pz,_,rfl,SqT.of hz,rfl,_,_,rfl,_,_,rfl,_,_,rfl,rfl,?_⟩;refine⟨_,rfl,k,0,rfl,hk,fun v0 H1 g1 r1=>?_⟩;refine⟨(by show 0<=sizeLine;decide),fun pt hpt=>?_⟩;have ptH:H pt=none:=g1.none hpt;have g2:=ze hpt (.lst []);have hpt2:upd H1 pt (.lst []) pt=some (.lst []):=zg;have r2:=r1.mono g2;have gH2:=g1.trans g2;generalize upd H1 pt (.lst [])=H2 at *;clear hpt r1;refine⟨_,rfl,_,rfl,(by show 2<=sizeLine;decide),fun q1 hq1=>?_⟩;have g3:=ze hq1 (.tup [.int (n:Int),.int (n:Int)]);have e1:upd H2 q1 (.tup [.int (n:Int),.int (n:Int)]) q1=some (.tup [.int (n:Int),.int (n:Int)]):=zg;generalize upd H2 q1 (.tup [.int (n:Int),.int (n:Int)])=H3 at *;refine⟨_,rfl,_,rfl,(by show 2<=sizeLine;decide),fun q2 hq2=>?_⟩;have g4:=ze hq2 (.tup [.int (n:Int),.int (m:Int)]);have e2:upd H3 q2 (.tup [.int (n:Int),.int (m:Int)]) q2=some (.tup [.int (n:Int),.int (m:Int)]):=zg;generalize upd H3 q2 (.tup [.int (n:Int),.int (m:Int)])=H4 at *;refine⟨_,rfl,_,rfl,(by show 2<=sizeLine;decide),fun q3 hq3=>?_⟩;have g5:=ze hq3 (.tup [.int (qn:Int),.int (n:Int)]);have e3:upd H4 q3 (.tup [.int (qn:Int),.int (n:Int)]) q3=some (.tup [.int (qn:Int),.int (n:Int)]):=zg;generalize upd H4 q3 (.tup [.int (qn:Int),.int (n:Int)])=H5 at *;refine⟨(by show 3<=sizeLine;decide),fun pl hpl=>?_⟩;have g6:=ze hpl (.lst [.ref q1,.ref q2,.ref q3]);have e4:upd H5 pl (.lst [.ref q1,.ref q2,.ref q3]) pl=some (.lst [.ref q1,.ref q2,.ref q3]):=zg;generalize upd H5 pl (.lst [.ref q1,.ref q2,.ref q3])=H6 at *;have hpt6:=g6 _ _ (g5 _ _ (g4 _ _ (g3 _ _ hpt2)));have npl:pl≠pt:=fun e=>by rw[e,g5 _ _ (g4 _ _ (g3 _ _ hpt2))]at hpl;cases hpl
 have nq1:q1≠pt:=fun e=>by rw[e,hpt2]at hq1;cases hq1
 have nq2:q2≠pt:=fun e=>by rw[e,g3 _ _ hpt2]at hq2;cases hq2
 have nq3:q3≠pt:=fun e=>by rw[e,g4 _ _ (g3 _ _ hpt2)]at hq3;cases hq3
 have gH6:=(((gH2.trans g3).trans g4).trans g5).trans g6;have r6:=(((r2.mono g3).mono g4).mono g5).mono g6;have f1:=g6 _ _ (g5 _ _ (g4 _ _ e1));have f2:=g6 _ _ (g5 _ _ e2);have f3:=g6 _ _ e3;clear g1 g2 g3 g4 g5 g6 hq1 hq2 hq3 hpl e1 e2 e3 hpt2 gH2 r2;refine⟨pl,rfl,⟨_,SqL.of e4⟩,?_⟩;refine zao (xs:=[.ref q1,.ref q2,.ref q3]) (fun i σ H'=>∃ Ms ts rs,∃ at':Nat,∃ o10 o11 o12 o13 o14 o15,σ=[some (.int k),some (.ref pc),some (.ref pz),some (.ref ps),some (.int (n:Int)),some (.int (m:Int)),some (.int (qn:Int)),some v0,some (.ref pt),some (.int (at':Int)),o10,o11,o12,o13,o14,o15]/\kai H H' Ms ts rs/\Ms.length=i/\(∀ j M,Ms[j]?=some M->TW k (dimR n m qn j) (dimC n m qn j) 2 M)/\H' pt=some (.lst (ts.map V.ref))/\pt∉ts/\(∀ ras∈rs,pt∉ras)/\RN H' (nnum k 0) v0/\H' pl=some (.lst [.ref q1,.ref q2,.ref q3])/\H' q1=some (.tup [.int (n:Int),.int (n:Int)])/\H' q2=some (.tup [.int (n:Int),.int (m:Int)])/\H' q3=some (.tup [.int (qn:Int),.int (n:Int)]))
  ⟨[],[],[],1,none,none,none,none,none,none,rfl,kai.nil gH6,rfl,fun j M h=>by simp at h,hpt6,by simp,fun ras hr=>(nomatch hr),r6,e4,f1,f2,f3⟩ ?_ ?_ ?_
 ·rintro i σ H' _ ⟨Ms,ts,rs,at',o10,o11,o12,o13,o14,o15,rfl,G,lM,dM,hpt,nt,nr,r0,hl,_⟩
  exact SqL.of hl
 ·intro N1 B1 i v σ H7 hN1 hv
  rintro ⟨Ms,ts,rs,at',o10,o11,o12,o13,o14,o15,rfl,G,lM,dM,hpt7,nt,nr,r0,hl,h1,h2,h3⟩
  obtain⟨qa,rows,cols,rfl,hqa,er,ec,rb,cb⟩ : ∃ qa rows cols,v=.ref qa/\H7 qa=some (.tup [.int ((rows:Nat):Int),.int ((cols:Nat):Int)])/\rows=dimR n m qn i/\cols=dimC n m qn i/\rows<=10/\cols<=10:=by
   match i,hv with
   | 0,hv=>cases hv;exact⟨q1,n,n,rfl,h1,rfl,rfl,n10,n10⟩
   | 1,hv=>cases hv;exact⟨q2,n,m,rfl,h2,rfl,rfl,n10,m10⟩
   | 2,hv=>cases hv;exact⟨q3,qn,n,rfl,h3,rfl,rfl,q10,n10⟩
  refine⟨qa,_,rfl,SqT.of hqa,rfl,_,_,rfl,_,_,rfl,rfl,?_⟩;refine⟨(by show 0<=sizeLine;decide),fun pto hpto=>?_⟩;have hc7:=G.same _ _ hc;refine⟨_,rfl,rows,rfl,(by omega),(by omega),?_⟩;rw[wS];refine ZO (lo:=0) (n:=rows) (fun j σ H'=>∃ M ras o13 o14 o15,σ=[some (.int k),some (.ref pc),some (.ref pz),some (.ref ps),some (.int (n:Int)),some (.int (m:Int)),some (.int (qn:Int)),some v0,some (.ref pt),some (.int (at':Int)),some (.int (rows:Int)),some (.int (cols:Int)),some (.ref pto),o13,o14,o15]/\Grow H7 H' M ras/\H' pto=some (.lst (ras.map V.ref))/\pto∉ras/\M.length=j/\La.OkM k cols M/\(∀ r∈M,∀ x∈r,whk k 2 x)) ⟨[],[],_,_,_,rfl,Grow.nil H7 (ze hpto _),zg,by simp,rfl,fun r hr=>(nomatch hr),fun r hr=>(nomatch hr)⟩ ?_ ?_
  ·intro N2 B2 j σ H8 hN2 hj
   rintro ⟨M,ras,o13,o14,o15,rfl,G8,hpt8,npt8,l8,o8,s8⟩
   refine⟨_,rfl,.inl ⟨rfl,_,SqL.of hpt8⟩,_,rfl,cols,rfl,(by omega),(by omega),?_⟩;rw[wS];have ci0:0<=(0 +(j:Int)) *(cols:Int):=Int.mul_nonneg (by omega) (by omega);refine yt (lo:=0) (n:=cols) (fun l ys' H9=>∃ xs,Same H8 H9/\Paired (RN H9) xs ys'/\xs.length=l/\La.OkR k xs/\∀ x∈xs,whk k 2 x) ⟨[],Same.refl _,.nil,rfl,fun x hx=>(nomatch hx),fun x hx=>(nomatch hx)⟩ ?_ ?_ ?_
   ·rintro l ys' H9 hl' ⟨xs,g9,pr9,lx,_⟩
    have:=zj pr9;omega
   ·rintro l ys' H9 hl' ⟨xs,g9,pr9,lx,ox,sx⟩
    have hc9:H9 pc=some (.lst (cs.map V.int)):=g9 _ _ (G8.same _ _ hc7)
    first|refine gyes ?_|refine tyes ?_
    refine⟨_,rfl,_,rfl,_,rfl,_,rfl,_,rfl,_,_,rfl,rfl,xT (by omega) (by omega),_,_,rfl,rfl,_,rfl,_,_,rfl,rfl,k,pc,cs,((at':Int) +(0 +(j:Int)) *(cols:Int) +(0 +(l:Int))).toNat,_,rfl,(by omega),hk,hc9,ne,fun x v' H10 g10 xr xo xs2=>?_⟩;refine nxt hl' ⟨xs++[x],g9.trans g10,zS (yJ g10 pr9) xr,by rw[wD,lx];rfl,fun y hy=>?_,fun y hy=>?_⟩
    ·rcases wq.mp hy with h|h
     ·exact ox y h
     ·rw[wn.mp h];exact xo
    ·rcases wq.mp hy with h|h
     ·exact sx y h
     ·rw[wn.mp h];exact xs2
   ·rintro ys' H9 ⟨xs,g9,pr9,lx,ox,sx⟩ pn hpn
    have npn:pto≠pn:=fun e=>by rw[← e,g9 _ _ hpt8]at hpn;cases hpn
    refine⟨pto,_,_,rfl,rfl,(by rw[zM npn];exact g9 _ _ hpt8),?_,?_⟩
    ·have:=zj G8.rows;rw[wa];omega
    obtain⟨G9,nm9⟩:=G8.push (zs':=(ras.map V.ref)++[.ref pn]) hpto hpt8 npt8 g9 hpn pr9;refine hN2 _ _ ⟨M++[xs],ras++[pn],_,_,_,rfl,G9,?_,nm9,by rw[wD,l8];rfl,fun y hy=>?_,fun y hy=>?_⟩
    ·rw[zg,wv];rfl
    ·rcases wq.mp hy with h|h
     ·exact o8 y h
     ·rw[wn.mp h];exact⟨lx,ox⟩
    ·rcases wq.mp hy with h|h
     ·exact s8 y h
     ·rw[wn.mp h];exact sx
  ·rintro σ H8 ⟨M,ras,o13,o14,o15,rfl,G8,hpt8,npt8,l8,o8,s8⟩
   have g8:=G8.same;have hptb:H8 pt=some (.lst (ts.map V.ref)):=g8 _ _ hpt7;have N8:NewT H7 H8 M pto ras:=⟨⟨hpt8,G8.rows⟩,hpto,G8.fr,G8.nd,npt8⟩;have lts:=G.lt;have hi3:i<3:=(ww.mp hv).1;refine⟨_,rfl,.inl ⟨rfl,_,SqL.of hptb⟩,_,rfl,pt,_,_,rfl,rfl,hptb,(by rw[wa];omega),?_⟩;have nt8:pt≠pto:=fun e=>by have:=hpto;rw[← e,hpt7]at this;cases this
   have nr8:pt∉ras:=fun hm=>by have:=G8.fr _ hm;rw[hpt7]at this;cases this
   have nts:pt∉ts++[pto]:=fun hm=>by
    rcases wq.mp hm with h|h
    ·exact nt h
    ·exact nt8 (wn.mp h)
   have nrs:∀ x∈rs++[ras],pt∉x:=fun x hm=>by
    rcases wq.mp hm with h|h
    ·exact nr x h
    ·rw[wn.mp h];exact nr8
   have G9:=(G.push g8 N8).updAt (zs':=(ts.map V.ref)++[.ref pto]) ptH hptb nts nrs;refine⟨_,rfl,_,rfl,_,rfl,_,_,rfl,rfl,xT (by omega) (by omega),_,_,rfl,rfl,hN1 _ _ ⟨Ms++[M],ts++[pto],rs++[ras],at'+rows*cols,some (.int (rows:Int)),some (.int (cols:Int)),some (.ref pto),o13,o14,o15,?_,G9,by rw[wD,lM];rfl,fun j M' hj=>?_,by rw[zg,wv];rfl,nts,nrs,(r0.mono g8).upd hptb,by rw[zM npl];exact g8 _ _ hl,by rw[zM nq1];exact g8 _ _ h1,by rw[zM nq2];exact g8 _ _ h2,by rw[zM nq3];exact g8 _ _ h3⟩⟩
   ·rw[show((at'+rows*cols:Nat):Int) =(at':Int) +(rows:Int) *(cols:Int) by rw[Int.natCast_add,uY]]
    rfl
   ·rcases wO j Ms.length with h|h
    ·rw[wW h]at hj;exact dM j M' hj
    ·have e:j=Ms.length:=by
      have:=(ww.mp hj).1;simp at this;omega
     subst e;rw[wZ (wu _),uM]at hj;cases hj;rw[lM,← er,← ec];exact⟨l8,o8,s8⟩
 rintro σ H7 ⟨Ms,ts,rs,at',o10,o11,o12,o13,o14,o15,rfl,G,lM,dM,hpt7,nt,nr,r0,_⟩
 obtain⟨A,B,C,rfl⟩ : ∃ A B C,Ms=[A,B,C]:=by
  match Ms,lM with
  | [A,B,C],_=>exact⟨A,B,C,rfl⟩
 have tA:TW k n n 2 A:=dM 0 A rfl;have tB:TW k n m 2 B:=dM 1 B rfl;have tC:TW k qn n 2 C:=dM 2 C rfl;obtain⟨ta,tb,tc,rfl⟩ : ∃ ta tb tc,ts=[ta,tb,tc]:=by
  match ts,G.lt with
  | [ta,tb,tc],_=>exact⟨ta,tb,tc,rfl⟩
 clear dM lM e4 f1 f2 f3 hpt6 npl nq1 nq2 nq3 r6 gH6;have z0:(nnum k 0).ok k:=La.zL hk 0;have zs:whk k 2 (nnum k 0):=fun _=>⟨0,rfl,by decide⟩
 refine⟨_,rfl,n,rfl,(by omega),(by omega),?_⟩;rw[wS];refine ZO (lo:=0) (n:=n) (fun i σ H'=>∃ A B C rs o10 o11 o12 o13 o14 o15,σ=[some (.int k),some (.ref pc),some (.ref pz),some (.ref ps),some (.int (n:Int)),some (.int (m:Int)),some (.int (qn:Int)),some v0,some (.ref pt),some (.int (at':Int)),o10,o11,o12,o13,o14,o15]/\kai H H' [A,B,C] [ta,tb,tc] rs/\TW k n n 2 A/\TW k n m 2 B/\TW k qn n 2 C/\H' pt=some (.lst [.ref ta,.ref tb,.ref tc])/\(∀ ras∈rs,pt∉ras)/\RN H' (nnum k 0) v0) ⟨A,B,C,rs,_,_,_,_,_,_,rfl,G,tA,tB,tC,hpt7,nr,r0⟩ ?_ ?_
 ·clear G tA tB tC hpt7 nr r0;intro N4 B4 i σ H8 hN4 hi
  rintro ⟨A,B,C,rs,o10,o11,o12,o13,o14,o15,rfl,G,tA,tB,tC,hpt8,nr,r0⟩
  have hss:(ss.map V.int)[i]?=some (.int ss[i]):=by rw[wk,wc (by omega)];rfl
  refine⟨_,rfl,n,rfl,(by omega),(by omega),?_⟩;rw[wS];refine ZO (lo:=0) (n:=n) (fun j σ H'=>∃ A o14 o15,σ=[some (.int k),some (.ref pc),some (.ref pz),some (.ref ps),some (.int (n:Int)),some (.int (m:Int)),some (.int (qn:Int)),some v0,some (.ref pt),some (.int (at':Int)),o10,o11,o12,some (.int (0 +(i:Int))),o14,o15]/\kai H H' [A,B,C] [ta,tb,tc] rs/\TW k n n 2 A/\H' pt=some (.lst [.ref ta,.ref tb,.ref tc])/\RN H' (nnum k 0) v0) ⟨A,_,_,rfl,G,tA,hpt8,r0⟩ ?_ ?_
  ·clear G tA hpt8 r0;intro N5 B5 j σ H9 hN5 hj
   rintro ⟨A,o14,o15,rfl,G,tA,hpt9,r0⟩
   have hs9:=G.same _ _ hs;have hsj:(ss.map V.int)[j]?=some (.int ss[j]):=by rw[wk,wc (by omega)];rfl
   refine⟨_,rfl,_,rfl,ps,_,_,_,rfl,rfl,SqL.of hs9,(by rw[vC];exact zH hss),_,rfl,_,rfl,ps,_,_,_,rfl,rfl,SqL.of hs9,(by rw[vC];exact zH hsj),_,_,rfl,fun cb=>⟨_,rfl,?_⟩⟩;refine ite2 (fun cc=>?_) (fun cc=>?_)
   ·obtain⟨M',t',ras,e1,e2,e3,hT⟩:=G.get (i:=0) (by simp);cases e1;cases e2;have lra:=zj hT.2;rw[tA.len]at lra;have hi':ras[i]?=some ras[i]:=wc (by omega);obtain⟨row,hrow,hR⟩:=zT hT.2 hi';obtain⟨us,hu,pu,lu⟩:=hR.len;have orow:=tA.ok row (wg hrow);have nra:ras[i]≠pt:=fun e=>nr ras (wg e3) (by rw[← e];exact wm _)
    refine⟨_,rfl,_,rfl,pt,_,_,_,rfl,rfl,SqL.of hpt9,zH (j:=0) rfl,_,rfl,ta,_,_,_,rfl,rfl,SqL.of hT.1,(by rw[vC];exact zH (by rw[wk,hi'];rfl)),_,rfl,ras[i],us,_,j,rfl,rfl,hu,(by rw[vC];exact qP (by rw[lu,orow.1];exact hj)),?_⟩;refine hN5 _ _ ⟨A.set i (row.set j (nnum k 0)),_,_,rfl,G.setRow (i:=0) rfl e3 hi' hu (zcK pu j r0),tA.set (by rw[vg];exact orow.1) (fun x hx=>?_) (fun x hx=>?_),by rw[zM (Ne.symm nra)];exact hpt9,r0.upd hu⟩
    ·rcases La.yk hx with e|e
     ·rw[e];exact z0
     ·exact orow.2 x e
    ·rcases La.yk hx with e|e
     ·rw[e];exact zs
     ·exact tA.sz row (wg hrow) x e
   ·exact hN5 _ _ ⟨A,_,_,rfl,G,tA,hpt9,r0⟩
  clear G tA hpt8 r0
  rintro σ H9 ⟨A,o14,o15,rfl,G,tA,hpt9,r0⟩
  have hs9:=G.same _ _ hs
  try dsimp only
  refine Zg (fun σ H'=>∃ B rs o14,σ=[some (.int k),some (.ref pc),some (.ref pz),some (.ref ps),some (.int (n:Int)),some (.int (m:Int)),some (.int (qn:Int)),some v0,some (.ref pt),some (.int (at':Int)),o10,o11,o12,some (.int (0 +(i:Int))),o14,o15]/\kai H H' [A,B,C] [ta,tb,tc] rs/\TW k n m 2 B/\H' pt=some (.lst [.ref ta,.ref tb,.ref tc])/\(∀ ras∈rs,pt∉ras)/\RN H' (nnum k 0) v0) ?_ ?_
  rotate_left
  ·intro hN;refine⟨_,rfl,_,rfl,ps,_,_,_,rfl,rfl,SqL.of hs9,(by rw[vC];exact zH hss),_,_,rfl,rfl,_,rfl,?_⟩;refine ite2 (fun cc=>?_) (fun cc=>?_)
   ·refine⟨_,rfl,m,rfl,(by omega),(by omega),?_⟩;rw[wS];refine yt (lo:=0) (n:=m) (fun l ys' H'=>H'=H9/\ys'=wx l v0) ⟨rfl,rfl⟩ ?_ ?_ ?_
    ·rintro l ys' H' hl' ⟨rfl,rfl⟩
     rw[wL];omega
    ·rintro l ys' H' hl' ⟨rfl,rfl⟩
     first|refine gyes ?_|refine tyes ?_
     exact⟨_,rfl,nxt hl' ⟨rfl,by rw[ur]⟩⟩
    ·rintro ys' H' ⟨rfl,rfl⟩ pn hpn
     have g10:=ze hpn (.lst (wx m v0));have R10:kah (upd H' pn (.lst (wx m v0))) (wx m (nnum k 0)) pn:=⟨_,zg,zhu (r0.mono g10) m⟩;have G10:=G.mono g10;have hpt10:=g10 _ _ hpt9;have npn:pn∉[ta,tb,tc]:=fun hm=>by obtain⟨o,ho⟩:=G.tsome hm;rw[hpn]at ho;cases ho
     have nrn:∀ ras∈rs,pn∉ras:=fun ras hr hm=>by obtain⟨o,ho⟩:=G.rsome hr hm;rw[hpn]at ho;cases ho
     have fpn:H pn=none:=G.same.none hpn;have r10:=r0.mono g10;have ptn:pt≠pn:=fun e=>by rw[← e,hpt9]at hpn;cases hpn
     generalize upd H' pn (.lst (wx m v0))=H10 at *;obtain⟨M',t',ras,e1,e2,e3,hT⟩:=G10.get (i:=1) (by simp);cases e1;cases e2;have lra:=zj hT.2;rw[tB.len]at lra;have hi':i<ras.length:=by omega
     refine⟨_,rfl,pt,_,_,_,rfl,rfl,SqL.of hpt10,zH (j:=1) rfl,_,rfl,tb,_,_,i,rfl,rfl,hT.1,(by rw[vC];exact qP (by rw[wa];exact hi')),?_⟩;have G11:=G10.setSlot (i:=1) (j:=i) rfl rfl e3 hi' R10 fpn npn nrn;rw[wa5]at G11;have ntb:pt≠tb:=fun e=>nt (by rw[e];simp)
     refine hN _ _ ⟨B.set i (wx m (nnum k 0)),rs.set 1 (ras.set i pn),_,rfl,G11,tB.set (by rw[wL]) (fun x hx=>by rw[vk hx];exact z0) (fun x hx=>by rw[vk hx];exact zs),by rw[zM ntb];exact hpt10,fun x hx hm=>?_,r10.upd hT.1⟩
     rcases La.yk hx with e|e
     ·rw[e]at hm
      rcases La.yk hm with e'|e'
      ·exact ptn e'
      ·exact nr ras (wg e3) e'
     ·exact nr x e hm
   ·exact hN _ _ ⟨B,rs,_,rfl,G,tB,hpt9,nr,r0⟩
  clear G tB hpt9 nr r0 hs9
  rintro σ H10 ⟨B,rs,o14,rfl,G,tB,hpt10,nr,r0⟩
  have hs10:=G.same _ _ hs;refine⟨_,rfl,_,rfl,ps,_,_,_,rfl,rfl,SqL.of hs10,(by rw[vC];exact zH hss),_,_,rfl,rfl,(by show(2:Int)≠0;decide),rfl,_,rfl,?_⟩;refine ite2 (fun cc=>?_) (fun cc=>?_)
  ·obtain⟨M',t',ras,e1,e2,e3,hT⟩:=G.get (i:=2) (by simp);cases e1;cases e2;have lra:=zj hT.2;rw[tC.len]at lra;refine⟨_,rfl,pt,_,_,_,rfl,rfl,SqL.of hpt10,zH (j:=2) rfl,tc,rfl,⟨_,SqL.of hT.1⟩,?_⟩;refine zao (xs:=ras.map V.ref) (fun l σ H'=>∃ C o15,σ=[some (.int k),some (.ref pc),some (.ref pz),some (.ref ps),some (.int (n:Int)),some (.int (m:Int)),some (.int (qn:Int)),some v0,some (.ref pt),some (.int (at':Int)),o10,o11,o12,some (.int (0 +(i:Int))),o14,o15]/\kai H H' [A,B,C] [ta,tb,tc] rs/\TW k qn n 2 C/\H' pt=some (.lst [.ref ta,.ref tb,.ref tc])/\RN H' (nnum k 0) v0) ⟨C,_,rfl,G,tC,hpt10,r0⟩ ?_ ?_ ?_
   ·rintro l σ H' _ ⟨C,o15,rfl,G,_⟩
    exact SqL.of (G.tabs 2 C tc ras rfl rfl e3).1
   ·clear G tC hpt10 r0 hT;intro N6 B6 l v σ H' hN6 hv
    rintro ⟨C,o15,rfl,G,tC,hptl,r0⟩
    have hT:=G.tabs 2 C tc ras rfl rfl e3;obtain⟨row,ar,hrow,har,rfl,hR⟩:=hT.row hv;obtain⟨us,hu,pu,lu⟩:=hR.len;have orow:=tC.ok row (wg hrow);have nra:ar≠pt:=fun e=>nr ras (wg e3) (by rw[← e];exact wg har)
    refine⟨_,rfl,_,rfl,_,rfl,ar,us,_,i,rfl,rfl,hu,(by rw[vC];exact qP (by rw[lu,orow.1];exact hi)),?_⟩;refine hN6 _ _ ⟨C.set l (row.set i (nnum k 0)),_,rfl,G.setRow (i:=2) rfl e3 har hu (zcK pu i r0),tC.set (by rw[vg];exact orow.1) (fun x hx=>?_) (fun x hx=>?_),by rw[zM (Ne.symm nra)];exact hptl,r0.upd hu⟩
    ·rcases La.yk hx with e|e
     ·rw[e];exact z0
     ·exact orow.2 x e
    ·rcases La.yk hx with e|e
     ·rw[e];exact zs
     ·exact tC.sz row (wg hrow) x e
   ·rintro σ H' ⟨C,o15,rfl,G,tC,hptl,r0⟩
    exact hN4 _ _ ⟨A,B,C,rs,_,_,_,_,_,_,rfl,G,tA,tB,tC,hptl,nr,r0⟩
  ·exact hN4 _ _ ⟨A,B,C,rs,_,_,_,_,_,_,rfl,G,tA,tB,tC,hpt10,nr,r0⟩
 ·rintro σ H8 ⟨A,B,C,rs,o10,o11,o12,o13,o14,o15,rfl,G,tA,tB,tC,hpt8,nr,r0⟩
  refine⟨_,rfl,_,rfl,(by show 2<=sizeLine;decide),fun pr hpr=>?_⟩;have g9:=ze hpr (.tup [.ref pt,.int (at':Int)]);exact q A B C pt pr [ta,tb,tc] rs at' _ (G.mono g9) tA tB tC (g9 _ _ hpt8) ptH nt nr zg
theorem zbJ{k:Int}{m n:Nat}{x y:Nb}(ox:x.ok k)(oy:y.ok k)(sx:szk k m x)(sy:szk k n y):szk k (m+n+1) (nsub k x y):=fun k0=>by
 rcases qQ ox oy with⟨_,r,s,rfl,rfl⟩|⟨h,_⟩
 ·have hx:=sx k0;have hy:=sy k0;show Sm _ (r - s).num/\Sm _ ((r - s).den:Int);rw[← zed];obtain⟨h1,h2⟩:=qr (t:=r.num*s.den - s.num*r.den) (jX r s) ((hx.1.mul hy.2).sub ((hy.1.mul hx.2).mono (by omega))) (hx.2.mul hy.2);exact⟨h1,h2.mono (wab _)⟩
 ·exact absurd k0 h
theorem zgT{α:Type}{l:List α}{i:Nat}{x:α}(h:l[i]?=some x):l.set i x=l:=by
 refine List.ext_getElem? fun j=>?_
 rw[wY]
 by_cases e:i=j
 ·subst e;rw[if_pos rfl,if_pos (ww.mp h).1,h]
 ·rw[if_neg e]
def TWs(k:Int)(n m q:Nat)(f:Nat->Nat)(Ms:List (TB)):Prop:=Ms.length=3/\∀(I:Nat)(M:TB),Ms[I]?=some M->TW k (dimR n m q I) (dimC n m q I) (f I) M
theorem TWs.up{k:Int}{n m q:Nat}{f g:Nat->Nat}{Ms:List (TB)}(h:TWs k n m q f Ms)(hf:∀ I,f I<=g I):TWs k n m q g Ms:=⟨h.1,fun I M hM=>(h.2 I M hM).up (hf I)⟩
theorem TWs.set{k:Int}{n m q J:Nat}{f g:Nat->Nat}{Ms:List (TB)}{M':TB}(h:TWs k n m q f Ms)(hM:TW k (dimR n m q J) (dimC n m q J) (g J) M')(hf:∀ I,I≠J->f I<=g I):TWs k n m q g (Ms.set J M'):=by
 refine⟨by rw[vg];exact h.1,fun I M e=>?_⟩
 by_cases c:I=J
 ·subst c;have hl:I<Ms.length:=by have:=(ww.mp e).1;rw[vg]at this;exact this
  rw[wY,if_pos rfl,if_pos hl]at e;cases e;exact hM
 ·rw[wY,if_neg (Ne.symm c)]at e;exact(h.2 I M e).up (hf I c)
def zbY:Sp:=fun vs H Q _=>∃(k c:Int)(Ms:List (TB))(H0:Hp)(ts:List Addr)(pt:Addr)(rs:List (List Addr))(n m q z:Nat),vs=[.int k,.ref pt,.int c]/\kaa k/\kai H0 H Ms ts rs/\TWs k n m q (fun _=>z) Ms/\H pt=some (.lst (ts.map V.ref))/\(∀ ras∈rs,pt∉ras)/\pt∉ts/\1<=n/\n<=10/\m<=10/\q<=10/\z<=1000 /\
 ∀(Ms':List (TB))(rs':List (List Addr))(H':Hp),kai H0 H' Ms' ts rs'->TWs k n m q (fun _=>z+6) Ms'->H' pt=some (.lst (ts.map V.ref))->(∀ ras∈rs',pt∉ras)->Q .non H'
theorem pick3{m:Int}(h0:0<=m)(h1:m<3):∃ w:Int,atI [V.int 1,V.int (-1),V.int 2] m=some (.int w)/\(w=1\/w = -1\/w=2):=by
 rcases (show m=0\/m=1\/m=2 by omega)with rfl|rfl|rfl
 ·exact⟨1,rfl,by simp⟩
 ·exact⟨-1,rfl,by simp⟩
 ·exact⟨2,rfl,by simp⟩
theorem zfU (hP:P.given.tree=none) (hS:base.NoSeer) (D:Df K mg "_law_exchanged" Qe yS) (zU:Kn P w K mg base "_law_make" 1 qc xD) (yp:Kn P w K mg base "_law_plus" 42 qe (xV nadd)) (yg:Kn P w K mg base "_law_times" 42 qe (xV nmul)) (yZ:Kn P w K mg base "_law_minus" 43 qe Zr) (m_len:mg "len" = none) (m_zip:mg "zip" = none):Kn P w K mg base "_law_exchanged" 44 Qe zbY:=by
 refine D.kn sv (fun vs H Q E h=>?_) (fun f cdv A' outer s' H vs Q E hr h=>?_)
 ·obtain⟨k,c,Ms,H0,ts,pt,rs,n,m,q,z,rfl,_⟩:=h;rfl
 obtain⟨k,c,Ms,H0,ts,pt,rs,n,m,qn,z,rfl,hk,G,tM,hpt,nr,nt,n1,n10,m10,q10,z1000,q⟩:=h;have szl:=dh
 have kl:=hk.lt;have lM3:=tM.1;obtain⟨ta,tb,tc,rfl⟩ : ∃ ta tb tc,ts=[ta,tb,tc]:=by
  match ts,(G.lt.trans lM3)with
  | [ta,tb,tc],_=>exact⟨ta,tb,tc,rfl⟩
 refine⟨_,(zc (zk (i:=3) sv.nd rfl (.inl rfl) (zw zA rfl m_len yb (za (zD zo (pv 1) zf) zd))) (zc (zk (i:=4) sv.nd rfl (.inl rfl) (zm zO (pv 2) (pv 3))) (zi (yz (zI ZY (pv 3) zf (kae _)) (zc (zk (i:=5) sv.nd rfl (.inl rfl) (zm zO (zm yy (zm yy (pv 4) zf) (zm zO (zm (yc hr (by decide) hP hS ⟨_,_,rfl,rfl,rfl,rfl,rfl⟩) (pv 2) zf) (zm xZ (pv 3) zf))) (pv 3))) (zc (zk (i:=6) sv.nd rfl (.inr rfl) (zt zU hr (za (pv 0) (za (zD zo (yl (za zf (za (zfP zb4 zf) (za zf zd)))) (zm zO (zm (yc hr (by decide) hP hS ⟨_,_,rfl,rfl,rfl,rfl,rfl⟩) (pv 2) zf) zf)) zd)))) (zc (yz (zI ZY (pv 0) zf (kae _)) (zi (zk (i:=6) sv.nd rfl (.inr rfl) (zm zO (zm (yc hr (by decide) hP hS ⟨_,_,rfl,rfl,rfl,rfl,rfl⟩) (pv 2) zf) (pv 0)))) zQ) (zc (qg (pv 1) (zhT 3 rfl (zP (zC (i:=7) sv.nd rfl (.inl rfl)) (zP (zC (i:=8) sv.nd rfl (.inl rfl)) (zP (zC (i:=9) sv.nd rfl (.inl rfl)) yW))))) (zc (yE PassesOwn.never rfl (zE (yl (za (pv 7) (za (pv 8) zd)))) (zC (i:=10) sv.nd rfl (.inl rfl)) (zi (qg (jy ["_law_x", "_law_y"] ["_law_prime_here", "_law_c"] [0,6] ⟨rfl,rfl,rfl,rfl,rfl,rfl,by decide +kernel⟩ rfl (jZ rfl m_zip (za (zD zo (pv 10) (pv 4)) (za (zD zo (pv 10) (pv 5)) zd))) (xO (zY (yd (by decide)) ya (zY (yd (by decide)) ya xn))) fun _ _ _ _ _ _=>⟨(xv 2 rfl (zP (zC (i:=0) (by decide:(["_law_x", "_law_y", "_law_prime_here", "_law_c"]:List Str).Nodup) rfl (by first|exact Or.inl rfl|exact Or.inr rfl)) (zP (zC (i:=1) (by decide:(["_law_x", "_law_y", "_law_prime_here", "_law_c"]:List Str).Nodup) rfl (by first|exact Or.inl rfl|exact Or.inr rfl)) yW))),zJ,(zt yp hr (za (pv 2) (za (pv 0) (za (zt yg hr (za (pv 2) (za (pv 3) (za (pv 1) zd)))) zd))))⟩) (Xm (pv 10) (pv 4) qd)))) (zi (yE PassesOwn.never rfl (zE (yl (za (pv 7) (za (pv 9) zd)))) (zC (i:=10) sv.nd rfl (.inl rfl)) (zi (yE PassesOwn.never rfl (zE (pv 10)) (zC (i:=11) sv.nd rfl (.inl rfl)) (zi (qg (zt yZ hr (za (pv 0) (za (zD zo (pv 11) (pv 5)) (za (zt yg hr (za (pv 0) (za (pv 6) (za (zD zo (pv 11) (pv 4)) zd)))) zd)))) (Xm (pv 11) (pv 5) qd)))))))))))) zQ)))),?_⟩;obtain⟨M0,t0,ra,e1,e2,ea,hTa⟩:=G.get (i:=0) (by omega);cases e2;have lra:=zj hTa.2;rw[(tM.2 0 M0 e1).len]at lra;replace lra:n=ra.length:=lra;refine⟨_,rfl,pt,_,_,.ref ta,rfl,rfl,SqL.of hpt,zH (j:=0) rfl,ta,_,rfl,.inl (SqL.of hTa.1),?_⟩;rw[wa,← lra];refine⟨_,rfl,_,rfl,_,_,rfl,rfl,(by show(n:Int)≠0;omega),?_⟩;have i0:=wy c (show(0:Int) <(n:Int) by omega);have i1:=wH c (show(0:Int) <(n:Int) by omega)
 try dsimp only
 generalize c.fmod (n:Int)=iI at *;obtain⟨i,rfl⟩:=uT i0;have hi:i<n:=by omega
 clear hTa ea lra e1;refine⟨_,rfl,_,_,rfl,rfl,_,rfl,?_⟩;refine ite2 (fun cn=>?_) (fun cn=>?_)
 rotate_left
 ·exact q Ms rs H G (tM.up fun _=>by omega) hpt nr
 have n2:(1:Int) <(n:Int):=of_decide_eq_true cn;refine⟨_,rfl,_,_,rfl,rfl,_,rfl,_,_,rfl,rfl,(by show(5:Int)≠0;decide),_,rfl,_,_,rfl,rfl,_,_,rfl,rfl,(by show(n:Int) - 1≠0;omega),_,_,rfl,rfl,_,rfl,_,_,rfl,rfl,(by show(n:Int)≠0;omega),?_⟩
 try dsimp only
 have j0:=wy ((i:Int)+1 +(c.fdiv 5).fmod ((n:Int) - 1)) (show(0:Int) <(n:Int) by omega);have j1:=wH ((i:Int)+1 +(c.fdiv 5).fmod ((n:Int) - 1)) (show(0:Int) <(n:Int) by omega);generalize ((i:Int)+1 +(c.fdiv 5).fmod ((n:Int) - 1)).fmod (n:Int)=jI at *;obtain⟨j,rfl⟩:=uT j0;have hj:j<n:=by omega
 refine⟨_,rfl,_,rfl,(by show 3<=sizeLine;decide),fun p3 hp3=>?_⟩;obtain⟨w3,ew,hw⟩:=pick3 (wy (c.fdiv 20) (show(0:Int)<3 by decide)) (wH (c.fdiv 20) (show(0:Int)<3 by decide));have g3:=ze hp3 (.lst [V.int 1,V.int (-1),V.int 2]);refine⟨_,rfl,_,_,rfl,rfl,(by show(20:Int)≠0;decide),_,_,rfl,rfl,(by show(3:Int)≠0;decide),p3,_,_,.int w3,rfl,rfl,SqL.of zg,ew,k,w3,rfl,hk,fun vc H4 g4 rc=>?_⟩;have g34:=g3.trans g4;generalize upd H p3 (.lst [V.int 1,V.int (-1),V.int 2])=H3 at *;clear hp3 g3 g4 ew;have sw:whk k 2 (nnum k w3):=fun k0=>⟨w3,rfl,by
  have:(2:Nat)^2=4:=by decide
  omega⟩
 try dsimp only
 refine Zg (fun σ H'=>∃ x v o7 o8 o9 o10 o11,σ=[some (.int k),some (.ref pt),some (.int c),some (.int (n:Int)),some (.int (i:Int)),some (.int (j:Int)),some v,o7,o8,o9,o10,o11]/\x.ok k/\whk k 2 x/\RN H' x v/\H'=H4) ?_ ?_
 rotate_left
 ·intro hN;refine⟨_,rfl,_,_,rfl,rfl,_,rfl,?_⟩;refine ite2 (fun ck=>?_) (fun ck=>?_)
  ·have k0:0<k:=of_decide_eq_true ck;exact⟨_,rfl,_,_,rfl,rfl,(by show(20:Int)≠0;decide),_,rfl,_,_,rfl,rfl,(show k≠0 by omega),hN _ _ ⟨.z _,_,_,_,_,_,_,rfl,⟨by omega,wy _ k0,wH _ k0⟩,fun e=>by omega,RN.of_z,rfl⟩⟩
  ·exact hN _ _ ⟨nnum k w3,vc,_,_,_,_,_,rfl,La.zL hk w3,sw,rc,rfl⟩
 clear rc sw hw
 rintro σ H4' ⟨x,vc,o7,o8,o9,o10,o11,rfl,ox,sx,rc,rfl⟩
 replace G:=G.mono g34;replace hpt:=g34 _ _ hpt;clear g34;refine⟨_,rfl,pt,_,rfl,SqL.of hpt,rfl,_,_,rfl,_,_,rfl,_,_,rfl,rfl,?_⟩;refine⟨_,rfl,_,rfl,(by show 2<=sizeLine;decide),fun pl hpl=>?_⟩;have g5:=ze hpl (.lst [.ref ta,.ref tb]);have hl5:upd H4' pl (.lst [.ref ta,.ref tb]) pl=some (.lst [.ref ta,.ref tb]):=zg;have nlt:pl∉[ta,tb,tc]:=fun hm=>by obtain⟨o,ho⟩:=G.tsome hm;rw[hpl]at ho;cases ho
 have nlr:∀ ras∈rs,pl∉ras:=fun ras hr hm=>by obtain⟨o,ho⟩:=G.rsome hr hm;rw[hpl]at ho;cases ho
 replace G:=G.mono g5;replace hpt:=g5 _ _ hpt;replace rc:=rc.mono g5;generalize upd H4' pl (.lst [.ref ta,.ref tb])=H5 at *;clear g5 hpl;refine⟨pl,rfl,⟨_,SqL.of hl5⟩,?_⟩;refine xN (xs:=[.ref ta,.ref tb]) (fun l σ H'=>∃ Ms rs o10 o11,σ=[some (.int k),some (.ref pt),some (.int c),some (.int (n:Int)),some (.int (i:Int)),some (.int (j:Int)),some vc,some (.ref ta),some (.ref tb),some (.ref tc),o10,o11]/\kai H0 H' Ms [ta,tb,tc] rs/\TWs k n m qn (fun I=>if I<l then z+3 else z) Ms/\H' pt=some (.lst [.ref ta,.ref tb,.ref tc])/\(∀ ras∈rs,pt∉ras)/\H' pl=some (.lst [.ref ta,.ref tb])/\(∀ ras∈rs,pl∉ras)/\RN H' x vc) ⟨Ms,rs,_,_,rfl,G,tM.up fun I=>by rw[if_neg (ug I)];exact wu _,hpt,nr,hl5,nlr,rc⟩ ?_ ?_ ?_
 ·rintro l σ H' _ ⟨Ms,rs,o10,o11,rfl,_,_,_,_,hl',_⟩
  exact SqL.of hl'
 ·clear G tM hpt nr hl5 nlr rc lM3
  rintro l v σ H6 hv ⟨Ms,rs,o10,o11,rfl,G,tM,hpt,nr,hl6,nlr,rc⟩
  have l2:l<2:=(ww.mp hv).1;obtain⟨t,rfl,ht⟩ : ∃ t,v=.ref t/\[ta,tb,tc][l]?=some t:=by
   match l,hv with
   | 0,hv=>cases hv;exact⟨ta,rfl,rfl⟩
   | 1,hv=>cases hv;exact⟨tb,rfl,rfl⟩
  obtain⟨M,t',ras,eM,e2,er,hT⟩:=G.get (i:=l) (by rw[tM.1];omega);rw[ht]at e2;cases e2;have tk:TW k (dimR n m qn l) (dimC n m qn l) z M:=by
   have h:=tM.2 l M eM
   dsimp only at h
   rw[if_neg (vM l)]at h;exact h
  have dn:dimR n m qn l=n:=by unfold dimR;rw[if_neg (by omega)]
  have cc10:dimC n m qn l<=10:=by unfold dimC;split <;> omega
  have lras:=zj hT.2;rw[tk.len,dn]at lras;have ei:ras[i]?=some ras[i]:=wc (by omega);have ej:ras[j]?=some ras[j]:=wc (by omega);obtain⟨xi,hxi,ri⟩:=zT hT.2 ei;obtain⟨xj,hxj,rj⟩:=zT hT.2 ej;obtain⟨ui,hui,pui,lui⟩:=ri.len;obtain⟨uj,huj,puj,luj⟩:=rj.len;have oi:=tk.ok xi (wg hxi);have oj:=tk.ok xj (wg hxj);have si:=tk.sz xi (wg hxi);have sj:=tk.sz xj (wg hxj);have ll:xi.length=xj.length:=by rw[oi.1,oj.1]
  refine⟨_,rfl,_,rfl,t,_,_,.ref ras[i],rfl,rfl,SqL.of hT.1,zH (by rw[wk,ei];rfl),_,rfl,_,rfl,t,_,_,.ref ras[j],rfl,rfl,SqL.of hT.1,zH (by rw[wk,ej];rfl),ras[i],ras[j],ui,uj,rfl,SqL.of hui,SqL.of huj,?_⟩;refine xS (xs:=ui) (zs:=uj) (by rw[lui,luj];exact ll) (fun e ys H'=>Same H6 H'/\Paired (RN H') ((vy (fun a b=>nadd k a (nmul k x b)) xi xj).take e) ys) ⟨Same.refl _,.nil⟩ ?_ ?_ ?_
  ·rintro e ys H' he ⟨g,pr⟩
   refine⟨SqL.of (g _ _ hui),SqL.of (g _ _ huj),?_⟩;have:=zj pr;rw[wt]at this;rw[lui,oi.1]at he;omega
  ·rintro e a b T ys H' ha hb he hTn ⟨g,pr⟩
   have g':=g.trans (ze hTn (.tup [a,b]));obtain⟨na,ena,rna⟩:=zT pui ha;obtain⟨nb,enb,rnb⟩:=zT puj hb;have oa:=oi.2 na (wg ena);have ob:=oj.2 nb (wg enb);have sa:=si na (wg ena);have sb:=sj nb (wg enb);have om:=La.yB hk ox ob;have sm:=Qs ox ob sx sb;have pr':=yJ (ze hTn (.tup [a,b])) pr;refine⟨T,_,rfl,SqT.of zg,rfl,_,_,rfl,_,_,rfl,rfl,?_⟩;generalize upd H' T (.tup [a,b])=H7 at *
   first|refine gyes ?_|refine tyes ?_
   refine⟨_,rfl,_,rfl,_,rfl,_,rfl,_,rfl,k,x,nb,_,_,rfl,⟨hk,ox,ob,sx.nsm hk ox (by decide) (by decide),sb.nsm hk ob (by omega) (by decide),rc.mono g',rnb.mono g'⟩,fun v8 H8 g8 r8=>?_⟩;refine⟨k,na,_,_,_,rfl,⟨hk,oa,om,sa.nsm hk oa (by omega) (by decide),sm.nsm hk om (by omega) (by decide),(rna.mono g').mono g8,r8⟩,fun v9 H9 g9 r9=>nxt he ⟨(g'.trans g8).trans g9,?_⟩⟩;have ez:(vy (fun a b=>nadd k a (nmul k x b)) xi xj)[e]?=some (nadd k na (nmul k x nb)):=by rw[vz,ena,enb]
   rw[zp ez];exact zS (yJ (g8.trans g9) pr') r9
  rintro ys H7 ⟨g7,pr⟩ pn hpn
  rw[lui,wo (by rw[wG];omega)]at pr;generalize ez:vy (fun a b=>nadd k a (nmul k x b)) xi xj=xz at *;have memz:∀ y∈xz,y.ok k/\whk k (z+3) y:=fun y hy=>by
   rw[← ez]at hy;obtain⟨e,he,rfl⟩:=wI hy;rw[vF];rw[wG]at he;have oa:=oi.2 _ (wm (show e<xi.length by omega));have ob:=oj.2 _ (wm (show e<xj.length by omega));have sa:=si _ (wm (show e<xi.length by omega));have sb:=sj _ (wm (show e<xj.length by omega));exact⟨La.yG hk oa (La.yB hk ox ob),(zcb oa (La.yB hk ox ob) sa (Qs ox ob sx sb)).mono (by omega)⟩
  have lz:xz.length=dimC n m qn l:=by rw[← ez,wG,← ll,oi.1];omega
  have g8:=ze hpn (.lst ys);have R8:kah (upd H7 pn (.lst ys)) xz pn:=⟨ys,zg,yJ g8 pr⟩;have G7:=G.mono g7;have npn:pn∉[ta,tb,tc]:=fun hm=>by obtain⟨o,ho⟩:=G7.tsome hm;rw[hpn]at ho;cases ho
  have nrn:∀ ras∈rs,pn∉ras:=fun ras hr hm=>by obtain⟨o,ho⟩:=G7.rsome hr hm;rw[hpn]at ho;cases ho
  have fpn:H0 pn=none:=G7.same.none hpn;have ptn:pt≠pn:=fun e=>by rw[← e,g7 _ _ hpt]at hpn;cases hpn
  have pln:pl≠pn:=fun e=>by rw[← e,g7 _ _ hl6]at hpn;cases hpn
  have G8:=G7.mono g8;have g78:=g7.trans g8;generalize upd H7 pn (.lst ys)=H8 at *;have hT8:=hT.mono g78;have tm:=wg ht;have ptt:pt≠t:=fun e=>nt (by rw[e];exact tm)
  have plt:pl≠t:=fun e=>nlt (by rw[e];exact tm)
  refine⟨_,rfl,_,rfl,t,_,_,i,rfl,rfl,hT8.1,qP (by rw[wa];omega),?_⟩;have G9:=G8.setSlot (i:=l) (j:=i) eM ht er (by omega) R8 fpn npn nrn;rw[wa5]at G9;have away:∀ p,p≠pn->(∀ ras∈rs,p∉ras)->∀ x'∈rs.set l (ras.set i pn),p∉x':=fun p hp hr x' hx' hm=>by
   rcases La.yk hx' with e|e
   ·rw[e]at hm
    rcases La.yk hm with e'|e'
    ·exact hp e'
    ·exact hr ras (wg er) e'
   ·exact hr x' e hm
  refine⟨Ms.set l (M.set i xz),rs.set l (ras.set i pn),_,_,rfl,G9,tM.set (g:=fun I=>if I<l+1 then z+3 else z) ?_ (fun I hI=>?_),by rw[zM ptt];exact g78 _ _ hpt,away pt ptn nr,by rw[zM plt];exact g78 _ _ hl6,away pl pln nlr,(rc.mono g78).upd hT8.1⟩
  ·rw[if_pos (ul l)];exact(tk.up (show z<=z+3 by omega)).set lz (fun y hy=>(memz y hy).1) (fun y hy=>(memz y hy).2)
  ·by_cases c1:I<l
   ·rw[if_pos c1,if_pos (by omega)];exact wu _
   ·rw[if_neg c1,if_neg (by omega)];exact wu _
 clear G tM hpt nr hl5 nlr rc nlt
 rintro σ H6 ⟨Ms,rs,o10,o11,rfl,G,tM0,hpt,nr,_,_,rc⟩
 have tM:TWs k n m qn (fun _=>z+3) Ms:=tM0.up fun I=>by split <;> omega
 clear tM0;refine⟨_,rfl,_,rfl,(by show 2<=sizeLine;decide),fun pl hpl=>?_⟩;have g5:=ze hpl (.lst [.ref ta,.ref tc]);have hl5:upd H6 pl (.lst [.ref ta,.ref tc]) pl=some (.lst [.ref ta,.ref tc]):=zg;have nlr:∀ ras∈rs,pl∉ras:=fun ras hr hm=>by obtain⟨o,ho⟩:=G.rsome hr hm;rw[hpl]at ho;cases ho
 replace G:=G.mono g5;replace hpt:=g5 _ _ hpt;replace rc:=rc.mono g5;generalize upd H6 pl (.lst [.ref ta,.ref tc])=H7 at *;clear g5 hpl;refine⟨pl,rfl,⟨_,SqL.of hl5⟩,?_⟩;refine xN (xs:=[.ref ta,.ref tc]) (fun l σ H'=>∃ Ms o10 o11,σ=[some (.int k),some (.ref pt),some (.int c),some (.int (n:Int)),some (.int (i:Int)),some (.int (j:Int)),some vc,some (.ref ta),some (.ref tb),some (.ref tc),o10,o11]/\kai H0 H' Ms [ta,tb,tc] rs/\TWs k n m qn (fun I=>if I<2*l then z+6 else z+3) Ms/\H' pt=some (.lst [.ref ta,.ref tb,.ref tc])/\H' pl=some (.lst [.ref ta,.ref tc])/\RN H' x vc) ⟨Ms,_,_,rfl,G,tM.up fun I=>by rw[if_neg (by omega)];exact wu _,hpt,hl5,rc⟩ ?_ ?_ ?_
 ·rintro l σ H' _ ⟨Ms,o10,o11,rfl,_,_,_,hl',_⟩
  exact SqL.of hl'
 ·clear G tM hpt hl5 rc
  rintro l v σ H8 hv ⟨Ms,o10,o11,rfl,G,tM,hpt,hl8,rc⟩
  have l2:l<2:=(ww.mp hv).1;obtain⟨t,rfl,ht⟩ : ∃ t,v=.ref t/\[ta,tb,tc][2*l]?=some t:=by
   match l,hv with
   | 0,hv=>cases hv;exact⟨ta,rfl,rfl⟩
   | 1,hv=>cases hv;exact⟨tc,rfl,rfl⟩
  obtain⟨M,t',ras,eM,e2,er,hT⟩:=G.get (i:=2*l) (by rw[tM.1];omega);rw[ht]at e2;cases e2;have tk:TW k (dimR n m qn (2*l)) (dimC n m qn (2*l)) (z+3) M:=by
   have h:=tM.2 (2*l) M eM
   dsimp only at h
   rw[if_neg (vM (2*l))]at h;exact h
  have cn':dimC n m qn (2*l)=n:=by unfold dimC;rw[if_neg (by omega)]
  rw[cn']at tk;have lras:=zj hT.2;have rm:=wg er;have lMs:=tM.1;refine⟨_,rfl,t,rfl,⟨_,SqL.of hT.1⟩,?_⟩;refine xN (xs:=ras.map V.ref) (fun e σ H'=>∃ Mc o11,σ=[some (.int k),some (.ref pt),some (.int c),some (.int (n:Int)),some (.int (i:Int)),some (.int (j:Int)),some vc,some (.ref ta),some (.ref tb),some (.ref tc),some (.ref t),o11]/\kai H0 H' (Ms.set (2*l) Mc) [ta,tb,tc] rs/\TW k (dimR n m qn (2*l)) n (z+6) Mc/\(∀ e' r,e<=e'->Mc[e']?=some r->∀ y∈r,whk k (z+3) y)/\H' pt=some (.lst [.ref ta,.ref tb,.ref tc])/\H' pl=some (.lst [.ref ta,.ref tc])/\RN H' x vc) ⟨M,_,rfl,by rw[zgT eM];exact G,tk.up (by omega),fun e' r _ hr=>tk.sz r (wg hr),hpt,hl8,rc⟩ ?_ ?_ ?_
  ·rintro e σ H' _ ⟨Mc,o11,rfl,G',_⟩
   exact SqL.of (G'.tabs (2*l) Mc t ras (by rw[wY,if_pos rfl,if_pos (by omega)]) ht er).1
  ·rintro e v σ H' hv ⟨Mc,o11,rfl,G',tkc,low,hpt',hl',rc'⟩
   have eMc:(Ms.set (2*l) Mc)[2*l]?=some Mc:=by rw[wY,if_pos rfl,if_pos (by omega)]
   have hT':=G'.tabs (2*l) Mc t ras eMc ht er;obtain⟨row,ar,hrow,har,rfl,hR⟩:=hT'.row hv;obtain⟨us,hu,pu,lu⟩:=hR.len;have orow:=tkc.ok row (wg hrow);have srow:=low e row (wu _) hrow;have ei:row[i]?=some row[i]:=wc (by rw[orow.1];exact hi);have ej:row[j]?=some row[j]:=wc (by rw[orow.1];exact hj);obtain⟨vi,hvi,rvi⟩:=yv pu ei;obtain⟨vj,hvj,rvj⟩:=yv pu ej;have oi:=orow.2 _ (wg ei);have oj:=orow.2 _ (wg ej);have si:=srow _ (wg ei);have sj:=srow _ (wg ej);have om:=La.yB hk ox oi;have sm:=Qs ox oi sx si;have nap:ar≠pt:=fun e=>nr ras rm (by rw[← e];exact wg har)
   have nal:ar≠pl:=fun e=>nlr ras rm (by rw[← e];exact wg har)
   refine⟨_,rfl,_,rfl,_,rfl,ar,_,_,vj,rfl,rfl,SqL.of hu,zH hvj,_,rfl,_,rfl,_,rfl,_,rfl,ar,_,_,vi,rfl,rfl,SqL.of hu,zH hvi,k,x,row[i],_,_,rfl,⟨hk,ox,oi,sx.nsm hk ox (by decide) (by decide),si.nsm hk oi (by omega) (by decide),rc',rvi⟩,fun v9 H9 g9 r9=>?_⟩;refine⟨k,row[j],_,_,_,rfl,hk,oj,om,sj.nsm hk oj (by omega) (by decide),sm.nsm hk om (by omega) (by decide),rvj.mono g9,r9,fun v10 H10 g10 r10=>?_⟩;have g':=g9.trans g10;have hu':=g' _ _ hu;refine⟨_,rfl,_,rfl,ar,us,_,j,rfl,rfl,hu',qP (by rw[lu,orow.1];exact hj),?_⟩;have G10:=(G'.mono g').setRow eMc er har hu' (zcK (yJ g' pu) j r10);rw[List.set_set]at G10;have lset:∀ y∈row.set j (nsub k row[j] (nmul k x row[i])),y.ok k/\whk k (z+6) y:=fun y hy=>by
    rcases La.yk hy with e|e
    ·rw[e];exact⟨YV (by omega) oj om,(zgP oj om sj sm).mono (by omega)⟩
    ·exact⟨orow.2 y e,(srow y e).mono (by omega)⟩
   refine⟨Mc.set e (row.set j (nsub k row[j] (nmul k x row[i]))),_,rfl,G10,tkc.set (by rw[vg];exact orow.1) (fun y hy=>(lset y hy).1) (fun y hy=>(lset y hy).2),fun e' r he' hr=>?_,by rw[zM (Ne.symm nap)];exact g' _ _ hpt',by rw[zM (Ne.symm nal)];exact g' _ _ hl',(rc'.mono g').upd hu'⟩;rw[wY,if_neg (by omega)]at hr;exact low e' r (by omega) hr
  ·rintro σ H' ⟨Mc,o11,rfl,G',tkc,low,hpt',hl',rc'⟩
   refine⟨Ms.set (2*l) Mc,_,_,rfl,G',tM.set (g:=fun I=>if I<2 *(l+1)then z+6 else z+3) ?_ (fun I hI=>?_),hpt',hl',rc'⟩
   ·rw[if_pos (by omega),cn'];exact tkc
   ·split <;> split <;> omega
 ·rintro σ H8 ⟨Ms,o10,o11,rfl,G,tM,hpt,hl8,rc⟩
  exact q Ms rs H8 G (tM.up fun I=>by split <;> omega) hpt nr
theorem zf7(cs:List Int)(lo hi:Option Int):∃ zs:List Int,cutV (cs.map V.int) lo hi=zs.map V.int:=⟨_,by unfold cutV;rw[wa,← uo,← ue]⟩
def XA:Sp:=fun vs H Q _=>∃(pc pq:Addr)(cs:List Int)(a b:Nat),vs=[.ref pc,.ref pq]/\H pc=some (.lst (cs.map V.int))/\cs≠[]/\cs.length<=1000/\H pq=some (.lst [.int (a:Int),.int (b:Int)])/\1<=a/\a<=3/\1<=b/\b<=10 /\
 ∀(k:Int)(n m q at':Nat)(A B C:TB)(p3 pm ta tb tc:Addr)(ra rb rc:List Addr)(H':Hp),Same H H'->H' p3=some (.tup [.int k,.ref pm,.int (at':Int)])->kax H' A B C pm ta tb tc ra rb rc->KindS k->Fit k n->MOk k n m q 80 A B C->(TW k n n 14 A/\TW k n m 14 B/\TW k q n 14 C/\((cs.headD 1).fmod 3=0->k=0))->1<=m->m<=2->1<=q->q<=2->n<=a\/n<=b->Q (.ref p3) H'
theorem zbG (hP:P.given.tree=none) (hS:base.NoSeer) (D:Df K mg "_law_machine" Qg xC) (zaF:Kn P w K mg base "_law_prime" 41 ["_law_cell"] zaf) (zaZ:Kn P w K mg base "_law_sorts" 42 qm zaC) (XO:Kn P w K mg base "_law_blocked" 45 qW Xl) (Yr:Kn P w K mg base "_law_exchanged" 44 Qe zbY) (m_int:mg "int" = none) (zy:mg "range" = none):Kn P w K mg base "_law_machine" 46 Qg XA:=by
 refine D.kn sH (fun vs H Q E h=>?_) (fun f cdv A' outer s' H vs Q E hr h=>?_)
 ·obtain⟨pc,pq,cs,a,b,rfl,_⟩:=h;rfl
 obtain⟨pc,pq,cs,a,b,rfl,hc,ne,c1000,hq,a1,a3,b1,b10,q⟩:=h;have szl:=dh
 obtain⟨c0,cs',rfl⟩:=uL ne;refine⟨_,(zc (zk (i:=2) sH.nd rfl (.inl rfl) (zD zo (pv 0) zf)) (zc (zk (i:=3) sH.nd rfl (.inl rfl) (zt zaF hr (za (pv 2) zd))) (zc (zk (i:=4) sH.nd rfl (.inl rfl) (xa (za (zm yy zf (zm zO (zm (yc hr (by decide) hP hS ⟨_,_,rfl,rfl,rfl,rfl,rfl⟩) (pv 2) zf) (zD zo (pv 1) (qw XG rfl m_int zeQ (za (ja ZY (pv 3) zf (kae _)) zd))))) (za (zm yy zf (zm zO (zm (yc hr (by decide) hP hS ⟨_,_,rfl,rfl,rfl,rfl,rfl⟩) (pv 2) zf) zf)) (za (zm yy zf (zm zO (zm (yc hr (by decide) hP hS ⟨_,_,rfl,rfl,rfl,rfl,rfl⟩) (pv 2) zf) zf)) zd))))) (zc (zk (i:=5) sH.nd rfl (.inl rfl) (ja xc (zm zO (zm (yc hr (by decide) hP hS ⟨_,_,rfl,rfl,rfl,rfl,rfl⟩) (pv 2) zf) zf) zf (kae _))) (zc (qg (zt XO hr (za (pv 3) (za (pv 0) (za (pv 4) (za (zt zaZ hr (za (pv 2) (za (zD zG (pv 4) zf) (za (pv 5) zd)))) zd))))) (xv 2 rfl (zP (zC (i:=6) sH.nd rfl (.inl rfl)) (zP (zC (i:=7) sH.nd rfl (.inl rfl)) yW)))) (zc (yE PassesOwn.never rfl (zR rfl zy (za zf zd)) (zC (i:=8) sH.nd rfl (.inl rfl)) (zi (yz (zha (zaO (pv 5))) (zi (yU (zt Yr hr (za (pv 3) (za (pv 6) (za (zm yy (zD zo (zm qh (yT xB (pv 0) (xq (pv 7)) je) (yl (za zf (za zf (za zf zd))))) (pv 8)) (zm (yc hr (by decide) hP hS ⟨_,_,rfl,rfl,rfl,rfl,rfl⟩) (pv 2) zf)) zd)))))) zQ))) (zi (zq (xa (za (pv 3) (za (xa (za (zD zo (pv 6) zf) (za (zD zo (pv 6) zf) (za (zD zo (pv 6) zf) zd)))) (za (zm yy (pv 7) zf) zd)))))))))))),?_⟩;refine⟨_,rfl,pc,_,_,_,rfl,rfl,SqL.of hc,zH (j:=0) rfl,?_⟩;refine⟨_,rfl,c0,rfl,fun k H1 g1 hs hk0=>?_⟩;have hk:=hs.ok;have kl:=hk.lt;have hq1:=g1 _ _ hq;obtain⟨mo,emo,mo1,mob⟩ : ∃ mo:Nat,atI [V.int (a:Int),V.int (b:Int)] (if decide (0<k)=true then 1 else 0)=some (.int (mo:Int))/\1<=mo/\((k=0/\mo=a)\/(k≠0/\mo=b)):=by
  by_cases h:0<k
  ·rw[decide_eq_true h];exact⟨b,rfl,b1,.inr ⟨by omega,rfl⟩⟩
  ·rw[decide_eq_false h];exact⟨a,rfl,a1,.inl ⟨by omega,rfl⟩⟩
 have n75:(75:Int)≠0:=by decide
 refine⟨_,rfl,_,_,rfl,rfl,n75,_,rfl,_,rfl,_,_,rfl,rfl,.inr ⟨_,rfl,pq,_,_,.int (mo:Int),rfl,rfl,SqL.of hq1,emo,_,_,rfl,rfl,(by show(mo:Int)≠0;omega),_,_,rfl,rfl,_,rfl,_,_,rfl,rfl,(by show(375:Int)≠0;decide),_,_,rfl,rfl,(by show(2:Int)≠0;decide),_,_,rfl,rfl,_,rfl,_,_,rfl,rfl,(by show(750:Int)≠0;decide),_,_,rfl,rfl,(by show(2:Int)≠0;decide),_,_,rfl,rfl,(by show 3<=sizeLine;decide),fun pz hpz=>?_⟩⟩
 try dsimp only
 obtain⟨n,en,n1,nm⟩ : ∃ n:Nat,1 +(c0.fdiv 75).fmod (mo:Int) =(n:Int)/\1<=n/\n<=mo:=by
  have f0:=wy (c0.fdiv 75) (show(0:Int) <(mo:Int) by omega);have f1:=wH (c0.fdiv 75) (show(0:Int) <(mo:Int) by omega);exact⟨(1 +(c0.fdiv 75).fmod (mo:Int)).toNat,by omega,by omega,by omega⟩
 obtain⟨m,em,m1,m2⟩ : ∃ m:Nat,1 +(c0.fdiv 375).fmod 2 =(m:Int)/\1<=m/\m<=2:=by
  have f0:=wy (c0.fdiv 375) (show(0:Int)<2 by decide);have f1:=wH (c0.fdiv 375) (show(0:Int)<2 by decide);exact⟨(1 +(c0.fdiv 375).fmod 2).toNat,by omega,by omega,by omega⟩
 obtain⟨qn,eq,q1,q2⟩ : ∃ qn:Nat,1 +(c0.fdiv 750).fmod 2 =(qn:Int)/\1<=qn/\qn<=2:=by
  have f0:=wy (c0.fdiv 750) (show(0:Int)<2 by decide);have f1:=wH (c0.fdiv 750) (show(0:Int)<2 by decide);exact⟨(1 +(c0.fdiv 750).fmod 2).toNat,by omega,by omega,by omega⟩
 rw[en,em,eq]at *;have g2:=ze hpz (.tup [.int (n:Int),.int (m:Int),.int (qn:Int)]);have hz2:upd H1 pz (.tup [.int (n:Int),.int (m:Int),.int (qn:Int)]) pz=some (.tup [.int (n:Int),.int (m:Int),.int (qn:Int)]):=zg;generalize upd H1 pz (.tup [.int (n:Int),.int (m:Int),.int (qn:Int)])=H2 at *;have n10:n<=10:=by rcases mob with⟨_,h⟩|⟨_,h⟩ <;> omega
 refine⟨_,rfl,_,_,rfl,rfl,(by show(1500:Int)≠0;decide),_,_,rfl,rfl,(by show(3:Int)≠0;decide),rfl,?_⟩
 try dsimp only
 generalize decide (V.int ((c0.fdiv 1500).fmod 3)=V.int 0)=pb;refine⟨_,rfl,_,rfl,_,rfl,_,rfl,_,rfl,pz,_,_,.int (n:Int),rfl,rfl,SqT.of hz2,rfl,_,rfl,c0,n,pb,rfl,by omega,fun ss ps H3 g3 hs3 lss=>?_⟩;have g13:=(g1.trans g2).trans g3;refine⟨k,pc,pz,ps,c0::cs',ss,n,m,qn,rfl,hk,g13 _ _ hc,ne,g3 _ _ hz2,hs3,lss,n10,by omega,by omega,fun A B C pt pr ts rs at' H4 G tA tB tC hpt ptn nt nr hpr=>?_⟩;refine⟨pr,_,rfl,SqT.of hpr,rfl,_,_,rfl,_,_,rfl,rfl,?_⟩;have T0:TWs k n m qn (fun _=>2) [A,B,C]:=⟨rfl,fun I M hM=>by
  match I,hM with
  | 0,hM=>cases hM;exact tA
  | 1,hM=>cases hM;exact tB
  | 2,hM=>cases hM;exact tC⟩
 clear tA tB tC hpr;refine⟨2,rfl,(by decide),(by decide),?_⟩;refine yw (lo:=0) (n:=2) (fun l σ H'=>∃ Ms rs o8,σ=[some (.ref pc),some (.ref pq),some (.int c0),some (.int k),some (.ref pz),some (.bl pb),some (.ref pt),some (.int (at':Int)),o8]/\kai H3 H' Ms ts rs/\TWs k n m qn (fun _=>if l=0 then 2 else if l=1 then 8 else 14) Ms/\H' pt=some (.lst (ts.map V.ref))/\(∀ ras∈rs,pt∉ras)) ⟨_,rs,none,rfl,G,T0,hpt,nr⟩ ?_ ?_
 ·clear G T0 hpt nr
  rintro l σ H5 hl ⟨Ms,rs,o8,rfl,G,T,hpt,nr⟩
  refine⟨_,rfl,_,rfl,?_⟩;refine ite2 (fun cb=>?_) (fun cb=>?_)
  ·have hc5:H5 pc=some (.lst ((c0::cs').map V.int)):=G.same _ _ (g13 _ _ hc);refine⟨_,rfl,_,rfl,_,rfl,_,rfl,_,rfl,pc,_,rfl,SqL.of hc5,fun p1 hp1=>?_⟩;obtain⟨zs,ez⟩:=zf7 (c0::cs') (some (at':Int)) none;have lzs:zs.length<=1000:=by
    have:(zs.map V.int).length<=((c0::cs').map V.int).length:=by rw[← ez];unfold cutV;rw[wt,vE];omega
    rw[wa,wa]at this;omega
   rw[ez];refine⟨(by show 3<=sizeLine;decide),fun p2 hp2=>?_⟩;have n12:p1≠p2:=fun e=>by rw[e,zg]at hp2;cases hp2
   refine⟨p1,p2,_,_,rfl,rfl,(by rw[zM n12];exact zg),zg,(by rw[wa];show zs.length+3<=sizeLine;omega),fun p3 hp3=>?_⟩;have e3:zs.map V.int++[V.int 0,V.int 0,V.int 0] =(zs++[0,0,0]).map V.int:=by simp
   rw[e3]at *;have g6:=((ze hp1 (.lst (zs.map V.int))).trans (ze hp2 (.lst [V.int 0,V.int 0,V.int 0]))).trans (ze hp3 (.lst ((zs++[0,0,0]).map V.int)));have h3':upd (upd (upd H5 p1 (.lst (zs.map V.int))) p2 (.lst [V.int 0,V.int 0,V.int 0])) p3 (.lst ((zs++[0,0,0]).map V.int)) p3=some (.lst ((zs++[0,0,0]).map V.int)):=zg;generalize upd (upd (upd H5 p1 (.lst (zs.map V.int))) p2 (.lst [V.int 0,V.int 0,V.int 0])) p3 (.lst ((zs++[0,0,0]).map V.int))=H6 at *;have ll:l <(zs++[(0:Int),0,0]).length:=by rw[wD];show l<zs.length+3;omega
   have el:((zs++[(0:Int),0,0]).map V.int)[l]?=some (.int (zs++[(0:Int),0,0])[l]):=by rw[wk,wc ll];rfl
   refine⟨_,rfl,p3,_,_,.int (zs++[(0:Int),0,0])[l],rfl,rfl,SqL.of h3',(by rw[vC];exact zH el),_,rfl,_,_,rfl,rfl,(by show(4500:Int)≠0;decide),_,_,rfl,rfl,k,_,Ms,H3,ts,pt,rs,n,m,qn,_,rfl,hk,G.mono g6,T,g6 _ _ hpt,nr,nt,n1,n10,by omega,by omega,(by split <;>(try split) <;> omega),fun Ms' rs' H7 G7 T7 hpt7 nr7=>?_⟩;refine⟨Ms',rs',_,rfl,G7,T7.up fun _=>?_,hpt7,nr7⟩
   rcases (show l=0\/l=1 by omega)with e|e
   ·subst e;decide
   ·subst e;decide
  ·refine⟨Ms,rs,_,rfl,G,T.up fun _=>?_,hpt,nr⟩
   rcases (show l=0\/l=1 by omega)with e|e
   ·subst e;decide
   ·subst e;decide
 ·rintro σ H5 ⟨Ms,rs,o8,rfl,G,T,hpt,nr⟩
  obtain⟨A,B,C,rfl⟩ : ∃ A B C,Ms=[A,B,C]:=by
   match Ms,T.1 with
   | [A,B,C],_=>exact⟨A,B,C,rfl⟩
  obtain⟨ta,tb,tc,rfl⟩ : ∃ ta tb tc,ts=[ta,tb,tc]:=by
   match ts,G.lt with
   | [ta,tb,tc],_=>exact⟨ta,tb,tc,rfl⟩
  obtain⟨ra,rb,rc,rfl⟩ : ∃ ra rb rc,rs=[ra,rb,rc]:=by
   match rs,G.lr with
   | [ra,rb,rc],_=>exact⟨ra,rb,rc,rfl⟩
  refine⟨_,rfl,_,rfl,pt,_,_,.ref ta,rfl,rfl,SqL.of hpt,zH (j:=0) rfl,_,rfl,pt,_,_,.ref tb,rfl,rfl,SqL.of hpt,zH (j:=1) rfl,_,rfl,pt,_,_,.ref tc,rfl,rfl,SqL.of hpt,zH (j:=2) rfl,(by show 3<=sizeLine;decide),fun pm hpm=>?_⟩;have g6:=ze hpm (.tup [.ref ta,.ref tb,.ref tc]);have hm6:upd H5 pm (.tup [.ref ta,.ref tb,.ref tc]) pm=some (.tup [.ref ta,.ref tb,.ref tc]):=zg;generalize upd H5 pm (.tup [.ref ta,.ref tb,.ref tc])=H6 at *;refine⟨_,rfl,_,_,rfl,rfl,(by show 3<=sizeLine;decide),fun p3 hp3=>?_⟩;have g7:=ze hp3 (.tup [.int k,.ref pm,.int ((at':Int)+2)]);have G7:=(G.mono g6).mono g7;have ft:Fit k n:=⟨n1,by
   rcases mob with⟨_,h⟩|⟨k0,h⟩
   ·exact .inl (by omega)
   ·exact .inr ⟨k0,by omega⟩⟩
  refine q k n m qn (at'+2) A B C p3 pm ta tb tc ra rb rc _ (((g13.trans G.same).trans g6).trans g7) ?_ ⟨g7 _ _ hm6,G7.tabs 0 A ta ra rfl rfl rfl,G7.tabs 1 B tb rb rfl rfl rfl,G7.tabs 2 C tc rc rfl rfl rfl⟩ hs ft ⟨(T.2 0 A rfl).tok hk (by decide) (by decide),(T.2 1 B rfl).tok hk (by decide) (by decide),(T.2 2 C rfl).tok hk (by decide) (by decide)⟩ ⟨T.2 0 A rfl,T.2 1 B rfl,T.2 2 C rfl,hk0⟩ m1 m2 q1 q2 (by rcases mob with⟨_,h⟩|⟨_,h⟩ <;> omega);rw[zg]
  rfl
theorem ze5 (D:Df K mg "_law_across" Qn xQ) (zy:mg "range" = none) (m_len:mg "len" = none):Kn P w K mg base "_law_across" 1 Qn xh:=by
 refine D.kn XN (fun vs H Q E h=>?_) (fun f cdv A outer s H vs Q E hr h=>?_)
 ·obtain⟨M,n,top,ras,rfl,_⟩:=h;rfl
 obtain⟨M,n,top,ras,rfl,hT,hM,hn,nz,mz,q⟩:=h;refine⟨_,(zi (zq (yV ["_law_table"] [0] (zR rfl zy (za (zw zA rfl m_len yb (za (zD zo (pv 0) zf) zd)) zd)) fun _ _ _ _ _ _=>⟨zJ,(yV ["_law_j"] [0] (zE (pv 1)) fun _ _ _ _ _ _=>⟨zJ,(zD zo (pv 0) (pv 1))⟩)⟩))),?_⟩;obtain⟨M0,M',rfl⟩:=uL hM;have hras:=zj hT.2;obtain⟨r0,ras',e0⟩ : ∃ r0 ras',ras=r0::ras':=by
  cases ras with
  | nil=>simp at hras
  | cons a b=>exact⟨a,b,rfl⟩
 obtain⟨vs0,h0,p0,l0⟩:=(xl hT.2 (i:=0) rfl (by rw[e0];rfl)).len;have n0:=hn M0 wp;have szl:=dh
 refine⟨_,rfl,top,_,_,_,rfl,rfl,SqL.of hT.1,(by rw[e0];exact zH (j:=0) rfl),r0,_,rfl,.inl (SqL.of h0),_,rfl,(by omega),(by omega),?_⟩;have en:(vs0.length:Int).toNat=n:=by omega
 rw[en];refine yt (lo:=0) (n:=n) (fun i ys H'=>∃ ras2,ys=ras2.map V.ref/\Grow H H' ((kab n (M0::M')).take i) ras2) ⟨[],rfl,Grow.nil H (Same.refl H)⟩ ?_ ?_ ?_
 ·rintro i ys H' hi ⟨ras2,rfl,G⟩
  have:=zj G.rows;rw[wt,zK]at this;rw[wa];omega
 ·rintro i ys H' hi ⟨ras2,rfl,G⟩
  first|refine gyes ?_|refine tyes ?_
  refine⟨_,rfl,top,rfl,⟨_,SqL.of (G.same _ _ hT.1)⟩,?_⟩;refine zN (xs:=ras.map V.ref) (fun j ys' H2=>H2=H'/\Paired (RN H') (((M0::M').map fun r=>r.getD i (.z 0)).take j) ys') ⟨rfl,.nil⟩ ?_ ?_ ?_
  ·rintro j ys' H2 hj ⟨rfl,pr⟩
   refine⟨SqL.of (G.same _ _ hT.1),?_⟩;have:=zj pr;rw[wt,wa]at this;omega
  ·rintro j v ys' H2 hv hj ⟨rfl,pr⟩
   obtain⟨xs,a,hx,ha,rfl,hrow⟩:=(hT.mono G.same).row hv;obtain⟨us,hu,pu,lu⟩:=hrow.len;have nx:=hn xs (wg hx);have hi':i<xs.length:=by omega
   obtain⟨u,eu,ru⟩:=yv pu (wc hi')
   first|refine gyes ?_|refine tyes ?_
   refine⟨_,rfl,_,rfl,a,_,_,_,rfl,rfl,SqL.of hu,(by rw[vC];exact zH eu),nxt hj ⟨rfl,?_⟩⟩;have e:((M0::M').map fun r=>r.getD i (.z 0))[j]?=some (xs.getD i (.z 0)):=by rw[wk,hx];rfl
   rw[zp e];refine zS pr ?_;rw[we,wc hi'];exact ru
  ·rintro ys' H2 ⟨rfl,pr⟩ p hp
   rw[wo (by rw[wa,wa];omega)]at pr;refine nxt hi ⟨ras2++[p],by rw[wv];rfl,?_⟩;rw[zp (ZZ hi)];exact G.snoc hp pr
 ·rintro ys H' ⟨ras2,rfl,G⟩ t ht
  rw[wo (by rw[zK];exact wu _)]at G;exact q t ras2 _ (G.same.trans (ze ht _)) (G.done ht)
theorem Jo:∀ xs ys:List Nb,PyData.eqvAll (xs.map toD) (ys.map toD)=decide (xs=ys)
 | [],[]=>rfl
 | [],y::ys=>by simp[PyData.eqvAll]
 | x::xs,[]=>by simp[PyData.eqvAll]
 | x::xs,y::ys=>by
  show(PyData.eqv (toD x) (toD y) && PyData.eqvAll (xs.map toD) (ys.map toD))=_;rw[YZ,Jo xs ys]
  by_cases h:x=y
  ·by_cases h':xs=ys
   ·simp[h,h']
   ·simp[h,h']
  ·simp[h]
theorem zgu(xs ys:List Nb):PyData.eqv (rowD xs) (rowD ys)=decide (xs=ys):=Jo xs ys
theorem ziw{H1:Hp}{xs:List Nb}{us:List V}{x:Nb}{v:V}{pt:Addr}(hp:H1 pt=some (.lst us))(pu:Paired (RN H1) xs us)(rx:RN H1 x v):Paired (RN (upd H1 pt (.lst (us++[v])))) (xs++[x]) (us++[v]) :=
 zS (xp (fun _ _ r=>r.upd hp) pu) (rx.upd hp)
theorem za5{k:Int}{a b:Nat}(hk:kaa k)(l:List (Nb×Nb))(h:∀ p∈l,p.1.ok k/\p.2.ok k/\szk k a p.1/\szk k b p.2):∀ i,i<=l.length->szk k (i *(a+b+1)+1) (La.ndotF k (l.take i)):=by
 intro i
 induction i with
 | zero =>
  intro _ k0;subst k0;exact⟨(xw _),sm_one.mono (by omega)⟩
 | succ i ih =>
  intro hi;have hg:l[i]?=some l[i]:=wc hi;have hp:=h l[i] (wm hi);have hl:∀ q∈l.take i,_:=fun q hq=>h q (vw hq)
  rw[zp hg,La.ZU];have o1:=La.qI hk (l.take i) fun q hq=>⟨(hl q hq).1,(hl q hq).2.1⟩
  refine(Jv o1 (La.yB hk hp.1 hp.2.1) (ih (by omega)) (jH hp.1 hp.2.1 hp.2.2.1 hp.2.2.2)).mono ?_;rw[gJ];omega
def Xg:Sp:=fun vs H Q _=>∃(k:Int)(A:TB)(x:List Nb)(n a0 b:Nat)(ta ax:Addr)(ra:List Addr),vs=[.int k,.ref ta,.ref ax]/\kaa k/\kag H A ta ra/\kah H x ax/\La.OkM k n A/\x.length=n/\La.OkR k x/\(∀ r∈A,∀ y∈r,szk k a0 y)/\(∀ y∈x,szk k b y)/\a0+b<=5000000/\n<=10/\A.length<=10 /\
 ∀ p H',Same H H'->NewR H H' (imgM k A x) p->(∀ y∈imgM k A x,szk k (n *(a0+b+1)+1) y)->Q (.ref p) H'
theorem zfK (D:Df K mg "_law_image" Qy jf) (zU:Kn P w K mg base "_law_make" 1 qc xD) (yp:Kn P w K mg base "_law_plus" 42 qe (xV nadd)) (yg:Kn P w K mg base "_law_times" 42 qe (xV nmul)) (zy:mg "range" = none) (m_len:mg "len" = none):Kn P w K mg base "_law_image" 43 Qy Xg:=by
 refine D.kn sY (fun vs H Q E h=>?_) (fun f cdv A' outer s H vs Q E hr h=>?_)
 ·obtain⟨k,A,x,n,a0,b,ta,ax,ra,rfl,_⟩:=h;rfl
 obtain⟨k,A,x,n,a0,b,ta,ax,ra,rfl,hk,hT,hX,oA,lx,ox,sA,sx,hb,n10,a10,q⟩:=h;have szl:=dh
 have la:=zj hT.2;have szf:∀ r∈A,∀ i,szk k (n *(a0+b+1)+1) (La.ndotF k ((r.zip x).take i)):=fun r hr i=>by
  have lz:(r.zip x).length=n:=by rw[vZ,(oA r hr).1,lx,Gn]
  have hz:∀ p∈r.zip x,p.1.ok k/\p.2.ok k/\szk k a0 p.1/\szk k b p.2:=fun p hp=>⟨(oA r hr).2 _ (wT hp).1,ox _ (wT hp).2,sA r hr _ (wT hp).1,sx _ (wT hp).2⟩
  have up:∀ i,i<=n->i *(a0+b+1)+1<=n *(a0+b+1)+1:=fun i hi=>by
   have:=wP (a0+b+1) hi;omega
  rcases GQ i n with h|h
  ·exact(za5 hk _ hz i (by omega)).mono (up i h)
  ·have:=za5 hk _ hz n (by omega);rw[wo (by omega)]at this ⊢;exact this.mono (up n (wu _))
 have big:n *(a0+b+1)+1<=60000000:=by
  have:n *(a0+b+1)<=10 *(a0+b+1):=wP _ n10;omega
 refine⟨_,(zc (zk (i:=3) sY.nd rfl (.inl rfl) (yl zd)) (zc (yE PassesOwn.never rfl (zE (pv 1)) (zC (i:=4) sY.nd rfl (.inl rfl)) (zc (zk (i:=5) sY.nd rfl (.inl rfl) (zt zU hr (za (pv 0) (za zf zd)))) (zc (yE PassesOwn.never rfl (zR rfl zy (za (zw zA rfl m_len yb (za (pv 2) zd)) zd)) (zC (i:=6) sY.nd rfl (.inl rfl)) (zi (zk (i:=5) sY.nd rfl (.inl rfl) (zt yp hr (za (pv 0) (za (pv 5) (za (zt yg hr (za (pv 0) (za (zD zo (pv 4) (pv 6)) (za (zD zo (pv 2) (pv 6)) zd)))) zd))))))) (zi (yU (bm0 (fun _ h=>Zy PySem.F.plainAttrs_list PySem.F.slot_list_append PySem.F.type_list_append yK h (za (pv 5) zd)) (pv 3))))))) (zi (zq (pv 3))))),?_⟩;refine⟨(by show 0<=sizeLine;decide),fun pt hpt=>?_⟩;have g0:=ze hpt (.lst []);have h0:upd H pt (.lst []) pt=some (.lst []):=zg;replace hT:=hT;refine⟨_,rfl,ta,rfl,⟨_,SqL.of (g0 _ _ hT.1)⟩,?_⟩;refine xN (xs:=ra.map V.ref) (fun i σ H'=>∃ us o4 o5 o6,σ=[some (.int k),some (.ref ta),some (.ref ax),some (.ref pt),o4,o5,o6]/\Same H H'/\H' pt=some (.lst us)/\Paired (RN H') ((imgM k A x).take i) us) ⟨[],none,none,none,rfl,g0,h0,.nil⟩ ?_ ?_ ?_
 ·rintro i σ H' _ ⟨us,o4,o5,o6,rfl,g,_⟩
  exact SqL.of (g _ _ hT.1)
 ·rintro i v σ H' hv ⟨us,o4,o5,o6,rfl,g,hp,pu⟩
  obtain⟨row,a,hrow,ha,rfl,hR⟩:=(hT.mono g).row hv;obtain⟨rs,hrs,prs,lrs⟩:=hR.len;obtain⟨xs,hxs,pxs,lxs⟩:=(hX.mono g).len;have hr':=wg hrow;have orow:=oA row hr';refine⟨_,rfl,k,0,rfl,hk,fun v0 H1 g1 r1=>?_⟩;refine⟨_,rfl,ax,_,rfl,.inl (SqL.of (g1 _ _ hxs)),_,rfl,(by omega),(by omega),?_⟩;have en:((xs.length:Int)).toNat=n:=by omega
  rw[en];refine yw (lo:=0) (n:=n) (fun j σ H2=>∃ w o6,σ=[some (.int k),some (.ref ta),some (.ref ax),some (.ref pt),some (.ref a),some w,o6]/\Same H' H2/\RN H2 (La.ndotF k ((row.zip x).take j)) w) ⟨v0,_,rfl,g1,r1⟩ ?_ ?_
  ·rintro j σ H2 hj ⟨w,o6,rfl,g2,rw2⟩
   have hj1:j<row.length:=by rw[orow.1];exact hj
   have hj2:j<x.length:=by omega
   obtain⟨u1,e1,ru1⟩:=yv prs (wc hj1);obtain⟨u2,e2,ru2⟩:=yv pxs (wc hj2);have m1:=wm hj1;have m2:=wm hj2;have oo1:=orow.2 _ m1;have oo2:=ox _ m2;have on:=La.qI hk ((row.zip x).take j) fun p hp=>by
    have hz:=vw hp;exact⟨orow.2 _ (wT hz).1,ox _ (wT hz).2⟩
   refine⟨_,rfl,_,rfl,_,rfl,_,rfl,_,rfl,a,_,_,_,rfl,rfl,SqL.of (g2 _ _ hrs),(by rw[vC];exact zH e1),_,rfl,_,rfl,ax,_,_,_,rfl,rfl,SqL.of (g2 _ _ hxs),(by rw[vC];exact zH e2),k,row[j],x[j],u1,u2,rfl,⟨hk,oo1,oo2,(sA row hr' _ m1).nsm hk oo1 (by omega) (by decide),(sx _ m2).nsm hk oo2 (by omega) (by decide),ru1.mono g2,ru2.mono g2⟩,fun v1 H3 g3 r3=>?_⟩;refine⟨k,_,_,w,v1,rfl,⟨hk,on,La.yB hk oo1 oo2,(szf row hr' j).nsm hk on (by omega) (by decide),(jH oo1 oo2 (sA row hr' _ m1) (sx _ m2)).nsm hk (La.yB hk oo1 oo2) (by omega) (by decide),rw2.mono g3,r3⟩,fun v2 H4 g4 r4=>?_⟩;refine⟨v2,_,rfl,(g2.trans g3).trans g4,?_⟩;have ez:(row.zip x)[j]?=some (row[j],x[j]):=by rw[uO];exact⟨wc hj1,wc hj2⟩
   rw[zp ez,La.ZU];exact r4
  ·rintro σ H2 ⟨w,o6,rfl,g2,rw2⟩
   have el:(row.zip x).take n=row.zip x:=wo (by rw[vZ,orow.1,lx];omega);rw[el]at rw2;have hp2:=g2 _ _ hp;have lus:=zj pu;rw[wt]at lus;have lim:(imgM k A x).length=A.length:=by unfold imgM;exact wa _
   refine⟨_,rfl,.inl ⟨rfl,_,SqL.of hp2⟩,_,rfl,pt,us,w,rfl,rfl,hp2,by omega,?_⟩;have ei:(imgM k A x)[i]?=some (La.ndot k row x):=by unfold imgM;rw[wk,hrow];rfl
   refine⟨us++[w],_,_,_,rfl,yC (g.trans g2) hpt,zg,?_⟩;rw[zp ei];exact ziw hp2 (yJ g2 pu) rw2
 ·rintro σ H' ⟨us,o4,o5,o6,rfl,g,hp,pu⟩
  rw[wa,← la,wo (by unfold imgM;rw[wa];exact wu _)]at pu;refine⟨_,rfl,q pt H' g ⟨⟨us,hp,pu⟩,hpt⟩ fun y hy=>?_⟩;unfold imgM at hy;obtain⟨r,hr,rfl⟩:=wj.mp hy;have:=szf r hr n;rw[wo (by rw[vZ,(oA r hr).1,lx];omega)]at this;exact this
theorem fermat:∀ p:Nat,p<99->primeB p=true->∀ x:Nat,x<p->0<x->x^(p - 2) % p*x % p=1:=by decide +kernel
theorem zgf(p t o l:Nat):(if l % 2=1 then t*o % p else t) *(o*o % p)^(l / 2) % p=t*o^l % p:=by
 have e:o^l =(o*o)^(l / 2)*o^(l % 2):=by
  rw[← wbb,← GZ,← uK,GR]
 have h1:∀ a:Nat,a *(o*o % p)^(l / 2) % p=a *(o*o)^(l / 2) % p:=fun a=>by
  rw[Gb,← gD,← Gb]
 rw[h1,e]
 by_cases h:l % 2=1
 ·rw[if_pos h,h,wbc];rw[Gb (t*o % p),Nat.mod_mod,← Gb]
  congr 1
  rw[GC,gR o]
 ·rw[if_neg h,show l % 2=0 by omega,wan,Gu]
def zcr:Sp:=fun vs H Q _=>∃(k:Int)(x:Nb)(v:V),vs=[.int k,v]/\KindS k/\x.ok k/\x≠nnum k 0/\nsm 20000000 x/\RN H x v /\
 ∀ b v' H',Same H H'->RN H' b v'->b.ok k->nmul k b x=nnum k 1->(∀ m,szk k m x->szk k m b)->Q v' H'
theorem zf8 (hP:P.given.tree=none) (hS:base.NoSeer) (D:Df K mg "_law_back" QA jG) (yn:Kn P w K mg base "_law_fraction" 41 SX qi):Kn P w K mg base "_law_back" 42 QA zcr:=by
 refine D.kn Sa (fun vs H Q E h=>?_) (fun f cdv A' outer s H vs Q E hr h=>?_)
 ·obtain⟨k,x,v,rfl,_⟩:=h;rfl
 obtain⟨k,x,v,rfl,hk,ox,ne,sx,rx,q⟩:=h;have kl:=hk.ok.lt;refine⟨_,(zc (yz (zI xc (pv 0) zf (kae _)) (zi (zq (zt yn hr (za (zm zW (zD zG (pv 1) zf) (zD zG (pv 1) zf)) (za (zm zW (zD zG (pv 1) zf) (zD zG (pv 1) zf)) zd))))) zQ) (zc (zk (i:=2) Sa.nd rfl (.inl rfl) zf) (zc (zk (i:=3) Sa.nd rfl (.inl rfl) (zm xZ (pv 0) zf)) (zc (jl PassesOwn.never (zI ZY (pv 3) zf (kae _)) (zc (yz (zI xc (zm zO (pv 3) zf) zf (kae _)) (zi (zk (i:=2) Sa.nd rfl (.inl rfl) (zm zO (zm zW (pv 2) (pv 1)) (pv 0)))) zQ) (zc (zk (i:=1) Sa.nd rfl (.inl rfl) (zm zO (zm zW (pv 1) (pv 1)) (pv 0))) (zi (zk (i:=3) Sa.nd rfl (.inl rfl) (zm (yc hr (by decide) hP hS ⟨_,_,rfl,rfl,rfl,rfl,rfl⟩) (pv 3) zf)))))) (zi (zq (pv 2))))))),?_⟩;cases x with
 | q r =>
  obtain⟨p,rfl,hp⟩:=rx.q;have k0:k=0:=ox;subst k0;have r0:r≠0:=fun e=>ne (by rw[e];rfl)
  have n0:r.num≠0:=fun e=>r0 (waK.mp e)
  have sp:(0:Int)<r.num*r.num:=by
   have:=gh.mpr n0;rw[← Int.natAbs_mul_self' r.num];have h2:0 <(r.num.natAbs:Int):=by omega
   exact Gv h2 h2
  refine⟨_,rfl,rfl,_,rfl,iteT ?_⟩;refine⟨_,rfl,p,_,_,_,rfl,rfl,SqT.of hp,rfl,_,rfl,p,_,_,_,rfl,rfl,SqT.of hp,rfl,_,_,rfl,rfl,sx.2.mulOk sx.1 (by decide),_,rfl,p,_,_,_,rfl,rfl,SqT.of hp,rfl,_,rfl,p,_,_,_,rfl,rfl,SqT.of hp,rfl,_,_,rfl,rfl,sx.1.mulOk sx.1 (by decide),_,_,rfl,sp,fun p' H' g h=>?_⟩;have e:vJ ((r.den:Int)*r.num) (r.num*r.num)=r⁻¹:=by
   rw[wa8,Rat.divInt_mul_right n0]
  rw[e]at h;refine q (.q r⁻¹) _ H' g (RN.of_q h) rfl ?_ fun m hm _=>?_
  ·show Nb.q (r⁻¹*r)=Nb.q _;rw[Rat.mul_comm,Rat.mul_inv_cancel r r0];rfl
  ·have hs:=hm rfl;refine⟨?_,?_⟩
   ·show Sm m (r⁻¹).num;rw[Rat.num_inv];have hd:Sm m (r.den:Int):=hs.2;unfold Sm at hd ⊢;rw[vG];have:r.num.sign.natAbs=1:=by rw[Int.natAbs_sign_of_ne_zero n0]
    rw[this,uS];exact hd
   ·show Sm m ((r⁻¹).den:Int);rw[Rat.den_inv,if_neg n0];have hn:Sm m r.num:=hs.1;unfold Sm at hn ⊢
    simpa using hn
 | z i =>
  rw[rx.z];have k0:k≠0:=ox.1;have hpr:PrS k:=by
   rcases hk with h|h
   ·exact absurd h k0
   ·exact h
  obtain⟨p,rfl⟩:=uT kl.1;obtain⟨x,rfl⟩:=uT ox.2.1;have plo:=hpr.lo;have phi:=hpr.hi;have x1:x<p:=by have:=ox.2.2;omega
  have x0:0<x:=by
   rcases gQ x with h|h
   ·exact absurd (by rw[h];unfold nnum;rw[if_neg k0];simp) ne
   ·exact h
  have fe:=fermat p (by omega) (by have:=hpr.pr;simpa using this) x x1 x0;refine⟨_,rfl,rfl,_,rfl,?_⟩;rw[decide_eq_false (fun e=>k0 (V.int.inj e))];refine iteF ?_;refine⟨_,rfl,_,_,rfl,rfl,?_⟩;refine⟨fun l σ H'=>∃(o t:Nat),σ=[some (.int (p:Int)),some (.int (o:Int)),some (.int (t:Int)),some (.int (l:Int))]/\H'=H/\o<p/\t<p/\t*o^l % p=x^(p - 2) % p,⟨p - 2,x,1,by rw[show((p - 2:Nat):Int) =(p:Int) - 2 by omega];rfl,rfl,x1,by omega,by rw[uS]⟩,?_⟩
  rintro l σ H' ⟨o,t,rfl,rfl,ho,ht,inv⟩
  refine⟨_,rfl,_,_,rfl,rfl,_,rfl,?_⟩;have modN:∀ a b:Nat,((a:Int) *(b:Int)).fmod (p:Int) =((a*b % p:Nat):Int):=fun a b=>by
   rw[uh _ (by omega),waH,uY]
  have p7:p<99:=by omega
  refine ite2 (fun c=>?_) (fun c=>?_)
  ·have l0:0<l:=by have:(0:Int) <(l:Int):=of_decide_eq_true c;omega
   refine⟨_,fun _ _ h=>h,?_⟩;have l2:((l:Int)).fmod 2 =((l % 2:Nat):Int):=by rw[uh _ (by decide),waH];rfl
   have d2:((l:Int)).fdiv 2 =((l / 2:Nat):Int):=by rw[Gw _ (by decide),Int.natCast_ediv];rfl
   have stp:=zgf p t o l;refine⟨_,rfl,_,_,rfl,rfl,(by show(2:Int)≠0;decide),rfl,_,rfl,?_⟩;rw[l2];refine ite2 (fun c2=>?_) (fun c2=>?_)
   ·have h2:l % 2=1:=by have:=V.int.inj (of_decide_eq_true c2);omega
    refine⟨_,rfl,_,rfl,_,_,rfl,rfl,yX (by omega) (by omega),_,rfl,_,_,rfl,rfl,(by show(p:Int)≠0;omega),?_⟩;refine⟨_,rfl,_,rfl,_,_,rfl,rfl,yX (by omega) (by omega),_,rfl,_,_,rfl,rfl,(by show(p:Int)≠0;omega),?_⟩;refine⟨_,rfl,_,_,rfl,rfl,(by show(2:Int)≠0;decide),?_⟩;rw[if_pos h2]at stp;refine⟨l / 2,waQ l0 (by decide),o*o % p,t*o % p,?_,rfl,wag _ (by omega),wag _ (by omega),stp.trans inv⟩;show [some (V.int (p:Int)),some (V.int (((o:Int) *(o:Int)).fmod (p:Int))),some (V.int (((t:Int) *(o:Int)).fmod (p:Int))),some (V.int (((l:Int)).fdiv 2))]=_;rw[modN,modN,d2]
   ·have h2:¬ l % 2=1:=fun e=>c2 (by rw[e];rfl)
    refine⟨_,rfl,_,rfl,_,_,rfl,rfl,yX (by omega) (by omega),_,rfl,_,_,rfl,rfl,(by show(p:Int)≠0;omega),?_⟩;refine⟨_,rfl,_,_,rfl,rfl,(by show(2:Int)≠0;decide),?_⟩;rw[if_neg h2]at stp;refine⟨l / 2,waQ l0 (by decide),o*o % p,t,?_,rfl,wag _ (by omega),ht,stp.trans inv⟩;show [some (V.int (p:Int)),some (V.int (((o:Int) *(o:Int)).fmod (p:Int))),some (V.int (t:Int)),some (V.int (((l:Int)).fdiv 2))]=_;rw[modN,d2]
  ·have l0:l=0:=by
    have:¬(0:Int) <(l:Int):=of_decide_eq_false (vX.mpr c);omega
   subst l0;rw[wan,Gu,GK ht]at inv;refine⟨_,rfl,q (.z (t:Int)) _ H' (Same.refl _) RN.of_z ⟨k0,by omega,by omega⟩ ?_ fun m _ e=>absurd e k0⟩;show Nb.z (((t:Int) *(x:Int)).fmod (p:Int))=nnum (p:Int) 1;rw[modN,inv,fe];unfold nnum;rw[if_neg k0];have:(1:Int).fmod (p:Int)=1:=by rw[uh _ (by omega)];exact Int.emod_eq_of_lt (by decide) (by omega)
   rw[this];rfl
theorem jb{k:Int}(hk:kaa k){m n:Nat}{x:Nb}(o:x.ok k)(h:szk k m x)(hm:k=0->m<=n)(h7:61<=n):nsm n x:=by
 by_cases k0:k=0
 ·exact(h k0).mono (hm k0)
 ·exact(Zw hk k0 o).mono h7
theorem Jy{K:PySem.W.Frag}{te:TE}{σb:L2.St}{t:Addr}{ras:List Addr}{M:TB}{H:Hp}{R:List V->Hp->Prop}(f:List Nb->List Nb)(hT:kag H M t ras)(hz:M.length<sizeLine)
  (hte:∀(r:List Nb)(a:Addr)(H':Hp)(Q:VK),r∈M->Same H H'->kah H' r a->(∀(p:Addr)(us:List V)(H2:Hp),Same H' H2->H2 p=none->Paired (RN H2) (f r) us->Q (.ref p) (upd H2 p (.lst us)))->te (σb.set 0 (some (.ref a))) H' Q)
  (hd:∀(ras2:List Addr)(H':Hp),Grow H H' (M.map f) ras2->R (ras2.map V.ref) H') :
  ∃ W:Nat->Nat->List V->Hp->Prop,(∃ m,W 0 m [] H)/\∀ i m ys H,W i m ys H ->
   ((Itl K t).stop i H/\ys.length<=sizeLine/\R ys H) \/
   ((Itl K t).go i H/\ys.length<sizeLine/\∀ x H',(Itl K t).yld i H x H'->gName 0 x σb H' fun σ2 H2=>tTrue σ2 H2 fun b H3=>if b=true then te σ2 H3 fun y H4=>∃ m',m'<m/\W (i+1) m' (ys++[y]) H4 else ∃ m',m'<m/\W (i+1) m' ys H3):=by
 have hl:=zj hT.2;refine zN (xs:=ras.map V.ref) (fun i ys H'=>∃ ras2,ys=ras2.map V.ref/\Grow H H' ((M.map f).take i) ras2) ⟨[],rfl,Grow.nil H (Same.refl H)⟩ ?_ ?_ ?_
 ·rintro i ys H' hi ⟨ras2,rfl,G⟩
  refine⟨SqL.of (G.same _ _ hT.1),?_⟩;have:=zj G.rows;rw[wt,wa]at this;rw[wa];omega
 ·rintro i v ys H' hv hi ⟨ras2,rfl,G⟩
  obtain⟨row,a,hrow,ha,rfl,hR⟩:=(hT.mono G.same).row hv;refine gyes (hte row a H' _ (wg hrow) G.same hR fun p us H2 g2 hp pu=>?_);refine nxt hi ⟨ras2++[p],by rw[wv];rfl,?_⟩;have e:(M.map f)[i]?=some (f row):=by rw[wk,hrow];rfl
  rw[zp e];exact(G.mono g2).snoc hp pu
 ·rintro ys H' ⟨ras2,rfl,G⟩
  rw[wa,← hl,wo (by rw[wa];exact wu _)]at G;exact hd ras2 H' G
theorem zbC{α β:Type}{R S:α->β->Prop}:∀ {xs:List α} {ys:List β},(∀ x y,y∈ys->R x y->S x y)->Paired R xs ys->Paired S xs ys
 | _,_,_,.nil=>.nil
 | _,_,f,.cons r t=>.cons (f _ _ wp r) (zbC (fun x y hy=>f x y (wr _ hy)) t)
theorem QQ:∀(l:List Addr)(j:Nat),(l.map V.ref).eraseIdx j =(l.eraseIdx j).map V.ref
 | [],_=>rfl
 | _::_,0=>rfl
 | a::l,j+1=>congrArg (V.ref a::·) (QQ l j)
def bdR(b c:Nat):Nat:=5^c *(b+1)
theorem Yu(b c:Nat):bdR b (c+1)=5*bdR b c:=by unfold bdR;rw[gm];rw[gR (5^c) 5,GC]
theorem zh2(b c:Nat):1<=bdR b c:=wbf (Gc (by decide)) (by omega)
theorem zbQ(b:Nat){c d:Nat}(h:c<=d):bdR b c<=bdR b d:=wP _ (vv (by decide) h)
theorem xJ{r:List Nb}{c:Nat}{d x:Nb}(h:r[c]?=some x):r.getD c d=x:=by rw[we,h];rfl
theorem zhv{k:Int}(hk:kaa k){c B:Nat}{f r:List Nb}(of:La.OkR k f)(or:La.OkR k r)(hl:r.length=f.length)(hc:c<r.length)(sr:∀ x∈r,szk k B x)(sf:∀ x∈f,szk k (B+B) x):∀ x∈La.gjR k c f r,szk k (4*B+1) x:=by
 intro x hx;unfold La.gjR at hx;have ec:r.getD c (nnum k 0)=r[c]:=xJ (wc hc);rw[ec]at hx;obtain⟨i,hi,e⟩:=wI hx;rw[vF]at e;rw[← e];have m1:=wm (l:=r) (n:=i) (by rw[wG]at hi;omega);have m2:=wm (l:=f) (n:=i) (by rw[wG]at hi;omega);have mc:=wm hc;exact(zbJ (or _ m1) (La.yB hk (or _ mc) (of _ m2)) (sr _ m1) (jH (or _ mc) (of _ m2) (sr _ mc) (sf _ m2))).mono (by omega)
def Xy:Sp:=fun vs H Q _=>∃(k:Int)(n b:Nat)(M:TB)(t:Addr)(ras:List Addr),vs=[.int k,.ref t]/\KindS k/\kag H M t ras/\La.OkM k n M/\(∀ r∈M,∀ x∈r,szk k b x)/\(k=0->n<=3)/\n<=10/\(k=0->bdR b (min n M.length)<=12500125)/\M.length<=1000 /\
 ∀(R:TB)(ls:List Nat)(t':Addr)(ras':List Addr)(H':Hp),Same H H'->kag H' R t' ras'->IsRa k n R ls->SameR k R M->(∀ r∈R,∀ x∈r,szk k (bdR b R.length) x)->Q (.ref t') H'
theorem zbh (D:Df K mg "_law_reduced" QD xy) (zU:Kn P w K mg base "_law_make" 1 qc xD) (yg:Kn P w K mg base "_law_times" 42 qe (xV nmul)) (yZ:Kn P w K mg base "_law_minus" 43 qe Zr) (zbD:Kn P w K mg base "_law_back" 42 QA zcr) (Jd:mg "list" = none) (m_len:mg "len" = none) (m_zip:mg "zip" = none):Kn P w K mg base "_law_reduced" 44 QD Xy:=by
 refine D.kn sF (fun vs H Q E h=>?_) (fun f cdv A' outer s H vs Q E hr h=>?_)
 ·obtain⟨k,n,b,M,t,ras,rfl,_⟩:=h;rfl
 obtain⟨k,n,b,M,t,ras,rfl,hs,hT,oM,sM,n3,n10,b5,lM,q⟩:=h;have hk:=hs.ok;have szl:=dh
 have z0:=La.zL hk 0;refine⟨_,(zc (zk (i:=2) sF.nd rfl (.inr rfl) (zt zU hr (za (pv 0) (za zf zd)))) (zc (Yd 3 sF.nd [] [] (zE (pv 1)) fun _ _ _ _ _ _=>⟨zJ,(qw Jp rfl Jd zdX (za (pv 0) zd))⟩) (zc (zk (i:=4) sF.nd rfl (.inl rfl) (yl zd)) (zc (zk (i:=5) sF.nd rfl (.inr rfl) zf) (zc (jl PassesOwn.never (PW.pt (pw_and (zI ZY (zw zA rfl m_len yb (za (pv 3) zd)) zf (kae _)) (pw_and1 (zI zaD (pv 5) (zw zA rfl m_len yb (za (zD zo (pv 3) zf) zd)) (kae _))))) (zc (Yd 6 sF.nd ["_law_at_here", "_law_nought"] [5,2] (zE (pv 3)) fun _ _ _ _ _ _=>⟨(Qd (zI (zhB hr) (zD zo (pv 0) (pv 1)) (pv 2) (kae _))),(pv 0)⟩) (zc (yz (zI ZY (zw zA rfl m_len yb (za (pv 6) zd)) zf (kae _)) (zc (zk (i:=7) sF.nd rfl (.inr rfl) (zD zo (pv 6) zf)) (zc (yU (bm0 (fun _ h=>Zy PySem.F.plainAttrs_list PySem.F.slot_list_remove PySem.F.type_list_remove (zeO hr) h (za (pv 7) zd)) (pv 3))) (zc (zk (i:=8) sF.nd rfl (.inr rfl) (zt zbD hr (za (pv 0) (za (zD zo (pv 7) (pv 5)) zd)))) (zc (zk (i:=7) sF.nd rfl (.inr rfl) (yV ["_law_prime_here", "_law_by"] [0,8] (zE (pv 7)) fun _ _ _ _ _ _=>⟨zJ,(zt yg hr (za (pv 1) (za (pv 2) (za (pv 0) zd))))⟩)) (zc (Yd 3 sF.nd ["_law_first", "_law_prime_here", "_law_at_here"] [7,0,5] (zE (pv 3)) fun _ _ _ _ _ _=>⟨zJ,(jy ["_law_x", "_law_y"] ["_law_prime_here", "_law_row", "_law_at_here"] [2,0,3] ⟨rfl,rfl,rfl,rfl,rfl,rfl,by decide +kernel⟩ rfl (jZ rfl m_zip (za (pv 0) (za (pv 1) zd))) (xO (zY (yd (by decide)) ya (zY (yd (by decide)) ya xn))) fun _ _ _ _ _ _=>⟨(xv 2 rfl (zP (zC (i:=0) (by decide:(["_law_x", "_law_y", "_law_prime_here", "_law_row", "_law_at_here"]:List Str).Nodup) rfl (by first|exact Or.inl rfl|exact Or.inr rfl)) (zP (zC (i:=1) (by decide:(["_law_x", "_law_y", "_law_prime_here", "_law_row", "_law_at_here"]:List Str).Nodup) rfl (by first|exact Or.inl rfl|exact Or.inr rfl)) yW))),zJ,(zt yZ hr (za (pv 2) (za (pv 0) (za (zt yg hr (za (pv 2) (za (zD zo (pv 3) (pv 4)) (za (pv 1) zd)))) zd))))⟩)⟩) (zc (Yd 4 sF.nd ["_law_first", "_law_prime_here", "_law_at_here"] [7,0,5] (zE (pv 4)) fun _ _ _ _ _ _=>⟨zJ,(jy ["_law_x", "_law_y"] ["_law_prime_here", "_law_row", "_law_at_here"] [2,0,3] ⟨rfl,rfl,rfl,rfl,rfl,rfl,by decide +kernel⟩ rfl (jZ rfl m_zip (za (pv 0) (za (pv 1) zd))) (xO (zY (yd (by decide)) ya (zY (yd (by decide)) ya xn))) fun _ _ _ _ _ _=>⟨(xv 2 rfl (zP (zC (i:=0) (by decide:(["_law_x", "_law_y", "_law_prime_here", "_law_row", "_law_at_here"]:List Str).Nodup) rfl (by first|exact Or.inl rfl|exact Or.inr rfl)) (zP (zC (i:=1) (by decide:(["_law_x", "_law_y", "_law_prime_here", "_law_row", "_law_at_here"]:List Str).Nodup) rfl (by first|exact Or.inl rfl|exact Or.inr rfl)) yW))),zJ,(zt yZ hr (za (pv 2) (za (pv 0) (za (zt yg hr (za (pv 2) (za (zD zo (pv 3) (pv 4)) (za (pv 1) zd)))) zd))))⟩)⟩) (zi (yU (bm0 (fun _ h=>Zy PySem.F.plainAttrs_list PySem.F.slot_list_append PySem.F.type_list_append yK h (za (pv 7) zd)) (pv 4)))))))))) zQ) (zi (zk (i:=5) sF.nd rfl (.inr rfl) (zm yy (pv 5) zf)))))) (zi (zq (pv 4)))))))),?_⟩;refine⟨_,rfl,k,0,rfl,hk,fun v0 H1 g1 r0=>?_⟩;refine⟨_,rfl,t,rfl,⟨_,SqL.of (g1 _ _ hT.1)⟩,?_⟩;refine zdH (hT.mono g1) (by omega) (fun a us H2 Q2 ha hq=>⟨_,rfl,a,us,rfl,.inl (SqL.of ha),hq⟩) ?_;intro rl H2 G2 pl hpl;have N2:=G2.done hpl;have g2:=g1.trans (G2.same.trans (ze hpl (.lst (rl.map V.ref))));have r2:=r0.mono (G2.same.trans (ze hpl (.lst (rl.map V.ref))));generalize upd H2 pl (.lst (rl.map V.ref))=H3 at *;refine⟨(by show 0<=sizeLine;decide),fun pt hpt=>?_⟩;have g3:=ze hpt (.lst []);have hpt3:upd H3 pt (.lst []) pt=some (.lst []):=zg;have hL3:=N2.tab.mono g3;have npt:pl≠pt:=fun e=>by rw[← e,N2.tab.1]at hpt;cases hpt
 have nplr:pl∉rl:=N2.nt;have fpl:H pl=none:=g1.none N2.ft;have g30:=g2.trans g3;have r3:=r2.mono g3;generalize upd H3 pt (.lst [])=H4 at *;clear G2 hpl r0 r2 g3 hpt g2 N2;refine⟨fun m σ H'=>∃(c:Nat)(told left:TB)(ls:List Nat)(pl pt:Addr)(rl rt:List Addr)(o6 o7 o8:Option V),σ=[some (.int k),some (.ref t),some v0,some (.ref pl),some (.ref pt),some (.int (c:Int)),o6,o7,o8]/\Same H H'/\RN H' (nnum k 0) v0/\kag H' left pl rl/\kag H' told pt rt/\H pl=none/\pl∉rl/\pl∉rt/\pl≠pt/\c<=n/\left.length<=1000/\(told.length<=c/\told.length+left.length=M.length)/\(∀ r∈told,∀ x∈r,szk k (bdR b told.length) x)/\(∀ r∈left,∀ x∈r,szk k (bdR b told.length) x)/\(∀(F:Type) [Lean.Grind.Field F] (φ:La.Kf k F),La.Gj φ n c M told left ls)/\m=n - c,⟨_,0,[],M,[],pl,pt,rl,[],_,_,_,rfl,g30,r3,hL3,⟨hpt3,.nil⟩,fpl,nplr,(fun h=>nomatch h),npt,vq _,lM,⟨wu _,vp _⟩,(fun _ h=>nomatch h),(fun r hr x hx=>(sM r hr x hx).mono (by show b<=bdR b 0;unfold bdR;omega)),(fun F _ φ=>La.Gj.start oM),rfl⟩,?_⟩;clear hpt3 hL3 npt nplr g30 r3 g1 sM lM
 rintro m σ H' ⟨c,told,left,ls,pl,pt,rl,rt,o6,o7,o8,rfl,g,r0,hL,hD,fpl,nlr,nlt,nlp,cn,ll,⟨lt,lML⟩,sD,sL,G,rfl⟩
 have lrl:=zj hL.2;have lrt:=zj hD.2;have exit:(left=[]\/n<=c)->Q (.ref pt) H':=fun h =>
  q told ls pt rt H' g hD (fun F _ φ=>((G F φ).done h).1) (fun F _ φ=>((G F φ).done h).2) sD
 refine⟨_,rfl,pl,_,rfl,.inl (SqL.of hL.1),_,_,rfl,rfl,_,rfl,?_⟩;rw[wa,← lrl]
 rcases gQ left.length with l0|l0
 ·have e:left=[]:=vN l0;rw[l0];refine iteF ?_;refine iteF ?_;exact⟨_,rfl,exit (.inl e)⟩
 rw[decide_eq_true (show(0:Int) <(left.length:Int) by omega)];refine iteT ?_;have hl0:left[0]?=some left[0]:=wc l0;obtain⟨a0,ea0,ra0⟩:=yv hL.2 hl0;obtain⟨us0,hu0,pu0,lu0⟩:=ra0.len;have okl:=(show La.OkM k n left from by obtain⟨F,_,_,⟨φ⟩⟩:=La.yi hk;exact(G F φ).okl);have okt:=(show La.OkM k n told from by obtain⟨F,_,_,⟨φ⟩⟩:=La.yi hk;exact(G F φ).okt);have w0:=(okl _ (wm l0)).1;refine⟨_,rfl,_,rfl,pl,_,_,.ref a0,rfl,rfl,SqL.of hL.1,zH (j:=0) (by rw[wk,ea0];rfl),a0,_,rfl,.inl (SqL.of hu0),_,_,rfl,rfl,_,rfl,?_⟩;rw[lu0,w0]
 rcases wO c n with hc|hc
 rotate_left
 ·rw[decide_eq_false (show ¬(c:Int) <(n:Int) by omega)];refine iteF ?_;exact⟨_,rfl,exit (.inr hc)⟩
 rw[decide_eq_true (show(c:Int) <(n:Int) by omega)];refine iteT ?_;clear exit pu0 hu0 lu0 us0 ra0 ea0 w0 hl0;refine⟨_,fun _ _ h=>h,?_⟩;have bd2:k=0->bdR b told.length<=2500025:=fun e=>by
  have h1:=b5 e;have h2:=zbQ b (show told.length+1<=min n M.length by omega);rw[Yu]at h2;omega
 have bd1:=zh2 b told.length;refine⟨_,rfl,pl,rfl,⟨_,SqL.of hL.1⟩,?_⟩;refine zN (xs:=rl.map V.ref) (fun i ys H2=>H2=H'/\ys.length<=i/\((ys=[]/\∀(m:Nat)(r:List Nb),m<i->left[m]?=some r->r.getD c (nnum k 0)=nnum k 0)\/∃(j:Nat)(r:List Nb)(a:Addr)(rest:List V),left[j]?=some r/\rl[j]?=some a/\r.getD c (nnum k 0)≠nnum k 0/\(∀(m:Nat)(r':List Nb),m<j->left[m]?=some r'->r'.getD c (nnum k 0)=nnum k 0)/\ys=.ref a::rest)) ⟨rfl,wu _,.inl ⟨rfl,fun _ _ h=>absurd h (ug _)⟩⟩ ?_ ?_ ?_
 ·rintro i ys H2 hi ⟨rfl,hy,_⟩
  rw[wa]at hi;exact⟨SqL.of hL.1,by omega⟩
 ·rintro i v ys H2 hv hi ⟨rfl,hy,hJ⟩
  obtain⟨row,a,hrow,ha,rfl,hR⟩:=hL.row hv;obtain⟨us,hu,pu,lu⟩:=hR.len;have orow:=okl row (wg hrow);have hcr:c<row.length:=by rw[orow.1];exact hc
  have ec:row[c]?=some row[c]:=wc hcr;obtain⟨u,eu,ru⟩:=yv pu ec;refine⟨_,rfl,_,rfl,a,_,_,_,rfl,rfl,SqL.of hu,zH eu,_,rfl,toD row[c],toD (nnum k 0),ru,r0,XF _,XF _,wN (gK _ _) (wN (YU _) (by decide)),_,rfl,?_⟩;rw[YZ]
  by_cases hz:row[c]=nnum k 0
  ·rw[decide_eq_true hz];refine iteF (nxt hi ⟨rfl,by omega,?_⟩)
   rcases hJ with⟨e,hJ⟩|hJ
   ·refine .inl ⟨e,fun m r hm hr=>?_⟩
    rcases uW (gW hm)with h|h
    ·exact hJ m r h hr
    ·rw[h,hrow]at hr;cases hr;rw[xJ ec];exact hz
   ·exact .inr hJ
  ·rw[decide_eq_false hz];refine iteT ⟨_,rfl,nxt hi ⟨rfl,by rw[wD];show ys.length+1<=i+1;omega,.inr ?_⟩⟩
   rcases hJ with⟨e,hJ⟩|⟨j,r,a',rest,h1,h2,h3,h4,e⟩
   ·exact⟨i,row,a,[],hrow,ha,by rw[xJ ec];exact hz,fun m r' hm hr=>hJ m r' hm hr,by rw[e];rfl⟩
   ·exact⟨j,r,a',rest++[.ref a],h1,h2,h3,h4,by rw[e];rfl⟩
 rintro ys H2 ⟨rfl,hy,hJ⟩ ps hps
 rw[wa]at hy;have g4:=ze hps (.lst ys);have hps4:upd H2 ps (.lst ys) ps=some (.lst ys):=zg;have ga:=g.trans g4;have r4:=r0.mono g4;have hL4:=hL.mono g4;have hD4:=hD.mono g4;generalize upd H2 ps (.lst ys)=H5 at *;clear hps g4 hL hD r0 g;refine⟨_,rfl,ps,_,rfl,.inl (SqL.of hps4),_,_,rfl,rfl,_,rfl,?_⟩
 rcases hJ with⟨e,hJ⟩|⟨j,p,a,rest,hp,ha,hne,hbef,e⟩
 ·subst e;refine iteF ?_;refine⟨_,rfl,_,_,rfl,rfl,?_⟩;refine⟨n - (c+1),by omega,c+1,told,left,ls,pl,pt,rl,rt,_,_,_,rfl,ga,r4,hL4,hD4,fpl,nlr,nlt,nlp,hc,ll,⟨by omega,lML⟩,sD,sL,(fun F _ φ=>(G F φ).skip fun r hr=>?_),rfl⟩;obtain⟨i,hi,er⟩:=wI hr;have:=hJ i r (by rw[wa];omega) (by rw[wc hi,er]);show φ.to (r.getD c (nnum k 0))=0;rw[this];exact(φ.zero_iff hk z0).mpr rfl
 subst e;rw[decide_eq_true (show(0:Int) <((V.ref a::rest).length:Int) by rw[vO];omega)];refine iteT ?_;have hjl:j<left.length:=(ww.mp hp).1;have pm:=wg hp;have op:=okl p pm;have hra:kah H5 p a:=xl hL4.2 hp ha;obtain⟨ua,hua,pua,lua⟩:=hra.len;have hcp:c<p.length:=by rw[op.1];exact hc
 have ecp:p[c]?=some p[c]:=wc hcp;have hne':p[c]≠nnum k 0:=by rw[xJ ecp]at hne;exact hne
 have oc:=op.2 _ (wm hcp);refine⟨_,rfl,ps,_,_,.ref a,rfl,rfl,SqL.of hps4,zH (j:=0) rfl,?_⟩;refine⟨_,rfl,.inl ⟨rfl,_,SqL.of hL4.1⟩,_,rfl,pl,_,.ref a,j,rowD p,rfl,rfl,hL4.1,(by rw[wa];omega),hra.rp,Qw p,wN (Jj p) (by decide),(fun m z hm hz=>?_),?_⟩
 ·rw[wk]at hz;obtain⟨a',ha',rfl⟩:=wK.mp hz;obtain⟨r',er',rr'⟩:=zT hL4.2 ha';refine⟨rowD r',rr'.rp,Qw r',?_⟩;rw[zgu]
  rcases uW hm with h|h
  ·have hz':=hbef m r' h er';rw[decide_eq_false (fun e=>hne (by rw[← e];exact hz')),decide_eq_false (by omega)]
  ·subst h;rw[hp]at er';cases er';rw[decide_eq_true rfl,decide_eq_true rfl]
 have em:(rl.map V.ref).eraseIdx j =(rl.eraseIdx j).map V.ref:=QQ rl j;rw[em];have hTe:kag (upd H5 pl (.lst ((rl.eraseIdx j).map V.ref))) (left.eraseIdx j) pl (rl.eraseIdx j):=⟨zg,zb1 (zbC (fun x y hy r=>r.upd (fun e=>nlr (by rw[← e];exact hy)) hL4.1) hL4.2) j⟩;have hDe:=hD4.upd (zs':=(rl.eraseIdx j).map V.ref) (Ne.symm nlp) nlt hL4.1;have hae:kah (upd H5 pl (.lst ((rl.eraseIdx j).map V.ref))) p a:=hra.upd (fun e=>nlr (by rw[← e];exact wg ha)) hL4.1;have gE:Same H (upd H5 pl (.lst ((rl.eraseIdx j).map V.ref))):=yC ga fpl;have rE:=r4.upd (zs':=(rl.eraseIdx j).map V.ref) hL4.1;generalize upd H5 pl (.lst ((rl.eraseIdx j).map V.ref))=HE at *;clear hL4 hD4 hra hua pua lua r4 ga hps4 ua em;obtain⟨ua,hua,pua,lua⟩:=hae.len;obtain⟨u,eu,ru⟩:=yv pua ecp;refine⟨_,rfl,_,rfl,_,rfl,a,_,_,_,rfl,rfl,SqL.of hua,zH eu,k,p[c],u,rfl,hs,oc,hne',jb hk oc (sL p pm _ (wm hcp)) (fun e=>by have:=bd2 e;omega) (by decide),ru,fun bb vb H6 g6 rb ob eb sb=>?_⟩;have sbb:=sb _ (sL p pm _ (wm hcp));have hua6:=g6 _ _ hua;have pua6:=yJ g6 pua;refine⟨_,rfl,a,rfl,⟨_,SqL.of hua6⟩,?_⟩;refine zN (xs:=ua) (fun i ys H7=>Same H6 H7/\Paired (RN H7) ((p.map (nmul k bb)).take i) ys) ⟨Same.refl H6,.nil⟩ ?_ ?_ ?_
 ·rintro i ys H7 hi ⟨g7,pr⟩
  refine⟨SqL.of (g7 _ _ hua6),?_⟩;have:=zj pr;rw[wt,wa]at this;omega
 ·rintro i v ys H7 hv hi ⟨g7,pr⟩
  obtain⟨nx,ex,rx⟩:=zT pua6 hv;have ox:=op.2 _ (wg ex)
  first|refine gyes ?_|refine tyes ?_
  refine⟨_,rfl,_,rfl,_,rfl,k,bb,nx,vb,v,rfl,⟨hk,ob,ox,jb hk ob sbb (fun e=>by have:=bd2 e;omega) (by decide),jb hk ox (sL p pm _ (wg ex)) (fun e=>by have:=bd2 e;omega) (by decide),rb.mono g7,rx.mono g7⟩,fun v8 H8 g8 r8=>nxt hi ⟨g7.trans g8,?_⟩⟩;have e:(p.map (nmul k bb))[i]?=some (nmul k bb nx):=by rw[wk,ex];rfl
  rw[zp e];exact zS (yJ g8 pr) r8
 rintro ys H7 ⟨g7,pr⟩ af haf
 rw[show ua.length =(p.map (nmul k bb)).length by rw[wa,lua],vK]at pr;have g8:=ze haf (.lst ys);have hF:kah (upd H7 af (.lst ys)) (p.map (nmul k bb)) af:=⟨ys,zg,yJ g8 pr⟩;have gF:=(g6.trans g7).trans g8;generalize upd H7 af (.lst ys)=HF at *;have turn:∀(F:Type) [Lean.Grind.Field F] (φ:La.Kf k F),La.Gj φ n (c+1) M (told.map (La.gjR k c (p.map (nmul k bb)))++[p.map (nmul k bb)]) ((left.eraseIdx j).map (La.gjR k c (p.map (nmul k bb)))) (ls++[c]):=fun F _ φ=>by
  refine(G F φ).turn hk hc hp ob ?_;show φ.to bb*φ.to (p.getD c (nnum k 0))=1;rw[xJ ecp,← φ.mul ob oc,eb,φ.num];exact La.ι_one
 have lf:(p.map (nmul k bb)).length=n:=by rw[wa];exact op.1
 have of':La.OkR k (p.map (nmul k bb)):=fun x hx=>by
  obtain⟨y,hy,rfl⟩:=wj.mp hx;exact La.yB hk ob (op.2 y hy)
 have sf:∀ x∈p.map (nmul k bb),szk k (bdR b told.length+bdR b told.length) x:=fun x hx=>by
  obtain⟨y,hy,rfl⟩:=wj.mp hx;exact jH ob (op.2 y hy) sbb (sL p pm y hy)
 generalize p.map (nmul k bb)=f at *;have hTf:=hTe.mono gF;have hDf:=hDe.mono gF;have gHF:=gE.trans gF;have rF:=rE.mono gF;clear hTe hDe hae gE rE g6 g7 g8 pr haf gF hua hua6 pua pua6 ru eu rb;have oke:∀ r∈left.eraseIdx j,r∈left:=fun r hr=>(Gd (l:=left) j).subset hr
 have lle:(left.eraseIdx j).length<=left.length:=(Gd (l:=left) j).length_le;refine⟨_,rfl,pl,rfl,⟨_,SqL.of hTf.1⟩,?_⟩;refine Jy (La.gjR k c f) hTf (by omega) ?_ ?_
 ·have OKX:∀ r∈left.eraseIdx j,r.length=n/\La.OkR k r:=fun r hr=>okl r (oke r hr)
  have SZX:∀ r∈left.eraseIdx j,∀ x∈r,szk k (bdR b told.length) x:=fun r hr=>sL r (oke r hr)
  have GX:∀ {H8:Hp},Same HF H8->Same HF H8:=fun h=>h
  intro r a' H8 Q8 hr8 gs hR8 hq8;have orr:=OKX r hr8;have srr:=SZX r hr8;obtain⟨us,hu,pu,lu⟩:=hR8.len;obtain⟨uf,huf,puf,luf⟩:=(hF.mono (GX gs)).len;have hcr:c<r.length:=by rw[orr.1];exact hc
  obtain⟨uc,euc,ruc⟩:=yv pu (wc hcr);have occ:=orr.2 _ (wm hcr);refine⟨_,rfl,_,rfl,a',af,us,uf,rfl,SqL.of hu,SqL.of huf,?_⟩;refine xS (xs:=us) (zs:=uf) (by rw[lu,luf,orr.1,lf]) (fun i ys' H9=>Same H8 H9/\Paired (RN H9) ((La.gjR k c f r).take i) ys') ⟨Same.refl H8,.nil⟩ ?_ ?_ ?_
  ·rintro i ys' H9 hi ⟨g9,pr⟩
   refine⟨SqL.of (g9 _ _ hu),SqL.of (g9 _ _ huf),?_⟩;have:=zj pr;rw[wt]at this;rw[lu,orr.1]at hi;omega
  ·rintro i x z T ys' H9 hx hz hi hT9 ⟨g9,pr⟩
   obtain⟨nx,ex,rx⟩:=zT pu hx;obtain⟨nz,ez,rz⟩:=zT puf hz;have ox:=orr.2 _ (wg ex);have oz:=of' _ (wg ez);have sx:=srr _ (wg ex);have sz:=sf _ (wg ez);have gT:=g9.trans (ze hT9 (.tup [x,z]));refine⟨T,_,rfl,SqT.of zg,rfl,_,_,rfl,_,_,rfl,rfl,?_⟩;have gN:=ze hT9 (.tup [x,z]);generalize upd H9 T (.tup [x,z])=H10 at *
   first|refine gyes ?_|refine tyes ?_
   refine⟨_,rfl,_,rfl,_,rfl,_,rfl,_,rfl,a',_,_,_,rfl,rfl,SqL.of (gT _ _ hu),zH euc,_,rfl,k,r[c],nz,uc,z,rfl,⟨hk,occ,oz,jb hk occ (srr _ (wm hcr)) (fun e=>by have:=bd2 e;omega) (by decide),jb hk oz sz (fun e=>by have:=bd2 e;omega) (by decide),ruc.mono gT,rz.mono gT⟩,fun v11 H11 g11 r11=>?_⟩;have omm:=La.yB hk occ oz;refine⟨k,nx,_,x,v11,rfl,hk,ox,omm,jb hk ox sx (fun e=>by have:=bd2 e;omega) (by decide),jb hk omm (jH occ oz (srr _ (wm hcr)) sz) (fun e=>by have:=bd2 e;omega) (by decide),(rx.mono gT).mono g11,r11,fun v12 H12 g12 r12=>nxt hi ⟨(gT.trans g11).trans g12,?_⟩⟩;have e:(La.gjR k c f r)[i]?=some (nsub k nx (nmul k r[c] nz)):=by
    unfold La.gjR;rw[vz,ex,ez];show some (nsub k nx (nmul k (r.getD c (nnum k 0)) nz))=_;rw[xJ (wc hcr)]
   rw[zp e];exact zS (yJ (gN.trans (g11.trans g12)) pr) r12
  ·rintro ys' H9 ⟨g9,pr⟩ p9 hp9
   have lg:(La.gjR k c f r).length=us.length:=by unfold La.gjR;rw[wG,lu,orr.1,lf,Gn]
   rw[← lg,vK]at pr;exact hq8 p9 ys' H9 g9 hp9 pr
 intro rl2 HG GG pl2 hpl2;have NG:=GG.done hpl2;have gG:=GG.same.trans (ze hpl2 (.lst (rl2.map V.ref)));have fpl2:H pl2=none:=gHF.none (GG.same.none hpl2);have naf2:pl2≠af:=fun e=>by
  obtain⟨uf,huf,_⟩:=(hF.mono GG.same).len;rw[← e,hpl2]at huf;cases huf
 generalize upd HG pl2 (.lst (rl2.map V.ref))=HH at *;have hF2:=hF.mono gG;refine⟨_,rfl,pt,rfl,⟨_,SqL.of (gG _ _ hDf.1)⟩,?_⟩;refine Jy (La.gjR k c f) (hDf.mono gG) (by omega) ?_ ?_
 ·have OKX:∀ r∈told,r.length=n/\La.OkR k r:=okt;have SZX:∀ r∈told,∀ x∈r,szk k (bdR b told.length) x:=sD;have GX:∀ {H8:Hp},Same HH H8->Same HF H8:=fun h=>gG.trans h
  intro r a' H8 Q8 hr8 gs hR8 hq8;have orr:=OKX r hr8;have srr:=SZX r hr8;obtain⟨us,hu,pu,lu⟩:=hR8.len;obtain⟨uf,huf,puf,luf⟩:=(hF.mono (GX gs)).len;have hcr:c<r.length:=by rw[orr.1];exact hc
  obtain⟨uc,euc,ruc⟩:=yv pu (wc hcr);have occ:=orr.2 _ (wm hcr);refine⟨_,rfl,_,rfl,a',af,us,uf,rfl,SqL.of hu,SqL.of huf,?_⟩;refine xS (xs:=us) (zs:=uf) (by rw[lu,luf,orr.1,lf]) (fun i ys' H9=>Same H8 H9/\Paired (RN H9) ((La.gjR k c f r).take i) ys') ⟨Same.refl H8,.nil⟩ ?_ ?_ ?_
  ·rintro i ys' H9 hi ⟨g9,pr⟩
   refine⟨SqL.of (g9 _ _ hu),SqL.of (g9 _ _ huf),?_⟩;have:=zj pr;rw[wt]at this;rw[lu,orr.1]at hi;omega
  ·rintro i x z T ys' H9 hx hz hi hT9 ⟨g9,pr⟩
   obtain⟨nx,ex,rx⟩:=zT pu hx;obtain⟨nz,ez,rz⟩:=zT puf hz;have ox:=orr.2 _ (wg ex);have oz:=of' _ (wg ez);have sx:=srr _ (wg ex);have sz:=sf _ (wg ez);have gT:=g9.trans (ze hT9 (.tup [x,z]));refine⟨T,_,rfl,SqT.of zg,rfl,_,_,rfl,_,_,rfl,rfl,?_⟩;have gN:=ze hT9 (.tup [x,z]);generalize upd H9 T (.tup [x,z])=H10 at *
   first|refine gyes ?_|refine tyes ?_
   refine⟨_,rfl,_,rfl,_,rfl,_,rfl,_,rfl,a',_,_,_,rfl,rfl,SqL.of (gT _ _ hu),zH euc,_,rfl,k,r[c],nz,uc,z,rfl,⟨hk,occ,oz,jb hk occ (srr _ (wm hcr)) (fun e=>by have:=bd2 e;omega) (by decide),jb hk oz sz (fun e=>by have:=bd2 e;omega) (by decide),ruc.mono gT,rz.mono gT⟩,fun v11 H11 g11 r11=>?_⟩;have omm:=La.yB hk occ oz;refine⟨k,nx,_,x,v11,rfl,hk,ox,omm,jb hk ox sx (fun e=>by have:=bd2 e;omega) (by decide),jb hk omm (jH occ oz (srr _ (wm hcr)) sz) (fun e=>by have:=bd2 e;omega) (by decide),(rx.mono gT).mono g11,r11,fun v12 H12 g12 r12=>nxt hi ⟨(gT.trans g11).trans g12,?_⟩⟩;have e:(La.gjR k c f r)[i]?=some (nsub k nx (nmul k r[c] nz)):=by
    unfold La.gjR;rw[vz,ex,ez];show some (nsub k nx (nmul k (r.getD c (nnum k 0)) nz))=_;rw[xJ (wc hcr)]
   rw[zp e];exact zS (yJ (gN.trans (g11.trans g12)) pr) r12
  ·rintro ys' H9 ⟨g9,pr⟩ p9 hp9
   have lg:(La.gjR k c f r).length=us.length:=by unfold La.gjR;rw[wG,lu,orr.1,lf,Gn]
   rw[← lg,vK]at pr;exact hq8 p9 ys' H9 g9 hp9 pr
 intro rt2 HI GI pt2 hpt2;have NI:=GI.done hpt2;have gI:=GI.same.trans (ze hpt2 (.lst (rt2.map V.ref)));have hL2:=NG.tab.mono GI.same;have hFI:=hF2.mono GI.same;have npt2:pl2≠pt2:=fun e=>by
  have:=hL2.1;rw[e,hpt2]at this;cases this
 have nrl2:pt2∉rl2:=fun h=>by
  obtain⟨i,hi,ei⟩:=wI h;obtain⟨r,_,rr⟩:=zT hL2.2 (wc hi);obtain⟨us,hus,_⟩:=rr.len;rw[ei,hpt2]at hus;cases hus
 have nplt2:pl2∉rt2:=fun h=>by
  have:=NI.fr pl2 h;rw[NG.tab.1]at this;cases this
 have nafp:af≠pt2:=fun e=>by
  obtain⟨uf,huf,_⟩:=hFI.len;rw[e,hpt2]at huf;cases huf
 have gHI:=(gHF.trans gG).trans gI;have rI:=(rF.mono gG).mono gI;have hL3:=NG.tab.mono gI;have hF3:=hF2.mono gI;have fpt2:H pt2=none:=(gHF.trans gG).none (GI.same.none hpt2);generalize upd HI pt2 (.lst (rt2.map V.ref))=HJ at *;have lr2:=zj NI.tab.2;rw[wa]at lr2;refine⟨_,rfl,.inl ⟨rfl,_,SqL.of NI.tab.1⟩,_,rfl,pt2,_,.ref af,rfl,rfl,NI.tab.1,(by rw[wa];omega),?_⟩;refine⟨_,rfl,_,_,rfl,rfl,?_⟩;refine⟨n - (c+1),by omega,c+1,told.map (La.gjR k c f)++[f],(left.eraseIdx j).map (La.gjR k c f),ls++[c],pl2,pt2,rl2,rt2++[af],_,_,_,rfl,yC gHI fpt2,rI.upd NI.tab.1,hL3.upd npt2 nrl2 NI.tab.1,⟨by rw[zg,wv];rfl,zS (zbC (fun x y hy r=>r.upd (fun e=>NI.nt (by rw[← e];exact hy)) NI.tab.1) NI.tab.2) (hF3.upd nafp NI.tab.1)⟩,fpl2,NG.nt,?_,npt2,hc,by rw[wa];omega,⟨by rw[wD,wa];show told.length+1<=c+1;omega,by rw[wD,wa,wa,List.length_eraseIdx_of_lt (ww.mp hp).1];show told.length+1 +(left.length - 1)=M.length;omega⟩,?_,?_,turn,rfl⟩
 ·intro h
  rcases wq.mp h with h|h
  ·exact nplt2 h
  ·exact naf2 (wn.mp h)
 ·rw[show(told.map (La.gjR k c f)++[f]).length=told.length+1 by rw[wD,wa];rfl];intro r hr x hx
  rcases wq.mp hr with h|h
  ·obtain⟨r',hr',rfl⟩:=wj.mp h;have o:=okt r' hr';exact(zhv hk of' o.2 (by rw[o.1,lf]) (by rw[o.1];exact hc) (sD r' hr') sf x hx).mono (by rw[Yu];omega)
  ·rw[wn.mp h]at hx;exact(sf x hx).mono (by rw[Yu];omega)
 ·rw[show(told.map (La.gjR k c f)++[f]).length=told.length+1 by rw[wD,wa];rfl];intro r hr x hx;obtain⟨r',hr',rfl⟩:=wj.mp hr;have o:=okl r' (oke r' hr');exact(zhv hk of' o.2 (by rw[o.1,lf]) (by rw[o.1];exact hc) (sL r' (oke r' hr')) sf x hx).mono (by rw[Yu];omega)
theorem QE{K:PySem.W.Frag}{te:TE}{σb:L2.St}{t:Addr}{ras:List Addr}{M:TB}{H:Hp}{R:List V->Hp->Prop}(f:List Nb->List Nb)(hT:kag H M t ras)(hz:M.length<sizeLine)
  (hte:∀(r:List Nb)(a:Addr)(H':Hp)(Q:VK),r∈M->Same H H'->kah H' r a->(∀(p:Addr)(H2:Hp),Same H' H2->NewR H' H2 (f r) p->Q (.ref p) H2)->te (σb.set 0 (some (.ref a))) H' Q)
  (hd:∀(ras2:List Addr)(H':Hp),Grow H H' (M.map f) ras2->R (ras2.map V.ref) H') :
  ∃ W:Nat->Nat->List V->Hp->Prop,(∃ m,W 0 m [] H)/\∀ i m ys H,W i m ys H ->
   ((Itl K t).stop i H/\ys.length<=sizeLine/\R ys H) \/
   ((Itl K t).go i H/\ys.length<sizeLine/\∀ x H',(Itl K t).yld i H x H'->gName 0 x σb H' fun σ2 H2=>tTrue σ2 H2 fun b H3=>if b=true then te σ2 H3 fun y H4=>∃ m',m'<m/\W (i+1) m' (ys++[y]) H4 else ∃ m',m'<m/\W (i+1) m' ys H3):=by
 have hl:=zj hT.2;refine zN (xs:=ras.map V.ref) (fun i ys H'=>∃ ras2,ys=ras2.map V.ref/\Grow H H' ((M.map f).take i) ras2) ⟨[],rfl,Grow.nil H (Same.refl H)⟩ ?_ ?_ ?_
 ·rintro i ys H' hi ⟨ras2,rfl,G⟩
  refine⟨SqL.of (G.same _ _ hT.1),?_⟩;have:=zj G.rows;rw[wt,wa]at this;rw[wa];omega
 ·rintro i v ys H' hv hi ⟨ras2,rfl,G⟩
  obtain⟨row,a,hrow,ha,rfl,hR⟩:=(hT.mono G.same).row hv;refine gyes (hte row a H' _ (wg hrow) G.same hR fun p H2 g2 nr=>?_);refine nxt hi ⟨ras2++[p],by rw[wv];rfl,?_⟩;have e:(M.map f)[i]?=some (f row):=by rw[wk,hrow];rfl
  rw[zp e];exact G.snocR g2 nr.row nr.fa
 ·rintro ys H' ⟨ras2,rfl,G⟩
  rw[wa,← hl,wo (by rw[wa];exact wu _)]at G;exact hd ras2 H' G
def tbf:Nat->Nat
 | 0=>80
 | 1=>484
 | 2=>1696
 | _=>5332
theorem zg7:∀ i,tbf i<=5332
 | 0=>by decide
 | 1=>by decide
 | 2=>by decide
 | _+3=>wu _
theorem zg2:∀ i,tbf i<=tbf (i+1)
 | 0=>by decide
 | 1=>by decide
 | 2=>by decide
 | _+3=>wu _
theorem zfY{n:Nat}(hn:n<=3):∀ i,i<=2->n *(tbf i+81)+1<=tbf (i+1)
 | 0,_=>by show n*161+1<=484;omega
 | 1,_=>by show n*565+1<=1696;omega
 | 2,_=>by show n*1777+1<=5332;omega
 | _+3,h=>by omega
theorem zdL{k:Int}{A B:TB}{b:List Nb}(hb:b∈B):∀(t j:Nat),j<=t->powX k A b j∈La.kry k A B t
 | 0,0,_=>hb
 | 0,j+1,h=>by omega
 | t+1,0,_=>wQ _ hb
 | t+1,j+1,h=>wE _ (wj.mpr ⟨powX k A b j,zdL hb t j (by omega),rfl⟩)
theorem zi0{k:Int}{c:Nat}{M N:TB}:kab M.length ((kab c N).map (imgM k M))=kal k c M N:=by
 refine uD (by rw[zK];unfold kal;rw[wa]) fun j h1 h2=>?_
 rw[zK]at h1;have e1:=ZZ (M:=(kab c N).map (imgM k M)) h1;have e2:(kal k c M N)[j]?=some ((kab c N).map fun col=>La.ndot k M[j] col):=by unfold kal;rw[wk,wc h1];rfl
 rw[wc (by rw[zK];exact h1)]at e1;rw[wc h2]at e2;rw[Option.some.inj e1,Option.some.inj e2,vm];refine vB fun col _=>?_
 show(imgM k M col).getD j (.z 0)=_;rw[we];unfold imgM;rw[wk,wc h1];rfl
def YM:Sp:=fun vs H Q _=>∃(k:Int)(M N:TB)(b c a0 b0:Nat)(tM tN:Addr)(rM rN:List Addr),vs=[.int k,.ref tM,.ref tN]/\kaa k/\kag H M tM rM/\kag H N tN rN/\La.OkM k b M/\La.OkM k c N/\N.length=b/\(∀ r∈M,∀ y∈r,szk k a0 y)/\(∀ r∈N,∀ y∈r,szk k b0 y)/\a0+b0<=5000000/\1<=b/\b<=10/\1<=c/\c<=10/\M.length<=10 /\
 ∀ t rs H',Same H H'->NewT H H' (kal k c M N) t rs->Q (.ref t) H'
theorem zbg (D:Df K mg "_law_product" qe xI) (xP:Kn P w K mg base "_law_across" 1 Qn xh) (qv:Kn P w K mg base "_law_image" 43 Qy Xg):Kn P w K mg base "_law_product" 44 qe YM:=by
 refine D.kn Xb (fun vs H Q E h=>?_) (fun f cdv A' outer s H vs Q E hr h=>?_)
 ·obtain⟨k,M,N,b,c,a0,b0,tM,tN,rM,rN,rfl,_⟩:=h;rfl
 obtain⟨k,M,N,b,c,a0,b0,tM,tN,rM,rN,rfl,hk,hM,hN,oM,oN,lN,sM,sN,ab,b1,b10,c1,c10,r10,q⟩:=h;have szl:=dh
 refine⟨_,(zi (zq (zt xP hr (za (yV ["_law_prime_here", "_law_one"] [0,1] (zE (zt xP hr (za (pv 2) zd))) fun _ _ _ _ _ _=>⟨zJ,(zt qv hr (za (pv 1) (za (pv 2) (za (pv 0) zd))))⟩) zd)))),?_⟩;have nN:N≠[]:=fun e=>by rw[e]at lN;simp at lN;omega
 refine⟨_,rfl,N,c,tN,rN,rfl,hN,nN,(fun r hr=>(oN r hr).1),by omega,by omega,fun t1 r1 H1 g1 n1=>?_⟩;have oT:=yu oN;have sT:∀ r∈kab c N,∀ y∈r,szk k b0 y:=fun r hr y hy=>by
  unfold kab at hr;obtain⟨j,hj,rfl⟩:=wj.mp hr;obtain⟨x,hx,rfl⟩:=wj.mp hy;have hl:=(oN x hx).1;rw[vA]at hj;rw[we,wc (by omega)];exact sN x hx _ (wm _)
 refine⟨t1,rfl,⟨_,SqL.of n1.tab.1⟩,?_⟩;refine QE (imgM k M) n1.tab (by rw[zK];omega) ?_ ?_
 ·intro r a H4 Q4 hr4 g4 hR4 hq4;have orr:=oT r hr4;exact⟨_,rfl,_,rfl,_,rfl,k,M,r,b,a0,b0,tM,a,rM,rfl,hk,(hM.mono g1).mono g4,hR4,oM,orr.1.trans lN,orr.2,sM,sT r hr4,wN ab (by decide),b10,r10,fun p H5 g5 nr _=>hq4 p H5 g5 nr⟩
 intro rt2 H4 G4 p4 hp4;have N4:=G4.done hp4;have g4:=G4.same.trans (ze hp4 (.lst (rt2.map V.ref)));generalize upd H4 p4 (.lst (rt2.map V.ref))=H5 at *;have len:∀ r∈(kab c N).map (imgM k M),r.length=M.length:=fun r hr=>by
  obtain⟨x,_,rfl⟩:=wj.mp hr;unfold imgM;exact wa _
 refine⟨(kab c N).map (imgM k M),M.length,p4,rt2,rfl,N4.tab,(fun e=>by have:=congrArg vt e;rw[wa,zK]at this;simp at this;omega),len,by omega,by rw[wa,zK];omega,fun t rs H6 g6 n6=>?_⟩;rw[zi0]at n6;have g:=g1.trans g4;exact q t rs H6 (g.trans g6) ⟨n6.tab,g.none n6.ft,fun r hr=>g.none (n6.fr r hr),n6.nd,n6.nt⟩
def XI:Sp:=fun vs H Q _=>∃(k:Int)(A B C:TB)(n h s:Nat)(pm ta tb tc:Addr)(ra rb rc:List Addr),vs=[.int k,.ref pm]/\KindS k/\kax H A B C pm ta tb tc ra rb rc/\Fit k n/\MOk k n h s 80 A B C/\h<=100 /\
 ∀ R ls t rs H',Same H H'->kag H' R t rs->IsRa k n R ls->SameR k R (La.kry k A (kab h B) n)->Q (.ref t) H'
theorem zbl (D:Df K mg "_law_steered" QL xK) (xP:Kn P w K mg base "_law_across" 1 Qn xh) (qv:Kn P w K mg base "_law_image" 43 Qy Xg) (XT:Kn P w K mg base "_law_reduced" 44 QD Xy) (zy:mg "range" = none) (m_len:mg "len" = none):Kn P w K mg base "_law_steered" 45 QL XI:=by
 refine D.kn sI (fun vs H Q E h=>?_) (fun f cdv A' outer s' H vs Q E hr h=>?_)
 ·obtain⟨k,A,B,C,n,h,s,pm,ta,tb,tc,ra,rb,rc,rfl,_⟩:=h;rfl
 obtain⟨k,A,B,C,n,h,s,pm,ta,tb,tc,ra,rb,rc,rfl,hs,hM,hf,oM,h100,q⟩:=h;have hk:=hs.ok;have szl:=dh
 have n10:=hf.n10;have n1:=hf.1;have lB:=oM.b.len;have lA:=oM.a.len;have n3:k=0->n<=3:=fun e=>by
  rcases hf.2 with h|h
  ·exact h
  ·exact absurd e h.1
 have la:=zj hM.a.2;rw[lA]at la;refine⟨_,(zc (qg (pv 1) (xv 3 rfl (zP (zC (i:=2) sI.nd rfl (.inr rfl)) (zP (zC (i:=3) sI.nd rfl (.inl rfl)) (zP (zC (i:=4) sI.nd rfl (.inl rfl)) yW))))) (zc (zk (i:=5) sI.nd rfl (.inl rfl) (yl zd)) (zc (zk (i:=6) sI.nd rfl (.inl rfl) (zt xP hr (za (pv 3) zd))) (zc (yE PassesOwn.never rfl (zR rfl zy (za (zw zA rfl m_len yb (za (pv 2) zd)) zd)) (zC (i:=7) sI.nd rfl (.inl rfl)) (zc (zk (i:=5) sI.nd rfl (.inl rfl) (zm qh (pv 5) (pv 6))) (zi (Yd 6 sI.nd ["_law_prime_here", "_law_table"] [0,2] (zE (pv 6)) fun _ _ _ _ _ _=>⟨zJ,(zt qv hr (za (pv 1) (za (pv 2) (za (pv 0) zd))))⟩)))) (zi (zq (zt XT hr (za (pv 0) (za (pv 5) zd))))))))),?_⟩;refine⟨_,rfl,pm,_,rfl,SqT.of hM.tup,rfl,_,_,rfl,_,_,rfl,_,_,rfl,rfl,?_⟩;refine⟨(by show 0<=sizeLine;decide),fun p0 hp0=>?_⟩;have g0:=ze hp0 (.lst []);have h0:upd H p0 (.lst []) p0=some (.lst []):=zg;generalize upd H p0 (.lst [])=H0 at *;have hM0:=hM.mono g0;refine⟨_,rfl,B,h,tb,rb,rfl,hM0.b,(fun e=>by rw[e]at lB;simp at lB;omega),(fun r hr=>(oM.b.ok r hr).1),by omega,by omega,fun t1 r1 H1 g1 n1'=>?_⟩;have hM1:=hM0.mono g1;have oB:=zck oM.b;refine⟨_,rfl,ta,_,rfl,.inl (SqL.of hM1.a.1),_,rfl,(by rw[wa,← la];omega),(by rw[wa,← la];omega),?_⟩;rw[wa,← la];have en:((n:Int)).toNat=n:=by omega
 rw[en];have sz0:∀ r∈kab h B,∀ x∈r,szk k 80 x:=fun r hr x hx _=>oB.sz r hr x hx
 have sA:∀ r∈A,∀ x∈r,szk k 80 x:=fun r hr x hx _=>oM.a.sz r hr x hx
 have lbt:=oB.len;refine yw (lo:=0) (n:=n) (fun i σ H'=>∃(S:TB)(ps pt:Addr)(rs rt:List Addr)(o7:Option V),σ=[some (.int k),some (.ref pm),some (.ref ta),some (.ref tb),some (.ref tc),some (.ref ps),some (.ref pt),o7]/\Same H H'/\kag H' S ps rs/\kag H' ((kab h B).map fun b=>powX k A b i) pt rt/\(∀ r,r∈S↔∃ b∈kab h B,∃ j,j<i/\r=powX k A b j)/\S.length=i*h/\(∀ r∈S,∀ x∈r,szk k (tbf i) x)/\(∀ r∈(kab h B).map fun b=>powX k A b i,∀ x∈r,szk k (tbf i) x)/\La.OkM k n S/\La.OkM k n ((kab h B).map fun b=>powX k A b i)) ⟨[],p0,t1,[],r1,none,rfl,g0.trans g1,⟨g1 _ _ h0,.nil⟩,(by rw[show((kab h B).map fun b=>powX k A b 0)=kab h B from wap _];exact n1'.tab),(fun r=>⟨(fun h=>nomatch h),fun⟨_,_,j,hj,_⟩=>absurd hj (ug _)⟩),(by rw[wao];rfl),(fun _ h=>nomatch h),(by rw[show((kab h B).map fun b=>powX k A b 0)=kab h B from wap _];exact sz0),(fun _ h=>nomatch h),(by rw[show((kab h B).map fun b=>powX k A b 0)=kab h B from wap _];exact oB.ok)⟩ ?_ ?_
 ·rintro i σ H2 hi ⟨S,ps,pt,rs,rt,o7,rfl,g,hS,hT,eS,lS,sS,sT,oS,oT⟩
  have lrs:=zj hS.2;have lrt:=zj hT.2;rw[wa,lbt]at lrt;have ih:i*h<=10*100:=vY (by omega) h100;refine⟨_,rfl,_,rfl,ps,pt,_,_,rfl,rfl,hS.1,hT.1,(by rw[wa,wa];omega),fun p2 hp2=>?_⟩;have g2:=ze hp2 (.lst (rs.map V.ref++rt.map V.ref));have hS2:kag (upd H2 p2 (.lst (rs.map V.ref++rt.map V.ref))) (S ++(kab h B).map fun b=>powX k A b i) p2 (rs++rt):=⟨by rw[zg,wv],xp (fun _ _ r=>r.mono g2) (qk hS.2 hT.2)⟩;have hT2:=hT.mono g2;have gg:=g.trans g2;generalize upd H2 p2 (.lst (rs.map V.ref++rt.map V.ref))=H3 at *;have hM3:=hM.mono gg;have tl:=zg7 i;refine⟨_,rfl,pt,rfl,⟨_,SqL.of hT2.1⟩,?_⟩;refine QE (imgM k A) hT2 (by rw[wa,lbt];omega) ?_ ?_
  ·intro r a H4 Q4 hr4 g4 hR4 hq4;have orr:=oT r hr4;exact⟨_,rfl,_,rfl,_,rfl,k,A,r,n,80,tbf i,ta,a,ra,rfl,hk,hM3.a.mono g4,hR4,oM.a.ok,orr.1,orr.2,sA,sT r hr4,by omega,n10,by omega,fun p H5 g5 nr _=>hq4 p H5 g5 nr⟩
  intro rt2 H4 G4 p4 hp4;have N4:=G4.done hp4;have g4:=G4.same.trans (ze hp4 (.lst (rt2.map V.ref)));have em:((kab h B).map fun b=>powX k A b i).map (imgM k A) =(kab h B).map fun b=>powX k A b (i+1):=by rw[vm];rfl
  rw[em]at N4;have oN:La.OkM k n ((kab h B).map fun b=>powX k A b (i+1)):=by
   rw[← em];intro r hr;obtain⟨x,hx,rfl⟩:=wj.mp hr;have:=La.Qv hk oM.a.ok (oT x hx).2;exact⟨this.1.trans lA,this.2⟩
  refine⟨S ++(kab h B).map fun b=>powX k A b i,p2,p4,rs++rt,rt2,_,rfl,gg.trans g4,hS2.mono g4,N4.tab,fun r=>⟨fun hr=>?_,fun⟨b,hb,j,hj,e⟩=>?_⟩,by rw[wD,wa,lbt,lS,gJ,uS],fun r hr x hx=>?_,fun r hr x hx k0=>?_,fun r hr=>?_,oN⟩
  ·rcases wq.mp hr with h'|h'
   ·obtain⟨b,hb,j,hj,e⟩:=(eS r).mp h';exact⟨b,hb,j,by omega,e⟩
   ·obtain⟨b,hb,rfl⟩:=wj.mp h';exact⟨b,hb,i,by omega,rfl⟩
  ·rcases uW (gW hj)with h'|h'
   ·exact wQ _ ((eS r).mpr ⟨b,hb,j,h',e⟩)
   ·rw[e,h'];exact wE _ (wj.mpr ⟨b,hb,rfl⟩)
  ·rcases wq.mp hr with h'|h'
   ·exact(sS r h' x hx).mono (zg2 i)
   ·exact(sT r h' x hx).mono (zg2 i)
  ·rw[← em]at hr;obtain⟨y,hy,rfl⟩:=wj.mp hr;unfold imgM at hx;obtain⟨r',hr',rfl⟩:=wj.mp hx;have oy:=oT y hy;have or':=oM.a.ok r' hr';have:=za5 (a:=80) (b:=tbf i) hk (r'.zip y) (fun pq hp=>⟨or'.2 _ (wT hp).1,oy.2 _ (wT hp).2,sA r' hr' _ (wT hp).1,sT y hy _ (wT hp).2⟩) (r'.zip y).length (wu _);rw[vK]at this;refine(this.mono ?_) k0;have lz:(r'.zip y).length=n:=by rw[vZ,or'.1,oy.1,Gn]
   rw[lz,show 80+tbf i+1=tbf i+81 by omega];exact zfY (n3 k0) i (by have:=n3 k0;omega)
  ·rcases wq.mp hr with h'|h'
   ·exact oS r h'
   ·exact oT r h'
 ·rintro σ H2 ⟨S,ps,pt,rs,rt,o7,rfl,g,hS,hT,eS,lS,sS,sT,oS,oT⟩
  have ih:n*h<=10*100:=vY n10 h100;have tl:=zg7 n;refine⟨_,rfl,_,rfl,k,n,5332,S,ps,rs,rfl,hs,hS,oS,(fun r hr x hx=>(sS r hr x hx).mono tl),n3,n10,(fun e=>wN (zbQ _ (show min n S.length<=3 by have:=n3 e;omega)) (by decide)),by omega,fun R ls t' ras' H' g' hR iR sR _=>?_⟩;refine q R ls t' ras' H' (g.trans g') hR iR fun F _ φ v=>?_
  rw[sR F φ v];have e1:La.Rm φ S v↔La.Rm φ (La.kry k A (kab h B) (n - 1)) v:=by
   constructor
   ·refine fun hv=>hv.mono fun u ⟨r,hr,e⟩=>⟨r,?_,e⟩
    obtain⟨b,hb,j,hj,rfl⟩:=(eS r).mp hr;exact zdL hb (n - 1) j (by omega)
   ·refine fun hv=>hv.mono fun u ⟨r,hr,e⟩=>⟨r,?_,e⟩
    obtain⟨b,hb,j,hj,e'⟩:=Qk (n - 1) r hr;exact(eS r).mpr ⟨b,hb,j,by omega,e'⟩
  rw[e1]
  constructor
  ·intro hv;have:=La.Zz hk oM.a.ok lA oB.ok (n - 1) v hv;rw[show n - 1+1=n by omega]at this;exact this
  ·exact La.zb3 hk oM.a.ok lA oB.ok n1 v
def ppL(k:Int)(p q:List Nb):List Nb:=(wV (max p.length q.length)).map fun j=>if j<q.length then nadd k (p.getD j (nnum k 0)) (q.getD j (nnum k 0))else p.getD j (nnum k 0)
theorem jK{k:Int}(hk:kaa k){p:List Nb}(h:La.OkR k p)(j:Nat):(p.getD j (nnum k 0)).ok k:=by
 rw[we];cases e:p[j]? with
 | none=>exact La.zL hk 0
 | some x=>exact h x (wg e)
theorem xM{k:Int}(hk:kaa k){p:List Nb}{m:Nat}(m7:61<=m)(h:∀ x∈p,szk k m x)(j:Nat):szk k m (p.getD j (nnum k 0)):=by
 rw[we];cases e:p[j]? with
 | none=>exact fun _=>yI hk (xw m) m7
 | some x=>exact h x (wg e)
theorem zbk{k:Int}{p q:List Nb}:(ppL k p q).length=max p.length q.length:=by unfold ppL;simp
theorem ze8{k:Int}{p q:List Nb}{j:Nat}(h:j<max p.length q.length):(ppL k p q)[j]?=some (if j<q.length then nadd k (p.getD j (nnum k 0)) (q.getD j (nnum k 0))else p.getD j (nnum k 0)):=by
 unfold ppL;rw[wk,vH h];rfl
theorem zja{k:Int}(hk:kaa k){p q:List Nb}(hp:La.OkR k p)(hq:La.OkR k q):La.OkR k (ppL k p q):=fun x hx=>by
 unfold ppL at hx;obtain⟨j,_,rfl⟩:=wj.mp hx
 split
 ·exact La.yG hk (jK hk hp j) (jK hk hq j)
 ·exact jK hk hp j
theorem ziT{k:Int}(hk:kaa k){p q:List Nb}{m1 m2:Nat}(a7:61<=m1)(b7:61<=m2)(hp:La.OkR k p)(hq:La.OkR k q)(sp:∀ x∈p,szk k m1 x)(sq:∀ x∈q,szk k m2 x):∀ x∈ppL k p q,szk k (m1+m2+1) x:=fun x hx=>by
 unfold ppL at hx;obtain⟨j,_,rfl⟩:=wj.mp hx
 split
 ·exact Jv (jK hk hp j) (jK hk hq j) (xM hk a7 sp j) (xM hk b7 sq j)
 ·exact(xM hk a7 sp j).mono (by omega)
theorem zjA{k:Int}(hk:kaa k){p q:List Nb}(hp:La.OkR k p)(hq:La.OkR k q){F:Type}[Lean.Grind.Field F](φ:La.Kf k F)(j:Nat):La.nv φ (ppL k p q) j=La.nv φ p j+La.nv φ q j:=by
 rcases wO j (max p.length q.length)with h|h
 ·rw[La.yf φ (ze8 h)]
  by_cases c:j<q.length
  ·rw[if_pos c,φ.add (jK hk hp j) (jK hk hq j)];rfl
  ·rw[if_neg c,La.yh φ (xs:=q) (by omega)];show La.nv φ p j=La.nv φ p j+0
   grind
 ·rw[La.yh φ (by rw[zbk];exact h),La.yh φ (xs:=p) (by omega),La.yh φ (xs:=q) (by omega)]
  grind
def zb7:Sp:=fun vs H Q _=>∃(k:Int)(p q:List Nb)(m1 m2:Nat)(a b:Addr),vs=[.int k,.ref a,.ref b]/\kaa k/\kah H p a/\kah H q b/\La.OkR k p/\La.OkR k q/\(∀ x∈p,szk k m1 x)/\(∀ x∈q,szk k m2 x)/\61<=m1/\61<=m2/\(k=0->m1<=60000000/\m2<=60000000)/\p.length<=100/\q.length<=100 /\
 ∀ r H',Same H H'->NewR H H' (ppL k p q) r->Q (.ref r) H'
theorem nsm60{k:Int}(hk:kaa k){m:Nat}{x:Nb}(o:x.ok k)(h:szk k m x)(b:k=0->m<=60000000):nsm 60000000 x:=by
 by_cases k0:k=0
 ·exact(h k0).mono (b k0)
 ·exact(Zw hk k0 o).mono (by decide)
theorem zgw (D:Df K mg "_law_poly_plus" qe yR) (zU:Kn P w K mg base "_law_make" 1 qc xD) (yp:Kn P w K mg base "_law_plus" 42 qe (xV nadd)) (zy:mg "range" = none) (m_len:mg "len" = none) (m_max:mg "max" = none):Kn P w K mg base "_law_poly_plus" 43 qe zb7:=by
 refine D.kn su (fun vs H Q E h=>?_) (fun f cdv A outer s H vs Q E hr h=>?_)
 ·obtain⟨k,p,q,m1,m2,a,b,rfl,_⟩:=h;rfl
 obtain⟨k,p,q',m1,m2,a,b,rfl,hk,ha,hb,op,oq,sp,sq,a7,b7,bd,lp,lq,q⟩:=h;have szl:=dh
 obtain⟨ua,hua,pua,lua⟩:=ha.len;obtain⟨ub,hub,pub,lub⟩:=hb.len;refine⟨_,(zc (zk (i:=3) su.nd rfl (.inl rfl) (yl zd)) (zc (yE PassesOwn.never rfl (zR rfl zy (za (zw (QT rfl) rfl m_max zg6 (za (zw zA rfl m_len yb (za (pv 1) zd)) (za (zw zA rfl m_len yb (za (pv 2) zd)) zd))) zd)) (zC (i:=4) su.nd rfl (.inl rfl)) (zc (zk (i:=5) su.nd rfl (.inl rfl) (zt zU hr (za (pv 0) (za zf zd)))) (zc (yz (zI zaD (pv 4) (zw zA rfl m_len yb (za (pv 1) zd)) (kae _)) (zi (zk (i:=5) su.nd rfl (.inl rfl) (zD zo (pv 1) (pv 4)))) zQ) (zc (yz (zI zaD (pv 4) (zw zA rfl m_len yb (za (pv 2) zd)) (kae _)) (zi (zk (i:=5) su.nd rfl (.inl rfl) (zt yp hr (za (pv 0) (za (pv 5) (za (zD zo (pv 2) (pv 4)) zd)))))) zQ) (zi (yU (bm0 (fun _ h=>Zy PySem.F.plainAttrs_list PySem.F.slot_list_append PySem.F.type_list_append yK h (za (pv 5) zd)) (pv 3)))))))) (zi (zq (pv 3))))),?_⟩;refine⟨(by show 0<=sizeLine;decide),fun pt hpt=>?_⟩;have g0:=ze hpt (.lst []);refine⟨_,rfl,a,_,rfl,.inl (SqL.of (g0 _ _ hua)),_,rfl,b,_,rfl,.inl (SqL.of (g0 _ _ hub)),_,_,rfl,_,rfl,(by split <;> omega),(by split <;> omega),?_⟩;have eN:(if (ub.length:Int) >(ua.length:Int)then(ub.length:Int)else(ua.length:Int)).toNat=max p.length q'.length:=by split <;> omega
 rw[eN];have lL:=zbk (k:=k) (p:=p) (q:=q');refine yw (lo:=0) (n:=max p.length q'.length) (fun i σ H'=>∃ us o4 o5,σ=[some (.int k),some (.ref a),some (.ref b),some (.ref pt),o4,o5]/\Same H H'/\H' pt=some (.lst us)/\Paired (RN H') ((ppL k p q').take i) us) ⟨[],none,none,rfl,g0,zg,.nil⟩ ?_ ?_
 ·rintro i σ H1 hi ⟨us,o4,o5,rfl,g1,ht1,pu1⟩
  rw[vC];refine⟨_,rfl,k,0,rfl,hk,fun v2 H2 g2 r2=>?_⟩
  try dsimp only
  refine Zg (fun σ H'=>∃ v,σ=[some (.int k),some (.ref a),some (.ref b),some (.ref pt),some (.int (i:Int)),some v]/\Same H1 H'/\RN H' (p.getD i (nnum k 0)) v) ?_ ?_
  rotate_left
  ·intro hN;refine⟨_,rfl,_,rfl,a,_,rfl,.inl (SqL.of (g2 _ _ (g1 _ _ hua))),_,_,rfl,rfl,_,rfl,?_⟩;refine ite2 (fun cc=>?_) (fun cc=>?_)
   ·have ci:i<ua.length:=by have:(i:Int) <(ua.length:Int):=of_decide_eq_true cc;omega
    obtain⟨x,hx,rx⟩:=zT pua (wc ci);refine⟨_,rfl,_,rfl,a,_,_,_,rfl,rfl,SqL.of (g2 _ _ (g1 _ _ hua)),zH (wc ci),hN _ _ ⟨_,rfl,g2,?_⟩⟩;rw[we,hx];exact(rx.mono g1).mono g2
   ·have ci:¬ i<ua.length:=by have:¬(i:Int) <(ua.length:Int):=of_decide_eq_false (vX.mpr cc);omega
    refine hN _ _ ⟨_,rfl,g2,?_⟩;rw[we,vo (by omega)];exact r2
  rintro σ H3 ⟨v3,rfl,g3,r3⟩
  have g03:=g1.trans g3
  try dsimp only
  refine Zg (fun σ H'=>∃ v,σ=[some (.int k),some (.ref a),some (.ref b),some (.ref pt),some (.int (i:Int)),some v]/\Same H3 H'/\RN H' (if i<q'.length then nadd k (p.getD i (nnum k 0)) (q'.getD i (nnum k 0))else p.getD i (nnum k 0)) v) ?_ ?_
  rotate_left
  ·intro hN;refine⟨_,rfl,_,rfl,b,_,rfl,.inl (SqL.of (g03 _ _ hub)),_,_,rfl,rfl,_,rfl,?_⟩;refine ite2 (fun cc=>?_) (fun cc=>?_)
   ·have ci:i<ub.length:=by have:(i:Int) <(ub.length:Int):=of_decide_eq_true cc;omega
    obtain⟨x,hx,rx⟩:=zT pub (wc ci);have ex:q'.getD i (nnum k 0)=x:=by rw[we,hx];rfl
    refine⟨_,rfl,_,rfl,_,rfl,_,rfl,b,_,_,_,rfl,rfl,SqL.of (g03 _ _ hub),zH (wc ci),k,p.getD i (nnum k 0),x,_,_,rfl,⟨hk,jK hk op i,oq x (wg hx),nsm60 hk (jK hk op i) (xM hk a7 sp i) (fun h=>(bd h).1),nsm60 hk (oq x (wg hx)) (sq x (wg hx)) (fun h=>(bd h).2),r3,rx.mono g03⟩,fun v4 H4 g4 r4=>hN _ _ ⟨_,rfl,g4,?_⟩⟩;rw[if_pos (by omega),ex];exact r4
   ·have ci:¬ i<ub.length:=by have:¬(i:Int) <(ub.length:Int):=of_decide_eq_false (vX.mpr cc);omega
    refine hN _ _ ⟨_,rfl,Same.refl _,?_⟩;rw[if_neg (by omega)];exact r3
  rintro σ H4 ⟨v4,rfl,g4,r4⟩
  have ht4:=g4 _ _ (g3 _ _ ht1);have lu:=zj pu1;rw[wt]at lu;refine⟨_,rfl,.inl ⟨rfl,_,SqL.of ht4⟩,_,rfl,pt,us,_,rfl,rfl,ht4,(by omega),?_⟩;refine⟨us++[v4],_,_,rfl,yC (g03.trans g4) hpt,zg,?_⟩;rw[zp (ze8 hi)];exact Xr ht4 (zS (yJ (g3.trans g4) pu1) r4)
 ·rintro σ H1 ⟨us,o4,o5,rfl,g1,ht1,pu1⟩
  rw[wo (by omega)]at pu1;exact⟨_,rfl,q pt H1 g1 ⟨⟨us,ht1,pu1⟩,hpt⟩⟩
def za0:Sp:=fun vs H Q _=>∃(k:Int)(p q:List Nb)(m1 m2:Nat)(a b:Addr),vs=[.int k,.ref a,.ref b]/\kaa k/\kah H p a/\kah H q b/\La.OkR k p/\La.OkR k q/\(∀ x∈p,szk k m1 x)/\(∀ x∈q,szk k m2 x)/\61<=m1/\61<=m2/\(k=0->61+p.length*q.length *(m1+m2+1)<=60000000)/\1<=p.length/\1<=q.length/\p.length<=10/\q.length<=10 /\
 ∀ xs r H',Same H H'->NewR H H' xs r->xs.length=p.length+q.length - 1->La.OkR k xs->(∀ x∈xs,szk k (61+p.length*q.length *(m1+m2+1)) x)->(∀(F:Type) [Lean.Grind.Field F] (φ:La.Kf k F) (j:Nat),La.nv φ xs j=La.pmu j (La.nv φ p) (La.nv φ q))->Q (.ref r) H'
theorem zes (D:Df K mg "_law_poly_times" qe yO) (zU:Kn P w K mg base "_law_make" 1 qc xD) (yp:Kn P w K mg base "_law_plus" 42 qe (xV nadd)) (yg:Kn P w K mg base "_law_times" 42 qe (xV nmul)) (zy:mg "range" = none) (m_len:mg "len" = none) (m_max:mg "max" = none):Kn P w K mg base "_law_poly_times" 43 qe za0:=by
 refine D.kn so (fun vs H Q E h=>?_) (fun f cdv A outer s H vs Q E hr h=>?_)
 ·obtain⟨k,p,q,m1,m2,a,b,rfl,_⟩:=h;rfl
 obtain⟨k,p,q',m1,m2,a,b,rfl,hk,ha,hb,op,oq,sp,sq,a7,b7,bd,lp1,lq1,lp,lq,q⟩:=h;have szl:=dh
 obtain⟨ua,hua,pua,lua⟩:=ha.len;obtain⟨ub,hub,pub,lub⟩:=hb.len;refine⟨_,(zc (Yd 3 so.nd ["_law_prime_here"] [0] (zR rfl zy (za (zw (QT rfl) rfl m_max zg6 (za zf (za (zm xZ (zm yy (zw zA rfl m_len yb (za (pv 1) zd)) (zw zA rfl m_len yb (za (pv 2) zd))) zf) zd))) zd)) fun _ _ _ _ _ _=>⟨zJ,(zt zU hr (za (pv 1) (za zf zd)))⟩) (zc (yE PassesOwn.never rfl (zR rfl zy (za (zw zA rfl m_len yb (za (pv 1) zd)) zd)) (zC (i:=4) so.nd rfl (.inl rfl)) (zi (yE PassesOwn.never rfl (zR rfl zy (za (zw zA rfl m_len yb (za (pv 2) zd)) zd)) (zC (i:=5) so.nd rfl (.inl rfl)) (zi (qg (zt yp hr (za (pv 0) (za (zD zo (pv 3) (zm yy (pv 4) (pv 5))) (za (zt yg hr (za (pv 0) (za (zD zo (pv 1) (pv 4)) (za (zD zo (pv 2) (pv 5)) zd)))) zd)))) (Xm (pv 3) (zm yy (pv 4) (pv 5)) qd)))))) (zi (zq (pv 3))))),?_⟩;refine⟨_,rfl,a,_,rfl,.inl (SqL.of hua),_,rfl,b,_,rfl,.inl (SqL.of hub),_,_,rfl,rfl,_,_,rfl,rfl,_,_,rfl,_,rfl,(by split <;> omega),(by split <;> omega),?_⟩;have eN:(if (ua.length:Int) +(ub.length:Int) - 1 > 0 then(ua.length:Int) +(ub.length:Int) - 1 else 0).toNat=p.length+q'.length - 1:=by split <;> omega
 rw[eN];refine yt (lo:=0) (n:=p.length+q'.length - 1) (fun i ys H'=>Same H H'/\Paired (RN H') (wx i (nnum k 0)) ys) ⟨Same.refl _,.nil⟩ ?_ ?_ ?_
 ·rintro i ys H' hi ⟨g,pr⟩
  have:=zj pr;rw[wL]at this;omega
 ·rintro i ys H' hi ⟨g,pr⟩
  first|refine gyes ?_|refine tyes ?_
  refine⟨_,rfl,k,0,rfl,hk,fun v H2 g2 r2=>nxt hi ⟨g.trans g2,?_⟩⟩;rw[ur];exact zS (yJ g2 pr) r2
 rintro ys H1 ⟨g1,pr1⟩ pt hpt
 have ptH:H pt=none:=g1.none hpt;have g2:=ze hpt (.lst ys);have z0:∀(F:Type) [Lean.Grind.Field F] (φ:La.Kf k F) (m:Nat),La.nv φ (wx (p.length+q'.length - 1) (nnum k 0)) m=La.mulT (La.nv φ p) (La.nv φ q') 0 m +(if 0<=m/\m<0+0 then La.nv φ p 0*La.nv φ q' (m - 0)else 0):=fun F _ φ m=>by
  rw[if_neg (by omega)];have e:La.nv φ (wx (p.length+q'.length - 1) (nnum k 0)) m=0:=by
   rcases wO m (p.length+q'.length - 1)with h|h
   ·rw[La.yf φ (x:=nnum k 0) (by rw[uy,if_pos h])];exact φ.num0
   ·exact La.yh φ (by rw[wL];exact h)
  rw[e];show(0:F)=0+0
  grind
 refine⟨_,rfl,a,_,rfl,.inl (SqL.of (g2 _ _ (g1 _ _ hua))),_,rfl,(by omega),(by omega),?_⟩;rw[wS,lua];refine yw (lo:=0) (n:=p.length) (fun i σ H'=>∃ xs us o4 o5,σ=[some (.int k),some (.ref a),some (.ref b),some (.ref pt),o4,o5]/\Same H H'/\H' pt=some (.lst us)/\Paired (RN H') xs us/\xs.length=p.length+q'.length - 1/\La.OkR k xs/\(∀ x∈xs,szk k (61+i*q'.length *(m1+m2+1)) x)/\(∀(F:Type) [Lean.Grind.Field F] (φ:La.Kf k F) (m:Nat),La.nv φ xs m=La.mulT (La.nv φ p) (La.nv φ q') i m)) ⟨_,ys,none,none,rfl,g1.trans g2,zg,yJ g2 pr1,by rw[wL],fun x hx=>by rw[vk hx];exact La.zL hk 0,fun x hx=>by rw[vk hx];exact fun _=>yI hk (xw _) (by omega),fun F _ φ m=>by rw[z0 F φ m,if_neg (by omega)];grind⟩ ?_ ?_
 ·rintro i σ H2 hi ⟨xs,us,o4,o5,rfl,g2',ht2,pu2,lx2,ox2,sx2,nx2⟩
  rw[vC];refine⟨_,rfl,b,_,rfl,.inl (SqL.of (g2' _ _ hub)),_,rfl,(by omega),(by omega),?_⟩;rw[wS,lub];refine yw (lo:=0) (n:=q'.length) (fun j σ H'=>∃ xs us o5,σ=[some (.int k),some (.ref a),some (.ref b),some (.ref pt),some (.int (i:Int)),o5]/\Same H H'/\H' pt=some (.lst us)/\Paired (RN H') xs us/\xs.length=p.length+q'.length - 1/\La.OkR k xs/\(∀ x∈xs,szk k (61 +(i*q'.length+j) *(m1+m2+1)) x)/\(∀(F:Type) [Lean.Grind.Field F] (φ:La.Kf k F) (m:Nat),La.nv φ xs m=La.mulT (La.nv φ p) (La.nv φ q') i m +(if i<=m/\m<i+j then La.nv φ p i*La.nv φ q' (m - i)else 0))) ⟨xs,us,o5,rfl,g2',ht2,pu2,lx2,ox2,sx2,fun F _ φ m=>by rw[nx2 F φ m,if_neg (by omega)];grind⟩ ?_ ?_
  ·rintro j σ H3 hj ⟨xs,us,o5,rfl,g3,ht3,pu3,lx3,ox3,sx3,nx3⟩
   rw[vC];have lu3:=zj pu3;have ij:i+j<xs.length:=by omega
   obtain⟨u,eu,ru⟩:=yv pu3 (wc ij);obtain⟨va,ea,rva⟩:=yv pua (wc hi);obtain⟨vb,eb,rvb⟩:=yv pub (wc hj);have o1:=op _ (wm hi);have o2:=oq _ (wm hj);have o3:=ox3 _ (wm ij);have om:=La.yB hk o1 o2;have sm:=jH o1 o2 (sp _ (wm hi)) (sq _ (wm hj));have s3:=sx3 _ (wm ij);have hb1:(i*q'.length+j)+1<=p.length*q'.length:=by
    have:(i+1)*q'.length<=p.length*q'.length:=wP _ (by omega);rw[uk]at this;omega
   have hb2:((i*q'.length+j)+1) *(m1+m2+1)<=p.length*q'.length *(m1+m2+1):=wP _ hb1;have hb3:((i*q'.length+j)+1) *(m1+m2+1) =(i*q'.length+j) *(m1+m2+1) +(m1+m2+1):=uk _ _;refine⟨_,rfl,_,rfl,_,rfl,_,rfl,_,_,rfl,rfl,pt,_,_,_,rfl,rfl,SqL.of ht3,(by rw[show(i:Int) +(j:Int) =((i+j:Nat):Int) by omega];exact zH eu),_,rfl,_,rfl,_,rfl,a,_,_,_,rfl,rfl,SqL.of (g3 _ _ hua),zH ea,_,rfl,_,rfl,b,_,_,_,rfl,rfl,SqL.of (g3 _ _ hub),zH eb,k,p[i],q'[j],_,_,rfl,⟨hk,o1,o2,nsm60 hk o1 (sp _ (wm hi)) (fun h=>by have:=bd h;omega),nsm60 hk o2 (sq _ (wm hj)) (fun h=>by have:=bd h;omega),rva.mono g3,rvb.mono g3⟩,fun v4 H4 g4 r4=>?_⟩;refine⟨k,xs[i+j],nmul k p[i] q'[j],_,_,rfl,⟨hk,o3,om,nsm60 hk o3 s3 (fun h=>by have:=bd h;omega),nsm60 hk om sm (fun h=>by have:=bd h;omega),ru.mono g4,r4⟩,fun v5 H5 g5 r5=>?_⟩;have g35:=g4.trans g5;have ht5:=g35 _ _ ht3;refine⟨_,rfl,_,rfl,_,rfl,_,_,rfl,rfl,pt,us,_,i+j,rfl,rfl,ht5,(by rw[show(i:Int) +(j:Int) =((i+j:Nat):Int) by omega];exact qP (by omega)),?_⟩;refine⟨xs.set (i+j) (nadd k xs[i+j] (nmul k p[i] q'[j])),us.set (i+j) v5,_,rfl,yC (g3.trans g35) ptH,zg,Xr ht5 (zcK (yJ g35 pu3) (i+j) r5),by rw[vg];exact lx3,fun x hx=>?_,fun x hx=>?_,fun F _ φ m=>?_⟩
   ·rcases La.yk hx with e|e
    ·rw[e];exact La.yG hk o3 om
    ·exact ox3 x e
   ·rcases La.yk hx with e|e
    ·rw[e];refine(Jv o3 om s3 sm).mono ?_;rw[show i*q'.length +(j+1) =(i*q'.length+j)+1 by omega,hb3];omega
    ·exact(sx3 x e).mono (by rw[show i*q'.length +(j+1) =(i*q'.length+j)+1 by omega,hb3];omega)
   ·rw[La.zh5 ij,φ.add o3 om,φ.mul o1 o2,nx3 F φ m];have e3:φ.to xs[i+j]=La.mulT (La.nv φ p) (La.nv φ q') i (i+j):=by
     have:=nx3 F φ (i+j);rw[La.yf φ (wc ij),if_neg (by omega)]at this;rw[this];grind
    by_cases c:m=i+j
    ·subst c;rw[if_pos rfl,if_pos (by omega),e3,show i+j - i=j by omega,La.yf φ (wc hi),La.yf φ (wc hj)]
    ·rw[if_neg c]
     by_cases c2:i<=m/\m<i+j
     ·rw[if_pos c2,if_pos (by omega)]
     ·rw[if_neg c2,if_neg (by omega)]
  ·rintro σ H3 ⟨xs,us,o5,rfl,g3,ht3,pu3,lx3,ox3,sx3,nx3⟩
   refine⟨xs,us,_,_,rfl,g3,ht3,pu3,lx3,ox3,fun x hx=>(sx3 x hx).mono (by rw[uk];exact wu _),fun F _ φ m=>?_⟩;rw[nx3 F φ m];show _=La.mulT (La.nv φ p) (La.nv φ q') i m+La.nv φ p i *(if i<=m then La.nv φ q' (m - i)else 0)
   by_cases c:i<=m
   ·rw[if_pos c]
    by_cases c2:m<i+q'.length
    ·rw[if_pos ⟨c,c2⟩]
    ·rw[if_neg (by omega),La.yh φ (xs:=q') (by omega)];grind
   ·rw[if_neg c,if_neg (by omega)];grind
 ·rintro σ H2 ⟨xs,us,o4,o5,rfl,g2',ht2,pu2,lx2,ox2,sx2,nx2⟩
  exact⟨_,rfl,q xs pt H2 g2' ⟨⟨us,ht2,pu2⟩,ptH⟩ lx2 ox2 sx2 fun F _ φ j=>by rw[nx2 F φ j];exact(La.zcn p.length j _ _ (fun i hi=>La.yh φ hi)).symm⟩
def RsAt(H:Hp)(R:List (TB))(p:Addr)(ts:List Addr):Prop:=H p=some (.lst (ts.map V.ref))/\Paired (fun M t=>∃ ras,kag H M t ras) R ts
theorem RsAt.mono{H H':Hp}{R:List (TB)}{p:Addr}{ts:List Addr}(h:RsAt H R p ts)(g:Same H H'):RsAt H' R p ts:=⟨g _ _ h.1,xp (fun _ _ ⟨ras,r⟩=>⟨ras,r.mono g⟩) h.2⟩
theorem ze6{α β:Type}{R:α->β->Prop}{xs:List α}{ys:List β}(h:Paired R xs ys)(n:Nat):Paired R (xs.drop n) (ys.drop n):=by
 have l:=zj h;refine Zf (by rw[vE,vE,l]) fun i x a h1 h2=>?_
 rw[uV]at h1 h2;exact xl h h1 h2
def mnr{α:Type}(j:Nat)(rows:List (List α)):List (List α):=(rows.drop 1).map fun r=>r.take j++r.drop (j+1)
theorem zit{α β:Type}[Lean.Grind.CommRing β](f:α->β)(j:Nat)(rows:List (List α)):La.minor j (rows.map fun r=>r.map f) =(mnr j rows).map fun r=>r.map f:=by
 unfold La.minor mnr;rw[← uo,vm,vm];refine vB fun r _=>?_
 show(r.map f).take j ++(r.map f).drop (j+1) =(r.take j++r.drop (j+1)).map f;rw[wv,ue,uo]
theorem zcN{α β:Type}(f:α->β)(j:Nat)(rows:List (List α)):mnr j (rows.map fun r=>r.map f) =(mnr j rows).map fun r=>r.map f:=by
 unfold mnr;rw[← uo,vm,vm];refine vB fun r _=>?_
 show(r.map f).take j ++(r.map f).drop (j+1) =(r.take j++r.drop (j+1)).map f;rw[wv,ue,uo]
def lmax(f:Nat->Nat):Nat->Nat
 | 0=>0
 | j+1=>max (lmax f j) (f j)
def ldet:Nat->List (List Nat)->Nat
 | 0,_=>1
 | d+1,S=>lmax (fun j=>(S.getD 0 []).getD j 0+ldet d (mnr j S) - 1) (d+1)
theorem zbE{f:Nat->Nat}{lo hi:Nat}:∀ n,(∀ j,j<n->lo<=f j/\f j<=hi)->(0<n->lo<=lmax f n)/\lmax f n<=hi
 | 0,_=>⟨fun h=>absurd h (by omega),vq _⟩
 | n+1,h=>by
  have ih:=zbE n fun j hj=>h j (by omega)
  have hn:=h n (by omega);show(0<n+1->lo<=max (lmax f n) (f n))/\max (lmax f n) (f n)<=hi;have:=ih.2;omega
theorem zd0{α:Type}{P:α->Prop}{n j:Nat}{R:List (List α)}(l:R.length=n+1)(hj:j<n+1)(h:∀ r∈R,r.length=n+1/\∀ x∈r,P x):(mnr j R).length=n/\∀ r∈mnr j R,r.length=n/\∀ x∈r,P x:=by
 refine⟨by unfold mnr;rw[wa,vE];omega,fun r hr=>?_⟩;unfold mnr at hr;obtain⟨r',hr',rfl⟩:=wj.mp hr;have o:=h r' (uq hr');refine⟨by rw[wD,wt,vE];omega,fun x hx=>?_⟩
 rcases wq.mp hx with e|e
 ·exact o.2 x (vw e)
 ·exact o.2 x (uq e)
theorem zbo:∀(d:Nat)(S:List (List Nat)),S.length=d->(∀ r∈S,r.length=d/\∀ x∈r,1<=x/\x<=2)->1<=ldet d S/\ldet d S<=d+1
 | 0,_,_,_=>⟨wu _,wu _⟩
 | d+1,S,l,h=>by
  have key:∀ j,j<d+1->1<=(S.getD 0 []).getD j 0+ldet d (mnr j S) - 1/\(S.getD 0 []).getD j 0+ldet d (mnr j S) - 1<=d+2:=fun j hj=>by
   obtain⟨m1,m2⟩:=zd0 l hj h;have ih:=zbo d (mnr j S) m1 m2;have h0:0<S.length:=by omega
   have e0:S.getD 0 []=S[0]:=by rw[we,wc h0];rfl
   have o:=h S[0] (wm h0);have hj':j<S[0].length:=by omega
   have e1:(S.getD 0 []).getD j 0=S[0][j]:=by rw[e0,we,wc hj'];rfl
   have:=o.2 _ (wm hj');rw[e1];omega
  have:=zbE (d+1) key;exact⟨this.1 (by omega),this.2⟩
def sdT1(s n:Nat):Nat:=61+2 *(n+1) *(1000+s+1)
def sdT2(s n:Nat):Nat:=61 +(n+2) *(61+sdT1 s n+1)
def sd:Nat->Nat
 | 0=>61
 | n+1=>61 +(n+1) *(sdT2 (sd n) n+1)
theorem zjZ:∀ n,n<=2->sdT1 (sd n) n<=60000000/\sdT2 (sd n) n<=60000000/\sd (n+1)<=60000000:=by decide
theorem zjW:∀ n,61<=sd n
 | 0=>wu _
 | n+1=>gZ _ _
def PolyOk(k:Int)(x:List Nb):Prop:=1<=x.length/\x.length<=2/\La.OkR k x/\∀ y∈x,szk k 1000 y
def DetP(k:Int)(n:Nat)(R:List (TB))(xs:List Nb):Prop:=∀(F:Type) [Lean.Grind.Field F] (φ:La.Kf k F),La.pnv φ xs=La.cdet n (R.map fun r=>r.map fun x=>La.pnv φ x)
def zcP(d:Nat):Sp:=fun vs H Q _=>∃(k:Int)(R:List (TB))(n:Nat)(p:Addr)(ts:List Addr),vs=[.int k,.ref p]/\kaa k/\RsAt H R p ts/\R.length=n/\(∀ r∈R,r.length=n/\∀ x∈r,PolyOk k x)/\n<d/\n<=4/\(k=0->n<=3) /\
 ∀ xs a H',Same H H'->NewR H H' xs a->xs.length=ldet n (R.map fun r=>r.map vt)->La.OkR k xs->(∀ y∈xs,szk k (sd n) y)->DetP k n R xs->Q (.ref a) H'
theorem ziH (D:Df K mg "_law_det" QD jE):Kn P w K mg base "_law_det" (46+0) ["_law_prime_here", "_law_rows"] (zcP 0):=by
 refine D.kn Se (fun vs H Q E h=>?_) (fun f cdv A outer s H vs Q E hr h=>?_)
 all_goals
  obtain⟨k,R,n,p,ts,rfl,hk,hR,lR,oR,nd,_⟩:=h;exact absurd nd (by omega)
theorem zcI{k:Int}{n:Nat}{R:List (TB)}(h:∀ r∈R,r.length=n/\∀ x∈r,PolyOk k x):∀ r∈R.map (fun r=>r.map vt),r.length=n/\∀ x∈r,1<=x/\x<=2:=fun r hr=>by
 obtain⟨r',hr',rfl⟩:=wj.mp hr;refine⟨by rw[wa];exact(h r' hr').1,fun x hx=>?_⟩;obtain⟨y,hy,rfl⟩:=wj.mp hx;have:=(h r' hr').2 y hy;exact⟨this.1,this.2.1⟩
theorem zhw{k:Int}{F:Type}[Lean.Grind.Field F](φ:La.Kf k F)(c:Nb):La.pnv φ [c]=La.cst (φ.to c):=by
 funext j
 cases j with
 | zero=>rfl
 | succ j=>exact La.yh φ (by simp)
theorem zjK{k:Int}(hk:kaa k){F:Type}[Lean.Grind.Field F](φ:La.Kf k F)(j:Nat):(La.cst (φ.to (nnum k (1 - 2 *((j:Int).fmod 2)))):La.PSr F)=La.sgn j:=by
 rw[φ.num];unfold La.sgn;have e:(j:Int).fmod 2 =((j % 2:Nat):Int):=by rw[uh _ (by decide)];omega
 rw[e];have hm:=La.QW (R:=F)
 rcases Nat.mod_two_eq_zero_or_one j with h|h
 ·rw[h,if_pos rfl];rw[show(1:Int) - 2 *((0:Nat):Int)=1 by decide,La.ι_one];exact hm.one
 ·rw[h,if_neg (by decide)];rw[show(1:Int) - 2 *((1:Nat):Int) = -1 by decide,La.ι_neg,La.ι_one,hm.neg,hm.one]
theorem Xv (d:Nat) (D:Df K mg "_law_det" QD jE) (Yb:Kn P w K mg base "_law_det" (46+d) ["_law_prime_here", "_law_rows"] (zcP d)) (zU:Kn P w K mg base "_law_make" 1 qc xD) (Yq:Kn P w K mg base "_law_poly_plus" 43 qe zb7) (jC:Kn P w K mg base "_law_poly_times" 43 qe za0) (zy:mg "range" = none) (m_len:mg "len" = none):Kn P w K mg base "_law_det" (46+d+1) ["_law_prime_here", "_law_rows"] (zcP (d+1)):=by
 refine D.kn Se (fun vs H Q E h=>?_) (fun f cdv A outer s H vs Q E hr h=>?_)
 ·obtain⟨k,R,n,p,ts,rfl,_⟩:=h;rfl
 obtain⟨k,R,n,p,ts,rfl,hk,hR,lR,oR,nd,n4,n3,q⟩:=h;have szl:=dh
 have lt:=zj hR.2;rw[lR]at lt;refine⟨_,(zc (yz (zI xc (zw zA rfl m_len yb (za (pv 1) zd)) zf (kae _)) (zi (zq (yl (za (zbj zU (hr.mono (by omega)) rfl (za (pv 0) (za zf zd))) zd)))) zQ) (zc (zk (i:=2) Se.nd rfl (.inl rfl) (yl zd)) (zc (yE PassesOwn.never rfl (zR rfl zy (za (zw zA rfl m_len yb (za (pv 1) zd)) zd)) (zC (i:=3) Se.nd rfl (.inr rfl)) (zc (zk (i:=4) Se.nd rfl (.inl rfl) (zbj Yb (hr.mono (by omega)) rfl (za (pv 0) (za (yV ["_law_j"] [3] (zE (yT xB (pv 1) (xq zf) je)) fun _ _ _ _ _ _=>⟨zJ,(zm qh (yT xB (pv 0) je (xq (pv 1))) (yT xB (pv 0) (xq (zm yy (pv 1) zf)) je))⟩) zd)))) (zc (zk (i:=4) Se.nd rfl (.inl rfl) (zbj jC (hr.mono (by omega)) rfl (za (pv 0) (za (zD zo (zD zo (pv 1) zf) (pv 3)) (za (pv 4) zd))))) (zc (zk (i:=4) Se.nd rfl (.inl rfl) (zbj jC (hr.mono (by omega)) rfl (za (pv 0) (za (yl (za (zbj zU (hr.mono (by omega)) rfl (za (pv 0) (za (zm xZ zf (zm zW zf (zm zO (pv 3) zf))) zd))) zd)) (za (pv 4) zd))))) (zi (zk (i:=2) Se.nd rfl (.inl rfl) (zbj Yq (hr.mono (by omega)) rfl (za (pv 0) (za (pv 2) (za (pv 4) zd)))))))))) (zi (zq (pv 2)))))),?_⟩;refine⟨_,rfl,p,_,rfl,.inl (SqL.of hR.1),rfl,_,rfl,?_⟩;rw[wa,← lt];refine ite2 (fun c=>?_) (fun c=>?_)
 ·have n0:n=0:=by have:=V.int.inj (of_decide_eq_true c);omega
  subst n0;refine⟨_,rfl,k,1,rfl,hk,fun v H1 g1 r1=>⟨(by show 1<=sizeLine;decide),fun pl hpl=>?_⟩⟩;have g2:=ze hpl (.lst [v]);refine q [nnum k 1] pl _ (g1.trans g2) ⟨⟨[v],zg,.cons (r1.mono g2) .nil⟩,g1.none hpl⟩ rfl (fun x hx=>by rw[wn.mp hx];exact La.zL hk 1) (fun x hx=>by rw[wn.mp hx];exact fun _=>yI hk (sm_one.mono (by decide)) (by decide)) fun F _ φ=>?_
  show _ =(1:La.PSr F);rw[zhw,φ.num,La.ι_one];exact(La.QW (R:=F)).one
 obtain⟨n',rfl⟩ : ∃ n',n=n'+1:=⟨n - 1,by
  have:n≠0:=fun e=>c (by rw[e];exact decide_eq_true rfl)
  omega⟩
 have lo:=zjW n';refine⟨(by show 0<=sizeLine;decide),fun pt hpt=>?_⟩;have g0:=ze hpt (.lst []);refine⟨_,rfl,p,_,rfl,.inl (SqL.of (g0 _ _ hR.1)),_,rfl,(by omega),(by rw[wa,← lt];omega),?_⟩;rw[wS,wa,← lt];have bd:k=0->sdT1 (sd n') n'<=60000000/\sdT2 (sd n') n'<=60000000/\sd (n'+1)<=60000000:=fun h=>zjZ n' (by have:=n3 h;omega)
 have h0R:0<R.length:=by omega
 have g0R:R[0]?=some R[0]:=wc h0R;obtain⟨t0,et0,ras0,T0⟩:=yv hR.2 g0R;have o0:=oR R[0] (wm h0R);refine yw (lo:=0) (n:=n'+1) (fun j σ H'=>∃ xs a o3 o4,σ=[some (.int k),some (.ref p),some (.ref a),o3,o4]/\Same H H'/\NewR H H' xs a/\xs.length=lmax (fun j=>((R.map fun r=>r.map vt).getD 0 []).getD j 0+ldet n' (mnr j (R.map fun r=>r.map vt)) - 1) j/\La.OkR k xs/\(∀ y∈xs,szk k (61+j *(sdT2 (sd n') n'+1)) y)/\(∀(F:Type) [Lean.Grind.Field F] (φ:La.Kf k F),La.pnv φ xs=La.csum (fun j=>La.sgn j *(((R.map fun r=>r.map fun x=>La.pnv φ x).getD 0 []).getD j 0*La.cdet n' (La.minor j (R.map fun r=>r.map fun x=>La.pnv φ x)))) j)) ⟨[],pt,none,none,rfl,g0,⟨⟨[],zg,.nil⟩,hpt⟩,rfl,fun x hx=>(nomatch hx),fun x hx=>(nomatch hx),fun F _ φ=>by
  show _ =(0:La.PSr F);rw[← (La.QW (R:=F)).zero]
  funext j
  show La.nv φ [] j=_;rw[La.yh φ (vq _)];cases j <;> rfl⟩ ?_ ?_
 ·rintro j σ H1 hj ⟨xs,a,o3,o4,rfl,g1,N1,l1,ox1,sx1,nx1⟩
  rw[vC];have R1:=hR.mono g1;obtain⟨ml,mo⟩:=zd0 lR hj oR;refine⟨_,rfl,_,rfl,_,rfl,p,_,rfl,SqL.of R1.1,fun p2 hp2=>?_⟩;rw[show cutV (ts.map V.ref) (some 1) none =(ts.map V.ref).drop 1 from zcD _ 1,← uo];have g2:=ze hp2 (.lst ((ts.drop 1).map V.ref));have e2:upd H1 p2 (.lst ((ts.drop 1).map V.ref)) p2=some (.lst ((ts.drop 1).map V.ref)):=zg;have D2:Paired (fun M t=>∃ ras,kag (upd H1 p2 (.lst ((ts.drop 1).map V.ref))) M t ras) (R.drop 1) (ts.drop 1):=ze6 (R1.mono g2).2 1;generalize upd H1 p2 (.lst ((ts.drop 1).map V.ref))=H2 at *;refine⟨p2,rfl,⟨_,SqL.of e2⟩,?_⟩;have lD:=zj D2;have lmn:(mnr j R).length =(R.drop 1).length:=by unfold mnr;rw[wa]
  refine zN (xs:=(ts.drop 1).map V.ref) (fun i ys H'=>∃ ts',ys=ts'.map V.ref/\Same H2 H'/\Paired (fun M t=>∃ ras,kag H' M t ras) ((mnr j R).take i) ts') ⟨[],rfl,Same.refl _,.nil⟩ ?_ ?_ ?_
  ·rintro i ys H' hi ⟨ts',rfl,g,pr⟩
   refine⟨SqL.of (g _ _ e2),?_⟩;have:=zj pr;rw[wt]at this;rw[wa];omega
  ·rintro i v ys H' hv hi ⟨ts',rfl,g,pr⟩
   rw[wk]at hv;obtain⟨t,ht,rfl⟩:=wK.mp hv;obtain⟨M,hM,ras,T⟩:=zT D2 ht;have T':=T.mono g;have lras:=zj T'.2;have oMr:=oR M (uq (wg hM))
   first|refine gyes ?_|refine tyes ?_
   refine⟨_,rfl,_,rfl,_,rfl,t,_,rfl,SqL.of T'.1,fun pa hpa=>?_⟩;rw[zhr,← ue];have ga:=ze hpa (.lst ((ras.take j).map V.ref));have ea:upd H' pa (.lst ((ras.take j).map V.ref)) pa=some (.lst ((ras.take j).map V.ref)):=zg;have Ta:=T'.mono ga;generalize upd H' pa (.lst ((ras.take j).map V.ref))=Ha at *;refine⟨_,rfl,_,rfl,_,_,rfl,rfl,_,rfl,t,_,rfl,SqL.of Ta.1,fun pb hpb=>?_⟩;rw[show(j:Int)+1 =((j+1:Nat):Int) by omega,zcD,← uo];have gb:=ze hpb (.lst ((ras.drop (j+1)).map V.ref));have eb:upd Ha pb (.lst ((ras.drop (j+1)).map V.ref)) pb=some (.lst ((ras.drop (j+1)).map V.ref)):=zg;have Tb:=Ta.mono gb;have ea':=gb _ _ ea;generalize upd Ha pb (.lst ((ras.drop (j+1)).map V.ref))=Hb at *;refine⟨pa,pb,_,_,rfl,rfl,ea',eb,(by rw[wa,wa,wt,vE];omega),fun pc hpc=>?_⟩;have gc:=ze hpc (.lst ((ras.take j).map V.ref ++(ras.drop (j+1)).map V.ref));have gg:=(ga.trans gb).trans gc;refine nxt hi ⟨ts'++[pc],by rw[wv];rfl,g.trans gg,?_⟩;rw[zp (x:=M.take j++M.drop (j+1)) (by unfold mnr;rw[wk,hM];rfl)];exact zS (xp (fun _ _ ⟨ras,r⟩=>⟨ras,r.mono gg⟩) pr) ⟨ras.take j++ras.drop (j+1),by rw[zg,wv],qk (zio (Tb.mono gc).2 j) (ze6 (Tb.mono gc).2 (j+1))⟩
  rintro ys H3 ⟨ts',rfl,g3,pr3⟩ pm hpm
  rw[wa,wo (by omega)]at pr3;have g4:=ze hpm (.lst (ts'.map V.ref));have RM:RsAt (upd H3 pm (.lst (ts'.map V.ref))) (mnr j R) pm ts':=⟨zg,xp (fun _ _ ⟨ras,r⟩=>⟨ras,r.mono g4⟩) pr3⟩;generalize upd H3 pm (.lst (ts'.map V.ref))=H4 at *;have g14:=(g2.trans g3).trans g4;refine⟨k,mnr j R,n',pm,ts',rfl,hk,RM,ml,mo,(by omega),(by omega),(fun h=>by have:=n3 h;omega),fun ds ad H5 g5 N5 ld od sds cd=>?_⟩;have g15:=g14.trans g5;have bl:=zbo n' ((mnr j R).map fun r=>r.map vt) (by rw[wa];exact ml) (zcI mo);rw[← ld]at bl;have hjr:j<R[0].length:=by omega
  obtain⟨ax,eax,RX⟩:=yv T0.2 (wc hjr);have oX:=o0.2 _ (wm hjr);have g05:=g1.trans g15;have hb1:R[0][j].length*ds.length *(1000+sd n'+1)<=2 *(n'+1) *(1000+sd n'+1):=wP _ (vY oX.2.1 bl.2);refine⟨_,rfl,_,rfl,p,_,_,_,rfl,rfl,SqL.of (hR.mono g05).1,zH (j:=0) (by rw[wk,et0];rfl),_,rfl,t0,_,_,_,rfl,rfl,SqL.of (T0.mono g05).1,zH (by rw[wk,eax];rfl),_,rfl,k,R[0][j],ds,1000,sd n',ax,ad,rfl,hk,RX.mono g05,N5.row,oX.2.2.1,od,oX.2.2.2,sds,(by decide),lo,(fun h=>by have:=(bd h).1;unfold sdT1 at this;omega),oX.1,bl.1,(by have:=oX.2.1;omega),(by omega),fun x1 a1 H6 g6 N6 l6 o6 s6 c6=>?_⟩;have g06:=g05.trans g6;refine⟨_,rfl,_,rfl,_,rfl,_,_,rfl,rfl,(by show(2:Int)≠0;decide),_,_,rfl,rfl,xT (by decide) (by decide),_,_,rfl,rfl,k,_,rfl,hk,fun v7 H7 g7 r7=>⟨(by show 1<=sizeLine;decide),fun pl hpl=>?_⟩⟩;have g8:=ze hpl (.lst [v7]);have R8:kah (upd H7 pl (.lst [v7])) [nnum k (1 - 2 *((j:Int).fmod 2))] pl:=⟨[v7],zg,.cons (r7.mono g8) .nil⟩;generalize upd H7 pl (.lst [v7])=H8 at *;have g78:=g7.trans g8;have l61:1<=x1.length:=by have:=oX.1;omega
  have l62:x1.length<=n'+2:=by have:=oX.2.1;omega
  have s6':∀ y∈x1,szk k (sdT1 (sd n') n') y:=fun y hy=>(s6 y hy).mono (by unfold sdT1;omega)
  have hb2:1*x1.length *(61+sdT1 (sd n') n'+1)<=(n'+2) *(61+sdT1 (sd n') n'+1):=wP _ (by omega);refine⟨_,rfl,k,[nnum k (1 - 2 *((j:Int).fmod 2))],x1,61,sdT1 (sd n') n',pl,a1,rfl,hk,R8,N6.row.mono g78,(fun x hx=>by rw[wn.mp hx];exact La.zL hk _),o6,(fun x hx=>by
   rw[wn.mp hx];refine fun _=>yI hk ?_ (by decide)
   have f0:=wy (j:Int) (show(0:Int)<2 by decide);have f1:=wH (j:Int) (show(0:Int)<2 by decide);unfold Sm;have:(2:Nat)^61=2305843009213693952:=by decide
   omega),s6',(by decide),(by unfold sdT1;omega),(fun h=>by have:=(bd h).2.1;unfold sdT2 at this;show 61+1*x1.length*_<=_;omega),(by show 1<=1;decide),l61,(by show 1<=10;decide),(by omega),fun x2 a2 H9 g9 N9 l9 o9 s9 c9=>?_⟩
  have g69:=g78.trans g9;have s9':∀ y∈x2,szk k (sdT2 (sd n') n') y:=fun y hy=>(s9 y hy).mono (by show 61+1*x1.length*_<=_;unfold sdT2;omega)
  have l9':x2.length=R[0][j].length+ds.length - 1:=by rw[l9,l6];show 1+_ - 1=_;omega
  have hb3:j *(sdT2 (sd n') n'+1) +(sdT2 (sd n') n'+1)<=(n'+1) *(sdT2 (sd n') n'+1):=by
   have:(j+1) *(sdT2 (sd n') n'+1)<=(n'+1) *(sdT2 (sd n') n'+1):=wP _ (by omega);rw[uk]at this;exact this
  have g19:=(g15.trans g6).trans g69;have lx1:xs.length<=n'+2:=by
   rw[l1];refine(zbE (lo:=0) (hi:=n'+2) j fun j' hj'=>⟨vq _,?_⟩).2;obtain⟨ml',mo'⟩:=zd0 lR (show j'<n'+1 by omega) oR;have b':=zbo n' ((mnr j' R).map fun r=>r.map vt) (by rw[wa];exact ml') (zcI mo');rw[zcN];have e0:(R.map fun r=>r.map vt).getD 0 []=R[0].map vt:=by rw[we,wk,g0R];rfl
   have hj'':j'<R[0].length:=by omega
   have e1:(R[0].map vt).getD j' 0=R[0][j'].length:=by rw[we,wk,wc hj''];rfl
   rw[e0,e1];have:=(o0.2 _ (wm hj'')).2.1;omega
  refine⟨_,rfl,_,rfl,_,rfl,k,xs,x2,61+j *(sdT2 (sd n') n'+1),sdT2 (sd n') n',a,a2,rfl,hk,N1.row.mono g19,N9.row,ox1,o9,sx1,s9',(by omega),(by unfold sdT2;omega),(fun h=>by have b:=bd h;have e:sd (n'+1)=61 +(n'+1) *(sdT2 (sd n') n'+1):=rfl;rw[e]at b;omega),(by omega),(by omega),fun r Hz gz Nz=>?_⟩;have e0:(R.map fun r=>r.map vt).getD 0 []=R[0].map vt:=by rw[we,wk,g0R];rfl
  have e1:(R[0].map vt).getD j 0=R[0][j].length:=by rw[we,wk,wc hjr];rfl
  refine⟨ppL k xs x2,r,_,_,rfl,(g1.trans g19).trans gz,⟨Nz.row,(g1.trans g19).none Nz.fa⟩,?_,zja hk ox1 o9,fun y hy=>?_,fun F _ φ=>?_⟩
  ·have ef:((R.map fun r=>r.map vt).getD 0 []).getD j 0+ldet n' (mnr j (R.map fun r=>r.map vt)) - 1=x2.length:=by rw[e0,e1,zcN,← ld,l9']
   rw[zbk];show max xs.length x2.length=max (lmax _ j) (((R.map fun r=>r.map vt).getD 0 []).getD j 0+ldet n' (mnr j (R.map fun r=>r.map vt)) - 1);rw[ef,l1]
  ·refine(ziT hk (by omega) (by unfold sdT2;omega) ox1 o9 sx1 s9' y hy).mono ?_;rw[uk];omega
  ·show La.pnv φ (ppL k xs x2)=La.csum _ j+_;rw[← nx1 F φ];show La.pnv φ (ppL k xs x2)=La.pnv φ xs+La.sgn j *(((R.map fun r=>r.map fun x=>La.pnv φ x).getD 0 []).getD j 0*La.cdet n' (La.minor j (R.map fun r=>r.map fun x=>La.pnv φ x)));have f0:(R.map fun r=>r.map fun x=>La.pnv φ x).getD 0 []=R[0].map fun x=>La.pnv φ x:=by rw[we,wk,g0R];rfl
   have f1:(R[0].map fun x=>La.pnv φ x).getD j 0=La.pnv φ R[0][j]:=by rw[we,wk,wc hjr];rfl
   have f2:La.minor j (R.map fun r=>r.map fun x=>La.pnv φ x) =(mnr j R).map fun r=>r.map fun x=>La.pnv φ x:=zit (fun x=>La.pnv φ x) j R
   rw[f0,f1,f2,← cd F φ,← zjK hk φ j,← zhw]
   funext m
   show La.nv φ (ppL k xs x2) m=La.nv φ xs m+La.pmu m (La.pnv φ _) (fun i=>La.pmu i (La.nv φ R[0][j]) (La.nv φ ds));rw[zjA hk ox1 o9 φ m,c9 F φ m];have e6:La.nv φ x1=fun i=>La.pmu i (La.nv φ R[0][j]) (La.nv φ ds):=funext fun i=>c6 F φ i
   rw[e6]
   rfl
 ·rintro σ H1 ⟨xs,a,o3,o4,rfl,g1,N1,l1,ox1,sx1,nx1⟩
  exact⟨_,rfl,q xs a H1 g1 N1 l1 ox1 sx1 fun F _ φ=>nx1 F φ⟩
theorem zdN(k:Int)(M:TB)(i j:Nat):(La.grRow k M i j).length=if i=j then 2 else 1:=by unfold La.grRow;split <;> rfl
def shp(n:Nat):List (List Nat):=(wV n).map fun i=>(wV n).map fun j=>if i=j then 2 else 1
theorem zej(k:Int)(M:TB)(n:Nat):((La.grR k M n).map fun r=>r.map vt)=shp n:=by
 unfold La.grR shp;rw[vm];refine vB fun i _=>?_
 show((wV n).map _).map vt=_;rw[vm];exact vB fun j _=>zdN k M i j
theorem zfR:∀ n,n<=4->ldet n (shp n)=n+1:=by decide
theorem zgp{k:Int}(hk:kaa k){n:Nat}{M:TB}(oM:TOk k n n 900 M){i j:Nat}(hi:i<n)(hj:j<n):PolyOk k (La.grRow k M i j):=by
 obtain⟨r,hr,rr⟩:=oM.get hi;have hj':j<r.length:=by rw[rr.len];exact hj
 have e:(M.getD i []).getD j (.z 0)=r[j]:=by rw[show M.getD i []=r by rw[we,hr];rfl,we,wc hj'];rfl
 have o:=rr.ok _ (wm hj');have s:=rr.sz _ (wm hj');have on:=La.zL hk 0;have kl:=hk.lt;have os:(nsub k (nnum k 0) r[j]).ok k:=YV (by omega) on o;have ss:szk k 1000 (nsub k (nnum k 0) r[j]):=(zbJ on o (fun _=>yI hk (xw 61) (by decide)) (fun _=>s)).mono (by decide);unfold La.grRow;rw[e]
 split
 ·refine⟨by show 1<=2;decide,wu _,fun x hx=>?_,fun x hx=>?_⟩
  all_goals rcases wF.mp hx with e|e
  ·rw[e];exact os
  ·rw[wn.mp e];exact La.zL hk 1
  ·rw[e];exact ss
  ·rw[wn.mp e];exact fun _=>yI hk (sm_one.mono (by decide)) (by decide)
 ·refine⟨wu _,by show 1<=2;decide,fun x hx=>?_,fun x hx=>?_⟩
  ·rw[wn.mp hx];exact os
  ·rw[wn.mp hx];exact ss
def zaL:Sp:=fun vs H Q _=>∃(k:Int)(M:TB)(n:Nat)(t:Addr)(ras:List Addr),vs=[.int k,.ref t]/\kaa k/\kag H M t ras/\TOk k n n 900 M/\1<=n/\n<=4/\(k=0->n<=3) /\
 ∀ xs p H',Same H H'->kah H' xs p->xs.length=n+1->La.OkR k xs->La.GrP k n M xs->Q (.ref p) H'
theorem zfy (D:Df K mg "_law_great" da jj) (Yb:Kn P w K mg base "_law_det" 51 QD (zcP 5)) (zU:Kn P w K mg base "_law_make" 1 qc xD) (yZ:Kn P w K mg base "_law_minus" 43 qe Zr) (zy:mg "range" = none) (m_len:mg "len" = none) (m_int:mg "int" = none):Kn P w K mg base "_law_great" 52 da zaL:=by
 refine D.kn sK (fun vs H Q E h=>?_) (fun f cdv A outer s H vs Q E hr h=>?_)
 ·obtain⟨k,M,n,t,ras,rfl,_⟩:=h;rfl
 obtain⟨k,M,n,t,ras,rfl,hk,hT,oM,n1,n4,n3,q⟩:=h;have szl:=dh
 have lr:=zj hT.2;rw[oM.len]at lr;refine⟨_,(zc (zk (i:=2) sK.nd rfl (.inl rfl) (yl zd)) (zc (yE PassesOwn.never rfl (zR rfl zy (za (zw zA rfl m_len yb (za (pv 1) zd)) zd)) (zC (i:=3) sK.nd rfl (.inl rfl)) (zc (zk (i:=4) sK.nd rfl (.inl rfl) (yl zd)) (zc (yE PassesOwn.never rfl (zR rfl zy (za (zw zA rfl m_len yb (za (pv 1) zd)) zd)) (zC (i:=5) sK.nd rfl (.inl rfl)) (zc (zk (i:=6) sK.nd rfl (.inl rfl) (zt yZ hr (za (pv 0) (za (zt zU hr (za (pv 0) (za zf zd))) (za (zD zo (zD zo (pv 1) (pv 3)) (pv 5)) zd))))) (zi (yU (bm0 (fun _ h=>Zy PySem.F.plainAttrs_list PySem.F.slot_list_append PySem.F.type_list_append yK h (za (zm qh (yl (za (pv 6) zd)) (yV ["_law_prime_here"] [0] (zR rfl zy (za (qw XG rfl m_int zeQ (za (ja xc (pv 3) (pv 5) (kae _)) zd)) zd)) fun _ _ _ _ _ _=>⟨zJ,(zt zU hr (za (pv 1) (za zf zd)))⟩)) zd)) (pv 4)))))) (zi (yU (bm0 (fun _ h=>Zy PySem.F.plainAttrs_list PySem.F.slot_list_append PySem.F.type_list_append yK h (za (pv 4) zd)) (pv 2))))))) (zi (zq (yT xB (zt Yb hr (za (pv 0) (za (pv 2) zd))) je (xq (zm yy (zw zA rfl m_len yb (za (pv 1) zd)) zf))))))),?_⟩;refine⟨(by show 0<=sizeLine;decide),fun pt hpt=>?_⟩;have g0:=ze hpt (.lst []);refine⟨_,rfl,t,_,rfl,.inl (SqL.of (g0 _ _ hT.1)),_,rfl,(by omega),(by rw[wa,← lr];omega),?_⟩;rw[wS,wa,← lr];have lG:(La.grR k M n).length=n:=by unfold La.grR;simp
 refine yw (lo:=0) (n:=n) (fun i σ H'=>∃ ts rs o3 o4 o5 o6,σ=[some (.int k),some (.ref t),some (.ref pt),o3,o4,o5,o6]/\kai H H' ((La.grR k M n).take i) ts rs/\H' pt=some (.lst (ts.map V.ref))/\pt∉ts/\(∀ ras∈rs,pt∉ras)) ⟨[],[],none,none,none,none,rfl,kai.nil g0,zg,by simp,fun r hr=>(nomatch hr)⟩ ?_ ?_
 ·rintro i σ H1 hi ⟨ts,rs,o3,o4,o5,o6,rfl,G1,ht1,nt1,nr1⟩
  rw[vC];refine⟨(by show 0<=sizeLine;decide),fun pw hpw=>?_⟩;have g2:=ze hpw (.lst []);have g02:=G1.same.trans g2;refine⟨_,rfl,t,_,rfl,.inl (SqL.of (g02 _ _ hT.1)),_,rfl,(by omega),(by rw[wa,← lr];omega),?_⟩;rw[wS,wa,← lr];obtain⟨row,hrow,rrow⟩:=oM.get hi;have eRow:(La.grR k M n)[i]?=some ((wV n).map fun j=>La.grRow k M i j):=by unfold La.grR;rw[wk,vH hi];rfl
  have lRow:((wV n).map fun j=>La.grRow k M i j).length=n:=by simp
  refine yw (lo:=0) (n:=n) (fun j σ H'=>∃ qs o5 o6,σ=[some (.int k),some (.ref t),some (.ref pt),some (.int (i:Int)),some (.ref pw),o5,o6]/\Grow H1 H' (((wV n).map fun j=>La.grRow k M i j).take j) qs/\H' pw=some (.lst (qs.map V.ref))/\pw∉qs) ⟨[],o5,o6,rfl,Grow.nil H1 g2,zg,by simp⟩ ?_ ?_
  ·rintro j σ H3 hj ⟨qs,o5,o6,rfl,G3,hw3,nw3⟩
   rw[vC];have g03:=G1.same.trans G3.same;have T3:=hT.mono g03;obtain⟨ar,ear,RR⟩:=yv T3.2 hrow;obtain⟨us,hus,pus,lus⟩:=RR.len;have hj':j<row.length:=by rw[rrow.len];exact hj
   obtain⟨vx,evx,rvx⟩:=yv pus (wc hj');have ox:=rrow.ok _ (wm hj');have sx:=rrow.sz _ (wm hj');have ex:(M.getD i []).getD j (.z 0)=row[j]:=by rw[show M.getD i []=row by rw[we,hrow];rfl,we,wc hj'];rfl
   refine⟨_,rfl,_,rfl,k,0,rfl,hk,fun v4 H4 g4 r4=>?_⟩;have T4:=T3.mono g4;refine⟨_,rfl,_,rfl,t,_,_,_,rfl,rfl,SqL.of T4.1,zH (by rw[wk,ear];rfl),_,rfl,ar,_,_,_,rfl,rfl,SqL.of (g4 _ _ hus),zH evx,k,nnum k 0,row[j],_,_,rfl,hk,La.zL hk 0,ox,yI hk (xw _) (by decide),sx.mono (by decide),r4,rvx.mono g4,fun v5 H5 g5 r5=>?_⟩;have g35:=g4.trans g5;have hw5:=g35 _ _ hw3;refine⟨_,rfl,.inl ⟨rfl,_,SqL.of hw5⟩,_,rfl,(by show 1<=sizeLine;decide),fun pa hpa=>?_⟩;have g6:=ze hpa (.lst [v5]);have ea:upd H5 pa (.lst [v5]) pa=some (.lst [v5]):=zg;have r6:=r5.mono g6;generalize upd H5 pa (.lst [v5])=H6 at *;refine⟨_,rfl,_,rfl,rfl,.inr ⟨_,rfl,_,rfl,(by split <;> omega),(by split <;> omega),?_⟩⟩;have ec:(if decide (V.int (i:Int)=V.int (j:Int))=true then(1:Int)else 0).toNat=if i=j then 1 else 0:=by
    by_cases c:i=j
    ·rw[if_pos c,c,decide_eq_true rfl];rfl
    ·rw[if_neg c,decide_eq_false (fun z=>c (by have:=V.int.inj z;omega))];rfl
   rw[ec];refine yt (lo:=0) (n:=if i=j then 1 else 0) (fun l ys H'=>Same H6 H'/\Paired (RN H') (wx l (nnum k 1)) ys) ⟨Same.refl _,.nil⟩ ?_ ?_ ?_
   ·rintro l ys H' hl ⟨g,pr⟩
    have:=zj pr;rw[wL]at this
    split at hl <;> omega
   ·rintro l ys H' hl ⟨g,pr⟩
    first|refine gyes ?_|refine tyes ?_
    refine⟨_,rfl,k,1,rfl,hk,fun v H2 g2 r2=>nxt hl ⟨g.trans g2,?_⟩⟩;rw[ur];exact zS (yJ g2 pr) r2
   rintro ys H7 ⟨g7,pr7⟩ pb hpb
   have g8:=ze hpb (.lst ys);have g78:=g7.trans g8;have ea8:=g78 _ _ ea;have lys:=zj pr7;rw[wL]at lys;have l1:ys.length<=1:=by rw[← lys];split <;> omega
   refine⟨pa,pb,_,_,rfl,rfl,ea8,zg,(by show 1+ys.length<=sizeLine;omega),fun pc hpc=>?_⟩;have g38:=(g35.trans g6).trans g78;have hw8:=g38 _ _ hw3;have pr8:Paired (RN (upd H7 pb (.lst ys))) (La.grRow k M i j) ([v5]++ys):=by
    have e:La.grRow k M i j=[nsub k (nnum k 0) row[j]]++wx (if i=j then 1 else 0) (nnum k 1):=by
     unfold La.grRow;rw[ex]
     split <;> rfl
    rw[e];exact qk (.cons (r6.mono g78) .nil) (yJ g8 pr7)
   have lqs:=zj G3.rows;rw[wt]at lqs;have npc:pw≠pc:=fun e=>by rw[← e,hw8]at hpc;cases hpc
   refine⟨pw,_,_,rfl,rfl,(by rw[zM npc];exact hw8),(by rw[wa];omega),?_⟩;obtain⟨G9,n9⟩:=G3.push (zs':=(qs.map V.ref)++[.ref pc]) hpw hw3 nw3 g38 hpc pr8;refine⟨qs++[pc],_,_,rfl,?_,?_,n9⟩
   ·rw[zp (x:=La.grRow k M i j) (by rw[wk,vH hj];rfl)];exact G9
   ·rw[zg,wv];rfl
  ·rintro σ H3 ⟨qs,o5,o6,rfl,G3,hw3,nw3⟩
   rw[wo (by omega)]at G3;have N3:NewT H1 H3 ((wV n).map fun j=>La.grRow k M i j) pw qs:=⟨⟨hw3,G3.rows⟩,hpw,G3.fr,G3.nd,nw3⟩;have ht3:=G3.same _ _ ht1;have lts:=G1.lt;rw[wt]at lts;refine⟨_,rfl,.inl ⟨rfl,_,SqL.of ht3⟩,_,rfl,pt,_,_,rfl,rfl,ht3,(by rw[wa];omega),?_⟩;have nt6:pt≠pw:=fun e=>by rw[← e,ht1]at hpw;cases hpw
   have nr6:pt∉qs:=fun hm=>by have:=G3.fr _ hm;rw[ht1]at this;cases this
   have nts:pt∉ts++[pw]:=fun hm=>by
    rcases wq.mp hm with h|h
    ·exact nt1 h
    ·exact nt6 (wn.mp h)
   have nrs:∀ ras∈rs++[qs],pt∉ras:=fun ras hm=>by
    rcases wq.mp hm with h|h
    ·exact nr1 ras h
    ·rw[wn.mp h];exact nr6
   have G6:=G1.push G3.same N3;rw[← zp eRow]at G6;refine⟨ts++[pw],rs++[qs],_,_,_,_,rfl,G6.updAt hpt ht3 nts nrs,?_,nts,nrs⟩;rw[zg,wv];rfl
 ·rintro σ H1 ⟨ts,rs,o3,o4,o5,o6,rfl,G1,ht1,nt1,nr1⟩
  rw[wo (by omega)]at G1;have RR:RsAt H1 (La.grR k M n) pt ts:=⟨ht1,Zf (by rw[G1.lt]) fun i M' t' h1 h2=>by
   obtain⟨M2,t2,ras2,f1,f2,f3,f4⟩:=G1.get (ww.mp h1).1;rw[h1]at f1;rw[h2]at f2;cases f1;cases f2;exact⟨ras2,f4⟩⟩
  have oR:∀ r∈La.grR k M n,r.length=n/\∀ x∈r,PolyOk k x:=fun r hr=>by
   unfold La.grR at hr;obtain⟨i,hi,rfl⟩:=wj.mp hr;refine⟨by simp,fun x hx=>?_⟩;obtain⟨j,hj,rfl⟩:=wj.mp hx;exact zgp hk oM (vA.mp hi) (vA.mp hj)
  refine⟨_,rfl,_,rfl,k,La.grR k M n,n,pt,ts,rfl,hk,RR,lG,oR,(by omega),n4,n3,fun xs a H2 g2 N2 l2 ox2 sx2 c2=>?_⟩;rw[zej,zfR n n4]at l2;have g02:=G1.same.trans g2;obtain⟨us,hus,pus,lus⟩:=N2.row.len;refine⟨_,rfl,t,_,rfl,.inl (SqL.of (g02 _ _ hT.1)),_,_,rfl,rfl,_,rfl,a,_,rfl,SqL.of hus,fun p3 hp3=>?_⟩;rw[wa,← lr,show(n:Int)+1 =((n+1:Nat):Int) by omega,zhr,wo (by omega)];have g3:=ze hp3 (.lst us);exact q xs p3 _ (g02.trans g3) ⟨us,zg,yJ g3 pus⟩ l2 ox2 fun F _ φ j=>by
   have:=congrFun (c2 F φ) j;rw[La.ziI φ hk n1 n4 oM.len oM.ok]at this;exact this
def QF:Sp:=fun vs H Q _=>∃(k:Int)(A B C:TB)(f:List Nb)(n s:Nat)(pm ta tb tc tf:Addr)(ra rb rc rf:List Addr),vs=[.int k,.ref pm,.ref tf]/\kaa k/\kax H A B C pm ta tb tc ra rb rc/\kag H [f] tf rf/\MOk k n 1 s 80 A B C/\ROk k n 80 f/\1<=n/\n<=4 /\
 ∀ t ras H',Same H H'->kag H' (adT k A (kal k n B [f])) t ras->Q (.ref t) H'
theorem zdJ (D:Df K mg "_law_ruled" dg jr) (XS:Kn P w K mg base "_law_product" 44 qe YM) (yp:Kn P w K mg base "_law_plus" 42 qe (xV nadd)) (m_zip:mg "zip" = none):Kn P w K mg base "_law_ruled" 45 dg QF:=by
 refine D.kn sQ (fun vs H Q E h=>?_) (fun f' cdv A' outer s' H vs Q E hr h=>?_)
 ·obtain⟨k,A,B,C,f,n,s,pm,ta,tb,tc,tf,ra,rb,rc,rf,rfl,_⟩:=h;rfl
 obtain⟨k,A,B,C,f,n,s,pm,ta,tb,tc,tf,ra,rb,rc,rf,rfl,hk,hM,hF,oM,rF,n1,n4,q⟩:=h;have szl:=dh
 have o1:La.OkM k n [f]:=fun r hr=>by rw[wn.mp hr];exact⟨rF.len,rF.ok⟩
 have lA:=oM.a.len;have lB:=oM.b.len;obtain⟨oP,lP,_⟩:=JE hk oM.a.ok lA oM.b.ok lB rF.ok rF.len;have tP:=zgs hk (by decide) oM.b (⟨rfl,o1,fun r hr=>by rw[wn.mp hr];exact rF.sz⟩ : TOk k 1 n 80 [f]);have lT:(adT k A (kal k n B [f])).length=n:=by unfold adT;rw[wG];omega
 refine⟨_,(zc (zk (i:=3) sQ.nd rfl (.inl rfl) (zt XS hr (za (pv 0) (za (zD zG (pv 1) zf) (za (pv 2) zd))))) (zi (zq (jy ["_law_row", "_law_more"] ["_law_prime_here"] [0] ⟨rfl,rfl,rfl,rfl,rfl,rfl,by decide +kernel⟩ rfl (jZ rfl m_zip (za (zD zG (pv 1) zf) (za (pv 3) zd))) (xO (zY (yd (by decide)) ya (zY (yd (by decide)) ya xn))) fun _ _ _ _ _ _=>⟨(xv 2 rfl (zP (zC (i:=0) (by decide:(["_law_row", "_law_more", "_law_prime_here"]:List Str).Nodup) rfl (by first|exact Or.inl rfl|exact Or.inr rfl)) (zP (zC (i:=1) (by decide:(["_law_row", "_law_more", "_law_prime_here"]:List Str).Nodup) rfl (by first|exact Or.inl rfl|exact Or.inr rfl)) yW))),zJ,(jy ["_law_x", "_law_y"] ["_law_prime_here"] [2] ⟨rfl,rfl,rfl,rfl,rfl,rfl,by decide +kernel⟩ rfl (jZ rfl m_zip (za (pv 0) (za (pv 1) zd))) (xO (zY (yd (by decide)) ya (zY (yd (by decide)) ya xn))) fun _ _ _ _ _ _=>⟨(xv 2 rfl (zP (zC (i:=0) (by decide:(["_law_x", "_law_y", "_law_prime_here"]:List Str).Nodup) rfl (by first|exact Or.inl rfl|exact Or.inr rfl)) (zP (zC (i:=1) (by decide:(["_law_x", "_law_y", "_law_prime_here"]:List Str).Nodup) rfl (by first|exact Or.inl rfl|exact Or.inr rfl)) yW))),zJ,(zt yp hr (za (pv 2) (za (pv 0) (za (pv 1) zd))))⟩)⟩)))),?_⟩;refine⟨_,rfl,_,rfl,pm,_,_,.ref tb,rfl,rfl,SqT.of hM.tup,rfl,_,rfl,k,B,[f],1,n,80,80,tb,tf,rb,rf,rfl,hk,hM.b,hF,oM.b.ok,o1,rfl,(fun r hr y hy _=>oM.b.sz r hr y hy),(fun r hr y hy _=>by rw[wn.mp hr]at hy;exact rF.sz y hy),by decide,by decide,by decide,n1,by omega,(by rw[lB];omega),fun tp rp H1 g1 NP=>?_⟩;have hM1:=hM.mono g1;have l1:=zj hM1.a.2;rw[lA]at l1;have l2:=zj NP.tab.2;rw[lP]at l2;refine⟨_,rfl,pm,_,_,.ref ta,rfl,rfl,SqT.of hM1.tup,rfl,_,rfl,ta,tp,_,_,rfl,SqL.of hM1.a.1,SqL.of NP.tab.1,?_⟩;refine xS (xs:=ra.map V.ref) (zs:=rp.map V.ref) (by rw[wa,wa];omega) (fun i ys H'=>∃ ras,ys=ras.map V.ref/\Grow H1 H' ((adT k A (kal k n B [f])).take i) ras) ⟨[],rfl,Grow.nil H1 (Same.refl H1)⟩ ?_ ?_ ?_
 ·rintro i ys H' hi ⟨ras,rfl,G⟩
  refine⟨SqL.of (G.same _ _ hM1.a.1),SqL.of (G.same _ _ NP.tab.1),?_⟩;have:=zj G.rows;rw[wt]at this;rw[wa]at hi ⊢;omega
 ·rintro i x z T ys H' hx' hz' hi hT ⟨ras,rfl,G⟩
  have g':=ze hT (.tup [x,z]);have G1:=G.mono g';obtain⟨row,a,hrow,ha,rfl,hR⟩:=(hM1.a.mono G1.same).row hx';obtain⟨row2,a2,hrow2,ha2,rfl,hR2⟩:=(NP.tab.mono G1.same).row hz';obtain⟨us1,hu1,pu1,lu1⟩:=hR.len;obtain⟨us2,hu2,pu2,lu2⟩:=hR2.len;have o1:=oM.a.row (wg hrow);have o2:=tP.row (wg hrow2);have lo1:=o1.len;have lo2:=o2.len;refine⟨T,_,rfl,SqT.of zg,rfl,_,_,rfl,_,_,rfl,rfl,?_⟩;generalize upd H' T (.tup [.ref a,.ref a2])=H2 at *
  first|refine gyes ?_|refine tyes ?_
  have lR:(La.addR k row row2).length=n:=by rw[La.JG (by omega)];exact lo1
  refine⟨_,rfl,_,rfl,a,a2,_,_,rfl,SqL.of hu1,SqL.of hu2,?_⟩;refine xS (xs:=us1) (zs:=us2) (by omega) (fun j ys H6=>Same H2 H6/\Paired (RN H6) ((La.addR k row row2).take j) ys) ⟨Same.refl _,.nil⟩ ?_ ?_ ?_
  ·rintro j ys H6 hj ⟨g6,pr⟩
   refine⟨SqL.of (g6 _ _ hu1),SqL.of (g6 _ _ hu2),?_⟩;have:=zj pr;rw[wt]at this;omega
  ·rintro j x z T2 ys H6 hx hz hj hT2 ⟨g6,pr⟩
   obtain⟨x',hx'',rx⟩:=zT pu1 hx;obtain⟨z',hz'',rz⟩:=zT pu2 hz;have g7:=ze hT2 (.tup [x,z]);refine⟨T2,_,rfl,SqT.of zg,rfl,_,_,rfl,_,_,rfl,rfl,?_⟩;generalize upd H6 T2 (.tup [x,z])=H7 at *
   first|refine gyes ?_|refine tyes ?_
   have g67:=g6.trans g7;refine⟨_,rfl,_,rfl,_,rfl,k,x',z',x,z,rfl,⟨hk,o1.ok _ (wg hx''),o2.ok _ (wg hz''),(o1.sz _ (wg hx'')).mono (by decide),(o2.sz _ (wg hz'')).mono (by decide),rx.mono g67,rz.mono g67⟩,fun v H8 g8 r8=>nxt hj ⟨g67.trans g8,?_⟩⟩;rw[zp (La.zcy hx'' hz'')];exact zS (yJ (g7.trans g8) pr) r8
  ·rintro ys H6 ⟨g6,pr⟩ p hp
   rw[wo (by omega)]at pr;refine nxt hi ⟨ras++[p],by rw[wv];rfl,?_⟩;rw[zp (zdT hrow hrow2)];exact(G1.mono g6).snoc hp pr
 ·rintro ys H' ⟨ras,rfl,G⟩ pb hpb
  rw[wa,wo (by omega)]at G;exact q pb ras _ (g1.trans (G.same.trans (ze hpb (.lst (ras.map V.ref))))) (G.done hpb).tab
theorem cutN{ns:List Int}(N:Nat):cutV (ns.map V.int) none (some (N:Int)) =(ns.take N).map V.int:=by
 unfold cutV;rw[HT.ji,gS,gi,HT.jM,wa,ue]
 rcases wO N ns.length with h|h
 ·rw[uw (by omega)]
 ·rw[uF (by omega),wo (by rw[wa];exact wu _),wo (by rw[wa];exact h)]
theorem cut0{xs:List V}(q:Nat)(h:q<=xs.length):cutV xs none (some (q:Int))=xs.take q:=by
 unfold cutV;rw[HT.ji,gS,gi,HT.jM,uw h]
def ruleD (f:List Nb):PyData:=.tuple [.str "rule",tabD [f]]
theorem zfI {H:Hp} {f:List Nb} {p t:Addr} {r:List Addr} (h:H p=some (.tup [.str "rule",.ref t])) (T:kag H [f] t r):Rp H (ruleD f) (.ref p):=zjq h (zbH (by simp only[Rp]) (zbH T.rp zhU))
theorem zaV(f:List Nb):(ruleD f).canLay0=true:=by
 show((PyData.str "rule").canLay0 && ((tabD [f]).canLay0 && true))=true;rw[JS,show(PyData.str "rule").canLay0=true by decide +kernel];rfl
theorem zdu(f:List Nb):PyData.eqv (ruleD f) (ruleD f)=true:=by
 show PyData.eqv (PyData.tuple [.str "rule",tabD [f]]) (PyData.tuple [.str "rule",tabD [f]])=true;have:=zfg [f];simp[PyData.eqv,PyData.eqvAll,this]
theorem zbp(f:List Nb):(ruleD f).depth<=5:=by
 show(PyData.tuple [.str "rule",tabD [f]]).depth<=5;have:=Jb [f];simp only[PyData.depth,PyData.depthAll];omega
theorem ziX {f:Addr} {fd:FuncData} (F:Fun K "law" "law" zgV f fd) (XQ:Kn P w K mg base "_law_machine" 46 Qg XA) (qq:Kn P w K mg base "_law_small" 44 qf YR) (XR:Kn P w K mg base "_law_steered" 45 QL XI) (QY:Kn P w K mg base "_law_ruled" 45 dg QF) (zaz:Kn P w K mg base "_law_great" 52 da zaL) (zdz:Kn P w K mg base "rule_for" 51 SW Jg) (m_len:mg "len" = none) (zy:mg "range" = none) :
  FnOk P w K mg base CX0 53 f fd ["_law_script"] (spLaw K):=by
 refine F.ok Sr (fun vs H Q E h=>?_) (fun cdv A' outer s' H vs Q E hr h=>?_)
 ·obtain⟨asc,ns,rfl,_⟩:=h;rfl
 obtain⟨asc,ns,rfl,hSq,h63,q⟩:=h;have szl:=dh
 refine⟨_,(zc (zk (i:=1) Sr.nd rfl (.inr rfl) (zm qh (yT (zcc (K:=K) rfl) (pv 0) je (xq zf)) (yl (za zf zd)))) (zc (qg (zt XQ hr (za (pv 1) (za (yl (za zf (za zf zd))) zd))) (zfB (K:=K) 3 rfl rfl (zP (zC (i:=2) Sr.nd rfl (.inr rfl)) (zP (zC (i:=3) Sr.nd rfl (.inl rfl)) (zP (zC (i:=4) Sr.nd rfl (.inr rfl)) yW))))) (zc (zk (i:=5) Sr.nd rfl (.inl rfl) (zw (Xe (K:=K) rfl) rfl m_len yb (za (zD (Qj (K:=K) rfl) (pv 3) zf) zd))) (zc (zk (i:=6) Sr.nd rfl (.inl rfl) (xa (za (zD (Qj (K:=K) rfl) (pv 3) zf) (za (yV [] [] (zgd (K:=K) rfl (zD (Qj (K:=K) rfl) (pv 3) zf)) fun _ _ _ _ _ _=>⟨zJ,(yT (zcc (K:=K) rfl) (pv 0) je (xq zf))⟩) (za (zD (Qj (K:=K) rfl) (pv 3) zf) zd))))) (zc (zk (i:=7) Sr.nd rfl (.inl rfl) (yl (za (yV ["_law_prime_here", "_law_cells", "_law_at_here"] [2,1,4] (zR rfl zy (za (pv 5) zd)) fun _ _ _ _ _ _=>⟨zJ,(zt qq hr (za (pv 1) (za (pv 2) (za (zm yy (pv 3) (pv 0)) zd))))⟩) zd))) (zc (yz (zI zaD (zw (Xe (K:=K) rfl) rfl m_len yb (za (zt XR hr (za (pv 2) (za (pv 6) zd))) zd)) (pv 5) (kae _)) (zi (zq zjU)) zQ) (zi (zq (ja (zhb hr) (zt zdz hr (za (pv 2) (za (pv 6) (za (zt zaz hr (za (pv 2) (za (zt QY hr (za (pv 2) (za (pv 6) (za (pv 7) zd)))) zd))) zd)))) (xa (za zhs (za (pv 7) zd))) (kae _)))))))))),?_⟩;refine⟨_,rfl,_,rfl,asc,_,rfl,hSq,fun p1 hp1=>?_⟩;refine⟨(by show 1<=sizeLine;decide),fun p2 hp2=>?_⟩;have n12:p1≠p2:=fun e=>by rw[e,zg]at hp2;cases hp2
 rw[show((63:Int)) =((63:Nat):Int)from rfl,cutN 63]at *;refine⟨p1,p2,_,_,rfl,rfl,(by rw[zM n12];exact zg),zg,?_,fun p3 hp3=>?_⟩
 ·rw[wa,wt];show min 63 ns.length+1<=sizeLine;omega
 have e3:(ns.take 63).map V.int++[V.int 0] =(ns.take 63++[0]).map V.int:=by simp
 rw[e3];have hc0:upd (upd (upd H p1 (.lst ((ns.take 63).map V.int))) p2 (.lst [V.int 0])) p3 (.lst ((ns.take 63++[0]).map V.int)) p3=some (.lst ((ns.take 63++[0]).map V.int)):=zg;have lcs:(ns.take 63++[(0:Int)]).length<=1000:=by rw[wD,wt];show min 63 ns.length+1<=1000;omega
 have ncs:ns.take 63++[(0:Int)]≠[]:=by simp
 generalize upd (upd (upd H p1 (.lst ((ns.take 63).map V.int))) p2 (.lst [V.int 0])) p3 (.lst ((ns.take 63++[0]).map V.int))=H0 at *;generalize ns.take 63++[(0:Int)]=cs at *;refine⟨_,rfl,(by show 2<=sizeLine;decide),fun pq hpq=>?_⟩;have g1:=ze hpq (.lst [V.int 3,V.int 4]);refine⟨p3,pq,cs,3,4,rfl,g1 _ _ hc0,ncs,lcs,zg,(by decide),(by decide),(by decide),(by decide),fun k n m s at' A B C pr pm ta tb tc ra rb rc H2 g2 hpr hM hs ft oM wM m1 m2 s1 s2 nab=>?_⟩;have hk:=hs.ok;have hc2:=g2 _ _ (g1 _ _ hc0);clear g1 hc0;refine⟨pr,_,rfl,SqT.of hpr,rfl,_,_,rfl,_,_,rfl,_,_,rfl,rfl,?_⟩;have n1:=ft.1;have n4:n<=4:=by omega
 have n3:k=0->n<=3:=fun e=>by
  rcases ft.2 with h|h
  ·exact h
  ·exact absurd e h.1
 obtain⟨wA,wB,wC,_⟩:=wM;have lA:=oM.a.len;have lB:=oM.b.len;have la:=zj hM.a.2;rw[lA]at la;refine⟨_,rfl,pm,_,_,.ref ta,rfl,rfl,SqT.of hM.tup,rfl,ta,_,rfl,.inl (SqL.of hM.a.1),?_⟩;rw[wa,← la];refine⟨_,rfl,pm,_,_,.ref ta,rfl,rfl,SqT.of hM.tup,rfl,_,rfl,pm,_,_,.ref tb,rfl,rfl,SqT.of hM.tup,rfl,tb,rfl,⟨_,SqL.of hM.b.1⟩,?_⟩;refine Jy (uu 1) hM.b (by omega) (fun r a H3 Q2 hr2 g3 ha hq=>?_) ?_
 ·obtain⟨us,hu,pu,lu⟩:=ha.len;refine⟨_,rfl,_,rfl,a,_,rfl,SqL.of hu,fun p hp=>?_⟩;have lr:=(oM.b.ok r hr2).1;rw[show((1:Int)) =((1:Nat):Int)from rfl,cut0 1 (by omega)];exact hq p _ H3 (Same.refl _) hp (zbI pu 1)
 intro ras3 H3 G3 pn hpn;have N3:=G3.done hpn;have g3:=G3.same.trans (ze hpn (.lst (ras3.map V.ref)));generalize upd H3 pn (.lst (ras3.map V.ref))=H4 at *;have hM4:=hM.mono g3;have oB1:TOk k n 1 80 (B.map (uu 1)):=⟨by rw[wa];exact lB,fun r hr=>by
  obtain⟨x,hx,rfl⟩:=wj.mp hr;have o:=oM.b.ok x hx;exact⟨by rw[wt,o.1];omega,fun y hy=>o.2 y (vw hy)⟩,fun r hr y hy=>by
  obtain⟨x,hx,rfl⟩:=wj.mp hr;exact oM.b.sz x hx y (vw hy)⟩
 have wB1:∀ r∈B.map (uu 1),∀ y∈r,whk k 14 y:=fun r hr y hy=>by
  obtain⟨x,hx,rfl⟩:=wj.mp hr;exact wB.sz x hx y (vw hy)
 generalize B.map (uu 1)=B1 at *;refine⟨_,rfl,pm,_,_,.ref tc,rfl,rfl,SqT.of hM4.tup,rfl,(by show 3<=sizeLine;decide),fun po hpo=>?_⟩;have g5:=ze hpo (.tup [.ref ta,.ref pn,.ref tc]);have hO:kax (upd H4 po (.tup [.ref ta,.ref pn,.ref tc])) A B1 C po ta pn tc ra ras3 rc:=⟨zg,hM4.a.mono g5,N3.tab.mono g5,hM4.c.mono g5⟩;have hc5:=g5 _ _ (g3 _ _ hc2);generalize upd H4 po (.tup [.ref ta,.ref pn,.ref tc])=H5 at *;have oO:MOk k n 1 s 80 A B1 C:=⟨oM.a,oB1,oM.c⟩;refine⟨_,rfl,n,rfl,(by omega),(by omega),?_⟩;rw[wS];refine yt (lo:=0) (n:=n) (fun l ys' H9=>∃ xs,Same H5 H9/\Paired (RN H9) xs ys'/\xs.length=l/\La.OkR k xs/\∀ x∈xs,whk k 2 x) ⟨[],Same.refl _,.nil,rfl,fun x hx=>(nomatch hx),fun x hx=>(nomatch hx)⟩ ?_ ?_ ?_
 ·rintro l ys' H9 hl' ⟨xs,g9,pr9,lx,_⟩
  have:=zj pr9;omega
 ·rintro l ys' H9 hl' ⟨xs,g9,pr9,lx,ox,sx⟩
  first|refine gyes ?_|refine tyes ?_
  refine⟨_,rfl,_,rfl,_,rfl,_,rfl,_,_,rfl,rfl,k,p3,cs,at'+l,_,rfl,(by omega),hk,g9 _ _ hc5,ncs,fun x v' H10 g10 xr xo xs2=>?_⟩;refine nxt hl' ⟨xs++[x],g9.trans g10,zS (yJ g10 pr9) xr,by rw[wD,lx];rfl,fun y hy=>?_,fun y hy=>?_⟩
  ·rcases wq.mp hy with h|h
   ·exact ox y h
   ·rw[wn.mp h];exact xo
  ·rcases wq.mp hy with h|h
   ·exact sx y h
   ·rw[wn.mp h];exact xs2
 rintro ys6 H6 ⟨fr,g6,pf,lf,of,wf⟩ pf0 hpf0
 have g7:=ze hpf0 (.lst ys6);have hf7:kah (upd H6 pf0 (.lst ys6)) fr pf0:=⟨_,zg,yJ g7 pf⟩;have g57:=g6.trans g7;generalize upd H6 pf0 (.lst ys6)=H7 at *;refine⟨(by show 1<=sizeLine;decide),fun pru hpru=>?_⟩;have g8:=ze hpru (.lst [.ref pf0]);have hF:kag (upd H7 pru (.lst [.ref pf0])) [fr] pru [pf0]:=⟨zg,.cons (hf7.mono g8) .nil⟩;have g58:=g57.trans g8;generalize upd H7 pru (.lst [.ref pf0])=H8 at *;have hO8:=hO.mono g58;refine⟨_,rfl,_,rfl,k,A,B1,C,n,1,s,po,ta,pn,tc,ra,ras3,rc,rfl,hs,hO8,ft,oO,by decide,fun R lr tr rr H9 g9 hR iR eR=>?_⟩;have lrr:=zj hR.2;have leR:=jt hk iR;refine⟨tr,_,rfl,.inl (SqL.of hR.1),_,rfl,_,_,rfl,rfl,_,rfl,?_⟩;rw[wa,← lrr];refine ite2 (fun d=>?_) (fun d=>?_)
 ·exact q _
 have len:R.length=n:=by
  rcases wO R.length n with z|z
  ·exact absurd (decide_eq_true (by omega)) d
  ·omega
 have hO9:=hO8.mono g9;have hF9:=hF.mono g9;have rF:ROk k n 80 fr:=⟨lf,of,fun x hx=>(wf x hx).nsm hk (of x hx) (by decide) (by decide)⟩;obtain⟨oMr,lMr,eMr⟩:=zd1 hk oM.a.ok lA oB1.ok oB1.len of lf;have wMr:=(zif hk oM.a.ok lA oB1.ok oB1.len of lf wA.sz wB1 wf).2;refine⟨_,rfl,_,rfl,_,rfl,_,rfl,_,rfl,_,rfl,k,A,B1,C,fr,n,s,po,ta,pn,tc,pru,ra,ras3,rc,[pf0],rfl,hk,hO9,hF9,oO,rF,n1,n4,fun tm rm H10 g10 hMr=>?_⟩;refine⟨k,adT k A (kal k n B1 [fr]),n,tm,rm,rfl,hk,hMr,⟨lMr,oMr,fun r hr y hy=>(wMr r hr y hy).nsm hk ((oMr r hr).2 y hy) (by decide) (by decide)⟩,n1,n4,n3,fun xs px H11 g11 hx lx ox gr=>?_⟩;have eb:kab 1 B1=[(kab 1 B1).getD 0 []]:=rfl;have sx:=zf5 hk n4 oMr wMr ox lx gr;have g911:=g10.trans g11;have hO11:=hO9.mono g911;refine⟨k,A,B1,C,adT k A (kal k n B1 [fr]),R,lr,(kab 1 B1).getD 0 [],fr,xs,n,s,po,ta,pn,tc,px,ra,ras3,rc,rfl,hk,hO11,hx,⟨n4,ft⟩,oO,wA,eb,XW oB1.ok wB1 _ (by rw[eb];exact wp),⟨iR,(by rw[eb]at eR;exact eR),len⟩,⟨lx,ox,sx⟩,⟨oMr,lMr⟩,gr,⟨of,lf⟩,eMr,fun pt tF rF' H12 g12 ht hTF=>?_⟩;refine⟨_,rfl,(by show 2<=sizeLine;decide),fun p2' hp2'=>?_⟩;have g13:=ze hp2' (.tup [.str "rule",.ref pru]);have hF13:=((hF9.mono g911).mono g12).mono g13;refine⟨ruleD fr,ruleD fr,zfI (g13 _ _ ht) (hTF.mono g13),zfI zg hF13,zaV fr,zaV fr,wN (gK _ _) (wN (zbp fr) (by decide)),?_⟩;rw[zdu];exact q _
end
end KL
open PySem PySem.W PyProof.Rows
abbrev zPr:=(PySem.Challenge.rw_steermill_k53_whole_one_hand_one_rule).prog
set_option maxRecDepth 100000 in
set_option maxHeartbeats 0 in
theorem PySem.Challenge.cw_steermill_k53_whole_one_hand_one_rule_holds : PySem.Challenge.rw_steermill_k53_whole_one_hand_one_rule.Holds := by
 refine L2.zdf (l:=PySem.Challenge.rw_steermill_k53_whole_one_hand_one_rule) 53 3200 KL.lk KL.lv KL.h_ws rfl rfl rfl (by kernel_rfl) (by decide) (fun s=>by kernel_rfl) ⟨KL.h_st,KL.h_sn,KL.h_lk⟩ (by kernel_rfl) (by kernel_rfl) (by kernel_rfl) (by kernel_rfl) (by kernel_rfl) (by kernel_rfl) ⟨rfl,rfl,rfl,rfl,rfl,by decide +kernel⟩ (by w_witness2) (by decide +kernel) ⟨rfl,by decide,by decide⟩ ?F
 case F =>
  intro w mg fa h K KX hq G hmg
  have qf:=congrArg (·.1) hq
  have qm:=congrArg (·.2.1) hq
  have qe:=congrArg (·.2.2.1) hq
  have qc:=congrArg (·.2.2.2) hq
  have ZW:L2.Df K mg "common_divisor" ["one", "other"] KL.yQ:=L2.zX KX G (L2.zx qf 0 rfl rfl) fun _ _ _ _ _ _ us hl=>L2.kat (fun _ _=>rfl) us hl
  have za2:L2.Df K mg "fraction" ["top", "bottom"] KL.qA:=L2.zX KX G (L2.zx qf 1 rfl rfl) fun _ _ _ _ _ _ us hl=>L2.kat (fun _ _=>rfl) us hl
  have zbA:L2.Df K mg "one_over" ["prime", "rest"] KL.qH:=L2.zX KX G (L2.zx qf 2 rfl rfl) fun _ _ _ _ _ _ us hl=>L2.kat (fun _ _=>rfl) us hl
  have zea:L2.Df K mg "number" ["kind", "whole"] KL.Yy:=L2.zX KX G (L2.zx qf 3 rfl rfl) fun _ _ _ _ _ _ us hl=>L2.kat (fun _ _=>rfl) us hl
  have zgU:L2.Df K mg "minus" ["kind", "one", "other"] KL.Ju:=L2.zX KX G (L2.zx qf 4 rfl rfl) fun _ _ _ _ _ _ us hl=>L2.kas (fun _ _ _=>rfl) us hl
  have zh8:L2.Df K mg "over" ["kind", "one", "other"] KL.zcJ:=L2.zX KX G (L2.zx qf 5 rfl rfl) fun _ _ _ _ _ _ us hl=>L2.kas (fun _ _ _=>rfl) us hl
  have zfN:L2.Df K mg "scaled" ["kind", "row"] KL.YC:=L2.zX KX G (L2.zx qf 6 rfl rfl) fun _ _ _ _ _ _ us hl=>L2.kat (fun _ _=>rfl) us hl
  have zbv:L2.Df K mg "quotient" ["kind", "top", "bottom"] KL.qF:=L2.zX KX G (L2.zx qf 7 rfl rfl) fun _ _ _ _ _ _ us hl=>L2.kas (fun _ _ _=>rfl) us hl
  have zar:L2.Df K mg "whole_sum" ["one", "other"] KL.jL:=L2.zX KX G (L2.zx qf 8 rfl rfl) fun _ _ _ _ _ _ us hl=>L2.kat (fun _ _=>rfl) us hl
  have Zj:L2.Df K mg "sum_of_products" ["kind", "one", "other"] KL.yN:=L2.zX KX G (L2.zx qf 9 rfl rfl) fun _ _ _ _ _ _ us hl=>L2.kas (fun _ _ _=>rfl) us hl
  have zfW:L2.Df K mg "eased" ["kind", "wholes"] KL.JV:=L2.zX KX G (L2.zx qf 10 rfl rfl) fun _ _ _ _ _ _ us hl=>L2.kat (fun _ _=>rfl) us hl
  have zdA:L2.Df K mg "cleared" ["kind", "row", "lead_row", "column"] KL.Ze:=L2.zX KX G (L2.zx qf 11 rfl rfl) fun _ _ _ _ _ _ us hl=>L2.bind4 (fun _ _ _ _=>rfl) us hl
  have zfZ:L2.Df K mg "swept" ["kind", "rows"] KL.Qx:=L2.zX KX G (L2.zx qf 12 rfl rfl) fun _ _ _ _ _ _ us hl=>L2.kat (fun _ _=>rfl) us hl
  have zdB:L2.Df K mg "noughts" ["kind", "width"] KL.Zb:=L2.zX KX G (L2.zx qf 13 rfl rfl) fun _ _ _ _ _ _ us hl=>L2.kat (fun _ _=>rfl) us hl
  have Qn:L2.Df K mg "difference" ["kind", "one", "other"] KL.jg:=L2.zX KX G (L2.zx qf 14 rfl rfl) fun _ _ _ _ _ _ us hl=>L2.kas (fun _ _ _=>rfl) us hl
  have zcS:L2.Df K mg "abreast" ["one", "other"] KL.Zu:=L2.zX KX G (L2.zx qf 15 rfl rfl) fun _ _ _ _ _ _ us hl=>L2.kat (fun _ _=>rfl) us hl
  have zfD:L2.Df K mg "strung" ["rows"] KL.Yv:=L2.zX KX G (L2.zx qf 16 rfl rfl) fun _ _ _ _ _ _ us hl=>L2.bind1 (fun _=>rfl) us hl
  have zfh:L2.Df K mg "turned" ["table"] KL.YD:=L2.zX KX G (L2.zx qf 17 rfl rfl) fun _ _ _ _ _ _ us hl=>L2.bind1 (fun _=>rfl) us hl
  have zc1:L2.Df K mg "product" ["kind", "one", "other"] KL.ZB:=L2.zX KX G (L2.zx qf 18 rfl rfl) fun _ _ _ _ _ _ us hl=>L2.kas (fun _ _ _=>rfl) us hl
  have zgO:L2.Df K mg "image" ["kind", "table", "row"] KL.Qz:=L2.zX KX G (L2.zx qf 19 rfl rfl) fun _ _ _ _ _ _ us hl=>L2.kas (fun _ _ _=>rfl) us hl
  have ziN:L2.Df K mg "unit" ["kind", "size"] KL.zcl:=L2.zX KX G (L2.zx qf 20 rfl rfl) fun _ _ _ _ _ _ us hl=>L2.kat (fun _ _=>rfl) us hl
  have qW:L2.Df K mg "over_one_bottom" ["kind", "table"] KL.yM:=L2.zX KX G (L2.zx qf 21 rfl rfl) fun _ _ _ _ _ _ us hl=>L2.kat (fun _ _=>rfl) us hl
  have zaT:L2.Df K mg "over_lead" ["kind", "wholes"] KL.jR:=L2.zX KX G (L2.zx qf 22 rfl rfl) fun _ _ _ _ _ _ us hl=>L2.kat (fun _ _=>rfl) us hl
  have zcX:L2.Df K mg "reduced" ["kind", "rows"] KL.qX:=L2.zX KX G (L2.zx qf 23 rfl rfl) fun _ _ _ _ _ _ us hl=>L2.kat (fun _ _=>rfl) us hl
  have zic:L2.Df K mg "back" ["kind", "table"] KL.zcp:=L2.zX KX G (L2.zx qf 24 rfl rfl) fun _ _ _ _ _ _ us hl=>L2.kat (fun _ _=>rfl) us hl
  have zdi:L2.Df K mg "leading" ["machine"] KL.Zs:=L2.zX KX G (L2.zx qf 25 rfl rfl) fun _ _ _ _ _ _ us hl=>L2.bind1 (fun _=>rfl) us hl
  have zdv:L2.Df K mg "next_of" ["kind", "machine", "standing", "inputs"] KL.qZ:=L2.zX KX G (L2.zx qf 26 rfl rfl) fun _ _ _ _ _ _ us hl=>L2.bind4 (fun _ _ _ _=>rfl) us hl
  have zc0:L2.Df K mg "drifted" ["kind", "machine", "standing"] KL.Za:=L2.zX KX G (L2.zx qf 27 rfl rfl) fun _ _ _ _ _ _ us hl=>L2.kas (fun _ _ _=>rfl) us hl
  have zeg:L2.Df K mg "joined" ["kind", "one", "other"] KL.YG:=L2.zX KX G (L2.zx qf 28 rfl rfl) fun _ _ _ _ _ _ us hl=>L2.kas (fun _ _ _=>rfl) us hl
  have zdo:L2.Df K mg "lies_in" ["kind", "room", "row"] KL.Zd:=L2.zX KX G (L2.zx qf 29 rfl rfl) fun _ _ _ _ _ _ us hl=>L2.kas (fun _ _ _=>rfl) us hl
  have zdw:L2.Df K mg "widened" ["kind", "table", "rows", "room"] KL.Zt:=L2.zX KX G (L2.zx qf 30 rfl rfl) fun _ _ _ _ _ _ us hl=>L2.bind4 (fun _ _ _ _=>rfl) us hl
  have JW:L2.Df K mg "grown_room" ["kind", "table", "rows"] KL.jv:=L2.zX KX G (L2.zx qf 31 rfl rfl) fun _ _ _ _ _ _ us hl=>L2.kas (fun _ _ _=>rfl) us hl
  have za9:L2.Df K mg "rests_of" ["table"] KL.qE:=L2.zX KX G (L2.zx qf 32 rfl rfl) fun _ _ _ _ _ _ us hl=>L2.bind1 (fun _=>rfl) us hl
  have Qe:L2.Df K mg "least_room" ["kind", "table", "rows"] KL.jn:=L2.zX KX G (L2.zx qf 33 rfl rfl) fun _ _ _ _ _ _ us hl=>L2.kas (fun _ _ _=>rfl) us hl
  have YW:L2.Df K mg "steered_room" ["kind", "machine"] KL.xH:=L2.zX KX G (L2.zx qf 34 rfl rfl) fun _ _ _ _ _ _ us hl=>L2.kat (fun _ _=>rfl) us hl
  have zgR:L2.Df K mg "ruled" ["kind", "machine", "F"] KL.JY:=L2.zX KX G (L2.zx qf 35 rfl rfl) fun _ _ _ _ _ _ us hl=>L2.kas (fun _ _ _=>rfl) us hl
  have zaN:L2.Df K mg "free_hand" ["kind", "columns", "room"] KL.jU:=L2.zX KX G (L2.zx qf 36 rfl rfl) fun _ _ _ _ _ _ us hl=>L2.kas (fun _ _ _=>rfl) us hl
  have zg0:L2.Df K mg "chain" ["kind", "machine", "hand"] KL.JJ:=L2.zX KX G (L2.zx qf 37 rfl rfl) fun _ _ _ _ _ _ us hl=>L2.kas (fun _ _ _=>rfl) us hl
  have qM:L2.Df K mg "row_of_polynomial" ["kind", "table", "row", "polynomial"] KL.yA:=L2.zX KX G (L2.zx qf 38 rfl rfl) fun _ _ _ _ _ _ us hl=>L2.bind4 (fun _ _ _ _=>rfl) us hl
  have za6:L2.Df K mg "rule_for" ["kind", "machine", "polynomial"] KL.qG:=L2.zX KX G (L2.zx qf 39 rfl rfl) fun _ _ _ _ _ _ us hl=>L2.kas (fun _ _ _=>rfl) us hl
  have YQ:L2.Df K mg "_law_divisor" ["_law_one", "_law_other"] KL.xF:=L2.zX KX G (L2.zx qf 40 rfl rfl) fun _ _ _ _ _ _ us hl=>L2.kat (fun _ _=>rfl) us hl
  have JU:L2.Df K mg "_law_mixed" ["_law_cell", "_law_k"] KL.jh:=L2.zX KX G (L2.zx qf 41 rfl rfl) fun _ _ _ _ _ _ us hl=>L2.kat (fun _ _=>rfl) us hl
  have JB:L2.Df K mg "_law_drawn" ["_law_prime_here", "_law_cell"] KL.js:=L2.zX KX G (L2.zx qf 42 rfl rfl) fun _ _ _ _ _ _ us hl=>L2.kat (fun _ _=>rfl) us hl
  have Yo:L2.Df K mg "_law_fraction" ["_law_top", "_law_bottom"] KL.xb:=L2.zX KX G (L2.zx qf 43 rfl rfl) fun _ _ _ _ _ _ us hl=>L2.kat (fun _ _=>rfl) us hl
  have QD:L2.Df K mg "_law_make" ["_law_prime_here", "_law_whole_here"] KL.jO:=L2.zX KX G (L2.zx qf 44 rfl rfl) fun _ _ _ _ _ _ us hl=>L2.kat (fun _ _=>rfl) us hl
  have zaj:L2.Df K mg "_law_plus" ["_law_prime_here", "_law_one", "_law_other"] KL.jS:=L2.zX KX G (L2.zx qf 45 rfl rfl) fun _ _ _ _ _ _ us hl=>L2.kas (fun _ _ _=>rfl) us hl
  have JX:L2.Df K mg "_law_times" ["_law_prime_here", "_law_one", "_law_other"] KL.jp:=L2.zX KX G (L2.zx qf 46 rfl rfl) fun _ _ _ _ _ _ us hl=>L2.kas (fun _ _ _=>rfl) us hl
  have JZ:L2.Df K mg "_law_minus" ["_law_prime_here", "_law_one", "_law_other"] KL.jq:=L2.zX KX G (L2.zx qf 47 rfl rfl) fun _ _ _ _ _ _ us hl=>L2.kas (fun _ _ _=>rfl) us hl
  have Qg:L2.Df K mg "_law_image" ["_law_prime_here", "_law_table", "_law_column"] KL.jf:=L2.zX KX G (L2.zx qf 48 rfl rfl) fun _ _ _ _ _ _ us hl=>L2.kas (fun _ _ _=>rfl) us hl
  have XJ:L2.Df K mg "_law_across" ["_law_table"] KL.xQ:=L2.zX KX G (L2.zx qf 49 rfl rfl) fun _ _ _ _ _ _ us hl=>L2.bind1 (fun _=>rfl) us hl
  have Xs:L2.Df K mg "_law_product" ["_law_prime_here", "_law_one", "_law_other"] KL.xI:=L2.zX KX G (L2.zx qf 50 rfl rfl) fun _ _ _ _ _ _ us hl=>L2.kas (fun _ _ _=>rfl) us hl
  have zap:L2.Df K mg "_law_back" ["_law_prime_here", "_law_one"] KL.jG:=L2.zX KX G (L2.zx qf 51 rfl rfl) fun _ _ _ _ _ _ us hl=>L2.kat (fun _ _=>rfl) us hl
  have Xa:L2.Df K mg "_law_reduced" ["_law_prime_here", "_law_rows"] KL.xy:=L2.zX KX G (L2.zx qf 52 rfl rfl) fun _ _ _ _ _ _ us hl=>L2.kat (fun _ _=>rfl) us hl
  have JL:L2.Df K mg "_law_prime" ["_law_cell"] KL.yY:=L2.zX KX G (L2.zx qf 53 rfl rfl) fun _ _ _ _ _ _ us hl=>L2.bind1 (fun _=>rfl) us hl
  have zdx:L2.Df K mg "_law_at" ["_law_prime_here", "_law_cells", "_law_k"] KL.Zl:=L2.zX KX G (L2.zx qf 54 rfl rfl) fun _ _ _ _ _ _ us hl=>L2.kas (fun _ _ _=>rfl) us hl
  have Jz:L2.Df K mg "_law_small" ["_law_prime_here", "_law_cells", "_law_k"] KL.jw:=L2.zX KX G (L2.zx qf 55 rfl rfl) fun _ _ _ _ _ _ us hl=>L2.kas (fun _ _ _=>rfl) us hl
  have QA:L2.Df K mg "_law_sorts" ["_law_head", "_law_n", "_law_plain"] KL.jm:=L2.zX KX G (L2.zx qf 56 rfl rfl) fun _ _ _ _ _ _ us hl=>L2.kas (fun _ _ _=>rfl) us hl
  have QL:L2.Df K mg "_law_lets" ["_law_row", "_law_column"] KL.jP:=L2.zX KX G (L2.zx qf 57 rfl rfl) fun _ _ _ _ _ _ us hl=>L2.kat (fun _ _=>rfl) us hl
  have YN:L2.Df K mg "_law_blocked" ["_law_prime_here", "_law_cells", "_law_sizes", "_law_sorts_here"] KL.xA:=L2.zX KX G (L2.zx qf 58 rfl rfl) fun _ _ _ _ _ _ us hl=>L2.bind4 (fun _ _ _ _=>rfl) us hl
  have ZX:L2.Df K mg "_law_exchanged" ["_law_prime_here", "_law_tables", "_law_cell"] KL.yS:=L2.zX KX G (L2.zx qf 59 rfl rfl) fun _ _ _ _ _ _ us hl=>L2.kas (fun _ _ _=>rfl) us hl
  have YO:L2.Df K mg "_law_machine" ["_law_cells", "_law_most"] KL.xC:=L2.zX KX G (L2.zx qf 60 rfl rfl) fun _ _ _ _ _ _ us hl=>L2.kat (fun _ _=>rfl) us hl
  have XE:L2.Df K mg "_law_steered" ["_law_prime_here", "_law_machine_here"] KL.xK:=L2.zX KX G (L2.zx qf 61 rfl rfl) fun _ _ _ _ _ _ us hl=>L2.kat (fun _ _=>rfl) us hl
  have ZT:L2.Df K mg "_law_poly_plus" ["_law_prime_here", "_law_one", "_law_other"] KL.yR:=L2.zX KX G (L2.zx qf 62 rfl rfl) fun _ _ _ _ _ _ us hl=>L2.kas (fun _ _ _=>rfl) us hl
  have Zh:L2.Df K mg "_law_poly_times" ["_law_prime_here", "_law_one", "_law_other"] KL.yO:=L2.zX KX G (L2.zx qf 63 rfl rfl) fun _ _ _ _ _ _ us hl=>L2.kas (fun _ _ _=>rfl) us hl
  have xx:L2.Df K mg "_law_det" ["_law_prime_here", "_law_rows"] KL.jE:=L2.zX KX G (L2.zx qf 64 rfl rfl) fun _ _ _ _ _ _ us hl=>L2.kat (fun _ _=>rfl) us hl
  have Qy:L2.Df K mg "_law_great" ["_law_prime_here", "_law_table"] KL.jj:=L2.zX KX G (L2.zx qf 65 rfl rfl) fun _ _ _ _ _ _ us hl=>L2.kat (fun _ _=>rfl) us hl
  have JF:L2.Df K mg "_law_ruled" ["_law_prime_here", "_law_machine_here", "_law_rule"] KL.jr:=L2.zX KX G (L2.zx qf 66 rfl rfl) fun _ _ _ _ _ _ us hl=>L2.kas (fun _ _ _=>rfl) us hl
  obtain⟨t_GREAT_PRIME,yL⟩:=L2.zjX KX G (x := "GREAT_PRIME") (L2.zx qc 0 rfl rfl)
  have m_abs:mg "abs" = none:=PySem.W.mg_none_of KX G (L2.zx qm 0 rfl rfl)
  have m_all:mg "all" = none:=PySem.W.mg_none_of KX G (L2.zx qm 1 rfl rfl)
  have m_bool:mg "bool" = none:=PySem.W.mg_none_of KX G (L2.zx qm 2 rfl rfl)
  have m_int:mg "int" = none:=PySem.W.mg_none_of KX G (L2.zx qm 3 rfl rfl)
  have m_isinstance:mg "isinstance" = none:=PySem.W.mg_none_of KX G (L2.zx qm 4 rfl rfl)
  have m_len:mg "len" = none:=PySem.W.mg_none_of KX G (L2.zx qm 5 rfl rfl)
  have Jd:mg "list" = none:=PySem.W.mg_none_of KX G (L2.zx qm 6 rfl rfl)
  have m_max:mg "max" = none:=PySem.W.mg_none_of KX G (L2.zx qm 7 rfl rfl)
  have zy:mg "range" = none:=PySem.W.mg_none_of KX G (L2.zx qm 8 rfl rfl)
  have ZE:mg "reversed" = none:=PySem.W.mg_none_of KX G (L2.zx qm 9 rfl rfl)
  have JQ:mg "sorted" = none:=PySem.W.mg_none_of KX G (L2.zx qm 10 rfl rfl)
  have m_sum:mg "sum" = none:=PySem.W.mg_none_of KX G (L2.zx qm 11 rfl rfl)
  have m_tuple:mg "tuple" = none:=PySem.W.mg_none_of KX G (L2.zx qm 12 rfl rfl)
  have m_zip:mg "zip" = none:=PySem.W.mg_none_of KX G (L2.zx qm 13 rfl rfl)
  obtain⟨fd,FL,hb⟩:=L2.ziS (st:=KL.zgV) KX G hmg (L2.zx qf 67 rfl rfl) (fun _ _ _ _ _ _ _=>rfl)
  refine⟨fd,hb,fun base _ _ hS=>?_⟩
  have hP:(PySem.Challenge.rw_steermill_k53_whole_one_hand_one_rule).prog.given.tree=none:=rfl
  have a1:=KL.zj7 (P:=zPr) (w:=w) (base:=base) ZW m_abs
  have a2:=KL.zbb hP hS za2 a1
  have a3:=KL.zbw (P:=zPr) (w:=w) (base:=base) hP hS zbA
  have a4:=KL.zd3 (P:=zPr) (w:=w) (base:=base) zea
  have a7:=KL.zga zgU a2
  have a8:=KL.zie zh8 a2 a4 a3
  have a9:=KL.zfs hP hS zfN a1 Jd
  have a10:=KL.ziG zbv a8 a4
  have a11:=KL.zgW hP hS zfW a1
  have a12:=KL.zcU zdA a11 m_zip
  have a13:=KL.zgz zfZ a11 a12 m_len zy
  have a14:=KL.QG zaT a10
  have a15:=KL.zcT zcX a9 a13 a14
  have a18:=KL.zeW zeg a15
  have a23:=KL.zc2 zdB a4
  have a23w:=KL.zhV (P:=zPr) (w:=w) (base:=base) zar m_sum m_zip
  have a24:=KL.zi7 Zj a10 a23w
  have a25:=KL.zf1 zgO (KL.Xc a9) a24
  have a26:=KL.zfO (P:=zPr) (w:=w) (base:=base) zfh zy m_len
  have a27:=KL.zc7 zdw a25 a18
  have a28g:=KL.zgM JW a15 a27 m_len
  have a28s:=KL.zei (P:=zPr) (w:=w) (base:=base) zfD
  have a28o:=KL.zjk qW (KL.Xc a9) a28s m_len zy
  have a28r:=KL.zgc za9 a28o yL
  have a28u:=KL.ziL ziN a4 zy m_int
  have a28:=KL.zgZ Qe a28g a28r a28u yL m_len
  have a29:=KL.zdd YW a26 a28
  have e1:=KL.zdr (P:=zPr) (w:=w) (base:=base) zcS m_zip
  have e3:=KL.zh3 zic a28u e1 a15 m_len
  have e7:=KL.zdC zc1 a26 (KL.Xc a9) a24
  have e8:=KL.zdm zdi e1
  have e9:=KL.zil zdv a25 e8
  have e10:=KL.zgN zdo a18 m_len
  have e11:=KL.zhJ Qn a7 m_zip
  have e12:=KL.zgQ zc0 a25
  have e13:=KL.zgL zgR e7 e8 a28u m_len
  have e14:=KL.ziu zaN e10
  have e15:=KL.zf3 zg0 a26 a15 a23 e10 e12 e9 m_len
  have e16:=KL.zdc qM a26 a25 ZE
  have e17:=KL.zc3 za6 a29 e14 a26 e15 e3 e7 e13 e16 e11 m_len
  have b4:=KL.ziY (P:=zPr) (w:=w) (base:=base) YQ m_abs
  have b6:=KL.zaX hP hS Yo b4
  have b5:=KL.zgF (P:=zPr) (w:=w) (base:=base) hP hS JU zy
  have b7:=KL.zdP hP hS JB b6
  have b8:=KL.zgm (P:=zPr) (w:=w) (base:=base) QD
  have b9:=KL.zgK zaj b6
  have b10:=KL.zeS JX b6
  have b11:=KL.zdY JZ b8 b9 b10
  have b12:=KL.zfl (P:=zPr) (w:=w) (base:=base) hP hS JL
  have b13:=KL.ziU zdx b7 b5 m_len
  have b14:=KL.zfp Jz b13
  have b15:=KL.zd4 QA b5 zy JQ
  have b16:=KL.zf4 (P:=zPr) (w:=w) (base:=base) QL
  have b17:=KL.zbm YN b8 b14 b16 zy
  have b18:=KL.zfU hP hS ZX b8 b9 b10 b11 m_len m_zip
  have b19:=KL.zbG hP hS YO b12 b15 b17 b18 m_int zy
  have b20:=KL.ze5 (P:=zPr) (w:=w) (base:=base) XJ zy m_len
  have b26:=KL.zfK Qg b8 b9 b10 zy m_len
  have b28:=KL.zf8 hP hS zap b6
  have b29:=KL.zbh Xa b8 b10 b11 b28 Jd m_len m_zip
  have b30:=KL.zbg Xs b20 b26
  have b33:=KL.zbl XE b20 b26 b29 zy m_len
  have c28:=KL.zgw ZT b8 b9 zy m_len m_max
  have c29:=KL.zes Zh b8 b9 b10 zy m_len m_max
  have c0:=KL.ziH (P:=zPr) (w:=w) (base:=base) xx
  have c1:=KL.Xv 0 xx c0 b8 c28 c29 zy m_len
  have c2:=KL.Xv 1 xx c1 b8 c28 c29 zy m_len
  have c3:=KL.Xv 2 xx c2 b8 c28 c29 zy m_len
  have c4:=KL.Xv 3 xx c3 b8 c28 c29 zy m_len
  have c5:=KL.Xv 4 xx c4 b8 c28 c29 zy m_len
  have c6:=KL.zfy Qy c5 b8 b11 zy m_len m_int
  have c7:=KL.zdJ JF b30 b9 m_zip
  exact KL.ziX FL b19 b14 b33 c7 c6 e17 m_len zy
#print axioms PySem.Challenge.cw_steermill_k53_whole_one_hand_one_rule_holds
