import PyProof.Rows.All
import Wide.All
import OpenK.AllK
import Wide.FinOn
import Lean
import PyProof.EqAt
import PyProof.EqKinds
import PyProof.TupleCall
import PySem.Challenge.RW_steermill_k71_read_off
noncomputable section
local macro_rules | `(tactic| omega) => `(tactic| lia)
open List renaming length_map->wa,getElem?_eq_getElem->wb,getD_eq_getElem?_getD->wc,mem_of_getElem?->wd,getElem?_map->we,mem_map->wg,getElem_mem->wj,mem_cons_self->wk,mem_singleton->wm,mem_cons_of_mem->wo,getElem?_eq_some_iff->wp,length_take->wr,mem_append->wt,map_append->wu,take_of_length_le->wv,length_append->wy,mem_append_right->wE,mem_cons->wF,size_toArray->wI,getElem?_append_right->wJ,getElem?_eq_none->wN,getElem?_append_left->wO,mem_append_left->wP,getElem_of_mem->wQ,getElem?_set->wY,of_mem_zip->wZ,range->vd,length_zipWith->ve,length_set->vf,mem_range->vk,mem_filter->vn,not_mem_nil->vq,length_cons->vy,zipWith->vC,replicate->vD,mem_of_mem_take->vG,eq_nil_of_length_eq_zero->vJ,take_length->vK,length_replicate->vL,take_succ_eq_append_getElem->vN,map_map->vO,getElem?_zipWith->vR,length_range->vT,map_congr_left->vU,exists_cons_of_ne_nil->vV,all_eq_true->vX,length_filter_le->vY,append_nil->ue,length_zip->uh,getElem?_range->ur,getD->uu,take->uv,getElem?_take->ux,getElem_zipWith->uC,length_drop->uD,ext_getElem->uE,pairwise_cons->uH,getElem?_set_self->uJ,map_cons->uL,pairwise_map->uQ,flatten_cons->uS,pairwise_append->uV,filter_cons->uZ,mem_flatten->gc,getElem?_zip_eq_some->gd,nodup_cons->gh,getElem?_drop->gp,ext_getElem?->gx,length->gy,eraseIdx_sublist->gH,eq_nil_or_concat->gJ,getElem?_set_ne->gK,replicate_succ'->gM,filterMap_cons->gQ,replicate_succ->gS,mem_map_of_mem->gV,map->Gc,foldl_append->Gf,nodup_append->Gg,map_take->Gi,eq_of_mem_replicate->Gm,lookup_cons->Go,map_fst_zip->Gp,getElem_map->Gq,getElem?_replicate->Gs,pairwise_singleton->Gu,length_nil->Gz,length_singleton->GE,concat_eq_append->GK,drop_zero->GM,flatten_append->GR,map_drop->GS,mem_filterMap->GT,zip_map_right->GV,append_assoc->wag,getElem?_inj->wak,getElem_zip->waq,map_snd_zip->war,sum_append->way,foldl_cons->waA,range_succ->waD,sum_nil->waN,map_id'->waO,map_set->waQ
open Nat renaming le_refl->ww,le_trans->wD,lt_or_ge->wK,lt_of_lt_of_le->wL,ne_of_lt->wU,pow_le_pow_right->vg,mul_le_mul_right->vh,mul_le_mul->vm,lt_or_eq_of_le->vo,mul_le_mul_left->vp,add_mul->vt,one_mul->vw,not_lt_zero->vx,le_of_lt_succ->vz,zero_le->vA,min_le_left->vI,lt_irrefl->vM,mul_comm->vP,sub_self->vQ,zero_add->vS,le_of_lt->vW,le_succ->vZ,lt_of_le_of_lt->ud,le_antisymm->uk,le_mul_of_pos_right->um,lt_succ_self->ut,pow_add->uy,two_pow_pos->uA,lt_succ_of_lt->uB,eq_zero_or_pos->uI,pow_pos->uR,le_of_eq->uT,min_le_right->uW,lt_succ_iff_lt_or_eq->gk,pow_succ->gr,add_sub_cancel_left->gu,succ_le_succ->gz,mod_eq_of_lt->gA,div_lt_of_lt_mul->gL,min_eq_left->gP,gcd->gR,mod_lt->gU,one_le_two_pow->gY,mul_one->Ga,le_of_succ_le->Ge,mul_assoc->Gh,coprime_comm->Gr,lt_trans->Gv,min_self->Gx,zero_mul->Gy,mul_ne_zero->GC,le_mul_of_pos_left->GD,mul_mod->GL,sub_le_sub_right->GN,dvd_trans->GQ,ne_of_gt->GW,add_comm->wab,add_zero->wac,sub_zero->wad,lt_trichotomy->wah,le_of_not_lt->wam,mul_lt_mul''->wao,le_add_right->wap,mul_sub->wat,mul_pos->wau,zero_lt_one->waB,div_add_mod->waC,div_lt_self->waE,div_self->waM,succ_mul->waP,pow_zero->waR,sub_mul->waV
open Int renaming fmod_nonneg_of_pos->wx,fmod_lt_of_pos->wH,toNat_natCast->wR,gcd->wS,natAbs_mul->vv,fdiv_eq_ediv_of_dvd->vE,zero_add->vF,natAbs_natCast->vH,mul_le_mul_of_nonneg_left->ug,ediv_mul_cancel->uq,natCast_nonneg->uw,fmod_eq_emod_of_nonneg->uz,eq_ofNat_of_zero_le->uF,emod_lt_of_pos->uG,natCast_mul->uM,gcd_eq_natAbs_gcd_natAbs->uN,gcd_pos_of_ne_zero_right->uO,emod_add_mul_ediv->uP,lt_or_le->uU,gcd_dvd_left->uY,fdiv_eq_ediv_of_nonneg->gb,emod_nonneg->gi,dvd_mul_of_dvd_right->gj,natAbs_pos->gv,gcd_dvd_right->gw,mul_ne_zero->gO,gcd_pos_of_ne_zero_left->gW,mul_nonneg->gX,mul_pos->gZ,natAbs_add_le->Gd,zero_dvd->Gw,natAbs_dvd_natAbs->GJ,le_of_dvd->GO,zero_fmod->GP,dvd_zero->GY,gcd_zero->GZ,mul_zero->waa,dvd_mul_right->wae,natAbs_sub_le->waf,lt_trichotomy->waj,dvd_sub->wan,dvd_mul_left->was,natCast_emod->wav,ediv_nonneg->waw,dvd_trans->waF,fmod_def->waG,gcd_comm->waH,zero_mul->waI,dvd_refl->waJ,mul_comm->waK,gcd_ediv->waL,one_mul->waS,neg_dvd->waT
open Option renaming map_eq_some_iff->wG,ne_none_iff_exists'->Gb,getD_none->wal
open Rat renaming intCast_mul->wV,divInt->vB,intCast_eq_zero_iff->uo,num_divInt_den->gm,divInt_eq_divInt_iff->Gk,divInt_ofNat->Gn,intCast_add->GA,intCast_inj->GB,divInt_mul_divInt->GF,divInt_eq_div->wai,num_eq_zero->wax,intCast_neg->waz,inv_def->waU
open Bool renaming false_ne_true->wW,eq_false_iff->ul,eq_iff_iff->uK,and_eq_true->uX,false_eq_true->GU
open Classical renaming byContradiction->gf,choose_spec->GH
set_option Elab.async false
set_option linter.all false
set_option maxRecDepth 100000
namespace L2
open PySem PySem.Spec PyProof.Rows
abbrev Key:=Sum Int Str
def keyIs:Key->Value->Bool
 | .inl k,v=>Value.isInt k v
 | .inr x,v=>Value.isStrOf x v
def keyH(w:World):Key->Int
 | .inl k=>hashInt k
 | .inr x=>hashStr w x
theorem yu:∀ {k:Key} {v:Value},keyIs k v=true->(∃ i t,k=Sum.inl i/\v=Value.int i t)\/(∃ x t,k=Sum.inr x/\v=Value.str x t)
 | .inl i,v,h=>by
  obtain⟨t,e⟩:=Value.isInt_shape (k:=i) (v:=v) h;exact .inl ⟨i,t,rfl,e⟩
 | .inr x,v,h=>by
  obtain⟨t,e⟩:=Value.isStrOf_shape (x:=x) (v:=v) h;exact .inr ⟨x,t,rfl,e⟩
theorem zhO(a b:Int):decide ((Sum.inl a:Key)=Sum.inl b) =(a == b):=by
 by_cases e:a=b
 ·subst e;simp
 ·have h:¬(Sum.inl a:Key)=Sum.inl b:=fun q=>e (Sum.inl.inj q)
  rw[decide_eq_false h];exact(beq_eq_false_iff_ne.mpr e).symm
theorem zhu(a b:Str):decide ((Sum.inr a:Key)=Sum.inr b)=decide (a=b):=by
 by_cases e:a=b
 ·subst e;simp
 ·have h:¬(Sum.inr a:Key)=Sum.inr b:=fun q=>e (Sum.inr.inj q)
  rw[decide_eq_false h,decide_eq_false e]
theorem zhU(a:Int)(b:Str):decide ((Sum.inl a:Key)=Sum.inr b)=false:=decide_eq_false (fun q=>nomatch q)
theorem zhG(a:Str)(b:Int):decide ((Sum.inr a:Key)=Sum.inl b)=false:=decide_eq_false (fun q=>nomatch q)
def mixKind(prog:Program)(w:World):PySem.KeyKind prog w Key where
 is:=keyIs
 hash:=keyH w
 inj:=fun v a b ha hb=>by
  rcases yu ha with⟨i,t,rfl,rfl⟩|⟨x,t,rfl,rfl⟩
  ·rcases yu hb with⟨j,u,rfl,e⟩|⟨y,u,rfl,e⟩
   ·injection e with e1 _;rw[e1]
   ·exact nomatch e
  ·rcases yu hb with⟨j,u,rfl,e⟩|⟨y,u,rfl,e⟩
   ·exact nomatch e
   ·injection e with e1 _;rw[e1]
 byValue:=fun k v h=>by
  rcases yu h with⟨i,t,rfl,rfl⟩|⟨x,t,rfl,rfl⟩ <;> rfl
 pyHash:=fun hv h=>by
  rcases yu hv with⟨i,t,rfl,rfl⟩|⟨x,t,rfl,rfl⟩
  ·exact wpAny_pyHash_int h
  ·exact wpAny_pyHash_str h
 eqBool:=fun hu hv h=>by
  rcases yu hu with⟨i,t,rfl,rfl⟩|⟨x,t,rfl,rfl⟩
  ·rcases yu hv with⟨j,u,rfl,rfl⟩|⟨y,u,rfl,rfl⟩
   ·rw[zhO]at h;exact wpAny_eqBool_int h
   ·rw[zhU]at h;exact SeqAt.EqAt.int_str i t y u _ _ _ _ h
  ·rcases yu hv with⟨j,u,rfl,rfl⟩|⟨y,u,rfl,rfl⟩
   ·rw[zhG]at h;exact SeqAt.EqAt.str_int x t j u _ _ _ _ h
   ·rw[zhu]at h;exact wpAny_eqBool_str h
 «strs»:=fun k x t v h=>by
  rcases yu h with⟨i,u,rfl,e⟩|⟨y,u,rfl,e⟩
  ·exact nomatch e
  ·injection e with e1 _
   subst e1;cases v <;> rfl
end L2
namespace L2
open PySem PySem.Spec PyProof.Rows
inductive V where
 | non|bl (b:Bool) | int (i:Int) | str (x:Str) | byt (b:Array UInt8) | flt (b:UInt64) | ref (a:Addr) | ty (n:String)
 deriving DecidableEq
def RelV:V->Value->Prop
 | .non,u=>u=Value.none
 | .bl b,u=>u=Value.bool b
 | .int i,u=>∃ t,u=Value.int i t
 | .str x,u=>∃ t,u=Value.str x t
 | .byt b,u=>∃ t,u=Value.bytes b t
 | .flt b,u=>∃ t,u=Value.float b t
 | .ref a,u=>u=Value.ref a
 | .ty n,u=>u=Value.type n
abbrev Vals:List V->List Value->Prop:=Paired RelV
theorem Vals.length{xs:List V}{us:List Value}(r:Vals xs us):xs.length=us.length:=Paired.length r
theorem Vals.get:∀ {xs:List V} {us:List Value} {i:Nat} {x:V},Vals xs us->xs[i]?=some x->∃ u,us[i]?=some u/\RelV x u
 | _,_,_,_,.nil,e=>by simp at e
 | _,_,0,_,.cons r _,e=>by simp at e;subst e;exact⟨_,rfl,r⟩
 | _,_,i+1,x,.cons _ t,e=>by
  obtain⟨u,h1,h2⟩:=Vals.get (i:=i) (x:=x) t (by simpa using e);exact⟨u,by simpa using h1,h2⟩
theorem Vals.set{x:V}{u:Value}(r:RelV x u):∀ {xs:List V} {us:List Value} (i:Nat),Vals xs us->Vals (xs.set i x) (us.set i u)
 | _,_,_,.nil=>.nil
 | _,_,0,.cons _ t=>.cons r t
 | _,_,i+1,.cons q t=>.cons q (Vals.set r i t)
theorem Vals.append:∀ {xs ys:List V} {us ws:List Value},Vals xs us->Vals ys ws->Vals (xs++ys) (us++ws)
 | _,_,_,_,.nil,s=>s
 | _,_,_,_,.cons r t,s=>.cons r (Vals.append t s)
theorem Vals.take:∀ {xs:List V} {us:List Value} (n:Nat),Vals xs us->Vals (xs.take n) (us.take n)
 | _,_,0,_=>.nil
 | _,_,_+1,.nil=>.nil
 | _,_,n+1,.cons r t=>.cons r (Vals.take n t)
theorem Vals.drop:∀ {xs:List V} {us:List Value} (n:Nat),Vals xs us->Vals (xs.drop n) (us.drop n)
 | _,_,0,r=>r
 | _,_,_+1,.nil=>.nil
 | _,_,n+1,.cons _ t=>Vals.drop n t
def RelO:Option V->Option Value->Prop
 | some v,some u=>RelV v u
 | none,none=>True
 | _,_=>False
def KV{κ:Type}:List (κ×V)->List (κ×Value)->Prop:=Paired fun(p:κ×V) (q:κ×Value)=>p.1=q.1/\RelV p.2 q.2
def kV:Key->V
 | .inl i=>.int i
 | .inr x=>.str x
inductive HO where
 | lst (xs:List V)
 | tup (xs:List V)
 | dK (kvs:List (Key×V)) | dT (kvs:List (List Key×V))
 | set (S:Int->Bool) (n:Nat)
 | ins (C dx:Addr) (fs:List (Str×V))
 | own (x:Addr)
 | xd (fs:List (Str×V))
 | met (f x:Addr)
 | rng (lo hi:Int)
 | frz (o:Obj) (u:HO)
 | tbl (ps:Array Value)
 | ext (φ:Heap->Prop)
abbrev Hp:=Addr->Option HO
def upd(H:Hp)(a:Addr)(o:HO):Hp:=fun b=>if b=a then some o else H b
theorem zf{H:Hp}{a:Addr}{o:HO}:upd H a o a=some o:=by unfold upd;rw[if_pos rfl]
theorem zN{H:Hp}{a b:Addr}{o:HO}(h:b≠a):upd H a o b=H b:=by unfold upd;rw[if_neg h]
theorem zV{H:Hp}{a b:Addr}{o:HO}(h:H a=some o)(h':H b=none):a≠b:=by
 intro e;subst e;rw[h]at h';cases h'
section
variable(P:Program)(w:World)
def kas(H:Hp)(h:Heap)(a:Addr):HO->Prop
 | .lst xs=>xs.length<=sizeLine/\∃(its:List Value)(n:Nat),Vals xs its/\h.get? a=some { cls:=.type "list",data:=.seq its.toArray n }
 | .tup xs=>xs.length<=sizeLine/\∃ its:List Value,Vals xs its/\IsTup h a its.toArray
 | .dK kvs=>kvs.length<=sizeLine/\(a == sysModules)=false/\∃ vs,KV kvs vs/\h.DictOf (mixKind P w) a vs
 | .dT kvs=>kvs.length<=sizeLine/\(a == sysModules)=false/\∃ xs:List (List Key×Addr×Value),
   Paired (fun(p:List Key×V) (q:List Key×Addr×Value)=>p.1=q.1/\H q.2.1=some (.tup (p.1.map kV))/\RelV p.2 q.2.2) kvs xs /\
   ∃ o es ep,h.get? a=some o/\o.ExactDict/\o.data=.dict es ep/\es.toList=xs.map (entryOfKey (tupleKind (mixKind P w)))/\(xs.map (·.1)).Nodup
 | .set S n=>h.SetOf (intKind P w) a S n
 | .ins C dx fs=>H dx=some (.own a)/\fs.length<=1000/\dx≠a/\h.get? a=some (PySem.W.instObj C dx) /\
   ∃ mA,h.Ns1 dx mA/\(∀ f,RelO (fs.lookup f) (mA f))/\PySem.Within mA (fs.map (·.1))
 | .own _=>∃ o,h.get? a=some o
 | .xd fs=>∃ mA,h.Ns1 a mA/\∀ f,RelO (fs.lookup f) (mA f)
 | .rng lo hi=>∃ t u v,h.get? a=some { cls:=.type "range",data:=.fields #[.int lo t,.int hi u,.int 1 v] }
 | .frz o u=>h.get? a=some o/\kas H h a u
 | .tbl ps=>h.get? a=some { cls:=.none,data:=.fields ps }
 | .met f x=>h.get? a=some (PySem.W.methodObj (.ref f) (.ref x))
 | .ext φ=>φ h/\(∃ o,h.get? a=some o)/\∀ h1 h2:Heap,φ h1->(∀ o,h1.get? a=some o->h2.get? a=some o)->φ h2
def HOk(H:Hp)(h:Heap):Prop:=∀ a o,H a=some o->kas P w H h a o
end
section
variable{P:Program}{w:World}{H H':Hp}{h h':Heap}{a:Addr}{o:HO}
theorem kas.lt(x:kas P w H h a o):a<h.objs.size:=by
 cases o with
 | lst xs=>obtain⟨_,_,_,_,e⟩:=x;exact Heap.lt_size e
 | tup xs=>obtain⟨_,_,_,p⟩:=x;exact p.lt
 | dK kvs=>obtain⟨_,_,_,_,o,_,_,e,_⟩:=x;exact Heap.lt_size e
 | dT kvs=>obtain⟨_,_,_,_,o,_,_,e,_⟩:=x;exact Heap.lt_size e
 | set S n=>obtain⟨o,_,_,_,e,_⟩:=x;exact Heap.lt_size e
 | ins C dx fs=>obtain⟨_,_,_,e,_⟩:=x;exact Heap.lt_size e
 | own y=>obtain⟨_,e⟩:=x;exact Heap.lt_size e
 | xd fs=>obtain⟨_,⟨_,_,_,e,_⟩,_⟩:=x;exact Heap.lt_size e
 | rng lo hi=>obtain⟨_,_,_,e⟩:=x;exact Heap.lt_size e
 | frz ob u=>obtain⟨e,_⟩:=x;exact Heap.lt_size e
 | tbl ps=>exact Heap.lt_size (show h.get? a=some _ from x)
 | met f y=>exact Heap.lt_size (show h.get? a=some _ from x)
 | ext φ=>obtain⟨_,⟨_,e⟩,_⟩:=x;exact Heap.lt_size e
theorem Paired.mapP{α β:Type}{F G:α->β->Prop}:∀ {l₁:List α} {l₂:List β},Paired F l₁ l₂->(∀ a b,F a b->G a b)->Paired G l₁ l₂
 | _,_,.nil,_=>.nil
 | _,_,.cons r t,f=>.cons (f _ _ r) (Paired.mapP t f)
theorem kas.stay(x:kas P w H h a o)(k:∀ b u,(b=a\/H b=some (.own a))->h.get? b=some u->h'.get? b=some u)
  (ho:∀ b,H b=some (.own a)->H' b=some (.own a)) (ht:∀ b xs,H b=some (.tup xs)->H' b=some (.tup xs)):kas P w H' h' a o:=by
 induction o with
 | lst xs=>obtain⟨z,its,n,r,e⟩:=x;exact⟨z,its,n,r,k _ _ (.inl rfl) e⟩
 | tup xs=>obtain⟨z,its,r,ob,e,c⟩:=x;exact⟨z,its,r,ob,k _ _ (.inl rfl) e,c⟩
 | dK kvs=>obtain⟨z,y,vs,r,ob,es,ep,e,c⟩:=x;exact⟨z,y,vs,r,ob,es,ep,k _ _ (.inl rfl) e,c⟩
 | dT kvs =>
  obtain⟨z,y,xs,r,ob,es,ep,e,c⟩:=x;exact⟨z,y,xs,Paired.mapP r fun p q z=>⟨z.1,ht _ _ z.2.1,z.2.2⟩,ob,es,ep,k _ _ (.inl rfl) e,c⟩
 | set S n=>obtain⟨ob,es,ep,t,e,c⟩:=x;exact⟨ob,es,ep,t,k _ _ (.inl rfl) e,c⟩
 | ins C dx fs =>
  obtain⟨d,z,ne,e,mA,⟨od,es,ep,e2,c⟩,r⟩:=x;exact⟨ho _ d,z,ne,k _ _ (.inl rfl) e,mA,⟨od,es,ep,k _ _ (.inr d) e2,c⟩,r⟩
 | own y=>obtain⟨ob,e⟩:=x;exact⟨ob,k _ _ (.inl rfl) e⟩
 | xd fs=>obtain⟨mA,⟨od,es,ep,e,c⟩,r⟩:=x;exact⟨mA,⟨od,es,ep,k _ _ (.inl rfl) e,c⟩,r⟩
 | rng lo hi=>obtain⟨t,u,v,e⟩:=x;exact⟨t,u,v,k _ _ (.inl rfl) e⟩
 | frz ob u ih=>obtain⟨e,q⟩:=x;exact⟨k _ _ (.inl rfl) e,ih q⟩
 | tbl ps =>
  have e:h.get? a=some { cls:=.none,data:=.fields ps }:=x;show h'.get? a=some { cls:=.none,data:=.fields ps };exact k a _ (.inl rfl) e
 | met f y =>
  have e:h.get? a=some (PySem.W.methodObj (.ref f) (.ref y)):=x;show h'.get? a=some (PySem.W.methodObj (.ref f) (.ref y));exact k a _ (.inl rfl) e
 | ext φ=>obtain⟨p,⟨o,e⟩,st⟩:=x;exact⟨st _ _ p fun o q=>k _ _ (.inl rfl) q,⟨o,k _ _ (.inl rfl) e⟩,st⟩
theorem HOk.lt(x:HOk P w H h)(e:H a=some o):a<h.objs.size:=(x a o e).lt
theorem HOk.fresh(x:HOk P w H h)(e:h.objs.size<=a):H a=none:=by
 cases q:H a with
 | none=>rfl
 | some u=>exact absurd (wL (x.lt q) e) (vM _)
theorem HOk.kept(x:HOk P w H h)(k:∀ b u,h.get? b=some u->h'.get? b=some u):HOk P w H h':=fun a o e =>
 (x a o e).stay (fun b u _ q=>k b u q) (fun _ q=>q) fun _ _ q=>q
theorem HOk.laid(x:HOk P w H h)(k:∀ b u,h.get? b=some u->h'.get? b=some u)(hp:h.objs.size<=a)(new:kas P w (upd H a o) h' a o):HOk P w (upd H a o) h':=fun b u e=>by
 have hn:=x.fresh hp
 by_cases hb:b=a
 ·subst hb;rw[zf]at e;cases e;exact new
 ·rw[zN hb]at e;exact(x b u e).stay (fun c v _ q=>k c v q) (fun c q=>by rw[zN (zV q hn)];exact q) fun c xs q=>by rw[zN (zV q hn)];exact q
end
def Rd(H:Hp)(a:Addr)(u:HO):Prop:=H a=some u\/∃ o,H a=some (.frz o u)
theorem Rd.ok{P:Program}{w:World}{H:Hp}{h:Heap}{a:Addr}{u:HO}(r:Rd H a u)(x:HOk P w H h):kas P w H h a u:=by
 rcases r with r|⟨o,r⟩
 ·exact x a u r
 ·obtain⟨_,q⟩:=x a _ r;exact q
def Mut:Option HO->Prop
 | some (.lst _)=>True
 | some (.dK _)=>True
 | some (.dT _)=>True
 | some (.set _ _)=>True
 | some (.ins _ _ _)=>True
 | some (.ext _)=>True
 | _=>False
section
variable{P:Program}{w:World}{H:Hp}{h h':Heap}{x e:Addr}{o':HO}
theorem HOk.write(ok:HOk P w H h)(mu:Mut (H x))(he:e=x\/H e=some (.own x))(k:∀ b u,b≠e->h.get? b=some u->h'.get? b=some u)(heo:∃ u,h'.get? e=some u)
  (new:kas P w (upd H x o') h' x o'):HOk P w (upd H x o') h':=fun b u q=>by
 have nown:∀ c y,H c=some (.own y)->c≠x:=fun c y r z=>by subst z;rw[r]at mu;exact mu
 have ntup:∀ c xs,H c=some (.tup xs)->c≠x:=fun c xs r z=>by subst z;rw[r]at mu;exact mu
 by_cases hb:b=x
 ·subst hb;rw[zf]at q;cases q;exact new
 ·rw[zN hb]at q
  by_cases hbe:b=e
  ·have q':H b=some (.own x):=by
    rcases he with z|z
    ·exact absurd (hbe.trans z) hb
    ·rw[hbe];exact z
   rw[q]at q';cases q';obtain⟨v,hv⟩:=heo;exact⟨v,by rw[hbe];exact hv⟩
  ·refine(ok b u q).stay (fun c v hc r=>k c v ?_ r) (fun c r=>by rw[zN (nown c b r)];exact r) fun c xs r=>by rw[zN (ntup c xs r)];exact r
   rcases hc with rfl|hc
   ·exact hbe
   ·rintro rfl
    rcases he with z|z
    ·exact nown c b hc z
    ·rw[hc]at z;cases z;exact hb rfl
end
structure Un(fs ex:List Addr)(H H':Hp)(h h':Heap):Prop where
 keep:∀ b o,h.get? b=some o->H b=none->b∉fs->b∉ex->h'.get? b=some o
 slot:∀ b o,h.get? b=some o->H b=none->b∈fs->b∉ex->∃ sl,h'.get? b=some { o with slots:=sl }
 free:∀ b o,h.get? b=some o->H b=none->b∉ex->H' b=none
 there:∀ b o,h.get? b=some o->b∉ex->∃ o',h'.get? b=some o'
 tups:∀ b xs,H b=some (.tup xs)->H' b=some (.tup xs)
 frzs:∀ b o u,H b=some (.frz o u)->H' b=some (.frz o u)
 tbls:∀ b ps,H b=some (.tbl ps)->∃ more,H' b=some (.tbl (ps++more))
section
variable{fs fs' ex ex':List Addr}{H H1 H2:Hp}{h h1 h2 h':Heap}{a x e:Addr}{o:HO}
theorem Un.any(u:Un fs ex H H1 h h1){b:Addr}{ob:Obj}(q:h.get? b=some ob)(n:H b=none)(hx:b∉ex):∃ sl,h1.get? b=some { ob with slots:=sl }:=by
 by_cases hb:b∈fs
 ·exact u.slot b ob q n hb hx
 ·exact⟨ob.slots,u.keep b ob q n hb hx⟩
theorem Un.kept(k:∀ b u,h.get? b=some u->h'.get? b=some u):Un fs ex H H h h' :=
 ⟨fun b ob q _ _ _=>k b ob q,fun b ob q _ _ _=>⟨ob.slots,k b ob q⟩,fun _ _ _ n _=>n,fun b ob q _=>⟨ob,k b ob q⟩,fun _ _ q=>q,fun _ _ _ q=>q,fun _ ps q=>⟨#[],by rw[q];simp⟩⟩
theorem Un.refl:Un fs ex H H h h:=Un.kept fun _ _ q=>q
theorem Un.laid(k:∀ b u,h.get? b=some u->h'.get? b=some u)(hp:h.objs.size<=a)(hn:H a=none):Un fs ex H (upd H a o) h h' where
 keep:=fun b u q _ _ _=>k b u q
 slot:=fun b u q _ _ _=>⟨u.slots,k b u q⟩
 free:=fun b u q n _=>by rw[zN (wU (wL (Heap.lt_size q) hp))];exact n
 there:=fun b u q _=>⟨u,k b u q⟩
 tups:=fun b xs q=>by rw[zN (zV q hn)];exact q
 frzs:=fun b u xs q=>by rw[zN (zV q hn)];exact q
 tbls:=fun b ps q=>⟨#[],by rw[zN (zV q hn),q];simp⟩
theorem Un.write(mu:Mut (H x))(he:e=x\/H e=some (.own x))(k:∀ b u,b≠e->h.get? b=some u->h'.get? b=some u)(heo:∃ u,h'.get? e=some u):Un fs ex H (upd H x o) h h':=by
 have hx:∀ b,H b=none->b≠x:=fun b n z=>by subst z;rw[n]at mu;exact mu
 have hb:∀ b,H b=none->b≠e:=fun b n z=>by
  subst z
  rcases he with r|r
  ·exact hx b n r
  ·rw[n]at r;cases r
 have hm:∀ b u,H b=some u->¬ Mut (some u)->b≠x:=fun b u q nm z=>by subst z;rw[q]at mu;exact nm mu
 refine⟨fun b u q n _ _=>k b u (hb b n) q,fun b u q n _ _=>⟨u.slots,k b u (hb b n) q⟩,fun b u q n _=>by rw[zN (hx b n)];exact n,fun b u q _=>?_,
  fun b xs q=>by rw[zN (hm b _ q fun z=>z)];exact q,fun b u xs q=>by rw[zN (hm b _ q fun z=>z)];exact q,fun b ps q=>⟨#[],by rw[zN (hm b _ q fun z=>z),q];simp⟩⟩
 by_cases hbe:b=e
 ·subst hbe;exact heo
 ·exact⟨u,k b u hbe q⟩
end
def trk(h:Heap)(H:Hp):List Addr:=(vd h.objs.size).filter fun a=>(H a).isSome
def hidT(h:Heap)(H:Hp):Heap:=PySem.W.hideAll h (trk h H)
theorem zec(h:Heap)(H:Hp):(hidT h H).objs.size=h.objs.size:=PySem.W.hideAll_size _ _
theorem zfg{h:Heap}{H:Hp}{b:Addr}{o:Obj}(e:h.get? b=some o)(n:H b=none):(hidT h H).get? b=some o :=
 PySem.W.hideAll_get _ e fun hm=>by
  have q:(H b).isSome=true:=(vn.mp hm).2;rw[n]at q;simp at q
theorem zgG{h:Heap}{H:Hp}{b:Addr}{o:Obj}(e:(hidT h H).get? b=some o):h.get? b=some o/\H b=none:=by
 have e':h.get? b=some o:=PySem.W.of_hideAll (trk h H) e;refine⟨e',?_⟩;cases q:H b with
 | none=>rfl
 | some x =>
  have hm:b∈trk h H:=vn.mpr ⟨vk.mpr (Heap.lt_size e'),by simp[q]⟩;have z:(hidT h H).get? b=none:=PySem.W.hideAll_none (trk h H) hm;rw[z]at e;cases e
end L2
namespace L2
open PySem PySem.Spec PyProof.Rows
structure Mod(K:PySem.W.Frag)(mg:Str->Option Value)(base:Heap):Prop where
 kin:K.In base
 glob:base.Ns mainGlobals mg
 blt:∃ mb,base.Ns builtinsNs mb/\∀ x:Str,x ≠ "__name__" -> mb x=bootBuiltins x
 nolimit:base.NoLimit
structure Cx where
 prog:Program
 w:World
 K:PySem.W.Frag
 mg:Str->Option Value
 base:Heap
 A:Around
 N:List Str
 s₀:Shared
 H₀:Hp
 env:Env
 outer:List Env
 stack:List Env
 ex:List Addr
 fn:Str->Bool
 calm:Bool
 pn:List (Addr×Obj)
 xe:Value->Shared->Prop
def frs(l:List Env):List Addr:=l.filterMap (·.frame)
abbrev Cx.fs(X:Cx):List Addr:=frs X.outer
def Vis(sc:Scope)(x:Str):Prop:=sc.names.lookup x=some .local\/sc.names.lookup x=some .cell\/sc.names.lookup x=some .free
def Loc(sc:Scope)(x:Str):Prop:=sc.names.lookup x=some .local\/sc.names.lookup x=some .cell
def Look(env:Env)(h:Heap)(m:Str->Option Value)(x:Str)(u:Value):Prop :=
 (env.kindOf x=some .local/\m x=some u)\/((env.kindOf x=some .cell\/env.kindOf x=some .free)/\∃ c,env.cells.lookup x=some c/\h.IsCell c (some u))
structure Cx.Ok(X:Cx):Prop where
 mod:Mod X.K X.mg X.base
 kind:X.env.scope.kind=.function
 glob:X.env.globals=mainGlobals
 blt:X.env.builtins=builtinsNs
 above:X.s₀.heap.objs.size<=X.env.locals
 inj:∀ x y c,X.env.cells.lookup x=some c->X.env.cells.lookup y=some c->x=y
 has:∀ x,(X.env.kindOf x=some .cell\/X.env.kindOf x=some .free)->∃ c,X.env.cells.lookup x=some c
 cab:∀ x c,X.fn x=true->X.env.cells.lookup x=some c->X.s₀.heap.objs.size<=c
 hd:X.calm=true->X.A.handled=none
 frames:X.A.frames=some X.stack
 stk:X.stack=X.outer\/(X.stack=X.env::X.outer/\X.env.frame=some X.env.locals)
 exf:∀ b∈X.ex,b≠X.env.locals/\∀ x c,X.env.cells.lookup x=some c->c≠b
 bs:∀ b o,X.base.get? b=some o->X.s₀.heap.get? b=some o/\X.H₀ b=none
 bsz:X.base.objs.size<=X.s₀.heap.objs.size
 noex:∀ b o,X.base.get? b=some o->b∉X.ex
 exfs:∀ b∈X.ex,b∉X.fs
 funs:X.s₀.heap.FunFrames X.base X.outer
 frf:∀ b∈X.fs,X.H₀ b=none
structure Inv(X:Cx)(pins:List (Addr×Obj))(σ:List (Option V))(H:Hp)(s:Shared):Prop where
 ok:X.Ok
 os:s.os=X.s₀.os
 bare:AllBare s.gens
 base:Un X.fs X.ex X.H₀ H X.s₀.heap s.heap
 loc:∃ m,s.heap.Ns X.env.locals m/\∀(i:Nat)(x:Str)(v:V),X.N[i]?=some x->σ[i]?=some (some v)->Vis X.env.scope x->∃ u,RelV v u/\Look X.env s.heap m x u
 cell:∀ x c,X.env.cells.lookup x=some c->∃ v,s.heap.IsCell c v
 free:H X.env.locals=none
 freeC:∀ x c,X.env.cells.lookup x=some c->H c=none
 pin:∀ p∈X.pn++pins,s.heap.get? p.1=some p.2/\H p.1=none/\p.1≠X.env.locals/\p.1∉X.fs/\∀ v,p.2.data≠.cell v
 hok:HOk X.prog X.w H s.heap
 len:σ.length=X.N.length
section
variable{X:Cx}{pins:List (Addr×Obj)}{σ:List (Option V)}{H H':Hp}{s:Shared}{h':Heap}
theorem Cx.Ok.nofr(ok:X.Ok){b:Addr}{o:Obj}(e:X.base.get? b=some o):b∉X.fs:=fun hb=>by
 have:=(ok.funs.mem hb).1;rw[e]at this;cases this
theorem Inv.bs(I:Inv X pins σ H s):∀ b o,X.base.get? b=some o->s.heap.get? b=some o/\H b=none:=fun b o e =>
 ⟨I.base.keep b o (I.ok.bs b o e).1 (I.ok.bs b o e).2 (I.ok.nofr e) (I.ok.noex b o e),I.base.free b o (I.ok.bs b o e).1 (I.ok.bs b o e).2 (I.ok.noex b o e)⟩
theorem Inv.bk(I:Inv X pins σ H s):∀ b o,X.base.get? b=some o->s.heap.get? b=some o:=fun b o e=>(I.bs b o e).1
theorem Inv.mod(I:Inv X pins σ H s):Mod X.K X.mg X.base:=I.ok.mod
theorem Inv.kIn(I:Inv X pins σ H s):X.K.In s.heap:=I.ok.mod.kin.keeps I.bk
theorem Inv.nolimit(I:Inv X pins σ H s):s.heap.NoLimit:=I.ok.mod.nolimit.keeps I.bk
theorem Inv.lt(I:Inv X pins σ H s):X.env.locals<s.heap.objs.size:=let ⟨_,hn,_⟩:=I.loc;hn.lt
theorem Inv.sz(I:Inv X pins σ H s):X.s₀.heap.objs.size<=s.heap.objs.size:=wD I.ok.above (vW I.lt)
theorem Inv.nofs(I:Inv X pins σ H s){a:Addr}(h:s.heap.objs.size<=a):a∉X.fs:=fun hb=>by
 obtain⟨_,o,ho,_⟩:=I.ok.funs.mem hb;exact absurd (wL (Heap.lt_size ho) (wD I.sz h)) (vM _)
theorem Inv.cne(I:Inv X pins σ H s):∀ x c,X.env.cells.lookup x=some c->c≠X.env.locals:=fun x c e z=>by
 obtain⟨v,o,ho,hd⟩:=I.cell x c e;obtain⟨m,⟨o',es,ep,ho',hd',_⟩,_⟩:=I.loc;rw[z,ho']at ho;cases ho;rw[hd']at hd;cases hd
theorem Inv.funs(I:Inv X pins σ H s):s.heap.FunFrames X.base X.outer:=by
 have all:∀(l:List Env),(∀ b∈frs l,b∈X.fs)->X.s₀.heap.FunFrames X.base l->s.heap.FunFrames X.base l:=by
  intro l
  induction l with
  | nil=>intro _ _;trivial
  | cons env r ih =>
   intro hs hl;obtain⟨hk,⟨L,o,hf,hn,ho,hd⟩,hr⟩:=hl;have hL:L∈X.fs:=hs L (by unfold frs;rw[gQ,hf];exact wk);obtain⟨sl,e⟩:=I.base.slot L o ho (I.ok.frf L hL) hL fun z=>I.ok.exfs L z hL
   exact⟨hk,⟨L,_,hf,hn,e,hd⟩,ih (fun b hb=>hs b (by unfold frs;rw[gQ,hf];exact wo _ hb)) hr⟩
 exact all X.outer (fun _ hb=>hb) I.ok.funs
theorem Inv.stack(I:Inv X pins σ H s):s.heap.FunFrames X.base X.stack:=by
 rcases I.ok.stk with e|⟨e,hf⟩
 ·rw[e];exact I.funs
 ·rw[e];obtain⟨m,hn,_⟩:=I.loc;refine .cons (by rw[I.ok.kind];decide) hf hn ?_ I.funs;exact Heap.get?_none_of_le (wD I.ok.bsz I.ok.above)
theorem Inv.stkSub(I:Inv X pins σ H s):∀ b∈frs X.stack,b∈X.env.locals::X.fs:=fun b hb=>by
 rcases I.ok.stk with e|⟨e,hf⟩
 ·rw[e]at hb;exact wo _ hb
 ·rw[e]at hb;unfold frs at hb;rw[gQ,hf]at hb;exact hb
theorem Inv.stkFree(I:Inv X pins σ H s):∀ b∈frs X.stack,H b=none:=fun b hb=>by
 rcases wF.mp (I.stkSub b hb)with e|hb
 ·rw[e];exact I.free
 ·obtain⟨_,o,ho,_⟩:=I.ok.funs.mem hb;exact I.base.free b o ho (I.ok.frf b hb) fun z=>I.ok.exfs b z hb
theorem Inv.step{g':Array GenState}{t':Nat}{d':Drawn}{ch:List Addr}(I:Inv X pins σ H s)
  (hch:∀ b∈ch,(b∈X.ex\/X.s₀.heap.objs.size<=b)/\b≠X.env.locals/\(∀ x c,X.env.cells.lookup x=some c->c≠b)/\∀ p∈X.pn++pins,p.1≠b)
  (keep:∀ b o,b≠X.env.locals->b∉X.fs->b∉ch->s.heap.get? b=some o->H b=none->h'.get? b=some o)
  (slot:∀ b o,b≠X.env.locals->b∈X.fs->b∉ch->s.heap.get? b=some o->H b=none->∃ sl,h'.get? b=some { o with slots:=sl }) (free:∀ b o,b∉ch->s.heap.get? b=some o->H b=none->H' b=none)
  (there:∀ b o,b∉ch->s.heap.get? b=some o->∃ o',h'.get? b=some o')
  (tups:∀ b xs,H b=some (.tup xs)->H' b=some (.tup xs)) (frzs:∀ b o u,H b=some (.frz o u)->H' b=some (.frz o u)) (tbls:∀ b ps,H b=some (.tbl ps)->∃ more,H' b=some (.tbl (ps++more)))
  (ns:∀ m,s.heap.Ns X.env.locals m->h'.Ns X.env.locals m) (hok:HOk X.prog X.w H' h') (hg:AllBare g') :
  Inv X pins σ H' { s with heap:=h',gens:=g',drawn:=d',toks:=t' }:=by
 have neL:∀ b o,X.s₀.heap.get? b=some o->b≠X.env.locals:=fun b o e=>wU (wL (Heap.lt_size e) I.ok.above)
 have neC:∀ b o,X.s₀.heap.get? b=some o->b∉X.ex->b∉ch:=fun b o e hx hb=>by
  rcases (hch b hb).1 with z|z
  ·exact hx z
  ·exact absurd (wL (Heap.lt_size e) z) (vM _)
 have cellK:∀ x c,X.env.cells.lookup x=some c->∀ v,s.heap.IsCell c v->h'.IsCell c v:=fun x c e v ⟨o,ho,hd⟩=>by
  have nch:c∉ch:=fun z=>(hch c z).2.2.1 x c e rfl
  by_cases hc:c∈X.fs
  ·obtain⟨sl,q⟩:=slot c o (I.cne x c e) hc nch ho (I.freeC x c e);exact⟨_,q,hd⟩
  ·exact⟨o,keep c o (I.cne x c e) hc nch ho (I.freeC x c e),hd⟩
 refine⟨I.ok,I.os,hg,⟨fun b o e n hb hx=>?_,fun b o e n hb hx=>?_,fun b o e n hx=>?_,fun b o e hx=>?_,fun b xs e=>tups b xs (I.base.tups b xs e),fun b o xs e=>frzs b o xs (I.base.frzs b o xs e),fun b ps e=>?_⟩,?_,fun x c e=>?_,?_,fun x c e=>?_,fun p hp=>?_,hok,I.len⟩
 ·exact keep b o (neL b o e) hb (neC b o e hx) (I.base.keep b o e n hb hx) (I.base.free b o e n hx)
 ·obtain⟨sl,e1⟩:=I.base.slot b o e n hb hx;obtain⟨sl',e2⟩:=slot b _ (neL b o e) hb (neC b o e hx) e1 (I.base.free b o e n hx);exact⟨sl',e2⟩
 ·obtain⟨o',e1⟩:=I.base.there b o e hx;exact free b o' (neC b o e hx) e1 (I.base.free b o e n hx)
 ·obtain⟨o',e1⟩:=I.base.there b o e hx;exact there b o' (neC b o e hx) e1
 ·obtain⟨m1,e1⟩:=I.base.tbls b ps e;obtain⟨m2,e2⟩:=tbls b _ e1;exact⟨m1++m2,by rw[e2,Array.append_assoc]⟩
 ·obtain⟨m,hn,hl⟩:=I.loc;refine⟨m,ns m hn,fun i x v e1 e2 e3=>?_⟩;obtain⟨u,r,l⟩:=hl i x v e1 e2 e3;refine⟨u,r,?_⟩
  rcases l with l|⟨k,c,e,z⟩
  ·exact .inl l
  ·exact .inr ⟨k,c,e,cellK x c e _ z⟩
 ·obtain⟨v,z⟩:=I.cell x c e;exact⟨v,cellK x c e v z⟩
 ·obtain⟨m,⟨o,_,_,ho,_⟩,_⟩:=I.loc;exact free _ o (fun z=>(hch _ z).2.1 rfl) ho I.free
 ·obtain⟨v,o,ho,hd⟩:=I.cell x c e;exact free c o (fun z=>(hch c z).2.2.1 x c e rfl) ho (I.freeC x c e)
 ·obtain⟨e,n,ne,nf,d⟩:=I.pin p hp;have nch:p.1∉ch:=fun z=>(hch p.1 z).2.2.2 p hp rfl
  exact⟨keep p.1 p.2 ne nf nch e n,free p.1 p.2 nch e n,ne,nf,d⟩
theorem Inv.un{t':Nat}(I:Inv X pins σ H s)(u:Un X.fs [] H H' s.heap h')(hok:HOk X.prog X.w H' h'):Inv X pins σ H' { s with heap:=h',toks:=t' }:=by
 obtain⟨m,⟨o,es,ep,ho,r⟩,_⟩:=id I.loc;obtain⟨sl,hL⟩:=u.any ho I.free (by simp);exact I.step (g':=s.gens) (d':=s.drawn) (ch:=[]) (fun _ z=>nomatch z) (fun b o _ hb _ e n=>u.keep b o e n hb (by simp)) (fun b o _ hb _ e n=>u.slot b o e n hb (by simp)) (fun b o _ e n=>u.free b o e n (by simp)) (fun b o _ e=>u.there b o e (by simp)) u.tups u.frzs u.tbls (fun m' hm=>by
  obtain⟨o',es',ep',ho',r'⟩:=hm;rw[ho]at ho';cases ho';exact⟨_,es',ep',hL,r'⟩) hok I.bare
theorem Inv.call{g':Array GenState}{t':Nat}{d':Drawn}{ch:List Addr}(I:Inv X pins σ H s)(u:Un (frs X.stack) ch H H' s.heap h')(hok:HOk X.prog X.w H' h')(hg:AllBare g')
  (hch:∀ b∈ch,(b∈X.ex\/X.s₀.heap.objs.size<=b)/\b≠X.env.locals/\(∀ x c,X.env.cells.lookup x=some c->c≠b)/\∀ p∈X.pn++pins,p.1≠b) :
  Inv X pins σ H' { s with heap:=h',gens:=g',drawn:=d',toks:=t' }:=by
 obtain⟨m,⟨o,es,ep,ho,r⟩,_⟩:=id I.loc;obtain⟨sl,hL⟩:=u.any ho I.free fun z=>(hch _ z).2.1 rfl
 exact I.step (ch:=ch) hch (fun b o hL hb hc e n=>u.keep b o e n (fun z=>(wF.mp (I.stkSub b z)).elim hL hb) hc) (fun b o _ _ hc e n=>u.any e n hc) (fun b o hc e n=>u.free b o e n hc) (fun b o hc e=>u.there b o e hc) u.tups u.frzs u.tbls (fun m' hm=>by
  obtain⟨o',es',ep',ho',r'⟩:=hm;rw[ho]at ho';cases ho';exact⟨_,es',ep',hL,r'⟩) hok hg
theorem Inv.turned{t':Nat}{it:Addr}(I:Inv X pins σ H s)(k:∀ b o,b≠it->s.heap.get? b=some o->h'.get? b=some o)(hn:H it=none)(hL:it≠X.env.locals)
  (h1:it∈X.ex\/X.s₀.heap.objs.size<=it) (h2:∀ x c,X.env.cells.lookup x=some c->c≠it) (h3:∀ p∈X.pn++pins,p.1≠it):Inv X pins σ H { s with heap:=h',toks:=t' }:=by
 have nit:∀ b u,H b=some u->b≠it:=fun b u e z=>by rw[z,hn]at e;cases e
 refine I.step (g':=s.gens) (d':=s.drawn) (ch:=[it]) (fun b hb=>?_) (fun b o _ _ hc e _=>k b o (fun z=>hc (by simp[z])) e) (fun b o _ _ hc e _=>⟨o.slots,k b o (fun z=>hc (by simp[z])) e⟩) (fun _ _ _ _ n=>n)
  (fun b o hc e=>⟨o,k b o (fun z=>hc (by simp[z])) e⟩) (fun _ _ e=>e) (fun _ _ _ e=>e) (fun b ps e=>⟨#[],by rw[e];simp⟩) (fun m hm=>?_) (fun b u e=>?_) I.bare
 ·have e:b=it:=by simpa using hb
  subst e;exact⟨h1,hL,h2,h3⟩
 ·obtain⟨o,es,ep,ho,r⟩:=hm;exact⟨o,es,ep,k _ o (Ne.symm hL) ho,r⟩
 ·refine(I.hok b u e).stay (fun c v hc q=>k c v ?_ q) (fun _ q=>q) fun _ _ q=>q
  rcases hc with z|z
  ·rw[z];exact nit b u e
  ·exact nit c _ z
theorem Inv.tok(I:Inv X pins σ H s)(t:Nat):Inv X pins σ H { s with toks:=t }:=I.un (h':=s.heap) (t':=t) Un.refl I.hok
theorem Inv.kept{t':Nat}(I:Inv X pins σ H s)(k:∀ b u,s.heap.get? b=some u->h'.get? b=some u):Inv X pins σ H { s with heap:=h',toks:=t' }:=I.un (Un.kept k) (I.hok.kept k)
theorem Inv.laid{a:Addr}{o:HO}{t':Nat}(I:Inv X pins σ H s)(k:∀ b u,s.heap.get? b=some u->h'.get? b=some u)(hp:s.heap.objs.size<=a)(new:kas X.prog X.w (upd H a o) h' a o) :
  Inv X pins σ (upd H a o) { s with heap:=h',toks:=t' }:=I.un (Un.laid k hp (I.hok.fresh hp)) (I.hok.laid k hp new)
theorem Inv.write{x e:Addr}{o:HO}{t':Nat}(I:Inv X pins σ H s)(mu:Mut (H x))(he:e=x\/H e=some (.own x))(k:∀ b u,b≠e->s.heap.get? b=some u->h'.get? b=some u)(heo:∃ u,h'.get? e=some u)
  (new:kas X.prog X.w (upd H x o) h' x o):Inv X pins σ (upd H x o) { s with heap:=h',toks:=t' }:=I.un (Un.write mu he k heo) (I.hok.write mu he k heo new)
theorem Inv.weak{σ':List (Option V)}(I:Inv X pins σ H s)(hl:σ'.length=σ.length)(w:∀(i:Nat) v,σ'[i]?=some (some v)->σ[i]?=some (some v)):Inv X pins σ' H s :=
 ⟨I.ok,I.os,I.bare,I.base,let ⟨m,hn,hl'⟩:=I.loc;⟨m,hn,fun i x v e1 e2 e3=>hl' i x v e1 (w i v e2) e3⟩,I.cell,I.free,I.freeC,I.pin,I.hok,hl.trans I.len⟩
theorem Inv.pins_of{pins':List (Addr×Obj)}(I:Inv X pins σ H s)(h:∀ p∈pins',s.heap.get? p.1=some p.2/\H p.1=none/\p.1≠X.env.locals/\p.1∉X.fs/\∀ v,p.2.data≠.cell v):Inv X pins' σ H s :=
 ⟨I.ok,I.os,I.bare,I.base,I.loc,I.cell,I.free,I.freeC,fun p hp=>(wt.mp hp).elim (fun z=>I.pin p (wP _ z)) (h p),I.hok,I.len⟩
theorem zbF{N:List Str}(hN:N.Nodup){i j:Nat}{x:Str}(a:N[i]?=some x)(b:N[j]?=some x):i=j:=by
 obtain⟨h1,e1⟩:=wp.mp a;obtain⟨h2,e2⟩:=wp.mp b;exact(List.getElem_inj hN).mp (e1.trans e2.symm)
theorem Qh{M:Model}{A:Around}{E:Value->Shared->Prop}{i:Nat}{x:Str}{v:V}{u:Value}{Q:Unit->Shared->Prop}(I:Inv X pins σ H s)(hN:X.N.Nodup)(hi:X.N[i]?=some x)(hx:Loc X.env.scope x)(r:RelV v u)
  (h:∀ s',Inv X pins (σ.set i (some v)) H s'->(∃ a,Heap.SameBut a s.heap s'.heap/\(a=X.env.locals\/X.env.cells.lookup x=some a))->Q () s') (hf:X.fn x=true\/X.env.scope.names.lookup x=some .local:=by first|exact .inl rfl|exact .inr rfl|assumption):wpAny M A (storeName X.env x u) Q E s:=by
 obtain⟨m,hn,hl⟩:=id I.loc;have hcls:(X.env.scope.kind == .class || (X.env.scope.kind == .module && X.env.locals != X.env.globals))=false:=by rw[I.ok.kind];rfl
 have hiσ:i<σ.length:=by rw[I.len];exact(wp.mp hi).1
 have cne:=I.cne;have tracked:∀ {a:Addr} {h':Heap},(∃ o,s.heap.get? a=some o/\H a=none)->Heap.SameBut a s.heap h'->HOk X.prog X.w H h':=fun {a h'} ha hs b ob e=>by
  obtain⟨_,_,hfree⟩:=ha;refine(I.hok b ob e).stay (fun c w' hc q=>(hs.2 c ?_).trans q) (fun _ q=>q) fun _ _ q=>q
  rintro rfl
  rcases hc with rfl|hc
  ·rw[hfree]at e;cases e
  ·rw[hfree]at hc;cases hc
 rcases hx with hk|hk
 ·refine wpAny_storeName_local hk hn (fun h' hn' hs=>?_) hcls;obtain⟨oL,_,_,hoL,_⟩:=id hn;refine h _ ⟨I.ok,I.os,I.bare,⟨fun b o e n hb hx=>?_,fun b o e n hb hx=>?_,I.base.free,fun b o e hx=>?_,I.base.tups,I.base.frzs,I.base.tbls⟩,⟨_,hn',fun j y v' e1 e2 e3=>?_⟩,fun y c e=>?_,I.free,I.freeC,fun p hp=>?_,tracked ⟨oL,hoL,I.free⟩ hs,by simpa using I.len⟩ ⟨_,hs,.inl rfl⟩
  ·exact(hs.2 b (wU (wL (Heap.lt_size e) I.ok.above))).trans (I.base.keep b o e n hb hx)
  ·obtain⟨sl,e1⟩:=I.base.slot b o e n hb hx;exact⟨sl,(hs.2 b (wU (wL (Heap.lt_size e) I.ok.above))).trans e1⟩
  ·obtain⟨o',e1⟩:=I.base.there b o e hx;exact⟨o',(hs.2 b (wU (wL (Heap.lt_size e) I.ok.above))).trans e1⟩
  ·by_cases hj:j=i
   ·subst hj;rw[hi]at e1;cases e1;rw[uJ hiσ]at e2;cases e2;exact⟨u,r,.inl ⟨hk,by simp⟩⟩
   ·rw[gK (Ne.symm hj)]at e2;obtain⟨u',r',q⟩:=hl j y v' e1 e2 e3;refine⟨u',r',?_⟩
    rcases q with⟨k,e⟩|⟨k,c,e,z⟩
    ·refine .inl ⟨k,?_⟩;have:y≠x:=fun e=>hj (zbF hN e1 (e ▸ hi))
     simp[this,e]
    ·exact .inr ⟨k,c,e,z.sameBut hs (cne y c e)⟩
  ·obtain⟨w',z⟩:=I.cell y c e;exact⟨w',z.sameBut hs (cne y c e)⟩
  ·obtain⟨e,n,ne,nf,d⟩:=I.pin p hp;exact⟨(hs.2 p.1 ne).trans e,n,ne,nf,d⟩
 ·have hfn:X.fn x=true:=by
   rcases hf with z|z
   ·exact z
   ·rw[z]at hk;cases hk
  obtain⟨c,hc⟩:=I.ok.has x (.inl hk);obtain⟨w',z⟩:=I.cell x c hc;refine wpAny_storeName_cell I.ok.kind hk hc z (fun h' hc' hs=>?_);obtain⟨oc,hoc,hocd⟩:=id z;refine h { s with heap:=h' } ⟨I.ok,I.os,I.bare,⟨fun b o e n hb hx=>?_,fun b o e n hb hx=>?_,I.base.free,fun b o e hx=>?_,I.base.tups,I.base.frzs,I.base.tbls⟩,⟨m,hn.sameBut hs (Ne.symm (cne x c hc)),fun j y v' e1 e2 e3=>?_⟩,fun y c' e=>?_,I.free,I.freeC,fun p hp=>?_,tracked ⟨oc,hoc,I.freeC x c hc⟩ hs,by simpa using I.len⟩ ⟨c,hs,.inr hc⟩
  ·exact(hs.2 b (wU (wL (Heap.lt_size e) (I.ok.cab x c hfn hc)))).trans (I.base.keep b o e n hb hx)
  ·obtain⟨sl,e1⟩:=I.base.slot b o e n hb hx;exact⟨sl,(hs.2 b (wU (wL (Heap.lt_size e) (I.ok.cab x c hfn hc)))).trans e1⟩
  ·obtain⟨o',e1⟩:=I.base.there b o e hx;exact⟨o',(hs.2 b (wU (wL (Heap.lt_size e) (I.ok.cab x c hfn hc)))).trans e1⟩
  ·by_cases hj:j=i
   ·subst hj;rw[hi]at e1;cases e1;rw[uJ hiσ]at e2;cases e2;exact⟨u,r,.inr ⟨.inl hk,c,hc,hc'⟩⟩
   ·rw[gK (Ne.symm hj)]at e2;obtain⟨u',r',q⟩:=hl j y v' e1 e2 e3;refine⟨u',r',?_⟩
    rcases q with q|⟨k,c',e,z'⟩
    ·exact .inl q
    ·refine .inr ⟨k,c',e,z'.sameBut hs ?_⟩
     rintro rfl
     exact hj (zbF hN e1 (I.ok.inj _ _ _ e hc ▸ hi))
  ·by_cases hcc:c'=c
   ·subst hcc;exact⟨_,hc'⟩
   ·obtain⟨w2,z2⟩:=I.cell y c' e;exact⟨w2,z2.sameBut hs hcc⟩
  ·obtain⟨e,n,ne,nf,d⟩:=I.pin p hp;refine⟨(hs.2 p.1 ?_).trans e,n,ne,nf,d⟩;intro q;rw[q,hoc]at e;have q':oc=p.2:=Option.some.inj e;exact d w' (by rw[← q'];exact hocd)
theorem qJ{M:Model}{A:Around}{E:Value->Shared->Prop}{i:Nat}{x:Str}{v:V}{u:Value}{Q:Unit->Shared->Prop}(I:Inv X pins σ H s)(hN:X.N.Nodup)(hi:X.N[i]?=some x)(hx:Loc X.env.scope x)(r:RelV v u)
  (h:∀ s',Inv X pins (σ.set i (some v)) H s'->Q () s') (hf:X.fn x=true\/X.env.scope.names.lookup x=some .local:=by first|exact .inl rfl|exact .inr rfl|assumption):wpAny M A (storeName X.env x u) Q E s :=
 Qh I hN hi hx r (fun s' I' _=>h s' I') hf
theorem Inv.call'{s':Shared}{ch:List Addr}(I:Inv X pins σ H s)(ho:s'.os=s.os)(u:Un (frs X.stack) ch H H' s.heap s'.heap)(hok:HOk X.prog X.w H' s'.heap)(hg:AllBare s'.gens)
  (hch:∀ b∈ch,(b∈X.ex\/X.s₀.heap.objs.size<=b)/\b≠X.env.locals/\(∀ x c,X.env.cells.lookup x=some c->c≠b)/\∀ p∈X.pn++pins,p.1≠b):Inv X pins σ H' s':=by
 obtain⟨h',g',d',t',o'⟩:=s';have e:o'=s.os:=ho;subst e;exact I.call (g':=g') (t':=t') (d':=d') u hok hg hch
end
abbrev XK:=Value->Option Addr->Hp->Prop
abbrev St:=List (Option V)
abbrev VK:=V->Hp->Prop
abbrev TE:=St->Hp->VK->Prop
abbrev TT:=St->Hp->(Bool->Hp->Prop)->Prop
abbrev TA:=St->Hp->(List V->Hp->Prop)->Prop
structure Ends where
 nx:St->Hp->Prop
 rt:VK
 bk:St->Hp->Prop:=fun _ _=>False
 ct:St->Hp->Prop:=fun _ _=>False
abbrev TS:=Ends->St->Hp->Prop
def EP(X:Cx)(pins:List (Addr×Obj))(σ:St)(Q:VK)(u:Value)(s':Shared):Prop:=∃ v H',Inv X pins σ H' s'/\RelV v u/\Q v H'
def TP(X:Cx)(pins:List (Addr×Obj))(σ:St)(Q:Bool->Hp->Prop)(b:Bool)(s':Shared):Prop:=∃ H',Inv X pins σ H' s'/\Q b H'
def AP(X:Cx)(pins:List (Addr×Obj))(σ:St)(Q:List V->Hp->Prop)(us:List Value)(s':Shared):Prop:=∃ vs H',Inv X pins σ H' s'/\Vals vs us/\Q vs H'
def SP(X:Cx)(pins:List (Addr×Obj))(D:Ends)(f:Flow)(s':Shared):Prop :=
 match f with
 | .next=>∃ σ' H',Inv X pins σ' H' s'/\D.nx σ' H'
 | .brk=>∃ σ' H',Inv X pins σ' H' s'/\D.bk σ' H'
 | .cont=>∃ σ' H',Inv X pins σ' H' s'/\D.ct σ' H'
 | .ret u=>∃ v σ' H',Inv X pins σ' H' s'/\RelV v u/\D.rt v H'
def PE(X:Cx)(e:Expr)(t:TE):Prop :=
 ∀(pins:List (Addr×Obj))(s:Shared)(σ:St)(H:Hp)(Q:VK),Inv X pins σ H s->t σ H Q->wpAny (model X.prog X.w) X.A (eval e X.env) (EP X pins σ Q) X.xe s
def PT(X:Cx)(e:Expr)(t:TT):Prop :=
 ∀(pins:List (Addr×Obj))(s:Shared)(σ:St)(H:Hp)(Q:Bool->Hp->Prop),Inv X pins σ H s->t σ H Q->wpAny (model X.prog X.w) X.A (isTrue e X.env (eval e X.env)) (TP X pins σ Q) X.xe s
def PW(X:Cx)(e:Expr)(t:TT):Prop :=
 ∀(whole:Sem Value)(pins:List (Addr×Obj))(s:Shared)(σ:St)(H:Hp)(Q:Bool->Hp->Prop),Inv X pins σ H s->t σ H Q->wpAny (model X.prog X.w) X.A (isTrue e X.env whole) (TP X pins σ Q) X.xe s
theorem PW.pt{X:Cx}{e:Expr}{t:TT}(h:PW X e t):PT X e t:=h _
def PA(X:Cx)(es:List Expr)(t:TA):Prop :=
 ∀(pos:Pos)(pins:List (Addr×Obj))(s:Shared)(σ:St)(H:Hp)(Q:List V->Hp->Prop),Inv X pins σ H s->t σ H Q->wpAny (model X.prog X.w) X.A (spliced (backTo pos (starEach es X.env))) (AP X pins σ Q) X.xe s
def PS(X:Cx)(st:Stmt)(t:TS):Prop :=
 ∀(pins:List (Addr×Obj))(s:Shared)(σ:St)(H:Hp)(D:Ends),Inv X pins σ H s->t D σ H->wpAny (model X.prog X.w) X.A (exec st X.env) (SP X pins D) X.xe s
def PSs(X:Cx)(st:List Stmt)(t:TS):Prop :=
 ∀(pins:List (Addr×Obj))(s:Shared)(σ:St)(H:Hp)(D:Ends),Inv X pins σ H s->t D σ H->wpAny (model X.prog X.w) X.A (execs st X.env) (SP X pins D) X.xe s
theorem thn{α:Type}{t:Sem α}{Q Q':α->Shared->Prop}{M:Model}{A:Around}{E:Value->Shared->Prop}{s:Shared}(h:wpAny M A t Q E s)(hQ:∀ a s,Q a s->Q' a s):wpAny M A t Q' E s:=wpAny_mono h hQ fun _ _ x=>x
end L2
namespace L2
open PySem PySem.Spec PyProof.Rows
section
variable{X:Cx}
inductive zfZ(i:Nat)(σ:St)(H:Hp)(Q:VK):Prop where
 | mk (v:V) (h0_:σ[i]?=some (some v)) (h1_:Q v H):zfZ i σ H Q
def tVar(i:Nat):TE:=fun σ H Q=>zfZ i σ H Q
def tC(v:V):TE:=fun _ H Q=>Q v H
theorem zhB {i:Nat} {x:Str} {pos:Pos} (hN:X.N[i]?=some x) (hv:Vis X.env.scope x) (hd:(x ==("__debug__" : Str))=false:=by decide) (hcd:(x ==("__classdict__" : Str))=false:=by decide):PE X (.Name x pos) (tVar i):=by
 intro pins s σ H Q I h;obtain⟨v,e,h⟩:=h;obtain⟨m,hn,hl⟩:=I.loc;obtain⟨u,r,l⟩:=hl i x v hN e hv;have fin:EP X pins σ Q u s:=⟨v,H,I,r,h⟩
 rcases l with⟨hk,hm⟩|⟨hk,c,hc,hcell⟩
 ·exact wpAny_Name (wpAny_loadName_local I.ok.kind hk hn hm fin) hd
 ·rcases hk with hk|hk
  ·exact wpAny_Name (wpAny_loadName_cell I.ok.kind hk hc hcell fin) hd
  ·exact wpAny_Name (wpAny_loadName_free I.ok.kind hk hc hcell fin hcd) hd
theorem ze{i j pos}:PE X (.Constant (.int i) j pos) (tC (.int i)):=fun _ _ _ H _ I h=>wpAny_Constant_int ⟨.int i,H,I.tok _,⟨_,rfl⟩,h⟩
theorem ZN{b j pos}:PE X (.Constant (.bool b) j pos) (tC (.bl b)):=fun _ _ _ H _ I h=>Constant_bool ⟨.bl b,H,I,rfl,h⟩
theorem zdR{j pos}:PE X (.Constant .none j pos) (tC .non):=fun _ _ _ H _ I h=>Constant_none ⟨.non,H,I,rfl,h⟩
theorem XJ{x j pos}:PE X (.Constant (.str x) j pos) (tC (.str x)):=fun _ _ _ H _ I h=>Calls.Constant_str ⟨.str x,H,I.tok _,⟨_,rfl⟩,h⟩
def Gl(X:Cx)(x:Str):Prop:=X.env.kindOf x=some .globalImplicit
theorem zg6{E:Value->Shared->Prop}{pins:List (Addr×Obj)}{s:Shared}{σ:St}{H:Hp}{x:Str}{u:Value}{pos:Pos}{Q:Value->Shared->Prop}(I:Inv X pins σ H s)(hg:Gl X x)(hm:X.mg x=some u)(h:Q u s)
  (hd:(x ==("__debug__" : Str))=false:=by decide):wpAny (model X.prog X.w) X.A (eval (.Name x pos) X.env) Q E s :=
 Calls.Name_function_global I.ok.kind hg (Calls.loadGlobal_global (by rw[I.ok.glob];exact I.mod.glob.keeps I.bk) hm h) hd
theorem Qm{E:Value->Shared->Prop}{pins:List (Addr×Obj)}{s:Shared}{σ:St}{H:Hp}{x:Str}{u:Value}{pos:Pos}{Q:Value->Shared->Prop}(I:Inv X pins σ H s)(hg:Gl X x)(hm:X.mg x=none)(hv:bootBuiltins x=some u)(h:Q u s)
  (hn:x ≠ "__name__" := by decide) (hd:(x ==("__debug__" : Str))=false:=by decide):wpAny (model X.prog X.w) X.A (eval (.Name x pos) X.env) Q E s:=by
 obtain⟨mb,h1,h2⟩:=I.mod.blt;exact Calls.Name_function_global I.ok.kind hg (Calls.loadGlobal_builtin (by rw[I.ok.glob];exact I.mod.glob.keeps I.bk) hm (by rw[I.ok.blt];exact h1.keeps I.bk) ((h2 x hn).trans hv) h) hd
theorem zgU {x:Str} {v:V} {u:Value} {pos:Pos} (hg:Gl X x) (hm:X.mg x=none) (hv:bootBuiltins x=some u) (r:RelV v u) (hn:x ≠ "__name__" := by decide) (hd:(x ==("__debug__" : Str))=false:=by decide):PE X (.Name x pos) (tC v) :=
 fun _ _ _ H _ I h=>Qm I hg hm hv ⟨v,H,I,r,h⟩ hn hd
variable{a b:Expr}{ta tb:TE}{pos:Pos}
inductive I_tB(x:V)(H1:Hp)(Q:Bool->Hp->Prop):Prop where
 | mk (c:Bool) (h0_:x=.bl c) (h1_:Q c H1):I_tB x H1 Q
def tB(t:TE):TT:=fun σ H Q=>t σ H fun x H1=>I_tB x H1 Q
theorem yT{e:Expr}{t:TE}(h:PE X e t)(he:∀ whole,isTrue e X.env whole =(do let v ← whole;standAt e.pos;holding [v] (truthy v)):=by intro _;rfl):PT X e (tB t):=by
 intro pins s σ H Q I hw;refine isTrue_plain (thn (h pins s σ H _ I hw) fun v s1 ⟨x,H1,I1,r1,q1⟩=>?_) (he _);obtain⟨d,rfl,q⟩:=q1;cases r1;exact wpAny_truthy_bool ⟨H1,I1,q⟩
variable{tA tB':TT}{rest:List Expr}
def tAnd(t u:TT):TT:=fun σ H Q=>t σ H fun c H1=>if c=true then u σ H1 Q else Q false H1
def tOr(t u:TT):TT:=fun σ H Q=>t σ H fun c H1=>if c=true then Q true H1 else u σ H1 Q
def tNot(t:TT):TT:=fun σ H Q=>t σ H fun c H1=>Q (!c) H1
theorem pw_and1(ha:PT X a tA):PW X (.BoolOp .And [a] pos) tA:=by
 intro wh pins s σ H Q I h;refine isTrue_and (thn (ha pins s σ H Q I h) fun c s1 e=>?_);cases c with
 | true=>exact isTrue_and_nil e
 | false=>exact e
theorem pw_or1(ha:PT X a tA):PW X (.BoolOp .Or [a] pos) tA:=by
 intro wh pins s σ H Q I h;refine isTrue_or (thn (ha pins s σ H Q I h) fun c s1 e=>?_);cases c with
 | false=>exact isTrue_or_nil e
 | true=>exact e
theorem pw_and(ha:PT X a tA)(hb:PW X (.BoolOp .And (b::rest) pos) tB'):PW X (.BoolOp .And (a::b::rest) pos) (tAnd tA tB'):=by
 intro wh pins s σ H Q I h;refine isTrue_and (thn (ha pins s σ H _ I h) fun c s1 ⟨H1,I1,q1⟩=>?_);cases c with
 | true=>exact hb wh pins s1 σ H1 Q I1 q1
 | false=>exact⟨H1,I1,q1⟩
theorem pw_or(ha:PT X a tA)(hb:PW X (.BoolOp .Or (b::rest) pos) tB'):PW X (.BoolOp .Or (a::b::rest) pos) (tOr tA tB'):=by
 intro wh pins s σ H Q I h;refine isTrue_or (thn (ha pins s σ H _ I h) fun c s1 ⟨H1,I1,q1⟩=>?_);cases c with
 | true=>exact⟨H1,I1,q1⟩
 | false=>exact hb wh pins s1 σ H1 Q I1 q1
theorem xB(ha:PT X a tA):PT X (.UnaryOp .Not a pos) (tNot tA):=by
 intro pins s σ H Q I h;exact isTrue_not (ha pins s σ H (fun c H1=>Q (!c) H1) I h)
def tAndV(ta tb:TE):TE:=fun σ H Q=>ta σ H fun x H1=>∃ c,x=.bl c/\if c=true then tb σ H1 Q else Q (.bl false) H1
def tOrV(ta tb:TE):TE:=fun σ H Q=>ta σ H fun x H1=>∃ c,x=.bl c/\if c=true then Q (.bl true) H1 else tb σ H1 Q
def tNotV(ta:TE):TE:=fun σ H Q=>ta σ H fun x H1=>∃ c,x=.bl c/\Q (.bl (!c)) H1
theorem ZH{op}{t:TE}(h:PE X a t):PE X (.BoolOp op [a] pos) t:=fun pins s σ H Q I hw=>BoolOp_one (h pins s σ H Q I hw)
theorem Yr(ha:PE X a ta)(hb:PE X (.BoolOp .And (b::rest) pos) tb):PE X (.BoolOp .And (a::b::rest) pos) (tAndV ta tb):=by
 intro pins s σ H Q I h;refine BoolOp_and (thn (ha pins s σ H _ I h) fun v s1 ⟨x,H1,I1,r1,q1⟩=>?_);obtain⟨c,rfl,q1⟩:=q1;cases r1;refine wpAny_truthy_bool ?_;cases c with
 | true=>exact hb pins s1 σ H1 Q I1 q1
 | false=>exact⟨.bl false,H1,I1,rfl,q1⟩
theorem zh5(ha:PE X a ta)(hb:PE X (.BoolOp .Or (b::rest) pos) tb):PE X (.BoolOp .Or (a::b::rest) pos) (tOrV ta tb):=by
 intro pins s σ H Q I h;refine BoolOp_or (thn (ha pins s σ H _ I h) fun v s1 ⟨x,H1,I1,r1,q1⟩=>?_);obtain⟨c,rfl,q1⟩:=q1;cases r1;refine wpAny_truthy_bool ?_;cases c with
 | false=>exact hb pins s1 σ H1 Q I1 q1
 | true=>exact⟨.bl true,H1,I1,rfl,q1⟩
theorem zf1(ha:PE X a ta):PE X (.UnaryOp .Not a pos) (tNotV ta):=by
 intro pins s σ H Q I h;refine UnaryOp_ (thn (ha pins s σ H _ I h) fun v s1 ⟨x,H1,I1,r1,q1⟩=>?_);obtain⟨c,rfl,q1⟩:=q1;cases r1;exact not_of (wpAny_truthy_bool ⟨.bl (!c),H1,I1,rfl,q1⟩)
def tIf(t:TT)(ta tb:TE):TE:=fun σ H Q=>t σ H fun c H1=>if c=true then ta σ H1 Q else tb σ H1 Q
theorem Jo{c:Expr}(hc:PT X c tA)(ha:PE X a ta)(hb:PE X b tb):PE X (.IfExp c a b pos) (tIf tA ta tb):=by
 intro pins s σ H Q I h;refine wpAny_IfExp (thn (hc pins s σ H _ I h) fun d s1 ⟨H1,I1,q1⟩=>?_);cases d with
 | true=>exact ha pins s1 σ H1 Q I1 q1
 | false=>exact hb pins s1 σ H1 Q I1 q1
end
end L2
namespace L2
open PySem PySem.Spec PyProof.Rows
def SqL(K:PySem.W.Frag)(H:Hp)(a:Addr)(xs:List V):Prop :=
 Rd H a (.lst xs) \/
  ∃(o:Obj)(its:Array Value)(n:Nat),K.lookup a=some o/\o.cls=.type "list" /\ o.dict=none/\o.data=.seq its n/\its.size<=sizeLine/\Vals xs its.toList
def SqT(K:PySem.W.Frag)(H:Hp)(a:Addr)(xs:List V):Prop :=
 Rd H a (.tup xs) \/
  ∃(o:Obj)(its:Array Value)(n:Nat),K.lookup a=some o/\o.cls=.type "tuple" /\ o.data=.seq its n/\its.size<=sizeLine/\Vals xs its.toList
def absV:Value->Option V
 | .none=>some .non
 | .bool b=>some (.bl b)
 | .int i _=>some (.int i)
 | .str x _=>some (.str x)
 | .bytes b _=>some (.byt b)
 | .float b _=>some (.flt b)
 | .ref a=>some (.ref a)
 | .type n=>some (.ty n)
 | _=>none
theorem RelV.abs{x:V}{u:Value}(r:RelV x u):absV u=some x:=by
 cases x with
 | non=>cases r;rfl
 | bl _=>cases r;rfl
 | int _=>obtain⟨t,rfl⟩:=r;rfl
 | str _=>obtain⟨t,rfl⟩:=r;rfl
 | byt _=>obtain⟨t,rfl⟩:=r;rfl
 | flt _=>obtain⟨t,rfl⟩:=r;rfl
 | ref _=>cases r;rfl
 | ty _=>cases r;rfl
theorem RelV.inj{x y:V}{u:Value}(r:RelV x u)(q:RelV y u):x=y:=Option.some.inj (r.abs.symm.trans q.abs)
theorem Vals.inj:∀ {xs ys:List V} {us:List Value},Vals xs us->Vals ys us->xs=ys
 | _,_,_,.nil,.nil=>rfl
 | _,_,_,.cons r t,.cons r' t'=>by rw[r.inj r',Vals.inj t t']
section
variable{X:Cx}{pins:List (Addr×Obj)}{σ:St}{H:Hp}{s:Shared}{a:Addr}{xs ys:List V}
theorem SqL.of{K:PySem.W.Frag}(h:H a=some (.lst xs)):SqL K H a xs:=.inl (.inl h)
theorem SqT.of{K:PySem.W.Frag}(h:H a=some (.tup xs)):SqT K H a xs:=.inl (.inl h)
theorem Inv.list(I:Inv X pins σ H s)(h:SqL X.K H a xs):∃ its:List Value,Vals xs its/\PlainL s.heap a its.toArray/\xs.length<=sizeLine:=by
 rcases h with h|⟨o,its,n,hk,hc,hd,hs,hz,r⟩
 ·obtain⟨z,its,n,r,e⟩:=h.ok I.hok;exact⟨its,r,⟨_,n,e,rfl,rfl,rfl⟩,z⟩
 ·refine⟨its.toList,r,⟨o,n,I.kIn a o hk,hc,hd,by simpa using hs⟩,?_⟩;have e:=r.length;simp only[Array.length_toList]at e;omega
theorem Inv.tuple(I:Inv X pins σ H s)(h:SqT X.K H a xs):∃ its:List Value,Vals xs its/\IsTup s.heap a its.toArray/\xs.length<=sizeLine:=by
 rcases h with h|⟨o,its,n,hk,hc,hs,hz,r⟩
 ·obtain⟨z,its,r,p⟩:=h.ok I.hok;exact⟨its,r,p,z⟩
 ·refine⟨its.toList,r,⟨o,I.kIn a o hk,hc,n,by simpa using hs⟩,?_⟩;have e:=r.length;simp only[Array.length_toList]at e;omega
theorem Inv.list_inj(I:Inv X pins σ H s)(h:SqL X.K H a xs)(h':SqL X.K H a ys):xs=ys:=by
 obtain⟨its,r,⟨o,n,e,_,_,d⟩,_⟩:=I.list h;obtain⟨its',r',⟨o',n',e',_,_,d'⟩,_⟩:=I.list h';rw[e]at e';cases e';rw[d]at d'
 injection d' with d1 _
 have:its=its':=by simpa using congrArg Array.toList d1
 subst this;exact r.inj r'
end
abbrev Cx.wish(X:Cx)(E:Value->Shared->Prop):Cx:={ X with xe:=E }
abbrev Cx.nox(X:Cx):Cx:=X.wish fun _ _=>False
theorem Cx.Ok.wish{X:Cx}(ok:X.Ok)(E:Value->Shared->Prop):(X.wish E).Ok :=
 ⟨ok.mod,ok.kind,ok.glob,ok.blt,ok.above,ok.inj,ok.has,ok.cab,ok.hd,ok.frames,ok.stk,ok.exf,ok.bs,ok.bsz,ok.noex,ok.exfs,ok.funs,ok.frf⟩
theorem Cx.Ok.unwish{X:Cx}{E:Value->Shared->Prop}(ok:(X.wish E).Ok):X.Ok :=
 ⟨ok.mod,ok.kind,ok.glob,ok.blt,ok.above,ok.inj,ok.has,ok.cab,ok.hd,ok.frames,ok.stk,ok.exf,ok.bs,ok.bsz,ok.noex,ok.exfs,ok.funs,ok.frf⟩
section
variable{X:Cx}{pins:List (Addr×Obj)}{σ:St}{H:Hp}{s:Shared}{E:Value->Shared->Prop}
theorem Inv.wish(I:Inv X pins σ H s)(E:Value->Shared->Prop):Inv (X.wish E) pins σ H s:=⟨I.ok.wish E,I.os,I.bare,I.base,I.loc,I.cell,I.free,I.freeC,I.pin,I.hok,I.len⟩
theorem Inv.unwish(I:Inv (X.wish E) pins σ H s):Inv X pins σ H s:=⟨I.ok.unwish,I.os,I.bare,I.base,I.loc,I.cell,I.free,I.freeC,I.pin,I.hok,I.len⟩
theorem SP.unwish{D:Ends}{f:Flow}{s':Shared}(h:SP (X.wish E) pins D f s'):SP X pins D f s':=by
 cases f with
 | next=>obtain⟨σ',H',I,q⟩:=h;exact⟨σ',H',I.unwish,q⟩
 | brk=>obtain⟨σ',H',I,q⟩:=h;exact⟨σ',H',I.unwish,q⟩
 | cont=>obtain⟨σ',H',I,q⟩:=h;exact⟨σ',H',I.unwish,q⟩
 | ret u=>obtain⟨v,σ',H',I,r,q⟩:=h;exact⟨v,σ',H',I.unwish,r,q⟩
theorem PSs.nox{st:List Stmt}{t:TS}(h:PSs X.nox st t):PSs X st t:=fun pins s σ H D I hw =>
 wpAny_mono (h pins s σ H D (I.wish _) hw) (fun _ _ q=>q.unwish) fun _ _ z=>False.elim z
end
section
variable{X:Cx}{st:Stmt}{rest:List Stmt}{t u:TS}{e:Expr}{te:TE}{pos:Pos}
def tNext:TS:=fun D σ H=>D.nx σ H
def tSeq(t u:TS):TS:=fun D σ H=>t { D with nx:=u D } σ H
theorem zJ:PSs X [] tNext:=fun _ _ σ H _ I h=>wpAny_execs_nil ⟨σ,H,I,h⟩
theorem zc(h1:PS X st t)(h2:PSs X rest u):PSs X (st::rest) (tSeq t u):=by
 intro pins s σ H D I h;refine wpAny_execs_cons (thn (h1 pins s σ H { D with nx:=u D } I h) fun f s1 q=>?_);cases f with
 | next =>
  obtain⟨σ',H',I',q⟩:=q;exact h2 pins s1 σ' H' D I' q
 | ret v=>exact q
 | brk=>exact q
 | cont=>exact q
theorem zh(h1:PS X st t):PSs X [st] t:=by
 intro pins s σ H D I h;refine wpAny_execs_cons (thn (h1 pins s σ H D I h) fun f s1 q=>?_);cases f with
 | next=>exact wpAny_execs_nil q
 | ret v=>exact q
 | brk=>exact q
 | cont=>exact q
theorem Inv.quiet{pins:List (Addr×Obj)}{σ:St}{H:Hp}{s:Shared}(I:Inv X pins σ H s):interactive X.env=false:=by simp[interactive,I.ok.kind]
def tDrop(te:TE):TS:=fun D σ H=>te σ H fun _ H1=>D.nx σ H1
theorem yS(he:PE X e te)(hs:swapsWith e none pos.line X.env=pure false:=by rfl):PS X (.Expr e pos) (tDrop te):=by
 intro pins s σ H D I h;exact wpAny_Expr_any (thn (he pins s σ H _ I h) fun v s1 ⟨x,H1,I1,r1,q1⟩=>⟨σ,H1,I1,q1⟩) I.quiet hs
def tRet(te:TE):TS:=fun D σ H=>te σ H D.rt
theorem zq(he:PE X e te):PS X (.Return (some e) pos) (tRet te):=by
 intro pins s σ H D I h;exact wpAny_Return_some (thn (he pins s σ H _ I h) fun v s1 ⟨x,H1,I1,r1,q1⟩=>⟨x,σ,H1,I1,r1,q1⟩)
def tIfS(c:TT)(t u:TS):TS:=fun D σ H=>c σ H fun b H1=>if b=true then t D σ H1 else u D σ H1
theorem yb{c:Expr}{a b:List Stmt}{tc:TT}(hc:PT X c tc)(ha:PSs X a t)(hb:PSs X b u):PS X (.If c a b pos) (tIfS tc t u):=by
 intro pins s σ H D I h;refine wpAny_If (thn (hc pins s σ H _ I h) fun d s1 ⟨H1,I1,q1⟩=>?_);cases d with
 | true=>exact ha pins s1 σ H1 D I1 q1
 | false=>exact hb pins s1 σ H1 D I1 q1
def tNever:TS:=fun _ _ _=>False
theorem ze1:PS X st tNever:=fun _ _ _ _ _ _ h=>h.elim
end
abbrev TG:=V->St->Hp->(St->Hp->Prop)->Prop
abbrev TGs:=List V->St->Hp->(St->Hp->Prop)->Prop
def PG(X:Cx)(target:Expr)(t:TG):Prop :=
 ∀(pins:List (Addr×Obj))(s:Shared)(σ:St)(H:Hp)(v:V)(u:Value)(Q:St->Hp->Prop),Inv X pins σ H s->RelV v u->t v σ H Q ->
  wpAny (model X.prog X.w) X.A (assign target X.env u) (fun _ s'=>∃ σ' H',Inv X pins σ' H' s'/\Q σ' H') X.xe s
def PGs(X:Cx)(ts:List Expr)(t:TGs):Prop :=
 ∀(pins:List (Addr×Obj))(s:Shared)(σ:St)(H:Hp)(vs:List V)(us:List Value)(Q:St->Hp->Prop),Inv X pins σ H s->Vals vs us->t vs σ H Q ->
  wpAny (model X.prog X.w) X.A (assignInOrder ((assignEach ts X.env).map (·.2)) us) (fun _ s'=>∃ σ' H',Inv X pins σ' H' s'/\Q σ' H') X.xe s
abbrev TSet:=V->V->V->Hp->(Hp->Prop)->Prop
def PSet(X:Cx)(t:TSet):Prop :=
 ∀(pins:List (Addr×Obj))(s:Shared)(σ:St)(H:Hp)(o i v:V)(ov iv u:Value)(Q:Hp->Prop),Inv X pins σ H s->RelV o ov->RelV i iv->RelV v u->t o i v H Q ->
  wpAny (model X.prog X.w) X.A (setItem ov iv u) (fun _ s'=>∃ H',Inv X pins σ H' s'/\Q H') X.xe s
abbrev TIp:=V->V->Hp->VK->Prop
def PIp(X:Cx)(op:Operator)(t:TIp):Prop :=
 ∀(pins:List (Addr×Obj))(s:Shared)(σ:St)(H:Hp)(x y:V)(v u:Value)(Q:VK),Inv X pins σ H s->RelV x v->RelV y u->t x y H Q ->
  wpAny (model X.prog X.w) X.A (inplaceOp op v u) (EP X pins σ Q) X.xe s
section
variable{X:Cx}{pos:Pos}
def gName(i:Nat):TG:=fun v σ H Q=>Q (σ.set i (some v)) H
theorem zI{i:Nat}{x:Str}(hN:X.N.Nodup)(hi:X.N[i]?=some x)(hx:Loc X.env.scope x)(hf:X.fn x=true\/X.env.scope.names.lookup x=some .local:=by first|exact .inl rfl|exact .inr rfl|assumption):PG X (.Name x pos) (gName i):=by
 intro pins s σ H v u Q I r h;exact wpAny_assign_Name (qJ I hN hi hx r (fun s' I'=>⟨_,H,I',h⟩) hf)
def gNil:TGs:=fun vs σ H Q=>vs=[]/\Q σ H
inductive zc2(t:TG)(u:TGs)(vs:List V)(σ:St)(H:Hp)(Q:St->Hp->Prop):Prop where
 | mk (v:V) (r:List V) (h0_:vs=v::r) (h1_:t v σ H fun σ' H'=>u r σ' H' Q):zc2 t u vs σ H Q
def gCons(t:TG)(u:TGs):TGs:=fun vs σ H Q=>zc2 t u vs σ H Q
theorem xF:PGs X [] gNil:=by
 intro pins s σ H vs us Q I r h;obtain⟨e,h⟩:=h;subst e;cases r;exact assignInOrder_nil ⟨σ,H,I,h⟩
theorem zT{e:Expr}{es:List Expr}{t:TG}{u:TGs}(h1:PG X e t)(h2:PGs X es u)
  (hs:(assignEach (e::es) X.env).map (·.2)=assign e X.env ::(assignEach es X.env).map (·.2):=by rfl):PGs X (e::es) (gCons t u):=by
 intro pins s σ H vs us Q I r h;obtain⟨v,vr,e1,h⟩:=h;subst e1;cases r with
 | cons r rr =>
  rw[hs];refine assignInOrder_cons (thn (h1 pins s σ H _ _ _ I r h) fun _ s1 ⟨σ1,H1,I1,q1⟩=>?_);exact h2 pins s1 σ1 H1 _ _ Q I1 rr q1
inductive zgq(K:PySem.W.Frag)(n:Nat)(t:TGs)(v:V)(σ:St)(H:Hp)(Q:St->Hp->Prop):Prop where
 | mk (a:Addr) (xs:List V) (h0_:v=.ref a) (h1_:SqT K H a xs) (h2_:xs.length=n) (h3_:t xs σ H Q):zgq K n t v σ H Q
def gTup(K:PySem.W.Frag)(n:Nat)(t:TGs):TG:=fun v σ H Q=>zgq K n t v σ H Q
theorem zhq{es:List Expr}{k:Nat}{t:TGs}{n:Nat}(hc:X.calm=true)(h:PGs X es t)
  (hn:(assignEach es X.env).length=n:=by rfl) (hst:(assignEach es X.env).findIdx? (·.1)=none:=by rfl):PG X (.Tuple es k pos) (gTup X.K n t):=by
 intro pins s σ H v u Q I r hw;obtain⟨a,xs,e1,hq,hl,hw⟩:=hw;subst e1;cases r;obtain⟨its,rv,ht,hz⟩:=I.tuple hq;refine assign_Tuple_tuple (I.ok.hd hc) ht (by simp[hn,← hl,rv.length]) hst fun h' hx=>?_
 have I1:Inv X pins σ H { s with heap:=h' }:=I.kept (t':=s.toks) fun b o e=>hx b o (wU (Heap.lt_size e)) e
 exact h pins _ σ H xs _ Q I1 (by simpa using rv) hw
def gSub(to ti:TE)(t:TSet):TG:=fun v σ H Q=>to σ H fun o H1=>ti σ H1 fun i H2=>t o i v H2 fun H3=>Q σ H3
theorem QF{o i:Expr}{to ti:TE}{t:TSet}(ho:PE X o to)(hi:PE X i ti)(hs:PSet X t)
  (ha:∀ v,assign (.Subscript o i pos) X.env v =(do
   let ov ← holding [v] (eval o X.env)
   let iv ← holding [v,ov] (eval i X.env)
   standAt pos
   holding [v,ov,iv] (setItem ov iv v)
   release [v,ov,iv] []):=by intro _;rfl):PG X (.Subscript o i pos) (gSub to ti t):=by
 intro pins s σ H v u Q I r h;rw[ha];refine wpAny_bind (wpAny_holding (thn (ho pins s σ H _ I h) fun ov s1 ⟨x,H1,I1,r1,q1⟩=>?_));refine wpAny_bind (wpAny_holding (thn (hi pins s1 σ H1 _ I1 q1) fun iv s2 ⟨y,H2,I2,r2,q2⟩=>?_));refine wpAny_bind (wpAny_standAt (wpAny_bind (wpAny_holding (thn (hs pins s2 σ H2 x y v ov iv u _ I2 r1 r2 r q2) fun _ s3 ⟨H3,I3,q3⟩=>?_))));exact wpAny_release ⟨σ,H3,I3,q3⟩
def tAsg(te:TE)(g:TG):TS:=fun D σ H=>te σ H fun x H1=>g x σ H1 D.nx
theorem qR{tg e:Expr}{te:TE}{g:TG}(he:PE X e te)(hg:PG X tg g)(hs:swapsWithSole [tg] e pos.line X.env=pure false:=by rfl)(hw:swappedStores [tg] e X.env=pure none:=by rfl)
  (h1:(assignEach [tg] X.env).map (·.2)=[assign tg X.env]:=by rfl):PS X (.Assign [tg] e pos) (tAsg te g):=by
 intro pins s σ H D I h;refine wpAny_Assign_stores (thn (he pins s σ H _ I h) fun v s1 ⟨x,H1,I1,r1,q1⟩=>?_) hs hw;rw[h1];exact thn (hg pins s1 σ H1 x v _ I1 r1 q1) fun _ s2 q=>q
theorem zo{i:Nat}{x:Str}{e:Expr}{te:TE}{pos':Pos}(hN:X.N.Nodup)(hi:X.N[i]?=some x)(hx:Loc X.env.scope x)(he:PE X e te)(hs:swapsWith e (some (.Name x pos')) pos.line X.env=pure false:=by rfl)(hf:X.fn x=true\/X.env.scope.names.lookup x=some .local:=by first|exact .inl rfl|exact .inr rfl|assumption) :
  PS X (.Assign [.Name x pos'] e pos) (tAsg te (gName i)):=by
 intro pins s σ H D I h;refine wpAny_Assign_Name (thn (he pins s σ H _ I h) fun v s1 ⟨y,H1,I1,r1,q1⟩=>?_) hs;exact qJ I1 hN hi hx r1 (fun s2 I2=>⟨_,H1,I2,q1⟩) hf
def tPar(i j:Nat)(ta:TA):TS:=fun D σ H=>ta σ H fun vs H1=>∃ v w,vs=[v,w]/\D.nx ((σ.set i (some v)).set j (some w)) H1
theorem zhi{i j:Nat}{x y:Str}{a b:Expr}{ta:TA}{px py pt:Pos}{kt k2 pt2}(hc:X.calm=true)(hN:X.N.Nodup)(hi:X.N[i]?=some x)(hj:X.N[j]?=some y)(hij:i≠j)
  (hx:X.env.scope.names.lookup x=some .local) (hy:X.env.scope.names.lookup y=some .local) (ha:PA X [a,b] ta)
  (hw:swappedStores [.Tuple [.Name x px,.Name y py] kt pt] (.Tuple [a,b] k2 pt2) X.env=pure (some [x,y]))
  (hs:swapsWithSole [.Tuple [.Name x px,.Name y py] kt pt] (.Tuple [a,b] k2 pt2) pos.line X.env=pure false:=by rfl) :
  PS X (.Assign [.Tuple [.Name x px,.Name y py] kt pt] (.Tuple [a,b] k2 pt2) pos) (tPar i j ta):=by
 intro pins s σ H D I h;rw[exec_Assign_arm];refine wpAny_bind (wpAny_standAt ?_);rw[hs];refine wpAny_bind (wpAny_pure ?_);rw[if_neg (by decide)];refine wpAny_bind (Tuple_ (thn (ha _ pins s σ H _ I h) fun us s1 ⟨vs,H1,I1,r1,q1⟩=>?_));obtain⟨v,w,e1,q1⟩:=q1;subst e1;obtain⟨u1,u2,rfl,rv,rw'⟩ : ∃ u1 u2,us=[u1,u2]/\RelV v u1/\RelV w u2:=by
  cases r1 with
  | cons p q =>
   cases q with
   | cons p' q' =>
    cases q';exact⟨_,_,rfl,p,p'⟩
 refine wpAny_newObj_type ?_ (by show 2<=sizeLine;decide);have I2:Inv X pins σ H1 { s1 with heap:=s1.heap.push { cls:=.type "tuple",data:=.seq [u1,u2].toArray } }:=I1.kept (t':=s1.toks) fun b o e=>Heap.get?_push_of_some _ e
 rw[hw];refine wpAny_bind (wpAny_pure ?_);show wpAny (model X.prog X.w) X.A (do rule "assign.swapped-stores";let items ← unpackItems (.ref s1.heap.objs.size) 2 none;assignInOrder [fun v=>bindName X.env y v,fun v=>bindName X.env x v] items.reverse;pure Flow.next) _ _ _;refine wpAny_bind (wpAny_rule (wpAny_bind (unpackItems_tuple (items:=#[u1,u2]) (I.ok.hd hc) (IsTup.new s1.heap _) fun h' hx'=>?_)));have I3:=I2.kept (h':=h') (t':=s1.toks) fun b o e=>hx' b o (wU (Heap.lt_size e)) e
 show wpAny _ _ (assignInOrder [fun v=>bindName X.env y v,fun v=>bindName X.env x v] [u2,u1] >>= fun _=>pure Flow.next) _ _ _;refine wpAny_bind (assignInOrder_cons (wpAny_bindName (qJ I3 hN hj (.inl hy) rw' (fun s2 I4=>?_) (.inr hy))));refine assignInOrder_cons (wpAny_bindName (qJ I4 hN hi (.inl hx) rv (fun s3 I5=>assignInOrder_nil (wpAny_pure ?_)) (.inr hx)));rw[List.set_comm _ _ (Ne.symm hij)]at I5;exact⟨_,H1,I5,q1⟩
def tAug(i:Nat)(te:TE)(ti:TIp):TS:=fun D σ H=>∃ x,σ[i]?=some (some x)/\te σ H fun y H1=>ti x y H1 fun z H2=>D.nx (σ.set i (some z)) H2
theorem zhN{i:Nat}{x:Str}{e:Expr}{te:TE}{op:Operator}{ti:TIp}{pos':Pos}(hN:X.N.Nodup)(hi:X.N[i]?=some x)(hx:Loc X.env.scope x)(he:PE X e te)(ho:PIp X op ti)(hf:X.fn x=true\/X.env.scope.names.lookup x=some .local:=by first|exact .inl rfl|exact .inr rfl|assumption) :
  PS X (.AugAssign (.Name x pos') op e pos) (tAug i te ti):=by
 intro pins s σ H D I h;obtain⟨v,e1,h⟩:=h;obtain⟨m,hn,hl⟩:=I.loc;have vis:Vis X.env.scope x:=by rcases hx with k|k;exact .inl k;exact .inr (.inl k)
 obtain⟨u,r,l⟩:=hl i x v hi e1 vis;refine wpAny_AugAssign_Name ?_;have go:wpAny (model X.prog X.w) X.A (eval e X.env) (fun w s₂=>wpAny (model X.prog X.w) X.A (inplaceOp op u w) (fun r s₃=>wpAny (model X.prog X.w) X.A (storeName X.env x r) (fun _=>SP X pins D .next) X.xe s₃) X.xe s₂) X.xe s:=by
  refine thn (he pins s σ H _ I h) fun w s1 ⟨y,H1,I1,r1,q1⟩=>?_
  refine thn (ho pins s1 σ H1 v y u w _ I1 r r1 q1) fun z s2 ⟨zv,H2,I2,r2,q2⟩=>?_
  exact qJ I2 hN hi hx r2 (fun s3 I3=>⟨_,H2,I3,q2⟩) hf
 rcases l with⟨hk,hm⟩|⟨hk,c,hc,hcell⟩
 ·exact wpAny_loadName_local I.ok.kind hk hn hm go
 ·rcases hk with hk|hk
  ·exact wpAny_loadName_cell I.ok.kind hk hc hcell go
  ·rcases hx with k|k
   ·have:X.env.scope.names.lookup x=some .free:=hk;rw[k]at this;cases this
   ·have:X.env.scope.names.lookup x=some .free:=hk;rw[k]at this;cases this
def ipI(f:Int->Int->Int):TIp:=fun x y H Q=>∃ i j,x=.int i/\y=.int j/\Q (.int (f i j)) H
theorem zhJ:PIp X .Add (ipI fun i j=>i+j):=by
 intro pins s σ H x y v u Q I r1 r2 h;obtain⟨i,j,e1,e2,q⟩:=h;subst e1;subst e2;obtain⟨t,rfl⟩:=r1;obtain⟨t',rfl⟩:=r2;exact iadd_int ⟨.int _,H,I.tok _,⟨_,rfl⟩,q⟩
end
section
variable{X:Cx}{pos:Pos}
def tWhile(c:TT)(tb:TS):TS:=fun D σ H=>∃ W:Nat->St->Hp->Prop,(∃ m,W m σ H)/\∀ m σ H,W m σ H ->
 c σ H fun b H1=>if b=true then ∃ N:St->Hp->Prop,(∀ σ' H',N σ' H'->∃ m',m'<m/\W m' σ' H')/\tb { D with nx:=N,ct:=N,bk:=D.nx } σ H1 else D.nx σ H1
theorem qk{c:Expr}{body:List Stmt}{tc:TT}{tb:TS}(hp:PassesOwn (model X.prog X.w) X.A X.env X.xe)(hc:PT X c tc)(hb:PSs X body tb):PS X (.While c body [] pos) (tWhile tc tb):=by
 intro pins s σ H D I h;obtain⟨W,⟨m0,w0⟩,turn⟩:=h;refine wpAny_While (codeAny_whileLoop (fun n s'=>∃ σ' H',Inv X pins σ' H' s'/\W n σ' H') ?_ m0 ⟨σ,H,I,w0⟩)
 rintro n s1 ⟨σ1,H1,I1,w1⟩
 refine wpAny_passesOwn hp (thn (hc pins s1 σ1 H1 _ I1 (turn n σ1 H1 w1)) fun b s2 ⟨H2,I2,q2⟩=>?_);cases b with
 | true =>
  obtain⟨N,hN,q2⟩:=q2;rw[if_pos rfl];refine wpAny_passesOwn hp (thn (hb pins s2 σ1 H2 _ I2 q2) fun f s3 q3=>?_);cases f with
  | next =>
   obtain⟨σ3,H3,I3,n3⟩:=q3;obtain⟨m',hm,w3⟩:=hN σ3 H3 n3;exact⟨m',hm,σ3,H3,I3,w3⟩
  | cont =>
   obtain⟨σ3,H3,I3,n3⟩:=q3;obtain⟨m',hm,w3⟩:=hN σ3 H3 n3;exact⟨m',hm,σ3,H3,I3,w3⟩
  | brk=>exact q3
  | ret v=>exact q3
 | false =>
  rw[if_neg wW];exact wpAny_execs_nil ⟨σ1,H2,I2,q2⟩
end
structure It where
 go:Nat->Hp->Prop
 yld:Nat->Hp->V->Hp->Prop
 stop:Nat->Hp->Prop
def FpOk(X:Cx)(pins:List (Addr×Obj))(H:Hp)(b:Addr):Prop :=
 H b=none/\b≠X.env.locals/\b∉X.fs/\(b∈X.ex\/X.s₀.heap.objs.size<=b)/\(∀ x c,X.env.cells.lookup x=some c->c≠b)/\∀ p∈X.pn++pins,p.1≠b
theorem Inv.fpOk{X:Cx}{pins:List (Addr×Obj)}{σ:St}{H H':Hp}{s:Shared}{b:Addr}(I:Inv X pins σ H s)(hb:s.heap.objs.size<=b)(hn:H' b=none):FpOk X pins H' b:=by
 refine⟨hn,GW (wL I.lt hb),I.nofs hb,.inr (wD I.sz hb),fun x c e z=>?_,fun p hp z=>?_⟩
 ·obtain⟨v,q⟩:=I.cell x c e;exact absurd (wL q.lt (by rw[z];exact hb)) (vM _)
 ·exact absurd (wL (Heap.lt_size (I.pin p hp).1) (by rw[z];exact hb)) (vM _)
structure Turn(P:Program)(w:World)(K:PySem.W.Frag)(tg:Expr)(J:It)(fp:List Addr)(it:Addr)(tn:Nat->Heap->Prop):Prop where
 mem:it∈fp
 obj:∀ i h,tn i h->∀ b∈fp,∃ o,h.get? b=some o/\∀ v,o.data≠.cell v
 keep:∀ i h h',tn i h->(∀ b∈fp,∀ o,h.get? b=some o->h'.get? b=some o)->tn i h'
 item:∀(X:Cx),X.prog=P->X.w=w->X.K=K->X.calm=true->∀(i:Nat)(pins:List (Addr×Obj))(s:Shared)(σ:St)(H:Hp)(E:Value->Shared->Prop),Inv X pins σ H s->(∀ b∈fp,FpOk X pins H b)->tn i s.heap->J.go i H ->
  wpAny (model P w) X.A (pyNext (.ref it)) (fun r s1=>∃ u,r=some u /\
   wpAny (model P w) X.A (letOwnedTupleGo tg (.ref it) u) (fun _ s2=>∃ x H',Inv X pins σ H' s2/\RelV x u/\J.yld i H x H'/\tn (i+1) s2.heap/\∀ b∈fp,H' b=none) E s1) E s
 done:∀(X:Cx),X.prog=P->X.w=w->X.K=K->X.calm=true->∀(i:Nat)(pins:List (Addr×Obj))(s:Shared)(σ:St)(H:Hp)(E:Value->Shared->Prop),Inv X pins σ H s->(∀ b∈fp,FpOk X pins H b)->tn i s.heap->J.stop i H ->
  wpAny (model P w) X.A (pyNext (.ref it)) (fun r s1=>r=none/\Inv X pins σ H s1) E s
 self:∀(A:Around)(i:Nat)(s:Shared)(Q:Value->Shared->Prop)(E:Value->Shared->Prop),tn i s.heap->Q (.ref it) s->wpAny (model P w) A (pyIter (.ref it)) Q E s
abbrev TI:=St->Hp->(It->Hp->Prop)->Prop
def PIE(X:Cx)(pins:List (Addr×Obj))(σ:St)(tg:Expr)(R:It->Hp->Prop)(itv:Value)(s2:Shared):Prop :=
 ∃(it:Addr)(fp:List Addr)(tn:Nat->Heap->Prop)(J:It)(H':Hp),itv=.ref it/\Inv X pins σ H' s2/\Turn X.prog X.w X.K tg J fp it tn/\tn 0 s2.heap/\(∀ b∈fp,FpOk X pins H' b)/\R J H'
def PI(X:Cx)(tg iter:Expr)(wi:TI):Prop :=
 ∀(pins:List (Addr×Obj))(s:Shared)(σ:St)(H:Hp)(R:It->Hp->Prop),Inv X pins σ H s->wi σ H R ->
  wpAny (model X.prog X.w) X.A (eval iter X.env) (fun v s1=>wpAny (model X.prog X.w) X.A (pyIter v) (PIE X pins σ tg R) X.xe s1) X.xe s
theorem zhV{M:Model}{A:Around}{E:Value->Shared->Prop}{s:Shared}{tg:Expr}{it:Addr}{u:Value}{o:Obj}{n:String}{vs:Array Value}{Q:Unit->Shared->Prop}(ho:s.heap.get? it=some o)(hc:o.cls=.type n)(hd:o.data=.fields vs)
  (hn:["enumerate", "zip", "dict_itemiterator", "dict_reverseitemiterator", "odict_iterator", "itertools.zip_longest", "itertools.pairwise"].contains n=false) (hQ:Q () s):wpAny M A (letOwnedTupleGo tg (.ref it) u) Q E s:=by
 unfold letOwnedTupleGo;cases tg <;> first
  | exact wpAny_pure hQ
  | (cases u <;> first
    | exact wpAny_pure hQ
    | (refine wpAny_bind (wpAny_load ho ?_)
       rw[hc,hd];show wpAny M A (if (["enumerate", "zip", "dict_itemiterator", "dict_reverseitemiterator", "odict_iterator", "itertools.zip_longest", "itertools.pairwise"].contains n && vs[0]? == some (rawInt _))=true then _ else _) Q E s;rw[if_neg (by intro h;rw[hn,Bool.false_and]at h;cases h)];exact wpAny_pure hQ))
def Itl(K:PySem.W.Frag)(a:Addr):It :=
 ⟨fun i H=>∃ xs x,SqL K H a xs/\xs[i]?=some x,fun i H x H'=>H'=H/\∀ xs,SqL K H a xs->xs[i]?=some x,fun i H=>∃ xs,SqL K H a xs/\xs.length<=i⟩
def Itr(lo:Int)(n:Nat):It:=⟨fun i _=>i<n,fun i H x H'=>H'=H/\x=.int (lo+i),fun i _=>n<=i⟩
theorem zdA{P:Program}{w:World}{K:PySem.W.Frag}{tg:Expr}(a it:Addr):Turn P w K tg (Itl K a) [it] it (fun i h=>h.IsListIter it a i) where
 mem:=by simp
 obj:=fun i h st b hb=>by
  have e:b=it:=by simpa using hb
  subst e;obtain⟨o,e,c,d⟩:=st;exact⟨o,e,fun v z=>by rw[d]at z;cases z⟩
 keep:=fun i h h' st k=>st.at fun o e=>k it (by simp) o e
 item:=by
  intro X hP hw hK hc i pins s σ H E I hf st hg;subst hP hw hK;obtain⟨xs,x,hq,hx⟩:=hg;obtain⟨its,rv,p,hz⟩:=I.list hq;obtain⟨u,hu,ru⟩:=rv.get hx;obtain⟨f0,f1,f2,f3,f4,f5⟩:=hf it (by simp);refine wpAny_pyNext_list_item st p.isList (x:=u) (by simpa using hu) fun h' st' sb=>?_
  have I1:Inv X pins σ H { s with heap:=h' }:=I.turned (t':=s.toks) (fun b o hb e=>(sb.2 b hb).trans e) f0 f1 f3 f4 f5;obtain⟨o,e,c,d⟩:=id st';exact⟨u,rfl,zhV (s:={ s with heap:=h' }) e c d (by decide) ⟨x,H,I1,ru,⟨rfl,fun ys hy=>by rw[I.list_inj hy hq];exact hx⟩,st',fun b hb=>(hf b hb).1⟩⟩
 done:=by
  intro X hP hw hK hc i pins s σ H E I hf st hg;subst hP hw hK;obtain⟨xs,hq,hx⟩:=hg;obtain⟨its,rv,p,hz⟩:=I.list hq;obtain⟨f0,f1,f2,f3,f4,f5⟩:=hf it (by simp);have hl:=rv.length;exact wpAny_pyNext_list_end (I.ok.hd hc) st p.isList (by simp;omega) fun h' eb=>⟨rfl,I.turned (t':=s.toks) (fun b o hb e=>eb b o hb e) f0 f1 f3 f4 f5⟩
 self:=fun _ _ _ _ _ st h=>wpAny_pyIter_listiter st h
theorem zb5{P:Program}{w:World}{K:PySem.W.Frag}{tg:Expr}(it:Addr)(lo:Int)(n:Nat):Turn P w K tg (Itr lo n) [it] it (fun i h=>IsRangeIter h it (lo +(i:Nat)*1) ((n:Int) - (i:Nat)) 1) where
 mem:=by simp
 obj:=fun i h st b hb=>by
  have e:b=it:=by simpa using hb
  subst e;exact⟨_,st,fun v z=>by
   have z':Data.fields _=Data.cell v:=z;cases z'⟩
 keep:=fun i h h' st k=>k it (by simp) _ st
 item:=by
  intro X hP hw hK hc i pins s σ H E I hf st hg;subst hP hw hK;obtain⟨f0,f1,f2,f3,f4,f5⟩:=hf it (by simp);have W:=Walks.range (prog:=X.prog) (w:=X.w) (I.ok.hd hc) it lo 1 n;refine W.item i s _ _ hg st fun v h' tk hv st' kk=>?_
  obtain⟨t,rfl⟩:=hv;have I1:Inv X pins σ H { s with heap:=h',toks:=tk }:=I.turned (fun b o hb e=>kk b o (by simpa using hb) e) f0 f1 f3 f4 f5;refine⟨_,rfl,zhV (s:={ s with heap:=h',toks:=tk }) (n := "range_iterator") st' rfl rfl (by decide) ⟨.int (lo+i),H,I1,⟨t,?_⟩,⟨rfl,rfl⟩,st',fun b hb=>(hf b hb).1⟩⟩;rw[Int.mul_one]
 done:=by
  intro X hP hw hK hc i pins s σ H E I hf st hg;subst hP hw hK;obtain⟨f0,f1,f2,f3,f4,f5⟩:=hf it (by simp);exact wpAny_pyNext_range_end (I.ok.hd hc) st (by have:n<=i:=hg;omega) fun h' eb=>⟨rfl,I.turned (t':=s.toks) (fun b o hb e=>eb b o hb e) f0 f1 f3 f4 f5⟩
 self:=fun _ _ _ _ _ st h=>wpAny_pyIter_rangeiter st h
end L2
namespace L2
open PySem PySem.Spec PyProof.Rows
section
variable{X:Cx}{tg:Expr}
inductive zcU(K:PySem.W.Frag)(x:V)(H1:Hp)(R:It->Hp->Prop):Prop where
 | mk (a:Addr) (h0_:x=.ref a) (h1_:(∃ xs,SqL K H1 a xs)) (h2_:R (Itl K a) H1):zcU K x H1 R
def iList(K:PySem.W.Frag)(tl:TE):TI:=fun σ H R=>tl σ H fun x H1=>zcU K x H1 R
theorem zgM{l:Expr}{tl:TE}(hl:PE X l tl):PI X tg l (iList X.K tl):=by
 intro pins s σ H R I h;refine thn (hl pins s σ H _ I h) fun v s1 ⟨x,H1,I1,r1,q1⟩=>?_
 obtain⟨a,e,⟨xs,hq⟩,q⟩:=q1;subst e;cases r1;obtain⟨its,rv,p,hz⟩:=I1.list hq;refine wpAny_pyIter_list p.isList ?_;refine⟨s1.heap.objs.size,[s1.heap.objs.size],_,_,H1,rfl,I1.kept (t':=s1.toks) fun b o e=>Heap.get?_push_of_some _ e,zdA a _,⟨_,Heap.get?_push_size _ rfl,rfl,rfl⟩,fun b hb=>?_,q⟩;have e:b=s1.heap.objs.size:=by simpa using hb
 subst e;exact I1.fpOk (ww _) (I1.hok.fresh (ww _))
theorem zfO{pins:List (Addr×Obj)}{σ:St}{H:Hp}{s:Shared}{R:It->Hp->Prop}{E:Value->Shared->Prop}{lo hi:Int}{t u v:Tok}{tk:Nat}(I:Inv X pins σ H s)(h1 : -(2^62)<=lo)(h2:lo<2^62)(h3 : -(2^62)<=hi)(h4:hi<2^62)
  (q:R (Itr lo (hi - lo).toNat) H):wpAny (model X.prog X.w) X.A (pyIter (.ref s.heap.objs.size)) (PIE X pins σ tg R) E { s with heap:=s.heap.push { cls:=.type "range",data:=.fields #[.int lo t,.int hi u,.int 1 v] },toks:=tk }:=by
 refine wpAny_pyIter_range (IsRange.new ..) (small_one h1 h2 h3 h4) ?_;have I1:Inv X pins σ H { s with heap:=s.heap.push { cls:=.type "range",data:=.fields #[.int lo t,.int hi u,.int 1 v] },toks:=tk }:=I.kept fun b o e=>Heap.get?_push_of_some _ e
 refine⟨(s.heap.push { cls:=.type "range",data:=.fields #[.int lo t,.int hi u,.int 1 v] }).objs.size,[(s.heap.push { cls:=.type "range",data:=.fields #[.int lo t,.int hi u,.int 1 v] }).objs.size],_,_,H,rfl,
  I1.kept (t':=tk) fun b o e=>Heap.get?_push_of_some _ e,zb5 _ lo (hi - lo).toNat,?_,fun b hb=>?_,q⟩
 ·have e1:lo +((0:Nat):Int)*1=lo:=by simp
  have e2:(((hi - lo).toNat:Nat):Int) - ((0:Nat):Int)=Builtin.Range.rangeSize lo hi 1:=by rw[rangeSize_one];split <;> omega
  show IsRangeIter _ _ (lo +((0:Nat):Int)*1) ((((hi - lo).toNat:Nat):Int) - ((0:Nat):Int)) 1;rw[e1,e2];exact Heap.get?_push_size _ rfl
 ·have e:b =(s.heap.push { cls:=.type "range",data:=.fields #[.int lo t,.int hi u,.int 1 v] }).objs.size:=by simpa using hb
  subst e;exact I1.fpOk (ww _) (I1.hok.fresh (ww _))
inductive zdH(vs:List V)(H1:Hp)(R:It->Hp->Prop):Prop where
 | mk (j:Int) (h0_:vs=[.int j]) (h1_ : -(2^62)<=j) (h2_:j<2^62) (h3_:R (Itr 0 j.toNat) H1):zdH vs H1 R
def iRng1(ta:TA):TI:=fun σ H R=>ta σ H fun vs H1=>zdH vs H1 R
theorem zR {a:Expr} {ta:TA} {p pos:Pos} (hg:Gl X "range") (hm:X.mg "range" = none) (ha:PA X [a] ta) (hs:starEach [a] X.env=[(false,eval a X.env)]:=by rfl):PI X tg (.Call (.Name "range" p) [a] [] pos) (iRng1 ta):=by
 intro pins s σ H R I h;refine Call_ (Qm I hg hm boot_range (PyProof.Rows.callWith_type1 (thn (ha pos pins s σ H _ I h) fun us s1 ⟨vs,H1,I1,r1,q1⟩=>?_) hs rfl));obtain⟨j,e,q1,q2,q⟩:=q1;subst e;cases r1 with
 | cons r rr =>
  cases rr;obtain⟨t,rfl⟩:=r;exact call_range_1 (zfO I1 (by omega) (by omega) q1 q2 (by simpa using q))
def tFor(wi:TI)(g:TG)(tb:TS):TS:=fun D σ H=>wi σ H fun J H1=>∃ W:Nat->Nat->St->Hp->Prop,(∃ m,W 0 m σ H1)/\∀ i m σ H,W i m σ H ->
 (J.stop i H/\D.nx σ H)\/(J.go i H/\∃ N:St->Hp->Prop,(∀ σ' H',N σ' H'->∃ m',m'<m/\W (i+1) m' σ' H')/\∀ x H',J.yld i H x H'->g x σ H' fun σ2 H2=>tb { D with nx:=N,ct:=N,bk:=D.nx } σ2 H2)
def pinsAt(fp:List Addr)(h:Heap):List (Addr×Obj):=fp.filterMap fun b=>(h.get? b).map fun o=>(b,o)
theorem qo{fp:List Addr}{h:Heap}{b:Addr}{o:Obj}(hb:b∈fp)(e:h.get? b=some o):(b,o)∈pinsAt fp h:=GT.mpr ⟨b,hb,by rw[e];rfl⟩
theorem zc3{fp:List Addr}{h:Heap}{p:Addr×Obj}(hp:p∈pinsAt fp h):p.1∈fp/\h.get? p.1=some p.2:=by
 obtain⟨b,hb,e⟩:=GT.mp hp;cases q:h.get? b with
 | none=>rw[q]at e;cases e
 | some o =>
  rw[q]at e;have e':(b,o)=p:=Option.some.inj e;subst e';exact⟨hb,q⟩
theorem Inv.pinned{pins:List (Addr×Obj)}{σ:St}{H:Hp}{s:Shared}{fp:List Addr}(I:Inv X pins σ H s)(hf:∀ b∈fp,FpOk X pins H b)(ho:∀ b∈fp,∃ o,s.heap.get? b=some o/\∀ v,o.data≠.cell v):Inv X (pins++pinsAt fp s.heap) σ H s :=
 I.pins_of fun p hp=>(wt.mp hp).elim (fun z=>I.pin p (wE _ z)) fun z=>by
  obtain⟨hb,e⟩:=zc3 z;obtain⟨f0,f1,f2,_⟩:=hf p.1 hb;obtain⟨o,e',d⟩:=ho p.1 hb;rw[e]at e';cases e';exact⟨e,f0,f1,f2,d⟩
theorem Inv.unpinned{pins pl:List (Addr×Obj)}{σ:St}{H:Hp}{s:Shared}(I:Inv X (pins++pl) σ H s):Inv X pins σ H s:=I.pins_of fun p hp=>I.pin p (wE _ (wP _ hp))
theorem yt{iter:Expr}{body:List Stmt}{wi:TI}{g:TG}{tb:TS}{pos:Pos}(hp:PassesOwn (model X.prog X.w) X.A X.env X.xe)(hc:X.calm=true)(hi:PI X tg iter wi)(hg:PG X tg g)(hb:PSs X body tb)
  (hs:∀ x,foldedSetIterable iter X.env x=pure x:=by intro _;rfl):PS X (.For tg iter body [] pos) (tFor wi g tb):=by
 intro pins s σ H D I h;refine wpAny_For (thn (hi pins s σ H _ I h) fun v s1 h1=>thn h1 fun itv s2 h2=>?_) hs;obtain⟨it,fp,tn,J,H2,e,I2,T,st2,f2,W,⟨m0,w0⟩,turn⟩:=h2;subst e;have stat:∀ {H':Hp},(∀ b∈fp,H' b=none)->∀ b∈fp,FpOk X pins H' b:=fun hn b hb=>⟨hn b hb,(f2 b hb).2⟩
 refine codeAny_forLoop_any (fun n s'=>∃ i σ' H',Inv X pins σ' H' s'/\tn i s'.heap/\(∀ b∈fp,H' b=none)/\W i n σ' H') ?_ m0 ⟨0,σ,H2,I2,st2,fun b hb=>(f2 b hb).1,w0⟩
 rintro n s3 ⟨i,σ3,H3,I3,st3,fr3,w3⟩
 rcases turn i n σ3 H3 w3 with⟨stop,qn⟩|⟨go,N,hN,step⟩
 ·refine wpAny_passesOwn hp (thn (T.done X rfl rfl rfl hc i pins s3 σ3 H3 X.xe I3 (stat fr3) st3 stop) fun r s4 ⟨hr,I4⟩=>?_);subst hr;exact wpAny_execs_nil ⟨σ3,H3,I4,qn⟩
 ·refine wpAny_passesOwn hp (thn (T.item X rfl rfl rfl hc i pins s3 σ3 H3 X.xe I3 (stat fr3) st3 go) fun r s4 ⟨u,hr,h4⟩=>?_);subst hr;refine wpAny_passesOwn hp (thn h4 fun _ s5 ⟨x,H5,I5,r5,y5,st5,fr5⟩=>?_);have I5':=I5.pinned (stat fr5) (T.obj _ _ st5);refine wpAny_passesOwn hp (thn (hg _ s5 σ3 H5 x u _ I5' r5 (step x H5 y5)) fun _ s6 ⟨σ6,H6,I6,q6⟩=>?_);refine wpAny_passesOwn hp (thn (hb _ s6 σ6 H6 _ I6 q6) fun f s7 q7=>?_);have again:∀ {σ7:St} {H7:Hp},Inv X (pins++pinsAt fp s5.heap) σ7 H7 s7->N σ7 H7->∃ m,m<n/\∃ i σ' H',Inv X pins σ' H' s7/\tn i s7.heap/\(∀ b∈fp,H' b=none)/\W i m σ' H':=fun {σ7 H7} I7 n7=>by
   obtain⟨m',hm,w7⟩:=hN σ7 H7 n7;refine⟨m',hm,i+1,σ7,H7,I7.unpinned,T.keep _ _ _ st5 fun b hb o e=>(I7.pin (b,o) (wE _ (wE _ (qo hb e)))).1,fun b hb=>?_,w7⟩;obtain⟨o,e,d⟩:=T.obj _ _ st5 b hb;exact(I7.pin (b,o) (wE _ (wE _ (qo hb e)))).2.1
  cases f with
  | next=>obtain⟨σ7,H7,I7,n7⟩:=q7;exact again I7 n7
  | cont=>obtain⟨σ7,H7,I7,n7⟩:=q7;exact again I7 n7
  | brk=>obtain⟨σ7,H7,I7,q7⟩:=q7;exact⟨σ7,H7,I7.unpinned,q7⟩
  | ret v=>obtain⟨x7,σ7,H7,I7,r7,q7⟩:=q7;exact⟨x7,σ7,H7,I7.unpinned,r7,q7⟩
end
theorem yZ{K:PySem.W.Frag}{a:Addr}{xs:List V}{g:TG}{tb:TS}{D:Ends}{σ:St}{H:Hp}(Pv:Nat->St->Hp->Prop)(h0:Pv 0 σ H)(hl:∀ i σ H,i<=xs.length->Pv i σ H->SqL K H a xs)
  (hs:∀ i x σ H,xs[i]?=some x->Pv i σ H->g x σ H fun σ2 H2=>tb { D with nx:=Pv (i+1),ct:=Pv (i+1),bk:=D.nx } σ2 H2) (hd:∀ σ H,Pv xs.length σ H->D.nx σ H) :
  ∃ W:Nat->Nat->St->Hp->Prop,(∃ m,W 0 m σ H)/\∀ i m σ H,W i m σ H ->
   ((Itl K a).stop i H/\D.nx σ H)\/((Itl K a).go i H/\∃ N:St->Hp->Prop,(∀ σ' H',N σ' H'->∃ m',m'<m/\W (i+1) m' σ' H')/\∀ x H',(Itl K a).yld i H x H'->g x σ H' fun σ2 H2=>tb { D with nx:=N,ct:=N,bk:=D.nx } σ2 H2):=by
 refine⟨fun i m σ H=>m=xs.length - i/\i<=xs.length/\Pv i σ H,⟨xs.length,by simp,vA _,h0⟩,?_⟩
 rintro i m σ H ⟨rfl,hi,p⟩
 have q:=hl i σ H hi p
 by_cases hlt:i<xs.length
 ·refine .inr ⟨⟨xs,xs[i],q,by simp[hlt]⟩,Pv (i+1),fun σ' H' p'=>⟨xs.length - (i+1),by omega,rfl,hlt,p'⟩,fun x H' y=>?_⟩;obtain⟨e,y⟩:=y;subst e;exact hs i x σ _ (y xs q) p
 ·have e:i=xs.length:=by omega
  subst e;exact .inl ⟨⟨xs,q,ww _⟩,hd σ H p⟩
theorem yp{lo:Int}{n:Nat}{g:TG}{tb:TS}{D:Ends}{σ:St}{H:Hp}(Pv:Nat->St->Hp->Prop)(h0:Pv 0 σ H)
  (hs:∀ i σ H,i<n->Pv i σ H->g (.int (lo+i)) σ H fun σ2 H2=>tb { D with nx:=Pv (i+1),ct:=Pv (i+1),bk:=D.nx } σ2 H2) (hd:∀ σ H,Pv n σ H->D.nx σ H) :
  ∃ W:Nat->Nat->St->Hp->Prop,(∃ m,W 0 m σ H)/\∀ i m σ H,W i m σ H ->
   ((Itr lo n).stop i H/\D.nx σ H)\/((Itr lo n).go i H/\∃ N:St->Hp->Prop,(∀ σ' H',N σ' H'->∃ m',m'<m/\W (i+1) m' σ' H')/\∀ x H',(Itr lo n).yld i H x H'->g x σ H' fun σ2 H2=>tb { D with nx:=N,ct:=N,bk:=D.nx } σ2 H2):=by
 refine⟨fun i m σ H=>m=n - i/\i<=n/\Pv i σ H,⟨n,by simp,vA _,h0⟩,?_⟩
 rintro i m σ H ⟨rfl,hi,p⟩
 by_cases hlt:i<n
 ·refine .inr ⟨hlt,Pv (i+1),fun σ' H' p'=>⟨n - (i+1),by omega,rfl,hlt,p'⟩,fun x H' y=>?_⟩;obtain⟨e,y⟩:=y;subst e y;exact hs i σ _ hlt p
 ·have e:i=n:=by omega
  subst e;exact .inl ⟨ww _,hd σ H p⟩
end L2
namespace L2
open PySem PySem.Spec PyProof.Rows
abbrev R2:=V->V->Hp->VK->Prop
def OpR(X:Cx)(f:Value->Value->Sem Value)(r:R2):Prop :=
 ∀(pins:List (Addr×Obj))(s:Shared)(σ:St)(H:Hp)(x y:V)(v u:Value)(Q:VK),Inv X pins σ H s->RelV x v->RelV y u->r x y H Q ->
  wpAny (model X.prog X.w) X.A (f v u) (EP X pins σ Q) X.xe s
def UnR(X:Cx)(f:Value->Sem Value)(r:V->Hp->VK->Prop):Prop :=
 ∀(pins:List (Addr×Obj))(s:Shared)(σ:St)(H:Hp)(x:V)(v:Value)(Q:VK),Inv X pins σ H s->RelV x v->r x H Q ->
  wpAny (model X.prog X.w) X.A (f v) (EP X pins σ Q) X.xe s
def CallR(X:Cx)(f:Value)(r:List V->Hp->VK->Prop):Prop :=
 ∀(pins:List (Addr×Obj))(s:Shared)(σ:St)(H:Hp)(xs:List V)(us:List Value)(Q:VK),Inv X pins σ H s->Vals xs us->r xs H Q ->
  wpAny (model X.prog X.w) X.A (call f us) (EP X pins σ Q) X.xe s
def tOp(r:R2)(ta tb:TE):TE:=fun σ H Q=>ta σ H fun x H1=>tb σ H1 fun y H2=>r x y H2 Q
def tUn(r:V->Hp->VK->Prop)(ta:TE):TE:=fun σ H Q=>ta σ H fun x H1=>r x H1 Q
inductive I_rI(C:Int->Int->Prop)(g:Int->Int->V)(x y:V)(H:Hp)(Q:VK):Prop where
 | mk (i j:Int) (h0_:x=.int i) (h1_:y=.int j) (h2_:C i j) (h3_:Q (g i j) H):I_rI C g x y H Q
def rI(C:Int->Int->Prop)(g:Int->Int->V):R2:=fun x y H Q=>I_rI C g x y H Q
inductive zhl(g:Int->Int->V)(x y:V)(H:Hp)(Q:VK):Prop where
 | mk (i j:Int) (h0_:x=.int i) (h1_:y=.int j) (h2_:Q (g i j) H):zhl g x y H Q
def rI0(g:Int->Int->V):R2:=fun x y H Q=>zhl g x y H Q
inductive I_rU(g:Int->V)(x:V)(H:Hp)(Q:VK):Prop where
 | mk (i:Int) (h0_:x=.int i) (h1_:Q (g i) H):I_rU g x H Q
def rU(g:Int->V):V->Hp->VK->Prop:=fun x H Q=>I_rU g x H Q
section
variable{X:Cx}{a b c:Expr}{ta tb tc:TE}{pos:Pos}
theorem binT(ha:PE X a ta)(hb:PE X b tb){pins:List (Addr×Obj)}{s:Shared}{σ:St}{H:Hp}{R:V->V->Hp->Prop}(I:Inv X pins σ H s)
  (h:ta σ H fun x H1=>tb σ H1 fun y H2=>R x y H2) {Q:Value->Shared->Prop} {f:Value->Value->Sem Value}
  (hf:∀ v u s2 x y H2,Inv X pins σ H2 s2->RelV x v->RelV y u->R x y H2->wpAny (model X.prog X.w) X.A (f v u) Q X.xe s2) :
  wpAny (model X.prog X.w) X.A (eval a X.env) (fun v s₁=>wpAny (model X.prog X.w) X.A (eval b X.env) (fun u s₂=>wpAny (model X.prog X.w) X.A (f v u) Q X.xe s₂) X.xe s₁) X.xe s:=by
 refine thn (ha pins s σ H _ I h) fun v s1 ⟨x,H1,I1,r1,q1⟩=>?_
 refine thn (hb pins s1 σ H1 _ I1 q1) fun u s2 ⟨y,H2,I2,r2,q2⟩=>?_
 exact hf v u s2 x y H2 I2 r1 r2 q2
theorem zm{op:Operator}{r:R2}(ho:OpR X (binaryOp op) r)(ha:PE X a ta)(hb:PE X b tb):PE X (.BinOp a op b pos) (tOp r ta tb):=by
 intro pins s σ H Q I h;exact wpAny_BinOp (binT ha hb I h fun v u s2 x y H2 I2 rx ry q=>ho pins s2 σ H2 x y v u Q I2 rx ry q)
theorem zcz{op:UnaryOp}{r:V->Hp->VK->Prop}(ho:UnR X (unaryOp op) r)(ha:PE X a ta):PE X (.UnaryOp op a pos) (tUn r ta):=by
 intro pins s σ H Q I h;exact UnaryOp_ (thn (ha pins s σ H _ I h) fun v s1 ⟨x,H1,I1,r1,q1⟩=>ho pins s1 σ H1 x v Q I1 r1 q1)
theorem opI{f:Value->Value->Sem Value}{C:Int->Int->Prop}{g:Int->Int->Int}
  (rule:∀(i j:Int)(t u:Tok)(s:Shared)(Q:Value->Shared->Prop)(E:Value->Shared->Prop),C i j->Q (.int (g i j) s.toks) { s with toks:=s.toks+1 }->wpAny (model X.prog X.w) X.A (f (.int i t) (.int j u)) Q E s) :
  OpR X f (rI C fun i j=>.int (g i j)):=by
 intro pins s σ H x y v u Q I rx ry h;obtain⟨i,j,rfl,rfl,hc,q⟩:=h;obtain⟨t,rfl⟩:=rx;obtain⟨t',rfl⟩:=ry;exact rule i j t t' s _ _ hc ⟨.int (g i j),H,I.tok _,⟨_,rfl⟩,q⟩
theorem opI0{f:Value->Value->Sem Value}{g:Int->Int->Int}
  (rule:∀(i j:Int)(t u:Tok)(s:Shared)(Q:Value->Shared->Prop)(E:Value->Shared->Prop),Q (.int (g i j) s.toks) { s with toks:=s.toks+1 }->wpAny (model X.prog X.w) X.A (f (.int i t) (.int j u)) Q E s) :
  OpR X f (rI0 fun i j=>.int (g i j)):=by
 intro pins s σ H x y v u Q I rx ry h;obtain⟨i,j,rfl,rfl,q⟩:=h;obtain⟨t,rfl⟩:=rx;obtain⟨t',rfl⟩:=ry;exact rule i j t t' s _ _ ⟨.int (g i j),H,I.tok _,⟨_,rfl⟩,q⟩
theorem opB0{f:Value->Value->Sem Value}{g:Int->Int->Bool}
  (rule:∀(i j:Int)(t u:Tok)(s:Shared)(Q:Value->Shared->Prop)(E:Value->Shared->Prop),Q (.bool (g i j)) s->wpAny (model X.prog X.w) X.A (f (.int i t) (.int j u)) Q E s) :
  OpR X f (rI0 fun i j=>.bl (g i j)):=by
 intro pins s σ H x y v u Q I rx ry h;obtain⟨i,j,rfl,rfl,q⟩:=h;obtain⟨t,rfl⟩:=rx;obtain⟨t',rfl⟩:=ry;exact rule i j t t' s _ _ ⟨.bl (g i j),H,I,rfl,q⟩
def CPow(i j:Int):Prop:=0<=j/\j<=1000000/\i.natAbs<2^64
theorem yi:OpR X (binaryOp .Add) (rI0 fun i j=>.int (i+j)):=opI0 fun _ _ _ _ _ _ _ q=>add_int q
theorem qx:OpR X (binaryOp .Sub) (rI0 fun i j=>.int (i - j)):=opI0 fun _ _ _ _ _ _ _ q=>sub_int q
theorem zP:OpR X (binaryOp .Mod) (rI (fun _ j=>j≠0) fun i j=>.int (i.fmod j)):=opI fun _ _ _ _ _ _ _ hc q=>mod_int' hc q
theorem zdG:OpR X (binaryOp .Pow) (rI CPow fun i j=>.int (i^j.toNat)):=opI fun _ _ _ _ _ _ _ hc q=>pow_int_small hc.1 hc.2.1 hc.2.2 q
theorem unI{f:Value->Sem Value}{g:Int->Int}
  (rule:∀(i:Int)(t:Tok)(s:Shared)(Q:Value->Shared->Prop)(E:Value->Shared->Prop),Q (.int (g i) s.toks) { s with toks:=s.toks+1 }->wpAny (model X.prog X.w) X.A (f (.int i t)) Q E s) :
  UnR X f (rU fun i=>.int (g i)):=by
 intro pins s σ H x v Q I rx h;obtain⟨i,rfl,q⟩:=h;obtain⟨t,rfl⟩:=rx;exact rule i t s _ _ ⟨.int (g i),H,I.tok _,⟨_,rfl⟩,q⟩
theorem XE:UnR X (unaryOp .USub) (rU fun i=>.int (-i)):=unI fun _ _ _ _ _ q=>neg_int q
end
def scal:V->V->Bool
 | .non,.non=>true | .non,.int _=>true | .int _,.non=>true | .non,.bl _=>true | .bl _,.non=>true | .non,.str _=>true | .str _,.non=>true
 | .int _,.int _=>true | .bl _,.bl _=>true | .str _,.str _=>true | .byt _,.byt _=>true
 | .int _,.str _=>true | .str _,.int _=>true | .bl _,.str _=>true | .str _,.bl _=>true
 | _,_=>false
def rEq:R2:=fun x y H Q=>scal x y=true/\Q (.bl (decide (x=y))) H
def rNe:R2:=fun x y H Q=>scal x y=true/\Q (.bl (!decide (x=y))) H
theorem zc4{i j:Int}:decide (V.int i=V.int j) =(i == j):=by
 rw[uK];simp
theorem zge{i j:Bool}:decide (V.bl i=V.bl j) =(i == j):=by
 rw[uK];simp
theorem zcR{i j:Str}:decide (V.str i=V.str j) =(i == j):=by
 rw[uK];simp
theorem zeg{i j:Array UInt8}:decide (V.byt i=V.byt j) =(i.toList == j.toList):=by
 rw[uK];cases i;cases j;simp
section
variable{X:Cx}{a b c:Expr}{ta tb tc:TE}{pos:Pos}
theorem yf{pins:List (Addr×Obj)}{σ:St}{H:Hp}{s:Shared}{Q:VK}{k k':Bool}(I:Inv X pins σ H s)(q:Q (.bl k) H)(e:k=k'):EP X pins σ Q (.bool k') s:=by
 subst e;exact⟨.bl k,H,I,rfl,q⟩
theorem xb:OpR X (compareOp .Eq) rEq:=by
 intro pins s σ H x y v u Q I rx ry h;obtain⟨hs,q⟩:=h;cases x with
 | non =>
  cases rx;cases y with
  | non=>cases ry;exact PySem.EqNone.eq_none_none (yf I q (by simp))
  | bl j=>cases ry;exact PySem.EqNone.eq_none_bool (yf I q (by simp))
  | int j=>obtain⟨t',rfl⟩:=ry;exact PySem.EqNone.eq_none_int (yf I q (by simp))
  | str j=>obtain⟨t',rfl⟩:=ry;exact PySem.EqNone.eq_none_str (yf I q (by simp))
  | _=>exact absurd (show false=true from hs) wW
 | bl i =>
  cases rx;cases y with
  | non=>cases ry;exact PySem.EqNone.eq_bool_none (yf I q (by simp))
  | bl j=>cases ry;exact eq_bool (yf I q zge)
  | str j=>obtain⟨t',rfl⟩:=ry;exact PySem.EqMixed.eq_bool_str (yf I q (by simp))
  | _=>exact absurd (show false=true from hs) wW
 | int i =>
  obtain⟨t,rfl⟩:=rx;cases y with
  | non=>cases ry;exact PySem.EqNone.eq_int_none (yf I q (by simp))
  | int j=>obtain⟨t',rfl⟩:=ry;exact eq_int (yf I q zc4)
  | str j=>obtain⟨t',rfl⟩:=ry;exact PySem.EqMixed.eq_int_str (yf I q (by simp))
  | _=>exact absurd (show false=true from hs) wW
 | str i =>
  obtain⟨t,rfl⟩:=rx;cases y with
  | non=>cases ry;exact PySem.EqNone.eq_str_none (yf I q (by simp))
  | bl j=>cases ry;exact PySem.EqMixed.eq_str_bool (yf I q (by simp))
  | int j=>obtain⟨t',rfl⟩:=ry;exact PySem.EqMixed.eq_str_int (yf I q (by simp))
  | str j=>obtain⟨t',rfl⟩:=ry;exact eq_str (yf I q zcR)
  | _=>exact absurd (show false=true from hs) wW
 | byt i =>
  obtain⟨t,rfl⟩:=rx;cases y with
  | byt j=>obtain⟨t',rfl⟩:=ry;exact PySem.W.eq_bytes (yf I q zeg)
  | _=>exact absurd (show false=true from hs) wW
 | _=>cases y <;> exact absurd (show false=true from hs) wW
theorem ZO:OpR X (compareOp .NotEq) rNe:=by
 intro pins s σ H x y v u Q I rx ry h;obtain⟨hs,q⟩:=h;cases x with
 | non =>
  cases rx;cases y with
  | non=>cases ry;exact PySem.EqNone.ne_none_none (yf I q (by simp))
  | bl j=>cases ry;exact PySem.EqNone.ne_none_bool (yf I q (by simp))
  | int j=>obtain⟨t',rfl⟩:=ry;exact PySem.EqNone.ne_none_int (yf I q (by simp))
  | str j=>obtain⟨t',rfl⟩:=ry;exact PySem.EqNone.ne_none_str (yf I q (by simp))
  | _=>exact absurd (show false=true from hs) wW
 | bl i =>
  cases rx;cases y with
  | non=>cases ry;exact PySem.EqNone.ne_bool_none (yf I q (by simp))
  | bl j=>cases ry;exact ne_bool (yf I q (congrArg not zge))
  | str j=>obtain⟨t',rfl⟩:=ry;exact PySem.EqMixed.ne_bool_str (yf I q (by simp))
  | _=>exact absurd (show false=true from hs) wW
 | int i =>
  obtain⟨t,rfl⟩:=rx;cases y with
  | non=>cases ry;exact PySem.EqNone.ne_int_none (yf I q (by simp))
  | int j=>obtain⟨t',rfl⟩:=ry;exact ne_int (yf I q (congrArg not zc4))
  | str j=>obtain⟨t',rfl⟩:=ry;exact PySem.EqMixed.ne_int_str (yf I q (by simp))
  | _=>exact absurd (show false=true from hs) wW
 | str i =>
  obtain⟨t,rfl⟩:=rx;cases y with
  | non=>cases ry;exact PySem.EqNone.ne_str_none (yf I q (by simp))
  | bl j=>cases ry;exact PySem.EqMixed.ne_str_bool (yf I q (by simp))
  | int j=>obtain⟨t',rfl⟩:=ry;exact PySem.EqMixed.ne_str_int (yf I q (by simp))
  | str j=>obtain⟨t',rfl⟩:=ry;exact ne_str (yf I q (congrArg not zcR))
  | _=>exact absurd (show false=true from hs) wW
 | byt i =>
  obtain⟨t,rfl⟩:=rx;cases y with
  | byt j=>obtain⟨t',rfl⟩:=ry;exact PySem.W.ne_bytes (yf I q (congrArg not zeg))
  | _=>exact absurd (show false=true from hs) wW
 | _=>cases y <;> exact absurd (show false=true from hs) wW
theorem zeU:OpR X (compareOp .Lt) (rI0 fun i j=>.bl (decide (i<j))):=opB0 fun _ _ _ _ _ _ _ q=>lt_int q
theorem zij:OpR X (compareOp .LtE) (rI0 fun i j=>.bl (decide (i<=j))):=opB0 fun _ _ _ _ _ _ _ q=>le_int q
theorem jJ:OpR X (compareOp .Gt) (rI0 fun i j=>.bl (decide (j<i))):=opB0 fun _ _ _ _ _ _ _ q=>gt_int q
theorem zhQ:OpR X (compareOp .GtE) (rI0 fun i j=>.bl (decide (j<=i))):=opB0 fun _ _ _ _ _ _ _ q=>ge_int q
theorem zhA:OpR X (compareOp .Is) (fun x y H Q=>y=.non/\Q (.bl (decide (x=.non))) H):=by
 intro pins s σ H x y v u Q I rx ry h;obtain⟨rfl,q⟩:=h;cases ry;refine is_none_gen (yf I q ?_);cases x <;> first
  | (cases rx;rfl)
  | (obtain⟨t,rfl⟩:=rx;rfl)
theorem kae(b:Expr){op:CmpOp}(h:op≠.In:=by decide)(h2:op≠.NotIn:=by decide):behindInMarks op b=false:=by
 have e1:(op == CmpOp.In)=false:=by cases op <;> first|rfl|exact absurd rfl h
 have e2:(op == CmpOp.NotIn)=false:=by cases op <;> first|rfl|exact absurd rfl h2
 cases b <;> simp[behindInMarks,e1,e2]
theorem yE{op:CmpOp}{r:R2}(ho:OpR X (compareOp op) r)(ha:PE X a ta)(hb:PE X b tb)(hm:behindInMarks op b=false):PE X (.Compare a [op] [b] pos) (tOp r ta tb):=by
 intro pins s σ H Q I h;exact wpAny_Compare1 (binT ha hb I h fun v u s2 x y H2 I2 rx ry q=>ho pins s2 σ H2 x y v u Q I2 rx ry q) hm
inductive zdb(x:V)(H':Hp)(Q:Bool->Hp->Prop):Prop where
 | mk (k:Bool) (h0_:x=.bl k) (h1_:Q k H'):zdb x H' Q
def tTest(t:TE):TT:=fun σ H Q=>t σ H fun x H'=>zdb x H' Q
theorem zu{op:CmpOp}{r:R2}(ho:OpR X (compareOp op) r)(ha:PE X a ta)(hb:PE X b tb)(hm:behindInMarks op b=false):PT X (.Compare a [op] [b] pos) (tTest (tOp r ta tb)):=by
 intro pins s σ H Q I h;refine wpAny_isTrue_Compare1 (thn (ha pins s σ H _ I h) fun v s1 ⟨x,H1,I1,r1,q1⟩=>thn (hb pins s1 σ H1 _ I1 q1) fun u s2 ⟨y,H2,I2,r2,q2⟩ =>
  thn (ho pins s2 σ H2 x y v u _ I2 r1 r2 q2) fun c s3 ⟨z,H3,I3,r3,k,e,q3⟩=>?_) hm
 subst e;cases r3;exact wpAny_truthy_bool ⟨H3,I3,q3⟩
def tChain(r r':R2)(ta tb tc:TE):TE:=fun σ H Q=>ta σ H fun x H1=>tb σ H1 fun y H2=>r x y H2 fun z H3=>∃ k,z=.bl k /\
 (if k=true then tc σ H3 fun w' H4=>r' y w' H4 Q else Q (.bl false) H3)
theorem zff{op op':CmpOp}{r r':R2}(ho:OpR X (compareOp op) r)(ho':OpR X (compareOp op') r')(ha:PE X a ta)(hb:PE X b tb)(hc:PE X c tc)
  (hm:lastMarks [op,op'] [b,c]=false:=by with_unfolding_all rfl):PE X (.Compare a [op,op'] [b,c] pos) (tChain r r' ta tb tc):=by
 intro pins s σ H Q I h;refine Compare_chain (thn (ha pins s σ H _ I h) fun v s1 ⟨x,H1,I1,r1,q1⟩=>chain_link (thn (hb pins s1 σ H1 _ I1 q1) fun u s2 ⟨y,H2,I2,r2,q2⟩ =>
  thn (ho pins s2 σ H2 x y v u _ I2 r1 r2 q2) fun d s3 ⟨z,H3,I3,r3,k,e,q3⟩=>?_)) hm
 subst e;cases r3;refine wpAny_truthy_bool ?_;cases k with
 | false=>exact ite_ff ⟨.bl false,H3,I3,rfl,q3⟩
 | true=>exact ite_tt (chain_last (thn (hc pins s3 σ H3 _ I3 q3) fun w' s4 ⟨z',H4,I4,r4,q4⟩=>ho' pins s4 σ H4 y z' u w' Q I4 r2 r4 q4))
theorem line63:(sizeLine:Nat)<2^63:=by rw[sizeLine_eq];decide
theorem vals1{x:V}{us:List Value}(r:Vals [x] us):∃ u,us=[u]/\RelV x u:=by
 cases r with
 | cons r1 r2=>cases r2;exact⟨_,rfl,r1⟩
theorem JH:CallR X (.builtin "abs") (fun xs H Q=>∃ i,xs=[.int i]/\Q (.int (if i<0 then -i else i)) H):=by
 intro pins s σ H xs us Q I r h;obtain⟨i,rfl,q⟩:=h;obtain⟨u,rfl,t,rfl⟩:=vals1 r;exact call_abs_int fun u tk=>⟨.int (if i<0 then -i else i),H,I.tok _,⟨_,rfl⟩,q⟩
theorem zez:CallR X (.type "int") (fun xs H Q=>(∃ i,xs=[.int i]/\Q (.int i) H)\/∃ k,xs=[.bl k]/\Q (.int (if k then 1 else 0)) H):=by
 intro pins s σ H xs us Q I r h
 rcases h with⟨i,rfl,q⟩|⟨k,rfl,q⟩
 ·obtain⟨u,rfl,t,rfl⟩:=vals1 r;exact call_int_int ⟨.int i,H,I,⟨_,rfl⟩,q⟩
 ·obtain⟨u,rfl,r1⟩:=vals1 r;cases r1;exact call_int_bool ⟨.int (if k then 1 else 0),H,I.tok _,⟨_,rfl⟩,q⟩
end
end L2
namespace L2
open PySem PySem.Spec PyProof.Rows
structure ObjM(h:Heap)(x dx C:Addr)(mA:Str->Option Value):Prop where
 obj:h.get? x=some (PySem.W.instObj C dx)
 ns:h.Ns1 dx mA
 ne:dx≠x
theorem zdK{h:Heap}{dx:Addr}{mA:Str->Option Value}(n:h.Ns1 dx mA):∃ od,h.get? dx=some od/\∀ name,PySem.W.lookIn name od=some (mA name):=by
 obtain⟨o,es,ep,ho,hd,hk,_,hm⟩:=n;refine⟨o,ho,fun name=>?_⟩;have e:=hm name;unfold nsFind findBy at e;rw[← Array.find?_toList]at e;unfold PySem.W.lookIn;rw[hd]
 dsimp only
 split
 ·rename_i y q;rw[q]at e;exact congrArg some e
 ·rename_i q;rw[q]at e;have a:es.toList.any (·.refKey)=false:=by
   rw[List.any_eq_false];intro y hy;obtain⟨z,t,hkey⟩:=hk y (Array.mem_toList_iff.mp hy);simp[DictEntry.refKey,hkey]
  have a':¬ es.toList.any (·.refKey)=true:=by rw[a];exact wW
  rw[if_neg a'];exact congrArg some e
theorem ObjM.look{h:Heap}{x dx C:Addr}{mA:Str->Option Value}(I:ObjM h x dx C mA):∃ od,PySem.W.InstAt h x (PySem.W.instObj C dx) C (some od)/\∀ name,PySem.W.lookIn name od=some (mA name) :=
 let ⟨od,ho,hl⟩:=zdK I.ns
 ⟨od,⟨I.obj,rfl,rfl,ho⟩,hl⟩
section
variable{P:Program}{w:World}{H H':Hp}{h h':Heap}{a C dx:Addr}{fs fs':List (Str×V)}
theorem zgJ(hok:HOk P w H h)(e:H a=some (.ins C dx fs)):∃ mA,ObjM h a dx C mA/\(∀ f,RelO (fs.lookup f) (mA f))/\PySem.Within mA (fs.map (·.1))/\fs.length<=1000/\H dx=some (.own a):=by
 obtain⟨d,z,ne,ob,mA,n,r,q⟩:=(show kas P w H h a (.ins C dx fs)from hok a _ e);exact⟨mA,⟨ob,n,ne⟩,r,q,z,d⟩
end
structure Cls(K:PySem.W.Frag)(C:Addr):Prop where
 pg:PySem.W.plainGet K C Str.empty=true
 hd:PySem.W.hasDictIn K C=true
 po:PySem.W.plainOver K C=true
 sa:PySem.W.findIn K (.ref C) "__setattr__" = some (some (.builtin "object.__setattr__"))
theorem Cls.get{K:PySem.W.Frag}{C:Addr}(c:Cls K C)(f:Str):PySem.W.plainGet K C f=true:=c.pg
section
variable{X:Cx}{pins:List (Addr×Obj)}{σ:St}{H:Hp}{s:Shared}{A:Around}{E:Value->Shared->Prop}{Q:Value->Shared->Prop}{c:Value}{b:Bool}
inductive TyOf(K:PySem.W.Frag)(H:Hp):V->Value->Prop where
 | non:TyOf K H .non (.type "NoneType")
 | bl (x:Bool):TyOf K H (.bl x) (.type "bool")
 | int (i:Int):TyOf K H (.int i) (.type "int")
 | str (x:Str):TyOf K H (.str x) (.type "str")
 | flt (x:UInt64):TyOf K H (.flt x) (.type "float")
 | lst {a:Addr} {xs:List V} (e:H a=some (.lst xs)):TyOf K H (.ref a) (.type "list")
 | frz {a:Addr} {o:Obj} {xs:List V} (e:H a=some (.frz o (.lst xs))):TyOf K H (.ref a) (.type "list")
 | tup {a:Addr} {xs:List V} (e:H a=some (.tup xs)):TyOf K H (.ref a) (.type "tuple")
 | dK {a:Addr} {kvs:List (Key×V)} (e:H a=some (.dK kvs)):TyOf K H (.ref a) (.type "dict")
 | dT {a:Addr} {kvs:List (List Key×V)} (e:H a=some (.dT kvs)):TyOf K H (.ref a) (.type "dict")
 | ins {a C dx:Addr} {fs:List (Str×V)} (e:H a=some (.ins C dx fs)) (cl:Cls K C) (ha:PySem.W.findIn K (.ref C) "__class__" = some (some (.builtin "object.__class__")))
   (hn:PySem.W.specialIn K (.builtin "object.__class__") "__get__" = some (some (.builtin "getset_descriptor.__get__"))) (htk:PySem.W.takesIn K (.builtin "object.__class__")=some true)
   (hm:PySem.W.mroIn K C (.type "object")=some true):TyOf K H (.ref a) (.ref C)
theorem zcL{x:V}{u t:Value}(I:Inv X pins σ H s)(rx:RelV x u)(ty:TyOf X.K H x t)(e:PySem.W.kitOne X.K t c=some b)(h:∀ tk,Q (.bool b) { s with toks:=tk }) :
  wpAny (model X.prog X.w) A (call (.builtin "isinstance") [u,c]) Q E s:=by
 cases ty with
 | non=>cases (show u=Value.none from rx);exact PySem.W.kia_one PySem.W.kitx_none I.kIn True.intro e (fun z=>nomatch z) h
 | bl y=>cases (show u=Value.bool y from rx);exact PySem.W.kia_one PySem.W.kitx_bool I.kIn True.intro e (fun z=>nomatch z) h
 | int i=>obtain⟨t,q⟩:=(show ∃ t,u=Value.int i t from rx);cases q;exact PySem.W.kia_one PySem.W.kitx_int I.kIn True.intro e (fun z=>nomatch z) h
 | str y=>obtain⟨t,q⟩:=(show ∃ t,u=Value.str y t from rx);cases q;exact PySem.W.kia_one PySem.W.kitx_str I.kIn True.intro e (fun z=>nomatch z) h
 | flt y=>obtain⟨t,q⟩:=(show ∃ t,u=Value.float y t from rx);cases q;exact PySem.W.kia_one PySem.W.kitx_float I.kIn True.intro e (fun z=>nomatch z) h
 | @lst a xs ea =>
  cases (show u=Value.ref a from rx);obtain⟨_,_,n,_,h1⟩:=(show kas X.prog X.w H s.heap a (.lst xs)from I.hok a _ ea);exact PySem.W.kia_one PySem.W.kitx_list I.kIn ⟨_,h1,rfl⟩ e (fun z=>nomatch z) h
 | @frz a ob xs ea =>
  cases (show u=Value.ref a from rx);obtain⟨_,_,_,n,_,h1⟩:=(show kas X.prog X.w H s.heap a (.frz ob (.lst xs))from I.hok a _ ea);exact PySem.W.kia_one PySem.W.kitx_list I.kIn ⟨_,h1,rfl⟩ e (fun z=>nomatch z) h
 | @tup a xs ea =>
  cases (show u=Value.ref a from rx);obtain⟨_,_,_,p⟩:=(show kas X.prog X.w H s.heap a (.tup xs)from I.hok a _ ea);obtain⟨o,h1,h2,_⟩:=p;exact PySem.W.kia_one PySem.W.kitx_tuple I.kIn ⟨o,h1,h2⟩ e (fun z=>nomatch z) h
 | @dK a kvs ea =>
  cases (show u=Value.ref a from rx);obtain⟨_,_,vs,_,p⟩:=(show kas X.prog X.w H s.heap a (.dK kvs)from I.hok a _ ea);obtain⟨o,es,ep,h1,h2,_⟩:=p;exact PySem.W.kia_one PySem.W.kitx_dict I.kIn ⟨o,h1,h2.1⟩ e (fun z=>nomatch z) h
 | @dT a kvs ea =>
  cases (show u=Value.ref a from rx);obtain⟨_,_,xs,_,o,es,ep,h1,h2,_⟩:=(show kas X.prog X.w H s.heap a (.dT kvs)from I.hok a _ ea);exact PySem.W.kia_one PySem.W.kitx_dict I.kIn ⟨o,h1,h2.1⟩ e (fun z=>nomatch z) h
 | @ins a C dx fs ea cl ha hn htk hm =>
  cases (show u=Value.ref a from rx);obtain⟨mA,O,_⟩:=zgJ I.hok ea;obtain⟨od,J,_⟩:=O.look;exact PySem.W.kia_one (PySem.W.kitx_own (cl.get _) cl.hd ha hn htk hm) I.kIn J e (fun z=>nomatch z) h
end
end L2
namespace L2
open PySem PySem.Spec PyProof.Rows
structure Room(k:Nat)(A:Around):Prop where
 hd:A.handled=none
 dp:A.depth+3*k+5<recursionLimit
 un:A.units+16*k+200<cLine
theorem Room.mono{j k:Nat}{A:Around}(r:Room k A)(h:j<=k):Room j A:=⟨r.hd,by have:=r.dp;omega,by have:=r.un;omega⟩
theorem Room.deeper{k:Nat}{A:Around}(r:Room (k+1) A)(env:Env):Room k (A.deeper env) :=
 ⟨r.hd,by have:=r.dp;show A.depth+1+3*k+5<_;omega,by have:=r.un;show A.units+3+16*k+200<_;omega⟩
theorem Room.depth{k:Nat}{A:Around}(r:Room k A):A.depth<recursionLimit:=by have:=r.dp;omega
theorem Room.units{k:Nat}{A:Around}(r:Room k A):A.units+64<cLine:=by have:=r.un;omega
def tNil:TA:=fun _ H Q=>Q [] H
def tCons(ta:TE)(tr:TA):TA:=fun σ H Q=>ta σ H fun x H1=>tr σ H1 fun xs H2=>Q (x::xs) H2
section
variable{X:Cx}{e:Expr}{es:List Expr}{te:TE}{t:TA}{pos:Pos}
theorem zd:PA X [] tNil:=fun _ _ _ _ H Q I h=>Calls.spliced_nil ⟨[],H,I,.nil,h⟩
theorem za(ha:PE X e te)(hr:PA X es t)(hs:starEach (e::es) X.env =(false,eval e X.env)::starEach es X.env:=by rfl):PA X (e::es) (tCons te t):=by
 intro pos pins s σ H Q I h;rw[hs];show wpAny _ _ (spliced ((false,eval e X.env)::backTo pos (starEach es X.env))) _ _ s;refine Calls.spliced_cons (thn (ha pins s σ H _ I h) fun u s1 ⟨x,H1,I1,r1,q1⟩=>?_);exact thn (hr pos pins s1 σ H1 _ I1 q1) fun us s2 ⟨xs,H2,I2,r2,q2⟩=>⟨x::xs,H2,I2,.cons r1 r2,q2⟩
def tTup(t:TA):TE:=fun σ H Q=>t σ H fun xs H1=>xs.length<=sizeLine/\∀ p,H1 p=none->Q (.ref p) (upd H1 p (.tup xs))
def tLst(t:TA):TE:=fun σ H Q=>t σ H fun xs H1=>xs.length<=sizeLine/\∀ p,H1 p=none->Q (.ref p) (upd H1 p (.lst xs))
theorem yy{x1}(h:PA X es t):PE X (.Tuple es x1 pos) (tTup t):=by
 intro pins s σ H Q I hq;refine wpAny_Tuple_spliced (thn (h pos pins s σ H _ I hq) fun us s1 ⟨xs,H1,I1,r,z,q⟩=>⟨by rw[← r.length];exact z,?_⟩);have hf:H1 s1.heap.objs.size=none:=I1.hok.fresh (ww _);refine⟨.ref s1.heap.objs.size,upd H1 s1.heap.objs.size (.tup xs),I1.laid (t':=s1.toks) (fun b u e=>Heap.get?_push_of_some _ e) (ww _) ?_,rfl,q _ hf⟩;exact⟨z,us,r,⟨_,Heap.get?_push_size _ rfl,rfl,_,rfl⟩⟩
theorem yq(h:PA X es t):PE X (.List es pos) (tLst t):=by
 intro pins s σ H Q I hq;refine wpAny_List_spliced (thn (h pos pins s σ H _ I hq) fun us s1 ⟨xs,H1,I1,r,z,q⟩=>⟨by rw[← r.length];exact z,?_⟩);have hf:H1 s1.heap.objs.size=none:=I1.hok.fresh (ww _);refine⟨.ref s1.heap.objs.size,upd H1 s1.heap.objs.size (.lst xs),I1.laid (t':=s1.toks) (fun b u e=>Heap.get?_push_of_some _ e) (ww _) ?_,rfl,q _ hf⟩;exact⟨z,us,0,r,Heap.get?_push_size _ rfl⟩
end
abbrev Sp:=List V->Hp->VK->XK->Prop
abbrev CXT:=List Env->Hp->Shared->XK->Value->Shared->Prop
structure Env0(P:Program)(w:World)(K:PySem.W.Frag)(mg:Str->Option Value)(base:Heap)(A:Around)(outer:List Env)(s:Shared)(H:Hp):Prop where
 frames:A.frames=some outer
 mod:Mod K mg base
 bs:∀ b o,base.get? b=some o->s.heap.get? b=some o/\H b=none
 bsz:base.objs.size<=s.heap.objs.size
 funs:s.heap.FunFrames base outer
 frf:∀ b∈frs outer,H b=none
 hok:HOk P w H s.heap
 bare:AllBare s.gens
def CE(outer:List Env)(P:Program)(w:World)(H:Hp)(s:Shared)(Q:VK)(u:Value)(s':Shared):Prop :=
 ∃ v H',s'.os=s.os/\AllBare s'.gens/\Un (frs outer) [] H H' s.heap s'.heap/\HOk P w H' s'.heap/\RelV v u/\Q v H'
def CR(CX:CXT)(outer:List Env)(P:Program)(w:World)(H:Hp)(s:Shared)(Q:VK)(E:XK)(r:Result)(s':Shared):Prop :=
 match r with
 | .ok (.ret u)=>CE outer P w H s Q u s'
 | .ok _=>False
 | .error e=>CX outer H s E e s'
structure FnOk(P:Program)(w:World)(K:PySem.W.Frag)(mg:Str->Option Value)(base:Heap)(CX:CXT)(k:Nat)(f:Addr)(fd:FuncData)(ps:List Str)(sp:Sp):Prop where
 len:∀ vs H Q E,sp vs H Q E->vs.length=ps.length
 run:∀(A:Around)(outer:List Env)(s:Shared)(H:Hp)(args:Args)(us:List Value)(vs:List V)(Q:VK)(E:XK),Room k A->Env0 P w K mg base A outer s H->BindsTo s fd args (ps.zip us)->Vals vs us->sp vs H Q E ->
  codeAny (model P w) A (.call (.ref f) args) (CR CX outer P w H s Q E) s
theorem FnOk.imp{P:Program}{w:World}{K:PySem.W.Frag}{mg:Str->Option Value}{base:Heap}{CX:CXT}{k:Nat}{f:Addr}{fd:FuncData}{ps:List Str}{sp sp':Sp}(F:FnOk P w K mg base CX k f fd ps sp)
  (h:∀ vs H Q E,sp' vs H Q E->sp vs H Q E):FnOk P w K mg base CX k f fd ps sp' :=
 ⟨fun vs H Q E q=>F.len vs H Q E (h _ _ _ _ q),fun A outer s H args us vs Q E hr he hb hv hs=>F.run A outer s H args us vs Q E hr he hb hv (h _ _ _ _ hs)⟩
section
variable{X:Cx}{pins:List (Addr×Obj)}{σ:St}{H:Hp}{s s':Shared}
theorem Inv.env0(I:Inv X pins σ H s):Env0 X.prog X.w X.K X.mg X.base X.A X.stack s H :=
 ⟨I.ok.frames,I.ok.mod,I.bs,wD I.ok.bsz I.sz,I.stack,I.stkFree,I.hok,I.bare⟩
theorem Inv.after{Q:VK}{u:Value}(I:Inv X pins σ H s)(h:CE X.stack X.prog X.w H s Q u s'):EP X pins σ Q u s':=by
 obtain⟨v,H',os,bare,un,hok,r,q⟩:=h;obtain⟨hh,g,d,t,os'⟩:=s';obtain rfl:os'=s.os:=os;exact⟨v,H',I.call (h':=hh) (g':=g) (d':=d) (t':=t) (ch:=[]) un hok bare (fun b z=>absurd z (by simp)),r,q⟩
end
def tCall(sp:Sp)(dvs:List V)(E:XK)(t:TA):TE:=fun σ H Q=>t σ H fun vs H1=>sp (vs++dvs) H1 Q E
def Binds(K:PySem.W.Frag)(fd:FuncData)(ps:List Str)(ds:List Value):Prop :=
 ∀(s:Shared)(us:List Value),K.In s.heap->(us++ds).length=ps.length->BindsTo s fd ⟨us,[]⟩ (ps.zip (us++ds))
theorem Binds.all{K:PySem.W.Frag}{fd:FuncData}{ps:List Str}(h:∀ us:List Value,us.length=ps.length->bindArgs fd ⟨us,[]⟩=pure (ps.zip us)):Binds K fd ps []:=fun s us _ hl=>by
 rw[ue]at hl ⊢;exact .of_eq (h us hl)
def Passes(CX:CXT)(X:Cx)(E:XK):Prop:=∀(pins:List (Addr×Obj))(σ:St)(H:Hp)(s:Shared)(e:Value)(s':Shared),Inv X pins σ H s->CX X.stack H s E e s'->X.xe e s'
section
variable{X:Cx}{CX:CXT}{k:Nat}{f C:Addr}{fd:FuncData}{ps:List Str}{sp:Sp}{dvs:List V}{ds:List Value}{E:XK}{x m:Str}{p pos apos:Pos}{e o:Expr}{es:List Expr}{ta:TE}{t:TA}
theorem zht{pins:List (Addr×Obj)}{σ:St}{H:Hp}{s:Shared}{Q:VK}{us:List Value}{vs:List V}(F:FnOk X.prog X.w X.K X.mg X.base CX k f fd ps sp)(hr:Room k X.A)(hb:Binds X.K fd ps ds)(hd:Vals dvs ds)(hx:Passes CX X E)
  (I:Inv X pins σ H s) (r:Vals vs us) (h:sp (vs++dvs) H Q E):wpAny (model X.prog X.w) X.A (call (.ref f) us) (EP X pins σ Q) X.xe s:=by
 have r2:Vals (vs++dvs) (us++ds):=r.append hd;have hl:(us++ds).length=ps.length:=by rw[← r2.length];exact F.len _ _ _ _ h
 refine wpAny_call (codeAny_mono (F.run X.A X.stack s H ⟨us,[]⟩ (us++ds) (vs++dvs) Q E hr I.env0 (hb s us I.kIn hl) r2 h) fun r s' hq=>?_);cases r with
 | error e=>exact hx pins σ H s e s' I hq
 | ok fl =>
  cases fl with
  | ret u=>exact I.after hq
  | next=>exact False.elim hq
  | brk=>exact False.elim hq
  | cont=>exact False.elim hq
theorem zgt(F:FnOk X.prog X.w X.K X.mg X.base CX k f fd ps sp)(hr:Room k X.A)(hg:Gl X x)(hm:X.mg x=some (.ref f))(hk:PySem.W.keepIn X.K (.ref f)=true)(hb:Binds X.K fd ps ds)(hd:Vals dvs ds)(hx:Passes CX X E)
  (ha:PA X (e::es) t) (hdb:(x ==("__debug__" : Str))=false:=by decide) (he:starEach (e::es) X.env =(false,eval e X.env)::starEach es X.env:=by rfl) (hpl:(backTo pos (starEach es X.env)).any (·.1)=false:=by rfl) :
  PE X (.Call (.Name x p) (e::es) [] pos) (tCall sp dvs E t):=by
 intro pins s σ H Q I h;refine wpAny_Call_Name_kw (zg6 I hg hm ?_ hdb);refine PySem.W.callWith_K (h₀:=X.base) I.ok.mod.kin hk (thn (ha pos pins s σ H _ I h) fun us s1 ⟨vs,H1,I1,r,q⟩=>⟨I1.kIn,?_⟩) he hpl;exact zht F hr hb hd hx I1 r q
end
structure kad(N P:List Str)(sc:Scope):Prop where
 kind:sc.kind=.function
 co:sc.isCoroutine=false
 gen:sc.isGenerator=false
 nd:N.Nodup
 pre:N.take P.length=P
 par:∀ x∈P,sc.names.lookup x=some .local\/sc.names.lookup x=some .cell
 nofree:∀ y∈sc.names,y.2≠.free
theorem Qw{kindOf:Str->Option NameKind}{x:Str}:∀ {binds:List (Str×Value)} {m:Str->Option Value},(∀ v,(x,v)∉binds)->bindL kindOf binds m x=m x
 | [],_,_=>rfl
 | (n,v)::r,m,h=>by
  unfold bindL;rw[Qw fun w hw=>h w (wo _ hw)]
  split
  ·have:x≠n:=by rintro rfl;exact h v wk
   simp[this]
  ·rfl
theorem QW{kindOf:Str->Option NameKind}{x:Str}:∀ {binds:List (Str×Value)} {m:Str->Option Value},(∀ v,(x,v)∉binds)->bindC kindOf binds m x=m x
 | [],_,_=>rfl
 | (n,v)::r,m,h=>by
  unfold bindC;rw[QW fun w hw=>h w (wo _ hw)]
  split
  ·rfl
  ·have:x≠n:=by rintro rfl;exact h v wk
   simp[this]
theorem Qz{kindOf:Str->Option NameKind}{x:Str}{v:Value}:∀ {P:List Str} {vs:List Value} {i:Nat} {m:Str->Option Value},P.Nodup->P[i]?=some x->vs[i]?=some v->kindOf x=some .local ->
  bindL kindOf (P.zip vs) m x=some v
 | [],_,_,_,_,h,_,_=>by simp at h
 | _::_,[],_,_,_,_,h,_=>by simp at h
 | p::P,w::vs,0,m,nd,h1,h2,hk=>by
  simp at h1 h2;subst h1;subst h2;show bindL kindOf ((p,w)::P.zip vs) m p=_;unfold bindL;rw[Qw fun v hv=>(gh.mp nd).1 (wZ hv).1,if_pos hk];simp
 | p::P,w::vs,i+1,m,nd,h1,h2,hk=>by
  show bindL kindOf ((p,w)::P.zip vs) m x=_;unfold bindL;exact Qz (i:=i) (gh.mp nd).2 (by simpa using h1) (by simpa using h2) hk
theorem QC{kindOf:Str->Option NameKind}{x:Str}{v:Value}:∀ {P:List Str} {vs:List Value} {i:Nat} {m:Str->Option Value},P.Nodup->P[i]?=some x->vs[i]?=some v->kindOf x≠some .local ->
  bindC kindOf (P.zip vs) m x=some v
 | [],_,_,_,_,h,_,_=>by simp at h
 | _::_,[],_,_,_,_,h,_=>by simp at h
 | p::P,w::vs,0,m,nd,h1,h2,hk=>by
  simp at h1 h2;subst h1;subst h2;show bindC kindOf ((p,w)::P.zip vs) m p=_;unfold bindC;rw[QW fun v hv=>(gh.mp nd).1 (wZ hv).1,if_neg hk];simp
 | p::P,w::vs,i+1,m,nd,h1,h2,hk=>by
  show bindC kindOf ((p,w)::P.zip vs) m x=_;unfold bindC;exact QC (i:=i) (gh.mp nd).2 (by simpa using h1) (by simpa using h2) hk
def start(N:List Str)(vs:List V):St:=vs.map some++vD (N.length - vs.length) none
def cxOf(CX:CXT)(P:Program)(w:World)(K:PySem.W.Frag)(mg:Str->Option Value)(base:Heap)(N:List Str)(qual:Str)(scope:Scope)(f:Addr)(cd:Value)(A:Around)(outer:List Env)(s:Shared)(H:Hp)(E:XK):Cx where
 prog:=P
 w:=w
 K:=K
 mg:=mg
 base:=base
 A:=A.deeper (envOfC qual scope s.heap.objs.size f cd)
 N:=N
 s₀:=s
 H₀:=H
 env:=envOfC qual scope s.heap.objs.size f cd
 outer:=outer
 stack:=envOfC qual scope s.heap.objs.size f cd::outer
 ex:=[]
 calm:=true
 fn:=fun _=>true
 pn:=[]
 xe:=fun e s'=>wpAny (model P w) (A.deeper (envOfC qual scope s.heap.objs.size f cd)) (leaving (envOfC qual scope s.heap.objs.size f cd) e) (fun _ s''=>CX outer H s E e s'') (fun e' s''=>CX outer H s E e' s'') s'
theorem zbg{sc:Scope}{n:Nat}{x:Str}(h:sc.names.lookup x=some .cell):∃ c,(cellsFrom n sc.names []).lookup x=some c:=by
 have q:=PySem.W.cellsFrom_some sc.names n [] (.inl h);exact Option.isSome_iff_exists.mp q
theorem zeq{CX:CXT}{P:Program}{w:World}{K:PySem.W.Frag}{mg:Str->Option Value}{base:Heap}{N ps:List Str}{qual:Str}{scope:Scope}{f:Addr}{cd:Value}{A:Around}{outer:List Env}{s s1:Shared}{H:Hp}{E:XK}{us:List Value}{vs:List V}
  (S:kad N ps scope) (hd:A.handled=none) (e0:Env0 P w K mg base A outer s H) (hl:vs.length=ps.length) (r:Vals vs us)
  (x:InCallC s s.heap.objs.size (bindL (envOfC qual scope s.heap.objs.size f cd).kindOf (ps.zip us) fun _=>none) (cellsFrom (s.heap.objs.size+1) scope.names []) (bindC (envOfC qual scope s.heap.objs.size f cd).kindOf (ps.zip us) fun _=>none) s1) :
  Inv (cxOf CX P w K mg base N qual scope f cd A outer s H E) [] (start N vs) H s1:=by
 have hpl:ps.length<=N.length:=by have:=congrArg gy S.pre;rw[wr]at this;omega
 obtain⟨h1,tk,rfl,hk⟩:=x.done;have noA:∀ b:Addr,b∉(cxOf CX P w K mg base N qual scope f cd A outer s H E).ex:=fun b z=>absurd (show b∈([]:List Addr)from z) (by simp)
 refine⟨⟨e0.mod,S.kind,rfl,rfl,ww _,fun y z c h1 h2=>?_,fun y hy=>?_,fun y c _ h=>?_,fun _=>hd,Around.frames_deeper e0.frames,.inr ⟨rfl,rfl⟩,fun b z=>absurd z (noA b),e0.bs,e0.bsz,fun b _ _=>noA b,fun b z=>absurd z (noA b),e0.funs,e0.frf⟩,
  rfl,e0.bare,Un.kept hk,⟨_,x.toInCall.ns,fun i y v h1 h2 h3=>?_⟩,fun y c h=>⟨_,x.cell y c h⟩,e0.hok.fresh (ww _),fun y c h=>?_,fun p hp=>absurd (show p∈([]:List (Addr×Obj))from hp) (by simp),e0.hok.kept hk,?_⟩
 ·exact name_of_addr x.apart (PySem.mem_of_lookup h1) (PySem.mem_of_lookup h2)
 ·have hy:scope.names.lookup y=some .cell\/scope.names.lookup y=some .free:=hy
  rcases hy with hy|hy
  ·exact zbg hy
  ·exact absurd rfl (S.nofree _ (PySem.mem_of_lookup hy))
 ·exact vW (x.above y c (PySem.mem_of_lookup h))
 ·have hi:i<vs.length:=by
   unfold start at h2
   by_cases hi:i<vs.length
   ·exact hi
   ·rw[wJ (by simpa using hi)]at h2;rw[Gs]at h2
    split at h2 <;> cases h2
  have ha:vs[i]?=some v:=by
   unfold start at h2;rw[wO (by simpa using hi),we]at h2;cases e:vs[i]? with
   | none=>rw[e]at h2;cases h2
   | some a=>rw[e]at h2;cases h2;rfl
  obtain⟨u,hu,rv⟩:=r.get ha;have hp:ps[i]?=some y:=by
   rw[← S.pre,List.getElem?_take_of_lt (by omega)];exact h1
  have ndP:ps.Nodup:=by rw[← S.pre];exact S.nd.sublist (List.take_sublist _ _)
  refine⟨u,rv,?_⟩
  rcases S.par y (wd hp)with k|k
  ·exact .inl ⟨k,Qz ndP hp hu k⟩
  ·obtain⟨c,e⟩:=zbg (n:=s.heap.objs.size+1) k;refine .inr ⟨.inl k,c,e,?_⟩;have q:=x.cell y c e;rw[QC ndP hp hu (by show scope.names.lookup y≠_;rw[k];decide)]at q;exact q
 ·exact e0.hok.fresh (vW (x.above y c (PySem.mem_of_lookup h)))
 ·unfold start;show _=N.length;rw[wy,wa,vL];omega
theorem zia{CX:CXT}{P:Program}{w:World}{K:PySem.W.Frag}{mg:Str->Option Value}{base:Heap}{k:Nat}{f:Addr}{name qual:Str}{params:Arguments}{body:List Stmt}{scope:Scope}{dV kV doc pm cdv ct oc:Value}{an od:Option Addr}
  {osl:Array (Option Value)} {N ps:List Str} {sp:Sp} (lk:K.lookup f=some ⟨oc,od,.func (PySem.W.fnOf name qual params body scope dV kV doc pm an cdv ct),osl⟩) (hcd:PySem.W.codeIn K cdv qual=true) (S:kad N ps scope)
  (len:∀ vs H Q E,sp vs H Q E->vs.length=ps.length)
  (hbody:∀(A:Around)(outer:List Env)(s:Shared)(H:Hp)(vs:List V)(Q:VK)(E:XK),Room k (A.deeper (envOfC qual scope s.heap.objs.size f cdv))->sp vs H Q E ->
   ∃ t,PSs (cxOf CX P w K mg base N qual scope f cdv A outer s H E) body t/\t { nx:=fun _ H'=>Q .non H',rt:=Q } (start N vs) H) :
  FnOk P w K mg base CX (k+1) f (PySem.W.fnOf name qual params body scope dV kV doc pm an cdv ct) ps sp:=by
 refine⟨len,fun A outer s H args us vs Q E hr e0 hb r hsp=>?_⟩;have hl:=len _ _ _ _ hsp;have KX:K.In s.heap:=e0.mod.kin.keeps fun b o e=>(e0.bs b o e).1
 have lim:s.heap.NoLimit:=e0.mod.nolimit.keeps fun b o e=>(e0.bs b o e).1
 have hkind:∀ y∈ps.zip us,scope.names.lookup y.1=some .local\/(scope.names.lookup y.1=some .cell/\((cellsFrom (s.heap.objs.size+1) scope.names []).lookup y.1).isSome=true):=fun⟨n,v⟩ hy=>by
  rcases S.par n (wZ hy).1 with q|q
  ·exact .inl q
  ·exact .inr ⟨q,PySem.W.cellsFrom_some _ _ _ (.inl q)⟩
 refine codeAny_call_function hr.depth (KX _ _ lk) rfl S.co S.gen rfl (PySem.W.codeRec_of KX hcd) (hb _ _ _ _ ?_);refine wpAny_newFunctionEnv_cells S.kind hkind fun env he s1 x=>?_
 subst he;refine⟨lim.keeps x.toInCall.keep,codeAny_func ?_⟩;obtain⟨t,ht,hq⟩:=hbody A outer s H vs Q E (hr.deeper _) hsp;have I:Inv (cxOf CX P w K mg base N qual scope f cdv A outer s H E) [] (start N vs) H s1:=zeq S hr.hd e0 hl r x;refine wpAny_mono (ht [] s1 (start N vs) H _ I hq) (fun fl s' hs=>?_) fun e s' hs=>hs
 have fin:∀ {σ':St} {H':Hp} {v:V} {u:Value},Inv (cxOf CX P w K mg base N qual scope f cdv A outer s H E) [] σ' H' s'->RelV v u->Q v H'->CE outer P w H s Q u s' :=
  fun {σ' H' v u} J rv q=>⟨v,H',J.os,J.bare,J.base,J.hok,rv,q⟩
 cases fl with
 | ret u =>
  obtain⟨v,σ',H',J,rv,q⟩:=hs;exact fin J rv q
 | next =>
  obtain⟨σ',H',J,q⟩:=hs;exact fin (v:=V.non) (u:=Value.none) J rfl q
 | brk =>
  obtain⟨_,_,_,q⟩:=hs;exact False.elim q
 | cont =>
  obtain⟨_,_,_,q⟩:=hs;exact False.elim q
end L2
namespace L2
open PySem PySem.Spec PyProof.Rows
section
variable{X:Cx}{x:Str}{p pos:Pos}{e:Expr}{es:List Expr}{t:TA}{id T:String}{r:List V->Hp->VK->Prop}
def tCB(r:List V->Hp->VK->Prop)(t:TA):TE:=fun σ H Q=>t σ H fun vs H1=>r vs H1 Q
theorem zp (hc:CallR X (.builtin id) r) (hg:Gl X x) (hm:X.mg x=none) (hv:bootBuiltins x=some (.builtin id)) (ha:PA X (e::es) t) (hn:x ≠ "__name__" := by decide) (hdb:(x ==("__debug__" : Str))=false:=by decide)
  (he:starEach (e::es) X.env =(false,eval e X.env)::starEach es X.env:=by rfl) (hpl:(backTo pos (starEach es X.env)).any (·.1)=false:=by rfl):PE X (.Call (.Name x p) (e::es) [] pos) (tCB r t):=by
 intro pins s σ H Q I h;refine wpAny_Call_Name_kw (Qm I hg hm hv ?_ hn hdb);exact PyProof.Rows.callWith_builtin1 (thn (ha pos pins s σ H _ I h) fun us s1 ⟨vs,H1,I1,r1,q1⟩=>hc pins s1 σ H1 vs us Q I1 r1 q1) he hpl
theorem Za (hc:CallR X (.type T) r) (hg:Gl X x) (hm:X.mg x=none) (hv:bootBuiltins x=some (.type T)) (ha:PA X (e::es) t) (hn:x ≠ "__name__" := by decide) (hdb:(x ==("__debug__" : Str))=false:=by decide)
  (he:starEach (e::es) X.env =(false,eval e X.env)::starEach es X.env:=by rfl) (hpl:(backTo pos (starEach es X.env)).any (·.1)=false:=by rfl):PE X (.Call (.Name x p) (e::es) [] pos) (tCB r t):=by
 intro pins s σ H Q I h;refine wpAny_Call_Name_kw (Qm I hg hm hv ?_ hn hdb);exact PyProof.Rows.callWith_type1 (thn (ha pos pins s σ H _ I h) fun us s1 ⟨vs,H1,I1,r1,q1⟩=>hc pins s1 σ H1 vs us Q I1 r1 q1) he hpl
end
end L2
namespace HT
open PySem PyProof.Rows
section
variable{prog:Program}{w:World}{A:Around}{E:Value->Shared->Prop}{s:Shared}
def sIx(n d:Nat):Option Int->Nat
 | none=>d
 | some v=>if v<0 then(v +(n:Int)).toNat else min v.toNat n
theorem qK(n d:Nat):sIx n d none=d:=rfl
theorem Yt(n d k:Nat):sIx n d (some (k:Int))=min k n:=by
 show(if (k:Int)<0 then((k:Int) +(n:Int)).toNat else min (k:Int).toNat n)=min k n;rw[if_neg (by omega),wR]
theorem zhP(n d:Nat)(hd:d<=n)(o:Option Int):sIx n d o<=n:=by
 cases o with
 | none=>exact hd
 | some v =>
  show(if v<0 then(v +(n:Int)).toNat else min v.toNat n)<=n
  by_cases hv:v<0
  ·rw[if_pos hv];omega
  ·rw[if_neg hv];exact uW _ _
theorem zd1(v:Int)(n d:Nat):(if v<0 then max (v +(n:Int)) 0 else min v (n:Int)) =((sIx n d (some v):Nat):Int):=by
 show(if v<0 then max (v +(n:Int)) 0 else min v (n:Int)) =(((if v<0 then(v +(n:Int)).toNat else min v.toNat n):Nat):Int)
 by_cases hv:v<0
 ·simp only[if_pos hv];omega
 ·simp only[if_neg hv];omega
theorem zcd(lo hi:Option Int)(n:Nat):Builtin.Slice.sliceAdjust lo hi 1 (n:Int) =(((sIx n 0 lo:Nat):Int),((sIx n n hi:Nat):Int)):=by
 have h1:¬((1:Int)<0):=by omega
 unfold Builtin.Slice.sliceAdjust;simp only[h1,if_false];refine Prod.ext ?_ ?_
 ·cases lo with
  | none=>rfl
  | some v=>exact zd1 v n 0
 ·cases hi with
  | none=>rfl
  | some v=>exact zd1 v n n
theorem zcg(i j:Nat):Builtin.Slice.slicePlaces (i:Int) (j:Int) 1=j - i:=by
 unfold Builtin.Slice.slicePlaces;have h1:(1:Int) > 0:=by omega
 simp only[h1,if_true,Int.ediv_one]
 split <;> omega
theorem Ja{v:Value}{o:Option Int}{Q:Option Int->Shared->Prop}(p:IsPart v o)(h:Q o s):wpAny (model prog w) A (Builtin.Slice.slicePartIndex v) Q E s:=by
 cases p with
 | none=>exact slicePart_none h
 | int i t=>exact slicePart_int h
theorem ZM{sl:Addr}{vl vu:Value}{lo hi:Option Int}{n:Nat}{Q:Int×Int×Nat->Shared->Prop}(hs:s.heap.IsSliceOf sl vl vu .none)(pl:IsPart vl lo)(pu:IsPart vu hi)
  (h:Q (((sIx n 0 lo:Nat):Int),1,sIx n n hi - sIx n 0 lo) s):wpAny (model prog w) A (Builtin.Slice.sliceApplied (.ref sl) (pure (n:Int))) Q E s:=by
 obtain⟨os,hos,hcs,hds⟩:=id hs;unfold Builtin.Slice.sliceApplied Builtin.Slice.sliceFields;refine wpAny_bind (wpAny_bind (wpAny_field hos hds (x:=vl) rfl (wpAny_bind (wpAny_field hos hds (x:=vu) rfl (wpAny_bind (wpAny_field hos hds (x:=.none) rfl (wpAny_pure ?_)))))));refine wpAny_bind (slicePart_none ?_);show wpAny _ _ (if ((1:Int) == 0)=true then _ else _) _ _ s;rw[if_neg (by decide)];refine wpAny_bind (Ja pl (wpAny_bind (Ja pu (wpAny_bind (wpAny_pure ?_)))));show wpAny _ _ (match Builtin.Slice.sliceAdjust lo hi 1 (n:Int)with | (lo,hi)=>pure (lo,(1:Int),Builtin.Slice.slicePlaces lo hi 1)) _ _ s;rw[zcd lo hi n];show wpAny _ _ (pure (((sIx n 0 lo:Nat):Int),(1:Int),Builtin.Slice.slicePlaces ((sIx n 0 lo:Nat):Int) ((sIx n n hi:Nat):Int) 1)) _ _ s;rw[zcg];exact wpAny_pure h
theorem zfL(xs:Array Value)(i k:Nat):((vd k).filterMap fun(m:Nat)=>xs[((i:Int) +(m:Int)*1).toNat]?).toArray =((xs.toList.drop i).take k).toArray:=by
 have e:(fun(m:Nat)=>xs[((i:Int) +(m:Int)*1).toNat]?)=fun m=>xs[i+m]?:=by
  funext m
  have:((i:Int) +(m:Int)*1).toNat=i+m:=by omega
  rw[this]
 rw[e];have:=pick_run xs i k;rw[List.filterMap_map]at this;have e2:((fun x=>xs[x]?) ∘ fun x=>i+x)=fun m=>xs[i+m]?:=rfl
 rw[e2]at this;rw[this]
theorem Zm{t sl:Addr}{items:Array Value}{vl vu:Value}{lo hi:Option Int}{Q:Value->Shared->Prop}(ht:IsTup s.heap t items)(hs:s.heap.IsSliceOf sl vl vu .none)(pl:IsPart vl lo)(pu:IsPart vu hi)
  (hw:¬(sIx items.size 0 lo=0/\sIx items.size items.size hi=items.size))
  (h:Q (.ref s.heap.objs.size) { s with heap:=s.heap.push { cls:=.type "tuple",data:=.seq ((items.toList.drop (sIx items.size 0 lo)).take (sIx items.size items.size hi - sIx items.size 0 lo)).toArray } })
  (hsz:items.size<=sizeLine):wpAny (model prog w) A (getItem (.ref t) (.ref sl)) Q E s:=by
 have htake:sizeOk (.seq ((items.toList.drop (sIx items.size 0 lo)).take (sIx items.size items.size hi - sIx items.size 0 lo)).toArray):=by
  show((items.toList.drop (sIx items.size 0 lo)).take (sIx items.size items.size hi - sIx items.size 0 lo)).toArray.size<=sizeLine;rw[wI,wr,uD,Array.length_toList];omega
 have hj:sIx items.size items.size hi<=items.size:=zhP _ _ (ww _) hi;obtain⟨os,hos,hcs,hds⟩:=id hs;have hTs:s.TypeIs (.ref sl) "slice" :=⟨os,hos,hcs⟩;unfold getItem
 try with_reducible refine wpAny_holding ?_
 first|refine wpAny_bind (wpAny_pure ?_) | skip
 refine wpAny_bind (wpAny_sequenceKey ht.typeIs (by decide) ?_);refine wpAny_bind (wpAny_callSpecial?_slot (name:=Str.ofString "__getitem__") ht.typeIs PyProof.Rows.slot_tuple_getitem
  (wpAny_call_entry PyProof.Rows.slot_tuple_getitem ht.typeIs entry_tuple_getitem ?_ (args_tuple_getitem _ _)))
 show wpAny _ _ (Builtin.Tuple.tupleItemsOf (.ref t) >>= _) _ _ s;refine wpAny_bind (tupleItemsOf_ ht ?_);refine wpAny_bind (wpAny_typeOf hTs ?_);rw[if_pos (by decide)];refine wpAny_bind (ZM hs pl pu ?_);have hno:¬((((sIx items.size 0 lo:Nat):Int) == 0 && (1:Int) == 1 && (sIx items.size items.size hi - sIx items.size 0 lo) == items.size)=true):=by
  intro q;rw[uX,uX]at q;have q1:((sIx items.size 0 lo:Nat):Int)=0:=eq_of_beq q.1.1;have q2:sIx items.size items.size hi - sIx items.size 0 lo=items.size:=eq_of_beq q.2;exact hw ⟨by omega,by omega⟩
 show wpAny _ _ (if (((sIx items.size 0 lo:Nat):Int) == 0 && (1:Int) == 1 && (sIx items.size items.size hi - sIx items.size 0 lo) == items.size)=true then _ else _) _ _ s;rw[if_neg hno,zfL]
 first
  | exact wpAny_bind (m:=Builtin.Tuple.tupleExact _) (wpAny_newObj_type (wpAny_pure ⟨_,rfl,wpAny_pure h⟩) htake)
  | exact wpAny_bind (m:=Builtin.Tuple.tupleExact _) (wpAny_newObj_type (wpAny_bind (wpAny_pure (wpAny_pure ⟨_,rfl,wpAny_pure h⟩))) htake)
  | exact wpAny_bind (wpAny_bind (m:=Builtin.Tuple.tupleExact _) (wpAny_newObj_type (wpAny_pure (wpAny_pure ⟨_,rfl,wpAny_pure h⟩)) htake))
  | exact wpAny_bind (wpAny_bind (m:=Builtin.Tuple.tupleExact _) (wpAny_newObj_type (wpAny_pure ⟨_,rfl,wpAny_pure h⟩) htake))
end
end HT
namespace L2
open PySem PySem.Spec PyProof.Rows
abbrev TO:=St->Hp->(Option Int->Hp->Prop)->Prop
def PO(X:Cx)(e:Option Expr)(t:TO):Prop :=
 ∀(pins:List (Addr×Obj))(s:Shared)(σ:St)(H:Hp)(Q:Option Int->Hp->Prop),Inv X pins σ H s->t σ H Q ->
  wpAny (model X.prog X.w) X.A (evalPart e X.env) (fun u s'=>∃ o H',Inv X pins σ H' s'/\IsPart u o/\Q o H') X.xe s
def tNoPart:TO:=fun _ H Q=>Q none H
def tPart(t:TE):TO:=fun σ H Q=>t σ H fun x H1=>∃ i,x=.int i/\Q (some i) H1
section
variable{X:Cx}{e:Expr}{te:TE}{lo hi:Option Expr}{tl th:TO}{pos p2:Pos}
theorem jO:PO X none tNoPart:=by
 intro pins s σ H Q I h;rw[evalPart_none];exact wpAny_pure ⟨none,H,I,.none,h⟩
theorem xY(h:PE X e te):PO X (some e) (tPart te):=by
 intro pins s σ H Q I hw;rw[evalPart_some];refine thn (h pins s σ H _ I hw) fun u s1 ⟨x,H1,I1,r1,q1⟩=>?_
 obtain⟨i,rfl,q⟩:=q1;obtain⟨t,rfl⟩:=r1;exact⟨some i,H1,I1,.int i t,q⟩
def SlR(X:Cx)(r:V->Option Int->Option Int->Hp->VK->Prop):Prop :=
 ∀(pins:List (Addr×Obj))(s:Shared)(σ:St)(H:Hp)(x:V)(v vl vu:Value)(lo hi:Option Int)(sl:Addr)(Q:VK),Inv X pins σ H s->RelV x v->s.heap.IsSliceOf sl vl vu .none->IsPart vl lo->IsPart vu hi->r x lo hi H Q ->
  ∃ T id,typeLookup (.type T) "__getitem__" = pure (some (.builtin id))/\s.TypeIs v T/\wpAny (model X.prog X.w) X.A (getItem v (.ref sl)) (EP X pins σ Q) X.xe s
def tSl(r:V->Option Int->Option Int->Hp->VK->Prop)(te:TE)(tl th:TO):TE:=fun σ H Q=>te σ H fun x H1=>tl σ H1 fun l H2=>th σ H2 fun u H3=>r x l u H3 Q
theorem xv{r:V->Option Int->Option Int->Hp->VK->Prop}(hr:SlR X r)(he:PE X e te)(hl:PO X lo tl)(hu:PO X hi th):PE X (.Subscript e (.Slice lo hi none p2) pos) (tSl r te tl th):=by
 intro pins s σ H Q I h;refine Subscript_ (thn (he pins s σ H _ I h) fun v s1 ⟨x,H1,I1,r1,q1⟩=>?_);refine wpAny_Slice (thn (hl pins s1 σ H1 _ I1 q1) fun vl s2 ⟨l,H2,I2,pl,q2⟩=>thn (hu pins s2 σ H2 _ I2 q2) fun vu s3 ⟨u,H3,I3,pu,q3⟩=>?_);rw[evalPart_none];refine wpAny_pure ?_;have I4:Inv X pins σ H3 { s3 with heap:=s3.heap.push { cls:=.type "slice",data:=.fields #[vl,vu,.none] } }:=I3.kept (t':=s3.toks) fun b ob q=>Heap.get?_push_of_some _ q
 obtain⟨T,id,hT,ht,hg⟩:=hr pins { s3 with heap:=s3.heap.push { cls:=.type "slice",data:=.fields #[vl,vu,.none] } } σ H3 x v vl vu l u s3.heap.objs.size Q I4 r1 (Heap.IsSliceOf.new ..) pl pu q3;show wpAny (model X.prog X.w) X.A (subscriptTail e (.Slice lo hi none p2) v (.ref s3.heap.objs.size)) (EP X pins σ Q) X.xe { s3 with heap:=s3.heap.push { cls:=.type "slice",data:=.fields #[vl,vu,.none] } };exact tail_any (ops:=[.ref s3.heap.objs.size,v]) ht hT hg (by with_unfolding_all rfl)
def cutV(xs:List V)(lo hi:Option Int):List V:=(xs.drop (HT.sIx xs.length 0 lo)).take (HT.sIx xs.length xs.length hi - HT.sIx xs.length 0 lo)
theorem YC(xs:List V)(lo hi:Option Int):(cutV xs lo hi).length<=xs.length:=by
 unfold cutV;rw[wr,uD];omega
def rSlT(K:PySem.W.Frag):V->Option Int->Option Int->Hp->VK->Prop:=fun x lo hi H Q=>∃ a xs,x=.ref a/\SqT K H a xs /\
 ¬(HT.sIx xs.length 0 lo=0/\HT.sIx xs.length xs.length hi=xs.length)/\∀ p,H p=none->Q (.ref p) (upd H p (.tup (cutV xs lo hi)))
theorem zhK:SlR X (rSlT X.K):=by
 intro pins s σ H x v vl vu lo hi sl Q I rx hs pl pu h;obtain⟨a,xs,rfl,hx,hw,q⟩:=h;cases rx;obtain⟨its,r,ht,hz⟩:=I.tuple hx;have hlen:its.toArray.size=xs.length:=by rw[wI];exact r.length.symm
 refine⟨"tuple",_,PyProof.Rows.slot_tuple_getitem.lookup,ht.typeIs,?_⟩;refine HT.Zm ht hs pl pu (by rw[hlen];exact hw) ?_ (by rw[hlen];exact hz);rw[hlen];refine⟨.ref s.heap.objs.size,_,I.laid (t':=s.toks) (o:=.tup (cutV xs lo hi)) (fun b ob q=>Heap.get?_push_of_some _ q) (ww _) ?_,rfl,q _ (I.hok.fresh (ww _))⟩;exact⟨wD (YC xs lo hi) hz,_,(r.drop (HT.sIx xs.length 0 lo)).take (HT.sIx xs.length xs.length hi - HT.sIx xs.length 0 lo),IsTup.new _ _⟩
end
end L2
namespace L2
open PySem PySem.Spec PyProof.Rows
def ixN(n:Nat)(i:Int):Option Nat:=if 0<=i then(if i<n then some i.toNat else none)else if -(n:Int)<=i then some (i+n).toNat else none
def atI{α:Type}(xs:List α)(i:Int):Option α:=(ixN xs.length i).bind fun j=>xs[j]?
theorem zdd{n:Nat}{i:Int}{j:Nat}(h:ixN n i=some j):seqIndex? i n=some j/\j<n/\-(n:Int)<=i/\i<n:=by
 unfold ixN at h
 by_cases h0:0<=i
 ·rw[if_pos h0]at h
  by_cases h1:i<n
  ·rw[if_pos h1]at h;have e:i.toNat=j:=Option.some.inj h;exact⟨by rw[seqIndex_of h0 h1,e],by omega,by omega,h1⟩
  ·rw[if_neg h1]at h;cases h
 ·rw[if_neg h0]at h
  by_cases h1 : -(n:Int)<=i
  ·rw[if_pos h1]at h;have e:(i+n).toNat=j:=Option.some.inj h;exact⟨by rw[seqIndex_neg (by omega) h1,e],by omega,h1,by omega⟩
  ·rw[if_neg h1]at h;cases h
theorem zdF{α:Type}{xs:List α}{i:Int}{v:α}(h:atI xs i=some v):∃ j,seqIndex? i xs.length=some j/\xs[j]?=some v/\j<xs.length/\-(xs.length:Int)<=i/\i<xs.length:=by
 unfold atI at h;cases e:ixN xs.length i with
 | none=>rw[e]at h;cases h
 | some j =>
  rw[e]at h;obtain⟨h1,h2,h3,h4⟩:=zdd e;exact⟨j,h1,h,h2,h3,h4⟩
theorem zD{α:Type}{xs:List α}{j:Nat}{v:α}(h:xs[j]?=some v):atI xs (j:Int)=some v:=by
 have hj:j<xs.length:=(wp.mp h).1;have e:ixN xs.length (j:Int)=some j:=by
  unfold ixN;rw[if_pos (by omega),if_pos (by omega)];simp
 unfold atI;rw[e];exact h
theorem zfx{α:Type}(xs:List α)(v:α):atI (xs++[v]) (-1)=some v:=by
 have hl:(xs++[v]).length=xs.length+1:=by simp
 have e:ixN (xs++[v]).length (-1)=some xs.length:=by
  unfold ixN;rw[hl,if_neg (by decide),if_pos (by omega)]
  congr 1
  omega
 unfold atI;rw[e];show(xs++[v])[xs.length]?=some v;simp
def PlainIx(b:Expr):Prop:=∀ o i,subscripted b false o i=operate [o,i] (getItem o i)
def IxR(X:Cx)(r:R2):Prop :=
 ∀(value slice:Expr)(pins:List (Addr×Obj))(s:Shared)(σ:St)(H:Hp)(x y:V)(v u:Value)(Q:VK),Inv X pins σ H s->RelV x v->RelV y u->r x y H Q ->
  subscripted slice false v u=operate [v,u] (getItem v u)->wpAny (model X.prog X.w) X.A (subscriptTail value slice v u) (EP X pins σ Q) X.xe s
def MtR(X:Cx)(id:String)(r:V->List V->Hp->VK->Prop):Prop :=
 ∀(pins:List (Addr×Obj))(s:Shared)(σ:St)(H:Hp)(x:V)(xs:List V)(v:Value)(us:List Value)(Q:VK),Inv X pins σ H s->RelV x v->Vals xs us->r x xs H Q ->
  wpAny (model X.prog X.w) X.A (call (.builtin id) (v::us)) (EP X pins σ Q) X.xe s
section
variable{X:Cx}{a b:Expr}{ta tb:TE}{pos:Pos}
theorem zid{r:R2}(hr:IxR X r)(ha:PE X a ta)(hb:PE X b tb)(hs:PlainIx b):PE X (.Subscript a b pos) (tOp r ta tb):=by
 intro pins s σ H Q I h;exact Subscript_ (binT ha hb I h fun v u s2 x y H2 I2 rx ry q=>hr a b pins s2 σ H2 x y v u Q I2 rx ry q (hs _ _))
inductive zf6(K:PySem.W.Frag)(x y:V)(H:Hp)(Q:VK):Prop where
 | mk (p:Addr) (xs:List V) (i:Int) (v:V) (h0_:x=.ref p) (h1_:y=.int i) (h2_:SqL K H p xs) (h3_:atI xs i=some v) (h4_:Q v H):zf6 K x y H Q
def rIxL(K:PySem.W.Frag):R2:=fun x y H Q=>zf6 K x y H Q
inductive zf4(K:PySem.W.Frag)(x y:V)(H:Hp)(Q:VK):Prop where
 | mk (p:Addr) (xs:List V) (i:Int) (v:V) (h0_:x=.ref p) (h1_:y=.int i) (h2_:SqT K H p xs) (h3_:atI xs i=some v) (h4_:Q v H):zf4 K x y H Q
def rIxT(K:PySem.W.Frag):R2:=fun x y H Q=>zf4 K x y H Q
theorem zes:IxR X (rIxL X.K):=by
 intro value slice pins s σ H x y v u Q I rx ry h hs;obtain⟨p,xs,i,z,rfl,rfl,hq,he,q⟩:=h;cases rx;obtain⟨t,rfl⟩:=ry;obtain⟨its,r,pl,hz⟩:=I.list hq;obtain⟨j,h1,h2,h3,h4,h5⟩:=zdF he;obtain⟨w,ew,rw'⟩:=r.get h2;have hl:=r.length;have hn:=line63;have fin:EP X pins σ Q w s:=⟨z,H,I,rw',q⟩
 by_cases h0:0<=i
 ·have hj:i.toNat=j:=by
   rw[seqIndex_of h0 h5]at h1;exact Option.some.inj h1
  exact item_listR pl.isList h0 (by omega) (by rw[hj];simpa using ew) fin hs
 ·have hj:(i +(its.toArray.size:Int)).toNat=j:=by
   rw[seqIndex_neg (by omega) h4]at h1;rw[wI,← hl];exact Option.some.inj h1
  exact subscriptTail_builtinR (x:=w) pl.isList.typeIs slot_list_getitem.lookup
   (wpAny_getItem_list_neg (Q:=fun r s'=>r=w/\EP X pins σ Q r s') pl.isList (by omega) (by rw[wI] <;> omega) (by omega) (by rw[hj];simpa using ew) ⟨rfl,fin⟩) hs
theorem zgf:IxR X (rIxT X.K):=by
 intro value slice pins s σ H x y v u Q I rx ry h hs;obtain⟨p,xs,i,z,rfl,rfl,hq,he,q⟩:=h;cases rx;obtain⟨t,rfl⟩:=ry;obtain⟨its,r,pl,hz⟩:=I.tuple hq;obtain⟨j,h1,h2,h3,h4,h5⟩:=zdF he;obtain⟨w,ew,rw'⟩:=r.get h2;have hl:=r.length;have hn:=line63;have fin:EP X pins σ Q w s:=⟨z,H,I,rw',q⟩;exact subscriptTail_builtinR (x:=w) pl.typeIs slot_tuple_getitem.lookup
  (getItem_tuple (j:=j) (Q:=fun r s'=>r=w/\EP X pins σ Q r s') pl (by omega) (by omega) (by rw[wI,← hl];exact h1) (by simpa using ew) ⟨rfl,fin⟩) hs
theorem zci (its:List Value) (n j:Nat) (u:Value):Obj.mapSeq (·.setIfInBounds j u) { cls:=.type "list",data:=.seq its.toArray n }={ cls:=.type "list",data:=.seq (its.set j u).toArray n }:=by
 simp[Obj.mapSeq]
theorem Inv.lst{pins:List (Addr×Obj)}{σ:St}{H:Hp}{s:Shared}{p:Addr}{xs:List V}(I:Inv X pins σ H s)(h:H p=some (.lst xs)) :
  ∃(its:List Value)(n:Nat),Vals xs its/\s.heap.get? p=some { cls:=.type "list",data:=.seq its.toArray n }/\xs.length<=sizeLine:=by
 obtain⟨z,its,n,r,e⟩:=I.hok p _ h;exact⟨its,n,r,e,z⟩
theorem Inv.lstUpd{pins:List (Addr×Obj)}{σ:St}{H:Hp}{s:Shared}{p:Addr}{xs ys:List V}{its its':List Value}{n n':Nat}{f:Obj->Obj}(I:Inv X pins σ H s)(h:H p=some (.lst xs))
  (ho:s.heap.get? p=some { cls:=.type "list",data:=.seq its.toArray n }) (hf:f { cls:=.type "list",data:=.seq its.toArray n }={ cls:=.type "list",data:=.seq its'.toArray n' }) (r:Vals ys its') (hz:ys.length<=sizeLine) (t:Nat) :
  Inv X pins σ (upd H p (.lst ys)) { s with heap:=s.heap.update p f,toks:=t }:=by
 have e:(s.heap.update p f).get? p=some { cls:=.type "list",data:=.seq its'.toArray n' }:=by
  rw[Heap.get?_update_self f ho (by rw[hf] <;> rfl),hf]
 refine I.write (x:=p) (e:=p) (by rw[h];trivial) (.inl rfl) (fun b u hb q=>(Heap.get?_update_other _ _ (Ne.symm hb)).trans q) ⟨_,e⟩ ?_;exact⟨hz,its',n',r,e⟩
inductive zek(o i v:V)(H:Hp)(Q:Hp->Prop):Prop where
 | mk (p:Addr) (xs:List V) (k:Int) (j:Nat) (h0_:o=.ref p) (h1_:i=.int k) (h2_:H p=some (.lst xs)) (h3_:ixN xs.length k=some j) (h4_:Q (upd H p (.lst (xs.set j v)))):zek  o i v H Q
def rSetL:V->V->V->Hp->(Hp->Prop)->Prop:=fun o i v H Q=>zek  o i v H Q
theorem Zb:PSet X rSetL:=by
 intro pins s σ H o i v ov iv u Q I ro ri rv h;obtain⟨p,xs,k,j,rfl,rfl,hp,hj,q⟩:=h;cases ro;obtain⟨t,rfl⟩:=ri;obtain⟨its,n,r,ho,hz⟩:=I.lst hp;obtain⟨h1,h2,h3,h4⟩:=zdd hj;have hl:=r.length;have hn:=line63;have I':Inv X pins σ (upd H p (.lst (xs.set j v))) { s with heap:=s.heap.update p (Obj.mapSeq (·.setIfInBounds j u)) } :=
  I.lstUpd hp ho (zci its n j u) (r.set rv j) (by rw[vf];exact hz) s.toks
 by_cases h0:0<=k
 ·have hk:k.toNat=j:=by
   rw[seqIndex_of h0 h4]at h1;exact Option.some.inj h1
  exact PySem.W.ki_setAt ho h0 (by omega) (by rw[wI,← hl];exact h4) (by rw[hk];exact⟨_,I',q⟩)
 ·have hk:(k +(its.toArray.size:Int)).toNat=j:=by
   rw[seqIndex_neg (by omega) h3]at h1;rw[wI,← hl];exact Option.some.inj h1
  exact PySem.W.ki_setBack ho (by omega) (by rw[wI,← hl];exact h3) (by omega) (by rw[hk];exact⟨_,I',q⟩)
theorem zap(lo hi:Option Int)(n:Nat):(sliceBounds lo hi none n).1 =((HT.sIx n 0 lo:Nat):Int)/\(sliceBounds lo hi none n).2.1 =((HT.sIx n n hi:Nat):Int)/\(sliceBounds lo hi none n).2.2=1:=by
 refine⟨?_,?_,rfl⟩
 ·cases lo with
  | none=>simp[sliceBounds,HT.sIx]
  | some i =>
   simp only[sliceBounds,HT.sIx,wal,show(1:Int) > 0 by decide,if_true]
   by_cases h:i<0
   ·simp only[h,if_true] <;> omega
   ·simp only[h,if_false] <;> omega
 ·cases hi with
  | none=>simp[sliceBounds,HT.sIx]
  | some i =>
   simp only[sliceBounds,HT.sIx,wal,show(1:Int) > 0 by decide,if_true]
   by_cases h:i<0
   ·simp only[h,if_true] <;> omega
   ·simp only[h,if_false] <;> omega
theorem JM(its:List Value)(lo hi:Option Int):slicePick its.toArray lo hi none =((its.drop (HT.sIx its.length 0 lo)).take (HT.sIx its.length its.length hi - HT.sIx its.length 0 lo)).toArray:=by
 obtain⟨h1,h2,h3⟩:=zap lo hi its.toArray.size;unfold slicePick;rw[h1,h2,h3];simp only[sliceRange_one,pick_run,wI] <;> rfl
inductive zgb(K:PySem.W.Frag)(x:V)(lo hi:Option Int)(H:Hp)(Q:VK):Prop where
 | mk (a:Addr) (xs:List V) (h0_:x=.ref a) (h1_:SqL K H a xs) (h2_:∀ p,H p=none->Q (.ref p) (upd H p (.lst (cutV xs lo hi)))):zgb K x lo hi H Q
def rSlL(K:PySem.W.Frag):V->Option Int->Option Int->Hp->VK->Prop:=fun x lo hi H Q=>zgb K x lo hi H Q
theorem zdc:SlR X (rSlL X.K):=by
 intro pins s σ H x v vl vu lo hi sl Q I rx hs pl pu h;obtain⟨a,xs,rfl,hx,q⟩:=h;cases rx;obtain⟨its,r,ht,hz⟩:=I.list hx;have hlen:=r.length;refine⟨"list",_,slot_list_getitem.lookup,ht.isList.typeIs,?_⟩;refine wpAny_getItem_list_slice ht.isList hs pl pu .none (by simp) ?_ (by rw[wI] <;> omega);rw[JM,← hlen];refine⟨.ref s.heap.objs.size,_,I.laid (t':=s.toks) (o:=.lst (cutV xs lo hi)) (fun b ob q=>Heap.get?_push_of_some _ q) (ww _) ?_,rfl,q _ (I.hok.fresh (ww _))⟩;exact⟨wD (YC xs lo hi) hz,_,0,(r.drop (HT.sIx xs.length 0 lo)).take (HT.sIx xs.length xs.length hi - HT.sIx xs.length 0 lo),Heap.get?_push_size _ rfl⟩
theorem QM:CallR X (.builtin "len") (fun xs H Q=>∃ p ys,xs=[.ref p]/\(SqL X.K H p ys\/SqT X.K H p ys)/\Q (.int ys.length) H):=by
 intro pins s σ H xs us Q I r h;obtain⟨p,ys,rfl,hq,q⟩:=h;obtain⟨u,rfl,rx⟩:=vals1 r;cases rx;have hn:=line63
 rcases hq with hq|hq
 ·obtain⟨its,r',pl,hz⟩:=I.list hq;have hlen:=r'.length;exact Calls.call_len_list pl.isList (by simp only[wI] <;> omega) ⟨.int ys.length,H,I.tok _,⟨s.toks+1,by rw[wI,hlen]⟩,q⟩
 ·obtain⟨its,r',pl,hz⟩:=I.tuple hq;have hlen:=r'.length;exact len_tuple pl (by simp only[wI] <;> omega) ⟨.int ys.length,H,I.tok _,⟨s.toks+1,by rw[wI,hlen]⟩,q⟩
theorem QJ:CallR X (.type "list") (fun xs H Q=>∃ p ys,xs=[.ref p]/\(SqL X.K H p ys\/SqT X.K H p ys)/\∀ l,H l=none->Q (.ref l) (upd H l (.lst ys))):=by
 intro pins s σ H xs us Q I r h;obtain⟨p,ys,rfl,hq,q⟩:=h;obtain⟨u,rfl,rx⟩:=vals1 r;cases rx;have fin:∀(its:List Value),Vals ys its->ys.length<=sizeLine->∀(h':Heap)(c':Nat),(∀ b o',s.heap.get? b=some o'->h'.get? b=some o') ->
   h'.get? s.heap.objs.size=some { cls:=.type "list",dict:=none,data:=.seq its.toArray c',slots:=#[] }->EP X pins σ Q (.ref s.heap.objs.size) { s with heap:=h' }:=fun its r' hz h' c' kp e =>
  ⟨.ref s.heap.objs.size,_,I.laid (t':=s.toks) kp (ww _) (show kas X.prog X.w _ h' _ (.lst ys)from⟨hz,its,c',r',e⟩),rfl,q _ (I.hok.fresh (ww _))⟩
 rcases hq with hq|hq
 ·obtain⟨its,r',pl,hz⟩:=I.list hq;have hlen:=r'.length;obtain⟨o,ho,hc,n,hd⟩:=pl.isList;exact call_list_seq p (.inl rfl) ho hc hd (fun h' c' kp e=>fin its r' hz h' c' kp e) (by simp only[wI] <;> omega)
 ·obtain⟨its,r',pl,hz⟩:=I.tuple hq;have hlen:=r'.length;obtain⟨o,ho,hc,n,hd⟩:=pl;exact call_list_seq p (.inr rfl) ho hc hd (fun h' c' kp e=>fin its r' hz h' c' kp e) (by simp only[wI] <;> omega)
def tyV(K:PySem.W.Frag)(T:String)(x:V)(H:Hp):Prop:=match x with
 | .str _=>T = "str"
 | .int _=>T = "int"
 | .ref p=>(T = "list" /\ ∃ xs,SqL K H p xs)\/(T = "tuple" /\ ∃ o,K.lookup p=some o/\o.cls=.type "tuple" /\ o.dict=none) \/
   (T = "dict" /\ ((∃ kvs,H p=some (.dK kvs))\/∃ kvs,H p=some (.dT kvs)))\/(T = "set" /\ ∃ S n,H p=some (.set S n))
 | _=>False
theorem zhh{pins:List (Addr×Obj)}{σ:St}{H:Hp}{s:Shared}{T:String}{x:V}{v:Value}(I:Inv X pins σ H s)(r:RelV x v)(ty:tyV X.K T x H) :
  s.TypeIs v T/\∀ a,v=.ref a->∃ ob,s.heap.get? a=some ob/\ob.dict=none:=by
 cases x with
 | str z =>
  obtain⟨t,rfl⟩:=r;cases (show T = "str" from ty);exact⟨typeIs_str s z t,fun _ e=>nomatch e⟩
 | int i =>
  obtain⟨t,rfl⟩:=r;cases (show T = "int" from ty);exact⟨typeIs_int s i t,fun _ e=>nomatch e⟩
 | ref p =>
  cases r
  rcases ty with⟨rfl,xs,hq⟩|⟨rfl,o,hk,hc,hd⟩|⟨rfl,hk⟩|⟨rfl,S,n,hk⟩
  ·obtain⟨its,_,pl,_⟩:=I.list hq;refine⟨pl.isList.typeIs,fun a e=>?_⟩;cases e;obtain⟨o,n,e,c,hd,_⟩:=pl;exact⟨o,e,hd⟩
  ·refine⟨⟨o,I.kIn p o hk,hc⟩,fun a e=>?_⟩;cases e;exact⟨o,I.kIn _ o hk,hd⟩
  ·have z:∃ o,s.heap.get? p=some o/\o.ExactDict:=by
    rcases hk with⟨kvs,hk⟩|⟨kvs,hk⟩
    ·obtain⟨_,_,_,_,o,_,_,e,ex,_⟩:=I.hok p _ hk;exact⟨o,e,ex⟩
    ·obtain⟨_,_,_,_,o,_,_,e,ex,_⟩:=I.hok p _ hk;exact⟨o,e,ex⟩
   obtain⟨o,e,ex⟩:=z;refine⟨⟨o,e,ex.1⟩,fun a e2=>?_⟩;cases e2;exact⟨o,e,ex.2.1⟩
  ·obtain⟨o,_,_,_,e,ex,_⟩:=I.hok p _ hk;refine⟨⟨o,e,ex.1⟩,fun a e2=>?_⟩;cases e2;exact⟨o,e,ex.2.1⟩
 | _=>exact False.elim ty
def tBM(K:PySem.W.Frag)(T:String)(r:V->List V->Hp->VK->Prop)(to:TE)(t:TA):TE:=fun σ H Q=>to σ H fun x H1=>tyV K T x H1/\t σ H1 fun xs H2=>r x xs H2 Q
variable{o e:Expr}{es:List Expr}{to:TE}{t:TA}{name:Str}{apos cpos:Pos}{T id:String}{r:V->List V->Hp->VK->Prop}
theorem qX (pa:PlainAttrs T) (slot:Slot T name id) (hty:typeOf (.builtin id)=pure (.type "method_descriptor")) (hm:MtR X id r) (ho:PE X o to) (ha:PA X (e::es) t)
  (hbase:attributeBase o name X.env (eval o X.env)=eval o X.env:=by rfl)
  (hfew:((backTo cpos (starEach (e::es) X.env)).all (fun x=>!x.1) && (backToKw cpos (keywordEach [] X.env)).all (fun x=>x.1.isSome)
   && decide ((e::es).length +([]:List Keyword).length +(if ([]:List Keyword).isEmpty then 0 else 1)<30))=true:=by rfl)
  (hline:(apos.endLine == cpos.line)=true:=by rfl) (hs:starEach (e::es) X.env =(false,eval e X.env)::starEach es X.env:=by rfl) (hplain:(backTo cpos (starEach es X.env)).any (·.1)=false:=by rfl) :
  PE X (.Call (.Attribute o name apos) (e::es) [] cpos) (tBM X.K T r to t):=by
 intro pins s σ H Q I h;refine wpAny_Call_method_late hbase hfew hline rfl (thn (ho pins s σ H _ I h) fun v s1 ⟨x,H1,I1,r1,ty,q1⟩=>?_);obtain⟨h1,h2⟩:=zhh I1 r1 ty;refine⟨T,id,pa,slot,hty,h1,h2,?_⟩;have hA:=ha cpos pins s1 σ H1 _ I1 q1;rw[hs]at hA ⊢;refine Calls.callWith_builtin (by show(false || (backTo cpos (starEach es X.env)).any (·.1))=false;rw[hplain] <;> rfl) (Calls.evalArgs_plain ?_);exact thn hA fun us s2 ⟨vs,H2,I2,r2,q2⟩=>hm pins s2 σ H2 x vs v us Q I2 r1 r2 q2
end
end L2
namespace L2
open PySem PySem.Spec PyProof.Rows
def MtM(X:Cx)(id:String)(r:V->List V->Hp->VK->Prop):Prop :=
 ∀(pins:List (Addr×Obj))(s:Shared)(σ:St)(H:Hp)(x:V)(xs:List V)(v:Value)(us:List Value)(Q:VK),Inv X pins σ H s->RelV x v->Vals xs us->r x xs H Q ->
  wpAny (model X.prog X.w) X.A (call (.builtin id) (v::us)) (EP X pins σ Q) X.xe s
theorem Vals.one:∀ {x:V} {us:List Value},Vals [x] us->∃ u,us=[u]/\RelV x u
 | _,_,.cons r .nil=>⟨_,rfl,r⟩
theorem Vals.two:∀ {x y:V} {us:List Value},Vals [x,y] us->∃ u v,us=[u,v]/\RelV x u/\RelV y v
 | _,_,_,.cons r (.cons q .nil)=>⟨_,_,rfl,r,q⟩
section
variable{X:Cx}{pins:List (Addr×Obj)}{σ:St}{H:Hp}{s:Shared}{l b:Addr}{xs ys zs:List V}
theorem Inv.lset{its its':List Value}{n:Nat}{f:Array Value->Array Value}{t':Nat}(I:Inv X pins σ H s)(hH:H l=some (.lst xs))
  (e:s.heap.get? l=some { cls:=.type "list",data:=.seq its.toArray n }) (hf:f its.toArray=its'.toArray) (hv:Vals ys its') (hz:ys.length<=sizeLine) :
  Inv X pins σ (upd H l (.lst ys)) { s with heap:=s.heap.update l (Obj.mapSeq f),toks:=t' }:=by
 have q:=PySem.IsL.update e f;rw[hf]at q;refine I.write (x:=l) (e:=l) (by rw[hH];exact trivial) (.inl rfl) (fun b' u hb hu=>(Heap.get?_update_other s.heap (Obj.mapSeq f) (Ne.symm hb)).trans hu) ⟨_,q⟩ ?_;exact⟨hz,its',_,hv,q⟩
theorem Inv.lnew{its:List Value}{t':Nat}(I:Inv X pins σ H s)(hv:Vals ys its)(hz:ys.length<=sizeLine) :
  Inv X pins σ (upd H s.heap.objs.size (.lst ys)) { s with heap:=s.heap.push { cls:=.type "list",data:=.seq its.toArray },toks:=t' } :=
 I.laid (fun _ _ q=>Heap.get?_push_of_some _ q) (ww _) ⟨hz,its,0,hv,Heap.get?_push_size _ rfl⟩
theorem Inv.fresh(I:Inv X pins σ H s):H s.heap.objs.size=none:=I.hok.fresh (ww _)
theorem Inv.lstM (I:Inv X pins σ H s) (hH:H l=some (.lst xs)):xs.length<=sizeLine/\∃(its:List Value)(n:Nat),Vals xs its/\xs.length=its.length/\s.heap.get? l=some { cls:=.type "list",data:=.seq its.toArray n }:=by
 obtain⟨z,its,n,r,e⟩:=I.hok l _ hH;exact⟨z,its,n,r,r.length,e⟩
theorem notLongL{n:Nat}(h:n<=sizeLine):Builtin.List.listTooLong n=false:=by
 unfold Builtin.List.listTooLong;exact decide_eq_false (by omega)
end
section
variable{X:Cx}
inductive zao(x:V)(vs:List V)(H:Hp)(Q:VK):Prop where
 | mk (l:Addr) (xs:List V) (y:V) (h0_:x=.ref l) (h1_:vs=[y]) (h2_:H l=some (.lst xs)) (h3_:xs.length<sizeLine) (h4_:Q .non (upd H l (.lst (xs++[y])))):zao  x vs H Q
def rAppend:V->List V->Hp->VK->Prop:=fun x vs H Q=>zao  x vs H Q
theorem yF:MtM X "list.append" rAppend:=by
 intro pins s σ H x vs v us Q I rx rv h;obtain⟨l,xs,y,rfl,rfl,hH,hz,q⟩:=h;cases rx;obtain⟨u,rfl,ru⟩:=rv.one;obtain⟨z,its,n,r,hl,e⟩:=I.lstM hH;refine call_meets F.slot_list_append ⟨_,e,rfl⟩ F.entry_list_append (F.args_list_append_2 _ _) (PySem.list_append l its.toArray n u (by rw[wI];omega)) ⟨e,?_⟩;refine⟨.non,_,I.lset (its':=its++[u]) hH e (by simp) (r.append (.cons ru .nil)) ?_,rfl,q⟩;rw[wy,GE];omega
def rExtend:V->List V->Hp->VK->Prop:=fun x vs H Q=>∃ l b xs zs,x=.ref l/\vs=[.ref b]/\H l=some (.lst xs)/\H b=some (.lst zs)/\xs.length+zs.length<=sizeLine/\Q .non (upd H l (.lst (xs++zs)))
theorem zas:MtM X "list.extend" rExtend:=by
 intro pins s σ H x vs v us Q I rx rv h;obtain⟨l,b,xs,zs,rfl,rfl,hH,hB,hz,q⟩:=h;cases rx;obtain⟨u,rfl,ru⟩:=rv.one;cases ru;obtain⟨z,its,n,r,hl,e⟩:=I.lstM hH;obtain⟨z2,its2,n2,r2,hl2,e2⟩:=I.lstM hB;have hsz:its.toArray.size+its2.toArray.size<=sizeLine:=by rw[wI,wI];omega
 have hlong:¬(!its.toArray.isEmpty && Builtin.List.listTooLong (its.toArray.size+its2.toArray.size))=true:=by
  rw[notLongL hsz,Bool.and_false];exact wW
 refine call_meets F.slot_list_extend ⟨_,e,rfl⟩ F.entry_list_extend (F.args_list_extend_2 _ _)
  (AutoSeq1.list_extend_list_list_0 l its.toArray n b its2.toArray n2 hlong (by rw[wI];omega) (by omega)) ⟨e,e2,?_⟩
 refine⟨.non,_,I.lset (its':=its++its2) hH e (by simp) (r.append r2) ?_,rfl,q⟩;rw[wy];omega
inductive zgm(x y:V)(H:Hp)(Q:VK):Prop where
 | mk (l b:Addr) (xs zs:List V) (h0_:x=.ref l) (h1_:y=.ref b) (h2_:H l=some (.lst xs)) (h3_:H b=some (.lst zs)) (h4_:xs.length+zs.length<=sizeLine) (h5_:∀ p,H p=none->Q (.ref p) (upd H p (.lst (xs++zs)))):zgm  x y H Q
def rCat:R2:=fun x y H Q=>zgm  x y H Q
theorem Qn:OpR X (binaryOp .Add) rCat:=by
 intro pins s σ H x y v u Q I rx ry h;obtain⟨l,b,xs,zs,rfl,rfl,hH,hB,hz,q⟩:=h;cases rx;cases ry;obtain⟨z,its,n,r,hl,e⟩:=I.lstM hH;obtain⟨z2,its2,n2,r2,hl2,e2⟩:=I.lstM hB;refine PySem.P.add_list e e2 ?_ (by rw[wI,wI];omega);have ea:its.toArray++its2.toArray =(its++its2).toArray:=by simp
 rw[ea];exact⟨.ref _,_,I.lnew (t':=s.toks) (r.append r2) (by rw[wy];omega),rfl,q _ I.fresh⟩
end
end L2
namespace Att
open PySem PySem.W PySem.Calls PyProof.Rows
theorem Xb{P:Params}{h:Heap}:∀(ns:List Int)(vs:List Value),WellAll P h vs (ns.map WData.int)->IntsAre vs ns:=by
 intro ns
 induction ns with
 | nil =>
  intro vs w;rw[List.map_nil]at w;cases w;exact .nil
 | cons n ns ih =>
  intro vs w;rw[uL]at w;cases w with
  | cons a b =>
   cases a;exact .cons _ _ (ih _ b)
theorem zcP{l:OpenLaw}{n:Nat}(hn:l.most=some n){P:Params}{h:Heap}{args:List WData}{vals:List Value}
  (hpre:l.row.toRowW.claim.pre args=true) (hwl:WellAll P h vals args) :
  ∃ a vs ns,vals=[Value.ref a]/\args=[WData.list (ns.map WData.int)]/\h.get? a=some { cls:=.type "list",data:=.seq vs.toArray }/\IntsAre vs ns/\ns.length<=n:=by
 have hsh:WShape.hasAll [] args [.list .int]=true:=(pre_splitW hpre).1;have hc:l.pre.holds [] { args:=args }=true:=(pre_splitW hpre).2;obtain⟨d,r,rfl,h1,h2⟩:=hasAllW_cons hsh;obtain rfl:=hasAllW_nil h2;obtain⟨xs,rfl,h3⟩:=hasW_list h1;obtain⟨ns,rfl⟩:=items_int h3;have hlen:ns.length<=n:=by
  unfold OpenLaw.pre at hc;have h4:(WTm.not (.lt (.lit (.int (n:Int))) (.len (.arg 0)))).holds [] { args:=[.list (ns.map .int)] }=true:=by
   have h4:=(holds_andW hc).1;rw[hn]at h4;exact h4
  have h5:=condW_of h4 (w_not (w_lt w_lit (w_len_list (w_arg rfl))));rw[wa]at h5;refine wam fun q=>?_
  have q':(n:Int) <((ns.length:Nat):Int):=by omega
  first
   | (rw[decide_eq_true q']at h5;exact absurd h5 (by decide))
   | (simp at h5;omega)
 cases hwl with
 | cons w1 w2 =>
  cases w2;cases w1 with
  | list ho hall=>exact⟨_,_,ns,rfl,rfl,ho,Xb ns _ hall,hlen⟩
theorem zdl(l:OpenLaw)(args:List WData):l.row.toRowW.claim.post args (.bool true) args=true :=
 postW_of (r:=l.row.toRowW) (X:=(true == true))
  (show WShape.has [] (.bool true) .bool=true by first|rfl|decide|simp[WShape.has,WShape.arms,WShape.armsAll])
  (show(WTm.eq .res (.lit (.bool true))).value [] { args:=args,res:=some (.bool true),after:=args }=some (.bool (true == true))from w_eq_bool (w_res rfl) w_lit) rfl
theorem zaP{l:OpenLaw}{n:Nat}{q:Program}{loose:List Str}{XP:(Str->Option Value)->Heap->Prop}{YP:World->Heap->Prop}{d:DefRec}
  (hn:l.most=some n) (hdf:d.params.defaults=[])
  (call:∀(w:World)(s₀ s₁:Shared)(mg mb:Str->Option Value)(fa:Addr)(o:Obj)(pm cd doc:Value)(a:Addr)(vs:List Value)(ns:List Int),
   Ground q loose [] XP w s₀ mg mb s₁.heap->YP w s₁.heap ->
   s₁.heap.get? fa=some o->o.data=.func (docDef d.name d.params d.body d.scope pm cd doc)->s₁.heap.CodeRec cd d.name->mg d.name=some (.ref fa) ->
   s₁.heap.get? a=some { cls:=.type "list",data:=.seq vs.toArray }->IntsAre vs ns->ns.length<=n->s₁.gens=#[] ->
   codeAny (model l.prog w) callerA (.call (.ref fa) ⟨[.ref a],[]⟩) (fun r s'=>r=.ok (.ret (.bool true))/\OldK s₁.heap s'.heap/\s'.os=s₁.os/\AllBare s'.gens) s₁) :
  WalkO q loose XP YP l.row.toRowW d [] (fun f vs=>PySem.call f vs):=by
 intro w s₀ s₁ mg mb G Y fa o pm cd doc dV kV ho hd hcd hD hmg hg args vals as hpre hlay hrd hwl hlo;obtain rfl:dV=.none:=Dflts.none hD hdf;obtain rfl:kV=.none:=Dflts.noKw hD;obtain⟨a,vs,ns,rfl,rfl,hobj,hints,hlen⟩:=zcP hn hpre hwl;refine enter_call (codeAny_mono (call w s₀ s₁ mg mb fa o pm cd doc a vs ns G Y ho (fd_plain hd) hcd hmg hobj hints hlen hg) fun r s' hq=>?_);obtain⟨rfl,h2,h3,h4⟩:=hq;exact⟨.inl ⟨.bool true,.bool true,[],rfl,fun _=>rfl,.bool true,zdl l _,fun _=>⟨List.Pairwise.nil,fun _ hm=>(nomatch hm)⟩⟩,h2,h3,h4⟩
end Att
namespace L2
open PySem PySem.Spec PyProof.Rows
theorem Qq:∀ {vs:List Value} {ns:List Int},IntsAre vs ns->Vals (ns.map V.int) vs
 | _,_,.nil=>.nil
 | _,_,.cons n t h=>.cons ⟨t,rfl⟩ (Qq h)
def Only(H:Hp):Prop:=∀ b,H b=none\/∃ o xs,H b=some (.frz o (.lst xs))
theorem zeO{P:Program}{w:World}{K:PySem.W.Frag}{mg mb:Str->Option Value}{CX:CXT}{k:Nat}{fa a:Addr}{fd:FuncData}{x:Str}{sp:Sp}{s₁:Shared}{vs:List Value}{ns:List Int}
  (KX:K.In s₁.heap) (hns:s₁.heap.Ns mainGlobals mg) (hb:s₁.heap.Ns builtinsNs mb) (hbb:∀ x:Str,x ≠ "__name__" -> mb x=bootBuiltins x) (hlim:s₁.heap.NoLimit) (hSe:s₁.heap.NoSeer) (hg:s₁.gens=#[])
  (ha:s₁.heap.get? a=some { cls:=.type "list",data:=.seq vs.toArray }) (hi:IntsAre vs ns) (hl:ns.length<=sizeLine) (hr:Room k callerA)
  (F:∀ base:Heap,K.In base->base.Ns mainGlobals mg->base.NoSeer->FnOk P w K mg base CX k fa fd [x] sp) (hbind:∀(s:Shared)(u:Value),BindsTo s fd ⟨[u],[]⟩ [(x,u)])
  (hsp:∀ H:Hp,Only H->SqL K H a (ns.map V.int)->sp [.ref a] H (fun v _=>v=.bl true) fun _ _ _=>False)
  (hCX:∀ H e s',CX [] H s₁ (fun _ _ _=>False) e s'->False) :
  codeAny (model P w) callerA (.call (.ref fa) ⟨[.ref a],[]⟩) (fun r s'=>r=.ok (.ret (.bool true))/\OldK s₁.heap s'.heap/\s'.os=s₁.os/\AllBare s'.gens) s₁:=by
 have rv:=Qq hi;have lenV:=hi.length;have core:∀ H:Hp,Only H->SqL K H a (ns.map V.int)->HOk P w H s₁.heap->(∀ b,H b≠none->b=a)->(H a≠none->K.lookup a=none) ->
   codeAny (model P w) callerA (.call (.ref fa) ⟨[.ref a],[]⟩) (fun r s'=>r=.ok (.ret (.bool true))/\OldK s₁.heap s'.heap/\s'.os=s₁.os/\AllBare s'.gens) s₁:=by
  intro H hO hS hok hA hK;have base_of:∀ {b:Addr} {o:Obj},s₁.heap.get? b=some o->H b=none->(hidT s₁.heap H).get? b=some o:=fun e n=>zfg e n
  have noA:∀ {b:Addr} {o:Obj} {es:Array DictEntry} {ep:Nat},s₁.heap.get? b=some o->o.data=.dict es ep->H b=none:=fun {b o es ep} e d=>by
   cases q:H b with
   | none=>rfl
   | some u =>
    have e':b=a:=hA b (by rw[q];simp);subst e';rw[ha]at e;cases e;have d':Data.seq vs.toArray _=Data.dict es ep:=d;cases d'
  have nsK:∀ {b:Addr} {m:Str->Option Value},s₁.heap.Ns b m->(hidT s₁.heap H).Ns b m:=fun {b m} ⟨o,es,ep,e,d,r⟩=>⟨o,es,ep,base_of e (noA e d),d,r⟩
  have hKb:K.In (hidT s₁.heap H):=fun b o e=>base_of (KX b o e) (by
   cases q:H b with
   | none=>rfl
   | some u =>
    have e':b=a:=hA b (by rw[q];simp);subst e';rw[hK (by rw[q];simp)]at e;cases e)
  have hM:Mod K mg (hidT s₁.heap H):=⟨hKb,nsK hns,⟨mb,nsK hb,hbb⟩,let ⟨mc,h1,h2⟩:=hlim;⟨mc,nsK h1,h2⟩⟩;have e0:Env0 P w K mg (hidT s₁.heap H) callerA [] s₁ H:=⟨rfl,hM,fun b o e=>zgG e,uT (zec _ _),trivial,fun b hb=>absurd (show b∈([]:List Addr)from hb) (by simp),hok,.of_eq hg⟩;have hSb:(hidT s₁.heap H).NoSeer:=⟨(let ⟨mc,h1,h2⟩:=hSe.statics;⟨mc,nsK h1,h2⟩),(let ⟨mc,h1,h2⟩:=hSe.mods;⟨mc,nsK h1,h2⟩),(let ⟨mc,h1,h2⟩:=hSe.imp;⟨mc,nsK h1,h2⟩),by
   obtain⟨m',bm,ob,h1,h2,h3,h4,h5⟩:=hSe.main;refine⟨m',bm,ob,nsK h1,h2,base_of h3 ?_,h4,h5⟩;cases q:H bm with
   | none=>rfl
   | some u =>
    have e':bm=a:=hA bm (by rw[q];simp);subst e';rw[ha]at h3;cases h3;exact absurd h4 (by simp)⟩
  refine codeAny_mono ((F _ hKb (nsK hns) hSb).run callerA [] s₁ H ⟨[.ref a],[]⟩ [.ref a] [.ref a] _ _ hr e0 (hbind s₁ (.ref a)) (.cons rfl .nil) (hsp H hO hS)) fun r s' h=>?_
  cases r with
  | error e=>exact(hCX H e s' h).elim
  | ok fl =>
   cases fl with
   | next=>exact False.elim h
   | brk=>exact False.elim h
   | cont=>exact False.elim h
   | ret u =>
    obtain⟨v,H',os,bare,un,hok',r',q⟩:=h;have q':v=.bl true:=q;subst q';obtain rfl:u=Value.bool true:=r';refine⟨rfl,OldK.of_keep fun b o e=>?_,os,bare⟩;cases q:H b with
    | none=>exact un.keep b o e q (by intro z;exact absurd (show b∈([]:List Addr)from z) (by simp)) (by simp)
    | some u =>
     rcases hO b with z|⟨ob,xs,z⟩
     ·rw[q]at z;cases z
     ·have z2:=un.frzs b ob _ z;obtain⟨e1,_⟩:=hok b _ z;obtain⟨e2,_⟩:=hok' b _ z2;rw[e]at e1;cases e1;exact e2
 cases hk:K.lookup a with
 | some o =>
  have e:=KX a o hk;rw[ha]at e;cases e;refine core (fun _=>none) (fun _=>.inl rfl) (.inr ⟨_,vs.toArray,_,hk,rfl,rfl,rfl,by rw[wI,lenV];exact hl,by simpa using rv⟩) (fun b u z=>by have z':(none:Option HO)=some u:=z;cases z') (fun b z=>absurd rfl z) fun z=>absurd rfl z
 | none =>
  refine core (fun b=>if b=a then some (.frz { cls:=.type "list",data:=.seq vs.toArray } (.lst (ns.map V.int)))else none) (fun b=>?_) (.inl (.inr ⟨{ cls:=.type "list",data:=.seq vs.toArray },if_pos rfl⟩)) (fun b u z=>?_) (fun b z=>?_) fun _=>hk
  ·by_cases hb:b=a
   ·exact .inr ⟨_,_,if_pos hb⟩
   ·exact .inl (if_neg hb)
  ·by_cases hb:b=a
   ·have z':=(if_pos hb).symm.trans z;cases z';subst hb;exact⟨ha,by rw[wa];exact hl,vs,_,rv,ha⟩
   ·have z':=(if_neg hb).symm.trans z;cases z'
  ·by_cases hb:b=a
   ·exact hb
   ·exact absurd (if_neg hb) z
end L2
namespace L2
open PySem PySem.Spec PyProof.Rows
end L2
namespace L2
open PySem PySem.Spec PyProof.Rows
def kao(s:Stmt):Arguments:=match s with
 | .FunctionDef _ a _ _ _ _ _ _ _ _=>a
 | _=>{ posonlyargs:=[],args:=[],vararg:=none,kwonlyargs:=[],kw_defaults:=[],kwarg:=none,defaults:=[] }
def kam(s:Stmt):List Stmt:=match s with
 | .FunctionDef _ _ b _ _ _ _ _ _ _=>b
 | _=>[]
def kab(s:Stmt):Scope:=match s with
 | .FunctionDef _ _ _ _ _ _ sc _ _ _=>sc
 | _=>{ kind:=.function,names:=[],isGenerator:=false,isCoroutine:=false }
abbrev CX0:CXT:=fun _ _ _ _ _ _=>False
abbrev E0:XK:=fun _ _ _=>False
theorem pass0{X:Cx}:Passes CX0 X E0:=fun _ _ _ _ _ _ _ h=>h.elim
structure Fun(K:PySem.W.Frag)(x qual:Str)(st:Stmt)(f:Addr)(fd:FuncData):Prop where
 ex:∃(oc:Value)(od:Option Addr)(kV doc pm:Value)(an:Option Addr)(cdv ct:Value)(osl:Array (Option Value)),
  fd=PySem.W.fnOf x qual (kao st) (kam st) (kab st) .none kV doc pm an cdv ct/\K.lookup f=some ⟨oc,od,.func fd,osl⟩/\PySem.W.codeIn K cdv qual=true
 kp:PySem.W.keepIn K (.ref f)=true
section
variable{P:Program}{w:World}{K:PySem.W.Frag}{mg:Str->Option Value}{base:Heap}
theorem Fun.ok{x qual:Str}{st:Stmt}{f:Addr}{fd:FuncData}{N ps:List Str}{k:Nat}{sp:Sp}(F:Fun K x qual st f fd)(S:kad N ps (kab st))(len:∀ vs H Q E,sp vs H Q E->vs.length=ps.length)
  (hbody:∀(cdv:Value)(A:Around)(outer:List Env)(s:Shared)(H:Hp)(vs:List V)(Q:VK)(E:XK),Room k (A.deeper (envOfC qual (kab st) s.heap.objs.size f cdv))->sp vs H Q E ->
   ∃ t,PSs (cxOf CX0 P w K mg base N qual (kab st) f cdv A outer s H E).nox (kam st) t/\t { nx:=fun _ H'=>Q .non H',rt:=Q } (start N vs) H):FnOk P w K mg base CX0 (k+1) f fd ps sp:=by
 obtain⟨oc,od,kV,doc,pm,an,cdv,ct,osl,rfl,lk,hcd⟩:=F.ex;refine zia lk hcd S len fun A outer s H vs Q E hr hsp=>?_
 obtain⟨t,h,q⟩:=hbody cdv A outer s H vs Q E hr hsp;exact⟨t,h.nox,q⟩
theorem Fun.binds{x qual:Str}{st:Stmt}{f:Addr}{fd:FuncData}{ps:List Str}(F:Fun K x qual st f fd)
  (h:∀(kV doc pm:Value)(an:Option Addr)(cdv ct:Value)(us:List Value),us.length=ps.length->bindArgs (PySem.W.fnOf x qual (kao st) (kam st) (kab st) .none kV doc pm an cdv ct) ⟨us,[]⟩=pure (ps.zip us)):Binds K fd ps []:=by
 obtain⟨oc,od,kV,doc,pm,an,cdv,ct,osl,rfl,lk,hcd⟩:=F.ex;exact .all (h kV doc pm an cdv ct)
theorem zf8{x qual:Str}{st:Stmt}{f:Addr}{oc:Value}{od an:Option Addr}{osl:Array (Option Value)}{kV doc pm cdv ct:Value}(l:K.lookup f=some ⟨oc,od,.func (PySem.W.fnOf x qual (kao st) (kam st) (kab st) .none kV doc pm an cdv ct),osl⟩)
  (c:PySem.W.codeIn K cdv qual=true) (k:PySem.W.keepIn K (.ref f)=true):Fun K x qual st f (PySem.W.fnOf x qual (kao st) (kam st) (kab st) .none kV doc pm an cdv ct):=⟨⟨oc,od,kV,doc,pm,an,cdv,ct,osl,rfl,l,c⟩,k⟩
end
section
variable{X:Cx}
theorem pv (i:Nat) {x:Str} {pos:Pos} (hN:X.N[i]?=some x:=by rfl) (hv:Vis X.env.scope x:=by first|exact Or.inl rfl|exact Or.inr (Or.inl rfl) | exact Or.inr (Or.inr rfl)) (hd:(x ==("__debug__" : Str))=false:=by decide)
  (hcd:(x ==("__classdict__" : Str))=false:=by decide):PE X (.Name x pos) (tVar i):=zhB hN hv hd hcd
end
theorem iteF{A B:Prop}(h:B):if false=true then A else B:=by
 rw[if_neg wW];exact h
theorem iteT{A B:Prop}(h:A):if true=true then A else B:=by
 rw[if_pos rfl];exact h
theorem ite2{c A B:Prop}[Decidable c](h1:c->A)(h2:¬ c->B):if c then A else B:=by
 by_cases h:c
 ·rw[if_pos h];exact h1 h
 ·rw[if_neg h];exact h2 h
def Same(H H':Hp):Prop:=∀ b o,H b=some o->H' b=some o
theorem Same.refl(H:Hp):Same H H:=fun _ _ h=>h
theorem Same.trans{H H1 H2:Hp}(a:Same H H1)(b:Same H1 H2):Same H H2:=fun c o h=>b c o (a c o h)
end L2
namespace Nm
def primeB(n:Nat):Bool:=decide (1<n) && (vd n).all fun d=>decide (d<2) || decide (n % d≠0)
structure PrS(k:Int):Prop where
 lo:1<k
 hi:k<99
 pr:primeB k.toNat=true
structure Pr(k:Int):Prop where
 lo:1<k
 hi:k<2305843009213693952
 cp:∀ r:Int,0<r->r<k->wS k r=1
def kaa(k:Int):Prop:=k=0\/Pr k
def KindS(k:Int):Prop:=k=0\/PrS k
theorem kaa.lt{k:Int}(h:kaa k):0<=k/\k<2305843009213693952:=by
 rcases h with h|h
 ·omega
 ·have:=h.lo;have:=h.hi;omega
theorem JB:∀ k<99,primeB k=true->∀ r<k,0<r->gR k r=1:=by decide +kernel
theorem PrS.big{k:Int}(h:PrS k):Pr k:=by
 refine⟨h.lo,by have:=h.hi;omega,fun r h0 h1=>?_⟩;have:=JB k.toNat (by have:=h.hi;omega) h.pr r.toNat (by omega) (by omega);have e1:k.natAbs=k.toNat:=by omega
 have e2:r.natAbs=r.toNat:=by omega
 rw[uN,e1,e2];exact this
theorem KindS.ok{k:Int}(h:KindS k):kaa k:=h.imp id PrS.big
theorem Pr.cop{k r:Int}(h:Pr k)(h0:0<r)(h1:r<k):wS k r=1:=h.cp r h0 h1
theorem zbE(a b:Int):wS b (a.fmod b)=wS a b:=by
 rw[waG,Int.gcd_sub_mul_left_right,waH]
theorem zcm(a:Int){b:Int}(hb:b≠0):(a.fmod b).natAbs<b.natAbs:=by
 rcases uU 0 b with h|h
 ·have h1:=wx a h;have h2:=wH a h;omega
 ·have hb':0 < -b:=by omega
  have h1:=wx (-a) hb';have h2:=wH (-a) hb';have e:(-a).fmod (-b) = -(a.fmod b):=by
   rw[Int.neg_fmod_neg]
  omega
end Nm
namespace Nm
structure OvInv(p r l g ml mg:Int):Prop where
 l0:0<=l
 l1:l<2305843009213693952
 g0:0<=g
 g1:g<2305843009213693952
 cop:wS l g=1
 left:p ∣ l - ml*r
 right:p ∣ g - mg*r
theorem za9{p r:Int}(h:Pr p)(h0:0<r)(h1:r<p):OvInv p r p r 0 1:=by
 have:=h.lo;have:=h.hi;refine⟨by omega,by omega,by omega,by omega,h.cop h0 h1,?_,?_⟩
 ·rw[waI,Int.sub_zero];exact waJ p
 ·rw[waS,Int.sub_self];exact GY p
theorem zey{p r l g ml mg:Int}(h:OvInv p r l g ml mg)(hg:g≠0):OvInv p r g (l - l / g*g) mg (ml - l / g*mg):=by
 have g0:=h.g0;have g1:=h.g1;have e:l - l / g*g=l % g:=by
  have:=uP l g;rw[waK (l / g) g];omega
 have m0:=gi l hg;have m1:=uG l (show 0<g by omega);refine⟨g0,g1,by omega,by omega,?_,h.right,?_⟩
 ·rw[Int.gcd_sub_mul_right_right,waH];exact h.cop
 ·have e2:l - l / g*g - (ml - l / g*mg)*r =(l - ml*r) - l / g *(g - mg*r):=by grind
  rw[e2];exact wan h.left (gj h.right)
theorem zcT{l g:Int}(g0:0<=g)(hg:g≠0):(l - l / g*g).toNat<g.toNat:=by
 have e:l - l / g*g=l % g:=by
  have:=uP l g;rw[waK (l / g) g];omega
 have m0:=gi l hg;have m1:=uG l (show 0<g by omega);omega
theorem zfT{p r l ml mg:Int}(h:OvInv p r l 0 ml mg)(hp:0<p):p ∣ ml % p*r - 1:=by
 have c:=h.cop;rw[GZ]at c;have e:l=1:=by have:=h.l0;omega
 have d:=h.left;rw[e]at d;have e1:ml % p*r - 1 = -(1 - ml*r) - p *(ml / p)*r:=by
  have:=uP ml p
  grind
 rw[e1];exact wan (Int.dvd_neg.mpr d) (Int.dvd_mul_of_dvd_left (wae p _))
def sg(t b:Int):Int:=if b<0 then -((wS t b:Nat):Int)else((wS t b:Nat):Int)
theorem zdC{t b:Int}(hb:b≠0):sg t b≠0:=by
 have:=uO t hb;unfold sg;split <;> omega
theorem zhd(t b:Int):(sg t b).natAbs=wS t b:=by
 unfold sg;split <;> omega
theorem Zi(t b:Int):sg t b ∣ t:=by
 unfold sg;split
 ·exact waT.mpr (uY t b)
 ·exact uY t b
theorem Zd(t b:Int):sg t b ∣ b:=by
 unfold sg;split
 ·exact waT.mpr (gw t b)
 ·exact gw t b
theorem zd0{q:Rat}{t b:Int}(hb:b≠0)(h:q.num*b=t*q.den):vB t b=q:=by
 rw[← gm q];have hd:(q.den:Int)≠0:=by have:=q.den_nz;omega
 rw[Gk hb hd];omega
theorem Yj{t b:Int}(hb:b≠0):t.fdiv (sg t b) =(vB t b).num/\b.fdiv (sg t b) =((vB t b).den:Nat):=by
 have hs:=zdC (t:=t) hb;rw[vE (Zi t b),vE (Zd t b)];have et:=uq (Zi t b);have eb:=uq (Zd t b);have hpos:0<b / sg t b:=by
  have hne:b / sg t b≠0:=fun z=>by rw[z,waI]at eb;exact hb eb.symm
  have hg:=uO t hb
  rcases uU b 0 with h|h
  ·have e:sg t b = -((wS t b:Nat):Int):=by unfold sg;rw[if_pos h]
   have:0<=b / sg t b:=Int.ediv_nonneg_of_nonpos_of_nonpos (by omega) (by omega);omega
  ·have e:sg t b =((wS t b:Nat):Int):=by unfold sg;rw[if_neg (by omega)]
   have:0<=b / sg t b:=waw (by omega) (by omega);omega
 have hcop:wS (t / sg t b) (b / sg t b)=1:=by
  rw[waL (Zi t b) (Zd t b),zhd];exact waM (uO t hb)
 let q:Rat:=⟨t / sg t b,(b / sg t b).toNat,by omega,by
  show gR (t / sg t b).natAbs (b / sg t b).toNat=1;have:(b / sg t b).toNat =(b / sg t b).natAbs:=by omega
  rw[this];exact hcop⟩
 have hq:vB t b=q:=zd0 hb (by
  show t / sg t b*b=t *(((b / sg t b).toNat:Nat):Int);have e:(((b / sg t b).toNat:Nat):Int)=b / sg t b:=by omega
  rw[e];have:t / sg t b*b=t / sg t b *(b / sg t b*sg t b):=by rw[eb]
  have:t *(b / sg t b)=t / sg t b*sg t b *(b / sg t b):=by rw[et]
  grind)
 rw[hq];refine⟨rfl,?_⟩;show b / sg t b =(((b / sg t b).toNat:Nat):Int);omega
theorem zee(x y:Rat):vB (x.num*y.den+y.num*x.den) (x.den*y.den)=x+y:=by
 rw[Rat.add_def',← Gn];simp
theorem zgL(x y:Rat):vB (x.num*y.den - y.num*x.den) (x.den*y.den)=x - y:=by
 rw[Rat.sub_def',← Gn];simp
theorem zaR(x y:Rat):vB (x.num*y.num) (x.den*y.den)=x*y:=by
 rw[Rat.mul_def',← Gn];simp
theorem zg7(x y:Rat):vB (x.num*y.den) (x.den*y.num)=x / y:=by
 rw[Rat.div_def,waU,← gm x,GF];simp[gm]
end Nm
namespace L2
open PySem PySem.Spec PyProof.Rows
theorem zU:bootBuiltins "len" = some (.builtin "len"):=by decide +kernel
theorem zdt:bootBuiltins "abs" = some (.builtin "abs"):=by decide +kernel
theorem ya:bootBuiltins "isinstance" = some (.builtin "isinstance"):=by decide +kernel
theorem zhs:bootBuiltins "sum" = some (.builtin "sum"):=by decide +kernel
theorem zdm:bootBuiltins "sorted" = some (.builtin "sorted"):=by decide +kernel
theorem zf2:bootBuiltins "int" = some (.type "int"):=by decide +kernel
theorem zgZ:bootBuiltins "bool" = some (.type "bool"):=by decide +kernel
theorem qA:bootBuiltins "list" = some (.type "list"):=by decide +kernel
theorem JF:bootBuiltins "tuple" = some (.type "tuple"):=by decide +kernel
theorem zhn:bootBuiltins "zip" = some (.type "zip"):=by decide +kernel
def Sm(n:Nat)(x:Int):Prop:=x.natAbs<2^n
theorem Sm.bits{n:Nat}{x:Int}(h:Sm n x):Builtin.Int.intBits x<=n:=by
 unfold Builtin.Int.intBits
 split
 ·exact vA _
 ·rename_i h0;have h0':x.natAbs≠0:=by
   intro z;have e:x=0:=by omega
   rw[e]at h0;exact h0 rfl
  have:=(Nat.log2_lt h0').mpr h;omega
theorem Sm.mulOk{m n:Nat}{a b:Int}(ha:Sm m a)(hb:Sm n b)(h:m+n<=134217728):IntMulOk a b:=IntMulOk.of_le ha.bits hb.bits h
theorem Sm.mono{m n:Nat}{x:Int}(h:Sm m x)(hmn:m<=n):Sm n x:=wL h (vg (by decide) hmn)
theorem Sm.mul{m n:Nat}{a b:Int}(ha:Sm m a)(hb:Sm n b):Sm (m+n) (a*b):=by
 unfold Sm;rw[vv,uy];exact wao ha hb
theorem Sm.add{n:Nat}{a b:Int}(ha:Sm n a)(hb:Sm n b):Sm (n+1) (a+b):=by
 unfold Sm at *;rw[gr];have:=Gd a b;omega
theorem Sm.sub{n:Nat}{a b:Int}(ha:Sm n a)(hb:Sm n b):Sm (n+1) (a - b):=by
 unfold Sm at *;rw[gr];have:=waf a b;omega
theorem Sm.neg{n:Nat}{a:Int}(ha:Sm n a):Sm n (-a):=by
 unfold Sm at *;rw[Int.natAbs_neg];exact ha
theorem Sm.le{n:Nat}{a b:Int}(ha:Sm n a)(h:b.natAbs<=a.natAbs):Sm n b:=ud h ha
section
variable{X:Cx}{a b c:Expr}{ta tb tc:TE}{pos:Pos}
theorem zS:OpR X (binaryOp .Mult) (rI IntMulOk fun i j=>.int (i*j)):=opI fun _ _ _ _ _ _ _ hc q=>mul_int q hc
def rIsi(K:PySem.W.Frag):List V->Hp->VK->Prop:=fun xs H Q=>∃ x n t b,xs=[x,.ty n]/\TyOf K H x t/\PySem.W.kitOne K t (.type n)=some b/\Q (.bl b) H
theorem zfE:CallR X (.builtin "isinstance") (rIsi X.K):=by
 intro pins s σ H xs us Q I r h;obtain⟨x,n,t,b,rfl,ty,e,q⟩:=h;obtain⟨u,w',rfl,r1,r2⟩:=Vals.two r;cases r2;exact zcL I r1 ty e fun tk=>⟨.bl b,H,I.tok tk,rfl,q⟩
theorem JV {x:Str} {n:String} (hg:Gl X x) (hm:X.mg x=none) (hv:bootBuiltins x=some (.type n)) (hn:x ≠ "__name__" := by decide) (hd:(x ==("__debug__" : Str))=false:=by decide):PE X (.Name x pos) (tC (.ty n)) :=
 zgU hg hm hv rfl hn hd
end
structure Kn(P:Program)(w:World)(K:PySem.W.Frag)(mg:Str->Option Value)(base:Heap)(x:Str)(k:Nat)(ps:List Str)(sp:Sp):Prop where
 ex:∃(f:Addr)(fd:FuncData),FnOk P w K mg base CX0 k f fd ps sp/\mg x=some (.ref f)/\PySem.W.keepIn K (.ref f)=true/\Binds K fd ps []
theorem zh8{X:Cx}{x:Str}{k:Nat}{ps:List Str}{sp:Sp}{p pos:Pos}{e:Expr}{es:List Expr}{t:TA}(D:Kn X.prog X.w X.K X.mg X.base x k ps sp)(hr:Room k X.A)(hg:Gl X x)(ha:PA X (e::es) t)
  (hdb:(x ==("__debug__" : Str))=false:=by decide) (he:starEach (e::es) X.env =(false,eval e X.env)::starEach es X.env:=by rfl) (hpl:(backTo pos (starEach es X.env)).any (·.1)=false:=by rfl) :
  PE X (.Call (.Name x p) (e::es) [] pos) (tCall sp [] E0 t):=by
 obtain⟨f,fd,F,hm,hk,hb⟩:=D.ex;exact zgt F hr hg hm hk hb .nil pass0 ha hdb he hpl
structure Df(K:PySem.W.Frag)(mg:Str->Option Value)(x:Str)(ps:List Str)(st:Stmt):Prop where
 ex:∃(f:Addr)(fd:FuncData),Fun K x x st f fd/\mg x=some (.ref f)/\Binds K fd ps []
section
variable{P:Program}{w:World}{K:PySem.W.Frag}{mg:Str->Option Value}{base:Heap}
theorem Df.kn{x:Str}{st:Stmt}{N ps:List Str}{k:Nat}{sp:Sp}(D:Df K mg x ps st)(S:kad N ps (kab st))(len:∀ vs H Q E,sp vs H Q E->vs.length=ps.length)
  (hbody:∀(f:Addr)(cdv:Value)(A:Around)(outer:List Env)(s:Shared)(H:Hp)(vs:List V)(Q:VK)(E:XK),Room k (A.deeper (envOfC x (kab st) s.heap.objs.size f cdv))->sp vs H Q E ->
   ∃ t,PSs (cxOf CX0 P w K mg base N x (kab st) f cdv A outer s H E).nox (kam st) t/\t { nx:=fun _ H'=>Q .non H',rt:=Q } (start N vs) H):Kn P w K mg base x (k+1) ps sp:=by
 obtain⟨f,fd,F,hm,hb⟩:=D.ex;exact⟨f,fd,F.ok S len (fun cdv A outer s H vs Q E hr h=>hbody f cdv A outer s H vs Q E hr h),hm,F.kp,hb⟩
theorem zig{x:Str}{ps:List Str}{st:Stmt}{h:Heap}{f:Addr}{oc:Value}{od an:Option Addr}{osl:Array (Option Value)}{kV doc pm cdv ct:Value}(X:K.In h)(G:h.Ns mainGlobals mg)
  (a:PySem.W.nsIn K mainGlobals x=some (some (.ref f)))
  (l:K.lookup f=some ⟨oc,od,.func (PySem.W.fnOf x x (kao st) (kam st) (kab st) .none kV doc pm an cdv ct),osl⟩)
  (c:PySem.W.codeIn K cdv x=true) (k:PySem.W.keepIn K (.ref f)=true)
  (hb:∀(kV doc pm:Value)(an:Option Addr)(cdv ct:Value)(us:List Value),us.length=ps.length->bindArgs (PySem.W.fnOf x x (kao st) (kam st) (kab st) .none kV doc pm an cdv ct) ⟨us,[]⟩=pure (ps.zip us)):Df K mg x ps st:=by
 have F:=zf8 (st:=st) l c k;exact⟨f,_,F,PySem.W.mg_of X G a,F.binds hb⟩
end
theorem bind1{fd:FuncData}{ps:List Str}(h:∀ a0,bindArgs fd ⟨[a0],[]⟩=pure (ps.zip [a0]))(us:List Value)(e:us.length=1):bindArgs fd ⟨us,[]⟩=pure (ps.zip us):=by
 match us,e with | [a0],_=>exact h a0
theorem kar{fd:FuncData}{ps:List Str}(h:∀ a0 a1,bindArgs fd ⟨[a0,a1],[]⟩=pure (ps.zip [a0,a1]))(us:List Value)(e:us.length=2):bindArgs fd ⟨us,[]⟩=pure (ps.zip us):=by
 match us,e with | [a0,a1],_=>exact h a0 a1
theorem kaq{fd:FuncData}{ps:List Str}(h:∀ a0 a1 a2,bindArgs fd ⟨[a0,a1,a2],[]⟩=pure (ps.zip [a0,a1,a2]))(us:List Value)(e:us.length=3):bindArgs fd ⟨us,[]⟩=pure (ps.zip us):=by
 match us,e with | [a0,a1,a2],_=>exact h a0 a1 a2
theorem bind4{fd:FuncData}{ps:List Str}(h:∀ a0 a1 a2 a3,bindArgs fd ⟨[a0,a1,a2,a3],[]⟩=pure (ps.zip [a0,a1,a2,a3]))(us:List Value)(e:us.length=4):bindArgs fd ⟨us,[]⟩=pure (ps.zip us):=by
 match us,e with | [a0,a1,a2,a3],_=>exact h a0 a1 a2 a3
def spLaw(K:PySem.W.Frag):Sp:=fun vs H Q _=>∃(a:Addr)(ns:List Int),vs=[.ref a]/\SqL K H a (ns.map V.int)/\ns.length<=63/\∀ H',Q (.bl true) H'
theorem zg{H:Hp}{p:Addr}(h:H p=none)(o:HO):Same H (upd H p o):=fun b u q=>by rw[zN (zV q h)];exact q
theorem zhZ {K:PySem.W.Frag} {mg:Str->Option Value} {st:Stmt} {h:Heap} {f fa:Addr} {oc:Value} {od an:Option Addr} {osl:Array (Option Value)} {kV doc pm cdv ct:Value} (X:K.In h) (G:h.Ns mainGlobals mg) (hmg:mg "law" = some (.ref fa))
  (a:PySem.W.nsIn K mainGlobals "law" = some (some (.ref f)))
  (l:K.lookup f=some ⟨oc,od,.func (PySem.W.fnOf "law" "law" (kao st) (kam st) (kab st) .none kV doc pm an cdv ct),osl⟩)
  (c:PySem.W.codeIn K cdv "law" = true) (k:PySem.W.keepIn K (.ref f)=true)
  (hb:∀(kV doc pm:Value)(an:Option Addr)(cdv ct:Value)(v:Value),bindArgs (PySem.W.fnOf "law" "law" (kao st) (kam st) (kab st) .none kV doc pm an cdv ct) ⟨[v],[]⟩=pure [(("_law_script" : Str),v)]) :
  ∃ fd:FuncData,Fun K "law" "law" st fa fd/\∀(s:Shared)(v:Value),BindsTo s fd ⟨[v],[]⟩ [("_law_script",v)]:=by
 have e:=hmg.symm.trans (PySem.W.mg_of X G a);cases e;exact⟨_,zf8 (st:=st) l c k,fun s v=>.of_eq (hb _ _ _ _ _ _ v)⟩
end L2
namespace L2
open PySem PySem.Spec PyProof.Rows
def fragFrom:Nat->List Obj->PySem.W.Frag
 | _,[]=>[]
 | i,o::r=>match o.data with
  | .freed=>fragFrom (i+1) r
  | _=>(i,o)::fragFrom (i+1) r
def fragH(h:Heap):PySem.W.Frag:=fragFrom 0 h.objs.toList
theorem YQ:∀(l:List Obj)(i a:Nat)(o:Obj),(fragFrom i l).lookup a=some o->∃ j,a=i+j/\l[j]?=some o/\(∀ c d sl,o≠⟨c,d,.freed,sl⟩)
 | [],i,a,o,h=>by cases h
 | p::r,i,a,o,h=>by
  unfold fragFrom at h;have go:(fragFrom (i+1) r).lookup a=some o->∃ j,a=i+j/\(p::r)[j]?=some o/\(∀ c d sl,o≠⟨c,d,.freed,sl⟩):=fun h=>by
   obtain⟨j,e,e',n⟩:=YQ r (i+1) a o h;exact⟨j+1,by omega,by simpa using e',n⟩
  split at h
  ·exact go h
  ·rename_i hf;rw[Go]at h
   split at h
   ·rename_i e;cases h;have e:a=i:=by simpa using e
    exact⟨0,by omega,by simp,fun c d sl e=>hf (by rw[e])⟩
   ·exact go h
theorem zfG(h:Heap):(fragH h).In h:=fun a o e=>by
 obtain⟨j,rfl,e',n⟩:=YQ _ _ _ _ e;unfold Heap.get?;have e'':h.objs[0+j]?=some o:=by
  rw[vS]
  simpa using e'
 rw[e''];obtain⟨c,d,dt,sl⟩:=o;cases dt <;> first|rfl|exact absurd rfl (n _ _ _)
def fnSh(K:PySem.W.Frag)(x:Str):Option (FuncData×Bool×Bool):=match PySem.W.nsIn K mainGlobals x with
 | some (some (.ref f))=>(match K.lookup f with
  | some ⟨_,_,.func fd,_⟩=>some ({ fd with kwdefaults:=.none,doc:=.none,pyModule:=.none,annotations:=none,code:=.none,closureTuple:=.none },PySem.W.codeIn K fd.code x,PySem.W.keepIn K (.ref f))
  | _=>none)
 | _=>none
def fnEx(x:Str)(st:Stmt):Option (FuncData×Bool×Bool):=some (PySem.W.fnOf x x (kao st) (kam st) (kab st) .none .none .none .none none .none .none,true,true)
theorem zdw{K:PySem.W.Frag}{x:Str}{st:Stmt}(e:fnSh K x=fnEx x st):∃(f:Addr)(oc:Value)(od an:Option Addr)(osl:Array (Option Value))(kV doc pm cdv ct:Value),
  PySem.W.nsIn K mainGlobals x=some (some (.ref f))/\K.lookup f=some ⟨oc,od,.func (PySem.W.fnOf x x (kao st) (kam st) (kab st) .none kV doc pm an cdv ct),osl⟩ /\
  PySem.W.codeIn K cdv x=true/\PySem.W.keepIn K (.ref f)=true:=by
 unfold fnSh fnEx at e
 split at e
 ·rename_i f hf
  split at e
  ·rename_i oc od fd osl hl;obtain⟨nm,qn,pa,bo,sc,gl,cl,de,kd,dc,pm,an,co,ct,bi⟩:=fd;simp only[Option.some.injEq,Prod.mk.injEq,FuncData.mk.injEq]at e;obtain⟨⟨rfl,rfl,rfl,rfl,rfl,rfl,rfl,rfl,-,-,-,-,-,-,rfl⟩,e1,e2⟩:=e;exact⟨f,oc,od,an,osl,kd,dc,pm,co,ct,hf,hl,e1,e2⟩
  ·cases e
 ·cases e
def ctSh(K:PySem.W.Frag)(x:Str):Option Int:=match PySem.W.nsIn K mainGlobals x with
 | some (some (.int i _))=>some i
 | _=>none
section
variable{K:PySem.W.Frag}{mg:Str->Option Value}{h:Heap}
theorem zX{x:Str}{ps:List Str}{st:Stmt}(X:K.In h)(G:h.Ns mainGlobals mg)(e:fnSh K x=fnEx x st)
  (hb:∀(kV doc pm:Value)(an:Option Addr)(cdv ct:Value)(us:List Value),us.length=ps.length->bindArgs (PySem.W.fnOf x x (kao st) (kam st) (kab st) .none kV doc pm an cdv ct) ⟨us,[]⟩=pure (ps.zip us)):Df K mg x ps st:=by
 obtain⟨f,oc,od,an,osl,kV,doc,pm,cdv,ct,a,l,c,k⟩:=zdw e;exact zig X G a l c k hb
theorem zh4 {st:Stmt} {fa:Addr} (X:K.In h) (G:h.Ns mainGlobals mg) (hmg:mg "law" = some (.ref fa)) (e:fnSh K "law" = fnEx "law" st)
  (hb:∀(kV doc pm:Value)(an:Option Addr)(cdv ct:Value)(v:Value),bindArgs (PySem.W.fnOf "law" "law" (kao st) (kam st) (kab st) .none kV doc pm an cdv ct) ⟨[v],[]⟩=pure [(("_law_script" : Str),v)]) :
  ∃ fd:FuncData,Fun K "law" "law" st fa fd/\∀(s:Shared)(v:Value),BindsTo s fd ⟨[v],[]⟩ [("_law_script",v)]:=by
 obtain⟨f,oc,od,an,osl,kV,doc,pm,cdv,ct,a,l,c,k⟩:=zdw e;exact zhZ X G hmg a l c k hb
end
def nth{α:Type}:List α->Nat->Option α
 | [],_=>none
 | a::_,0=>some a
 | _::r,n+1=>nth r n
theorem zG{α:Type}{l l':List α}(h:l=l')(n:Nat){a b:α}(x:nth l n=some a)(y:nth l' n=some b):a=b:=by
 subst h;exact Option.some.inj (x.symm.trans y)
def lawOnly(p:Program):Program:={ p with main:={ p.main with body:=p.main.body.filter fun st=>match st with
 | .FunctionDef n ..=>n ==("law" : Str)
 | _=>false } }
def looseOf (p:Program):List Str:=(p.main.scope.names.map (·.1)).filter fun n=>!(n ==("law" : Str))
def lawRec (p:Program):DefRec:=match PySem.W.defOf (lawOnly p) "law" with
 | some (d,_)=>d
 | none=>⟨"law",{ posonlyargs:=[],args:=[],vararg:=none,kwonlyargs:=[],kw_defaults:=[],kwarg:=none,defaults:=[] },[],{ kind:=.function,names:=[],isGenerator:=false,isCoroutine:=false },default⟩
def runT(p:Program)(N:Nat)(w:World)(os:OsState):Option Shared :=
 PySem.W.Fast.tw14082659384304107361 PySem.W.Fast.tw14364793385576792824 p w 11 (some (.ref 6)) N ⟨PySem.W.boot_heap w.params,#[],PySem.W.boot_drawn,PySem.W.boot_toks,os⟩ (PySem.W.topStub p)
def statT(p:Program)(w:World)(s₁:Shared):Bool:=PySem.W.staticsOk (importedModules p.main.body) (PySem.W.boot_heap w.params) s₁.heap && PySem.W.namesBound p s₁.heap && PySem.W.gensDone s₁ && PySem.W.laidKept (PySem.W.boot_heap w.params) s₁.heap
def seenT(p:Program)(s:Shared):=PySem.W.Fast.tw4187177175401517315 (lawOnly p) (looseOf p) (importedModules p.main.body) (fun _=>true) true s
structure Behind{β:Type}(p:Program)(N:Nat)(lk:PySem.W.Frag->β)(val:β):Prop where
 st:∀(w:World)(os:OsState),(runT p N w os).map (statT p w)=some true
 sn:∀(w:World)(os:OsState),(runT p N w os).map (seenT p)=some (PySem.W.openGood (lawOnly p) (looseOf p))
 lk:∀(w:World)(os:OsState),(runT p N w os).map (fun s=>lk (fragH s.heap))=some val
theorem zeb (w:World):((PySem.W.boot_heap w.params).isNs mainGlobals && (#[]:Array GenState).size == 0)=true/\(PySem.W.boot_heap w.params).objs.size=11/\(PySem.W.boot_heap w.params).nsMap mainGlobals "__annotations__" = some (.ref 6):=by
 refine⟨?_,?_,?_⟩
 ·kernel_rfl
 ·kernel_rfl
 ·rw[PySem.W.Fast.te8920871248978507458];kernel_rfl
theorem zcV{β:Type}{p:Program}{N:Nat}{lk:PySem.W.Frag->β}{val:β}(e:PySem.W.opening p=PySem.W.plainProg p.main.scope.names)(hN:Nat.ble 600 N=true)(f:∀ s,fenceModules? p s=some s)
  (h:Behind p N lk val) :
  PySem.W.LeftO p (lawOnly p) (looseOf p) (fun _=>true) (fun s=>lk (fragH s.heap)) (fun _=>val) N:=fun w=>by
 obtain⟨⟨hp,gs,d,k,os⟩,e1,e2⟩:=wG.mp (PySem.W.boot_open e hN f w);obtain⟨rfl,rfl,rfl,rfl⟩ : hp=PySem.W.boot_heap w.params/\gs=#[]/\d=PySem.W.boot_drawn/\k=PySem.W.boot_toks:=by simpa using e2
 obtain⟨z1,z2,z3⟩:=zeb w;have zs:=h.st w os;have zn:=h.sn w os;have zl:=h.lk w os;unfold seenT at zn;unfold runT at zs zn zl;rw[← PySem.W.Fast.te14082659384304107361,← PySem.W.Fast.te14364793385576792824]at zs zn zl;rw[← PySem.W.Fast.te4187177175401517315]at zn;obtain⟨s₁,er,es⟩:=wG.mp zs;rw[er]at zn zl;unfold statT at es;unfold PySem.W.openEnds;rw[e1];show(PySem.W.topFrom treeTable p w N _).map _=_;unfold PySem.W.topFrom
 dsimp only
 rw[z1,z2,z3,er];show((match PySem.W.staticsOk (importedModules p.main.body) (PySem.W.boot_heap w.params) s₁.heap && PySem.W.namesBound p s₁.heap && PySem.W.gensDone s₁ && PySem.W.laidKept (PySem.W.boot_heap w.params) s₁.heap with|true=>some s₁|false=>none).map _:Option _)=_;rw[es];exact congrArg some (Prod.ext (Option.some.inj zn) (Option.some.inj zl))
theorem zcf {β:Type} {l:PySem.W.OpenLaw} (k N:Nat) (lk:PySem.W.Frag->β) (val:β) (ws:PySem.W.Fast.tw9446332074065402090 l=true) (hl:l.name = "law") (hn:l.most=some 63) (hwr:l.writes=false)
  (e:PySem.W.opening l.prog=PySem.W.plainProg l.prog.main.scope.names) (hN:Nat.ble 600 N=true) (f:∀ s,fenceModules? l.prog s=some s)
  (h:Behind l.prog N lk val)
  (hd:PySem.W.defOf (lawOnly l.prog) "law" = some (lawRec l.prog,[])) (hp:l.prog.theDef "law" = some ((lawRec l.prog).params,(lawRec l.prog).body,(lawRec l.prog).scope))
  (hk:PySem.W.kwWritten? (lawRec l.prog).params.kwonlyargs (lawRec l.prog).params.kw_defaults=some []) (hdf:(lawRec l.prog).params.defaults=[]) (hnm:(lawRec l.prog).name = "law")
  (ok:(PySem.W.chainsOk (lawOnly l.prog) && PySem.W.opensWell l.prog && (PySem.W.frees l.row.toRowW && l.row.within.isEmpty))=true) (hb:l.prog.bare) (hw:l.row.toRowW.promised) (hi:PyProof.Rows.importsNone (lawOnly l.prog)=true) (hr:Room k callerA)
  (F:∀(w:World)(mg:Str->Option Value)(fa:Addr)(h:Heap)(K:PySem.W.Frag),K.In h->lk K=val->h.Ns mainGlobals mg->mg "law" = some (.ref fa) ->
   ∃ fd:FuncData,(∀(s:Shared)(u:Value),BindsTo s fd ⟨[u],[]⟩ [("_law_script",u)])/\∀ base:Heap,K.In base->base.Ns mainGlobals mg->base.NoSeer->FnOk l.prog w K mg base CX0 k fa fd ["_law_script"] (spLaw K)):l.Holds:=by
 rw[← PySem.W.Fast.te9446332074065402090]at ws;refine PySem.W.holds_law ws fun said=>?_
 have hl':l.row.toRowW.name = "law" := hl;refine PySem.W.holds_open (r:=l.row) (q:=lawOnly l.prog) (loose:=looseOf l.prog) (Xt:=fun _=>true) (XP:=fun _ _=>True) (Yf:=fun s=>lk (fragH s.heap)) (Ya:=fun _=>val)
  (YP:=fun _ h=>∃ K:PySem.W.Frag,K.In h/\lk K=val) (d:=lawRec l.prog) (kwd:=[]) (N:=N) (zcV e hN f h) (fun w s e=>⟨_,zfG _,e⟩) (fun w h h' y kp=>?_) (fun _ _=>True.intro) (fun _ _ _ _ _=>True.intro)
  (by rw[hl'];exact hd) (by rw[hl'];exact hp) hk (fun s _=>PySem.W.recFacts_of (R:=[]) rfl) ?_ said ok hb hw ?_
 ·obtain⟨K,i,q⟩:=y;exact⟨K,i.keeps kp,q⟩
 ·show(!l.writes || _)=true;rw[hwr];rfl
 ·refine Att.zaP hn hdf fun w s₀ s₁ mg mb fa o pm cd doc a vs ns G Y ho hd hcd hmg hobj hints hlen hg=>?_
  obtain⟨K,KX,q⟩:=Y;rw[hnm]at hmg;obtain⟨fd,hb,hF⟩:=F w mg fa _ K KX q G.T.g hmg;exact zeO KX G.T.g G.T.b G.T.builtins G.T.nolimit (G.T.seer hi) hg hobj hints (wD hlen (by decide)) hr hF hb (fun H hO hS=>⟨a,ns,rfl,hS,hlen,fun _=>rfl⟩) fun H e s' z=>z
end L2
namespace KL
open PySem PySem.Spec PyProof.Rows L2
abbrev Sq:List Str:=["one", "other"]
abbrev Sr:List Str:=["top", "bottom"]
abbrev Ss:List Str:=["prime", "rest"]
abbrev Su:List Str:=["kind", "whole"]
abbrev Sv:List Str:=["kind", "one", "other"]
abbrev Sx:List Str:=["_law_one", "_law_other"]
abbrev Sy:List Str:=["kind", "row"]
abbrev Sz:List Str:=["kind", "top", "bottom"]
abbrev SA:List Str:=["kind", "wholes"]
abbrev SB:List Str:=["kind", "row", "lead_row", "column"]
abbrev SC:List Str:=["kind", "rows"]
abbrev SD:List Str:=["table"]
abbrev SE:List Str:=["kind", "machine", "many"]
abbrev SF:List Str:=["marks", "start", "many"]
abbrev SG:List Str:=["kind", "marks", "most"]
abbrev SH:List Str:=["marks", "room", "leads"]
abbrev SI:List Str:=["kind", "machine", "told"]
abbrev SJ:List Str:=["kind", "marks"]
abbrev SK:List Str:=["_law_top", "_law_bottom"]
abbrev SL:List Str:=["_law_cell", "_law_k"]
abbrev SM:List Str:=["_law_prime_here", "_law_cell"]
abbrev SN:List Str:=["_law_prime_here", "_law_whole_here"]
abbrev SO:List Str:=["_law_prime_here", "_law_one", "_law_other"]
abbrev SQ:List Str:=["_law_prime_here", "_law_cells", "_law_k"]
abbrev SR:List Str:=["_law_head", "_law_n", "_law_plain"]
abbrev SS:List Str:=["_law_row", "_law_column"]
abbrev ST:List Str:=["_law_prime_here", "_law_cells", "_law_sizes", "_law_sorts_here"]
abbrev SU:List Str:=["_law_prime_here", "_law_tables", "_law_cell"]
abbrev SV:List Str:=["_law_cells", "_law_most"]
abbrev SW:List Str:=["_law_prime_here", "_law_found"]
abbrev SX:List Str:=["_law_prime_here", "_law_found", "_law_many"]
abbrev SY:List Str:=["_law_prime_here", "_law_found", "_law_rows", "_law_columns"]
abbrev SZ:List Str:=["_law_prime_here", "_law_table", "_law_column"]
abbrev qc:List Str:=["_law_prime_here", "_law_one"]
abbrev qe:List Str:=["_law_prime_here", "_law_rows"]
abbrev qf:List Str:=["_law_prime_here", "_law_machine_here", "_law_many"]
abbrev qm:List Str:=["_law_prime_here", "_law_found", "_law_m", "_law_q"]
abbrev qG:List Str:=["_law_series", "_law_rows", "_law_columns"]
abbrev qH:List Str:=["_law_prime_here", "_law_series", "_law_sure"]
theorem Qa:sizeLine=16777216:=by decide
set_option maxHeartbeats 4000000
def top(i:Nat):Stmt:=PySem.Challenge.pw_steermill_k71_read_off.main.body.getD i (.Pass ⟨0,0,0,0⟩)
abbrev yP:Stmt:=top 1
theorem sv:kad ["one", "other", "left", "right", "rest"] ["one", "other"] (kab yP):=⟨rfl,rfl,rfl,by decide +kernel,rfl,by decide +kernel,by decide +kernel⟩
abbrev qi:Stmt:=top 2
theorem Sc:kad ["top", "bottom", "divisor"] ["top", "bottom"] (kab qi):=⟨rfl,rfl,rfl,by decide +kernel,rfl,by decide +kernel,by decide +kernel⟩
abbrev qh:Stmt:=top 3
theorem Sd:kad ["prime", "rest", "left", "right", "many_left", "many_right", "whole", "less", "many_less"] ["prime", "rest"] (kab qh):=⟨rfl,rfl,rfl,by decide +kernel,rfl,by decide +kernel,by decide +kernel⟩
abbrev Yb:Stmt:=top 4
theorem zew:kad ["kind", "whole"] ["kind", "whole"] (kab Yb):=⟨rfl,rfl,rfl,by decide +kernel,rfl,by decide +kernel,by decide +kernel⟩
abbrev zbx:Stmt:=top 5
theorem zgC:kad ["kind", "one", "other"] ["kind", "one", "other"] (kab zbx):=⟨rfl,rfl,rfl,by decide +kernel,rfl,by decide +kernel,by decide +kernel⟩
abbrev ZX:Stmt:=top 7
theorem Sj:kad ["kind", "row", "bottom", "part"] ["kind", "row"] (kab ZX):=⟨rfl,rfl,rfl,by decide +kernel,rfl,by decide +kernel,by decide +kernel⟩
abbrev qp:Stmt:=top 8
theorem zaK:kad ["kind", "top", "bottom"] ["kind", "top", "bottom"] (kab qp):=⟨rfl,rfl,rfl,by decide +kernel,rfl,by decide +kernel,by decide +kernel⟩
abbrev jC:Stmt:=top 9
theorem zan:kad ["one", "other"] ["one", "other"] (kab jC):=⟨rfl,rfl,rfl,by decide +kernel,rfl,by decide +kernel,by decide +kernel⟩
abbrev yL:Stmt:=top 10
theorem qT:kad ["kind", "one", "other"] ["kind", "one", "other"] (kab yL):=⟨rfl,rfl,rfl,by decide +kernel,rfl,by decide +kernel,by decide +kernel⟩
abbrev Jl:Stmt:=top 11
theorem Sn:kad ["kind", "wholes", "divisor", "whole"] ["kind", "wholes"] (kab Jl):=⟨rfl,rfl,rfl,by decide +kernel,rfl,by decide +kernel,by decide +kernel⟩
abbrev qW:Stmt:=top 12
theorem zcr:kad ["kind", "row", "lead_row", "column"] ["kind", "row", "lead_row", "column"] (kab qW):=⟨rfl,rfl,rfl,by decide +kernel,rfl,by decide +kernel,by decide +kernel⟩
abbrev Jw:Stmt:=top 13
theorem Sk:kad ["kind", "rows", "done", "waiting", "width", "column", "leading", "lead_row"] ["kind", "rows"] (kab Jw):=⟨rfl,rfl,rfl,by decide +kernel,rfl,by decide +kernel,by decide +kernel⟩
abbrev Yk:Stmt:=top 15
theorem Si:kad ["rows", "told", "row"] ["rows"] (kab Yk):=⟨rfl,rfl,rfl,by decide +kernel,rfl,by decide +kernel,by decide +kernel⟩
abbrev ZT:Stmt:=top 16
theorem zdf:kad ["table"] ["table"] (kab ZT):=⟨rfl,rfl,rfl,by decide +kernel,rfl,by decide +kernel,by decide +kernel⟩
abbrev qP:Stmt:=top 17
theorem Sg:kad ["kind", "one", "other", "columns", "told", "row", "left"] ["kind", "one", "other"] (kab qP):=⟨rfl,rfl,rfl,by decide +kernel,rfl,by decide +kernel,by decide +kernel⟩
abbrev qY:Stmt:=top 18
theorem Sh:kad ["kind", "row", "nought", "place"] ["kind", "row"] (kab qY):=⟨rfl,rfl,rfl,by decide +kernel,rfl,by decide +kernel,by decide +kernel⟩
abbrev jr:Stmt:=top 19
theorem Sa:kad ["kind", "wholes", "lead"] ["kind", "wholes"] (kab jr):=⟨rfl,rfl,rfl,by decide +kernel,rfl,by decide +kernel,by decide +kernel⟩
abbrev qU:Stmt:=top 20
theorem Sf:kad ["kind", "rows", "wholes"] ["kind", "rows"] (kab qU):=⟨rfl,rfl,rfl,by decide +kernel,rfl,by decide +kernel,by decide +kernel⟩
abbrev JG:Stmt:=top 22
theorem Sl:kad ["kind", "machine", "many", "told", "left", "place"] ["kind", "machine", "many"] (kab JG):=⟨rfl,rfl,rfl,by decide +kernel,rfl,by decide +kernel,by decide +kernel⟩
abbrev jz:Stmt:=top 23
theorem QA:kad ["kind", "machine", "told"] ["kind", "machine", "told"] (kab jz):=⟨rfl,rfl,rfl,by decide +kernel,rfl,by decide +kernel,by decide +kernel⟩
abbrev qs:Stmt:=top 24
theorem zaQ:kad ["machine"] ["machine"] (kab qs):=⟨rfl,rfl,rfl,by decide +kernel,rfl,by decide +kernel,by decide +kernel⟩
abbrev Yi:Stmt:=top 26
theorem zd9:kad ["kind", "one", "other"] ["kind", "one", "other"] (kab Yi):=⟨rfl,rfl,rfl,by decide +kernel,rfl,by decide +kernel,by decide +kernel⟩
abbrev xp:Stmt:=top 28
theorem sF:kad ["marks", "start", "many", "columns"] ["marks", "start", "many"] (kab xp):=⟨rfl,rfl,rfl,by decide +kernel,rfl,by decide +kernel,by decide +kernel⟩
abbrev yK:Stmt:=top 29
theorem sk:kad ["kind", "marks", "most", "room", "start", "wider"] ["kind", "marks", "most"] (kab yK):=⟨rfl,rfl,rfl,by decide +kernel,rfl,by decide +kernel,by decide +kernel⟩
abbrev xS:Stmt:=top 30
theorem sQ:kad ["marks", "room", "leads", "sights", "firsts", "A", "B"] ["marks", "room", "leads"] (kab xS):=⟨rfl,rfl,rfl,by decide +kernel,rfl,by decide +kernel,by decide +kernel⟩
abbrev qb:Stmt:=top 31
theorem Se:kad ["kind", "marks", "most", "room", "leads", "machine"] ["kind", "marks"] (kab qb):=⟨rfl,rfl,rfl,by decide +kernel,rfl,by decide +kernel,by decide +kernel⟩
abbrev qq:Stmt:=top 32
theorem Sb:kad ["kind", "marks", "many_sights", "machine"] ["kind", "marks"] (kab qq):=⟨rfl,rfl,rfl,by decide +kernel,rfl,by decide +kernel,by decide +kernel⟩
abbrev xU:Stmt:=top 34
theorem JC:kad ["_law_found"] ["_law_found"] (kab xU):=⟨rfl,rfl,rfl,by decide +kernel,rfl,by decide +kernel,by decide +kernel⟩
abbrev xl:Stmt:=top 35
theorem sH:kad ["_law_one", "_law_other"] ["_law_one", "_law_other"] (kab xl):=⟨rfl,rfl,rfl,by decide +kernel,rfl,by decide +kernel,by decide +kernel⟩
abbrev xK:Stmt:=top 36
theorem sU:kad ["_law_cell", "_law_k", "_law_left", "_law_j", "_law_one"] ["_law_cell", "_law_k"] (kab xK):=⟨rfl,rfl,rfl,by decide +kernel,rfl,by decide +kernel,by decide +kernel⟩
abbrev xR:Stmt:=top 37
theorem JE:kad ["_law_prime_here", "_law_cell"] ["_law_prime_here", "_law_cell"] (kab xR):=⟨rfl,rfl,rfl,by decide +kernel,rfl,by decide +kernel,by decide +kernel⟩
abbrev xa:Stmt:=top 38
theorem sE:kad ["_law_top", "_law_bottom", "_law_by"] ["_law_top", "_law_bottom"] (kab xa):=⟨rfl,rfl,rfl,by decide +kernel,rfl,by decide +kernel,by decide +kernel⟩
abbrev jt:Stmt:=top 39
theorem QX:kad ["_law_prime_here", "_law_whole_here"] ["_law_prime_here", "_law_whole_here"] (kab jt):=⟨rfl,rfl,rfl,by decide +kernel,rfl,by decide +kernel,by decide +kernel⟩
abbrev jG:Stmt:=top 40
theorem Qi:kad ["_law_prime_here", "_law_one", "_law_other"] ["_law_prime_here", "_law_one", "_law_other"] (kab jG):=⟨rfl,rfl,rfl,by decide +kernel,rfl,by decide +kernel,by decide +kernel⟩
abbrev xW:Stmt:=top 41
theorem Jy:kad ["_law_prime_here", "_law_one", "_law_other"] ["_law_prime_here", "_law_one", "_law_other"] (kab xW):=⟨rfl,rfl,rfl,by decide +kernel,rfl,by decide +kernel,by decide +kernel⟩
abbrev xQ:Stmt:=top 42
theorem JQ:kad ["_law_prime_here", "_law_one", "_law_other"] ["_law_prime_here", "_law_one", "_law_other"] (kab xQ):=⟨rfl,rfl,rfl,by decide +kernel,rfl,by decide +kernel,by decide +kernel⟩
abbrev yR:Stmt:=top 43
theorem Zr:kad ["_law_prime_here", "_law_found"] ["_law_prime_here", "_law_found"] (kab yR):=⟨rfl,rfl,rfl,by decide +kernel,rfl,by decide +kernel,by decide +kernel⟩
abbrev xJ:Stmt:=top 44
theorem sS:kad ["_law_prime_here", "_law_table", "_law_column", "_law_told", "_law_row", "_law_one", "_law_j"] ["_law_prime_here", "_law_table", "_law_column"] (kab xJ):=⟨rfl,rfl,rfl,by decide +kernel,rfl,by decide +kernel,by decide +kernel⟩
abbrev xx:Stmt:=top 45
theorem Xy:kad ["_law_table"] ["_law_table"] (kab xx):=⟨rfl,rfl,rfl,by decide +kernel,rfl,by decide +kernel,by decide +kernel⟩
abbrev xg:Stmt:=top 46
theorem YE:kad ["_law_prime_here", "_law_one", "_law_other"] ["_law_prime_here", "_law_one", "_law_other"] (kab xg):=⟨rfl,rfl,rfl,by decide +kernel,rfl,by decide +kernel,by decide +kernel⟩
abbrev xy:Stmt:=top 47
theorem sO:kad ["_law_prime_here", "_law_found", "_law_many", "_law_one"] ["_law_prime_here", "_law_found", "_law_many"] (kab xy):=⟨rfl,rfl,rfl,by decide +kernel,rfl,by decide +kernel,by decide +kernel⟩
abbrev xm:Stmt:=top 48
theorem Xp:kad ["_law_prime_here", "_law_found", "_law_rows", "_law_columns"] ["_law_prime_here", "_law_found", "_law_rows", "_law_columns"] (kab xm):=⟨rfl,rfl,rfl,by decide +kernel,rfl,by decide +kernel,by decide +kernel⟩
abbrev jq:Stmt:=top 49
theorem sZ:kad ["_law_prime_here", "_law_one", "_law_told", "_law_left"] ["_law_prime_here", "_law_one"] (kab jq):=⟨rfl,rfl,rfl,by decide +kernel,rfl,by decide +kernel,by decide +kernel⟩
abbrev xf:Stmt:=top 50
theorem sJ:kad ["_law_prime_here", "_law_rows", "_law_nought", "_law_left", "_law_told", "_law_at_here", "_law_some", "_law_first", "_law_by"] ["_law_prime_here", "_law_rows"] (kab xf):=⟨rfl,rfl,rfl,by decide +kernel,rfl,by decide +kernel,by decide +kernel⟩
abbrev yU:Stmt:=top 51
theorem sW:kad ["_law_cell", "_law_primes"] ["_law_cell"] (kab yU):=⟨rfl,rfl,rfl,by decide +kernel,rfl,by decide +kernel,by decide +kernel⟩
abbrev Zf:Stmt:=top 52
theorem zb4:kad ["_law_prime_here", "_law_cells", "_law_k"] ["_law_prime_here", "_law_cells", "_law_k"] (kab Zf):=⟨rfl,rfl,rfl,by decide +kernel,rfl,by decide +kernel,by decide +kernel⟩
abbrev xT:Stmt:=top 53
theorem sY:kad ["_law_prime_here", "_law_cells", "_law_k", "_law_one"] ["_law_prime_here", "_law_cells", "_law_k"] (kab xT):=⟨rfl,rfl,rfl,by decide +kernel,rfl,by decide +kernel,by decide +kernel⟩
abbrev xP:Stmt:=top 54
theorem Jx:kad ["_law_head", "_law_n", "_law_plain"] ["_law_head", "_law_n", "_law_plain"] (kab xP):=⟨rfl,rfl,rfl,by decide +kernel,rfl,by decide +kernel,by decide +kernel⟩
abbrev jy:Stmt:=top 55
theorem zak:kad ["_law_row", "_law_column"] ["_law_row", "_law_column"] (kab jy):=⟨rfl,rfl,rfl,by decide +kernel,rfl,by decide +kernel,by decide +kernel⟩
abbrev xn:Stmt:=top 56
theorem sK:kad ["_law_prime_here", "_law_cells", "_law_sizes", "_law_sorts_here", "_law_n", "_law_m", "_law_q", "_law_nought", "_law_tables", "_law_at_here", "_law_rows", "_law_columns", "_law_told", "_law_i", "_law_j", "_law_row"] ["_law_prime_here", "_law_cells", "_law_sizes", "_law_sorts_here"] (kab xn):=⟨rfl,rfl,rfl,by decide +kernel,rfl,by decide +kernel,by decide +kernel⟩
abbrev yN:Stmt:=top 57
theorem sq:kad ["_law_prime_here", "_law_tables", "_law_cell", "_law_n", "_law_i", "_law_j", "_law_c", "_law_table", "_law_hands", "_law_sights", "_law_some", "_law_row"] ["_law_prime_here", "_law_tables", "_law_cell"] (kab yN):=⟨rfl,rfl,rfl,by decide +kernel,rfl,by decide +kernel,by decide +kernel⟩
abbrev xh:Stmt:=top 58
theorem sG:kad ["_law_cells", "_law_most", "_law_head", "_law_prime_here", "_law_sizes", "_law_plain", "_law_tables", "_law_at_here", "_law_k"] ["_law_cells", "_law_most"] (kab xh):=⟨rfl,rfl,rfl,by decide +kernel,rfl,by decide +kernel,by decide +kernel⟩
abbrev xV:Stmt:=top 60
theorem sX:kad ["_law_prime_here", "_law_machine_here", "_law_many", "_law_told", "_law_there", "_law_k"] ["_law_prime_here", "_law_machine_here", "_law_many"] (kab xV):=⟨rfl,rfl,rfl,by decide +kernel,rfl,by decide +kernel,by decide +kernel⟩
abbrev xw:Stmt:=top 61
theorem sP:kad ["_law_series", "_law_rows", "_law_columns", "_law_told", "_law_i", "_law_k", "_law_row", "_law_j"] ["_law_series", "_law_rows", "_law_columns"] (kab xw):=⟨rfl,rfl,rfl,by decide +kernel,rfl,by decide +kernel,by decide +kernel⟩
abbrev yH:Stmt:=top 62
theorem so:kad ["_law_prime_here", "_law_found", "_law_m", "_law_q", "_law_n"] ["_law_prime_here", "_law_found", "_law_m", "_law_q"] (kab yH):=⟨rfl,rfl,rfl,by decide +kernel,rfl,by decide +kernel,by decide +kernel⟩
abbrev xN:Stmt:=top 63
theorem sV:kad ["_law_prime_here", "_law_series", "_law_sure", "_law_half", "_law_handed", "_law_told", "_law_ranks", "_law_rows", "_law_columns"] ["_law_prime_here", "_law_series", "_law_sure"] (kab xN):=⟨rfl,rfl,rfl,by decide +kernel,rfl,by decide +kernel,by decide +kernel⟩
abbrev zfK:Stmt:=top 64
theorem So:kad ["_law_script", "_law_cells", "_law_prime_here", "_law_machine_here", "_law_at_here", "_law_n", "_law_m", "_law_q", "_law_half", "_law_series", "_law_drawn_here", "_law_k"] ["_law_script"] (kab zfK):=⟨rfl,rfl,rfl,by decide +kernel,rfl,by decide +kernel,by decide +kernel⟩
end KL
namespace KL
open PySem PySem.Spec PyProof.Rows L2
abbrev hx(x:Str)(s:Stmt):Str×Stmt:=(x,s)
def hdX:List (Str×Stmt):=[hx "common_divisor" yP,hx "fraction" qi,hx "one_over" qh,hx "number" Yb,hx "over" zbx,hx "scaled" ZX,hx "quotient" qp,hx "whole_sum" jC,hx "sum_of_products" yL,hx "eased" Jl,hx "cleared" qW,hx "swept" Jw,hx "strung" Yk,hx "turned" ZT,hx "product" qP,hx "lead_of" qY,hx "over_lead" jr,hx "reduced" qU,hx "marks" JG,hx "has_marks" jz,hx "mirrored" qs,hx "joined" Yi,hx "answers_from" xp,hx "room_of_answers" yK,hx "machine_on" xS,hx "least_of" qb,hx "read_off" qq,hx "_law_whole" xU,hx "_law_divisor" xl,hx "_law_mixed" xK,hx "_law_drawn" xR,hx "_law_fraction" xa,hx "_law_make" jt,hx "_law_plus" jG,hx "_law_times" xW,hx "_law_minus" xQ,hx "_law_is_number" yR,hx "_law_image" xJ,hx "_law_across" xx,hx "_law_product" xg,hx "_law_is_row" xy,hx "_law_is_rows" xm,hx "_law_back" jq,hx "_law_reduced" xf,hx "_law_prime" yU,hx "_law_at" Zf,hx "_law_small" xT,hx "_law_sorts" xP,hx "_law_lets" jy,hx "_law_blocked" xn,hx "_law_exchanged" yN,hx "_law_machine" xh,hx "_law_marks" xV,hx "_law_square" xw,hx "_law_is_machine" yH,hx "_law_right" xN,hx "law" zfK]
def hdY:List Str:=["abs", "all", "bool", "int", "isinstance", "len", "list", "range", "sorted", "sum", "tuple", "zip"]
def hdZ:List Str:=[]
def hdC:List Str:=[]
def lk(K:PySem.W.Frag):List (Option (FuncData×Bool×Bool))×List (Option (Option Value))×List (Option Addr)×List (Option Int):=(hdX.map fun x=>fnSh K x.1,hdY.map (PySem.W.nsIn K mainGlobals),hdZ.map (fun _=>none),hdC.map (ctSh K))
def lv:List (Option (FuncData×Bool×Bool))×List (Option (Option Value))×List (Option Addr)×List (Option Int):=(hdX.map fun x=>fnEx x.1 x.2,hdY.map fun _=>some none,hdZ.map fun _=>none,[])
theorem h_ws:PySem.W.Fast.tw9446332074065402090 PySem.Challenge.rw_steermill_k71_read_off=true:=by kernel_rfl
theorem h_st(w:World)(os:OsState):(runT PySem.Challenge.rw_steermill_k71_read_off.prog 3200 w os).map (statT PySem.Challenge.rw_steermill_k71_read_off.prog w)=some true:=by kernel_rfl
theorem h_sn(w:World)(os:OsState):(runT PySem.Challenge.rw_steermill_k71_read_off.prog 3200 w os).map (seenT PySem.Challenge.rw_steermill_k71_read_off.prog)=some (PySem.W.openGood (lawOnly PySem.Challenge.rw_steermill_k71_read_off.prog) (looseOf PySem.Challenge.rw_steermill_k71_read_off.prog)):=by kernel_rfl
theorem h_lk(w:World)(os:OsState):(runT PySem.Challenge.rw_steermill_k71_read_off.prog 3200 w os).map (fun s=>lk (fragH s.heap))=some lv:=by kernel_rfl
end KL
namespace Nm
inductive Nb where
 | q (r:Rat)
 | z (i:Int)
 deriving DecidableEq
abbrev Tb:=List (List Nb)
def Nb.ok(k:Int):Nb->Prop
 | .q _=>k=0
 | .z i=>k≠0/\0<=i/\i<k
def zinv(k b:Int):Int:=(((vd k.toNat).find? fun(x:Nat)=>decide (k ∣ (x:Int)*b - 1)).getD 0:Nat)
theorem zch{k b x y:Int}(hx0:0<=x)(hx:x<k)(hy0:0<=y)(hy:y<k)(h1:k ∣ x*b - 1)(h2:k ∣ y*b - 1):x=y:=by
 have h:k ∣ x - y:=by
  have e:x - y=y *(x*b - 1) - x *(y*b - 1):=by grind
  rw[e];exact wan (gj h1) (gj h2)
 obtain⟨c,hc⟩:=h
 rcases uU c 0 with h|h
 ·have:k*c<=k *(-1):=ug (by omega) (by omega);omega
 ·rcases uU 0 c with h'|h'
  ·have:k*1<=k*c:=ug (by omega) (by omega);omega
  ·have:c=0:=by omega
   rw[this,waa]at hc;omega
theorem zdq{k b x:Int}(h0:0<=x)(h1:x<k)(h:k ∣ x*b - 1):zinv k b=x:=by
 unfold zinv;cases e:(vd k.toNat).find? fun(x:Nat)=>decide (k ∣ (x:Int)*b - 1)with
 | none =>
  rw[List.find?_eq_none]at e;have:=e x.toNat (by rw[vk];omega);rw[show((x.toNat:Nat):Int)=x by omega]at this;simp[h]at this
 | some y =>
  have hm:=List.mem_of_find?_eq_some e;rw[vk]at hm;have hp:=List.find?_some e;have hp':k ∣ (y:Int)*b - 1:=by simpa using hp
  show((y:Nat):Int)=x;exact zch (uw y) (by omega) h0 h1 hp' h
theorem zfW{p r:Int}(hp:0<p):∀(n:Nat)(l g ml mg:Int),g.toNat<n->OvInv p r l g ml mg->∃ x,0<=x/\x<p/\p ∣ x*r - 1
 | 0,_,_,_,_,h,_=>absurd h (vx _)
 | n+1,l,g,ml,mg,h,I=>by
  by_cases z:g=0
  ·subst z;exact⟨ml % p,gi _ (by omega),uG _ hp,zfT I hp⟩
  ·exact zfW hp n _ _ _ _ (wL (zcT I.g0 z) (by omega)) (zey I z)
theorem XY{k b:Int}(h:Pr k)(h0:0<b)(h1:b<k):∃ x,0<=x/\x<k/\k ∣ x*b - 1 :=
 zfW (by have:=h.lo;omega) _ _ _ _ _ (ut _) (za9 h h0 h1)
def nnum(k w:Int):Nb:=if k=0 then .q (w:Rat)else .z (w.fmod k)
def nadd(k:Int):Nb->Nb->Nb
 | .q a,.q b=>.q (a+b)
 | .z a,.z b=>.z ((a+b).fmod k)
 | _,_=>.z 0
def nsub(k:Int):Nb->Nb->Nb
 | .q a,.q b=>.q (a - b)
 | .z a,.z b=>.z ((a - b).fmod k)
 | _,_=>.z 0
def nmul(k:Int):Nb->Nb->Nb
 | .q a,.q b=>.q (a*b)
 | .z a,.z b=>.z ((a*b).fmod k)
 | _,_=>.z 0
def ndiv(k:Int):Nb->Nb->Nb
 | .q a,.q b=>.q (a / b)
 | .z a,.z b=>.z ((a*zinv k b).fmod k)
 | _,_=>.z 0
theorem ZJ(k a:Int):k ∣ a.fmod k - a:=by
 rw[waG];refine⟨-(a.fdiv k),?_⟩
 grind
theorem jf(r:Rat):(r.den:Int)≠0:=by have:=r.den_nz;omega
theorem den_pos(r:Rat):0 <(r.den:Int):=by have:=r.den_pos;omega
theorem zhR{r:Rat}(h:r≠0):r.num≠0:=fun z=>h (wax.mp z)
end Nm
namespace L2
open PySem PySem.Spec PyProof.Rows
def kap(cells:List (Str×Addr)):List (Str×NameKind)->List (Str×Addr)->List (Str×Addr)
 | [],acc=>acc
 | (n,k)::r,acc=>if (k == NameKind.free)=true then kap cells r ((n,(cells.lookup n).getD 0)::acc)else kap cells r acc
theorem Zl{env:Env}(f:Str×NameKind->List (Str×Addr)->Sem (ForInStep (List (Str×Addr))))
  (hf:∀ name kind cs,f (name,kind) cs=if (kind == NameKind.free)=true then(do let a ← cellOf env name;pure (.yield ((name,a)::cs)))else pure (.yield cs)) :
  ∀(l:List (Str×NameKind))(acc:List (Str×Addr)),(∀ x∈l,x.2=.free->∃ c,env.cells.lookup x.1=some c)->(forIn l acc f:Sem _)=pure (kap env.cells l acc)
 | [],acc,_=>by rw[List.forIn_nil];rfl
 | (n,k)::r,acc,h=>by
  rw[List.forIn_cons,hf];have hr:∀ x∈r,x.2=.free->∃ c,env.cells.lookup x.1=some c:=fun x hx=>h x (wo _ hx)
  by_cases hk:(k == NameKind.free)=true
  ·obtain⟨c,hc⟩:=h (n,k) wk (by simpa using hk);rw[if_pos hk];have e:cellOf env n=pure c:=by unfold cellOf;rw[hc]
   rw[e];show(forIn r ((n,c)::acc) f:Sem _)=_;rw[Zl f hf r _ hr]
   conv=>rhs;unfold kap
   rw[if_pos hk,hc]
   rfl
  ·rw[if_neg hk];show(forIn r acc f:Sem _)=_;rw[Zl f hf r _ hr]
   conv=>rhs;unfold kap
   rw[if_neg hk]
theorem Jg{scope:Scope}{env:Env}(h:∀ x∈scope.names,x.2=.free->∃ c,env.cells.lookup x.1=some c):closureFor scope env=pure (kap env.cells scope.names []):=by
 simp only[closureFor];rw[Zl (env:=env) _ (fun name kind cs=>by cases hk:kind == NameKind.free <;> simp[hk]) scope.names [] h]
 rfl
theorem ZC{cells:List (Str×Addr)}:∀ {l:List (Str×NameKind)} {acc:List (Str×Addr)} {n:Str} {c:Addr},(∀ x∈l,x.2=.free->∃ c,cells.lookup x.1=some c)->(n,c)∈kap cells l acc ->
  (n,c)∈acc\/((n,NameKind.free)∈l/\cells.lookup n=some c)
 | [],acc,n,c,_,h=>.inl h
 | (m,k)::r,acc,n,c,hl,h=>by
  have hr:∀ x∈r,x.2=.free->∃ c,cells.lookup x.1=some c:=fun x hx=>hl x (wo _ hx)
  unfold kap at h
  by_cases hk:(k == NameKind.free)=true
  ·rw[if_pos hk]at h;have hk':k=.free:=by simpa using hk
   subst hk';obtain⟨c',hc'⟩:=hl (m,.free) wk rfl
   rcases ZC hr h with h|⟨h1,h2⟩
   ·rcases wF.mp h with e|h
    ·have hc2:cells.lookup m=some c':=hc';rw[hc2]at e;cases e;exact .inr ⟨wk,hc'⟩
    ·exact .inl h
   ·exact .inr ⟨wo _ h1,h2⟩
  ·rw[if_neg hk]at h
   rcases ZC hr h with h|⟨h1,h2⟩
   ·exact .inl h
   ·exact .inr ⟨wo _ h1,h2⟩
theorem yW{α:Type}:∀ {l:List (Str×α)} {n:Str},(∃ c,(n,c)∈l)->∃ c,l.lookup n=some c
 | [],n,⟨c,h⟩=>nomatch h
 | (m,v)::r,n,⟨c,h⟩=>by
  rw[Go];cases hb:n == m with
  | true=>exact⟨v,rfl⟩
  | false =>
   rcases wF.mp h with e|h
   ·cases e;simp at hb
   ·exact yW ⟨c,h⟩
theorem Zo{cells:List (Str×Addr)}:∀ {l:List (Str×NameKind)} {acc:List (Str×Addr)} {p:Str×Addr},p∈acc->p∈kap cells l acc
 | [],acc,p,h=>h
 | (m,k)::r,acc,p,h=>by
  unfold kap
  split
  ·exact Zo (wo _ h)
  ·exact Zo h
theorem qg{cells:List (Str×Addr)}:∀ {l:List (Str×NameKind)} {acc:List (Str×Addr)} {n:Str},(n,NameKind.free)∈l->∃ c,(n,c)∈kap cells l acc
 | (m,k)::r,acc,n,h=>by
  unfold kap
  rcases wF.mp h with e|h
  ·cases e;exact⟨_,Zo wk⟩
  ·split
   ·exact qg h
   ·exact qg h
theorem yc:∀(l:List (Str×NameKind))(n:Nat)(acc:List (Str×Addr)),cellsFrom n l acc=cellsFrom n l []++acc
 | [],n,acc=>rfl
 | (m,k)::r,n,acc=>by
  unfold cellsFrom
  split
  ·rw[yc r (n+1) ((m,n)::acc),yc r (n+1) [(m,n)],wag];rfl
  ·exact yc r n acc
theorem jp:∀ {l:List (Str×NameKind)} {n:Nat} {x:Str} {c:Addr},(x,c)∈cellsFrom n l []->(x,NameKind.cell)∈l
 | (m,k)::r,n,x,c,h=>by
  unfold cellsFrom at h
  by_cases hk:(k == NameKind.cell)=true
  ·rw[if_pos hk,yc]at h
   rcases wt.mp h with h|h
   ·exact wo _ (jp h)
   ·have e:(x,c) =(m,n):=by simpa using h
    cases e;have:k=.cell:=by simpa using hk
    subst this;exact wk
  ·rw[if_neg hk]at h;exact wo _ (jp h)
theorem js:∀ {l:List (Str×NameKind)} {n:Nat} {x:Str},(x,NameKind.cell)∈l->∃ c,(x,c)∈cellsFrom n l []
 | (m,k)::r,n,x,h=>by
  unfold cellsFrom
  rcases wF.mp h with e|h
  ·cases e;rw[if_pos (by decide),yc];exact⟨n,wE _ wk⟩
  ·split
   ·rw[yc];obtain⟨c,hc⟩:=js (n:=n+1) h;exact⟨c,wP _ hc⟩
   ·exact js h
def blk(X:Cx)(own fre:List Str)(scope:Scope)(L:Addr)(cells:List (Str×Addr))(s₀:Shared)(H₀:Hp)(ex:List Addr)(pn:List (Addr×Obj)):Cx where
 prog:=X.prog
 w:=X.w
 K:=X.K
 mg:=X.mg
 base:=X.base
 A:=X.A
 N:=own++fre
 s₀:=s₀
 H₀:=H₀
 env:=compEnvC scope cells L X.env
 outer:=X.stack
 stack:=X.stack
 ex:=ex
 fn:=fun x=>own.contains x
 calm:=X.calm
 pn:=pn
 xe:=fun _ _=>False
def bst(own:Nat)(idx:List Nat)(σ:St):St:=vD own none++idx.map fun i=>(σ[i]?).join
structure BlkOk(X:Cx)(own fre:List Str)(idx:List Nat)(scope:Scope):Prop where
 kind:scope.kind=.function
 free:(scope.names.all fun x=>x.2 != .free || (X.env.kindOf x.1 == some .cell || X.env.kindOf x.1 == some .free))=true
 loc:(scope.names.all fun x=>x.2 != .local || scope.names.lookup x.1 == some .local)=true
 ownB:(scope.names.all fun x=>x.2 != .free || !own.contains x.1)=true
 freB:((fre.zip idx).all fun p=>scope.names.lookup p.1 == some .free && X.N[p.2]? == some p.1)=true
 len:fre.length=idx.length
 nd:(scope.names.map (·.1)).Nodup
theorem zgT{l:List (Str×NameKind)}:(l.map (·.1)).Nodup->∀ {x:Str} {k1 k2:NameKind},(x,k1)∈l->(x,k2)∈l->k1=k2:=by
 induction l with
 | nil=>intro _ x k1 k2 h;exact nomatch h
 | cons p r ih =>
  intro nd x k1 k2 h1 h2;rw[uL,gh]at nd
  rcases wF.mp h1 with e1|h1 <;> rcases wF.mp h2 with e2|h2
  ·rw[← e1]at e2;cases e2;rfl
  ·exact absurd (wg.mpr ⟨_,h2,by rw[← e1]⟩) nd.1
  ·exact absurd (wg.mpr ⟨_,h1,by rw[← e2]⟩) nd.1
  ·exact ih nd.2 h1 h2
section
variable{X:Cx}{own fre:List Str}{idx:List Nat}{scope:Scope}{pins:List (Addr×Obj)}{σ:St}{H:Hp}{s:Shared}
theorem BlkOk.freeC(B:BlkOk X own fre idx scope){x:Str×NameKind}(hx:x∈scope.names)(h:x.2=.free):X.env.kindOf x.1=some .cell\/X.env.kindOf x.1=some .free:=by
 have:=vX.mp B.free x hx;rw[h]at this
 simpa using this
theorem BlkOk.cells(B:BlkOk X own fre idx scope)(ok:X.Ok):∀ x∈scope.names,x.2=.free->∃ c,X.env.cells.lookup x.1=some c:=fun x hx h=>ok.has x.1 (B.freeC hx h)
def rl(env:Env)(p:Str×NameKind):Str×NameKind:=if (p.2 == NameKind.free && env.scope.kind == .function && env.kindOf p.1 == some .cell)=true then(p.1,NameKind.cell)else p
theorem zgp(env:Env)(p:Str×NameKind):(rl env p).1=p.1:=by unfold rl;split <;> rfl
theorem zgc(env:Env)(p:Str×NameKind):(rl env p).2=p.2\/((rl env p).2=.cell/\p.2=.free):=by
 unfold rl
 split
 ·rename_i hc;rw[uX,uX]at hc;exact .inr ⟨rfl,by simpa using hc.1.1⟩
 ·exact .inl rfl
theorem jF{α:Type}(p:Str×α)(r:List (Str×α))(x:Str):(p::r).lookup x=if (x == p.1)=true then some p.2 else r.lookup x:=by
 rw[show p =(p.1,p.2)from rfl,Go];cases x == p.1 <;> rfl
theorem jX{env:Env}:∀ {l:List (Str×NameKind)} {x:Str} {k:NameKind},(l.map (rl env)).lookup x=some k->(l.lookup x=some k\/(k=.cell/\l.lookup x=some .free))
 | [],x,k,h=>by simp at h
 | p::r,x,k,h=>by
  rw[uL,jF,zgp]at h;rw[jF]
  by_cases hx:(x == p.1)=true
  ·rw[if_pos hx]at h ⊢
   rcases zgc env p with e|⟨e1,e2⟩
   ·rw[e]at h;exact .inl h
   ·rw[e1]at h;cases h;rw[e2];exact .inr ⟨rfl,rfl⟩
  ·rw[if_neg hx]at h ⊢;exact jX h
theorem ZF{env:Env}:∀ {l:List (Str×NameKind)} {x:Str},l.lookup x=some .free->(l.map (rl env)).lookup x=some .cell\/(l.map (rl env)).lookup x=some .free
 | [],x,h=>by simp at h
 | p::r,x,h=>by
  rw[jF]at h;rw[uL,jF,zgp]
  by_cases hx:(x == p.1)=true
  ·rw[if_pos hx]at h ⊢
   rcases zgc env p with e|⟨e1,e2⟩
   ·rw[e];exact .inr h
   ·rw[e1];exact .inl rfl
  ·rw[if_neg hx]at h ⊢;exact ZF h
theorem zby(B:BlkOk X own fre idx scope)(ok:X.Ok){n:Nat}{x:Str}{c:Addr}(h:(cellsFrom n scope.names (kap X.env.cells scope.names [])).lookup x=some c) :
  ((x,c)∈cellsFrom n scope.names []/\(x,NameKind.cell)∈scope.names)\/((x,NameKind.free)∈scope.names/\X.env.cells.lookup x=some c):=by
 have h1:=mem_of_lookup h;rw[yc]at h1
 rcases wt.mp h1 with h1|h1
 ·exact .inl ⟨h1,jp h1⟩
 ·rcases ZC (B.cells ok) h1 with h1|h1
  ·exact nomatch h1
  ·exact .inr h1
end
section
variable{prog:Program}{w:World}{A:Around}{E:Value->Shared->Prop}{R:Result->Shared->Prop}{s:Shared}
theorem zaj{elt target iter:Expr}{ifs:List Expr}{scope:Scope}{pos:Pos}{it acc:Value}{env:Env}(I:Nat->Shared->Prop)
  (turn:∀ n s,I n s->wpAny (model prog w) A (pyNext it) (fun r s₁=>match r with
   | none=>R (.ok .next) s₁
   | some v=>wpAny (model prog w) A (letOwnedTupleGo target it v) (fun _ s₂=>wpAny (model prog w) A (assign target env v) (fun _ s₃ =>
     wpAny (model prog w) A (forIn ifs true fun c r=>if r=true then do let ok ← isTrue c env (eval c env);pure (ForInStep.yield ok)else pure (ForInStep.yield r)) (fun ok s₄ =>
      if ok=true then wpAny (model prog w) A (eval elt env) (fun x s₅ =>
       wpAny (model prog w) A (call (.builtin "list.append") [acc,x]) (fun _ s₆=>∃ m,m<n/\I m s₆) (fun _ _=>False) s₅) (fun _ _=>False) s₄
      else ∃ m,m<n/\I m s₄) (fun _ _=>False) s₃) (fun _ _=>False) s₂) (fun _ _=>False) s₁) (fun _ _=>False) s)
  (n:Nat) (h:I n s) :
  codeAny (model prog w) A (.compLoop (.ListComp elt [⟨target,iter,ifs,0⟩] scope pos) 0 it acc env) R s:=by
 refine codeAny_loop rfl I (fun n s hI=>?_) n h;show wpAny _ A ((compTurn (.ListComp elt [⟨target,iter,ifs,0⟩] scope pos) 0 it acc env).onRaise (fun x=>do noteFrame x env;theTreesLotGoes x)) _ _ s;refine wpAny_noted ?_;rw[compTurn_list];refine wpAny_bind (wpAny_standAt (wpAny_bind (wpAny_mono (turn n s hI) (fun r s₁ h₁=>?_) fun _ _ h'=>h'.elim)));cases r with
 | none=>exact wpAny_pure h₁
 | some v =>
  refine wpAny_bind (wpAny_mono h₁ (fun _ s₂ h₂=>?_) fun _ _ h'=>h'.elim);refine wpAny_bind (wpAny_mono h₂ (fun _ s₃ h₃=>wpAny_bind (wpAny_mono h₃ (fun ok s₄ h₄=>?_) fun _ _ h'=>h'.elim)) fun _ _ h'=>h'.elim);cases ok with
  | false=>exact wpAny_pure ⟨rfl,h₄⟩
  | true =>
   exact wpAny_bind (wpAny_bind (wpAny_mono h₄ (fun x s₅ h₅=>wpAny_bind (wpAny_mono h₅ (fun _ s₆ h₆=>wpAny_pure (wpAny_pure ⟨rfl,h₆⟩)) fun _ _ h'=>h'.elim)) fun _ _ h'=>h'.elim))
end
section
variable{X:Cx}{own fre:List Str}{idx:List Nat}{scope:Scope}{pins:List (Addr×Obj)}{σ:St}{H:Hp}{s:Shared}
abbrev bcells(X:Cx)(scope:Scope)(L:Addr):List (Str×Addr):=cellsFrom (L+1) scope.names (kap X.env.cells scope.names [])
abbrev dictO:Obj:={ cls:=.type "dict",data:=.dict #[] }
theorem zdX{own:Nat}{idx:List Nat}{σ:St}{i:Nat}{v:V}(h:(bst own idx σ)[i]?=some (some v)):∃ j k,i=own+j/\idx[j]?=some k/\σ[k]?=some (some v):=by
 unfold bst at h
 by_cases hi:i<own
 ·rw[wO (by simpa using hi)]at h;rw[Gs]at h;rw[if_pos hi]at h;cases h
 ·rw[wJ (by simpa using wam hi)]at h;rw[vL,we]at h;cases e:idx[i - own]? with
  | none=>rw[e]at h;cases h
  | some k =>
   rw[e]at h;refine⟨i - own,k,by omega,e,?_⟩;have h':some ((σ[k]?).join)=some (some v):=h;have h2:=Option.some.inj h';cases e2:σ[k]? with
   | none=>rw[e2]at h2;cases h2
   | some o=>rw[e2]at h2;rw[show o=some v from h2]
theorem zeG(B:BlkOk X own fre idx scope)(I:Inv X pins σ H s){ex:List Addr}(hex:∀ b∈ex,FpOk X pins H b/\b<s.heap.objs.size) :
  Inv (blk X own fre scope s.heap.objs.size (bcells X scope s.heap.objs.size) s H ex (X.pn++pins)) [] (bst own.length idx σ) H { s with heap:=pushCells (s.heap.push dictO) scope.names }:=by
 have ok:=I.ok;have hsz:(s.heap.push dictO).objs.size=s.heap.objs.size+1:=Heap.size_push ..;have keep:∀ b o,s.heap.get? b=some o->(pushCells (s.heap.push dictO) scope.names).get? b=some o:=fun b o e=>pushCells_keeps _ _ b o (Heap.get?_push_of_some _ e)
 have cok:=cellsFrom_ok scope.names (s.heap.push dictO) (s.heap.objs.size+1) [] ⟨fun _ _ hm=>(nomatch hm),List.Pairwise.nil⟩ (by rw[hsz];exact ww _);rw[hsz]at cok;have freeLt:∀ x c,X.env.cells.lookup x=some c->c<s.heap.objs.size:=fun x c e=>let ⟨_,h⟩:=I.cell x c e;h.lt
 have cellC:∀ x c,(bcells X scope s.heap.objs.size).lookup x=some c->(s.heap.objs.size+1<=c/\(pushCells (s.heap.push dictO) scope.names).IsCell c none/\(x,c)∈cellsFrom (s.heap.objs.size+1) scope.names []/\(x,NameKind.cell)∈scope.names)\/(X.env.cells.lookup x=some c/\c<s.heap.objs.size/\(x,NameKind.free)∈scope.names):=fun x c e=>by
  rcases zby B ok e with⟨h1,h2⟩|⟨h1,h2⟩
  ·exact .inl ⟨(cok.empty x c h1).2,(cok.empty x c h1).1,h1,h2⟩
  ·exact .inr ⟨h2,freeLt x c h2,h1⟩
 have hfs:∀ b∈frs X.stack,b<s.heap.objs.size:=fun b hb=>by
  rcases wF.mp (I.stkSub b hb)with e|hb
  ·rw[e];exact I.lt
  ·obtain⟨_,o,ho,_⟩:=I.ok.funs.mem hb;exact wL (Heap.lt_size ho) I.sz
 have OK:(blk X own fre scope s.heap.objs.size (bcells X scope s.heap.objs.size) s H ex (X.pn++pins)).Ok:=by
  refine⟨ok.mod,B.kind,ok.glob,ok.blt,ww _,?_,?_,?_,ok.hd,ok.frames,.inl rfl,?_,fun b o e=>I.bs b o e,wD ok.bsz I.sz,?_,?_,I.stack,I.stkFree⟩
  ·intro x y c e1 e2
   rcases cellC x c e1 with⟨l1,_,m1,_⟩|⟨f1,l1,_⟩ <;> rcases cellC y c e2 with⟨l2,_,m2,_⟩|⟨f2,l2,_⟩
   ·exact name_of_addr cok.apart m1 m2
   ·exact absurd (wL l2 (Ge l1)) (vM _)
   ·exact absurd (wL l1 (Ge l2)) (vM _)
   ·exact ok.inj x y c f1 f2
  ·intro x hk;have hk':(relabel scope X.env).names.lookup x=some .cell\/(relabel scope X.env).names.lookup x=some .free:=hk;have hor:(x,NameKind.cell)∈scope.names\/(x,NameKind.free)∈scope.names:=by
    rcases hk' with h|h
    ·rcases jX h with h|⟨_,h⟩
     ·exact .inl (mem_of_lookup h)
     ·exact .inr (mem_of_lookup h)
    ·rcases jX h with h|⟨h,_⟩
     ·exact .inr (mem_of_lookup h)
     ·cases h
   refine yW ?_;show ∃ c,(x,c)∈cellsFrom (s.heap.objs.size+1) scope.names (kap X.env.cells scope.names []);rw[yc]
   rcases hor with h|h
   ·obtain⟨c,hc⟩:=js (n:=s.heap.objs.size+1) h;exact⟨c,wP _ hc⟩
   ·obtain⟨c,hc⟩:=qg (cells:=X.env.cells) (acc:=[]) h;exact⟨c,wE _ hc⟩
  ·intro x c hf e
   rcases cellC x c e with⟨l1,_⟩|⟨_,_,m1⟩
   ·show s.heap.objs.size<=c;omega
   ·have:=vX.mp B.ownB _ m1;have hf':own.contains x=true:=hf;rw[hf']at this;simp at this
  ·intro b hb;obtain⟨⟨_,_,_,_,f4,_⟩,hlt⟩:=hex b hb;refine⟨wU hlt,fun x c e=>?_⟩
   rcases cellC x c e with⟨l1,_⟩|⟨f1,_,_⟩
   ·exact Ne.symm (wU (wL hlt (Ge l1)))
   ·exact f4 x c f1
  ·intro b o e hb;obtain⟨⟨_,_,_,f3,_,_⟩,_⟩:=hex b hb
   rcases f3 with f3|f3
   ·exact ok.noex b o e f3
   ·exact absurd (Heap.lt_size (ok.bs b o e).1) (Nat.not_lt.mpr f3)
  ·intro b hb hm;obtain⟨⟨_,f1,f2,_⟩,_⟩:=hex b hb
   rcases wF.mp (I.stkSub b hm)with e|hm
   ·exact f1 e
   ·exact f2 hm
 refine⟨OK,rfl,I.bare,Un.kept keep,?_,?_,I.fresh,?_,?_,I.hok.kept keep,?_⟩
 ·refine⟨fun _=>none,(Heap.Ns.new s.heap (.type "dict")).keeps (pushCells_keeps _ _),fun i x v e1 e2 e3=>?_⟩;obtain⟨j,k,rfl,hj,hk⟩:=zdX e2;have e1':(own++fre)[own.length+j]?=some x:=e1;rw[wJ (wap _ _),gu]at e1';have hz:(x,k)∈fre.zip idx:=by
   refine List.mem_iff_getElem?.mpr ⟨j,?_⟩;rw[gd];exact⟨e1',hj⟩
  have hq:=vX.mp B.freB _ hz;rw[uX]at hq;have q1:scope.names.lookup x=some .free:=by simpa using hq.1
  have q2:X.N[k]?=some x:=by simpa using hq.2
  have kin:=B.freeC (mem_of_lookup q1) rfl;have vis:Vis X.env.scope x:=.inr kin;obtain⟨m,hn,hl⟩:=I.loc;obtain⟨u,r,look⟩:=hl k x v q2 hk vis;refine⟨u,r,?_⟩;obtain⟨c,hc,hcell⟩ : ∃ c,X.env.cells.lookup x=some c/\s.heap.IsCell c (some u):=by
   rcases look with⟨hk1,_⟩|⟨_,c,e,z⟩
   ·rcases kin with h|h <;>(rw[hk1]at h;cases h)
   ·exact⟨c,e,z⟩
  refine .inr ⟨ZF q1,c,?_,hcell.keeps keep⟩;have hl2:∃ c',(bcells X scope s.heap.objs.size).lookup x=some c':=by
   refine yW ?_;show ∃ c,(x,c)∈cellsFrom (s.heap.objs.size+1) scope.names (kap X.env.cells scope.names []);rw[yc];obtain⟨c,hc⟩:=qg (cells:=X.env.cells) (acc:=[]) (mem_of_lookup q1);exact⟨c,wE _ hc⟩
  obtain⟨c',hc'⟩:=hl2
  rcases zby B ok hc' with⟨_,h2⟩|⟨_,h2⟩
  ·exact nomatch zgT B.nd h2 (mem_of_lookup q1)
  ·rw[hc]at h2;cases h2;exact hc'
 ·intro x c e
  rcases cellC x c e with⟨_,h,_⟩|⟨h,_,_⟩
  ·exact⟨none,h⟩
  ·obtain⟨v,z⟩:=I.cell x c h;exact⟨v,z.keeps keep⟩
 ·intro x c e
  rcases cellC x c e with⟨l,_⟩|⟨h,_,_⟩
  ·exact I.hok.fresh (by omega)
  ·exact I.freeC x c h
 ·intro p hp;rw[ue]at hp;obtain⟨h1,h2,h3,h4,h5⟩:=I.pin p hp;refine⟨keep _ _ h1,h2,wU (Heap.lt_size h1),fun hm=>?_,h5⟩
  rcases wF.mp (I.stkSub p.1 hm)with e|hm
  ·exact h3 e
  ·exact h4 hm
 ·show(bst own.length idx σ).length =(own++fre).length;unfold bst;rw[wy,vL,wa,wy,B.len]
theorem zgs{L D:Addr}{cells:List (Str×Addr)}{s₀ s':Shared}{H₀ H':Hp}{fp:List Addr}{pl:List (Addr×Obj)}{σb:St}{ys:List V}{its:List Value}{n:Nat}(I:Inv X pins σ H₀ s₀)(I':Inv (blk X own fre scope L cells s₀ H₀ (D::fp) (X.pn++pins)) pl σb H' s')
  (hfp:∀ b∈fp,FpOk X pins H₀ b) (hD:FpOk X pins H₀ D) (hD':H' D=none) (hv:Vals ys its) (hz:ys.length<=sizeLine) (e:s'.heap.get? D=some { cls:=.type "list",data:=.seq its.toArray n }) :
  Inv X pins σ (upd H' D (.lst ys)) s':=by
 have u:=I'.base;have nD:H₀ D=none:=hD.1;refine I.call' (ch:=D::fp) (H':=upd H' D (.lst ys)) I'.os ⟨u.keep,u.slot,fun b o h1 h2 h3=>?_,u.there,fun b xs h=>?_,fun b o v h=>?_,fun b ps h=>?_⟩ (fun b o h=>?_) I'.bare fun b hb=>?_
 ·rw[zN (fun z=>h3 (by rw[z];exact wk))];exact u.free b o h1 h2 h3
 ·rw[zN (zV h nD)];exact u.tups b xs h
 ·rw[zN (zV h nD)];exact u.frzs b o v h
 ·rw[zN (zV h nD)];exact u.tbls b ps h
 ·by_cases hb:b=D
  ·subst hb;rw[zf]at h;cases h;exact⟨hz,its,n,hv,e⟩
  ·rw[zN hb]at h;exact(I'.hok b o h).stay (fun c v _ q=>q) (fun c q=>by rw[zN (zV q hD')];exact q) fun c xs q=>by rw[zN (zV q hD')];exact q
 ·rcases wF.mp hb with rfl|hb
  ·obtain⟨_,f1,_,f3,f4,f5⟩:=hD;exact⟨f3,f1,f4,f5⟩
  ·obtain⟨_,f1,_,f3,f4,f5⟩:=hfp b hb;exact⟨f3,f1,f4,f5⟩
def GOwn(k:Nat)(g:TG):Prop:=∀ v σ H Q,g v σ H Q->g v σ H fun σ' H'=>Q σ' H'/\σ'.drop k=σ.drop k/\σ'.length=σ.length
def GOwns(k:Nat)(g:TGs):Prop:=∀ v σ H Q,g v σ H Q->g v σ H fun σ' H'=>Q σ' H'/\σ'.drop k=σ.drop k/\σ'.length=σ.length
theorem yx{k i:Nat}(h:i<k):GOwn k (gName i):=fun v σ H Q q=>⟨q,by rw[List.drop_set_of_lt h],vf⟩
theorem jP{k:Nat}:GOwns k gNil:=fun v σ H Q ⟨e,q⟩=>⟨e,q,rfl,rfl⟩
theorem yB{k:Nat}{t:TG}{u:TGs}(ht:GOwn k t)(hm:∀ v σ H Q Q',(∀ σ' H',Q σ' H'->Q' σ' H')->t v σ H Q->t v σ H Q')(hu:GOwns k u):GOwns k (gCons t u):=fun vs σ H Q ⟨v,r,e,q⟩ =>
 ⟨v,r,e,hm _ _ _ _ _ (fun σ' H' ⟨q1,q2,q3⟩=>by
  have q4:=hu _ _ _ _ q1;rw[q2,q3]at q4;exact q4) (ht _ _ _ _ q)⟩
theorem yA{i:Nat}:∀ v σ H (Q Q':St->Hp->Prop),(∀ σ' H',Q σ' H'->Q' σ' H')->gName i v σ H Q->gName i v σ H Q':=fun _ _ _ _ _ h q=>h _ _ q
theorem Zh{K:PySem.W.Frag}{k n:Nat}{t:TGs}(h:GOwns k t):GOwn k (gTup K n t):=fun v σ H Q ⟨a,xs,e,h1,h2,q⟩=>⟨a,xs,e,h1,h2,h _ _ _ _ q⟩
theorem zbD{own:Nat}{idx:List Nat}{σ σ':St}(hd:σ'.drop own =(bst own idx σ).drop own)(i:Nat)(v:V)(h:(bst own idx σ)[i]?=some (some v)):σ'[i]?=some (some v):=by
 obtain⟨j,k,rfl,_,_⟩:=zdX h;rw[← gp,hd,gp];exact h
def tCompW(own:Nat)(idx:List Nat)(wi:TI)(g:TG)(tt:TT)(te:TE)(R:List V->Hp->Prop):St->Hp->Prop:=fun σ H=>wi σ H fun J H1=>∃ W:Nat->Nat->List V->Hp->Prop,(∃ m,W 0 m [] H1)/\∀ i m ys H,W i m ys H ->
 (J.stop i H/\ys.length<=sizeLine/\R ys H) \/
 (J.go i H/\ys.length<sizeLine/\∀ x H',J.yld i H x H'->g x (bst own idx σ) H' fun σ2 H2=>tt σ2 H2 fun b H3=>if b=true then te σ2 H3 fun y H4=>∃ m',m'<m/\W (i+1) m' (ys++[y]) H4 else ∃ m',m'<m/\W (i+1) m' ys H3)
def PTs(Y:Cx)(ifs:List Expr)(t:TT):Prop:=∀(pins:List (Addr×Obj))(s:Shared)(σ:St)(H:Hp)(Q:Bool->Hp->Prop),Inv Y pins σ H s->t σ H Q ->
 wpAny (model Y.prog Y.w) Y.A (forIn ifs true fun c r=>if r=true then do let ok ← isTrue c Y.env (eval c Y.env);pure (ForInStep.yield ok)else pure (ForInStep.yield r)) (TP Y pins σ Q) Y.xe s
def tTrue:TT:=fun _ H Q=>Q true H
theorem zM{Y:Cx}:PTs Y [] tTrue:=fun pins s σ H Q I h=>wpAny_tests_nil ⟨H,I,h⟩
theorem JS{Y:Cx}{c:Expr}{t:TT}(h:PT Y c t):PTs Y [c] t:=fun pins s σ H Q I hq=>wpAny_tests_one (h pins s σ H Q I hq)
theorem zbQ{elt tg iter:Expr}{ifs:List Expr}{pos:Pos}{wi:TI}{g:TG}{tt:TT}{te:TE}{use:Option (Value->Sem Unit)}{R:List V->Hp->Prop}{Q:Value->Shared->Prop}(B:BlkOk X own fre idx scope)(hc:X.calm=true)(hi:PI X tg iter wi)(hg:GOwn own.length g)
  (hb:∀(L:Addr)(cells:List (Str×Addr))(s₀:Shared)(H₀:Hp)(ex:List Addr)(pn:List (Addr×Obj)),PG (blk X own fre scope L cells s₀ H₀ ex pn) tg g/\PTs (blk X own fre scope L cells s₀ H₀ ex pn) ifs tt/\PE (blk X own fre scope L cells s₀ H₀ ex pn) elt te)
  (hs:∀ x,foldedSetIterable iter X.env x=pure x) (I:Inv X pins σ H s) (h:tCompW own.length idx wi g tt te R σ H)
  (hq:∀(ys:List V)(H':Hp)(s':Shared)(L D:Addr)(m:Str->Option Value),R ys H'->H' D=none->Inv X pins σ (upd H' D (.lst ys)) s'->s'.heap.Ns L m->upd H' D (.lst ys) L=none->FpOk X pins (upd H' D (.lst ys)) L ->
   compPost (model X.prog X.w) X.A X.xe use Q (.ref D) L (.ok .next) s') :
  wpAny (model X.prog X.w) X.A (comprehension (.ListComp elt [⟨tg,iter,ifs,0⟩] scope pos) scope X.env (firstIterPos [⟨tg,iter,ifs,0⟩] pos) (newList []) false (eval iter X.env) use) Q X.xe s:=by
 have hnames:∀ x∈scope.names,x.2=.local->scope.names.lookup x.1=some .local:=fun x hx hl=>by
  have:=vX.mp B.loc x hx;rw[hl]at this
  simpa using this
 refine wpAny_comprehension_free (use:=use) rfl hs (Jg (B.cells I.ok)) B.kind hnames (wpAny_mono (hi pins s σ H _ I h) (fun v s1 h1=>wpAny_mono h1 (fun itv s2 h2=>?_) fun _ _ e=>e) fun _ _ e=>e);obtain⟨it,fp,tn,J,H2,rfl,I2,T,st2,f2,W,⟨m0,w0⟩,turn⟩:=h2;refine wpAny_newObj_type ?_;generalize hs3:({ s2 with heap:=s2.heap.push { cls:=.type "list",dict:=none,data:=.seq ([]:List Value).toArray } }:Shared)=s3;have hD3:s3.heap.get? s2.heap.objs.size=some { cls:=.type "list",data:=.seq ([]:List Value).toArray 0 }:=by rw[← hs3];exact Heap.get?_push_size _ rfl
 have keep23:∀ b o,s2.heap.get? b=some o->s3.heap.get? b=some o:=fun b o e=>by rw[← hs3];exact Heap.get?_push_of_some _ e
 have I3:Inv X pins σ H2 s3:=by rw[← hs3];exact I2.kept (t':=s2.toks) fun b o e=>Heap.get?_push_of_some _ e
 have sz3:s3.heap.objs.size=s2.heap.objs.size+1:=by rw[← hs3];exact Heap.size_push ..
 generalize hD:s2.heap.objs.size=D at *;have nD:H2 D=none:=by rw[← hD];exact I2.fresh
 have okD:FpOk X pins H2 D:=I2.fpOk (by rw[hD];exact ww _) nD;have ltfp:∀ b∈fp,b<D:=fun b hb=>by
  obtain⟨o,ho,_⟩:=T.obj _ _ st2 b hb;rw[← hD];exact Heap.lt_size ho
 simp only[newFunctionEnv,Option.isSome_some,if_true];refine wpAny_bind (wpAny_alloc ?_);refine wpAny_bind (wpAny_layCells _ (fun name kind cells=>by cases hkc:kind == NameKind.cell <;> simp[hkc]) _ _ _ _ ?_);refine wpAny_bind (wpAny_pure (wpAny_pure ?_));have hL1:(s3.heap.push dictO).objs.size=s3.heap.objs.size+1:=Heap.size_push ..;have I4:=zeG (ex:=D::fp) B I3 (fun b hb=>by
  rcases wF.mp hb with rfl|hb
  ·exact⟨okD,by rw[sz3];exact ut _⟩
  ·exact⟨f2 b hb,by rw[sz3];exact uB (ltfp b hb)⟩)
 generalize hs4:({ s3 with heap:=pushCells (s3.heap.push dictO) scope.names }:Shared)=s4 at I4;have keep34:∀ b o,s3.heap.get? b=some o->s4.heap.get? b=some o:=fun b o e=>by rw[← hs4];exact pushCells_keeps _ _ b o (Heap.get?_push_of_some _ e)
 generalize hY:blk X own fre scope s3.heap.objs.size (bcells X scope s3.heap.objs.size) s3 H2 (D::fp) (X.pn++pins)=Y at I4;have YA:Y.A=X.A:=by rw[← hY];rfl
 have Yp:Y.prog=X.prog:=by rw[← hY];rfl
 have Yw:Y.w=X.w:=by rw[← hY];rfl
 have YK:Y.K=X.K:=by rw[← hY];rfl
 have Yc:Y.calm=true:=by rw[← hY];exact hc
 have Yx:Y.xe=fun _ _=>False:=by rw[← hY];rfl
 have Yex:Y.ex=D::fp:=by rw[← hY];rfl
 have Ypn:Y.pn=X.pn++pins:=by rw[← hY];rfl
 have YL:Y.env.locals=s3.heap.objs.size:=by rw[← hY];rfl
 have hbY:PG Y tg g/\PTs Y ifs tt/\PE Y elt te:=by rw[← hY];exact hb ..
 have nDY:D≠Y.env.locals:=by rw[YL,sz3];exact wU (ut _)
 have okY:=I4.ok;have fsD:D∉Y.fs:=okY.exfs D (by rw[Yex];exact wk);have pnD:∀ p∈Y.pn,p.1≠D:=by rw[Ypn];exact okD.2.2.2.2.2
 have FO:∀ {H':Hp} {o:Obj},(∀ b∈fp,H' b=none)->∀ b∈fp,FpOk Y [(D,o)] H' b:=fun {H' o} hn b hb=>by
  have m:b∈Y.ex:=by rw[Yex];exact wo _ hb
  refine⟨hn b hb,(okY.exf b m).1,okY.exfs b m,.inl m,(okY.exf b m).2,fun p hp=>?_⟩
  rcases wt.mp hp with hp|hp
  ·rw[Ypn]at hp;exact(f2 b hb).2.2.2.2.2 p hp
  ·have e:p =(D,o):=by simpa using hp
   rw[e];exact Ne.symm (wU (ltfp b hb))
 have pinD:∀ {pl:List (Addr×Obj)} {σ':St} {H':Hp} {s':Shared} {o:Obj},Inv Y pl σ' H' s'->s'.heap.get? D=some o->H' D=none->(∀ v,o.data≠.cell v)->Inv Y [(D,o)] σ' H' s':=fun {pl σ' H' s' o} I' e hn hd=>I'.pins_of fun p hp=>by
  have e':p =(D,o):=by simpa using hp
  subst e';exact⟨e,hn,nDY,fsD,hd⟩
 have loop:codeAny (model X.prog X.w) X.A (.compLoop (.ListComp elt [⟨tg,iter,ifs,0⟩] scope pos) 0 (.ref it) (.ref D) Y.env) (compPost (model X.prog X.w) X.A X.xe use Q (.ref D) s3.heap.objs.size) s4:=by
  refine zaj (fun n s'=>∃ i ys its k H',Inv Y [(D,({ cls:=.type "list",data:=.seq (its:List Value).toArray k }:Obj))] (bst own.length idx σ) H' s'/\tn i s'.heap/\(∀ b∈fp,H' b=none)/\Vals ys its/\ys.length<=sizeLine/\W i n ys H') ?_ m0
   ⟨0,[],[],0,H2,pinD I4 (keep34 _ _ hD3) nD (fun v z=>nomatch z),T.keep _ _ _ st2 fun b _ o e=>keep34 _ _ (keep23 _ _ e),fun b hb=>(f2 b hb).1,.nil,vA _,w0⟩
  rintro n s' ⟨i,ys,its,k,H',I',st',fr',hv,hz,w'⟩
  have pD:=I'.pin _ (wE _ wk)
  rcases turn i n ys H' w' with⟨stop,hl,hR⟩|⟨go,hl,step⟩
  ·have z:=T.done Y Yp Yw YK Yc i _ s' _ H' (fun _ _=>False) I' (FO fr') st' stop;rw[YA]at z;refine thn z fun r s5 ⟨hr,I5⟩=>?_
   subst hr;have pD5:=I5.pin _ (wE _ wk);have I5':=I5;rw[← hY]at I5';have E:=zgs I3 I5' (fun b hb=>f2 b hb) okD pD5.2.1 hv hl pD5.1;obtain⟨m5,hm5,_⟩:=I5.loc;rw[YL]at hm5;have nL:H' s3.heap.objs.size=none:=by rw[← YL];exact I5.free
   have nL':upd H' D (.lst ys) s3.heap.objs.size=none:=by rw[zN (by rw[← YL];exact Ne.symm nDY)];exact nL
   exact hq ys H' s5 _ D m5 hR pD5.2.1 E hm5 nL' (I3.fpOk (ww _) nL')
  ·have z:=T.item Y Yp Yw YK Yc i _ s' _ H' (fun _ _=>False) I' (FO fr') st' go;rw[YA]at z;refine thn z fun r s5 ⟨u,hr,h5⟩=>?_
   subst hr;refine thn h5 fun _ s6 ⟨x,H6,I6,r6,y6,st6,fr6⟩=>?_
   have I6':=I6.pinned (FO fr6) (T.obj _ _ st6);have z7:=hbY.1 _ s6 _ H6 x u _ I6' r6 (hg _ _ _ _ (step x H6 y6));rw[Yp,Yw,YA,Yx]at z7;refine thn z7 fun _ s7 ⟨σ7,H7,I7,q7,d7,l7⟩=>?_
   have z8:=hbY.2.1 _ s7 σ7 H7 _ I7 q7;rw[Yp,Yw,YA,Yx]at z8;refine thn z8 fun ok s8 ⟨H8,I8,q8⟩=>?_
   have tnK:∀ {σ9:St} {H9:Hp} {s9:Shared},Inv Y ([(D,({ cls:=.type "list",data:=.seq its.toArray k }:Obj))]++pinsAt fp s6.heap) σ9 H9 s9->tn (i+1) s9.heap/\∀ b∈fp,H9 b=none:=fun I9 =>
    ⟨T.keep _ _ _ st6 fun b hb o e=>(I9.pin (b,o) (wE _ (wE _ (qo hb e)))).1,fun b hb=>by
     obtain⟨o,e,d⟩:=T.obj _ _ st6 b hb;exact(I9.pin (b,o) (wE _ (wE _ (qo hb e)))).2.1⟩
   cases ok with
   | false =>
    rw[if_neg wW]at q8 ⊢;obtain⟨m',hm,w8⟩:=q8;obtain⟨t8,n8⟩:=tnK I8;exact⟨m',hm,i+1,ys,its,k,H8,I8.unpinned.weak l7.symm (zbD d7),t8,n8,hv,hz,w8⟩
   | true =>
    rw[if_pos rfl]at q8 ⊢;have z9:=hbY.2.2 _ s8 σ7 H8 _ I8 q8;rw[Yp,Yw,YA,Yx]at z9;refine thn z9 fun y s9 ⟨v9,H9,I9,r9,m',hm,w9⟩=>?_
    obtain⟨t9,n9⟩:=tnK I9;have pD9:=I9.pin (D,{ cls:=.type "list",data:=.seq its.toArray k }) (wE _ (wP _ wk));refine append_at pD9.1 (fun h10 sb hD10=>?_) (by rw[wI,← hv.length];exact vW hl);have I9a:Inv Y [] σ7 H9 s9:=I9.pins_of fun p hp=>nomatch hp
    have I10:Inv Y [] σ7 H9 { s9 with heap:=h10 }:=I9a.turned (t':=s9.toks) (it:=D) (fun b o hb e=>sb.extBut b o hb e) pD9.2.1 nDY (.inl (by rw[Yex];exact wk)) (okY.exf D (by rw[Yex];exact wk)).2 (fun p hp=>by
     rw[ue]at hp;exact pnD p hp)
    refine⟨m',hm,i+1,ys++[v9],its++[y],k+1,H9,pinD (I10.weak l7.symm (zbD d7)) ?_ pD9.2.1 (fun v z=>nomatch z),?_,n9,hv.append (.cons r9 .nil),?_,w9⟩
    ·show h10.get? D=_;rw[hD10,List.push_toArray]
    ·exact T.keep _ _ _ t9 fun b hb o e=>sb.extBut b o (wU (ltfp b hb)) e
    ·rw[wy,GE];exact hl
 have goal:codeAny (model X.prog X.w) X.A (.compStart (.ListComp elt [⟨tg,iter,ifs,0⟩] scope pos) 0 (.ref it) (.ref D) Y.env) (compPost (model X.prog X.w) X.A X.xe use Q (.ref D) s3.heap.objs.size) s4 :=
  codeAny_compStart_list loop (T.self X.A 0 s4 _ _ (T.keep _ _ _ st2 fun b _ o e=>keep34 _ _ (keep23 _ _ e)) loop)
 rw[← hY]at goal;have hsz:({ s3 with heap:=s3.heap.push { cls:=.type "dict",data:=.dict #[] } }:Shared).heap.objs.size=s3.heap.objs.size+1:=Heap.size_push ..;rw[hsz]
 first
  | exact goal
  | (rw[← hs4]at goal;exact goal)
end
def tComp(own:Nat)(idx:List Nat)(wi:TI)(g:TG)(tt:TT)(te:TE):TE:=fun σ H Q=>tCompW own idx wi g tt te (fun ys H'=>∀ p,H' p=none->Q (.ref p) (upd H' p (.lst ys))) σ H
section
variable{X:Cx}{scope:Scope}
theorem Zy{elt tg iter:Expr}{ifs:List Expr}{pos:Pos}{wi:TI}{g:TG}{tt:TT}{te:TE}(own fre:List Str)(idx:List Nat)(B:BlkOk X own fre idx scope)(hc:X.calm=true)(hi:PI X tg iter wi)(hg:GOwn own.length g)
  (hb:∀(L:Addr)(cells:List (Str×Addr))(s₀:Shared)(H₀:Hp)(ex:List Addr)(pn:List (Addr×Obj)),PG (blk X own fre scope L cells s₀ H₀ ex pn) tg g/\PTs (blk X own fre scope L cells s₀ H₀ ex pn) ifs tt/\PE (blk X own fre scope L cells s₀ H₀ ex pn) elt te)
  (hs:∀ x,foldedSetIterable iter X.env x=pure x:=by intro _;rfl):PE X (.ListComp elt [⟨tg,iter,ifs,0⟩] scope pos) (tComp own.length idx wi g tt te):=by
 intro pins s σ H Q I h;rw[eval_ListComp];refine zbQ (use:=none) B hc hi hg hb hs I h fun ys H' s' L D m hR hD I' hn nL fL=>?_
 refine⟨m,hn,fun h' hs'=>?_⟩;obtain⟨f0,f1,f2,f3,f4,f5⟩:=fL;exact⟨.ref D,_,I'.turned (t':=s'.toks) (it:=L) (fun b o hb e=>hs'.extBut b o hb e) f0 f1 f3 f4 f5,rfl,hR D hD⟩
def tAsgC(own:Nat)(idx:List Nat)(wi:TI)(g:TG)(tt:TT)(te:TE)(i:Nat):TS:=fun D σ H=>tCompW own idx wi g tt te (fun ys H'=>∀ p,H' p=none->D.nx (σ.set i (some (.ref p))) (upd H' p (.lst ys))) σ H
theorem zgx{elt tg iter:Expr}{ifs:List Expr}{pos pos' spos:Pos}{wi:TI}{g:TG}{tt:TT}{te:TE}{i:Nat}{x:Str}(hN:X.N.Nodup)(hi':X.N[i]?=some x)(hx:X.env.scope.names.lookup x=some .local)(own fre:List Str)(idx:List Nat)(B:BlkOk X own fre idx scope)(hc:X.calm=true)(hi:PI X tg iter wi)(hg:GOwn own.length g)
  (hb:∀(L:Addr)(cells:List (Str×Addr))(s₀:Shared)(H₀:Hp)(ex:List Addr)(pn:List (Addr×Obj)),PG (blk X own fre scope L cells s₀ H₀ ex pn) tg g/\PTs (blk X own fre scope L cells s₀ H₀ ex pn) ifs tt/\PE (blk X own fre scope L cells s₀ H₀ ex pn) elt te)
  (hsw:swapsWith (.ListComp elt [⟨tg,iter,ifs,0⟩] scope pos) (some (.Name x pos')) spos.line X.env=pure true:=by rfl)
  (hs:∀ x,foldedSetIterable iter X.env x=pure x:=by intro _;rfl):PS X (.Assign [.Name x pos'] (.ListComp elt [⟨tg,iter,ifs,0⟩] scope pos) spos) (tAsgC own.length idx wi g tt te i):=by
 intro pins s σ H D I h;rw[exec_Assign_Name_used _ _ _ _ hsw];refine wpAny_bind (wpAny_standAt (wpAny_bind ?_));show wpAny _ X.A (do let _ ← comprehension (.ListComp elt [⟨tg,iter,ifs,0⟩] scope pos) scope X.env _ (newList []) false (eval iter X.env) (some (assign (.Name x pos') X.env))) _ _ s;refine wpAny_bind (wpAny_mono (zbQ (use:=some (assign (.Name x pos') X.env)) (Q:=fun _ s'=>SP X pins D .next s') B hc hi hg hb hs I h fun ys H' s' L Da m hR hD I' hn nL fL=>?_) (fun _ s' hq=>wpAny_pure (wpAny_pure hq)) fun _ _ e=>e);obtain⟨f0,f1,f2,f3,f4,f5⟩:=fL;show wpAny _ X.A (assign (.Name x pos') X.env (.ref Da)) _ _ _;refine wpAny_assign_Name (Qh I' hN hi' (.inl hx) (show RelV (.ref Da) (.ref Da)from rfl) (fun s2 I2 ⟨a,sb,ha⟩=>?_) (.inr hx));have hLa:L≠a:=by
  rcases ha with rfl|ha
  ·exact f1
  ·exact Ne.symm (f4 x a ha)
 refine⟨m,hn.sameBut sb hLa,fun h' hs'=>?_⟩;exact⟨_,_,I2.turned (t':=s2.toks) (it:=L) (fun b o hb e=>hs'.extBut b o hb e) f0 f1 f3 f4 f5,hR Da hD⟩
end
end L2
namespace L2
open PySem PySem.Spec PyProof.Rows
mutual
def Rp(H:Hp):PyData->V->Prop
 | .none,v=>v=.non
 | .bool b,v=>v=.bl b
 | .int i,v=>v=.int i
 | .str x,v=>v=.str x
 | .list ds,v=>∃ a xs,v=.ref a/\H a=some (.lst xs)/\Rps H ds xs
 | .tuple ds,v=>∃ a xs,v=.ref a/\H a=some (.tup xs)/\Rps H ds xs
 | .dict _,_=>False
def Rps(H:Hp):List PyData->List V->Prop
 | [],xs=>xs=[]
 | d::ds,xs=>∃ x r,xs=x::r/\Rp H d x/\Rps H ds r
end
mutual
theorem Rp.mono{H H':Hp}(g:Same H H'):∀(d:PyData)(v:V),Rp H d v->Rp H' d v
 | .none,_,h=>by simpa only [Rp] using h
 | .bool _,_,h=>by simpa only [Rp] using h
 | .int _,_,h=>by simpa only [Rp] using h
 | .str _,_,h=>by simpa only [Rp] using h
 | .list ds,v,h=>by
  simp only[Rp]at h ⊢;obtain⟨a,xs,e,h1,h2⟩:=h;exact⟨a,xs,e,g _ _ h1,Rps.mono g ds xs h2⟩
 | .tuple ds,v,h=>by
  simp only[Rp]at h ⊢;obtain⟨a,xs,e,h1,h2⟩:=h;exact⟨a,xs,e,g _ _ h1,Rps.mono g ds xs h2⟩
 | .dict _,_,h=>by simp only[Rp]at h
theorem Rps.mono{H H':Hp}(g:Same H H'):∀(ds:List PyData)(xs:List V),Rps H ds xs->Rps H' ds xs
 | [],xs,h=>by simpa only [Rps] using h
 | d::ds,xs,h=>by
  simp only[Rps]at h ⊢;obtain⟨x,r,e,h1,h2⟩:=h;exact⟨x,r,e,Rp.mono g d x h1,Rps.mono g ds r h2⟩
end
section
variable{X:Cx}{pins:List (Addr×Obj)}{σ:St}{H:Hp}{s:Shared}
mutual
theorem Rp.reads(I:Inv X pins σ H s):∀(d:PyData)(v:V)(u:Value),Rp H d v->RelV v u->∃ as,Reads s.heap u d as
 | .none,v,u,h,r=>by
  simp only[Rp]at h;subst h;cases (show u=Value.none from r);exact⟨_,.none⟩
 | .bool b,v,u,h,r=>by
  simp only[Rp]at h;subst h;cases (show u=Value.bool b from r);exact⟨_,.bool b⟩
 | .int i,v,u,h,r=>by
  simp only[Rp]at h;subst h;obtain⟨t,e⟩:=(show ∃ t,u=Value.int i t from r);subst e;exact⟨_,.int i t⟩
 | .str x,v,u,h,r=>by
  simp only[Rp]at h;subst h;obtain⟨t,e⟩:=(show ∃ t,u=Value.str x t from r);subst e;exact⟨_,.str x t⟩
 | .list ds,v,u,h,r=>by
  simp only[Rp]at h;obtain⟨a,xs,e,h1,h2⟩:=h;subst e;cases (show u=Value.ref a from r);obtain⟨_,its,n,hv,hg⟩:=(show kas X.prog X.w H s.heap a (.lst xs)from I.hok a _ h1);obtain⟨as,q⟩:=Rps.reads I ds xs its h2 hv;exact⟨_,.list hg rfl rfl q⟩
 | .tuple ds,v,u,h,r=>by
  simp only[Rp]at h;obtain⟨a,xs,e,h1,h2⟩:=h;subst e;cases (show u=Value.ref a from r);obtain⟨_,its,hv,o,hg,hc,n,hd⟩:=(show kas X.prog X.w H s.heap a (.tup xs)from I.hok a _ h1);obtain⟨as,q⟩:=Rps.reads I ds xs its h2 hv;exact⟨_,.tuple hg hc hd q⟩
 | .dict _,v,u,h,r=>by simp only[Rp]at h
theorem Rps.reads(I:Inv X pins σ H s):∀(ds:List PyData)(xs:List V)(us:List Value),Rps H ds xs->Vals xs us->∃ as,ReadsAll s.heap us ds as
 | [],xs,us,h,r=>by
  simp only[Rps]at h;subst h;cases r;exact⟨_,.nil⟩
 | d::ds,xs,us,h,r=>by
  simp only[Rps]at h;obtain⟨x,rr,e,h1,h2⟩:=h;subst e;cases r with
  | cons r1 r2 =>
   obtain⟨as,q1⟩:=Rp.reads I d x _ h1 r1;obtain⟨bs,q2⟩:=Rps.reads I ds rr _ h2 r2;exact⟨_,.cons q1 q2⟩
end
def rEqD(f:Bool->Bool):R2:=fun x y H Q=>∃ dx dy,Rp H dx x/\Rp H dy y/\dx.canLay0=true/\dy.canLay0=true/\min dx.depth dy.depth<=60/\Q (.bl (f (PyData.eqv dx dy))) H
theorem Ym{k:Nat}(hr:Room k X.A):OpR X (compareOp .Eq) (rEqD id):=by
 intro pins s σ H x y v u Q I rx ry h;obtain⟨dx,dy,h1,h2,l1,l2,hd,q⟩:=h;obtain⟨as,r1⟩:=Rp.reads I dx x v h1 rx;obtain⟨bs,r2⟩:=Rp.reads I dy y u h2 ry;exact SeqAt.compareEq_reads r1 r2 l1 l2 (by have:=hr.units;omega) ⟨.bl _,H,I,rfl,q⟩
theorem zbe{k:Nat}(hr:Room k X.A):OpR X (compareOp .NotEq) (rEqD not):=by
 intro pins s σ H x y v u Q I rx ry h;obtain⟨dx,dy,h1,h2,l1,l2,hd,q⟩:=h;obtain⟨as,r1⟩:=Rp.reads I dx x v h1 rx;obtain⟨bs,r2⟩:=Rp.reads I dy y u h2 ry;exact SeqAt.compareNe_reads r1 r2 l1 l2 (by have:=hr.units;omega) ⟨.bl _,H,I,rfl,q⟩
end
def Itz(K:PySem.W.Frag)(a b:Addr):It :=
 ⟨fun i H=>∃ xs ys x y,SqL K H a xs/\SqL K H b ys/\xs[i]?=some x/\ys[i]?=some y,
   fun i H v H'=>∃ T x y,v=.ref T/\H T=none/\H'=upd H T (.tup [x,y])/\(∀ xs,SqL K H a xs->xs[i]?=some x)/\(∀ ys,SqL K H b ys->ys[i]?=some y),
   fun i H=>∃ xs ys,SqL K H a xs/\SqL K H b ys/\(xs.length<=i\/ys.length<=i)⟩
def ZipAt(z TI TO i1 i2 a b:Addr)(i:Nat)(h:Heap):Prop:=IsZip h z TI TO .none/\IsPair h TI (.ref i1) (.ref i2)/\(∃ u v,IsPair h TO u v)/\h.IsListIter i1 a i/\h.IsListIter i2 b i
theorem zfj{P:Program}{w:World}{K:PySem.W.Frag}{elts:List Expr}{k1:Nat}{pos:Pos}(z TI TO i1 i2 a b:Addr)(D:ZipApart z TI TO i1 i2 a b) :
  Turn P w K (.Tuple elts k1 pos) (Itz K a b) [z,TI,TO,i1,i2] z (ZipAt z TI TO i1 i2 a b) where
 mem:=by simp
 obj:=fun i h st c hc=>by
  obtain⟨hz,hTI,⟨u,v,hTO⟩,⟨o1,e1,_,d1⟩,⟨o2,e2,_,d2⟩⟩:=st;simp only[wF,vq,or_false]at hc
  rcases hc with rfl|rfl|rfl|rfl|rfl
  ·exact⟨_,hz,fun v z=>nomatch z⟩
  ·exact⟨_,hTI,fun v z=>nomatch z⟩
  ·exact⟨_,hTO,fun v z=>nomatch z⟩
  ·exact⟨o1,e1,fun v z=>by rw[d1]at z;cases z⟩
  ·exact⟨o2,e2,fun v z=>by rw[d2]at z;cases z⟩
 keep:=fun i h h' st k=>by
  obtain⟨hz,hTI,⟨u,v,hTO⟩,h1,h2⟩:=st;exact⟨k z (by simp) _ hz,k TI (by simp) _ hTI,⟨u,v,k TO (by simp) _ hTO⟩,h1.at fun o e=>k i1 (by simp) o e,h2.at fun o e=>k i2 (by simp) o e⟩
 item:=by
  intro X hP hw hK hc i pins s σ H E I hf st hg;subst hP hw hK;obtain⟨hz,hTI,⟨u0,v0,hTO⟩,h1,h2⟩:=st;obtain⟨xs,ys,x,y,q1,q2,ex,ey⟩:=hg;obtain⟨its1,rv1,p1,_⟩:=I.list q1;obtain⟨its2,rv2,p2,_⟩:=I.list q2;obtain⟨u,hu,ru⟩:=rv1.get ex;obtain⟨u',hu',ru'⟩:=rv2.get ey;refine wpAny_pyNext_zip_item D hz hTI hTO h1 h2 p1.isList p2.isList (x:=u) (y:=u') (by simpa using hu) (by simpa using hu') fun h' z' TO' i1' i2' T' sz keep=>?_
  refine⟨_,rfl,wpAny_letOwnedTupleGo_zip (s:={ s with heap:=h' }) z' fun h'' z'' sb=>?_⟩;have hlt:∀ c o,s.heap.get? c=some o->c<s.heap.objs.size:=fun c o e=>Heap.lt_size e
  have zlt:=hlt _ _ hz;have TOlt:=hlt _ _ hTO;have TIlt:=hlt _ _ hTI;have i1lt:i1<s.heap.objs.size:=let ⟨o,e,_⟩:=h1;hlt _ _ e
  have i2lt:i2<s.heap.objs.size:=let ⟨o,e,_⟩:=h2;hlt _ _ e
  have fz:=hf z (by simp);have fTO:=hf TO (by simp);have f1:=hf i1 (by simp);have f2:=hf i2 (by simp);have nT:H s.heap.objs.size=none:=I.fresh;have keep2:∀ c o,c≠z->c≠TO->c≠i1->c≠i2->s.heap.get? c=some o->h''.get? c=some o:=fun c o c1 c2 c3 c4 e=>sb.extBut c o c1 (keep c o c1 c2 c3 c4 e)
  have hT:h''.get? s.heap.objs.size=some { cls:=.type "tuple",data:=.seq #[u,u'] }:=sb.extBut _ _ (GW zlt) T';have TOK:IsTup h'' s.heap.objs.size [u,u'].toArray:=⟨_,hT,rfl,_,rfl⟩;refine⟨.ref s.heap.objs.size,upd H s.heap.objs.size (.tup [x,y]),?_,rfl,⟨_,x,y,rfl,nT,rfl,fun zs h=>by rw[I.list_inj h q1];exact ex,fun zs h=>by rw[I.list_inj h q2];exact ey⟩,⟨z'',?_,⟨u,u',?_⟩,?_,?_⟩,?_⟩
  ·have nch:∀ c,H c≠none->c≠z/\c≠TO/\c≠i1/\c≠i2:=fun c hc=>⟨fun e=>hc (by rw[e];exact fz.1),fun e=>hc (by rw[e];exact fTO.1),fun e=>hc (by rw[e];exact f1.1),fun e=>hc (by rw[e];exact f2.1)⟩
   refine Inv.step (s:=s) (g':=s.gens) (d':=s.drawn) (t':=s.toks) (ch:=[z,TO,i1,i2]) (h':=h'') I (fun b hb=>?_) (fun b o _ _ hc e _=>?_) (fun b o _ _ hc e _=>⟨o.slots,?_⟩) (fun b o _ e n=>?_) (fun b o hc e=>⟨o,?_⟩) (fun b xs e=>?_) (fun b o v e=>?_) (fun b ps e=>⟨#[],?_⟩) (fun m hm=>?_) (fun b o e=>?_) I.bare
   ·simp only[wF,vq,or_false]at hb
    rcases hb with rfl|rfl|rfl|rfl
    ·exact⟨fz.2.2.2.1,fz.2.1,fz.2.2.2.2.1,fz.2.2.2.2.2⟩
    ·exact⟨fTO.2.2.2.1,fTO.2.1,fTO.2.2.2.2.1,fTO.2.2.2.2.2⟩
    ·exact⟨f1.2.2.2.1,f1.2.1,f1.2.2.2.2.1,f1.2.2.2.2.2⟩
    ·exact⟨f2.2.2.2.1,f2.2.1,f2.2.2.2.2.1,f2.2.2.2.2.2⟩
   ·simp only[wF,vq,or_false,not_or]at hc;exact keep2 b o hc.1 hc.2.1 hc.2.2.1 hc.2.2.2 e
   ·simp only[wF,vq,or_false,not_or]at hc;exact keep2 b o hc.1 hc.2.1 hc.2.2.1 hc.2.2.2 e
   ·rw[zN (wU (Heap.lt_size e))];exact n
   ·simp only[wF,vq,or_false,not_or]at hc;exact keep2 b o hc.1 hc.2.1 hc.2.2.1 hc.2.2.2 e
   ·rw[zN (zV e nT)];exact e
   ·rw[zN (zV e nT)];exact e
   ·rw[zN (zV e nT)];simpa using e
   ·obtain⟨o,es,ep,ho,r⟩:=hm;exact⟨o,es,ep,keep2 _ o (Ne.symm fz.2.1) (Ne.symm fTO.2.1) (Ne.symm f1.2.1) (Ne.symm f2.2.1) ho,r⟩
   ·by_cases hb:b=s.heap.objs.size
    ·subst hb;rw[zf]at e;cases e;exact⟨by show 2<=sizeLine;decide,[u,u'],.cons ru (.cons ru' .nil),TOK⟩
    ·rw[zN hb]at e;refine(I.hok b o e).stay (fun c v hc q=>?_) (fun c q=>by rw[zN (zV q nT)];exact q) fun c xs q=>by rw[zN (zV q nT)];exact q
     have hne:H c≠none:=by
      rcases hc with rfl|hc
      ·rw[e];exact fun z=>nomatch z
      ·rw[hc];exact fun z=>nomatch z
     obtain⟨c1,c2,c3,c4⟩:=nch c hne;exact keep2 c v c1 c2 c3 c4 q
  ·exact sb.extBut _ _ D.TIz (keep _ _ D.TIz D.TITO D.TIi1 D.TIi2 hTI)
  ·exact sb.extBut _ _ D.TOz TO'
  ·exact i1'.at fun o e=>sb.extBut _ _ D.i1z e
  ·exact i2'.at fun o e=>sb.extBut _ _ D.i2z e
  ·intro b hb;rw[zN ?_]
   ·exact(hf b hb).1
   ·simp only[wF,vq,or_false]at hb
    rcases hb with rfl|rfl|rfl|rfl|rfl
    ·exact wU zlt
    ·exact wU TIlt
    ·exact wU TOlt
    ·exact wU i1lt
    ·exact wU i2lt
 done:=by
  intro X hP hw hK hc i pins s σ H E I hf st hg;subst hP hw hK;obtain⟨hz,hTI,⟨u0,v0,hTO⟩,h1,h2⟩:=st;obtain⟨xs,ys,q1,q2,hx⟩:=hg;obtain⟨its1,rv1,p1,_⟩:=I.list q1;obtain⟨its2,rv2,p2,_⟩:=I.list q2;have l1:=rv1.length;have l2:=rv2.length;have fz:=hf z (by simp);have fTO:=hf TO (by simp);have f1:=hf i1 (by simp);have f2:=hf i2 (by simp);refine wpAny_pyNext_zip_end (I.ok.hd hc) D hz hTI hTO h1 h2 p1.isList p2.isList (by
   rcases hx with hx|hx
   ·exact .inl (by simp;omega)
   ·exact .inr (by simp;omega)) fun h' keep=>⟨rfl,?_⟩
  have nch:∀ c,H c≠none->c≠z/\c≠TO/\c≠i1/\c≠i2:=fun c hc=>⟨fun e=>hc (by rw[e];exact fz.1),fun e=>hc (by rw[e];exact fTO.1),fun e=>hc (by rw[e];exact f1.1),fun e=>hc (by rw[e];exact f2.1)⟩
  refine Inv.step (s:=s) (g':=s.gens) (d':=s.drawn) (t':=s.toks) (ch:=[z,TO,i1,i2]) (h':=h') I (fun b hb=>?_) (fun b o _ _ hc e _=>?_) (fun b o _ _ hc e _=>⟨o.slots,?_⟩) (fun b o _ e n=>n) (fun b o hc e=>⟨o,?_⟩) (fun b xs e=>e) (fun b o v e=>e) (fun b ps e=>⟨#[],by simpa using e⟩) (fun m hm=>?_) (fun b o e=>?_) I.bare
  ·simp only[wF,vq,or_false]at hb
   rcases hb with rfl|rfl|rfl|rfl
   ·exact⟨fz.2.2.2.1,fz.2.1,fz.2.2.2.2.1,fz.2.2.2.2.2⟩
   ·exact⟨fTO.2.2.2.1,fTO.2.1,fTO.2.2.2.2.1,fTO.2.2.2.2.2⟩
   ·exact⟨f1.2.2.2.1,f1.2.1,f1.2.2.2.2.1,f1.2.2.2.2.2⟩
   ·exact⟨f2.2.2.2.1,f2.2.1,f2.2.2.2.2.1,f2.2.2.2.2.2⟩
  ·simp only[wF,vq,or_false,not_or]at hc;exact keep b o hc.1 hc.2.1 hc.2.2.1 hc.2.2.2 e
  ·simp only[wF,vq,or_false,not_or]at hc;exact keep b o hc.1 hc.2.1 hc.2.2.1 hc.2.2.2 e
  ·simp only[wF,vq,or_false,not_or]at hc;exact keep b o hc.1 hc.2.1 hc.2.2.1 hc.2.2.2 e
  ·obtain⟨o,es,ep,ho,r⟩:=hm;exact⟨o,es,ep,keep _ o (Ne.symm fz.2.1) (Ne.symm fTO.2.1) (Ne.symm f1.2.1) (Ne.symm f2.2.1) ho,r⟩
  ·refine(I.hok b o e).stay (fun c v hc q=>?_) (fun c q=>q) fun c xs q=>q
   have hne:H c≠none:=by
    rcases hc with rfl|hc
    ·rw[e];exact fun z=>nomatch z
    ·rw[hc];exact fun z=>nomatch z
   obtain⟨c1,c2,c3,c4⟩:=nch c hne;exact keep c v c1 c2 c3 c4 q
 self:=fun _ _ _ _ _ st h=>wpAny_pyIter_zip st.1 h
section
variable{X:Cx}
def iZip(K:PySem.W.Frag)(ta:TA):TI:=fun σ H R=>ta σ H fun vs H1=>∃ a b xs ys,vs=[.ref a,.ref b]/\SqL K H1 a xs/\SqL K H1 b ys/\R (Itz K a b) H1
theorem zhe {a b:Expr} {ta:TA} {p pos:Pos} {elts:List Expr} {k1:Nat} {tpos:Pos} (hg:Gl X "zip") (hm:X.mg "zip" = none) (ha:PA X [a,b] ta) (hs:starEach [a,b] X.env=[(false,eval a X.env),(false,eval b X.env)]:=by rfl) (hs2:starEach [b] X.env=[(false,eval b X.env)]:=by rfl) :
  PI X (.Tuple elts k1 tpos) (.Call (.Name "zip" p) [a,b] [] pos) (iZip X.K ta):=by
 intro pins s σ H R I h;refine wpAny_Call_Name_kw (Qm I hg hm zhn ?_);refine PyProof.Rows.callWith_type1 (thn (ha pos pins s σ H _ I h) fun us s1 ⟨vs,H1,I1,r1,q1⟩=>?_) (by rw[hs,hs2]) (by rw[hs2];rfl);obtain⟨a1,b1,xs,ys,rfl,h1,h2,q⟩:=q1;obtain⟨u,w',rfl,ra,rb⟩:=Vals.two r1;cases ra;cases rb;obtain⟨its1,rv1,p1,_⟩:=I1.list h1;obtain⟨its2,rv2,p2,_⟩:=I1.list h2;have l1:a1<s1.heap.objs.size:=let ⟨_,e,_⟩:=p1.isList;Heap.lt_size e
 have l2:b1<s1.heap.objs.size:=let ⟨_,e,_⟩:=p2.isList;Heap.lt_size e
 refine call_zip_2 p1.isList p2.isList fun h' hz hTI hTO hi1 hi2 hsz keep=>?_
 have I2:Inv X pins σ H1 { s1 with heap:=h' }:=I1.kept (t':=s1.toks) keep;refine wpAny_pyIter_zip (s:={ s1 with heap:=h' }) hz ?_;refine⟨_,_,_,_,H1,rfl,I2,zfj _ _ _ _ _ a1 b1 (zipApart_new l1 l2),⟨hz,hTI,⟨_,_,hTO⟩,hi1,hi2⟩,fun b hb=>?_,q⟩;have hb':s1.heap.objs.size<=b:=by
  simp only[wF,vq,or_false]at hb
  rcases hb with rfl|rfl|rfl|rfl|rfl <;> omega
 exact I1.fpOk hb' (I1.hok.fresh hb')
theorem YG(ns:List Int):∀ j,j<=ns.length->preSum (fun i=>ns.getD i 0) j =(ns.take j).sum
 | 0,_=>by simp[preSum]
 | j+1,h=>by
  have hj:j<ns.length:=h;rw[preSum,YG ns j (vW hj),vN hj,way];simp[uu,hj]
theorem zdI (hc:X.calm=true):CallR X (.builtin "sum") (fun xs H Q=>∃ p ns,xs=[.ref p]/\SqL X.K H p ((ns:List Int).map V.int)/\Q (.int ns.sum) H):=by
 intro pins s σ H xs us Q I r h;obtain⟨p,ns,rfl,hq,q⟩:=h;obtain⟨u,rfl,ru⟩:=Vals.one r;cases ru;obtain⟨its,rv,pl,_⟩:=I.list hq;have hh:X.A.in1.handled=none:=I.ok.hd hc;have lt:p<s.heap.objs.size:=let ⟨_,e,_⟩:=pl.isList;Heap.lt_size e
 have hl:its.length=ns.length:=by rw[← rv.length,wa]
 refine call_sum_walkG (wpAny_pyIter_list pl.isList ?_);refine⟨s.heap.objs.size,_,_,_,_,_,fun i=>ns.getD i 0,rfl,Walks.list hh s.heap.objs.size p (wU lt) its.toArray,⟨⟨_,Heap.get?_push_size _ rfl,rfl,rfl⟩,pl.isList.at fun o e=>Heap.get?_push_of_some _ e⟩,fun b hb=>?_,fun i v hv=>?_,fun h' tk t' keep=>?_⟩
 ·simp only[wF,vq,or_false]at hb
  rcases hb with rfl|rfl
  ·rw[Heap.size_push];exact ut _
  ·rw[Heap.size_push];exact uB lt
 ·have hv':its[i]?=some v:=by simpa using hv
  have hi:i<ns.length:=by rw[← hl];exact(wp.mp hv').1
  obtain⟨u,hu,ru⟩:=rv.get (i:=i) (x:=.int ns[i]) (by rw[we,wb hi];rfl);rw[hu]at hv';cases hv';obtain⟨t,e⟩:=ru;refine⟨t,?_⟩;rw[e];simp[uu,hi]
 ·have e:preSum (fun i=>ns.getD i 0) its.toArray.size=ns.sum:=by
   rw[wI,hl,YG ns _ (ww _),vK]
  rw[e];refine⟨.int ns.sum,H,?_,⟨t',rfl⟩,q⟩;exact I.kept (h':=h') (t':=tk) fun b o eb=>keep b o (by simp only[wF,vq,or_false];exact wU (Heap.lt_size eb)) (Heap.get?_push_of_some _ eb)
end
end L2
namespace L2
open PySem PySem.Spec PyProof.Rows Nm
def toD:Nb->PyData
 | .q r=>.tuple [.int r.num,.int (r.den:Int)]
 | .z i=>.int i
def RN(H:Hp)(x:Nb)(v:V):Prop:=Rp H (toD x) v
theorem RN.q{H:Hp}{r:Rat}{v:V}(h:RN H (.q r) v):∃ a,v=.ref a/\H a=some (.tup [.int r.num,.int (r.den:Int)]):=by
 simp only[RN,toD,Rp,Rps]at h;obtain⟨a,xs,e,h1,x,r1,e1,e2,y,r2,e3,e4,e5⟩:=h;subst e5 e4 e3 e2 e1;exact⟨a,e,h1⟩
theorem RN.of_q{H:Hp}{r:Rat}{a:Addr}(h:H a=some (.tup [.int r.num,.int (r.den:Int)])):RN H (.q r) (.ref a):=by
 simp only[RN,toD,Rp,Rps];exact⟨a,_,rfl,h,_,_,rfl,rfl,_,_,rfl,rfl,rfl⟩
theorem RN.z{H:Hp}{i:Int}{v:V}(h:RN H (.z i) v):v=.int i:=by
 simpa only [RN,toD,Rp] using h
theorem RN.of_z{H:Hp}{i:Int}:RN H (.z i) (.int i):=by
 simp only[RN,toD,Rp]
theorem RN.mono{H H':Hp}{x:Nb}{v:V}(h:RN H x v)(g:Same H H'):RN H' x v:=Rp.mono g _ _ h
theorem xC(x:Nb):(toD x).canLay0=true:=by
 cases x <;> rfl
theorem je(x:Nb):(toD x).depth<=1:=by
 cases x <;> simp[toD,PyData.depth,PyData.depthAll]
theorem qy(x y:Nb):PyData.eqv (toD x) (toD y)=decide (x=y):=by
 cases x with
 | q r =>
  cases y with
  | q s =>
   show((r.num == s.num) && (((r.den:Int) ==(s.den:Int)) && true))=decide (Nb.q r=Nb.q s)
   by_cases h:r=s
   ·subst h;simp
   ·have h':¬ Nb.q r=Nb.q s:=fun z=>h (Nb.q.inj z)
    rw[decide_eq_false h'];rw[Bool.and_eq_false_iff]
    by_cases h1:r.num=s.num
    ·right
     rw[Bool.and_true];have:¬(r.den:Int) =(s.den:Int):=fun z=>h (Rat.ext h1 (by omega))
     simp[this]
    ·left;simp[h1]
  | z j=>simp[toD,PyData.eqv]
 | z i =>
  cases y with
  | q s=>simp[toD,PyData.eqv]
  | z j =>
   show(i == j)=decide (Nb.z i=Nb.z j)
   by_cases h:i=j
   ·subst h;simp
   ·have h':¬ Nb.z i=Nb.z j:=fun z=>h (Nb.z.inj z)
    rw[decide_eq_false h'];simp[h]
def nsm(n:Nat):Nb->Prop
 | .q r=>Sm n r.num/\Sm n (r.den:Int)
 | .z i=>Sm n i
theorem nsm.mono{m n:Nat}{x:Nb}(h:nsm m x)(hmn:m<=n):nsm n x:=by
 cases x with
 | q r=>exact⟨Sm.mono h.1 hmn,Sm.mono h.2 hmn⟩
 | z i=>exact Sm.mono (show Sm m i from h) hmn
theorem Xn{k i:Int}(h0:0<=i)(h1:i<k)(h9:k<2305843009213693952):Sm 61 i:=by
 unfold Sm;have:(2:Nat)^61=2305843009213693952:=by decide
 omega
theorem Jf{t b:Int}(hb:b≠0):((vB t b).den:Int).natAbs<=b.natAbs:=by
 have h:=(Yj (t:=t) hb).2;rw[← h,vE (Zd t b)];have e:=uq (Zd t b);have h1:(b / sg t b*sg t b).natAbs=b.natAbs:=by rw[e]
 rw[vv]at h1;have h2:0 <(sg t b).natAbs:=gv.mpr (zdC hb);rw[← h1];exact um _ h2
theorem Jz{t b:Int}(hb:b≠0):(vB t b).num.natAbs<=t.natAbs:=by
 have h:=(Yj (t:=t) hb).1;rw[← h,vE (Zi t b)];have e:=uq (Zi t b);have h1:(t / sg t b*sg t b).natAbs=t.natAbs:=by rw[e]
 rw[vv]at h1;have h2:0 <(sg t b).natAbs:=gv.mpr (zdC hb);rw[← h1];exact um _ h2
theorem jR{m n:Nat}{t b:Int}(hb:b≠0)(ht:Sm m t)(hs:Sm n b):Sm m (vB t b).num/\Sm n ((vB t b).den:Int):=⟨ht.le (Jz hb),hs.le (Jf hb)⟩
theorem zd7{k:Int}(hk:k≠0)(k0:0<=k)(a:Int):Nb.ok k (.z (a.fmod k)):=⟨hk,wx a (by omega),wH a (by omega)⟩
theorem qF{k:Int}{x y:Nb}(hx:x.ok k)(hy:y.ok k):(k=0/\∃ r s,x=.q r/\y=.q s)\/(k≠0/\∃ i j,x=.z i/\y=.z j/\0<=i/\i<k/\0<=j/\j<k):=by
 cases x with
 | q r =>
  cases y with
  | q s=>exact .inl ⟨hx,r,s,rfl,rfl⟩
  | z j=>exact absurd (show k=0 from hx) hy.1
 | z i =>
  cases y with
  | q s=>exact absurd (show k=0 from hy) hx.1
  | z j=>exact .inr ⟨hx.1,i,j,rfl,rfl,hx.2.1,hx.2.2,hy.2.1,hy.2.2⟩
section
variable{k:Int}{x y:Nb}
theorem za0(k0:0<=k)(hx:x.ok k)(hy:y.ok k):(nsub k x y).ok k:=by
 rcases qF hx hy with⟨h,r,s,rfl,rfl⟩|⟨h,i,j,rfl,rfl,_⟩
 ·exact h
 ·exact zd7 h k0 _
theorem zaX(k0:0<=k)(hx:x.ok k)(hy:y.ok k):(nmul k x y).ok k:=by
 rcases qF hx hy with⟨h,r,s,rfl,rfl⟩|⟨h,i,j,rfl,rfl,_⟩
 ·exact h
 ·exact zd7 h k0 _
theorem zhj{n:Nat}(hk:kaa k)(h:k≠0)(hn:61<=n)(a:Int):nsm n (.z (a.fmod k)):=by
 have hl:=hk.lt;have h0:=wx a (show 0<k by omega);have h1:=wH a (show 0<k by omega);exact(Xn h0 h1 hl.2).mono hn
theorem jw(r s:Rat):(r.den:Int) *(s.den:Int)≠0:=gO (jf r) (jf s)
theorem zg5{m:Nat}(hk:kaa k)(hx:x.ok k)(hy:y.ok k)(sx:nsm m x)(sy:nsm m y)(hm:61<=m):nsm (m+m) (nmul k x y):=by
 rcases qF hx hy with⟨h,r,s,rfl,rfl⟩|⟨h,i,j,rfl,rfl,_⟩
 ·show Sm _ (r*s).num/\Sm _ ((r*s).den:Int);rw[← zaR];exact jR (jw r s) (sx.1.mul sy.1) (sx.2.mul sy.2)
 ·exact zhj hk h (by omega) _
end
end L2
namespace L2
open PySem PySem.Spec PyProof.Rows Nm
section
variable{α β:Type}{R S:α->β->Prop}
theorem zj:∀ {xs:List α} {ys:List β},Paired R xs ys->xs.length=ys.length
 | _,_,.nil=>rfl
 | _,_,.cons _ t=>congrArg (·+1) (zj t)
theorem jg(f:∀ a b,R a b->S a b):∀ {xs:List α} {ys:List β},Paired R xs ys->Paired S xs ys
 | _,_,.nil=>.nil
 | _,_,.cons r t=>.cons (f _ _ r) (jg f t)
theorem XL:∀ {xs xs':List α} {ys ys':List β},Paired R xs ys->Paired R xs' ys'->Paired R (xs++xs') (ys++ys')
 | _,_,_,_,.nil,s=>s
 | _,_,_,_,.cons r t,s=>.cons r (XL t s)
theorem zZ{xs:List α}{ys:List β}{a:α}{b:β}(h:Paired R xs ys)(r:R a b):Paired R (xs++[a]) (ys++[b]):=XL h (.cons r .nil)
theorem yl:∀ {xs:List α} {ys:List β} {i:Nat} {a:α},Paired R xs ys->xs[i]?=some a->∃ b,ys[i]?=some b/\R a b
 | _,_,_,_,.nil,e=>by simp at e
 | _,_,0,_,.cons r _,e=>by simp at e;subst e;exact⟨_,rfl,r⟩
 | _,_,i+1,a,.cons _ t,e=>by
  obtain⟨b,h1,h2⟩:=yl (i:=i) (a:=a) t (by simpa using e);exact⟨b,by simpa using h1,h2⟩
theorem zW:∀ {xs:List α} {ys:List β} {i:Nat} {b:β},Paired R xs ys->ys[i]?=some b->∃ a,xs[i]?=some a/\R a b
 | _,_,_,_,.nil,e=>by simp at e
 | _,_,0,_,.cons r _,e=>by simp at e;subst e;exact⟨_,rfl,r⟩
 | _,_,i+1,b,.cons _ t,e=>by
  obtain⟨a,h1,h2⟩:=zW (i:=i) (b:=b) t (by simpa using e);exact⟨a,by simpa using h1,h2⟩
theorem qw:∀ {xs:List α} {ys:List β} {b:β},Paired R xs ys->b∈ys->∃ a∈xs,R a b
 | _,_,_,.nil,e=>nomatch e
 | _,_,b,.cons r t,e=>by
  rcases wF.mp e with rfl|e
  ·exact⟨_,wk,r⟩
  ·obtain⟨a,h1,h2⟩:=qw t e;exact⟨a,wo _ h1,h2⟩
end
theorem zy{α:Type}{l:List α}{i:Nat}{x:α}(h:l[i]?=some x):l.take (i+1)=l.take i++[x]:=by
 obtain⟨hi,e⟩:=wp.mp h;rw[vN hi,e]
def kak(H:Hp)(xs:List Nb)(a:Addr):Prop:=∃ vs,H a=some (.lst vs)/\Paired (RN H) xs vs
def kag(H:Hp)(M:Tb)(top:Addr)(ras:List Addr):Prop:=H top=some (.lst (ras.map V.ref))/\Paired (kak H) M ras
theorem jj{H H':Hp}(g:Same H H'){xs:List Nb}{vs:List V}(h:Paired (RN H) xs vs):Paired (RN H') xs vs:=jg (fun _ _ r=>r.mono g) h
theorem kak.mono{H H':Hp}{xs:List Nb}{a:Addr}(h:kak H xs a)(g:Same H H'):kak H' xs a :=
 let ⟨vs,h1,h2⟩:=h
 ⟨vs,g _ _ h1,jj g h2⟩
theorem kag.mono{H H':Hp}{M:Tb}{top:Addr}{ras:List Addr}(h:kag H M top ras)(g:Same H H'):kag H' M top ras:=⟨g _ _ h.1,jg (fun _ _ r=>r.mono g) h.2⟩
theorem kag.row{H:Hp}{M:Tb}{top:Addr}{ras:List Addr}{i:Nat}{v:V}(h:kag H M top ras)(e:(ras.map V.ref)[i]?=some v):∃ xs a,M[i]?=some xs/\ras[i]?=some a/\v=.ref a/\kak H xs a:=by
 rw[we]at e;obtain⟨a,ha,rfl⟩:=wG.mp e;obtain⟨xs,hx,r⟩:=zW h.2 ha;exact⟨xs,a,hx,ha,rfl,r⟩
def rowD(xs:List Nb):PyData:=.list (xs.map toD)
def tabD(M:Tb):PyData:=.list (M.map rowD)
theorem zdE{H:Hp}:∀ {xs:List Nb} {vs:List V},Paired (RN H) xs vs->Rps H (xs.map toD) vs
 | _,_,.nil=>by simp[Rps]
 | _,_,.cons r t=>by
  simp only[uL,Rps];exact⟨_,_,rfl,r,zdE t⟩
theorem kak.rp{H:Hp}{xs:List Nb}{a:Addr}(h:kak H xs a):Rp H (rowD xs) (.ref a):=by
 obtain⟨vs,h1,h2⟩:=h;simp only[rowD,Rp];exact⟨a,vs,rfl,h1,zdE h2⟩
theorem zbh{H:Hp}:∀ {M:Tb} {ras:List Addr},Paired (kak H) M ras->Rps H (M.map rowD) (ras.map V.ref)
 | _,_,.nil=>by simp[Rps]
 | _,_,.cons r t=>by
  simp only[uL,Rps];exact⟨_,_,rfl,r.rp,zbh t⟩
theorem kag.rp{H:Hp}{M:Tb}{top:Addr}{ras:List Addr}(h:kag H M top ras):Rp H (tabD M) (.ref top):=by
 simp only[tabD,Rp];exact⟨top,_,rfl,h.1,zbh h.2⟩
theorem jm{α:Type}(f:α->PyData)(h:∀ x,(f x).canLay0=true):∀ l:List α,PyData.canLayAll0 (l.map f)=true
 | []=>rfl
 | x::r=>by
  show((f x).canLay0 && PyData.canLayAll0 (r.map f))=true;rw[h x,jm f h r];rfl
theorem xt{α:Type}(f:α->PyData)(n:Nat)(h:∀ x,(f x).depth<=n):∀ l:List α,PyData.depthAll (l.map f)<=n
 | []=>vA _
 | x::r=>by
  show max (f x).depth (PyData.depthAll (r.map f))<=n;exact Nat.max_le.mpr ⟨h x,xt f n h r⟩
theorem JT(xs:List Nb):(rowD xs).canLay0=true:=jm toD xC xs
theorem XO(xs:List Nb):(rowD xs).depth<=2:=gz (xt toD 1 je xs)
theorem zfp(M:Tb):(tabD M).canLay0=true:=jm rowD JT M
theorem zb0(M:Tb):(tabD M).depth<=3:=gz (xt rowD 2 XO M)
theorem qt{α:Type}(f:α->PyData)(h:∀ x,PyData.eqv (f x) (f x)=true):∀ l:List α,PyData.eqvAll (l.map f) (l.map f)=true
 | []=>rfl
 | x::r=>by
  show(PyData.eqv (f x) (f x) && PyData.eqvAll (r.map f) (r.map f))=true;rw[h x,qt f h r];rfl
theorem zbk(x:Nb):PyData.eqv (toD x) (toD x)=true:=by rw[qy];simp
theorem zdM(xs:List Nb):PyData.eqv (rowD xs) (rowD xs)=true:=qt toD zbk xs
theorem zcG(M:Tb):PyData.eqv (tabD M) (tabD M)=true:=qt rowD zdM M
def Nxt(n i:Nat)(J:Prop):Prop:=∃ m',m'<n - i/\m'=n - (i+1)/\i+1<=n/\J
theorem nxt{n i:Nat}{J:Prop}(h:i<n)(j:J):Nxt n i J:=⟨n - (i+1),by omega,rfl,h,j⟩
section
variable{K:PySem.W.Frag}{g:TG}{tt:TT}{te:TE}{R:List V->Hp->Prop}{H:Hp}{σb:St}
theorem zO{a:Addr}{xs:List V}(J:Nat->List V->Hp->Prop)(h0:J 0 [] H)(hl:∀(i:Nat)(ys:List V)(H':Hp),i<=xs.length->J i ys H'->SqL K H' a xs/\ys.length<sizeLine)
  (hs:∀(i:Nat)(x:V)(ys:List V)(H':Hp),xs[i]?=some x->i<xs.length->J i ys H'->g x σb H' fun σ2 H2=>tt σ2 H2 fun b H3=>if b=true then te σ2 H3 fun y H4=>Nxt xs.length i (J (i+1) (ys++[y]) H4)else Nxt xs.length i (J (i+1) ys H3))
  (hd:∀(ys:List V)(H':Hp),J xs.length ys H'->R ys H') :
  ∃ W:Nat->Nat->List V->Hp->Prop,(∃ m,W 0 m [] H)/\∀ i m ys H,W i m ys H ->
   ((Itl K a).stop i H/\ys.length<=sizeLine/\R ys H) \/
   ((Itl K a).go i H/\ys.length<sizeLine/\∀ x H',(Itl K a).yld i H x H'->g x σb H' fun σ2 H2=>tt σ2 H2 fun b H3=>if b=true then te σ2 H3 fun y H4=>∃ m',m'<m/\W (i+1) m' (ys++[y]) H4 else ∃ m',m'<m/\W (i+1) m' ys H3):=by
 refine⟨fun i m ys H=>m=xs.length - i/\i<=xs.length/\J i ys H,⟨xs.length,by simp,vA _,h0⟩,?_⟩
 rintro i m ys H1 ⟨rfl,hi,j⟩
 obtain⟨q,hz⟩:=hl i ys H1 hi j
 by_cases hlt:i<xs.length
 ·refine .inr ⟨⟨xs,xs[i],q,by simp[hlt]⟩,hz,fun x H' y=>?_⟩;obtain⟨e,y⟩:=y;subst e;exact hs i x ys _ (y xs q) hlt j
 ·have e:i=xs.length:=by omega
  subst e;exact .inl ⟨⟨xs,q,ww _⟩,vW hz,hd ys H1 j⟩
theorem yG{lo:Int}{n:Nat}(J:Nat->List V->Hp->Prop)(h0:J 0 [] H)(hl:∀(i:Nat)(ys:List V)(H':Hp),i<=n->J i ys H'->ys.length<sizeLine)
  (hs:∀(i:Nat)(ys:List V)(H':Hp),i<n->J i ys H'->g (.int (lo+i)) σb H' fun σ2 H2=>tt σ2 H2 fun b H3=>if b=true then te σ2 H3 fun y H4=>Nxt n i (J (i+1) (ys++[y]) H4)else Nxt n i (J (i+1) ys H3))
  (hd:∀(ys:List V)(H':Hp),J n ys H'->R ys H') :
  ∃ W:Nat->Nat->List V->Hp->Prop,(∃ m,W 0 m [] H)/\∀ i m ys H,W i m ys H ->
   ((Itr lo n).stop i H/\ys.length<=sizeLine/\R ys H) \/
   ((Itr lo n).go i H/\ys.length<sizeLine/\∀ x H',(Itr lo n).yld i H x H'->g x σb H' fun σ2 H2=>tt σ2 H2 fun b H3=>if b=true then te σ2 H3 fun y H4=>∃ m',m'<m/\W (i+1) m' (ys++[y]) H4 else ∃ m',m'<m/\W (i+1) m' ys H3):=by
 refine⟨fun i m ys H=>m=n - i/\i<=n/\J i ys H,⟨n,by simp,vA _,h0⟩,?_⟩
 rintro i m ys H1 ⟨rfl,hi,j⟩
 have hz:=hl i ys H1 hi j
 by_cases hlt:i<n
 ·refine .inr ⟨hlt,hz,fun x H' y=>?_⟩;obtain⟨e,y⟩:=y;subst e y;exact hs i ys _ hlt j
 ·have e:i=n:=by omega
  subst e;exact .inl ⟨ww _,vW hz,hd ys H1 j⟩
theorem qI{a b:Addr}{xs zs:List V}(he:xs.length=zs.length)(J:Nat->List V->Hp->Prop)(h0:J 0 [] H)(hl:∀(i:Nat)(ys:List V)(H':Hp),i<=xs.length->J i ys H'->SqL K H' a xs/\SqL K H' b zs/\ys.length<sizeLine)
  (hs:∀(i:Nat)(x z:V)(T:Addr)(ys:List V)(H':Hp),xs[i]?=some x->zs[i]?=some z->i<xs.length->H' T=none->J i ys H'->g (.ref T) σb (upd H' T (.tup [x,z])) fun σ2 H2=>tt σ2 H2 fun b H3=>if b=true then te σ2 H3 fun y H4=>Nxt xs.length i (J (i+1) (ys++[y]) H4)else Nxt xs.length i (J (i+1) ys H3))
  (hd:∀(ys:List V)(H':Hp),J xs.length ys H'->R ys H') :
  ∃ W:Nat->Nat->List V->Hp->Prop,(∃ m,W 0 m [] H)/\∀ i m ys H,W i m ys H ->
   ((Itz K a b).stop i H/\ys.length<=sizeLine/\R ys H) \/
   ((Itz K a b).go i H/\ys.length<sizeLine/\∀ x H',(Itz K a b).yld i H x H'->g x σb H' fun σ2 H2=>tt σ2 H2 fun b H3=>if b=true then te σ2 H3 fun y H4=>∃ m',m'<m/\W (i+1) m' (ys++[y]) H4 else ∃ m',m'<m/\W (i+1) m' ys H3):=by
 refine⟨fun i m ys H=>m=xs.length - i/\i<=xs.length/\J i ys H,⟨xs.length,by simp,vA _,h0⟩,?_⟩
 rintro i m ys H1 ⟨rfl,hi,j⟩
 obtain⟨q1,q2,hz⟩:=hl i ys H1 hi j
 by_cases hlt:i<xs.length
 ·refine .inr ⟨⟨xs,zs,xs[i],zs[i]'(by omega),q1,q2,by simp[hlt],by simp[show i<zs.length by omega]⟩,hz,fun x H' y=>?_⟩;obtain⟨T,u,v,rfl,hT,rfl,y1,y2⟩:=y;exact hs i u v T ys _ (y1 xs q1) (y2 zs q2) hlt hT j
 ·have e:i=xs.length:=by omega
  subst e;exact .inl ⟨⟨xs,zs,q1,q2,.inl (ww _)⟩,vW hz,hd ys H1 j⟩
end
end L2
namespace La
open Lean.Grind
section
variable{F:Type}[Field F]
inductive Span(S:(Nat->F)->Prop):(Nat->F)->Prop
 | zero:Span S (fun _=>0)
 | step (c:F) {r v:Nat->F} (h:S r) (t:Span S v):Span S (fun j=>c*r j+v j)
variable{S T:(Nat->F)->Prop}{u v:Nat->F}
theorem Span.cast(h:Span S u)(e:∀ j,u j=v j):Span S v:=by
 have:u=v:=funext e;rw[← this];exact h
theorem Span.of(h:S v):Span S v:=(Span.step 1 h .zero).cast fun j=>by grind
theorem Span.add(h:Span S u)(g:Span S v):Span S (fun j=>u j+v j):=by
 induction h with
 | zero=>exact g.cast fun j=>by grind
 | step c hr _ ih=>exact(Span.step c hr ih).cast fun j=>by grind
theorem Span.smul(c:F)(h:Span S v):Span S (fun j=>c*v j):=by
 induction h with
 | zero=>exact Span.zero.cast fun j=>by grind
 | step d hr _ ih=>exact(Span.step (c*d) hr ih).cast fun j=>by grind
theorem Span.lin(a b:F)(h:Span S u)(g:Span S v):Span S (fun j=>a*u j+b*v j):=(h.smul a).add (g.smul b)
theorem Span.bind(f:∀ r,S r->Span T r)(h:Span S v):Span T v:=by
 induction h with
 | zero=>exact .zero
 | step c hr _ ih=>exact((f _ hr).smul c).add ih
theorem Span.mono(f:∀ r,S r->T r)(h:Span S v):Span T v:=h.bind fun r q=>.of (f r q)
theorem Span.all{P:(Nat->F)->Prop}(h:Span S v)(z:P fun _=>0)(s:∀ c r v,S r->P v->P (fun j=>c*r j+v j)):P v:=by
 induction h with
 | zero=>exact z
 | step c hr _ ih=>exact s c _ _ hr ih
theorem Span.zero_at{i:Nat}(h:Span S v)(z:∀ r,S r->r i=0):v i=0 :=
 h.all (P:=fun v=>v i=0) rfl fun c r v hr hv=>by
  show c*r i+v i=0;rw[z r hr,hv];grind
abbrev Pv(F:Type):=Nat×(Nat->F)
def Rows(P:List (Pv F)):(Nat->F)->Prop:=fun r=>∃ p∈P,p.2=r
structure Rr(n:Nat)(P:List (Pv F)):Prop where
 inc:P.Pairwise fun a b=>a.1<b.1
 lt:∀ p∈P,p.1<n
 out:∀ p∈P,∀ j,n<=j->p.2 j=0
 bef:∀ p∈P,∀ j,j<p.1->p.2 j=0
 one:∀ p∈P,p.2 p.1=1
 oth:∀ p∈P,∀ q∈P,p.1≠q.1->p.2 q.1=0
def comb:List (Pv F)->(Nat->F)->Nat->F
 | [],_,_=>0
 | p::P,v,j=>v p.1*p.2 j+comb P v j
theorem zbt(c:F)(u v:Nat->F)(j:Nat):∀ P:List (Pv F),comb P (fun i=>c*u i+v i) j=c*comb P u j+comb P v j
 | []=>by simp only[comb];grind
 | p::P=>by simp only[comb];rw[zbt c u v j P];grind
theorem jc(v:Nat->F)(j:Nat):∀ P:List (Pv F),(∀ p∈P,v p.1*p.2 j=0)->comb P v j=0
 | [],_=>rfl
 | p::P,h=>by
  simp only[comb];rw[h p wk,jc v j P fun q hq=>h q (wo _ hq)];grind
theorem Qr(v:Nat->F):∀ P:List (Pv F),Span (Rows P) (comb P v)
 | []=>Span.zero.cast fun _=>rfl
 | p::P=>by
  have h:=(Qr v P).mono (T:=Rows (p::P)) fun r ⟨q,hq,e⟩=>⟨q,wo _ hq,e⟩
  exact(Span.step (v p.1) (r:=p.2) (S:=Rows (p::P)) ⟨p,wk,rfl⟩ h).cast fun j=>rfl
theorem Xf{v:Nat->F}{p:Pv F}(j:Nat):∀ P:List (Pv F),P.Pairwise (fun a b=>a.1<b.1)->p∈P->v p.1=1->(∀ q∈P,q.1≠p.1->v q.1=0)->comb P v j=p.2 j
 | [],_,h,_,_=>nomatch h
 | q::P,inc,h,h1,h0=>by
  rw[uH]at inc;simp only[comb]
  rcases wF.mp h with e|h
  ·subst e;rw[jc v j P fun r hr=>by rw[h0 r (wo _ hr) (GW (inc.1 r hr))];grind];rw[h1];grind
  ·rw[h0 q wk (wU (inc.1 p h)),Xf j P inc.2 h h1 fun r hr=>h0 r (wo _ hr)];grind
variable{n:Nat}{P Q:List (Pv F)}
theorem Rr.self(R:Rr n P){p:Pv F}(h:p∈P)(j:Nat):comb P p.2 j=p.2 j:=Xf j P R.inc h (R.one p h) fun q hq ne=>R.oth p h q hq (Ne.symm ne)
theorem Rr.comb(R:Rr n P)(h:Span (Rows P) v):∀ j,La.comb P v j=v j:=fun j =>
 h.all (P:=fun v=>La.comb P v j=v j) (jc _ j P fun p _=>by grind) fun c r v ⟨p,hp,e⟩ hv=>by
  rw[zbt,hv,← e,R.self hp j]
theorem Rr.lead(R:Rr n P){i:Nat}(h:Span (Rows P) v)(z:∀ j,j<i->v j=0)(ne:v i≠0):∃ p∈P,p.1=i:=by
 refine gf fun no=>ne ?_
 rw[← R.comb h i];refine jc _ i P fun p hp=>?_
 rcases wah p.1 i with g|g|g
 ·rw[z p.1 g];grind
 ·exact absurd ⟨p,hp,g⟩ no
 ·rw[R.bef p hp i g];grind
theorem XT:∀ {P Q:List (Pv F)},P.Pairwise (fun a b=>a.1<b.1)->Q.Pairwise (fun a b=>a.1<b.1)->(∀ p∈P,p∈Q)->(∀ q∈Q,q∈P)->P=Q
 | [],[],_,_,_,_=>rfl
 | [],q::_,_,_,_,h=>nomatch h q wk
 | p::_,[],_,_,h,_=>nomatch h p wk
 | p::P,q::Q,hP,hQ,h1,h2=>by
  rw[uH]at hP hQ;have e:p=q:=by
   rcases wF.mp (h1 p wk)with e|m
   ·exact e
   ·rcases wF.mp (h2 q wk)with e|m'
    ·exact e.symm
    ·have:=hP.1 q m';have:=hQ.1 p m;omega
  subst e;rw[XT hP.2 hQ.2 (fun r hr=>?_) (fun r hr=>?_)]
  ·rcases wF.mp (h1 r (wo _ hr))with e|m
   ·subst e;exact absurd (hP.1 r hr) (vM _)
   ·exact m
  ·rcases wF.mp (h2 r (wo _ hr))with e|m
   ·subst e;exact absurd (hQ.1 r hr) (vM _)
   ·exact m
theorem Rr.leads(R:Rr n P)(R':Rr n Q)(sub:∀ v,Span (Rows P) v->Span (Rows Q) v){p:Pv F}(hp:p∈P):∃ q∈Q,q.1=p.1 :=
 R'.lead (sub _ (.of ⟨p,hp,rfl⟩)) (fun j hj=>R.bef p hp j hj) (by rw[R.one p hp];grind)
theorem Rr.mem_of(R:Rr n P)(R':Rr n Q)(s1:∀ v,Span (Rows P) v->Span (Rows Q) v)(s2:∀ v,Span (Rows Q) v->Span (Rows P) v){p:Pv F}(hp:p∈P):p∈Q:=by
 obtain⟨q,hq,e⟩:=R.leads R' s1 hp;have:p=q:=by
  refine Prod.ext e.symm (funext fun j=>?_);rw[← R'.comb (s1 _ (.of ⟨p,hp,rfl⟩)) j];refine Xf j Q R'.inc hq (by rw[e];exact R.one p hp) fun r hr ne=>?_
  obtain⟨p',hp',e'⟩:=R'.leads R s2 hr;rw[← e'];exact R.oth p hp p' hp' fun z=>ne (by rw[← e',← z,e])
 rw[this];exact hq
theorem Rr.unique(R:Rr n P)(R':Rr n Q)(s1:∀ v,Span (Rows P) v->Span (Rows Q) v)(s2:∀ v,Span (Rows Q) v->Span (Rows P) v):P=Q :=
 XT R.inc R'.inc (fun _ h=>R.mem_of R' s1 s2 h) fun _ h=>R'.mem_of R s2 s1 h
structure Sw(n c:Nat)(O:(Nat->F)->Prop)(D:List (Pv F))(W:List (Nat->F)):Prop where
 inc:D.Pairwise fun a b=>a.1<b.1
 lt:∀ p∈D,p.1<c
 bef:∀ p∈D,∀ j,j<p.1->p.2 j=0
 one:∀ p∈D,p.2 p.1≠0
 oth:∀ p∈D,∀ q∈D,p.1≠q.1->p.2 q.1=0
 nil:∀ w∈W,∀ j,j<c->w j=0
 to:∀ r,O r->Span (fun r=>Rows D r\/r∈W) r
 fro:∀ r,(Rows D r\/r∈W)->Span O r
theorem zfd(n:Nat)(W:List (Nat->F))(O:(Nat->F)->Prop)(h1:∀ r,O r->Span (·∈W) r)(h2:∀ r∈W,Span O r):Sw n 0 O ([]:List (Pv F)) W where
 inc:=.nil
 lt:=fun p h=>nomatch h
 bef:=fun p h=>nomatch h
 one:=fun p h=>nomatch h
 oth:=fun p h=>nomatch h
 nil:=fun w _ j h=>absurd h (vx j)
 to:=fun r h=>(h1 r h).mono fun _=>.inr
 fro:=fun r h=>h.elim (fun⟨p,hp,_⟩=>nomatch hp) (h2 r)
variable{c:Nat}{O:(Nat->F)->Prop}{D D':List (Pv F)}{W W':List (Nat->F)}
theorem Sw.skip(s:Sw n c O D W)(h:∀ w∈W,w c=0):Sw n (c+1) O D W :=
 { s with
  lt:=fun p hp=>uB (s.lt p hp)
  nil:=fun w hw j hj=>by
   rcases gk.mp hj with g|g
   ·exact s.nil w hw j g
   ·rw[g];exact h w hw }
def Clr(c:Nat)(l r r':Nat->F):Prop:=(∃ a b:F,a≠0/\∀ j,r' j=a*r j+b*l j)/\r' c=0
theorem Clr.back{l r r':Nat->F}(h:Clr c l r r'){S:(Nat->F)->Prop}(hl:Span S l)(hr:Span S r'):Span S r:=by
 obtain⟨⟨a,b,ha,e⟩,_⟩:=h;exact(hr.lin (1 / a) (-b / a) hl).cast fun j=>by rw[e j];grind
theorem Clr.to{l r r':Nat->F}(h:Clr c l r r'){S:(Nat->F)->Prop}(hl:Span S l)(hr:Span S r):Span S r':=by
 obtain⟨⟨a,b,ha,e⟩,_⟩:=h;exact(hr.lin a b hl).cast fun j=>by rw[e j]
theorem Sw.turn{α:Type}{E:List α}{a b:α->Pv F}(s:Sw n c O (E.map a) W){l:Nat->F}(hl:l∈W)(lc:l c≠0)(hf:∀ e∈E,(b e).1 =(a e).1/\Clr c l (a e).2 (b e).2)
  (hW:∀ w∈W',(w∈W/\w c=0)\/∃ r∈W,Clr c l r w) (hW2:∀ w∈W,w∈W'\/w=l\/∃ w'∈W',Clr c l w w'):Sw n (c+1) O (E.map b++[(c,l)]) W':=by
 have lz:∀ j,j<c->l j=0:=s.nil l hl;have ina:∀ e∈E,a e∈E.map a:=fun e he=>wg.mpr ⟨e,he,rfl⟩
 have alt:∀ e∈E,(a e).1<c:=fun e he=>s.lt _ (ina e he)
 have fz:∀ e∈E,∀ j,j<c->(a e).2 j=0->(b e).2 j=0:=fun e he j hj z=>by
  obtain⟨_,⟨x,y,ha,q⟩,_⟩:=hf e he;rw[q j,z,lz j hj];grind
 have mem:∀ q∈E.map b++[(c,l)],(∃ e∈E,q=b e)\/q =(c,l):=fun q hq=>by
  rcases wt.mp hq with h|h
  ·obtain⟨p,hp,e⟩:=wg.mp h;exact .inl ⟨p,hp,e.symm⟩
  ·exact .inr (wm.mp h)
 have inl:(c,l)∈E.map b++[(c,l)]:=wE _ (wm.mpr rfl);have ind:∀ e∈E,b e∈E.map b++[(c,l)]:=fun e he=>wP _ (wg.mpr ⟨e,he,rfl⟩)
 refine⟨?_,fun q hq=>?_,fun q hq j hj=>?_,fun q hq=>?_,fun q hq q' hq' ne=>?_,fun w hw j hj=>?_,fun r hr=>?_,fun r hr=>?_⟩
 ·rw[uV];refine⟨?_,Gu _ _,fun x hx y hy=>?_⟩
  ·have h:=s.inc;rw[uQ]at h ⊢;refine h.imp_of_mem fun {x y} hx hy q=>?_
   rw[(hf x hx).1,(hf y hy).1];exact q
  ·obtain⟨p,hp,e⟩:=wg.mp hx;rw[wm.mp hy,← e,(hf p hp).1];exact alt p hp
 ·rcases mem q hq with⟨p,hp,rfl⟩|rfl
  ·rw[(hf p hp).1];exact uB (alt p hp)
  ·exact ut _
 ·rcases mem q hq with⟨p,hp,rfl⟩|rfl
  ·rw[(hf p hp).1]at hj;exact fz p hp j (Gv hj (alt p hp)) (s.bef _ (ina p hp) j hj)
  ·exact lz j hj
 ·rcases mem q hq with⟨p,hp,rfl⟩|rfl
  ·obtain⟨e1,⟨x,y,ha,e⟩,_⟩:=hf p hp;rw[e1,e,lz _ (alt p hp)];have:=s.one _ (ina p hp);intro z
   grind
  ·exact lc
 ·rcases mem q hq with⟨p,hp,rfl⟩|rfl
  ·rcases mem q' hq' with⟨p',hp',rfl⟩|rfl
   ·rw[(hf p hp).1,(hf p' hp').1]at ne;rw[(hf p' hp').1];exact fz p hp _ (alt p' hp') (s.oth _ (ina p hp) _ (ina p' hp') ne)
   ·exact(hf p hp).2.2
  ·rcases mem q' hq' with⟨p',hp',rfl⟩|rfl
   ·rw[(hf p' hp').1];exact lz _ (alt p' hp')
   ·exact absurd rfl ne
 ·rcases hW w hw with⟨h,z⟩|⟨r,hr,⟨⟨x,y,ha,e⟩,z⟩⟩
  ·rcases gk.mp hj with g|g
   ·exact s.nil w h j g
   ·rw[g];exact z
  ·rcases gk.mp hj with g|g
   ·rw[e j,s.nil r hr j g,lz j g];grind
   ·rw[g];exact z
 ·refine(s.to r hr).bind fun u hu=>?_
  have L:Span (fun r=>Rows (E.map b++[(c,l)]) r\/r∈W') l:=.of (.inl ⟨_,inl,rfl⟩)
  rcases hu with⟨q,hq,rfl⟩|hu
  ·obtain⟨p,hp,rfl⟩:=wg.mp hq;exact(hf p hp).2.back L (.of (.inl ⟨_,ind p hp,rfl⟩))
  ·rcases hW2 u hu with h|h|⟨w',h,k⟩
   ·exact .of (.inr h)
   ·rw[h];exact L
   ·exact k.back L (.of (.inr h))
 ·have L:Span O l:=s.fro l (.inr hl)
  rcases hr with⟨q,hq,rfl⟩|hr
  ·rcases mem q hq with⟨p,hp,rfl⟩|rfl
   ·exact(hf p hp).2.to L (s.fro _ (.inl ⟨_,ina p hp,rfl⟩))
   ·exact L
  ·rcases hW r hr with⟨h,_⟩|⟨u,hu,k⟩
   ·exact s.fro _ (.inr h)
   ·exact k.to L (s.fro _ (.inr hu))
theorem Sw.done(s:Sw n n O D W)(ow:∀ w∈W,∀ j,n<=j->w j=0)(od:∀ p∈D,∀ j,n<=j->p.2 j=0):Rr n (D.map fun p=>(p.1,fun j=>p.2 j / p.2 p.1)) /\
  (∀ v,Span (Rows (D.map fun p=>(p.1,fun j=>p.2 j / p.2 p.1))) v->Span O v)/\(∀ v,Span O v->Span (Rows (D.map fun p=>(p.1,fun j=>p.2 j / p.2 p.1))) v):=by
 have wz:∀ w∈W,∀ j,w j=0:=fun w hw j=>by
  rcases wK j n with g|g
  ·exact s.nil w hw j g
  ·exact ow w hw j g
 refine⟨⟨?_,fun q hq=>?_,fun q hq j hj=>?_,fun q hq j hj=>?_,fun q hq=>?_,fun q hq q' hq' ne=>?_⟩,fun v hv=>?_,fun v hv=>?_⟩
 ·rw[uQ];exact s.inc
 ·obtain⟨p,hp,rfl⟩:=wg.mp hq;exact s.lt p hp
 ·obtain⟨p,hp,rfl⟩:=wg.mp hq;show p.2 j / p.2 p.1=0;rw[od p hp j hj];grind
 ·obtain⟨p,hp,rfl⟩:=wg.mp hq;show p.2 j / p.2 p.1=0;rw[s.bef p hp j hj];grind
 ·obtain⟨p,hp,rfl⟩:=wg.mp hq;show p.2 p.1 / p.2 p.1=1;have:=s.one p hp
  grind
 ·obtain⟨p,hp,rfl⟩:=wg.mp hq;obtain⟨p',hp',rfl⟩:=wg.mp hq';show p.2 p'.1 / p.2 p.1=0;rw[s.oth p hp p' hp' ne];grind
 ·refine hv.bind fun r ⟨q,hq,e⟩=>?_
  obtain⟨p,hp,rfl⟩:=wg.mp hq;rw[← e];exact((s.fro p.2 (.inl ⟨p,hp,rfl⟩)).smul (1 / p.2 p.1)).cast fun j=>by grind
 ·refine(hv.bind s.to).bind fun r hr=>?_
  rcases hr with⟨p,hp,rfl⟩|hr
  ·have:=s.one p hp;have h:Span (Rows (D.map fun p=>(p.1,fun j=>p.2 j / p.2 p.1))) (fun j=>p.2 j / p.2 p.1):=Span.of ⟨_,wg.mpr ⟨p,hp,rfl⟩,rfl⟩;exact(h.smul (p.2 p.1)).cast fun j=>by grind
  ·exact Span.zero.cast fun j=>(wz r hr j).symm
end
end La
namespace La
open Lean.Grind Nm
def ι{F:Type}[CommRing F](w:Int):F:=(Ring.intCast:IntCast F).intCast w
section
variable{F:Type}[CommRing F]
theorem ι_add(x y:Int):(ι (x+y):F)=ι x+ι y:=Ring.intCast_add x y
theorem ι_mul(x y:Int):(ι (x*y):F)=ι x*ι y:=Ring.intCast_mul x y
theorem ι_sub(x y:Int):(ι (x - y):F)=ι x - ι y:=Ring.intCast_sub x y
theorem ι_zero:(ι 0:F)=0:=Ring.intCast_zero
theorem ι_one:(ι 1:F)=1:=Ring.intCast_one
end
structure Kf(k:Int)(F:Type)[Field F] where
 to:Nb->F
 of:F->Nb
 ok:∀ x,(of x).ok k
 to_of:∀ x,to (of x)=x
 of_to:∀ x,x.ok k->of (to x)=x
 add:∀ {x y},x.ok k->y.ok k->to (nadd k x y)=to x+to y
 sub:∀ {x y},x.ok k->y.ok k->to (nsub k x y)=to x - to y
 mul:∀ {x y},x.ok k->y.ok k->to (nmul k x y)=to x*to y
 div:∀ {x y},x.ok k->y.ok k->y≠nnum k 0->to (ndiv k x y)=to x / to y
 num:∀ w:Int,to (nnum k w)=ι w
 zero:∀ w:Int,(ι w:F)=0↔k ∣ w
 rat:∀ r:Rat,k=0->to (.q r)*ι (r.den:Int)=ι r.num
 rest:∀ i:Int,k≠0->to (.z i)=ι i
def zpw{F:Type}[CommRing F](inv:F->F)(a:F):Int->F
 | .ofNat n=>a^n
 | .negSucc n=>inv (a^(n+1))
@[reducible] noncomputable def fieldOf {F:Type} [CommRing F] (h01:(0:F)≠1) (hinv:∀ a:F,∃ b:F,(a=0->b=0)/\(a≠0->a*b=1)):Field F :=
 have un:∀ a b c:F,a*b=1->a*c=1->b=c:=fun a b c h1 h2=>by
  have:b=b *(a*c):=by rw[h2];grind
  have:c=c *(a*b):=by rw[h1];grind
  grind
 let inv:F->F:=fun a=>Classical.choose (hinv a)
 have i0:∀ a,a=0->inv a=0:=fun a=>(GH (hinv a)).1
 have i1:∀ a,a≠0->a*inv a=1:=fun a=>(GH (hinv a)).2
 have ii:∀ a,inv (inv a)=a:=fun a=>by
  by_cases h:a=0
  ·rw[i0 a h,i0 0 rfl,h]
  ·have h':inv a≠0:=fun z=>by
    have:=i1 a h;rw[z]at this;exact h01 (by rw[← this];grind)
   have e1:=i1 a h;have e2:=i1 _ h';exact un (inv a) _ _ e2 (by rw[← e1];grind)
 letI:Inv F:=⟨inv⟩
 letI:Div F:=⟨fun a b=>a*inv b⟩
 letI:HPow F Int F:=⟨zpw inv⟩
 {zpow:=⟨zpw inv⟩
  div_eq_mul_inv:=fun a b=>rfl
  zero_ne_one:=h01
  inv_zero:=i0 0 rfl
  mul_inv_cancel:=fun {a} h=>i1 a h
  zpow_zero:=fun a=>Semiring.pow_zero a
  zpow_succ:=fun a n=>Semiring.pow_succ a n
  zpow_neg:=fun a n=>by
   show zpw inv a (-n)=inv (zpw inv a n)
   match n with
   | .ofNat 0 =>
    show a^0=inv (a^0);rw[Semiring.pow_zero];have:=i1 1 (Ne.symm h01);exact un 1 _ _ (by grind) this
   | .ofNat (m+1)=>rfl
   | .negSucc m =>
    show a^(m+1)=inv (inv (a^(m+1)));rw[ii] }
def kfRat:Kf 0 Rat where
 to:=fun x=>match x with | .q r=>r | .z _=>0
 of:=.q
 ok:=fun _=>rfl
 to_of:=fun _=>rfl
 of_to:=fun x h=>by cases x with
  | q r=>rfl
  | z i=>exact absurd rfl h.1
 add:=fun {x y} hx hy=>by
  cases x with
  | z i=>exact absurd rfl hx.1
  | q r=>cases y with
   | z i=>exact absurd rfl hy.1
   | q s=>rfl
 sub:=fun {x y} hx hy=>by
  cases x with
  | z i=>exact absurd rfl hx.1
  | q r=>cases y with
   | z i=>exact absurd rfl hy.1
   | q s=>rfl
 mul:=fun {x y} hx hy=>by
  cases x with
  | z i=>exact absurd rfl hx.1
  | q r=>cases y with
   | z i=>exact absurd rfl hy.1
   | q s=>rfl
 div:=fun {x y} hx hy _=>by
  cases x with
  | z i=>exact absurd rfl hx.1
  | q r=>cases y with
   | z i=>exact absurd rfl hy.1
   | q s=>rfl
 num:=fun w=>rfl
 zero:=fun w=>by
  rw[Gw];exact uo
 rat:=fun r _=>by
  show r *((r.den:Int):Rat) =((r.num:Int):Rat);have e:vB r.num r.den*vB (r.den:Int) 1=vB r.num 1:=by
   rw[GF,Gk (by have:=jf r;omega) (by decide)]
   grind
  have o:∀ a:Int,vB a 1 =(a:Rat):=fun a=>by
   rw[wai];show(a:Rat) / 1=a
   grind
  rw[gm,o,o]at e;exact e
 rest:=fun i h=>absurd rfl h
theorem zda{F:Type}[Field F]{a b z:F}(h:z*b=1):a*z=a / b:=by
 have n:b≠0:=fun e=>by rw[e]at h;grind
 grind
section
variable{k:Int}{p:Nat}[NeZero p]
theorem zh6(hp:(p:Int)=k):(ι k:Fin p)=0:=by
 subst hp;show Fin.intCast (p:Int)=0;unfold Fin.intCast;rw[if_pos (uw p)];refine Fin.ext ?_;show(p:Int).natAbs % p=0 % p;simp
theorem zex(hp:(p:Int)=k){w:Int}(h:k ∣ w):(ι w:Fin p)=0:=by
 obtain⟨c,rfl⟩:=h;rw[ι_mul,zh6 hp];grind
theorem qO(hp:(p:Int)=k){a b:Int}(h:k ∣ a - b):(ι a:Fin p)=ι b:=by
 have:=zex hp h;rw[ι_sub]at this
 grind
theorem zen(hp:(p:Int)=k){i:Int}(h0:0<=i)(h1:i<k):((ι i:Fin p).val:Int)=i:=by
 show((Fin.intCast i:Fin p).val:Int)=i;unfold Fin.intCast;rw[if_pos h0];show((i.natAbs % p:Nat):Int)=i;rw[gA (by omega)];omega
theorem fin_ι(x:Fin p):(ι (x.val:Int):Fin p)=x:=by
 show(Fin.intCast (x.val:Int):Fin p)=x;unfold Fin.intCast;rw[if_pos (uw _)];refine Fin.ext ?_;show(x.val:Int).natAbs % p=x.val;rw[vH,gA x.isLt]
theorem zbo(hp:(p:Int)=k)(w:Int):(ι w:Fin p)=0↔k ∣ w:=by
 refine⟨fun h=>?_,zex hp⟩;have k0:0<k:=by have:=NeZero.ne p;omega
 have e:(ι w:Fin p)=ι (w % k):=qO hp ⟨w / k,by have:=uP w k;omega⟩;have v:=zen (p:=p) hp (gi w (by omega)) (uG w k0);rw[← e,h]at v;have:w % k=0:=by rw[← v];rfl
 exact Int.dvd_of_emod_eq_zero this
theorem zgX(h:Pr k)(hp:(p:Int)=k)(a:Fin p):∃ b:Fin p,(a=0->b=0)/\(a≠0->a*b=1):=by
 by_cases z:a=0
 ·exact⟨0,fun _=>rfl,fun n=>absurd z n⟩
 ·have a0:0 <(a.val:Int):=by
   have:a.val≠0:=fun e=>z (Fin.ext e)
   omega
  obtain⟨x,x0,xk,hx⟩:=XY h a0 (by have:=a.isLt;omega);refine⟨ι x,fun e=>absurd e z,fun _=>?_⟩;have:=qO (p:=p) hp hx;rw[ι_mul,fin_ι,ι_one]at this
  grind
theorem zhv(h:Pr k)(hp:(p:Int)=k):(0:Fin p)≠1:=fun e=>by
 have:(ι 1:Fin p)=0:=by rw[ι_one];exact e.symm
 have:=(zbo hp 1).mp this;have:=GO (by decide) this;have:=h.lo;omega
@[reducible] noncomputable def fieldFin (h:Pr k) (hp:(p:Int)=k):Field (Fin p):=fieldOf (zhv h hp) (zgX h hp)
def kfFin(h:Pr k)(hp:(p:Int)=k) : @Kf k (Fin p) (fieldFin h hp) :=
 letI:=fieldFin h hp
 have k1:=h.lo;have k0:k≠0:=by omega
 have fm:∀ a:Int,(ι (a.fmod k):Fin p)=ι a:=fun a=>qO hp (ZJ k a)
 {to:=fun x=>match x with | .q _=>0 | .z i=>ι i
  of:=fun x=>.z x.val
  ok:=fun x=>⟨k0,uw _,by have:=x.isLt;omega⟩
  to_of:=fun x=>fin_ι x
  of_to:=fun x hx=>by cases x with
   | q r=>exact absurd hx k0
   | z i=>exact congrArg Nb.z (zen hp hx.2.1 hx.2.2)
  add:=fun {x y} hx hy=>by
   cases x with
   | q r=>exact absurd hx k0
   | z i=>cases y with
    | q s=>exact absurd hy k0
    | z j=>exact(fm _).trans (ι_add i j)
  sub:=fun {x y} hx hy=>by
   cases x with
   | q r=>exact absurd hx k0
   | z i=>cases y with
    | q s=>exact absurd hy k0
    | z j=>exact(fm _).trans (ι_sub i j)
  mul:=fun {x y} hx hy=>by
   cases x with
   | q r=>exact absurd hx k0
   | z i=>cases y with
    | q s=>exact absurd hy k0
    | z j=>exact(fm _).trans (ι_mul i j)
  div:=fun {x y} hx hy ne=>by
   cases x with
   | q r=>exact absurd hx k0
   | z i=>cases y with
    | q s=>exact absurd hy k0
    | z j =>
     have j0:j≠0:=fun z=>ne (by unfold nnum;rw[if_neg k0,z,GP])
     obtain⟨x,x0,xk,hx'⟩:=XY h (show 0<j by have:=hy.2.1;omega) hy.2.2;have e:=qO (p:=p) hp hx';rw[ι_mul,ι_one]at e;refine Eq.trans (b:=ι i*ι x) ?_ (zda e);show(ι ((i*zinv k j).fmod k):Fin p)=ι i*ι x;rw[fm,ι_mul,zdq x0 xk hx']
  num:=fun w=>by
   unfold nnum;rw[if_neg k0];exact fm w
  zero:=zbo hp
  rat:=fun r e=>absurd e k0
  rest:=fun i _=>rfl }
end
theorem yQ{k:Int}(h:kaa k):∃(F:Type)(inst:Field F)(dec:DecidableEq F),Nonempty (Kf k F):=by
 rcases h with rfl|h
 ·exact⟨Rat,inferInstance,inferInstance,⟨kfRat⟩⟩
 ·have k1:=h.lo;haveI:NeZero k.toNat:=⟨by omega⟩;have hp:((k.toNat:Nat):Int)=k:=by omega
  exact⟨Fin k.toNat,fieldFin h hp,inferInstance,⟨kfFin h hp⟩⟩
end La
namespace La
open Lean.Grind Nm
section
variable{k:Int}{F:Type}[Field F]
def fv(ws:List Int):Nat->F:=fun j=>ι (ws.getD j 0)
theorem zbq{ws:List Int}{j:Nat}(h:ws.length<=j):(fv ws j:F)=0:=by
 unfold fv;rw[wc,wN h];exact ι_zero
def Nf(k:Int)(ws:List Int):Prop:=k≠0->∀ w∈ws,0<=w/\w<k
theorem Yn(φ:Kf k F){ws:List Int}(h:Nf k ws)(j:Nat):(fv ws j:F)=0↔ws.getD j 0=0:=by
 unfold fv;rw[φ.zero]
 constructor
 ·intro d
  by_cases k0:k=0
  ·rw[k0,Gw]at d;exact d
  ·have hw:0<=ws.getD j 0/\ws.getD j 0<k:=by
    rcases wK j ws.length with g|g
    ·rw[wc,wb g];exact h k0 _ (wj g)
    ·rw[wc,wN g];refine⟨Int.le_refl _,?_⟩;show 0<k;have n:0<=k:=by
      rcases uU k 0 with z|z
      ·exfalso
       have:=φ.ok (φ.to (.z 0));generalize φ.of (φ.to (.z 0))=x at this;cases x with
       | q r=>exact k0 this
       | z i=>obtain⟨_,i0,i1⟩:=this;omega
      ·exact z
     omega
   obtain⟨c,hc⟩:=d
   rcases waj c 0 with g|g|g
   ·have:k*c<=k *(-1):=ug (by omega) (by omega);omega
   ·rw[hc,g,waa]
   ·have:k*1<=k*c:=ug (by omega) (by omega);omega
 ·intro e;rw[e];exact GY k
def gcdL(ws:List Int):Nat:=ws.foldl (fun d w=>gR d w.natAbs) 0
theorem jQ:∀(ws:List Int)(d:Nat),(ws.foldl (fun d w=>gR d w.natAbs) d ∣ d)/\∀ w∈ws,((ws.foldl (fun d w=>gR d w.natAbs) d:Nat):Int) ∣ w
 | [],d=>⟨Nat.dvd_refl d,fun w h=>nomatch h⟩
 | x::ws,d=>by
  obtain⟨h1,h2⟩:=jQ ws (gR d x.natAbs);refine⟨GQ h1 (Nat.gcd_dvd_left _ _),fun w hw=>?_⟩
  rcases wF.mp hw with e|hw
  ·rw[e];exact Int.ofNat_dvd_left.mpr (GQ h1 (Nat.gcd_dvd_right _ _))
  ·exact h2 w hw
theorem zbv{ws:List Int}{w:Int}(h:w∈ws):((gcdL ws:Nat):Int) ∣ w:=(jQ ws 0).2 w h
def kaj(k:Int)(ws:List Int):List Int:=if k≠0 then ws.map (·.fmod k)else if gcdL ws=0 then ws else ws.map fun w=>w.fdiv ((gcdL ws:Nat):Int)
theorem XC(ws:List Int):(kaj k ws).length=ws.length:=by
 unfold kaj;split
 ·exact wa _
 ·split
  ·rfl
  ·exact wa _
theorem Qo(k0:0<=k)(ws:List Int):Nf k (kaj k ws):=fun h w hw=>by
 unfold kaj at hw;rw[if_pos h]at hw;obtain⟨x,_,rfl⟩:=wg.mp hw;exact⟨wx x (by omega),wH x (by omega)⟩
theorem zbA{α β:Type}(f:α->β)(a:α)(b:β)(h:f a=b)(l:List α)(j:Nat):(l.map f).getD j b=f (l.getD j a):=by
 rw[wc,wc,we,← h];cases l[j]? <;> rfl
theorem jE{w d:Int}(h:d ∣ w)(hd:d≠0):w.fdiv d*d=w:=by
 rw[vE h];exact uq h
theorem Yq(φ:Kf k F)(ws:List Int):∃ a:F,a≠0/\∀ j,fv (kaj k ws) j=a*fv ws j:=by
 have one:(1:F)≠0:=fun e=>Field.zero_ne_one e.symm
 unfold kaj
 split
 ·rename_i h;refine⟨1,one,fun j=>?_⟩;unfold fv;rw[zbA (fun w:Int=>w.fmod k) 0 0 (GP k)];have d:=(φ.zero _).mpr (ZJ k (ws.getD j 0));rw[ι_sub]at d
  grind
 ·rename_i h;have k0:k=0:=gf fun z=>h z
  split
  ·exact⟨1,one,fun j=>by grind⟩
  ·rename_i g;have gn:(ι ((gcdL ws:Nat):Int):F)≠0:=fun z=>by
    rw[φ.zero,k0,Gw]at z;omega
   refine⟨1 / ι ((gcdL ws:Nat):Int),fun z=>?_,fun j=>?_⟩
   ·have:ι ((gcdL ws:Nat):Int) *(1 / ι ((gcdL ws:Nat):Int)) =(1:F):=by grind
    rw[z]at this;exact one (by rw[← this];grind)
   ·unfold fv;rw[zbA (fun w:Int=>w.fdiv ((gcdL ws:Nat):Int)) 0 0 (Int.zero_fdiv _)];have dv:((gcdL ws:Nat):Int) ∣ ws.getD j 0:=by
     rcases wK j ws.length with z|z
     ·rw[wc,wb z];exact zbv (wj z)
     ·rw[wc,wN z];exact GY _
    have e:=jE dv (by omega);have e2:(ι ((ws.getD j 0).fdiv ((gcdL ws:Nat):Int)):F)*ι ((gcdL ws:Nat):Int)=ι (ws.getD j 0):=by rw[← ι_mul,e]
    grind
def mixed(row lead:List Int)(c:Nat):List Int:=vC (fun l r=>lead.getD c 0*l - row.getD c 0*r) row lead
def kaf(k:Int)(lead:List Int)(c:Nat)(row:List Int):List Int:=if row.getD c 0=0 then row else kaj k (mixed row lead c)
theorem jM{row lead:List Int}(h:row.length=lead.length)(c:Nat):(mixed row lead c).length=row.length:=by
 unfold mixed;rw[ve];omega
theorem xL{row lead:List Int}(h:row.length=lead.length)(c:Nat):(kaf k lead c row).length=row.length:=by
 unfold kaf;split
 ·rfl
 ·rw[XC,jM h]
theorem XN{row lead:List Int}(h:row.length=lead.length)(c j:Nat):(mixed row lead c).getD j 0=lead.getD c 0*row.getD j 0 - row.getD c 0*lead.getD j 0:=by
 rcases wK j row.length with g|g
 ·have g2:j<lead.length:=by omega
  unfold mixed;rw[wc,vR,wb g,wb g2];show lead.getD c 0*row[j] - row.getD c 0*lead[j]=_;simp[wc,wb g,wb g2]
 ·have g2:lead.length<=j:=by omega
  have g3:(mixed row lead c).length<=j:=by rw[jM h];exact g
  simp[wc,wN g,wN g2,wN g3]
theorem YB(k0:0<=k){row lead:List Int}(c:Nat)(h:Nf k row):Nf k (kaf k lead c row):=by
 unfold kaf;split
 ·exact h
 ·exact Qo k0 _
theorem QU(φ:Kf k F){row lead:List Int}(h:row.length=lead.length){c:Nat}(lc:(fv lead c:F)≠0):Clr c (fv lead:Nat->F) (fv row) (fv (kaf k lead c row)):=by
 unfold kaf;have one:(1:F)≠0:=fun e=>Field.zero_ne_one e.symm
 split
 ·rename_i z;refine⟨⟨1,0,one,fun j=>by grind⟩,?_⟩;show ι (row.getD c 0)=0;rw[z];exact ι_zero
 ·obtain⟨a,ha,e⟩:=Yq φ (mixed row lead c);have m:∀ j,(fv (mixed row lead c) j:F)=fv lead c*fv row j - fv row c*fv lead j:=fun j=>by
   unfold fv;rw[XN h,ι_sub,ι_mul,ι_mul]
  refine⟨⟨a*fv lead c,-(a*fv row c),fun z=>?_,fun j=>?_⟩,?_⟩
  ·grind
  ·rw[e j,m j];grind
  ·rw[e c,m c];grind
def kal(k:Int)(c:Nat)(s:List (Nat×List Int)×List (List Int)):List (Nat×List Int)×List (List Int) :=
 match s.2.filter (fun r=>decide (r.getD c 0≠0))with
 | []=>s
 | l::rest=>(s.1.map (fun p=>(p.1,kaf k l c p.2))++[(c,l)],s.2.filter (fun r=>decide (r.getD c 0=0))++rest.map (kaf k l c))
def swTo(k:Int)(rows:List (List Int)):Nat->List (Nat×List Int)×List (List Int)
 | 0=>([],rows.map (kaj k))
 | c+1=>kal k c (swTo k rows c)
structure Fine(k:Int)(n:Nat)(s:List (Nat×List Int)×List (List Int)):Prop where
 dl:∀ p∈s.1,p.2.length=n
 wl:∀ w∈s.2,w.length=n
 df:∀ p∈s.1,Nf k p.2
 wf:∀ w∈s.2,Nf k w
theorem Fine.turn{n c:Nat}{s:List (Nat×List Int)×List (List Int)}(k0:0<=k)(h:Fine k n s):Fine k n (kal k c s):=by
 unfold kal;cases e:s.2.filter (fun r=>decide (r.getD c 0≠0))with
 | nil=>exact h
 | cons l rest =>
  have sub:∀ r∈l::rest,r∈s.2:=fun r hr=>by rw[← e]at hr;exact(vn.mp hr).1
  have hl:=sub l wk;refine⟨fun p hp=>?_,fun w hw=>?_,fun p hp=>?_,fun w hw=>?_⟩
  ·rcases wt.mp hp with hp|hp
   ·obtain⟨q,hq,rfl⟩:=wg.mp hp;show(kaf k l c q.2).length=n;rw[xL (by rw[h.dl q hq,h.wl l hl]),h.dl q hq]
   ·rw[wm.mp hp];exact h.wl l hl
  ·rcases wt.mp hw with hw|hw
   ·exact h.wl w (vn.mp hw).1
   ·obtain⟨q,hq,rfl⟩:=wg.mp hw;have:=h.wl q (sub q (wo _ hq));rw[xL (by rw[this,h.wl l hl]),this]
  ·rcases wt.mp hp with hp|hp
   ·obtain⟨q,hq,rfl⟩:=wg.mp hp;exact YB k0 c (h.df q hq)
   ·rw[wm.mp hp];exact h.wf l hl
  ·rcases wt.mp hw with hw|hw
   ·exact h.wf w (vn.mp hw).1
   ·obtain⟨q,hq,rfl⟩:=wg.mp hw;exact YB k0 c (h.wf q (sub q (wo _ hq)))
theorem Fine.to{n:Nat}{rows:List (List Int)}(k0:0<=k)(h:∀ r∈rows,r.length=n):∀ c,Fine k n (swTo k rows c)
 | 0=>by
  refine⟨fun p hp=>(nomatch hp),fun w hw=>?_,fun p hp=>(nomatch hp),fun w hw=>?_⟩
  ·obtain⟨r,hr,rfl⟩:=wg.mp hw;rw[XC,h r hr]
  ·obtain⟨r,hr,rfl⟩:=wg.mp hw;exact Qo k0 r
 | c+1=>(Fine.to k0 h c).turn k0
def inF(D:List (Nat×List Int)):List (Pv F):=D.map fun p=>(p.1,fv p.2)
theorem zhb(φ:Kf k F)(k0:0<=k){n:Nat}{rows:List (List Int)}(h:∀ r∈rows,r.length=n):∀ c,Sw n c (fun v=>∃ r∈rows,v =(fv r:Nat->F)) (inF (swTo k rows c).1) ((swTo k rows c).2.map fv)
 | 0=>by
  refine zfd n _ _ (fun v ⟨r,hr,e⟩=>?_) fun v hv=>?_
  ·obtain⟨a,ha,q⟩:=Yq φ r;have hm:(fv (kaj k r):Nat->F)∈(swTo k rows 0).2.map fv:=wg.mpr ⟨_,wg.mpr ⟨r,hr,rfl⟩,rfl⟩;have hs:Span (fun v=>v∈(swTo k rows 0).2.map fv) (fv (kaj k r):Nat->F):=.of hm;exact(hs.smul (1 / a)).cast fun j=>by rw[e,q j];grind
  ·obtain⟨w,hw,rfl⟩:=wg.mp hv;obtain⟨r,hr,rfl⟩:=wg.mp hw;obtain⟨a,ha,q⟩:=Yq φ r;have hs:Span (fun v=>∃ r∈rows,v =(fv r:Nat->F)) (fv r):=.of ⟨r,hr,rfl⟩;exact(hs.smul a).cast fun j=>(q j).symm
 | c+1=>by
  have ih:=zhb φ k0 h c;have fine:=Fine.to k0 h c;show Sw n (c+1) _ (inF (kal k c (swTo k rows c)).1) ((kal k c (swTo k rows c)).2.map fv);generalize swTo k rows c=s at ih fine;have zr:∀ r∈s.2,((fv r c:F)=0↔r.getD c 0=0):=fun r hr=>Yn φ (fine.wf r hr) c
  unfold kal;cases e:s.2.filter (fun r=>decide (r.getD c 0≠0))with
  | nil =>
   refine ih.skip fun w hw=>?_
   obtain⟨r,hr,rfl⟩:=wg.mp hw;rw[zr r hr];refine gf fun z=>?_
   have:r∈s.2.filter (fun r=>decide (r.getD c 0≠0)):=vn.mpr ⟨hr,by simpa using z⟩;rw[e]at this;exact nomatch this
  | cons l rest =>
   have mem:∀ r∈l::rest,r∈s.2/\r.getD c 0≠0:=fun r hr=>by
    rw[← e]at hr;obtain⟨h1,h2⟩:=vn.mp hr;exact⟨h1,by simpa using h2⟩
   obtain⟨hl,lz⟩:=mem l wk;have lc:(fv l c:F)≠0:=fun z=>lz ((zr l hl).mp z)
   have ll:=fine.wl l hl;have cl:∀ r,r.length=n->Clr c (fv l:Nat->F) (fv r) (fv (kaf k l c r)):=fun r hr=>QU φ (by rw[hr,ll]) lc
   show Sw n (c+1) _ (inF (s.1.map (fun p=>(p.1,kaf k l c p.2))++[(c,l)])) ((s.2.filter (fun r=>decide (r.getD c 0=0))++rest.map (kaf k l c)).map fv);have e1:(inF (s.1.map (fun p=>(p.1,kaf k l c p.2))++[(c,l)]):List (Pv F))=s.1.map (fun p=>(p.1,fv (kaf k l c p.2)))++[(c,fv l)]:=by
    unfold inF;rw[wu,vO];rfl
   rw[e1];refine Sw.turn (E:=s.1) (a:=fun p=>(p.1,fv p.2)) (b:=fun p=>(p.1,fv (kaf k l c p.2))) ih (wg.mpr ⟨l,hl,rfl⟩) lc (fun p hp=>⟨rfl,cl p.2 (fine.dl p hp)⟩) (fun w hw=>?_) (fun w hw=>?_)
   ·obtain⟨r,hr,rfl⟩:=wg.mp hw
    rcases wt.mp hr with hr|hr
    ·obtain⟨h1,h2⟩:=vn.mp hr;exact .inl ⟨wg.mpr ⟨r,h1,rfl⟩,(zr r h1).mpr (by simpa using h2)⟩
    ·obtain⟨q,hq,rfl⟩:=wg.mp hr;have hq2:=(mem q (wo _ hq)).1;exact .inr ⟨fv q,wg.mpr ⟨q,hq2,rfl⟩,cl q (fine.wl q hq2)⟩
   ·obtain⟨r,hr,rfl⟩:=wg.mp hw
    by_cases z:r.getD c 0=0
    ·exact .inl (wg.mpr ⟨r,wP _ (vn.mpr ⟨hr,by simpa using z⟩),rfl⟩)
    ·have hm:r∈l::rest:=by rw[← e];exact vn.mpr ⟨hr,by simpa using z⟩
     rcases wF.mp hm with q|q
     ·exact .inr (.inl (by rw[q]))
     ·exact .inr (.inr ⟨_,wg.mpr ⟨_,wE _ (wg.mpr ⟨r,q,rfl⟩),rfl⟩,cl r (fine.wl r hr)⟩)
abbrev RmI(F:Type)[Field F](rows:List (List Int)):(Nat->F)->Prop:=fun v=>∃ r∈rows,v=fv r
theorem zeX(φ:Kf k F)(k0:0<=k){n:Nat}{rows:List (List Int)}(h:∀ r∈rows,r.length=n) :
  Rr n ((swTo k rows n).1.map fun p=>(p.1,fun j=>(fv p.2 j / fv p.2 p.1:F))) /\
  (∀ v,Span (Rows ((swTo k rows n).1.map fun p=>(p.1,fun j=>(fv p.2 j / fv p.2 p.1:F)))) v->Span (RmI F rows) v)/\(∀ v,Span (RmI F rows) v->Span (Rows ((swTo k rows n).1.map fun p=>(p.1,fun j=>(fv p.2 j / fv p.2 p.1:F)))) v):=by
 have s:=zhb φ k0 h n;have fine:=Fine.to k0 h n;have d:=s.done (fun w hw j hj=>by
  obtain⟨r,hr,rfl⟩:=wg.mp hw;exact zbq (by rw[fine.wl r hr];exact hj)) (fun p hp j hj=>by
  obtain⟨q,hq,rfl⟩:=wg.mp hp;exact zbq (by rw[fine.dl q hq];exact hj))
 have e:((inF (swTo k rows n).1:List (Pv F)).map fun p=>(p.1,fun j=>p.2 j / p.2 p.1)) =(swTo k rows n).1.map fun p=>(p.1,fun j=>(fv p.2 j / fv p.2 p.1:F)):=by
  unfold inF;rw[vO];rfl
 rw[e]at d;exact d
theorem qj(φ:Kf k F)(k0:0<=k){n:Nat}{rows:List (List Int)}(h:∀ r∈rows,r.length=n){p:Nat×List Int}(hp:p∈(swTo k rows n).1) :
  p.1<n/\p.2.length=n/\p.2.getD p.1 0≠0/\∀ j,j<p.1->p.2.getD j 0=0:=by
 have s:=zhb φ k0 h n;have fine:=Fine.to k0 h n;have hm:((p.1,fv p.2):Pv F)∈inF (swTo k rows n).1:=wg.mpr ⟨p,hp,rfl⟩;have z:=fun j=>Yn φ (fine.df p hp) j
 exact⟨s.lt _ hm,fine.dl p hp,fun e=>s.one _ hm ((z p.1).mpr e),fun j hj=>(z j).mp (s.bef _ hm j hj)⟩
end
end La
namespace La
open Lean.Grind Nm
section
variable{k:Int}{F:Type}[Field F]
theorem yg(h:kaa k)(w:Int):(nnum k w).ok k:=by
 unfold nnum
 split
 ·assumption
 ·rename_i n;have:=h.lt;exact⟨n,wx w (by omega),wH w (by omega)⟩
def OkR(k:Int)(xs:List Nb):Prop:=∀ x∈xs,x.ok k
def nv(φ:Kf k F)(xs:List Nb):Nat->F:=fun j=>φ.to (xs.getD j (nnum k 0))
theorem Kf.num0(φ:Kf k F):φ.to (nnum k 0)=0:=by rw[φ.num];exact ι_zero
theorem Kf.num1(φ:Kf k F):φ.to (nnum k 1)=1:=by rw[φ.num];exact ι_one
theorem Kf.inj(φ:Kf k F){x y:Nb}(hx:x.ok k)(hy:y.ok k)(h:φ.to x=φ.to y):x=y:=by rw[← φ.of_to x hx,← φ.of_to y hy,h]
theorem Kf.zero_iff(φ:Kf k F)(hk:kaa k){x:Nb}(hx:x.ok k):φ.to x=0↔x=nnum k 0 :=
 ⟨fun h=>φ.inj hx (yg hk 0) (by rw[h,φ.num0]),fun h=>by rw[h,φ.num0]⟩
theorem yC(φ:Kf k F){xs:List Nb}{j:Nat}(h:xs.length<=j):nv φ xs j=0:=by
 unfold nv;rw[wc,wN h];exact φ.num0
theorem ym(φ:Kf k F){xs:List Nb}{j:Nat}{x:Nb}(h:xs[j]?=some x):nv φ xs j=φ.to x:=by
 unfold nv;rw[wc,h];rfl
theorem zet(φ:Kf k F){xs ys:List Nb}(hx:OkR k xs)(hy:OkR k ys)(hl:xs.length=ys.length)(h:∀ j,nv φ xs j=nv φ ys j):xs=ys:=by
 refine uE hl fun j h1 h2=>?_
 have e:=h j;rw[ym φ (wb h1),ym φ (wb h2)]at e;exact φ.inj (hx _ (wj h1)) (hy _ (wj h2)) e
def dot:Nat->(Nat->F)->(Nat->F)->F
 | 0,_,_=>0
 | n+1,u,v=>dot n u v+u n*v n
theorem yn{n:Nat}{u u' v v':Nat->F}(h:∀ j,j<n->u j*v j=u' j*v' j):dot n u v=dot n u' v':=by
 induction n with
 | zero=>rfl
 | succ n ih=>simp only[dot];rw[ih fun j hj=>h j (by omega),h n (by omega)]
theorem Ji(a:F)(n:Nat)(u v:Nat->F):dot n (fun j=>a*u j) v=a*dot n u v:=by
 induction n with
 | zero=>simp only[dot];grind
 | succ n ih=>simp only[dot];rw[ih];grind
theorem zd8(n:Nat)(u u' v:Nat->F):dot n (fun j=>u j+u' j) v=dot n u v+dot n u' v:=by
 induction n with
 | zero=>simp only[dot];grind
 | succ n ih=>simp only[dot];rw[ih];grind
theorem yO(n:Nat)(u v:Nat->F):dot n u v=dot n v u:=yn fun j _=>by grind
theorem qQ(n:Nat)(u v:Nat->F)(h:∀ j,j<n->u j*v j=0):dot n u v=0:=by
 induction n with
 | zero=>rfl
 | succ n ih=>simp only[dot];rw[ih fun j hj=>h j (by omega),h n (by omega)];grind
def ndotF(k:Int)(l:List (Nb×Nb)):Nb:=l.foldl (fun s p=>nadd k s (nmul k p.1 p.2)) (nnum k 0)
def ndot(k:Int)(xs ys:List Nb):Nb:=ndotF k (xs.zip ys)
theorem YV{x y:Nb}(hk:kaa k)(hx:x.ok k)(hy:y.ok k):(nadd k x y).ok k:=by
 have hl:=hk.lt;cases x with
 | q r=>cases y with
  | q s=>exact hx
  | z j=>exact absurd (show k=0 from hx) hy.1
 | z i=>cases y with
  | q s=>exact absurd (show k=0 from hy) hx.1
  | z j=>exact⟨hx.1,wx _ (by have:=hx.1;omega),wH _ (by have:=hx.1;omega)⟩
theorem yD{x y:Nb}(hk:kaa k)(hx:x.ok k)(hy:y.ok k):(nmul k x y).ok k:=by
 have hl:=hk.lt;cases x with
 | q r=>cases y with
  | q s=>exact hx
  | z j=>exact absurd (show k=0 from hx) hy.1
 | z i=>cases y with
  | q s=>exact absurd (show k=0 from hy) hx.1
  | z j=>exact⟨hx.1,wx _ (by have:=hx.1;omega),wH _ (by have:=hx.1;omega)⟩
theorem zdp{x y:Nb}(hk:kaa k)(hx:x.ok k)(hy:y.ok k):(ndiv k x y).ok k:=by
 have hl:=hk.lt;cases x with
 | q r=>cases y with
  | q s=>exact hx
  | z j=>exact absurd (show k=0 from hx) hy.1
 | z i=>cases y with
  | q s=>exact absurd (show k=0 from hy) hx.1
  | z j=>exact⟨hx.1,wx _ (by have:=hx.1;omega),wH _ (by have:=hx.1;omega)⟩
theorem Zp(l:List (Nb×Nb))(p:Nb×Nb):ndotF k (l++[p])=nadd k (ndotF k l) (nmul k p.1 p.2):=by
 unfold ndotF;rw[Gf];rfl
theorem Yh(hk:kaa k):∀(l:List (Nb×Nb)),(∀ p∈l,p.1.ok k/\p.2.ok k)->(ndotF k l).ok k:=by
 intro l;unfold ndotF;have go:∀(l:List (Nb×Nb))(s:Nb),s.ok k->(∀ p∈l,p.1.ok k/\p.2.ok k)->(l.foldl (fun s p=>nadd k s (nmul k p.1 p.2)) s).ok k:=by
  intro l
  induction l with
  | nil=>intro s hs _;exact hs
  | cons p l ih=>intro s hs h;exact ih _ (YV hk hs (yD hk (h p wk).1 (h p wk).2)) fun q hq=>h q (wo _ hq)
 exact fun h=>go l _ (yg hk 0) h
theorem zfQ{xs ys:List Nb}(hx:OkR k xs)(hy:OkR k ys):∀ p∈xs.zip ys,p.1.ok k/\p.2.ok k:=fun p hp=>by
 obtain⟨a,b⟩:=p;obtain⟨h1,h2⟩:=wZ hp;exact⟨hx _ h1,hy _ h2⟩
theorem xH(hk:kaa k){xs ys:List Nb}(hx:OkR k xs)(hy:OkR k ys):(ndot k xs ys).ok k:=Yh hk _ (zfQ hx hy)
theorem zam(φ:Kf k F)(hk:kaa k){xs ys:List Nb}(hx:OkR k xs)(hy:OkR k ys)(hl:xs.length=ys.length):∀ i,i<=xs.length->φ.to (ndotF k ((xs.zip ys).take i))=dot i (nv φ xs) (nv φ ys)
 | 0,_=>by
  show φ.to (nnum k 0)=0;exact φ.num0
 | i+1,h=>by
  have h1:i<xs.length:=h;have h2:i<ys.length:=by omega
  have hz:i <(xs.zip ys).length:=by rw[uh];omega
  rw[vN hz,Zp,waq];have ih:=zam φ hk hx hy hl i (by omega);have o1:=hx _ (wj h1);have o2:=hy _ (wj h2);rw[φ.add (Yh hk _ fun p hp=>zfQ hx hy p (vG hp)) (yD hk o1 o2),ih,φ.mul o1 o2];simp only[dot];rw[ym φ (wb h1),ym φ (wb h2)]
theorem xE(φ:Kf k F)(hk:kaa k){xs ys:List Nb}(hx:OkR k xs)(hy:OkR k ys)(hl:xs.length=ys.length):φ.to (ndot k xs ys)=dot xs.length (nv φ xs) (nv φ ys):=by
 have h:=zam φ hk hx hy hl xs.length (ww _);rw[wv (by rw[uh];omega)]at h;exact h
def scW(b:Int):Nb->Int
 | .q r=>r.num*b.fdiv (r.den:Int)
 | .z i=>i
def dvB(b:Int):Nb->Prop
 | .q r=>(r.den:Int) ∣ b
 | .z _=>True
structure Scl(k:Int)(xs:List Nb)(ws:List Int)(b:Int):Prop where
 eq:ws=xs.map (scW b)
 pos:0<b
 one:k≠0->b=1
 dv:∀ x∈xs,dvB b x
theorem Scl.len{xs:List Nb}{ws:List Int}{b:Int}(s:Scl k xs ws b):ws.length=xs.length:=by rw[s.eq,wa]
theorem Scl.ne(φ:Kf k F)(hk:kaa k){xs:List Nb}{ws:List Int}{b:Int}(s:Scl k xs ws b):(ι b:F)≠0:=fun z=>by
 rw[φ.zero]at z
 by_cases k0:k=0
 ·rw[k0,Gw]at z;have:=s.pos;omega
 ·rw[s.one k0]at z;have:=GO (by decide) z
  rcases hk with h|h
  ·exact k0 h
  ·have:=h.lo;omega
theorem zhD(φ:Kf k F){b:Int}(one:k≠0->b=1){x:Nb}(hx:x.ok k)(dv:dvB b x):(ι (scW b x):F)=φ.to x*ι b:=by
 cases x with
 | q r =>
  have k0:k=0:=hx;have e:=φ.rat r k0;have d:(r.den:Int) ∣ b:=dv;have e2:=jE d (jf r);show(ι (r.num*b.fdiv (r.den:Int)):F)=_;rw[ι_mul,← e];have e3:(ι (b.fdiv (r.den:Int)):F)*ι (r.den:Int)=ι b:=by rw[← ι_mul,e2]
  grind
 | z i =>
  have k0:k≠0:=hx.1;rw[φ.rest i k0,one k0,ι_one];show(ι i:F)=_
  grind
theorem Scl.fv(φ:Kf k F){xs:List Nb}{ws:List Int}{b:Int}(s:Scl k xs ws b)(hx:OkR k xs)(j:Nat):(La.fv ws j:F)=nv φ xs j*ι b:=by
 rcases wK j xs.length with g|g
 ·have e:ws[j]?=some (scW b xs[j]):=by rw[s.eq,we,wb g];rfl
  rw[ym φ (wb g),← zhD φ s.one (hx _ (wj g)) (s.dv _ (wj g))];unfold La.fv;rw[wc,e];rfl
 ·rw[yC φ g,zbq (by rw[s.len];exact g)];grind
theorem zgS(n:Nat){ws vs:List Int}(h1:ws.length=n)(h2:vs.length=n):(ι (vC (·*·) ws vs).sum:F)=dot n (fv ws) (fv vs):=by
 have go:∀ i,i<=n->(ι ((vC (·*·) ws vs).take i).sum:F)=dot i (fv ws) (fv vs):=by
  intro i
  induction i with
  | zero=>intro _;rw[List.take_zero,waN];exact ι_zero
  | succ i ih =>
   intro hi;have hz:i <(vC (·*·) ws vs).length:=by rw[ve];omega
   rw[vN hz,way,ι_add,ih (by omega),uC];simp only[dot];have e1:(fv ws i:F)=ι (ws[i]'(by omega)):=by unfold fv;rw[wc,wb (by omega)];rfl
   have e2:(fv vs i:F)=ι (vs[i]'(by omega)):=by unfold fv;rw[wc,wb (by omega)];rfl
   rw[e1,e2,← ι_mul];simp
 have:=go n (ww _);rw[wv (by rw[ve];omega)]at this;exact this
theorem Jn(φ:Kf k F){b:Int}(h:(ι b:F)≠0):nnum k b≠nnum k 0:=fun z=>h (by rw[← φ.num,z,φ.num0])
theorem zhS(hk:kaa k){xs ys:List Nb}{ws vs:List Int}{b c:Int}(hl:xs.length=ys.length)(s1:Scl k xs ws b)(s2:Scl k ys vs c)(hx:OkR k xs)(hy:OkR k ys) :
  nnum k (b*c)≠nnum k 0/\ndiv k (nnum k (vC (·*·) ws vs).sum) (nnum k (b*c))=ndot k xs ys:=by
 obtain⟨F,_,_,⟨φ⟩⟩:=yQ hk;have n1:=s1.ne φ hk;have n2:=s2.ne φ hk;have n3:(ι (b*c):F)≠0:=fun z=>by rw[ι_mul]at z;grind
 have nn:=Jn φ n3;refine⟨nn,φ.inj (zdp hk (yg hk _) (yg hk _)) (xH hk hx hy) ?_⟩;rw[φ.div (yg hk _) (yg hk _) nn,φ.num,φ.num,xE φ hk hx hy hl,zgS xs.length s1.len (by rw[s2.len,hl]),ι_mul];have e:dot xs.length (La.fv ws) (La.fv vs) =(ι b*ι c)*dot xs.length (nv φ xs) (nv φ ys):=by
  rw[← Ji];exact yn fun j _=>by rw[s1.fv φ hx,s2.fv φ hy];grind
 rw[e];grind
def RmN(φ:Kf k F)(M:Tb):(Nat->F)->Prop:=fun v=>∃ r∈M,v=nv φ r
def OkM(k:Int)(n:Nat)(M:Tb):Prop:=∀ r∈M,r.length=n/\OkR k r
structure IsR(φ:Kf k F)(n:Nat)(R:Tb)(ls:List Nat):Prop where
 ok:OkM k n R
 len:ls.length=R.length
 rr:Rr n (ls.zip (R.map (nv φ)))
structure RedOf(φ:Kf k F)(n:Nat)(M R:Tb)(ls:List Nat):Prop extends IsR φ n R ls where
 to:∀ v,Span (RmN φ M) v->Span (RmN φ R) v
 fro:∀ v,Span (RmN φ R) v->Span (RmN φ M) v
theorem Ye{φ:Kf k F}{R:Tb}{ls:List Nat}(h:ls.length=R.length)(v:Nat->F):Rows (ls.zip (R.map (nv φ))) v↔RmN φ R v:=by
 constructor
 ·rintro ⟨p,hp,rfl⟩
  obtain⟨a,b⟩:=p;obtain⟨r,hr,e⟩:=wg.mp (wZ hp).2;exact⟨r,hr,e.symm⟩
 ·rintro ⟨r,hr,rfl⟩
  obtain⟨i,hi,e⟩:=wQ hr;have h1:i<ls.length:=by omega
  have h2:i <(R.map (nv φ)).length:=by rw[wa];exact hi
  refine⟨(ls[i],(R.map (nv φ))[i]),?_,by simp[e]⟩;rw[← waq (h:=by rw[uh];omega)];exact wj _
theorem IsR.rows{φ:Kf k F}{n:Nat}{R:Tb}{ls:List Nat}(h:IsR φ n R ls){v:Nat->F}:Span (Rows (ls.zip (R.map (nv φ)))) v↔Span (RmN φ R) v :=
 ⟨fun q=>q.mono fun u=>(Ye h.len u).mp,fun q=>q.mono fun u=>(Ye h.len u).mpr⟩
theorem IsR.unique{φ:Kf k F}{n:Nat}{R R':Tb}{ls ls':List Nat}(h:IsR φ n R ls)(h':IsR φ n R' ls')(s1:∀ v,Span (RmN φ R) v->Span (RmN φ R') v)(s2:∀ v,Span (RmN φ R') v->Span (RmN φ R) v):R=R'/\ls=ls':=by
 have e:=h.rr.unique h'.rr (fun v q=>h'.rows.mpr (s1 v (h.rows.mp q))) (fun v q=>h.rows.mpr (s2 v (h'.rows.mp q)));have el:=congrArg (Gc Prod.fst) e;have er:=congrArg (Gc Prod.snd) e;rw[Gp (by rw[wa];exact uT h.len),Gp (by rw[wa];exact uT h'.len)]at el;rw[war (by rw[wa];exact uT h.len.symm),war (by rw[wa];exact uT h'.len.symm)]at er;refine⟨?_,el⟩;have hl:R.length=R'.length:=by have:=congrArg gy er;simpa using this
 refine uE hl fun i h1 h2=>?_
 have e2:(R.map (nv φ))[i]'(by simpa using h1) =(R'.map (nv φ))[i]'(by simpa using h2):=by simp only[er]
 rw[Gq,Gq]at e2;have o1:=h.ok _ (wj h1);have o2:=h'.ok _ (wj h2);exact zet φ o1.2 o2.2 (by rw[o1.1,o2.1]) fun j=>by rw[e2]
theorem RedOf.unique{φ:Kf k F}{n:Nat}{M M' R R':Tb}{ls ls':List Nat}(h:RedOf φ n M R ls)(h':RedOf φ n M' R' ls')(s1:∀ v,Span (RmN φ M) v->Span (RmN φ M') v)(s2:∀ v,Span (RmN φ M') v->Span (RmN φ M) v):R=R' :=
 (h.toIsR.unique h'.toIsR (fun v q=>h'.to v (s1 v (h.fro v q))) (fun v q=>h.to v (s2 v (h'.fro v q)))).1
def overL(k:Int)(p:Nat×List Int):List Nb:=p.2.map fun w=>ndiv k (nnum k w) (nnum k (p.2.getD p.1 0))
def redM(k:Int)(n:Nat)(Ws:List (List Int)):Tb:=(swTo k Ws n).1.map (overL k)
def leadsM(k:Int)(n:Nat)(Ws:List (List Int)):List Nat:=(swTo k Ws n).1.map (·.1)
theorem Je(φ:Kf k F)(hk:kaa k){n:Nat}{M:Tb}{Ws:List (List Int)}(ok:OkM k n M)(hl:Ws.length=M.length)(hs:∀(i:Nat)(r:List Nb)(ws:List Int),M[i]?=some r->Ws[i]?=some ws->∃ b,Scl k r ws b) :
  RedOf φ n M (redM k n Ws) (leadsM k n Ws):=by
 have k0:=hk.lt.1;have pair:∀ ws∈Ws,∃ r∈M,∃ b,Scl k r ws b:=fun ws hw=>by
  obtain⟨i,hi,e⟩:=wQ hw;have h2:i<M.length:=by omega
  exact⟨M[i],wj h2,hs i M[i] ws (wb h2) (by rw[wb hi,e])⟩
 have pair2:∀ r∈M,∃ ws∈Ws,∃ b,Scl k r ws b:=fun r hr=>by
  obtain⟨i,hi,e⟩:=wQ hr;have h2:i<Ws.length:=by omega
  exact⟨Ws[i],wj h2,hs i r Ws[i] (by rw[wb hi,e]) (wb h2)⟩
 have wl:∀ ws∈Ws,ws.length=n:=fun ws hw=>by
  obtain⟨r,hr,b,s⟩:=pair ws hw;rw[s.len,(ok r hr).1]
 obtain⟨rr,s1,s2⟩:=zeX φ k0 wl;have sp1:∀ v,Span (RmI F Ws) v->Span (RmN φ M) v:=fun v q=>q.bind fun u ⟨ws,hw,e⟩=>by
  obtain⟨r,hr,b,s⟩:=pair ws hw;have:Span (RmN φ M) (nv φ r):=.of ⟨r,hr,rfl⟩;exact(this.smul (ι b)).cast fun j=>by rw[e,s.fv φ (ok r hr).2];grind
 have sp2:∀ v,Span (RmN φ M) v->Span (RmI F Ws) v:=fun v q=>q.bind fun u ⟨r,hr,e⟩=>by
  obtain⟨ws,hw,b,s⟩:=pair2 r hr;have:Span (RmI F Ws) (La.fv ws):=.of ⟨ws,hw,rfl⟩;have n:=s.ne φ hk;exact(this.smul (1 / ι b)).cast fun j=>by rw[e,s.fv φ (ok r hr).2];grind
 have rowv:∀ p∈(swTo k Ws n).1,(nv φ (overL k p):Nat->F)=fun j=>fv p.2 j / fv p.2 p.1:=fun p hp=>by
  obtain⟨p1,p2,p3,p4⟩:=qj φ k0 wl hp;have fine:=Fine.to k0 wl n;have ln:(ι (p.2.getD p.1 0):F)≠0:=fun z=>p3 ((Yn φ (fine.df p hp) p.1).mp z)
  funext j
  rcases wK j p.2.length with g|g
  ·have e:(overL k p)[j]?=some (ndiv k (nnum k p.2[j]) (nnum k (p.2.getD p.1 0))):=by unfold overL;rw[we,wb g];rfl
   rw[ym φ e,φ.div (yg hk _) (yg hk _) (Jn φ ln),φ.num,φ.num];show _=fv p.2 j / fv p.2 p.1;unfold fv;rw[wc (l:=p.2) (i:=j),wb g];rfl
  ·rw[yC φ (by unfold overL;rw[wa];exact g)];show _=fv p.2 j / fv p.2 p.1;rw[zbq g];grind
 have zz:(leadsM k n Ws).zip ((redM k n Ws).map (nv φ)) =(swTo k Ws n).1.map fun p=>(p.1,fun j=>(fv p.2 j / fv p.2 p.1:F)):=by
  unfold leadsM redM;rw[vO,List.zip_map',List.map_inj_left];intro p hp;show(p.1,nv φ (overL k p))=_;rw[rowv p hp]
 have hlen:(leadsM k n Ws).length =(redM k n Ws).length:=by unfold leadsM redM;rw[wa,wa]
 refine⟨⟨fun r hr=>?_,hlen,by rw[zz];exact rr⟩,fun v q=>?_,fun v q=>?_⟩
 ·obtain⟨p,hp,rfl⟩:=wg.mp hr;obtain⟨p1,p2,p3,p4⟩:=qj φ k0 wl hp;refine⟨by unfold overL;rw[wa];exact p2,fun x hx=>?_⟩;obtain⟨w,_,rfl⟩:=wg.mp hx;exact zdp hk (yg hk _) (yg hk _)
 ·have:=s2 v (sp2 v q);rw[← zz]at this;exact this.mono fun u=>(Ye hlen u).mp
 ·refine sp1 v (s1 v ?_);rw[← zz];exact q.mono fun u=>(Ye hlen u).mpr
end
end La
namespace Nm
end Nm
namespace La
open Lean.Grind Nm
section
variable{k:Int}
theorem zcQ(l:List Int)(w:Int):gcdL (l++[w])=gR (gcdL l) w.natAbs:=by unfold gcdL;rw[Gf];rfl
theorem zaf(l l':List Int):gcdL (l++l') ∣ gcdL l:=by unfold gcdL;rw[Gf];exact(jQ l' _).1
theorem zfa{ws:List Int}{i:Nat}(h:gcdL (ws.take i)=1):gcdL ws=1:=by
 have:=zaf (ws.take i) (ws.drop i);rw[List.take_append_drop,h]at this;exact Nat.dvd_one.mp this
theorem zbX{ws:List Int}(h:gcdL ws=1):kaj 0 ws=ws:=by
 unfold kaj;rw[if_neg (by simp),if_neg (by omega),h];have:(fun w:Int=>w.fdiv ((1:Nat):Int))=id:=funext fun w=>Int.fdiv_one w
 rw[this,List.map_id]
theorem zbZ{ws:List Int}(h:gcdL ws=0):kaj 0 ws=ws:=by
 unfold kaj;rw[if_neg (by simp),if_pos h]
theorem zco{ws:List Int}(h:gcdL ws≠0):kaj 0 ws=ws.map fun w=>w.fdiv ((gcdL ws:Nat):Int):=by
 unfold kaj;rw[if_neg (by simp),if_neg h]
theorem zct(h:k≠0)(ws:List Int):kaj k ws=ws.map (·.fmod k):=by
 unfold kaj;rw[if_pos h]
theorem Yl(rows:List (List Int)):∀ c,(swTo k rows c).1.length +(swTo k rows c).2.length=rows.length
 | 0=>by show 0 +(rows.map (kaj k)).length=_;rw[wa];omega
 | c+1=>by
  have ih:=Yl rows c;show(kal k c (swTo k rows c)).1.length +(kal k c (swTo k rows c)).2.length=_;generalize swTo k rows c=s at ih;unfold kal;cases e:s.2.filter (fun r=>decide (r.getD c 0≠0))with
  | nil=>exact ih
  | cons l rest =>
   show(s.1.map _++[(c,l)]).length +(s.2.filter _++rest.map _).length=_;have h1:(s.2.filter (fun r=>decide (r.getD c 0≠0))).length=rest.length+1:=by rw[e];rfl
   have h2:∀ l:List (List Int),(l.filter (fun r=>decide (r.getD c 0≠0))).length +(l.filter (fun r=>decide (r.getD c 0=0))).length=l.length:=by
    intro l
    induction l with
    | nil=>rfl
    | cons x l ih =>
     rw[uZ,uZ]
     by_cases z:x.getD c 0=0
     ·simp only[z,ne_eq,not_true_eq_false,decide_false,decide_true,if_true,vy];simp only[GU,if_false];simp only[ne_eq]at ih;omega
     ·simp only[z,ne_eq,not_false_eq_true,decide_false,decide_true,if_true,vy];simp only[GU,if_false];simp only[ne_eq]at ih;omega
   have h3:=h2 s.2;simp only[wy,wa,vy,Gz];omega
theorem zbm:∀ c,swTo k [] c =([],[])
 | 0=>rfl
 | c+1=>by
  show kal k c (swTo k [] c)=_;rw[zbm c];rfl
theorem xc{α:Type}{l:List α}{i:Nat}{x:α}(p:α->Bool)(h:l[i]?=some x):(l.take (i+1)).filter p =(l.take i).filter p ++(if p x=true then [x] else []):=by
 obtain⟨hi,e⟩:=wp.mp h;rw[vN hi,List.filter_append,e,uZ,List.filter_nil]
theorem ze5{ws:List Int}{p:Nat}(hp:p<ws.length)(hz:∀ j,j<p->ws.getD j 0=0)(hn:ws.getD p 0≠0):(ws.filter fun w=>decide (w≠0))[0]?=some (ws.getD p 0):=by
 induction ws generalizing p with
 | nil=>simp at hp
 | cons w ws ih =>
  cases p with
  | zero =>
   have h:w≠0:=by simpa using hn
   rw[uZ,if_pos (by simpa using h)];simp
  | succ p =>
   have h0:w=0:=by simpa using hz 0 (Nat.succ_pos p)
   rw[uZ,if_neg (by simp[h0])];have:=ih (p:=p) (by simpa using hp) (fun j hj=>by have:=hz (j+1) (by omega);simpa using this) (by simpa using hn);rw[this];simp
end
end La
namespace La
open Lean.Grind Nm
def dB(D B:Nat):Nb->Prop
 | .q r=>∃ a:Int,r *((D:Int):Rat) =((a:Int):Rat)/\a.natAbs<=B
 | .z _=>True
theorem dB.mul{k:Int}{D B D' B':Nat}{x y:Nb}(hx:dB D B x)(hy:dB D' B' y)(ox:x.ok k)(oy:y.ok k):dB (D*D') (B*B') (nmul k x y):=by
 cases x with
 | q r =>
  cases y with
  | q s =>
   obtain⟨a,ea,ha⟩:=hx;obtain⟨b,eb,hb⟩:=hy;refine⟨a*b,?_,?_⟩
   ·have e1:(((D*D':Nat):Int):Rat) =((D:Int):Rat) *((D':Int):Rat):=by rw[uM,wV]
    rw[e1,wV,← ea,← eb]
    grind
   ·rw[vv];exact vm ha hb
  | z j=>exact absurd (show k=0 from ox) oy.1
 | z i =>
  cases y with
  | q s=>exact absurd (show k=0 from oy) ox.1
  | z j=>trivial
theorem dB.add{k:Int}{D B B':Nat}{x y:Nb}(hx:dB D B x)(hy:dB D B' y)(ox:x.ok k)(oy:y.ok k):dB D (B+B') (nadd k x y):=by
 cases x with
 | q r =>
  cases y with
  | q s =>
   obtain⟨a,ea,ha⟩:=hx;obtain⟨b,eb,hb⟩:=hy;refine⟨a+b,?_,?_⟩
   ·rw[GA,← ea,← eb]
    grind
   ·have:=Gd a b;omega
  | z j=>exact absurd (show k=0 from ox) oy.1
 | z i =>
  cases y with
  | q s=>exact absurd (show k=0 from oy) ox.1
  | z j=>trivial
theorem dB.up{D B:Nat}{x:Nb}(hx:dB D B x)(e c:Nat)(he:e<=c):dB (e*D) (c*B) x:=by
 cases x with
 | q r =>
  obtain⟨a,ea,ha⟩:=hx;refine⟨(e:Int)*a,?_,?_⟩
  ·have e1:(((e*D:Nat):Int):Rat) =((e:Int):Rat) *((D:Int):Rat):=by rw[uM,wV]
   rw[e1,wV,← ea]
   grind
  ·rw[vv,vH];exact vm he ha
 | z i=>trivial
theorem dB.mono{D B B':Nat}{x:Nb}(hx:dB D B x)(h:B<=B'):dB D B' x:=by
 cases x with
 | q r=>obtain⟨a,ea,ha⟩:=hx;exact⟨a,ea,wD ha h⟩
 | z i=>trivial
theorem dB.num{k w:Int}{D B:Nat}(h:w.natAbs*D<=B):dB D B (nnum k w):=by
 unfold nnum
 split
 ·refine⟨w*D,by rw[wV],?_⟩;rw[vv,vH];exact h
 ·trivial
theorem dB.parts{r:Rat}{D B:Nat}(hD:D≠0)(h:dB D B (.q r)):r.den<=D/\r.num.natAbs<=B:=by
 obtain⟨a,ea,ha⟩:=h;have e0:=kfRat.rat r rfl;have e0':r *((r.den:Int):Rat) =((r.num:Int):Rat):=e0;have e1:r.num *(D:Int)=a *(r.den:Int):=by
  have:((r.num *(D:Int):Int):Rat) =((a *(r.den:Int):Int):Rat):=by
   rw[wV,wV,← e0',← ea]
   grind
  exact GB.mp this
 have e2:r.num.natAbs*D=a.natAbs*r.den:=by
  have:=congrArg Int.natAbs e1;rw[vv,vv,vH,vH]at this;exact this
 have cop:Nat.Coprime r.den r.num.natAbs:=(Gr.mp r.reduced);have dv:r.den ∣ D:=cop.dvd_of_dvd_mul_left ⟨a.natAbs,by rw[e2,vP]⟩;have le:r.den<=D:=Nat.le_of_dvd (by omega) dv;refine⟨le,?_⟩;have h1:r.num.natAbs*D<=a.natAbs*D:=by rw[e2];exact vp _ le
 have h2:r.num.natAbs<=a.natAbs:=Nat.le_of_mul_le_mul_right h1 (by omega);omega
section
variable{k:Int}{F:Type}[Field F]
theorem yj{α:Type}{l:List α}{i:Nat}{x y:α}(h:y∈l.set i x):y=x\/y∈l:=by
 rcases List.mem_or_eq_of_mem_set h with h|h
 ·exact .inr h
 ·exact .inl h
theorem zhC{φ:Kf k F}{f:Nb->Nb}{xs:List Nb}(g:F->F)(h0:g 0=0)(h:∀ x∈xs,φ.to (f x)=g (φ.to x))(j:Nat):nv φ (xs.map f) j=g (nv φ xs j):=by
 rcases wK j xs.length with l|l
 ·rw[ym φ (x:=f xs[j]) (by rw[we,wb l];rfl),ym φ (wb l),h _ (wj l)]
 ·rw[yC φ (by rw[wa];exact l),yC φ l,h0]
theorem zhI{φ:Kf k F}{f:Nb->Nb->Nb}{xs ys:List Nb}(hl:xs.length=ys.length)(g:F->F->F)(h0:g 0 0=0)(h:∀ x∈xs,∀ y∈ys,φ.to (f x y)=g (φ.to x) (φ.to y))(j:Nat):nv φ (vC f xs ys) j=g (nv φ xs j) (nv φ ys j):=by
 rcases wK j xs.length with l|l
 ·have l2:j<ys.length:=by omega
  rw[ym φ (x:=f xs[j] ys[j]) (by rw[vR,wb l,wb l2]),ym φ (wb l),ym φ (wb l2),h _ (wj l) _ (wj l2)]
 ·rw[yC φ (by rw[ve];omega),yC φ l,yC φ (by omega),h0]
end
end La
namespace La
open Lean.Grind Nm
section
variable{k:Int}{F:Type}[Field F]
theorem zaa(n:Nat)(u v w:Nat->F):dot n u (fun j=>v j+w j)=dot n u v+dot n u w:=by
 rw[yO,zd8,yO n v,yO n w]
theorem XA(a:F)(n:Nat)(u v:Nat->F):dot n u (fun j=>a*v j)=a*dot n u v:=by
 rw[yO,Ji,yO n v]
theorem zcK{α β:Type}{xs:List α}{ys:List β}{i:Nat}{a:α}{b:β}(h1:xs[i]?=some a)(h2:ys[i]?=some b):(a,b)∈xs.zip ys :=
 wd (i:=i) (by rw[gd];exact⟨h1,h2⟩)
def trF(n:Nat)(A:Tb):Tb:=(vd n).map fun j=>A.map fun r=>r.getD j (.z 0)
def unitF(l:Nat)(c:F):Nat->F:=fun j=>if j=l then c else 0
theorem zib(φ:Kf k F){n j i:Nat}{A:Tb}{a:List Nb}(oA:OkM k n A)(hj:j<n)(ha:A[i]?=some a):nv φ (A.map fun r=>r.getD j (.z 0)) i=nv φ a j:=by
 have la:=(oA a (wd ha)).1;have hj':j<a.length:=by omega
 rw[ym φ (x:=a.getD j (.z 0)) (by rw[we,ha];rfl),ym φ (wb hj'),wc,wb hj'];rfl
end
end La
namespace La
open Lean.Grind Nm
def rowD(D B:Nat)(xs:List Nb):Prop:=∀ x∈xs,dB D (2^B - 1) x
def rowB(B:Nat)(xs:List Nb):Prop:=∃ D:Nat,D≠0/\D<2^B/\rowD D B xs
def rowsB(B:Nat)(M:Tb):Prop:=∀ r∈M,rowB B r
theorem rowB.mono{B C:Nat}{xs:List Nb}(h:rowB B xs)(hc:B<=C):rowB C xs:=by
 obtain⟨D,d0,d1,hd⟩:=h;have:2^B<=2^C:=vg (by decide) hc;exact⟨D,d0,by omega,fun x hx=>(hd x hx).mono (by omega)⟩
theorem rowsB.mono{B C:Nat}{M:Tb}(h:rowsB B M)(hc:B<=C):rowsB C M:=fun r hr=>(h r hr).mono hc
theorem rowsB.app{B:Nat}{M N:Tb}(h:rowsB B M)(g:rowsB B N):rowsB B (M++N):=fun r hr=>by
 rcases wt.mp hr with q|q
 ·exact h r q
 ·exact g r q
theorem dB.den_dvd{D B:Nat}{r:Rat}(hD:D≠0)(h:dB D B (.q r)):(r.den:Int) ∣ (D:Int):=by
 obtain⟨a,ea,ha⟩:=h;have e0':r *((r.den:Int):Rat) =((r.num:Int):Rat):=kfRat.rat r rfl;have e1:r.num *(D:Int)=a *(r.den:Int):=by
  have:((r.num *(D:Int):Int):Rat) =((a *(r.den:Int):Int):Rat):=by
   rw[wV,wV,← e0',← ea]
   grind
  exact GB.mp this
 have e2:r.num.natAbs*D=a.natAbs*r.den:=by
  have:=congrArg Int.natAbs e1;rw[vv,vv,vH,vH]at this;exact this
 have cop:Nat.Coprime r.den r.num.natAbs:=(Gr.mp r.reduced);have dv:r.den ∣ D:=cop.dvd_of_dvd_mul_left ⟨a.natAbs,by rw[e2,vP]⟩;exact Int.ofNat_dvd.mpr dv
theorem zd6{D B:Nat}{b:Int}{x:Nb}{k:Int}(hk:kaa k)(ox:x.ok k)(h7:61<=B)(hD:D≠0)(h:dB D (2^B - 1) x)(hb:0<b)(hx:dvB b x)(hd:k=0->b ∣ (D:Int)):(scW b x).natAbs<2^B:=by
 have p2:0<2^B:=uR (by decide);cases x with
 | q r =>
  obtain⟨a,ea,ha⟩:=h;obtain⟨e,he⟩:=hd ox;have hdv:(r.den:Int) ∣ b:=hx;have e1:=jE hdv (jf r);have e0':r *((r.den:Int):Rat) =((r.num:Int):Rat):=kfRat.rat r rfl;have key:a=scW b (.q r)*e:=by
   show a=r.num*b.fdiv (r.den:Int)*e;generalize b.fdiv (r.den:Int)=u at *;have hDD:((D:Int):Rat) =(u:Rat) *((r.den:Int):Rat) *(e:Rat):=by rw[he,← e1,wV,wV]
   have:((a:Int):Rat) =((r.num*u*e:Int):Rat):=by
    rw[wV,wV,← ea,← e0',hDD];generalize ((r.den:Int):Rat)=dd
    grind
   exact GB.mp this
  have ene:e≠0:=fun z=>by rw[z,waa]at he;omega
  have:(scW b (.q r)).natAbs<=a.natAbs:=by
   rw[key,vv];exact um _ (gv.mpr ene)
  omega
 | z i =>
  have:=hk.lt;obtain⟨_,i0,i1⟩:=ox;show i.natAbs<2^B;have:2^61<=2^B:=vg (by decide) h7;have:(2:Nat)^61=2305843009213693952:=by decide
  omega
theorem zg4{b d D:Int}(hb:0<b)(hd:0<d)(h1:b ∣ D)(h2:d ∣ D):b.fdiv ((wS b d:Nat):Int)*d ∣ D:=by
 have g0:0 <((wS b d:Nat):Int):=by have:=gW d (show b≠0 by omega);omega
 have db:((wS b d:Nat):Int) ∣ b:=uY b d;have dd:((wS b d:Nat):Int) ∣ d:=gw b d;have e1:=jE db (by omega);have e2:=jE dd (by omega);have cop:wS (b.fdiv ((wS b d:Nat):Int)) (d.fdiv ((wS b d:Nat):Int))=1:=by
  rw[vE db,vE dd,waL db dd,vH];exact waM (by omega)
 generalize hx:b.fdiv ((wS b d:Nat):Int)=x at *;generalize hy:d.fdiv ((wS b d:Nat):Int)=y at *;generalize hg:((wS b d:Nat):Int)=g at *;obtain⟨s,hs⟩:=h1;obtain⟨t,ht⟩:=h2;have e3:x*s=y*t:=by
  have:g *(x*s)=g *(y*t):=by
   have h:x*g*s=y*g*t:=by rw[e1,e2,← hs,← ht]
   grind
  exact Int.eq_of_mul_eq_mul_left (by omega) this
 have dv:y ∣ s:=by
  have:y ∣ x*s:=⟨t,e3⟩;have h1:y.natAbs ∣ x.natAbs*s.natAbs:=by rw[← vv];exact GJ.mpr this
  have c1:Nat.Coprime y.natAbs x.natAbs:=by
   have:gR x.natAbs y.natAbs=1:=cop;exact(Gr.mp this)
  exact GJ.mp (c1.dvd_of_dvd_mul_left h1)
 obtain⟨u,hu⟩:=dv;refine⟨u,?_⟩;rw[hs,hu,← e1,← e2]
 grind
theorem zca{k:Int}(hk:kaa k){B p:Nat}{ws:List Int}(h:∀ w∈ws,w.natAbs<2^B)(hp:p<ws.length)(ne:ws.getD p 0≠0)(nn:nnum k (ws.getD p 0)≠nnum k 0):rowB B (overL k (p,ws)):=by
 have hl:ws.getD p 0∈ws:=by
  rw[wc,wb hp];exact wj hp
 have p2:0<2^B:=uR (by decide);have hlb:=h _ hl;refine⟨(ws.getD p 0).natAbs,by omega,hlb,fun x hx=>?_⟩;unfold overL at hx;obtain⟨w,hw,rfl⟩:=wg.mp hx;show dB (ws.getD p 0).natAbs (2^B - 1) (ndiv k (nnum k w) (nnum k (ws.getD p 0)));generalize hL:ws.getD p 0=l at *
 by_cases k0:k=0
 ·subst k0;have hwb:=h w hw;have e1:nnum 0 w=.q (w:Rat):=rfl;have e2:nnum 0 l=.q (l:Rat):=rfl;rw[e1,e2];show ∃ a:Int,(w:Rat) / (l:Rat) *(((l.natAbs:Nat):Int):Rat) =((a:Int):Rat)/\a.natAbs<=2^B - 1;have nl:(l:Rat)≠0:=fun z=>ne (uo.mp z)
  rcases Int.le_total 0 l with s|s
  ·refine⟨w,?_,by omega⟩;rw[show((l.natAbs:Nat):Int)=l by omega]
   grind
  ·refine⟨-w,?_,by omega⟩;rw[show((l.natAbs:Nat):Int) = -l by omega,waz,waz]
   grind
 ·have e1:nnum k w=.z (w.fmod k):=by unfold nnum;rw[if_neg k0]
  have e2:nnum k l=.z (l.fmod k):=by unfold nnum;rw[if_neg k0]
  rw[e1,e2]
  trivial
end La
namespace La
open Lean.Grind Nm
section
variable{k:Int}{F:Type}[Field F]
abbrev Rm(φ:Kf k F)(M:Tb):(Nat->F)->Prop:=Span (RmN φ M)
variable{φ:Kf k F}{n:Nat}{R R' A:Tb}{ls ls':List Nat}
theorem IsR.get(h:IsR φ n R ls){i l:Nat}{r:List Nb}(hl:ls[i]?=some l)(hr:R[i]?=some r):(l,nv φ r)∈ls.zip (R.map (nv φ)):=zcK hl (by rw[we,hr];rfl)
theorem IsR.lead_of(h:IsR φ n R ls){l:Nat}(hl:l∈ls):∃(i:Nat)(r:List Nb),ls[i]?=some l/\R[i]?=some r:=by
 obtain⟨i,hi,e⟩:=wQ hl;have h2:i<R.length:=by rw[← h.len];exact hi
 exact⟨i,R[i],by rw[wb hi,e],wb h2⟩
end
end La
namespace La
open Lean.Grind Nm
section
variable{k:Int}{F:Type}[Field F]{φ:Kf k F}{n:Nat}
theorem XF(hk:kaa k):∀ {xs:List Nb},OkR k xs->∃ b,Scl k xs (xs.map (scW b)) b:=by
 intro xs ox
 by_cases k0:k=0
 ·have:∃ b:Int,0<b/\∀ x∈xs,dvB b x:=by
   induction xs with
   | nil=>exact⟨1,by decide,fun x hx=>nomatch hx⟩
   | cons x xs ih =>
    obtain⟨b,b0,hb⟩:=ih fun y hy=>ox y (wo _ hy)
    cases x with
    | z i=>exact absurd k0 (ox (.z i) wk).1
    | q r =>
     refine⟨b *(r.den:Int),gZ b0 (den_pos r),fun y hy=>?_⟩
     rcases wF.mp hy with e|hy
     ·rw[e];exact was _ _
     ·have:=hb y hy;cases y with
      | q s=>exact waF (show(s.den:Int) ∣ b from this) (wae _ _)
      | z j=>trivial
  obtain⟨b,b0,hb⟩:=this;exact⟨b,rfl,b0,fun z=>absurd k0 z,hb⟩
 ·refine⟨1,rfl,by decide,fun _=>rfl,fun x hx=>?_⟩;have o:=ox x hx;cases x with
  | q r=>exact absurd o k0
  | z i=>trivial
theorem XR(φ:Kf k F)(hk:kaa k){M:Tb}(oM:OkM k n M):∃ R ls,RedOf φ n M R ls:=by
 have:∃ Ws:List (List Int),Ws.length=M.length/\∀(i:Nat)(r:List Nb)(ws:List Int),M[i]?=some r->Ws[i]?=some ws->∃ b,Scl k r ws b:=by
  induction M with
  | nil=>exact⟨[],rfl,fun i r ws h=>by simp at h⟩
  | cons m M ih =>
   obtain⟨Ws,l,h⟩:=ih fun r hr=>oM r (wo _ hr)
   obtain⟨b,hb⟩:=XF hk (oM m wk).2;refine⟨m.map (scW b)::Ws,by simp[l],fun i r ws h1 h2=>?_⟩;cases i with
   | zero=>simp at h1 h2;subst h1 h2;exact⟨b,hb⟩
   | succ i=>exact h i r ws (by simpa using h1) (by simpa using h2)
 obtain⟨Ws,l,h⟩:=this;exact⟨_,_,Je φ hk oM l h⟩
def ofV(φ:Kf k F)(n:Nat)(v:Nat->F):List Nb:=(vd n).map fun j=>φ.of (v j)
theorem zf7(v:Nat->F):(ofV φ n v).length=n/\OkR k (ofV φ n v):=by
 refine⟨by unfold ofV;simp,fun x hx=>?_⟩;unfold ofV at hx;obtain⟨j,_,rfl⟩:=wg.mp hx;exact φ.ok _
theorem zh1{v:Nat->F}(hv:∀ j,n<=j->v j=0)(j:Nat):nv φ (ofV φ n v) j=v j:=by
 rcases wK j n with h|h
 ·rw[ym φ (x:=φ.of (v j)) (by unfold ofV;rw[we,ur h];rfl),φ.to_of]
 ·rw[yC φ (by rw[(zf7 (φ:=φ) v).1];exact h),hv j h]
theorem Xm:∀ {P Q:List Nat},P.Pairwise (·<·)->Q.Pairwise (·<·)->(∀ p∈P,p∈Q)->(∀ q∈Q,q∈P)->P=Q
 | [],[],_,_,_,_=>rfl
 | [],q::_,_,_,_,h=>nomatch h q wk
 | p::_,[],_,_,h,_=>nomatch h p wk
 | p::P,q::Q,hP,hQ,h1,h2=>by
  rw[uH]at hP hQ;have e:p=q:=by
   rcases wF.mp (h1 p wk)with e|m
   ·exact e
   ·rcases wF.mp (h2 q wk)with e|m'
    ·exact e.symm
    ·have:=hP.1 q m';have:=hQ.1 p m;omega
  subst e;rw[Xm hP.2 hQ.2 (fun r hr=>?_) (fun r hr=>?_)]
  ·rcases wF.mp (h1 r (wo _ hr))with e|m
   ·subst e;exact absurd (hP.1 r hr) (vM _)
   ·exact m
  ·rcases wF.mp (h2 r (wo _ hr))with e|m
   ·subst e;exact absurd (hQ.1 r hr) (vM _)
   ·exact m
variable{U W:Tb}{lu lw:List Nat}
theorem IsR.inc(h:IsR φ n U lu):lu.Pairwise (·<·):=by
 have:=h.rr.inc;rw[← uQ (f:=Prod.fst) (R:=(·<·)),Gp (by rw[wa];exact uT h.len)]at this;exact this
theorem IsR.lead_iff(h:IsR φ n U lu)(p:Nat):p∈lu↔∃ v,Rm φ U v/\(∀ j,j<p->v j=0)/\v p≠0:=by
 constructor
 ·intro hp;obtain⟨i,r,h1,h2⟩:=h.lead_of hp;have hm:=h.get h1 h2;have o:nv φ r p=1:=h.rr.one _ hm;exact⟨nv φ r,.of ⟨r,wd h2,rfl⟩,h.rr.bef _ hm,by rw[o];exact fun e=>Field.zero_ne_one e.symm⟩
 ·rintro ⟨v,hv,z,ne⟩
  obtain⟨q,hq,e⟩:=h.rr.lead (h.rows.mpr hv) z ne;rw[← e];exact(wZ (show(q.1,q.2)∈_ from hq)).1
theorem IsR.zero(h:IsR φ n U lu){v:Nat->F}(hv:Rm φ U v)(z:∀ l∈lu,v l=0)(j:Nat):v j=0:=by
 rw[← h.rr.comb (h.rows.mpr hv) j];exact jc v j _ fun p hp=>by
  rw[z p.1 (wZ (show(p.1,p.2)∈_ from hp)).1];grind
theorem IsR.take_off(h:IsR φ n U lu)(v:Nat->F):∃ u,Rm φ U u/\∀ l∈lu,u l=v l:=by
 refine⟨comb (lu.zip (U.map (nv φ))) v,h.rows.mp (Qr v _),fun l hl=>?_⟩;obtain⟨i,r,h1,h2⟩:=h.lead_of hl;have hp:=h.get h1 h2;have gen:∀(P:List (Pv F)),P.Pairwise (fun a b=>a.1<b.1)->(∀ p∈P,p∈lu.zip (U.map (nv φ)))->(∃ p∈P,p.1=l)->comb P v l=v l*1:=by
  intro P
  induction P with
  | nil=>intro _ _ ⟨p,hp,_⟩;exact nomatch hp
  | cons p P ih =>
   intro pw hm hex;rw[uH]at pw;have hp0:=hm p wk;simp only[comb]
   by_cases ep:p.1=l
   ·have o:p.2 p.1=1:=h.rr.one _ hp0;rw[jc v l P fun q hq=>?_]
    ·rw[← ep,o];grind
    ·have hq0:=hm q (wo _ hq);have:p.1<q.1:=pw.1 q hq;have z:q.2 p.1=0:=h.rr.oth q hq0 p hp0 (by omega);rw[← ep,z];grind
   ·obtain⟨q,hq,eq⟩:=hex
    rcases wF.mp hq with z|z
    ·rw[z]at eq;exact absurd eq ep
    ·have hq0:=hm q (wo _ z);have z2:p.2 q.1=0:=h.rr.oth p hp0 q hq0 (by rw[eq];exact ep);rw[ih pw.2 (fun r hr=>hm r (wo _ hr)) ⟨q,z,eq⟩,← eq,z2];grind
 rw[gen _ h.rr.inc (fun p hp=>hp) ⟨_,hp,rfl⟩];grind
end
end La
namespace La
open Lean.Grind Nm
end La
namespace La
open Lean.Grind Nm
end La
namespace La
open Lean.Grind Nm
section
variable{k:Int}{F:Type}[Field F]{φ:Kf k F}
theorem JI(n:Nat)(c:Nat->F)(b:Nat->Nat->F)(a:Nat->F):∀ m,dot m a (fun i=>dot n (b i) c)=dot n (fun j=>dot m a (fun i=>b i j)) c
 | 0=>by
  rw[qQ n (fun j=>dot 0 a fun i=>b i j) c fun j _=>by simp only[dot];grind]
  rfl
 | m+1=>by
  have e:dot n (fun j=>dot (m+1) a (fun i=>b i j)) c=dot n (fun j=>dot m a (fun i=>b i j)) c+dot n (fun j=>a m*b m j) c:=by
   rw[← zd8]
   rfl
  rw[e,← JI n c b a m,Ji]
  rfl
def imgR(k:Int)(M:Tb)(x:List Nb):List Nb:=M.map fun r=>ndot k r x
def prodR(k:Int)(c:Nat)(M N:Tb):Tb:=M.map fun r=>(trF c N).map fun col=>ndot k r col
theorem JJ(hk:kaa k){n:Nat}{M:Tb}{x:List Nb}(oM:OkM k n M)(ox:OkR k x):(imgR k M x).length=M.length/\OkR k (imgR k M x):=by
 refine⟨by unfold imgR;rw[wa],fun y hy=>?_⟩;unfold imgR at hy;obtain⟨r,hr,rfl⟩:=wg.mp hy;exact xH hk (oM r hr).2 ox
theorem zdN(n:Nat)(M:Tb):(trF n M).length=n:=by unfold trF;simp
theorem zcI{n i:Nat}{M:Tb}(h:i<n):(trF n M)[i]?=some (M.map fun r=>r.getD i (.z 0)):=by unfold trF;simp[h]
theorem zgd{n j:Nat}{M:Tb}(h:OkM k n M)(hj:j<n):(M.map fun r=>r.getD j (.z 0)).length=M.length/\OkR k (M.map fun r=>r.getD j (.z 0)):=by
 refine⟨wa _,fun x hx=>?_⟩;obtain⟨row,hrow,rfl⟩:=wg.mp hx;obtain⟨h1,h2⟩:=h row hrow;have hj':j<row.length:=by omega
 rw[wc,wb hj'];exact h2 _ (wj hj')
theorem zfR{n:Nat}{M:Tb}(h:OkM k n M):OkM k M.length (trF n M):=fun r hr=>by
 unfold trF at hr;obtain⟨j,hj,rfl⟩:=wg.mp hr;rw[vk]at hj;exact zgd h hj
theorem ZY(hk:kaa k){b c:Nat}{M N:Tb}(oM:OkM k b M)(oN:OkM k c N):(prodR k c M N).length=M.length/\OkM k c (prodR k c M N):=by
 refine⟨by unfold prodR;rw[wa],fun r hr=>?_⟩;unfold prodR at hr;obtain⟨m,hm,rfl⟩:=wg.mp hr;refine⟨by rw[wa,zdN],fun x hx=>?_⟩;obtain⟨col,hcol,rfl⟩:=wg.mp hx;exact xH hk (oM m hm).2 (zfR oN col hcol).2
theorem zgz(hk:kaa k){b c:Nat}{r x:List Nb}{N:Tb}(or:OkR k r)(lr:r.length=b)(oN:OkM k c N)(lN:N.length=b)(ox:OkR k x)(lx:x.length=c) :
  ndot k r (imgR k N x)=ndot k ((trF c N).map fun col=>ndot k r col) x:=by
 obtain⟨F,_,_,⟨φ⟩⟩:=yQ hk;obtain⟨li,oi⟩:=JJ hk oN ox;have oT:=zfR oN;have oL:OkR k ((trF c N).map fun col=>ndot k r col):=fun y hy=>by
  obtain⟨col,hcol,rfl⟩:=wg.mp hy;exact xH hk or (oT col hcol).2
 have lL:((trF c N).map fun col=>ndot k r col).length=c:=by rw[wa,zdN]
 refine φ.inj (xH hk or oi) (xH hk oL ox) ?_;rw[xE φ hk or oi (by rw[lr,li,lN]),xE φ hk oL ox (by rw[lL,lx]),lr,lL];have e1:dot b (nv φ r) (nv φ (imgR k N x))=dot b (nv φ r) (fun i=>dot c (nv φ (N.getD i [])) (nv φ x)):=yn fun i hi=>by
  have hi':i<N.length:=by omega
  have g:N[i]?=some N[i]:=wb hi';have ge:N.getD i []=N[i]:=by rw[wc,g];rfl
  have on:=oN N[i] (wj hi');rw[ym φ (xs:=imgR k N x) (x:=ndot k N[i] x) (by unfold imgR;rw[we,g];rfl),ge,xE φ hk on.2 ox (by rw[on.1,lx]),on.1]
 rw[e1,JI c (nv φ x) (fun i=>nv φ (N.getD i [])) (nv φ r) b];refine yn fun j hj=>?_
 have g:((trF c N).map fun col=>ndot k r col)[j]?=some (ndot k r (N.map fun r=>r.getD j (.z 0))):=by rw[we,zcI hj];rfl
 have oc:=zgd oN hj;rw[ym φ g,xE φ hk or oc.2 (by rw[lr,oc.1,lN]),lr];have e2:dot b (nv φ r) (nv φ (N.map fun r=>r.getD j (.z 0)))=dot b (nv φ r) (fun i=>nv φ (N.getD i []) j):=yn fun i hi=>by
  have hi':i<N.length:=by omega
  have g:N[i]?=some N[i]:=wb hi';have ge:N.getD i []=N[i]:=by rw[wc,g];rfl
  rw[zib φ oN hj g,ge]
 rw[e2]
end
end La
namespace La
open Lean.Grind Nm
end La
namespace La
open Lean.Grind Nm
section
variable{k:Int}{F:Type}[Field F]{φ:Kf k F}{n:Nat}
theorem zgP{xs:List Nb}{j:Nat}(hj:j<xs.length):φ.to (xs.getD j (.z 0))=nv φ xs j:=by
 rw[ym φ (wb hj),wc,wb hj];rfl
end
end La
namespace La
open Lean.Grind Nm
section
variable{k:Int}{F:Type}[Field F]{φ:Kf k F}{n:Nat}
theorem Rm.app{A B:Tb}{v:Nat->F}:Rm φ (A++B) v↔∃ a b,Rm φ A a/\Rm φ B b/\∀ j,v j=a j+b j:=by
 constructor
 ·intro hv;refine hv.all (P:=fun v=>∃ a b,Rm φ A a/\Rm φ B b/\∀ j,v j=a j+b j) ⟨fun _=>0,fun _=>0,.zero,.zero,fun j=>by grind⟩ fun c r v ⟨x,hx,e⟩ ⟨a,b,ha,hb,ev⟩=>?_
  rcases wt.mp hx with q|q
  ·exact⟨fun j=>c*r j+a j,b,.step c ⟨x,q,e⟩ ha,hb,fun j=>by show c*r j+v j=c*r j+a j+b j;rw[ev j];grind⟩
  ·exact⟨a,fun j=>c*r j+b j,ha,.step c ⟨x,q,e⟩ hb,fun j=>by show c*r j+v j=a j +(c*r j+b j);rw[ev j];grind⟩
 ·rintro ⟨a,b,ha,hb,ev⟩
  have h1:Rm φ (A++B) a:=ha.mono fun r ⟨x,hx,e⟩=>⟨x,wP _ hx,e⟩
  have h2:Rm φ (A++B) b:=hb.mono fun r ⟨x,hx,e⟩=>⟨x,wE _ hx,e⟩
  exact(h1.add h2).cast fun j=>(ev j).symm
def limg(φ:Kf k F)(n:Nat)(A:Tb)(v:Nat->F):Nat->F:=fun i=>dot n (nv φ (A.getD i [])) v
theorem Jt(A:Tb)(c:F)(u v:Nat->F)(i:Nat):limg φ n A (fun j=>c*u j+v j) i=c*limg φ n A u i+limg φ n A v i:=by
 unfold limg;rw[zaa n _ (fun j=>c*u j) v,XA]
theorem Zk(A:Tb)(i:Nat):limg φ n A (fun _=>0) i=0:=qQ n _ _ fun j _=>by grind
theorem zc6(j:Nat):nv φ [] j=0:=yC φ (vA _)
theorem zea(hk:kaa k){A:Tb}{x:List Nb}(oA:OkM k n A)(ox:OkR k x)(lx:x.length=n)(i:Nat):nv φ (imgR k A x) i=limg φ n A (nv φ x) i:=by
 unfold limg
 rcases wK i A.length with h|h
 ·have g:A[i]?=some A[i]:=wb h;have ge:A.getD i []=A[i]:=by rw[wc,g];rfl
  have oa:=oA A[i] (wj h);rw[ym φ (xs:=imgR k A x) (x:=ndot k A[i] x) (by unfold imgR;rw[we,g];rfl),xE φ hk oa.2 ox (by rw[oa.1,lx]),oa.1,ge]
 ·rw[yC φ (by unfold imgR;rw[wa];exact h)];have ge:A.getD i []=[]:=by rw[wc,wN h];rfl
  rw[ge,qQ n _ _ fun j _=>by rw[zc6];grind]
theorem Rm.img(hk:kaa k){A R:Tb}(oA:OkM k n A)(oR:OkM k n R){w:Nat->F}:Rm φ (R.map (imgR k A)) w↔∃ v,Rm φ R v/\∀ i,w i=limg φ n A v i:=by
 constructor
 ·intro h;refine h.all (P:=fun w=>∃ v,Rm φ R v/\∀ i,w i=limg φ n A v i) ⟨fun _=>0,.zero,fun i=>(Zk A i).symm⟩ fun c r w ⟨x,hx,e⟩ ⟨v,hv,ev⟩=>?_
  obtain⟨y,hy,rfl⟩:=wg.mp hx;have oy:=oR y hy;refine⟨fun j=>c*nv φ y j+v j,.step c ⟨y,hy,rfl⟩ hv,fun i=>?_⟩;rw[Jt,← ev i,← zea hk oA oy.2 oy.1,e]
 ·rintro ⟨v,hv,ev⟩
  have:Rm φ (R.map (imgR k A)) (limg φ n A v):=by
   refine hv.all (P:=fun v=>Rm φ (R.map (imgR k A)) (limg φ n A v)) (Span.cast .zero fun i=>(Zk A i).symm) fun c r v ⟨x,hx,e⟩ hw=>?_
   have ox:=oR x hx;refine Span.cast (.step c (r:=nv φ (imgR k A x)) ⟨_,wg.mpr ⟨x,hx,rfl⟩,rfl⟩ hw) fun i=>?_
   rw[Jt,e,zea hk oA ox.2 ox.1]
  exact this.cast fun i=>(ev i).symm
def kry(k:Int)(A B:Tb):Nat->Tb
 | 0=>B
 | t+1=>B ++(kry k A B t).map (imgR k A)
theorem YR(hk:kaa k){A B:Tb}(oA:OkM k n A)(lA:A.length=n)(oB:OkM k n B):∀ t,OkM k n (kry k A B t)
 | 0=>oB
 | t+1=>fun r hr=>by
  rcases wt.mp hr with h|h
  ·exact oB r h
  ·obtain⟨x,hx,rfl⟩:=wg.mp h;have:=JJ hk oA (YR hk oA lA oB t x hx).2;exact⟨by rw[this.1,lA],this.2⟩
theorem Jm(hk:kaa k){A B:Tb}(oA:OkM k n A)(lA:A.length=n)(oB:OkM k n B):∀(t:Nat)(v:Nat->F),Rm φ (kry k A B t) v->Rm φ (kry k A B (t+1)) v
 | 0,v,h=>h.mono fun r ⟨x,hx,e⟩=>⟨x,wP _ hx,e⟩
 | t+1,v,h=>by
  have h':Rm φ (B ++(kry k A B t).map (imgR k A)) v:=h;obtain⟨a,b,ha,hb,ev⟩:=Rm.app.mp h';obtain⟨u,hu,eu⟩:=(Rm.img hk oA (YR hk oA lA oB t)).mp hb;exact Rm.app.mpr ⟨a,b,ha,(Rm.img hk oA (YR hk oA lA oB (t+1))).mpr ⟨u,Jm hk oA lA oB t u hu,eu⟩,ev⟩
theorem zeE(hk:kaa k){A B:Tb}(oA:OkM k n A)(lA:A.length=n)(oB:OkM k n B)(t:Nat):∀(d:Nat)(v:Nat->F),Rm φ (kry k A B t) v->Rm φ (kry k A B (t+d)) v
 | 0,v,h=>h
 | d+1,v,h=>Jm hk oA lA oB (t+d) v (zeE hk oA lA oB t d v h)
theorem JZ(hk:kaa k){A B:Tb}(oA:OkM k n A)(lA:A.length=n)(oB:OkM k n B){t:Nat}(s:∀ v,Rm φ (kry k A B (t+1)) v->Rm φ (kry k A B t) v):∀(d:Nat)(v:Nat->F),Rm φ (kry k A B (t+d)) v->Rm φ (kry k A B t) v
 | 0,v,h=>h
 | d+1,v,h=>by
  refine s v ?_;have h':Rm φ (B ++(kry k A B (t+d)).map (imgR k A)) v:=h;obtain⟨a,b,ha,hb,ev⟩:=Rm.app.mp h';obtain⟨u,hu,eu⟩:=(Rm.img hk oA (YR hk oA lA oB (t+d))).mp hb;exact Rm.app.mpr ⟨a,b,ha,(Rm.img hk oA (YR hk oA lA oB t)).mpr ⟨u,JZ hk oA lA oB s d u hu,eu⟩,ev⟩
theorem zbi(hk:kaa k){A B:Tb}(oA:OkM k n A)(lA:A.length=n)(oB:OkM k n B){t:Nat}(s:∀ v,Rm φ (kry k A B (t+1)) v->Rm φ (kry k A B t) v){m:Nat}(hm:t<=m)(v:Nat->F):Rm φ (kry k A B m) v↔Rm φ (kry k A B t) v:=by
 obtain⟨d,rfl⟩:=Nat.le.dest hm;exact⟨JZ hk oA lA oB s d v,zeE hk oA lA oB t d v⟩
theorem IsR.sub_len{U W:Tb}{lu lw:List Nat}(hU:IsR φ n U lu)(hW:IsR φ n W lw)(sub:∀ v,Rm φ U v->Rm φ W v):U.length<=W.length/\(W.length<=U.length->∀ v,Rm φ W v->Rm φ U v):=by
 have inc:=hU.inc;have inc':=hW.inc;have sb:∀ p∈lu,p∈lw:=fun p hp=>by
  obtain⟨v,hv,z,ne⟩:=(hU.lead_iff p).mp hp;exact(hW.lead_iff p).mpr ⟨v,sub v hv,z,ne⟩
 have ef:lu=lw.filter fun p=>decide (p∈lu):=Xm inc (inc'.filter _) (fun p hp=>vn.mpr ⟨sb p hp,decide_eq_true hp⟩) fun p hp=>of_decide_eq_true (vn.mp hp).2
 have le:lu.length<=lw.length:=by rw[ef];exact vY _ _
 refine⟨by rw[← hU.len,← hW.len];exact le,fun ge v hv=>?_⟩;have e:(lw.filter fun p=>decide (p∈lu)).length=lw.length:=by rw[← ef];rw[← hU.len,← hW.len]at ge;omega
 have sb':∀ p∈lw,p∈lu:=fun p hp=>of_decide_eq_true (List.length_filter_eq_length_iff.mp e p hp)
 obtain⟨u,hu,eu⟩:=hU.take_off v;have hd:Rm φ W (fun j=>v j +(-1)*u j):=hv.add ((sub u hu).smul (-1));have z:=hW.zero hd fun l hl=>by rw[eu l (sb' l hl)];grind
 exact hu.cast fun j=>by have:=z j;grind
end
end La
namespace La
open Lean.Grind Nm
end La
namespace La
open Lean.Grind Nm
section
variable{k:Int}{n:Nat}{F:Type}[Field F]{φ:Kf k F}
theorem zhT{R:Tb}{p:Nat}(hp:p<R.length):Rm φ R (nv φ (R.getD p [])):=.of ⟨_,by rw[wc,wb hp];exact wj hp,rfl⟩
end
end La
namespace La
open Lean.Grind Nm
end La
namespace La
open Lean.Grind Nm
section
variable{k:Int}{n:Nat}{F:Type}[Field F]{φ:Kf k F}
theorem rm_one1{r:List Nb}{v:Nat->F}:Rm φ [r] v↔∃ c:F,∀ j,v j=c*nv φ r j:=by
 constructor
 ·intro h;refine h.all (P:=fun v=>∃ c:F,∀ j,v j=c*nv φ r j) ⟨0,fun j=>by grind⟩ fun c r' v ⟨x,hx,e⟩ ⟨d,ev⟩=>?_
  rw[wm.mp hx]at e;exact⟨c+d,fun j=>by show c*r' j+v j=_;rw[e,ev j];grind⟩
 ·rintro ⟨c,e⟩
  have g:Rm φ [r] (nv φ r):=.of ⟨r,wm.mpr rfl,rfl⟩;exact(g.smul c).cast fun j=>(e j).symm
theorem rm_app1{M:Tb}{x:List Nb}{v:Nat->F}:Rm φ (M++[x]) v↔∃ u c,Rm φ M u/\∀ j,v j=u j+c*nv φ x j:=by
 rw[Rm.app]
 constructor
 ·rintro ⟨a,b,ha,hb,e⟩
  obtain⟨c,ec⟩:=rm_one1.mp hb;exact⟨a,c,ha,fun j=>by rw[e j,ec j]⟩
 ·rintro ⟨u,c,hu,e⟩
  exact⟨u,fun j=>c*nv φ x j,hu,rm_one1.mpr ⟨c,fun _=>rfl⟩,e⟩
theorem zdT{M N:Tb}{v:Nat->F}(h:∀ r∈M,r∈N)(hv:Rm φ M v):Rm φ N v:=hv.mono fun _ ⟨x,hx,e⟩=>⟨x,h x hx,e⟩
theorem xA{c i j:Nat}{M:Tb}(oM:OkM k c M)(hj:j<c):nv φ ((trF c M).getD j []) i=nv φ (M.getD i []) j:=by
 have e:(trF c M).getD j []=M.map fun r=>r.getD j (.z 0):=by rw[wc,zcI hj];rfl
 rw[e]
 rcases wK i M.length with h|h
 ·have g:M.getD i []=M[i]:=by rw[wc,wb h];rfl
  have o:=oM M[i] (wj h);rw[ym φ (x:=M[i].getD j (.z 0)) (by rw[we,wb h];rfl),g,zgP (by rw[o.1];exact hj)]
 ·rw[yC φ (by rw[wa];exact h),wc,wN h];exact(zc6 j).symm
theorem zav(T:Tb)(c:Nat->F):∀ m,Rm φ T (fun j=>dot m c (fun l=>nv φ (T.getD l []) j))
 | 0=>Span.cast .zero fun j=>rfl
 | m+1=>by
  have ih:=zav T c m
  rcases wK m T.length with h|h
  ·have g:Rm φ T (nv φ (T.getD m [])):=zhT h;exact(ih.add (g.smul (c m))).cast fun j=>rfl
  ·refine ih.cast fun j=>?_
   show _=dot m c _+c m*nv φ (T.getD m []) j;rw[wc,wN h];have:nv φ ((none:Option (List Nb)).getD []) j=0:=zc6 j;rw[this];grind
theorem zbV{A:Tb}(oA:OkM k n A)(lA:A.length=n)(u v:Nat->F):dot n (limg φ n (trF n A) u) v=dot n u (limg φ n A v):=by
 unfold limg;rw[JI n v (fun i=>nv φ (A.getD i [])) u n];refine yn fun j hj=>?_
 congr 1
 rw[yO n u];refine yn fun i _=>?_
 rw[xA oA hj]
end
end La
namespace L2
open PySem PySem.Spec PyProof.Rows Nm
def TopOk(X:Cx):Prop:=∃ env l,X.stack=env::l/\env.scope.isGenerator=false/\env.scope.isCoroutine=false/\env.builtins=builtinsNs/\env.globals=mainGlobals
theorem zQ{X:Cx}{k:Nat}(hr:Room k X.A)(hk:40<=k)(hP:X.prog.given.tree=none)(hS:X.base.NoSeer)(hT:TopOk X):OpR X (binaryOp .FloorDiv) (rI (fun _ j=>j≠0) fun i j=>.int (i.fdiv j)):=by
 intro pins s σ H x y v u Q I rx ry h;obtain⟨i,j,rfl,rfl,hc,q⟩:=h;obtain⟨t,rfl⟩:=rx;obtain⟨t',rfl⟩:=ry;obtain⟨env,l,e,h1,h2,h3,h4⟩:=hT;have hd:X.A.depth+Builtin.pylongFrames<recursionLimit:=by
  have:=hr.dp;have:Builtin.pylongFrames=100:=rfl;omega
 exact floordiv_int hc ⟨.int (i.fdiv j),H,I.tok _,⟨_,rfl⟩,q⟩ (.inr (PylongRoom.of I.nolimit hd (SeerAt.of (hS.keeps I.bk) hP (I.ok.frames.trans (congrArg some e)) h1 h2 h3 h4)))
def IRow(H:Hp)(ws:List Int)(a:Addr):Prop:=H a=some (.lst (ws.map V.int))
theorem IRow.mono{H H':Hp}{ws:List Int}{a:Addr}(h:IRow H ws a)(g:Same H H'):IRow H' ws a:=g _ _ h
structure NewT(H H':Hp)(M:Tb)(top:Addr)(ras:List Addr):Prop where
 tab:kag H' M top ras
 ft:H top=none
 fr:∀ r∈ras,H r=none
 nd:ras.Nodup
 nt:top∉ras
structure NewR(H H':Hp)(xs:List Nb)(a:Addr):Prop where
 row:kak H' xs a
 fa:H a=none
theorem Same.none{H H':Hp}(g:Same H H'){p:Addr}(h:H' p=none):H p=none:=by
 cases e:H p with
 | none=>rfl
 | some u=>rw[g _ _ e]at h;cases h
theorem yJ{H H':Hp}{p:Addr}{o:HO}(g:Same H H')(h:H p=none):Same H (upd H' p o):=fun b u q=>by
 rw[zN (zV q h)];exact g _ _ q
theorem kak.len{H:Hp}{xs:List Nb}{a:Addr}(h:kak H xs a):∃ vs,H a=some (.lst vs)/\Paired (RN H) xs vs/\vs.length=xs.length :=
 let ⟨vs,h1,h2⟩:=h
 ⟨vs,h1,h2,(zj h2).symm⟩
theorem YF{α β:Type}{R:α->β->Prop}:∀ {xs:List α} {ys:List β},xs.length=ys.length->(∀(i:Nat)(a:α)(b:β),xs[i]?=some a->ys[i]?=some b->R a b)->Paired R xs ys
 | [],[],_,_=>.nil
 | [],_::_,h,_=>by simp at h
 | _::_,[],h,_=>by simp at h
 | a::xs,b::ys,h,f=>.cons (f 0 a b rfl rfl) (YF (by simpa using h) fun i x y h1 h2=>f (i+1) x y (by simpa using h1) (by simpa using h2))
theorem jL{α β:Type}{R:α->β->Prop}{xs:List α}{ys:List β}{i:Nat}{a:α}{b:β}(h:Paired R xs ys)(h1:xs[i]?=some a)(h2:ys[i]?=some b):R a b:=by
 obtain⟨b',e,r⟩:=yl h h1;rw[h2]at e;cases e;exact r
theorem sm_one:Sm 1 1:=by unfold Sm;decide
theorem Ys(n:Nat):Sm n 0:=by unfold Sm;exact uR (by decide)
theorem zaM{n:Nat}{w d:Int}(h:Sm n w)(hd:d ∣ w):Sm n (w.fdiv d):=by
 rw[vE hd]
 by_cases z:d=0
 ·subst z;rw[Int.ediv_zero];exact Ys n
 ·have e:=uq hd;refine h.le ?_;have h1:(w / d*d).natAbs=w.natAbs:=by rw[e]
  rw[vv]at h1;rw[← h1];exact um _ (gv.mpr z)
theorem zcW{n:Nat}{w k:Int}(k0:0<k)(k9:k<2305843009213693952)(hn:61<=n):Sm n (w.fmod k) :=
 (Xn (wx w k0) (wH w k0) k9).mono hn
theorem zga{n:Nat}:∀ {ws:List Int},(∀ w∈ws,Sm n w)->Sm (n+ws.length) ws.sum
 | [],_=>by rw[waN];exact Ys _
 | w::ws,h=>by
  rw[List.sum_cons];have h1:=zga (ws:=ws) fun x hx=>h x (wo _ hx)
  have h2:=(h w wk).mono (wap n ws.length);exact(h2.add h1).mono (by rw[vy];omega)
theorem Jk{n:Nat}{k w:Int}(hk:kaa k)(h:Sm n w)(hn:61<=n):nsm n (nnum k w):=by
 unfold nnum
 split
 ·exact⟨h,Sm.mono (m:=1) sm_one (by omega)⟩
 ·rename_i k0;exact zcW (by have:=hk.lt;omega) hk.lt.2 hn
def gLst(K:PySem.W.Frag)(n:Nat)(t:TGs):TG:=fun v σ H Q=>∃ a xs,v=.ref a/\SqL K H a xs/\xs.length=n/\t xs σ H Q
theorem zhm{X:Cx}{pos:Pos}{es:List Expr}{k:Nat}{t:TGs}{n:Nat}(hc:X.calm=true)(h:PGs X es t)
  (hn:(assignEach es X.env).length=n:=by rfl) (hst:(assignEach es X.env).findIdx? (·.1)=none:=by rfl):PG X (.Tuple es k pos) (gLst X.K n t):=by
 intro pins s σ H v u Q I r hw;obtain⟨a,xs,e1,hq,hl,hw⟩:=hw;subst e1;cases r;obtain⟨its,rv,pl,hz⟩:=I.list hq;have e:(assignEach es X.env).length=its.toArray.size:=by simp[hn,← hl,rv.length]
 rw[assign_Tuple];refine wpAny_bind (wpAny_standAt ?_);unfold unpack;rw[e,hst];refine wpAny_bind (wpAny_holding (PySem.W.kun_itemsOf (I.ok.hd hc) pl.isList fun h' hx=>?_));have I1:Inv X pins σ H { s with heap:=h' }:=I.kept (t':=s.toks) fun b o e=>hx b o (wU (Heap.lt_size e)) e
 exact h pins _ σ H xs _ Q I1 (by simpa using rv) hw
theorem zeR{b d:Int}(hb:0<b)(hd:0<d):0<b.fdiv ((wS b d:Nat):Int)*d/\b ∣ b.fdiv ((wS b d:Nat):Int)*d/\d ∣ b.fdiv ((wS b d:Nat):Int)*d/\((wS b d:Nat):Int)≠0:=by
 have g0:0 <((wS b d:Nat):Int):=by have:=gW d (show b≠0 by omega);omega
 have db:((wS b d:Nat):Int) ∣ b:=uY b d;have dd:((wS b d:Nat):Int) ∣ d:=gw b d;have e1:=La.jE db (by omega);have e2:=La.jE dd (by omega);have p1:0<b.fdiv ((wS b d:Nat):Int):=by
  rcases waj 0 (b.fdiv ((wS b d:Nat):Int))with h|h|h
  ·exact h
  ·rw[← h]at e1;omega
  ·have:=Int.mul_neg_of_neg_of_pos h g0;omega
 refine⟨gZ p1 hd,⟨d.fdiv ((wS b d:Nat):Int),?_⟩,was _ _,by omega⟩;generalize b.fdiv ((wS b d:Nat):Int)=x at *;generalize d.fdiv ((wS b d:Nat):Int)=y at *;generalize ((wS b d:Nat):Int)=g at *;rw[← e1,← e2]
 grind
theorem QL{k:Int}{H:Hp}(k0:k≠0):∀ {xs:List Nb} {vs:List V},La.OkR k xs->Paired (RN H) xs vs->∃ is:List Int,xs=is.map Nb.z/\vs=is.map V.int
 | _,_,_,.nil=>⟨[],rfl,rfl⟩
 | x::xs,v::vs,h,.cons r t=>by
  obtain⟨is,e1,e2⟩:=QL k0 (fun y hy=>h y (wo _ hy)) t;have hx:=h x wk;cases x with
  | q a=>exact absurd hx k0
  | z i=>exact⟨i::is,by rw[e1];rfl,by rw[e2,r.z];rfl⟩
theorem zd2{k:Int}(k0:k≠0)(is:List Int):La.Scl k (is.map Nb.z) is 1 :=
 ⟨by rw[vO];exact(List.map_id'' (fun _=>rfl) is).symm,by decide,fun _=>rfl,fun x hx=>by
  obtain⟨i,_,rfl⟩:=wg.mp hx
  trivial⟩
theorem RN.upd{H:Hp}{x:Nb}{v:V}{t:Addr}{zs zs':List V}(h:RN H x v)(ht:H t=some (.lst zs)):RN (upd H t (.lst zs')) x v:=by
 cases x with
 | q r =>
  obtain⟨a,rfl,ha⟩:=h.q;exact RN.of_q (by rw[zN (fun e=>by rw[e,ht]at ha;cases ha)];exact ha)
 | z i=>rw[h.z];exact RN.of_z
theorem kak.upd{H:Hp}{xs:List Nb}{a t:Addr}{zs zs':List V}(h:kak H xs a)(ne:a≠t)(ht:H t=some (.lst zs)):kak (upd H t (.lst zs')) xs a :=
 let ⟨vs,h1,h2⟩:=h
 ⟨vs,by rw[zN ne];exact h1,jg (fun _ _ r=>r.upd ht) h2⟩
theorem kak.some{H:Hp}{xs:List Nb}{a:Addr}(h:kak H xs a):∃ o,H a=some o:=let ⟨vs,h1,_⟩:=h;⟨_,h1⟩
structure Grow(H H':Hp)(M:Tb)(ras:List Addr):Prop where
 same:Same H H'
 rows:Paired (kak H') M ras
 fr:∀ r∈ras,H r=none
 nd:ras.Nodup
theorem Grow.nil(H:Hp){H':Hp}(g:Same H H'):Grow H H' [] []:=⟨g,.nil,fun _ h=>(nomatch h),.nil⟩
section
variable{H H' H2:Hp}{M:Tb}{ras:List Addr}
theorem Grow.mono(G:Grow H H' M ras)(g:Same H' H2):Grow H H2 M ras:=⟨G.same.trans g,jg (fun _ _ r=>r.mono g) G.rows,G.fr,G.nd⟩
theorem Grow.not_mem(G:Grow H H' M ras){p:Addr}(hp:H' p=none):p∉ras:=fun hm=>by
 obtain⟨xs,_,h⟩:=qw G.rows hm;obtain⟨o,e⟩:=h.some;rw[hp]at e;cases e
theorem Grow.snoc(G:Grow H H' M ras){xs:List Nb}{vs:List V}{p:Addr}(hp:H' p=none)(hr:Paired (RN H') xs vs):Grow H (upd H' p (.lst vs)) (M++[xs]) (ras++[p]):=by
 have g:=zg hp (.lst vs);have G':=G.mono g;refine⟨G'.same,zZ G'.rows ⟨vs,zf,jj g hr⟩,fun r hr'=>?_,?_⟩
 ·rcases wt.mp hr' with h|h
  ·exact G.fr r h
  ·rw[wm.mp h];exact G.same.none hp
 ·rw[Gg];refine⟨G.nd,by simp,fun a ha b hb=>?_⟩;rw[wm.mp hb];exact fun e=>G.not_mem hp (by rw[← e];exact ha)
theorem Grow.done(G:Grow H H' M ras){top:Addr}(ht:H' top=none):NewT H (upd H' top (.lst (ras.map V.ref))) M top ras :=
 ⟨⟨zf,jg (fun _ _ r=>r.mono (zg ht _)) G.rows⟩,G.same.none ht,G.fr,G.nd,G.not_mem ht⟩
theorem Grow.push(G:Grow H H' M ras){t p:Addr}{xs:List Nb}{vs zs zs':List V}(tn:H t=none)(ht:H' t=some (.lst zs))(tr:t∉ras)(g:Same H' H2)(hp:H2 p=none)(hr:Paired (RN H2) xs vs) :
  Grow H (upd (upd H2 p (.lst vs)) t (.lst zs')) (M++[xs]) (ras++[p])/\t∉ras++[p]:=by
 have G1:=(G.mono g).snoc hp hr;have ht2:H2 t=some (.lst zs):=g _ _ ht;have tp:t≠p:=fun e=>by rw[e,hp]at ht2;cases ht2
 have ht3:upd H2 p (.lst vs) t=some (.lst zs):=by rw[zN tp];exact ht2
 have nm:t∉ras++[p]:=fun h=>by
  rcases wt.mp h with h|h
  ·exact tr h
  ·exact tp (wm.mp h)
 refine⟨⟨yJ G1.same tn,?_,G1.fr,G1.nd⟩,nm⟩;refine YF (zj G1.rows) fun i x a h1 h2=>(jL G1.rows h1 h2).upd (fun e=>nm ?_) ht3
 rw[← e];exact wd h2
end
def SclAt(H:Hp)(k:Int)(m:Nat)(xs:List Nb)(p:Addr):Prop:=∃ l ws b,H p=some (.tup [.ref l,.int b])/\IRow H ws l/\La.Scl k xs ws b/\Sm m b/\∀ w∈ws,Sm m w
theorem SclAt.mono{H H':Hp}{k:Int}{m:Nat}{xs:List Nb}{p:Addr}(h:SclAt H k m xs p)(g:Same H H'):SclAt H' k m xs p :=
 let ⟨l,ws,b,h1,h2,r⟩:=h
 ⟨l,ws,b,g _ _ h1,h2.mono g,r⟩
def kac(n:Nat)(M:Tb):Tb:=(vd n).map fun j=>M.map fun r=>r.getD j (.z 0)
theorem zk(n:Nat)(M:Tb):(kac n M).length=n:=by unfold kac;simp
theorem yV{n i:Nat}{M:Tb}(h:i<n):(kac n M)[i]?=some (M.map fun r=>r.getD i (.z 0)):=by unfold kac;simp[h]
theorem zL{k:Int}{n:Nat}{M:Tb}(h:La.OkM k n M):La.OkM k M.length (kac n M):=fun r hr=>by
 unfold kac at hr;obtain⟨j,hj,rfl⟩:=wg.mp hr;rw[vk]at hj;refine⟨wa _,fun x hx=>?_⟩;obtain⟨row,hrow,rfl⟩:=wg.mp hx;obtain⟨h1,h2⟩:=h row hrow;have hj':j<row.length:=by omega
 rw[wc,wb hj'];exact h2 _ (wj hj')
def kai(k:Int)(c:Nat)(M N:Tb):Tb:=M.map fun r=>(kac c N).map fun col=>La.ndot k r col
def imgM(k:Int)(M:Tb)(xs:List Nb):List Nb:=M.map fun r=>La.ndot k r xs
theorem tyes{σ:St}{H:Hp}{A B:Hp->Prop}(h:A H):tTrue σ H fun b H3=>if b=true then A H3 else B H3:=by
 show if true=true then A H else B H
 exact iteT h
theorem gyes{i:Nat}{x:V}{σ:St}{H:Hp}{A B:St->Hp->Prop}(h:A (σ.set i (some x)) H):gName i x σ H fun σ2 H2=>tTrue σ2 H2 fun b H3=>if b=true then A σ2 H3 else B σ2 H3:=by
 show if true=true then A (σ.set i (some x)) H else B (σ.set i (some x)) H
 exact iteT h
theorem zau{K:PySem.W.Frag}{te:TE}{σb:St}{t:Addr}{ras:List Addr}{M:Tb}{H:Hp}{R:List V->Hp->Prop}(hT:kag H M t ras)(hz:M.length<sizeLine)
  (hte:∀(a:Addr)(us:List V)(H':Hp)(Q:VK),H' a=some (.lst us)->(∀ l,H' l=none->Q (.ref l) (upd H' l (.lst us)))->te (σb.set 0 (some (.ref a))) H' Q)
  (hd:∀(ras2:List Addr)(H':Hp),Grow H H' M ras2->R (ras2.map V.ref) H') :
  ∃ W:Nat->Nat->List V->Hp->Prop,(∃ m,W 0 m [] H)/\∀ i m ys H,W i m ys H ->
   ((Itl K t).stop i H/\ys.length<=sizeLine/\R ys H) \/
   ((Itl K t).go i H/\ys.length<sizeLine/\∀ x H',(Itl K t).yld i H x H'->gName 0 x σb H' fun σ2 H2=>tTrue σ2 H2 fun b H3=>if b=true then te σ2 H3 fun y H4=>∃ m',m'<m/\W (i+1) m' (ys++[y]) H4 else ∃ m',m'<m/\W (i+1) m' ys H3):=by
 have hl:=zj hT.2;refine zO (xs:=ras.map V.ref) (fun i ys H'=>∃ ras2,ys=ras2.map V.ref/\Grow H H' (M.take i) ras2) ⟨[],rfl,Grow.nil H (Same.refl H)⟩ ?_ ?_ ?_
 ·rintro i ys H' hi ⟨ras2,rfl,G⟩
  refine⟨SqL.of (G.same _ _ hT.1),?_⟩;have:=zj G.rows;rw[wr]at this;rw[wa];omega
 ·rintro i v ys H' hv hi ⟨ras2,rfl,G⟩
  obtain⟨xs,a,hx,ha,rfl,hrow⟩:=(hT.mono G.same).row hv;obtain⟨us,hu,pu,lu⟩:=hrow.len;refine gyes ?_;refine hte a us H' _ hu fun l hl'=>?_
  refine nxt hi ⟨ras2++[l],by rw[wu];rfl,?_⟩;rw[zy hx];exact G.snoc hl' pu
 ·rintro ys H' ⟨ras2,rfl,G⟩
  rw[wa,wv (by omega)]at G;exact hd ras2 H' G
def intsD(ns:List Int):PyData:=.list (ns.map .int)
theorem QD(ns:List Int):(intsD ns).canLay0=true:=jm PyData.int (fun _=>rfl) ns
theorem zaB(ns:List Int):(intsD ns).depth<=1:=gz (xt PyData.int 0 (fun _=>ww _) ns)
theorem zbf{H:Hp}:∀(ns:List Int),Rps H (ns.map PyData.int) (ns.map V.int)
 | []=>by simp[Rps]
 | n::ns=>by
  simp only[uL,Rps];exact⟨_,_,rfl,by simp only[Rp],zbf ns⟩
theorem zcD{H:Hp}{ns:List Int}{a:Addr}(h:H a=some (.lst (ns.map V.int))):Rp H (intsD ns) (.ref a):=by
 simp only[intsD,Rp];exact⟨a,_,rfl,h,zbf ns⟩
theorem zdD{H:Hp}{ds:List PyData}{vs:List V}{a:Addr}(h:H a=some (.lst vs))(r:Rps H ds vs):Rp H (.list ds) (.ref a):=by
 simp only[Rp];exact⟨a,_,rfl,h,r⟩
theorem zeV{H:Hp}{d:PyData}{ds:List PyData}{v:V}{vs:List V}(h:Rp H d v)(r:Rps H ds vs):Rps H (d::ds) (v::vs):=by
 simp only[Rps];exact⟨_,_,rfl,h,r⟩
theorem zha{H:Hp}:Rps H [] []:=by simp only[Rps]
section
variable{X:Cx}{K:PySem.W.Frag}
theorem zba(hK:X.K=K):IxR X (rIxL K):=hK ▸ zes
theorem za6(hK:X.K=K):IxR X (rIxT K):=hK ▸ zgf
theorem JP(hK:X.K=K):SlR X (rSlL K):=hK ▸ zdc
theorem Zc (hK:X.K=K):CallR X (.builtin "len") (fun xs H Q=>∃ p ys,xs=[.ref p]/\(SqL K H p ys\/SqT K H p ys)/\Q (.int ys.length) H):=hK ▸ QM
theorem zce (hK:X.K=K):CallR X (.type "list") (fun xs H Q=>∃ p ys,xs=[.ref p]/\(SqL K H p ys\/SqT K H p ys)/\∀ l,H l=none->Q (.ref l) (upd H l (.lst ys))):=hK ▸ QJ
theorem yX (hK:X.K=K):CallR X (.builtin "isinstance") (rIsi K):=hK ▸ zfE
theorem zeD (hc:X.calm=true) (hK:X.K=K):CallR X (.builtin "sum") (fun xs H Q=>∃ p ns,xs=[.ref p]/\SqL K H p ((ns:List Int).map V.int)/\Q (.int ns.sum) H):=hK ▸ zdI hc
theorem zc0{pos:Pos}{es:List Expr}{k:Nat}{t:TGs}(n:Nat)(hK:X.K=K)(hc:X.calm=true)(h:PGs X es t)
  (hn:(assignEach es X.env).length=n:=by rfl) (hst:(assignEach es X.env).findIdx? (·.1)=none:=by rfl):PG X (.Tuple es k pos) (gTup K n t):=hK ▸ zhq hc h hn hst
theorem zgu{pos:Pos}{es:List Expr}{k:Nat}{t:TGs}(n:Nat)(hK:X.K=K)(hc:X.calm=true)(h:PGs X es t)
  (hn:(assignEach es X.env).length=n:=by rfl) (hst:(assignEach es X.env).findIdx? (·.1)=none:=by rfl):PG X (.Tuple es k pos) (gLst K n t):=hK ▸ zhm hc h hn hst
end
end L2
namespace L2
open PySem PySem.Spec PyProof.Rows Nm
def IRs(H:Hp)(Ws:List (List Int))(t:Addr)(ras:List Addr):Prop:=H t=some (.lst (ras.map V.ref))/\Paired (IRow H) Ws ras
theorem qu{H H':Hp}(g:Same H H'){Ws:List (List Int)}{ras:List Addr}(h:Paired (IRow H) Ws ras):Paired (IRow H') Ws ras:=jg (fun _ _ r=>r.mono g) h
theorem IRs.mono{H H':Hp}{Ws:List (List Int)}{t:Addr}{ras:List Addr}(h:IRs H Ws t ras)(g:Same H H'):IRs H' Ws t ras:=⟨g _ _ h.1,qu g h.2⟩
theorem IRs.row{H:Hp}{Ws:List (List Int)}{t:Addr}{ras:List Addr}{i:Nat}{v:V}(h:IRs H Ws t ras)(e:(ras.map V.ref)[i]?=some v):∃ ws a,Ws[i]?=some ws/\ras[i]?=some a/\v=.ref a/\IRow H ws a:=by
 rw[we]at e;obtain⟨a,ha,rfl⟩:=wG.mp e;obtain⟨xs,hx,r⟩:=zW h.2 ha;exact⟨xs,a,hx,ha,rfl,r⟩
theorem IRow.ne{H:Hp}{ws:List Int}{a t:Addr}{rs:List Addr}(h:IRow H ws a)(hw:ws≠[])(ht:H t=some (.lst (rs.map V.ref))):a≠t:=fun e=>by
 subst e;unfold IRow at h;rw[ht]at h;cases ws with
 | nil=>exact hw rfl
 | cons w ws =>
  cases rs with
  | nil=>cases h
  | cons r rs=>cases h
theorem jd{H:Hp}{t:Addr}{rs:List Addr}{o:HO}(ht:H t=some (.lst (rs.map V.ref))){Ws:List (List Int)}{ras:List Addr}(h:Paired (IRow H) Ws ras)(hw:∀ ws∈Ws,ws≠[]):Paired (IRow (upd H t o)) Ws ras :=
 YF (zj h) fun i ws a h1 h2=>by
  have r:=jL h h1 h2;show upd H t o a=_;rw[zN (r.ne (hw ws (wd h1)) ht)];exact r
theorem Xo{H:Hp}{ws:List Int}{a:Addr}{j:Nat}(h:IRow H ws a)(hj:j<ws.length):atI (ws.map V.int) (0 +(j:Int))=some (.int (ws.getD j 0)):=by
 rw[vF];refine zD ?_;rw[we,wc,wb hj];rfl
theorem cut1(xs:List V):cutV xs (some 1) none=xs.drop 1:=by
 unfold cutV;cases xs with
 | nil=>rfl
 | cons x xs =>
  rw[show(1:Int) =((1:Nat):Int)from rfl,HT.Yt,HT.qK];simp
def SzS(b:Nat)(s:List (Nat×List Int)×List (List Int)):Prop:=(∀ p∈s.1,∀ w∈p.2,Sm b w)/\∀ r∈s.2,∀ w∈r,Sm b w
theorem Qb{k:Int}(hk:kaa k){b:Nat}(h7:61<=b){ws:List Int}(h:∀ w∈ws,Sm b w):∀ w∈La.kaj k ws,Sm b w:=fun w hw=>by
 unfold La.kaj at hw
 split at hw
 ·rename_i k0;obtain⟨x,_,rfl⟩:=wg.mp hw;exact zcW (by have:=hk.lt;omega) hk.lt.2 h7
 ·split at hw
  ·exact h w hw
  ·obtain⟨x,hx,rfl⟩:=wg.mp hw;exact zaM (h x hx) (La.zbv hx)
theorem qC{b:Nat}{ws:List Int}(h:∀ w∈ws,Sm b w)(c:Nat):Sm b (ws.getD c 0):=by
 rcases wK c ws.length with g|g
 ·rw[wc,wb g];exact h _ (wj g)
 ·rw[wc,wN g];exact Ys b
theorem zfA{b:Nat}{row lead:List Int}(hl:row.length=lead.length)(h1:∀ w∈row,Sm b w)(h2:∀ w∈lead,Sm b w)(c:Nat):∀ w∈La.mixed row lead c,Sm (2*b+1) w:=fun w hw=>by
 obtain⟨j,hj,e⟩:=wQ hw;have e2:=La.XN hl c j;rw[wc,wb hj]at e2;have e3:w=lead.getD c 0*row.getD j 0 - row.getD c 0*lead.getD j 0:=by rw[← e,← e2];rfl
 rw[e3];exact(((qC h2 c).mul (qC h1 j)).sub ((qC h1 c).mul (qC h2 j))).mono (by omega)
theorem Xz{k:Int}(hk:kaa k){b:Nat}(h7:61<=b){row lead:List Int}(hl:row.length=lead.length)(h1:∀ w∈row,Sm b w)(h2:∀ w∈lead,Sm b w)(c:Nat):∀ w∈La.kaf k lead c row,Sm (2*b+1) w:=by
 unfold La.kaf
 split
 ·exact fun w hw=>(h1 w hw).mono (by omega)
 ·exact Qb hk (by omega) (zfA hl h1 h2 c)
theorem SzS.turn{k:Int}(hk:kaa k){n c b:Nat}(h7:61<=b){s:List (Nat×List Int)×List (List Int)}(f:La.Fine k n s)(h:SzS b s):SzS (2*b+1) (La.kal k c s):=by
 unfold La.kal;cases e:s.2.filter (fun r=>decide (r.getD c 0≠0))with
 | nil=>exact⟨fun p hp w hw=>(h.1 p hp w hw).mono (by omega),fun p hp w hw=>(h.2 p hp w hw).mono (by omega)⟩
 | cons l rest =>
  have sub:∀ r∈l::rest,r∈s.2:=fun r hr=>by rw[← e]at hr;exact(vn.mp hr).1
  have hl:=sub l wk;refine⟨fun p hp=>?_,fun r hr=>?_⟩
  ·rcases wt.mp hp with hp|hp
   ·obtain⟨q,hq,rfl⟩:=wg.mp hp;exact Xz hk h7 (by rw[f.dl q hq,f.wl l hl]) (h.1 q hq) (h.2 l hl) c
   ·rw[wm.mp hp];exact fun w hw=>(h.2 l hl w hw).mono (by omega)
  ·rcases wt.mp hr with hr|hr
   ·exact fun w hw=>(h.2 r (vn.mp hr).1 w hw).mono (by omega)
   ·obtain⟨q,hq,rfl⟩:=wg.mp hr;have hq2:=sub q (wo _ hq);exact Xz hk h7 (by rw[f.wl q hq2,f.wl l hl]) (h.2 q hq2) (h.2 l hl) c
theorem zgV{k:Int}(hk:kaa k){n b:Nat}(h7:61<=b){rows:List (List Int)}(hl:∀ r∈rows,r.length=n)(h:∀ r∈rows,∀ w∈r,Sm b w):∀ c,SzS ((b+1)*2^c - 1) (La.swTo k rows c)
 | 0=>⟨fun p hp=>(nomatch hp),fun r hr w hw=>by
   obtain⟨x,hx,rfl⟩:=wg.mp hr;exact(Qb hk h7 (h x hx) w hw).mono (by omega)⟩
 | c+1=>by
  have ih:=zgV hk h7 hl h c;have h1:2^c ≥ 1:=gY;have h2:(b+1)*1<=(b+1)*2^c:=vp _ h1;have e:(b+1)*2^(c+1) - 1=2 *((b+1)*2^c - 1)+1:=by
   rw[gr];have:(b+1) *(2^c*2) =(b+1)*2^c*2:=by rw[Gh]
   omega
  rw[e];exact SzS.turn hk (by omega) (La.Fine.to hk.lt.1 hl c) ih
end L2
namespace L2
open PySem PySem.Spec PyProof.Rows Nm
theorem zdj{α β:Type}{R:α->β->Prop}{xs:List α}{ys:List β}(h:Paired R xs ys)(i:Nat){a:α}{b:β}(r:R a b):Paired R (xs.set i a) (ys.set i b):=by
 refine YF (by rw[vf,vf];exact zj h) fun j x y h1 h2=>?_
 by_cases e:i=j
 ·subst e;have l1:i<xs.length:=by have:=(wp.mp h1).1;rw[vf]at this;exact this
  have l2:i<ys.length:=by rw[← zj h];exact l1
  rw[uJ l1]at h1;rw[uJ l2]at h2;cases h1;cases h2;exact r
 ·rw[gK e]at h1 h2;exact jL h h1 h2
theorem Yy{H:Hp}{M:Tb}{t p:Addr}{ras:List Addr}(hT:kag H M t ras)(hp:H p=none):p∉ras:=fun hm=>by
 obtain⟨xs,_,h⟩:=qw hT.2 hm;obtain⟨o,e⟩:=h.some;rw[hp]at e;cases e
theorem YX{n j:Nat}(h:j<n):ixN n (j:Int)=some j:=by
 unfold ixN;rw[if_pos (by omega),if_pos (by omega)];simp
theorem zhz{k:Int}(hk:kaa k){D B m:Nat}{x:Nb}(h:La.dB D B x)(ox:x.ok k)(hD0:D≠0)(hD:D<2^m)(hB:B<2^m)(m7:61<=m):nsm m x:=by
 cases x with
 | q r =>
  obtain⟨h1,h2⟩:=La.dB.parts hD0 h;refine⟨ud h2 hB,?_⟩;show((r.den:Nat):Int).natAbs<2^m;rw[vH];exact ud h1 hD
 | z i =>
  have:=hk.lt;exact(Xn ox.2.1 ox.2.2 this.2).mono m7
def natV(L:List Nat):List V:=L.map fun(l:Nat)=>V.int (l:Int)
theorem YM{t u:TS}{D:Ends}{σ:St}{H:Hp}(N:St->Hp->Prop)(hN:∀ σ H,N σ H->u D σ H)(h:(∀ σ H,N σ H->u D σ H)->t { D with nx:=u D } σ H):tSeq t u D σ H:=h hN
end L2
namespace L2
open PySem PySem.Spec PyProof.Rows Nm
theorem zgo{R:Nb->V->Prop}{x:Nb}{v:V}(r:R x v):∀ n:Nat,Paired R (vD n x) (vD n v)
 | 0=>.nil
 | n+1=>by rw[gS,gS];exact .cons r (zgo r n)
theorem zgW{k:Int}{F:Type}[Lean.Grind.Field F]{φ:La.Kf k F}(hk:kaa k){n i l:Nat}{R:Tb}{ls:List Nat}{r:List Nb}(h:La.IsR φ n R ls)(hr:R[i]?=some r)(hl:ls[i]?=some l) :
  l<n/\(∀ j,j<l->r[j]?=some (nnum k 0))/\r[l]?=some (nnum k 1):=by
 have o:=h.ok r (wd hr);have hp:=La.zcK (xs:=ls) (ys:=R.map (La.nv φ)) (i:=i) (a:=l) (b:=La.nv φ r) hl (by rw[we,hr];rfl);have ln:l<n:=h.rr.lt _ hp;have val:∀ j,j<n->∀ y:Nb,y.ok k->La.nv φ r j=φ.to y->r[j]?=some y:=fun j hj y oy e=>by
  have hj':j<r.length:=by rw[o.1];exact hj
  rw[La.ym φ (wb hj')]at e;rw[wb hj',φ.inj (o.2 _ (wj hj')) oy e]
 refine⟨ln,fun j hj=>val j (by omega) _ (La.yg hk 0) ?_,val l ln _ (La.yg hk 1) ?_⟩
 ·rw[φ.num0];exact h.rr.bef _ hp j hj
 ·rw[φ.num1];exact h.rr.one _ hp
theorem num01{k:Int}(hk:kaa k):nnum k 1≠nnum k 0:=fun e=>by
 obtain⟨F,_,_,⟨φ⟩⟩:=La.yQ hk;have:=congrArg φ.to e;rw[φ.num0,φ.num1]at this;exact Lean.Grind.Field.zero_ne_one this.symm
theorem zdx(r x y:Rat):vB (r.num*x.den*y.den+x.num*y.num*r.den) (r.den*x.den*y.den)=r+x*y:=by
 rw[wai];have h1:r *((r.den:Int):Rat) =((r.num:Int):Rat):=La.kfRat.rat r rfl;have h2:x *((x.den:Int):Rat) =((x.num:Int):Rat):=La.kfRat.rat x rfl;have h3:y *((y.den:Int):Rat) =((y.num:Int):Rat):=La.kfRat.rat y rfl;have n1:((r.den:Int):Rat)≠0:=fun z=>jf r (uo.mp z)
 have n2:((x.den:Int):Rat)≠0:=fun z=>jf x (uo.mp z)
 have n3:((y.den:Int):Rat)≠0:=fun z=>jf y (uo.mp z)
 rw[GA,wV,wV,wV,wV,wV,wV];generalize ((r.den:Int):Rat)=a at *;generalize ((x.den:Int):Rat)=b at *;generalize ((y.den:Int):Rat)=c at *;generalize ((r.num:Int):Rat)=a' at *;generalize ((x.num:Int):Rat)=b' at *;generalize ((y.num:Int):Rat)=c' at *
 grind
end L2
namespace L2
open PySem PySem.Spec PyProof.Rows Nm
theorem zbd{k:Int}(hk:kaa k){m n:Nat}(m7:61<=m):∀(l:List (Nb×Nb)),(∀ p∈l,p.1.ok k/\p.2.ok k/\nsm m p.1/\nsm n p.2)->∀ s:Nb,s.ok k->∀ T,61<=T->nsm T s->nsm (T+l.length *(m+n+1)) (l.foldl (fun s p=>nadd k s (nmul k p.1 p.2)) s)
 | [],_,s,_,T,_,h=>by simpa using h
 | p::l,hl,s,os,T,t7,h=>by
  obtain⟨o1,o2,s1,s2⟩:=hl p wk;have om:=La.yD hk o1 o2;have step:nsm (T +(m+n+1)) (nadd k s (nmul k p.1 p.2)):=by
   obtain⟨x,y⟩:=p
   rcases qF o1 o2 with⟨k0,r,t,rfl,rfl⟩|⟨k0,i,j,rfl,rfl,_⟩
   ·cases s with
    | z i=>exact absurd k0 os.1
    | q u =>
     show Sm _ (u+r*t).num/\Sm _ ((u+r*t).den:Int);rw[← zdx];have hb:(u.den:Int)*r.den*t.den≠0:=gO (gO (jf u) (jf r)) (jf t);have st:Sm (T+m+n+1) (u.num*r.den*t.den+r.num*t.num*u.den):=((h.1.mul s1.2).mul s2.2).add (((s1.1.mul s2.1).mul h.2).mono (by omega));have d:=jR hb st ((h.2.mul s1.2).mul s2.2);exact⟨d.1.mono (by omega),d.2.mono (by omega)⟩
   ·cases s with
    | q u=>exact absurd (show k=0 from os) k0
    | z u=>exact(zhj hk k0 (by omega) _:nsm (T +(m+n+1)) (.z _))
  have:=zbd hk m7 l (fun q hq=>hl q (wo _ hq)) _ (La.YV hk os om) _ (by omega) step;rw[waA];refine this.mono ?_;rw[vy,vt];omega
theorem zcl{k:Int}(hk:kaa k){m n:Nat}(m7:61<=m){xs ys:List Nb}(ox:La.OkR k xs)(oy:La.OkR k ys)(sx:∀ x∈xs,nsm m x)(sy:∀ y∈ys,nsm n y):nsm (61+xs.length *(m+n+1)) (La.ndot k xs ys):=by
 unfold La.ndot La.ndotF;have h:=zbd hk (n:=n) m7 (xs.zip ys) (fun p hp=>by
  obtain⟨a,b⟩:=p;obtain⟨h1,h2⟩:=wZ hp;exact⟨ox _ h1,oy _ h2,sx _ h1,sy _ h2⟩) (nnum k 0) (La.yg hk 0) 61 (by decide) (Jk hk (Ys 61) (by decide))
 refine h.mono ?_;rw[uh];have:min xs.length ys.length *(m+n+1)<=xs.length *(m+n+1):=vh _ (vI _ _);omega
theorem zbp{k:Int}(hk:kaa k)(k0:k≠0){x:Nb}(h:x.ok k):nsm 61 x:=by
 cases x with
 | q r=>exact absurd (show k=0 from h) k0
 | z i=>exact Xn h.2.1 h.2.2 hk.lt.2
structure ROk(k:Int)(n m:Nat)(xs:List Nb):Prop where
 len:xs.length=n
 ok:La.OkR k xs
 sz:∀ x∈xs,nsm m x
structure TOk(k:Int)(r c m:Nat)(M:Tb):Prop where
 len:M.length=r
 ok:La.OkM k c M
 sz:∀ r∈M,∀ x∈r,nsm m x
theorem TOk.up{k:Int}{r c m m':Nat}{M:Tb}(h:TOk k r c m M)(hm:m<=m'):TOk k r c m' M:=⟨h.len,h.ok,fun r hr x hx=>(h.sz r hr x hx).mono hm⟩
theorem TOk.row{k:Int}{r c m:Nat}{M:Tb}(h:TOk k r c m M){x:List Nb}(hx:x∈M):ROk k c m x:=⟨(h.ok x hx).1,(h.ok x hx).2,h.sz x hx⟩
theorem zdz{k:Int}{r c m:Nat}{M:Tb}(hM:TOk k r c m M):TOk k c r m (kac c M):=by
 refine⟨zk _ _,by have:=zL hM.ok;rw[hM.len]at this;exact this,fun q hq x hx=>?_⟩;unfold kac at hq;obtain⟨j,hj,rfl⟩:=wg.mp hq;rw[vk]at hj;obtain⟨row,hrow,rfl⟩:=wg.mp hx;have hj':j<row.length:=by have:=(hM.ok row hrow).1;omega
 rw[wc,wb hj'];exact hM.sz row hrow _ (wj hj')
theorem zfn{k:Int}(hk:kaa k){r b c m m':Nat}(m7:61<=m){M N:Tb}(hM:TOk k r b m M)(hN:TOk k b c m' N):TOk k r c (61+b *(m+m'+1)) (kai k c M N):=by
 have hT:=zdz hN;refine⟨by unfold kai;rw[wa,hM.len],fun q hq=>?_,fun q hq x hx=>?_⟩
 all_goals
  unfold kai at hq;obtain⟨row,hr,rfl⟩:=wg.mp hq
 ·refine⟨by rw[wa,zk],fun x hx=>?_⟩;obtain⟨col,hc,rfl⟩:=wg.mp hx;exact La.xH hk (hM.ok row hr).2 (hT.ok col hc).2
 ·obtain⟨col,hc,rfl⟩:=wg.mp hx;have:=zcl hk m7 (hM.ok row hr).2 (hT.ok col hc).2 (hM.sz row hr) (hT.sz col hc);rw[(hM.ok row hr).1]at this;exact this
structure MOk(k:Int)(n h s m:Nat)(A B C:Tb):Prop where
 a:TOk k n n m A
 b:TOk k n h m B
 c:TOk k s n m C
structure kat(H:Hp)(A B C:Tb)(p ta tb tc:Addr)(ra rb rc:List Addr):Prop where
 tup:H p=some (.tup [.ref ta,.ref tb,.ref tc])
 a:kag H A ta ra
 b:kag H B tb rb
 c:kag H C tc rc
theorem kat.mono{H H':Hp}{A B C:Tb}{p ta tb tc:Addr}{ra rb rc:List Addr}(h:kat H A B C p ta tb tc ra rb rc)(g:Same H H'):kat H' A B C p ta tb tc ra rb rc:=⟨g _ _ h.tup,h.a.mono g,h.b.mono g,h.c.mono g⟩
end L2
namespace L2
open PySem PySem.Spec PyProof.Rows Nm
theorem kag.upd{H:Hp}{M:Tb}{t p:Addr}{ras:List Addr}{zs zs':List V}(h:kag H M t ras)(ht:t≠p)(hr:p∉ras)(hp:H p=some (.lst zs)):kag (upd H p (.lst zs')) M t ras:=by
 refine⟨by rw[zN ht];exact h.1,YF (zj h.2) fun i x a h1 h2=>(jL h.2 h1 h2).upd (fun e=>hr ?_) hp⟩;rw[← e];exact wd h2
theorem kag.rsome{H:Hp}{M:Tb}{t:Addr}{ras:List Addr}(h:kag H M t ras){r:Addr}(hr:r∈ras):∃ o,H r=some o:=by
 obtain⟨xs,_,hx⟩:=qw h.2 hr;exact hx.some
def adr(rs:List (List Addr))(i j:Nat):Option Addr:=(rs[i]?).bind (·[j]?)
theorem qB{rs:List (List Addr)}{ras:List Addr}{i j:Nat}(h:i<rs.length):adr (rs++[ras]) i j=adr rs i j:=by unfold adr;rw[wO h]
theorem jx{rs:List (List Addr)}{ras:List Addr}{j:Nat}:adr (rs++[ras]) rs.length j=ras[j]?:=by unfold adr;rw[wJ (ww _),vQ];rfl
theorem Jq{rs:List (List Addr)}{i j:Nat}{a:Addr}(h:adr rs i j=some a):∃ ras,rs[i]?=some ras/\ras[j]?=some a:=by
 unfold adr at h;exact Option.bind_eq_some_iff.mp h
structure kah(H H':Hp)(Ms:List (Tb))(ts:List Addr)(rs:List (List Addr)):Prop where
 same:Same H H'
 lt:ts.length=Ms.length
 lr:rs.length=Ms.length
 tabs:∀(i:Nat) M t ras,Ms[i]?=some M->ts[i]?=some t->rs[i]?=some ras->kag H' M t ras
 frt:∀ t∈ts,H t=none
 frr:∀ ras∈rs,∀ r∈ras,H r=none
 nd:ts.Nodup
 sep:∀ t∈ts,∀ ras∈rs,t∉ras
 inj:∀ i j i' j' a,adr rs i j=some a->adr rs i' j'=some a->i=i'/\j=j'
theorem kah.nil{H H':Hp}(g:Same H H'):kah H H' [] [] [] :=
 ⟨g,rfl,rfl,fun i M t ras h=>by simp at h,fun t h=>(nomatch h),fun r h=>(nomatch h),.nil,fun t h=>(nomatch h),fun i j i' j' a h=>by simp[adr]at h⟩
section
variable{H H' H2:Hp}{Ms:List (Tb)}{ts:List Addr}{rs:List (List Addr)}
theorem kah.mono(G:kah H H' Ms ts rs)(g:Same H' H2):kah H H2 Ms ts rs:=⟨G.same.trans g,G.lt,G.lr,fun i M t ras h1 h2 h3=>(G.tabs i M t ras h1 h2 h3).mono g,G.frt,G.frr,G.nd,G.sep,G.inj⟩
theorem kah.get(G:kah H H' Ms ts rs){i:Nat}(hi:i<Ms.length):∃ M t ras,Ms[i]?=some M/\ts[i]?=some t/\rs[i]?=some ras/\kag H' M t ras :=
 ⟨_,_,_,wb hi,wb (by rw[G.lt];exact hi),wb (by rw[G.lr];exact hi),G.tabs i _ _ _ (wb hi) (wb (by rw[G.lt];exact hi)) (wb (by rw[G.lr];exact hi))⟩
theorem kah.tsome(G:kah H H' Ms ts rs){t:Addr}(h:t∈ts):∃ o,H' t=some o:=by
 obtain⟨i,hi,rfl⟩:=wQ h;obtain⟨M,t',ras,h1,h2,h3,h4⟩:=G.get (i:=i) (by rw[← G.lt];exact hi);rw[wb hi]at h2;cases h2;exact⟨_,h4.1⟩
theorem kah.rsome(G:kah H H' Ms ts rs){ras:List Addr}{r:Addr}(h:ras∈rs)(hr:r∈ras):∃ o,H' r=some o:=by
 obtain⟨i,hi,rfl⟩:=wQ h;obtain⟨M,t',ras',h1,h2,h3,h4⟩:=G.get (i:=i) (by rw[← G.lr];exact hi);rw[wb hi]at h3;cases h3;exact h4.rsome hr
theorem kah.push(G:kah H H' Ms ts rs){M:Tb}{t:Addr}{ras:List Addr}(g:Same H' H2)(N:NewT H' H2 M t ras):kah H H2 (Ms++[M]) (ts++[t]) (rs++[ras]):=by
 have ot:∀ x∈ts,x≠t:=fun x hx e=>by
  obtain⟨o,ho⟩:=G.tsome hx;rw[e,N.ft]at ho;cases ho
 have olds:∀ x∈rs,∀ r∈x,r∉ras:=fun x hx r hr h=>by
  obtain⟨o,ho⟩:=G.rsome hx hr;rw[N.fr r h]at ho;cases ho
 refine⟨G.same.trans g,by simp[G.lt],by simp[G.lr],fun i M' t' ras' h1 h2 h3=>?_,fun x hx=>?_,fun x hx r hr=>?_,?_,fun x hx y hy=>?_,fun i j i' j' a h1 h2=>?_⟩
 ·rcases wK i Ms.length with h|h
  ·rw[wO h]at h1;rw[wO (by rw[G.lt];exact h)]at h2;rw[wO (by rw[G.lr];exact h)]at h3;exact(G.tabs i M' t' ras' h1 h2 h3).mono g
  ·have e:i=Ms.length:=by
    have:=(wp.mp h1).1;simp at this;omega
   subst e;rw[wJ (ww _),vQ]at h1;rw[← G.lt,wJ (ww _),vQ]at h2;rw[← G.lr,wJ (ww _),vQ]at h3;cases h1;cases h2;cases h3;exact N.tab
 ·rcases wt.mp hx with h|h
  ·exact G.frt x h
  ·rw[wm.mp h];exact G.same.none N.ft
 ·rcases wt.mp hx with h|h
  ·exact G.frr x h r hr
  ·rw[wm.mp h]at hr;exact G.same.none (N.fr r hr)
 ·rw[Gg];exact⟨G.nd,by simp,fun x hx y hy=>by rw[wm.mp hy];exact ot x hx⟩
 ·rcases wt.mp hx with h|h
  ·rcases wt.mp hy with h'|h'
   ·exact G.sep x h y h'
   ·rw[wm.mp h'];intro hm;obtain⟨o,ho⟩:=G.tsome h;rw[N.fr x hm]at ho;cases ho
  ·rw[wm.mp h]
   rcases wt.mp hy with h'|h'
   ·intro hm;obtain⟨o,ho⟩:=G.rsome h' hm;rw[N.ft]at ho;cases ho
   ·rw[wm.mp h'];exact N.nt
 ·have lim:∀ i j,adr (rs++[ras]) i j=some a->i<=rs.length:=fun i j h=>by
   obtain⟨x,hx,_⟩:=Jq h;have:=(wp.mp hx).1;simp at this;omega
  have mem:∀ i j,i<rs.length->adr (rs++[ras]) i j=some a->∃ x∈rs,a∈x:=fun i j hi h=>by
   rw[qB hi]at h;obtain⟨x,hx,hx'⟩:=Jq h;exact⟨x,wd hx,wd hx'⟩
  rcases wK i rs.length with h|h <;> rcases wK i' rs.length with h'|h'
  ·rw[qB h]at h1;rw[qB h']at h2;exact G.inj i j i' j' a h1 h2
  ·obtain⟨x,hx,ha⟩:=mem i j h h1;have e:i'=rs.length:=uk (lim i' j' h2) h';rw[e,jx]at h2;exact absurd (wd h2) (olds x hx a ha)
  ·obtain⟨x,hx,ha⟩:=mem i' j' h' h2;have e:i=rs.length:=uk (lim i j h1) h;rw[e,jx]at h1;exact absurd (wd h1) (olds x hx a ha)
  ·have e:i=rs.length:=uk (lim i j h1) h;have e':i'=rs.length:=uk (lim i' j' h2) h';rw[e,jx]at h1;rw[e',jx]at h2;exact⟨by omega,(wak (wp.mp h1).1 N.nd).mp (h1.trans h2.symm)⟩
theorem kah.updAt(G:kah H H' Ms ts rs){p:Addr}{zs zs':List V}(hp:H p=none)(h:H' p=some (.lst zs))(nt:p∉ts)(nr:∀ ras∈rs,p∉ras):kah H (upd H' p (.lst zs')) Ms ts rs :=
 ⟨yJ G.same hp,G.lt,G.lr,fun i M t ras h1 h2 h3=>(G.tabs i M t ras h1 h2 h3).upd (fun e=>nt (by rw[← e];exact wd h2)) (nr ras (wd h3)) h,G.frt,G.frr,G.nd,G.sep,G.inj⟩
end
def tabsD(Ms:List (Tb)):PyData:=.list (Ms.map tabD)
theorem jn(Ms:List (Tb)):(tabsD Ms).canLay0=true:=jm tabD zfp Ms
theorem qE(Ms:List (Tb)):(tabsD Ms).depth<=4:=gz (xt tabD 3 zb0 Ms)
theorem XV(Ms:List (Tb)):PyData.eqv (tabsD Ms) (tabsD Ms)=true:=qt tabD zcG Ms
theorem zdh{α:Type}{H:Hp}(f:α->PyData):∀(xs:List α)(vs:List V),xs.length=vs.length->(∀(i:Nat)(x:α)(v:V),xs[i]?=some x->vs[i]?=some v->Rp H (f x) v)->Rps H (xs.map f) vs
 | [],[],_,_=>zha
 | [],_::_,h,_=>by simp at h
 | _::_,[],h,_=>by simp at h
 | x::xs,v::vs,h,q=>zeV (q 0 x v rfl rfl) (zdh f xs vs (by simpa using h) fun i y u h1 h2=>q (i+1) y u (by simpa using h1) (by simpa using h2))
theorem kah.rp{H H':Hp}{Ms:List (Tb)}{ts:List Addr}{rs:List (List Addr)}(G:kah H H' Ms ts rs){p:Addr}(h:H' p=some (.lst (ts.map V.ref))):Rp H' (tabsD Ms) (.ref p):=by
 refine zdD h (zdh tabD Ms _ (by rw[wa,G.lt]) fun i M v h1 h2=>?_);rw[we]at h2;obtain⟨t,ht,rfl⟩:=wG.mp h2;obtain⟨M',t',ras,e1,e2,e3,e4⟩:=G.get (wp.mp h1).1;rw[h1]at e1;rw[ht]at e2;cases e1;cases e2;exact e4.rp
def kan(k:Int)(n:Nat)(A C:Tb):Nat->Tb
 | 0=>C
 | i+1=>kai k n (kan k n A C i) A
def marksM(k:Int)(n h:Nat)(A B C:Tb)(many:Nat):List (Tb):=(vd many).map fun i=>kai k h (kan k n A C i) B
def powX(k:Int)(A:Tb)(x:List Nb):Nat->List Nb
 | 0=>x
 | i+1=>imgM k A (powX k A x i)
theorem QT{k:Int}{A:Tb}(x:List Nb):∀ i,powX k A x (i+1)=powX k A (imgM k A x) i
 | 0=>rfl
 | i+1=>congrArg (imgM k A) (QT x i)
def szP(n z:Nat):Nat->Nat
 | 0=>z
 | i+1=>61+n *(z+szP n z i+1)
theorem zhM{n z:Nat}(h:61<=z):∀ i,61<=szP n z i
 | 0=>h
 | i+1=>by simp only[szP];omega
theorem Xq{k:Int}(hk:kaa k){n s z:Nat}(z7:61<=z){A C:Tb}(hA:TOk k n n z A)(hC:TOk k s n z C):∀ i,TOk k s n (szP n z i) (kan k n A C i)
 | 0=>hC
 | i+1=>by
  have:=zfn hk (zhM z7 i) (Xq hk z7 hA hC i) hA;refine this.up ?_;simp only[szP];rw[wab (szP n z i) z];exact ww _
theorem zbR{k:Int}(hk:kaa k){n s z:Nat}(z7:61<=z){A C:Tb}(hA:TOk k n n z A)(hC:TOk k s n z C):∀(i:Nat)(x:List Nb),La.OkR k x->x.length=n->∀(j:Nat)(c r:List Nb),C[j]?=some c->(kan k n A C i)[j]?=some r->La.ndot k r x=La.ndot k c (powX k A x i)
 | 0,x,ox,lx,j,c,r,hc,hr=>by
  rw[show kan k n A C 0=C from rfl,hc]at hr;cases hr;rfl
 | i+1,x,ox,lx,j,c,r,hc,hr=>by
  have hL:=Xq hk z7 hA hC i;have hr':((kan k n A C i).map fun r=>(kac n A).map fun col=>La.ndot k r col)[j]?=some r:=hr;rw[we]at hr';obtain⟨r0,h0,rfl⟩:=wG.mp hr';have o0:=hL.ok r0 (wd h0);have e:=La.zgz hk o0.2 o0.1 hA.ok hA.len ox lx;have e2:La.ndot k ((kac n A).map fun col=>La.ndot k r0 col) x=La.ndot k r0 (imgM k A x):=e.symm;obtain⟨li,oi⟩:=La.JJ hk hA.ok ox;show La.ndot k ((kac n A).map fun col=>La.ndot k r0 col) x=_;rw[e2,QT];exact zbR hk z7 hA hC i (imgM k A x) oi (by rw[← hA.len];exact li) j c r0 hc h0
def dueRow(k:Int)(h:Nat)(A B:Tb)(c:List Nb)(i:Nat):List Nb:=(kac h B).map fun b=>La.ndot k c (powX k A b i)
theorem zfB{k:Int}(hk:kaa k){n h s z:Nat}(z7:61<=z){A B C:Tb}(hM:MOk k n h s z A B C){many i j:Nat}{M:Tb}{c row:List Nb}(e1:(marksM k n h A B C many)[i]?=some M)(hc:C[j]?=some c)(e2:M[j]?=some row):dueRow k h A B c i=row:=by
 unfold marksM at e1;rw[we]at e1;obtain⟨i',hi',rfl⟩:=wG.mp e1;have:i'=i:=by
  obtain⟨hl,e⟩:=wp.mp hi'
  simpa using e.symm
 subst this;have e2':((kan k n A C i').map fun r=>(kac h B).map fun col=>La.ndot k r col)[j]?=some row:=e2;rw[we]at e2';obtain⟨r,hr,rfl⟩:=wG.mp e2';unfold dueRow;refine vU fun b hb=>?_
 have ob:=(zdz hM.b).row hb;exact(zbR hk z7 hM.a hM.c i' b ob.ok ob.len j c r hc hr).symm
theorem jo{k:Int}{n h:Nat}{A B C:Tb}{many:Nat}:(marksM k n h A B C many).length=many:=by unfold marksM;simp
theorem ql{k:Int}{n h:Nat}{A B C:Tb}{many i:Nat}(hi:i<many):(marksM k n h A B C many)[i]?=some (kai k h (kan k n A C i) B):=by
 unfold marksM;rw[we,ur hi];rfl
end L2
namespace L2
open PySem PySem.Spec PyProof.Rows Nm
end L2
namespace L2
open PySem PySem.Spec PyProof.Rows Nm
theorem zf9{k:Int}(hk:kaa k){n b:Nat}(h7:61<=b){rows:List (List Int)}(hl:∀ r∈rows,r.length=n)(h:∀ r∈rows,∀ w∈r,Sm b w):∀ c,SzS ((b+1)*2^(La.swTo k rows c).1.length - 1) (La.swTo k rows c)
 | 0=>⟨fun p hp=>(nomatch hp),fun r hr w hw=>by
   obtain⟨x,hx,rfl⟩:=wg.mp hr;exact(Qb hk h7 (h x hx) w hw).mono (by show b<=(b+1)*2^0 - 1;omega)⟩
 | c+1=>by
  have ih:=zf9 hk h7 hl h c;have fine:=La.Fine.to hk.lt.1 hl c;show SzS ((b+1)*2^(La.kal k c (La.swTo k rows c)).1.length - 1) (La.kal k c (La.swTo k rows c));generalize La.swTo k rows c=s at ih fine;have h1:2^s.1.length ≥ 1:=gY;have h2:(b+1)*1<=(b+1)*2^s.1.length:=vp _ h1;cases e:s.2.filter (fun r=>decide (r.getD c 0≠0))with
  | nil =>
   have t:La.kal k c s=s:=by unfold La.kal;simp only[e]
   rw[t];exact ih
  | cons l rest =>
   have t:=SzS.turn (c:=c) hk (show 61<=(b+1)*2^s.1.length - 1 by omega) fine ih;have len:(La.kal k c s).1.length=s.1.length+1:=by
    unfold La.kal;simp only[e];rw[wy,wa];rfl
   rw[len];have e2:(b+1)*2^(s.1.length+1) - 1=2 *((b+1)*2^s.1.length - 1)+1:=by
    rw[gr];have:(b+1) *(2^s.1.length*2) =(b+1)*2^s.1.length*2:=by rw[Gh]
    omega
   rw[e2];exact t
theorem zdB{k:Int}(hk:kaa k){n B:Nat}{M R:Tb}{ls:List Nat}(h7:61<=B)(oM:La.OkM k n M)(hM:La.rowsB B M)(red:∀(F:Type) [Lean.Grind.Field F] (φ:La.Kf k F),La.RedOf φ n M R ls):La.rowsB ((B+1)*2^R.length) R:=by
 obtain⟨F0,i0,d0,⟨φ0⟩⟩:=La.yQ hk;have:∃ Ws:List (List Int),Ws.length=M.length/\(∀(i:Nat)(r:List Nb)(ws:List Int),M[i]?=some r->Ws[i]?=some ws->∃ b,La.Scl k r ws b)/\∀ ws∈Ws,ws.length=n/\∀ w∈ws,Sm B w:=by
  clear red
  induction M with
  | nil=>exact⟨[],rfl,fun i r ws h=>by simp at h,fun ws h=>(nomatch h)⟩
  | cons m M ih =>
   obtain⟨Ws,l,h,hs⟩:=ih (fun r hr=>oM r (wo _ hr)) (fun r hr=>hM r (wo _ hr));have om:=oM m wk;obtain⟨D,D0,D1,hD⟩:=hM m wk
   by_cases k0:k=0
   ·have dv:∀ x∈m,La.dvB (D:Int) x:=fun x hx=>by
     cases x with
     | q r=>exact La.dB.den_dvd D0 (hD _ hx)
     | z i=>trivial
    have sc:La.Scl k m (m.map (La.scW (D:Int))) (D:Int):=⟨rfl,by omega,fun z=>absurd k0 z,dv⟩;refine⟨m.map (La.scW (D:Int))::Ws,by simp[l],fun i r ws h1 h2=>?_,fun ws hw=>?_⟩
    ·cases i with
     | zero=>simp at h1 h2;subst h1 h2;exact⟨_,sc⟩
     | succ i=>exact h i r ws (by simpa using h1) (by simpa using h2)
    ·rcases wF.mp hw with e|hw
     ·rw[e];refine⟨by rw[wa];exact om.1,fun w hw=>?_⟩;obtain⟨x,hx,rfl⟩:=wg.mp hw;exact La.zd6 hk (om.2 x hx) h7 D0 (hD x hx) (by omega) (dv x hx) fun _=>waJ _
     ·exact hs ws hw
   ·have dv:∀ x∈m,La.dvB 1 x:=fun x hx=>by
     cases x with
     | q r=>exact absurd (om.2 _ hx) k0
     | z i=>trivial
    have sc:La.Scl k m (m.map (La.scW 1)) 1:=⟨rfl,by decide,fun _=>rfl,dv⟩;refine⟨m.map (La.scW 1)::Ws,by simp[l],fun i r ws h1 h2=>?_,fun ws hw=>?_⟩
    ·cases i with
     | zero=>simp at h1 h2;subst h1 h2;exact⟨_,sc⟩
     | succ i=>exact h i r ws (by simpa using h1) (by simpa using h2)
    ·rcases wF.mp hw with e|hw
     ·rw[e];refine⟨by rw[wa];exact om.1,fun w hw=>?_⟩;obtain⟨x,hx,rfl⟩:=wg.mp hw;exact La.zd6 hk (om.2 x hx) h7 D0 (hD x hx) (by decide) (dv x hx) fun z=>absurd z k0
     ·exact hs ws hw
 obtain⟨Ws,lW,scl,hs⟩:=this;have r2:=La.Je φ0 hk oM lW scl;have eR:R=La.redM k n Ws:=(red F0 φ0).unique r2 (fun v q=>q) (fun v q=>q);have wl:∀ r∈Ws,r.length=n:=fun r hr=>(hs r hr).1
 have szs:=zf9 hk h7 wl (fun r hr=>(hs r hr).2) n;have fine:=La.Fine.to hk.lt.1 wl n;have len:R.length =(La.swTo k Ws n).1.length:=by rw[eR];unfold La.redM;rw[wa]
 rw[len];intro r hr;rw[eR]at hr;unfold La.redM at hr;obtain⟨p,hp,rfl⟩:=wg.mp hr;obtain⟨h1,h2,h3,h4⟩:=La.qj φ0 hk.lt.1 wl hp;have nn:nnum k (p.2.getD p.1 0)≠nnum k 0:=La.Jn φ0 fun z=>h3 ((La.Yn φ0 (fine.df p hp) p.1).mp z)
 have b:=La.zca hk (B:=(B+1)*2^(La.swTo k Ws n).1.length - 1) (p:=p.1) (ws:=p.2) (fun w hw=>szs.1 p hp w hw) (by omega) h3 nn;exact b.mono (by omega)
theorem zaO{k:Int}{n C:Nat}{W:Tb}(hW:La.rowsB C W):∃ D:Nat,D≠0/\D<=2^(W.length*C)/\∀ r∈W,La.rowD D (W.length*C) r:=by
 induction W with
 | nil=>exact⟨1,by decide,by simp,fun r hr=>(nomatch hr)⟩
 | cons w W ih =>
  obtain⟨D,d0,d1,hd⟩:=ih fun r hr=>hW r (wo _ hr)
  obtain⟨E,e0,e1,he⟩:=hW w wk;have ep:2^((w::W).length*C)=2^(W.length*C)*2^C:=by rw[← uy,vy,vt,vw]
  have p1:0<2^(W.length*C):=uR (by decide);have p2:0<2^C:=uR (by decide);refine⟨E*D,GC e0 d0,?_,fun r hr x hx=>?_⟩
  ·rw[ep,vP E D];exact vm d1 (by omega)
  ·rcases wF.mp hr with e|hr
   ·rw[e]at hx;have h:=La.dB.up (he x hx) D (2^(W.length*C)) d1;rw[vP D E]at h;refine h.mono ?_;rw[ep,wat,Ga];omega
   ·have h:=La.dB.up (hd r hr x hx) E (2^C) (by omega);refine h.mono ?_;rw[ep,wat,Ga,vP (2^C)];omega
def IsRa(k:Int)(n:Nat)(W:Tb)(lw:List Nat):Prop:=∀(F:Type) [Lean.Grind.Field F] (φ:La.Kf k F),La.IsR φ n W lw
theorem zaW{k:Int}(hk:kaa k){n:Nat}{W:Tb}{lw:List Nat}(h:IsRa k n W lw):La.OkM k n W/\lw.length=W.length/\lw.Pairwise (·<·)/\∀ l∈lw,l<n:=by
 obtain⟨F,_,_,⟨φ⟩⟩:=La.yQ hk;refine⟨(h F φ).ok,(h F φ).len,(h F φ).inc,fun l hl=>?_⟩;obtain⟨i,r,h1,h2⟩:=(h F φ).lead_of hl;exact(h F φ).rr.lt _ ((h F φ).get h1 h2)
theorem Zv:∀ {l:List Nat} {m n:Nat},l.Pairwise (·<·)->(∀ x∈l,m<=x/\x<n)->m<=n->l.length<=n - m
 | [],_,_,_,_,_=>vA _
 | x::l,m,n,pw,h,mn=>by
  rw[uH]at pw;have hx:=h x wk;have:=Zv (l:=l) (m:=x+1) (n:=n) pw.2 (fun y hy=>⟨pw.1 y hy,(h y (wo _ hy)).2⟩) (by omega);rw[vy];omega
theorem zfI{k:Int}(hk:kaa k){n:Nat}{W:Tb}{lw:List Nat}(h:IsRa k n W lw):W.length<=n:=by
 obtain⟨_,e,pw,lt⟩:=zaW hk h;have:=Zv (m:=0) pw (fun x hx=>⟨vA _,lt x hx⟩) (vA _);omega
theorem zeW{k:Int}{n:Nat}{M R:Tb}{ls:List Nat}(h:∀(F:Type) [Lean.Grind.Field F] (φ:La.Kf k F),La.RedOf φ n M R ls):IsRa k n R ls:=fun F _ φ=>(h F φ).toIsR
theorem Grow.snocR{H H1 H2:Hp}{M:Tb}{ras:List Addr}(G:Grow H H1 M ras)(g:Same H1 H2){xs:List Nb}{p:Addr}(hr:kak H2 xs p)(hp:H1 p=none):Grow H H2 (M++[xs]) (ras++[p]):=by
 have G':=G.mono g;refine⟨G'.same,zZ G'.rows hr,fun r hr'=>?_,?_⟩
 ·rcases wt.mp hr' with h|h
  ·exact G.fr r h
  ·rw[wm.mp h];exact G.same.none hp
 ·rw[Gg];refine⟨G.nd,by simp,fun a ha b hb e=>G.not_mem hp ?_⟩;rw[← wm.mp hb,← e];exact ha
theorem zef{k:Int}(hk:kaa k){n C:Nat}{W:Tb}(oW:La.OkM k n W)(h:La.rowsB C W)(c7:61<=C):∀ r∈W,∀ x∈r,nsm C x:=fun r hr x hx=>by
 obtain⟨D,d0,d1,hd⟩:=h r hr;have:0<2^C:=uR (by decide);exact zhz hk (hd x hx) ((oW r hr).2 x hx) d0 d1 (by omega) c7
def SameR(k:Int)(W M:Tb):Prop:=∀(F:Type) [Lean.Grind.Field F] (φ:La.Kf k F) (v:Nat->F),La.Rm φ W v↔La.Rm φ M v
def Gen(k:Int)(n g:Nat)(W:Tb):Prop:=∃ M,La.OkM k n M/\La.rowsB g M/\SameR k W M
theorem ze6{k:Int}{n:Nat}{W M:Tb}{lw:List Nat}(h:IsRa k n W lw)(e:SameR k W M):∀(F:Type) [Lean.Grind.Field F] (φ:La.Kf k F),La.RedOf φ n M W lw:=fun F _ φ=>{ (h F φ)with to:=fun v q=>(e F φ v).mpr q,fro:=fun v q=>(e F φ v).mp q }
theorem ze8{k:Int}(hk:kaa k){n g:Nat}{W:Tb}{lw:List Nat}(h:IsRa k n W lw)(g7:61<=g)(hg:Gen k n g W):La.rowsB ((g+1)*2^W.length) W:=by
 obtain⟨M,oM,cM,e⟩:=hg;exact zdB hk g7 oM cM (ze6 h e)
end L2
namespace L2
open PySem PySem.Spec PyProof.Rows Nm
set_option maxHeartbeats 4000000
end L2
namespace L2
open PySem PySem.Spec PyProof.Rows Nm
theorem XH{m:Nat}:∀(xs:List Nb),(∀ x∈xs,nsm m x)->∃ D:Nat,D≠0/\D<=2^(xs.length*m)/\∀ r:Rat,Nb.q r∈xs->r.den ∣ D
 | [],_=>⟨1,by decide,by simp,fun r h=>(nomatch h)⟩
 | x::xs,h=>by
  obtain⟨D,d0,dl,dd⟩:=XH xs fun y hy=>h y (wo _ hy)
  have pm:2^((x::xs).length*m)=2^(xs.length*m)*2^m:=by rw[vy,vt,vw,uy]
  cases x with
  | z i =>
   refine⟨D,d0,?_,fun r hr=>?_⟩
   ·rw[pm];exact wD dl (um _ (uA m))
   ·rcases wF.mp hr with e|e
    ·cases e
    ·exact dd r e
  | q s =>
   have hs:s.den<2^m:=by
    have:=(h (.q s) wk).2;unfold Sm at this;omega
   refine⟨D*s.den,GC d0 s.den_nz,?_,fun r hr=>?_⟩
   ·rw[pm];exact vm dl (vW hs)
   ·rcases wF.mp hr with e|e
    ·cases e;exact Nat.dvd_mul_left _ _
    ·exact GQ (dd r e) (Nat.dvd_mul_right _ _)
theorem zeP{k:Int}{n m:Nat}{xs:List Nb}(m1:1<=m)(h:ROk k n m xs):La.rowB ((n+1)*m) xs:=by
 obtain⟨D,d0,dl,dd⟩:=XH xs h.sz;rw[h.len]at dl;have pm:2^((n+1)*m)=2^(n*m)*2^m:=by rw[vt,vw,uy]
 have m2:2<=2^m:=vg (n:=2) (by decide) m1;have p1:0<2^(n*m):=uA _;refine⟨D,d0,?_,fun x hx=>?_⟩
 ·rw[pm]
  calc D<=2^(n*m):=dl
   _<2^(n*m)*2:=by omega
   _<=2^(n*m)*2^m:=vp _ m2
 ·cases x with
  | z i=>trivial
  | q r =>
   obtain⟨c,hc⟩:=dd r hx;have sr:=h.sz _ hx;refine⟨(c:Int)*r.num,?_,?_⟩
   ·have e1:((D:Int):Rat) =((r.den:Int):Rat) *((c:Int):Rat):=by rw[hc,uM,wV]
    have e2:r *((r.den:Int):Rat) =((r.num:Int):Rat):=La.kfRat.rat r rfl;rw[e1,wV,← e2]
    grind
   ·rw[vv];have hn:r.num.natAbs<2^m:=sr.1;have hc':c<=D:=by
     rw[hc];exact GD _ r.den_pos
    have:((c:Int)).natAbs*r.num.natAbs<=2^(n*m) *(2^m - 1):=vm (by omega) (by omega);have e:2^(n*m) *(2^m - 1)=2^(n*m)*2^m - 2^(n*m):=by rw[wat,Ga]
    rw[pm];omega
theorem zb2{k:Int}{n B:Nat}{M:Tb}(k0:k≠0)(oM:La.OkM k n M)(b1:1<=B):La.rowsB B M:=fun r hr=>⟨1,by decide,wL (by decide:(1:Nat)<2^1) (vg (by decide) b1),fun x hx=>by
 have:=(oM r hr).2 x hx;cases x with
 | z i=>trivial
 | q s=>exact absurd (show k=0 from this) k0⟩
def Fit(k:Int)(n:Nat):Prop:=1<=n/\(n<=3\/(k≠0/\n<=10))
theorem Fit.n10{k:Int}{n:Nat}(h:Fit k n):n<=10:=by rcases h.2 with h|h <;> omega
theorem zeu{k:Int}{A B:Tb}:∀(t:Nat)(r:List Nb),r∈La.kry k A B t->∃ b∈B,∃ i,i<=t/\r=powX k A b i
 | 0,r,hr=>⟨r,hr,0,ww _,rfl⟩
 | t+1,r,hr=>by
  rcases wt.mp hr with h|h
  ·exact⟨r,h,0,vA _,rfl⟩
  ·obtain⟨x,hx,rfl⟩:=wg.mp h;obtain⟨b,hb,i,hi,rfl⟩:=zeu t x hx;exact⟨b,hb,i+1,by omega,rfl⟩
theorem pow2{n m:Nat}(h:n<=m):2^n<=2^m:=vg (by decide) h
end L2
namespace L2
open PySem PySem.Spec PyProof.Rows Nm
theorem yk{k:Int}{c:Nat}{M:Tb}(oM:La.OkM k c M):kac M.length (kac c M)=M:=by
 refine gx fun i=>?_
 rcases wK i M.length with h|h
 ·rw[yV h,wb h]
  congr 1
  have om:=oM M[i] (wj h);refine gx fun j=>?_
  rcases wK j c with hj|hj
  ·have hj':j<M[i].length:=by omega
   rw[we,yV hj,wb hj'];show some ((M.map fun r=>r.getD j (.z 0)).getD i (.z 0))=some _
   congr 1
   rw[wc,we,wb h];show(M[i].getD j (.z 0))=_;rw[wc,wb hj'];rfl
  ·rw[wN (by rw[wa,zk];exact hj),wN (by omega)]
 ·rw[wN (by rw[zk];exact h),wN h]
end L2
namespace L2
open PySem PySem.Spec PyProof.Rows Nm
def szk(k:Int)(m:Nat)(x:Nb):Prop:=k=0->nsm m x
theorem szk.mono{k:Int}{m n:Nat}{x:Nb}(h:szk k m x)(hm:m<=n):szk k n x:=fun k0=>(h k0).mono hm
theorem szk.nsm{k:Int}(hk:kaa k){m n:Nat}{x:Nb}(o:x.ok k)(h:szk k m x)(hm:m<=n)(h7:61<=n):nsm n x:=by
 by_cases k0:k=0
 ·exact(h k0).mono hm
 ·exact(zbp hk k0 o).mono h7
theorem zfF{k:Int}{m n:Nat}{x y:Nb}(ox:x.ok k)(oy:y.ok k)(sx:szk k m x)(sy:szk k n y):szk k (m+n+1) (nadd k x y):=fun k0=>by
 rcases qF ox oy with⟨_,r,s,rfl,rfl⟩|⟨h,_⟩
 ·have hx:=sx k0;have hy:=sy k0;show Sm _ (r+s).num/\Sm _ ((r+s).den:Int);rw[← zee];obtain⟨h1,h2⟩:=jR (t:=r.num*s.den+s.num*r.den) (jw r s) ((hx.1.mul hy.2).add ((hy.1.mul hx.2).mono (by omega))) (hx.2.mul hy.2);exact⟨h1,h2.mono (vZ _)⟩
 ·exact absurd k0 h
theorem qd{k:Int}{m n:Nat}{x y:Nb}(ox:x.ok k)(oy:y.ok k)(sx:szk k m x)(sy:szk k n y):szk k (m+n) (nmul k x y):=fun k0=>by
 rcases qF ox oy with⟨_,r,s,rfl,rfl⟩|⟨h,_⟩
 ·have hx:=sx k0;have hy:=sy k0;show Sm _ (r*s).num/\Sm _ ((r*s).den:Int);rw[← zaR];exact jR (jw r s) (hx.1.mul hy.1) (hx.2.mul hy.2)
 ·exact absurd k0 h
section
variable{H H':Hp}{Ms:List (Tb)}{ts:List Addr}{rs:List (List Addr)}
theorem zbS{i j:Nat}{ras:List Addr}{a:Addr}(h1:rs[i]?=some ras)(h2:ras[j]?=some a):adr rs i j=some a:=by unfold adr;rw[h1];exact h2
theorem kah.setRow(G:kah H H' Ms ts rs){i j:Nat}{M:Tb}{ras:List Addr}{a:Addr}(hM:Ms[i]?=some M)(hr:rs[i]?=some ras)(ha:ras[j]?=some a){us:List V}(hu:H' a=some (.lst us)){xs:List Nb}{vs:List V}(hv:Paired (RN H') xs vs):kah H (upd H' a (.lst vs)) (Ms.set i (M.set j xs)) ts rs:=by
 have rm:=wd hr;have am:=wd ha;refine⟨yJ G.same (G.frr ras rm a am),by rw[vf];exact G.lt,by rw[vf];exact G.lr,fun i' M' t' ras' h1 h2 h3=>?_,G.frt,G.frr,G.nd,G.sep,G.inj⟩;have nt:t'≠a:=fun e=>G.sep t' (wd h2) ras rm (by rw[e];exact am)
 by_cases e:i'=i
 ·subst e;rw[hr]at h3;cases h3;have lM:i'<Ms.length:=(wp.mp hM).1;rw[wY,if_pos rfl,if_pos lM]at h1;cases h1;have T:=G.tabs i' M t' ras hM h2 hr;refine⟨by rw[zN nt];exact T.1,YF (by rw[vf];exact zj T.2) fun j' x' a' e1 e2=>?_⟩
  by_cases ej:j'=j
  ·subst ej;rw[ha]at e2;cases e2;have lj:j'<M.length:=by rw[zj T.2];exact(wp.mp ha).1
   rw[wY,if_pos rfl,if_pos lj]at e1;cases e1;exact⟨vs,zf,jg (fun _ _ r=>r.upd hu) hv⟩
  ·rw[wY,if_neg (Ne.symm ej)]at e1;exact(jL T.2 e1 e2).upd (fun z=>ej (by subst z;exact(G.inj _ _ _ _ _ (zbS hr e2) (zbS hr ha)).2)) hu
 ·rw[wY,if_neg (Ne.symm e)]at h1;refine(G.tabs i' M' t' ras' h1 h2 h3).upd nt (fun hm=>e ?_) hu;obtain⟨j',hj',e2⟩:=wQ hm;exact(G.inj _ _ _ _ _ (zbS h3 (by rw[wb hj',e2])) (zbS hr ha)).1
theorem kah.setSlot(G:kah H H' Ms ts rs){i j:Nat}{M:Tb}{ras:List Addr}{t p:Addr}{xs:List Nb}(hM:Ms[i]?=some M)(ht:ts[i]?=some t)(hr:rs[i]?=some ras)(hj:j<ras.length)(hp:kak H' xs p)(fp:H p=none)(np:p∉ts)(nr:∀ ras∈rs,p∉ras) :
  kah H (upd H' t (.lst ((ras.set j p).map V.ref))) (Ms.set i (M.set j xs)) ts (rs.set i (ras.set j p)):=by
 have tm:=wd ht;have rm:=wd hr;have T0:=G.tabs i M t ras hM ht hr;have li:i<rs.length:=(wp.mp hr).1;have lM:i<Ms.length:=(wp.mp hM).1;have pt:p≠t:=fun e=>np (by rw[e];exact tm)
 have mem':∀ x∈rs.set i (ras.set j p),∀ a∈x,a=p\/∃ y∈rs,a∈y:=fun x hx a ha=>by
  rcases La.yj hx with e|e
  ·subst e
   rcases La.yj ha with e|e
   ·exact .inl e
   ·exact .inr ⟨ras,rm,e⟩
  ·exact .inr ⟨x,e,ha⟩
 have adr':∀ i' j',adr (rs.set i (ras.set j p)) i' j'=if i'=i/\j'=j then some p else adr rs i' j':=fun i' j'=>by
  unfold adr;rw[wY]
  by_cases e:i'=i
  ·subst e;rw[if_pos rfl,if_pos li,hr];show(ras.set j p)[j']?=if i'=i'/\j'=j then some p else ras[j']?
   rw[wY]
   by_cases ej:j'=j
   ·subst ej;rw[if_pos rfl,if_pos hj,if_pos ⟨rfl,rfl⟩]
   ·rw[if_neg (Ne.symm ej),if_neg (fun h=>ej h.2)]
  ·rw[if_neg (Ne.symm e),if_neg (fun h=>e h.1)]
 have notp:∀ i' j' a,adr rs i' j'=some a->a≠p:=fun i' j' a h e=>by
  obtain⟨x,hx,hx'⟩:=Jq h;exact nr x (wd hx) (by rw[← e];exact wd hx')
 refine⟨yJ G.same (G.frt t tm),by rw[vf];exact G.lt,by rw[vf,vf];exact G.lr,fun i' M' t' ras' h1 h2 h3=>?_,G.frt,fun x hx a ha=>?_,G.nd,fun x hx y hy hm=>?_,fun i1 j1 i2 j2 a h1 h2=>?_⟩
 ·by_cases e:i'=i
  ·subst e;rw[ht]at h2;cases h2;rw[wY,if_pos rfl,if_pos lM]at h1;rw[wY,if_pos rfl,if_pos li]at h3;cases h1;cases h3;refine⟨zf,YF (by rw[vf,vf];exact zj T0.2) fun j' x' a' e1 e2=>?_⟩
   by_cases ej:j'=j
   ·subst ej;rw[wY,if_pos rfl,if_pos (by rw[zj T0.2];exact hj)]at e1;rw[wY,if_pos rfl,if_pos hj]at e2;cases e1;cases e2;exact hp.upd pt T0.1
   ·rw[wY,if_neg (Ne.symm ej)]at e1 e2;exact(jL T0.2 e1 e2).upd (fun z=>G.sep t tm ras rm (by rw[← z];exact wd e2)) T0.1
  ·rw[wY,if_neg (Ne.symm e)]at h1 h3;have n1:t'≠t:=fun z=>e (by
    subst z;exact(wak (wp.mp h2).1 G.nd).mp (h2.trans ht.symm))
   exact(G.tabs i' M' t' ras' h1 h2 h3).upd n1 (G.sep t tm ras' (wd h3)) T0.1
 ·rcases mem' x hx a ha with e|⟨y,hy,hay⟩
  ·rw[e];exact fp
  ·exact G.frr y hy a hay
 ·rcases mem' y hy x hm with e|⟨z,hz,hxz⟩
  ·exact np (by rw[← e];exact hx)
  ·exact G.sep x hx z hz hxz
 ·rw[adr']at h1 h2
  by_cases c1:i1=i/\j1=j
  ·rw[if_pos c1]at h1;cases h1
   by_cases c2:i2=i/\j2=j
   ·exact⟨c1.1.trans c2.1.symm,c1.2.trans c2.2.symm⟩
   ·rw[if_neg c2]at h2;exact absurd rfl (notp _ _ _ h2)
  ·rw[if_neg c1]at h1
   by_cases c2:i2=i/\j2=j
   ·rw[if_pos c2]at h2;cases h2;exact absurd rfl (notp _ _ _ h1)
   ·rw[if_neg c2]at h2;exact G.inj _ _ _ _ _ h1 h2
end
end L2
namespace L2
open PySem PySem.Spec PyProof.Rows Nm
theorem zdo:∀ {ns:List Int} {its:List Value},Vals (ns.map V.int) its->IntsAre its ns
 | [],_,h=>by cases h;exact .nil
 | n::ns,_,h=>by
  cases h with
  | cons r t =>
   obtain⟨tk,e⟩:=r;subst e;exact .cons n tk (zdo t)
theorem zaD:∀ {ns:List Int} {its:List Value},IntsAre its ns->Vals (ns.map V.int) its
 | _,_,.nil=>.nil
 | _,_,.cons n tk t=>.cons ⟨tk,rfl⟩ (zaD t)
section
variable{X:Cx}{K:PySem.W.Frag}
theorem ZP:CallR X (.builtin "sorted") (fun xs H Q=>∃ p ns,xs=[.ref p]/\SqL X.K H p ((ns:List Int).map V.int)/\ns.length<64/\∀(l:Addr)(ns':List Int),H l=none->ns'.Perm ns->ns'.Pairwise (·<=·)->Q (.ref l) (upd H l (.lst (ns'.map V.int)))):=by
 intro pins s σ H xs us Q I r h;obtain⟨p,ns,rfl,hq,h64,q⟩:=h;obtain⟨u,rfl,rx⟩:=vals1 r;cases rx;obtain⟨its,r',pl,hz⟩:=I.list hq;have hl:=r'.length;rw[wa]at hl;refine sorted_ints pl.isList (zdo r') (by omega) fun out ns' a1 a2 a3=>?_
 obtain⟨e,he⟩:=sortedAll_at s.heap its out;have hl':=(zaD a1).length;rw[wa]at hl';have hp:=a2.length_eq;rw[wa]at hz;refine⟨.ref (s.heap.objs.size+1),_,I.laid (t':=s.toks) (fun _ _=>sortedAll_old) (vZ _) (show kas X.prog X.w _ _ _ (.lst (ns'.map V.int))from⟨by rw[wa];omega,out.toList,e,zaD a1,he⟩),rfl,q _ ns' (I.hok.fresh (vZ _)) a2 a3⟩
theorem QZ (hK:X.K=K):CallR X (.builtin "sorted") (fun xs H Q=>∃ p ns,xs=[.ref p]/\SqL K H p ((ns:List Int).map V.int)/\ns.length<64/\∀(l:Addr)(ns':List Int),H l=none->ns'.Perm ns->ns'.Pairwise (·<=·)->Q (.ref l) (upd H l (.lst (ns'.map V.int)))):=hK ▸ ZP
inductive IntEs:List Expr->List Int->Prop
 | nil:IntEs [] []
 | cons {i:Int} {j:Nat} {pos:Pos} {es:List Expr} {ns:List Int}:IntEs es ns->IntEs (.Constant (.int i) j pos::es) (i::ns)
def tInts(ns:List Int):TA:=fun _ H Q=>Q (ns.map V.int) H
theorem zg3{es:List Expr}(ns:List Int)(h:IntEs es ns):PA X es (tInts ns):=by
 induction h with
 | nil=>exact zd
 | @cons i j pos es ms _ ih=>exact za (te:=tC (.int i)) (t:=tInts ms) ze ih rfl
end
end L2
namespace L2
open PySem PySem.Spec PyProof.Rows
def K0:PySem.W.Frag:=[]
section
variable{X:Cx}{K:PySem.W.Frag}
theorem SqL.up{H:Hp}{a:Addr}{xs:List V}(h:SqL K0 H a xs):SqL K H a xs:=by
 rcases h with h|⟨o,its,n,hl,_⟩
 ·exact .inl h
 ·cases hl
theorem SqT.up{H:Hp}{a:Addr}{xs:List V}(h:SqT K0 H a xs):SqT K H a xs:=by
 rcases h with h|⟨o,its,n,hl,_⟩
 ·exact .inl h
 ·cases hl
theorem zhx{T:String}{x:V}{H:Hp}(h:tyV K0 T x H):tyV K T x H:=by
 cases x with
 | ref p =>
  rcases h with⟨e,xs,hx⟩|⟨e,o,ho,_⟩|h|h
  ·exact .inl ⟨e,xs,hx.up⟩
  ·cases ho
  ·exact .inr (.inr (.inl h))
  ·exact .inr (.inr (.inr h))
 | _=>exact h
def mo(t:TE):TE:=fun σ H Q=>∃ Q0:VK,t σ H Q0/\∀ x H',Q0 x H'->Q x H'
def moA(t:TA):TA:=fun σ H Q=>∃ Q0:List V->Hp->Prop,t σ H Q0/\∀ x H',Q0 x H'->Q x H'
theorem PE.mo{e:Expr}{t:TE}(h:PE X e t):PE X e (mo t):=fun pins s σ H Q I ⟨Q0,h0,hq⟩ =>
 thn (h pins s σ H Q0 I h0) fun v s1 ⟨x,H1,I1,r,q⟩=>⟨x,H1,I1,r,hq x H1 q⟩
theorem PA.mo{es:List Expr}{t:TA}(h:PA X es t):PA X es (moA t):=fun pos pins s σ H Q I ⟨Q0,h0,hq⟩ =>
 thn (h pos pins s σ H Q0 I h0) fun v s1 ⟨x,H1,I1,r,q⟩=>⟨x,H1,I1,r,hq x H1 q⟩
theorem zi:IxR X (rIxL K0):=fun value slice pins s σ H x y v u Q I rx ry ⟨p,xs,i,w,e1,e2,h,e3,q⟩ hs =>
 zes value slice pins s σ H x y v u Q I rx ry ⟨p,xs,i,w,e1,e2,h.up,e3,q⟩ hs
theorem zE:IxR X (rIxT K0):=fun value slice pins s σ H x y v u Q I rx ry ⟨p,xs,i,w,e1,e2,h,e3,q⟩ hs =>
 zgf value slice pins s σ H x y v u Q I rx ry ⟨p,xs,i,w,e1,e2,h.up,e3,q⟩ hs
theorem ZV:SlR X (rSlL K0):=fun pins s σ H x v vl vu lo hi sl Q I rx hs p1 p2 ⟨a,xs,e,h,q⟩ =>
 zdc pins s σ H x v vl vu lo hi sl Q I rx hs p1 p2 ⟨a,xs,e,h.up,q⟩
inductive ILen(xs:List V)(H:Hp)(Q:VK):Prop where
 | mk (p:Addr) (ys:List V) (e:xs=[.ref p]) (h:SqL K0 H p ys\/SqT K0 H p ys) (q:Q (.int (ys.length:Int)) H):ILen xs H Q
theorem zx:CallR X (.builtin "len") ILen :=
 fun pins s σ H xs us Q I vs ⟨p,ys,e,h,q⟩=>Zc (K:=X.K) rfl pins s σ H xs us Q I vs ⟨p,ys,e,h.imp SqL.up SqT.up,q⟩
theorem ZB:CallR X (.type "list") (fun xs H Q=>∃ p ys,xs=[.ref p]/\(SqL K0 H p ys\/SqT K0 H p ys)/\∀ l,H l=none->Q (.ref l) (upd H l (.lst ys))) :=
 fun pins s σ H xs us Q I vs ⟨p,ys,e,h,q⟩=>zce (K:=X.K) rfl pins s σ H xs us Q I vs ⟨p,ys,e,h.imp SqL.up SqT.up,q⟩
theorem zej (hc:X.calm=true):CallR X (.builtin "sum") (fun xs H Q=>∃ p ns,xs=[.ref p]/\SqL K0 H p (Gc V.int ns)/\Q (.int ns.sum) H) :=
 fun pins s σ H xs us Q I vs ⟨p,ys,e,h,q⟩=>zeD (K:=X.K) hc rfl pins s σ H xs us Q I vs ⟨p,ys,e,h.up,q⟩
theorem QE:CallR X (.builtin "sorted") (fun xs H Q=>∃ p ns,xs=[.ref p]/\SqL K0 H p (Gc V.int ns)/\ns.length<64/\∀(l:Addr)(ns':List Int),H l=none->ns'.Perm ns->ns'.Pairwise (·<=·)->Q (.ref l) (upd H l (.lst (ns'.map V.int)))) :=
 fun pins s σ H xs us Q I vs ⟨p,ys,e,h,q⟩=>QZ (K:=X.K) rfl pins s σ H xs us Q I vs ⟨p,ys,e,h.up,q⟩
theorem jv{pos:Pos}{es:List Expr}{k:Nat}{t:TGs}(n:Nat)(hc:X.calm=true)(hg:PGs X es t)(hn:(assignEach es X.env).length=n:=by rfl)(hs:(assignEach es X.env).findIdx? (fun x=>x.fst)=none:=by rfl):PG X (.Tuple es k pos) (gTup K0 n t) :=
 fun pins s σ H v u Q I r ⟨a,xs,e,h,l,q⟩=>zc0 (K:=X.K) n rfl hc hg hn hs pins s σ H v u Q I r ⟨a,xs,e,h.up,l,q⟩
theorem zgK{pos:Pos}{es:List Expr}{k:Nat}{t:TGs}(n:Nat)(hc:X.calm=true)(hg:PGs X es t)(hn:(assignEach es X.env).length=n:=by rfl)(hs:(assignEach es X.env).findIdx? (fun x=>x.fst)=none:=by rfl):PG X (.Tuple es k pos) (gLst K0 n t) :=
 fun pins s σ H v u Q I r ⟨a,xs,e,h,q⟩=>zgu (K:=X.K) n rfl hc hg hn hs pins s σ H v u Q I r ⟨a,xs,e,h.up,q⟩
structure It.le(J0 J:It):Prop where
 go:∀ i H,J0.go i H->J.go i H
 stop:∀ i H,J0.stop i H->J.stop i H
 yld:∀ i H x H',J.yld i H x H'->J0.yld i H x H'
theorem Turn.weaken{P:Program}{w:World}{tg:Expr}{J J0:It}{fp:List Addr}{it:Addr}{tn:Nat->Heap->Prop}(T:Turn P w K tg J fp it tn)(l:It.le J0 J):Turn P w K tg J0 fp it tn where
 mem:=T.mem
 obj:=T.obj
 keep:=T.keep
 self:=T.self
 item:=fun X p1 p2 p3 p4 i pins s σ H E I f t g=>thn (T.item X p1 p2 p3 p4 i pins s σ H E I f t (l.go i H g)) fun r s1 ⟨u,e,hw⟩=>⟨u,e,thn hw fun _ s2 ⟨x,H',a,b,y,c⟩=>⟨x,H',a,b,l.yld _ _ _ _ y,c⟩⟩
 done:=fun X p1 p2 p3 p4 i pins s σ H E I f t g=>T.done X p1 p2 p3 p4 i pins s σ H E I f t (l.stop i H g)
theorem zhy(a:Addr):It.le (Itl K0 a) (Itl K a):=⟨fun i H ⟨xs,x,h,e⟩=>⟨xs,x,h.up,e⟩,fun i H ⟨xs,h,e⟩=>⟨xs,h.up,e⟩,fun i H x H' ⟨e,h⟩=>⟨e,fun xs hx=>h xs hx.up⟩⟩
theorem zhW(a b:Addr):It.le (Itz K0 a b) (Itz K a b):=⟨fun i H ⟨xs,ys,x,y,h,h2,e⟩=>⟨xs,ys,x,y,h.up,h2.up,e⟩,fun i H ⟨xs,ys,h,h2,e⟩=>⟨xs,ys,h.up,h2.up,e⟩,
 fun i H v H' ⟨T,x,y,e1,e2,e3,h1,h2⟩=>⟨T,x,y,e1,e2,e3,fun xs hx=>h1 xs hx.up,fun ys hy=>h2 ys hy.up⟩⟩
theorem zf5{pins:List (Addr×Obj)}{σ:St}{tg:Expr}{R:It->Hp->Prop}{itv:Value}{s:Shared}(h:PIE X pins σ tg (fun J H=>∃ J0,It.le J0 J/\R J0 H) itv s):PIE X pins σ tg R itv s:=by
 obtain⟨it,fp,tn,J,H',e,I2,T,t0,fo,J0,l,q⟩:=h;exact⟨it,fp,tn,J0,H',e,I2,T.weaken l,t0,fo,q⟩
theorem zw{tg l:Expr}{tl:TE}(hl:PE X l tl):PI X tg l (iList K0 tl):=fun pins s σ H R I h =>
 thn (zgM hl.mo pins s σ H (fun J H=>∃ J0,It.le J0 J/\R J0 H) I ⟨_,h,fun x H1 ⟨a,e,⟨xs,hx⟩,q⟩=>⟨a,e,⟨xs,hx.up⟩,_,zhy a,q⟩⟩) fun _ _ hw=>thn hw fun _ _ hp=>zf5 hp
theorem YI {a b:Expr} {ta:TA} {p pos:Pos} {elts:List Expr} {k1:Nat} {tpos:Pos} (hg:Gl X "zip") (hm:X.mg "zip" = none) (ha:PA X [a,b] ta) (hs:starEach [a,b] X.env=[(false,eval a X.env),(false,eval b X.env)]:=by rfl) (hs2:starEach [b] X.env=[(false,eval b X.env)]:=by rfl) :
  PI X (.Tuple elts k1 tpos) (.Call (.Name "zip" p) [a,b] [] pos) (iZip K0 ta):=fun pins s σ H R I h =>
 thn (zhe hg hm ha.mo hs hs2 pins s σ H (fun J H=>∃ J0,It.le J0 J/\R J0 H) I ⟨_,h,fun x H1 ⟨a,b,xs,ys,e,hx,hy,q⟩=>⟨a,b,xs,ys,e,hx.up,hy.up,_,zhW a b,q⟩⟩) fun _ _ hw=>thn hw fun _ _ hp=>zf5 hp
theorem bm0{o e':Expr}{T:String}{r:V->List V->Hp->VK->Prop}{to:TE}{t:TA}(h:∀ to',PE X o to'->PE X e' (tBM X.K T r to' t))(ho:PE X o to):PE X e' (tBM K0 T r to t):=fun pins s σ H Q I hh =>
 h (mo to) ho.mo pins s σ H Q I ⟨_,hh,fun x H1 ⟨a,b⟩=>⟨zhx a,b⟩⟩
end
end L2
namespace L2
open PySem PySem.Spec PyProof.Rows
section
variable{X:Cx}{scope:Scope}
theorem zF{x:Str}{k j:Nat}{ps:List Str}{sp:Sp}{p pos:Pos}{e:Expr}{es:List Expr}{t:TA}(D:Kn X.prog X.w X.K X.mg X.base x k ps sp)(hr:Room j X.A)(ha:PA X (e::es) t)(hj:k<=j:=by decide)(hg:Gl X x:=by rfl)
  (hdb:(x ==("__debug__" : Str))=false:=by decide) (he:starEach (e::es) X.env =(false,eval e X.env)::starEach es X.env:=by rfl) (hpl:(backTo pos (starEach es X.env)).any (·.1)=false:=by rfl) :
  PE X (.Call (.Name x p) (e::es) [] pos) (tCall sp [] E0 t):=zh8 D (hr.mono hj) hg ha hdb he hpl
theorem yM{y:Str}{elt iter:Expr}{ifs:List Expr}{pos posn:Pos}{wi:TI}{tt:TT}{te:TE}(fre:List Str)(idx:List Nat)(hi:PI X (.Name y posn) iter wi)
  (hb:∀(L:Addr)(cells:List (Str×Addr))(s₀:Shared)(H₀:Hp)(ex:List Addr)(pn:List (Addr×Obj)),PTs (blk X [y] fre scope L cells s₀ H₀ ex pn) ifs tt/\PE (blk X [y] fre scope L cells s₀ H₀ ex pn) elt te)
  (B:BlkOk X [y] fre idx scope:=by exact⟨rfl,rfl,rfl,rfl,rfl,rfl,by decide +kernel⟩) (hc:X.calm=true:=by rfl)
  (hg:∀(L:Addr)(cells:List (Str×Addr))(s₀:Shared)(H₀:Hp)(ex:List Addr)(pn:List (Addr×Obj)),PG (blk X [y] fre scope L cells s₀ H₀ ex pn) (.Name y posn) (gName 0):=by exact fun _ _ _ _ _ _=>zI (i:=0) (by dsimp only [blk];decide) rfl (by first|exact Or.inl rfl|exact Or.inr rfl))
  (hs:∀ x,foldedSetIterable iter X.env x=pure x:=by intro _;rfl):PE X (.ListComp elt [⟨.Name y posn,iter,ifs,0⟩] scope pos) (tComp [y].length idx wi (gName 0) tt te) :=
 Zy [y] fre idx B hc hi (yx (waB)) (fun a b c d e f=>⟨hg a b c d e f,hb a b c d e f⟩) hs
theorem ZK{y:Str}{elt iter:Expr}{ifs:List Expr}{pos pos' spos posn:Pos}{wi:TI}{tt:TT}{te:TE}(i:Nat){x:Str}(hN:X.N.Nodup)(fre:List Str)(idx:List Nat)(hi:PI X (.Name y posn) iter wi)
  (hb:∀(L:Addr)(cells:List (Str×Addr))(s₀:Shared)(H₀:Hp)(ex:List Addr)(pn:List (Addr×Obj)),PTs (blk X [y] fre scope L cells s₀ H₀ ex pn) ifs tt/\PE (blk X [y] fre scope L cells s₀ H₀ ex pn) elt te)
  (hi':X.N[i]?=some x:=by rfl) (hx:X.env.scope.names.lookup x=some .local:=by rfl)
  (B:BlkOk X [y] fre idx scope:=by exact⟨rfl,rfl,rfl,rfl,rfl,rfl,by decide +kernel⟩) (hc:X.calm=true:=by rfl)
  (hg:∀(L:Addr)(cells:List (Str×Addr))(s₀:Shared)(H₀:Hp)(ex:List Addr)(pn:List (Addr×Obj)),PG (blk X [y] fre scope L cells s₀ H₀ ex pn) (.Name y posn) (gName 0):=by exact fun _ _ _ _ _ _=>zI (i:=0) (by dsimp only [blk];decide) rfl (by first|exact Or.inl rfl|exact Or.inr rfl))
  (hsw:swapsWith (.ListComp elt [⟨.Name y posn,iter,ifs,0⟩] scope pos) (some (.Name x pos')) spos.line X.env=pure true:=by rfl)
  (hs:∀ x,foldedSetIterable iter X.env x=pure x:=by intro _;rfl):PS X (.Assign [.Name x pos'] (.ListComp elt [⟨.Name y posn,iter,ifs,0⟩] scope pos) spos) (tAsgC [y].length idx wi (gName 0) tt te i) :=
 zgx hN hi' hx [y] fre idx B hc hi (yx (waB)) (fun a b c d e f=>⟨hg a b c d e f,hb a b c d e f⟩) hsw hs
theorem zt{a b:Expr}{pos:Pos}{ta tb:TE}{r:R2}(hr:IxR X r)(ha:PE X a ta)(hb:PE X b tb)(hs:PlainIx b:=by exact fun _ _=>rfl):PE X (.Subscript a b pos) (tOp r ta tb):=zid hr ha hb hs
end
end L2
namespace L2
open PySem PySem.Spec PyProof.Rows
def RemS(l:Addr)(items:Array Value)(n:Nat)(x:Value)(j i:Nat):PySem.Spec:=fun A R s =>
 s.heap.get? l=some { cls:=Value.type "list",data:=Data.seq items n }/\j<items.size/\items.size<=sizeLine/\A.units+63<cLine /\
 (∃ dx bs,Reads s.heap x dx bs/\dx.canLay0=true/\dx.depth<=60/\∀ m v,i<=m->m<=j->items[m]?=some v->∃ d as,Reads s.heap v d as/\d.canLay0=true/\PyData.eqv d dx=decide (m=j)) /\
 R (Except.ok (Flow.ret Value.none)) { s with heap:=s.heap.update l (Obj.mapSeq fun xs=>xs.eraseIdxIfInBounds j) }
theorem Qx(l:Addr)(items:Array Value)(n:Nat)(x:Value)(j:Nat):∀ k i:Nat,i+k=j->Meets (Builtin.«list.remove.loop» { pos:=[Value.ref l,x,rawInt (i:Int)] }) (RemS l items n x j i):=by
 intro k
 induction k with
 | zero =>
  intro i e prog w A R s ⟨hg,hj,hz,hu,⟨dx,bs,rx,cx,px,hm⟩,hR⟩;obtain rfl:i=j:=by omega
  have hi:items[i]?=some items[i]:=Array.getElem?_eq_getElem hj;obtain⟨d,as,r,c,ev⟩:=hm i _ (ww _) (ww _) hi;unfold Builtin.«list.remove.loop» rawInt;refine wpAny_bind (listItems_at hg rfl ?_);simp only[wR,hi];refine wpAny_bind (SeqAt.eqBoolOverData prog w A.in1 _ s _ _ d dx as bs _ r rx c cx (by show A.units+1+_<_;omega) ?_);rw[ev,decide_eq_true rfl,if_pos rfl];refine wpAny_bind (listUpdate_at hg rfl ?_ hz ?_)
  ·exact wpAny_pure hR
  ·show(items.eraseIdxIfInBounds i).size<=_;have:(items.eraseIdxIfInBounds i).size<=items.size:=by
    unfold Array.eraseIdxIfInBounds
    split
    all_goals (rw[Array.size_eraseIdx];omega)
   omega
 | succ k ih =>
  intro i e prog w A R s ⟨hg,hj,hz,hu,⟨dx,bs,rx,cx,px,hm⟩,hR⟩;have hlt:i<items.size:=by omega
  have hi:items[i]?=some items[i]:=Array.getElem?_eq_getElem hlt;obtain⟨d,as,r,c,ev⟩:=hm i _ (ww _) (by omega) hi;unfold Builtin.«list.remove.loop» rawInt;refine wpAny_bind (listItems_at hg rfl ?_);simp only[wR,hi];refine wpAny_bind (SeqAt.eqBoolOverData prog w A.in1 _ s _ _ d dx as bs _ r rx c cx (by show A.units+1+_<_;omega) ?_);rw[ev,decide_eq_false (by omega),if_neg (by decide)];exact MeetsSeq.meets_again rfl MeetsSeq.plain_remove_loop MeetsSeq.entry_remove_loop (ih (i+1) (by omega)) prog w A R s ⟨hg,hj,hz,hu,⟨dx,bs,rx,cx,px,fun m v h1 h2 h3=>hm m v (by omega) h2 h3⟩,hR⟩
theorem removeD(l:Addr)(items:Array Value)(n:Nat)(x:Value)(j:Nat):Meets (Builtin.«list.remove» { pos:=[Value.ref l,x] }) (RemS l items n x j 0) :=
 MeetsSeq.meets_again rfl MeetsSeq.plain_remove_loop MeetsSeq.entry_remove_loop (Qx l items n x j j 0 (by omega))
theorem zbK{α β:Type}{R:α->β->Prop}{xs:List α}{ys:List β}(h:Paired R xs ys):∀ j,Paired R (xs.eraseIdx j) (ys.eraseIdx j):=by
 induction h with
 | nil=>intro j;exact .nil
 | cons r _ ih=>intro j;cases j with
  | zero=>assumption
  | succ j=>exact .cons r (ih j)
section
variable{X:Cx}
inductive IRem(x:V)(vs:List V)(H:Hp)(Q:VK):Prop where
 | mk (l:Addr) (xs:List V) (y:V) (j:Nat) (dy:PyData) (h0_:x=.ref l) (h1_:vs=[y]) (h2_:H l=some (.lst xs)) (h3_:j<xs.length) (h4_:Rp H dy y) (h5_:dy.canLay0=true) (h6_:dy.depth<=60)
   (h7_:∀ m z,m<=j->xs[m]?=some z->∃ d,Rp H d z/\d.canLay0=true/\PyData.eqv d dy=decide (m=j)) (h8_:Q .non (upd H l (.lst (xs.eraseIdx j)))):IRem x vs H Q
theorem zdi {k:Nat} (hr:Room k X.A):MtM X "list.remove" IRem:=by
 intro pins s σ H x vs v us Q I rx rv h;obtain⟨l,xs,y,j,dy,rfl,rfl,hH,hj,hy,cy,py,hm,q⟩:=h;cases rx;obtain⟨u,rfl,ru⟩:=rv.one;obtain⟨z,its,n,r,hl,e⟩:=I.lstM hH;obtain⟨bs,ry⟩:=Rp.reads I dy y u hy ru;refine call_meets F.slot_list_remove ⟨_,e,rfl⟩ F.entry_list_remove (F.args_list_remove_2 _ _) (removeD l its.toArray n u j) ⟨e,by rw[wI];omega,by rw[wI];omega,by have:=hr.units;omega,⟨dy,bs,ry,cy,py,fun m v _ hmj hv=>?_⟩,?_⟩
 ·rw[List.getElem?_toArray]at hv;obtain⟨zz,hzz,rz⟩:=zW r hv;obtain⟨d,hd,cd,ed⟩:=hm m zz hmj hzz;obtain⟨as,ra⟩:=Rp.reads I d zz v hd rz;exact⟨d,as,ra,cd,ed⟩
 ·refine⟨.non,_,I.lset (its':=its.eraseIdx j) (ys:=xs.eraseIdx j) hH e ?_ ?_ ?_,rfl,q⟩
  ·show its.toArray.eraseIdxIfInBounds j=_;rw[Array.eraseIdxIfInBounds];rw[dif_pos (by rw[wI];omega)];simp
  ·exact zbK r j
  ·rw[List.length_eraseIdx];split <;> omega
inductive IAll(xs:List V)(H:Hp)(Q:VK):Prop where
 | mk (p:Addr) (bs:List Bool) (e:xs=[.ref p]) (h:H p=some (.lst (bs.map V.bl))) (q:Q (.bl (bs.all id)) H):IAll xs H Q
theorem zdO(bs:List Bool):∀ n,n=bs.length->(vd n).all (fun i=>bs.getD i true)=bs.all id:=by
 intro n e;subst e;rw[uK,vX,vX];refine⟨fun h x hx=>?_,fun h i hi=>?_⟩
 ·obtain⟨i,hi,rfl⟩:=wQ hx;have:=h i (vk.mpr hi)
  simpa [uu,hi] using this
 ·have hi':=vk.mp hi;have:=h bs[i] (wj hi')
  simpa [uu,hi'] using this
theorem Qp (hc:X.calm=true):CallR X (.builtin "all") IAll:=by
 intro pins s σ H xs us Q I r h;obtain⟨p,bs,rfl,hq,q⟩:=h;obtain⟨u,rfl,ru⟩:=Vals.one r;cases ru;obtain⟨its,rv,pl,_⟩:=I.list (SqL.of (K:=X.K) hq);have hh:X.A.in1.handled=none:=I.ok.hd hc;have lt:p<s.heap.objs.size:=let ⟨_,e,_⟩:=pl.isList;Heap.lt_size e
 have hl:its.length=bs.length:=by rw[← rv.length,wa]
 refine call_all_walk (wpAny_pyIter_list pl.isList ?_);refine⟨s.heap.objs.size,_,_,_,_,_,fun i=>bs.getD i true,rfl,Walks.list hh s.heap.objs.size p (wU lt) its.toArray,⟨⟨_,Heap.get?_push_size _ rfl,rfl,rfl⟩,pl.isList.at fun o e=>Heap.get?_push_of_some _ e⟩,fun i v s' Q' E' hv hQ=>?_,fun h' tk keep=>?_⟩
 ·have hv':its[i]?=some v:=by simpa using hv
  have hi:i<bs.length:=by rw[← hl];exact(wp.mp hv').1
  obtain⟨u,hu,ru⟩:=rv.get (i:=i) (x:=.bl bs[i]) (by rw[we,wb hi];rfl);rw[hu]at hv';cases hv';cases ru;refine wpAny_truthy_bool ?_
  simpa [uu,hi] using hQ
 ·rw[zdO bs _ (by rw[wI];exact hl)];refine⟨.bl (bs.all id),H,?_,rfl,q⟩;exact I.kept (h':=h') (t':=tk) fun b o eb=>keep b o (by simp only[wF,vq,or_false];exact wU (Heap.lt_size eb)) (Heap.get?_push_of_some _ eb)
end
end L2
namespace La
open Lean.Grind Nm
section
variable{k:Int}{F:Type}[Field F]{φ:Kf k F}{n:Nat}
theorem Rr.snoc{P:List (Pv F)}(R:Rr n P){c:Nat}(lt:∀ q∈P,q.1<c)(hc:c<n){f:Nat->F}(f0:∀ j,j<c->f j=0)(f1:f c=1)(fo:∀ j,n<=j->f j=0) :
  Rr n (P.map (fun q=>(q.1,fun j=>q.2 j - q.2 c*f j))++[(c,f)]):=by
 have cases:∀ q∈P.map (fun q=>(q.1,fun j=>q.2 j - q.2 c*f j))++[(c,f)],(∃ p∈P,q =(p.1,fun j=>p.2 j - p.2 c*f j))\/q =(c,f):=fun q hq=>by
  rcases wt.mp hq with h|h
  ·obtain⟨p,hp,e⟩:=wg.mp h;exact .inl ⟨p,hp,e.symm⟩
  ·exact .inr (wm.mp h)
 refine⟨?_,fun q hq=>?_,fun q hq j hj=>?_,fun q hq j hj=>?_,fun q hq=>?_,fun q hq r hr ne=>?_⟩
 ·rw[uV];refine⟨?_,Gu _ _,fun a ha b hb=>?_⟩
  ·rw[uQ];exact R.inc
  ·obtain⟨p,hp,rfl⟩:=wg.mp ha;rw[wm.mp hb];exact lt p hp
 ·rcases cases q hq with⟨p,hp,rfl⟩|rfl
  ·exact R.lt p hp
  ·exact hc
 ·rcases cases q hq with⟨p,hp,rfl⟩|rfl
  ·show p.2 j - p.2 c*f j=0;rw[R.out p hp j hj,fo j hj];grind
  ·exact fo j hj
 ·rcases cases q hq with⟨p,hp,rfl⟩|rfl
  ·show p.2 j - p.2 c*f j=0;have hj':j<p.1:=hj;rw[R.bef p hp j hj',f0 j (Gv hj' (lt p hp))];grind
  ·exact f0 j hj
 ·rcases cases q hq with⟨p,hp,rfl⟩|rfl
  ·show p.2 p.1 - p.2 c*f p.1=1;rw[R.one p hp,f0 _ (lt p hp)];grind
  ·exact f1
 ·rcases cases q hq with⟨p,hp,rfl⟩|rfl
  ·rcases cases r hr with⟨p',hp',rfl⟩|rfl
   ·show p.2 p'.1 - p.2 c*f p'.1=0;rw[R.oth p hp p' hp' ne,f0 _ (lt p' hp')];grind
   ·show p.2 c - p.2 c*f c=0;rw[f1];grind
  ·rcases cases r hr with⟨p',hp',rfl⟩|rfl
   ·exact f0 _ (lt p' hp')
   ·exact absurd rfl ne
def gjR(k:Int)(c:Nat)(f r:List Nb):List Nb:=vC (fun x y=>nsub k x (nmul k (r.getD c (nnum k 0)) y)) r f
theorem zfX(hk:kaa k){c:Nat}{f r:List Nb}(of:OkR k f)(or:OkR k r)(hl:r.length=f.length):(gjR k c f r).length=r.length/\OkR k (gjR k c f r):=by
 have rc:(r.getD c (nnum k 0)).ok k:=by
  rcases wK c r.length with h|h
  ·rw[wc,wb h];exact or _ (wj h)
  ·rw[wc,wN h];exact yg hk 0
 refine⟨by unfold gjR;rw[ve,hl,Gx],fun x hx=>?_⟩;unfold gjR at hx;obtain⟨i,hi,e⟩:=wQ hx;rw[uC]at e;rw[← e];exact L2.za0 hk.lt.1 (or _ (wj _)) (L2.zaX hk.lt.1 rc (of _ (wj _)))
theorem zgl(hk:kaa k){c:Nat}{f r:List Nb}(of:OkR k f)(or:OkR k r)(hl:r.length=f.length)(j:Nat):nv φ (gjR k c f r) j=nv φ r j - nv φ r c*nv φ f j:=by
 have rc:(r.getD c (nnum k 0)).ok k:=by
  rcases wK c r.length with h|h
  ·rw[wc,wb h];exact or _ (wj h)
  ·rw[wc,wN h];exact yg hk 0
 exact zhI hl (fun x y=>x - nv φ r c*y) (by grind) (fun x hx y hy=>by
  rw[φ.sub (or x hx) (L2.zaX hk.lt.1 rc (of y hy)),φ.mul rc (of y hy)];rfl) j
structure Gj(φ:Kf k F)(n c:Nat)(M told left:Tb)(ls:List Nat):Prop where
 okt:OkM k n told
 okl:OkM k n left
 len:ls.length=told.length
 rr:Rr n (ls.zip (told.map (nv φ)))
 lt:∀ l∈ls,l<c
 zl:∀ r∈left,∀ j,j<c->nv φ r j=0
 sp:∀ v,Rm φ (told++left) v↔Rm φ M v
theorem Gj.start{M:Tb}(oM:OkM k n M):Gj φ n 0 M [] M [] where
 okt:=fun _ h=>(nomatch h)
 okl:=oM
 len:=rfl
 rr:=by
  show Rr n [];exact⟨.nil,(fun _ h=>nomatch h),(fun _ h=>nomatch h),(fun _ h=>nomatch h),(fun _ h=>nomatch h),(fun _ h=>nomatch h)⟩
 lt:=fun _ h=>(nomatch h)
 zl:=fun _ _ _ h=>absurd h (vx _)
 sp:=fun _=>Iff.rfl
theorem Gj.skip{c:Nat}{M told left:Tb}{ls:List Nat}(G:Gj φ n c M told left ls)(z:∀ r∈left,nv φ r c=0):Gj φ n (c+1) M told left ls :=
 ⟨G.okt,G.okl,G.len,G.rr,fun l hl=>uB (G.lt l hl),fun r hr j hj=>(by
  rcases vo (vz hj)with h|h
  ·exact G.zl r hr j h
  ·rw[h];exact z r hr),G.sp⟩
theorem zal{α:Type}{l:List α}{j:Nat}{p r:α}(hp:l[j]?=some p)(hr:r∈l):r=p\/r∈l.eraseIdx j:=by
 obtain⟨hj,e⟩:=wp.mp hp;obtain⟨i,hi,ei⟩:=wQ hr
 by_cases h:i=j
 ·subst h;rw[e]at ei;exact .inl ei.symm
 ·right
  rw[List.eraseIdx_eq_take_drop_succ]
  rcases Nat.lt_or_gt_of_ne h with g|g
  ·exact wP _ (by rw[List.mem_take_iff_getElem];exact⟨i,by omega,ei⟩)
  ·exact wE _ (by rw[List.mem_drop_iff_getElem];exact⟨i - (j+1),by omega,by rw[← ei];congr 1;omega⟩)
theorem Gj.turn(hk:kaa k){c j:Nat}{M told left:Tb}{ls:List Nat}{p:List Nb}{b:Nb}(G:Gj φ n c M told left ls)(hc:c<n)(hp:left[j]?=some p)(ob:b.ok k)(eb:φ.to b*nv φ p c=1) :
  Gj φ n (c+1) M (told.map (gjR k c (p.map (nmul k b)))++[p.map (nmul k b)]) ((left.eraseIdx j).map (gjR k c (p.map (nmul k b)))) (ls++[c]):=by
 have pm:=wd hp;have op:=G.okl p pm;have ef:∀ i,nv φ (p.map (nmul k b)) i=φ.to b*nv φ p i:=fun i=>zhC (fun x=>φ.to b*x) (by grind) (fun x hx=>φ.mul ob (op.2 x hx)) i
 have lf:(p.map (nmul k b)).length=n:=by rw[wa];exact op.1
 have of:OkR k (p.map (nmul k b)):=fun x hx=>by
  obtain⟨y,hy,rfl⟩:=wg.mp hx;exact L2.zaX hk.lt.1 ob (op.2 y hy)
 have f0:∀ i,i<c->nv φ (p.map (nmul k b)) i=0:=fun i hi=>by rw[ef,G.zl p pm i hi];grind
 have f1:nv φ (p.map (nmul k b)) c=1:=by rw[ef];exact eb
 have e2:∀ i,nv φ p i=nv φ p c*nv φ (p.map (nmul k b)) i:=fun i=>by rw[ef];grind
 have se:=gH (l:=left) j;generalize p.map (nmul k b)=f at *;have oe:∀ r∈left.eraseIdx j,r∈left:=fun r hr=>se.subset hr
 have gt:∀ r∈told,nv φ (gjR k c f r)=fun i=>nv φ r i - nv φ r c*nv φ f i:=fun r hr=>funext fun i=>zgl hk of (G.okt r hr).2 (by rw[(G.okt r hr).1,lf]) i
 have gl:∀ r∈left,nv φ (gjR k c f r)=fun i=>nv φ r i - nv φ r c*nv φ f i:=fun r hr=>funext fun i=>zgl hk of (G.okl r hr).2 (by rw[(G.okl r hr).1,lf]) i
 have fin:Rm φ (told++left) (nv φ f):=by
  have h:Rm φ (told++left) (nv φ p):=.of ⟨p,wE _ pm,rfl⟩;exact(h.smul (φ.to b)).cast fun i=>(ef i).symm
 refine⟨fun r hr=>?_,fun r hr=>?_,?_,?_,fun l hl=>?_,fun r hr i hi=>?_,fun v=>?_⟩
 ·rcases wt.mp hr with h|h
  ·obtain⟨t,ht,rfl⟩:=wg.mp h;have ot:=G.okt t ht;have:=zfX hk (c:=c) of ot.2 (by rw[ot.1,lf]);exact⟨by rw[this.1];exact ot.1,this.2⟩
  ·rw[wm.mp h];exact⟨lf,of⟩
 ·obtain⟨t,ht,rfl⟩:=wg.mp hr;have ot:=G.okl t (oe t ht);have:=zfX hk (c:=c) of ot.2 (by rw[ot.1,lf]);exact⟨by rw[this.1];exact ot.1,this.2⟩
 ·rw[wy,wy,wa,G.len];rfl
 ·have em:(told.map (gjR k c f)++[f]).map (nv φ) =(told.map (nv φ)).map (fun u=>fun i=>u i - u c*nv φ f i)++[nv φ f]:=by
   rw[wu,vO,vO];refine congrArg (·++_) (vU fun r hr=>?_);exact gt r hr
  rw[em,List.zip_append (by rw[wa,wa];exact G.len),GV];exact G.rr.snoc (fun q hq=>G.lt _ (wZ hq).1) hc f0 f1 fun i hi=>yC φ (by rw[lf];exact hi)
 ·rcases wt.mp hl with h|h
  ·exact uB (G.lt l h)
  ·rw[wm.mp h];exact ut c
 ·obtain⟨t,ht,rfl⟩:=wg.mp hr;rw[gl t (oe t ht)];show nv φ t i - nv φ t c*nv φ f i=0
  rcases vo (vz hi)with h|h
  ·rw[G.zl t (oe t ht) i h,f0 i h];grind
  ·rw[h,f1];grind
 ·rw[← G.sp v];have sub:∀(u w:Nat->F)(a:F)(N:Tb),Rm φ N u->Rm φ N w->Rm φ N (fun i=>u i - a*w i):=fun u w a N hu hw=>(hu.add (hw.smul (-a))).cast fun i=>by grind
  constructor
  ·refine fun h=>h.bind fun u ⟨r,hr,e⟩=>?_
   subst e
   rcases wt.mp hr with h|h
   ·rcases wt.mp h with h|h
    ·obtain⟨t,ht,rfl⟩:=wg.mp h;rw[gt t ht];exact sub _ _ _ _ (.of ⟨t,wP _ ht,rfl⟩) fin
    ·rw[wm.mp h];exact fin
   ·obtain⟨t,ht,rfl⟩:=wg.mp h;rw[gl t (oe t ht)];exact sub _ _ _ _ (.of ⟨t,wE _ (oe t ht),rfl⟩) fin
  ·have fin':Rm φ (told.map (gjR k c f)++[f] ++(left.eraseIdx j).map (gjR k c f)) (nv φ f):=.of ⟨f,wP _ (wE _ (wm.mpr rfl)),rfl⟩;refine fun h=>h.bind fun u ⟨r,hr,e⟩=>?_
   subst e;have back:∀ r,nv φ (gjR k c f r) =(fun i=>nv φ r i - nv φ r c*nv φ f i)->gjR k c f r∈told.map (gjR k c f)++[f] ++(left.eraseIdx j).map (gjR k c f)->Rm φ (told.map (gjR k c f)++[f] ++(left.eraseIdx j).map (gjR k c f)) (nv φ r):=fun r e hm=>by
    have h1:Rm φ (told.map (gjR k c f)++[f] ++(left.eraseIdx j).map (gjR k c f)) (nv φ (gjR k c f r)):=.of ⟨_,hm,rfl⟩;rw[e]at h1;exact(h1.add (fin'.smul (nv φ r c))).cast fun i=>by grind
   rcases wt.mp hr with h|h
   ·exact back r (gt r h) (wP _ (wP _ (wg.mpr ⟨r,h,rfl⟩)))
   ·rcases zal hp h with e|e
    ·rw[e];exact(fin'.smul (nv φ p c)).cast fun i=>(e2 i).symm
    ·exact back r (gl r h) (wE _ (wg.mpr ⟨r,e,rfl⟩))
theorem Gj.done{c:Nat}{M told left:Tb}{ls:List Nat}(G:Gj φ n c M told left ls)(h:left=[]\/n<=c):IsR φ n told ls/\∀ v,Rm φ told v↔Rm φ M v:=by
 refine⟨⟨G.okt,G.len,G.rr⟩,fun v=>?_⟩;rw[← G.sp v];have z:∀ r∈left,∀ i,nv φ r i=0:=fun r hr i=>by
  rcases h with h|h
  ·rw[h]at hr;exact nomatch hr
  ·rcases wK i c with g|g
   ·exact G.zl r hr i g
   ·exact yC φ (by rw[(G.okl r hr).1];omega)
 constructor
 ·exact fun q=>q.mono fun r ⟨x,hx,e⟩=>⟨x,wP _ hx,e⟩
 ·intro q;obtain⟨a,b,ha,hb,ev⟩:=Rm.app.mp q;have zb:∀ i,b i=0:=fun i=>hb.zero_at fun r ⟨x,hx,e⟩=>by rw[e];exact z x hx i
  exact ha.cast fun i=>by rw[ev i,zb i];grind
theorem ze3(hk:kaa k){A B:Tb}(oA:OkM k n A)(lA:A.length=n)(oB:OkM k n B)(n1:1<=n)(v:Nat->F):Rm φ (kry k A B n) v->Rm φ (kry k A B (n - 1)) v:=by
 by_cases h:∃ s,s<n/\∀ v,Rm φ (kry k A B (s+1)) v->Rm φ (kry k A B s) v
 ·obtain⟨s,hs,st⟩:=h;intro hv;have h1:=JZ hk oA lA oB st (n - s) v (by rw[show s +(n - s)=n by omega];exact hv);have h2:=zeE hk oA lA oB s (n - 1 - s) v h1;rw[show s +(n - 1 - s)=n - 1 by omega]at h2;exact h2
 ·exfalso
  have key:∀ t,t<=n->∀ R ls,RedOf φ n (kry k A B t) R ls->t+1<=R.length:=by
   intro t
   induction t with
   | zero =>
    intro _ R ls hR;refine Nat.succ_le_of_lt (Nat.pos_of_ne_zero fun e=>h ⟨0,by omega,fun v hv=>?_⟩);have eR:R=[]:=vJ e;subst eR;have zB:∀ u,Rm φ B u->∀ i,u i=0:=fun u hu i=>(hR.to u hu).zero_at fun r ⟨x,hx,_⟩=>nomatch hx
    have hv':Rm φ (B++B.map (imgR k A)) v:=hv;obtain⟨a,b,ha,hb,ev⟩:=Rm.app.mp hv';obtain⟨u,hu,eu⟩:=(Rm.img hk oA oB).mp hb;have:∀ i,b i=0:=fun i=>by
     rw[eu i,show u =(fun _=>0)from funext (zB u hu)];exact Zk A i
    exact Span.cast ha fun i=>by rw[ev i,this i];grind
   | succ t ih =>
    intro ht R ls hR;obtain⟨R',ls',hR'⟩:=XR φ hk (YR hk oA lA oB t);have h1:=ih (by omega) R' ls' hR';have sub:=hR'.toIsR.sub_len hR.toIsR fun v hv=>hR.to v (Jm hk oA lA oB t v (hR'.fro v hv))
    rcases wK R'.length R.length with g|g
    ·omega
    ·exact absurd ⟨t,by omega,fun v hv=>hR'.fro v (sub.2 g v (hR.to v hv))⟩ h
  obtain⟨R,ls,hR⟩:=XR φ hk (YR hk oA lA oB n);have h1:=key n (ww _) R ls hR;have h2:ls.length<=n:=by
   have:=L2.Zv (m:=0) hR.toIsR.inc (fun x hx=>⟨vA _,(by
    obtain⟨i,r,e1,e2⟩:=hR.toIsR.lead_of hx;exact hR.rr.lt _ (hR.toIsR.get e1 e2):x<n)⟩) (vA _)
   omega
  have:=hR.len;omega
end
end La
namespace L2
open PySem PySem.Spec PyProof.Rows Nm
end L2
open PySem PySem.Spec PyProof.Rows
namespace L2
end L2
namespace L2
open PySem PySem.Spec PyProof.Rows Nm
end L2
namespace L2
open PySem PySem.Spec PyProof.Rows Nm
section
variable{k:Int}(hk:kaa k){n:Nat}{x y:List Nb}
include hk
section
variable{A C:Tb}(oA:La.OkM k n A)(lA:A.length=n)
include oA lA
theorem xD(ox:La.OkR k x)(lx:x.length=n):∀ i,La.OkR k (powX k A x i)/\(powX k A x i).length=n
 | 0=>⟨ox,lx⟩
 | i+1=>by
  obtain⟨o,l⟩:=xD ox lx i;obtain⟨a,b⟩:=La.JJ hk oA o;exact⟨b,a.trans lA⟩
end
theorem zcn(ox:La.OkR k x)(oy:La.OkR k y)(h:x.length=y.length):La.ndot k x y=La.ndot k y x:=by
 obtain⟨F,_,_,⟨φ⟩⟩:=La.yQ hk;refine φ.inj (La.xH hk ox oy) (La.xH hk oy ox) ?_;rw[La.xE φ hk ox oy h,La.xE φ hk oy ox h.symm,h,La.yO]
theorem Yd{s z:Nat}(z7:61<=z){A C:Tb}(hA:TOk k n n z A)(hC:TOk k s n z C):∀ i,kan k n A C i=C.map fun c=>powX k (kac n A) c i
 | 0=>(waO _).symm
 | i+1=>by
  have oL:=Xq hk z7 hA hC i;show(kan k n A C i).map (fun r=>(kac n A).map fun col=>La.ndot k r col)=_;have e:∀ r∈kan k n A C i,((kac n A).map fun col=>La.ndot k r col)=imgM k (kac n A) r:=fun r hr=>by
   unfold imgM;refine vU fun col hc=>?_
   have oc:=zL hA.ok col hc;exact zcn hk (oL.ok r hr).2 oc.2 (by rw[(oL.ok r hr).1,oc.1,hA.len])
  rw[vU e,Yd z7 hA hC i,vO];rfl
end
end L2
namespace L2
open PySem PySem.Spec PyProof.Rows Nm
theorem zbI{k:Int}(hk:kaa k){D D' B B':Nat}:∀(l:List (Nb×Nb))(s:Nb)(c:Nat),(∀ p∈l,La.dB D B p.1/\La.dB D' B' p.2/\p.1.ok k/\p.2.ok k)->s.ok k->La.dB (D*D') c s->La.dB (D*D') (c+l.length *(B*B')) (l.foldl (fun s p=>nadd k s (nmul k p.1 p.2)) s)
 | [],s,c,_,_,h=>by rw[Gz,Gy];exact h
 | p::l,s,c,hp,os,h=>by
  obtain⟨h1,h2,o1,o2⟩:=hp p wk;have om:=La.yD hk o1 o2;have:=zbI hk l (nadd k s (nmul k p.1 p.2)) (c+B*B') (fun q hq=>hp q (wo _ hq)) (La.YV hk os om) (h.add (h1.mul h2 o1 o2) os om);rw[waA];refine this.mono ?_;rw[vy,vt,vw];omega
theorem zdV{k:Int}(hk:kaa k){D D' B B' n:Nat}{x y:List Nb}(ox:La.OkR k x)(oy:La.OkR k y)(lx:x.length=n)(hx:∀ u∈x,La.dB D B u)(hy:∀ u∈y,La.dB D' B' u):La.dB (D*D') (n *(B*B')) (La.ndot k x y):=by
 unfold La.ndot La.ndotF;have h:=zbI hk (x.zip y) (nnum k 0) 0 (fun p hp=>⟨hx _ (wZ hp).1,hy _ (wZ hp).2,ox _ (wZ hp).1,oy _ (wZ hp).2⟩) (La.yg hk 0) (La.dB.num (by simp));refine h.mono ?_;rw[vS];refine vh _ ?_;rw[uh];omega
theorem zfH{k:Int}(hk:kaa k){n T C D:Nat}{A:Tb}{x:List Nb}(n4:n<=4)(oA:La.OkM k n A)(d0:D≠0)(dl:D<2^T)(dA:∀ r∈A,La.rowD D T r)(ox:La.OkR k x)(hx:La.rowB C x):La.rowB (T+C+2) (imgM k A x):=by
 obtain⟨d,e0,el,hd⟩:=hx;have p1:=uA T;have p2:=uA C;have e:2^(T+C+2)=2^T*2^C*4:=by rw[uy,uy]
 have pm:0<2^T*2^C:=wau p1 p2;refine⟨D*d,GC d0 e0,?_,fun y hy=>?_⟩
 ·rw[e];have:D*d<=2^T*2^C:=vm (vW dl) (vW el);omega
 ·unfold imgM at hy;obtain⟨r,hr,rfl⟩:=wg.mp hy;refine(zdV hk (oA r hr).2 ox (oA r hr).1 (dA r hr) hd).mono ?_;rw[e];have h1:(2^T - 1) *(2^C - 1)<=(2^T - 1)*2^C:=vp _ (by omega);have h2:(2^T - 1)*2^C=2^T*2^C - 2^C:=by rw[waV,vw]
  have h3:n *((2^T - 1) *(2^C - 1))<=4 *(2^T*2^C - 2^C):=vm n4 (by omega);omega
theorem Yo{k:Int}{B:Nat}{x:List Nb}(k0:k≠0)(ox:La.OkR k x)(b1:1<=B):La.rowB B x:=zb2 (k:=k) (n:=x.length) (M:=[x]) k0 (fun r hr=>by rw[wm.mp hr];exact⟨rfl,ox⟩) b1 x wk
theorem Ze{k:Int}(hk:kaa k){C:Nat}{x:List Nb}(ox:La.OkR k x)(h:La.rowB C x)(c7:61<=C):∀ y∈x,nsm C y:=zef hk (n:=x.length) (W:=[x]) (fun r hr=>by rw[wm.mp hr];exact⟨rfl,ox⟩) (fun r hr=>by rw[wm.mp hr];exact h) c7 x wk
theorem zeM{k:Int}{n:Nat}:IsRa k n [] []:=fun F _ φ=>((La.Gj.start (φ:=φ) (n:=n) (M:=[]) (fun _ h=>nomatch h)).done (.inl rfl)).1
theorem zbG{k:Int}{A B:Tb}{b:List Nb}(hb:b∈B):∀(t j:Nat),j<=t->powX k A b j∈La.kry k A B t
 | 0,0,_=>hb
 | 0,j+1,h=>by omega
 | t+1,0,_=>wP _ hb
 | t+1,j+1,h=>wE _ (wg.mpr ⟨powX k A b j,zbG hb t j (by omega),rfl⟩)
end L2
namespace L2
open PySem PySem.Spec PyProof.Rows Nm
end L2
namespace L2
open Nm
end L2
namespace L2
open PySem PySem.Spec PyProof.Rows Nm
theorem jY{α:Type}[DecidableEq α](f:α->PyData)(h:∀ x y,PyData.eqv (f x) (f y)=decide (x=y)):∀ l l':List α,PyData.eqvAll (l.map f) (l'.map f)=decide (l=l')
 | [],[]=>rfl
 | [],_::_=>rfl
 | _::_,[]=>rfl
 | x::l,y::l'=>by
  show(PyData.eqv (f x) (f y) && PyData.eqvAll (l.map f) (l'.map f))=_;rw[h,jY f h l l',uK];simp
theorem zgN(M N:Tb):PyData.eqv (tabD M) (tabD N)=decide (M=N):=jY rowD (fun xs ys=>jY toD qy xs ys) M N
theorem zfm{α β:Type}{R:α->β->Prop}{xs:List α}{ys:List β}(h:Paired R xs ys)(n:Nat):Paired R (xs.take n) (ys.take n):=by
 have l:=zj h;refine YF (by rw[wr,wr,l]) fun i x a h1 h2=>?_
 rw[ux]at h1 h2
 split at h1
 ·rename_i hi;rw[if_pos hi]at h2;exact jL h h1 h2
 ·cases h1
end L2
namespace L2
open PySem PySem.Spec PyProof.Rows Nm
end L2
namespace L2
open PySem PySem.Spec PyProof.Rows Nm
theorem Ju{k:Int}{F:Type}[Lean.Grind.Field F]{φ:La.Kf k F}(hk:kaa k){n:Nat}{A:Tb}{x:List Nb}(oA:La.OkM k n A)(ox:La.OkR k x)(lx:x.length=n)(i:Nat):La.nv φ (imgM k A x) i=La.limg φ n A (La.nv φ x) i:=La.zea hk oA ox lx i
def blkT(k:Int)(h:Nat)(A B:Tb):Nat->Tb
 | 0=>B
 | t+1=>kai k h A (blkT k h A B t)
section
variable{k:Int}(hk:kaa k){n h s m:Nat}{A B C:Tb}(hM:MOk k n h s m A B C)
theorem zg9{M N:Tb}:kac h (kai k h M N) =(kac h N).map (imgM k M):=by
 refine gx fun j=>?_
 rcases wK j h with hj|hj
 ·rw[yV hj,we,yV hj];unfold kai imgM;rw[vO];refine congrArg some (vU fun r _=>?_);show((kac h N).map fun col=>La.ndot k r col).getD j (.z 0)=_;rw[wc,we,yV hj];rfl
 ·rw[wN (by rw[zk];exact hj),wN (by rw[wa,zk];exact hj)]
theorem zbN:∀ t,kac h (blkT k h A B t) =(kac h B).map fun c=>powX k A c t
 | 0=>(waO _).symm
 | t+1=>by
  show kac h (kai k h A (blkT k h A B t))=_;rw[zg9,zbN t,vO];rfl
include hk hM
theorem zf0:∀ t,La.OkM k h (blkT k h A B t)/\(blkT k h A B t).length=n
 | 0=>⟨hM.b.ok,hM.b.len⟩
 | t+1=>by
  obtain⟨o,l⟩:=zf0 t;have oT:=zL o;rw[l]at oT;refine⟨fun r hr=>?_,by show(kai k h A _).length=n;unfold kai;rw[wa,hM.a.len]⟩;have hr':r∈kai k h A (blkT k h A B t):=hr;unfold kai at hr';obtain⟨a,ha,rfl⟩:=wg.mp hr';refine⟨by rw[wa,zk],fun y hy=>?_⟩;obtain⟨c,hc,rfl⟩:=wg.mp hy;exact La.xH hk (hM.a.ok a ha).2 (oT c hc).2
end
end L2
namespace L2
open PySem PySem.Spec PyProof.Rows Nm
def whk(k:Int)(m:Nat)(x:Nb):Prop:=k=0->∃ i:Int,x=nnum k i/\i.natAbs<2^m
theorem whk.mono{k:Int}{m n:Nat}{x:Nb}(h:whk k m x)(hm:m<=n):whk k n x:=fun k0=>by
 obtain⟨i,e,hi⟩:=h k0;exact⟨i,e,wL hi (vg (by decide) hm)⟩
theorem whk.szk{k:Int}{m:Nat}{x:Nb}(h:whk k m x)(m1:1<=m):szk k m x:=fun k0=>by
 obtain⟨i,e,hi⟩:=h k0;subst k0;rw[e];exact⟨hi,sm_one.mono m1⟩
theorem whk.nsm{k:Int}(hk:kaa k){m n:Nat}{x:Nb}(o:x.ok k)(h:whk k m x)(hm:m<=n)(h7:61<=n):nsm n x:=((h.mono hm).szk (wD (by decide) h7)).nsm hk o (ww _) h7
theorem jb{k:Int}(k0:k=0)(i:Int):nnum k i=.q (i:Rat):=by unfold nnum;rw[if_pos k0]
theorem zei{a b m n:Nat}(ha:a<2^m)(hb:b<2^n):a+b<2^(max m n+1):=by
 have h1:2^m<=2^max m n:=vg (by decide) (Nat.le_max_left _ _);have h2:2^n<=2^max m n:=vg (by decide) (Nat.le_max_right _ _);rw[gr];omega
theorem zeN{k:Int}{m n:Nat}{x y:Nb}(ox:x.ok k)(oy:y.ok k)(sx:whk k m x)(sy:whk k n y):whk k (max m n+1) (nadd k x y):=fun k0=>by
 obtain⟨i,rfl,hi⟩:=sx k0;obtain⟨j,rfl,hj⟩:=sy k0;refine⟨i+j,?_,ud (Gd i j) (zei hi hj)⟩;rw[jb k0,jb k0,jb k0];show Nb.q ((i:Rat) +(j:Rat))=_;rw[GA]
theorem zfl{k:Int}{m n:Nat}{x y:Nb}(ox:x.ok k)(oy:y.ok k)(sx:whk k m x)(sy:whk k n y):whk k (max m n+1) (nsub k x y):=fun k0=>by
 obtain⟨i,rfl,hi⟩:=sx k0;obtain⟨j,rfl,hj⟩:=sy k0;refine⟨i - j,?_,ud (waf i j) (zei hi hj)⟩;rw[jb k0,jb k0,jb k0];show Nb.q ((i:Rat) - (j:Rat))=_;rw[Rat.intCast_sub]
theorem Qc{k:Int}{m n:Nat}{x y:Nb}(ox:x.ok k)(oy:y.ok k)(sx:whk k m x)(sy:whk k n y):whk k (m+n) (nmul k x y):=fun k0=>by
 obtain⟨i,rfl,hi⟩:=sx k0;obtain⟨j,rfl,hj⟩:=sy k0;refine⟨i*j,?_,?_⟩
 ·rw[jb k0,jb k0,jb k0];show Nb.q ((i:Rat) *(j:Rat))=_;rw[wV]
 ·rw[vv,uy];exact wao hi hj
structure TW(k:Int)(r c m:Nat)(M:Tb):Prop where
 len:M.length=r
 ok:La.OkM k c M
 sz:∀ r∈M,∀ x∈r,whk k m x
theorem TW.up{k:Int}{r c m m':Nat}{M:Tb}(h:TW k r c m M)(hm:m<=m'):TW k r c m' M:=⟨h.len,h.ok,fun r hr x hx=>(h.sz r hr x hx).mono hm⟩
theorem TW.tok{k:Int}(hk:kaa k){r c m n:Nat}{M:Tb}(h:TW k r c m M)(hm:m<=n)(h7:61<=n):TOk k r c n M:=⟨h.len,h.ok,fun r hr x hx=>(h.sz r hr x hx).nsm hk ((h.ok r hr).2 x hx) hm h7⟩
theorem TW.set{k:Int}{r c m i:Nat}{M:Tb}{xs:List Nb}(h:TW k r c m M)(lx:xs.length=c)(ox:La.OkR k xs)(sx:∀ x∈xs,whk k m x):TW k r c m (M.set i xs):=by
 refine⟨by rw[vf];exact h.len,fun q hq=>?_,fun q hq=>?_⟩
 all_goals
  rcases La.yj hq with e|e
 ·rw[e];exact⟨lx,ox⟩
 ·exact h.ok q e
 ·rw[e];exact sx
 ·exact h.sz q e
end L2
namespace L2
open PySem PySem.Spec PyProof.Rows Nm
theorem Xk{k:Int}{m:Nat}{x:Nb}(k0:k=0)(h:whk k m x):La.dB 1 (2^m - 1) x:=by
 obtain⟨i,rfl,hi⟩:=h k0;exact La.dB.num (by omega)
theorem zc9{k:Int}{m B:Nat}{x:Nb}(ox:x.ok k)(h:k=0->La.dB 1 B x)(hb:B<2^m):whk k m x:=fun k0=>by
 have h:=h k0;cases x with
 | z i=>exact absurd k0 ox.1
 | q r =>
  obtain⟨a,ea,ha⟩:=h;refine⟨a,?_,by omega⟩;rw[jb k0];have e1:(((1:Nat):Int):Rat)=1:=by rfl
  rw[e1]at ea;have:r =(a:Rat):=by rw[← ea];grind
  rw[this]
theorem zcM{k:Int}{m:Nat}{x:List Nb}(m1:1<=m)(ox:La.OkR k x)(h:∀ y∈x,whk k m y):La.rowB m x:=by
 by_cases k0:k=0
 ·have:2^1<=2^m:=vg (by decide) m1;exact⟨1,by decide,by omega,fun y hy=>Xk k0 (h y hy)⟩
 ·exact Yo k0 ox m1
theorem zbP{k:Int}(hk:kaa k){n a b c:Nat}{x y:List Nb}(ox:La.OkR k x)(oy:La.OkR k y)(lx:x.length=n)(hn:n<=2^c)(hx:∀ u∈x,whk k a u)(hy:∀ u∈y,whk k b u):whk k (a+b+c) (La.ndot k x y):=by
 refine zc9 (B:=n *((2^a - 1) *(2^b - 1))) (La.xH hk ox oy) (fun k0=>?_) ?_
 ·exact zdV hk ox oy lx (fun u hu=>Xk k0 (hx u hu)) (fun u hu=>Xk k0 (hy u hu))
 ·have p1:=uA a;have p2:=uA b;have p3:=uA c;rw[uy,uy];have h1:(2^a - 1) *(2^b - 1)<=(2^a - 1)*2^b:=vp _ (by omega);have h2:(2^a - 1)*2^b=2^a*2^b - 2^b:=by rw[waV,vw]
  have h3:0<2^a*2^b:=wau p1 p2
  calc n *((2^a - 1) *(2^b - 1))<=2^c *(2^a*2^b - 1):=vm hn (by omega)
   _<2^c *(2^a*2^b):=Nat.mul_lt_mul_of_pos_left (by omega) p3
   _=2^a*2^b*2^c:=vP ..
theorem zgO{k:Int}(hk:kaa k){r n a b:Nat}{A:Tb}{x:List Nb}(n4:k=0->n<=4)(hA:TW k r n a A)(ox:La.OkR k x)(hx:∀ u∈x,whk k b u):∀ y∈imgM k A x,whk k (a+b+2) y:=fun y hy k0=>by
 unfold imgM at hy;obtain⟨q,hq,rfl⟩:=wg.mp hy;have o:=hA.ok q hq;exact zbP hk o.2 ox o.1 (n4 k0) (hA.sz q hq) hx k0
theorem zeC{k:Int}(hk:kaa k){n a b:Nat}{A:Tb}{x:List Nb}(n4:k=0->n<=4)(hA:TW k n n a A)(ox:La.OkR k x)(lx:x.length=n)(hx:∀ u∈x,whk k b u):∀ i,∀ y∈powX k A x i,whk k (b+i *(a+2)) y
 | 0=>fun y hy=>(hx y hy).mono (by omega)
 | i+1=>fun y hy=>by
  have o:=xD hk hA.ok hA.len ox lx i;exact(zgO hk n4 hA o.1 (zeC hk n4 hA ox lx hx i) y hy).mono (by rw[vt,vw];omega)
theorem ji{k:Int}{c m:Nat}{M:Tb}(oM:La.OkM k c M)(h:∀ r∈M,∀ x∈r,whk k m x):∀ r∈kac c M,∀ x∈r,whk k m x:=fun r hr x hx=>by
 unfold kac at hr;obtain⟨j,hj,rfl⟩:=wg.mp hr;obtain⟨q,hq,rfl⟩:=wg.mp hx;have hl:=(oM q hq).1;rw[vk]at hj;rw[wc,wb (by omega)];exact h q hq _ (wj _)
theorem zg2{k:Int}(hk:kaa k){n h s z a:Nat}{A B C:Tb}(hM:MOk k n h s z A B C)(n4:k=0->n<=4)(wA:TW k n n a A)(wB:TW k n h a B)(i:Nat):∀ r∈blkT k h A B i,∀ x∈r,whk k (a+i *(a+2)) x:=by
 obtain⟨ob,lb⟩:=zf0 hk hM i;have oT:=zdz hM.b;have wT:=ji wB.ok wB.sz;have cz:∀ r∈kac h (blkT k h A B i),∀ x∈r,whk k (a+i *(a+2)) x:=fun r hr x hx=>by
  rw[zbN i]at hr;obtain⟨c,hc,rfl⟩:=wg.mp hr;exact zeC hk n4 wA (oT.ok c hc).2 (oT.ok c hc).1 (wT c hc) i x hx
 have tt:=ji (zL ob) cz;rw[yk ob]at tt;exact tt
end L2
namespace L2
open PySem PySem.Spec PyProof.Rows Nm
section
variable{k:Int}{n:Nat}
theorem zfP{V M N:Tb}(h:SameR k V M):SameR k (V++N) (M++N):=fun F _ φ v=>by
 rw[La.Rm.app,La.Rm.app];exact⟨fun⟨a,b,ha,hb,e⟩=>⟨a,b,(h F φ a).mp ha,hb,e⟩,fun⟨a,b,ha,hb,e⟩=>⟨a,b,(h F φ a).mpr ha,hb,e⟩⟩
end
end L2
namespace L2
open PySem PySem.Spec PyProof.Rows Nm
end L2
namespace L2
open PySem PySem.Spec PyProof.Rows Nm
end L2
namespace L2
open PySem PySem.Spec PyProof.Rows Nm
theorem getT{h l:Nat}(M:Tb)(hl:l<h):(kac h M)[l]?=some ((kac h M).getD l []):=by
 have hl':l <(kac h M).length:=by rw[zk];exact hl
 rw[wc,wb hl'];rfl
end L2
namespace L2
open PySem PySem.Spec PyProof.Rows Nm
end L2
namespace L2
open PySem PySem.Spec PyProof.Rows Nm
section
variable{k:Int}{b:Nat}(hk:kaa k){A:Tb}(oA:La.OkM k b A)(lA:A.length=b)
include hk oA lA
theorem zax{F:Type}[Lean.Grind.Field F](φ:La.Kf k F){c y:List Nb}(oc:La.OkR k c)(lc:c.length=b)(oy:La.OkR k y)(ly:y.length=b):∀ i j,La.dot b (La.nv φ (powX k (kac b A) c i)) (La.nv φ (powX k A y j))=La.dot b (La.nv φ c) (La.nv φ (powX k A y (i+j)))
 | 0,j=>by rw[vS];rfl
 | i+1,j=>by
  have oT:La.OkM k b (kac b A):=by have:=zL oA;rw[lA]at this;exact this
  have op:=xD hk oT (zk b A) oc lc i;have oq:=xD hk oA lA oy ly j;have e1:La.nv φ (powX k (kac b A) c (i+1))=La.limg φ b (La.trF b A) (La.nv φ (powX k (kac b A) c i)):=funext fun t=>Ju hk oT op.1 op.2 t
  have e2:La.limg φ b A (La.nv φ (powX k A y j))=La.nv φ (powX k A y (j+1)):=funext fun t=>(Ju hk oA oq.1 oq.2 t).symm
  rw[e1,La.zbV oA lA,e2,zax φ oc lc oy ly i (j+1),show i +(j+1)=i+1+j by omega]
end
end L2
namespace L2
open PySem PySem.Spec PyProof.Rows Nm
theorem XB{P:Nb->Prop}{c:Nat}{M:Tb}(hl:∀ r∈M,r.length=c)(h:∀ r∈M,∀ x∈r,P x):∀ r∈kac c M,∀ x∈r,P x:=fun r hr x hx=>by
 unfold kac at hr;obtain⟨j,hj,rfl⟩:=wg.mp hr;obtain⟨q,hq,rfl⟩:=wg.mp hx;have:=hl q hq;rw[vk]at hj;rw[wc,wb (by omega)];exact h q hq _ (wj _)
end L2
namespace L2
open PySem PySem.Spec PyProof.Rows Nm
def sqR(Ms:Nat->Tb)(i q:Nat):Nat->List Nb
 | 0=>[]
 | j+1=>sqR Ms i q j ++(Ms (i+j)).getD q []
def sqI(Ms:Nat->Tb)(n i:Nat):Nat->Tb
 | 0=>[]
 | q+1=>sqI Ms n i q++[sqR Ms i q n]
def sqT(Ms:Nat->Tb)(n s:Nat):Nat->Tb
 | 0=>[]
 | i+1=>sqT Ms n s i++sqI Ms n i s
theorem qD{Ms:Nat->Tb}{n i:Nat}{r:List Nb}:∀ q,r∈sqI Ms n i q↔∃ q',q'<q/\r=sqR Ms i q' n
 | 0=>⟨(fun h=>nomatch h),fun⟨_,h,_⟩=>absurd h (vx _)⟩
 | q+1=>by
  show r∈sqI Ms n i q++[sqR Ms i q n]↔_;rw[wt,qD q,wm]
  constructor
  ·rintro (⟨q',h,e⟩|e)
   ·exact⟨q',by omega,e⟩
   ·exact⟨q,by omega,e⟩
  ·rintro ⟨q',h,e⟩
   rcases vo (vz h)with h'|h'
   ·exact .inl ⟨q',h',e⟩
   ·rw[h']at e;exact .inr e
theorem ye{Ms:Nat->Tb}{n s:Nat}{r:List Nb}:∀ i,r∈sqT Ms n s i↔∃ i' q,i'<i/\q<s/\r=sqR Ms i' q n
 | 0=>⟨(fun h=>nomatch h),fun⟨_,_,h,_⟩=>absurd h (vx _)⟩
 | i+1=>by
  show r∈sqT Ms n s i++sqI Ms n i s↔_;rw[wt,ye i,qD]
  constructor
  ·rintro (⟨i',q,h,hq,e⟩|⟨q,hq,e⟩)
   ·exact⟨i',q,by omega,hq,e⟩
   ·exact⟨i,q,by omega,hq,e⟩
  ·rintro ⟨i',q,h,hq,e⟩
   rcases vo (vz h)with h'|h'
   ·exact .inl ⟨i',q,h',hq,e⟩
   ·rw[h']at e;exact .inr ⟨q,hq,e⟩
theorem yv(Ms:Nat->Tb)(n i:Nat):∀ q,(sqI Ms n i q).length=q
 | 0=>rfl
 | q+1=>by show(sqI Ms n i q++[_]).length=_;rw[wy,yv Ms n i q];rfl
theorem Qe(Ms:Nat->Tb)(n s:Nat):∀ i,(sqT Ms n s i).length=i*s
 | 0=>by rw[Gy];rfl
 | i+1=>by show(sqT Ms n s i++_).length=_;rw[wy,Qe Ms n s i,yv,vt,vw]
section
variable{k:Int}{X:Nat->Tb}{N p c:Nat}(oX:∀ t,t<N->La.OkM k c (X t)/\(X t).length=p)
include oX
theorem Yv{t q:Nat}(ht:t<N)(hq:q<p):(X t)[q]?=some ((X t).getD q [])/\((X t).getD q []).length=c/\La.OkR k ((X t).getD q []):=by
 have o:=oX t ht;have hl:q <(X t).length:=by rw[o.2];exact hq
 have e:(X t).getD q [] =(X t)[q]:=by rw[wc,wb hl];rfl
 rw[e];exact⟨wb hl,o.1 _ (wj hl)⟩
theorem qL{i q:Nat}(hq:q<p):∀ j,i+j<=N->(sqR X i q j).length=j*c/\La.OkR k (sqR X i q j)
 | 0,_=>⟨by rw[Gy];rfl,fun _ h=>nomatch h⟩
 | j+1,hj=>by
  have ih:=qL (i:=i) hq j (by omega);obtain⟨_,l,o⟩:=Yv oX (t:=i+j) (by omega) hq;refine⟨by show(sqR X i q j++_).length=_;rw[wy,ih.1,l,vt,vw],fun x hx=>?_⟩
  rcases wt.mp hx with h'|h'
  ·exact ih.2 x h'
  ·exact o x h'
theorem zeF{i q l:Nat}(hq:q<p)(hl:l<c):∀ J j,j<J->i+J<=N->(sqR X i q J)[j*c+l]? =((X (i+j)).getD q [])[l]?
 | J+1,j,hj,hJ=>by
  obtain⟨len,_⟩:=qL oX (i:=i) hq J (by omega);show(sqR X i q J ++(X (i+J)).getD q [])[j*c+l]?=_
  rcases vo (vz hj)with h'|h'
  ·have:(j+1)*c<=J*c:=vh _ h';rw[vt,vw]at this;rw[wO (by omega)];exact zeF hq hl J j h' (by omega)
  ·subst h';rw[wJ (by omega),len,gu]
theorem zaZ{i q:Nat}{P:Nb->Prop}(hP:∀ t,t<N->∀ r∈X t,∀ x∈r,P x)(hq:q<p):∀ j,i+j<=N->∀ x∈sqR X i q j,P x
 | 0,_,x,hx=>(nomatch hx)
 | j+1,hj,x,hx=>by
  obtain⟨e,_⟩:=Yv oX (t:=i+j) (by omega) hq
  rcases wt.mp hx with h'|h'
  ·exact zaZ hP hq j (by omega) x h'
  ·exact hP (i+j) (by omega) _ (wd e) x h'
theorem jK{a b:Nat}(h:a+b<=N+1):La.OkM k (a*c) (sqT X a p b):=fun r hr=>by
 obtain⟨i,q,hi,hq,rfl⟩:=(ye b).mp hr;exact qL oX hq a (by omega)
theorem zaw{a b:Nat}{P:Nb->Prop}(hP:∀ t,t<N->∀ r∈X t,∀ x∈r,P x)(h:a+b<=N+1):∀ r∈sqT X a p b,∀ x∈r,P x:=fun r hr=>by
 obtain⟨i,q,hi,hq,rfl⟩:=(ye b).mp hr;exact zaZ oX hP hq a (by omega)
variable{F:Type}[Lean.Grind.Field F](φ:La.Kf k F)(c0:0<c)
include c0
theorem Jj{i q a:Nat}(hq:q<p)(h:i+a<=N)(j:Nat):La.nv φ (sqR X i q a) j=if j<a*c then La.nv φ ((X (i+j / c)).getD q []) (j % c)else 0:=by
 split
 ·rename_i hj;have hd:j / c<a:=gL (by rw[vP];exact hj);have e:=zeF oX (i:=i) hq (gU j c0) a (j / c) hd h;have ej:j / c*c+j % c=j:=by rw[vP];exact waC j c
  rw[ej]at e;generalize (X (i+j / c)).getD q []=y at *;show φ.to (uu _ j _)=φ.to (uu _ (j % c) _);rw[wc,e,wc]
 ·rename_i hj;exact La.yC φ (by rw[(qL oX hq a h).1];omega)
theorem zc8{i q a j s:Nat}(hq:q<p)(h:i+a<=N)(hj:j<a)(hs:s<c):La.nv φ (sqR X i q a) (j*c+s)=La.nv φ ((X (i+j)).getD q []) s:=by
 have h1:(j+1)*c<=a*c:=vh _ hj;rw[vt,vw]at h1;rw[Jj oX φ c0 hq h,if_pos (by omega),vP,Nat.mul_add_div c0,Nat.div_eq_of_lt hs,wac,Nat.mul_add_mod,gA hs]
end
section
variable{k:Int}{F:Type}[Lean.Grind.Field F]{φ:La.Kf k F}
structure LinF(T:(Nat->F)->Nat->F):Prop where
 lin:∀(c:F)(u v:Nat->F)(j:Nat),T (fun i=>c*u i+v i) j=c*T u j+T v j
 zer:∀ j,T (fun _=>0) j=0
theorem LinF.rm{T:(Nat->F)->Nat->F}(L:LinF T){M Y:Tb}(h:∀ r∈M,La.Rm φ Y (T (La.nv φ r))){v:Nat->F}(hv:La.Rm φ M v):La.Rm φ Y (T v) :=
 hv.all (P:=fun v=>La.Rm φ Y (T v)) (La.Span.cast .zero fun j=>(L.zer j).symm) fun c r v ⟨x,hx,e⟩ hv=>(((h x hx).smul c).add hv).cast fun j=>by rw[L.lin,e]
theorem LinF.onto{T:(Nat->F)->Nat->F}(L:LinF T){M Y:Tb}(h:∀ r∈Y,∃ x,La.Rm φ M x/\∀ j,T x j=La.nv φ r j){u:Nat->F}(hu:La.Rm φ Y u):∃ v,La.Rm φ M v/\∀ j,T v j=u j :=
 hu.all (P:=fun u=>∃ v,La.Rm φ M v/\∀ j,T v j=u j) ⟨fun _=>0,.zero,fun j=>L.zer j⟩ fun c r u ⟨y,hy,e⟩ ⟨v,hv,hT⟩=>by
  obtain⟨x,hx,ex⟩:=h y hy;exact⟨fun j=>c*x j+v j,(hx.smul c).add hv,fun j=>by rw[L.lin,hT,ex,e]⟩
theorem LinF.sum{T:(Nat->F)->Nat->F}(L:LinF T)(u:Nat->F)(j:Nat):∀ n,T (fun i=>if i<n then u i else 0) j=La.dot n u (fun i=>T (La.unitF i 1) j)
 | 0=>by
  have:(fun i=>if i<0 then u i else 0)=fun _:Nat=>(0:F):=funext fun i=>if_neg (vx _)
  rw[this,L.zer];rfl
 | n+1=>by
  have:(fun i=>if i<n+1 then u i else 0)=fun i=>u n*La.unitF n 1 i +(if i<n then u i else 0):=funext fun i=>by
   unfold La.unitF
   rcases wah i n with h|h|h
   ·rw[if_pos (by omega),if_neg (by omega),if_pos h];grind
   ·rw[if_pos (by omega),if_pos h,if_neg (by omega),h];grind
   ·rw[if_neg (by omega),if_neg (by omega),if_neg (by omega)];grind
  rw[this,L.lin,L.sum u j n];show _=La.dot n u _+u n*_
  grind
def trV(w:Nat)(v:Nat->F):Nat->F:=fun j=>if j<w then v j else 0
def shV(c w:Nat)(v:Nat->F):Nat->F:=fun j=>if j<w then v (j+c)else 0
theorem zaG(w:Nat):LinF (F:=F) (trV w):=⟨fun c u v j=>by unfold trV;split <;> grind,fun j=>by unfold trV;split <;> rfl⟩
theorem zgv(c w:Nat):LinF (F:=F) (shV c w):=⟨fun c u v j=>by unfold shV;split <;> grind,fun j=>by unfold shV;split <;> rfl⟩
theorem QI(u v:Nat->F):∀ n,La.dot (n+1) u v=u 0*v 0+La.dot n (fun i=>u (i+1)) (fun i=>v (i+1))
 | 0=>by show La.dot 0 u v+u 0*v 0=_+La.dot 0 _ _;show(0:F)+_=_+0;grind
 | n+1=>by
  show La.dot (n+1) u v+u (n+1)*v (n+1)=_ +(La.dot n _ _+u (n+1)*v (n+1));rw[QI u v n];grind
theorem zbH(v:Nat->F)(j:Nat):∀(ls:List Nat)(U:Tb),ls.length=U.length->La.comb (ls.zip (U.map (La.nv φ))) v j=La.dot U.length (fun i=>v (ls.getD i 0)) (fun i=>La.nv φ (U.getD i []) j)
 | [],[],_=>rfl
 | l::ls,u::U,h=>by
  have ih:=zbH v j ls U (by simpa using h);show v l*La.nv φ u j+La.comb (ls.zip (U.map (La.nv φ))) v j=La.dot (U.length+1) _ _;rw[QI,ih];rfl
theorem expand{n:Nat}{U:Tb}{lu:List Nat}(h:La.IsR φ n U lu){v:Nat->F}(hv:La.Rm φ U v)(j:Nat):v j=La.dot U.length (fun i=>v (lu.getD i 0)) (fun i=>La.nv φ (U.getD i []) j):=by
 rw[← zbH v j lu U h.len];exact(h.rr.comb (h.rows.mpr hv) j).symm
def Rnk(φ:La.Kf k F)(n:Nat)(M:Tb)(r:Nat):Prop:=∃ R ls,La.IsR φ n R ls/\(∀ v,La.Rm φ R v↔La.Rm φ M v)/\R.length=r
theorem zfY(hk:kaa k){n:Nat}{M:Tb}(oM:La.OkM k n M):∃ R ls,La.RedOf φ n M R ls/\R.length<=M.length:=by
 have:∃ Ws:List (List Int),Ws.length=M.length/\∀(i:Nat)(r:List Nb)(ws:List Int),M[i]?=some r->Ws[i]?=some ws->∃ b,La.Scl k r ws b:=by
  induction M with
  | nil=>exact⟨[],rfl,fun i r ws h=>by simp at h⟩
  | cons m M ih =>
   obtain⟨Ws,l,h⟩:=ih fun r hr=>oM r (wo _ hr)
   obtain⟨b,hb⟩:=La.XF hk (oM m wk).2;refine⟨m.map (La.scW b)::Ws,by simp[l],fun i r ws h1 h2=>?_⟩;cases i with
   | zero=>simp at h1 h2;subst h1 h2;exact⟨b,hb⟩
   | succ i=>exact h i r ws (by simpa using h1) (by simpa using h2)
 obtain⟨Ws,l,h⟩:=this;refine⟨_,_,La.Je φ hk oM l h,?_⟩;have:=La.Yl (k:=k) Ws n;unfold La.redM;rw[wa];omega
theorem zb9(hk:kaa k){n:Nat}{M:Tb}(oM:La.OkM k n M):∃ r,Rnk φ n M r:=by
 obtain⟨R,ls,red,_⟩:=zfY (φ:=φ) hk oM;exact⟨_,R,ls,red.toIsR,fun v=>⟨red.fro v,red.to v⟩,rfl⟩
theorem xu{n r r':Nat}{M M':Tb}(h:Rnk φ n M r)(h':Rnk φ n M' r')(sub:∀ v,La.Rm φ M v->La.Rm φ M' v):r<=r'/\(r'<=r->∀ v,La.Rm φ M' v->La.Rm φ M v):=by
 obtain⟨R,ls,i,e,rfl⟩:=h;obtain⟨R',ls',i',e',rfl⟩:=h';have:=i.sub_len i' fun v hv=>(e' v).mpr (sub v ((e v).mp hv))
 exact⟨this.1,fun hl v hv=>(e v).mp (this.2 hl v ((e' v).mpr hv))⟩
theorem jB{n r r':Nat}{M:Tb}(h:Rnk φ n M r)(h':Rnk φ n M r'):r=r':=uk (xu h h' fun _ q=>q).1 (xu h' h fun _ q=>q).1
theorem zgk(hk:kaa k){n r:Nat}{M Y:Tb}(oY:La.OkM k n Y)(h:Rnk φ n M r)(sub:∀ v,La.Rm φ M v->La.Rm φ Y v):r<=Y.length:=by
 obtain⟨R,ls,red,l⟩:=zfY (φ:=φ) hk oY;exact wD (xu h ⟨R,ls,red.toIsR,fun v=>⟨red.fro v,red.to v⟩,rfl⟩ sub).1 l
theorem zgr(hk:kaa k){w r n:Nat}{M:Tb}(oM:La.OkM k w M)(h:Rnk φ w M r)(g:Nat->Nat->F)(co:∀ x∈M,∃ y:Nat->F,∀ j,j<w->La.nv φ x j=La.dot n y (fun i=>g i j)):r<=n:=by
 let Y:Tb:=(vd n).map fun i=>La.ofV φ w (trV w (g i))
 have lY:Y.length=n:=by show((vd n).map _).length=n;rw[wa,vT]
 have oY:La.OkM k w Y:=fun r hr=>by
  obtain⟨i,_,rfl⟩:=wg.mp hr;exact La.zf7 _
 have nY:∀ i j,i<n->La.nv φ (Y.getD i []) j=trV w (g i) j:=fun i j hi=>by
  have:Y[i]?=some (La.ofV φ w (trV w (g i))):=by
   show((vd n).map _)[i]?=_;rw[we,ur hi];rfl
  rw[wc,this];exact La.zh1 (fun j hj=>if_neg (by omega)) j
 have:=zgk hk oY h fun v hv=>hv.bind fun u ⟨x,hx,e⟩=>by
  obtain⟨y,hy⟩:=co x hx;refine(La.zav (φ:=φ) Y y n).cast fun j=>?_
  rw[e]
  rcases wK j w with hj|hj
  ·rw[hy j hj];exact La.yn fun i hi=>by rw[nY i j hi];unfold trV;rw[if_pos hj]
  ·rw[La.yC φ (by rw[(oM x hx).1];exact hj)];exact La.qQ n _ _ fun i hi=>by rw[nY i j hi];unfold trV;rw[if_neg (by omega)];grind
 omega
end
end L2
namespace L2
open PySem PySem.Spec PyProof.Rows Nm
section
variable{k:Int}{F:Type}[Lean.Grind.Field F]{φ:La.Kf k F}{X:Nat->Tb}{N p c:Nat}(hk:kaa k)(oX:∀ t,t<N->La.OkM k c (X t)/\(X t).length=p)(c0:0<c)
include hk oX c0
theorem zcE{Y:Nat->Tb}(oY:∀ t,t<N->La.OkM k p (Y t)/\(Y t).length=c)(p0:0<p)(tu:∀ t l s,t<N->l<p->s<c->La.nv φ ((X t).getD l []) s=La.nv φ ((Y t).getD s []) l){a b r r':Nat}(ab:a+b<=N+1)(h:Rnk φ (a*c) (sqT X a p b) r)(h':Rnk φ (b*p) (sqT Y b c a) r'):r<=r':=by
 obtain⟨Z,lz,iZ,eZ,rfl⟩:=h';refine zgr hk (jK oX ab) h (fun i j=>La.nv φ (sqR Y (j / c) (j % c) b) (lz.getD i 0)) fun x hx=>?_
 obtain⟨t,l,ht,hl,rfl⟩:=(ye b).mp hx;refine⟨fun i=>La.nv φ (Z.getD i []) (t*p+l),fun j hj=>?_⟩;have hd:j / c<a:=gL (by rw[vP];exact hj);have hm:=gU j c0;rw[Jj oX φ c0 hl (by omega),if_pos hj,tu (t+j / c) l (j % c) (by omega) hl hm,La.yO];have e1:=zc8 oY φ p0 (i:=j / c) (q:=j % c) (a:=b) (j:=t) (s:=l) hm (by omega) ht hl;rw[wab t,← e1];exact expand iZ ((eZ _).mpr (.of ⟨_,(ye a).mpr ⟨j / c,j % c,hd,hm,rfl⟩,rfl⟩)) _
theorem zc7{t l a:Nat}(hl:l<p)(h:t +(a+1)<=N)(j:Nat):trV (a*c) (La.nv φ (sqR X t l (a+1))) j=La.nv φ (sqR X t l a) j:=by
 unfold trV;rw[Jj oX φ c0 hl h,Jj oX φ c0 hl (by omega)];have:a*c<=(a+1)*c:=vh _ (vZ a)
 split
 ·rw[if_pos (by omega)]
 ·rfl
theorem ze9{t l a:Nat}(hl:l<p)(h:t +(a+1)<=N)(j:Nat):shV c (a*c) (La.nv φ (sqR X t l (a+1))) j=La.nv φ (sqR X (t+1) l a) j:=by
 unfold shV;rw[Jj oX φ c0 hl h,Jj oX φ c0 hl (by omega)];have:(a+1)*c=a*c+c:=by rw[vt,vw]
 split
 ·rw[if_pos (by omega),Nat.add_div_right _ c0,Nat.add_mod_right]
  congr 3
  omega
 ·rfl
theorem zic{a b:Nat}(h:a+1+b<=N+1){v:Nat->F}(hv:La.Rm φ (sqT X (a+1) p b) v):La.Rm φ (sqT X a p b) (trV (a*c) v) :=
 (zaG (a*c)).rm (fun r hr=>by
  obtain⟨t,l,ht,hl,rfl⟩:=(ye b).mp hr;exact La.Span.cast (.of ⟨_,(ye b).mpr ⟨t,l,ht,hl,rfl⟩,rfl⟩) fun j=>(zc7 hk oX c0 hl (by omega) j).symm) hv
theorem zh9{a b:Nat}(h:a+1+b<=N+1){v:Nat->F}(hv:La.Rm φ (sqT X (a+1) p b) v):La.Rm φ (sqT X a p (b+1)) (shV c (a*c) v) :=
 (zgv c (a*c)).rm (fun r hr=>by
  obtain⟨t,l,ht,hl,rfl⟩:=(ye b).mp hr;exact La.Span.cast (.of ⟨_,(ye (b+1)).mpr ⟨t+1,l,by omega,hl,rfl⟩,rfl⟩) fun j=>(ze9 hk oX c0 hl (by omega) j).symm) hv
theorem zhr{a b:Nat}(h:a+1+b<=N+1){u:Nat->F}(hu:La.Rm φ (sqT X a p b) u):∃ v,La.Rm φ (sqT X (a+1) p b) v/\∀ j,trV (a*c) v j=u j :=
 (zaG (a*c)).onto (fun r hr=>by
  obtain⟨t,l,ht,hl,rfl⟩:=(ye b).mp hr;exact⟨_,.of ⟨_,(ye b).mpr ⟨t,l,ht,hl,rfl⟩,rfl⟩,fun j=>zc7 hk oX c0 hl (by omega) j⟩) hu
theorem jH{a b b':Nat}(h:b<=b'){v:Nat->F}(hv:La.Rm φ (sqT X a p b) v):La.Rm φ (sqT X a p b') v :=
 La.zdT (fun r hr=>by
  obtain⟨t,l,ht,hl,rfl⟩:=(ye b).mp hr;exact(ye b').mpr ⟨t,l,by omega,hl,rfl⟩) hv
variable{h:Nat}(hN:N=h+h)(h1:1<=h)
include hN h1
theorem zbu{R:Tb}{ls:List Nat}(iR:La.IsR φ ((h+1)*c) R ls)(eR:∀ v,La.Rm φ R v↔La.Rm φ (sqT X (h+1) p h) v)(r0:Rnk φ (h*c) (sqT X h p h) R.length):∀ l∈ls,l<h*c:=by
 rcases gJ R with e|⟨R',x,e⟩
 ·subst e;have:=iR.len;rw[vJ this];exact fun _ h=>nomatch h
 rcases gJ ls with e2|⟨ls',y,e2⟩
 ·have:=iR.len;rw[e,e2]at this;simp at this
 rw[GK]at e e2;have hll:ls'.length=R'.length:=by have:=iR.len;rw[e,e2]at this;simpa using this
 have inc:=iR.inc;have hy:y<h*c:=by
  rcases wK y (h*c)with hy|hy
  ·exact hy
  exfalso
  have hz:∀ j,j<h*c->La.nv φ x j=0:=fun j hj=>by
   have hm:=iR.get (i:=R'.length) (l:=y) (r:=x) (by rw[e2,← hll,wJ (ww _),vQ];rfl) (by rw[e,wJ (ww _),vQ];rfl);exact iR.rr.bef _ hm j (wL hj hy)
  have oR':La.OkM k (h*c) (R'.map (uv (h*c))):=fun r hr=>by
   obtain⟨q,hq,rfl⟩:=wg.mp hr;have o:=iR.ok q (by rw[e];exact wP _ hq);have:h*c<=(h+1)*c:=vh _ (vZ h);exact⟨by rw[wr,o.1];omega,fun z hz=>o.2 z (vG hz)⟩
  have:=zgk hk oR' r0 fun u hu=>by
   obtain⟨v,hv,ev⟩:=zhr hk oX c0 (a:=h) (by omega) hu;have hv':=(eR v).mpr hv;rw[e]at hv';obtain⟨w,d,hw,ew⟩:=La.rm_app1.mp hv';have hw':La.Rm φ (R'.map (uv (h*c))) (trV (h*c) w):=(zaG (h*c)).rm (fun r hr=>La.Span.cast (.of ⟨_,gV hr,rfl⟩) fun j=>by
    unfold trV
    split
    ·rename_i hj;show φ.to (uu _ j _)=φ.to (uu _ j _);rw[wc,wc,ux,if_pos hj]
    ·rename_i hj;exact La.yC φ (by rw[wr];omega)) hw
   exact hw'.cast fun j=>by
    rw[← ev j];unfold trV
    split
    ·rename_i hj;rw[ew j,hz j hj];grind
    ·rfl
  rw[wa,e,wy]at this;simp at this;omega
 intro l hl;rw[e2]at hl inc
 rcases wt.mp hl with g|g
 ·exact Gv ((uV.mp inc).2.2 l g y (wm.mpr rfl)) hy
 ·rw[wm.mp g];exact hy
theorem zbM{R:Tb}{ls:List Nat}(iR:La.IsR φ ((h+1)*c) R ls)(ld:∀ l∈ls,l<h*c){u v:Nat->F}(hu:La.Rm φ R u)(hv:La.Rm φ R v)(e:∀ j,j<h*c->u j=v j)(j:Nat):u j=v j:=by
 rw[expand iR hu j,expand iR hv j];refine La.yn fun i hi=>?_
 have hl:i<ls.length:=by rw[iR.len];exact hi
 have:ls.getD i 0∈ls:=by rw[wc,wb hl];exact wj _
 rw[e _ (ld _ this)]
theorem zgQ{s:Nat}(hs:s+1<=h){v:Nat->F}(hv:La.Rm φ (sqT X (h+1) p s) v):∃ v',La.Rm φ (sqT X (h+1) p (s+1)) v'/\∀ j,j<h*c->v' j=v (j+c) :=
 hv.all (P:=fun v=>∃ v',La.Rm φ (sqT X (h+1) p (s+1)) v'/\∀ j,j<h*c->v' j=v (j+c)) ⟨fun _=>0,.zero,fun _ _=>rfl⟩ fun d r v ⟨y,hy,e⟩ ⟨v',hv',ev⟩=>by
  obtain⟨t,l,ht,hl,rfl⟩:=(ye s).mp hy;refine⟨fun j=>d*La.nv φ (sqR X (t+1) l (h+1)) j+v' j,.step d ⟨_,(ye (s+1)).mpr ⟨t+1,l,by omega,hl,rfl⟩,rfl⟩ hv',fun j hj=>?_⟩;have e1:=zc7 (φ:=φ) hk oX c0 (t:=t+1) (a:=h) hl (by omega) j;have e2:=ze9 (φ:=φ) hk oX c0 (t:=t) (a:=h) hl (by omega) j;unfold trV at e1;unfold shV at e2;rw[if_pos hj]at e1 e2;show d*La.nv φ (sqR X (t+1) l (h+1)) j+v' j=d*r (j+c)+v (j+c);rw[ev j hj,e,e1,e2]
theorem zfy(r0:∃ r,Rnk φ (h*c) (sqT X h p h) r/\Rnk φ ((h+1)*c) (sqT X (h+1) p h) r){s:Nat}(hs:s+1<=h)(st:∀ v,La.Rm φ (sqT X (h+1) p (s+1)) v->La.Rm φ (sqT X (h+1) p s) v):∀ v,La.Rm φ (sqT X (h+1) p h) v->La.Rm φ (sqT X (h+1) p s) v:=by
 obtain⟨r,r0,R,ls,iR,eR,rfl⟩:=r0;have ld:=zbu hk oX c0 hN h1 iR eR r0;have key:∀ t,t<h->∀ l,l<p->La.Rm φ (sqT X (h+1) p s) (La.nv φ (sqR X t l (h+1))):=by
  intro t
  induction t with
  | zero=>exact fun _ l hl=>st _ (.of ⟨_,(ye (s+1)).mpr ⟨0,l,by omega,hl,rfl⟩,rfl⟩)
  | succ t ih =>
   intro ht l hl;obtain⟨v',hv',ev⟩:=zgQ hk oX c0 hN h1 hs (ih (by omega) l hl);have hw:=st v' hv';refine hw.cast fun j=>zbM hk oX c0 hN h1 iR ld ((eR _).mpr (jH hk oX c0 (by omega) hw)) ((eR _).mpr (.of ⟨_,(ye h).mpr ⟨t+1,l,ht,hl,rfl⟩,rfl⟩)) (fun j hj=>?_) j
   have e1:=zc7 (φ:=φ) hk oX c0 (t:=t+1) (a:=h) hl (by omega) j;have e2:=ze9 (φ:=φ) hk oX c0 (t:=t) (a:=h) hl (by omega) j;unfold trV at e1;unfold shV at e2;rw[if_pos hj]at e1 e2;rw[ev j hj,e1,e2]
 exact fun v hv=>hv.bind fun u ⟨y,hy,e⟩=>by
  obtain⟨t,l,ht,hl,rfl⟩:=(ye h).mp hy;rw[e];exact key t ht l hl
end
def itF{k:Int}{F:Type}[Lean.Grind.Field F](φ:La.Kf k F)(n:Nat)(A:Tb):Nat->(Nat->F)->Nat->F
 | 0,u=>u
 | j+1,u=>itF φ n A j (La.limg φ n A u)
section
variable{k:Int}{F:Type}[Lean.Grind.Field F]{φ:La.Kf k F}{n:Nat}{A:Tb}
theorem zbL:∀ j,LinF (itF φ n A j)
 | 0=>⟨fun _ _ _ _=>rfl,fun _=>rfl⟩
 | j+1=>⟨fun c u v i=>by
   show itF φ n A j (La.limg φ n A fun i=>c*u i+v i) i=c*itF φ n A j _ i+itF φ n A j _ i;rw[← (zbL j).lin]
   congr 1
   exact funext fun i=>La.Jt A c u v i,fun i=>by
   show itF φ n A j (La.limg φ n A fun _=>0) i=0;rw[show La.limg φ n A (fun _=>0)=fun _=>(0:F)from funext fun i=>La.Zk A i];exact(zbL j).zer i⟩
variable(hk:kaa k)(oA:La.OkM k n A)(lA:A.length=n)
include hk oA lA
theorem zcY{y:List Nb}(oy:La.OkR k y)(ly:y.length=n):∀ j t,itF φ n A j (La.nv φ (powX k A y t))=La.nv φ (powX k A y (t+j))
 | 0,t=>rfl
 | j+1,t=>by
  have op:=xD hk oA lA oy ly t;show itF φ n A j (La.limg φ n A (La.nv φ (powX k A y t)))=_;rw[show La.limg φ n A (La.nv φ (powX k A y t))=La.nv φ (powX k A y (t+1))from funext fun i=>(Ju hk oA op.1 op.2 i).symm,zcY oy ly j (t+1),show t+1+j=t +(j+1) by omega]
end
def thF{k:Int}{F:Type}[Lean.Grind.Field F](φ:La.Kf k F)(n c:Nat)(A:Tb)(D:Nat->Nat->F)(a:Nat)(u:Nat->F):Nat->F:=fun j=>if j<a*c then La.dot n (D (j % c)) (itF φ n A (j / c) u)else 0
theorem zfS{k:Int}{F:Type}[Lean.Grind.Field F]{φ:La.Kf k F}{n c:Nat}{A:Tb}{D:Nat->Nat->F}(a:Nat):LinF (thF φ n c A D a) :=
 ⟨fun d u v j=>by
  unfold thF
  split
  ·rw[show itF φ n A (j / c) (fun i=>d*u i+v i)=fun i=>d*itF φ n A (j / c) u i+itF φ n A (j / c) v i from funext fun i=>(zbL (j / c)).lin d u v i,La.zaa n _ (fun i=>d*itF φ n A (j / c) u i) (itF φ n A (j / c) v),La.XA]
  ·grind,fun j=>by
  unfold thF
  split
  ·rw[show itF φ n A (j / c) (fun _=>0)=fun _=>(0:F)from funext fun i=>(zbL (j / c)).zer i];exact La.qQ n _ _ fun i _=>by grind
  ·rfl⟩
def MkV{k:Int}{F:Type}[Lean.Grind.Field F](φ:La.Kf k F)(X:Nat->Tb)(N p c n:Nat)(A Bt:Tb)(D:Nat->Nat->F):Prop:=∀ t l s,t<N->l<p->s<c->La.nv φ ((X t).getD l []) s=La.dot n (D s) (La.nv φ (powX k A (Bt.getD l []) t))
section
variable{k:Int}{F:Type}[Lean.Grind.Field F]{φ:La.Kf k F}{X:Nat->Tb}{N p c n:Nat}{A Bt:Tb}{D:Nat->Nat->F}(hk:kaa k)(oX:∀ t,t<N->La.OkM k c (X t)/\(X t).length=p)(c0:0<c)(oA:La.OkM k n A)(lA:A.length=n)(oB:La.OkM k n Bt)(lB:Bt.length=p)(mk:MkV φ X N p c n A Bt D)
include hk oX c0 oA lA oB lB mk
theorem zdr{t l a:Nat}(hl:l<p)(h:t+a<=N)(j:Nat):La.nv φ (sqR X t l a) j=thF φ n c A D a (La.nv φ (powX k A (Bt.getD l []) t)) j:=by
 rw[Jj oX φ c0 hl h];unfold thF
 split
 ·rename_i hj;have hd:j / c<a:=gL (by rw[vP];exact hj);have gB:Bt.getD l []∈Bt:=by rw[wc,wb (by omega)];exact wj _
  rw[mk (t+j / c) l (j % c) (by omega) hl (gU j c0),zcY hk oA lA (oB _ gB).2 (oB _ gB).1]
 ·rfl
theorem JX{a b r:Nat}(ab:a+b<=N+1)(h:Rnk φ (a*c) (sqT X a p b) r):r<=n:=by
 refine zgr hk (jK oX ab) h (fun i j=>thF φ n c A D a (La.unitF i 1) j) fun x hx=>?_
 obtain⟨t,l,ht,hl,rfl⟩:=(ye b).mp hx;have gB:Bt.getD l []∈Bt:=by rw[wc,wb (by omega)];exact wj _
 have op:=xD hk oA lA (oB _ gB).2 (oB _ gB).1 t;refine⟨La.nv φ (powX k A (Bt.getD l []) t),fun j _=>?_⟩;rw[zdr hk oX c0 oA lA oB lB mk hl (by omega) j,← (zfS a).sum]
 congr 1
 exact funext fun i=>by
  split
  ·rfl
  ·exact La.yC φ (by omega)
theorem zc1{h:Nat}(hN:N=h+h)(n1:1<=n)(nh:n<=h):∀ v,La.Rm φ (sqT X h p (h+1)) v->La.Rm φ (sqT X h p h) v:=fun v hv=>hv.bind fun u ⟨y,hy,e⟩=>by
 obtain⟨t,l,ht,hl,rfl⟩:=(ye (h+1)).mp hy;rw[e];have gB:Bt.getD l []∈Bt:=by rw[wc,wb (by omega)];exact wj _
 have sB:∀ v,La.Rm φ (La.kry k A Bt (n - 1+1)) v->La.Rm φ (La.kry k A Bt (n - 1)) v:=fun v hv=>by
  rw[show n - 1+1=n by omega]at hv;exact La.ze3 hk oA lA oB n1 v hv
 have h0:La.Rm φ (La.kry k A Bt h) (La.nv φ (powX k A (Bt.getD l []) t)):=.of ⟨_,zbG gB h t (by omega),rfl⟩;have h2:=(La.zbi hk oA lA oB sB (show n - 1<=h - 1 by omega) _).mpr ((La.zbi hk oA lA oB sB (show n - 1<=h by omega) _).mp h0);refine((zfS (φ:=φ) (n:=n) (c:=c) (A:=A) (D:=D) h).rm (fun r hr=>?_) h2).cast fun j=>(zdr hk oX c0 oA lA oB lB mk hl (by omega) j).symm
 obtain⟨b,hb,i,hi,rfl⟩:=zeu (h - 1) r hr;obtain⟨q,hq,eq⟩:=wQ hb;have eb:Bt.getD q []=b:=by rw[wc,wb hq,eq];rfl
 rw[← eb];exact La.Span.cast (.of ⟨_,(ye h).mpr ⟨i,q,by omega,by omega,rfl⟩,rfl⟩) fun j=>zdr hk oX c0 oA lA oB lB mk (by omega) (by omega) j
end
end L2
namespace L2
open PySem PySem.Spec PyProof.Rows Nm
theorem zfJ{k:Int}{F:Type}[Lean.Grind.Field F]{φ:La.Kf k F}{n w:Nat}{R:Tb}{ls:List Nat}(iR:La.IsR φ n R ls)(wn:w<=n)(ld:∀ l∈ls,l<w):La.IsR φ w (R.map (uv w)) ls/\∀ r:List Nb,La.nv φ (r.take w)=trV w (La.nv φ r):=by
 have nvt:∀ r:List Nb,La.nv φ (r.take w)=trV w (La.nv φ r):=fun r=>funext fun j=>by
  unfold trV
  split
  ·rename_i hj;show φ.to (uu _ j _)=φ.to (uu _ j _);rw[wc,wc,ux,if_pos hj]
  ·rename_i hj;exact La.yC φ (by rw[wr];omega)
 have ez:ls.zip ((R.map (uv w)).map (La.nv φ)) =(ls.zip (R.map (La.nv φ))).map (Prod.map id (trV w)):=by
  rw[← GV,vO,vO]
  congr 1
  exact vU fun r _=>nvt r
 have mem:∀ q∈ls.zip (R.map (La.nv φ)),q.1<w:=fun q hq=>ld _ (wZ (show(q.1,q.2)∈_ from hq)).1
 refine⟨⟨fun r hr=>?_,by rw[wa];exact iR.len,?_⟩,nvt⟩
 ·obtain⟨q,hq,rfl⟩:=wg.mp hr;have o:=iR.ok q hq;exact⟨by rw[wr,o.1];omega,fun z hz=>o.2 z (vG hz)⟩
 rw[ez];refine⟨?_,fun q hq=>?_,fun q hq j hj=>?_,fun q hq j hj=>?_,fun q hq=>?_,fun q hq q' hq' ne=>?_⟩
 ·rw[uQ];exact iR.rr.inc
 all_goals
  obtain⟨x,hx,rfl⟩:=wg.mp hq
 ·exact mem x hx
 ·show(if j<w then _ else _)=_;rw[if_neg (by omega)]
 ·show(if j<w then _ else _)=_
  split
  ·exact iR.rr.bef x hx j hj
  ·rfl
 ·show(if x.1<w then _ else _)=_;rw[if_pos (mem x hx)];exact iR.rr.one x hx
 ·obtain⟨y,hy,rfl⟩:=wg.mp hq';show(if y.1<w then _ else _)=_;rw[if_pos (mem y hy)];exact iR.rr.oth x hx y hy ne
section
variable{k:Int}{F:Type}[Lean.Grind.Field F]{φ:La.Kf k F}{X:Nat->Tb}{N p c:Nat}(hk:kaa k)(oX:∀ t,t<N->La.OkM k c (X t)/\(X t).length=p)(c0:0<c){h:Nat}(hN:N=h+h)(h1:1<=h){R:Tb}{ls:List Nat}{A Bt:Tb}
include hk oX c0 hN h1
theorem zcA{D:Nat->Nat->F}(iR:La.IsR φ ((h+1)*c) R ls)(sR:∀ v,La.Rm φ R v->La.Rm φ (sqT X (h+1) p h) v)(ld:∀ l∈ls,l<h*c)(oA:La.OkM k R.length A)(lA:A.length=R.length)(oB:La.OkM k R.length Bt)(lB:Bt.length=p)(mk:MkV φ X N p c R.length A Bt D):Rnk φ (h*c) (sqT X h p h) R.length/\Rnk φ ((h+1)*c) (sqT X (h+1) p h) R.length/\Rnk φ (h*c) (sqT X h p (h+1)) R.length:=by
 obtain⟨r0,k0⟩:=zb9 (φ:=φ) hk (jK oX (a:=h) (b:=h) (by omega));obtain⟨r1,k1⟩:=zb9 (φ:=φ) hk (jK oX (a:=h+1) (b:=h) (by omega));obtain⟨r2,k2⟩:=zb9 (φ:=φ) hk (jK oX (a:=h) (b:=h+1) (by omega));have a0:=JX hk oX c0 oA lA oB lB mk (by omega) k0;have a1:=JX hk oX c0 oA lA oB lB mk (by omega) k1;have a2:=JX hk oX c0 oA lA oB lB mk (by omega) k2;have b1:=(xu ⟨R,ls,iR,fun _=>Iff.rfl,rfl⟩ k1 sR).1;obtain⟨iT,nvt⟩:=zfJ iR (vh c (vZ h)) ld;have b0:=(xu ⟨_,ls,iT,fun _=>Iff.rfl,rfl⟩ k0 fun v hv=>hv.bind fun u ⟨x,hx,e⟩=>by
  obtain⟨y,hy,rfl⟩:=wg.mp hx;rw[e,nvt];exact zic hk oX c0 (by omega) (sR _ (.of ⟨y,hy,rfl⟩))).1
 rw[wa]at b0;have b2:=(xu k0 k2 fun v hv=>jH hk oX c0 (vZ h) hv).1;have e0:r0=R.length:=by omega
 have e1:r1=R.length:=by omega
 have e2:r2=R.length:=by omega
 subst e0;exact⟨k0,by rw[← e1];exact k1,by rw[← e2];exact k2⟩
theorem realize(iR:La.IsR φ ((h+1)*c) R ls)(eR:∀ v,La.Rm φ R v↔La.Rm φ (sqT X (h+1) p h) v)(ld:∀ l∈ls,l<h*c)(nx:∀ v,La.Rm φ (sqT X h p (h+1)) v->La.Rm φ (sqT X h p h) v)
  (oA:La.OkM k R.length A) (lA:A.length=R.length) (oB:La.OkM k R.length Bt) (lB:Bt.length=p)
  (eA:∀ i j,i<R.length->j<R.length->La.nv φ (A.getD j []) i=La.nv φ (R.getD i []) (c+ls.getD j 0))
  (eB:∀ l j,l<p->j<R.length->La.nv φ (Bt.getD l []) j=La.nv φ (sqR X 0 l (h+1)) (ls.getD j 0)):MkV φ X N p c R.length A Bt (fun s i=>La.nv φ (R.getD i []) s):=by
 have gl:∀ i,i<R.length->ls.getD i 0∈ls:=fun i hi=>by
  rw[wc,wb (by rw[iR.len];exact hi)];exact wj _
 have gB:∀ l,l<p->Bt.getD l []∈Bt:=fun l hl=>by rw[wc,wb (by omega)];exact wj _
 let ψ:(Nat->F)->Nat->F:=fun u j=>La.dot R.length u (fun i=>La.nv φ (R.getD i []) j)
 have pR:∀ u,La.Rm φ R (ψ u):=fun u=>La.zav (φ:=φ) R u R.length
 have ex:∀ v,La.Rm φ R v->∀ j,v j=ψ (fun i=>v (ls.getD i 0)) j:=fun v hv j=>expand iR hv j
 have inj:∀ u v,La.Rm φ R u->La.Rm φ R v->(∀ j,j<h*c->u j=v j)->∀ j,u j=v j:=fun u v hu hv e=>zbM hk oX c0 hN h1 iR ld hu hv e
 have hc:(h+1)*c=h*c+c:=by rw[vt,vw]
 have aps:∀ u j,j<h*c->ψ (La.limg φ R.length A u) j=ψ u (j+c):=fun u j hj=>by
  have h0:=zh9 hk oX c0 (a:=h) (b:=h) (by omega) ((eR _).mp (pR u));obtain⟨v',hv',ev⟩:=zhr hk oX c0 (a:=h) (b:=h) (by omega) (nx _ h0);have e1:∀ i,i<h*c->v' i=ψ u (i+c):=fun i hi=>by
   have:=ev i;unfold trV shV at this;rw[if_pos hi,if_pos hi]at this;exact this
  have e2:=ex v' ((eR _).mpr hv') j;rw[← e1 j hj,e2];refine La.yn fun i hi=>?_
  congr 1
  show La.limg φ R.length A u i=v' (ls.getD i 0);rw[e1 _ (ld _ (gl i hi))];show La.dot R.length (La.nv φ (A.getD i [])) u=La.dot R.length u (fun i'=>La.nv φ (R.getD i' []) (ls.getD i 0+c));rw[La.yO];exact La.yn fun i' hi'=>by rw[eA i' i hi' hi,wab c]
 have row:∀ t l,t<h->l<p->La.Rm φ R (La.nv φ (sqR X t l (h+1))):=fun t l ht hl=>(eR _).mpr (.of ⟨_,(ye h).mpr ⟨t,l,ht,hl,rfl⟩,rfl⟩)
 have ans:∀ l,l<p->∀ t,t<h->∀ j,La.nv φ (sqR X t l (h+1)) j=ψ (La.nv φ (powX k A (Bt.getD l []) t)) j:=fun l hl t=>by
  induction t with
  | zero =>
   intro ht j;rw[ex _ (row 0 l ht hl) j];refine La.yn fun i hi=>?_
   rw[show La.nv φ (powX k A (Bt.getD l []) 0) i=_ from eB l i hl hi]
  | succ t ih =>
   intro ht;refine inj _ _ (row (t+1) l ht hl) (pR _) fun j hj=>?_
   have op:=xD hk oA lA (oB _ (gB l hl)).2 (oB _ (gB l hl)).1 t;have e1:=zc7 (φ:=φ) hk oX c0 (t:=t+1) (a:=h) hl (by omega) j;have e2:=ze9 (φ:=φ) hk oX c0 (t:=t) (a:=h) hl (by omega) j;unfold trV at e1;unfold shV at e2;rw[if_pos hj]at e1 e2;rw[show La.nv φ (powX k A (Bt.getD l []) (t+1))=La.limg φ R.length A (La.nv φ (powX k A (Bt.getD l []) t))from funext fun i=>Ju hk oA op.1 op.2 i,aps _ j hj,← ih (by omega),e2,e1]
 have blk:∀ i,i<=h->∀ u s,s<c->ψ u (i*c+s)=ψ (itF φ R.length A i u) s:=fun i=>by
  induction i with
  | zero=>intro _ u s _;rw[Gy,vS];rfl
  | succ i ih =>
   intro hi u s hs;have:(i+1)*c<=h*c:=vh _ hi;rw[vt,vw]at this;rw[vt,vw,show i*c+c+s=i*c+s+c by omega,← aps u _ (by omega),ih (by omega) _ s hs]
   rfl
 intro T l s hT hl hs;obtain⟨t,i,ht,hi,e⟩ : ∃ t i,t<h/\i<=h/\T=t+i:=by
  rcases wK T h with g|g
  ·exact⟨T,0,g,vA _,rfl⟩
  ·exact⟨h - 1,T - (h - 1),by omega,by omega,by omega⟩
 have:=ans l hl t ht (i*c+s);rw[zc8 oX φ c0 hl (by omega) (show i<h+1 by omega) hs,blk i hi _ s hs,zcY hk oA lA (oB _ (gB l hl)).2 (oB _ (gB l hl)).1,← e]at this;rw[this,La.yO]
end
theorem zeS(Ms Ns:List (Tb)):PyData.eqv (tabsD Ms) (tabsD Ns)=decide (Ms=Ns):=jY tabD zgN Ms Ns
theorem zgR{k:Int}{F:Type}[Lean.Grind.Field F]{φ:La.Kf k F}{n:Nat}{M:Tb}(h:Rnk φ n M 0):∀ r∈M,∀ j,La.nv φ r j=0:=fun r hr j=>by
 obtain⟨R,ls,iR,eR,l⟩:=h;have e:R=[]:=vJ l;have:=expand iR ((eR _).mpr (.of ⟨r,hr,rfl⟩)) j;rw[this,l];rfl
theorem zgy{k:Int}{F:Type}[Lean.Grind.Field F]{φ:La.Kf k F}{n r:Nat}{M:Tb}(h:Rnk φ n M r)(z:∀ r∈M,∀ j,La.nv φ r j=0):r=0:=by
 obtain⟨R,ls,iR,eR,rfl⟩:=h;have zz:∀ v,La.Rm φ R v->∀ j,v j=0:=fun v hv j=>((eR v).mp hv).zero_at fun u ⟨x,hx,e⟩=>by rw[e];exact z x hx j
 rcases uI R.length with e|e
 ·exact e
 ·exfalso
  have hl:0<ls.length:=by rw[iR.len];exact e
  obtain⟨v,hv,_,ne⟩:=(iR.lead_iff ls[0]).mp (wj hl);exact ne (zz v hv _)
end L2
namespace L2
open PySem PySem.Spec PyProof.Rows Nm
def pkR(ls:List Nat)(o:Nat)(row:List Nb):List Nb:=ls.map fun l=>row.getD (o+l) (.z 0)
def mA(q:Nat)(R:Tb)(ls:List Nat):Tb:=kac ls.length (R.map (pkR ls q))
def mB(X:Nat->Tb)(N m:Nat)(ls:List Nat):Tb:=kac ls.length ((sqI X N 0 m).map (pkR ls 0))
def mC(q:Nat)(R:Tb):Tb:=kac q (R.map (uv q))
theorem ZZ{k:Int}{r:List Nb}{n j:Nat}(l:r.length=n)(hj:j<n)(d:Nb):r[j]?=some (r.getD j d)/\r.getD j d∈r:=by
 have h:j<r.length:=by omega
 rw[wc,wb h];exact⟨rfl,wj h⟩
section
variable{k:Int}{n o:Nat}{R:Tb}{ls:List Nat}(oR:La.OkM k n R)(ld:∀ l∈ls,o+l<n)
include oR ld
theorem Jc:La.OkM k ls.length (R.map (pkR ls o)):=fun r hr=>by
 obtain⟨x,hx,rfl⟩:=wg.mp hr;refine⟨wa _,fun y hy=>?_⟩;obtain⟨l,hl,rfl⟩:=wg.mp hy;exact(oR x hx).2 _ (ZZ (k:=k) (oR x hx).1 (ld l hl) _).2
theorem zf3{P:Nb->Prop}(hP:∀ r∈R,∀ x∈r,P x):∀ r∈R.map (pkR ls o),∀ x∈r,P x:=fun r hr y hy=>by
 obtain⟨x,hx,rfl⟩:=wg.mp hr;obtain⟨l,hl,rfl⟩:=wg.mp hy;exact hP x hx _ (ZZ (k:=k) (oR x hx).1 (ld l hl) _).2
theorem zhE{F:Type}[Lean.Grind.Field F](φ:La.Kf k F){i j:Nat}(hi:i<R.length)(hj:j<ls.length):La.nv φ ((R.map (pkR ls o)).getD i []) j=La.nv φ (R.getD i []) (o+ls.getD j 0):=by
 have e1:(R.map (pkR ls o)).getD i []=pkR ls o (R.getD i []):=by
  rw[wc,we,wc,wb hi];rfl
 have e2:ls.getD j 0=ls[j]:=by rw[wc,wb hj];rfl
 have e3:R.getD i []=R[i]:=by rw[wc,wb hi];rfl
 rw[e1,e2,e3];have g:=(ZZ (k:=k) (oR _ (wj hi)).1 (ld _ (wj hj)) (.z 0)).1;rw[La.ym φ g];refine La.ym φ ?_;unfold pkR;rw[we,wb hj];rfl
end
theorem zhk{k:Int}{n q:Nat}{R:Tb}{ls:List Nat}(oR:La.OkM k n R)(ld:∀ l∈ls,q+l<n)(ll:ls.length=R.length):La.OkM k R.length (mA q R ls)/\(mA q R ls).length=R.length:=by
 have:=zL (Jc oR ld);rw[wa]at this;exact⟨this,(zk _ _).trans ll⟩
theorem zhY{k:Int}{c N m:Nat}{X:Nat->Tb}{ls:List Nat}(oX:∀ t,t<N->La.OkM k c (X t)/\(X t).length=m)(ld:∀ l∈ls,l<N*c):La.OkM k m (mB X N m ls)/\(mB X N m ls).length=ls.length:=by
 have oI:La.OkM k (N*c) (sqI X N 0 m):=fun r hr=>by
  obtain⟨l,hl,rfl⟩:=(qD m).mp hr;exact qL oX hl N (by omega)
 have:=zL (Jc oI (o:=0) (ls:=ls) fun l hl=>by rw[vS];exact ld l hl);rw[wa,yv]at this;exact⟨this,zk _ _⟩
theorem zif{k:Int}{n q:Nat}{R:Tb}(oR:La.OkM k n R)(qn:q<=n):La.OkM k R.length (mC q R)/\(mC q R).length=q:=by
 have o:La.OkM k q (R.map (uv q)):=fun r hr=>by
  obtain⟨x,hx,rfl⟩:=wg.mp hr;have:=oR x hx;exact⟨by rw[wr,this.1];omega,fun y hy=>this.2 y (vG hy)⟩
 have:=zL o;rw[wa]at this;exact⟨this,zk _ _⟩
section
variable{k:Int}{F:Type}[Lean.Grind.Field F](φ:La.Kf k F)
theorem zii{n q i j:Nat}{R:Tb}{ls:List Nat}(oR:La.OkM k n R)(ld:∀ l∈ls,q+l<n)(hi:i<R.length)(hj:j<ls.length):La.nv φ ((mA q R ls).getD j []) i=La.nv φ (R.getD i []) (q+ls.getD j 0):=by
 have:La.nv φ ((mA q R ls).getD j []) i=La.nv φ ((R.map (pkR ls q)).getD i []) j:=La.xA (Jc oR ld) hj;rw[this,zhE oR ld φ hi hj]
theorem zdZ(X:Nat->Tb)(n i:Nat){l:Nat}:∀ m,l<m->(sqI X n i m)[l]?=some (sqR X i l n)
 | m+1,h=>by
  show(sqI X n i m++[sqR X i m n])[l]?=_
  rcases vo (vz h)with h'|h'
  ·rw[wO (by rw[yv];exact h')];exact zdZ X n i m h'
  ·subst h';rw[wJ (by rw[yv];exact ww _),yv,vQ];rfl
theorem zie{c N m l j:Nat}{X:Nat->Tb}{ls:List Nat}(oX:∀ t,t<N->La.OkM k c (X t)/\(X t).length=m)(ld:∀ l∈ls,l<N*c)(hl:l<m)(hj:j<ls.length):La.nv φ ((kac m (mB X N m ls)).getD l []) j=La.nv φ (sqR X 0 l N) (ls.getD j 0):=by
 have oI:La.OkM k (N*c) (sqI X N 0 m):=fun r hr=>by
  obtain⟨l,hl,rfl⟩:=(qD m).mp hr;exact qL oX hl N (by omega)
 have ld':∀ l∈ls,0+l<N*c:=fun l hl=>by rw[vS];exact ld l hl
 have tt:=yk (Jc oI ld');rw[wa,yv]at tt;have e:kac m (mB X N m ls) =(sqI X N 0 m).map (pkR ls 0):=tt;rw[e,zhE oI ld' φ (by rw[yv];exact hl) hj,vS];have:(sqI X N 0 m).getD l []=sqR X 0 l N:=by rw[wc,zdZ X N 0 m hl];rfl
 rw[this]
theorem zh7{n q i s:Nat}{R:Tb}(oR:La.OkM k n R)(qn:q<=n)(hs:s<q):La.nv φ ((mC q R).getD s []) i=La.nv φ (R.getD i []) s:=by
 have o:La.OkM k q (R.map (uv q)):=fun r hr=>by
  obtain⟨x,hx,rfl⟩:=wg.mp hr;have:=oR x hx;exact⟨by rw[wr,this.1];omega,fun y hy=>this.2 y (vG hy)⟩
 have:La.nv φ ((mC q R).getD s []) i=La.nv φ ((R.map (uv q)).getD i []) s:=La.xA o hs;rw[this];have e1:(R.map (uv q)).getD i [] =(R.getD i []).take q:=by
  rw[wc,we,wc];cases R[i]? <;> simp
 rw[e1];generalize R.getD i []=r;show φ.to (uu _ s _)=φ.to (uu _ s _);rw[wc,wc,ux,if_pos hs]
end
structure SzM(k:Int)(m:Nat)(A B C:Tb):Prop where
 a:k=0->∃ D:Nat,D≠0/\D<2^12225/\∀ r∈A,La.rowD D 12225 r
 b:∀ x∈kac m B,La.rowB 12225 x
 c:∀ x∈C,La.rowB 12225 x
theorem zgn{k:Int}(hk:kaa k){n:Nat}{A:Tb}{x:List Nb}(n4:n<=4)(oA:La.OkM k n A)(lA:A.length=n)(dA:k=0->∃ D:Nat,D≠0/\D<2^12225/\∀ r∈A,La.rowD D 12225 r)(ox:La.OkR k x)(lx:x.length=n)(hx:La.rowB 12225 x){t:Nat}(ht:t<=8):La.rowB 120000 (powX k A x t):=by
 by_cases k0:k=0
 ·obtain⟨D,d0,dl,d⟩:=dA k0;have:∀ t,La.rowB (12225+t*12227) (powX k A x t):=by
   intro t
   induction t with
   | zero=>exact hx.mono (by omega)
   | succ t ih =>
    have op:=xD hk oA lA ox lx t;exact(zfH hk n4 oA d0 dl d op.1 ih).mono (by omega)
  exact(this t).mono (by omega)
 ·exact Yo k0 (xD hk oA lA ox lx t).1 (by decide)
theorem zh0{k:Int}(hk:kaa k){n q c N m:Nat}{X:Nat->Tb}{R:Tb}{ls:List Nat}(oR:La.OkM k n R)(ld:∀ l∈ls,q+l<n)(qn:q<=n)(ll:ls.length=R.length)(l4:R.length<=4)(bR:La.rowsB 3056 R)(oX:∀ t,t<N->La.OkM k c (X t)/\(X t).length=m)(ld2:∀ l∈ls,l<N*c)(wX:∀ t,t<N->∀ r∈X t,∀ x∈r,whk k 190 x):SzM k m (mA q R ls) (mB X N m ls) (mC q R):=by
 obtain⟨D,d0,dl,d⟩:=zaO (k:=k) (n:=n) bR;have le:R.length*3056<=12224:=by omega
 have dl':D<2^12225:=ud dl (ud (vg (by decide) le) (Nat.pow_lt_pow_right (by decide) (by decide)));have up:∀ x:Nb,La.dB D (2^(R.length*3056) - 1) x->La.dB D (2^12225 - 1) x:=fun x h=>h.mono (GN (vg (by decide) (by omega)) 1)
 refine⟨fun _=>⟨D,d0,dl',fun r hr x hx=>?_⟩,fun x hx=>?_,fun x hx=>⟨D,d0,dl',fun y hy=>?_⟩⟩
 ·have o:=Jc oR ld;exact up x (XB (fun r hr=>(o r hr).1) (zf3 oR ld fun r hr x hx=>d r hr x hx) r hr x hx)
 ·have oI:La.OkM k (N*c) (sqI X N 0 m):=fun r hr=>by
   obtain⟨l,hl,rfl⟩:=(qD m).mp hr;exact qL oX hl N (by omega)
  have ld':∀ l∈ls,0+l<N*c:=fun l hl=>by rw[vS];exact ld2 l hl
  have tt:=yk (Jc oI ld');rw[wa,yv]at tt;have e:kac m (mB X N m ls) =(sqI X N 0 m).map (pkR ls 0):=tt;rw[e]at hx;have w:=zf3 oI ld' (P:=fun x=>whk k 190 x) (fun r hr=>by
   obtain⟨l,hl,rfl⟩:=(qD m).mp hr;exact zaZ oX wX hl N (by omega)) x hx
  exact(zcM (by decide) (Jc oI ld' x hx).2 w).mono (by decide)
 ·have o:∀ r∈R.map (uv q),r.length=q:=fun r hr=>by
   obtain⟨x,hx,rfl⟩:=wg.mp hr;rw[wr,(oR x hx).1];omega
  exact up y (XB o (fun r hr z hz=>by
   obtain⟨x,hx,rfl⟩:=wg.mp hr;exact d x hx z (vG hz)) x hx y hy)
section
variable{k:Int}(hk:kaa k){r m q:Nat}{A B C:Tb}(r4:r<=4)(oA:La.OkM k r A/\A.length=r)(oB:La.OkM k m B/\B.length=r)(oC:La.OkM k r C/\C.length=q)(S:SzM k m A B C)
include hk oA oB oC S
theorem Xl:MOk k r m q 120000 A B C:=by
 refine⟨⟨oA.2,oA.1,fun x hx y hy=>?_⟩,⟨oB.2,oB.1,?_⟩,⟨oC.2,oC.1,fun x hx y hy=>(Ze hk (oC.1 x hx).2 (S.c x hx) (by decide) y hy).mono (by decide)⟩⟩
 ·have o:=(oA.1 x hx).2;have:La.rowB 12225 x:=by
   by_cases k0:k=0
   ·obtain⟨D,d0,dl,d⟩:=S.a k0;exact⟨D,d0,dl,d x hx⟩
   ·exact Yo k0 o (by decide)
  exact(Ze hk o this (by decide) y hy).mono (by decide)
 ·have oT:=zL oB.1;have tt:=XB (P:=fun y=>nsm 120000 y) (fun r hr=>(oT r hr).1) fun x hx y hy=>(Ze hk (oT x hx).2 (S.b x hx) (by decide) y hy).mono (by decide)
  rw[yk oB.1]at tt;exact tt
include r4
theorem zfN{i:Nat}(hi:i<=8):TOk k q r 120000 (kan k r A C i):=by
 have M:=Xl hk oA oB oC S;rw[Yd hk (by decide) M.a M.c i];have oT:La.OkM k r (kac r A):=by have:=zL oA.1;rw[oA.2]at this;exact this
 have dT:k=0->∃ D:Nat,D≠0/\D<2^12225/\∀ x∈kac r A,La.rowD D 12225 x:=fun k0=>by
  obtain⟨D,d0,dl,d⟩:=S.a k0;exact⟨D,d0,dl,fun x hx y hy=>XB (fun x hx=>(oA.1 x hx).1) (fun x hx y hy=>d x hx y hy) x hx y hy⟩
 refine⟨by rw[wa];exact oC.2,fun x hx=>?_,fun x hx=>?_⟩
 all_goals
  obtain⟨c,hc,rfl⟩:=wg.mp hx;have o:=oC.1 c hc;have op:=xD hk oT (zk r A) o.2 o.1 i
 ·exact⟨op.2,op.1⟩
 ·exact Ze hk op.1 (zgn hk r4 oT (zk r A) dT o.2 o.1 (S.c c hc) hi) (by decide)
theorem zcJ{F:Type}[Lean.Grind.Field F](φ:La.Kf k F){t s l:Nat}(hs:s<q)(hl:l<m):La.nv φ ((kai k m (kan k r A C t) B).getD s []) l=La.dot r (La.nv φ (C.getD s [])) (La.nv φ (powX k A ((kac m B).getD l []) t)):=by
 have M:=Xl hk oA oB oC S;have hc:C[s]?=some (C.getD s []):=by rw[wc,wb (by omega)];rfl
 have hL:s <(kai k m (kan k r A C t) B).length:=by
  unfold kai;rw[wa,Yd hk (by decide) M.a M.c t,wa];omega
 have e2:(kai k m (kan k r A C t) B)[s]?=some ((kai k m (kan k r A C t) B).getD s []):=by rw[wc,wb hL];rfl
 have row:=zfB hk (by decide) M (ql (k:=k) (n:=r) (h:=m) (A:=A) (B:=B) (C:=C) (many:=t+1) (i:=t) (by omega)) hc e2;rw[← row];have oc:=oC.1 _ (wd hc);have eb:=getT B hl;have ob:La.OkM k r (kac m B):=by have:=zL oB.1;rw[oB.2]at this;exact this
 have obl:=ob _ (wd eb);have op:=xD hk oA.1 oA.2 obl.2 obl.1 t;rw[La.ym φ (show(dueRow k m A B (C.getD s []) t)[l]?=some (La.ndot k (C.getD s []) (powX k A ((kac m B).getD l []) t)) by unfold dueRow;rw[we,eb];rfl),La.xE φ hk oc.2 op.1 (by rw[oc.1,op.2]),oc.1]
theorem zfM(t:Nat):La.OkM k m (kai k m (kan k r A C t) B)/\(kai k m (kan k r A C t) B).length=q:=by
 have M:=Xl hk oA oB oC S;have oL:La.OkM k r (kan k r A C t)/\(kan k r A C t).length=q:=by
  rw[Yd hk (by decide) M.a M.c t];have oT:La.OkM k r (kac r A):=by have:=zL oA.1;rw[oA.2]at this;exact this
  refine⟨fun x hx=>?_,by rw[wa];exact oC.2⟩;obtain⟨c,hc,rfl⟩:=wg.mp hx;have op:=xD hk oT (zk r A) (oC.1 c hc).2 (oC.1 c hc).1 t;exact⟨op.2,op.1⟩
 have o:=La.ZY hk (c:=m) oL.1 oB.1;exact⟨o.2,o.1.trans oL.2⟩
theorem Qy{F:Type}[Lean.Grind.Field F](φ:La.Kf k F){Ps X:Nat->Tb}{N:Nat}(oP:∀ t,t<N->La.OkM k m (Ps t)/\(Ps t).length=q)(tr:∀ t,t<N->kac m (Ps t)=X t):marksM k r m A B C N =(vd N).map Ps↔MkV φ X N m q r A (kac m B) (fun s=>La.nv φ (C.getD s [])):=by
 have turn:∀ t l s,t<N->l<m->La.nv φ ((X t).getD l []) s=La.nv φ ((Ps t).getD s []) l:=fun t l s ht hl=>by
  rw[← tr t ht];exact La.xA (oP t ht).1 hl
 constructor
 ·intro e t l s ht hl hs;have e1:Ps t=kai k m (kan k r A C t) B:=by
   have h1:=ql (k:=k) (n:=r) (h:=m) (A:=A) (B:=B) (C:=C) ht;rw[e,we,ur ht]at h1;exact Option.some.inj h1
  rw[turn t l s ht hl,e1];exact zcJ hk r4 oA oB oC S φ hs hl
 ·intro mk;refine uE (by rw[jo,wa,vT]) fun t h1 h2=>?_
  rw[jo]at h1;have g1:=ql (k:=k) (n:=r) (h:=m) (A:=A) (B:=B) (C:=C) h1;rw[wb (by rw[jo];exact h1)]at g1;rw[Option.some.inj g1,Gq,List.getElem_range];have o1:=zfM hk r4 oA oB oC S t;have o2:=oP t h1;refine uE (o1.2.trans o2.2.symm) fun s a1 a2=>?_
  have hs:s<q:=by rw[← o1.2];exact a1
  have w1:=o1.1 _ (wj a1);have w2:=o2.1 _ (wj a2);refine La.zet φ w1.2 w2.2 (w1.1.trans w2.1.symm) fun l=>?_
  rcases wK l m with hl|hl
  ·have b1:=zcJ hk r4 oA oB oC S φ (t:=t) hs hl;have b2:=(turn t l s h1 hl).symm.trans (mk t l s h1 hl hs);rw[wc,wb a1]at b1;rw[wc,wb a2]at b2;exact b1.trans b2.symm
  ·rw[La.yC φ (by omega),La.yC φ (by omega)]
end
end L2
namespace L2
open PySem PySem.Spec PyProof.Rows Nm
def RkX{k:Int}{F:Type}[Lean.Grind.Field F](φ:La.Kf k F)(X:Nat->Tb)(h q m r:Nat):Prop:=Rnk φ (h*q) (sqT X h m h) r/\Rnk φ ((h+1)*q) (sqT X (h+1) m h) r/\Rnk φ (h*q) (sqT X h m (h+1)) r
section
variable{k:Int}{F:Type}[Lean.Grind.Field F]{φ:La.Kf k F}{X:Nat->Tb}{m q h:Nat}(hk:kaa k)(oX:∀ t,t<h+h->La.OkM k q (X t)/\(X t).length=m)(q0:0<q)(h1:1<=h){R:Tb}{ls:List Nat}{s r:Nat}(iR:La.IsR φ ((h+1)*q) R ls)(hs:s<=h)(eR:∀ v,La.Rm φ R v↔La.Rm φ (sqT X (h+1) m s) v)
include hk oX q0 h1 iR hs eR
theorem zgD(K:RkX φ X h q m r):R.length<=r:=(xu ⟨R,ls,iR,fun _=>Iff.rfl,rfl⟩ K.2.1 fun v hv=>jH hk oX q0 hs ((eR v).mp hv)).1
theorem QB(st:s=h\/h<R.length\/∃ s',s=s'+1/\∀ v,La.Rm φ (sqT X (h+1) m s) v->La.Rm φ (sqT X (h+1) m s') v)(K:RkX φ X h q m r)(rh:r<=h):(∀ v,La.Rm φ R v↔La.Rm φ (sqT X (h+1) m h) v)/\R.length=r/\∀ l∈ls,l<h*q:=by
 have le:=zgD hk oX q0 h1 iR hs eR K;have e:∀ v,La.Rm φ R v↔La.Rm φ (sqT X (h+1) m h) v:=by
  rcases st with rfl|g|⟨s',rfl,st⟩
  ·exact eR
  ·omega
  ·have all:=zfy hk oX q0 rfl h1 ⟨r,K.1,K.2.1⟩ (s:=s') (by omega) st;exact fun v=>⟨fun hv=>jH hk oX q0 hs ((eR v).mp hv),fun hv=>(eR v).mpr (jH hk oX q0 (vZ s') (all v hv))⟩
 have len:R.length=r:=jB ⟨R,ls,iR,e,rfl⟩ K.2.1;exact⟨e,len,zbu hk oX q0 rfl h1 iR e (by rw[len];exact K.1)⟩
theorem zcj(st:s=h\/h<R.length\/∃ s',s=s'+1/\∀ v,La.Rm φ (sqT X (h+1) m s) v->La.Rm φ (sqT X (h+1) m s') v)(K:RkX φ X h q m r)(rh:r<=h):MkV φ X (h+h) m q R.length (mA q R ls) (kac m (mB X (h+h) m ls)) (fun s=>La.nv φ ((mC q R).getD s [])):=by
 obtain⟨e,len,ld⟩:=QB hk oX q0 h1 iR hs eR st K rh;have wq:(h+1)*q=h*q+q:=by rw[vt,vw]
 have hh:(h+h)*q=h*q+h*q:=vt h h q;have hq:q<=h*q:=GD q h1;have ldA:∀ l∈ls,q+l <(h+1)*q:=fun l hl=>by have:=ld l hl;omega
 have ld2:∀ l∈ls,l <(h+h)*q:=fun l hl=>by have:=ld l hl;omega
 have oA:=zhk iR.ok ldA iR.len;have oB:=zhY oX ld2;have oBt:=zL oB.1;rw[oB.2,iR.len]at oBt;have nx:=(xu K.1 K.2.2 fun v hv=>jH hk oX q0 (vZ h) hv).2 (ww r);have mk:=realize hk oX q0 rfl h1 iR e ld nx oA.1 oA.2 oBt (zk m _) (fun i j hi hj=>zii φ iR.ok ldA hi (by rw[iR.len];exact hj)) fun l j hl hj=>by
  rw[zie φ oX ld2 hl (by rw[iR.len];exact hj)];have lj:ls.getD j 0<h*q:=by
   have hj':j<ls.length:=by rw[iR.len];exact hj
   rw[wc,wb hj'];exact ld _ (wj hj')
  rw[Jj oX φ q0 hl (by omega),Jj oX φ q0 hl (by omega),if_pos (by omega),if_pos (by omega)]
 intro t l s' ht hl hs';rw[mk t l s' ht hl hs'];exact La.yn fun i hi=>by
  show La.nv φ (R.getD i []) s'*_=La.nv φ ((mC q R).getD s' []) i*_;rw[zh7 φ iR.ok (by omega) hs']
end
def RkL{k:Int}{F:Type}[Lean.Grind.Field F](φ:La.Kf k F)(Ms:Nat->Tb)(h q m a b r:Nat):Prop:=Rnk φ (b*m) (sqT Ms b q a) r
section
variable{k:Int}{F:Type}[Lean.Grind.Field F]{φ:La.Kf k F}{Ms X:Nat->Tb}{m q h:Nat}(hk:kaa k)(oM:∀ t,t<h+h->La.OkM k m (Ms t)/\(Ms t).length=q)(tr:∀ t,t<h+h->kac m (Ms t)=X t)(q0:0<q)(m0:0<m)
include hk oM tr q0 m0
theorem turnX:∀ t,t<h+h->La.OkM k q (X t)/\(X t).length=m:=fun t ht=>by
 have o:=oM t ht;have:=zL o.1;rw[o.2]at this;rw[← tr t ht];exact⟨this,zk m _⟩
theorem Qk{a b r:Nat}(ab:a+b<=h+h+1):Rnk φ (a*q) (sqT X a m b) r↔RkL φ Ms h q m a b r:=by
 have oX:=turnX hk oM tr q0 m0;have tu:∀ t l s,t<h+h->l<m->s<q->La.nv φ ((X t).getD l []) s=La.nv φ ((Ms t).getD s []) l:=fun t l s ht hl hs=>by
  rw[← tr t ht];exact La.xA (oM t ht).1 hl
 have tu':∀ t l s,t<h+h->l<q->s<m->La.nv φ ((Ms t).getD l []) s=La.nv φ ((X t).getD s []) l:=fun t l s ht hl hs=>(tu t s l ht hs hl).symm
 obtain⟨r1,k1⟩:=zb9 (φ:=φ) hk (jK oX ab);obtain⟨r2,k2⟩:=zb9 (φ:=φ) hk (jK oM (a:=b) (b:=a) (by omega));have e:r1=r2:=uk (zcE hk oX q0 oM m0 tu ab k1 k2) (zcE hk oM m0 oX q0 tu' (by omega) k2 k1);exact⟨fun g=>by rw[jB g k1,e];exact k2,fun g=>by rw[jB g k2,← e];exact k1⟩
end
theorem zgF{k:Int}{r m q:Nat}{A B C:Tb}(oA:La.OkM k r A/\A.length=r)(oC:La.OkM k r C/\C.length=m)(S:SzM k q A B C):SzM k m (kac r A) (kac r C) (kac q B):=by
 refine⟨fun k0=>?_,fun x hx=>?_,S.b⟩
 ·obtain⟨D,d0,dl,d⟩:=S.a k0;exact⟨D,d0,dl,fun x hx y hy=>XB (fun x hx=>(oA.1 x hx).1) (fun x hx y hy=>d x hx y hy) x hx y hy⟩
 ·have tt:=yk oC.1;rw[oC.2]at tt;rw[tt]at hx;exact S.c x hx
theorem zhH{k:Int}(hk:kaa k){F:Type}[Lean.Grind.Field F](φ:La.Kf k F){r m q:Nat}{A B C:Tb}(oA:La.OkM k r A/\A.length=r)(oB:La.OkM k q B/\B.length=r)(oC:La.OkM k r C/\C.length=m){l s t:Nat}(hs:s<q)(hl:l<m):La.dot r (La.nv φ (C.getD l [])) (La.nv φ (powX k A ((kac q B).getD s []) t))=La.dot r (La.nv φ ((kac q B).getD s [])) (La.nv φ (powX k (kac r A) ((kac m (kac r C)).getD l []) t)):=by
 have tt:=yk oC.1;rw[oC.2]at tt;rw[tt];have gC:C.getD l []∈C:=by rw[wc,wb (by omega)];exact wj _
 have ob:La.OkM k r (kac q B):=by have:=zL oB.1;rw[oB.2]at this;exact this
 have gB:=ob _ (wd (getT B hs));have:=zax hk oA.1 oA.2 φ (oC.1 _ gC).2 (oC.1 _ gC).1 gB.2 gB.1 t 0;rw[wac]at this;rw[← this,La.yO]
 rfl
end L2
namespace L2
open PySem PySem.Spec PyProof.Rows Nm
section
variable{X:Cx}
theorem zdn:SlR X (rSlT K0):=fun pins s σ H x v vl vu lo hi sl Q I rx hs p1 p2 ⟨a,xs,e,h,ne,q⟩ =>
 zhK pins s σ H x v vl vu lo hi sl Q I rx hs p1 p2 ⟨a,xs,e,h.up,ne,q⟩
end
theorem zfi(ns ms:List Int):PyData.eqv (intsD ns) (intsD ms)=decide (ns=ms):=jY PyData.int (fun i j=>by show(i == j)=_;by_cases h:i=j <;> simp[h]) ns ms
theorem zdQ{k:Int}{F:Type}[Lean.Grind.Field F]{φ:La.Kf k F}(hk:kaa k){Ms:Nat->Tb}{m q h n:Nat}(oM:∀ t,t<h+h->La.OkM k m (Ms t)/\(Ms t).length=q)(q0:0<q)(m0:0<m){A B C:Tb}(n1:1<=n)(nh:n<=h)(oA:La.OkM k n A/\A.length=n)(oB:La.OkM k m B/\B.length=n)(oC:La.OkM k n C/\C.length=q)
  (mk:∀ t s l,t<h+h->s<q->l<m->La.nv φ ((Ms t).getD s []) l=La.dot n (La.nv φ (C.getD s [])) (La.nv φ (powX k A ((kac m B).getD l []) t))) {r0 r1 r2:Nat} (k0:RkL φ Ms h q m h h r0) (k1:RkL φ Ms h q m (h+1) h r1) (k2:RkL φ Ms h q m h (h+1) r2):r0<=h/\r1=r0/\r2=r0:=by
 have tr:∀ t,t<h+h->kac m (Ms t) =(fun t=>kac m (Ms t)) t:=fun t _=>rfl
 have oX:=turnX hk oM tr q0 m0;have oBt:La.OkM k n (kac m B):=by have:=zL oB.1;rw[oB.2]at this;exact this
 have oT:La.OkM k n (kac n A):=by have:=zL oA.1;rw[oA.2]at this;exact this
 have mkX:MkV φ (fun t=>kac m (Ms t)) (h+h) m q n A (kac m B) (fun s=>La.nv φ (C.getD s [])):=fun t l s ht hl hs=>by
  have e:La.nv φ ((kac m (Ms t)).getD l []) s=La.nv φ ((Ms t).getD s []) l:=La.xA (oM t ht).1 hl;show La.nv φ ((kac m (Ms t)).getD l []) s=_;rw[e,mk t s l ht hs hl]
 have mkM:MkV φ Ms (h+h) q m n (kac n A) C (fun l=>La.nv φ ((kac m B).getD l [])):=fun t s l ht hs hl=>by
  rw[mk t s l ht hs hl];have gC:C.getD s []∈C:=by rw[wc,wb (by omega)];exact wj _
  have gB:=oBt _ (wd (getT B hl));have:=zax hk oA.1 oA.2 φ (oC.1 _ gC).2 (oC.1 _ gC).1 gB.2 gB.1 t 0;rw[wac]at this;rw[← this,La.yO]
  rfl
 have x0:=(Qk (φ:=φ) (r:=r0) hk oM tr q0 m0 (a:=h) (b:=h) (by omega)).mpr k0;have x2:=(Qk (φ:=φ) (r:=r2) hk oM tr q0 m0 (a:=h) (b:=h+1) (by omega)).mpr k2;have le:=JX hk oX q0 oA.1 oA.2 oBt (zk m B) mkX (by omega) x0;have s2:=zc1 hk oX q0 oA.1 oA.2 oBt (zk m B) mkX rfl n1 nh;have s1:=zc1 hk oM m0 oT (zk n A) oC.1 oC.2 mkM rfl n1 nh;have e2:r2=r0:=uk (xu x2 x0 s2).1 (xu x0 x2 fun v hv=>jH hk oX q0 (vZ h) hv).1;have e1:r1=r0:=uk (xu k1 k0 s1).1 (xu k0 k1 fun v hv=>jH hk oM m0 (vZ h) hv).1;exact⟨by omega,e1,e2⟩
theorem ZU{k:Int}{F:Type}[Lean.Grind.Field F]{φ:La.Kf k F}(hk:kaa k){Ms:Nat->Tb}{m q h:Nat}(oM:∀ t,t<h+h->La.OkM k m (Ms t)/\(Ms t).length=q)(q0:0<q)(m0:0<m)(z:∀ t,t<h+h->∀ r∈Ms t,∀ x∈r,x=nnum k 0){a b r:Nat}(ab:a+b<=h+h+1)(kr:RkL φ Ms h q m a b r):r=0:=by
 refine zgy kr fun x hx j=>?_
 have:=zaw oM (P:=fun x=>x=nnum k 0) z (a:=b) (b:=a) (by omega) x hx
 rcases wK j x.length with hj|hj
 ·rw[La.ym φ (wb hj),this _ (wj hj)];exact φ.num0
 ·exact La.yC φ hj
theorem zfs{k:Int}{F:Type}[Lean.Grind.Field F]{φ:La.Kf k F}(hk:kaa k){Ms:Nat->Tb}{m q h:Nat}(oM:∀ t,t<h+h->La.OkM k m (Ms t)/\(Ms t).length=q)(q0:0<q)(m0:0<m)(h1:1<=h)(kr:RkL φ Ms h q m (h+1) h 0):∀ t,t<h+h->∀ r∈Ms t,∀ x∈r,x=nnum k 0:=fun t ht r hr x hx=>by
 obtain⟨s,hs,es⟩:=wQ hr;obtain⟨l,hl,el⟩:=wQ hx;have o:=oM t ht;have or:=o.1 r hr;have hs':s<q:=by rw[← o.2];exact hs
 have hl':l<m:=by rw[← or.1];exact hl
 obtain⟨i,j,hi,hj,e⟩ : ∃ i j,i<h+1/\j<h/\t=i+j:=by
  rcases wK t h with g|g
  ·exact⟨0,t,by omega,g,by omega⟩
  ·exact⟨t - (h - 1),h - 1,by omega,by omega,by omega⟩
 have z:=zgR kr (sqR Ms i s h) ((ye (h+1)).mpr ⟨i,s,hi,hs',rfl⟩) (j*m+l);rw[zc8 oM φ m0 hs' (by omega) hj hl',← e]at z;have er:(Ms t).getD s []=r:=by rw[wc,wb hs,es];rfl
 rw[er,La.ym φ (wb hl),el]at z;exact(φ.zero_iff hk (or.2 x hx)).mp z
end L2
namespace KL
open PySem PySem.Spec PyProof.Rows L2 Nm
set_option maxHeartbeats 4000000
theorem zh3 (K:PySem.W.Frag):PySem.W.kitOne K (.type "int") (.type "int")=some true:=by unfold PySem.W.kitOne;rw[if_pos (by decide)]
theorem zhf (K:PySem.W.Frag):PySem.W.kitOne K (.type "int") (.type "bool")=some false:=by
 unfold PySem.W.kitOne;rw[if_neg (by decide)];show(if PySem.W.kitMeta "bool" = true then PySem.W.subIn K (.type "int") (.type "bool")else none)=some false;rw[if_pos (by decide +kernel)];show(PySem.fastBuiltinMro "int").map (·.contains (Value.type "bool"))=some false
 decide +kernel
theorem zeL (K:PySem.W.Frag):PySem.W.kitOne K (.type "tuple") (.type "tuple")=some true:=by unfold PySem.W.kitOne;rw[if_pos (by decide)]
section
variable{P:Program}{w:World}{K:PySem.W.Frag}{mg:Str->Option Value}{base:Heap}
theorem zY{a b:Int}(h0:0<=a)(h1:a<=2305843009213693952):IntMulOk a b:=IntMulOk.of_left (intBits_le_64 (by omega) (by omega))
def za3:Sp:=fun vs H Q _=>∃(a b:Int),vs=[.int a,.int b]/\Q (.int ((wS a b:Nat):Int)) H
theorem zcS(i:Int):(if i<0 then -i else i) =(i.natAbs:Int):=by split <;> omega
theorem zih (D:Df K mg "common_divisor" Sq yP) (m_abs:mg "abs" = none):Kn P w K mg base "common_divisor" 1 Sq za3:=by
 refine D.kn sv (fun vs H Q E h=>?_) (fun f cdv A outer s H vs Q E hr h=>?_)
 ·obtain⟨a,b,rfl,_⟩:=h;rfl
 obtain⟨a,b,rfl,q⟩:=h;refine⟨_,(zc (zo (i:=2) sv.nd rfl (.inl rfl) (zp JH rfl m_abs zdt (za (pv 0) zd))) (zc (zo (i:=3) sv.nd rfl (.inl rfl) (zp JH rfl m_abs zdt (za (pv 1) zd))) (zc (qk PassesOwn.never (zu ZO (pv 3) ze (kae _)) (zc (zo (i:=4) sv.nd rfl (.inl rfl) (zm zP (pv 2) (pv 3))) (zc (zo (i:=2) sv.nd rfl (.inl rfl) (pv 3)) (zh (zo (i:=3) sv.nd rfl (.inl rfl) (pv 4)))))) (zh (zq (pv 2)))))),?_⟩;refine⟨_,rfl,a,rfl,_,rfl,b,rfl,?_⟩;rw[zcS,zcS];refine⟨fun m σ H'=>∃ l r o,σ=[some (.int a),some (.int b),some (.int l),some (.int r),o]/\H'=H/\0<=l/\0<=r/\wS l r=wS a b/\m=r.toNat,⟨_,_,_,none,rfl,rfl,uw _,uw _,by simp[uN],rfl⟩,?_⟩
 rintro m σ H' ⟨l,r,o,rfl,rfl,l0,r0,g,rfl⟩
 refine⟨_,rfl,rfl,_,rfl,?_⟩;refine ite2 (fun c=>?_) (fun c=>?_)
 ·have c':r≠0:=fun z=>by rw[z]at c;exact absurd c (by decide)
  have m0:=wx l (show 0<r by omega);have m1:=wH l (show 0<r by omega);refine⟨_,fun _ _ h=>h,?_⟩;exact⟨_,rfl,_,rfl,_,_,rfl,rfl,c',_,rfl,_,rfl,_,by omega,r,l.fmod r,_,rfl,rfl,r0,m0,(zbE l r).trans g,rfl⟩
 ·have c':r=0:=by
   rcases uU 0 r with h|h
   ·exact absurd (by have h':¬ V.int r=V.int 0:=fun z=>(by have:=V.int.inj z;omega);rw[decide_eq_false h'];rfl) c
   ·omega
  subst c';refine⟨_,rfl,?_⟩;have e:l =((wS a b:Nat):Int):=by rw[← g,GZ];omega
  show Q (.int l) H';rw[e];exact q
def Xg:Sp:=fun vs H Q _=>∃(t b:Int),vs=[.int t,.int b]/\b≠0/\∀ v H',Same H H'->RN H' (.q (vB t b)) v->Q v H'
theorem za5 (hP:P.given.tree=none) (hS:base.NoSeer) (D:Df K mg "fraction" Sr qi) (yz:Kn P w K mg base "common_divisor" 1 Sq za3):Kn P w K mg base "fraction" 41 Sr Xg:=by
 refine D.kn Sc (fun vs H Q E h=>?_) (fun f cdv A outer s H vs Q E hr h=>?_)
 ·obtain⟨a,b,rfl,_⟩:=h;rfl
 obtain⟨t,b,rfl,hb,q⟩:=h;refine⟨_,(zc (zo (i:=2) Sc.nd rfl (.inl rfl) (zF yz hr (za (pv 0) (za (pv 1) zd)))) (zc (yb (zu zeU (pv 1) ze (kae _)) (zh (zo (i:=2) Sc.nd rfl (.inl rfl) (zcz XE (pv 2)))) zJ) (zh (zq (yy (za (zm (zQ hr (by decide) hP hS ⟨_,_,rfl,rfl,rfl,rfl,rfl⟩) (pv 0) (pv 2)) (za (zm (zQ hr (by decide) hP hS ⟨_,_,rfl,rfl,rfl,rfl,rfl⟩) (pv 1) (pv 2)) zd))))))),?_⟩;obtain⟨e1,e2⟩:=Yj (t:=t) hb;have cd:sg t b≠0:=zdC hb;have fin:∀ p,H p=none->Q (.ref p) (upd H p (.tup [.int (t.fdiv (sg t b)),.int (b.fdiv (sg t b))])):=fun p hp=>by
  rw[e1,e2];exact q _ _ (zg hp _) (RN.of_q zf)
 refine⟨_,rfl,_,rfl,t,b,rfl,?_⟩;refine⟨_,rfl,_,_,rfl,rfl,_,rfl,?_⟩;refine ite2 (fun c=>?_) (fun c=>?_)
 ·have c':b<0:=of_decide_eq_true c;have e:sg t b = -((wS t b:Nat):Int):=by unfold sg;rw[if_pos c']
  rw[e]at cd fin;exact⟨_,rfl,_,rfl,_,rfl,_,rfl,_,_,rfl,rfl,cd,_,rfl,_,rfl,_,_,rfl,rfl,cd,(by show 2<=sizeLine;decide),fin⟩
 ·have c':¬ b<0:=of_decide_eq_false (ul.mpr c);have e:sg t b =((wS t b:Nat):Int):=by unfold sg;rw[if_neg c']
  rw[e]at cd fin;exact⟨_,rfl,_,rfl,_,_,rfl,rfl,cd,_,rfl,_,rfl,_,_,rfl,rfl,cd,(by show 2<=sizeLine;decide),fin⟩
def Xa:Sp:=fun vs H Q _=>∃(p r:Int),vs=[.int p,.int r]/\Pr p/\0<r/\r<p/\∀ x,0<=x->x<p->p ∣ x*r - 1->Q (.int x) H
theorem zaE (hP:P.given.tree=none) (hS:base.NoSeer) (D:Df K mg "one_over" Ss qh):Kn P w K mg base "one_over" 41 Ss Xa:=by
 refine D.kn Sd (fun vs H Q E h=>?_) (fun f cdv A outer s H vs Q E hr h=>?_)
 ·obtain⟨a,b,rfl,_⟩:=h;rfl
 obtain⟨p,r,rfl,hp,r0,rp,q⟩:=h;refine⟨_,(zc (zo (i:=2) Sd.nd rfl (.inl rfl) (pv 0)) (zc (zo (i:=3) Sd.nd rfl (.inl rfl) (pv 1)) (zc (zo (i:=4) Sd.nd rfl (.inl rfl) ze) (zc (zo (i:=5) Sd.nd rfl (.inl rfl) ze) (zc (qk PassesOwn.never (zu ZO (pv 3) ze (kae _)) (zc (zo (i:=6) Sd.nd rfl (.inl rfl) (zm (zQ hr (by decide) hP hS ⟨_,_,rfl,rfl,rfl,rfl,rfl⟩) (pv 2) (pv 3))) (zc (zo (i:=7) Sd.nd rfl (.inl rfl) (zm qx (pv 2) (zm zS (pv 6) (pv 3)))) (zc (zo (i:=8) Sd.nd rfl (.inl rfl) (zm qx (pv 4) (zm zS (pv 6) (pv 5)))) (zc (zo (i:=2) Sd.nd rfl (.inl rfl) (pv 3)) (zc (zo (i:=4) Sd.nd rfl (.inl rfl) (pv 5)) (zc (zo (i:=3) Sd.nd rfl (.inl rfl) (pv 7)) (zh (zo (i:=5) Sd.nd rfl (.inl rfl) (pv 8)))))))))) (zh (zq (zm zP (pv 4) (pv 0))))))))),?_⟩;have p0:0<p:=by have:=hp.lo;omega
 refine⟨_,rfl,_,rfl,?_⟩;refine⟨fun m σ H'=>∃ l g ml mg o1 o2 o3,σ=[some (.int p),some (.int r),some (.int l),some (.int g),some (.int ml),some (.int mg),o1,o2,o3]/\H'=H/\OvInv p r l g ml mg/\m=g.toNat,⟨_,_,_,_,_,none,none,none,rfl,rfl,za9 hp r0 rp,rfl⟩,?_⟩
 rintro m σ H' ⟨l,g,ml,mg,o1,o2,o3,rfl,rfl,inv,rfl⟩
 have l0:=inv.l0;have l1:=inv.l1;have g0:=inv.g0;have g1:=inv.g1;refine⟨_,rfl,rfl,_,rfl,?_⟩;refine ite2 (fun c=>?_) (fun c=>?_)
 ·have c':g≠0:=fun z=>by rw[z]at c;exact absurd c (by decide)
  have ed:l.fdiv g=l / g:=gb l g0;have d0:0<=l.fdiv g:=by rw[ed];exact waw l0 g0
  have d1:l.fdiv g<=l:=by rw[ed];exact Int.ediv_le_self g l0
  have tn:=zey inv c';have tm:=zcT (l:=l) g0 c';rw[← ed]at tn tm;refine⟨_,fun _ _ h=>h,?_⟩;refine⟨_,rfl,_,rfl,_,_,rfl,rfl,c',?_⟩;refine⟨_,rfl,_,rfl,_,rfl,_,_,rfl,rfl,zY d0 (by omega),_,_,rfl,rfl,_,rfl,_,rfl,_,rfl,_,_,rfl,rfl,zY d0 (by omega),_,_,rfl,rfl,_,rfl,_,rfl,_,rfl,_,rfl,_,tm,g,_,mg,_,_,_,_,rfl,rfl,tn,rfl⟩
 ·have c':g=0:=by
   rcases uU 0 g with h|h
   ·exact absurd (by have h':¬ V.int g=V.int 0:=fun z=>(by have:=V.int.inj z;omega);rw[decide_eq_false h'];rfl) c
   ·omega
  subst c';refine⟨_,rfl,_,rfl,_,_,rfl,rfl,(show p≠0 by omega),?_⟩;have em:ml.fmod p=ml % p:=uz ml (by omega);show Q (.int (ml.fmod p)) H';rw[em];exact q _ (gi _ (by omega)) (uG _ p0) (zfT inv p0)
def jZ:Sp:=fun vs H Q _=>∃(k w:Int),vs=[.int k,.int w]/\∀ v H',Same H H'->RN H' (nnum k w) v->Q v H'
theorem zeK (D:Df K mg "number" Su Yb):Kn P w K mg base "number" 1 Su jZ:=by
 refine D.kn zew (fun vs H Q E h=>?_) (fun f cdv A outer s H vs Q E hr h=>?_)
 ·obtain⟨k,w,rfl,_⟩:=h;rfl
 obtain⟨k,w,rfl,q⟩:=h;refine⟨_,(zc (yb (zu xb (pv 0) ze (kae _)) (zh (zq (yy (za (pv 1) (za ze zd))))) zJ) (zh (zq (zm zP (pv 1) (pv 0))))),?_⟩;refine⟨_,rfl,rfl,_,rfl,?_⟩;refine ite2 (fun c=>?_) (fun c=>?_)
 ·have e:k=0:=V.int.inj (of_decide_eq_true c);subst e;refine⟨_,rfl,(by show 2<=sizeLine;decide),fun p hp=>?_⟩;refine q _ _ (zg hp _) ?_;show RN _ (.q (w:Rat)) _;exact RN.of_q zf
 ·have c':¬ V.int k=V.int 0:=of_decide_eq_false (ul.mpr c);have e:k≠0:=fun z=>c' (by rw[z])
  refine⟨_,rfl,_,rfl,_,_,rfl,rfl,e,?_⟩;refine q _ _ (Same.refl H) ?_;unfold nnum;rw[if_neg e];exact RN.of_z
structure Two(H:Hp)(k:Int)(x y:Nb)(a b:V):Prop where
 kd:kaa k
 xo:x.ok k
 yo:y.ok k
 xs:nsm 60000000 x
 ys:nsm 60000000 y
 xr:RN H x a
 yr:RN H y b
def Zj(f:Int->Nb->Nb->Nb):Sp:=fun vs H Q _=>∃(k:Int)(x y:Nb)(a b:V),vs=[.int k,a,b]/\Two H k x y a b/\∀ v H',Same H H'->RN H' (f k x y) v->Q v H'
theorem YT{H:Hp}{k:Int}{x y:Nb}{a b:V}(T:Two H k x y a b) :
  (k=0/\∃ r s pa pb,x=.q r/\y=.q s/\a=.ref pa/\b=.ref pb/\H pa=some (.tup [.int r.num,.int (r.den:Int)])/\H pb=some (.tup [.int s.num,.int (s.den:Int)])/\Sm 60000000 r.num/\Sm 60000000 (r.den:Int)/\Sm 60000000 s.num/\Sm 60000000 (s.den:Int)) \/
  (k≠0/\Pr k/\∃ i j,x=.z i/\y=.z j/\a=.int i/\b=.int j/\0<=i/\i<k/\0<=j/\j<k):=by
 obtain⟨kd,xo,yo,xs,ys,xr,yr⟩:=T;cases x with
 | q r =>
  have k0:k=0:=xo;cases y with
  | q s =>
   obtain⟨pa,ea,ha⟩:=xr.q;obtain⟨pb,eb,hb⟩:=yr.q;exact .inl ⟨k0,r,s,pa,pb,rfl,rfl,ea,eb,ha,hb,xs.1,xs.2,ys.1,ys.2⟩
  | z j=>exact absurd k0 yo.1
 | z i =>
  cases y with
  | q s=>exact absurd (show k=0 from yo) xo.1
  | z j =>
   refine .inr ⟨xo.1,?_,i,j,rfl,rfl,xr.z,yr.z,xo.2.1,xo.2.2,yo.2.1,yo.2.2⟩
   rcases kd with h|h
   ·exact absurd h xo.1
   ·exact h
theorem ju{m n:Nat}{a b:Int}(ha:Sm m a)(hb:Sm n b)(h:m+n<=134217728:=by decide):IntMulOk a b:=ha.mulOk hb h
def zdL:Sp:=fun vs H Q _=>∃(k:Int)(x y:Nb)(a b:V),vs=[.int k,a,b]/\Two H k x y a b/\y≠nnum k 0/\∀ v H',Same H H'->RN H' (ndiv k x y) v->Q v H'
theorem zgB (D:Df K mg "over" Sv zbx) (zcv:Kn P w K mg base "fraction" 41 Sr Xg) (xO:Kn P w K mg base "number" 1 Su jZ) (zcc:Kn P w K mg base "one_over" 41 Ss Xa):Kn P w K mg base "over" 42 Sv zdL:=by
 refine D.kn zgC (fun vs H Q E h=>?_) (fun f cdv A outer s H vs Q E hr h=>?_)
 ·obtain⟨k,x,y,a,b,rfl,_⟩:=h;rfl
 obtain⟨k,x,y,a,b,rfl,T,ne,q⟩:=h;refine⟨_,(zc (yb (zu (Ym hr) (pv 2) (zF xO hr (za (pv 0) (za ze zd))) (kae _)) (zh ze1) zJ) (zc (yb (zu xb (pv 0) ze (kae _)) (zh (zq (zF zcv hr (za (zm zS (zt zE (pv 1) ze) (zt zE (pv 2) ze)) (za (zm zS (zt zE (pv 1) ze) (zt zE (pv 2) ze)) zd))))) zJ) (zh (zq (zm zP (zm zS (pv 1) (zF zcc hr (za (pv 0) (za (pv 2) zd)))) (pv 0)))))),?_⟩;refine⟨_,rfl,_,rfl,k,0,rfl,fun v0 H0 g0 r0=>?_⟩;refine⟨toD y,toD (nnum k 0),T.yr.mono g0,r0,xC _,xC _,wD (vI _ _) (wD (je y) (by decide)),_,rfl,?_⟩;show if PyData.eqv (toD y) (toD (nnum k 0))=true then _ else _
 rw[qy,decide_eq_false ne];refine iteF ?_
 rcases YT T with⟨rfl,r,s,pa,pb,rfl,rfl,rfl,rfl,ha,hb,rn,rd,sn,sd⟩|⟨k0,hp,i,j,rfl,rfl,rfl,rfl,i0,ik,j0,jk⟩
 ·have ha':=g0 _ _ ha;have hb':=g0 _ _ hb;have s0:s≠0:=fun z=>ne (by rw[z];rfl)
  refine⟨_,rfl,rfl,_,rfl,iteT ?_⟩;refine⟨_,rfl,pa,_,_,_,rfl,rfl,SqT.of ha',rfl,_,rfl,pb,_,_,_,rfl,rfl,SqT.of hb',rfl,_,_,rfl,rfl,ju rn sd,_,rfl,pa,_,_,_,rfl,rfl,SqT.of ha',rfl,_,rfl,pb,_,_,_,rfl,rfl,SqT.of hb',rfl,_,_,rfl,rfl,ju rd sn,_,_,rfl,gO (jf r) (zhR s0),fun v H' g h=>?_⟩;rw[zg7]at h;exact q v H' (g0.trans g) h
 ·have j1:j≠0:=fun z=>ne (by unfold nnum;rw[if_neg k0,z,GP])
  refine⟨_,rfl,rfl,_,rfl,?_⟩;rw[decide_eq_false (show ¬ V.int k=V.int 0 from fun z=>k0 (V.int.inj z))];refine iteF ?_;refine⟨_,rfl,_,rfl,_,rfl,k,j,rfl,hp,by omega,jk,fun x x0 xk hx=>?_⟩;refine⟨_,_,rfl,rfl,zY i0 (by have:=hp.hi;omega),_,rfl,_,_,rfl,rfl,k0,?_⟩;refine q _ _ g0 ?_;show RN _ (.z ((i*zinv k j).fmod k)) _;rw[zdq x0 xk hx];exact RN.of_z
theorem zho (D:Df K mg "_law_divisor" Sx xl) (m_abs:mg "abs" = none):Kn P w K mg base "_law_divisor" 1 Sx za3:=by
 refine D.kn sH (fun vs H Q E h=>?_) (fun f cdv A outer s H vs Q E hr h=>?_)
 ·obtain⟨a,b,rfl,_⟩:=h;rfl
 obtain⟨a,b,rfl,q⟩:=h;refine⟨_,(zc (qk PassesOwn.never (zu ZO (pv 1) ze (kae _)) (zh (zhi (i:=0) (j:=1) rfl sH.nd rfl rfl (by decide) rfl rfl (za (pv 1) (za (zm zP (pv 0) (pv 1)) zd)) rfl))) (zh (zq (zp JH rfl m_abs zdt (za (pv 0) zd))))),?_⟩;refine⟨fun m σ H'=>∃ l r,σ=[some (.int l),some (.int r)]/\H'=H/\wS l r=wS a b/\m=r.natAbs,⟨_,_,_,rfl,rfl,rfl,rfl⟩,?_⟩
 rintro m σ H' ⟨l,r,rfl,rfl,g,rfl⟩
 refine⟨_,rfl,rfl,_,rfl,?_⟩;refine ite2 (fun c=>?_) (fun c=>?_)
 ·have c':r≠0:=fun z=>by rw[z]at c;exact absurd c (by decide)
  refine⟨_,fun _ _ h=>h,?_⟩;exact⟨_,rfl,_,rfl,_,rfl,_,_,rfl,rfl,c',_,_,rfl,_,zcm l c',r,l.fmod r,rfl,rfl,(zbE l r).trans g,rfl⟩
 ·have c':r=0:=by
   by_cases h:r=0
   ·exact h
   ·exact absurd (by have h':¬ V.int r=V.int 0:=fun z=>h (V.int.inj z);rw[decide_eq_false h'];rfl) c
  subst c';refine⟨_,rfl,l,rfl,?_⟩;have e:(if l<0 then -l else l) =((wS a b:Nat):Int):=by rw[zcS,← g,GZ]
  show Q (.int (if l<0 then -l else l)) H';rw[e];exact q
def szM(m:Nat)(M:Tb):Prop:=∀ r∈M,∀ x∈r,nsm m x
theorem zcB{k:Int}{m n:Nat}{M:Tb}(ok:La.OkM k n M)(h:szM m M):szM m (kac n M):=fun r hr x hx=>by
 unfold kac at hr;obtain⟨j,hj,rfl⟩:=wg.mp hr;rw[vk]at hj;obtain⟨row,hrow,rfl⟩:=wg.mp hx;have hj':j<row.length:=by have:=(ok row hrow).1;omega
 rw[wc,wb hj'];exact h row hrow _ (wj hj')
def YD:Sp:=fun vs H Q _=>∃(k:Int)(xs:List Nb)(a:Addr)(B:Nat),vs=[.int k,.ref a]/\kaa k/\kak H xs a/\La.OkR k xs/\La.rowB B xs/\61<=B/\B<=60000000/\xs.length<sizeLine /\
 ∀ p H',Same H H'->SclAt H' k B xs p->Q (.ref p) H'
theorem zeB (hP:P.given.tree=none) (hS:base.NoSeer) (D:Df K mg "scaled" Sy ZX) (yz:Kn P w K mg base "common_divisor" 1 Sq za3) (yY:mg "list" = none):Kn P w K mg base "scaled" 41 Sy YD:=by
 refine D.kn Sj (fun vs H Q E h=>?_) (fun f cdv A outer s H vs Q E hr h=>?_)
 ·obtain⟨k,xs,a,B,rfl,_⟩:=h;rfl
 obtain⟨k,xs,a,B,rfl,hk,hrow,ok,⟨Dn,dn0,dn1,hD⟩,b7,b6,hlen,q⟩:=h;have kl:=hk.lt;have szl:=Qa
 obtain⟨vs,ha,hp,hvl⟩:=hrow.len;refine⟨_,(zc (yb (zu ZO (pv 0) ze (kae _)) (zh (zq (yy (za (Za ZB rfl yY qA (za (pv 1) zd)) (za ze zd))))) zJ) (zc (zo (i:=2) Sj.nd rfl (.inr rfl) ze) (zc (yt PassesOwn.never rfl (zw (pv 1)) (zI (i:=3) Sj.nd rfl (.inl rfl)) (zh (zo (i:=2) Sj.nd rfl (.inr rfl) (zm zS (zm (zQ hr (by decide) hP hS ⟨_,_,rfl,rfl,rfl,rfl,rfl⟩) (pv 2) (zF yz hr (za (pv 2) (za (zt zE (pv 3) ze) zd)))) (zt zE (pv 3) ze))))) (zh (zq (yy (za (yM ["bottom"] [2] (zw (pv 1)) fun _ _ _ _ _ _=>⟨zM,(zm zS (zt zE (pv 0) ze) (zm (zQ hr (by decide) hP hS ⟨_,_,rfl,rfl,rfl,rfl,rfl⟩) (pv 1) (zt zE (pv 0) ze)))⟩) (za (pv 2) zd)))))))),?_⟩;refine⟨_,rfl,rfl,_,rfl,?_⟩;refine ite2 (fun c=>?_) (fun c=>?_)
 ·have k0:k≠0:=fun z=>by rw[z]at c;exact absurd c (by decide)
  obtain⟨is,rfl,rfl⟩:=QL k0 ok hp;refine⟨_,rfl,a,_,rfl,.inl (SqL.of ha),fun l hl=>⟨(by show 2<=sizeLine;decide),fun p hp'=>?_⟩⟩;have n1:l≠p:=fun e=>by rw[e,zf]at hp';cases hp'
  refine q p _ ((zg hl _).trans (zg hp' _)) ⟨l,is,1,zf,?_,zd2 k0 is,?_,fun w hw=>?_⟩
  ·show upd _ _ _ l=_;rw[zN n1];exact zf
  ·exact sm_one.mono (by omega)
  ·have o:=ok (.z w) (wg.mpr ⟨w,hw,rfl⟩);exact(Xn o.2.1 o.2.2 kl.2).mono b7
 ·have k0:k=0:=by
   by_cases z:k=0
   ·exact z
   ·exact absurd (by have h':¬ V.int k=V.int 0:=fun e=>z (V.int.inj e);rw[decide_eq_false h'];rfl) c
  subst k0;have isq:∀(i:Nat)(x:Nb),xs[i]?=some x->∃ r,x=.q r:=fun i x hx=>by
   have o:=ok x (wd hx);cases x with
   | q r=>exact⟨r,rfl⟩
   | z j=>exact absurd rfl o.1
  have dle:∀ b:Int,0<b->b ∣ (Dn:Int)->Sm B b:=fun b b0 hb=>by
   have:=GO (by omega) hb;show b.natAbs<2^B;omega
  have parts:∀ r:Rat,.q r∈xs->Sm B r.num/\Sm B (r.den:Int)/\(r.den:Int) ∣ (Dn:Int):=fun r hr=>by
   obtain⟨h1,h2⟩:=La.dB.parts dn0 (hD _ hr);have dv:=La.dB.den_dvd dn0 (hD _ hr);refine⟨?_,dle _ (den_pos r) dv,dv⟩;show r.num.natAbs<2^B;have:0<2^B:=uR (by decide);omega
  refine⟨_,rfl,a,rfl,⟨_,SqL.of ha⟩,?_⟩;refine yZ (xs:=vs) (fun i σ H'=>∃ b o,σ=[some (.int 0),some (.ref a),some (.int b),o]/\H'=H/\0<b/\(∀ x∈xs.take i,La.dvB b x)/\b ∣ (Dn:Int)) ⟨1,none,rfl,rfl,by decide,fun x hx=>by simp at hx,⟨_,(waS _).symm⟩⟩ ?_ ?_ ?_
  ·rintro i σ H' _ ⟨b,o,rfl,rfl,_⟩
   exact SqL.of ha
  ·rintro i v σ H' hv ⟨b,o,rfl,rfl,b0,dv,bD⟩
   obtain⟨x,hx,rx⟩:=zW hp hv;obtain⟨r,rfl⟩:=isq i x hx;obtain⟨pa,rfl,hpa⟩:=rx.q;obtain⟨sn,sd,dD⟩:=parts r (wd hx);obtain⟨l1,l2,l3,l4⟩:=zeR b0 (den_pos r);have l5:=La.zg4 b0 (den_pos r) bD dD;have sf:Sm B (b.fdiv ((wS b (r.den:Int):Nat):Int)):=zaM (dle b b0 bD) (uY _ _);refine⟨_,rfl,_,rfl,_,rfl,pa,_,_,_,rfl,rfl,SqT.of hpa,rfl,_,_,rfl,_,_,rfl,rfl,l4,?_⟩;refine⟨_,rfl,pa,_,_,_,rfl,rfl,SqT.of hpa,rfl,_,_,rfl,rfl,sf.mulOk sd (by omega),?_⟩;refine⟨_,_,rfl,rfl,l1,fun y hy=>?_,l5⟩;rw[zy hx]at hy
   rcases wt.mp hy with hy|hy
   ·have:=dv y hy;cases y with
    | q s=>exact waF (show(s.den:Int) ∣ b from this) l2
    | z j=>trivial
   ·rw[wm.mp hy];exact l3
  ·rintro σ H' ⟨b,o,rfl,rfl,b0,dv,bD⟩
   rw[hvl]at dv;rw[vK]at dv;have sb:=dle b b0 bD;refine⟨_,rfl,a,rfl,⟨_,SqL.of ha⟩,?_⟩;refine zO (xs:=vs) (fun i ys H2=>H2=H'/\ys =((xs.take i).map (La.scW b)).map V.int) ⟨rfl,by simp⟩ ?_ ?_ ?_
   ·rintro i ys H2 hi ⟨rfl,rfl⟩
    refine⟨SqL.of ha,?_⟩;rw[wa,wa,wr];omega
   ·rintro i v ys H2 hv hi ⟨rfl,rfl⟩
    obtain⟨x,hx,rx⟩:=zW hp hv;obtain⟨r,rfl⟩:=isq i x hx;obtain⟨pa,rfl,hpa⟩:=rx.q;obtain⟨sn,sd,dD⟩:=parts r (wd hx);have dx:(r.den:Int) ∣ b:=dv _ (wd hx)
    first|refine gyes ?_|refine tyes ?_
    refine⟨_,rfl,pa,_,_,_,rfl,rfl,SqT.of hpa,rfl,_,rfl,_,rfl,pa,_,_,_,rfl,rfl,SqT.of hpa,rfl,_,_,rfl,rfl,jf r,_,_,rfl,rfl,sn.mulOk (zaM sb dx) (by omega),nxt hi ⟨rfl,?_⟩⟩;rw[zy hx,wu,wu];rfl
   ·rintro ys H2 ⟨rfl,rfl⟩ l hl
    rw[hvl,vK]at *;refine⟨_,rfl,(by show 2<=sizeLine;decide),fun p hp'=>?_⟩;have n1:l≠p:=fun e=>by rw[e,zf]at hp';cases hp'
    refine q p _ ((zg hl _).trans (zg hp' _)) ⟨l,xs.map (La.scW b),b,zf,?_,⟨rfl,b0,fun z=>absurd rfl z,dv⟩,sb,fun w hw=>?_⟩
    ·show upd _ _ _ l=_;rw[zN n1];exact zf
    ·obtain⟨x,hx,rfl⟩:=wg.mp hw;exact La.zd6 hk (ok x hx) b7 dn0 (hD x hx) b0 (dv x hx) fun _=>bD
def zaU:Sp:=fun vs H Q _=>∃(k t b:Int),vs=[.int k,.int t,.int b]/\kaa k/\nnum k b≠nnum k 0/\Sm 60000000 t/\Sm 60000000 b/\∀ v H',Same H H'->RN H' (ndiv k (nnum k t) (nnum k b)) v->Q v H'
theorem zgE (D:Df K mg "quotient" Sz qp) (zhF:Kn P w K mg base "over" 42 Sv zdL) (xO:Kn P w K mg base "number" 1 Su jZ):Kn P w K mg base "quotient" 43 Sz zaU:=by
 refine D.kn zaK (fun vs H Q E h=>?_) (fun f cdv A outer s H vs Q E hr h=>?_)
 ·obtain⟨k,t,b,rfl,_⟩:=h;rfl
 obtain⟨k,t,b,rfl,hk,ne,st,sb,q⟩:=h;refine⟨_,(zh (zq (zF zhF hr (za (pv 0) (za (zF xO hr (za (pv 0) (za (pv 1) zd))) (za (zF xO hr (za (pv 0) (za (pv 2) zd))) zd)))))),?_⟩;refine⟨_,rfl,_,rfl,_,rfl,k,t,rfl,fun v1 H1 g1 r1=>?_⟩;refine⟨_,rfl,_,rfl,k,b,rfl,fun v2 H2 g2 r2=>?_⟩;refine⟨k,_,_,v1,v2,rfl,⟨hk,La.yg hk t,La.yg hk b,Jk hk st (by decide),Jk hk sb (by decide),r1.mono g2,r2⟩,ne,fun v3 H3 g3 r3=>?_⟩;exact q v3 H3 ((g1.trans g2).trans g3) r3
def Jp:Sp:=fun vs H Q _=>∃(k:Int)(ws:List Int)(a:Addr),vs=[.int k,.ref a]/\kaa k/\IRow H ws a/\ws.length<sizeLine/\∀ p H',Same H H'->IRow H' (La.kaj k ws) p->Q (.ref p) H'
theorem zfe (hP:P.given.tree=none) (hS:base.NoSeer) (D:Df K mg "eased" SA Jl) (yz:Kn P w K mg base "common_divisor" 1 Sq za3):Kn P w K mg base "eased" 41 SA Jp:=by
 refine D.kn Sn (fun vs H Q E h=>?_) (fun f cdv A outer s H vs Q E hr h=>?_)
 ·obtain⟨k,ws,a,rfl,_⟩:=h;rfl
 obtain⟨k,ws,a,rfl,hk,ha,hz,q⟩:=h;refine⟨_,(zc (yb (zu ZO (pv 0) ze (kae _)) (zh (zq (yM ["kind"] [0] (zw (pv 1)) fun _ _ _ _ _ _=>⟨zM,(zm zP (pv 0) (pv 1))⟩))) zJ) (zc (zo (i:=2) Sn.nd rfl (.inr rfl) ze) (zc (yt PassesOwn.never rfl (zw (pv 1)) (zI (i:=3) Sn.nd rfl (.inl rfl)) (zc (zo (i:=2) Sn.nd rfl (.inr rfl) (zF yz hr (za (pv 2) (za (pv 3) zd)))) (zh (yb (zu xb (pv 2) ze (kae _)) (zh (zq (pv 1))) zJ)))) (zc (yb (zu xb (pv 2) ze (kae _)) (zh (zq (pv 1))) zJ) (zh (zq (yM ["divisor"] [2] (zw (pv 1)) fun _ _ _ _ _ _=>⟨zM,(zm (zQ hr (by decide) hP hS ⟨_,_,rfl,rfl,rfl,rfl,rfl⟩) (pv 0) (pv 1))⟩))))))),?_⟩;refine⟨_,rfl,rfl,_,rfl,?_⟩;refine ite2 (fun c=>?_) (fun c=>?_)
 ·have k0:k≠0:=fun z=>by rw[z]at c;exact absurd c (by decide)
  refine⟨_,rfl,a,rfl,⟨_,SqL.of ha⟩,?_⟩;refine zO (xs:=ws.map V.int) (fun i ys H'=>H'=H/\ys =((ws.take i).map (·.fmod k)).map V.int) ⟨rfl,by simp⟩ ?_ ?_ ?_
  ·rintro i ys H' hi ⟨rfl,rfl⟩
   refine⟨SqL.of ha,?_⟩;rw[wa,wa,wr];omega
  ·rintro i v ys H' hv hi ⟨rfl,rfl⟩
   rw[we]at hv;obtain⟨u,hu,rfl⟩:=wG.mp hv
   first|refine gyes ?_|refine tyes ?_
   refine⟨_,rfl,_,rfl,_,_,rfl,rfl,k0,nxt hi ⟨rfl,?_⟩⟩;rw[zy hu,wu,wu];rfl
  ·rintro ys H' ⟨rfl,rfl⟩ p hp
   rw[wa,vK];refine q p _ (zg hp _) ?_;rw[La.zct k0];exact zf
 ·have k0:k=0:=by
   by_cases z:k=0
   ·exact z
   ·exact absurd (by have h':¬ V.int k=V.int 0:=fun e=>z (V.int.inj e);rw[decide_eq_false h'];rfl) c
  subst k0;refine⟨_,rfl,a,rfl,⟨_,SqL.of ha⟩,?_⟩;refine yZ (xs:=ws.map V.int) (fun i σ H'=>∃ o,σ=[some (.int 0),some (.ref a),some (.int ((La.gcdL (ws.take i):Nat):Int)),o]/\H'=H) ⟨none,rfl,rfl⟩ ?_ ?_ ?_
  ·rintro i σ H' _ ⟨o,rfl,rfl⟩
   exact SqL.of ha
  ·rintro i v σ H' hv ⟨o,rfl,rfl⟩
   rw[we]at hv;obtain⟨u,hu,rfl⟩:=wG.mp hv;have eg:((wS ((La.gcdL (ws.take i):Nat):Int) u:Nat):Int) =((La.gcdL (ws.take (i+1)):Nat):Int):=by
    rw[zy hu,La.zcQ,uN,vH]
   refine⟨_,rfl,_,rfl,_,_,rfl,?_⟩;rw[eg];refine⟨_,rfl,rfl,_,rfl,?_⟩;refine ite2 (fun c1=>?_) (fun c1=>?_)
   ·have e1:((La.gcdL (ws.take (i+1)):Nat):Int)=1:=V.int.inj (of_decide_eq_true c1);refine⟨_,rfl,q a _ (Same.refl _) ?_⟩;rw[La.zbX (La.zfa (i:=i+1) (by omega))];exact ha
   ·exact⟨_,rfl,rfl⟩
  ·rintro σ H' ⟨o,rfl,rfl⟩
   rw[wa,vK];refine⟨_,rfl,rfl,_,rfl,?_⟩;refine ite2 (fun c1=>?_) (fun c1=>?_)
   ·have e1:((La.gcdL ws:Nat):Int)=0:=V.int.inj (of_decide_eq_true c1);refine⟨_,rfl,q a _ (Same.refl _) ?_⟩;rw[La.zbZ (by omega)];exact ha
   ·have e1:((La.gcdL ws:Nat):Int)≠0:=fun z=>by rw[z]at c1;exact c1 (by decide)
    refine⟨_,rfl,a,rfl,⟨_,SqL.of ha⟩,?_⟩;refine zO (xs:=ws.map V.int) (fun i ys H2=>H2=H'/\ys =((ws.take i).map fun w=>w.fdiv ((La.gcdL ws:Nat):Int)).map V.int) ⟨rfl,by simp⟩ ?_ ?_ ?_
    ·rintro i ys H2 hi ⟨rfl,rfl⟩
     refine⟨SqL.of ha,?_⟩;rw[wa,wa,wr];omega
    ·rintro i v ys H2 hv hi ⟨rfl,rfl⟩
     rw[we]at hv;obtain⟨u,hu,rfl⟩:=wG.mp hv
     first|refine gyes ?_|refine tyes ?_
     refine⟨_,rfl,_,rfl,_,_,rfl,rfl,e1,nxt hi ⟨rfl,?_⟩⟩;rw[zy hu,wu,wu];rfl
    ·rintro ys H2 ⟨rfl,rfl⟩ p hp
     rw[wa,vK];refine q p _ (zg hp _) ?_;rw[La.zco (by omega)];exact zf
def XD:Sp:=fun vs H Q _=>∃(k:Int)(row lead:List Int)(c:Nat)(ra la:Addr)(b:Nat),vs=[.int k,.ref ra,.ref la,.int (0 +(c:Int))]/\kaa k/\IRow H row ra/\IRow H lead la/\row.length=lead.length/\c<row.length/\row.length<sizeLine/\(∀ w∈row,Sm b w)/\(∀ w∈lead,Sm b w)/\b<=60000000 /\
 ∀ p H',Same H H'->IRow H' (La.kaf k lead c row) p->Q (.ref p) H'
theorem zbT (D:Df K mg "cleared" SB qW) (zaL:Kn P w K mg base "eased" 41 SA Jp) (m_zip:mg "zip" = none):Kn P w K mg base "cleared" 42 SB XD:=by
 refine D.kn zcr (fun vs H Q E h=>?_) (fun f cdv A outer s H vs Q E hr h=>?_)
 ·obtain⟨k,row,lead,c,ra,la,b,rfl,_⟩:=h;rfl
 obtain⟨k,row,lead,c,ra,la,b,rfl,hk,hra,hla,hl,hc,hz,s1,s2,hb,q⟩:=h;refine⟨_,(zc (yb (zu xb (zt zi (pv 1) (pv 3)) ze (kae _)) (zh (zq (pv 1))) zJ) (zh (zq (zF zaL hr (za (pv 0) (za (Zy ["left", "right"] ["lead_row", "column", "row"] [2,3,1] ⟨rfl,rfl,rfl,rfl,rfl,rfl,by decide +kernel⟩ rfl (YI rfl m_zip (za (pv 1) (za (pv 2) zd))) (Zh (yB (yx (by decide)) yA (yB (yx (by decide)) yA jP))) fun _ _ _ _ _ _=>⟨(jv 2 rfl (zT (zI (i:=0) (by decide:(["left", "right", "lead_row", "column", "row"]:List Str).Nodup) rfl (by first|exact Or.inl rfl|exact Or.inr rfl)) (zT (zI (i:=1) (by decide:(["left", "right", "lead_row", "column", "row"]:List Str).Nodup) rfl (by first|exact Or.inl rfl|exact Or.inr rfl)) xF))),zM,(zm qx (zm zS (zt zi (pv 2) (pv 3)) (pv 0)) (zm zS (zt zi (pv 4) (pv 3)) (pv 1)))⟩) zd)))))),?_⟩;refine⟨_,rfl,_,rfl,ra,_,_,_,rfl,rfl,SqL.of hra,Xo hra hc,rfl,_,rfl,?_⟩;refine ite2 (fun c1=>?_) (fun c1=>?_)
 ·have e1:row.getD c 0=0:=V.int.inj (of_decide_eq_true c1);refine⟨_,rfl,q ra _ (Same.refl _) ?_⟩;unfold La.kaf;rw[if_pos e1];exact hra
 ·have e1:row.getD c 0≠0:=fun z=>by rw[z]at c1;exact c1 (by decide)
  refine⟨_,rfl,_,rfl,_,rfl,ra,la,_,_,rfl,SqL.of hra,SqL.of hla,?_⟩;refine qI (xs:=row.map V.int) (zs:=lead.map V.int) (by rw[wa,wa];omega) (fun i ys' H'=>Same H H'/\ys' =((La.mixed row lead c).take i).map V.int) ⟨Same.refl H,by simp⟩ ?_ ?_ ?_
  ·rintro i ys' H' hi ⟨g,rfl⟩
   refine⟨SqL.of (hra.mono g),SqL.of (hla.mono g),?_⟩;rw[wa,wr,La.jM hl];omega
  ·rintro i x z T ys' H' hx hy hi hT ⟨g,rfl⟩
   rw[we]at hx hy;obtain⟨u,hu,rfl⟩:=wG.mp hx;obtain⟨u',hu',rfl⟩:=wG.mp hy;have g':=g.trans (zg hT (.tup [.int u,.int u']));refine⟨T,_,rfl,SqT.of zf,rfl,_,_,rfl,_,_,rfl,rfl,?_⟩
   first|refine gyes ?_|refine tyes ?_
   refine⟨_,rfl,_,rfl,la,_,_,_,rfl,rfl,SqL.of (hla.mono g'),Xo (hla.mono g') (by omega),_,rfl,_,_,rfl,rfl,(qC s2 c).mulOk (s1 u (wd hu)) (by omega),?_⟩;refine⟨_,rfl,_,rfl,ra,_,_,_,rfl,rfl,SqL.of (hra.mono g'),Xo (hra.mono g') (by omega),_,rfl,_,_,rfl,rfl,(qC s1 c).mulOk (s2 u' (wd hu')) (by omega),_,_,rfl,rfl,nxt hi ⟨g',?_⟩⟩;have e:(La.mixed row lead c)[i]?=some (lead.getD c 0*u - row.getD c 0*u'):=by unfold La.mixed;rw[vR,hu,hu']
   rw[zy e,wu];rfl
  ·rintro ys' H' ⟨g,rfl⟩ pl hpl
   rw[wa,wv (by rw[La.jM hl];exact ww _)];refine⟨k,_,pl,rfl,hk,zf,by rw[La.jM hl];exact hz,fun p H2 g2 hp=>?_⟩;refine q p H2 ((g.trans (zg hpl _)).trans g2) ?_;unfold La.kaf;rw[if_neg e1];exact hp
def zbO:Sp:=fun vs H Q _=>∃(k:Int)(Ws:List (List Int))(n b:Nat)(t:Addr)(ras:List Addr),vs=[.int k,.ref t]/\kaa k/\IRs H Ws t ras/\(∀ r∈Ws,r.length=n)/\n<sizeLine/\Ws.length<=8000000/\(∀ r∈Ws,∀ w∈r,Sm b w)/\61<=b/\(b+1)*2^n<=60000000 /\
 ∀ p rs H',Same H H'->IRs H' ((La.swTo k Ws n).1.map (·.2)) p rs->Q (.ref p) H'
theorem ze4 (D:Df K mg "swept" SC Jw) (zaL:Kn P w K mg base "eased" 41 SA Jp) (QQ:Kn P w K mg base "cleared" 42 SB XD) (m_len:mg "len" = none) (zH:mg "range" = none):Kn P w K mg base "swept" 43 SC zbO:=by
 refine D.kn Sk (fun vs H Q E h=>?_) (fun f cdv A outer s H vs Q E hr h=>?_)
 ·obtain⟨k,Ws,n,b,t,ras,rfl,_⟩:=h;rfl
 obtain⟨k,Ws,n,b,t,ras,rfl,hk,hI,hl,nz,wz,sz,b7,hb,q⟩:=h;have szl:=Qa
 have lras:=zj hI.2;refine⟨_,(zc (zo (i:=2) Sk.nd rfl (.inl rfl) (yq zd)) (zc (ZK 3 Sk.nd ["kind"] [0] (zw (pv 1)) fun _ _ _ _ _ _=>⟨zM,(zF zaL hr (za (pv 1) (za (pv 0) zd)))⟩) (zc (zo (i:=4) Sk.nd rfl (.inl rfl) (Jo (zu jJ (zp zx rfl m_len zU (za (pv 1) zd)) ze (kae _)) (zp zx rfl m_len zU (za (zt zi (pv 1) ze) zd)) ze)) (zc (yt PassesOwn.never rfl (zR rfl zH (za (pv 4) zd)) (zI (i:=5) Sk.nd rfl (.inr rfl)) (zc (ZK 6 Sk.nd ["column"] [5] (zw (pv 3)) fun _ _ _ _ _ _=>⟨(JS (zu ZO (zt zi (pv 0) (pv 1)) ze (kae _))),(pv 0)⟩) (zh (yb (zu jJ (zp zx rfl m_len zU (za (pv 6) zd)) ze (kae _)) (zc (zo (i:=7) Sk.nd rfl (.inr rfl) (zt zi (pv 6) ze)) (zc (ZK 3 Sk.nd ["column"] [5] (zw (pv 3)) fun _ _ _ _ _ _=>⟨(JS (zu xb (zt zi (pv 0) (pv 1)) ze (kae _))),(pv 0)⟩) (zc (yS (bm0 (fun _ h=>qX PySem.F.plainAttrs_list PySem.F.slot_list_extend PySem.F.type_list_extend zas h (za (yM ["kind", "lead_row", "column"] [0,7,5] (zw (xv ZV (pv 6) (xY ze) jO)) fun _ _ _ _ _ _=>⟨zM,(zF QQ hr (za (pv 1) (za (pv 0) (za (pv 2) (za (pv 3) zd)))))⟩) zd)) (pv 3))) (zc (ZK 2 Sk.nd ["kind", "lead_row", "column"] [0,7,5] (zw (pv 2)) fun _ _ _ _ _ _=>⟨zM,(zF QQ hr (za (pv 1) (za (pv 0) (za (pv 2) (za (pv 3) zd)))))⟩) (zh (yS (bm0 (fun _ h=>qX PySem.F.plainAttrs_list PySem.F.slot_list_append PySem.F.type_list_append yF h (za (pv 7) zd)) (pv 2)))))))) zJ)))) (zh (zq (pv 2))))))),?_⟩;refine⟨(by show 0<=sizeLine;decide),fun pd hpd=>?_⟩;have g0:=zg hpd (.lst []);have hpd0:upd H pd (.lst []) pd=some (.lst []):=zf;generalize upd H pd (.lst [])=H0 at *;refine⟨_,rfl,t,rfl,⟨_,SqL.of (g0 _ _ hI.1)⟩,?_⟩;refine zO (xs:=ras.map V.ref) (fun i ys H'=>∃ rs,ys=rs.map V.ref/\Same H0 H'/\Paired (IRow H') ((Ws.map (La.kaj k)).take i) rs) ⟨[],rfl,Same.refl _,.nil⟩ ?_ ?_ ?_
 ·rintro i ys H' hi ⟨rs,rfl,g,pr⟩
  refine⟨SqL.of (g _ _ (g0 _ _ hI.1)),?_⟩;have:=zj pr;rw[wr,wa]at this;rw[wa];omega
 ·rintro i v ys H' hv hi ⟨rs,rfl,g,pr⟩
  obtain⟨ws,a,hw,ha,rfl,hrow⟩:=(hI.mono (g0.trans g)).row hv
  first|refine gyes ?_|refine tyes ?_
  refine⟨_,rfl,_,rfl,k,ws,a,rfl,hk,hrow,by rw[hl ws (wd hw)];exact nz,fun p H2 g2 hp=>nxt hi ⟨rs++[p],by rw[wu];rfl,g.trans g2,?_⟩⟩;have e:(Ws.map (La.kaj k))[i]?=some (La.kaj k ws):=by rw[we,hw];rfl
  rw[zy e];exact zZ (qu g2 pr) hp
 rintro ys H' ⟨rs,rfl,g,pr⟩ pw hpw
 rw[wa,wv (by rw[wa];omega)]at pr;have g1:=(g0.trans g).trans (zg hpw (.lst (rs.map V.ref)));have hpw1:upd H' pw (.lst (rs.map V.ref)) pw=some (.lst (rs.map V.ref)):=zf;have pr1:=qu (zg hpw (.lst (rs.map V.ref))) pr;have hpd1:=zg hpw (.lst (rs.map V.ref)) _ _ (g _ _ hpd0);generalize upd H' pw (.lst (rs.map V.ref))=H1 at *;clear g pr hpw g0 hpd0;refine⟨_,rfl,t,_,rfl,.inl (SqL.of (g1 _ _ hI.1)),_,_,rfl,rfl,_,rfl,?_⟩;rw[wa,← lras];refine ite2 (fun c=>?_) (fun c=>?_)
 ·have c':0 <(Ws.length:Int):=of_decide_eq_true c;obtain⟨r0,ras',e0⟩ : ∃ r0 ras',ras=r0::ras':=by
   cases ras with
   | nil=>rw[Gz]at lras;omega
   | cons a b=>exact⟨a,b,rfl⟩
  obtain⟨w0,hw0,hr0⟩:=zW (hI.mono g1).2 (i:=0) (b:=r0) (by rw[e0];rfl);have lw0:=hl w0 (wd hw0);refine⟨_,rfl,t,_,_,_,rfl,rfl,SqL.of (g1 _ _ hI.1),(by rw[e0];exact zD (j:=0) rfl),r0,_,rfl,.inl (SqL.of hr0),?_⟩;rw[wa,lw0];refine⟨_,rfl,_,rfl,(by omega),(by omega),?_⟩;rw[wR];have fine:=La.Fine.to (k:=k) hk.lt.1 hl;have szs:=zgV hk b7 hl sz;have lens:=La.Yl (k:=k) Ws;refine yp (lo:=0) (n:=n) (fun i σ H'=>∃ td tw rd rw o5 o6 o7,σ=[some (.int k),some (.ref t),some (.ref td),some (.ref tw),some (.int (n:Int)),o5,o6,o7]/\Same H H'/\IRs H' ((La.swTo k Ws i).1.map (·.2)) td rd/\IRs H' (La.swTo k Ws i).2 tw rw) ⟨pd,pw,[],rs,none,none,none,rfl,g1,⟨hpd1,.nil⟩,⟨hpw1,pr1⟩⟩ ?_ ?_
  ·rintro i σ H2 hi ⟨td,tw,rd,rw',o5,o6,o7,rfl,g2,hD,hW⟩
   have fi:=fine i;have si:=szs i;have li:=lens i;have e1:La.swTo k Ws (i+1)=La.kal k i (La.swTo k Ws i):=rfl;rw[e1];generalize La.swTo k Ws i=S at *;obtain⟨Dn,Wt⟩:=S;have bnd:(b+1)*2^i - 1<=60000000:=by
    have:2^i<=2^n:=vg (by decide) (by omega);have:(b+1)*2^i<=(b+1)*2^n:=vp _ this;omega
   generalize (b+1)*2^i - 1=bb at *
   dsimp only at hD hW li
   have lD:=zj hD.2;have lW:=zj hW.2;rw[wa]at lD;have wlen:∀ ws∈Wt,ws.length=n:=fi.wl;have dlen:∀ ws∈Dn.map (·.2),ws.length=n:=fun ws hw=>by
    obtain⟨p,hp,rfl⟩:=wg.mp hw;exact fi.dl p hp
   have nn:∀ ws:List Int,ws.length=n->ws≠[]:=fun ws h e=>by rw[e]at h;simp at h;omega
   refine⟨_,rfl,tw,rfl,⟨_,SqL.of hW.1⟩,?_⟩;refine zO (xs:=rw'.map V.ref) (fun j ys H3=>H3=H2/\∃ rl,ys=rl.map V.ref/\Paired (IRow H2) ((Wt.take j).filter fun r=>decide (r.getD i 0≠0)) rl) ⟨rfl,[],rfl,.nil⟩ ?_ ?_ ?_
   ·rintro j ys H3 hj ⟨rfl,rl,rfl,prl⟩
    refine⟨SqL.of hW.1,?_⟩;have:=zj prl;have h2:=vY (fun r:List Int=>decide (r.getD i 0≠0)) (Wt.take j);rw[wr]at h2;rw[wa];omega
   ·rintro j v ys H3 hv hj ⟨rfl,rl,rfl,prl⟩
    obtain⟨ws,a,hw,ha,rfl,hrow⟩:=hW.row hv;have lw:=wlen ws (wd hw);refine⟨_,rfl,_,rfl,a,_,_,_,rfl,rfl,SqL.of hrow,Xo hrow (by omega),rfl,_,rfl,?_⟩;refine ite2 (fun c1=>?_) (fun c1=>?_)
    ·have z:ws.getD i 0≠0:=fun z=>by rw[z]at c1;exact absurd c1 (by decide)
     refine⟨_,rfl,nxt hj ⟨rfl,rl++[a],by rw[wu];rfl,?_⟩⟩;rw[La.xc _ hw,if_pos (decide_eq_true z)];exact zZ prl hrow
    ·have z:ws.getD i 0=0:=by
      by_cases z:ws.getD i 0=0
      ·exact z
      ·exact absurd (by have h':¬ V.int (ws.getD i 0)=V.int 0:=fun e=>z (V.int.inj e);rw[decide_eq_false h'];rfl) c1
     refine nxt hj ⟨rfl,rl,rfl,?_⟩;rw[La.xc _ hw,if_neg (show ¬ decide (ws.getD i 0≠0)=true from fun h=>of_decide_eq_true h z),ue];exact prl
   rintro ys H3 ⟨rfl,rl,rfl,prl⟩ pl hpl
   rw[wa,wv (by omega)]at prl;have g3:=zg hpl (.lst (rl.map V.ref));have hpl3:upd H3 pl (.lst (rl.map V.ref)) pl=some (.lst (rl.map V.ref)):=zf;have prl3:=qu g3 prl;have hD3:=hD.mono g3;have hW3:=hW.mono g3;have g23:=g2.trans g3;generalize upd H3 pl (.lst (rl.map V.ref))=H4 at *;clear prl hpl hD hW;have lrl:=zj prl3;refine⟨_,rfl,pl,_,rfl,.inl (SqL.of hpl3),_,_,rfl,rfl,_,rfl,?_⟩;rw[wa,← lrl];refine ite2 (fun c1=>?_) (fun c1=>?_)
   ·have c2:0 <((Wt.filter fun r=>decide (r.getD i 0≠0)).length:Int):=of_decide_eq_true c1;cases ef:Wt.filter (fun r=>decide (r.getD i 0≠0))with
    | nil=>rw[ef]at c2;simp at c2
    | cons lead rest =>
     rw[ef]at prl3 lrl;have turn:La.kal k i (Dn,Wt) =(Dn.map (fun p=>(p.1,La.kaf k lead i p.2))++[(i,lead)],Wt.filter (fun r=>decide (r.getD i 0=0))++rest.map (La.kaf k lead i)):=by
      unfold La.kal;simp only[ef]
     rw[turn];obtain⟨ld,rl',rfl⟩ : ∃ ld rl',rl=ld::rl':=by
      cases rl with
      | nil=>simp at lrl
      | cons a b=>exact⟨a,b,rfl⟩
     obtain⟨hld,prest⟩ : IRow H4 lead ld/\Paired (IRow H4) rest rl':=by
      cases prl3 with
      | cons h t=>exact⟨h,t⟩
     have memW:∀ r∈lead::rest,r∈Wt:=fun r hr=>by rw[← ef]at hr;exact(vn.mp hr).1
     have hlead:=memW lead wk;have llead:=wlen lead hlead;have slead:=si.2 lead hlead;have lf:=vY (fun r:List Int=>decide (r.getD i 0≠0)) Wt;rw[ef,vy]at lf;refine⟨_,rfl,pl,_,_,_,rfl,rfl,SqL.of hpl3,zD (j:=0) rfl,?_⟩;refine⟨_,rfl,tw,rfl,⟨_,SqL.of hW3.1⟩,?_⟩;refine zO (xs:=rw'.map V.ref) (fun j ys H5=>H5=H4/\∃ rz,ys=rz.map V.ref/\Paired (IRow H4) ((Wt.take j).filter fun r=>decide (r.getD i 0=0)) rz) ⟨rfl,[],rfl,.nil⟩ ?_ ?_ ?_
     ·rintro j ys H5 hj ⟨rfl,rz,rfl,prz⟩
      refine⟨SqL.of hW3.1,?_⟩;have:=zj prz;have h2:=vY (fun r:List Int=>decide (r.getD i 0=0)) (Wt.take j);rw[wr]at h2;rw[wa];omega
     ·rintro j v ys H5 hv hj ⟨rfl,rz,rfl,prz⟩
      obtain⟨ws,a,hw,ha,rfl,hrow⟩:=hW3.row hv;have lw:=wlen ws (wd hw);refine⟨_,rfl,_,rfl,a,_,_,_,rfl,rfl,SqL.of hrow,Xo hrow (by omega),rfl,_,rfl,?_⟩;refine ite2 (fun c1=>?_) (fun c1=>?_)
      ·have z:ws.getD i 0=0:=V.int.inj (of_decide_eq_true c1);refine⟨_,rfl,nxt hj ⟨rfl,rz++[a],by rw[wu];rfl,?_⟩⟩;rw[La.xc _ hw,if_pos (decide_eq_true z)];exact zZ prz hrow
      ·have z:ws.getD i 0≠0:=fun z=>by rw[z]at c1;exact c1 (by decide)
       refine nxt hj ⟨rfl,rz,rfl,?_⟩;rw[La.xc _ hw,if_neg (show ¬ decide (ws.getD i 0=0)=true from fun h=>z (of_decide_eq_true h)),ue];exact prz
     rintro ys H5 ⟨rfl,rz,rfl,prz⟩ pz hpz
     rw[wa,wv (by omega)]at prz;have g5:=zg hpz (.lst (rz.map V.ref));have hpz5:upd H5 pz (.lst (rz.map V.ref)) pz=some (.lst (rz.map V.ref)):=zf;have pzH:H pz=none:=g23.none hpz;have ntd:td≠pz:=fun e=>by rw[← e,hD3.1]at hpz;cases hpz
     have prz5:=qu g5 prz;have prest5:=qu g5 prest;have hld5:=hld.mono g5;have hD5:=hD3.mono g5;have hpl5:=g5 _ _ hpl3;have g25:=g23.trans g5;generalize upd H5 pz (.lst (rz.map V.ref))=H6 at *;clear prz hpz prest hld hD3 hpl3 g23 hW3 prl3 g3 g5 c1;have lrz:=zj prz5;have lfz:=vY (fun r:List Int=>decide (r.getD i 0=0)) Wt;have zlen:∀ ws∈Wt.filter (fun r=>decide (r.getD i 0=0)),ws.length=n:=fun ws hw=>wlen ws (vn.mp hw).1
     have lrest:=zj prest5;refine⟨_,rfl,.inl ⟨rfl,_,SqL.of hpz5⟩,_,rfl,_,rfl,pl,_,rfl,SqL.of hpl5,fun pc hpc=>?_⟩;rw[cut1];have g7:=zg hpc (.lst (((ld::rl').map V.ref).drop 1));have hpc7:upd H6 pc (.lst (((ld::rl').map V.ref).drop 1)) pc=some (.lst (rl'.map V.ref)):=zf;generalize upd H6 pc (.lst (((ld::rl').map V.ref).drop 1))=H7 at *;refine⟨pc,rfl,⟨_,SqL.of hpc7⟩,?_⟩;refine zO (xs:=rl'.map V.ref) (fun j ys H8=>∃ rc,ys=rc.map V.ref/\Same H7 H8/\Paired (IRow H8) ((rest.map (La.kaf k lead i)).take j) rc) ⟨[],rfl,Same.refl _,.nil⟩ ?_ ?_ ?_
     ·rintro j ys H8 hj ⟨rc,rfl,g8,prc⟩
      refine⟨SqL.of (g8 _ _ hpc7),?_⟩;have:=zj prc;rw[wr,wa]at this;rw[wa];omega
     ·rintro j v ys H8 hv hj ⟨rc,rfl,g8,prc⟩
      rw[we]at hv;obtain⟨a,ha,rfl⟩:=wG.mp hv;obtain⟨ws,hw,hrow⟩:=zW prest5 ha;have hm:=memW ws (wo _ (wd hw));have lw:=wlen ws hm
      first|refine gyes ?_|refine tyes ?_
      refine⟨_,rfl,_,rfl,_,rfl,_,rfl,k,ws,lead,i,a,ld,bb,rfl,hk,hrow.mono (g7.trans g8),hld5.mono (g7.trans g8),by omega,by omega,by omega,si.2 ws hm,slead,bnd,fun p H9 g9 hp=>nxt hj ⟨rc++[p],by rw[wu];rfl,g8.trans g9,?_⟩⟩;have e:(rest.map (La.kaf k lead i))[j]?=some (La.kaf k lead i ws):=by rw[we,hw];rfl
      rw[zy e];exact zZ (qu g9 prc) hp
     rintro ys H8 ⟨rc,rfl,g8,prc⟩ pe hpe
     rw[wa,wv (by rw[wa];omega)]at prc;have lrc:=zj prc;rw[wa]at lrc;have g9:=(g7.trans g8).trans (zg hpe (.lst (rc.map V.ref)));have hpe9:upd H8 pe (.lst (rc.map V.ref)) pe=some (.lst (rc.map V.ref)):=zf;have prc9:=qu (zg hpe (.lst (rc.map V.ref))) prc;generalize upd H8 pe (.lst (rc.map V.ref))=H9 at *;clear prc hpe g8 hpc7 hpc g7;have clen:∀ ws∈rest.map (La.kaf k lead i),ws.length=n:=fun ws hw=>by
      obtain⟨x,hx,rfl⟩:=wg.mp hw;have hm:=wlen x (memW x (wo _ hx));rw[La.xL (by omega)];exact hm
     refine⟨pz,pe,_,_,rfl,rfl,g9 _ _ hpz5,hpe9,(by rw[wa,wa];omega),?_⟩;have hpz9:=g9 _ _ hpz5;have prz10:=jd (o:=.lst (rz.map V.ref++rc.map V.ref)) hpz9 (qu g9 prz5) fun ws hw=>nn ws (zlen ws hw)
     have prc10:=jd (o:=.lst (rz.map V.ref++rc.map V.ref)) hpz9 prc9 fun ws hw=>nn ws (clen ws hw)
     have hld10:IRow (upd H9 pz (.lst (rz.map V.ref++rc.map V.ref))) lead ld:=by
      show upd H9 pz _ ld=_;rw[zN ((hld5.mono g9).ne (nn lead llead) hpz9)];exact hld5.mono g9
     have hW10:upd H9 pz (.lst (rz.map V.ref++rc.map V.ref)) pz=some (.lst ((rz++rc).map V.ref)):=by rw[zf,wu]
     have hD10:IRs (upd H9 pz (.lst (rz.map V.ref++rc.map V.ref))) (Dn.map (·.2)) td rd:=⟨by rw[zN ntd];exact g9 _ _ hD5.1,jd hpz9 (qu g9 hD5.2) fun ws hw=>nn ws (dlen ws hw)⟩;have g10:Same H (upd H9 pz (.lst (rz.map V.ref++rc.map V.ref))):=yJ (g25.trans g9) pzH;generalize upd H9 pz (.lst (rz.map V.ref++rc.map V.ref))=H10 at *;clear hpz9 hD5 hld5 prz5 prc9 hpe9 prest5 hpl5;refine⟨_,rfl,td,rfl,⟨_,SqL.of hD10.1⟩,?_⟩;refine zO (xs:=rd.map V.ref) (fun j ys H11=>∃ rn,ys=rn.map V.ref/\Same H10 H11/\Paired (IRow H11) ((Dn.map fun p=>La.kaf k lead i p.2).take j) rn) ⟨[],rfl,Same.refl _,.nil⟩ ?_ ?_ ?_
     ·rintro j ys H11 hj ⟨rn,rfl,g11,prn⟩
      refine⟨SqL.of (g11 _ _ hD10.1),?_⟩;have:=zj prn;rw[wr,wa]at this;rw[wa];omega
     ·rintro j v ys H11 hv hj ⟨rn,rfl,g11,prn⟩
      obtain⟨ws,a,hw,ha,rfl,hrow⟩:=(hD10.mono g11).row hv;rw[we]at hw;obtain⟨p0,hp0,rfl⟩:=wG.mp hw;have hm:=wd hp0;have lw:=fi.dl p0 hm
      first|refine gyes ?_|refine tyes ?_
      refine⟨_,rfl,_,rfl,_,rfl,_,rfl,k,p0.2,lead,i,a,ld,bb,rfl,hk,hrow,hld10.mono g11,by omega,by omega,by omega,si.1 p0 hm,slead,bnd,fun p H12 g12 hp=>nxt hj ⟨rn++[p],by rw[wu];rfl,g11.trans g12,?_⟩⟩;have e:(Dn.map fun p=>La.kaf k lead i p.2)[j]?=some (La.kaf k lead i p0.2):=by rw[we,hp0];rfl
      rw[zy e];exact zZ (qu g12 prn) hp
     rintro ys H11 ⟨rn,rfl,g11,prn⟩ pn hpn
     rw[wa,wv (by rw[wa];omega)]at prn;have lrn:=zj prn;rw[wa]at lrn;have nlen:∀ ws∈Dn.map (fun p=>La.kaf k lead i p.2),ws.length=n:=fun ws hw=>by
      obtain⟨x,hx,rfl⟩:=wg.mp hw;have hm:=fi.dl x hx;rw[La.xL (by omega)];exact hm
     have npz:pz≠pn:=fun e=>by rw[← e,g11 _ _ hW10]at hpn;cases hpn
     have pnH:H pn=none:=(g10.trans g11).none hpn;have g12:=zg hpn (.lst (rn.map V.ref));have hpn12:upd H11 pn (.lst (rn.map V.ref)) pn=some (.lst (rn.map V.ref)):=zf;have prn12:=qu g12 prn;have prz12:=qu (g11.trans g12) prz10;have prc12:=qu (g11.trans g12) prc10;have hld12:=hld10.mono (g11.trans g12);have hW12:=(g11.trans g12) _ _ hW10;have gh12:=(g10.trans g11).trans g12;generalize upd H11 pn (.lst (rn.map V.ref))=H12 at *;refine⟨_,rfl,.inl ⟨rfl,_,SqL.of hpn12⟩,_,rfl,pn,_,_,rfl,rfl,hpn12,(by rw[wa];omega),?_⟩;refine⟨pn,pz,rn++[ld],rz++rc,_,_,_,rfl,yJ gh12 pnH,⟨?_,?_⟩,⟨?_,?_⟩⟩
     ·rw[zf,wu];rfl
     ·have e:(Dn.map (fun p=>(p.1,La.kaf k lead i p.2))++[(i,lead)]).map (·.2) =(Dn.map fun p=>La.kaf k lead i p.2)++[lead]:=by
       rw[wu,vO];rfl
      rw[e];refine zZ (jd hpn12 prn12 fun ws hw=>nn ws (nlen ws hw)) ?_;show upd H12 pn _ ld=_;rw[zN (hld12.ne (nn lead llead) hpn12)];exact hld12
     ·rw[zN npz];exact hW12
     ·exact XL (jd hpn12 prz12 fun ws hw=>nn ws (zlen ws hw)) (jd hpn12 prc12 fun ws hw=>nn ws (clen ws hw))
   ·have c2:¬ 0 <((Wt.filter fun r=>decide (r.getD i 0≠0)).length:Int):=of_decide_eq_false (ul.mpr c1);have ef:Wt.filter (fun r=>decide (r.getD i 0≠0))=[]:=vJ (by omega);have turn:La.kal k i (Dn,Wt) =(Dn,Wt):=by
     unfold La.kal;simp only[ef]
    rw[turn];exact⟨td,tw,rd,rw',_,_,_,rfl,g23,hD3,hW3⟩
  ·rintro σ H2 ⟨td,tw,rd,rw',o5,o6,o7,rfl,g2,hD,hW⟩
   exact⟨_,rfl,q td rd H2 g2 hD⟩
 ·have c':¬ 0 <(Ws.length:Int):=of_decide_eq_false (ul.mpr c);have ew:Ws=[]:=vJ (by omega);refine⟨_,rfl,_,rfl,(by decide),(by decide),?_⟩;refine yp (lo:=0) (n:=(0:Int).toNat) (fun i σ H'=>∃ o5 o6 o7,σ=[some (.int k),some (.ref t),some (.ref pd),some (.ref pw),some (.int 0),o5,o6,o7]/\H'=H1) ⟨none,none,none,rfl,rfl⟩ ?_ ?_
  ·intro i σ H2 hi;exact absurd hi (vx i)
  ·rintro σ H2 ⟨o5,o6,o7,rfl,rfl⟩
   refine⟨_,rfl,q pd [] _ g1 ?_⟩;rw[ew,La.zbm];exact⟨hpd1,.nil⟩
def ZI:Sp:=fun vs H Q _=>∃(k:Int)(p:Nat)(ws:List Int)(a:Addr),vs=[.int k,.ref a]/\kaa k/\IRow H ws a/\p<ws.length/\ws.getD p 0≠0/\(∀ j,j<p->ws.getD j 0=0)/\nnum k (ws.getD p 0)≠nnum k 0/\(∀ w∈ws,Sm 60000000 w)/\ws.length<sizeLine /\
 ∀ vs' a' H',Same H H'->H' a'=none->Paired (RN H') (La.overL k (p,ws)) vs'->Q (.ref a') (upd H' a' (.lst vs'))
theorem zai (D:Df K mg "over_lead" SA jr) (ZA:Kn P w K mg base "quotient" 43 Sz zaU):Kn P w K mg base "over_lead" 44 SA ZI:=by
 refine D.kn Sa (fun vs H Q E h=>?_) (fun f cdv A outer s H vs Q E hr h=>?_)
 ·obtain⟨k,p,ws,a,rfl,_⟩:=h;rfl
 obtain⟨k,p,ws,a,rfl,hk,ha,hp,hn,hz,ne,sz,hl,q⟩:=h;refine⟨_,(zc (zo (i:=2) Sa.nd rfl (.inr rfl) (zt zi (yM [] [] (zw (pv 1)) fun _ _ _ _ _ _=>⟨(JS (zu ZO (pv 0) ze (kae _))),(pv 0)⟩) ze)) (zh (zq (yM ["kind", "lead"] [0,2] (zw (pv 1)) fun _ _ _ _ _ _=>⟨zM,(zF ZA hr (za (pv 1) (za (pv 0) (za (pv 2) zd))))⟩)))),?_⟩;refine⟨_,rfl,a,rfl,⟨_,SqL.of ha⟩,?_⟩;refine zO (xs:=ws.map V.int) (fun i ys H'=>H'=H/\ys =((ws.take i).filter fun w=>decide (w≠0)).map V.int) ⟨rfl,by simp⟩ ?_ ?_ ?_
 ·rintro i ys H' hi ⟨rfl,rfl⟩
  refine⟨SqL.of ha,?_⟩;have h2:=vY (fun w:Int=>decide (w≠0)) (ws.take i);rw[wr]at h2;rw[wa];omega
 ·rintro i v ys H' hv hi ⟨rfl,rfl⟩
  rw[we]at hv;obtain⟨u,hu,rfl⟩:=wG.mp hv;refine⟨_,rfl,rfl,_,rfl,?_⟩;refine ite2 (fun c1=>?_) (fun c1=>?_)
  ·have z:u≠0:=fun z=>by rw[z]at c1;exact absurd c1 (by decide)
   refine⟨_,rfl,nxt hi ⟨rfl,?_⟩⟩;rw[La.xc _ hu,if_pos (decide_eq_true z),wu];rfl
  ·have z:u=0:=by
    by_cases z:u=0
    ·exact z
    ·exact absurd (by have h':¬ V.int u=V.int 0:=fun e=>z (V.int.inj e);rw[decide_eq_false h'];rfl) c1
   refine nxt hi ⟨rfl,?_⟩;rw[La.xc _ hu,if_neg (show ¬ decide (u≠0)=true from fun h=>of_decide_eq_true h z),ue]
 rintro ys H' ⟨rfl,rfl⟩ pf hpf
 rw[wa,vK];have g1:=zg hpf (.lst ((ws.filter fun w=>decide (w≠0)).map V.int));refine⟨pf,_,_,_,rfl,rfl,SqL.of zf,zD (j:=0) (by rw[we,La.ze5 hp hz hn];rfl),?_⟩;have ha1:=ha.mono g1;generalize upd H' pf (.lst ((ws.filter fun w=>decide (w≠0)).map V.int))=H1 at *;refine⟨_,rfl,a,rfl,⟨_,SqL.of ha1⟩,?_⟩;refine zO (xs:=ws.map V.int) (fun i ys H2=>Same H1 H2/\Paired (RN H2) ((La.overL k (p,ws)).take i) ys) ⟨Same.refl _,.nil⟩ ?_ ?_ ?_
 ·rintro i ys H2 hi ⟨g2,pr⟩
  refine⟨SqL.of (ha1.mono g2),?_⟩;have:=zj pr;unfold La.overL at this;rw[wr,wa]at this;rw[wa]at hi;show ys.length<sizeLine;have e:(p,ws).2=ws:=rfl;rw[e]at this;omega
 ·rintro i v ys H2 hv hi ⟨g2,pr⟩
  rw[we]at hv;obtain⟨u,hu,rfl⟩:=wG.mp hv
  first|refine gyes ?_|refine tyes ?_
  refine⟨_,rfl,_,rfl,_,rfl,k,u,ws.getD p 0,rfl,hk,ne,sz u (wd hu),qC sz p,fun v3 H3 g3 r3=>nxt hi ⟨g2.trans g3,?_⟩⟩;have e:(La.overL k (p,ws))[i]?=some (ndiv k (nnum k u) (nnum k (ws.getD p 0))):=by unfold La.overL;rw[we];show Option.map _ ws[i]?=_;rw[hu];rfl
  rw[zy e];exact zZ (jj g3 pr) r3
 ·rintro ys H2 ⟨g2,pr⟩ a' ha'
  rw[wa,wv (by unfold La.overL;rw[wa];exact ww _)]at pr;exact q ys a' H2 (g1.trans g2) ha' pr
def XW:Sp:=fun vs H Q _=>∃(k:Int)(M:Tb)(n B:Nat)(t:Addr)(ras:List Addr),vs=[.int k,.ref t]/\kaa k/\kag H M t ras/\La.OkM k n M/\La.rowsB B M/\61<=B/\(B+1)*2^n<=60000000/\n<sizeLine/\M.length<=8000000 /\
 ∀ R ls top rs H',Same H H'->NewT H H' R top rs->(∀(F:Type) [Lean.Grind.Field F] (φ:La.Kf k F),La.RedOf φ n M R ls)->R.length<=M.length->Q (.ref top) H'
theorem zcw (D:Df K mg "reduced" SC qU) (ZS:Kn P w K mg base "scaled" 41 Sy YD) (zgH:Kn P w K mg base "swept" 43 SC zbO) (zaV:Kn P w K mg base "over_lead" 44 SA ZI):Kn P w K mg base "reduced" 45 SC XW:=by
 refine D.kn Sf (fun vs H Q E h=>?_) (fun f cdv A outer s H vs Q E hr h=>?_)
 ·obtain⟨k,M,n,B,t,ras,rfl,_⟩:=h;rfl
 obtain⟨k,M,n,B,t,ras,rfl,hk,hT,oM,sM,b2,hb,nz,mz,q⟩:=h;have lras:=zj hT.2;have szl:=Qa
 have b1:B<=60000000/\(B+1)*2^n - 1<=60000000:=by
  have h1:1<=2^n:=gY;have h2:(B+1)*1<=(B+1)*2^n:=vp _ h1;omega
 refine⟨_,(zc (ZK 2 Sf.nd ["kind"] [0] (zw (pv 1)) fun _ _ _ _ _ _=>⟨zM,(zt zE (zF ZS hr (za (pv 1) (za (pv 0) zd))) ze)⟩) (zh (zq (yM ["kind"] [0] (zw (zF zgH hr (za (pv 0) (za (pv 2) zd)))) fun _ _ _ _ _ _=>⟨zM,(zF zaV hr (za (pv 1) (za (pv 0) zd)))⟩)))),?_⟩;refine⟨_,rfl,t,rfl,⟨_,SqL.of hT.1⟩,?_⟩;refine zO (xs:=ras.map V.ref) (fun i ys H'=>∃ Ws rl,ys=rl.map V.ref/\Same H H'/\Paired (IRow H') Ws rl/\Paired (fun xs ws=>(∃ b,La.Scl k xs ws b)/\∀ w∈ws,Sm (B) w) (M.take i) Ws) ⟨[],[],rfl,Same.refl _,.nil,.nil⟩ ?_ ?_ ?_
 ·rintro i ys H' hi ⟨Ws,rl,rfl,g,pr,ps⟩
  refine⟨SqL.of (g _ _ hT.1),?_⟩;have h1:=zj pr;have h2:=zj ps;rw[wr]at h2;rw[wa];omega
 ·rintro i v ys H' hv hi ⟨Ws,rl,rfl,g,pr,ps⟩
  obtain⟨xs,a,hx,ha,rfl,hrow⟩:=(hT.mono g).row hv;obtain⟨lx,ox⟩:=oM xs (wd hx)
  first|refine gyes ?_|refine tyes ?_
  refine⟨_,rfl,_,rfl,k,xs,a,B,rfl,hk,hrow,ox,sM xs (wd hx),b2,b1.1,by omega,fun p H2 g2 sc=>?_⟩;obtain⟨l,ws,b,hp,hl,sc,sb,sw⟩:=sc;refine⟨p,_,_,_,rfl,rfl,SqT.of hp,rfl,nxt hi ⟨Ws++[ws],rl++[l],by rw[wu];rfl,g.trans g2,zZ (qu g2 pr) hl,?_⟩⟩;rw[zy hx];exact zZ ps ⟨⟨b,sc⟩,sw⟩
 rintro ys H' ⟨Ws,rl,rfl,g,pr,ps⟩ pw hpw
 rw[wa,wv (by omega)]at ps;have lps:=zj ps;have g1:=g.trans (zg hpw (.lst (rl.map V.ref)));have hpw1:upd H' pw (.lst (rl.map V.ref)) pw=some (.lst (rl.map V.ref)):=zf;have pr1:=qu (zg hpw (.lst (rl.map V.ref))) pr;generalize upd H' pw (.lst (rl.map V.ref))=H1 at *;have wl:∀ r∈Ws,r.length=n:=fun r hr=>by
  obtain⟨xs,hx,⟨b,sc⟩,_⟩:=qw ps hr;rw[sc.len,(oM xs hx).1]
 have ws':∀ r∈Ws,∀ w∈r,Sm (B) w:=fun r hr=>by
  obtain⟨xs,hx,_,h⟩:=qw ps hr;exact h
 refine⟨_,rfl,_,rfl,k,Ws,n,B,pw,rl,rfl,hk,⟨hpw1,pr1⟩,wl,nz,by omega,ws',b2,hb,fun pp rs H2 g2 hI=>?_⟩;refine⟨pp,rfl,⟨_,SqL.of hI.1⟩,?_⟩;have red:∀(F:Type) [Lean.Grind.Field F] (φ:La.Kf k F),La.RedOf φ n M (La.redM k n Ws) (La.leadsM k n Ws):=fun F _ φ=>La.Je φ hk oM lps.symm fun i r ws h1 h2=>(jL ps h1 h2).1
 have fine:=La.Fine.to (k:=k) hk.lt.1 wl n;have szs:=zgV hk b2 wl ws' n;have lens:=La.Yl (k:=k) Ws n;obtain⟨F0,i0,d0,⟨φ0⟩⟩:=La.yQ hk;have lead:∀ p∈(La.swTo k Ws n).1,p.1<n/\p.2.length=n/\p.2.getD p.1 0≠0/\(∀ j,j<p.1->p.2.getD j 0=0)/\nnum k (p.2.getD p.1 0)≠nnum k 0:=fun p hp=>by
  obtain⟨h1,h2,h3,h4⟩:=La.qj φ0 hk.lt.1 wl hp;refine⟨h1,h2,h3,h4,La.Jn φ0 fun z=>h3 ?_⟩;exact(La.Yn φ0 (fine.df p hp) p.1).mp z
 generalize hS:(La.swTo k Ws n).1=Dn at *;have lrs:=zj hI.2;rw[wa]at lrs;have eR:La.redM k n Ws=Dn.map (La.overL k):=by unfold La.redM;rw[hS]
 refine zO (xs:=rs.map V.ref) (fun i ys H3=>∃ ras2,ys=ras2.map V.ref/\Grow H2 H3 ((La.redM k n Ws).take i) ras2) ⟨[],rfl,Grow.nil H2 (Same.refl H2)⟩ ?_ ?_ ?_
 ·rintro i ys H3 hi ⟨ras2,rfl,G⟩
  refine⟨SqL.of (G.same _ _ hI.1),?_⟩;have:=zj G.rows;rw[wr,eR,wa]at this;rw[wa];omega
 ·rintro i v ys H3 hv hi ⟨ras2,rfl,G⟩
  obtain⟨ws,a,hw,ha,rfl,hrow⟩:=(hI.mono G.same).row hv;rw[we]at hw;obtain⟨p,hp,rfl⟩:=wG.mp hw;have hm:=wd hp;obtain⟨l1,l2,l3,l4,l5⟩:=lead p hm
  first|refine gyes ?_|refine tyes ?_
  refine⟨_,rfl,_,rfl,k,p.1,p.2,a,rfl,hk,hrow,by omega,l3,l4,l5,fun w hw=>(szs.1 p (by rw[hS];exact hm) w hw).mono (by omega),by omega,fun vs' a' H4 g4 ha' pr4=>nxt hi ⟨ras2++[a'],by rw[wu];rfl,?_⟩⟩;have e:(La.redM k n Ws)[i]?=some (La.overL k (p.1,p.2)):=by rw[eR,we,hp];rfl
  rw[zy e];exact(G.mono g4).snoc ha' pr4
 rintro ys H3 ⟨ras2,rfl,G⟩ top ht
 rw[wa,wv (by rw[eR,wa];omega)]at G;have N:=G.done ht;refine q (La.redM k n Ws) (La.leadsM k n Ws) top ras2 _ ((g1.trans g2).trans (G.same.trans (zg ht _))) ⟨N.tab,(g1.trans g2).none N.ft,fun r hr=>(g1.trans g2).none (N.fr r hr),N.nd,N.nt⟩ red (by rw[eR,wa];omega)
def zdS:Sp:=fun vs H Q _=>∃(k:Int)(xs:List Nb)(a:Addr)(l:Nat)(x:Nb),vs=[.int k,.ref a]/\kak H xs a/\(∀ j,j<l->xs[j]?=some (nnum k 0))/\xs[l]?=some x/\x≠nnum k 0/\∀ H',Same H H'->Q (.int (l:Int)) H'
theorem zgw (D:Df K mg "lead_of" Sy qY) (xO:Kn P w K mg base "number" 1 Su jZ):Kn P w K mg base "lead_of" 2 Sy zdS:=by
 refine D.kn Sh (fun vs H Q E h=>?_) (fun f cdv A outer s H vs Q E hr h=>?_)
 ·obtain⟨k,xs,a,l,x,rfl,_⟩:=h;rfl
 obtain⟨k,xs,a,l,x,rfl,ha,hz,hl,ne,q⟩:=h;refine⟨_,(zc (zo (i:=2) Sh.nd rfl (.inl rfl) (zF xO hr (za (pv 0) (za ze zd)))) (zc (zo (i:=3) Sh.nd rfl (.inl rfl) ze) (zc (qk PassesOwn.never (zu (Ym hr) (zt zi (pv 1) (pv 3)) (pv 2) (kae _)) (zh (zhN (i:=3) Sh.nd rfl (.inl rfl) ze zhJ))) (zh (zq (pv 3)))))),?_⟩;refine⟨_,rfl,k,0,rfl,fun v0 H1 g1 r1=>?_⟩;obtain⟨us,hu,pu,lu⟩:=(ha.mono g1).len;refine⟨fun m σ H'=>∃ p:Nat,σ=[some (.int k),some (.ref a),some v0,some (.int (p:Int))]/\H'=H1/\p<=l/\m=l - p,⟨_,0,rfl,rfl,vA _,rfl⟩,?_⟩
 rintro m σ H' ⟨p,rfl,rfl,pl,rfl⟩
 rcases wK p l with h|h
 ·obtain⟨u,eu,ru⟩:=yl pu (hz p h);refine⟨_,rfl,_,rfl,a,_,_,_,rfl,rfl,SqL.of hu,zD eu,_,rfl,toD (nnum k 0),toD (nnum k 0),ru,r1,xC _,xC _,wD (vI _ _) (wD (je _) (by decide)),_,rfl,?_⟩;rw[zbk];refine iteT ⟨_,fun _ _ h=>h,?_⟩;exact⟨_,rfl,_,_,rfl,rfl,_,by omega,p+1,rfl,rfl,by omega,rfl⟩
 ·have e:p=l:=by omega
  subst e;obtain⟨u,eu,ru⟩:=yl pu hl;refine⟨_,rfl,_,rfl,a,_,_,_,rfl,rfl,SqL.of hu,zD eu,_,rfl,toD x,toD (nnum k 0),ru,r1,xC _,xC _,wD (vI _ _) (wD (je _) (by decide)),_,rfl,?_⟩;rw[qy,decide_eq_false ne];refine iteF ?_;exact⟨_,rfl,q _ g1⟩
def zag:Sp:=fun vs H Q _=>∃(k:Int)(A B:Tb)(n C:Nat)(t1 t2:Addr)(r1 r2:List Addr),vs=[.int k,.ref t1,.ref t2]/\kaa k/\kag H A t1 r1/\kag H B t2 r2/\La.OkM k n A/\La.OkM k n B/\La.rowsB C A/\La.rowsB C B/\61<=C/\(C+1)*2^n<=60000000/\n<=64/\A.length<=1000/\B.length<=1000 /\
 ∀ R ls top rs H',Same H H'->NewT H H' R top rs->(∀(F:Type) [Lean.Grind.Field F] (φ:La.Kf k F),La.RedOf φ n (A++B) R ls)->Q (.ref top) H'
theorem zc5 (D:Df K mg "joined" Sv Yi) (zd5:Kn P w K mg base "reduced" 45 SC XW):Kn P w K mg base "joined" 46 Sv zag:=by
 refine D.kn zd9 (fun vs H Q E h=>?_) (fun f cdv A' outer s H vs Q E hr h=>?_)
 ·obtain⟨k,A,B,n,C,t1,t2,r1,r2,rfl,_⟩:=h;rfl
 obtain⟨k,A,B,n,C,t1,t2,r1,r2,rfl,hk,hA,hB,oA,oB,cA,cB,c7,hc,n64,lA,lB,q⟩:=h;have szl:=Qa
 have l1:=zj hA.2;have l2:=zj hB.2;refine⟨_,(zh (zq (zF zd5 hr (za (pv 0) (za (zm Qn (pv 1) (pv 2)) zd))))),?_⟩;refine⟨_,rfl,_,rfl,_,rfl,t1,t2,_,_,rfl,rfl,hA.1,hB.1,(by rw[wa,wa];omega),fun p hp=>?_⟩;have g:=zg hp (.lst (r1.map V.ref++r2.map V.ref));have T:kag (upd H p (.lst (r1.map V.ref++r2.map V.ref))) (A++B) p (r1++r2):=⟨by rw[zf,wu],XL (hA.mono g).2 (hB.mono g).2⟩;generalize upd H p (.lst (r1.map V.ref++r2.map V.ref))=H1 at *;refine⟨k,A++B,n,C,p,r1++r2,rfl,hk,T,(fun r hr=>(wt.mp hr).elim (oA r) (oB r)),cA.app cB,c7,hc,by omega,(by rw[wy];omega),fun R ls top rs H2 g2 nt red _=>?_⟩;exact q R ls top rs H2 (g.trans g2) ⟨nt.tab,g.none nt.ft,fun r hr=>g.none (nt.fr r hr),nt.nd,nt.nt⟩ red
def zed:Sp:=fun vs H Q _=>∃(ws us:List Int)(l l':Addr)(m:Nat),vs=[.ref l,.ref l']/\IRow H ws l/\IRow H us l'/\ws.length=us.length/\(∀ w∈ws,Sm m w)/\(∀ w∈us,Sm m w)/\2*m<=60000000/\ws.length<sizeLine /\
 ∀ H',Same H H'->Q (.int (vC (·*·) ws us).sum) H'
theorem zgY (D:Df K mg "whole_sum" Sq jC) (m_sum:mg "sum" = none) (m_zip:mg "zip" = none):Kn P w K mg base "whole_sum" 1 Sq zed:=by
 refine D.kn zan (fun vs H Q E h=>?_) (fun f cdv A outer s H vs Q E hr h=>?_)
 ·obtain⟨ws,us,l,l',m,rfl,_⟩:=h;rfl
 obtain⟨ws,vs,l,l',m,rfl,hl,hl',hlen,sw,sw',hsz,hz,q⟩:=h;refine⟨_,(zh (zq (zp (zej rfl) rfl m_sum zhs (za (Zy ["left", "right"] [] [] ⟨rfl,rfl,rfl,rfl,rfl,rfl,by decide +kernel⟩ rfl (YI rfl m_zip (za (pv 0) (za (pv 1) zd))) (Zh (yB (yx (by decide)) yA (yB (yx (by decide)) yA jP))) fun _ _ _ _ _ _=>⟨(jv 2 rfl (zT (zI (i:=0) (by decide:(["left", "right"]:List Str).Nodup) rfl (by first|exact Or.inl rfl|exact Or.inr rfl)) (zT (zI (i:=1) (by decide:(["left", "right"]:List Str).Nodup) rfl (by first|exact Or.inl rfl|exact Or.inr rfl)) xF))),zM,(zm zS (pv 0) (pv 1))⟩) zd)))),?_⟩;refine⟨_,rfl,_,rfl,l,l',ws.map V.int,vs.map V.int,rfl,SqL.of hl,SqL.of hl',?_⟩;refine qI (xs:=ws.map V.int) (zs:=vs.map V.int) (by rw[wa,wa];omega) (fun i ys' H'=>Same H H'/\ys' =((vC (·*·) ws vs).take i).map V.int) ⟨Same.refl H,by simp⟩ ?_ ?_ ?_
 ·rintro i ys' H' hi ⟨g,rfl⟩
  refine⟨SqL.of (hl.mono g),SqL.of (hl'.mono g),?_⟩;rw[wa,wr,ve];omega
 ·rintro i x z T ys' H' hx hy hi hT ⟨g,rfl⟩
  rw[we]at hx hy;obtain⟨u,hu,rfl⟩:=wG.mp hx;obtain⟨u',hu',rfl⟩:=wG.mp hy;refine⟨T,_,rfl,SqT.of zf,rfl,_,_,rfl,_,_,rfl,rfl,?_⟩
  first|refine gyes ?_|refine tyes ?_
  refine⟨_,rfl,_,rfl,_,_,rfl,rfl,(sw u (wd hu)).mulOk (sw' u' (wd hu')) (by omega),nxt hi ⟨g.trans (zg hT _),?_⟩⟩;have e:(vC (·*·) ws vs)[i]?=some (u*u'):=by rw[vR,hu,hu']
  rw[zy e,wu];rfl
 ·rintro ys' H' ⟨g,rfl⟩ pl hpl
  have el:(ws.map V.int).length =(vC (·*·) ws vs).length:=by rw[wa,ve];omega
  rw[el,vK];exact⟨pl,_,rfl,SqL.of zf,q _ (g.trans (zg hpl (.lst ((vC (·*·) ws vs).map V.int))))⟩
def zgg:Sp:=fun vs H Q _=>∃(k:Int)(xs ys:List Nb)(p p':Addr)(m:Nat),vs=[.int k,.ref p,.ref p']/\kaa k/\SclAt H k m xs p/\SclAt H k m ys p'/\La.OkR k xs/\La.OkR k ys/\xs.length=ys.length/\61<=m/\2*m+xs.length<=60000000/\xs.length<sizeLine /\
 ∀ v H',Same H H'->RN H' (La.ndot k xs ys) v->Q v H'
theorem zh2 (D:Df K mg "sum_of_products" Sv yL) (ZA:Kn P w K mg base "quotient" 43 Sz zaU) (za1:Kn P w K mg base "whole_sum" 1 Sq zed):Kn P w K mg base "sum_of_products" 44 Sv zgg:=by
 refine D.kn qT (fun vs H Q E h=>?_) (fun f cdv A outer s H vs Q E hr h=>?_)
 ·obtain⟨k,xs,ys,p,p',m,rfl,_⟩:=h;rfl
 obtain⟨k,xs,ys,p,p',m,rfl,hk,⟨l,ws,b,hp,hl,sc,sb,sw⟩,⟨l',vs,b',hp',hl',sc',sb',sw'⟩,ox,oy,hlen,m7,hsz,hz,q⟩:=h;refine⟨_,(zh (zq (zF ZA hr (za (pv 0) (za (zF za1 hr (za (zt zE (pv 1) ze) (za (zt zE (pv 2) ze) zd))) (za (zm zS (zt zE (pv 1) ze) (zt zE (pv 2) ze)) zd)))))),?_⟩;have ewl:=sc.len;have evl:=sc'.len;refine⟨_,rfl,_,rfl,p,_,_,_,rfl,rfl,SqT.of hp,rfl,_,rfl,p',_,_,_,rfl,rfl,SqT.of hp',rfl,ws,vs,l,l',m,rfl,hl,hl',(by omega),sw,sw',(by omega),(by omega),fun H' g2=>?_⟩;obtain⟨ne,e⟩:=La.zhS hk hlen sc sc' ox oy;have st:Sm (m+m +(vC (·*·) ws vs).length) (vC (·*·) ws vs).sum:=zga fun w hw=>by
  obtain⟨i,hi,e⟩:=wQ hw;rw[uC]at e;rw[← e];exact(sw _ (wj _)).mul (sw' _ (wj _))
 rw[ve]at st;refine⟨_,rfl,p,_,_,_,rfl,rfl,SqT.of (g2 _ _ hp),rfl,_,rfl,p',_,_,_,rfl,rfl,SqT.of (g2 _ _ hp'),rfl,_,_,rfl,rfl,sb.mulOk sb' (by omega),k,_,_,rfl,hk,ne,st.mono (by omega),(sb.mul sb').mono (by omega),fun v H2 g3 r=>?_⟩;rw[e]at r;exact q v H2 (g2.trans g3) r
def xq:Sp:=fun vs H Q _=>∃(M:Tb)(n:Nat)(top:Addr)(ras:List Addr),vs=[.ref top]/\kag H M top ras/\M≠[]/\(∀ r∈M,r.length=n)/\n<sizeLine/\M.length<sizeLine /\
 ∀ t ras' H',Same H H'->NewT H H' (kac n M) t ras'->Q (.ref t) H'
theorem zeJ (D:Df K mg "turned" SD ZT) (zH:mg "range" = none) (m_len:mg "len" = none):Kn P w K mg base "turned" 1 SD xq:=by
 refine D.kn zdf (fun vs H Q E h=>?_) (fun f cdv A outer s H vs Q E hr h=>?_)
 ·obtain⟨M,n,top,ras,rfl,_⟩:=h;rfl
 obtain⟨M,n,top,ras,rfl,hT,hM,hn,nz,mz,q⟩:=h;refine⟨_,(zh (zq (yM ["table"] [0] (zR rfl zH (za (zp zx rfl m_len zU (za (zt zi (pv 0) ze) zd)) zd)) fun _ _ _ _ _ _=>⟨zM,(yM ["column"] [0] (zw (pv 1)) fun _ _ _ _ _ _=>⟨zM,(zt zi (pv 0) (pv 1))⟩)⟩))),?_⟩;obtain⟨M0,M',rfl⟩:=vV hM;have hras:=zj hT.2;obtain⟨r0,ras',e0⟩ : ∃ r0 ras',ras=r0::ras':=by
  cases ras with
  | nil=>simp at hras
  | cons a b=>exact⟨a,b,rfl⟩
 obtain⟨vs0,h0,p0,l0⟩:=(jL hT.2 (i:=0) rfl (by rw[e0];rfl)).len;have n0:=hn M0 wk;have szl:=Qa
 refine⟨_,rfl,top,_,_,_,rfl,rfl,SqL.of hT.1,(by rw[e0];exact zD (j:=0) rfl),r0,_,rfl,.inl (SqL.of h0),_,rfl,(by omega),(by omega),?_⟩;have en:(vs0.length:Int).toNat=n:=by omega
 rw[en];refine yG (lo:=0) (n:=n) (fun i ys H'=>∃ ras2,ys=ras2.map V.ref/\Grow H H' ((kac n (M0::M')).take i) ras2) ⟨[],rfl,Grow.nil H (Same.refl H)⟩ ?_ ?_ ?_
 ·rintro i ys H' hi ⟨ras2,rfl,G⟩
  have:=zj G.rows;rw[wr,zk]at this;rw[wa];omega
 ·rintro i ys H' hi ⟨ras2,rfl,G⟩
  first|refine gyes ?_|refine tyes ?_
  refine⟨_,rfl,top,rfl,⟨_,SqL.of (G.same _ _ hT.1)⟩,?_⟩;refine zO (xs:=ras.map V.ref) (fun j ys' H2=>H2=H'/\Paired (RN H') (((M0::M').map fun r=>r.getD i (.z 0)).take j) ys') ⟨rfl,.nil⟩ ?_ ?_ ?_
  ·rintro j ys' H2 hj ⟨rfl,pr⟩
   refine⟨SqL.of (G.same _ _ hT.1),?_⟩;have:=zj pr;rw[wr,wa]at this;omega
  ·rintro j v ys' H2 hv hj ⟨rfl,pr⟩
   obtain⟨xs,a,hx,ha,rfl,hrow⟩:=(hT.mono G.same).row hv;obtain⟨us,hu,pu,lu⟩:=hrow.len;have nx:=hn xs (wd hx);have hi':i<xs.length:=by omega
   obtain⟨u,eu,ru⟩:=yl pu (wb hi')
   first|refine gyes ?_|refine tyes ?_
   refine⟨_,rfl,_,rfl,a,_,_,_,rfl,rfl,SqL.of hu,(by rw[vF];exact zD eu),nxt hj ⟨rfl,?_⟩⟩;have e:((M0::M').map fun r=>r.getD i (.z 0))[j]?=some (xs.getD i (.z 0)):=by rw[we,hx];rfl
   rw[zy e];refine zZ pr ?_;rw[wc,wb hi'];exact ru
  ·rintro ys' H2 ⟨rfl,pr⟩ p hp
   rw[wv (by rw[wa,wa];omega)]at pr;refine nxt hi ⟨ras2++[p],by rw[wu];rfl,?_⟩;rw[zy (yV hi)];exact G.snoc hp pr
 ·rintro ys H' ⟨ras2,rfl,G⟩ t ht
  rw[wv (by rw[zk];exact ww _)]at G;exact q t ras2 _ (G.same.trans (zg ht _)) (G.done ht)
theorem zeA{x:Str}{ps:List Str}{l:Nat}{sp sp':Sp}(D:Kn P w K mg base x l ps sp)(h:∀ vs H Q E,sp' vs H Q E->sp vs H Q E):Kn P w K mg base x l ps sp':=by
 obtain⟨f,fd,F,r⟩:=D.ex;exact⟨f,fd,F.imp h,r⟩
def XI:Sp:=fun vs H Q _=>∃(k:Int)(xs:List Nb)(a:Addr)(m:Nat),vs=[.int k,.ref a]/\kaa k/\kak H xs a/\La.OkR k xs/\(∀ x∈xs,nsm m x)/\61<=m/\(xs.length+2)*m<=60000000 /\
 ∀ p H',Same H H'->SclAt H' k ((xs.length+2)*m) xs p->Q (.ref p) H'
theorem zdy (d:Kn P w K mg base "scaled" 41 Sy YD):Kn P w K mg base "scaled" 41 Sy XI:=zeA d fun vs H Q E h=>by
 obtain⟨k,xs,a,m,rfl,hk,hr,ox,sx,m7,hsz,q⟩:=h;have szl:=Qa
 have h1:(xs.length+2)*61<=(xs.length+2)*m:=vp _ m7;have h2:(xs.length+1)*m<=(xs.length+2)*m:=vh _ (by omega);exact⟨k,xs,a,(xs.length+2)*m,rfl,hk,hr,ox,(zeP (k:=k) (n:=xs.length) (by omega) ⟨rfl,ox,sx⟩).mono h2,by omega,hsz,by omega,q⟩
theorem zgh{n m:Nat}(h7:61<=m)(h:(n+2)*m<=20000000):2 *((n+2)*m)+n<=60000000/\61<=(n+2)*m/\n<sizeLine/\(n+2)*m<=60000000:=by
 have h1:(n+2)*61<=(n+2)*m:=vp _ h7;have:sizeLine=16777216:=by decide
 omega
def XQ:Sp:=fun vs H Q _=>∃(k:Int)(M N:Tb)(b c m:Nat)(t1 t2:Addr)(r1 r2:List Addr),vs=[.int k,.ref t1,.ref t2]/\kaa k/\kag H M t1 r1/\kag H N t2 r2/\La.OkM k b M/\La.OkM k c N/\N.length=b/\0<b/\szM m M/\szM m N/\61<=m/\(b+2)*m<=20000000/\c<sizeLine/\M.length<sizeLine /\
 ∀ t ras H',Same H H'->NewT H H' (kai k c M N) t ras->Q (.ref t) H'
theorem zcb (D:Df K mg "product" Sv qP) (yI:Kn P w K mg base "turned" 1 SD xq) (ZS:Kn P w K mg base "scaled" 41 Sy XI) (Zq:Kn P w K mg base "sum_of_products" 44 Sv zgg):Kn P w K mg base "product" 45 Sv XQ:=by
 refine D.kn Sg (fun vs H Q E h=>?_) (fun f cdv A outer s H vs Q E hr h=>?_)
 ·obtain⟨k,M,N,b,c,m,t1,t2,r1,r2,rfl,_⟩:=h;rfl
 obtain⟨k,M,N,b,c,m,t1,t2,r1,r2,rfl,hk,hM,hN,oM,oN,lN,b0,sM,sN,m7,hsz,cz,mz,q⟩:=h;refine⟨_,(zc (ZK 3 Sg.nd ["kind"] [0] (zw (zF yI hr (za (pv 2) zd))) fun _ _ _ _ _ _=>⟨zM,(zF ZS hr (za (pv 1) (za (pv 0) zd)))⟩) (zc (zo (i:=4) Sg.nd rfl (.inl rfl) (yq zd)) (zc (yt PassesOwn.never rfl (zw (pv 1)) (zI (i:=5) Sg.nd rfl (.inl rfl)) (zc (zo (i:=6) Sg.nd rfl (.inr rfl) (zF ZS hr (za (pv 0) (za (pv 5) zd)))) (zh (yS (bm0 (fun _ h=>qX PySem.F.plainAttrs_list PySem.F.slot_list_append PySem.F.type_list_append yF h (za (yM ["kind", "left"] [0,6] (zw (pv 3)) fun _ _ _ _ _ _=>⟨zM,(zF Zq hr (za (pv 1) (za (pv 2) (za (pv 0) zd))))⟩) zd)) (pv 4)))))) (zh (zq (pv 4)))))),?_⟩;obtain⟨z1,z2,z3,z4⟩:=zgh m7 hsz;have oT:=zL oN;rw[lN]at oT;have sT:=zcB oN sN;refine⟨_,rfl,N,c,t2,r2,rfl,hN,(fun e=>by rw[e]at lN;simp at lN;omega),(fun r hr=>(oN r hr).1),cz,by omega,fun tt rt H1 g1 nT=>?_⟩;refine⟨tt,rfl,⟨_,SqL.of nT.tab.1⟩,?_⟩;have tl:=zj nT.tab.2;rw[zk]at tl;refine zO (xs:=rt.map V.ref) (fun i ys H'=>∃ ps,ys=ps.map V.ref/\Same H1 H'/\Paired (fun xs p=>SclAt H' k ((b+2)*m) xs p) ((kac c N).take i) ps) ⟨[],rfl,Same.refl _,.nil⟩ ?_ ?_ ?_
 ·rintro i ys H' hi ⟨ps,rfl,g,pr⟩
  refine⟨SqL.of (g _ _ nT.tab.1),?_⟩;have:=zj pr;rw[wr,zk]at this;rw[wa];omega
 ·rintro i v ys H' hv hi ⟨ps,rfl,g,pr⟩
  obtain⟨xs,a,hx,ha,rfl,hrow⟩:=(nT.tab.mono g).row hv;obtain⟨lx,ox⟩:=oT xs (wd hx)
  first|refine gyes ?_|refine tyes ?_
  refine⟨_,rfl,_,rfl,k,xs,a,m,rfl,hk,hrow,ox,sT xs (wd hx),m7,by rw[lx];exact z4,fun p H2 g2 sc=>?_⟩;rw[lx]at sc;refine nxt hi ⟨ps++[p],by rw[wu];rfl,g.trans g2,?_⟩;rw[zy hx];exact zZ (jg (fun _ _ r=>r.mono g2) pr) sc
 ·rintro ys H' ⟨ps,rfl,g,pr⟩ pc hpc
  rw[wa,wv (by rw[zk];omega)]at pr;have pcl:=zj pr;rw[zk]at pcl;have gq:Same H (upd H' pc (.lst (ps.map V.ref))):=(g1.trans g).trans (zg hpc _);have prq:Paired (fun xs p=>SclAt (upd H' pc (.lst (ps.map V.ref))) k ((b+2)*m) xs p) (kac c N) ps:=jg (fun _ _ r=>r.mono (zg hpc _)) pr;have hpq:upd H' pc (.lst (ps.map V.ref)) pc=some (.lst (ps.map V.ref)):=zf;generalize upd H' pc (.lst (ps.map V.ref))=Hq at *;refine⟨(by show 0<=sizeLine;decide),fun pt hpt=>?_⟩;refine⟨_,rfl,t1,rfl,⟨_,SqL.of (zg hpt _ _ _ (gq _ _ hM.1))⟩,?_⟩;refine yZ (xs:=r1.map V.ref) (fun i σ H4=>∃ ras o5 o6,σ=[some (.int k),some (.ref t1),some (.ref t2),some (.ref pc),some (.ref pt),o5,o6]/\Grow Hq H4 ((kai k c M N).take i) ras/\H4 pt=some (.lst (ras.map V.ref))/\pt∉ras) ⟨[],none,none,rfl,Grow.nil Hq (zg hpt _),zf,by simp⟩ ?_ ?_ ?_
  ·rintro i σ H4 _ ⟨ras,o5,o6,rfl,G,_⟩
   exact SqL.of (G.same _ _ (gq _ _ hM.1))
  ·rintro i v σ H4 hv ⟨ras,o5,o6,rfl,G,hpt4,npt4⟩
   obtain⟨xs,a,hx,ha,rfl,hrow⟩:=(hM.mono (gq.trans G.same)).row hv;obtain⟨lx,ox⟩:=oM xs (wd hx);refine⟨_,rfl,_,rfl,k,xs,a,m,rfl,hk,hrow,ox,sM xs (wd hx),m7,by rw[lx];exact z4,fun p H5 g5 sc=>?_⟩;rw[lx]at sc;have gq5:=G.same.trans g5;refine⟨_,rfl,.inl ⟨rfl,_,SqL.of (g5 _ _ hpt4)⟩,_,rfl,pc,rfl,⟨_,SqL.of (gq5 _ _ hpq)⟩,?_⟩;refine zO (xs:=ps.map V.ref) (fun j ys' H6=>Same H5 H6/\Paired (RN H6) (((kac c N).map fun col=>La.ndot k xs col).take j) ys') ⟨Same.refl _,.nil⟩ ?_ ?_ ?_
   ·rintro j ys' H6 hj ⟨g6,pr6⟩
    refine⟨SqL.of (g6 _ _ (gq5 _ _ hpq)),?_⟩;have:=zj pr6;rw[wr,wa,zk]at this;omega
   ·rintro j v ys' H6 hv' hj ⟨g6,pr6⟩
    rw[we]at hv';obtain⟨pj,hpj,rfl⟩:=wG.mp hv';obtain⟨col,hcol,scj⟩:=zW prq hpj;obtain⟨lc,oc⟩:=oT col (wd hcol)
    first|refine gyes ?_|refine tyes ?_
    refine⟨_,rfl,_,rfl,_,rfl,k,xs,col,p,pj,(b+2)*m,rfl,hk,sc.mono g6,scj.mono (gq5.trans g6),ox,oc,by rw[lx,lc],z2,by rw[lx];exact z1,by rw[lx];exact z3,fun v7 H7 g7 r7=>?_⟩;refine nxt hj ⟨g6.trans g7,?_⟩;have e:((kac c N).map fun col=>La.ndot k xs col)[j]?=some (La.ndot k xs col):=by rw[we,hcol];rfl
    rw[zy e];exact zZ (jj g7 pr6) r7
   ·rintro ys' H6 ⟨g6,pr6⟩ pn hpn
    rw[wa,wv (by rw[wa,zk];omega)]at pr6;have g46:=g5.trans g6;have npn:pt≠pn:=fun e=>by rw[← e,g46 _ _ hpt4]at hpn;cases hpn
    refine⟨pt,_,_,rfl,rfl,(by rw[zN npn];exact g46 _ _ hpt4),?_,?_⟩
    ·have e1:=zj G.rows;rw[wr]at e1;have e2:=(wp.mp ha).1;have e3:=zj hM.2;rw[wa];omega
    obtain⟨G2,nm2⟩:=G.push (zs':=(ras.map V.ref)++[.ref pn]) hpt hpt4 npt4 g46 hpn pr6;refine⟨ras++[pn],_,_,rfl,?_,?_,nm2⟩
    ·have e:(kai k c M N)[i]?=some ((kac c N).map fun col=>La.ndot k xs col):=by unfold kai;rw[we,hx];rfl
     rw[zy e];exact G2
    ·rw[zf,wu];rfl
  ·rintro σ H4 ⟨ras,o5,o6,rfl,G,hpt4,npt4⟩
   rw[wa,wv (by unfold kai;rw[wa];have:=zj hM.2;omega)]at G;exact⟨_,rfl,q pt ras H4 (gq.trans G.same) ⟨⟨hpt4,G.rows⟩,gq.none hpt,fun r hr=>gq.none (G.fr r hr),G.nd,npt4⟩⟩
def zbn:Sp:=fun vs H Q _=>∃(k:Int)(A B C:Tb)(n h s m many:Nat)(pm ta tb tc:Addr)(ra rb rc:List Addr),vs=[.int k,.ref pm,.int (many:Int)]/\kaa k/\kat H A B C pm ta tb tc ra rb rc/\MOk k n h s m A B C/\(∀ i,i<many->TOk k s n m (kan k n A C i))/\1<=n/\h<=1000/\61<=m/\(n+2)*m<=20000000/\s<=1000/\many<=1000 /\
 ∀ pt ts rs H',kah H H' (marksM k n h A B C many) ts rs->H' pt=some (.lst (ts.map V.ref))->H pt=none->pt∉ts->(∀ ras∈rs,pt∉ras)->Q (.ref pt) H'
theorem zft (D:Df K mg "marks" SE JG) (zah:Kn P w K mg base "product" 45 Sv XQ) (zH:mg "range" = none):Kn P w K mg base "marks" 46 SE zbn:=by
 refine D.kn Sl (fun vs H Q E h=>?_) (fun f cdv A' outer s' H vs Q E hr h=>?_)
 ·obtain⟨k,A,B,C,n,h,s,m,many,pm,ta,tb,tc,ra,rb,rc,rfl,_⟩:=h;rfl
 obtain⟨k,A,B,C,n,h,s,m,many,pm,ta,tb,tc,ra,rb,rc,rfl,hk,hM,oM,oL,n1,h1000,m7,hsz,s1000,my,q⟩:=h;obtain⟨z1,z2,z3,z4⟩:=zgh m7 hsz;have szl:=Qa
 refine⟨_,(zc (zo (i:=3) Sl.nd rfl (.inl rfl) (yq zd)) (zc (zo (i:=4) Sl.nd rfl (.inl rfl) (zt zE (pv 1) ze)) (zc (yt PassesOwn.never rfl (zR rfl zH (za (pv 2) zd)) (zI (i:=5) Sl.nd rfl (.inl rfl)) (zc (yb (zu jJ (pv 5) ze (kae _)) (zh (zo (i:=4) Sl.nd rfl (.inl rfl) (zF zah hr (za (pv 0) (za (pv 4) (za (zt zE (pv 1) ze) zd)))))) zJ) (zh (yS (bm0 (fun _ h=>qX PySem.F.plainAttrs_list PySem.F.slot_list_append PySem.F.type_list_append yF h (za (zF zah hr (za (pv 0) (za (pv 4) (za (zt zE (pv 1) ze) zd)))) zd)) (pv 3)))))) (zh (zq (pv 3)))))),?_⟩;refine⟨(by show 0<=sizeLine;decide),fun pt hpt=>?_⟩;have g0:=zg hpt (.lst []);have ntc:tc≠pt:=fun e=>by have:=hM.c.1;rw[e,hpt]at this;cases this
 have nrc:pt∉rc:=Yy hM.c hpt;refine⟨_,rfl,pm,_,_,_,rfl,rfl,SqT.of (g0 _ _ hM.tup),rfl,?_⟩;refine⟨_,rfl,many,rfl,(by omega),(by omega),?_⟩;rw[wR];refine yp (lo:=0) (n:=many) (fun i σ H4=>∃ tl rl ts rs o5,σ=[some (.int k),some (.ref pm),some (.int (many:Int)),some (.ref pt),some (.ref tl),o5]/\kag H4 (kan k n A C (i - 1)) tl rl/\tl≠pt/\pt∉rl/\kah H H4 ((marksM k n h A B C many).take i) ts rs/\H4 pt=some (.lst (ts.map V.ref))/\pt∉ts/\(∀ ras∈rs,pt∉ras)) ⟨tc,rc,[],[],none,rfl,hM.c.mono g0,ntc,nrc,kah.nil g0,zf,by simp,fun ras hr=>(nomatch hr)⟩ ?_ ?_
 ·rintro i σ H4 hi ⟨tl,rl,ts,rs,o5,rfl,hL,ntl,nrl,G,hpt4,nt4,nr4⟩
  have M4:=hM.mono G.same
  try dsimp only
  refine YM (fun σ H'=>∃ tl rl,σ=[some (.int k),some (.ref pm),some (.int (many:Int)),some (.ref pt),some (.ref tl),some (.int (0 +(i:Int)))]/\Same H4 H'/\kag H' (kan k n A C i) tl rl/\tl≠pt/\pt∉rl) ?_ ?_
  rotate_left
  ·intro hN;refine⟨_,rfl,_,_,rfl,rfl,_,rfl,?_⟩;refine ite2 (fun cc=>?_) (fun cc=>?_)
   ·have i0:0<i:=by have:(0:Int)<0 +(i:Int):=of_decide_eq_true cc;omega
    obtain⟨i',rfl⟩ : ∃ i',i=i'+1:=⟨i - 1,by omega⟩;rw[Nat.add_sub_cancel]at hL;have oL':=oL i' (by omega);refine⟨_,rfl,_,rfl,_,rfl,pm,_,_,_,rfl,rfl,SqT.of M4.tup,rfl,k,kan k n A C i',A,n,n,m,tl,ta,rl,ra,rfl,hk,hL,M4.a,oL'.ok,oM.a.ok,oM.a.len,n1,oL'.sz,oM.a.sz,m7,hsz,(by omega),(by rw[oL'.len];omega),fun t5 r5 H5 g5 n5=>?_⟩;refine hN _ _ ⟨t5,r5,rfl,g5,n5.tab,fun e=>?_,fun hm=>?_⟩
    ·have:=n5.ft;rw[e,hpt4]at this;cases this
    ·have:=n5.fr _ hm;rw[hpt4]at this;cases this
   ·have i0:i=0:=by
     have:¬(0:Int)<0 +(i:Int):=of_decide_eq_false (ul.mpr cc);omega
    subst i0;exact hN _ _ ⟨tl,rl,rfl,Same.refl _,hL,ntl,nrl⟩
  clear hL ntl nrl
  rintro σ H5 ⟨tl,rl,rfl,g5,hL,ntl,nrl⟩
  have M5:=M4.mono g5;have hpt5:=g5 _ _ hpt4;have oL':=oL i hi;refine⟨_,rfl,.inl ⟨rfl,_,SqL.of hpt5⟩,_,rfl,_,rfl,_,rfl,pm,_,_,_,rfl,rfl,SqT.of M5.tup,rfl,k,kan k n A C i,B,n,h,m,tl,tb,rl,rb,rfl,hk,hL,M5.b,oL'.ok,oM.b.ok,oM.b.len,n1,oL'.sz,oM.b.sz,m7,hsz,(by omega),(by rw[oL'.len];omega),fun t6 r6 H6 g6 n6=>?_⟩;have hpt6:=g6 _ _ hpt5;have lts:=G.lt;rw[wr,jo]at lts;refine⟨pt,_,_,rfl,rfl,hpt6,(by rw[wa];omega),?_⟩;have nt6:pt≠t6:=fun e=>by have:=n6.ft;rw[← e,hpt5]at this;cases this
  have nr6:pt∉r6:=fun hm=>by have:=n6.fr _ hm;rw[hpt5]at this;cases this
  have nts:pt∉ts++[t6]:=fun hm=>by
   rcases wt.mp hm with h|h
   ·exact nt4 h
   ·exact nt6 (wm.mp h)
  have nrs:∀ ras∈rs++[r6],pt∉ras:=fun ras hm=>by
   rcases wt.mp hm with h|h
   ·exact nr4 ras h
   ·rw[wm.mp h];exact nr6
  have G6:=(G.mono g5).push g6 n6;rw[← zy (ql hi)]at G6;refine⟨tl,rl,ts++[t6],rs++[r6],_,rfl,(hL.mono g6).upd ntl nrl hpt6,ntl,nrl,G6.updAt hpt hpt6 nts nrs,?_,nts,nrs⟩;rw[zf,wu];rfl
 ·rintro σ H4 ⟨tl,rl,ts,rs,o5,rfl,hL,ntl,nrl,G,hpt4,nt4,nr4⟩
  rw[wv (by rw[jo];omega)]at G;exact⟨_,rfl,q pt ts rs H4 G hpt4 hpt nt4 nr4⟩
def Zz:Sp:=fun vs H Q _=>∃(L:List (List V))(t:Addr)(ras:List Addr),vs=[.ref t]/\H t=some (.lst (ras.map V.ref))/\Paired (fun us a=>H a=some (.lst us)) L ras/\(∀ us∈L,us.length<=100)/\L.length<=100/\∀ p H',Same H H'->H p=none->H' p=some (.lst L.flatten)->Q (.ref p) H'
theorem Xh:∀(L:List (List V)),(∀ r∈L,r.length<=100)->L.flatten.length<=L.length*100
 | [],_=>by simp
 | r::L,h=>by
  have h1:=Xh L (fun r hr=>h r (wo _ hr));have h2:=h r wk;rw[uS,wy,vy,waP];omega
theorem zb3 (D:Df K mg "strung" ["rows"] Yk):Kn P w K mg base "strung" 1 ["rows"] Zz:=by
 refine D.kn Si (fun vs H Q E h=>?_) (fun f cdv A outer s H vs Q E hr h=>?_)
 ·obtain⟨L,t,ras,rfl,_⟩:=h;rfl
 obtain⟨L,t,ras,rfl,hT,pL,hn,m100,q⟩:=h;have szl:=Qa
 have lr:=zj pL;refine⟨_,(zc (zo (i:=1) Si.nd rfl (.inl rfl) (yq zd)) (zc (yt PassesOwn.never rfl (zw (pv 0)) (zI (i:=2) Si.nd rfl (.inl rfl)) (zh (yS (bm0 (fun _ h=>qX PySem.F.plainAttrs_list PySem.F.slot_list_extend PySem.F.type_list_extend zas h (za (pv 2) zd)) (pv 1))))) (zh (zq (pv 1))))),?_⟩;refine⟨(by show 0<=sizeLine;decide),fun pt hpt=>?_⟩;have g0:=zg hpt (.lst []);refine⟨_,rfl,t,rfl,⟨_,SqL.of (g0 _ _ hT)⟩,?_⟩;refine yZ (xs:=ras.map V.ref) (fun i σ H'=>∃ o2,σ=[some (.ref t),some (.ref pt),o2]/\Same H H'/\H' pt=some (.lst (L.take i).flatten)) ⟨none,rfl,g0,zf⟩ ?_ ?_ ?_
 ·rintro i σ H' _ ⟨o2,rfl,g,_⟩
  exact SqL.of (g _ _ hT)
 ·rintro i v σ H' hv ⟨o2,rfl,g,hp⟩
  rw[we]at hv;obtain⟨a,ha,rfl⟩:=wG.mp hv;obtain⟨us,hus,hz⟩:=zW pL ha;have il:=(wp.mp hus).1;have l1:=Xh (L.take i) fun r hr=>hn r (vG hr)
  rw[wr]at l1;have l2:=hn us (wd hus);have b1:min i L.length*100<=100*100:=vh _ (by omega);refine⟨_,rfl,.inl ⟨rfl,_,SqL.of hp⟩,_,rfl,pt,a,_,us,rfl,rfl,hp,g _ _ hz,(by omega),_,rfl,yJ g hpt,?_⟩;rw[zf,zy hus,GR,uS,List.flatten_nil,ue]
 ·rintro σ H' ⟨o2,rfl,g,hp⟩
  rw[wa,wv (by omega)]at hp;exact⟨_,rfl,q pt H' g hpt hp⟩
theorem cutAB{xs:List V}(a b:Nat)(h:a+b<=xs.length):cutV xs (some (a:Int)) (some ((a:Int) +(b:Int))) =(xs.drop a).take b:=by
 have e:(a:Int) +(b:Int) =((a+b:Nat):Int):=by omega
 rw[e];unfold cutV;rw[HT.Yt,HT.Yt,gP (by omega),gP (by omega),gu]
theorem zbl(X:Nat->Tb)(i q:Nat):∀ J,sqR X i q J =((vd J).map fun j=>(X (i+j)).getD q []).flatten
 | 0=>rfl
 | J+1=>by
  rw[waD,wu,GR,← zbl X i q J];simp[sqR]
theorem JL{α β:Type}{R:α->β->Prop}:∀ {xs:List (List α)} {ys:List (List β)},Paired (Paired R) xs ys->Paired R xs.flatten ys.flatten
 | _,_,.nil=>.nil
 | _,_,.cons r t=>by
  rw[uS,uS];exact XL r (JL t)
theorem YZ{H:Hp}:∀ {rows:Tb} {bs:List Addr},Paired (kak H) rows bs->∃ L:List (List V),Paired (fun us a=>H a=some (.lst us)) L bs/\Paired (Paired (RN H)) rows L
 | _,_,.nil=>⟨[],.nil,.nil⟩
 | _,_,.cons ⟨us,hu,pu⟩ t=>by
  obtain⟨L,p1,p2⟩:=YZ t;exact⟨us::L,.cons hu p1,.cons pu p2⟩
structure TsAt(H:Hp)(k:Int)(Ps:Nat->Tb)(N q m:Nat)(pm:Addr)(ts:List Addr):Prop where
 lst:H pm=some (.lst (ts.map V.ref))
 len:ts.length=N
 tab:∀ t,t<N->∃ a rs,ts[t]?=some a/\kag H (Ps t) a rs
 ok:∀ t,t<N->La.OkM k m (Ps t)/\(Ps t).length=q
theorem TsAt.mono{H H':Hp}{k:Int}{Ps:Nat->Tb}{N q m:Nat}{pm:Addr}{ts:List Addr}(h:TsAt H k Ps N q m pm ts)(g:Same H H'):TsAt H' k Ps N q m pm ts :=
 ⟨g _ _ h.lst,h.len,fun t ht=>by obtain⟨a,rs,e,T⟩:=h.tab t ht;exact⟨a,rs,e,T.mono g⟩,h.ok⟩
def Zt:Sp:=fun vs H Q _=>∃(k:Int)(Ps X:Nat->Tb)(N q m st many:Nat)(sI mI:Int)(pm:Addr)(ts:List Addr),vs=[.ref pm,.int sI,.int mI]/\sI =(st:Int)/\mI =(many:Int)/\TsAt H k Ps N q m pm ts/\(∀ t,t<N->kac m (Ps t)=X t)/\st+many<=N/\1<=many/\N<=20/\m<=10/\1<=q/\q<=10 /\
 ∀ t ras H',Same H H'->NewT H H' (sqI X many st m) t ras->Q (.ref t) H'
theorem zb7 (D:Df K mg "answers_from" SF xp) (ZW:Kn P w K mg base "strung" 1 ["rows"] Zz) (yI:Kn P w K mg base "turned" 1 SD xq) (zH:mg "range" = none) (m_len:mg "len" = none):Kn P w K mg base "answers_from" 2 SF Zt:=by
 refine D.kn sF (fun vs H Q E h=>?_) (fun f cdv A' outer s' H vs Q E hr h=>?_)
 ·obtain⟨k,Ps,X,N,q',m,st,many,sI,mI,pm,ts,rfl,_⟩:=h;rfl
 obtain⟨k,Ps,X,N,q',m,st,many,sI,mI,pm,ts,rfl,rfl,rfl,hT,hX,sN,my,N20,m10,q1,q10,q⟩:=h;have szl:=Qa
 have lts:=hT.len;have oX:∀ t,t<N->La.OkM k q' (X t)/\(X t).length=m:=fun t ht=>by
  have o:=hT.ok t ht;have:=zL o.1;rw[o.2]at this;rw[← hX t ht];exact⟨this,zk m _⟩
 refine⟨_,(zc (zo (i:=3) sF.nd rfl (.inr rfl) (yM [] [] (zw (xv ZV (pv 0) (xY (pv 1)) (xY (zm yi (pv 1) (pv 2))))) fun _ _ _ _ _ _=>⟨zM,(zF yI hr (za (pv 0) zd))⟩)) (zh (zq (yM ["columns"] [3] (zR rfl zH (za (zp zx rfl m_len zU (za (zt zi (pv 3) ze) zd)) zd)) fun _ _ _ _ _ _=>⟨zM,(zF ZW hr (za (yM ["hand"] [0] (zw (pv 1)) fun _ _ _ _ _ _=>⟨zM,(zt zi (pv 0) (pv 1))⟩) zd))⟩)))),?_⟩;refine⟨_,rfl,_,rfl,_,rfl,_,rfl,_,rfl,_,_,rfl,rfl,_,rfl,pm,_,rfl,SqL.of hT.lst,fun ps hps=>?_⟩;rw[cutAB st many (by rw[wa];omega),← GS,← Gi]at *;have g0:=zg hps (.lst (((ts.drop st).take many).map V.ref));have h0:upd H ps (.lst (((ts.drop st).take many).map V.ref)) ps=some (.lst (((ts.drop st).take many).map V.ref)):=zf;generalize upd H ps (.lst (((ts.drop st).take many).map V.ref))=H0 at *;have hT0:=hT.mono g0;have ll:((ts.drop st).take many).length=many:=by rw[wr,uD];omega
 refine⟨ps,rfl,⟨_,SqL.of h0⟩,?_⟩;refine zO (xs:=((ts.drop st).take many).map V.ref) (fun i ys H'=>∃ as:List Addr,ys=as.map V.ref/\as.length=i/\Same H0 H'/\∀ j,j<i->∃ a rs,as[j]?=some a/\kag H' (X (st+j)) a rs) ⟨[],rfl,rfl,Same.refl _,fun _ h=>absurd h (vx _)⟩ ?_ ?_ ?_
 ·rintro i ys H' hi ⟨as,rfl,la,g,_⟩
  rw[wa,ll]at hi;exact⟨SqL.of (g _ _ h0),by rw[wa];omega⟩
 ·rintro i v ys H' hv hi ⟨as,rfl,la,g,tabs⟩
  have hi':=hi;rw[wa,ll]at hi';obtain⟨a,rs,ea,T⟩:=(hT0.mono g).tab (st+i) (by omega);have ev:v=.ref a:=by
   rw[we,ux,if_pos hi',gp,ea]at hv;exact(Option.some.inj hv).symm
  subst ev;have o:=hT.ok (st+i) (by omega)
  first|refine gyes ?_|refine tyes ?_
  refine⟨_,rfl,Ps (st+i),m,a,rs,rfl,T,(fun e=>by rw[e]at o;have:=o.2;simp at this;omega),(fun r hr=>(o.1 r hr).1),by omega,by omega,fun t1 r1 H1 g1 N1=>?_⟩;refine nxt hi ⟨as++[t1],by rw[wu];rfl,by rw[wy,la];rfl,g.trans g1,fun j hj=>?_⟩
  rcases vo (vz hj)with h'|h'
  ·obtain⟨a',rs',e',T'⟩:=tabs j h';exact⟨a',rs',by rw[wO (by omega)];exact e',T'.mono g1⟩
  ·subst h';refine⟨t1,r1,by rw[← la,wJ (ww _),vQ];rfl,?_⟩;have:=N1.tab;rw[hX (st+j) (by omega)]at this;exact this
 rintro ys H1 ⟨as,rfl,la,g1,tabs⟩ pc hpc
 rw[wa,ll]at la tabs;have g2:=zg hpc (.lst (as.map V.ref));have h2:upd H1 pc (.lst (as.map V.ref)) pc=some (.lst (as.map V.ref)):=zf;have tabs2:∀ j,j<many->∃ a rs,as[j]?=some a/\kag (upd H1 pc (.lst (as.map V.ref))) (X (st+j)) a rs:=fun j hj=>by
  obtain⟨a,rs,e,T⟩:=tabs j hj;exact⟨a,rs,e,T.mono g2⟩
 have g02:=(g0.trans g1).trans g2;generalize upd H1 pc (.lst (as.map V.ref))=H2 at *;obtain⟨a0,rs0,e0,T0⟩:=tabs2 0 (by omega);have l0:=zj T0.2;rw[(oX (st+0) (by omega)).2]at l0;refine⟨_,rfl,pc,_,_,.ref a0,rfl,rfl,SqL.of h2,zD (j:=0) (by rw[we,e0];rfl),a0,_,rfl,.inl (SqL.of T0.1),m,(by rw[wa,← l0]),(by omega),(by omega),?_⟩;rw[wR];refine yG (lo:=0) (n:=m) (fun i ys H'=>∃ ras2,ys=ras2.map V.ref/\Grow H2 H' ((sqI X many st m).take i) ras2) ⟨[],rfl,Grow.nil H2 (Same.refl H2)⟩ ?_ ?_ ?_
 ·rintro i ys H' hi ⟨ras2,rfl,G⟩
  have:=zj G.rows;rw[wr,yv]at this;rw[wa];omega
 ·rintro i ys H' hi ⟨ras2,rfl,G⟩
  first|refine gyes ?_|refine tyes ?_
  refine⟨_,rfl,pc,rfl,⟨_,SqL.of (G.same _ _ h2)⟩,?_⟩;refine zO (xs:=as.map V.ref) (fun j ys' H3=>H3=H'/\∃ bs:List Addr,ys'=bs.map V.ref/\Paired (kak H') ((vd j).map fun j=>(X (st+j)).getD i []) bs) ⟨rfl,[],rfl,.nil⟩ ?_ ?_ ?_
  ·rintro j ys' H3 hj ⟨rfl,bs,rfl,pb⟩
   have:=zj pb;rw[wa,vT]at this;rw[wa]at hj;exact⟨SqL.of (G.same _ _ h2),by rw[wa];omega⟩
  ·rintro j v ys' H3 hv hj ⟨rfl,bs,rfl,pb⟩
   have hj':=hj;rw[wa,la]at hj';obtain⟨a,rs,ea,T⟩:=tabs2 j hj';have ev:v=.ref a:=by
    rw[we,ea]at hv;exact(Option.some.inj hv).symm
   subst ev;have T3:=T.mono G.same;obtain⟨ei,li,oi⟩:=Yv oX (t:=st+j) (q:=i) (by omega) hi;obtain⟨b,eb,rb⟩:=yl T3.2 ei
   first|refine gyes ?_|refine tyes ?_
   refine⟨_,rfl,_,rfl,a,_,_,.ref b,rfl,rfl,SqL.of T3.1,(by rw[vF];exact zD (by rw[we,eb];rfl)),nxt hj ⟨rfl,bs++[b],by rw[wu];rfl,?_⟩⟩;rw[waD,wu];exact zZ pb rb
  ·rintro ys' H3 ⟨rfl,bs,rfl,pb⟩ pn hpn
   rw[wa,la]at pb;have lb:=zj pb;rw[wa,vT]at lb;have g4:=zg hpn (.lst (bs.map V.ref));have h4:upd H3 pn (.lst (bs.map V.ref)) pn=some (.lst (bs.map V.ref)):=zf;have pb4:Paired (kak (upd H3 pn (.lst (bs.map V.ref)))) ((vd many).map fun j=>(X (st+j)).getD i []) bs:=jg (fun _ _ r=>r.mono g4) pb;have G4:=G.mono g4;generalize upd H3 pn (.lst (bs.map V.ref))=H4 at *;obtain⟨L,pL,pF⟩:=YZ pb4;have lL:=zj pF;rw[wa,vT]at lL;refine⟨L,pn,bs,rfl,h4,pL,(fun us hu=>?_),by omega,fun p H5 g5 hp h5=>?_⟩
   ·obtain⟨xs,hx,px⟩:=qw pF hu;obtain⟨j,hj,rfl⟩:=wg.mp hx;have hj':=vk.mp hj;obtain⟨_,li,_⟩:=Yv oX (t:=st+j) (q:=i) (by omega) hi;rw[← zj px,li];omega
   refine nxt hi ⟨ras2++[p],by rw[wu];rfl,?_⟩;have ei:(sqI X many st m)[i]?=some (sqR X st i many):=by
    clear G G4 pL pF;have:∀ M,i<M->(sqI X many st M)[i]?=some (sqR X st i many):=by
     intro M
     induction M with
     | zero=>intro h;exact absurd h (vx _)
     | succ M ih =>
      intro h;show(sqI X many st M++[sqR X st M many])[i]?=_
      rcases vo (vz h)with h'|h'
      ·rw[wO (by rw[yv];exact h')];exact ih h'
      ·subst h';rw[wJ (by rw[yv];exact ww _),yv,vQ];rfl
    exact this m hi
   rw[zy ei];refine G4.snocR g5 ⟨L.flatten,h5,?_⟩ hp;rw[zbl];exact jj g5 (JL pF)
 ·rintro ys H' ⟨ras2,rfl,G⟩ t ht
  rw[wv (by rw[yv];exact ww _)]at G;have Nt:=G.done ht;exact q t ras2 _ (g02.trans (G.same.trans (zg ht _))) ⟨Nt.tab,g02.none Nt.ft,fun r hr=>g02.none (Nt.fr r hr),Nt.nd,Nt.nt⟩
structure MkIn(k:Int)(Ps X:Nat->Tb)(h q m:Nat):Prop where
 h1:1<=h
 h4:h<=4
 q1:1<=q
 q2:q<=2
 m1:1<=m
 m2:m<=2
 tr:∀ t,t<h+h->kac m (Ps t)=X t
 wh:∀ t,t<h+h->∀ r∈Ps t,∀ x∈r,whk k 190 x
theorem MkIn.oX{k:Int}{Ps X:Nat->Tb}{h q m:Nat}(I:MkIn k Ps X h q m)(ok:∀ t,t<h+h->La.OkM k m (Ps t)/\(Ps t).length=q):∀ t,t<h+h->La.OkM k q (X t)/\(X t).length=m:=fun t ht=>by
 have o:=ok t ht;have:=zL o.1;rw[o.2]at this;rw[← I.tr t ht];exact⟨this,zk m _⟩
theorem MkIn.wX{k:Int}{Ps X:Nat->Tb}{h q m:Nat}(I:MkIn k Ps X h q m)(ok:∀ t,t<h+h->La.OkM k m (Ps t)/\(Ps t).length=q):∀ t,t<h+h->∀ r∈X t,∀ x∈r,whk k 190 x:=fun t ht=>by
 rw[← I.tr t ht];exact ji (ok t ht).1 (I.wh t ht)
theorem MkIn.rows{k:Int}{Ps X:Nat->Tb}{h q m:Nat}(I:MkIn k Ps X h q m)(ok:∀ t,t<h+h->La.OkM k m (Ps t)/\(Ps t).length=q){a b:Nat}(ab:a+b<=h+h+1):La.rowsB 190 (sqT X a m b):=fun r hr =>
 zcM (by decide) (jK (I.oX ok) ab r hr).2 (zaw (I.oX ok) (I.wX ok) ab r hr)
theorem MkIn.small{k:Int}{Ps X:Nat->Tb}{h q m:Nat}(hk:kaa k)(I:MkIn k Ps X h q m)(ok:∀ t,t<h+h->La.OkM k m (Ps t)/\(Ps t).length=q){R:Tb}{ls:List Nat}(iR:IsRa k ((h+1)*q) R ls){s:Nat}(hs:s<=h)(e:SameR k R (sqT X (h+1) m s))(l:R.length<=h):La.rowsB 3056 R:=by
 have h4:=I.h4;have:=ze8 hk iR (g:=190) (by decide) ⟨_,jK (I.oX ok) (by omega),I.rows ok (by omega),e⟩;refine this.mono (wD (vp _ (pow2 (show R.length<=4 by omega))) (by decide))
def zbc:Sp:=fun vs H Q _=>∃(k:Int)(Ps X:Nat->Tb)(h q m:Nat)(hI:Int)(pm:Addr)(ts:List Addr),vs=[.int k,.ref pm,.int hI]/\hI =(h:Int)/\kaa k/\TsAt H k Ps (h+h) q m pm ts/\MkIn k Ps X h q m /\
 ∀ R ls s t rs H',Same H H'->kag H' R t rs->IsRa k ((h+1)*q) R ls->s<=h->SameR k R (sqT X (h+1) m s)->(s=h\/h<R.length\/∃ s',s=s'+1/\∀(F:Type) [Lean.Grind.Field F] (φ:La.Kf k F) (v:Nat->F),La.Rm φ (sqT X (h+1) m s) v->La.Rm φ (sqT X (h+1) m s') v)->Q (.ref t) H'
theorem zeY (D:Df K mg "room_of_answers" SG yK) (zfu:Kn P w K mg base "joined" 46 Sv zag) (xX:Kn P w K mg base "answers_from" 2 SF Zt) (zH:mg "range" = none) (m_len:mg "len" = none):Kn P w K mg base "room_of_answers" 47 SG zbc:=by
 refine D.kn sk (fun vs H Q E h=>?_) (fun f cdv A' outer s' H vs Q E hr h=>?_)
 ·obtain⟨k,Ps,X,h,q',m,hI,pm,ts,rfl,_⟩:=h;rfl
 obtain⟨k,Ps,X,h,q',m,hI,pm,ts,rfl,rfl,hk,hT,I,q⟩:=h;have szl:=Qa
 obtain⟨h1,h4,q1,q2,m1,m2⟩:=(⟨I.h1,I.h4,I.q1,I.q2,I.m1,I.m2⟩ : 1<=h/\h<=4/\1<=q'/\q'<=2/\1<=m/\m<=2);have oX:=I.oX hT.ok;have w10:(h+1)*q'<=10:=wD (vm (show h+1<=5 by omega) q2) (by decide);have big:(3056+1)*2^((h+1)*q')<=60000000:=wD (vp _ (pow2 w10)) (by decide);refine⟨_,(zc (zo (i:=3) sk.nd rfl (.inl rfl) (yq zd)) (zc (yt PassesOwn.never rfl (zR rfl zH (za (pv 2) zd)) (zI (i:=4) sk.nd rfl (.inl rfl)) (zc (zo (i:=5) sk.nd rfl (.inl rfl) (zF zfu hr (za (pv 0) (za (pv 3) (za (zF xX hr (za (pv 1) (za (pv 4) (za (zm yi (pv 2) ze) zd)))) zd))))) (zc (yb (PW.pt (pw_or (zu xb (zp zx rfl m_len zU (za (pv 5) zd)) (zp zx rfl m_len zU (za (pv 3) zd)) (kae _)) (pw_or1 (zu jJ (zp zx rfl m_len zU (za (pv 5) zd)) (pv 2) (kae _))))) (zh (zq (pv 5))) zJ) (zh (zo (i:=3) sk.nd rfl (.inl rfl) (pv 5)))))) (zh (zq (pv 3))))),?_⟩;refine⟨(by show 0<=sizeLine;decide),fun pt hpt=>?_⟩;have g0:=zg hpt (.lst []);have h0:upd H pt (.lst []) pt=some (.lst []):=zf;generalize upd H pt (.lst [])=H0 at *;refine⟨_,rfl,h,rfl,(by omega),(by omega),?_⟩;rw[wR];refine yp (lo:=0) (n:=h) (fun i σ H'=>∃(R:Tb)(ls:List Nat)(pr:Addr)(rr:List Addr)(o4 o5:Option V),σ=[some (.int k),some (.ref pm),some (.int (h:Int)),some (.ref pr),o4,o5]/\Same H H'/\kag H' R pr rr/\IsRa k ((h+1)*q') R ls/\SameR k R (sqT X (h+1) m i)/\R.length<=h) ⟨[],[],pt,[],none,none,rfl,g0,⟨h0,.nil⟩,zeM,(fun F _ φ v=>Iff.rfl),vA _⟩ ?_ ?_
 ·rintro i σ H1 hi ⟨R,ls,pr,rr,o4,o5,rfl,g1,hR,iR,eR,lR⟩
  have hT1:=hT.mono g1;refine⟨_,rfl,_,rfl,_,rfl,_,rfl,_,rfl,_,_,rfl,rfl,k,Ps,X,h+h,q',m,i,h+1,_,_,pm,ts,rfl,(by omega),(by omega),hT1,I.tr,by omega,by omega,by omega,by omega,q1,by omega,fun t1 r1 H2 g2 N1=>?_⟩;have oI:La.OkM k ((h+1)*q') (sqI X (h+1) i m):=fun r hr=>jK oX (a:=h+1) (b:=i+1) (by omega) r (wE _ hr)
  have bI:La.rowsB 190 (sqI X (h+1) i m):=fun r hr=>I.rows hT.ok (a:=h+1) (b:=i+1) (by omega) r (wE _ hr)
  have sR:=I.small hk hT.ok iR (by omega) eR lR;refine⟨k,R,sqI X (h+1) i m,(h+1)*q',3056,pr,t1,rr,r1,rfl,hk,hR.mono g2,N1.tab,(zaW hk iR).1,oI,sR,bI.mono (by decide),by decide,big,by omega,by omega,(by rw[yv];omega),fun W lw tw rw' H3 g3 NW red=>?_⟩;have iW:=zeW red;have eW:SameR k W (sqT X (h+1) m (i+1)):=fun F _ φ v=>by
   have h1:La.Rm φ W v↔La.Rm φ (R++sqI X (h+1) i m) v:=⟨(red F φ).fro v,(red F φ).to v⟩;exact h1.trans (zfP eR F φ v)
  have g13:=(g1.trans g2).trans g3;have hR3:=hR.mono (g2.trans g3);have lw1:=zj NW.tab.2;have lr1:=zj hR3.2;refine⟨_,rfl,tw,_,rfl,.inl (SqL.of NW.tab.1),_,rfl,pr,_,rfl,.inl (SqL.of hR3.1),rfl,_,rfl,?_⟩;rw[wa,wa,← lw1,← lr1];have fin:(h<W.length\/W.length=R.length)->Q (.ref tw) H3:=fun c=>by
   refine q W lw (i+1) tw rw' H3 g13 NW.tab iW (by omega) eW ?_
   rcases c with c|c
   ·exact .inr (.inl c)
   ·refine .inr (.inr ⟨i,rfl,fun F _ φ v hv=>?_⟩);have sub:=(iR F φ).sub_len (iW F φ) fun v hv=>(eW F φ v).mpr (La.zdT (fun r hr=>wP _ hr) ((eR F φ v).mp hv))
    exact(eR F φ v).mp (sub.2 (by omega) v ((eW F φ v).mpr hv))
  refine ite2 (fun d=>?_) (fun d=>?_)
  ·exact iteT ⟨_,rfl,fin (.inr (by have:=V.int.inj (of_decide_eq_true d);omega))⟩
  have d1:W.length≠R.length:=fun e=>d (decide_eq_true (by rw[e]))
  refine⟨_,rfl,tw,_,rfl,.inl (SqL.of NW.tab.1),_,rfl,_,_,rfl,rfl,_,rfl,?_⟩;rw[wa,← lw1];refine ite2 (fun d=>?_) (fun d=>?_)
  ·exact⟨_,rfl,fin (.inl (by have:=of_decide_eq_true d;omega))⟩
  ·have d2:W.length<=h:=by
    rcases wK h W.length with z|z
    ·exact absurd (decide_eq_true (by omega)) d
    ·exact z
   exact⟨_,rfl,W,lw,tw,rw',_,_,rfl,g13,NW.tab,iW,eW,d2⟩
 ·rintro σ H1 ⟨R,ls,pr,rr,o4,o5,rfl,g1,hR,iR,eR,lR⟩
  exact⟨_,rfl,q R ls h pr rr H1 g1 hR iR (ww h) eR (.inl rfl)⟩
theorem qS{K:PySem.W.Frag}{te:TE}{σb:L2.St}{t:Addr}{ras:List Addr}{M:Tb}{H:Hp}{R:List V->Hp->Prop}(f:List Nb->List Nb)(hT:kag H M t ras)(hz:M.length<sizeLine)
  (hte:∀(r:List Nb)(a:Addr)(H':Hp)(Q:VK),r∈M->Same H H'->kak H' r a->(∀(p:Addr)(us:List V)(H2:Hp),Same H' H2->H2 p=none->Paired (RN H2) (f r) us->Q (.ref p) (upd H2 p (.lst us)))->te (σb.set 0 (some (.ref a))) H' Q)
  (hd:∀(ras2:List Addr)(H':Hp),Grow H H' (M.map f) ras2->R (ras2.map V.ref) H') :
  ∃ W:Nat->Nat->List V->Hp->Prop,(∃ m,W 0 m [] H)/\∀ i m ys H,W i m ys H ->
   ((Itl K t).stop i H/\ys.length<=sizeLine/\R ys H) \/
   ((Itl K t).go i H/\ys.length<sizeLine/\∀ x H',(Itl K t).yld i H x H'->gName 0 x σb H' fun σ2 H2=>tTrue σ2 H2 fun b H3=>if b=true then te σ2 H3 fun y H4=>∃ m',m'<m/\W (i+1) m' (ys++[y]) H4 else ∃ m',m'<m/\W (i+1) m' ys H3):=by
 have hl:=zj hT.2;refine zO (xs:=ras.map V.ref) (fun i ys H'=>∃ ras2,ys=ras2.map V.ref/\Grow H H' ((M.map f).take i) ras2) ⟨[],rfl,Grow.nil H (Same.refl H)⟩ ?_ ?_ ?_
 ·rintro i ys H' hi ⟨ras2,rfl,G⟩
  refine⟨SqL.of (G.same _ _ hT.1),?_⟩;have:=zj G.rows;rw[wr,wa]at this;rw[wa];omega
 ·rintro i v ys H' hv hi ⟨ras2,rfl,G⟩
  obtain⟨row,a,hrow,ha,rfl,hR⟩:=(hT.mono G.same).row hv;refine gyes (hte row a H' _ (wd hrow) G.same hR fun p us H2 g2 hp pu=>?_);refine nxt hi ⟨ras2++[p],by rw[wu];rfl,?_⟩;have e:(M.map f)[i]?=some (f row):=by rw[we,hrow];rfl
  rw[zy e];exact(G.mono g2).snoc hp pu
 ·rintro ys H' ⟨ras2,rfl,G⟩
  rw[wa,← hl,wv (by rw[wa];exact ww _)]at G;exact hd ras2 H' G
theorem cut0{xs:List V}(q:Nat)(h:q<=xs.length):cutV xs none (some (q:Int))=xs.take q:=by
 unfold cutV;rw[HT.qK,wad,GM,HT.Yt,gP h]
theorem Qg{K:PySem.W.Frag}{te:TE}{σb:L2.St}{pl a:Addr}{ls:List Nat}{o n:Nat}{row:List Nb}{H:Hp}{R:List V->Hp->Prop}(hL:H pl=some (.lst (natV ls)))(hR:kak H row a)(lr:row.length=n)(ld:∀ l∈ls,o+l<n)(l10:ls.length<=1000)
  (hte:∀(l:Nat)(v:V)(Q:VK),l∈ls->(∃ us,H a=some (.lst us)/\us[o+l]?=some v)->Q v H->te (σb.set 0 (some (.int (l:Int)))) H Q)
  (hd:∀ us,Paired (RN H) (pkR ls o row) us->R us H) :
  ∃ W:Nat->Nat->List V->Hp->Prop,(∃ m,W 0 m [] H)/\∀ i m ys H,W i m ys H ->
   ((Itl K pl).stop i H/\ys.length<=sizeLine/\R ys H) \/
   ((Itl K pl).go i H/\ys.length<sizeLine/\∀ x H',(Itl K pl).yld i H x H'->gName 0 x σb H' fun σ2 H2=>tTrue σ2 H2 fun b H3=>if b=true then te σ2 H3 fun y H4=>∃ m',m'<m/\W (i+1) m' (ys++[y]) H4 else ∃ m',m'<m/\W (i+1) m' ys H3):=by
 have szl:=Qa
 have ln:(natV ls).length=ls.length:=wa _;obtain⟨us,hu,pu,lu⟩:=hR.len;refine zO (xs:=natV ls) (fun i ys H'=>H'=H/\Paired (RN H) ((pkR ls o row).take i) ys) ⟨rfl,.nil⟩ ?_ ?_ ?_
 ·rintro i ys H' hi ⟨rfl,pr⟩
  refine⟨SqL.of hL,?_⟩;have:=zj pr;rw[wr]at this;rw[ln]at hi;omega
 ·rintro i v ys H' hv hi ⟨rfl,pr⟩
  unfold natV at hv;rw[we]at hv;obtain⟨l,hl,rfl⟩:=wG.mp hv;have g:=(ZZ (k:=0) lr (ld l (wd hl)) (.z 0)).1;obtain⟨u,eu,ru⟩:=yl pu g;refine gyes (hte l u _ (wd hl) ⟨us,hu,eu⟩ (nxt hi ⟨rfl,?_⟩));have e:(pkR ls o row)[i]?=some (row.getD (o+l) (.z 0)):=by unfold pkR;rw[we,hl];rfl
  rw[zy e];exact zZ pr ru
 ·rintro ys H' ⟨rfl,pr⟩
  rw[ln,wv (by unfold pkR;rw[wa];exact ww _)]at pr;exact hd ys pr
def zac:Sp:=fun vs H Q _=>∃(k:Int)(Ps X:Nat->Tb)(h q m:Nat)(R:Tb)(ls:List Nat)(pm t pl:Addr)(ts rs:List Addr),vs=[.ref pm,.ref t,.ref pl]/\TsAt H k Ps (h+h) q m pm ts/\MkIn k Ps X h q m/\kag H R t rs/\H pl=some (.lst (natV ls))/\La.OkM k ((h+1)*q) R/\ls.length=R.length/\1<=R.length/\R.length<=10/\(∀ l∈ls,l<h*q) /\
 ∀ p ta tb tc ra rb rc H',Same H H'->kat H' (mA q R ls) (mB X (h+h) m ls) (mC q R) p ta tb tc ra rb rc->Q (.ref p) H'
theorem zeI (D:Df K mg "machine_on" SH xS) (yI:Kn P w K mg base "turned" 1 SD xq) (xX:Kn P w K mg base "answers_from" 2 SF Zt) (m_len:mg "len" = none):Kn P w K mg base "machine_on" 3 SH zac:=by
 refine D.kn sQ (fun vs H Q E h=>?_) (fun f cdv A' outer s' H vs Q E hr h=>?_)
 ·obtain⟨k,Ps,X,h,q',m,R,ls,pm,t,pl,ts,rs,rfl,_⟩:=h;rfl
 obtain⟨k,Ps,X,h,q',m,R,ls,pm,t,pl,ts,rs,rfl,hT,I,hR,hL,oR,ll,r1,r10,ld,q⟩:=h;have szl:=Qa
 obtain⟨h1,h4,q1,q2,m1,m2⟩:=(⟨I.h1,I.h4,I.q1,I.q2,I.m1,I.m2⟩ : 1<=h/\h<=4/\1<=q'/\q'<=2/\1<=m/\m<=2);have oX:=I.oX hT.ok;have w10:(h+1)*q'<=10:=wD (vm (show h+1<=5 by omega) q2) (by decide);have wq:(h+1)*q'=h*q'+q':=by rw[vt,vw]
 have ldA:∀ l∈ls,q'+l <(h+1)*q':=fun l hl=>by have:=ld l hl;omega
 have ld2:∀ l∈ls,l <(h+h)*q':=fun l hl=>by have:=ld l hl;rw[vt];omega
 obtain⟨a0,rs0,e0,T0⟩:=hT.tab 0 (by omega);have l0:=zj T0.2;rw[(hT.ok 0 (by omega)).2]at l0;refine⟨_,(zc (zo (i:=3) sQ.nd rfl (.inr rfl) (zp zx rfl m_len zU (za (zt zi (pv 0) ze) zd))) (zc (zo (i:=4) sQ.nd rfl (.inl rfl) (zF xX hr (za (pv 0) (za ze (za (zp zx rfl m_len zU (za (pv 0) zd)) zd))))) (zc (zo (i:=5) sQ.nd rfl (.inl rfl) (zF yI hr (za (yM ["leads", "sights"] [2,3] (zw (pv 1)) fun _ _ _ _ _ _=>⟨zM,(yM ["row", "sights"] [0,2] (zw (pv 1)) fun _ _ _ _ _ _=>⟨zM,(zt zi (pv 1) (zm yi (pv 2) (pv 0)))⟩)⟩) zd))) (zc (zo (i:=6) sQ.nd rfl (.inl rfl) (zF yI hr (za (yM ["leads"] [2] (zw (pv 4)) fun _ _ _ _ _ _=>⟨zM,(yM ["row"] [0] (zw (pv 1)) fun _ _ _ _ _ _=>⟨zM,(zt zi (pv 1) (pv 0))⟩)⟩) zd))) (zh (zq (yy (za (pv 5) (za (pv 6) (za (zF yI hr (za (yM ["sights"] [3] (zw (pv 1)) fun _ _ _ _ _ _=>⟨zM,(xv ZV (pv 0) jO (xY (pv 1)))⟩) zd)) zd)))))))))),?_⟩;refine⟨_,rfl,pm,_,_,.ref a0,rfl,rfl,SqL.of hT.lst,zD (j:=0) (by rw[we,e0];rfl),a0,_,rfl,.inl (SqL.of T0.1),?_⟩;rw[wa,← l0];refine⟨_,rfl,_,rfl,pm,_,rfl,.inl (SqL.of hT.lst),?_⟩;rw[wa,hT.len];refine⟨k,Ps,X,h+h,q',m,0,h+h,_,_,pm,ts,rfl,rfl,rfl,hT,I.tr,by omega,by omega,by omega,by omega,q1,by omega,fun tf rf H1 g1 NF=>?_⟩;have hR1:=hR.mono g1;have hL1:=g1 _ _ hL;have oI:La.OkM k ((h+h)*q') (sqI X (h+h) 0 m):=fun r hr=>by
  obtain⟨l,hl,rfl⟩:=(qD m).mp hr;exact qL oX hl (h+h) (by omega)
 refine⟨_,rfl,t,rfl,⟨_,SqL.of hR1.1⟩,?_⟩;refine qS (pkR ls q') hR1 (by omega) (fun r a H2 Q2 hr2 g2 ha hq=>?_) ?_
 ·refine⟨_,rfl,pl,rfl,⟨_,SqL.of (g2 _ _ hL1)⟩,?_⟩;exact Qg (g2 _ _ hL1) ha (oR r hr2).1 ldA (by omega) (fun l v Q3 hl ⟨us,hu,eu⟩ h3=>⟨_,rfl,_,rfl,_,rfl,_,_,rfl,rfl,a,_,_,v,rfl,rfl,SqL.of hu,(by rw[show(q':Int) +(l:Int) =((q'+l:Nat):Int) by omega];exact zD eu),h3⟩) fun us pu p hp=>hq p us H2 (Same.refl _) hp pu
 intro ras2 H2 G2 pn hpn;have N2:=G2.done hpn;have g2:=G2.same.trans (zg hpn (.lst (ras2.map V.ref)));generalize upd H2 pn (.lst (ras2.map V.ref))=H3 at *;have oA0:=Jc oR ldA;refine⟨R.map (pkR ls q'),ls.length,pn,ras2,rfl,N2.tab,(fun e=>by have:=congrArg gy e;rw[wa]at this;simp at this;rw[this]at r1;simp at r1),(fun r hr=>(oA0 r hr).1),by omega,(by rw[wa];omega),fun tA rA H4 g4 NA=>?_⟩;have g14:=g2.trans g4;have hF4:=NF.tab.mono g14;have hL4:=g14 _ _ hL1;refine⟨_,rfl,tf,rfl,⟨_,SqL.of hF4.1⟩,?_⟩;refine qS (pkR ls 0) hF4 (by rw[yv];omega) (fun r a H5 Q2 hr2 g5 ha hq=>?_) ?_
 ·refine⟨_,rfl,pl,rfl,⟨_,SqL.of (g5 _ _ hL4)⟩,?_⟩;exact Qg (g5 _ _ hL4) ha (oI r hr2).1 (fun l hl=>by rw[vS];exact ld2 l hl) (by omega) (fun l v Q3 hl ⟨us,hu,eu⟩ h3=>⟨_,rfl,_,rfl,a,_,_,v,rfl,rfl,SqL.of hu,zD (by rw[vS]at eu;exact eu),h3⟩) fun us pu p hp=>hq p us H5 (Same.refl _) hp pu
 intro ras5 H5 G5 pn5 hpn5;have N5:=G5.done hpn5;have g5:=G5.same.trans (zg hpn5 (.lst (ras5.map V.ref)));generalize upd H5 pn5 (.lst (ras5.map V.ref))=H6 at *;have oB0:=Jc oI (o:=0) (ls:=ls) fun l hl=>by rw[vS];exact ld2 l hl
 refine⟨(sqI X (h+h) 0 m).map (pkR ls 0),ls.length,pn5,ras5,rfl,N5.tab,(fun e=>by have:=congrArg gy e;rw[wa,yv]at this;simp at this;omega),(fun r hr=>(oB0 r hr).1),by omega,(by rw[wa,yv];omega),fun tB rB H7 g7 NB=>?_⟩;have g47:=g5.trans g7;have hR7:=(hR1.mono g14).mono g47;refine⟨_,rfl,_,rfl,_,rfl,t,rfl,⟨_,SqL.of hR7.1⟩,?_⟩;refine qS (uv q') hR7 (by omega) (fun r a H8 Q2 hr2 g8 ha hq=>?_) ?_
 ·obtain⟨us,hu,pu,lu⟩:=ha.len;refine⟨_,rfl,_,rfl,_,rfl,a,_,rfl,SqL.of hu,fun p hp=>?_⟩;have lr:=(oR r hr2).1;rw[cut0 q' (by omega)];exact hq p _ H8 (Same.refl _) hp (zfm pu q')
 intro ras8 H8 G8 pn8 hpn8;have N8:=G8.done hpn8;have g8:=G8.same.trans (zg hpn8 (.lst (ras8.map V.ref)));generalize upd H8 pn8 (.lst (ras8.map V.ref))=H9 at *;have oC0:∀ r∈R.map (uv q'),r.length=q':=fun r hr=>by
  obtain⟨x,hx,rfl⟩:=wg.mp hr;rw[wr,(oR x hx).1];omega
 refine⟨R.map (uv q'),q',pn8,ras8,rfl,N8.tab,(fun e=>by have:=congrArg gy e;rw[wa]at this;simp at this;rw[this]at r1;simp at r1),oC0,by omega,(by rw[wa];omega),fun tC rC H10 g10 NC=>?_⟩;refine⟨(by show 3<=sizeLine;decide),fun p hp=>?_⟩;have g11:=zg hp (.tup [.ref tA,.ref tB,.ref tC]);have g710:=g8.trans g10;exact q p tA tB tC rA rB rC _ (((((g1.trans g14).trans g47).trans g710).trans g11)) ⟨zf,((NA.tab.mono g47).mono g710).mono g11,(NB.tab.mono g710).mono g11,NC.tab.mono g11⟩
theorem Yz{H:Hp}{Ms:Nat->Tb}{N:Nat}{ts:List Addr}{p:Addr}(h:H p=some (.lst (ts.map V.ref)))(l:ts.length=N)(tabs:∀ t,t<N->∃ a rs,ts[t]?=some a/\kag H (Ms t) a rs):Rp H (tabsD ((vd N).map Ms)) (.ref p):=by
 refine zdD h (zdh tabD _ _ (by rw[wa,wa,vT,l]) fun i M v h1 h2=>?_);rw[we]at h1 h2;obtain⟨t,ht,rfl⟩:=wG.mp h2;have hi:i<N:=by rw[← l];exact(wp.mp ht).1
 rw[ur hi]at h1;obtain⟨a,rs,e,T⟩:=tabs i hi;rw[ht]at e;cases e;cases h1;exact T.rp
def zeo:Sp:=fun vs H Q _=>∃(k:Int)(Ps:Nat->Tb)(N q m r:Nat)(A B C:Tb)(pm p ta tb tc:Addr)(ts ra rb rc:List Addr),vs=[.int k,.ref p,.ref pm]/\kaa k/\TsAt H k Ps N q m pm ts/\N<=8/\kat H A B C p ta tb tc ra rb rc/\(La.OkM k r A/\A.length=r)/\(La.OkM k m B/\B.length=r)/\(La.OkM k r C/\C.length=q)/\SzM k m A B C/\1<=r/\r<=4/\m<=10/\q<=10 /\
 ∀ H',Same H H'->Q (.bl (decide (marksM k r m A B C N =(vd N).map Ps))) H'
theorem zg0 (D:Df K mg "has_marks" SI jz) (zgI:Kn P w K mg base "marks" 46 SE zbn) (m_len:mg "len" = none):Kn P w K mg base "has_marks" 47 SI zeo:=by
 refine D.kn QA (fun vs H Q E h=>?_) (fun f cdv A' outer s' H vs Q E hr h=>?_)
 ·obtain⟨k,Ps,N,q',m,r,A,B,C,pm,p,ta,tb,tc,ts,ra,rb,rc,rfl,_⟩:=h;rfl
 obtain⟨k,Ps,N,q',m,r,A,B,C,pm,p,ta,tb,tc,ts,ra,rb,rc,rfl,hk,hT,N8,hM,oA,oB,oC,S,r1,r4,m10,q10,q⟩:=h;refine⟨_,(zh (zq (yE (Ym hr) (zF zgI hr (za (pv 0) (za (pv 1) (za (zp zx rfl m_len zU (za (pv 2) zd)) zd)))) (pv 2) (kae _)))),?_⟩;refine⟨_,rfl,_,rfl,_,rfl,pm,_,rfl,.inl (SqL.of hT.lst),?_⟩;rw[wa,hT.len];have big:(r+2)*120000<=20000000:=wD (vh _ (show r+2<=6 by omega)) (by decide);refine⟨k,A,B,C,r,m,q',120000,N,p,ta,tb,tc,ra,rb,rc,rfl,hk,hM,Xl hk oA oB oC S,(fun i hi=>zfN hk r4 oA oB oC S (by omega)),r1,by omega,by decide,big,by omega,by omega,fun pt ts' rs' H1 G h1 _ _ _=>?_⟩;refine⟨_,rfl,tabsD (marksM k r m A B C N),tabsD ((vd N).map Ps),G.rp h1,Yz (G.same _ _ hT.lst) hT.len (hT.mono G.same).tab,jn _,jn _,wD (vI _ _) (wD (qE _) (by decide)),?_⟩;have e:=q H1 G.same;rw[← zeS]at e;exact e
def Qu:Sp:=fun vs H Q _=>∃(k:Int)(q m r:Nat)(A B C:Tb)(p ta tb tc:Addr)(ra rb rc:List Addr),vs=[.ref p]/\kat H A B C p ta tb tc ra rb rc/\(La.OkM k r A/\A.length=r)/\(La.OkM k m B/\B.length=r)/\(La.OkM k r C/\C.length=q)/\1<=r/\r<=10/\m<=10/\1<=q/\q<=10 /\
 ∀ p ta tb tc ra rb rc H',Same H H'->kat H' (kac r A) (kac r C) (kac m B) p ta tb tc ra rb rc->Q (.ref p) H'
theorem zem (D:Df K mg "mirrored" ["machine"] qs) (yI:Kn P w K mg base "turned" 1 SD xq):Kn P w K mg base "mirrored" 2 ["machine"] Qu:=by
 refine D.kn zaQ (fun vs H Q E h=>?_) (fun f cdv A' outer s' H vs Q E hr h=>?_)
 ·obtain⟨k,q',m,r,A,B,C,p,ta,tb,tc,ra,rb,rc,rfl,_⟩:=h;rfl
 obtain⟨k,q',m,r,A,B,C,p,ta,tb,tc,ra,rb,rc,rfl,hM,oA,oB,oC,r1,r10,m10,q1,q10,q⟩:=h;have szl:=Qa
 have ne:∀ {M:Tb} {n:Nat},M.length=n->1<=n->M≠[]:=fun l h e=>by rw[e]at l;simp at l;omega
 refine⟨_,(zh (zq (yy (za (zF yI hr (za (zt zE (pv 0) ze) zd)) (za (zF yI hr (za (zt zE (pv 0) ze) zd)) (za (zF yI hr (za (zt zE (pv 0) ze) zd)) zd)))))),?_⟩;refine⟨_,rfl,p,_,_,.ref ta,rfl,rfl,SqT.of hM.tup,rfl,A,r,ta,ra,rfl,hM.a,ne oA.2 r1,(fun x hx=>(oA.1 x hx).1),by omega,(by rw[oA.2];omega),fun t1 r1' H1 g1 N1=>?_⟩;have hM1:=hM.mono g1;refine⟨_,rfl,p,_,_,.ref tc,rfl,rfl,SqT.of hM1.tup,rfl,C,r,tc,rc,rfl,hM1.c,ne oC.2 q1,(fun x hx=>(oC.1 x hx).1),by omega,(by rw[oC.2];omega),fun t2 r2' H2 g2 N2=>?_⟩;have hM2:=hM1.mono g2;refine⟨_,rfl,p,_,_,.ref tb,rfl,rfl,SqT.of hM2.tup,rfl,B,m,tb,rb,rfl,hM2.b,ne oB.2 r1,(fun x hx=>(oB.1 x hx).1),by omega,(by rw[oB.2];omega),fun t3 r3' H3 g3 N3=>?_⟩;refine⟨(by show 3<=sizeLine;decide),fun p' hp=>?_⟩;have g4:=zg hp (.tup [.ref t1,.ref t2,.ref t3]);exact q p' t1 t2 t3 r1' r2' r3' _ (((g1.trans g2).trans g3).trans g4) ⟨zf,((N1.tab.mono g2).mono g3).mono g4,(N2.tab.mono g3).mono g4,N3.tab.mono g4⟩
theorem half2(h:Nat):(((h+h:Nat):Int)).fdiv 2 =(h:Int):=by
 rw[gb _ (by decide)];omega
def MachP(k:Int)(X:Nat->Tb)(h q m r:Nat)(A B C:Tb):Prop:=1<=r/\r<=h/\(La.OkM k r A/\A.length=r)/\(La.OkM k m B/\B.length=r)/\(La.OkM k r C/\C.length=q)/\SzM k m A B C/\∀(F:Type) [Lean.Grind.Field F] (φ:La.Kf k F),RkX φ X h q m r/\MkV φ X (h+h) m q r A (kac m B) (fun s=>La.nv φ (C.getD s []))
def XS:Sp:=fun vs H Q _=>∃(k:Int)(Ps X:Nat->Tb)(h q m:Nat)(pm:Addr)(ts:List Addr),vs=[.int k,.ref pm]/\kaa k/\TsAt H k Ps (h+h) q m pm ts/\MkIn k Ps X h q m /\
 (∀ H',Same H H'->(∀(F:Type) [Lean.Grind.Field F] (φ:La.Kf k F) (r:Nat),1<=r->r<=h->¬ RkX φ X h q m r)->Q .non H') /\
 ∀ r A B C p ta tb tc ra rb rc H',Same H H'->kat H' A B C p ta tb tc ra rb rc->MachP k X h q m r A B C->Q (.ref p) H'
theorem zcC (hP:P.given.tree=none) (hS:base.NoSeer) (D:Df K mg "least_of" SJ qb) (zay:Kn P w K mg base "has_marks" 47 SI zeo) (zat:Kn P w K mg base "machine_on" 3 SH zac) (zev:Kn P w K mg base "lead_of" 2 Sy zdS) (Zw:Kn P w K mg base "room_of_answers" 47 SG zbc) (m_len:mg "len" = none):Kn P w K mg base "least_of" 48 SJ XS:=by
 refine D.kn Se (fun vs H Q E h=>?_) (fun f cdv A' outer s' H vs Q E hr h=>?_)
 ·obtain⟨k,Ps,X,h,q',m,pm,ts,rfl,_⟩:=h;rfl
 obtain⟨k,Ps,X,h,q',m,pm,ts,rfl,hk,hT,I,qN,qM⟩:=h;have szl:=Qa
 obtain⟨h1,h4,q1,q2,m1,m2⟩:=(⟨I.h1,I.h4,I.q1,I.q2,I.m1,I.m2⟩ : 1<=h/\h<=4/\1<=q'/\q'<=2/\1<=m/\m<=2);have oX:=I.oX hT.ok;refine⟨_,(zc (zo (i:=2) Se.nd rfl (.inl rfl) (zm (zQ hr (by decide) hP hS ⟨_,_,rfl,rfl,rfl,rfl,rfl⟩) (zp zx rfl m_len zU (za (pv 1) zd)) ze)) (zc (zo (i:=3) Se.nd rfl (.inl rfl) (zF Zw hr (za (pv 0) (za (pv 1) (za (pv 2) zd))))) (zc (ZK 4 Se.nd ["kind"] [0] (zw (pv 3)) fun _ _ _ _ _ _=>⟨zM,(zF zev hr (za (pv 1) (za (pv 0) zd)))⟩) (zc (yb (PW.pt (pw_or (zu xb (zp zx rfl m_len zU (za (pv 3) zd)) ze (kae _)) (pw_or (zu jJ (zp zx rfl m_len zU (za (pv 3) zd)) (pv 2) (kae _)) (pw_or1 (zu zhQ (zt zi (pv 4) (zcz XE ze)) (zm zS (pv 2) (zp zx rfl m_len zU (za (zt zi (pv 1) ze) zd))) (kae _)))))) (zh (zq zdR)) zJ) (zc (zo (i:=5) Se.nd rfl (.inl rfl) (zF zat hr (za (pv 1) (za (pv 3) (za (pv 4) zd))))) (zh (zq (Jo (yT (zF zay hr (za (pv 0) (za (pv 5) (za (pv 1) zd))))) (pv 5) zdR)))))))),?_⟩;refine⟨_,rfl,pm,_,rfl,.inl (SqL.of hT.lst),_,_,rfl,rfl,by decide,?_⟩;rw[wa,hT.len,half2];refine⟨_,rfl,_,rfl,_,rfl,k,Ps,X,h,q',m,_,pm,ts,rfl,rfl,hk,hT,I,fun R ls s t rs H1 g1 hR iR sh eR st=>?_⟩;obtain⟨oR,lls,inc,llt⟩:=zaW hk iR;obtain⟨F0,i0,d0,⟨φ0⟩⟩:=La.yQ hk;have lrs:=zj hR.2;have w10:(h+1)*q'<=10:=wD (vm (show h+1<=5 by omega) q2) (by decide);have wq:(h+1)*q'=h*q'+q':=by rw[vt,vw]
 have lR10:=zfI hk iR;have hT1:=hT.mono g1;have full:∀(F:Type) [Lean.Grind.Field F] (φ:La.Kf k F) (r:Nat),r<=h->RkX φ X h q' m r->R.length=r/\(∀ l∈ls,l<h*q')/\MkV φ X (h+h) m q' R.length (mA q' R ls) (kac m (mB X (h+h) m ls)) (fun s=>La.nv φ ((mC q' R).getD s [])):=fun F _ φ r rh K=>by
  have st':s=h\/h<R.length\/∃ s',s=s'+1/\∀ v,La.Rm φ (sqT X (h+1) m s) v->La.Rm φ (sqT X (h+1) m s') v:=by
   rcases st with e|e|⟨s',e,z⟩
   ·exact .inl e
   ·exact .inr (.inl e)
   ·exact .inr (.inr ⟨s',e,fun v=>z F φ v⟩)
  have a:=QB hk oX q1 h1 (iR F φ) sh (eR F φ) st' K rh;exact⟨a.2.1,a.2.2,zcj hk oX q1 h1 (iR F φ) sh (eR F φ) st' K rh⟩
 refine⟨_,rfl,t,rfl,⟨_,SqL.of hR.1⟩,?_⟩;refine zO (xs:=rs.map V.ref) (fun i ys H'=>Same H1 H'/\ys=natV (ls.take i)) ⟨Same.refl _,rfl⟩ ?_ ?_ ?_
 ·rintro i ys H' hi ⟨g,rfl⟩
  refine⟨SqL.of (g _ _ hR.1),?_⟩;unfold natV;rw[wa,wr];omega
 ·rintro i v ys H' hv hi ⟨g,rfl⟩
  obtain⟨row,a,hrow,ha,rfl,hRr⟩:=(hR.mono g).row hv;have iR':i<R.length:=(wp.mp hrow).1;obtain⟨l,hl⟩ : ∃ l,ls[i]?=some l:=⟨ls[i]'(by omega),wb (by omega)⟩;obtain⟨ln,lz,l1⟩:=zgW hk (iR F0 φ0) hrow hl
  first|refine gyes ?_|refine tyes ?_
  refine⟨_,rfl,_,rfl,k,row,a,l,_,rfl,hRr,lz,l1,num01 hk,fun H2 g2=>nxt hi ⟨g.trans g2,?_⟩⟩;rw[zy hl];unfold natV;rw[wu];rfl
 rintro ys H2 ⟨g2,rfl⟩ pL hpL
 rw[wa,wv (by omega)];have g3:=(g1.trans g2).trans (zg hpL (.lst (natV ls)));have hR3:=(hR.mono g2).mono (zg hpL (.lst (natV ls)));have hL3:upd H2 pL (.lst (natV ls)) pL=some (.lst (natV ls)):=zf;generalize upd H2 pL (.lst (natV ls))=H3 at *;have hT3:=hT.mono g3;refine⟨_,rfl,t,_,rfl,.inl (SqL.of hR3.1),rfl,_,rfl,?_⟩;rw[wa,← lrs];refine ite2 (fun d=>?_) (fun d=>?_)
 ·have e0:R.length=0:=by have:=V.int.inj (of_decide_eq_true d);omega
  exact iteT (qN H3 g3 fun F _ φ r r1 rh K=>by have:=(full F φ r rh K).1;omega)
 have r1:1<=R.length:=by
  rcases uI R.length with e|e
  ·exact absurd (decide_eq_true (by rw[e];rfl)) d
  ·exact e
 refine⟨_,rfl,t,_,rfl,.inl (SqL.of hR3.1),_,rfl,_,_,rfl,rfl,_,rfl,?_⟩;rw[wa,← lrs];refine ite2 (fun d=>?_) (fun d=>?_)
 ·have e0:h<R.length:=by have:=of_decide_eq_true d;omega
  exact iteT (qN H3 g3 fun F _ φ r r1 rh K=>by have:=(full F φ r rh K).1;omega)
 have rh:R.length<=h:=by
  rcases wK h R.length with z|z
  ·exact absurd (decide_eq_true (by omega)) d
  ·exact z
 obtain⟨ls',y,ey⟩ : ∃ ls' y,ls=ls'++[y]:=by
  rcases gJ ls with e|⟨ls',y,e⟩
  ·rw[e]at lls;simp at lls;omega
  ·exact⟨ls',y,by rw[e,GK]⟩
 obtain⟨a0,rs0,e0,T0⟩:=hT3.tab 0 (by omega);have l0:=zj T0.2;rw[(hT.ok 0 (by omega)).2]at l0;refine⟨_,rfl,_,rfl,pL,_,_,.int (y:Int),rfl,rfl,SqL.of hL3,(by rw[ey];unfold natV;rw[wu];exact zfx _ _),_,rfl,_,rfl,pm,_,_,.ref a0,rfl,rfl,SqL.of hT3.lst,zD (j:=0) (by rw[we,e0];rfl),a0,_,rfl,.inl (SqL.of T0.1),_,_,rfl,rfl,zY (by omega) (by omega),_,_,rfl,rfl,_,rfl,?_⟩;rw[wa,← l0,show(h:Int) *(q':Int) =((h*q':Nat):Int) by rw[uM]];refine ite2 (fun d=>?_) (fun d=>?_)
 ·have e1:h*q'<=y:=by have:=of_decide_eq_true d;omega
  exact qN H3 g3 fun F _ φ r r1 rh K=>by have:=(full F φ r rh K).2.1 y (by rw[ey];exact wE _ wk);omega
 have hy:y<h*q':=by
  rcases wK y (h*q')with z|z
  ·exact z
  ·exact absurd (decide_eq_true (by omega)) d
 have ld:∀ l∈ls,l<h*q':=fun l hl=>by
  rw[ey]at hl inc
  rcases wt.mp hl with g|g
  ·exact Gv ((uV.mp inc).2.2 l g y (wm.mpr rfl)) hy
  ·rw[wm.mp g];exact hy
 have ldA:∀ l∈ls,q'+l <(h+1)*q':=fun l hl=>by have:=ld l hl;omega
 have ld2:∀ l∈ls,l <(h+h)*q':=fun l hl=>by have:=ld l hl;rw[vt];omega
 have bR:=I.small hk hT.ok iR sh eR rh;have oA:=zhk oR ldA lls;have oB:=zhY oX ld2;rw[lls]at oB;have oC:=zif oR (q:=q') (by omega);have S:=zh0 hk oR ldA (by omega) lls (by omega) bR oX ld2 (I.wX hT.ok);refine⟨_,rfl,_,rfl,_,rfl,k,Ps,X,h,q',m,R,ls,pm,t,pL,ts,rs,rfl,hT3,I,hR3,hL3,oR,lls,r1,by omega,ld,fun p ta tb tc ra rb rc H4 g4 hM=>?_⟩;refine⟨_,rfl,_,rfl,_,rfl,k,Ps,h+h,q',m,R.length,mA q' R ls,mB X (h+h) m ls,mC q' R,pm,p,ta,tb,tc,ts,ra,rb,rc,rfl,hk,hT3.mono g4,by omega,hM,oA,oB,oC,S,r1,by omega,by omega,by omega,fun H5 g5=>⟨_,rfl,?_⟩⟩;have g35:=(g3.trans g4).trans g5;refine ite2 (fun d=>?_) (fun d=>?_)
 ·have e:=of_decide_eq_true d;refine⟨_,rfl,qM R.length _ _ _ p ta tb tc ra rb rc H5 g35 (hM.mono g5) ⟨r1,rh,oA,oB,oC,S,fun F _ φ=>?_⟩⟩;have mk:=(Qy hk (by omega) oA oB oC S φ hT.ok I.tr).mp e;have oBt:=zL oB.1;rw[oB.2]at oBt;exact⟨zcA hk oX q1 rfl h1 (iR F φ) (fun v hv=>jH hk oX q1 sh ((eR F φ v).mp hv)) ld oA.1 oA.2 oBt (zk m _) mk,mk⟩
 ·exact qN H5 g35 fun F _ φ r r1 rh K=>d (decide_eq_true ((Qy hk (by omega) oA oB oC S φ hT.ok I.tr).mpr (full F φ r rh K).2.2))
theorem zgi:bootBuiltins "all" = some (.builtin "all"):=by decide +kernel
theorem XG:∀ xs ys:List Nb,PyData.eqvAll (xs.map toD) (ys.map toD)=decide (xs=ys)
 | [],[]=>rfl
 | [],y::ys=>by simp[PyData.eqvAll]
 | x::xs,[]=>by simp[PyData.eqvAll]
 | x::xs,y::ys=>by
  show(PyData.eqv (toD x) (toD y) && PyData.eqvAll (xs.map toD) (ys.map toD))=_;rw[qy,XG xs ys]
  by_cases h:x=y
  ·by_cases h':xs=ys
   ·simp[h,h']
   ·simp[h,h']
  ·simp[h]
theorem zfw(xs ys:List Nb):PyData.eqv (rowD xs) (rowD ys)=decide (xs=ys):=XG xs ys
theorem zds{H:Hp}{k:Int}{Ps:Nat->Tb}{N q m:Nat}{pm:Addr}{ts:List Addr}(h:TsAt H k Ps N q m pm ts):∃ Rs:List (List Addr),Paired (fun us a=>H a=some (.lst us)) (Rs.map (Gc V.ref)) ts/\Paired (Paired (kak H)) ((vd N).map Ps) Rs:=by
 have:∀ t,∃ rs:List Addr,t<N->∃ a,ts[t]?=some a/\kag H (Ps t) a rs:=fun t=>by
  by_cases ht:t<N
  ·obtain⟨a,rs,e,T⟩:=h.tab t ht;exact⟨rs,fun _=>⟨a,e,T⟩⟩
  ·exact⟨[],fun z=>absurd z ht⟩
 obtain⟨f,hf⟩:=Classical.axiomOfChoice this;have len:=h.len;refine⟨(vd N).map f,YF (by rw[wa,wa,vT,len]) fun i us a h1 h2=>?_,YF (by rw[wa,wa]) fun i M rs h1 h2=>?_⟩
 ·have hi:i<N:=by rw[← len];exact(wp.mp h2).1
  rw[we,we,ur hi]at h1;obtain⟨a',e,T⟩:=hf i hi;rw[h2]at e;cases e;cases h1;exact T.1
 ·rw[we]at h1 h2;obtain⟨j,hj,rfl⟩:=wG.mp h1;rw[hj]at h2;cases h2;have:j<N:=by have:=wd hj;rwa [vk]at this
  obtain⟨a',e,T⟩:=hf j this;exact T.2
theorem QG{α:Type}(n:Nat):∀(L:List (List α)),(∀ r∈L,r.length=n)->L.flatten.length=L.length*n
 | [],_=>by simp
 | r::L,h=>by
  rw[uS,wy,QG n L (fun r hr=>h r (wo _ hr)),h r wk,vy,waP];omega
def Zer(k:Int)(Ms:Nat->Tb)(N:Nat):Prop:=∀ t,t<N->∀ r∈Ms t,∀ x∈r,x=nnum k 0
def RkM{k:Int}{F:Type}[Lean.Grind.Field F](φ:La.Kf k F)(Ms:Nat->Tb)(h q m r:Nat):Prop:=RkL φ Ms h q m h h r/\RkL φ Ms h q m (h+1) h r/\RkL φ Ms h q m h (h+1) r
def MachL(k:Int)(Ms:Nat->Tb)(h q m r:Nat)(A B C:Tb):Prop:=1<=r/\r<=h/\(La.OkM k r A/\A.length=r)/\(La.OkM k m B/\B.length=r)/\(La.OkM k r C/\C.length=q)/\SzM k m A B C/\∀(F:Type) [Lean.Grind.Field F] (φ:La.Kf k F),RkM φ Ms h q m r/\∀ t s l,t<h+h->s<q->l<m->La.nv φ ((Ms t).getD s []) l=La.dot r (La.nv φ (C.getD s [])) (La.nv φ (powX k A ((kac m B).getD l []) t))
def XZ:Sp:=fun vs H Q _=>∃(k:Int)(Ms:Nat->Tb)(h q m:Nat)(pm:Addr)(ts:List Addr),vs=[.int k,.ref pm]/\kaa k/\TsAt H k Ms (h+h) q m pm ts/\(1<=h/\h<=4/\1<=q/\q<=2/\1<=m/\m<=2)/\(∀ t,t<h+h->∀ r∈Ms t,∀ x∈r,whk k 190 x) /\
 (∀ p H',Same H H'->H' p=some (.tup [.str "nought"])->Zer k Ms (h+h)->Q (.ref p) H') /\
 (∀ p H',Same H H'->H' p=some (.tup [.str "none"])->¬ Zer k Ms (h+h)->(∀(F:Type) [Lean.Grind.Field F] (φ:La.Kf k F) (r:Nat),1<=r->r<=h->¬ RkM φ Ms h q m r)->Q (.ref p) H') /\
 ∀ r A B C p ta tb tc ra rb rc H',Same H H'->H' p=some (.tup [.str "machine",.ref ta,.ref tb,.ref tc])->(kag H' A ta ra/\kag H' B tb rb/\kag H' C tc rc)->MachL k Ms h q m r A B C->Q (.ref p) H'
theorem zcp (D:Df K mg "read_off" SJ qq) (zcu:Kn P w K mg base "mirrored" 2 ["machine"] Qu) (zb8:Kn P w K mg base "least_of" 48 SJ XS) (yI:Kn P w K mg base "turned" 1 SD xq) (ZW:Kn P w K mg base "strung" 1 ["rows"] Zz) (xO:Kn P w K mg base "number" 1 Su jZ) (m_len:mg "len" = none) (m_all:mg "all" = none):Kn P w K mg base "read_off" 49 SJ XZ:=by
 refine D.kn Sb (fun vs H Q E h=>?_) (fun f cdv A' outer s' H vs Q E hr h=>?_)
 ·obtain⟨k,Ms,h,q',m,pm,ts,rfl,_⟩:=h;rfl
 obtain⟨k,Ms,h,q',m,pm,ts,rfl,hk,hT,⟨h1,h4,q1,q2,m1,m2⟩,wM,qZ,qN,qM⟩:=h;have szl:=Qa
 obtain⟨Rs,p1,p2⟩:=zds hT;have lRs:=zj p2;rw[wa,vT]at lRs;have row2:∀ rs∈Rs,rs.length=q':=fun rs hrs=>by
  obtain⟨M,hM,pr⟩:=qw p2 hrs;obtain⟨t,ht,rfl⟩:=wg.mp hM;rw[← zj pr,(hT.ok t (vk.mp ht)).2]
 refine⟨_,(zc (yb (yT (zp (Qp rfl) rfl m_all zgi (za (yM ["kind"] [0] (zw (zF ZW hr (za (zF ZW hr (za (pv 1) zd)) zd))) fun _ _ _ _ _ _=>⟨zM,(yE (Ym hr) (zF xO hr (za (pv 1) (za ze zd))) (pv 0) (kae _))⟩) zd))) (zh (zq (yy (za XJ zd)))) zJ) (zc (zo (i:=2) Sb.nd rfl (.inl rfl) (yE jJ (zp zx rfl m_len zU (za (zt zi (pv 1) ze) zd)) (zp zx rfl m_len zU (za (zt zi (zt zi (pv 1) ze) ze) zd)) (kae _))) (zc (zo (i:=3) Sb.nd rfl (.inl rfl) (zF zb8 hr (za (pv 0) (za (Jo (yT (pv 2)) (yM [] [] (zw (pv 1)) fun _ _ _ _ _ _=>⟨zM,(zF yI hr (za (pv 0) zd))⟩) (pv 1)) zd)))) (zc (yb (zu zhA (pv 3) zdR (kae _)) (zh (zq (yy (za XJ zd)))) zJ) (zc (yb (yT (pv 2)) (zh (zo (i:=3) Sb.nd rfl (.inl rfl) (zF zcu hr (za (pv 3) zd)))) zJ) (zh (zq (yy (za XJ (za (zt zE (pv 3) ze) (za (zt zE (pv 3) ze) (za (zt zE (pv 3) ze) zd)))))))))))),?_⟩;refine⟨_,rfl,Rs.map (Gc V.ref),pm,ts,rfl,hT.lst,p1,(fun us hu=>?_),(by rw[wa];omega),fun ps H1 g1 _ h1'=>?_⟩
 ·obtain⟨rs,hrs,rfl⟩:=wg.mp hu;rw[wa,row2 rs hrs];omega
 have eF:(Rs.map (Gc V.ref)).flatten=Rs.flatten.map V.ref:=by rw[List.map_flatten]
 rw[eF]at h1';have pr1:Paired (kak H1) ((vd (h+h)).map Ms).flatten Rs.flatten:=jg (fun _ _ r=>r.mono g1) (JL p2);obtain⟨L,pL,pF⟩:=YZ pr1;have lF:∀ r∈((vd (h+h)).map Ms).flatten,r.length=m:=fun r hr=>by
  obtain⟨M,hM,hr'⟩:=gc.mp hr;obtain⟨t,ht,rfl⟩:=wg.mp hM;exact((hT.ok t (vk.mp ht)).1 r hr').1
 have lL:=zj pL;have lR8:Rs.flatten.length<=16:=by
  have h0:=QG q' Rs row2;rw[h0,← lRs];exact wD (vm (show h+h<=8 by omega) q2) (by decide)
 refine⟨L,ps,Rs.flatten,rfl,h1',pL,(fun us hu=>?_),by omega,fun pp H2 g2 _ h2'=>?_⟩
 ·obtain⟨xs,hx,px⟩:=qw pF hu;rw[← zj px,lF xs hx];omega
 have pP:Paired (RN H2) ((vd (h+h)).map Ms).flatten.flatten L.flatten:=jj g2 (JL pF);have zIff:(∀ x∈((vd (h+h)).map Ms).flatten.flatten,x=nnum k 0)↔Zer k Ms (h+h):=by
  constructor
  ·intro z t ht r hr x hx;exact z x (gc.mpr ⟨r,gc.mpr ⟨Ms t,gV (vk.mpr ht),hr⟩,hx⟩)
  ·intro z x hx;obtain⟨r,hr,hx'⟩:=gc.mp hx;obtain⟨M,hM,hr'⟩:=gc.mp hr;obtain⟨t,ht,rfl⟩:=wg.mp hM;exact z t (vk.mp ht) r hr' x hx'
 have lP:=zj pP;have lV:=Xh L fun us hu=>by
  obtain⟨xs,hx,px⟩:=qw pF hu;rw[← zj px,lF xs hx];omega
 generalize ((vd (h+h)).map Ms).flatten.flatten=parts at *;generalize L.flatten=vs at *;clear pF pL pr1 p1 p2 eF lF row2;refine⟨pp,rfl,⟨_,SqL.of h2'⟩,?_⟩;refine zO (xs:=vs) (fun i ys H'=>Same H2 H'/\ys =((parts.take i).map fun x=>decide (nnum k 0=x)).map V.bl) ⟨Same.refl _,rfl⟩ ?_ ?_ ?_
 ·rintro i ys H' hi ⟨g,rfl⟩
  refine⟨SqL.of (g _ _ h2'),?_⟩;rw[wa,wa,wr];omega
 ·rintro i v ys H' hv hi ⟨g,rfl⟩
  obtain⟨x,hx,rx⟩:=zW pP hv
  first|refine gyes ?_|refine tyes ?_
  refine⟨_,rfl,k,0,rfl,fun v0 H3 g3 r3=>?_⟩;refine⟨_,rfl,toD (nnum k 0),toD x,r3,(rx.mono g).mono g3,xC _,xC _,wD (vI _ _) (wD (je _) (by decide)),nxt hi ⟨g.trans g3,?_⟩⟩;rw[zy hx,wu,wu,qy];rfl
 rintro ys H3 ⟨g3,rfl⟩ pb hpb
 rw[wv (uT lP)]at *;have g4:=zg hpb (.lst ((parts.map fun x=>decide (nnum k 0=x)).map V.bl));refine⟨pb,_,rfl,zf,?_⟩;have g04:=((g1.trans g2).trans g3).trans g4;generalize upd H3 pb (.lst ((parts.map fun x=>decide (nnum k 0=x)).map V.bl))=H4 at *;refine⟨_,rfl,?_⟩;refine ite2 (fun d=>?_) (fun d=>?_)
 ·refine⟨(by show 1<=sizeLine;decide),fun p hp=>?_⟩;refine qZ p _ (g04.trans (zg hp _)) zf (zIff.mp fun x hx=>?_);rw[vX]at d;exact(of_decide_eq_true (d _ (gV hx))).symm
 have nz:¬ Zer k Ms (h+h):=fun z=>d (by
  rw[vX];intro b hb;obtain⟨x,hx,rfl⟩:=wg.mp hb;exact decide_eq_true (zIff.mpr z x hx).symm)
 clear d pP zIff lP lV;have hT4:=hT.mono g04;obtain⟨a0,rs0,e0,T0⟩:=hT4.tab 0 (by omega);have l0:=zj T0.2;have o0:=hT.ok 0 (by omega);rw[o0.2]at l0;obtain⟨ei,li,oi⟩:=Yv hT.ok (t:=0) (q:=0) (by omega) (by omega);obtain⟨b0,eb0,rb0⟩:=yl T0.2 ei;obtain⟨us0,hu0,pu0,lu0⟩:=rb0.len;refine⟨_,rfl,pm,_,_,.ref a0,rfl,rfl,SqL.of hT4.lst,zD (j:=0) (by rw[we,e0];rfl),a0,_,rfl,.inl (SqL.of T0.1),_,rfl,pm,_,_,.ref a0,rfl,rfl,SqL.of hT4.lst,zD (j:=0) (by rw[we,e0];rfl),a0,_,_,.ref b0,rfl,rfl,SqL.of T0.1,zD (j:=0) (by rw[we,eb0];rfl),b0,_,rfl,.inl (SqL.of hu0),_,_,rfl,rfl,?_⟩;rw[wa,← l0,lu0,li];refine⟨_,rfl,_,rfl,_,rfl,?_⟩;refine ite2 (fun d=>?_) (fun d=>?_)
 ·have mq:m<q':=by have:=of_decide_eq_true d;omega
  rw[d];have ll:=hT.len;refine⟨_,rfl,pm,rfl,⟨_,SqL.of hT4.lst⟩,?_⟩;refine zO (xs:=ts.map V.ref) (fun i ys H'=>∃ as:List Addr,ys=as.map V.ref/\as.length=i/\Same H4 H'/\∀ j,j<i->∃ a rs,as[j]?=some a/\kag H' (kac m (Ms j)) a rs) ⟨[],rfl,rfl,Same.refl _,fun _ h=>absurd h (vx _)⟩ ?_ ?_ ?_
  ·rintro i ys H' hi ⟨as,rfl,la,g,_⟩
   rw[wa,ll]at hi;exact⟨SqL.of (g _ _ hT4.lst),by rw[wa];omega⟩
  ·rintro i v ys H' hv hi ⟨as,rfl,la,g,tabs⟩
   have hi':=hi;rw[wa,ll]at hi';obtain⟨a,rs,ea,T⟩:=(hT4.mono g).tab i hi';have ev:v=.ref a:=by
    rw[we,ea]at hv;exact(Option.some.inj hv).symm
   subst ev;have o:=hT.ok i hi'
   first|refine gyes ?_|refine tyes ?_
   refine⟨_,rfl,Ms i,m,a,rs,rfl,T,(fun e=>by rw[e]at o;have:=o.2;simp at this;omega),(fun r hr=>(o.1 r hr).1),by omega,by omega,fun t1 r1 H5 g5 N1=>?_⟩;refine nxt hi ⟨as++[t1],by rw[wu];rfl,by rw[wy,la];rfl,g.trans g5,fun j hj=>?_⟩
   rcases vo (vz hj)with h'|h'
   ·obtain⟨a',rs',e',T'⟩:=tabs j h';exact⟨a',rs',by rw[wO (by omega)];exact e',T'.mono g5⟩
   ·subst h';exact⟨t1,r1,by rw[← la,wJ (ww _),vQ];rfl,N1.tab⟩
  rintro ys H5 ⟨as,rfl,la,g5,tabs⟩ pc hpc
  rw[wa,ll]at la tabs;have g6:=zg hpc (.lst (as.map V.ref));have oT:∀ t,t<h+h->La.OkM k q' (kac m (Ms t))/\(kac m (Ms t)).length=m:=fun t ht=>by
   have o:=zL (hT.ok t ht).1;rw[(hT.ok t ht).2]at o;exact⟨o,zk m _⟩
  have hT6:TsAt (upd H5 pc (.lst (as.map V.ref))) k (fun t=>kac m (Ms t)) (h+h) m q' pc as:=⟨zf,la,(fun t ht=>by
   obtain⟨a,rs,e,T⟩:=tabs t ht;exact⟨a,rs,e,T.mono g6⟩),oT⟩
  have g46:=g5.trans g6;generalize upd H5 pc (.lst (as.map V.ref))=H6 at *;have I:MkIn k (fun t=>kac m (Ms t)) Ms h m q':=⟨h1,h4,m1,m2,q1,q2,(fun t ht=>by
   have:=yk (hT.ok t ht).1;rw[(hT.ok t ht).2]at this;exact this),fun t ht=>ji (hT.ok t ht).1 (wM t ht)⟩
  refine⟨k,_,Ms,h,m,q',pc,as,rfl,hk,hT6,I,fun H7 g7 no=>?_,fun r A B C p ta tb tc ra rb rc H7 g7 hM MP=>?_⟩
  ·refine⟨_,rfl,rfl,_,rfl,iteT ?_⟩;refine⟨(by show 1<=sizeLine;decide),fun p hp=>?_⟩;exact qN p _ (((g04.trans g46).trans g7).trans (zg hp _)) zf nz fun F _ φ r r1 rh K=>no F φ r r1 rh ⟨K.1,K.2.2,K.2.1⟩
  ·obtain⟨r1,rh,oA,oB,oC,S,mk⟩:=MP;refine⟨_,rfl,rfl,_,rfl,iteF ?_⟩
   dsimp only
   refine⟨_,rfl,_,rfl,iteT ?_⟩;refine⟨_,rfl,k,m,q',r,A,B,C,p,ta,tb,tc,ra,rb,rc,rfl,hM,oA,oB,oC,r1,by omega,by omega,m1,by omega,fun p2 ua ub uc va vb vc H8 g8 hM8=>?_⟩;refine⟨_,rfl,p2,_,_,.ref ua,rfl,rfl,SqT.of hM8.tup,rfl,_,rfl,p2,_,_,.ref ub,rfl,rfl,SqT.of hM8.tup,rfl,_,rfl,p2,_,_,.ref uc,rfl,rfl,SqT.of hM8.tup,rfl,(by show 4<=sizeLine;decide),fun p3 hp3=>?_⟩;have g9:=zg hp3 (.tup [.str "machine",.ref ua,.ref ub,.ref uc]);have oA':La.OkM k r (kac r A)/\(kac r A).length=r:=⟨by have:=zL oA.1;rw[oA.2]at this;exact this,zk r A⟩;have oB':La.OkM k m (kac r C)/\(kac r C).length=r:=⟨by have:=zL oC.1;rw[oC.2]at this;exact this,zk r C⟩;have oC':La.OkM k r (kac q' B)/\(kac q' B).length=q':=⟨by have:=zL oB.1;rw[oB.2]at this;exact this,zk q' B⟩;refine qM r _ _ _ p3 ua ub uc va vb vc _ ((((g04.trans g46).trans g7).trans g8).trans g9) zf ⟨hM8.a.mono g9,hM8.b.mono g9,hM8.c.mono g9⟩ ⟨r1,rh,oA',oB',oC',zgF oA oC S,fun F _ φ=>?_⟩;obtain⟨K,mk⟩:=mk F φ;refine⟨⟨K.1,K.2.2,K.2.1⟩,fun t s l ht hs hl=>?_⟩;rw[mk t s l ht hs hl];exact zhH hk φ oA oB oC hs hl
 ·have mq:q'<=m:=by
   rcases wK m q' with z|z
   ·exact absurd (decide_eq_true (by omega)) d
   ·exact z
  have d':decide ((m:Int) <(q':Int))=false:=decide_eq_false (by omega);rw[d'];have I:MkIn k Ms (fun t=>kac m (Ms t)) h q' m:=⟨h1,h4,q1,q2,m1,m2,(fun t ht=>rfl),wM⟩;have law:∀(F:Type) [Lean.Grind.Field F] (φ:La.Kf k F) (r:Nat),RkX φ (fun t=>kac m (Ms t)) h q' m r↔RkM φ Ms h q' m r:=fun F _ φ r=>by
   have e0:=Qk (φ:=φ) (r:=r) hk hT.ok (fun t ht=>rfl) q1 m1 (a:=h) (b:=h) (by omega);have e1:=Qk (φ:=φ) (r:=r) hk hT.ok (fun t ht=>rfl) q1 m1 (a:=h+1) (b:=h) (by omega);have e2:=Qk (φ:=φ) (r:=r) hk hT.ok (fun t ht=>rfl) q1 m1 (a:=h) (b:=h+1) (by omega);exact⟨fun K=>⟨e0.mp K.1,e1.mp K.2.1,e2.mp K.2.2⟩,fun K=>⟨e0.mpr K.1,e1.mpr K.2.1,e2.mpr K.2.2⟩⟩
  refine⟨_,rfl,k,Ms,_,h,q',m,pm,ts,rfl,hk,hT4,I,fun H7 g7 no=>?_,fun r A B C p ta tb tc ra rb rc H7 g7 hM MP=>?_⟩
  ·refine⟨_,rfl,rfl,_,rfl,iteT ?_⟩;refine⟨(by show 1<=sizeLine;decide),fun p hp=>?_⟩;exact qN p _ ((g04.trans g7).trans (zg hp _)) zf nz fun F _ φ r r1 rh K=>no F φ r r1 rh ((law F φ r).mpr K)
  ·obtain⟨r1,rh,oA,oB,oC,S,mk⟩:=MP;refine⟨_,rfl,rfl,_,rfl,iteF ?_⟩
   dsimp only
   refine⟨_,rfl,_,rfl,iteF ?_⟩;refine⟨_,rfl,p,_,_,.ref ta,rfl,rfl,SqT.of hM.tup,rfl,_,rfl,p,_,_,.ref tb,rfl,rfl,SqT.of hM.tup,rfl,_,rfl,p,_,_,.ref tc,rfl,rfl,SqT.of hM.tup,rfl,(by show 4<=sizeLine;decide),fun p3 hp3=>?_⟩;have g9:=zg hp3 (.tup [.str "machine",.ref ta,.ref tb,.ref tc]);refine qM r A B C p3 ta tb tc ra rb rc _ ((g04.trans g7).trans g9) zf ⟨hM.a.mono g9,hM.b.mono g9,hM.c.mono g9⟩ ⟨r1,rh,oA,oB,oC,S,fun F _ φ=>?_⟩;obtain⟨K,mk⟩:=mk F φ;refine⟨(law F φ r).mp K,fun t s l ht hs hl=>?_⟩;rw[← mk t l s ht hl hs];exact(La.xA (hT.ok t ht).1 hl).symm
theorem zbr (K:PySem.W.Frag):PySem.W.kitOne K (.type "list") (.type "list")=some true:=by unfold PySem.W.kitOne;rw[if_pos (by decide)]
theorem qz{a b:Int}(h0 : -(2^64)<b)(h1:b<2^64):IntMulOk a b:=IntMulOk.of_right (intBits_le_64 h0 h1)
theorem jl{a b:Int}(h0 : -(2^64)<a)(h1:a<2^64):IntMulOk a b:=IntMulOk.of_left (intBits_le_64 h0 h1)
def jV:Sp:=fun vs H Q _=>∃(t b:Int),vs=[.int t,.int b]/\0<b/\∀ p H',Same H H'->H' p=some (.tup [.int (vB t b).num,.int ((vB t b).den:Int)])->Q (.ref p) H'
theorem Qt (hP:P.given.tree=none) (hS:base.NoSeer) (D:Df K mg "_law_fraction" SK xa) (xZ:Kn P w K mg base "_law_divisor" 1 Sx za3):Kn P w K mg base "_law_fraction" 41 SK jV:=by
 refine D.kn sE (fun vs H Q E h=>?_) (fun f cdv A outer s H vs Q E hr h=>?_)
 ·obtain⟨t,b,rfl,_⟩:=h;rfl
 obtain⟨t,b,rfl,b0,q⟩:=h;refine⟨_,(zc (zo (i:=2) sE.nd rfl (.inl rfl) (zF xZ hr (za (pv 0) (za (pv 1) zd)))) (zh (zq (yy (za (zm (zQ hr (by decide) hP hS ⟨_,_,rfl,rfl,rfl,rfl,rfl⟩) (pv 0) (pv 2)) (za (zm (zQ hr (by decide) hP hS ⟨_,_,rfl,rfl,rfl,rfl,rfl⟩) (pv 1) (pv 2)) zd)))))),?_⟩;have e:sg t b =((wS t b:Nat):Int):=by unfold sg;rw[if_neg (by omega)]
 have ne:((wS t b:Nat):Int)≠0:=by rw[← e];exact zdC (by omega)
 obtain⟨e1,e2⟩:=Yj (t:=t) (b:=b) (by omega);rw[e]at e1 e2;refine⟨_,rfl,_,rfl,t,b,rfl,_,rfl,_,rfl,_,_,rfl,rfl,ne,_,rfl,_,rfl,_,_,rfl,rfl,ne,(by show 2<=sizeLine;decide),fun p hp=>?_⟩;show Q (.ref p) (upd H p (.tup [.int (t.fdiv ((wS t b:Nat):Int)),.int (b.fdiv ((wS t b:Nat):Int))]));rw[e1,e2];exact q p _ (zg hp _) zf
def JW:Sp:=fun vs H Q _=>∃(c j:Int),vs=[.int c,.int j]/\0<=j/\j<=1000/\∀ m:Int,0<=m->m<2147483648->Q (.int m) H
theorem ten7:(10:Int)^(7:Int).toNat=10000000:=by decide
theorem cpow10{j:Int}(h0:0<=j)(h1:j<=100):CPow 10 j:=⟨h0,by omega,by decide⟩
theorem zeQ (hP:P.given.tree=none) (hS:base.NoSeer) (D:Df K mg "_law_mixed" SL xK) (zH:mg "range" = none):Kn P w K mg base "_law_mixed" 41 SL JW:=by
 refine D.kn sU (fun vs H Q E h=>?_) (fun f cdv A outer s H vs Q E hr h=>?_)
 ·obtain⟨c,j,rfl,_⟩:=h;rfl
 obtain⟨c,j,rfl,j0,j1,q⟩:=h;refine⟨_,(zc (yb (zu jJ (pv 0) (zm zdG ze ze) (kae _)) (zc (zo (i:=2) sU.nd rfl (.inl rfl) (zm (zQ hr (by decide) hP hS ⟨_,_,rfl,rfl,rfl,rfl,rfl⟩) (pv 0) ze)) (zc (yt PassesOwn.never rfl (zR rfl zH (za (pv 1) zd)) (zI (i:=3) sU.nd rfl (.inl rfl)) (zh (zo (i:=2) sU.nd rfl (.inl rfl) (zm (zQ hr (by decide) hP hS ⟨_,_,rfl,rfl,rfl,rfl,rfl⟩) (pv 2) (zm zdG ze ze))))) (zh (zq (zm zP (pv 2) (zm zdG ze ze)))))) zJ) (zc (zo (i:=4) sU.nd rfl (.inl rfl) (zm zP (zm zS (zm yi (zm yi (zm zP (pv 0) ze) (zm zS (zm zS ze (pv 1)) (pv 1))) (zm zS ze (pv 1))) ze) ze)) (zh (zq (zm zP (zm zS (pv 4) (zm yi (zm yi (zm zP (pv 4) ze) (zm zS ze (pv 1))) ze)) ze))))),?_⟩;have n1:(2147483647:Int)≠0:=by decide
 have n2:(2147483629:Int)≠0:=by decide
 have n3:(65537:Int)≠0:=by decide
 have n4:(1000:Int)≠0:=by decide
 have n5:(10:Int)^(7:Int).toNat≠0:=by decide
 refine⟨_,rfl,_,_,rfl,rfl,cpow10 (by decide) (by decide),_,_,rfl,rfl,_,rfl,?_⟩;refine ite2 (fun cc=>?_) (fun cc=>?_)
 ·refine⟨_,rfl,_,_,rfl,rfl,n4,?_⟩;refine⟨_,rfl,j,rfl,(by omega),(by omega),?_⟩;refine yp (lo:=0) (n:=j.toNat) (fun i σ H'=>∃ lf o3 o4,σ=[some (.int c),some (.int j),some (.int lf),o3,o4]/\H'=H) ⟨_,none,none,rfl,rfl⟩ ?_ ?_
  ·rintro i σ H' hi ⟨lf,o3,o4,rfl,rfl⟩
   exact⟨_,rfl,_,_,rfl,rfl,cpow10 (by decide) (by decide),_,_,rfl,rfl,n5,_,_,_,rfl,rfl⟩
  ·rintro σ H' ⟨lf,o3,o4,rfl,rfl⟩
   refine⟨_,rfl,_,_,rfl,rfl,cpow10 (by decide) (by decide),_,_,rfl,rfl,n5,?_⟩
   dsimp only
   rw[ten7];have h0:=wx lf (show(0:Int)<10000000 by decide);have h1:=wH lf (show(0:Int)<10000000 by decide);exact q _ h0 (by omega)
 ·have f0:=wx c (show(0:Int)<2147483647 by decide);have f1:=wH c (show(0:Int)<2147483647 by decide);refine⟨_,rfl,_,_,rfl,rfl,n1,_,rfl,_,_,rfl,rfl,jl (by decide) (by decide),_,rfl,_,_,rfl,rfl,qz (by omega) (by omega),_,_,rfl,rfl,_,rfl,_,_,rfl,rfl,jl (by decide) (by decide),_,_,rfl,rfl,_,_,rfl,rfl,qz (by decide) (by decide),_,_,rfl,rfl,n1,?_⟩
  dsimp only
  generalize ((c.fmod 2147483647+40503*j*j+17*j)*48271).fmod 2147483647=o at *;refine⟨_,rfl,_,rfl,_,_,rfl,rfl,n3,_,rfl,_,_,rfl,rfl,jl (by decide) (by decide),_,_,rfl,rfl,_,_,rfl,rfl,_,_,rfl,rfl,qz ?_ ?_,_,_,rfl,rfl,n2,?_⟩
  ·have h0:=wx o (show(0:Int)<65537 by decide);show -(2^64)<o.fmod 65537+3*j+1;omega
  ·have h1:=wH o (show(0:Int)<65537 by decide);show o.fmod 65537+3*j+1<2^64;omega
  dsimp only
  generalize o *(o.fmod 65537+3*j+1)=x;have h0:=wx x (show(0:Int)<2147483629 by decide);have h1:=wH x (show(0:Int)<2147483629 by decide);exact q _ h0 (by omega)
def Qs:Sp:=fun vs H Q _=>∃(k c:Int),vs=[.int k,.int c]/\kaa k/\∀ x v H',Same H H'->RN H' x v->x.ok k->Q v H'
theorem zfC{k c m:Int}(hk:1<k)(h0:0<=m)(h1:m<4)(c0:0<=c)(c1:c<k):∃ w:Int,atI [V.int 0,V.int 1,V.int (k - 1),V.int c] m=some (.int w)/\0<=w/\w<k:=by
 rcases (show m=0\/m=1\/m=2\/m=3 by omega)with rfl|rfl|rfl|rfl
 ·exact⟨0,rfl,by omega,by omega⟩
 ·exact⟨1,rfl,by omega,by omega⟩
 ·exact⟨k - 1,rfl,by omega,by omega⟩
 ·exact⟨c,rfl,c0,c1⟩
theorem zdU (hP:P.given.tree=none) (hS:base.NoSeer) (D:Df K mg "_law_drawn" SM xR) (yh:Kn P w K mg base "_law_fraction" 41 SK jV):Kn P w K mg base "_law_drawn" 42 SM Qs:=by
 refine D.kn JE (fun vs H Q E h=>?_) (fun f cdv A outer s H vs Q E hr h=>?_)
 ·obtain⟨k,c,rfl,_⟩:=h;rfl
 obtain⟨k,c,rfl,hk,q⟩:=h;have kl:=hk.lt;refine⟨_,(zc (yb (zu jJ (pv 0) ze (kae _)) (zh (zq (zt zi (yq (za ze (za ze (za (zm qx (pv 0) ze) (za (zm zP (zm (zQ hr (by decide) hP hS ⟨_,_,rfl,rfl,rfl,rfl,rfl⟩) (pv 1) ze) (pv 0)) zd))))) (zm zP (pv 1) ze)))) zJ) (zc (yb (zu xb (zm zP (pv 1) ze) ze (kae _)) (zh (zq (yy (za (zm qx (zm zP (zm (zQ hr (by decide) hP hS ⟨_,_,rfl,rfl,rfl,rfl,rfl⟩) (pv 1) ze) ze) ze) (za ze zd))))) zJ) (zh (zq (zF yh hr (za (zm qx (zm zP (zm (zQ hr (by decide) hP hS ⟨_,_,rfl,rfl,rfl,rfl,rfl⟩) (pv 1) ze) ze) ze) (za (zm yi ze (zm zP (zm (zQ hr (by decide) hP hS ⟨_,_,rfl,rfl,rfl,rfl,rfl⟩) (pv 1) ze) ze)) zd))))))),?_⟩;have n4:(4:Int)≠0:=by decide
 have n3:(3:Int)≠0:=by decide
 refine⟨_,rfl,_,_,rfl,rfl,_,rfl,?_⟩;refine ite2 (fun ck=>?_) (fun ck=>?_)
 ·have k0:0<k:=of_decide_eq_true ck;have k1:1<k:=by
   rcases hk with h|h
   ·omega
   ·exact h.1
  refine⟨_,rfl,_,_,rfl,rfl,_,rfl,_,_,rfl,rfl,n4,_,rfl,_,_,rfl,rfl,(show k≠0 by omega),(by show 4<=sizeLine;decide),fun p hp=>?_⟩;obtain⟨w,ew,w0,w1⟩:=zfC k1 (wx c (show(0:Int)<4 by decide)) (wH c (show(0:Int)<4 by decide)) (wx (c.fdiv 4) k0) (wH (c.fdiv 4) k0);exact⟨_,rfl,_,_,rfl,rfl,n4,p,_,_,_,rfl,rfl,SqL.of zf,ew,q (.z w) _ _ (zg hp _) RN.of_z ⟨by omega,w0,w1⟩⟩
 ·have k0:k=0:=by
   have:¬ 0<k:=of_decide_eq_false (ul.mpr ck);omega
  refine⟨_,rfl,_,_,rfl,rfl,n3,rfl,_,rfl,?_⟩;refine ite2 (fun c3=>?_) (fun c3=>?_)
  ·refine⟨_,rfl,_,_,rfl,rfl,n3,_,_,rfl,rfl,n3,_,_,rfl,rfl,(by show 2<=sizeLine;decide),fun p hp=>?_⟩;exact q (.q ((((c.fdiv 3).fmod 3 - 1:Int)):Rat)) _ _ (zg hp _) (RN.of_q (r:=(((c.fdiv 3).fmod 3 - 1:Int):Rat)) zf) k0
  ·have b0:=wx (c.fdiv 57) (show(0:Int)<4 by decide);exact⟨_,rfl,_,_,rfl,rfl,n3,_,_,rfl,rfl,(by show(19:Int)≠0;decide),_,_,rfl,rfl,_,rfl,_,_,rfl,rfl,(by show(57:Int)≠0;decide),_,_,rfl,rfl,n4,_,_,rfl,rfl,_,_,rfl,(by omega),fun p H' g hp=>q (.q _) _ H' g (RN.of_q hp) k0⟩
def qr:Sp:=fun vs H Q _=>∃(k w:Int),vs=[.int k,.int w]/\kaa k/\∀ v H',Same H H'->RN H' (nnum k w) v->Q v H'
theorem zfb (D:Df K mg "_law_make" SN jt):Kn P w K mg base "_law_make" 1 SN qr:=by
 refine D.kn QX (fun vs H Q E h=>?_) (fun f cdv A outer s H vs Q E hr h=>?_)
 ·obtain⟨k,w,rfl,_⟩:=h;rfl
 obtain⟨k,x,rfl,hk,q⟩:=h;have kl:=hk.lt;refine⟨_,(zc (yb (zu xb (pv 0) ze (kae _)) (zh (zq (yy (za (pv 1) (za ze zd))))) zJ) (zh (zq (zm zP (pv 1) (pv 0))))),?_⟩;refine⟨_,rfl,rfl,_,rfl,?_⟩;refine ite2 (fun c=>?_) (fun c=>?_)
 ·have k0:k=0:=V.int.inj (of_decide_eq_true c);subst k0;exact⟨_,rfl,(by show 2<=sizeLine;decide),fun p hp=>q _ _ (zg hp _) (RN.of_q (r:=(x:Rat)) zf)⟩
 ·have k0:k≠0:=fun e=>c (by show decide (V.int k=V.int 0)=true;rw[e];decide)
  refine⟨_,rfl,_,rfl,_,_,rfl,rfl,k0,q _ _ (Same.refl H) ?_⟩;unfold nnum;rw[if_neg k0];exact RN.of_z
theorem zfk (D:Df K mg "_law_plus" SO jG) (yh:Kn P w K mg base "_law_fraction" 41 SK jV):Kn P w K mg base "_law_plus" 42 SO (Zj nadd):=by
 refine D.kn Qi (fun vs H Q E h=>?_) (fun f cdv A outer s H vs Q E hr h=>?_)
 ·obtain⟨k,x,y,a,b,rfl,_⟩:=h;rfl
 obtain⟨k,x,y,a,b,rfl,T,q⟩:=h;have kl:=T.kd.lt;refine⟨_,(zc (yb (zu xb (pv 0) ze (kae _)) (zh (zq (zF yh hr (za (zm yi (zm zS (zt zE (pv 1) ze) (zt zE (pv 2) ze)) (zm zS (zt zE (pv 2) ze) (zt zE (pv 1) ze))) (za (zm zS (zt zE (pv 1) ze) (zt zE (pv 2) ze)) zd))))) zJ) (zh (zq (zm zP (zm yi (pv 1) (pv 2)) (pv 0))))),?_⟩
 rcases YT T with⟨rfl,r,s,pa,pb,rfl,rfl,rfl,rfl,ha,hb,rn,rd,sn,sd⟩|⟨k0,hp,i,j,rfl,rfl,rfl,rfl,i0,ik,j0,jk⟩
 ·refine⟨_,rfl,rfl,_,rfl,iteT ?_⟩;refine⟨_,rfl,pa,_,_,_,rfl,rfl,SqT.of ha,rfl,_,rfl,pb,_,_,_,rfl,rfl,SqT.of hb,rfl,_,_,rfl,rfl,ju rn sd,_,rfl,pb,_,_,_,rfl,rfl,SqT.of hb,rfl,_,rfl,pa,_,_,_,rfl,rfl,SqT.of ha,rfl,_,_,rfl,rfl,ju sn rd,_,_,rfl,rfl,_,rfl,pa,_,_,_,rfl,rfl,SqT.of ha,rfl,_,rfl,pb,_,_,_,rfl,rfl,SqT.of hb,rfl,_,_,rfl,rfl,ju rd sd,_,_,rfl,gZ (den_pos r) (den_pos s),fun p H' g h=>?_⟩;rw[zee]at h;exact q _ H' g (RN.of_q h)
 ·refine⟨_,rfl,rfl,_,rfl,?_⟩;rw[decide_eq_false (fun e=>k0 (V.int.inj e))];refine iteF ?_;refine⟨_,rfl,_,rfl,_,_,rfl,rfl,_,rfl,_,_,rfl,rfl,k0,?_⟩;exact q _ _ (Same.refl H) RN.of_z
theorem zdu (D:Df K mg "_law_times" SO xW) (yh:Kn P w K mg base "_law_fraction" 41 SK jV):Kn P w K mg base "_law_times" 42 SO (Zj nmul):=by
 refine D.kn Jy (fun vs H Q E h=>?_) (fun f cdv A outer s H vs Q E hr h=>?_)
 ·obtain⟨k,x,y,a,b,rfl,_⟩:=h;rfl
 obtain⟨k,x,y,a,b,rfl,T,q⟩:=h;have kl:=T.kd.lt;refine⟨_,(zc (yb (zu xb (pv 0) ze (kae _)) (zh (zq (zF yh hr (za (zm zS (zt zE (pv 1) ze) (zt zE (pv 2) ze)) (za (zm zS (zt zE (pv 1) ze) (zt zE (pv 2) ze)) zd))))) zJ) (zh (zq (zm zP (zm zS (pv 1) (pv 2)) (pv 0))))),?_⟩
 rcases YT T with⟨rfl,r,s,pa,pb,rfl,rfl,rfl,rfl,ha,hb,rn,rd,sn,sd⟩|⟨k0,hp,i,j,rfl,rfl,rfl,rfl,i0,ik,j0,jk⟩
 ·refine⟨_,rfl,rfl,_,rfl,iteT ?_⟩;refine⟨_,rfl,pa,_,_,_,rfl,rfl,SqT.of ha,rfl,_,rfl,pb,_,_,_,rfl,rfl,SqT.of hb,rfl,_,_,rfl,rfl,ju rn sn,_,rfl,pa,_,_,_,rfl,rfl,SqT.of ha,rfl,_,rfl,pb,_,_,_,rfl,rfl,SqT.of hb,rfl,_,_,rfl,rfl,ju rd sd,_,_,rfl,gZ (den_pos r) (den_pos s),fun p H' g h=>?_⟩;rw[zaR]at h;exact q _ H' g (RN.of_q h)
 ·refine⟨_,rfl,rfl,_,rfl,?_⟩;rw[decide_eq_false (fun e=>k0 (V.int.inj e))];refine iteF ?_;refine⟨_,rfl,_,rfl,_,_,rfl,rfl,zY i0 (by have:=hp.hi;omega),_,rfl,_,_,rfl,rfl,k0,?_⟩;exact q _ _ (Same.refl H) RN.of_z
theorem zhL{k:Int}(hk:kaa k){x y:Nb}(ox:x.ok k)(oy:y.ok k):nadd k x (nmul k (nnum k (-1)) y)=nsub k x y:=by
 obtain⟨F,_,_,⟨φ⟩⟩:=La.yQ hk;have o1:=La.yg hk (-1);have om:=La.yD hk o1 oy;refine φ.inj (La.YV hk ox om) (za0 (by have:=hk.lt;omega) ox oy) ?_;rw[φ.add ox om,φ.mul o1 oy,φ.sub ox oy,φ.num];have:(La.ι (-1):F) = -1:=by
  have h1:(La.ι (-1):F)+La.ι 1=0:=by rw[← La.ι_add];exact La.ι_zero
  rw[La.ι_one]at h1
  grind
 rw[this]
 grind
def Yu:Sp:=fun vs H Q _=>∃(k:Int)(x y:Nb)(a b:V),vs=[.int k,a,b]/\kaa k/\x.ok k/\y.ok k/\nsm 30000000 x/\nsm 30000000 y/\RN H x a/\RN H y b/\∀ v H',Same H H'->RN H' (nsub k x y) v->Q v H'
theorem zeh (D:Df K mg "_law_minus" SO xQ) (yw:Kn P w K mg base "_law_make" 1 SN qr) (xG:Kn P w K mg base "_law_plus" 42 SO (Zj nadd)) (yd:Kn P w K mg base "_law_times" 42 SO (Zj nmul)):Kn P w K mg base "_law_minus" 43 SO Yu:=by
 refine D.kn JQ (fun vs H Q E h=>?_) (fun f cdv A outer s H vs Q E hr h=>?_)
 ·obtain⟨k,x,y,a,b,rfl,_⟩:=h;rfl
 obtain⟨k,x,y,a,b,rfl,hk,ox,oy,sx,sy,rx,ry,q⟩:=h;refine⟨_,(zh (zq (zF xG hr (za (pv 0) (za (pv 1) (za (zF yd hr (za (pv 0) (za (zF yw hr (za (pv 0) (za (zcz XE ze) zd))) (za (pv 2) zd)))) zd)))))),?_⟩;have o1:=La.yg hk (-1);have s1:nsm 30000000 (nnum k (-1)):=Jk hk (sm_one.neg.mono (by decide)) (by decide);refine⟨_,rfl,_,rfl,_,rfl,_,rfl,_,rfl,k,-1,rfl,hk,fun v1 H1 g1 r1=>?_⟩;refine⟨_,rfl,k,nnum k (-1),y,_,_,rfl,⟨hk,o1,oy,nsm.mono s1 (by decide),nsm.mono sy (by decide),r1,ry.mono g1⟩,fun v2 H2 g2 r2=>?_⟩;refine⟨k,x,_,_,_,rfl,⟨hk,ox,La.yD hk o1 oy,sx.mono (by decide),(zg5 hk o1 oy s1 sy (by decide)).mono (by decide),(rx.mono g1).mono g2,r2⟩,fun v3 H3 g3 r3=>?_⟩;rw[zhL hk ox oy]at r3;exact q v3 H3 ((g1.trans g2).trans g3) r3
def primesN:List Nat:=[2,3,5,7,11,13,17,19,23,29,31,37,41,43,47,53,59,61,67,71,73,79,83,89,97]
theorem zep:∀ w∈primesN,primeB w=true/\1<w/\w<99:=by decide
theorem ze2{i:Nat}(h:i<25):∃ k:Int,(([2,3,5,7,11,13,17,19,23,29,31,37,41,43,47,53,59,61,67,71,73,79,83,89,97]:List Int).map V.int)[i]?=some (.int k)/\KindS k:=by
 rw[show(([2,3,5,7,11,13,17,19,23,29,31,37,41,43,47,53,59,61,67,71,73,79,83,89,97]:List Int).map V.int)=primesN.map fun(w:Nat)=>V.int (w:Int)from rfl];have hi:i<primesN.length:=h;refine⟨(primesN[i]:Int),by rw[we,wb hi];rfl,.inr ?_⟩;obtain⟨h1,h2,h3⟩:=zep primesN[i] (wj hi);exact⟨by omega,by omega,by rw[wR];exact h1⟩
def QN:Sp:=fun vs H Q _=>∃(c:Int),vs=[.int c]/\∀ k H',Same H H'->KindS k->(c.fmod 3=0->k=0)->Q (.int k) H'
theorem zcX (hP:P.given.tree=none) (hS:base.NoSeer) (D:Df K mg "_law_prime" ["_law_cell"] yU):Kn P w K mg base "_law_prime" 41 ["_law_cell"] QN:=by
 refine D.kn sW (fun vs H Q E h=>?_) (fun f cdv A outer s H vs Q E hr h=>?_)
 ·obtain⟨c,rfl,_⟩:=h;rfl
 obtain⟨c,rfl,q⟩:=h;obtain⟨es,pa,pb,pc,hes,e0⟩ : ∃(es:List Expr)(pa pb pc:Pos),IntEs es [2,3,5,7,11,13,17,19,23,29,31,37,41,43,47,53,59,61,67,71,73,79,83,89,97]/\kam yU=Stmt.Assign (targets:=[Expr.Name "_law_primes" pa]) (value:=Expr.List es pb) (pos:=pc) ::(kam yU).tail:=⟨_,_,_,_,by repeat constructor,rfl⟩;rw[e0];refine⟨_,(zc (zo (i:=1) sW.nd rfl (.inl rfl) (yq (zg3 [2,3,5,7,11,13,17,19,23,29,31,37,41,43,47,53,59,61,67,71,73,79,83,89,97] hes))) (zc (yb (zu xb (zm zP (pv 0) ze) ze (kae _)) (zh (zq ze)) zJ) (zh (zq (zt zi (pv 1) (zt zi (yq (za (zm zP (zm (zQ hr (by decide) hP hS ⟨_,_,rfl,rfl,rfl,rfl,rfl⟩) (pv 0) ze) ze) (za (zm zP (zm (zQ hr (by decide) hP hS ⟨_,_,rfl,rfl,rfl,rfl,rfl⟩) (pv 0) ze) ze) zd))) (zm qx (zm zP (pv 0) ze) ze))))))),?_⟩;have n3:(3:Int)≠0:=by decide
 refine⟨(by show 25<=sizeLine;decide),fun p hp=>?_⟩;have hpp:upd H p (.lst (([2,3,5,7,11,13,17,19,23,29,31,37,41,43,47,53,59,61,67,71,73,79,83,89,97]:List Int).map V.int)) p=some (.lst (([2,3,5,7,11,13,17,19,23,29,31,37,41,43,47,53,59,61,67,71,73,79,83,89,97]:List Int).map V.int)):=zf;have g1:=zg hp (.lst (([2,3,5,7,11,13,17,19,23,29,31,37,41,43,47,53,59,61,67,71,73,79,83,89,97]:List Int).map V.int));generalize upd H p (.lst (([2,3,5,7,11,13,17,19,23,29,31,37,41,43,47,53,59,61,67,71,73,79,83,89,97]:List Int).map V.int))=H1 at *;refine⟨_,rfl,_,_,rfl,rfl,n3,rfl,_,rfl,?_⟩;refine ite2 (fun cc=>?_) (fun cc=>?_)
 ·exact q 0 _ g1 (.inl rfl) (fun _=>rfl)
 ·have c3:c.fmod 3≠0:=fun e=>cc (by show decide (V.int (c.fmod 3)=V.int 0)=true;rw[e];decide)
  have f0:=wx c (show(0:Int)<3 by decide);have f1:=wH c (show(0:Int)<3 by decide);have a0:=wx (c.fdiv 3) (show(0:Int)<4 by decide);have a1:=wH (c.fdiv 3) (show(0:Int)<4 by decide);have b0:=wx (c.fdiv 3) (show(0:Int)<25 by decide);have b1:=wH (c.fdiv 3) (show(0:Int)<25 by decide);refine⟨_,rfl,_,rfl,_,_,rfl,rfl,n3,_,_,rfl,rfl,(by show(4:Int)≠0;decide),_,rfl,_,_,rfl,rfl,n3,_,_,rfl,rfl,(by show(25:Int)≠0;decide),(by show 2<=sizeLine;decide),fun p2 hp2=>?_⟩;have g2:=zg hp2 (.lst [V.int ((c.fdiv 3).fmod 4),V.int ((c.fdiv 3).fmod 25)]);obtain⟨i,ei,hi⟩ : ∃ i:Nat,atI [V.int ((c.fdiv 3).fmod 4),V.int ((c.fdiv 3).fmod 25)] (c.fmod 3 - 1)=some (.int (i:Int))/\i<25:=by
   rcases (show c.fmod 3=1\/c.fmod 3=2 by omega)with e|e
   ·refine⟨((c.fdiv 3).fmod 4).toNat,?_,by omega⟩;rw[e,show((((c.fdiv 3).fmod 4).toNat:Nat):Int) =(c.fdiv 3).fmod 4 by omega]
    rfl
   ·refine⟨((c.fdiv 3).fmod 25).toNat,?_,by omega⟩;rw[e,show((((c.fdiv 3).fmod 25).toNat:Nat):Int) =(c.fdiv 3).fmod 25 by omega]
    rfl
  obtain⟨k,ek,hk⟩:=ze2 hi;exact⟨_,rfl,_,_,rfl,rfl,n3,_,_,rfl,rfl,p2,_,_,_,rfl,rfl,SqL.of zf,ei,p,_,_,_,rfl,rfl,SqL.of (g2 _ _ hpp),zD ek,q k _ (g1.trans g2) hk (fun e=>absurd e c3)⟩
def zfV:Sp:=fun vs H Q _=>∃(k:Int)(pc:Addr)(cs:List Int)(i:Nat)(iI:Int),vs=[.int k,.ref pc,.int iI]/\iI =(i:Int)/\kaa k/\H pc=some (.lst (cs.map V.int))/\cs≠[]/\∀ x v H',Same H H'->RN H' x v->x.ok k->Q v H'
theorem zhp (D:Df K mg "_law_at" SQ Zf) (ZG:Kn P w K mg base "_law_drawn" 42 SM Qs) (jS:Kn P w K mg base "_law_mixed" 41 SL JW) (m_len:mg "len" = none):Kn P w K mg base "_law_at" 43 SQ zfV:=by
 refine D.kn zb4 (fun vs H Q E h=>?_) (fun f cdv A outer s H vs Q E hr h=>?_)
 ·obtain⟨k,pc,cs,i,iI,rfl,_⟩:=h;rfl
 obtain⟨k,pc,cs,i,iI,rfl,rfl,hk,hc,ne,q⟩:=h;refine⟨_,(zc (yb (zu zeU (pv 2) (zp zx rfl m_len zU (za (pv 1) zd)) (kae _)) (zh (zq (zF ZG hr (za (pv 0) (za (zt zi (pv 1) (pv 2)) zd))))) zJ) (zh (zq (zF ZG hr (za (pv 0) (za (zF jS hr (za (zm yi (zt zi (pv 1) ze) (pv 2)) (za (zm zP (pv 2) ze) zd))) zd)))))),?_⟩;refine⟨_,rfl,_,rfl,pc,_,rfl,.inl (SqL.of hc),_,_,rfl,rfl,_,rfl,?_⟩;refine ite2 (fun cc=>?_) (fun cc=>?_)
 ·have c':(i:Int) <(((cs.map V.int).length:Nat):Int):=of_decide_eq_true cc;rw[wa]at c';have e:(cs.map V.int)[i]?=some (.int cs[i]):=by rw[we,wb (by omega)];rfl
  exact⟨_,rfl,_,rfl,_,rfl,pc,_,_,_,rfl,rfl,SqL.of hc,zD e,k,_,rfl,hk,q⟩
 ·obtain⟨c0,cs',rfl⟩:=vV ne;have f0:=wx (i:Int) (show(0:Int)<30 by decide);have f1:=wH (i:Int) (show(0:Int)<30 by decide);exact⟨_,rfl,_,rfl,pc,_,_,_,rfl,rfl,SqL.of hc,zD (j:=0) rfl,_,rfl,_,_,rfl,rfl,_,rfl,_,_,rfl,rfl,(by show(30:Int)≠0;decide),_,_,rfl,(by omega),(by omega),fun m _ _=>⟨k,m,rfl,hk,q⟩⟩
def YH:Sp:=fun vs H Q _=>∃(k:Int)(pc:Addr)(cs:List Int)(i:Nat)(iI:Int),vs=[.int k,.ref pc,.int iI]/\iI =(i:Int)/\kaa k/\H pc=some (.lst (cs.map V.int))/\cs≠[]/\∀ x v H',Same H H'->RN H' x v->x.ok k->whk k 2 x->Q v H'
theorem zdW (D:Df K mg "_law_small" SQ xT) (zdg:Kn P w K mg base "_law_at" 43 SQ zfV):Kn P w K mg base "_law_small" 44 SQ YH:=by
 refine D.kn sY (fun vs H Q E h=>?_) (fun f cdv A outer s H vs Q E hr h=>?_)
 ·obtain⟨k,pc,cs,i,iI,rfl,_⟩:=h;rfl
 obtain⟨k,pc,cs,i,iI,rfl,rfl,hk,hc,ne,q⟩:=h;refine⟨_,(zc (zo (i:=3) sY.nd rfl (.inl rfl) (zF zdg hr (za (pv 0) (za (pv 1) (za (pv 2) zd))))) (zc (yb (zu xb (pv 0) ze (kae _)) (zh (zq (yy (za (zm qx (zm zP (zt zE (pv 3) ze) ze) ze) (za ze zd))))) zJ) (zh (zq (pv 3))))),?_⟩;refine⟨_,rfl,_,rfl,_,rfl,k,pc,cs,i,_,rfl,rfl,hk,hc,ne,fun x v H1 g1 rx ox=>?_⟩;refine⟨_,rfl,rfl,_,rfl,?_⟩;refine ite2 (fun cc=>?_) (fun cc=>?_)
 ·have k0:k=0:=V.int.inj (of_decide_eq_true cc);subst k0;cases x with
  | z j=>exact absurd rfl ox.1
  | q r =>
   obtain⟨p,rfl,hp⟩:=rx.q;have f0:=wx r.num (show(0:Int)<5 by decide);have f1:=wH r.num (show(0:Int)<5 by decide);refine⟨_,rfl,p,_,_,_,rfl,rfl,SqT.of hp,rfl,_,_,rfl,rfl,(by show(5:Int)≠0;decide),_,_,rfl,rfl,(by show 2<=sizeLine;decide),fun p2 hp2=>?_⟩;refine q (.q ((r.num.fmod 5 - 2:Int):Rat)) _ _ (g1.trans (zg hp2 _)) (RN.of_q (r:=((r.num.fmod 5 - 2:Int):Rat)) zf) rfl fun _=>⟨r.num.fmod 5 - 2,rfl,?_⟩
   have:(2:Nat)^2=4:=by decide
   omega
 ·have k0:k≠0:=fun e=>cc (by show decide (V.int k=V.int 0)=true;rw[e];decide)
  exact⟨_,rfl,q x v H1 g1 rx ox fun e=>absurd e k0⟩
def QK:Sp:=fun vs H Q _=>∃(h:Int)(n:Nat)(b:Bool),vs=[.int h,.int (n:Int),.bl b]/\n<=60/\∀(ss:List Int)(l:Addr)(H':Hp),Same H H'->H' l=some (.lst (ss.map V.int))->ss.length=n->Q (.ref l) H'
theorem zcH (D:Df K mg "_law_sorts" SR xP) (jS:Kn P w K mg base "_law_mixed" 41 SL JW) (zH:mg "range" = none) (Jh:mg "sorted" = none):Kn P w K mg base "_law_sorts" 42 SR QK:=by
 refine D.kn Jx (fun vs H Q E h=>?_) (fun f cdv A outer s H vs Q E hr h=>?_)
 ·obtain⟨h,n,b,rfl,_⟩:=h;rfl
 obtain⟨h,n,b,rfl,n60,q⟩:=h;have szl:=Qa
 refine⟨_,(zc (yb (yT (pv 2)) (zh (zq (yM [] [] (zR rfl zH (za (pv 1) zd)) fun _ _ _ _ _ _=>⟨zM,ze⟩))) zJ) (zh (zq (zp QE rfl Jh zdm (za (yM ["_law_head"] [0] (zR rfl zH (za (pv 1) zd)) fun _ _ _ _ _ _=>⟨zM,(zm zP (zF jS hr (za (pv 1) (za (zm yi ze (pv 0)) zd))) ze)⟩) zd))))),?_⟩;refine⟨_,rfl,_,rfl,?_⟩;refine ite2 (fun cc=>?_) (fun cc=>?_)
 ·refine⟨_,rfl,n,rfl,(by omega),(by omega),?_⟩;rw[wR];refine yG (lo:=0) (n:=n) (fun i ys H'=>H'=H/\ys =(vD i (1:Int)).map V.int) ⟨rfl,rfl⟩ ?_ ?_ ?_
  ·rintro i ys H' hi ⟨rfl,rfl⟩
   rw[wa,vL];omega
  ·rintro i ys H' hi ⟨rfl,rfl⟩
   first|refine gyes ?_|refine tyes ?_
   refine nxt hi ⟨rfl,?_⟩;rw[gM,wu];rfl
  ·rintro ys H' ⟨rfl,rfl⟩ p hp
   exact q _ p _ (zg hp _) zf (by rw[vL])
 ·refine⟨_,rfl,n,rfl,(by omega),(by omega),?_⟩;rw[wR];refine yG (lo:=0) (n:=n) (fun i ys H'=>H'=H/\∃ ss:List Int,ys=ss.map V.int/\ss.length=i) ⟨rfl,[],rfl,rfl⟩ ?_ ?_ ?_
  ·rintro i ys H' hi ⟨rfl,ss,rfl,l⟩
   rw[wa];omega
  ·rintro i ys H' hi ⟨rfl,ss,rfl,l⟩
   first|refine gyes ?_|refine tyes ?_
   refine⟨_,rfl,_,rfl,_,_,rfl,rfl,_,_,rfl,(by omega),(by omega),fun m _ _=>⟨_,_,rfl,rfl,(by show(4:Int)≠0;decide),nxt hi ⟨rfl,ss++[m.fmod 4],?_,by rw[wy,l];rfl⟩⟩⟩;rw[wu];rfl
  ·rintro ys H' ⟨rfl,ss,rfl,l⟩ p hp
   refine⟨p,ss,rfl,SqL.of zf,(by omega),fun l2 ss' hl2 pm _=>?_⟩;exact q ss' l2 _ ((zg hp _).trans (zg hl2 _)) zf (by rw[pm.length_eq,l])
def zbb:Sp:=fun vs H Q _=>∃(a b:Int),vs=[.int a,.int b]/\∀ c,Q (.bl c) H
theorem zfq (D:Df K mg "_law_lets" SS jy):Kn P w K mg base "_law_lets" 1 SS zbb:=by
 refine D.kn zak (fun vs H Q E h=>?_) (fun f cdv A outer s H vs Q E hr h=>?_)
 ·obtain⟨a,b,rfl,_⟩:=h;rfl
 obtain⟨a,b,rfl,q⟩:=h;refine⟨_,(zc (yb (zu xb (pv 0) ze (kae _)) (zh (zq (zh5 (yE xb (pv 1) ze (kae _)) (ZH (yE xb (pv 1) ze (kae _)))))) zJ) (zc (yb (zu xb (pv 0) ze (kae _)) (zh (zq (yE jJ (pv 1) ze (kae _)))) zJ) (zh (zq (zh5 (yE xb (pv 0) ze (kae _)) (ZH (yE xb (pv 1) ze (kae _)))))))),?_⟩;refine⟨_,rfl,rfl,_,rfl,?_⟩;refine ite2 (fun c1=>?_) (fun c1=>?_)
 ·refine⟨_,rfl,rfl,_,rfl,?_⟩;refine ite2 (fun c2=>?_) (fun c2=>?_)
  ·exact q _
  ·exact⟨_,rfl,rfl,q _⟩
 ·refine⟨_,rfl,rfl,_,rfl,?_⟩;refine ite2 (fun c2=>?_) (fun c2=>?_)
  ·exact⟨_,rfl,_,_,rfl,rfl,q _⟩
  ·refine⟨_,rfl,rfl,_,rfl,?_⟩;refine ite2 (fun c3=>?_) (fun c3=>?_)
   ·exact q _
   ·exact⟨_,rfl,rfl,q _⟩
theorem QV{K:PySem.W.Frag}{a:Addr}{xs:List V}{g:TG}{tb:TS}{D:Ends}{σ:L2.St}{H:Hp}(Pv:Nat->L2.St->Hp->Prop)(h0:Pv 0 σ H)(hl:∀ i σ H,i<=xs.length->Pv i σ H->SqL K H a xs)
  (hs:∀(N B:L2.St->Hp->Prop)(i:Nat)(x:V)(σ:L2.St)(H:Hp),(∀ σ' H',Pv (i+1) σ' H'->N σ' H')->xs[i]?=some x->Pv i σ H->g x σ H fun σ2 H2=>tb { D with nx:=N,ct:=N,bk:=B } σ2 H2) (hd:∀ σ H,Pv xs.length σ H->D.nx σ H) :
  ∃ W:Nat->Nat->L2.St->Hp->Prop,(∃ m,W 0 m σ H)/\∀ i m σ H,W i m σ H ->
   ((Itl K a).stop i H/\D.nx σ H)\/((Itl K a).go i H/\∃ N:L2.St->Hp->Prop,(∀ σ' H',N σ' H'->∃ m',m'<m/\W (i+1) m' σ' H')/\∀ x H',(Itl K a).yld i H x H'->g x σ H' fun σ2 H2=>tb { D with nx:=N,ct:=N,bk:=D.nx } σ2 H2) :=
 yZ Pv h0 hl (fun i x σ H hx p=>hs (Pv (i+1)) D.nx i x σ H (fun _ _ h=>h) hx p) hd
theorem Zs{lo:Int}{n:Nat}{g:TG}{tb:TS}{D:Ends}{σ:L2.St}{H:Hp}(Pv:Nat->L2.St->Hp->Prop)(h0:Pv 0 σ H)
  (hs:∀(N B:L2.St->Hp->Prop)(i:Nat)(σ:L2.St)(H:Hp),(∀ σ' H',Pv (i+1) σ' H'->N σ' H')->i<n->Pv i σ H->g (.int (lo+i)) σ H fun σ2 H2=>tb { D with nx:=N,ct:=N,bk:=B } σ2 H2) (hd:∀ σ H,Pv n σ H->D.nx σ H) :
  ∃ W:Nat->Nat->L2.St->Hp->Prop,(∃ m,W 0 m σ H)/\∀ i m σ H,W i m σ H ->
   ((Itr lo n).stop i H/\D.nx σ H)\/((Itr lo n).go i H/\∃ N:L2.St->Hp->Prop,(∀ σ' H',N σ' H'->∃ m',m'<m/\W (i+1) m' σ' H')/\∀ x H',(Itr lo n).yld i H x H'->g x σ H' fun σ2 H2=>tb { D with nx:=N,ct:=N,bk:=D.nx } σ2 H2) :=
 yp Pv h0 (fun i σ H hi p=>hs (Pv (i+1)) D.nx i σ H (fun _ _ h=>h) hi p) hd
def YN:Sp:=fun vs H Q _=>∃(k:Int)(pc pz ps:Addr)(cs ss:List Int)(n m q:Nat),vs=[.int k,.ref pc,.ref pz,.ref ps]/\kaa k/\H pc=some (.lst (cs.map V.int))/\cs≠[]/\H pz=some (.tup [.int (n:Int),.int (m:Int),.int (q:Int)])/\H ps=some (.lst (ss.map V.int))/\ss.length=n/\n<=10/\m<=10/\q<=10 /\
 ∀(A B C:Tb)(pt pr:Addr)(ts:List Addr)(rs:List (List Addr))(at':Nat)(H':Hp),kah H H' [A,B,C] ts rs->TW k n n 2 A->TW k n m 2 B->TW k q n 2 C->H' pt=some (.lst (ts.map V.ref))->H pt=none->pt∉ts->(∀ ras∈rs,pt∉ras)->H' pr=some (.tup [.ref pt,.int (at':Int)])->Q (.ref pr) H'
def dimR(n m q j:Nat):Nat:=if j=2 then q else n
def dimC(n m q j:Nat):Nat:=if j=1 then m else n
theorem zaC (D:Df K mg "_law_blocked" ST xn) (yw:Kn P w K mg base "_law_make" 1 SN qr) (jT:Kn P w K mg base "_law_small" 44 SQ YH) (zaS:Kn P w K mg base "_law_lets" 1 SS zbb) (zH:mg "range" = none):Kn P w K mg base "_law_blocked" 45 ST YN:=by
 refine D.kn sK (fun vs H Q E h=>?_) (fun f cdv A' outer s' H vs Q E hr h=>?_)
 ·obtain⟨k,pc,pz,ps,cs,ss,n,m,q,rfl,_⟩:=h;rfl
 obtain⟨k,pc,pz,ps,cs,ss,n,m,qn,rfl,hk,hc,ne,hz,hs,ls,n10,m10,q10,q⟩:=h;have szl:=Qa
 refine⟨_,(zc (qR (pv 2) (jv 3 rfl (zT (zI (i:=4) sK.nd rfl (.inl rfl)) (zT (zI (i:=5) sK.nd rfl (.inl rfl)) (zT (zI (i:=6) sK.nd rfl (.inl rfl)) xF))))) (zc (zo (i:=7) sK.nd rfl (.inr rfl) (zF yw hr (za (pv 0) (za ze zd)))) (zc (zo (i:=8) sK.nd rfl (.inl rfl) (yq zd)) (zc (zo (i:=9) sK.nd rfl (.inr rfl) ze) (zc (yt PassesOwn.never rfl (zw (yq (za (yy (za (pv 4) (za (pv 4) zd))) (za (yy (za (pv 4) (za (pv 5) zd))) (za (yy (za (pv 6) (za (pv 4) zd))) zd))))) (jv 2 rfl (zT (zI (i:=10) sK.nd rfl (.inl rfl)) (zT (zI (i:=11) sK.nd rfl (.inr rfl)) xF))) (zc (zo (i:=12) sK.nd rfl (.inl rfl) (yq zd)) (zc (yt PassesOwn.never rfl (zR rfl zH (za (pv 10) zd)) (zI (i:=13) sK.nd rfl (.inr rfl)) (zh (yS (bm0 (fun _ h=>qX PySem.F.plainAttrs_list PySem.F.slot_list_append PySem.F.type_list_append yF h (za (yM ["_law_prime_here", "_law_cells", "_law_at_here", "_law_i", "_law_columns"] [0,1,9,13,11] (zR rfl zH (za (pv 11) zd)) fun _ _ _ _ _ _=>⟨zM,(zF jT hr (za (pv 1) (za (pv 2) (za (zm yi (zm yi (pv 3) (zm zS (pv 4) (pv 5))) (pv 0)) zd))))⟩) zd)) (pv 12))))) (zc (yS (bm0 (fun _ h=>qX PySem.F.plainAttrs_list PySem.F.slot_list_append PySem.F.type_list_append yF h (za (pv 12) zd)) (pv 8))) (zh (zo (i:=9) sK.nd rfl (.inr rfl) (zm yi (pv 9) (zm zS (pv 10) (pv 11))))))))) (zc (yt PassesOwn.never rfl (zR rfl zH (za (pv 4) zd)) (zI (i:=13) sK.nd rfl (.inr rfl)) (zc (yt PassesOwn.never rfl (zR rfl zH (za (pv 4) zd)) (zI (i:=14) sK.nd rfl (.inl rfl)) (zh (yb (xB (yT (zF zaS hr (za (zt zi (pv 3) (pv 13)) (za (zt zi (pv 3) (pv 14)) zd))))) (zh (qR (pv 7) (QF (zt zi (zt zi (pv 8) ze) (pv 13)) (pv 14) Zb))) zJ))) (zc (yb (zu jJ (zt zi (pv 3) (pv 13)) ze (kae _)) (zh (qR (yM ["_law_nought"] [7] (zR rfl zH (za (pv 5) zd)) fun _ _ _ _ _ _=>⟨zM,(pv 1)⟩) (QF (zt zi (pv 8) ze) (pv 13) Zb))) zJ) (zh (yb (zu xb (zm zP (zt zi (pv 3) (pv 13)) ze) ze (kae _)) (zh (yt PassesOwn.never rfl (zw (zt zi (pv 8) ze)) (zI (i:=15) sK.nd rfl (.inl rfl)) (zh (qR (pv 7) (QF (pv 15) (pv 13) Zb))))) zJ))))) (zh (zq (yy (za (pv 8) (za (pv 9) zd))))))))))),?_⟩;refine⟨_,rfl,pz,_,rfl,SqT.of hz,rfl,_,_,rfl,_,_,rfl,_,_,rfl,rfl,?_⟩;refine⟨_,rfl,k,0,rfl,hk,fun v0 H1 g1 r1=>?_⟩;refine⟨(by show 0<=sizeLine;decide),fun pt hpt=>?_⟩;have ptH:H pt=none:=g1.none hpt;have g2:=zg hpt (.lst []);have hpt2:upd H1 pt (.lst []) pt=some (.lst []):=zf;have r2:=r1.mono g2;have gH2:=g1.trans g2;generalize upd H1 pt (.lst [])=H2 at *;clear hpt r1;refine⟨_,rfl,_,rfl,(by show 2<=sizeLine;decide),fun q1 hq1=>?_⟩;have g3:=zg hq1 (.tup [.int (n:Int),.int (n:Int)]);have e1:upd H2 q1 (.tup [.int (n:Int),.int (n:Int)]) q1=some (.tup [.int (n:Int),.int (n:Int)]):=zf;generalize upd H2 q1 (.tup [.int (n:Int),.int (n:Int)])=H3 at *;refine⟨_,rfl,_,rfl,(by show 2<=sizeLine;decide),fun q2 hq2=>?_⟩;have g4:=zg hq2 (.tup [.int (n:Int),.int (m:Int)]);have e2:upd H3 q2 (.tup [.int (n:Int),.int (m:Int)]) q2=some (.tup [.int (n:Int),.int (m:Int)]):=zf;generalize upd H3 q2 (.tup [.int (n:Int),.int (m:Int)])=H4 at *;refine⟨_,rfl,_,rfl,(by show 2<=sizeLine;decide),fun q3 hq3=>?_⟩;have g5:=zg hq3 (.tup [.int (qn:Int),.int (n:Int)]);have e3:upd H4 q3 (.tup [.int (qn:Int),.int (n:Int)]) q3=some (.tup [.int (qn:Int),.int (n:Int)]):=zf;generalize upd H4 q3 (.tup [.int (qn:Int),.int (n:Int)])=H5 at *;refine⟨(by show 3<=sizeLine;decide),fun pl hpl=>?_⟩;have g6:=zg hpl (.lst [.ref q1,.ref q2,.ref q3]);have e4:upd H5 pl (.lst [.ref q1,.ref q2,.ref q3]) pl=some (.lst [.ref q1,.ref q2,.ref q3]):=zf;generalize upd H5 pl (.lst [.ref q1,.ref q2,.ref q3])=H6 at *;have hpt6:=g6 _ _ (g5 _ _ (g4 _ _ (g3 _ _ hpt2)));have npl:pl≠pt:=fun e=>by rw[e,g5 _ _ (g4 _ _ (g3 _ _ hpt2))]at hpl;cases hpl
 have nq1:q1≠pt:=fun e=>by rw[e,hpt2]at hq1;cases hq1
 have nq2:q2≠pt:=fun e=>by rw[e,g3 _ _ hpt2]at hq2;cases hq2
 have nq3:q3≠pt:=fun e=>by rw[e,g4 _ _ (g3 _ _ hpt2)]at hq3;cases hq3
 have gH6:=(((gH2.trans g3).trans g4).trans g5).trans g6;have r6:=(((r2.mono g3).mono g4).mono g5).mono g6;have f1:=g6 _ _ (g5 _ _ (g4 _ _ e1));have f2:=g6 _ _ (g5 _ _ e2);have f3:=g6 _ _ e3;clear g1 g2 g3 g4 g5 g6 hq1 hq2 hq3 hpl e1 e2 e3 hpt2 gH2 r2;refine⟨pl,rfl,⟨_,SqL.of e4⟩,?_⟩;refine QV (xs:=[.ref q1,.ref q2,.ref q3]) (fun i σ H'=>∃ Ms ts rs,∃ at':Nat,∃ o10 o11 o12 o13 o14 o15,σ=[some (.int k),some (.ref pc),some (.ref pz),some (.ref ps),some (.int (n:Int)),some (.int (m:Int)),some (.int (qn:Int)),some v0,some (.ref pt),some (.int (at':Int)),o10,o11,o12,o13,o14,o15]/\kah H H' Ms ts rs/\Ms.length=i/\(∀ j M,Ms[j]?=some M->TW k (dimR n m qn j) (dimC n m qn j) 2 M)/\H' pt=some (.lst (ts.map V.ref))/\pt∉ts/\(∀ ras∈rs,pt∉ras)/\RN H' (nnum k 0) v0/\H' pl=some (.lst [.ref q1,.ref q2,.ref q3])/\H' q1=some (.tup [.int (n:Int),.int (n:Int)])/\H' q2=some (.tup [.int (n:Int),.int (m:Int)])/\H' q3=some (.tup [.int (qn:Int),.int (n:Int)]))
  ⟨[],[],[],1,none,none,none,none,none,none,rfl,kah.nil gH6,rfl,fun j M h=>by simp at h,hpt6,by simp,fun ras hr=>(nomatch hr),r6,e4,f1,f2,f3⟩ ?_ ?_ ?_
 ·rintro i σ H' _ ⟨Ms,ts,rs,at',o10,o11,o12,o13,o14,o15,rfl,G,lM,dM,hpt,nt,nr,r0,hl,_⟩
  exact SqL.of hl
 ·intro N1 B1 i v σ H7 hN1 hv
  rintro ⟨Ms,ts,rs,at',o10,o11,o12,o13,o14,o15,rfl,G,lM,dM,hpt7,nt,nr,r0,hl,h1,h2,h3⟩
  obtain⟨qa,rows,cols,rfl,hqa,er,ec,rb,cb⟩ : ∃ qa rows cols,v=.ref qa/\H7 qa=some (.tup [.int ((rows:Nat):Int),.int ((cols:Nat):Int)])/\rows=dimR n m qn i/\cols=dimC n m qn i/\rows<=10/\cols<=10:=by
   match i,hv with
   | 0,hv=>cases hv;exact⟨q1,n,n,rfl,h1,rfl,rfl,n10,n10⟩
   | 1,hv=>cases hv;exact⟨q2,n,m,rfl,h2,rfl,rfl,n10,m10⟩
   | 2,hv=>cases hv;exact⟨q3,qn,n,rfl,h3,rfl,rfl,q10,n10⟩
  refine⟨qa,_,rfl,SqT.of hqa,rfl,_,_,rfl,_,_,rfl,rfl,?_⟩;refine⟨(by show 0<=sizeLine;decide),fun pto hpto=>?_⟩;have hc7:=G.same _ _ hc;refine⟨_,rfl,rows,rfl,(by omega),(by omega),?_⟩;rw[wR];refine Zs (lo:=0) (n:=rows) (fun j σ H'=>∃ M ras o13 o14 o15,σ=[some (.int k),some (.ref pc),some (.ref pz),some (.ref ps),some (.int (n:Int)),some (.int (m:Int)),some (.int (qn:Int)),some v0,some (.ref pt),some (.int (at':Int)),some (.int (rows:Int)),some (.int (cols:Int)),some (.ref pto),o13,o14,o15]/\Grow H7 H' M ras/\H' pto=some (.lst (ras.map V.ref))/\pto∉ras/\M.length=j/\La.OkM k cols M/\(∀ r∈M,∀ x∈r,whk k 2 x)) ⟨[],[],_,_,_,rfl,Grow.nil H7 (zg hpto _),zf,by simp,rfl,fun r hr=>(nomatch hr),fun r hr=>(nomatch hr)⟩ ?_ ?_
  ·intro N2 B2 j σ H8 hN2 hj
   rintro ⟨M,ras,o13,o14,o15,rfl,G8,hpt8,npt8,l8,o8,s8⟩
   refine⟨_,rfl,.inl ⟨rfl,_,SqL.of hpt8⟩,_,rfl,cols,rfl,(by omega),(by omega),?_⟩;rw[wR];have ci0:0<=(0 +(j:Int)) *(cols:Int):=gX (by omega) (by omega);refine yG (lo:=0) (n:=cols) (fun l ys' H9=>∃ xs,Same H8 H9/\Paired (RN H9) xs ys'/\xs.length=l/\La.OkR k xs/\∀ x∈xs,whk k 2 x) ⟨[],Same.refl _,.nil,rfl,fun x hx=>(nomatch hx),fun x hx=>(nomatch hx)⟩ ?_ ?_ ?_
   ·rintro l ys' H9 hl' ⟨xs,g9,pr9,lx,_⟩
    have:=zj pr9;omega
   ·rintro l ys' H9 hl' ⟨xs,g9,pr9,lx,ox,sx⟩
    have hc9:H9 pc=some (.lst (cs.map V.int)):=g9 _ _ (G8.same _ _ hc7)
    first|refine gyes ?_|refine tyes ?_
    refine⟨_,rfl,_,rfl,_,rfl,_,rfl,_,rfl,_,_,rfl,rfl,jl (by omega) (by omega),_,_,rfl,rfl,_,rfl,_,_,rfl,rfl,k,pc,cs,((at':Int) +(0 +(j:Int)) *(cols:Int) +(0 +(l:Int))).toNat,_,rfl,(by omega),hk,hc9,ne,fun x v' H10 g10 xr xo xs2=>?_⟩;refine nxt hl' ⟨xs++[x],g9.trans g10,zZ (jj g10 pr9) xr,by rw[wy,lx];rfl,fun y hy=>?_,fun y hy=>?_⟩
    ·rcases wt.mp hy with h|h
     ·exact ox y h
     ·rw[wm.mp h];exact xo
    ·rcases wt.mp hy with h|h
     ·exact sx y h
     ·rw[wm.mp h];exact xs2
   ·rintro ys' H9 ⟨xs,g9,pr9,lx,ox,sx⟩ pn hpn
    have npn:pto≠pn:=fun e=>by rw[← e,g9 _ _ hpt8]at hpn;cases hpn
    refine⟨pto,_,_,rfl,rfl,(by rw[zN npn];exact g9 _ _ hpt8),?_,?_⟩
    ·have:=zj G8.rows;rw[wa];omega
    obtain⟨G9,nm9⟩:=G8.push (zs':=(ras.map V.ref)++[.ref pn]) hpto hpt8 npt8 g9 hpn pr9;refine hN2 _ _ ⟨M++[xs],ras++[pn],_,_,_,rfl,G9,?_,nm9,by rw[wy,l8];rfl,fun y hy=>?_,fun y hy=>?_⟩
    ·rw[zf,wu];rfl
    ·rcases wt.mp hy with h|h
     ·exact o8 y h
     ·rw[wm.mp h];exact⟨lx,ox⟩
    ·rcases wt.mp hy with h|h
     ·exact s8 y h
     ·rw[wm.mp h];exact sx
  ·rintro σ H8 ⟨M,ras,o13,o14,o15,rfl,G8,hpt8,npt8,l8,o8,s8⟩
   have g8:=G8.same;have hptb:H8 pt=some (.lst (ts.map V.ref)):=g8 _ _ hpt7;have N8:NewT H7 H8 M pto ras:=⟨⟨hpt8,G8.rows⟩,hpto,G8.fr,G8.nd,npt8⟩;have lts:=G.lt;have hi3:i<3:=(wp.mp hv).1;refine⟨_,rfl,.inl ⟨rfl,_,SqL.of hptb⟩,_,rfl,pt,_,_,rfl,rfl,hptb,(by rw[wa];omega),?_⟩;have nt8:pt≠pto:=fun e=>by have:=hpto;rw[← e,hpt7]at this;cases this
   have nr8:pt∉ras:=fun hm=>by have:=G8.fr _ hm;rw[hpt7]at this;cases this
   have nts:pt∉ts++[pto]:=fun hm=>by
    rcases wt.mp hm with h|h
    ·exact nt h
    ·exact nt8 (wm.mp h)
   have nrs:∀ x∈rs++[ras],pt∉x:=fun x hm=>by
    rcases wt.mp hm with h|h
    ·exact nr x h
    ·rw[wm.mp h];exact nr8
   have G9:=(G.push g8 N8).updAt (zs':=(ts.map V.ref)++[.ref pto]) ptH hptb nts nrs;refine⟨_,rfl,_,rfl,_,rfl,_,_,rfl,rfl,jl (by omega) (by omega),_,_,rfl,rfl,hN1 _ _ ⟨Ms++[M],ts++[pto],rs++[ras],at'+rows*cols,some (.int (rows:Int)),some (.int (cols:Int)),some (.ref pto),o13,o14,o15,?_,G9,by rw[wy,lM];rfl,fun j M' hj=>?_,by rw[zf,wu];rfl,nts,nrs,(r0.mono g8).upd hptb,by rw[zN npl];exact g8 _ _ hl,by rw[zN nq1];exact g8 _ _ h1,by rw[zN nq2];exact g8 _ _ h2,by rw[zN nq3];exact g8 _ _ h3⟩⟩
   ·rw[show((at'+rows*cols:Nat):Int) =(at':Int) +(rows:Int) *(cols:Int) by rw[Int.natCast_add,uM]]
    rfl
   ·rcases wK j Ms.length with h|h
    ·rw[wO h]at hj;exact dM j M' hj
    ·have e:j=Ms.length:=by
      have:=(wp.mp hj).1;simp at this;omega
     subst e;rw[wJ (ww _),vQ]at hj;cases hj;rw[lM,← er,← ec];exact⟨l8,o8,s8⟩
 rintro σ H7 ⟨Ms,ts,rs,at',o10,o11,o12,o13,o14,o15,rfl,G,lM,dM,hpt7,nt,nr,r0,_⟩
 obtain⟨A,B,C,rfl⟩ : ∃ A B C,Ms=[A,B,C]:=by
  match Ms,lM with
  | [A,B,C],_=>exact⟨A,B,C,rfl⟩
 have tA:TW k n n 2 A:=dM 0 A rfl;have tB:TW k n m 2 B:=dM 1 B rfl;have tC:TW k qn n 2 C:=dM 2 C rfl;obtain⟨ta,tb,tc,rfl⟩ : ∃ ta tb tc,ts=[ta,tb,tc]:=by
  match ts,G.lt with
  | [ta,tb,tc],_=>exact⟨ta,tb,tc,rfl⟩
 clear dM lM e4 f1 f2 f3 hpt6 npl nq1 nq2 nq3 r6 gH6;have z0:(nnum k 0).ok k:=La.yg hk 0;have zs:whk k 2 (nnum k 0):=fun _=>⟨0,rfl,by decide⟩
 refine⟨_,rfl,n,rfl,(by omega),(by omega),?_⟩;rw[wR];refine Zs (lo:=0) (n:=n) (fun i σ H'=>∃ A B C rs o10 o11 o12 o13 o14 o15,σ=[some (.int k),some (.ref pc),some (.ref pz),some (.ref ps),some (.int (n:Int)),some (.int (m:Int)),some (.int (qn:Int)),some v0,some (.ref pt),some (.int (at':Int)),o10,o11,o12,o13,o14,o15]/\kah H H' [A,B,C] [ta,tb,tc] rs/\TW k n n 2 A/\TW k n m 2 B/\TW k qn n 2 C/\H' pt=some (.lst [.ref ta,.ref tb,.ref tc])/\(∀ ras∈rs,pt∉ras)/\RN H' (nnum k 0) v0) ⟨A,B,C,rs,_,_,_,_,_,_,rfl,G,tA,tB,tC,hpt7,nr,r0⟩ ?_ ?_
 ·clear G tA tB tC hpt7 nr r0;intro N4 B4 i σ H8 hN4 hi
  rintro ⟨A,B,C,rs,o10,o11,o12,o13,o14,o15,rfl,G,tA,tB,tC,hpt8,nr,r0⟩
  have hss:(ss.map V.int)[i]?=some (.int ss[i]):=by rw[we,wb (by omega)];rfl
  refine⟨_,rfl,n,rfl,(by omega),(by omega),?_⟩;rw[wR];refine Zs (lo:=0) (n:=n) (fun j σ H'=>∃ A o14 o15,σ=[some (.int k),some (.ref pc),some (.ref pz),some (.ref ps),some (.int (n:Int)),some (.int (m:Int)),some (.int (qn:Int)),some v0,some (.ref pt),some (.int (at':Int)),o10,o11,o12,some (.int (0 +(i:Int))),o14,o15]/\kah H H' [A,B,C] [ta,tb,tc] rs/\TW k n n 2 A/\H' pt=some (.lst [.ref ta,.ref tb,.ref tc])/\RN H' (nnum k 0) v0) ⟨A,_,_,rfl,G,tA,hpt8,r0⟩ ?_ ?_
  ·clear G tA hpt8 r0;intro N5 B5 j σ H9 hN5 hj
   rintro ⟨A,o14,o15,rfl,G,tA,hpt9,r0⟩
   have hs9:=G.same _ _ hs;have hsj:(ss.map V.int)[j]?=some (.int ss[j]):=by rw[we,wb (by omega)];rfl
   refine⟨_,rfl,_,rfl,ps,_,_,_,rfl,rfl,SqL.of hs9,(by rw[vF];exact zD hss),_,rfl,_,rfl,ps,_,_,_,rfl,rfl,SqL.of hs9,(by rw[vF];exact zD hsj),_,_,rfl,fun cb=>⟨_,rfl,?_⟩⟩;refine ite2 (fun cc=>?_) (fun cc=>?_)
   ·obtain⟨M',t',ras,e1,e2,e3,hT⟩:=G.get (i:=0) (by simp);cases e1;cases e2;have lra:=zj hT.2;rw[tA.len]at lra;have hi':ras[i]?=some ras[i]:=wb (by omega);obtain⟨row,hrow,hR⟩:=zW hT.2 hi';obtain⟨us,hu,pu,lu⟩:=hR.len;have orow:=tA.ok row (wd hrow);have nra:ras[i]≠pt:=fun e=>nr ras (wd e3) (by rw[← e];exact wj _)
    refine⟨_,rfl,_,rfl,pt,_,_,_,rfl,rfl,SqL.of hpt9,zD (j:=0) rfl,_,rfl,ta,_,_,_,rfl,rfl,SqL.of hT.1,(by rw[vF];exact zD (by rw[we,hi'];rfl)),_,rfl,ras[i],us,_,j,rfl,rfl,hu,(by rw[vF];exact YX (by rw[lu,orow.1];exact hj)),?_⟩;refine hN5 _ _ ⟨A.set i (row.set j (nnum k 0)),_,_,rfl,G.setRow (i:=0) rfl e3 hi' hu (zdj pu j r0),tA.set (by rw[vf];exact orow.1) (fun x hx=>?_) (fun x hx=>?_),by rw[zN (Ne.symm nra)];exact hpt9,r0.upd hu⟩
    ·rcases La.yj hx with e|e
     ·rw[e];exact z0
     ·exact orow.2 x e
    ·rcases La.yj hx with e|e
     ·rw[e];exact zs
     ·exact tA.sz row (wd hrow) x e
   ·exact hN5 _ _ ⟨A,_,_,rfl,G,tA,hpt9,r0⟩
  clear G tA hpt8 r0
  rintro σ H9 ⟨A,o14,o15,rfl,G,tA,hpt9,r0⟩
  have hs9:=G.same _ _ hs
  try dsimp only
  refine YM (fun σ H'=>∃ B rs o14,σ=[some (.int k),some (.ref pc),some (.ref pz),some (.ref ps),some (.int (n:Int)),some (.int (m:Int)),some (.int (qn:Int)),some v0,some (.ref pt),some (.int (at':Int)),o10,o11,o12,some (.int (0 +(i:Int))),o14,o15]/\kah H H' [A,B,C] [ta,tb,tc] rs/\TW k n m 2 B/\H' pt=some (.lst [.ref ta,.ref tb,.ref tc])/\(∀ ras∈rs,pt∉ras)/\RN H' (nnum k 0) v0) ?_ ?_
  rotate_left
  ·intro hN;refine⟨_,rfl,_,rfl,ps,_,_,_,rfl,rfl,SqL.of hs9,(by rw[vF];exact zD hss),_,_,rfl,rfl,_,rfl,?_⟩;refine ite2 (fun cc=>?_) (fun cc=>?_)
   ·refine⟨_,rfl,m,rfl,(by omega),(by omega),?_⟩;rw[wR];refine yG (lo:=0) (n:=m) (fun l ys' H'=>H'=H9/\ys'=vD l v0) ⟨rfl,rfl⟩ ?_ ?_ ?_
    ·rintro l ys' H' hl' ⟨rfl,rfl⟩
     rw[vL];omega
    ·rintro l ys' H' hl' ⟨rfl,rfl⟩
     first|refine gyes ?_|refine tyes ?_
     exact⟨_,rfl,nxt hl' ⟨rfl,by rw[gM]⟩⟩
    ·rintro ys' H' ⟨rfl,rfl⟩ pn hpn
     have g10:=zg hpn (.lst (vD m v0));have R10:kak (upd H' pn (.lst (vD m v0))) (vD m (nnum k 0)) pn:=⟨_,zf,zgo (r0.mono g10) m⟩;have G10:=G.mono g10;have hpt10:=g10 _ _ hpt9;have npn:pn∉[ta,tb,tc]:=fun hm=>by obtain⟨o,ho⟩:=G.tsome hm;rw[hpn]at ho;cases ho
     have nrn:∀ ras∈rs,pn∉ras:=fun ras hr hm=>by obtain⟨o,ho⟩:=G.rsome hr hm;rw[hpn]at ho;cases ho
     have fpn:H pn=none:=G.same.none hpn;have r10:=r0.mono g10;have ptn:pt≠pn:=fun e=>by rw[← e,hpt9]at hpn;cases hpn
     generalize upd H' pn (.lst (vD m v0))=H10 at *;obtain⟨M',t',ras,e1,e2,e3,hT⟩:=G10.get (i:=1) (by simp);cases e1;cases e2;have lra:=zj hT.2;rw[tB.len]at lra;have hi':i<ras.length:=by omega
     refine⟨_,rfl,pt,_,_,_,rfl,rfl,SqL.of hpt10,zD (j:=1) rfl,_,rfl,tb,_,_,i,rfl,rfl,hT.1,(by rw[vF];exact YX (by rw[wa];exact hi')),?_⟩;have G11:=G10.setSlot (i:=1) (j:=i) rfl rfl e3 hi' R10 fpn npn nrn;rw[waQ]at G11;have ntb:pt≠tb:=fun e=>nt (by rw[e];simp)
     refine hN _ _ ⟨B.set i (vD m (nnum k 0)),rs.set 1 (ras.set i pn),_,rfl,G11,tB.set (by rw[vL]) (fun x hx=>by rw[Gm hx];exact z0) (fun x hx=>by rw[Gm hx];exact zs),by rw[zN ntb];exact hpt10,fun x hx hm=>?_,r10.upd hT.1⟩
     rcases La.yj hx with e|e
     ·rw[e]at hm
      rcases La.yj hm with e'|e'
      ·exact ptn e'
      ·exact nr ras (wd e3) e'
     ·exact nr x e hm
   ·exact hN _ _ ⟨B,rs,_,rfl,G,tB,hpt9,nr,r0⟩
  clear G tB hpt9 nr r0 hs9
  rintro σ H10 ⟨B,rs,o14,rfl,G,tB,hpt10,nr,r0⟩
  have hs10:=G.same _ _ hs;refine⟨_,rfl,_,rfl,ps,_,_,_,rfl,rfl,SqL.of hs10,(by rw[vF];exact zD hss),_,_,rfl,rfl,(by show(2:Int)≠0;decide),rfl,_,rfl,?_⟩;refine ite2 (fun cc=>?_) (fun cc=>?_)
  ·obtain⟨M',t',ras,e1,e2,e3,hT⟩:=G.get (i:=2) (by simp);cases e1;cases e2;have lra:=zj hT.2;rw[tC.len]at lra;refine⟨_,rfl,pt,_,_,_,rfl,rfl,SqL.of hpt10,zD (j:=2) rfl,tc,rfl,⟨_,SqL.of hT.1⟩,?_⟩;refine QV (xs:=ras.map V.ref) (fun l σ H'=>∃ C o15,σ=[some (.int k),some (.ref pc),some (.ref pz),some (.ref ps),some (.int (n:Int)),some (.int (m:Int)),some (.int (qn:Int)),some v0,some (.ref pt),some (.int (at':Int)),o10,o11,o12,some (.int (0 +(i:Int))),o14,o15]/\kah H H' [A,B,C] [ta,tb,tc] rs/\TW k qn n 2 C/\H' pt=some (.lst [.ref ta,.ref tb,.ref tc])/\RN H' (nnum k 0) v0) ⟨C,_,rfl,G,tC,hpt10,r0⟩ ?_ ?_ ?_
   ·rintro l σ H' _ ⟨C,o15,rfl,G,_⟩
    exact SqL.of (G.tabs 2 C tc ras rfl rfl e3).1
   ·clear G tC hpt10 r0 hT;intro N6 B6 l v σ H' hN6 hv
    rintro ⟨C,o15,rfl,G,tC,hptl,r0⟩
    have hT:=G.tabs 2 C tc ras rfl rfl e3;obtain⟨row,ar,hrow,har,rfl,hR⟩:=hT.row hv;obtain⟨us,hu,pu,lu⟩:=hR.len;have orow:=tC.ok row (wd hrow);have nra:ar≠pt:=fun e=>nr ras (wd e3) (by rw[← e];exact wd har)
    refine⟨_,rfl,_,rfl,_,rfl,ar,us,_,i,rfl,rfl,hu,(by rw[vF];exact YX (by rw[lu,orow.1];exact hi)),?_⟩;refine hN6 _ _ ⟨C.set l (row.set i (nnum k 0)),_,rfl,G.setRow (i:=2) rfl e3 har hu (zdj pu i r0),tC.set (by rw[vf];exact orow.1) (fun x hx=>?_) (fun x hx=>?_),by rw[zN (Ne.symm nra)];exact hptl,r0.upd hu⟩
    ·rcases La.yj hx with e|e
     ·rw[e];exact z0
     ·exact orow.2 x e
    ·rcases La.yj hx with e|e
     ·rw[e];exact zs
     ·exact tC.sz row (wd hrow) x e
   ·rintro σ H' ⟨C,o15,rfl,G,tC,hptl,r0⟩
    exact hN4 _ _ ⟨A,B,C,rs,_,_,_,_,_,_,rfl,G,tA,tB,tC,hptl,nr,r0⟩
  ·exact hN4 _ _ ⟨A,B,C,rs,_,_,_,_,_,_,rfl,G,tA,tB,tC,hpt10,nr,r0⟩
 ·rintro σ H8 ⟨A,B,C,rs,o10,o11,o12,o13,o14,o15,rfl,G,tA,tB,tC,hpt8,nr,r0⟩
  refine⟨_,rfl,_,rfl,(by show 2<=sizeLine;decide),fun pr hpr=>?_⟩;have g9:=zg hpr (.tup [.ref pt,.int (at':Int)]);exact q A B C pt pr [ta,tb,tc] rs at' _ (G.mono g9) tA tB tC (g9 _ _ hpt8) ptH nt nr zf
theorem zfr{k:Int}{m n:Nat}{x y:Nb}(ox:x.ok k)(oy:y.ok k)(sx:szk k m x)(sy:szk k n y):szk k (m+n+1) (nsub k x y):=fun k0=>by
 rcases qF ox oy with⟨_,r,s,rfl,rfl⟩|⟨h,_⟩
 ·have hx:=sx k0;have hy:=sy k0;show Sm _ (r - s).num/\Sm _ ((r - s).den:Int);rw[← zgL];obtain⟨h1,h2⟩:=jR (t:=r.num*s.den - s.num*r.den) (jw r s) ((hx.1.mul hy.2).sub ((hy.1.mul hx.2).mono (by omega))) (hx.2.mul hy.2);exact⟨h1,h2.mono (vZ _)⟩
 ·exact absurd k0 h
theorem zfz{α:Type}{l:List α}{i:Nat}{x:α}(h:l[i]?=some x):l.set i x=l:=by
 refine gx fun j=>?_
 rw[wY]
 by_cases e:i=j
 ·subst e;rw[if_pos rfl,if_pos (wp.mp h).1,h]
 ·rw[if_neg e]
def TWs(k:Int)(n m q:Nat)(f:Nat->Nat)(Ms:List (Tb)):Prop:=Ms.length=3/\∀(I:Nat)(M:Tb),Ms[I]?=some M->TW k (dimR n m q I) (dimC n m q I) (f I) M
theorem TWs.up{k:Int}{n m q:Nat}{f g:Nat->Nat}{Ms:List (Tb)}(h:TWs k n m q f Ms)(hf:∀ I,f I<=g I):TWs k n m q g Ms:=⟨h.1,fun I M hM=>(h.2 I M hM).up (hf I)⟩
theorem TWs.set{k:Int}{n m q J:Nat}{f g:Nat->Nat}{Ms:List (Tb)}{M':Tb}(h:TWs k n m q f Ms)(hM:TW k (dimR n m q J) (dimC n m q J) (g J) M')(hf:∀ I,I≠J->f I<=g I):TWs k n m q g (Ms.set J M'):=by
 refine⟨by rw[vf];exact h.1,fun I M e=>?_⟩
 by_cases c:I=J
 ·subst c;have hl:I<Ms.length:=by have:=(wp.mp e).1;rw[vf]at this;exact this
  rw[wY,if_pos rfl,if_pos hl]at e;cases e;exact hM
 ·rw[wY,if_neg (Ne.symm c)]at e;exact(h.2 I M e).up (hf I c)
def zbs:Sp:=fun vs H Q _=>∃(k c:Int)(Ms:List (Tb))(H0:Hp)(ts:List Addr)(pt:Addr)(rs:List (List Addr))(n m q z:Nat),vs=[.int k,.ref pt,.int c]/\kaa k/\kah H0 H Ms ts rs/\TWs k n m q (fun _=>z) Ms/\H pt=some (.lst (ts.map V.ref))/\(∀ ras∈rs,pt∉ras)/\pt∉ts/\1<=n/\n<=10/\m<=10/\q<=10/\z<=1000 /\
 ∀(Ms':List (Tb))(rs':List (List Addr))(H':Hp),kah H0 H' Ms' ts rs'->TWs k n m q (fun _=>z+6) Ms'->H' pt=some (.lst (ts.map V.ref))->(∀ ras∈rs',pt∉ras)->Q .non H'
theorem pick3{m:Int}(h0:0<=m)(h1:m<3):∃ w:Int,atI [V.int 1,V.int (-1),V.int 2] m=some (.int w)/\(w=1\/w = -1\/w=2):=by
 rcases (show m=0\/m=1\/m=2 by omega)with rfl|rfl|rfl
 ·exact⟨1,rfl,by simp⟩
 ·exact⟨-1,rfl,by simp⟩
 ·exact⟨2,rfl,by simp⟩
theorem zfv (hP:P.given.tree=none) (hS:base.NoSeer) (D:Df K mg "_law_exchanged" SU yN) (yw:Kn P w K mg base "_law_make" 1 SN qr) (xG:Kn P w K mg base "_law_plus" 42 SO (Zj nadd)) (yd:Kn P w K mg base "_law_times" 42 SO (Zj nmul)) (xM:Kn P w K mg base "_law_minus" 43 SO Yu) (m_len:mg "len" = none) (m_zip:mg "zip" = none):Kn P w K mg base "_law_exchanged" 44 SU zbs:=by
 refine D.kn sq (fun vs H Q E h=>?_) (fun f cdv A' outer s' H vs Q E hr h=>?_)
 ·obtain⟨k,c,Ms,H0,ts,pt,rs,n,m,q,z,rfl,_⟩:=h;rfl
 obtain⟨k,c,Ms,H0,ts,pt,rs,n,m,qn,z,rfl,hk,G,tM,hpt,nr,nt,n1,n10,m10,q10,z1000,q⟩:=h;have szl:=Qa
 have kl:=hk.lt;have lM3:=tM.1;obtain⟨ta,tb,tc,rfl⟩ : ∃ ta tb tc,ts=[ta,tb,tc]:=by
  match ts,(G.lt.trans lM3)with
  | [ta,tb,tc],_=>exact⟨ta,tb,tc,rfl⟩
 refine⟨_,(zc (zo (i:=3) sq.nd rfl (.inl rfl) (zp zx rfl m_len zU (za (zt zi (pv 1) ze) zd))) (zc (zo (i:=4) sq.nd rfl (.inl rfl) (zm zP (pv 2) (pv 3))) (zh (yb (zu jJ (pv 3) ze (kae _)) (zc (zo (i:=5) sq.nd rfl (.inl rfl) (zm zP (zm yi (zm yi (pv 4) ze) (zm zP (zm (zQ hr (by decide) hP hS ⟨_,_,rfl,rfl,rfl,rfl,rfl⟩) (pv 2) ze) (zm qx (pv 3) ze))) (pv 3))) (zc (zo (i:=6) sq.nd rfl (.inr rfl) (zF yw hr (za (pv 0) (za (zt zi (yq (za ze (za (zcz XE ze) (za ze zd)))) (zm zP (zm (zQ hr (by decide) hP hS ⟨_,_,rfl,rfl,rfl,rfl,rfl⟩) (pv 2) ze) ze)) zd)))) (zc (yb (zu jJ (pv 0) ze (kae _)) (zh (zo (i:=6) sq.nd rfl (.inr rfl) (zm zP (zm (zQ hr (by decide) hP hS ⟨_,_,rfl,rfl,rfl,rfl,rfl⟩) (pv 2) ze) (pv 0)))) zJ) (zc (qR (pv 1) (zgK 3 rfl (zT (zI (i:=7) sq.nd rfl (.inl rfl)) (zT (zI (i:=8) sq.nd rfl (.inl rfl)) (zT (zI (i:=9) sq.nd rfl (.inl rfl)) xF))))) (zc (yt PassesOwn.never rfl (zw (yq (za (pv 7) (za (pv 8) zd)))) (zI (i:=10) sq.nd rfl (.inl rfl)) (zh (qR (Zy ["_law_x", "_law_y"] ["_law_prime_here", "_law_c"] [0,6] ⟨rfl,rfl,rfl,rfl,rfl,rfl,by decide +kernel⟩ rfl (YI rfl m_zip (za (zt zi (pv 10) (pv 4)) (za (zt zi (pv 10) (pv 5)) zd))) (Zh (yB (yx (by decide)) yA (yB (yx (by decide)) yA jP))) fun _ _ _ _ _ _=>⟨(jv 2 rfl (zT (zI (i:=0) (by decide:(["_law_x", "_law_y", "_law_prime_here", "_law_c"]:List Str).Nodup) rfl (by first|exact Or.inl rfl|exact Or.inr rfl)) (zT (zI (i:=1) (by decide:(["_law_x", "_law_y", "_law_prime_here", "_law_c"]:List Str).Nodup) rfl (by first|exact Or.inl rfl|exact Or.inr rfl)) xF))),zM,(zF xG hr (za (pv 2) (za (pv 0) (za (zF yd hr (za (pv 2) (za (pv 3) (za (pv 1) zd)))) zd))))⟩) (QF (pv 10) (pv 4) Zb)))) (zh (yt PassesOwn.never rfl (zw (yq (za (pv 7) (za (pv 9) zd)))) (zI (i:=10) sq.nd rfl (.inl rfl)) (zh (yt PassesOwn.never rfl (zw (pv 10)) (zI (i:=11) sq.nd rfl (.inl rfl)) (zh (qR (zF xM hr (za (pv 0) (za (zt zi (pv 11) (pv 5)) (za (zF yd hr (za (pv 0) (za (pv 6) (za (zt zi (pv 11) (pv 4)) zd)))) zd)))) (QF (pv 11) (pv 5) Zb)))))))))))) zJ)))),?_⟩;obtain⟨M0,t0,ra,e1,e2,ea,hTa⟩:=G.get (i:=0) (by omega);cases e2;have lra:=zj hTa.2;rw[(tM.2 0 M0 e1).len]at lra;replace lra:n=ra.length:=lra;refine⟨_,rfl,pt,_,_,.ref ta,rfl,rfl,SqL.of hpt,zD (j:=0) rfl,ta,_,rfl,.inl (SqL.of hTa.1),?_⟩;rw[wa,← lra];refine⟨_,rfl,_,rfl,_,_,rfl,rfl,(by show(n:Int)≠0;omega),?_⟩;have i0:=wx c (show(0:Int) <(n:Int) by omega);have i1:=wH c (show(0:Int) <(n:Int) by omega)
 try dsimp only
 generalize c.fmod (n:Int)=iI at *;obtain⟨i,rfl⟩:=uF i0;have hi:i<n:=by omega
 clear hTa ea lra e1;refine⟨_,rfl,_,_,rfl,rfl,_,rfl,?_⟩;refine ite2 (fun cn=>?_) (fun cn=>?_)
 rotate_left
 ·exact q Ms rs H G (tM.up fun _=>by omega) hpt nr
 have n2:(1:Int) <(n:Int):=of_decide_eq_true cn;refine⟨_,rfl,_,_,rfl,rfl,_,rfl,_,_,rfl,rfl,(by show(5:Int)≠0;decide),_,rfl,_,_,rfl,rfl,_,_,rfl,rfl,(by show(n:Int) - 1≠0;omega),_,_,rfl,rfl,_,rfl,_,_,rfl,rfl,(by show(n:Int)≠0;omega),?_⟩
 try dsimp only
 have j0:=wx ((i:Int)+1 +(c.fdiv 5).fmod ((n:Int) - 1)) (show(0:Int) <(n:Int) by omega);have j1:=wH ((i:Int)+1 +(c.fdiv 5).fmod ((n:Int) - 1)) (show(0:Int) <(n:Int) by omega);generalize ((i:Int)+1 +(c.fdiv 5).fmod ((n:Int) - 1)).fmod (n:Int)=jI at *;obtain⟨j,rfl⟩:=uF j0;have hj:j<n:=by omega
 refine⟨_,rfl,_,rfl,(by show 3<=sizeLine;decide),fun p3 hp3=>?_⟩;obtain⟨w3,ew,hw⟩:=pick3 (wx (c.fdiv 20) (show(0:Int)<3 by decide)) (wH (c.fdiv 20) (show(0:Int)<3 by decide));have g3:=zg hp3 (.lst [V.int 1,V.int (-1),V.int 2]);refine⟨_,rfl,_,_,rfl,rfl,(by show(20:Int)≠0;decide),_,_,rfl,rfl,(by show(3:Int)≠0;decide),p3,_,_,.int w3,rfl,rfl,SqL.of zf,ew,k,w3,rfl,hk,fun vc H4 g4 rc=>?_⟩;have g34:=g3.trans g4;generalize upd H p3 (.lst [V.int 1,V.int (-1),V.int 2])=H3 at *;clear hp3 g3 g4 ew;have sw:whk k 2 (nnum k w3):=fun k0=>⟨w3,rfl,by
  have:(2:Nat)^2=4:=by decide
  omega⟩
 try dsimp only
 refine YM (fun σ H'=>∃ x v o7 o8 o9 o10 o11,σ=[some (.int k),some (.ref pt),some (.int c),some (.int (n:Int)),some (.int (i:Int)),some (.int (j:Int)),some v,o7,o8,o9,o10,o11]/\x.ok k/\whk k 2 x/\RN H' x v/\H'=H4) ?_ ?_
 rotate_left
 ·intro hN;refine⟨_,rfl,_,_,rfl,rfl,_,rfl,?_⟩;refine ite2 (fun ck=>?_) (fun ck=>?_)
  ·have k0:0<k:=of_decide_eq_true ck;exact⟨_,rfl,_,_,rfl,rfl,(by show(20:Int)≠0;decide),_,rfl,_,_,rfl,rfl,(show k≠0 by omega),hN _ _ ⟨.z _,_,_,_,_,_,_,rfl,⟨by omega,wx _ k0,wH _ k0⟩,fun e=>by omega,RN.of_z,rfl⟩⟩
  ·exact hN _ _ ⟨nnum k w3,vc,_,_,_,_,_,rfl,La.yg hk w3,sw,rc,rfl⟩
 clear rc sw hw
 rintro σ H4' ⟨x,vc,o7,o8,o9,o10,o11,rfl,ox,sx,rc,rfl⟩
 replace G:=G.mono g34;replace hpt:=g34 _ _ hpt;clear g34;refine⟨_,rfl,pt,_,rfl,SqL.of hpt,rfl,_,_,rfl,_,_,rfl,_,_,rfl,rfl,?_⟩;refine⟨_,rfl,_,rfl,(by show 2<=sizeLine;decide),fun pl hpl=>?_⟩;have g5:=zg hpl (.lst [.ref ta,.ref tb]);have hl5:upd H4' pl (.lst [.ref ta,.ref tb]) pl=some (.lst [.ref ta,.ref tb]):=zf;have nlt:pl∉[ta,tb,tc]:=fun hm=>by obtain⟨o,ho⟩:=G.tsome hm;rw[hpl]at ho;cases ho
 have nlr:∀ ras∈rs,pl∉ras:=fun ras hr hm=>by obtain⟨o,ho⟩:=G.rsome hr hm;rw[hpl]at ho;cases ho
 replace G:=G.mono g5;replace hpt:=g5 _ _ hpt;replace rc:=rc.mono g5;generalize upd H4' pl (.lst [.ref ta,.ref tb])=H5 at *;clear g5 hpl;refine⟨pl,rfl,⟨_,SqL.of hl5⟩,?_⟩;refine yZ (xs:=[.ref ta,.ref tb]) (fun l σ H'=>∃ Ms rs o10 o11,σ=[some (.int k),some (.ref pt),some (.int c),some (.int (n:Int)),some (.int (i:Int)),some (.int (j:Int)),some vc,some (.ref ta),some (.ref tb),some (.ref tc),o10,o11]/\kah H0 H' Ms [ta,tb,tc] rs/\TWs k n m qn (fun I=>if I<l then z+3 else z) Ms/\H' pt=some (.lst [.ref ta,.ref tb,.ref tc])/\(∀ ras∈rs,pt∉ras)/\H' pl=some (.lst [.ref ta,.ref tb])/\(∀ ras∈rs,pl∉ras)/\RN H' x vc) ⟨Ms,rs,_,_,rfl,G,tM.up fun I=>by rw[if_neg (vx I)];exact ww _,hpt,nr,hl5,nlr,rc⟩ ?_ ?_ ?_
 ·rintro l σ H' _ ⟨Ms,rs,o10,o11,rfl,_,_,_,_,hl',_⟩
  exact SqL.of hl'
 ·clear G tM hpt nr hl5 nlr rc lM3
  rintro l v σ H6 hv ⟨Ms,rs,o10,o11,rfl,G,tM,hpt,nr,hl6,nlr,rc⟩
  have l2:l<2:=(wp.mp hv).1;obtain⟨t,rfl,ht⟩ : ∃ t,v=.ref t/\[ta,tb,tc][l]?=some t:=by
   match l,hv with
   | 0,hv=>cases hv;exact⟨ta,rfl,rfl⟩
   | 1,hv=>cases hv;exact⟨tb,rfl,rfl⟩
  obtain⟨M,t',ras,eM,e2,er,hT⟩:=G.get (i:=l) (by rw[tM.1];omega);rw[ht]at e2;cases e2;have tk:TW k (dimR n m qn l) (dimC n m qn l) z M:=by
   have h:=tM.2 l M eM
   dsimp only at h
   rw[if_neg (vM l)]at h;exact h
  have dn:dimR n m qn l=n:=by unfold dimR;rw[if_neg (by omega)]
  have cc10:dimC n m qn l<=10:=by unfold dimC;split <;> omega
  have lras:=zj hT.2;rw[tk.len,dn]at lras;have ei:ras[i]?=some ras[i]:=wb (by omega);have ej:ras[j]?=some ras[j]:=wb (by omega);obtain⟨xi,hxi,ri⟩:=zW hT.2 ei;obtain⟨xj,hxj,rj⟩:=zW hT.2 ej;obtain⟨ui,hui,pui,lui⟩:=ri.len;obtain⟨uj,huj,puj,luj⟩:=rj.len;have oi:=tk.ok xi (wd hxi);have oj:=tk.ok xj (wd hxj);have si:=tk.sz xi (wd hxi);have sj:=tk.sz xj (wd hxj);have ll:xi.length=xj.length:=by rw[oi.1,oj.1]
  refine⟨_,rfl,_,rfl,t,_,_,.ref ras[i],rfl,rfl,SqL.of hT.1,zD (by rw[we,ei];rfl),_,rfl,_,rfl,t,_,_,.ref ras[j],rfl,rfl,SqL.of hT.1,zD (by rw[we,ej];rfl),ras[i],ras[j],ui,uj,rfl,SqL.of hui,SqL.of huj,?_⟩;refine qI (xs:=ui) (zs:=uj) (by rw[lui,luj];exact ll) (fun e ys H'=>Same H6 H'/\Paired (RN H') ((vC (fun a b=>nadd k a (nmul k x b)) xi xj).take e) ys) ⟨Same.refl _,.nil⟩ ?_ ?_ ?_
  ·rintro e ys H' he ⟨g,pr⟩
   refine⟨SqL.of (g _ _ hui),SqL.of (g _ _ huj),?_⟩;have:=zj pr;rw[wr]at this;rw[lui,oi.1]at he;omega
  ·rintro e a b T ys H' ha hb he hTn ⟨g,pr⟩
   have g':=g.trans (zg hTn (.tup [a,b]));obtain⟨na,ena,rna⟩:=zW pui ha;obtain⟨nb,enb,rnb⟩:=zW puj hb;have oa:=oi.2 na (wd ena);have ob:=oj.2 nb (wd enb);have sa:=si na (wd ena);have sb:=sj nb (wd enb);have om:=La.yD hk ox ob;have sm:=Qc ox ob sx sb;have pr':=jj (zg hTn (.tup [a,b])) pr;refine⟨T,_,rfl,SqT.of zf,rfl,_,_,rfl,_,_,rfl,rfl,?_⟩;generalize upd H' T (.tup [a,b])=H7 at *
   first|refine gyes ?_|refine tyes ?_
   refine⟨_,rfl,_,rfl,_,rfl,_,rfl,_,rfl,k,x,nb,_,_,rfl,⟨hk,ox,ob,sx.nsm hk ox (by decide) (by decide),sb.nsm hk ob (by omega) (by decide),rc.mono g',rnb.mono g'⟩,fun v8 H8 g8 r8=>?_⟩;refine⟨k,na,_,_,_,rfl,⟨hk,oa,om,sa.nsm hk oa (by omega) (by decide),sm.nsm hk om (by omega) (by decide),(rna.mono g').mono g8,r8⟩,fun v9 H9 g9 r9=>nxt he ⟨(g'.trans g8).trans g9,?_⟩⟩;have ez:(vC (fun a b=>nadd k a (nmul k x b)) xi xj)[e]?=some (nadd k na (nmul k x nb)):=by rw[vR,ena,enb]
   rw[zy ez];exact zZ (jj (g8.trans g9) pr') r9
  rintro ys H7 ⟨g7,pr⟩ pn hpn
  rw[lui,wv (by rw[ve];omega)]at pr;generalize ez:vC (fun a b=>nadd k a (nmul k x b)) xi xj=xz at *;have memz:∀ y∈xz,y.ok k/\whk k (z+3) y:=fun y hy=>by
   rw[← ez]at hy;obtain⟨e,he,rfl⟩:=wQ hy;rw[uC];rw[ve]at he;have oa:=oi.2 _ (wj (show e<xi.length by omega));have ob:=oj.2 _ (wj (show e<xj.length by omega));have sa:=si _ (wj (show e<xi.length by omega));have sb:=sj _ (wj (show e<xj.length by omega));exact⟨La.YV hk oa (La.yD hk ox ob),(zeN oa (La.yD hk ox ob) sa (Qc ox ob sx sb)).mono (by omega)⟩
  have lz:xz.length=dimC n m qn l:=by rw[← ez,ve,← ll,oi.1];omega
  have g8:=zg hpn (.lst ys);have R8:kak (upd H7 pn (.lst ys)) xz pn:=⟨ys,zf,jj g8 pr⟩;have G7:=G.mono g7;have npn:pn∉[ta,tb,tc]:=fun hm=>by obtain⟨o,ho⟩:=G7.tsome hm;rw[hpn]at ho;cases ho
  have nrn:∀ ras∈rs,pn∉ras:=fun ras hr hm=>by obtain⟨o,ho⟩:=G7.rsome hr hm;rw[hpn]at ho;cases ho
  have fpn:H0 pn=none:=G7.same.none hpn;have ptn:pt≠pn:=fun e=>by rw[← e,g7 _ _ hpt]at hpn;cases hpn
  have pln:pl≠pn:=fun e=>by rw[← e,g7 _ _ hl6]at hpn;cases hpn
  have G8:=G7.mono g8;have g78:=g7.trans g8;generalize upd H7 pn (.lst ys)=H8 at *;have hT8:=hT.mono g78;have tm:=wd ht;have ptt:pt≠t:=fun e=>nt (by rw[e];exact tm)
  have plt:pl≠t:=fun e=>nlt (by rw[e];exact tm)
  refine⟨_,rfl,_,rfl,t,_,_,i,rfl,rfl,hT8.1,YX (by rw[wa];omega),?_⟩;have G9:=G8.setSlot (i:=l) (j:=i) eM ht er (by omega) R8 fpn npn nrn;rw[waQ]at G9;have away:∀ p,p≠pn->(∀ ras∈rs,p∉ras)->∀ x'∈rs.set l (ras.set i pn),p∉x':=fun p hp hr x' hx' hm=>by
   rcases La.yj hx' with e|e
   ·rw[e]at hm
    rcases La.yj hm with e'|e'
    ·exact hp e'
    ·exact hr ras (wd er) e'
   ·exact hr x' e hm
  refine⟨Ms.set l (M.set i xz),rs.set l (ras.set i pn),_,_,rfl,G9,tM.set (g:=fun I=>if I<l+1 then z+3 else z) ?_ (fun I hI=>?_),by rw[zN ptt];exact g78 _ _ hpt,away pt ptn nr,by rw[zN plt];exact g78 _ _ hl6,away pl pln nlr,(rc.mono g78).upd hT8.1⟩
  ·rw[if_pos (ut l)];exact(tk.up (show z<=z+3 by omega)).set lz (fun y hy=>(memz y hy).1) (fun y hy=>(memz y hy).2)
  ·by_cases c1:I<l
   ·rw[if_pos c1,if_pos (by omega)];exact ww _
   ·rw[if_neg c1,if_neg (by omega)];exact ww _
 clear G tM hpt nr hl5 nlr rc nlt
 rintro σ H6 ⟨Ms,rs,o10,o11,rfl,G,tM0,hpt,nr,_,_,rc⟩
 have tM:TWs k n m qn (fun _=>z+3) Ms:=tM0.up fun I=>by split <;> omega
 clear tM0;refine⟨_,rfl,_,rfl,(by show 2<=sizeLine;decide),fun pl hpl=>?_⟩;have g5:=zg hpl (.lst [.ref ta,.ref tc]);have hl5:upd H6 pl (.lst [.ref ta,.ref tc]) pl=some (.lst [.ref ta,.ref tc]):=zf;have nlr:∀ ras∈rs,pl∉ras:=fun ras hr hm=>by obtain⟨o,ho⟩:=G.rsome hr hm;rw[hpl]at ho;cases ho
 replace G:=G.mono g5;replace hpt:=g5 _ _ hpt;replace rc:=rc.mono g5;generalize upd H6 pl (.lst [.ref ta,.ref tc])=H7 at *;clear g5 hpl;refine⟨pl,rfl,⟨_,SqL.of hl5⟩,?_⟩;refine yZ (xs:=[.ref ta,.ref tc]) (fun l σ H'=>∃ Ms o10 o11,σ=[some (.int k),some (.ref pt),some (.int c),some (.int (n:Int)),some (.int (i:Int)),some (.int (j:Int)),some vc,some (.ref ta),some (.ref tb),some (.ref tc),o10,o11]/\kah H0 H' Ms [ta,tb,tc] rs/\TWs k n m qn (fun I=>if I<2*l then z+6 else z+3) Ms/\H' pt=some (.lst [.ref ta,.ref tb,.ref tc])/\H' pl=some (.lst [.ref ta,.ref tc])/\RN H' x vc) ⟨Ms,_,_,rfl,G,tM.up fun I=>by rw[if_neg (by omega)];exact ww _,hpt,hl5,rc⟩ ?_ ?_ ?_
 ·rintro l σ H' _ ⟨Ms,o10,o11,rfl,_,_,_,hl',_⟩
  exact SqL.of hl'
 ·clear G tM hpt hl5 rc
  rintro l v σ H8 hv ⟨Ms,o10,o11,rfl,G,tM,hpt,hl8,rc⟩
  have l2:l<2:=(wp.mp hv).1;obtain⟨t,rfl,ht⟩ : ∃ t,v=.ref t/\[ta,tb,tc][2*l]?=some t:=by
   match l,hv with
   | 0,hv=>cases hv;exact⟨ta,rfl,rfl⟩
   | 1,hv=>cases hv;exact⟨tc,rfl,rfl⟩
  obtain⟨M,t',ras,eM,e2,er,hT⟩:=G.get (i:=2*l) (by rw[tM.1];omega);rw[ht]at e2;cases e2;have tk:TW k (dimR n m qn (2*l)) (dimC n m qn (2*l)) (z+3) M:=by
   have h:=tM.2 (2*l) M eM
   dsimp only at h
   rw[if_neg (vM (2*l))]at h;exact h
  have cn':dimC n m qn (2*l)=n:=by unfold dimC;rw[if_neg (by omega)]
  rw[cn']at tk;have lras:=zj hT.2;have rm:=wd er;have lMs:=tM.1;refine⟨_,rfl,t,rfl,⟨_,SqL.of hT.1⟩,?_⟩;refine yZ (xs:=ras.map V.ref) (fun e σ H'=>∃ Mc o11,σ=[some (.int k),some (.ref pt),some (.int c),some (.int (n:Int)),some (.int (i:Int)),some (.int (j:Int)),some vc,some (.ref ta),some (.ref tb),some (.ref tc),some (.ref t),o11]/\kah H0 H' (Ms.set (2*l) Mc) [ta,tb,tc] rs/\TW k (dimR n m qn (2*l)) n (z+6) Mc/\(∀ e' r,e<=e'->Mc[e']?=some r->∀ y∈r,whk k (z+3) y)/\H' pt=some (.lst [.ref ta,.ref tb,.ref tc])/\H' pl=some (.lst [.ref ta,.ref tc])/\RN H' x vc) ⟨M,_,rfl,by rw[zfz eM];exact G,tk.up (by omega),fun e' r _ hr=>tk.sz r (wd hr),hpt,hl8,rc⟩ ?_ ?_ ?_
  ·rintro e σ H' _ ⟨Mc,o11,rfl,G',_⟩
   exact SqL.of (G'.tabs (2*l) Mc t ras (by rw[wY,if_pos rfl,if_pos (by omega)]) ht er).1
  ·rintro e v σ H' hv ⟨Mc,o11,rfl,G',tkc,low,hpt',hl',rc'⟩
   have eMc:(Ms.set (2*l) Mc)[2*l]?=some Mc:=by rw[wY,if_pos rfl,if_pos (by omega)]
   have hT':=G'.tabs (2*l) Mc t ras eMc ht er;obtain⟨row,ar,hrow,har,rfl,hR⟩:=hT'.row hv;obtain⟨us,hu,pu,lu⟩:=hR.len;have orow:=tkc.ok row (wd hrow);have srow:=low e row (ww _) hrow;have ei:row[i]?=some row[i]:=wb (by rw[orow.1];exact hi);have ej:row[j]?=some row[j]:=wb (by rw[orow.1];exact hj);obtain⟨vi,hvi,rvi⟩:=yl pu ei;obtain⟨vj,hvj,rvj⟩:=yl pu ej;have oi:=orow.2 _ (wd ei);have oj:=orow.2 _ (wd ej);have si:=srow _ (wd ei);have sj:=srow _ (wd ej);have om:=La.yD hk ox oi;have sm:=Qc ox oi sx si;have nap:ar≠pt:=fun e=>nr ras rm (by rw[← e];exact wd har)
   have nal:ar≠pl:=fun e=>nlr ras rm (by rw[← e];exact wd har)
   refine⟨_,rfl,_,rfl,_,rfl,ar,_,_,vj,rfl,rfl,SqL.of hu,zD hvj,_,rfl,_,rfl,_,rfl,_,rfl,ar,_,_,vi,rfl,rfl,SqL.of hu,zD hvi,k,x,row[i],_,_,rfl,⟨hk,ox,oi,sx.nsm hk ox (by decide) (by decide),si.nsm hk oi (by omega) (by decide),rc',rvi⟩,fun v9 H9 g9 r9=>?_⟩;refine⟨k,row[j],_,_,_,rfl,hk,oj,om,sj.nsm hk oj (by omega) (by decide),sm.nsm hk om (by omega) (by decide),rvj.mono g9,r9,fun v10 H10 g10 r10=>?_⟩;have g':=g9.trans g10;have hu':=g' _ _ hu;refine⟨_,rfl,_,rfl,ar,us,_,j,rfl,rfl,hu',YX (by rw[lu,orow.1];exact hj),?_⟩;have G10:=(G'.mono g').setRow eMc er har hu' (zdj (jj g' pu) j r10);rw[List.set_set]at G10;have lset:∀ y∈row.set j (nsub k row[j] (nmul k x row[i])),y.ok k/\whk k (z+6) y:=fun y hy=>by
    rcases La.yj hy with e|e
    ·rw[e];exact⟨za0 (by omega) oj om,(zfl oj om sj sm).mono (by omega)⟩
    ·exact⟨orow.2 y e,(srow y e).mono (by omega)⟩
   refine⟨Mc.set e (row.set j (nsub k row[j] (nmul k x row[i]))),_,rfl,G10,tkc.set (by rw[vf];exact orow.1) (fun y hy=>(lset y hy).1) (fun y hy=>(lset y hy).2),fun e' r he' hr=>?_,by rw[zN (Ne.symm nap)];exact g' _ _ hpt',by rw[zN (Ne.symm nal)];exact g' _ _ hl',(rc'.mono g').upd hu'⟩;rw[wY,if_neg (by omega)]at hr;exact low e' r (by omega) hr
  ·rintro σ H' ⟨Mc,o11,rfl,G',tkc,low,hpt',hl',rc'⟩
   refine⟨Ms.set (2*l) Mc,_,_,rfl,G',tM.set (g:=fun I=>if I<2 *(l+1)then z+6 else z+3) ?_ (fun I hI=>?_),hpt',hl',rc'⟩
   ·rw[if_pos (by omega),cn'];exact tkc
   ·split <;> split <;> omega
 ·rintro σ H8 ⟨Ms,o10,o11,rfl,G,tM,hpt,hl8,rc⟩
  exact q Ms rs H8 G (tM.up fun I=>by split <;> omega) hpt nr
theorem ze7(cs:List Int)(lo hi:Option Int):∃ zs:List Int,cutV (cs.map V.int) lo hi=zs.map V.int:=⟨_,by unfold cutV;rw[wa,← GS,← Gi]⟩
def Xc:Sp:=fun vs H Q _=>∃(pc pq:Addr)(cs:List Int)(a b:Nat),vs=[.ref pc,.ref pq]/\H pc=some (.lst (cs.map V.int))/\cs≠[]/\cs.length<=1000/\H pq=some (.lst [.int (a:Int),.int (b:Int)])/\1<=a/\a<=3/\1<=b/\b<=10 /\
 ∀(k:Int)(n m q at':Nat)(A B C:Tb)(p3 pm ta tb tc:Addr)(ra rb rc:List Addr)(H':Hp),Same H H'->H' p3=some (.tup [.int k,.ref pm,.int (at':Int)])->kat H' A B C pm ta tb tc ra rb rc->KindS k->Fit k n->MOk k n m q 80 A B C->(TW k n n 14 A/\TW k n m 14 B/\TW k q n 14 C/\((cs.headD 1).fmod 3=0->k=0))->1<=m->m<=2->1<=q->q<=2->n<=a\/n<=b->Q (.ref p3) H'
theorem zaH (hP:P.given.tree=none) (hS:base.NoSeer) (D:Df K mg "_law_machine" SV xh) (Qj:Kn P w K mg base "_law_prime" 41 ["_law_cell"] QN) (QS:Kn P w K mg base "_law_sorts" 42 SR QK) (Xs:Kn P w K mg base "_law_blocked" 45 ST YN) (ZR:Kn P w K mg base "_law_exchanged" 44 SU zbs) (m_int:mg "int" = none) (zH:mg "range" = none):Kn P w K mg base "_law_machine" 46 SV Xc:=by
 refine D.kn sG (fun vs H Q E h=>?_) (fun f cdv A' outer s' H vs Q E hr h=>?_)
 ·obtain⟨pc,pq,cs,a,b,rfl,_⟩:=h;rfl
 obtain⟨pc,pq,cs,a,b,rfl,hc,ne,c1000,hq,a1,a3,b1,b10,q⟩:=h;have szl:=Qa
 obtain⟨c0,cs',rfl⟩:=vV ne;refine⟨_,(zc (zo (i:=2) sG.nd rfl (.inl rfl) (zt zi (pv 0) ze)) (zc (zo (i:=3) sG.nd rfl (.inl rfl) (zF Qj hr (za (pv 2) zd))) (zc (zo (i:=4) sG.nd rfl (.inl rfl) (yy (za (zm yi ze (zm zP (zm (zQ hr (by decide) hP hS ⟨_,_,rfl,rfl,rfl,rfl,rfl⟩) (pv 2) ze) (zt zi (pv 1) (Za zez rfl m_int zf2 (za (yE jJ (pv 3) ze (kae _)) zd))))) (za (zm yi ze (zm zP (zm (zQ hr (by decide) hP hS ⟨_,_,rfl,rfl,rfl,rfl,rfl⟩) (pv 2) ze) ze)) (za (zm yi ze (zm zP (zm (zQ hr (by decide) hP hS ⟨_,_,rfl,rfl,rfl,rfl,rfl⟩) (pv 2) ze) ze)) zd))))) (zc (zo (i:=5) sG.nd rfl (.inl rfl) (yE xb (zm zP (zm (zQ hr (by decide) hP hS ⟨_,_,rfl,rfl,rfl,rfl,rfl⟩) (pv 2) ze) ze) ze (kae _))) (zc (qR (zF Xs hr (za (pv 3) (za (pv 0) (za (pv 4) (za (zF QS hr (za (pv 2) (za (zt zE (pv 4) ze) (za (pv 5) zd)))) zd))))) (jv 2 rfl (zT (zI (i:=6) sG.nd rfl (.inl rfl)) (zT (zI (i:=7) sG.nd rfl (.inl rfl)) xF)))) (zc (yt PassesOwn.never rfl (zR rfl zH (za ze zd)) (zI (i:=8) sG.nd rfl (.inl rfl)) (zh (yb (xB (yT (pv 5))) (zh (yS (zF ZR hr (za (pv 3) (za (pv 6) (za (zm yi (zt zi (zm Qn (xv ZV (pv 0) (xY (pv 7)) jO) (yq (za ze (za ze (za ze zd))))) (pv 8)) (zm (zQ hr (by decide) hP hS ⟨_,_,rfl,rfl,rfl,rfl,rfl⟩) (pv 2) ze)) zd)))))) zJ))) (zh (zq (yy (za (pv 3) (za (yy (za (zt zi (pv 6) ze) (za (zt zi (pv 6) ze) (za (zt zi (pv 6) ze) zd)))) (za (zm yi (pv 7) ze) zd)))))))))))),?_⟩;refine⟨_,rfl,pc,_,_,_,rfl,rfl,SqL.of hc,zD (j:=0) rfl,?_⟩;refine⟨_,rfl,c0,rfl,fun k H1 g1 hs hk0=>?_⟩;have hk:=hs.ok;have kl:=hk.lt;have hq1:=g1 _ _ hq;obtain⟨mo,emo,mo1,mob⟩ : ∃ mo:Nat,atI [V.int (a:Int),V.int (b:Int)] (if decide (0<k)=true then 1 else 0)=some (.int (mo:Int))/\1<=mo/\((k=0/\mo=a)\/(k≠0/\mo=b)):=by
  by_cases h:0<k
  ·rw[decide_eq_true h];exact⟨b,rfl,b1,.inr ⟨by omega,rfl⟩⟩
  ·rw[decide_eq_false h];exact⟨a,rfl,a1,.inl ⟨by omega,rfl⟩⟩
 have n75:(75:Int)≠0:=by decide
 refine⟨_,rfl,_,_,rfl,rfl,n75,_,rfl,_,rfl,_,_,rfl,rfl,.inr ⟨_,rfl,pq,_,_,.int (mo:Int),rfl,rfl,SqL.of hq1,emo,_,_,rfl,rfl,(by show(mo:Int)≠0;omega),_,_,rfl,rfl,_,rfl,_,_,rfl,rfl,(by show(375:Int)≠0;decide),_,_,rfl,rfl,(by show(2:Int)≠0;decide),_,_,rfl,rfl,_,rfl,_,_,rfl,rfl,(by show(750:Int)≠0;decide),_,_,rfl,rfl,(by show(2:Int)≠0;decide),_,_,rfl,rfl,(by show 3<=sizeLine;decide),fun pz hpz=>?_⟩⟩
 try dsimp only
 obtain⟨n,en,n1,nm⟩ : ∃ n:Nat,1 +(c0.fdiv 75).fmod (mo:Int) =(n:Int)/\1<=n/\n<=mo:=by
  have f0:=wx (c0.fdiv 75) (show(0:Int) <(mo:Int) by omega);have f1:=wH (c0.fdiv 75) (show(0:Int) <(mo:Int) by omega);exact⟨(1 +(c0.fdiv 75).fmod (mo:Int)).toNat,by omega,by omega,by omega⟩
 obtain⟨m,em,m1,m2⟩ : ∃ m:Nat,1 +(c0.fdiv 375).fmod 2 =(m:Int)/\1<=m/\m<=2:=by
  have f0:=wx (c0.fdiv 375) (show(0:Int)<2 by decide);have f1:=wH (c0.fdiv 375) (show(0:Int)<2 by decide);exact⟨(1 +(c0.fdiv 375).fmod 2).toNat,by omega,by omega,by omega⟩
 obtain⟨qn,eq,q1,q2⟩ : ∃ qn:Nat,1 +(c0.fdiv 750).fmod 2 =(qn:Int)/\1<=qn/\qn<=2:=by
  have f0:=wx (c0.fdiv 750) (show(0:Int)<2 by decide);have f1:=wH (c0.fdiv 750) (show(0:Int)<2 by decide);exact⟨(1 +(c0.fdiv 750).fmod 2).toNat,by omega,by omega,by omega⟩
 rw[en,em,eq]at *;have g2:=zg hpz (.tup [.int (n:Int),.int (m:Int),.int (qn:Int)]);have hz2:upd H1 pz (.tup [.int (n:Int),.int (m:Int),.int (qn:Int)]) pz=some (.tup [.int (n:Int),.int (m:Int),.int (qn:Int)]):=zf;generalize upd H1 pz (.tup [.int (n:Int),.int (m:Int),.int (qn:Int)])=H2 at *;have n10:n<=10:=by rcases mob with⟨_,h⟩|⟨_,h⟩ <;> omega
 refine⟨_,rfl,_,_,rfl,rfl,(by show(1500:Int)≠0;decide),_,_,rfl,rfl,(by show(3:Int)≠0;decide),rfl,?_⟩
 try dsimp only
 generalize decide (V.int ((c0.fdiv 1500).fmod 3)=V.int 0)=pb;refine⟨_,rfl,_,rfl,_,rfl,_,rfl,_,rfl,pz,_,_,.int (n:Int),rfl,rfl,SqT.of hz2,rfl,_,rfl,c0,n,pb,rfl,by omega,fun ss ps H3 g3 hs3 lss=>?_⟩;have g13:=(g1.trans g2).trans g3;refine⟨k,pc,pz,ps,c0::cs',ss,n,m,qn,rfl,hk,g13 _ _ hc,ne,g3 _ _ hz2,hs3,lss,n10,by omega,by omega,fun A B C pt pr ts rs at' H4 G tA tB tC hpt ptn nt nr hpr=>?_⟩;refine⟨pr,_,rfl,SqT.of hpr,rfl,_,_,rfl,_,_,rfl,rfl,?_⟩;have T0:TWs k n m qn (fun _=>2) [A,B,C]:=⟨rfl,fun I M hM=>by
  match I,hM with
  | 0,hM=>cases hM;exact tA
  | 1,hM=>cases hM;exact tB
  | 2,hM=>cases hM;exact tC⟩
 clear tA tB tC hpr;refine⟨2,rfl,(by decide),(by decide),?_⟩;refine yp (lo:=0) (n:=2) (fun l σ H'=>∃ Ms rs o8,σ=[some (.ref pc),some (.ref pq),some (.int c0),some (.int k),some (.ref pz),some (.bl pb),some (.ref pt),some (.int (at':Int)),o8]/\kah H3 H' Ms ts rs/\TWs k n m qn (fun _=>if l=0 then 2 else if l=1 then 8 else 14) Ms/\H' pt=some (.lst (ts.map V.ref))/\(∀ ras∈rs,pt∉ras)) ⟨_,rs,none,rfl,G,T0,hpt,nr⟩ ?_ ?_
 ·clear G T0 hpt nr
  rintro l σ H5 hl ⟨Ms,rs,o8,rfl,G,T,hpt,nr⟩
  refine⟨_,rfl,_,rfl,?_⟩;refine ite2 (fun cb=>?_) (fun cb=>?_)
  ·have hc5:H5 pc=some (.lst ((c0::cs').map V.int)):=G.same _ _ (g13 _ _ hc);refine⟨_,rfl,_,rfl,_,rfl,_,rfl,_,rfl,pc,_,rfl,SqL.of hc5,fun p1 hp1=>?_⟩;obtain⟨zs,ez⟩:=ze7 (c0::cs') (some (at':Int)) none;have lzs:zs.length<=1000:=by
    have:(zs.map V.int).length<=((c0::cs').map V.int).length:=by rw[← ez];unfold cutV;rw[wr,uD];omega
    rw[wa,wa]at this;omega
   rw[ez];refine⟨(by show 3<=sizeLine;decide),fun p2 hp2=>?_⟩;have n12:p1≠p2:=fun e=>by rw[e,zf]at hp2;cases hp2
   refine⟨p1,p2,_,_,rfl,rfl,(by rw[zN n12];exact zf),zf,(by rw[wa];show zs.length+3<=sizeLine;omega),fun p3 hp3=>?_⟩;have e3:zs.map V.int++[V.int 0,V.int 0,V.int 0] =(zs++[0,0,0]).map V.int:=by simp
   rw[e3]at *;have g6:=((zg hp1 (.lst (zs.map V.int))).trans (zg hp2 (.lst [V.int 0,V.int 0,V.int 0]))).trans (zg hp3 (.lst ((zs++[0,0,0]).map V.int)));have h3':upd (upd (upd H5 p1 (.lst (zs.map V.int))) p2 (.lst [V.int 0,V.int 0,V.int 0])) p3 (.lst ((zs++[0,0,0]).map V.int)) p3=some (.lst ((zs++[0,0,0]).map V.int)):=zf;generalize upd (upd (upd H5 p1 (.lst (zs.map V.int))) p2 (.lst [V.int 0,V.int 0,V.int 0])) p3 (.lst ((zs++[0,0,0]).map V.int))=H6 at *;have ll:l <(zs++[(0:Int),0,0]).length:=by rw[wy];show l<zs.length+3;omega
   have el:((zs++[(0:Int),0,0]).map V.int)[l]?=some (.int (zs++[(0:Int),0,0])[l]):=by rw[we,wb ll];rfl
   refine⟨_,rfl,p3,_,_,.int (zs++[(0:Int),0,0])[l],rfl,rfl,SqL.of h3',(by rw[vF];exact zD el),_,rfl,_,_,rfl,rfl,(by show(4500:Int)≠0;decide),_,_,rfl,rfl,k,_,Ms,H3,ts,pt,rs,n,m,qn,_,rfl,hk,G.mono g6,T,g6 _ _ hpt,nr,nt,n1,n10,by omega,by omega,(by split <;>(try split) <;> omega),fun Ms' rs' H7 G7 T7 hpt7 nr7=>?_⟩;refine⟨Ms',rs',_,rfl,G7,T7.up fun _=>?_,hpt7,nr7⟩
   rcases (show l=0\/l=1 by omega)with e|e
   ·subst e;decide
   ·subst e;decide
  ·refine⟨Ms,rs,_,rfl,G,T.up fun _=>?_,hpt,nr⟩
   rcases (show l=0\/l=1 by omega)with e|e
   ·subst e;decide
   ·subst e;decide
 ·rintro σ H5 ⟨Ms,rs,o8,rfl,G,T,hpt,nr⟩
  obtain⟨A,B,C,rfl⟩ : ∃ A B C,Ms=[A,B,C]:=by
   match Ms,T.1 with
   | [A,B,C],_=>exact⟨A,B,C,rfl⟩
  obtain⟨ta,tb,tc,rfl⟩ : ∃ ta tb tc,ts=[ta,tb,tc]:=by
   match ts,G.lt with
   | [ta,tb,tc],_=>exact⟨ta,tb,tc,rfl⟩
  obtain⟨ra,rb,rc,rfl⟩ : ∃ ra rb rc,rs=[ra,rb,rc]:=by
   match rs,G.lr with
   | [ra,rb,rc],_=>exact⟨ra,rb,rc,rfl⟩
  refine⟨_,rfl,_,rfl,pt,_,_,.ref ta,rfl,rfl,SqL.of hpt,zD (j:=0) rfl,_,rfl,pt,_,_,.ref tb,rfl,rfl,SqL.of hpt,zD (j:=1) rfl,_,rfl,pt,_,_,.ref tc,rfl,rfl,SqL.of hpt,zD (j:=2) rfl,(by show 3<=sizeLine;decide),fun pm hpm=>?_⟩;have g6:=zg hpm (.tup [.ref ta,.ref tb,.ref tc]);have hm6:upd H5 pm (.tup [.ref ta,.ref tb,.ref tc]) pm=some (.tup [.ref ta,.ref tb,.ref tc]):=zf;generalize upd H5 pm (.tup [.ref ta,.ref tb,.ref tc])=H6 at *;refine⟨_,rfl,_,_,rfl,rfl,(by show 3<=sizeLine;decide),fun p3 hp3=>?_⟩;have g7:=zg hp3 (.tup [.int k,.ref pm,.int ((at':Int)+2)]);have G7:=(G.mono g6).mono g7;have ft:Fit k n:=⟨n1,by
   rcases mob with⟨_,h⟩|⟨k0,h⟩
   ·exact .inl (by omega)
   ·exact .inr ⟨k0,by omega⟩⟩
  refine q k n m qn (at'+2) A B C p3 pm ta tb tc ra rb rc _ (((g13.trans G.same).trans g6).trans g7) ?_ ⟨g7 _ _ hm6,G7.tabs 0 A ta ra rfl rfl rfl,G7.tabs 1 B tb rb rfl rfl rfl,G7.tabs 2 C tc rc rfl rfl rfl⟩ hs ft ⟨(T.2 0 A rfl).tok hk (by decide) (by decide),(T.2 1 B rfl).tok hk (by decide) (by decide),(T.2 2 C rfl).tok hk (by decide) (by decide)⟩ ⟨T.2 0 A rfl,T.2 1 B rfl,T.2 2 C rfl,hk0⟩ m1 m2 q1 q2 (by rcases mob with⟨_,h⟩|⟨_,h⟩ <;> omega);rw[zf]
  rfl
theorem zd3 (D:Df K mg "_law_across" ["_law_table"] xx) (zH:mg "range" = none) (m_len:mg "len" = none):Kn P w K mg base "_law_across" 1 ["_law_table"] xq:=by
 refine D.kn Xy (fun vs H Q E h=>?_) (fun f cdv A outer s H vs Q E hr h=>?_)
 ·obtain⟨M,n,top,ras,rfl,_⟩:=h;rfl
 obtain⟨M,n,top,ras,rfl,hT,hM,hn,nz,mz,q⟩:=h;refine⟨_,(zh (zq (yM ["_law_table"] [0] (zR rfl zH (za (zp zx rfl m_len zU (za (zt zi (pv 0) ze) zd)) zd)) fun _ _ _ _ _ _=>⟨zM,(yM ["_law_j"] [0] (zw (pv 1)) fun _ _ _ _ _ _=>⟨zM,(zt zi (pv 0) (pv 1))⟩)⟩))),?_⟩;obtain⟨M0,M',rfl⟩:=vV hM;have hras:=zj hT.2;obtain⟨r0,ras',e0⟩ : ∃ r0 ras',ras=r0::ras':=by
  cases ras with
  | nil=>simp at hras
  | cons a b=>exact⟨a,b,rfl⟩
 obtain⟨vs0,h0,p0,l0⟩:=(jL hT.2 (i:=0) rfl (by rw[e0];rfl)).len;have n0:=hn M0 wk;have szl:=Qa
 refine⟨_,rfl,top,_,_,_,rfl,rfl,SqL.of hT.1,(by rw[e0];exact zD (j:=0) rfl),r0,_,rfl,.inl (SqL.of h0),_,rfl,(by omega),(by omega),?_⟩;have en:(vs0.length:Int).toNat=n:=by omega
 rw[en];refine yG (lo:=0) (n:=n) (fun i ys H'=>∃ ras2,ys=ras2.map V.ref/\Grow H H' ((kac n (M0::M')).take i) ras2) ⟨[],rfl,Grow.nil H (Same.refl H)⟩ ?_ ?_ ?_
 ·rintro i ys H' hi ⟨ras2,rfl,G⟩
  have:=zj G.rows;rw[wr,zk]at this;rw[wa];omega
 ·rintro i ys H' hi ⟨ras2,rfl,G⟩
  first|refine gyes ?_|refine tyes ?_
  refine⟨_,rfl,top,rfl,⟨_,SqL.of (G.same _ _ hT.1)⟩,?_⟩;refine zO (xs:=ras.map V.ref) (fun j ys' H2=>H2=H'/\Paired (RN H') (((M0::M').map fun r=>r.getD i (.z 0)).take j) ys') ⟨rfl,.nil⟩ ?_ ?_ ?_
  ·rintro j ys' H2 hj ⟨rfl,pr⟩
   refine⟨SqL.of (G.same _ _ hT.1),?_⟩;have:=zj pr;rw[wr,wa]at this;omega
  ·rintro j v ys' H2 hv hj ⟨rfl,pr⟩
   obtain⟨xs,a,hx,ha,rfl,hrow⟩:=(hT.mono G.same).row hv;obtain⟨us,hu,pu,lu⟩:=hrow.len;have nx:=hn xs (wd hx);have hi':i<xs.length:=by omega
   obtain⟨u,eu,ru⟩:=yl pu (wb hi')
   first|refine gyes ?_|refine tyes ?_
   refine⟨_,rfl,_,rfl,a,_,_,_,rfl,rfl,SqL.of hu,(by rw[vF];exact zD eu),nxt hj ⟨rfl,?_⟩⟩;have e:((M0::M').map fun r=>r.getD i (.z 0))[j]?=some (xs.getD i (.z 0)):=by rw[we,hx];rfl
   rw[zy e];refine zZ pr ?_;rw[wc,wb hi'];exact ru
  ·rintro ys' H2 ⟨rfl,pr⟩ p hp
   rw[wv (by rw[wa,wa];omega)]at pr;refine nxt hi ⟨ras2++[p],by rw[wu];rfl,?_⟩;rw[zy (yV hi)];exact G.snoc hp pr
 ·rintro ys H' ⟨ras2,rfl,G⟩ t ht
  rw[wv (by rw[zk];exact ww _)]at G;exact q t ras2 _ (G.same.trans (zg ht _)) (G.done ht)
def zbw:Sp:=fun vs H Q _=>∃ i:Int,vs=[.int i]/\Q (.bl true) H
theorem zfD (D:Df K mg "_law_whole" ["_law_found"] xU) (zK:mg "isinstance" = none) (m_int:mg "int" = none) (zd4:mg "bool" = none):Kn P w K mg base "_law_whole" 1 ["_law_found"] zbw:=by
 refine D.kn JC (fun vs H Q E h=>?_) (fun f cdv A outer s H vs Q E hr h=>?_)
 ·obtain⟨i,rfl,_⟩:=h;rfl
 obtain⟨i,rfl,q⟩:=h;refine⟨_,(zh (zq (Yr (zp (yX (K:=K) rfl) rfl zK ya (za (pv 0) (za (JV rfl m_int zf2) zd))) (ZH (zf1 (zp (yX (K:=K) rfl) rfl zK ya (za (pv 0) (za (JV rfl zd4 zgZ) zd)))))))),?_⟩;refine⟨_,rfl,_,_,_,_,rfl,TyOf.int i,zh3 K,_,rfl,iteT ?_⟩;exact⟨_,rfl,_,_,_,_,rfl,TyOf.int i,zhf K,_,rfl,q⟩
def QR:Sp:=fun vs H Q _=>∃(k:Int)(x:Nb)(v:V),vs=[.int k,v]/\kaa k/\x.ok k/\RN H x v/\Q (.bl true) H
theorem zel (D:Df K mg "_law_is_number" SW yR) (jN:Kn P w K mg base "_law_whole" 1 ["_law_found"] zbw) (xZ:Kn P w K mg base "_law_divisor" 1 Sx za3) (zK:mg "isinstance" = none) (jA:mg "tuple" = none) (m_len:mg "len" = none):Kn P w K mg base "_law_is_number" 2 SW QR:=by
 refine D.kn Zr (fun vs H Q E h=>?_) (fun f cdv A outer s H vs Q E hr h=>?_)
 ·obtain⟨k,x,v,rfl,_⟩:=h;rfl
 obtain⟨k,x,v,rfl,hk,ox,rx,q⟩:=h;have kl:=hk.lt;refine⟨_,(zc (yb (zu jJ (pv 0) ze (kae _)) (zh (zq (Yr (zF jN hr (za (pv 1) zd)) (ZH (zff zij zeU ze (pv 1) (pv 0)))))) zJ) (zc (yb (PW.pt (pw_or (xB (yT (zp (yX (K:=K) rfl) rfl zK ya (za (pv 1) (za (JV rfl jA JF) zd))))) (pw_or (zu ZO (zp zx rfl m_len zU (za (pv 1) zd)) ze (kae _)) (pw_or (xB (yT (zF jN hr (za (zt zE (pv 1) ze) zd)))) (pw_or1 (xB (yT (zF jN hr (za (zt zE (pv 1) ze) zd))))))))) (zh (zq ZN)) zJ) (zh (zq (Yr (yE jJ (zt zE (pv 1) ze) ze (kae _)) (ZH (yE xb (zF xZ hr (za (zt zE (pv 1) ze) (za (zt zE (pv 1) ze) zd))) ze (kae _)))))))),?_⟩;cases x with
 | z i =>
  rw[rx.z];have k0:k≠0:=ox.1;refine⟨_,rfl,_,_,rfl,rfl,_,rfl,?_⟩;rw[decide_eq_true (show(0:Int)<k by omega)];refine iteT ?_;refine⟨_,rfl,i,rfl,_,rfl,iteT ?_⟩;refine⟨_,rfl,_,_,rfl,rfl,_,rfl,?_⟩;rw[decide_eq_true (show(0:Int)<=i from ox.2.1),if_pos rfl];refine⟨_,rfl,_,_,rfl,rfl,?_⟩;show Q (.bl (decide (i<k))) H;rw[decide_eq_true (show i<k from ox.2.2)];exact q
 | q r =>
  obtain⟨p,rfl,hp⟩:=rx.q;have k0:k=0:=ox;subst k0;refine⟨_,rfl,_,_,rfl,rfl,_,rfl,iteF ?_⟩;refine⟨_,rfl,_,_,_,_,rfl,TyOf.tup hp,zeL K,_,rfl,iteF ?_⟩;refine⟨_,rfl,p,_,rfl,.inr (SqT.of hp),rfl,_,rfl,iteF ?_⟩;refine⟨_,rfl,p,_,_,_,rfl,rfl,SqT.of hp,rfl,r.num,rfl,_,rfl,iteF ?_⟩;refine⟨_,rfl,p,_,_,_,rfl,rfl,SqT.of hp,rfl,(r.den:Int),rfl,_,rfl,iteF ?_⟩;refine⟨_,rfl,p,_,_,_,rfl,rfl,SqT.of hp,rfl,_,_,rfl,rfl,_,rfl,?_⟩;rw[decide_eq_true (show(0:Int) <(r.den:Int)from by have:=r.den_pos;omega)];refine iteT ?_;refine⟨_,rfl,p,_,_,_,rfl,rfl,SqT.of hp,rfl,_,rfl,p,_,_,_,rfl,rfl,SqT.of hp,rfl,r.num,(r.den:Int),rfl,rfl,?_⟩;have e:((wS r.num (r.den:Int):Nat):Int)=1:=by
   have:wS r.num (r.den:Int)=gR r.num.natAbs r.den:=rfl;rw[this,r.reduced];rfl
  show Q (.bl (decide (V.int ((wS r.num (r.den:Int):Nat):Int)=V.int 1))) H;rw[e];exact q
def zaq:Sp:=fun vs H Q _=>∃(k:Int)(xs:List Nb)(a:Addr)(m:Int),vs=[.int k,.ref a,.int m]/\kaa k/\kak H xs a/\La.OkR k xs/\m =(xs.length:Int)/\Q (.bl true) H
theorem zcF (D:Df K mg "_law_is_row" SX xy) (ZL:Kn P w K mg base "_law_is_number" 2 SW QR) (zK:mg "isinstance" = none) (yY:mg "list" = none) (m_len:mg "len" = none):Kn P w K mg base "_law_is_row" 3 SX zaq:=by
 refine D.kn sO (fun vs H Q E h=>?_) (fun f cdv A outer s H vs Q E hr h=>?_)
 ·obtain⟨k,xs,a,m,rfl,_⟩:=h;rfl
 obtain⟨k,xs,a,m,rfl,hk,hR,ox,em,q⟩:=h;obtain⟨us,hu,pu,lu⟩:=hR.len;refine⟨_,(zc (yb (PW.pt (pw_or (xB (yT (zp (yX (K:=K) rfl) rfl zK ya (za (pv 1) (za (JV rfl yY qA) zd))))) (pw_or1 (zu ZO (zp zx rfl m_len zU (za (pv 1) zd)) (pv 2) (kae _))))) (zh (zq ZN)) zJ) (zc (yt PassesOwn.never rfl (zw (pv 1)) (zI (i:=3) sO.nd rfl (.inl rfl)) (zh (yb (xB (yT (zF ZL hr (za (pv 0) (za (pv 3) zd))))) (zh (zq ZN)) zJ))) (zh (zq ZN)))),?_⟩;refine⟨_,rfl,_,_,_,_,rfl,TyOf.lst hu,zbr K,_,rfl,iteF ?_⟩;refine⟨_,rfl,a,_,rfl,.inl (SqL.of hu),_,rfl,rfl,_,rfl,?_⟩;rw[lu,em,decide_eq_true rfl];refine iteF ?_;refine⟨_,rfl,a,rfl,⟨_,SqL.of hu⟩,?_⟩;refine yZ (xs:=us) (fun j σ H2=>∃ o3,σ=[some (.int k),some (.ref a),some (.int (xs.length:Int)),o3]/\H2=H) ⟨_,rfl,rfl⟩ ?_ ?_ ?_
 ·rintro j σ H2 _ ⟨o3,rfl,rfl⟩
  exact SqL.of hu
 ·rintro j x σ H2 hx ⟨o3,rfl,rfl⟩
  obtain⟨n1,e1,r1⟩:=zW pu hx;exact⟨_,rfl,_,rfl,k,n1,x,rfl,hk,ox n1 (wd e1),r1,_,rfl,iteF ⟨_,rfl,rfl⟩⟩
 ·rintro σ H2 ⟨o3,rfl,rfl⟩
  exact q
def XU:Sp:=fun vs H Q _=>∃(k:Int)(M:Tb)(t:Addr)(ras:List Addr)(m c:Int),vs=[.int k,.ref t,.int m,.int c]/\kaa k/\kag H M t ras/\m =(M.length:Int)/\(∀ r∈M,(r.length:Int)=c/\La.OkR k r)/\M.length<sizeLine/\∀ H',Same H H'->Q (.bl true) H'
theorem zbC:∀ n,(vD n true).all id=true
 | 0=>rfl
 | n+1=>by rw[gS,List.all_cons,zbC n];rfl
theorem zbW (D:Df K mg "_law_is_rows" SY xm) (JY:Kn P w K mg base "_law_is_row" 3 SX zaq) (zK:mg "isinstance" = none) (yY:mg "list" = none) (m_len:mg "len" = none) (m_all:mg "all" = none):Kn P w K mg base "_law_is_rows" 4 SY XU:=by
 refine D.kn Xp (fun vs H Q E h=>?_) (fun f cdv A outer s H vs Q E hr h=>?_)
 ·obtain⟨k,M,t,ras,m,c,rfl,_⟩:=h;rfl
 obtain⟨k,M,t,ras,m,c,rfl,hk,hT,em,oM,hz,q⟩:=h;have lt:=zj hT.2;refine⟨_,(zh (zq (Yr (zp (yX (K:=K) rfl) rfl zK ya (za (pv 1) (za (JV rfl yY qA) zd))) (Yr (yE xb (zp zx rfl m_len zU (za (pv 1) zd)) (pv 2) (kae _)) (ZH (zp (Qp rfl) rfl m_all zgi (za (yM ["_law_prime_here", "_law_columns"] [0,3] (zw (pv 1)) fun _ _ _ _ _ _=>⟨zM,(zF JY hr (za (pv 1) (za (pv 0) (za (pv 2) zd))))⟩) zd))))))),?_⟩;refine⟨_,rfl,_,_,_,_,rfl,TyOf.lst hT.1,zbr K,_,rfl,iteT ?_⟩;refine⟨_,rfl,t,_,rfl,.inl (SqL.of hT.1),_,rfl,rfl,_,rfl,?_⟩;rw[wa,← lt,em,decide_eq_true rfl];refine iteT ?_;refine⟨_,rfl,t,rfl,⟨_,SqL.of hT.1⟩,?_⟩;refine zO (xs:=ras.map V.ref) (fun i ys H'=>Same H H'/\ys =(vD i true).map V.bl) ⟨Same.refl H,rfl⟩ ?_ ?_ ?_
 ·rintro i ys H' hi ⟨g,rfl⟩
  refine⟨SqL.of (g _ _ hT.1),?_⟩;rw[wa]at hi;rw[wa,vL];omega
 ·rintro i v ys H' hv hi ⟨g,rfl⟩
  obtain⟨row,a,hrow,ha,rfl,hR⟩:=(hT.mono g).row hv;have o:=oM row (wd hrow)
  first|refine gyes ?_|refine tyes ?_
  refine⟨_,rfl,_,rfl,_,rfl,k,row,a,c,rfl,hk,hR,o.2,o.1.symm,nxt hi ⟨g,?_⟩⟩;rw[gM,wu];rfl
 ·rintro ys H' ⟨g,rfl⟩ p hp
  refine⟨p,vD (ras.map V.ref).length true,rfl,zf,?_⟩;rw[zbC];exact q _ (g.trans (zg hp _))
theorem zg8{H1:Hp}{xs:List Nb}{us:List V}{x:Nb}{v:V}{pt:Addr}(hp:H1 pt=some (.lst us))(pu:Paired (RN H1) xs us)(rx:RN H1 x v):Paired (RN (upd H1 pt (.lst (us++[v])))) (xs++[x]) (us++[v]) :=
 zZ (jg (fun _ _ r=>r.upd hp) pu) (rx.upd hp)
theorem zdY{k:Int}{a b:Nat}(hk:kaa k)(l:List (Nb×Nb))(h:∀ p∈l,p.1.ok k/\p.2.ok k/\szk k a p.1/\szk k b p.2):∀ i,i<=l.length->szk k (i *(a+b+1)+1) (La.ndotF k (l.take i)):=by
 intro i
 induction i with
 | zero =>
  intro _ k0;subst k0;exact⟨(Ys _),sm_one.mono (by omega)⟩
 | succ i ih =>
  intro hi;have hg:l[i]?=some l[i]:=wb hi;have hp:=h l[i] (wj hi);have hl:∀ q∈l.take i,_:=fun q hq=>h q (vG hq)
  rw[zy hg,La.Zp];have o1:=La.Yh hk (l.take i) fun q hq=>⟨(hl q hq).1,(hl q hq).2.1⟩
  refine(zfF o1 (La.yD hk hp.1 hp.2.1) (ih (by omega)) (qd hp.1 hp.2.1 hp.2.2.1 hp.2.2.2)).mono ?_;rw[vt];omega
def QY:Sp:=fun vs H Q _=>∃(k:Int)(A:Tb)(x:List Nb)(n a0 b:Nat)(ta ax:Addr)(ra:List Addr),vs=[.int k,.ref ta,.ref ax]/\kaa k/\kag H A ta ra/\kak H x ax/\La.OkM k n A/\x.length=n/\La.OkR k x/\(∀ r∈A,∀ y∈r,szk k a0 y)/\(∀ y∈x,szk k b y)/\a0+b<=5000000/\n<=10/\A.length<=10 /\
 ∀ p H',Same H H'->NewR H H' (imgM k A x) p->(∀ y∈imgM k A x,szk k (n *(a0+b+1)+1) y)->Q (.ref p) H'
theorem zdk (D:Df K mg "_law_image" SZ xJ) (yw:Kn P w K mg base "_law_make" 1 SN qr) (xG:Kn P w K mg base "_law_plus" 42 SO (Zj nadd)) (yd:Kn P w K mg base "_law_times" 42 SO (Zj nmul)) (zH:mg "range" = none) (m_len:mg "len" = none):Kn P w K mg base "_law_image" 43 SZ QY:=by
 refine D.kn sS (fun vs H Q E h=>?_) (fun f cdv A' outer s H vs Q E hr h=>?_)
 ·obtain⟨k,A,x,n,a0,b,ta,ax,ra,rfl,_⟩:=h;rfl
 obtain⟨k,A,x,n,a0,b,ta,ax,ra,rfl,hk,hT,hX,oA,lx,ox,sA,sx,hb,n10,a10,q⟩:=h;have szl:=Qa
 have la:=zj hT.2;have szf:∀ r∈A,∀ i,szk k (n *(a0+b+1)+1) (La.ndotF k ((r.zip x).take i)):=fun r hr i=>by
  have lz:(r.zip x).length=n:=by rw[uh,(oA r hr).1,lx,Gx]
  have hz:∀ p∈r.zip x,p.1.ok k/\p.2.ok k/\szk k a0 p.1/\szk k b p.2:=fun p hp=>⟨(oA r hr).2 _ (wZ hp).1,ox _ (wZ hp).2,sA r hr _ (wZ hp).1,sx _ (wZ hp).2⟩
  have up:∀ i,i<=n->i *(a0+b+1)+1<=n *(a0+b+1)+1:=fun i hi=>by
   have:=vh (a0+b+1) hi;omega
  rcases Nat.le_total i n with h|h
  ·exact(zdY hk _ hz i (by omega)).mono (up i h)
  ·have:=zdY hk _ hz n (by omega);rw[wv (by omega)]at this ⊢;exact this.mono (up n (ww _))
 have big:n *(a0+b+1)+1<=60000000:=by
  have:n *(a0+b+1)<=10 *(a0+b+1):=vh _ n10;omega
 refine⟨_,(zc (zo (i:=3) sS.nd rfl (.inl rfl) (yq zd)) (zc (yt PassesOwn.never rfl (zw (pv 1)) (zI (i:=4) sS.nd rfl (.inl rfl)) (zc (zo (i:=5) sS.nd rfl (.inl rfl) (zF yw hr (za (pv 0) (za ze zd)))) (zc (yt PassesOwn.never rfl (zR rfl zH (za (zp zx rfl m_len zU (za (pv 2) zd)) zd)) (zI (i:=6) sS.nd rfl (.inl rfl)) (zh (zo (i:=5) sS.nd rfl (.inl rfl) (zF xG hr (za (pv 0) (za (pv 5) (za (zF yd hr (za (pv 0) (za (zt zi (pv 4) (pv 6)) (za (zt zi (pv 2) (pv 6)) zd)))) zd))))))) (zh (yS (bm0 (fun _ h=>qX PySem.F.plainAttrs_list PySem.F.slot_list_append PySem.F.type_list_append yF h (za (pv 5) zd)) (pv 3))))))) (zh (zq (pv 3))))),?_⟩;refine⟨(by show 0<=sizeLine;decide),fun pt hpt=>?_⟩;have g0:=zg hpt (.lst []);have h0:upd H pt (.lst []) pt=some (.lst []):=zf;replace hT:=hT;refine⟨_,rfl,ta,rfl,⟨_,SqL.of (g0 _ _ hT.1)⟩,?_⟩;refine yZ (xs:=ra.map V.ref) (fun i σ H'=>∃ us o4 o5 o6,σ=[some (.int k),some (.ref ta),some (.ref ax),some (.ref pt),o4,o5,o6]/\Same H H'/\H' pt=some (.lst us)/\Paired (RN H') ((imgM k A x).take i) us) ⟨[],none,none,none,rfl,g0,h0,.nil⟩ ?_ ?_ ?_
 ·rintro i σ H' _ ⟨us,o4,o5,o6,rfl,g,_⟩
  exact SqL.of (g _ _ hT.1)
 ·rintro i v σ H' hv ⟨us,o4,o5,o6,rfl,g,hp,pu⟩
  obtain⟨row,a,hrow,ha,rfl,hR⟩:=(hT.mono g).row hv;obtain⟨rs,hrs,prs,lrs⟩:=hR.len;obtain⟨xs,hxs,pxs,lxs⟩:=(hX.mono g).len;have hr':=wd hrow;have orow:=oA row hr';refine⟨_,rfl,k,0,rfl,hk,fun v0 H1 g1 r1=>?_⟩;refine⟨_,rfl,ax,_,rfl,.inl (SqL.of (g1 _ _ hxs)),_,rfl,(by omega),(by omega),?_⟩;have en:((xs.length:Int)).toNat=n:=by omega
  rw[en];refine yp (lo:=0) (n:=n) (fun j σ H2=>∃ w o6,σ=[some (.int k),some (.ref ta),some (.ref ax),some (.ref pt),some (.ref a),some w,o6]/\Same H' H2/\RN H2 (La.ndotF k ((row.zip x).take j)) w) ⟨v0,_,rfl,g1,r1⟩ ?_ ?_
  ·rintro j σ H2 hj ⟨w,o6,rfl,g2,rw2⟩
   have hj1:j<row.length:=by rw[orow.1];exact hj
   have hj2:j<x.length:=by omega
   obtain⟨u1,e1,ru1⟩:=yl prs (wb hj1);obtain⟨u2,e2,ru2⟩:=yl pxs (wb hj2);have m1:=wj hj1;have m2:=wj hj2;have oo1:=orow.2 _ m1;have oo2:=ox _ m2;have on:=La.Yh hk ((row.zip x).take j) fun p hp=>by
    have hz:=vG hp;exact⟨orow.2 _ (wZ hz).1,ox _ (wZ hz).2⟩
   refine⟨_,rfl,_,rfl,_,rfl,_,rfl,_,rfl,a,_,_,_,rfl,rfl,SqL.of (g2 _ _ hrs),(by rw[vF];exact zD e1),_,rfl,_,rfl,ax,_,_,_,rfl,rfl,SqL.of (g2 _ _ hxs),(by rw[vF];exact zD e2),k,row[j],x[j],u1,u2,rfl,⟨hk,oo1,oo2,(sA row hr' _ m1).nsm hk oo1 (by omega) (by decide),(sx _ m2).nsm hk oo2 (by omega) (by decide),ru1.mono g2,ru2.mono g2⟩,fun v1 H3 g3 r3=>?_⟩;refine⟨k,_,_,w,v1,rfl,⟨hk,on,La.yD hk oo1 oo2,(szf row hr' j).nsm hk on (by omega) (by decide),(qd oo1 oo2 (sA row hr' _ m1) (sx _ m2)).nsm hk (La.yD hk oo1 oo2) (by omega) (by decide),rw2.mono g3,r3⟩,fun v2 H4 g4 r4=>?_⟩;refine⟨v2,_,rfl,(g2.trans g3).trans g4,?_⟩;have ez:(row.zip x)[j]?=some (row[j],x[j]):=by rw[gd];exact⟨wb hj1,wb hj2⟩
   rw[zy ez,La.Zp];exact r4
  ·rintro σ H2 ⟨w,o6,rfl,g2,rw2⟩
   have el:(row.zip x).take n=row.zip x:=wv (by rw[uh,orow.1,lx];omega);rw[el]at rw2;have hp2:=g2 _ _ hp;have lus:=zj pu;rw[wr]at lus;have lim:(imgM k A x).length=A.length:=by unfold imgM;exact wa _
   refine⟨_,rfl,.inl ⟨rfl,_,SqL.of hp2⟩,_,rfl,pt,us,w,rfl,rfl,hp2,by omega,?_⟩;have ei:(imgM k A x)[i]?=some (La.ndot k row x):=by unfold imgM;rw[we,hrow];rfl
   refine⟨us++[w],_,_,_,rfl,yJ (g.trans g2) hpt,zf,?_⟩;rw[zy ei];exact zg8 hp2 (jj g2 pu) rw2
 ·rintro σ H' ⟨us,o4,o5,o6,rfl,g,hp,pu⟩
  rw[wa,← la,wv (by unfold imgM;rw[wa];exact ww _)]at pu;refine⟨_,rfl,q pt H' g ⟨⟨us,hp,pu⟩,hpt⟩ fun y hy=>?_⟩;unfold imgM at hy;obtain⟨r,hr,rfl⟩:=wg.mp hy;have:=szf r hr n;rw[wv (by rw[uh,(oA r hr).1,lx];omega)]at this;exact this
theorem fermat:∀ p:Nat,p<99->primeB p=true->∀ x:Nat,x<p->0<x->x^(p - 2) % p*x % p=1:=by decide +kernel
theorem zeZ(p t o l:Nat):(if l % 2=1 then t*o % p else t) *(o*o % p)^(l / 2) % p=t*o^l % p:=by
 have e:o^l =(o*o)^(l / 2)*o^(l % 2):=by
  rw[← Nat.pow_two,← Nat.pow_mul,← uy,waC]
 have h1:∀ a:Nat,a *(o*o % p)^(l / 2) % p=a *(o*o)^(l / 2) % p:=fun a=>by
  rw[GL,← Nat.pow_mod,← GL]
 rw[h1,e]
 by_cases h:l % 2=1
 ·rw[if_pos h,h,Nat.pow_one];rw[GL (t*o % p),Nat.mod_mod,← GL]
  congr 1
  rw[Gh,vP o]
 ·rw[if_neg h,show l % 2=0 by omega,waR,Ga]
def zbj:Sp:=fun vs H Q _=>∃(k:Int)(x:Nb)(v:V),vs=[.int k,v]/\KindS k/\x.ok k/\x≠nnum k 0/\nsm 20000000 x/\RN H x v /\
 ∀ b v' H',Same H H'->RN H' b v'->b.ok k->nmul k b x=nnum k 1->(∀ m,szk k m x->szk k m b)->Q v' H'
theorem zfh (hP:P.given.tree=none) (hS:base.NoSeer) (D:Df K mg "_law_back" qc jq) (yh:Kn P w K mg base "_law_fraction" 41 SK jV):Kn P w K mg base "_law_back" 42 qc zbj:=by
 refine D.kn sZ (fun vs H Q E h=>?_) (fun f cdv A' outer s H vs Q E hr h=>?_)
 ·obtain⟨k,x,v,rfl,_⟩:=h;rfl
 obtain⟨k,x,v,rfl,hk,ox,ne,sx,rx,q⟩:=h;have kl:=hk.ok.lt;refine⟨_,(zc (yb (zu xb (pv 0) ze (kae _)) (zh (zq (zF yh hr (za (zm zS (zt zE (pv 1) ze) (zt zE (pv 1) ze)) (za (zm zS (zt zE (pv 1) ze) (zt zE (pv 1) ze)) zd))))) zJ) (zc (zo (i:=2) sZ.nd rfl (.inl rfl) ze) (zc (zo (i:=3) sZ.nd rfl (.inl rfl) (zm qx (pv 0) ze)) (zc (qk PassesOwn.never (zu jJ (pv 3) ze (kae _)) (zc (yb (zu xb (zm zP (pv 3) ze) ze (kae _)) (zh (zo (i:=2) sZ.nd rfl (.inl rfl) (zm zP (zm zS (pv 2) (pv 1)) (pv 0)))) zJ) (zc (zo (i:=1) sZ.nd rfl (.inl rfl) (zm zP (zm zS (pv 1) (pv 1)) (pv 0))) (zh (zo (i:=3) sZ.nd rfl (.inl rfl) (zm (zQ hr (by decide) hP hS ⟨_,_,rfl,rfl,rfl,rfl,rfl⟩) (pv 3) ze)))))) (zh (zq (pv 2))))))),?_⟩;cases x with
 | q r =>
  obtain⟨p,rfl,hp⟩:=rx.q;have k0:k=0:=ox;subst k0;have r0:r≠0:=fun e=>ne (by rw[e];rfl)
  have n0:r.num≠0:=fun e=>r0 (wax.mp e)
  have sp:(0:Int)<r.num*r.num:=by
   have:=gv.mpr n0;rw[← Int.natAbs_mul_self' r.num];have h2:0 <(r.num.natAbs:Int):=by omega
   exact gZ h2 h2
  refine⟨_,rfl,rfl,_,rfl,iteT ?_⟩;refine⟨_,rfl,p,_,_,_,rfl,rfl,SqT.of hp,rfl,_,rfl,p,_,_,_,rfl,rfl,SqT.of hp,rfl,_,_,rfl,rfl,sx.2.mulOk sx.1 (by decide),_,rfl,p,_,_,_,rfl,rfl,SqT.of hp,rfl,_,rfl,p,_,_,_,rfl,rfl,SqT.of hp,rfl,_,_,rfl,rfl,sx.1.mulOk sx.1 (by decide),_,_,rfl,sp,fun p' H' g h=>?_⟩;have e:vB ((r.den:Int)*r.num) (r.num*r.num)=r⁻¹:=by
   rw[waU,Rat.divInt_mul_right n0]
  rw[e]at h;refine q (.q r⁻¹) _ H' g (RN.of_q h) rfl ?_ fun m hm _=>?_
  ·show Nb.q (r⁻¹*r)=Nb.q _;rw[Rat.mul_comm,Rat.mul_inv_cancel r r0];rfl
  ·have hs:=hm rfl;refine⟨?_,?_⟩
   ·show Sm m (r⁻¹).num;rw[Rat.num_inv];have hd:Sm m (r.den:Int):=hs.2;unfold Sm at hd ⊢;rw[vv];have:r.num.sign.natAbs=1:=by rw[Int.natAbs_sign_of_ne_zero n0]
    rw[this,vw];exact hd
   ·show Sm m ((r⁻¹).den:Int);rw[Rat.den_inv,if_neg n0];have hn:Sm m r.num:=hs.1;unfold Sm at hn ⊢
    simpa using hn
 | z i =>
  rw[rx.z];have k0:k≠0:=ox.1;have hpr:PrS k:=by
   rcases hk with h|h
   ·exact absurd h k0
   ·exact h
  obtain⟨p,rfl⟩:=uF kl.1;obtain⟨x,rfl⟩:=uF ox.2.1;have plo:=hpr.lo;have phi:=hpr.hi;have x1:x<p:=by have:=ox.2.2;omega
  have x0:0<x:=by
   rcases uI x with h|h
   ·exact absurd (by rw[h];unfold nnum;rw[if_neg k0];simp) ne
   ·exact h
  have fe:=fermat p (by omega) (by have:=hpr.pr;simpa using this) x x1 x0;refine⟨_,rfl,rfl,_,rfl,?_⟩;rw[decide_eq_false (fun e=>k0 (V.int.inj e))];refine iteF ?_;refine⟨_,rfl,_,_,rfl,rfl,?_⟩;refine⟨fun l σ H'=>∃(o t:Nat),σ=[some (.int (p:Int)),some (.int (o:Int)),some (.int (t:Int)),some (.int (l:Int))]/\H'=H/\o<p/\t<p/\t*o^l % p=x^(p - 2) % p,⟨p - 2,x,1,by rw[show((p - 2:Nat):Int) =(p:Int) - 2 by omega];rfl,rfl,x1,by omega,by rw[vw]⟩,?_⟩
  rintro l σ H' ⟨o,t,rfl,rfl,ho,ht,inv⟩
  refine⟨_,rfl,_,_,rfl,rfl,_,rfl,?_⟩;have modN:∀ a b:Nat,((a:Int) *(b:Int)).fmod (p:Int) =((a*b % p:Nat):Int):=fun a b=>by
   rw[uz _ (by omega),wav,uM]
  have p7:p<99:=by omega
  refine ite2 (fun c=>?_) (fun c=>?_)
  ·have l0:0<l:=by have:(0:Int) <(l:Int):=of_decide_eq_true c;omega
   refine⟨_,fun _ _ h=>h,?_⟩;have l2:((l:Int)).fmod 2 =((l % 2:Nat):Int):=by rw[uz _ (by decide),wav];rfl
   have d2:((l:Int)).fdiv 2 =((l / 2:Nat):Int):=by rw[gb _ (by decide),Int.natCast_ediv];rfl
   have stp:=zeZ p t o l;refine⟨_,rfl,_,_,rfl,rfl,(by show(2:Int)≠0;decide),rfl,_,rfl,?_⟩;rw[l2];refine ite2 (fun c2=>?_) (fun c2=>?_)
   ·have h2:l % 2=1:=by have:=V.int.inj (of_decide_eq_true c2);omega
    refine⟨_,rfl,_,rfl,_,_,rfl,rfl,zY (by omega) (by omega),_,rfl,_,_,rfl,rfl,(by show(p:Int)≠0;omega),?_⟩;refine⟨_,rfl,_,rfl,_,_,rfl,rfl,zY (by omega) (by omega),_,rfl,_,_,rfl,rfl,(by show(p:Int)≠0;omega),?_⟩;refine⟨_,rfl,_,_,rfl,rfl,(by show(2:Int)≠0;decide),?_⟩;rw[if_pos h2]at stp;refine⟨l / 2,waE l0 (by decide),o*o % p,t*o % p,?_,rfl,gU _ (by omega),gU _ (by omega),stp.trans inv⟩;show [some (V.int (p:Int)),some (V.int (((o:Int) *(o:Int)).fmod (p:Int))),some (V.int (((t:Int) *(o:Int)).fmod (p:Int))),some (V.int (((l:Int)).fdiv 2))]=_;rw[modN,modN,d2]
   ·have h2:¬ l % 2=1:=fun e=>c2 (by rw[e];rfl)
    refine⟨_,rfl,_,rfl,_,_,rfl,rfl,zY (by omega) (by omega),_,rfl,_,_,rfl,rfl,(by show(p:Int)≠0;omega),?_⟩;refine⟨_,rfl,_,_,rfl,rfl,(by show(2:Int)≠0;decide),?_⟩;rw[if_neg h2]at stp;refine⟨l / 2,waE l0 (by decide),o*o % p,t,?_,rfl,gU _ (by omega),ht,stp.trans inv⟩;show [some (V.int (p:Int)),some (V.int (((o:Int) *(o:Int)).fmod (p:Int))),some (V.int (t:Int)),some (V.int (((l:Int)).fdiv 2))]=_;rw[modN,d2]
  ·have l0:l=0:=by
    have:¬(0:Int) <(l:Int):=of_decide_eq_false (ul.mpr c);omega
   subst l0;rw[waR,Ga,gA ht]at inv;refine⟨_,rfl,q (.z (t:Int)) _ H' (Same.refl _) RN.of_z ⟨k0,by omega,by omega⟩ ?_ fun m _ e=>absurd e k0⟩;show Nb.z (((t:Int) *(x:Int)).fmod (p:Int))=nnum (p:Int) 1;rw[modN,inv,fe];unfold nnum;rw[if_neg k0];have:(1:Int).fmod (p:Int)=1:=by rw[uz _ (by omega)];exact Int.emod_eq_of_lt (by decide) (by omega)
   rw[this];rfl
theorem xI{k:Int}(hk:kaa k){m n:Nat}{x:Nb}(o:x.ok k)(h:szk k m x)(hm:k=0->m<=n)(h7:61<=n):nsm n x:=by
 by_cases k0:k=0
 ·exact(h k0).mono (hm k0)
 ·exact(zbp hk k0 o).mono h7
theorem za4{α β:Type}{R S:α->β->Prop}:∀ {xs:List α} {ys:List β},(∀ x y,y∈ys->R x y->S x y)->Paired R xs ys->Paired S xs ys
 | _,_,_,.nil=>.nil
 | _,_,f,.cons r t=>.cons (f _ _ wk r) (za4 (fun x y hy=>f x y (wo _ hy)) t)
theorem QH:∀(l:List Addr)(j:Nat),(l.map V.ref).eraseIdx j =(l.eraseIdx j).map V.ref
 | [],_=>rfl
 | _::_,0=>rfl
 | a::l,j+1=>congrArg (V.ref a::·) (QH l j)
def bdR(b c:Nat):Nat:=4^c *(b+1) - 1
theorem zg1(c:Nat):1<=4^c:=uR (by decide)
theorem Yg(b c:Nat):bdR b (c+1)=4*bdR b c+3:=by
 unfold bdR;have h:1<=4^c *(b+1):=wau (zg1 c) (by omega);rw[gr,vP (4^c) 4,Gh];omega
theorem zbB(b:Nat){c d:Nat}(h:c<=d):bdR b c<=bdR b d:=GN (vh _ (vg (by decide) h)) 1
theorem jD{r:List Nb}{c:Nat}{d x:Nb}(h:r[c]?=some x):r.getD c d=x:=by rw[wc,h];rfl
theorem zgj{k:Int}(hk:kaa k){c B:Nat}{f r:List Nb}(of:La.OkR k f)(or:La.OkR k r)(hl:r.length=f.length)(hc:c<r.length)(sr:∀ x∈r,szk k B x)(sf:∀ x∈f,szk k (B+B) x):∀ x∈La.gjR k c f r,szk k (4*B+1) x:=by
 intro x hx;unfold La.gjR at hx;have ec:r.getD c (nnum k 0)=r[c]:=jD (wb hc);rw[ec]at hx;obtain⟨i,hi,e⟩:=wQ hx;rw[uC]at e;rw[← e];have m1:=wj (l:=r) (n:=i) (by rw[ve]at hi;omega);have m2:=wj (l:=f) (n:=i) (by rw[ve]at hi;omega);have mc:=wj hc;exact(zfr (or _ m1) (La.yD hk (or _ mc) (of _ m2)) (sr _ m1) (qd (or _ mc) (of _ m2) (sr _ mc) (sf _ m2))).mono (by omega)
def YJ:Sp:=fun vs H Q _=>∃(k:Int)(n b:Nat)(M:Tb)(t:Addr)(ras:List Addr),vs=[.int k,.ref t]/\KindS k/\kag H M t ras/\La.OkM k n M/\(∀ r∈M,∀ x∈r,szk k b x)/\n<=100/\(k=0->bdR b (min n M.length)<=24000000)/\M.length<=1000 /\
 ∀(R:Tb)(ls:List Nat)(t':Addr)(ras':List Addr)(H':Hp),Same H H'->kag H' R t' ras'->IsRa k n R ls->SameR k R M->(∀ r∈R,∀ x∈r,szk k (bdR b R.length) x)->Q (.ref t') H'
theorem zaz (D:Df K mg "_law_reduced" qe xf) (yw:Kn P w K mg base "_law_make" 1 SN qr) (yd:Kn P w K mg base "_law_times" 42 SO (Zj nmul)) (xM:Kn P w K mg base "_law_minus" 43 SO Yu) (zaN:Kn P w K mg base "_law_back" 42 qc zbj) (yY:mg "list" = none) (m_len:mg "len" = none) (m_zip:mg "zip" = none):Kn P w K mg base "_law_reduced" 44 qe YJ:=by
 refine D.kn sJ (fun vs H Q E h=>?_) (fun f cdv A' outer s H vs Q E hr h=>?_)
 ·obtain⟨k,n,b,M,t,ras,rfl,_⟩:=h;rfl
 obtain⟨k,n,b,M,t,ras,rfl,hs,hT,oM,sM,n10,b5,lM,q⟩:=h;have hk:=hs.ok;have szl:=Qa
 have z0:=La.yg hk 0;refine⟨_,(zc (zo (i:=2) sJ.nd rfl (.inr rfl) (zF yw hr (za (pv 0) (za ze zd)))) (zc (ZK 3 sJ.nd [] [] (zw (pv 1)) fun _ _ _ _ _ _=>⟨zM,(Za ZB rfl yY qA (za (pv 0) zd))⟩) (zc (zo (i:=4) sJ.nd rfl (.inl rfl) (yq zd)) (zc (zo (i:=5) sJ.nd rfl (.inr rfl) ze) (zc (qk PassesOwn.never (PW.pt (pw_and (zu jJ (zp zx rfl m_len zU (za (pv 3) zd)) ze (kae _)) (pw_and1 (zu zeU (pv 5) (zp zx rfl m_len zU (za (zt zi (pv 3) ze) zd)) (kae _))))) (zc (ZK 6 sJ.nd ["_law_at_here", "_law_nought"] [5,2] (zw (pv 3)) fun _ _ _ _ _ _=>⟨(JS (zu (zbe hr) (zt zi (pv 0) (pv 1)) (pv 2) (kae _))),(pv 0)⟩) (zc (yb (zu jJ (zp zx rfl m_len zU (za (pv 6) zd)) ze (kae _)) (zc (zo (i:=7) sJ.nd rfl (.inr rfl) (zt zi (pv 6) ze)) (zc (yS (bm0 (fun _ h=>qX PySem.F.plainAttrs_list PySem.F.slot_list_remove PySem.F.type_list_remove (zdi hr) h (za (pv 7) zd)) (pv 3))) (zc (zo (i:=8) sJ.nd rfl (.inr rfl) (zF zaN hr (za (pv 0) (za (zt zi (pv 7) (pv 5)) zd)))) (zc (zo (i:=7) sJ.nd rfl (.inr rfl) (yM ["_law_prime_here", "_law_by"] [0,8] (zw (pv 7)) fun _ _ _ _ _ _=>⟨zM,(zF yd hr (za (pv 1) (za (pv 2) (za (pv 0) zd))))⟩)) (zc (ZK 3 sJ.nd ["_law_first", "_law_prime_here", "_law_at_here"] [7,0,5] (zw (pv 3)) fun _ _ _ _ _ _=>⟨zM,(Zy ["_law_x", "_law_y"] ["_law_prime_here", "_law_row", "_law_at_here"] [2,0,3] ⟨rfl,rfl,rfl,rfl,rfl,rfl,by decide +kernel⟩ rfl (YI rfl m_zip (za (pv 0) (za (pv 1) zd))) (Zh (yB (yx (by decide)) yA (yB (yx (by decide)) yA jP))) fun _ _ _ _ _ _=>⟨(jv 2 rfl (zT (zI (i:=0) (by decide:(["_law_x", "_law_y", "_law_prime_here", "_law_row", "_law_at_here"]:List Str).Nodup) rfl (by first|exact Or.inl rfl|exact Or.inr rfl)) (zT (zI (i:=1) (by decide:(["_law_x", "_law_y", "_law_prime_here", "_law_row", "_law_at_here"]:List Str).Nodup) rfl (by first|exact Or.inl rfl|exact Or.inr rfl)) xF))),zM,(zF xM hr (za (pv 2) (za (pv 0) (za (zF yd hr (za (pv 2) (za (zt zi (pv 3) (pv 4)) (za (pv 1) zd)))) zd))))⟩)⟩) (zc (ZK 4 sJ.nd ["_law_first", "_law_prime_here", "_law_at_here"] [7,0,5] (zw (pv 4)) fun _ _ _ _ _ _=>⟨zM,(Zy ["_law_x", "_law_y"] ["_law_prime_here", "_law_row", "_law_at_here"] [2,0,3] ⟨rfl,rfl,rfl,rfl,rfl,rfl,by decide +kernel⟩ rfl (YI rfl m_zip (za (pv 0) (za (pv 1) zd))) (Zh (yB (yx (by decide)) yA (yB (yx (by decide)) yA jP))) fun _ _ _ _ _ _=>⟨(jv 2 rfl (zT (zI (i:=0) (by decide:(["_law_x", "_law_y", "_law_prime_here", "_law_row", "_law_at_here"]:List Str).Nodup) rfl (by first|exact Or.inl rfl|exact Or.inr rfl)) (zT (zI (i:=1) (by decide:(["_law_x", "_law_y", "_law_prime_here", "_law_row", "_law_at_here"]:List Str).Nodup) rfl (by first|exact Or.inl rfl|exact Or.inr rfl)) xF))),zM,(zF xM hr (za (pv 2) (za (pv 0) (za (zF yd hr (za (pv 2) (za (zt zi (pv 3) (pv 4)) (za (pv 1) zd)))) zd))))⟩)⟩) (zh (yS (bm0 (fun _ h=>qX PySem.F.plainAttrs_list PySem.F.slot_list_append PySem.F.type_list_append yF h (za (pv 7) zd)) (pv 4)))))))))) zJ) (zh (zo (i:=5) sJ.nd rfl (.inr rfl) (zm yi (pv 5) ze)))))) (zh (zq (pv 4)))))))),?_⟩;refine⟨_,rfl,k,0,rfl,hk,fun v0 H1 g1 r0=>?_⟩;refine⟨_,rfl,t,rfl,⟨_,SqL.of (g1 _ _ hT.1)⟩,?_⟩;refine zau (hT.mono g1) (by omega) (fun a us H2 Q2 ha hq=>⟨_,rfl,a,us,rfl,.inl (SqL.of ha),hq⟩) ?_;intro rl H2 G2 pl hpl;have N2:=G2.done hpl;have g2:=g1.trans (G2.same.trans (zg hpl (.lst (rl.map V.ref))));have r2:=r0.mono (G2.same.trans (zg hpl (.lst (rl.map V.ref))));generalize upd H2 pl (.lst (rl.map V.ref))=H3 at *;refine⟨(by show 0<=sizeLine;decide),fun pt hpt=>?_⟩;have g3:=zg hpt (.lst []);have hpt3:upd H3 pt (.lst []) pt=some (.lst []):=zf;have hL3:=N2.tab.mono g3;have npt:pl≠pt:=fun e=>by rw[← e,N2.tab.1]at hpt;cases hpt
 have nplr:pl∉rl:=N2.nt;have fpl:H pl=none:=g1.none N2.ft;have g30:=g2.trans g3;have r3:=r2.mono g3;generalize upd H3 pt (.lst [])=H4 at *;clear G2 hpl r0 r2 g3 hpt g2 N2;refine⟨fun m σ H'=>∃(c:Nat)(told left:Tb)(ls:List Nat)(pl pt:Addr)(rl rt:List Addr)(o6 o7 o8:Option V),σ=[some (.int k),some (.ref t),some v0,some (.ref pl),some (.ref pt),some (.int (c:Int)),o6,o7,o8]/\Same H H'/\RN H' (nnum k 0) v0/\kag H' left pl rl/\kag H' told pt rt/\H pl=none/\pl∉rl/\pl∉rt/\pl≠pt/\c<=n/\left.length<=1000/\(told.length<=c/\told.length+left.length=M.length)/\(∀ r∈told,∀ x∈r,szk k (bdR b told.length) x)/\(∀ r∈left,∀ x∈r,szk k (bdR b told.length) x)/\(∀(F:Type) [Lean.Grind.Field F] (φ:La.Kf k F),La.Gj φ n c M told left ls)/\m=n - c,⟨_,0,[],M,[],pl,pt,rl,[],_,_,_,rfl,g30,r3,hL3,⟨hpt3,.nil⟩,fpl,nplr,(fun h=>nomatch h),npt,vA _,lM,⟨ww _,vS _⟩,(fun _ h=>nomatch h),(fun r hr x hx=>(sM r hr x hx).mono (by show b<=bdR b 0;unfold bdR;omega)),(fun F _ φ=>La.Gj.start oM),rfl⟩,?_⟩;clear hpt3 hL3 npt nplr g30 r3 g1 sM lM
 rintro m σ H' ⟨c,told,left,ls,pl,pt,rl,rt,o6,o7,o8,rfl,g,r0,hL,hD,fpl,nlr,nlt,nlp,cn,ll,⟨lt,lML⟩,sD,sL,G,rfl⟩
 have lrl:=zj hL.2;have lrt:=zj hD.2;have exit:(left=[]\/n<=c)->Q (.ref pt) H':=fun h =>
  q told ls pt rt H' g hD (fun F _ φ=>((G F φ).done h).1) (fun F _ φ=>((G F φ).done h).2) sD
 refine⟨_,rfl,pl,_,rfl,.inl (SqL.of hL.1),_,_,rfl,rfl,_,rfl,?_⟩;rw[wa,← lrl]
 rcases uI left.length with l0|l0
 ·have e:left=[]:=vJ l0;rw[l0];refine iteF ?_;refine iteF ?_;exact⟨_,rfl,exit (.inl e)⟩
 rw[decide_eq_true (show(0:Int) <(left.length:Int) by omega)];refine iteT ?_;have hl0:left[0]?=some left[0]:=wb l0;obtain⟨a0,ea0,ra0⟩:=yl hL.2 hl0;obtain⟨us0,hu0,pu0,lu0⟩:=ra0.len;have okl:=(show La.OkM k n left from by obtain⟨F,_,_,⟨φ⟩⟩:=La.yQ hk;exact(G F φ).okl);have okt:=(show La.OkM k n told from by obtain⟨F,_,_,⟨φ⟩⟩:=La.yQ hk;exact(G F φ).okt);have w0:=(okl _ (wj l0)).1;refine⟨_,rfl,_,rfl,pl,_,_,.ref a0,rfl,rfl,SqL.of hL.1,zD (j:=0) (by rw[we,ea0];rfl),a0,_,rfl,.inl (SqL.of hu0),_,_,rfl,rfl,_,rfl,?_⟩;rw[lu0,w0]
 rcases wK c n with hc|hc
 rotate_left
 ·rw[decide_eq_false (show ¬(c:Int) <(n:Int) by omega)];refine iteF ?_;exact⟨_,rfl,exit (.inr hc)⟩
 rw[decide_eq_true (show(c:Int) <(n:Int) by omega)];refine iteT ?_;clear exit pu0 hu0 lu0 us0 ra0 ea0 w0 hl0;refine⟨_,fun _ _ h=>h,?_⟩;have bd2:k=0->bdR b told.length<=6000000:=fun e=>by
  have h1:=b5 e;have h2:=zbB b (show told.length+1<=min n M.length by omega);rw[Yg]at h2;omega
 refine⟨_,rfl,pl,rfl,⟨_,SqL.of hL.1⟩,?_⟩;refine zO (xs:=rl.map V.ref) (fun i ys H2=>H2=H'/\ys.length<=i/\((ys=[]/\∀(m:Nat)(r:List Nb),m<i->left[m]?=some r->r.getD c (nnum k 0)=nnum k 0)\/∃(j:Nat)(r:List Nb)(a:Addr)(rest:List V),left[j]?=some r/\rl[j]?=some a/\r.getD c (nnum k 0)≠nnum k 0/\(∀(m:Nat)(r':List Nb),m<j->left[m]?=some r'->r'.getD c (nnum k 0)=nnum k 0)/\ys=.ref a::rest)) ⟨rfl,ww _,.inl ⟨rfl,fun _ _ h=>absurd h (vx _)⟩⟩ ?_ ?_ ?_
 ·rintro i ys H2 hi ⟨rfl,hy,_⟩
  rw[wa]at hi;exact⟨SqL.of hL.1,by omega⟩
 ·rintro i v ys H2 hv hi ⟨rfl,hy,hJ⟩
  obtain⟨row,a,hrow,ha,rfl,hR⟩:=hL.row hv;obtain⟨us,hu,pu,lu⟩:=hR.len;have orow:=okl row (wd hrow);have hcr:c<row.length:=by rw[orow.1];exact hc
  have ec:row[c]?=some row[c]:=wb hcr;obtain⟨u,eu,ru⟩:=yl pu ec;refine⟨_,rfl,_,rfl,a,_,_,_,rfl,rfl,SqL.of hu,zD eu,_,rfl,toD row[c],toD (nnum k 0),ru,r0,xC _,xC _,wD (vI _ _) (wD (je _) (by decide)),_,rfl,?_⟩;rw[qy]
  by_cases hz:row[c]=nnum k 0
  ·rw[decide_eq_true hz];refine iteF (nxt hi ⟨rfl,by omega,?_⟩)
   rcases hJ with⟨e,hJ⟩|hJ
   ·refine .inl ⟨e,fun m r hm hr=>?_⟩
    rcases vo (vz hm)with h|h
    ·exact hJ m r h hr
    ·rw[h,hrow]at hr;cases hr;rw[jD ec];exact hz
   ·exact .inr hJ
  ·rw[decide_eq_false hz];refine iteT ⟨_,rfl,nxt hi ⟨rfl,by rw[wy];show ys.length+1<=i+1;omega,.inr ?_⟩⟩
   rcases hJ with⟨e,hJ⟩|⟨j,r,a',rest,h1,h2,h3,h4,e⟩
   ·exact⟨i,row,a,[],hrow,ha,by rw[jD ec];exact hz,fun m r' hm hr=>hJ m r' hm hr,by rw[e];rfl⟩
   ·exact⟨j,r,a',rest++[.ref a],h1,h2,h3,h4,by rw[e];rfl⟩
 rintro ys H2 ⟨rfl,hy,hJ⟩ ps hps
 rw[wa]at hy;have g4:=zg hps (.lst ys);have hps4:upd H2 ps (.lst ys) ps=some (.lst ys):=zf;have ga:=g.trans g4;have r4:=r0.mono g4;have hL4:=hL.mono g4;have hD4:=hD.mono g4;generalize upd H2 ps (.lst ys)=H5 at *;clear hps g4 hL hD r0 g;refine⟨_,rfl,ps,_,rfl,.inl (SqL.of hps4),_,_,rfl,rfl,_,rfl,?_⟩
 rcases hJ with⟨e,hJ⟩|⟨j,p,a,rest,hp,ha,hne,hbef,e⟩
 ·subst e;refine iteF ?_;refine⟨_,rfl,_,_,rfl,rfl,?_⟩;refine⟨n - (c+1),by omega,c+1,told,left,ls,pl,pt,rl,rt,_,_,_,rfl,ga,r4,hL4,hD4,fpl,nlr,nlt,nlp,hc,ll,⟨by omega,lML⟩,sD,sL,(fun F _ φ=>(G F φ).skip fun r hr=>?_),rfl⟩;obtain⟨i,hi,er⟩:=wQ hr;have:=hJ i r (by rw[wa];omega) (by rw[wb hi,er]);show φ.to (r.getD c (nnum k 0))=0;rw[this];exact(φ.zero_iff hk z0).mpr rfl
 subst e;rw[decide_eq_true (show(0:Int) <((V.ref a::rest).length:Int) by rw[vy];omega)];refine iteT ?_;have hjl:j<left.length:=(wp.mp hp).1;have pm:=wd hp;have op:=okl p pm;have hra:kak H5 p a:=jL hL4.2 hp ha;obtain⟨ua,hua,pua,lua⟩:=hra.len;have hcp:c<p.length:=by rw[op.1];exact hc
 have ecp:p[c]?=some p[c]:=wb hcp;have hne':p[c]≠nnum k 0:=by rw[jD ecp]at hne;exact hne
 have oc:=op.2 _ (wj hcp);refine⟨_,rfl,ps,_,_,.ref a,rfl,rfl,SqL.of hps4,zD (j:=0) rfl,?_⟩;refine⟨_,rfl,.inl ⟨rfl,_,SqL.of hL4.1⟩,_,rfl,pl,_,.ref a,j,rowD p,rfl,rfl,hL4.1,(by rw[wa];omega),hra.rp,JT p,wD (XO p) (by decide),(fun m z hm hz=>?_),?_⟩
 ·rw[we]at hz;obtain⟨a',ha',rfl⟩:=wG.mp hz;obtain⟨r',er',rr'⟩:=zW hL4.2 ha';refine⟨rowD r',rr'.rp,JT r',?_⟩;rw[zfw]
  rcases vo hm with h|h
  ·have hz':=hbef m r' h er';rw[decide_eq_false (fun e=>hne (by rw[← e];exact hz')),decide_eq_false (by omega)]
  ·subst h;rw[hp]at er';cases er';rw[decide_eq_true rfl,decide_eq_true rfl]
 have em:(rl.map V.ref).eraseIdx j =(rl.eraseIdx j).map V.ref:=QH rl j;rw[em];have hTe:kag (upd H5 pl (.lst ((rl.eraseIdx j).map V.ref))) (left.eraseIdx j) pl (rl.eraseIdx j):=⟨zf,zbK (za4 (fun x y hy r=>r.upd (fun e=>nlr (by rw[← e];exact hy)) hL4.1) hL4.2) j⟩;have hDe:=hD4.upd (zs':=(rl.eraseIdx j).map V.ref) (Ne.symm nlp) nlt hL4.1;have hae:kak (upd H5 pl (.lst ((rl.eraseIdx j).map V.ref))) p a:=hra.upd (fun e=>nlr (by rw[← e];exact wd ha)) hL4.1;have gE:Same H (upd H5 pl (.lst ((rl.eraseIdx j).map V.ref))):=yJ ga fpl;have rE:=r4.upd (zs':=(rl.eraseIdx j).map V.ref) hL4.1;generalize upd H5 pl (.lst ((rl.eraseIdx j).map V.ref))=HE at *;clear hL4 hD4 hra hua pua lua r4 ga hps4 ua em;obtain⟨ua,hua,pua,lua⟩:=hae.len;obtain⟨u,eu,ru⟩:=yl pua ecp;refine⟨_,rfl,_,rfl,_,rfl,a,_,_,_,rfl,rfl,SqL.of hua,zD eu,k,p[c],u,rfl,hs,oc,hne',xI hk oc (sL p pm _ (wj hcp)) (fun e=>by have:=bd2 e;omega) (by decide),ru,fun bb vb H6 g6 rb ob eb sb=>?_⟩;have sbb:=sb _ (sL p pm _ (wj hcp));have hua6:=g6 _ _ hua;have pua6:=jj g6 pua;refine⟨_,rfl,a,rfl,⟨_,SqL.of hua6⟩,?_⟩;refine zO (xs:=ua) (fun i ys H7=>Same H6 H7/\Paired (RN H7) ((p.map (nmul k bb)).take i) ys) ⟨Same.refl H6,.nil⟩ ?_ ?_ ?_
 ·rintro i ys H7 hi ⟨g7,pr⟩
  refine⟨SqL.of (g7 _ _ hua6),?_⟩;have:=zj pr;rw[wr,wa]at this;omega
 ·rintro i v ys H7 hv hi ⟨g7,pr⟩
  obtain⟨nx,ex,rx⟩:=zW pua6 hv;have ox:=op.2 _ (wd ex)
  first|refine gyes ?_|refine tyes ?_
  refine⟨_,rfl,_,rfl,_,rfl,k,bb,nx,vb,v,rfl,⟨hk,ob,ox,xI hk ob sbb (fun e=>by have:=bd2 e;omega) (by decide),xI hk ox (sL p pm _ (wd ex)) (fun e=>by have:=bd2 e;omega) (by decide),rb.mono g7,rx.mono g7⟩,fun v8 H8 g8 r8=>nxt hi ⟨g7.trans g8,?_⟩⟩;have e:(p.map (nmul k bb))[i]?=some (nmul k bb nx):=by rw[we,ex];rfl
  rw[zy e];exact zZ (jj g8 pr) r8
 rintro ys H7 ⟨g7,pr⟩ af haf
 rw[show ua.length =(p.map (nmul k bb)).length by rw[wa,lua],vK]at pr;have g8:=zg haf (.lst ys);have hF:kak (upd H7 af (.lst ys)) (p.map (nmul k bb)) af:=⟨ys,zf,jj g8 pr⟩;have gF:=(g6.trans g7).trans g8;generalize upd H7 af (.lst ys)=HF at *;have turn:∀(F:Type) [Lean.Grind.Field F] (φ:La.Kf k F),La.Gj φ n (c+1) M (told.map (La.gjR k c (p.map (nmul k bb)))++[p.map (nmul k bb)]) ((left.eraseIdx j).map (La.gjR k c (p.map (nmul k bb)))) (ls++[c]):=fun F _ φ=>by
  refine(G F φ).turn hk hc hp ob ?_;show φ.to bb*φ.to (p.getD c (nnum k 0))=1;rw[jD ecp,← φ.mul ob oc,eb,φ.num];exact La.ι_one
 have lf:(p.map (nmul k bb)).length=n:=by rw[wa];exact op.1
 have of':La.OkR k (p.map (nmul k bb)):=fun x hx=>by
  obtain⟨y,hy,rfl⟩:=wg.mp hx;exact La.yD hk ob (op.2 y hy)
 have sf:∀ x∈p.map (nmul k bb),szk k (bdR b told.length+bdR b told.length) x:=fun x hx=>by
  obtain⟨y,hy,rfl⟩:=wg.mp hx;exact qd ob (op.2 y hy) sbb (sL p pm y hy)
 generalize p.map (nmul k bb)=f at *;have hTf:=hTe.mono gF;have hDf:=hDe.mono gF;have gHF:=gE.trans gF;have rF:=rE.mono gF;clear hTe hDe hae gE rE g6 g7 g8 pr haf gF hua hua6 pua pua6 ru eu rb;have oke:∀ r∈left.eraseIdx j,r∈left:=fun r hr=>(gH (l:=left) j).subset hr
 have lle:(left.eraseIdx j).length<=left.length:=(gH (l:=left) j).length_le;refine⟨_,rfl,pl,rfl,⟨_,SqL.of hTf.1⟩,?_⟩;refine qS (La.gjR k c f) hTf (by omega) ?_ ?_
 ·have OKX:∀ r∈left.eraseIdx j,r.length=n/\La.OkR k r:=fun r hr=>okl r (oke r hr)
  have SZX:∀ r∈left.eraseIdx j,∀ x∈r,szk k (bdR b told.length) x:=fun r hr=>sL r (oke r hr)
  have GX:∀ {H8:Hp},Same HF H8->Same HF H8:=fun h=>h
  intro r a' H8 Q8 hr8 gs hR8 hq8;have orr:=OKX r hr8;have srr:=SZX r hr8;obtain⟨us,hu,pu,lu⟩:=hR8.len;obtain⟨uf,huf,puf,luf⟩:=(hF.mono (GX gs)).len;have hcr:c<r.length:=by rw[orr.1];exact hc
  obtain⟨uc,euc,ruc⟩:=yl pu (wb hcr);have occ:=orr.2 _ (wj hcr);refine⟨_,rfl,_,rfl,a',af,us,uf,rfl,SqL.of hu,SqL.of huf,?_⟩;refine qI (xs:=us) (zs:=uf) (by rw[lu,luf,orr.1,lf]) (fun i ys' H9=>Same H8 H9/\Paired (RN H9) ((La.gjR k c f r).take i) ys') ⟨Same.refl H8,.nil⟩ ?_ ?_ ?_
  ·rintro i ys' H9 hi ⟨g9,pr⟩
   refine⟨SqL.of (g9 _ _ hu),SqL.of (g9 _ _ huf),?_⟩;have:=zj pr;rw[wr]at this;rw[lu,orr.1]at hi;omega
  ·rintro i x z T ys' H9 hx hz hi hT9 ⟨g9,pr⟩
   obtain⟨nx,ex,rx⟩:=zW pu hx;obtain⟨nz,ez,rz⟩:=zW puf hz;have ox:=orr.2 _ (wd ex);have oz:=of' _ (wd ez);have sx:=srr _ (wd ex);have sz:=sf _ (wd ez);have gT:=g9.trans (zg hT9 (.tup [x,z]));refine⟨T,_,rfl,SqT.of zf,rfl,_,_,rfl,_,_,rfl,rfl,?_⟩;have gN:=zg hT9 (.tup [x,z]);generalize upd H9 T (.tup [x,z])=H10 at *
   first|refine gyes ?_|refine tyes ?_
   refine⟨_,rfl,_,rfl,_,rfl,_,rfl,_,rfl,a',_,_,_,rfl,rfl,SqL.of (gT _ _ hu),zD euc,_,rfl,k,r[c],nz,uc,z,rfl,⟨hk,occ,oz,xI hk occ (srr _ (wj hcr)) (fun e=>by have:=bd2 e;omega) (by decide),xI hk oz sz (fun e=>by have:=bd2 e;omega) (by decide),ruc.mono gT,rz.mono gT⟩,fun v11 H11 g11 r11=>?_⟩;have omm:=La.yD hk occ oz;refine⟨k,nx,_,x,v11,rfl,hk,ox,omm,xI hk ox sx (fun e=>by have:=bd2 e;omega) (by decide),xI hk omm (qd occ oz (srr _ (wj hcr)) sz) (fun e=>by have:=bd2 e;omega) (by decide),(rx.mono gT).mono g11,r11,fun v12 H12 g12 r12=>nxt hi ⟨(gT.trans g11).trans g12,?_⟩⟩;have e:(La.gjR k c f r)[i]?=some (nsub k nx (nmul k r[c] nz)):=by
    unfold La.gjR;rw[vR,ex,ez];show some (nsub k nx (nmul k (r.getD c (nnum k 0)) nz))=_;rw[jD (wb hcr)]
   rw[zy e];exact zZ (jj (gN.trans (g11.trans g12)) pr) r12
  ·rintro ys' H9 ⟨g9,pr⟩ p9 hp9
   have lg:(La.gjR k c f r).length=us.length:=by unfold La.gjR;rw[ve,lu,orr.1,lf,Gx]
   rw[← lg,vK]at pr;exact hq8 p9 ys' H9 g9 hp9 pr
 intro rl2 HG GG pl2 hpl2;have NG:=GG.done hpl2;have gG:=GG.same.trans (zg hpl2 (.lst (rl2.map V.ref)));have fpl2:H pl2=none:=gHF.none (GG.same.none hpl2);have naf2:pl2≠af:=fun e=>by
  obtain⟨uf,huf,_⟩:=(hF.mono GG.same).len;rw[← e,hpl2]at huf;cases huf
 generalize upd HG pl2 (.lst (rl2.map V.ref))=HH at *;have hF2:=hF.mono gG;refine⟨_,rfl,pt,rfl,⟨_,SqL.of (gG _ _ hDf.1)⟩,?_⟩;refine qS (La.gjR k c f) (hDf.mono gG) (by omega) ?_ ?_
 ·have OKX:∀ r∈told,r.length=n/\La.OkR k r:=okt;have SZX:∀ r∈told,∀ x∈r,szk k (bdR b told.length) x:=sD;have GX:∀ {H8:Hp},Same HH H8->Same HF H8:=fun h=>gG.trans h
  intro r a' H8 Q8 hr8 gs hR8 hq8;have orr:=OKX r hr8;have srr:=SZX r hr8;obtain⟨us,hu,pu,lu⟩:=hR8.len;obtain⟨uf,huf,puf,luf⟩:=(hF.mono (GX gs)).len;have hcr:c<r.length:=by rw[orr.1];exact hc
  obtain⟨uc,euc,ruc⟩:=yl pu (wb hcr);have occ:=orr.2 _ (wj hcr);refine⟨_,rfl,_,rfl,a',af,us,uf,rfl,SqL.of hu,SqL.of huf,?_⟩;refine qI (xs:=us) (zs:=uf) (by rw[lu,luf,orr.1,lf]) (fun i ys' H9=>Same H8 H9/\Paired (RN H9) ((La.gjR k c f r).take i) ys') ⟨Same.refl H8,.nil⟩ ?_ ?_ ?_
  ·rintro i ys' H9 hi ⟨g9,pr⟩
   refine⟨SqL.of (g9 _ _ hu),SqL.of (g9 _ _ huf),?_⟩;have:=zj pr;rw[wr]at this;rw[lu,orr.1]at hi;omega
  ·rintro i x z T ys' H9 hx hz hi hT9 ⟨g9,pr⟩
   obtain⟨nx,ex,rx⟩:=zW pu hx;obtain⟨nz,ez,rz⟩:=zW puf hz;have ox:=orr.2 _ (wd ex);have oz:=of' _ (wd ez);have sx:=srr _ (wd ex);have sz:=sf _ (wd ez);have gT:=g9.trans (zg hT9 (.tup [x,z]));refine⟨T,_,rfl,SqT.of zf,rfl,_,_,rfl,_,_,rfl,rfl,?_⟩;have gN:=zg hT9 (.tup [x,z]);generalize upd H9 T (.tup [x,z])=H10 at *
   first|refine gyes ?_|refine tyes ?_
   refine⟨_,rfl,_,rfl,_,rfl,_,rfl,_,rfl,a',_,_,_,rfl,rfl,SqL.of (gT _ _ hu),zD euc,_,rfl,k,r[c],nz,uc,z,rfl,⟨hk,occ,oz,xI hk occ (srr _ (wj hcr)) (fun e=>by have:=bd2 e;omega) (by decide),xI hk oz sz (fun e=>by have:=bd2 e;omega) (by decide),ruc.mono gT,rz.mono gT⟩,fun v11 H11 g11 r11=>?_⟩;have omm:=La.yD hk occ oz;refine⟨k,nx,_,x,v11,rfl,hk,ox,omm,xI hk ox sx (fun e=>by have:=bd2 e;omega) (by decide),xI hk omm (qd occ oz (srr _ (wj hcr)) sz) (fun e=>by have:=bd2 e;omega) (by decide),(rx.mono gT).mono g11,r11,fun v12 H12 g12 r12=>nxt hi ⟨(gT.trans g11).trans g12,?_⟩⟩;have e:(La.gjR k c f r)[i]?=some (nsub k nx (nmul k r[c] nz)):=by
    unfold La.gjR;rw[vR,ex,ez];show some (nsub k nx (nmul k (r.getD c (nnum k 0)) nz))=_;rw[jD (wb hcr)]
   rw[zy e];exact zZ (jj (gN.trans (g11.trans g12)) pr) r12
  ·rintro ys' H9 ⟨g9,pr⟩ p9 hp9
   have lg:(La.gjR k c f r).length=us.length:=by unfold La.gjR;rw[ve,lu,orr.1,lf,Gx]
   rw[← lg,vK]at pr;exact hq8 p9 ys' H9 g9 hp9 pr
 intro rt2 HI GI pt2 hpt2;have NI:=GI.done hpt2;have gI:=GI.same.trans (zg hpt2 (.lst (rt2.map V.ref)));have hL2:=NG.tab.mono GI.same;have hFI:=hF2.mono GI.same;have npt2:pl2≠pt2:=fun e=>by
  have:=hL2.1;rw[e,hpt2]at this;cases this
 have nrl2:pt2∉rl2:=fun h=>by
  obtain⟨i,hi,ei⟩:=wQ h;obtain⟨r,_,rr⟩:=zW hL2.2 (wb hi);obtain⟨us,hus,_⟩:=rr.len;rw[ei,hpt2]at hus;cases hus
 have nplt2:pl2∉rt2:=fun h=>by
  have:=NI.fr pl2 h;rw[NG.tab.1]at this;cases this
 have nafp:af≠pt2:=fun e=>by
  obtain⟨uf,huf,_⟩:=hFI.len;rw[e,hpt2]at huf;cases huf
 have gHI:=(gHF.trans gG).trans gI;have rI:=(rF.mono gG).mono gI;have hL3:=NG.tab.mono gI;have hF3:=hF2.mono gI;have fpt2:H pt2=none:=(gHF.trans gG).none (GI.same.none hpt2);generalize upd HI pt2 (.lst (rt2.map V.ref))=HJ at *;have lr2:=zj NI.tab.2;rw[wa]at lr2;refine⟨_,rfl,.inl ⟨rfl,_,SqL.of NI.tab.1⟩,_,rfl,pt2,_,.ref af,rfl,rfl,NI.tab.1,(by rw[wa];omega),?_⟩;refine⟨_,rfl,_,_,rfl,rfl,?_⟩;refine⟨n - (c+1),by omega,c+1,told.map (La.gjR k c f)++[f],(left.eraseIdx j).map (La.gjR k c f),ls++[c],pl2,pt2,rl2,rt2++[af],_,_,_,rfl,yJ gHI fpt2,rI.upd NI.tab.1,hL3.upd npt2 nrl2 NI.tab.1,⟨by rw[zf,wu];rfl,zZ (za4 (fun x y hy r=>r.upd (fun e=>NI.nt (by rw[← e];exact hy)) NI.tab.1) NI.tab.2) (hF3.upd nafp NI.tab.1)⟩,fpl2,NG.nt,?_,npt2,hc,by rw[wa];omega,⟨by rw[wy,wa];show told.length+1<=c+1;omega,by rw[wy,wa,wa,List.length_eraseIdx_of_lt (wp.mp hp).1];show told.length+1 +(left.length - 1)=M.length;omega⟩,?_,?_,turn,rfl⟩
 ·intro h
  rcases wt.mp h with h|h
  ·exact nplt2 h
  ·exact naf2 (wm.mp h)
 ·rw[show(told.map (La.gjR k c f)++[f]).length=told.length+1 by rw[wy,wa];rfl];intro r hr x hx
  rcases wt.mp hr with h|h
  ·obtain⟨r',hr',rfl⟩:=wg.mp h;have o:=okt r' hr';exact(zgj hk of' o.2 (by rw[o.1,lf]) (by rw[o.1];exact hc) (sD r' hr') sf x hx).mono (by rw[Yg];omega)
  ·rw[wm.mp h]at hx;exact(sf x hx).mono (by rw[Yg];omega)
 ·rw[show(told.map (La.gjR k c f)++[f]).length=told.length+1 by rw[wy,wa];rfl];intro r hr x hx;obtain⟨r',hr',rfl⟩:=wg.mp hr;have o:=okl r' (oke r' hr');exact(zgj hk of' o.2 (by rw[o.1,lf]) (by rw[o.1];exact hc) (sL r' (oke r' hr')) sf x hx).mono (by rw[Yg];omega)
theorem zcO{K:PySem.W.Frag}{te:TE}{σb:L2.St}{t:Addr}{ras:List Addr}{M:Tb}{H:Hp}{R:List V->Hp->Prop}(f:List Nb->List Nb)(hT:kag H M t ras)(hz:M.length<sizeLine)
  (hte:∀(r:List Nb)(a:Addr)(H':Hp)(Q:VK),r∈M->Same H H'->kak H' r a->(∀(p:Addr)(H2:Hp),Same H' H2->NewR H' H2 (f r) p->Q (.ref p) H2)->te (σb.set 0 (some (.ref a))) H' Q)
  (hd:∀(ras2:List Addr)(H':Hp),Grow H H' (M.map f) ras2->R (ras2.map V.ref) H') :
  ∃ W:Nat->Nat->List V->Hp->Prop,(∃ m,W 0 m [] H)/\∀ i m ys H,W i m ys H ->
   ((Itl K t).stop i H/\ys.length<=sizeLine/\R ys H) \/
   ((Itl K t).go i H/\ys.length<sizeLine/\∀ x H',(Itl K t).yld i H x H'->gName 0 x σb H' fun σ2 H2=>tTrue σ2 H2 fun b H3=>if b=true then te σ2 H3 fun y H4=>∃ m',m'<m/\W (i+1) m' (ys++[y]) H4 else ∃ m',m'<m/\W (i+1) m' ys H3):=by
 have hl:=zj hT.2;refine zO (xs:=ras.map V.ref) (fun i ys H'=>∃ ras2,ys=ras2.map V.ref/\Grow H H' ((M.map f).take i) ras2) ⟨[],rfl,Grow.nil H (Same.refl H)⟩ ?_ ?_ ?_
 ·rintro i ys H' hi ⟨ras2,rfl,G⟩
  refine⟨SqL.of (G.same _ _ hT.1),?_⟩;have:=zj G.rows;rw[wr,wa]at this;rw[wa];omega
 ·rintro i v ys H' hv hi ⟨ras2,rfl,G⟩
  obtain⟨row,a,hrow,ha,rfl,hR⟩:=(hT.mono G.same).row hv;refine gyes (hte row a H' _ (wd hrow) G.same hR fun p H2 g2 nr=>?_);refine nxt hi ⟨ras2++[p],by rw[wu];rfl,?_⟩;have e:(M.map f)[i]?=some (f row):=by rw[we,hrow];rfl
  rw[zy e];exact G.snocR g2 nr.row nr.fa
 ·rintro ys H' ⟨ras2,rfl,G⟩
  rw[wa,← hl,wv (by rw[wa];exact ww _)]at G;exact hd ras2 H' G
theorem zhg{k:Int}{c:Nat}{M N:Tb}:kac M.length ((kac c N).map (imgM k M))=kai k c M N:=by
 refine uE (by rw[zk];unfold kai;rw[wa]) fun j h1 h2=>?_
 rw[zk]at h1;have e1:=yV (M:=(kac c N).map (imgM k M)) h1;have e2:(kai k c M N)[j]?=some ((kac c N).map fun col=>La.ndot k M[j] col):=by unfold kai;rw[we,wb h1];rfl
 rw[wb (by rw[zk];exact h1)]at e1;rw[wb h2]at e2;rw[Option.some.inj e1,Option.some.inj e2,vO];refine vU fun col _=>?_
 show(imgM k M col).getD j (.z 0)=_;rw[wc];unfold imgM;rw[we,wb h1];rfl
def YO:Sp:=fun vs H Q _=>∃(k:Int)(M N:Tb)(b c a0 b0:Nat)(tM tN:Addr)(rM rN:List Addr),vs=[.int k,.ref tM,.ref tN]/\kaa k/\kag H M tM rM/\kag H N tN rN/\La.OkM k b M/\La.OkM k c N/\N.length=b/\(∀ r∈M,∀ y∈r,szk k a0 y)/\(∀ r∈N,∀ y∈r,szk k b0 y)/\a0+b0<=5000000/\1<=b/\b<=10/\1<=c/\c<=10/\M.length<=10 /\
 ∀ t rs H',Same H H'->NewT H H' (kai k c M N) t rs->Q (.ref t) H'
theorem zaT (D:Df K mg "_law_product" SO xg) (qV:Kn P w K mg base "_law_across" 1 ["_law_table"] xq) (zae:Kn P w K mg base "_law_image" 43 SZ QY):Kn P w K mg base "_law_product" 44 SO YO:=by
 refine D.kn YE (fun vs H Q E h=>?_) (fun f cdv A' outer s H vs Q E hr h=>?_)
 ·obtain⟨k,M,N,b,c,a0,b0,tM,tN,rM,rN,rfl,_⟩:=h;rfl
 obtain⟨k,M,N,b,c,a0,b0,tM,tN,rM,rN,rfl,hk,hM,hN,oM,oN,lN,sM,sN,ab,b1,b10,c1,c10,r10,q⟩:=h;have szl:=Qa
 refine⟨_,(zh (zq (zF qV hr (za (yM ["_law_prime_here", "_law_one"] [0,1] (zw (zF qV hr (za (pv 2) zd))) fun _ _ _ _ _ _=>⟨zM,(zF zae hr (za (pv 1) (za (pv 2) (za (pv 0) zd))))⟩) zd)))),?_⟩;have nN:N≠[]:=fun e=>by rw[e]at lN;simp at lN;omega
 refine⟨_,rfl,N,c,tN,rN,rfl,hN,nN,(fun r hr=>(oN r hr).1),by omega,by omega,fun t1 r1 H1 g1 n1=>?_⟩;have oT:=zL oN;have sT:∀ r∈kac c N,∀ y∈r,szk k b0 y:=fun r hr y hy=>by
  unfold kac at hr;obtain⟨j,hj,rfl⟩:=wg.mp hr;obtain⟨x,hx,rfl⟩:=wg.mp hy;have hl:=(oN x hx).1;rw[vk]at hj;rw[wc,wb (by omega)];exact sN x hx _ (wj _)
 refine⟨t1,rfl,⟨_,SqL.of n1.tab.1⟩,?_⟩;refine zcO (imgM k M) n1.tab (by rw[zk];omega) ?_ ?_
 ·intro r a H4 Q4 hr4 g4 hR4 hq4;have orr:=oT r hr4;exact⟨_,rfl,_,rfl,_,rfl,k,M,r,b,a0,b0,tM,a,rM,rfl,hk,(hM.mono g1).mono g4,hR4,oM,orr.1.trans lN,orr.2,sM,sT r hr4,wD ab (by decide),b10,r10,fun p H5 g5 nr _=>hq4 p H5 g5 nr⟩
 intro rt2 H4 G4 p4 hp4;have N4:=G4.done hp4;have g4:=G4.same.trans (zg hp4 (.lst (rt2.map V.ref)));generalize upd H4 p4 (.lst (rt2.map V.ref))=H5 at *;have len:∀ r∈(kac c N).map (imgM k M),r.length=M.length:=fun r hr=>by
  obtain⟨x,_,rfl⟩:=wg.mp hr;unfold imgM;exact wa _
 refine⟨(kac c N).map (imgM k M),M.length,p4,rt2,rfl,N4.tab,(fun e=>by have:=congrArg gy e;rw[wa,zk]at this;simp at this;omega),len,by omega,by rw[wa,zk];omega,fun t rs H6 g6 n6=>?_⟩;rw[zhg]at n6;have g:=g1.trans g4;exact q t rs H6 (g.trans g6) ⟨n6.tab,g.none n6.ft,fun r hr=>g.none (n6.fr r hr),n6.nd,n6.nt⟩
def Xi:Sp:=fun vs H Q _=>∃(k:Int)(A B C:Tb)(n h s many zA zB zC:Nat)(mI:Int)(pm ta tb tc:Addr)(ra rb rc:List Addr),vs=[.int k,.ref pm,.int mI]/\mI =(many:Int)/\kaa k/\kat H A B C pm ta tb tc ra rb rc/\(La.OkM k n A/\A.length=n)/\(La.OkM k h B/\B.length=n)/\(La.OkM k n C/\C.length=s)/\1<=n/\n<=10/\1<=h/\h<=10/\s<=10/\many<=20/\(∀ r∈A,∀ x∈r,szk k zA x)/\(∀ r∈C,∀ x∈r,szk k zC x)/\(∀ t,t<=many->∀ r∈blkT k h A B t,∀ x∈r,szk k zB x)/\zA+zB<=5000000/\zC+zB<=5000000 /\
 ∀(ts:List Addr)(p:Addr)(H':Hp),Same H H'->H' p=some (.lst (ts.map V.ref))->ts.length=many->(∀ t,t<many->∃ a rs,ts[t]?=some a/\kag H' (kai k h C (blkT k h A B t)) a rs)->Q (.ref p) H'
theorem JA{k:Int}(hk:kaa k){n h:Nat}{A B:Tb}(oA:La.OkM k n A)(lA:A.length=n)(oB:La.OkM k h B)(lB:B.length=n):∀ t,La.OkM k h (blkT k h A B t)/\(blkT k h A B t).length=n
 | 0=>⟨oB,lB⟩
 | t+1=>by
  have ih:=JA hk oA lA oB lB t;have o:=La.ZY hk (c:=h) oA ih.1;exact⟨o.2,o.1.trans lA⟩
theorem zcN (D:Df K mg "_law_marks" qf xV) (qv:Kn P w K mg base "_law_product" 44 SO YO) (zH:mg "range" = none):Kn P w K mg base "_law_marks" 45 qf Xi:=by
 refine D.kn sX (fun vs H Q E h=>?_) (fun f cdv A' outer s' H vs Q E hr h=>?_)
 ·obtain⟨k,A,B,C,n,h,s,many,zA,zB,zC,mI,pm,ta,tb,tc,ra,rb,rc,rfl,_⟩:=h;rfl
 obtain⟨k,A,B,C,n,h,s,many,zA,zB,zC,mI,pm,ta,tb,tc,ra,rb,rc,rfl,rfl,hk,hM,⟨oA,lA⟩,⟨oB,lB⟩,⟨oC,lC⟩,n1,n10,h1,h10,s10,m20,sA,sC,sB,ab,cb,q⟩:=h;have szl:=Qa
 have ok:=JA hk oA lA oB lB;refine⟨_,(zc (zo (i:=3) sX.nd rfl (.inl rfl) (yq zd)) (zc (zo (i:=4) sX.nd rfl (.inl rfl) (zt zE (pv 1) ze)) (zc (yt PassesOwn.never rfl (zR rfl zH (za (pv 2) zd)) (zI (i:=5) sX.nd rfl (.inl rfl)) (zc (yS (bm0 (fun _ h=>qX PySem.F.plainAttrs_list PySem.F.slot_list_append PySem.F.type_list_append yF h (za (zF qv hr (za (pv 0) (za (zt zE (pv 1) ze) (za (pv 4) zd)))) zd)) (pv 3))) (zh (zo (i:=4) sX.nd rfl (.inl rfl) (zF qv hr (za (pv 0) (za (zt zE (pv 1) ze) (za (pv 4) zd)))))))) (zh (zq (pv 3)))))),?_⟩;refine⟨(by show 0<=sizeLine;decide),fun pt hpt=>?_⟩;have g0:=zg hpt (.lst []);have h0:upd H pt (.lst []) pt=some (.lst []):=zf;have nb:tb≠pt:=fun e=>by rw[← e,hM.b.1]at hpt;cases hpt
 have mb:=Yy hM.b hpt;generalize upd H pt (.lst [])=H0 at *;have hM0:=hM.mono g0;refine⟨_,rfl,pm,_,_,.ref tb,rfl,rfl,SqT.of hM0.tup,rfl,?_⟩;refine⟨_,rfl,many,rfl,(by omega),(by omega),?_⟩;rw[wR];refine yp (lo:=0) (n:=many) (fun i σ H'=>∃(ts:List Addr)(pth:Addr)(rth:List Addr)(o5:Option V),σ=[some (.int k),some (.ref pm),some (.int (many:Int)),some (.ref pt),some (.ref pth),o5]/\Same H H'/\H' pt=some (.lst (ts.map V.ref))/\ts.length=i/\(∀ t,t<i->∃ a rs,ts[t]?=some a/\kag H' (kai k h C (blkT k h A B t)) a rs/\a≠pt/\pt∉rs)/\kag H' (blkT k h A B i) pth rth/\pth≠pt/\pt∉rth) ⟨[],tb,rb,none,rfl,g0,h0,rfl,(fun _ h=>absurd h (vx _)),hM0.b,nb,mb⟩ ?_ ?_
 ·rintro i σ H1 hi ⟨ts,pth,rth,o5,rfl,g1,hp1,lts,tabs,hth,nth,mth⟩
  have hM1:=hM.mono g1;refine⟨_,rfl,.inl ⟨rfl,_,SqL.of hp1⟩,_,rfl,_,rfl,pm,_,_,.ref tc,rfl,rfl,SqT.of hM1.tup,rfl,_,rfl,k,C,blkT k h A B i,n,h,zC,zB,tc,pth,rc,rth,rfl,hk,hM1.c,hth,oC,(ok i).1,(ok i).2,sC,sB i (by omega),cb,n1,n10,h1,h10,by omega,fun t1 r1 H2 g2 N1=>?_⟩;have hp2:=g2 _ _ hp1;have n1':t1≠pt:=fun e=>by have:=N1.ft;rw[e,hp1]at this;cases this
  have m1':pt∉r1:=fun h=>by have:=N1.fr pt h;rw[hp1]at this;cases this
  refine⟨pt,_,_,rfl,rfl,hp2,(by rw[wa];omega),?_⟩;have hpt3:upd H2 pt (.lst (ts.map V.ref++[.ref t1])) pt=some (.lst ((ts++[t1]).map V.ref)):=by rw[zf,wu];rfl
  have g13:Same H (upd H2 pt (.lst (ts.map V.ref++[.ref t1]))):=yJ (g1.trans g2) hpt;have hth3:=(hth.mono g2).upd (zs':=ts.map V.ref++[.ref t1]) nth mth hp2;have tabs3:∀ t,t<i+1->∃ a rs,(ts++[t1])[t]?=some a/\kag (upd H2 pt (.lst (ts.map V.ref++[.ref t1]))) (kai k h C (blkT k h A B t)) a rs/\a≠pt/\pt∉rs:=fun t ht=>by
   rcases vo (vz ht)with h'|h'
   ·obtain⟨a,rs,e,T,na,ma⟩:=tabs t h';exact⟨a,rs,by rw[wO (by omega)];exact e,(T.mono g2).upd na ma hp2,na,ma⟩
   ·subst h';exact⟨t1,r1,by rw[← lts,wJ (ww _),vQ];rfl,N1.tab.upd n1' m1' hp2,n1',m1'⟩
  generalize upd H2 pt (.lst (ts.map V.ref++[.ref t1]))=H3 at *;have hM3:=hM.mono g13;refine⟨_,rfl,_,rfl,pm,_,_,.ref ta,rfl,rfl,SqT.of hM3.tup,rfl,_,rfl,k,A,blkT k h A B i,n,h,zA,zB,ta,pth,ra,rth,rfl,hk,hM3.a,hth3,oA,(ok i).1,(ok i).2,sA,sB i (by omega),ab,n1,n10,h1,h10,by omega,fun t2 r2 H4 g4 N2=>?_⟩;have n2':t2≠pt:=fun e=>by have:=N2.ft;rw[e,hpt3]at this;cases this
  have m2':pt∉r2:=fun h=>by have:=N2.fr pt h;rw[hpt3]at this;cases this
  exact⟨ts++[t1],t2,r2,_,rfl,g13.trans g4,g4 _ _ hpt3,by rw[wy];show ts.length+1=i+1;omega,fun t ht=>by
   obtain⟨a,rs,e,T,na,ma⟩:=tabs3 t ht;exact⟨a,rs,e,T.mono g4,na,ma⟩,N2.tab,n2',m2'⟩
 ·rintro σ H1 ⟨ts,pth,rth,o5,rfl,g1,hp1,lts,tabs,hth,nth,mth⟩
  exact⟨_,rfl,q ts pt H1 g1 hp1 lts fun t ht=>by
   obtain⟨a,rs,e,T,_,_⟩:=tabs t ht;exact⟨a,rs,e,T⟩⟩
def XX:Sp:=fun vs H Q _=>∃(k:Int)(A B C:Tb)(n h s:Nat)(hI sI:Int)(pm ta tb tc:Addr)(ra rb rc:List Addr),vs=[.int k,.ref pm,.int hI,.int sI]/\hI =(h:Int)/\sI =(s:Int)/\kaa k/\kat H A B C pm ta tb tc ra rb rc/\(La.OkM k n A/\A.length=n)/\(La.OkM k h B/\B.length=n)/\(La.OkM k n C/\C.length=s)/\1<=n/\n<=10/\s<=10/\∀ H',Same H H'->Q (.bl true) H'
theorem zcq (D:Df K mg "_law_is_machine" qm yH) (ja:Kn P w K mg base "_law_is_rows" 4 SY XU) (zK:mg "isinstance" = none) (yY:mg "list" = none) (jA:mg "tuple" = none) (m_len:mg "len" = none):Kn P w K mg base "_law_is_machine" 5 qm XX:=by
 refine D.kn so (fun vs H Q E h=>?_) (fun f cdv A' outer s' H vs Q E hr h=>?_)
 ·obtain⟨k,A,B,C,n,h,s,hI,sI,pm,ta,tb,tc,ra,rb,rc,rfl,_⟩:=h;rfl
 obtain⟨k,A,B,C,n,h,s,hI,sI,pm,ta,tb,tc,ra,rb,rc,rfl,rfl,rfl,hk,hM,⟨oA,lA⟩,⟨oB,lB⟩,⟨oC,lC⟩,n1,n10,s10,q⟩:=h;have szl:=Qa
 have la:=zj hM.a.2;rw[lA]at la;refine⟨_,(zc (yb (PW.pt (pw_or (xB (yT (zp (yX (K:=K) rfl) rfl zK ya (za (pv 1) (za (JV rfl jA JF) zd))))) (pw_or (zu ZO (zp zx rfl m_len zU (za (pv 1) zd)) ze (kae _)) (pw_or (xB (yT (zp (yX (K:=K) rfl) rfl zK ya (za (zt zE (pv 1) ze) (za (JV rfl yY qA) zd))))) (pw_or1 (zu xb (zp zx rfl m_len zU (za (zt zE (pv 1) ze) zd)) ze (kae _))))))) (zh (zq ZN)) zJ) (zc (zo (i:=4) so.nd rfl (.inl rfl) (zp zx rfl m_len zU (za (zt zE (pv 1) ze) zd))) (zc (yb (PW.pt (pw_or (xB (yT (zF ja hr (za (pv 0) (za (zt zE (pv 1) ze) (za (pv 4) (za (pv 4) zd))))))) (pw_or1 (xB (yT (zF ja hr (za (pv 0) (za (zt zE (pv 1) ze) (za (pv 4) (za (pv 2) zd)))))))))) (zh (zq ZN)) zJ) (zh (zq (zF ja hr (za (pv 0) (za (zt zE (pv 1) ze) (za (pv 3) (za (pv 4) zd)))))))))),?_⟩;refine⟨_,rfl,_,_,_,_,rfl,TyOf.tup hM.tup,zeL K,_,rfl,iteF ?_⟩;refine⟨_,rfl,pm,_,rfl,.inr (SqT.of hM.tup),rfl,_,rfl,iteF ?_⟩;refine⟨_,rfl,pm,_,_,.ref ta,rfl,rfl,SqT.of hM.tup,rfl,_,_,_,_,rfl,TyOf.lst hM.a.1,zbr K,_,rfl,iteF ?_⟩;refine⟨_,rfl,pm,_,_,.ref ta,rfl,rfl,SqT.of hM.tup,rfl,ta,_,rfl,.inl (SqL.of hM.a.1),rfl,_,rfl,?_⟩;rw[wa,← la,decide_eq_false (fun z=>by have:=V.int.inj z;omega)];refine iteF ?_;refine⟨_,rfl,pm,_,_,.ref ta,rfl,rfl,SqT.of hM.tup,rfl,ta,_,rfl,.inl (SqL.of hM.a.1),?_⟩;rw[wa,← la];refine⟨_,rfl,_,rfl,pm,_,_,.ref ta,rfl,rfl,SqT.of hM.tup,rfl,_,rfl,_,rfl,k,A,ta,ra,_,_,rfl,hk,hM.a,(by rw[lA]),(fun r hr=>⟨by rw[(oA r hr).1],(oA r hr).2⟩),(by omega),fun H1 g1=>⟨_,rfl,iteF ?_⟩⟩;have hM1:=hM.mono g1;refine⟨_,rfl,_,rfl,pm,_,_,.ref tb,rfl,rfl,SqT.of hM1.tup,rfl,_,rfl,_,rfl,k,B,tb,rb,_,_,rfl,hk,hM1.b,(by rw[lB]),(fun r hr=>⟨by rw[(oB r hr).1],(oB r hr).2⟩),(by omega),fun H2 g2=>⟨_,rfl,iteF ?_⟩⟩;have hM2:=hM1.mono g2;exact⟨_,rfl,_,rfl,pm,_,_,.ref tc,rfl,rfl,SqT.of hM2.tup,rfl,_,rfl,_,rfl,k,C,tc,rc,_,_,rfl,hk,hM2.c,(by rw[lC]),(fun r hr=>⟨by rw[(oC r hr).1],(oC r hr).2⟩),(by omega),fun H3 g3=>q H3 ((g1.trans g2).trans g3)⟩
def XM:Sp:=fun vs H Q _=>∃(k:Int)(Ms:Nat->Tb)(N a b q m:Nat)(aI bI:Int)(ps:Addr)(ts:List Addr),vs=[.ref ps,.int aI,.int bI]/\aI =(a:Int)/\bI =(b:Int)/\TsAt H k Ms N q m ps ts/\1<=N/\a+b<=N+1/\1<=a/\a<=10/\1<=b/\b<=10/\m<=10/\q<=10 /\
 ∀ p rs H',Same H H'->kag H' (sqT Ms b q a) p rs->Q (.ref p) H'
theorem zbY (D:Df K mg "_law_square" qG xw) (zH:mg "range" = none) (m_len:mg "len" = none):Kn P w K mg base "_law_square" 1 qG XM:=by
 refine D.kn sP (fun vs H Q E h=>?_) (fun f cdv A' outer s' H vs Q E hr h=>?_)
 ·obtain⟨k,Ms,N,a,b,s,h,aI,bI,ps,ts,rfl,_⟩:=h;rfl
 obtain⟨k,Ms,N,a,b,s,h,aI,bI,ps,ts,rfl,rfl,rfl,hT0,N1,abN,a1,a10,b1,b10,h10,s10,q⟩:=h;have szl:=Qa
 have hps:=hT0.lst;have tabs:=hT0.tab;have oM:=hT0.ok;refine⟨_,(zc (zo (i:=3) sP.nd rfl (.inl rfl) (yq zd)) (zc (yt PassesOwn.never rfl (zR rfl zH (za (pv 1) zd)) (zI (i:=4) sP.nd rfl (.inl rfl)) (zh (yt PassesOwn.never rfl (zR rfl zH (za (zp zx rfl m_len zU (za (zt zi (pv 0) ze) zd)) zd)) (zI (i:=5) sP.nd rfl (.inl rfl)) (zc (zo (i:=6) sP.nd rfl (.inl rfl) (yq zd)) (zc (yt PassesOwn.never rfl (zR rfl zH (za (pv 2) zd)) (zI (i:=7) sP.nd rfl (.inl rfl)) (zh (zo (i:=6) sP.nd rfl (.inl rfl) (zm Qn (pv 6) (zt zi (zt zi (pv 0) (zm yi (pv 4) (pv 7))) (pv 5)))))) (zh (yS (bm0 (fun _ h=>qX PySem.F.plainAttrs_list PySem.F.slot_list_append PySem.F.type_list_append yF h (za (pv 6) zd)) (pv 3))))))))) (zh (zq (pv 3))))),?_⟩;refine⟨(by show 0<=sizeLine;decide),fun pt hpt=>?_⟩;have g0:=zg hpt (.lst []);have h0:upd H pt (.lst []) pt=some (.lst []):=zf;generalize upd H pt (.lst [])=H0 at *;refine⟨_,rfl,a,rfl,(by omega),(by omega),?_⟩;rw[wR];refine yp (lo:=0) (n:=a) (fun i σ H'=>∃(rs:List Addr)(o4 o5 o6 o7:Option V),σ=[some (.ref ps),some (.int (a:Int)),some (.int (b:Int)),some (.ref pt),o4,o5,o6,o7]/\Same H H'/\kag H' (sqT Ms b s i) pt rs/\pt∉rs) ⟨[],none,none,none,none,rfl,g0,⟨h0,.nil⟩,fun h=>nomatch h⟩ ?_ ?_
 ·rintro i σ H1 hi ⟨rs,o4,o5,o6,o7,rfl,g1,hT,nT⟩
  obtain⟨a0,ra0,ea0,T0⟩:=tabs 0 (by omega);have l0:=zj T0.2;rw[(oM 0 (by omega)).2]at l0;refine⟨_,rfl,ps,_,_,.ref a0,rfl,rfl,SqL.of (g1 _ _ hps),zD (j:=0) (by rw[we,ea0];rfl),a0,_,rfl,.inl (SqL.of (g1 _ _ T0.1)),s,(by rw[wa,← l0]),(by omega),(by omega),?_⟩;rw[wR];refine yp (lo:=0) (n:=s) (fun q σ H'=>∃(rs:List Addr)(o5 o6 o7:Option V),σ=[some (.ref ps),some (.int (a:Int)),some (.int (b:Int)),some (.ref pt),some (.int (0 +(i:Int))),o5,o6,o7]/\Same H H'/\kag H' (sqT Ms b s i++sqI Ms b i q) pt rs/\pt∉rs) ⟨rs,_,_,_,rfl,g1,(by show kag H1 (sqT Ms b s i++[]) pt rs;rw[ue];exact hT),nT⟩ ?_ ?_
  ·clear hT nT
   rintro q' σ H2 hq ⟨rs,o5,o6,o7,rfl,g2,hT,nT⟩
   refine⟨(by show 0<=sizeLine;decide),fun pr hpr=>?_⟩;have g3:=zg hpr (.lst []);have h3:upd H2 pr (.lst []) pr=some (.lst []):=zf;have nrt:pr≠pt:=fun e=>by rw[e,hT.1]at hpr;cases hpr
   have T3:=hT.mono g3;have g23:=g2.trans g3;generalize upd H2 pr (.lst [])=H3 at *;refine⟨_,rfl,b,rfl,(by omega),(by omega),?_⟩;rw[wR];refine yp (lo:=0) (n:=b) (fun j σ H'=>∃(pr:Addr)(o7:Option V),σ=[some (.ref ps),some (.int (a:Int)),some (.int (b:Int)),some (.ref pt),some (.int (0 +(i:Int))),some (.int (0 +(q':Int))),some (.ref pr),o7]/\Same H H'/\kag H' (sqT Ms b s i++sqI Ms b i q') pt rs/\kak H' (sqR Ms i q' j) pr/\pr≠pt) ⟨pr,_,rfl,g23,T3,⟨[],h3,.nil⟩,nrt⟩ ?_ ?_
   ·clear h3 nrt T3 g23 g3 hpr
    rintro j σ H4 hj ⟨pr,o7,rfl,g4,hT4,hR,nrt⟩
    obtain⟨a1,ra1,ea1,T1⟩:=tabs (i+j) (by omega);have T4:=T1.mono g4;obtain⟨eq,lq,oq⟩:=Yv oM (t:=i+j) (by omega) hq;obtain⟨b1,eb1,rb1⟩:=yl T4.2 eq;obtain⟨us,hus,pus,lus⟩:=hR.len;obtain⟨vs1,hvs,pvs,lvs⟩:=rb1.len;have lR:=(qL oM (i:=i) hq j (by omega)).1;have jh:j*h<=10*10:=vm (by omega) h10;have ej:(0:Int) +(i:Int) +(0 +(j:Int)) =((i+j:Nat):Int):=by omega
    refine⟨_,rfl,_,rfl,_,rfl,_,rfl,_,_,rfl,rfl,ps,_,_,.ref a1,rfl,rfl,SqL.of (g4 _ _ hps),(by rw[ej];exact zD (by rw[we,ea1];rfl)),_,rfl,a1,_,_,.ref b1,rfl,rfl,SqL.of T4.1,(by rw[vF];exact zD (by rw[we,eb1];rfl)),pr,b1,_,_,rfl,rfl,hus,hvs,(by rw[lus,lvs,lR,lq];omega),fun p5 hp5=>?_⟩;have g5:=zg hp5 (.lst (us++vs1));have n5:p5≠pt:=fun e=>by rw[e,hT4.1]at hp5;cases hp5
    exact⟨p5,_,rfl,g4.trans g5,hT4.mono g5,⟨us++vs1,zf,XL (jj g5 pus) (jj g5 pvs)⟩,n5⟩
   ·rintro σ H4 ⟨pr,o7,rfl,g4,hT4,hR,nrt⟩
    have lrs:=zj hT4.2;rw[wy,Qe,yv]at lrs;have is:i*s<=10*10:=vm (by omega) s10;refine⟨_,rfl,.inl ⟨rfl,_,SqL.of hT4.1⟩,_,rfl,pt,_,_,rfl,rfl,hT4.1,(by rw[wa];omega),?_⟩;refine⟨rs++[pr],_,_,_,rfl,yJ g4 hpt,⟨by rw[zf,wu];rfl,?_⟩,fun h=>?_⟩
    ·show Paired _ (sqT Ms b s i ++(sqI Ms b i q'++[sqR Ms i q' b])) _;rw[← wag];exact zZ (YF (zj hT4.2) fun u x b h1 h2=>(jL hT4.2 h1 h2).upd (fun e=>nT (by rw[← e];exact wd h2)) hT4.1) (hR.upd nrt hT4.1)
    ·rcases wt.mp h with h|h
     ·exact nT h
     ·exact nrt (wm.mp h).symm
  ·rintro σ H2 ⟨rs,o5,o6,o7,rfl,g2,hT,nT⟩
   exact⟨rs,_,_,_,_,rfl,g2,hT,nT⟩
 ·rintro σ H1 ⟨rs,o4,o5,o6,o7,rfl,g1,hT,nT⟩
  exact⟨_,rfl,q pt rs H1 g1 hT⟩
theorem zbz{k:Int}{h q l t:Nat}{A B C:Tb}(hq:q<C.length)(hl:l<h):((kai k h C (blkT k h A B t)).getD q [])[l]?=some (La.ndot k (C.getD q []) (powX k A ((kac h B).getD l []) t)):=by
 have e1:(kai k h C (blkT k h A B t)).getD q [] =(kac h (blkT k h A B t)).map fun c=>La.ndot k (C.getD q []) c:=by
  unfold kai;rw[wc,we,wc,wb hq];rfl
 rw[e1,zbN t,vO,we,getT B hl];rfl
def Outc (k:Int) (Ms:Nat->Tb) (h q m:Nat) (H':Hp) (p:Addr):Prop:=(H' p=some (.tup [.str "nought"])/\Zer k Ms (h+h))\/(H' p=some (.tup [.str "none"])/\¬ Zer k Ms (h+h)/\∀(F:Type) [Lean.Grind.Field F] (φ:La.Kf k F) (r:Nat),1<=r->r<=h->¬ RkM φ Ms h q m r)\/∃ r A B C ta tb tc ra rb rc,H' p=some (.tup [.str "machine",.ref ta,.ref tb,.ref tc])/\(kag H' A ta ra/\kag H' B tb rb/\kag H' C tc rc)/\MachL k Ms h q m r A B C
theorem Outc.mono{k:Int}{Ms:Nat->Tb}{h q m:Nat}{H H':Hp}{p:Addr}(o:Outc k Ms h q m H p)(g:Same H H'):Outc k Ms h q m H' p:=by
 rcases o with⟨e,z⟩|⟨e,z⟩|⟨r,A,B,C,ta,tb,tc,ra,rb,rc,e,⟨a,b,c⟩,z⟩
 ·exact .inl ⟨g _ _ e,z⟩
 ·exact .inr (.inl ⟨g _ _ e,z⟩)
 ·exact .inr (.inr ⟨r,A,B,C,ta,tb,tc,ra,rb,rc,g _ _ e,⟨a.mono g,b.mono g,c.mono g⟩,z⟩)
theorem Outc.tup{k:Int}{Ms:Nat->Tb}{h q m:Nat}{H:Hp}{p:Addr}(o:Outc k Ms h q m H p):∃ ys,H p=some (.tup ys):=by
 rcases o with⟨e,z⟩|⟨e,z⟩|⟨r,A,B,C,ta,tb,tc,ra,rb,rc,e,_⟩ <;> exact⟨_,e⟩
def za7:Sp:=fun vs H Q _=>∃(k:Int)(Ms:Nat->Tb)(h q m:Nat)(pm:Addr)(ts:List Addr),vs=[.int k,.ref pm]/\kaa k/\TsAt H k Ms (h+h) q m pm ts/\(1<=h/\h<=4/\1<=q/\q<=2/\1<=m/\m<=2)/\(∀ t,t<h+h->∀ r∈Ms t,∀ x∈r,whk k 190 x) /\
 ∀ p H',Same H H'->Outc k Ms h q m H' p->Q (.ref p) H'
theorem zcs (d:Kn P w K mg base "read_off" 49 SJ XZ):Kn P w K mg base "read_off" 49 SJ za7:=zeA d fun vs H Q E h=>by
 obtain⟨k,Ms,h,q',m,pm,ts,rfl,hk,hT,b,w,q⟩:=h;exact⟨k,Ms,h,q',m,pm,ts,rfl,hk,hT,b,w,fun p H' g e z=>q p H' g (.inl ⟨e,z⟩),fun p H' g e z n=>q p H' g (.inr (.inl ⟨e,z,n⟩)),fun r A B C p ta tb tc ra rb rc H' g e T z=>q p H' g (.inr (.inr ⟨r,A,B,C,ta,tb,tc,ra,rb,rc,e,T,z⟩))⟩
theorem zbJ{H:Hp}(s:Str):Rp H (.str s) (.str s):=by simp only[Rp]
def wordD(s:Str):PyData:=.tuple [.str s]
theorem Zu{H:Hp}{p:Addr}{s:Str}(h:H p=some (.tup [.str s])):Rp H (wordD s) (.ref p):=by
 show Rp H (.tuple [.str s]) _;simp only[Rp,Rps];exact⟨p,_,rfl,h,_,_,rfl,rfl,rfl⟩
theorem za8(a b c d:V):cutV [a,b,c,d] (some 1) none=[b,c,d]:=rfl
theorem zhX(a b c d:V):¬(HT.sIx [a,b,c,d].length 0 (some 1)=0/\HT.sIx [a,b,c,d].length [a,b,c,d].length none=[a,b,c,d].length):=fun z=>absurd z.1 (show ¬ HT.sIx 4 0 (some 1)=0 by decide)
theorem bd8{c:Nat}(h:c<=8):bdR 190 c<=24000000:=wD (zbB 190 h) (by decide)
def Qf:Sp:=fun vs H Q _=>∃(k:Int)(Ms:Nat->Tb)(h q m:Nat)(ps:Addr)(ts:List Addr)(sure:Bool),vs=[.int k,.ref ps,.bl sure]/\KindS k/\TsAt H k Ms (h+h) q m ps ts/\(1<=h/\h<=4/\1<=q/\q<=2/\1<=m/\m<=2)/\(∀ t,t<h+h->∀ r∈Ms t,∀ x∈r,whk k 190 x) /\
 (sure=true->∃(n:Nat)(A B C:Tb),1<=n/\n<=h/\(La.OkM k n A/\A.length=n)/\(La.OkM k m B/\B.length=n)/\(La.OkM k n C/\C.length=q)/\∀(F:Type) [Lean.Grind.Field F] (φ:La.Kf k F) (t s l:Nat),t<h+h->s<q->l<m->La.nv φ ((Ms t).getD s []) l=La.dot n (La.nv φ (C.getD s [])) (La.nv φ (powX k A ((kac m B).getD l []) t))) /\
 ∀ H',Same H H'->Q (.bl true) H'
theorem zcZ (hP:P.given.tree=none) (hS:base.NoSeer) (D:Df K mg "_law_right" qH xN) (zcx:Kn P w K mg base "read_off" 49 SJ za7) (Xx:Kn P w K mg base "_law_reduced" 44 qe YJ) (Jb:Kn P w K mg base "_law_square" 1 qG XM) (Zx:Kn P w K mg base "_law_is_machine" 5 qm XX) (jU:Kn P w K mg base "_law_marks" 45 qf Xi) (m_len:mg "len" = none) (zK:mg "isinstance" = none) (yY:mg "list" = none) (jA:mg "tuple" = none):Kn P w K mg base "_law_right" 50 qH Qf:=by
 refine D.kn sV (fun vs H Q E h=>?_) (fun f cdv A' outer s' H vs Q E hr h=>?_)
 ·obtain⟨k,Ms,h,q',m,ps,ts,sure,rfl,_⟩:=h;rfl
 obtain⟨k,Ms,h,q',m,ps,ts,sure,rfl,hs,hT,⟨h1,h4,q1,q2,m1,m2⟩,wM,hsure,q⟩:=h;have hk:=hs.ok;have szl:=Qa
 have ll:=hT.len;have oM:=hT.ok;refine⟨_,(zc (zo (i:=3) sV.nd rfl (.inl rfl) (zm (zQ hr (by decide) hP hS ⟨_,_,rfl,rfl,rfl,rfl,rfl⟩) (zp zx rfl m_len zU (za (pv 1) zd)) ze)) (zc (ZK 4 sV.nd [] [] (zw (pv 1)) fun _ _ _ _ _ _=>⟨zM,(yM [] [] (zw (pv 0)) fun _ _ _ _ _ _=>⟨zM,(Za ZB rfl yY qA (za (pv 0) zd))⟩)⟩) (zc (zo (i:=5) sV.nd rfl (.inl rfl) (zF zcx hr (za (pv 0) (za (pv 4) zd)))) (zc (yb (PW.pt (pw_or (zu (zbe hr) (pv 4) (pv 1) (kae _)) (pw_or1 (xB (yT (zp (yX (K:=K) rfl) rfl zK ya (za (pv 5) (za (JV rfl jA JF) zd)))))))) (zh (zq ZN)) zJ) (zc (zo (i:=6) sV.nd rfl (.inl rfl) (yq zd)) (zc (yt PassesOwn.never rfl (zw (yq (za (yy (za (pv 3) (za (pv 3) zd))) (za (yy (za (zm yi (pv 3) ze) (za (pv 3) zd))) (za (yy (za (pv 3) (za (zm yi (pv 3) ze) zd))) zd))))) (jv 2 rfl (zT (zI (i:=7) sV.nd rfl (.inl rfl)) (zT (zI (i:=8) sV.nd rfl (.inl rfl)) xF))) (zh (yS (bm0 (fun _ h=>qX PySem.F.plainAttrs_list PySem.F.slot_list_append PySem.F.type_list_append yF h (za (zp zx rfl m_len zU (za (zF Xx hr (za (pv 0) (za (zF Jb hr (za (pv 1) (za (pv 7) (za (pv 8) zd)))) zd))) zd)) zd)) (pv 6))))) (zc (yb (PW.pt (pw_or (zu jJ (zt zi (pv 6) ze) (pv 3) (kae _)) (pw_or1 (zu (zbe hr) (pv 6) (yq (za (zt zi (pv 6) ze) (za (zt zi (pv 6) ze) (za (zt zi (pv 6) ze) zd)))) (kae _))))) (zh (zq (Yr (yE (Ym hr) (pv 5) (yy (za XJ zd)) (kae _)) (ZH (zf1 (pv 2)))))) zJ) (zc (yb (zu xb (zt zi (pv 6) ze) ze (kae _)) (zh (zq (yE (Ym hr) (pv 5) (yy (za XJ zd)) (kae _)))) zJ) (zc (yb (PW.pt (pw_or (zu ZO (zp zx rfl m_len zU (za (pv 5) zd)) ze (kae _)) (pw_or (zu (zbe hr) (zt zE (pv 5) ze) XJ (kae _)) (pw_or (xB (yT (zp (yX (K:=K) rfl) rfl zK ya (za (zt zE (pv 5) ze) (za (JV rfl yY qA) zd))))) (pw_or1 (zu ZO (zp zx rfl m_len zU (za (zt zE (pv 5) ze) zd)) (zt zi (pv 6) ze) (kae _))))))) (zh (zq ZN)) zJ) (zc (yb (xB (yT (zF Zx hr (za (pv 0) (za (xv zdn (pv 5) (xY ze) jO) (za (zp zx rfl m_len zU (za (zt zi (zt zi (pv 1) ze) ze) zd)) (za (zp zx rfl m_len zU (za (zt zi (pv 1) ze) zd)) zd))))))) (zh (zq ZN)) zJ) (zh (zq (yE (Ym hr) (zF jU hr (za (pv 0) (za (xv zdn (pv 5) (xY ze) jO) (za (zp zx rfl m_len zU (za (pv 1) zd)) zd)))) (pv 1) (kae _)))))))))))))),?_⟩;refine⟨_,rfl,ps,_,rfl,.inl (SqL.of hT.lst),_,_,rfl,rfl,by decide,?_⟩;rw[wa,hT.len,half2];refine⟨_,rfl,ps,rfl,⟨_,SqL.of hT.lst⟩,?_⟩;refine zO (xs:=ts.map V.ref) (fun i ys H'=>∃ as:List Addr,ys=as.map V.ref/\as.length=i/\Same H H'/\∀ j,j<i->∃ a rs,as[j]?=some a/\kag H' (Ms j) a rs) ⟨[],rfl,rfl,Same.refl _,fun _ h=>absurd h (vx _)⟩ ?_ ?_ ?_
 ·rintro i ys H' hi ⟨as,rfl,la,g,_⟩
  rw[wa,ll]at hi;exact⟨SqL.of (g _ _ hT.lst),by rw[wa];omega⟩
 ·rintro i v ys H' hv hi ⟨as,rfl,la,g,tabs⟩
  have hi':=hi;rw[wa,ll]at hi';obtain⟨a,rs,ea,T⟩:=(hT.mono g).tab i hi';have ev:v=.ref a:=by
   rw[we,ea]at hv;exact(Option.some.inj hv).symm
  subst ev;have o:=oM i hi'
  first|refine gyes ?_|refine tyes ?_
  refine⟨_,rfl,a,rfl,⟨_,SqL.of T.1⟩,?_⟩;refine zau T (by rw[o.2];omega) (fun a us H2 Q2 ha hq=>⟨_,rfl,a,us,rfl,.inl (SqL.of ha),hq⟩) ?_;intro ras2 H2 G2 p hp;have N2:=G2.done hp;have g2:=G2.same.trans (zg hp (.lst (ras2.map V.ref)));refine nxt hi ⟨as++[p],by rw[wu];rfl,by rw[wy,la];rfl,g.trans g2,fun j hj=>?_⟩
  rcases vo (vz hj)with h'|h'
  ·obtain⟨a',rs',e',T'⟩:=tabs j h';exact⟨a',rs',by rw[wO (by omega)];exact e',T'.mono g2⟩
  ·subst h';exact⟨p,ras2,by rw[← la,wJ (ww _),vQ];rfl,N2.tab⟩
 rintro ys H1 ⟨as,rfl,la,g1,tabs⟩ pc hpc
 rw[wa,ll]at la tabs;have g2:=zg hpc (.lst (as.map V.ref));have hN:TsAt (upd H1 pc (.lst (as.map V.ref))) k Ms (h+h) q' m pc as:=⟨zf,la,(fun t ht=>by
  obtain⟨a,rs,e,T⟩:=tabs t ht;exact⟨a,rs,e,T.mono g2⟩),oM⟩
 have g02:=g1.trans g2;generalize upd H1 pc (.lst (as.map V.ref))=H2 at *;clear tabs hpc g1 g2;refine⟨_,rfl,_,rfl,k,Ms,h,q',m,pc,as,rfl,hk,hN,⟨h1,h4,q1,q2,m1,m2⟩,wM,fun p H3 g3 oc=>?_⟩;have hT3:=hT.mono (g02.trans g3);have hN3:=hN.mono g3;have g03:=g02.trans g3;clear g3 g02 hN;obtain⟨ys,hy⟩:=oc.tup;refine⟨_,rfl,_,rfl,tabsD ((vd (h+h)).map Ms),tabsD ((vd (h+h)).map Ms),Yz hN3.lst hN3.len hN3.tab,Yz hT3.lst hT3.len hT3.tab,jn _,jn _,wD (vI _ _) (wD (qE _) (by decide)),_,rfl,?_⟩;rw[XV];refine iteF ?_;refine⟨_,rfl,_,_,_,_,rfl,TyOf.tup hy,zeL K,_,rfl,iteF ?_⟩;obtain⟨F0,i0,d0,⟨φ0⟩⟩:=La.yQ hk;have rk:∀ a b,a+b<=h+h+1->∃ r,RkL φ0 Ms h q' m a b r:=fun a b ab=>zb9 hk (jK oM (a:=b) (b:=a) (by omega))
 obtain⟨r0,k0⟩:=rk h h (by omega);obtain⟨r1,k1⟩:=rk (h+1) h (by omega);obtain⟨r2,k2⟩:=rk h (h+1) (by omega);clear rk;refine⟨(by show 0<=sizeLine;decide),fun pr hpr=>?_⟩;have g4:=zg hpr (.lst []);have hpr4:upd H3 pr (.lst []) pr=some (.lst []):=zf;have fpr:H pr=none:=g03.none hpr;have npp:p≠pr:=fun e=>by rw[← e,hy]at hpr;cases hpr
 generalize upd H3 pr (.lst [])=H4 at *;refine⟨_,rfl,_,rfl,(by show 2<=sizeLine;decide),fun z1 hz1=>?_⟩;have g5:=zg hz1 (.tup [.int (h:Int),.int (h:Int)]);have e1:upd H4 z1 (.tup [.int (h:Int),.int (h:Int)]) z1=some (.tup [.int (h:Int),.int (h:Int)]):=zf;generalize upd H4 z1 (.tup [.int (h:Int),.int (h:Int)])=H5 at *;refine⟨_,rfl,_,_,rfl,rfl,_,rfl,(by show 2<=sizeLine;decide),fun z2 hz2=>?_⟩;have g6:=zg hz2 (.tup [.int ((h:Int)+1),.int (h:Int)]);have e2:upd H5 z2 (.tup [.int ((h:Int)+1),.int (h:Int)]) z2=some (.tup [.int ((h:Int)+1),.int (h:Int)]):=zf;generalize upd H5 z2 (.tup [.int ((h:Int)+1),.int (h:Int)])=H6 at *;refine⟨_,rfl,_,rfl,_,_,rfl,rfl,(by show 2<=sizeLine;decide),fun z3 hz3=>?_⟩;have g7:=zg hz3 (.tup [.int (h:Int),.int ((h:Int)+1)]);have e3:upd H6 z3 (.tup [.int (h:Int),.int ((h:Int)+1)]) z3=some (.tup [.int (h:Int),.int ((h:Int)+1)]):=zf;generalize upd H6 z3 (.tup [.int (h:Int),.int ((h:Int)+1)])=H7 at *;refine⟨(by show 3<=sizeLine;decide),fun pl hpl=>?_⟩;have g8:=zg hpl (.lst [.ref z1,.ref z2,.ref z3]);have e4:upd H7 pl (.lst [.ref z1,.ref z2,.ref z3]) pl=some (.lst [.ref z1,.ref z2,.ref z3]):=zf;generalize upd H7 pl (.lst [.ref z1,.ref z2,.ref z3])=H8 at *;have hpr7:=g7 _ _ (g6 _ _ (g5 _ _ hpr4));have npl:pl≠pr:=fun e=>by rw[e,hpr7]at hpl;cases hpl
 have nz1:z1≠pr:=fun e=>by rw[e,hpr4]at hz1;cases hz1
 have nz2:z2≠pr:=fun e=>by rw[e,g5 _ _ hpr4]at hz2;cases hz2
 have nz3:z3≠pr:=fun e=>by rw[e,g6 _ _ (g5 _ _ hpr4)]at hz3;cases hz3
 have f1:=g8 _ _ (g7 _ _ (g6 _ _ e1));have f2:=g8 _ _ (g7 _ _ e2);have f3:=g8 _ _ e3;have g38:=(((g4.trans g5).trans g6).trans g7).trans g8;have hpr8:=g8 _ _ hpr7;clear g5 g6 g7 g8 e1 e2 e3 hz1 hz2 hz3 hpl hpr4 hpr7 g4;refine⟨pl,rfl,⟨_,SqL.of e4⟩,?_⟩;refine yZ (xs:=[.ref z1,.ref z2,.ref z3]) (fun i σ H'=>∃(o7 o8:Option V),σ=[some (.int k),some (.ref ps),some (.bl sure),some (.int (h:Int)),some (.ref pc),some (.ref p),some (.ref pr),o7,o8]/\Same H H'/\(∀ a,H3 a≠none->H' a=H3 a)/\H' pr=some (.lst (([r0,r1,r2].take i).map fun(r:Nat)=>V.int (r:Int)))/\H' pl=some (.lst [.ref z1,.ref z2,.ref z3])/\H' z1=some (.tup [.int (h:Int),.int (h:Int)])/\H' z2=some (.tup [.int ((h:Int)+1),.int (h:Int)])/\H' z3=some (.tup [.int (h:Int),.int ((h:Int)+1)])) ⟨none,none,rfl,g03.trans g38,(fun a ha=>?_),hpr8,e4,f1,f2,f3⟩ ?_ ?_ ?_
 ·obtain⟨o,ho⟩:=Gb.mp ha;rw[ho];exact g38 _ _ ho
 ·rintro i σ H' _ ⟨o7,o8,rfl,g,gg,hr',hl,_⟩
  exact SqL.of hl
 ·rintro i v σ H9 hv ⟨o7,o8,rfl,g9,gg,hr9,hl9,w1,w2,w3⟩
  obtain⟨z,a,b,r,rfl,hz,ab,a1,a5,b1,b5,kr,er,sm,nzr⟩ : ∃(z:Addr)(a b r:Nat),v=.ref z/\H9 z=some (.tup [.int (a:Int),.int (b:Int)])/\a+b<=h+h+1/\1<=a/\a<=5/\1<=b/\b<=5/\RkL φ0 Ms h q' m a b r/\[r0,r1,r2][i]?=some r/\(a<=4\/b<=4)/\z≠pr:=by
   match i,hv with
   | 0,hv=>cases hv;exact⟨z1,h,h,r0,rfl,w1,by omega,by omega,by omega,by omega,by omega,k0,rfl,by omega,nz1⟩
   | 1,hv=>cases hv;exact⟨z2,h+1,h,r1,rfl,w2,by omega,by omega,by omega,by omega,by omega,k1,rfl,by omega,nz2⟩
   | 2,hv=>cases hv;exact⟨z3,h,h+1,r2,rfl,w3,by omega,by omega,by omega,by omega,by omega,k2,rfl,by omega,nz3⟩
  refine⟨z,_,rfl,SqT.of hz,rfl,_,_,rfl,_,_,rfl,rfl,?_⟩;have hT9:=hT.mono g9;have lt3:i<3:=(wp.mp hv).1;have bm:b*m<=10:=wD (vm b5 m2) (by decide);have aq:a*q'<=10:=wD (vm a5 q2) (by decide);have mn:min (b*m) (a*q')<=8:=by
   rcases sm with s|s
   ·exact wD (uW _ _) (wD (vm s q2) (by decide))
   ·exact wD (vI _ _) (wD (vm s m2) (by decide))
  refine⟨_,rfl,.inl ⟨rfl,_,SqL.of hr9⟩,_,rfl,_,rfl,_,rfl,_,rfl,k,Ms,h+h,a,b,q',m,_,_,ps,ts,rfl,rfl,rfl,hT9,by omega,ab,a1,by omega,b1,by omega,by omega,by omega,fun tq rq H10 g10 hq=>?_⟩;refine⟨k,b*m,190,_,tq,rq,rfl,hs,hq,jK oM (by omega),(fun x hx y hy=>(zaw oM (P:=fun y=>whk k 190 y) wM (by omega) x hx y hy).szk (by decide)),by omega,(fun _=>by rw[Qe];exact bd8 mn),(by rw[Qe];omega),fun Z lz tz rz H11 g11 hZ iZ eZ _=>?_⟩;have lrz:=zj hZ.2;have eZr:Z.length=r:=jB (φ:=φ0) ⟨Z,lz,iZ F0 φ0,eZ F0 φ0,rfl⟩ kr;have g911:=g10.trans g11;have hr11:=g911 _ _ hr9;refine⟨tz,_,rfl,.inl (SqL.of hZ.1),?_⟩;rw[wa,← lrz,eZr];have lr3:(([r0,r1,r2].take i).map fun(r:Nat)=>V.int (r:Int)).length<=3:=by rw[wa,wr];omega
  refine⟨pr,_,_,rfl,rfl,hr11,(by omega),?_⟩;have u1:∀ x,x≠pr->∀ o,H9 x=some o->upd H11 pr (.lst ((([r0,r1,r2].take i).map fun(r:Nat)=>V.int (r:Int))++[.int (r:Int)])) x=some o:=fun x hx o ho=>by rw[zN hx];exact g911 _ _ ho
  refine⟨_,_,rfl,yJ (g9.trans g911) fpr,(fun x hx=>?_),?_,u1 pl npl _ hl9,u1 z1 nz1 _ w1,u1 z2 nz2 _ w2,u1 z3 nz3 _ w3⟩
  ·have nx:x≠pr:=fun e=>hx (by rw[e];exact hpr)
   obtain⟨o,ho⟩:=Gb.mp hx;rw[ho];exact u1 x nx o (by rw[gg x hx];exact ho)
  ·rw[zf,zy er,wu];rfl
 rintro σ H9 ⟨o7,o8,rfl,g9,gg,hr9,hl9,_⟩
 have hr9':H9 pr=some (.lst ([(r0:Int),(r1:Int),(r2:Int)].map V.int)):=hr9;have g39:Same H3 H9:=fun a o ha=>by rw[gg a (by rw[ha];exact Option.some_ne_none _)];exact ha
 have hT9:=hT.mono g9;have oc9:=oc.mono g39;have hy9:=g39 _ _ hy;clear hr9 gg g38 hpr hpr8 e4 f1 f2 f3 hl9;refine⟨_,rfl,pr,_,_,.int (r0:Int),rfl,rfl,SqL.of hr9',rfl,_,rfl,_,_,rfl,rfl,_,rfl,?_⟩;have bad:(h<r0\/r1≠r0\/r2≠r0)->(H9 p=some (.tup [.str "none"]))/\sure=false:=fun c=>by
  refine⟨?_,?_⟩
  ·rcases oc9 with⟨e,z⟩|⟨e,z⟩|⟨r,A,B,C,ta,tb,tc,ra,rb,rc,e,_,M⟩
   ·exfalso
    have a0:=ZU hk oM q1 m1 z (by omega) k0;have a1:=ZU hk oM q1 m1 z (by omega) k1;have a2:=ZU hk oM q1 m1 z (by omega) k2;omega
   ·exact e
   ·exfalso
    obtain⟨c1,c2,_,_,_,_,M⟩:=M;obtain⟨K,_⟩:=M F0 φ0;have a0:=jB K.1 k0;have a1:=jB K.2.1 k1;have a2:=jB K.2.2 k2;omega
  ·cases hsu:sure with
   | false=>rfl
   | true =>
    exfalso
    obtain⟨n,A,B,C,n1,nh,oA,oB,oC,mk⟩:=hsure hsu;have:=zdQ hk oM q1 m1 n1 nh oA oB oC (mk F0 φ0) k0 k1 k2;omega
 have none9:(h<r0\/r1≠r0\/r2≠r0)->∀(pn:Addr)(H10:Hp),Same H9 H10->H10 pn=some (.tup [.str "none"])->Rp H10 (wordD "none") (.ref p)/\Rp H10 (wordD "none") (.ref pn):=fun c pn H10 g10 hn=>⟨Zu (g10 _ _ (bad c).1),Zu hn⟩
 refine ite2 (fun d=>?_) (fun d=>?_)
 ·have c:h<r0:=by have:=of_decide_eq_true d;omega
  refine iteT ?_;refine⟨_,rfl,(by show 1<=sizeLine;decide),fun pn hpn=>?_⟩;have g10:=zg hpn (.tup [.str "none"]);obtain⟨w1,w2⟩:=none9 (.inl c) pn _ g10 zf;refine⟨wordD "none",wordD "none",w1,w2,(by decide +kernel),(by decide +kernel),wD (uW _ _) (by decide),?_⟩;rw[show PyData.eqv (wordD "none") (wordD "none")=true by decide,(bad (.inl c)).2];refine⟨_,rfl,iteT ⟨_,rfl,_,rfl,q _ (g9.trans g10)⟩⟩
 have c0:r0<=h:=by
  rcases wK h r0 with z|z
  ·exact absurd (decide_eq_true (by omega)) d
  ·exact z
 refine⟨_,rfl,_,rfl,pr,_,_,.int (r0:Int),rfl,rfl,SqL.of hr9',rfl,_,rfl,pr,_,_,.int (r0:Int),rfl,rfl,SqL.of hr9',rfl,_,rfl,pr,_,_,.int (r0:Int),rfl,rfl,SqL.of hr9',rfl,(by show 3<=sizeLine;decide),fun pn hpn=>?_⟩;have g10:=zg hpn (.lst [.int (r0:Int),.int (r0:Int),.int (r0:Int)]);have h10:upd H9 pn (.lst [.int (r0:Int),.int (r0:Int),.int (r0:Int)]) pn=some (.lst ([(r0:Int),(r0:Int),(r0:Int)].map V.int)):=zf;have hr10:=g10 _ _ hr9';have hT10:=hT9.mono g10;have oc10:=oc9.mono g10;have g010:=g9.trans g10;have none10:(h<r0\/r1≠r0\/r2≠r0)->upd H9 pn (.lst [.int (r0:Int),.int (r0:Int),.int (r0:Int)]) p=some (.tup [.str "none"]):=fun c=>g10 _ _ (bad c).1
 generalize upd H9 pn (.lst [.int (r0:Int),.int (r0:Int),.int (r0:Int)])=H10 at *;refine⟨intsD [(r0:Int),(r1:Int),(r2:Int)],intsD [(r0:Int),(r0:Int),(r0:Int)],zcD hr10,zcD h10,QD _,QD _,wD (vI _ _) (wD (zaB _) (by decide)),_,rfl,?_⟩;rw[zfi]
 by_cases eq:r1=r0/\r2=r0
 rotate_left
 ·have ne:[(r0:Int),(r1:Int),(r2:Int)]≠[(r0:Int),(r0:Int),(r0:Int)]:=fun e=>eq (by
   simp at e;omega)
  rw[decide_eq_false ne];have c:h<r0\/r1≠r0\/r2≠r0:=by omega
  refine iteT ?_;refine⟨_,rfl,(by show 1<=sizeLine;decide),fun pn2 hpn2=>?_⟩;have g11:=zg hpn2 (.tup [.str "none"]);refine⟨wordD "none",wordD "none",Zu (g11 _ _ (none10 c)),Zu zf,(by decide +kernel),(by decide +kernel),wD (uW _ _) (by decide),?_⟩;rw[show PyData.eqv (wordD "none") (wordD "none")=true by decide,(bad c).2];refine⟨_,rfl,iteT ⟨_,rfl,_,rfl,q _ (g010.trans g11)⟩⟩
 obtain⟨q1e,q2e⟩:=eq;replace q1e:=q1e.symm;replace q2e:=q2e.symm;subst q1e;subst q2e;rw[decide_eq_true rfl];refine iteF ?_;clear none10 none9 bad;refine⟨_,rfl,pr,_,_,.int (r0:Int),rfl,rfl,SqL.of hr10,rfl,rfl,_,rfl,?_⟩;refine ite2 (fun d=>?_) (fun d=>?_)
 ·have z0:r0=0:=by have:=V.int.inj (of_decide_eq_true d);omega
  subst z0;have zer:Zer k Ms (h+h):=zfs hk oM q1 m1 h1 k1;have hno:H10 p=some (.tup [.str "nought"]):=by
   rcases oc10 with⟨e,z⟩|⟨e,z,_⟩|⟨r,A,B,C,ta,tb,tc,ra,rb,rc,e,_,M⟩
   ·exact e
   ·exact absurd zer z
   ·exfalso
    obtain⟨c1,c2,_,_,_,_,M⟩:=M;have:=jB (M F0 φ0).1.1 k0;omega
  refine⟨_,rfl,(by show 1<=sizeLine;decide),fun pn2 hpn2=>?_⟩;have g11:=zg hpn2 (.tup [.str "nought"]);refine⟨wordD "nought",wordD "nought",Zu (g11 _ _ hno),Zu zf,(by decide +kernel),(by decide +kernel),wD (uW _ _) (by decide),?_⟩;rw[show PyData.eqv (wordD "nought") (wordD "nought")=true by decide];exact q _ (g010.trans g11)
 have r1':1<=r0:=by
  rcases uI r0 with e|e
  ·exact absurd (decide_eq_true (by rw[e];rfl)) d
  ·exact e
 obtain⟨r,A,B,C,ta,tb,tc,ra,rb,rc,e,⟨TA,TB,TC⟩,M⟩ : ∃ r A B C ta tb tc ra rb rc,H10 p=some (.tup [.str "machine",.ref ta,.ref tb,.ref tc])/\(kag H10 A ta ra/\kag H10 B tb rb/\kag H10 C tc rc)/\MachL k Ms h q' m r A B C:=by
  rcases oc10 with⟨e,z⟩|⟨e,z,no⟩|M
  ·exfalso
   have:=ZU hk oM q1 m1 z (by omega) k0;omega
  ·exact absurd ⟨k0,k1,k2⟩ (no F0 φ0 r0 r1' c0)
  ·exact M
 obtain⟨c1,c2,oA,oB,oC,S,mk⟩:=M;have er:r=r0:=jB (mk F0 φ0).1.1 k0;subst er;clear oc10 d;have lra:=zj TA.2;rw[oA.2]at lra;refine⟨_,rfl,p,_,rfl,.inr (SqT.of e),rfl,_,rfl,iteF ?_⟩;refine⟨_,rfl,p,_,_,.str "machine",rfl,rfl,SqT.of e,rfl,.str "machine",.str "machine",zbJ _,zbJ _,(by decide +kernel),(by decide +kernel),wD (vI _ _) (by decide),_,rfl,?_⟩;rw[show PyData.eqv (.str "machine") (.str "machine")=true by decide];refine iteF ?_;refine⟨_,rfl,p,_,_,.ref ta,rfl,rfl,SqT.of e,rfl,_,_,_,_,rfl,TyOf.lst TA.1,zbr K,_,rfl,iteF ?_⟩;refine⟨_,rfl,p,_,_,.ref ta,rfl,rfl,SqT.of e,rfl,ta,_,rfl,.inl (SqL.of TA.1),_,rfl,pr,_,_,.int (r:Int),rfl,rfl,SqL.of hr10,rfl,rfl,_,rfl,?_⟩;rw[wa,← lra,decide_eq_true rfl];refine iteF ?_;obtain⟨a0,rs0,e0,T0⟩:=hT10.tab 0 (by omega);have l0:=zj T0.2;rw[(oM 0 (by omega)).2]at l0;obtain⟨ei,li,oi⟩:=Yv oM (t:=0) (q:=0) (by omega) (by omega);obtain⟨b0,eb0,rb0⟩:=yl T0.2 ei;obtain⟨us0,hu0,pu0,lu0⟩:=rb0.len;refine⟨_,rfl,_,rfl,_,rfl,p,_,rfl,SqT.of e,zhX _ _ _ _,fun pi hpi=>?_⟩;rw[za8];have g11:=zg hpi (.tup [.ref ta,.ref tb,.ref tc]);have MI:kat (upd H10 pi (.tup [.ref ta,.ref tb,.ref tc])) A B C pi ta tb tc ra rb rc:=⟨zf,TA.mono g11,TB.mono g11,TC.mono g11⟩;have hT11:=hT10.mono g11;have T011:=T0.mono g11;have hu11:=g11 _ _ hu0;have e11:=g11 _ _ e;have TA11:=TA.mono g11;generalize upd H10 pi (.tup [.ref ta,.ref tb,.ref tc])=H11 at *;refine⟨_,rfl,ps,_,_,.ref a0,rfl,rfl,SqL.of hT11.lst,zD (j:=0) (by rw[we,e0];rfl),a0,_,_,.ref b0,rfl,rfl,SqL.of T011.1,zD (j:=0) (by rw[we,eb0];rfl),b0,_,rfl,.inl (SqL.of hu11),_,rfl,ps,_,_,.ref a0,rfl,rfl,SqL.of hT11.lst,zD (j:=0) (by rw[we,e0];rfl),a0,_,rfl,.inl (SqL.of T011.1),k,A,B,C,r,m,q',_,_,pi,ta,tb,tc,ra,rb,rc,rfl,(by rw[lu0,li]),(by rw[wa,← l0]),hk,MI,oA,oB,oC,r1',by omega,by omega,fun H12 g12=>⟨_,rfl,iteF ?_⟩⟩;have e12:=g12 _ _ e11;have MI12:=MI.mono g12;have hT12:=hT11.mono g12;refine⟨_,rfl,_,rfl,_,rfl,p,_,rfl,SqT.of e12,zhX _ _ _ _,fun pj hpj=>?_⟩;rw[za8];have g13:=zg hpj (.tup [.ref ta,.ref tb,.ref tc]);have MJ:kat (upd H12 pj (.tup [.ref ta,.ref tb,.ref tc])) A B C pj ta tb tc ra rb rc:=⟨zf,MI12.a.mono g13,MI12.b.mono g13,MI12.c.mono g13⟩;have hT13:=hT12.mono g13;generalize upd H12 pj (.tup [.ref ta,.ref tb,.ref tc])=H13 at *;refine⟨_,rfl,ps,_,rfl,.inl (SqL.of hT13.lst),?_⟩;rw[wa,hT13.len];have r4:r<=4:=by omega
 have MO:=Xl hk oA oB oC S;have oBt:La.OkM k r (kac m B):=by have:=zL oB.1;rw[oB.2]at this;exact this
 have okb:=JA hk oA.1 oA.2 oB.1 oB.2;have sB:∀ t,t<=h+h->∀ x∈blkT k m A B t,∀ y∈x,szk k 120000 y:=fun t ht=>by
  have ob:=okb t;have cz:∀ x∈kac m (blkT k m A B t),∀ y∈x,szk k 120000 y:=fun x hx y hy=>by
   rw[zbN t]at hx;obtain⟨c,hc,rfl⟩:=wg.mp hx;have o:=oBt c hc;have op:=xD hk oA.1 oA.2 o.2 o.1 t;exact fun _=>Ze hk op.1 (zgn hk r4 oA.1 oA.2 S.a o.2 o.1 (S.b c hc) (by omega)) (by decide) y hy
  have tt:=XB (fun x hx=>(zL ob.1 x hx).1) cz;rw[yk ob.1]at tt;exact tt
 refine⟨k,A,B,C,r,m,q',h+h,120000,120000,120000,_,pj,ta,tb,tc,ra,rb,rc,rfl,rfl,hk,MJ,oA,oB,oC,r1',by omega,m1,by omega,by omega,by omega,(fun x hx y hy _=>MO.a.sz x hx y hy),(fun x hx y hy _=>MO.c.sz x hx y hy),sB,by decide,by decide,fun ts2 ps2 H14 g14 hps2 lts2 tabs2=>?_⟩;have meq:∀ t,t<h+h->kai k m C (blkT k m A B t)=Ms t:=fun t ht=>by
  have o1:=La.ZY hk (c:=m) oC.1 (okb t).1;have w1:(kai k m C (blkT k m A B t)).length=q':=o1.1.trans oC.2;have o2:=oM t ht;refine uE (w1.trans o2.2.symm) fun s a1 a2=>?_
  have hs':s<q':=by rw[← w1];exact a1
  have v1:=o1.2 _ (wj a1);have v2:=o2.1 _ (wj a2);refine La.zet φ0 v1.2 v2.2 (v1.1.trans v2.1.symm) fun l=>?_
  rcases wK l m with hl|hl
  ·have b1:=zbz (k:=k) (t:=t) (A:=A) (B:=B) (C:=C) (by rw[oC.2];exact hs') hl;rw[wc,wb a1]at b1;have b2:=(mk F0 φ0).2 t s l ht hs' hl;rw[wc,wb a2]at b2;have gC:C.getD s []∈C:=by rw[wc,wb (by omega)];exact wj _
   have gB:=oBt _ (wd (getT B hl));have op:=xD hk oA.1 oA.2 gB.2 gB.1 t;have oc:=oC.1 _ gC;refine(La.ym φ0 b1).trans ?_;rw[La.xE φ0 hk oc.2 op.1 (by rw[oc.1,op.2]),oc.1];exact b2.symm
  ·rw[La.yC φ0 (by omega),La.yC φ0 (by omega)]
 have hT14:=hT13.mono g14;refine⟨_,rfl,tabsD ((vd (h+h)).map Ms),tabsD ((vd (h+h)).map Ms),Yz hps2 lts2 (fun t ht=>by
  obtain⟨a',rs',e',T'⟩:=tabs2 t ht;rw[meq t ht]at T';exact⟨a',rs',e',T'⟩),Yz hT14.lst hT14.len hT14.tab,jn _,jn _,wD (vI _ _) (wD (qE _) (by decide)),?_⟩
 rw[XV];exact q _ ((((g010.trans g11).trans g12).trans g13).trans g14)
theorem cutN{ns:List Int}(N:Nat):cutV (ns.map V.int) none (some (N:Int)) =(ns.take N).map V.int:=by
 unfold cutV;rw[HT.qK,wad,GM,HT.Yt,wa,Gi]
 rcases wK N ns.length with h|h
 ·rw[gP (by omega)]
 ·rw[Nat.min_eq_right (by omega),wv (by rw[wa];exact ww _),wv (by rw[wa];exact h)]
theorem zfU(n d:Nat):HT.sIx n d (some (-1))=n - 1:=by
 show(if (-1:Int)<0 then((-1:Int) +(n:Int)).toNat else min (-1:Int).toNat n)=_;rw[if_pos (by decide)];omega
theorem zgA(xs:List V):cutV xs none (some (-1))=xs.take (xs.length - 1):=by
 unfold cutV;rw[HT.qK,wad,GM,zfU]
theorem ze0(xs:List V):cutV xs (some (-1)) none=xs.drop (xs.length - 1):=by
 unfold cutV;rw[HT.qK,zfU,wv (by rw[uD];omega)]
theorem zhw {f:Addr} {fd:FuncData} (hP:P.given.tree=none) (hS:base.NoSeer) (F:Fun K "law" "law" zfK f fd) (Xu:Kn P w K mg base "_law_machine" 46 SV Xc) (jU:Kn P w K mg base "_law_marks" 45 qf Xi) (jT:Kn P w K mg base "_law_small" 44 SQ YH) (jW:Kn P w K mg base "_law_right" 50 qH Qf) (m_len:mg "len" = none) (zH:mg "range" = none) :
  FnOk P w K mg base CX0 51 f fd ["_law_script"] (spLaw K):=by
 refine F.ok So (fun vs H Q E h=>?_) (fun cdv A' outer s' H vs Q E hr h=>?_)
 ·obtain⟨asc,ns,rfl,_⟩:=h;rfl
 obtain⟨asc,ns,rfl,hSq,h63,q⟩:=h;have szl:=Qa
 refine⟨_,(zc (zo (i:=1) So.nd rfl (.inr rfl) (zm Qn (xv (JP (K:=K) rfl) (pv 0) jO (xY ze)) (yq (za ze zd)))) (zc (qR (zF Xu hr (za (pv 1) (za (yq (za ze (za ze zd))) zd))) (zc0 (K:=K) 3 rfl rfl (zT (zI (i:=2) So.nd rfl (.inr rfl)) (zT (zI (i:=3) So.nd rfl (.inl rfl)) (zT (zI (i:=4) So.nd rfl (.inr rfl)) xF))))) (zc (zo (i:=5) So.nd rfl (.inl rfl) (zp (Zc (K:=K) rfl) rfl m_len zU (za (zt (za6 (K:=K) rfl) (pv 3) ze) zd))) (zc (zo (i:=6) So.nd rfl (.inr rfl) (zp (Zc (K:=K) rfl) rfl m_len zU (za (zt (zba (K:=K) rfl) (zt (za6 (K:=K) rfl) (pv 3) ze) ze) zd))) (zc (zo (i:=7) So.nd rfl (.inr rfl) (zp (Zc (K:=K) rfl) rfl m_len zU (za (zt (za6 (K:=K) rfl) (pv 3) ze) zd))) (zc (zo (i:=8) So.nd rfl (.inl rfl) (zm yi ze (zm zP (zm (zQ hr (by decide) hP hS ⟨_,_,rfl,rfl,rfl,rfl,rfl⟩) (zt (zba (K:=K) rfl) (pv 1) ze) ze) ze))) (zc (zo (i:=9) So.nd rfl (.inl rfl) (zF jU hr (za (pv 2) (za (pv 3) (za (zm zS ze (pv 8)) zd))))) (zc (yb (xB (yT (zF jW hr (za (pv 2) (za (pv 9) (za (yE zhQ (pv 8) (pv 5) (kae _)) zd)))))) (zh (zq ZN)) zJ) (zc (zo (i:=10) So.nd rfl (.inl rfl) (yq zd)) (zc (yt PassesOwn.never rfl (zR rfl zH (za (zm zS ze (pv 8)) zd)) (zI (i:=11) So.nd rfl (.inr rfl)) (zh (yS (bm0 (fun _ h=>qX PySem.F.plainAttrs_list PySem.F.slot_list_append PySem.F.type_list_append yF h (za (yM ["_law_m", "_law_prime_here", "_law_cells", "_law_at_here", "_law_k", "_law_q"] [6,2,1,4,11,7] (zR rfl zH (za (pv 7) zd)) fun _ _ _ _ _ _=>⟨zM,(yM ["_law_prime_here", "_law_cells", "_law_at_here", "_law_k", "_law_m", "_law_q", "_law_i"] [2,3,4,5,1,6,0] (zR rfl zH (za (pv 1) zd)) fun _ _ _ _ _ _=>⟨zM,(zF jT hr (za (pv 1) (za (pv 2) (za (zm yi (zm yi (zm yi (pv 3) (zm zS (zm zS (pv 4) (pv 5)) (pv 6))) (zm zS (pv 7) (pv 5))) (pv 0)) zd))))⟩)⟩) zd)) (pv 10))))) (zh (zq (Yr (zF jW hr (za (pv 2) (za (pv 10) (za ZN zd)))) (ZH (zF jW hr (za (pv 2) (za (zm Qn (xv (JP (K:=K) rfl) (pv 9) jO (xY (zcz XE ze))) (xv (JP (K:=K) rfl) (pv 10) (xY (zcz XE ze)) jO)) (za ZN zd)))))))))))))))))),?_⟩;refine⟨_,rfl,_,rfl,asc,_,rfl,hSq,fun p1 hp1=>?_⟩;refine⟨(by show 1<=sizeLine;decide),fun p2 hp2=>?_⟩;have n12:p1≠p2:=fun e=>by rw[e,zf]at hp2;cases hp2
 rw[show((63:Int)) =((63:Nat):Int)from rfl,cutN 63]at *;refine⟨p1,p2,_,_,rfl,rfl,(by rw[zN n12];exact zf),zf,?_,fun p3 hp3=>?_⟩
 ·rw[wa,wr];show min 63 ns.length+1<=sizeLine;omega
 have e3:(ns.take 63).map V.int++[V.int 0] =(ns.take 63++[0]).map V.int:=by simp
 rw[e3];have hc0:upd (upd (upd H p1 (.lst ((ns.take 63).map V.int))) p2 (.lst [V.int 0])) p3 (.lst ((ns.take 63++[0]).map V.int)) p3=some (.lst ((ns.take 63++[0]).map V.int)):=zf;have lcs:(ns.take 63++[(0:Int)]).length<=1000:=by rw[wy,wr];show min 63 ns.length+1<=1000;omega
 have ncs:ns.take 63++[(0:Int)]≠[]:=by simp
 generalize upd (upd (upd H p1 (.lst ((ns.take 63).map V.int))) p2 (.lst [V.int 0])) p3 (.lst ((ns.take 63++[0]).map V.int))=H0 at *;generalize ns.take 63++[(0:Int)]=cs at *;refine⟨_,rfl,(by show 2<=sizeLine;decide),fun pq hpq=>?_⟩;have g1:=zg hpq (.lst [V.int 3,V.int 4]);refine⟨p3,pq,cs,3,4,rfl,g1 _ _ hc0,ncs,lcs,zf,(by decide),(by decide),(by decide),(by decide),fun k n m s at' A B C pr pm ta tb tc ra rb rc H2 g2 hpr hM hs ft oM wM m1 m2 s1 s2 nab=>?_⟩;have hk:=hs.ok;have hc2:=g2 _ _ (g1 _ _ hc0);clear g1 hc0;refine⟨pr,_,rfl,SqT.of hpr,rfl,_,_,rfl,_,_,rfl,_,_,rfl,rfl,?_⟩;have n1:=ft.1;have n10:=ft.n10;obtain⟨wA,wB,wC,_⟩:=wM;have lA:=oM.a.len;have lB:=oM.b.len;have lC:=oM.c.len;have la:=zj hM.a.2;rw[lA]at la;have lc:=zj hM.c.2;rw[lC]at lc;have n3:k=0->n<=3:=fun e=>by
  rcases ft.2 with h|h
  ·exact h
  ·exact absurd e h.1
 have eB0:B[0]?=some (B[0]'(by omega)):=wb (by omega);obtain⟨b0,eb0,rb0⟩:=yl hM.b.2 eB0;obtain⟨us0,hu0,pu0,lu0⟩:=rb0.len;have lB0:=(oM.b.ok _ (wd eB0)).1;refine⟨_,rfl,pm,_,_,.ref ta,rfl,rfl,SqT.of hM.tup,rfl,ta,_,rfl,.inl (SqL.of hM.a.1),?_⟩;rw[wa,← la];refine⟨_,rfl,pm,_,_,.ref tb,rfl,rfl,SqT.of hM.tup,rfl,tb,_,_,.ref b0,rfl,rfl,SqL.of hM.b.1,zD (j:=0) (by rw[we,eb0];rfl),b0,_,rfl,.inl (SqL.of hu0),?_⟩;rw[lu0,lB0];refine⟨_,rfl,pm,_,_,.ref tc,rfl,rfl,SqT.of hM.tup,rfl,tc,_,rfl,.inl (SqL.of hM.c.1),?_⟩;rw[wa,← lc];obtain⟨c0,cs',ecs⟩:=vV ncs;refine⟨_,rfl,p3,_,_,.int c0,rfl,rfl,SqL.of hc2,zD (j:=0) (by rw[ecs];rfl),_,_,rfl,rfl,(by decide),_,_,rfl,rfl,(by decide),_,_,rfl,rfl,?_⟩;obtain⟨h,eh,h1,h4⟩ : ∃ h:Nat,1 +(c0.fdiv 17).fmod 4 =(h:Int)/\1<=h/\h<=4:=by
  have a0:=wx (c0.fdiv 17) (show(0:Int)<4 by decide);have a1:=wH (c0.fdiv 17) (show(0:Int)<4 by decide);exact⟨(1 +(c0.fdiv 17).fmod 4).toNat,by omega,by omega,by omega⟩
 rw[eh];clear eh;have ew:∀ t,t<=10->∀ r∈blkT k m A B t,∀ x∈r,whk k 174 x:=fun t ht r hr x hx=>(zg2 hk oM (fun e=>by have:=n3 e;omega) wA wB t r hr x hx).mono (by omega)
 refine⟨_,rfl,_,rfl,_,rfl,_,_,rfl,rfl,zY (by decide) (by decide),k,A,B,C,n,m,s,h+h,80,174,80,_,pm,ta,tb,tc,ra,rb,rc,rfl,(by omega),hk,hM,⟨oM.a.ok,oM.a.len⟩,⟨oM.b.ok,oM.b.len⟩,⟨oM.c.ok,oM.c.len⟩,n1,n10,m1,by omega,by omega,by omega,(fun r hr x hx _=>oM.a.sz r hr x hx),(fun r hr x hx _=>oM.c.sz r hr x hx),(fun t ht r hr x hx=>(ew t (by omega) r hr x hx).szk (by decide)),by decide,by decide,fun ts ps H3 g3 hps lts tabs=>?_⟩;have okb:=JA hk oM.a.ok oM.a.len oM.b.ok oM.b.len;have okM:∀ t,t<h+h->La.OkM k m (kai k m C (blkT k m A B t))/\(kai k m C (blkT k m A B t)).length=s:=fun t _=>by
  have o:=La.ZY hk (c:=m) oM.c.ok (okb t).1;exact⟨o.2,o.1.trans oM.c.len⟩
 have whM:∀ t,t<h+h->∀ r∈kai k m C (blkT k m A B t),∀ x∈r,whk k 190 x:=fun t ht r hr x hx=>by
  unfold kai at hr;obtain⟨c,hc,rfl⟩:=wg.mp hr;obtain⟨d,hd,rfl⟩:=wg.mp hx;have oc:=oM.c.ok c hc;have od:=zL (okb t).1 d hd;rw[(okb t).2]at od;intro k0;exact(zbP hk oc.2 od.2 oc.1 (show n<=2^2 by have:=n3 k0;omega) (wC.sz c hc) (ji (okb t).1 (ew t (by omega)) d hd)) k0
 have hT3:TsAt H3 k (fun t=>kai k m C (blkT k m A B t)) (h+h) s m ps ts:=⟨hps,lts,tabs,okM⟩;have oBt:La.OkM k n (kac m B):=by have:=zL oM.b.ok;rw[lB]at this;exact this
 refine⟨_,rfl,_,rfl,_,rfl,_,rfl,_,_,rfl,rfl,k,_,h,s,m,ps,ts,_,rfl,hs,hT3,⟨h1,h4,s1,s2,m1,m2⟩,whM,(fun su=>?_),fun H4 g4=>⟨_,rfl,iteF ?_⟩⟩
 ·have nh:n<=h:=by have:=of_decide_eq_true su;omega
  refine⟨n,A,B,C,n1,nh,⟨oM.a.ok,lA⟩,⟨oM.b.ok,lB⟩,⟨oM.c.ok,lC⟩,fun F _ φ t s' l ht hs' hl=>?_⟩;have gC:C.getD s' []∈C:=by rw[wc,wb (by omega)];exact wj _
  have gB:=oBt _ (wd (getT B hl));have op:=xD hk oM.a.ok lA gB.2 gB.1 t;have oc:=oM.c.ok _ gC;refine(La.ym φ (zbz (k:=k) (t:=t) (A:=A) (B:=B) (C:=C) (by rw[lC];exact hs') hl)).trans ?_;rw[La.xE φ hk oc.2 op.1 (by rw[oc.1,op.2]),oc.1]
 have hT4:=hT3.mono g4;have hc4:=g4 _ _ (g3 _ _ hc2);refine⟨(by show 0<=sizeLine;decide),fun pd hpd=>?_⟩;have g5:=zg hpd (.lst []);have h5:upd H4 pd (.lst []) pd=some (.lst []):=zf;generalize upd H4 pd (.lst [])=H5 at *;refine⟨_,rfl,_,_,rfl,rfl,zY (by decide) (by decide),_,rfl,(by omega),(by omega),?_⟩;rw[show(2 *(h:Int)).toNat=h+h by omega];refine yp (lo:=0) (n:=h+h) (fun i σ H'=>∃(Dl:List (Tb))(ds:List Addr)(rs:List (List Addr))(o11:Option V),σ=[some (.ref asc),some (.ref p3),some (.int k),some (.ref pm),some (.int (at':Int)),some (.int (n:Int)),some (.int (m:Int)),some (.int (s:Int)),some (.int (h:Int)),some (.ref ps),some (.ref pd),o11]/\kah H4 H' Dl ds rs/\H' pd=some (.lst (ds.map V.ref))/\pd∉ds/\(∀ ras∈rs,pd∉ras)/\Dl.length=i/\∀ D∈Dl,La.OkM k m D/\D.length=s/\∀ r∈D,∀ x∈r,whk k 2 x) ⟨[],[],[],none,rfl,kah.nil g5,h5,(fun h=>nomatch h),(fun _ h=>nomatch h),rfl,fun _ h=>nomatch h⟩ ?_ ?_
 ·rintro i σ H6 hi ⟨Dl,ds,rs,o11,rfl,G,hpd6,nd6,nr6,lD,oD⟩
  have hc6:=G.same _ _ hc4;refine⟨_,rfl,.inl ⟨rfl,_,SqL.of hpd6⟩,_,rfl,s,rfl,(by omega),(by omega),?_⟩;rw[wR];refine yG (lo:=0) (n:=s) (fun j ys H'=>∃ M ras,ys=ras.map V.ref/\Grow H6 H' M ras/\M.length=j/\La.OkM k m M/\(∀ r∈M,∀ x∈r,whk k 2 x)) ⟨[],[],rfl,Grow.nil H6 (Same.refl H6),rfl,fun r hr=>(nomatch hr),fun r hr=>(nomatch hr)⟩ ?_ ?_ ?_
  ·rintro j ys H' hj ⟨M,ras,rfl,G7,lM,_⟩
   have:=zj G7.rows;rw[wa];omega
  ·rintro j ys H7 hj ⟨M,ras,rfl,G7,lM,o7,s7⟩
   first|refine gyes ?_|refine tyes ?_
   refine⟨_,rfl,m,rfl,(by omega),(by omega),?_⟩;rw[wR];refine yG (lo:=0) (n:=m) (fun l ys' H9=>∃ xs,Same H7 H9/\Paired (RN H9) xs ys'/\xs.length=l/\La.OkR k xs/\∀ x∈xs,whk k 2 x) ⟨[],Same.refl _,.nil,rfl,fun x hx=>(nomatch hx),fun x hx=>(nomatch hx)⟩ ?_ ?_ ?_
   ·rintro l ys' H9 hl' ⟨xs,g9,pr9,lx,_⟩
    have:=zj pr9;omega
   ·rintro l ys' H9 hl' ⟨xs,g9,pr9,lx,ox,sx⟩
    have hc9:H9 p3=some (.lst (cs.map V.int)):=g9 _ _ (G7.same _ _ hc6);have ci1:(0 +(i:Int)) *(m:Int)<=8*2:=Int.mul_le_mul (by omega) (by omega) (by omega) (by omega);have ci0:0<=(0 +(i:Int)) *(m:Int):=gX (by omega) (by omega);have ci2:0<=(0 +(i:Int)) *(m:Int) *(s:Int):=gX ci0 (by omega);have ci3:0<=(0 +(j:Int)) *(m:Int):=gX (by omega) (by omega)
    first|refine gyes ?_|refine tyes ?_
    refine⟨_,rfl,_,rfl,_,rfl,_,rfl,_,rfl,_,_,rfl,rfl,zY (by omega) (by omega),_,rfl,_,_,rfl,rfl,zY ci0 (by omega),_,_,rfl,rfl,_,rfl,_,rfl,_,_,rfl,rfl,zY (by omega) (by omega),_,_,rfl,rfl,_,rfl,_,_,rfl,rfl,k,p3,cs,((at':Int) +(0 +(i:Int)) *(m:Int) *(s:Int) +(0 +(j:Int)) *(m:Int) +(0 +(l:Int))).toNat,_,rfl,(by omega),hk,hc9,ncs,fun x v' H10 g10 xr xo xs2=>?_⟩;refine nxt hl' ⟨xs++[x],g9.trans g10,zZ (jj g10 pr9) xr,by rw[wy,lx];rfl,fun y hy=>?_,fun y hy=>?_⟩
    ·rcases wt.mp hy with h|h
     ·exact ox y h
     ·rw[wm.mp h];exact xo
    ·rcases wt.mp hy with h|h
     ·exact sx y h
     ·rw[wm.mp h];exact xs2
   ·rintro ys' H9 ⟨xs,g9,pr9,lx,ox,sx⟩ pn hpn
    refine nxt hj ⟨M++[xs],ras++[pn],by rw[wu];rfl,(G7.mono g9).snoc hpn pr9,by rw[wy,lM];rfl,fun y hy=>?_,fun y hy=>?_⟩
    ·rcases wt.mp hy with h|h
     ·exact o7 y h
     ·rw[wm.mp h];exact⟨lx,ox⟩
    ·rcases wt.mp hy with h|h
     ·exact s7 y h
     ·rw[wm.mp h];exact sx
  ·rintro ys H7 ⟨M,ras,rfl,G7,lM,o7,s7⟩ pn hpn
   have N7:=G7.done hpn;have g67:=G7.same.trans (zg hpn (.lst (ras.map V.ref)));generalize upd H7 pn (.lst (ras.map V.ref))=H8 at *;have hpd8:=g67 _ _ hpd6;have lts:=G.lt;refine⟨pd,_,_,rfl,rfl,hpd8,(by rw[wa];omega),?_⟩;have nn:pd≠pn:=fun e=>by have:=N7.ft;rw[← e,hpd6]at this;cases this
   have nr:pd∉ras:=fun hm=>by have:=N7.fr _ hm;rw[hpd6]at this;cases this
   have nts:pd∉ds++[pn]:=fun hm=>by
    rcases wt.mp hm with h|h
    ·exact nd6 h
    ·exact nn (wm.mp h)
   have nrs:∀ x∈rs++[ras],pd∉x:=fun x hm=>by
    rcases wt.mp hm with h|h
    ·exact nr6 x h
    ·rw[wm.mp h];exact nr
   refine⟨Dl++[M],ds++[pn],rs++[ras],_,rfl,(G.push g67 N7).updAt hpd hpd8 nts nrs,by rw[zf,wu];rfl,nts,nrs,by rw[wy,lD];rfl,fun D hD=>?_⟩
   rcases wt.mp hD with h|h
   ·exact oD D h
   ·rw[wm.mp h];exact⟨o7,lM,s7⟩
 rintro σ H6 ⟨Dl,ds,rs,o11,rfl,G,hpd6,_,_,lD,oD⟩
 have gD:∀ t,t<h+h->Dl[t]?=some (Dl.getD t []):=fun t ht=>by rw[wc,wb (by omega)];rfl
 have okD:∀ t,t<h+h->La.OkM k m (Dl.getD t [])/\(Dl.getD t []).length=s:=fun t ht=>by
  have:=oD _ (wd (gD t ht));exact⟨this.1,this.2.1⟩
 have whD:∀ t,t<h+h->∀ r∈Dl.getD t [],∀ x∈r,whk k 190 x:=fun t ht r hr x hx=>((oD _ (wd (gD t ht))).2.2 r hr x hx).mono (by decide)
 have lds:ds.length=h+h:=G.lt.trans lD;have tD:∀ t,t<h+h->∃ a rs,ds[t]?=some a/\kag H6 (Dl.getD t []) a rs:=fun t ht=>by
  obtain⟨M,a,r,e1,e2,_,T⟩:=G.get (i:=t) (by omega);rw[gD t ht]at e1;cases e1;exact⟨a,r,e2,T⟩
 have hD6:TsAt H6 k (fun t=>Dl.getD t []) (h+h) s m pd ds:=⟨hpd6,lds,tD,okD⟩;refine⟨_,rfl,_,rfl,k,_,h,s,m,pd,ds,false,rfl,hs,hD6,⟨h1,h4,s1,s2,m1,m2⟩,whD,(fun su=>nomatch su),fun H7 g7=>⟨_,rfl,iteT ?_⟩⟩;have hT7:=(hT4.mono G.same).mono g7;have hD7:=hD6.mono g7;refine⟨_,rfl,_,rfl,_,rfl,_,rfl,ps,_,rfl,SqL.of hT7.lst,fun pa hpa=>?_⟩;rw[zgA,wa,hT7.len,← Gi];have g8:=zg hpa (.lst ((ts.take (h+h - 1)).map V.ref));have h8:upd H7 pa (.lst ((ts.take (h+h - 1)).map V.ref)) pa=some (.lst ((ts.take (h+h - 1)).map V.ref)):=zf;generalize upd H7 pa (.lst ((ts.take (h+h - 1)).map V.ref))=H8 at *;have hD8:=hD7.mono g8;have hT8:=hT7.mono g8;refine⟨_,rfl,_,rfl,_,rfl,pd,_,rfl,SqL.of hD8.lst,fun pb hpb=>?_⟩;rw[ze0,wa,hD8.len,← GS];have g9:=zg hpb (.lst ((ds.drop (h+h - 1)).map V.ref));have h9:upd H8 pb (.lst ((ds.drop (h+h - 1)).map V.ref)) pb=some (.lst ((ds.drop (h+h - 1)).map V.ref)):=zf;have h89:=g9 _ _ h8;generalize upd H8 pb (.lst ((ds.drop (h+h - 1)).map V.ref))=H9 at *;have l1:(ts.take (h+h - 1)).length=h+h - 1:=by rw[wr,hT8.len];omega
 have l2:(ds.drop (h+h - 1)).length=1:=by rw[uD,lds];omega
 refine⟨pa,pb,_,_,rfl,rfl,h89,h9,(by rw[wa,wa,l1,l2];omega),fun pc hpc=>?_⟩;have g10:=zg hpc (.lst ((ts.take (h+h - 1)).map V.ref ++(ds.drop (h+h - 1)).map V.ref));have hT10:=(hT8.mono g9).mono g10;have hD10:=(hD8.mono g9).mono g10;have h10:upd H9 pc (.lst ((ts.take (h+h - 1)).map V.ref ++(ds.drop (h+h - 1)).map V.ref)) pc=some (.lst ((ts.take (h+h - 1)++ds.drop (h+h - 1)).map V.ref)):=by rw[zf,wu]
 generalize upd H9 pc (.lst ((ts.take (h+h - 1)).map V.ref ++(ds.drop (h+h - 1)).map V.ref))=H10 at *;have hX:TsAt H10 k (fun t=>if t<h+h - 1 then kai k m C (blkT k m A B t)else Dl.getD t []) (h+h) s m pc (ts.take (h+h - 1)++ds.drop (h+h - 1)):=by
  refine⟨h10,by rw[wy,l1,l2];omega,fun t ht=>?_,fun t ht=>?_⟩
  ·by_cases hl:t<h+h - 1
   ·obtain⟨a,r,e,T⟩:=hT10.tab t ht;exact⟨a,r,by rw[wO (by omega),ux,if_pos hl];exact e,by rw[if_pos hl];exact T⟩
   ·obtain⟨a,r,e,T⟩:=hD10.tab t ht;exact⟨a,r,by rw[wJ (by omega),l1,gp,show h+h - 1 +(t - (h+h - 1))=t by omega];exact e,by rw[if_neg hl];exact T⟩
  ·show La.OkM k m (if t<h+h - 1 then _ else _)/\(if t<h+h - 1 then _ else _:Tb).length=s
   split
   ·exact okM t ht
   ·exact okD t ht
 exact⟨k,_,h,s,m,pc,_,false,rfl,hs,hX,⟨h1,h4,s1,s2,m1,m2⟩,(fun t ht=>by
  show ∀ r∈(if t<h+h - 1 then _ else _:Tb),_
  split
  ·exact whM t ht
  ·exact whD t ht),(fun su=>nomatch su),fun H11 g11=>q H11⟩
end
end KL
open PySem PySem.W PyProof.Rows
abbrev zPr:=(PySem.Challenge.rw_steermill_k71_read_off).prog
set_option maxRecDepth 100000 in
set_option maxHeartbeats 0 in
theorem PySem.Challenge.cw_steermill_k71_read_off_holds : PySem.Challenge.rw_steermill_k71_read_off.Holds := by
 refine L2.zcf (l:=PySem.Challenge.rw_steermill_k71_read_off) 51 3200 KL.lk KL.lv KL.h_ws rfl rfl rfl (by kernel_rfl) (by decide) (fun s=>by kernel_rfl) ⟨KL.h_st,KL.h_sn,KL.h_lk⟩ (by kernel_rfl) (by kernel_rfl) (by kernel_rfl) (by kernel_rfl) (by kernel_rfl) (by kernel_rfl) ⟨rfl,rfl,rfl,rfl,rfl,by decide +kernel⟩ (by w_witness2) (by decide +kernel) ⟨rfl,by decide,by decide⟩ ?F
 case F =>
  intro w mg fa h K KX hq G hmg
  have qf:=congrArg (·.1) hq
  have qm:=congrArg (·.2.1) hq
  have qe:=congrArg (·.2.2.1) hq
  have qc:=congrArg (·.2.2.2) hq
  have ZE:L2.Df K mg "common_divisor" ["one", "other"] KL.yP:=L2.zX KX G (L2.zG qf 0 rfl rfl) fun _ _ _ _ _ _ us hl=>L2.kar (fun _ _=>rfl) us hl
  have zaF:L2.Df K mg "fraction" ["top", "bottom"] KL.qi:=L2.zX KX G (L2.zG qf 1 rfl rfl) fun _ _ _ _ _ _ us hl=>L2.kar (fun _ _=>rfl) us hl
  have zaI:L2.Df K mg "one_over" ["prime", "rest"] KL.qh:=L2.zX KX G (L2.zG qf 2 rfl rfl) fun _ _ _ _ _ _ us hl=>L2.kar (fun _ _=>rfl) us hl
  have zeH:L2.Df K mg "number" ["kind", "whole"] KL.Yb:=L2.zX KX G (L2.zG qf 3 rfl rfl) fun _ _ _ _ _ _ us hl=>L2.kar (fun _ _=>rfl) us hl
  have zhc:L2.Df K mg "over" ["kind", "one", "other"] KL.zbx:=L2.zX KX G (L2.zG qf 4 rfl rfl) fun _ _ _ _ _ _ us hl=>L2.kaq (fun _ _ _=>rfl) us hl
  have zdP:L2.Df K mg "scaled" ["kind", "row"] KL.ZX:=L2.zX KX G (L2.zG qf 5 rfl rfl) fun _ _ _ _ _ _ us hl=>L2.kar (fun _ _=>rfl) us hl
  have za2:L2.Df K mg "quotient" ["kind", "top", "bottom"] KL.qp:=L2.zX KX G (L2.zG qf 6 rfl rfl) fun _ _ _ _ _ _ us hl=>L2.kaq (fun _ _ _=>rfl) us hl
  have QO:L2.Df K mg "whole_sum" ["one", "other"] KL.jC:=L2.zX KX G (L2.zG qf 7 rfl rfl) fun _ _ _ _ _ _ us hl=>L2.kar (fun _ _=>rfl) us hl
  have qG:L2.Df K mg "sum_of_products" ["kind", "one", "other"] KL.yL:=L2.zX KX G (L2.zG qf 8 rfl rfl) fun _ _ _ _ _ _ us hl=>L2.kaq (fun _ _ _=>rfl) us hl
  have zfc:L2.Df K mg "eased" ["kind", "wholes"] KL.Jl:=L2.zX KX G (L2.zG qf 9 rfl rfl) fun _ _ _ _ _ _ us hl=>L2.kar (fun _ _=>rfl) us hl
  have zck:L2.Df K mg "cleared" ["kind", "row", "lead_row", "column"] KL.qW:=L2.zX KX G (L2.zG qf 10 rfl rfl) fun _ _ _ _ _ _ us hl=>L2.bind4 (fun _ _ _ _=>rfl) us hl
  have zeT:L2.Df K mg "swept" ["kind", "rows"] KL.Jw:=L2.zX KX G (L2.zG qf 11 rfl rfl) fun _ _ _ _ _ _ us hl=>L2.kar (fun _ _=>rfl) us hl
  have zde:L2.Df K mg "strung" ["rows"] KL.Yk:=L2.zX KX G (L2.zG qf 12 rfl rfl) fun _ _ _ _ _ _ us hl=>L2.bind1 (fun _=>rfl) us hl
  have zdv:L2.Df K mg "turned" ["table"] KL.ZT:=L2.zX KX G (L2.zG qf 13 rfl rfl) fun _ _ _ _ _ _ us hl=>L2.bind1 (fun _=>rfl) us hl
  have zbU:L2.Df K mg "product" ["kind", "one", "other"] KL.qP:=L2.zX KX G (L2.zG qf 14 rfl rfl) fun _ _ _ _ _ _ us hl=>L2.kaq (fun _ _ _=>rfl) us hl
  have zb1:L2.Df K mg "lead_of" ["kind", "row"] KL.qY:=L2.zX KX G (L2.zG qf 15 rfl rfl) fun _ _ _ _ _ _ us hl=>L2.kar (fun _ _=>rfl) us hl
  have zad:L2.Df K mg "over_lead" ["kind", "wholes"] KL.jr:=L2.zX KX G (L2.zG qf 16 rfl rfl) fun _ _ _ _ _ _ us hl=>L2.kar (fun _ _=>rfl) us hl
  have zb6:L2.Df K mg "reduced" ["kind", "rows"] KL.qU:=L2.zX KX G (L2.zG qf 17 rfl rfl) fun _ _ _ _ _ _ us hl=>L2.kar (fun _ _=>rfl) us hl
  have zfo:L2.Df K mg "marks" ["kind", "machine", "many"] KL.JG:=L2.zX KX G (L2.zG qf 18 rfl rfl) fun _ _ _ _ _ _ us hl=>L2.kaq (fun _ _ _=>rfl) us hl
  have zab:L2.Df K mg "has_marks" ["kind", "machine", "told"] KL.jz:=L2.zX KX G (L2.zG qf 19 rfl rfl) fun _ _ _ _ _ _ us hl=>L2.kaq (fun _ _ _=>rfl) us hl
  have zaA:L2.Df K mg "mirrored" ["machine"] KL.qs:=L2.zX KX G (L2.zG qf 20 rfl rfl) fun _ _ _ _ _ _ us hl=>L2.bind1 (fun _=>rfl) us hl
  have zdJ:L2.Df K mg "joined" ["kind", "one", "other"] KL.Yi:=L2.zX KX G (L2.zG qf 21 rfl rfl) fun _ _ _ _ _ _ us hl=>L2.kaq (fun _ _ _=>rfl) us hl
  have Xd:L2.Df K mg "answers_from" ["marks", "start", "many"] KL.xp:=L2.zX KX G (L2.zG qf 22 rfl rfl) fun _ _ _ _ _ _ us hl=>L2.kaq (fun _ _ _=>rfl) us hl
  have qH:L2.Df K mg "room_of_answers" ["kind", "marks", "most"] KL.yK:=L2.zX KX G (L2.zG qf 23 rfl rfl) fun _ _ _ _ _ _ us hl=>L2.kaq (fun _ _ _=>rfl) us hl
  have Qd:L2.Df K mg "machine_on" ["marks", "room", "leads"] KL.xS:=L2.zX KX G (L2.zG qf 24 rfl rfl) fun _ _ _ _ _ _ us hl=>L2.kaq (fun _ _ _=>rfl) us hl
  have zaY:L2.Df K mg "least_of" ["kind", "marks"] KL.qb:=L2.zX KX G (L2.zG qf 25 rfl rfl) fun _ _ _ _ _ _ us hl=>L2.kar (fun _ _=>rfl) us hl
  have zaJ:L2.Df K mg "read_off" ["kind", "marks"] KL.qq:=L2.zX KX G (L2.zG qf 26 rfl rfl) fun _ _ _ _ _ _ us hl=>L2.kar (fun _ _=>rfl) us hl
  have JN:L2.Df K mg "_law_whole" ["_law_found"] KL.xU:=L2.zX KX G (L2.zG qf 27 rfl rfl) fun _ _ _ _ _ _ us hl=>L2.bind1 (fun _=>rfl) us hl
  have YW:L2.Df K mg "_law_divisor" ["_law_one", "_law_other"] KL.xl:=L2.zX KX G (L2.zG qf 28 rfl rfl) fun _ _ _ _ _ _ us hl=>L2.kar (fun _ _=>rfl) us hl
  have Jr:L2.Df K mg "_law_mixed" ["_law_cell", "_law_k"] KL.xK:=L2.zX KX G (L2.zG qf 29 rfl rfl) fun _ _ _ _ _ _ us hl=>L2.kar (fun _ _=>rfl) us hl
  have JO:L2.Df K mg "_law_drawn" ["_law_prime_here", "_law_cell"] KL.xR:=L2.zX KX G (L2.zG qf 30 rfl rfl) fun _ _ _ _ _ _ us hl=>L2.kar (fun _ _=>rfl) us hl
  have ZQ:L2.Df K mg "_law_fraction" ["_law_top", "_law_bottom"] KL.xa:=L2.zX KX G (L2.zG qf 31 rfl rfl) fun _ _ _ _ _ _ us hl=>L2.kar (fun _ _=>rfl) us hl
  have QP:L2.Df K mg "_law_make" ["_law_prime_here", "_law_whole_here"] KL.jt:=L2.zX KX G (L2.zG qf 32 rfl rfl) fun _ _ _ _ _ _ us hl=>L2.kar (fun _ _=>rfl) us hl
  have zar:L2.Df K mg "_law_plus" ["_law_prime_here", "_law_one", "_law_other"] KL.jG:=L2.zX KX G (L2.zG qf 33 rfl rfl) fun _ _ _ _ _ _ us hl=>L2.kaq (fun _ _ _=>rfl) us hl
  have Jd:L2.Df K mg "_law_times" ["_law_prime_here", "_law_one", "_law_other"] KL.xW:=L2.zX KX G (L2.zG qf 34 rfl rfl) fun _ _ _ _ _ _ us hl=>L2.kaq (fun _ _ _=>rfl) us hl
  have Qa:L2.Df K mg "_law_minus" ["_law_prime_here", "_law_one", "_law_other"] KL.xQ:=L2.zX KX G (L2.zG qf 35 rfl rfl) fun _ _ _ _ _ _ us hl=>L2.kaq (fun _ _ _=>rfl) us hl
  have ZD:L2.Df K mg "_law_is_number" ["_law_prime_here", "_law_found"] KL.yR:=L2.zX KX G (L2.zG qf 36 rfl rfl) fun _ _ _ _ _ _ us hl=>L2.kar (fun _ _=>rfl) us hl
  have Jv:L2.Df K mg "_law_image" ["_law_prime_here", "_law_table", "_law_column"] KL.xJ:=L2.zX KX G (L2.zG qf 37 rfl rfl) fun _ _ _ _ _ _ us hl=>L2.kaq (fun _ _ _=>rfl) us hl
  have Xw:L2.Df K mg "_law_across" ["_law_table"] KL.xx:=L2.zX KX G (L2.zG qf 38 rfl rfl) fun _ _ _ _ _ _ us hl=>L2.bind1 (fun _=>rfl) us hl
  have YY:L2.Df K mg "_law_product" ["_law_prime_here", "_law_one", "_law_other"] KL.xg:=L2.zX KX G (L2.zG qf 39 rfl rfl) fun _ _ _ _ _ _ us hl=>L2.kaq (fun _ _ _=>rfl) us hl
  have Xr:L2.Df K mg "_law_is_row" ["_law_prime_here", "_law_found", "_law_many"] KL.xy:=L2.zX KX G (L2.zG qf 40 rfl rfl) fun _ _ _ _ _ _ us hl=>L2.kaq (fun _ _ _=>rfl) us hl
  have Xj:L2.Df K mg "_law_is_rows" ["_law_prime_here", "_law_found", "_law_rows", "_law_columns"] KL.xm:=L2.zX KX G (L2.zG qf 41 rfl rfl) fun _ _ _ _ _ _ us hl=>L2.bind4 (fun _ _ _ _=>rfl) us hl
  have Qv:L2.Df K mg "_law_back" ["_law_prime_here", "_law_one"] KL.jq:=L2.zX KX G (L2.zG qf 42 rfl rfl) fun _ _ _ _ _ _ us hl=>L2.kar (fun _ _=>rfl) us hl
  have Xe:L2.Df K mg "_law_reduced" ["_law_prime_here", "_law_rows"] KL.xf:=L2.zX KX G (L2.zG qf 43 rfl rfl) fun _ _ _ _ _ _ us hl=>L2.kar (fun _ _=>rfl) us hl
  have JR:L2.Df K mg "_law_prime" ["_law_cell"] KL.yU:=L2.zX KX G (L2.zG qf 44 rfl rfl) fun _ _ _ _ _ _ us hl=>L2.bind1 (fun _=>rfl) us hl
  have zcy:L2.Df K mg "_law_at" ["_law_prime_here", "_law_cells", "_law_k"] KL.Zf:=L2.zX KX G (L2.zG qf 45 rfl rfl) fun _ _ _ _ _ _ us hl=>L2.kaq (fun _ _ _=>rfl) us hl
  have Js:L2.Df K mg "_law_small" ["_law_prime_here", "_law_cells", "_law_k"] KL.xT:=L2.zX KX G (L2.zG qf 46 rfl rfl) fun _ _ _ _ _ _ us hl=>L2.kaq (fun _ _ _=>rfl) us hl
  have JU:L2.Df K mg "_law_sorts" ["_law_head", "_law_n", "_law_plain"] KL.xP:=L2.zX KX G (L2.zG qf 47 rfl rfl) fun _ _ _ _ _ _ us hl=>L2.kaq (fun _ _ _=>rfl) us hl
  have Ql:L2.Df K mg "_law_lets" ["_law_row", "_law_column"] KL.jy:=L2.zX KX G (L2.zG qf 48 rfl rfl) fun _ _ _ _ _ _ us hl=>L2.kar (fun _ _=>rfl) us hl
  have YU:L2.Df K mg "_law_blocked" ["_law_prime_here", "_law_cells", "_law_sizes", "_law_sorts_here"] KL.xn:=L2.zX KX G (L2.zG qf 49 rfl rfl) fun _ _ _ _ _ _ us hl=>L2.bind4 (fun _ _ _ _=>rfl) us hl
  have Zn:L2.Df K mg "_law_exchanged" ["_law_prime_here", "_law_tables", "_law_cell"] KL.yN:=L2.zX KX G (L2.zG qf 50 rfl rfl) fun _ _ _ _ _ _ us hl=>L2.kaq (fun _ _ _=>rfl) us hl
  have YS:L2.Df K mg "_law_machine" ["_law_cells", "_law_most"] KL.xh:=L2.zX KX G (L2.zG qf 51 rfl rfl) fun _ _ _ _ _ _ us hl=>L2.kar (fun _ _=>rfl) us hl
  have JK:L2.Df K mg "_law_marks" ["_law_prime_here", "_law_machine_here", "_law_many"] KL.xV:=L2.zX KX G (L2.zG qf 52 rfl rfl) fun _ _ _ _ _ _ us hl=>L2.kaq (fun _ _ _=>rfl) us hl
  have Xv:L2.Df K mg "_law_square" ["_law_series", "_law_rows", "_law_columns"] KL.xw:=L2.zX KX G (L2.zG qf 53 rfl rfl) fun _ _ _ _ _ _ us hl=>L2.kaq (fun _ _ _=>rfl) us hl
  have Zg:L2.Df K mg "_law_is_machine" ["_law_prime_here", "_law_found", "_law_m", "_law_q"] KL.yH:=L2.zX KX G (L2.zG qf 54 rfl rfl) fun _ _ _ _ _ _ us hl=>L2.bind4 (fun _ _ _ _=>rfl) us hl
  have JD:L2.Df K mg "_law_right" ["_law_prime_here", "_law_series", "_law_sure"] KL.xN:=L2.zX KX G (L2.zG qf 55 rfl rfl) fun _ _ _ _ _ _ us hl=>L2.kaq (fun _ _ _=>rfl) us hl
  have m_abs:mg "abs" = none:=PySem.W.mg_none_of KX G (L2.zG qm 0 rfl rfl)
  have m_all:mg "all" = none:=PySem.W.mg_none_of KX G (L2.zG qm 1 rfl rfl)
  have zd4:mg "bool" = none:=PySem.W.mg_none_of KX G (L2.zG qm 2 rfl rfl)
  have m_int:mg "int" = none:=PySem.W.mg_none_of KX G (L2.zG qm 3 rfl rfl)
  have zK:mg "isinstance" = none:=PySem.W.mg_none_of KX G (L2.zG qm 4 rfl rfl)
  have m_len:mg "len" = none:=PySem.W.mg_none_of KX G (L2.zG qm 5 rfl rfl)
  have yY:mg "list" = none:=PySem.W.mg_none_of KX G (L2.zG qm 6 rfl rfl)
  have zH:mg "range" = none:=PySem.W.mg_none_of KX G (L2.zG qm 7 rfl rfl)
  have Jh:mg "sorted" = none:=PySem.W.mg_none_of KX G (L2.zG qm 8 rfl rfl)
  have m_sum:mg "sum" = none:=PySem.W.mg_none_of KX G (L2.zG qm 9 rfl rfl)
  have jA:mg "tuple" = none:=PySem.W.mg_none_of KX G (L2.zG qm 10 rfl rfl)
  have m_zip:mg "zip" = none:=PySem.W.mg_none_of KX G (L2.zG qm 11 rfl rfl)
  obtain⟨fd,FL,hb⟩:=L2.zh4 (st:=KL.zfK) KX G hmg (L2.zG qf 56 rfl rfl) (fun _ _ _ _ _ _ _=>rfl)
  refine⟨fd,hb,fun base _ _ hS=>?_⟩
  have hP:(PySem.Challenge.rw_steermill_k71_read_off).prog.given.tree=none:=rfl
  have a1:=KL.zih (P:=zPr) (w:=w) (base:=base) ZE m_abs
  have a2:=KL.za5 hP hS zaF a1
  have a3:=KL.zaE (P:=zPr) (w:=w) (base:=base) hP hS zaI
  have a4:=KL.zeK (P:=zPr) (w:=w) (base:=base) zeH
  have a8:=KL.zgB zhc a2 a4 a3
  have a9:=KL.zeB hP hS zdP a1 yY
  have a10:=KL.zgE za2 a8 a4
  have a11:=KL.zfe hP hS zfc a1
  have a12:=KL.zbT zck a11 m_zip
  have a13:=KL.ze4 zeT a11 a12 m_len zH
  have a14:=KL.zai zad a10
  have a15:=KL.zcw zb6 a9 a13 a14
  have a17:=KL.zgw zb1 a4
  have a18:=KL.zc5 zdJ a15
  have a23w:=KL.zgY (P:=zPr) (w:=w) (base:=base) QO m_sum m_zip
  have a24:=KL.zh2 qG a10 a23w
  have a26:=KL.zeJ (P:=zPr) (w:=w) (base:=base) zdv zH m_len
  have e7:=KL.zcb zbU a26 (KL.zdy a9) a24
  have e8:=KL.zft zfo e7 zH
  have s1:=KL.zb3 (P:=zPr) (w:=w) (base:=base) zde
  have s2:=KL.zb7 Xd s1 a26 zH m_len
  have s3:=KL.zeY qH a18 s2 zH m_len
  have s4:=KL.zeI Qd a26 s2 m_len
  have s5:=KL.zg0 zab e8 m_len
  have s6:=KL.zem zaA a26
  have s7:=KL.zcC hP hS zaY s5 s4 a17 s3 m_len
  have s8:=KL.zcs (KL.zcp zaJ s6 s7 a26 s1 a4 m_len m_all)
  have b4:=KL.zho (P:=zPr) (w:=w) (base:=base) YW m_abs
  have b6:=KL.Qt hP hS ZQ b4
  have b5:=KL.zeQ (P:=zPr) (w:=w) (base:=base) hP hS Jr zH
  have b7:=KL.zdU hP hS JO b6
  have b8:=KL.zfb (P:=zPr) (w:=w) (base:=base) QP
  have b9:=KL.zfk zar b6
  have b10:=KL.zdu Jd b6
  have b11:=KL.zeh Qa b8 b9 b10
  have b12:=KL.zcX (P:=zPr) (w:=w) (base:=base) hP hS JR
  have b13:=KL.zhp zcy b7 b5 m_len
  have b14:=KL.zdW Js b13
  have b15:=KL.zcH JU b5 zH Jh
  have b16:=KL.zfq (P:=zPr) (w:=w) (base:=base) Ql
  have b17:=KL.zaC YU b8 b14 b16 zH
  have b18:=KL.zfv hP hS Zn b8 b9 b10 b11 m_len m_zip
  have b19:=KL.zaH hP hS YS b12 b15 b17 b18 m_int zH
  have b20:=KL.zd3 (P:=zPr) (w:=w) (base:=base) Xw zH m_len
  have b21:=KL.zfD (P:=zPr) (w:=w) (base:=base) JN zK m_int zd4
  have b22:=KL.zel ZD b21 b4 zK jA m_len
  have b23:=KL.zcF Xr b22 zK yY m_len
  have b24:=KL.zbW Xj b23 zK yY m_len m_all
  have b26:=KL.zdk Jv b8 b9 b10 zH m_len
  have b28:=KL.zfh hP hS Qv b6
  have b29:=KL.zaz Xe b8 b10 b11 b28 yY m_len m_zip
  have b30:=KL.zaT YY b20 b26
  have b34:=KL.zcN JK b30 zH
  have b35:=KL.zbY (P:=zPr) (w:=w) (base:=base) Xv zH m_len
  have b36:=KL.zcq Zg b24 zK yY jA m_len
  have b37:=KL.zcZ hP hS JD s8 b29 b35 b36 b34 m_len zK yY jA
  exact KL.zhw hP hS FL b19 b34 b14 b37 m_len zH
#print axioms PySem.Challenge.cw_steermill_k71_read_off_holds
