import PyProof.Rows.All
import Wide.All
import OpenK.AllK
import Wide.FinOn
import Lean
import PyProof.EqAt
import PyProof.EqKinds
import PyProof.TupleCall
import PySem.Challenge.RW_steermill_k42_whole_cores
noncomputable section
local macro_rules | `(tactic| omega) => `(tactic| lia)
open List renaming length_map->we,getElem?_eq_getElem->wg,getD_eq_getElem?_getD->wj,mem_of_getElem?->wk,mem_map->wm,getElem?_map->wo,getElem_mem->wp,getElem?_eq_some_iff->wq,take_of_length_le->wr,mem_cons_self->wt,mem_append->wu,mem_cons_of_mem->wv,length_take->wx,length_append->wy,mem_singleton->wD,mem_append_right->wE,map_append->wF,getElem_of_mem->wG,mem_append_left->wH,getElem?_eq_none->wK,mem_cons->wL,replicate->wN,size_toArray->wQ,mem_filter->wX,length_zipWith->wZ,range->vd,getElem?_append->vh,length_set->vn,getElem?_set->vo,mem_range->vp,length_replicate->vt,getElem?_append_right->vv,of_mem_zip->vw,eq_nil_of_length_eq_zero->vx,getElem?_append_left->vz,not_mem_nil->vD,zipWith->vE,map_map->vF,getElem?_range->vG,append_nil->vH,take_length->vK,length_range->vL,take_succ_eq_append_getElem->vN,replicate_succ->vO,getElem?_zipWith->vP,length_cons->vQ,map_congr_left->vV,length_filter_le->vW,drop->vX,flatten_cons->ud,length_zip->um,pairwise_cons->uq,length_drop->ur,getElem?_set_ne->ut,mem_of_mem_take->uu,idxOf_lt_length_of_mem->uw,getElem?_set_self->ux,getElem_zipWith->uz,pairwise_map->uB,getElem?_inj->uC,getElem?_replicate->uF,all_eq_true->uL,filter_cons->uM,drop_of_length_le->uN,exists_cons_of_ne_nil->uR,append_assoc->uW,getElem?_zip_eq_some->uX,ext_getElem?->uZ,map_fst_zip->gb,getElem?_drop->gh,pairwise_lt_range->gk,take->gv,ext_getElem->gK,map_cons->gO,map_take->gQ,nodup_cons->gS,getElem?_take_of_lt->gZ,eq_of_mem_replicate->Gc,length->Gi,getElem_map->Gn,eraseIdx_sublist->Gp,map_drop->Gq,mem_of_mem_drop->Gr,replicate_succ'->Gu,length_nil->Gw,filterMap_cons->GA,foldl_append->GK,nodup_append->GL,lookup_cons->GO,getElem_zip->GR,mem_flatten->GU,pairwise_singleton->GY,foldl_cons->waa,nil_append->wab,length_pos_of_mem->wag,length_singleton->wah,getD->waj,drop_zero->wap,pairwise_append->waq,all_cons->war,map->wav,mem_filterMap->waw,map_id'->waC,any_eq_false->waD,getElem_take->waK,map_snd_zip->waQ,sum_append->waW,foldl->waZ,take_zero->wa0,any_cons->wa1,sum_nil->wbc,map_set->wbh
open Nat renaming le_refl->ww,le_trans->wI,lt_or_ge->wO,mul_le_mul_right->wU,lt_of_lt_of_le->wV,ne_of_lt->wY,pow_le_pow_right->ve,mul_le_mul->vf,mul_le_mul_left->vg,zero_le->vC,not_lt_zero->vI,min_le_left->vJ,one_mul->vT,lt_or_eq_of_le->vU,lt_irrefl->vY,add_mul->vZ,le_of_lt_succ->ug,le_of_lt->uh,mul_comm->uk,pow_add->ul,lt_of_le_of_lt->uo,add_sub_cancel_left->uv,lt_succ_self->uy,two_pow_pos->uD,le_mul_of_pos_right->uG,gcd->uI,one_le_two_pow->uP,le_of_eq->uS,min_eq_left->uV,lt_succ_of_lt->uY,eq_zero_or_pos->gi,pow_pos->gu,pow_succ->gy,min_eq_right->gM,mul_assoc->gP,pow_mod->gX,mul_one->gY,lt_succ_iff_lt_or_eq->Gb,zero_add->Ge,sub_self->Gf,zero_mul->Gg,mod_eq_of_lt->Gk,dvd_trans->Gm,mul_mod->Go,div_add_mod->Gv,le_antisymm->Gx,le_of_succ_le->GF,gcd_dvd_right->GH,succ_le_succ->GP,gcd_dvd_left->GQ,mod_lt->GS,coprime_comm->GT,min_le_right->GV,succ_mul->GW,min_self->GZ,mul_ne_zero->waf,pow_mul->wal,mul_sub->wam,le_succ->wao,le_of_dvd->wau,ne_of_gt->way,pow_zero->waB,lt_trichotomy->waG,dvd_mul_right->waJ,le_of_not_lt->waM,mul_lt_mul''->waO,le_add_right->waP,mul_pos->waS,zero_lt_one->waX,div_lt_self->waY,add_comm->wa3,div_self->wba,lt_trans->wbb,gcd_comm->wbd,le_total->wbe,add_zero->wbf,sub_zero->wbg,one_pow->wbl,gcd_rec->wbm,pow_two->wbn,pow_one->wbo,sub_mul->wbp
open Int renaming fmod_nonneg_of_pos->wJ,fmod_lt_of_pos->wP,toNat_natCast->wW,gcd->vk,zero_add->vA,natAbs_mul->vB,fdiv_eq_ediv_of_dvd->vR,natAbs_natCast->vS,mul_le_mul_of_nonneg_left->uA,gcd_eq_natAbs_gcd_natAbs->uJ,ediv_mul_cancel->uK,natCast_nonneg->uO,fmod_eq_emod_of_nonneg->uQ,natCast_mul->uU,eq_ofNat_of_zero_le->gd,emod_lt_of_pos->gf,gcd_pos_of_ne_zero_right->gm,emod_add_mul_ediv->gr,natAbs_pos->gw,lt_or_le->gx,gcd_dvd_left->gD,emod_nonneg->gU,mul_ne_zero->gW,dvd_mul_of_dvd_right->Ga,gcd_dvd_right->Gh,mul_zero->Gy,zero_dvd->Gz,gcd_pos_of_ne_zero_left->GB,mul_pos->GC,fdiv_eq_ediv_of_nonneg->GD,natAbs_add_le->GE,natAbs_dvd_natAbs->wan,le_of_dvd->was,zero_fmod->wat,dvd_zero->waz,gcd_zero->waA,dvd_mul_right->waE,natAbs_sub_le->waF,lt_trichotomy->waI,dvd_sub->waN,dvd_mul_left->waR,natCast_emod->waT,ediv_nonneg->waU,dvd_trans->wa2,fmod_def->wa4,gcd_comm->wa5,zero_mul->wa6,dvd_refl->wa7,mul_comm->wa8,gcd_ediv->wa9,one_mul->wbi,neg_dvd->wbj
open Option renaming map_eq_some_iff->wR,getD_none->waL
open Bool renaming false_ne_true->wS,eq_false_iff->uE,eq_iff_iff->gj,and_eq_true->gA,false_eq_true->wax
open Rat renaming intCast_mul->vm,divInt->vM,intCast_eq_zero_iff->uH,num_divInt_den->Gd,divInt_eq_divInt_iff->GM,divInt_ofNat->GN,intCast_add->wac,intCast_inj->wad,intCast_neg->wae,divInt_mul_divInt->wai,divInt_eq_div->waH,num_eq_zero->waV,inv_def->wbk
open Classical renaming byContradiction->ue,not_forall->Gs,choose_spec->wak
set_option Elab.async false
set_option linter.all false
set_option maxRecDepth 100000
namespace L2
open PySem PySem.Spec PyProof.Rows
abbrev Key:=Sum Int Str
def keyIs:Key->Value->Bool
 | .inl k,v=>Value.isInt k v
 | .inr x,v=>Value.isStrOf x v
def keyH(w:World):Key->Int
 | .inl k=>hashInt k
 | .inr x=>hashStr w x
theorem yJ:∀ {k:Key} {v:Value},keyIs k v=true->(∃ i t,k=Sum.inl i/\v=Value.int i t)\/(∃ x t,k=Sum.inr x/\v=Value.str x t)
 | .inl i,v,h=>by
  obtain⟨t,e⟩:=Value.isInt_shape (k:=i) (v:=v) h;exact .inl ⟨i,t,rfl,e⟩
 | .inr x,v,h=>by
  obtain⟨t,e⟩:=Value.isStrOf_shape (x:=x) (v:=v) h;exact .inr ⟨x,t,rfl,e⟩
theorem zkz(a b:Int):decide ((Sum.inl a:Key)=Sum.inl b) =(a == b):=by
 by_cases e:a=b
 ·subst e;simp
 ·have h:¬(Sum.inl a:Key)=Sum.inl b:=fun q=>e (Sum.inl.inj q)
  rw[decide_eq_false h];exact(beq_eq_false_iff_ne.mpr e).symm
theorem zkb(a b:Str):decide ((Sum.inr a:Key)=Sum.inr b)=decide (a=b):=by
 by_cases e:a=b
 ·subst e;simp
 ·have h:¬(Sum.inr a:Key)=Sum.inr b:=fun q=>e (Sum.inr.inj q)
  rw[decide_eq_false h,decide_eq_false e]
theorem zjG(a:Int)(b:Str):decide ((Sum.inl a:Key)=Sum.inr b)=false:=decide_eq_false (fun q=>nomatch q)
theorem zkn(a:Str)(b:Int):decide ((Sum.inr a:Key)=Sum.inl b)=false:=decide_eq_false (fun q=>nomatch q)
def mixKind(prog:Program)(w:World):PySem.KeyKind prog w Key where
 is:=keyIs
 hash:=keyH w
 inj:=fun v a b ha hb=>by
  rcases yJ ha with⟨i,t,rfl,rfl⟩|⟨x,t,rfl,rfl⟩
  ·rcases yJ hb with⟨j,u,rfl,e⟩|⟨y,u,rfl,e⟩
   ·injection e with e1 _;rw[e1]
   ·exact nomatch e
  ·rcases yJ hb with⟨j,u,rfl,e⟩|⟨y,u,rfl,e⟩
   ·exact nomatch e
   ·injection e with e1 _;rw[e1]
 byValue:=fun k v h=>by
  rcases yJ h with⟨i,t,rfl,rfl⟩|⟨x,t,rfl,rfl⟩ <;> rfl
 pyHash:=fun hv h=>by
  rcases yJ hv with⟨i,t,rfl,rfl⟩|⟨x,t,rfl,rfl⟩
  ·exact wpAny_pyHash_int h
  ·exact wpAny_pyHash_str h
 eqBool:=fun hu hv h=>by
  rcases yJ hu with⟨i,t,rfl,rfl⟩|⟨x,t,rfl,rfl⟩
  ·rcases yJ hv with⟨j,u,rfl,rfl⟩|⟨y,u,rfl,rfl⟩
   ·rw[zkz]at h;exact wpAny_eqBool_int h
   ·rw[zjG]at h;exact SeqAt.EqAt.int_str i t y u _ _ _ _ h
  ·rcases yJ hv with⟨j,u,rfl,rfl⟩|⟨y,u,rfl,rfl⟩
   ·rw[zkn]at h;exact SeqAt.EqAt.str_int x t j u _ _ _ _ h
   ·rw[zkb]at h;exact wpAny_eqBool_str h
 «strs»:=fun k x t v h=>by
  rcases yJ h with⟨i,u,rfl,e⟩|⟨y,u,rfl,e⟩
  ·exact nomatch e
  ·injection e with e1 _
   subst e1;cases v <;> rfl
end L2
namespace L2
open PySem PySem.Spec PyProof.Rows
inductive V where
 | non|bl (b:Bool) | int (i:Int) | str (x:Str) | byt (b:Array UInt8) | flt (b:UInt64) | ref (a:Addr) | ty (n:String)
 deriving DecidableEq
def RelV:V->Value->Prop
 | .non,u=>u=Value.none
 | .bl b,u=>u=Value.bool b
 | .int i,u=>∃ t,u=Value.int i t
 | .str x,u=>∃ t,u=Value.str x t
 | .byt b,u=>∃ t,u=Value.bytes b t
 | .flt b,u=>∃ t,u=Value.float b t
 | .ref a,u=>u=Value.ref a
 | .ty n,u=>u=Value.type n
abbrev Vals:List V->List Value->Prop:=Paired RelV
theorem Vals.length{xs:List V}{us:List Value}(r:Vals xs us):xs.length=us.length:=Paired.length r
theorem Vals.get:∀ {xs:List V} {us:List Value} {i:Nat} {x:V},Vals xs us->xs[i]?=some x->∃ u,us[i]?=some u/\RelV x u
 | _,_,_,_,.nil,e=>by simp at e
 | _,_,0,_,.cons r _,e=>by simp at e;subst e;exact⟨_,rfl,r⟩
 | _,_,i+1,x,.cons _ t,e=>by
  obtain⟨u,h1,h2⟩:=Vals.get (i:=i) (x:=x) t (by simpa using e);exact⟨u,by simpa using h1,h2⟩
theorem Vals.set{x:V}{u:Value}(r:RelV x u):∀ {xs:List V} {us:List Value} (i:Nat),Vals xs us->Vals (xs.set i x) (us.set i u)
 | _,_,_,.nil=>.nil
 | _,_,0,.cons _ t=>.cons r t
 | _,_,i+1,.cons q t=>.cons q (Vals.set r i t)
theorem Vals.append:∀ {xs ys:List V} {us ws:List Value},Vals xs us->Vals ys ws->Vals (xs++ys) (us++ws)
 | _,_,_,_,.nil,s=>s
 | _,_,_,_,.cons r t,s=>.cons r (Vals.append t s)
theorem Vals.take:∀ {xs:List V} {us:List Value} (n:Nat),Vals xs us->Vals (xs.take n) (us.take n)
 | _,_,0,_=>.nil
 | _,_,_+1,.nil=>.nil
 | _,_,n+1,.cons r t=>.cons r (Vals.take n t)
theorem Vals.drop:∀ {xs:List V} {us:List Value} (n:Nat),Vals xs us->Vals (xs.drop n) (us.drop n)
 | _,_,0,r=>r
 | _,_,_+1,.nil=>.nil
 | _,_,n+1,.cons _ t=>Vals.drop n t
def RelO:Option V->Option Value->Prop
 | some v,some u=>RelV v u
 | none,none=>True
 | _,_=>False
def KV{κ:Type}:List (κ×V)->List (κ×Value)->Prop:=Paired fun(p:κ×V) (q:κ×Value)=>p.1=q.1/\RelV p.2 q.2
def kV:Key->V
 | .inl i=>.int i
 | .inr x=>.str x
inductive HO where
 | lst (xs:List V)
 | tup (xs:List V)
 | dK (kvs:List (Key×V)) | dT (kvs:List (List Key×V))
 | set (S:Int->Bool) (n:Nat)
 | ins (C dx:Addr) (fs:List (Str×V))
 | own (x:Addr)
 | xd (fs:List (Str×V))
 | met (f x:Addr)
 | rng (lo hi:Int)
 | frz (o:Obj) (u:HO)
 | tbl (ps:Array Value)
 | ext (φ:Heap->Prop)
abbrev Hp:=Addr->Option HO
def upd(H:Hp)(a:Addr)(o:HO):Hp:=fun b=>if b=a then some o else H b
theorem zh{H:Hp}{a:Addr}{o:HO}:upd H a o a=some o:=by unfold upd;rw[if_pos rfl]
theorem zN{H:Hp}{a b:Addr}{o:HO}(h:b≠a):upd H a o b=H b:=by unfold upd;rw[if_neg h]
theorem yg{H:Hp}{a b:Addr}{o:HO}(h:H a=some o)(h':H b=none):a≠b:=by
 intro e;subst e;rw[h]at h';cases h'
section
variable(P:Program)(w:World)
def kaB(H:Hp)(h:Heap)(a:Addr):HO->Prop
 | .lst xs=>xs.length<=sizeLine/\∃(its:List Value)(n:Nat),Vals xs its/\h.get? a=some { cls:=.type "list",data:=.seq its.toArray n }
 | .tup xs=>xs.length<=sizeLine/\∃ its:List Value,Vals xs its/\IsTup h a its.toArray
 | .dK kvs=>kvs.length<=sizeLine/\(a == sysModules)=false/\∃ vs,KV kvs vs/\h.DictOf (mixKind P w) a vs
 | .dT kvs=>kvs.length<=sizeLine/\(a == sysModules)=false/\∃ xs:List (List Key×Addr×Value),
   Paired (fun(p:List Key×V) (q:List Key×Addr×Value)=>p.1=q.1/\H q.2.1=some (.tup (p.1.map kV))/\RelV p.2 q.2.2) kvs xs /\
   ∃ o es ep,h.get? a=some o/\o.ExactDict/\o.data=.dict es ep/\es.toList=xs.map (entryOfKey (tupleKind (mixKind P w)))/\(xs.map (·.1)).Nodup
 | .set S n=>h.SetOf (intKind P w) a S n
 | .ins C dx fs=>H dx=some (.own a)/\fs.length<=1000/\dx≠a/\h.get? a=some (PySem.W.instObj C dx) /\
   ∃ mA,h.Ns1 dx mA/\(∀ f,RelO (fs.lookup f) (mA f))/\PySem.Within mA (fs.map (·.1))
 | .own _=>∃ o,h.get? a=some o
 | .xd fs=>∃ mA,h.Ns1 a mA/\∀ f,RelO (fs.lookup f) (mA f)
 | .rng lo hi=>∃ t u v,h.get? a=some { cls:=.type "range",data:=.fields #[.int lo t,.int hi u,.int 1 v] }
 | .frz o u=>h.get? a=some o/\kaB H h a u
 | .tbl ps=>h.get? a=some { cls:=.none,data:=.fields ps }
 | .met f x=>h.get? a=some (PySem.W.methodObj (.ref f) (.ref x))
 | .ext φ=>φ h/\(∃ o,h.get? a=some o)/\∀ h1 h2:Heap,φ h1->(∀ o,h1.get? a=some o->h2.get? a=some o)->φ h2
def HOk(H:Hp)(h:Heap):Prop:=∀ a o,H a=some o->kaB P w H h a o
end
section
variable{P:Program}{w:World}{H H':Hp}{h h':Heap}{a:Addr}{o:HO}
theorem kaB.lt(x:kaB P w H h a o):a<h.objs.size:=by
 cases o with
 | lst xs=>obtain⟨_,_,_,_,e⟩:=x;exact Heap.lt_size e
 | tup xs=>obtain⟨_,_,_,p⟩:=x;exact p.lt
 | dK kvs=>obtain⟨_,_,_,_,o,_,_,e,_⟩:=x;exact Heap.lt_size e
 | dT kvs=>obtain⟨_,_,_,_,o,_,_,e,_⟩:=x;exact Heap.lt_size e
 | set S n=>obtain⟨o,_,_,_,e,_⟩:=x;exact Heap.lt_size e
 | ins C dx fs=>obtain⟨_,_,_,e,_⟩:=x;exact Heap.lt_size e
 | own y=>obtain⟨_,e⟩:=x;exact Heap.lt_size e
 | xd fs=>obtain⟨_,⟨_,_,_,e,_⟩,_⟩:=x;exact Heap.lt_size e
 | rng lo hi=>obtain⟨_,_,_,e⟩:=x;exact Heap.lt_size e
 | frz ob u=>obtain⟨e,_⟩:=x;exact Heap.lt_size e
 | tbl ps=>exact Heap.lt_size (show h.get? a=some _ from x)
 | met f y=>exact Heap.lt_size (show h.get? a=some _ from x)
 | ext φ=>obtain⟨_,⟨_,e⟩,_⟩:=x;exact Heap.lt_size e
theorem Paired.mapP{α β:Type}{F G:α->β->Prop}:∀ {l₁:List α} {l₂:List β},Paired F l₁ l₂->(∀ a b,F a b->G a b)->Paired G l₁ l₂
 | _,_,.nil,_=>.nil
 | _,_,.cons r t,f=>.cons (f _ _ r) (Paired.mapP t f)
theorem kaB.stay(x:kaB P w H h a o)(k:∀ b u,(b=a\/H b=some (.own a))->h.get? b=some u->h'.get? b=some u)
  (ho:∀ b,H b=some (.own a)->H' b=some (.own a)) (ht:∀ b xs,H b=some (.tup xs)->H' b=some (.tup xs)):kaB P w H' h' a o:=by
 induction o with
 | lst xs=>obtain⟨z,its,n,r,e⟩:=x;exact⟨z,its,n,r,k _ _ (.inl rfl) e⟩
 | tup xs=>obtain⟨z,its,r,ob,e,c⟩:=x;exact⟨z,its,r,ob,k _ _ (.inl rfl) e,c⟩
 | dK kvs=>obtain⟨z,y,vs,r,ob,es,ep,e,c⟩:=x;exact⟨z,y,vs,r,ob,es,ep,k _ _ (.inl rfl) e,c⟩
 | dT kvs =>
  obtain⟨z,y,xs,r,ob,es,ep,e,c⟩:=x;exact⟨z,y,xs,Paired.mapP r fun p q z=>⟨z.1,ht _ _ z.2.1,z.2.2⟩,ob,es,ep,k _ _ (.inl rfl) e,c⟩
 | set S n=>obtain⟨ob,es,ep,t,e,c⟩:=x;exact⟨ob,es,ep,t,k _ _ (.inl rfl) e,c⟩
 | ins C dx fs =>
  obtain⟨d,z,ne,e,mA,⟨od,es,ep,e2,c⟩,r⟩:=x;exact⟨ho _ d,z,ne,k _ _ (.inl rfl) e,mA,⟨od,es,ep,k _ _ (.inr d) e2,c⟩,r⟩
 | own y=>obtain⟨ob,e⟩:=x;exact⟨ob,k _ _ (.inl rfl) e⟩
 | xd fs=>obtain⟨mA,⟨od,es,ep,e,c⟩,r⟩:=x;exact⟨mA,⟨od,es,ep,k _ _ (.inl rfl) e,c⟩,r⟩
 | rng lo hi=>obtain⟨t,u,v,e⟩:=x;exact⟨t,u,v,k _ _ (.inl rfl) e⟩
 | frz ob u ih=>obtain⟨e,q⟩:=x;exact⟨k _ _ (.inl rfl) e,ih q⟩
 | tbl ps =>
  have e:h.get? a=some { cls:=.none,data:=.fields ps }:=x;show h'.get? a=some { cls:=.none,data:=.fields ps };exact k a _ (.inl rfl) e
 | met f y =>
  have e:h.get? a=some (PySem.W.methodObj (.ref f) (.ref y)):=x;show h'.get? a=some (PySem.W.methodObj (.ref f) (.ref y));exact k a _ (.inl rfl) e
 | ext φ=>obtain⟨p,⟨o,e⟩,st⟩:=x;exact⟨st _ _ p fun o q=>k _ _ (.inl rfl) q,⟨o,k _ _ (.inl rfl) e⟩,st⟩
theorem HOk.lt(x:HOk P w H h)(e:H a=some o):a<h.objs.size:=(x a o e).lt
theorem HOk.fresh(x:HOk P w H h)(e:h.objs.size<=a):H a=none:=by
 cases q:H a with
 | none=>rfl
 | some u=>exact absurd (wV (x.lt q) e) (vY _)
theorem HOk.kept(x:HOk P w H h)(k:∀ b u,h.get? b=some u->h'.get? b=some u):HOk P w H h':=fun a o e =>
 (x a o e).stay (fun b u _ q=>k b u q) (fun _ q=>q) fun _ _ q=>q
theorem HOk.laid(x:HOk P w H h)(k:∀ b u,h.get? b=some u->h'.get? b=some u)(hp:h.objs.size<=a)(new:kaB P w (upd H a o) h' a o):HOk P w (upd H a o) h':=fun b u e=>by
 have hn:=x.fresh hp
 by_cases hb:b=a
 ·subst hb;rw[zh]at e;cases e;exact new
 ·rw[zN hb]at e;exact(x b u e).stay (fun c v _ q=>k c v q) (fun c q=>by rw[zN (yg q hn)];exact q) fun c xs q=>by rw[zN (yg q hn)];exact q
end
def Rd(H:Hp)(a:Addr)(u:HO):Prop:=H a=some u\/∃ o,H a=some (.frz o u)
theorem Rd.ok{P:Program}{w:World}{H:Hp}{h:Heap}{a:Addr}{u:HO}(r:Rd H a u)(x:HOk P w H h):kaB P w H h a u:=by
 rcases r with r|⟨o,r⟩
 ·exact x a u r
 ·obtain⟨_,q⟩:=x a _ r;exact q
def Mut:Option HO->Prop
 | some (.lst _)=>True
 | some (.dK _)=>True
 | some (.dT _)=>True
 | some (.set _ _)=>True
 | some (.ins _ _ _)=>True
 | some (.ext _)=>True
 | _=>False
section
variable{P:Program}{w:World}{H:Hp}{h h':Heap}{x e:Addr}{o':HO}
theorem HOk.write(ok:HOk P w H h)(mu:Mut (H x))(he:e=x\/H e=some (.own x))(k:∀ b u,b≠e->h.get? b=some u->h'.get? b=some u)(heo:∃ u,h'.get? e=some u)
  (new:kaB P w (upd H x o') h' x o'):HOk P w (upd H x o') h':=fun b u q=>by
 have nown:∀ c y,H c=some (.own y)->c≠x:=fun c y r z=>by subst z;rw[r]at mu;exact mu
 have ntup:∀ c xs,H c=some (.tup xs)->c≠x:=fun c xs r z=>by subst z;rw[r]at mu;exact mu
 by_cases hb:b=x
 ·subst hb;rw[zh]at q;cases q;exact new
 ·rw[zN hb]at q
  by_cases hbe:b=e
  ·have q':H b=some (.own x):=by
    rcases he with z|z
    ·exact absurd (hbe.trans z) hb
    ·rw[hbe];exact z
   rw[q]at q';cases q';obtain⟨v,hv⟩:=heo;exact⟨v,by rw[hbe];exact hv⟩
  ·refine(ok b u q).stay (fun c v hc r=>k c v ?_ r) (fun c r=>by rw[zN (nown c b r)];exact r) fun c xs r=>by rw[zN (ntup c xs r)];exact r
   rcases hc with rfl|hc
   ·exact hbe
   ·rintro rfl
    rcases he with z|z
    ·exact nown c b hc z
    ·rw[hc]at z;cases z;exact hb rfl
end
structure Un(fs ex:List Addr)(H H':Hp)(h h':Heap):Prop where
 keep:∀ b o,h.get? b=some o->H b=none->b∉fs->b∉ex->h'.get? b=some o
 slot:∀ b o,h.get? b=some o->H b=none->b∈fs->b∉ex->∃ sl,h'.get? b=some { o with slots:=sl }
 free:∀ b o,h.get? b=some o->H b=none->b∉ex->H' b=none
 there:∀ b o,h.get? b=some o->b∉ex->∃ o',h'.get? b=some o'
 tups:∀ b xs,H b=some (.tup xs)->H' b=some (.tup xs)
 frzs:∀ b o u,H b=some (.frz o u)->H' b=some (.frz o u)
 tbls:∀ b ps,H b=some (.tbl ps)->∃ more,H' b=some (.tbl (ps++more))
section
variable{fs fs' ex ex':List Addr}{H H1 H2:Hp}{h h1 h2 h':Heap}{a x e:Addr}{o:HO}
theorem Un.any(u:Un fs ex H H1 h h1){b:Addr}{ob:Obj}(q:h.get? b=some ob)(n:H b=none)(hx:b∉ex):∃ sl,h1.get? b=some { ob with slots:=sl }:=by
 by_cases hb:b∈fs
 ·exact u.slot b ob q n hb hx
 ·exact⟨ob.slots,u.keep b ob q n hb hx⟩
theorem Un.kept(k:∀ b u,h.get? b=some u->h'.get? b=some u):Un fs ex H H h h' :=
 ⟨fun b ob q _ _ _=>k b ob q,fun b ob q _ _ _=>⟨ob.slots,k b ob q⟩,fun _ _ _ n _=>n,fun b ob q _=>⟨ob,k b ob q⟩,fun _ _ q=>q,fun _ _ _ q=>q,fun _ ps q=>⟨#[],by rw[q];simp⟩⟩
theorem Un.refl:Un fs ex H H h h:=Un.kept fun _ _ q=>q
theorem Un.laid(k:∀ b u,h.get? b=some u->h'.get? b=some u)(hp:h.objs.size<=a)(hn:H a=none):Un fs ex H (upd H a o) h h' where
 keep:=fun b u q _ _ _=>k b u q
 slot:=fun b u q _ _ _=>⟨u.slots,k b u q⟩
 free:=fun b u q n _=>by rw[zN (wY (wV (Heap.lt_size q) hp))];exact n
 there:=fun b u q _=>⟨u,k b u q⟩
 tups:=fun b xs q=>by rw[zN (yg q hn)];exact q
 frzs:=fun b u xs q=>by rw[zN (yg q hn)];exact q
 tbls:=fun b ps q=>⟨#[],by rw[zN (yg q hn),q];simp⟩
theorem Un.write(mu:Mut (H x))(he:e=x\/H e=some (.own x))(k:∀ b u,b≠e->h.get? b=some u->h'.get? b=some u)(heo:∃ u,h'.get? e=some u):Un fs ex H (upd H x o) h h':=by
 have hx:∀ b,H b=none->b≠x:=fun b n z=>by subst z;rw[n]at mu;exact mu
 have hb:∀ b,H b=none->b≠e:=fun b n z=>by
  subst z
  rcases he with r|r
  ·exact hx b n r
  ·rw[n]at r;cases r
 have hm:∀ b u,H b=some u->¬ Mut (some u)->b≠x:=fun b u q nm z=>by subst z;rw[q]at mu;exact nm mu
 refine⟨fun b u q n _ _=>k b u (hb b n) q,fun b u q n _ _=>⟨u.slots,k b u (hb b n) q⟩,fun b u q n _=>by rw[zN (hx b n)];exact n,fun b u q _=>?_,
  fun b xs q=>by rw[zN (hm b _ q fun z=>z)];exact q,fun b u xs q=>by rw[zN (hm b _ q fun z=>z)];exact q,fun b ps q=>⟨#[],by rw[zN (hm b _ q fun z=>z),q];simp⟩⟩
 by_cases hbe:b=e
 ·subst hbe;exact heo
 ·exact⟨u,k b u hbe q⟩
end
def trk(h:Heap)(H:Hp):List Addr:=(vd h.objs.size).filter fun a=>(H a).isSome
def hidT(h:Heap)(H:Hp):Heap:=PySem.W.hideAll h (trk h H)
theorem ze1(h:Heap)(H:Hp):(hidT h H).objs.size=h.objs.size:=PySem.W.hideAll_size _ _
theorem zhm{h:Heap}{H:Hp}{b:Addr}{o:Obj}(e:h.get? b=some o)(n:H b=none):(hidT h H).get? b=some o :=
 PySem.W.hideAll_get _ e fun hm=>by
  have q:(H b).isSome=true:=(wX.mp hm).2;rw[n]at q;simp at q
theorem ziV{h:Heap}{H:Hp}{b:Addr}{o:Obj}(e:(hidT h H).get? b=some o):h.get? b=some o/\H b=none:=by
 have e':h.get? b=some o:=PySem.W.of_hideAll (trk h H) e;refine⟨e',?_⟩;cases q:H b with
 | none=>rfl
 | some x =>
  have hm:b∈trk h H:=wX.mpr ⟨vp.mpr (Heap.lt_size e'),by simp[q]⟩;have z:(hidT h H).get? b=none:=PySem.W.hideAll_none (trk h H) hm;rw[z]at e;cases e
end L2
namespace L2
open PySem PySem.Spec PyProof.Rows
structure Mod(K:PySem.W.Frag)(mg:Str->Option Value)(base:Heap):Prop where
 kin:K.In base
 glob:base.Ns mainGlobals mg
 blt:∃ mb,base.Ns builtinsNs mb/\∀ x:Str,x ≠ "__name__" -> mb x=bootBuiltins x
 nolimit:base.NoLimit
structure Cx where
 prog:Program
 w:World
 K:PySem.W.Frag
 mg:Str->Option Value
 base:Heap
 A:Around
 N:List Str
 s₀:Shared
 H₀:Hp
 env:Env
 outer:List Env
 stack:List Env
 ex:List Addr
 fn:Str->Bool
 calm:Bool
 pn:List (Addr×Obj)
 xe:Value->Shared->Prop
def frs(l:List Env):List Addr:=l.filterMap (·.frame)
abbrev Cx.fs(X:Cx):List Addr:=frs X.outer
def Vis(sc:Scope)(x:Str):Prop:=sc.names.lookup x=some .local\/sc.names.lookup x=some .cell\/sc.names.lookup x=some .free
def Loc(sc:Scope)(x:Str):Prop:=sc.names.lookup x=some .local\/sc.names.lookup x=some .cell
def Look(env:Env)(h:Heap)(m:Str->Option Value)(x:Str)(u:Value):Prop :=
 (env.kindOf x=some .local/\m x=some u)\/((env.kindOf x=some .cell\/env.kindOf x=some .free)/\∃ c,env.cells.lookup x=some c/\h.IsCell c (some u))
structure Cx.Ok(X:Cx):Prop where
 mod:Mod X.K X.mg X.base
 kind:X.env.scope.kind=.function
 glob:X.env.globals=mainGlobals
 blt:X.env.builtins=builtinsNs
 above:X.s₀.heap.objs.size<=X.env.locals
 inj:∀ x y c,X.env.cells.lookup x=some c->X.env.cells.lookup y=some c->x=y
 has:∀ x,(X.env.kindOf x=some .cell\/X.env.kindOf x=some .free)->∃ c,X.env.cells.lookup x=some c
 cab:∀ x c,X.fn x=true->X.env.cells.lookup x=some c->X.s₀.heap.objs.size<=c
 hd:X.calm=true->X.A.handled=none
 frames:X.A.frames=some X.stack
 stk:X.stack=X.outer\/(X.stack=X.env::X.outer/\X.env.frame=some X.env.locals)
 exf:∀ b∈X.ex,b≠X.env.locals/\∀ x c,X.env.cells.lookup x=some c->c≠b
 bs:∀ b o,X.base.get? b=some o->X.s₀.heap.get? b=some o/\X.H₀ b=none
 bsz:X.base.objs.size<=X.s₀.heap.objs.size
 noex:∀ b o,X.base.get? b=some o->b∉X.ex
 exfs:∀ b∈X.ex,b∉X.fs
 funs:X.s₀.heap.FunFrames X.base X.outer
 frf:∀ b∈X.fs,X.H₀ b=none
structure Inv(X:Cx)(pins:List (Addr×Obj))(σ:List (Option V))(H:Hp)(s:Shared):Prop where
 ok:X.Ok
 os:s.os=X.s₀.os
 bare:AllBare s.gens
 base:Un X.fs X.ex X.H₀ H X.s₀.heap s.heap
 loc:∃ m,s.heap.Ns X.env.locals m/\∀(i:Nat)(x:Str)(v:V),X.N[i]?=some x->σ[i]?=some (some v)->Vis X.env.scope x->∃ u,RelV v u/\Look X.env s.heap m x u
 cell:∀ x c,X.env.cells.lookup x=some c->∃ v,s.heap.IsCell c v
 free:H X.env.locals=none
 freeC:∀ x c,X.env.cells.lookup x=some c->H c=none
 pin:∀ p∈X.pn++pins,s.heap.get? p.1=some p.2/\H p.1=none/\p.1≠X.env.locals/\p.1∉X.fs/\∀ v,p.2.data≠.cell v
 hok:HOk X.prog X.w H s.heap
 len:σ.length=X.N.length
section
variable{X:Cx}{pins:List (Addr×Obj)}{σ:List (Option V)}{H H':Hp}{s:Shared}{h':Heap}
theorem Cx.Ok.nofr(ok:X.Ok){b:Addr}{o:Obj}(e:X.base.get? b=some o):b∉X.fs:=fun hb=>by
 have:=(ok.funs.mem hb).1;rw[e]at this;cases this
theorem Inv.bs(I:Inv X pins σ H s):∀ b o,X.base.get? b=some o->s.heap.get? b=some o/\H b=none:=fun b o e =>
 ⟨I.base.keep b o (I.ok.bs b o e).1 (I.ok.bs b o e).2 (I.ok.nofr e) (I.ok.noex b o e),I.base.free b o (I.ok.bs b o e).1 (I.ok.bs b o e).2 (I.ok.noex b o e)⟩
theorem Inv.bk(I:Inv X pins σ H s):∀ b o,X.base.get? b=some o->s.heap.get? b=some o:=fun b o e=>(I.bs b o e).1
theorem Inv.mod(I:Inv X pins σ H s):Mod X.K X.mg X.base:=I.ok.mod
theorem Inv.kIn(I:Inv X pins σ H s):X.K.In s.heap:=I.ok.mod.kin.keeps I.bk
theorem Inv.nolimit(I:Inv X pins σ H s):s.heap.NoLimit:=I.ok.mod.nolimit.keeps I.bk
theorem Inv.lt(I:Inv X pins σ H s):X.env.locals<s.heap.objs.size:=let ⟨_,hn,_⟩:=I.loc;hn.lt
theorem Inv.sz(I:Inv X pins σ H s):X.s₀.heap.objs.size<=s.heap.objs.size:=wI I.ok.above (uh I.lt)
theorem Inv.nofs(I:Inv X pins σ H s){a:Addr}(h:s.heap.objs.size<=a):a∉X.fs:=fun hb=>by
 obtain⟨_,o,ho,_⟩:=I.ok.funs.mem hb;exact absurd (wV (Heap.lt_size ho) (wI I.sz h)) (vY _)
theorem Inv.cne(I:Inv X pins σ H s):∀ x c,X.env.cells.lookup x=some c->c≠X.env.locals:=fun x c e z=>by
 obtain⟨v,o,ho,hd⟩:=I.cell x c e;obtain⟨m,⟨o',es,ep,ho',hd',_⟩,_⟩:=I.loc;rw[z,ho']at ho;cases ho;rw[hd']at hd;cases hd
theorem Inv.funs(I:Inv X pins σ H s):s.heap.FunFrames X.base X.outer:=by
 have all:∀(l:List Env),(∀ b∈frs l,b∈X.fs)->X.s₀.heap.FunFrames X.base l->s.heap.FunFrames X.base l:=by
  intro l
  induction l with
  | nil=>intro _ _;trivial
  | cons env r ih =>
   intro hs hl;obtain⟨hk,⟨L,o,hf,hn,ho,hd⟩,hr⟩:=hl;have hL:L∈X.fs:=hs L (by unfold frs;rw[GA,hf];exact wt);obtain⟨sl,e⟩:=I.base.slot L o ho (I.ok.frf L hL) hL fun z=>I.ok.exfs L z hL
   exact⟨hk,⟨L,_,hf,hn,e,hd⟩,ih (fun b hb=>hs b (by unfold frs;rw[GA,hf];exact wv _ hb)) hr⟩
 exact all X.outer (fun _ hb=>hb) I.ok.funs
theorem Inv.stack(I:Inv X pins σ H s):s.heap.FunFrames X.base X.stack:=by
 rcases I.ok.stk with e|⟨e,hf⟩
 ·rw[e];exact I.funs
 ·rw[e];obtain⟨m,hn,_⟩:=I.loc;refine .cons (by rw[I.ok.kind];decide) hf hn ?_ I.funs;exact Heap.get?_none_of_le (wI I.ok.bsz I.ok.above)
theorem Inv.stkSub(I:Inv X pins σ H s):∀ b∈frs X.stack,b∈X.env.locals::X.fs:=fun b hb=>by
 rcases I.ok.stk with e|⟨e,hf⟩
 ·rw[e]at hb;exact wv _ hb
 ·rw[e]at hb;unfold frs at hb;rw[GA,hf]at hb;exact hb
theorem Inv.stkFree(I:Inv X pins σ H s):∀ b∈frs X.stack,H b=none:=fun b hb=>by
 rcases wL.mp (I.stkSub b hb)with e|hb
 ·rw[e];exact I.free
 ·obtain⟨_,o,ho,_⟩:=I.ok.funs.mem hb;exact I.base.free b o ho (I.ok.frf b hb) fun z=>I.ok.exfs b z hb
theorem Inv.step{g':Array GenState}{t':Nat}{d':Drawn}{ch:List Addr}(I:Inv X pins σ H s)
  (hch:∀ b∈ch,(b∈X.ex\/X.s₀.heap.objs.size<=b)/\b≠X.env.locals/\(∀ x c,X.env.cells.lookup x=some c->c≠b)/\∀ p∈X.pn++pins,p.1≠b)
  (keep:∀ b o,b≠X.env.locals->b∉X.fs->b∉ch->s.heap.get? b=some o->H b=none->h'.get? b=some o)
  (slot:∀ b o,b≠X.env.locals->b∈X.fs->b∉ch->s.heap.get? b=some o->H b=none->∃ sl,h'.get? b=some { o with slots:=sl }) (free:∀ b o,b∉ch->s.heap.get? b=some o->H b=none->H' b=none)
  (there:∀ b o,b∉ch->s.heap.get? b=some o->∃ o',h'.get? b=some o')
  (tups:∀ b xs,H b=some (.tup xs)->H' b=some (.tup xs)) (frzs:∀ b o u,H b=some (.frz o u)->H' b=some (.frz o u)) (tbls:∀ b ps,H b=some (.tbl ps)->∃ more,H' b=some (.tbl (ps++more)))
  (ns:∀ m,s.heap.Ns X.env.locals m->h'.Ns X.env.locals m) (hok:HOk X.prog X.w H' h') (hg:AllBare g') :
  Inv X pins σ H' { s with heap:=h',gens:=g',drawn:=d',toks:=t' }:=by
 have neL:∀ b o,X.s₀.heap.get? b=some o->b≠X.env.locals:=fun b o e=>wY (wV (Heap.lt_size e) I.ok.above)
 have neC:∀ b o,X.s₀.heap.get? b=some o->b∉X.ex->b∉ch:=fun b o e hx hb=>by
  rcases (hch b hb).1 with z|z
  ·exact hx z
  ·exact absurd (wV (Heap.lt_size e) z) (vY _)
 have cellK:∀ x c,X.env.cells.lookup x=some c->∀ v,s.heap.IsCell c v->h'.IsCell c v:=fun x c e v ⟨o,ho,hd⟩=>by
  have nch:c∉ch:=fun z=>(hch c z).2.2.1 x c e rfl
  by_cases hc:c∈X.fs
  ·obtain⟨sl,q⟩:=slot c o (I.cne x c e) hc nch ho (I.freeC x c e);exact⟨_,q,hd⟩
  ·exact⟨o,keep c o (I.cne x c e) hc nch ho (I.freeC x c e),hd⟩
 refine⟨I.ok,I.os,hg,⟨fun b o e n hb hx=>?_,fun b o e n hb hx=>?_,fun b o e n hx=>?_,fun b o e hx=>?_,fun b xs e=>tups b xs (I.base.tups b xs e),fun b o xs e=>frzs b o xs (I.base.frzs b o xs e),fun b ps e=>?_⟩,?_,fun x c e=>?_,?_,fun x c e=>?_,fun p hp=>?_,hok,I.len⟩
 ·exact keep b o (neL b o e) hb (neC b o e hx) (I.base.keep b o e n hb hx) (I.base.free b o e n hx)
 ·obtain⟨sl,e1⟩:=I.base.slot b o e n hb hx;obtain⟨sl',e2⟩:=slot b _ (neL b o e) hb (neC b o e hx) e1 (I.base.free b o e n hx);exact⟨sl',e2⟩
 ·obtain⟨o',e1⟩:=I.base.there b o e hx;exact free b o' (neC b o e hx) e1 (I.base.free b o e n hx)
 ·obtain⟨o',e1⟩:=I.base.there b o e hx;exact there b o' (neC b o e hx) e1
 ·obtain⟨m1,e1⟩:=I.base.tbls b ps e;obtain⟨m2,e2⟩:=tbls b _ e1;exact⟨m1++m2,by rw[e2,Array.append_assoc]⟩
 ·obtain⟨m,hn,hl⟩:=I.loc;refine⟨m,ns m hn,fun i x v e1 e2 e3=>?_⟩;obtain⟨u,r,l⟩:=hl i x v e1 e2 e3;refine⟨u,r,?_⟩
  rcases l with l|⟨k,c,e,z⟩
  ·exact .inl l
  ·exact .inr ⟨k,c,e,cellK x c e _ z⟩
 ·obtain⟨v,z⟩:=I.cell x c e;exact⟨v,cellK x c e v z⟩
 ·obtain⟨m,⟨o,_,_,ho,_⟩,_⟩:=I.loc;exact free _ o (fun z=>(hch _ z).2.1 rfl) ho I.free
 ·obtain⟨v,o,ho,hd⟩:=I.cell x c e;exact free c o (fun z=>(hch c z).2.2.1 x c e rfl) ho (I.freeC x c e)
 ·obtain⟨e,n,ne,nf,d⟩:=I.pin p hp;have nch:p.1∉ch:=fun z=>(hch p.1 z).2.2.2 p hp rfl
  exact⟨keep p.1 p.2 ne nf nch e n,free p.1 p.2 nch e n,ne,nf,d⟩
theorem Inv.un{t':Nat}(I:Inv X pins σ H s)(u:Un X.fs [] H H' s.heap h')(hok:HOk X.prog X.w H' h'):Inv X pins σ H' { s with heap:=h',toks:=t' }:=by
 obtain⟨m,⟨o,es,ep,ho,r⟩,_⟩:=id I.loc;obtain⟨sl,hL⟩:=u.any ho I.free (by simp);exact I.step (g':=s.gens) (d':=s.drawn) (ch:=[]) (fun _ z=>nomatch z) (fun b o _ hb _ e n=>u.keep b o e n hb (by simp)) (fun b o _ hb _ e n=>u.slot b o e n hb (by simp)) (fun b o _ e n=>u.free b o e n (by simp)) (fun b o _ e=>u.there b o e (by simp)) u.tups u.frzs u.tbls (fun m' hm=>by
  obtain⟨o',es',ep',ho',r'⟩:=hm;rw[ho]at ho';cases ho';exact⟨_,es',ep',hL,r'⟩) hok I.bare
theorem Inv.call{g':Array GenState}{t':Nat}{d':Drawn}{ch:List Addr}(I:Inv X pins σ H s)(u:Un (frs X.stack) ch H H' s.heap h')(hok:HOk X.prog X.w H' h')(hg:AllBare g')
  (hch:∀ b∈ch,(b∈X.ex\/X.s₀.heap.objs.size<=b)/\b≠X.env.locals/\(∀ x c,X.env.cells.lookup x=some c->c≠b)/\∀ p∈X.pn++pins,p.1≠b) :
  Inv X pins σ H' { s with heap:=h',gens:=g',drawn:=d',toks:=t' }:=by
 obtain⟨m,⟨o,es,ep,ho,r⟩,_⟩:=id I.loc;obtain⟨sl,hL⟩:=u.any ho I.free fun z=>(hch _ z).2.1 rfl
 exact I.step (ch:=ch) hch (fun b o hL hb hc e n=>u.keep b o e n (fun z=>(wL.mp (I.stkSub b z)).elim hL hb) hc) (fun b o _ _ hc e n=>u.any e n hc) (fun b o hc e n=>u.free b o e n hc) (fun b o hc e=>u.there b o e hc) u.tups u.frzs u.tbls (fun m' hm=>by
  obtain⟨o',es',ep',ho',r'⟩:=hm;rw[ho]at ho';cases ho';exact⟨_,es',ep',hL,r'⟩) hok hg
theorem Inv.turned{t':Nat}{it:Addr}(I:Inv X pins σ H s)(k:∀ b o,b≠it->s.heap.get? b=some o->h'.get? b=some o)(hn:H it=none)(hL:it≠X.env.locals)
  (h1:it∈X.ex\/X.s₀.heap.objs.size<=it) (h2:∀ x c,X.env.cells.lookup x=some c->c≠it) (h3:∀ p∈X.pn++pins,p.1≠it):Inv X pins σ H { s with heap:=h',toks:=t' }:=by
 have nit:∀ b u,H b=some u->b≠it:=fun b u e z=>by rw[z,hn]at e;cases e
 refine I.step (g':=s.gens) (d':=s.drawn) (ch:=[it]) (fun b hb=>?_) (fun b o _ _ hc e _=>k b o (fun z=>hc (by simp[z])) e) (fun b o _ _ hc e _=>⟨o.slots,k b o (fun z=>hc (by simp[z])) e⟩) (fun _ _ _ _ n=>n)
  (fun b o hc e=>⟨o,k b o (fun z=>hc (by simp[z])) e⟩) (fun _ _ e=>e) (fun _ _ _ e=>e) (fun b ps e=>⟨#[],by rw[e];simp⟩) (fun m hm=>?_) (fun b u e=>?_) I.bare
 ·have e:b=it:=by simpa using hb
  subst e;exact⟨h1,hL,h2,h3⟩
 ·obtain⟨o,es,ep,ho,r⟩:=hm;exact⟨o,es,ep,k _ o (Ne.symm hL) ho,r⟩
 ·refine(I.hok b u e).stay (fun c v hc q=>k c v ?_ q) (fun _ q=>q) fun _ _ q=>q
  rcases hc with z|z
  ·rw[z];exact nit b u e
  ·exact nit c _ z
theorem Inv.tok(I:Inv X pins σ H s)(t:Nat):Inv X pins σ H { s with toks:=t }:=I.un (h':=s.heap) (t':=t) Un.refl I.hok
theorem Inv.kept{t':Nat}(I:Inv X pins σ H s)(k:∀ b u,s.heap.get? b=some u->h'.get? b=some u):Inv X pins σ H { s with heap:=h',toks:=t' }:=I.un (Un.kept k) (I.hok.kept k)
theorem Inv.laid{a:Addr}{o:HO}{t':Nat}(I:Inv X pins σ H s)(k:∀ b u,s.heap.get? b=some u->h'.get? b=some u)(hp:s.heap.objs.size<=a)(new:kaB X.prog X.w (upd H a o) h' a o) :
  Inv X pins σ (upd H a o) { s with heap:=h',toks:=t' }:=I.un (Un.laid k hp (I.hok.fresh hp)) (I.hok.laid k hp new)
theorem Inv.write{x e:Addr}{o:HO}{t':Nat}(I:Inv X pins σ H s)(mu:Mut (H x))(he:e=x\/H e=some (.own x))(k:∀ b u,b≠e->s.heap.get? b=some u->h'.get? b=some u)(heo:∃ u,h'.get? e=some u)
  (new:kaB X.prog X.w (upd H x o) h' x o):Inv X pins σ (upd H x o) { s with heap:=h',toks:=t' }:=I.un (Un.write mu he k heo) (I.hok.write mu he k heo new)
theorem Inv.weak{σ':List (Option V)}(I:Inv X pins σ H s)(hl:σ'.length=σ.length)(w:∀(i:Nat) v,σ'[i]?=some (some v)->σ[i]?=some (some v)):Inv X pins σ' H s :=
 ⟨I.ok,I.os,I.bare,I.base,let ⟨m,hn,hl'⟩:=I.loc;⟨m,hn,fun i x v e1 e2 e3=>hl' i x v e1 (w i v e2) e3⟩,I.cell,I.free,I.freeC,I.pin,I.hok,hl.trans I.len⟩
theorem Inv.pins_of{pins':List (Addr×Obj)}(I:Inv X pins σ H s)(h:∀ p∈pins',s.heap.get? p.1=some p.2/\H p.1=none/\p.1≠X.env.locals/\p.1∉X.fs/\∀ v,p.2.data≠.cell v):Inv X pins' σ H s :=
 ⟨I.ok,I.os,I.bare,I.base,I.loc,I.cell,I.free,I.freeC,fun p hp=>(wu.mp hp).elim (fun z=>I.pin p (wH _ z)) (h p),I.hok,I.len⟩
theorem zdc{N:List Str}(hN:N.Nodup){i j:Nat}{x:Str}(a:N[i]?=some x)(b:N[j]?=some x):i=j:=by
 obtain⟨h1,e1⟩:=wq.mp a;obtain⟨h2,e2⟩:=wq.mp b;exact(List.getElem_inj hN).mp (e1.trans e2.symm)
theorem zb3{M:Model}{A:Around}{E:Value->Shared->Prop}{i:Nat}{x:Str}{v:V}{u:Value}{Q:Unit->Shared->Prop}(I:Inv X pins σ H s)(hN:X.N.Nodup)(hi:X.N[i]?=some x)(hx:Loc X.env.scope x)(r:RelV v u)
  (h:∀ s',Inv X pins (σ.set i (some v)) H s'->(∃ a,Heap.SameBut a s.heap s'.heap/\(a=X.env.locals\/X.env.cells.lookup x=some a))->Q () s') (hf:X.fn x=true\/X.env.scope.names.lookup x=some .local:=by first|exact .inl rfl|exact .inr rfl|assumption):wpAny M A (storeName X.env x u) Q E s:=by
 obtain⟨m,hn,hl⟩:=id I.loc;have hcls:(X.env.scope.kind == .class || (X.env.scope.kind == .module && X.env.locals != X.env.globals))=false:=by rw[I.ok.kind];rfl
 have hiσ:i<σ.length:=by rw[I.len];exact(wq.mp hi).1
 have cne:=I.cne;have tracked:∀ {a:Addr} {h':Heap},(∃ o,s.heap.get? a=some o/\H a=none)->Heap.SameBut a s.heap h'->HOk X.prog X.w H h':=fun {a h'} ha hs b ob e=>by
  obtain⟨_,_,hfree⟩:=ha;refine(I.hok b ob e).stay (fun c w' hc q=>(hs.2 c ?_).trans q) (fun _ q=>q) fun _ _ q=>q
  rintro rfl
  rcases hc with rfl|hc
  ·rw[hfree]at e;cases e
  ·rw[hfree]at hc;cases hc
 rcases hx with hk|hk
 ·refine wpAny_storeName_local hk hn (fun h' hn' hs=>?_) hcls;obtain⟨oL,_,_,hoL,_⟩:=id hn;refine h _ ⟨I.ok,I.os,I.bare,⟨fun b o e n hb hx=>?_,fun b o e n hb hx=>?_,I.base.free,fun b o e hx=>?_,I.base.tups,I.base.frzs,I.base.tbls⟩,⟨_,hn',fun j y v' e1 e2 e3=>?_⟩,fun y c e=>?_,I.free,I.freeC,fun p hp=>?_,tracked ⟨oL,hoL,I.free⟩ hs,by simpa using I.len⟩ ⟨_,hs,.inl rfl⟩
  ·exact(hs.2 b (wY (wV (Heap.lt_size e) I.ok.above))).trans (I.base.keep b o e n hb hx)
  ·obtain⟨sl,e1⟩:=I.base.slot b o e n hb hx;exact⟨sl,(hs.2 b (wY (wV (Heap.lt_size e) I.ok.above))).trans e1⟩
  ·obtain⟨o',e1⟩:=I.base.there b o e hx;exact⟨o',(hs.2 b (wY (wV (Heap.lt_size e) I.ok.above))).trans e1⟩
  ·by_cases hj:j=i
   ·subst hj;rw[hi]at e1;cases e1;rw[ux hiσ]at e2;cases e2;exact⟨u,r,.inl ⟨hk,by simp⟩⟩
   ·rw[ut (Ne.symm hj)]at e2;obtain⟨u',r',q⟩:=hl j y v' e1 e2 e3;refine⟨u',r',?_⟩
    rcases q with⟨k,e⟩|⟨k,c,e,z⟩
    ·refine .inl ⟨k,?_⟩;have:y≠x:=fun e=>hj (zdc hN e1 (e ▸ hi))
     simp[this,e]
    ·exact .inr ⟨k,c,e,z.sameBut hs (cne y c e)⟩
  ·obtain⟨w',z⟩:=I.cell y c e;exact⟨w',z.sameBut hs (cne y c e)⟩
  ·obtain⟨e,n,ne,nf,d⟩:=I.pin p hp;exact⟨(hs.2 p.1 ne).trans e,n,ne,nf,d⟩
 ·have hfn:X.fn x=true:=by
   rcases hf with z|z
   ·exact z
   ·rw[z]at hk;cases hk
  obtain⟨c,hc⟩:=I.ok.has x (.inl hk);obtain⟨w',z⟩:=I.cell x c hc;refine wpAny_storeName_cell I.ok.kind hk hc z (fun h' hc' hs=>?_);obtain⟨oc,hoc,hocd⟩:=id z;refine h { s with heap:=h' } ⟨I.ok,I.os,I.bare,⟨fun b o e n hb hx=>?_,fun b o e n hb hx=>?_,I.base.free,fun b o e hx=>?_,I.base.tups,I.base.frzs,I.base.tbls⟩,⟨m,hn.sameBut hs (Ne.symm (cne x c hc)),fun j y v' e1 e2 e3=>?_⟩,fun y c' e=>?_,I.free,I.freeC,fun p hp=>?_,tracked ⟨oc,hoc,I.freeC x c hc⟩ hs,by simpa using I.len⟩ ⟨c,hs,.inr hc⟩
  ·exact(hs.2 b (wY (wV (Heap.lt_size e) (I.ok.cab x c hfn hc)))).trans (I.base.keep b o e n hb hx)
  ·obtain⟨sl,e1⟩:=I.base.slot b o e n hb hx;exact⟨sl,(hs.2 b (wY (wV (Heap.lt_size e) (I.ok.cab x c hfn hc)))).trans e1⟩
  ·obtain⟨o',e1⟩:=I.base.there b o e hx;exact⟨o',(hs.2 b (wY (wV (Heap.lt_size e) (I.ok.cab x c hfn hc)))).trans e1⟩
  ·by_cases hj:j=i
   ·subst hj;rw[hi]at e1;cases e1;rw[ux hiσ]at e2;cases e2;exact⟨u,r,.inr ⟨.inl hk,c,hc,hc'⟩⟩
   ·rw[ut (Ne.symm hj)]at e2;obtain⟨u',r',q⟩:=hl j y v' e1 e2 e3;refine⟨u',r',?_⟩
    rcases q with q|⟨k,c',e,z'⟩
    ·exact .inl q
    ·refine .inr ⟨k,c',e,z'.sameBut hs ?_⟩
     rintro rfl
     exact hj (zdc hN e1 (I.ok.inj _ _ _ e hc ▸ hi))
  ·by_cases hcc:c'=c
   ·subst hcc;exact⟨_,hc'⟩
   ·obtain⟨w2,z2⟩:=I.cell y c' e;exact⟨w2,z2.sameBut hs hcc⟩
  ·obtain⟨e,n,ne,nf,d⟩:=I.pin p hp;refine⟨(hs.2 p.1 ?_).trans e,n,ne,nf,d⟩;intro q;rw[q,hoc]at e;have q':oc=p.2:=Option.some.inj e;exact d w' (by rw[← q'];exact hocd)
theorem Yb{M:Model}{A:Around}{E:Value->Shared->Prop}{i:Nat}{x:Str}{v:V}{u:Value}{Q:Unit->Shared->Prop}(I:Inv X pins σ H s)(hN:X.N.Nodup)(hi:X.N[i]?=some x)(hx:Loc X.env.scope x)(r:RelV v u)
  (h:∀ s',Inv X pins (σ.set i (some v)) H s'->Q () s') (hf:X.fn x=true\/X.env.scope.names.lookup x=some .local:=by first|exact .inl rfl|exact .inr rfl|assumption):wpAny M A (storeName X.env x u) Q E s :=
 zb3 I hN hi hx r (fun s' I' _=>h s' I') hf
theorem Inv.call'{s':Shared}{ch:List Addr}(I:Inv X pins σ H s)(ho:s'.os=s.os)(u:Un (frs X.stack) ch H H' s.heap s'.heap)(hok:HOk X.prog X.w H' s'.heap)(hg:AllBare s'.gens)
  (hch:∀ b∈ch,(b∈X.ex\/X.s₀.heap.objs.size<=b)/\b≠X.env.locals/\(∀ x c,X.env.cells.lookup x=some c->c≠b)/\∀ p∈X.pn++pins,p.1≠b):Inv X pins σ H' s':=by
 obtain⟨h',g',d',t',o'⟩:=s';have e:o'=s.os:=ho;subst e;exact I.call (g':=g') (t':=t') (d':=d') u hok hg hch
end
abbrev XK:=Value->Option Addr->Hp->Prop
abbrev St:=List (Option V)
abbrev VK:=V->Hp->Prop
abbrev TE:=St->Hp->VK->Prop
abbrev TT:=St->Hp->(Bool->Hp->Prop)->Prop
abbrev TA:=St->Hp->(List V->Hp->Prop)->Prop
structure Ends where
 nx:St->Hp->Prop
 rt:VK
 bk:St->Hp->Prop:=fun _ _=>False
 ct:St->Hp->Prop:=fun _ _=>False
abbrev TS:=Ends->St->Hp->Prop
def EP(X:Cx)(pins:List (Addr×Obj))(σ:St)(Q:VK)(u:Value)(s':Shared):Prop:=∃ v H',Inv X pins σ H' s'/\RelV v u/\Q v H'
def TP(X:Cx)(pins:List (Addr×Obj))(σ:St)(Q:Bool->Hp->Prop)(b:Bool)(s':Shared):Prop:=∃ H',Inv X pins σ H' s'/\Q b H'
def AP(X:Cx)(pins:List (Addr×Obj))(σ:St)(Q:List V->Hp->Prop)(us:List Value)(s':Shared):Prop:=∃ vs H',Inv X pins σ H' s'/\Vals vs us/\Q vs H'
def SP(X:Cx)(pins:List (Addr×Obj))(D:Ends)(f:Flow)(s':Shared):Prop :=
 match f with
 | .next=>∃ σ' H',Inv X pins σ' H' s'/\D.nx σ' H'
 | .brk=>∃ σ' H',Inv X pins σ' H' s'/\D.bk σ' H'
 | .cont=>∃ σ' H',Inv X pins σ' H' s'/\D.ct σ' H'
 | .ret u=>∃ v σ' H',Inv X pins σ' H' s'/\RelV v u/\D.rt v H'
def PE(X:Cx)(e:Expr)(t:TE):Prop :=
 ∀(pins:List (Addr×Obj))(s:Shared)(σ:St)(H:Hp)(Q:VK),Inv X pins σ H s->t σ H Q->wpAny (model X.prog X.w) X.A (eval e X.env) (EP X pins σ Q) X.xe s
def PT(X:Cx)(e:Expr)(t:TT):Prop :=
 ∀(pins:List (Addr×Obj))(s:Shared)(σ:St)(H:Hp)(Q:Bool->Hp->Prop),Inv X pins σ H s->t σ H Q->wpAny (model X.prog X.w) X.A (isTrue e X.env (eval e X.env)) (TP X pins σ Q) X.xe s
def PW(X:Cx)(e:Expr)(t:TT):Prop :=
 ∀(whole:Sem Value)(pins:List (Addr×Obj))(s:Shared)(σ:St)(H:Hp)(Q:Bool->Hp->Prop),Inv X pins σ H s->t σ H Q->wpAny (model X.prog X.w) X.A (isTrue e X.env whole) (TP X pins σ Q) X.xe s
theorem PW.pt{X:Cx}{e:Expr}{t:TT}(h:PW X e t):PT X e t:=h _
def PA(X:Cx)(es:List Expr)(t:TA):Prop :=
 ∀(pos:Pos)(pins:List (Addr×Obj))(s:Shared)(σ:St)(H:Hp)(Q:List V->Hp->Prop),Inv X pins σ H s->t σ H Q->wpAny (model X.prog X.w) X.A (spliced (backTo pos (starEach es X.env))) (AP X pins σ Q) X.xe s
def PS(X:Cx)(st:Stmt)(t:TS):Prop :=
 ∀(pins:List (Addr×Obj))(s:Shared)(σ:St)(H:Hp)(D:Ends),Inv X pins σ H s->t D σ H->wpAny (model X.prog X.w) X.A (exec st X.env) (SP X pins D) X.xe s
def PSs(X:Cx)(st:List Stmt)(t:TS):Prop :=
 ∀(pins:List (Addr×Obj))(s:Shared)(σ:St)(H:Hp)(D:Ends),Inv X pins σ H s->t D σ H->wpAny (model X.prog X.w) X.A (execs st X.env) (SP X pins D) X.xe s
theorem thn{α:Type}{t:Sem α}{Q Q':α->Shared->Prop}{M:Model}{A:Around}{E:Value->Shared->Prop}{s:Shared}(h:wpAny M A t Q E s)(hQ:∀ a s,Q a s->Q' a s):wpAny M A t Q' E s:=wpAny_mono h hQ fun _ _ x=>x
end L2
namespace L2
open PySem PySem.Spec PyProof.Rows
section
variable{X:Cx}
inductive zix(i:Nat)(σ:St)(H:Hp)(Q:VK):Prop where
 | mk (v:V) (h0_:σ[i]?=some (some v)) (h1_:Q v H):zix i σ H Q
def tVar(i:Nat):TE:=fun σ H Q=>zix i σ H Q
def tC(v:V):TE:=fun _ H Q=>Q v H
theorem zjO {i:Nat} {x:Str} {pos:Pos} (hN:X.N[i]?=some x) (hv:Vis X.env.scope x) (hd:(x ==("__debug__" : Str))=false:=by decide) (hcd:(x ==("__classdict__" : Str))=false:=by decide):PE X (.Name x pos) (tVar i):=by
 intro pins s σ H Q I h;obtain⟨v,e,h⟩:=h;obtain⟨m,hn,hl⟩:=I.loc;obtain⟨u,r,l⟩:=hl i x v hN e hv;have fin:EP X pins σ Q u s:=⟨v,H,I,r,h⟩
 rcases l with⟨hk,hm⟩|⟨hk,c,hc,hcell⟩
 ·exact wpAny_Name (wpAny_loadName_local I.ok.kind hk hn hm fin) hd
 ·rcases hk with hk|hk
  ·exact wpAny_Name (wpAny_loadName_cell I.ok.kind hk hc hcell fin) hd
  ·exact wpAny_Name (wpAny_loadName_free I.ok.kind hk hc hcell fin hcd) hd
theorem zf{i j pos}:PE X (.Constant (.int i) j pos) (tC (.int i)):=fun _ _ _ H _ I h=>wpAny_Constant_int ⟨.int i,H,I.tok _,⟨_,rfl⟩,h⟩
theorem XB{b j pos}:PE X (.Constant (.bool b) j pos) (tC (.bl b)):=fun _ _ _ H _ I h=>Constant_bool ⟨.bl b,H,I,rfl,h⟩
theorem zis{j pos}:PE X (.Constant .none j pos) (tC .non):=fun _ _ _ H _ I h=>Constant_none ⟨.non,H,I,rfl,h⟩
theorem zd0{x j pos}:PE X (.Constant (.str x) j pos) (tC (.str x)):=fun _ _ _ H _ I h=>Calls.Constant_str ⟨.str x,H,I.tok _,⟨_,rfl⟩,h⟩
def Gl(X:Cx)(x:Str):Prop:=X.env.kindOf x=some .globalImplicit
theorem zfu{E:Value->Shared->Prop}{pins:List (Addr×Obj)}{s:Shared}{σ:St}{H:Hp}{x:Str}{u:Value}{pos:Pos}{Q:Value->Shared->Prop}(I:Inv X pins σ H s)(hg:Gl X x)(hm:X.mg x=some u)(h:Q u s)
  (hd:(x ==("__debug__" : Str))=false:=by decide):wpAny (model X.prog X.w) X.A (eval (.Name x pos) X.env) Q E s :=
 Calls.Name_function_global I.ok.kind hg (Calls.loadGlobal_global (by rw[I.ok.glob];exact I.mod.glob.keeps I.bk) hm h) hd
theorem zb7{E:Value->Shared->Prop}{pins:List (Addr×Obj)}{s:Shared}{σ:St}{H:Hp}{x:Str}{u:Value}{pos:Pos}{Q:Value->Shared->Prop}(I:Inv X pins σ H s)(hg:Gl X x)(hm:X.mg x=none)(hv:bootBuiltins x=some u)(h:Q u s)
  (hn:x ≠ "__name__" := by decide) (hd:(x ==("__debug__" : Str))=false:=by decide):wpAny (model X.prog X.w) X.A (eval (.Name x pos) X.env) Q E s:=by
 obtain⟨mb,h1,h2⟩:=I.mod.blt;exact Calls.Name_function_global I.ok.kind hg (Calls.loadGlobal_builtin (by rw[I.ok.glob];exact I.mod.glob.keeps I.bk) hm (by rw[I.ok.blt];exact h1.keeps I.bk) ((h2 x hn).trans hv) h) hd
theorem zgD {x:Str} {v:V} {u:Value} {pos:Pos} (hg:Gl X x) (hm:X.mg x=some u) (r:RelV v u) (hd:(x ==("__debug__" : Str))=false:=by decide):PE X (.Name x pos) (tC v) :=
 fun _ _ _ H _ I h=>zfu I hg hm ⟨v,H,I,r,h⟩ hd
theorem ziN {x:Str} {v:V} {u:Value} {pos:Pos} (hg:Gl X x) (hm:X.mg x=none) (hv:bootBuiltins x=some u) (r:RelV v u) (hn:x ≠ "__name__" := by decide) (hd:(x ==("__debug__" : Str))=false:=by decide):PE X (.Name x pos) (tC v) :=
 fun _ _ _ H _ I h=>zb7 I hg hm hv ⟨v,H,I,r,h⟩ hn hd
variable{a b:Expr}{ta tb:TE}{pos:Pos}
inductive I_tB(x:V)(H1:Hp)(Q:Bool->Hp->Prop):Prop where
 | mk (c:Bool) (h0_:x=.bl c) (h1_:Q c H1):I_tB x H1 Q
def tB(t:TE):TT:=fun σ H Q=>t σ H fun x H1=>I_tB x H1 Q
theorem jL{e:Expr}{t:TE}(h:PE X e t)(he:∀ whole,isTrue e X.env whole =(do let v ← whole;standAt e.pos;holding [v] (truthy v)):=by intro _;rfl):PT X e (tB t):=by
 intro pins s σ H Q I hw;refine isTrue_plain (thn (h pins s σ H _ I hw) fun v s1 ⟨x,H1,I1,r1,q1⟩=>?_) (he _);obtain⟨d,rfl,q⟩:=q1;cases r1;exact wpAny_truthy_bool ⟨H1,I1,q⟩
variable{tA tB':TT}{rest:List Expr}
def tAnd(t u:TT):TT:=fun σ H Q=>t σ H fun c H1=>if c=true then u σ H1 Q else Q false H1
def tOr(t u:TT):TT:=fun σ H Q=>t σ H fun c H1=>if c=true then Q true H1 else u σ H1 Q
def tNot(t:TT):TT:=fun σ H Q=>t σ H fun c H1=>Q (!c) H1
theorem pw_and1(ha:PT X a tA):PW X (.BoolOp .And [a] pos) tA:=by
 intro wh pins s σ H Q I h;refine isTrue_and (thn (ha pins s σ H Q I h) fun c s1 e=>?_);cases c with
 | true=>exact isTrue_and_nil e
 | false=>exact e
theorem pw_or1(ha:PT X a tA):PW X (.BoolOp .Or [a] pos) tA:=by
 intro wh pins s σ H Q I h;refine isTrue_or (thn (ha pins s σ H Q I h) fun c s1 e=>?_);cases c with
 | false=>exact isTrue_or_nil e
 | true=>exact e
theorem pw_and(ha:PT X a tA)(hb:PW X (.BoolOp .And (b::rest) pos) tB'):PW X (.BoolOp .And (a::b::rest) pos) (tAnd tA tB'):=by
 intro wh pins s σ H Q I h;refine isTrue_and (thn (ha pins s σ H _ I h) fun c s1 ⟨H1,I1,q1⟩=>?_);cases c with
 | true=>exact hb wh pins s1 σ H1 Q I1 q1
 | false=>exact⟨H1,I1,q1⟩
theorem pw_or(ha:PT X a tA)(hb:PW X (.BoolOp .Or (b::rest) pos) tB'):PW X (.BoolOp .Or (a::b::rest) pos) (tOr tA tB'):=by
 intro wh pins s σ H Q I h;refine isTrue_or (thn (ha pins s σ H _ I h) fun c s1 ⟨H1,I1,q1⟩=>?_);cases c with
 | true=>exact⟨H1,I1,q1⟩
 | false=>exact hb wh pins s1 σ H1 Q I1 q1
theorem qj(ha:PT X a tA):PT X (.UnaryOp .Not a pos) (tNot tA):=by
 intro pins s σ H Q I h;exact isTrue_not (ha pins s σ H (fun c H1=>Q (!c) H1) I h)
def tAndV(ta tb:TE):TE:=fun σ H Q=>ta σ H fun x H1=>∃ c,x=.bl c/\if c=true then tb σ H1 Q else Q (.bl false) H1
def tOrV(ta tb:TE):TE:=fun σ H Q=>ta σ H fun x H1=>∃ c,x=.bl c/\if c=true then Q (.bl true) H1 else tb σ H1 Q
def tNotV(ta:TE):TE:=fun σ H Q=>ta σ H fun x H1=>∃ c,x=.bl c/\Q (.bl (!c)) H1
theorem QP{op}{t:TE}(h:PE X a t):PE X (.BoolOp op [a] pos) t:=fun pins s σ H Q I hw=>BoolOp_one (h pins s σ H Q I hw)
theorem zbR(ha:PE X a ta)(hb:PE X (.BoolOp .And (b::rest) pos) tb):PE X (.BoolOp .And (a::b::rest) pos) (tAndV ta tb):=by
 intro pins s σ H Q I h;refine BoolOp_and (thn (ha pins s σ H _ I h) fun v s1 ⟨x,H1,I1,r1,q1⟩=>?_);obtain⟨c,rfl,q1⟩:=q1;cases r1;refine wpAny_truthy_bool ?_;cases c with
 | true=>exact hb pins s1 σ H1 Q I1 q1
 | false=>exact⟨.bl false,H1,I1,rfl,q1⟩
theorem zkx(ha:PE X a ta)(hb:PE X (.BoolOp .Or (b::rest) pos) tb):PE X (.BoolOp .Or (a::b::rest) pos) (tOrV ta tb):=by
 intro pins s σ H Q I h;refine BoolOp_or (thn (ha pins s σ H _ I h) fun v s1 ⟨x,H1,I1,r1,q1⟩=>?_);obtain⟨c,rfl,q1⟩:=q1;cases r1;refine wpAny_truthy_bool ?_;cases c with
 | false=>exact hb pins s1 σ H1 Q I1 q1
 | true=>exact⟨.bl true,H1,I1,rfl,q1⟩
theorem zkA(ha:PE X a ta):PE X (.UnaryOp .Not a pos) (tNotV ta):=by
 intro pins s σ H Q I h;refine UnaryOp_ (thn (ha pins s σ H _ I h) fun v s1 ⟨x,H1,I1,r1,q1⟩=>?_);obtain⟨c,rfl,q1⟩:=q1;cases r1;exact not_of (wpAny_truthy_bool ⟨.bl (!c),H1,I1,rfl,q1⟩)
def tIf(t:TT)(ta tb:TE):TE:=fun σ H Q=>t σ H fun c H1=>if c=true then ta σ H1 Q else tb σ H1 Q
theorem zhO{c:Expr}(hc:PT X c tA)(ha:PE X a ta)(hb:PE X b tb):PE X (.IfExp c a b pos) (tIf tA ta tb):=by
 intro pins s σ H Q I h;refine wpAny_IfExp (thn (hc pins s σ H _ I h) fun d s1 ⟨H1,I1,q1⟩=>?_);cases d with
 | true=>exact ha pins s1 σ H1 Q I1 q1
 | false=>exact hb pins s1 σ H1 Q I1 q1
end
end L2
namespace L2
open PySem PySem.Spec PyProof.Rows
def SqL(K:PySem.W.Frag)(H:Hp)(a:Addr)(xs:List V):Prop :=
 Rd H a (.lst xs) \/
  ∃(o:Obj)(its:Array Value)(n:Nat),K.lookup a=some o/\o.cls=.type "list" /\ o.dict=none/\o.data=.seq its n/\its.size<=sizeLine/\Vals xs its.toList
def SqT(K:PySem.W.Frag)(H:Hp)(a:Addr)(xs:List V):Prop :=
 Rd H a (.tup xs) \/
  ∃(o:Obj)(its:Array Value)(n:Nat),K.lookup a=some o/\o.cls=.type "tuple" /\ o.data=.seq its n/\its.size<=sizeLine/\Vals xs its.toList
def absV:Value->Option V
 | .none=>some .non
 | .bool b=>some (.bl b)
 | .int i _=>some (.int i)
 | .str x _=>some (.str x)
 | .bytes b _=>some (.byt b)
 | .float b _=>some (.flt b)
 | .ref a=>some (.ref a)
 | .type n=>some (.ty n)
 | _=>none
theorem RelV.abs{x:V}{u:Value}(r:RelV x u):absV u=some x:=by
 cases x with
 | non=>cases r;rfl
 | bl _=>cases r;rfl
 | int _=>obtain⟨t,rfl⟩:=r;rfl
 | str _=>obtain⟨t,rfl⟩:=r;rfl
 | byt _=>obtain⟨t,rfl⟩:=r;rfl
 | flt _=>obtain⟨t,rfl⟩:=r;rfl
 | ref _=>cases r;rfl
 | ty _=>cases r;rfl
theorem RelV.inj{x y:V}{u:Value}(r:RelV x u)(q:RelV y u):x=y:=Option.some.inj (r.abs.symm.trans q.abs)
theorem Vals.inj:∀ {xs ys:List V} {us:List Value},Vals xs us->Vals ys us->xs=ys
 | _,_,_,.nil,.nil=>rfl
 | _,_,_,.cons r t,.cons r' t'=>by rw[r.inj r',Vals.inj t t']
section
variable{X:Cx}{pins:List (Addr×Obj)}{σ:St}{H:Hp}{s:Shared}{a:Addr}{xs ys:List V}
theorem SqL.of{K:PySem.W.Frag}(h:H a=some (.lst xs)):SqL K H a xs:=.inl (.inl h)
theorem SqT.of{K:PySem.W.Frag}(h:H a=some (.tup xs)):SqT K H a xs:=.inl (.inl h)
theorem Inv.list(I:Inv X pins σ H s)(h:SqL X.K H a xs):∃ its:List Value,Vals xs its/\PlainL s.heap a its.toArray/\xs.length<=sizeLine:=by
 rcases h with h|⟨o,its,n,hk,hc,hd,hs,hz,r⟩
 ·obtain⟨z,its,n,r,e⟩:=h.ok I.hok;exact⟨its,r,⟨_,n,e,rfl,rfl,rfl⟩,z⟩
 ·refine⟨its.toList,r,⟨o,n,I.kIn a o hk,hc,hd,by simpa using hs⟩,?_⟩;have e:=r.length;simp only[Array.length_toList]at e;omega
theorem Inv.tuple(I:Inv X pins σ H s)(h:SqT X.K H a xs):∃ its:List Value,Vals xs its/\IsTup s.heap a its.toArray/\xs.length<=sizeLine:=by
 rcases h with h|⟨o,its,n,hk,hc,hs,hz,r⟩
 ·obtain⟨z,its,r,p⟩:=h.ok I.hok;exact⟨its,r,p,z⟩
 ·refine⟨its.toList,r,⟨o,I.kIn a o hk,hc,n,by simpa using hs⟩,?_⟩;have e:=r.length;simp only[Array.length_toList]at e;omega
theorem Inv.list_inj(I:Inv X pins σ H s)(h:SqL X.K H a xs)(h':SqL X.K H a ys):xs=ys:=by
 obtain⟨its,r,⟨o,n,e,_,_,d⟩,_⟩:=I.list h;obtain⟨its',r',⟨o',n',e',_,_,d'⟩,_⟩:=I.list h';rw[e]at e';cases e';rw[d]at d'
 injection d' with d1 _
 have:its=its':=by simpa using congrArg Array.toList d1
 subst this;exact r.inj r'
theorem Inv.tuple_inj(I:Inv X pins σ H s)(h:SqT X.K H a xs)(h':SqT X.K H a ys):xs=ys:=by
 obtain⟨its,r,⟨o,e,_,n,d⟩,_⟩:=I.tuple h;obtain⟨its',r',⟨o',e',_,n',d'⟩,_⟩:=I.tuple h';rw[e]at e';cases e';rw[d]at d'
 injection d' with d1 _
 have:its=its':=by simpa using congrArg Array.toList d1
 subst this;exact r.inj r'
end
abbrev Cx.wish(X:Cx)(E:Value->Shared->Prop):Cx:={ X with xe:=E }
abbrev Cx.nox(X:Cx):Cx:=X.wish fun _ _=>False
theorem Cx.Ok.wish{X:Cx}(ok:X.Ok)(E:Value->Shared->Prop):(X.wish E).Ok :=
 ⟨ok.mod,ok.kind,ok.glob,ok.blt,ok.above,ok.inj,ok.has,ok.cab,ok.hd,ok.frames,ok.stk,ok.exf,ok.bs,ok.bsz,ok.noex,ok.exfs,ok.funs,ok.frf⟩
theorem Cx.Ok.unwish{X:Cx}{E:Value->Shared->Prop}(ok:(X.wish E).Ok):X.Ok :=
 ⟨ok.mod,ok.kind,ok.glob,ok.blt,ok.above,ok.inj,ok.has,ok.cab,ok.hd,ok.frames,ok.stk,ok.exf,ok.bs,ok.bsz,ok.noex,ok.exfs,ok.funs,ok.frf⟩
section
variable{X:Cx}{pins:List (Addr×Obj)}{σ:St}{H:Hp}{s:Shared}{E:Value->Shared->Prop}
theorem Inv.wish(I:Inv X pins σ H s)(E:Value->Shared->Prop):Inv (X.wish E) pins σ H s:=⟨I.ok.wish E,I.os,I.bare,I.base,I.loc,I.cell,I.free,I.freeC,I.pin,I.hok,I.len⟩
theorem Inv.unwish(I:Inv (X.wish E) pins σ H s):Inv X pins σ H s:=⟨I.ok.unwish,I.os,I.bare,I.base,I.loc,I.cell,I.free,I.freeC,I.pin,I.hok,I.len⟩
theorem SP.unwish{D:Ends}{f:Flow}{s':Shared}(h:SP (X.wish E) pins D f s'):SP X pins D f s':=by
 cases f with
 | next=>obtain⟨σ',H',I,q⟩:=h;exact⟨σ',H',I.unwish,q⟩
 | brk=>obtain⟨σ',H',I,q⟩:=h;exact⟨σ',H',I.unwish,q⟩
 | cont=>obtain⟨σ',H',I,q⟩:=h;exact⟨σ',H',I.unwish,q⟩
 | ret u=>obtain⟨v,σ',H',I,r,q⟩:=h;exact⟨v,σ',H',I.unwish,r,q⟩
theorem PSs.nox{st:List Stmt}{t:TS}(h:PSs X.nox st t):PSs X st t:=fun pins s σ H D I hw =>
 wpAny_mono (h pins s σ H D (I.wish _) hw) (fun _ _ q=>q.unwish) fun _ _ z=>False.elim z
end
section
variable{X:Cx}{st:Stmt}{rest:List Stmt}{t u:TS}{e:Expr}{te:TE}{pos:Pos}
def tNext:TS:=fun D σ H=>D.nx σ H
def tSeq(t u:TS):TS:=fun D σ H=>t { D with nx:=u D } σ H
theorem zK:PSs X [] tNext:=fun _ _ σ H _ I h=>wpAny_execs_nil ⟨σ,H,I,h⟩
theorem zd(h1:PS X st t)(h2:PSs X rest u):PSs X (st::rest) (tSeq t u):=by
 intro pins s σ H D I h;refine wpAny_execs_cons (thn (h1 pins s σ H { D with nx:=u D } I h) fun f s1 q=>?_);cases f with
 | next =>
  obtain⟨σ',H',I',q⟩:=q;exact h2 pins s1 σ' H' D I' q
 | ret v=>exact q
 | brk=>exact q
 | cont=>exact q
theorem zi(h1:PS X st t):PSs X [st] t:=by
 intro pins s σ H D I h;refine wpAny_execs_cons (thn (h1 pins s σ H D I h) fun f s1 q=>?_);cases f with
 | next=>exact wpAny_execs_nil q
 | ret v=>exact q
 | brk=>exact q
 | cont=>exact q
theorem Inv.quiet{pins:List (Addr×Obj)}{σ:St}{H:Hp}{s:Shared}(I:Inv X pins σ H s):interactive X.env=false:=by simp[interactive,I.ok.kind]
def tDrop(te:TE):TS:=fun D σ H=>te σ H fun _ H1=>D.nx σ H1
theorem yU(he:PE X e te)(hs:swapsWith e none pos.line X.env=pure false:=by rfl):PS X (.Expr e pos) (tDrop te):=by
 intro pins s σ H D I h;exact wpAny_Expr_any (thn (he pins s σ H _ I h) fun v s1 ⟨x,H1,I1,r1,q1⟩=>⟨σ,H1,I1,q1⟩) I.quiet hs
def tRet(te:TE):TS:=fun D σ H=>te σ H D.rt
theorem zo(he:PE X e te):PS X (.Return (some e) pos) (tRet te):=by
 intro pins s σ H D I h;exact wpAny_Return_some (thn (he pins s σ H _ I h) fun v s1 ⟨x,H1,I1,r1,q1⟩=>⟨x,σ,H1,I1,r1,q1⟩)
def tIfS(c:TT)(t u:TS):TS:=fun D σ H=>c σ H fun b H1=>if b=true then t D σ H1 else u D σ H1
theorem yn{c:Expr}{a b:List Stmt}{tc:TT}(hc:PT X c tc)(ha:PSs X a t)(hb:PSs X b u):PS X (.If c a b pos) (tIfS tc t u):=by
 intro pins s σ H D I h;refine wpAny_If (thn (hc pins s σ H _ I h) fun d s1 ⟨H1,I1,q1⟩=>?_);cases d with
 | true=>exact ha pins s1 σ H1 D I1 q1
 | false=>exact hb pins s1 σ H1 D I1 q1
def tNever:TS:=fun _ _ _=>False
theorem zdd:PS X st tNever:=fun _ _ _ _ _ _ h=>h.elim
end
abbrev TG:=V->St->Hp->(St->Hp->Prop)->Prop
abbrev TGs:=List V->St->Hp->(St->Hp->Prop)->Prop
def PG(X:Cx)(target:Expr)(t:TG):Prop :=
 ∀(pins:List (Addr×Obj))(s:Shared)(σ:St)(H:Hp)(v:V)(u:Value)(Q:St->Hp->Prop),Inv X pins σ H s->RelV v u->t v σ H Q ->
  wpAny (model X.prog X.w) X.A (assign target X.env u) (fun _ s'=>∃ σ' H',Inv X pins σ' H' s'/\Q σ' H') X.xe s
def PGs(X:Cx)(ts:List Expr)(t:TGs):Prop :=
 ∀(pins:List (Addr×Obj))(s:Shared)(σ:St)(H:Hp)(vs:List V)(us:List Value)(Q:St->Hp->Prop),Inv X pins σ H s->Vals vs us->t vs σ H Q ->
  wpAny (model X.prog X.w) X.A (assignInOrder ((assignEach ts X.env).map (·.2)) us) (fun _ s'=>∃ σ' H',Inv X pins σ' H' s'/\Q σ' H') X.xe s
abbrev TSet:=V->V->V->Hp->(Hp->Prop)->Prop
def PSet(X:Cx)(t:TSet):Prop :=
 ∀(pins:List (Addr×Obj))(s:Shared)(σ:St)(H:Hp)(o i v:V)(ov iv u:Value)(Q:Hp->Prop),Inv X pins σ H s->RelV o ov->RelV i iv->RelV v u->t o i v H Q ->
  wpAny (model X.prog X.w) X.A (setItem ov iv u) (fun _ s'=>∃ H',Inv X pins σ H' s'/\Q H') X.xe s
abbrev TIp:=V->V->Hp->VK->Prop
def PIp(X:Cx)(op:Operator)(t:TIp):Prop :=
 ∀(pins:List (Addr×Obj))(s:Shared)(σ:St)(H:Hp)(x y:V)(v u:Value)(Q:VK),Inv X pins σ H s->RelV x v->RelV y u->t x y H Q ->
  wpAny (model X.prog X.w) X.A (inplaceOp op v u) (EP X pins σ Q) X.xe s
section
variable{X:Cx}{pos:Pos}
def gName(i:Nat):TG:=fun v σ H Q=>Q (σ.set i (some v)) H
theorem zI{i:Nat}{x:Str}(hN:X.N.Nodup)(hi:X.N[i]?=some x)(hx:Loc X.env.scope x)(hf:X.fn x=true\/X.env.scope.names.lookup x=some .local:=by first|exact .inl rfl|exact .inr rfl|assumption):PG X (.Name x pos) (gName i):=by
 intro pins s σ H v u Q I r h;exact wpAny_assign_Name (Yb I hN hi hx r (fun s' I'=>⟨_,H,I',h⟩) hf)
def gNil:TGs:=fun vs σ H Q=>vs=[]/\Q σ H
inductive zft(t:TG)(u:TGs)(vs:List V)(σ:St)(H:Hp)(Q:St->Hp->Prop):Prop where
 | mk (v:V) (r:List V) (h0_:vs=v::r) (h1_:t v σ H fun σ' H'=>u r σ' H' Q):zft t u vs σ H Q
def gCons(t:TG)(u:TGs):TGs:=fun vs σ H Q=>zft t u vs σ H Q
theorem je:PGs X [] gNil:=by
 intro pins s σ H vs us Q I r h;obtain⟨e,h⟩:=h;subst e;cases r;exact assignInOrder_nil ⟨σ,H,I,h⟩
theorem yd{e:Expr}{es:List Expr}{t:TG}{u:TGs}(h1:PG X e t)(h2:PGs X es u)
  (hs:(assignEach (e::es) X.env).map (·.2)=assign e X.env ::(assignEach es X.env).map (·.2):=by rfl):PGs X (e::es) (gCons t u):=by
 intro pins s σ H vs us Q I r h;obtain⟨v,vr,e1,h⟩:=h;subst e1;cases r with
 | cons r rr =>
  rw[hs];refine assignInOrder_cons (thn (h1 pins s σ H _ _ _ I r h) fun _ s1 ⟨σ1,H1,I1,q1⟩=>?_);exact h2 pins s1 σ1 H1 _ _ Q I1 rr q1
inductive zid(K:PySem.W.Frag)(n:Nat)(t:TGs)(v:V)(σ:St)(H:Hp)(Q:St->Hp->Prop):Prop where
 | mk (a:Addr) (xs:List V) (h0_:v=.ref a) (h1_:SqT K H a xs) (h2_:xs.length=n) (h3_:t xs σ H Q):zid K n t v σ H Q
def gTup(K:PySem.W.Frag)(n:Nat)(t:TGs):TG:=fun v σ H Q=>zid K n t v σ H Q
theorem zkt{es:List Expr}{k:Nat}{t:TGs}{n:Nat}(hc:X.calm=true)(h:PGs X es t)
  (hn:(assignEach es X.env).length=n:=by rfl) (hst:(assignEach es X.env).findIdx? (·.1)=none:=by rfl):PG X (.Tuple es k pos) (gTup X.K n t):=by
 intro pins s σ H v u Q I r hw;obtain⟨a,xs,e1,hq,hl,hw⟩:=hw;subst e1;cases r;obtain⟨its,rv,ht,hz⟩:=I.tuple hq;refine assign_Tuple_tuple (I.ok.hd hc) ht (by simp[hn,← hl,rv.length]) hst fun h' hx=>?_
 have I1:Inv X pins σ H { s with heap:=h' }:=I.kept (t':=s.toks) fun b o e=>hx b o (wY (Heap.lt_size e)) e
 exact h pins _ σ H xs _ Q I1 (by simpa using rv) hw
def gSub(to ti:TE)(t:TSet):TG:=fun v σ H Q=>to σ H fun o H1=>ti σ H1 fun i H2=>t o i v H2 fun H3=>Q σ H3
theorem Xy{o i:Expr}{to ti:TE}{t:TSet}(ho:PE X o to)(hi:PE X i ti)(hs:PSet X t)
  (ha:∀ v,assign (.Subscript o i pos) X.env v =(do
   let ov ← holding [v] (eval o X.env)
   let iv ← holding [v,ov] (eval i X.env)
   standAt pos
   holding [v,ov,iv] (setItem ov iv v)
   release [v,ov,iv] []):=by intro _;rfl):PG X (.Subscript o i pos) (gSub to ti t):=by
 intro pins s σ H v u Q I r h;rw[ha];refine wpAny_bind (wpAny_holding (thn (ho pins s σ H _ I h) fun ov s1 ⟨x,H1,I1,r1,q1⟩=>?_));refine wpAny_bind (wpAny_holding (thn (hi pins s1 σ H1 _ I1 q1) fun iv s2 ⟨y,H2,I2,r2,q2⟩=>?_));refine wpAny_bind (wpAny_standAt (wpAny_bind (wpAny_holding (thn (hs pins s2 σ H2 x y v ov iv u _ I2 r1 r2 r q2) fun _ s3 ⟨H3,I3,q3⟩=>?_))));exact wpAny_release ⟨σ,H3,I3,q3⟩
def tAsg(te:TE)(g:TG):TS:=fun D σ H=>te σ H fun x H1=>g x σ H1 D.nx
theorem qk{tg e:Expr}{te:TE}{g:TG}(he:PE X e te)(hg:PG X tg g)(hs:swapsWithSole [tg] e pos.line X.env=pure false:=by rfl)(hw:swappedStores [tg] e X.env=pure none:=by rfl)
  (h1:(assignEach [tg] X.env).map (·.2)=[assign tg X.env]:=by rfl):PS X (.Assign [tg] e pos) (tAsg te g):=by
 intro pins s σ H D I h;refine wpAny_Assign_stores (thn (he pins s σ H _ I h) fun v s1 ⟨x,H1,I1,r1,q1⟩=>?_) hs hw;rw[h1];exact thn (hg pins s1 σ H1 x v _ I1 r1 q1) fun _ s2 q=>q
theorem zm{i:Nat}{x:Str}{e:Expr}{te:TE}{pos':Pos}(hN:X.N.Nodup)(hi:X.N[i]?=some x)(hx:Loc X.env.scope x)(he:PE X e te)(hs:swapsWith e (some (.Name x pos')) pos.line X.env=pure false:=by rfl)(hf:X.fn x=true\/X.env.scope.names.lookup x=some .local:=by first|exact .inl rfl|exact .inr rfl|assumption) :
  PS X (.Assign [.Name x pos'] e pos) (tAsg te (gName i)):=by
 intro pins s σ H D I h;refine wpAny_Assign_Name (thn (he pins s σ H _ I h) fun v s1 ⟨y,H1,I1,r1,q1⟩=>?_) hs;exact Yb I1 hN hi hx r1 (fun s2 I2=>⟨_,H1,I2,q1⟩) hf
def tPar(i j:Nat)(ta:TA):TS:=fun D σ H=>ta σ H fun vs H1=>∃ v w,vs=[v,w]/\D.nx ((σ.set i (some v)).set j (some w)) H1
theorem zkB{i j:Nat}{x y:Str}{a b:Expr}{ta:TA}{px py pt:Pos}{kt k2 pt2}(hc:X.calm=true)(hN:X.N.Nodup)(hi:X.N[i]?=some x)(hj:X.N[j]?=some y)(hij:i≠j)
  (hx:X.env.scope.names.lookup x=some .local) (hy:X.env.scope.names.lookup y=some .local) (ha:PA X [a,b] ta)
  (hw:swappedStores [.Tuple [.Name x px,.Name y py] kt pt] (.Tuple [a,b] k2 pt2) X.env=pure (some [x,y]))
  (hs:swapsWithSole [.Tuple [.Name x px,.Name y py] kt pt] (.Tuple [a,b] k2 pt2) pos.line X.env=pure false:=by rfl) :
  PS X (.Assign [.Tuple [.Name x px,.Name y py] kt pt] (.Tuple [a,b] k2 pt2) pos) (tPar i j ta):=by
 intro pins s σ H D I h;rw[exec_Assign_arm];refine wpAny_bind (wpAny_standAt ?_);rw[hs];refine wpAny_bind (wpAny_pure ?_);rw[if_neg (by decide)];refine wpAny_bind (Tuple_ (thn (ha _ pins s σ H _ I h) fun us s1 ⟨vs,H1,I1,r1,q1⟩=>?_));obtain⟨v,w,e1,q1⟩:=q1;subst e1;obtain⟨u1,u2,rfl,rv,rw'⟩ : ∃ u1 u2,us=[u1,u2]/\RelV v u1/\RelV w u2:=by
  cases r1 with
  | cons p q =>
   cases q with
   | cons p' q' =>
    cases q';exact⟨_,_,rfl,p,p'⟩
 refine wpAny_newObj_type ?_ (by show 2<=sizeLine;decide);have I2:Inv X pins σ H1 { s1 with heap:=s1.heap.push { cls:=.type "tuple",data:=.seq [u1,u2].toArray } }:=I1.kept (t':=s1.toks) fun b o e=>Heap.get?_push_of_some _ e
 rw[hw];refine wpAny_bind (wpAny_pure ?_);show wpAny (model X.prog X.w) X.A (do rule "assign.swapped-stores";let items ← unpackItems (.ref s1.heap.objs.size) 2 none;assignInOrder [fun v=>bindName X.env y v,fun v=>bindName X.env x v] items.reverse;pure Flow.next) _ _ _;refine wpAny_bind (wpAny_rule (wpAny_bind (unpackItems_tuple (items:=#[u1,u2]) (I.ok.hd hc) (IsTup.new s1.heap _) fun h' hx'=>?_)));have I3:=I2.kept (h':=h') (t':=s1.toks) fun b o e=>hx' b o (wY (Heap.lt_size e)) e
 show wpAny _ _ (assignInOrder [fun v=>bindName X.env y v,fun v=>bindName X.env x v] [u2,u1] >>= fun _=>pure Flow.next) _ _ _;refine wpAny_bind (assignInOrder_cons (wpAny_bindName (Yb I3 hN hj (.inl hy) rw' (fun s2 I4=>?_) (.inr hy))));refine assignInOrder_cons (wpAny_bindName (Yb I4 hN hi (.inl hx) rv (fun s3 I5=>assignInOrder_nil (wpAny_pure ?_)) (.inr hx)));rw[List.set_comm _ _ (Ne.symm hij)]at I5;exact⟨_,H1,I5,q1⟩
def tAug(i:Nat)(te:TE)(ti:TIp):TS:=fun D σ H=>∃ x,σ[i]?=some (some x)/\te σ H fun y H1=>ti x y H1 fun z H2=>D.nx (σ.set i (some z)) H2
theorem zko{i:Nat}{x:Str}{e:Expr}{te:TE}{op:Operator}{ti:TIp}{pos':Pos}(hN:X.N.Nodup)(hi:X.N[i]?=some x)(hx:Loc X.env.scope x)(he:PE X e te)(ho:PIp X op ti)(hf:X.fn x=true\/X.env.scope.names.lookup x=some .local:=by first|exact .inl rfl|exact .inr rfl|assumption) :
  PS X (.AugAssign (.Name x pos') op e pos) (tAug i te ti):=by
 intro pins s σ H D I h;obtain⟨v,e1,h⟩:=h;obtain⟨m,hn,hl⟩:=I.loc;have vis:Vis X.env.scope x:=by rcases hx with k|k;exact .inl k;exact .inr (.inl k)
 obtain⟨u,r,l⟩:=hl i x v hi e1 vis;refine wpAny_AugAssign_Name ?_;have go:wpAny (model X.prog X.w) X.A (eval e X.env) (fun w s₂=>wpAny (model X.prog X.w) X.A (inplaceOp op u w) (fun r s₃=>wpAny (model X.prog X.w) X.A (storeName X.env x r) (fun _=>SP X pins D .next) X.xe s₃) X.xe s₂) X.xe s:=by
  refine thn (he pins s σ H _ I h) fun w s1 ⟨y,H1,I1,r1,q1⟩=>?_
  refine thn (ho pins s1 σ H1 v y u w _ I1 r r1 q1) fun z s2 ⟨zv,H2,I2,r2,q2⟩=>?_
  exact Yb I2 hN hi hx r2 (fun s3 I3=>⟨_,H2,I3,q2⟩) hf
 rcases l with⟨hk,hm⟩|⟨hk,c,hc,hcell⟩
 ·exact wpAny_loadName_local I.ok.kind hk hn hm go
 ·rcases hk with hk|hk
  ·exact wpAny_loadName_cell I.ok.kind hk hc hcell go
  ·rcases hx with k|k
   ·have:X.env.scope.names.lookup x=some .free:=hk;rw[k]at this;cases this
   ·have:X.env.scope.names.lookup x=some .free:=hk;rw[k]at this;cases this
def ipI(f:Int->Int->Int):TIp:=fun x y H Q=>∃ i j,x=.int i/\y=.int j/\Q (.int (f i j)) H
theorem zjR:PIp X .Add (ipI fun i j=>i+j):=by
 intro pins s σ H x y v u Q I r1 r2 h;obtain⟨i,j,e1,e2,q⟩:=h;subst e1;subst e2;obtain⟨t,rfl⟩:=r1;obtain⟨t',rfl⟩:=r2;exact iadd_int ⟨.int _,H,I.tok _,⟨_,rfl⟩,q⟩
end
section
variable{X:Cx}{pos:Pos}
def tWhile(c:TT)(tb:TS):TS:=fun D σ H=>∃ W:Nat->St->Hp->Prop,(∃ m,W m σ H)/\∀ m σ H,W m σ H ->
 c σ H fun b H1=>if b=true then ∃ N:St->Hp->Prop,(∀ σ' H',N σ' H'->∃ m',m'<m/\W m' σ' H')/\tb { D with nx:=N,ct:=N,bk:=D.nx } σ H1 else D.nx σ H1
theorem qS{c:Expr}{body:List Stmt}{tc:TT}{tb:TS}(hp:PassesOwn (model X.prog X.w) X.A X.env X.xe)(hc:PT X c tc)(hb:PSs X body tb):PS X (.While c body [] pos) (tWhile tc tb):=by
 intro pins s σ H D I h;obtain⟨W,⟨m0,w0⟩,turn⟩:=h;refine wpAny_While (codeAny_whileLoop (fun n s'=>∃ σ' H',Inv X pins σ' H' s'/\W n σ' H') ?_ m0 ⟨σ,H,I,w0⟩)
 rintro n s1 ⟨σ1,H1,I1,w1⟩
 refine wpAny_passesOwn hp (thn (hc pins s1 σ1 H1 _ I1 (turn n σ1 H1 w1)) fun b s2 ⟨H2,I2,q2⟩=>?_);cases b with
 | true =>
  obtain⟨N,hN,q2⟩:=q2;rw[if_pos rfl];refine wpAny_passesOwn hp (thn (hb pins s2 σ1 H2 _ I2 q2) fun f s3 q3=>?_);cases f with
  | next =>
   obtain⟨σ3,H3,I3,n3⟩:=q3;obtain⟨m',hm,w3⟩:=hN σ3 H3 n3;exact⟨m',hm,σ3,H3,I3,w3⟩
  | cont =>
   obtain⟨σ3,H3,I3,n3⟩:=q3;obtain⟨m',hm,w3⟩:=hN σ3 H3 n3;exact⟨m',hm,σ3,H3,I3,w3⟩
  | brk=>exact q3
  | ret v=>exact q3
 | false =>
  rw[if_neg wS];exact wpAny_execs_nil ⟨σ1,H2,I2,q2⟩
end
structure It where
 go:Nat->Hp->Prop
 yld:Nat->Hp->V->Hp->Prop
 stop:Nat->Hp->Prop
def FpOk(X:Cx)(pins:List (Addr×Obj))(H:Hp)(b:Addr):Prop :=
 H b=none/\b≠X.env.locals/\b∉X.fs/\(b∈X.ex\/X.s₀.heap.objs.size<=b)/\(∀ x c,X.env.cells.lookup x=some c->c≠b)/\∀ p∈X.pn++pins,p.1≠b
theorem Inv.fpOk{X:Cx}{pins:List (Addr×Obj)}{σ:St}{H H':Hp}{s:Shared}{b:Addr}(I:Inv X pins σ H s)(hb:s.heap.objs.size<=b)(hn:H' b=none):FpOk X pins H' b:=by
 refine⟨hn,way (wV I.lt hb),I.nofs hb,.inr (wI I.sz hb),fun x c e z=>?_,fun p hp z=>?_⟩
 ·obtain⟨v,q⟩:=I.cell x c e;exact absurd (wV q.lt (by rw[z];exact hb)) (vY _)
 ·exact absurd (wV (Heap.lt_size (I.pin p hp).1) (by rw[z];exact hb)) (vY _)
structure Turn(P:Program)(w:World)(K:PySem.W.Frag)(tg:Expr)(J:It)(fp:List Addr)(it:Addr)(tn:Nat->Heap->Prop):Prop where
 mem:it∈fp
 obj:∀ i h,tn i h->∀ b∈fp,∃ o,h.get? b=some o/\∀ v,o.data≠.cell v
 keep:∀ i h h',tn i h->(∀ b∈fp,∀ o,h.get? b=some o->h'.get? b=some o)->tn i h'
 item:∀(X:Cx),X.prog=P->X.w=w->X.K=K->X.calm=true->∀(i:Nat)(pins:List (Addr×Obj))(s:Shared)(σ:St)(H:Hp)(E:Value->Shared->Prop),Inv X pins σ H s->(∀ b∈fp,FpOk X pins H b)->tn i s.heap->J.go i H ->
  wpAny (model P w) X.A (pyNext (.ref it)) (fun r s1=>∃ u,r=some u /\
   wpAny (model P w) X.A (letOwnedTupleGo tg (.ref it) u) (fun _ s2=>∃ x H',Inv X pins σ H' s2/\RelV x u/\J.yld i H x H'/\tn (i+1) s2.heap/\∀ b∈fp,H' b=none) E s1) E s
 done:∀(X:Cx),X.prog=P->X.w=w->X.K=K->X.calm=true->∀(i:Nat)(pins:List (Addr×Obj))(s:Shared)(σ:St)(H:Hp)(E:Value->Shared->Prop),Inv X pins σ H s->(∀ b∈fp,FpOk X pins H b)->tn i s.heap->J.stop i H ->
  wpAny (model P w) X.A (pyNext (.ref it)) (fun r s1=>r=none/\Inv X pins σ H s1) E s
 self:∀(A:Around)(i:Nat)(s:Shared)(Q:Value->Shared->Prop)(E:Value->Shared->Prop),tn i s.heap->Q (.ref it) s->wpAny (model P w) A (pyIter (.ref it)) Q E s
abbrev TI:=St->Hp->(It->Hp->Prop)->Prop
def PIE(X:Cx)(pins:List (Addr×Obj))(σ:St)(tg:Expr)(R:It->Hp->Prop)(itv:Value)(s2:Shared):Prop :=
 ∃(it:Addr)(fp:List Addr)(tn:Nat->Heap->Prop)(J:It)(H':Hp),itv=.ref it/\Inv X pins σ H' s2/\Turn X.prog X.w X.K tg J fp it tn/\tn 0 s2.heap/\(∀ b∈fp,FpOk X pins H' b)/\R J H'
def PI(X:Cx)(tg iter:Expr)(wi:TI):Prop :=
 ∀(pins:List (Addr×Obj))(s:Shared)(σ:St)(H:Hp)(R:It->Hp->Prop),Inv X pins σ H s->wi σ H R ->
  wpAny (model X.prog X.w) X.A (eval iter X.env) (fun v s1=>wpAny (model X.prog X.w) X.A (pyIter v) (PIE X pins σ tg R) X.xe s1) X.xe s
theorem ziH{M:Model}{A:Around}{E:Value->Shared->Prop}{s:Shared}{tg:Expr}{it:Addr}{u:Value}{o:Obj}{n:String}{vs:Array Value}{Q:Unit->Shared->Prop}(ho:s.heap.get? it=some o)(hc:o.cls=.type n)(hd:o.data=.fields vs)
  (hn:["enumerate", "zip", "dict_itemiterator", "dict_reverseitemiterator", "odict_iterator", "itertools.zip_longest", "itertools.pairwise"].contains n=false) (hQ:Q () s):wpAny M A (letOwnedTupleGo tg (.ref it) u) Q E s:=by
 unfold letOwnedTupleGo;cases tg <;> first
  | exact wpAny_pure hQ
  | (cases u <;> first
    | exact wpAny_pure hQ
    | (refine wpAny_bind (wpAny_load ho ?_)
       rw[hc,hd];show wpAny M A (if (["enumerate", "zip", "dict_itemiterator", "dict_reverseitemiterator", "odict_iterator", "itertools.zip_longest", "itertools.pairwise"].contains n && vs[0]? == some (rawInt _))=true then _ else _) Q E s;rw[if_neg (by intro h;rw[hn,Bool.false_and]at h;cases h)];exact wpAny_pure hQ))
def Itl(K:PySem.W.Frag)(a:Addr):It :=
 ⟨fun i H=>∃ xs x,SqL K H a xs/\xs[i]?=some x,fun i H x H'=>H'=H/\∀ xs,SqL K H a xs->xs[i]?=some x,fun i H=>∃ xs,SqL K H a xs/\xs.length<=i⟩
def Itt(K:PySem.W.Frag)(a:Addr):It :=
 ⟨fun i H=>∃ xs x,SqT K H a xs/\xs[i]?=some x,fun i H x H'=>H'=H/\∀ xs,SqT K H a xs->xs[i]?=some x,fun i H=>∃ xs,SqT K H a xs/\xs.length<=i⟩
def Itr(lo:Int)(n:Nat):It:=⟨fun i _=>i<n,fun i H x H'=>H'=H/\x=.int (lo+i),fun i _=>n<=i⟩
theorem zfR{P:Program}{w:World}{K:PySem.W.Frag}{tg:Expr}(a it:Addr):Turn P w K tg (Itl K a) [it] it (fun i h=>h.IsListIter it a i) where
 mem:=by simp
 obj:=fun i h st b hb=>by
  have e:b=it:=by simpa using hb
  subst e;obtain⟨o,e,c,d⟩:=st;exact⟨o,e,fun v z=>by rw[d]at z;cases z⟩
 keep:=fun i h h' st k=>st.at fun o e=>k it (by simp) o e
 item:=by
  intro X hP hw hK hc i pins s σ H E I hf st hg;subst hP hw hK;obtain⟨xs,x,hq,hx⟩:=hg;obtain⟨its,rv,p,hz⟩:=I.list hq;obtain⟨u,hu,ru⟩:=rv.get hx;obtain⟨f0,f1,f2,f3,f4,f5⟩:=hf it (by simp);refine wpAny_pyNext_list_item st p.isList (x:=u) (by simpa using hu) fun h' st' sb=>?_
  have I1:Inv X pins σ H { s with heap:=h' }:=I.turned (t':=s.toks) (fun b o hb e=>(sb.2 b hb).trans e) f0 f1 f3 f4 f5;obtain⟨o,e,c,d⟩:=id st';exact⟨u,rfl,ziH (s:={ s with heap:=h' }) e c d (by decide) ⟨x,H,I1,ru,⟨rfl,fun ys hy=>by rw[I.list_inj hy hq];exact hx⟩,st',fun b hb=>(hf b hb).1⟩⟩
 done:=by
  intro X hP hw hK hc i pins s σ H E I hf st hg;subst hP hw hK;obtain⟨xs,hq,hx⟩:=hg;obtain⟨its,rv,p,hz⟩:=I.list hq;obtain⟨f0,f1,f2,f3,f4,f5⟩:=hf it (by simp);have hl:=rv.length;exact wpAny_pyNext_list_end (I.ok.hd hc) st p.isList (by simp;omega) fun h' eb=>⟨rfl,I.turned (t':=s.toks) (fun b o hb e=>eb b o hb e) f0 f1 f3 f4 f5⟩
 self:=fun _ _ _ _ _ st h=>wpAny_pyIter_listiter st h
theorem zej{P:Program}{w:World}{K:PySem.W.Frag}{tg:Expr}(a it:Addr):Turn P w K tg (Itt K a) [it] it (fun i h=>h.IsTupleIter it a i) where
 mem:=by simp
 obj:=fun i h st b hb=>by
  have e:b=it:=by simpa using hb
  subst e;obtain⟨o,e,c,d⟩:=st;exact⟨o,e,fun v z=>by rw[d]at z;cases z⟩
 keep:=fun i h h' st k=>st.at fun o e=>k it (by simp) o e
 item:=by
  intro X hP hw hK hc i pins s σ H E I hf st hg;subst hP hw hK;obtain⟨xs,x,hq,hx⟩:=hg;obtain⟨its,rv,p,hz⟩:=I.tuple hq;obtain⟨u,hu,ru⟩:=rv.get hx;obtain⟨f0,f1,f2,f3,f4,f5⟩:=hf it (by simp);refine wpAny_pyNext_tuple_item st (show s.heap.IsTuple a its.toArray from p) (x:=u) (by simpa using hu) fun h' st' sb=>?_
  have I1:Inv X pins σ H { s with heap:=h' }:=I.turned (t':=s.toks) (fun b o hb e=>(sb.2 b hb).trans e) f0 f1 f3 f4 f5;obtain⟨o,e,c,d⟩:=id st';exact⟨u,rfl,ziH (s:={ s with heap:=h' }) e c d (by decide) ⟨x,H,I1,ru,⟨rfl,fun ys hy=>by rw[I.tuple_inj hy hq];exact hx⟩,st',fun b hb=>(hf b hb).1⟩⟩
 done:=by
  intro X hP hw hK hc i pins s σ H E I hf st hg;subst hP hw hK;obtain⟨xs,hq,hx⟩:=hg;obtain⟨its,rv,p,hz⟩:=I.tuple hq;obtain⟨f0,f1,f2,f3,f4,f5⟩:=hf it (by simp);have hl:=rv.length;exact wpAny_pyNext_tuple_end (I.ok.hd hc) st (show s.heap.IsTuple a its.toArray from p) (by simp;omega) fun h' eb=>⟨rfl,I.turned (t':=s.toks) (fun b o hb e=>eb b o hb e) f0 f1 f3 f4 f5⟩
 self:=fun _ _ _ _ _ st h=>wpAny_pyIter_tupleiter st h
theorem zew{P:Program}{w:World}{K:PySem.W.Frag}{tg:Expr}(it:Addr)(lo:Int)(n:Nat):Turn P w K tg (Itr lo n) [it] it (fun i h=>IsRangeIter h it (lo +(i:Nat)*1) ((n:Int) - (i:Nat)) 1) where
 mem:=by simp
 obj:=fun i h st b hb=>by
  have e:b=it:=by simpa using hb
  subst e;exact⟨_,st,fun v z=>by
   have z':Data.fields _=Data.cell v:=z;cases z'⟩
 keep:=fun i h h' st k=>k it (by simp) _ st
 item:=by
  intro X hP hw hK hc i pins s σ H E I hf st hg;subst hP hw hK;obtain⟨f0,f1,f2,f3,f4,f5⟩:=hf it (by simp);have W:=Walks.range (prog:=X.prog) (w:=X.w) (I.ok.hd hc) it lo 1 n;refine W.item i s _ _ hg st fun v h' tk hv st' kk=>?_
  obtain⟨t,rfl⟩:=hv;have I1:Inv X pins σ H { s with heap:=h',toks:=tk }:=I.turned (fun b o hb e=>kk b o (by simpa using hb) e) f0 f1 f3 f4 f5;refine⟨_,rfl,ziH (s:={ s with heap:=h',toks:=tk }) (n := "range_iterator") st' rfl rfl (by decide) ⟨.int (lo+i),H,I1,⟨t,?_⟩,⟨rfl,rfl⟩,st',fun b hb=>(hf b hb).1⟩⟩;rw[Int.mul_one]
 done:=by
  intro X hP hw hK hc i pins s σ H E I hf st hg;subst hP hw hK;obtain⟨f0,f1,f2,f3,f4,f5⟩:=hf it (by simp);exact wpAny_pyNext_range_end (I.ok.hd hc) st (by have:n<=i:=hg;omega) fun h' eb=>⟨rfl,I.turned (t':=s.toks) (fun b o hb e=>eb b o hb e) f0 f1 f3 f4 f5⟩
 self:=fun _ _ _ _ _ st h=>wpAny_pyIter_rangeiter st h
end L2
namespace L2
open PySem PySem.Spec PyProof.Rows
section
variable{X:Cx}{tg:Expr}
inductive zf8(K:PySem.W.Frag)(x:V)(H1:Hp)(R:It->Hp->Prop):Prop where
 | mk (a:Addr) (h0_:x=.ref a) (h1_:(∃ xs,SqL K H1 a xs)) (h2_:R (Itl K a) H1):zf8 K x H1 R
def iList(K:PySem.W.Frag)(tl:TE):TI:=fun σ H R=>tl σ H fun x H1=>zf8 K x H1 R
def iTup(K:PySem.W.Frag)(tl:TE):TI:=fun σ H R=>tl σ H fun x H1=>∃ a,x=.ref a/\(∃ xs,SqT K H1 a xs)/\R (Itt K a) H1
theorem zge{l:Expr}{tl:TE}(hl:PE X l tl):PI X tg l (iList X.K tl):=by
 intro pins s σ H R I h;refine thn (hl pins s σ H _ I h) fun v s1 ⟨x,H1,I1,r1,q1⟩=>?_
 obtain⟨a,e,⟨xs,hq⟩,q⟩:=q1;subst e;cases r1;obtain⟨its,rv,p,hz⟩:=I1.list hq;refine wpAny_pyIter_list p.isList ?_;refine⟨s1.heap.objs.size,[s1.heap.objs.size],_,_,H1,rfl,I1.kept (t':=s1.toks) fun b o e=>Heap.get?_push_of_some _ e,zfR a _,⟨_,Heap.get?_push_size _ rfl,rfl,rfl⟩,fun b hb=>?_,q⟩;have e:b=s1.heap.objs.size:=by simpa using hb
 subst e;exact I1.fpOk (ww _) (I1.hok.fresh (ww _))
theorem ziv{l:Expr}{tl:TE}(hl:PE X l tl):PI X tg l (iTup X.K tl):=by
 intro pins s σ H R I h;refine thn (hl pins s σ H _ I h) fun v s1 ⟨x,H1,I1,r1,q1⟩=>?_
 obtain⟨a,e,⟨xs,hq⟩,q⟩:=q1;subst e;cases r1;obtain⟨its,rv,p,hz⟩:=I1.tuple hq;refine wpAny_pyIter_tuple (show s1.heap.IsTuple a its.toArray from p) ?_;refine⟨s1.heap.objs.size,[s1.heap.objs.size],_,_,H1,rfl,I1.kept (t':=s1.toks) fun b o e=>Heap.get?_push_of_some _ e,zej a _,⟨_,Heap.get?_push_size _ rfl,rfl,rfl⟩,fun b hb=>?_,q⟩;have e:b=s1.heap.objs.size:=by simpa using hb
 subst e;exact I1.fpOk (ww _) (I1.hok.fresh (ww _))
theorem zhF{pins:List (Addr×Obj)}{σ:St}{H:Hp}{s:Shared}{R:It->Hp->Prop}{E:Value->Shared->Prop}{lo hi:Int}{t u v:Tok}{tk:Nat}(I:Inv X pins σ H s)(h1 : -(2^62)<=lo)(h2:lo<2^62)(h3 : -(2^62)<=hi)(h4:hi<2^62)
  (q:R (Itr lo (hi - lo).toNat) H):wpAny (model X.prog X.w) X.A (pyIter (.ref s.heap.objs.size)) (PIE X pins σ tg R) E { s with heap:=s.heap.push { cls:=.type "range",data:=.fields #[.int lo t,.int hi u,.int 1 v] },toks:=tk }:=by
 refine wpAny_pyIter_range (IsRange.new ..) (small_one h1 h2 h3 h4) ?_;have I1:Inv X pins σ H { s with heap:=s.heap.push { cls:=.type "range",data:=.fields #[.int lo t,.int hi u,.int 1 v] },toks:=tk }:=I.kept fun b o e=>Heap.get?_push_of_some _ e
 refine⟨(s.heap.push { cls:=.type "range",data:=.fields #[.int lo t,.int hi u,.int 1 v] }).objs.size,[(s.heap.push { cls:=.type "range",data:=.fields #[.int lo t,.int hi u,.int 1 v] }).objs.size],_,_,H,rfl,
  I1.kept (t':=tk) fun b o e=>Heap.get?_push_of_some _ e,zew _ lo (hi - lo).toNat,?_,fun b hb=>?_,q⟩
 ·have e1:lo +((0:Nat):Int)*1=lo:=by simp
  have e2:(((hi - lo).toNat:Nat):Int) - ((0:Nat):Int)=Builtin.Range.rangeSize lo hi 1:=by rw[rangeSize_one];split <;> omega
  show IsRangeIter _ _ (lo +((0:Nat):Int)*1) ((((hi - lo).toNat:Nat):Int) - ((0:Nat):Int)) 1;rw[e1,e2];exact Heap.get?_push_size _ rfl
 ·have e:b =(s.heap.push { cls:=.type "range",data:=.fields #[.int lo t,.int hi u,.int 1 v] }).objs.size:=by simpa using hb
  subst e;exact I1.fpOk (ww _) (I1.hok.fresh (ww _))
inductive zgR(vs:List V)(H1:Hp)(R:It->Hp->Prop):Prop where
 | mk (j:Int) (h0_:vs=[.int j]) (h1_ : -(2^62)<=j) (h2_:j<2^62) (h3_:R (Itr 0 j.toNat) H1):zgR vs H1 R
def iRng1(ta:TA):TI:=fun σ H R=>ta σ H fun vs H1=>zgR vs H1 R
theorem zY {a:Expr} {ta:TA} {p pos:Pos} (hg:Gl X "range") (hm:X.mg "range" = none) (ha:PA X [a] ta) (hs:starEach [a] X.env=[(false,eval a X.env)]:=by rfl):PI X tg (.Call (.Name "range" p) [a] [] pos) (iRng1 ta):=by
 intro pins s σ H R I h;refine Call_ (zb7 I hg hm boot_range (PyProof.Rows.callWith_type1 (thn (ha pos pins s σ H _ I h) fun us s1 ⟨vs,H1,I1,r1,q1⟩=>?_) hs rfl));obtain⟨j,e,q1,q2,q⟩:=q1;subst e;cases r1 with
 | cons r rr =>
  cases rr;obtain⟨t,rfl⟩:=r;exact call_range_1 (zhF I1 (by omega) (by omega) q1 q2 (by simpa using q))
def tFor(wi:TI)(g:TG)(tb:TS):TS:=fun D σ H=>wi σ H fun J H1=>∃ W:Nat->Nat->St->Hp->Prop,(∃ m,W 0 m σ H1)/\∀ i m σ H,W i m σ H ->
 (J.stop i H/\D.nx σ H)\/(J.go i H/\∃ N:St->Hp->Prop,(∀ σ' H',N σ' H'->∃ m',m'<m/\W (i+1) m' σ' H')/\∀ x H',J.yld i H x H'->g x σ H' fun σ2 H2=>tb { D with nx:=N,ct:=N,bk:=D.nx } σ2 H2)
def pinsAt(fp:List Addr)(h:Heap):List (Addr×Obj):=fp.filterMap fun b=>(h.get? b).map fun o=>(b,o)
theorem Zr{fp:List Addr}{h:Heap}{b:Addr}{o:Obj}(hb:b∈fp)(e:h.get? b=some o):(b,o)∈pinsAt fp h:=waw.mpr ⟨b,hb,by rw[e];rfl⟩
theorem zfM{fp:List Addr}{h:Heap}{p:Addr×Obj}(hp:p∈pinsAt fp h):p.1∈fp/\h.get? p.1=some p.2:=by
 obtain⟨b,hb,e⟩:=waw.mp hp;cases q:h.get? b with
 | none=>rw[q]at e;cases e
 | some o =>
  rw[q]at e;have e':(b,o)=p:=Option.some.inj e;subst e';exact⟨hb,q⟩
theorem Inv.pinned{pins:List (Addr×Obj)}{σ:St}{H:Hp}{s:Shared}{fp:List Addr}(I:Inv X pins σ H s)(hf:∀ b∈fp,FpOk X pins H b)(ho:∀ b∈fp,∃ o,s.heap.get? b=some o/\∀ v,o.data≠.cell v):Inv X (pins++pinsAt fp s.heap) σ H s :=
 I.pins_of fun p hp=>(wu.mp hp).elim (fun z=>I.pin p (wE _ z)) fun z=>by
  obtain⟨hb,e⟩:=zfM z;obtain⟨f0,f1,f2,_⟩:=hf p.1 hb;obtain⟨o,e',d⟩:=ho p.1 hb;rw[e]at e';cases e';exact⟨e,f0,f1,f2,d⟩
theorem Inv.unpinned{pins pl:List (Addr×Obj)}{σ:St}{H:Hp}{s:Shared}(I:Inv X (pins++pl) σ H s):Inv X pins σ H s:=I.pins_of fun p hp=>I.pin p (wE _ (wH _ hp))
theorem yu{iter:Expr}{body:List Stmt}{wi:TI}{g:TG}{tb:TS}{pos:Pos}(hp:PassesOwn (model X.prog X.w) X.A X.env X.xe)(hc:X.calm=true)(hi:PI X tg iter wi)(hg:PG X tg g)(hb:PSs X body tb)
  (hs:∀ x,foldedSetIterable iter X.env x=pure x:=by intro _;rfl):PS X (.For tg iter body [] pos) (tFor wi g tb):=by
 intro pins s σ H D I h;refine wpAny_For (thn (hi pins s σ H _ I h) fun v s1 h1=>thn h1 fun itv s2 h2=>?_) hs;obtain⟨it,fp,tn,J,H2,e,I2,T,st2,f2,W,⟨m0,w0⟩,turn⟩:=h2;subst e;have stat:∀ {H':Hp},(∀ b∈fp,H' b=none)->∀ b∈fp,FpOk X pins H' b:=fun hn b hb=>⟨hn b hb,(f2 b hb).2⟩
 refine codeAny_forLoop_any (fun n s'=>∃ i σ' H',Inv X pins σ' H' s'/\tn i s'.heap/\(∀ b∈fp,H' b=none)/\W i n σ' H') ?_ m0 ⟨0,σ,H2,I2,st2,fun b hb=>(f2 b hb).1,w0⟩
 rintro n s3 ⟨i,σ3,H3,I3,st3,fr3,w3⟩
 rcases turn i n σ3 H3 w3 with⟨stop,qn⟩|⟨go,N,hN,step⟩
 ·refine wpAny_passesOwn hp (thn (T.done X rfl rfl rfl hc i pins s3 σ3 H3 X.xe I3 (stat fr3) st3 stop) fun r s4 ⟨hr,I4⟩=>?_);subst hr;exact wpAny_execs_nil ⟨σ3,H3,I4,qn⟩
 ·refine wpAny_passesOwn hp (thn (T.item X rfl rfl rfl hc i pins s3 σ3 H3 X.xe I3 (stat fr3) st3 go) fun r s4 ⟨u,hr,h4⟩=>?_);subst hr;refine wpAny_passesOwn hp (thn h4 fun _ s5 ⟨x,H5,I5,r5,y5,st5,fr5⟩=>?_);have I5':=I5.pinned (stat fr5) (T.obj _ _ st5);refine wpAny_passesOwn hp (thn (hg _ s5 σ3 H5 x u _ I5' r5 (step x H5 y5)) fun _ s6 ⟨σ6,H6,I6,q6⟩=>?_);refine wpAny_passesOwn hp (thn (hb _ s6 σ6 H6 _ I6 q6) fun f s7 q7=>?_);have again:∀ {σ7:St} {H7:Hp},Inv X (pins++pinsAt fp s5.heap) σ7 H7 s7->N σ7 H7->∃ m,m<n/\∃ i σ' H',Inv X pins σ' H' s7/\tn i s7.heap/\(∀ b∈fp,H' b=none)/\W i m σ' H':=fun {σ7 H7} I7 n7=>by
   obtain⟨m',hm,w7⟩:=hN σ7 H7 n7;refine⟨m',hm,i+1,σ7,H7,I7.unpinned,T.keep _ _ _ st5 fun b hb o e=>(I7.pin (b,o) (wE _ (wE _ (Zr hb e)))).1,fun b hb=>?_,w7⟩;obtain⟨o,e,d⟩:=T.obj _ _ st5 b hb;exact(I7.pin (b,o) (wE _ (wE _ (Zr hb e)))).2.1
  cases f with
  | next=>obtain⟨σ7,H7,I7,n7⟩:=q7;exact again I7 n7
  | cont=>obtain⟨σ7,H7,I7,n7⟩:=q7;exact again I7 n7
  | brk=>obtain⟨σ7,H7,I7,q7⟩:=q7;exact⟨σ7,H7,I7.unpinned,q7⟩
  | ret v=>obtain⟨x7,σ7,H7,I7,r7,q7⟩:=q7;exact⟨x7,σ7,H7,I7.unpinned,r7,q7⟩
end
theorem yP{K:PySem.W.Frag}{a:Addr}{xs:List V}{g:TG}{tb:TS}{D:Ends}{σ:St}{H:Hp}(Pv:Nat->St->Hp->Prop)(h0:Pv 0 σ H)(hl:∀ i σ H,i<=xs.length->Pv i σ H->SqL K H a xs)
  (hs:∀ i x σ H,xs[i]?=some x->Pv i σ H->g x σ H fun σ2 H2=>tb { D with nx:=Pv (i+1),ct:=Pv (i+1),bk:=D.nx } σ2 H2) (hd:∀ σ H,Pv xs.length σ H->D.nx σ H) :
  ∃ W:Nat->Nat->St->Hp->Prop,(∃ m,W 0 m σ H)/\∀ i m σ H,W i m σ H ->
   ((Itl K a).stop i H/\D.nx σ H)\/((Itl K a).go i H/\∃ N:St->Hp->Prop,(∀ σ' H',N σ' H'->∃ m',m'<m/\W (i+1) m' σ' H')/\∀ x H',(Itl K a).yld i H x H'->g x σ H' fun σ2 H2=>tb { D with nx:=N,ct:=N,bk:=D.nx } σ2 H2):=by
 refine⟨fun i m σ H=>m=xs.length - i/\i<=xs.length/\Pv i σ H,⟨xs.length,by simp,vC _,h0⟩,?_⟩
 rintro i m σ H ⟨rfl,hi,p⟩
 have q:=hl i σ H hi p
 by_cases hlt:i<xs.length
 ·refine .inr ⟨⟨xs,xs[i],q,by simp[hlt]⟩,Pv (i+1),fun σ' H' p'=>⟨xs.length - (i+1),by omega,rfl,hlt,p'⟩,fun x H' y=>?_⟩;obtain⟨e,y⟩:=y;subst e;exact hs i x σ _ (y xs q) p
 ·have e:i=xs.length:=by omega
  subst e;exact .inl ⟨⟨xs,q,ww _⟩,hd σ H p⟩
theorem zjo{K:PySem.W.Frag}{a:Addr}{xs:List V}{g:TG}{tb:TS}{D:Ends}{σ:St}{H:Hp}(Pv:Nat->St->Hp->Prop)(h0:Pv 0 σ H)(hl:∀ i σ H,i<=xs.length->Pv i σ H->SqT K H a xs)
  (hs:∀ i x σ H,xs[i]?=some x->Pv i σ H->g x σ H fun σ2 H2=>tb { D with nx:=Pv (i+1),ct:=Pv (i+1),bk:=D.nx } σ2 H2) (hd:∀ σ H,Pv xs.length σ H->D.nx σ H) :
  ∃ W:Nat->Nat->St->Hp->Prop,(∃ m,W 0 m σ H)/\∀ i m σ H,W i m σ H ->
   ((Itt K a).stop i H/\D.nx σ H)\/((Itt K a).go i H/\∃ N:St->Hp->Prop,(∀ σ' H',N σ' H'->∃ m',m'<m/\W (i+1) m' σ' H')/\∀ x H',(Itt K a).yld i H x H'->g x σ H' fun σ2 H2=>tb { D with nx:=N,ct:=N,bk:=D.nx } σ2 H2):=by
 refine⟨fun i m σ H=>m=xs.length - i/\i<=xs.length/\Pv i σ H,⟨xs.length,by simp,vC _,h0⟩,?_⟩
 rintro i m σ H ⟨rfl,hi,p⟩
 have q:=hl i σ H hi p
 by_cases hlt:i<xs.length
 ·refine .inr ⟨⟨xs,xs[i],q,by simp[hlt]⟩,Pv (i+1),fun σ' H' p'=>⟨xs.length - (i+1),by omega,rfl,hlt,p'⟩,fun x H' y=>?_⟩;obtain⟨e,y⟩:=y;subst e;exact hs i x σ _ (y xs q) p
 ·have e:i=xs.length:=by omega
  subst e;exact .inl ⟨⟨xs,q,ww _⟩,hd σ H p⟩
theorem yF{lo:Int}{n:Nat}{g:TG}{tb:TS}{D:Ends}{σ:St}{H:Hp}(Pv:Nat->St->Hp->Prop)(h0:Pv 0 σ H)
  (hs:∀ i σ H,i<n->Pv i σ H->g (.int (lo+i)) σ H fun σ2 H2=>tb { D with nx:=Pv (i+1),ct:=Pv (i+1),bk:=D.nx } σ2 H2) (hd:∀ σ H,Pv n σ H->D.nx σ H) :
  ∃ W:Nat->Nat->St->Hp->Prop,(∃ m,W 0 m σ H)/\∀ i m σ H,W i m σ H ->
   ((Itr lo n).stop i H/\D.nx σ H)\/((Itr lo n).go i H/\∃ N:St->Hp->Prop,(∀ σ' H',N σ' H'->∃ m',m'<m/\W (i+1) m' σ' H')/\∀ x H',(Itr lo n).yld i H x H'->g x σ H' fun σ2 H2=>tb { D with nx:=N,ct:=N,bk:=D.nx } σ2 H2):=by
 refine⟨fun i m σ H=>m=n - i/\i<=n/\Pv i σ H,⟨n,by simp,vC _,h0⟩,?_⟩
 rintro i m σ H ⟨rfl,hi,p⟩
 by_cases hlt:i<n
 ·refine .inr ⟨hlt,Pv (i+1),fun σ' H' p'=>⟨n - (i+1),by omega,rfl,hlt,p'⟩,fun x H' y=>?_⟩;obtain⟨e,y⟩:=y;subst e y;exact hs i σ _ hlt p
 ·have e:i=n:=by omega
  subst e;exact .inl ⟨ww _,hd σ H p⟩
end L2
namespace L2
open PySem PySem.Spec PyProof.Rows
abbrev R2:=V->V->Hp->VK->Prop
def OpR(X:Cx)(f:Value->Value->Sem Value)(r:R2):Prop :=
 ∀(pins:List (Addr×Obj))(s:Shared)(σ:St)(H:Hp)(x y:V)(v u:Value)(Q:VK),Inv X pins σ H s->RelV x v->RelV y u->r x y H Q ->
  wpAny (model X.prog X.w) X.A (f v u) (EP X pins σ Q) X.xe s
def UnR(X:Cx)(f:Value->Sem Value)(r:V->Hp->VK->Prop):Prop :=
 ∀(pins:List (Addr×Obj))(s:Shared)(σ:St)(H:Hp)(x:V)(v:Value)(Q:VK),Inv X pins σ H s->RelV x v->r x H Q ->
  wpAny (model X.prog X.w) X.A (f v) (EP X pins σ Q) X.xe s
def kaC(X:Cx)(f:Value)(r:List V->Hp->VK->Prop):Prop :=
 ∀(pins:List (Addr×Obj))(s:Shared)(σ:St)(H:Hp)(xs:List V)(us:List Value)(Q:VK),Inv X pins σ H s->Vals xs us->r xs H Q ->
  wpAny (model X.prog X.w) X.A (call f us) (EP X pins σ Q) X.xe s
def tOp(r:R2)(ta tb:TE):TE:=fun σ H Q=>ta σ H fun x H1=>tb σ H1 fun y H2=>r x y H2 Q
def tUn(r:V->Hp->VK->Prop)(ta:TE):TE:=fun σ H Q=>ta σ H fun x H1=>r x H1 Q
inductive I_rI(C:Int->Int->Prop)(g:Int->Int->V)(x y:V)(H:Hp)(Q:VK):Prop where
 | mk (i j:Int) (h0_:x=.int i) (h1_:y=.int j) (h2_:C i j) (h3_:Q (g i j) H):I_rI C g x y H Q
def rI(C:Int->Int->Prop)(g:Int->Int->V):R2:=fun x y H Q=>I_rI C g x y H Q
inductive zkm(g:Int->Int->V)(x y:V)(H:Hp)(Q:VK):Prop where
 | mk (i j:Int) (h0_:x=.int i) (h1_:y=.int j) (h2_:Q (g i j) H):zkm g x y H Q
def rI0(g:Int->Int->V):R2:=fun x y H Q=>zkm g x y H Q
inductive I_rU(g:Int->V)(x:V)(H:Hp)(Q:VK):Prop where
 | mk (i:Int) (h0_:x=.int i) (h1_:Q (g i) H):I_rU g x H Q
def rU(g:Int->V):V->Hp->VK->Prop:=fun x H Q=>I_rU g x H Q
section
variable{X:Cx}{a b c:Expr}{ta tb tc:TE}{pos:Pos}
theorem binT(ha:PE X a ta)(hb:PE X b tb){pins:List (Addr×Obj)}{s:Shared}{σ:St}{H:Hp}{R:V->V->Hp->Prop}(I:Inv X pins σ H s)
  (h:ta σ H fun x H1=>tb σ H1 fun y H2=>R x y H2) {Q:Value->Shared->Prop} {f:Value->Value->Sem Value}
  (hf:∀ v u s2 x y H2,Inv X pins σ H2 s2->RelV x v->RelV y u->R x y H2->wpAny (model X.prog X.w) X.A (f v u) Q X.xe s2) :
  wpAny (model X.prog X.w) X.A (eval a X.env) (fun v s₁=>wpAny (model X.prog X.w) X.A (eval b X.env) (fun u s₂=>wpAny (model X.prog X.w) X.A (f v u) Q X.xe s₂) X.xe s₁) X.xe s:=by
 refine thn (ha pins s σ H _ I h) fun v s1 ⟨x,H1,I1,r1,q1⟩=>?_
 refine thn (hb pins s1 σ H1 _ I1 q1) fun u s2 ⟨y,H2,I2,r2,q2⟩=>?_
 exact hf v u s2 x y H2 I2 r1 r2 q2
theorem zt{op:Operator}{r:R2}(ho:OpR X (binaryOp op) r)(ha:PE X a ta)(hb:PE X b tb):PE X (.BinOp a op b pos) (tOp r ta tb):=by
 intro pins s σ H Q I h;exact wpAny_BinOp (binT ha hb I h fun v u s2 x y H2 I2 rx ry q=>ho pins s2 σ H2 x y v u Q I2 rx ry q)
theorem ziF{op:UnaryOp}{r:V->Hp->VK->Prop}(ho:UnR X (unaryOp op) r)(ha:PE X a ta):PE X (.UnaryOp op a pos) (tUn r ta):=by
 intro pins s σ H Q I h;exact UnaryOp_ (thn (ha pins s σ H _ I h) fun v s1 ⟨x,H1,I1,r1,q1⟩=>ho pins s1 σ H1 x v Q I1 r1 q1)
theorem opI{f:Value->Value->Sem Value}{C:Int->Int->Prop}{g:Int->Int->Int}
  (rule:∀(i j:Int)(t u:Tok)(s:Shared)(Q:Value->Shared->Prop)(E:Value->Shared->Prop),C i j->Q (.int (g i j) s.toks) { s with toks:=s.toks+1 }->wpAny (model X.prog X.w) X.A (f (.int i t) (.int j u)) Q E s) :
  OpR X f (rI C fun i j=>.int (g i j)):=by
 intro pins s σ H x y v u Q I rx ry h;obtain⟨i,j,rfl,rfl,hc,q⟩:=h;obtain⟨t,rfl⟩:=rx;obtain⟨t',rfl⟩:=ry;exact rule i j t t' s _ _ hc ⟨.int (g i j),H,I.tok _,⟨_,rfl⟩,q⟩
theorem opI0{f:Value->Value->Sem Value}{g:Int->Int->Int}
  (rule:∀(i j:Int)(t u:Tok)(s:Shared)(Q:Value->Shared->Prop)(E:Value->Shared->Prop),Q (.int (g i j) s.toks) { s with toks:=s.toks+1 }->wpAny (model X.prog X.w) X.A (f (.int i t) (.int j u)) Q E s) :
  OpR X f (rI0 fun i j=>.int (g i j)):=by
 intro pins s σ H x y v u Q I rx ry h;obtain⟨i,j,rfl,rfl,q⟩:=h;obtain⟨t,rfl⟩:=rx;obtain⟨t',rfl⟩:=ry;exact rule i j t t' s _ _ ⟨.int (g i j),H,I.tok _,⟨_,rfl⟩,q⟩
theorem opB0{f:Value->Value->Sem Value}{g:Int->Int->Bool}
  (rule:∀(i j:Int)(t u:Tok)(s:Shared)(Q:Value->Shared->Prop)(E:Value->Shared->Prop),Q (.bool (g i j)) s->wpAny (model X.prog X.w) X.A (f (.int i t) (.int j u)) Q E s) :
  OpR X f (rI0 fun i j=>.bl (g i j)):=by
 intro pins s σ H x y v u Q I rx ry h;obtain⟨i,j,rfl,rfl,q⟩:=h;obtain⟨t,rfl⟩:=rx;obtain⟨t',rfl⟩:=ry;exact rule i j t t' s _ _ ⟨.bl (g i j),H,I,rfl,q⟩
def CPow(i j:Int):Prop:=0<=j/\j<=1000000/\i.natAbs<2^64
theorem yT:OpR X (binaryOp .Add) (rI0 fun i j=>.int (i+j)):=opI0 fun _ _ _ _ _ _ _ q=>add_int q
theorem qV:OpR X (binaryOp .Sub) (rI0 fun i j=>.int (i - j)):=opI0 fun _ _ _ _ _ _ _ q=>sub_int q
theorem zW:OpR X (binaryOp .Mod) (rI (fun _ j=>j≠0) fun i j=>.int (i.fmod j)):=opI fun _ _ _ _ _ _ _ hc q=>mod_int' hc q
theorem zfb:OpR X (binaryOp .Pow) (rI CPow fun i j=>.int (i^j.toNat)):=opI fun _ _ _ _ _ _ _ hc q=>pow_int_small hc.1 hc.2.1 hc.2.2 q
theorem unI{f:Value->Sem Value}{g:Int->Int}
  (rule:∀(i:Int)(t:Tok)(s:Shared)(Q:Value->Shared->Prop)(E:Value->Shared->Prop),Q (.int (g i) s.toks) { s with toks:=s.toks+1 }->wpAny (model X.prog X.w) X.A (f (.int i t)) Q E s) :
  UnR X f (rU fun i=>.int (g i)):=by
 intro pins s σ H x v Q I rx h;obtain⟨i,rfl,q⟩:=h;obtain⟨t,rfl⟩:=rx;exact rule i t s _ _ ⟨.int (g i),H,I.tok _,⟨_,rfl⟩,q⟩
theorem zfg:UnR X (unaryOp .USub) (rU fun i=>.int (-i)):=unI fun _ _ _ _ _ q=>neg_int q
end
def scal:V->V->Bool
 | .non,.non=>true | .non,.int _=>true | .int _,.non=>true | .non,.bl _=>true | .bl _,.non=>true | .non,.str _=>true | .str _,.non=>true
 | .int _,.int _=>true | .bl _,.bl _=>true | .str _,.str _=>true | .byt _,.byt _=>true
 | .int _,.str _=>true | .str _,.int _=>true | .bl _,.str _=>true | .str _,.bl _=>true
 | _,_=>false
def rEq:R2:=fun x y H Q=>scal x y=true/\Q (.bl (decide (x=y))) H
def rNe:R2:=fun x y H Q=>scal x y=true/\Q (.bl (!decide (x=y))) H
theorem zgo{i j:Int}:decide (V.int i=V.int j) =(i == j):=by
 rw[gj];simp
theorem zh6{i j:Bool}:decide (V.bl i=V.bl j) =(i == j):=by
 rw[gj];simp
theorem zfm{i j:Str}:decide (V.str i=V.str j) =(i == j):=by
 rw[gj];simp
theorem zfw{i j:Array UInt8}:decide (V.byt i=V.byt j) =(i.toList == j.toList):=by
 rw[gj];cases i;cases j;simp
section
variable{X:Cx}{a b c:Expr}{ta tb tc:TE}{pos:Pos}
theorem yx{pins:List (Addr×Obj)}{σ:St}{H:Hp}{s:Shared}{Q:VK}{k k':Bool}(I:Inv X pins σ H s)(q:Q (.bl k) H)(e:k=k'):EP X pins σ Q (.bool k') s:=by
 subst e;exact⟨.bl k,H,I,rfl,q⟩
theorem xp:OpR X (compareOp .Eq) rEq:=by
 intro pins s σ H x y v u Q I rx ry h;obtain⟨hs,q⟩:=h;cases x with
 | non =>
  cases rx;cases y with
  | non=>cases ry;exact PySem.EqNone.eq_none_none (yx I q (by simp))
  | bl j=>cases ry;exact PySem.EqNone.eq_none_bool (yx I q (by simp))
  | int j=>obtain⟨t',rfl⟩:=ry;exact PySem.EqNone.eq_none_int (yx I q (by simp))
  | str j=>obtain⟨t',rfl⟩:=ry;exact PySem.EqNone.eq_none_str (yx I q (by simp))
  | _=>exact absurd (show false=true from hs) wS
 | bl i =>
  cases rx;cases y with
  | non=>cases ry;exact PySem.EqNone.eq_bool_none (yx I q (by simp))
  | bl j=>cases ry;exact eq_bool (yx I q zh6)
  | str j=>obtain⟨t',rfl⟩:=ry;exact PySem.EqMixed.eq_bool_str (yx I q (by simp))
  | _=>exact absurd (show false=true from hs) wS
 | int i =>
  obtain⟨t,rfl⟩:=rx;cases y with
  | non=>cases ry;exact PySem.EqNone.eq_int_none (yx I q (by simp))
  | int j=>obtain⟨t',rfl⟩:=ry;exact eq_int (yx I q zgo)
  | str j=>obtain⟨t',rfl⟩:=ry;exact PySem.EqMixed.eq_int_str (yx I q (by simp))
  | _=>exact absurd (show false=true from hs) wS
 | str i =>
  obtain⟨t,rfl⟩:=rx;cases y with
  | non=>cases ry;exact PySem.EqNone.eq_str_none (yx I q (by simp))
  | bl j=>cases ry;exact PySem.EqMixed.eq_str_bool (yx I q (by simp))
  | int j=>obtain⟨t',rfl⟩:=ry;exact PySem.EqMixed.eq_str_int (yx I q (by simp))
  | str j=>obtain⟨t',rfl⟩:=ry;exact eq_str (yx I q zfm)
  | _=>exact absurd (show false=true from hs) wS
 | byt i =>
  obtain⟨t,rfl⟩:=rx;cases y with
  | byt j=>obtain⟨t',rfl⟩:=ry;exact PySem.W.eq_bytes (yx I q zfw)
  | _=>exact absurd (show false=true from hs) wS
 | _=>cases y <;> exact absurd (show false=true from hs) wS
theorem Yt:OpR X (compareOp .NotEq) rNe:=by
 intro pins s σ H x y v u Q I rx ry h;obtain⟨hs,q⟩:=h;cases x with
 | non =>
  cases rx;cases y with
  | non=>cases ry;exact PySem.EqNone.ne_none_none (yx I q (by simp))
  | bl j=>cases ry;exact PySem.EqNone.ne_none_bool (yx I q (by simp))
  | int j=>obtain⟨t',rfl⟩:=ry;exact PySem.EqNone.ne_none_int (yx I q (by simp))
  | str j=>obtain⟨t',rfl⟩:=ry;exact PySem.EqNone.ne_none_str (yx I q (by simp))
  | _=>exact absurd (show false=true from hs) wS
 | bl i =>
  cases rx;cases y with
  | non=>cases ry;exact PySem.EqNone.ne_bool_none (yx I q (by simp))
  | bl j=>cases ry;exact ne_bool (yx I q (congrArg not zh6))
  | str j=>obtain⟨t',rfl⟩:=ry;exact PySem.EqMixed.ne_bool_str (yx I q (by simp))
  | _=>exact absurd (show false=true from hs) wS
 | int i =>
  obtain⟨t,rfl⟩:=rx;cases y with
  | non=>cases ry;exact PySem.EqNone.ne_int_none (yx I q (by simp))
  | int j=>obtain⟨t',rfl⟩:=ry;exact ne_int (yx I q (congrArg not zgo))
  | str j=>obtain⟨t',rfl⟩:=ry;exact PySem.EqMixed.ne_int_str (yx I q (by simp))
  | _=>exact absurd (show false=true from hs) wS
 | str i =>
  obtain⟨t,rfl⟩:=rx;cases y with
  | non=>cases ry;exact PySem.EqNone.ne_str_none (yx I q (by simp))
  | bl j=>cases ry;exact PySem.EqMixed.ne_str_bool (yx I q (by simp))
  | int j=>obtain⟨t',rfl⟩:=ry;exact PySem.EqMixed.ne_str_int (yx I q (by simp))
  | str j=>obtain⟨t',rfl⟩:=ry;exact ne_str (yx I q (congrArg not zfm))
  | _=>exact absurd (show false=true from hs) wS
 | byt i =>
  obtain⟨t,rfl⟩:=rx;cases y with
  | byt j=>obtain⟨t',rfl⟩:=ry;exact PySem.W.ne_bytes (yx I q (congrArg not zfw))
  | _=>exact absurd (show false=true from hs) wS
 | _=>cases y <;> exact absurd (show false=true from hs) wS
theorem zh1:OpR X (compareOp .Lt) (rI0 fun i j=>.bl (decide (i<j))):=opB0 fun _ _ _ _ _ _ _ q=>lt_int q
theorem zkG:OpR X (compareOp .LtE) (rI0 fun i j=>.bl (decide (i<=j))):=opB0 fun _ _ _ _ _ _ _ q=>le_int q
theorem ZM:OpR X (compareOp .Gt) (rI0 fun i j=>.bl (decide (j<i))):=opB0 fun _ _ _ _ _ _ _ q=>gt_int q
theorem kae(b:Expr){op:CmpOp}(h:op≠.In:=by decide)(h2:op≠.NotIn:=by decide):behindInMarks op b=false:=by
 have e1:(op == CmpOp.In)=false:=by cases op <;> first|rfl|exact absurd rfl h
 have e2:(op == CmpOp.NotIn)=false:=by cases op <;> first|rfl|exact absurd rfl h2
 cases b <;> simp[behindInMarks,e1,e2]
theorem xJ{op:CmpOp}{r:R2}(ho:OpR X (compareOp op) r)(ha:PE X a ta)(hb:PE X b tb)(hm:behindInMarks op b=false):PE X (.Compare a [op] [b] pos) (tOp r ta tb):=by
 intro pins s σ H Q I h;exact wpAny_Compare1 (binT ha hb I h fun v u s2 x y H2 I2 rx ry q=>ho pins s2 σ H2 x y v u Q I2 rx ry q) hm
inductive zfX(x:V)(H':Hp)(Q:Bool->Hp->Prop):Prop where
 | mk (k:Bool) (h0_:x=.bl k) (h1_:Q k H'):zfX x H' Q
def tTest(t:TE):TT:=fun σ H Q=>t σ H fun x H'=>zfX x H' Q
theorem zG{op:CmpOp}{r:R2}(ho:OpR X (compareOp op) r)(ha:PE X a ta)(hb:PE X b tb)(hm:behindInMarks op b=false):PT X (.Compare a [op] [b] pos) (tTest (tOp r ta tb)):=by
 intro pins s σ H Q I h;refine wpAny_isTrue_Compare1 (thn (ha pins s σ H _ I h) fun v s1 ⟨x,H1,I1,r1,q1⟩=>thn (hb pins s1 σ H1 _ I1 q1) fun u s2 ⟨y,H2,I2,r2,q2⟩ =>
  thn (ho pins s2 σ H2 x y v u _ I2 r1 r2 q2) fun c s3 ⟨z,H3,I3,r3,k,e,q3⟩=>?_) hm
 subst e;cases r3;exact wpAny_truthy_bool ⟨H3,I3,q3⟩
def tChain(r r':R2)(ta tb tc:TE):TE:=fun σ H Q=>ta σ H fun x H1=>tb σ H1 fun y H2=>r x y H2 fun z H3=>∃ k,z=.bl k /\
 (if k=true then tc σ H3 fun w' H4=>r' y w' H4 Q else Q (.bl false) H3)
theorem zg8{op op':CmpOp}{r r':R2}(ho:OpR X (compareOp op) r)(ho':OpR X (compareOp op') r')(ha:PE X a ta)(hb:PE X b tb)(hc:PE X c tc)
  (hm:lastMarks [op,op'] [b,c]=false:=by with_unfolding_all rfl):PE X (.Compare a [op,op'] [b,c] pos) (tChain r r' ta tb tc):=by
 intro pins s σ H Q I h;refine Compare_chain (thn (ha pins s σ H _ I h) fun v s1 ⟨x,H1,I1,r1,q1⟩=>chain_link (thn (hb pins s1 σ H1 _ I1 q1) fun u s2 ⟨y,H2,I2,r2,q2⟩ =>
  thn (ho pins s2 σ H2 x y v u _ I2 r1 r2 q2) fun d s3 ⟨z,H3,I3,r3,k,e,q3⟩=>?_)) hm
 subst e;cases r3;refine wpAny_truthy_bool ?_;cases k with
 | false=>exact ite_ff ⟨.bl false,H3,I3,rfl,q3⟩
 | true=>exact ite_tt (chain_last (thn (hc pins s3 σ H3 _ I3 q3) fun w' s4 ⟨z',H4,I4,r4,q4⟩=>ho' pins s4 σ H4 y z' u w' Q I4 r2 r4 q4))
theorem line63:(sizeLine:Nat)<2^63:=by rw[sizeLine_eq];decide
theorem vals1{x:V}{us:List Value}(r:Vals [x] us):∃ u,us=[u]/\RelV x u:=by
 cases r with
 | cons r1 r2=>cases r2;exact⟨_,rfl,r1⟩
theorem zak:kaC X (.builtin "abs") (fun xs H Q=>∃ i,xs=[.int i]/\Q (.int (if i<0 then -i else i)) H):=by
 intro pins s σ H xs us Q I r h;obtain⟨i,rfl,q⟩:=h;obtain⟨u,rfl,t,rfl⟩:=vals1 r;exact call_abs_int fun u tk=>⟨.int (if i<0 then -i else i),H,I.tok _,⟨_,rfl⟩,q⟩
theorem Jc:kaC X (.type "int") (fun xs H Q=>(∃ i,xs=[.int i]/\Q (.int i) H)\/∃ k,xs=[.bl k]/\Q (.int (if k then 1 else 0)) H):=by
 intro pins s σ H xs us Q I r h
 rcases h with⟨i,rfl,q⟩|⟨k,rfl,q⟩
 ·obtain⟨u,rfl,t,rfl⟩:=vals1 r;exact call_int_int ⟨.int i,H,I,⟨_,rfl⟩,q⟩
 ·obtain⟨u,rfl,r1⟩:=vals1 r;cases r1;exact call_int_bool ⟨.int (if k then 1 else 0),H,I.tok _,⟨_,rfl⟩,q⟩
end
end L2
namespace L2
open PySem PySem.Spec PyProof.Rows
structure ObjM(h:Heap)(x dx C:Addr)(mA:Str->Option Value):Prop where
 obj:h.get? x=some (PySem.W.instObj C dx)
 ns:h.Ns1 dx mA
 ne:dx≠x
theorem zg4{h:Heap}{dx:Addr}{mA:Str->Option Value}(n:h.Ns1 dx mA):∃ od,h.get? dx=some od/\∀ name,PySem.W.lookIn name od=some (mA name):=by
 obtain⟨o,es,ep,ho,hd,hk,_,hm⟩:=n;refine⟨o,ho,fun name=>?_⟩;have e:=hm name;unfold nsFind findBy at e;rw[← Array.find?_toList]at e;unfold PySem.W.lookIn;rw[hd]
 dsimp only
 split
 ·rename_i y q;rw[q]at e;exact congrArg some e
 ·rename_i q;rw[q]at e;have a:es.toList.any (·.refKey)=false:=by
   rw[waD];intro y hy;obtain⟨z,t,hkey⟩:=hk y (Array.mem_toList_iff.mp hy);simp[DictEntry.refKey,hkey]
  have a':¬ es.toList.any (·.refKey)=true:=by rw[a];exact wS
  rw[if_neg a'];exact congrArg some e
theorem ObjM.look{h:Heap}{x dx C:Addr}{mA:Str->Option Value}(I:ObjM h x dx C mA):∃ od,PySem.W.InstAt h x (PySem.W.instObj C dx) C (some od)/\∀ name,PySem.W.lookIn name od=some (mA name) :=
 let ⟨od,ho,hl⟩:=zg4 I.ns
 ⟨od,⟨I.obj,rfl,rfl,ho⟩,hl⟩
section
variable{prog:Program}{w:World}{A:Around}{E:Value->Shared->Prop}{s:Shared}{K:PySem.W.Frag}{x dx C f:Addr}{mA:Str->Option Value}{name:Str}{v:Value}
end
section
variable{P:Program}{w:World}{H H':Hp}{h h':Heap}{a C dx:Addr}{fs fs':List (Str×V)}
theorem zjv(hok:HOk P w H h)(e:H a=some (.ins C dx fs)):∃ mA,ObjM h a dx C mA/\(∀ f,RelO (fs.lookup f) (mA f))/\PySem.Within mA (fs.map (·.1))/\fs.length<=1000/\H dx=some (.own a):=by
 obtain⟨d,z,ne,ob,mA,n,r,q⟩:=(show kaB P w H h a (.ins C dx fs)from hok a _ e);exact⟨mA,⟨ob,n,ne⟩,r,q,z,d⟩
end
structure Cls(K:PySem.W.Frag)(C:Addr):Prop where
 pg:PySem.W.plainGet K C Str.empty=true
 hd:PySem.W.hasDictIn K C=true
 po:PySem.W.plainOver K C=true
 sa:PySem.W.findIn K (.ref C) "__setattr__" = some (some (.builtin "object.__setattr__"))
theorem Cls.get{K:PySem.W.Frag}{C:Addr}(c:Cls K C)(f:Str):PySem.W.plainGet K C f=true:=c.pg
section
variable{X:Cx}{pins:List (Addr×Obj)}{σ:St}{H:Hp}{s:Shared}{a C dx:Addr}{fs:List (Str×V)}{f:Str}{v:V}{A:Around}{E:Value->Shared->Prop}
end
section
variable{X:Cx}{o e value:Expr}{f:Str}{pos pos' tpos:Pos}{ta tv:TE}
end
section
variable{X:Cx}{pins:List (Addr×Obj)}{σ:St}{H:Hp}{s:Shared}{A:Around}{E:Value->Shared->Prop}{Q:Value->Shared->Prop}{c:Value}{b:Bool}
inductive TyOf(K:PySem.W.Frag)(H:Hp):V->Value->Prop where
 | non:TyOf K H .non (.type "NoneType")
 | bl (x:Bool):TyOf K H (.bl x) (.type "bool")
 | int (i:Int):TyOf K H (.int i) (.type "int")
 | str (x:Str):TyOf K H (.str x) (.type "str")
 | flt (x:UInt64):TyOf K H (.flt x) (.type "float")
 | lst {a:Addr} {xs:List V} (e:H a=some (.lst xs)):TyOf K H (.ref a) (.type "list")
 | frz {a:Addr} {o:Obj} {xs:List V} (e:H a=some (.frz o (.lst xs))):TyOf K H (.ref a) (.type "list")
 | tup {a:Addr} {xs:List V} (e:H a=some (.tup xs)):TyOf K H (.ref a) (.type "tuple")
 | dK {a:Addr} {kvs:List (Key×V)} (e:H a=some (.dK kvs)):TyOf K H (.ref a) (.type "dict")
 | dT {a:Addr} {kvs:List (List Key×V)} (e:H a=some (.dT kvs)):TyOf K H (.ref a) (.type "dict")
 | ins {a C dx:Addr} {fs:List (Str×V)} (e:H a=some (.ins C dx fs)) (cl:Cls K C) (ha:PySem.W.findIn K (.ref C) "__class__" = some (some (.builtin "object.__class__")))
   (hn:PySem.W.specialIn K (.builtin "object.__class__") "__get__" = some (some (.builtin "getset_descriptor.__get__"))) (htk:PySem.W.takesIn K (.builtin "object.__class__")=some true)
   (hm:PySem.W.mroIn K C (.type "object")=some true):TyOf K H (.ref a) (.ref C)
theorem zg1{x:V}{u t:Value}(I:Inv X pins σ H s)(rx:RelV x u)(ty:TyOf X.K H x t)(e:PySem.W.kitOne X.K t c=some b)(h:∀ tk,Q (.bool b) { s with toks:=tk }) :
  wpAny (model X.prog X.w) A (call (.builtin "isinstance") [u,c]) Q E s:=by
 cases ty with
 | non=>cases (show u=Value.none from rx);exact PySem.W.kia_one PySem.W.kitx_none I.kIn True.intro e (fun z=>nomatch z) h
 | bl y=>cases (show u=Value.bool y from rx);exact PySem.W.kia_one PySem.W.kitx_bool I.kIn True.intro e (fun z=>nomatch z) h
 | int i=>obtain⟨t,q⟩:=(show ∃ t,u=Value.int i t from rx);cases q;exact PySem.W.kia_one PySem.W.kitx_int I.kIn True.intro e (fun z=>nomatch z) h
 | str y=>obtain⟨t,q⟩:=(show ∃ t,u=Value.str y t from rx);cases q;exact PySem.W.kia_one PySem.W.kitx_str I.kIn True.intro e (fun z=>nomatch z) h
 | flt y=>obtain⟨t,q⟩:=(show ∃ t,u=Value.float y t from rx);cases q;exact PySem.W.kia_one PySem.W.kitx_float I.kIn True.intro e (fun z=>nomatch z) h
 | @lst a xs ea =>
  cases (show u=Value.ref a from rx);obtain⟨_,_,n,_,h1⟩:=(show kaB X.prog X.w H s.heap a (.lst xs)from I.hok a _ ea);exact PySem.W.kia_one PySem.W.kitx_list I.kIn ⟨_,h1,rfl⟩ e (fun z=>nomatch z) h
 | @frz a ob xs ea =>
  cases (show u=Value.ref a from rx);obtain⟨_,_,_,n,_,h1⟩:=(show kaB X.prog X.w H s.heap a (.frz ob (.lst xs))from I.hok a _ ea);exact PySem.W.kia_one PySem.W.kitx_list I.kIn ⟨_,h1,rfl⟩ e (fun z=>nomatch z) h
 | @tup a xs ea =>
  cases (show u=Value.ref a from rx);obtain⟨_,_,_,p⟩:=(show kaB X.prog X.w H s.heap a (.tup xs)from I.hok a _ ea);obtain⟨o,h1,h2,_⟩:=p;exact PySem.W.kia_one PySem.W.kitx_tuple I.kIn ⟨o,h1,h2⟩ e (fun z=>nomatch z) h
 | @dK a kvs ea =>
  cases (show u=Value.ref a from rx);obtain⟨_,_,vs,_,p⟩:=(show kaB X.prog X.w H s.heap a (.dK kvs)from I.hok a _ ea);obtain⟨o,es,ep,h1,h2,_⟩:=p;exact PySem.W.kia_one PySem.W.kitx_dict I.kIn ⟨o,h1,h2.1⟩ e (fun z=>nomatch z) h
 | @dT a kvs ea =>
  cases (show u=Value.ref a from rx);obtain⟨_,_,xs,_,o,es,ep,h1,h2,_⟩:=(show kaB X.prog X.w H s.heap a (.dT kvs)from I.hok a _ ea);exact PySem.W.kia_one PySem.W.kitx_dict I.kIn ⟨o,h1,h2.1⟩ e (fun z=>nomatch z) h
 | @ins a C dx fs ea cl ha hn htk hm =>
  cases (show u=Value.ref a from rx);obtain⟨mA,O,_⟩:=zjv I.hok ea;obtain⟨od,J,_⟩:=O.look;exact PySem.W.kia_one (PySem.W.kitx_own (cl.get _) cl.hd ha hn htk hm) I.kIn J e (fun z=>nomatch z) h
end
end L2
namespace L2
open PySem PySem.Spec PyProof.Rows
structure Room(k:Nat)(A:Around):Prop where
 hd:A.handled=none
 dp:A.depth+3*k+5<recursionLimit
 un:A.units+16*k+200<cLine
theorem Room.mono{j k:Nat}{A:Around}(r:Room k A)(h:j<=k):Room j A:=⟨r.hd,by have:=r.dp;omega,by have:=r.un;omega⟩
theorem Room.deeper{k:Nat}{A:Around}(r:Room (k+1) A)(env:Env):Room k (A.deeper env) :=
 ⟨r.hd,by have:=r.dp;show A.depth+1+3*k+5<_;omega,by have:=r.un;show A.units+3+16*k+200<_;omega⟩
theorem Room.depth{k:Nat}{A:Around}(r:Room k A):A.depth<recursionLimit:=by have:=r.dp;omega
theorem Room.units{k:Nat}{A:Around}(r:Room k A):A.units+64<cLine:=by have:=r.un;omega
def tNil:TA:=fun _ H Q=>Q [] H
def tCons(ta:TE)(tr:TA):TA:=fun σ H Q=>ta σ H fun x H1=>tr σ H1 fun xs H2=>Q (x::xs) H2
section
variable{X:Cx}{e:Expr}{es:List Expr}{te:TE}{t:TA}{pos:Pos}
theorem ze:PA X [] tNil:=fun _ _ _ _ H Q I h=>Calls.spliced_nil ⟨[],H,I,.nil,h⟩
theorem zc(ha:PE X e te)(hr:PA X es t)(hs:starEach (e::es) X.env =(false,eval e X.env)::starEach es X.env:=by rfl):PA X (e::es) (tCons te t):=by
 intro pos pins s σ H Q I h;rw[hs];show wpAny _ _ (spliced ((false,eval e X.env)::backTo pos (starEach es X.env))) _ _ s;refine Calls.spliced_cons (thn (ha pins s σ H _ I h) fun u s1 ⟨x,H1,I1,r1,q1⟩=>?_);exact thn (hr pos pins s1 σ H1 _ I1 q1) fun us s2 ⟨xs,H2,I2,r2,q2⟩=>⟨x::xs,H2,I2,.cons r1 r2,q2⟩
def tTup(t:TA):TE:=fun σ H Q=>t σ H fun xs H1=>xs.length<=sizeLine/\∀ p,H1 p=none->Q (.ref p) (upd H1 p (.tup xs))
def tLst(t:TA):TE:=fun σ H Q=>t σ H fun xs H1=>xs.length<=sizeLine/\∀ p,H1 p=none->Q (.ref p) (upd H1 p (.lst xs))
theorem xm{x1}(h:PA X es t):PE X (.Tuple es x1 pos) (tTup t):=by
 intro pins s σ H Q I hq;refine wpAny_Tuple_spliced (thn (h pos pins s σ H _ I hq) fun us s1 ⟨xs,H1,I1,r,z,q⟩=>⟨by rw[← r.length];exact z,?_⟩);have hf:H1 s1.heap.objs.size=none:=I1.hok.fresh (ww _);refine⟨.ref s1.heap.objs.size,upd H1 s1.heap.objs.size (.tup xs),I1.laid (t':=s1.toks) (fun b u e=>Heap.get?_push_of_some _ e) (ww _) ?_,rfl,q _ hf⟩;exact⟨z,us,r,⟨_,Heap.get?_push_size _ rfl,rfl,_,rfl⟩⟩
theorem yC(h:PA X es t):PE X (.List es pos) (tLst t):=by
 intro pins s σ H Q I hq;refine wpAny_List_spliced (thn (h pos pins s σ H _ I hq) fun us s1 ⟨xs,H1,I1,r,z,q⟩=>⟨by rw[← r.length];exact z,?_⟩);have hf:H1 s1.heap.objs.size=none:=I1.hok.fresh (ww _);refine⟨.ref s1.heap.objs.size,upd H1 s1.heap.objs.size (.lst xs),I1.laid (t':=s1.toks) (fun b u e=>Heap.get?_push_of_some _ e) (ww _) ?_,rfl,q _ hf⟩;exact⟨z,us,0,r,Heap.get?_push_size _ rfl⟩
end
abbrev Sp:=List V->Hp->VK->XK->Prop
abbrev CXT:=List Env->Hp->Shared->XK->Value->Shared->Prop
structure Env0(P:Program)(w:World)(K:PySem.W.Frag)(mg:Str->Option Value)(base:Heap)(A:Around)(outer:List Env)(s:Shared)(H:Hp):Prop where
 frames:A.frames=some outer
 mod:Mod K mg base
 bs:∀ b o,base.get? b=some o->s.heap.get? b=some o/\H b=none
 bsz:base.objs.size<=s.heap.objs.size
 funs:s.heap.FunFrames base outer
 frf:∀ b∈frs outer,H b=none
 hok:HOk P w H s.heap
 bare:AllBare s.gens
def CE(outer:List Env)(P:Program)(w:World)(H:Hp)(s:Shared)(Q:VK)(u:Value)(s':Shared):Prop :=
 ∃ v H',s'.os=s.os/\AllBare s'.gens/\Un (frs outer) [] H H' s.heap s'.heap/\HOk P w H' s'.heap/\RelV v u/\Q v H'
def CR(CX:CXT)(outer:List Env)(P:Program)(w:World)(H:Hp)(s:Shared)(Q:VK)(E:XK)(r:Result)(s':Shared):Prop :=
 match r with
 | .ok (.ret u)=>CE outer P w H s Q u s'
 | .ok _=>False
 | .error e=>CX outer H s E e s'
structure FnOk(P:Program)(w:World)(K:PySem.W.Frag)(mg:Str->Option Value)(base:Heap)(CX:CXT)(k:Nat)(f:Addr)(fd:FuncData)(ps:List Str)(sp:Sp):Prop where
 len:∀ vs H Q E,sp vs H Q E->vs.length=ps.length
 run:∀(A:Around)(outer:List Env)(s:Shared)(H:Hp)(args:Args)(us:List Value)(vs:List V)(Q:VK)(E:XK),Room k A->Env0 P w K mg base A outer s H->BindsTo s fd args (ps.zip us)->Vals vs us->sp vs H Q E ->
  codeAny (model P w) A (.call (.ref f) args) (CR CX outer P w H s Q E) s
theorem FnOk.imp{P:Program}{w:World}{K:PySem.W.Frag}{mg:Str->Option Value}{base:Heap}{CX:CXT}{k:Nat}{f:Addr}{fd:FuncData}{ps:List Str}{sp sp':Sp}(F:FnOk P w K mg base CX k f fd ps sp)
  (h:∀ vs H Q E,sp' vs H Q E->sp vs H Q E):FnOk P w K mg base CX k f fd ps sp' :=
 ⟨fun vs H Q E q=>F.len vs H Q E (h _ _ _ _ q),fun A outer s H args us vs Q E hr he hb hv hs=>F.run A outer s H args us vs Q E hr he hb hv (h _ _ _ _ hs)⟩
section
variable{X:Cx}{pins:List (Addr×Obj)}{σ:St}{H:Hp}{s s':Shared}
theorem Inv.env0(I:Inv X pins σ H s):Env0 X.prog X.w X.K X.mg X.base X.A X.stack s H :=
 ⟨I.ok.frames,I.ok.mod,I.bs,wI I.ok.bsz I.sz,I.stack,I.stkFree,I.hok,I.bare⟩
theorem Inv.after{Q:VK}{u:Value}(I:Inv X pins σ H s)(h:CE X.stack X.prog X.w H s Q u s'):EP X pins σ Q u s':=by
 obtain⟨v,H',os,bare,un,hok,r,q⟩:=h;obtain⟨hh,g,d,t,os'⟩:=s';obtain rfl:os'=s.os:=os;exact⟨v,H',I.call (h':=hh) (g':=g) (d':=d) (t':=t) (ch:=[]) un hok bare (fun b z=>absurd z (by simp)),r,q⟩
end
def tCall(sp:Sp)(dvs:List V)(E:XK)(t:TA):TE:=fun σ H Q=>t σ H fun vs H1=>sp (vs++dvs) H1 Q E
def Binds(K:PySem.W.Frag)(fd:FuncData)(ps:List Str)(ds:List Value):Prop :=
 ∀(s:Shared)(us:List Value),K.In s.heap->(us++ds).length=ps.length->BindsTo s fd ⟨us,[]⟩ (ps.zip (us++ds))
theorem Binds.all{K:PySem.W.Frag}{fd:FuncData}{ps:List Str}(h:∀ us:List Value,us.length=ps.length->bindArgs fd ⟨us,[]⟩=pure (ps.zip us)):Binds K fd ps []:=fun s us _ hl=>by
 rw[vH]at hl ⊢;exact .of_eq (h us hl)
def Passes(CX:CXT)(X:Cx)(E:XK):Prop:=∀(pins:List (Addr×Obj))(σ:St)(H:Hp)(s:Shared)(e:Value)(s':Shared),Inv X pins σ H s->CX X.stack H s E e s'->X.xe e s'
section
variable{X:Cx}{CX:CXT}{k:Nat}{f C:Addr}{fd:FuncData}{ps:List Str}{sp:Sp}{dvs:List V}{ds:List Value}{E:XK}{x m:Str}{p pos apos:Pos}{e o:Expr}{es:List Expr}{ta:TE}{t:TA}
theorem zjY{pins:List (Addr×Obj)}{σ:St}{H:Hp}{s:Shared}{Q:VK}{us:List Value}{vs:List V}(F:FnOk X.prog X.w X.K X.mg X.base CX k f fd ps sp)(hr:Room k X.A)(hb:Binds X.K fd ps ds)(hd:Vals dvs ds)(hx:Passes CX X E)
  (I:Inv X pins σ H s) (r:Vals vs us) (h:sp (vs++dvs) H Q E):wpAny (model X.prog X.w) X.A (call (.ref f) us) (EP X pins σ Q) X.xe s:=by
 have r2:Vals (vs++dvs) (us++ds):=r.append hd;have hl:(us++ds).length=ps.length:=by rw[← r2.length];exact F.len _ _ _ _ h
 refine wpAny_call (codeAny_mono (F.run X.A X.stack s H ⟨us,[]⟩ (us++ds) (vs++dvs) Q E hr I.env0 (hb s us I.kIn hl) r2 h) fun r s' hq=>?_);cases r with
 | error e=>exact hx pins σ H s e s' I hq
 | ok fl =>
  cases fl with
  | ret u=>exact I.after hq
  | next=>exact False.elim hq
  | brk=>exact False.elim hq
  | cont=>exact False.elim hq
theorem zi7(F:FnOk X.prog X.w X.K X.mg X.base CX k f fd ps sp)(hr:Room k X.A)(hg:Gl X x)(hm:X.mg x=some (.ref f))(hk:PySem.W.keepIn X.K (.ref f)=true)(hb:Binds X.K fd ps ds)(hd:Vals dvs ds)(hx:Passes CX X E)
  (ha:PA X (e::es) t) (hdb:(x ==("__debug__" : Str))=false:=by decide) (he:starEach (e::es) X.env =(false,eval e X.env)::starEach es X.env:=by rfl) (hpl:(backTo pos (starEach es X.env)).any (·.1)=false:=by rfl) :
  PE X (.Call (.Name x p) (e::es) [] pos) (tCall sp dvs E t):=by
 intro pins s σ H Q I h;refine wpAny_Call_Name_kw (zfu I hg hm ?_ hdb);refine PySem.W.callWith_K (h₀:=X.base) I.ok.mod.kin hk (thn (ha pos pins s σ H _ I h) fun us s1 ⟨vs,H1,I1,r,q⟩=>⟨I1.kIn,?_⟩) he hpl;exact zjY F hr hb hd hx I1 r q
end
section
variable{X:Cx}{CX:CXT}{k:Nat}{f C:Addr}{fd:FuncData}{ps ks:List Str}{sp:Sp}{E:XK}{x m:Str}{p pos apos kpos:Pos}{e o:Expr}{es:List Expr}{kws:List Keyword}{te ta:TE}{t tk:TA}{nm:Option Str}
variable{g:List Value->List Value->List Value}{gV:List V->List V->List V}
end
structure kad(N P:List Str)(sc:Scope):Prop where
 kind:sc.kind=.function
 co:sc.isCoroutine=false
 gen:sc.isGenerator=false
 nd:N.Nodup
 pre:N.take P.length=P
 par:∀ x∈P,sc.names.lookup x=some .local\/sc.names.lookup x=some .cell
 nofree:∀ y∈sc.names,y.2≠.free
theorem za5{kindOf:Str->Option NameKind}{x:Str}:∀ {binds:List (Str×Value)} {m:Str->Option Value},(∀ v,(x,v)∉binds)->bindL kindOf binds m x=m x
 | [],_,_=>rfl
 | (n,v)::r,m,h=>by
  unfold bindL;rw[za5 fun w hw=>h w (wv _ hw)]
  split
  ·have:x≠n:=by rintro rfl;exact h v wt
   simp[this]
  ·rfl
theorem zby{kindOf:Str->Option NameKind}{x:Str}:∀ {binds:List (Str×Value)} {m:Str->Option Value},(∀ v,(x,v)∉binds)->bindC kindOf binds m x=m x
 | [],_,_=>rfl
 | (n,v)::r,m,h=>by
  unfold bindC;rw[zby fun w hw=>h w (wv _ hw)]
  split
  ·rfl
  ·have:x≠n:=by rintro rfl;exact h v wt
   simp[this]
theorem zbS{kindOf:Str->Option NameKind}{x:Str}{v:Value}:∀ {P:List Str} {vs:List Value} {i:Nat} {m:Str->Option Value},P.Nodup->P[i]?=some x->vs[i]?=some v->kindOf x=some .local ->
  bindL kindOf (P.zip vs) m x=some v
 | [],_,_,_,_,h,_,_=>by simp at h
 | _::_,[],_,_,_,_,h,_=>by simp at h
 | p::P,w::vs,0,m,nd,h1,h2,hk=>by
  simp at h1 h2;subst h1;subst h2;show bindL kindOf ((p,w)::P.zip vs) m p=_;unfold bindL;rw[za5 fun v hv=>(gS.mp nd).1 (vw hv).1,if_pos hk];simp
 | p::P,w::vs,i+1,m,nd,h1,h2,hk=>by
  show bindL kindOf ((p,w)::P.zip vs) m x=_;unfold bindL;exact zbS (i:=i) (gS.mp nd).2 (by simpa using h1) (by simpa using h2) hk
theorem zbV{kindOf:Str->Option NameKind}{x:Str}{v:Value}:∀ {P:List Str} {vs:List Value} {i:Nat} {m:Str->Option Value},P.Nodup->P[i]?=some x->vs[i]?=some v->kindOf x≠some .local ->
  bindC kindOf (P.zip vs) m x=some v
 | [],_,_,_,_,h,_,_=>by simp at h
 | _::_,[],_,_,_,_,h,_=>by simp at h
 | p::P,w::vs,0,m,nd,h1,h2,hk=>by
  simp at h1 h2;subst h1;subst h2;show bindC kindOf ((p,w)::P.zip vs) m p=_;unfold bindC;rw[zby fun v hv=>(gS.mp nd).1 (vw hv).1,if_neg hk];simp
 | p::P,w::vs,i+1,m,nd,h1,h2,hk=>by
  show bindC kindOf ((p,w)::P.zip vs) m x=_;unfold bindC;exact zbV (i:=i) (gS.mp nd).2 (by simpa using h1) (by simpa using h2) hk
def start(N:List Str)(vs:List V):St:=vs.map some++wN (N.length - vs.length) none
def cxOf(CX:CXT)(P:Program)(w:World)(K:PySem.W.Frag)(mg:Str->Option Value)(base:Heap)(N:List Str)(qual:Str)(scope:Scope)(f:Addr)(cd:Value)(A:Around)(outer:List Env)(s:Shared)(H:Hp)(E:XK):Cx where
 prog:=P
 w:=w
 K:=K
 mg:=mg
 base:=base
 A:=A.deeper (envOfC qual scope s.heap.objs.size f cd)
 N:=N
 s₀:=s
 H₀:=H
 env:=envOfC qual scope s.heap.objs.size f cd
 outer:=outer
 stack:=envOfC qual scope s.heap.objs.size f cd::outer
 ex:=[]
 calm:=true
 fn:=fun _=>true
 pn:=[]
 xe:=fun e s'=>wpAny (model P w) (A.deeper (envOfC qual scope s.heap.objs.size f cd)) (leaving (envOfC qual scope s.heap.objs.size f cd) e) (fun _ s''=>CX outer H s E e s'') (fun e' s''=>CX outer H s E e' s'') s'
theorem zdz{sc:Scope}{n:Nat}{x:Str}(h:sc.names.lookup x=some .cell):∃ c,(cellsFrom n sc.names []).lookup x=some c:=by
 have q:=PySem.W.cellsFrom_some sc.names n [] (.inl h);exact Option.isSome_iff_exists.mp q
theorem zff{CX:CXT}{P:Program}{w:World}{K:PySem.W.Frag}{mg:Str->Option Value}{base:Heap}{N ps:List Str}{qual:Str}{scope:Scope}{f:Addr}{cd:Value}{A:Around}{outer:List Env}{s s1:Shared}{H:Hp}{E:XK}{us:List Value}{vs:List V}
  (S:kad N ps scope) (hd:A.handled=none) (e0:Env0 P w K mg base A outer s H) (hl:vs.length=ps.length) (r:Vals vs us)
  (x:InCallC s s.heap.objs.size (bindL (envOfC qual scope s.heap.objs.size f cd).kindOf (ps.zip us) fun _=>none) (cellsFrom (s.heap.objs.size+1) scope.names []) (bindC (envOfC qual scope s.heap.objs.size f cd).kindOf (ps.zip us) fun _=>none) s1) :
  Inv (cxOf CX P w K mg base N qual scope f cd A outer s H E) [] (start N vs) H s1:=by
 have hpl:ps.length<=N.length:=by have:=congrArg Gi S.pre;rw[wx]at this;omega
 obtain⟨h1,tk,rfl,hk⟩:=x.done;have noA:∀ b:Addr,b∉(cxOf CX P w K mg base N qual scope f cd A outer s H E).ex:=fun b z=>absurd (show b∈([]:List Addr)from z) (by simp)
 refine⟨⟨e0.mod,S.kind,rfl,rfl,ww _,fun y z c h1 h2=>?_,fun y hy=>?_,fun y c _ h=>?_,fun _=>hd,Around.frames_deeper e0.frames,.inr ⟨rfl,rfl⟩,fun b z=>absurd z (noA b),e0.bs,e0.bsz,fun b _ _=>noA b,fun b z=>absurd z (noA b),e0.funs,e0.frf⟩,
  rfl,e0.bare,Un.kept hk,⟨_,x.toInCall.ns,fun i y v h1 h2 h3=>?_⟩,fun y c h=>⟨_,x.cell y c h⟩,e0.hok.fresh (ww _),fun y c h=>?_,fun p hp=>absurd (show p∈([]:List (Addr×Obj))from hp) (by simp),e0.hok.kept hk,?_⟩
 ·exact name_of_addr x.apart (PySem.mem_of_lookup h1) (PySem.mem_of_lookup h2)
 ·have hy:scope.names.lookup y=some .cell\/scope.names.lookup y=some .free:=hy
  rcases hy with hy|hy
  ·exact zdz hy
  ·exact absurd rfl (S.nofree _ (PySem.mem_of_lookup hy))
 ·exact uh (x.above y c (PySem.mem_of_lookup h))
 ·have hi:i<vs.length:=by
   unfold start at h2
   by_cases hi:i<vs.length
   ·exact hi
   ·rw[vv (by simpa using hi)]at h2;rw[uF]at h2
    split at h2 <;> cases h2
  have ha:vs[i]?=some v:=by
   unfold start at h2;rw[vz (by simpa using hi),wo]at h2;cases e:vs[i]? with
   | none=>rw[e]at h2;cases h2
   | some a=>rw[e]at h2;cases h2;rfl
  obtain⟨u,hu,rv⟩:=r.get ha;have hp:ps[i]?=some y:=by
   rw[← S.pre,gZ (by omega)];exact h1
  have ndP:ps.Nodup:=by rw[← S.pre];exact S.nd.sublist (List.take_sublist _ _)
  refine⟨u,rv,?_⟩
  rcases S.par y (wk hp)with k|k
  ·exact .inl ⟨k,zbS ndP hp hu k⟩
  ·obtain⟨c,e⟩:=zdz (n:=s.heap.objs.size+1) k;refine .inr ⟨.inl k,c,e,?_⟩;have q:=x.cell y c e;rw[zbV ndP hp hu (by show scope.names.lookup y≠_;rw[k];decide)]at q;exact q
 ·exact e0.hok.fresh (uh (x.above y c (PySem.mem_of_lookup h)))
 ·unfold start;show _=N.length;rw[wy,we,vt];omega
theorem zkH{CX:CXT}{P:Program}{w:World}{K:PySem.W.Frag}{mg:Str->Option Value}{base:Heap}{k:Nat}{f:Addr}{name qual:Str}{params:Arguments}{body:List Stmt}{scope:Scope}{dV kV doc pm cdv ct oc:Value}{an od:Option Addr}
  {osl:Array (Option Value)} {N ps:List Str} {sp:Sp} (lk:K.lookup f=some ⟨oc,od,.func (PySem.W.fnOf name qual params body scope dV kV doc pm an cdv ct),osl⟩) (hcd:PySem.W.codeIn K cdv qual=true) (S:kad N ps scope)
  (len:∀ vs H Q E,sp vs H Q E->vs.length=ps.length)
  (hbody:∀(A:Around)(outer:List Env)(s:Shared)(H:Hp)(vs:List V)(Q:VK)(E:XK),Room k (A.deeper (envOfC qual scope s.heap.objs.size f cdv))->sp vs H Q E ->
   ∃ t,PSs (cxOf CX P w K mg base N qual scope f cdv A outer s H E) body t/\t { nx:=fun _ H'=>Q .non H',rt:=Q } (start N vs) H) :
  FnOk P w K mg base CX (k+1) f (PySem.W.fnOf name qual params body scope dV kV doc pm an cdv ct) ps sp:=by
 refine⟨len,fun A outer s H args us vs Q E hr e0 hb r hsp=>?_⟩;have hl:=len _ _ _ _ hsp;have KX:K.In s.heap:=e0.mod.kin.keeps fun b o e=>(e0.bs b o e).1
 have lim:s.heap.NoLimit:=e0.mod.nolimit.keeps fun b o e=>(e0.bs b o e).1
 have hkind:∀ y∈ps.zip us,scope.names.lookup y.1=some .local\/(scope.names.lookup y.1=some .cell/\((cellsFrom (s.heap.objs.size+1) scope.names []).lookup y.1).isSome=true):=fun⟨n,v⟩ hy=>by
  rcases S.par n (vw hy).1 with q|q
  ·exact .inl q
  ·exact .inr ⟨q,PySem.W.cellsFrom_some _ _ _ (.inl q)⟩
 refine codeAny_call_function hr.depth (KX _ _ lk) rfl S.co S.gen rfl (PySem.W.codeRec_of KX hcd) (hb _ _ _ _ ?_);refine wpAny_newFunctionEnv_cells S.kind hkind fun env he s1 x=>?_
 subst he;refine⟨lim.keeps x.toInCall.keep,codeAny_func ?_⟩;obtain⟨t,ht,hq⟩:=hbody A outer s H vs Q E (hr.deeper _) hsp;have I:Inv (cxOf CX P w K mg base N qual scope f cdv A outer s H E) [] (start N vs) H s1:=zff S hr.hd e0 hl r x;refine wpAny_mono (ht [] s1 (start N vs) H _ I hq) (fun fl s' hs=>?_) fun e s' hs=>hs
 have fin:∀ {σ':St} {H':Hp} {v:V} {u:Value},Inv (cxOf CX P w K mg base N qual scope f cdv A outer s H E) [] σ' H' s'->RelV v u->Q v H'->CE outer P w H s Q u s' :=
  fun {σ' H' v u} J rv q=>⟨v,H',J.os,J.bare,J.base,J.hok,rv,q⟩
 cases fl with
 | ret u =>
  obtain⟨v,σ',H',J,rv,q⟩:=hs;exact fin J rv q
 | next =>
  obtain⟨σ',H',J,q⟩:=hs;exact fin (v:=V.non) (u:=Value.none) J rfl q
 | brk =>
  obtain⟨_,_,_,q⟩:=hs;exact False.elim q
 | cont =>
  obtain⟨_,_,_,q⟩:=hs;exact False.elim q
end L2
namespace L2
open PySem PySem.Spec PyProof.Rows
section
variable{X:Cx}{x:Str}{p pos:Pos}{e:Expr}{es:List Expr}{t:TA}{id T:String}{r:List V->Hp->VK->Prop}
def tCB(r:List V->Hp->VK->Prop)(t:TA):TE:=fun σ H Q=>t σ H fun vs H1=>r vs H1 Q
theorem zD (hc:kaC X (.builtin id) r) (hg:Gl X x) (hm:X.mg x=none) (hv:bootBuiltins x=some (.builtin id)) (ha:PA X (e::es) t) (hn:x ≠ "__name__" := by decide) (hdb:(x ==("__debug__" : Str))=false:=by decide)
  (he:starEach (e::es) X.env =(false,eval e X.env)::starEach es X.env:=by rfl) (hpl:(backTo pos (starEach es X.env)).any (·.1)=false:=by rfl):PE X (.Call (.Name x p) (e::es) [] pos) (tCB r t):=by
 intro pins s σ H Q I h;refine wpAny_Call_Name_kw (zb7 I hg hm hv ?_ hn hdb);exact PyProof.Rows.callWith_builtin1 (thn (ha pos pins s σ H _ I h) fun us s1 ⟨vs,H1,I1,r1,q1⟩=>hc pins s1 σ H1 vs us Q I1 r1 q1) he hpl
theorem xH (hc:kaC X (.type T) r) (hg:Gl X x) (hm:X.mg x=none) (hv:bootBuiltins x=some (.type T)) (ha:PA X (e::es) t) (hn:x ≠ "__name__" := by decide) (hdb:(x ==("__debug__" : Str))=false:=by decide)
  (he:starEach (e::es) X.env =(false,eval e X.env)::starEach es X.env:=by rfl) (hpl:(backTo pos (starEach es X.env)).any (·.1)=false:=by rfl):PE X (.Call (.Name x p) (e::es) [] pos) (tCB r t):=by
 intro pins s σ H Q I h;refine wpAny_Call_Name_kw (zb7 I hg hm hv ?_ hn hdb);exact PyProof.Rows.callWith_type1 (thn (ha pos pins s σ H _ I h) fun us s1 ⟨vs,H1,I1,r1,q1⟩=>hc pins s1 σ H1 vs us Q I1 r1 q1) he hpl
end
end L2
namespace HT
open PySem PyProof.Rows
section
open PySem.SeqAt
open PySem.AutoSeq1 (wpAny_loadPart')
open PySem.MeetsSeq PySem.MeetsSeq2 PySem.MeetsSeq3
end
section
variable{prog:Program}{w:World}{A:Around}{E:Value->Shared->Prop}{s:Shared}
def sIx(n d:Nat):Option Int->Nat
 | none=>d
 | some v=>if v<0 then(v +(n:Int)).toNat else min v.toNat n
theorem XE(n d:Nat):sIx n d none=d:=rfl
theorem Zf(n d k:Nat):sIx n d (some (k:Int))=min k n:=by
 show(if (k:Int)<0 then((k:Int) +(n:Int)).toNat else min (k:Int).toNat n)=min k n;rw[if_neg (by omega),wW]
end
end HT
namespace L2
open PySem PySem.Spec PyProof.Rows
abbrev TO:=St->Hp->(Option Int->Hp->Prop)->Prop
def PO(X:Cx)(e:Option Expr)(t:TO):Prop :=
 ∀(pins:List (Addr×Obj))(s:Shared)(σ:St)(H:Hp)(Q:Option Int->Hp->Prop),Inv X pins σ H s->t σ H Q ->
  wpAny (model X.prog X.w) X.A (evalPart e X.env) (fun u s'=>∃ o H',Inv X pins σ H' s'/\IsPart u o/\Q o H') X.xe s
def tNoPart:TO:=fun _ H Q=>Q none H
def tPart(t:TE):TO:=fun σ H Q=>t σ H fun x H1=>∃ i,x=.int i/\Q (some i) H1
section
variable{X:Cx}{e:Expr}{te:TE}{lo hi:Option Expr}{tl th:TO}{pos p2:Pos}
theorem Jo:PO X none tNoPart:=by
 intro pins s σ H Q I h;rw[evalPart_none];exact wpAny_pure ⟨none,H,I,.none,h⟩
theorem jy(h:PE X e te):PO X (some e) (tPart te):=by
 intro pins s σ H Q I hw;rw[evalPart_some];refine thn (h pins s σ H _ I hw) fun u s1 ⟨x,H1,I1,r1,q1⟩=>?_
 obtain⟨i,rfl,q⟩:=q1;obtain⟨t,rfl⟩:=r1;exact⟨some i,H1,I1,.int i t,q⟩
def SlR(X:Cx)(r:V->Option Int->Option Int->Hp->VK->Prop):Prop :=
 ∀(pins:List (Addr×Obj))(s:Shared)(σ:St)(H:Hp)(x:V)(v vl vu:Value)(lo hi:Option Int)(sl:Addr)(Q:VK),Inv X pins σ H s->RelV x v->s.heap.IsSliceOf sl vl vu .none->IsPart vl lo->IsPart vu hi->r x lo hi H Q ->
  ∃ T id,typeLookup (.type T) "__getitem__" = pure (some (.builtin id))/\s.TypeIs v T/\wpAny (model X.prog X.w) X.A (getItem v (.ref sl)) (EP X pins σ Q) X.xe s
def tSl(r:V->Option Int->Option Int->Hp->VK->Prop)(te:TE)(tl th:TO):TE:=fun σ H Q=>te σ H fun x H1=>tl σ H1 fun l H2=>th σ H2 fun u H3=>r x l u H3 Q
theorem jD{r:V->Option Int->Option Int->Hp->VK->Prop}(hr:SlR X r)(he:PE X e te)(hl:PO X lo tl)(hu:PO X hi th):PE X (.Subscript e (.Slice lo hi none p2) pos) (tSl r te tl th):=by
 intro pins s σ H Q I h;refine Subscript_ (thn (he pins s σ H _ I h) fun v s1 ⟨x,H1,I1,r1,q1⟩=>?_);refine wpAny_Slice (thn (hl pins s1 σ H1 _ I1 q1) fun vl s2 ⟨l,H2,I2,pl,q2⟩=>thn (hu pins s2 σ H2 _ I2 q2) fun vu s3 ⟨u,H3,I3,pu,q3⟩=>?_);rw[evalPart_none];refine wpAny_pure ?_;have I4:Inv X pins σ H3 { s3 with heap:=s3.heap.push { cls:=.type "slice",data:=.fields #[vl,vu,.none] } }:=I3.kept (t':=s3.toks) fun b ob q=>Heap.get?_push_of_some _ q
 obtain⟨T,id,hT,ht,hg⟩:=hr pins { s3 with heap:=s3.heap.push { cls:=.type "slice",data:=.fields #[vl,vu,.none] } } σ H3 x v vl vu l u s3.heap.objs.size Q I4 r1 (Heap.IsSliceOf.new ..) pl pu q3;show wpAny (model X.prog X.w) X.A (subscriptTail e (.Slice lo hi none p2) v (.ref s3.heap.objs.size)) (EP X pins σ Q) X.xe { s3 with heap:=s3.heap.push { cls:=.type "slice",data:=.fields #[vl,vu,.none] } };exact tail_any (ops:=[.ref s3.heap.objs.size,v]) ht hT hg (by with_unfolding_all rfl)
def cutV(xs:List V)(lo hi:Option Int):List V:=(xs.drop (HT.sIx xs.length 0 lo)).take (HT.sIx xs.length xs.length hi - HT.sIx xs.length 0 lo)
theorem zcV(xs:List V)(lo hi:Option Int):(cutV xs lo hi).length<=xs.length:=by
 unfold cutV;rw[wx,ur];omega
end
end L2
namespace L2
open PySem PySem.Spec PyProof.Rows
def ixN(n:Nat)(i:Int):Option Nat:=if 0<=i then(if i<n then some i.toNat else none)else if -(n:Int)<=i then some (i+n).toNat else none
def atI{α:Type}(xs:List α)(i:Int):Option α:=(ixN xs.length i).bind fun j=>xs[j]?
theorem zgq{n:Nat}{i:Int}{j:Nat}(h:ixN n i=some j):seqIndex? i n=some j/\j<n/\-(n:Int)<=i/\i<n:=by
 unfold ixN at h
 by_cases h0:0<=i
 ·rw[if_pos h0]at h
  by_cases h1:i<n
  ·rw[if_pos h1]at h;have e:i.toNat=j:=Option.some.inj h;exact⟨by rw[seqIndex_of h0 h1,e],by omega,by omega,h1⟩
  ·rw[if_neg h1]at h;cases h
 ·rw[if_neg h0]at h
  by_cases h1 : -(n:Int)<=i
  ·rw[if_pos h1]at h;have e:(i+n).toNat=j:=Option.some.inj h;exact⟨by rw[seqIndex_neg (by omega) h1,e],by omega,h1,by omega⟩
  ·rw[if_neg h1]at h;cases h
theorem zgg{α:Type}{xs:List α}{i:Int}{v:α}(h:atI xs i=some v):∃ j,seqIndex? i xs.length=some j/\xs[j]?=some v/\j<xs.length/\-(xs.length:Int)<=i/\i<xs.length:=by
 unfold atI at h;cases e:ixN xs.length i with
 | none=>rw[e]at h;cases h
 | some j =>
  rw[e]at h;obtain⟨h1,h2,h3,h4⟩:=zgq e;exact⟨j,h1,h,h2,h3,h4⟩
theorem zP{α:Type}{xs:List α}{j:Nat}{v:α}(h:xs[j]?=some v):atI xs (j:Int)=some v:=by
 have hj:j<xs.length:=(wq.mp h).1;have e:ixN xs.length (j:Int)=some j:=by
  unfold ixN;rw[if_pos (by omega),if_pos (by omega)];simp
 unfold atI;rw[e];exact h
def PlainIx(b:Expr):Prop:=∀ o i,subscripted b false o i=operate [o,i] (getItem o i)
def IxR(X:Cx)(r:R2):Prop :=
 ∀(value slice:Expr)(pins:List (Addr×Obj))(s:Shared)(σ:St)(H:Hp)(x y:V)(v u:Value)(Q:VK),Inv X pins σ H s->RelV x v->RelV y u->r x y H Q ->
  subscripted slice false v u=operate [v,u] (getItem v u)->wpAny (model X.prog X.w) X.A (subscriptTail value slice v u) (EP X pins σ Q) X.xe s
def MtR(X:Cx)(id:String)(r:V->List V->Hp->VK->Prop):Prop :=
 ∀(pins:List (Addr×Obj))(s:Shared)(σ:St)(H:Hp)(x:V)(xs:List V)(v:Value)(us:List Value)(Q:VK),Inv X pins σ H s->RelV x v->Vals xs us->r x xs H Q ->
  wpAny (model X.prog X.w) X.A (call (.builtin id) (v::us)) (EP X pins σ Q) X.xe s
section
variable{X:Cx}{a b:Expr}{ta tb:TE}{pos:Pos}
theorem zkM{r:R2}(hr:IxR X r)(ha:PE X a ta)(hb:PE X b tb)(hs:PlainIx b):PE X (.Subscript a b pos) (tOp r ta tb):=by
 intro pins s σ H Q I h;exact Subscript_ (binT ha hb I h fun v u s2 x y H2 I2 rx ry q=>hr a b pins s2 σ H2 x y v u Q I2 rx ry q (hs _ _))
inductive zh7(K:PySem.W.Frag)(x y:V)(H:Hp)(Q:VK):Prop where
 | mk (p:Addr) (xs:List V) (i:Int) (v:V) (h0_:x=.ref p) (h1_:y=.int i) (h2_:SqL K H p xs) (h3_:atI xs i=some v) (h4_:Q v H):zh7 K x y H Q
def rIxL(K:PySem.W.Frag):R2:=fun x y H Q=>zh7 K x y H Q
inductive zim(K:PySem.W.Frag)(x y:V)(H:Hp)(Q:VK):Prop where
 | mk (p:Addr) (xs:List V) (i:Int) (v:V) (h0_:x=.ref p) (h1_:y=.int i) (h2_:SqT K H p xs) (h3_:atI xs i=some v) (h4_:Q v H):zim K x y H Q
def rIxT(K:PySem.W.Frag):R2:=fun x y H Q=>zim K x y H Q
theorem zf2:IxR X (rIxL X.K):=by
 intro value slice pins s σ H x y v u Q I rx ry h hs;obtain⟨p,xs,i,z,rfl,rfl,hq,he,q⟩:=h;cases rx;obtain⟨t,rfl⟩:=ry;obtain⟨its,r,pl,hz⟩:=I.list hq;obtain⟨j,h1,h2,h3,h4,h5⟩:=zgg he;obtain⟨w,ew,rw'⟩:=r.get h2;have hl:=r.length;have hn:=line63;have fin:EP X pins σ Q w s:=⟨z,H,I,rw',q⟩
 by_cases h0:0<=i
 ·have hj:i.toNat=j:=by
   rw[seqIndex_of h0 h5]at h1;exact Option.some.inj h1
  exact item_listR pl.isList h0 (by omega) (by rw[hj];simpa using ew) fin hs
 ·have hj:(i +(its.toArray.size:Int)).toNat=j:=by
   rw[seqIndex_neg (by omega) h4]at h1;rw[wQ,← hl];exact Option.some.inj h1
  exact subscriptTail_builtinR (x:=w) pl.isList.typeIs slot_list_getitem.lookup
   (wpAny_getItem_list_neg (Q:=fun r s'=>r=w/\EP X pins σ Q r s') pl.isList (by omega) (by rw[wQ] <;> omega) (by omega) (by rw[hj];simpa using ew) ⟨rfl,fin⟩) hs
theorem zib:IxR X (rIxT X.K):=by
 intro value slice pins s σ H x y v u Q I rx ry h hs;obtain⟨p,xs,i,z,rfl,rfl,hq,he,q⟩:=h;cases rx;obtain⟨t,rfl⟩:=ry;obtain⟨its,r,pl,hz⟩:=I.tuple hq;obtain⟨j,h1,h2,h3,h4,h5⟩:=zgg he;obtain⟨w,ew,rw'⟩:=r.get h2;have hl:=r.length;have hn:=line63;have fin:EP X pins σ Q w s:=⟨z,H,I,rw',q⟩;exact subscriptTail_builtinR (x:=w) pl.typeIs slot_tuple_getitem.lookup
  (getItem_tuple (j:=j) (Q:=fun r s'=>r=w/\EP X pins σ Q r s') pl (by omega) (by omega) (by rw[wQ,← hl];exact h1) (by simpa using ew) ⟨rfl,fin⟩) hs
theorem zea (its:List Value) (n j:Nat) (u:Value):Obj.mapSeq (·.setIfInBounds j u) { cls:=.type "list",data:=.seq its.toArray n }={ cls:=.type "list",data:=.seq (its.set j u).toArray n }:=by
 simp[Obj.mapSeq]
theorem Inv.lst{pins:List (Addr×Obj)}{σ:St}{H:Hp}{s:Shared}{p:Addr}{xs:List V}(I:Inv X pins σ H s)(h:H p=some (.lst xs)) :
  ∃(its:List Value)(n:Nat),Vals xs its/\s.heap.get? p=some { cls:=.type "list",data:=.seq its.toArray n }/\xs.length<=sizeLine:=by
 obtain⟨z,its,n,r,e⟩:=I.hok p _ h;exact⟨its,n,r,e,z⟩
theorem Inv.lstUpd{pins:List (Addr×Obj)}{σ:St}{H:Hp}{s:Shared}{p:Addr}{xs ys:List V}{its its':List Value}{n n':Nat}{f:Obj->Obj}(I:Inv X pins σ H s)(h:H p=some (.lst xs))
  (ho:s.heap.get? p=some { cls:=.type "list",data:=.seq its.toArray n }) (hf:f { cls:=.type "list",data:=.seq its.toArray n }={ cls:=.type "list",data:=.seq its'.toArray n' }) (r:Vals ys its') (hz:ys.length<=sizeLine) (t:Nat) :
  Inv X pins σ (upd H p (.lst ys)) { s with heap:=s.heap.update p f,toks:=t }:=by
 have e:(s.heap.update p f).get? p=some { cls:=.type "list",data:=.seq its'.toArray n' }:=by
  rw[Heap.get?_update_self f ho (by rw[hf] <;> rfl),hf]
 refine I.write (x:=p) (e:=p) (by rw[h];trivial) (.inl rfl) (fun b u hb q=>(Heap.get?_update_other _ _ (Ne.symm hb)).trans q) ⟨_,e⟩ ?_;exact⟨hz,its',n',r,e⟩
inductive zgT(o i v:V)(H:Hp)(Q:Hp->Prop):Prop where
 | mk (p:Addr) (xs:List V) (k:Int) (j:Nat) (h0_:o=.ref p) (h1_:i=.int k) (h2_:H p=some (.lst xs)) (h3_:ixN xs.length k=some j) (h4_:Q (upd H p (.lst (xs.set j v)))):zgT  o i v H Q
def rSetL:V->V->V->Hp->(Hp->Prop)->Prop:=fun o i v H Q=>zgT  o i v H Q
theorem jO:PSet X rSetL:=by
 intro pins s σ H o i v ov iv u Q I ro ri rv h;obtain⟨p,xs,k,j,rfl,rfl,hp,hj,q⟩:=h;cases ro;obtain⟨t,rfl⟩:=ri;obtain⟨its,n,r,ho,hz⟩:=I.lst hp;obtain⟨h1,h2,h3,h4⟩:=zgq hj;have hl:=r.length;have hn:=line63;have I':Inv X pins σ (upd H p (.lst (xs.set j v))) { s with heap:=s.heap.update p (Obj.mapSeq (·.setIfInBounds j u)) } :=
  I.lstUpd hp ho (zea its n j u) (r.set rv j) (by rw[vn];exact hz) s.toks
 by_cases h0:0<=k
 ·have hk:k.toNat=j:=by
   rw[seqIndex_of h0 h4]at h1;exact Option.some.inj h1
  exact PySem.W.ki_setAt ho h0 (by omega) (by rw[wQ,← hl];exact h4) (by rw[hk];exact⟨_,I',q⟩)
 ·have hk:(k +(its.toArray.size:Int)).toNat=j:=by
   rw[seqIndex_neg (by omega) h3]at h1;rw[wQ,← hl];exact Option.some.inj h1
  exact PySem.W.ki_setBack ho (by omega) (by rw[wQ,← hl];exact h3) (by omega) (by rw[hk];exact⟨_,I',q⟩)
theorem zb0(lo hi:Option Int)(n:Nat):(sliceBounds lo hi none n).1 =((HT.sIx n 0 lo:Nat):Int)/\(sliceBounds lo hi none n).2.1 =((HT.sIx n n hi:Nat):Int)/\(sliceBounds lo hi none n).2.2=1:=by
 refine⟨?_,?_,rfl⟩
 ·cases lo with
  | none=>simp[sliceBounds,HT.sIx]
  | some i =>
   simp only[sliceBounds,HT.sIx,waL,show(1:Int) > 0 by decide,if_true]
   by_cases h:i<0
   ·simp only[h,if_true] <;> omega
   ·simp only[h,if_false] <;> omega
 ·cases hi with
  | none=>simp[sliceBounds,HT.sIx]
  | some i =>
   simp only[sliceBounds,HT.sIx,waL,show(1:Int) > 0 by decide,if_true]
   by_cases h:i<0
   ·simp only[h,if_true] <;> omega
   ·simp only[h,if_false] <;> omega
theorem zaW(its:List Value)(lo hi:Option Int):slicePick its.toArray lo hi none =((its.drop (HT.sIx its.length 0 lo)).take (HT.sIx its.length its.length hi - HT.sIx its.length 0 lo)).toArray:=by
 obtain⟨h1,h2,h3⟩:=zb0 lo hi its.toArray.size;unfold slicePick;rw[h1,h2,h3];simp only[sliceRange_one,pick_run,wQ] <;> rfl
inductive zit(K:PySem.W.Frag)(x:V)(lo hi:Option Int)(H:Hp)(Q:VK):Prop where
 | mk (a:Addr) (xs:List V) (h0_:x=.ref a) (h1_:SqL K H a xs) (h2_:∀ p,H p=none->Q (.ref p) (upd H p (.lst (cutV xs lo hi)))):zit K x lo hi H Q
def rSlL(K:PySem.W.Frag):V->Option Int->Option Int->Hp->VK->Prop:=fun x lo hi H Q=>zit K x lo hi H Q
theorem zgw:SlR X (rSlL X.K):=by
 intro pins s σ H x v vl vu lo hi sl Q I rx hs pl pu h;obtain⟨a,xs,rfl,hx,q⟩:=h;cases rx;obtain⟨its,r,ht,hz⟩:=I.list hx;have hlen:=r.length;refine⟨"list",_,slot_list_getitem.lookup,ht.isList.typeIs,?_⟩;refine wpAny_getItem_list_slice ht.isList hs pl pu .none (by simp) ?_ (by rw[wQ] <;> omega);rw[zaW,← hlen];refine⟨.ref s.heap.objs.size,_,I.laid (t':=s.toks) (o:=.lst (cutV xs lo hi)) (fun b ob q=>Heap.get?_push_of_some _ q) (ww _) ?_,rfl,q _ (I.hok.fresh (ww _))⟩;exact⟨wI (zcV xs lo hi) hz,_,0,(r.drop (HT.sIx xs.length 0 lo)).take (HT.sIx xs.length xs.length hi - HT.sIx xs.length 0 lo),Heap.get?_push_size _ rfl⟩
def flatV:V->Bool
 | .non=>true
 | .bl _=>true
 | .int _=>true
 | .str _=>true
 | _=>false
def eqV:V->V->Bool
 | .non,.non=>true
 | .bl a,.bl b=>a == b
 | .bl a,.int b=>(if a then 1 else 0) == b
 | .int a,.bl b=>a ==(if b then 1 else 0)
 | .int a,.int b=>a == b
 | .str a,.str b=>a == b
 | _,_=>false
theorem zj1{A:Around}{s:Shared}{y x:V}{u v:Value}(ry:RelV y u)(rx:RelV x v)(fy:flatV y=true)(fx:flatV x=true):SeqAt.EqAt A s u v (eqV y x):=by
 cases y with
 | non =>
  cases ry;cases x with
  | non=>cases rx;exact SeqAt.EqAt.same _
  | bl b=>cases rx;exact SeqAt.EqAt.none_bool b
  | int b=>obtain⟨t,rfl⟩:=rx;exact SeqAt.EqAt.none_int b t
  | str b=>obtain⟨t,rfl⟩:=rx;exact SeqAt.EqAt.none_str b t
  | _=>exact absurd (show false=true from fx) wS
 | bl a =>
  cases ry;cases x with
  | non=>cases rx;exact SeqAt.EqAt.bool_none a
  | bl b=>cases rx;exact SeqAt.EqAt.bool_bool a b
  | int b=>obtain⟨t,rfl⟩:=rx;exact SeqAt.EqAt.bool_int a b t
  | str b=>obtain⟨t,rfl⟩:=rx;exact SeqAt.EqAt.bool_str a b t
  | _=>exact absurd (show false=true from fx) wS
 | int a =>
  obtain⟨t',rfl⟩:=ry;cases x with
  | non=>cases rx;exact SeqAt.EqAt.int_none a t'
  | bl b=>cases rx;exact SeqAt.EqAt.int_bool a t' b
  | int b=>obtain⟨t,rfl⟩:=rx;exact SeqAt.EqAt.int_int a t' b t
  | str b=>obtain⟨t,rfl⟩:=rx;exact SeqAt.EqAt.int_str a t' b t
  | _=>exact absurd (show false=true from fx) wS
 | str a =>
  obtain⟨t',rfl⟩:=ry;cases x with
  | non=>cases rx;exact SeqAt.EqAt.str_none a t'
  | bl b=>cases rx;exact SeqAt.EqAt.str_bool a t' b
  | int b=>obtain⟨t,rfl⟩:=rx;exact SeqAt.EqAt.str_int a t' b t
  | str b=>obtain⟨t,rfl⟩:=rx;exact SeqAt.EqAt.str_str a t' b t
  | _=>exact absurd (show false=true from fx) wS
 | _=>exact absurd (show false=true from fy) wS
def eqU(x:V)(u:Value):Bool:=match u with
 | .none=>eqV .non x
 | .bool b=>eqV (.bl b) x
 | .int i _=>eqV (.int i) x
 | .str z _=>eqV (.str z) x
 | _=>false
theorem zii{x y:V}{u:Value}(r:RelV y u)(f:flatV y=true):eqU x u=eqV y x:=by
 cases y with
 | non=>cases r;rfl
 | bl b=>cases r;rfl
 | int i=>obtain⟨t,rfl⟩:=r;rfl
 | str z=>obtain⟨t,rfl⟩:=r;rfl
 | _=>exact absurd (show false=true from f) wS
theorem zcT{x:V}:∀ {xs:List V} {us:List Value},Vals xs us->xs.all flatV=true->us.any (eqU x)=xs.any fun y=>eqV y x
 | _,_,.nil,_=>rfl
 | y::xs,u::us,.cons r t,f=>by
  rw[war,gA]at f;rw[wa1,wa1,zii r f.1,zcT t f.2]
theorem zaU{A:Around}{s:Shared}{x:V}{v:Value}(rx:RelV x v)(fx:flatV x=true):∀ {xs:List V} {us:List Value},Vals xs us->xs.all flatV=true->∀ u∈us,SeqAt.EqAt A s u v (eqU x u)
 | _,_,.nil,_=>fun u hu=>by cases hu
 | y::xs,u::us,.cons r t,f=>fun u' hu=>by
  rw[war,gA]at f
  rcases wL.mp hu with rfl|hu
  ·rw[zii r f.1];exact zj1 r rx f.1 fx
  ·exact zaU rx fx t f.2 u' hu
def inV(x:V)(xs:List V):Bool:=xs.any fun y=>eqV y x
def rIn(K:PySem.W.Frag)(neg:Bool):R2:=fun x y H Q=>∃ p xs,y=.ref p/\(SqL K H p xs\/SqT K H p xs)/\flatV x=true/\xs.all flatV=true/\Q (.bl (if neg then !inV x xs else inV x xs)) H
theorem zb2:OpR X (compareOp .NotIn) (rIn X.K true):=by
 intro pins s σ H x y v u Q I rx ry h;obtain⟨p,xs,rfl,hq,fx,fs,q⟩:=h;cases ry
 rcases hq with hq|hq
 ·obtain⟨its,r,pl,hz⟩:=I.list hq;refine SeqAt.notIn_listAt (eqU x) pl.isList (fun w hw=>zaU rx fx r fs w (by simpa using hw)) ⟨.bl _,H,I,rfl,?_⟩;rw[show its.toArray.any (eqU x)=its.any (eqU x) by simp,zcT r fs];exact q
 ·obtain⟨its,r,pl,hz⟩:=I.tuple hq;refine SeqAt.notIn_tupleAt (eqU x) pl (fun w hw=>zaU rx fx r fs w (by simpa using hw)) ⟨.bl _,H,I,rfl,?_⟩;rw[show its.toArray.any (eqU x)=its.any (eqU x) by simp,zcT r fs];exact q
theorem za3:kaC X (.builtin "len") (fun xs H Q=>∃ p ys,xs=[.ref p]/\(SqL X.K H p ys\/SqT X.K H p ys)/\Q (.int ys.length) H):=by
 intro pins s σ H xs us Q I r h;obtain⟨p,ys,rfl,hq,q⟩:=h;obtain⟨u,rfl,rx⟩:=vals1 r;cases rx;have hn:=line63
 rcases hq with hq|hq
 ·obtain⟨its,r',pl,hz⟩:=I.list hq;have hlen:=r'.length;exact Calls.call_len_list pl.isList (by simp only[wQ] <;> omega) ⟨.int ys.length,H,I.tok _,⟨s.toks+1,by rw[wQ,hlen]⟩,q⟩
 ·obtain⟨its,r',pl,hz⟩:=I.tuple hq;have hlen:=r'.length;exact len_tuple pl (by simp only[wQ] <;> omega) ⟨.int ys.length,H,I.tok _,⟨s.toks+1,by rw[wQ,hlen]⟩,q⟩
theorem zbO:kaC X (.type "list") (fun xs H Q=>∃ p ys,xs=[.ref p]/\(SqL X.K H p ys\/SqT X.K H p ys)/\∀ l,H l=none->Q (.ref l) (upd H l (.lst ys))):=by
 intro pins s σ H xs us Q I r h;obtain⟨p,ys,rfl,hq,q⟩:=h;obtain⟨u,rfl,rx⟩:=vals1 r;cases rx;have fin:∀(its:List Value),Vals ys its->ys.length<=sizeLine->∀(h':Heap)(c':Nat),(∀ b o',s.heap.get? b=some o'->h'.get? b=some o') ->
   h'.get? s.heap.objs.size=some { cls:=.type "list",dict:=none,data:=.seq its.toArray c',slots:=#[] }->EP X pins σ Q (.ref s.heap.objs.size) { s with heap:=h' }:=fun its r' hz h' c' kp e =>
  ⟨.ref s.heap.objs.size,_,I.laid (t':=s.toks) kp (ww _) (show kaB X.prog X.w _ h' _ (.lst ys)from⟨hz,its,c',r',e⟩),rfl,q _ (I.hok.fresh (ww _))⟩
 rcases hq with hq|hq
 ·obtain⟨its,r',pl,hz⟩:=I.list hq;have hlen:=r'.length;obtain⟨o,ho,hc,n,hd⟩:=pl.isList;exact call_list_seq p (.inl rfl) ho hc hd (fun h' c' kp e=>fin its r' hz h' c' kp e) (by simp only[wQ] <;> omega)
 ·obtain⟨its,r',pl,hz⟩:=I.tuple hq;have hlen:=r'.length;obtain⟨o,ho,hc,n,hd⟩:=pl;exact call_list_seq p (.inr rfl) ho hc hd (fun h' c' kp e=>fin its r' hz h' c' kp e) (by simp only[wQ] <;> omega)
theorem zaC:kaC X (.type "tuple") (fun xs H Q=>∃ p ys,xs=[.ref p]/\((SqL X.K H p ys/\∀ l,H l=none->Q (.ref l) (upd H l (.tup ys)))\/(SqT X.K H p ys/\Q (.ref p) H))):=by
 intro pins s σ H xs us Q I r h;obtain⟨p,ys,rfl,h⟩:=h;obtain⟨u,rfl,rx⟩:=vals1 r;cases rx
 rcases h with⟨hq,q⟩|⟨hq,q⟩
 ·obtain⟨its,r',pl,hz⟩:=I.list hq;have hlen:=r'.length;refine call_tuple_list pl.isList (fun h' kp=>?_) (by simp only[wQ] <;> omega);have I1:Inv X pins σ H { s with heap:=h' }:=I.kept (t':=s.toks) kp;have I2:Inv X pins σ (upd H h'.objs.size (.tup ys)) { s with heap:=h'.push { cls:=.type "tuple",data:=.seq its.toArray } } :=
   I1.laid (t':=s.toks) (fun b o e=>Heap.get?_push_of_some _ e) (ww _) (show kaB X.prog X.w _ _ _ (.tup ys)from⟨hz,its,r',IsTup.new _ _⟩)
  exact⟨.ref h'.objs.size,_,I2,rfl,q _ (I1.hok.fresh (ww _))⟩
 ·obtain⟨its,r',pl,hz⟩:=I.tuple hq;exact call_tuple_same pl ⟨.ref p,H,I,rfl,q⟩
def tyV(K:PySem.W.Frag)(T:String)(x:V)(H:Hp):Prop:=match x with
 | .str _=>T = "str"
 | .int _=>T = "int"
 | .ref p=>(T = "list" /\ ∃ xs,SqL K H p xs)\/(T = "tuple" /\ ∃ o,K.lookup p=some o/\o.cls=.type "tuple" /\ o.dict=none) \/
   (T = "dict" /\ ((∃ kvs,H p=some (.dK kvs))\/∃ kvs,H p=some (.dT kvs)))\/(T = "set" /\ ∃ S n,H p=some (.set S n))
 | _=>False
theorem zku{pins:List (Addr×Obj)}{σ:St}{H:Hp}{s:Shared}{T:String}{x:V}{v:Value}(I:Inv X pins σ H s)(r:RelV x v)(ty:tyV X.K T x H) :
  s.TypeIs v T/\∀ a,v=.ref a->∃ ob,s.heap.get? a=some ob/\ob.dict=none:=by
 cases x with
 | str z =>
  obtain⟨t,rfl⟩:=r;cases (show T = "str" from ty);exact⟨typeIs_str s z t,fun _ e=>nomatch e⟩
 | int i =>
  obtain⟨t,rfl⟩:=r;cases (show T = "int" from ty);exact⟨typeIs_int s i t,fun _ e=>nomatch e⟩
 | ref p =>
  cases r
  rcases ty with⟨rfl,xs,hq⟩|⟨rfl,o,hk,hc,hd⟩|⟨rfl,hk⟩|⟨rfl,S,n,hk⟩
  ·obtain⟨its,_,pl,_⟩:=I.list hq;refine⟨pl.isList.typeIs,fun a e=>?_⟩;cases e;obtain⟨o,n,e,c,hd,_⟩:=pl;exact⟨o,e,hd⟩
  ·refine⟨⟨o,I.kIn p o hk,hc⟩,fun a e=>?_⟩;cases e;exact⟨o,I.kIn _ o hk,hd⟩
  ·have z:∃ o,s.heap.get? p=some o/\o.ExactDict:=by
    rcases hk with⟨kvs,hk⟩|⟨kvs,hk⟩
    ·obtain⟨_,_,_,_,o,_,_,e,ex,_⟩:=I.hok p _ hk;exact⟨o,e,ex⟩
    ·obtain⟨_,_,_,_,o,_,_,e,ex,_⟩:=I.hok p _ hk;exact⟨o,e,ex⟩
   obtain⟨o,e,ex⟩:=z;refine⟨⟨o,e,ex.1⟩,fun a e2=>?_⟩;cases e2;exact⟨o,e,ex.2.1⟩
  ·obtain⟨o,_,_,_,e,ex,_⟩:=I.hok p _ hk;refine⟨⟨o,e,ex.1⟩,fun a e2=>?_⟩;cases e2;exact⟨o,e,ex.2.1⟩
 | _=>exact False.elim ty
def tBM(K:PySem.W.Frag)(T:String)(r:V->List V->Hp->VK->Prop)(to:TE)(t:TA):TE:=fun σ H Q=>to σ H fun x H1=>tyV K T x H1/\t σ H1 fun xs H2=>r x xs H2 Q
variable{o e:Expr}{es:List Expr}{to:TE}{t:TA}{name:Str}{apos cpos:Pos}{T id:String}{r:V->List V->Hp->VK->Prop}
theorem ZL (pa:PlainAttrs T) (slot:Slot T name id) (hty:typeOf (.builtin id)=pure (.type "method_descriptor")) (hm:MtR X id r) (ho:PE X o to) (ha:PA X (e::es) t)
  (hbase:attributeBase o name X.env (eval o X.env)=eval o X.env:=by rfl)
  (hfew:((backTo cpos (starEach (e::es) X.env)).all (fun x=>!x.1) && (backToKw cpos (keywordEach [] X.env)).all (fun x=>x.1.isSome)
   && decide ((e::es).length +([]:List Keyword).length +(if ([]:List Keyword).isEmpty then 0 else 1)<30))=true:=by rfl)
  (hline:(apos.endLine == cpos.line)=true:=by rfl) (hs:starEach (e::es) X.env =(false,eval e X.env)::starEach es X.env:=by rfl) (hplain:(backTo cpos (starEach es X.env)).any (·.1)=false:=by rfl) :
  PE X (.Call (.Attribute o name apos) (e::es) [] cpos) (tBM X.K T r to t):=by
 intro pins s σ H Q I h;refine wpAny_Call_method_late hbase hfew hline rfl (thn (ho pins s σ H _ I h) fun v s1 ⟨x,H1,I1,r1,ty,q1⟩=>?_);obtain⟨h1,h2⟩:=zku I1 r1 ty;refine⟨T,id,pa,slot,hty,h1,h2,?_⟩;have hA:=ha cpos pins s1 σ H1 _ I1 q1;rw[hs]at hA ⊢;refine Calls.callWith_builtin (by show(false || (backTo cpos (starEach es X.env)).any (·.1))=false;rw[hplain] <;> rfl) (Calls.evalArgs_plain ?_);exact thn hA fun us s2 ⟨vs,H2,I2,r2,q2⟩=>hm pins s2 σ H2 x vs v us Q I2 r1 r2 q2
end
end L2
namespace L2
open PySem PySem.Spec PyProof.Rows
def MtM(X:Cx)(id:String)(r:V->List V->Hp->VK->Prop):Prop :=
 ∀(pins:List (Addr×Obj))(s:Shared)(σ:St)(H:Hp)(x:V)(xs:List V)(v:Value)(us:List Value)(Q:VK),Inv X pins σ H s->RelV x v->Vals xs us->r x xs H Q ->
  wpAny (model X.prog X.w) X.A (call (.builtin id) (v::us)) (EP X pins σ Q) X.xe s
theorem Vals.one:∀ {x:V} {us:List Value},Vals [x] us->∃ u,us=[u]/\RelV x u
 | _,_,.cons r .nil=>⟨_,rfl,r⟩
theorem Vals.two:∀ {x y:V} {us:List Value},Vals [x,y] us->∃ u v,us=[u,v]/\RelV x u/\RelV y v
 | _,_,_,.cons r (.cons q .nil)=>⟨_,_,rfl,r,q⟩
theorem Vals.rep{xs:List V}{us:List Value}(h:Vals xs us):∀ k:Nat,Vals (wN k xs).flatten (wN k us).flatten
 | 0=>.nil
 | k+1=>by
  rw[vO,vO,ud,ud];exact Vals.append h (Vals.rep h k)
theorem zaX(its:List Value):∀(k:Nat)(acc:List Value),
  waZ (fun x1 x2=>x1++x2) acc.toArray (wN k its.toArray) =(acc ++(wN k its).flatten).toArray
 | 0,acc=>by simp
 | k+1,acc=>by
  have e:acc.toArray++its.toArray =(acc++its).toArray:=by simp
  have e2:(acc++its) ++(wN k its).flatten=acc ++(wN (k+1) its).flatten:=by
   rw[vO,ud,uW]
  rw[← e2,← zaX its k (acc++its),← e,vO,waa]
section
variable{X:Cx}{pins:List (Addr×Obj)}{σ:St}{H:Hp}{s:Shared}{l b:Addr}{xs ys zs:List V}
theorem Inv.lset{its its':List Value}{n:Nat}{f:Array Value->Array Value}{t':Nat}(I:Inv X pins σ H s)(hH:H l=some (.lst xs))
  (e:s.heap.get? l=some { cls:=.type "list",data:=.seq its.toArray n }) (hf:f its.toArray=its'.toArray) (hv:Vals ys its') (hz:ys.length<=sizeLine) :
  Inv X pins σ (upd H l (.lst ys)) { s with heap:=s.heap.update l (Obj.mapSeq f),toks:=t' }:=by
 have q:=PySem.IsL.update e f;rw[hf]at q;refine I.write (x:=l) (e:=l) (by rw[hH];exact trivial) (.inl rfl) (fun b' u hb hu=>(Heap.get?_update_other s.heap (Obj.mapSeq f) (Ne.symm hb)).trans hu) ⟨_,q⟩ ?_;exact⟨hz,its',_,hv,q⟩
theorem Inv.lnew{its:List Value}{t':Nat}(I:Inv X pins σ H s)(hv:Vals ys its)(hz:ys.length<=sizeLine) :
  Inv X pins σ (upd H s.heap.objs.size (.lst ys)) { s with heap:=s.heap.push { cls:=.type "list",data:=.seq its.toArray },toks:=t' } :=
 I.laid (fun _ _ q=>Heap.get?_push_of_some _ q) (ww _) ⟨hz,its,0,hv,Heap.get?_push_size _ rfl⟩
theorem Inv.fresh(I:Inv X pins σ H s):H s.heap.objs.size=none:=I.hok.fresh (ww _)
theorem Inv.lstM (I:Inv X pins σ H s) (hH:H l=some (.lst xs)):xs.length<=sizeLine/\∃(its:List Value)(n:Nat),Vals xs its/\xs.length=its.length/\s.heap.get? l=some { cls:=.type "list",data:=.seq its.toArray n }:=by
 obtain⟨z,its,n,r,e⟩:=I.hok l _ hH;exact⟨z,its,n,r,r.length,e⟩
theorem notLongL{n:Nat}(h:n<=sizeLine):Builtin.List.listTooLong n=false:=by
 unfold Builtin.List.listTooLong;exact decide_eq_false (by omega)
end
section
variable{X:Cx}
inductive za9(x:V)(vs:List V)(H:Hp)(Q:VK):Prop where
 | mk (l:Addr) (xs:List V) (y:V) (h0_:x=.ref l) (h1_:vs=[y]) (h2_:H l=some (.lst xs)) (h3_:xs.length<sizeLine) (h4_:Q .non (upd H l (.lst (xs++[y])))):za9  x vs H Q
def rAppend:V->List V->Hp->VK->Prop:=fun x vs H Q=>za9  x vs H Q
theorem yE:MtM X "list.append" rAppend:=by
 intro pins s σ H x vs v us Q I rx rv h;obtain⟨l,xs,y,rfl,rfl,hH,hz,q⟩:=h;cases rx;obtain⟨u,rfl,ru⟩:=rv.one;obtain⟨z,its,n,r,hl,e⟩:=I.lstM hH;refine call_meets F.slot_list_append ⟨_,e,rfl⟩ F.entry_list_append (F.args_list_append_2 _ _) (PySem.list_append l its.toArray n u (by rw[wQ];omega)) ⟨e,?_⟩;refine⟨.non,_,I.lset (its':=its++[u]) hH e (by simp) (r.append (.cons ru .nil)) ?_,rfl,q⟩;rw[wy,wah];omega
def rExtend:V->List V->Hp->VK->Prop:=fun x vs H Q=>∃ l b xs zs,x=.ref l/\vs=[.ref b]/\H l=some (.lst xs)/\H b=some (.lst zs)/\xs.length+zs.length<=sizeLine/\Q .non (upd H l (.lst (xs++zs)))
theorem zbE:MtM X "list.extend" rExtend:=by
 intro pins s σ H x vs v us Q I rx rv h;obtain⟨l,b,xs,zs,rfl,rfl,hH,hB,hz,q⟩:=h;cases rx;obtain⟨u,rfl,ru⟩:=rv.one;cases ru;obtain⟨z,its,n,r,hl,e⟩:=I.lstM hH;obtain⟨z2,its2,n2,r2,hl2,e2⟩:=I.lstM hB;have hsz:its.toArray.size+its2.toArray.size<=sizeLine:=by rw[wQ,wQ];omega
 have hlong:¬(!its.toArray.isEmpty && Builtin.List.listTooLong (its.toArray.size+its2.toArray.size))=true:=by
  rw[notLongL hsz,Bool.and_false];exact wS
 refine call_meets F.slot_list_extend ⟨_,e,rfl⟩ F.entry_list_extend (F.args_list_extend_2 _ _)
  (AutoSeq1.list_extend_list_list_0 l its.toArray n b its2.toArray n2 hlong (by rw[wQ];omega) (by omega)) ⟨e,e2,?_⟩
 refine⟨.non,_,I.lset (its':=its++its2) hH e (by simp) (r.append r2) ?_,rfl,q⟩;rw[wy];omega
inductive zio(x y:V)(H:Hp)(Q:VK):Prop where
 | mk (l b:Addr) (xs zs:List V) (h0_:x=.ref l) (h1_:y=.ref b) (h2_:H l=some (.lst xs)) (h3_:H b=some (.lst zs)) (h4_:xs.length+zs.length<=sizeLine) (h5_:∀ p,H p=none->Q (.ref p) (upd H p (.lst (xs++zs)))):zio  x y H Q
def rCat:R2:=fun x y H Q=>zio  x y H Q
theorem ZN:OpR X (binaryOp .Add) rCat:=by
 intro pins s σ H x y v u Q I rx ry h;obtain⟨l,b,xs,zs,rfl,rfl,hH,hB,hz,q⟩:=h;cases rx;cases ry;obtain⟨z,its,n,r,hl,e⟩:=I.lstM hH;obtain⟨z2,its2,n2,r2,hl2,e2⟩:=I.lstM hB;refine PySem.P.add_list e e2 ?_ (by rw[wQ,wQ];omega);have ea:its.toArray++its2.toArray =(its++its2).toArray:=by simp
 rw[ea];exact⟨.ref _,_,I.lnew (t':=s.toks) (r.append r2) (by rw[wy];omega),rfl,q _ I.fresh⟩
def rRep:R2:=fun x y H Q=>∃ l k xs,x=.ref l/\y=.int k/\H l=some (.lst xs)/\-(2^63)<=k/\k<2^63/\xs.length*k.toNat<=sizeLine /\
 ∀ p,H p=none->Q (.ref p) (upd H p (.lst (wN k.toNat xs).flatten))
theorem zjn{α:Type}(xs:List α)(k:Nat):(wN k xs).flatten.length=k*xs.length:=by
 induction k with
 | zero=>simp
 | succ k ih=>rw[vO,ud,wy,ih,GW,wa3]
theorem zj0:OpR X (binaryOp .Mult) rRep:=by
 intro pins s σ H x y v u Q I rx ry h;obtain⟨l,k,xs,rfl,rfl,hH,h1,h2,hz,q⟩:=h;cases rx;obtain⟨t,rfl⟩:=ry;obtain⟨z,its,n,r,hl,e⟩:=I.lstM hH;have hlen:its.toArray.size*k.toNat<=sizeLine:=by rw[wQ,← hl];exact hz
 have hcap:¬ its.toArray.size*k.toNat >(2^63 - 1) / 8:=by
  have:(sizeLine:Nat)<=(2^63 - 1) / 8:=by decide
  omega
 have hfit:¬(!Builtin.List.listFitsIndex k)=true:=by
  rw[fitsIndex_both h1 h2];exact wS
 have hlong:¬ Builtin.List.listTooLong (its.toArray.size*k.toNat)=true:=by
  rw[notLongL hlen];exact wS
 have hnew:waZ (fun x1 x2=>x1++x2) #[] (wN (if its.toArray.isEmpty=true then 0 else k.toNat) its.toArray) =(wN k.toNat its).flatten.toArray:=by
  have f0:∀ m:Nat,waZ (fun x1 x2=>x1++x2) #[] (wN m its.toArray) =(wN m its).flatten.toArray:=fun m=>by
   have:=zaX its m [];rw[wab]at this;exact this
  rw[f0];cases its with
  | nil=>simp
  | cons a r'=>rw[if_neg (by simp)]
 refine wpAny_binaryOp_repeat_ref (T := "list") (U := "int") (by decide) ⟨_,e,rfl⟩ (fun s'=>typeIs_int s' k t) noFill_list_mul F.fills_int_mul F.slot_int_rmul repeat_list F.slot_int_index.lookup
  (call_meets F.slot_int_rmul (typeIs_int s k t) F.entry_int_rmul (F.args_int_rmul_2 _ _) (int___rmul___int_list k t l its.toArray n)
   ⟨e,rfl,⟨_,e,rfl⟩,call_meets F.slot_list_mul ⟨_,e,rfl⟩ F.entry_list_mul (F.args_list_mul_2 _ _) (AutoListH.list___mul___list_int_3 l its.toArray n k t hfit hcap hlong) ⟨e,?_⟩⟩)
 rw[hnew];exact⟨.ref _,_,I.lnew (t':=s.toks) (r.rep k.toNat) (by rw[zjn,uk];exact hz),rfl,q _ I.fresh⟩
end
section
variable{prog:Program}{w:World}{A:Around}{E:Value->Shared->Prop}{s:Shared}
end
section
variable{X:Cx}
end
end L2
namespace Att
open PySem PySem.W PySem.Calls PyProof.Rows
theorem Jy{P:Params}{h:Heap}:∀(ns:List Int)(vs:List Value),WellAll P h vs (ns.map WData.int)->IntsAre vs ns:=by
 intro ns
 induction ns with
 | nil =>
  intro vs w;rw[List.map_nil]at w;cases w;exact .nil
 | cons n ns ih =>
  intro vs w;rw[gO]at w;cases w with
  | cons a b =>
   cases a;exact .cons _ _ (ih _ b)
theorem zeY{l:OpenLaw}{n:Nat}(hn:l.most=some n){P:Params}{h:Heap}{args:List WData}{vals:List Value}
  (hpre:l.row.toRowW.claim.pre args=true) (hwl:WellAll P h vals args) :
  ∃ a vs ns,vals=[Value.ref a]/\args=[WData.list (ns.map WData.int)]/\h.get? a=some { cls:=.type "list",data:=.seq vs.toArray }/\IntsAre vs ns/\ns.length<=n:=by
 have hsh:WShape.hasAll [] args [.list .int]=true:=(pre_splitW hpre).1;have hc:l.pre.holds [] { args:=args }=true:=(pre_splitW hpre).2;obtain⟨d,r,rfl,h1,h2⟩:=hasAllW_cons hsh;obtain rfl:=hasAllW_nil h2;obtain⟨xs,rfl,h3⟩:=hasW_list h1;obtain⟨ns,rfl⟩:=items_int h3;have hlen:ns.length<=n:=by
  unfold OpenLaw.pre at hc;have h4:(WTm.not (.lt (.lit (.int (n:Int))) (.len (.arg 0)))).holds [] { args:=[.list (ns.map .int)] }=true:=by
   have h4:=(holds_andW hc).1;rw[hn]at h4;exact h4
  have h5:=condW_of h4 (w_not (w_lt w_lit (w_len_list (w_arg rfl))));rw[we]at h5;refine waM fun q=>?_
  have q':(n:Int) <((ns.length:Nat):Int):=by omega
  first
   | (rw[decide_eq_true q']at h5;exact absurd h5 (by decide))
   | (simp at h5;omega)
 cases hwl with
 | cons w1 w2 =>
  cases w2;cases w1 with
  | list ho hall=>exact⟨_,_,ns,rfl,rfl,ho,Jy ns _ hall,hlen⟩
theorem zgE(l:OpenLaw)(args:List WData):l.row.toRowW.claim.post args (.bool true) args=true :=
 postW_of (r:=l.row.toRowW) (X:=(true == true))
  (show WShape.has [] (.bool true) .bool=true by first|rfl|decide|simp[WShape.has,WShape.arms,WShape.armsAll])
  (show(WTm.eq .res (.lit (.bool true))).value [] { args:=args,res:=some (.bool true),after:=args }=some (.bool (true == true))from w_eq_bool (w_res rfl) w_lit) rfl
theorem zc2{l:OpenLaw}{n:Nat}{q:Program}{loose:List Str}{XP:(Str->Option Value)->Heap->Prop}{YP:World->Heap->Prop}{d:DefRec}
  (hn:l.most=some n) (hdf:d.params.defaults=[])
  (call:∀(w:World)(s₀ s₁:Shared)(mg mb:Str->Option Value)(fa:Addr)(o:Obj)(pm cd doc:Value)(a:Addr)(vs:List Value)(ns:List Int),
   Ground q loose [] XP w s₀ mg mb s₁.heap->YP w s₁.heap ->
   s₁.heap.get? fa=some o->o.data=.func (docDef d.name d.params d.body d.scope pm cd doc)->s₁.heap.CodeRec cd d.name->mg d.name=some (.ref fa) ->
   s₁.heap.get? a=some { cls:=.type "list",data:=.seq vs.toArray }->IntsAre vs ns->ns.length<=n->s₁.gens=#[] ->
   codeAny (model l.prog w) callerA (.call (.ref fa) ⟨[.ref a],[]⟩) (fun r s'=>r=.ok (.ret (.bool true))/\OldK s₁.heap s'.heap/\s'.os=s₁.os/\AllBare s'.gens) s₁) :
  WalkO q loose XP YP l.row.toRowW d [] (fun f vs=>PySem.call f vs):=by
 intro w s₀ s₁ mg mb G Y fa o pm cd doc dV kV ho hd hcd hD hmg hg args vals as hpre hlay hrd hwl hlo;obtain rfl:dV=.none:=Dflts.none hD hdf;obtain rfl:kV=.none:=Dflts.noKw hD;obtain⟨a,vs,ns,rfl,rfl,hobj,hints,hlen⟩:=zeY hn hpre hwl;refine enter_call (codeAny_mono (call w s₀ s₁ mg mb fa o pm cd doc a vs ns G Y ho (fd_plain hd) hcd hmg hobj hints hlen hg) fun r s' hq=>?_);obtain⟨rfl,h2,h3,h4⟩:=hq;exact⟨.inl ⟨.bool true,.bool true,[],rfl,fun _=>rfl,.bool true,zgE l _,fun _=>⟨List.Pairwise.nil,fun _ hm=>(nomatch hm)⟩⟩,h2,h3,h4⟩
section
variable{prog:Program}{w:World}{A:Around}{E:Value->Shared->Prop}{s:Shared}{K:Frag}
end
end Att
namespace L2
open PySem PySem.Spec PyProof.Rows
theorem zbs:∀ {vs:List Value} {ns:List Int},IntsAre vs ns->Vals (ns.map V.int) vs
 | _,_,.nil=>.nil
 | _,_,.cons n t h=>.cons ⟨t,rfl⟩ (zbs h)
def Only(H:Hp):Prop:=∀ b,H b=none\/∃ o xs,H b=some (.frz o (.lst xs))
theorem zhd{P:Program}{w:World}{K:PySem.W.Frag}{mg mb:Str->Option Value}{CX:CXT}{k:Nat}{fa a:Addr}{fd:FuncData}{x:Str}{sp:Sp}{s₁:Shared}{vs:List Value}{ns:List Int}
  (KX:K.In s₁.heap) (hns:s₁.heap.Ns mainGlobals mg) (hb:s₁.heap.Ns builtinsNs mb) (hbb:∀ x:Str,x ≠ "__name__" -> mb x=bootBuiltins x) (hlim:s₁.heap.NoLimit) (hSe:s₁.heap.NoSeer) (hg:s₁.gens=#[])
  (ha:s₁.heap.get? a=some { cls:=.type "list",data:=.seq vs.toArray }) (hi:IntsAre vs ns) (hl:ns.length<=sizeLine) (hr:Room k callerA)
  (F:∀ base:Heap,K.In base->base.Ns mainGlobals mg->base.NoSeer->FnOk P w K mg base CX k fa fd [x] sp) (hbind:∀(s:Shared)(u:Value),BindsTo s fd ⟨[u],[]⟩ [(x,u)])
  (hsp:∀ H:Hp,Only H->SqL K H a (ns.map V.int)->sp [.ref a] H (fun v _=>v=.bl true) fun _ _ _=>False)
  (hCX:∀ H e s',CX [] H s₁ (fun _ _ _=>False) e s'->False) :
  codeAny (model P w) callerA (.call (.ref fa) ⟨[.ref a],[]⟩) (fun r s'=>r=.ok (.ret (.bool true))/\OldK s₁.heap s'.heap/\s'.os=s₁.os/\AllBare s'.gens) s₁:=by
 have rv:=zbs hi;have lenV:=hi.length;have core:∀ H:Hp,Only H->SqL K H a (ns.map V.int)->HOk P w H s₁.heap->(∀ b,H b≠none->b=a)->(H a≠none->K.lookup a=none) ->
   codeAny (model P w) callerA (.call (.ref fa) ⟨[.ref a],[]⟩) (fun r s'=>r=.ok (.ret (.bool true))/\OldK s₁.heap s'.heap/\s'.os=s₁.os/\AllBare s'.gens) s₁:=by
  intro H hO hS hok hA hK;have base_of:∀ {b:Addr} {o:Obj},s₁.heap.get? b=some o->H b=none->(hidT s₁.heap H).get? b=some o:=fun e n=>zhm e n
  have noA:∀ {b:Addr} {o:Obj} {es:Array DictEntry} {ep:Nat},s₁.heap.get? b=some o->o.data=.dict es ep->H b=none:=fun {b o es ep} e d=>by
   cases q:H b with
   | none=>rfl
   | some u =>
    have e':b=a:=hA b (by rw[q];simp);subst e';rw[ha]at e;cases e;have d':Data.seq vs.toArray _=Data.dict es ep:=d;cases d'
  have nsK:∀ {b:Addr} {m:Str->Option Value},s₁.heap.Ns b m->(hidT s₁.heap H).Ns b m:=fun {b m} ⟨o,es,ep,e,d,r⟩=>⟨o,es,ep,base_of e (noA e d),d,r⟩
  have hKb:K.In (hidT s₁.heap H):=fun b o e=>base_of (KX b o e) (by
   cases q:H b with
   | none=>rfl
   | some u =>
    have e':b=a:=hA b (by rw[q];simp);subst e';rw[hK (by rw[q];simp)]at e;cases e)
  have hM:Mod K mg (hidT s₁.heap H):=⟨hKb,nsK hns,⟨mb,nsK hb,hbb⟩,let ⟨mc,h1,h2⟩:=hlim;⟨mc,nsK h1,h2⟩⟩;have e0:Env0 P w K mg (hidT s₁.heap H) callerA [] s₁ H:=⟨rfl,hM,fun b o e=>ziV e,uS (ze1 _ _),trivial,fun b hb=>absurd (show b∈([]:List Addr)from hb) (by simp),hok,.of_eq hg⟩;have hSb:(hidT s₁.heap H).NoSeer:=⟨(let ⟨mc,h1,h2⟩:=hSe.statics;⟨mc,nsK h1,h2⟩),(let ⟨mc,h1,h2⟩:=hSe.mods;⟨mc,nsK h1,h2⟩),(let ⟨mc,h1,h2⟩:=hSe.imp;⟨mc,nsK h1,h2⟩),by
   obtain⟨m',bm,ob,h1,h2,h3,h4,h5⟩:=hSe.main;refine⟨m',bm,ob,nsK h1,h2,base_of h3 ?_,h4,h5⟩;cases q:H bm with
   | none=>rfl
   | some u =>
    have e':bm=a:=hA bm (by rw[q];simp);subst e';rw[ha]at h3;cases h3;exact absurd h4 (by simp)⟩
  refine codeAny_mono ((F _ hKb (nsK hns) hSb).run callerA [] s₁ H ⟨[.ref a],[]⟩ [.ref a] [.ref a] _ _ hr e0 (hbind s₁ (.ref a)) (.cons rfl .nil) (hsp H hO hS)) fun r s' h=>?_
  cases r with
  | error e=>exact(hCX H e s' h).elim
  | ok fl =>
   cases fl with
   | next=>exact False.elim h
   | brk=>exact False.elim h
   | cont=>exact False.elim h
   | ret u =>
    obtain⟨v,H',os,bare,un,hok',r',q⟩:=h;have q':v=.bl true:=q;subst q';obtain rfl:u=Value.bool true:=r';refine⟨rfl,OldK.of_keep fun b o e=>?_,os,bare⟩;cases q:H b with
    | none=>exact un.keep b o e q (by intro z;exact absurd (show b∈([]:List Addr)from z) (by simp)) (by simp)
    | some u =>
     rcases hO b with z|⟨ob,xs,z⟩
     ·rw[q]at z;cases z
     ·have z2:=un.frzs b ob _ z;obtain⟨e1,_⟩:=hok b _ z;obtain⟨e2,_⟩:=hok' b _ z2;rw[e]at e1;cases e1;exact e2
 cases hk:K.lookup a with
 | some o =>
  have e:=KX a o hk;rw[ha]at e;cases e;refine core (fun _=>none) (fun _=>.inl rfl) (.inr ⟨_,vs.toArray,_,hk,rfl,rfl,rfl,by rw[wQ,lenV];exact hl,by simpa using rv⟩) (fun b u z=>by have z':(none:Option HO)=some u:=z;cases z') (fun b z=>absurd rfl z) fun z=>absurd rfl z
 | none =>
  refine core (fun b=>if b=a then some (.frz { cls:=.type "list",data:=.seq vs.toArray } (.lst (ns.map V.int)))else none) (fun b=>?_) (.inl (.inr ⟨{ cls:=.type "list",data:=.seq vs.toArray },if_pos rfl⟩)) (fun b u z=>?_) (fun b z=>?_) fun _=>hk
  ·by_cases hb:b=a
   ·exact .inr ⟨_,_,if_pos hb⟩
   ·exact .inl (if_neg hb)
  ·by_cases hb:b=a
   ·have z':=(if_pos hb).symm.trans z;cases z';subst hb;exact⟨ha,by rw[we];exact hl,vs,_,rv,ha⟩
   ·have z':=(if_neg hb).symm.trans z;cases z'
  ·by_cases hb:b=a
   ·exact hb
   ·exact absurd (if_neg hb) z
end L2
namespace L2
open PySem PySem.Spec PyProof.Rows
end L2
namespace L2
open PySem PySem.Spec PyProof.Rows
def kay(s:Stmt):Arguments:=match s with
 | .FunctionDef _ a _ _ _ _ _ _ _ _=>a
 | _=>{ posonlyargs:=[],args:=[],vararg:=none,kwonlyargs:=[],kw_defaults:=[],kwarg:=none,defaults:=[] }
def kat(s:Stmt):List Stmt:=match s with
 | .FunctionDef _ _ b _ _ _ _ _ _ _=>b
 | _=>[]
def kac(s:Stmt):Scope:=match s with
 | .FunctionDef _ _ _ _ _ _ sc _ _ _=>sc
 | _=>{ kind:=.function,names:=[],isGenerator:=false,isCoroutine:=false }
abbrev CX0:CXT:=fun _ _ _ _ _ _=>False
abbrev E0:XK:=fun _ _ _=>False
theorem pass0{X:Cx}:Passes CX0 X E0:=fun _ _ _ _ _ _ _ h=>h.elim
structure Fun(K:PySem.W.Frag)(x qual:Str)(st:Stmt)(f:Addr)(fd:FuncData):Prop where
 ex:∃(oc:Value)(od:Option Addr)(kV doc pm:Value)(an:Option Addr)(cdv ct:Value)(osl:Array (Option Value)),
  fd=PySem.W.fnOf x qual (kay st) (kat st) (kac st) .none kV doc pm an cdv ct/\K.lookup f=some ⟨oc,od,.func fd,osl⟩/\PySem.W.codeIn K cdv qual=true
 kp:PySem.W.keepIn K (.ref f)=true
section
variable{P:Program}{w:World}{K:PySem.W.Frag}{mg:Str->Option Value}{base:Heap}
theorem Fun.ok{x qual:Str}{st:Stmt}{f:Addr}{fd:FuncData}{N ps:List Str}{k:Nat}{sp:Sp}(F:Fun K x qual st f fd)(S:kad N ps (kac st))(len:∀ vs H Q E,sp vs H Q E->vs.length=ps.length)
  (hbody:∀(cdv:Value)(A:Around)(outer:List Env)(s:Shared)(H:Hp)(vs:List V)(Q:VK)(E:XK),Room k (A.deeper (envOfC qual (kac st) s.heap.objs.size f cdv))->sp vs H Q E ->
   ∃ t,PSs (cxOf CX0 P w K mg base N qual (kac st) f cdv A outer s H E).nox (kat st) t/\t { nx:=fun _ H'=>Q .non H',rt:=Q } (start N vs) H):FnOk P w K mg base CX0 (k+1) f fd ps sp:=by
 obtain⟨oc,od,kV,doc,pm,an,cdv,ct,osl,rfl,lk,hcd⟩:=F.ex;refine zkH lk hcd S len fun A outer s H vs Q E hr hsp=>?_
 obtain⟨t,h,q⟩:=hbody cdv A outer s H vs Q E hr hsp;exact⟨t,h.nox,q⟩
theorem Fun.binds{x qual:Str}{st:Stmt}{f:Addr}{fd:FuncData}{ps:List Str}(F:Fun K x qual st f fd)
  (h:∀(kV doc pm:Value)(an:Option Addr)(cdv ct:Value)(us:List Value),us.length=ps.length->bindArgs (PySem.W.fnOf x qual (kay st) (kat st) (kac st) .none kV doc pm an cdv ct) ⟨us,[]⟩=pure (ps.zip us)):Binds K fd ps []:=by
 obtain⟨oc,od,kV,doc,pm,an,cdv,ct,osl,rfl,lk,hcd⟩:=F.ex;exact .all (h kV doc pm an cdv ct)
theorem ziy{x qual:Str}{st:Stmt}{f:Addr}{oc:Value}{od an:Option Addr}{osl:Array (Option Value)}{kV doc pm cdv ct:Value}(l:K.lookup f=some ⟨oc,od,.func (PySem.W.fnOf x qual (kay st) (kat st) (kac st) .none kV doc pm an cdv ct),osl⟩)
  (c:PySem.W.codeIn K cdv qual=true) (k:PySem.W.keepIn K (.ref f)=true):Fun K x qual st f (PySem.W.fnOf x qual (kay st) (kat st) (kac st) .none kV doc pm an cdv ct):=⟨⟨oc,od,kV,doc,pm,an,cdv,ct,osl,rfl,l,c⟩,k⟩
end
section
variable{X:Cx}
theorem pv (i:Nat) {x:Str} {pos:Pos} (hN:X.N[i]?=some x:=by rfl) (hv:Vis X.env.scope x:=by first|exact Or.inl rfl|exact Or.inr (Or.inl rfl) | exact Or.inr (Or.inr rfl)) (hd:(x ==("__debug__" : Str))=false:=by decide)
  (hcd:(x ==("__classdict__" : Str))=false:=by decide):PE X (.Name x pos) (tVar i):=zjO hN hv hd hcd
end
theorem iteF{A B:Prop}(h:B):if false=true then A else B:=by
 rw[if_neg wS];exact h
theorem iteT{A B:Prop}(h:A):if true=true then A else B:=by
 rw[if_pos rfl];exact h
theorem ite2{c A B:Prop}[Decidable c](h1:c->A)(h2:¬ c->B):if c then A else B:=by
 by_cases h:c
 ·rw[if_pos h];exact h1 h
 ·rw[if_neg h];exact h2 h
def Same(H H':Hp):Prop:=∀ b o,H b=some o->H' b=some o
theorem Same.refl(H:Hp):Same H H:=fun _ _ h=>h
theorem Same.trans{H H1 H2:Hp}(a:Same H H1)(b:Same H1 H2):Same H H2:=fun c o h=>b c o (a c o h)
end L2
namespace Nm
def primeB(n:Nat):Bool:=decide (1<n) && (vd n).all fun d=>decide (d<2) || decide (n % d≠0)
structure PrS(k:Int):Prop where
 lo:1<k
 hi:k<99
 pr:primeB k.toNat=true
structure Pr(k:Int):Prop where
 lo:1<k
 hi:k<2305843009213693952
 cp:∀ r:Int,0<r->r<k->vk k r=1
def kab(k:Int):Prop:=k=0\/Pr k
def KindS(k:Int):Prop:=k=0\/PrS k
theorem kab.lt{k:Int}(h:kab k):0<=k/\k<2305843009213693952:=by
 rcases h with h|h
 ·omega
 ·have:=h.lo;have:=h.hi;omega
theorem zab:∀ k<99,primeB k=true->∀ r<k,0<r->uI k r=1:=by decide +kernel
theorem PrS.big{k:Int}(h:PrS k):Pr k:=by
 refine⟨h.lo,by have:=h.hi;omega,fun r h0 h1=>?_⟩;have:=zab k.toNat (by have:=h.hi;omega) h.pr r.toNat (by omega) (by omega);have e1:k.natAbs=k.toNat:=by omega
 have e2:r.natAbs=r.toNat:=by omega
 rw[uJ,e1,e2];exact this
theorem KindS.ok{k:Int}(h:KindS k):kab k:=h.imp id PrS.big
theorem Pr.cop{k r:Int}(h:Pr k)(h0:0<r)(h1:r<k):vk k r=1:=h.cp r h0 h1
theorem zdy(a b:Int):vk b (a.fmod b)=vk a b:=by
 rw[wa4,Int.gcd_sub_mul_left_right,wa5]
theorem zeT(a:Int){b:Int}(hb:b≠0):(a.fmod b).natAbs<b.natAbs:=by
 rcases gx 0 b with h|h
 ·have h1:=wJ a h;have h2:=wP a h;omega
 ·have hb':0 < -b:=by omega
  have h1:=wJ (-a) hb';have h2:=wP (-a) hb';have e:(-a).fmod (-b) = -(a.fmod b):=by
   rw[Int.neg_fmod_neg]
  omega
end Nm
namespace Nm
structure OvInv(p r l g ml mg:Int):Prop where
 l0:0<=l
 l1:l<2305843009213693952
 g0:0<=g
 g1:g<2305843009213693952
 cop:vk l g=1
 left:p ∣ l - ml*r
 right:p ∣ g - mg*r
theorem zdF{p r:Int}(h:Pr p)(h0:0<r)(h1:r<p):OvInv p r p r 0 1:=by
 have:=h.lo;have:=h.hi;refine⟨by omega,by omega,by omega,by omega,h.cop h0 h1,?_,?_⟩
 ·rw[wa6,Int.sub_zero];exact wa7 p
 ·rw[wbi,Int.sub_self];exact waz p
theorem zfE{p r l g ml mg:Int}(h:OvInv p r l g ml mg)(hg:g≠0):OvInv p r g (l - l / g*g) mg (ml - l / g*mg):=by
 have g0:=h.g0;have g1:=h.g1;have e:l - l / g*g=l % g:=by
  have:=gr l g;rw[wa8 (l / g) g];omega
 have m0:=gU l hg;have m1:=gf l (show 0<g by omega);refine⟨g0,g1,by omega,by omega,?_,h.right,?_⟩
 ·rw[Int.gcd_sub_mul_right_right,wa5];exact h.cop
 ·have e2:l - l / g*g - (ml - l / g*mg)*r =(l - ml*r) - l / g *(g - mg*r):=by grind
  rw[e2];exact waN h.left (Ga h.right)
theorem zfI{l g:Int}(g0:0<=g)(hg:g≠0):(l - l / g*g).toNat<g.toNat:=by
 have e:l - l / g*g=l % g:=by
  have:=gr l g;rw[wa8 (l / g) g];omega
 have m0:=gU l hg;have m1:=gf l (show 0<g by omega);omega
theorem ziA{p r l ml mg:Int}(h:OvInv p r l 0 ml mg)(hp:0<p):p ∣ ml % p*r - 1:=by
 have c:=h.cop;rw[waA]at c;have e:l=1:=by have:=h.l0;omega
 have d:=h.left;rw[e]at d;have e1:ml % p*r - 1 = -(1 - ml*r) - p *(ml / p)*r:=by
  have:=gr ml p
  grind
 rw[e1];exact waN (Int.dvd_neg.mpr d) (Int.dvd_mul_of_dvd_left (waE p _))
def sg(t b:Int):Int:=if b<0 then -((vk t b:Nat):Int)else((vk t b:Nat):Int)
theorem zgs{t b:Int}(hb:b≠0):sg t b≠0:=by
 have:=gm t hb;unfold sg;split <;> omega
theorem zjM(t b:Int):(sg t b).natAbs=vk t b:=by
 unfold sg;split <;> omega
theorem Ys(t b:Int):sg t b ∣ t:=by
 unfold sg;split
 ·exact wbj.mpr (gD t b)
 ·exact gD t b
theorem Yz(t b:Int):sg t b ∣ b:=by
 unfold sg;split
 ·exact wbj.mpr (Gh t b)
 ·exact Gh t b
theorem zf7{q:Rat}{t b:Int}(hb:b≠0)(h:q.num*b=t*q.den):vM t b=q:=by
 rw[← Gd q];have hd:(q.den:Int)≠0:=by have:=q.den_nz;omega
 rw[GM hb hd];omega
theorem XU{t b:Int}(hb:b≠0):t.fdiv (sg t b) =(vM t b).num/\b.fdiv (sg t b) =((vM t b).den:Nat):=by
 have hs:=zgs (t:=t) hb;rw[vR (Ys t b),vR (Yz t b)];have et:=uK (Ys t b);have eb:=uK (Yz t b);have hpos:0<b / sg t b:=by
  have hne:b / sg t b≠0:=fun z=>by rw[z,wa6]at eb;exact hb eb.symm
  have hg:=gm t hb
  rcases gx b 0 with h|h
  ·have e:sg t b = -((vk t b:Nat):Int):=by unfold sg;rw[if_pos h]
   have:0<=b / sg t b:=Int.ediv_nonneg_of_nonpos_of_nonpos (by omega) (by omega);omega
  ·have e:sg t b =((vk t b:Nat):Int):=by unfold sg;rw[if_neg (by omega)]
   have:0<=b / sg t b:=waU (by omega) (by omega);omega
 have hcop:vk (t / sg t b) (b / sg t b)=1:=by
  rw[wa9 (Ys t b) (Yz t b),zjM];exact wba (gm t hb)
 let q:Rat:=⟨t / sg t b,(b / sg t b).toNat,by omega,by
  show uI (t / sg t b).natAbs (b / sg t b).toNat=1;have:(b / sg t b).toNat =(b / sg t b).natAbs:=by omega
  rw[this];exact hcop⟩
 have hq:vM t b=q:=zf7 hb (by
  show t / sg t b*b=t *(((b / sg t b).toNat:Nat):Int);have e:(((b / sg t b).toNat:Nat):Int)=b / sg t b:=by omega
  rw[e];have:t / sg t b*b=t / sg t b *(b / sg t b*sg t b):=by rw[eb]
  have:t *(b / sg t b)=t / sg t b*sg t b *(b / sg t b):=by rw[et]
  grind)
 rw[hq];refine⟨rfl,?_⟩;show b / sg t b =(((b / sg t b).toNat:Nat):Int);omega
theorem zgp(x y:Rat):vM (x.num*y.den+y.num*x.den) (x.den*y.den)=x+y:=by
 rw[Rat.add_def',← GN];simp
theorem zfK(x y:Rat):vM (x.num*y.den - y.num*x.den) (x.den*y.den)=x - y:=by
 rw[Rat.sub_def',← GN];simp
theorem zcJ(x y:Rat):vM (x.num*y.num) (x.den*y.den)=x*y:=by
 rw[Rat.mul_def',← GN];simp
theorem zjz(x y:Rat):vM (x.num*y.den) (x.den*y.num)=x / y:=by
 rw[Rat.div_def,wbk,← Gd x,wai];simp[Gd]
end Nm
namespace L2
open PySem PySem.Spec PyProof.Rows
theorem yi:bootBuiltins "len" = some (.builtin "len"):=by decide +kernel
theorem zfq:bootBuiltins "abs" = some (.builtin "abs"):=by decide +kernel
theorem yA:bootBuiltins "isinstance" = some (.builtin "isinstance"):=by decide +kernel
theorem zkr:bootBuiltins "sum" = some (.builtin "sum"):=by decide +kernel
theorem zfp:bootBuiltins "sorted" = some (.builtin "sorted"):=by decide +kernel
theorem zdD:bootBuiltins "int" = some (.type "int"):=by decide +kernel
theorem ziO:bootBuiltins "bool" = some (.type "bool"):=by decide +kernel
theorem ZO:bootBuiltins "list" = some (.type "list"):=by decide +kernel
theorem Yv:bootBuiltins "tuple" = some (.type "tuple"):=by decide +kernel
theorem zkc:bootBuiltins "zip" = some (.type "zip"):=by decide +kernel
def Sm(n:Nat)(x:Int):Prop:=x.natAbs<2^n
theorem Sm.bits{n:Nat}{x:Int}(h:Sm n x):Builtin.Int.intBits x<=n:=by
 unfold Builtin.Int.intBits
 split
 ·exact vC _
 ·rename_i h0;have h0':x.natAbs≠0:=by
   intro z;have e:x=0:=by omega
   rw[e]at h0;exact h0 rfl
  have:=(Nat.log2_lt h0').mpr h;omega
theorem Sm.mulOk{m n:Nat}{a b:Int}(ha:Sm m a)(hb:Sm n b)(h:m+n<=134217728):IntMulOk a b:=IntMulOk.of_le ha.bits hb.bits h
theorem Sm.mono{m n:Nat}{x:Int}(h:Sm m x)(hmn:m<=n):Sm n x:=wV h (ve (by decide) hmn)
theorem Sm.mul{m n:Nat}{a b:Int}(ha:Sm m a)(hb:Sm n b):Sm (m+n) (a*b):=by
 unfold Sm;rw[vB,ul];exact waO ha hb
theorem Sm.add{n:Nat}{a b:Int}(ha:Sm n a)(hb:Sm n b):Sm (n+1) (a+b):=by
 unfold Sm at *;rw[gy];have:=GE a b;omega
theorem Sm.sub{n:Nat}{a b:Int}(ha:Sm n a)(hb:Sm n b):Sm (n+1) (a - b):=by
 unfold Sm at *;rw[gy];have:=waF a b;omega
theorem Sm.neg{n:Nat}{a:Int}(ha:Sm n a):Sm n (-a):=by
 unfold Sm at *;rw[Int.natAbs_neg];exact ha
theorem Sm.le{n:Nat}{a b:Int}(ha:Sm n a)(h:b.natAbs<=a.natAbs):Sm n b:=uo h ha
section
variable{X:Cx}{a b c:Expr}{ta tb tc:TE}{pos:Pos}
theorem yb:OpR X (binaryOp .Mult) (rI IntMulOk fun i j=>.int (i*j)):=opI fun _ _ _ _ _ _ _ hc q=>mul_int q hc
def rIsi(K:PySem.W.Frag):List V->Hp->VK->Prop:=fun xs H Q=>∃ x n t b,xs=[x,.ty n]/\TyOf K H x t/\PySem.W.kitOne K t (.type n)=some b/\Q (.bl b) H
theorem zhK:kaC X (.builtin "isinstance") (rIsi X.K):=by
 intro pins s σ H xs us Q I r h;obtain⟨x,n,t,b,rfl,ty,e,q⟩:=h;obtain⟨u,w',rfl,r1,r2⟩:=Vals.two r;cases r2;exact zg1 I r1 ty e fun tk=>⟨.bl b,H,I.tok tk,rfl,q⟩
theorem zbe {x:Str} {n:String} (hg:Gl X x) (hm:X.mg x=none) (hv:bootBuiltins x=some (.type n)) (hn:x ≠ "__name__" := by decide) (hd:(x ==("__debug__" : Str))=false:=by decide):PE X (.Name x pos) (tC (.ty n)) :=
 ziN hg hm hv rfl hn hd
end
structure Kn(P:Program)(w:World)(K:PySem.W.Frag)(mg:Str->Option Value)(base:Heap)(x:Str)(k:Nat)(ps:List Str)(sp:Sp):Prop where
 ex:∃(f:Addr)(fd:FuncData),FnOk P w K mg base CX0 k f fd ps sp/\mg x=some (.ref f)/\PySem.W.keepIn K (.ref f)=true/\Binds K fd ps []
theorem zkP{X:Cx}{x:Str}{k:Nat}{ps:List Str}{sp:Sp}{p pos:Pos}{e:Expr}{es:List Expr}{t:TA}(D:Kn X.prog X.w X.K X.mg X.base x k ps sp)(hr:Room k X.A)(hg:Gl X x)(ha:PA X (e::es) t)
  (hdb:(x ==("__debug__" : Str))=false:=by decide) (he:starEach (e::es) X.env =(false,eval e X.env)::starEach es X.env:=by rfl) (hpl:(backTo pos (starEach es X.env)).any (·.1)=false:=by rfl) :
  PE X (.Call (.Name x p) (e::es) [] pos) (tCall sp [] E0 t):=by
 obtain⟨f,fd,F,hm,hk,hb⟩:=D.ex;exact zi7 F hr hg hm hk hb .nil pass0 ha hdb he hpl
structure Df(K:PySem.W.Frag)(mg:Str->Option Value)(x:Str)(ps:List Str)(st:Stmt):Prop where
 ex:∃(f:Addr)(fd:FuncData),Fun K x x st f fd/\mg x=some (.ref f)/\Binds K fd ps []
section
variable{P:Program}{w:World}{K:PySem.W.Frag}{mg:Str->Option Value}{base:Heap}
theorem Df.kn{x:Str}{st:Stmt}{N ps:List Str}{k:Nat}{sp:Sp}(D:Df K mg x ps st)(S:kad N ps (kac st))(len:∀ vs H Q E,sp vs H Q E->vs.length=ps.length)
  (hbody:∀(f:Addr)(cdv:Value)(A:Around)(outer:List Env)(s:Shared)(H:Hp)(vs:List V)(Q:VK)(E:XK),Room k (A.deeper (envOfC x (kac st) s.heap.objs.size f cdv))->sp vs H Q E ->
   ∃ t,PSs (cxOf CX0 P w K mg base N x (kac st) f cdv A outer s H E).nox (kat st) t/\t { nx:=fun _ H'=>Q .non H',rt:=Q } (start N vs) H):Kn P w K mg base x (k+1) ps sp:=by
 obtain⟨f,fd,F,hm,hb⟩:=D.ex;exact⟨f,fd,F.ok S len (fun cdv A outer s H vs Q E hr h=>hbody f cdv A outer s H vs Q E hr h),hm,F.kp,hb⟩
theorem zkI{x:Str}{ps:List Str}{st:Stmt}{h:Heap}{f:Addr}{oc:Value}{od an:Option Addr}{osl:Array (Option Value)}{kV doc pm cdv ct:Value}(X:K.In h)(G:h.Ns mainGlobals mg)
  (a:PySem.W.nsIn K mainGlobals x=some (some (.ref f)))
  (l:K.lookup f=some ⟨oc,od,.func (PySem.W.fnOf x x (kay st) (kat st) (kac st) .none kV doc pm an cdv ct),osl⟩)
  (c:PySem.W.codeIn K cdv x=true) (k:PySem.W.keepIn K (.ref f)=true)
  (hb:∀(kV doc pm:Value)(an:Option Addr)(cdv ct:Value)(us:List Value),us.length=ps.length->bindArgs (PySem.W.fnOf x x (kay st) (kat st) (kac st) .none kV doc pm an cdv ct) ⟨us,[]⟩=pure (ps.zip us)):Df K mg x ps st:=by
 have F:=ziy (st:=st) l c k;exact⟨f,_,F,PySem.W.mg_of X G a,F.binds hb⟩
end
theorem bind1{fd:FuncData}{ps:List Str}(h:∀ a0,bindArgs fd ⟨[a0],[]⟩=pure (ps.zip [a0]))(us:List Value)(e:us.length=1):bindArgs fd ⟨us,[]⟩=pure (ps.zip us):=by
 match us,e with | [a0],_=>exact h a0
theorem kau{fd:FuncData}{ps:List Str}(h:∀ a0 a1,bindArgs fd ⟨[a0,a1],[]⟩=pure (ps.zip [a0,a1]))(us:List Value)(e:us.length=2):bindArgs fd ⟨us,[]⟩=pure (ps.zip us):=by
 match us,e with | [a0,a1],_=>exact h a0 a1
theorem kaw{fd:FuncData}{ps:List Str}(h:∀ a0 a1 a2,bindArgs fd ⟨[a0,a1,a2],[]⟩=pure (ps.zip [a0,a1,a2]))(us:List Value)(e:us.length=3):bindArgs fd ⟨us,[]⟩=pure (ps.zip us):=by
 match us,e with | [a0,a1,a2],_=>exact h a0 a1 a2
theorem bind4{fd:FuncData}{ps:List Str}(h:∀ a0 a1 a2 a3,bindArgs fd ⟨[a0,a1,a2,a3],[]⟩=pure (ps.zip [a0,a1,a2,a3]))(us:List Value)(e:us.length=4):bindArgs fd ⟨us,[]⟩=pure (ps.zip us):=by
 match us,e with | [a0,a1,a2,a3],_=>exact h a0 a1 a2 a3
def spLaw(K:PySem.W.Frag):Sp:=fun vs H Q _=>∃(a:Addr)(ns:List Int),vs=[.ref a]/\SqL K H a (ns.map V.int)/\ns.length<=63/\∀ H',Q (.bl true) H'
theorem zg{H:Hp}{p:Addr}(h:H p=none)(o:HO):Same H (upd H p o):=fun b u q=>by rw[zN (yg q h)];exact q
theorem zkw {K:PySem.W.Frag} {mg:Str->Option Value} {st:Stmt} {h:Heap} {f fa:Addr} {oc:Value} {od an:Option Addr} {osl:Array (Option Value)} {kV doc pm cdv ct:Value} (X:K.In h) (G:h.Ns mainGlobals mg) (hmg:mg "law" = some (.ref fa))
  (a:PySem.W.nsIn K mainGlobals "law" = some (some (.ref f)))
  (l:K.lookup f=some ⟨oc,od,.func (PySem.W.fnOf "law" "law" (kay st) (kat st) (kac st) .none kV doc pm an cdv ct),osl⟩)
  (c:PySem.W.codeIn K cdv "law" = true) (k:PySem.W.keepIn K (.ref f)=true)
  (hb:∀(kV doc pm:Value)(an:Option Addr)(cdv ct:Value)(v:Value),bindArgs (PySem.W.fnOf "law" "law" (kay st) (kat st) (kac st) .none kV doc pm an cdv ct) ⟨[v],[]⟩=pure [(("_law_script" : Str),v)]) :
  ∃ fd:FuncData,Fun K "law" "law" st fa fd/\∀(s:Shared)(v:Value),BindsTo s fd ⟨[v],[]⟩ [("_law_script",v)]:=by
 have e:=hmg.symm.trans (PySem.W.mg_of X G a);cases e;exact⟨_,ziy (st:=st) l c k,fun s v=>.of_eq (hb _ _ _ _ _ _ v)⟩
end L2
namespace L2
open PySem PySem.Spec PyProof.Rows
def fragFrom:Nat->List Obj->PySem.W.Frag
 | _,[]=>[]
 | i,o::r=>match o.data with
  | .freed=>fragFrom (i+1) r
  | _=>(i,o)::fragFrom (i+1) r
def fragH(h:Heap):PySem.W.Frag:=fragFrom 0 h.objs.toList
theorem Jl:∀(l:List Obj)(i a:Nat)(o:Obj),(fragFrom i l).lookup a=some o->∃ j,a=i+j/\l[j]?=some o/\(∀ c d sl,o≠⟨c,d,.freed,sl⟩)
 | [],i,a,o,h=>by cases h
 | p::r,i,a,o,h=>by
  unfold fragFrom at h;have go:(fragFrom (i+1) r).lookup a=some o->∃ j,a=i+j/\(p::r)[j]?=some o/\(∀ c d sl,o≠⟨c,d,.freed,sl⟩):=fun h=>by
   obtain⟨j,e,e',n⟩:=Jl r (i+1) a o h;exact⟨j+1,by omega,by simpa using e',n⟩
  split at h
  ·exact go h
  ·rename_i hf;rw[GO]at h
   split at h
   ·rename_i e;cases h;have e:a=i:=by simpa using e
    exact⟨0,by omega,by simp,fun c d sl e=>hf (by rw[e])⟩
   ·exact go h
theorem zh3(h:Heap):(fragH h).In h:=fun a o e=>by
 obtain⟨j,rfl,e',n⟩:=Jl _ _ _ _ e;unfold Heap.get?;have e'':h.objs[0+j]?=some o:=by
  rw[Ge]
  simpa using e'
 rw[e''];obtain⟨c,d,dt,sl⟩:=o;cases dt <;> first|rfl|exact absurd rfl (n _ _ _)
def fnSh(K:PySem.W.Frag)(x:Str):Option (FuncData×Bool×Bool):=match PySem.W.nsIn K mainGlobals x with
 | some (some (.ref f))=>(match K.lookup f with
  | some ⟨_,_,.func fd,_⟩=>some ({ fd with kwdefaults:=.none,doc:=.none,pyModule:=.none,annotations:=none,code:=.none,closureTuple:=.none },PySem.W.codeIn K fd.code x,PySem.W.keepIn K (.ref f))
  | _=>none)
 | _=>none
def fnEx(x:Str)(st:Stmt):Option (FuncData×Bool×Bool):=some (PySem.W.fnOf x x (kay st) (kat st) (kac st) .none .none .none .none none .none .none,true,true)
theorem zfC{K:PySem.W.Frag}{x:Str}{st:Stmt}(e:fnSh K x=fnEx x st):∃(f:Addr)(oc:Value)(od an:Option Addr)(osl:Array (Option Value))(kV doc pm cdv ct:Value),
  PySem.W.nsIn K mainGlobals x=some (some (.ref f))/\K.lookup f=some ⟨oc,od,.func (PySem.W.fnOf x x (kay st) (kat st) (kac st) .none kV doc pm an cdv ct),osl⟩ /\
  PySem.W.codeIn K cdv x=true/\PySem.W.keepIn K (.ref f)=true:=by
 unfold fnSh fnEx at e
 split at e
 ·rename_i f hf
  split at e
  ·rename_i oc od fd osl hl;obtain⟨nm,qn,pa,bo,sc,gl,cl,de,kd,dc,pm,an,co,ct,bi⟩:=fd;simp only[Option.some.injEq,Prod.mk.injEq,FuncData.mk.injEq]at e;obtain⟨⟨rfl,rfl,rfl,rfl,rfl,rfl,rfl,rfl,-,-,-,-,-,-,rfl⟩,e1,e2⟩:=e;exact⟨f,oc,od,an,osl,kd,dc,pm,co,ct,hf,hl,e1,e2⟩
  ·cases e
 ·cases e
def ctSh(K:PySem.W.Frag)(x:Str):Option Int:=match PySem.W.nsIn K mainGlobals x with
 | some (some (.int i _))=>some i
 | _=>none
section
variable{K:PySem.W.Frag}{mg:Str->Option Value}{h:Heap}
theorem zkN{x:Str}{i:Int}(X:K.In h)(G:h.Ns mainGlobals mg)(e:ctSh K x=some i):∃ t,mg x=some (.int i t):=by
 unfold ctSh at e
 split at e
 ·rename_i j t hn;cases e;exact⟨t,PySem.W.mg_of X G hn⟩
 ·cases e
theorem yc{x:Str}{ps:List Str}{st:Stmt}(X:K.In h)(G:h.Ns mainGlobals mg)(e:fnSh K x=fnEx x st)
  (hb:∀(kV doc pm:Value)(an:Option Addr)(cdv ct:Value)(us:List Value),us.length=ps.length->bindArgs (PySem.W.fnOf x x (kay st) (kat st) (kac st) .none kV doc pm an cdv ct) ⟨us,[]⟩=pure (ps.zip us)):Df K mg x ps st:=by
 obtain⟨f,oc,od,an,osl,kV,doc,pm,cdv,ct,a,l,c,k⟩:=zfC e;exact zkI X G a l c k hb
theorem zka {st:Stmt} {fa:Addr} (X:K.In h) (G:h.Ns mainGlobals mg) (hmg:mg "law" = some (.ref fa)) (e:fnSh K "law" = fnEx "law" st)
  (hb:∀(kV doc pm:Value)(an:Option Addr)(cdv ct:Value)(v:Value),bindArgs (PySem.W.fnOf "law" "law" (kay st) (kat st) (kac st) .none kV doc pm an cdv ct) ⟨[v],[]⟩=pure [(("_law_script" : Str),v)]) :
  ∃ fd:FuncData,Fun K "law" "law" st fa fd/\∀(s:Shared)(v:Value),BindsTo s fd ⟨[v],[]⟩ [("_law_script",v)]:=by
 obtain⟨f,oc,od,an,osl,kV,doc,pm,cdv,ct,a,l,c,k⟩:=zfC e;exact zkw X G hmg a l c k hb
end
def nth{α:Type}:List α->Nat->Option α
 | [],_=>none
 | a::_,0=>some a
 | _::r,n+1=>nth r n
theorem zF{α:Type}{l l':List α}(h:l=l')(n:Nat){a b:α}(x:nth l n=some a)(y:nth l' n=some b):a=b:=by
 subst h;exact Option.some.inj (x.symm.trans y)
def lawOnly(p:Program):Program:={ p with main:={ p.main with body:=p.main.body.filter fun st=>match st with
 | .FunctionDef n ..=>n ==("law" : Str)
 | _=>false } }
def looseOf (p:Program):List Str:=(p.main.scope.names.map (·.1)).filter fun n=>!(n ==("law" : Str))
def lawRec (p:Program):DefRec:=match PySem.W.defOf (lawOnly p) "law" with
 | some (d,_)=>d
 | none=>⟨"law",{ posonlyargs:=[],args:=[],vararg:=none,kwonlyargs:=[],kw_defaults:=[],kwarg:=none,defaults:=[] },[],{ kind:=.function,names:=[],isGenerator:=false,isCoroutine:=false },default⟩
def runT(p:Program)(N:Nat)(w:World)(os:OsState):Option Shared :=
 PySem.W.Fast.tw14082659384304107361 PySem.W.Fast.tw14364793385576792824 p w 11 (some (.ref 6)) N ⟨PySem.W.boot_heap w.params,#[],PySem.W.boot_drawn,PySem.W.boot_toks,os⟩ (PySem.W.topStub p)
def statT(p:Program)(w:World)(s₁:Shared):Bool:=PySem.W.staticsOk (importedModules p.main.body) (PySem.W.boot_heap w.params) s₁.heap && PySem.W.namesBound p s₁.heap && PySem.W.gensDone s₁ && PySem.W.laidKept (PySem.W.boot_heap w.params) s₁.heap
def seenT(p:Program)(s:Shared):=PySem.W.Fast.tw4187177175401517315 (lawOnly p) (looseOf p) (importedModules p.main.body) (fun _=>true) true s
structure Behind{β:Type}(p:Program)(N:Nat)(lk:PySem.W.Frag->β)(val:β):Prop where
 st:∀(w:World)(os:OsState),(runT p N w os).map (statT p w)=some true
 sn:∀(w:World)(os:OsState),(runT p N w os).map (seenT p)=some (PySem.W.openGood (lawOnly p) (looseOf p))
 lk:∀(w:World)(os:OsState),(runT p N w os).map (fun s=>lk (fragH s.heap))=some val
theorem zfa (w:World):((PySem.W.boot_heap w.params).isNs mainGlobals && (#[]:Array GenState).size == 0)=true/\(PySem.W.boot_heap w.params).objs.size=11/\(PySem.W.boot_heap w.params).nsMap mainGlobals "__annotations__" = some (.ref 6):=by
 refine⟨?_,?_,?_⟩
 ·kernel_rfl
 ·kernel_rfl
 ·rw[PySem.W.Fast.te8920871248978507458];kernel_rfl
theorem zgM{β:Type}{p:Program}{N:Nat}{lk:PySem.W.Frag->β}{val:β}(e:PySem.W.opening p=PySem.W.plainProg p.main.scope.names)(hN:Nat.ble 600 N=true)(f:∀ s,fenceModules? p s=some s)
  (h:Behind p N lk val) :
  PySem.W.LeftO p (lawOnly p) (looseOf p) (fun _=>true) (fun s=>lk (fragH s.heap)) (fun _=>val) N:=fun w=>by
 obtain⟨⟨hp,gs,d,k,os⟩,e1,e2⟩:=wR.mp (PySem.W.boot_open e hN f w);obtain⟨rfl,rfl,rfl,rfl⟩ : hp=PySem.W.boot_heap w.params/\gs=#[]/\d=PySem.W.boot_drawn/\k=PySem.W.boot_toks:=by simpa using e2
 obtain⟨z1,z2,z3⟩:=zfa w;have zs:=h.st w os;have zn:=h.sn w os;have zl:=h.lk w os;unfold seenT at zn;unfold runT at zs zn zl;rw[← PySem.W.Fast.te14082659384304107361,← PySem.W.Fast.te14364793385576792824]at zs zn zl;rw[← PySem.W.Fast.te4187177175401517315]at zn;obtain⟨s₁,er,es⟩:=wR.mp zs;rw[er]at zn zl;unfold statT at es;unfold PySem.W.openEnds;rw[e1];show(PySem.W.topFrom treeTable p w N _).map _=_;unfold PySem.W.topFrom
 dsimp only
 rw[z1,z2,z3,er];show((match PySem.W.staticsOk (importedModules p.main.body) (PySem.W.boot_heap w.params) s₁.heap && PySem.W.namesBound p s₁.heap && PySem.W.gensDone s₁ && PySem.W.laidKept (PySem.W.boot_heap w.params) s₁.heap with|true=>some s₁|false=>none).map _:Option _)=_;rw[es];exact congrArg some (Prod.ext (Option.some.inj zn) (Option.some.inj zl))
theorem zeG {β:Type} {l:PySem.W.OpenLaw} (k N:Nat) (lk:PySem.W.Frag->β) (val:β) (ws:PySem.W.Fast.tw9446332074065402090 l=true) (hl:l.name = "law") (hn:l.most=some 63) (hwr:l.writes=false)
  (e:PySem.W.opening l.prog=PySem.W.plainProg l.prog.main.scope.names) (hN:Nat.ble 600 N=true) (f:∀ s,fenceModules? l.prog s=some s)
  (h:Behind l.prog N lk val)
  (hd:PySem.W.defOf (lawOnly l.prog) "law" = some (lawRec l.prog,[])) (hp:l.prog.theDef "law" = some ((lawRec l.prog).params,(lawRec l.prog).body,(lawRec l.prog).scope))
  (hk:PySem.W.kwWritten? (lawRec l.prog).params.kwonlyargs (lawRec l.prog).params.kw_defaults=some []) (hdf:(lawRec l.prog).params.defaults=[]) (hnm:(lawRec l.prog).name = "law")
  (ok:(PySem.W.chainsOk (lawOnly l.prog) && PySem.W.opensWell l.prog && (PySem.W.frees l.row.toRowW && l.row.within.isEmpty))=true) (hb:l.prog.bare) (hw:l.row.toRowW.promised) (hi:PyProof.Rows.importsNone (lawOnly l.prog)=true) (hr:Room k callerA)
  (F:∀(w:World)(mg:Str->Option Value)(fa:Addr)(h:Heap)(K:PySem.W.Frag),K.In h->lk K=val->h.Ns mainGlobals mg->mg "law" = some (.ref fa) ->
   ∃ fd:FuncData,(∀(s:Shared)(u:Value),BindsTo s fd ⟨[u],[]⟩ [("_law_script",u)])/\∀ base:Heap,K.In base->base.Ns mainGlobals mg->base.NoSeer->FnOk l.prog w K mg base CX0 k fa fd ["_law_script"] (spLaw K)):l.Holds:=by
 rw[← PySem.W.Fast.te9446332074065402090]at ws;refine PySem.W.holds_law ws fun said=>?_
 have hl':l.row.toRowW.name = "law" := hl;refine PySem.W.holds_open (r:=l.row) (q:=lawOnly l.prog) (loose:=looseOf l.prog) (Xt:=fun _=>true) (XP:=fun _ _=>True) (Yf:=fun s=>lk (fragH s.heap)) (Ya:=fun _=>val)
  (YP:=fun _ h=>∃ K:PySem.W.Frag,K.In h/\lk K=val) (d:=lawRec l.prog) (kwd:=[]) (N:=N) (zgM e hN f h) (fun w s e=>⟨_,zh3 _,e⟩) (fun w h h' y kp=>?_) (fun _ _=>True.intro) (fun _ _ _ _ _=>True.intro)
  (by rw[hl'];exact hd) (by rw[hl'];exact hp) hk (fun s _=>PySem.W.recFacts_of (R:=[]) rfl) ?_ said ok hb hw ?_
 ·obtain⟨K,i,q⟩:=y;exact⟨K,i.keeps kp,q⟩
 ·show(!l.writes || _)=true;rw[hwr];rfl
 ·refine Att.zc2 hn hdf fun w s₀ s₁ mg mb fa o pm cd doc a vs ns G Y ho hd hcd hmg hobj hints hlen hg=>?_
  obtain⟨K,KX,q⟩:=Y;rw[hnm]at hmg;obtain⟨fd,hb,hF⟩:=F w mg fa _ K KX q G.T.g hmg;exact zhd KX G.T.g G.T.b G.T.builtins G.T.nolimit (G.T.seer hi) hg hobj hints (wI hlen (by decide)) hr hF hb (fun H hO hS=>⟨a,ns,rfl,hS,hlen,fun _=>rfl⟩) fun H e s' z=>z
end L2
namespace KL
open PySem PySem.Spec PyProof.Rows L2
abbrev SE:List Str:=["one", "other"]
abbrev SF:List Str:=["top", "bottom"]
abbrev SG:List Str:=["prime", "rest"]
abbrev SH:List Str:=["kind", "whole"]
abbrev SI:List Str:=["kind", "one", "other"]
abbrev SJ:List Str:=["_law_one", "_law_other"]
abbrev SK:List Str:=["kind", "row"]
abbrev SL:List Str:=["kind", "top", "bottom"]
abbrev SM:List Str:=["kind", "wholes"]
abbrev SN:List Str:=["kind", "row", "lead_row", "column"]
abbrev SO:List Str:=["kind", "rows"]
abbrev SQ:List Str:=["kind", "width"]
abbrev SR:List Str:=["kind", "n", "rows", "free"]
abbrev SS:List Str:=["kind", "n", "room"]
abbrev ST:List Str:=["kind", "table", "row"]
abbrev SU:List Str:=["table"]
abbrev SV:List Str:=["kind", "table", "rows", "room"]
abbrev SW:List Str:=["kind", "table", "rows"]
abbrev SX:List Str:=["kind", "table"]
abbrev SY:List Str:=["kind", "size"]
abbrev SZ:List Str:=["kind", "machine"]
abbrev qc:List Str:=["kind", "n", "one", "other"]
abbrev qe:List Str:=["kind", "room", "rows"]
abbrev qm:List Str:=["kind", "machine", "T", "S"]
abbrev Qa:List Str:=["_law_top", "_law_bottom"]
abbrev Qb:List Str:=["_law_cell", "_law_k"]
abbrev Qe:List Str:=["_law_prime_here", "_law_cell"]
abbrev QS:List Str:=["_law_prime_here", "_law_whole_here"]
abbrev QX:List Str:=["_law_prime_here", "_law_one", "_law_other"]
abbrev da:List Str:=["_law_prime_here", "_law_cells", "_law_k"]
abbrev dg:List Str:=["_law_head", "_law_n", "_law_plain"]
abbrev dh:List Str:=["_law_row", "_law_column"]
abbrev di:List Str:=["_law_prime_here", "_law_cells", "_law_sizes", "_law_sorts_here"]
abbrev dj:List Str:=["_law_prime_here", "_law_tables", "_law_cell"]
abbrev dk:List Str:=["_law_cells", "_law_most"]
abbrev dm:List Str:=["_law_table"]
abbrev dq:List Str:=["_law_prime_here", "_law_found"]
abbrev dr:List Str:=["_law_prime_here", "_law_found", "_law_many"]
abbrev du:List Str:=["_law_prime_here", "_law_found", "_law_rows", "_law_columns"]
abbrev dw:List Str:=["_law_prime_here", "_law_table", "_law_column"]
abbrev dC:List Str:=["_law_machine_here"]
abbrev dE:List Str:=["_law_prime_here", "_law_one"]
abbrev dF:List Str:=["_law_prime_here", "_law_rows"]
abbrev dG:List Str:=["_law_prime_here", "_law_machine_here", "_law_many"]
abbrev dH:List Str:=["_law_prime_here", "_law_machine_here"]
abbrev dI:List Str:=["_law_prime_here", "_law_rows", "_law_n"]
abbrev dJ:List Str:=["_law_prime_here", "_law_found", "_law_m", "_law_q"]
abbrev dL:List Str:=["_law_series", "_law_rows", "_law_columns"]
theorem dN:sizeLine=16777216:=by decide
set_option maxHeartbeats 4000000
def top(i:Nat):Stmt:=PySem.Challenge.pw_steermill_k42_whole_cores.main.body.getD i (.Pass ⟨0,0,0,0⟩)
abbrev xw:Stmt:=top 4
theorem so:kad ["one", "other", "left", "right", "rest"] ["one", "other"] (kac xw):=⟨rfl,rfl,rfl,by decide +kernel,rfl,by decide +kernel,by decide +kernel⟩
abbrev ZB:Stmt:=top 5
theorem Sk:kad ["top", "bottom", "divisor"] ["top", "bottom"] (kac ZB):=⟨rfl,rfl,rfl,by decide +kernel,rfl,by decide +kernel,by decide +kernel⟩
abbrev Zx:Stmt:=top 6
theorem Sl:kad ["prime", "rest", "left", "right", "many_left", "many_right", "whole", "less", "many_less"] ["prime", "rest"] (kac Zx):=⟨rfl,rfl,rfl,by decide +kernel,rfl,by decide +kernel,by decide +kernel⟩
abbrev XI:Stmt:=top 7
theorem zgY:kad ["kind", "whole"] ["kind", "whole"] (kac XI):=⟨rfl,rfl,rfl,by decide +kernel,rfl,by decide +kernel,by decide +kernel⟩
abbrev zar:Stmt:=top 8
theorem zh5:kad ["kind", "one", "other"] ["kind", "one", "other"] (kac zar):=⟨rfl,rfl,rfl,by decide +kernel,rfl,by decide +kernel,by decide +kernel⟩
abbrev zdp:Stmt:=top 9
theorem zjs:kad ["kind", "one", "other"] ["kind", "one", "other"] (kac zdp):=⟨rfl,rfl,rfl,by decide +kernel,rfl,by decide +kernel,by decide +kernel⟩
abbrev XO:Stmt:=top 11
theorem Sv:kad ["kind", "row", "bottom", "part"] ["kind", "row"] (kac XO):=⟨rfl,rfl,rfl,by decide +kernel,rfl,by decide +kernel,by decide +kernel⟩
abbrev ZC:Stmt:=top 12
theorem zcx:kad ["kind", "top", "bottom"] ["kind", "top", "bottom"] (kac ZC):=⟨rfl,rfl,rfl,by decide +kernel,rfl,by decide +kernel,by decide +kernel⟩
abbrev qu:Stmt:=top 13
theorem zbj:kad ["one", "other"] ["one", "other"] (kac qu):=⟨rfl,rfl,rfl,by decide +kernel,rfl,by decide +kernel,by decide +kernel⟩
abbrev yX:Stmt:=top 14
theorem Yo:kad ["kind", "one", "other"] ["kind", "one", "other"] (kac yX):=⟨rfl,rfl,rfl,by decide +kernel,rfl,by decide +kernel,by decide +kernel⟩
abbrev zaH:Stmt:=top 15
theorem SA:kad ["kind", "wholes", "divisor", "whole"] ["kind", "wholes"] (kac zaH):=⟨rfl,rfl,rfl,by decide +kernel,rfl,by decide +kernel,by decide +kernel⟩
abbrev YH:Stmt:=top 16
theorem zeq:kad ["kind", "row", "lead_row", "column"] ["kind", "row", "lead_row", "column"] (kac YH):=⟨rfl,rfl,rfl,by decide +kernel,rfl,by decide +kernel,by decide +kernel⟩
abbrev zaf:Stmt:=top 17
theorem Sz:kad ["kind", "rows", "done", "waiting", "width", "column", "leading", "lead_row"] ["kind", "rows"] (kac zaf):=⟨rfl,rfl,rfl,by decide +kernel,rfl,by decide +kernel,by decide +kernel⟩
abbrev Yl:Stmt:=top 19
theorem zez:kad ["kind", "width"] ["kind", "width"] (kac Yl):=⟨rfl,rfl,rfl,by decide +kernel,rfl,by decide +kernel,by decide +kernel⟩
abbrev Ye:Stmt:=top 20
theorem zd9:kad ["one", "other"] ["one", "other"] (kac Ye):=⟨rfl,rfl,rfl,by decide +kernel,rfl,by decide +kernel,by decide +kernel⟩
abbrev XL:Stmt:=top 21
theorem Sx:kad ["rows", "told", "row"] ["rows"] (kac XL):=⟨rfl,rfl,rfl,by decide +kernel,rfl,by decide +kernel,by decide +kernel⟩
abbrev XJ:Stmt:=top 22
theorem zgn:kad ["table"] ["table"] (kac XJ):=⟨rfl,rfl,rfl,by decide +kernel,rfl,by decide +kernel,by decide +kernel⟩
abbrev YB:Stmt:=top 23
theorem Sq:kad ["kind", "one", "other", "columns", "told", "row", "left"] ["kind", "one", "other"] (kac YB):=⟨rfl,rfl,rfl,by decide +kernel,rfl,by decide +kernel,by decide +kernel⟩
abbrev zaG:Stmt:=top 24
theorem Sy:kad ["kind", "table", "row", "right"] ["kind", "table", "row"] (kac zaG):=⟨rfl,rfl,rfl,by decide +kernel,rfl,by decide +kernel,by decide +kernel⟩
abbrev zdf:Stmt:=top 25
theorem zi8:kad ["kind", "size"] ["kind", "size"] (kac zdf):=⟨rfl,rfl,rfl,by decide +kernel,rfl,by decide +kernel,by decide +kernel⟩
abbrev yW:Stmt:=top 26
theorem sh:kad ["kind", "table", "width", "pair"] ["kind", "table"] (kac yW):=⟨rfl,rfl,rfl,by decide +kernel,rfl,by decide +kernel,by decide +kernel⟩
abbrev Yh:Stmt:=top 27
theorem Sr:kad ["kind", "row", "nought", "place"] ["kind", "row"] (kac Yh):=⟨rfl,rfl,rfl,by decide +kernel,rfl,by decide +kernel,by decide +kernel⟩
abbrev qr:Stmt:=top 28
theorem Sj:kad ["kind", "wholes", "lead"] ["kind", "wholes"] (kac qr):=⟨rfl,rfl,rfl,by decide +kernel,rfl,by decide +kernel,by decide +kernel⟩
abbrev YD:Stmt:=top 29
theorem So:kad ["kind", "rows", "wholes"] ["kind", "rows"] (kac YD):=⟨rfl,rfl,rfl,by decide +kernel,rfl,by decide +kernel,by decide +kernel⟩
abbrev zdZ:Stmt:=top 30
theorem SB:kad ["kind", "table", "size", "units", "rows"] ["kind", "table"] (kac zdZ):=⟨rfl,rfl,rfl,by decide +kernel,rfl,by decide +kernel,by decide +kernel⟩
abbrev qv:Stmt:=top 32
theorem Sg:kad ["kind", "machine", "T", "S", "A"] ["kind", "machine", "T", "S"] (kac qv):=⟨rfl,rfl,rfl,by decide +kernel,rfl,by decide +kernel,by decide +kernel⟩
abbrev XT:Stmt:=top 35
theorem ze2:kad ["kind", "one", "other"] ["kind", "one", "other"] (kac XT):=⟨rfl,rfl,rfl,by decide +kernel,rfl,by decide +kernel,by decide +kernel⟩
abbrev jM:Stmt:=top 36
theorem Sb:kad ["kind", "n", "rows", "free", "told", "row"] ["kind", "n", "rows", "free"] (kac jM):=⟨rfl,rfl,rfl,by decide +kernel,rfl,by decide +kernel,by decide +kernel⟩
abbrev Yd:Stmt:=top 37
theorem Sn:kad ["kind", "n", "room", "rows", "leads"] ["kind", "n", "room"] (kac Yd):=⟨rfl,rfl,rfl,by decide +kernel,rfl,by decide +kernel,by decide +kernel⟩
abbrev zhy:Stmt:=top 38
theorem zke:kad ["kind", "n", "one", "other"] ["kind", "n", "one", "other"] (kac zhy):=⟨rfl,rfl,rfl,by decide +kernel,rfl,by decide +kernel,by decide +kernel⟩
abbrev YM:Stmt:=top 39
theorem zeL:kad ["kind", "table", "rows", "room"] ["kind", "table", "rows", "room"] (kac YM):=⟨rfl,rfl,rfl,by decide +kernel,rfl,by decide +kernel,by decide +kernel⟩
abbrev jE:Stmt:=top 40
theorem Sc:kad ["kind", "table", "rows", "room", "wider"] ["kind", "table", "rows"] (kac jE):=⟨rfl,rfl,rfl,by decide +kernel,rfl,by decide +kernel,by decide +kernel⟩
abbrev ZJ:Stmt:=top 41
theorem zcK:kad ["table"] ["table"] (kac ZJ):=⟨rfl,rfl,rfl,by decide +kernel,rfl,by decide +kernel,by decide +kernel⟩
abbrev jF:Stmt:=top 42
theorem sZ:kad ["kind", "table", "rows", "n"] ["kind", "table", "rows"] (kac jF):=⟨rfl,rfl,rfl,by decide +kernel,rfl,by decide +kernel,by decide +kernel⟩
abbrev jf:Stmt:=top 44
theorem Qj:kad ["kind", "machine"] ["kind", "machine"] (kac jf):=⟨rfl,rfl,rfl,by decide +kernel,rfl,by decide +kernel,by decide +kernel⟩
abbrev xS:Stmt:=top 46
theorem Jh:kad ["kind", "machine"] ["kind", "machine"] (kac xS):=⟨rfl,rfl,rfl,by decide +kernel,rfl,by decide +kernel,by decide +kernel⟩
abbrev XH:Stmt:=top 48
theorem Su:kad ["kind", "room", "rows", "told", "wide", "row", "wider"] ["kind", "room", "rows"] (kac XH):=⟨rfl,rfl,rfl,by decide +kernel,rfl,by decide +kernel,by decide +kernel⟩
abbrev qP:Stmt:=top 49
theorem Sh:kad ["kind", "machine", "n", "steered", "unseen", "both", "others"] ["kind", "machine"] (kac qP):=⟨rfl,rfl,rfl,by decide +kernel,rfl,by decide +kernel,by decide +kernel⟩
abbrev YJ:Stmt:=top 50
theorem Ss:kad ["kind", "machine", "four", "T"] ["kind", "machine"] (kac YJ):=⟨rfl,rfl,rfl,by decide +kernel,rfl,by decide +kernel,by decide +kernel⟩
abbrev zdH:Stmt:=top 51
theorem SC:kad ["kind", "machine", "parts", "start", "end"] ["kind", "machine"] (kac zdH):=⟨rfl,rfl,rfl,by decide +kernel,rfl,by decide +kernel,by decide +kernel⟩
abbrev jR:Stmt:=top 53
theorem zan:kad ["_law_found"] ["_law_found"] (kac jR):=⟨rfl,rfl,rfl,by decide +kernel,rfl,by decide +kernel,by decide +kernel⟩
abbrev xN:Stmt:=top 54
theorem sG:kad ["_law_one", "_law_other"] ["_law_one", "_law_other"] (kac xN):=⟨rfl,rfl,rfl,by decide +kernel,rfl,by decide +kernel,by decide +kernel⟩
abbrev jT:Stmt:=top 55
theorem Sa:kad ["_law_cell", "_law_k", "_law_left", "_law_j", "_law_one"] ["_law_cell", "_law_k"] (kac jT):=⟨rfl,rfl,rfl,by decide +kernel,rfl,by decide +kernel,by decide +kernel⟩
abbrev jS:Stmt:=top 56
theorem zaV:kad ["_law_prime_here", "_law_cell"] ["_law_prime_here", "_law_cell"] (kac jS):=⟨rfl,rfl,rfl,by decide +kernel,rfl,by decide +kernel,by decide +kernel⟩
abbrev xG:Stmt:=top 57
theorem sv:kad ["_law_top", "_law_bottom", "_law_by"] ["_law_top", "_law_bottom"] (kac xG):=⟨rfl,rfl,rfl,by decide +kernel,rfl,by decide +kernel,by decide +kernel⟩
abbrev qC:Stmt:=top 58
theorem zbD:kad ["_law_prime_here", "_law_whole_here"] ["_law_prime_here", "_law_whole_here"] (kac qC):=⟨rfl,rfl,rfl,by decide +kernel,rfl,by decide +kernel,by decide +kernel⟩
abbrev qJ:Stmt:=top 59
theorem zbc:kad ["_law_prime_here", "_law_one", "_law_other"] ["_law_prime_here", "_law_one", "_law_other"] (kac qJ):=⟨rfl,rfl,rfl,by decide +kernel,rfl,by decide +kernel,by decide +kernel⟩
abbrev jP:Stmt:=top 60
theorem zat:kad ["_law_prime_here", "_law_one", "_law_other"] ["_law_prime_here", "_law_one", "_law_other"] (kac jP):=⟨rfl,rfl,rfl,by decide +kernel,rfl,by decide +kernel,by decide +kernel⟩
abbrev jN:Stmt:=top 61
theorem zaM:kad ["_law_prime_here", "_law_one", "_law_other"] ["_law_prime_here", "_law_one", "_law_other"] (kac jN):=⟨rfl,rfl,rfl,by decide +kernel,rfl,by decide +kernel,by decide +kernel⟩
abbrev xt:Stmt:=top 62
theorem YV:kad ["_law_prime_here", "_law_found"] ["_law_prime_here", "_law_found"] (kac xt):=⟨rfl,rfl,rfl,by decide +kernel,rfl,by decide +kernel,by decide +kernel⟩
abbrev jW:Stmt:=top 63
theorem Sd:kad ["_law_prime_here", "_law_table", "_law_column", "_law_told", "_law_row", "_law_one", "_law_j"] ["_law_prime_here", "_law_table", "_law_column"] (kac jW):=⟨rfl,rfl,rfl,by decide +kernel,rfl,by decide +kernel,by decide +kernel⟩
abbrev jn:Stmt:=top 64
theorem Qi:kad ["_law_table"] ["_law_table"] (kac jn):=⟨rfl,rfl,rfl,by decide +kernel,rfl,by decide +kernel,by decide +kernel⟩
abbrev xU:Stmt:=top 65
theorem Jj:kad ["_law_prime_here", "_law_one", "_law_other"] ["_law_prime_here", "_law_one", "_law_other"] (kac xU):=⟨rfl,rfl,rfl,by decide +kernel,rfl,by decide +kernel,by decide +kernel⟩
abbrev jq:Stmt:=top 66
theorem sQ:kad ["_law_prime_here", "_law_found", "_law_many", "_law_one"] ["_law_prime_here", "_law_found", "_law_many"] (kac jq):=⟨rfl,rfl,rfl,by decide +kernel,rfl,by decide +kernel,by decide +kernel⟩
abbrev xR:Stmt:=top 67
theorem Jg:kad ["_law_prime_here", "_law_found", "_law_rows", "_law_columns"] ["_law_prime_here", "_law_found", "_law_rows", "_law_columns"] (kac xR):=⟨rfl,rfl,rfl,by decide +kernel,rfl,by decide +kernel,by decide +kernel⟩
abbrev qG:Stmt:=top 68
theorem Si:kad ["_law_prime_here", "_law_one", "_law_told", "_law_left"] ["_law_prime_here", "_law_one"] (kac qG):=⟨rfl,rfl,rfl,by decide +kernel,rfl,by decide +kernel,by decide +kernel⟩
abbrev xX:Stmt:=top 69
theorem sJ:kad ["_law_prime_here", "_law_rows", "_law_nought", "_law_left", "_law_told", "_law_at_here", "_law_some", "_law_first", "_law_by"] ["_law_prime_here", "_law_rows"] (kac xX):=⟨rfl,rfl,rfl,by decide +kernel,rfl,by decide +kernel,by decide +kernel⟩
abbrev xB:Stmt:=top 70
theorem sY:kad ["_law_cell", "_law_primes"] ["_law_cell"] (kac xB):=⟨rfl,rfl,rfl,by decide +kernel,rfl,by decide +kernel,by decide +kernel⟩
abbrev Yk:Stmt:=top 71
theorem zeH:kad ["_law_prime_here", "_law_cells", "_law_k"] ["_law_prime_here", "_law_cells", "_law_k"] (kac Yk):=⟨rfl,rfl,rfl,by decide +kernel,rfl,by decide +kernel,by decide +kernel⟩
abbrev jV:Stmt:=top 72
theorem Se:kad ["_law_prime_here", "_law_cells", "_law_k", "_law_one"] ["_law_prime_here", "_law_cells", "_law_k"] (kac jV):=⟨rfl,rfl,rfl,by decide +kernel,rfl,by decide +kernel,by decide +kernel⟩
abbrev jH:Stmt:=top 73
theorem zad:kad ["_law_head", "_law_n", "_law_plain"] ["_law_head", "_law_n", "_law_plain"] (kac jH):=⟨rfl,rfl,rfl,by decide +kernel,rfl,by decide +kernel,by decide +kernel⟩
abbrev qE:Stmt:=top 74
theorem zb9:kad ["_law_row", "_law_column"] ["_law_row", "_law_column"] (kac qE):=⟨rfl,rfl,rfl,by decide +kernel,rfl,by decide +kernel,by decide +kernel⟩
abbrev xQ:Stmt:=top 75
theorem sF:kad ["_law_prime_here", "_law_cells", "_law_sizes", "_law_sorts_here", "_law_n", "_law_m", "_law_q", "_law_nought", "_law_tables", "_law_at_here", "_law_rows", "_law_columns", "_law_told", "_law_i", "_law_j", "_law_row"] ["_law_prime_here", "_law_cells", "_law_sizes", "_law_sorts_here"] (kac xQ):=⟨rfl,rfl,rfl,by decide +kernel,rfl,by decide +kernel,by decide +kernel⟩
abbrev xu:Stmt:=top 76
theorem su:kad ["_law_prime_here", "_law_tables", "_law_cell", "_law_n", "_law_i", "_law_j", "_law_c", "_law_table", "_law_hands", "_law_sights_here", "_law_some", "_law_row"] ["_law_prime_here", "_law_tables", "_law_cell"] (kac xu):=⟨rfl,rfl,rfl,by decide +kernel,rfl,by decide +kernel,by decide +kernel⟩
abbrev xO:Stmt:=top 77
theorem sE:kad ["_law_cells", "_law_most", "_law_head", "_law_prime_here", "_law_sizes", "_law_plain", "_law_tables", "_law_at_here", "_law_k"] ["_law_cells", "_law_most"] (kac xO):=⟨rfl,rfl,rfl,by decide +kernel,rfl,by decide +kernel,by decide +kernel⟩
abbrev qB:Stmt:=top 78
theorem zbn:kad ["_law_machine_here"] ["_law_machine_here"] (kac qB):=⟨rfl,rfl,rfl,by decide +kernel,rfl,by decide +kernel,by decide +kernel⟩
abbrev xP:Stmt:=top 79
theorem sH:kad ["_law_prime_here", "_law_machine_here", "_law_table", "_law_hands", "_law_sights_here", "_law_some", "_law_there", "_law_k"] ["_law_prime_here", "_law_machine_here"] (kac xP):=⟨rfl,rfl,rfl,by decide +kernel,rfl,by decide +kernel,by decide +kernel⟩
abbrev jl:Stmt:=top 80
theorem sV:kad ["_law_prime_here", "_law_machine_here", "_law_many", "_law_told", "_law_there", "_law_k"] ["_law_prime_here", "_law_machine_here", "_law_many"] (kac jl):=⟨rfl,rfl,rfl,by decide +kernel,rfl,by decide +kernel,by decide +kernel⟩
abbrev ji:Stmt:=top 81
theorem sO:kad ["_law_prime_here", "_law_rows", "_law_n", "_law_some", "_law_leads", "_law_row", "_law_told", "_law_j", "_law_one", "_law_i"] ["_law_prime_here", "_law_rows", "_law_n"] (kac ji):=⟨rfl,rfl,rfl,by decide +kernel,rfl,by decide +kernel,by decide +kernel⟩
abbrev jJ:Stmt:=top 82
theorem Sf:kad ["_law_prime_here", "_law_machine_here", "_law_many", "_law_told", "_law_there", "_law_k"] ["_law_prime_here", "_law_machine_here", "_law_many"] (kac jJ):=⟨rfl,rfl,rfl,by decide +kernel,rfl,by decide +kernel,by decide +kernel⟩
abbrev jj:Stmt:=top 83
theorem sK:kad ["_law_series", "_law_rows", "_law_columns", "_law_told", "_law_i", "_law_k", "_law_row", "_law_j"] ["_law_series", "_law_rows", "_law_columns"] (kac jj):=⟨rfl,rfl,rfl,by decide +kernel,rfl,by decide +kernel,by decide +kernel⟩
abbrev xg:Stmt:=top 84
theorem sk:kad ["_law_prime_here", "_law_found", "_law_m", "_law_q", "_law_n"] ["_law_prime_here", "_law_found", "_law_m", "_law_q"] (kac xg):=⟨rfl,rfl,rfl,by decide +kernel,rfl,by decide +kernel,by decide +kernel⟩
abbrev zhw:Stmt:=top 85
theorem SD:kad ["_law_script", "_law_cells", "_law_prime_here", "_law_machine_here", "_law_at_here", "_law_n", "_law_handed", "_law_told", "_law_series", "_law_rank", "_law_inner", "_law_table", "_law_row"] ["_law_script"] (kac zhw):=⟨rfl,rfl,rfl,by decide +kernel,rfl,by decide +kernel,by decide +kernel⟩
end KL
namespace KL
open PySem PySem.Spec PyProof.Rows L2
abbrev hx(x:Str)(s:Stmt):Str×Stmt:=(x,s)
def hdX:List (Str×Stmt):=[hx "common_divisor" xw,hx "fraction" ZB,hx "one_over" Zx,hx "number" XI,hx "minus" zar,hx "over" zdp,hx "scaled" XO,hx "quotient" ZC,hx "whole_sum" qu,hx "sum_of_products" yX,hx "eased" zaH,hx "cleared" YH,hx "swept" zaf,hx "noughts" Yl,hx "abreast" Ye,hx "strung" XL,hx "turned" XJ,hx "product" YB,hx "image" zaG,hx "unit" zdf,hx "over_one_bottom" yW,hx "lead_of" Yh,hx "over_lead" qr,hx "reduced" YD,hx "back" zdZ,hx "turned_by" qv,hx "joined" XT,hx "against_by" jM,hx "against" Yd,hx "met" zhy,hx "widened" YM,hx "grown_room" jE,hx "rests_of" ZJ,hx "least_room" jF,hx "unseen_room" jf,hx "steered_room" xS,hx "picked" XH,hx "stretches" qP,hx "parting" YJ,hx "core" zdH,hx "_law_whole" jR,hx "_law_divisor" xN,hx "_law_mixed" jT,hx "_law_drawn" jS,hx "_law_fraction" xG,hx "_law_make" qC,hx "_law_plus" qJ,hx "_law_times" jP,hx "_law_minus" jN,hx "_law_is_number" xt,hx "_law_image" jW,hx "_law_across" jn,hx "_law_product" xU,hx "_law_is_row" jq,hx "_law_is_rows" xR,hx "_law_back" qG,hx "_law_reduced" xX,hx "_law_prime" xB,hx "_law_at" Yk,hx "_law_small" jV,hx "_law_sorts" jH,hx "_law_lets" qE,hx "_law_blocked" xQ,hx "_law_exchanged" xu,hx "_law_machine" xO,hx "_law_copy" qB,hx "_law_steered" xP,hx "_law_sights" jl,hx "_law_kernel" ji,hx "_law_marks" jJ,hx "_law_square" jj,hx "_law_is_machine" xg,hx "law" zhw]
def hdY:List Str:=["abs", "all", "bool", "int", "isinstance", "len", "list", "range", "sorted", "sum", "tuple", "zip"]
def hdZ:List Str:=[]
def hdC:List Str:=["GREAT_PRIME"]
def lk(K:PySem.W.Frag):List (Option (FuncData×Bool×Bool))×List (Option (Option Value))×List (Option Addr)×List (Option Int):=(hdX.map fun x=>fnSh K x.1,hdY.map (PySem.W.nsIn K mainGlobals),hdZ.map (fun _=>none),hdC.map (ctSh K))
def lv:List (Option (FuncData×Bool×Bool))×List (Option (Option Value))×List (Option Addr)×List (Option Int):=(hdX.map fun x=>fnEx x.1 x.2,hdY.map fun _=>some none,hdZ.map fun _=>none,[some 2305843009213693951])
theorem h_ws:PySem.W.Fast.tw9446332074065402090 PySem.Challenge.rw_steermill_k42_whole_cores=true:=by kernel_rfl
theorem h_st(w:World)(os:OsState):(runT PySem.Challenge.rw_steermill_k42_whole_cores.prog 3200 w os).map (statT PySem.Challenge.rw_steermill_k42_whole_cores.prog w)=some true:=by kernel_rfl
theorem h_sn(w:World)(os:OsState):(runT PySem.Challenge.rw_steermill_k42_whole_cores.prog 3200 w os).map (seenT PySem.Challenge.rw_steermill_k42_whole_cores.prog)=some (PySem.W.openGood (lawOnly PySem.Challenge.rw_steermill_k42_whole_cores.prog) (looseOf PySem.Challenge.rw_steermill_k42_whole_cores.prog)):=by kernel_rfl
theorem h_lk(w:World)(os:OsState):(runT PySem.Challenge.rw_steermill_k42_whole_cores.prog 3200 w os).map (fun s=>lk (fragH s.heap))=some lv:=by kernel_rfl
end KL
namespace Nm
inductive Nb where
 | q (r:Rat)
 | z (i:Int)
 deriving DecidableEq
abbrev Tb:=List (List Nb)
def Nb.ok(k:Int):Nb->Prop
 | .q _=>k=0
 | .z i=>k≠0/\0<=i/\i<k
def zinv(k b:Int):Int:=(((vd k.toNat).find? fun(x:Nat)=>decide (k ∣ (x:Int)*b - 1)).getD 0:Nat)
theorem zeK{k b x y:Int}(hx0:0<=x)(hx:x<k)(hy0:0<=y)(hy:y<k)(h1:k ∣ x*b - 1)(h2:k ∣ y*b - 1):x=y:=by
 have h:k ∣ x - y:=by
  have e:x - y=y *(x*b - 1) - x *(y*b - 1):=by grind
  rw[e];exact waN (Ga h1) (Ga h2)
 obtain⟨c,hc⟩:=h
 rcases gx c 0 with h|h
 ·have:k*c<=k *(-1):=uA (by omega) (by omega);omega
 ·rcases gx 0 c with h'|h'
  ·have:k*1<=k*c:=uA (by omega) (by omega);omega
  ·have:c=0:=by omega
   rw[this,Gy]at hc;omega
theorem zgV{k b x:Int}(h0:0<=x)(h1:x<k)(h:k ∣ x*b - 1):zinv k b=x:=by
 unfold zinv;cases e:(vd k.toNat).find? fun(x:Nat)=>decide (k ∣ (x:Int)*b - 1)with
 | none =>
  rw[List.find?_eq_none]at e;have:=e x.toNat (by rw[vp];omega);rw[show((x.toNat:Nat):Int)=x by omega]at this;simp[h]at this
 | some y =>
  have hm:=List.mem_of_find?_eq_some e;rw[vp]at hm;have hp:=List.find?_some e;have hp':k ∣ (y:Int)*b - 1:=by simpa using hp
  show((y:Nat):Int)=x;exact zeK (uO y) (by omega) h0 h1 hp' h
theorem zia{p r:Int}(hp:0<p):∀(n:Nat)(l g ml mg:Int),g.toNat<n->OvInv p r l g ml mg->∃ x,0<=x/\x<p/\p ∣ x*r - 1
 | 0,_,_,_,_,h,_=>absurd h (vI _)
 | n+1,l,g,ml,mg,h,I=>by
  by_cases z:g=0
  ·subst z;exact⟨ml % p,gU _ (by omega),gf _ hp,ziA I hp⟩
  ·exact zia hp n _ _ _ _ (wV (zfI I.g0 z) (by omega)) (zfE I z)
theorem Qt{k b:Int}(h:Pr k)(h0:0<b)(h1:b<k):∃ x,0<=x/\x<k/\k ∣ x*b - 1 :=
 zia (by have:=h.lo;omega) _ _ _ _ _ (uy _) (zdF h h0 h1)
def nnum(k w:Int):Nb:=if k=0 then .q (w:Rat)else .z (w.fmod k)
def nadd(k:Int):Nb->Nb->Nb
 | .q a,.q b=>.q (a+b)
 | .z a,.z b=>.z ((a+b).fmod k)
 | _,_=>.z 0
def nsub(k:Int):Nb->Nb->Nb
 | .q a,.q b=>.q (a - b)
 | .z a,.z b=>.z ((a - b).fmod k)
 | _,_=>.z 0
def nmul(k:Int):Nb->Nb->Nb
 | .q a,.q b=>.q (a*b)
 | .z a,.z b=>.z ((a*b).fmod k)
 | _,_=>.z 0
def ndiv(k:Int):Nb->Nb->Nb
 | .q a,.q b=>.q (a / b)
 | .z a,.z b=>.z ((a*zinv k b).fmod k)
 | _,_=>.z 0
theorem Xq(k a:Int):k ∣ a.fmod k - a:=by
 rw[wa4];refine⟨-(a.fdiv k),?_⟩
 grind
theorem js(r:Rat):(r.den:Int)≠0:=by have:=r.den_nz;omega
theorem den_pos(r:Rat):0 <(r.den:Int):=by have:=r.den_pos;omega
theorem zkh{r:Rat}(h:r≠0):r.num≠0:=fun z=>h (waV.mp z)
end Nm
namespace L2
open PySem PySem.Spec PyProof.Rows
def kaA(cells:List (Str×Addr)):List (Str×NameKind)->List (Str×Addr)->List (Str×Addr)
 | [],acc=>acc
 | (n,k)::r,acc=>if (k == NameKind.free)=true then kaA cells r ((n,(cells.lookup n).getD 0)::acc)else kaA cells r acc
theorem Xd{env:Env}(f:Str×NameKind->List (Str×Addr)->Sem (ForInStep (List (Str×Addr))))
  (hf:∀ name kind cs,f (name,kind) cs=if (kind == NameKind.free)=true then(do let a ← cellOf env name;pure (.yield ((name,a)::cs)))else pure (.yield cs)) :
  ∀(l:List (Str×NameKind))(acc:List (Str×Addr)),(∀ x∈l,x.2=.free->∃ c,env.cells.lookup x.1=some c)->(forIn l acc f:Sem _)=pure (kaA env.cells l acc)
 | [],acc,_=>by rw[List.forIn_nil];rfl
 | (n,k)::r,acc,h=>by
  rw[List.forIn_cons,hf];have hr:∀ x∈r,x.2=.free->∃ c,env.cells.lookup x.1=some c:=fun x hx=>h x (wv _ hx)
  by_cases hk:(k == NameKind.free)=true
  ·obtain⟨c,hc⟩:=h (n,k) wt (by simpa using hk);rw[if_pos hk];have e:cellOf env n=pure c:=by unfold cellOf;rw[hc]
   rw[e];show(forIn r ((n,c)::acc) f:Sem _)=_;rw[Xd f hf r _ hr]
   conv=>rhs;unfold kaA
   rw[if_pos hk,hc]
   rfl
  ·rw[if_neg hk];show(forIn r acc f:Sem _)=_;rw[Xd f hf r _ hr]
   conv=>rhs;unfold kaA
   rw[if_neg hk]
theorem zaF{scope:Scope}{env:Env}(h:∀ x∈scope.names,x.2=.free->∃ c,env.cells.lookup x.1=some c):closureFor scope env=pure (kaA env.cells scope.names []):=by
 simp only[closureFor];rw[Xd (env:=env) _ (fun name kind cs=>by cases hk:kind == NameKind.free <;> simp[hk]) scope.names [] h]
 rfl
theorem Xh{cells:List (Str×Addr)}:∀ {l:List (Str×NameKind)} {acc:List (Str×Addr)} {n:Str} {c:Addr},(∀ x∈l,x.2=.free->∃ c,cells.lookup x.1=some c)->(n,c)∈kaA cells l acc ->
  (n,c)∈acc\/((n,NameKind.free)∈l/\cells.lookup n=some c)
 | [],acc,n,c,_,h=>.inl h
 | (m,k)::r,acc,n,c,hl,h=>by
  have hr:∀ x∈r,x.2=.free->∃ c,cells.lookup x.1=some c:=fun x hx=>hl x (wv _ hx)
  unfold kaA at h
  by_cases hk:(k == NameKind.free)=true
  ·rw[if_pos hk]at h;have hk':k=.free:=by simpa using hk
   subst hk';obtain⟨c',hc'⟩:=hl (m,.free) wt rfl
   rcases Xh hr h with h|⟨h1,h2⟩
   ·rcases wL.mp h with e|h
    ·have hc2:cells.lookup m=some c':=hc';rw[hc2]at e;cases e;exact .inr ⟨wt,hc'⟩
    ·exact .inl h
   ·exact .inr ⟨wv _ h1,h2⟩
  ·rw[if_neg hk]at h
   rcases Xh hr h with h|⟨h1,h2⟩
   ·exact .inl h
   ·exact .inr ⟨wv _ h1,h2⟩
theorem xK{α:Type}:∀ {l:List (Str×α)} {n:Str},(∃ c,(n,c)∈l)->∃ c,l.lookup n=some c
 | [],n,⟨c,h⟩=>nomatch h
 | (m,v)::r,n,⟨c,h⟩=>by
  rw[GO];cases hb:n == m with
  | true=>exact⟨v,rfl⟩
  | false =>
   rcases wL.mp h with e|h
   ·cases e;simp at hb
   ·exact xK ⟨c,h⟩
theorem Xf{cells:List (Str×Addr)}:∀ {l:List (Str×NameKind)} {acc:List (Str×Addr)} {p:Str×Addr},p∈acc->p∈kaA cells l acc
 | [],acc,p,h=>h
 | (m,k)::r,acc,p,h=>by
  unfold kaA
  split
  ·exact Xf (wv _ h)
  ·exact Xf h
theorem Zz{cells:List (Str×Addr)}:∀ {l:List (Str×NameKind)} {acc:List (Str×Addr)} {n:Str},(n,NameKind.free)∈l->∃ c,(n,c)∈kaA cells l acc
 | (m,k)::r,acc,n,h=>by
  unfold kaA
  rcases wL.mp h with e|h
  ·cases e;exact⟨_,Xf wt⟩
  ·split
   ·exact Zz h
   ·exact Zz h
theorem yp:∀(l:List (Str×NameKind))(n:Nat)(acc:List (Str×Addr)),cellsFrom n l acc=cellsFrom n l []++acc
 | [],n,acc=>rfl
 | (m,k)::r,n,acc=>by
  unfold cellsFrom
  split
  ·rw[yp r (n+1) ((m,n)::acc),yp r (n+1) [(m,n)],uW];rfl
  ·exact yp r n acc
theorem qA:∀ {l:List (Str×NameKind)} {n:Nat} {x:Str} {c:Addr},(x,c)∈cellsFrom n l []->(x,NameKind.cell)∈l
 | (m,k)::r,n,x,c,h=>by
  unfold cellsFrom at h
  by_cases hk:(k == NameKind.cell)=true
  ·rw[if_pos hk,yp]at h
   rcases wu.mp h with h|h
   ·exact wv _ (qA h)
   ·have e:(x,c) =(m,n):=by simpa using h
    cases e;have:k=.cell:=by simpa using hk
    subst this;exact wt
  ·rw[if_neg hk]at h;exact wv _ (qA h)
theorem qy:∀ {l:List (Str×NameKind)} {n:Nat} {x:Str},(x,NameKind.cell)∈l->∃ c,(x,c)∈cellsFrom n l []
 | (m,k)::r,n,x,h=>by
  unfold cellsFrom
  rcases wL.mp h with e|h
  ·cases e;rw[if_pos (by decide),yp];exact⟨n,wE _ wt⟩
  ·split
   ·rw[yp];obtain⟨c,hc⟩:=qy (n:=n+1) h;exact⟨c,wH _ hc⟩
   ·exact qy h
def blk(X:Cx)(own fre:List Str)(scope:Scope)(L:Addr)(cells:List (Str×Addr))(s₀:Shared)(H₀:Hp)(ex:List Addr)(pn:List (Addr×Obj)):Cx where
 prog:=X.prog
 w:=X.w
 K:=X.K
 mg:=X.mg
 base:=X.base
 A:=X.A
 N:=own++fre
 s₀:=s₀
 H₀:=H₀
 env:=compEnvC scope cells L X.env
 outer:=X.stack
 stack:=X.stack
 ex:=ex
 fn:=fun x=>own.contains x
 calm:=X.calm
 pn:=pn
 xe:=fun _ _=>False
def bst(own:Nat)(idx:List Nat)(σ:St):St:=wN own none++idx.map fun i=>(σ[i]?).join
structure BlkOk(X:Cx)(own fre:List Str)(idx:List Nat)(scope:Scope):Prop where
 kind:scope.kind=.function
 free:(scope.names.all fun x=>x.2 != .free || (X.env.kindOf x.1 == some .cell || X.env.kindOf x.1 == some .free))=true
 loc:(scope.names.all fun x=>x.2 != .local || scope.names.lookup x.1 == some .local)=true
 ownB:(scope.names.all fun x=>x.2 != .free || !own.contains x.1)=true
 freB:((fre.zip idx).all fun p=>scope.names.lookup p.1 == some .free && X.N[p.2]? == some p.1)=true
 len:fre.length=idx.length
 nd:(scope.names.map (·.1)).Nodup
theorem zjy{l:List (Str×NameKind)}:(l.map (·.1)).Nodup->∀ {x:Str} {k1 k2:NameKind},(x,k1)∈l->(x,k2)∈l->k1=k2:=by
 induction l with
 | nil=>intro _ x k1 k2 h;exact nomatch h
 | cons p r ih =>
  intro nd x k1 k2 h1 h2;rw[gO,gS]at nd
  rcases wL.mp h1 with e1|h1 <;> rcases wL.mp h2 with e2|h2
  ·rw[← e1]at e2;cases e2;rfl
  ·exact absurd (wm.mpr ⟨_,h2,by rw[← e1]⟩) nd.1
  ·exact absurd (wm.mpr ⟨_,h1,by rw[← e2]⟩) nd.1
  ·exact ih nd.2 h1 h2
section
variable{X:Cx}{own fre:List Str}{idx:List Nat}{scope:Scope}{pins:List (Addr×Obj)}{σ:St}{H:Hp}{s:Shared}
theorem BlkOk.freeC(B:BlkOk X own fre idx scope){x:Str×NameKind}(hx:x∈scope.names)(h:x.2=.free):X.env.kindOf x.1=some .cell\/X.env.kindOf x.1=some .free:=by
 have:=uL.mp B.free x hx;rw[h]at this
 simpa using this
theorem BlkOk.cells(B:BlkOk X own fre idx scope)(ok:X.Ok):∀ x∈scope.names,x.2=.free->∃ c,X.env.cells.lookup x.1=some c:=fun x hx h=>ok.has x.1 (B.freeC hx h)
def rl(env:Env)(p:Str×NameKind):Str×NameKind:=if (p.2 == NameKind.free && env.scope.kind == .function && env.kindOf p.1 == some .cell)=true then(p.1,NameKind.cell)else p
theorem zih(env:Env)(p:Str×NameKind):(rl env p).1=p.1:=by unfold rl;split <;> rfl
theorem zin(env:Env)(p:Str×NameKind):(rl env p).2=p.2\/((rl env p).2=.cell/\p.2=.free):=by
 unfold rl
 split
 ·rename_i hc;rw[gA,gA]at hc;exact .inr ⟨rfl,by simpa using hc.1.1⟩
 ·exact .inl rfl
theorem qI{α:Type}(p:Str×α)(r:List (Str×α))(x:Str):(p::r).lookup x=if (x == p.1)=true then some p.2 else r.lookup x:=by
 rw[show p =(p.1,p.2)from rfl,GO];cases x == p.1 <;> rfl
theorem Zk{env:Env}:∀ {l:List (Str×NameKind)} {x:Str} {k:NameKind},(l.map (rl env)).lookup x=some k->(l.lookup x=some k\/(k=.cell/\l.lookup x=some .free))
 | [],x,k,h=>by simp at h
 | p::r,x,k,h=>by
  rw[gO,qI,zih]at h;rw[qI]
  by_cases hx:(x == p.1)=true
  ·rw[if_pos hx]at h ⊢
   rcases zin env p with e|⟨e1,e2⟩
   ·rw[e]at h;exact .inl h
   ·rw[e1]at h;cases h;rw[e2];exact .inr ⟨rfl,rfl⟩
  ·rw[if_neg hx]at h ⊢;exact Zk h
theorem Xs{env:Env}:∀ {l:List (Str×NameKind)} {x:Str},l.lookup x=some .free->(l.map (rl env)).lookup x=some .cell\/(l.map (rl env)).lookup x=some .free
 | [],x,h=>by simp at h
 | p::r,x,h=>by
  rw[qI]at h;rw[gO,qI,zih]
  by_cases hx:(x == p.1)=true
  ·rw[if_pos hx]at h ⊢
   rcases zin env p with e|⟨e1,e2⟩
   ·rw[e];exact .inr h
   ·rw[e1];exact .inl rfl
  ·rw[if_neg hx]at h ⊢;exact Xs h
theorem zdC(B:BlkOk X own fre idx scope)(ok:X.Ok){n:Nat}{x:Str}{c:Addr}(h:(cellsFrom n scope.names (kaA X.env.cells scope.names [])).lookup x=some c) :
  ((x,c)∈cellsFrom n scope.names []/\(x,NameKind.cell)∈scope.names)\/((x,NameKind.free)∈scope.names/\X.env.cells.lookup x=some c):=by
 have h1:=mem_of_lookup h;rw[yp]at h1
 rcases wu.mp h1 with h1|h1
 ·exact .inl ⟨h1,qA h1⟩
 ·rcases Xh (B.cells ok) h1 with h1|h1
  ·exact nomatch h1
  ·exact .inr h1
end
section
variable{prog:Program}{w:World}{A:Around}{E:Value->Shared->Prop}{R:Result->Shared->Prop}{s:Shared}
theorem zbu{elt target iter:Expr}{ifs:List Expr}{scope:Scope}{pos:Pos}{it acc:Value}{env:Env}(I:Nat->Shared->Prop)
  (turn:∀ n s,I n s->wpAny (model prog w) A (pyNext it) (fun r s₁=>match r with
   | none=>R (.ok .next) s₁
   | some v=>wpAny (model prog w) A (letOwnedTupleGo target it v) (fun _ s₂=>wpAny (model prog w) A (assign target env v) (fun _ s₃ =>
     wpAny (model prog w) A (forIn ifs true fun c r=>if r=true then do let ok ← isTrue c env (eval c env);pure (ForInStep.yield ok)else pure (ForInStep.yield r)) (fun ok s₄ =>
      if ok=true then wpAny (model prog w) A (eval elt env) (fun x s₅ =>
       wpAny (model prog w) A (call (.builtin "list.append") [acc,x]) (fun _ s₆=>∃ m,m<n/\I m s₆) (fun _ _=>False) s₅) (fun _ _=>False) s₄
      else ∃ m,m<n/\I m s₄) (fun _ _=>False) s₃) (fun _ _=>False) s₂) (fun _ _=>False) s₁) (fun _ _=>False) s)
  (n:Nat) (h:I n s) :
  codeAny (model prog w) A (.compLoop (.ListComp elt [⟨target,iter,ifs,0⟩] scope pos) 0 it acc env) R s:=by
 refine codeAny_loop rfl I (fun n s hI=>?_) n h;show wpAny _ A ((compTurn (.ListComp elt [⟨target,iter,ifs,0⟩] scope pos) 0 it acc env).onRaise (fun x=>do noteFrame x env;theTreesLotGoes x)) _ _ s;refine wpAny_noted ?_;rw[compTurn_list];refine wpAny_bind (wpAny_standAt (wpAny_bind (wpAny_mono (turn n s hI) (fun r s₁ h₁=>?_) fun _ _ h'=>h'.elim)));cases r with
 | none=>exact wpAny_pure h₁
 | some v =>
  refine wpAny_bind (wpAny_mono h₁ (fun _ s₂ h₂=>?_) fun _ _ h'=>h'.elim);refine wpAny_bind (wpAny_mono h₂ (fun _ s₃ h₃=>wpAny_bind (wpAny_mono h₃ (fun ok s₄ h₄=>?_) fun _ _ h'=>h'.elim)) fun _ _ h'=>h'.elim);cases ok with
  | false=>exact wpAny_pure ⟨rfl,h₄⟩
  | true =>
   exact wpAny_bind (wpAny_bind (wpAny_mono h₄ (fun x s₅ h₅=>wpAny_bind (wpAny_mono h₅ (fun _ s₆ h₆=>wpAny_pure (wpAny_pure ⟨rfl,h₆⟩)) fun _ _ h'=>h'.elim)) fun _ _ h'=>h'.elim))
end
section
variable{X:Cx}{own fre:List Str}{idx:List Nat}{scope:Scope}{pins:List (Addr×Obj)}{σ:St}{H:Hp}{s:Shared}
abbrev bcells(X:Cx)(scope:Scope)(L:Addr):List (Str×Addr):=cellsFrom (L+1) scope.names (kaA X.env.cells scope.names [])
abbrev dictO:Obj:={ cls:=.type "dict",data:=.dict #[] }
theorem zfD{own:Nat}{idx:List Nat}{σ:St}{i:Nat}{v:V}(h:(bst own idx σ)[i]?=some (some v)):∃ j k,i=own+j/\idx[j]?=some k/\σ[k]?=some (some v):=by
 unfold bst at h
 by_cases hi:i<own
 ·rw[vz (by simpa using hi)]at h;rw[uF]at h;rw[if_pos hi]at h;cases h
 ·rw[vv (by simpa using waM hi)]at h;rw[vt,wo]at h;cases e:idx[i - own]? with
  | none=>rw[e]at h;cases h
  | some k =>
   rw[e]at h;refine⟨i - own,k,by omega,e,?_⟩;have h':some ((σ[k]?).join)=some (some v):=h;have h2:=Option.some.inj h';cases e2:σ[k]? with
   | none=>rw[e2]at h2;cases h2
   | some o=>rw[e2]at h2;rw[show o=some v from h2]
theorem zfr(B:BlkOk X own fre idx scope)(I:Inv X pins σ H s){ex:List Addr}(hex:∀ b∈ex,FpOk X pins H b/\b<s.heap.objs.size) :
  Inv (blk X own fre scope s.heap.objs.size (bcells X scope s.heap.objs.size) s H ex (X.pn++pins)) [] (bst own.length idx σ) H { s with heap:=pushCells (s.heap.push dictO) scope.names }:=by
 have ok:=I.ok;have hsz:(s.heap.push dictO).objs.size=s.heap.objs.size+1:=Heap.size_push ..;have keep:∀ b o,s.heap.get? b=some o->(pushCells (s.heap.push dictO) scope.names).get? b=some o:=fun b o e=>pushCells_keeps _ _ b o (Heap.get?_push_of_some _ e)
 have cok:=cellsFrom_ok scope.names (s.heap.push dictO) (s.heap.objs.size+1) [] ⟨fun _ _ hm=>(nomatch hm),List.Pairwise.nil⟩ (by rw[hsz];exact ww _);rw[hsz]at cok;have freeLt:∀ x c,X.env.cells.lookup x=some c->c<s.heap.objs.size:=fun x c e=>let ⟨_,h⟩:=I.cell x c e;h.lt
 have cellC:∀ x c,(bcells X scope s.heap.objs.size).lookup x=some c->(s.heap.objs.size+1<=c/\(pushCells (s.heap.push dictO) scope.names).IsCell c none/\(x,c)∈cellsFrom (s.heap.objs.size+1) scope.names []/\(x,NameKind.cell)∈scope.names)\/(X.env.cells.lookup x=some c/\c<s.heap.objs.size/\(x,NameKind.free)∈scope.names):=fun x c e=>by
  rcases zdC B ok e with⟨h1,h2⟩|⟨h1,h2⟩
  ·exact .inl ⟨(cok.empty x c h1).2,(cok.empty x c h1).1,h1,h2⟩
  ·exact .inr ⟨h2,freeLt x c h2,h1⟩
 have hfs:∀ b∈frs X.stack,b<s.heap.objs.size:=fun b hb=>by
  rcases wL.mp (I.stkSub b hb)with e|hb
  ·rw[e];exact I.lt
  ·obtain⟨_,o,ho,_⟩:=I.ok.funs.mem hb;exact wV (Heap.lt_size ho) I.sz
 have OK:(blk X own fre scope s.heap.objs.size (bcells X scope s.heap.objs.size) s H ex (X.pn++pins)).Ok:=by
  refine⟨ok.mod,B.kind,ok.glob,ok.blt,ww _,?_,?_,?_,ok.hd,ok.frames,.inl rfl,?_,fun b o e=>I.bs b o e,wI ok.bsz I.sz,?_,?_,I.stack,I.stkFree⟩
  ·intro x y c e1 e2
   rcases cellC x c e1 with⟨l1,_,m1,_⟩|⟨f1,l1,_⟩ <;> rcases cellC y c e2 with⟨l2,_,m2,_⟩|⟨f2,l2,_⟩
   ·exact name_of_addr cok.apart m1 m2
   ·exact absurd (wV l2 (GF l1)) (vY _)
   ·exact absurd (wV l1 (GF l2)) (vY _)
   ·exact ok.inj x y c f1 f2
  ·intro x hk;have hk':(relabel scope X.env).names.lookup x=some .cell\/(relabel scope X.env).names.lookup x=some .free:=hk;have hor:(x,NameKind.cell)∈scope.names\/(x,NameKind.free)∈scope.names:=by
    rcases hk' with h|h
    ·rcases Zk h with h|⟨_,h⟩
     ·exact .inl (mem_of_lookup h)
     ·exact .inr (mem_of_lookup h)
    ·rcases Zk h with h|⟨h,_⟩
     ·exact .inr (mem_of_lookup h)
     ·cases h
   refine xK ?_;show ∃ c,(x,c)∈cellsFrom (s.heap.objs.size+1) scope.names (kaA X.env.cells scope.names []);rw[yp]
   rcases hor with h|h
   ·obtain⟨c,hc⟩:=qy (n:=s.heap.objs.size+1) h;exact⟨c,wH _ hc⟩
   ·obtain⟨c,hc⟩:=Zz (cells:=X.env.cells) (acc:=[]) h;exact⟨c,wE _ hc⟩
  ·intro x c hf e
   rcases cellC x c e with⟨l1,_⟩|⟨_,_,m1⟩
   ·show s.heap.objs.size<=c;omega
   ·have:=uL.mp B.ownB _ m1;have hf':own.contains x=true:=hf;rw[hf']at this;simp at this
  ·intro b hb;obtain⟨⟨_,_,_,_,f4,_⟩,hlt⟩:=hex b hb;refine⟨wY hlt,fun x c e=>?_⟩
   rcases cellC x c e with⟨l1,_⟩|⟨f1,_,_⟩
   ·exact Ne.symm (wY (wV hlt (GF l1)))
   ·exact f4 x c f1
  ·intro b o e hb;obtain⟨⟨_,_,_,f3,_,_⟩,_⟩:=hex b hb
   rcases f3 with f3|f3
   ·exact ok.noex b o e f3
   ·exact absurd (Heap.lt_size (ok.bs b o e).1) (Nat.not_lt.mpr f3)
  ·intro b hb hm;obtain⟨⟨_,f1,f2,_⟩,_⟩:=hex b hb
   rcases wL.mp (I.stkSub b hm)with e|hm
   ·exact f1 e
   ·exact f2 hm
 refine⟨OK,rfl,I.bare,Un.kept keep,?_,?_,I.fresh,?_,?_,I.hok.kept keep,?_⟩
 ·refine⟨fun _=>none,(Heap.Ns.new s.heap (.type "dict")).keeps (pushCells_keeps _ _),fun i x v e1 e2 e3=>?_⟩;obtain⟨j,k,rfl,hj,hk⟩:=zfD e2;have e1':(own++fre)[own.length+j]?=some x:=e1;rw[vv (waP _ _),uv]at e1';have hz:(x,k)∈fre.zip idx:=by
   refine List.mem_iff_getElem?.mpr ⟨j,?_⟩;rw[uX];exact⟨e1',hj⟩
  have hq:=uL.mp B.freB _ hz;rw[gA]at hq;have q1:scope.names.lookup x=some .free:=by simpa using hq.1
  have q2:X.N[k]?=some x:=by simpa using hq.2
  have kin:=B.freeC (mem_of_lookup q1) rfl;have vis:Vis X.env.scope x:=.inr kin;obtain⟨m,hn,hl⟩:=I.loc;obtain⟨u,r,look⟩:=hl k x v q2 hk vis;refine⟨u,r,?_⟩;obtain⟨c,hc,hcell⟩ : ∃ c,X.env.cells.lookup x=some c/\s.heap.IsCell c (some u):=by
   rcases look with⟨hk1,_⟩|⟨_,c,e,z⟩
   ·rcases kin with h|h <;>(rw[hk1]at h;cases h)
   ·exact⟨c,e,z⟩
  refine .inr ⟨Xs q1,c,?_,hcell.keeps keep⟩;have hl2:∃ c',(bcells X scope s.heap.objs.size).lookup x=some c':=by
   refine xK ?_;show ∃ c,(x,c)∈cellsFrom (s.heap.objs.size+1) scope.names (kaA X.env.cells scope.names []);rw[yp];obtain⟨c,hc⟩:=Zz (cells:=X.env.cells) (acc:=[]) (mem_of_lookup q1);exact⟨c,wE _ hc⟩
  obtain⟨c',hc'⟩:=hl2
  rcases zdC B ok hc' with⟨_,h2⟩|⟨_,h2⟩
  ·exact nomatch zjy B.nd h2 (mem_of_lookup q1)
  ·rw[hc]at h2;cases h2;exact hc'
 ·intro x c e
  rcases cellC x c e with⟨_,h,_⟩|⟨h,_,_⟩
  ·exact⟨none,h⟩
  ·obtain⟨v,z⟩:=I.cell x c h;exact⟨v,z.keeps keep⟩
 ·intro x c e
  rcases cellC x c e with⟨l,_⟩|⟨h,_,_⟩
  ·exact I.hok.fresh (by omega)
  ·exact I.freeC x c h
 ·intro p hp;rw[vH]at hp;obtain⟨h1,h2,h3,h4,h5⟩:=I.pin p hp;refine⟨keep _ _ h1,h2,wY (Heap.lt_size h1),fun hm=>?_,h5⟩
  rcases wL.mp (I.stkSub p.1 hm)with e|hm
  ·exact h3 e
  ·exact h4 hm
 ·show(bst own.length idx σ).length =(own++fre).length;unfold bst;rw[wy,vt,we,wy,B.len]
theorem zjd{L D:Addr}{cells:List (Str×Addr)}{s₀ s':Shared}{H₀ H':Hp}{fp:List Addr}{pl:List (Addr×Obj)}{σb:St}{ys:List V}{its:List Value}{n:Nat}(I:Inv X pins σ H₀ s₀)(I':Inv (blk X own fre scope L cells s₀ H₀ (D::fp) (X.pn++pins)) pl σb H' s')
  (hfp:∀ b∈fp,FpOk X pins H₀ b) (hD:FpOk X pins H₀ D) (hD':H' D=none) (hv:Vals ys its) (hz:ys.length<=sizeLine) (e:s'.heap.get? D=some { cls:=.type "list",data:=.seq its.toArray n }) :
  Inv X pins σ (upd H' D (.lst ys)) s':=by
 have u:=I'.base;have nD:H₀ D=none:=hD.1;refine I.call' (ch:=D::fp) (H':=upd H' D (.lst ys)) I'.os ⟨u.keep,u.slot,fun b o h1 h2 h3=>?_,u.there,fun b xs h=>?_,fun b o v h=>?_,fun b ps h=>?_⟩ (fun b o h=>?_) I'.bare fun b hb=>?_
 ·rw[zN (fun z=>h3 (by rw[z];exact wt))];exact u.free b o h1 h2 h3
 ·rw[zN (yg h nD)];exact u.tups b xs h
 ·rw[zN (yg h nD)];exact u.frzs b o v h
 ·rw[zN (yg h nD)];exact u.tbls b ps h
 ·by_cases hb:b=D
  ·subst hb;rw[zh]at h;cases h;exact⟨hz,its,n,hv,e⟩
  ·rw[zN hb]at h;exact(I'.hok b o h).stay (fun c v _ q=>q) (fun c q=>by rw[zN (yg q hD')];exact q) fun c xs q=>by rw[zN (yg q hD')];exact q
 ·rcases wL.mp hb with rfl|hb
  ·obtain⟨_,f1,_,f3,f4,f5⟩:=hD;exact⟨f3,f1,f4,f5⟩
  ·obtain⟨_,f1,_,f3,f4,f5⟩:=hfp b hb;exact⟨f3,f1,f4,f5⟩
def GOwn(k:Nat)(g:TG):Prop:=∀ v σ H Q,g v σ H Q->g v σ H fun σ' H'=>Q σ' H'/\σ'.drop k=σ.drop k/\σ'.length=σ.length
def GOwns(k:Nat)(g:TGs):Prop:=∀ v σ H Q,g v σ H Q->g v σ H fun σ' H'=>Q σ' H'/\σ'.drop k=σ.drop k/\σ'.length=σ.length
theorem yB{k i:Nat}(h:i<k):GOwn k (gName i):=fun v σ H Q q=>⟨q,by rw[List.drop_set_of_lt h],vn⟩
theorem qh{k:Nat}:GOwns k gNil:=fun v σ H Q ⟨e,q⟩=>⟨e,q,rfl,rfl⟩
theorem yz{k:Nat}{t:TG}{u:TGs}(ht:GOwn k t)(hm:∀ v σ H Q Q',(∀ σ' H',Q σ' H'->Q' σ' H')->t v σ H Q->t v σ H Q')(hu:GOwns k u):GOwns k (gCons t u):=fun vs σ H Q ⟨v,r,e,q⟩ =>
 ⟨v,r,e,hm _ _ _ _ _ (fun σ' H' ⟨q1,q2,q3⟩=>by
  have q4:=hu _ _ _ _ q1;rw[q2,q3]at q4;exact q4) (ht _ _ _ _ q)⟩
theorem yy{i:Nat}:∀ v σ H (Q Q':St->Hp->Prop),(∀ σ' H',Q σ' H'->Q' σ' H')->gName i v σ H Q->gName i v σ H Q':=fun _ _ _ _ _ h q=>h _ _ q
theorem ZD{K:PySem.W.Frag}{k n:Nat}{t:TGs}(h:GOwns k t):GOwn k (gTup K n t):=fun v σ H Q ⟨a,xs,e,h1,h2,q⟩=>⟨a,xs,e,h1,h2,h _ _ _ _ q⟩
theorem zdx{own:Nat}{idx:List Nat}{σ σ':St}(hd:σ'.drop own =(bst own idx σ).drop own)(i:Nat)(v:V)(h:(bst own idx σ)[i]?=some (some v)):σ'[i]?=some (some v):=by
 obtain⟨j,k,rfl,_,_⟩:=zfD h;rw[← gh,hd,gh];exact h
def tCompW(own:Nat)(idx:List Nat)(wi:TI)(g:TG)(tt:TT)(te:TE)(R:List V->Hp->Prop):St->Hp->Prop:=fun σ H=>wi σ H fun J H1=>∃ W:Nat->Nat->List V->Hp->Prop,(∃ m,W 0 m [] H1)/\∀ i m ys H,W i m ys H ->
 (J.stop i H/\ys.length<=sizeLine/\R ys H) \/
 (J.go i H/\ys.length<sizeLine/\∀ x H',J.yld i H x H'->g x (bst own idx σ) H' fun σ2 H2=>tt σ2 H2 fun b H3=>if b=true then te σ2 H3 fun y H4=>∃ m',m'<m/\W (i+1) m' (ys++[y]) H4 else ∃ m',m'<m/\W (i+1) m' ys H3)
def PTs(Y:Cx)(ifs:List Expr)(t:TT):Prop:=∀(pins:List (Addr×Obj))(s:Shared)(σ:St)(H:Hp)(Q:Bool->Hp->Prop),Inv Y pins σ H s->t σ H Q ->
 wpAny (model Y.prog Y.w) Y.A (forIn ifs true fun c r=>if r=true then do let ok ← isTrue c Y.env (eval c Y.env);pure (ForInStep.yield ok)else pure (ForInStep.yield r)) (TP Y pins σ Q) Y.xe s
def tTrue:TT:=fun _ H Q=>Q true H
theorem zO{Y:Cx}:PTs Y [] tTrue:=fun pins s σ H Q I h=>wpAny_tests_nil ⟨H,I,h⟩
theorem Xe{Y:Cx}{c:Expr}{t:TT}(h:PT Y c t):PTs Y [c] t:=fun pins s σ H Q I hq=>wpAny_tests_one (h pins s σ H Q I hq)
theorem zc7{elt tg iter:Expr}{ifs:List Expr}{pos:Pos}{wi:TI}{g:TG}{tt:TT}{te:TE}{use:Option (Value->Sem Unit)}{R:List V->Hp->Prop}{Q:Value->Shared->Prop}(B:BlkOk X own fre idx scope)(hc:X.calm=true)(hi:PI X tg iter wi)(hg:GOwn own.length g)
  (hb:∀(L:Addr)(cells:List (Str×Addr))(s₀:Shared)(H₀:Hp)(ex:List Addr)(pn:List (Addr×Obj)),PG (blk X own fre scope L cells s₀ H₀ ex pn) tg g/\PTs (blk X own fre scope L cells s₀ H₀ ex pn) ifs tt/\PE (blk X own fre scope L cells s₀ H₀ ex pn) elt te)
  (hs:∀ x,foldedSetIterable iter X.env x=pure x) (I:Inv X pins σ H s) (h:tCompW own.length idx wi g tt te R σ H)
  (hq:∀(ys:List V)(H':Hp)(s':Shared)(L D:Addr)(m:Str->Option Value),R ys H'->H' D=none->Inv X pins σ (upd H' D (.lst ys)) s'->s'.heap.Ns L m->upd H' D (.lst ys) L=none->FpOk X pins (upd H' D (.lst ys)) L ->
   compPost (model X.prog X.w) X.A X.xe use Q (.ref D) L (.ok .next) s') :
  wpAny (model X.prog X.w) X.A (comprehension (.ListComp elt [⟨tg,iter,ifs,0⟩] scope pos) scope X.env (firstIterPos [⟨tg,iter,ifs,0⟩] pos) (newList []) false (eval iter X.env) use) Q X.xe s:=by
 have hnames:∀ x∈scope.names,x.2=.local->scope.names.lookup x.1=some .local:=fun x hx hl=>by
  have:=uL.mp B.loc x hx;rw[hl]at this
  simpa using this
 refine wpAny_comprehension_free (use:=use) rfl hs (zaF (B.cells I.ok)) B.kind hnames (wpAny_mono (hi pins s σ H _ I h) (fun v s1 h1=>wpAny_mono h1 (fun itv s2 h2=>?_) fun _ _ e=>e) fun _ _ e=>e);obtain⟨it,fp,tn,J,H2,rfl,I2,T,st2,f2,W,⟨m0,w0⟩,turn⟩:=h2;refine wpAny_newObj_type ?_;generalize hs3:({ s2 with heap:=s2.heap.push { cls:=.type "list",dict:=none,data:=.seq ([]:List Value).toArray } }:Shared)=s3;have hD3:s3.heap.get? s2.heap.objs.size=some { cls:=.type "list",data:=.seq ([]:List Value).toArray 0 }:=by rw[← hs3];exact Heap.get?_push_size _ rfl
 have keep23:∀ b o,s2.heap.get? b=some o->s3.heap.get? b=some o:=fun b o e=>by rw[← hs3];exact Heap.get?_push_of_some _ e
 have I3:Inv X pins σ H2 s3:=by rw[← hs3];exact I2.kept (t':=s2.toks) fun b o e=>Heap.get?_push_of_some _ e
 have sz3:s3.heap.objs.size=s2.heap.objs.size+1:=by rw[← hs3];exact Heap.size_push ..
 generalize hD:s2.heap.objs.size=D at *;have nD:H2 D=none:=by rw[← hD];exact I2.fresh
 have okD:FpOk X pins H2 D:=I2.fpOk (by rw[hD];exact ww _) nD;have ltfp:∀ b∈fp,b<D:=fun b hb=>by
  obtain⟨o,ho,_⟩:=T.obj _ _ st2 b hb;rw[← hD];exact Heap.lt_size ho
 simp only[newFunctionEnv,Option.isSome_some,if_true];refine wpAny_bind (wpAny_alloc ?_);refine wpAny_bind (wpAny_layCells _ (fun name kind cells=>by cases hkc:kind == NameKind.cell <;> simp[hkc]) _ _ _ _ ?_);refine wpAny_bind (wpAny_pure (wpAny_pure ?_));have hL1:(s3.heap.push dictO).objs.size=s3.heap.objs.size+1:=Heap.size_push ..;have I4:=zfr (ex:=D::fp) B I3 (fun b hb=>by
  rcases wL.mp hb with rfl|hb
  ·exact⟨okD,by rw[sz3];exact uy _⟩
  ·exact⟨f2 b hb,by rw[sz3];exact uY (ltfp b hb)⟩)
 generalize hs4:({ s3 with heap:=pushCells (s3.heap.push dictO) scope.names }:Shared)=s4 at I4;have keep34:∀ b o,s3.heap.get? b=some o->s4.heap.get? b=some o:=fun b o e=>by rw[← hs4];exact pushCells_keeps _ _ b o (Heap.get?_push_of_some _ e)
 generalize hY:blk X own fre scope s3.heap.objs.size (bcells X scope s3.heap.objs.size) s3 H2 (D::fp) (X.pn++pins)=Y at I4;have YA:Y.A=X.A:=by rw[← hY];rfl
 have Yp:Y.prog=X.prog:=by rw[← hY];rfl
 have Yw:Y.w=X.w:=by rw[← hY];rfl
 have YK:Y.K=X.K:=by rw[← hY];rfl
 have Yc:Y.calm=true:=by rw[← hY];exact hc
 have Yx:Y.xe=fun _ _=>False:=by rw[← hY];rfl
 have Yex:Y.ex=D::fp:=by rw[← hY];rfl
 have Ypn:Y.pn=X.pn++pins:=by rw[← hY];rfl
 have YL:Y.env.locals=s3.heap.objs.size:=by rw[← hY];rfl
 have hbY:PG Y tg g/\PTs Y ifs tt/\PE Y elt te:=by rw[← hY];exact hb ..
 have nDY:D≠Y.env.locals:=by rw[YL,sz3];exact wY (uy _)
 have okY:=I4.ok;have fsD:D∉Y.fs:=okY.exfs D (by rw[Yex];exact wt);have pnD:∀ p∈Y.pn,p.1≠D:=by rw[Ypn];exact okD.2.2.2.2.2
 have FO:∀ {H':Hp} {o:Obj},(∀ b∈fp,H' b=none)->∀ b∈fp,FpOk Y [(D,o)] H' b:=fun {H' o} hn b hb=>by
  have m:b∈Y.ex:=by rw[Yex];exact wv _ hb
  refine⟨hn b hb,(okY.exf b m).1,okY.exfs b m,.inl m,(okY.exf b m).2,fun p hp=>?_⟩
  rcases wu.mp hp with hp|hp
  ·rw[Ypn]at hp;exact(f2 b hb).2.2.2.2.2 p hp
  ·have e:p =(D,o):=by simpa using hp
   rw[e];exact Ne.symm (wY (ltfp b hb))
 have pinD:∀ {pl:List (Addr×Obj)} {σ':St} {H':Hp} {s':Shared} {o:Obj},Inv Y pl σ' H' s'->s'.heap.get? D=some o->H' D=none->(∀ v,o.data≠.cell v)->Inv Y [(D,o)] σ' H' s':=fun {pl σ' H' s' o} I' e hn hd=>I'.pins_of fun p hp=>by
  have e':p =(D,o):=by simpa using hp
  subst e';exact⟨e,hn,nDY,fsD,hd⟩
 have loop:codeAny (model X.prog X.w) X.A (.compLoop (.ListComp elt [⟨tg,iter,ifs,0⟩] scope pos) 0 (.ref it) (.ref D) Y.env) (compPost (model X.prog X.w) X.A X.xe use Q (.ref D) s3.heap.objs.size) s4:=by
  refine zbu (fun n s'=>∃ i ys its k H',Inv Y [(D,({ cls:=.type "list",data:=.seq (its:List Value).toArray k }:Obj))] (bst own.length idx σ) H' s'/\tn i s'.heap/\(∀ b∈fp,H' b=none)/\Vals ys its/\ys.length<=sizeLine/\W i n ys H') ?_ m0
   ⟨0,[],[],0,H2,pinD I4 (keep34 _ _ hD3) nD (fun v z=>nomatch z),T.keep _ _ _ st2 fun b _ o e=>keep34 _ _ (keep23 _ _ e),fun b hb=>(f2 b hb).1,.nil,vC _,w0⟩
  rintro n s' ⟨i,ys,its,k,H',I',st',fr',hv,hz,w'⟩
  have pD:=I'.pin _ (wE _ wt)
  rcases turn i n ys H' w' with⟨stop,hl,hR⟩|⟨go,hl,step⟩
  ·have z:=T.done Y Yp Yw YK Yc i _ s' _ H' (fun _ _=>False) I' (FO fr') st' stop;rw[YA]at z;refine thn z fun r s5 ⟨hr,I5⟩=>?_
   subst hr;have pD5:=I5.pin _ (wE _ wt);have I5':=I5;rw[← hY]at I5';have E:=zjd I3 I5' (fun b hb=>f2 b hb) okD pD5.2.1 hv hl pD5.1;obtain⟨m5,hm5,_⟩:=I5.loc;rw[YL]at hm5;have nL:H' s3.heap.objs.size=none:=by rw[← YL];exact I5.free
   have nL':upd H' D (.lst ys) s3.heap.objs.size=none:=by rw[zN (by rw[← YL];exact Ne.symm nDY)];exact nL
   exact hq ys H' s5 _ D m5 hR pD5.2.1 E hm5 nL' (I3.fpOk (ww _) nL')
  ·have z:=T.item Y Yp Yw YK Yc i _ s' _ H' (fun _ _=>False) I' (FO fr') st' go;rw[YA]at z;refine thn z fun r s5 ⟨u,hr,h5⟩=>?_
   subst hr;refine thn h5 fun _ s6 ⟨x,H6,I6,r6,y6,st6,fr6⟩=>?_
   have I6':=I6.pinned (FO fr6) (T.obj _ _ st6);have z7:=hbY.1 _ s6 _ H6 x u _ I6' r6 (hg _ _ _ _ (step x H6 y6));rw[Yp,Yw,YA,Yx]at z7;refine thn z7 fun _ s7 ⟨σ7,H7,I7,q7,d7,l7⟩=>?_
   have z8:=hbY.2.1 _ s7 σ7 H7 _ I7 q7;rw[Yp,Yw,YA,Yx]at z8;refine thn z8 fun ok s8 ⟨H8,I8,q8⟩=>?_
   have tnK:∀ {σ9:St} {H9:Hp} {s9:Shared},Inv Y ([(D,({ cls:=.type "list",data:=.seq its.toArray k }:Obj))]++pinsAt fp s6.heap) σ9 H9 s9->tn (i+1) s9.heap/\∀ b∈fp,H9 b=none:=fun I9 =>
    ⟨T.keep _ _ _ st6 fun b hb o e=>(I9.pin (b,o) (wE _ (wE _ (Zr hb e)))).1,fun b hb=>by
     obtain⟨o,e,d⟩:=T.obj _ _ st6 b hb;exact(I9.pin (b,o) (wE _ (wE _ (Zr hb e)))).2.1⟩
   cases ok with
   | false =>
    rw[if_neg wS]at q8 ⊢;obtain⟨m',hm,w8⟩:=q8;obtain⟨t8,n8⟩:=tnK I8;exact⟨m',hm,i+1,ys,its,k,H8,I8.unpinned.weak l7.symm (zdx d7),t8,n8,hv,hz,w8⟩
   | true =>
    rw[if_pos rfl]at q8 ⊢;have z9:=hbY.2.2 _ s8 σ7 H8 _ I8 q8;rw[Yp,Yw,YA,Yx]at z9;refine thn z9 fun y s9 ⟨v9,H9,I9,r9,m',hm,w9⟩=>?_
    obtain⟨t9,n9⟩:=tnK I9;have pD9:=I9.pin (D,{ cls:=.type "list",data:=.seq its.toArray k }) (wE _ (wH _ wt));refine append_at pD9.1 (fun h10 sb hD10=>?_) (by rw[wQ,← hv.length];exact uh hl);have I9a:Inv Y [] σ7 H9 s9:=I9.pins_of fun p hp=>nomatch hp
    have I10:Inv Y [] σ7 H9 { s9 with heap:=h10 }:=I9a.turned (t':=s9.toks) (it:=D) (fun b o hb e=>sb.extBut b o hb e) pD9.2.1 nDY (.inl (by rw[Yex];exact wt)) (okY.exf D (by rw[Yex];exact wt)).2 (fun p hp=>by
     rw[vH]at hp;exact pnD p hp)
    refine⟨m',hm,i+1,ys++[v9],its++[y],k+1,H9,pinD (I10.weak l7.symm (zdx d7)) ?_ pD9.2.1 (fun v z=>nomatch z),?_,n9,hv.append (.cons r9 .nil),?_,w9⟩
    ·show h10.get? D=_;rw[hD10,List.push_toArray]
    ·exact T.keep _ _ _ t9 fun b hb o e=>sb.extBut b o (wY (ltfp b hb)) e
    ·rw[wy,wah];exact hl
 have goal:codeAny (model X.prog X.w) X.A (.compStart (.ListComp elt [⟨tg,iter,ifs,0⟩] scope pos) 0 (.ref it) (.ref D) Y.env) (compPost (model X.prog X.w) X.A X.xe use Q (.ref D) s3.heap.objs.size) s4 :=
  codeAny_compStart_list loop (T.self X.A 0 s4 _ _ (T.keep _ _ _ st2 fun b _ o e=>keep34 _ _ (keep23 _ _ e)) loop)
 rw[← hY]at goal;have hsz:({ s3 with heap:=s3.heap.push { cls:=.type "dict",data:=.dict #[] } }:Shared).heap.objs.size=s3.heap.objs.size+1:=Heap.size_push ..;rw[hsz]
 first
  | exact goal
  | (rw[← hs4]at goal;exact goal)
end
def tComp(own:Nat)(idx:List Nat)(wi:TI)(g:TG)(tt:TT)(te:TE):TE:=fun σ H Q=>tCompW own idx wi g tt te (fun ys H'=>∀ p,H' p=none->Q (.ref p) (upd H' p (.lst ys))) σ H
section
variable{X:Cx}{scope:Scope}
theorem ZQ{elt tg iter:Expr}{ifs:List Expr}{pos:Pos}{wi:TI}{g:TG}{tt:TT}{te:TE}(own fre:List Str)(idx:List Nat)(B:BlkOk X own fre idx scope)(hc:X.calm=true)(hi:PI X tg iter wi)(hg:GOwn own.length g)
  (hb:∀(L:Addr)(cells:List (Str×Addr))(s₀:Shared)(H₀:Hp)(ex:List Addr)(pn:List (Addr×Obj)),PG (blk X own fre scope L cells s₀ H₀ ex pn) tg g/\PTs (blk X own fre scope L cells s₀ H₀ ex pn) ifs tt/\PE (blk X own fre scope L cells s₀ H₀ ex pn) elt te)
  (hs:∀ x,foldedSetIterable iter X.env x=pure x:=by intro _;rfl):PE X (.ListComp elt [⟨tg,iter,ifs,0⟩] scope pos) (tComp own.length idx wi g tt te):=by
 intro pins s σ H Q I h;rw[eval_ListComp];refine zc7 (use:=none) B hc hi hg hb hs I h fun ys H' s' L D m hR hD I' hn nL fL=>?_
 refine⟨m,hn,fun h' hs'=>?_⟩;obtain⟨f0,f1,f2,f3,f4,f5⟩:=fL;exact⟨.ref D,_,I'.turned (t':=s'.toks) (it:=L) (fun b o hb e=>hs'.extBut b o hb e) f0 f1 f3 f4 f5,rfl,hR D hD⟩
def tAsgC(own:Nat)(idx:List Nat)(wi:TI)(g:TG)(tt:TT)(te:TE)(i:Nat):TS:=fun D σ H=>tCompW own idx wi g tt te (fun ys H'=>∀ p,H' p=none->D.nx (σ.set i (some (.ref p))) (upd H' p (.lst ys))) σ H
theorem ziS{elt tg iter:Expr}{ifs:List Expr}{pos pos' spos:Pos}{wi:TI}{g:TG}{tt:TT}{te:TE}{i:Nat}{x:Str}(hN:X.N.Nodup)(hi':X.N[i]?=some x)(hx:X.env.scope.names.lookup x=some .local)(own fre:List Str)(idx:List Nat)(B:BlkOk X own fre idx scope)(hc:X.calm=true)(hi:PI X tg iter wi)(hg:GOwn own.length g)
  (hb:∀(L:Addr)(cells:List (Str×Addr))(s₀:Shared)(H₀:Hp)(ex:List Addr)(pn:List (Addr×Obj)),PG (blk X own fre scope L cells s₀ H₀ ex pn) tg g/\PTs (blk X own fre scope L cells s₀ H₀ ex pn) ifs tt/\PE (blk X own fre scope L cells s₀ H₀ ex pn) elt te)
  (hsw:swapsWith (.ListComp elt [⟨tg,iter,ifs,0⟩] scope pos) (some (.Name x pos')) spos.line X.env=pure true:=by rfl)
  (hs:∀ x,foldedSetIterable iter X.env x=pure x:=by intro _;rfl):PS X (.Assign [.Name x pos'] (.ListComp elt [⟨tg,iter,ifs,0⟩] scope pos) spos) (tAsgC own.length idx wi g tt te i):=by
 intro pins s σ H D I h;rw[exec_Assign_Name_used _ _ _ _ hsw];refine wpAny_bind (wpAny_standAt (wpAny_bind ?_));show wpAny _ X.A (do let _ ← comprehension (.ListComp elt [⟨tg,iter,ifs,0⟩] scope pos) scope X.env _ (newList []) false (eval iter X.env) (some (assign (.Name x pos') X.env))) _ _ s;refine wpAny_bind (wpAny_mono (zc7 (use:=some (assign (.Name x pos') X.env)) (Q:=fun _ s'=>SP X pins D .next s') B hc hi hg hb hs I h fun ys H' s' L Da m hR hD I' hn nL fL=>?_) (fun _ s' hq=>wpAny_pure (wpAny_pure hq)) fun _ _ e=>e);obtain⟨f0,f1,f2,f3,f4,f5⟩:=fL;show wpAny _ X.A (assign (.Name x pos') X.env (.ref Da)) _ _ _;refine wpAny_assign_Name (zb3 I' hN hi' (.inl hx) (show RelV (.ref Da) (.ref Da)from rfl) (fun s2 I2 ⟨a,sb,ha⟩=>?_) (.inr hx));have hLa:L≠a:=by
  rcases ha with rfl|ha
  ·exact f1
  ·exact Ne.symm (f4 x a ha)
 refine⟨m,hn.sameBut sb hLa,fun h' hs'=>?_⟩;exact⟨_,_,I2.turned (t':=s2.toks) (it:=L) (fun b o hb e=>hs'.extBut b o hb e) f0 f1 f3 f4 f5,hR Da hD⟩
end
end L2
namespace L2
open PySem PySem.Spec PyProof.Rows
mutual
def Rp(H:Hp):PyData->V->Prop
 | .none,v=>v=.non
 | .bool b,v=>v=.bl b
 | .int i,v=>v=.int i
 | .str x,v=>v=.str x
 | .list ds,v=>∃ a xs,v=.ref a/\H a=some (.lst xs)/\Rps H ds xs
 | .tuple ds,v=>∃ a xs,v=.ref a/\H a=some (.tup xs)/\Rps H ds xs
 | .dict _,_=>False
def Rps(H:Hp):List PyData->List V->Prop
 | [],xs=>xs=[]
 | d::ds,xs=>∃ x r,xs=x::r/\Rp H d x/\Rps H ds r
end
mutual
theorem Rp.mono{H H':Hp}(g:Same H H'):∀(d:PyData)(v:V),Rp H d v->Rp H' d v
 | .none,_,h=>by simpa only [Rp] using h
 | .bool _,_,h=>by simpa only [Rp] using h
 | .int _,_,h=>by simpa only [Rp] using h
 | .str _,_,h=>by simpa only [Rp] using h
 | .list ds,v,h=>by
  simp only[Rp]at h ⊢;obtain⟨a,xs,e,h1,h2⟩:=h;exact⟨a,xs,e,g _ _ h1,Rps.mono g ds xs h2⟩
 | .tuple ds,v,h=>by
  simp only[Rp]at h ⊢;obtain⟨a,xs,e,h1,h2⟩:=h;exact⟨a,xs,e,g _ _ h1,Rps.mono g ds xs h2⟩
 | .dict _,_,h=>by simp only[Rp]at h
theorem Rps.mono{H H':Hp}(g:Same H H'):∀(ds:List PyData)(xs:List V),Rps H ds xs->Rps H' ds xs
 | [],xs,h=>by simpa only [Rps] using h
 | d::ds,xs,h=>by
  simp only[Rps]at h ⊢;obtain⟨x,r,e,h1,h2⟩:=h;exact⟨x,r,e,Rp.mono g d x h1,Rps.mono g ds r h2⟩
end
section
variable{X:Cx}{pins:List (Addr×Obj)}{σ:St}{H:Hp}{s:Shared}
mutual
theorem Rp.reads(I:Inv X pins σ H s):∀(d:PyData)(v:V)(u:Value),Rp H d v->RelV v u->∃ as,Reads s.heap u d as
 | .none,v,u,h,r=>by
  simp only[Rp]at h;subst h;cases (show u=Value.none from r);exact⟨_,.none⟩
 | .bool b,v,u,h,r=>by
  simp only[Rp]at h;subst h;cases (show u=Value.bool b from r);exact⟨_,.bool b⟩
 | .int i,v,u,h,r=>by
  simp only[Rp]at h;subst h;obtain⟨t,e⟩:=(show ∃ t,u=Value.int i t from r);subst e;exact⟨_,.int i t⟩
 | .str x,v,u,h,r=>by
  simp only[Rp]at h;subst h;obtain⟨t,e⟩:=(show ∃ t,u=Value.str x t from r);subst e;exact⟨_,.str x t⟩
 | .list ds,v,u,h,r=>by
  simp only[Rp]at h;obtain⟨a,xs,e,h1,h2⟩:=h;subst e;cases (show u=Value.ref a from r);obtain⟨_,its,n,hv,hg⟩:=(show kaB X.prog X.w H s.heap a (.lst xs)from I.hok a _ h1);obtain⟨as,q⟩:=Rps.reads I ds xs its h2 hv;exact⟨_,.list hg rfl rfl q⟩
 | .tuple ds,v,u,h,r=>by
  simp only[Rp]at h;obtain⟨a,xs,e,h1,h2⟩:=h;subst e;cases (show u=Value.ref a from r);obtain⟨_,its,hv,o,hg,hc,n,hd⟩:=(show kaB X.prog X.w H s.heap a (.tup xs)from I.hok a _ h1);obtain⟨as,q⟩:=Rps.reads I ds xs its h2 hv;exact⟨_,.tuple hg hc hd q⟩
 | .dict _,v,u,h,r=>by simp only[Rp]at h
theorem Rps.reads(I:Inv X pins σ H s):∀(ds:List PyData)(xs:List V)(us:List Value),Rps H ds xs->Vals xs us->∃ as,ReadsAll s.heap us ds as
 | [],xs,us,h,r=>by
  simp only[Rps]at h;subst h;cases r;exact⟨_,.nil⟩
 | d::ds,xs,us,h,r=>by
  simp only[Rps]at h;obtain⟨x,rr,e,h1,h2⟩:=h;subst e;cases r with
  | cons r1 r2 =>
   obtain⟨as,q1⟩:=Rp.reads I d x _ h1 r1;obtain⟨bs,q2⟩:=Rps.reads I ds rr _ h2 r2;exact⟨_,.cons q1 q2⟩
end
def rEqD(f:Bool->Bool):R2:=fun x y H Q=>∃ dx dy,Rp H dx x/\Rp H dy y/\dx.canLay0=true/\dy.canLay0=true/\min dx.depth dy.depth<=60/\Q (.bl (f (PyData.eqv dx dy))) H
theorem zdM{k:Nat}(hr:Room k X.A):OpR X (compareOp .Eq) (rEqD id):=by
 intro pins s σ H x y v u Q I rx ry h;obtain⟨dx,dy,h1,h2,l1,l2,hd,q⟩:=h;obtain⟨as,r1⟩:=Rp.reads I dx x v h1 rx;obtain⟨bs,r2⟩:=Rp.reads I dy y u h2 ry;exact SeqAt.compareEq_reads r1 r2 l1 l2 (by have:=hr.units;omega) ⟨.bl _,H,I,rfl,q⟩
theorem Qx{k:Nat}(hr:Room k X.A):OpR X (compareOp .NotEq) (rEqD not):=by
 intro pins s σ H x y v u Q I rx ry h;obtain⟨dx,dy,h1,h2,l1,l2,hd,q⟩:=h;obtain⟨as,r1⟩:=Rp.reads I dx x v h1 rx;obtain⟨bs,r2⟩:=Rp.reads I dy y u h2 ry;exact SeqAt.compareNe_reads r1 r2 l1 l2 (by have:=hr.units;omega) ⟨.bl _,H,I,rfl,q⟩
end
def Itz(K:PySem.W.Frag)(a b:Addr):It :=
 ⟨fun i H=>∃ xs ys x y,SqL K H a xs/\SqL K H b ys/\xs[i]?=some x/\ys[i]?=some y,
   fun i H v H'=>∃ T x y,v=.ref T/\H T=none/\H'=upd H T (.tup [x,y])/\(∀ xs,SqL K H a xs->xs[i]?=some x)/\(∀ ys,SqL K H b ys->ys[i]?=some y),
   fun i H=>∃ xs ys,SqL K H a xs/\SqL K H b ys/\(xs.length<=i\/ys.length<=i)⟩
def ZipAt(z TI TO i1 i2 a b:Addr)(i:Nat)(h:Heap):Prop:=IsZip h z TI TO .none/\IsPair h TI (.ref i1) (.ref i2)/\(∃ u v,IsPair h TO u v)/\h.IsListIter i1 a i/\h.IsListIter i2 b i
theorem zg9{P:Program}{w:World}{K:PySem.W.Frag}{elts:List Expr}{k1:Nat}{pos:Pos}(z TI TO i1 i2 a b:Addr)(D:ZipApart z TI TO i1 i2 a b) :
  Turn P w K (.Tuple elts k1 pos) (Itz K a b) [z,TI,TO,i1,i2] z (ZipAt z TI TO i1 i2 a b) where
 mem:=by simp
 obj:=fun i h st c hc=>by
  obtain⟨hz,hTI,⟨u,v,hTO⟩,⟨o1,e1,_,d1⟩,⟨o2,e2,_,d2⟩⟩:=st;simp only[wL,vD,or_false]at hc
  rcases hc with rfl|rfl|rfl|rfl|rfl
  ·exact⟨_,hz,fun v z=>nomatch z⟩
  ·exact⟨_,hTI,fun v z=>nomatch z⟩
  ·exact⟨_,hTO,fun v z=>nomatch z⟩
  ·exact⟨o1,e1,fun v z=>by rw[d1]at z;cases z⟩
  ·exact⟨o2,e2,fun v z=>by rw[d2]at z;cases z⟩
 keep:=fun i h h' st k=>by
  obtain⟨hz,hTI,⟨u,v,hTO⟩,h1,h2⟩:=st;exact⟨k z (by simp) _ hz,k TI (by simp) _ hTI,⟨u,v,k TO (by simp) _ hTO⟩,h1.at fun o e=>k i1 (by simp) o e,h2.at fun o e=>k i2 (by simp) o e⟩
 item:=by
  intro X hP hw hK hc i pins s σ H E I hf st hg;subst hP hw hK;obtain⟨hz,hTI,⟨u0,v0,hTO⟩,h1,h2⟩:=st;obtain⟨xs,ys,x,y,q1,q2,ex,ey⟩:=hg;obtain⟨its1,rv1,p1,_⟩:=I.list q1;obtain⟨its2,rv2,p2,_⟩:=I.list q2;obtain⟨u,hu,ru⟩:=rv1.get ex;obtain⟨u',hu',ru'⟩:=rv2.get ey;refine wpAny_pyNext_zip_item D hz hTI hTO h1 h2 p1.isList p2.isList (x:=u) (y:=u') (by simpa using hu) (by simpa using hu') fun h' z' TO' i1' i2' T' sz keep=>?_
  refine⟨_,rfl,wpAny_letOwnedTupleGo_zip (s:={ s with heap:=h' }) z' fun h'' z'' sb=>?_⟩;have hlt:∀ c o,s.heap.get? c=some o->c<s.heap.objs.size:=fun c o e=>Heap.lt_size e
  have zlt:=hlt _ _ hz;have TOlt:=hlt _ _ hTO;have TIlt:=hlt _ _ hTI;have i1lt:i1<s.heap.objs.size:=let ⟨o,e,_⟩:=h1;hlt _ _ e
  have i2lt:i2<s.heap.objs.size:=let ⟨o,e,_⟩:=h2;hlt _ _ e
  have fz:=hf z (by simp);have fTO:=hf TO (by simp);have f1:=hf i1 (by simp);have f2:=hf i2 (by simp);have nT:H s.heap.objs.size=none:=I.fresh;have keep2:∀ c o,c≠z->c≠TO->c≠i1->c≠i2->s.heap.get? c=some o->h''.get? c=some o:=fun c o c1 c2 c3 c4 e=>sb.extBut c o c1 (keep c o c1 c2 c3 c4 e)
  have hT:h''.get? s.heap.objs.size=some { cls:=.type "tuple",data:=.seq #[u,u'] }:=sb.extBut _ _ (way zlt) T';have TOK:IsTup h'' s.heap.objs.size [u,u'].toArray:=⟨_,hT,rfl,_,rfl⟩;refine⟨.ref s.heap.objs.size,upd H s.heap.objs.size (.tup [x,y]),?_,rfl,⟨_,x,y,rfl,nT,rfl,fun zs h=>by rw[I.list_inj h q1];exact ex,fun zs h=>by rw[I.list_inj h q2];exact ey⟩,⟨z'',?_,⟨u,u',?_⟩,?_,?_⟩,?_⟩
  ·have nch:∀ c,H c≠none->c≠z/\c≠TO/\c≠i1/\c≠i2:=fun c hc=>⟨fun e=>hc (by rw[e];exact fz.1),fun e=>hc (by rw[e];exact fTO.1),fun e=>hc (by rw[e];exact f1.1),fun e=>hc (by rw[e];exact f2.1)⟩
   refine Inv.step (s:=s) (g':=s.gens) (d':=s.drawn) (t':=s.toks) (ch:=[z,TO,i1,i2]) (h':=h'') I (fun b hb=>?_) (fun b o _ _ hc e _=>?_) (fun b o _ _ hc e _=>⟨o.slots,?_⟩) (fun b o _ e n=>?_) (fun b o hc e=>⟨o,?_⟩) (fun b xs e=>?_) (fun b o v e=>?_) (fun b ps e=>⟨#[],?_⟩) (fun m hm=>?_) (fun b o e=>?_) I.bare
   ·simp only[wL,vD,or_false]at hb
    rcases hb with rfl|rfl|rfl|rfl
    ·exact⟨fz.2.2.2.1,fz.2.1,fz.2.2.2.2.1,fz.2.2.2.2.2⟩
    ·exact⟨fTO.2.2.2.1,fTO.2.1,fTO.2.2.2.2.1,fTO.2.2.2.2.2⟩
    ·exact⟨f1.2.2.2.1,f1.2.1,f1.2.2.2.2.1,f1.2.2.2.2.2⟩
    ·exact⟨f2.2.2.2.1,f2.2.1,f2.2.2.2.2.1,f2.2.2.2.2.2⟩
   ·simp only[wL,vD,or_false,not_or]at hc;exact keep2 b o hc.1 hc.2.1 hc.2.2.1 hc.2.2.2 e
   ·simp only[wL,vD,or_false,not_or]at hc;exact keep2 b o hc.1 hc.2.1 hc.2.2.1 hc.2.2.2 e
   ·rw[zN (wY (Heap.lt_size e))];exact n
   ·simp only[wL,vD,or_false,not_or]at hc;exact keep2 b o hc.1 hc.2.1 hc.2.2.1 hc.2.2.2 e
   ·rw[zN (yg e nT)];exact e
   ·rw[zN (yg e nT)];exact e
   ·rw[zN (yg e nT)];simpa using e
   ·obtain⟨o,es,ep,ho,r⟩:=hm;exact⟨o,es,ep,keep2 _ o (Ne.symm fz.2.1) (Ne.symm fTO.2.1) (Ne.symm f1.2.1) (Ne.symm f2.2.1) ho,r⟩
   ·by_cases hb:b=s.heap.objs.size
    ·subst hb;rw[zh]at e;cases e;exact⟨by show 2<=sizeLine;decide,[u,u'],.cons ru (.cons ru' .nil),TOK⟩
    ·rw[zN hb]at e;refine(I.hok b o e).stay (fun c v hc q=>?_) (fun c q=>by rw[zN (yg q nT)];exact q) fun c xs q=>by rw[zN (yg q nT)];exact q
     have hne:H c≠none:=by
      rcases hc with rfl|hc
      ·rw[e];exact fun z=>nomatch z
      ·rw[hc];exact fun z=>nomatch z
     obtain⟨c1,c2,c3,c4⟩:=nch c hne;exact keep2 c v c1 c2 c3 c4 q
  ·exact sb.extBut _ _ D.TIz (keep _ _ D.TIz D.TITO D.TIi1 D.TIi2 hTI)
  ·exact sb.extBut _ _ D.TOz TO'
  ·exact i1'.at fun o e=>sb.extBut _ _ D.i1z e
  ·exact i2'.at fun o e=>sb.extBut _ _ D.i2z e
  ·intro b hb;rw[zN ?_]
   ·exact(hf b hb).1
   ·simp only[wL,vD,or_false]at hb
    rcases hb with rfl|rfl|rfl|rfl|rfl
    ·exact wY zlt
    ·exact wY TIlt
    ·exact wY TOlt
    ·exact wY i1lt
    ·exact wY i2lt
 done:=by
  intro X hP hw hK hc i pins s σ H E I hf st hg;subst hP hw hK;obtain⟨hz,hTI,⟨u0,v0,hTO⟩,h1,h2⟩:=st;obtain⟨xs,ys,q1,q2,hx⟩:=hg;obtain⟨its1,rv1,p1,_⟩:=I.list q1;obtain⟨its2,rv2,p2,_⟩:=I.list q2;have l1:=rv1.length;have l2:=rv2.length;have fz:=hf z (by simp);have fTO:=hf TO (by simp);have f1:=hf i1 (by simp);have f2:=hf i2 (by simp);refine wpAny_pyNext_zip_end (I.ok.hd hc) D hz hTI hTO h1 h2 p1.isList p2.isList (by
   rcases hx with hx|hx
   ·exact .inl (by simp;omega)
   ·exact .inr (by simp;omega)) fun h' keep=>⟨rfl,?_⟩
  have nch:∀ c,H c≠none->c≠z/\c≠TO/\c≠i1/\c≠i2:=fun c hc=>⟨fun e=>hc (by rw[e];exact fz.1),fun e=>hc (by rw[e];exact fTO.1),fun e=>hc (by rw[e];exact f1.1),fun e=>hc (by rw[e];exact f2.1)⟩
  refine Inv.step (s:=s) (g':=s.gens) (d':=s.drawn) (t':=s.toks) (ch:=[z,TO,i1,i2]) (h':=h') I (fun b hb=>?_) (fun b o _ _ hc e _=>?_) (fun b o _ _ hc e _=>⟨o.slots,?_⟩) (fun b o _ e n=>n) (fun b o hc e=>⟨o,?_⟩) (fun b xs e=>e) (fun b o v e=>e) (fun b ps e=>⟨#[],by simpa using e⟩) (fun m hm=>?_) (fun b o e=>?_) I.bare
  ·simp only[wL,vD,or_false]at hb
   rcases hb with rfl|rfl|rfl|rfl
   ·exact⟨fz.2.2.2.1,fz.2.1,fz.2.2.2.2.1,fz.2.2.2.2.2⟩
   ·exact⟨fTO.2.2.2.1,fTO.2.1,fTO.2.2.2.2.1,fTO.2.2.2.2.2⟩
   ·exact⟨f1.2.2.2.1,f1.2.1,f1.2.2.2.2.1,f1.2.2.2.2.2⟩
   ·exact⟨f2.2.2.2.1,f2.2.1,f2.2.2.2.2.1,f2.2.2.2.2.2⟩
  ·simp only[wL,vD,or_false,not_or]at hc;exact keep b o hc.1 hc.2.1 hc.2.2.1 hc.2.2.2 e
  ·simp only[wL,vD,or_false,not_or]at hc;exact keep b o hc.1 hc.2.1 hc.2.2.1 hc.2.2.2 e
  ·simp only[wL,vD,or_false,not_or]at hc;exact keep b o hc.1 hc.2.1 hc.2.2.1 hc.2.2.2 e
  ·obtain⟨o,es,ep,ho,r⟩:=hm;exact⟨o,es,ep,keep _ o (Ne.symm fz.2.1) (Ne.symm fTO.2.1) (Ne.symm f1.2.1) (Ne.symm f2.2.1) ho,r⟩
  ·refine(I.hok b o e).stay (fun c v hc q=>?_) (fun c q=>q) fun c xs q=>q
   have hne:H c≠none:=by
    rcases hc with rfl|hc
    ·rw[e];exact fun z=>nomatch z
    ·rw[hc];exact fun z=>nomatch z
   obtain⟨c1,c2,c3,c4⟩:=nch c hne;exact keep c v c1 c2 c3 c4 q
 self:=fun _ _ _ _ _ st h=>wpAny_pyIter_zip st.1 h
section
variable{X:Cx}
def iZip(K:PySem.W.Frag)(ta:TA):TI:=fun σ H R=>ta σ H fun vs H1=>∃ a b xs ys,vs=[.ref a,.ref b]/\SqL K H1 a xs/\SqL K H1 b ys/\R (Itz K a b) H1
theorem zjN {a b:Expr} {ta:TA} {p pos:Pos} {elts:List Expr} {k1:Nat} {tpos:Pos} (hg:Gl X "zip") (hm:X.mg "zip" = none) (ha:PA X [a,b] ta) (hs:starEach [a,b] X.env=[(false,eval a X.env),(false,eval b X.env)]:=by rfl) (hs2:starEach [b] X.env=[(false,eval b X.env)]:=by rfl) :
  PI X (.Tuple elts k1 tpos) (.Call (.Name "zip" p) [a,b] [] pos) (iZip X.K ta):=by
 intro pins s σ H R I h;refine wpAny_Call_Name_kw (zb7 I hg hm zkc ?_);refine PyProof.Rows.callWith_type1 (thn (ha pos pins s σ H _ I h) fun us s1 ⟨vs,H1,I1,r1,q1⟩=>?_) (by rw[hs,hs2]) (by rw[hs2];rfl);obtain⟨a1,b1,xs,ys,rfl,h1,h2,q⟩:=q1;obtain⟨u,w',rfl,ra,rb⟩:=Vals.two r1;cases ra;cases rb;obtain⟨its1,rv1,p1,_⟩:=I1.list h1;obtain⟨its2,rv2,p2,_⟩:=I1.list h2;have l1:a1<s1.heap.objs.size:=let ⟨_,e,_⟩:=p1.isList;Heap.lt_size e
 have l2:b1<s1.heap.objs.size:=let ⟨_,e,_⟩:=p2.isList;Heap.lt_size e
 refine call_zip_2 p1.isList p2.isList fun h' hz hTI hTO hi1 hi2 hsz keep=>?_
 have I2:Inv X pins σ H1 { s1 with heap:=h' }:=I1.kept (t':=s1.toks) keep;refine wpAny_pyIter_zip (s:={ s1 with heap:=h' }) hz ?_;refine⟨_,_,_,_,H1,rfl,I2,zg9 _ _ _ _ _ a1 b1 (zipApart_new l1 l2),⟨hz,hTI,⟨_,_,hTO⟩,hi1,hi2⟩,fun b hb=>?_,q⟩;have hb':s1.heap.objs.size<=b:=by
  simp only[wL,vD,or_false]at hb
  rcases hb with rfl|rfl|rfl|rfl|rfl <;> omega
 exact I1.fpOk hb' (I1.hok.fresh hb')
theorem JM(ns:List Int):∀ j,j<=ns.length->preSum (fun i=>ns.getD i 0) j =(ns.take j).sum
 | 0,_=>by simp[preSum]
 | j+1,h=>by
  have hj:j<ns.length:=h;rw[preSum,JM ns j (uh hj),vN hj,waW];simp[waj,hj]
theorem zfQ (hc:X.calm=true):kaC X (.builtin "sum") (fun xs H Q=>∃ p ns,xs=[.ref p]/\SqL X.K H p ((ns:List Int).map V.int)/\Q (.int ns.sum) H):=by
 intro pins s σ H xs us Q I r h;obtain⟨p,ns,rfl,hq,q⟩:=h;obtain⟨u,rfl,ru⟩:=Vals.one r;cases ru;obtain⟨its,rv,pl,_⟩:=I.list hq;have hh:X.A.in1.handled=none:=I.ok.hd hc;have lt:p<s.heap.objs.size:=let ⟨_,e,_⟩:=pl.isList;Heap.lt_size e
 have hl:its.length=ns.length:=by rw[← rv.length,we]
 refine call_sum_walkG (wpAny_pyIter_list pl.isList ?_);refine⟨s.heap.objs.size,_,_,_,_,_,fun i=>ns.getD i 0,rfl,Walks.list hh s.heap.objs.size p (wY lt) its.toArray,⟨⟨_,Heap.get?_push_size _ rfl,rfl,rfl⟩,pl.isList.at fun o e=>Heap.get?_push_of_some _ e⟩,fun b hb=>?_,fun i v hv=>?_,fun h' tk t' keep=>?_⟩
 ·simp only[wL,vD,or_false]at hb
  rcases hb with rfl|rfl
  ·rw[Heap.size_push];exact uy _
  ·rw[Heap.size_push];exact uY lt
 ·have hv':its[i]?=some v:=by simpa using hv
  have hi:i<ns.length:=by rw[← hl];exact(wq.mp hv').1
  obtain⟨u,hu,ru⟩:=rv.get (i:=i) (x:=.int ns[i]) (by rw[wo,wg hi];rfl);rw[hu]at hv';cases hv';obtain⟨t,e⟩:=ru;refine⟨t,?_⟩;rw[e];simp[waj,hi]
 ·have e:preSum (fun i=>ns.getD i 0) its.toArray.size=ns.sum:=by
   rw[wQ,hl,JM ns _ (ww _),vK]
  rw[e];refine⟨.int ns.sum,H,?_,⟨t',rfl⟩,q⟩;exact I.kept (h':=h') (t':=tk) fun b o eb=>keep b o (by simp only[wL,vD,or_false];exact wY (Heap.lt_size eb)) (Heap.get?_push_of_some _ eb)
end
end L2
namespace L2
open PySem PySem.Spec PyProof.Rows Nm
def toD:Nb->PyData
 | .q r=>.tuple [.int r.num,.int (r.den:Int)]
 | .z i=>.int i
def RN(H:Hp)(x:Nb)(v:V):Prop:=Rp H (toD x) v
theorem RN.q{H:Hp}{r:Rat}{v:V}(h:RN H (.q r) v):∃ a,v=.ref a/\H a=some (.tup [.int r.num,.int (r.den:Int)]):=by
 simp only[RN,toD,Rp,Rps]at h;obtain⟨a,xs,e,h1,x,r1,e1,e2,y,r2,e3,e4,e5⟩:=h;subst e5 e4 e3 e2 e1;exact⟨a,e,h1⟩
theorem RN.of_q{H:Hp}{r:Rat}{a:Addr}(h:H a=some (.tup [.int r.num,.int (r.den:Int)])):RN H (.q r) (.ref a):=by
 simp only[RN,toD,Rp,Rps];exact⟨a,_,rfl,h,_,_,rfl,rfl,_,_,rfl,rfl,rfl⟩
theorem RN.z{H:Hp}{i:Int}{v:V}(h:RN H (.z i) v):v=.int i:=by
 simpa only [RN,toD,Rp] using h
theorem RN.of_z{H:Hp}{i:Int}:RN H (.z i) (.int i):=by
 simp only[RN,toD,Rp]
theorem RN.mono{H H':Hp}{x:Nb}{v:V}(h:RN H x v)(g:Same H H'):RN H' x v:=Rp.mono g _ _ h
theorem jz(x:Nb):(toD x).canLay0=true:=by
 cases x <;> rfl
theorem qi(x:Nb):(toD x).depth<=1:=by
 cases x <;> simp[toD,PyData.depth,PyData.depthAll]
theorem ZX(x y:Nb):PyData.eqv (toD x) (toD y)=decide (x=y):=by
 cases x with
 | q r =>
  cases y with
  | q s =>
   show((r.num == s.num) && (((r.den:Int) ==(s.den:Int)) && true))=decide (Nb.q r=Nb.q s)
   by_cases h:r=s
   ·subst h;simp
   ·have h':¬ Nb.q r=Nb.q s:=fun z=>h (Nb.q.inj z)
    rw[decide_eq_false h'];rw[Bool.and_eq_false_iff]
    by_cases h1:r.num=s.num
    ·right
     rw[Bool.and_true];have:¬(r.den:Int) =(s.den:Int):=fun z=>h (Rat.ext h1 (by omega))
     simp[this]
    ·left;simp[h1]
  | z j=>simp[toD,PyData.eqv]
 | z i =>
  cases y with
  | q s=>simp[toD,PyData.eqv]
  | z j =>
   show(i == j)=decide (Nb.z i=Nb.z j)
   by_cases h:i=j
   ·subst h;simp
   ·have h':¬ Nb.z i=Nb.z j:=fun z=>h (Nb.z.inj z)
    rw[decide_eq_false h'];simp[h]
def nsm(n:Nat):Nb->Prop
 | .q r=>Sm n r.num/\Sm n (r.den:Int)
 | .z i=>Sm n i
theorem nsm.mono{m n:Nat}{x:Nb}(h:nsm m x)(hmn:m<=n):nsm n x:=by
 cases x with
 | q r=>exact⟨Sm.mono h.1 hmn,Sm.mono h.2 hmn⟩
 | z i=>exact Sm.mono (show Sm m i from h) hmn
theorem Ji{k i:Int}(h0:0<=i)(h1:i<k)(h9:k<2305843009213693952):Sm 61 i:=by
 unfold Sm;have:(2:Nat)^61=2305843009213693952:=by decide
 omega
theorem zao{t b:Int}(hb:b≠0):((vM t b).den:Int).natAbs<=b.natAbs:=by
 have h:=(XU (t:=t) hb).2;rw[← h,vR (Yz t b)];have e:=uK (Yz t b);have h1:(b / sg t b*sg t b).natAbs=b.natAbs:=by rw[e]
 rw[vB]at h1;have h2:0 <(sg t b).natAbs:=gw.mpr (zgs hb);rw[← h1];exact uG _ h2
theorem QV{t b:Int}(hb:b≠0):(vM t b).num.natAbs<=t.natAbs:=by
 have h:=(XU (t:=t) hb).1;rw[← h,vR (Ys t b)];have e:=uK (Ys t b);have h1:(t / sg t b*sg t b).natAbs=t.natAbs:=by rw[e]
 rw[vB]at h1;have h2:0 <(sg t b).natAbs:=gw.mpr (zgs hb);rw[← h1];exact uG _ h2
theorem qZ{m n:Nat}{t b:Int}(hb:b≠0)(ht:Sm m t)(hs:Sm n b):Sm m (vM t b).num/\Sm n ((vM t b).den:Int):=⟨ht.le (QV hb),hs.le (zao hb)⟩
theorem zfG{k:Int}(hk:k≠0)(k0:0<=k)(a:Int):Nb.ok k (.z (a.fmod k)):=⟨hk,wJ a (by omega),wP a (by omega)⟩
theorem ZW{k:Int}{x y:Nb}(hx:x.ok k)(hy:y.ok k):(k=0/\∃ r s,x=.q r/\y=.q s)\/(k≠0/\∃ i j,x=.z i/\y=.z j/\0<=i/\i<k/\0<=j/\j<k):=by
 cases x with
 | q r =>
  cases y with
  | q s=>exact .inl ⟨hx,r,s,rfl,rfl⟩
  | z j=>exact absurd (show k=0 from hx) hy.1
 | z i =>
  cases y with
  | q s=>exact absurd (show k=0 from hy) hx.1
  | z j=>exact .inr ⟨hx.1,i,j,rfl,rfl,hx.2.1,hx.2.2,hy.2.1,hy.2.2⟩
section
variable{k:Int}{x y:Nb}
theorem JF(k0:0<=k)(hx:x.ok k)(hy:y.ok k):(nsub k x y).ok k:=by
 rcases ZW hx hy with⟨h,r,s,rfl,rfl⟩|⟨h,i,j,rfl,rfl,_⟩
 ·exact h
 ·exact zfG h k0 _
theorem zcp(k0:0<=k)(hx:x.ok k)(hy:y.ok k):(nmul k x y).ok k:=by
 rcases ZW hx hy with⟨h,r,s,rfl,rfl⟩|⟨h,i,j,rfl,rfl,_⟩
 ·exact h
 ·exact zfG h k0 _
theorem zjQ{n:Nat}(hk:kab k)(h:k≠0)(hn:61<=n)(a:Int):nsm n (.z (a.fmod k)):=by
 have hl:=hk.lt;have h0:=wJ a (show 0<k by omega);have h1:=wP a (show 0<k by omega);exact(Ji h0 h1 hl.2).mono hn
theorem qt(r s:Rat):(r.den:Int) *(s.den:Int)≠0:=gW (js r) (js s)
theorem zja{m:Nat}(hk:kab k)(hx:x.ok k)(hy:y.ok k)(sx:nsm m x)(sy:nsm m y)(hm:61<=m):nsm (m+m) (nmul k x y):=by
 rcases ZW hx hy with⟨h,r,s,rfl,rfl⟩|⟨h,i,j,rfl,rfl,_⟩
 ·show Sm _ (r*s).num/\Sm _ ((r*s).den:Int);rw[← zcJ];exact qZ (qt r s) (sx.1.mul sy.1) (sx.2.mul sy.2)
 ·exact zjQ hk h (by omega) _
end
end L2
namespace L2
open PySem PySem.Spec PyProof.Rows Nm
section
variable{α β:Type}{R S:α->β->Prop}
theorem zk:∀ {xs:List α} {ys:List β},Paired R xs ys->xs.length=ys.length
 | _,_,.nil=>rfl
 | _,_,.cons _ t=>congrArg (·+1) (zk t)
theorem xZ(f:∀ a b,R a b->S a b):∀ {xs:List α} {ys:List β},Paired R xs ys->Paired S xs ys
 | _,_,.nil=>.nil
 | _,_,.cons r t=>.cons (f _ _ r) (xZ f t)
theorem qU:∀ {xs xs':List α} {ys ys':List β},Paired R xs ys->Paired R xs' ys'->Paired R (xs++xs') (ys++ys')
 | _,_,_,_,.nil,s=>s
 | _,_,_,_,.cons r t,s=>.cons r (qU t s)
theorem yj{xs:List α}{ys:List β}{a:α}{b:β}(h:Paired R xs ys)(r:R a b):Paired R (xs++[a]) (ys++[b]):=qU h (.cons r .nil)
theorem yH:∀ {xs:List α} {ys:List β} {i:Nat} {a:α},Paired R xs ys->xs[i]?=some a->∃ b,ys[i]?=some b/\R a b
 | _,_,_,_,.nil,e=>by simp at e
 | _,_,0,_,.cons r _,e=>by simp at e;subst e;exact⟨_,rfl,r⟩
 | _,_,i+1,a,.cons _ t,e=>by
  obtain⟨b,h1,h2⟩:=yH (i:=i) (a:=a) t (by simpa using e);exact⟨b,by simpa using h1,h2⟩
theorem yh:∀ {xs:List α} {ys:List β} {i:Nat} {b:β},Paired R xs ys->ys[i]?=some b->∃ a,xs[i]?=some a/\R a b
 | _,_,_,_,.nil,e=>by simp at e
 | _,_,0,_,.cons r _,e=>by simp at e;subst e;exact⟨_,rfl,r⟩
 | _,_,i+1,b,.cons _ t,e=>by
  obtain⟨a,h1,h2⟩:=yh (i:=i) (b:=b) t (by simpa using e);exact⟨a,by simpa using h1,h2⟩
theorem Ym:∀ {xs:List α} {ys:List β} {b:β},Paired R xs ys->b∈ys->∃ a∈xs,R a b
 | _,_,_,.nil,e=>nomatch e
 | _,_,b,.cons r t,e=>by
  rcases wL.mp e with rfl|e
  ·exact⟨_,wt,r⟩
  ·obtain⟨a,h1,h2⟩:=Ym t e;exact⟨a,wv _ h1,h2⟩
end
theorem zq{α:Type}{l:List α}{i:Nat}{x:α}(h:l[i]?=some x):l.take (i+1)=l.take i++[x]:=by
 obtain⟨hi,e⟩:=wq.mp h;rw[vN hi,e]
def kas(H:Hp)(xs:List Nb)(a:Addr):Prop:=∃ vs,H a=some (.lst vs)/\Paired (RN H) xs vs
def kaf(H:Hp)(M:Tb)(top:Addr)(ras:List Addr):Prop:=H top=some (.lst (ras.map V.ref))/\Paired (kas H) M ras
theorem jC{H H':Hp}(g:Same H H'){xs:List Nb}{vs:List V}(h:Paired (RN H) xs vs):Paired (RN H') xs vs:=xZ (fun _ _ r=>r.mono g) h
theorem kas.mono{H H':Hp}{xs:List Nb}{a:Addr}(h:kas H xs a)(g:Same H H'):kas H' xs a :=
 let ⟨vs,h1,h2⟩:=h
 ⟨vs,g _ _ h1,jC g h2⟩
theorem kaf.mono{H H':Hp}{M:Tb}{top:Addr}{ras:List Addr}(h:kaf H M top ras)(g:Same H H'):kaf H' M top ras:=⟨g _ _ h.1,xZ (fun _ _ r=>r.mono g) h.2⟩
theorem kaf.row{H:Hp}{M:Tb}{top:Addr}{ras:List Addr}{i:Nat}{v:V}(h:kaf H M top ras)(e:(ras.map V.ref)[i]?=some v):∃ xs a,M[i]?=some xs/\ras[i]?=some a/\v=.ref a/\kas H xs a:=by
 rw[wo]at e;obtain⟨a,ha,rfl⟩:=wR.mp e;obtain⟨xs,hx,r⟩:=yh h.2 ha;exact⟨xs,a,hx,ha,rfl,r⟩
def rowD(xs:List Nb):PyData:=.list (xs.map toD)
def tabD(M:Tb):PyData:=.list (M.map rowD)
theorem zf5{H:Hp}:∀ {xs:List Nb} {vs:List V},Paired (RN H) xs vs->Rps H (xs.map toD) vs
 | _,_,.nil=>by simp[Rps]
 | _,_,.cons r t=>by
  simp only[gO,Rps];exact⟨_,_,rfl,r,zf5 t⟩
theorem kas.rp{H:Hp}{xs:List Nb}{a:Addr}(h:kas H xs a):Rp H (rowD xs) (.ref a):=by
 obtain⟨vs,h1,h2⟩:=h;simp only[rowD,Rp];exact⟨a,vs,rfl,h1,zf5 h2⟩
theorem zdG{H:Hp}:∀ {M:Tb} {ras:List Addr},Paired (kas H) M ras->Rps H (M.map rowD) (ras.map V.ref)
 | _,_,.nil=>by simp[Rps]
 | _,_,.cons r t=>by
  simp only[gO,Rps];exact⟨_,_,rfl,r.rp,zdG t⟩
theorem kaf.rp{H:Hp}{M:Tb}{top:Addr}{ras:List Addr}(h:kaf H M top ras):Rp H (tabD M) (.ref top):=by
 simp only[tabD,Rp];exact⟨top,_,rfl,h.1,zdG h.2⟩
theorem ZA{α:Type}(f:α->PyData)(h:∀ x,(f x).canLay0=true):∀ l:List α,PyData.canLayAll0 (l.map f)=true
 | []=>rfl
 | x::r=>by
  show((f x).canLay0 && PyData.canLayAll0 (r.map f))=true;rw[h x,ZA f h r];rfl
theorem jQ{α:Type}(f:α->PyData)(n:Nat)(h:∀ x,(f x).depth<=n):∀ l:List α,PyData.depthAll (l.map f)<=n
 | []=>vC _
 | x::r=>by
  show max (f x).depth (PyData.depthAll (r.map f))<=n;exact Nat.max_le.mpr ⟨h x,jQ f n h r⟩
theorem QZ(xs:List Nb):(rowD xs).canLay0=true:=ZA toD jz xs
theorem Qu(xs:List Nb):(rowD xs).depth<=2:=GP (jQ toD 1 qi xs)
theorem Zs(M:Tb):(tabD M).canLay0=true:=ZA rowD QZ M
theorem qq(M:Tb):(tabD M).depth<=3:=GP (jQ rowD 2 Qu M)
theorem ZG{α:Type}(f:α->PyData)(h:∀ x,PyData.eqv (f x) (f x)=true):∀ l:List α,PyData.eqvAll (l.map f) (l.map f)=true
 | []=>rfl
 | x::r=>by
  show(PyData.eqv (f x) (f x) && PyData.eqvAll (r.map f) (r.map f))=true;rw[h x,ZG f h r];rfl
theorem zd5(x:Nb):PyData.eqv (toD x) (toD x)=true:=by rw[ZX];simp
theorem zfV(xs:List Nb):PyData.eqv (rowD xs) (rowD xs)=true:=ZG toD zd5 xs
theorem YI(M:Tb):PyData.eqv (tabD M) (tabD M)=true:=ZG rowD zfV M
def Nxt(n i:Nat)(J:Prop):Prop:=∃ m',m'<n - i/\m'=n - (i+1)/\i+1<=n/\J
theorem nxt{n i:Nat}{J:Prop}(h:i<n)(j:J):Nxt n i J:=⟨n - (i+1),by omega,rfl,h,j⟩
section
variable{K:PySem.W.Frag}{g:TG}{tt:TT}{te:TE}{R:List V->Hp->Prop}{H:Hp}{σb:St}
theorem zQ{a:Addr}{xs:List V}(J:Nat->List V->Hp->Prop)(h0:J 0 [] H)(hl:∀(i:Nat)(ys:List V)(H':Hp),i<=xs.length->J i ys H'->SqL K H' a xs/\ys.length<sizeLine)
  (hs:∀(i:Nat)(x:V)(ys:List V)(H':Hp),xs[i]?=some x->i<xs.length->J i ys H'->g x σb H' fun σ2 H2=>tt σ2 H2 fun b H3=>if b=true then te σ2 H3 fun y H4=>Nxt xs.length i (J (i+1) (ys++[y]) H4)else Nxt xs.length i (J (i+1) ys H3))
  (hd:∀(ys:List V)(H':Hp),J xs.length ys H'->R ys H') :
  ∃ W:Nat->Nat->List V->Hp->Prop,(∃ m,W 0 m [] H)/\∀ i m ys H,W i m ys H ->
   ((Itl K a).stop i H/\ys.length<=sizeLine/\R ys H) \/
   ((Itl K a).go i H/\ys.length<sizeLine/\∀ x H',(Itl K a).yld i H x H'->g x σb H' fun σ2 H2=>tt σ2 H2 fun b H3=>if b=true then te σ2 H3 fun y H4=>∃ m',m'<m/\W (i+1) m' (ys++[y]) H4 else ∃ m',m'<m/\W (i+1) m' ys H3):=by
 refine⟨fun i m ys H=>m=xs.length - i/\i<=xs.length/\J i ys H,⟨xs.length,by simp,vC _,h0⟩,?_⟩
 rintro i m ys H1 ⟨rfl,hi,j⟩
 obtain⟨q,hz⟩:=hl i ys H1 hi j
 by_cases hlt:i<xs.length
 ·refine .inr ⟨⟨xs,xs[i],q,by simp[hlt]⟩,hz,fun x H' y=>?_⟩;obtain⟨e,y⟩:=y;subst e;exact hs i x ys _ (y xs q) hlt j
 ·have e:i=xs.length:=by omega
  subst e;exact .inl ⟨⟨xs,q,ww _⟩,uh hz,hd ys H1 j⟩
theorem yG{lo:Int}{n:Nat}(J:Nat->List V->Hp->Prop)(h0:J 0 [] H)(hl:∀(i:Nat)(ys:List V)(H':Hp),i<=n->J i ys H'->ys.length<sizeLine)
  (hs:∀(i:Nat)(ys:List V)(H':Hp),i<n->J i ys H'->g (.int (lo+i)) σb H' fun σ2 H2=>tt σ2 H2 fun b H3=>if b=true then te σ2 H3 fun y H4=>Nxt n i (J (i+1) (ys++[y]) H4)else Nxt n i (J (i+1) ys H3))
  (hd:∀(ys:List V)(H':Hp),J n ys H'->R ys H') :
  ∃ W:Nat->Nat->List V->Hp->Prop,(∃ m,W 0 m [] H)/\∀ i m ys H,W i m ys H ->
   ((Itr lo n).stop i H/\ys.length<=sizeLine/\R ys H) \/
   ((Itr lo n).go i H/\ys.length<sizeLine/\∀ x H',(Itr lo n).yld i H x H'->g x σb H' fun σ2 H2=>tt σ2 H2 fun b H3=>if b=true then te σ2 H3 fun y H4=>∃ m',m'<m/\W (i+1) m' (ys++[y]) H4 else ∃ m',m'<m/\W (i+1) m' ys H3):=by
 refine⟨fun i m ys H=>m=n - i/\i<=n/\J i ys H,⟨n,by simp,vC _,h0⟩,?_⟩
 rintro i m ys H1 ⟨rfl,hi,j⟩
 have hz:=hl i ys H1 hi j
 by_cases hlt:i<n
 ·refine .inr ⟨hlt,hz,fun x H' y=>?_⟩;obtain⟨e,y⟩:=y;subst e y;exact hs i ys _ hlt j
 ·have e:i=n:=by omega
  subst e;exact .inl ⟨ww _,uh hz,hd ys H1 j⟩
theorem Zo{a b:Addr}{xs zs:List V}(he:xs.length=zs.length)(J:Nat->List V->Hp->Prop)(h0:J 0 [] H)(hl:∀(i:Nat)(ys:List V)(H':Hp),i<=xs.length->J i ys H'->SqL K H' a xs/\SqL K H' b zs/\ys.length<sizeLine)
  (hs:∀(i:Nat)(x z:V)(T:Addr)(ys:List V)(H':Hp),xs[i]?=some x->zs[i]?=some z->i<xs.length->H' T=none->J i ys H'->g (.ref T) σb (upd H' T (.tup [x,z])) fun σ2 H2=>tt σ2 H2 fun b H3=>if b=true then te σ2 H3 fun y H4=>Nxt xs.length i (J (i+1) (ys++[y]) H4)else Nxt xs.length i (J (i+1) ys H3))
  (hd:∀(ys:List V)(H':Hp),J xs.length ys H'->R ys H') :
  ∃ W:Nat->Nat->List V->Hp->Prop,(∃ m,W 0 m [] H)/\∀ i m ys H,W i m ys H ->
   ((Itz K a b).stop i H/\ys.length<=sizeLine/\R ys H) \/
   ((Itz K a b).go i H/\ys.length<sizeLine/\∀ x H',(Itz K a b).yld i H x H'->g x σb H' fun σ2 H2=>tt σ2 H2 fun b H3=>if b=true then te σ2 H3 fun y H4=>∃ m',m'<m/\W (i+1) m' (ys++[y]) H4 else ∃ m',m'<m/\W (i+1) m' ys H3):=by
 refine⟨fun i m ys H=>m=xs.length - i/\i<=xs.length/\J i ys H,⟨xs.length,by simp,vC _,h0⟩,?_⟩
 rintro i m ys H1 ⟨rfl,hi,j⟩
 obtain⟨q1,q2,hz⟩:=hl i ys H1 hi j
 by_cases hlt:i<xs.length
 ·refine .inr ⟨⟨xs,zs,xs[i],zs[i]'(by omega),q1,q2,by simp[hlt],by simp[show i<zs.length by omega]⟩,hz,fun x H' y=>?_⟩;obtain⟨T,u,v,rfl,hT,rfl,y1,y2⟩:=y;exact hs i u v T ys _ (y1 xs q1) (y2 zs q2) hlt hT j
 ·have e:i=xs.length:=by omega
  subst e;exact .inl ⟨⟨xs,zs,q1,q2,.inl (ww _)⟩,uh hz,hd ys H1 j⟩
end
end L2
namespace La
open Lean.Grind
section
variable{F:Type}[Field F]
inductive Span(S:(Nat->F)->Prop):(Nat->F)->Prop
 | zero:Span S (fun _=>0)
 | step (c:F) {r v:Nat->F} (h:S r) (t:Span S v):Span S (fun j=>c*r j+v j)
variable{S T:(Nat->F)->Prop}{u v:Nat->F}
theorem Span.cast(h:Span S u)(e:∀ j,u j=v j):Span S v:=by
 have:u=v:=funext e;rw[← this];exact h
theorem Span.of(h:S v):Span S v:=(Span.step 1 h .zero).cast fun j=>by grind
theorem Span.add(h:Span S u)(g:Span S v):Span S (fun j=>u j+v j):=by
 induction h with
 | zero=>exact g.cast fun j=>by grind
 | step c hr _ ih=>exact(Span.step c hr ih).cast fun j=>by grind
theorem Span.smul(c:F)(h:Span S v):Span S (fun j=>c*v j):=by
 induction h with
 | zero=>exact Span.zero.cast fun j=>by grind
 | step d hr _ ih=>exact(Span.step (c*d) hr ih).cast fun j=>by grind
theorem Span.lin(a b:F)(h:Span S u)(g:Span S v):Span S (fun j=>a*u j+b*v j):=(h.smul a).add (g.smul b)
theorem Span.bind(f:∀ r,S r->Span T r)(h:Span S v):Span T v:=by
 induction h with
 | zero=>exact .zero
 | step c hr _ ih=>exact((f _ hr).smul c).add ih
theorem Span.mono(f:∀ r,S r->T r)(h:Span S v):Span T v:=h.bind fun r q=>.of (f r q)
theorem Span.all{P:(Nat->F)->Prop}(h:Span S v)(z:P fun _=>0)(s:∀ c r v,S r->P v->P (fun j=>c*r j+v j)):P v:=by
 induction h with
 | zero=>exact z
 | step c hr _ ih=>exact s c _ _ hr ih
theorem Span.zero_at{i:Nat}(h:Span S v)(z:∀ r,S r->r i=0):v i=0 :=
 h.all (P:=fun v=>v i=0) rfl fun c r v hr hv=>by
  show c*r i+v i=0;rw[z r hr,hv];grind
abbrev Pv(F:Type):=Nat×(Nat->F)
def Rows(P:List (Pv F)):(Nat->F)->Prop:=fun r=>∃ p∈P,p.2=r
structure Rr(n:Nat)(P:List (Pv F)):Prop where
 inc:P.Pairwise fun a b=>a.1<b.1
 lt:∀ p∈P,p.1<n
 out:∀ p∈P,∀ j,n<=j->p.2 j=0
 bef:∀ p∈P,∀ j,j<p.1->p.2 j=0
 one:∀ p∈P,p.2 p.1=1
 oth:∀ p∈P,∀ q∈P,p.1≠q.1->p.2 q.1=0
def comb:List (Pv F)->(Nat->F)->Nat->F
 | [],_,_=>0
 | p::P,v,j=>v p.1*p.2 j+comb P v j
theorem zdt(c:F)(u v:Nat->F)(j:Nat):∀ P:List (Pv F),comb P (fun i=>c*u i+v i) j=c*comb P u j+comb P v j
 | []=>by simp only[comb];grind
 | p::P=>by simp only[comb];rw[zdt c u v j P];grind
theorem xn(v:Nat->F)(j:Nat):∀ P:List (Pv F),(∀ p∈P,v p.1*p.2 j=0)->comb P v j=0
 | [],_=>rfl
 | p::P,h=>by
  simp only[comb];rw[h p wt,xn v j P fun q hq=>h q (wv _ hq)];grind
theorem YO(v:Nat->F):∀ P:List (Pv F),Span (Rows P) (comb P v)
 | []=>Span.zero.cast fun _=>rfl
 | p::P=>by
  have h:=(YO v P).mono (T:=Rows (p::P)) fun r ⟨q,hq,e⟩=>⟨q,wv _ hq,e⟩
  exact(Span.step (v p.1) (r:=p.2) (S:=Rows (p::P)) ⟨p,wt,rfl⟩ h).cast fun j=>rfl
theorem XY{v:Nat->F}{p:Pv F}(j:Nat):∀ P:List (Pv F),P.Pairwise (fun a b=>a.1<b.1)->p∈P->v p.1=1->(∀ q∈P,q.1≠p.1->v q.1=0)->comb P v j=p.2 j
 | [],_,h,_,_=>nomatch h
 | q::P,inc,h,h1,h0=>by
  rw[uq]at inc;simp only[comb]
  rcases wL.mp h with e|h
  ·subst e;rw[xn v j P fun r hr=>by rw[h0 r (wv _ hr) (way (inc.1 r hr))];grind];rw[h1];grind
  ·rw[h0 q wt (wY (inc.1 p h)),XY j P inc.2 h h1 fun r hr=>h0 r (wv _ hr)];grind
variable{n:Nat}{P Q:List (Pv F)}
theorem Rr.self(R:Rr n P){p:Pv F}(h:p∈P)(j:Nat):comb P p.2 j=p.2 j:=XY j P R.inc h (R.one p h) fun q hq ne=>R.oth p h q hq (Ne.symm ne)
theorem Rr.comb(R:Rr n P)(h:Span (Rows P) v):∀ j,La.comb P v j=v j:=fun j =>
 h.all (P:=fun v=>La.comb P v j=v j) (xn _ j P fun p _=>by grind) fun c r v ⟨p,hp,e⟩ hv=>by
  rw[zdt,hv,← e,R.self hp j]
theorem Rr.out_of(R:Rr n P)(h:Span (Rows P) v)(j:Nat)(hj:n<=j):v j=0:=h.zero_at fun r ⟨p,hp,e⟩=>by rw[← e];exact R.out p hp j hj
theorem Rr.lead(R:Rr n P){i:Nat}(h:Span (Rows P) v)(z:∀ j,j<i->v j=0)(ne:v i≠0):∃ p∈P,p.1=i:=by
 refine ue fun no=>ne ?_
 rw[← R.comb h i];refine xn _ i P fun p hp=>?_
 rcases waG p.1 i with g|g|g
 ·rw[z p.1 g];grind
 ·exact absurd ⟨p,hp,g⟩ no
 ·rw[R.bef p hp i g];grind
theorem QK:∀ {P Q:List (Pv F)},P.Pairwise (fun a b=>a.1<b.1)->Q.Pairwise (fun a b=>a.1<b.1)->(∀ p∈P,p∈Q)->(∀ q∈Q,q∈P)->P=Q
 | [],[],_,_,_,_=>rfl
 | [],q::_,_,_,_,h=>nomatch h q wt
 | p::_,[],_,_,h,_=>nomatch h p wt
 | p::P,q::Q,hP,hQ,h1,h2=>by
  rw[uq]at hP hQ;have e:p=q:=by
   rcases wL.mp (h1 p wt)with e|m
   ·exact e
   ·rcases wL.mp (h2 q wt)with e|m'
    ·exact e.symm
    ·have:=hP.1 q m';have:=hQ.1 p m;omega
  subst e;rw[QK hP.2 hQ.2 (fun r hr=>?_) (fun r hr=>?_)]
  ·rcases wL.mp (h1 r (wv _ hr))with e|m
   ·subst e;exact absurd (hP.1 r hr) (vY _)
   ·exact m
  ·rcases wL.mp (h2 r (wv _ hr))with e|m
   ·subst e;exact absurd (hQ.1 r hr) (vY _)
   ·exact m
theorem Rr.leads(R:Rr n P)(R':Rr n Q)(sub:∀ v,Span (Rows P) v->Span (Rows Q) v){p:Pv F}(hp:p∈P):∃ q∈Q,q.1=p.1 :=
 R'.lead (sub _ (.of ⟨p,hp,rfl⟩)) (fun j hj=>R.bef p hp j hj) (by rw[R.one p hp];grind)
theorem Rr.mem_of(R:Rr n P)(R':Rr n Q)(s1:∀ v,Span (Rows P) v->Span (Rows Q) v)(s2:∀ v,Span (Rows Q) v->Span (Rows P) v){p:Pv F}(hp:p∈P):p∈Q:=by
 obtain⟨q,hq,e⟩:=R.leads R' s1 hp;have:p=q:=by
  refine Prod.ext e.symm (funext fun j=>?_);rw[← R'.comb (s1 _ (.of ⟨p,hp,rfl⟩)) j];refine XY j Q R'.inc hq (by rw[e];exact R.one p hp) fun r hr ne=>?_
  obtain⟨p',hp',e'⟩:=R'.leads R s2 hr;rw[← e'];exact R.oth p hp p' hp' fun z=>ne (by rw[← e',← z,e])
 rw[this];exact hq
theorem Rr.unique(R:Rr n P)(R':Rr n Q)(s1:∀ v,Span (Rows P) v->Span (Rows Q) v)(s2:∀ v,Span (Rows Q) v->Span (Rows P) v):P=Q :=
 QK R.inc R'.inc (fun _ h=>R.mem_of R' s1 s2 h) fun _ h=>R'.mem_of R s2 s1 h
structure Sw(n c:Nat)(O:(Nat->F)->Prop)(D:List (Pv F))(W:List (Nat->F)):Prop where
 inc:D.Pairwise fun a b=>a.1<b.1
 lt:∀ p∈D,p.1<c
 bef:∀ p∈D,∀ j,j<p.1->p.2 j=0
 one:∀ p∈D,p.2 p.1≠0
 oth:∀ p∈D,∀ q∈D,p.1≠q.1->p.2 q.1=0
 nil:∀ w∈W,∀ j,j<c->w j=0
 to:∀ r,O r->Span (fun r=>Rows D r\/r∈W) r
 fro:∀ r,(Rows D r\/r∈W)->Span O r
theorem zhX(n:Nat)(W:List (Nat->F))(O:(Nat->F)->Prop)(h1:∀ r,O r->Span (·∈W) r)(h2:∀ r∈W,Span O r):Sw n 0 O ([]:List (Pv F)) W where
 inc:=.nil
 lt:=fun p h=>nomatch h
 bef:=fun p h=>nomatch h
 one:=fun p h=>nomatch h
 oth:=fun p h=>nomatch h
 nil:=fun w _ j h=>absurd h (vI j)
 to:=fun r h=>(h1 r h).mono fun _=>.inr
 fro:=fun r h=>h.elim (fun⟨p,hp,_⟩=>nomatch hp) (h2 r)
variable{c:Nat}{O:(Nat->F)->Prop}{D D':List (Pv F)}{W W':List (Nat->F)}
theorem Sw.skip(s:Sw n c O D W)(h:∀ w∈W,w c=0):Sw n (c+1) O D W :=
 { s with
  lt:=fun p hp=>uY (s.lt p hp)
  nil:=fun w hw j hj=>by
   rcases Gb.mp hj with g|g
   ·exact s.nil w hw j g
   ·rw[g];exact h w hw }
def Clr(c:Nat)(l r r':Nat->F):Prop:=(∃ a b:F,a≠0/\∀ j,r' j=a*r j+b*l j)/\r' c=0
theorem Clr.back{l r r':Nat->F}(h:Clr c l r r'){S:(Nat->F)->Prop}(hl:Span S l)(hr:Span S r'):Span S r:=by
 obtain⟨⟨a,b,ha,e⟩,_⟩:=h;exact(hr.lin (1 / a) (-b / a) hl).cast fun j=>by rw[e j];grind
theorem Clr.to{l r r':Nat->F}(h:Clr c l r r'){S:(Nat->F)->Prop}(hl:Span S l)(hr:Span S r):Span S r':=by
 obtain⟨⟨a,b,ha,e⟩,_⟩:=h;exact(hr.lin a b hl).cast fun j=>by rw[e j]
theorem Sw.turn{α:Type}{E:List α}{a b:α->Pv F}(s:Sw n c O (E.map a) W){l:Nat->F}(hl:l∈W)(lc:l c≠0)(hf:∀ e∈E,(b e).1 =(a e).1/\Clr c l (a e).2 (b e).2)
  (hW:∀ w∈W',(w∈W/\w c=0)\/∃ r∈W,Clr c l r w) (hW2:∀ w∈W,w∈W'\/w=l\/∃ w'∈W',Clr c l w w'):Sw n (c+1) O (E.map b++[(c,l)]) W':=by
 have lz:∀ j,j<c->l j=0:=s.nil l hl;have ina:∀ e∈E,a e∈E.map a:=fun e he=>wm.mpr ⟨e,he,rfl⟩
 have alt:∀ e∈E,(a e).1<c:=fun e he=>s.lt _ (ina e he)
 have fz:∀ e∈E,∀ j,j<c->(a e).2 j=0->(b e).2 j=0:=fun e he j hj z=>by
  obtain⟨_,⟨x,y,ha,q⟩,_⟩:=hf e he;rw[q j,z,lz j hj];grind
 have mem:∀ q∈E.map b++[(c,l)],(∃ e∈E,q=b e)\/q =(c,l):=fun q hq=>by
  rcases wu.mp hq with h|h
  ·obtain⟨p,hp,e⟩:=wm.mp h;exact .inl ⟨p,hp,e.symm⟩
  ·exact .inr (wD.mp h)
 have inl:(c,l)∈E.map b++[(c,l)]:=wE _ (wD.mpr rfl);have ind:∀ e∈E,b e∈E.map b++[(c,l)]:=fun e he=>wH _ (wm.mpr ⟨e,he,rfl⟩)
 refine⟨?_,fun q hq=>?_,fun q hq j hj=>?_,fun q hq=>?_,fun q hq q' hq' ne=>?_,fun w hw j hj=>?_,fun r hr=>?_,fun r hr=>?_⟩
 ·rw[waq];refine⟨?_,GY _ _,fun x hx y hy=>?_⟩
  ·have h:=s.inc;rw[uB]at h ⊢;refine h.imp_of_mem fun {x y} hx hy q=>?_
   rw[(hf x hx).1,(hf y hy).1];exact q
  ·obtain⟨p,hp,e⟩:=wm.mp hx;rw[wD.mp hy,← e,(hf p hp).1];exact alt p hp
 ·rcases mem q hq with⟨p,hp,rfl⟩|rfl
  ·rw[(hf p hp).1];exact uY (alt p hp)
  ·exact uy _
 ·rcases mem q hq with⟨p,hp,rfl⟩|rfl
  ·rw[(hf p hp).1]at hj;exact fz p hp j (wbb hj (alt p hp)) (s.bef _ (ina p hp) j hj)
  ·exact lz j hj
 ·rcases mem q hq with⟨p,hp,rfl⟩|rfl
  ·obtain⟨e1,⟨x,y,ha,e⟩,_⟩:=hf p hp;rw[e1,e,lz _ (alt p hp)];have:=s.one _ (ina p hp);intro z
   grind
  ·exact lc
 ·rcases mem q hq with⟨p,hp,rfl⟩|rfl
  ·rcases mem q' hq' with⟨p',hp',rfl⟩|rfl
   ·rw[(hf p hp).1,(hf p' hp').1]at ne;rw[(hf p' hp').1];exact fz p hp _ (alt p' hp') (s.oth _ (ina p hp) _ (ina p' hp') ne)
   ·exact(hf p hp).2.2
  ·rcases mem q' hq' with⟨p',hp',rfl⟩|rfl
   ·rw[(hf p' hp').1];exact lz _ (alt p' hp')
   ·exact absurd rfl ne
 ·rcases hW w hw with⟨h,z⟩|⟨r,hr,⟨⟨x,y,ha,e⟩,z⟩⟩
  ·rcases Gb.mp hj with g|g
   ·exact s.nil w h j g
   ·rw[g];exact z
  ·rcases Gb.mp hj with g|g
   ·rw[e j,s.nil r hr j g,lz j g];grind
   ·rw[g];exact z
 ·refine(s.to r hr).bind fun u hu=>?_
  have L:Span (fun r=>Rows (E.map b++[(c,l)]) r\/r∈W') l:=.of (.inl ⟨_,inl,rfl⟩)
  rcases hu with⟨q,hq,rfl⟩|hu
  ·obtain⟨p,hp,rfl⟩:=wm.mp hq;exact(hf p hp).2.back L (.of (.inl ⟨_,ind p hp,rfl⟩))
  ·rcases hW2 u hu with h|h|⟨w',h,k⟩
   ·exact .of (.inr h)
   ·rw[h];exact L
   ·exact k.back L (.of (.inr h))
 ·have L:Span O l:=s.fro l (.inr hl)
  rcases hr with⟨q,hq,rfl⟩|hr
  ·rcases mem q hq with⟨p,hp,rfl⟩|rfl
   ·exact(hf p hp).2.to L (s.fro _ (.inl ⟨_,ina p hp,rfl⟩))
   ·exact L
  ·rcases hW r hr with⟨h,_⟩|⟨u,hu,k⟩
   ·exact s.fro _ (.inr h)
   ·exact k.to L (s.fro _ (.inr hu))
theorem Sw.done(s:Sw n n O D W)(ow:∀ w∈W,∀ j,n<=j->w j=0)(od:∀ p∈D,∀ j,n<=j->p.2 j=0):Rr n (D.map fun p=>(p.1,fun j=>p.2 j / p.2 p.1)) /\
  (∀ v,Span (Rows (D.map fun p=>(p.1,fun j=>p.2 j / p.2 p.1))) v->Span O v)/\(∀ v,Span O v->Span (Rows (D.map fun p=>(p.1,fun j=>p.2 j / p.2 p.1))) v):=by
 have wz:∀ w∈W,∀ j,w j=0:=fun w hw j=>by
  rcases wO j n with g|g
  ·exact s.nil w hw j g
  ·exact ow w hw j g
 refine⟨⟨?_,fun q hq=>?_,fun q hq j hj=>?_,fun q hq j hj=>?_,fun q hq=>?_,fun q hq q' hq' ne=>?_⟩,fun v hv=>?_,fun v hv=>?_⟩
 ·rw[uB];exact s.inc
 ·obtain⟨p,hp,rfl⟩:=wm.mp hq;exact s.lt p hp
 ·obtain⟨p,hp,rfl⟩:=wm.mp hq;show p.2 j / p.2 p.1=0;rw[od p hp j hj];grind
 ·obtain⟨p,hp,rfl⟩:=wm.mp hq;show p.2 j / p.2 p.1=0;rw[s.bef p hp j hj];grind
 ·obtain⟨p,hp,rfl⟩:=wm.mp hq;show p.2 p.1 / p.2 p.1=1;have:=s.one p hp
  grind
 ·obtain⟨p,hp,rfl⟩:=wm.mp hq;obtain⟨p',hp',rfl⟩:=wm.mp hq';show p.2 p'.1 / p.2 p.1=0;rw[s.oth p hp p' hp' ne];grind
 ·refine hv.bind fun r ⟨q,hq,e⟩=>?_
  obtain⟨p,hp,rfl⟩:=wm.mp hq;rw[← e];exact((s.fro p.2 (.inl ⟨p,hp,rfl⟩)).smul (1 / p.2 p.1)).cast fun j=>by grind
 ·refine(hv.bind s.to).bind fun r hr=>?_
  rcases hr with⟨p,hp,rfl⟩|hr
  ·have:=s.one p hp;have h:Span (Rows (D.map fun p=>(p.1,fun j=>p.2 j / p.2 p.1))) (fun j=>p.2 j / p.2 p.1):=Span.of ⟨_,wm.mpr ⟨p,hp,rfl⟩,rfl⟩;exact(h.smul (p.2 p.1)).cast fun j=>by grind
  ·exact Span.zero.cast fun j=>(wz r hr j).symm
end
end La
namespace La
open Lean.Grind Nm
def ι{F:Type}[CommRing F](w:Int):F:=(Ring.intCast:IntCast F).intCast w
section
variable{F:Type}[CommRing F]
theorem ι_add(x y:Int):(ι (x+y):F)=ι x+ι y:=Ring.intCast_add x y
theorem ι_mul(x y:Int):(ι (x*y):F)=ι x*ι y:=Ring.intCast_mul x y
theorem ι_sub(x y:Int):(ι (x - y):F)=ι x - ι y:=Ring.intCast_sub x y
theorem ι_zero:(ι 0:F)=0:=Ring.intCast_zero
theorem ι_one:(ι 1:F)=1:=Ring.intCast_one
end
structure Kf(k:Int)(F:Type)[Field F] where
 to:Nb->F
 of:F->Nb
 ok:∀ x,(of x).ok k
 to_of:∀ x,to (of x)=x
 of_to:∀ x,x.ok k->of (to x)=x
 add:∀ {x y},x.ok k->y.ok k->to (nadd k x y)=to x+to y
 sub:∀ {x y},x.ok k->y.ok k->to (nsub k x y)=to x - to y
 mul:∀ {x y},x.ok k->y.ok k->to (nmul k x y)=to x*to y
 div:∀ {x y},x.ok k->y.ok k->y≠nnum k 0->to (ndiv k x y)=to x / to y
 num:∀ w:Int,to (nnum k w)=ι w
 zero:∀ w:Int,(ι w:F)=0↔k ∣ w
 rat:∀ r:Rat,k=0->to (.q r)*ι (r.den:Int)=ι r.num
 rest:∀ i:Int,k≠0->to (.z i)=ι i
def zpw{F:Type}[CommRing F](inv:F->F)(a:F):Int->F
 | .ofNat n=>a^n
 | .negSucc n=>inv (a^(n+1))
@[reducible] noncomputable def fieldOf {F:Type} [CommRing F] (h01:(0:F)≠1) (hinv:∀ a:F,∃ b:F,(a=0->b=0)/\(a≠0->a*b=1)):Field F :=
 have un:∀ a b c:F,a*b=1->a*c=1->b=c:=fun a b c h1 h2=>by
  have:b=b *(a*c):=by rw[h2];grind
  have:c=c *(a*b):=by rw[h1];grind
  grind
 let inv:F->F:=fun a=>Classical.choose (hinv a)
 have i0:∀ a,a=0->inv a=0:=fun a=>(wak (hinv a)).1
 have i1:∀ a,a≠0->a*inv a=1:=fun a=>(wak (hinv a)).2
 have ii:∀ a,inv (inv a)=a:=fun a=>by
  by_cases h:a=0
  ·rw[i0 a h,i0 0 rfl,h]
  ·have h':inv a≠0:=fun z=>by
    have:=i1 a h;rw[z]at this;exact h01 (by rw[← this];grind)
   have e1:=i1 a h;have e2:=i1 _ h';exact un (inv a) _ _ e2 (by rw[← e1];grind)
 letI:Inv F:=⟨inv⟩
 letI:Div F:=⟨fun a b=>a*inv b⟩
 letI:HPow F Int F:=⟨zpw inv⟩
 {zpow:=⟨zpw inv⟩
  div_eq_mul_inv:=fun a b=>rfl
  zero_ne_one:=h01
  inv_zero:=i0 0 rfl
  mul_inv_cancel:=fun {a} h=>i1 a h
  zpow_zero:=fun a=>Semiring.pow_zero a
  zpow_succ:=fun a n=>Semiring.pow_succ a n
  zpow_neg:=fun a n=>by
   show zpw inv a (-n)=inv (zpw inv a n)
   match n with
   | .ofNat 0 =>
    show a^0=inv (a^0);rw[Semiring.pow_zero];have:=i1 1 (Ne.symm h01);exact un 1 _ _ (by grind) this
   | .ofNat (m+1)=>rfl
   | .negSucc m =>
    show a^(m+1)=inv (inv (a^(m+1)));rw[ii] }
def kfRat:Kf 0 Rat where
 to:=fun x=>match x with | .q r=>r | .z _=>0
 of:=.q
 ok:=fun _=>rfl
 to_of:=fun _=>rfl
 of_to:=fun x h=>by cases x with
  | q r=>rfl
  | z i=>exact absurd rfl h.1
 add:=fun {x y} hx hy=>by
  cases x with
  | z i=>exact absurd rfl hx.1
  | q r=>cases y with
   | z i=>exact absurd rfl hy.1
   | q s=>rfl
 sub:=fun {x y} hx hy=>by
  cases x with
  | z i=>exact absurd rfl hx.1
  | q r=>cases y with
   | z i=>exact absurd rfl hy.1
   | q s=>rfl
 mul:=fun {x y} hx hy=>by
  cases x with
  | z i=>exact absurd rfl hx.1
  | q r=>cases y with
   | z i=>exact absurd rfl hy.1
   | q s=>rfl
 div:=fun {x y} hx hy _=>by
  cases x with
  | z i=>exact absurd rfl hx.1
  | q r=>cases y with
   | z i=>exact absurd rfl hy.1
   | q s=>rfl
 num:=fun w=>rfl
 zero:=fun w=>by
  rw[Gz];exact uH
 rat:=fun r _=>by
  show r *((r.den:Int):Rat) =((r.num:Int):Rat);have e:vM r.num r.den*vM (r.den:Int) 1=vM r.num 1:=by
   rw[wai,GM (by have:=js r;omega) (by decide)]
   grind
  have o:∀ a:Int,vM a 1 =(a:Rat):=fun a=>by
   rw[waH];show(a:Rat) / 1=a
   grind
  rw[Gd,o,o]at e;exact e
 rest:=fun i h=>absurd rfl h
theorem zfZ{F:Type}[Field F]{a b z:F}(h:z*b=1):a*z=a / b:=by
 have n:b≠0:=fun e=>by rw[e]at h;grind
 grind
section
variable{k:Int}{p:Nat}[NeZero p]
theorem zkK(hp:(p:Int)=k):(ι k:Fin p)=0:=by
 subst hp;show Fin.intCast (p:Int)=0;unfold Fin.intCast;rw[if_pos (uO p)];refine Fin.ext ?_;show(p:Int).natAbs % p=0 % p;simp
theorem zfj(hp:(p:Int)=k){w:Int}(h:k ∣ w):(ι w:Fin p)=0:=by
 obtain⟨c,rfl⟩:=h;rw[ι_mul,zkK hp];grind
theorem Yu(hp:(p:Int)=k){a b:Int}(h:k ∣ a - b):(ι a:Fin p)=ι b:=by
 have:=zfj hp h;rw[ι_sub]at this
 grind
theorem ze3(hp:(p:Int)=k){i:Int}(h0:0<=i)(h1:i<k):((ι i:Fin p).val:Int)=i:=by
 show((Fin.intCast i:Fin p).val:Int)=i;unfold Fin.intCast;rw[if_pos h0];show((i.natAbs % p:Nat):Int)=i;rw[Gk (by omega)];omega
theorem fin_ι(x:Fin p):(ι (x.val:Int):Fin p)=x:=by
 show(Fin.intCast (x.val:Int):Fin p)=x;unfold Fin.intCast;rw[if_pos (uO _)];refine Fin.ext ?_;show(x.val:Int).natAbs % p=x.val;rw[vS,Gk x.isLt]
theorem zc4(hp:(p:Int)=k)(w:Int):(ι w:Fin p)=0↔k ∣ w:=by
 refine⟨fun h=>?_,zfj hp⟩;have k0:0<k:=by have:=NeZero.ne p;omega
 have e:(ι w:Fin p)=ι (w % k):=Yu hp ⟨w / k,by have:=gr w k;omega⟩;have v:=ze3 (p:=p) hp (gU w (by omega)) (gf w k0);rw[← e,h]at v;have:w % k=0:=by rw[← v];rfl
 exact Int.dvd_of_emod_eq_zero this
theorem zjj(h:Pr k)(hp:(p:Int)=k)(a:Fin p):∃ b:Fin p,(a=0->b=0)/\(a≠0->a*b=1):=by
 by_cases z:a=0
 ·exact⟨0,fun _=>rfl,fun n=>absurd z n⟩
 ·have a0:0 <(a.val:Int):=by
   have:a.val≠0:=fun e=>z (Fin.ext e)
   omega
  obtain⟨x,x0,xk,hx⟩:=Qt h a0 (by have:=a.isLt;omega);refine⟨ι x,fun e=>absurd e z,fun _=>?_⟩;have:=Yu (p:=p) hp hx;rw[ι_mul,fin_ι,ι_one]at this
  grind
theorem zj3(h:Pr k)(hp:(p:Int)=k):(0:Fin p)≠1:=fun e=>by
 have:(ι 1:Fin p)=0:=by rw[ι_one];exact e.symm
 have:=(zc4 hp 1).mp this;have:=was (by decide) this;have:=h.lo;omega
@[reducible] noncomputable def fieldFin (h:Pr k) (hp:(p:Int)=k):Field (Fin p):=fieldOf (zj3 h hp) (zjj h hp)
def kfFin(h:Pr k)(hp:(p:Int)=k) : @Kf k (Fin p) (fieldFin h hp) :=
 letI:=fieldFin h hp
 have k1:=h.lo;have k0:k≠0:=by omega
 have fm:∀ a:Int,(ι (a.fmod k):Fin p)=ι a:=fun a=>Yu hp (Xq k a)
 {to:=fun x=>match x with | .q _=>0 | .z i=>ι i
  of:=fun x=>.z x.val
  ok:=fun x=>⟨k0,uO _,by have:=x.isLt;omega⟩
  to_of:=fun x=>fin_ι x
  of_to:=fun x hx=>by cases x with
   | q r=>exact absurd hx k0
   | z i=>exact congrArg Nb.z (ze3 hp hx.2.1 hx.2.2)
  add:=fun {x y} hx hy=>by
   cases x with
   | q r=>exact absurd hx k0
   | z i=>cases y with
    | q s=>exact absurd hy k0
    | z j=>exact(fm _).trans (ι_add i j)
  sub:=fun {x y} hx hy=>by
   cases x with
   | q r=>exact absurd hx k0
   | z i=>cases y with
    | q s=>exact absurd hy k0
    | z j=>exact(fm _).trans (ι_sub i j)
  mul:=fun {x y} hx hy=>by
   cases x with
   | q r=>exact absurd hx k0
   | z i=>cases y with
    | q s=>exact absurd hy k0
    | z j=>exact(fm _).trans (ι_mul i j)
  div:=fun {x y} hx hy ne=>by
   cases x with
   | q r=>exact absurd hx k0
   | z i=>cases y with
    | q s=>exact absurd hy k0
    | z j =>
     have j0:j≠0:=fun z=>ne (by unfold nnum;rw[if_neg k0,z,wat])
     obtain⟨x,x0,xk,hx'⟩:=Qt h (show 0<j by have:=hy.2.1;omega) hy.2.2;have e:=Yu (p:=p) hp hx';rw[ι_mul,ι_one]at e;refine Eq.trans (b:=ι i*ι x) ?_ (zfZ e);show(ι ((i*zinv k j).fmod k):Fin p)=ι i*ι x;rw[fm,ι_mul,zgV x0 xk hx']
  num:=fun w=>by
   unfold nnum;rw[if_neg k0];exact fm w
  zero:=zc4 hp
  rat:=fun r e=>absurd e k0
  rest:=fun i _=>rfl }
end
theorem ye{k:Int}(h:kab k):∃(F:Type)(inst:Field F)(dec:DecidableEq F),Nonempty (Kf k F):=by
 rcases h with rfl|h
 ·exact⟨Rat,inferInstance,inferInstance,⟨kfRat⟩⟩
 ·have k1:=h.lo;haveI:NeZero k.toNat:=⟨by omega⟩;have hp:((k.toNat:Nat):Int)=k:=by omega
  exact⟨Fin k.toNat,fieldFin h hp,inferInstance,⟨kfFin h hp⟩⟩
end La
namespace La
open Lean.Grind Nm
section
variable{k:Int}{F:Type}[Field F]
def fv(ws:List Int):Nat->F:=fun j=>ι (ws.getD j 0)
theorem zdN{ws:List Int}{j:Nat}(h:ws.length<=j):(fv ws j:F)=0:=by
 unfold fv;rw[wj,wK h];exact ι_zero
def Nf(k:Int)(ws:List Int):Prop:=k≠0->∀ w∈ws,0<=w/\w<k
theorem JP(φ:Kf k F){ws:List Int}(h:Nf k ws)(j:Nat):(fv ws j:F)=0↔ws.getD j 0=0:=by
 unfold fv;rw[φ.zero]
 constructor
 ·intro d
  by_cases k0:k=0
  ·rw[k0,Gz]at d;exact d
  ·have hw:0<=ws.getD j 0/\ws.getD j 0<k:=by
    rcases wO j ws.length with g|g
    ·rw[wj,wg g];exact h k0 _ (wp g)
    ·rw[wj,wK g];refine⟨Int.le_refl _,?_⟩;show 0<k;have n:0<=k:=by
      rcases gx k 0 with z|z
      ·exfalso
       have:=φ.ok (φ.to (.z 0));generalize φ.of (φ.to (.z 0))=x at this;cases x with
       | q r=>exact k0 this
       | z i=>obtain⟨_,i0,i1⟩:=this;omega
      ·exact z
     omega
   obtain⟨c,hc⟩:=d
   rcases waI c 0 with g|g|g
   ·have:k*c<=k *(-1):=uA (by omega) (by omega);omega
   ·rw[hc,g,Gy]
   ·have:k*1<=k*c:=uA (by omega) (by omega);omega
 ·intro e;rw[e];exact waz k
def gcdL(ws:List Int):Nat:=ws.foldl (fun d w=>uI d w.natAbs) 0
theorem qY:∀(ws:List Int)(d:Nat),(ws.foldl (fun d w=>uI d w.natAbs) d ∣ d)/\∀ w∈ws,((ws.foldl (fun d w=>uI d w.natAbs) d:Nat):Int) ∣ w
 | [],d=>⟨Nat.dvd_refl d,fun w h=>nomatch h⟩
 | x::ws,d=>by
  obtain⟨h1,h2⟩:=qY ws (uI d x.natAbs);refine⟨Gm h1 (GQ _ _),fun w hw=>?_⟩
  rcases wL.mp hw with e|hw
  ·rw[e];exact Int.ofNat_dvd_left.mpr (Gm h1 (GH _ _))
  ·exact h2 w hw
theorem zdh{ws:List Int}{w:Int}(h:w∈ws):((gcdL ws:Nat):Int) ∣ w:=(qY ws 0).2 w h
def kap(k:Int)(ws:List Int):List Int:=if k≠0 then ws.map (·.fmod k)else if gcdL ws=0 then ws else ws.map fun w=>w.fdiv ((gcdL ws:Nat):Int)
theorem QF(ws:List Int):(kap k ws).length=ws.length:=by
 unfold kap;split
 ·exact we _
 ·split
  ·rfl
  ·exact we _
theorem za2(k0:0<=k)(ws:List Int):Nf k (kap k ws):=fun h w hw=>by
 unfold kap at hw;rw[if_pos h]at hw;obtain⟨x,_,rfl⟩:=wm.mp hw;exact⟨wJ x (by omega),wP x (by omega)⟩
theorem zdX{α β:Type}(f:α->β)(a:α)(b:β)(h:f a=b)(l:List α)(j:Nat):(l.map f).getD j b=f (l.getD j a):=by
 rw[wj,wj,wo,← h];cases l[j]? <;> rfl
theorem qM{w d:Int}(h:d ∣ w)(hd:d≠0):w.fdiv d*d=w:=by
 rw[vR h];exact uK h
theorem JN(φ:Kf k F)(ws:List Int):∃ a:F,a≠0/\∀ j,fv (kap k ws) j=a*fv ws j:=by
 have one:(1:F)≠0:=fun e=>Field.zero_ne_one e.symm
 unfold kap
 split
 ·rename_i h;refine⟨1,one,fun j=>?_⟩;unfold fv;rw[zdX (fun w:Int=>w.fmod k) 0 0 (wat k)];have d:=(φ.zero _).mpr (Xq k (ws.getD j 0));rw[ι_sub]at d
  grind
 ·rename_i h;have k0:k=0:=ue fun z=>h z
  split
  ·exact⟨1,one,fun j=>by grind⟩
  ·rename_i g;have gn:(ι ((gcdL ws:Nat):Int):F)≠0:=fun z=>by
    rw[φ.zero,k0,Gz]at z;omega
   refine⟨1 / ι ((gcdL ws:Nat):Int),fun z=>?_,fun j=>?_⟩
   ·have:ι ((gcdL ws:Nat):Int) *(1 / ι ((gcdL ws:Nat):Int)) =(1:F):=by grind
    rw[z]at this;exact one (by rw[← this];grind)
   ·unfold fv;rw[zdX (fun w:Int=>w.fdiv ((gcdL ws:Nat):Int)) 0 0 (Int.zero_fdiv _)];have dv:((gcdL ws:Nat):Int) ∣ ws.getD j 0:=by
     rcases wO j ws.length with z|z
     ·rw[wj,wg z];exact zdh (wp z)
     ·rw[wj,wK z];exact waz _
    have e:=qM dv (by omega);have e2:(ι ((ws.getD j 0).fdiv ((gcdL ws:Nat):Int)):F)*ι ((gcdL ws:Nat):Int)=ι (ws.getD j 0):=by rw[← ι_mul,e]
    grind
def mixed(row lead:List Int)(c:Nat):List Int:=vE (fun l r=>lead.getD c 0*l - row.getD c 0*r) row lead
def kag(k:Int)(lead:List Int)(c:Nat)(row:List Int):List Int:=if row.getD c 0=0 then row else kap k (mixed row lead c)
theorem Za{row lead:List Int}(h:row.length=lead.length)(c:Nat):(mixed row lead c).length=row.length:=by
 unfold mixed;rw[wZ];omega
theorem jG{row lead:List Int}(h:row.length=lead.length)(c:Nat):(kag k lead c row).length=row.length:=by
 unfold kag;split
 ·rfl
 ·rw[QF,Za h]
theorem QE{row lead:List Int}(h:row.length=lead.length)(c j:Nat):(mixed row lead c).getD j 0=lead.getD c 0*row.getD j 0 - row.getD c 0*lead.getD j 0:=by
 rcases wO j row.length with g|g
 ·have g2:j<lead.length:=by omega
  unfold mixed;rw[wj,vP,wg g,wg g2];show lead.getD c 0*row[j] - row.getD c 0*lead[j]=_;simp[wj,wg g,wg g2]
 ·have g2:lead.length<=j:=by omega
  have g3:(mixed row lead c).length<=j:=by rw[Za h];exact g
  simp[wj,wK g,wK g2,wK g3]
theorem Jd(k0:0<=k){row lead:List Int}(c:Nat)(h:Nf k row):Nf k (kag k lead c row):=by
 unfold kag;split
 ·exact h
 ·exact za2 k0 _
theorem zbm(φ:Kf k F){row lead:List Int}(h:row.length=lead.length){c:Nat}(lc:(fv lead c:F)≠0):Clr c (fv lead:Nat->F) (fv row) (fv (kag k lead c row)):=by
 unfold kag;have one:(1:F)≠0:=fun e=>Field.zero_ne_one e.symm
 split
 ·rename_i z;refine⟨⟨1,0,one,fun j=>by grind⟩,?_⟩;show ι (row.getD c 0)=0;rw[z];exact ι_zero
 ·obtain⟨a,ha,e⟩:=JN φ (mixed row lead c);have m:∀ j,(fv (mixed row lead c) j:F)=fv lead c*fv row j - fv row c*fv lead j:=fun j=>by
   unfold fv;rw[QE h,ι_sub,ι_mul,ι_mul]
  refine⟨⟨a*fv lead c,-(a*fv row c),fun z=>?_,fun j=>?_⟩,?_⟩
  ·grind
  ·rw[e j,m j];grind
  ·rw[e c,m c];grind
def kar(k:Int)(c:Nat)(s:List (Nat×List Int)×List (List Int)):List (Nat×List Int)×List (List Int) :=
 match s.2.filter (fun r=>decide (r.getD c 0≠0))with
 | []=>s
 | l::rest=>(s.1.map (fun p=>(p.1,kag k l c p.2))++[(c,l)],s.2.filter (fun r=>decide (r.getD c 0=0))++rest.map (kag k l c))
def swTo(k:Int)(rows:List (List Int)):Nat->List (Nat×List Int)×List (List Int)
 | 0=>([],rows.map (kap k))
 | c+1=>kar k c (swTo k rows c)
structure Fine(k:Int)(n:Nat)(s:List (Nat×List Int)×List (List Int)):Prop where
 dl:∀ p∈s.1,p.2.length=n
 wl:∀ w∈s.2,w.length=n
 df:∀ p∈s.1,Nf k p.2
 wf:∀ w∈s.2,Nf k w
theorem Fine.turn{n c:Nat}{s:List (Nat×List Int)×List (List Int)}(k0:0<=k)(h:Fine k n s):Fine k n (kar k c s):=by
 unfold kar;cases e:s.2.filter (fun r=>decide (r.getD c 0≠0))with
 | nil=>exact h
 | cons l rest =>
  have sub:∀ r∈l::rest,r∈s.2:=fun r hr=>by rw[← e]at hr;exact(wX.mp hr).1
  have hl:=sub l wt;refine⟨fun p hp=>?_,fun w hw=>?_,fun p hp=>?_,fun w hw=>?_⟩
  ·rcases wu.mp hp with hp|hp
   ·obtain⟨q,hq,rfl⟩:=wm.mp hp;show(kag k l c q.2).length=n;rw[jG (by rw[h.dl q hq,h.wl l hl]),h.dl q hq]
   ·rw[wD.mp hp];exact h.wl l hl
  ·rcases wu.mp hw with hw|hw
   ·exact h.wl w (wX.mp hw).1
   ·obtain⟨q,hq,rfl⟩:=wm.mp hw;have:=h.wl q (sub q (wv _ hq));rw[jG (by rw[this,h.wl l hl]),this]
  ·rcases wu.mp hp with hp|hp
   ·obtain⟨q,hq,rfl⟩:=wm.mp hp;exact Jd k0 c (h.df q hq)
   ·rw[wD.mp hp];exact h.wf l hl
  ·rcases wu.mp hw with hw|hw
   ·exact h.wf w (wX.mp hw).1
   ·obtain⟨q,hq,rfl⟩:=wm.mp hw;exact Jd k0 c (h.wf q (sub q (wv _ hq)))
theorem Fine.to{n:Nat}{rows:List (List Int)}(k0:0<=k)(h:∀ r∈rows,r.length=n):∀ c,Fine k n (swTo k rows c)
 | 0=>by
  refine⟨fun p hp=>(nomatch hp),fun w hw=>?_,fun p hp=>(nomatch hp),fun w hw=>?_⟩
  ·obtain⟨r,hr,rfl⟩:=wm.mp hw;rw[QF,h r hr]
  ·obtain⟨r,hr,rfl⟩:=wm.mp hw;exact za2 k0 r
 | c+1=>(Fine.to k0 h c).turn k0
def inF(D:List (Nat×List Int)):List (Pv F):=D.map fun p=>(p.1,fv p.2)
theorem zjp(φ:Kf k F)(k0:0<=k){n:Nat}{rows:List (List Int)}(h:∀ r∈rows,r.length=n):∀ c,Sw n c (fun v=>∃ r∈rows,v =(fv r:Nat->F)) (inF (swTo k rows c).1) ((swTo k rows c).2.map fv)
 | 0=>by
  refine zhX n _ _ (fun v ⟨r,hr,e⟩=>?_) fun v hv=>?_
  ·obtain⟨a,ha,q⟩:=JN φ r;have hm:(fv (kap k r):Nat->F)∈(swTo k rows 0).2.map fv:=wm.mpr ⟨_,wm.mpr ⟨r,hr,rfl⟩,rfl⟩;have hs:Span (fun v=>v∈(swTo k rows 0).2.map fv) (fv (kap k r):Nat->F):=.of hm;exact(hs.smul (1 / a)).cast fun j=>by rw[e,q j];grind
  ·obtain⟨w,hw,rfl⟩:=wm.mp hv;obtain⟨r,hr,rfl⟩:=wm.mp hw;obtain⟨a,ha,q⟩:=JN φ r;have hs:Span (fun v=>∃ r∈rows,v =(fv r:Nat->F)) (fv r):=.of ⟨r,hr,rfl⟩;exact(hs.smul a).cast fun j=>(q j).symm
 | c+1=>by
  have ih:=zjp φ k0 h c;have fine:=Fine.to k0 h c;show Sw n (c+1) _ (inF (kar k c (swTo k rows c)).1) ((kar k c (swTo k rows c)).2.map fv);generalize swTo k rows c=s at ih fine;have zr:∀ r∈s.2,((fv r c:F)=0↔r.getD c 0=0):=fun r hr=>JP φ (fine.wf r hr) c
  unfold kar;cases e:s.2.filter (fun r=>decide (r.getD c 0≠0))with
  | nil =>
   refine ih.skip fun w hw=>?_
   obtain⟨r,hr,rfl⟩:=wm.mp hw;rw[zr r hr];refine ue fun z=>?_
   have:r∈s.2.filter (fun r=>decide (r.getD c 0≠0)):=wX.mpr ⟨hr,by simpa using z⟩;rw[e]at this;exact nomatch this
  | cons l rest =>
   have mem:∀ r∈l::rest,r∈s.2/\r.getD c 0≠0:=fun r hr=>by
    rw[← e]at hr;obtain⟨h1,h2⟩:=wX.mp hr;exact⟨h1,by simpa using h2⟩
   obtain⟨hl,lz⟩:=mem l wt;have lc:(fv l c:F)≠0:=fun z=>lz ((zr l hl).mp z)
   have ll:=fine.wl l hl;have cl:∀ r,r.length=n->Clr c (fv l:Nat->F) (fv r) (fv (kag k l c r)):=fun r hr=>zbm φ (by rw[hr,ll]) lc
   show Sw n (c+1) _ (inF (s.1.map (fun p=>(p.1,kag k l c p.2))++[(c,l)])) ((s.2.filter (fun r=>decide (r.getD c 0=0))++rest.map (kag k l c)).map fv);have e1:(inF (s.1.map (fun p=>(p.1,kag k l c p.2))++[(c,l)]):List (Pv F))=s.1.map (fun p=>(p.1,fv (kag k l c p.2)))++[(c,fv l)]:=by
    unfold inF;rw[wF,vF];rfl
   rw[e1];refine Sw.turn (E:=s.1) (a:=fun p=>(p.1,fv p.2)) (b:=fun p=>(p.1,fv (kag k l c p.2))) ih (wm.mpr ⟨l,hl,rfl⟩) lc (fun p hp=>⟨rfl,cl p.2 (fine.dl p hp)⟩) (fun w hw=>?_) (fun w hw=>?_)
   ·obtain⟨r,hr,rfl⟩:=wm.mp hw
    rcases wu.mp hr with hr|hr
    ·obtain⟨h1,h2⟩:=wX.mp hr;exact .inl ⟨wm.mpr ⟨r,h1,rfl⟩,(zr r h1).mpr (by simpa using h2)⟩
    ·obtain⟨q,hq,rfl⟩:=wm.mp hr;have hq2:=(mem q (wv _ hq)).1;exact .inr ⟨fv q,wm.mpr ⟨q,hq2,rfl⟩,cl q (fine.wl q hq2)⟩
   ·obtain⟨r,hr,rfl⟩:=wm.mp hw
    by_cases z:r.getD c 0=0
    ·exact .inl (wm.mpr ⟨r,wH _ (wX.mpr ⟨hr,by simpa using z⟩),rfl⟩)
    ·have hm:r∈l::rest:=by rw[← e];exact wX.mpr ⟨hr,by simpa using z⟩
     rcases wL.mp hm with q|q
     ·exact .inr (.inl (by rw[q]))
     ·exact .inr (.inr ⟨_,wm.mpr ⟨_,wE _ (wm.mpr ⟨r,q,rfl⟩),rfl⟩,cl r (fine.wl r hr)⟩)
abbrev RmI(F:Type)[Field F](rows:List (List Int)):(Nat->F)->Prop:=fun v=>∃ r∈rows,v=fv r
theorem zha(φ:Kf k F)(k0:0<=k){n:Nat}{rows:List (List Int)}(h:∀ r∈rows,r.length=n) :
  Rr n ((swTo k rows n).1.map fun p=>(p.1,fun j=>(fv p.2 j / fv p.2 p.1:F))) /\
  (∀ v,Span (Rows ((swTo k rows n).1.map fun p=>(p.1,fun j=>(fv p.2 j / fv p.2 p.1:F)))) v->Span (RmI F rows) v)/\(∀ v,Span (RmI F rows) v->Span (Rows ((swTo k rows n).1.map fun p=>(p.1,fun j=>(fv p.2 j / fv p.2 p.1:F)))) v):=by
 have s:=zjp φ k0 h n;have fine:=Fine.to k0 h n;have d:=s.done (fun w hw j hj=>by
  obtain⟨r,hr,rfl⟩:=wm.mp hw;exact zdN (by rw[fine.wl r hr];exact hj)) (fun p hp j hj=>by
  obtain⟨q,hq,rfl⟩:=wm.mp hp;exact zdN (by rw[fine.dl q hq];exact hj))
 have e:((inF (swTo k rows n).1:List (Pv F)).map fun p=>(p.1,fun j=>p.2 j / p.2 p.1)) =(swTo k rows n).1.map fun p=>(p.1,fun j=>(fv p.2 j / fv p.2 p.1:F)):=by
  unfold inF;rw[vF];rfl
 rw[e]at d;exact d
theorem ZE(φ:Kf k F)(k0:0<=k){n:Nat}{rows:List (List Int)}(h:∀ r∈rows,r.length=n){p:Nat×List Int}(hp:p∈(swTo k rows n).1) :
  p.1<n/\p.2.length=n/\p.2.getD p.1 0≠0/\∀ j,j<p.1->p.2.getD j 0=0:=by
 have s:=zjp φ k0 h n;have fine:=Fine.to k0 h n;have hm:((p.1,fv p.2):Pv F)∈inF (swTo k rows n).1:=wm.mpr ⟨p,hp,rfl⟩;have z:=fun j=>JP φ (fine.df p hp) j
 exact⟨s.lt _ hm,fine.dl p hp,fun e=>s.one _ hm ((z p.1).mpr e),fun j hj=>(z j).mp (s.bef _ hm j hj)⟩
end
end La
namespace La
open Lean.Grind Nm
section
variable{k:Int}{F:Type}[Field F]
theorem ya(h:kab k)(w:Int):(nnum k w).ok k:=by
 unfold nnum
 split
 ·assumption
 ·rename_i n;have:=h.lt;exact⟨n,wJ w (by omega),wP w (by omega)⟩
def OkR(k:Int)(xs:List Nb):Prop:=∀ x∈xs,x.ok k
def nv(φ:Kf k F)(xs:List Nb):Nat->F:=fun j=>φ.to (xs.getD j (nnum k 0))
theorem Kf.num0(φ:Kf k F):φ.to (nnum k 0)=0:=by rw[φ.num];exact ι_zero
theorem Kf.num1(φ:Kf k F):φ.to (nnum k 1)=1:=by rw[φ.num];exact ι_one
theorem Kf.inj(φ:Kf k F){x y:Nb}(hx:x.ok k)(hy:y.ok k)(h:φ.to x=φ.to y):x=y:=by rw[← φ.of_to x hx,← φ.of_to y hy,h]
theorem Kf.zero_iff(φ:Kf k F)(hk:kab k){x:Nb}(hx:x.ok k):φ.to x=0↔x=nnum k 0 :=
 ⟨fun h=>φ.inj hx (ya hk 0) (by rw[h,φ.num0]),fun h=>by rw[h,φ.num0]⟩
theorem yL(φ:Kf k F){xs:List Nb}{j:Nat}(h:xs.length<=j):nv φ xs j=0:=by
 unfold nv;rw[wj,wK h];exact φ.num0
theorem yq(φ:Kf k F){xs:List Nb}{j:Nat}{x:Nb}(h:xs[j]?=some x):nv φ xs j=φ.to x:=by
 unfold nv;rw[wj,h];rfl
theorem zdr(φ:Kf k F){xs ys:List Nb}(hx:OkR k xs)(hy:OkR k ys)(hl:xs.length=ys.length)(h:∀ j,nv φ xs j=nv φ ys j):xs=ys:=by
 refine gK hl fun j h1 h2=>?_
 have e:=h j;rw[yq φ (wg h1),yq φ (wg h2)]at e;exact φ.inj (hx _ (wp h1)) (hy _ (wp h2)) e
def dot:Nat->(Nat->F)->(Nat->F)->F
 | 0,_,_=>0
 | n+1,u,v=>dot n u v+u n*v n
theorem zR{n:Nat}{u u' v v':Nat->F}(h:∀ j,j<n->u j*v j=u' j*v' j):dot n u v=dot n u' v':=by
 induction n with
 | zero=>rfl
 | succ n ih=>simp only[dot];rw[ih fun j hj=>h j (by omega),h n (by omega)]
theorem qQ(a:F)(n:Nat)(u v:Nat->F):dot n (fun j=>a*u j) v=a*dot n u v:=by
 induction n with
 | zero=>simp only[dot];grind
 | succ n ih=>simp only[dot];rw[ih];grind
theorem QU(n:Nat)(u u' v:Nat->F):dot n (fun j=>u j+u' j) v=dot n u v+dot n u' v:=by
 induction n with
 | zero=>simp only[dot];grind
 | succ n ih=>simp only[dot];rw[ih];grind
theorem zV(n:Nat)(u v:Nat->F):dot n u v=dot n v u:=zR fun j _=>by grind
theorem dot_zero(n:Nat)(u v:Nat->F)(h:∀ j,j<n->u j*v j=0):dot n u v=0:=by
 induction n with
 | zero=>rfl
 | succ n ih=>simp only[dot];rw[ih fun j hj=>h j (by omega),h n (by omega)];grind
def ndotF(k:Int)(l:List (Nb×Nb)):Nb:=l.foldl (fun s p=>nadd k s (nmul k p.1 p.2)) (nnum k 0)
def ndot(k:Int)(xs ys:List Nb):Nb:=ndotF k (xs.zip ys)
theorem JB{x y:Nb}(hk:kab k)(hx:x.ok k)(hy:y.ok k):(nadd k x y).ok k:=by
 have hl:=hk.lt;cases x with
 | q r=>cases y with
  | q s=>exact hx
  | z j=>exact absurd (show k=0 from hx) hy.1
 | z i=>cases y with
  | q s=>exact absurd (show k=0 from hy) hx.1
  | z j=>exact⟨hx.1,wJ _ (by have:=hx.1;omega),wP _ (by have:=hx.1;omega)⟩
theorem yS{x y:Nb}(hk:kab k)(hx:x.ok k)(hy:y.ok k):(nmul k x y).ok k:=by
 have hl:=hk.lt;cases x with
 | q r=>cases y with
  | q s=>exact hx
  | z j=>exact absurd (show k=0 from hx) hy.1
 | z i=>cases y with
  | q s=>exact absurd (show k=0 from hy) hx.1
  | z j=>exact⟨hx.1,wJ _ (by have:=hx.1;omega),wP _ (by have:=hx.1;omega)⟩
theorem zfS{x y:Nb}(hk:kab k)(hx:x.ok k)(hy:y.ok k):(ndiv k x y).ok k:=by
 have hl:=hk.lt;cases x with
 | q r=>cases y with
  | q s=>exact hx
  | z j=>exact absurd (show k=0 from hx) hy.1
 | z i=>cases y with
  | q s=>exact absurd (show k=0 from hy) hx.1
  | z j=>exact⟨hx.1,wJ _ (by have:=hx.1;omega),wP _ (by have:=hx.1;omega)⟩
theorem Xb(l:List (Nb×Nb))(p:Nb×Nb):ndotF k (l++[p])=nadd k (ndotF k l) (nmul k p.1 p.2):=by
 unfold ndotF;rw[GK];rfl
theorem XR(hk:kab k):∀(l:List (Nb×Nb)),(∀ p∈l,p.1.ok k/\p.2.ok k)->(ndotF k l).ok k:=by
 intro l;unfold ndotF;have go:∀(l:List (Nb×Nb))(s:Nb),s.ok k->(∀ p∈l,p.1.ok k/\p.2.ok k)->(l.foldl (fun s p=>nadd k s (nmul k p.1 p.2)) s).ok k:=by
  intro l
  induction l with
  | nil=>intro s hs _;exact hs
  | cons p l ih=>intro s hs h;exact ih _ (JB hk hs (yS hk (h p wt).1 (h p wt).2)) fun q hq=>h q (wv _ hq)
 exact fun h=>go l _ (ya hk 0) h
theorem zil{xs ys:List Nb}(hx:OkR k xs)(hy:OkR k ys):∀ p∈xs.zip ys,p.1.ok k/\p.2.ok k:=fun p hp=>by
 obtain⟨a,b⟩:=p;obtain⟨h1,h2⟩:=vw hp;exact⟨hx _ h1,hy _ h2⟩
theorem xl(hk:kab k){xs ys:List Nb}(hx:OkR k xs)(hy:OkR k ys):(ndot k xs ys).ok k:=XR hk _ (zil hx hy)
theorem zbp(φ:Kf k F)(hk:kab k){xs ys:List Nb}(hx:OkR k xs)(hy:OkR k ys)(hl:xs.length=ys.length):∀ i,i<=xs.length->φ.to (ndotF k ((xs.zip ys).take i))=dot i (nv φ xs) (nv φ ys)
 | 0,_=>by
  show φ.to (nnum k 0)=0;exact φ.num0
 | i+1,h=>by
  have h1:i<xs.length:=h;have h2:i<ys.length:=by omega
  have hz:i <(xs.zip ys).length:=by rw[um];omega
  rw[vN hz,Xb,GR];have ih:=zbp φ hk hx hy hl i (by omega);have o1:=hx _ (wp h1);have o2:=hy _ (wp h2);rw[φ.add (XR hk _ fun p hp=>zil hx hy p (uu hp)) (yS hk o1 o2),ih,φ.mul o1 o2];simp only[dot];rw[yq φ (wg h1),yq φ (wg h2)]
theorem xh(φ:Kf k F)(hk:kab k){xs ys:List Nb}(hx:OkR k xs)(hy:OkR k ys)(hl:xs.length=ys.length):φ.to (ndot k xs ys)=dot xs.length (nv φ xs) (nv φ ys):=by
 have h:=zbp φ hk hx hy hl xs.length (ww _);rw[wr (by rw[um];omega)]at h;exact h
def scW(b:Int):Nb->Int
 | .q r=>r.num*b.fdiv (r.den:Int)
 | .z i=>i
def dvB(b:Int):Nb->Prop
 | .q r=>(r.den:Int) ∣ b
 | .z _=>True
structure Scl(k:Int)(xs:List Nb)(ws:List Int)(b:Int):Prop where
 eq:ws=xs.map (scW b)
 pos:0<b
 one:k≠0->b=1
 dv:∀ x∈xs,dvB b x
theorem Scl.len{xs:List Nb}{ws:List Int}{b:Int}(s:Scl k xs ws b):ws.length=xs.length:=by rw[s.eq,we]
theorem Scl.ne(φ:Kf k F)(hk:kab k){xs:List Nb}{ws:List Int}{b:Int}(s:Scl k xs ws b):(ι b:F)≠0:=fun z=>by
 rw[φ.zero]at z
 by_cases k0:k=0
 ·rw[k0,Gz]at z;have:=s.pos;omega
 ·rw[s.one k0]at z;have:=was (by decide) z
  rcases hk with h|h
  ·exact k0 h
  ·have:=h.lo;omega
theorem zjS(φ:Kf k F){b:Int}(one:k≠0->b=1){x:Nb}(hx:x.ok k)(dv:dvB b x):(ι (scW b x):F)=φ.to x*ι b:=by
 cases x with
 | q r =>
  have k0:k=0:=hx;have e:=φ.rat r k0;have d:(r.den:Int) ∣ b:=dv;have e2:=qM d (js r);show(ι (r.num*b.fdiv (r.den:Int)):F)=_;rw[ι_mul,← e];have e3:(ι (b.fdiv (r.den:Int)):F)*ι (r.den:Int)=ι b:=by rw[← ι_mul,e2]
  grind
 | z i =>
  have k0:k≠0:=hx.1;rw[φ.rest i k0,one k0,ι_one];show(ι i:F)=_
  grind
theorem Scl.fv(φ:Kf k F){xs:List Nb}{ws:List Int}{b:Int}(s:Scl k xs ws b)(hx:OkR k xs)(j:Nat):(La.fv ws j:F)=nv φ xs j*ι b:=by
 rcases wO j xs.length with g|g
 ·have e:ws[j]?=some (scW b xs[j]):=by rw[s.eq,wo,wg g];rfl
  rw[yq φ (wg g),← zjS φ s.one (hx _ (wp g)) (s.dv _ (wp g))];unfold La.fv;rw[wj,e];rfl
 ·rw[yL φ g,zdN (by rw[s.len];exact g)];grind
theorem zi9(n:Nat){ws vs:List Int}(h1:ws.length=n)(h2:vs.length=n):(ι (vE (·*·) ws vs).sum:F)=dot n (fv ws) (fv vs):=by
 have go:∀ i,i<=n->(ι ((vE (·*·) ws vs).take i).sum:F)=dot i (fv ws) (fv vs):=by
  intro i
  induction i with
  | zero=>intro _;rw[wa0,wbc];exact ι_zero
  | succ i ih =>
   intro hi;have hz:i <(vE (·*·) ws vs).length:=by rw[wZ];omega
   rw[vN hz,waW,ι_add,ih (by omega),uz];simp only[dot];have e1:(fv ws i:F)=ι (ws[i]'(by omega)):=by unfold fv;rw[wj,wg (by omega)];rfl
   have e2:(fv vs i:F)=ι (vs[i]'(by omega)):=by unfold fv;rw[wj,wg (by omega)];rfl
   rw[e1,e2,← ι_mul];simp
 have:=go n (ww _);rw[wr (by rw[wZ];omega)]at this;exact this
theorem zal(φ:Kf k F){b:Int}(h:(ι b:F)≠0):nnum k b≠nnum k 0:=fun z=>h (by rw[← φ.num,z,φ.num0])
theorem zj5(hk:kab k){xs ys:List Nb}{ws vs:List Int}{b c:Int}(hl:xs.length=ys.length)(s1:Scl k xs ws b)(s2:Scl k ys vs c)(hx:OkR k xs)(hy:OkR k ys) :
  nnum k (b*c)≠nnum k 0/\ndiv k (nnum k (vE (·*·) ws vs).sum) (nnum k (b*c))=ndot k xs ys:=by
 obtain⟨F,_,_,⟨φ⟩⟩:=ye hk;have n1:=s1.ne φ hk;have n2:=s2.ne φ hk;have n3:(ι (b*c):F)≠0:=fun z=>by rw[ι_mul]at z;grind
 have nn:=zal φ n3;refine⟨nn,φ.inj (zfS hk (ya hk _) (ya hk _)) (xl hk hx hy) ?_⟩;rw[φ.div (ya hk _) (ya hk _) nn,φ.num,φ.num,xh φ hk hx hy hl,zi9 xs.length s1.len (by rw[s2.len,hl]),ι_mul];have e:dot xs.length (La.fv ws) (La.fv vs) =(ι b*ι c)*dot xs.length (nv φ xs) (nv φ ys):=by
  rw[← qQ];exact zR fun j _=>by rw[s1.fv φ hx,s2.fv φ hy];grind
 rw[e];grind
def RmN(φ:Kf k F)(M:Tb):(Nat->F)->Prop:=fun v=>∃ r∈M,v=nv φ r
def OkM(k:Int)(n:Nat)(M:Tb):Prop:=∀ r∈M,r.length=n/\OkR k r
structure IsR(φ:Kf k F)(n:Nat)(R:Tb)(ls:List Nat):Prop where
 ok:OkM k n R
 len:ls.length=R.length
 rr:Rr n (ls.zip (R.map (nv φ)))
structure kaq(φ:Kf k F)(n:Nat)(M R:Tb)(ls:List Nat):Prop extends IsR φ n R ls where
 to:∀ v,Span (RmN φ M) v->Span (RmN φ R) v
 fro:∀ v,Span (RmN φ R) v->Span (RmN φ M) v
theorem Yr{φ:Kf k F}{R:Tb}{ls:List Nat}(h:ls.length=R.length)(v:Nat->F):Rows (ls.zip (R.map (nv φ))) v↔RmN φ R v:=by
 constructor
 ·rintro ⟨p,hp,rfl⟩
  obtain⟨a,b⟩:=p;obtain⟨r,hr,e⟩:=wm.mp (vw hp).2;exact⟨r,hr,e.symm⟩
 ·rintro ⟨r,hr,rfl⟩
  obtain⟨i,hi,e⟩:=wG hr;have h1:i<ls.length:=by omega
  have h2:i <(R.map (nv φ)).length:=by rw[we];exact hi
  refine⟨(ls[i],(R.map (nv φ))[i]),?_,by simp[e]⟩;rw[← GR (h:=by rw[um];omega)];exact wp _
theorem IsR.rows{φ:Kf k F}{n:Nat}{R:Tb}{ls:List Nat}(h:IsR φ n R ls){v:Nat->F}:Span (Rows (ls.zip (R.map (nv φ)))) v↔Span (RmN φ R) v :=
 ⟨fun q=>q.mono fun u=>(Yr h.len u).mp,fun q=>q.mono fun u=>(Yr h.len u).mpr⟩
theorem IsR.unique{φ:Kf k F}{n:Nat}{R R':Tb}{ls ls':List Nat}(h:IsR φ n R ls)(h':IsR φ n R' ls')(s1:∀ v,Span (RmN φ R) v->Span (RmN φ R') v)(s2:∀ v,Span (RmN φ R') v->Span (RmN φ R) v):R=R'/\ls=ls':=by
 have e:=h.rr.unique h'.rr (fun v q=>h'.rows.mpr (s1 v (h.rows.mp q))) (fun v q=>h.rows.mpr (s2 v (h'.rows.mp q)));have el:=congrArg (wav Prod.fst) e;have er:=congrArg (wav Prod.snd) e;rw[gb (by rw[we];exact uS h.len),gb (by rw[we];exact uS h'.len)]at el;rw[waQ (by rw[we];exact uS h.len.symm),waQ (by rw[we];exact uS h'.len.symm)]at er;refine⟨?_,el⟩;have hl:R.length=R'.length:=by have:=congrArg Gi er;simpa using this
 refine gK hl fun i h1 h2=>?_
 have e2:(R.map (nv φ))[i]'(by simpa using h1) =(R'.map (nv φ))[i]'(by simpa using h2):=by simp only[er]
 rw[Gn,Gn]at e2;have o1:=h.ok _ (wp h1);have o2:=h'.ok _ (wp h2);exact zdr φ o1.2 o2.2 (by rw[o1.1,o2.1]) fun j=>by rw[e2]
theorem kaq.unique{φ:Kf k F}{n:Nat}{M M' R R':Tb}{ls ls':List Nat}(h:kaq φ n M R ls)(h':kaq φ n M' R' ls')(s1:∀ v,Span (RmN φ M) v->Span (RmN φ M') v)(s2:∀ v,Span (RmN φ M') v->Span (RmN φ M) v):R=R' :=
 (h.toIsR.unique h'.toIsR (fun v q=>h'.to v (s1 v (h.fro v q))) (fun v q=>h.to v (s2 v (h'.fro v q)))).1
theorem IsR.red{φ:Kf k F}{n:Nat}{R:Tb}{ls:List Nat}(h:IsR φ n R ls):kaq φ n R R ls:={ h with to:=fun _ q=>q,fro:=fun _ q=>q }
def overL(k:Int)(p:Nat×List Int):List Nb:=p.2.map fun w=>ndiv k (nnum k w) (nnum k (p.2.getD p.1 0))
def redM(k:Int)(n:Nat)(Ws:List (List Int)):Tb:=(swTo k Ws n).1.map (overL k)
def leadsM(k:Int)(n:Nat)(Ws:List (List Int)):List Nat:=(swTo k Ws n).1.map (·.1)
theorem JA(φ:Kf k F)(hk:kab k){n:Nat}{M:Tb}{Ws:List (List Int)}(ok:OkM k n M)(hl:Ws.length=M.length)(hs:∀(i:Nat)(r:List Nb)(ws:List Int),M[i]?=some r->Ws[i]?=some ws->∃ b,Scl k r ws b) :
  kaq φ n M (redM k n Ws) (leadsM k n Ws):=by
 have k0:=hk.lt.1;have pair:∀ ws∈Ws,∃ r∈M,∃ b,Scl k r ws b:=fun ws hw=>by
  obtain⟨i,hi,e⟩:=wG hw;have h2:i<M.length:=by omega
  exact⟨M[i],wp h2,hs i M[i] ws (wg h2) (by rw[wg hi,e])⟩
 have pair2:∀ r∈M,∃ ws∈Ws,∃ b,Scl k r ws b:=fun r hr=>by
  obtain⟨i,hi,e⟩:=wG hr;have h2:i<Ws.length:=by omega
  exact⟨Ws[i],wp h2,hs i r Ws[i] (by rw[wg hi,e]) (wg h2)⟩
 have wl:∀ ws∈Ws,ws.length=n:=fun ws hw=>by
  obtain⟨r,hr,b,s⟩:=pair ws hw;rw[s.len,(ok r hr).1]
 obtain⟨rr,s1,s2⟩:=zha φ k0 wl;have sp1:∀ v,Span (RmI F Ws) v->Span (RmN φ M) v:=fun v q=>q.bind fun u ⟨ws,hw,e⟩=>by
  obtain⟨r,hr,b,s⟩:=pair ws hw;have:Span (RmN φ M) (nv φ r):=.of ⟨r,hr,rfl⟩;exact(this.smul (ι b)).cast fun j=>by rw[e,s.fv φ (ok r hr).2];grind
 have sp2:∀ v,Span (RmN φ M) v->Span (RmI F Ws) v:=fun v q=>q.bind fun u ⟨r,hr,e⟩=>by
  obtain⟨ws,hw,b,s⟩:=pair2 r hr;have:Span (RmI F Ws) (La.fv ws):=.of ⟨ws,hw,rfl⟩;have n:=s.ne φ hk;exact(this.smul (1 / ι b)).cast fun j=>by rw[e,s.fv φ (ok r hr).2];grind
 have rowv:∀ p∈(swTo k Ws n).1,(nv φ (overL k p):Nat->F)=fun j=>fv p.2 j / fv p.2 p.1:=fun p hp=>by
  obtain⟨p1,p2,p3,p4⟩:=ZE φ k0 wl hp;have fine:=Fine.to k0 wl n;have ln:(ι (p.2.getD p.1 0):F)≠0:=fun z=>p3 ((JP φ (fine.df p hp) p.1).mp z)
  funext j
  rcases wO j p.2.length with g|g
  ·have e:(overL k p)[j]?=some (ndiv k (nnum k p.2[j]) (nnum k (p.2.getD p.1 0))):=by unfold overL;rw[wo,wg g];rfl
   rw[yq φ e,φ.div (ya hk _) (ya hk _) (zal φ ln),φ.num,φ.num];show _=fv p.2 j / fv p.2 p.1;unfold fv;rw[wj (l:=p.2) (i:=j),wg g];rfl
  ·rw[yL φ (by unfold overL;rw[we];exact g)];show _=fv p.2 j / fv p.2 p.1;rw[zdN g];grind
 have zz:(leadsM k n Ws).zip ((redM k n Ws).map (nv φ)) =(swTo k Ws n).1.map fun p=>(p.1,fun j=>(fv p.2 j / fv p.2 p.1:F)):=by
  unfold leadsM redM;rw[vF,List.zip_map',List.map_inj_left];intro p hp;show(p.1,nv φ (overL k p))=_;rw[rowv p hp]
 have hlen:(leadsM k n Ws).length =(redM k n Ws).length:=by unfold leadsM redM;rw[we,we]
 refine⟨⟨fun r hr=>?_,hlen,by rw[zz];exact rr⟩,fun v q=>?_,fun v q=>?_⟩
 ·obtain⟨p,hp,rfl⟩:=wm.mp hr;obtain⟨p1,p2,p3,p4⟩:=ZE φ k0 wl hp;refine⟨by unfold overL;rw[we];exact p2,fun x hx=>?_⟩;obtain⟨w,_,rfl⟩:=wm.mp hx;exact zfS hk (ya hk _) (ya hk _)
 ·have:=s2 v (sp2 v q);rw[← zz]at this;exact this.mono fun u=>(Yr hlen u).mp
 ·refine sp1 v (s1 v ?_);rw[← zz];exact q.mono fun u=>(Yr hlen u).mpr
end
end La
namespace Nm
theorem php:∀(n:Nat)(f:Nat->Nat),(∀ i,i<n+1->f i<n)->∃ i j,i<j/\j<n+1/\f i=f j
 | 0,f,h=>absurd (h 0 (by omega)) (by omega)
 | n+1,f,h=>by
  by_cases c:∃ i,i<n+1/\f i=f (n+1)
  ·obtain⟨i,hi,e⟩:=c;exact⟨i,n+1,hi,by omega,e⟩
  have c':∀ i,i<n+1->f i≠f (n+1):=fun i hi e=>c ⟨i,hi,e⟩
  have hv:=h (n+1) (by omega);obtain⟨i,j,hij,hj,e⟩:=php n (fun i=>if f i=n then f (n+1)else f i) (fun i hi=>by
   have h1:=h i (by omega);have h2:=c' i hi
   split <;> omega)
  refine⟨i,j,hij,by omega,?_⟩;have hi:=c' i (by omega);have hj':=c' j (by omega)
  split at e <;> split at e <;> omega
theorem onto{n:Nat}{f:Nat->Nat}(hf:∀ i,i<n->f i<n)(inj:∀ i j,i<j->j<n->f i≠f j){r:Nat}(hr:r<n):∃ i,i<n/\f i=r:=by
 cases Classical.em (∃ i,i<n/\f i=r)with
 | inl h=>exact h
 | inr h =>
  exfalso
  obtain⟨m,rfl⟩ : ∃ m,n=m+1:=⟨n - 1,by omega⟩;obtain⟨i,j,hij,hj,e⟩:=php m (fun i=>if f i=m then r else f i) (fun i hi=>by
   have h1:=hf i (by omega);have h2:f i≠r:=fun e=>h ⟨i,by omega,e⟩
   split <;> omega)
  have h1:f i≠r:=fun e=>h ⟨i,by omega,e⟩
  have h2:f j≠r:=fun e=>h ⟨j,by omega,e⟩
  have h3:=inj i j hij (by omega)
  split at e <;> split at e <;> omega
theorem zcg{p a x y:Nat}(hx:a^x % p=1 % p)(hy:a^y % p=1 % p):a^(x % y) % p=1 % p:=by
 have e:a^x =(a^y)^(x / y)*a^(x % y):=by rw[← wal,← ul,Gv]
 have h1:(a^y)^(x / y) % p=1 % p:=by rw[gX,hy,← gX,wbl]
 rw[e,Go,h1,← Go,vT]at hx;exact hx
theorem ziR{p a:Nat}:∀ x y,a^x % p=1 % p->a^y % p=1 % p->a^(uI x y) % p=1 % p:=fun x y=>by
 induction x,y using uI.induction with
 | H0 n=>intro _ h;rw[Nat.gcd_zero_left];exact h
 | H1 m n hm ih =>
  intro hx hy;rw[wbm];exact ih (zcg hy hx) hx
theorem zfW{Q q' M g:Nat}(hQ:∀ h,h<=Q->h ∣ Q->h=Q\/h ∣ q')(Q0:0<Q)(hg:g ∣ Q*M)(hn:¬ g ∣ q'*M):Q ∣ g:=by
 have h1:uI g Q ∣ Q:=GH _ _
 rcases hQ _ (wau Q0 h1) h1 with e|e
 ·rw[← e];exact GQ _ _
 ·exfalso
  apply hn
  have h2:g ∣ uI (g*M) (Q*M):=Nat.dvd_gcd (waJ _ _) hg;rw[Nat.gcd_mul_right]at h2;exact Gm h2 (Nat.mul_dvd_mul_right e M)
def pw(p:Nat):Nat->Nat->Nat->Nat
 | 0,_,_=>1 % p
 | f+1,a,n=>if n=0 then 1 % p else if n % 2=1 then pw p f (a*a % p) (n / 2)*a % p else pw p f (a*a % p) (n / 2)
theorem pw_eq(p:Nat):∀ f a n,n<2^f->pw p f a n=a^n % p
 | 0,a,n,h=>by
  have:n=0:=by simpa using h
  subst this;rfl
 | f+1,a,n,h=>by
  have e:a^n =(a*a)^(n / 2)*a^(n % 2):=by rw[← wbn,← wal,← ul,Gv]
  have ih:=pw_eq p f (a*a % p) (n / 2) (by rw[gy]at h;omega);unfold pw
  split
  ·rename_i z;subst z;rfl
  ·split
   ·rename_i z;rw[ih,← gX,e,z,wbo,Nat.mod_mul_mod]
   ·rename_i z;rw[ih,← gX,e,show n % 2=0 by omega,waB,gY]
def gp:Nat:=2305843009213693951
theorem ziU(N:Nat)(h:N=2305843009213693950):37^N % gp=1 % gp:=by
 rw[← pw_eq gp 61 37 N (by rw[h];decide),h];decide +kernel
theorem zkO(N:Nat)(h:N=2305843009213693950):∀ q∈[2,3,5,7,11,13,31,41,61,151,331,1321],37^(N / q) % gp≠1 % gp:=by
 intro q hq;rw[← pw_eq gp 61 37 _ (uo (Nat.div_le_self _ _) (by rw[h];decide))];subst h
 revert q
 decide +kernel
set_option maxHeartbeats 1000000 in
theorem zkg{d:Nat}(h0:0<d)(h1:d<2305843009213693950)(h:37^d % gp=1 % gp):False:=by
 obtain⟨N,hN⟩ : ∃ N,N=2305843009213693950:=⟨_,rfl⟩;have hg:=ziR d N h (ziU N hN);have dl:uI d N ∣ N:=GH _ _;have dd:uI d N ∣ d:=GQ _ _;generalize uI d N=g at *;have no:∀ q∈[2,3,5,7,11,13,31,41,61,151,331,1321],∀ y,y*q=N->0<q->¬ g ∣ y:=fun q hq y hy q0 ⟨m,e⟩=>by
  refine zkO N hN q hq ?_;rw[← hy,Nat.mul_div_cancel _ q0,e,wal,gX,hg,← gX,wbl]
 have fl:∀ Q q' M q:Nat,q∈[2,3,5,7,11,13,31,41,61,151,331,1321]->(∀ h,h<=Q->h ∣ Q->h=Q\/h ∣ q')->0<Q->0<q->Q*M=N->q'*M*q=N->Q ∣ g:=fun Q q' M q hq h Q0 q0 e1 e2 =>
  zfW h Q0 (by rw[e1];exact dl) (no q hq _ e2 q0)
 clear hg h no dl;subst hN;have a1:2 ∣ g:=fl 2 1 1152921504606846975 2 (by decide) (by decide +kernel) (by decide) (by decide) (by decide) (by decide);have a2:9 ∣ g:=fl 9 3 256204778801521550 3 (by decide) (by decide +kernel) (by decide) (by decide) (by decide) (by decide);have a3:25 ∣ g:=fl 25 5 92233720368547758 5 (by decide) (by decide +kernel) (by decide) (by decide) (by decide) (by decide);have a4:7 ∣ g:=fl 7 1 329406144173384850 7 (by decide) (by decide +kernel) (by decide) (by decide) (by decide) (by decide);have a5:11 ∣ g:=fl 11 1 209622091746699450 11 (by decide) (by decide +kernel) (by decide) (by decide) (by decide) (by decide);have a6:13 ∣ g:=fl 13 1 177372539170284150 13 (by decide) (by decide +kernel) (by decide) (by decide) (by decide) (by decide);have a7:31 ∣ g:=fl 31 1 74382032555280450 31 (by decide) (by decide +kernel) (by decide) (by decide) (by decide) (by decide);have a8:41 ∣ g:=fl 41 1 56240073395455950 41 (by decide) (by decide +kernel) (by decide) (by decide) (by decide) (by decide);have a9:61 ∣ g:=fl 61 1 37800705069076950 61 (by decide) (by decide +kernel) (by decide) (by decide) (by decide) (by decide);have a10:151 ∣ g:=fl 151 1 15270483504726450 151 (by decide) (by decide +kernel) (by decide) (by decide) (by decide) (by decide);have a11:331 ∣ g:=fl 331 1 6966293079195450 331 (by decide) (by decide +kernel) (by decide) (by decide) (by decide) (by decide);have a12:1321 ∣ g:=fl 1321 1 1745528394559950 1321 (by decide) (by decide +kernel) (by decide) (by decide) (by decide) (by decide);clear fl;have mk:∀ x y z:Nat,Nat.Coprime x y->x*y=z->x ∣ g->y ∣ g->z ∣ g:=fun x y z h e p q=>e ▸ Nat.Coprime.mul_dvd_of_dvd_of_dvd h p q
 have c:=mk 2 9 18 (by decide +kernel) (by decide) a1 a2;have c:=mk 18 25 450 (by decide +kernel) (by decide) c a3;have c:=mk 450 7 3150 (by decide +kernel) (by decide) c a4;have c:=mk 3150 11 34650 (by decide +kernel) (by decide) c a5;have c:=mk 34650 13 450450 (by decide +kernel) (by decide) c a6;have c:=mk 450450 31 13963950 (by decide +kernel) (by decide) c a7;have c:=mk 13963950 41 572521950 (by decide +kernel) (by decide) c a8;have c:=mk 572521950 61 34923838950 (by decide +kernel) (by decide) c a9;have c:=mk 34923838950 151 5273499681450 (by decide +kernel) (by decide) c a10;have c:=mk 5273499681450 331 1745528394559950 (by decide +kernel) (by decide) c a11;have c:=mk 1745528394559950 1321 2305843009213693950 (by decide +kernel) (by decide) c a12;have e:2305843009213693950 ∣ g:=c;exact absurd (wau h0 (Gm e dd)) (Nat.not_le_of_lt h1)
theorem ziB(i:Nat):uI gp (37^i % gp)=1:=by
 rw[wbd,← wbm,wbd];exact Nat.Coprime.pow_left i (by decide +kernel)
theorem zhC(r:Nat)(h0:0<r)(h1:r<gp):uI gp r=1:=by
 have cancel:∀ i j,i<j->j<2305843009213693950->37^i % gp≠37^j % gp:=fun i j hij hj e=>by
  have e1:37^j=37^i*37^(j - i):=by rw[← ul];congr 1;omega
  have d:gp ∣ 37^j - 37^i:=Nat.dvd_of_mod_eq_zero (Nat.sub_mod_eq_zero_of_mod_eq e.symm);rw[e1,show 37^i*37^(j - i) - 37^i=37^i *(37^(j - i) - 1) by rw[wam,gY]]at d;have c:Nat.Coprime gp (37^i):=(Nat.Coprime.pow_left i (by decide +kernel:Nat.Coprime 37 gp)).symm;have d':=c.dvd_of_dvd_mul_left d;refine zkg (d:=j - i) (by omega) (by omega) ?_;obtain⟨c,hc⟩:=d';have h1:1<=37^(j - i):=Nat.one_le_pow _ _ (by decide);rw[show 37^(j - i)=1+gp*c by omega,Nat.add_mul_mod_self_left]
 have pos:∀ i,0<37^i % gp:=fun i=>by
  have:=ziB i
  rcases gi (37^i % gp)with z|z
  ·rw[z,Nat.gcd_zero_right]at this;exact absurd this (by decide)
  ·exact z
 obtain⟨i,_,e⟩:=onto (n:=2305843009213693950) (f:=fun i=>37^i % gp - 1) (fun i _=>by
   have h:37^i % gp<2305843009213693951:=GS _ (by decide);have:=pos i;show 37^i % gp - 1<_;omega) (fun i j hij hj e=>by
   have:=pos i;have:=pos j;have:=cancel i j hij hj;omega) (r:=r - 1) (by have:r<2305843009213693951:=h1;omega)
 have:=pos i;have e':37^i % gp=r:=by omega
 rw[← e'];exact ziB i
theorem zjH:Pr 2305843009213693951:=⟨by decide,by decide,fun r h0 h1=>by
 have:=zhC r.toNat (by omega) (by show r.toNat<2305843009213693951;omega);rw[uJ,show r.natAbs=r.toNat by omega];exact this⟩
end Nm
namespace La
open Lean.Grind Nm
section
variable{k:Int}
theorem zgW(l:List Int)(w:Int):gcdL (l++[w])=uI (gcdL l) w.natAbs:=by unfold gcdL;rw[GK];rfl
theorem za8(l l':List Int):gcdL (l++l') ∣ gcdL l:=by unfold gcdL;rw[GK];exact(qY l' _).1
theorem zhg{ws:List Int}{i:Nat}(h:gcdL (ws.take i)=1):gcdL ws=1:=by
 have:=za8 (ws.take i) (ws.drop i);rw[List.take_append_drop,h]at this;exact Nat.dvd_one.mp this
theorem zeM{ws:List Int}(h:gcdL ws=1):kap 0 ws=ws:=by
 unfold kap;rw[if_neg (by simp),if_neg (by omega),h];have:(fun w:Int=>w.fdiv ((1:Nat):Int))=id:=funext fun w=>Int.fdiv_one w
 rw[this,List.map_id]
theorem zeo{ws:List Int}(h:gcdL ws=0):kap 0 ws=ws:=by
 unfold kap;rw[if_neg (by simp),if_pos h]
theorem zei{ws:List Int}(h:gcdL ws≠0):kap 0 ws=ws.map fun w=>w.fdiv ((gcdL ws:Nat):Int):=by
 unfold kap;rw[if_neg (by simp),if_neg h]
theorem zeg(h:k≠0)(ws:List Int):kap k ws=ws.map (·.fmod k):=by
 unfold kap;rw[if_pos h]
theorem Yq(rows:List (List Int)):∀ c,(swTo k rows c).1.length +(swTo k rows c).2.length=rows.length
 | 0=>by show 0 +(rows.map (kap k)).length=_;rw[we];omega
 | c+1=>by
  have ih:=Yq rows c;show(kar k c (swTo k rows c)).1.length +(kar k c (swTo k rows c)).2.length=_;generalize swTo k rows c=s at ih;unfold kar;cases e:s.2.filter (fun r=>decide (r.getD c 0≠0))with
  | nil=>exact ih
  | cons l rest =>
   show(s.1.map _++[(c,l)]).length +(s.2.filter _++rest.map _).length=_;have h1:(s.2.filter (fun r=>decide (r.getD c 0≠0))).length=rest.length+1:=by rw[e];rfl
   have h2:∀ l:List (List Int),(l.filter (fun r=>decide (r.getD c 0≠0))).length +(l.filter (fun r=>decide (r.getD c 0=0))).length=l.length:=by
    intro l
    induction l with
    | nil=>rfl
    | cons x l ih =>
     rw[uM,uM]
     by_cases z:x.getD c 0=0
     ·simp only[z,ne_eq,not_true_eq_false,decide_false,decide_true,if_true,vQ];simp only[wax,if_false];simp only[ne_eq]at ih;omega
     ·simp only[z,ne_eq,not_false_eq_true,decide_false,decide_true,if_true,vQ];simp only[wax,if_false];simp only[ne_eq]at ih;omega
   have h3:=h2 s.2;simp only[wy,we,vQ,Gw];omega
theorem zdT:∀ c,swTo k [] c =([],[])
 | 0=>rfl
 | c+1=>by
  show kar k c (swTo k [] c)=_;rw[zdT c];rfl
theorem xx{α:Type}{l:List α}{i:Nat}{x:α}(p:α->Bool)(h:l[i]?=some x):(l.take (i+1)).filter p =(l.take i).filter p ++(if p x=true then [x] else []):=by
 obtain⟨hi,e⟩:=wq.mp h;rw[vN hi,List.filter_append,e,uM,List.filter_nil]
theorem zhQ{ws:List Int}{p:Nat}(hp:p<ws.length)(hz:∀ j,j<p->ws.getD j 0=0)(hn:ws.getD p 0≠0):(ws.filter fun w=>decide (w≠0))[0]?=some (ws.getD p 0):=by
 induction ws generalizing p with
 | nil=>simp at hp
 | cons w ws ih =>
  cases p with
  | zero =>
   have h:w≠0:=by simpa using hn
   rw[uM,if_pos (by simpa using h)];simp
  | succ p =>
   have h0:w=0:=by simpa using hz 0 (Nat.succ_pos p)
   rw[uM,if_neg (by simp[h0])];have:=ih (p:=p) (by simpa using hp) (fun j hj=>by have:=hz (j+1) (by omega);simpa using this) (by simpa using hn);rw[this];simp
end
end La
namespace La
open Lean.Grind Nm
def dB(D B:Nat):Nb->Prop
 | .q r=>∃ a:Int,r *((D:Int):Rat) =((a:Int):Rat)/\a.natAbs<=B
 | .z _=>True
theorem dB.mul{k:Int}{D B D' B':Nat}{x y:Nb}(hx:dB D B x)(hy:dB D' B' y)(ox:x.ok k)(oy:y.ok k):dB (D*D') (B*B') (nmul k x y):=by
 cases x with
 | q r =>
  cases y with
  | q s =>
   obtain⟨a,ea,ha⟩:=hx;obtain⟨b,eb,hb⟩:=hy;refine⟨a*b,?_,?_⟩
   ·have e1:(((D*D':Nat):Int):Rat) =((D:Int):Rat) *((D':Int):Rat):=by rw[uU,vm]
    rw[e1,vm,← ea,← eb]
    grind
   ·rw[vB];exact vf ha hb
  | z j=>exact absurd (show k=0 from ox) oy.1
 | z i =>
  cases y with
  | q s=>exact absurd (show k=0 from oy) ox.1
  | z j=>trivial
theorem dB.add{k:Int}{D B B':Nat}{x y:Nb}(hx:dB D B x)(hy:dB D B' y)(ox:x.ok k)(oy:y.ok k):dB D (B+B') (nadd k x y):=by
 cases x with
 | q r =>
  cases y with
  | q s =>
   obtain⟨a,ea,ha⟩:=hx;obtain⟨b,eb,hb⟩:=hy;refine⟨a+b,?_,?_⟩
   ·rw[wac,← ea,← eb]
    grind
   ·have:=GE a b;omega
  | z j=>exact absurd (show k=0 from ox) oy.1
 | z i =>
  cases y with
  | q s=>exact absurd (show k=0 from oy) ox.1
  | z j=>trivial
theorem dB.up{D B:Nat}{x:Nb}(hx:dB D B x)(e c:Nat)(he:e<=c):dB (e*D) (c*B) x:=by
 cases x with
 | q r =>
  obtain⟨a,ea,ha⟩:=hx;refine⟨(e:Int)*a,?_,?_⟩
  ·have e1:(((e*D:Nat):Int):Rat) =((e:Int):Rat) *((D:Int):Rat):=by rw[uU,vm]
   rw[e1,vm,← ea]
   grind
  ·rw[vB,vS];exact vf he ha
 | z i=>trivial
theorem dB.mono{D B B':Nat}{x:Nb}(hx:dB D B x)(h:B<=B'):dB D B' x:=by
 cases x with
 | q r=>obtain⟨a,ea,ha⟩:=hx;exact⟨a,ea,wI ha h⟩
 | z i=>trivial
theorem dB.num{k w:Int}{D B:Nat}(h:w.natAbs*D<=B):dB D B (nnum k w):=by
 unfold nnum
 split
 ·refine⟨w*D,by rw[vm],?_⟩;rw[vB,vS];exact h
 ·trivial
theorem dB.parts{r:Rat}{D B:Nat}(hD:D≠0)(h:dB D B (.q r)):r.den<=D/\r.num.natAbs<=B:=by
 obtain⟨a,ea,ha⟩:=h;have e0:=kfRat.rat r rfl;have e0':r *((r.den:Int):Rat) =((r.num:Int):Rat):=e0;have e1:r.num *(D:Int)=a *(r.den:Int):=by
  have:((r.num *(D:Int):Int):Rat) =((a *(r.den:Int):Int):Rat):=by
   rw[vm,vm,← e0',← ea]
   grind
  exact wad.mp this
 have e2:r.num.natAbs*D=a.natAbs*r.den:=by
  have:=congrArg Int.natAbs e1;rw[vB,vB,vS,vS]at this;exact this
 have cop:Nat.Coprime r.den r.num.natAbs:=(GT.mp r.reduced);have dv:r.den ∣ D:=cop.dvd_of_dvd_mul_left ⟨a.natAbs,by rw[e2,uk]⟩;have le:r.den<=D:=wau (by omega) dv;refine⟨le,?_⟩;have h1:r.num.natAbs*D<=a.natAbs*D:=by rw[e2];exact vg _ le
 have h2:r.num.natAbs<=a.natAbs:=Nat.le_of_mul_le_mul_right h1 (by omega);omega
section
variable{k:Int}{F:Type}[Field F]
def SameRm(k:Int)(M N:Tb):Prop:=∀(F:Type) [Field F] (φ:Kf k F) (v:Nat->F),Span (RmN φ M) v↔Span (RmN φ N) v
theorem SameRm.refl(M:Tb):SameRm k M M:=fun F _ φ v=>Iff.rfl
theorem ym{α:Type}{l:List α}{i:Nat}{x y:α}(h:y∈l.set i x):y=x\/y∈l:=by
 rcases List.mem_or_eq_of_mem_set h with h|h
 ·exact .inr h
 ·exact .inl h
theorem zj6{φ:Kf k F}{f:Nb->Nb}{xs:List Nb}(g:F->F)(h0:g 0=0)(h:∀ x∈xs,φ.to (f x)=g (φ.to x))(j:Nat):nv φ (xs.map f) j=g (nv φ xs j):=by
 rcases wO j xs.length with l|l
 ·rw[yq φ (x:=f xs[j]) (by rw[wo,wg l];rfl),yq φ (wg l),h _ (wp l)]
 ·rw[yL φ (by rw[we];exact l),yL φ l,h0]
theorem zj8{φ:Kf k F}{f:Nb->Nb->Nb}{xs ys:List Nb}(hl:xs.length=ys.length)(g:F->F->F)(h0:g 0 0=0)(h:∀ x∈xs,∀ y∈ys,φ.to (f x y)=g (φ.to x) (φ.to y))(j:Nat):nv φ (vE f xs ys) j=g (nv φ xs j) (nv φ ys j):=by
 rcases wO j xs.length with l|l
 ·have l2:j<ys.length:=by omega
  rw[yq φ (x:=f xs[j] ys[j]) (by rw[vP,wg l,wg l2]),yq φ (wg l),yq φ (wg l2),h _ (wp l) _ (wp l2)]
 ·rw[yL φ (by rw[wZ];omega),yL φ l,yL φ (by omega),h0]
theorem zkD(hk:kab k){n:Nat}{M R D:Tb}{ls ld:List Nat}(h:∀(F:Type) [Field F] (φ:Kf k F),kaq φ n M R ls)(hD:∀(F:Type) [Field F] (φ:Kf k F),IsR φ n D ld)(s:SameRm k D M):R=D:=by
 obtain⟨F,_,_,⟨φ⟩⟩:=ye hk;exact(h F φ).unique (hD F φ).red (fun v q=>(s F φ v).mpr q) (fun v q=>(s F φ v).mp q)
end
end La
namespace La
open Lean.Grind Nm
section
variable{k:Int}{F:Type}[Field F]
theorem zc3{n l:Nat}{u v:Nat->F}(hl:l<n)(h:∀ j,j<n->j≠l->u j*v j=0):dot n u v=u l*v l:=by
 induction n with
 | zero=>exact absurd hl (vI l)
 | succ n ih =>
  simp only[dot]
  by_cases e:l=n
  ·subst e;rw[dot_zero l u v fun j hj=>h j (by omega) (by omega)];grind
  ·rw[ih (by omega) fun j hj ne=>h j (by omega) ne,h n (by omega) (Ne.symm e)];grind
theorem jw(n:Nat)(u v w:Nat->F):dot n u (fun j=>v j+w j)=dot n u v+dot n u w:=by
 rw[zV,QU,zV n v,zV n w]
theorem qp(a:F)(n:Nat)(u v:Nat->F):dot n u (fun j=>a*v j)=a*dot n u v:=by
 rw[zV,qQ,zV n v]
theorem Span.dot_zero{S:(Nat->F)->Prop}{n:Nat}{x v:Nat->F}(h:Span S v)(z:∀ r,S r->dot n r x=0):dot n v x=0 :=
 h.all (P:=fun v=>dot n v x=0) (La.dot_zero n _ _ fun j _=>by grind) fun c r v hr hv=>by
  rw[QU n (fun j=>c*r j) v x,qQ,z r hr,hv];grind
theorem zcf{α β:Type}{xs:List α}{ys:List β}{i:Nat}{a:α}{b:β}(h1:xs[i]?=some a)(h2:ys[i]?=some b):(a,b)∈xs.zip ys :=
 wk (i:=i) (by rw[uX];exact⟨h1,h2⟩)
def trF(n:Nat)(A:Tb):Tb:=(vd n).map fun j=>A.map fun r=>r.getD j (.z 0)
def kah(l:Nat)(c:F):Nat->F:=fun j=>if j=l then c else 0
theorem yZ{n l:Nat}(hl:l<n)(u:Nat->F)(c:F):dot n u (kah l c)=c*u l:=by
 rw[zc3 hl fun j hj ne=>by unfold kah;rw[if_neg ne];grind];unfold kah;rw[if_pos rfl];grind
theorem zkL(φ:Kf k F){n j i:Nat}{A:Tb}{a:List Nb}(oA:OkM k n A)(hj:j<n)(ha:A[i]?=some a):nv φ (A.map fun r=>r.getD j (.z 0)) i=nv φ a j:=by
 have la:=(oA a (wk ha)).1;have hj':j<a.length:=by omega
 rw[yq φ (x:=a.getD j (.z 0)) (by rw[wo,ha];rfl),yq φ (wg hj'),wj,wg hj'];rfl
end
end La
namespace La
open Lean.Grind Nm
def rowD(D B:Nat)(xs:List Nb):Prop:=∀ x∈xs,dB D (2^B - 1) x
def rowB(B:Nat)(xs:List Nb):Prop:=∃ D:Nat,D≠0/\D<2^B/\rowD D B xs
def kak(B:Nat)(M:Tb):Prop:=∀ r∈M,rowB B r
theorem rowB.mono{B C:Nat}{xs:List Nb}(h:rowB B xs)(hc:B<=C):rowB C xs:=by
 obtain⟨D,d0,d1,hd⟩:=h;have:2^B<=2^C:=ve (by decide) hc;exact⟨D,d0,by omega,fun x hx=>(hd x hx).mono (by omega)⟩
theorem kak.mono{B C:Nat}{M:Tb}(h:kak B M)(hc:B<=C):kak C M:=fun r hr=>(h r hr).mono hc
theorem kak.app{B:Nat}{M N:Tb}(h:kak B M)(g:kak B N):kak B (M++N):=fun r hr=>by
 rcases wu.mp hr with q|q
 ·exact h r q
 ·exact g r q
theorem dB.den_dvd{D B:Nat}{r:Rat}(hD:D≠0)(h:dB D B (.q r)):(r.den:Int) ∣ (D:Int):=by
 obtain⟨a,ea,ha⟩:=h;have e0':r *((r.den:Int):Rat) =((r.num:Int):Rat):=kfRat.rat r rfl;have e1:r.num *(D:Int)=a *(r.den:Int):=by
  have:((r.num *(D:Int):Int):Rat) =((a *(r.den:Int):Int):Rat):=by
   rw[vm,vm,← e0',← ea]
   grind
  exact wad.mp this
 have e2:r.num.natAbs*D=a.natAbs*r.den:=by
  have:=congrArg Int.natAbs e1;rw[vB,vB,vS,vS]at this;exact this
 have cop:Nat.Coprime r.den r.num.natAbs:=(GT.mp r.reduced);have dv:r.den ∣ D:=cop.dvd_of_dvd_mul_left ⟨a.natAbs,by rw[e2,uk]⟩;exact Int.ofNat_dvd.mpr dv
theorem zgS{D B:Nat}{b:Int}{x:Nb}{k:Int}(hk:kab k)(ox:x.ok k)(h7:61<=B)(hD:D≠0)(h:dB D (2^B - 1) x)(hb:0<b)(hx:dvB b x)(hd:k=0->b ∣ (D:Int)):(scW b x).natAbs<2^B:=by
 have p2:0<2^B:=gu (by decide);cases x with
 | q r =>
  obtain⟨a,ea,ha⟩:=h;obtain⟨e,he⟩:=hd ox;have hdv:(r.den:Int) ∣ b:=hx;have e1:=qM hdv (js r);have e0':r *((r.den:Int):Rat) =((r.num:Int):Rat):=kfRat.rat r rfl;have key:a=scW b (.q r)*e:=by
   show a=r.num*b.fdiv (r.den:Int)*e;generalize b.fdiv (r.den:Int)=u at *;have hDD:((D:Int):Rat) =(u:Rat) *((r.den:Int):Rat) *(e:Rat):=by rw[he,← e1,vm,vm]
   have:((a:Int):Rat) =((r.num*u*e:Int):Rat):=by
    rw[vm,vm,← ea,← e0',hDD];generalize ((r.den:Int):Rat)=dd
    grind
   exact wad.mp this
  have ene:e≠0:=fun z=>by rw[z,Gy]at he;omega
  have:(scW b (.q r)).natAbs<=a.natAbs:=by
   rw[key,vB];exact uG _ (gw.mpr ene)
  omega
 | z i =>
  have:=hk.lt;obtain⟨_,i0,i1⟩:=ox;show i.natAbs<2^B;have:2^61<=2^B:=ve (by decide) h7;have:(2:Nat)^61=2305843009213693952:=by decide
  omega
theorem zjD{b d D:Int}(hb:0<b)(hd:0<d)(h1:b ∣ D)(h2:d ∣ D):b.fdiv ((vk b d:Nat):Int)*d ∣ D:=by
 have g0:0 <((vk b d:Nat):Int):=by have:=GB d (show b≠0 by omega);omega
 have db:((vk b d:Nat):Int) ∣ b:=gD b d;have dd:((vk b d:Nat):Int) ∣ d:=Gh b d;have e1:=qM db (by omega);have e2:=qM dd (by omega);have cop:vk (b.fdiv ((vk b d:Nat):Int)) (d.fdiv ((vk b d:Nat):Int))=1:=by
  rw[vR db,vR dd,wa9 db dd,vS];exact wba (by omega)
 generalize hx:b.fdiv ((vk b d:Nat):Int)=x at *;generalize hy:d.fdiv ((vk b d:Nat):Int)=y at *;generalize hg:((vk b d:Nat):Int)=g at *;obtain⟨s,hs⟩:=h1;obtain⟨t,ht⟩:=h2;have e3:x*s=y*t:=by
  have:g *(x*s)=g *(y*t):=by
   have h:x*g*s=y*g*t:=by rw[e1,e2,← hs,← ht]
   grind
  exact Int.eq_of_mul_eq_mul_left (by omega) this
 have dv:y ∣ s:=by
  have:y ∣ x*s:=⟨t,e3⟩;have h1:y.natAbs ∣ x.natAbs*s.natAbs:=by rw[← vB];exact wan.mpr this
  have c1:Nat.Coprime y.natAbs x.natAbs:=by
   have:uI x.natAbs y.natAbs=1:=cop;exact(GT.mp this)
  exact wan.mp (c1.dvd_of_dvd_mul_left h1)
 obtain⟨u,hu⟩:=dv;refine⟨u,?_⟩;rw[hs,hu,← e1,← e2]
 grind
theorem zeB{k:Int}(hk:kab k){B p:Nat}{ws:List Int}(h:∀ w∈ws,w.natAbs<2^B)(hp:p<ws.length)(ne:ws.getD p 0≠0)(nn:nnum k (ws.getD p 0)≠nnum k 0):rowB B (overL k (p,ws)):=by
 have hl:ws.getD p 0∈ws:=by
  rw[wj,wg hp];exact wp hp
 have p2:0<2^B:=gu (by decide);have hlb:=h _ hl;refine⟨(ws.getD p 0).natAbs,by omega,hlb,fun x hx=>?_⟩;unfold overL at hx;obtain⟨w,hw,rfl⟩:=wm.mp hx;show dB (ws.getD p 0).natAbs (2^B - 1) (ndiv k (nnum k w) (nnum k (ws.getD p 0)));generalize hL:ws.getD p 0=l at *
 by_cases k0:k=0
 ·subst k0;have hwb:=h w hw;have e1:nnum 0 w=.q (w:Rat):=rfl;have e2:nnum 0 l=.q (l:Rat):=rfl;rw[e1,e2];show ∃ a:Int,(w:Rat) / (l:Rat) *(((l.natAbs:Nat):Int):Rat) =((a:Int):Rat)/\a.natAbs<=2^B - 1;have nl:(l:Rat)≠0:=fun z=>ne (uH.mp z)
  rcases Int.le_total 0 l with s|s
  ·refine⟨w,?_,by omega⟩;rw[show((l.natAbs:Nat):Int)=l by omega]
   grind
  ·refine⟨-w,?_,by omega⟩;rw[show((l.natAbs:Nat):Int) = -l by omega,wae,wae]
   grind
 ·have e1:nnum k w=.z (w.fmod k):=by unfold nnum;rw[if_neg k0]
  have e2:nnum k l=.z (l.fmod k):=by unfold nnum;rw[if_neg k0]
  rw[e1,e2]
  trivial
end La
namespace La
open Lean.Grind Nm
section
variable{k:Int}{F:Type}[Field F]
abbrev Rm(φ:Kf k F)(M:Tb):(Nat->F)->Prop:=Span (RmN φ M)
def perp(n:Nat)(U:(Nat->F)->Prop):(Nat->F)->Prop:=fun v=>(∀ j,n<=j->v j=0)/\∀ u,U u->dot n u v=0
variable{φ:Kf k F}{n:Nat}{R R' A:Tb}{ls ls':List Nat}
theorem IsR.supp(h:IsR φ n R ls){v:Nat->F}(hv:Rm φ R v)(j:Nat)(hj:n<=j):v j=0:=h.rr.out_of (h.rows.mpr hv) j hj
theorem IsR.ext(h:IsR φ n R ls)(h':IsR φ n R' ls')(e:∀ v,Rm φ R v↔Rm φ R' v):R=R':=(h.unique h' (fun v=>(e v).mp) (fun v=>(e v).mpr)).1
structure AgR(k:Int)(n:Nat)(R:Tb)(ls:List Nat)(f:Nat)(xs:List Nb):Prop where
 len:xs.length=n
 ok:OkR k xs
 one:xs[f]?=some (nnum k 1)
 at_:∀(i l:Nat)(r:List Nb)(y:Nb),ls[i]?=some l->R[i]?=some r->r[f]?=some y->xs[l]?=some (nsub k (nnum k 0) y)
 off:∀ j,j<n->j≠f->j∉ls->xs[j]?=some (nnum k 0)
theorem IsR.get(h:IsR φ n R ls){i l:Nat}{r:List Nb}(hl:ls[i]?=some l)(hr:R[i]?=some r):(l,nv φ r)∈ls.zip (R.map (nv φ)):=zcf hl (by rw[wo,hr];rfl)
theorem IsR.lead_of(h:IsR φ n R ls){l:Nat}(hl:l∈ls):∃(i:Nat)(r:List Nb),ls[i]?=some l/\R[i]?=some r:=by
 obtain⟨i,hi,e⟩:=wG hl;have h2:i<R.length:=by rw[← h.len];exact hi
 exact⟨i,R[i],by rw[wg hi,e],wg h2⟩
theorem IsR.row_of(h:IsR φ n R ls){r:List Nb}(hr:r∈R):∃(i l:Nat),ls[i]?=some l/\R[i]?=some r:=by
 obtain⟨i,hi,e⟩:=wG hr;have h2:i<ls.length:=by rw[h.len];exact hi
 exact⟨i,ls[i],wg h2,by rw[wg hi,e]⟩
theorem AgR.val(h:IsR φ n R ls){f:Nat}{xs:List Nb}(hk:kab k)(hf:f<n)(g:AgR k n R ls f xs) :
  nv φ xs f=1/\(∀(i l:Nat)(r:List Nb),ls[i]?=some l->R[i]?=some r->nv φ xs l = - nv φ r f)/\(∀ j,j≠f->j∉ls->nv φ xs j=0):=by
 refine⟨by rw[yq φ g.one,φ.num1],fun i l r hl hr=>?_,fun j hj hn=>?_⟩
 ·have orr:=h.ok r (wk hr);have hf':f<r.length:=by rw[orr.1];exact hf
  rw[yq φ (g.at_ i l r _ hl hr (wg hf')),φ.sub (ya hk 0) (orr.2 _ (wp hf')),φ.num0,yq φ (wg hf')]
  grind
 ·rcases wO j n with z|z
  ·rw[yq φ (g.off j z hj hn),φ.num0]
  ·exact yL φ (by rw[g.len];exact z)
theorem zcd(n:Nat)(u v w:Nat->F):dot n u (fun j=>v j - w j)=dot n u v - dot n u w:=by
 have:(fun j=>v j - w j)=fun j=>v j +(-1)*w j:=funext fun j=>by grind
 rw[this,jw n u v (fun j=>(-1)*w j),qp];grind
theorem Span.dot_zero_r{S:(Nat->F)->Prop}{x v:Nat->F}(h:Span S v)(z:∀ r,S r->dot n x r=0):dot n x v=0:=by
 rw[zV];exact h.dot_zero fun r hr=>by rw[zV];exact z r hr
theorem zkl(h:IsR φ n R ls)(hk:kab k){f:Nat}{xs:List Nb}(hf:f<n)(nf:f∉ls)(g:AgR k n R ls f xs){r:List Nb}(hr:r∈R):dot n (nv φ r) (nv φ xs)=0:=by
 obtain⟨v1,v2,v3⟩:=g.val h hk hf;obtain⟨i,l,hl,hi⟩:=h.row_of hr;have hp:=h.get hl hi;have ln:l<n:=h.rr.lt _ hp;have lf:l≠f:=fun e=>nf (by rw[← e];exact wk hl)
 have e:dot n (nv φ r) (nv φ xs)=dot n (nv φ r) (kah f 1)+dot n (nv φ r) (kah l (- nv φ r f)):=by
  rw[← jw];refine zR fun j hj=>?_
  unfold kah
  by_cases e1:j=f
  ·subst e1;rw[if_pos rfl,if_neg (Ne.symm lf),v1];grind
  ·by_cases e2:j=l
   ·subst e2;rw[if_neg lf,if_pos rfl,v2 i j r hl hi];grind
   ·rw[if_neg e1,if_neg e2]
    by_cases hm:j∈ls
    ·obtain⟨i',r',hl',hi'⟩:=h.lead_of hm;have:nv φ r j=0:=h.rr.oth _ hp _ (h.get hl' hi') (Ne.symm e2);rw[this];grind
    ·rw[v3 j e1 hm];grind
 have o:nv φ r l=1:=h.rr.one _ hp;rw[e,yZ hf,yZ ln,o];grind
theorem Xp(h:IsR φ n R ls)(hk:kab k){fs:List Nat}(inc:fs.Pairwise (·<·))(hfs:∀ f,f∈fs↔f<n/\f∉ls)(la:fs.length=A.length)(hA:∀(i f:Nat)(xs:List Nb),fs[i]?=some f->A[i]?=some xs->AgR k n R ls f xs)(v:Nat->F) :
  Rm φ A v↔perp n (Rm φ R) v:=by
 have rowA:∀ xs∈A,∃ f∈fs,AgR k n R ls f xs:=fun xs hx=>by
  obtain⟨i,hi,e⟩:=wG hx;have h2:i<fs.length:=by omega
  exact⟨fs[i],wp h2,hA i fs[i] xs (wg h2) (by rw[wg hi,e])⟩
 have to:∀ w,Rm φ A w->perp n (Rm φ R) w:=fun w hw=>by
  refine⟨fun j hj=>hw.zero_at fun r ⟨xs,hx,e⟩=>?_,fun u hu=>?_⟩
  ·obtain⟨f,_,g⟩:=rowA xs hx;rw[e];exact yL φ (by rw[g.len];exact hj)
  ·refine hu.dot_zero fun r ⟨row,hrow,e⟩=>?_
   rw[e];refine hw.dot_zero_r fun s ⟨xs,hx,e'⟩=>?_
   obtain⟨f,hf,g⟩:=rowA xs hx;have:=(hfs f).mp hf;rw[e'];exact zkl h hk this.1 this.2 g hrow
 refine⟨to v,fun hv=>?_⟩
 let PA:List (Pv F):=fs.zip (A.map (nv φ))
 have incA:PA.Pairwise fun a b=>a.1<b.1:=by
  show(fs.zip (A.map (nv φ))).Pairwise fun a b=>a.1<b.1
  rw[← uB (f:=Prod.fst) (R:=(·<·)),gb (by rw[we];omega)];exact inc
 have memPA:∀ p∈PA,∃ xs,p.2=nv φ xs/\AgR k n R ls p.1 xs/\p.1∈fs:=fun p hp=>by
  obtain⟨i,hi,e⟩:=wG hp;have hi':i <(fs.zip (A.map (nv φ))).length:=hi;rw[um,we]at hi';have h1:i<fs.length:=by omega
  have h2:i<A.length:=by omega
  have e':(fs.zip (A.map (nv φ)))[i]=p:=e;rw[GR,Gn]at e';refine⟨A[i],by rw[← e'],?_,by rw[← e'];exact wp h1⟩;rw[← e'];exact hA i _ _ (wg h1) (wg h2)
 have cA:Rm φ A (comb PA v):=(YO v PA).mono fun r ⟨p,hp,e⟩=>(Yr (φ:=φ) la r).mp ⟨p,hp,e⟩
 have pc:=to _ cA;have wz:∀ j,v j - comb PA v j=0:=by
  have free:∀ f,f∈fs->comb PA v f=v f:=fun f hf=>by
   obtain⟨i,hi,e⟩:=wG hf;have h2:i<A.length:=by omega
   have hm:(f,nv φ A[i])∈PA:=zcf (xs:=fs) (ys:=A.map (nv φ)) (i:=i) (by rw[wg hi,e]) (by rw[wo,wg h2];rfl);have hfl:=(hfs f).mp hf;have key:comb PA v f=v f*1:=by
    have gen:∀(P:List (Pv F)),P.Pairwise (fun a b=>a.1<b.1)->(∀ p∈P,∃ xs,p.2=nv φ xs/\AgR k n R ls p.1 xs/\p.1∈fs)->(∃ p∈P,p.1=f)->comb P v f=v f*1:=by
     intro P
     induction P with
     | nil=>intro _ _ ⟨p,hp,_⟩;exact nomatch hp
     | cons p P ih =>
      intro pw hm hex;rw[uq]at pw;obtain⟨xs,ex,g,pf⟩:=hm p wt;have vals:=g.val h hk ((hfs p.1).mp pf).1;simp only[comb]
      by_cases ep:p.1=f
      ·rw[xn v f P fun q hq=>?_]
       ·rw[ex,← ep,vals.1];grind
       ·obtain⟨ys,ey,g',qf⟩:=hm q (wv _ hq);have vq:=g'.val h hk ((hfs q.1).mp qf).1;have:p.1<q.1:=pw.1 q hq;rw[ey,vq.2.2 f (by omega) hfl.2];grind
      ·obtain⟨q,hq,eq⟩:=hex
       rcases wL.mp hq with z|z
       ·rw[z]at eq;exact absurd eq ep
       ·rw[ih pw.2 (fun r hr=>hm r (wv _ hr)) ⟨q,z,eq⟩,ex,vals.2.2 f (Ne.symm ep) hfl.2];grind
    exact gen PA incA memPA ⟨_,hm,rfl⟩
   rw[key];grind
  intro j
  rcases wO j n with hj|hj
  ·by_cases hm:j∈ls
   ·obtain⟨i,r,hl,hr⟩:=h.lead_of hm;have hp:=h.get hl hr;have d0:dot n (nv φ r) (fun j=>v j - comb PA v j)=0:=by
     have h1:dot n (nv φ r) v=0:=hv.2 _ (.of ⟨r,wk hr,rfl⟩);have h2:dot n (nv φ r) (comb PA v)=0:=pc.2 _ (.of ⟨r,wk hr,rfl⟩);rw[zcd,h1,h2];grind
    rw[zc3 hj fun t ht ne=>?_]at d0
    ·have o:nv φ r j=1:=h.rr.one _ hp;rw[o]at d0
     grind
    ·by_cases tm:t∈ls
     ·obtain⟨i',r',hl',hi'⟩:=h.lead_of tm;have:nv φ r t=0:=h.rr.oth _ hp _ (h.get hl' hi') (Ne.symm ne);rw[this];grind
     ·rw[free t ((hfs t).mpr ⟨ht,tm⟩)];grind
   ·rw[free j ((hfs j).mpr ⟨hj,hm⟩)];grind
  ·rw[hv.1 j hj,pc.1 j hj];grind
 exact cA.cast fun j=>by have:=wz j;grind
theorem ja(h:IsR φ n R ls)(hk:kab k)(v:Nat->F):perp n (perp n (Rm φ R)) v↔Rm φ R v:=by
 constructor
 ·intro hv;have cR:Rm φ R (comb (ls.zip (R.map (nv φ))) v):=h.rows.mp (YO v _);have ag:∀ f,f<n->f∉ls->∃ a:Nat->F,perp n (Rm φ R) a/\a f=1/\∀ j,j≠f->j∉ls->a j=0:=fun f hf nf=>by
   let a:Nat->F:=fun j=>if j=f then 1 else comb (ls.zip (R.map (nv φ))) (fun _=>0) j +(if hj:j∈ls then - (nv φ ((R.getD (ls.idxOf j) [])) f)else 0)
   have a0:∀ j,j≠f->j∉ls->a j=0:=fun j hj hn=>by
    show(if j=f then 1 else _)=_;rw[if_neg hj,dif_neg hn,xn _ j _ fun p _=>by grind];grind
   have al:∀(i l:Nat)(r:List Nb),ls[i]?=some l->R[i]?=some r->a l = - nv φ r f:=fun i l r hl hr=>by
    have lf:l≠f:=fun e=>nf (by rw[← e];exact wk hl)
    have hm:=wk hl;have nd:ls.Nodup:=by
     have:=h.rr.inc;rw[← uB (f:=Prod.fst) (R:=(·<·)),gb (by rw[we];exact uS h.len)]at this;exact this.imp fun h=>wY h
    have ei:ls.idxOf l=i:=by
     have h1:ls[ls.idxOf l]?=some l:=by rw[wg (uw hm)];simp
     exact(uC (uw hm) nd).mp (h1.trans hl.symm)
    show(if l=f then 1 else _)=_;rw[if_neg lf,dif_pos hm,xn _ l _ fun p _=>by grind,ei,wj,hr];show 0 + -(nv φ r f)=_
    grind
   refine⟨a,⟨fun j hj=>a0 j (by omega) fun hm=>?_,fun u hu=>?_⟩,by show(if f=f then 1 else _)=_;rw[if_pos rfl],a0⟩
   ·obtain⟨i,r,hl,hr⟩:=h.lead_of hm;have:j<n:=h.rr.lt _ (h.get hl hr);omega
   ·refine hu.dot_zero fun s ⟨r,hr,e⟩=>?_
    rw[e];obtain⟨i,l,hl,hi⟩:=h.row_of hr;have hp:=h.get hl hi;have ln:l<n:=h.rr.lt _ hp;have lf:l≠f:=fun e=>nf (by rw[← e];exact wk hl)
    have af:a f=1:=by show(if f=f then 1 else _)=_;rw[if_pos rfl]
    have e:dot n (nv φ r) a=dot n (nv φ r) (kah f 1)+dot n (nv φ r) (kah l (- nv φ r f)):=by
     rw[← jw];refine zR fun j hj=>?_
     unfold kah
     by_cases e1:j=f
     ·subst e1;rw[if_pos rfl,if_neg (Ne.symm lf),af];grind
     ·by_cases e2:j=l
      ·subst e2;rw[if_neg lf,if_pos rfl,al i j r hl hi];grind
      ·rw[if_neg e1,if_neg e2]
       by_cases hm:j∈ls
       ·obtain⟨i',r',hl',hi'⟩:=h.lead_of hm;have:nv φ r j=0:=h.rr.oth _ hp _ (h.get hl' hi') (Ne.symm e2);rw[this];grind
       ·rw[a0 j e1 hm];grind
    have o:nv φ r l=1:=h.rr.one _ hp;rw[e,yZ hf,yZ ln,o];grind
  have lead:∀ l,l∈ls->comb (ls.zip (R.map (nv φ))) v l=v l:=fun l hl=>by
   obtain⟨i,r,h1,h2⟩:=h.lead_of hl;have hp:=h.get h1 h2;have gen:∀(P:List (Pv F)),P.Pairwise (fun a b=>a.1<b.1)->(∀ p∈P,p∈ls.zip (R.map (nv φ)))->(∃ p∈P,p.1=l)->comb P v l=v l*1:=by
    intro P
    induction P with
    | nil=>intro _ _ ⟨p,hp,_⟩;exact nomatch hp
    | cons p P ih =>
     intro pw hm hex;rw[uq]at pw;have hp0:=hm p wt;simp only[comb]
     by_cases ep:p.1=l
     ·have o:p.2 p.1=1:=h.rr.one _ hp0;rw[xn v l P fun q hq=>?_]
      ·rw[← ep,o];grind
      ·have hq0:=hm q (wv _ hq);have:p.1<q.1:=pw.1 q hq;have z:q.2 p.1=0:=h.rr.oth q hq0 p hp0 (by omega);rw[← ep,z];grind
     ·obtain⟨q,hq,eq⟩:=hex
      rcases wL.mp hq with z|z
      ·rw[z]at eq;exact absurd eq ep
      ·have hq0:=hm q (wv _ z);have z2:p.2 q.1=0:=h.rr.oth p hp0 q hq0 (by rw[eq];exact ep);rw[ih pw.2 (fun r hr=>hm r (wv _ hr)) ⟨q,z,eq⟩,← eq,z2];grind
   rw[gen _ h.rr.inc (fun p hp=>hp) ⟨_,hp,rfl⟩];grind
  refine cR.cast fun j=>?_
  rcases wO j n with hj|hj
  ·by_cases hm:j∈ls
   ·exact lead j hm
   ·obtain⟨a,pa,af,a0⟩:=ag j hj hm;have d0:dot n a (fun j=>v j - comb (ls.zip (R.map (nv φ))) v j)=0:=by
     have h1:dot n a v=0:=hv.2 a pa;have h2:dot n a (comb (ls.zip (R.map (nv φ))) v)=0:=by rw[zV];exact pa.2 _ cR
     rw[zcd,h1,h2];grind
    rw[zc3 hj fun t ht ne=>?_,af]at d0
    ·grind
    ·by_cases tm:t∈ls
     ·rw[lead t tm];grind
     ·rw[a0 t ne tm];grind
  ·rw[h.supp cR j hj,hv.1 j hj]
 ·intro hv;exact⟨fun j hj=>h.supp hv j hj,fun u hu=>by rw[zV];exact hu.2 v hv⟩
end
end La
namespace La
open Lean.Grind Nm
section
variable{k:Int}{F:Type}[Field F]{φ:Kf k F}{n:Nat}
theorem Zu(hk:kab k):∀ {xs:List Nb},OkR k xs->∃ b,Scl k xs (xs.map (scW b)) b:=by
 intro xs ox
 by_cases k0:k=0
 ·have:∃ b:Int,0<b/\∀ x∈xs,dvB b x:=by
   induction xs with
   | nil=>exact⟨1,by decide,fun x hx=>nomatch hx⟩
   | cons x xs ih =>
    obtain⟨b,b0,hb⟩:=ih fun y hy=>ox y (wv _ hy)
    cases x with
    | z i=>exact absurd k0 (ox (.z i) wt).1
    | q r =>
     refine⟨b *(r.den:Int),GC b0 (den_pos r),fun y hy=>?_⟩
     rcases wL.mp hy with e|hy
     ·rw[e];exact waR _ _
     ·have:=hb y hy;cases y with
      | q s=>exact wa2 (show(s.den:Int) ∣ b from this) (waE _ _)
      | z j=>trivial
  obtain⟨b,b0,hb⟩:=this;exact⟨b,rfl,b0,fun z=>absurd k0 z,hb⟩
 ·refine⟨1,rfl,by decide,fun _=>rfl,fun x hx=>?_⟩;have o:=ox x hx;cases x with
  | q r=>exact absurd o k0
  | z i=>trivial
theorem xD(φ:Kf k F)(hk:kab k){M:Tb}(oM:OkM k n M):∃ R ls,kaq φ n M R ls:=by
 have:∃ Ws:List (List Int),Ws.length=M.length/\∀(i:Nat)(r:List Nb)(ws:List Int),M[i]?=some r->Ws[i]?=some ws->∃ b,Scl k r ws b:=by
  induction M with
  | nil=>exact⟨[],rfl,fun i r ws h=>by simp at h⟩
  | cons m M ih =>
   obtain⟨Ws,l,h⟩:=ih fun r hr=>oM r (wv _ hr)
   obtain⟨b,hb⟩:=Zu hk (oM m wt).2;refine⟨m.map (scW b)::Ws,by simp[l],fun i r ws h1 h2=>?_⟩;cases i with
   | zero=>simp at h1 h2;subst h1 h2;exact⟨b,hb⟩
   | succ i=>exact h i r ws (by simpa using h1) (by simpa using h2)
 obtain⟨Ws,l,h⟩:=this;exact⟨_,_,JA φ hk oM l h⟩
def ofV(φ:Kf k F)(n:Nat)(v:Nat->F):List Nb:=(vd n).map fun j=>φ.of (v j)
theorem zdl(v:Nat->F):(ofV φ n v).length=n/\OkR k (ofV φ n v):=by
 refine⟨by unfold ofV;simp,fun x hx=>?_⟩;unfold ofV at hx;obtain⟨j,_,rfl⟩:=wm.mp hx;exact φ.ok _
theorem zdg{v:Nat->F}(hv:∀ j,n<=j->v j=0)(j:Nat):nv φ (ofV φ n v) j=v j:=by
 rcases wO j n with h|h
 ·rw[yq φ (x:=φ.of (v j)) (by unfold ofV;rw[wo,vG h];rfl),φ.to_of]
 ·rw[yL φ (by rw[(zdl (φ:=φ) v).1];exact h),hv j h]
theorem jB:∀ {P Q:List Nat},P.Pairwise (·<·)->Q.Pairwise (·<·)->(∀ p∈P,p∈Q)->(∀ q∈Q,q∈P)->P=Q
 | [],[],_,_,_,_=>rfl
 | [],q::_,_,_,_,h=>nomatch h q wt
 | p::_,[],_,_,h,_=>nomatch h p wt
 | p::P,q::Q,hP,hQ,h1,h2=>by
  rw[uq]at hP hQ;have e:p=q:=by
   rcases wL.mp (h1 p wt)with e|m
   ·exact e
   ·rcases wL.mp (h2 q wt)with e|m'
    ·exact e.symm
    ·have:=hP.1 q m';have:=hQ.1 p m;omega
  subst e;rw[jB hP.2 hQ.2 (fun r hr=>?_) (fun r hr=>?_)]
  ·rcases wL.mp (h1 r (wv _ hr))with e|m
   ·subst e;exact absurd (hP.1 r hr) (vY _)
   ·exact m
  ·rcases wL.mp (h2 r (wv _ hr))with e|m
   ·subst e;exact absurd (hQ.1 r hr) (vY _)
   ·exact m
theorem jK(p:Nat->Bool):∀ l:List Nat,(l.filter p).length +(l.filter fun x=>!p x).length=l.length
 | []=>rfl
 | x::l=>by
  have ih:=jK p l;rw[uM,uM];cases h:p x <;> simp <;> omega
theorem zhq{P Q:List Nat}(hP:P.Pairwise (·<·))(hQ:Q.Pairwise (·<·))(sub:∀ p∈P,p∈Q)(ex:∃ q∈Q,q∉P)(un:∀ p∈Q,∀ q∈Q,p∉P->q∉P->p=q):Q.length=P.length+1:=by
 have e1:Q.filter (fun x=>decide (x∈P))=P:=jB (hQ.filter _) hP (fun p hp=>by simpa using (wX.mp hp).2) (fun p hp=>wX.mpr ⟨sub p hp,by simpa using hp⟩);have e2:(Q.filter fun x=>!decide (x∈P)).length=1:=by
  obtain⟨q,hq,nq⟩:=ex;have hm:q∈Q.filter fun x=>!decide (x∈P):=wX.mpr ⟨hq,by simpa using nq⟩
  have nd:(Q.filter fun x=>!decide (x∈P)).Pairwise (·<·):=hQ.filter _;cases hf:Q.filter fun x=>!decide (x∈P)with
  | nil=>rw[hf]at hm;exact nomatch hm
  | cons a l =>
   cases l with
   | nil=>rfl
   | cons b l =>
    rw[hf]at nd;have ma:a∈Q.filter fun x=>!decide (x∈P):=by rw[hf];exact wt
    have mb:b∈Q.filter fun x=>!decide (x∈P):=by rw[hf];exact wv _ wt
    have ha:=wX.mp ma;have hb:=wX.mp mb;have:=un a ha.1 b hb.1 (by simpa using ha.2) (by simpa using hb.2);rw[uq]at nd;have:=nd.1 b wt;omega
 have:=jK (fun x=>decide (x∈P)) Q;rw[e1]at this;omega
variable{U W:Tb}{lu lw:List Nat}
theorem IsR.inc(h:IsR φ n U lu):lu.Pairwise (·<·):=by
 have:=h.rr.inc;rw[← uB (f:=Prod.fst) (R:=(·<·)),gb (by rw[we];exact uS h.len)]at this;exact this
theorem IsR.lead_iff(h:IsR φ n U lu)(p:Nat):p∈lu↔∃ v,Rm φ U v/\(∀ j,j<p->v j=0)/\v p≠0:=by
 constructor
 ·intro hp;obtain⟨i,r,h1,h2⟩:=h.lead_of hp;have hm:=h.get h1 h2;have o:nv φ r p=1:=h.rr.one _ hm;exact⟨nv φ r,.of ⟨r,wk h2,rfl⟩,h.rr.bef _ hm,by rw[o];exact fun e=>Field.zero_ne_one e.symm⟩
 ·rintro ⟨v,hv,z,ne⟩
  obtain⟨q,hq,e⟩:=h.rr.lead (h.rows.mpr hv) z ne;rw[← e];exact(vw (show(q.1,q.2)∈_ from hq)).1
theorem IsR.zero(h:IsR φ n U lu){v:Nat->F}(hv:Rm φ U v)(z:∀ l∈lu,v l=0)(j:Nat):v j=0:=by
 rw[← h.rr.comb (h.rows.mpr hv) j];exact xn v j _ fun p hp=>by
  rw[z p.1 (vw (show(p.1,p.2)∈_ from hp)).1];grind
theorem IsR.take_off(h:IsR φ n U lu)(v:Nat->F):∃ u,Rm φ U u/\∀ l∈lu,u l=v l:=by
 refine⟨comb (lu.zip (U.map (nv φ))) v,h.rows.mp (YO v _),fun l hl=>?_⟩;obtain⟨i,r,h1,h2⟩:=h.lead_of hl;have hp:=h.get h1 h2;have gen:∀(P:List (Pv F)),P.Pairwise (fun a b=>a.1<b.1)->(∀ p∈P,p∈lu.zip (U.map (nv φ)))->(∃ p∈P,p.1=l)->comb P v l=v l*1:=by
  intro P
  induction P with
  | nil=>intro _ _ ⟨p,hp,_⟩;exact nomatch hp
  | cons p P ih =>
   intro pw hm hex;rw[uq]at pw;have hp0:=hm p wt;simp only[comb]
   by_cases ep:p.1=l
   ·have o:p.2 p.1=1:=h.rr.one _ hp0;rw[xn v l P fun q hq=>?_]
    ·rw[← ep,o];grind
    ·have hq0:=hm q (wv _ hq);have:p.1<q.1:=pw.1 q hq;have z:q.2 p.1=0:=h.rr.oth q hq0 p hp0 (by omega);rw[← ep,z];grind
   ·obtain⟨q,hq,eq⟩:=hex
    rcases wL.mp hq with z|z
    ·rw[z]at eq;exact absurd eq ep
    ·have hq0:=hm q (wv _ z);have z2:p.2 q.1=0:=h.rr.oth p hp0 q hq0 (by rw[eq];exact ep);rw[ih pw.2 (fun r hr=>hm r (wv _ hr)) ⟨q,z,eq⟩,← eq,z2];grind
 rw[gen _ h.rr.inc (fun p hp=>hp) ⟨_,hp,rfl⟩];grind
theorem zaj(h:IsR φ n U lu)(h':IsR φ n W lw){x:Nat->F}(hx:¬ Rm φ U x)(e:∀ v,Rm φ W v↔∃ u c,Rm φ U u/\∀ j,v j=u j+c*x j):W.length=U.length+1:=by
 rw[← h.len,← h'.len];have sub:∀ u,Rm φ U u->Rm φ W u:=fun u hu=>(e u).mpr ⟨u,0,hu,fun j=>by grind⟩
 have xW:Rm φ W x:=(e x).mpr ⟨fun _=>0,1,.zero,fun j=>by grind⟩;refine zhq h.inc h'.inc (fun p hp=>?_) ?_ fun p hp q hq np nq=>?_
 ·obtain⟨v,hv,z,ne⟩:=(h.lead_iff p).mp hp;exact(h'.lead_iff p).mpr ⟨v,sub v hv,z,ne⟩
 ·
  refine ue fun no=>hx ?_
  obtain⟨u,hu,eu⟩:=h.take_off x;have d:Rm φ W (fun j=>1*x j +(-1)*u j):=xW.lin 1 (-1) (sub u hu);have dz:=h'.zero d fun l hl=>by
   have:l∈lu:=ue fun z=>no ⟨l,hl,z⟩
   rw[eu l this];grind
  exact hu.cast fun j=>by have:=dz j;grind
 ·
  have main:∀ p q,p∈lw->q∈lw->p∉lu->q∉lu->p<q->False:=fun p q hp hq np nq lt=>by
   obtain⟨i,r,h1,h2⟩:=h'.lead_of hp;obtain⟨i',s,h3,h4⟩:=h'.lead_of hq;have mp:=h'.get h1 h2;have mq:=h'.get h3 h4;obtain⟨u,c,hu,eu⟩:=(e _).mp (.of ⟨r,wk h2,rfl⟩);obtain⟨v,d,hv,ev⟩:=(e _).mp (.of ⟨s,wk h4,rfl⟩);have rp:nv φ r p=1:=h'.rr.one _ mp;have sq:nv φ s q=1:=h'.rr.one _ mq;have rb:∀ j,j<p->nv φ r j=0:=h'.rr.bef _ mp;have sb:∀ j,j<q->nv φ s j=0:=h'.rr.bef _ mq;have one:(1:F)≠0:=fun e=>Field.zero_ne_one e.symm
   by_cases d0:d=0
   ·refine nq ((h.lead_iff q).mpr ⟨v,hv,fun j hj=>?_,?_⟩)
    ·have:=ev j;rw[sb j hj,d0]at this;grind
    ·have:=ev q;rw[sq,d0]at this;intro z;rw[z]at this;grind
   ·
    refine np ((h.lead_iff p).mpr ⟨fun j=>1*u j +(-(c / d))*v j,hu.lin 1 _ hv,fun j hj=>?_,?_⟩)
    ·have a:=eu j;have b:=ev j;rw[rb j hj]at a;rw[sb j (by omega)]at b;show 1*u j +(-(c / d))*v j=0;have a':u j = -(c*x j):=by grind
     have b':v j = -(d*x j):=by grind
     rw[a',b'];grind
    ·have a:=eu p;have b:=ev p;rw[rp]at a;rw[sb p lt]at b;show 1*u p +(-(c / d))*v p≠0;have a':u p=1 - c*x p:=by grind
     have b':v p = -(d*x p):=by grind
     rw[a',b'];intro z;have:(1:F)=0:=by grind
     exact one this
  rcases waG p q with g|g|g
  ·exact(main p q hp hq np nq g).elim
  ·exact g
  ·exact(main q p hq hp nq np g).elim
theorem zcM(hk:kab k){A B J M:Tb}{la lb lj lm:List Nat}(hA:IsR φ n A la)(hB:IsR φ n B lb)(hJ:IsR φ n J lj)(hM:IsR φ n M lm)
  (ej:∀ v,Rm φ J v↔∃ a b,Rm φ A a/\Rm φ B b/\∀ j,v j=a j+b j) (em:∀ v,Rm φ M v↔Rm φ A v/\Rm φ B v):J.length+M.length=A.length+B.length:=by
 have step:∀ i,i<=B.length->∃ J' lj' M' lm',IsR φ n J' lj'/\IsR φ n M' lm'/\(∀ v,Rm φ J' v↔∃ a b,Rm φ A a/\Rm φ (B.take i) b/\∀ j,v j=a j+b j)/\(∀ v,Rm φ M' v↔Rm φ A v/\Rm φ (B.take i) v)/\J'.length+M'.length=A.length+i:=by
  intro i
  induction i with
  | zero =>
   intro _;have nilR:IsR φ n ([]:Tb) ([]:List Nat):=⟨fun r hr=>(nomatch hr),rfl,⟨.nil,fun p hp=>(nomatch hp),fun p hp=>(nomatch hp),fun p hp=>(nomatch hp),fun p hp=>(nomatch hp),fun p hp=>(nomatch hp)⟩⟩;have nilZ:∀ v,Rm φ ([]:Tb) v->∀ j,v j=0:=fun v hv j=>hv.zero_at fun r ⟨x,hx,_⟩=>nomatch hx
   refine⟨A,la,[],[],hA,nilR,fun v=>?_,fun v=>?_,by simp⟩
   ·constructor
    ·intro hv;exact⟨v,fun _=>0,hv,.zero,fun j=>by grind⟩
    ·rintro ⟨a,b,ha,hb,e⟩
     exact ha.cast fun j=>by rw[e j,nilZ b hb j];grind
   ·constructor
    ·intro hv;exact⟨Span.zero.cast fun j=>(nilZ v hv j).symm,hv⟩
    ·exact fun h=>h.2
  | succ i ih =>
   intro hi;obtain⟨J',lj',M',lm',iJ,iM,eJ,eM,len⟩:=ih (by omega);have hi':i<B.length:=hi;obtain⟨l,hl⟩ : ∃ l,lb[i]?=some l:=⟨lb[i]'(by rw[hB.len];exact hi'),wg _⟩;have hb:=wg hi';have hp:=hB.get hl hb;generalize hbv:nv φ B[i]=b at *;have etake:B.take (i+1)=B.take i++[B[i]]:=vN hi';have eB:∀ v,Rm φ (B.take (i+1)) v↔∃ u c,Rm φ (B.take i) u/\∀ j,v j=u j+c*b j:=fun v=>by
    rw[etake]
    constructor
    ·intro hv;refine hv.all (P:=fun v=>∃ u c,Rm φ (B.take i) u/\∀ j,v j=u j+c*b j) ⟨fun _=>0,0,.zero,fun j=>by grind⟩ fun c r v ⟨row,hrow,e⟩ ⟨u,d,hu,eu⟩=>?_
     rcases wu.mp hrow with q|q
     ·exact⟨fun j=>c*r j+u j,d,.step c ⟨row,q,e⟩ hu,fun j=>by show c*r j+v j=c*r j+u j+d*_;rw[eu j];grind⟩
     ·rw[wD.mp q]at e;exact⟨u,c+d,hu,fun j=>by show c*r j+v j=_;rw[eu j,e,hbv];grind⟩
    ·rintro ⟨u,c,hu,eu⟩
     have h1:Rm φ (B.take i++[B[i]]) u:=hu.mono fun r ⟨x,hx,e⟩=>⟨x,wH _ hx,e⟩
     have h2:Rm φ (B.take i++[B[i]]) b:=.of ⟨B[i],wE _ (wD.mpr rfl),hbv.symm⟩;exact(h1.lin 1 c h2).cast fun j=>by rw[eu j];grind
   have bl:b l=1:=hB.rr.one _ hp;have nB:¬ Rm φ (B.take i) b:=fun h=>by
    have z:b l=0:=h.zero_at fun r ⟨x,hx,e⟩=>by
     obtain⟨t,ht,et⟩:=wG hx;have ht':t<i:=by rw[wx]at ht;omega
     have ht2:t<B.length:=by omega
     have hx':B[t]?=some x:=by rw[wg ht2];rw[waK]at et;rw[et]
     obtain⟨l',hl'⟩ : ∃ l',lb[t]?=some l':=⟨lb[t]'(by rw[hB.len];exact ht2),wg _⟩;have hq:=hB.get hl' hx';have ne:l'≠l:=fun z=>by
      have nd:lb.Nodup:=hB.inc.imp fun h=>wY h
      have q:lb[t]?=lb[i]?:=by rw[hl',hl,z]
      have:=(uC (wq.mp hl').1 nd).mp q;omega
     rw[e];exact hB.rr.oth _ hq _ hp ne
    rw[bl]at z;exact Field.zero_ne_one z.symm
   have bs:∀ j,n<=j->b j=0:=hB.rr.out _ hp;have mkR:∀(U:Tb)(lu:List Nat)(x:Nat->F),IsR φ n U lu->(∀ j,n<=j->x j=0)->∃ W lw,IsR φ n W lw/\∀ v,Rm φ W v↔∃ u c,Rm φ U u/\∀ j,v j=u j+c*x j:=fun U lu x hU xs=>by
    have oM:OkM k n (U++[ofV φ n x]):=fun r hr=>by
     rcases wu.mp hr with q|q
     ·exact hU.ok r q
     ·rw[wD.mp q];exact zdl x
    obtain⟨W,lw,red⟩:=xD φ hk oM;refine⟨W,lw,red.toIsR,fun v=>⟨fun hv=>?_,fun⟨u,c,hu,eu⟩=>?_⟩⟩
    ·refine(red.fro v hv).all (P:=fun v=>∃ u c,Rm φ U u/\∀ j,v j=u j+c*x j) ⟨fun _=>0,0,.zero,fun j=>by grind⟩ fun c r v ⟨row,hrow,e⟩ ⟨u,d,hu,eu⟩=>?_
     rcases wu.mp hrow with q|q
     ·exact⟨fun j=>c*r j+u j,d,.step c ⟨row,q,e⟩ hu,fun j=>by show c*r j+v j=c*r j+u j+d*_;rw[eu j];grind⟩
     ·rw[wD.mp q]at e;exact⟨u,c+d,hu,fun j=>by show c*r j+v j=_;rw[eu j,e,zdg xs];grind⟩
    ·refine red.to v ?_;have h1:Rm φ (U++[ofV φ n x]) u:=hu.mono fun r ⟨y,hy,e⟩=>⟨y,wH _ hy,e⟩
     have h2:Rm φ (U++[ofV φ n x]) (nv φ (ofV φ n x)):=.of ⟨_,wE _ (wD.mpr rfl),rfl⟩;exact(h1.lin 1 c h2).cast fun j=>by rw[eu j,zdg xs];grind
   by_cases bJ:Rm φ J' b
   ·obtain⟨a,u,ha,hu,eb⟩:=(eJ b).mp bJ;have as:∀ j,n<=j->a j=0:=fun j hj=>hA.supp ha j hj
    have aB:Rm φ (B.take (i+1)) a:=(eB a).mpr ⟨fun j=>(-1)*u j,1,hu.smul (-1),fun j=>by rw[eb j];grind⟩;have nM:¬ Rm φ M' a:=fun h=>nB (((((eM a).mp h).2).add hu).cast fun j=>(eb j).symm)
    obtain⟨M2,lm2,iM2,eM2⟩:=mkR M' lm' a iM as;have l2:=zaj iM iM2 nM eM2;refine⟨J',lj',M2,lm2,iJ,iM2,fun v=>?_,fun v=>?_,by omega⟩
    ·rw[eJ v]
     constructor
     ·rintro ⟨a',b',ha',hb',e⟩
      exact⟨a',b',ha',(eB b').mpr ⟨b',0,hb',fun j=>by grind⟩,e⟩
     ·rintro ⟨a',b',ha',hb',e⟩
      obtain⟨u',c,hu',eu'⟩:=(eB b').mp hb';exact⟨fun j=>1*a' j+c*a j,fun j=>1*u' j+c*u j,ha'.lin 1 c ha,hu'.lin 1 c hu,fun j=>by rw[e j,eu' j,eb j];grind⟩
    ·rw[eM2 v]
     constructor
     ·rintro ⟨m,c,hm,e⟩
      have hm':=(eM m).mp hm;refine⟨(hm'.1.lin 1 c ha).cast fun j=>by rw[e j];grind,?_⟩;have:Rm φ (B.take (i+1)) m:=(eB m).mpr ⟨m,0,hm'.2,fun j=>by grind⟩;exact(this.lin 1 c aB).cast fun j=>by rw[e j];grind
     ·rintro ⟨hvA,hvB⟩
      obtain⟨u',c,hu',eu'⟩:=(eB v).mp hvB;refine⟨fun j=>1*v j +(-c)*a j,c,(eM _).mpr ⟨hvA.lin 1 (-c) ha,?_⟩,fun j=>by grind⟩;exact(hu'.lin 1 c hu).cast fun j=>by rw[eu' j,eb j];grind
   ·obtain⟨J2,lj2,iJ2,eJ2⟩:=mkR J' lj' b iJ bs;have l2:=zaj iJ iJ2 bJ eJ2;refine⟨J2,lj2,M',lm',iJ2,iM,fun v=>?_,fun v=>?_,by omega⟩
    ·rw[eJ2 v]
     constructor
     ·rintro ⟨w,c,hw,e⟩
      obtain⟨a',b',ha',hb',e'⟩:=(eJ w).mp hw;exact⟨a',fun j=>b' j+c*b j,ha',(eB _).mpr ⟨b',c,hb',fun j=>rfl⟩,fun j=>by rw[e j,e' j];grind⟩
     ·rintro ⟨a',b',ha',hb',e⟩
      obtain⟨u',c,hu',eu'⟩:=(eB b').mp hb';exact⟨fun j=>a' j+u' j,c,(eJ _).mpr ⟨a',u',ha',hu',fun j=>rfl⟩,fun j=>by rw[e j,eu' j];grind⟩
    ·rw[eM v]
     constructor
     ·rintro ⟨h1,h2⟩
      exact⟨h1,(eB v).mpr ⟨v,0,h2,fun j=>by grind⟩⟩
     ·rintro ⟨h1,h2⟩
      obtain⟨u',c,hu',eu'⟩:=(eB v).mp h2
      by_cases c0:c=0
      ·exact⟨h1,hu'.cast fun j=>by rw[eu' j,c0];grind⟩
      ·exfalso
       refine bJ ((eJ b).mpr ⟨fun j=>(1 / c)*v j,fun j=>(-(1 / c))*u' j,h1.smul _,hu'.smul _,fun j=>?_⟩);show b j=1 / c*v j + -(1 / c)*u' j;rw[eu' j];grind
 obtain⟨J',lj',M',lm',iJ,iM,eJ,eM,len⟩:=step B.length (ww _);rw[vK]at eJ eM;have e1:J=J':=hJ.ext iJ fun v=>by rw[ej v,eJ v]
 have e2:M=M':=hM.ext iM fun v=>by rw[em v,eM v]
 rw[e1,e2];exact len
end
end La
namespace La
open Lean.Grind Nm
section
variable{k:Int}{F:Type}[Field F]{φ:Kf k F}{n:Nat}
theorem Span.read{S:(Nat->F)->Prop}{v:Nat->F}{t:Nat}{f:Nat->Nat}{g:Nat->F}(h:Span S v)(hr:∀ r,S r->r t=dot n (fun i=>r (f i)) g):v t=dot n (fun i=>v (f i)) g:=by
 refine h.all (P:=fun v=>v t=dot n (fun i=>v (f i)) g) ?_ fun c r v q e=>?_
 ·exact(La.dot_zero n _ g fun j _=>by grind).symm
 ·show c*r t+v t=dot n (fun i=>c*r (f i)+v (f i)) g;rw[QU n (fun i=>c*r (f i)) (fun i=>v (f i)),qQ c n (fun i=>r (f i)),← hr r q,← e]
theorem zfh{xs ys:List Nb}(j:Nat):nv φ (xs++ys) j=if j<xs.length then nv φ xs j else nv φ ys (j - xs.length):=by
 unfold nv
 split
 ·rename_i h;rw[wj,vz h,← wj]
 ·rename_i h;rw[wj,vv (by omega),← wj]
theorem zaw{xs:List Nb}{m j:Nat}(h:j<m):nv φ (xs.take m) j=nv φ xs j:=by
 unfold nv;rw[wj,gZ h,← wj]
theorem zd7{xs:List Nb}{m:Nat}(j:Nat):nv φ (xs.drop m) j=nv φ xs (m+j):=by
 unfold nv;rw[wj,gh,← wj]
def kal(k:Int)(n i:Nat):List Nb:=(vd n).map fun j=>if i=j then nnum k 1 else nnum k 0
def kan(k:Int)(n:Nat):Tb:=(vd n).map (kal k n)
theorem Xl(hk:kab k)(n i:Nat):(kal k n i).length=n/\OkR k (kal k n i):=by
 refine⟨by unfold kal;simp,fun x hx=>?_⟩;obtain⟨j,_,rfl⟩:=wm.mp hx
 split
 ·exact ya hk 1
 ·exact ya hk 0
theorem xI{i:Nat}(h:i<n):(kan k n)[i]?=some (kal k n i):=by unfold kan;rw[wo,vG h];rfl
theorem yD(hk:kab k)(n:Nat):OkM k n (kan k n)/\(kan k n).length=n:=by
 refine⟨fun r hr=>?_,by unfold kan;simp⟩;obtain⟨i,_,rfl⟩:=wm.mp hr;exact Xl hk n i
theorem qw{i:Nat}(hi:i<n)(j:Nat):nv φ (kal k n i) j=kah i 1 j:=by
 unfold kah
 rcases wO j n with h|h
 ·rw[yq φ (x:=if i=j then nnum k 1 else nnum k 0) (by unfold kal;rw[wo,vG h];rfl)]
  split
  ·rename_i e;subst e;rw[if_pos rfl];exact φ.num1
  ·rename_i e;rw[if_neg (Ne.symm e)];exact φ.num0
 ·rw[yL φ (by unfold kal;simp;exact h),if_neg (by omega)]
def kao(k:Int)(n:Nat)(M:Tb):Tb:=vE (·++·) M (kan k n)
theorem Xa{M:Tb}(lM:M.length=n){i:Nat}{m:List Nb}(h:M[i]?=some m):(kao k n M)[i]?=some (m++kal k n i):=by
 have hi:i<n:=by rw[← lM];exact(wq.mp h).1
 unfold kao;rw[vP,h,xI hi]
theorem QD{M:Tb}(lM:M.length=n){r:List Nb}(h:r∈kao k n M):∃ i m,i<n/\M[i]?=some m/\r=m++kal k n i:=by
 obtain⟨i,hi,e⟩:=wG h;have l:i<n:=by
  unfold kao at hi;rw[wZ]at hi;omega
 refine⟨i,M[i],l,wg (by omega),?_⟩;have:=Xa (k:=k) lM (wg (show i<M.length by omega));rw[wg hi,e]at this;exact Option.some.inj this
theorem qX(hk:kab k){M:Tb}(oM:OkM k n M)(lM:M.length=n):OkM k (n+n) (kao k n M)/\(kao k n M).length=n:=by
 refine⟨fun r hr=>?_,by unfold kao;rw[wZ,(yD hk n).2];omega⟩;obtain⟨i,m,hi,hm,rfl⟩:=QD lM hr;have o:=oM m (wk hm);have u:=Xl hk n i;refine⟨by rw[wy,o.1,u.1],fun x hx=>?_⟩
 rcases wu.mp hx with h|h
 ·exact o.2 x h
 ·exact u.2 x h
theorem JO(hk:kab k){M:Tb}(oM:OkM k n M){i:Nat}{m:List Nb}(h:M[i]?=some m)(hi:i<n):(∀ j,j<n->nv φ (m++kal k n i) j=nv φ m j)/\∀ t,nv φ (m++kal k n i) (n+t)=kah i 1 t:=by
 have o:=oM m (wk h);refine⟨fun j hj=>by rw[zfh,if_pos (by omega)],fun t=>?_⟩;rw[zfh,if_neg (by omega),o.1,uv,qw hi]
theorem zcB(hk:kab k){M:Tb}(oM:OkM k n M)(lM:M.length=n){v:Nat->F}(hv:Rm φ (kao k n M) v){j:Nat}(hj:j<n):v j=dot n (fun i=>v (n+i)) (fun i=>nv φ (M.getD i []) j):=by
 refine Span.read hv fun r ⟨x,hx,e⟩=>?_
 obtain⟨i,m,hi,hm,rfl⟩:=QD lM hx;obtain⟨h1,h2⟩:=JO (φ:=φ) hk oM hm hi;rw[e,h1 j hj,show(fun t=>nv φ (m++kal k n i) (n+t))=kah i 1 from funext h2,zV,yZ hi];have:M.getD i []=m:=by rw[wj,hm];rfl
 rw[this];grind
theorem zeU(hk:kab k){R:Tb}(hU:R.map (gv n)=kan k n){v:Nat->F}(hv:Rm φ R v)(t:Nat):v (n+t)=dot n v (fun p=>nv φ (R.getD p []) (n+t)):=by
 refine Span.read (f:=fun p=>p) hv fun r ⟨x,hx,e⟩=>?_
 obtain⟨p,hp,ep⟩:=wG hx;have lR:R.length=n:=by have:=congrArg Gi hU;rw[we,(yD hk n).2]at this;exact this
 have hpn:p<n:=by omega
 have eu:x.take n=kal k n p:=by
  have:=congrArg (fun l=>l[p]?) hU;simp only[wo]at this;rw[wg hp,ep,xI hpn]at this;exact Option.some.inj this
 have:R.getD p []=x:=by rw[wj,wg hp,ep];rfl
 rw[e];have h1:dot n (fun i=>nv φ x i) (fun p=>nv φ (R.getD p []) (n+t))=dot n (kah p 1) (fun p=>nv φ (R.getD p []) (n+t)):=zR fun j hj=>by rw[← qw (φ:=φ) hpn,← eu,zaw hj]
 rw[h1,zV,yZ hpn,this];grind
end
end La
namespace La
open Lean.Grind Nm
section
variable{k:Int}{F:Type}[Field F]{φ:Kf k F}{n:Nat}
theorem zho(φ:Kf k F)(hk:kab k){M R:Tb}{ls:List Nat}(oM:OkM k n M)(red:kaq φ n M R ls):R.length<=M.length:=by
 have:∃ Ws:List (List Int),Ws.length=M.length/\∀(i:Nat)(r:List Nb)(ws:List Int),M[i]?=some r->Ws[i]?=some ws->∃ b,Scl k r ws b:=by
  clear red
  induction M with
  | nil=>exact⟨[],rfl,fun i r ws h=>by simp at h⟩
  | cons m M ih =>
   obtain⟨Ws,l,h⟩:=ih fun r hr=>oM r (wv _ hr)
   obtain⟨b,hb⟩:=Zu hk (oM m wt).2;refine⟨m.map (scW b)::Ws,by simp[l],fun i r ws h1 h2=>?_⟩;cases i with
   | zero=>simp at h1 h2;subst h1 h2;exact⟨b,hb⟩
   | succ i=>exact h i r ws (by simpa using h1) (by simpa using h2)
 obtain⟨Ws,l,h⟩:=this;have eR:R=redM k n Ws:=red.unique (JA φ hk oM l h) (fun v q=>q) (fun v q=>q);have:=Yq (k:=k) Ws n;rw[eR];unfold redM;rw[we];omega
theorem zg7{ls:List Nat}(inc:ls.Pairwise (·<·))(all:∀ p,p<n->p∈ls)(len:ls.length<=n):ls=vd n:=by
 have h1:ls.filter (fun x=>decide (x<n))=vd n:=jB (inc.filter _) gk (fun p hp=>by
  rw[wX]at hp;exact vp.mpr (of_decide_eq_true hp.2)) (fun q hq=>by
  have:=vp.mp hq;rw[wX];exact⟨all q this,decide_eq_true this⟩)
 have h2:=jK (fun x=>decide (x<n)) ls;rw[h1,vL]at h2;have h3:ls.filter (fun x=>!decide (x<n))=[]:=vx (by omega);rw[List.filter_eq_nil_iff]at h3;rw[← h1];refine(List.filter_eq_self.mpr fun x hx=>?_).symm;have:=h3 x hx
 simpa using this
theorem zcD(hk:kab k){M:Tb}(oM:OkM k n M)(lM:M.length=n){v:Nat->F}(h:Rm φ M v):∃ w,Rm φ (kao k n M) w/\∀ j,j<n->w j=v j:=by
 refine h.all (P:=fun v=>∃ w,Rm φ (kao k n M) w/\∀ j,j<n->w j=v j) ⟨fun _=>0,.zero,fun _ _=>rfl⟩ fun c r v ⟨x,hx,e⟩ ⟨w,hw,ew⟩=>?_
 obtain⟨i,hi,ei⟩:=wG hx;have hg:M[i]?=some x:=by rw[wg hi,ei]
 have b:=Xa (k:=k) lM hg;refine⟨fun j=>c*nv φ (x++kal k n i) j+w j,.step c ⟨_,wk b,rfl⟩ hw,fun j hj=>?_⟩
 dsimp only
 rw[(JO (φ:=φ) hk oM hg (by omega)).1 j hj,ew j hj,e]
theorem ze8{M:Tb}(oM:OkM k n M){v:Nat->F}(h:Rm φ M v){j:Nat}(hj:n<=j):v j=0 :=
 Span.zero_at h fun r ⟨x,hx,e⟩=>by rw[e,yL φ (by rw[(oM x hx).1];exact hj)]
theorem zaZ(hk:kab k){M R:Tb}{ls:List Nat}(oM:OkM k n M)(lM:M.length=n)(red:kaq φ (n+n) (kao k n M) R ls)(all:∀ p,p<n->∃ v,Rm φ M v/\(∀ j,j<p->v j=0)/\v p≠0):R.map (gv n)=kan k n:=by
 have lR:=zho φ hk (qX hk oM lM).1 red;rw[(qX hk oM lM).2]at lR;have h:=red.toIsR;have el:ls=vd n:=zg7 h.inc (fun p hp=>by
  obtain⟨v,hv,z,ne⟩:=all p hp;obtain⟨w,hw,e⟩:=zcD hk oM lM hv;exact(h.lead_iff p).mpr ⟨w,red.to w hw,fun j hj=>by rw[e j (by omega),z j hj],by rw[e p hp];exact ne⟩) (by rw[h.len];exact lR)
 have hl:R.length=n:=by rw[← h.len,el,vL]
 refine gK (by rw[we,hl,(yD hk n).2]) fun p h1 h2=>?_
 have hp:p<n:=by rw[we]at h1;omega
 have e2:(kan k n)[p]=kal k n p:=by
  have:=xI (k:=k) hp;rw[wg h2]at this;exact Option.some.inj this
 rw[Gn,e2];have o:=h.ok _ (wp (show p<R.length by omega));have u:=Xl hk n p;refine zdr φ (fun x hx=>o.2 x (uu hx)) u.2 (by rw[wx,o.1,u.1];omega) fun j=>?_
 have lp:∀ q,q<n->ls[q]?=some q:=fun q hq=>by rw[el,vG hq]
 rcases wO j n with hj|hj
 ·rw[zaw hj,qw hp];have m1:=h.get (lp p hp) (wg (show p<R.length by omega));have m2:=h.get (lp j hj) (wg (show j<R.length by omega));unfold kah
  split
  ·rename_i e;subst e;exact h.rr.one _ m1
  ·rename_i e;exact h.rr.oth _ m1 _ m2 (Ne.symm e)
 ·rw[yL φ (by rw[wx];omega),yL φ (by rw[u.1];exact hj)]
theorem jU(φ:Kf k F)(hk:kab k)(n:Nat):IsR φ n (kan k n) (vd n):=by
 have mem:∀ p∈(vd n).zip ((kan k n).map (nv φ)),p.1<n/\p.2=kah p.1 1:=fun p hp=>by
  obtain⟨i,hi,e⟩:=wG hp;have hin:i<n:=by rw[um,vL]at hi;omega
  have:((vd n).zip ((kan k n).map (nv φ)))[i]?=some (i,nv φ (kal k n i)):=by
   rw[uX];exact⟨vG hin,by rw[wo,xI hin];rfl⟩
  rw[wg hi,e]at this;rw[Option.some.inj this];exact⟨hin,funext fun j=>qw hin j⟩
 refine⟨(yD hk n).1,by rw[vL,(yD hk n).2],?_,fun p hp=>(mem p hp).1,fun p hp j hj=>?_,fun p hp j hj=>?_,fun p hp=>?_,fun p hp q hq ne=>?_⟩
 ·rw[← uB (f:=Prod.fst) (R:=(·<·)),gb (by rw[we,vL,(yD hk n).2];exact ww _)];exact gk
 ·rw[(mem p hp).2];unfold kah;rw[if_neg (by have:=(mem p hp).1;omega)]
 ·rw[(mem p hp).2];unfold kah;rw[if_neg (by omega)]
 ·rw[(mem p hp).2];unfold kah;rw[if_pos rfl]
 ·rw[(mem p hp).2];unfold kah;rw[if_neg (Ne.symm ne)]
end
end La
namespace La
open Lean.Grind Nm
section
variable{k:Int}{F:Type}[Field F]{φ:Kf k F}
theorem ZH(n:Nat)(c:Nat->F)(b:Nat->Nat->F)(a:Nat->F):∀ m,dot m a (fun i=>dot n (b i) c)=dot n (fun j=>dot m a (fun i=>b i j)) c
 | 0=>by
  rw[dot_zero n (fun j=>dot 0 a fun i=>b i j) c fun j _=>by simp only[dot];grind]
  rfl
 | m+1=>by
  have e:dot n (fun j=>dot (m+1) a (fun i=>b i j)) c=dot n (fun j=>dot m a (fun i=>b i j)) c+dot n (fun j=>a m*b m j) c:=by
   rw[← QU]
   rfl
  rw[e,← ZH n c b a m,qQ]
  rfl
def imgR(k:Int)(M:Tb)(x:List Nb):List Nb:=M.map fun r=>ndot k r x
def prodR(k:Int)(c:Nat)(M N:Tb):Tb:=M.map fun r=>(trF c N).map fun col=>ndot k r col
theorem XW(hk:kab k){n:Nat}{M:Tb}{x:List Nb}(oM:OkM k n M)(ox:OkR k x):(imgR k M x).length=M.length/\OkR k (imgR k M x):=by
 refine⟨by unfold imgR;rw[we],fun y hy=>?_⟩;unfold imgR at hy;obtain⟨r,hr,rfl⟩:=wm.mp hy;exact xl hk (oM r hr).2 ox
theorem Xg(n:Nat)(M:Tb):(trF n M).length=n:=by unfold trF;simp
theorem JH{n i:Nat}{M:Tb}(h:i<n):(trF n M)[i]?=some (M.map fun r=>r.getD i (.z 0)):=by unfold trF;simp[h]
theorem zh9{n j:Nat}{M:Tb}(h:OkM k n M)(hj:j<n):(M.map fun r=>r.getD j (.z 0)).length=M.length/\OkR k (M.map fun r=>r.getD j (.z 0)):=by
 refine⟨we _,fun x hx=>?_⟩;obtain⟨row,hrow,rfl⟩:=wm.mp hx;obtain⟨h1,h2⟩:=h row hrow;have hj':j<row.length:=by omega
 rw[wj,wg hj'];exact h2 _ (wp hj')
theorem zdO{n:Nat}{M:Tb}(h:OkM k n M):OkM k M.length (trF n M):=fun r hr=>by
 unfold trF at hr;obtain⟨j,hj,rfl⟩:=wm.mp hr;rw[vp]at hj;exact zh9 h hj
theorem jo(hk:kab k){b c:Nat}{M N:Tb}(oM:OkM k b M)(oN:OkM k c N):(prodR k c M N).length=M.length/\OkM k c (prodR k c M N):=by
 refine⟨by unfold prodR;rw[we],fun r hr=>?_⟩;unfold prodR at hr;obtain⟨m,hm,rfl⟩:=wm.mp hr;refine⟨by rw[we,Xg],fun x hx=>?_⟩;obtain⟨col,hcol,rfl⟩:=wm.mp hx;exact xl hk (oM m hm).2 (zdO oN col hcol).2
theorem zi3(hk:kab k){b c:Nat}{r x:List Nb}{N:Tb}(or:OkR k r)(lr:r.length=b)(oN:OkM k c N)(lN:N.length=b)(ox:OkR k x)(lx:x.length=c) :
  ndot k r (imgR k N x)=ndot k ((trF c N).map fun col=>ndot k r col) x:=by
 obtain⟨F,_,_,⟨φ⟩⟩:=ye hk;obtain⟨li,oi⟩:=XW hk oN ox;have oT:=zdO oN;have oL:OkR k ((trF c N).map fun col=>ndot k r col):=fun y hy=>by
  obtain⟨col,hcol,rfl⟩:=wm.mp hy;exact xl hk or (oT col hcol).2
 have lL:((trF c N).map fun col=>ndot k r col).length=c:=by rw[we,Xg]
 refine φ.inj (xl hk or oi) (xl hk oL ox) ?_;rw[xh φ hk or oi (by rw[lr,li,lN]),xh φ hk oL ox (by rw[lL,lx]),lr,lL];have e1:dot b (nv φ r) (nv φ (imgR k N x))=dot b (nv φ r) (fun i=>dot c (nv φ (N.getD i [])) (nv φ x)):=zR fun i hi=>by
  have hi':i<N.length:=by omega
  have g:N[i]?=some N[i]:=wg hi';have ge:N.getD i []=N[i]:=by rw[wj,g];rfl
  have on:=oN N[i] (wp hi');rw[yq φ (xs:=imgR k N x) (x:=ndot k N[i] x) (by unfold imgR;rw[wo,g];rfl),ge,xh φ hk on.2 ox (by rw[on.1,lx]),on.1]
 rw[e1,ZH c (nv φ x) (fun i=>nv φ (N.getD i [])) (nv φ r) b];refine zR fun j hj=>?_
 have g:((trF c N).map fun col=>ndot k r col)[j]?=some (ndot k r (N.map fun r=>r.getD j (.z 0))):=by rw[wo,JH hj];rfl
 have oc:=zh9 oN hj;rw[yq φ g,xh φ hk or oc.2 (by rw[lr,oc.1,lN]),lr];have e2:dot b (nv φ r) (nv φ (N.map fun r=>r.getD j (.z 0)))=dot b (nv φ r) (fun i=>nv φ (N.getD i []) j):=zR fun i hi=>by
  have hi':i<N.length:=by omega
  have g:N[i]?=some N[i]:=wg hi';have ge:N.getD i []=N[i]:=by rw[wj,g];rfl
  rw[zkL φ oN hj g,ge]
 rw[e2]
theorem zhI{b d j:Nat}{N P:Tb}(hj:j<d):((prodR k d N P).map fun r=>r.getD j (.z 0))=imgR k N (P.map fun r=>r.getD j (.z 0)):=by
 unfold prodR imgR;rw[vF];refine vV fun r _=>?_
 show((trF d P).map fun col=>ndot k r col).getD j (.z 0)=_;rw[wj,wo,JH hj];rfl
theorem zac{d:Nat}{N P:Tb}:trF d (prodR k d N P) =(trF d P).map (imgR k N):=by
 refine uZ fun j=>?_
 rcases wO j d with h|h
 ·rw[JH h,wo,JH h,zhI (b:=0) h];rfl
 ·rw[wK (by rw[Xg];exact h),wK (by rw[we,Xg];exact h)]
theorem QA(hk:kab k){b c d:Nat}{M N Q:Tb}(oM:OkM k b M)(oN:OkM k c N)(lN:N.length=b)(oQ:OkM k d Q)(lQ:Q.length=c):prodR k d (prodR k c M N) Q=prodR k d M (prodR k d N Q):=by
 unfold prodR;rw[vF];refine vV fun r hr=>?_
 show(trF d Q).map (fun col=>ndot k ((trF c N).map fun col=>ndot k r col) col) =(trF d (prodR k d N Q)).map fun col=>ndot k r col
 rw[zac,vF];refine vV fun col hcol=>?_
 have oc:=zdO oQ col hcol;exact(zi3 hk (oM r hr).2 (oM r hr).1 oN lN oc.2 (by rw[oc.1,lQ])).symm
end
end La
namespace La
open Lean.Grind Nm
section
variable{k:Int}{F:Type}[Field F]{φ:Kf k F}
def Unit2(n:Nat)(T S:Nat->Nat->F):Prop:=∀ p q,p<n->q<n->dot n (T p) (fun l=>S l q)=if p=q then 1 else 0
def PairU(k:Int)(n:Nat)(T S:Tb):Prop:=∀(F:Type) [Field F] (φ:Kf k F),Unit2 n (fun p=>nv φ (T.getD p [])) (fun l q=>nv φ (S.getD l []) q)
end
end La
namespace La
open Lean.Grind Nm
section
variable{k:Int}{F:Type}[Field F]{φ:Kf k F}{n:Nat}
theorem zfl{S:Tb}{f:List Nb->List Nb}{l:Nat}(hl:l<S.length):(S.map f).getD l []=f (S.getD l []):=by
 rw[wj,wo,wj,wg hl];rfl
theorem zjc{xs:List Nb}{j:Nat}(hj:j<xs.length):φ.to (xs.getD j (.z 0))=nv φ xs j:=by
 rw[yq φ (wg hj),wj,wg hj];rfl
theorem yO{S:Tb}{i:Nat}(hi:i<S.length):S[i]?=some (S.getD i []):=by rw[wj,wg hi];rfl
end
end La
namespace La
open Lean.Grind Nm
section
variable{k:Int}{F:Type}[Field F]{φ:Kf k F}{n:Nat}
theorem Rm.app{A B:Tb}{v:Nat->F}:Rm φ (A++B) v↔∃ a b,Rm φ A a/\Rm φ B b/\∀ j,v j=a j+b j:=by
 constructor
 ·intro hv;refine hv.all (P:=fun v=>∃ a b,Rm φ A a/\Rm φ B b/\∀ j,v j=a j+b j) ⟨fun _=>0,fun _=>0,.zero,.zero,fun j=>by grind⟩ fun c r v ⟨x,hx,e⟩ ⟨a,b,ha,hb,ev⟩=>?_
  rcases wu.mp hx with q|q
  ·exact⟨fun j=>c*r j+a j,b,.step c ⟨x,q,e⟩ ha,hb,fun j=>by show c*r j+v j=c*r j+a j+b j;rw[ev j];grind⟩
  ·exact⟨a,fun j=>c*r j+b j,ha,.step c ⟨x,q,e⟩ hb,fun j=>by show c*r j+v j=a j +(c*r j+b j);rw[ev j];grind⟩
 ·rintro ⟨a,b,ha,hb,ev⟩
  have h1:Rm φ (A++B) a:=ha.mono fun r ⟨x,hx,e⟩=>⟨x,wH _ hx,e⟩
  have h2:Rm φ (A++B) b:=hb.mono fun r ⟨x,hx,e⟩=>⟨x,wE _ hx,e⟩
  exact(h1.add h2).cast fun j=>(ev j).symm
def limg(φ:Kf k F)(n:Nat)(A:Tb)(v:Nat->F):Nat->F:=fun i=>dot n (nv φ (A.getD i [])) v
theorem zc6(A:Tb)(c:F)(u v:Nat->F)(i:Nat):limg φ n A (fun j=>c*u j+v j) i=c*limg φ n A u i+limg φ n A v i:=by
 unfold limg;rw[jw n _ (fun j=>c*u j) v,qp]
theorem JD(A:Tb)(i:Nat):limg φ n A (fun _=>0) i=0:=dot_zero n _ _ fun j _=>by grind
theorem qT(j:Nat):nv φ [] j=0:=yL φ (vC _)
theorem zbt(hk:kab k){A:Tb}{x:List Nb}(oA:OkM k n A)(ox:OkR k x)(lx:x.length=n)(i:Nat):nv φ (imgR k A x) i=limg φ n A (nv φ x) i:=by
 unfold limg
 rcases wO i A.length with h|h
 ·have g:A[i]?=some A[i]:=wg h;have ge:A.getD i []=A[i]:=by rw[wj,g];rfl
  have oa:=oA A[i] (wp h);rw[yq φ (xs:=imgR k A x) (x:=ndot k A[i] x) (by unfold imgR;rw[wo,g];rfl),xh φ hk oa.2 ox (by rw[oa.1,lx]),oa.1,ge]
 ·rw[yL φ (by unfold imgR;rw[we];exact h)];have ge:A.getD i []=[]:=by rw[wj,wK h];rfl
  rw[ge,dot_zero n _ _ fun j _=>by rw[qT];grind]
theorem Rm.img(hk:kab k){A R:Tb}(oA:OkM k n A)(oR:OkM k n R){w:Nat->F}:Rm φ (R.map (imgR k A)) w↔∃ v,Rm φ R v/\∀ i,w i=limg φ n A v i:=by
 constructor
 ·intro h;refine h.all (P:=fun w=>∃ v,Rm φ R v/\∀ i,w i=limg φ n A v i) ⟨fun _=>0,.zero,fun i=>(JD A i).symm⟩ fun c r w ⟨x,hx,e⟩ ⟨v,hv,ev⟩=>?_
  obtain⟨y,hy,rfl⟩:=wm.mp hx;have oy:=oR y hy;refine⟨fun j=>c*nv φ y j+v j,.step c ⟨y,hy,rfl⟩ hv,fun i=>?_⟩;rw[zc6,← ev i,← zbt hk oA oy.2 oy.1,e]
 ·rintro ⟨v,hv,ev⟩
  have:Rm φ (R.map (imgR k A)) (limg φ n A v):=by
   refine hv.all (P:=fun v=>Rm φ (R.map (imgR k A)) (limg φ n A v)) (Span.cast .zero fun i=>(JD A i).symm) fun c r v ⟨x,hx,e⟩ hw=>?_
   have ox:=oR x hx;refine Span.cast (.step c (r:=nv φ (imgR k A x)) ⟨_,wm.mpr ⟨x,hx,rfl⟩,rfl⟩ hw) fun i=>?_
   rw[zc6,e,zbt hk oA ox.2 ox.1]
  exact this.cast fun i=>(ev i).symm
def kry(k:Int)(A B:Tb):Nat->Tb
 | 0=>B
 | t+1=>B ++(kry k A B t).map (imgR k A)
theorem xF(hk:kab k){A B:Tb}(oA:OkM k n A)(lA:A.length=n)(oB:OkM k n B):∀ t,OkM k n (kry k A B t)
 | 0=>oB
 | t+1=>fun r hr=>by
  rcases wu.mp hr with h|h
  ·exact oB r h
  ·obtain⟨x,hx,rfl⟩:=wm.mp h;have:=XW hk oA (xF hk oA lA oB t x hx).2;exact⟨by rw[this.1,lA],this.2⟩
theorem zdn(hk:kab k){A B R:Tb}(oA:OkM k n A)(lA:A.length=n)(oB:OkM k n B)(oR:OkM k n R){t:Nat}(e:∀ v,Rm φ R v↔Rm φ (kry k A B t) v)(v:Nat->F):Rm φ (B++R.map (imgR k A)) v↔Rm φ (kry k A B (t+1)) v:=by
 show _↔Rm φ (B ++(kry k A B t).map (imgR k A)) v;rw[Rm.app,Rm.app]
 constructor
 ·rintro ⟨a,b,ha,hb,ev⟩
  obtain⟨u,hu,eu⟩:=(Rm.img hk oA oR).mp hb;exact⟨a,b,ha,(Rm.img hk oA (xF hk oA lA oB t)).mpr ⟨u,(e u).mp hu,eu⟩,ev⟩
 ·rintro ⟨a,b,ha,hb,ev⟩
  obtain⟨u,hu,eu⟩:=(Rm.img hk oA (xF hk oA lA oB t)).mp hb;exact⟨a,b,ha,(Rm.img hk oA oR).mpr ⟨u,(e u).mpr hu,eu⟩,ev⟩
theorem qx(hk:kab k){A B:Tb}(oA:OkM k n A)(lA:A.length=n)(oB:OkM k n B):∀(t:Nat)(v:Nat->F),Rm φ (kry k A B t) v->Rm φ (kry k A B (t+1)) v
 | 0,v,h=>h.mono fun r ⟨x,hx,e⟩=>⟨x,wH _ hx,e⟩
 | t+1,v,h=>by
  have h':Rm φ (B ++(kry k A B t).map (imgR k A)) v:=h;obtain⟨a,b,ha,hb,ev⟩:=Rm.app.mp h';obtain⟨u,hu,eu⟩:=(Rm.img hk oA (xF hk oA lA oB t)).mp hb;exact Rm.app.mpr ⟨a,b,ha,(Rm.img hk oA (xF hk oA lA oB (t+1))).mpr ⟨u,qx hk oA lA oB t u hu,eu⟩,ev⟩
theorem QI(hk:kab k){A B:Tb}(oA:OkM k n A)(lA:A.length=n)(oB:OkM k n B)(t:Nat):∀(d:Nat)(v:Nat->F),Rm φ (kry k A B t) v->Rm φ (kry k A B (t+d)) v
 | 0,v,h=>h
 | d+1,v,h=>qx hk oA lA oB (t+d) v (QI hk oA lA oB t d v h)
theorem zaL(hk:kab k){A B:Tb}(oA:OkM k n A)(lA:A.length=n)(oB:OkM k n B){t:Nat}(s:∀ v,Rm φ (kry k A B (t+1)) v->Rm φ (kry k A B t) v):∀(d:Nat)(v:Nat->F),Rm φ (kry k A B (t+d)) v->Rm φ (kry k A B t) v
 | 0,v,h=>h
 | d+1,v,h=>by
  refine s v ?_;have h':Rm φ (B ++(kry k A B (t+d)).map (imgR k A)) v:=h;obtain⟨a,b,ha,hb,ev⟩:=Rm.app.mp h';obtain⟨u,hu,eu⟩:=(Rm.img hk oA (xF hk oA lA oB (t+d))).mp hb;exact Rm.app.mpr ⟨a,b,ha,(Rm.img hk oA (xF hk oA lA oB t)).mpr ⟨u,zaL hk oA lA oB s d u hu,eu⟩,ev⟩
theorem jg(hk:kab k){A B:Tb}(oA:OkM k n A)(lA:A.length=n)(oB:OkM k n B){t:Nat}(s:∀ v,Rm φ (kry k A B (t+1)) v->Rm φ (kry k A B t) v){m:Nat}(hm:t<=m)(v:Nat->F):Rm φ (kry k A B m) v↔Rm φ (kry k A B t) v:=by
 obtain⟨d,rfl⟩:=Nat.le.dest hm;exact⟨zaL hk oA lA oB s d v,QI hk oA lA oB t d v⟩
theorem zeV(hk:kab k){A B:Tb}(oA:OkM k n A)(lA:A.length=n)(oB:OkM k n B){t:Nat}(s:∀ v,Rm φ (kry k A B (t+1)) v->Rm φ (kry k A B t) v){v:Nat->F}(h:Rm φ (kry k A B t) v):Rm φ (kry k A B t) (limg φ n A v) :=
 s _ (Rm.app.mpr ⟨fun _=>0,limg φ n A v,.zero,(Rm.img hk oA (xF hk oA lA oB t)).mpr ⟨v,h,fun _=>rfl⟩,fun j=>by grind⟩)
theorem IsR.sub_len{U W:Tb}{lu lw:List Nat}(hU:IsR φ n U lu)(hW:IsR φ n W lw)(sub:∀ v,Rm φ U v->Rm φ W v):U.length<=W.length/\(W.length<=U.length->∀ v,Rm φ W v->Rm φ U v):=by
 have inc:=hU.inc;have inc':=hW.inc;have sb:∀ p∈lu,p∈lw:=fun p hp=>by
  obtain⟨v,hv,z,ne⟩:=(hU.lead_iff p).mp hp;exact(hW.lead_iff p).mpr ⟨v,sub v hv,z,ne⟩
 have ef:lu=lw.filter fun p=>decide (p∈lu):=jB inc (inc'.filter _) (fun p hp=>wX.mpr ⟨sb p hp,decide_eq_true hp⟩) fun p hp=>of_decide_eq_true (wX.mp hp).2
 have le:lu.length<=lw.length:=by rw[ef];exact vW _ _
 refine⟨by rw[← hU.len,← hW.len];exact le,fun ge v hv=>?_⟩;have e:(lw.filter fun p=>decide (p∈lu)).length=lw.length:=by rw[← ef];rw[← hU.len,← hW.len]at ge;omega
 have sb':∀ p∈lw,p∈lu:=fun p hp=>of_decide_eq_true (List.length_filter_eq_length_iff.mp e p hp)
 obtain⟨u,hu,eu⟩:=hU.take_off v;have hd:Rm φ W (fun j=>v j +(-1)*u j):=hv.add ((sub u hu).smul (-1));have z:=hW.zero hd fun l hl=>by rw[eu l (sb' l hl)];grind
 exact hu.cast fun j=>by have:=z j;grind
end
end La
namespace La
open Lean.Grind Nm
section
variable{k:Int}
end
end La
namespace La
open Lean.Grind Nm
section
variable{k:Int}{n:Nat}{F:Type}[Field F]{φ:Kf k F}
theorem zbd{R:Tb}{p:Nat}(hp:p<R.length):(R.map (vX n)).getD p [] =(R.getD p []).drop n:=zfl hp
theorem zcw{M R:Tb}{ls:List Nat}(hk:kab k)(red:kaq φ (n+n) (kao k n M) R ls)(hU:R.map (gv n)=kan k n):OkM k n (R.map (vX n))/\R.length=n:=by
 have lR:R.length=n:=by have:=congrArg Gi hU;rw[we,(yD hk n).2]at this;exact this
 refine⟨fun r hr=>?_,lR⟩;obtain⟨x,hx,rfl⟩:=wm.mp hr;have o:=red.ok x hx;exact⟨by rw[ur,o.1];omega,fun y hy=>o.2 y (Gr hy)⟩
theorem row_of{R:Tb}{p:Nat}(hp:p<R.length):Rm φ R (nv φ (R.getD p [])):=.of ⟨_,by rw[wj,wg hp];exact wp hp,rfl⟩
theorem zfT{M R:Tb}{ls:List Nat}(hk:kab k)(oM:OkM k n M)(lM:M.length=n)(red:kaq φ (n+n) (kao k n M) R ls)(hU:R.map (gv n)=kan k n):Unit2 n (fun p=>nv φ ((R.map (vX n)).getD p [])) (fun l q=>nv φ (M.getD l []) q):=fun p q hp hq=>by
 have lR:=(zcw hk red hU).2;have h:=zcB hk oM lM (red.fro _ (row_of (φ:=φ) (R:=R) (p:=p) (by omega))) hq;have eu:(R.getD p []).take n=kal k n p:=by
  have:=congrArg (fun l=>l[p]?) hU;simp only[wo]at this;rw[yO (by omega),xI hp]at this;exact Option.some.inj this
 show dot n (nv φ ((R.map (vX n)).getD p [])) (fun l=>nv φ (M.getD l []) q)=_;rw[zbd (by omega)];have e:(fun i=>nv φ ((R.getD p []).drop n) i)=fun i=>nv φ (R.getD p []) (n+i):=funext fun i=>zd7 i
 show dot n (fun i=>nv φ ((R.getD p []).drop n) i) _=_;rw[e,← h,← zaw (m:=n) hq,eu,qw hp];unfold kah
 by_cases c:p=q
 ·rw[if_pos c,if_pos c.symm]
 ·rw[if_neg c,if_neg (fun z=>c z.symm)]
theorem QG{M R:Tb}{ls:List Nat}(hk:kab k)(oM:OkM k n M)(lM:M.length=n)(red:kaq φ (n+n) (kao k n M) R ls)(hU:R.map (gv n)=kan k n):Unit2 n (fun p=>nv φ (M.getD p [])) (fun l q=>nv φ ((R.map (vX n)).getD l []) q):=fun p q hp hq=>by
 have lR:=(zcw hk red hU).2;have hm:=yO (S:=M) (i:=p) (by omega);have hb:=Xa (k:=k) lM hm;have h:=zeU hk hU (red.to _ (.of ⟨_,wk hb,rfl⟩)) q;obtain⟨h1,h2⟩:=JO (φ:=φ) hk oM hm hp;rw[h2 q]at h;have e1:dot n (nv φ (M.getD p []++kal k n p)) (fun p=>nv φ (R.getD p []) (n+q))=dot n (nv φ (M.getD p [])) (fun l=>nv φ ((R.map (vX n)).getD l []) q):=zR fun j hj=>by
  rw[h1 j hj,zbd (by omega),zd7]
 show dot n (nv φ (M.getD p [])) (fun l=>nv φ ((R.map (vX n)).getD l []) q)=_;rw[← e1,← h];unfold kah
 by_cases c:p=q
 ·rw[if_pos c,if_pos c.symm]
 ·rw[if_neg c,if_neg (fun z=>c z.symm)]
end
section
variable{k:Int}{n:Nat}
theorem zbo{M R:Tb}{ls:List Nat}(hk:kab k)(oM:OkM k n M)(lM:M.length=n)(red:∀(F:Type) [Field F] (φ:Kf k F),kaq φ (n+n) (kao k n M) R ls)(hU:R.map (gv n)=kan k n):PairU k n M (R.map (vX n))/\PairU k n (R.map (vX n)) M :=
 ⟨fun F _ φ=>QG hk oM lM (red F φ) hU,fun F _ φ=>zfT hk oM lM (red F φ) hU⟩
end
end La
namespace La
open Lean.Grind Nm
def zdot:Nat->(Nat->Int)->(Nat->Int)->Int
 | 0,_,_=>0
 | n+1,u,v=>zdot n u v+u n*v n
theorem Js{F:Type}[Field F](u v:Nat->Int):∀ n,(ι (zdot n u v):F)=dot n (fun j=>ι (u j)) (fun j=>ι (v j))
 | 0=>ι_zero
 | n+1=>by
  show(ι (zdot n u v+u n*v n):F)=dot n _ _+ι (u n)*ι (v n);rw[ι_add,ι_mul,Js u v n]
theorem zbY(p:Int)(u y z:Nat->Int):∀ n,(∀ j,j<n->y j=p*z j)->zdot n u y=p*zdot n u z
 | 0,_=>by show(0:Int)=p*0;omega
 | n+1,h=>by
  show zdot n u y+u n*y n=p *(zdot n u z+u n*z n);rw[zbY p u y z n fun j hj=>h j (by omega),h n (by omega)]
  grind
def zr(ws:List Int):Nat->Int:=fun j=>ws.getD j 0
def Kz(n:Nat)(A B:List (List Int)):Nat->(Nat->Int)->Prop
 | 0,v=>∃ r∈B,v=zr r
 | t+1,v=>(∃ r∈B,v=zr r)\/∃ u,Kz n A B t u/\v=fun i=>zdot n (zr (A.getD i [])) u
section
variable{n:Nat}{A B:List (List Int)}
theorem zjh{p:Int}{F:Type}[Field F](φ:Kf p F)(hp:kab p)(lA:A.length=n)(wA:∀ r∈A,r.length=n)(wB:∀ r∈B,r.length=n) :
  ∀(t:Nat)(r:List Nb),r∈kry p (A.map (·.map (nnum p))) (B.map (·.map (nnum p))) t->∃ v,Kz n A B t v/\∀ i,nv φ r i=ι (v i):=by
 have row:∀(ws:List Int)(j:Nat),nv φ (ws.map (nnum p)) j=ι (zr ws j):=fun ws j=>by
  unfold zr;rw[wj];cases h:ws[j]? with
  | none=>rw[yL φ (by rw[we];exact List.getElem?_eq_none_iff.mp h)];exact ι_zero.symm
  | some x=>rw[yq φ (x:=nnum p x) (by rw[wo,h];rfl),φ.num];rfl
 have okB:∀(M:List (List Int)),(∀ r∈M,r.length=n)->OkM p n (M.map (·.map (nnum p))):=fun M h r hr=>by
  obtain⟨ws,hw,rfl⟩:=wm.mp hr;refine⟨by rw[we];exact h ws hw,fun x hx=>?_⟩;obtain⟨w,_,rfl⟩:=wm.mp hx;exact ya hp w
 have oA:=okB A wA;have oB:=okB B wB;intro t
 induction t with
 | zero =>
  intro r hr;obtain⟨ws,hw,rfl⟩:=wm.mp hr;exact⟨zr ws,⟨ws,hw,rfl⟩,row ws⟩
 | succ t ih =>
  intro r hr
  rcases wu.mp hr with h|h
  ·obtain⟨ws,hw,rfl⟩:=wm.mp h;exact⟨zr ws,.inl ⟨ws,hw,rfl⟩,row ws⟩
  ·obtain⟨x,hx,rfl⟩:=wm.mp h;obtain⟨u,hu,e⟩:=ih x hx;have ox:=xF hp oA (by rw[we];exact lA) oB t x hx;refine⟨_,.inr ⟨u,hu,rfl⟩,fun i=>?_⟩;rw[zbt hp oA ox.2 ox.1];show dot n _ _=ι (zdot n _ u);rw[Js];refine zR fun j _=>?_
   rw[e j]
   congr 1
   have:(A.map (·.map (nnum p))).getD i [] =(A.getD i []).map (nnum p):=by
    rw[wj,wj,wo];cases A[i]? <;> rfl
   rw[this];exact row _ j
theorem zjk{F:Type}[Field F](φ:Kf 0 F){A0 B0:Tb}(oA:OkM 0 n A0)(lA:A0.length=n)(oB:OkM 0 n B0){a b:Int}(hA:Scl 0 A0.flatten (A0.flatten.map (scW a)) a)(hB:Scl 0 B0.flatten (B0.flatten.map (scW b)) b) :
  ∀(t:Nat)(v:Nat->Int),Kz n (A0.map (·.map (scW a))) (B0.map (·.map (scW b))) t v->∃ r∈kry 0 A0 B0 t,∃ c:F,∀ i,(ι (v i):F)=c*nv φ r i:=by
 have row:∀(M:Tb)(b:Int),OkM 0 n M->Scl 0 M.flatten (M.flatten.map (scW b)) b->∀ r∈M,∀ j,(ι (zr (r.map (scW b)) j):F)=ι b*nv φ r j:=fun M b oM s r hr j=>by
  have sr:Scl 0 r (r.map (scW b)) b:=⟨rfl,s.pos,s.one,fun x hx=>s.dv x (GU.mpr ⟨r,hr,hx⟩)⟩;have:=sr.fv φ (oM r hr).2 j;show(La.fv (r.map (scW b)) j:F)=_;rw[this];grind
 intro t
 induction t with
 | zero =>
  rintro v ⟨ws,hw,rfl⟩
  obtain⟨r,hr,rfl⟩:=wm.mp hw;exact⟨r,hr,ι b,row B0 b oB hB r hr⟩
 | succ t ih =>
  rintro v (⟨ws,hw,rfl⟩|⟨u,hu,rfl⟩)
  ·obtain⟨r,hr,rfl⟩:=wm.mp hw;exact⟨r,wH _ hr,ι b,row B0 b oB hB r hr⟩
  ·obtain⟨r,hr,c,e⟩:=ih u hu;have or:=xF (.inl rfl) oA lA oB t r hr;refine⟨imgR 0 A0 r,wE _ (wm.mpr ⟨r,hr,rfl⟩),ι a*c,fun i=>?_⟩;rw[zbt (.inl rfl) oA or.2 or.1];show(ι (zdot n _ u):F)=_*dot n _ _;rw[Js,← qQ];refine zR fun j _=>?_
   rw[e j];have:(ι (zr ((A0.map (·.map (scW a))).getD i []) j):F)=ι a*nv φ (A0.getD i []) j:=by
    rw[wj,wj,wo];cases h:A0[i]? with
    | none =>
     show(ι (zr [] j):F)=ι a*nv φ [] j;rw[qT,show zr [] j=0 from rfl,ι_zero];grind
    | some r=>exact row A0 a oA hA r (wk h) j
   rw[this];grind
theorem zki{p:Int}{F:Type}[Field F](φ:Kf p F)(hp:kab p)(lA:A.length=n)(wA:∀ r∈A,r.length=n)(wB:∀ r∈B,r.length=n)
  (full:∀ j,j<n->Rm φ (kry p (A.map (·.map (nnum p))) (B.map (·.map (nnum p))) n) (kah j 1)) {y:Nat->Int} (h:∀ v,Kz n A B n v->zdot n v y=0) (j:Nat) (hj:j<n):p ∣ y j:=by
 rw[← φ.zero];have z:dot n (fun i=>ι (y i)) (kah j 1) =(0:F):=(full j hj).dot_zero_r fun r ⟨x,hx,e⟩=>by
  obtain⟨v,hv,ev⟩:=zjh φ hp lA wA wB n x hx;have:=h v hv;rw[e,zV,← show dot n (fun i=>ι (v i)) (fun i=>ι (y i))=dot n (nv φ x) (fun i=>(ι (y i):F))from zR fun i _=>by rw[ev i],← Js,this];exact ι_zero
 rw[yZ hj]at z
 grind
theorem zgZ{p:Int}(p1:1<p)(dv:∀ y:Nat->Int,(∀ v,Kz n A B n v->zdot n v y=0)->∀ j,j<n->p ∣ y j):∀(m:Nat)(y:Nat->Int),(∀ v,Kz n A B n v->zdot n v y=0)->∀ j,j<n->(y j).natAbs<m->y j=0
 | 0,y,h,j,hj,hm=>absurd hm (vI _)
 | m+1,y,h,j,hj,hm=>by
  by_cases z:y j=0
  ·exact z
  have e:∀ i,i<n->y i=p *(y i / p):=fun i hi=>(Int.mul_ediv_cancel' (dv y h i hi)).symm
  have h':∀ v,Kz n A B n v->zdot n v (fun i=>y i / p)=0:=fun v hv=>by
   have:=h v hv;rw[zbY p v y (fun i=>y i / p) n e]at this
   rcases Int.mul_eq_zero.mp this with q|q
   ·omega
   ·exact q
  have lt:(y j / p).natAbs<m:=by
   have e1:=e j hj;have e2:(y j).natAbs=p.natAbs *(y j / p).natAbs:=by rw[← vB,← e1]
   have q0:y j / p≠0:=fun q=>z (by rw[e1,q,Gy])
   have:2 *(y j / p).natAbs<=p.natAbs *(y j / p).natAbs:=wU _ (by omega);have:0 <(y j / p).natAbs:=gw.mpr q0;omega
  have:=zgZ p1 dv m (fun i=>y i / p) h' j hj lt;rw[e j hj,this,Gy]
end
theorem zbf{n:Nat}{p:Int}(hp:Pr p){A0 B0:Tb}(oA:OkM 0 n A0)(lA:A0.length=n)(oB:OkM 0 n B0){a b:Int}(hA:Scl 0 A0.flatten (A0.flatten.map (scW a)) a)(hB:Scl 0 B0.flatten (B0.flatten.map (scW b)) b)
  (full:∀(F:Type) [Field F] (φ:Kf p F) (j:Nat),j<n->Rm φ (kry p ((A0.map (·.map (scW a))).map (·.map (nnum p))) ((B0.map (·.map (scW b))).map (·.map (nnum p))) n) (kah j 1))
  {F:Type} [Field F] (φ:Kf 0 F) (v:Nat->F) (hv:∀ j,n<=j->v j=0):Rm φ (kry 0 A0 B0 n) v:=by
 obtain⟨Fp,_,_,⟨φp⟩⟩:=ye (k:=p) (.inr hp);have wd:∀(M:Tb)(b:Int),OkM 0 n M->∀ r∈M.map (·.map (scW b)),r.length=n:=fun M b oM r hr=>by
  obtain⟨x,hx,rfl⟩:=wm.mp hr;rw[we];exact(oM x hx).1
 have dv:=fun(y:Nat->Int) h j hj=>zki (y:=y) φp (.inr hp) (by rw[we];exact lA) (wd A0 a oA) (wd B0 b oB) (full Fp φp) h j hj
 obtain⟨W,ls,red⟩:=xD φ (.inl rfl) (xF (.inl rfl) oA lA oB n);refine red.fro v ((ja red.toIsR (.inl rfl) v).mp ⟨hv,fun u hu=>?_⟩);have zu:∀ j,j<n->u j=0:=fun j hj=>by
  obtain⟨lx,ox⟩:=zdl (φ:=φ) (n:=n) u;obtain⟨c,sc⟩:=Zu (k:=0) (.inl rfl) ox;have nvx:=zdg (φ:=φ) (n:=n) (v:=u) hu.1;have fvx:=fun i=>sc.fv φ ox i
  have z:∀ v,Kz n (A0.map (·.map (scW a))) (B0.map (·.map (scW b))) n v->zdot n v (zr ((ofV φ n u).map (scW c)))=0:=fun v hv=>by
   obtain⟨r,hr,d,e⟩:=zjk φ oA lA oB hA hB n v hv;have o:=hu.2 (nv φ r) (red.to _ (.of ⟨r,hr,rfl⟩));have:(ι (zdot n v (zr ((ofV φ n u).map (scW c)))):F)=0:=by
    rw[Js];have e2:dot n (fun j=>(ι (v j):F)) (fun j=>ι (zr ((ofV φ n u).map (scW c)) j))=d*ι c*dot n (nv φ r) u:=by
     rw[← qQ];refine zR fun i _=>?_
     have:=fvx i;rw[nvx i]at this;show ι (v i)*La.fv ((ofV φ n u).map (scW c)) i=_;rw[e i,this];grind
    rw[e2,o];grind
   rw[φ.zero]at this;exact Gz.mp this
  have y0:=zgZ (p:=p) hp.lo dv _ _ z j hj (uy _);have:=fvx j;rw[nvx j]at this;have e:(La.fv ((ofV φ n u).map (scW c)) j:F)=0:=by
   show(ι (zr ((ofV φ n u).map (scW c)) j):F)=0;rw[y0];exact ι_zero
  rw[e]at this;have ne:=sc.ne φ (.inl rfl)
  grind
 exact dot_zero n _ _ fun j hj=>by rw[zu j hj];grind
end La
namespace La
open Lean.Grind Nm
section
variable{k:Int}{n:Nat}{F:Type}[Field F]{φ:Kf k F}
theorem rm_one1{r:List Nb}{v:Nat->F}:Rm φ [r] v↔∃ c:F,∀ j,v j=c*nv φ r j:=by
 constructor
 ·intro h;refine h.all (P:=fun v=>∃ c:F,∀ j,v j=c*nv φ r j) ⟨0,fun j=>by grind⟩ fun c r' v ⟨x,hx,e⟩ ⟨d,ev⟩=>?_
  rw[wD.mp hx]at e;exact⟨c+d,fun j=>by show c*r' j+v j=_;rw[e,ev j];grind⟩
 ·rintro ⟨c,e⟩
  have g:Rm φ [r] (nv φ r):=.of ⟨r,wD.mpr rfl,rfl⟩;exact(g.smul c).cast fun j=>(e j).symm
theorem rm_app1{M:Tb}{x:List Nb}{v:Nat->F}:Rm φ (M++[x]) v↔∃ u c,Rm φ M u/\∀ j,v j=u j+c*nv φ x j:=by
 rw[Rm.app]
 constructor
 ·rintro ⟨a,b,ha,hb,e⟩
  obtain⟨c,ec⟩:=rm_one1.mp hb;exact⟨a,c,ha,fun j=>by rw[e j,ec j]⟩
 ·rintro ⟨u,c,hu,e⟩
  exact⟨u,fun j=>c*nv φ x j,hu,rm_one1.mpr ⟨c,fun _=>rfl⟩,e⟩
theorem Zg{M N:Tb}{v:Nat->F}(h:∀ r∈M,r∈N)(hv:Rm φ M v):Rm φ N v:=hv.mono fun _ ⟨x,hx,e⟩=>⟨x,h x hx,e⟩
theorem xY{c i j:Nat}{M:Tb}(oM:OkM k c M)(hj:j<c):nv φ ((trF c M).getD j []) i=nv φ (M.getD i []) j:=by
 have e:(trF c M).getD j []=M.map fun r=>r.getD j (.z 0):=by rw[wj,JH hj];rfl
 rw[e]
 rcases wO i M.length with h|h
 ·have g:M.getD i []=M[i]:=by rw[wj,wg h];rfl
  have o:=oM M[i] (wp h);rw[yq φ (x:=M[i].getD j (.z 0)) (by rw[wo,wg h];rfl),g,zjc (by rw[o.1];exact hj)]
 ·rw[yL φ (by rw[we];exact h),wj,wK h];exact(qT j).symm
theorem zce(T:Tb)(c:Nat->F):∀ m,Rm φ T (fun j=>dot m c (fun l=>nv φ (T.getD l []) j))
 | 0=>Span.cast .zero fun j=>rfl
 | m+1=>by
  have ih:=zce T c m
  rcases wO m T.length with h|h
  ·have g:Rm φ T (nv φ (T.getD m [])):=row_of h;exact(ih.add (g.smul (c m))).cast fun j=>rfl
  ·refine ih.cast fun j=>?_
   show _=dot m c _+c m*nv φ (T.getD m []) j;rw[wj,wK h];have:nv φ ((none:Option (List Nb)).getD []) j=0:=qT j;rw[this];grind
theorem jr{A:Tb}(oA:OkM k n A)(lA:A.length=n)(u v:Nat->F):dot n (limg φ n (trF n A) u) v=dot n u (limg φ n A v):=by
 unfold limg;rw[ZH n v (fun i=>nv φ (A.getD i [])) u n];refine zR fun j hj=>?_
 congr 1
 rw[zV n u];refine zR fun i _=>?_
 rw[xY oA hj]
end
section
variable{k:Int}{n:Nat}
theorem XV(hk:kab k){X R:Tb}{ls:List Nat}(oX:OkM k n X)(lX:X.length=n)(all:∀(F:Type) [Field F] (φ:Kf k F) (p:Nat),p<n->Rm φ X (kah p 1))(red:∀(F:Type) [Field F] (φ:Kf k F),kaq φ (n+n) (kao k n (trF n X)) R ls):R.map (gv n)=kan k n:=by
 obtain⟨F,_,_,⟨φ⟩⟩:=ye hk;obtain⟨R0,l0,red0⟩:=xD φ hk (qX hk oX lX).1;have one:∀ p:Nat,(kah (F:=F) p 1) p≠0/\∀ j,j<p->(kah (F:=F) p 1) j=0:=fun p=>by
  constructor
  ·unfold kah;rw[if_pos rfl];exact Field.zero_ne_one.symm
  ·intro j hj;unfold kah;rw[if_neg (by omega)]
 have h0:=zaZ hk oX lX red0 fun p hp=>⟨kah p 1,all F φ p hp,(one p).2,(one p).1⟩
 have br:=QG hk oX lX red0 h0;have oT:OkM k n (trF n X):=by have:=zdO oX;rw[lX]at this;exact this
 refine zaZ hk oT (Xg n X) (red F φ) fun q hq=>⟨kah q 1,?_,(one q).2,(one q).1⟩
 refine(zce (φ:=φ) (trF n X) (fun l=>nv φ ((R0.map (vX n)).getD l []) q) n).cast fun j=>?_
 rcases wO j n with hj|hj
 ·rw[zV];have:=br j q hj hq;have e:dot n (fun l=>nv φ ((trF n X).getD l []) j) (fun l=>nv φ ((R0.map (vX n)).getD l []) q)=dot n (nv φ (X.getD j [])) (fun l=>nv φ ((R0.map (vX n)).getD l []) q):=zR fun l hl=>by rw[xY oX hl]
  rw[e,this];unfold kah
  rfl
 ·have z:∀ l,nv φ ((trF n X).getD l []) j=0:=fun l=>by
   rcases wO l n with hl|hl
   ·rw[xY oX hl,wj,wK (by omega)];exact qT l
   ·rw[wj,wK (by rw[Xg];exact hl)];exact qT j
  rw[dot_zero n _ _ fun l _=>by rw[z l];grind];unfold kah;rw[if_neg (by omega)]
end
end La
namespace L2
open PySem PySem.Spec PyProof.Rows Nm
def TopOk(X:Cx):Prop:=∃ env l,X.stack=env::l/\env.scope.isGenerator=false/\env.scope.isCoroutine=false/\env.builtins=builtinsNs/\env.globals=mainGlobals
theorem yf{X:Cx}{k:Nat}(hr:Room k X.A)(hk:40<=k)(hP:X.prog.given.tree=none)(hS:X.base.NoSeer)(hT:TopOk X):OpR X (binaryOp .FloorDiv) (rI (fun _ j=>j≠0) fun i j=>.int (i.fdiv j)):=by
 intro pins s σ H x y v u Q I rx ry h;obtain⟨i,j,rfl,rfl,hc,q⟩:=h;obtain⟨t,rfl⟩:=rx;obtain⟨t',rfl⟩:=ry;obtain⟨env,l,e,h1,h2,h3,h4⟩:=hT;have hd:X.A.depth+Builtin.pylongFrames<recursionLimit:=by
  have:=hr.dp;have:Builtin.pylongFrames=100:=rfl;omega
 exact floordiv_int hc ⟨.int (i.fdiv j),H,I.tok _,⟨_,rfl⟩,q⟩ (.inr (PylongRoom.of I.nolimit hd (SeerAt.of (hS.keeps I.bk) hP (I.ok.frames.trans (congrArg some e)) h1 h2 h3 h4)))
def IRow(H:Hp)(ws:List Int)(a:Addr):Prop:=H a=some (.lst (ws.map V.int))
theorem IRow.mono{H H':Hp}{ws:List Int}{a:Addr}(h:IRow H ws a)(g:Same H H'):IRow H' ws a:=g _ _ h
structure NewT(H H':Hp)(M:Tb)(top:Addr)(ras:List Addr):Prop where
 tab:kaf H' M top ras
 ft:H top=none
 fr:∀ r∈ras,H r=none
 nd:ras.Nodup
 nt:top∉ras
structure NewR(H H':Hp)(xs:List Nb)(a:Addr):Prop where
 row:kas H' xs a
 fa:H a=none
theorem Same.none{H H':Hp}(g:Same H H'){p:Addr}(h:H' p=none):H p=none:=by
 cases e:H p with
 | none=>rfl
 | some u=>rw[g _ _ e]at h;cases h
theorem yw{H H':Hp}{p:Addr}{o:HO}(g:Same H H')(h:H p=none):Same H (upd H' p o):=fun b u q=>by
 rw[zN (yg q h)];exact g _ _ q
theorem kas.len{H:Hp}{xs:List Nb}{a:Addr}(h:kas H xs a):∃ vs,H a=some (.lst vs)/\Paired (RN H) xs vs/\vs.length=xs.length :=
 let ⟨vs,h1,h2⟩:=h
 ⟨vs,h1,h2,(zk h2).symm⟩
theorem Jt{α β:Type}{R:α->β->Prop}:∀ {xs:List α} {ys:List β},xs.length=ys.length->(∀(i:Nat)(a:α)(b:β),xs[i]?=some a->ys[i]?=some b->R a b)->Paired R xs ys
 | [],[],_,_=>.nil
 | [],_::_,h,_=>by simp at h
 | _::_,[],h,_=>by simp at h
 | a::xs,b::ys,h,f=>.cons (f 0 a b rfl rfl) (Jt (by simpa using h) fun i x y h1 h2=>f (i+1) x y (by simpa using h1) (by simpa using h2))
theorem ju{α β:Type}{R:α->β->Prop}{xs:List α}{ys:List β}{i:Nat}{a:α}{b:β}(h:Paired R xs ys)(h1:xs[i]?=some a)(h2:ys[i]?=some b):R a b:=by
 obtain⟨b',e,r⟩:=yH h h1;rw[h2]at e;cases e;exact r
theorem sm_one:Sm 1 1:=by unfold Sm;decide
theorem ZZ(n:Nat):Sm n 0:=by unfold Sm;exact gu (by decide)
theorem zcW{n:Nat}{w d:Int}(h:Sm n w)(hd:d ∣ w):Sm n (w.fdiv d):=by
 rw[vR hd]
 by_cases z:d=0
 ·subst z;rw[Int.ediv_zero];exact ZZ n
 ·have e:=uK hd;refine h.le ?_;have h1:(w / d*d).natAbs=w.natAbs:=by rw[e]
  rw[vB]at h1;rw[← h1];exact uG _ (gw.mpr z)
theorem zgd{n:Nat}{w k:Int}(k0:0<k)(k9:k<2305843009213693952)(hn:61<=n):Sm n (w.fmod k) :=
 (Ji (wJ w k0) (wP w k0) k9).mono hn
theorem zij{n:Nat}:∀ {ws:List Int},(∀ w∈ws,Sm n w)->Sm (n+ws.length) ws.sum
 | [],_=>by rw[wbc];exact ZZ _
 | w::ws,h=>by
  rw[List.sum_cons];have h1:=zij (ws:=ws) fun x hx=>h x (wv _ hx)
  have h2:=(h w wt).mono (waP n ws.length);exact(h2.add h1).mono (by rw[vQ];omega)
theorem ZV{n:Nat}{k w:Int}(hk:kab k)(h:Sm n w)(hn:61<=n):nsm n (nnum k w):=by
 unfold nnum
 split
 ·exact⟨h,Sm.mono (m:=1) sm_one (by omega)⟩
 ·rename_i k0;exact zgd (by have:=hk.lt;omega) hk.lt.2 hn
def gLst(K:PySem.W.Frag)(n:Nat)(t:TGs):TG:=fun v σ H Q=>∃ a xs,v=.ref a/\SqL K H a xs/\xs.length=n/\t xs σ H Q
theorem zjL{X:Cx}{pos:Pos}{es:List Expr}{k:Nat}{t:TGs}{n:Nat}(hc:X.calm=true)(h:PGs X es t)
  (hn:(assignEach es X.env).length=n:=by rfl) (hst:(assignEach es X.env).findIdx? (·.1)=none:=by rfl):PG X (.Tuple es k pos) (gLst X.K n t):=by
 intro pins s σ H v u Q I r hw;obtain⟨a,xs,e1,hq,hl,hw⟩:=hw;subst e1;cases r;obtain⟨its,rv,pl,hz⟩:=I.list hq;have e:(assignEach es X.env).length=its.toArray.size:=by simp[hn,← hl,rv.length]
 rw[assign_Tuple];refine wpAny_bind (wpAny_standAt ?_);unfold unpack;rw[e,hst];refine wpAny_bind (wpAny_holding (PySem.W.kun_itemsOf (I.ok.hd hc) pl.isList fun h' hx=>?_));have I1:Inv X pins σ H { s with heap:=h' }:=I.kept (t':=s.toks) fun b o e=>hx b o (wY (Heap.lt_size e)) e
 exact h pins _ σ H xs _ Q I1 (by simpa using rv) hw
theorem zhG{b d:Int}(hb:0<b)(hd:0<d):0<b.fdiv ((vk b d:Nat):Int)*d/\b ∣ b.fdiv ((vk b d:Nat):Int)*d/\d ∣ b.fdiv ((vk b d:Nat):Int)*d/\((vk b d:Nat):Int)≠0:=by
 have g0:0 <((vk b d:Nat):Int):=by have:=GB d (show b≠0 by omega);omega
 have db:((vk b d:Nat):Int) ∣ b:=gD b d;have dd:((vk b d:Nat):Int) ∣ d:=Gh b d;have e1:=La.qM db (by omega);have e2:=La.qM dd (by omega);have p1:0<b.fdiv ((vk b d:Nat):Int):=by
  rcases waI 0 (b.fdiv ((vk b d:Nat):Int))with h|h|h
  ·exact h
  ·rw[← h]at e1;omega
  ·have:=Int.mul_neg_of_neg_of_pos h g0;omega
 refine⟨GC p1 hd,⟨d.fdiv ((vk b d:Nat):Int),?_⟩,waR _ _,by omega⟩;generalize b.fdiv ((vk b d:Nat):Int)=x at *;generalize d.fdiv ((vk b d:Nat):Int)=y at *;generalize ((vk b d:Nat):Int)=g at *;rw[← e1,← e2]
 grind
theorem zbl{k:Int}{H:Hp}(k0:k≠0):∀ {xs:List Nb} {vs:List V},La.OkR k xs->Paired (RN H) xs vs->∃ is:List Int,xs=is.map Nb.z/\vs=is.map V.int
 | _,_,_,.nil=>⟨[],rfl,rfl⟩
 | x::xs,v::vs,h,.cons r t=>by
  obtain⟨is,e1,e2⟩:=zbl k0 (fun y hy=>h y (wv _ hy)) t;have hx:=h x wt;cases x with
  | q a=>exact absurd hx k0
  | z i=>exact⟨i::is,by rw[e1];rfl,by rw[e2,r.z];rfl⟩
theorem zgt{k:Int}(k0:k≠0)(is:List Int):La.Scl k (is.map Nb.z) is 1 :=
 ⟨by rw[vF];exact(List.map_id'' (fun _=>rfl) is).symm,by decide,fun _=>rfl,fun x hx=>by
  obtain⟨i,_,rfl⟩:=wm.mp hx
  trivial⟩
theorem RN.upd{H:Hp}{x:Nb}{v:V}{t:Addr}{zs zs':List V}(h:RN H x v)(ht:H t=some (.lst zs)):RN (upd H t (.lst zs')) x v:=by
 cases x with
 | q r =>
  obtain⟨a,rfl,ha⟩:=h.q;exact RN.of_q (by rw[zN (fun e=>by rw[e,ht]at ha;cases ha)];exact ha)
 | z i=>rw[h.z];exact RN.of_z
theorem kas.upd{H:Hp}{xs:List Nb}{a t:Addr}{zs zs':List V}(h:kas H xs a)(ne:a≠t)(ht:H t=some (.lst zs)):kas (upd H t (.lst zs')) xs a :=
 let ⟨vs,h1,h2⟩:=h
 ⟨vs,by rw[zN ne];exact h1,xZ (fun _ _ r=>r.upd ht) h2⟩
theorem kas.some{H:Hp}{xs:List Nb}{a:Addr}(h:kas H xs a):∃ o,H a=some o:=let ⟨vs,h1,_⟩:=h;⟨_,h1⟩
structure Grow(H H':Hp)(M:Tb)(ras:List Addr):Prop where
 same:Same H H'
 rows:Paired (kas H') M ras
 fr:∀ r∈ras,H r=none
 nd:ras.Nodup
theorem Grow.nil(H:Hp){H':Hp}(g:Same H H'):Grow H H' [] []:=⟨g,.nil,fun _ h=>(nomatch h),.nil⟩
section
variable{H H' H2:Hp}{M:Tb}{ras:List Addr}
theorem Grow.mono(G:Grow H H' M ras)(g:Same H' H2):Grow H H2 M ras:=⟨G.same.trans g,xZ (fun _ _ r=>r.mono g) G.rows,G.fr,G.nd⟩
theorem Grow.not_mem(G:Grow H H' M ras){p:Addr}(hp:H' p=none):p∉ras:=fun hm=>by
 obtain⟨xs,_,h⟩:=Ym G.rows hm;obtain⟨o,e⟩:=h.some;rw[hp]at e;cases e
theorem Grow.snoc(G:Grow H H' M ras){xs:List Nb}{vs:List V}{p:Addr}(hp:H' p=none)(hr:Paired (RN H') xs vs):Grow H (upd H' p (.lst vs)) (M++[xs]) (ras++[p]):=by
 have g:=zg hp (.lst vs);have G':=G.mono g;refine⟨G'.same,yj G'.rows ⟨vs,zh,jC g hr⟩,fun r hr'=>?_,?_⟩
 ·rcases wu.mp hr' with h|h
  ·exact G.fr r h
  ·rw[wD.mp h];exact G.same.none hp
 ·rw[GL];refine⟨G.nd,by simp,fun a ha b hb=>?_⟩;rw[wD.mp hb];exact fun e=>G.not_mem hp (by rw[← e];exact ha)
theorem Grow.done(G:Grow H H' M ras){top:Addr}(ht:H' top=none):NewT H (upd H' top (.lst (ras.map V.ref))) M top ras :=
 ⟨⟨zh,xZ (fun _ _ r=>r.mono (zg ht _)) G.rows⟩,G.same.none ht,G.fr,G.nd,G.not_mem ht⟩
theorem Grow.push(G:Grow H H' M ras){t p:Addr}{xs:List Nb}{vs zs zs':List V}(tn:H t=none)(ht:H' t=some (.lst zs))(tr:t∉ras)(g:Same H' H2)(hp:H2 p=none)(hr:Paired (RN H2) xs vs) :
  Grow H (upd (upd H2 p (.lst vs)) t (.lst zs')) (M++[xs]) (ras++[p])/\t∉ras++[p]:=by
 have G1:=(G.mono g).snoc hp hr;have ht2:H2 t=some (.lst zs):=g _ _ ht;have tp:t≠p:=fun e=>by rw[e,hp]at ht2;cases ht2
 have ht3:upd H2 p (.lst vs) t=some (.lst zs):=by rw[zN tp];exact ht2
 have nm:t∉ras++[p]:=fun h=>by
  rcases wu.mp h with h|h
  ·exact tr h
  ·exact tp (wD.mp h)
 refine⟨⟨yw G1.same tn,?_,G1.fr,G1.nd⟩,nm⟩;refine Jt (zk G1.rows) fun i x a h1 h2=>(ju G1.rows h1 h2).upd (fun e=>nm ?_) ht3
 rw[← e];exact wk h2
end
def SclAt(H:Hp)(k:Int)(m:Nat)(xs:List Nb)(p:Addr):Prop:=∃ l ws b,H p=some (.tup [.ref l,.int b])/\IRow H ws l/\La.Scl k xs ws b/\Sm m b/\∀ w∈ws,Sm m w
theorem SclAt.mono{H H':Hp}{k:Int}{m:Nat}{xs:List Nb}{p:Addr}(h:SclAt H k m xs p)(g:Same H H'):SclAt H' k m xs p :=
 let ⟨l,ws,b,h1,h2,r⟩:=h
 ⟨l,ws,b,g _ _ h1,h2.mono g,r⟩
def kaa(n:Nat)(M:Tb):Tb:=(vd n).map fun j=>M.map fun r=>r.getD j (.z 0)
theorem zj(n:Nat)(M:Tb):(kaa n M).length=n:=by unfold kaa;simp
theorem xE{n i:Nat}{M:Tb}(h:i<n):(kaa n M)[i]?=some (M.map fun r=>r.getD i (.z 0)):=by unfold kaa;simp[h]
theorem zZ{k:Int}{n:Nat}{M:Tb}(h:La.OkM k n M):La.OkM k M.length (kaa n M):=fun r hr=>by
 unfold kaa at hr;obtain⟨j,hj,rfl⟩:=wm.mp hr;rw[vp]at hj;refine⟨we _,fun x hx=>?_⟩;obtain⟨row,hrow,rfl⟩:=wm.mp hx;obtain⟨h1,h2⟩:=h row hrow;have hj':j<row.length:=by omega
 rw[wj,wg hj'];exact h2 _ (wp hj')
def kai(k:Int)(c:Nat)(M N:Tb):Tb:=M.map fun r=>(kaa c N).map fun col=>La.ndot k r col
def imgM(k:Int)(M:Tb)(xs:List Nb):List Nb:=M.map fun r=>La.ndot k r xs
theorem tyes{σ:St}{H:Hp}{A B:Hp->Prop}(h:A H):tTrue σ H fun b H3=>if b=true then A H3 else B H3:=by
 show if true=true then A H else B H
 exact iteT h
theorem gyes{i:Nat}{x:V}{σ:St}{H:Hp}{A B:St->Hp->Prop}(h:A (σ.set i (some x)) H):gName i x σ H fun σ2 H2=>tTrue σ2 H2 fun b H3=>if b=true then A σ2 H3 else B σ2 H3:=by
 show if true=true then A (σ.set i (some x)) H else B (σ.set i (some x)) H
 exact iteT h
theorem Jz{K:PySem.W.Frag}{te:TE}{σb:St}{t:Addr}{ras:List Addr}{M:Tb}{H:Hp}{R:List V->Hp->Prop}(hT:kaf H M t ras)(hz:M.length<sizeLine)
  (hte:∀(a:Addr)(us:List V)(H':Hp)(Q:VK),H' a=some (.lst us)->(∀ l,H' l=none->Q (.ref l) (upd H' l (.lst us)))->te (σb.set 0 (some (.ref a))) H' Q)
  (hd:∀(ras2:List Addr)(H':Hp),Grow H H' M ras2->R (ras2.map V.ref) H') :
  ∃ W:Nat->Nat->List V->Hp->Prop,(∃ m,W 0 m [] H)/\∀ i m ys H,W i m ys H ->
   ((Itl K t).stop i H/\ys.length<=sizeLine/\R ys H) \/
   ((Itl K t).go i H/\ys.length<sizeLine/\∀ x H',(Itl K t).yld i H x H'->gName 0 x σb H' fun σ2 H2=>tTrue σ2 H2 fun b H3=>if b=true then te σ2 H3 fun y H4=>∃ m',m'<m/\W (i+1) m' (ys++[y]) H4 else ∃ m',m'<m/\W (i+1) m' ys H3):=by
 have hl:=zk hT.2;refine zQ (xs:=ras.map V.ref) (fun i ys H'=>∃ ras2,ys=ras2.map V.ref/\Grow H H' (M.take i) ras2) ⟨[],rfl,Grow.nil H (Same.refl H)⟩ ?_ ?_ ?_
 ·rintro i ys H' hi ⟨ras2,rfl,G⟩
  refine⟨SqL.of (G.same _ _ hT.1),?_⟩;have:=zk G.rows;rw[wx]at this;rw[we];omega
 ·rintro i v ys H' hv hi ⟨ras2,rfl,G⟩
  obtain⟨xs,a,hx,ha,rfl,hrow⟩:=(hT.mono G.same).row hv;obtain⟨us,hu,pu,lu⟩:=hrow.len;refine gyes ?_;refine hte a us H' _ hu fun l hl'=>?_
  refine nxt hi ⟨ras2++[l],by rw[wF];rfl,?_⟩;rw[zq hx];exact G.snoc hl' pu
 ·rintro ys H' ⟨ras2,rfl,G⟩
  rw[we,wr (by omega)]at G;exact hd ras2 H' G
theorem ziQ{H:Hp}{ds:List PyData}{vs:List V}{a:Addr}(h:H a=some (.lst vs))(r:Rps H ds vs):Rp H (.list ds) (.ref a):=by
 simp only[Rp];exact⟨a,_,rfl,h,r⟩
theorem XM{H:Hp}{d:PyData}{ds:List PyData}{v:V}{vs:List V}(h:Rp H d v)(r:Rps H ds vs):Rps H (d::ds) (v::vs):=by
 simp only[Rps];exact⟨_,_,rfl,h,r⟩
theorem zfz{H:Hp}:Rps H [] []:=by simp only[Rps]
section
variable{X:Cx}{K:PySem.W.Frag}
theorem zhs(hK:X.K=K):IxR X (rIxL K):=hK ▸ zf2
theorem Xi(hK:X.K=K):IxR X (rIxT K):=hK ▸ zib
theorem zhk(hK:X.K=K):SlR X (rSlL K):=hK ▸ zgw
theorem xL (hK:X.K=K):kaC X (.builtin "len") (fun xs H Q=>∃ p ys,xs=[.ref p]/\(SqL K H p ys\/SqT K H p ys)/\Q (.int ys.length) H):=hK ▸ za3
theorem zep (hK:X.K=K):kaC X (.type "list") (fun xs H Q=>∃ p ys,xs=[.ref p]/\(SqL K H p ys\/SqT K H p ys)/\∀ l,H l=none->Q (.ref l) (upd H l (.lst ys))):=hK ▸ zbO
theorem jb (hK:X.K=K):kaC X (.builtin "isinstance") (rIsi K):=hK ▸ zhK
theorem zfx (hc:X.calm=true) (hK:X.K=K):kaC X (.builtin "sum") (fun xs H Q=>∃ p ns,xs=[.ref p]/\SqL K H p ((ns:List Int).map V.int)/\Q (.int ns.sum) H):=hK ▸ zfQ hc
theorem zf6(hK:X.K=K):OpR X (compareOp .NotIn) (rIn K true):=hK ▸ zb2
theorem zg6{tg l:Expr}{tl:TE}(hK:X.K=K)(hl:PE X l tl):PI X tg l (iList K tl):=hK ▸ zge hl
theorem zfF{pos:Pos}{es:List Expr}{k:Nat}{t:TGs}(n:Nat)(hK:X.K=K)(hc:X.calm=true)(h:PGs X es t)
  (hn:(assignEach es X.env).length=n:=by rfl) (hst:(assignEach es X.env).findIdx? (·.1)=none:=by rfl):PG X (.Tuple es k pos) (gTup K n t):=hK ▸ zkt hc h hn hst
theorem ziT{pos:Pos}{es:List Expr}{k:Nat}{t:TGs}(n:Nat)(hK:X.K=K)(hc:X.calm=true)(h:PGs X es t)
  (hn:(assignEach es X.env).length=n:=by rfl) (hst:(assignEach es X.env).findIdx? (·.1)=none:=by rfl):PG X (.Tuple es k pos) (gLst K n t):=hK ▸ zjL hc h hn hst
end
end L2
namespace L2
open PySem PySem.Spec PyProof.Rows Nm
def IRs(H:Hp)(Ws:List (List Int))(t:Addr)(ras:List Addr):Prop:=H t=some (.lst (ras.map V.ref))/\Paired (IRow H) Ws ras
theorem ZK{H H':Hp}(g:Same H H'){Ws:List (List Int)}{ras:List Addr}(h:Paired (IRow H) Ws ras):Paired (IRow H') Ws ras:=xZ (fun _ _ r=>r.mono g) h
theorem IRs.mono{H H':Hp}{Ws:List (List Int)}{t:Addr}{ras:List Addr}(h:IRs H Ws t ras)(g:Same H H'):IRs H' Ws t ras:=⟨g _ _ h.1,ZK g h.2⟩
theorem IRs.row{H:Hp}{Ws:List (List Int)}{t:Addr}{ras:List Addr}{i:Nat}{v:V}(h:IRs H Ws t ras)(e:(ras.map V.ref)[i]?=some v):∃ ws a,Ws[i]?=some ws/\ras[i]?=some a/\v=.ref a/\IRow H ws a:=by
 rw[wo]at e;obtain⟨a,ha,rfl⟩:=wR.mp e;obtain⟨xs,hx,r⟩:=yh h.2 ha;exact⟨xs,a,hx,ha,rfl,r⟩
theorem IRow.ne{H:Hp}{ws:List Int}{a t:Addr}{rs:List Addr}(h:IRow H ws a)(hw:ws≠[])(ht:H t=some (.lst (rs.map V.ref))):a≠t:=fun e=>by
 subst e;unfold IRow at h;rw[ht]at h;cases ws with
 | nil=>exact hw rfl
 | cons w ws =>
  cases rs with
  | nil=>cases h
  | cons r rs=>cases h
theorem qo{H:Hp}{t:Addr}{rs:List Addr}{o:HO}(ht:H t=some (.lst (rs.map V.ref))){Ws:List (List Int)}{ras:List Addr}(h:Paired (IRow H) Ws ras)(hw:∀ ws∈Ws,ws≠[]):Paired (IRow (upd H t o)) Ws ras :=
 Jt (zk h) fun i ws a h1 h2=>by
  have r:=ju h h1 h2;show upd H t o a=_;rw[zN (r.ne (hw ws (wk h1)) ht)];exact r
theorem Je{H:Hp}{ws:List Int}{a:Addr}{j:Nat}(h:IRow H ws a)(hj:j<ws.length):atI (ws.map V.int) (0 +(j:Int))=some (.int (ws.getD j 0)):=by
 rw[vA];refine zP ?_;rw[wo,wj,wg hj];rfl
theorem cut1(xs:List V):cutV xs (some 1) none=xs.drop 1:=by
 unfold cutV;cases xs with
 | nil=>rfl
 | cons x xs =>
  rw[show(1:Int) =((1:Nat):Int)from rfl,HT.Zf,HT.XE];simp
def SzS(b:Nat)(s:List (Nat×List Int)×List (List Int)):Prop:=(∀ p∈s.1,∀ w∈p.2,Sm b w)/\∀ r∈s.2,∀ w∈r,Sm b w
theorem zaN{k:Int}(hk:kab k){b:Nat}(h7:61<=b){ws:List Int}(h:∀ w∈ws,Sm b w):∀ w∈La.kap k ws,Sm b w:=fun w hw=>by
 unfold La.kap at hw
 split at hw
 ·rename_i k0;obtain⟨x,_,rfl⟩:=wm.mp hw;exact zgd (by have:=hk.lt;omega) hk.lt.2 h7
 ·split at hw
  ·exact h w hw
  ·obtain⟨x,hx,rfl⟩:=wm.mp hw;exact zcW (h x hx) (La.zdh hx)
theorem ZR{b:Nat}{ws:List Int}(h:∀ w∈ws,Sm b w)(c:Nat):Sm b (ws.getD c 0):=by
 rcases wO c ws.length with g|g
 ·rw[wj,wg g];exact h _ (wp g)
 ·rw[wj,wK g];exact ZZ b
theorem zhp{b:Nat}{row lead:List Int}(hl:row.length=lead.length)(h1:∀ w∈row,Sm b w)(h2:∀ w∈lead,Sm b w)(c:Nat):∀ w∈La.mixed row lead c,Sm (2*b+1) w:=fun w hw=>by
 obtain⟨j,hj,e⟩:=wG hw;have e2:=La.QE hl c j;rw[wj,wg hj]at e2;have e3:w=lead.getD c 0*row.getD j 0 - row.getD c 0*lead.getD j 0:=by rw[← e,← e2];rfl
 rw[e3];exact(((ZR h2 c).mul (ZR h1 j)).sub ((ZR h1 c).mul (ZR h2 j))).mono (by omega)
theorem QH{k:Int}(hk:kab k){b:Nat}(h7:61<=b){row lead:List Int}(hl:row.length=lead.length)(h1:∀ w∈row,Sm b w)(h2:∀ w∈lead,Sm b w)(c:Nat):∀ w∈La.kag k lead c row,Sm (2*b+1) w:=by
 unfold La.kag
 split
 ·exact fun w hw=>(h1 w hw).mono (by omega)
 ·exact zaN hk (by omega) (zhp hl h1 h2 c)
theorem SzS.turn{k:Int}(hk:kab k){n c b:Nat}(h7:61<=b){s:List (Nat×List Int)×List (List Int)}(f:La.Fine k n s)(h:SzS b s):SzS (2*b+1) (La.kar k c s):=by
 unfold La.kar;cases e:s.2.filter (fun r=>decide (r.getD c 0≠0))with
 | nil=>exact⟨fun p hp w hw=>(h.1 p hp w hw).mono (by omega),fun p hp w hw=>(h.2 p hp w hw).mono (by omega)⟩
 | cons l rest =>
  have sub:∀ r∈l::rest,r∈s.2:=fun r hr=>by rw[← e]at hr;exact(wX.mp hr).1
  have hl:=sub l wt;refine⟨fun p hp=>?_,fun r hr=>?_⟩
  ·rcases wu.mp hp with hp|hp
   ·obtain⟨q,hq,rfl⟩:=wm.mp hp;exact QH hk h7 (by rw[f.dl q hq,f.wl l hl]) (h.1 q hq) (h.2 l hl) c
   ·rw[wD.mp hp];exact fun w hw=>(h.2 l hl w hw).mono (by omega)
  ·rcases wu.mp hr with hr|hr
   ·exact fun w hw=>(h.2 r (wX.mp hr).1 w hw).mono (by omega)
   ·obtain⟨q,hq,rfl⟩:=wm.mp hr;have hq2:=sub q (wv _ hq);exact QH hk h7 (by rw[f.wl q hq2,f.wl l hl]) (h.2 q hq2) (h.2 l hl) c
theorem zi0{k:Int}(hk:kab k){n b:Nat}(h7:61<=b){rows:List (List Int)}(hl:∀ r∈rows,r.length=n)(h:∀ r∈rows,∀ w∈r,Sm b w):∀ c,SzS ((b+1)*2^c - 1) (La.swTo k rows c)
 | 0=>⟨fun p hp=>(nomatch hp),fun r hr w hw=>by
   obtain⟨x,hx,rfl⟩:=wm.mp hr;exact(zaN hk h7 (h x hx) w hw).mono (by omega)⟩
 | c+1=>by
  have ih:=zi0 hk h7 hl h c;have h1:2^c ≥ 1:=uP;have h2:(b+1)*1<=(b+1)*2^c:=vg _ h1;have e:(b+1)*2^(c+1) - 1=2 *((b+1)*2^c - 1)+1:=by
   rw[gy];have:(b+1) *(2^c*2) =(b+1)*2^c*2:=by rw[gP]
   omega
  rw[e];exact SzS.turn hk (by omega) (La.Fine.to hk.lt.1 hl c) ih
end L2
namespace L2
open PySem PySem.Spec PyProof.Rows Nm
theorem za4{α β:Type}{R:α->β->Prop}{xs:List α}{ys:List β}(h:Paired R xs ys)(i:Nat){a:α}{b:β}(r:R a b):Paired R (xs.set i a) (ys.set i b):=by
 refine Jt (by rw[vn,vn];exact zk h) fun j x y h1 h2=>?_
 by_cases e:i=j
 ·subst e;have l1:i<xs.length:=by have:=(wq.mp h1).1;rw[vn]at this;exact this
  have l2:i<ys.length:=by rw[← zk h];exact l1
  rw[ux l1]at h1;rw[ux l2]at h2;cases h1;cases h2;exact r
 ·rw[ut e]at h1 h2;exact ju h h1 h2
theorem jt{H:Hp}{M:Tb}{t p:Addr}{ras:List Addr}(hT:kaf H M t ras)(hp:H p=none):p∉ras:=fun hm=>by
 obtain⟨xs,_,h⟩:=Ym hT.2 hm;obtain⟨o,e⟩:=h.some;rw[hp]at e;cases e
theorem ZT{n j:Nat}(h:j<n):ixN n (j:Int)=some j:=by
 unfold ixN;rw[if_pos (by omega),if_pos (by omega)];simp
theorem zj7{k:Int}(hk:kab k){D B m:Nat}{x:Nb}(h:La.dB D B x)(ox:x.ok k)(hD0:D≠0)(hD:D<2^m)(hB:B<2^m)(m7:61<=m):nsm m x:=by
 cases x with
 | q r =>
  obtain⟨h1,h2⟩:=La.dB.parts hD0 h;refine⟨uo h2 hB,?_⟩;show((r.den:Nat):Int).natAbs<2^m;rw[vS];exact uo h1 hD
 | z i =>
  have:=hk.lt;exact(Ji ox.2.1 ox.2.2 this.2).mono m7
theorem Jn{H:Hp}{t:Addr}{zs zs':List V}(ht:H t=some (.lst zs)){xs:List Nb}{vs:List V}(h:Paired (RN H) xs vs):Paired (RN (upd H t (.lst zs'))) xs vs:=xZ (fun _ _ r=>r.upd ht) h
def natV(L:List Nat):List V:=L.map fun(l:Nat)=>V.int (l:Int)
theorem zcb(L:List Nat):(natV L).all flatV=true:=by
 unfold natV;rw[List.all_map];exact uL.mpr fun _ _=>rfl
theorem zfU(j:Nat)(L:List Nat):inV (.int (j:Int)) (natV L)=decide (j∈L):=by
 unfold inV natV;rw[List.any_map]
 by_cases h:j∈L
 ·rw[decide_eq_true h,List.any_eq_true];exact⟨j,h,by show((j:Int) ==(j:Int))=true;simp⟩
 ·rw[decide_eq_false h,waD];intro x hx;show ¬((x:Int) ==(j:Int))=true;intro e;have:(x:Int) =(j:Int):=by simpa using e
  exact h (by rw[show j=x by omega];exact hx)
theorem zbQ{t u:TS}{D:Ends}{σ:St}{H:Hp}(N:St->Hp->Prop)(hN:∀ σ H,N σ H->u D σ H)(h:(∀ σ H,N σ H->u D σ H)->t { D with nx:=u D } σ H):tSeq t u D σ H:=h hN
end L2
namespace L2
open PySem PySem.Spec PyProof.Rows Nm
theorem zfA(v:V):∀ n:Nat,(wN n [v]).flatten=wN n v
 | 0=>rfl
 | n+1=>by rw[vO,ud,zfA v n,vO];rfl
theorem zg3{R:Nb->V->Prop}{x:Nb}{v:V}(r:R x v):∀ n:Nat,Paired R (wN n x) (wN n v)
 | 0=>.nil
 | n+1=>by rw[vO,vO];exact .cons r (zg3 r n)
theorem zcs{k:Int}{F:Type}[Lean.Grind.Field F]{φ:La.Kf k F}(hk:kab k){n i l:Nat}{R:Tb}{ls:List Nat}{r:List Nb}(h:La.IsR φ n R ls)(hr:R[i]?=some r)(hl:ls[i]?=some l) :
  l<n/\(∀ j,j<l->r[j]?=some (nnum k 0))/\r[l]?=some (nnum k 1):=by
 have o:=h.ok r (wk hr);have hp:=La.zcf (xs:=ls) (ys:=R.map (La.nv φ)) (i:=i) (a:=l) (b:=La.nv φ r) hl (by rw[wo,hr];rfl);have ln:l<n:=h.rr.lt _ hp;have val:∀ j,j<n->∀ y:Nb,y.ok k->La.nv φ r j=φ.to y->r[j]?=some y:=fun j hj y oy e=>by
  have hj':j<r.length:=by rw[o.1];exact hj
  rw[La.yq φ (wg hj')]at e;rw[wg hj',φ.inj (o.2 _ (wp hj')) oy e]
 refine⟨ln,fun j hj=>val j (by omega) _ (La.ya hk 0) ?_,val l ln _ (La.ya hk 1) ?_⟩
 ·rw[φ.num0];exact h.rr.bef _ hp j hj
 ·rw[φ.num1];exact h.rr.one _ hp
theorem num01{k:Int}(hk:kab k):nnum k 1≠nnum k 0:=fun e=>by
 obtain⟨F,_,_,⟨φ⟩⟩:=La.ye hk;have:=congrArg φ.to e;rw[φ.num0,φ.num1]at this;exact Lean.Grind.Field.zero_ne_one this.symm
theorem zfe(r x y:Rat):vM (r.num*x.den*y.den+x.num*y.num*r.den) (r.den*x.den*y.den)=r+x*y:=by
 rw[waH];have h1:r *((r.den:Int):Rat) =((r.num:Int):Rat):=La.kfRat.rat r rfl;have h2:x *((x.den:Int):Rat) =((x.num:Int):Rat):=La.kfRat.rat x rfl;have h3:y *((y.den:Int):Rat) =((y.num:Int):Rat):=La.kfRat.rat y rfl;have n1:((r.den:Int):Rat)≠0:=fun z=>js r (uH.mp z)
 have n2:((x.den:Int):Rat)≠0:=fun z=>js x (uH.mp z)
 have n3:((y.den:Int):Rat)≠0:=fun z=>js y (uH.mp z)
 rw[wac,vm,vm,vm,vm,vm,vm];generalize ((r.den:Int):Rat)=a at *;generalize ((x.den:Int):Rat)=b at *;generalize ((y.den:Int):Rat)=c at *;generalize ((r.num:Int):Rat)=a' at *;generalize ((x.num:Int):Rat)=b' at *;generalize ((y.num:Int):Rat)=c' at *
 grind
end L2
namespace L2
open PySem PySem.Spec PyProof.Rows Nm
theorem zdV{k:Int}(hk:kab k){m n:Nat}(m7:61<=m):∀(l:List (Nb×Nb)),(∀ p∈l,p.1.ok k/\p.2.ok k/\nsm m p.1/\nsm n p.2)->∀ s:Nb,s.ok k->∀ T,61<=T->nsm T s->nsm (T+l.length *(m+n+1)) (l.foldl (fun s p=>nadd k s (nmul k p.1 p.2)) s)
 | [],_,s,_,T,_,h=>by simpa using h
 | p::l,hl,s,os,T,t7,h=>by
  obtain⟨o1,o2,s1,s2⟩:=hl p wt;have om:=La.yS hk o1 o2;have step:nsm (T +(m+n+1)) (nadd k s (nmul k p.1 p.2)):=by
   obtain⟨x,y⟩:=p
   rcases ZW o1 o2 with⟨k0,r,t,rfl,rfl⟩|⟨k0,i,j,rfl,rfl,_⟩
   ·cases s with
    | z i=>exact absurd k0 os.1
    | q u =>
     show Sm _ (u+r*t).num/\Sm _ ((u+r*t).den:Int);rw[← zfe];have hb:(u.den:Int)*r.den*t.den≠0:=gW (gW (js u) (js r)) (js t);have st:Sm (T+m+n+1) (u.num*r.den*t.den+r.num*t.num*u.den):=((h.1.mul s1.2).mul s2.2).add (((s1.1.mul s2.1).mul h.2).mono (by omega));have d:=qZ hb st ((h.2.mul s1.2).mul s2.2);exact⟨d.1.mono (by omega),d.2.mono (by omega)⟩
   ·cases s with
    | q u=>exact absurd (show k=0 from os) k0
    | z u=>exact(zjQ hk k0 (by omega) _:nsm (T +(m+n+1)) (.z _))
  have:=zdV hk m7 l (fun q hq=>hl q (wv _ hq)) _ (La.JB hk os om) _ (by omega) step;rw[waa];refine this.mono ?_;rw[vQ,vZ];omega
theorem zeE{k:Int}(hk:kab k){m n:Nat}(m7:61<=m){xs ys:List Nb}(ox:La.OkR k xs)(oy:La.OkR k ys)(sx:∀ x∈xs,nsm m x)(sy:∀ y∈ys,nsm n y):nsm (61+xs.length *(m+n+1)) (La.ndot k xs ys):=by
 unfold La.ndot La.ndotF;have h:=zdV hk (n:=n) m7 (xs.zip ys) (fun p hp=>by
  obtain⟨a,b⟩:=p;obtain⟨h1,h2⟩:=vw hp;exact⟨ox _ h1,oy _ h2,sx _ h1,sy _ h2⟩) (nnum k 0) (La.ya hk 0) 61 (by decide) (ZV hk (ZZ 61) (by decide))
 refine h.mono ?_;rw[um];have:min xs.length ys.length *(m+n+1)<=xs.length *(m+n+1):=wU _ (vJ _ _);omega
theorem Yj{k:Int}(hk:kab k)(k0:k≠0){x:Nb}(h:x.ok k):nsm 61 x:=by
 cases x with
 | q r=>exact absurd (show k=0 from h) k0
 | z i=>exact Ji h.2.1 h.2.2 hk.lt.2
structure ROk(k:Int)(n m:Nat)(xs:List Nb):Prop where
 len:xs.length=n
 ok:La.OkR k xs
 sz:∀ x∈xs,nsm m x
structure TOk(k:Int)(r c m:Nat)(M:Tb):Prop where
 len:M.length=r
 ok:La.OkM k c M
 sz:∀ r∈M,∀ x∈r,nsm m x
theorem TOk.up{k:Int}{r c m m':Nat}{M:Tb}(h:TOk k r c m M)(hm:m<=m'):TOk k r c m' M:=⟨h.len,h.ok,fun r hr x hx=>(h.sz r hr x hx).mono hm⟩
theorem TOk.row{k:Int}{r c m:Nat}{M:Tb}(h:TOk k r c m M){x:List Nb}(hx:x∈M):ROk k c m x:=⟨(h.ok x hx).1,(h.ok x hx).2,h.sz x hx⟩
theorem zgl{k:Int}(hk:kab k){r c m m':Nat}(m7:61<=m){M:Tb}{x:List Nb}(hM:TOk k r c m M)(hx:ROk k c m' x):ROk k r (61+c *(m+m'+1)) (imgM k M x):=by
 refine⟨by unfold imgM;rw[we,hM.len],fun y hy=>?_,fun y hy=>?_⟩
 all_goals
  unfold imgM at hy;obtain⟨row,hr,rfl⟩:=wm.mp hy
 ·exact La.xl hk (hM.ok row hr).2 hx.ok
 ·have:=zeE hk m7 (hM.ok row hr).2 hx.ok (hM.sz row hr) hx.sz;rw[(hM.ok row hr).1]at this;exact this
theorem Qm{k:Int}{r c m:Nat}{M:Tb}(hM:TOk k r c m M):TOk k c r m (kaa c M):=by
 refine⟨zj _ _,by have:=zZ hM.ok;rw[hM.len]at this;exact this,fun q hq x hx=>?_⟩;unfold kaa at hq;obtain⟨j,hj,rfl⟩:=wm.mp hq;rw[vp]at hj;obtain⟨row,hrow,rfl⟩:=wm.mp hx;have hj':j<row.length:=by have:=(hM.ok row hrow).1;omega
 rw[wj,wg hj'];exact hM.sz row hrow _ (wp hj')
structure MOk(k:Int)(n h s m:Nat)(A B C:Tb):Prop where
 a:TOk k n n m A
 b:TOk k n h m B
 c:TOk k s n m C
structure kav(H:Hp)(A B C:Tb)(p ta tb tc:Addr)(ra rb rc:List Addr):Prop where
 tup:H p=some (.tup [.ref ta,.ref tb,.ref tc])
 a:kaf H A ta ra
 b:kaf H B tb rb
 c:kaf H C tc rc
theorem kav.mono{H H':Hp}{A B C:Tb}{p ta tb tc:Addr}{ra rb rc:List Addr}(h:kav H A B C p ta tb tc ra rb rc)(g:Same H H'):kav H' A B C p ta tb tc ra rb rc:=⟨g _ _ h.tup,h.a.mono g,h.b.mono g,h.c.mono g⟩
def machD(A B C:Tb):PyData:=.tuple [tabD A,tabD B,tabD C]
theorem zks{H:Hp}{ds:List PyData}{vs:List V}{a:Addr}(h:H a=some (.tup vs))(r:Rps H ds vs):Rp H (.tuple ds) (.ref a):=by
 simp only[Rp];exact⟨a,_,rfl,h,r⟩
theorem kav.rp{H:Hp}{A B C:Tb}{p ta tb tc:Addr}{ra rb rc:List Addr}(h:kav H A B C p ta tb tc ra rb rc):Rp H (machD A B C) (.ref p):=zks h.tup (XM h.a.rp (XM h.b.rp (XM h.c.rp zfz)))
theorem Yg(A B C:Tb):(machD A B C).canLay0=true:=by
 show((tabD A).canLay0 && ((tabD B).canLay0 && ((tabD C).canLay0 && true)))=true;rw[Zs,Zs,Zs];rfl
theorem JL(A B C:Tb):(machD A B C).depth<=4:=by
 show max (tabD A).depth (max (tabD B).depth (max (tabD C).depth 0))+1<=4;have:=qq A;have:=qq B;have:=qq C;omega
theorem Qw(A B C:Tb):PyData.eqv (machD A B C) (machD A B C)=true:=by
 show(PyData.eqv (tabD A) (tabD A) && (PyData.eqv (tabD B) (tabD B) && (PyData.eqv (tabD C) (tabD C) && true)))=true;rw[YI,YI,YI];rfl
def augM(A B:Tb):Tb:=vE (·++·) A B
theorem zhl{A B:Tb}{i:Nat}{a b:List Nb}(hA:A[i]?=some a)(hB:B[i]?=some b):(augM A B)[i]?=some (a++b):=by unfold augM;rw[vP,hA,hB]
end L2
namespace L2
open PySem PySem.Spec PyProof.Rows Nm
theorem kaf.upd{H:Hp}{M:Tb}{t p:Addr}{ras:List Addr}{zs zs':List V}(h:kaf H M t ras)(ht:t≠p)(hr:p∉ras)(hp:H p=some (.lst zs)):kaf (upd H p (.lst zs')) M t ras:=by
 refine⟨by rw[zN ht];exact h.1,Jt (zk h.2) fun i x a h1 h2=>(ju h.2 h1 h2).upd (fun e=>hr ?_) hp⟩;rw[← e];exact wk h2
theorem kaf.rsome{H:Hp}{M:Tb}{t:Addr}{ras:List Addr}(h:kaf H M t ras){r:Addr}(hr:r∈ras):∃ o,H r=some o:=by
 obtain⟨xs,_,hx⟩:=Ym h.2 hr;exact hx.some
def adr(rs:List (List Addr))(i j:Nat):Option Addr:=(rs[i]?).bind (·[j]?)
theorem ZS{rs:List (List Addr)}{ras:List Addr}{i j:Nat}(h:i<rs.length):adr (rs++[ras]) i j=adr rs i j:=by unfold adr;rw[vz h]
theorem qz{rs:List (List Addr)}{ras:List Addr}{j:Nat}:adr (rs++[ras]) rs.length j=ras[j]?:=by unfold adr;rw[vv (ww _),Gf];rfl
theorem QR{rs:List (List Addr)}{i j:Nat}{a:Addr}(h:adr rs i j=some a):∃ ras,rs[i]?=some ras/\ras[j]?=some a:=by
 unfold adr at h;exact Option.bind_eq_some_iff.mp h
structure kaj(H H':Hp)(Ms:List (Tb))(ts:List Addr)(rs:List (List Addr)):Prop where
 same:Same H H'
 lt:ts.length=Ms.length
 lr:rs.length=Ms.length
 tabs:∀(i:Nat) M t ras,Ms[i]?=some M->ts[i]?=some t->rs[i]?=some ras->kaf H' M t ras
 frt:∀ t∈ts,H t=none
 frr:∀ ras∈rs,∀ r∈ras,H r=none
 nd:ts.Nodup
 sep:∀ t∈ts,∀ ras∈rs,t∉ras
 inj:∀ i j i' j' a,adr rs i j=some a->adr rs i' j'=some a->i=i'/\j=j'
theorem kaj.nil{H H':Hp}(g:Same H H'):kaj H H' [] [] [] :=
 ⟨g,rfl,rfl,fun i M t ras h=>by simp at h,fun t h=>(nomatch h),fun r h=>(nomatch h),.nil,fun t h=>(nomatch h),fun i j i' j' a h=>by simp[adr]at h⟩
section
variable{H H' H2:Hp}{Ms:List (Tb)}{ts:List Addr}{rs:List (List Addr)}
theorem kaj.mono(G:kaj H H' Ms ts rs)(g:Same H' H2):kaj H H2 Ms ts rs:=⟨G.same.trans g,G.lt,G.lr,fun i M t ras h1 h2 h3=>(G.tabs i M t ras h1 h2 h3).mono g,G.frt,G.frr,G.nd,G.sep,G.inj⟩
theorem kaj.get(G:kaj H H' Ms ts rs){i:Nat}(hi:i<Ms.length):∃ M t ras,Ms[i]?=some M/\ts[i]?=some t/\rs[i]?=some ras/\kaf H' M t ras :=
 ⟨_,_,_,wg hi,wg (by rw[G.lt];exact hi),wg (by rw[G.lr];exact hi),G.tabs i _ _ _ (wg hi) (wg (by rw[G.lt];exact hi)) (wg (by rw[G.lr];exact hi))⟩
theorem kaj.tsome(G:kaj H H' Ms ts rs){t:Addr}(h:t∈ts):∃ o,H' t=some o:=by
 obtain⟨i,hi,rfl⟩:=wG h;obtain⟨M,t',ras,h1,h2,h3,h4⟩:=G.get (i:=i) (by rw[← G.lt];exact hi);rw[wg hi]at h2;cases h2;exact⟨_,h4.1⟩
theorem kaj.rsome(G:kaj H H' Ms ts rs){ras:List Addr}{r:Addr}(h:ras∈rs)(hr:r∈ras):∃ o,H' r=some o:=by
 obtain⟨i,hi,rfl⟩:=wG h;obtain⟨M,t',ras',h1,h2,h3,h4⟩:=G.get (i:=i) (by rw[← G.lr];exact hi);rw[wg hi]at h3;cases h3;exact h4.rsome hr
theorem kaj.push(G:kaj H H' Ms ts rs){M:Tb}{t:Addr}{ras:List Addr}(g:Same H' H2)(N:NewT H' H2 M t ras):kaj H H2 (Ms++[M]) (ts++[t]) (rs++[ras]):=by
 have ot:∀ x∈ts,x≠t:=fun x hx e=>by
  obtain⟨o,ho⟩:=G.tsome hx;rw[e,N.ft]at ho;cases ho
 have olds:∀ x∈rs,∀ r∈x,r∉ras:=fun x hx r hr h=>by
  obtain⟨o,ho⟩:=G.rsome hx hr;rw[N.fr r h]at ho;cases ho
 refine⟨G.same.trans g,by simp[G.lt],by simp[G.lr],fun i M' t' ras' h1 h2 h3=>?_,fun x hx=>?_,fun x hx r hr=>?_,?_,fun x hx y hy=>?_,fun i j i' j' a h1 h2=>?_⟩
 ·rcases wO i Ms.length with h|h
  ·rw[vz h]at h1;rw[vz (by rw[G.lt];exact h)]at h2;rw[vz (by rw[G.lr];exact h)]at h3;exact(G.tabs i M' t' ras' h1 h2 h3).mono g
  ·have e:i=Ms.length:=by
    have:=(wq.mp h1).1;simp at this;omega
   subst e;rw[vv (ww _),Gf]at h1;rw[← G.lt,vv (ww _),Gf]at h2;rw[← G.lr,vv (ww _),Gf]at h3;cases h1;cases h2;cases h3;exact N.tab
 ·rcases wu.mp hx with h|h
  ·exact G.frt x h
  ·rw[wD.mp h];exact G.same.none N.ft
 ·rcases wu.mp hx with h|h
  ·exact G.frr x h r hr
  ·rw[wD.mp h]at hr;exact G.same.none (N.fr r hr)
 ·rw[GL];exact⟨G.nd,by simp,fun x hx y hy=>by rw[wD.mp hy];exact ot x hx⟩
 ·rcases wu.mp hx with h|h
  ·rcases wu.mp hy with h'|h'
   ·exact G.sep x h y h'
   ·rw[wD.mp h'];intro hm;obtain⟨o,ho⟩:=G.tsome h;rw[N.fr x hm]at ho;cases ho
  ·rw[wD.mp h]
   rcases wu.mp hy with h'|h'
   ·intro hm;obtain⟨o,ho⟩:=G.rsome h' hm;rw[N.ft]at ho;cases ho
   ·rw[wD.mp h'];exact N.nt
 ·have lim:∀ i j,adr (rs++[ras]) i j=some a->i<=rs.length:=fun i j h=>by
   obtain⟨x,hx,_⟩:=QR h;have:=(wq.mp hx).1;simp at this;omega
  have mem:∀ i j,i<rs.length->adr (rs++[ras]) i j=some a->∃ x∈rs,a∈x:=fun i j hi h=>by
   rw[ZS hi]at h;obtain⟨x,hx,hx'⟩:=QR h;exact⟨x,wk hx,wk hx'⟩
  rcases wO i rs.length with h|h <;> rcases wO i' rs.length with h'|h'
  ·rw[ZS h]at h1;rw[ZS h']at h2;exact G.inj i j i' j' a h1 h2
  ·obtain⟨x,hx,ha⟩:=mem i j h h1;have e:i'=rs.length:=Gx (lim i' j' h2) h';rw[e,qz]at h2;exact absurd (wk h2) (olds x hx a ha)
  ·obtain⟨x,hx,ha⟩:=mem i' j' h' h2;have e:i=rs.length:=Gx (lim i j h1) h;rw[e,qz]at h1;exact absurd (wk h1) (olds x hx a ha)
  ·have e:i=rs.length:=Gx (lim i j h1) h;have e':i'=rs.length:=Gx (lim i' j' h2) h';rw[e,qz]at h1;rw[e',qz]at h2;exact⟨by omega,(uC (wq.mp h1).1 N.nd).mp (h1.trans h2.symm)⟩
theorem kaj.updAt(G:kaj H H' Ms ts rs){p:Addr}{zs zs':List V}(hp:H p=none)(h:H' p=some (.lst zs))(nt:p∉ts)(nr:∀ ras∈rs,p∉ras):kaj H (upd H' p (.lst zs')) Ms ts rs :=
 ⟨yw G.same hp,G.lt,G.lr,fun i M t ras h1 h2 h3=>(G.tabs i M t ras h1 h2 h3).upd (fun e=>nt (by rw[← e];exact wk h2)) (nr ras (wk h3)) h,G.frt,G.frr,G.nd,G.sep,G.inj⟩
end
def tabsD(Ms:List (Tb)):PyData:=.list (Ms.map tabD)
theorem zbr(Ms:List (Tb)):(tabsD Ms).canLay0=true:=ZA tabD Zs Ms
theorem zc0(Ms:List (Tb)):(tabsD Ms).depth<=4:=GP (jQ tabD 3 qq Ms)
theorem zeb(Ms:List (Tb)):PyData.eqv (tabsD Ms) (tabsD Ms)=true:=ZG tabD YI Ms
theorem zig{α:Type}{H:Hp}(f:α->PyData):∀(xs:List α)(vs:List V),xs.length=vs.length->(∀(i:Nat)(x:α)(v:V),xs[i]?=some x->vs[i]?=some v->Rp H (f x) v)->Rps H (xs.map f) vs
 | [],[],_,_=>zfz
 | [],_::_,h,_=>by simp at h
 | _::_,[],h,_=>by simp at h
 | x::xs,v::vs,h,q=>XM (q 0 x v rfl rfl) (zig f xs vs (by simpa using h) fun i y u h1 h2=>q (i+1) y u (by simpa using h1) (by simpa using h2))
def powX(k:Int)(A:Tb)(x:List Nb):Nat->List Nb
 | 0=>x
 | i+1=>imgM k A (powX k A x i)
def szP(n z:Nat):Nat->Nat
 | 0=>z
 | i+1=>61+n *(z+szP n z i+1)
theorem zjJ{n z:Nat}(h:61<=z):∀ i,61<=szP n z i
 | 0=>h
 | i+1=>by simp only[szP];omega
theorem zdm{k:Int}(hk:kab k){n z:Nat}(z7:61<=z){A:Tb}{x:List Nb}(hA:TOk k n n z A)(hx:ROk k n z x):∀ i,ROk k n (szP n z i) (powX k A x i)
 | 0=>hx
 | i+1=>zgl hk z7 hA (zdm hk z7 hA hx i)
end L2
namespace L2
open PySem PySem.Spec PyProof.Rows Nm
end L2
namespace L2
open PySem PySem.Spec PyProof.Rows Nm
theorem zik{k:Int}(hk:kab k){n b:Nat}(h7:61<=b){rows:List (List Int)}(hl:∀ r∈rows,r.length=n)(h:∀ r∈rows,∀ w∈r,Sm b w):∀ c,SzS ((b+1)*2^(La.swTo k rows c).1.length - 1) (La.swTo k rows c)
 | 0=>⟨fun p hp=>(nomatch hp),fun r hr w hw=>by
   obtain⟨x,hx,rfl⟩:=wm.mp hr;exact(zaN hk h7 (h x hx) w hw).mono (by show b<=(b+1)*2^0 - 1;omega)⟩
 | c+1=>by
  have ih:=zik hk h7 hl h c;have fine:=La.Fine.to hk.lt.1 hl c;show SzS ((b+1)*2^(La.kar k c (La.swTo k rows c)).1.length - 1) (La.kar k c (La.swTo k rows c));generalize La.swTo k rows c=s at ih fine;have h1:2^s.1.length ≥ 1:=uP;have h2:(b+1)*1<=(b+1)*2^s.1.length:=vg _ h1;cases e:s.2.filter (fun r=>decide (r.getD c 0≠0))with
  | nil =>
   have t:La.kar k c s=s:=by unfold La.kar;simp only[e]
   rw[t];exact ih
  | cons l rest =>
   have t:=SzS.turn (c:=c) hk (show 61<=(b+1)*2^s.1.length - 1 by omega) fine ih;have len:(La.kar k c s).1.length=s.1.length+1:=by
    unfold La.kar;simp only[e];rw[wy,we];rfl
   rw[len];have e2:(b+1)*2^(s.1.length+1) - 1=2 *((b+1)*2^s.1.length - 1)+1:=by
    rw[gy];have:(b+1) *(2^s.1.length*2) =(b+1)*2^s.1.length*2:=by rw[gP]
    omega
   rw[e2];exact t
theorem Jq{k:Int}(hk:kab k){n B:Nat}{M R:Tb}{ls:List Nat}(h7:61<=B)(oM:La.OkM k n M)(hM:La.kak B M)(red:∀(F:Type) [Lean.Grind.Field F] (φ:La.Kf k F),La.kaq φ n M R ls):La.kak ((B+1)*2^R.length) R:=by
 obtain⟨F0,i0,d0,⟨φ0⟩⟩:=La.ye hk;have:∃ Ws:List (List Int),Ws.length=M.length/\(∀(i:Nat)(r:List Nb)(ws:List Int),M[i]?=some r->Ws[i]?=some ws->∃ b,La.Scl k r ws b)/\∀ ws∈Ws,ws.length=n/\∀ w∈ws,Sm B w:=by
  clear red
  induction M with
  | nil=>exact⟨[],rfl,fun i r ws h=>by simp at h,fun ws h=>(nomatch h)⟩
  | cons m M ih =>
   obtain⟨Ws,l,h,hs⟩:=ih (fun r hr=>oM r (wv _ hr)) (fun r hr=>hM r (wv _ hr));have om:=oM m wt;obtain⟨D,D0,D1,hD⟩:=hM m wt
   by_cases k0:k=0
   ·have dv:∀ x∈m,La.dvB (D:Int) x:=fun x hx=>by
     cases x with
     | q r=>exact La.dB.den_dvd D0 (hD _ hx)
     | z i=>trivial
    have sc:La.Scl k m (m.map (La.scW (D:Int))) (D:Int):=⟨rfl,by omega,fun z=>absurd k0 z,dv⟩;refine⟨m.map (La.scW (D:Int))::Ws,by simp[l],fun i r ws h1 h2=>?_,fun ws hw=>?_⟩
    ·cases i with
     | zero=>simp at h1 h2;subst h1 h2;exact⟨_,sc⟩
     | succ i=>exact h i r ws (by simpa using h1) (by simpa using h2)
    ·rcases wL.mp hw with e|hw
     ·rw[e];refine⟨by rw[we];exact om.1,fun w hw=>?_⟩;obtain⟨x,hx,rfl⟩:=wm.mp hw;exact La.zgS hk (om.2 x hx) h7 D0 (hD x hx) (by omega) (dv x hx) fun _=>wa7 _
     ·exact hs ws hw
   ·have dv:∀ x∈m,La.dvB 1 x:=fun x hx=>by
     cases x with
     | q r=>exact absurd (om.2 _ hx) k0
     | z i=>trivial
    have sc:La.Scl k m (m.map (La.scW 1)) 1:=⟨rfl,by decide,fun _=>rfl,dv⟩;refine⟨m.map (La.scW 1)::Ws,by simp[l],fun i r ws h1 h2=>?_,fun ws hw=>?_⟩
    ·cases i with
     | zero=>simp at h1 h2;subst h1 h2;exact⟨_,sc⟩
     | succ i=>exact h i r ws (by simpa using h1) (by simpa using h2)
    ·rcases wL.mp hw with e|hw
     ·rw[e];refine⟨by rw[we];exact om.1,fun w hw=>?_⟩;obtain⟨x,hx,rfl⟩:=wm.mp hw;exact La.zgS hk (om.2 x hx) h7 D0 (hD x hx) (by decide) (dv x hx) fun z=>absurd z k0
     ·exact hs ws hw
 obtain⟨Ws,lW,scl,hs⟩:=this;have r2:=La.JA φ0 hk oM lW scl;have eR:R=La.redM k n Ws:=(red F0 φ0).unique r2 (fun v q=>q) (fun v q=>q);have wl:∀ r∈Ws,r.length=n:=fun r hr=>(hs r hr).1
 have szs:=zik hk h7 wl (fun r hr=>(hs r hr).2) n;have fine:=La.Fine.to hk.lt.1 wl n;have len:R.length =(La.swTo k Ws n).1.length:=by rw[eR];unfold La.redM;rw[we]
 rw[len];intro r hr;rw[eR]at hr;unfold La.redM at hr;obtain⟨p,hp,rfl⟩:=wm.mp hr;obtain⟨h1,h2,h3,h4⟩:=La.ZE φ0 hk.lt.1 wl hp;have nn:nnum k (p.2.getD p.1 0)≠nnum k 0:=La.zal φ0 fun z=>h3 ((La.JP φ0 (fine.df p hp) p.1).mp z)
 have b:=La.zeB hk (B:=(B+1)*2^(La.swTo k Ws n).1.length - 1) (p:=p.1) (ws:=p.2) (fun w hw=>szs.1 p hp w hw) (by omega) h3 nn;exact b.mono (by omega)
theorem zcI{k:Int}{n C:Nat}{W:Tb}(hW:La.kak C W):∃ D:Nat,D≠0/\D<=2^(W.length*C)/\∀ r∈W,La.rowD D (W.length*C) r:=by
 induction W with
 | nil=>exact⟨1,by decide,by simp,fun r hr=>(nomatch hr)⟩
 | cons w W ih =>
  obtain⟨D,d0,d1,hd⟩:=ih fun r hr=>hW r (wv _ hr)
  obtain⟨E,e0,e1,he⟩:=hW w wt;have ep:2^((w::W).length*C)=2^(W.length*C)*2^C:=by rw[← ul,vQ,vZ,vT]
  have p1:0<2^(W.length*C):=gu (by decide);have p2:0<2^C:=gu (by decide);refine⟨E*D,waf e0 d0,?_,fun r hr x hx=>?_⟩
  ·rw[ep,uk E D];exact vf d1 (by omega)
  ·rcases wL.mp hr with e|hr
   ·rw[e]at hx;have h:=La.dB.up (he x hx) D (2^(W.length*C)) d1;rw[uk D E]at h;refine h.mono ?_;rw[ep,wam,gY];omega
   ·have h:=La.dB.up (hd r hr x hx) E (2^C) (by omega);refine h.mono ?_;rw[ep,wam,gY,uk (2^C)];omega
theorem zkj{k:Int}(hk:kab k){D B:Nat}{y:Nb}(h:La.dB D B y)(oy:y.ok k):La.dB D B (nsub k (nnum k 0) y):=by
 cases y with
 | q r =>
  have k0:k=0:=oy;subst k0;obtain⟨a,ea,ha⟩:=h;show ∃ a:Int,(((0:Int):Rat) - r) *((D:Int):Rat) =((a:Int):Rat)/\a.natAbs<=B;refine⟨-a,?_,by omega⟩;rw[wae,← ea];show((0:Rat) - r) *((D:Int):Rat)=_
  grind
 | z i =>
  have e:nnum k 0=.z ((0:Int).fmod k):=by unfold nnum;rw[if_neg oy.1]
  rw[e]
  trivial
theorem zgF{k:Int}(hk:kab k){n C f:Nat}{W:Tb}{lw:List Nat}{xs:List Nb}(hW:La.kak C W)(oW:La.OkM k n W)(hl:lw.length=W.length)(c7:61<=C)(wn:W.length<n)(hf:f<n)(g:La.AgR k n W lw f xs):La.rowB (n*C) xs:=by
 obtain⟨D,d0,d1,hd⟩:=zcI (k:=k) (n:=n) hW;have le1:W.length*C+C<=n*C:=by
  have:(W.length+1)*C<=n*C:=wU _ (by omega);rw[vZ]at this;omega
 have lt:2^(W.length*C)<2^(n*C):=Nat.pow_lt_pow_right (by decide) (by omega);refine⟨D,d0,by omega,fun x hx=>?_⟩;obtain⟨j,hj,e⟩:=wG hx;have hx':xs[j]?=some x:=by rw[wg hj,e]
 have hjn:j<n:=by rw[← g.len];exact hj
 by_cases ef:j=f
 ·subst ef;rw[g.one]at hx';cases hx';refine La.dB.num ?_;show 1*D<=_;omega
 ·by_cases hm:j∈lw
  ·obtain⟨i,hi,ei⟩:=wG hm;have h2:i<W.length:=by omega
   have ow:=oW _ (wp h2);have hf':f<W[i].length:=by rw[ow.1];exact hf
   have:=g.at_ i j W[i] W[i][f] (by rw[wg hi,ei]) (wg h2) (wg hf');rw[hx']at this;cases this;exact(zkj hk (hd _ (wp h2) _ (wp hf')) (ow.2 _ (wp hf'))).mono (by omega)
  ·rw[g.off j hjn ef hm]at hx';cases hx';exact La.dB.num (by simp)
def IsRa(k:Int)(n:Nat)(W:Tb)(lw:List Nat):Prop:=∀(F:Type) [Lean.Grind.Field F] (φ:La.Kf k F),La.IsR φ n W lw
theorem yl{k:Int}(hk:kab k){n:Nat}{W:Tb}{lw:List Nat}(h:IsRa k n W lw):La.OkM k n W/\lw.length=W.length/\lw.Pairwise (·<·)/\∀ l∈lw,l<n:=by
 obtain⟨F,_,_,⟨φ⟩⟩:=La.ye hk;refine⟨(h F φ).ok,(h F φ).len,(h F φ).inc,fun l hl=>?_⟩;obtain⟨i,r,h1,h2⟩:=(h F φ).lead_of hl;exact(h F φ).rr.lt _ ((h F φ).get h1 h2)
theorem Xj:∀ {l:List Nat} {m n:Nat},l.Pairwise (·<·)->(∀ x∈l,m<=x/\x<n)->m<=n->l.length<=n - m
 | [],_,_,_,_,_=>vC _
 | x::l,m,n,pw,h,mn=>by
  rw[uq]at pw;have hx:=h x wt;have:=Xj (l:=l) (m:=x+1) (n:=n) pw.2 (fun y hy=>⟨pw.1 y hy,(h y (wv _ hy)).2⟩) (by omega);rw[vQ];omega
theorem yN{k:Int}(hk:kab k){n:Nat}{W:Tb}{lw:List Nat}(h:IsRa k n W lw):W.length<=n:=by
 obtain⟨_,e,pw,lt⟩:=yl hk h;have:=Xj (m:=0) pw (fun x hx=>⟨vC _,lt x hx⟩) (vC _);omega
theorem yY{k:Int}{n:Nat}{M R:Tb}{ls:List Nat}(h:∀(F:Type) [Lean.Grind.Field F] (φ:La.Kf k F),La.kaq φ n M R ls):IsRa k n R ls:=fun F _ φ=>(h F φ).toIsR
theorem zap{k:Int}(hk:kab k){n:Nat}{W W':Tb}{lw lw':List Nat}(h:IsRa k n W lw)(h':IsRa k n W' lw')(e:∀(F:Type) [Lean.Grind.Field F] (φ:La.Kf k F) (v:Nat->F),La.Rm φ W v↔La.Rm φ W' v):W=W':=by
 obtain⟨F,_,_,⟨φ⟩⟩:=La.ye hk;exact(h F φ).ext (h' F φ) (e F φ)
def kaD(n:Nat)(ls:List Nat):List Nat:=(vd n).filter fun f=>!decide (f∈ls)
theorem zdQ(n:Nat)(ls:List Nat):(kaD n ls).Pairwise (·<·):=(gk (n:=n)).filter _
theorem Zt(n:Nat)(ls:List Nat)(f:Nat):f∈kaD n ls↔f<n/\f∉ls:=by
 unfold kaD;rw[wX,vp];simp
theorem zdk{k:Int}(hk:kab k){n:Nat}{W:Tb}{lw:List Nat}(h:IsRa k n W lw):(kaD n lw).length+W.length=n:=by
 obtain⟨_,e,pw,lt⟩:=yl hk h;have h1:=La.jK (fun x=>decide (x∈lw)) (vd n);have h2:(vd n).filter (fun x=>decide (x∈lw))=lw:=La.jB ((gk (n:=n)).filter _) pw (fun p hp=>by simpa using (wX.mp hp).2) (fun p hp=>wX.mpr ⟨vp.mpr (lt p hp),by simpa using hp⟩);rw[h2,vL]at h1;unfold kaD;omega
theorem jX{l:List Nat}{i:Nat}{x:Nat}(p:Nat->Bool)(h:l[i]?=some x):(l.take (i+1)).filter p =(l.take i).filter p ++(if p x=true then [x] else []):=La.xx p h
theorem Grow.snocR{H H1 H2:Hp}{M:Tb}{ras:List Addr}(G:Grow H H1 M ras)(g:Same H1 H2){xs:List Nb}{p:Addr}(hr:kas H2 xs p)(hp:H1 p=none):Grow H H2 (M++[xs]) (ras++[p]):=by
 have G':=G.mono g;refine⟨G'.same,yj G'.rows hr,fun r hr'=>?_,?_⟩
 ·rcases wu.mp hr' with h|h
  ·exact G.fr r h
  ·rw[wD.mp h];exact G.same.none hp
 ·rw[GL];refine⟨G.nd,by simp,fun a ha b hb e=>G.not_mem hp ?_⟩;rw[← wD.mp hb,← e];exact ha
structure AgI(k:Int)(n:Nat)(R:Tb)(ls:List Nat)(f i:Nat)(xs:List Nb):Prop where
 len:xs.length=n
 ok:La.OkR k xs
 one:xs[f]?=some (nnum k 1)
 at_:∀(t l:Nat)(r:List Nb)(y:Nb),t<i->ls[t]?=some l->R[t]?=some r->r[f]?=some y->xs[l]?=some (nsub k (nnum k 0) y)
 off:∀ j,j<n->j≠f->j∉ls.take i->xs[j]?=some (nnum k 0)
theorem AgI.start{k:Int}(hk:kab k){n f:Nat}(hf:f<n)(R:Tb)(ls:List Nat):AgI k n R ls f 0 ((wN n (nnum k 0)).set f (nnum k 1)):=by
 refine⟨by rw[vn,vt],fun x hx=>?_,ux (by rw[vt];exact hf),fun t l r y h=>absurd h (vI t),fun j hj ne _=>?_⟩
 ·rcases La.ym hx with e|e
  ·rw[e];exact La.ya hk 1
  ·rw[Gc e];exact La.ya hk 0
 ·rw[ut (Ne.symm ne),uF,if_pos hj]
theorem AgI.step{k:Int}(hk:kab k){n f i l:Nat}{R:Tb}{ls:List Nat}{xs r:List Nb}{y:Nb}(T:AgI k n R ls f i xs)(nd:ls.Nodup)(nf:f∉ls)(hl:ls[i]?=some l)(hr:R[i]?=some r)(hy:r[f]?=some y)(oy:y.ok k)(ln:l<n):AgI k n R ls f (i+1) (xs.set l (nsub k (nnum k 0) y)):=by
 have lf:l≠f:=fun e=>nf (by rw[← e];exact wk hl)
 refine⟨by rw[vn];exact T.len,fun x hx=>?_,by rw[ut lf];exact T.one,fun t l' r' y' ht hl' hr' hy'=>?_,fun j hj ne nm=>?_⟩
 ·rcases La.ym hx with e|e
  ·rw[e];exact JF hk.lt.1 (La.ya hk 0) oy
  ·exact T.ok x e
 ·by_cases e:t=i
  ·subst e;rw[hl]at hl';cases hl';rw[hr]at hr';cases hr';rw[hy]at hy';cases hy';rw[ux (by rw[T.len];exact ln)]
  ·have ne:l'≠l:=fun z=>e ((uC (wq.mp hl').1 nd).mp (by rw[hl',hl,z]))
   rw[ut (Ne.symm ne)];exact T.at_ t l' r' y' (by omega) hl' hr' hy'
 ·rw[zq hl]at nm;have n1:j∉ls.take i:=fun h=>nm (wH _ h)
  have n2:j≠l:=fun h=>nm (wE _ (by rw[h];exact wD.mpr rfl))
  rw[ut (Ne.symm n2)];exact T.off j hj ne n1
theorem AgI.done{k:Int}{n f:Nat}{R:Tb}{ls:List Nat}{xs:List Nb}(T:AgI k n R ls f R.length xs)(hl:ls.length=R.length):La.AgR k n R ls f xs :=
 ⟨T.len,T.ok,T.one,fun i l r y h1 h2 h3=>T.at_ i l r y (wq.mp h2).1 h1 h2 h3,fun j hj ne nm=>T.off j hj ne (by rw[wr (by omega)];exact nm)⟩
theorem YC{k:Int}(hk:kab k){n C:Nat}{W:Tb}(oW:La.OkM k n W)(h:La.kak C W)(c7:61<=C):∀ r∈W,∀ x∈r,nsm C x:=fun r hr x hx=>by
 obtain⟨D,d0,d1,hd⟩:=h r hr;have:0<2^C:=gu (by decide);exact zj7 hk (hd x hx) ((oW r hr).2 x hx) d0 d1 (by omega) c7
theorem ziG{k:Int}(hk:kab k){n:Nat}{W1 W2 A1 A2 J:Tb}{l1 l2 lj:List Nat}(i1:IsRa k n W1 l1)(i2:IsRa k n W2 l2)
  (p1:∀(F:Type) [Lean.Grind.Field F] (φ:La.Kf k F) (v:Nat->F),La.Rm φ A1 v↔La.perp n (La.Rm φ W1) v) (p2:∀(F:Type) [Lean.Grind.Field F] (φ:La.Kf k F) (v:Nat->F),La.Rm φ A2 v↔La.perp n (La.Rm φ W2) v)
  (red:∀(F:Type) [Lean.Grind.Field F] (φ:La.Kf k F),La.kaq φ n (A1++A2) J lj) (F:Type) [Lean.Grind.Field F] (φ:La.Kf k F) (v:Nat->F):La.perp n (La.Rm φ J) v↔La.Rm φ W1 v/\La.Rm φ W2 v:=by
 have s1:∀ u,La.Rm φ A1 u->La.Rm φ J u:=fun u hu=>(red F φ).to u (hu.mono fun r ⟨x,hx,e⟩=>⟨x,wH _ hx,e⟩)
 have s2:∀ u,La.Rm φ A2 u->La.Rm φ J u:=fun u hu=>(red F φ).to u (hu.mono fun r ⟨x,hx,e⟩=>⟨x,wE _ hx,e⟩)
 constructor
 ·rintro ⟨z,h⟩
  exact⟨(La.ja (i1 F φ) hk v).mp ⟨z,fun u hu=>h u (s1 u ((p1 F φ u).mpr hu))⟩,(La.ja (i2 F φ) hk v).mp ⟨z,fun u hu=>h u (s2 u ((p2 F φ u).mpr hu))⟩⟩
 ·rintro ⟨h1,h2⟩
  refine⟨fun j hj=>(i1 F φ).supp h1 j hj,fun u hu=>((red F φ).fro u hu).dot_zero fun r ⟨x,hx,e⟩=>?_⟩
  rcases wu.mp hx with q|q
  ·rw[e,La.zV];exact((p1 F φ _).mp (.of ⟨x,q,rfl⟩)).2 v h1
  ·rw[e,La.zV];exact((p2 F φ _).mp (.of ⟨x,q,rfl⟩)).2 v h2
def kaz(k:Int)(W M:Tb):Prop:=∀(F:Type) [Lean.Grind.Field F] (φ:La.Kf k F) (v:Nat->F),La.Rm φ W v↔La.Rm φ M v
def Gen(k:Int)(n g:Nat)(W:Tb):Prop:=∃ M,La.OkM k n M/\La.kak g M/\kaz k W M
theorem zdi{k:Int}{n:Nat}{W M:Tb}{lw:List Nat}(h:IsRa k n W lw)(e:kaz k W M):∀(F:Type) [Lean.Grind.Field F] (φ:La.Kf k F),La.kaq φ n M W lw:=fun F _ φ=>{ (h F φ)with to:=fun v q=>(e F φ v).mpr q,fro:=fun v q=>(e F φ v).mp q }
theorem zc5{k:Int}(hk:kab k){n g:Nat}{W:Tb}{lw:List Nat}(h:IsRa k n W lw)(g7:61<=g)(hg:Gen k n g W):La.kak ((g+1)*2^W.length) W:=by
 obtain⟨M,oM,cM,e⟩:=hg;exact Jq hk g7 oM cM (zdi h e)
theorem Zv{k:Int}(hk:kab k){n g:Nat}{W:Tb}{lw:List Nat}(h:IsRa k n W lw)(g7:61<=g)(hg:Gen k n g W):La.kak ((g+1)*2^n) W :=
 (zc5 hk h g7 hg).mono (vg _ (ve (by decide) (yN hk h)))
theorem ziP{k:Int}(hk:kab k){n:Nat}{M R:Tb}{ls:List Nat}(oM:La.OkM k n M)(red:∀(F:Type) [Lean.Grind.Field F] (φ:La.Kf k F),La.kaq φ n M R ls):R.length<=M.length:=by
 obtain⟨F,_,_,⟨φ⟩⟩:=La.ye hk;have:∃ Ws:List (List Int),Ws.length=M.length/\∀(i:Nat)(r:List Nb)(ws:List Int),M[i]?=some r->Ws[i]?=some ws->∃ b,La.Scl k r ws b:=by
  clear red
  induction M with
  | nil=>exact⟨[],rfl,fun i r ws h=>by simp at h⟩
  | cons m M ih =>
   obtain⟨Ws,l,h⟩:=ih fun r hr=>oM r (wv _ hr)
   obtain⟨b,hb⟩:=La.Zu hk (oM m wt).2;refine⟨m.map (La.scW b)::Ws,by simp[l],fun i r ws h1 h2=>?_⟩;cases i with
   | zero=>simp at h1 h2;subst h1 h2;exact⟨b,hb⟩
   | succ i=>exact h i r ws (by simpa using h1) (by simpa using h2)
 obtain⟨Ws,l,h⟩:=this;have eR:R=La.redM k n Ws:=(red F φ).unique (La.JA φ hk oM l h) (fun v q=>q) (fun v q=>q);have:=La.Yq (k:=k) Ws n;rw[eR];unfold La.redM;rw[we];omega
def agL(k:Int)(n:Nat)(W:Tb)(lw:List Nat)(f:Nat):List Nb:=(vd n).map fun j=>if j=f then nnum k 1 else if j∈lw then nsub k (nnum k 0) ((W.getD (lw.idxOf j) []).getD f (nnum k 0))else nnum k 0
theorem zd4{k:Int}(hk:kab k){n f:Nat}{W:Tb}{lw:List Nat}(h:IsRa k n W lw)(hf:f<n)(nf:f∉lw):La.AgR k n W lw f (agL k n W lw f):=by
 obtain⟨oW,ll,inc,lt⟩:=yl hk h;have nd:lw.Nodup:=inc.imp fun h=>wY h
 have get:∀ j,j<n->(agL k n W lw f)[j]?=some (if j=f then nnum k 1 else if j∈lw then nsub k (nnum k 0) ((W.getD (lw.idxOf j) []).getD f (nnum k 0))else nnum k 0):=fun j hj=>by
  unfold agL;rw[wo,vG hj];rfl
 refine⟨by unfold agL;simp,fun x hx=>?_,by rw[get f hf,if_pos rfl],fun i l r y hl hr hy=>?_,fun j hj ne nm=>by rw[get j hj,if_neg ne,if_neg nm]⟩
 ·unfold agL at hx;obtain⟨j,_,rfl⟩:=wm.mp hx
  split
  ·exact La.ya hk 1
  ·split
   ·rename_i hm;refine JF hk.lt.1 (La.ya hk 0) ?_;have hi:lw.idxOf j<W.length:=by rw[← ll];exact uw hm
    rw[wj (l:=W),wg hi];show((W[lw.idxOf j]).getD f (nnum k 0)).ok k;rw[wj];have o:=oW _ (wp hi);rw[wg (by rw[o.1];exact hf)];exact o.2 _ (wp _)
   ·exact La.ya hk 0
 ·have lf:l≠f:=fun e=>nf (by rw[← e];exact wk hl)
  have hm:=wk hl;have ei:lw.idxOf l=i:=by
   have h1:lw[lw.idxOf l]?=some l:=by rw[wg (uw hm)];simp
   exact(uC (uw hm) nd).mp (h1.trans hl.symm)
  rw[get l (lt l hm),if_neg lf,if_pos hm,ei,wj (l:=W),hr];show some (nsub k (nnum k 0) (r.getD f (nnum k 0)))=_;rw[wj,hy];rfl
theorem JK{k:Int}(hk:kab k){n g:Nat}{W A:Tb}{lw la:List Nat}(n1:1<=n)(h:IsRa k n W lw)(g7:61<=g)(hg:Gen k n g W)(hA:IsRa k n A la)(e:∀(F:Type) [Lean.Grind.Field F] (φ:La.Kf k F) (v:Nat->F),La.Rm φ A v↔La.perp n (La.Rm φ W) v):La.kak ((n *(g+1)+1)*2^n) A:=by
 obtain⟨oW,ll,inc,lt⟩:=yl hk h;have cW:=zc5 hk h g7 hg;have fl:=zdk hk h;have p1:1<=2^W.length:=uP;have c7:61<=(g+1)*2^W.length:=by have:(g+1)*1<=(g+1)*2^W.length:=vg _ p1;omega
 let A0:=(kaD n lw).map (agL k n W lw)
 have ag:∀(i f:Nat)(xs:List Nb),(kaD n lw)[i]?=some f->A0[i]?=some xs->La.AgR k n W lw f xs:=fun i f xs h1 h2=>by
  have h2':((kaD n lw).map (agL k n W lw))[i]?=some xs:=h2;rw[wo,h1]at h2';have:agL k n W lw f=xs:=Option.some.inj h2';rw[← this];have:=(Zt n lw f).mp (wk h1);exact zd4 hk h this.1 this.2
 have oA0:La.OkM k n A0:=fun r hr=>by
  obtain⟨f,hf,e⟩:=wm.mp hr;have:=(Zt n lw f).mp hf;rw[← e];exact⟨(zd4 hk h this.1 this.2).len,(zd4 hk h this.1 this.2).ok⟩
 have cA0:La.kak (n *((g+1)*2^W.length)) A0:=fun r hr=>by
  obtain⟨f,hf,e⟩:=wm.mp hr;have hf':=(Zt n lw f).mp hf;have:0 <(kaD n lw).length:=wag hf;rw[← e];exact zgF hk cW oW ll c7 (by omega) hf'.1 (zd4 hk h hf'.1 hf'.2)
 have same:kaz k A A0:=fun F _ φ v=>(e F φ v).trans (La.Xp (h F φ) hk (zdQ n lw) (Zt n lw) (by show _ =((kaD n lw).map (agL k n W lw)).length;rw[we]) ag v).symm
 have red:=zdi hA same;have n7:61<=n *((g+1)*2^W.length):=by have:1 *((g+1)*2^W.length)<=n *((g+1)*2^W.length):=wU _ n1;omega
 have sz:=Jq hk n7 oA0 cA0 red;have lA:=ziP hk oA0 red;have lA0:A0.length =(kaD n lw).length:=by show((kaD n lw).map (agL k n W lw)).length=_;rw[we]
 refine sz.mono ?_;have h1:n *((g+1)*2^W.length)+1<=(n *(g+1)+1)*2^W.length:=by
  have hp:1<=2^W.length:=uP;have:(n *(g+1)+1)*2^W.length=n *((g+1)*2^W.length)+2^W.length:=by
   rw[vZ (n *(g+1)) 1,vT,gP]
  omega
 have h2:2^A.length<=2^(n - W.length):=ve (by decide) (by omega);have h3:(n *((g+1)*2^W.length)+1)*2^A.length<=(n *(g+1)+1)*2^W.length*2^(n - W.length):=vf h1 h2;have h4:(n *(g+1)+1)*2^W.length*2^(n - W.length) =(n *(g+1)+1)*2^n:=by
  rw[gP,← ul];have:=yN hk h;rw[show W.length +(n - W.length)=n by omega]
 omega
theorem zgU{k:Int}{n g:Nat}{A B R:Tb}{ls:List Nat}(hA:Gen k n g A)(hB:Gen k n g B)(red:∀(F:Type) [Lean.Grind.Field F] (φ:La.Kf k F),La.kaq φ n (A++B) R ls):Gen k n g R:=by
 obtain⟨M,oM,cM,eM⟩:=hA;obtain⟨N,oN,cN,eN⟩:=hB;refine⟨M++N,fun r hr=>(wu.mp hr).elim (oM r) (oN r),cM.app cN,fun F _ φ v=>?_⟩;have mono:∀(X Y X' Y':Tb),(∀ u,La.Rm φ X u->La.Rm φ X' u)->(∀ u,La.Rm φ Y u->La.Rm φ Y' u)->∀ u,La.Rm φ (X++Y) u->La.Rm φ (X'++Y') u:=fun X Y X' Y' h1 h2 u hu=>hu.bind fun r ⟨x,hx,e⟩=>by
  rw[e]
  rcases wu.mp hx with q|q
  ·exact(h1 _ (.of ⟨x,q,rfl⟩)).mono fun s ⟨y,hy,ey⟩=>⟨y,wH _ hy,ey⟩
  ·exact(h2 _ (.of ⟨x,q,rfl⟩)).mono fun s ⟨y,hy,ey⟩=>⟨y,wE _ hy,ey⟩
 exact⟨fun h=>mono A B M N (fun u=>(eM F φ u).mp) (fun u=>(eN F φ u).mp) v ((red F φ).fro v h),fun h=>(red F φ).to v (mono M N A B (fun u=>(eM F φ u).mpr) (fun u=>(eN F φ u).mpr) v h)⟩
end L2
namespace L2
open PySem PySem.Spec PyProof.Rows Nm
set_option maxHeartbeats 4000000
def PerpOf(k:Int)(n:Nat)(A W:Tb):Prop:=∀(F:Type) [Lean.Grind.Field F] (φ:La.Kf k F) (v:Nat->F),La.Rm φ A v↔La.perp n (La.Rm φ W) v
def MetOf(k:Int)(M A B:Tb):Prop:=∀(F:Type) [Lean.Grind.Field F] (φ:La.Kf k F) (v:Nat->F),La.Rm φ M v↔La.Rm φ A v/\La.Rm φ B v
def SumOf(k:Int)(J A B:Tb):Prop:=∀(F:Type) [Lean.Grind.Field F] (φ:La.Kf k F) (v:Nat->F),La.Rm φ J v↔∃ a b,La.Rm φ A a/\La.Rm φ B b/\∀ j,v j=a j+b j
def RdR(k:Int)(n:Nat)(W:Tb):Prop:=∃ lw,IsRa k n W lw
theorem zdL{k:Int}(hk:kab k){n:Nat}{W W':Tb}(h:RdR k n W)(h':RdR k n W')(e:∀(F:Type) [Lean.Grind.Field F] (φ:La.Kf k F) (v:Nat->F),La.Rm φ W v↔La.Rm φ W' v):W=W':=by
 obtain⟨l,h⟩:=h;obtain⟨l',h'⟩:=h';exact zap hk h h' e
theorem zdP{k:Int}{n g:Nat}{W:Tb}(oW:La.OkM k n W)(h:La.kak g W):Gen k n g W:=⟨W,oW,h,fun F _ φ v=>Iff.rfl⟩
theorem zkE{k:Int}(hk:kab k){n:Nat}{A B W:Tb}(hW:RdR k n W)(hB:RdR k n B)(e1:PerpOf k n A W)(e2:PerpOf k n B A):B=W:=by
 refine zdL hk hB hW fun F _ φ v=>?_
 obtain⟨lw,hW⟩:=hW;refine(e2 F φ v).trans (Iff.trans ?_ (La.ja (hW F φ) hk v));exact⟨fun⟨z,h⟩=>⟨z,fun u hu=>h u ((e1 F φ u).mpr hu)⟩,fun⟨z,h⟩=>⟨z,fun u hu=>h u ((e1 F φ u).mp hu)⟩⟩
section
variable{k:Int}(hk:kab k){n:Nat}{A B C J J' M M' S X:Tb}
include hk
theorem dims(hA:RdR k n A)(hB:RdR k n B)(hJ:RdR k n J)(hM:RdR k n M)(e:SumOf k J A B)(e':MetOf k M A B):J.length+M.length=A.length+B.length:=by
 obtain⟨F,_,_,⟨φ⟩⟩:=La.ye hk;obtain⟨la,hA⟩:=hA;obtain⟨lb,hB⟩:=hB;obtain⟨lj,hJ⟩:=hJ;obtain⟨lm,hM⟩:=hM;exact La.zcM hk (hA F φ) (hB F φ) (hJ F φ) (hM F φ) (e F φ) (e' F φ)
end
end L2
namespace L2
open PySem PySem.Spec PyProof.Rows Nm
theorem QM{m:Nat}:∀(xs:List Nb),(∀ x∈xs,nsm m x)->∃ D:Nat,D≠0/\D<=2^(xs.length*m)/\∀ r:Rat,Nb.q r∈xs->r.den ∣ D
 | [],_=>⟨1,by decide,by simp,fun r h=>(nomatch h)⟩
 | x::xs,h=>by
  obtain⟨D,d0,dl,dd⟩:=QM xs fun y hy=>h y (wv _ hy)
  have pm:2^((x::xs).length*m)=2^(xs.length*m)*2^m:=by rw[vQ,vZ,vT,ul]
  cases x with
  | z i =>
   refine⟨D,d0,?_,fun r hr=>?_⟩
   ·rw[pm];exact wI dl (uG _ (uD m))
   ·rcases wL.mp hr with e|e
    ·cases e
    ·exact dd r e
  | q s =>
   have hs:s.den<2^m:=by
    have:=(h (.q s) wt).2;unfold Sm at this;omega
   refine⟨D*s.den,waf d0 s.den_nz,?_,fun r hr=>?_⟩
   ·rw[pm];exact vf dl (uh hs)
   ·rcases wL.mp hr with e|e
    ·cases e;exact Nat.dvd_mul_left _ _
    ·exact Gm (dd r e) (waJ _ _)
theorem XF{k:Int}{n m:Nat}{xs:List Nb}(m1:1<=m)(h:ROk k n m xs):La.rowB ((n+1)*m) xs:=by
 obtain⟨D,d0,dl,dd⟩:=QM xs h.sz;rw[h.len]at dl;have pm:2^((n+1)*m)=2^(n*m)*2^m:=by rw[vZ,vT,ul]
 have m2:2<=2^m:=ve (n:=2) (by decide) m1;have p1:0<2^(n*m):=uD _;refine⟨D,d0,?_,fun x hx=>?_⟩
 ·rw[pm]
  calc D<=2^(n*m):=dl
   _<2^(n*m)*2:=by omega
   _<=2^(n*m)*2^m:=vg _ m2
 ·cases x with
  | z i=>trivial
  | q r =>
   obtain⟨c,hc⟩:=dd r hx;have sr:=h.sz _ hx;refine⟨(c:Int)*r.num,?_,?_⟩
   ·have e1:((D:Int):Rat) =((r.den:Int):Rat) *((c:Int):Rat):=by rw[hc,uU,vm]
    have e2:r *((r.den:Int):Rat) =((r.num:Int):Rat):=La.kfRat.rat r rfl;rw[e1,vm,← e2]
    grind
   ·rw[vB];have hn:r.num.natAbs<2^m:=sr.1;have hc':c<=D:=by
     rw[hc];exact Nat.le_mul_of_pos_left _ r.den_pos
    have:((c:Int)).natAbs*r.num.natAbs<=2^(n*m) *(2^m - 1):=vf (by omega) (by omega);have e:2^(n*m) *(2^m - 1)=2^(n*m)*2^m - 2^(n*m):=by rw[wam,gY]
    rw[pm];omega
theorem zbA{k:Int}{r n m:Nat}{M:Tb}(m1:1<=m)(h:TOk k r n m M):La.kak ((n+1)*m) M:=fun x hx=>XF m1 (h.row hx)
theorem Zw{k:Int}{n B:Nat}{M:Tb}(k0:k≠0)(oM:La.OkM k n M)(b1:1<=B):La.kak B M:=fun r hr=>⟨1,by decide,wV (by decide:(1:Nat)<2^1) (ve (by decide) b1),fun x hx=>by
 have:=(oM r hr).2 x hx;cases x with
 | z i=>trivial
 | q s=>exact absurd (show k=0 from this) k0⟩
def Fit(k:Int)(n:Nat):Prop:=1<=n/\(n<=3\/(k≠0/\n<=10))
theorem Fit.n10{k:Int}{n:Nat}(h:Fit k n):n<=10:=by rcases h.2 with h|h <;> omega
theorem qO{k:Int}{A B:Tb}:∀(t:Nat)(r:List Nb),r∈La.kry k A B t->∃ b∈B,∃ i,i<=t/\r=powX k A b i
 | 0,r,hr=>⟨r,hr,0,ww _,rfl⟩
 | t+1,r,hr=>by
  rcases wu.mp hr with h|h
  ·exact⟨r,h,0,vC _,rfl⟩
  ·obtain⟨x,hx,rfl⟩:=wm.mp h;obtain⟨b,hb,i,hi,rfl⟩:=qO t x hx;exact⟨b,hb,i+1,by omega,rfl⟩
theorem szP3:∀ n,n<4->∀ i,i<5->(n+1)*szP n 80 i<=74560:=by decide
theorem zfy{k:Int}(hk:kab k){n b t:Nat}{A B:Tb}(hf:Fit k n)(hA:TOk k n n 80 A)(hB:TOk k b n 80 B)(ht:t<=n+1):La.kak 74560 (La.kry k A B t):=by
 rcases hf.2 with h|h
 ·intro r hr;obtain⟨x,hx,i,hi,rfl⟩:=qO t r hr;exact(XF (wI (by decide) (zjJ (n:=n) (z:=80) (by decide) i)) (zdm hk (by decide) hA (hB.row hx) i)).mono (szP3 n (by omega) i (by omega))
 ·exact Zw h.1 (La.xF hk hA.ok hA.len hB.ok t) (by decide)
def capC(n c:Nat):Nat:=if n<=3 then c else 61
theorem pow2{n m:Nat}(h:n<=m):2^n<=2^m:=ve (by decide) h
theorem cap7{n c:Nat}(h:61<=c):61<=capC n c:=by unfold capC;split <;> omega
theorem cap1{k:Int}{n c:Nat}(hf:Fit k n)(h:(c+1)*8<=60000000):(capC n c+1)*2^n<=60000000:=by
 unfold capC
 split
 ·rename_i h3;exact wI (vg _ (pow2 h3)) h
 ·exact wI (vg _ (pow2 hf.n10)) (by decide)
theorem cap2{k:Int}{n c:Nat}(hf:Fit k n)(h:(3*c+1)*8<=60000000):(n*capC n c+1)*2^n<=60000000:=by
 unfold capC
 split
 ·rename_i h3;have:n*c<=3*c:=wU _ h3;exact wI (vf (show n*c+1<=3*c+1 by omega) (pow2 h3)) h
 ·have:=hf.n10;exact wI (vf (show n*61+1<=611 by omega) (pow2 hf.n10)) (by decide)
theorem xv{k:Int}{n c:Nat}{M:Tb}(hf:Fit k n)(oM:La.OkM k n M)(h:n<=3->La.kak c M):La.kak (capC n c) M:=by
 unfold capC
 split
 ·rename_i h3;exact h h3
 ·rcases hf.2 with h'|h'
  ·omega
  ·exact Zw h'.1 oM (by decide)
theorem pow8{n:Nat}(h:n<=3):2^n<=8:=pow2 h
theorem Jr{k:Int}(hk:kab k){n b t:Nat}{A B R:Tb}(hf:Fit k n)(hA:TOk k n n 80 A)(hB:TOk k b n 80 B)(ht:t<=n+1)(hR:RdR k n R)(e:kaz k R (La.kry k A B t)):TOk k R.length n 596488 R/\La.kak (capC n 596488) R:=by
 obtain⟨ls,iR⟩:=hR;have oR:=(yl hk iR).1;have g:Gen k n 74560 R:=⟨_,La.xF hk hA.ok hA.len hB.ok t,zfy hk hf hA hB ht,e⟩;have rb:La.kak (capC n 596488) R:=xv hf oR fun h=>(Zv hk iR (by decide) g).mono (vg 74561 (pow8 h))
 have cl:capC n 596488<=596488:=by unfold capC;split <;> omega
 exact⟨⟨rfl,oR,YC hk oR (rb.mono cl) (by decide)⟩,rb⟩
theorem ze6{k:Int}(hk:kab k){n:Nat}{A R:Tb}(hf:Fit k n)(hA:TOk k n n 80 A)(hR:TOk k R.length n 596488 R):La.OkM k n (R.map (imgM k A))/\La.kak (capC n 7159072) (R.map (imgM k A)):=by
 have row:∀ x∈R,ROk k n (61+n *(80+596488+1)) (imgM k A x):=fun x hx=>zgl hk (by decide) hA (hR.row hx)
 have ok:La.OkM k n (R.map (imgM k A)):=fun r hr=>by
  obtain⟨x,hx,rfl⟩:=wm.mp hr;exact⟨(row x hx).len,(row x hx).ok⟩
 refine⟨ok,xv hf ok fun h r hr=>?_⟩;obtain⟨x,hx,rfl⟩:=wm.mp hr;refine(XF (by omega) (row x hx)).mono ?_
 rcases (show n=0\/n=1\/n=2\/n=3 by omega)with e|e|e|e <;> subst e <;> decide
theorem Qp{k:Int}{n b:Nat}{B:Tb}(hf:Fit k n)(hB:TOk k b n 80 B):La.kak (capC n 7159072) B:=xv hf hB.ok fun h=>(zbA (by decide) hB).mono (wI (wU _ (show n+1<=4 by omega)) (by decide))
structure kax(k:Int)(n:Nat)(A B R:Tb):Prop where
 rd:RdR k n R
 eq:kaz k R (La.kry k A B n)
structure LrI(k:Int)(n:Nat)(A B R W:Tb)(t:Nat):Prop where
 rR:RdR k n R
 rW:RdR k n W
 eR:kaz k R (La.kry k A B t)
 eW:kaz k W (La.kry k A B (t+1))
 le:t<=R.length
theorem LrI.sub{k:Int}(hk:kab k){n b:Nat}{A B R W:Tb}{t:Nat}(I:LrI k n A B R W t)(hA:TOk k n n 80 A)(hB:TOk k b n 80 B){F:Type}[Lean.Grind.Field F](φ:La.Kf k F):R.length<=W.length/\(W.length<=R.length->∀ v,La.Rm φ W v->La.Rm φ R v):=by
 obtain⟨lr,iR⟩:=I.rR;obtain⟨lw,iW⟩:=I.rW;exact(iR F φ).sub_len (iW F φ) fun v hv=>(I.eW F φ v).mpr (La.qx hk hA.ok hA.len hB.ok t v ((I.eR F φ v).mp hv))
theorem LrI.done{k:Int}(hk:kab k){n b:Nat}{A B R W:Tb}{t:Nat}(I:LrI k n A B R W t)(hA:TOk k n n 80 A)(hB:TOk k b n 80 B)(h:¬ R.length<W.length):kax k n A B R:=by
 refine⟨I.rR,fun F _ φ v=>?_⟩;have s:∀ v,La.Rm φ (La.kry k A B (t+1)) v->La.Rm φ (La.kry k A B t) v:=fun v hv=>(I.eR F φ v).mp ((I.sub hk hA hB φ).2 (by omega) v ((I.eW F φ v).mpr hv))
 exact(I.eR F φ v).trans (La.jg hk hA.ok hA.len hB.ok s (by obtain⟨lr,iR⟩:=I.rR;have:=yN hk iR;have:=I.le;omega) v).symm
theorem LrI.step{k:Int}(hk:kab k){n b:Nat}{A B R W W':Tb}{t:Nat}(I:LrI k n A B R W t)(hA:TOk k n n 80 A)(hB:TOk k b n 80 B)(h:R.length<W.length)(rW':RdR k n W')(e:kaz k W' (B++W.map (imgM k A))):LrI k n A B W W' (t+1):=by
 obtain⟨lw,iW⟩:=I.rW;have lW:=yN hk iW;have oW:=(yl hk iW).1;refine⟨I.rW,rW',I.eW,fun F _ φ v=>(e F φ v).trans (La.zdn hk hA.ok hA.len hB.ok oW (I.eW F φ) v),by have:=I.le;omega⟩
end L2
namespace L2
open PySem PySem.Spec PyProof.Rows Nm
theorem qs{k:Int}{c:Nat}{M:Tb}(oM:La.OkM k c M):kaa M.length (kaa c M)=M:=by
 refine uZ fun i=>?_
 rcases wO i M.length with h|h
 ·rw[xE h,wg h]
  congr 1
  have om:=oM M[i] (wp h);refine uZ fun j=>?_
  rcases wO j c with hj|hj
  ·have hj':j<M[i].length:=by omega
   rw[wo,xE hj,wg hj'];show some ((M.map fun r=>r.getD j (.z 0)).getD i (.z 0))=some _
   congr 1
   rw[wj,wo,wg h];show(M[i].getD j (.z 0))=_;rw[wj,wg hj'];rfl
  ·rw[wK (by rw[we,zj];exact hj),wK (by omega)]
 ·rw[wK (by rw[zj];exact h),wK h]
end L2
namespace L2
open PySem PySem.Spec PyProof.Rows Nm
def szk(k:Int)(m:Nat)(x:Nb):Prop:=k=0->nsm m x
theorem szk.mono{k:Int}{m n:Nat}{x:Nb}(h:szk k m x)(hm:m<=n):szk k n x:=fun k0=>(h k0).mono hm
theorem szk.nsm{k:Int}(hk:kab k){m n:Nat}{x:Nb}(o:x.ok k)(h:szk k m x)(hm:m<=n)(h7:61<=n):nsm n x:=by
 by_cases k0:k=0
 ·exact(h k0).mono hm
 ·exact(Yj hk k0 o).mono h7
theorem zh2{k:Int}{m n:Nat}{x y:Nb}(ox:x.ok k)(oy:y.ok k)(sx:szk k m x)(sy:szk k n y):szk k (m+n+1) (nadd k x y):=fun k0=>by
 rcases ZW ox oy with⟨_,r,s,rfl,rfl⟩|⟨h,_⟩
 ·have hx:=sx k0;have hy:=sy k0;show Sm _ (r+s).num/\Sm _ ((r+s).den:Int);rw[← zgp];obtain⟨h1,h2⟩:=qZ (t:=r.num*s.den+s.num*r.den) (qt r s) ((hx.1.mul hy.2).add ((hy.1.mul hx.2).mono (by omega))) (hx.2.mul hy.2);exact⟨h1,h2.mono (wao _)⟩
 ·exact absurd k0 h
theorem ZF{k:Int}{m n:Nat}{x y:Nb}(ox:x.ok k)(oy:y.ok k)(sx:szk k m x)(sy:szk k n y):szk k (m+n) (nmul k x y):=fun k0=>by
 rcases ZW ox oy with⟨_,r,s,rfl,rfl⟩|⟨h,_⟩
 ·have hx:=sx k0;have hy:=sy k0;show Sm _ (r*s).num/\Sm _ ((r*s).den:Int);rw[← zcJ];exact qZ (qt r s) (hx.1.mul hy.1) (hx.2.mul hy.2)
 ·exact absurd k0 h
section
variable{H H':Hp}{Ms:List (Tb)}{ts:List Addr}{rs:List (List Addr)}
theorem zds{i j:Nat}{ras:List Addr}{a:Addr}(h1:rs[i]?=some ras)(h2:ras[j]?=some a):adr rs i j=some a:=by unfold adr;rw[h1];exact h2
theorem kaj.setRow(G:kaj H H' Ms ts rs){i j:Nat}{M:Tb}{ras:List Addr}{a:Addr}(hM:Ms[i]?=some M)(hr:rs[i]?=some ras)(ha:ras[j]?=some a){us:List V}(hu:H' a=some (.lst us)){xs:List Nb}{vs:List V}(hv:Paired (RN H') xs vs):kaj H (upd H' a (.lst vs)) (Ms.set i (M.set j xs)) ts rs:=by
 have rm:=wk hr;have am:=wk ha;refine⟨yw G.same (G.frr ras rm a am),by rw[vn];exact G.lt,by rw[vn];exact G.lr,fun i' M' t' ras' h1 h2 h3=>?_,G.frt,G.frr,G.nd,G.sep,G.inj⟩;have nt:t'≠a:=fun e=>G.sep t' (wk h2) ras rm (by rw[e];exact am)
 by_cases e:i'=i
 ·subst e;rw[hr]at h3;cases h3;have lM:i'<Ms.length:=(wq.mp hM).1;rw[vo,if_pos rfl,if_pos lM]at h1;cases h1;have T:=G.tabs i' M t' ras hM h2 hr;refine⟨by rw[zN nt];exact T.1,Jt (by rw[vn];exact zk T.2) fun j' x' a' e1 e2=>?_⟩
  by_cases ej:j'=j
  ·subst ej;rw[ha]at e2;cases e2;have lj:j'<M.length:=by rw[zk T.2];exact(wq.mp ha).1
   rw[vo,if_pos rfl,if_pos lj]at e1;cases e1;exact⟨vs,zh,xZ (fun _ _ r=>r.upd hu) hv⟩
  ·rw[vo,if_neg (Ne.symm ej)]at e1;exact(ju T.2 e1 e2).upd (fun z=>ej (by subst z;exact(G.inj _ _ _ _ _ (zds hr e2) (zds hr ha)).2)) hu
 ·rw[vo,if_neg (Ne.symm e)]at h1;refine(G.tabs i' M' t' ras' h1 h2 h3).upd nt (fun hm=>e ?_) hu;obtain⟨j',hj',e2⟩:=wG hm;exact(G.inj _ _ _ _ _ (zds h3 (by rw[wg hj',e2])) (zds hr ha)).1
theorem kaj.setSlot(G:kaj H H' Ms ts rs){i j:Nat}{M:Tb}{ras:List Addr}{t p:Addr}{xs:List Nb}(hM:Ms[i]?=some M)(ht:ts[i]?=some t)(hr:rs[i]?=some ras)(hj:j<ras.length)(hp:kas H' xs p)(fp:H p=none)(np:p∉ts)(nr:∀ ras∈rs,p∉ras) :
  kaj H (upd H' t (.lst ((ras.set j p).map V.ref))) (Ms.set i (M.set j xs)) ts (rs.set i (ras.set j p)):=by
 have tm:=wk ht;have rm:=wk hr;have T0:=G.tabs i M t ras hM ht hr;have li:i<rs.length:=(wq.mp hr).1;have lM:i<Ms.length:=(wq.mp hM).1;have pt:p≠t:=fun e=>np (by rw[e];exact tm)
 have mem':∀ x∈rs.set i (ras.set j p),∀ a∈x,a=p\/∃ y∈rs,a∈y:=fun x hx a ha=>by
  rcases La.ym hx with e|e
  ·subst e
   rcases La.ym ha with e|e
   ·exact .inl e
   ·exact .inr ⟨ras,rm,e⟩
  ·exact .inr ⟨x,e,ha⟩
 have adr':∀ i' j',adr (rs.set i (ras.set j p)) i' j'=if i'=i/\j'=j then some p else adr rs i' j':=fun i' j'=>by
  unfold adr;rw[vo]
  by_cases e:i'=i
  ·subst e;rw[if_pos rfl,if_pos li,hr];show(ras.set j p)[j']?=if i'=i'/\j'=j then some p else ras[j']?
   rw[vo]
   by_cases ej:j'=j
   ·subst ej;rw[if_pos rfl,if_pos hj,if_pos ⟨rfl,rfl⟩]
   ·rw[if_neg (Ne.symm ej),if_neg (fun h=>ej h.2)]
  ·rw[if_neg (Ne.symm e),if_neg (fun h=>e h.1)]
 have notp:∀ i' j' a,adr rs i' j'=some a->a≠p:=fun i' j' a h e=>by
  obtain⟨x,hx,hx'⟩:=QR h;exact nr x (wk hx) (by rw[← e];exact wk hx')
 refine⟨yw G.same (G.frt t tm),by rw[vn];exact G.lt,by rw[vn,vn];exact G.lr,fun i' M' t' ras' h1 h2 h3=>?_,G.frt,fun x hx a ha=>?_,G.nd,fun x hx y hy hm=>?_,fun i1 j1 i2 j2 a h1 h2=>?_⟩
 ·by_cases e:i'=i
  ·subst e;rw[ht]at h2;cases h2;rw[vo,if_pos rfl,if_pos lM]at h1;rw[vo,if_pos rfl,if_pos li]at h3;cases h1;cases h3;refine⟨zh,Jt (by rw[vn,vn];exact zk T0.2) fun j' x' a' e1 e2=>?_⟩
   by_cases ej:j'=j
   ·subst ej;rw[vo,if_pos rfl,if_pos (by rw[zk T0.2];exact hj)]at e1;rw[vo,if_pos rfl,if_pos hj]at e2;cases e1;cases e2;exact hp.upd pt T0.1
   ·rw[vo,if_neg (Ne.symm ej)]at e1 e2;exact(ju T0.2 e1 e2).upd (fun z=>G.sep t tm ras rm (by rw[← z];exact wk e2)) T0.1
  ·rw[vo,if_neg (Ne.symm e)]at h1 h3;have n1:t'≠t:=fun z=>e (by
    subst z;exact(uC (wq.mp h2).1 G.nd).mp (h2.trans ht.symm))
   exact(G.tabs i' M' t' ras' h1 h2 h3).upd n1 (G.sep t tm ras' (wk h3)) T0.1
 ·rcases mem' x hx a ha with e|⟨y,hy,hay⟩
  ·rw[e];exact fp
  ·exact G.frr y hy a hay
 ·rcases mem' y hy x hm with e|⟨z,hz,hxz⟩
  ·exact np (by rw[← e];exact hx)
  ·exact G.sep x hx z hz hxz
 ·rw[adr']at h1 h2
  by_cases c1:i1=i/\j1=j
  ·rw[if_pos c1]at h1;cases h1
   by_cases c2:i2=i/\j2=j
   ·exact⟨c1.1.trans c2.1.symm,c1.2.trans c2.2.symm⟩
   ·rw[if_neg c2]at h2;exact absurd rfl (notp _ _ _ h2)
  ·rw[if_neg c1]at h1
   by_cases c2:i2=i/\j2=j
   ·rw[if_pos c2]at h2;cases h2;exact absurd rfl (notp _ _ _ h1)
   ·rw[if_neg c2]at h2;exact G.inj _ _ _ _ _ h1 h2
end
end L2
namespace L2
open PySem PySem.Spec PyProof.Rows Nm
theorem zgb:∀ {ns:List Int} {its:List Value},Vals (ns.map V.int) its->IntsAre its ns
 | [],_,h=>by cases h;exact .nil
 | n::ns,_,h=>by
  cases h with
  | cons r t =>
   obtain⟨tk,e⟩:=r;subst e;exact .cons n tk (zgb t)
theorem zcF:∀ {ns:List Int} {its:List Value},IntsAre its ns->Vals (ns.map V.int) its
 | _,_,.nil=>.nil
 | _,_,.cons n tk t=>.cons ⟨tk,rfl⟩ (zcF t)
section
variable{X:Cx}{K:PySem.W.Frag}
theorem Xz:kaC X (.builtin "sorted") (fun xs H Q=>∃ p ns,xs=[.ref p]/\SqL X.K H p ((ns:List Int).map V.int)/\ns.length<64/\∀(l:Addr)(ns':List Int),H l=none->ns'.Perm ns->ns'.Pairwise (·<=·)->Q (.ref l) (upd H l (.lst (ns'.map V.int)))):=by
 intro pins s σ H xs us Q I r h;obtain⟨p,ns,rfl,hq,h64,q⟩:=h;obtain⟨u,rfl,rx⟩:=vals1 r;cases rx;obtain⟨its,r',pl,hz⟩:=I.list hq;have hl:=r'.length;rw[we]at hl;refine sorted_ints pl.isList (zgb r') (by omega) fun out ns' a1 a2 a3=>?_
 obtain⟨e,he⟩:=sortedAll_at s.heap its out;have hl':=(zcF a1).length;rw[we]at hl';have hp:=a2.length_eq;rw[we]at hz;refine⟨.ref (s.heap.objs.size+1),_,I.laid (t':=s.toks) (fun _ _=>sortedAll_old) (wao _) (show kaB X.prog X.w _ _ _ (.lst (ns'.map V.int))from⟨by rw[we];omega,out.toList,e,zcF a1,he⟩),rfl,q _ ns' (I.hok.fresh (wao _)) a2 a3⟩
theorem zbX (hK:X.K=K):kaC X (.builtin "sorted") (fun xs H Q=>∃ p ns,xs=[.ref p]/\SqL K H p ((ns:List Int).map V.int)/\ns.length<64/\∀(l:Addr)(ns':List Int),H l=none->ns'.Perm ns->ns'.Pairwise (·<=·)->Q (.ref l) (upd H l (.lst (ns'.map V.int)))):=hK ▸ Xz
theorem zcQ (hK:X.K=K):kaC X (.type "tuple") (fun xs H Q=>∃ p ys,xs=[.ref p]/\((SqL K H p ys/\∀ l,H l=none->Q (.ref l) (upd H l (.tup ys)))\/(SqT K H p ys/\Q (.ref p) H))):=hK ▸ zaC
inductive IntEs:List Expr->List Int->Prop
 | nil:IntEs [] []
 | cons {i:Int} {j:Nat} {pos:Pos} {es:List Expr} {ns:List Int}:IntEs es ns->IntEs (.Constant (.int i) j pos::es) (i::ns)
def tInts(ns:List Int):TA:=fun _ H Q=>Q (ns.map V.int) H
theorem zjl{es:List Expr}(ns:List Int)(h:IntEs es ns):PA X es (tInts ns):=by
 induction h with
 | nil=>exact ze
 | @cons i j pos es ms _ ih=>exact zc (te:=tC (.int i)) (t:=tInts ms) zf ih rfl
end
end L2
namespace L2
open PySem PySem.Spec PyProof.Rows
def K0:PySem.W.Frag:=[]
section
variable{X:Cx}{K:PySem.W.Frag}
theorem SqL.up{H:Hp}{a:Addr}{xs:List V}(h:SqL K0 H a xs):SqL K H a xs:=by
 rcases h with h|⟨o,its,n,hl,_⟩
 ·exact .inl h
 ·cases hl
theorem SqT.up{H:Hp}{a:Addr}{xs:List V}(h:SqT K0 H a xs):SqT K H a xs:=by
 rcases h with h|⟨o,its,n,hl,_⟩
 ·exact .inl h
 ·cases hl
theorem zjI{T:String}{x:V}{H:Hp}(h:tyV K0 T x H):tyV K T x H:=by
 cases x with
 | ref p =>
  rcases h with⟨e,xs,hx⟩|⟨e,o,ho,_⟩|h|h
  ·exact .inl ⟨e,xs,hx.up⟩
  ·cases ho
  ·exact .inr (.inr (.inl h))
  ·exact .inr (.inr (.inr h))
 | _=>exact h
def mo(t:TE):TE:=fun σ H Q=>∃ Q0:VK,t σ H Q0/\∀ x H',Q0 x H'->Q x H'
def moA(t:TA):TA:=fun σ H Q=>∃ Q0:List V->Hp->Prop,t σ H Q0/\∀ x H',Q0 x H'->Q x H'
theorem PE.mo{e:Expr}{t:TE}(h:PE X e t):PE X e (mo t):=fun pins s σ H Q I ⟨Q0,h0,hq⟩ =>
 thn (h pins s σ H Q0 I h0) fun v s1 ⟨x,H1,I1,r,q⟩=>⟨x,H1,I1,r,hq x H1 q⟩
theorem PA.mo{es:List Expr}{t:TA}(h:PA X es t):PA X es (moA t):=fun pos pins s σ H Q I ⟨Q0,h0,hq⟩ =>
 thn (h pos pins s σ H Q0 I h0) fun v s1 ⟨x,H1,I1,r,q⟩=>⟨x,H1,I1,r,hq x H1 q⟩
theorem zw:IxR X (rIxL K0):=fun value slice pins s σ H x y v u Q I rx ry ⟨p,xs,i,w,e1,e2,h,e3,q⟩ hs =>
 zf2 value slice pins s σ H x y v u Q I rx ry ⟨p,xs,i,w,e1,e2,h.up,e3,q⟩ hs
theorem zy:IxR X (rIxT K0):=fun value slice pins s σ H x y v u Q I rx ry ⟨p,xs,i,w,e1,e2,h,e3,q⟩ hs =>
 zib value slice pins s σ H x y v u Q I rx ry ⟨p,xs,i,w,e1,e2,h.up,e3,q⟩ hs
theorem qD:SlR X (rSlL K0):=fun pins s σ H x v vl vu lo hi sl Q I rx hs p1 p2 ⟨a,xs,e,h,q⟩ =>
 zgw pins s σ H x v vl vu lo hi sl Q I rx hs p1 p2 ⟨a,xs,e,h.up,q⟩
inductive ILen(xs:List V)(H:Hp)(Q:VK):Prop where
 | mk (p:Addr) (ys:List V) (e:xs=[.ref p]) (h:SqL K0 H p ys\/SqT K0 H p ys) (q:Q (.int (ys.length:Int)) H):ILen xs H Q
theorem zL:kaC X (.builtin "len") ILen :=
 fun pins s σ H xs us Q I vs ⟨p,ys,e,h,q⟩=>xL (K:=X.K) rfl pins s σ H xs us Q I vs ⟨p,ys,e,h.imp SqL.up SqT.up,q⟩
theorem Zp:kaC X (.type "list") (fun xs H Q=>∃ p ys,xs=[.ref p]/\(SqL K0 H p ys\/SqT K0 H p ys)/\∀ l,H l=none->Q (.ref l) (upd H l (.lst ys))) :=
 fun pins s σ H xs us Q I vs ⟨p,ys,e,h,q⟩=>zep (K:=X.K) rfl pins s σ H xs us Q I vs ⟨p,ys,e,h.imp SqL.up SqT.up,q⟩
theorem zfv (hc:X.calm=true):kaC X (.builtin "sum") (fun xs H Q=>∃ p ns,xs=[.ref p]/\SqL K0 H p (wav V.int ns)/\Q (.int ns.sum) H) :=
 fun pins s σ H xs us Q I vs ⟨p,ys,e,h,q⟩=>zfx (K:=X.K) hc rfl pins s σ H xs us Q I vs ⟨p,ys,e,h.up,q⟩
theorem zbG:kaC X (.builtin "sorted") (fun xs H Q=>∃ p ns,xs=[.ref p]/\SqL K0 H p (wav V.int ns)/\ns.length<64/\∀(l:Addr)(ns':List Int),H l=none->ns'.Perm ns->ns'.Pairwise (·<=·)->Q (.ref l) (upd H l (.lst (ns'.map V.int)))) :=
 fun pins s σ H xs us Q I vs ⟨p,ys,e,h,q⟩=>zbX (K:=X.K) rfl pins s σ H xs us Q I vs ⟨p,ys,e,h.up,q⟩
theorem XZ:kaC X (.type "tuple") (fun xs H Q=>∃ p ys,xs=[.ref p]/\((SqL K0 H p ys/\∀ l,H l=none->Q (.ref l) (upd H l (.tup ys)))\/(SqT K0 H p ys/\Q (.ref p) H))) :=
 fun pins s σ H xs us Q I vs ⟨p,ys,e,h⟩=>zcQ (K:=X.K) rfl pins s σ H xs us Q I vs ⟨p,ys,e,h.imp (fun h=>⟨h.1.up,h.2⟩) (fun h=>⟨h.1.up,h.2⟩)⟩
theorem zba:OpR X (compareOp .NotIn) (rIn K0 true):=fun pins s σ H x y v u Q I rx ry ⟨p,xs,e,h,q⟩ =>
 zf6 (K:=X.K) rfl pins s σ H x y v u Q I rx ry ⟨p,xs,e,h.imp SqL.up SqT.up,q⟩
theorem jZ{pos:Pos}{es:List Expr}{k:Nat}{t:TGs}(n:Nat)(hc:X.calm=true)(hg:PGs X es t)(hn:(assignEach es X.env).length=n:=by rfl)(hs:(assignEach es X.env).findIdx? (fun x=>x.fst)=none:=by rfl):PG X (.Tuple es k pos) (gTup K0 n t) :=
 fun pins s σ H v u Q I r ⟨a,xs,e,h,l,q⟩=>zfF (K:=X.K) n rfl hc hg hn hs pins s σ H v u Q I r ⟨a,xs,e,h.up,l,q⟩
theorem zi4{pos:Pos}{es:List Expr}{k:Nat}{t:TGs}(n:Nat)(hc:X.calm=true)(hg:PGs X es t)(hn:(assignEach es X.env).length=n:=by rfl)(hs:(assignEach es X.env).findIdx? (fun x=>x.fst)=none:=by rfl):PG X (.Tuple es k pos) (gLst K0 n t) :=
 fun pins s σ H v u Q I r ⟨a,xs,e,h,q⟩=>ziT (K:=X.K) n rfl hc hg hn hs pins s σ H v u Q I r ⟨a,xs,e,h.up,q⟩
structure It.le(J0 J:It):Prop where
 go:∀ i H,J0.go i H->J.go i H
 stop:∀ i H,J0.stop i H->J.stop i H
 yld:∀ i H x H',J.yld i H x H'->J0.yld i H x H'
theorem Turn.weaken{P:Program}{w:World}{tg:Expr}{J J0:It}{fp:List Addr}{it:Addr}{tn:Nat->Heap->Prop}(T:Turn P w K tg J fp it tn)(l:It.le J0 J):Turn P w K tg J0 fp it tn where
 mem:=T.mem
 obj:=T.obj
 keep:=T.keep
 self:=T.self
 item:=fun X p1 p2 p3 p4 i pins s σ H E I f t g=>thn (T.item X p1 p2 p3 p4 i pins s σ H E I f t (l.go i H g)) fun r s1 ⟨u,e,hw⟩=>⟨u,e,thn hw fun _ s2 ⟨x,H',a,b,y,c⟩=>⟨x,H',a,b,l.yld _ _ _ _ y,c⟩⟩
 done:=fun X p1 p2 p3 p4 i pins s σ H E I f t g=>T.done X p1 p2 p3 p4 i pins s σ H E I f t (l.stop i H g)
theorem zjV(a:Addr):It.le (Itl K0 a) (Itl K a):=⟨fun i H ⟨xs,x,h,e⟩=>⟨xs,x,h.up,e⟩,fun i H ⟨xs,h,e⟩=>⟨xs,h.up,e⟩,fun i H x H' ⟨e,h⟩=>⟨e,fun xs hx=>h xs hx.up⟩⟩
theorem zjU(a:Addr):It.le (Itt K0 a) (Itt K a):=⟨fun i H ⟨xs,x,h,e⟩=>⟨xs,x,h.up,e⟩,fun i H ⟨xs,h,e⟩=>⟨xs,h.up,e⟩,fun i H x H' ⟨e,h⟩=>⟨e,fun xs hx=>h xs hx.up⟩⟩
theorem zj4(a b:Addr):It.le (Itz K0 a b) (Itz K a b):=⟨fun i H ⟨xs,ys,x,y,h,h2,e⟩=>⟨xs,ys,x,y,h.up,h2.up,e⟩,fun i H ⟨xs,ys,h,h2,e⟩=>⟨xs,ys,h.up,h2.up,e⟩,
 fun i H v H' ⟨T,x,y,e1,e2,e3,h1,h2⟩=>⟨T,x,y,e1,e2,e3,fun xs hx=>h1 xs hx.up,fun ys hy=>h2 ys hy.up⟩⟩
theorem zgu{pins:List (Addr×Obj)}{σ:St}{tg:Expr}{R:It->Hp->Prop}{itv:Value}{s:Shared}(h:PIE X pins σ tg (fun J H=>∃ J0,It.le J0 J/\R J0 H) itv s):PIE X pins σ tg R itv s:=by
 obtain⟨it,fp,tn,J,H',e,I2,T,t0,fo,J0,l,q⟩:=h;exact⟨it,fp,tn,J0,H',e,I2,T.weaken l,t0,fo,q⟩
theorem zH{tg l:Expr}{tl:TE}(hl:PE X l tl):PI X tg l (iList K0 tl):=fun pins s σ H R I h =>
 thn (zge hl.mo pins s σ H (fun J H=>∃ J0,It.le J0 J/\R J0 H) I ⟨_,h,fun x H1 ⟨a,e,⟨xs,hx⟩,q⟩=>⟨a,e,⟨xs,hx.up⟩,_,zjV a,q⟩⟩) fun _ _ hw=>thn hw fun _ _ hp=>zgu hp
theorem zjw{tg l:Expr}{tl:TE}(hl:PE X l tl):PI X tg l (iTup K0 tl):=fun pins s σ H R I h =>
 thn (ziv hl.mo pins s σ H (fun J H=>∃ J0,It.le J0 J/\R J0 H) I ⟨_,h,fun x H1 ⟨a,e,⟨xs,hx⟩,q⟩=>⟨a,e,⟨xs,hx.up⟩,_,zjU a,q⟩⟩) fun _ _ hw=>thn hw fun _ _ hp=>zgu hp
theorem YZ {a b:Expr} {ta:TA} {p pos:Pos} {elts:List Expr} {k1:Nat} {tpos:Pos} (hg:Gl X "zip") (hm:X.mg "zip" = none) (ha:PA X [a,b] ta) (hs:starEach [a,b] X.env=[(false,eval a X.env),(false,eval b X.env)]:=by rfl) (hs2:starEach [b] X.env=[(false,eval b X.env)]:=by rfl) :
  PI X (.Tuple elts k1 tpos) (.Call (.Name "zip" p) [a,b] [] pos) (iZip K0 ta):=fun pins s σ H R I h =>
 thn (zjN hg hm ha.mo hs hs2 pins s σ H (fun J H=>∃ J0,It.le J0 J/\R J0 H) I ⟨_,h,fun x H1 ⟨a,b,xs,ys,e,hx,hy,q⟩=>⟨a,b,xs,ys,e,hx.up,hy.up,_,zj4 a b,q⟩⟩) fun _ _ hw=>thn hw fun _ _ hp=>zgu hp
theorem bm0{o e':Expr}{T:String}{r:V->List V->Hp->VK->Prop}{to:TE}{t:TA}(h:∀ to',PE X o to'->PE X e' (tBM X.K T r to' t))(ho:PE X o to):PE X e' (tBM K0 T r to t):=fun pins s σ H Q I hh =>
 h (mo to) ho.mo pins s σ H Q I ⟨_,hh,fun x H1 ⟨a,b⟩=>⟨zjI a,b⟩⟩
end
end L2
namespace L2
open PySem PySem.Spec PyProof.Rows
section
variable{X:Cx}{scope:Scope}
theorem zp{x:Str}{k j:Nat}{ps:List Str}{sp:Sp}{p pos:Pos}{e:Expr}{es:List Expr}{t:TA}(D:Kn X.prog X.w X.K X.mg X.base x k ps sp)(hr:Room j X.A)(ha:PA X (e::es) t)(hj:k<=j:=by decide)(hg:Gl X x:=by rfl)
  (hdb:(x ==("__debug__" : Str))=false:=by decide) (he:starEach (e::es) X.env =(false,eval e X.env)::starEach es X.env:=by rfl) (hpl:(backTo pos (starEach es X.env)).any (·.1)=false:=by rfl) :
  PE X (.Call (.Name x p) (e::es) [] pos) (tCall sp [] E0 t):=zkP D (hr.mono hj) hg ha hdb he hpl
theorem yR{y:Str}{elt iter:Expr}{ifs:List Expr}{pos posn:Pos}{wi:TI}{tt:TT}{te:TE}(fre:List Str)(idx:List Nat)(hi:PI X (.Name y posn) iter wi)
  (hb:∀(L:Addr)(cells:List (Str×Addr))(s₀:Shared)(H₀:Hp)(ex:List Addr)(pn:List (Addr×Obj)),PTs (blk X [y] fre scope L cells s₀ H₀ ex pn) ifs tt/\PE (blk X [y] fre scope L cells s₀ H₀ ex pn) elt te)
  (B:BlkOk X [y] fre idx scope:=by exact⟨rfl,rfl,rfl,rfl,rfl,rfl,by decide +kernel⟩) (hc:X.calm=true:=by rfl)
  (hg:∀(L:Addr)(cells:List (Str×Addr))(s₀:Shared)(H₀:Hp)(ex:List Addr)(pn:List (Addr×Obj)),PG (blk X [y] fre scope L cells s₀ H₀ ex pn) (.Name y posn) (gName 0):=by exact fun _ _ _ _ _ _=>zI (i:=0) (by dsimp only [blk];decide) rfl (by first|exact Or.inl rfl|exact Or.inr rfl))
  (hs:∀ x,foldedSetIterable iter X.env x=pure x:=by intro _;rfl):PE X (.ListComp elt [⟨.Name y posn,iter,ifs,0⟩] scope pos) (tComp [y].length idx wi (gName 0) tt te) :=
 ZQ [y] fre idx B hc hi (yB (waX)) (fun a b c d e f=>⟨hg a b c d e f,hb a b c d e f⟩) hs
theorem Xn{y:Str}{elt iter:Expr}{ifs:List Expr}{pos pos' spos posn:Pos}{wi:TI}{tt:TT}{te:TE}(i:Nat){x:Str}(hN:X.N.Nodup)(fre:List Str)(idx:List Nat)(hi:PI X (.Name y posn) iter wi)
  (hb:∀(L:Addr)(cells:List (Str×Addr))(s₀:Shared)(H₀:Hp)(ex:List Addr)(pn:List (Addr×Obj)),PTs (blk X [y] fre scope L cells s₀ H₀ ex pn) ifs tt/\PE (blk X [y] fre scope L cells s₀ H₀ ex pn) elt te)
  (hi':X.N[i]?=some x:=by rfl) (hx:X.env.scope.names.lookup x=some .local:=by rfl)
  (B:BlkOk X [y] fre idx scope:=by exact⟨rfl,rfl,rfl,rfl,rfl,rfl,by decide +kernel⟩) (hc:X.calm=true:=by rfl)
  (hg:∀(L:Addr)(cells:List (Str×Addr))(s₀:Shared)(H₀:Hp)(ex:List Addr)(pn:List (Addr×Obj)),PG (blk X [y] fre scope L cells s₀ H₀ ex pn) (.Name y posn) (gName 0):=by exact fun _ _ _ _ _ _=>zI (i:=0) (by dsimp only [blk];decide) rfl (by first|exact Or.inl rfl|exact Or.inr rfl))
  (hsw:swapsWith (.ListComp elt [⟨.Name y posn,iter,ifs,0⟩] scope pos) (some (.Name x pos')) spos.line X.env=pure true:=by rfl)
  (hs:∀ x,foldedSetIterable iter X.env x=pure x:=by intro _;rfl):PS X (.Assign [.Name x pos'] (.ListComp elt [⟨.Name y posn,iter,ifs,0⟩] scope pos) spos) (tAsgC [y].length idx wi (gName 0) tt te i) :=
 ziS hN hi' hx [y] fre idx B hc hi (yB (waX)) (fun a b c d e f=>⟨hg a b c d e f,hb a b c d e f⟩) hsw hs
theorem zE{a b:Expr}{pos:Pos}{ta tb:TE}{r:R2}(hr:IxR X r)(ha:PE X a ta)(hb:PE X b tb)(hs:PlainIx b:=by exact fun _ _=>rfl):PE X (.Subscript a b pos) (tOp r ta tb):=zkM hr ha hb hs
end
end L2
namespace L2
open PySem PySem.Spec PyProof.Rows
def RemS(l:Addr)(items:Array Value)(n:Nat)(x:Value)(j i:Nat):PySem.Spec:=fun A R s =>
 s.heap.get? l=some { cls:=Value.type "list",data:=Data.seq items n }/\j<items.size/\items.size<=sizeLine/\A.units+63<cLine /\
 (∃ dx bs,Reads s.heap x dx bs/\dx.canLay0=true/\dx.depth<=60/\∀ m v,i<=m->m<=j->items[m]?=some v->∃ d as,Reads s.heap v d as/\d.canLay0=true/\PyData.eqv d dx=decide (m=j)) /\
 R (Except.ok (Flow.ret Value.none)) { s with heap:=s.heap.update l (Obj.mapSeq fun xs=>xs.eraseIdxIfInBounds j) }
theorem zbg(l:Addr)(items:Array Value)(n:Nat)(x:Value)(j:Nat):∀ k i:Nat,i+k=j->Meets (Builtin.«list.remove.loop» { pos:=[Value.ref l,x,rawInt (i:Int)] }) (RemS l items n x j i):=by
 intro k
 induction k with
 | zero =>
  intro i e prog w A R s ⟨hg,hj,hz,hu,⟨dx,bs,rx,cx,px,hm⟩,hR⟩;obtain rfl:i=j:=by omega
  have hi:items[i]?=some items[i]:=Array.getElem?_eq_getElem hj;obtain⟨d,as,r,c,ev⟩:=hm i _ (ww _) (ww _) hi;unfold Builtin.«list.remove.loop» rawInt;refine wpAny_bind (listItems_at hg rfl ?_);simp only[wW,hi];refine wpAny_bind (SeqAt.eqBoolOverData prog w A.in1 _ s _ _ d dx as bs _ r rx c cx (by show A.units+1+_<_;omega) ?_);rw[ev,decide_eq_true rfl,if_pos rfl];refine wpAny_bind (listUpdate_at hg rfl ?_ hz ?_)
  ·exact wpAny_pure hR
  ·show(items.eraseIdxIfInBounds i).size<=_;have:(items.eraseIdxIfInBounds i).size<=items.size:=by
    unfold Array.eraseIdxIfInBounds
    split
    all_goals (rw[Array.size_eraseIdx];omega)
   omega
 | succ k ih =>
  intro i e prog w A R s ⟨hg,hj,hz,hu,⟨dx,bs,rx,cx,px,hm⟩,hR⟩;have hlt:i<items.size:=by omega
  have hi:items[i]?=some items[i]:=Array.getElem?_eq_getElem hlt;obtain⟨d,as,r,c,ev⟩:=hm i _ (ww _) (by omega) hi;unfold Builtin.«list.remove.loop» rawInt;refine wpAny_bind (listItems_at hg rfl ?_);simp only[wW,hi];refine wpAny_bind (SeqAt.eqBoolOverData prog w A.in1 _ s _ _ d dx as bs _ r rx c cx (by show A.units+1+_<_;omega) ?_);rw[ev,decide_eq_false (by omega),if_neg (by decide)];exact MeetsSeq.meets_again rfl MeetsSeq.plain_remove_loop MeetsSeq.entry_remove_loop (ih (i+1) (by omega)) prog w A R s ⟨hg,hj,hz,hu,⟨dx,bs,rx,cx,px,fun m v h1 h2 h3=>hm m v (by omega) h2 h3⟩,hR⟩
theorem removeD(l:Addr)(items:Array Value)(n:Nat)(x:Value)(j:Nat):Meets (Builtin.«list.remove» { pos:=[Value.ref l,x] }) (RemS l items n x j 0) :=
 MeetsSeq.meets_again rfl MeetsSeq.plain_remove_loop MeetsSeq.entry_remove_loop (zbg l items n x j j 0 (by omega))
theorem zdo{α β:Type}{R:α->β->Prop}{xs:List α}{ys:List β}(h:Paired R xs ys):∀ j,Paired R (xs.eraseIdx j) (ys.eraseIdx j):=by
 induction h with
 | nil=>intro j;exact .nil
 | cons r _ ih=>intro j;cases j with
  | zero=>assumption
  | succ j=>exact .cons r (ih j)
section
variable{X:Cx}
inductive IRem(x:V)(vs:List V)(H:Hp)(Q:VK):Prop where
 | mk (l:Addr) (xs:List V) (y:V) (j:Nat) (dy:PyData) (h0_:x=.ref l) (h1_:vs=[y]) (h2_:H l=some (.lst xs)) (h3_:j<xs.length) (h4_:Rp H dy y) (h5_:dy.canLay0=true) (h6_:dy.depth<=60)
   (h7_:∀ m z,m<=j->xs[m]?=some z->∃ d,Rp H d z/\d.canLay0=true/\PyData.eqv d dy=decide (m=j)) (h8_:Q .non (upd H l (.lst (xs.eraseIdx j)))):IRem x vs H Q
theorem zgi {k:Nat} (hr:Room k X.A):MtM X "list.remove" IRem:=by
 intro pins s σ H x vs v us Q I rx rv h;obtain⟨l,xs,y,j,dy,rfl,rfl,hH,hj,hy,cy,py,hm,q⟩:=h;cases rx;obtain⟨u,rfl,ru⟩:=rv.one;obtain⟨z,its,n,r,hl,e⟩:=I.lstM hH;obtain⟨bs,ry⟩:=Rp.reads I dy y u hy ru;refine call_meets F.slot_list_remove ⟨_,e,rfl⟩ F.entry_list_remove (F.args_list_remove_2 _ _) (removeD l its.toArray n u j) ⟨e,by rw[wQ];omega,by rw[wQ];omega,by have:=hr.units;omega,⟨dy,bs,ry,cy,py,fun m v _ hmj hv=>?_⟩,?_⟩
 ·rw[List.getElem?_toArray]at hv;obtain⟨zz,hzz,rz⟩:=yh r hv;obtain⟨d,hd,cd,ed⟩:=hm m zz hmj hzz;obtain⟨as,ra⟩:=Rp.reads I d zz v hd rz;exact⟨d,as,ra,cd,ed⟩
 ·refine⟨.non,_,I.lset (its':=its.eraseIdx j) (ys:=xs.eraseIdx j) hH e ?_ ?_ ?_,rfl,q⟩
  ·show its.toArray.eraseIdxIfInBounds j=_;rw[Array.eraseIdxIfInBounds];rw[dif_pos (by rw[wQ];omega)];simp
  ·exact zdo r j
  ·rw[List.length_eraseIdx];split <;> omega
inductive IAll(xs:List V)(H:Hp)(Q:VK):Prop where
 | mk (p:Addr) (bs:List Bool) (e:xs=[.ref p]) (h:H p=some (.lst (bs.map V.bl))) (q:Q (.bl (bs.all id)) H):IAll xs H Q
theorem zgN(bs:List Bool):∀ n,n=bs.length->(vd n).all (fun i=>bs.getD i true)=bs.all id:=by
 intro n e;subst e;rw[gj,uL,uL];refine⟨fun h x hx=>?_,fun h i hi=>?_⟩
 ·obtain⟨i,hi,rfl⟩:=wG hx;have:=h i (vp.mpr hi)
  simpa [waj,hi] using this
 ·have hi':=vp.mp hi;have:=h bs[i] (wp hi')
  simpa [waj,hi'] using this
theorem zgx (hc:X.calm=true):kaC X (.builtin "all") IAll:=by
 intro pins s σ H xs us Q I r h;obtain⟨p,bs,rfl,hq,q⟩:=h;obtain⟨u,rfl,ru⟩:=Vals.one r;cases ru;obtain⟨its,rv,pl,_⟩:=I.list (SqL.of (K:=X.K) hq);have hh:X.A.in1.handled=none:=I.ok.hd hc;have lt:p<s.heap.objs.size:=let ⟨_,e,_⟩:=pl.isList;Heap.lt_size e
 have hl:its.length=bs.length:=by rw[← rv.length,we]
 refine call_all_walk (wpAny_pyIter_list pl.isList ?_);refine⟨s.heap.objs.size,_,_,_,_,_,fun i=>bs.getD i true,rfl,Walks.list hh s.heap.objs.size p (wY lt) its.toArray,⟨⟨_,Heap.get?_push_size _ rfl,rfl,rfl⟩,pl.isList.at fun o e=>Heap.get?_push_of_some _ e⟩,fun i v s' Q' E' hv hQ=>?_,fun h' tk keep=>?_⟩
 ·have hv':its[i]?=some v:=by simpa using hv
  have hi:i<bs.length:=by rw[← hl];exact(wq.mp hv').1
  obtain⟨u,hu,ru⟩:=rv.get (i:=i) (x:=.bl bs[i]) (by rw[wo,wg hi];rfl);rw[hu]at hv';cases hv';cases ru;refine wpAny_truthy_bool ?_
  simpa [waj,hi] using hQ
 ·rw[zgN bs _ (by rw[wQ];exact hl)];refine⟨.bl (bs.all id),H,?_,rfl,q⟩;exact I.kept (h':=h') (t':=tk) fun b o eb=>keep b o (by simp only[wL,vD,or_false];exact wY (Heap.lt_size eb)) (Heap.get?_push_of_some _ eb)
end
end L2
namespace La
open Lean.Grind Nm
section
variable{k:Int}{F:Type}[Field F]{φ:Kf k F}{n:Nat}
theorem Rr.snoc{P:List (Pv F)}(R:Rr n P){c:Nat}(lt:∀ q∈P,q.1<c)(hc:c<n){f:Nat->F}(f0:∀ j,j<c->f j=0)(f1:f c=1)(fo:∀ j,n<=j->f j=0) :
  Rr n (P.map (fun q=>(q.1,fun j=>q.2 j - q.2 c*f j))++[(c,f)]):=by
 have cases:∀ q∈P.map (fun q=>(q.1,fun j=>q.2 j - q.2 c*f j))++[(c,f)],(∃ p∈P,q =(p.1,fun j=>p.2 j - p.2 c*f j))\/q =(c,f):=fun q hq=>by
  rcases wu.mp hq with h|h
  ·obtain⟨p,hp,e⟩:=wm.mp h;exact .inl ⟨p,hp,e.symm⟩
  ·exact .inr (wD.mp h)
 refine⟨?_,fun q hq=>?_,fun q hq j hj=>?_,fun q hq j hj=>?_,fun q hq=>?_,fun q hq r hr ne=>?_⟩
 ·rw[waq];refine⟨?_,GY _ _,fun a ha b hb=>?_⟩
  ·rw[uB];exact R.inc
  ·obtain⟨p,hp,rfl⟩:=wm.mp ha;rw[wD.mp hb];exact lt p hp
 ·rcases cases q hq with⟨p,hp,rfl⟩|rfl
  ·exact R.lt p hp
  ·exact hc
 ·rcases cases q hq with⟨p,hp,rfl⟩|rfl
  ·show p.2 j - p.2 c*f j=0;rw[R.out p hp j hj,fo j hj];grind
  ·exact fo j hj
 ·rcases cases q hq with⟨p,hp,rfl⟩|rfl
  ·show p.2 j - p.2 c*f j=0;have hj':j<p.1:=hj;rw[R.bef p hp j hj',f0 j (wbb hj' (lt p hp))];grind
  ·exact f0 j hj
 ·rcases cases q hq with⟨p,hp,rfl⟩|rfl
  ·show p.2 p.1 - p.2 c*f p.1=1;rw[R.one p hp,f0 _ (lt p hp)];grind
  ·exact f1
 ·rcases cases q hq with⟨p,hp,rfl⟩|rfl
  ·rcases cases r hr with⟨p',hp',rfl⟩|rfl
   ·show p.2 p'.1 - p.2 c*f p'.1=0;rw[R.oth p hp p' hp' ne,f0 _ (lt p' hp')];grind
   ·show p.2 c - p.2 c*f c=0;rw[f1];grind
  ·rcases cases r hr with⟨p',hp',rfl⟩|rfl
   ·exact f0 _ (lt p' hp')
   ·exact absurd rfl ne
def gjR(k:Int)(c:Nat)(f r:List Nb):List Nb:=vE (fun x y=>nsub k x (nmul k (r.getD c (nnum k 0)) y)) r f
theorem ziq(hk:kab k){c:Nat}{f r:List Nb}(of:OkR k f)(or:OkR k r)(hl:r.length=f.length):(gjR k c f r).length=r.length/\OkR k (gjR k c f r):=by
 have rc:(r.getD c (nnum k 0)).ok k:=by
  rcases wO c r.length with h|h
  ·rw[wj,wg h];exact or _ (wp h)
  ·rw[wj,wK h];exact ya hk 0
 refine⟨by unfold gjR;rw[wZ,hl,GZ],fun x hx=>?_⟩;unfold gjR at hx;obtain⟨i,hi,e⟩:=wG hx;rw[uz]at e;rw[← e];exact L2.JF hk.lt.1 (or _ (wp _)) (L2.zcp hk.lt.1 rc (of _ (wp _)))
theorem zie(hk:kab k){c:Nat}{f r:List Nb}(of:OkR k f)(or:OkR k r)(hl:r.length=f.length)(j:Nat):nv φ (gjR k c f r) j=nv φ r j - nv φ r c*nv φ f j:=by
 have rc:(r.getD c (nnum k 0)).ok k:=by
  rcases wO c r.length with h|h
  ·rw[wj,wg h];exact or _ (wp h)
  ·rw[wj,wK h];exact ya hk 0
 exact zj8 hl (fun x y=>x - nv φ r c*y) (by grind) (fun x hx y hy=>by
  rw[φ.sub (or x hx) (L2.zcp hk.lt.1 rc (of y hy)),φ.mul rc (of y hy)];rfl) j
structure Gj(φ:Kf k F)(n c:Nat)(M told left:Tb)(ls:List Nat):Prop where
 okt:OkM k n told
 okl:OkM k n left
 len:ls.length=told.length
 rr:Rr n (ls.zip (told.map (nv φ)))
 lt:∀ l∈ls,l<c
 zl:∀ r∈left,∀ j,j<c->nv φ r j=0
 sp:∀ v,Rm φ (told++left) v↔Rm φ M v
theorem Gj.start{M:Tb}(oM:OkM k n M):Gj φ n 0 M [] M [] where
 okt:=fun _ h=>(nomatch h)
 okl:=oM
 len:=rfl
 rr:=by
  show Rr n [];exact⟨.nil,(fun _ h=>nomatch h),(fun _ h=>nomatch h),(fun _ h=>nomatch h),(fun _ h=>nomatch h),(fun _ h=>nomatch h)⟩
 lt:=fun _ h=>(nomatch h)
 zl:=fun _ _ _ h=>absurd h (vI _)
 sp:=fun _=>Iff.rfl
theorem Gj.skip{c:Nat}{M told left:Tb}{ls:List Nat}(G:Gj φ n c M told left ls)(z:∀ r∈left,nv φ r c=0):Gj φ n (c+1) M told left ls :=
 ⟨G.okt,G.okl,G.len,G.rr,fun l hl=>uY (G.lt l hl),fun r hr j hj=>(by
  rcases vU (ug hj)with h|h
  ·exact G.zl r hr j h
  ·rw[h];exact z r hr),G.sp⟩
theorem zbT{α:Type}{l:List α}{j:Nat}{p r:α}(hp:l[j]?=some p)(hr:r∈l):r=p\/r∈l.eraseIdx j:=by
 obtain⟨hj,e⟩:=wq.mp hp;obtain⟨i,hi,ei⟩:=wG hr
 by_cases h:i=j
 ·subst h;rw[e]at ei;exact .inl ei.symm
 ·right
  rw[List.eraseIdx_eq_take_drop_succ]
  rcases Nat.lt_or_gt_of_ne h with g|g
  ·exact wH _ (by rw[List.mem_take_iff_getElem];exact⟨i,by omega,ei⟩)
  ·exact wE _ (by rw[List.mem_drop_iff_getElem];exact⟨i - (j+1),by omega,by rw[← ei];congr 1;omega⟩)
theorem Gj.turn(hk:kab k){c j:Nat}{M told left:Tb}{ls:List Nat}{p:List Nb}{b:Nb}(G:Gj φ n c M told left ls)(hc:c<n)(hp:left[j]?=some p)(ob:b.ok k)(eb:φ.to b*nv φ p c=1) :
  Gj φ n (c+1) M (told.map (gjR k c (p.map (nmul k b)))++[p.map (nmul k b)]) ((left.eraseIdx j).map (gjR k c (p.map (nmul k b)))) (ls++[c]):=by
 have pm:=wk hp;have op:=G.okl p pm;have ef:∀ i,nv φ (p.map (nmul k b)) i=φ.to b*nv φ p i:=fun i=>zj6 (fun x=>φ.to b*x) (by grind) (fun x hx=>φ.mul ob (op.2 x hx)) i
 have lf:(p.map (nmul k b)).length=n:=by rw[we];exact op.1
 have of:OkR k (p.map (nmul k b)):=fun x hx=>by
  obtain⟨y,hy,rfl⟩:=wm.mp hx;exact L2.zcp hk.lt.1 ob (op.2 y hy)
 have f0:∀ i,i<c->nv φ (p.map (nmul k b)) i=0:=fun i hi=>by rw[ef,G.zl p pm i hi];grind
 have f1:nv φ (p.map (nmul k b)) c=1:=by rw[ef];exact eb
 have e2:∀ i,nv φ p i=nv φ p c*nv φ (p.map (nmul k b)) i:=fun i=>by rw[ef];grind
 have se:=Gp (l:=left) j;generalize p.map (nmul k b)=f at *;have oe:∀ r∈left.eraseIdx j,r∈left:=fun r hr=>se.subset hr
 have gt:∀ r∈told,nv φ (gjR k c f r)=fun i=>nv φ r i - nv φ r c*nv φ f i:=fun r hr=>funext fun i=>zie hk of (G.okt r hr).2 (by rw[(G.okt r hr).1,lf]) i
 have gl:∀ r∈left,nv φ (gjR k c f r)=fun i=>nv φ r i - nv φ r c*nv φ f i:=fun r hr=>funext fun i=>zie hk of (G.okl r hr).2 (by rw[(G.okl r hr).1,lf]) i
 have fin:Rm φ (told++left) (nv φ f):=by
  have h:Rm φ (told++left) (nv φ p):=.of ⟨p,wE _ pm,rfl⟩;exact(h.smul (φ.to b)).cast fun i=>(ef i).symm
 refine⟨fun r hr=>?_,fun r hr=>?_,?_,?_,fun l hl=>?_,fun r hr i hi=>?_,fun v=>?_⟩
 ·rcases wu.mp hr with h|h
  ·obtain⟨t,ht,rfl⟩:=wm.mp h;have ot:=G.okt t ht;have:=ziq hk (c:=c) of ot.2 (by rw[ot.1,lf]);exact⟨by rw[this.1];exact ot.1,this.2⟩
  ·rw[wD.mp h];exact⟨lf,of⟩
 ·obtain⟨t,ht,rfl⟩:=wm.mp hr;have ot:=G.okl t (oe t ht);have:=ziq hk (c:=c) of ot.2 (by rw[ot.1,lf]);exact⟨by rw[this.1];exact ot.1,this.2⟩
 ·rw[wy,wy,we,G.len];rfl
 ·have em:(told.map (gjR k c f)++[f]).map (nv φ) =(told.map (nv φ)).map (fun u=>fun i=>u i - u c*nv φ f i)++[nv φ f]:=by
   rw[wF,vF,vF];refine congrArg (·++_) (vV fun r hr=>?_);exact gt r hr
  rw[em,List.zip_append (by rw[we,we];exact G.len),List.zip_map_right];exact G.rr.snoc (fun q hq=>G.lt _ (vw hq).1) hc f0 f1 fun i hi=>yL φ (by rw[lf];exact hi)
 ·rcases wu.mp hl with h|h
  ·exact uY (G.lt l h)
  ·rw[wD.mp h];exact uy c
 ·obtain⟨t,ht,rfl⟩:=wm.mp hr;rw[gl t (oe t ht)];show nv φ t i - nv φ t c*nv φ f i=0
  rcases vU (ug hi)with h|h
  ·rw[G.zl t (oe t ht) i h,f0 i h];grind
  ·rw[h,f1];grind
 ·rw[← G.sp v];have sub:∀(u w:Nat->F)(a:F)(N:Tb),Rm φ N u->Rm φ N w->Rm φ N (fun i=>u i - a*w i):=fun u w a N hu hw=>(hu.add (hw.smul (-a))).cast fun i=>by grind
  constructor
  ·refine fun h=>h.bind fun u ⟨r,hr,e⟩=>?_
   subst e
   rcases wu.mp hr with h|h
   ·rcases wu.mp h with h|h
    ·obtain⟨t,ht,rfl⟩:=wm.mp h;rw[gt t ht];exact sub _ _ _ _ (.of ⟨t,wH _ ht,rfl⟩) fin
    ·rw[wD.mp h];exact fin
   ·obtain⟨t,ht,rfl⟩:=wm.mp h;rw[gl t (oe t ht)];exact sub _ _ _ _ (.of ⟨t,wE _ (oe t ht),rfl⟩) fin
  ·have fin':Rm φ (told.map (gjR k c f)++[f] ++(left.eraseIdx j).map (gjR k c f)) (nv φ f):=.of ⟨f,wH _ (wE _ (wD.mpr rfl)),rfl⟩;refine fun h=>h.bind fun u ⟨r,hr,e⟩=>?_
   subst e;have back:∀ r,nv φ (gjR k c f r) =(fun i=>nv φ r i - nv φ r c*nv φ f i)->gjR k c f r∈told.map (gjR k c f)++[f] ++(left.eraseIdx j).map (gjR k c f)->Rm φ (told.map (gjR k c f)++[f] ++(left.eraseIdx j).map (gjR k c f)) (nv φ r):=fun r e hm=>by
    have h1:Rm φ (told.map (gjR k c f)++[f] ++(left.eraseIdx j).map (gjR k c f)) (nv φ (gjR k c f r)):=.of ⟨_,hm,rfl⟩;rw[e]at h1;exact(h1.add (fin'.smul (nv φ r c))).cast fun i=>by grind
   rcases wu.mp hr with h|h
   ·exact back r (gt r h) (wH _ (wH _ (wm.mpr ⟨r,h,rfl⟩)))
   ·rcases zbT hp h with e|e
    ·rw[e];exact(fin'.smul (nv φ p c)).cast fun i=>(e2 i).symm
    ·exact back r (gl r h) (wE _ (wm.mpr ⟨r,e,rfl⟩))
theorem Gj.done{c:Nat}{M told left:Tb}{ls:List Nat}(G:Gj φ n c M told left ls)(h:left=[]\/n<=c):IsR φ n told ls/\∀ v,Rm φ told v↔Rm φ M v:=by
 refine⟨⟨G.okt,G.len,G.rr⟩,fun v=>?_⟩;rw[← G.sp v];have z:∀ r∈left,∀ i,nv φ r i=0:=fun r hr i=>by
  rcases h with h|h
  ·rw[h]at hr;exact nomatch hr
  ·rcases wO i c with g|g
   ·exact G.zl r hr i g
   ·exact yL φ (by rw[(G.okl r hr).1];omega)
 constructor
 ·exact fun q=>q.mono fun r ⟨x,hx,e⟩=>⟨x,wH _ hx,e⟩
 ·intro q;obtain⟨a,b,ha,hb,ev⟩:=Rm.app.mp q;have zb:∀ i,b i=0:=fun i=>hb.zero_at fun r ⟨x,hx,e⟩=>by rw[e];exact z x hx i
  exact ha.cast fun i=>by rw[ev i,zb i];grind
theorem qH(hk:kab k){A B:Tb}(oA:OkM k n A)(lA:A.length=n)(oB:OkM k n B)(n1:1<=n)(v:Nat->F):Rm φ (kry k A B n) v->Rm φ (kry k A B (n - 1)) v:=by
 by_cases h:∃ s,s<n/\∀ v,Rm φ (kry k A B (s+1)) v->Rm φ (kry k A B s) v
 ·obtain⟨s,hs,st⟩:=h;intro hv;have h1:=zaL hk oA lA oB st (n - s) v (by rw[show s +(n - s)=n by omega];exact hv);have h2:=QI hk oA lA oB s (n - 1 - s) v h1;rw[show s +(n - 1 - s)=n - 1 by omega]at h2;exact h2
 ·exfalso
  have key:∀ t,t<=n->∀ R ls,kaq φ n (kry k A B t) R ls->t+1<=R.length:=by
   intro t
   induction t with
   | zero =>
    intro _ R ls hR;refine Nat.succ_le_of_lt (Nat.pos_of_ne_zero fun e=>h ⟨0,by omega,fun v hv=>?_⟩);have eR:R=[]:=vx e;subst eR;have zB:∀ u,Rm φ B u->∀ i,u i=0:=fun u hu i=>(hR.to u hu).zero_at fun r ⟨x,hx,_⟩=>nomatch hx
    have hv':Rm φ (B++B.map (imgR k A)) v:=hv;obtain⟨a,b,ha,hb,ev⟩:=Rm.app.mp hv';obtain⟨u,hu,eu⟩:=(Rm.img hk oA oB).mp hb;have:∀ i,b i=0:=fun i=>by
     rw[eu i,show u =(fun _=>0)from funext (zB u hu)];exact JD A i
    exact Span.cast ha fun i=>by rw[ev i,this i];grind
   | succ t ih =>
    intro ht R ls hR;obtain⟨R',ls',hR'⟩:=xD φ hk (xF hk oA lA oB t);have h1:=ih (by omega) R' ls' hR';have sub:=hR'.toIsR.sub_len hR.toIsR fun v hv=>hR.to v (qx hk oA lA oB t v (hR'.fro v hv))
    rcases wO R'.length R.length with g|g
    ·omega
    ·exact absurd ⟨t,by omega,fun v hv=>hR'.fro v (sub.2 g v (hR.to v hv))⟩ h
  obtain⟨R,ls,hR⟩:=xD φ hk (xF hk oA lA oB n);have h1:=key n (ww _) R ls hR;have h2:ls.length<=n:=by
   have:=L2.Xj (m:=0) hR.toIsR.inc (fun x hx=>⟨vC _,(by
    obtain⟨i,r,e1,e2⟩:=hR.toIsR.lead_of hx;exact hR.rr.lt _ (hR.toIsR.get e1 e2):x<n)⟩) (vC _)
   omega
  have:=hR.len;omega
end
end La
namespace L2
open PySem PySem.Spec PyProof.Rows Nm
theorem zhz{k:Int}(hk:kab k)(n:Nat):TOk k n n 61 (La.kan k n):=by
 refine⟨(La.yD hk n).2,(La.yD hk n).1,fun q hq x hx=>?_⟩;unfold La.kan at hq;obtain⟨i,_,rfl⟩:=wm.mp hq;unfold La.kal at hx;obtain⟨j,_,rfl⟩:=wm.mp hx
 split
 ·exact ZV hk (sm_one.mono (by decide)) (by decide)
 ·exact ZV hk (ZZ 61) (by decide)
section
variable{k:Int}(hk:kab k)
theorem TOk.get{r c m:Nat}{M:Tb}(h:TOk k r c m M){i:Nat}(hi:i<r):∃ a,M[i]?=some a/\ROk k c m a:=by
 have hl:i<M.length:=by rw[h.len];exact hi
 exact⟨M[i],wg hl,h.row (wp hl)⟩
end
end L2
open PySem PySem.Spec PyProof.Rows
namespace L2
section
variable{X:Cx}{K:PySem.W.Frag}{e:Expr}{t:TA}{p p2 pos pos2:Pos}
end
end L2
namespace L2
open PySem PySem.Spec PyProof.Rows Nm
theorem zkq(xs:List V)(i j:Nat):cutV xs (some (i:Int)) (some (j:Int)) =(xs.drop i).take (j - i):=by
 unfold cutV;rw[HT.Zf,HT.Zf]
 rcases wO i xs.length with h|h
 ·rw[uV (a:=i) (uh h)]
  rcases wbe j xs.length with h2|h2
  ·rw[uV h2]
  ·rw[gM h2,wr (by rw[ur];omega),wr (by rw[ur];omega)]
 ·rw[gM h,uN (ww _),uN h];simp
def ITab(H:Hp)(W:List (List Int))(t:Addr)(ls:List Addr):Prop:=H t=some (.lst (ls.map V.ref))/\Paired (IRow H) W ls
theorem ITab.mono{H H':Hp}{W:List (List Int)}{t:Addr}{ls:List Addr}(h:ITab H W t ls)(g:Same H H'):ITab H' W t ls:=⟨g _ _ h.1,xZ (fun _ _ r=>r.mono g) h.2⟩
theorem ITab.row{H:Hp}{W:List (List Int)}{t:Addr}{ls:List Addr}(h:ITab H W t ls){i:Nat}{v:V}(e:(ls.map V.ref)[i]?=some v):∃ ws a,W[i]?=some ws/\ls[i]?=some a/\v=.ref a/\IRow H ws a:=by
 rw[wo]at e;obtain⟨a,ha,rfl⟩:=wR.mp e;obtain⟨ws,hw,r⟩:=yh h.2 ha;exact⟨ws,a,hw,ha,rfl,r⟩
theorem ITab.snoc{H H':Hp}{W:List (List Int)}{ls:List Addr}(h:Paired (IRow H) W ls)(g:Same H H'){ws:List Int}{a:Addr}(r:IRow H' ws a):Paired (IRow H') (W++[ws]) (ls++[a]):=yj (xZ (fun _ _ r=>r.mono g) h) r
end L2
namespace L2
open PySem PySem.Spec PyProof.Rows Nm
section
variable{k:Int}(hk:kab k){n:Nat}{x y:List Nb}
include hk
section
variable{F:Type}[Lean.Grind.Field F](φ:La.Kf k F)
end
section
variable{A C:Tb}(oA:La.OkM k n A)(lA:A.length=n)
include oA lA
theorem yQ(ox:La.OkR k x)(lx:x.length=n):∀ i,La.OkR k (powX k A x i)/\(powX k A x i).length=n
 | 0=>⟨ox,lx⟩
 | i+1=>by
  obtain⟨o,l⟩:=yQ ox lx i;obtain⟨a,b⟩:=La.XW hk oA o;exact⟨b,a.trans lA⟩
end
end
section
variable{k:Int}(hk:kab k){n:Nat}
include hk
end
end L2
namespace L2
open PySem PySem.Spec PyProof.Rows Nm
theorem zdb{k:Int}(hk:kab k){D D' B B':Nat}:∀(l:List (Nb×Nb))(s:Nb)(c:Nat),(∀ p∈l,La.dB D B p.1/\La.dB D' B' p.2/\p.1.ok k/\p.2.ok k)->s.ok k->La.dB (D*D') c s->La.dB (D*D') (c+l.length *(B*B')) (l.foldl (fun s p=>nadd k s (nmul k p.1 p.2)) s)
 | [],s,c,_,_,h=>by rw[Gw,Gg];exact h
 | p::l,s,c,hp,os,h=>by
  obtain⟨h1,h2,o1,o2⟩:=hp p wt;have om:=La.yS hk o1 o2;have:=zdb hk l (nadd k s (nmul k p.1 p.2)) (c+B*B') (fun q hq=>hp q (wv _ hq)) (La.JB hk os om) (h.add (h1.mul h2 o1 o2) os om);rw[waa];refine this.mono ?_;rw[vQ,vZ,vT];omega
theorem zgQ{k:Int}(hk:kab k){D D' B B' n:Nat}{x y:List Nb}(ox:La.OkR k x)(oy:La.OkR k y)(lx:x.length=n)(hx:∀ u∈x,La.dB D B u)(hy:∀ u∈y,La.dB D' B' u):La.dB (D*D') (n *(B*B')) (La.ndot k x y):=by
 unfold La.ndot La.ndotF;have h:=zdb hk (x.zip y) (nnum k 0) 0 (fun p hp=>⟨hx _ (vw hp).1,hy _ (vw hp).2,ox _ (vw hp).1,oy _ (vw hp).2⟩) (La.ya hk 0) (La.dB.num (by simp));refine h.mono ?_;rw[Ge];refine wU _ ?_;rw[um];omega
theorem zdu{k:Int}(hk:kab k){n T C D:Nat}{A:Tb}{x:List Nb}(n4:n<=4)(oA:La.OkM k n A)(d0:D≠0)(dl:D<2^T)(dA:∀ r∈A,La.rowD D T r)(ox:La.OkR k x)(hx:La.rowB C x):La.rowB (T+C+2) (imgM k A x):=by
 obtain⟨d,e0,el,hd⟩:=hx;have p1:=uD T;have p2:=uD C;have e:2^(T+C+2)=2^T*2^C*4:=by rw[ul,ul]
 have pm:0<2^T*2^C:=waS p1 p2;refine⟨D*d,waf d0 e0,?_,fun y hy=>?_⟩
 ·rw[e];have:D*d<=2^T*2^C:=vf (uh dl) (uh el);omega
 ·unfold imgM at hy;obtain⟨r,hr,rfl⟩:=wm.mp hy;refine(zgQ hk (oA r hr).2 ox (oA r hr).1 (dA r hr) hd).mono ?_;rw[e];have h1:(2^T - 1) *(2^C - 1)<=(2^T - 1)*2^C:=vg _ (by omega);have h2:(2^T - 1)*2^C=2^T*2^C - 2^C:=by rw[wbp,vT]
  have h3:n *((2^T - 1) *(2^C - 1))<=4 *(2^T*2^C - 2^C):=vf n4 (by omega);omega
theorem zfn{k:Int}{B:Nat}{x:List Nb}(k0:k≠0)(ox:La.OkR k x)(b1:1<=B):La.rowB B x:=Zw (k:=k) (n:=x.length) (M:=[x]) k0 (fun r hr=>by rw[wD.mp hr];exact⟨rfl,ox⟩) b1 x wt
theorem zhN{k:Int}(hk:kab k){C:Nat}{x:List Nb}(ox:La.OkR k x)(h:La.rowB C x)(c7:61<=C):∀ y∈x,nsm C y:=YC hk (n:=x.length) (W:=[x]) (fun r hr=>by rw[wD.mp hr];exact⟨rfl,ox⟩) (fun r hr=>by rw[wD.mp hr];exact h) c7 x wt
theorem zdE{k:Int}{n:Nat}:IsRa k n [] []:=fun F _ φ=>((La.Gj.start (φ:=φ) (n:=n) (M:=[]) (fun _ h=>nomatch h)).done (.inl rfl)).1
theorem XN{k:Int}{A B:Tb}{b:List Nb}(hb:b∈B):∀(t j:Nat),j<=t->powX k A b j∈La.kry k A B t
 | 0,0,_=>hb
 | 0,j+1,h=>by omega
 | t+1,0,_=>wH _ hb
 | t+1,j+1,h=>wE _ (wm.mpr ⟨powX k A b j,XN hb t j (by omega),rfl⟩)
theorem zdB{k:Int}(hk:kab k){n:Nat}{R W M:Tb}{lr lw:List Nat}{x:List Nb}(iR:IsRa k n R lr)(iW:IsRa k n W lw)(eR:kaz k R (M++[x]))(eW:kaz k W M):R.length=W.length↔∀(F:Type) [Lean.Grind.Field F] (φ:La.Kf k F),La.Rm φ M (La.nv φ x):=by
 have mx:∀(F:Type) [Lean.Grind.Field F] (φ:La.Kf k F),La.Rm φ R (La.nv φ x):=fun F _ φ=>(eR F φ _).mpr (.of ⟨x,wE _ wt,rfl⟩)
 have sub:∀(F:Type) [Lean.Grind.Field F] (φ:La.Kf k F) (v:Nat->F),La.Rm φ W v->La.Rm φ R v:=fun F _ φ v h=>(eR F φ v).mpr (((eW F φ v).mp h).mono fun u ⟨r,hr,e⟩=>⟨r,wH _ hr,e⟩)
 constructor
 ·intro h F _ φ;exact(eW F φ _).mp (((iW F φ).sub_len (iR F φ) (sub F φ)).2 (by omega) _ (mx F φ))
 ·intro h;have:R=W:=zap hk iR iW fun F _ φ v=>⟨fun hv=>?_,sub F φ v⟩
  ·rw[this]
  ·refine(eW F φ v).mpr (((eR F φ v).mp hv).bind fun u ⟨r,hr,e⟩=>?_)
   rcases wu.mp hr with h'|h'
   ·exact .of ⟨r,h',e⟩
   ·rw[wD.mp h']at e;rw[e];exact h F φ
end L2
namespace L2
open PySem PySem.Spec PyProof.Rows Nm
section
variable{k:Int}(hk:kab k){n s z:Nat}(z7:61<=z){A C:Tb}(hA:TOk k n n z A)(hC:TOk k s n z C)
include hk z7 hA hC
end
end L2
namespace L2
open Nm
end L2
namespace L2
open PySem PySem.Spec PyProof.Rows Nm
theorem Jp{α:Type}[DecidableEq α](f:α->PyData)(h:∀ x y,PyData.eqv (f x) (f y)=decide (x=y)):∀ l l':List α,PyData.eqvAll (l.map f) (l'.map f)=decide (l=l')
 | [],[]=>rfl
 | [],_::_=>rfl
 | _::_,[]=>rfl
 | x::l,y::l'=>by
  show(PyData.eqv (f x) (f y) && PyData.eqvAll (l.map f) (l'.map f))=_;rw[h,Jp f h l l',gj];simp
theorem zjt(M N:Tb):PyData.eqv (tabD M) (tabD N)=decide (M=N):=Jp rowD (fun xs ys=>Jp toD ZX xs ys) M N
theorem zaQ{α β:Type}{R:α->β->Prop}{xs:List α}{ys:List β}(h:Paired R xs ys)(n:Nat):Paired R (xs.take n) (ys.take n):=by
 have l:=zk h;refine Jt (by rw[wx,wx,l]) fun i x a h1 h2=>?_
 rw[List.getElem?_take]at h1 h2
 split at h1
 ·rename_i hi;rw[if_pos hi]at h2;exact ju h h1 h2
 ·cases h1
end L2
namespace L2
open PySem PySem.Spec PyProof.Rows Nm
section
variable{X:Cx}{tg:Expr}
end
end L2
namespace L2
open PySem PySem.Spec PyProof.Rows Nm
theorem Zb{k:Int}{F:Type}[Lean.Grind.Field F]{φ:La.Kf k F}(hk:kab k){n:Nat}{A:Tb}{x:List Nb}(oA:La.OkM k n A)(ox:La.OkR k x)(lx:x.length=n)(i:Nat):La.nv φ (imgM k A x) i=La.limg φ n A (La.nv φ x) i:=La.zbt hk oA ox lx i
def blkT(k:Int)(h:Nat)(A B:Tb):Nat->Tb
 | 0=>B
 | t+1=>kai k h A (blkT k h A B t)
section
variable{k:Int}{F:Type}[Lean.Grind.Field F]
theorem Qs{φ:La.Kf k F}{n:Nat}{A:Tb}{u v:Nat->F}(h:∀ j,u j=v j)(i:Nat):La.limg φ n A u i=La.limg φ n A v i:=by
 have:u=v:=funext h;rw[this]
variable(hk:kab k){n h s m:Nat}{A B C:Tb}(hM:MOk k n h s m A B C)
include hk hM
end
section
variable{k:Int}(hk:kab k){n h s m:Nat}{A B C:Tb}(hM:MOk k n h s m A B C)
theorem ziI{M N:Tb}:kaa h (kai k h M N) =(kaa h N).map (imgM k M):=by
 refine uZ fun j=>?_
 rcases wO j h with hj|hj
 ·rw[xE hj,wo,xE hj];unfold kai imgM;rw[vF];refine congrArg some (vV fun r _=>?_);show((kaa h N).map fun col=>La.ndot k r col).getD j (.z 0)=_;rw[wj,wo,xE hj];rfl
 ·rw[wK (by rw[zj];exact hj),wK (by rw[we,zj];exact hj)]
theorem zde:∀ t,kaa h (blkT k h A B t) =(kaa h B).map fun c=>powX k A c t
 | 0=>(waC _).symm
 | t+1=>by
  show kaa h (kai k h A (blkT k h A B t))=_;rw[ziI,zde t,vF];rfl
include hk hM
theorem zic:∀ t,La.OkM k h (blkT k h A B t)/\(blkT k h A B t).length=n
 | 0=>⟨hM.b.ok,hM.b.len⟩
 | t+1=>by
  obtain⟨o,l⟩:=zic t;have oT:=zZ o;rw[l]at oT;refine⟨fun r hr=>?_,by show(kai k h A _).length=n;unfold kai;rw[we,hM.a.len]⟩;have hr':r∈kai k h A (blkT k h A B t):=hr;unfold kai at hr';obtain⟨a,ha,rfl⟩:=wm.mp hr';refine⟨by rw[we,zj],fun y hy=>?_⟩;obtain⟨c,hc,rfl⟩:=wm.mp hy;exact La.xl hk (hM.a.ok a ha).2 (oT c hc).2
end
end L2
namespace L2
open PySem PySem.Spec PyProof.Rows Nm
def whk(k:Int)(m:Nat)(x:Nb):Prop:=k=0->∃ i:Int,x=nnum k i/\i.natAbs<2^m
theorem whk.mono{k:Int}{m n:Nat}{x:Nb}(h:whk k m x)(hm:m<=n):whk k n x:=fun k0=>by
 obtain⟨i,e,hi⟩:=h k0;exact⟨i,e,wV hi (ve (by decide) hm)⟩
theorem whk.szk{k:Int}{m:Nat}{x:Nb}(h:whk k m x)(m1:1<=m):szk k m x:=fun k0=>by
 obtain⟨i,e,hi⟩:=h k0;subst k0;rw[e];exact⟨hi,sm_one.mono m1⟩
theorem whk.nsm{k:Int}(hk:kab k){m n:Nat}{x:Nb}(o:x.ok k)(h:whk k m x)(hm:m<=n)(h7:61<=n):nsm n x:=((h.mono hm).szk (wI (by decide) h7)).nsm hk o (ww _) h7
theorem qb{k:Int}(k0:k=0)(i:Int):nnum k i=.q (i:Rat):=by unfold nnum;rw[if_pos k0]
theorem zgJ{a b m n:Nat}(ha:a<2^m)(hb:b<2^n):a+b<2^(max m n+1):=by
 have h1:2^m<=2^max m n:=ve (by decide) (Nat.le_max_left _ _);have h2:2^n<=2^max m n:=ve (by decide) (Nat.le_max_right _ _);rw[gy];omega
theorem zhb{k:Int}{m n:Nat}{x y:Nb}(ox:x.ok k)(oy:y.ok k)(sx:whk k m x)(sy:whk k n y):whk k (max m n+1) (nadd k x y):=fun k0=>by
 obtain⟨i,rfl,hi⟩:=sx k0;obtain⟨j,rfl,hj⟩:=sy k0;refine⟨i+j,?_,uo (GE i j) (zgJ hi hj)⟩;rw[qb k0,qb k0,qb k0];show Nb.q ((i:Rat) +(j:Rat))=_;rw[wac]
theorem zh4{k:Int}{m n:Nat}{x y:Nb}(ox:x.ok k)(oy:y.ok k)(sx:whk k m x)(sy:whk k n y):whk k (max m n+1) (nsub k x y):=fun k0=>by
 obtain⟨i,rfl,hi⟩:=sx k0;obtain⟨j,rfl,hj⟩:=sy k0;refine⟨i - j,?_,uo (waF i j) (zgJ hi hj)⟩;rw[qb k0,qb k0,qb k0];show Nb.q ((i:Rat) - (j:Rat))=_;rw[Rat.intCast_sub]
theorem QY{k:Int}{m n:Nat}{x y:Nb}(ox:x.ok k)(oy:y.ok k)(sx:whk k m x)(sy:whk k n y):whk k (m+n) (nmul k x y):=fun k0=>by
 obtain⟨i,rfl,hi⟩:=sx k0;obtain⟨j,rfl,hj⟩:=sy k0;refine⟨i*j,?_,?_⟩
 ·rw[qb k0,qb k0,qb k0];show Nb.q ((i:Rat) *(j:Rat))=_;rw[vm]
 ·rw[vB,ul];exact waO hi hj
structure TW(k:Int)(r c m:Nat)(M:Tb):Prop where
 len:M.length=r
 ok:La.OkM k c M
 sz:∀ r∈M,∀ x∈r,whk k m x
theorem TW.up{k:Int}{r c m m':Nat}{M:Tb}(h:TW k r c m M)(hm:m<=m'):TW k r c m' M:=⟨h.len,h.ok,fun r hr x hx=>(h.sz r hr x hx).mono hm⟩
theorem TW.tok{k:Int}(hk:kab k){r c m n:Nat}{M:Tb}(h:TW k r c m M)(hm:m<=n)(h7:61<=n):TOk k r c n M:=⟨h.len,h.ok,fun r hr x hx=>(h.sz r hr x hx).nsm hk ((h.ok r hr).2 x hx) hm h7⟩
theorem TW.set{k:Int}{r c m i:Nat}{M:Tb}{xs:List Nb}(h:TW k r c m M)(lx:xs.length=c)(ox:La.OkR k xs)(sx:∀ x∈xs,whk k m x):TW k r c m (M.set i xs):=by
 refine⟨by rw[vn];exact h.len,fun q hq=>?_,fun q hq=>?_⟩
 all_goals
  rcases La.ym hq with e|e
 ·rw[e];exact⟨lx,ox⟩
 ·exact h.ok q e
 ·rw[e];exact sx
 ·exact h.sz q e
end L2
namespace L2
open PySem PySem.Spec PyProof.Rows Nm
theorem Yn{k:Int}{m:Nat}{x:Nb}(k0:k=0)(h:whk k m x):La.dB 1 (2^m - 1) x:=by
 obtain⟨i,rfl,hi⟩:=h k0;exact La.dB.num (by omega)
theorem zgP{k:Int}{m B:Nat}{x:Nb}(ox:x.ok k)(h:k=0->La.dB 1 B x)(hb:B<2^m):whk k m x:=fun k0=>by
 have h:=h k0;cases x with
 | z i=>exact absurd k0 ox.1
 | q r =>
  obtain⟨a,ea,ha⟩:=h;refine⟨a,?_,by omega⟩;rw[qb k0];have e1:(((1:Nat):Int):Rat)=1:=by rfl
  rw[e1]at ea;have:r =(a:Rat):=by rw[← ea];grind
  rw[this]
theorem zgr{k:Int}{m:Nat}{x:List Nb}(m1:1<=m)(ox:La.OkR k x)(h:∀ y∈x,whk k m y):La.rowB m x:=by
 by_cases k0:k=0
 ·have:2^1<=2^m:=ve (by decide) m1;exact⟨1,by decide,by omega,fun y hy=>Yn k0 (h y hy)⟩
 ·exact zfn k0 ox m1
theorem zdw{k:Int}(hk:kab k){n a b c:Nat}{x y:List Nb}(ox:La.OkR k x)(oy:La.OkR k y)(lx:x.length=n)(hn:n<=2^c)(hx:∀ u∈x,whk k a u)(hy:∀ u∈y,whk k b u):whk k (a+b+c) (La.ndot k x y):=by
 refine zgP (B:=n *((2^a - 1) *(2^b - 1))) (La.xl hk ox oy) (fun k0=>?_) ?_
 ·exact zgQ hk ox oy lx (fun u hu=>Yn k0 (hx u hu)) (fun u hu=>Yn k0 (hy u hu))
 ·have p1:=uD a;have p2:=uD b;have p3:=uD c;rw[ul,ul];have h1:(2^a - 1) *(2^b - 1)<=(2^a - 1)*2^b:=vg _ (by omega);have h2:(2^a - 1)*2^b=2^a*2^b - 2^b:=by rw[wbp,vT]
  have h3:0<2^a*2^b:=waS p1 p2
  calc n *((2^a - 1) *(2^b - 1))<=2^c *(2^a*2^b - 1):=vf hn (by omega)
   _<2^c *(2^a*2^b):=Nat.mul_lt_mul_of_pos_left (by omega) p3
   _=2^a*2^b*2^c:=uk ..
theorem ziX{k:Int}(hk:kab k){r n a b:Nat}{A:Tb}{x:List Nb}(n4:k=0->n<=4)(hA:TW k r n a A)(ox:La.OkR k x)(hx:∀ u∈x,whk k b u):∀ y∈imgM k A x,whk k (a+b+2) y:=fun y hy k0=>by
 unfold imgM at hy;obtain⟨q,hq,rfl⟩:=wm.mp hy;have o:=hA.ok q hq;exact zdw hk o.2 ox o.1 (n4 k0) (hA.sz q hq) hx k0
theorem JW{k:Int}(hk:kab k){n a b:Nat}{A:Tb}{x:List Nb}(n4:k=0->n<=4)(hA:TW k n n a A)(ox:La.OkR k x)(lx:x.length=n)(hx:∀ u∈x,whk k b u):∀ i,∀ y∈powX k A x i,whk k (b+i *(a+2)) y
 | 0=>fun y hy=>(hx y hy).mono (by omega)
 | i+1=>fun y hy=>by
  have o:=yQ hk hA.ok hA.len ox lx i;exact(ziX hk n4 hA o.1 (JW hk n4 hA ox lx hx i) y hy).mono (by rw[vZ,vT];omega)
theorem xA{k:Int}{c m:Nat}{M:Tb}(oM:La.OkM k c M)(h:∀ r∈M,∀ x∈r,whk k m x):∀ r∈kaa c M,∀ x∈r,whk k m x:=fun r hr x hx=>by
 unfold kaa at hr;obtain⟨j,hj,rfl⟩:=wm.mp hr;obtain⟨q,hq,rfl⟩:=wm.mp hx;have hl:=(oM q hq).1;rw[vp]at hj;rw[wj,wg (by omega)];exact h q hq _ (wp _)
theorem ziY{k:Int}(hk:kab k){n h s z a:Nat}{A B C:Tb}(hM:MOk k n h s z A B C)(n4:k=0->n<=4)(wA:TW k n n a A)(wB:TW k n h a B)(i:Nat):∀ r∈blkT k h A B i,∀ x∈r,whk k (a+i *(a+2)) x:=by
 obtain⟨ob,lb⟩:=zic hk hM i;have oT:=Qm hM.b;have wT:=xA wB.ok wB.sz;have cz:∀ r∈kaa h (blkT k h A B i),∀ x∈r,whk k (a+i *(a+2)) x:=fun r hr x hx=>by
  rw[zde i]at hr;obtain⟨c,hc,rfl⟩:=wm.mp hr;exact JW hk n4 wA (oT.ok c hc).2 (oT.ok c hc).1 (wT c hc) i x hx
 have tt:=xA (zZ ob) cz;rw[qs ob]at tt;exact tt
end L2
namespace L2
open PySem PySem.Spec PyProof.Rows Nm
section
variable{X:Cx}
end
section
variable{k:Int}{n:Nat}
theorem zdI{V M N:Tb}(h:kaz k V M):kaz k (V++N) (M++N):=fun F _ φ v=>by
 rw[La.Rm.app,La.Rm.app];exact⟨fun⟨a,b,ha,hb,e⟩=>⟨a,b,(h F φ a).mp ha,hb,e⟩,fun⟨a,b,ha,hb,e⟩=>⟨a,b,(h F φ a).mpr ha,hb,e⟩⟩
theorem zaA{M R:Tb}{ls:List Nat}(red:∀(F:Type) [Lean.Grind.Field F] (φ:La.Kf k F),La.kaq φ n M R ls):kaz k R M:=fun F _ φ v=>⟨(red F φ).fro v,(red F φ).to v⟩
structure PkI(k:Int)(n:Nat)(W X E V:Tb)(i:Nat):Prop where
 rd:RdR k n V
 sub:∀ r∈E,r∈X
 eE:kaz k V (W++E)
 len:V.length=W.length+E.length
 eX:kaz k V (W++X.take i)
theorem PkI.start{W:Tb}(h:RdR k n W)(X:Tb):PkI k n W X [] W 0 :=
 ⟨h,(fun _ h=>nomatch h),(fun F _ φ v=>by rw[vH]),rfl,(fun F _ φ v=>by rw[wa0,vH])⟩
theorem PkI.more(hk:kab k){W X E V R:Tb}{ls:List Nat}{i:Nat}{x:List Nb}(I:PkI k n W X E V i)(hx:X[i]?=some x)(red:∀(F:Type) [Lean.Grind.Field F] (φ:La.Kf k F),La.kaq φ n (V++[x]) R ls)(h:V.length<R.length):PkI k n W X (E++[x]) R (i+1):=by
 have iR:=yY red;have eR:=zaA red;obtain⟨lv,iV⟩:=I.rd;have ne:¬ ∀(F:Type) [Lean.Grind.Field F] (φ:La.Kf k F),La.Rm φ V (La.nv φ x):=fun all=>by
  have:=(zdB hk iR iV eR (fun _ _ _ _=>Iff.rfl)).mpr all;omega
 obtain⟨F,h1⟩:=Gs.mp ne;obtain⟨inst,h2⟩:=Gs.mp h1;obtain⟨φ,h3⟩:=Gs.mp h2;have l:=La.zaj (iV F φ) (iR F φ) h3 fun v=>(eR F φ v).trans La.rm_app1
 refine⟨⟨ls,iR⟩,fun r hr=>?_,fun F _ φ v=>?_,by rw[l,I.len,wy];rfl,fun F _ φ v=>?_⟩
 ·rcases wu.mp hr with q|q
  ·exact I.sub r q
  ·rw[wD.mp q];exact wk hx
 ·rw[← uW];exact(eR F φ v).trans (zdI I.eE F φ v)
 ·rw[zq hx,← uW];exact(eR F φ v).trans (zdI I.eX F φ v)
theorem PkI.same(hk:kab k){W X E V R:Tb}{ls:List Nat}{i:Nat}{x:List Nb}(I:PkI k n W X E V i)(hx:X[i]?=some x)(red:∀(F:Type) [Lean.Grind.Field F] (φ:La.Kf k F),La.kaq φ n (V++[x]) R ls)(h:¬ V.length<R.length):PkI k n W X E V (i+1):=by
 have iR:=yY red;have eR:=zaA red;obtain⟨lv,iV⟩:=I.rd;obtain⟨F0,_,_,⟨φ0⟩⟩:=La.ye hk;have le:=((iV F0 φ0).sub_len (iR F0 φ0) fun v hv=>(eR F0 φ0 v).mpr (La.Zg (fun r hr=>wH _ hr) hv)).1;have all:=(zdB hk iR iV eR (fun _ _ _ _=>Iff.rfl)).mp (by omega);refine⟨I.rd,I.sub,I.eE,I.len,fun F _ φ v=>?_⟩;rw[zq hx,← uW]
 constructor
 ·exact fun hv=>La.Zg (fun r hr=>wH _ hr) ((I.eX F φ v).mp hv)
 ·intro hv;obtain⟨u,c,hu,e⟩:=La.rm_app1.mp hv;exact(((I.eX F φ u).mpr hu).add ((all F φ).smul c)).cast fun j=>(e j).symm
theorem PkI.gen{W X E V:Tb}{i g:Nat}(I:PkI k n W X E V i)(oW:La.OkM k n W)(oX:La.OkM k n X)(cW:La.kak g W)(cX:La.kak g X):Gen k n g V :=
 ⟨W++E,fun r hr=>(wu.mp hr).elim (oW r) fun h=>oX r (I.sub r h),cW.app fun r hr=>cX r (I.sub r hr),I.eE⟩
structure Quad(k:Int)(n:Nat)(R U M E1 E2 E3:Tb):Prop where
 ok:La.OkM k n (M++E1++E2++E3)
 len:M.length+E1.length+E2.length+E3.length=n
 r:kaz k R (M++E1)
 u:kaz k U (M++E2)
 all:∀(F:Type) [Lean.Grind.Field F] (φ:La.Kf k F) (p:Nat),p<n->La.Rm φ (M++E1++E2++E3) (La.kah p 1)
theorem qW(hk:kab k){F:Type}[Lean.Grind.Field F](φ:La.Kf k F)(v:Nat->F)(hv:∀ j,n<=j->v j=0):La.Rm φ (La.kan k n) v:=by
 refine(La.ja (La.jU φ hk n) hk v).mp ⟨hv,fun u hu=>?_⟩;refine La.dot_zero n _ _ fun j hj=>?_
 have z:=hu.2 _ (.of ⟨_,wk (La.xI (k:=k) hj),rfl⟩);rw[La.zV,La.zR (u':=u) (v':=La.kah j 1) fun i _=>by rw[La.qw hj i],La.yZ hj]at z
 grind
theorem XQ(hk:kab k){M R E V:Tb}(rR:RdR k n R)(sub:∀(F:Type) [Lean.Grind.Field F] (φ:La.Kf k F) (v:Nat->F),La.Rm φ M v->La.Rm φ R v)(I:PkI k n M R E V R.length):kaz k R (M++E)/\M.length+E.length=R.length:=by
 have e:V=R:=zdL hk I.rd rR fun F _ φ v=>by
  have h:=I.eX F φ v;rw[vK]at h;refine h.trans ⟨fun hv=>?_,fun hv=>La.Zg (fun r hr=>wE _ hr) hv⟩;obtain⟨a,b,ha,hb,ev⟩:=La.Rm.app.mp hv;exact((sub F φ a ha).add hb).cast fun j=>(ev j).symm
 subst e;exact⟨I.eE,I.len.symm⟩
theorem zje(hk:kab k){R U M J E1 E2 E3 V1 V2 V3:Tb}(rR:RdR k n R)(rU:RdR k n U)(rM:RdR k n M)(rJ:RdR k n J)(met:MetOf k M R U)(eJ:kaz k J (R++U))(p1:PkI k n M R E1 V1 R.length)(p2:PkI k n M U E2 V2 U.length)(p3:PkI k n J (La.kan k n) E3 V3 n):Quad k n R U M E1 E2 E3:=by
 obtain⟨s1,l1⟩:=XQ hk rR (fun F _ φ v h=>((met F φ v).mp h).1) p1;obtain⟨s2,l2⟩:=XQ hk rU (fun F _ φ v h=>((met F φ v).mp h).2) p2;have lU:=(La.yD hk n).2;have oU:=(La.yD hk n).1;have ok:∀ {W:Tb},RdR k n W->La.OkM k n W:=fun⟨_,h⟩=>(yl hk h).1
 have p3':PkI k n J (La.kan k n) E3 V3 (La.kan k n).length:=by rw[lU];exact p3
 obtain⟨s3,l3⟩:=XQ hk (M:=J) ⟨_,fun F _ φ=>La.jU φ hk n⟩ (fun F _ φ v h=>qW hk φ v fun j hj=>La.ze8 (ok rJ) h hj) p3';have d:=dims hk rR rU rJ rM (fun F _ φ v=>(eJ F φ v).trans La.Rm.app) met;refine⟨fun r hr=>?_,by omega,s1,s2,fun F _ φ p hp=>?_⟩
 ·rcases wu.mp hr with h|h
  ·rcases wu.mp h with h|h
   ·rcases wu.mp h with h|h
    ·exact ok rM r h
    ·exact ok rR r (p1.sub r h)
   ·exact ok rU r (p2.sub r h)
  ·exact oU r (p3.sub r h)
 ·have h0:La.Rm φ (La.kan k n) (La.kah p 1):=qW hk φ _ fun j hj=>by unfold La.kah;rw[if_neg (by omega)]
  obtain⟨a,b,ha,hb,e⟩:=La.Rm.app.mp ((s3 F φ _).mp h0);obtain⟨c,d,hc,hd,e'⟩:=La.Rm.app.mp ((eJ F φ _).mp ha);have h1:La.Rm φ (M++E1++E2++E3) c:=La.Zg (fun r hr=>wH _ (wH _ hr)) ((s1 F φ c).mp hc);have h2:La.Rm φ (M++E1++E2++E3) d:=La.Zg (fun r hr=>by
   rcases wu.mp hr with h|h
   ·exact wH _ (wH _ (wH _ h))
   ·exact wH _ (wE _ h)) ((s2 F φ d).mp hd)
  have h3:La.Rm φ (M++E1++E2++E3) b:=La.Zg (fun r hr=>wE _ hr) hb;exact((h1.add h2).add h3).cast fun j=>by rw[e j,e' j]
end
end L2
namespace L2
open PySem PySem.Spec PyProof.Rows Nm
section
variable{k:Int}{n:Nat}
def plc(a b c d:Nat):List Int:=wN a 0++wN b 1++wN c 2++wN d 3
theorem zcl(a b c d:Nat):(plc a b c d).length=a+b+c+d:=by unfold plc;simp only[wy,vt]
theorem Xc{a b c d i:Nat}{p:Int}(h:(plc a b c d)[i]?=some p):(p=0/\i<a)\/(p=1/\a<=i/\i<a+b)\/(p=2/\a+b<=i/\i<a+b+c)\/(p=3/\a+b+c<=i/\i<a+b+c+d):=by
 unfold plc at h;rw[vh,vh,vh]at h;simp only[wy,vt,uF]at h
 grind
theorem plc_at{a b c d i:Nat}:(i<a->(plc a b c d)[i]?=some 0)/\(a<=i->i<a+b->(plc a b c d)[i]?=some 1)/\(a+b<=i->i<a+b+c->(plc a b c d)[i]?=some 2):=by
 unfold plc;rw[vh,vh,vh];simp only[wy,vt,uF]
 grind
theorem zdR{M E1 E2 E3:Tb}{i:Nat}{r:List Nb}(h:(M++E1++E2++E3)[i]?=some r):(i<M.length->r∈M)/\(M.length<=i->i<M.length+E1.length->r∈E1)/\(M.length+E1.length<=i->i<M.length+E1.length+E2.length->r∈E2):=by
 rw[vh,vh,vh]at h;simp only[wy]at h;refine⟨fun h1=>?_,fun h1 h2=>?_,fun h1 h2=>?_⟩
 ·rw[if_pos (by omega),if_pos (by omega),if_pos h1]at h;exact wk h
 ·rw[if_pos (by omega),if_pos (by omega),if_neg (by omega)]at h;exact wk h
 ·rw[if_pos (by omega),if_neg (by omega)]at h;exact wk h
theorem Zi{M E1 E2 E3:Tb}{r:List Nb}:(r∈M->∃ i,i<M.length/\(M++E1++E2++E3)[i]?=some r)/\(r∈E1->∃ i,M.length<=i/\i<M.length+E1.length/\(M++E1++E2++E3)[i]?=some r)/\(r∈E2->∃ i,M.length+E1.length<=i/\i<M.length+E1.length+E2.length/\(M++E1++E2++E3)[i]?=some r):=by
 refine⟨fun h=>?_,fun h=>?_,fun h=>?_⟩
 ·obtain⟨i,hi,e⟩:=wG h;refine⟨i,hi,?_⟩;rw[vh,vh,vh];simp only[wy];rw[if_pos (by omega),if_pos (by omega),if_pos hi,wg hi,e]
 ·obtain⟨i,hi,e⟩:=wG h;refine⟨M.length+i,by omega,by omega,?_⟩;rw[vh,vh,vh];simp only[wy];rw[if_pos (by omega),if_pos (by omega),if_neg (by omega),uv,wg hi,e]
 ·obtain⟨i,hi,e⟩:=wG h;refine⟨M.length+E1.length+i,by omega,by omega,?_⟩;rw[vh,vh];simp only[wy];rw[if_pos (by omega),if_neg (by omega),uv,wg hi,e]
structure PlF(k:Int)(n:Nat)(R U X S:Tb)(P:List Int):Prop where
 len:P.length=n
 rng:∀ p∈P,p=0\/p=1\/p=2\/p=3
 inR:∀(i:Nat)(p:Int)(r:List Nb),P[i]?=some p->p<2->X[i]?=some r->∀(F:Type) [Lean.Grind.Field F] (φ:La.Kf k F),La.Rm φ R (La.nv φ r)
 inU:∀(i:Nat)(p:Int)(r:List Nb),P[i]?=some p->(p=0\/p=2)->X[i]?=some r->∀(F:Type) [Lean.Grind.Field F] (φ:La.Kf k F),La.Rm φ U (La.nv φ r)
 offR:∀(i:Nat)(p:Int)(s:List Nb),P[i]?=some p->1<p->S[i]?=some s->∀(F:Type) [Lean.Grind.Field F] (φ:La.Kf k F) (v:Nat->F),La.Rm φ R v->La.dot n (La.nv φ s) v=0
 offU:∀(i:Nat)(p:Int)(s:List Nb),P[i]?=some p->(p=1\/p=3)->S[i]?=some s->∀(F:Type) [Lean.Grind.Field F] (φ:La.Kf k F) (v:Nat->F),La.Rm φ U v->La.dot n (La.nv φ s) v=0
 spR:∀ Y:Tb,(∀(i:Nat)(p:Int)(r:List Nb),P[i]?=some p->p<2->X[i]?=some r->r∈Y)->∀(F:Type) [Lean.Grind.Field F] (φ:La.Kf k F) (v:Nat->F),La.Rm φ R v->La.Rm φ Y v
 spU:∀ Y:Tb,(∀(i:Nat)(p:Int)(r:List Nb),P[i]?=some p->(p=0\/p=2)->X[i]?=some r->r∈Y)->∀(F:Type) [Lean.Grind.Field F] (φ:La.Kf k F) (v:Nat->F),La.Rm φ U v->La.Rm φ Y v
theorem XS{X S:Tb}(oX:La.OkM k n X)(lX:X.length=n)(lS:S.length=n)(pr:La.PairU k n S (kaa n X)){i q:Nat}{s r:List Nb}(hs:S[i]?=some s)(hr:X[q]?=some r)(ne:i≠q){F:Type}[Lean.Grind.Field F](φ:La.Kf k F):La.dot n (La.nv φ s) (La.nv φ r)=0:=by
 have hi:i<n:=by rw[← lS];exact(wq.mp hs).1
 have hq:q<n:=by rw[← lX];exact(wq.mp hr).1
 have h:=pr F φ i q hi hq;rw[if_neg ne]at h;have e1:S.getD i []=s:=by rw[wj,hs];rfl
 have e2:X.getD q []=r:=by rw[wj,hr];rfl
 rw[← h];refine La.zR fun l hl=>?_
 show _=La.nv φ (S.getD i []) l*La.nv φ ((La.trF n X).getD l []) q;rw[e1];rw[La.xY oX hl,e2]
theorem ziz{R U M E1 E2 E3 S:Tb}(Qd:Quad k n R U M E1 E2 E3)(lS:S.length=n)(pr:La.PairU k n S (kaa n (M++E1++E2++E3))):PlF k n R U (M++E1++E2++E3) S (plc M.length E1.length E2.length E3.length):=by
 have lX:(M++E1++E2++E3).length=n:=by rw[wy,wy,wy];exact Qd.len
 refine⟨by rw[zcl];exact Qd.len,fun p hp=>?_,fun i p r hp p2 hr F _ φ=>?_,fun i p r hp p2 hr F _ φ=>?_,fun i p s hp p2 hs F _ φ v hv=>?_,fun i p s hp p2 hs F _ φ v hv=>?_,fun Y hY F _ φ v hv=>?_,fun Y hY F _ φ v hv=>?_⟩
 ·obtain⟨i,hi,e⟩:=wG hp;have:=Xc (a:=M.length) (b:=E1.length) (c:=E2.length) (d:=E3.length) (i:=i) (p:=p) (by rw[wg hi,e]);omega
 ·refine(Qd.r F φ _).mpr (.of ⟨r,?_,rfl⟩);have g:=Xc hp;have f:=zdR hr
  rcases wO i M.length with h|h
  ·exact wH _ (f.1 h)
  ·exact wE _ (f.2.1 h (by omega))
 ·refine(Qd.u F φ _).mpr (.of ⟨r,?_,rfl⟩);have g:=Xc hp;have f:=zdR hr
  rcases wO i M.length with h|h
  ·exact wH _ (f.1 h)
  ·exact wE _ (f.2.2 (by omega) (by omega))
 ·have g:=Xc hp;refine La.Span.dot_zero_r ((Qd.r F φ v).mp hv) fun u ⟨r,hr,e⟩=>?_
  rw[e]
  rcases wu.mp hr with h|h
  ·obtain⟨q,hq,er⟩:=(Zi (E1:=E1) (E2:=E2) (E3:=E3)).1 h;exact XS Qd.ok lX lS pr hs er (by omega) φ
  ·obtain⟨q,hq,hq',er⟩:=(Zi (M:=M) (E2:=E2) (E3:=E3)).2.1 h;exact XS Qd.ok lX lS pr hs er (by omega) φ
 ·have g:=Xc hp;refine La.Span.dot_zero_r ((Qd.u F φ v).mp hv) fun u ⟨r,hr,e⟩=>?_
  rw[e]
  rcases wu.mp hr with h|h
  ·obtain⟨q,hq,er⟩:=(Zi (E1:=E1) (E2:=E2) (E3:=E3)).1 h;exact XS Qd.ok lX lS pr hs er (by omega) φ
  ·obtain⟨q,hq,hq',er⟩:=(Zi (M:=M) (E1:=E1) (E3:=E3)).2.2 h;exact XS Qd.ok lX lS pr hs er (by omega) φ
 ·refine La.Zg (fun r hr=>?_) ((Qd.r F φ v).mp hv)
  rcases wu.mp hr with h|h
  ·obtain⟨q,hq,er⟩:=(Zi (E1:=E1) (E2:=E2) (E3:=E3)).1 h;exact hY q 0 r (plc_at.1 hq) (by decide) er
  ·obtain⟨q,hq,hq',er⟩:=(Zi (M:=M) (E2:=E2) (E3:=E3)).2.1 h;exact hY q 1 r (plc_at.2.1 hq hq') (by decide) er
 ·refine La.Zg (fun r hr=>?_) ((Qd.u F φ v).mp hv)
  rcases wu.mp hr with h|h
  ·obtain⟨q,hq,er⟩:=(Zi (E1:=E1) (E2:=E2) (E3:=E3)).1 h;exact hY q 0 r (plc_at.1 hq) (.inl rfl) er
  ·obtain⟨q,hq,hq',er⟩:=(Zi (M:=M) (E1:=E1) (E3:=E3)).2.2 h;exact hY q 2 r (plc_at.2.2 hq hq') (.inr rfl) er
theorem QC(hk:kab k){b z:Nat}{A B R:Tb}(n1:1<=n)(oA:La.OkM k n A)(lA:A.length=n)(oB:La.OkM k n B)(L:kax k n A B R){F:Type}[Lean.Grind.Field F](φ:La.Kf k F){v:Nat->F}(hv:La.Rm φ R v):La.Rm φ R (La.limg φ n A v):=by
 have en:n - 1+1=n:=by omega
 have s:∀ v,La.Rm φ (La.kry k A B (n - 1+1)) v->La.Rm φ (La.kry k A B (n - 1)) v:=fun v h=>by
  rw[en]at h;exact La.qH hk oA lA oB n1 v h
 have h1:=s v (by rw[en];exact(L.eq F φ v).mp hv);have h2:=La.qx hk oA lA oB (n - 1) _ (La.zeV hk oA lA oB s h1);rw[en]at h2;exact(L.eq F φ _).mpr h2
theorem zcz(hk:kab k){A C L U:Tb}(n1:1<=n)(oA:La.OkM k n A)(lA:A.length=n)(oC:La.OkM k n C)(hL:kax k n (kaa n A) C L)(pU:PerpOf k n U L){F:Type}[Lean.Grind.Field F](φ:La.Kf k F){v:Nat->F}(hv:La.Rm φ U v):La.Rm φ U (La.limg φ n A v):=by
 obtain⟨z,h⟩:=(pU F φ v).mp hv;have oT:La.OkM k n (kaa n A):=by have:=zZ oA;rw[lA]at this;exact this
 refine(pU F φ _).mpr ⟨fun j hj=>?_,fun u hu=>?_⟩
 ·unfold La.limg;refine La.dot_zero n _ _ fun i _=>?_
  rw[wj,wK (by omega)];have:La.nv φ ((none:Option (List Nb)).getD []) i=0:=La.qT i;rw[this];grind
 ·rw[← La.jr oA lA u v];exact h _ (QC hk (b:=0) (z:=0) n1 oT (zj n A) oC hL φ hu)
structure Part(k:Int)(n h:Nat)(A B C R L U:Tb):Prop where
 n1:1<=n
 oA:La.OkM k n A
 lA:A.length=n
 oB:La.OkM k h B
 lB:B.length=n
 oC:La.OkM k n C
 r:kax k n A (kaa h B) R
 l:kax k n (kaa n A) C L
 u:PerpOf k n U L
section
variable(hk:kab k){h:Nat}{A B C R L U X S:Tb}{P:List Int}(Pt:Part k n h A B C R L U)(Pl:PlF k n R U X S P)(oX:La.OkM k n X)(lX:X.length=n)(oS:La.OkM k n S)(lS:S.length=n)
include hk Pt Pl oX lX oS lS
end
end
end L2
namespace L2
open PySem PySem.Spec PyProof.Rows Nm
section
variable{F:Type}[Lean.Grind.Field F]
theorem zcY(u v:Nat->F)(p:Nat):∀ q,La.dot (p+q) u v=La.dot p u v+La.dot q (fun j=>u (p+j)) (fun j=>v (p+j))
 | 0=>by show _=_+0;rw[wbf];grind
 | q+1=>by
  show La.dot (p+q) u v+u (p+q)*v (p+q)=La.dot p u v +(La.dot q (fun j=>u (p+j)) (fun j=>v (p+j))+u (p+q)*v (p+q));rw[zcY u v p q];grind
theorem zcO{n a b:Nat}{u v:Nat->F}(hab:a+b<=n)(h:∀ l,l<n->(l<a\/a+b<=l)->u l*v l=0):La.dot n u v=La.dot b (fun j=>u (a+j)) (fun j=>v (a+j)):=by
 obtain⟨c,rfl⟩:=Nat.le.dest hab;rw[zcY u v (a+b) c,zcY u v a b,La.dot_zero a u v fun j hj=>h j (by omega) (.inl hj),La.dot_zero c _ _ fun j hj=>h (a+b+j) (by omega) (.inr (by omega))]
 grind
end
section
variable{k:Int}{n:Nat}
def cutR(a b:Nat)(M:Tb):Tb:=(M.drop a).take b
theorem Zy{a b i:Nat}{M:Tb}(hi:i<b):(cutR a b M)[i]?=M[a+i]?:=by
 unfold cutR;rw[gZ hi,gh]
theorem zdj{a b:Nat}{M:Tb}(h:a+b<=M.length):(cutR a b M).length=b:=by unfold cutR;rw[wx,ur];omega
theorem Zq{a b:Nat}{M:Tb}{r:List Nb}(h:r∈cutR a b M):r∈M:=Gr (uu h)
structure kam(k:Int)(n h a b:Nat)(A B C R L U X S:Tb):Prop where
 pt:Part k n h A B C R L U
 oX:La.OkM k n X
 lX:X.length=n
 oS:La.OkM k n S
 lS:S.length=n
 ab:a+b<=n
 pr:La.PairU k n S (kaa n X)
 rp:La.PairU k n (kaa n X) S
 inR:∀(q:Nat)(r:List Nb),q<a+b->X[q]?=some r->∀(F:Type) [Lean.Grind.Field F] (φ:La.Kf k F),La.Rm φ R (La.nv φ r)
 inU:∀(q:Nat)(r:List Nb),q<a->X[q]?=some r->∀(F:Type) [Lean.Grind.Field F] (φ:La.Kf k F),La.Rm φ U (La.nv φ r)
 offR:∀(q:Nat)(s:List Nb),a+b<=q->S[q]?=some s->∀(F:Type) [Lean.Grind.Field F] (φ:La.Kf k F) (v:Nat->F),La.Rm φ R v->La.dot n (La.nv φ s) v=0
 offU:∀(q:Nat)(s:List Nb),a<=q->q<a+b->S[q]?=some s->∀(F:Type) [Lean.Grind.Field F] (φ:La.Kf k F) (v:Nat->F),La.Rm φ U v->La.dot n (La.nv φ s) v=0
section
variable(hk:kab k){h a b:Nat}{A B C R L U X S:Tb}(I:kam k n h a b A B C R L U X S){F:Type}[Lean.Grind.Field F](φ:La.Kf k F)
def cA(k:Int)(n a b:Nat)(A X S:Tb):Tb:=kai k b (kai k n (cutR a b S) A) (kaa n (cutR a b X))
def cB(k:Int)(h a b:Nat)(B S:Tb):Tb:=kai k h (cutR a b S) B
def cC(k:Int)(n a b:Nat)(C X:Tb):Tb:=kai k b C (kaa n (cutR a b X))
def pi0(n a b:Nat)(S:Tb)(v:Nat->F):Nat->F:=fun i=>if i<b then La.dot n (La.nv φ (S.getD (a+i) [])) v else 0
def pi1(n a b:Nat)(X:Tb)(v:Nat->F):Nat->F:=fun j=>if j<b then La.dot n v (La.nv φ (X.getD (a+j) []))else 0
include hk I
theorem kam.oX':La.OkM k n (cutR a b X)/\(cutR a b X).length=b:=⟨fun r hr=>I.oX r (Zq hr),zdj (by rw[I.lX];exact I.ab)⟩
theorem kam.oS':La.OkM k n (cutR a b S)/\(cutR a b S).length=b:=⟨fun r hr=>I.oS r (Zq hr),zdj (by rw[I.lS];exact I.ab)⟩
theorem kam.oT':La.OkM k b (kaa n (cutR a b X))/\kaa b (kaa n (cutR a b X))=cutR a b X:=by
 obtain⟨o,l⟩:=I.oX' hk;have h1:=zZ o;have h2:=qs o;rw[l]at h1 h2;exact⟨h1,h2⟩
theorem kam.okA:(cA k n a b A X S).length=b/\La.OkM k b (cA k n a b A X S):=by
 have o1:=La.jo hk (c:=n) (I.oS' hk).1 I.pt.oA;have o2:=La.jo hk (c:=b) o1.2 (I.oT' hk).1;exact⟨o2.1.trans (o1.1.trans (I.oS' hk).2),o2.2⟩
theorem kam.okB:(cB k h a b B S).length=b/\La.OkM k h (cB k h a b B S):=by
 have o1:=La.jo hk (c:=h) (I.oS' hk).1 I.pt.oB;exact⟨o1.1.trans (I.oS' hk).2,o1.2⟩
theorem kam.okC:(cC k n a b C X).length=C.length/\La.OkM k b (cC k n a b C X):=La.jo hk (c:=b) I.pt.oC (I.oT' hk).1
theorem kam.getS{q:Nat}(hq:q<n):∃ s,S[q]?=some s/\S.getD q []=s/\s.length=n/\La.OkR k s:=by
 have hl:q<S.length:=by rw[I.lS];exact hq
 have e:S[q]?=some S[q]:=wg hl;exact⟨S[q],e,by rw[wj,e];rfl,I.oS _ (wp hl)⟩
theorem kam.getX{q:Nat}(hq:q<n):∃ s,X[q]?=some s/\X.getD q []=s/\s.length=n/\La.OkR k s:=by
 have hl:q<X.length:=by rw[I.lX];exact hq
 have e:X[q]?=some X[q]:=wg hl;exact⟨X[q],e,by rw[wj,e];rfl,I.oX _ (wp hl)⟩
theorem kam.nvA{i j:Nat}(hi:i<b)(hj:j<b):La.nv φ ((cA k n a b A X S).getD i []) j=La.dot n (La.nv φ (S.getD (a+i) [])) (La.limg φ n A (La.nv φ (X.getD (a+j) []))):=by
 have ab:=I.ab;obtain⟨s,hs,es,ls,os⟩:=I.getS hk (q:=a+i) (by omega);obtain⟨x,hx,ex,lx,ox⟩:=I.getX hk (q:=a+j) (by omega);obtain⟨oT,tT⟩:=I.oT' hk;have e0:cA k n a b A X S=kai k b (cutR a b S) (kai k b A (kaa n (cutR a b X))):=La.QA hk (I.oS' hk).1 I.pt.oA I.pt.lA oT (zj n _);have e1:kaa b (kai k b A (kaa n (cutR a b X))) =(cutR a b X).map (imgM k A):=by
  refine Eq.trans (La.zac (k:=k) (d:=b) (N:=A) (P:=kaa n (cutR a b X))) ?_;show(kaa b (kaa n (cutR a b X))).map _=_;rw[tT];rfl
 have hc:(cutR a b S)[i]?=some s:=by rw[Zy hi];exact hs
 have er:(cA k n a b A X S).getD i [] =((cutR a b X).map (imgM k A)).map fun c=>La.ndot k s c:=by
  rw[e0,wj];unfold kai;rw[wo,hc];show wav _ (kaa b (kai k b A (kaa n (cutR a b X))))=_;rw[e1]
 have oi:(imgM k A x).length=A.length/\La.OkR k (imgM k A x):=La.XW hk I.pt.oA ox;rw[er,es,ex,La.yq φ (x:=La.ndot k s (imgM k A x)) (by rw[vF,wo,Zy hj,hx];rfl),La.xh φ hk os oi.2 (by rw[ls,oi.1,I.pt.lA]),ls];refine La.zR fun l _=>?_
 rw[Zb hk I.pt.oA ox lx]
theorem kam.nvB{i l:Nat}(hi:i<b)(hl:l<h):La.nv φ ((cB k h a b B S).getD i []) l=La.dot n (La.nv φ (S.getD (a+i) [])) (La.nv φ ((kaa h B).getD l [])):=by
 have ab:=I.ab;obtain⟨s,hs,es,ls,os⟩:=I.getS hk (q:=a+i) (by omega);have hc:(cutR a b S)[i]?=some s:=by rw[Zy hi];exact hs
 have oT:=zZ I.pt.oB;rw[I.pt.lB]at oT;have hl':l <(kaa h B).length:=by rw[zj];exact hl
 have ec:(kaa h B)[l]?=some (kaa h B)[l]:=wg hl';have oc:=oT _ (wp hl');have er:(cB k h a b B S).getD i [] =(kaa h B).map fun c=>La.ndot k s c:=by
  unfold cB kai;rw[wj,wo,hc];rfl
 have e2:(kaa h B).getD l [] =(kaa h B)[l]:=by rw[wj,ec];rfl
 rw[er,es,e2,La.yq φ (x:=La.ndot k s (kaa h B)[l]) (by rw[wo,ec];rfl),La.xh φ hk os oc.2 (by rw[ls,oc.1]),ls]
theorem kam.nvC{j r:Nat}(hj:j<b):La.nv φ ((cC k n a b C X).getD r []) j=La.dot n (La.nv φ (C.getD r [])) (La.nv φ (X.getD (a+j) [])):=by
 have ab:=I.ab;obtain⟨x,hx,ex,lx,ox⟩:=I.getX hk (q:=a+j) (by omega);obtain⟨oT,tT⟩:=I.oT' hk
 rcases wO r C.length with hr|hr
 ·have ec:C[r]?=some C[r]:=wg hr;have oc:=I.pt.oC _ (wp hr);have er:(cC k n a b C X).getD r [] =(cutR a b X).map fun c=>La.ndot k C[r] c:=by
   unfold cC kai;rw[wj,wo,ec,tT];rfl
  have e2:C.getD r []=C[r]:=by rw[wj,ec];rfl
  rw[er,e2,ex,La.yq φ (x:=La.ndot k C[r] x) (by rw[wo,Zy hj,hx];rfl),La.xh φ hk oc.2 ox (by rw[oc.1,lx]),oc.1]
 ·rw[wj,wK (by rw[(I.okC hk).1];exact hr),wj,wK hr,La.dot_zero n _ _ fun i _=>by
   have:La.nv φ ((none:Option (List Nb)).getD []) i=0:=La.qT i;rw[this];grind]
  exact La.qT j
theorem kam.parts{v:Nat->F}(hv:∀ j,n<=j->v j=0){p:Nat}(hp:p<n):v p=La.dot n (fun l=>La.nv φ (X.getD l []) p) (fun l=>La.dot n (La.nv φ (S.getD l [])) v):=by
 have h1:=La.ZH n v (fun l=>La.nv φ (S.getD l [])) (fun l=>La.nv φ (X.getD l []) p) n;rw[h1];have h2:La.dot n (fun j=>La.dot n (fun l=>La.nv φ (X.getD l []) p) (fun i=>La.nv φ (S.getD i []) j)) v=La.dot n (La.kah p 1) v:=La.zR fun j hj=>by
  congr 1
  have:=I.rp F φ p j hp hj;have e:La.dot n (fun l=>La.nv φ (X.getD l []) p) (fun i=>La.nv φ (S.getD i []) j)=La.dot n ((fun p=>La.nv φ ((kaa n X).getD p [])) p) (fun l=>(fun l q=>La.nv φ (S.getD l []) q) l j):=La.zR fun l hl=>by
   show La.nv φ (X.getD l []) p*_=La.nv φ ((La.trF n X).getD p []) l*_;rw[La.xY I.oX hp]
  rw[e,this];unfold La.kah
  by_cases c:p=j
  ·rw[if_pos c,if_pos c.symm]
  ·rw[if_neg c,if_neg (fun z=>c z.symm)]
 rw[h2,La.zV,La.yZ hp]
 grind
end
end
end L2
namespace L2
open PySem PySem.Spec PyProof.Rows Nm
theorem getT{h l:Nat}(M:Tb)(hl:l<h):(kaa h M)[l]?=some ((kaa h M).getD l []):=by
 have hl':l <(kaa h M).length:=by rw[zj];exact hl
 rw[wj,wg hl'];rfl
theorem zfc{k:Int}{n a b:Nat}{F:Type}[Lean.Grind.Field F]{φ:La.Kf k F}{S:Tb}{u v:Nat->F}(e:∀ j,u j=v j)(i:Nat):pi0 φ n a b S u i=pi0 φ n a b S v i:=by
 rw[show u=v from funext e]
section
variable{k:Int}{n:Nat}
section
variable(hk:kab k){h a b:Nat}{A B C R L U X S:Tb}(I:kam k n h a b A B C R L U X S){F:Type}[Lean.Grind.Field F](φ:La.Kf k F)
include hk I
theorem kam.suppR{v:Nat->F}(hv:La.Rm φ R v):∀ j,n<=j->v j=0:=fun j hj=>by
 obtain⟨lr,iR⟩:=I.pt.r.rd;exact(iR F φ).supp hv j hj
theorem kam.seen{w v:Nat->F}(hv:La.Rm φ R v)(hw:∀ q,q<a->La.dot n w (La.nv φ (X.getD q []))=0):La.dot n w v=La.dot b (fun j=>La.dot n w (La.nv φ (X.getD (a+j) []))) (fun j=>La.dot n (La.nv φ (S.getD (a+j) [])) v):=by
 have e1:La.dot n w v=La.dot n w (fun p=>La.dot n (fun l=>La.nv φ (X.getD l []) p) (fun l=>La.dot n (La.nv φ (S.getD l [])) v)):=La.zR fun p hp=>by rw[← I.parts hk φ (I.suppR hk φ hv) hp]
 have e2:=La.ZH n (fun l=>La.dot n (La.nv φ (S.getD l [])) v) (fun p l=>La.nv φ (X.getD l []) p) w n;rw[e1,e2];refine zcO (u:=fun j=>La.dot n w (fun i=>La.nv φ (X.getD j []) i)) I.ab fun l hl hab=>?_
 rcases hab with h1|h1
 ·have:=hw l h1;have e:La.dot n w (fun i=>La.nv φ (X.getD l []) i)=0:=this;rw[e];grind
 ·obtain⟨s,hs,es,_⟩:=I.getS hk hl;rw[es,I.offR l s h1 hs F φ v hv];grind
theorem kam.keptR{v:Nat->F}(hv:La.Rm φ R v):La.Rm φ R (La.limg φ n A v):=by
 have oT:=zZ I.pt.oB;rw[I.pt.lB]at oT;exact QC hk (b:=0) (z:=0) I.pt.n1 I.pt.oA I.pt.lA oT I.pt.r φ hv
theorem kam.keptU{v:Nat->F}(hv:La.Rm φ U v):La.Rm φ U (La.limg φ n A v):=zcz hk I.pt.n1 I.pt.oA I.pt.lA I.pt.oC I.pt.l I.pt.u φ hv
theorem kam.step{v:Nat->F}(hv:La.Rm φ R v)(i:Nat):La.limg φ b (cA k n a b A X S) (pi0 φ n a b S v) i=pi0 φ n a b S (La.limg φ n A v) i:=by
 have ab:=I.ab;unfold La.limg pi0
 by_cases hi:i<b
 ·rw[if_pos hi];obtain⟨s,hs,es,ls,os⟩:=I.getS hk (q:=a+i) (by omega);have lA:=I.pt.lA;have e1:La.dot n (La.nv φ (S.getD (a+i) [])) (fun i=>La.dot n (La.nv φ (A.getD i [])) v)=La.dot n (La.limg φ n (La.trF n A) (La.nv φ (S.getD (a+i) []))) v:=(La.jr I.pt.oA lA _ v).symm;rw[e1,I.seen hk φ (w:=La.limg φ n (La.trF n A) (La.nv φ (S.getD (a+i) []))) hv fun q hq=>by
   rw[La.jr I.pt.oA lA];obtain⟨x,hx,ex,_⟩:=I.getX hk (q:=q) (by omega);rw[es,ex];exact I.offU (a+i) s (by omega) (by omega) hs F φ _ (I.keptU hk φ (I.inU q x hq hx F φ))]
  refine La.zR fun j hj=>?_
  rw[I.nvA hk φ hi hj,if_pos hj,La.jr I.pt.oA lA]
 ·rw[if_neg hi,wj,wK (by rw[(I.okA hk).1];omega)];exact La.dot_zero b _ _ fun j _=>by
   have:La.nv φ ((none:Option (List Nb)).getD []) j=0:=La.qT j;rw[this];grind
theorem kam.colR{l:Nat}(hl:l<h):La.Rm φ R (La.nv φ ((kaa h B).getD l [])):=by
 have oT:=zZ I.pt.oB;rw[I.pt.lB]at oT;have hl':l <(kaa h B).length:=by rw[zj];exact hl
 have e2:(kaa h B).getD l []∈kaa h B:=by rw[wj,wg hl'];exact wp hl'
 have:=La.QI hk I.pt.oA I.pt.lA oT 0 n (La.nv φ ((kaa h B).getD l [])) (.of ⟨_,e2,rfl⟩);rw[Ge]at this;exact(I.pt.r.eq F φ _).mpr this
theorem kam.tB:La.OkM k b (kaa h (cB k h a b B S)):=by
 have o:=zZ (I.okB hk).2;rw[(I.okB hk).1]at o;exact o
theorem kam.tBn:La.OkM k n (kaa h B):=by
 have o:=zZ I.pt.oB;rw[I.pt.lB]at o;exact o
theorem kam.col{l:Nat}(hl:l<h)(i:Nat):La.nv φ ((kaa h (cB k h a b B S)).getD l []) i=pi0 φ n a b S (La.nv φ ((kaa h B).getD l [])) i:=by
 have e:=La.xY (φ:=φ) (i:=i) (I.okB hk).2 hl;refine Eq.trans e ?_;unfold pi0
 by_cases hi:i<b
 ·rw[if_pos hi,I.nvB hk φ hi hl]
 ·rw[if_neg hi,wj,wK (by rw[(I.okB hk).1];omega)];exact La.qT l
theorem kam.powR{l:Nat}(hl:l<h):∀ t,La.Rm φ R (La.nv φ (powX k A ((kaa h B).getD l []) t))
 | 0=>I.colR hk φ hl
 | t+1=>by
  have oc:=I.tBn hk _ (wk (getT B hl));have op:=yQ hk I.pt.oA I.pt.lA oc.2 oc.1 t;exact(I.keptR hk φ (kam.powR hl t)).cast fun j=>(Zb hk I.pt.oA op.1 op.2 j).symm
theorem kam.pow{l:Nat}(hl:l<h):∀ t i,La.nv φ (powX k (cA k n a b A X S) ((kaa h (cB k h a b B S)).getD l []) t) i=pi0 φ n a b S (La.nv φ (powX k A ((kaa h B).getD l []) t)) i
 | 0,i=>I.col hk φ hl i
 | t+1,i=>by
  have oc:=I.tBn hk _ (wk (getT B hl));have op:=yQ hk I.pt.oA I.pt.lA oc.2 oc.1 t;have oc':=I.tB hk _ (wk (getT (cB k h a b B S) hl));have op':=yQ hk (I.okA hk).2 (I.okA hk).1 oc'.2 oc'.1 t;show La.nv φ (imgM k (cA k n a b A X S) (powX k (cA k n a b A X S) ((kaa h (cB k h a b B S)).getD l []) t)) i=_;rw[Zb hk (I.okA hk).2 op'.1 op'.2,Qs (kam.pow hl t),I.step hk φ (I.powR hk φ hl t)];exact zfc (fun j=>(Zb hk I.pt.oA op.1 op.2 j).symm) i
theorem kam.mark{l r:Nat}(hl:l<h)(hr:r<C.length)(t:Nat):La.ndot k ((cC k n a b C X).getD r []) (powX k (cA k n a b A X S) ((kaa h (cB k h a b B S)).getD l []) t)=La.ndot k (C.getD r []) (powX k A ((kaa h B).getD l []) t):=by
 obtain⟨F,_,_,⟨φ⟩⟩:=La.ye hk;have ab:=I.ab;have oc:=I.tBn hk _ (wk (getT B hl));have op:=yQ hk I.pt.oA I.pt.lA oc.2 oc.1 t;have oc':=I.tB hk _ (wk (getT (cB k h a b B S) hl));have op':=yQ hk (I.okA hk).2 (I.okA hk).1 oc'.2 oc'.1 t;have gC:C.getD r []∈C:=by rw[wj,wg hr];exact wp hr
 have oC:=I.pt.oC _ gC;have oC':=(I.okC hk).2 ((cC k n a b C X).getD r []) (by rw[wj,wg (by rw[(I.okC hk).1];exact hr)];exact wp _);refine φ.inj (La.xl hk oC'.2 op'.1) (La.xl hk oC.2 op.1) ?_;rw[La.xh φ hk oC'.2 op'.1 (by rw[oC'.1,op'.2]),La.xh φ hk oC.2 op.1 (by rw[oC.1,op.2]),oC'.1,oC.1];have oT:La.OkM k n (kaa n A):=by have:=zZ I.pt.oA;rw[I.pt.lA]at this;exact this
 have hL:La.Rm φ L (La.nv φ (C.getD r [])):=by
  have:=La.QI hk oT (zj n A) I.pt.oC 0 n (La.nv φ (C.getD r [])) (.of ⟨_,gC,rfl⟩);rw[Ge]at this;exact(I.pt.l.eq F φ _).mpr this
 rw[I.seen hk φ (I.powR hk φ hl t) fun q hq=>by
  obtain⟨x,hx,ex,_⟩:=I.getX hk (q:=q) (by omega);rw[ex];exact((I.pt.u F φ _).mp (I.inU q x hq hx F φ)).2 _ hL]
 refine La.zR fun j hj=>?_
 rw[I.nvC hk φ hj,I.pow hk φ hl t j];unfold pi0;rw[if_pos hj]
theorem kam.kry(t:Nat)(v:Nat->F)(hv:La.Rm φ (La.kry k A (kaa h B) t) v):La.Rm φ (La.kry k (cA k n a b A X S) (kaa h (cB k h a b B S)) t) (pi0 φ n a b S v):=by
 refine hv.all (P:=fun v=>La.Rm φ (La.kry k (cA k n a b A X S) (kaa h (cB k h a b B S)) t) (pi0 φ n a b S v)) (La.Span.cast .zero fun i=>?_) fun c r v ⟨x,hx,e⟩ hw=>?_
 ·unfold pi0
  split
  ·exact(La.dot_zero n _ _ fun j _=>by grind).symm
  ·rfl
 obtain⟨y,hy,i,hi,rfl⟩:=qO t x hx;obtain⟨l,hl,el⟩:=wG hy;have hl':l<h:=by rw[zj]at hl;exact hl
 have ex:(kaa h B).getD l []=y:=by rw[wj,wg hl,el];rfl
 refine La.Span.cast (.step c (r:=La.nv φ (powX k (cA k n a b A X S) ((kaa h (cB k h a b B S)).getD l []) i)) ⟨_,XN (wk (getT (cB k h a b B S) hl')) t i hi,rfl⟩ hw) fun j=>?_
 rw[I.pow hk φ hl' i j,ex,e];unfold pi0
 split
 ·rw[La.jw n _ (fun j=>c*La.nv φ (powX k A y i) j) v,La.qp]
 ·grind
theorem kam.unit{i:Nat}(hi:i<b):∀ j,pi0 φ n a b S (La.nv φ (X.getD (a+i) [])) j=La.kah i 1 j:=fun j=>by
 have ab:=I.ab;unfold pi0 La.kah
 by_cases hj:j<b
 ·rw[if_pos hj];have:=I.pr F φ (a+j) (a+i) (by omega) (by omega);have e:La.dot n (La.nv φ (S.getD (a+j) [])) (La.nv φ (X.getD (a+i) []))=La.dot n ((fun p=>La.nv φ (S.getD p [])) (a+j)) (fun l=>(fun l q=>La.nv φ ((kaa n X).getD l []) q) l (a+i)):=La.zR fun l hl=>by
   show _=La.nv φ (S.getD (a+j) []) l*La.nv φ ((La.trF n X).getD l []) (a+i);rw[La.xY I.oX hl]
  rw[e,this]
  by_cases c:j=i
  ·rw[if_pos (by omega),if_pos c]
  ·rw[if_neg (by omega),if_neg c]
 ·rw[if_neg hj,if_neg (by omega)]
theorem kam.steered{i:Nat}(hi:i<b):La.Rm φ (La.kry k (cA k n a b A X S) (kaa h (cB k h a b B S)) n) (La.kah i 1):=by
 have ab:=I.ab;obtain⟨x,hx,ex,_⟩:=I.getX hk (q:=a+i) (by omega);have hr:La.Rm φ R (La.nv φ (X.getD (a+i) [])):=by rw[ex];exact I.inR (a+i) x (by omega) hx F φ
 exact(I.kry hk φ n _ ((I.pt.r.eq F φ _).mp hr)).cast fun j=>(I.unit hk φ hi j)
end
end
end L2
namespace L2
open PySem PySem.Spec PyProof.Rows Nm
theorem XX{k:Int}{n:Nat}{F:Type}[Lean.Grind.Field F]{φ:La.Kf k F}(hk:kab k){M:Tb}(oM:La.OkM k n M)(ind:∀(i:Nat)(r:List Nb),M[i]?=some r->¬ La.Rm φ (M.take i) (La.nv φ r)):∀ i,i<=M.length->∀ R ls,La.kaq φ n (M.take i) R ls->R.length=i
 | 0,_,R,ls,red=>by
  have e0:La.IsR φ n ([]:Tb) []:=zdE F φ;have:=(red.toIsR.sub_len e0 fun v hv=>red.fro v hv).1
  simpa using this
 | i+1,hi,R,ls,red=>by
  obtain⟨U,lu,rU⟩:=La.xD φ hk (M:=M.take i) fun r hr=>oM r (uu hr)
  have ih:=XX hk oM ind i (by omega) U lu rU;have er:M[i]?=some M[i]:=wg (by omega);have sm:∀ v,La.Rm φ U v↔La.Rm φ (M.take i) v:=fun v=>⟨rU.fro v,rU.to v⟩
  have:=La.zaj rU.toIsR red.toIsR (x:=La.nv φ M[i]) (fun h=>ind i _ er ((sm _).mp h)) fun v=>by
   have s1:La.Rm φ R v↔La.Rm φ (M.take (i+1)) v:=⟨red.fro v,red.to v⟩;rw[s1,zq er,La.rm_app1];exact⟨fun⟨u,c,hu,e⟩=>⟨u,c,(sm u).mpr hu,e⟩,fun⟨u,c,hu,e⟩=>⟨u,c,(sm u).mp hu,e⟩⟩
  omega
section
variable{k:Int}{n:Nat}
section
variable(hk:kab k){h a b:Nat}{A B C R L U X S:Tb}(I:kam k n h a b A B C R L U X S){F:Type}[Lean.Grind.Field F](φ:La.Kf k F)
include hk I
theorem kam.perpL{q:Nat}(hq:q<a){w:Nat->F}(hw:La.Rm φ L w):La.dot n w (La.nv φ (X.getD q []))=0:=by
 have ab:=I.ab;obtain⟨x,hx,ex,_⟩:=I.getX hk (q:=q) (by omega);rw[ex];exact((I.pt.u F φ _).mp (I.inU q x hq hx F φ)).2 _ hw
theorem kam.tA:La.OkM k b (kaa b (cA k n a b A X S)):=by
 have o:=zZ (I.okA hk).2;rw[(I.okA hk).1]at o;exact o
theorem kam.tAn:La.OkM k n (kaa n A):=by
 have o:=zZ I.pt.oA;rw[I.pt.lA]at o;exact o
theorem kam.powT{q:Nat}(hq:q<C.length):∀ t,t<=n->∀ j,La.nv φ (powX k (kaa b (cA k n a b A X S)) ((cC k n a b C X).getD q []) t) j=pi1 φ n a b X (La.nv φ (powX k (kaa n A) (C.getD q []) t)) j:=by
 have ab:=I.ab;have gC:C.getD q []∈C:=by rw[wj,wg hq];exact wp _
 have gC':(cC k n a b C X).getD q []∈cC k n a b C X:=by rw[wj,wg (by rw[(I.okC hk).1];exact hq)];exact wp _
 have oc:=I.pt.oC _ gC;have oc':=(I.okC hk).2 _ gC';intro t
 induction t with
 | zero =>
  intro _ j;show La.nv φ ((cC k n a b C X).getD q []) j=pi1 φ n a b X (La.nv φ (C.getD q [])) j;unfold pi1
  by_cases hj:j<b
  ·rw[if_pos hj,I.nvC hk φ hj]
  ·rw[if_neg hj,La.yL φ (by rw[oc'.1];omega)]
 | succ t ih =>
  intro ht j;have op:=yQ hk (I.tAn hk) (zj n A) oc.2 oc.1 t;have op':=yQ hk (I.tA hk) (zj b _) oc'.2 oc'.1 t;have hL:La.Rm φ L (La.nv φ (powX k (kaa n A) (C.getD q []) t)):=by
   have h1:La.Rm φ (La.kry k (kaa n A) C t) (La.nv φ (powX k (kaa n A) (C.getD q []) t)):=.of ⟨_,XN gC t t (ww t),rfl⟩;obtain⟨d,rfl⟩:=Nat.le.dest (show t<=n by omega);exact(I.pt.l.eq F φ _).mpr (La.QI hk (I.tAn hk) (zj _ A) I.pt.oC t d _ h1)
  show La.nv φ (imgM k (kaa b (cA k n a b A X S)) _) j=pi1 φ n a b X (La.nv φ (imgM k (kaa n A) _)) j;rw[Zb hk (I.tA hk) op'.1 op'.2,Qs (ih (by omega))];have e0:La.nv φ (imgM k (kaa n A) (powX k (kaa n A) (C.getD q []) t))=La.limg φ n (La.trF n A) (La.nv φ (powX k (kaa n A) (C.getD q []) t)):=funext fun i=>Zb hk (I.tAn hk) op.1 op.2 i
  rw[e0];unfold La.limg
  by_cases hj:j<b
  ·have e1:pi1 φ n a b X (fun i=>La.dot n (La.nv φ ((La.trF n A).getD i [])) (La.nv φ (powX k (kaa n A) (C.getD q []) t))) j=La.dot n (La.limg φ n (La.trF n A) (La.nv φ (powX k (kaa n A) (C.getD q []) t))) (La.nv φ (X.getD (a+j) [])):=by unfold pi1;rw[if_pos hj];rfl
   obtain⟨x,hx,ex,_⟩:=I.getX hk (q:=a+j) (by omega);have hxR:La.Rm φ R (La.nv φ (X.getD (a+j) [])):=by rw[ex];exact I.inR (a+j) x (by omega) hx F φ
   rw[e1,La.jr I.pt.oA I.pt.lA,I.seen hk φ (I.keptR hk φ hxR) fun q hq=>I.perpL hk φ hq hL,La.zV b (La.nv φ ((kaa b (cA k n a b A X S)).getD j []))];refine La.zR fun i hi=>?_
   have e3:La.nv φ ((kaa b (cA k n a b A X S)).getD j []) i=La.nv φ ((cA k n a b A X S).getD i []) j:=La.xY (φ:=φ) (i:=i) (I.okA hk).2 hj;rw[e3,I.nvA hk φ hi hj];unfold pi1;rw[if_pos hi]
  ·rw[wj,wK (by rw[zj];omega),La.dot_zero b _ _ fun i _=>by
    have:La.nv φ ((none:Option (List Nb)).getD []) i=0:=La.qT i;rw[this];grind]
   unfold pi1;rw[if_neg hj]
theorem kam.dual(t:Nat)(v:Nat->F)(ht:t<=n)(hv:La.Rm φ (La.kry k (kaa n A) C t) v):La.Rm φ (La.kry k (kaa b (cA k n a b A X S)) (cC k n a b C X) t) (pi1 φ n a b X v):=by
 refine hv.all (P:=fun v=>La.Rm φ (La.kry k (kaa b (cA k n a b A X S)) (cC k n a b C X) t) (pi1 φ n a b X v)) (La.Span.cast .zero fun i=>?_) fun c r v ⟨x,hx,e⟩ hw=>?_
 ·unfold pi1
  split
  ·exact(La.dot_zero n _ _ fun j _=>by grind).symm
  ·rfl
 obtain⟨y,hy,i,hi,rfl⟩:=qO t x hx;obtain⟨l,hl,el⟩:=wG hy;have ex:C.getD l []=y:=by rw[wj,wg hl,el];rfl
 have hl':l <(cC k n a b C X).length:=by rw[(I.okC hk).1];exact hl
 have em:(cC k n a b C X).getD l []∈cC k n a b C X:=by rw[wj,wg hl'];exact wp hl'
 refine La.Span.cast (.step c (r:=La.nv φ (powX k (kaa b (cA k n a b A X S)) ((cC k n a b C X).getD l []) i)) ⟨_,XN em t i hi,rfl⟩ hw) fun j=>?_
 rw[I.powT hk φ hl i (by omega) j,ex,e];unfold pi1
 split
 ·rw[La.zV n (fun j=>c*La.nv φ (powX k (kaa n A) y i) j+v j),La.jw n _ (fun j=>c*La.nv φ (powX k (kaa n A) y i) j) v,La.qp,La.zV n _ v,La.zV n (La.nv φ (X.getD (a+j) [])) (La.nv φ (powX k (kaa n A) y i))]
 ·grind
theorem kam.seenAll{u:Nat->F}(hu:∀ w,La.Rm φ (La.kry k (kaa b (cA k n a b A X S)) (cC k n a b C X) n) w->La.dot b w u=0){i:Nat}(hi:i<b):u i=0:=by
 have ab:=I.ab;have sw:∀ l:Nat->F,La.dot n l (fun p=>La.dot b u (fun j=>La.nv φ (X.getD (a+j) []) p))=La.dot b u (fun j=>La.dot n l (La.nv φ (X.getD (a+j) []))):=fun l=>by
  have e1:La.dot n l (fun p=>La.dot b u (fun j=>La.nv φ (X.getD (a+j) []) p))=La.dot n l (fun p=>La.dot b (fun j=>La.nv φ (X.getD (a+j) []) p) u):=La.zR fun p _=>by rw[La.zV b u]
  rw[e1,La.ZH b u (fun p j=>La.nv φ (X.getD (a+j) []) p) l n,La.zV b u]
 have hU:La.Rm φ U (fun p=>La.dot b u (fun j=>La.nv φ (X.getD (a+j) []) p)):=by
  refine(I.pt.u F φ _).mpr ⟨fun p hp=>La.dot_zero b _ _ fun j hj=>?_,fun l hl=>?_⟩
  ·obtain⟨x,hx,ex,lx,_⟩:=I.getX hk (q:=a+j) (by omega);rw[ex,La.yL φ (by omega)];grind
  ·rw[sw l];have h1:=hu _ (I.dual hk φ n l (ww n) ((I.pt.l.eq F φ l).mp hl));rw[← h1,La.zV b u];refine La.zR fun j hj=>?_
   unfold pi1;rw[if_pos hj]
 obtain⟨s,hs,es,_⟩:=I.getS hk (q:=a+i) (by omega);have z:=I.offU (a+i) s (by omega) (by omega) hs F φ _ hU;rw[sw,← es]at z;have e2:La.dot b u (fun j=>La.dot n (La.nv φ (S.getD (a+i) [])) (La.nv φ (X.getD (a+j) [])))=La.dot b u (La.kah i 1):=La.zR fun j hj=>by
  congr 1
  have e:=I.unit hk φ hj i;unfold pi0 at e;rw[if_pos hi]at e;rw[e];unfold La.kah
  by_cases c:i=j
  ·rw[if_pos c,if_pos c.symm]
  ·rw[if_neg c,if_neg (fun z=>c z.symm)]
 rw[e2,La.yZ hi]at z
 grind
end
end
end L2
namespace L2
open PySem PySem.Spec PyProof.Rows Nm
section
variable{k:Int}{b:Nat}(hk:kab k){A:Tb}(oA:La.OkM k b A)(lA:A.length=b)
include hk oA lA
theorem zf0{F:Type}[Lean.Grind.Field F](φ:La.Kf k F){c y:List Nb}(oc:La.OkR k c)(lc:c.length=b)(oy:La.OkR k y)(ly:y.length=b):∀ i j,La.dot b (La.nv φ (powX k (kaa b A) c i)) (La.nv φ (powX k A y j))=La.dot b (La.nv φ c) (La.nv φ (powX k A y (i+j)))
 | 0,j=>by rw[Ge];rfl
 | i+1,j=>by
  have oT:La.OkM k b (kaa b A):=by have:=zZ oA;rw[lA]at this;exact this
  have op:=yQ hk oT (zj b A) oc lc i;have oq:=yQ hk oA lA oy ly j;have e1:La.nv φ (powX k (kaa b A) c (i+1))=La.limg φ b (La.trF b A) (La.nv φ (powX k (kaa b A) c i)):=funext fun t=>Zb hk oT op.1 op.2 t
  have e2:La.limg φ b A (La.nv φ (powX k A y j))=La.nv φ (powX k A y (j+1)):=funext fun t=>(Zb hk oA oq.1 oq.2 t).symm
  rw[e1,La.jr oA lA,e2,zf0 φ oc lc oy ly i (j+1),show i +(j+1)=i+1+j by omega]
theorem zcC{N h:Nat}{C Bt H Z:Tb}(oC:La.OkM k b C)(oB:La.OkM k b Bt)(lB:Bt.length=h)
  (st:∀(F:Type) [Lean.Grind.Field F] (φ:La.Kf k F) (i:Nat),i<b->La.Rm φ (La.kry k A Bt N) (La.kah i 1))
  (ob:∀(F:Type) [Lean.Grind.Field F] (φ:La.Kf k F) (u:Nat->F),(∀ w,La.Rm φ (La.kry k (kaa b A) C N) w->La.dot b w u=0)->∀ i,i<b->u i=0)
  (oH:La.OkM k ((N+1)*h) H)
  (toH:∀ r∈H,∃ i q,i<=N/\q<C.length/\∀ j l,j<=N->l<h->r[j*h+l]?=some (La.ndot k (C.getD q []) (powX k A (Bt.getD l []) (i+j))))
  (frH:∀ i q,i<=N->q<C.length->∃ r∈H,∀ j l,j<=N->l<h->r[j*h+l]?=some (La.ndot k (C.getD q []) (powX k A (Bt.getD l []) (i+j))))
  (rZ:RdR k ((N+1)*h) Z) (eZ:kaz k Z H):Z.length=b:=by
 obtain⟨F,_,_,⟨φ⟩⟩:=La.ye hk;obtain⟨lz,iZ⟩:=rZ;have oT:La.OkM k b (kaa b A):=by have:=zZ oA;rw[lA]at this;exact this
 have lT:=zj b A;have gB:∀ l,l<h->(Bt.getD l [])∈Bt:=fun l hl=>by rw[wj,wg (by omega)];exact wp _
 have gC:∀ q,q<C.length->(C.getD q [])∈C:=fun q hq=>by rw[wj,wg hq];exact wp _
 let κ:Nat->Nat->F:=fun t=>La.nv φ (powX k A (Bt.getD (t % h) []) (t / h))
 let Θ:(Nat->F)->Nat->F:=fun w t=>if t <(N+1)*h then La.dot b w (κ t)else 0
 have sp:∀ t,t <(N+1)*h->t % h<h/\t / h<=N/\t / h*h+t % h=t:=fun t ht=>by
  have h0:0<h:=by rcases gi h with e|e;(rw[e,Nat.mul_zero]at ht;omega);exact e
  have:=Nat.div_lt_of_lt_mul (by rw[uk];exact ht:t<h *(N+1));have e:=Gv t h;rw[uk]at e;exact⟨GS _ h0,by omega,e⟩
 have lin:∀(c:F)(u v:Nat->F)(t:Nat),Θ (fun j=>c*u j+v j) t=c*Θ u t+Θ v t:=fun c u v t=>by
  show(if t<_ then _ else _)=c *(if t<_ then _ else _) +(if t<_ then _ else _)
  split
  ·rw[La.zV,La.jw b _ (fun j=>c*u j) v,La.qp,La.zV b _ u,La.zV b _ v]
  ·grind
 have zer:∀ t,Θ (fun _=>0) t=0:=fun t=>by
  show(if t<_ then _ else _)=_
  split
  ·exact La.dot_zero b _ _ fun j _=>by grind
  ·rfl
 have out:∀ w t,(N+1)*h<=t->Θ w t=0:=fun w t ht=>by
  show(if t<_ then _ else _)=_;rw[if_neg (by omega)]
 have row:∀ i q (r:List Nb),r.length =(N+1)*h->q<C.length->(∀ j l,j<=N->l<h->r[j*h+l]?=some (La.ndot k (C.getD q []) (powX k A (Bt.getD l []) (i+j))))->∀ t,La.nv φ r t=Θ (La.nv φ (powX k (kaa b A) (C.getD q []) i)) t:=fun i q r lr hq hr t=>by
  rcases wO t ((N+1)*h)with ht|ht
  ·obtain⟨s1,s2,s3⟩:=sp t ht;have e:=hr (t / h) (t % h) s2 s1;rw[s3]at e;have oc:=oC _ (gC q hq);have oy:=oB _ (gB _ s1);have op:=yQ hk oA lA oy.2 oy.1 (i+t / h);rw[La.yq φ e,La.xh φ hk oc.2 op.1 (by rw[oc.1,op.2]),oc.1];show _=if t<_ then _ else _
   rw[if_pos ht];exact(zf0 hk oA lA φ oc.2 oc.1 oy.2 oy.1 i (t / h)).symm
  ·rw[La.yL φ (by omega),out _ t ht]
 have to:∀ v,La.Rm φ H v->∃ w,∀ t,v t=Θ w t:=fun v hv=>by
  refine hv.all (P:=fun v=>∃ w,∀ t,v t=Θ w t) ⟨fun _=>0,fun t=>(zer t).symm⟩ fun c r v ⟨x,hx,e⟩ ⟨w,hw⟩=>?_
  obtain⟨i,q,hi,hq,hr⟩:=toH x hx;exact⟨fun j=>c*La.nv φ (powX k (kaa b A) (C.getD q []) i) j+w j,fun t=>by
   show c*r t+v t=_;rw[lin,e,row i q x (oH x hx).1 hq hr t,hw t]⟩
 have fro:∀ w,La.Rm φ (La.kry k (kaa b A) C N) w->La.Rm φ H (Θ w):=fun w hw=>by
  refine hw.all (P:=fun w=>La.Rm φ H (Θ w)) (La.Span.cast .zero fun t=>(zer t).symm) fun c r v ⟨x,hx,e⟩ hv=>?_
  obtain⟨y,hy,i,hi,ex⟩:=qO N x hx;obtain⟨q,hq,eq⟩:=wG hy;have ey:C.getD q []=y:=by rw[wj,wg hq,eq];rfl
  obtain⟨r',hr',hf⟩:=frH i q hi hq;refine La.Span.cast (.step c (r:=La.nv φ r') ⟨r',hr',rfl⟩ hv) fun t=>?_
  rw[lin,e,ex,← ey,row i q r' (oH r' hr').1 hq hf t]
 have full:∀ i,i<b->La.Rm φ (La.kry k (kaa b A) C N) (La.kah i 1):=fun i hi=>by
  obtain⟨Rk,lk,red⟩:=La.xD φ hk (La.xF hk oT lT oC N);refine red.fro _ ((La.ja red.toIsR hk _).mp ⟨fun j hj=>by unfold La.kah;rw[if_neg (by omega)],fun u hu=>?_⟩);have z:=ob F φ u fun w hw=>hu.2 w (red.to w hw)
  exact La.dot_zero b _ _ fun j hj=>by rw[z j hj];grind
 let G:Tb:=(vd b).map fun i=>La.ofV φ ((N+1)*h) (Θ (La.kah i 1))
 have lG:G.length=b:=by show((vd b).map _).length=b;rw[we,vL]
 have gG:∀ i,i<b->G[i]?=some (La.ofV φ ((N+1)*h) (Θ (La.kah i 1))):=fun i hi=>by
  show((vd b).map _)[i]?=_;rw[wo,vG hi];rfl
 have nG:∀ i t,La.nv φ (La.ofV φ ((N+1)*h) (Θ (La.kah i 1))) t=Θ (La.kah i 1) t:=fun i t=>La.zdg (fun j hj=>out _ j hj) t
 have oG:La.OkM k ((N+1)*h) G:=fun r hr=>by
  obtain⟨i,_,rfl⟩:=wm.mp hr;exact La.zdl _
 have uT:∀ i t,i<b->t <(N+1)*h->Θ (La.kah i 1) t=κ t i:=fun i t hi ht=>by
  show(if t<_ then _ else _)=_;rw[if_pos ht,La.zV,La.yZ hi];grind
 have red:La.kaq φ ((N+1)*h) G Z lz:={ (iZ F φ)with
  to:=fun v hv=>(eZ F φ v).mpr (hv.bind fun u ⟨r,hr,e⟩=>by
   obtain⟨i,hi,rfl⟩:=wm.mp hr;rw[e];exact(fro _ (full i (vp.mp hi))).cast fun t=>(nG i t).symm)
  fro:=fun v hv=>by
   obtain⟨w,hw⟩:=to v ((eZ F φ v).mp hv);refine(La.zce (φ:=φ) G w b).cast fun t=>?_
   rw[hw t];have e:∀ l,l<b->La.nv φ (G.getD l []) t=Θ (La.kah l 1) t:=fun l hl=>by rw[wj,gG l hl];exact nG l t
   rcases wO t ((N+1)*h)with ht|ht
   ·show _=if t<_ then _ else _
    rw[if_pos ht];exact La.zR fun l hl=>by rw[e l hl,uT l t hl ht]
   ·rw[out _ t ht,La.dot_zero b _ _ fun l hl=>by rw[e l hl,out _ t ht];grind] }
 have ind:∀(i:Nat)(r:List Nb),G[i]?=some r->¬ La.Rm φ (G.take i) (La.nv φ r):=fun i r hr hv=>by
  have hi:i<b:=by rw[← lG];exact(wq.mp hr).1
  rw[gG i hi]at hr;have er:=Option.some.inj hr;obtain⟨w,wz,hw⟩ : ∃ w:Nat->F,(∀ j,i<=j->w j=0)/\∀ t,La.nv φ r t=Θ w t:=by
   refine hv.all (P:=fun v=>∃ w:Nat->F,(∀ j,i<=j->w j=0)/\∀ t,v t=Θ w t) ⟨fun _=>0,fun _ _=>rfl,fun t=>(zer t).symm⟩ fun c r' v ⟨x,hx,e⟩ ⟨w,wz,hw⟩=>?_
   obtain⟨q,hq,eq⟩:=wG hx;have hqi:q<i:=by rw[wx]at hq;omega
   rw[waK]at eq;have ex:x=La.ofV φ ((N+1)*h) (Θ (La.kah q 1)):=by
    have:=gG q (by omega);rw[wg (by omega),eq]at this;exact Option.some.inj this
   refine⟨fun j=>c*La.kah q 1 j+w j,fun j hj=>?_,fun t=>?_⟩
   ·show c*La.kah q 1 j+w j=0;unfold La.kah;rw[if_neg (by omega),wz j hj];grind
   ·show c*r' t+v t=_;rw[lin,e,ex,nG q t,hw t]
  have z:∀ x,La.Rm φ (La.kry k A Bt N) x->La.dot b (fun j=>La.kah i 1 j - w j) x=0:=fun x hx=>by
   refine La.Span.dot_zero_r hx fun u ⟨y,hy,e⟩=>?_
   obtain⟨y0,hy0,j,hj,ey⟩:=qO N y hy;obtain⟨l,hl,el⟩:=wG hy0;have h0:l<h:=by omega
   have ht:j*h+l <(N+1)*h:=by
    have:(j+1)*h<=(N+1)*h:=wU _ (by omega);rw[vZ,vT]at this;omega
   have m1:(j*h+l) % h=l:=by rw[uk,Nat.mul_add_mod,Gk h0]
   have m2:(j*h+l) / h=j:=by rw[uk,Nat.mul_add_div (by omega),Nat.div_eq_of_lt h0,wbf]
   have ek:κ (j*h+l)=u:=by
    show La.nv φ (powX k A (Bt.getD ((j*h+l) % h) []) ((j*h+l) / h))=u;rw[m1,m2,e,ey,← el,wj,wg hl];rfl
   have h1:=hw (j*h+l);rw[← er,nG i]at h1;have h2:La.dot b (La.kah i 1) (κ (j*h+l))=La.dot b w (κ (j*h+l)):=by
    have a1:Θ (La.kah i 1) (j*h+l)=La.dot b (La.kah i 1) (κ (j*h+l)):=if_pos ht;have a2:Θ w (j*h+l)=La.dot b w (κ (j*h+l)):=if_pos ht;rw[← a1,← a2];exact h1
   rw[← ek,La.zV,La.zcd,La.zV b _ (La.kah i 1),La.zV b _ w,h2]
   grind
  have f:=z _ (st F φ i hi);rw[La.yZ hi,wz i (ww i)]at f;have one:(La.kah (F:=F) i 1) i=1:=by unfold La.kah;rw[if_pos rfl]
  rw[one]at f;exact Lean.Grind.Field.zero_ne_one (α:=F) (by grind)
 have r2:La.kaq φ ((N+1)*h) (G.take b) Z lz:=by rw[wr (by omega)];exact red
 exact XX hk oG ind b (by omega) Z lz r2
end
end L2
namespace L2
open PySem PySem.Spec PyProof.Rows Nm
theorem zjZ{P:Nb->Prop}{c:Nat}{M:Tb}(hl:∀ r∈M,r.length=c)(h:∀ r∈M,∀ x∈r,P x):∀ r∈kaa c M,∀ x∈r,P x:=fun r hr x hx=>by
 unfold kaa at hr;obtain⟨j,hj,rfl⟩:=wm.mp hr;obtain⟨q,hq,rfl⟩:=wm.mp hx;have:=hl q hq;rw[vp]at hj;rw[wj,wg (by omega)];exact h q hq _ (wp _)
section
variable{k:Int}{n:Nat}
section
variable(hk:kab k){h a b:Nat}{A B C R L U X S:Tb}(I:kam k n h a b A B C R L U X S)
include hk I
theorem kam.entA{r:List Nb}{x:Nb}(hr:r∈cA k n a b A X S)(hx:x∈r):∃ s∈cutR a b S,∃ y∈cutR a b X,x=La.ndot k s (imgM k A y):=by
 obtain⟨oT,tT⟩:=I.oT' hk;have e0:cA k n a b A X S=kai k b (cutR a b S) (kai k b A (kaa n (cutR a b X))):=La.QA hk (I.oS' hk).1 I.pt.oA I.pt.lA oT (zj n _);have e1:kaa b (kai k b A (kaa n (cutR a b X))) =(cutR a b X).map (imgM k A):=by
  refine Eq.trans (La.zac (k:=k) (d:=b) (N:=A) (P:=kaa n (cutR a b X))) ?_;show(kaa b (kaa n (cutR a b X))).map _=_;rw[tT];rfl
 rw[e0]at hr;unfold kai at hr;obtain⟨s,hs,rfl⟩:=wm.mp hr;obtain⟨c,hc,rfl⟩:=wm.mp hx;have hc':c∈(cutR a b X).map (imgM k A):=by rw[← e1];exact hc
 obtain⟨y,hy,rfl⟩:=wm.mp hc';exact⟨s,hs,y,hy,rfl⟩
theorem kam.entC{r:List Nb}{x:Nb}(hr:r∈cC k n a b C X)(hx:x∈r):∃ c∈C,∃ y∈cutR a b X,x=La.ndot k c y:=by
 obtain⟨oT,tT⟩:=I.oT' hk;unfold cC kai at hr;obtain⟨c,hc,rfl⟩:=wm.mp hr;rw[tT]at hx;obtain⟨y,hy,rfl⟩:=wm.mp hx;exact⟨c,hc,y,hy,rfl⟩
theorem kam.powL{l:Nat}(hl:l<h)(t:Nat):powX k (cA k n a b A X S) ((kaa h (cB k h a b B S)).getD l []) t =(cutR a b S).map fun s=>La.ndot k s (powX k A ((kaa h B).getD l []) t):=by
 obtain⟨F,_,_,⟨φ⟩⟩:=La.ye hk;have oc:=I.tBn hk _ (wk (getT B hl));have op:=yQ hk I.pt.oA I.pt.lA oc.2 oc.1 t;have oc':=I.tB hk _ (wk (getT (cB k h a b B S) hl));have op':=yQ hk (I.okA hk).2 (I.okA hk).1 oc'.2 oc'.1 t;obtain⟨oS',lS'⟩:=I.oS' hk;have ab:=I.ab;refine La.zdr φ op'.1 (fun x hx=>?_) (by rw[op'.2,we,lS']) fun i=>?_
 ·obtain⟨s,hs,rfl⟩:=wm.mp hx;exact La.xl hk (oS' s hs).2 op.1
 ·rw[I.pow hk φ hl t i];unfold pi0
  by_cases hi:i<b
  ·obtain⟨s,hs,es,ls,os⟩:=I.getS hk (q:=a+i) (by omega);rw[if_pos hi,es,La.yq φ (x:=La.ndot k s (powX k A ((kaa h B).getD l []) t)) (by rw[wo,Zy hi,hs];rfl),La.xh φ hk os op.1 (by rw[ls,op.2]),ls]
  ·rw[if_neg hi,La.yL φ (by rw[we,lS'];omega)]
theorem kam.powD{q:Nat}(hq:q<C.length){t:Nat}(ht:t<=n):powX k (kaa b (cA k n a b A X S)) ((cC k n a b C X).getD q []) t =(cutR a b X).map fun x=>La.ndot k (powX k (kaa n A) (C.getD q []) t) x:=by
 obtain⟨F,_,_,⟨φ⟩⟩:=La.ye hk;have ab:=I.ab;have gC:C.getD q []∈C:=by rw[wj,wg hq];exact wp _
 have gC':(cC k n a b C X).getD q []∈cC k n a b C X:=by rw[wj,wg (by rw[(I.okC hk).1];exact hq)];exact wp _
 have oc:=I.pt.oC _ gC;have oc':=(I.okC hk).2 _ gC';have op:=yQ hk (I.tAn hk) (zj n A) oc.2 oc.1 t;have op':=yQ hk (I.tA hk) (zj b _) oc'.2 oc'.1 t;obtain⟨oX',lX'⟩:=I.oX' hk;refine La.zdr φ op'.1 (fun x hx=>?_) (by rw[op'.2,we,lX']) fun j=>?_
 ·obtain⟨y,hy,rfl⟩:=wm.mp hx;exact La.xl hk op.1 (oX' y hy).2
 ·rw[I.powT hk φ hq t ht j];unfold pi1
  by_cases hj:j<b
  ·obtain⟨x,hx,ex,lx,ox⟩:=I.getX hk (q:=a+j) (by omega);rw[if_pos hj,ex,La.yq φ (x:=La.ndot k (powX k (kaa n A) (C.getD q []) t) x) (by rw[wo,Zy hj,hx];rfl),La.xh φ hk op.1 ox (by rw[lx,op.2]),op.2]
  ·rw[if_neg hj,La.yL φ (by rw[we,lX'];omega)]
theorem kam.steeredB{F:Type}[Lean.Grind.Field F](φ:La.Kf k F){i:Nat}(hi:i<b):La.Rm φ (La.kry k (cA k n a b A X S) (kaa h (cB k h a b B S)) b) (La.kah i 1):=by
 have ab:=I.ab;have s:∀ v,La.Rm φ (La.kry k (cA k n a b A X S) (kaa h (cB k h a b B S)) (b - 1+1)) v->La.Rm φ (La.kry k (cA k n a b A X S) (kaa h (cB k h a b B S)) (b - 1)) v:=fun v hv=>by
  rw[show b - 1+1=b by omega]at hv;exact La.qH hk (I.okA hk).2 (I.okA hk).1 (I.tB hk) (by omega) v hv
 have h1:=(La.jg hk (I.okA hk).2 (I.okA hk).1 (I.tB hk) s (show b - 1<=n by omega) _).mp (I.steered hk φ hi);exact(La.jg hk (I.okA hk).2 (I.okA hk).1 (I.tB hk) s (show b - 1<=b by omega) _).mpr h1
theorem kam.seenB{F:Type}[Lean.Grind.Field F](φ:La.Kf k F){i:Nat}(hi:i<b):La.Rm φ (La.kry k (kaa b (cA k n a b A X S)) (cC k n a b C X) b) (La.kah i 1):=by
 have ab:=I.ab;have s:∀ v,La.Rm φ (La.kry k (kaa b (cA k n a b A X S)) (cC k n a b C X) (b - 1+1)) v->La.Rm φ (La.kry k (kaa b (cA k n a b A X S)) (cC k n a b C X) (b - 1)) v:=fun v hv=>by
  rw[show b - 1+1=b by omega]at hv;exact La.qH hk (I.tA hk) (zj b _) (I.okC hk).2 (by omega) v hv
 obtain⟨Rk,lk,red⟩:=La.xD φ hk (La.xF hk (I.tA hk) (zj b _) (I.okC hk).2 b);refine red.fro _ ((La.ja red.toIsR hk _).mp ⟨fun j hj=>by unfold La.kah;rw[if_neg (by omega)],fun u hu=>?_⟩);have z:∀ j,j<b->u j=0:=fun j hj=>I.seenAll hk φ (fun w hw=>by
  have h1:=(La.jg hk (I.tA hk) (zj b _) (I.okC hk).2 s (show b - 1<=n by omega) _).mp hw;exact hu.2 w (red.to w ((La.jg hk (I.tA hk) (zj b _) (I.okC hk).2 s (show b - 1<=b by omega) _).mpr h1))) hj
 exact La.dot_zero b _ _ fun j hj=>by rw[z j hj];grind
end
end
theorem zjb{k:Int}(hk:kab k){n:Nat}{R:Tb}{ls:List Nat}(iR:IsRa k n R ls)(full:∀(F:Type) [Lean.Grind.Field F] (φ:La.Kf k F) (i:Nat),i<n->La.Rm φ R (La.kah i 1)):R.length=n:=by
 have e:R=La.kan k n:=zdL hk ⟨ls,iR⟩ ⟨_,fun F _ φ=>La.jU φ hk n⟩ fun F _ φ v=>⟨fun hv=>qW hk φ v fun j hj=>(iR F φ).supp hv j hj,fun hv=>hv.bind fun u ⟨r,hr,e⟩=>by
  unfold La.kan at hr;obtain⟨i,hi,rfl⟩:=wm.mp hr;rw[e];exact(full F φ i (vp.mp hi)).cast fun j=>(La.qw (vp.mp hi) j).symm⟩
 rw[e,(La.yD hk n).2]
end L2
namespace KL
open PySem PySem.Spec PyProof.Rows L2 Nm
set_option maxHeartbeats 4000000
theorem zkC (K:PySem.W.Frag):PySem.W.kitOne K (.type "int") (.type "int")=some true:=by unfold PySem.W.kitOne;rw[if_pos (by decide)]
theorem zkf (K:PySem.W.Frag):PySem.W.kitOne K (.type "int") (.type "bool")=some false:=by
 unfold PySem.W.kitOne;rw[if_neg (by decide)];show(if PySem.W.kitMeta "bool" = true then PySem.W.subIn K (.type "int") (.type "bool")else none)=some false;rw[if_pos (by decide +kernel)];show(PySem.fastBuiltinMro "int").map (·.contains (Value.type "bool"))=some false
 decide +kernel
theorem zf1 (K:PySem.W.Frag):PySem.W.kitOne K (.type "tuple") (.type "tuple")=some true:=by unfold PySem.W.kitOne;rw[if_pos (by decide)]
section
variable{P:Program}{w:World}{K:PySem.W.Frag}{mg:Str->Option Value}{base:Heap}
theorem yI{a b:Int}(h0:0<=a)(h1:a<=2305843009213693952):IntMulOk a b:=IntMulOk.of_left (intBits_le_64 (by omega) (by omega))
def zcH:Sp:=fun vs H Q _=>∃(a b:Int),vs=[.int a,.int b]/\Q (.int ((vk a b:Nat):Int)) H
theorem zfk(i:Int):(if i<0 then -i else i) =(i.natAbs:Int):=by split <;> omega
theorem zkJ (D:Df K mg "common_divisor" SE xw) (m_abs:mg "abs" = none):Kn P w K mg base "common_divisor" 1 SE zcH:=by
 refine D.kn so (fun vs H Q E h=>?_) (fun f cdv A outer s H vs Q E hr h=>?_)
 ·obtain⟨a,b,rfl,_⟩:=h;rfl
 obtain⟨a,b,rfl,q⟩:=h;refine⟨_,(zd (zm (i:=2) so.nd rfl (.inl rfl) (zD zak rfl m_abs zfq (zc (pv 0) ze))) (zd (zm (i:=3) so.nd rfl (.inl rfl) (zD zak rfl m_abs zfq (zc (pv 1) ze))) (zd (qS PassesOwn.never (zG Yt (pv 3) zf (kae _)) (zd (zm (i:=4) so.nd rfl (.inl rfl) (zt zW (pv 2) (pv 3))) (zd (zm (i:=2) so.nd rfl (.inl rfl) (pv 3)) (zi (zm (i:=3) so.nd rfl (.inl rfl) (pv 4)))))) (zi (zo (pv 2)))))),?_⟩;refine⟨_,rfl,a,rfl,_,rfl,b,rfl,?_⟩;rw[zfk,zfk];refine⟨fun m σ H'=>∃ l r o,σ=[some (.int a),some (.int b),some (.int l),some (.int r),o]/\H'=H/\0<=l/\0<=r/\vk l r=vk a b/\m=r.toNat,⟨_,_,_,none,rfl,rfl,uO _,uO _,by simp[uJ],rfl⟩,?_⟩
 rintro m σ H' ⟨l,r,o,rfl,rfl,l0,r0,g,rfl⟩
 refine⟨_,rfl,rfl,_,rfl,?_⟩;refine ite2 (fun c=>?_) (fun c=>?_)
 ·have c':r≠0:=fun z=>by rw[z]at c;exact absurd c (by decide)
  have m0:=wJ l (show 0<r by omega);have m1:=wP l (show 0<r by omega);refine⟨_,fun _ _ h=>h,?_⟩;exact⟨_,rfl,_,rfl,_,_,rfl,rfl,c',_,rfl,_,rfl,_,by omega,r,l.fmod r,_,rfl,rfl,r0,m0,(zdy l r).trans g,rfl⟩
 ·have c':r=0:=by
   rcases gx 0 r with h|h
   ·exact absurd (by have h':¬ V.int r=V.int 0:=fun z=>(by have:=V.int.inj z;omega);rw[decide_eq_false h'];rfl) c
   ·omega
  subst c';refine⟨_,rfl,?_⟩;have e:l =((vk a b:Nat):Int):=by rw[← g,waA];omega
  show Q (.int l) H';rw[e];exact q
def ZU:Sp:=fun vs H Q _=>∃(t b:Int),vs=[.int t,.int b]/\b≠0/\∀ v H',Same H H'->RN H' (.q (vM t b)) v->Q v H'
theorem zcX (hP:P.given.tree=none) (hS:base.NoSeer) (D:Df K mg "fraction" SF ZB) (yK:Kn P w K mg base "common_divisor" 1 SE zcH):Kn P w K mg base "fraction" 41 SF ZU:=by
 refine D.kn Sk (fun vs H Q E h=>?_) (fun f cdv A outer s H vs Q E hr h=>?_)
 ·obtain⟨a,b,rfl,_⟩:=h;rfl
 obtain⟨t,b,rfl,hb,q⟩:=h;refine⟨_,(zd (zm (i:=2) Sk.nd rfl (.inl rfl) (zp yK hr (zc (pv 0) (zc (pv 1) ze)))) (zd (yn (zG zh1 (pv 1) zf (kae _)) (zi (zm (i:=2) Sk.nd rfl (.inl rfl) (ziF zfg (pv 2)))) zK) (zi (zo (xm (zc (zt (yf hr (by decide) hP hS ⟨_,_,rfl,rfl,rfl,rfl,rfl⟩) (pv 0) (pv 2)) (zc (zt (yf hr (by decide) hP hS ⟨_,_,rfl,rfl,rfl,rfl,rfl⟩) (pv 1) (pv 2)) ze))))))),?_⟩;obtain⟨e1,e2⟩:=XU (t:=t) hb;have cd:sg t b≠0:=zgs hb;have fin:∀ p,H p=none->Q (.ref p) (upd H p (.tup [.int (t.fdiv (sg t b)),.int (b.fdiv (sg t b))])):=fun p hp=>by
  rw[e1,e2];exact q _ _ (zg hp _) (RN.of_q zh)
 refine⟨_,rfl,_,rfl,t,b,rfl,?_⟩;refine⟨_,rfl,_,_,rfl,rfl,_,rfl,?_⟩;refine ite2 (fun c=>?_) (fun c=>?_)
 ·have c':b<0:=of_decide_eq_true c;have e:sg t b = -((vk t b:Nat):Int):=by unfold sg;rw[if_pos c']
  rw[e]at cd fin;exact⟨_,rfl,_,rfl,_,rfl,_,rfl,_,_,rfl,rfl,cd,_,rfl,_,rfl,_,_,rfl,rfl,cd,(by show 2<=sizeLine;decide),fin⟩
 ·have c':¬ b<0:=of_decide_eq_false (uE.mpr c);have e:sg t b =((vk t b:Nat):Int):=by unfold sg;rw[if_neg c']
  rw[e]at cd fin;exact⟨_,rfl,_,rfl,_,_,rfl,rfl,cd,_,rfl,_,rfl,_,_,rfl,rfl,cd,(by show 2<=sizeLine;decide),fin⟩
def Jm:Sp:=fun vs H Q _=>∃(p r:Int),vs=[.int p,.int r]/\Pr p/\0<r/\r<p/\∀ x,0<=x->x<p->p ∣ x*r - 1->Q (.int x) H
theorem zcn (hP:P.given.tree=none) (hS:base.NoSeer) (D:Df K mg "one_over" SG Zx):Kn P w K mg base "one_over" 41 SG Jm:=by
 refine D.kn Sl (fun vs H Q E h=>?_) (fun f cdv A outer s H vs Q E hr h=>?_)
 ·obtain⟨a,b,rfl,_⟩:=h;rfl
 obtain⟨p,r,rfl,hp,r0,rp,q⟩:=h;refine⟨_,(zd (zm (i:=2) Sl.nd rfl (.inl rfl) (pv 0)) (zd (zm (i:=3) Sl.nd rfl (.inl rfl) (pv 1)) (zd (zm (i:=4) Sl.nd rfl (.inl rfl) zf) (zd (zm (i:=5) Sl.nd rfl (.inl rfl) zf) (zd (qS PassesOwn.never (zG Yt (pv 3) zf (kae _)) (zd (zm (i:=6) Sl.nd rfl (.inl rfl) (zt (yf hr (by decide) hP hS ⟨_,_,rfl,rfl,rfl,rfl,rfl⟩) (pv 2) (pv 3))) (zd (zm (i:=7) Sl.nd rfl (.inl rfl) (zt qV (pv 2) (zt yb (pv 6) (pv 3)))) (zd (zm (i:=8) Sl.nd rfl (.inl rfl) (zt qV (pv 4) (zt yb (pv 6) (pv 5)))) (zd (zm (i:=2) Sl.nd rfl (.inl rfl) (pv 3)) (zd (zm (i:=4) Sl.nd rfl (.inl rfl) (pv 5)) (zd (zm (i:=3) Sl.nd rfl (.inl rfl) (pv 7)) (zi (zm (i:=5) Sl.nd rfl (.inl rfl) (pv 8)))))))))) (zi (zo (zt zW (pv 4) (pv 0))))))))),?_⟩;have p0:0<p:=by have:=hp.lo;omega
 refine⟨_,rfl,_,rfl,?_⟩;refine⟨fun m σ H'=>∃ l g ml mg o1 o2 o3,σ=[some (.int p),some (.int r),some (.int l),some (.int g),some (.int ml),some (.int mg),o1,o2,o3]/\H'=H/\OvInv p r l g ml mg/\m=g.toNat,⟨_,_,_,_,_,none,none,none,rfl,rfl,zdF hp r0 rp,rfl⟩,?_⟩
 rintro m σ H' ⟨l,g,ml,mg,o1,o2,o3,rfl,rfl,inv,rfl⟩
 have l0:=inv.l0;have l1:=inv.l1;have g0:=inv.g0;have g1:=inv.g1;refine⟨_,rfl,rfl,_,rfl,?_⟩;refine ite2 (fun c=>?_) (fun c=>?_)
 ·have c':g≠0:=fun z=>by rw[z]at c;exact absurd c (by decide)
  have ed:l.fdiv g=l / g:=GD l g0;have d0:0<=l.fdiv g:=by rw[ed];exact waU l0 g0
  have d1:l.fdiv g<=l:=by rw[ed];exact Int.ediv_le_self g l0
  have tn:=zfE inv c';have tm:=zfI (l:=l) g0 c';rw[← ed]at tn tm;refine⟨_,fun _ _ h=>h,?_⟩;refine⟨_,rfl,_,rfl,_,_,rfl,rfl,c',?_⟩;refine⟨_,rfl,_,rfl,_,rfl,_,_,rfl,rfl,yI d0 (by omega),_,_,rfl,rfl,_,rfl,_,rfl,_,rfl,_,_,rfl,rfl,yI d0 (by omega),_,_,rfl,rfl,_,rfl,_,rfl,_,rfl,_,rfl,_,tm,g,_,mg,_,_,_,_,rfl,rfl,tn,rfl⟩
 ·have c':g=0:=by
   rcases gx 0 g with h|h
   ·exact absurd (by have h':¬ V.int g=V.int 0:=fun z=>(by have:=V.int.inj z;omega);rw[decide_eq_false h'];rfl) c
   ·omega
  subst c';refine⟨_,rfl,_,rfl,_,_,rfl,rfl,(show p≠0 by omega),?_⟩;have em:ml.fmod p=ml % p:=uQ ml (by omega);show Q (.int (ml.fmod p)) H';rw[em];exact q _ (gU _ (by omega)) (gf _ p0) (ziA inv p0)
def jA:Sp:=fun vs H Q _=>∃(k w:Int),vs=[.int k,.int w]/\∀ v H',Same H H'->RN H' (nnum k w) v->Q v H'
theorem zfH (D:Df K mg "number" SH XI):Kn P w K mg base "number" 1 SH jA:=by
 refine D.kn zgY (fun vs H Q E h=>?_) (fun f cdv A outer s H vs Q E hr h=>?_)
 ·obtain⟨k,w,rfl,_⟩:=h;rfl
 obtain⟨k,w,rfl,q⟩:=h;refine⟨_,(zd (yn (zG xp (pv 0) zf (kae _)) (zi (zo (xm (zc (pv 1) (zc zf ze))))) zK) (zi (zo (zt zW (pv 1) (pv 0))))),?_⟩;refine⟨_,rfl,rfl,_,rfl,?_⟩;refine ite2 (fun c=>?_) (fun c=>?_)
 ·have e:k=0:=V.int.inj (of_decide_eq_true c);subst e;refine⟨_,rfl,(by show 2<=sizeLine;decide),fun p hp=>?_⟩;refine q _ _ (zg hp _) ?_;show RN _ (.q (w:Rat)) _;exact RN.of_q zh
 ·have c':¬ V.int k=V.int 0:=of_decide_eq_false (uE.mpr c);have e:k≠0:=fun z=>c' (by rw[z])
  refine⟨_,rfl,_,rfl,_,_,rfl,rfl,e,?_⟩;refine q _ _ (Same.refl H) ?_;unfold nnum;rw[if_neg e];exact RN.of_z
structure Two(H:Hp)(k:Int)(x y:Nb)(a b:V):Prop where
 kd:kab k
 xo:x.ok k
 yo:y.ok k
 xs:nsm 60000000 x
 ys:nsm 60000000 y
 xr:RN H x a
 yr:RN H y b
def Ze(f:Int->Nb->Nb->Nb):Sp:=fun vs H Q _=>∃(k:Int)(x y:Nb)(a b:V),vs=[.int k,a,b]/\Two H k x y a b/\∀ v H',Same H H'->RN H' (f k x y) v->Q v H'
theorem YF{H:Hp}{k:Int}{x y:Nb}{a b:V}(T:Two H k x y a b) :
  (k=0/\∃ r s pa pb,x=.q r/\y=.q s/\a=.ref pa/\b=.ref pb/\H pa=some (.tup [.int r.num,.int (r.den:Int)])/\H pb=some (.tup [.int s.num,.int (s.den:Int)])/\Sm 60000000 r.num/\Sm 60000000 (r.den:Int)/\Sm 60000000 s.num/\Sm 60000000 (s.den:Int)) \/
  (k≠0/\Pr k/\∃ i j,x=.z i/\y=.z j/\a=.int i/\b=.int j/\0<=i/\i<k/\0<=j/\j<k):=by
 obtain⟨kd,xo,yo,xs,ys,xr,yr⟩:=T;cases x with
 | q r =>
  have k0:k=0:=xo;cases y with
  | q s =>
   obtain⟨pa,ea,ha⟩:=xr.q;obtain⟨pb,eb,hb⟩:=yr.q;exact .inl ⟨k0,r,s,pa,pb,rfl,rfl,ea,eb,ha,hb,xs.1,xs.2,ys.1,ys.2⟩
  | z j=>exact absurd k0 yo.1
 | z i =>
  cases y with
  | q s=>exact absurd (show k=0 from yo) xo.1
  | z j =>
   refine .inr ⟨xo.1,?_,i,j,rfl,rfl,xr.z,yr.z,xo.2.1,xo.2.2,yo.2.1,yo.2.2⟩
   rcases kd with h|h
   ·exact absurd h xo.1
   ·exact h
theorem xT{m n:Nat}{a b:Int}(ha:Sm m a)(hb:Sm n b)(h:m+n<=134217728:=by decide):IntMulOk a b:=ha.mulOk hb h
theorem zeI(r s:Rat):(r.den:Int) *(s.den:Int)≠0:=gW (js r) (js s)
def zfL:Sp:=fun vs H Q _=>∃(k:Int)(x y:Nb)(a b:V),vs=[.int k,a,b]/\Two H k x y a b/\y≠nnum k 0/\∀ v H',Same H H'->RN H' (ndiv k x y) v->Q v H'
theorem zjC (D:Df K mg "over" SI zdp) (Xk:Kn P w K mg base "fraction" 41 SF ZU) (xf:Kn P w K mg base "number" 1 SH jA) (zee:Kn P w K mg base "one_over" 41 SG Jm):Kn P w K mg base "over" 42 SI zfL:=by
 refine D.kn zjs (fun vs H Q E h=>?_) (fun f cdv A outer s H vs Q E hr h=>?_)
 ·obtain⟨k,x,y,a,b,rfl,_⟩:=h;rfl
 obtain⟨k,x,y,a,b,rfl,T,ne,q⟩:=h;refine⟨_,(zd (yn (zG (zdM hr) (pv 2) (zp xf hr (zc (pv 0) (zc zf ze))) (kae _)) (zi zdd) zK) (zd (yn (zG xp (pv 0) zf (kae _)) (zi (zo (zp Xk hr (zc (zt yb (zE zy (pv 1) zf) (zE zy (pv 2) zf)) (zc (zt yb (zE zy (pv 1) zf) (zE zy (pv 2) zf)) ze))))) zK) (zi (zo (zt zW (zt yb (pv 1) (zp zee hr (zc (pv 0) (zc (pv 2) ze)))) (pv 0)))))),?_⟩;refine⟨_,rfl,_,rfl,k,0,rfl,fun v0 H0 g0 r0=>?_⟩;refine⟨toD y,toD (nnum k 0),T.yr.mono g0,r0,jz _,jz _,wI (vJ _ _) (wI (qi y) (by decide)),_,rfl,?_⟩;show if PyData.eqv (toD y) (toD (nnum k 0))=true then _ else _
 rw[ZX,decide_eq_false ne];refine iteF ?_
 rcases YF T with⟨rfl,r,s,pa,pb,rfl,rfl,rfl,rfl,ha,hb,rn,rd,sn,sd⟩|⟨k0,hp,i,j,rfl,rfl,rfl,rfl,i0,ik,j0,jk⟩
 ·have ha':=g0 _ _ ha;have hb':=g0 _ _ hb;have s0:s≠0:=fun z=>ne (by rw[z];rfl)
  refine⟨_,rfl,rfl,_,rfl,iteT ?_⟩;refine⟨_,rfl,pa,_,_,_,rfl,rfl,SqT.of ha',rfl,_,rfl,pb,_,_,_,rfl,rfl,SqT.of hb',rfl,_,_,rfl,rfl,xT rn sd,_,rfl,pa,_,_,_,rfl,rfl,SqT.of ha',rfl,_,rfl,pb,_,_,_,rfl,rfl,SqT.of hb',rfl,_,_,rfl,rfl,xT rd sn,_,_,rfl,gW (js r) (zkh s0),fun v H' g h=>?_⟩;rw[zjz]at h;exact q v H' (g0.trans g) h
 ·have j1:j≠0:=fun z=>ne (by unfold nnum;rw[if_neg k0,z,wat])
  refine⟨_,rfl,rfl,_,rfl,?_⟩;rw[decide_eq_false (show ¬ V.int k=V.int 0 from fun z=>k0 (V.int.inj z))];refine iteF ?_;refine⟨_,rfl,_,rfl,_,rfl,k,j,rfl,hp,by omega,jk,fun x x0 xk hx=>?_⟩;refine⟨_,_,rfl,rfl,yI i0 (by have:=hp.hi;omega),_,rfl,_,_,rfl,rfl,k0,?_⟩;refine q _ _ g0 ?_;show RN _ (.z ((i*zinv k j).fmod k)) _;rw[zgV x0 xk hx];exact RN.of_z
theorem zhT (D:Df K mg "minus" SI zar) (Xk:Kn P w K mg base "fraction" 41 SF ZU):Kn P w K mg base "minus" 42 SI (Ze nsub):=by
 refine D.kn zh5 (fun vs H Q E h=>?_) (fun f cdv A outer s H vs Q E hr h=>?_)
 ·obtain⟨k,x,y,a,b,rfl,_⟩:=h;rfl
 obtain⟨k,x,y,a,b,rfl,T,q⟩:=h;refine⟨_,(zd (yn (zG xp (pv 0) zf (kae _)) (zi (zo (zp Xk hr (zc (zt qV (zt yb (zE zy (pv 1) zf) (zE zy (pv 2) zf)) (zt yb (zE zy (pv 2) zf) (zE zy (pv 1) zf))) (zc (zt yb (zE zy (pv 1) zf) (zE zy (pv 2) zf)) ze))))) zK) (zi (zo (zt zW (zt qV (pv 1) (pv 2)) (pv 0))))),?_⟩
 rcases YF T with⟨rfl,r,s,pa,pb,rfl,rfl,rfl,rfl,ha,hb,rn,rd,sn,sd⟩|⟨k0,hp,i,j,rfl,rfl,rfl,rfl,i0,ik,j0,jk⟩
 ·refine⟨_,rfl,rfl,_,rfl,iteT ?_⟩;refine⟨_,rfl,pa,_,_,_,rfl,rfl,SqT.of ha,rfl,_,rfl,pb,_,_,_,rfl,rfl,SqT.of hb,rfl,_,_,rfl,rfl,xT rn sd,_,rfl,pb,_,_,_,rfl,rfl,SqT.of hb,rfl,_,rfl,pa,_,_,_,rfl,rfl,SqT.of ha,rfl,_,_,rfl,rfl,xT sn rd,_,_,rfl,rfl,_,rfl,pa,_,_,_,rfl,rfl,SqT.of ha,rfl,_,rfl,pb,_,_,_,rfl,rfl,SqT.of hb,rfl,_,_,rfl,rfl,xT rd sd,_,_,rfl,zeI r s,fun v H' g h=>?_⟩;rw[zfK]at h;exact q v H' g h
 ·refine⟨_,rfl,rfl,_,rfl,?_⟩;rw[decide_eq_false (show ¬ V.int k=V.int 0 from fun z=>k0 (V.int.inj z))];refine iteF ?_;refine⟨_,rfl,_,rfl,_,_,rfl,rfl,_,rfl,_,_,rfl,rfl,k0,?_⟩;exact q _ _ (Same.refl H) RN.of_z
theorem zky (D:Df K mg "_law_divisor" SJ xN) (m_abs:mg "abs" = none):Kn P w K mg base "_law_divisor" 1 SJ zcH:=by
 refine D.kn sG (fun vs H Q E h=>?_) (fun f cdv A outer s H vs Q E hr h=>?_)
 ·obtain⟨a,b,rfl,_⟩:=h;rfl
 obtain⟨a,b,rfl,q⟩:=h;refine⟨_,(zd (qS PassesOwn.never (zG Yt (pv 1) zf (kae _)) (zi (zkB (i:=0) (j:=1) rfl sG.nd rfl rfl (by decide) rfl rfl (zc (pv 1) (zc (zt zW (pv 0) (pv 1)) ze)) rfl))) (zi (zo (zD zak rfl m_abs zfq (zc (pv 0) ze))))),?_⟩;refine⟨fun m σ H'=>∃ l r,σ=[some (.int l),some (.int r)]/\H'=H/\vk l r=vk a b/\m=r.natAbs,⟨_,_,_,rfl,rfl,rfl,rfl⟩,?_⟩
 rintro m σ H' ⟨l,r,rfl,rfl,g,rfl⟩
 refine⟨_,rfl,rfl,_,rfl,?_⟩;refine ite2 (fun c=>?_) (fun c=>?_)
 ·have c':r≠0:=fun z=>by rw[z]at c;exact absurd c (by decide)
  refine⟨_,fun _ _ h=>h,?_⟩;exact⟨_,rfl,_,rfl,_,rfl,_,_,rfl,rfl,c',_,_,rfl,_,zeT l c',r,l.fmod r,rfl,rfl,(zdy l r).trans g,rfl⟩
 ·have c':r=0:=by
   by_cases h:r=0
   ·exact h
   ·exact absurd (by have h':¬ V.int r=V.int 0:=fun z=>h (V.int.inj z);rw[decide_eq_false h'];rfl) c
  subst c';refine⟨_,rfl,l,rfl,?_⟩;have e:(if l<0 then -l else l) =((vk a b:Nat):Int):=by rw[zfk,← g,waA]
  show Q (.int (if l<0 then -l else l)) H';rw[e];exact q
def szM(m:Nat)(M:Tb):Prop:=∀ r∈M,∀ x∈r,nsm m x
theorem zeP{k:Int}{m n:Nat}{M:Tb}(ok:La.OkM k n M)(h:szM m M):szM m (kaa n M):=fun r hr x hx=>by
 unfold kaa at hr;obtain⟨j,hj,rfl⟩:=wm.mp hr;rw[vp]at hj;obtain⟨row,hrow,rfl⟩:=wm.mp hx;have hj':j<row.length:=by have:=(ok row hrow).1;omega
 rw[wj,wg hj'];exact h row hrow _ (wp hj')
def JJ:Sp:=fun vs H Q _=>∃(k:Int)(xs:List Nb)(a:Addr)(B:Nat),vs=[.int k,.ref a]/\kab k/\kas H xs a/\La.OkR k xs/\La.rowB B xs/\61<=B/\B<=60000000/\xs.length<sizeLine /\
 ∀ p H',Same H H'->SclAt H' k B xs p->Q (.ref p) H'
theorem ze9 (hP:P.given.tree=none) (hS:base.NoSeer) (D:Df K mg "scaled" SK XO) (yK:Kn P w K mg base "common_divisor" 1 SE zcH) (xq:mg "list" = none):Kn P w K mg base "scaled" 41 SK JJ:=by
 refine D.kn Sv (fun vs H Q E h=>?_) (fun f cdv A outer s H vs Q E hr h=>?_)
 ·obtain⟨k,xs,a,B,rfl,_⟩:=h;rfl
 obtain⟨k,xs,a,B,rfl,hk,hrow,ok,⟨Dn,dn0,dn1,hD⟩,b7,b6,hlen,q⟩:=h;have kl:=hk.lt;have szl:=dN
 obtain⟨vs,ha,hp,hvl⟩:=hrow.len;refine⟨_,(zd (yn (zG Yt (pv 0) zf (kae _)) (zi (zo (xm (zc (xH Zp rfl xq ZO (zc (pv 1) ze)) (zc zf ze))))) zK) (zd (zm (i:=2) Sv.nd rfl (.inr rfl) zf) (zd (yu PassesOwn.never rfl (zH (pv 1)) (zI (i:=3) Sv.nd rfl (.inl rfl)) (zi (zm (i:=2) Sv.nd rfl (.inr rfl) (zt yb (zt (yf hr (by decide) hP hS ⟨_,_,rfl,rfl,rfl,rfl,rfl⟩) (pv 2) (zp yK hr (zc (pv 2) (zc (zE zy (pv 3) zf) ze)))) (zE zy (pv 3) zf))))) (zi (zo (xm (zc (yR ["bottom"] [2] (zH (pv 1)) fun _ _ _ _ _ _=>⟨zO,(zt yb (zE zy (pv 0) zf) (zt (yf hr (by decide) hP hS ⟨_,_,rfl,rfl,rfl,rfl,rfl⟩) (pv 1) (zE zy (pv 0) zf)))⟩) (zc (pv 2) ze)))))))),?_⟩;refine⟨_,rfl,rfl,_,rfl,?_⟩;refine ite2 (fun c=>?_) (fun c=>?_)
 ·have k0:k≠0:=fun z=>by rw[z]at c;exact absurd c (by decide)
  obtain⟨is,rfl,rfl⟩:=zbl k0 ok hp;refine⟨_,rfl,a,_,rfl,.inl (SqL.of ha),fun l hl=>⟨(by show 2<=sizeLine;decide),fun p hp'=>?_⟩⟩;have n1:l≠p:=fun e=>by rw[e,zh]at hp';cases hp'
  refine q p _ ((zg hl _).trans (zg hp' _)) ⟨l,is,1,zh,?_,zgt k0 is,?_,fun w hw=>?_⟩
  ·show upd _ _ _ l=_;rw[zN n1];exact zh
  ·exact sm_one.mono (by omega)
  ·have o:=ok (.z w) (wm.mpr ⟨w,hw,rfl⟩);exact(Ji o.2.1 o.2.2 kl.2).mono b7
 ·have k0:k=0:=by
   by_cases z:k=0
   ·exact z
   ·exact absurd (by have h':¬ V.int k=V.int 0:=fun e=>z (V.int.inj e);rw[decide_eq_false h'];rfl) c
  subst k0;have isq:∀(i:Nat)(x:Nb),xs[i]?=some x->∃ r,x=.q r:=fun i x hx=>by
   have o:=ok x (wk hx);cases x with
   | q r=>exact⟨r,rfl⟩
   | z j=>exact absurd rfl o.1
  have dle:∀ b:Int,0<b->b ∣ (Dn:Int)->Sm B b:=fun b b0 hb=>by
   have:=was (by omega) hb;show b.natAbs<2^B;omega
  have parts:∀ r:Rat,.q r∈xs->Sm B r.num/\Sm B (r.den:Int)/\(r.den:Int) ∣ (Dn:Int):=fun r hr=>by
   obtain⟨h1,h2⟩:=La.dB.parts dn0 (hD _ hr);have dv:=La.dB.den_dvd dn0 (hD _ hr);refine⟨?_,dle _ (den_pos r) dv,dv⟩;show r.num.natAbs<2^B;have:0<2^B:=gu (by decide);omega
  refine⟨_,rfl,a,rfl,⟨_,SqL.of ha⟩,?_⟩;refine yP (xs:=vs) (fun i σ H'=>∃ b o,σ=[some (.int 0),some (.ref a),some (.int b),o]/\H'=H/\0<b/\(∀ x∈xs.take i,La.dvB b x)/\b ∣ (Dn:Int)) ⟨1,none,rfl,rfl,by decide,fun x hx=>by simp at hx,⟨_,(wbi _).symm⟩⟩ ?_ ?_ ?_
  ·rintro i σ H' _ ⟨b,o,rfl,rfl,_⟩
   exact SqL.of ha
  ·rintro i v σ H' hv ⟨b,o,rfl,rfl,b0,dv,bD⟩
   obtain⟨x,hx,rx⟩:=yh hp hv;obtain⟨r,rfl⟩:=isq i x hx;obtain⟨pa,rfl,hpa⟩:=rx.q;obtain⟨sn,sd,dD⟩:=parts r (wk hx);obtain⟨l1,l2,l3,l4⟩:=zhG b0 (den_pos r);have l5:=La.zjD b0 (den_pos r) bD dD;have sf:Sm B (b.fdiv ((vk b (r.den:Int):Nat):Int)):=zcW (dle b b0 bD) (gD _ _);refine⟨_,rfl,_,rfl,_,rfl,pa,_,_,_,rfl,rfl,SqT.of hpa,rfl,_,_,rfl,_,_,rfl,rfl,l4,?_⟩;refine⟨_,rfl,pa,_,_,_,rfl,rfl,SqT.of hpa,rfl,_,_,rfl,rfl,sf.mulOk sd (by omega),?_⟩;refine⟨_,_,rfl,rfl,l1,fun y hy=>?_,l5⟩;rw[zq hx]at hy
   rcases wu.mp hy with hy|hy
   ·have:=dv y hy;cases y with
    | q s=>exact wa2 (show(s.den:Int) ∣ b from this) l2
    | z j=>trivial
   ·rw[wD.mp hy];exact l3
  ·rintro σ H' ⟨b,o,rfl,rfl,b0,dv,bD⟩
   rw[hvl]at dv;rw[vK]at dv;have sb:=dle b b0 bD;refine⟨_,rfl,a,rfl,⟨_,SqL.of ha⟩,?_⟩;refine zQ (xs:=vs) (fun i ys H2=>H2=H'/\ys =((xs.take i).map (La.scW b)).map V.int) ⟨rfl,by simp⟩ ?_ ?_ ?_
   ·rintro i ys H2 hi ⟨rfl,rfl⟩
    refine⟨SqL.of ha,?_⟩;rw[we,we,wx];omega
   ·rintro i v ys H2 hv hi ⟨rfl,rfl⟩
    obtain⟨x,hx,rx⟩:=yh hp hv;obtain⟨r,rfl⟩:=isq i x hx;obtain⟨pa,rfl,hpa⟩:=rx.q;obtain⟨sn,sd,dD⟩:=parts r (wk hx);have dx:(r.den:Int) ∣ b:=dv _ (wk hx)
    first|refine gyes ?_|refine tyes ?_
    refine⟨_,rfl,pa,_,_,_,rfl,rfl,SqT.of hpa,rfl,_,rfl,_,rfl,pa,_,_,_,rfl,rfl,SqT.of hpa,rfl,_,_,rfl,rfl,js r,_,_,rfl,rfl,sn.mulOk (zcW sb dx) (by omega),nxt hi ⟨rfl,?_⟩⟩;rw[zq hx,wF,wF];rfl
   ·rintro ys H2 ⟨rfl,rfl⟩ l hl
    rw[hvl,vK]at *;refine⟨_,rfl,(by show 2<=sizeLine;decide),fun p hp'=>?_⟩;have n1:l≠p:=fun e=>by rw[e,zh]at hp';cases hp'
    refine q p _ ((zg hl _).trans (zg hp' _)) ⟨l,xs.map (La.scW b),b,zh,?_,⟨rfl,b0,fun z=>absurd rfl z,dv⟩,sb,fun w hw=>?_⟩
    ·show upd _ _ _ l=_;rw[zN n1];exact zh
    ·obtain⟨x,hx,rfl⟩:=wm.mp hw;exact La.zgS hk (ok x hx) b7 dn0 (hD x hx) b0 (dv x hx) fun _=>bD
def zch:Sp:=fun vs H Q _=>∃(k t b:Int),vs=[.int k,.int t,.int b]/\kab k/\nnum k b≠nnum k 0/\Sm 60000000 t/\Sm 60000000 b/\∀ v H',Same H H'->RN H' (ndiv k (nnum k t) (nnum k b)) v->Q v H'
theorem ziJ (D:Df K mg "quotient" SL ZC) (zkp:Kn P w K mg base "over" 42 SI zfL) (xf:Kn P w K mg base "number" 1 SH jA):Kn P w K mg base "quotient" 43 SL zch:=by
 refine D.kn zcx (fun vs H Q E h=>?_) (fun f cdv A outer s H vs Q E hr h=>?_)
 ·obtain⟨k,t,b,rfl,_⟩:=h;rfl
 obtain⟨k,t,b,rfl,hk,ne,st,sb,q⟩:=h;refine⟨_,(zi (zo (zp zkp hr (zc (pv 0) (zc (zp xf hr (zc (pv 0) (zc (pv 1) ze))) (zc (zp xf hr (zc (pv 0) (zc (pv 2) ze))) ze)))))),?_⟩;refine⟨_,rfl,_,rfl,_,rfl,k,t,rfl,fun v1 H1 g1 r1=>?_⟩;refine⟨_,rfl,_,rfl,k,b,rfl,fun v2 H2 g2 r2=>?_⟩;refine⟨k,_,_,v1,v2,rfl,⟨hk,La.ya hk t,La.ya hk b,ZV hk st (by decide),ZV hk sb (by decide),r1.mono g2,r2⟩,ne,fun v3 H3 g3 r3=>?_⟩;exact q v3 H3 ((g1.trans g2).trans g3) r3
def zay:Sp:=fun vs H Q _=>∃(k:Int)(ws:List Int)(a:Addr),vs=[.int k,.ref a]/\kab k/\IRow H ws a/\ws.length<sizeLine/\∀ p H',Same H H'->IRow H' (La.kap k ws) p->Q (.ref p) H'
theorem zhB (hP:P.given.tree=none) (hS:base.NoSeer) (D:Df K mg "eased" SM zaH) (yK:Kn P w K mg base "common_divisor" 1 SE zcH):Kn P w K mg base "eased" 41 SM zay:=by
 refine D.kn SA (fun vs H Q E h=>?_) (fun f cdv A outer s H vs Q E hr h=>?_)
 ·obtain⟨k,ws,a,rfl,_⟩:=h;rfl
 obtain⟨k,ws,a,rfl,hk,ha,hz,q⟩:=h;refine⟨_,(zd (yn (zG Yt (pv 0) zf (kae _)) (zi (zo (yR ["kind"] [0] (zH (pv 1)) fun _ _ _ _ _ _=>⟨zO,(zt zW (pv 0) (pv 1))⟩))) zK) (zd (zm (i:=2) SA.nd rfl (.inr rfl) zf) (zd (yu PassesOwn.never rfl (zH (pv 1)) (zI (i:=3) SA.nd rfl (.inl rfl)) (zd (zm (i:=2) SA.nd rfl (.inr rfl) (zp yK hr (zc (pv 2) (zc (pv 3) ze)))) (zi (yn (zG xp (pv 2) zf (kae _)) (zi (zo (pv 1))) zK)))) (zd (yn (zG xp (pv 2) zf (kae _)) (zi (zo (pv 1))) zK) (zi (zo (yR ["divisor"] [2] (zH (pv 1)) fun _ _ _ _ _ _=>⟨zO,(zt (yf hr (by decide) hP hS ⟨_,_,rfl,rfl,rfl,rfl,rfl⟩) (pv 0) (pv 1))⟩))))))),?_⟩;refine⟨_,rfl,rfl,_,rfl,?_⟩;refine ite2 (fun c=>?_) (fun c=>?_)
 ·have k0:k≠0:=fun z=>by rw[z]at c;exact absurd c (by decide)
  refine⟨_,rfl,a,rfl,⟨_,SqL.of ha⟩,?_⟩;refine zQ (xs:=ws.map V.int) (fun i ys H'=>H'=H/\ys =((ws.take i).map (·.fmod k)).map V.int) ⟨rfl,by simp⟩ ?_ ?_ ?_
  ·rintro i ys H' hi ⟨rfl,rfl⟩
   refine⟨SqL.of ha,?_⟩;rw[we,we,wx];omega
  ·rintro i v ys H' hv hi ⟨rfl,rfl⟩
   rw[wo]at hv;obtain⟨u,hu,rfl⟩:=wR.mp hv
   first|refine gyes ?_|refine tyes ?_
   refine⟨_,rfl,_,rfl,_,_,rfl,rfl,k0,nxt hi ⟨rfl,?_⟩⟩;rw[zq hu,wF,wF];rfl
  ·rintro ys H' ⟨rfl,rfl⟩ p hp
   rw[we,vK];refine q p _ (zg hp _) ?_;rw[La.zeg k0];exact zh
 ·have k0:k=0:=by
   by_cases z:k=0
   ·exact z
   ·exact absurd (by have h':¬ V.int k=V.int 0:=fun e=>z (V.int.inj e);rw[decide_eq_false h'];rfl) c
  subst k0;refine⟨_,rfl,a,rfl,⟨_,SqL.of ha⟩,?_⟩;refine yP (xs:=ws.map V.int) (fun i σ H'=>∃ o,σ=[some (.int 0),some (.ref a),some (.int ((La.gcdL (ws.take i):Nat):Int)),o]/\H'=H) ⟨none,rfl,rfl⟩ ?_ ?_ ?_
  ·rintro i σ H' _ ⟨o,rfl,rfl⟩
   exact SqL.of ha
  ·rintro i v σ H' hv ⟨o,rfl,rfl⟩
   rw[wo]at hv;obtain⟨u,hu,rfl⟩:=wR.mp hv;have eg:((vk ((La.gcdL (ws.take i):Nat):Int) u:Nat):Int) =((La.gcdL (ws.take (i+1)):Nat):Int):=by
    rw[zq hu,La.zgW,uJ,vS]
   refine⟨_,rfl,_,rfl,_,_,rfl,?_⟩;rw[eg];refine⟨_,rfl,rfl,_,rfl,?_⟩;refine ite2 (fun c1=>?_) (fun c1=>?_)
   ·have e1:((La.gcdL (ws.take (i+1)):Nat):Int)=1:=V.int.inj (of_decide_eq_true c1);refine⟨_,rfl,q a _ (Same.refl _) ?_⟩;rw[La.zeM (La.zhg (i:=i+1) (by omega))];exact ha
   ·exact⟨_,rfl,rfl⟩
  ·rintro σ H' ⟨o,rfl,rfl⟩
   rw[we,vK];refine⟨_,rfl,rfl,_,rfl,?_⟩;refine ite2 (fun c1=>?_) (fun c1=>?_)
   ·have e1:((La.gcdL ws:Nat):Int)=0:=V.int.inj (of_decide_eq_true c1);refine⟨_,rfl,q a _ (Same.refl _) ?_⟩;rw[La.zeo (by omega)];exact ha
   ·have e1:((La.gcdL ws:Nat):Int)≠0:=fun z=>by rw[z]at c1;exact c1 (by decide)
    refine⟨_,rfl,a,rfl,⟨_,SqL.of ha⟩,?_⟩;refine zQ (xs:=ws.map V.int) (fun i ys H2=>H2=H'/\ys =((ws.take i).map fun w=>w.fdiv ((La.gcdL ws:Nat):Int)).map V.int) ⟨rfl,by simp⟩ ?_ ?_ ?_
    ·rintro i ys H2 hi ⟨rfl,rfl⟩
     refine⟨SqL.of ha,?_⟩;rw[we,we,wx];omega
    ·rintro i v ys H2 hv hi ⟨rfl,rfl⟩
     rw[wo]at hv;obtain⟨u,hu,rfl⟩:=wR.mp hv
     first|refine gyes ?_|refine tyes ?_
     refine⟨_,rfl,_,rfl,_,_,rfl,rfl,e1,nxt hi ⟨rfl,?_⟩⟩;rw[zq hu,wF,wF];rfl
    ·rintro ys H2 ⟨rfl,rfl⟩ p hp
     rw[we,vK];refine q p _ (zg hp _) ?_;rw[La.zei (by omega)];exact zh
def Qq:Sp:=fun vs H Q _=>∃(k:Int)(row lead:List Int)(c:Nat)(ra la:Addr)(b:Nat),vs=[.int k,.ref ra,.ref la,.int (0 +(c:Int))]/\kab k/\IRow H row ra/\IRow H lead la/\row.length=lead.length/\c<row.length/\row.length<sizeLine/\(∀ w∈row,Sm b w)/\(∀ w∈lead,Sm b w)/\b<=60000000 /\
 ∀ p H',Same H H'->IRow H' (La.kag k lead c row) p->Q (.ref p) H'
theorem zeC (D:Df K mg "cleared" SN YH) (zc1:Kn P w K mg base "eased" 41 SM zay) (m_zip:mg "zip" = none):Kn P w K mg base "cleared" 42 SN Qq:=by
 refine D.kn zeq (fun vs H Q E h=>?_) (fun f cdv A outer s H vs Q E hr h=>?_)
 ·obtain⟨k,row,lead,c,ra,la,b,rfl,_⟩:=h;rfl
 obtain⟨k,row,lead,c,ra,la,b,rfl,hk,hra,hla,hl,hc,hz,s1,s2,hb,q⟩:=h;refine⟨_,(zd (yn (zG xp (zE zw (pv 1) (pv 3)) zf (kae _)) (zi (zo (pv 1))) zK) (zi (zo (zp zc1 hr (zc (pv 0) (zc (ZQ ["left", "right"] ["lead_row", "column", "row"] [2,3,1] ⟨rfl,rfl,rfl,rfl,rfl,rfl,by decide +kernel⟩ rfl (YZ rfl m_zip (zc (pv 1) (zc (pv 2) ze))) (ZD (yz (yB (by decide)) yy (yz (yB (by decide)) yy qh))) fun _ _ _ _ _ _=>⟨(jZ 2 rfl (yd (zI (i:=0) (by decide:(["left", "right", "lead_row", "column", "row"]:List Str).Nodup) rfl (by first|exact Or.inl rfl|exact Or.inr rfl)) (yd (zI (i:=1) (by decide:(["left", "right", "lead_row", "column", "row"]:List Str).Nodup) rfl (by first|exact Or.inl rfl|exact Or.inr rfl)) je))),zO,(zt qV (zt yb (zE zw (pv 2) (pv 3)) (pv 0)) (zt yb (zE zw (pv 4) (pv 3)) (pv 1)))⟩) ze)))))),?_⟩;refine⟨_,rfl,_,rfl,ra,_,_,_,rfl,rfl,SqL.of hra,Je hra hc,rfl,_,rfl,?_⟩;refine ite2 (fun c1=>?_) (fun c1=>?_)
 ·have e1:row.getD c 0=0:=V.int.inj (of_decide_eq_true c1);refine⟨_,rfl,q ra _ (Same.refl _) ?_⟩;unfold La.kag;rw[if_pos e1];exact hra
 ·have e1:row.getD c 0≠0:=fun z=>by rw[z]at c1;exact c1 (by decide)
  refine⟨_,rfl,_,rfl,_,rfl,ra,la,_,_,rfl,SqL.of hra,SqL.of hla,?_⟩;refine Zo (xs:=row.map V.int) (zs:=lead.map V.int) (by rw[we,we];omega) (fun i ys' H'=>Same H H'/\ys' =((La.mixed row lead c).take i).map V.int) ⟨Same.refl H,by simp⟩ ?_ ?_ ?_
  ·rintro i ys' H' hi ⟨g,rfl⟩
   refine⟨SqL.of (hra.mono g),SqL.of (hla.mono g),?_⟩;rw[we,wx,La.Za hl];omega
  ·rintro i x z T ys' H' hx hy hi hT ⟨g,rfl⟩
   rw[wo]at hx hy;obtain⟨u,hu,rfl⟩:=wR.mp hx;obtain⟨u',hu',rfl⟩:=wR.mp hy;have g':=g.trans (zg hT (.tup [.int u,.int u']));refine⟨T,_,rfl,SqT.of zh,rfl,_,_,rfl,_,_,rfl,rfl,?_⟩
   first|refine gyes ?_|refine tyes ?_
   refine⟨_,rfl,_,rfl,la,_,_,_,rfl,rfl,SqL.of (hla.mono g'),Je (hla.mono g') (by omega),_,rfl,_,_,rfl,rfl,(ZR s2 c).mulOk (s1 u (wk hu)) (by omega),?_⟩;refine⟨_,rfl,_,rfl,ra,_,_,_,rfl,rfl,SqL.of (hra.mono g'),Je (hra.mono g') (by omega),_,rfl,_,_,rfl,rfl,(ZR s1 c).mulOk (s2 u' (wk hu')) (by omega),_,_,rfl,rfl,nxt hi ⟨g',?_⟩⟩;have e:(La.mixed row lead c)[i]?=some (lead.getD c 0*u - row.getD c 0*u'):=by unfold La.mixed;rw[vP,hu,hu']
   rw[zq e,wF];rfl
  ·rintro ys' H' ⟨g,rfl⟩ pl hpl
   rw[we,wr (by rw[La.Za hl];exact ww _)];refine⟨k,_,pl,rfl,hk,zh,by rw[La.Za hl];exact hz,fun p H2 g2 hp=>?_⟩;refine q p H2 ((g.trans (zg hpl _)).trans g2) ?_;unfold La.kag;rw[if_neg e1];exact hp
def zd6:Sp:=fun vs H Q _=>∃(k:Int)(Ws:List (List Int))(n b:Nat)(t:Addr)(ras:List Addr),vs=[.int k,.ref t]/\kab k/\IRs H Ws t ras/\(∀ r∈Ws,r.length=n)/\n<sizeLine/\Ws.length<=8000000/\(∀ r∈Ws,∀ w∈r,Sm b w)/\61<=b/\(b+1)*2^n<=60000000 /\
 ∀ p rs H',Same H H'->IRs H' ((La.swTo k Ws n).1.map (·.2)) p rs->Q (.ref p) H'
theorem zhE (D:Df K mg "swept" SO zaf) (zc1:Kn P w K mg base "eased" 41 SM zay) (zbH:Kn P w K mg base "cleared" 42 SN Qq) (m_len:mg "len" = none) (zJ:mg "range" = none):Kn P w K mg base "swept" 43 SO zd6:=by
 refine D.kn Sz (fun vs H Q E h=>?_) (fun f cdv A outer s H vs Q E hr h=>?_)
 ·obtain⟨k,Ws,n,b,t,ras,rfl,_⟩:=h;rfl
 obtain⟨k,Ws,n,b,t,ras,rfl,hk,hI,hl,nz,wz,sz,b7,hb,q⟩:=h;have szl:=dN
 have lras:=zk hI.2;refine⟨_,(zd (zm (i:=2) Sz.nd rfl (.inl rfl) (yC ze)) (zd (Xn 3 Sz.nd ["kind"] [0] (zH (pv 1)) fun _ _ _ _ _ _=>⟨zO,(zp zc1 hr (zc (pv 1) (zc (pv 0) ze)))⟩) (zd (zm (i:=4) Sz.nd rfl (.inl rfl) (zhO (zG ZM (zD zL rfl m_len yi (zc (pv 1) ze)) zf (kae _)) (zD zL rfl m_len yi (zc (zE zw (pv 1) zf) ze)) zf)) (zd (yu PassesOwn.never rfl (zY rfl zJ (zc (pv 4) ze)) (zI (i:=5) Sz.nd rfl (.inr rfl)) (zd (Xn 6 Sz.nd ["column"] [5] (zH (pv 3)) fun _ _ _ _ _ _=>⟨(Xe (zG Yt (zE zw (pv 0) (pv 1)) zf (kae _))),(pv 0)⟩) (zi (yn (zG ZM (zD zL rfl m_len yi (zc (pv 6) ze)) zf (kae _)) (zd (zm (i:=7) Sz.nd rfl (.inr rfl) (zE zw (pv 6) zf)) (zd (Xn 3 Sz.nd ["column"] [5] (zH (pv 3)) fun _ _ _ _ _ _=>⟨(Xe (zG xp (zE zw (pv 0) (pv 1)) zf (kae _))),(pv 0)⟩) (zd (yU (bm0 (fun _ h=>ZL PySem.F.plainAttrs_list PySem.F.slot_list_extend PySem.F.type_list_extend zbE h (zc (yR ["kind", "lead_row", "column"] [0,7,5] (zH (jD qD (pv 6) (jy zf) Jo)) fun _ _ _ _ _ _=>⟨zO,(zp zbH hr (zc (pv 1) (zc (pv 0) (zc (pv 2) (zc (pv 3) ze)))))⟩) ze)) (pv 3))) (zd (Xn 2 Sz.nd ["kind", "lead_row", "column"] [0,7,5] (zH (pv 2)) fun _ _ _ _ _ _=>⟨zO,(zp zbH hr (zc (pv 1) (zc (pv 0) (zc (pv 2) (zc (pv 3) ze)))))⟩) (zi (yU (bm0 (fun _ h=>ZL PySem.F.plainAttrs_list PySem.F.slot_list_append PySem.F.type_list_append yE h (zc (pv 7) ze)) (pv 2)))))))) zK)))) (zi (zo (pv 2))))))),?_⟩;refine⟨(by show 0<=sizeLine;decide),fun pd hpd=>?_⟩;have g0:=zg hpd (.lst []);have hpd0:upd H pd (.lst []) pd=some (.lst []):=zh;generalize upd H pd (.lst [])=H0 at *;refine⟨_,rfl,t,rfl,⟨_,SqL.of (g0 _ _ hI.1)⟩,?_⟩;refine zQ (xs:=ras.map V.ref) (fun i ys H'=>∃ rs,ys=rs.map V.ref/\Same H0 H'/\Paired (IRow H') ((Ws.map (La.kap k)).take i) rs) ⟨[],rfl,Same.refl _,.nil⟩ ?_ ?_ ?_
 ·rintro i ys H' hi ⟨rs,rfl,g,pr⟩
  refine⟨SqL.of (g _ _ (g0 _ _ hI.1)),?_⟩;have:=zk pr;rw[wx,we]at this;rw[we];omega
 ·rintro i v ys H' hv hi ⟨rs,rfl,g,pr⟩
  obtain⟨ws,a,hw,ha,rfl,hrow⟩:=(hI.mono (g0.trans g)).row hv
  first|refine gyes ?_|refine tyes ?_
  refine⟨_,rfl,_,rfl,k,ws,a,rfl,hk,hrow,by rw[hl ws (wk hw)];exact nz,fun p H2 g2 hp=>nxt hi ⟨rs++[p],by rw[wF];rfl,g.trans g2,?_⟩⟩;have e:(Ws.map (La.kap k))[i]?=some (La.kap k ws):=by rw[wo,hw];rfl
  rw[zq e];exact yj (ZK g2 pr) hp
 rintro ys H' ⟨rs,rfl,g,pr⟩ pw hpw
 rw[we,wr (by rw[we];omega)]at pr;have g1:=(g0.trans g).trans (zg hpw (.lst (rs.map V.ref)));have hpw1:upd H' pw (.lst (rs.map V.ref)) pw=some (.lst (rs.map V.ref)):=zh;have pr1:=ZK (zg hpw (.lst (rs.map V.ref))) pr;have hpd1:=zg hpw (.lst (rs.map V.ref)) _ _ (g _ _ hpd0);generalize upd H' pw (.lst (rs.map V.ref))=H1 at *;clear g pr hpw g0 hpd0;refine⟨_,rfl,t,_,rfl,.inl (SqL.of (g1 _ _ hI.1)),_,_,rfl,rfl,_,rfl,?_⟩;rw[we,← lras];refine ite2 (fun c=>?_) (fun c=>?_)
 ·have c':0 <(Ws.length:Int):=of_decide_eq_true c;obtain⟨r0,ras',e0⟩ : ∃ r0 ras',ras=r0::ras':=by
   cases ras with
   | nil=>rw[Gw]at lras;omega
   | cons a b=>exact⟨a,b,rfl⟩
  obtain⟨w0,hw0,hr0⟩:=yh (hI.mono g1).2 (i:=0) (b:=r0) (by rw[e0];rfl);have lw0:=hl w0 (wk hw0);refine⟨_,rfl,t,_,_,_,rfl,rfl,SqL.of (g1 _ _ hI.1),(by rw[e0];exact zP (j:=0) rfl),r0,_,rfl,.inl (SqL.of hr0),?_⟩;rw[we,lw0];refine⟨_,rfl,_,rfl,(by omega),(by omega),?_⟩;rw[wW];have fine:=La.Fine.to (k:=k) hk.lt.1 hl;have szs:=zi0 hk b7 hl sz;have lens:=La.Yq (k:=k) Ws;refine yF (lo:=0) (n:=n) (fun i σ H'=>∃ td tw rd rw o5 o6 o7,σ=[some (.int k),some (.ref t),some (.ref td),some (.ref tw),some (.int (n:Int)),o5,o6,o7]/\Same H H'/\IRs H' ((La.swTo k Ws i).1.map (·.2)) td rd/\IRs H' (La.swTo k Ws i).2 tw rw) ⟨pd,pw,[],rs,none,none,none,rfl,g1,⟨hpd1,.nil⟩,⟨hpw1,pr1⟩⟩ ?_ ?_
  ·rintro i σ H2 hi ⟨td,tw,rd,rw',o5,o6,o7,rfl,g2,hD,hW⟩
   have fi:=fine i;have si:=szs i;have li:=lens i;have e1:La.swTo k Ws (i+1)=La.kar k i (La.swTo k Ws i):=rfl;rw[e1];generalize La.swTo k Ws i=S at *;obtain⟨Dn,Wt⟩:=S;have bnd:(b+1)*2^i - 1<=60000000:=by
    have:2^i<=2^n:=ve (by decide) (by omega);have:(b+1)*2^i<=(b+1)*2^n:=vg _ this;omega
   generalize (b+1)*2^i - 1=bb at *
   dsimp only at hD hW li
   have lD:=zk hD.2;have lW:=zk hW.2;rw[we]at lD;have wlen:∀ ws∈Wt,ws.length=n:=fi.wl;have dlen:∀ ws∈Dn.map (·.2),ws.length=n:=fun ws hw=>by
    obtain⟨p,hp,rfl⟩:=wm.mp hw;exact fi.dl p hp
   have nn:∀ ws:List Int,ws.length=n->ws≠[]:=fun ws h e=>by rw[e]at h;simp at h;omega
   refine⟨_,rfl,tw,rfl,⟨_,SqL.of hW.1⟩,?_⟩;refine zQ (xs:=rw'.map V.ref) (fun j ys H3=>H3=H2/\∃ rl,ys=rl.map V.ref/\Paired (IRow H2) ((Wt.take j).filter fun r=>decide (r.getD i 0≠0)) rl) ⟨rfl,[],rfl,.nil⟩ ?_ ?_ ?_
   ·rintro j ys H3 hj ⟨rfl,rl,rfl,prl⟩
    refine⟨SqL.of hW.1,?_⟩;have:=zk prl;have h2:=vW (fun r:List Int=>decide (r.getD i 0≠0)) (Wt.take j);rw[wx]at h2;rw[we];omega
   ·rintro j v ys H3 hv hj ⟨rfl,rl,rfl,prl⟩
    obtain⟨ws,a,hw,ha,rfl,hrow⟩:=hW.row hv;have lw:=wlen ws (wk hw);refine⟨_,rfl,_,rfl,a,_,_,_,rfl,rfl,SqL.of hrow,Je hrow (by omega),rfl,_,rfl,?_⟩;refine ite2 (fun c1=>?_) (fun c1=>?_)
    ·have z:ws.getD i 0≠0:=fun z=>by rw[z]at c1;exact absurd c1 (by decide)
     refine⟨_,rfl,nxt hj ⟨rfl,rl++[a],by rw[wF];rfl,?_⟩⟩;rw[La.xx _ hw,if_pos (decide_eq_true z)];exact yj prl hrow
    ·have z:ws.getD i 0=0:=by
      by_cases z:ws.getD i 0=0
      ·exact z
      ·exact absurd (by have h':¬ V.int (ws.getD i 0)=V.int 0:=fun e=>z (V.int.inj e);rw[decide_eq_false h'];rfl) c1
     refine nxt hj ⟨rfl,rl,rfl,?_⟩;rw[La.xx _ hw,if_neg (show ¬ decide (ws.getD i 0≠0)=true from fun h=>of_decide_eq_true h z),vH];exact prl
   rintro ys H3 ⟨rfl,rl,rfl,prl⟩ pl hpl
   rw[we,wr (by omega)]at prl;have g3:=zg hpl (.lst (rl.map V.ref));have hpl3:upd H3 pl (.lst (rl.map V.ref)) pl=some (.lst (rl.map V.ref)):=zh;have prl3:=ZK g3 prl;have hD3:=hD.mono g3;have hW3:=hW.mono g3;have g23:=g2.trans g3;generalize upd H3 pl (.lst (rl.map V.ref))=H4 at *;clear prl hpl hD hW;have lrl:=zk prl3;refine⟨_,rfl,pl,_,rfl,.inl (SqL.of hpl3),_,_,rfl,rfl,_,rfl,?_⟩;rw[we,← lrl];refine ite2 (fun c1=>?_) (fun c1=>?_)
   ·have c2:0 <((Wt.filter fun r=>decide (r.getD i 0≠0)).length:Int):=of_decide_eq_true c1;cases ef:Wt.filter (fun r=>decide (r.getD i 0≠0))with
    | nil=>rw[ef]at c2;simp at c2
    | cons lead rest =>
     rw[ef]at prl3 lrl;have turn:La.kar k i (Dn,Wt) =(Dn.map (fun p=>(p.1,La.kag k lead i p.2))++[(i,lead)],Wt.filter (fun r=>decide (r.getD i 0=0))++rest.map (La.kag k lead i)):=by
      unfold La.kar;simp only[ef]
     rw[turn];obtain⟨ld,rl',rfl⟩ : ∃ ld rl',rl=ld::rl':=by
      cases rl with
      | nil=>simp at lrl
      | cons a b=>exact⟨a,b,rfl⟩
     obtain⟨hld,prest⟩ : IRow H4 lead ld/\Paired (IRow H4) rest rl':=by
      cases prl3 with
      | cons h t=>exact⟨h,t⟩
     have memW:∀ r∈lead::rest,r∈Wt:=fun r hr=>by rw[← ef]at hr;exact(wX.mp hr).1
     have hlead:=memW lead wt;have llead:=wlen lead hlead;have slead:=si.2 lead hlead;have lf:=vW (fun r:List Int=>decide (r.getD i 0≠0)) Wt;rw[ef,vQ]at lf;refine⟨_,rfl,pl,_,_,_,rfl,rfl,SqL.of hpl3,zP (j:=0) rfl,?_⟩;refine⟨_,rfl,tw,rfl,⟨_,SqL.of hW3.1⟩,?_⟩;refine zQ (xs:=rw'.map V.ref) (fun j ys H5=>H5=H4/\∃ rz,ys=rz.map V.ref/\Paired (IRow H4) ((Wt.take j).filter fun r=>decide (r.getD i 0=0)) rz) ⟨rfl,[],rfl,.nil⟩ ?_ ?_ ?_
     ·rintro j ys H5 hj ⟨rfl,rz,rfl,prz⟩
      refine⟨SqL.of hW3.1,?_⟩;have:=zk prz;have h2:=vW (fun r:List Int=>decide (r.getD i 0=0)) (Wt.take j);rw[wx]at h2;rw[we];omega
     ·rintro j v ys H5 hv hj ⟨rfl,rz,rfl,prz⟩
      obtain⟨ws,a,hw,ha,rfl,hrow⟩:=hW3.row hv;have lw:=wlen ws (wk hw);refine⟨_,rfl,_,rfl,a,_,_,_,rfl,rfl,SqL.of hrow,Je hrow (by omega),rfl,_,rfl,?_⟩;refine ite2 (fun c1=>?_) (fun c1=>?_)
      ·have z:ws.getD i 0=0:=V.int.inj (of_decide_eq_true c1);refine⟨_,rfl,nxt hj ⟨rfl,rz++[a],by rw[wF];rfl,?_⟩⟩;rw[La.xx _ hw,if_pos (decide_eq_true z)];exact yj prz hrow
      ·have z:ws.getD i 0≠0:=fun z=>by rw[z]at c1;exact c1 (by decide)
       refine nxt hj ⟨rfl,rz,rfl,?_⟩;rw[La.xx _ hw,if_neg (show ¬ decide (ws.getD i 0=0)=true from fun h=>z (of_decide_eq_true h)),vH];exact prz
     rintro ys H5 ⟨rfl,rz,rfl,prz⟩ pz hpz
     rw[we,wr (by omega)]at prz;have g5:=zg hpz (.lst (rz.map V.ref));have hpz5:upd H5 pz (.lst (rz.map V.ref)) pz=some (.lst (rz.map V.ref)):=zh;have pzH:H pz=none:=g23.none hpz;have ntd:td≠pz:=fun e=>by rw[← e,hD3.1]at hpz;cases hpz
     have prz5:=ZK g5 prz;have prest5:=ZK g5 prest;have hld5:=hld.mono g5;have hD5:=hD3.mono g5;have hpl5:=g5 _ _ hpl3;have g25:=g23.trans g5;generalize upd H5 pz (.lst (rz.map V.ref))=H6 at *;clear prz hpz prest hld hD3 hpl3 g23 hW3 prl3 g3 g5 c1;have lrz:=zk prz5;have lfz:=vW (fun r:List Int=>decide (r.getD i 0=0)) Wt;have zlen:∀ ws∈Wt.filter (fun r=>decide (r.getD i 0=0)),ws.length=n:=fun ws hw=>wlen ws (wX.mp hw).1
     have lrest:=zk prest5;refine⟨_,rfl,.inl ⟨rfl,_,SqL.of hpz5⟩,_,rfl,_,rfl,pl,_,rfl,SqL.of hpl5,fun pc hpc=>?_⟩;rw[cut1];have g7:=zg hpc (.lst (((ld::rl').map V.ref).drop 1));have hpc7:upd H6 pc (.lst (((ld::rl').map V.ref).drop 1)) pc=some (.lst (rl'.map V.ref)):=zh;generalize upd H6 pc (.lst (((ld::rl').map V.ref).drop 1))=H7 at *;refine⟨pc,rfl,⟨_,SqL.of hpc7⟩,?_⟩;refine zQ (xs:=rl'.map V.ref) (fun j ys H8=>∃ rc,ys=rc.map V.ref/\Same H7 H8/\Paired (IRow H8) ((rest.map (La.kag k lead i)).take j) rc) ⟨[],rfl,Same.refl _,.nil⟩ ?_ ?_ ?_
     ·rintro j ys H8 hj ⟨rc,rfl,g8,prc⟩
      refine⟨SqL.of (g8 _ _ hpc7),?_⟩;have:=zk prc;rw[wx,we]at this;rw[we];omega
     ·rintro j v ys H8 hv hj ⟨rc,rfl,g8,prc⟩
      rw[wo]at hv;obtain⟨a,ha,rfl⟩:=wR.mp hv;obtain⟨ws,hw,hrow⟩:=yh prest5 ha;have hm:=memW ws (wv _ (wk hw));have lw:=wlen ws hm
      first|refine gyes ?_|refine tyes ?_
      refine⟨_,rfl,_,rfl,_,rfl,_,rfl,k,ws,lead,i,a,ld,bb,rfl,hk,hrow.mono (g7.trans g8),hld5.mono (g7.trans g8),by omega,by omega,by omega,si.2 ws hm,slead,bnd,fun p H9 g9 hp=>nxt hj ⟨rc++[p],by rw[wF];rfl,g8.trans g9,?_⟩⟩;have e:(rest.map (La.kag k lead i))[j]?=some (La.kag k lead i ws):=by rw[wo,hw];rfl
      rw[zq e];exact yj (ZK g9 prc) hp
     rintro ys H8 ⟨rc,rfl,g8,prc⟩ pe hpe
     rw[we,wr (by rw[we];omega)]at prc;have lrc:=zk prc;rw[we]at lrc;have g9:=(g7.trans g8).trans (zg hpe (.lst (rc.map V.ref)));have hpe9:upd H8 pe (.lst (rc.map V.ref)) pe=some (.lst (rc.map V.ref)):=zh;have prc9:=ZK (zg hpe (.lst (rc.map V.ref))) prc;generalize upd H8 pe (.lst (rc.map V.ref))=H9 at *;clear prc hpe g8 hpc7 hpc g7;have clen:∀ ws∈rest.map (La.kag k lead i),ws.length=n:=fun ws hw=>by
      obtain⟨x,hx,rfl⟩:=wm.mp hw;have hm:=wlen x (memW x (wv _ hx));rw[La.jG (by omega)];exact hm
     refine⟨pz,pe,_,_,rfl,rfl,g9 _ _ hpz5,hpe9,(by rw[we,we];omega),?_⟩;have hpz9:=g9 _ _ hpz5;have prz10:=qo (o:=.lst (rz.map V.ref++rc.map V.ref)) hpz9 (ZK g9 prz5) fun ws hw=>nn ws (zlen ws hw)
     have prc10:=qo (o:=.lst (rz.map V.ref++rc.map V.ref)) hpz9 prc9 fun ws hw=>nn ws (clen ws hw)
     have hld10:IRow (upd H9 pz (.lst (rz.map V.ref++rc.map V.ref))) lead ld:=by
      show upd H9 pz _ ld=_;rw[zN ((hld5.mono g9).ne (nn lead llead) hpz9)];exact hld5.mono g9
     have hW10:upd H9 pz (.lst (rz.map V.ref++rc.map V.ref)) pz=some (.lst ((rz++rc).map V.ref)):=by rw[zh,wF]
     have hD10:IRs (upd H9 pz (.lst (rz.map V.ref++rc.map V.ref))) (Dn.map (·.2)) td rd:=⟨by rw[zN ntd];exact g9 _ _ hD5.1,qo hpz9 (ZK g9 hD5.2) fun ws hw=>nn ws (dlen ws hw)⟩;have g10:Same H (upd H9 pz (.lst (rz.map V.ref++rc.map V.ref))):=yw (g25.trans g9) pzH;generalize upd H9 pz (.lst (rz.map V.ref++rc.map V.ref))=H10 at *;clear hpz9 hD5 hld5 prz5 prc9 hpe9 prest5 hpl5;refine⟨_,rfl,td,rfl,⟨_,SqL.of hD10.1⟩,?_⟩;refine zQ (xs:=rd.map V.ref) (fun j ys H11=>∃ rn,ys=rn.map V.ref/\Same H10 H11/\Paired (IRow H11) ((Dn.map fun p=>La.kag k lead i p.2).take j) rn) ⟨[],rfl,Same.refl _,.nil⟩ ?_ ?_ ?_
     ·rintro j ys H11 hj ⟨rn,rfl,g11,prn⟩
      refine⟨SqL.of (g11 _ _ hD10.1),?_⟩;have:=zk prn;rw[wx,we]at this;rw[we];omega
     ·rintro j v ys H11 hv hj ⟨rn,rfl,g11,prn⟩
      obtain⟨ws,a,hw,ha,rfl,hrow⟩:=(hD10.mono g11).row hv;rw[wo]at hw;obtain⟨p0,hp0,rfl⟩:=wR.mp hw;have hm:=wk hp0;have lw:=fi.dl p0 hm
      first|refine gyes ?_|refine tyes ?_
      refine⟨_,rfl,_,rfl,_,rfl,_,rfl,k,p0.2,lead,i,a,ld,bb,rfl,hk,hrow,hld10.mono g11,by omega,by omega,by omega,si.1 p0 hm,slead,bnd,fun p H12 g12 hp=>nxt hj ⟨rn++[p],by rw[wF];rfl,g11.trans g12,?_⟩⟩;have e:(Dn.map fun p=>La.kag k lead i p.2)[j]?=some (La.kag k lead i p0.2):=by rw[wo,hp0];rfl
      rw[zq e];exact yj (ZK g12 prn) hp
     rintro ys H11 ⟨rn,rfl,g11,prn⟩ pn hpn
     rw[we,wr (by rw[we];omega)]at prn;have lrn:=zk prn;rw[we]at lrn;have nlen:∀ ws∈Dn.map (fun p=>La.kag k lead i p.2),ws.length=n:=fun ws hw=>by
      obtain⟨x,hx,rfl⟩:=wm.mp hw;have hm:=fi.dl x hx;rw[La.jG (by omega)];exact hm
     have npz:pz≠pn:=fun e=>by rw[← e,g11 _ _ hW10]at hpn;cases hpn
     have pnH:H pn=none:=(g10.trans g11).none hpn;have g12:=zg hpn (.lst (rn.map V.ref));have hpn12:upd H11 pn (.lst (rn.map V.ref)) pn=some (.lst (rn.map V.ref)):=zh;have prn12:=ZK g12 prn;have prz12:=ZK (g11.trans g12) prz10;have prc12:=ZK (g11.trans g12) prc10;have hld12:=hld10.mono (g11.trans g12);have hW12:=(g11.trans g12) _ _ hW10;have gh12:=(g10.trans g11).trans g12;generalize upd H11 pn (.lst (rn.map V.ref))=H12 at *;refine⟨_,rfl,.inl ⟨rfl,_,SqL.of hpn12⟩,_,rfl,pn,_,_,rfl,rfl,hpn12,(by rw[we];omega),?_⟩;refine⟨pn,pz,rn++[ld],rz++rc,_,_,_,rfl,yw gh12 pnH,⟨?_,?_⟩,⟨?_,?_⟩⟩
     ·rw[zh,wF];rfl
     ·have e:(Dn.map (fun p=>(p.1,La.kag k lead i p.2))++[(i,lead)]).map (·.2) =(Dn.map fun p=>La.kag k lead i p.2)++[lead]:=by
       rw[wF,vF];rfl
      rw[e];refine yj (qo hpn12 prn12 fun ws hw=>nn ws (nlen ws hw)) ?_;show upd H12 pn _ ld=_;rw[zN (hld12.ne (nn lead llead) hpn12)];exact hld12
     ·rw[zN npz];exact hW12
     ·exact qU (qo hpn12 prz12 fun ws hw=>nn ws (zlen ws hw)) (qo hpn12 prc12 fun ws hw=>nn ws (clen ws hw))
   ·have c2:¬ 0 <((Wt.filter fun r=>decide (r.getD i 0≠0)).length:Int):=of_decide_eq_false (uE.mpr c1);have ef:Wt.filter (fun r=>decide (r.getD i 0≠0))=[]:=vx (by omega);have turn:La.kar k i (Dn,Wt) =(Dn,Wt):=by
     unfold La.kar;simp only[ef]
    rw[turn];exact⟨td,tw,rd,rw',_,_,_,rfl,g23,hD3,hW3⟩
  ·rintro σ H2 ⟨td,tw,rd,rw',o5,o6,o7,rfl,g2,hD,hW⟩
   exact⟨_,rfl,q td rd H2 g2 hD⟩
 ·have c':¬ 0 <(Ws.length:Int):=of_decide_eq_false (uE.mpr c);have ew:Ws=[]:=vx (by omega);refine⟨_,rfl,_,rfl,(by decide),(by decide),?_⟩;refine yF (lo:=0) (n:=(0:Int).toNat) (fun i σ H'=>∃ o5 o6 o7,σ=[some (.int k),some (.ref t),some (.ref pd),some (.ref pw),some (.int 0),o5,o6,o7]/\H'=H1) ⟨none,none,none,rfl,rfl⟩ ?_ ?_
  ·intro i σ H2 hi;exact absurd hi (vI i)
  ·rintro σ H2 ⟨o5,o6,o7,rfl,rfl⟩
   refine⟨_,rfl,q pd [] _ g1 ?_⟩;rw[ew,La.zdT];exact⟨hpd1,.nil⟩
def Xv:Sp:=fun vs H Q _=>∃(k:Int)(p:Nat)(ws:List Int)(a:Addr),vs=[.int k,.ref a]/\kab k/\IRow H ws a/\p<ws.length/\ws.getD p 0≠0/\(∀ j,j<p->ws.getD j 0=0)/\nnum k (ws.getD p 0)≠nnum k 0/\(∀ w∈ws,Sm 60000000 w)/\ws.length<sizeLine /\
 ∀ vs' a' H',Same H H'->H' a'=none->Paired (RN H') (La.overL k (p,ws)) vs'->Q (.ref a') (upd H' a' (.lst vs'))
theorem zcc (D:Df K mg "over_lead" SM qr) (Xm:Kn P w K mg base "quotient" 43 SL zch):Kn P w K mg base "over_lead" 44 SM Xv:=by
 refine D.kn Sj (fun vs H Q E h=>?_) (fun f cdv A outer s H vs Q E hr h=>?_)
 ·obtain⟨k,p,ws,a,rfl,_⟩:=h;rfl
 obtain⟨k,p,ws,a,rfl,hk,ha,hp,hn,hz,ne,sz,hl,q⟩:=h;refine⟨_,(zd (zm (i:=2) Sj.nd rfl (.inr rfl) (zE zw (yR [] [] (zH (pv 1)) fun _ _ _ _ _ _=>⟨(Xe (zG Yt (pv 0) zf (kae _))),(pv 0)⟩) zf)) (zi (zo (yR ["kind", "lead"] [0,2] (zH (pv 1)) fun _ _ _ _ _ _=>⟨zO,(zp Xm hr (zc (pv 1) (zc (pv 0) (zc (pv 2) ze))))⟩)))),?_⟩;refine⟨_,rfl,a,rfl,⟨_,SqL.of ha⟩,?_⟩;refine zQ (xs:=ws.map V.int) (fun i ys H'=>H'=H/\ys =((ws.take i).filter fun w=>decide (w≠0)).map V.int) ⟨rfl,by simp⟩ ?_ ?_ ?_
 ·rintro i ys H' hi ⟨rfl,rfl⟩
  refine⟨SqL.of ha,?_⟩;have h2:=vW (fun w:Int=>decide (w≠0)) (ws.take i);rw[wx]at h2;rw[we];omega
 ·rintro i v ys H' hv hi ⟨rfl,rfl⟩
  rw[wo]at hv;obtain⟨u,hu,rfl⟩:=wR.mp hv;refine⟨_,rfl,rfl,_,rfl,?_⟩;refine ite2 (fun c1=>?_) (fun c1=>?_)
  ·have z:u≠0:=fun z=>by rw[z]at c1;exact absurd c1 (by decide)
   refine⟨_,rfl,nxt hi ⟨rfl,?_⟩⟩;rw[La.xx _ hu,if_pos (decide_eq_true z),wF];rfl
  ·have z:u=0:=by
    by_cases z:u=0
    ·exact z
    ·exact absurd (by have h':¬ V.int u=V.int 0:=fun e=>z (V.int.inj e);rw[decide_eq_false h'];rfl) c1
   refine nxt hi ⟨rfl,?_⟩;rw[La.xx _ hu,if_neg (show ¬ decide (u≠0)=true from fun h=>of_decide_eq_true h z),vH]
 rintro ys H' ⟨rfl,rfl⟩ pf hpf
 rw[we,vK];have g1:=zg hpf (.lst ((ws.filter fun w=>decide (w≠0)).map V.int));refine⟨pf,_,_,_,rfl,rfl,SqL.of zh,zP (j:=0) (by rw[wo,La.zhQ hp hz hn];rfl),?_⟩;have ha1:=ha.mono g1;generalize upd H' pf (.lst ((ws.filter fun w=>decide (w≠0)).map V.int))=H1 at *;refine⟨_,rfl,a,rfl,⟨_,SqL.of ha1⟩,?_⟩;refine zQ (xs:=ws.map V.int) (fun i ys H2=>Same H1 H2/\Paired (RN H2) ((La.overL k (p,ws)).take i) ys) ⟨Same.refl _,.nil⟩ ?_ ?_ ?_
 ·rintro i ys H2 hi ⟨g2,pr⟩
  refine⟨SqL.of (ha1.mono g2),?_⟩;have:=zk pr;unfold La.overL at this;rw[wx,we]at this;rw[we]at hi;show ys.length<sizeLine;have e:(p,ws).2=ws:=rfl;rw[e]at this;omega
 ·rintro i v ys H2 hv hi ⟨g2,pr⟩
  rw[wo]at hv;obtain⟨u,hu,rfl⟩:=wR.mp hv
  first|refine gyes ?_|refine tyes ?_
  refine⟨_,rfl,_,rfl,_,rfl,k,u,ws.getD p 0,rfl,hk,ne,sz u (wk hu),ZR sz p,fun v3 H3 g3 r3=>nxt hi ⟨g2.trans g3,?_⟩⟩;have e:(La.overL k (p,ws))[i]?=some (ndiv k (nnum k u) (nnum k (ws.getD p 0))):=by unfold La.overL;rw[wo];show Option.map _ ws[i]?=_;rw[hu];rfl
  rw[zq e];exact yj (jC g3 pr) r3
 ·rintro ys H2 ⟨g2,pr⟩ a' ha'
  rw[we,wr (by unfold La.overL;rw[we];exact ww _)]at pr;exact q ys a' H2 (g1.trans g2) ha' pr
def qg:Sp:=fun vs H Q _=>∃(k:Int)(M:Tb)(n B:Nat)(t:Addr)(ras:List Addr),vs=[.int k,.ref t]/\kab k/\kaf H M t ras/\La.OkM k n M/\La.kak B M/\61<=B/\(B+1)*2^n<=60000000/\n<sizeLine/\M.length<=8000000 /\
 ∀ R ls top rs H',Same H H'->NewT H H' R top rs->(∀(F:Type) [Lean.Grind.Field F] (φ:La.Kf k F),La.kaq φ n M R ls)->R.length<=M.length->Q (.ref top) H'
theorem zes (D:Df K mg "reduced" SO YD) (jm:Kn P w K mg base "scaled" 41 SK JJ) (zjq:Kn P w K mg base "swept" 43 SO zd6) (zcq:Kn P w K mg base "over_lead" 44 SM Xv):Kn P w K mg base "reduced" 45 SO qg:=by
 refine D.kn So (fun vs H Q E h=>?_) (fun f cdv A outer s H vs Q E hr h=>?_)
 ·obtain⟨k,M,n,B,t,ras,rfl,_⟩:=h;rfl
 obtain⟨k,M,n,B,t,ras,rfl,hk,hT,oM,sM,b2,hb,nz,mz,q⟩:=h;have lras:=zk hT.2;have szl:=dN
 have b1:B<=60000000/\(B+1)*2^n - 1<=60000000:=by
  have h1:1<=2^n:=uP;have h2:(B+1)*1<=(B+1)*2^n:=vg _ h1;omega
 refine⟨_,(zd (Xn 2 So.nd ["kind"] [0] (zH (pv 1)) fun _ _ _ _ _ _=>⟨zO,(zE zy (zp jm hr (zc (pv 1) (zc (pv 0) ze))) zf)⟩) (zi (zo (yR ["kind"] [0] (zH (zp zjq hr (zc (pv 0) (zc (pv 2) ze)))) fun _ _ _ _ _ _=>⟨zO,(zp zcq hr (zc (pv 1) (zc (pv 0) ze)))⟩)))),?_⟩;refine⟨_,rfl,t,rfl,⟨_,SqL.of hT.1⟩,?_⟩;refine zQ (xs:=ras.map V.ref) (fun i ys H'=>∃ Ws rl,ys=rl.map V.ref/\Same H H'/\Paired (IRow H') Ws rl/\Paired (fun xs ws=>(∃ b,La.Scl k xs ws b)/\∀ w∈ws,Sm (B) w) (M.take i) Ws) ⟨[],[],rfl,Same.refl _,.nil,.nil⟩ ?_ ?_ ?_
 ·rintro i ys H' hi ⟨Ws,rl,rfl,g,pr,ps⟩
  refine⟨SqL.of (g _ _ hT.1),?_⟩;have h1:=zk pr;have h2:=zk ps;rw[wx]at h2;rw[we];omega
 ·rintro i v ys H' hv hi ⟨Ws,rl,rfl,g,pr,ps⟩
  obtain⟨xs,a,hx,ha,rfl,hrow⟩:=(hT.mono g).row hv;obtain⟨lx,ox⟩:=oM xs (wk hx)
  first|refine gyes ?_|refine tyes ?_
  refine⟨_,rfl,_,rfl,k,xs,a,B,rfl,hk,hrow,ox,sM xs (wk hx),b2,b1.1,by omega,fun p H2 g2 sc=>?_⟩;obtain⟨l,ws,b,hp,hl,sc,sb,sw⟩:=sc;refine⟨p,_,_,_,rfl,rfl,SqT.of hp,rfl,nxt hi ⟨Ws++[ws],rl++[l],by rw[wF];rfl,g.trans g2,yj (ZK g2 pr) hl,?_⟩⟩;rw[zq hx];exact yj ps ⟨⟨b,sc⟩,sw⟩
 rintro ys H' ⟨Ws,rl,rfl,g,pr,ps⟩ pw hpw
 rw[we,wr (by omega)]at ps;have lps:=zk ps;have g1:=g.trans (zg hpw (.lst (rl.map V.ref)));have hpw1:upd H' pw (.lst (rl.map V.ref)) pw=some (.lst (rl.map V.ref)):=zh;have pr1:=ZK (zg hpw (.lst (rl.map V.ref))) pr;generalize upd H' pw (.lst (rl.map V.ref))=H1 at *;have wl:∀ r∈Ws,r.length=n:=fun r hr=>by
  obtain⟨xs,hx,⟨b,sc⟩,_⟩:=Ym ps hr;rw[sc.len,(oM xs hx).1]
 have ws':∀ r∈Ws,∀ w∈r,Sm (B) w:=fun r hr=>by
  obtain⟨xs,hx,_,h⟩:=Ym ps hr;exact h
 refine⟨_,rfl,_,rfl,k,Ws,n,B,pw,rl,rfl,hk,⟨hpw1,pr1⟩,wl,nz,by omega,ws',b2,hb,fun pp rs H2 g2 hI=>?_⟩;refine⟨pp,rfl,⟨_,SqL.of hI.1⟩,?_⟩;have red:∀(F:Type) [Lean.Grind.Field F] (φ:La.Kf k F),La.kaq φ n M (La.redM k n Ws) (La.leadsM k n Ws):=fun F _ φ=>La.JA φ hk oM lps.symm fun i r ws h1 h2=>(ju ps h1 h2).1
 have fine:=La.Fine.to (k:=k) hk.lt.1 wl n;have szs:=zi0 hk b2 wl ws' n;have lens:=La.Yq (k:=k) Ws n;obtain⟨F0,i0,d0,⟨φ0⟩⟩:=La.ye hk;have lead:∀ p∈(La.swTo k Ws n).1,p.1<n/\p.2.length=n/\p.2.getD p.1 0≠0/\(∀ j,j<p.1->p.2.getD j 0=0)/\nnum k (p.2.getD p.1 0)≠nnum k 0:=fun p hp=>by
  obtain⟨h1,h2,h3,h4⟩:=La.ZE φ0 hk.lt.1 wl hp;refine⟨h1,h2,h3,h4,La.zal φ0 fun z=>h3 ?_⟩;exact(La.JP φ0 (fine.df p hp) p.1).mp z
 generalize hS:(La.swTo k Ws n).1=Dn at *;have lrs:=zk hI.2;rw[we]at lrs;have eR:La.redM k n Ws=Dn.map (La.overL k):=by unfold La.redM;rw[hS]
 refine zQ (xs:=rs.map V.ref) (fun i ys H3=>∃ ras2,ys=ras2.map V.ref/\Grow H2 H3 ((La.redM k n Ws).take i) ras2) ⟨[],rfl,Grow.nil H2 (Same.refl H2)⟩ ?_ ?_ ?_
 ·rintro i ys H3 hi ⟨ras2,rfl,G⟩
  refine⟨SqL.of (G.same _ _ hI.1),?_⟩;have:=zk G.rows;rw[wx,eR,we]at this;rw[we];omega
 ·rintro i v ys H3 hv hi ⟨ras2,rfl,G⟩
  obtain⟨ws,a,hw,ha,rfl,hrow⟩:=(hI.mono G.same).row hv;rw[wo]at hw;obtain⟨p,hp,rfl⟩:=wR.mp hw;have hm:=wk hp;obtain⟨l1,l2,l3,l4,l5⟩:=lead p hm
  first|refine gyes ?_|refine tyes ?_
  refine⟨_,rfl,_,rfl,k,p.1,p.2,a,rfl,hk,hrow,by omega,l3,l4,l5,fun w hw=>(szs.1 p (by rw[hS];exact hm) w hw).mono (by omega),by omega,fun vs' a' H4 g4 ha' pr4=>nxt hi ⟨ras2++[a'],by rw[wF];rfl,?_⟩⟩;have e:(La.redM k n Ws)[i]?=some (La.overL k (p.1,p.2)):=by rw[eR,wo,hp];rfl
  rw[zq e];exact(G.mono g4).snoc ha' pr4
 rintro ys H3 ⟨ras2,rfl,G⟩ top ht
 rw[we,wr (by rw[eR,we];omega)]at G;have N:=G.done ht;refine q (La.redM k n Ws) (La.leadsM k n Ws) top ras2 _ ((g1.trans g2).trans (G.same.trans (zg ht _))) ⟨N.tab,(g1.trans g2).none N.ft,fun r hr=>(g1.trans g2).none (N.fr r hr),N.nd,N.nt⟩ red (by rw[eR,we];omega)
def zcu:Sp:=fun vs H Q _=>∃(k:Int)(xs:List Nb)(a:Addr)(l:Nat)(x:Nb),vs=[.int k,.ref a]/\kas H xs a/\(∀ j,j<l->xs[j]?=some (nnum k 0))/\xs[l]?=some x/\x≠nnum k 0/\∀ H',Same H H'->Q (.int (l:Int)) H'
theorem zjB (D:Df K mg "lead_of" SK Yh) (xf:Kn P w K mg base "number" 1 SH jA):Kn P w K mg base "lead_of" 2 SK zcu:=by
 refine D.kn Sr (fun vs H Q E h=>?_) (fun f cdv A outer s H vs Q E hr h=>?_)
 ·obtain⟨k,xs,a,l,x,rfl,_⟩:=h;rfl
 obtain⟨k,xs,a,l,x,rfl,ha,hz,hl,ne,q⟩:=h;refine⟨_,(zd (zm (i:=2) Sr.nd rfl (.inl rfl) (zp xf hr (zc (pv 0) (zc zf ze)))) (zd (zm (i:=3) Sr.nd rfl (.inl rfl) zf) (zd (qS PassesOwn.never (zG (zdM hr) (zE zw (pv 1) (pv 3)) (pv 2) (kae _)) (zi (zko (i:=3) Sr.nd rfl (.inl rfl) zf zjR))) (zi (zo (pv 3)))))),?_⟩;refine⟨_,rfl,k,0,rfl,fun v0 H1 g1 r1=>?_⟩;obtain⟨us,hu,pu,lu⟩:=(ha.mono g1).len;refine⟨fun m σ H'=>∃ p:Nat,σ=[some (.int k),some (.ref a),some v0,some (.int (p:Int))]/\H'=H1/\p<=l/\m=l - p,⟨_,0,rfl,rfl,vC _,rfl⟩,?_⟩
 rintro m σ H' ⟨p,rfl,rfl,pl,rfl⟩
 rcases wO p l with h|h
 ·obtain⟨u,eu,ru⟩:=yH pu (hz p h);refine⟨_,rfl,_,rfl,a,_,_,_,rfl,rfl,SqL.of hu,zP eu,_,rfl,toD (nnum k 0),toD (nnum k 0),ru,r1,jz _,jz _,wI (vJ _ _) (wI (qi _) (by decide)),_,rfl,?_⟩;rw[zd5];refine iteT ⟨_,fun _ _ h=>h,?_⟩;exact⟨_,rfl,_,_,rfl,rfl,_,by omega,p+1,rfl,rfl,by omega,rfl⟩
 ·have e:p=l:=by omega
  subst e;obtain⟨u,eu,ru⟩:=yH pu hl;refine⟨_,rfl,_,rfl,a,_,_,_,rfl,rfl,SqL.of hu,zP eu,_,rfl,toD x,toD (nnum k 0),ru,r1,jz _,jz _,wI (vJ _ _) (wI (qi _) (by decide)),_,rfl,?_⟩;rw[ZX,decide_eq_false ne];refine iteF ?_;exact⟨_,rfl,q _ g1⟩
def QO:Sp:=fun vs H Q _=>∃(k:Int)(n:Nat),vs=[.int k,.int (n:Int)]/\n<=1000/\∀ v0 pt H',Same H H'->RN H' (nnum k 0) v0->H' pt=some (.lst (wN n v0))->H pt=none->Q (.ref pt) H'
theorem zeW (D:Df K mg "noughts" SQ Yl) (xf:Kn P w K mg base "number" 1 SH jA):Kn P w K mg base "noughts" 2 SQ QO:=by
 refine D.kn zez (fun vs H Q E h=>?_) (fun f cdv A outer s H vs Q E hr h=>?_)
 ·obtain⟨k,n,rfl,_⟩:=h;rfl
 obtain⟨k,n,rfl,hn,q⟩:=h;have szl:=dN
 refine⟨_,(zi (zo (zt zj0 (yC (zc (zp xf hr (zc (pv 0) (zc zf ze))) ze)) (pv 1)))),?_⟩;refine⟨_,rfl,k,0,rfl,fun v0 H1 g1 rv0=>⟨(by show 1<=sizeLine;decide),fun p1 hp1=>?_⟩⟩;refine⟨_,rfl,p1,_,_,rfl,rfl,zh,(by omega),(by omega),(by show 1 *(n:Int).toNat<=sizeLine;omega),fun pt hpt=>?_⟩;rw[zfA,wW];exact q v0 pt _ ((g1.trans (zg hp1 (.lst [v0]))).trans (zg hpt (.lst (wN n v0)))) ((rv0.mono (zg hp1 (.lst [v0]))).mono (zg hpt (.lst (wN n v0)))) zh ((g1.trans (zg hp1 (.lst [v0]))).none hpt)
def Zc:Sp:=fun vs H Q _=>∃(k:Int)(A B:Tb)(n C:Nat)(t1 t2:Addr)(r1 r2:List Addr),vs=[.int k,.ref t1,.ref t2]/\kab k/\kaf H A t1 r1/\kaf H B t2 r2/\La.OkM k n A/\La.OkM k n B/\La.kak C A/\La.kak C B/\61<=C/\(C+1)*2^n<=60000000/\n<=64/\A.length<=1000/\B.length<=1000 /\
 ∀ R ls top rs H',Same H H'->NewT H H' R top rs->(∀(F:Type) [Lean.Grind.Field F] (φ:La.Kf k F),La.kaq φ n (A++B) R ls)->Q (.ref top) H'
theorem zfJ (D:Df K mg "joined" SI XT) (jc:Kn P w K mg base "reduced" 45 SO qg):Kn P w K mg base "joined" 46 SI Zc:=by
 refine D.kn ze2 (fun vs H Q E h=>?_) (fun f cdv A' outer s H vs Q E hr h=>?_)
 ·obtain⟨k,A,B,n,C,t1,t2,r1,r2,rfl,_⟩:=h;rfl
 obtain⟨k,A,B,n,C,t1,t2,r1,r2,rfl,hk,hA,hB,oA,oB,cA,cB,c7,hc,n64,lA,lB,q⟩:=h;have szl:=dN
 have l1:=zk hA.2;have l2:=zk hB.2;refine⟨_,(zi (zo (zp jc hr (zc (pv 0) (zc (zt ZN (pv 1) (pv 2)) ze))))),?_⟩;refine⟨_,rfl,_,rfl,_,rfl,t1,t2,_,_,rfl,rfl,hA.1,hB.1,(by rw[we,we];omega),fun p hp=>?_⟩;have g:=zg hp (.lst (r1.map V.ref++r2.map V.ref));have T:kaf (upd H p (.lst (r1.map V.ref++r2.map V.ref))) (A++B) p (r1++r2):=⟨by rw[zh,wF],qU (hA.mono g).2 (hB.mono g).2⟩;generalize upd H p (.lst (r1.map V.ref++r2.map V.ref))=H1 at *;refine⟨k,A++B,n,C,p,r1++r2,rfl,hk,T,(fun r hr=>(wu.mp hr).elim (oA r) (oB r)),cA.app cB,c7,hc,by omega,(by rw[wy];omega),fun R ls top rs H2 g2 nt red _=>?_⟩;exact q R ls top rs H2 (g.trans g2) ⟨nt.tab,g.none nt.ft,fun r hr=>g.none (nt.fr r hr),nt.nd,nt.nt⟩ red
def zgk:Sp:=fun vs H Q _=>∃(k:Int)(n:Nat)(R:Tb)(ls:List Nat)(f:Nat)(fI:Int)(t:Addr)(rs:List Addr),vs=[.int k,.int (n:Int),.ref t,.int fI]/\fI =(f:Int)/\kab k/\kaf H R t rs/\IsRa k n R ls/\f<n/\f∉ls/\n<=64/\(∀ r∈R,∀ x∈r,nsm 60000000 x) /\
 ∀ xs p H',Same H H'->NewR H H' xs p->La.AgR k n R ls f xs->Q (.ref p) H'
theorem ziL (D:Df K mg "against_by" SR jM) (zgj:Kn P w K mg base "noughts" 2 SQ QO) (xf:Kn P w K mg base "number" 1 SH jA) (JC:Kn P w K mg base "lead_of" 2 SK zcu) (zi2:Kn P w K mg base "minus" 42 SI (Ze nsub)):Kn P w K mg base "against_by" 43 SR zgk:=by
 refine D.kn Sb (fun vs H Q E h=>?_) (fun f' cdv A' outer s H vs Q E hr h=>?_)
 ·obtain⟨k,n,R,ls,f,fI,t,rs,rfl,_⟩:=h;rfl
 obtain⟨k,n,R,ls,f,fI,t,rs,rfl,rfl,hk,hT,isR,hf,nf,n64,sR,q⟩:=h;have szl:=dN
 obtain⟨oR,lls,inc,llt⟩:=yl hk isR;have nd:ls.Nodup:=inc.imp fun h=>wY h
 obtain⟨F0,i0,d0,⟨φ0⟩⟩:=La.ye hk;refine⟨_,(zd (zm (i:=4) Sb.nd rfl (.inl rfl) (zp zgj hr (zc (pv 0) (zc (pv 1) ze)))) (zd (qk (zp xf hr (zc (pv 0) (zc zf ze))) (Xy (pv 4) (pv 3) jO)) (zd (yu PassesOwn.never rfl (zH (pv 2)) (zI (i:=5) Sb.nd rfl (.inl rfl)) (zi (qk (zp zi2 hr (zc (pv 0) (zc (zp xf hr (zc (pv 0) (zc zf ze))) (zc (zE zw (pv 5) (pv 3)) ze)))) (Xy (pv 4) (zp JC hr (zc (pv 0) (zc (pv 5) ze))) jO)))) (zi (zo (pv 4)))))),?_⟩;refine⟨_,rfl,_,rfl,k,n,rfl,(by omega),fun v0 pt H2 g2 rv2 hpt2 ptH=>?_⟩;refine⟨_,rfl,k,1,rfl,fun v1 H3 g3 rv1=>?_⟩;have hpt3:=g3 _ _ hpt2;refine⟨_,rfl,_,rfl,pt,_,_,f,rfl,rfl,hpt3,ZT (by rw[vt];exact hf),?_⟩;have g4:Same H (upd H3 pt (.lst ((wN n v0).set f v1))):=yw (g2.trans g3) ptH;have pr4:=Jn (zs':=(wN n v0).set f v1) hpt3 (za4 (zg3 (rv2.mono g3) n) f rv1);have hpt4:upd H3 pt (.lst ((wN n v0).set f v1)) pt=some (.lst ((wN n v0).set f v1)):=zh;generalize upd H3 pt (.lst ((wN n v0).set f v1))=H4 at *;have T4:=hT.mono g4;have npt:pt∉rs:=jt hT ptH;have ntop:t≠pt:=fun e=>by rw[← e,hT.1]at ptH;cases ptH
 have lrs:=zk hT.2;refine⟨_,rfl,t,rfl,⟨_,SqL.of T4.1⟩,?_⟩;refine yP (xs:=rs.map V.ref) (fun i σ H'=>∃ x us o5,σ=[some (.int k),some (.int (n:Int)),some (.ref t),some (.int (f:Int)),some (.ref pt),o5]/\Same H H'/\H' pt=some (.lst us)/\Paired (RN H') x us/\AgI k n R ls f i x) ⟨_,_,none,rfl,g4,hpt4,pr4,AgI.start hk hf R ls⟩ ?_ ?_ ?_
 ·rintro i σ H' _ ⟨x,us,o5,rfl,g,_⟩
  exact SqL.of (g _ _ hT.1)
 ·rintro i v σ H5 hv ⟨x,us,o5,rfl,g5,hpt5,px,tI⟩
  obtain⟨row,a,hrow,ha,rfl,hR⟩:=(hT.mono g5).row hv;have iR:i<R.length:=(wq.mp hrow).1;obtain⟨l,hl⟩ : ∃ l,ls[i]?=some l:=⟨ls[i]'(by omega),wg (by omega)⟩;obtain⟨ln,lz,l1⟩:=zcs hk (isR F0 φ0) hrow hl;have orow:=oR row (wk hrow);have hfr:f<row.length:=by rw[orow.1];exact hf
  refine⟨_,rfl,_,rfl,k,0,rfl,fun v2 H6 g6 rv2'=>?_⟩;obtain⟨us6,hu6,pu6,lu6⟩:=(hR.mono g6).len;obtain⟨vy,ey,ry⟩:=yH pu6 (wg hfr);refine⟨_,rfl,_,rfl,a,_,_,_,rfl,rfl,SqL.of hu6,zP ey,k,_,_,v2,vy,rfl,⟨hk,La.ya hk 0,orow.2 _ (wp hfr),(ZV hk (ZZ 61) (by decide)).mono (by decide),sR row (wk hrow) _ (wp hfr),rv2',ry⟩,fun v7 H7 g7 rv7=>?_⟩;refine⟨_,rfl,_,rfl,_,rfl,k,row,a,l,_,rfl,(hR.mono g6).mono g7,lz,l1,num01 hk,fun H8 g8=>?_⟩;have g58:=(g6.trans g7).trans g8;have hpt8:=g58 _ _ hpt5;have lus:=zk px;refine⟨pt,_,_,l,rfl,rfl,hpt8,ZT (by rw[← lus,tI.len];exact ln),?_⟩;exact⟨_,_,_,rfl,yw (g5.trans g58) ptH,zh,Jn hpt8 (za4 (jC g58 px) l (rv7.mono g8)),tI.step hk nd nf hl hrow (wg hfr) (orow.2 _ (wp hfr)) ln⟩
 ·rintro σ H5 ⟨x,us,o5,rfl,g5,hpt5,px,tI⟩
  rw[we,← lrs]at tI;exact⟨_,rfl,q x pt H5 g5 ⟨⟨us,hpt5,px⟩,ptH⟩ (tI.done lls)⟩
def YS:Sp:=fun vs H Q _=>∃(k:Int)(n:Nat)(W:Tb)(lw:List Nat)(C:Nat)(t:Addr)(ras:List Addr),vs=[.int k,.int (n:Int),.ref t]/\kab k/\kaf H W t ras/\IsRa k n W lw/\La.kak C W/\61<=C/\1<=n/\n<=64/\(n*C+1)*2^n<=60000000 /\
 ∀ A la top rs H',Same H H'->NewT H H' A top rs->IsRa k n A la->(∀(F:Type) [Lean.Grind.Field F] (φ:La.Kf k F) (v:Nat->F),La.Rm φ A v↔La.perp n (La.Rm φ W) v)->Q (.ref top) H'
theorem zkv{C n:Nat}(h:(n*C+1)*2^n<=60000000)(n1:1<=n):(C+1)*2^n<=60000000/\C<=60000000:=by
 have h1:C+1<=n*C+1:=by have:1*C<=n*C:=wU _ n1;omega
 have h2:(C+1)*2^n<=(n*C+1)*2^n:=wU _ h1;have h3:(C+1)*1<=(C+1)*2^n:=vg _ uP;omega
theorem zev (D:Df K mg "against" SS Yd) (jc:Kn P w K mg base "reduced" 45 SO qg) (JC:Kn P w K mg base "lead_of" 2 SK zcu) (zb1:Kn P w K mg base "against_by" 43 SR zgk) (zJ:mg "range" = none):Kn P w K mg base "against" 46 SS YS:=by
 refine D.kn Sn (fun vs H Q E h=>?_) (fun f cdv A' outer s H vs Q E hr h=>?_)
 ·obtain⟨k,n,W,lw,C,t,ras,rfl,_⟩:=h;rfl
 obtain⟨k,n,W,lw,C,t,ras,rfl,hk,hT,isW,cW,c7,n1,n64,hc,q⟩:=h;have szl:=dN
 obtain⟨oW,_,_,_⟩:=yl hk isW;have lW:=yN hk isW;obtain⟨hc1,hc2⟩:=zkv hc n1;refine⟨_,(zd (zm (i:=3) Sn.nd rfl (.inr rfl) (zp jc hr (zc (pv 0) (zc (pv 2) ze)))) (zd (zm (i:=4) Sn.nd rfl (.inr rfl) (yR ["kind"] [0] (zH (pv 3)) fun _ _ _ _ _ _=>⟨zO,(zp JC hr (zc (pv 1) (zc (pv 0) ze)))⟩)) (zi (zo (zp jc hr (zc (pv 0) (zc (yR ["kind", "n", "rows", "leads"] [0,1,3,4] (zY rfl zJ (zc (pv 1) ze)) fun _ _ _ _ _ _=>⟨(Xe (zG zba (pv 0) (pv 4) (by with_unfolding_all rfl))),(zp zb1 hr (zc (pv 1) (zc (pv 2) (zc (pv 3) (zc (pv 0) ze)))))⟩) ze))))))),?_⟩;refine⟨_,rfl,_,rfl,k,W,n,C,t,ras,rfl,hk,hT,oW,cW,c7,hc1,by omega,by omega,fun R ls top rs H1 g1 nR red _=>?_⟩;obtain rfl:R=W:=La.zkD hk red isW (La.SameRm.refl _);have isR:=yY red;obtain⟨_,lls,inc,llt⟩:=yl hk isR;obtain⟨F0,i0,d0,⟨φ0⟩⟩:=La.ye hk;have lrs:=zk nR.tab.2;refine⟨_,rfl,top,rfl,⟨_,SqL.of nR.tab.1⟩,?_⟩;refine zQ (xs:=rs.map V.ref) (fun i ys H'=>Same H1 H'/\ys=natV (ls.take i)) ⟨Same.refl _,rfl⟩ ?_ ?_ ?_
 ·rintro i ys H' hi ⟨g,rfl⟩
  refine⟨SqL.of (g _ _ nR.tab.1),?_⟩;unfold natV;rw[we,wx];omega
 ·rintro i v ys H' hv hi ⟨g,rfl⟩
  obtain⟨row,a,hrow,ha,rfl,hR⟩:=(nR.tab.mono g).row hv;have iR:i<R.length:=(wq.mp hrow).1;obtain⟨l,hl⟩ : ∃ l,ls[i]?=some l:=⟨ls[i]'(by omega),wg (by omega)⟩;obtain⟨ln,lz,l1⟩:=zcs hk (isR F0 φ0) hrow hl
  first|refine gyes ?_|refine tyes ?_
  refine⟨_,rfl,_,rfl,k,row,a,l,_,rfl,hR,lz,l1,num01 hk,fun H2 g2=>nxt hi ⟨g.trans g2,?_⟩⟩;rw[zq hl];unfold natV;rw[wF];rfl
 rintro ys H2 ⟨g2,rfl⟩ pL hpL
 rw[we,wr (by omega)];have g3:=(g1.trans g2).trans (zg hpL (.lst (natV ls)));have T3:=(nR.tab.mono g2).mono (zg hpL (.lst (natV ls)));have hL3:upd H2 pL (.lst (natV ls)) pL=some (.lst (natV ls)):=zh;generalize upd H2 pL (.lst (natV ls))=H3 at *;refine⟨_,rfl,_,rfl,n,rfl,(by omega),(by omega),?_⟩;rw[wW];refine yG (lo:=0) (n:=n) (fun i ys H'=>∃ A ras2,ys=ras2.map V.ref/\Grow H3 H' A ras2/\Paired (fun f xs=>La.AgR k n R ls f xs) (((vd n).take i).filter fun f=>!decide (f∈ls)) A) ⟨[],[],rfl,Grow.nil H3 (Same.refl _),by simp;exact .nil⟩ ?_ ?_ ?_
 ·rintro i ys H' hi ⟨A,ras2,rfl,G,pA⟩
  have e1:=zk G.rows;have e2:=zk pA;have e3:=vW (fun f=>!decide (f∈ls)) ((vd n).take i);rw[wx,vL]at e3;rw[we];omega
 ·rintro i ys H' hi ⟨A,ras2,rfl,G,pA⟩
  have ei:(vd n)[i]?=some i:=vG hi;refine⟨_,rfl,_,rfl,pL,_,rfl,.inl (SqL.of (G.same _ _ hL3)),rfl,zcb ls,_,rfl,?_⟩;have ein:(if true=true then !inV (V.int (0 +(i:Int))) (natV ls)else inV (V.int (0 +(i:Int))) (natV ls))=!decide (i∈ls):=by rw[if_pos rfl,vA,zfU]
  rw[ein];refine ite2 (fun c=>?_) (fun c=>?_)
  ·have nm:i∉ls:=fun hm=>by rw[decide_eq_true hm]at c;exact absurd c (by decide)
   refine⟨_,rfl,_,rfl,_,rfl,_,rfl,k,n,R,ls,i,_,top,rs,rfl,vA _,hk,T3.mono G.same,isR,hi,nm,n64,fun r hr x hx=>(YC hk oW cW c7 r hr x hx).mono (by omega),fun xs p H4 g4 nx ag=>nxt hi ⟨A++[xs],ras2++[p],by rw[wF];rfl,G.snocR g4 nx.row nx.fa,?_⟩⟩;rw[jX _ ei,if_pos (by rw[decide_eq_false nm];rfl)];exact yj pA ag
  ·have hm:i∈ls:=ue fun nm=>c (by rw[decide_eq_false nm];rfl)
   refine nxt hi ⟨A,ras2,rfl,G,?_⟩;rw[jX _ ei,if_neg (by rw[decide_eq_true hm];exact wS),vH];exact pA
 rintro ys H4 ⟨A,ras2,rfl,G,pA⟩ p4 hp4
 rw[wr (by rw[vL];exact ww _)]at pA;have N4:=(G.done hp4).tab;have g5:=G.same.trans (zg hp4 (.lst (ras2.map V.ref)));generalize upd H4 p4 (.lst (ras2.map V.ref))=H5 at *;have lA:=zk pA;have efr:kaD n ls =(vd n).filter fun f=>!decide (f∈ls):=rfl
 rw[← efr]at pA lA;have fl:=zdk hk isR;have oA:La.OkM k n A:=fun r hr=>by
  obtain⟨f,_,ag⟩:=Ym pA hr;exact⟨ag.len,ag.ok⟩
 have cA:La.kak (n*C) A:=fun r hr=>by
  obtain⟨f,hf,ag⟩:=Ym pA hr;have hf':=(Zt n ls f).mp hf;have:0 <(kaD n ls).length:=wag hf;exact zgF hk cW oW lls c7 (by omega) hf'.1 ag
 have c7':61<=n*C:=by have:1*C<=n*C:=wU _ n1;omega
 refine⟨k,A,n,n*C,p4,ras2,rfl,hk,N4,oA,cA,c7',hc,by omega,by omega,fun R2 ls2 top2 rs2 H6 g6 n6 red2 _=>?_⟩;have g36:=g3.trans g5;refine q R2 ls2 top2 rs2 H6 (g36.trans g6) ⟨n6.tab,g36.none n6.ft,fun r hr=>g36.none (n6.fr r hr),n6.nd,n6.nt⟩ (yY red2) fun F _ φ v=>?_
 have hp:=La.Xp (isR F φ) hk (zdQ n ls) (Zt n ls) lA (fun i f xs h1 h2=>ju pA h1 h2) v;exact⟨fun h=>hp.mp ((red2 F φ).fro v h),fun h=>(red2 F φ).to v (hp.mpr h)⟩
def zgy:Sp:=fun vs H Q _=>∃(ws us:List Int)(l l':Addr)(m:Nat),vs=[.ref l,.ref l']/\IRow H ws l/\IRow H us l'/\ws.length=us.length/\(∀ w∈ws,Sm m w)/\(∀ w∈us,Sm m w)/\2*m<=60000000/\ws.length<sizeLine /\
 ∀ H',Same H H'->Q (.int (vE (·*·) ws us).sum) H'
theorem zjA (D:Df K mg "whole_sum" SE qu) (m_sum:mg "sum" = none) (m_zip:mg "zip" = none):Kn P w K mg base "whole_sum" 1 SE zgy:=by
 refine D.kn zbj (fun vs H Q E h=>?_) (fun f cdv A outer s H vs Q E hr h=>?_)
 ·obtain⟨ws,us,l,l',m,rfl,_⟩:=h;rfl
 obtain⟨ws,vs,l,l',m,rfl,hl,hl',hlen,sw,sw',hsz,hz,q⟩:=h;refine⟨_,(zi (zo (zD (zfv rfl) rfl m_sum zkr (zc (ZQ ["left", "right"] [] [] ⟨rfl,rfl,rfl,rfl,rfl,rfl,by decide +kernel⟩ rfl (YZ rfl m_zip (zc (pv 0) (zc (pv 1) ze))) (ZD (yz (yB (by decide)) yy (yz (yB (by decide)) yy qh))) fun _ _ _ _ _ _=>⟨(jZ 2 rfl (yd (zI (i:=0) (by decide:(["left", "right"]:List Str).Nodup) rfl (by first|exact Or.inl rfl|exact Or.inr rfl)) (yd (zI (i:=1) (by decide:(["left", "right"]:List Str).Nodup) rfl (by first|exact Or.inl rfl|exact Or.inr rfl)) je))),zO,(zt yb (pv 0) (pv 1))⟩) ze)))),?_⟩;refine⟨_,rfl,_,rfl,l,l',ws.map V.int,vs.map V.int,rfl,SqL.of hl,SqL.of hl',?_⟩;refine Zo (xs:=ws.map V.int) (zs:=vs.map V.int) (by rw[we,we];omega) (fun i ys' H'=>Same H H'/\ys' =((vE (·*·) ws vs).take i).map V.int) ⟨Same.refl H,by simp⟩ ?_ ?_ ?_
 ·rintro i ys' H' hi ⟨g,rfl⟩
  refine⟨SqL.of (hl.mono g),SqL.of (hl'.mono g),?_⟩;rw[we,wx,wZ];omega
 ·rintro i x z T ys' H' hx hy hi hT ⟨g,rfl⟩
  rw[wo]at hx hy;obtain⟨u,hu,rfl⟩:=wR.mp hx;obtain⟨u',hu',rfl⟩:=wR.mp hy;refine⟨T,_,rfl,SqT.of zh,rfl,_,_,rfl,_,_,rfl,rfl,?_⟩
  first|refine gyes ?_|refine tyes ?_
  refine⟨_,rfl,_,rfl,_,_,rfl,rfl,(sw u (wk hu)).mulOk (sw' u' (wk hu')) (by omega),nxt hi ⟨g.trans (zg hT _),?_⟩⟩;have e:(vE (·*·) ws vs)[i]?=some (u*u'):=by rw[vP,hu,hu']
  rw[zq e,wF];rfl
 ·rintro ys' H' ⟨g,rfl⟩ pl hpl
  have el:(ws.map V.int).length =(vE (·*·) ws vs).length:=by rw[we,wZ];omega
  rw[el,vK];exact⟨pl,_,rfl,SqL.of zh,q _ (g.trans (zg hpl (.lst ((vE (·*·) ws vs).map V.int))))⟩
def zfP:Sp:=fun vs H Q _=>∃(k:Int)(xs ys:List Nb)(p p':Addr)(m:Nat),vs=[.int k,.ref p,.ref p']/\kab k/\SclAt H k m xs p/\SclAt H k m ys p'/\La.OkR k xs/\La.OkR k ys/\xs.length=ys.length/\61<=m/\2*m+xs.length<=60000000/\xs.length<sizeLine /\
 ∀ v H',Same H H'->RN H' (La.ndot k xs ys) v->Q v H'
theorem zjK (D:Df K mg "sum_of_products" SI yX) (Xm:Kn P w K mg base "quotient" 43 SL zch) (zcP:Kn P w K mg base "whole_sum" 1 SE zgy):Kn P w K mg base "sum_of_products" 44 SI zfP:=by
 refine D.kn Yo (fun vs H Q E h=>?_) (fun f cdv A outer s H vs Q E hr h=>?_)
 ·obtain⟨k,xs,ys,p,p',m,rfl,_⟩:=h;rfl
 obtain⟨k,xs,ys,p,p',m,rfl,hk,⟨l,ws,b,hp,hl,sc,sb,sw⟩,⟨l',vs,b',hp',hl',sc',sb',sw'⟩,ox,oy,hlen,m7,hsz,hz,q⟩:=h;refine⟨_,(zi (zo (zp Xm hr (zc (pv 0) (zc (zp zcP hr (zc (zE zy (pv 1) zf) (zc (zE zy (pv 2) zf) ze))) (zc (zt yb (zE zy (pv 1) zf) (zE zy (pv 2) zf)) ze)))))),?_⟩;have ewl:=sc.len;have evl:=sc'.len;refine⟨_,rfl,_,rfl,p,_,_,_,rfl,rfl,SqT.of hp,rfl,_,rfl,p',_,_,_,rfl,rfl,SqT.of hp',rfl,ws,vs,l,l',m,rfl,hl,hl',(by omega),sw,sw',(by omega),(by omega),fun H' g2=>?_⟩;obtain⟨ne,e⟩:=La.zj5 hk hlen sc sc' ox oy;have st:Sm (m+m +(vE (·*·) ws vs).length) (vE (·*·) ws vs).sum:=zij fun w hw=>by
  obtain⟨i,hi,e⟩:=wG hw;rw[uz]at e;rw[← e];exact(sw _ (wp _)).mul (sw' _ (wp _))
 rw[wZ]at st;refine⟨_,rfl,p,_,_,_,rfl,rfl,SqT.of (g2 _ _ hp),rfl,_,rfl,p',_,_,_,rfl,rfl,SqT.of (g2 _ _ hp'),rfl,_,_,rfl,rfl,sb.mulOk sb' (by omega),k,_,_,rfl,hk,ne,st.mono (by omega),(sb.mul sb').mono (by omega),fun v H2 g3 r=>?_⟩;rw[e]at r;exact q v H2 (g2.trans g3) r
theorem zi6{x:Str}{ps:List Str}{l:Nat}{sp sp':Sp}(D:Kn P w K mg base x l ps sp)(h:∀ vs H Q E,sp' vs H Q E->sp vs H Q E):Kn P w K mg base x l ps sp':=by
 obtain⟨f,fd,F,r⟩:=D.ex;exact⟨f,fd,F.imp h,r⟩
def ZI:Sp:=fun vs H Q _=>∃(k:Int)(xs:List Nb)(a:Addr)(m:Nat),vs=[.int k,.ref a]/\kab k/\kas H xs a/\La.OkR k xs/\(∀ x∈xs,nsm m x)/\61<=m/\(xs.length+2)*m<=60000000 /\
 ∀ p H',Same H H'->SclAt H' k ((xs.length+2)*m) xs p->Q (.ref p) H'
theorem JI (d:Kn P w K mg base "scaled" 41 SK JJ):Kn P w K mg base "scaled" 41 SK ZI:=zi6 d fun vs H Q E h=>by
 obtain⟨k,xs,a,m,rfl,hk,hr,ox,sx,m7,hsz,q⟩:=h;have szl:=dN
 have h1:(xs.length+2)*61<=(xs.length+2)*m:=vg _ m7;have h2:(xs.length+1)*m<=(xs.length+2)*m:=wU _ (by omega);exact⟨k,xs,a,(xs.length+2)*m,rfl,hk,hr,ox,(XF (k:=k) (n:=xs.length) (by omega) ⟨rfl,ox,sx⟩).mono h2,by omega,hsz,by omega,q⟩
theorem ziD{n m:Nat}(h7:61<=m)(h:(n+2)*m<=20000000):2 *((n+2)*m)+n<=60000000/\61<=(n+2)*m/\n<sizeLine/\(n+2)*m<=60000000:=by
 have h1:(n+2)*61<=(n+2)*m:=vg _ h7;have:sizeLine=16777216:=by decide
 omega
def zc8:Sp:=fun vs H Q _=>∃(k:Int)(M:Tb)(xs:List Nb)(b m:Nat)(t1 a:Addr)(r1:List Addr),vs=[.int k,.ref t1,.ref a]/\kab k/\kaf H M t1 r1/\kas H xs a/\La.OkM k b M/\xs.length=b/\La.OkR k xs/\szM m M/\(∀ x∈xs,nsm m x)/\61<=m/\(b+2)*m<=20000000/\M.length<sizeLine /\
 ∀ p H',Same H H'->NewR H H' (imgM k M xs) p->Q (.ref p) H'
theorem zhe (D:Df K mg "image" ST zaG) (jm:Kn P w K mg base "scaled" 41 SK ZI) (xM:Kn P w K mg base "sum_of_products" 44 SI zfP):Kn P w K mg base "image" 45 ST zc8:=by
 refine D.kn Sy (fun vs H Q E h=>?_) (fun f cdv A outer s H vs Q E hr h=>?_)
 ·obtain⟨k,M,xs,b,m,t1,a,r1,rfl,_⟩:=h;rfl
 obtain⟨k,M,xs,b,m,t1,a,r1,rfl,hk,hM,hx,oM,lx,ox,sM,sx,m7,hsz,mz,q⟩:=h;refine⟨_,(zd (zm (i:=3) Sy.nd rfl (.inr rfl) (zp jm hr (zc (pv 0) (zc (pv 2) ze)))) (zi (zo (yR ["kind", "right"] [0,3] (zH (pv 1)) fun _ _ _ _ _ _=>⟨zO,(zp xM hr (zc (pv 1) (zc (zp jm hr (zc (pv 1) (zc (pv 0) ze))) (zc (pv 2) ze))))⟩)))),?_⟩;obtain⟨z1,z2,z3,z4⟩:=ziD m7 hsz;refine⟨_,rfl,_,rfl,k,xs,a,m,rfl,hk,hx,ox,sx,m7,by rw[lx];exact z4,fun p0 H0 g0 sc0=>?_⟩;rw[lx]at sc0;refine⟨_,rfl,t1,rfl,⟨_,SqL.of (g0 _ _ hM.1)⟩,?_⟩;have hl:=zk hM.2;refine zQ (xs:=r1.map V.ref) (fun i ys H'=>Same H0 H'/\Paired (RN H') ((imgM k M xs).take i) ys) ⟨Same.refl _,.nil⟩ ?_ ?_ ?_
 ·rintro i ys H' hi ⟨g,pr⟩
  refine⟨SqL.of (g _ _ (g0 _ _ hM.1)),?_⟩;have:=zk pr;unfold imgM at this;rw[wx,we]at this;omega
 ·rintro i v ys H' hv hi ⟨g,pr⟩
  obtain⟨row,ra,hrow,ha,rfl,hR⟩:=(hM.mono (g0.trans g)).row hv;obtain⟨lr,orow⟩:=oM row (wk hrow)
  first|refine gyes ?_|refine tyes ?_
  refine⟨_,rfl,_,rfl,_,rfl,k,row,ra,m,rfl,hk,hR,orow,sM row (wk hrow),m7,by rw[lr];exact z4,fun p1 H1 g1 sc1=>?_⟩;rw[lr]at sc1;refine⟨_,rfl,k,row,xs,p1,p0,(b+2)*m,rfl,hk,sc1,sc0.mono (g.trans g1),orow,ox,by rw[lr,lx],z2,by rw[lr];exact z1,by rw[lr];exact z3,fun v2 H2 g2 r2=>?_⟩;refine nxt hi ⟨(g.trans g1).trans g2,?_⟩;have e:(imgM k M xs)[i]?=some (La.ndot k row xs):=by unfold imgM;rw[wo,hrow];rfl
  rw[zq e];exact yj (jC (g1.trans g2) pr) r2
 ·rintro ys H' ⟨g,pr⟩ p hp
  rw[we,wr (by unfold imgM;rw[we];omega)]at pr;exact q p _ ((g0.trans g).trans (zg hp _)) ⟨⟨ys,zh,jC (zg hp _) pr⟩,(g0.trans g).none hp⟩
def jd:Sp:=fun vs H Q _=>∃(M:Tb)(n:Nat)(top:Addr)(ras:List Addr),vs=[.ref top]/\kaf H M top ras/\M≠[]/\(∀ r∈M,r.length=n)/\n<sizeLine/\M.length<sizeLine /\
 ∀ t ras' H',Same H H'->NewT H H' (kaa n M) t ras'->Q (.ref t) H'
theorem zgK (D:Df K mg "turned" SU XJ) (zJ:mg "range" = none) (m_len:mg "len" = none):Kn P w K mg base "turned" 1 SU jd:=by
 refine D.kn zgn (fun vs H Q E h=>?_) (fun f cdv A outer s H vs Q E hr h=>?_)
 ·obtain⟨M,n,top,ras,rfl,_⟩:=h;rfl
 obtain⟨M,n,top,ras,rfl,hT,hM,hn,nz,mz,q⟩:=h;refine⟨_,(zi (zo (yR ["table"] [0] (zY rfl zJ (zc (zD zL rfl m_len yi (zc (zE zw (pv 0) zf) ze)) ze)) fun _ _ _ _ _ _=>⟨zO,(yR ["column"] [0] (zH (pv 1)) fun _ _ _ _ _ _=>⟨zO,(zE zw (pv 0) (pv 1))⟩)⟩))),?_⟩;obtain⟨M0,M',rfl⟩:=uR hM;have hras:=zk hT.2;obtain⟨r0,ras',e0⟩ : ∃ r0 ras',ras=r0::ras':=by
  cases ras with
  | nil=>simp at hras
  | cons a b=>exact⟨a,b,rfl⟩
 obtain⟨vs0,h0,p0,l0⟩:=(ju hT.2 (i:=0) rfl (by rw[e0];rfl)).len;have n0:=hn M0 wt;have szl:=dN
 refine⟨_,rfl,top,_,_,_,rfl,rfl,SqL.of hT.1,(by rw[e0];exact zP (j:=0) rfl),r0,_,rfl,.inl (SqL.of h0),_,rfl,(by omega),(by omega),?_⟩;have en:(vs0.length:Int).toNat=n:=by omega
 rw[en];refine yG (lo:=0) (n:=n) (fun i ys H'=>∃ ras2,ys=ras2.map V.ref/\Grow H H' ((kaa n (M0::M')).take i) ras2) ⟨[],rfl,Grow.nil H (Same.refl H)⟩ ?_ ?_ ?_
 ·rintro i ys H' hi ⟨ras2,rfl,G⟩
  have:=zk G.rows;rw[wx,zj]at this;rw[we];omega
 ·rintro i ys H' hi ⟨ras2,rfl,G⟩
  first|refine gyes ?_|refine tyes ?_
  refine⟨_,rfl,top,rfl,⟨_,SqL.of (G.same _ _ hT.1)⟩,?_⟩;refine zQ (xs:=ras.map V.ref) (fun j ys' H2=>H2=H'/\Paired (RN H') (((M0::M').map fun r=>r.getD i (.z 0)).take j) ys') ⟨rfl,.nil⟩ ?_ ?_ ?_
  ·rintro j ys' H2 hj ⟨rfl,pr⟩
   refine⟨SqL.of (G.same _ _ hT.1),?_⟩;have:=zk pr;rw[wx,we]at this;omega
  ·rintro j v ys' H2 hv hj ⟨rfl,pr⟩
   obtain⟨xs,a,hx,ha,rfl,hrow⟩:=(hT.mono G.same).row hv;obtain⟨us,hu,pu,lu⟩:=hrow.len;have nx:=hn xs (wk hx);have hi':i<xs.length:=by omega
   obtain⟨u,eu,ru⟩:=yH pu (wg hi')
   first|refine gyes ?_|refine tyes ?_
   refine⟨_,rfl,_,rfl,a,_,_,_,rfl,rfl,SqL.of hu,(by rw[vA];exact zP eu),nxt hj ⟨rfl,?_⟩⟩;have e:((M0::M').map fun r=>r.getD i (.z 0))[j]?=some (xs.getD i (.z 0)):=by rw[wo,hx];rfl
   rw[zq e];refine yj pr ?_;rw[wj,wg hi'];exact ru
  ·rintro ys' H2 ⟨rfl,pr⟩ p hp
   rw[wr (by rw[we,we];omega)]at pr;refine nxt hi ⟨ras2++[p],by rw[wF];rfl,?_⟩;rw[zq (xE hi)];exact G.snoc hp pr
 ·rintro ys H' ⟨ras2,rfl,G⟩ t ht
  rw[wr (by rw[zj];exact ww _)]at G;exact q t ras2 _ (G.same.trans (zg ht _)) (G.done ht)
def Qk:Sp:=fun vs H Q _=>∃(k:Int)(A B R:Tb)(n b:Nat)(tA tB tR:Addr)(rA rB rR:List Addr),vs=[.int k,.ref tA,.ref tB,.ref tR]/\kab k/\kaf H A tA rA/\kaf H B tB rB/\kaf H R tR rR/\Fit k n/\TOk k n n 80 A/\TOk k b n 80 B/\b<=1000/\TOk k R.length n 596488 R/\R.length<=10 /\
 ∀ W t rs H',Same H H'->NewT H H' W t rs->RdR k n W->kaz k W (B++R.map (imgM k A))->Q (.ref t) H'
theorem zeQ (D:Df K mg "widened" SV YM) (ziZ:Kn P w K mg base "image" 45 ST zc8) (qL:Kn P w K mg base "joined" 46 SI Zc):Kn P w K mg base "widened" 47 SV Qk:=by
 refine D.kn zeL (fun vs H Q E h=>?_) (fun f cdv A' outer s' H vs Q E hr h=>?_)
 ·obtain⟨k,A,B,R,n,b,tA,tB,tR,rA,rB,rR,rfl,_⟩:=h;rfl
 obtain⟨k,A,B,R,n,b,tA,tB,tR,rA,rB,rR,rfl,hk,hA,hB,hR,hf,oA,oB,b1000,oR,lR,q⟩:=h;have szl:=dN
 have n10:=hf.n10;have lrR:=zk hR.2;obtain⟨oI,cI⟩:=ze6 hk hf oA oR;refine⟨_,(zi (zo (zp qL hr (zc (pv 0) (zc (pv 2) (zc (yR ["kind", "table"] [0,1] (zH (pv 3)) fun _ _ _ _ _ _=>⟨zO,(zp ziZ hr (zc (pv 1) (zc (pv 2) (zc (pv 0) ze))))⟩) ze)))))),?_⟩;refine⟨_,rfl,_,rfl,_,rfl,tR,rfl,⟨_,SqL.of hR.1⟩,?_⟩;refine zQ (xs:=rR.map V.ref) (fun i ys H'=>∃ ras,ys=ras.map V.ref/\Grow H H' ((R.map (imgM k A)).take i) ras) ⟨[],rfl,Grow.nil H (Same.refl H)⟩ ?_ ?_ ?_
 ·rintro i ys H' hi ⟨ras,rfl,G⟩
  refine⟨SqL.of (G.same _ _ hR.1),?_⟩;have:=zk G.rows;rw[wx]at this;rw[we]at hi ⊢;omega
 ·rintro i v ys H' hv hi ⟨ras,rfl,G⟩
  obtain⟨row,a,hrow,ha,rfl,hRow⟩:=(hR.mono G.same).row hv;have rr:=oR.row (wk hrow);have oA':=oA.up (show(80:Nat)<=596488 by decide)
  first|refine gyes ?_|refine tyes ?_
  refine⟨_,rfl,_,rfl,_,rfl,k,A,row,n,596488,tA,a,rA,rfl,hk,hA.mono G.same,hRow,oA'.ok,rr.len,rr.ok,oA'.sz,rr.sz,(by decide),(by omega),(by rw[oA.len];omega),fun p H1 g1 nr=>nxt hi ⟨ras++[p],by rw[wF];rfl,?_⟩⟩;have e:(R.map (imgM k A))[i]?=some (imgM k A row):=by rw[wo,hrow];rfl
  rw[zq e];exact G.snocR g1 nr.row nr.fa
 ·rintro ys H' ⟨ras,rfl,G⟩ pI hpI
  rw[we,wr (by rw[we];omega)]at G;have N:=G.done hpI;have g1:=G.same.trans (zg hpI (.lst (ras.map V.ref)));generalize upd H' pI (.lst (ras.map V.ref))=H1 at *;refine⟨k,B,R.map (imgM k A),n,capC n 7159072,tB,pI,rB,ras,rfl,hk,hB.mono g1,N.tab,oB.ok,oI,Qp hf oB,cI,cap7 (by decide),cap1 hf (by decide),(by omega),(by rw[oB.len];exact b1000),(by rw[we];omega),fun W lw t rs H2 g2 nt red=>?_⟩;exact q W t rs H2 (g1.trans g2) ⟨nt.tab,g1.none nt.ft,fun r hr=>g1.none (nt.fr r hr),nt.nd,nt.nt⟩ ⟨lw,yY red⟩ fun F _ φ v=>⟨fun h=>(red F φ).fro v h,fun h=>(red F φ).to v h⟩
def zdv:Sp:=fun vs H Q _=>∃(k:Int)(A B:Tb)(n b:Nat)(tA tB:Addr)(rA rB:List Addr),vs=[.int k,.ref tA,.ref tB]/\kab k/\kaf H A tA rA/\kaf H B tB rB/\Fit k n/\TOk k n n 80 A/\TOk k b n 80 B/\b<=1000 /\
 ∀ R t rs H',Same H H'->NewT H H' R t rs->kax k n A B R->Q (.ref t) H'
theorem zhJ (D:Df K mg "grown_room" SW jE) (jc:Kn P w K mg base "reduced" 45 SO qg) (zbN:Kn P w K mg base "widened" 47 SV Qk) (m_len:mg "len" = none):Kn P w K mg base "grown_room" 48 SW zdv:=by
 refine D.kn Sc (fun vs H Q E h=>?_) (fun f cdv A' outer s' H vs Q E hr h=>?_)
 ·obtain⟨k,A,B,n,b,tA,tB,rA,rB,rfl,_⟩:=h;rfl
 obtain⟨k,A,B,n,b,tA,tB,rA,rB,rfl,hk,hA,hB,hf,oA,oB,b1000,q⟩:=h;have szl:=dN
 have n10:=hf.n10;refine⟨_,(zd (zm (i:=3) Sc.nd rfl (.inl rfl) (zp jc hr (zc (pv 0) (zc (pv 2) ze)))) (zd (zm (i:=4) Sc.nd rfl (.inl rfl) (zp zbN hr (zc (pv 0) (zc (pv 1) (zc (pv 2) (zc (pv 3) ze)))))) (zd (qS PassesOwn.never (zG ZM (zD zL rfl m_len yi (zc (pv 4) ze)) (zD zL rfl m_len yi (zc (pv 3) ze)) (kae _)) (zd (zm (i:=3) Sc.nd rfl (.inl rfl) (pv 4)) (zi (zm (i:=4) Sc.nd rfl (.inl rfl) (zp zbN hr (zc (pv 0) (zc (pv 1) (zc (pv 2) (zc (pv 3) ze))))))))) (zi (zo (pv 3)))))),?_⟩;refine⟨_,rfl,_,rfl,k,B,n,capC n 7159072,tB,rB,rfl,hk,hB,oB.ok,Qp hf oB,cap7 (by decide),cap1 hf (by decide),(by omega),(by rw[oB.len];omega),fun R ls t1 r1 H1 g1 n1 red _=>?_⟩;have rR:RdR k n R:=⟨ls,yY red⟩;have eR:kaz k R (La.kry k A B 0):=fun F _ φ v=>⟨fun h=>(red F φ).fro v h,fun h=>(red F φ).to v h⟩
 have sR:=(Jr hk hf oA oB (vC _) rR eR).1;have lR:R.length<=10:=by have:=yN hk (yY red);omega
 refine⟨_,rfl,_,rfl,_,rfl,_,rfl,k,A,B,R,n,b,tA,tB,t1,rA,rB,r1,rfl,hk,hA.mono g1,hB.mono g1,n1.tab,hf,oA,oB,b1000,sR,lR,fun W t2 r2 H2 g2 n2 rW eW=>?_⟩;have I0:LrI k n A B R W 0:=by
  refine⟨rR,rW,eR,fun F _ φ v=>(eW F φ v).trans (La.zdn hk oA.ok oA.len oB.ok (yl hk (yY red)).1 (eR F φ) v),vC _⟩
 have N1:NewT H H2 R t1 r1:=⟨n1.tab.mono g2,n1.ft,n1.fr,n1.nd,n1.nt⟩;have N2:NewT H H2 W t2 r2:=⟨n2.tab,g1.none n2.ft,fun r hr=>g1.none (n2.fr r hr),n2.nd,n2.nt⟩;have gH:=g1.trans g2;clear n1 n2 g1 red sR lR rR eR rW eW;refine⟨fun m σ H'=>∃ R W t t1 r1 t2 r2,σ=[some (.int k),some (.ref tA),some (.ref tB),some (.ref t1),some (.ref t2)]/\Same H H'/\NewT H H' R t1 r1/\NewT H H' W t2 r2/\LrI k n A B R W t/\m=n - t,⟨_,R,W,0,t1,r1,t2,r2,rfl,gH,N1,N2,I0,rfl⟩,?_⟩;clear I0 N1 N2 gH
 rintro m σ H' ⟨R,W,t,t1,r1,t2,r2,rfl,gH,N1,N2,I,rfl⟩
 have l1:=zk N1.tab.2;have l2:=zk N2.tab.2;refine⟨_,rfl,t2,_,rfl,.inl (SqL.of N2.tab.1),_,rfl,t1,_,rfl,.inl (SqL.of N1.tab.1),_,_,rfl,rfl,_,rfl,?_⟩;refine ite2 (fun c=>?_) (fun c=>?_)
 ·have c':(((r1.map V.ref).length:Nat):Int) <(((r2.map V.ref).length:Nat):Int):=of_decide_eq_true c;rw[we,we]at c';have lt:R.length<W.length:=by omega
  have tn:t<n:=by obtain⟨lw',iW'⟩:=I.rW;have:=yN hk iW';have:=I.le;omega
  obtain⟨lw,iW⟩:=I.rW;have sW:=(Jr hk hf oA oB (show t+1<=n+1 by omega) I.rW I.eW).1;have lW:W.length<=10:=by have:=yN hk iW;omega
  refine⟨_,fun _ _ h=>h,?_⟩;refine⟨_,rfl,?_⟩;refine⟨_,rfl,_,rfl,_,rfl,_,rfl,k,A,B,W,n,b,tA,tB,t2,rA,rB,r2,rfl,hk,hA.mono gH,hB.mono gH,N2.tab,hf,oA,oB,b1000,sW,lW,fun W' t3 r3 H3 g3 n3 rW' eW'=>?_⟩;have I':=I.step hk oA oB lt rW' eW';exact⟨_,(by omega),W,W',t+1,t2,r2,t3,r3,rfl,gH.trans g3,⟨N2.tab.mono g3,N2.ft,N2.fr,N2.nd,N2.nt⟩,⟨n3.tab,gH.none n3.ft,fun r hr=>gH.none (n3.fr r hr),n3.nd,n3.nt⟩,I',rfl⟩
 ·have c':¬(((r1.map V.ref).length:Nat):Int) <(((r2.map V.ref).length:Nat):Int):=of_decide_eq_false (uE.mpr c);rw[we,we]at c';exact⟨_,rfl,q R t1 r1 H' gH N1 (I.done hk oA oB (by omega))⟩
def zbi:Sp:=fun vs H Q _=>∃(M:Tb)(n:Nat)(t:Addr)(ras:List Addr),vs=[.ref t]/\kaf H M t ras/\(∀ r∈M,r.length=n)/\n<=100/\M.length<=100/\∀ p H',Same H H'->NewR H H' M.flatten p->Q (.ref p) H'
theorem zaa{n:Nat}:∀(M:Tb),(∀ r∈M,r.length=n)->M.flatten.length=M.length*n
 | [],_=>by simp
 | r::M,h=>by
  rw[ud,wy,zaa M (fun r hr=>h r (wv _ hr)),h r wt,vQ,GW];omega
theorem zf9 (D:Df K mg "strung" ["rows"] XL):Kn P w K mg base "strung" 1 ["rows"] zbi:=by
 refine D.kn Sx (fun vs H Q E h=>?_) (fun f cdv A outer s H vs Q E hr h=>?_)
 ·obtain⟨M,n,t,ras,rfl,_⟩:=h;rfl
 obtain⟨M,n,t,ras,rfl,hT,hn,n100,m100,q⟩:=h;have szl:=dN
 have lr:=zk hT.2;refine⟨_,(zd (zm (i:=1) Sx.nd rfl (.inl rfl) (yC ze)) (zd (yu PassesOwn.never rfl (zH (pv 0)) (zI (i:=2) Sx.nd rfl (.inl rfl)) (zi (yU (bm0 (fun _ h=>ZL PySem.F.plainAttrs_list PySem.F.slot_list_extend PySem.F.type_list_extend zbE h (zc (pv 2) ze)) (pv 1))))) (zi (zo (pv 1))))),?_⟩;refine⟨(by show 0<=sizeLine;decide),fun pt hpt=>?_⟩;have g0:=zg hpt (.lst []);refine⟨_,rfl,t,rfl,⟨_,SqL.of (g0 _ _ hT.1)⟩,?_⟩;refine yP (xs:=ras.map V.ref) (fun i σ H'=>∃ us o2,σ=[some (.ref t),some (.ref pt),o2]/\Same H H'/\H' pt=some (.lst us)/\Paired (RN H') (M.take i).flatten us) ⟨[],none,rfl,g0,zh,.nil⟩ ?_ ?_ ?_
 ·rintro i σ H' _ ⟨us,o2,rfl,g,_⟩
  exact SqL.of (g _ _ hT.1)
 ·rintro i v σ H' hv ⟨us,o2,rfl,g,hp,pu⟩
  obtain⟨row,a,hrow,ha,rfl,hR⟩:=(hT.mono g).row hv;obtain⟨zs,hz,pz,lz⟩:=hR.len;have lrow:=hn row (wk hrow);have lu:=zk pu;rw[zaa (n:=n) (M.take i) (fun r hr=>hn r (uu hr)),wx]at lu;have il:=(wq.mp hrow).1;have b1:min i M.length*n<=100*100:=vf (by omega) n100;refine⟨_,rfl,.inl ⟨rfl,_,SqL.of hp⟩,_,rfl,pt,a,us,zs,rfl,rfl,hp,hz,(by omega),us++zs,_,rfl,yw g hpt,zh,?_⟩;rw[zq hrow,List.flatten_append,ud,List.flatten_nil,vH];exact Jn hp (qU pu pz)
 ·rintro σ H' ⟨us,o2,rfl,g,hp,pu⟩
  rw[we,wr (by omega)]at pu;exact⟨_,rfl,q pt H' g ⟨⟨us,hp,pu⟩,hpt⟩⟩
theorem zdU{n:Nat}:∀(M:Tb)(i:Nat)(r:List Nb),(∀ r∈M,r.length=n)->M[i]?=some r->(M.flatten.drop (i*n)).take n=r
 | [],i,r,_,h=>by simp at h
 | r0::M,0,r,hn,h=>by
  have e:r0=r:=by simpa using h
  rw[Gg,wap,ud,List.take_append_of_le_length (by rw[hn r0 wt];exact ww _),wr (by rw[hn r0 wt];exact ww _),e]
 | r0::M,i+1,r,hn,h=>by
  have l0:=hn r0 wt;rw[ud,GW,wa3 (i*n) n,← List.drop_drop];have e:vX n r0=[]:=uN (by omega);rw[List.drop_append_of_le_length (by omega),e,wab];exact zdU M i r (fun r hr=>hn r (wv _ hr)) (by simpa using h)
def zir:Sp:=fun vs H Q _=>∃(k:Int)(M:Tb)(r n m:Nat)(t:Addr)(ras:List Addr),vs=[.int k,.ref t]/\kab k/\kaf H M t ras/\TOk k r n m M/\1<=r/\r<=100/\n<=10/\61<=m/\m<=1000 /\
 ∀ p t' b ls H',Same H H'->H' p=some (.tup [.ref t',.int b])->ITab H' (M.map fun r=>r.map (La.scW b)) t' ls->La.Scl k M.flatten (M.flatten.map (La.scW b)) b->Sm 1002000 b->(∀ x∈M.flatten,Sm 1002000 (La.scW b x))->Q (.ref p) H'
theorem zjF (D:Df K mg "over_one_bottom" SX yW) (jm:Kn P w K mg base "scaled" 41 SK ZI) (zhh:Kn P w K mg base "strung" 1 ["rows"] zbi) (m_len:mg "len" = none) (zJ:mg "range" = none):Kn P w K mg base "over_one_bottom" 42 SX zir:=by
 refine D.kn sh (fun vs H Q E h=>?_) (fun f cdv A outer s H vs Q E hr h=>?_)
 ·obtain⟨k,M,r,n,m,t,ras,rfl,_⟩:=h;rfl
 obtain⟨k,M,r,n,m,t,ras,rfl,hk,hT,oM,n1,r100,n10,m7,m1000,q⟩:=h;have szl:=dN
 refine⟨_,(zd (zm (i:=2) sh.nd rfl (.inr rfl) (zD zL rfl m_len yi (zc (zE zw (pv 1) zf) ze))) (zd (zm (i:=3) sh.nd rfl (.inr rfl) (zp jm hr (zc (pv 0) (zc (zp zhh hr (zc (pv 1) ze)) ze)))) (zi (zo (xm (zc (yR ["pair", "width"] [3,2] (zY rfl zJ (zc (zD zL rfl m_len yi (zc (pv 1) ze)) ze)) fun _ _ _ _ _ _=>⟨zO,(jD qD (zE zy (pv 1) zf) (jy (zt yb (pv 0) (pv 2))) (jy (zt yb (zt yT (pv 0) zf) (pv 2))))⟩) (zc (zE zy (pv 3) zf) ze))))))),?_⟩;have lr:=zk hT.2;rw[oM.len]at lr;obtain⟨r0,ras',e0⟩ : ∃ r0 ras',ras=r0::ras':=by
  cases ras with
  | nil=>rw[Gw]at lr;omega
  | cons a b=>exact⟨a,b,rfl⟩
 obtain⟨x0,hx0,hr0⟩:=yh hT.2 (i:=0) (b:=r0) (by rw[e0];rfl);obtain⟨u0,hu0,pu0,lu0⟩:=hr0.len;have lx0:=(oM.ok x0 (wk hx0)).1;have rn:∀ r∈M,r.length=n:=fun r hr=>(oM.ok r hr).1
 have fl:=zaa M rn;rw[oM.len]at fl;have nn:r*n<=1000:=vf r100 n10;refine⟨_,rfl,t,_,_,_,rfl,rfl,SqL.of hT.1,(by rw[e0];exact zP (j:=0) rfl),r0,_,rfl,.inl (SqL.of hu0),?_⟩;rw[lu0,lx0];have okf:La.OkR k M.flatten:=fun x hx=>by
  obtain⟨r,hr,hx'⟩:=GU.mp hx;exact(oM.ok r hr).2 x hx'
 refine⟨_,rfl,_,rfl,M,n,t,ras,rfl,hT,rn,(by omega),(by rw[oM.len];omega),fun p1 H1 g1 N1=>?_⟩;refine⟨k,M.flatten,p1,m,rfl,hk,N1.row,okf,(fun x hx=>by
  obtain⟨r,hr,hx'⟩:=GU.mp hx;exact oM.sz r hr x hx'),m7,(by rw[fl];have:(r*n+2)*m<=1002*1000:=vf (by omega) m1000;omega),fun pp H2 g2 sc=>?_⟩
 have b18:(M.flatten.length+2)*m<=1002000:=by rw[fl];exact wI (vf (show r*n+2<=1002 by omega) m1000) (by decide)
 obtain⟨l,ws,b,hp,hl,sc,sb,sw⟩:=sc;have ew:=sc.eq;subst ew;have g12:=g1.trans g2;refine⟨_,rfl,t,_,rfl,.inl (SqL.of (g12 _ _ hT.1)),_,rfl,(by omega),(by rw[we,← lr];omega),?_⟩;rw[wW,we,← lr];have lW:(M.map fun r=>r.map (La.scW b)).length=r:=by rw[we];exact oM.len
 refine yG (lo:=0) (n:=r) (fun i ys H'=>∃ ls,ys=ls.map V.ref/\Same H2 H'/\Paired (IRow H') ((M.map fun r=>r.map (La.scW b)).take i) ls) ⟨[],rfl,Same.refl _,.nil⟩ ?_ ?_ ?_
 ·rintro i ys H' hi ⟨ls,rfl,g,pr⟩
  have:=zk pr;rw[wx]at this;rw[we];omega
 ·rintro i ys H' hi ⟨ls,rfl,g,pr⟩
  first|refine gyes ?_|refine tyes ?_
  rw[vA];refine⟨_,rfl,pp,_,_,_,rfl,rfl,SqT.of (g _ _ hp),rfl,_,rfl,_,rfl,_,_,rfl,rfl,(IntMulOk.of_left (intBits_le_64 (by omega) (by omega))),_,rfl,_,rfl,_,_,rfl,rfl,_,rfl,_,_,rfl,rfl,(IntMulOk.of_left (intBits_le_64 (by omega) (by omega))),_,rfl,l,_,rfl,SqL.of (hl.mono g),fun p3 hp3=>?_⟩;obtain⟨r',hr,_⟩:=oM.get hi;have ec:cutV ((M.flatten.map (La.scW b)).map V.int) (some ((i:Int) *(n:Int))) (some (((i:Int)+1) *(n:Int))) =(r'.map (La.scW b)).map V.int:=by
   rw[show(i:Int) *(n:Int) =((i*n:Nat):Int) by rw[uU],show((i:Int)+1) *(n:Int) =(((i+1)*n:Nat):Int) by rw[uU];rfl,zkq,← Gq,← gQ,← Gq,← gQ,show(i+1)*n - i*n=n by rw[GW];omega,zdU M i r' rn hr]
  rw[ec];refine nxt hi ⟨ls++[p3],by rw[wF];rfl,g.trans (zg hp3 _),?_⟩;rw[zq (x:=r'.map (La.scW b)) (by rw[wo,hr];rfl)];exact ITab.snoc pr (zg hp3 _) zh
 ·rintro ys H' ⟨ls,rfl,g,pr⟩ t' ht'
  rw[wr (by omega)]at pr;have g3:=zg ht' (.lst (ls.map V.ref));have T3:ITab (upd H' t' (.lst (ls.map V.ref))) (M.map fun r=>r.map (La.scW b)) t' ls:=⟨zh,xZ (fun _ _ r=>r.mono g3) pr⟩;generalize upd H' t' (.lst (ls.map V.ref))=H3 at *;refine⟨_,rfl,pp,_,_,_,rfl,rfl,SqT.of (g3 _ _ (g _ _ hp)),rfl,(by show 2<=sizeLine;decide),fun p hp'=>?_⟩;have g4:=zg hp' (.tup [.ref t',.int b]);exact q p t' b ls _ (((g12.trans g).trans g3).trans g4) zh (T3.mono g4) sc (sb.mono b18) (fun x hx=>(sw _ (wm.mpr ⟨x,hx,rfl⟩)).mono b18)
abbrev gpi:Int:=2305843009213693951
theorem YQ:kab gpi:=.inr zjH
def restM(b:Int)(M:Tb):Tb:=(M.map fun r=>r.map (La.scW b)).map fun r=>r.map (nnum gpi)
theorem zbh{r n m:Nat}{M:Tb}(h:TOk 0 r n m M)(b:Int):TOk gpi r n 80 (restM b M):=by
 have ok:La.OkM gpi n (restM b M):=fun x hx=>by
  obtain⟨y,hy,rfl⟩:=wm.mp hx;obtain⟨z,hz,rfl⟩:=wm.mp hy;refine⟨by rw[we,we];exact(h.ok z hz).1,fun u hu=>?_⟩;obtain⟨w,_,rfl⟩:=wm.mp hu;exact La.ya YQ w
 exact⟨by unfold restM;rw[we,we];exact h.len,ok,fun r hr x hx=>(Yj YQ (by decide) ((ok r hr).2 x hx)).mono (by decide)⟩
def zc9:Sp:=fun vs H Q _=>∃(M:Tb)(r n:Nat)(t:Addr)(ras:List Addr),vs=[.ref t]/\kaf H M t ras/\TOk 0 r n 80 M/\1<=r/\r<=100/\n<=10 /\
 ∀ b t' rs H',Same H H'->NewT H H' (restM b M) t' rs->La.Scl 0 M.flatten (M.flatten.map (La.scW b)) b->Q (.ref t') H'
theorem zhH {tk:Nat} (D:Df K mg "rests_of" SU ZJ) (YX:Kn P w K mg base "over_one_bottom" 42 SX zir) (yV:mg "GREAT_PRIME" = some (.int 2305843009213693951 tk)):Kn P w K mg base "rests_of" 43 SU zc9:=by
 refine D.kn zcK (fun vs H Q E h=>?_) (fun f cdv A outer s H vs Q E hr h=>?_)
 ·obtain⟨M,r,n,t,ras,rfl,_⟩:=h;rfl
 obtain⟨M,r,n,t,ras,rfl,hT,oM,r1,r100,n10,q⟩:=h;have szl:=dN
 refine⟨_,(zi (zo (yR [] [] (zH (zE zy (zp YX hr (zc zf (zc (pv 0) ze))) zf)) fun _ _ _ _ _ _=>⟨zO,(yR [] [] (zH (pv 0)) fun _ _ _ _ _ _=>⟨zO,(zt zW (pv 0) (zgD (v:=.int 2305843009213693951) rfl yV ⟨_,rfl⟩))⟩)⟩))),?_⟩;refine⟨_,rfl,0,M,r,n,80,t,ras,rfl,.inl rfl,hT,oM,r1,r100,n10,by decide,by decide,fun p t' b ls H1 g1 hp T sc _ _=>?_⟩;refine⟨p,_,_,_,rfl,rfl,SqT.of hp,rfl,t',rfl,⟨_,SqL.of T.1⟩,?_⟩;have lW:(M.map fun r=>r.map (La.scW b)).length=r:=by rw[we];exact oM.len
 have lG:(restM b M).length=r:=by unfold restM;rw[we];exact lW
 have ll:=zk T.2;refine zQ (xs:=ls.map V.ref) (fun i ys H'=>∃ rs,ys=rs.map V.ref/\Grow H1 H' ((restM b M).take i) rs) ⟨[],rfl,Grow.nil H1 (Same.refl H1)⟩ ?_ ?_ ?_
 ·rintro i ys H' hi ⟨rs,rfl,G⟩
  refine⟨SqL.of (G.same _ _ T.1),?_⟩;have:=zk G.rows;rw[wx]at this;rw[we]at hi ⊢;omega
 ·rintro i v ys H' hv hi ⟨rs,rfl,G⟩
  obtain⟨ws,a,hw,ha,rfl,hRow⟩:=(T.mono G.same).row hv;have lws:ws.length=n:=by
   obtain⟨y,hy,rfl⟩:=wm.mp (wk hw);rw[we];exact(oM.ok y hy).1
  first|refine gyes ?_|refine tyes ?_
  refine⟨_,rfl,a,rfl,⟨_,SqL.of hRow⟩,?_⟩;refine zQ (xs:=ws.map V.int) (fun j ys' H6=>Same H' H6/\Paired (RN H6) ((ws.map (nnum gpi)).take j) ys') ⟨Same.refl _,.nil⟩ ?_ ?_ ?_
  ·rintro j ys' H6 hj ⟨g6,pr6⟩
   refine⟨SqL.of (g6 _ _ hRow),?_⟩;have:=zk pr6;rw[wx,we]at this;omega
  ·rintro j v ys' H6 hv6 hj ⟨g6,pr6⟩
   rw[wo]at hv6;obtain⟨x,hx,rfl⟩:=wR.mp hv6
   first|refine gyes ?_|refine tyes ?_
   refine⟨_,rfl,_,_,rfl,rfl,(by decide),nxt hj ⟨g6,?_⟩⟩;rw[zq (x:=nnum gpi x) (by rw[wo,hx];rfl)];exact yj pr6 RN.of_z
  ·rintro ys' H6 ⟨g6,pr6⟩ p6 hp6
   rw[we,wr (by rw[we];exact ww _)]at pr6;refine nxt hi ⟨rs++[p6],by rw[wF];rfl,?_⟩;have e:(restM b M)[i]?=some (ws.map (nnum gpi)):=by unfold restM;rw[wo,hw];rfl
   rw[zq e];exact(G.mono g6).snoc hp6 pr6
 ·rintro ys H' ⟨rs,rfl,G⟩ t2 ht
  rw[wr (by rw[lG,we];omega)]at G;have N:=G.done ht;have g2:=G.same.trans (zg ht (.lst (rs.map V.ref)));exact q b t2 rs _ (g1.trans g2) ⟨N.tab,g1.none N.ft,fun r hr=>g1.none (N.fr r hr),N.nd,N.nt⟩ sc
def zaT:Sp:=fun vs H Q _=>∃(k:Int)(n:Nat),vs=[.int k,.int (n:Int)]/\n<=1000/\∀ t ras H',Same H H'->NewT H H' (La.kan k n) t ras->Q (.ref t) H'
theorem zi1 (D:Df K mg "unit" SY zdf) (xf:Kn P w K mg base "number" 1 SH jA) (zJ:mg "range" = none) (m_int:mg "int" = none):Kn P w K mg base "unit" 2 SY zaT:=by
 refine D.kn zi8 (fun vs H Q E h=>?_) (fun f cdv A outer s H vs Q E hr h=>?_)
 ·obtain⟨k,n,rfl,_⟩:=h;rfl
 obtain⟨k,n,rfl,hn,q⟩:=h;have szl:=dN
 refine⟨_,(zi (zo (yR ["size", "kind"] [1,0] (zY rfl zJ (zc (pv 1) ze)) fun _ _ _ _ _ _=>⟨zO,(yR ["kind", "row"] [2,0] (zY rfl zJ (zc (pv 1) ze)) fun _ _ _ _ _ _=>⟨zO,(zp xf hr (zc (pv 1) (zc (xH Jc rfl m_int zdD (zc (xJ xp (pv 2) (pv 0) (kae _)) ze)) ze)))⟩)⟩))),?_⟩;have lT:(La.kan k n).length=n:=by unfold La.kan;simp
 refine⟨_,rfl,n,rfl,(by omega),(by omega),?_⟩;rw[wW];refine yG (lo:=0) (n:=n) (fun i ys H'=>∃ ras2,ys=ras2.map V.ref/\Grow H H' ((La.kan k n).take i) ras2) ⟨[],rfl,Grow.nil H (Same.refl H)⟩ ?_ ?_ ?_
 ·rintro i ys H' hi ⟨ras2,rfl,G⟩
  have:=zk G.rows;rw[wx]at this;rw[we];omega
 ·rintro i ys H' hi ⟨ras2,rfl,G⟩
  first|refine gyes ?_|refine tyes ?_
  refine⟨_,rfl,n,rfl,(by omega),(by omega),?_⟩;rw[wW];have lR:(La.kal k n i).length=n:=by unfold La.kal;simp
  refine yG (lo:=0) (n:=n) (fun j ys' H6=>Same H' H6/\Paired (RN H6) ((La.kal k n i).take j) ys') ⟨Same.refl _,.nil⟩ ?_ ?_ ?_
  ·rintro j ys' H6 hj ⟨g6,pr6⟩
   have:=zk pr6;rw[wx]at this;omega
  ·rintro j ys' H6 hj ⟨g6,pr6⟩
   first|refine gyes ?_|refine tyes ?_
   refine⟨_,rfl,_,rfl,_,rfl,rfl,.inr ⟨_,rfl,k,_,rfl,fun v H7 g7 r7=>nxt hj ⟨g6.trans g7,?_⟩⟩⟩;have e:(La.kal k n i)[j]?=some (if i=j then nnum k 1 else nnum k 0):=by unfold La.kal;rw[wo,vG hj];rfl
   rw[zq e];refine yj (jC g7 pr6) ?_
   by_cases c:i=j
   ·rw[if_pos c];rw[c,decide_eq_true rfl]at r7;exact r7
   ·rw[if_neg c];rw[decide_eq_false (fun z=>c (by have:=V.int.inj z;omega))]at r7;exact r7
  ·rintro ys' H6 ⟨g6,pr6⟩ p hp
   rw[wr (by omega)]at pr6;refine nxt hi ⟨ras2++[p],by rw[wF];rfl,?_⟩;rw[zq (La.xI hi)];exact(G.mono g6).snoc hp pr6
 ·rintro ys H' ⟨ras2,rfl,G⟩ t ht
  rw[wr (by omega)]at G;exact q t ras2 _ (G.same.trans (zg ht _)) (G.done ht)
def zaq:Sp:=fun vs H Q _=>∃(k:Int)(A B:Tb)(n b:Nat)(tA tB:Addr)(rA rB:List Addr),vs=[.int k,.ref tA,.ref tB]/\kab k/\kaf H A tA rA/\kaf H B tB rB/\Fit k n/\TOk k n n 80 A/\TOk k b n 80 B/\1<=b/\b<=100 /\
 ∀ R t rs H',Same H H'->NewT H H' R t rs->kax k n A B R->Q (.ref t) H'
theorem zdJ{k:Int}(hk:kab k){n:Nat}{F:Type}[Lean.Grind.Field F](φ:La.Kf k F)(v:Nat->F)(hv:∀ j,n<=j->v j=0):La.Rm φ (La.kan k n) v:=by
 refine(La.ja (La.jU φ hk n) hk v).mp ⟨hv,fun u hu=>?_⟩;refine La.dot_zero n _ _ fun j hj=>?_
 have z:=hu.2 _ (.of ⟨_,wk (La.xI (k:=k) hj),rfl⟩);rw[La.zV,La.zR (u':=u) (v':=La.kah j 1) fun i _=>by rw[La.qw hj i],La.yZ hj]at z
 grind
theorem zeS{n b:Nat}{a c:Int}{A B R:Tb}(oA:TOk 0 n n 80 A)(oB:TOk 0 b n 80 B)(hA:La.Scl 0 A.flatten (A.flatten.map (La.scW a)) a)(hB:La.Scl 0 B.flatten (B.flatten.map (La.scW c)) c)(L:kax gpi n (restM a A) (restM c B) R)(hl:R.length=n):kax 0 n A B (La.kan 0 n):=by
 refine⟨⟨vd n,fun F _ φ=>La.jU φ (.inl rfl) n⟩,fun F _ φ v=>⟨fun h=>?_,fun h=>?_⟩⟩
 ·refine La.zbf zjH oA.ok oA.len oB.ok hA hB (fun F _ φ j hj=>?_) φ v fun j hj=>La.ze8 (La.yD (.inl rfl) n).1 h hj
  obtain⟨lr,iR⟩:=L.rd;have oU:=La.yD YQ n;have sub:=((iR F φ).sub_len (La.jU φ YQ n) fun v hv=>zdJ YQ φ v fun j hj=>(iR F φ).supp hv j hj).2 (by rw[oU.2,hl];exact ww _);refine(L.eq F φ _).mp (sub _ ?_);exact .of ⟨_,wk (La.xI hj),funext fun i=>(La.qw hj i).symm⟩
 ·exact zdJ (.inl rfl) φ v fun j hj=>La.ze8 (La.xF (.inl rfl) oA.ok oA.len oB.ok n) h hj
theorem zhf {tk:Nat} (D:Df K mg "least_room" SW jF) (Xx:Kn P w K mg base "grown_room" 48 SW zdv) (Qo:Kn P w K mg base "rests_of" 43 SU zc9) (zbU:Kn P w K mg base "unit" 2 SY zaT) (yV:mg "GREAT_PRIME" = some (.int 2305843009213693951 tk)) (m_len:mg "len" = none):Kn P w K mg base "least_room" 49 SW zaq:=by
 refine D.kn sZ (fun vs H Q E h=>?_) (fun f cdv A' outer s' H vs Q E hr h=>?_)
 ·obtain⟨k,A,B,n,b,tA,tB,rA,rB,rfl,_⟩:=h;rfl
 obtain⟨k,A,B,n,b,tA,tB,rA,rB,rfl,hk,hA,hB,hf,oA,oB,b1,b100,q⟩:=h;have szl:=dN
 have n10:=hf.n10;have lA:=zk hA.2;rw[oA.len]at lA;refine⟨_,(zd (zm (i:=3) sZ.nd rfl (.inl rfl) (zD zL rfl m_len yi (zc (pv 1) ze))) (zd (yn (PW.pt (pw_and (zG xp (pv 0) zf (kae _)) (pw_and1 (zG xp (zD zL rfl m_len yi (zc (zp Xx hr (zc (zgD (v:=.int 2305843009213693951) rfl yV ⟨_,rfl⟩) (zc (zp Qo hr (zc (pv 1) ze)) (zc (zp Qo hr (zc (pv 2) ze)) ze)))) ze)) (pv 3) (kae _))))) (zi (zo (zp zbU hr (zc (pv 0) (zc (pv 3) ze))))) zK) (zi (zo (zp Xx hr (zc (pv 0) (zc (pv 1) (zc (pv 2) ze)))))))),?_⟩;refine⟨_,rfl,tA,_,rfl,.inl (SqL.of hA.1),?_⟩;rw[we,← lA];refine⟨_,rfl,rfl,_,rfl,?_⟩;refine ite2 (fun c=>?_) (fun c=>?_)
 ·have k0:k=0:=V.int.inj (of_decide_eq_true c);subst k0;have n3:n<=3:=by rcases hf.2 with h|h;exact h;exact absurd rfl h.1
  refine⟨_,rfl,A,n,n,tA,rA,rfl,hA,oA,hf.1,by omega,by omega,fun a t1 r1 H1 g1 n1 sA=>?_⟩;refine⟨_,rfl,B,b,n,tB,rB,rfl,hB.mono g1,oB,b1,b100,by omega,fun c2 t2 r2 H2 g2 n2 sB=>?_⟩;refine⟨gpi,restM a A,restM c2 B,n,b,t1,t2,r1,r2,rfl,YQ,n1.tab.mono g2,n2.tab,⟨hf.1,.inl n3⟩,zbh oA a,zbh oB c2,by omega,fun R t3 r3 H3 g3 n3' L=>?_⟩;have l3:=zk n3'.tab.2;have g13:=(g1.trans g2).trans g3;refine⟨t3,_,rfl,.inl (SqL.of n3'.tab.1),_,rfl,rfl,_,rfl,?_⟩;refine ite2 (fun d=>?_) (fun d=>?_)
  ·have d':=V.int.inj (of_decide_eq_true d);rw[we]at d';refine⟨_,rfl,_,rfl,0,n,rfl,by omega,fun t ras H4 g4 nt=>?_⟩;exact q _ t ras H4 (g13.trans g4) ⟨nt.tab,g13.none nt.ft,fun r hr=>g13.none (nt.fr r hr),nt.nd,nt.nt⟩ (zeS oA oB sA sB L (by omega))
  ·refine⟨_,rfl,_,rfl,_,rfl,0,A,B,n,b,tA,tB,rA,rB,rfl,hk,hA.mono g13,hB.mono g13,hf,oA,oB,by omega,fun R t rs H4 g4 nt lo=>?_⟩;exact q R t rs H4 (g13.trans g4) ⟨nt.tab,g13.none nt.ft,fun r hr=>g13.none (nt.fr r hr),nt.nd,nt.nt⟩ lo
 ·refine iteF ?_;refine⟨_,rfl,_,rfl,_,rfl,k,A,B,n,b,tA,tB,rA,rB,rfl,hk,hA,hB,hf,oA,oB,by omega,fun R t rs H4 g4 nt lo=>?_⟩;exact q R t rs H4 g4 nt lo
def Qy:Sp:=fun vs H Q _=>∃(k:Int)(A B C:Tb)(n h s:Nat)(pm ta tb tc:Addr)(ra rb rc:List Addr),vs=[.int k,.ref pm]/\kab k/\kav H A B C pm ta tb tc ra rb rc/\Fit k n/\MOk k n h s 80 A B C/\1<=h/\h<=100 /\
 ∀ R t rs H',Same H H'->NewT H H' R t rs->kax k n A (kaa h B) R->Q (.ref t) H'
theorem zek (D:Df K mg "steered_room" SZ xS) (qR:Kn P w K mg base "turned" 1 SU jd) (Zn:Kn P w K mg base "least_room" 49 SW zaq):Kn P w K mg base "steered_room" 50 SZ Qy:=by
 refine D.kn Jh (fun vs H Q E h=>?_) (fun f cdv A' outer s' H vs Q E hr h=>?_)
 ·obtain⟨k,A,B,C,n,h,s,pm,ta,tb,tc,ra,rb,rc,rfl,_⟩:=h;rfl
 obtain⟨k,A,B,C,n,h,s,pm,ta,tb,tc,ra,rb,rc,rfl,hk,hM,hf,oM,h1,h100,q⟩:=h;have szl:=dN
 have n10:=hf.n10;have n1:=hf.1;have lB:=oM.b.len;refine⟨_,(zi (zo (zp Zn hr (zc (pv 0) (zc (zE zy (pv 1) zf) (zc (zp qR hr (zc (zE zy (pv 1) zf) ze)) ze)))))),?_⟩;refine⟨_,rfl,_,rfl,pm,_,_,_,rfl,rfl,SqT.of hM.tup,rfl,_,rfl,pm,_,_,_,rfl,rfl,SqT.of hM.tup,rfl,B,h,tb,rb,rfl,hM.b,(fun e=>by rw[e]at lB;simp at lB;omega),(fun r hr=>(oM.b.ok r hr).1),by omega,by omega,fun t1 r1 H1 g1 n1'=>?_⟩;refine⟨k,A,kaa h B,n,h,ta,t1,ra,r1,rfl,hk,hM.a.mono g1,n1'.tab,hf,oM.a,Qm oM.b,h1,by omega,fun R t rs H2 g2 nt lo=>?_⟩;exact q R t rs H2 (g1.trans g2) ⟨nt.tab,g1.none nt.ft,fun r hr=>g1.none (nt.fr r hr),nt.nd,nt.nt⟩ lo
def zb5:Sp:=fun vs H Q _=>∃(k:Int)(A B C:Tb)(n h s:Nat)(pm ta tb tc:Addr)(ra rb rc:List Addr),vs=[.int k,.ref pm]/\kab k/\kav H A B C pm ta tb tc ra rb rc/\Fit k n/\MOk k n h s 80 A B C/\1<=s/\s<=100 /\
 ∀ R U t rs H',Same H H'->NewT H H' U t rs->kax k n (kaa n A) C R->RdR k n U->PerpOf k n U R->Q (.ref t) H'
theorem zeX (D:Df K mg "unseen_room" SZ jf) (qR:Kn P w K mg base "turned" 1 SU jd) (Zn:Kn P w K mg base "least_room" 49 SW zaq) (Zd:Kn P w K mg base "against" 46 SS YS) (m_len:mg "len" = none):Kn P w K mg base "unseen_room" 50 SZ zb5:=by
 refine D.kn Qj (fun vs H Q E h=>?_) (fun f cdv A' outer s' H vs Q E hr h=>?_)
 ·obtain⟨k,A,B,C,n,h,s,pm,ta,tb,tc,ra,rb,rc,rfl,_⟩:=h;rfl
 obtain⟨k,A,B,C,n,h,s,pm,ta,tb,tc,ra,rb,rc,rfl,hk,hM,hf,oM,s1,s100,q⟩:=h;have szl:=dN
 have n10:=hf.n10;have n1:=hf.1;have lA:=oM.a.len;have lra:=zk hM.a.2;refine⟨_,(zi (zo (zp Zd hr (zc (pv 0) (zc (zD zL rfl m_len yi (zc (zE zy (pv 1) zf) ze)) (zc (zp Zn hr (zc (pv 0) (zc (zp qR hr (zc (zE zy (pv 1) zf) ze)) (zc (zE zy (pv 1) zf) ze)))) ze)))))),?_⟩;refine⟨_,rfl,_,rfl,pm,_,_,_,rfl,rfl,SqT.of hM.tup,rfl,ta,_,rfl,.inl (SqL.of hM.a.1),_,rfl,_,rfl,pm,_,_,_,rfl,rfl,SqT.of hM.tup,rfl,A,n,ta,ra,rfl,hM.a,(fun e=>by rw[e]at lA;simp at lA;omega),(fun r hr=>(oM.a.ok r hr).1),by omega,by omega,fun t1 r1 H1 g1 n1'=>?_⟩;have hM1:=hM.mono g1;refine⟨_,rfl,pm,_,_,_,rfl,rfl,SqT.of hM1.tup,rfl,k,kaa n A,C,n,s,t1,tc,r1,rc,rfl,hk,n1'.tab,hM1.c,hf,Qm oM.a,oM.c,s1,by omega,fun R t rs H2 g2 nt lo=>?_⟩;obtain⟨lr,iR⟩:=lo.rd;have sm:=(Jr hk hf (Qm oM.a) oM.c (show n<=n+1 by omega) lo.rd lo.eq).2;refine⟨k,n,R,lr,capC n 596488,t,rs,(by rw[we,← lra,lA];rfl),hk,nt.tab,iR,sm,cap7 (by decide),n1,by omega,cap2 hf (by decide),fun U lu t3 r3 H3 g3 n3 iU pe=>?_⟩;have g13:=g1.trans g2;exact q R U t3 r3 H3 (g13.trans g3) ⟨n3.tab,g13.none n3.ft,fun r hr=>g13.none (n3.fr r hr),n3.nd,n3.nt⟩ lo ⟨lu,iU⟩ pe
def Ql:Sp:=fun vs H Q _=>∃(A B:Tb)(n h:Nat)(ta tb:Addr)(ra rb:List Addr),vs=[.ref ta,.ref tb]/\kaf H A ta ra/\kaf H B tb rb/\A.length=B.length/\(∀ r∈A,r.length=n)/\(∀ r∈B,r.length=h)/\n+h<=sizeLine/\A.length<sizeLine /\
 ∀ p ras H',Same H H'->NewT H H' (augM A B) p ras->Q (.ref p) H'
theorem zeA (D:Df K mg "abreast" SE Ye) (m_zip:mg "zip" = none):Kn P w K mg base "abreast" 1 SE Ql:=by
 refine D.kn zd9 (fun vs H Q E h=>?_) (fun f cdv A' outer s' H vs Q E hr h=>?_)
 ·obtain⟨A,B,n,h,ta,tb,ra,rb,rfl,_⟩:=h;rfl
 obtain⟨A,B,n,h,ta,tb,ra,rb,rfl,hA,hB,lAB,nA,nB,nh,lA,q⟩:=h;have szl:=dN
 refine⟨_,(zi (zo (ZQ ["left", "right"] [] [] ⟨rfl,rfl,rfl,rfl,rfl,rfl,by decide +kernel⟩ rfl (YZ rfl m_zip (zc (pv 0) (zc (pv 1) ze))) (ZD (yz (yB (by decide)) yy (yz (yB (by decide)) yy qh))) fun _ _ _ _ _ _=>⟨(jZ 2 rfl (yd (zI (i:=0) (by decide:(["left", "right"]:List Str).Nodup) rfl (by first|exact Or.inl rfl|exact Or.inr rfl)) (yd (zI (i:=1) (by decide:(["left", "right"]:List Str).Nodup) rfl (by first|exact Or.inl rfl|exact Or.inr rfl)) je))),zO,(zt ZN (pv 0) (pv 1))⟩))),?_⟩;have la:=zk hA.2;have lb:=zk hB.2;refine⟨_,rfl,_,rfl,ta,tb,_,_,rfl,SqL.of hA.1,SqL.of hB.1,?_⟩;refine Zo (xs:=ra.map V.ref) (zs:=rb.map V.ref) (by rw[we,we];omega) (fun i ys H'=>∃ ras,ys=ras.map V.ref/\Grow H H' ((augM A B).take i) ras) ⟨[],rfl,Grow.nil H (Same.refl H)⟩ ?_ ?_ ?_
 ·rintro i ys H' hi ⟨ras,rfl,G⟩
  refine⟨SqL.of (G.same _ _ hA.1),SqL.of (G.same _ _ hB.1),?_⟩;have:=zk G.rows;rw[wx]at this;rw[we]at hi ⊢;omega
 ·rintro i x z T ys H' hx' hz' hi hT ⟨ras,rfl,G⟩
  have g':=zg hT (.tup [x,z]);have G1:=G.mono g';obtain⟨row,a,hrow,ha,rfl,hR⟩:=(hA.mono G1.same).row hx';obtain⟨row2,a2,hrow2,ha2,rfl,hR2⟩:=(hB.mono G1.same).row hz';obtain⟨us1,hu1,pu1,lu1⟩:=hR.len;obtain⟨us2,hu2,pu2,lu2⟩:=hR2.len;have r1:=nA _ (wk hrow);have r2:=nB _ (wk hrow2);refine⟨T,_,rfl,SqT.of zh,rfl,_,_,rfl,_,_,rfl,rfl,?_⟩;generalize upd H' T (.tup [.ref a,.ref a2])=H1 at *
  first|refine gyes ?_|refine tyes ?_
  refine⟨_,rfl,_,rfl,a,a2,_,_,rfl,rfl,hu1,hu2,(by rw[lu1,lu2,r1,r2];exact nh),fun p hp=>?_⟩;refine nxt hi ⟨ras++[p],by rw[wF];rfl,?_⟩;rw[zq (zhl hrow hrow2)];exact G1.snoc hp (qU pu1 pu2)
 ·rintro ys H' ⟨ras,rfl,G⟩ pb hpb
  rw[we,wr (by unfold augM;rw[wZ];omega)]at G;have N:=G.done hpb;have g1:=G.same.trans (zg hpb (.lst (ras.map V.ref)));exact q pb ras _ g1 N
def ziu:Sp:=fun vs H Q _=>∃(k:Int)(n:Nat)(W1 W2:Tb)(l1 l2:List Nat)(C Pm GJ:Nat)(t1 t2:Addr)(r1 r2:List Addr),vs=[.int k,.int (n:Int),.ref t1,.ref t2]/\kab k/\kaf H W1 t1 r1/\kaf H W2 t2 r2/\IsRa k n W1 l1/\IsRa k n W2 l2/\La.kak C W1/\La.kak C W2/\61<=C/\61<=Pm/\61<=GJ/\1<=n/\n<=64/\(n*C+1)*2^n<=60000000/\(Pm+1)*2^n<=60000000/\(n*GJ+1)*2^n<=60000000 /\
 (∀ A la,IsRa k n A la->(∀(F:Type) [Lean.Grind.Field F] (φ:La.Kf k F) (v:Nat->F),La.Rm φ A v↔La.perp n (La.Rm φ W1) v)->La.kak Pm A)/\(∀ A la,IsRa k n A la->(∀(F:Type) [Lean.Grind.Field F] (φ:La.Kf k F) (v:Nat->F),La.Rm φ A v↔La.perp n (La.Rm φ W2) v)->La.kak Pm A) /\
 (∀ A1 A2 J la1 la2 lj,IsRa k n A1 la1->IsRa k n A2 la2->(∀(F:Type) [Lean.Grind.Field F] (φ:La.Kf k F) (v:Nat->F),La.Rm φ A1 v↔La.perp n (La.Rm φ W1) v)->(∀(F:Type) [Lean.Grind.Field F] (φ:La.Kf k F) (v:Nat->F),La.Rm φ A2 v↔La.perp n (La.Rm φ W2) v)->(∀(F:Type) [Lean.Grind.Field F] (φ:La.Kf k F),La.kaq φ n (A1++A2) J lj)->La.kak GJ J) /\
 ∀ M lm top rs H',Same H H'->NewT H H' M top rs->IsRa k n M lm->MetOf k M W1 W2->(∃ A1 A2 J la1 la2 lj,IsRa k n A1 la1/\IsRa k n A2 la2/\PerpOf k n A1 W1/\PerpOf k n A2 W2/\(∀(F:Type) [Lean.Grind.Field F] (φ:La.Kf k F),La.kaq φ n (A1++A2) J lj)/\PerpOf k n M J)->Q (.ref top) H'
theorem zj2 (D:Df K mg "met" qc zhy) (Zd:Kn P w K mg base "against" 46 SS YS) (qL:Kn P w K mg base "joined" 46 SI Zc):Kn P w K mg base "met" 47 qc ziu:=by
 refine D.kn zke (fun vs H Q E h=>?_) (fun f cdv A' outer s H vs Q E hr h=>?_)
 ·obtain⟨k,n,W1,W2,l1,l2,C,Pm,GJ,t1,t2,r1,r2,rfl,_⟩:=h;rfl
 obtain⟨k,n,W1,W2,l1,l2,C,Pm,GJ,t1,t2,r1,r2,rfl,hk,T1,T2,i1,i2,c1,c2,c7,p7,j7,n1,n64,hc,hp,hj,hP1,hP2,hJ,q⟩:=h;refine⟨_,(zi (zo (zp Zd hr (zc (pv 0) (zc (pv 1) (zc (zp qL hr (zc (pv 0) (zc (zp Zd hr (zc (pv 0) (zc (pv 1) (zc (pv 2) ze)))) (zc (zp Zd hr (zc (pv 0) (zc (pv 1) (zc (pv 3) ze)))) ze)))) ze)))))),?_⟩;refine⟨_,rfl,_,rfl,_,rfl,_,rfl,_,rfl,_,rfl,k,n,W1,l1,C,t1,r1,rfl,hk,T1,i1,c1,c7,n1,n64,hc,fun A1 la1 ta1 ra1 H1 g1 nA1 iA1 pA1=>?_⟩;refine⟨_,rfl,_,rfl,_,rfl,k,n,W2,l2,C,t2,r2,rfl,hk,T2.mono g1,i2,c2,c7,n1,n64,hc,fun A2 la2 ta2 ra2 H2 g2 nA2 iA2 pA2=>?_⟩;have lA1:=yN hk iA1;have lA2:=yN hk iA2;refine⟨k,A1,A2,n,Pm,ta1,ta2,ra1,ra2,rfl,hk,nA1.tab.mono g2,nA2.tab,(yl hk iA1).1,(yl hk iA2).1,hP1 A1 la1 iA1 pA1,hP2 A2 la2 iA2 pA2,p7,hp,n64,by omega,by omega,fun J lj tj rj H3 g3 nJ redJ=>?_⟩;refine⟨k,n,J,lj,GJ,tj,rj,rfl,hk,nJ.tab,yY redJ,hJ A1 A2 J la1 la2 lj iA1 iA2 pA1 pA2 redJ,j7,n1,n64,hj,fun M lm tm rm H4 g4 nM iM pM=>?_⟩;have g:=(g1.trans g2).trans g3;refine q M lm tm rm H4 (g.trans g4) ⟨nM.tab,g.none nM.ft,fun r hr=>g.none (nM.fr r hr),nM.nd,nM.nt⟩ iM (fun F _ φ v=>?_) ⟨A1,A2,J,la1,la2,lj,iA1,iA2,pA1,pA2,redJ,pM⟩;exact(pM F φ v).trans (ziG hk i1 i2 pA1 pA2 redJ F φ v)
def zf4:Sp:=fun vs H Q _=>∃(k:Int)(M:Tb)(n C:Nat)(t:Addr)(ras:List Addr),vs=[.int k,.ref t]/\kab k/\kaf H M t ras/\La.OkM k n M/\M.length=n/\La.kak C M/\61<=C/\(C+1)*2^(n+n)<=60000000/\n<=30/\(∀ R ls,(∀(F:Type) [Lean.Grind.Field F] (φ:La.Kf k F),La.kaq φ (n+n) (La.kao k n M) R ls)->R.map (gv n)=La.kan k n) /\
 ∀ R ls t' ras' H',Same H H'->NewT H H' (R.map (vX n)) t' ras'->(∀(F:Type) [Lean.Grind.Field F] (φ:La.Kf k F),La.kaq φ (n+n) (La.kao k n M) R ls)->Q (.ref t') H'
theorem Xr{k:Int}{n C:Nat}{M:Tb}(c7:61<=C)(hM:La.kak C M):La.kak C (augM M (La.kan k n)):=fun r hr=>by
 unfold augM at hr;obtain⟨i,hi,e⟩:=wG hr;rw[uz]at e;rw[← e];obtain⟨D,d0,dl,hd⟩:=hM _ (wp (l:=M) (n:=i) (by rw[wZ]at hi;omega));refine⟨D,d0,dl,fun x hx=>?_⟩
 rcases wu.mp hx with h|h
 ·exact hd x h
 ·have hu:=wp (l:=La.kan k n) (n:=i) (by rw[wZ]at hi;omega);unfold La.kan at hu;obtain⟨j,_,ej⟩:=wm.mp hu;have hx':x∈La.kal k n j:=by rw[ej];exact h
  unfold La.kal at hx';obtain⟨q,_,rfl⟩:=wm.mp hx'
  by_cases c:j=q
  ·rw[if_pos c];exact La.dB.num (by show 1*D<=_;omega)
  ·rw[if_neg c];exact La.dB.num (by show 0*D<=_;omega)
theorem zax{α β:Type}{R:α->β->Prop}{xs:List α}{ys:List β}(h:Paired R xs ys)(n:Nat):Paired R (xs.drop n) (ys.drop n):=by
 have hl:=zk h;refine Jt (by rw[ur,ur,hl]) fun i a b h1 h2=>?_
 rw[gh]at h1 h2;exact ju h h1 h2
theorem cutToF{xs:List V}(N:Nat):cutV xs none (some (N:Int))=xs.take N:=by
 unfold cutV;rw[HT.XE,wbg,wap,HT.Zf]
 rcases wO N xs.length with h|h
 ·rw[uV (by omega)]
 ·rw[gM (by omega),wr (ww _),wr h]
theorem cutFromF{xs:List V}(N:Nat):cutV xs (some (N:Int)) none=xs.drop N:=by
 unfold cutV;rw[HT.XE,HT.Zf]
 rcases wO N xs.length with h|h
 ·rw[uV (by omega),wr (by rw[ur];exact ww _)]
 ·rw[gM (by omega),uN (ww _),uN h,List.take_nil]
theorem zi5 (D:Df K mg "back" SX zdZ) (zbU:Kn P w K mg base "unit" 2 SY zaT) (zgL:Kn P w K mg base "abreast" 1 SE Ql) (jc:Kn P w K mg base "reduced" 45 SO qg) (m_len:mg "len" = none):Kn P w K mg base "back" 46 SX zf4:=by
 refine D.kn SB (fun vs H Q E h=>?_) (fun f cdv A outer s H vs Q E hr h=>?_)
 ·obtain⟨k,M,n,C,t,ras,rfl,_⟩:=h;rfl
 obtain⟨k,M,n,C,t,ras,rfl,hk,hT,oM,lM,cM,c7,hc,n30,full,q⟩:=h;have szl:=dN
 refine⟨_,(zd (zm (i:=2) SB.nd rfl (.inr rfl) (zD zL rfl m_len yi (zc (pv 1) ze))) (zd (zm (i:=3) SB.nd rfl (.inl rfl) (zp zbU hr (zc (pv 0) (zc (pv 2) ze)))) (zd (zm (i:=4) SB.nd rfl (.inl rfl) (zp jc hr (zc (pv 0) (zc (zp zgL hr (zc (pv 1) (zc (pv 3) ze))) ze)))) (zd (yn (zG (Qx hr) (yR ["size"] [2] (zH (pv 4)) fun _ _ _ _ _ _=>⟨zO,(jD qD (pv 0) Jo (jy (pv 1)))⟩) (pv 3) (kae _)) (zi zdd) zK) (zi (zo (yR ["size"] [2] (zH (pv 4)) fun _ _ _ _ _ _=>⟨zO,(jD qD (pv 0) (jy (pv 1)) Jo)⟩))))))),?_⟩;have lr:=zk hT.2;rw[lM]at lr;refine⟨_,rfl,t,_,rfl,.inl (SqL.of hT.1),?_⟩;rw[we,← lr];refine⟨_,rfl,_,rfl,k,n,rfl,by omega,fun t1 r1 H1 g1 N1=>?_⟩;have oU:=zhz hk n;refine⟨_,rfl,_,rfl,_,rfl,M,La.kan k n,n,n,t,t1,ras,r1,rfl,hT.mono g1,N1.tab,(by rw[lM,oU.len]),(fun r hr=>(oM r hr).1),(fun r hr=>(oU.ok r hr).1),(by omega),(by rw[lM];omega),fun t2 r2 H2 g2 N2=>?_⟩;have oB:La.OkM k (n+n) (augM M (La.kan k n))/\(augM M (La.kan k n)).length=n:=La.qX hk oM lM;refine⟨k,augM M (La.kan k n),n+n,C,t2,r2,rfl,hk,N2.tab,oB.1,Xr c7 cM,c7,hc,(by omega),(by rw[oB.2];omega),fun R ls t3 r3 H3 g3 N3 red lR=>?_⟩;rw[oB.2]at lR;have g13:=(g1.trans g2).trans g3;have l3:=zk N3.tab.2;have U3:=N1.tab.mono (g2.trans g3);have oR:La.OkM k (n+n) R:=by
  obtain⟨F0,i0,d0,⟨φ0⟩⟩:=La.ye hk;exact(red F0 φ0).ok
 clear N1 N2 g1 g2 g3;refine⟨_,rfl,t3,rfl,⟨_,SqL.of N3.tab.1⟩,?_⟩;refine zQ (xs:=r3.map V.ref) (fun i ys H'=>∃ ras2,ys=ras2.map V.ref/\Grow H3 H' ((R.map (gv n)).take i) ras2) ⟨[],rfl,Grow.nil H3 (Same.refl H3)⟩ ?_ ?_ ?_
 ·rintro i ys H' hi ⟨ras2,rfl,G⟩
  refine⟨SqL.of (G.same _ _ N3.tab.1),?_⟩;have:=zk G.rows;rw[wx,we]at this;rw[we];omega
 ·rintro i v ys H' hv hi ⟨ras2,rfl,G⟩
  obtain⟨row,a,hx,ha,rfl,hrow⟩:=(N3.tab.mono G.same).row hv;obtain⟨us,hus,pus,lus⟩:=hrow.len
  first|refine gyes ?_|refine tyes ?_
  refine⟨_,rfl,_,rfl,_,rfl,a,_,rfl,SqL.of hus,fun p hp=>?_⟩;rw[cutToF];refine nxt hi ⟨ras2++[p],by rw[wF];rfl,?_⟩;have e:(R.map (gv n))[i]?=some (row.take n):=by rw[wo,hx];rfl
  rw[zq e];exact G.snoc hp (zaQ pus n)
 rintro ys H4 ⟨ras2,rfl,G⟩ pl hpl
 rw[we,wr (by rw[we];omega)]at G;have N4:=G.done hpl;have g4:=G.same.trans (zg hpl (.lst (ras2.map V.ref)));generalize upd H4 pl (.lst (ras2.map V.ref))=H5 at *;have U5:=U3.mono g4;refine⟨_,rfl,tabD _,tabD _,N4.tab.rp,U5.rp,Zs _,Zs _,wI (vJ _ _) (wI (qq _) (by decide)),_,rfl,?_⟩;rw[zjt];have eU:=full R ls red;rw[decide_eq_true eU];refine iteF ?_;have T5:=N3.tab.mono g4;have lR2:R.length=n:=by have:=congrArg Gi eU;rw[we,(La.yD hk n).2]at this;exact this
 refine⟨_,rfl,t3,rfl,⟨_,SqL.of T5.1⟩,?_⟩;refine zQ (xs:=r3.map V.ref) (fun i ys H'=>∃ ras2,ys=ras2.map V.ref/\Grow H5 H' ((R.map (vX n)).take i) ras2) ⟨[],rfl,Grow.nil H5 (Same.refl H5)⟩ ?_ ?_ ?_
 ·rintro i ys H' hi ⟨ras2,rfl,G⟩
  refine⟨SqL.of (G.same _ _ T5.1),?_⟩;have:=zk G.rows;rw[wx,we]at this;rw[we];omega
 ·rintro i v ys H' hv hi ⟨ras2,rfl,G⟩
  obtain⟨row,a,hx,ha,rfl,hrow⟩:=(T5.mono G.same).row hv;obtain⟨us,hus,pus,lus⟩:=hrow.len
  first|refine gyes ?_|refine tyes ?_
  refine⟨_,rfl,_,rfl,_,rfl,a,_,rfl,SqL.of hus,fun p hp=>?_⟩;rw[cutFromF];refine nxt hi ⟨ras2++[p],by rw[wF];rfl,?_⟩;have e:(R.map (vX n))[i]?=some (row.drop n):=by rw[wo,hx];rfl
  rw[zq e];exact G.snoc hp (zax pus n)
 rintro ys H6 ⟨ras3,rfl,G6⟩ pr hpr
 rw[we,wr (by rw[we];omega)]at G6;have N6:=G6.done hpr;have g:=g13.trans g4;exact q R ls pr ras3 _ (g.trans (G6.same.trans (zg hpr _))) ⟨N6.tab,g.none N6.ft,fun r hr=>g.none (N6.fr r hr),N6.nd,N6.nt⟩ red
def zb8:Sp:=fun vs H Q _=>∃(k:Int)(n g c:Nat)(W X:Tb)(t1 t2:Addr)(r1 r2:List Addr),vs=[.int k,.ref t1,.ref t2]/\kab k/\kaf H W t1 r1/\kaf H X t2 r2/\RdR k n W/\La.OkM k n X/\La.kak g W/\La.kak g X/\X.length<=100/\n<=64/\g<=c/\61<=c/\(c+1)*2^n<=60000000/\(∀ Z,RdR k n Z->Gen k n g Z->La.kak c Z) /\
 ∀ E Z t rs H',Same H H'->kaf H' E t rs->PkI k n W X E Z X.length->Q (.ref t) H'
theorem zgB (D:Df K mg "picked" qe XH) (qL:Kn P w K mg base "joined" 46 SI Zc) (m_len:mg "len" = none):Kn P w K mg base "picked" 47 qe zb8:=by
 refine D.kn Su (fun vs H Q E h=>?_) (fun f cdv A' outer s H vs Q E hr h=>?_)
 ·obtain⟨k,n,g,c,W,X,t1,t2,r1,r2,rfl,_⟩:=h;rfl
 obtain⟨k,n,g,c,W,X,t1,t2,r1,r2,rfl,hk,T1,T2,rW,oX,cW,cX,lX,n64,gc,c7,hc,hG,q⟩:=h;have szl:=dN
 have oW:La.OkM k n W:=by obtain⟨l,i⟩:=rW;exact(yl hk i).1
 have lr2:=zk T2.2;refine⟨_,(zd (zm (i:=3) Su.nd rfl (.inl rfl) (yC ze)) (zd (zm (i:=4) Su.nd rfl (.inl rfl) (pv 1)) (zd (yu PassesOwn.never rfl (zH (pv 2)) (zI (i:=5) Su.nd rfl (.inl rfl)) (zd (zm (i:=6) Su.nd rfl (.inl rfl) (zp qL hr (zc (pv 0) (zc (pv 4) (zc (yC (zc (pv 5) ze)) ze))))) (zi (yn (zG ZM (zD zL rfl m_len yi (zc (pv 6) ze)) (zD zL rfl m_len yi (zc (pv 4) ze)) (kae _)) (zd (yU (bm0 (fun _ h=>ZL PySem.F.plainAttrs_list PySem.F.slot_list_append PySem.F.type_list_append yE h (zc (pv 5) ze)) (pv 3))) (zi (zm (i:=4) Su.nd rfl (.inl rfl) (pv 6)))) zK)))) (zi (zo (pv 3)))))),?_⟩;refine⟨(by show 0<=sizeLine;decide),fun pt hpt=>?_⟩;have g0:=zg hpt (.lst []);have h0:upd H pt (.lst []) pt=some (.lst []):=zh;have n1:t1≠pt:=fun e=>by rw[← e,T1.1]at hpt;cases hpt
 have n2:t2≠pt:=fun e=>by rw[← e,T2.1]at hpt;cases hpt
 have m1:=jt T1 hpt;have m2:=jt T2 hpt;generalize upd H pt (.lst [])=H0 at *;refine⟨_,rfl,?_⟩;refine⟨_,rfl,t2,rfl,⟨_,SqL.of (g0 _ _ T2.1)⟩,?_⟩;refine yP (xs:=r2.map V.ref) (fun i σ H'=>∃(E Z:Tb)(re rz:List Addr)(pz:Addr)(o5 o6:Option V),σ=[some (.int k),some (.ref t1),some (.ref t2),some (.ref pt),some (.ref pz),o5,o6]/\Same H H'/\kaf H' E pt re/\kaf H' Z pz rz/\pz≠pt/\pt∉rz/\pt∉re/\E.length<=i/\PkI k n W X E Z i) ⟨[],W,[],r1,t1,none,none,rfl,g0,⟨h0,.nil⟩,T1.mono g0,n1,m1,(fun h=>nomatch h),ww _,PkI.start rW X⟩ ?_ ?_ ?_
 ·rintro i σ H' _ ⟨E,Z,re,rz,pz,o5,o6,rfl,g',_⟩
  exact SqL.of (g' _ _ T2.1)
 ·rintro i v σ H' hv ⟨E,Z,re,rz,pz,o5,o6,rfl,g',hE,hZ,nz,mz,me,lE,I⟩
  obtain⟨row,a,hrow,ha,rfl,hR⟩:=(T2.mono g').row hv;have iX:i<X.length:=(wq.mp hrow).1;have orow:=oX row (wk hrow);have oZ:La.OkM k n Z:=by obtain⟨l,j⟩:=I.rd;exact(yl hk j).1
  have lZ:Z.length<=n:=by obtain⟨l,j⟩:=I.rd;exact yN hk j
  refine⟨_,rfl,_,rfl,_,rfl,(by show 1<=sizeLine;decide),fun p1 hp1=>?_⟩;have g1:=zg hp1 (.lst [.ref a]);have T3:kaf (upd H' p1 (.lst [.ref a])) [row] p1 [a]:=⟨zh,.cons (hR.mono g1) .nil⟩;generalize upd H' p1 (.lst [.ref a])=H1 at *;refine⟨k,Z,[row],n,c,pz,p1,rz,[a],rfl,hk,hZ.mono g1,T3,oZ,(fun r hr=>by rw[wD.mp hr];exact orow),hG Z I.rd (I.gen oW oX cW cX),(fun r hr=>by rw[wD.mp hr];exact(cX row (wk hrow)).mono gc),c7,hc,n64,by omega,by show 1<=1000;decide,fun R ls tr rr H2 g2 nR red=>?_⟩;have g12:=g1.trans g2;have hZ2:=hZ.mono g12;have hE2:=hE.mono g12;have lrr:=zk nR.tab.2;have lrz:=zk hZ2.2;have fpt:H2 pt=some (.lst (re.map V.ref)):=hE2.1;have ntr:tr≠pt:=fun e=>by rw[e]at nR;have:=g1 _ _ hE.1;rw[nR.ft]at this;cases this
  have mtr:pt∉rr:=fun h=>by have:=nR.fr pt h;rw[g1 _ _ hE.1]at this;cases this
  refine⟨_,rfl,tr,_,rfl,.inl (SqL.of nR.tab.1),_,rfl,pz,_,rfl,.inl (SqL.of hZ2.1),_,_,rfl,rfl,_,rfl,?_⟩;rw[we,we,← lrr,← lrz];refine ite2 (fun d=>?_) (fun d=>?_)
  ·have d':Z.length<R.length:=by have:=of_decide_eq_true d;omega
   have na:a≠pt:=fun e=>m2 (by rw[← e];exact wk ha)
   have lre:=zk hE2.2;refine⟨_,rfl,.inl ⟨rfl,_,SqL.of fpt⟩,_,rfl,pt,_,_,rfl,rfl,fpt,(by rw[we];omega),?_⟩;refine⟨_,rfl,E++[row],R,re++[a],rr,tr,_,_,rfl,yw (g'.trans g12) hpt,⟨by rw[zh,wF];rfl,?_⟩,nR.tab.upd ntr mtr fpt,ntr,mtr,fun h=>?_,by rw[wy];show E.length+1<=i+1;omega,I.more hk hrow red d'⟩
   ·refine yj (Jt (zk hE2.2) fun j x b h1 h2=>(ju hE2.2 h1 h2).upd (fun e=>me (by rw[← e];exact wk h2)) fpt) ((hR.mono g12).upd na fpt)
   ·rcases wu.mp h with h|h
    ·exact me h
    ·exact na (wD.mp h).symm
  ·have d':¬ Z.length<R.length:=fun z=>d (decide_eq_true (by omega))
   exact⟨E,Z,re,rz,pz,_,_,rfl,g'.trans g12,hE2,hZ2,nz,mz,me,by omega,I.same hk hrow red d'⟩
 ·rintro σ H' ⟨E,Z,re,rz,pz,o5,o6,rfl,g',hE,hZ,nz,mz,me,lE,I⟩
  rw[we,← lr2]at I;exact⟨_,rfl,q E Z pt re H' g' hE I⟩
theorem mul8{a b n:Nat}(h3:n<=3)(h:a<=b):a*2^n<=b*8:=vf h (pow8 h3)
theorem zkF{k:Int}(hk:kab k){n:Nat}{A B:Tb}(n3:k=0->n<=3)(wA:TW k n n 14 A)(oB:La.OkM k n B)(wB:∀ r∈B,∀ x∈r,whk k 14 x):La.kak 62 (La.kry k A B n):=by
 by_cases k0:k=0
 ·intro r hr;obtain⟨b,hb,i,hi,rfl⟩:=qO n r hr;have ob:=oB b hb;have:=n3 k0;exact zgr (by decide) (yQ hk wA.ok wA.len ob.2 ob.1 i).1 fun y hy=>(JW hk (fun _=>by omega) wA ob.2 ob.1 (wB b hb) i y hy).mono (by omega)
 ·exact Zw k0 (La.xF hk wA.ok wA.len oB n) (by decide)
theorem zb6{k:Int}(hk:kab k){n:Nat}{A B R:Tb}(n3:k=0->n<=3)(wA:TW k n n 14 A)(oB:La.OkM k n B)(wB:∀ r∈B,∀ x∈r,whk k 14 x)(L:kax k n A B R):Gen k n 62 R:=⟨_,La.xF hk wA.ok wA.len oB n,zkF hk n3 wA oB wB,L.eq⟩
theorem Ju{n c:Nat}(h:n<=3):capC n c=c:=if_pos h
theorem zd1{n c d:Nat}(h:c<=d):capC n c<=capC n d:=by unfold capC;split <;> omega
def Xw:Sp:=fun vs H Q _=>∃(k:Int)(A B C:Tb)(n h s:Nat)(pm ta tb tc:Addr)(ra rb rc:List Addr),vs=[.int k,.ref pm]/\kab k/\kav H A B C pm ta tb tc ra rb rc/\Fit k n/\MOk k n h s 80 A B C/\(TW k n n 14 A/\TW k n h 14 B/\TW k s n 14 C)/\1<=h/\h<=100/\1<=s/\s<=100 /\
 ∀ R L U M E1 E2 E3 p t0 t1 t2 t3 r0 r1 r2 r3 H',Same H H'->H' p=some (.lst [.ref t0,.ref t1,.ref t2,.ref t3])->(kaf H' M t0 r0/\kaf H' E1 t1 r1/\kaf H' E2 t2 r2/\kaf H' E3 t3 r3)->Part k n h A B C R L U->RdR k n R->RdR k n U->Quad k n R U M E1 E2 E3->La.kak (capC n 36512) (M++E1++E2++E3)->(E1.length=n->∀ r∈M++E1++E2++E3,∀ x∈r,x=nnum k 0\/x=nnum k 1)->Q (.ref p) H'
theorem zbL (D:Df K mg "stretches" SZ qP) (Qf:Kn P w K mg base "steered_room" 50 SZ Qy) (QT:Kn P w K mg base "unseen_room" 50 SZ zb5) (d_met:Kn P w K mg base "met" 47 qc ziu) (qL:Kn P w K mg base "joined" 46 SI Zc) (zbU:Kn P w K mg base "unit" 2 SY zaT) (QW:Kn P w K mg base "picked" 47 qe zb8) (m_len:mg "len" = none):Kn P w K mg base "stretches" 51 SZ Xw:=by
 refine D.kn Sh (fun vs H Q E h=>?_) (fun f cdv A' outer s' H vs Q E hr h=>?_)
 ·obtain⟨k,A,B,C,n,h,s,pm,ta,tb,tc,ra,rb,rc,rfl,_⟩:=h;rfl
 obtain⟨k,A,B,C,n,h,s,pm,ta,tb,tc,ra,rb,rc,rfl,hk,hM,hf,oM,⟨wA,wB,wC⟩,h1,h100,s1,s100,q⟩:=h;have szl:=dN
 have n10:=hf.n10;have n1:=hf.1;have n3:k=0->n<=3:=fun e=>by
  rcases hf.2 with h|h
  ·exact h
  ·exact absurd e h.1
 have lra:=zk hM.a.2;rw[oM.a.len]at lra;have oBt:=(Qm oM.b).ok;have wAt:TW k n n 14 (kaa n A):=⟨zj n A,(Qm oM.a).ok,xA wA.ok wA.sz⟩;refine⟨_,(zd (zm (i:=2) Sh.nd rfl (.inl rfl) (zD zL rfl m_len yi (zc (zE zy (pv 1) zf) ze))) (zd (zm (i:=3) Sh.nd rfl (.inl rfl) (zp Qf hr (zc (pv 0) (zc (pv 1) ze)))) (zd (zm (i:=4) Sh.nd rfl (.inl rfl) (zp QT hr (zc (pv 0) (zc (pv 1) ze)))) (zd (zm (i:=5) Sh.nd rfl (.inl rfl) (zp d_met hr (zc (pv 0) (zc (pv 2) (zc (pv 3) (zc (pv 4) ze)))))) (zd (zm (i:=6) Sh.nd rfl (.inl rfl) (zp QW hr (zc (pv 0) (zc (zp qL hr (zc (pv 0) (zc (pv 3) (zc (pv 4) ze)))) (zc (zp zbU hr (zc (pv 0) (zc (pv 2) ze))) ze))))) (zi (zo (yC (zc (pv 5) (zc (zp QW hr (zc (pv 0) (zc (pv 5) (zc (pv 3) ze)))) (zc (zp QW hr (zc (pv 0) (zc (pv 5) (zc (pv 4) ze)))) (zc (pv 6) ze)))))))))))),?_⟩;refine⟨_,rfl,pm,_,_,.ref ta,rfl,rfl,SqT.of hM.tup,rfl,ta,_,rfl,.inl (SqL.of hM.a.1),?_⟩;rw[we,← lra];refine⟨_,rfl,_,rfl,k,A,B,C,n,h,s,pm,ta,tb,tc,ra,rb,rc,rfl,hk,hM,hf,oM,h1,h100,fun R tR rR H1 g1 nR LR=>?_⟩;have hM1:=hM.mono g1;refine⟨_,rfl,_,rfl,k,A,B,C,n,h,s,pm,ta,tb,tc,ra,rb,rc,rfl,hk,hM1,hf,oM,s1,s100,fun L U tU rU H2 g2 nU LL rdU pU=>?_⟩;have TR:=nR.tab.mono g2;obtain⟨lr,iR⟩:=id LR.rd;obtain⟨lu,iU⟩:=id rdU;obtain⟨ll,iL⟩:=id LL.rd;have gR:=zb6 hk n3 wA oBt (xA wB.ok wB.sz) LR;have gL:=zb6 hk n3 wAt oM.c.ok wC.sz LL;have oR:=(yl hk iR).1;have oU:=(yl hk iU).1;have cL:n<=3->La.kak 504 L:=fun h3=>(Zv hk iL (by decide) gL).mono (mul8 h3 (ww 63))
 have cR:La.kak (capC n 1520) R:=xv hf oR fun h3=>(Zv hk iR (by decide) gR).mono (wI (mul8 h3 (ww 63)) (by decide))
 have b190:n<=3->(n *(62+1)+1)*2^n<=1520:=fun h3=>mul8 h3 (show n *(62+1)+1<=190 by omega)
 have cU:La.kak (capC n 1520) U:=xv hf oU fun h3=>(JK hk n1 iL (by decide) gL iU pU).mono (b190 h3)
 have pR:∀ A1 la1,IsRa k n A1 la1->PerpOf k n A1 R->La.kak (capC n 1520) A1:=fun A1 la1 i e=>xv hf (yl hk i).1 fun h3=>(JK hk n1 iR (by decide) gR i e).mono (b190 h3)
 have pU':∀ A1 la1,IsRa k n A1 la1->PerpOf k n A1 U->La.kak (capC n 1520) A1:=fun A1 la1 i e=>xv hf (yl hk i).1 fun h3=>by
  rw[zkE hk LL.rd ⟨_,i⟩ pU e];exact(cL h3).mono (by decide)
 have gJ:∀ A1 A2 J la1 la2 lj,IsRa k n A1 la1->IsRa k n A2 la2->PerpOf k n A1 R->PerpOf k n A2 U->(∀(F:Type) [Lean.Grind.Field F] (φ:La.Kf k F),La.kaq φ n (A1++A2) J lj)->n<=3->Gen k n 1520 J:=fun A1 A2 J la1 la2 lj i1 i2 e1 e2 red h3=>by
  have c1:=pR A1 la1 i1 e1;have c2:=pU' A2 la2 i2 e2;rw[Ju h3]at c1 c2;exact zgU (zdP (yl hk i1).1 c1) (zdP (yl hk i2).1 c2) red
 refine⟨_,rfl,_,rfl,_,rfl,_,rfl,k,n,R,U,lr,lu,capC n 1520,capC n 1520,capC n 12168,tR,tU,rR,rU,rfl,hk,TR,nU.tab,iR,iU,cR,cU,cap7 (by decide),cap7 (by decide),cap7 (by decide),n1,by omega,cap2 hf (by decide),cap1 hf (by decide),cap2 hf (by decide),pR,pU',(fun A1 A2 J la1 la2 lj i1 i2 e1 e2 red=>xv hf (yl hk (yY red)).1 fun h3=>(Zv hk (yY red) (by decide) (gJ A1 A2 J la1 la2 lj i1 i2 e1 e2 red h3)).mono (mul8 h3 (ww 1521))),fun M lm tM rM H3 g3 nM iM metM ⟨A1,A2,J0,la1,la2,lj0,i1,i2,e1,e2,red0,pM⟩=>?_⟩;have oMM:=(yl hk iM).1;have cM:La.kak (capC n 36512) M:=xv hf oMM fun h3=>(JK hk n1 (yY red0) (by decide) (gJ A1 A2 J0 la1 la2 lj0 i1 i2 e1 e2 red0 h3) iM pM).mono (mul8 h3 (show n *(1520+1)+1<=4564 by omega))
 clear gJ pR pU' i1 i2 e1 e2 red0 pM b190 cL;have up:capC n 1520<=capC n 36512:=zd1 (by decide);have lR:=yN hk iR;have lU:=yN hk iU;have TR3:=TR.mono g3;have TU3:=nU.tab.mono g3;refine⟨_,rfl,_,rfl,_,rfl,_,rfl,k,R,U,n,capC n 1520,tR,tU,rR,rU,rfl,hk,TR3,TU3,oR,oU,cR,cU,cap7 (by decide),cap1 hf (by decide),by omega,by omega,by omega,fun J lj tJ rJ H4 g4 nJ redJ=>?_⟩;have iJ:=yY redJ;have oJ:=(yl hk iJ).1;have cJ:La.kak (capC n 36512) J:=xv hf oJ fun h3=>by
  rw[Ju h3]at cR cU;exact(Zv hk iJ (by decide) (zgU (zdP oR cR) (zdP oU cU) redJ)).mono (wI (mul8 h3 (ww 1521)) (by decide))
 have hG:∀ Z,RdR k n Z->Gen k n (capC n 36512) Z->La.kak (capC n 292104) Z:=fun Z ⟨lz,iz⟩ gz=>xv hf (yl hk iz).1 fun h3=>by
  rw[Ju h3]at gz;exact(Zv hk iz (by decide) gz).mono (mul8 h3 (ww 36513))
 have c292:capC n 36512<=capC n 292104:=zd1 (by decide);refine⟨_,rfl,_,rfl,k,n,rfl,by omega,fun tI rI H5 g5 nI=>?_⟩;obtain⟨oI,lI⟩:=La.yD hk n;have cI:La.kak (capC n 36512) (La.kan k n):=fun r hr=>by
  have c7:61<=capC n 36512:=cap7 (by decide);have p2:2^61<=2^capC n 36512:=ve (by decide) c7;refine⟨1,by decide,by omega,fun x hx=>?_⟩;unfold La.kan at hr;obtain⟨j,_,rfl⟩:=wm.mp hr;unfold La.kal at hx;obtain⟨q,_,rfl⟩:=wm.mp hx
  by_cases c:j=q
  ·rw[if_pos c];exact La.dB.num (by show 1*1<=_;omega)
  ·rw[if_neg c];exact La.dB.num (by show 0*1<=_;omega)
 refine⟨k,n,capC n 36512,capC n 292104,J,La.kan k n,tJ,tI,rJ,rI,rfl,hk,nJ.tab.mono g5,nI.tab,⟨lj,iJ⟩,oI,cJ,cI,by omega,by omega,c292,cap7 (by decide),cap1 hf (by decide),hG,fun E3 V3 t3 r3 H6 g6 T3 pk3=>?_⟩;rw[lI]at pk3;have g36:=(g4.trans g5).trans g6;have TM6:=nM.tab.mono g36;have TR6:=TR3.mono g36;have TU6:=TU3.mono g36;refine⟨_,rfl,_,rfl,_,rfl,_,rfl,k,n,capC n 36512,capC n 292104,M,R,tM,tR,rM,rR,rfl,hk,TM6,TR6,⟨lm,iM⟩,oR,cM,cR.mono up,by omega,by omega,c292,cap7 (by decide),cap1 hf (by decide),hG,fun E1 V1 t1 r1 H7 g7 T1 pk1=>?_⟩;refine⟨_,rfl,_,rfl,_,rfl,k,n,capC n 36512,capC n 292104,M,U,tM,tU,rM,rU,rfl,hk,TM6.mono g7,TU6.mono g7,⟨lm,iM⟩,oU,cM,cU.mono up,by omega,by omega,c292,cap7 (by decide),cap1 hf (by decide),hG,fun E2 V2 t2 r2 H8 g8 T2 pk2=>?_⟩;refine⟨_,rfl,(by show 4<=sizeLine;decide),fun p hp=>?_⟩;have g9:=zg hp (.lst [.ref tM,.ref t1,.ref t2,.ref t3]);have g78:=g7.trans g8;have Qd:=zje hk LR.rd rdU ⟨lm,iM⟩ ⟨lj,iJ⟩ metM (zaA redJ) pk1 pk2 pk3;refine q R L U M E1 E2 E3 p tM t1 t2 t3 rM r1 r2 r3 _ (((((g1.trans g2).trans g3).trans g36).trans g78).trans g9) zh ⟨(TM6.mono g78).mono g9,(T1.mono g8).mono g9,T2.mono g9,(T3.mono g78).mono g9⟩ ⟨n1,oM.a.ok,oM.a.len,oM.b.ok,oM.b.len,oM.c.ok,LR,LL,pU⟩ LR.rd rdU Qd (fun r hr=>?_) fun e1n r hr x hx=>?_
 ·rcases wu.mp hr with h|h
  ·rcases wu.mp h with h|h
   ·rcases wu.mp h with h|h
    ·exact cM r h
    ·exact(cR r (pk1.sub r h)).mono up
   ·exact(cU r (pk2.sub r h)).mono up
  ·exact cI r (pk3.sub r h)
 ·have len:=Qd.len;have zM:M=[]:=vx (by omega);have z2:E2=[]:=vx (by omega);have z3:E3=[]:=vx (by omega);rw[zM,z2,z3,wab,vH,vH]at hr;have lRn:R.length=n:=by
   have:=(XQ hk LR.rd (fun F _ φ v h=>((metM F φ v).mp h).1) pk1).2;omega
  have eR:R=La.kan k n:=zdL hk LR.rd ⟨_,fun F _ φ=>La.jU φ hk n⟩ fun F _ φ v=>⟨fun hv=>qW hk φ v fun j hj=>(iR F φ).supp hv j hj,((iR F φ).sub_len (La.jU φ hk n) fun v hv=>qW hk φ v fun j hj=>(iR F φ).supp hv j hj).2 (by rw[lI,lRn];exact ww _) v⟩
  have hu:=pk1.sub r hr;rw[eR]at hu;unfold La.kan at hu;obtain⟨j,_,rfl⟩:=wm.mp hu;unfold La.kal at hx;obtain⟨q,_,rfl⟩:=wm.mp hx
  by_cases c:j=q
  ·rw[if_pos c];exact .inr rfl
  ·rw[if_neg c];exact .inl rfl
theorem Qn{k:Int}{M:Tb}(h:∀ r∈M,∀ x∈r,x=nnum k 0\/x=nnum k 1):La.kak 61 M:=fun r hr=>by
 have p2:2^61=2305843009213693952:=by decide
 refine⟨1,by decide,by rw[p2];omega,fun x hx=>?_⟩
 rcases h r hr x hx with e|e
 ·rw[e];exact La.dB.num (by rw[p2];show 0*1<=_;omega)
 ·rw[e];exact La.dB.num (by rw[p2];show 1*1<=_;omega)
def QL:Sp:=fun vs H Q _=>∃(k:Int)(A B C:Tb)(n h s:Nat)(pm ta tb tc:Addr)(ra rb rc:List Addr),vs=[.int k,.ref pm]/\kab k/\kav H A B C pm ta tb tc ra rb rc/\Fit k n/\n<=5/\MOk k n h s 80 A B C/\(TW k n n 14 A/\TW k n h 14 B/\TW k s n 14 C)/\1<=h/\h<=100/\1<=s/\s<=100 /\
 ∀ R L U X S (a b c d zx zs:Nat) p tT tS tz rT rS H',Same H H'->H' p=some (.tup [.ref tT,.ref tS,.ref tz])->H' tz=some (.tup ([(a:Int),(b:Int),(c:Int),(d:Int)].map V.int))->kaf H' (kaa n X) tT rT->kaf H' S tS rS->Part k n h A B C R L U->(RdR k n R/\RdR k n U)->(La.OkM k n X/\X.length=n)->(La.OkM k n S/\S.length=n)->(La.PairU k n S (kaa n X)/\La.PairU k n (kaa n X) S)->PlF k n R U X S (plc a b c d)->a+b+c+d=n->((k=0->La.kak zx X)/\(k=0->La.kak zs S)/\((b≠n/\zx=36512/\zs=1168392)\/(b=n/\zx=61/\zs=496)))->Q (.ref p) H'
theorem ziC{m c:Nat}{M:Tb}(hl:∀ r∈M,r.length=c)(h:∀ r∈M,∀ x∈r,nsm m x):∀ r∈kaa c M,∀ x∈r,nsm m x:=fun r hr x hx=>by
 unfold kaa at hr;obtain⟨j,hj,rfl⟩:=wm.mp hr;obtain⟨q,hq,rfl⟩:=wm.mp hx;have:=hl q hq;rw[vp]at hj;rw[wj,wg (by omega)];exact h q hq _ (wp _)
theorem zbv{k:Int}(hk:kab k){n C:Nat}{M R:Tb}{ls:List Nat}(hf:Fit k n)(oM:La.OkM k n M)(lM:M.length=n)(c7:61<=C)(cM:La.kak C M){z:Nat}(c1:n<=3->(C+1)*8<=z)(red:∀(F:Type) [Lean.Grind.Field F] (φ:La.Kf k F),La.kaq φ (n+n) (La.kao k n M) R ls)(lR:R.length=n):k=0->La.kak z (R.map (vX n)):=fun k0 r hr=>by
 have h3:n<=3:=by
  rcases hf.2 with h|h
  ·exact h
  ·exact absurd k0 h.1
 obtain⟨y,hy,rfl⟩:=wm.mp hr;have b:=Jq hk c7 (La.qX hk oM lM).1 (Xr c7 cM) red;have le:(C+1)*2^R.length<=z:=by
  rw[lR];exact wI (mul8 h3 (ww _)) (c1 h3)
 obtain⟨D,d0,dl,hd⟩:=(b.mono le) y hy;exact⟨D,d0,dl,fun x hx=>hd x (Gr hx)⟩
theorem zel (D:Df K mg "parting" SZ YJ) (zcU:Kn P w K mg base "stretches" 51 SZ Xw) (qR:Kn P w K mg base "turned" 1 SU jd) (zjE:Kn P w K mg base "back" 46 SX zf4) (m_len:mg "len" = none) (xy:mg "tuple" = none):Kn P w K mg base "parting" 52 SZ QL:=by
 refine D.kn Ss (fun vs H Q E h=>?_) (fun f cdv A' outer s' H vs Q E hr h=>?_)
 ·obtain⟨k,A,B,C,n,h,s,pm,ta,tb,tc,ra,rb,rc,rfl,_⟩:=h;rfl
 obtain⟨k,A,B,C,n,h,s,pm,ta,tb,tc,ra,rb,rc,rfl,hk,hM,hf,n5,oM,wM,h1,h100,s1,s100,q⟩:=h;have szl:=dN
 have n1:=hf.1;refine⟨_,(zd (zm (i:=2) Ss.nd rfl (.inl rfl) (zp zcU hr (zc (pv 0) (zc (pv 1) ze)))) (zd (zm (i:=3) Ss.nd rfl (.inl rfl) (zp qR hr (zc (zt ZN (zt ZN (zt ZN (zE zw (pv 2) zf) (zE zw (pv 2) zf)) (zE zw (pv 2) zf)) (zE zw (pv 2) zf)) ze))) (zi (zo (xm (zc (pv 3) (zc (zp zjE hr (zc (pv 0) (zc (pv 3) ze))) (zc (xH XZ rfl xy Yv (zc (yR [] [] (zH (pv 2)) fun _ _ _ _ _ _=>⟨zO,(zD zL rfl m_len yi (zc (pv 0) ze))⟩) ze)) ze)))))))),?_⟩;refine⟨_,rfl,_,rfl,k,A,B,C,n,h,s,pm,ta,tb,tc,ra,rb,rc,rfl,hk,hM,hf,oM,wM,h1,h100,s1,s100,fun R L U M E1 E2 E3 pf t0 t1 t2 t3 r0 r1 r2 r3 H1 g1 hpf ⟨T0,T1,T2,T3⟩ Pt rdR rdU Qd cX cX1=>?_⟩;have len:=Qd.len;have l0:=zk T0.2;have l1:=zk T1.2;have l2:=zk T2.2;have l3:=zk T3.2;refine⟨_,rfl,pf,_,_,.ref t0,rfl,rfl,SqL.of hpf,rfl,_,rfl,pf,_,_,.ref t1,rfl,rfl,SqL.of hpf,rfl,t0,t1,_,_,rfl,rfl,T0.1,T1.1,(by rw[we,we];omega),fun p1 hp1=>?_⟩;have g2:=zg hp1 (.lst (r0.map V.ref++r1.map V.ref));have X1:kaf (upd H1 p1 (.lst (r0.map V.ref++r1.map V.ref))) (M++E1) p1 (r0++r1):=⟨by rw[zh,wF],qU (T0.mono g2).2 (T1.mono g2).2⟩;have T2':=T2.mono g2;have T3':=T3.mono g2;have hpf2:=g2 _ _ hpf;have g12:=g1.trans g2;generalize upd H1 p1 (.lst (r0.map V.ref++r1.map V.ref))=H2 at *;refine⟨_,rfl,pf,_,_,.ref t2,rfl,rfl,SqL.of hpf2,rfl,p1,t2,_,_,rfl,rfl,X1.1,T2'.1,(by rw[we,we,wy];omega),fun p2 hp2=>?_⟩;have g3:=zg hp2 (.lst ((r0++r1).map V.ref++r2.map V.ref));have X2:kaf (upd H2 p2 (.lst ((r0++r1).map V.ref++r2.map V.ref))) (M++E1++E2) p2 (r0++r1++r2):=⟨by rw[zh,wF (l₁:=r0++r1)],qU (X1.mono g3).2 (T2'.mono g3).2⟩;have T3'':=T3'.mono g3;have hpf3:=g3 _ _ hpf2;have g13:=g12.trans g3;generalize upd H2 p2 (.lst ((r0++r1).map V.ref++r2.map V.ref))=H3 at *;refine⟨_,rfl,pf,_,_,.ref t3,rfl,rfl,SqL.of hpf3,rfl,p2,t3,_,_,rfl,rfl,X2.1,T3''.1,(by rw[we,we,wy,wy];omega),fun p3 hp3=>?_⟩;have g4:=zg hp3 (.lst ((r0++r1++r2).map V.ref++r3.map V.ref));have X3:kaf (upd H3 p3 (.lst ((r0++r1++r2).map V.ref++r3.map V.ref))) (M++E1++E2++E3) p3 (r0++r1++r2++r3):=⟨by rw[zh,wF (l₁:=r0++r1++r2)],qU (X2.mono g4).2 (T3''.mono g4).2⟩;have hpf4:=g4 _ _ hpf3;have g14:=g13.trans g4;have T0':=((T0.mono g2).mono g3).mono g4;have T1':=((T1.mono g2).mono g3).mono g4;have T2'':=(T2'.mono g3).mono g4;have T3t:=T3''.mono g4;generalize upd H3 p3 (.lst ((r0++r1++r2).map V.ref++r3.map V.ref))=H4 at *;clear X1 X2 T2' T3' T3'' hpf hpf2 hpf3 g2 g3 g4 g12 g13 T0 T1 T2 T3;have lX:(M++E1++E2++E3).length=n:=by rw[wy,wy,wy];exact len
 have oX:=Qd.ok;refine⟨M++E1++E2++E3,n,p3,_,rfl,X3,(fun e=>by rw[e]at lX;simp at lX;omega),(fun r hr=>(oX r hr).1),by omega,by omega,fun tT rT H5 g5 nT=>?_⟩;have oT:La.OkM k n (kaa n (M++E1++E2++E3)):=by have:=zZ oX;rw[lX]at this;exact this
 have lT:=zj n (M++E1++E2++E3);have c7:61<=capC n 146048:=cap7 (by decide);have cT:La.kak (capC n 146048) (kaa n (M++E1++E2++E3)):=xv hf oT fun h3=>by
  rw[Ju h3]at cX;have sT:=ziC (fun r hr=>(oX r hr).1) (YC hk oX cX (by decide));exact(zbA (by decide) (k:=k) (r:=n) (n:=n) (m:=36512) ⟨lT,oT,sT⟩).mono (wI (wU 36512 (show n+1<=4 by omega)) (by decide))
 have hc:(capC n 146048+1)*2^(n+n)<=60000000:=by
  rcases wO 3 n with h|h
  ·have e:capC n 146048=61:=if_neg (by omega);rw[e];exact wI (vg _ (ve (by decide) (show n+n<=10 by omega))) (by decide)
  ·rw[Ju h];exact wI (vg _ (ve (by decide) (show n+n<=6 by omega))) (by decide)
 refine⟨_,rfl,_,rfl,_,rfl,k,kaa n (M++E1++E2++E3),n,capC n 146048,tT,rT,rfl,hk,nT.tab,oT,lT,cT,c7,hc,by omega,(fun R' ls' red=>La.XV hk oX lX Qd.all red),fun R' ls' tS rS H6 g6 nS red=>?_⟩;have hU:=La.XV hk oX lX Qd.all red;obtain⟨F0,i0,d0,⟨φ0⟩⟩:=La.ye hk;obtain⟨oS,lR'⟩:=La.zcw hk (red F0 φ0) hU;have lS:(R'.map (vX n)).length=n:=by rw[we];exact lR'
 have pr:=(La.zbo hk oT lT red hU).2;have rp:=(La.zbo hk oT lT red hU).1;have sS:=zbv hk hf oT lT c7 cT (z:=1168392) (fun h3=>by rw[Ju h3];decide) red lR';have g46:=g5.trans g6;have four:∀(i:Nat)(v:V),([V.ref t0,V.ref t1,V.ref t2,V.ref t3]:List V)[i]?=some v->∃(W:Tb)(t:Addr)(rs:List Addr),v=.ref t/\kaf H6 W t rs/\([M.length,E1.length,E2.length,E3.length]:List Nat)[i]?=some W.length:=fun i v hv=>by
  match i,hv with
  | 0,hv=>exact⟨M,t0,r0,(Option.some.inj hv).symm,T0'.mono g46,rfl⟩
  | 1,hv=>exact⟨E1,t1,r1,(Option.some.inj hv).symm,T1'.mono g46,rfl⟩
  | 2,hv=>exact⟨E2,t2,r2,(Option.some.inj hv).symm,T2''.mono g46,rfl⟩
  | 3,hv=>exact⟨E3,t3,r3,(Option.some.inj hv).symm,T3t.mono g46,rfl⟩
  | i+4,hv=>exact absurd hv (by simp)
 have hpf6:=g46 _ _ hpf4;refine⟨_,rfl,pf,rfl,⟨_,SqL.of hpf6⟩,?_⟩;refine zQ (xs:=[V.ref t0,V.ref t1,V.ref t2,V.ref t3]) (fun i ys H'=>Same H6 H'/\ys=natV (([M.length,E1.length,E2.length,E3.length]:List Nat).take i)) ⟨Same.refl _,rfl⟩ ?_ ?_ ?_
 ·rintro i ys H' hi ⟨g,rfl⟩
  refine⟨SqL.of (g _ _ hpf6),?_⟩;unfold natV;rw[we,wx];exact uo (GV _ _) (by show 4<sizeLine;decide)
 ·rintro i v ys H' hv hi ⟨g,rfl⟩
  obtain⟨W,t,rs,rfl,hW,eW⟩:=four i v hv;have hW':=hW.mono g;have lW:=zk hW'.2
  first|refine gyes ?_|refine tyes ?_
  refine⟨_,rfl,t,_,rfl,.inl (SqL.of hW'.1),nxt hi ⟨g,?_⟩⟩;rw[zq eW,we,← lW];unfold natV;rw[wF];rfl
 rintro ys H7 ⟨g7,rfl⟩ pl hpl
 have g8:=zg hpl (.lst (natV (([M.length,E1.length,E2.length,E3.length]:List Nat).take ([V.ref t0,V.ref t1,V.ref t2,V.ref t3]:List V).length)));refine⟨pl,_,rfl,.inl ⟨SqL.of zh,fun tz htz=>?_⟩⟩;have g9:=zg htz (.tup (natV (([M.length,E1.length,E2.length,E3.length]:List Nat).take ([V.ref t0,V.ref t1,V.ref t2,V.ref t3]:List V).length)));refine⟨(by show 3<=sizeLine;decide),fun p hp=>?_⟩;have g10:=zg hp (.tup [.ref tT,.ref tS,.ref tz]);have g610:=((g7.trans g8).trans g9).trans g10
 by_cases bn:E1.length=n
 ·have c61:=Qn (cX1 bn);have cT1:La.kak 61 (kaa n (M++E1++E2++E3)):=Qn (k:=k) fun r hr x hx=>by
   unfold kaa at hr;obtain⟨j,hj,rfl⟩:=wm.mp hr;obtain⟨q,hq,rfl⟩:=wm.mp hx;have:=(oX q hq).1;rw[vp]at hj;rw[wj,wg (by omega)];exact cX1 bn q hq _ (wp _)
  refine q R L U (M++E1++E2++E3) (R'.map (vX n)) M.length E1.length E2.length E3.length 61 496 p tT tS tz rT rS _ ((g14.trans g46).trans g610) zh (g10 _ _ zh) ((nT.tab.mono g6).mono g610) (nS.tab.mono g610) Pt ⟨rdR,rdU⟩ ⟨oX,lX⟩ ⟨oS,lS⟩ ⟨pr,rp⟩ (ziz Qd lS pr) len ⟨fun _=>c61,zbv hk hf oT lT (by decide) cT1 (fun _=>by decide) red lR',.inr ⟨bn,rfl,rfl⟩⟩
 ·refine q R L U (M++E1++E2++E3) (R'.map (vX n)) M.length E1.length E2.length E3.length 36512 1168392 p tT tS tz rT rS _ ((g14.trans g46).trans g610) zh (g10 _ _ zh) ((nT.tab.mono g6).mono g610) (nS.tab.mono g610) Pt ⟨rdR,rdU⟩ ⟨oX,lX⟩ ⟨oS,lS⟩ ⟨pr,rp⟩ (ziz Qd lS pr) len ⟨fun k0=>?_,sS,.inl ⟨bn,rfl,rfl⟩⟩;have h3:n<=3:=by
   rcases hf.2 with h|h
   ·exact h
   ·exact absurd k0 h.1
  rw[Ju h3]at cX;exact cX
def QJ:Sp:=fun vs H Q _=>∃(k:Int)(M N:Tb)(b c m:Nat)(t1 t2:Addr)(r1 r2:List Addr),vs=[.int k,.ref t1,.ref t2]/\kab k/\kaf H M t1 r1/\kaf H N t2 r2/\La.OkM k b M/\La.OkM k c N/\N.length=b/\0<b/\szM m M/\szM m N/\61<=m/\(b+2)*m<=20000000/\c<sizeLine/\M.length<sizeLine /\
 ∀ t ras H',Same H H'->NewT H H' (kai k c M N) t ras->Q (.ref t) H'
theorem zeh (D:Df K mg "product" SI YB) (qR:Kn P w K mg base "turned" 1 SU jd) (jm:Kn P w K mg base "scaled" 41 SK ZI) (xM:Kn P w K mg base "sum_of_products" 44 SI zfP):Kn P w K mg base "product" 45 SI QJ:=by
 refine D.kn Sq (fun vs H Q E h=>?_) (fun f cdv A outer s H vs Q E hr h=>?_)
 ·obtain⟨k,M,N,b,c,m,t1,t2,r1,r2,rfl,_⟩:=h;rfl
 obtain⟨k,M,N,b,c,m,t1,t2,r1,r2,rfl,hk,hM,hN,oM,oN,lN,b0,sM,sN,m7,hsz,cz,mz,q⟩:=h;refine⟨_,(zd (Xn 3 Sq.nd ["kind"] [0] (zH (zp qR hr (zc (pv 2) ze))) fun _ _ _ _ _ _=>⟨zO,(zp jm hr (zc (pv 1) (zc (pv 0) ze)))⟩) (zd (zm (i:=4) Sq.nd rfl (.inl rfl) (yC ze)) (zd (yu PassesOwn.never rfl (zH (pv 1)) (zI (i:=5) Sq.nd rfl (.inl rfl)) (zd (zm (i:=6) Sq.nd rfl (.inr rfl) (zp jm hr (zc (pv 0) (zc (pv 5) ze)))) (zi (yU (bm0 (fun _ h=>ZL PySem.F.plainAttrs_list PySem.F.slot_list_append PySem.F.type_list_append yE h (zc (yR ["kind", "left"] [0,6] (zH (pv 3)) fun _ _ _ _ _ _=>⟨zO,(zp xM hr (zc (pv 1) (zc (pv 2) (zc (pv 0) ze))))⟩) ze)) (pv 4)))))) (zi (zo (pv 4)))))),?_⟩;obtain⟨z1,z2,z3,z4⟩:=ziD m7 hsz;have oT:=zZ oN;rw[lN]at oT;have sT:=zeP oN sN;refine⟨_,rfl,N,c,t2,r2,rfl,hN,(fun e=>by rw[e]at lN;simp at lN;omega),(fun r hr=>(oN r hr).1),cz,by omega,fun tt rt H1 g1 nT=>?_⟩;refine⟨tt,rfl,⟨_,SqL.of nT.tab.1⟩,?_⟩;have tl:=zk nT.tab.2;rw[zj]at tl;refine zQ (xs:=rt.map V.ref) (fun i ys H'=>∃ ps,ys=ps.map V.ref/\Same H1 H'/\Paired (fun xs p=>SclAt H' k ((b+2)*m) xs p) ((kaa c N).take i) ps) ⟨[],rfl,Same.refl _,.nil⟩ ?_ ?_ ?_
 ·rintro i ys H' hi ⟨ps,rfl,g,pr⟩
  refine⟨SqL.of (g _ _ nT.tab.1),?_⟩;have:=zk pr;rw[wx,zj]at this;rw[we];omega
 ·rintro i v ys H' hv hi ⟨ps,rfl,g,pr⟩
  obtain⟨xs,a,hx,ha,rfl,hrow⟩:=(nT.tab.mono g).row hv;obtain⟨lx,ox⟩:=oT xs (wk hx)
  first|refine gyes ?_|refine tyes ?_
  refine⟨_,rfl,_,rfl,k,xs,a,m,rfl,hk,hrow,ox,sT xs (wk hx),m7,by rw[lx];exact z4,fun p H2 g2 sc=>?_⟩;rw[lx]at sc;refine nxt hi ⟨ps++[p],by rw[wF];rfl,g.trans g2,?_⟩;rw[zq hx];exact yj (xZ (fun _ _ r=>r.mono g2) pr) sc
 ·rintro ys H' ⟨ps,rfl,g,pr⟩ pc hpc
  rw[we,wr (by rw[zj];omega)]at pr;have pcl:=zk pr;rw[zj]at pcl;have gq:Same H (upd H' pc (.lst (ps.map V.ref))):=(g1.trans g).trans (zg hpc _);have prq:Paired (fun xs p=>SclAt (upd H' pc (.lst (ps.map V.ref))) k ((b+2)*m) xs p) (kaa c N) ps:=xZ (fun _ _ r=>r.mono (zg hpc _)) pr;have hpq:upd H' pc (.lst (ps.map V.ref)) pc=some (.lst (ps.map V.ref)):=zh;generalize upd H' pc (.lst (ps.map V.ref))=Hq at *;refine⟨(by show 0<=sizeLine;decide),fun pt hpt=>?_⟩;refine⟨_,rfl,t1,rfl,⟨_,SqL.of (zg hpt _ _ _ (gq _ _ hM.1))⟩,?_⟩;refine yP (xs:=r1.map V.ref) (fun i σ H4=>∃ ras o5 o6,σ=[some (.int k),some (.ref t1),some (.ref t2),some (.ref pc),some (.ref pt),o5,o6]/\Grow Hq H4 ((kai k c M N).take i) ras/\H4 pt=some (.lst (ras.map V.ref))/\pt∉ras) ⟨[],none,none,rfl,Grow.nil Hq (zg hpt _),zh,by simp⟩ ?_ ?_ ?_
  ·rintro i σ H4 _ ⟨ras,o5,o6,rfl,G,_⟩
   exact SqL.of (G.same _ _ (gq _ _ hM.1))
  ·rintro i v σ H4 hv ⟨ras,o5,o6,rfl,G,hpt4,npt4⟩
   obtain⟨xs,a,hx,ha,rfl,hrow⟩:=(hM.mono (gq.trans G.same)).row hv;obtain⟨lx,ox⟩:=oM xs (wk hx);refine⟨_,rfl,_,rfl,k,xs,a,m,rfl,hk,hrow,ox,sM xs (wk hx),m7,by rw[lx];exact z4,fun p H5 g5 sc=>?_⟩;rw[lx]at sc;have gq5:=G.same.trans g5;refine⟨_,rfl,.inl ⟨rfl,_,SqL.of (g5 _ _ hpt4)⟩,_,rfl,pc,rfl,⟨_,SqL.of (gq5 _ _ hpq)⟩,?_⟩;refine zQ (xs:=ps.map V.ref) (fun j ys' H6=>Same H5 H6/\Paired (RN H6) (((kaa c N).map fun col=>La.ndot k xs col).take j) ys') ⟨Same.refl _,.nil⟩ ?_ ?_ ?_
   ·rintro j ys' H6 hj ⟨g6,pr6⟩
    refine⟨SqL.of (g6 _ _ (gq5 _ _ hpq)),?_⟩;have:=zk pr6;rw[wx,we,zj]at this;omega
   ·rintro j v ys' H6 hv' hj ⟨g6,pr6⟩
    rw[wo]at hv';obtain⟨pj,hpj,rfl⟩:=wR.mp hv';obtain⟨col,hcol,scj⟩:=yh prq hpj;obtain⟨lc,oc⟩:=oT col (wk hcol)
    first|refine gyes ?_|refine tyes ?_
    refine⟨_,rfl,_,rfl,_,rfl,k,xs,col,p,pj,(b+2)*m,rfl,hk,sc.mono g6,scj.mono (gq5.trans g6),ox,oc,by rw[lx,lc],z2,by rw[lx];exact z1,by rw[lx];exact z3,fun v7 H7 g7 r7=>?_⟩;refine nxt hj ⟨g6.trans g7,?_⟩;have e:((kaa c N).map fun col=>La.ndot k xs col)[j]?=some (La.ndot k xs col):=by rw[wo,hcol];rfl
    rw[zq e];exact yj (jC g7 pr6) r7
   ·rintro ys' H6 ⟨g6,pr6⟩ pn hpn
    rw[we,wr (by rw[we,zj];omega)]at pr6;have g46:=g5.trans g6;have npn:pt≠pn:=fun e=>by rw[← e,g46 _ _ hpt4]at hpn;cases hpn
    refine⟨pt,_,_,rfl,rfl,(by rw[zN npn];exact g46 _ _ hpt4),?_,?_⟩
    ·have e1:=zk G.rows;rw[wx]at e1;have e2:=(wq.mp ha).1;have e3:=zk hM.2;rw[we];omega
    obtain⟨G2,nm2⟩:=G.push (zs':=(ras.map V.ref)++[.ref pn]) hpt hpt4 npt4 g46 hpn pr6;refine⟨ras++[pn],_,_,rfl,?_,?_,nm2⟩
    ·have e:(kai k c M N)[i]?=some ((kaa c N).map fun col=>La.ndot k xs col):=by unfold kai;rw[wo,hx];rfl
     rw[zq e];exact G2
    ·rw[zh,wF];rfl
  ·rintro σ H4 ⟨ras,o5,o6,rfl,G,hpt4,npt4⟩
   rw[we,wr (by unfold kai;rw[we];have:=zk hM.2;omega)]at G;exact⟨_,rfl,q pt ras H4 (gq.trans G.same) ⟨⟨hpt4,G.rows⟩,gq.none hpt,fun r hr=>gq.none (G.fr r hr),G.nd,npt4⟩⟩
theorem Ja{k:Int}(hk:kab k){n a b m:Nat}{x y:List Nb}(n4:k=0->n<=4)(ox:La.OkR k x)(oy:La.OkR k y)(lx:x.length=n)(hx:k=0->La.rowB a x)(hy:k=0->La.rowB b y)(hm:a+b+2<=m):szk k m (La.ndot k x y):=fun k0=>by
 have q:=zdu (k:=k) (n:=n) (T:=a) (C:=b) (A:=[x]) (D:=(hx k0).choose) hk (n4 k0) (fun r hr=>by rw[wD.mp hr];exact⟨lx,ox⟩) (hx k0).choose_spec.1 (hx k0).choose_spec.2.1 (fun r hr=>by rw[wD.mp hr];exact(hx k0).choose_spec.2.2) oy (hy k0);have o:=La.xl hk ox oy;obtain⟨D,d0,dl,hd⟩:=q;have h1:=hd (La.ndot k x y) (by unfold imgM;exact wm.mpr ⟨x,wt,rfl⟩);have p1:2^(a+b+2)<=2^m:=ve (by decide) hm
 revert h1 o
 generalize La.ndot k x y=z;intro o h1;cases z with
 | z i=>exact absurd k0 o.1
 | q r =>
  obtain⟨e1,e2⟩:=La.dB.parts d0 h1;have hD:r.den<2^m:=by omega
  have hN:r.num.natAbs<2^m:=by have:=uD (a+b+2);omega
  exact⟨hN,by unfold Sm;omega⟩
theorem zaE{k:Int}{m:Nat}{x:List Nb}(m1:1<=m)(ox:La.OkR k x)(h:∀ y∈x,whk k m y):k=0->La.rowB m x:=fun _=>zgr m1 ox h
def zfO:Sp:=fun vs H Q _=>∃(k:Int)(A B C X S:Tb)(n h s b:Nat)(pm ta tb tc tT tS:Addr)(ra rb rc rT rS:List Addr),vs=[.int k,.ref pm,.ref tT,.ref tS]/\kab k/\kav H A B C pm ta tb tc ra rb rc/\kaf H (kaa n X) tT rT/\kaf H S tS rS/\(k=0->n<=3)/\n<=5/\MOk k n h s 80 A B C/\(TW k n n 14 A/\TW k n h 14 B/\TW k s n 14 C)/\1<=h/\h<=10/\s<=10/\(La.OkM k n X/\X.length=b)/\(La.OkM k n S/\S.length=b)/\1<=b/\b<=n/\(∀ r∈X,k=0->La.rowB 36512 r)/\(∀ r∈S,k=0->La.rowB 1168392 r) /\
 ∀(p ua ub uc:Addr)(ra' rb' rc':List Addr)(H':Hp),Same H H'->kav H' (kai k b (kai k n S A) (kaa n X)) (kai k h S B) (kai k b C (kaa n X)) p ua ub uc ra' rb' rc'->kaj H H' [kai k b (kai k n S A) (kaa n X),kai k h S B,kai k b C (kaa n X)] [ua,ub,uc] [ra',rb',rc']->Q (.ref p) H'
theorem zd3{k:Int}(hk:kab k){n m:Nat}{M:Tb}(oM:La.OkM k n M)(h:∀ r∈M,k=0->La.rowB m r)(m7:61<=m):szM m M:=fun r hr x hx=>by
 by_cases k0:k=0
 ·exact zhN hk (oM r hr).2 (h r hr k0) m7 x hx
 ·exact(Yj hk k0 ((oM r hr).2 x hx)).mono m7
theorem ziW (D:Df K mg "turned_by" qm qv) (YG:Kn P w K mg base "product" 45 SI QJ):Kn P w K mg base "turned_by" 46 qm zfO:=by
 refine D.kn Sg (fun vs H Q E h=>?_) (fun f cdv A' outer s' H vs Q E hr h=>?_)
 ·obtain⟨k,A,B,C,X,S,n,h,s,b,pm,ta,tb,tc,tT,tS,ra,rb,rc,rT,rS,rfl,_⟩:=h;rfl
 obtain⟨k,A,B,C,X,S,n,h,s,b,pm,ta,tb,tc,tT,tS,ra,rb,rc,rT,rS,rfl,hk,hM,hT,hS',n3,n5,oM,⟨wA,wB,wC⟩,h1,h10,s10,⟨oX,lX⟩,⟨oS,lS⟩,b1,bn,sX,sS,q⟩:=h;have szl:=dN
 have oT:La.OkM k b (kaa n X):=by have:=zZ oX;rw[lX]at this;exact this
 have lT:=zj n X;have zX:=zd3 hk oX sX (by decide);have zS:=zd3 hk oS sS (by decide);have zT:szM 36512 (kaa n X):=ziC (fun r hr=>(oX r hr).1) zX;have up:∀ {m m':Nat} {M:Tb},szM m M->m<=m'->szM m' M:=fun h hm r hr x hx=>(h r hr x hx).mono hm
 have zA:szM 1168392 A:=up oM.a.sz (by decide);have zB:szM 1168392 B:=up oM.b.sz (by decide);have zC:szM 36512 C:=up oM.c.sz (by decide);have m5:(n+2)*1168392<=20000000:=wI (wU _ (show n+2<=7 by omega)) (by decide);have m6:(n+2)*36512<=20000000:=wI (wU _ (show n+2<=7 by omega)) (by decide);refine⟨_,(zd (zm (i:=4) Sg.nd rfl (.inl rfl) (zp YG hr (zc (pv 0) (zc (zp YG hr (zc (pv 0) (zc (pv 3) (zc (zE zy (pv 1) zf) ze)))) (zc (pv 2) ze))))) (zi (zo (xm (zc (pv 4) (zc (zp YG hr (zc (pv 0) (zc (pv 3) (zc (zE zy (pv 1) zf) ze)))) (zc (zp YG hr (zc (pv 0) (zc (zE zy (pv 1) zf) (zc (pv 2) ze)))) ze))))))),?_⟩;refine⟨_,rfl,_,rfl,_,rfl,_,rfl,pm,_,_,_,rfl,rfl,SqT.of hM.tup,rfl,k,S,A,n,n,1168392,tS,ta,rS,ra,rfl,hk,hS',hM.a,oS,oM.a.ok,oM.a.len,(by omega),zS,zA,(by decide),m5,(by omega),(by omega),fun t1 r1 H1 g1 N1=>?_⟩;have o1:=La.jo hk (c:=n) oS oM.a.ok;have l1:(kai k n S A).length=b:=o1.1.trans lS;have z1:szM 1168408 (kai k n S A):=fun r hr x hx=>by
  by_cases k0:k=0
  ·unfold kai at hr;obtain⟨u,hu,rfl⟩:=wm.mp hr;obtain⟨c,hc,rfl⟩:=wm.mp hx;have ou:=oS u hu;have oc:=zZ oM.a.ok c hc;rw[oM.a.len]at oc;exact Ja hk (fun e=>by have:=n3 e;omega) ou.2 oc.2 ou.1 (sS u hu) (zaE (m:=14) (by decide) oc.2 (xA wA.ok wA.sz c hc)) (by decide) k0
  ·exact(Yj hk k0 ((o1.2 r hr).2 x hx)).mono (by decide)
 have m7:(n+2)*1168408<=20000000:=wI (wU _ (show n+2<=7 by omega)) (by decide);refine⟨_,rfl,k,kai k n S A,kaa n X,n,b,1168408,t1,tT,r1,rT,rfl,hk,N1.tab,hT.mono g1,o1.2,oT,lT,(by omega),z1,up zT (by decide),(by decide),m7,(by omega),(by omega),fun t2 r2 H2 g2 N2=>?_⟩;have g12:=g1.trans g2;have hM2:=hM.mono g12;refine⟨_,rfl,_,rfl,_,rfl,_,rfl,pm,_,_,_,rfl,rfl,SqT.of hM2.tup,rfl,k,S,B,n,h,1168392,tS,tb,rS,rb,rfl,hk,hS'.mono g12,hM2.b,oS,oM.b.ok,oM.b.len,(by omega),zS,zB,(by decide),m5,(by omega),(by omega),fun t3 r3 H3 g3 N3=>?_⟩;have hM3:=hM2.mono g3;refine⟨_,rfl,_,rfl,pm,_,_,_,rfl,rfl,SqT.of hM3.tup,rfl,_,rfl,k,C,kaa n X,n,b,36512,tc,tT,rc,rT,rfl,hk,hM3.c,(hT.mono g12).mono g3,oM.c.ok,oT,lT,(by omega),zC,zT,(by decide),m6,(by omega),(by rw[oM.c.len];omega),fun t4 r4 H4 g4 N4=>?_⟩;refine⟨(by show 3<=sizeLine;decide),fun p hp=>?_⟩;have g5:=zg hp (.tup [.ref t2,.ref t3,.ref t4]);exact q p t2 t3 t4 r2 r3 r4 _ (((g12.trans g3).trans g4).trans g5) ⟨zh,((N2.tab.mono g3).mono g4).mono g5,(N3.tab.mono g4).mono g5,N4.tab.mono g5⟩ (((((kaj.nil g1).push g2 N2).push g3 N3).push g4 N4).mono g5)
theorem zjg{k:Int}{n h a b c d:Nat}{A B C R L U X S:Tb}(Pt:Part k n h A B C R L U)(oX:La.OkM k n X)(lX:X.length=n)(oS:La.OkM k n S)(lS:S.length=n)(pr:La.PairU k n S (kaa n X))(rp:La.PairU k n (kaa n X) S)(Pl:PlF k n R U X S (plc a b c d))(sum:a+b+c+d=n):kam k n h a b A B C R L U X S:=by
 have at0:∀ q,q<a->(plc a b c d)[q]?=some 0:=fun q hq=>plc_at.1 hq
 have at1:∀ q,a<=q->q<a+b->(plc a b c d)[q]?=some 1:=fun q h1 h2=>plc_at.2.1 h1 h2
 refine⟨Pt,oX,lX,oS,lS,by omega,pr,rp,fun q r hq hr F _ φ=>?_,fun q r hq hr F _ φ=>Pl.inU q 0 r (at0 q hq) (.inl rfl) hr F φ,fun q s hq hs F _ φ v hv=>?_,fun q s h1 h2 hs F _ φ v hv=>Pl.offU q 1 s (at1 q h1 h2) (.inl rfl) hs F φ v hv⟩
 ·rcases wO q a with h1|h1
  ·exact Pl.inR q 0 r (at0 q h1) (by decide) hr F φ
  ·exact Pl.inR q 1 r (at1 q h1 hq) (by decide) hr F φ
 ·have hq':q<n:=by rw[← lS];exact(wq.mp hs).1
  obtain⟨p,hp⟩ : ∃ p,(plc a b c d)[q]?=some p:=⟨(plc a b c d)[q]'(by rw[zcl];omega),wg (by rw[zcl];omega)⟩;have:=Xc hp;exact Pl.offR q p s hp (by omega) hs F φ v hv
theorem cutCols{n a b:Nat}{X:Tb}:(kaa n X).map (fun r=>(r.drop a).take b)=kaa n (cutR a b X):=by
 unfold kaa cutR;rw[vF];refine vV fun j _=>?_
 show((X.map fun r=>r.getD j (.z 0)).drop a).take b =((X.drop a).take b).map fun r=>r.getD j (.z 0)
 rw[gQ,Gq]
theorem cutAB{xs:List V}(a b:Nat)(h:a+b<=xs.length):cutV xs (some (a:Int)) (some ((a:Int) +(b:Int))) =(xs.drop a).take b:=by
 have e:(a:Int) +(b:Int) =((a+b:Nat):Int):=by omega
 rw[e];unfold cutV;rw[HT.Zf,HT.Zf,uV (by omega),uV (by omega),uv]
theorem zhr{H0 H H':Hp}{Ms:List (Tb)}{ts:List Addr}{rs:List (List Addr)}(g:Same H0 H)(G:kaj H H' Ms ts rs):kaj H0 H' Ms ts rs:={ G with same:=g.trans G.same,frt:=fun t ht=>g.none (G.frt t ht),frr:=fun ras hr r h=>g.none (G.frr ras hr r h) }
def coreAt (H H':Hp) (k:Int) (n h a b:Nat) (A B C X S:Tb) (p:Addr):Prop:=(b=0/\H' p=some (.tup [.str "none"]))\/(1<=b/\∃(zx zs:Nat)(pi ua ub uc:Addr)(va vb vc:List Addr),H' p=some (.tup [.str "core",.ref pi])/\kav H' (cA k n a b A X S) (cB k h a b B S) (cC k n a b C X) pi ua ub uc va vb vc/\kaj H H' [cA k n a b A X S,cB k h a b B S,cC k n a b C X] [ua,ub,uc] [va,vb,vc]/\(k=0->La.kak zx X)/\(k=0->La.kak zs S)/\((b≠n/\zx=36512/\zs=1168392)\/(b=n/\zx=61/\zs=496)))
def zg0:Sp:=fun vs H Q _=>∃(k:Int)(A B C:Tb)(n h s:Nat)(pm ta tb tc:Addr)(ra rb rc:List Addr),vs=[.int k,.ref pm]/\kab k/\kav H A B C pm ta tb tc ra rb rc/\Fit k n/\n<=5/\MOk k n h s 80 A B C/\(TW k n n 14 A/\TW k n h 14 B/\TW k s n 14 C)/\1<=h/\h<=10/\1<=s/\s<=10 /\
 ∀ R L U X S a b p H',Same H H'->(∃ ys,H' p=some (.tup ys))->kam k n h a b A B C R L U X S->coreAt H H' k n h a b A B C X S p->Q (.ref p) H'
theorem zji (D:Df K mg "core" SZ zdH) (zgz:Kn P w K mg base "parting" 52 SZ QL) (zcv:Kn P w K mg base "turned_by" 46 qm zfO):Kn P w K mg base "core" 53 SZ zg0:=by
 refine D.kn SC (fun vs H Q E h=>?_) (fun f cdv A' outer s' H vs Q E hr h=>?_)
 ·obtain⟨k,A,B,C,n,h,s,pm,ta,tb,tc,ra,rb,rc,rfl,_⟩:=h;rfl
 obtain⟨k,A,B,C,n,h,s,pm,ta,tb,tc,ra,rb,rc,rfl,hk,hM,hf,n5,oM,wM,h1,h10,s1,s10,q⟩:=h;have szl:=dN
 have n1:=hf.1;have n3:k=0->n<=3:=fun e=>by
  rcases hf.2 with h|h
  ·exact h
  ·exact absurd e h.1
 refine⟨_,(zd (zm (i:=2) SC.nd rfl (.inl rfl) (zp zgz hr (zc (pv 0) (zc (pv 1) ze)))) (zd (zm (i:=3) SC.nd rfl (.inr rfl) (zE zy (zE zy (pv 2) zf) zf)) (zd (zm (i:=4) SC.nd rfl (.inr rfl) (zt yT (pv 3) (zE zy (zE zy (pv 2) zf) zf))) (zd (yn (zG xp (pv 3) (pv 4) (kae _)) (zi (zo (xm (zc zd0 ze)))) zK) (zi (zo (xm (zc zd0 (zc (zp zcv hr (zc (pv 0) (zc (pv 1) (zc (yR ["start", "end"] [3,4] (zH (zE zy (pv 2) zf)) fun _ _ _ _ _ _=>⟨zO,(jD qD (pv 0) (jy (pv 1)) (jy (pv 2)))⟩) (zc (jD qD (zE zy (pv 2) zf) (jy (pv 3)) (jy (pv 4))) ze))))) ze))))))))),?_⟩;refine⟨_,rfl,_,rfl,k,A,B,C,n,h,s,pm,ta,tb,tc,ra,rb,rc,rfl,hk,hM,hf,n5,oM,wM,h1,by omega,s1,by omega,fun R L U X S a b c d zx zs pp tT tS tz rT rS H1 g1 hp hz TT TS Pt ⟨rdR,rdU⟩ ⟨oX,lX⟩ ⟨oS,lS⟩ ⟨pr,rp⟩ Pl sum ⟨cX,cS,zz⟩=>?_⟩;have I:=zjg Pt oX lX oS lS pr rp Pl sum;refine⟨_,rfl,pp,_,_,.ref tz,rfl,rfl,SqT.of hp,rfl,tz,_,_,.int (a:Int),rfl,rfl,SqT.of hz,rfl,?_⟩;refine⟨_,rfl,_,rfl,pp,_,_,.ref tz,rfl,rfl,SqT.of hp,rfl,tz,_,_,.int (b:Int),rfl,rfl,SqT.of hz,rfl,_,_,rfl,rfl,?_⟩;refine⟨_,rfl,_,rfl,rfl,_,rfl,?_⟩;refine ite2 (fun e=>?_) (fun e=>?_)
 ·have e':=V.int.inj (of_decide_eq_true e);have b0:b=0:=by omega
  subst b0;refine⟨(by show 1<=sizeLine;decide),fun p hp'=>?_⟩;exact q R L U X S a 0 p _ (g1.trans (zg hp' _)) ⟨_,zh⟩ I (.inl ⟨rfl,zh⟩)
 have b1:1<=b:=by
  rcases gi b with z|z
  ·exact absurd (decide_eq_true (congrArg V.int (show(a:Int) =(a:Int) +(b:Int) by omega))) e
  ·exact z
 have lrT:=zk TT.2;rw[zj]at lrT;have lrS:=zk TS.2;rw[lS]at lrS;refine⟨_,rfl,_,rfl,_,rfl,pp,_,_,.ref tT,rfl,rfl,SqT.of hp,rfl,tT,rfl,⟨_,SqL.of TT.1⟩,?_⟩;refine zQ (xs:=rT.map V.ref) (fun i ys H'=>∃ ras2,ys=ras2.map V.ref/\Grow H1 H' (((kaa n X).map fun r=>(r.drop a).take b).take i) ras2) ⟨[],rfl,Grow.nil H1 (Same.refl H1)⟩ ?_ ?_ ?_
 ·rintro i ys H' hi ⟨ras2,rfl,G⟩
  refine⟨SqL.of (G.same _ _ TT.1),?_⟩;have:=zk G.rows;rw[wx,we,zj]at this;rw[we];omega
 ·rintro i v ys H' hv hi ⟨ras2,rfl,G⟩
  obtain⟨row,a',hx,ha,rfl,hrow⟩:=(TT.mono G.same).row hv;obtain⟨us,hus,pus,lus⟩:=hrow.len;have oT:=zZ oX;have lrow:=(oT row (wk hx)).1;rw[lX]at lrow
  first|refine gyes ?_|refine tyes ?_
  refine⟨_,rfl,_,rfl,_,rfl,_,rfl,_,rfl,a',_,rfl,SqL.of hus,fun p hp'=>?_⟩;rw[cutAB a b (by rw[lus,lrow];omega)];refine nxt hi ⟨ras2++[p],by rw[wF];rfl,?_⟩;have e:((kaa n X).map fun r=>(r.drop a).take b)[i]?=some ((row.drop a).take b):=by rw[wo,hx];rfl
  rw[zq e];exact G.snoc hp' (zaQ (zax pus a) b)
 rintro ys H2 ⟨ras2,rfl,G⟩ pl hpl
 rw[we,wr (by rw[we,zj];omega),cutCols]at G;have N2:=G.done hpl;have g2:=G.same.trans (zg hpl (.lst (ras2.map V.ref)));generalize upd H2 pl (.lst (ras2.map V.ref))=H3 at *;have hp3:=g2 _ _ hp;have TS3:=TS.mono g2;refine⟨_,rfl,pp,_,_,.ref tS,rfl,rfl,SqT.of hp3,rfl,_,rfl,_,rfl,_,rfl,_,rfl,tS,_,rfl,SqL.of TS3.1,fun p3 hp'=>?_⟩;rw[cutAB a b (by rw[we];omega),← Gq,← gQ];have g3:=zg hp' (.lst (((rS.drop a).take b).map V.ref));have TS4:kaf (upd H3 p3 (.lst (((rS.drop a).take b).map V.ref))) (cutR a b S) p3 ((rS.drop a).take b):=⟨zh,zaQ (zax (TS3.mono g3).2 a) b⟩;have TT4:=N2.tab.mono g3;have g13:=(g1.trans g2).trans g3;generalize upd H3 p3 (.lst (((rS.drop a).take b).map V.ref))=H4 at *;have sX:∀ r∈cutR a b X,k=0->La.rowB 36512 r:=fun r hr k0=>(cX k0 r (Zq hr)).mono (by omega)
 have sS:∀ r∈cutR a b S,k=0->La.rowB 1168392 r:=fun r hr k0=>(cS k0 r (Zq hr)).mono (by omega)
 refine⟨k,A,B,C,cutR a b X,cutR a b S,n,h,s,b,pm,ta,tb,tc,pl,p3,ra,rb,rc,_,_,rfl,hk,hM.mono g13,TT4,TS4,n3,n5,oM,wM,h1,h10,s10,(I.oX' hk),(I.oS' hk),b1,by have:=I.ab;omega,sX,sS,fun pi ua ub uc va vb vc H5 g5 MM GG=>?_⟩;refine⟨(by show 2<=sizeLine;decide),fun p hp'=>?_⟩;have g6:=zg hp' (.tup [.str "core",.ref pi]);exact q R L U X S a b p _ ((g13.trans g5).trans g6) ⟨_,zh⟩ I (.inr ⟨b1,zx,zs,pi,ua,ub,uc,va,vb,vc,zh,MM.mono g6,(zhr g13 GG).mono g6,cX,cS,zz⟩)
theorem ze4 (K:PySem.W.Frag):PySem.W.kitOne K (.type "list") (.type "list")=some true:=by unfold PySem.W.kitOne;rw[if_pos (by decide)]
theorem ZP{a b:Int}(h0 : -(2^64)<b)(h1:b<2^64):IntMulOk a b:=IntMulOk.of_right (intBits_le_64 h0 h1)
theorem ql{a b:Int}(h0 : -(2^64)<a)(h1:a<2^64):IntMulOk a b:=IntMulOk.of_left (intBits_le_64 h0 h1)
def Zm:Sp:=fun vs H Q _=>∃(t b:Int),vs=[.int t,.int b]/\0<b/\∀ p H',Same H H'->H' p=some (.tup [.int (vM t b).num,.int ((vM t b).den:Int)])->Q (.ref p) H'
theorem zbx (hP:P.given.tree=none) (hS:base.NoSeer) (D:Df K mg "_law_fraction" Qa xG) (qd:Kn P w K mg base "_law_divisor" 1 SJ zcH):Kn P w K mg base "_law_fraction" 41 Qa Zm:=by
 refine D.kn sv (fun vs H Q E h=>?_) (fun f cdv A outer s H vs Q E hr h=>?_)
 ·obtain⟨t,b,rfl,_⟩:=h;rfl
 obtain⟨t,b,rfl,b0,q⟩:=h;refine⟨_,(zd (zm (i:=2) sv.nd rfl (.inl rfl) (zp qd hr (zc (pv 0) (zc (pv 1) ze)))) (zi (zo (xm (zc (zt (yf hr (by decide) hP hS ⟨_,_,rfl,rfl,rfl,rfl,rfl⟩) (pv 0) (pv 2)) (zc (zt (yf hr (by decide) hP hS ⟨_,_,rfl,rfl,rfl,rfl,rfl⟩) (pv 1) (pv 2)) ze)))))),?_⟩;have e:sg t b =((vk t b:Nat):Int):=by unfold sg;rw[if_neg (by omega)]
 have ne:((vk t b:Nat):Int)≠0:=by rw[← e];exact zgs (by omega)
 obtain⟨e1,e2⟩:=XU (t:=t) (b:=b) (by omega);rw[e]at e1 e2;refine⟨_,rfl,_,rfl,t,b,rfl,_,rfl,_,rfl,_,_,rfl,rfl,ne,_,rfl,_,rfl,_,_,rfl,rfl,ne,(by show 2<=sizeLine;decide),fun p hp=>?_⟩;show Q (.ref p) (upd H p (.tup [.int (t.fdiv ((vk t b:Nat):Int)),.int (b.fdiv ((vk t b:Nat):Int))]));rw[e1,e2];exact q p _ (zg hp _) zh
def zah:Sp:=fun vs H Q _=>∃(c j:Int),vs=[.int c,.int j]/\0<=j/\j<=1000/\∀ m:Int,0<=m->m<2147483648->Q (.int m) H
theorem ten7:(10:Int)^(7:Int).toNat=10000000:=by decide
theorem cpow10{j:Int}(h0:0<=j)(h1:j<=100):CPow 10 j:=⟨h0,by omega,by decide⟩
theorem zhR (hP:P.given.tree=none) (hS:base.NoSeer) (D:Df K mg "_law_mixed" Qb jT) (zJ:mg "range" = none):Kn P w K mg base "_law_mixed" 41 Qb zah:=by
 refine D.kn Sa (fun vs H Q E h=>?_) (fun f cdv A outer s H vs Q E hr h=>?_)
 ·obtain⟨c,j,rfl,_⟩:=h;rfl
 obtain⟨c,j,rfl,j0,j1,q⟩:=h;refine⟨_,(zd (yn (zG ZM (pv 0) (zt zfb zf zf) (kae _)) (zd (zm (i:=2) Sa.nd rfl (.inl rfl) (zt (yf hr (by decide) hP hS ⟨_,_,rfl,rfl,rfl,rfl,rfl⟩) (pv 0) zf)) (zd (yu PassesOwn.never rfl (zY rfl zJ (zc (pv 1) ze)) (zI (i:=3) Sa.nd rfl (.inl rfl)) (zi (zm (i:=2) Sa.nd rfl (.inl rfl) (zt (yf hr (by decide) hP hS ⟨_,_,rfl,rfl,rfl,rfl,rfl⟩) (pv 2) (zt zfb zf zf))))) (zi (zo (zt zW (pv 2) (zt zfb zf zf)))))) zK) (zd (zm (i:=4) Sa.nd rfl (.inl rfl) (zt zW (zt yb (zt yT (zt yT (zt zW (pv 0) zf) (zt yb (zt yb zf (pv 1)) (pv 1))) (zt yb zf (pv 1))) zf) zf)) (zi (zo (zt zW (zt yb (pv 4) (zt yT (zt yT (zt zW (pv 4) zf) (zt yb zf (pv 1))) zf)) zf))))),?_⟩;have n1:(2147483647:Int)≠0:=by decide
 have n2:(2147483629:Int)≠0:=by decide
 have n3:(65537:Int)≠0:=by decide
 have n4:(1000:Int)≠0:=by decide
 have n5:(10:Int)^(7:Int).toNat≠0:=by decide
 refine⟨_,rfl,_,_,rfl,rfl,cpow10 (by decide) (by decide),_,_,rfl,rfl,_,rfl,?_⟩;refine ite2 (fun cc=>?_) (fun cc=>?_)
 ·refine⟨_,rfl,_,_,rfl,rfl,n4,?_⟩;refine⟨_,rfl,j,rfl,(by omega),(by omega),?_⟩;refine yF (lo:=0) (n:=j.toNat) (fun i σ H'=>∃ lf o3 o4,σ=[some (.int c),some (.int j),some (.int lf),o3,o4]/\H'=H) ⟨_,none,none,rfl,rfl⟩ ?_ ?_
  ·rintro i σ H' hi ⟨lf,o3,o4,rfl,rfl⟩
   exact⟨_,rfl,_,_,rfl,rfl,cpow10 (by decide) (by decide),_,_,rfl,rfl,n5,_,_,_,rfl,rfl⟩
  ·rintro σ H' ⟨lf,o3,o4,rfl,rfl⟩
   refine⟨_,rfl,_,_,rfl,rfl,cpow10 (by decide) (by decide),_,_,rfl,rfl,n5,?_⟩
   dsimp only
   rw[ten7];have h0:=wJ lf (show(0:Int)<10000000 by decide);have h1:=wP lf (show(0:Int)<10000000 by decide);exact q _ h0 (by omega)
 ·have f0:=wJ c (show(0:Int)<2147483647 by decide);have f1:=wP c (show(0:Int)<2147483647 by decide);refine⟨_,rfl,_,_,rfl,rfl,n1,_,rfl,_,_,rfl,rfl,ql (by decide) (by decide),_,rfl,_,_,rfl,rfl,ZP (by omega) (by omega),_,_,rfl,rfl,_,rfl,_,_,rfl,rfl,ql (by decide) (by decide),_,_,rfl,rfl,_,_,rfl,rfl,ZP (by decide) (by decide),_,_,rfl,rfl,n1,?_⟩
  dsimp only
  generalize ((c.fmod 2147483647+40503*j*j+17*j)*48271).fmod 2147483647=o at *;refine⟨_,rfl,_,rfl,_,_,rfl,rfl,n3,_,rfl,_,_,rfl,rfl,ql (by decide) (by decide),_,_,rfl,rfl,_,_,rfl,rfl,_,_,rfl,rfl,ZP ?_ ?_,_,_,rfl,rfl,n2,?_⟩
  ·have h0:=wJ o (show(0:Int)<65537 by decide);show -(2^64)<o.fmod 65537+3*j+1;omega
  ·have h1:=wP o (show(0:Int)<65537 by decide);show o.fmod 65537+3*j+1<2^64;omega
  dsimp only
  generalize o *(o.fmod 65537+3*j+1)=x;have h0:=wJ x (show(0:Int)<2147483629 by decide);have h1:=wP x (show(0:Int)<2147483629 by decide);exact q _ h0 (by omega)
def zbF:Sp:=fun vs H Q _=>∃(k c:Int),vs=[.int k,.int c]/\kab k/\∀ x v H',Same H H'->RN H' x v->x.ok k->Q v H'
theorem zhM{k c m:Int}(hk:1<k)(h0:0<=m)(h1:m<4)(c0:0<=c)(c1:c<k):∃ w:Int,atI [V.int 0,V.int 1,V.int (k - 1),V.int c] m=some (.int w)/\0<=w/\w<k:=by
 rcases (show m=0\/m=1\/m=2\/m=3 by omega)with rfl|rfl|rfl|rfl
 ·exact⟨0,rfl,by omega,by omega⟩
 ·exact⟨1,rfl,by omega,by omega⟩
 ·exact⟨k - 1,rfl,by omega,by omega⟩
 ·exact⟨c,rfl,c0,c1⟩
theorem zfi (hP:P.given.tree=none) (hS:base.NoSeer) (D:Df K mg "_law_drawn" Qe jS) (yv:Kn P w K mg base "_law_fraction" 41 Qa Zm):Kn P w K mg base "_law_drawn" 42 Qe zbF:=by
 refine D.kn zaV (fun vs H Q E h=>?_) (fun f cdv A outer s H vs Q E hr h=>?_)
 ·obtain⟨k,c,rfl,_⟩:=h;rfl
 obtain⟨k,c,rfl,hk,q⟩:=h;have kl:=hk.lt;refine⟨_,(zd (yn (zG ZM (pv 0) zf (kae _)) (zi (zo (zE zw (yC (zc zf (zc zf (zc (zt qV (pv 0) zf) (zc (zt zW (zt (yf hr (by decide) hP hS ⟨_,_,rfl,rfl,rfl,rfl,rfl⟩) (pv 1) zf) (pv 0)) ze))))) (zt zW (pv 1) zf)))) zK) (zd (yn (zG xp (zt zW (pv 1) zf) zf (kae _)) (zi (zo (xm (zc (zt qV (zt zW (zt (yf hr (by decide) hP hS ⟨_,_,rfl,rfl,rfl,rfl,rfl⟩) (pv 1) zf) zf) zf) (zc zf ze))))) zK) (zi (zo (zp yv hr (zc (zt qV (zt zW (zt (yf hr (by decide) hP hS ⟨_,_,rfl,rfl,rfl,rfl,rfl⟩) (pv 1) zf) zf) zf) (zc (zt yT zf (zt zW (zt (yf hr (by decide) hP hS ⟨_,_,rfl,rfl,rfl,rfl,rfl⟩) (pv 1) zf) zf)) ze))))))),?_⟩;have n4:(4:Int)≠0:=by decide
 have n3:(3:Int)≠0:=by decide
 refine⟨_,rfl,_,_,rfl,rfl,_,rfl,?_⟩;refine ite2 (fun ck=>?_) (fun ck=>?_)
 ·have k0:0<k:=of_decide_eq_true ck;have k1:1<k:=by
   rcases hk with h|h
   ·omega
   ·exact h.1
  refine⟨_,rfl,_,_,rfl,rfl,_,rfl,_,_,rfl,rfl,n4,_,rfl,_,_,rfl,rfl,(show k≠0 by omega),(by show 4<=sizeLine;decide),fun p hp=>?_⟩;obtain⟨w,ew,w0,w1⟩:=zhM k1 (wJ c (show(0:Int)<4 by decide)) (wP c (show(0:Int)<4 by decide)) (wJ (c.fdiv 4) k0) (wP (c.fdiv 4) k0);exact⟨_,rfl,_,_,rfl,rfl,n4,p,_,_,_,rfl,rfl,SqL.of zh,ew,q (.z w) _ _ (zg hp _) RN.of_z ⟨by omega,w0,w1⟩⟩
 ·have k0:k=0:=by
   have:¬ 0<k:=of_decide_eq_false (uE.mpr ck);omega
  refine⟨_,rfl,_,_,rfl,rfl,n3,rfl,_,rfl,?_⟩;refine ite2 (fun c3=>?_) (fun c3=>?_)
  ·refine⟨_,rfl,_,_,rfl,rfl,n3,_,_,rfl,rfl,n3,_,_,rfl,rfl,(by show 2<=sizeLine;decide),fun p hp=>?_⟩;exact q (.q ((((c.fdiv 3).fmod 3 - 1:Int)):Rat)) _ _ (zg hp _) (RN.of_q (r:=(((c.fdiv 3).fmod 3 - 1:Int):Rat)) zh) k0
  ·have b0:=wJ (c.fdiv 57) (show(0:Int)<4 by decide);exact⟨_,rfl,_,_,rfl,rfl,n3,_,_,rfl,rfl,(by show(19:Int)≠0;decide),_,_,rfl,rfl,_,rfl,_,_,rfl,rfl,(by show(57:Int)≠0;decide),_,_,rfl,rfl,n4,_,_,rfl,rfl,_,_,rfl,(by omega),fun p H' g hp=>q (.q _) _ H' g (RN.of_q hp) k0⟩
def qF:Sp:=fun vs H Q _=>∃(k w:Int),vs=[.int k,.int w]/\kab k/\∀ v H',Same H H'->RN H' (nnum k w) v->Q v H'
theorem zhi (D:Df K mg "_law_make" QS qC):Kn P w K mg base "_law_make" 1 QS qF:=by
 refine D.kn zbD (fun vs H Q E h=>?_) (fun f cdv A outer s H vs Q E hr h=>?_)
 ·obtain⟨k,w,rfl,_⟩:=h;rfl
 obtain⟨k,x,rfl,hk,q⟩:=h;have kl:=hk.lt;refine⟨_,(zd (yn (zG xp (pv 0) zf (kae _)) (zi (zo (xm (zc (pv 1) (zc zf ze))))) zK) (zi (zo (zt zW (pv 1) (pv 0))))),?_⟩;refine⟨_,rfl,rfl,_,rfl,?_⟩;refine ite2 (fun c=>?_) (fun c=>?_)
 ·have k0:k=0:=V.int.inj (of_decide_eq_true c);subst k0;exact⟨_,rfl,(by show 2<=sizeLine;decide),fun p hp=>q _ _ (zg hp _) (RN.of_q (r:=(x:Rat)) zh)⟩
 ·have k0:k≠0:=fun e=>c (by show decide (V.int k=V.int 0)=true;rw[e];decide)
  refine⟨_,rfl,_,rfl,_,_,rfl,rfl,k0,q _ _ (Same.refl H) ?_⟩;unfold nnum;rw[if_neg k0];exact RN.of_z
theorem zhU (D:Df K mg "_law_plus" QX qJ) (yv:Kn P w K mg base "_law_fraction" 41 Qa Zm):Kn P w K mg base "_law_plus" 42 QX (Ze nadd):=by
 refine D.kn zbc (fun vs H Q E h=>?_) (fun f cdv A outer s H vs Q E hr h=>?_)
 ·obtain⟨k,x,y,a,b,rfl,_⟩:=h;rfl
 obtain⟨k,x,y,a,b,rfl,T,q⟩:=h;have kl:=T.kd.lt;refine⟨_,(zd (yn (zG xp (pv 0) zf (kae _)) (zi (zo (zp yv hr (zc (zt yT (zt yb (zE zy (pv 1) zf) (zE zy (pv 2) zf)) (zt yb (zE zy (pv 2) zf) (zE zy (pv 1) zf))) (zc (zt yb (zE zy (pv 1) zf) (zE zy (pv 2) zf)) ze))))) zK) (zi (zo (zt zW (zt yT (pv 1) (pv 2)) (pv 0))))),?_⟩
 rcases YF T with⟨rfl,r,s,pa,pb,rfl,rfl,rfl,rfl,ha,hb,rn,rd,sn,sd⟩|⟨k0,hp,i,j,rfl,rfl,rfl,rfl,i0,ik,j0,jk⟩
 ·refine⟨_,rfl,rfl,_,rfl,iteT ?_⟩;refine⟨_,rfl,pa,_,_,_,rfl,rfl,SqT.of ha,rfl,_,rfl,pb,_,_,_,rfl,rfl,SqT.of hb,rfl,_,_,rfl,rfl,xT rn sd,_,rfl,pb,_,_,_,rfl,rfl,SqT.of hb,rfl,_,rfl,pa,_,_,_,rfl,rfl,SqT.of ha,rfl,_,_,rfl,rfl,xT sn rd,_,_,rfl,rfl,_,rfl,pa,_,_,_,rfl,rfl,SqT.of ha,rfl,_,rfl,pb,_,_,_,rfl,rfl,SqT.of hb,rfl,_,_,rfl,rfl,xT rd sd,_,_,rfl,GC (den_pos r) (den_pos s),fun p H' g h=>?_⟩;rw[zgp]at h;exact q _ H' g (RN.of_q h)
 ·refine⟨_,rfl,rfl,_,rfl,?_⟩;rw[decide_eq_false (fun e=>k0 (V.int.inj e))];refine iteF ?_;refine⟨_,rfl,_,rfl,_,_,rfl,rfl,_,rfl,_,_,rfl,rfl,k0,?_⟩;exact q _ _ (Same.refl H) RN.of_z
theorem zgO (D:Df K mg "_law_times" QX jP) (yv:Kn P w K mg base "_law_fraction" 41 Qa Zm):Kn P w K mg base "_law_times" 42 QX (Ze nmul):=by
 refine D.kn zat (fun vs H Q E h=>?_) (fun f cdv A outer s H vs Q E hr h=>?_)
 ·obtain⟨k,x,y,a,b,rfl,_⟩:=h;rfl
 obtain⟨k,x,y,a,b,rfl,T,q⟩:=h;have kl:=T.kd.lt;refine⟨_,(zd (yn (zG xp (pv 0) zf (kae _)) (zi (zo (zp yv hr (zc (zt yb (zE zy (pv 1) zf) (zE zy (pv 2) zf)) (zc (zt yb (zE zy (pv 1) zf) (zE zy (pv 2) zf)) ze))))) zK) (zi (zo (zt zW (zt yb (pv 1) (pv 2)) (pv 0))))),?_⟩
 rcases YF T with⟨rfl,r,s,pa,pb,rfl,rfl,rfl,rfl,ha,hb,rn,rd,sn,sd⟩|⟨k0,hp,i,j,rfl,rfl,rfl,rfl,i0,ik,j0,jk⟩
 ·refine⟨_,rfl,rfl,_,rfl,iteT ?_⟩;refine⟨_,rfl,pa,_,_,_,rfl,rfl,SqT.of ha,rfl,_,rfl,pb,_,_,_,rfl,rfl,SqT.of hb,rfl,_,_,rfl,rfl,xT rn sn,_,rfl,pa,_,_,_,rfl,rfl,SqT.of ha,rfl,_,rfl,pb,_,_,_,rfl,rfl,SqT.of hb,rfl,_,_,rfl,rfl,xT rd sd,_,_,rfl,GC (den_pos r) (den_pos s),fun p H' g h=>?_⟩;rw[zcJ]at h;exact q _ H' g (RN.of_q h)
 ·refine⟨_,rfl,rfl,_,rfl,?_⟩;rw[decide_eq_false (fun e=>k0 (V.int.inj e))];refine iteF ?_;refine⟨_,rfl,_,rfl,_,_,rfl,rfl,yI i0 (by have:=hp.hi;omega),_,rfl,_,_,rfl,rfl,k0,?_⟩;exact q _ _ (Same.refl H) RN.of_z
theorem zjT{k:Int}(hk:kab k){x y:Nb}(ox:x.ok k)(oy:y.ok k):nadd k x (nmul k (nnum k (-1)) y)=nsub k x y:=by
 obtain⟨F,_,_,⟨φ⟩⟩:=La.ye hk;have o1:=La.ya hk (-1);have om:=La.yS hk o1 oy;refine φ.inj (La.JB hk ox om) (JF (by have:=hk.lt;omega) ox oy) ?_;rw[φ.add ox om,φ.mul o1 oy,φ.sub ox oy,φ.num];have:(La.ι (-1):F) = -1:=by
  have h1:(La.ι (-1):F)+La.ι 1=0:=by rw[← La.ι_add];exact La.ι_zero
  rw[La.ι_one]at h1
  grind
 rw[this]
 grind
def Yi:Sp:=fun vs H Q _=>∃(k:Int)(x y:Nb)(a b:V),vs=[.int k,a,b]/\kab k/\x.ok k/\y.ok k/\nsm 30000000 x/\nsm 30000000 y/\RN H x a/\RN H y b/\∀ v H',Same H H'->RN H' (nsub k x y) v->Q v H'
theorem zeZ (D:Df K mg "_law_minus" QX jN) (yk:Kn P w K mg base "_law_make" 1 QS qF) (jv:Kn P w K mg base "_law_plus" 42 QX (Ze nadd)) (yt:Kn P w K mg base "_law_times" 42 QX (Ze nmul)):Kn P w K mg base "_law_minus" 43 QX Yi:=by
 refine D.kn zaM (fun vs H Q E h=>?_) (fun f cdv A outer s H vs Q E hr h=>?_)
 ·obtain⟨k,x,y,a,b,rfl,_⟩:=h;rfl
 obtain⟨k,x,y,a,b,rfl,hk,ox,oy,sx,sy,rx,ry,q⟩:=h;refine⟨_,(zi (zo (zp jv hr (zc (pv 0) (zc (pv 1) (zc (zp yt hr (zc (pv 0) (zc (zp yk hr (zc (pv 0) (zc (ziF zfg zf) ze))) (zc (pv 2) ze)))) ze)))))),?_⟩;have o1:=La.ya hk (-1);have s1:nsm 30000000 (nnum k (-1)):=ZV hk (sm_one.neg.mono (by decide)) (by decide);refine⟨_,rfl,_,rfl,_,rfl,_,rfl,_,rfl,k,-1,rfl,hk,fun v1 H1 g1 r1=>?_⟩;refine⟨_,rfl,k,nnum k (-1),y,_,_,rfl,⟨hk,o1,oy,nsm.mono s1 (by decide),nsm.mono sy (by decide),r1,ry.mono g1⟩,fun v2 H2 g2 r2=>?_⟩;refine⟨k,x,_,_,_,rfl,⟨hk,ox,La.yS hk o1 oy,sx.mono (by decide),(zja hk o1 oy s1 sy (by decide)).mono (by decide),(rx.mono g1).mono g2,r2⟩,fun v3 H3 g3 r3=>?_⟩;rw[zjT hk ox oy]at r3;exact q v3 H3 ((g1.trans g2).trans g3) r3
def primesN:List Nat:=[2,3,5,7,11,13,17,19,23,29,31,37,41,43,47,53,59,61,67,71,73,79,83,89,97]
theorem zga:∀ w∈primesN,primeB w=true/\1<w/\w<99:=by decide
theorem zhS{i:Nat}(h:i<25):∃ k:Int,(([2,3,5,7,11,13,17,19,23,29,31,37,41,43,47,53,59,61,67,71,73,79,83,89,97]:List Int).map V.int)[i]?=some (.int k)/\KindS k:=by
 rw[show(([2,3,5,7,11,13,17,19,23,29,31,37,41,43,47,53,59,61,67,71,73,79,83,89,97]:List Int).map V.int)=primesN.map fun(w:Nat)=>V.int (w:Int)from rfl];have hi:i<primesN.length:=h;refine⟨(primesN[i]:Int),by rw[wo,wg hi];rfl,.inr ?_⟩;obtain⟨h1,h2,h3⟩:=zga primesN[i] (wp hi);exact⟨by omega,by omega,by rw[wW];exact h1⟩
def zca:Sp:=fun vs H Q _=>∃(c:Int),vs=[.int c]/\∀ k H',Same H H'->KindS k->(c.fmod 3=0->k=0)->Q (.int k) H'
theorem zgX (hP:P.given.tree=none) (hS:base.NoSeer) (D:Df K mg "_law_prime" ["_law_cell"] xB):Kn P w K mg base "_law_prime" 41 ["_law_cell"] zca:=by
 refine D.kn sY (fun vs H Q E h=>?_) (fun f cdv A outer s H vs Q E hr h=>?_)
 ·obtain⟨c,rfl,_⟩:=h;rfl
 obtain⟨c,rfl,q⟩:=h;obtain⟨es,pa,pb,pc,hes,e0⟩ : ∃(es:List Expr)(pa pb pc:Pos),IntEs es [2,3,5,7,11,13,17,19,23,29,31,37,41,43,47,53,59,61,67,71,73,79,83,89,97]/\kat xB=Stmt.Assign (targets:=[Expr.Name "_law_primes" pa]) (value:=Expr.List es pb) (pos:=pc) ::(kat xB).tail:=⟨_,_,_,_,by repeat constructor,rfl⟩;rw[e0];refine⟨_,(zd (zm (i:=1) sY.nd rfl (.inl rfl) (yC (zjl [2,3,5,7,11,13,17,19,23,29,31,37,41,43,47,53,59,61,67,71,73,79,83,89,97] hes))) (zd (yn (zG xp (zt zW (pv 0) zf) zf (kae _)) (zi (zo zf)) zK) (zi (zo (zE zw (pv 1) (zE zw (yC (zc (zt zW (zt (yf hr (by decide) hP hS ⟨_,_,rfl,rfl,rfl,rfl,rfl⟩) (pv 0) zf) zf) (zc (zt zW (zt (yf hr (by decide) hP hS ⟨_,_,rfl,rfl,rfl,rfl,rfl⟩) (pv 0) zf) zf) ze))) (zt qV (zt zW (pv 0) zf) zf))))))),?_⟩;have n3:(3:Int)≠0:=by decide
 refine⟨(by show 25<=sizeLine;decide),fun p hp=>?_⟩;have hpp:upd H p (.lst (([2,3,5,7,11,13,17,19,23,29,31,37,41,43,47,53,59,61,67,71,73,79,83,89,97]:List Int).map V.int)) p=some (.lst (([2,3,5,7,11,13,17,19,23,29,31,37,41,43,47,53,59,61,67,71,73,79,83,89,97]:List Int).map V.int)):=zh;have g1:=zg hp (.lst (([2,3,5,7,11,13,17,19,23,29,31,37,41,43,47,53,59,61,67,71,73,79,83,89,97]:List Int).map V.int));generalize upd H p (.lst (([2,3,5,7,11,13,17,19,23,29,31,37,41,43,47,53,59,61,67,71,73,79,83,89,97]:List Int).map V.int))=H1 at *;refine⟨_,rfl,_,_,rfl,rfl,n3,rfl,_,rfl,?_⟩;refine ite2 (fun cc=>?_) (fun cc=>?_)
 ·exact q 0 _ g1 (.inl rfl) (fun _=>rfl)
 ·have c3:c.fmod 3≠0:=fun e=>cc (by show decide (V.int (c.fmod 3)=V.int 0)=true;rw[e];decide)
  have f0:=wJ c (show(0:Int)<3 by decide);have f1:=wP c (show(0:Int)<3 by decide);have a0:=wJ (c.fdiv 3) (show(0:Int)<4 by decide);have a1:=wP (c.fdiv 3) (show(0:Int)<4 by decide);have b0:=wJ (c.fdiv 3) (show(0:Int)<25 by decide);have b1:=wP (c.fdiv 3) (show(0:Int)<25 by decide);refine⟨_,rfl,_,rfl,_,_,rfl,rfl,n3,_,_,rfl,rfl,(by show(4:Int)≠0;decide),_,rfl,_,_,rfl,rfl,n3,_,_,rfl,rfl,(by show(25:Int)≠0;decide),(by show 2<=sizeLine;decide),fun p2 hp2=>?_⟩;have g2:=zg hp2 (.lst [V.int ((c.fdiv 3).fmod 4),V.int ((c.fdiv 3).fmod 25)]);obtain⟨i,ei,hi⟩ : ∃ i:Nat,atI [V.int ((c.fdiv 3).fmod 4),V.int ((c.fdiv 3).fmod 25)] (c.fmod 3 - 1)=some (.int (i:Int))/\i<25:=by
   rcases (show c.fmod 3=1\/c.fmod 3=2 by omega)with e|e
   ·refine⟨((c.fdiv 3).fmod 4).toNat,?_,by omega⟩;rw[e,show((((c.fdiv 3).fmod 4).toNat:Nat):Int) =(c.fdiv 3).fmod 4 by omega]
    rfl
   ·refine⟨((c.fdiv 3).fmod 25).toNat,?_,by omega⟩;rw[e,show((((c.fdiv 3).fmod 25).toNat:Nat):Int) =(c.fdiv 3).fmod 25 by omega]
    rfl
  obtain⟨k,ek,hk⟩:=zhS hi;exact⟨_,rfl,_,_,rfl,rfl,n3,_,_,rfl,rfl,p2,_,_,_,rfl,rfl,SqL.of zh,ei,p,_,_,_,rfl,rfl,SqL.of (g2 _ _ hpp),zP ek,q k _ (g1.trans g2) hk (fun e=>absurd e c3)⟩
def zh8:Sp:=fun vs H Q _=>∃(k:Int)(pc:Addr)(cs:List Int)(i:Nat)(iI:Int),vs=[.int k,.ref pc,.int iI]/\iI =(i:Int)/\kab k/\H pc=some (.lst (cs.map V.int))/\cs≠[]/\∀ x v H',Same H H'->RN H' x v->x.ok k->Q v H'
theorem zkd (D:Df K mg "_law_at" da Yk) (Xu:Kn P w K mg base "_law_drawn" 42 Qe zbF) (Zl:Kn P w K mg base "_law_mixed" 41 Qb zah) (m_len:mg "len" = none):Kn P w K mg base "_law_at" 43 da zh8:=by
 refine D.kn zeH (fun vs H Q E h=>?_) (fun f cdv A outer s H vs Q E hr h=>?_)
 ·obtain⟨k,pc,cs,i,iI,rfl,_⟩:=h;rfl
 obtain⟨k,pc,cs,i,iI,rfl,rfl,hk,hc,ne,q⟩:=h;refine⟨_,(zd (yn (zG zh1 (pv 2) (zD zL rfl m_len yi (zc (pv 1) ze)) (kae _)) (zi (zo (zp Xu hr (zc (pv 0) (zc (zE zw (pv 1) (pv 2)) ze))))) zK) (zi (zo (zp Xu hr (zc (pv 0) (zc (zp Zl hr (zc (zt yT (zE zw (pv 1) zf) (pv 2)) (zc (zt zW (pv 2) zf) ze))) ze)))))),?_⟩;refine⟨_,rfl,_,rfl,pc,_,rfl,.inl (SqL.of hc),_,_,rfl,rfl,_,rfl,?_⟩;refine ite2 (fun cc=>?_) (fun cc=>?_)
 ·have c':(i:Int) <(((cs.map V.int).length:Nat):Int):=of_decide_eq_true cc;rw[we]at c';have e:(cs.map V.int)[i]?=some (.int cs[i]):=by rw[wo,wg (by omega)];rfl
  exact⟨_,rfl,_,rfl,_,rfl,pc,_,_,_,rfl,rfl,SqL.of hc,zP e,k,_,rfl,hk,q⟩
 ·obtain⟨c0,cs',rfl⟩:=uR ne;have f0:=wJ (i:Int) (show(0:Int)<30 by decide);have f1:=wP (i:Int) (show(0:Int)<30 by decide);exact⟨_,rfl,_,rfl,pc,_,_,_,rfl,rfl,SqL.of hc,zP (j:=0) rfl,_,rfl,_,_,rfl,rfl,_,rfl,_,_,rfl,rfl,(by show(30:Int)≠0;decide),_,_,rfl,(by omega),(by omega),fun m _ _=>⟨k,m,rfl,hk,q⟩⟩
def zbB:Sp:=fun vs H Q _=>∃(k:Int)(pc:Addr)(cs:List Int)(i:Nat)(iI:Int),vs=[.int k,.ref pc,.int iI]/\iI =(i:Int)/\kab k/\H pc=some (.lst (cs.map V.int))/\cs≠[]/\∀ x v H',Same H H'->RN H' x v->x.ok k->whk k 2 x->Q v H'
theorem zfN (D:Df K mg "_law_small" da jV) (zgf:Kn P w K mg base "_law_at" 43 da zh8):Kn P w K mg base "_law_small" 44 da zbB:=by
 refine D.kn Se (fun vs H Q E h=>?_) (fun f cdv A outer s H vs Q E hr h=>?_)
 ·obtain⟨k,pc,cs,i,iI,rfl,_⟩:=h;rfl
 obtain⟨k,pc,cs,i,iI,rfl,rfl,hk,hc,ne,q⟩:=h;refine⟨_,(zd (zm (i:=3) Se.nd rfl (.inl rfl) (zp zgf hr (zc (pv 0) (zc (pv 1) (zc (pv 2) ze))))) (zd (yn (zG xp (pv 0) zf (kae _)) (zi (zo (xm (zc (zt qV (zt zW (zE zy (pv 3) zf) zf) zf) (zc zf ze))))) zK) (zi (zo (pv 3))))),?_⟩;refine⟨_,rfl,_,rfl,_,rfl,k,pc,cs,i,_,rfl,rfl,hk,hc,ne,fun x v H1 g1 rx ox=>?_⟩;refine⟨_,rfl,rfl,_,rfl,?_⟩;refine ite2 (fun cc=>?_) (fun cc=>?_)
 ·have k0:k=0:=V.int.inj (of_decide_eq_true cc);subst k0;cases x with
  | z j=>exact absurd rfl ox.1
  | q r =>
   obtain⟨p,rfl,hp⟩:=rx.q;have f0:=wJ r.num (show(0:Int)<5 by decide);have f1:=wP r.num (show(0:Int)<5 by decide);refine⟨_,rfl,p,_,_,_,rfl,rfl,SqT.of hp,rfl,_,_,rfl,rfl,(by show(5:Int)≠0;decide),_,_,rfl,rfl,(by show 2<=sizeLine;decide),fun p2 hp2=>?_⟩;refine q (.q ((r.num.fmod 5 - 2:Int):Rat)) _ _ (g1.trans (zg hp2 _)) (RN.of_q (r:=((r.num.fmod 5 - 2:Int):Rat)) zh) rfl fun _=>⟨r.num.fmod 5 - 2,rfl,?_⟩
   have:(2:Nat)^2=4:=by decide
   omega
 ·have k0:k≠0:=fun e=>cc (by show decide (V.int k=V.int 0)=true;rw[e];decide)
  exact⟨_,rfl,q x v H1 g1 rx ox fun e=>absurd e k0⟩
def zbk:Sp:=fun vs H Q _=>∃(h:Int)(n:Nat)(b:Bool),vs=[.int h,.int (n:Int),.bl b]/\n<=60/\∀(ss:List Int)(l:Addr)(H':Hp),Same H H'->H' l=some (.lst (ss.map V.int))->ss.length=n->Q (.ref l) H'
theorem zfo (D:Df K mg "_law_sorts" dg jH) (Zl:Kn P w K mg base "_law_mixed" 41 Qb zah) (zJ:mg "range" = none) (zae:mg "sorted" = none):Kn P w K mg base "_law_sorts" 42 dg zbk:=by
 refine D.kn zad (fun vs H Q E h=>?_) (fun f cdv A outer s H vs Q E hr h=>?_)
 ·obtain⟨h,n,b,rfl,_⟩:=h;rfl
 obtain⟨h,n,b,rfl,n60,q⟩:=h;have szl:=dN
 refine⟨_,(zd (yn (jL (pv 2)) (zi (zo (yR [] [] (zY rfl zJ (zc (pv 1) ze)) fun _ _ _ _ _ _=>⟨zO,zf⟩))) zK) (zi (zo (zD zbG rfl zae zfp (zc (yR ["_law_head"] [0] (zY rfl zJ (zc (pv 1) ze)) fun _ _ _ _ _ _=>⟨zO,(zt zW (zp Zl hr (zc (pv 1) (zc (zt yT zf (pv 0)) ze))) zf)⟩) ze))))),?_⟩;refine⟨_,rfl,_,rfl,?_⟩;refine ite2 (fun cc=>?_) (fun cc=>?_)
 ·refine⟨_,rfl,n,rfl,(by omega),(by omega),?_⟩;rw[wW];refine yG (lo:=0) (n:=n) (fun i ys H'=>H'=H/\ys =(wN i (1:Int)).map V.int) ⟨rfl,rfl⟩ ?_ ?_ ?_
  ·rintro i ys H' hi ⟨rfl,rfl⟩
   rw[we,vt];omega
  ·rintro i ys H' hi ⟨rfl,rfl⟩
   first|refine gyes ?_|refine tyes ?_
   refine nxt hi ⟨rfl,?_⟩;rw[Gu,wF];rfl
  ·rintro ys H' ⟨rfl,rfl⟩ p hp
   exact q _ p _ (zg hp _) zh (by rw[vt])
 ·refine⟨_,rfl,n,rfl,(by omega),(by omega),?_⟩;rw[wW];refine yG (lo:=0) (n:=n) (fun i ys H'=>H'=H/\∃ ss:List Int,ys=ss.map V.int/\ss.length=i) ⟨rfl,[],rfl,rfl⟩ ?_ ?_ ?_
  ·rintro i ys H' hi ⟨rfl,ss,rfl,l⟩
   rw[we];omega
  ·rintro i ys H' hi ⟨rfl,ss,rfl,l⟩
   first|refine gyes ?_|refine tyes ?_
   refine⟨_,rfl,_,rfl,_,_,rfl,rfl,_,_,rfl,(by omega),(by omega),fun m _ _=>⟨_,_,rfl,rfl,(by show(4:Int)≠0;decide),nxt hi ⟨rfl,ss++[m.fmod 4],?_,by rw[wy,l];rfl⟩⟩⟩;rw[wF];rfl
  ·rintro ys H' ⟨rfl,ss,rfl,l⟩ p hp
   refine⟨p,ss,rfl,SqL.of zh,(by omega),fun l2 ss' hl2 pm _=>?_⟩;exact q ss' l2 _ ((zg hp _).trans (zg hl2 _)) zh (by rw[pm.length_eq,l])
def zda:Sp:=fun vs H Q _=>∃(a b:Int),vs=[.int a,.int b]/\∀ c,Q (.bl c) H
theorem zhP (D:Df K mg "_law_lets" dh qE):Kn P w K mg base "_law_lets" 1 dh zda:=by
 refine D.kn zb9 (fun vs H Q E h=>?_) (fun f cdv A outer s H vs Q E hr h=>?_)
 ·obtain⟨a,b,rfl,_⟩:=h;rfl
 obtain⟨a,b,rfl,q⟩:=h;refine⟨_,(zd (yn (zG xp (pv 0) zf (kae _)) (zi (zo (zkx (xJ xp (pv 1) zf (kae _)) (QP (xJ xp (pv 1) zf (kae _)))))) zK) (zd (yn (zG xp (pv 0) zf (kae _)) (zi (zo (xJ ZM (pv 1) zf (kae _)))) zK) (zi (zo (zkx (xJ xp (pv 0) zf (kae _)) (QP (xJ xp (pv 1) zf (kae _)))))))),?_⟩;refine⟨_,rfl,rfl,_,rfl,?_⟩;refine ite2 (fun c1=>?_) (fun c1=>?_)
 ·refine⟨_,rfl,rfl,_,rfl,?_⟩;refine ite2 (fun c2=>?_) (fun c2=>?_)
  ·exact q _
  ·exact⟨_,rfl,rfl,q _⟩
 ·refine⟨_,rfl,rfl,_,rfl,?_⟩;refine ite2 (fun c2=>?_) (fun c2=>?_)
  ·exact⟨_,rfl,_,_,rfl,rfl,q _⟩
  ·refine⟨_,rfl,rfl,_,rfl,?_⟩;refine ite2 (fun c3=>?_) (fun c3=>?_)
   ·exact q _
   ·exact⟨_,rfl,rfl,q _⟩
theorem za6{K:PySem.W.Frag}{a:Addr}{xs:List V}{g:TG}{tb:TS}{D:Ends}{σ:L2.St}{H:Hp}(Pv:Nat->L2.St->Hp->Prop)(h0:Pv 0 σ H)(hl:∀ i σ H,i<=xs.length->Pv i σ H->SqL K H a xs)
  (hs:∀(N B:L2.St->Hp->Prop)(i:Nat)(x:V)(σ:L2.St)(H:Hp),(∀ σ' H',Pv (i+1) σ' H'->N σ' H')->xs[i]?=some x->Pv i σ H->g x σ H fun σ2 H2=>tb { D with nx:=N,ct:=N,bk:=B } σ2 H2) (hd:∀ σ H,Pv xs.length σ H->D.nx σ H) :
  ∃ W:Nat->Nat->L2.St->Hp->Prop,(∃ m,W 0 m σ H)/\∀ i m σ H,W i m σ H ->
   ((Itl K a).stop i H/\D.nx σ H)\/((Itl K a).go i H/\∃ N:L2.St->Hp->Prop,(∀ σ' H',N σ' H'->∃ m',m'<m/\W (i+1) m' σ' H')/\∀ x H',(Itl K a).yld i H x H'->g x σ H' fun σ2 H2=>tb { D with nx:=N,ct:=N,bk:=D.nx } σ2 H2) :=
 yP Pv h0 hl (fun i x σ H hx p=>hs (Pv (i+1)) D.nx i x σ H (fun _ _ h=>h) hx p) hd
theorem YW{lo:Int}{n:Nat}{g:TG}{tb:TS}{D:Ends}{σ:L2.St}{H:Hp}(Pv:Nat->L2.St->Hp->Prop)(h0:Pv 0 σ H)
  (hs:∀(N B:L2.St->Hp->Prop)(i:Nat)(σ:L2.St)(H:Hp),(∀ σ' H',Pv (i+1) σ' H'->N σ' H')->i<n->Pv i σ H->g (.int (lo+i)) σ H fun σ2 H2=>tb { D with nx:=N,ct:=N,bk:=B } σ2 H2) (hd:∀ σ H,Pv n σ H->D.nx σ H) :
  ∃ W:Nat->Nat->L2.St->Hp->Prop,(∃ m,W 0 m σ H)/\∀ i m σ H,W i m σ H ->
   ((Itr lo n).stop i H/\D.nx σ H)\/((Itr lo n).go i H/\∃ N:L2.St->Hp->Prop,(∀ σ' H',N σ' H'->∃ m',m'<m/\W (i+1) m' σ' H')/\∀ x H',(Itr lo n).yld i H x H'->g x σ H' fun σ2 H2=>tb { D with nx:=N,ct:=N,bk:=D.nx } σ2 H2) :=
 yF Pv h0 (fun i σ H hi p=>hs (Pv (i+1)) D.nx i σ H (fun _ _ h=>h) hi p) hd
def Jx:Sp:=fun vs H Q _=>∃(k:Int)(pc pz ps:Addr)(cs ss:List Int)(n m q:Nat),vs=[.int k,.ref pc,.ref pz,.ref ps]/\kab k/\H pc=some (.lst (cs.map V.int))/\cs≠[]/\H pz=some (.tup [.int (n:Int),.int (m:Int),.int (q:Int)])/\H ps=some (.lst (ss.map V.int))/\ss.length=n/\n<=10/\m<=10/\q<=10 /\
 ∀(A B C:Tb)(pt pr:Addr)(ts:List Addr)(rs:List (List Addr))(at':Nat)(H':Hp),kaj H H' [A,B,C] ts rs->TW k n n 2 A->TW k n m 2 B->TW k q n 2 C->H' pt=some (.lst (ts.map V.ref))->H pt=none->pt∉ts->(∀ ras∈rs,pt∉ras)->H' pr=some (.tup [.ref pt,.int (at':Int)])->Q (.ref pr) H'
def dimR(n m q j:Nat):Nat:=if j=2 then q else n
def dimC(n m q j:Nat):Nat:=if j=1 then m else n
theorem zcG (D:Df K mg "_law_blocked" di xQ) (yk:Kn P w K mg base "_law_make" 1 QS qF) (zbK:Kn P w K mg base "_law_small" 44 da zbB) (zck:Kn P w K mg base "_law_lets" 1 dh zda) (zJ:mg "range" = none):Kn P w K mg base "_law_blocked" 45 di Jx:=by
 refine D.kn sF (fun vs H Q E h=>?_) (fun f cdv A' outer s' H vs Q E hr h=>?_)
 ·obtain⟨k,pc,pz,ps,cs,ss,n,m,q,rfl,_⟩:=h;rfl
 obtain⟨k,pc,pz,ps,cs,ss,n,m,qn,rfl,hk,hc,ne,hz,hs,ls,n10,m10,q10,q⟩:=h;have szl:=dN
 refine⟨_,(zd (qk (pv 2) (jZ 3 rfl (yd (zI (i:=4) sF.nd rfl (.inl rfl)) (yd (zI (i:=5) sF.nd rfl (.inl rfl)) (yd (zI (i:=6) sF.nd rfl (.inl rfl)) je))))) (zd (zm (i:=7) sF.nd rfl (.inr rfl) (zp yk hr (zc (pv 0) (zc zf ze)))) (zd (zm (i:=8) sF.nd rfl (.inl rfl) (yC ze)) (zd (zm (i:=9) sF.nd rfl (.inr rfl) zf) (zd (yu PassesOwn.never rfl (zH (yC (zc (xm (zc (pv 4) (zc (pv 4) ze))) (zc (xm (zc (pv 4) (zc (pv 5) ze))) (zc (xm (zc (pv 6) (zc (pv 4) ze))) ze))))) (jZ 2 rfl (yd (zI (i:=10) sF.nd rfl (.inl rfl)) (yd (zI (i:=11) sF.nd rfl (.inr rfl)) je))) (zd (zm (i:=12) sF.nd rfl (.inl rfl) (yC ze)) (zd (yu PassesOwn.never rfl (zY rfl zJ (zc (pv 10) ze)) (zI (i:=13) sF.nd rfl (.inr rfl)) (zi (yU (bm0 (fun _ h=>ZL PySem.F.plainAttrs_list PySem.F.slot_list_append PySem.F.type_list_append yE h (zc (yR ["_law_prime_here", "_law_cells", "_law_at_here", "_law_i", "_law_columns"] [0,1,9,13,11] (zY rfl zJ (zc (pv 11) ze)) fun _ _ _ _ _ _=>⟨zO,(zp zbK hr (zc (pv 1) (zc (pv 2) (zc (zt yT (zt yT (pv 3) (zt yb (pv 4) (pv 5))) (pv 0)) ze))))⟩) ze)) (pv 12))))) (zd (yU (bm0 (fun _ h=>ZL PySem.F.plainAttrs_list PySem.F.slot_list_append PySem.F.type_list_append yE h (zc (pv 12) ze)) (pv 8))) (zi (zm (i:=9) sF.nd rfl (.inr rfl) (zt yT (pv 9) (zt yb (pv 10) (pv 11))))))))) (zd (yu PassesOwn.never rfl (zY rfl zJ (zc (pv 4) ze)) (zI (i:=13) sF.nd rfl (.inr rfl)) (zd (yu PassesOwn.never rfl (zY rfl zJ (zc (pv 4) ze)) (zI (i:=14) sF.nd rfl (.inl rfl)) (zi (yn (qj (jL (zp zck hr (zc (zE zw (pv 3) (pv 13)) (zc (zE zw (pv 3) (pv 14)) ze))))) (zi (qk (pv 7) (Xy (zE zw (zE zw (pv 8) zf) (pv 13)) (pv 14) jO))) zK))) (zd (yn (zG ZM (zE zw (pv 3) (pv 13)) zf (kae _)) (zi (qk (yR ["_law_nought"] [7] (zY rfl zJ (zc (pv 5) ze)) fun _ _ _ _ _ _=>⟨zO,(pv 1)⟩) (Xy (zE zw (pv 8) zf) (pv 13) jO))) zK) (zi (yn (zG xp (zt zW (zE zw (pv 3) (pv 13)) zf) zf (kae _)) (zi (yu PassesOwn.never rfl (zH (zE zw (pv 8) zf)) (zI (i:=15) sF.nd rfl (.inl rfl)) (zi (qk (pv 7) (Xy (pv 15) (pv 13) jO))))) zK))))) (zi (zo (xm (zc (pv 8) (zc (pv 9) ze))))))))))),?_⟩;refine⟨_,rfl,pz,_,rfl,SqT.of hz,rfl,_,_,rfl,_,_,rfl,_,_,rfl,rfl,?_⟩;refine⟨_,rfl,k,0,rfl,hk,fun v0 H1 g1 r1=>?_⟩;refine⟨(by show 0<=sizeLine;decide),fun pt hpt=>?_⟩;have ptH:H pt=none:=g1.none hpt;have g2:=zg hpt (.lst []);have hpt2:upd H1 pt (.lst []) pt=some (.lst []):=zh;have r2:=r1.mono g2;have gH2:=g1.trans g2;generalize upd H1 pt (.lst [])=H2 at *;clear hpt r1;refine⟨_,rfl,_,rfl,(by show 2<=sizeLine;decide),fun q1 hq1=>?_⟩;have g3:=zg hq1 (.tup [.int (n:Int),.int (n:Int)]);have e1:upd H2 q1 (.tup [.int (n:Int),.int (n:Int)]) q1=some (.tup [.int (n:Int),.int (n:Int)]):=zh;generalize upd H2 q1 (.tup [.int (n:Int),.int (n:Int)])=H3 at *;refine⟨_,rfl,_,rfl,(by show 2<=sizeLine;decide),fun q2 hq2=>?_⟩;have g4:=zg hq2 (.tup [.int (n:Int),.int (m:Int)]);have e2:upd H3 q2 (.tup [.int (n:Int),.int (m:Int)]) q2=some (.tup [.int (n:Int),.int (m:Int)]):=zh;generalize upd H3 q2 (.tup [.int (n:Int),.int (m:Int)])=H4 at *;refine⟨_,rfl,_,rfl,(by show 2<=sizeLine;decide),fun q3 hq3=>?_⟩;have g5:=zg hq3 (.tup [.int (qn:Int),.int (n:Int)]);have e3:upd H4 q3 (.tup [.int (qn:Int),.int (n:Int)]) q3=some (.tup [.int (qn:Int),.int (n:Int)]):=zh;generalize upd H4 q3 (.tup [.int (qn:Int),.int (n:Int)])=H5 at *;refine⟨(by show 3<=sizeLine;decide),fun pl hpl=>?_⟩;have g6:=zg hpl (.lst [.ref q1,.ref q2,.ref q3]);have e4:upd H5 pl (.lst [.ref q1,.ref q2,.ref q3]) pl=some (.lst [.ref q1,.ref q2,.ref q3]):=zh;generalize upd H5 pl (.lst [.ref q1,.ref q2,.ref q3])=H6 at *;have hpt6:=g6 _ _ (g5 _ _ (g4 _ _ (g3 _ _ hpt2)));have npl:pl≠pt:=fun e=>by rw[e,g5 _ _ (g4 _ _ (g3 _ _ hpt2))]at hpl;cases hpl
 have nq1:q1≠pt:=fun e=>by rw[e,hpt2]at hq1;cases hq1
 have nq2:q2≠pt:=fun e=>by rw[e,g3 _ _ hpt2]at hq2;cases hq2
 have nq3:q3≠pt:=fun e=>by rw[e,g4 _ _ (g3 _ _ hpt2)]at hq3;cases hq3
 have gH6:=(((gH2.trans g3).trans g4).trans g5).trans g6;have r6:=(((r2.mono g3).mono g4).mono g5).mono g6;have f1:=g6 _ _ (g5 _ _ (g4 _ _ e1));have f2:=g6 _ _ (g5 _ _ e2);have f3:=g6 _ _ e3;clear g1 g2 g3 g4 g5 g6 hq1 hq2 hq3 hpl e1 e2 e3 hpt2 gH2 r2;refine⟨pl,rfl,⟨_,SqL.of e4⟩,?_⟩;refine za6 (xs:=[.ref q1,.ref q2,.ref q3]) (fun i σ H'=>∃ Ms ts rs,∃ at':Nat,∃ o10 o11 o12 o13 o14 o15,σ=[some (.int k),some (.ref pc),some (.ref pz),some (.ref ps),some (.int (n:Int)),some (.int (m:Int)),some (.int (qn:Int)),some v0,some (.ref pt),some (.int (at':Int)),o10,o11,o12,o13,o14,o15]/\kaj H H' Ms ts rs/\Ms.length=i/\(∀ j M,Ms[j]?=some M->TW k (dimR n m qn j) (dimC n m qn j) 2 M)/\H' pt=some (.lst (ts.map V.ref))/\pt∉ts/\(∀ ras∈rs,pt∉ras)/\RN H' (nnum k 0) v0/\H' pl=some (.lst [.ref q1,.ref q2,.ref q3])/\H' q1=some (.tup [.int (n:Int),.int (n:Int)])/\H' q2=some (.tup [.int (n:Int),.int (m:Int)])/\H' q3=some (.tup [.int (qn:Int),.int (n:Int)]))
  ⟨[],[],[],1,none,none,none,none,none,none,rfl,kaj.nil gH6,rfl,fun j M h=>by simp at h,hpt6,by simp,fun ras hr=>(nomatch hr),r6,e4,f1,f2,f3⟩ ?_ ?_ ?_
 ·rintro i σ H' _ ⟨Ms,ts,rs,at',o10,o11,o12,o13,o14,o15,rfl,G,lM,dM,hpt,nt,nr,r0,hl,_⟩
  exact SqL.of hl
 ·intro N1 B1 i v σ H7 hN1 hv
  rintro ⟨Ms,ts,rs,at',o10,o11,o12,o13,o14,o15,rfl,G,lM,dM,hpt7,nt,nr,r0,hl,h1,h2,h3⟩
  obtain⟨qa,rows,cols,rfl,hqa,er,ec,rb,cb⟩ : ∃ qa rows cols,v=.ref qa/\H7 qa=some (.tup [.int ((rows:Nat):Int),.int ((cols:Nat):Int)])/\rows=dimR n m qn i/\cols=dimC n m qn i/\rows<=10/\cols<=10:=by
   match i,hv with
   | 0,hv=>cases hv;exact⟨q1,n,n,rfl,h1,rfl,rfl,n10,n10⟩
   | 1,hv=>cases hv;exact⟨q2,n,m,rfl,h2,rfl,rfl,n10,m10⟩
   | 2,hv=>cases hv;exact⟨q3,qn,n,rfl,h3,rfl,rfl,q10,n10⟩
  refine⟨qa,_,rfl,SqT.of hqa,rfl,_,_,rfl,_,_,rfl,rfl,?_⟩;refine⟨(by show 0<=sizeLine;decide),fun pto hpto=>?_⟩;have hc7:=G.same _ _ hc;refine⟨_,rfl,rows,rfl,(by omega),(by omega),?_⟩;rw[wW];refine YW (lo:=0) (n:=rows) (fun j σ H'=>∃ M ras o13 o14 o15,σ=[some (.int k),some (.ref pc),some (.ref pz),some (.ref ps),some (.int (n:Int)),some (.int (m:Int)),some (.int (qn:Int)),some v0,some (.ref pt),some (.int (at':Int)),some (.int (rows:Int)),some (.int (cols:Int)),some (.ref pto),o13,o14,o15]/\Grow H7 H' M ras/\H' pto=some (.lst (ras.map V.ref))/\pto∉ras/\M.length=j/\La.OkM k cols M/\(∀ r∈M,∀ x∈r,whk k 2 x)) ⟨[],[],_,_,_,rfl,Grow.nil H7 (zg hpto _),zh,by simp,rfl,fun r hr=>(nomatch hr),fun r hr=>(nomatch hr)⟩ ?_ ?_
  ·intro N2 B2 j σ H8 hN2 hj
   rintro ⟨M,ras,o13,o14,o15,rfl,G8,hpt8,npt8,l8,o8,s8⟩
   refine⟨_,rfl,.inl ⟨rfl,_,SqL.of hpt8⟩,_,rfl,cols,rfl,(by omega),(by omega),?_⟩;rw[wW];have ci0:0<=(0 +(j:Int)) *(cols:Int):=Int.mul_nonneg (by omega) (by omega);refine yG (lo:=0) (n:=cols) (fun l ys' H9=>∃ xs,Same H8 H9/\Paired (RN H9) xs ys'/\xs.length=l/\La.OkR k xs/\∀ x∈xs,whk k 2 x) ⟨[],Same.refl _,.nil,rfl,fun x hx=>(nomatch hx),fun x hx=>(nomatch hx)⟩ ?_ ?_ ?_
   ·rintro l ys' H9 hl' ⟨xs,g9,pr9,lx,_⟩
    have:=zk pr9;omega
   ·rintro l ys' H9 hl' ⟨xs,g9,pr9,lx,ox,sx⟩
    have hc9:H9 pc=some (.lst (cs.map V.int)):=g9 _ _ (G8.same _ _ hc7)
    first|refine gyes ?_|refine tyes ?_
    refine⟨_,rfl,_,rfl,_,rfl,_,rfl,_,rfl,_,_,rfl,rfl,ql (by omega) (by omega),_,_,rfl,rfl,_,rfl,_,_,rfl,rfl,k,pc,cs,((at':Int) +(0 +(j:Int)) *(cols:Int) +(0 +(l:Int))).toNat,_,rfl,(by omega),hk,hc9,ne,fun x v' H10 g10 xr xo xs2=>?_⟩;refine nxt hl' ⟨xs++[x],g9.trans g10,yj (jC g10 pr9) xr,by rw[wy,lx];rfl,fun y hy=>?_,fun y hy=>?_⟩
    ·rcases wu.mp hy with h|h
     ·exact ox y h
     ·rw[wD.mp h];exact xo
    ·rcases wu.mp hy with h|h
     ·exact sx y h
     ·rw[wD.mp h];exact xs2
   ·rintro ys' H9 ⟨xs,g9,pr9,lx,ox,sx⟩ pn hpn
    have npn:pto≠pn:=fun e=>by rw[← e,g9 _ _ hpt8]at hpn;cases hpn
    refine⟨pto,_,_,rfl,rfl,(by rw[zN npn];exact g9 _ _ hpt8),?_,?_⟩
    ·have:=zk G8.rows;rw[we];omega
    obtain⟨G9,nm9⟩:=G8.push (zs':=(ras.map V.ref)++[.ref pn]) hpto hpt8 npt8 g9 hpn pr9;refine hN2 _ _ ⟨M++[xs],ras++[pn],_,_,_,rfl,G9,?_,nm9,by rw[wy,l8];rfl,fun y hy=>?_,fun y hy=>?_⟩
    ·rw[zh,wF];rfl
    ·rcases wu.mp hy with h|h
     ·exact o8 y h
     ·rw[wD.mp h];exact⟨lx,ox⟩
    ·rcases wu.mp hy with h|h
     ·exact s8 y h
     ·rw[wD.mp h];exact sx
  ·rintro σ H8 ⟨M,ras,o13,o14,o15,rfl,G8,hpt8,npt8,l8,o8,s8⟩
   have g8:=G8.same;have hptb:H8 pt=some (.lst (ts.map V.ref)):=g8 _ _ hpt7;have N8:NewT H7 H8 M pto ras:=⟨⟨hpt8,G8.rows⟩,hpto,G8.fr,G8.nd,npt8⟩;have lts:=G.lt;have hi3:i<3:=(wq.mp hv).1;refine⟨_,rfl,.inl ⟨rfl,_,SqL.of hptb⟩,_,rfl,pt,_,_,rfl,rfl,hptb,(by rw[we];omega),?_⟩;have nt8:pt≠pto:=fun e=>by have:=hpto;rw[← e,hpt7]at this;cases this
   have nr8:pt∉ras:=fun hm=>by have:=G8.fr _ hm;rw[hpt7]at this;cases this
   have nts:pt∉ts++[pto]:=fun hm=>by
    rcases wu.mp hm with h|h
    ·exact nt h
    ·exact nt8 (wD.mp h)
   have nrs:∀ x∈rs++[ras],pt∉x:=fun x hm=>by
    rcases wu.mp hm with h|h
    ·exact nr x h
    ·rw[wD.mp h];exact nr8
   have G9:=(G.push g8 N8).updAt (zs':=(ts.map V.ref)++[.ref pto]) ptH hptb nts nrs;refine⟨_,rfl,_,rfl,_,rfl,_,_,rfl,rfl,ql (by omega) (by omega),_,_,rfl,rfl,hN1 _ _ ⟨Ms++[M],ts++[pto],rs++[ras],at'+rows*cols,some (.int (rows:Int)),some (.int (cols:Int)),some (.ref pto),o13,o14,o15,?_,G9,by rw[wy,lM];rfl,fun j M' hj=>?_,by rw[zh,wF];rfl,nts,nrs,(r0.mono g8).upd hptb,by rw[zN npl];exact g8 _ _ hl,by rw[zN nq1];exact g8 _ _ h1,by rw[zN nq2];exact g8 _ _ h2,by rw[zN nq3];exact g8 _ _ h3⟩⟩
   ·rw[show((at'+rows*cols:Nat):Int) =(at':Int) +(rows:Int) *(cols:Int) by rw[Int.natCast_add,uU]]
    rfl
   ·rcases wO j Ms.length with h|h
    ·rw[vz h]at hj;exact dM j M' hj
    ·have e:j=Ms.length:=by
      have:=(wq.mp hj).1;simp at this;omega
     subst e;rw[vv (ww _),Gf]at hj;cases hj;rw[lM,← er,← ec];exact⟨l8,o8,s8⟩
 rintro σ H7 ⟨Ms,ts,rs,at',o10,o11,o12,o13,o14,o15,rfl,G,lM,dM,hpt7,nt,nr,r0,_⟩
 obtain⟨A,B,C,rfl⟩ : ∃ A B C,Ms=[A,B,C]:=by
  match Ms,lM with
  | [A,B,C],_=>exact⟨A,B,C,rfl⟩
 have tA:TW k n n 2 A:=dM 0 A rfl;have tB:TW k n m 2 B:=dM 1 B rfl;have tC:TW k qn n 2 C:=dM 2 C rfl;obtain⟨ta,tb,tc,rfl⟩ : ∃ ta tb tc,ts=[ta,tb,tc]:=by
  match ts,G.lt with
  | [ta,tb,tc],_=>exact⟨ta,tb,tc,rfl⟩
 clear dM lM e4 f1 f2 f3 hpt6 npl nq1 nq2 nq3 r6 gH6;have z0:(nnum k 0).ok k:=La.ya hk 0;have zs:whk k 2 (nnum k 0):=fun _=>⟨0,rfl,by decide⟩
 refine⟨_,rfl,n,rfl,(by omega),(by omega),?_⟩;rw[wW];refine YW (lo:=0) (n:=n) (fun i σ H'=>∃ A B C rs o10 o11 o12 o13 o14 o15,σ=[some (.int k),some (.ref pc),some (.ref pz),some (.ref ps),some (.int (n:Int)),some (.int (m:Int)),some (.int (qn:Int)),some v0,some (.ref pt),some (.int (at':Int)),o10,o11,o12,o13,o14,o15]/\kaj H H' [A,B,C] [ta,tb,tc] rs/\TW k n n 2 A/\TW k n m 2 B/\TW k qn n 2 C/\H' pt=some (.lst [.ref ta,.ref tb,.ref tc])/\(∀ ras∈rs,pt∉ras)/\RN H' (nnum k 0) v0) ⟨A,B,C,rs,_,_,_,_,_,_,rfl,G,tA,tB,tC,hpt7,nr,r0⟩ ?_ ?_
 ·clear G tA tB tC hpt7 nr r0;intro N4 B4 i σ H8 hN4 hi
  rintro ⟨A,B,C,rs,o10,o11,o12,o13,o14,o15,rfl,G,tA,tB,tC,hpt8,nr,r0⟩
  have hss:(ss.map V.int)[i]?=some (.int ss[i]):=by rw[wo,wg (by omega)];rfl
  refine⟨_,rfl,n,rfl,(by omega),(by omega),?_⟩;rw[wW];refine YW (lo:=0) (n:=n) (fun j σ H'=>∃ A o14 o15,σ=[some (.int k),some (.ref pc),some (.ref pz),some (.ref ps),some (.int (n:Int)),some (.int (m:Int)),some (.int (qn:Int)),some v0,some (.ref pt),some (.int (at':Int)),o10,o11,o12,some (.int (0 +(i:Int))),o14,o15]/\kaj H H' [A,B,C] [ta,tb,tc] rs/\TW k n n 2 A/\H' pt=some (.lst [.ref ta,.ref tb,.ref tc])/\RN H' (nnum k 0) v0) ⟨A,_,_,rfl,G,tA,hpt8,r0⟩ ?_ ?_
  ·clear G tA hpt8 r0;intro N5 B5 j σ H9 hN5 hj
   rintro ⟨A,o14,o15,rfl,G,tA,hpt9,r0⟩
   have hs9:=G.same _ _ hs;have hsj:(ss.map V.int)[j]?=some (.int ss[j]):=by rw[wo,wg (by omega)];rfl
   refine⟨_,rfl,_,rfl,ps,_,_,_,rfl,rfl,SqL.of hs9,(by rw[vA];exact zP hss),_,rfl,_,rfl,ps,_,_,_,rfl,rfl,SqL.of hs9,(by rw[vA];exact zP hsj),_,_,rfl,fun cb=>⟨_,rfl,?_⟩⟩;refine ite2 (fun cc=>?_) (fun cc=>?_)
   ·obtain⟨M',t',ras,e1,e2,e3,hT⟩:=G.get (i:=0) (by simp);cases e1;cases e2;have lra:=zk hT.2;rw[tA.len]at lra;have hi':ras[i]?=some ras[i]:=wg (by omega);obtain⟨row,hrow,hR⟩:=yh hT.2 hi';obtain⟨us,hu,pu,lu⟩:=hR.len;have orow:=tA.ok row (wk hrow);have nra:ras[i]≠pt:=fun e=>nr ras (wk e3) (by rw[← e];exact wp _)
    refine⟨_,rfl,_,rfl,pt,_,_,_,rfl,rfl,SqL.of hpt9,zP (j:=0) rfl,_,rfl,ta,_,_,_,rfl,rfl,SqL.of hT.1,(by rw[vA];exact zP (by rw[wo,hi'];rfl)),_,rfl,ras[i],us,_,j,rfl,rfl,hu,(by rw[vA];exact ZT (by rw[lu,orow.1];exact hj)),?_⟩;refine hN5 _ _ ⟨A.set i (row.set j (nnum k 0)),_,_,rfl,G.setRow (i:=0) rfl e3 hi' hu (za4 pu j r0),tA.set (by rw[vn];exact orow.1) (fun x hx=>?_) (fun x hx=>?_),by rw[zN (Ne.symm nra)];exact hpt9,r0.upd hu⟩
    ·rcases La.ym hx with e|e
     ·rw[e];exact z0
     ·exact orow.2 x e
    ·rcases La.ym hx with e|e
     ·rw[e];exact zs
     ·exact tA.sz row (wk hrow) x e
   ·exact hN5 _ _ ⟨A,_,_,rfl,G,tA,hpt9,r0⟩
  clear G tA hpt8 r0
  rintro σ H9 ⟨A,o14,o15,rfl,G,tA,hpt9,r0⟩
  have hs9:=G.same _ _ hs
  try dsimp only
  refine zbQ (fun σ H'=>∃ B rs o14,σ=[some (.int k),some (.ref pc),some (.ref pz),some (.ref ps),some (.int (n:Int)),some (.int (m:Int)),some (.int (qn:Int)),some v0,some (.ref pt),some (.int (at':Int)),o10,o11,o12,some (.int (0 +(i:Int))),o14,o15]/\kaj H H' [A,B,C] [ta,tb,tc] rs/\TW k n m 2 B/\H' pt=some (.lst [.ref ta,.ref tb,.ref tc])/\(∀ ras∈rs,pt∉ras)/\RN H' (nnum k 0) v0) ?_ ?_
  rotate_left
  ·intro hN;refine⟨_,rfl,_,rfl,ps,_,_,_,rfl,rfl,SqL.of hs9,(by rw[vA];exact zP hss),_,_,rfl,rfl,_,rfl,?_⟩;refine ite2 (fun cc=>?_) (fun cc=>?_)
   ·refine⟨_,rfl,m,rfl,(by omega),(by omega),?_⟩;rw[wW];refine yG (lo:=0) (n:=m) (fun l ys' H'=>H'=H9/\ys'=wN l v0) ⟨rfl,rfl⟩ ?_ ?_ ?_
    ·rintro l ys' H' hl' ⟨rfl,rfl⟩
     rw[vt];omega
    ·rintro l ys' H' hl' ⟨rfl,rfl⟩
     first|refine gyes ?_|refine tyes ?_
     exact⟨_,rfl,nxt hl' ⟨rfl,by rw[Gu]⟩⟩
    ·rintro ys' H' ⟨rfl,rfl⟩ pn hpn
     have g10:=zg hpn (.lst (wN m v0));have R10:kas (upd H' pn (.lst (wN m v0))) (wN m (nnum k 0)) pn:=⟨_,zh,zg3 (r0.mono g10) m⟩;have G10:=G.mono g10;have hpt10:=g10 _ _ hpt9;have npn:pn∉[ta,tb,tc]:=fun hm=>by obtain⟨o,ho⟩:=G.tsome hm;rw[hpn]at ho;cases ho
     have nrn:∀ ras∈rs,pn∉ras:=fun ras hr hm=>by obtain⟨o,ho⟩:=G.rsome hr hm;rw[hpn]at ho;cases ho
     have fpn:H pn=none:=G.same.none hpn;have r10:=r0.mono g10;have ptn:pt≠pn:=fun e=>by rw[← e,hpt9]at hpn;cases hpn
     generalize upd H' pn (.lst (wN m v0))=H10 at *;obtain⟨M',t',ras,e1,e2,e3,hT⟩:=G10.get (i:=1) (by simp);cases e1;cases e2;have lra:=zk hT.2;rw[tB.len]at lra;have hi':i<ras.length:=by omega
     refine⟨_,rfl,pt,_,_,_,rfl,rfl,SqL.of hpt10,zP (j:=1) rfl,_,rfl,tb,_,_,i,rfl,rfl,hT.1,(by rw[vA];exact ZT (by rw[we];exact hi')),?_⟩;have G11:=G10.setSlot (i:=1) (j:=i) rfl rfl e3 hi' R10 fpn npn nrn;rw[wbh]at G11;have ntb:pt≠tb:=fun e=>nt (by rw[e];simp)
     refine hN _ _ ⟨B.set i (wN m (nnum k 0)),rs.set 1 (ras.set i pn),_,rfl,G11,tB.set (by rw[vt]) (fun x hx=>by rw[Gc hx];exact z0) (fun x hx=>by rw[Gc hx];exact zs),by rw[zN ntb];exact hpt10,fun x hx hm=>?_,r10.upd hT.1⟩
     rcases La.ym hx with e|e
     ·rw[e]at hm
      rcases La.ym hm with e'|e'
      ·exact ptn e'
      ·exact nr ras (wk e3) e'
     ·exact nr x e hm
   ·exact hN _ _ ⟨B,rs,_,rfl,G,tB,hpt9,nr,r0⟩
  clear G tB hpt9 nr r0 hs9
  rintro σ H10 ⟨B,rs,o14,rfl,G,tB,hpt10,nr,r0⟩
  have hs10:=G.same _ _ hs;refine⟨_,rfl,_,rfl,ps,_,_,_,rfl,rfl,SqL.of hs10,(by rw[vA];exact zP hss),_,_,rfl,rfl,(by show(2:Int)≠0;decide),rfl,_,rfl,?_⟩;refine ite2 (fun cc=>?_) (fun cc=>?_)
  ·obtain⟨M',t',ras,e1,e2,e3,hT⟩:=G.get (i:=2) (by simp);cases e1;cases e2;have lra:=zk hT.2;rw[tC.len]at lra;refine⟨_,rfl,pt,_,_,_,rfl,rfl,SqL.of hpt10,zP (j:=2) rfl,tc,rfl,⟨_,SqL.of hT.1⟩,?_⟩;refine za6 (xs:=ras.map V.ref) (fun l σ H'=>∃ C o15,σ=[some (.int k),some (.ref pc),some (.ref pz),some (.ref ps),some (.int (n:Int)),some (.int (m:Int)),some (.int (qn:Int)),some v0,some (.ref pt),some (.int (at':Int)),o10,o11,o12,some (.int (0 +(i:Int))),o14,o15]/\kaj H H' [A,B,C] [ta,tb,tc] rs/\TW k qn n 2 C/\H' pt=some (.lst [.ref ta,.ref tb,.ref tc])/\RN H' (nnum k 0) v0) ⟨C,_,rfl,G,tC,hpt10,r0⟩ ?_ ?_ ?_
   ·rintro l σ H' _ ⟨C,o15,rfl,G,_⟩
    exact SqL.of (G.tabs 2 C tc ras rfl rfl e3).1
   ·clear G tC hpt10 r0 hT;intro N6 B6 l v σ H' hN6 hv
    rintro ⟨C,o15,rfl,G,tC,hptl,r0⟩
    have hT:=G.tabs 2 C tc ras rfl rfl e3;obtain⟨row,ar,hrow,har,rfl,hR⟩:=hT.row hv;obtain⟨us,hu,pu,lu⟩:=hR.len;have orow:=tC.ok row (wk hrow);have nra:ar≠pt:=fun e=>nr ras (wk e3) (by rw[← e];exact wk har)
    refine⟨_,rfl,_,rfl,_,rfl,ar,us,_,i,rfl,rfl,hu,(by rw[vA];exact ZT (by rw[lu,orow.1];exact hi)),?_⟩;refine hN6 _ _ ⟨C.set l (row.set i (nnum k 0)),_,rfl,G.setRow (i:=2) rfl e3 har hu (za4 pu i r0),tC.set (by rw[vn];exact orow.1) (fun x hx=>?_) (fun x hx=>?_),by rw[zN (Ne.symm nra)];exact hptl,r0.upd hu⟩
    ·rcases La.ym hx with e|e
     ·rw[e];exact z0
     ·exact orow.2 x e
    ·rcases La.ym hx with e|e
     ·rw[e];exact zs
     ·exact tC.sz row (wk hrow) x e
   ·rintro σ H' ⟨C,o15,rfl,G,tC,hptl,r0⟩
    exact hN4 _ _ ⟨A,B,C,rs,_,_,_,_,_,_,rfl,G,tA,tB,tC,hptl,nr,r0⟩
  ·exact hN4 _ _ ⟨A,B,C,rs,_,_,_,_,_,_,rfl,G,tA,tB,tC,hpt10,nr,r0⟩
 ·rintro σ H8 ⟨A,B,C,rs,o10,o11,o12,o13,o14,o15,rfl,G,tA,tB,tC,hpt8,nr,r0⟩
  refine⟨_,rfl,_,rfl,(by show 2<=sizeLine;decide),fun pr hpr=>?_⟩;have g9:=zg hpr (.tup [.ref pt,.int (at':Int)]);exact q A B C pt pr [ta,tb,tc] rs at' _ (G.mono g9) tA tB tC (g9 _ _ hpt8) ptH nt nr zh
theorem zhD{k:Int}{m n:Nat}{x y:Nb}(ox:x.ok k)(oy:y.ok k)(sx:szk k m x)(sy:szk k n y):szk k (m+n+1) (nsub k x y):=fun k0=>by
 rcases ZW ox oy with⟨_,r,s,rfl,rfl⟩|⟨h,_⟩
 ·have hx:=sx k0;have hy:=sy k0;show Sm _ (r - s).num/\Sm _ ((r - s).den:Int);rw[← zfK];obtain⟨h1,h2⟩:=qZ (t:=r.num*s.den - s.num*r.den) (qt r s) ((hx.1.mul hy.2).sub ((hy.1.mul hx.2).mono (by omega))) (hx.2.mul hy.2);exact⟨h1,h2.mono (wao _)⟩
 ·exact absurd k0 h
theorem zhu{α:Type}{l:List α}{i:Nat}{x:α}(h:l[i]?=some x):l.set i x=l:=by
 refine uZ fun j=>?_
 rw[vo]
 by_cases e:i=j
 ·subst e;rw[if_pos rfl,if_pos (wq.mp h).1,h]
 ·rw[if_neg e]
def TWs(k:Int)(n m q:Nat)(f:Nat->Nat)(Ms:List (Tb)):Prop:=Ms.length=3/\∀(I:Nat)(M:Tb),Ms[I]?=some M->TW k (dimR n m q I) (dimC n m q I) (f I) M
theorem TWs.up{k:Int}{n m q:Nat}{f g:Nat->Nat}{Ms:List (Tb)}(h:TWs k n m q f Ms)(hf:∀ I,f I<=g I):TWs k n m q g Ms:=⟨h.1,fun I M hM=>(h.2 I M hM).up (hf I)⟩
theorem TWs.set{k:Int}{n m q J:Nat}{f g:Nat->Nat}{Ms:List (Tb)}{M':Tb}(h:TWs k n m q f Ms)(hM:TW k (dimR n m q J) (dimC n m q J) (g J) M')(hf:∀ I,I≠J->f I<=g I):TWs k n m q g (Ms.set J M'):=by
 refine⟨by rw[vn];exact h.1,fun I M e=>?_⟩
 by_cases c:I=J
 ·subst c;have hl:I<Ms.length:=by have:=(wq.mp e).1;rw[vn]at this;exact this
  rw[vo,if_pos rfl,if_pos hl]at e;cases e;exact hM
 ·rw[vo,if_neg (Ne.symm c)]at e;exact(h.2 I M e).up (hf I c)
def zdA:Sp:=fun vs H Q _=>∃(k c:Int)(Ms:List (Tb))(H0:Hp)(ts:List Addr)(pt:Addr)(rs:List (List Addr))(n m q z:Nat),vs=[.int k,.ref pt,.int c]/\kab k/\kaj H0 H Ms ts rs/\TWs k n m q (fun _=>z) Ms/\H pt=some (.lst (ts.map V.ref))/\(∀ ras∈rs,pt∉ras)/\pt∉ts/\1<=n/\n<=10/\m<=10/\q<=10/\z<=1000 /\
 ∀(Ms':List (Tb))(rs':List (List Addr))(H':Hp),kaj H0 H' Ms' ts rs'->TWs k n m q (fun _=>z+6) Ms'->H' pt=some (.lst (ts.map V.ref))->(∀ ras∈rs',pt∉ras)->Q .non H'
theorem pick3{m:Int}(h0:0<=m)(h1:m<3):∃ w:Int,atI [V.int 1,V.int (-1),V.int 2] m=some (.int w)/\(w=1\/w = -1\/w=2):=by
 rcases (show m=0\/m=1\/m=2 by omega)with rfl|rfl|rfl
 ·exact⟨1,rfl,by simp⟩
 ·exact⟨-1,rfl,by simp⟩
 ·exact⟨2,rfl,by simp⟩
theorem zh0 (hP:P.given.tree=none) (hS:base.NoSeer) (D:Df K mg "_law_exchanged" dj xu) (yk:Kn P w K mg base "_law_make" 1 QS qF) (jv:Kn P w K mg base "_law_plus" 42 QX (Ze nadd)) (yt:Kn P w K mg base "_law_times" 42 QX (Ze nmul)) (xC:Kn P w K mg base "_law_minus" 43 QX Yi) (m_len:mg "len" = none) (m_zip:mg "zip" = none):Kn P w K mg base "_law_exchanged" 44 dj zdA:=by
 refine D.kn su (fun vs H Q E h=>?_) (fun f cdv A' outer s' H vs Q E hr h=>?_)
 ·obtain⟨k,c,Ms,H0,ts,pt,rs,n,m,q,z,rfl,_⟩:=h;rfl
 obtain⟨k,c,Ms,H0,ts,pt,rs,n,m,qn,z,rfl,hk,G,tM,hpt,nr,nt,n1,n10,m10,q10,z1000,q⟩:=h;have szl:=dN
 have kl:=hk.lt;have lM3:=tM.1;obtain⟨ta,tb,tc,rfl⟩ : ∃ ta tb tc,ts=[ta,tb,tc]:=by
  match ts,(G.lt.trans lM3)with
  | [ta,tb,tc],_=>exact⟨ta,tb,tc,rfl⟩
 refine⟨_,(zd (zm (i:=3) su.nd rfl (.inl rfl) (zD zL rfl m_len yi (zc (zE zw (pv 1) zf) ze))) (zd (zm (i:=4) su.nd rfl (.inl rfl) (zt zW (pv 2) (pv 3))) (zi (yn (zG ZM (pv 3) zf (kae _)) (zd (zm (i:=5) su.nd rfl (.inl rfl) (zt zW (zt yT (zt yT (pv 4) zf) (zt zW (zt (yf hr (by decide) hP hS ⟨_,_,rfl,rfl,rfl,rfl,rfl⟩) (pv 2) zf) (zt qV (pv 3) zf))) (pv 3))) (zd (zm (i:=6) su.nd rfl (.inr rfl) (zp yk hr (zc (pv 0) (zc (zE zw (yC (zc zf (zc (ziF zfg zf) (zc zf ze)))) (zt zW (zt (yf hr (by decide) hP hS ⟨_,_,rfl,rfl,rfl,rfl,rfl⟩) (pv 2) zf) zf)) ze)))) (zd (yn (zG ZM (pv 0) zf (kae _)) (zi (zm (i:=6) su.nd rfl (.inr rfl) (zt zW (zt (yf hr (by decide) hP hS ⟨_,_,rfl,rfl,rfl,rfl,rfl⟩) (pv 2) zf) (pv 0)))) zK) (zd (qk (pv 1) (zi4 3 rfl (yd (zI (i:=7) su.nd rfl (.inl rfl)) (yd (zI (i:=8) su.nd rfl (.inl rfl)) (yd (zI (i:=9) su.nd rfl (.inl rfl)) je))))) (zd (yu PassesOwn.never rfl (zH (yC (zc (pv 7) (zc (pv 8) ze)))) (zI (i:=10) su.nd rfl (.inl rfl)) (zi (qk (ZQ ["_law_x", "_law_y"] ["_law_prime_here", "_law_c"] [0,6] ⟨rfl,rfl,rfl,rfl,rfl,rfl,by decide +kernel⟩ rfl (YZ rfl m_zip (zc (zE zw (pv 10) (pv 4)) (zc (zE zw (pv 10) (pv 5)) ze))) (ZD (yz (yB (by decide)) yy (yz (yB (by decide)) yy qh))) fun _ _ _ _ _ _=>⟨(jZ 2 rfl (yd (zI (i:=0) (by decide:(["_law_x", "_law_y", "_law_prime_here", "_law_c"]:List Str).Nodup) rfl (by first|exact Or.inl rfl|exact Or.inr rfl)) (yd (zI (i:=1) (by decide:(["_law_x", "_law_y", "_law_prime_here", "_law_c"]:List Str).Nodup) rfl (by first|exact Or.inl rfl|exact Or.inr rfl)) je))),zO,(zp jv hr (zc (pv 2) (zc (pv 0) (zc (zp yt hr (zc (pv 2) (zc (pv 3) (zc (pv 1) ze)))) ze))))⟩) (Xy (pv 10) (pv 4) jO)))) (zi (yu PassesOwn.never rfl (zH (yC (zc (pv 7) (zc (pv 9) ze)))) (zI (i:=10) su.nd rfl (.inl rfl)) (zi (yu PassesOwn.never rfl (zH (pv 10)) (zI (i:=11) su.nd rfl (.inl rfl)) (zi (qk (zp xC hr (zc (pv 0) (zc (zE zw (pv 11) (pv 5)) (zc (zp yt hr (zc (pv 0) (zc (pv 6) (zc (zE zw (pv 11) (pv 4)) ze)))) ze)))) (Xy (pv 11) (pv 5) jO)))))))))))) zK)))),?_⟩;obtain⟨M0,t0,ra,e1,e2,ea,hTa⟩:=G.get (i:=0) (by omega);cases e2;have lra:=zk hTa.2;rw[(tM.2 0 M0 e1).len]at lra;replace lra:n=ra.length:=lra;refine⟨_,rfl,pt,_,_,.ref ta,rfl,rfl,SqL.of hpt,zP (j:=0) rfl,ta,_,rfl,.inl (SqL.of hTa.1),?_⟩;rw[we,← lra];refine⟨_,rfl,_,rfl,_,_,rfl,rfl,(by show(n:Int)≠0;omega),?_⟩;have i0:=wJ c (show(0:Int) <(n:Int) by omega);have i1:=wP c (show(0:Int) <(n:Int) by omega)
 try dsimp only
 generalize c.fmod (n:Int)=iI at *;obtain⟨i,rfl⟩:=gd i0;have hi:i<n:=by omega
 clear hTa ea lra e1;refine⟨_,rfl,_,_,rfl,rfl,_,rfl,?_⟩;refine ite2 (fun cn=>?_) (fun cn=>?_)
 rotate_left
 ·exact q Ms rs H G (tM.up fun _=>by omega) hpt nr
 have n2:(1:Int) <(n:Int):=of_decide_eq_true cn;refine⟨_,rfl,_,_,rfl,rfl,_,rfl,_,_,rfl,rfl,(by show(5:Int)≠0;decide),_,rfl,_,_,rfl,rfl,_,_,rfl,rfl,(by show(n:Int) - 1≠0;omega),_,_,rfl,rfl,_,rfl,_,_,rfl,rfl,(by show(n:Int)≠0;omega),?_⟩
 try dsimp only
 have j0:=wJ ((i:Int)+1 +(c.fdiv 5).fmod ((n:Int) - 1)) (show(0:Int) <(n:Int) by omega);have j1:=wP ((i:Int)+1 +(c.fdiv 5).fmod ((n:Int) - 1)) (show(0:Int) <(n:Int) by omega);generalize ((i:Int)+1 +(c.fdiv 5).fmod ((n:Int) - 1)).fmod (n:Int)=jI at *;obtain⟨j,rfl⟩:=gd j0;have hj:j<n:=by omega
 refine⟨_,rfl,_,rfl,(by show 3<=sizeLine;decide),fun p3 hp3=>?_⟩;obtain⟨w3,ew,hw⟩:=pick3 (wJ (c.fdiv 20) (show(0:Int)<3 by decide)) (wP (c.fdiv 20) (show(0:Int)<3 by decide));have g3:=zg hp3 (.lst [V.int 1,V.int (-1),V.int 2]);refine⟨_,rfl,_,_,rfl,rfl,(by show(20:Int)≠0;decide),_,_,rfl,rfl,(by show(3:Int)≠0;decide),p3,_,_,.int w3,rfl,rfl,SqL.of zh,ew,k,w3,rfl,hk,fun vc H4 g4 rc=>?_⟩;have g34:=g3.trans g4;generalize upd H p3 (.lst [V.int 1,V.int (-1),V.int 2])=H3 at *;clear hp3 g3 g4 ew;have sw:whk k 2 (nnum k w3):=fun k0=>⟨w3,rfl,by
  have:(2:Nat)^2=4:=by decide
  omega⟩
 try dsimp only
 refine zbQ (fun σ H'=>∃ x v o7 o8 o9 o10 o11,σ=[some (.int k),some (.ref pt),some (.int c),some (.int (n:Int)),some (.int (i:Int)),some (.int (j:Int)),some v,o7,o8,o9,o10,o11]/\x.ok k/\whk k 2 x/\RN H' x v/\H'=H4) ?_ ?_
 rotate_left
 ·intro hN;refine⟨_,rfl,_,_,rfl,rfl,_,rfl,?_⟩;refine ite2 (fun ck=>?_) (fun ck=>?_)
  ·have k0:0<k:=of_decide_eq_true ck;exact⟨_,rfl,_,_,rfl,rfl,(by show(20:Int)≠0;decide),_,rfl,_,_,rfl,rfl,(show k≠0 by omega),hN _ _ ⟨.z _,_,_,_,_,_,_,rfl,⟨by omega,wJ _ k0,wP _ k0⟩,fun e=>by omega,RN.of_z,rfl⟩⟩
  ·exact hN _ _ ⟨nnum k w3,vc,_,_,_,_,_,rfl,La.ya hk w3,sw,rc,rfl⟩
 clear rc sw hw
 rintro σ H4' ⟨x,vc,o7,o8,o9,o10,o11,rfl,ox,sx,rc,rfl⟩
 replace G:=G.mono g34;replace hpt:=g34 _ _ hpt;clear g34;refine⟨_,rfl,pt,_,rfl,SqL.of hpt,rfl,_,_,rfl,_,_,rfl,_,_,rfl,rfl,?_⟩;refine⟨_,rfl,_,rfl,(by show 2<=sizeLine;decide),fun pl hpl=>?_⟩;have g5:=zg hpl (.lst [.ref ta,.ref tb]);have hl5:upd H4' pl (.lst [.ref ta,.ref tb]) pl=some (.lst [.ref ta,.ref tb]):=zh;have nlt:pl∉[ta,tb,tc]:=fun hm=>by obtain⟨o,ho⟩:=G.tsome hm;rw[hpl]at ho;cases ho
 have nlr:∀ ras∈rs,pl∉ras:=fun ras hr hm=>by obtain⟨o,ho⟩:=G.rsome hr hm;rw[hpl]at ho;cases ho
 replace G:=G.mono g5;replace hpt:=g5 _ _ hpt;replace rc:=rc.mono g5;generalize upd H4' pl (.lst [.ref ta,.ref tb])=H5 at *;clear g5 hpl;refine⟨pl,rfl,⟨_,SqL.of hl5⟩,?_⟩;refine yP (xs:=[.ref ta,.ref tb]) (fun l σ H'=>∃ Ms rs o10 o11,σ=[some (.int k),some (.ref pt),some (.int c),some (.int (n:Int)),some (.int (i:Int)),some (.int (j:Int)),some vc,some (.ref ta),some (.ref tb),some (.ref tc),o10,o11]/\kaj H0 H' Ms [ta,tb,tc] rs/\TWs k n m qn (fun I=>if I<l then z+3 else z) Ms/\H' pt=some (.lst [.ref ta,.ref tb,.ref tc])/\(∀ ras∈rs,pt∉ras)/\H' pl=some (.lst [.ref ta,.ref tb])/\(∀ ras∈rs,pl∉ras)/\RN H' x vc) ⟨Ms,rs,_,_,rfl,G,tM.up fun I=>by rw[if_neg (vI I)];exact ww _,hpt,nr,hl5,nlr,rc⟩ ?_ ?_ ?_
 ·rintro l σ H' _ ⟨Ms,rs,o10,o11,rfl,_,_,_,_,hl',_⟩
  exact SqL.of hl'
 ·clear G tM hpt nr hl5 nlr rc lM3
  rintro l v σ H6 hv ⟨Ms,rs,o10,o11,rfl,G,tM,hpt,nr,hl6,nlr,rc⟩
  have l2:l<2:=(wq.mp hv).1;obtain⟨t,rfl,ht⟩ : ∃ t,v=.ref t/\[ta,tb,tc][l]?=some t:=by
   match l,hv with
   | 0,hv=>cases hv;exact⟨ta,rfl,rfl⟩
   | 1,hv=>cases hv;exact⟨tb,rfl,rfl⟩
  obtain⟨M,t',ras,eM,e2,er,hT⟩:=G.get (i:=l) (by rw[tM.1];omega);rw[ht]at e2;cases e2;have tk:TW k (dimR n m qn l) (dimC n m qn l) z M:=by
   have h:=tM.2 l M eM
   dsimp only at h
   rw[if_neg (vY l)]at h;exact h
  have dn:dimR n m qn l=n:=by unfold dimR;rw[if_neg (by omega)]
  have cc10:dimC n m qn l<=10:=by unfold dimC;split <;> omega
  have lras:=zk hT.2;rw[tk.len,dn]at lras;have ei:ras[i]?=some ras[i]:=wg (by omega);have ej:ras[j]?=some ras[j]:=wg (by omega);obtain⟨xi,hxi,ri⟩:=yh hT.2 ei;obtain⟨xj,hxj,rj⟩:=yh hT.2 ej;obtain⟨ui,hui,pui,lui⟩:=ri.len;obtain⟨uj,huj,puj,luj⟩:=rj.len;have oi:=tk.ok xi (wk hxi);have oj:=tk.ok xj (wk hxj);have si:=tk.sz xi (wk hxi);have sj:=tk.sz xj (wk hxj);have ll:xi.length=xj.length:=by rw[oi.1,oj.1]
  refine⟨_,rfl,_,rfl,t,_,_,.ref ras[i],rfl,rfl,SqL.of hT.1,zP (by rw[wo,ei];rfl),_,rfl,_,rfl,t,_,_,.ref ras[j],rfl,rfl,SqL.of hT.1,zP (by rw[wo,ej];rfl),ras[i],ras[j],ui,uj,rfl,SqL.of hui,SqL.of huj,?_⟩;refine Zo (xs:=ui) (zs:=uj) (by rw[lui,luj];exact ll) (fun e ys H'=>Same H6 H'/\Paired (RN H') ((vE (fun a b=>nadd k a (nmul k x b)) xi xj).take e) ys) ⟨Same.refl _,.nil⟩ ?_ ?_ ?_
  ·rintro e ys H' he ⟨g,pr⟩
   refine⟨SqL.of (g _ _ hui),SqL.of (g _ _ huj),?_⟩;have:=zk pr;rw[wx]at this;rw[lui,oi.1]at he;omega
  ·rintro e a b T ys H' ha hb he hTn ⟨g,pr⟩
   have g':=g.trans (zg hTn (.tup [a,b]));obtain⟨na,ena,rna⟩:=yh pui ha;obtain⟨nb,enb,rnb⟩:=yh puj hb;have oa:=oi.2 na (wk ena);have ob:=oj.2 nb (wk enb);have sa:=si na (wk ena);have sb:=sj nb (wk enb);have om:=La.yS hk ox ob;have sm:=QY ox ob sx sb;have pr':=jC (zg hTn (.tup [a,b])) pr;refine⟨T,_,rfl,SqT.of zh,rfl,_,_,rfl,_,_,rfl,rfl,?_⟩;generalize upd H' T (.tup [a,b])=H7 at *
   first|refine gyes ?_|refine tyes ?_
   refine⟨_,rfl,_,rfl,_,rfl,_,rfl,_,rfl,k,x,nb,_,_,rfl,⟨hk,ox,ob,sx.nsm hk ox (by decide) (by decide),sb.nsm hk ob (by omega) (by decide),rc.mono g',rnb.mono g'⟩,fun v8 H8 g8 r8=>?_⟩;refine⟨k,na,_,_,_,rfl,⟨hk,oa,om,sa.nsm hk oa (by omega) (by decide),sm.nsm hk om (by omega) (by decide),(rna.mono g').mono g8,r8⟩,fun v9 H9 g9 r9=>nxt he ⟨(g'.trans g8).trans g9,?_⟩⟩;have ez:(vE (fun a b=>nadd k a (nmul k x b)) xi xj)[e]?=some (nadd k na (nmul k x nb)):=by rw[vP,ena,enb]
   rw[zq ez];exact yj (jC (g8.trans g9) pr') r9
  rintro ys H7 ⟨g7,pr⟩ pn hpn
  rw[lui,wr (by rw[wZ];omega)]at pr;generalize ez:vE (fun a b=>nadd k a (nmul k x b)) xi xj=xz at *;have memz:∀ y∈xz,y.ok k/\whk k (z+3) y:=fun y hy=>by
   rw[← ez]at hy;obtain⟨e,he,rfl⟩:=wG hy;rw[uz];rw[wZ]at he;have oa:=oi.2 _ (wp (show e<xi.length by omega));have ob:=oj.2 _ (wp (show e<xj.length by omega));have sa:=si _ (wp (show e<xi.length by omega));have sb:=sj _ (wp (show e<xj.length by omega));exact⟨La.JB hk oa (La.yS hk ox ob),(zhb oa (La.yS hk ox ob) sa (QY ox ob sx sb)).mono (by omega)⟩
  have lz:xz.length=dimC n m qn l:=by rw[← ez,wZ,← ll,oi.1];omega
  have g8:=zg hpn (.lst ys);have R8:kas (upd H7 pn (.lst ys)) xz pn:=⟨ys,zh,jC g8 pr⟩;have G7:=G.mono g7;have npn:pn∉[ta,tb,tc]:=fun hm=>by obtain⟨o,ho⟩:=G7.tsome hm;rw[hpn]at ho;cases ho
  have nrn:∀ ras∈rs,pn∉ras:=fun ras hr hm=>by obtain⟨o,ho⟩:=G7.rsome hr hm;rw[hpn]at ho;cases ho
  have fpn:H0 pn=none:=G7.same.none hpn;have ptn:pt≠pn:=fun e=>by rw[← e,g7 _ _ hpt]at hpn;cases hpn
  have pln:pl≠pn:=fun e=>by rw[← e,g7 _ _ hl6]at hpn;cases hpn
  have G8:=G7.mono g8;have g78:=g7.trans g8;generalize upd H7 pn (.lst ys)=H8 at *;have hT8:=hT.mono g78;have tm:=wk ht;have ptt:pt≠t:=fun e=>nt (by rw[e];exact tm)
  have plt:pl≠t:=fun e=>nlt (by rw[e];exact tm)
  refine⟨_,rfl,_,rfl,t,_,_,i,rfl,rfl,hT8.1,ZT (by rw[we];omega),?_⟩;have G9:=G8.setSlot (i:=l) (j:=i) eM ht er (by omega) R8 fpn npn nrn;rw[wbh]at G9;have away:∀ p,p≠pn->(∀ ras∈rs,p∉ras)->∀ x'∈rs.set l (ras.set i pn),p∉x':=fun p hp hr x' hx' hm=>by
   rcases La.ym hx' with e|e
   ·rw[e]at hm
    rcases La.ym hm with e'|e'
    ·exact hp e'
    ·exact hr ras (wk er) e'
   ·exact hr x' e hm
  refine⟨Ms.set l (M.set i xz),rs.set l (ras.set i pn),_,_,rfl,G9,tM.set (g:=fun I=>if I<l+1 then z+3 else z) ?_ (fun I hI=>?_),by rw[zN ptt];exact g78 _ _ hpt,away pt ptn nr,by rw[zN plt];exact g78 _ _ hl6,away pl pln nlr,(rc.mono g78).upd hT8.1⟩
  ·rw[if_pos (uy l)];exact(tk.up (show z<=z+3 by omega)).set lz (fun y hy=>(memz y hy).1) (fun y hy=>(memz y hy).2)
  ·by_cases c1:I<l
   ·rw[if_pos c1,if_pos (by omega)];exact ww _
   ·rw[if_neg c1,if_neg (by omega)];exact ww _
 clear G tM hpt nr hl5 nlr rc nlt
 rintro σ H6 ⟨Ms,rs,o10,o11,rfl,G,tM0,hpt,nr,_,_,rc⟩
 have tM:TWs k n m qn (fun _=>z+3) Ms:=tM0.up fun I=>by split <;> omega
 clear tM0;refine⟨_,rfl,_,rfl,(by show 2<=sizeLine;decide),fun pl hpl=>?_⟩;have g5:=zg hpl (.lst [.ref ta,.ref tc]);have hl5:upd H6 pl (.lst [.ref ta,.ref tc]) pl=some (.lst [.ref ta,.ref tc]):=zh;have nlr:∀ ras∈rs,pl∉ras:=fun ras hr hm=>by obtain⟨o,ho⟩:=G.rsome hr hm;rw[hpl]at ho;cases ho
 replace G:=G.mono g5;replace hpt:=g5 _ _ hpt;replace rc:=rc.mono g5;generalize upd H6 pl (.lst [.ref ta,.ref tc])=H7 at *;clear g5 hpl;refine⟨pl,rfl,⟨_,SqL.of hl5⟩,?_⟩;refine yP (xs:=[.ref ta,.ref tc]) (fun l σ H'=>∃ Ms o10 o11,σ=[some (.int k),some (.ref pt),some (.int c),some (.int (n:Int)),some (.int (i:Int)),some (.int (j:Int)),some vc,some (.ref ta),some (.ref tb),some (.ref tc),o10,o11]/\kaj H0 H' Ms [ta,tb,tc] rs/\TWs k n m qn (fun I=>if I<2*l then z+6 else z+3) Ms/\H' pt=some (.lst [.ref ta,.ref tb,.ref tc])/\H' pl=some (.lst [.ref ta,.ref tc])/\RN H' x vc) ⟨Ms,_,_,rfl,G,tM.up fun I=>by rw[if_neg (by omega)];exact ww _,hpt,hl5,rc⟩ ?_ ?_ ?_
 ·rintro l σ H' _ ⟨Ms,o10,o11,rfl,_,_,_,hl',_⟩
  exact SqL.of hl'
 ·clear G tM hpt hl5 rc
  rintro l v σ H8 hv ⟨Ms,o10,o11,rfl,G,tM,hpt,hl8,rc⟩
  have l2:l<2:=(wq.mp hv).1;obtain⟨t,rfl,ht⟩ : ∃ t,v=.ref t/\[ta,tb,tc][2*l]?=some t:=by
   match l,hv with
   | 0,hv=>cases hv;exact⟨ta,rfl,rfl⟩
   | 1,hv=>cases hv;exact⟨tc,rfl,rfl⟩
  obtain⟨M,t',ras,eM,e2,er,hT⟩:=G.get (i:=2*l) (by rw[tM.1];omega);rw[ht]at e2;cases e2;have tk:TW k (dimR n m qn (2*l)) (dimC n m qn (2*l)) (z+3) M:=by
   have h:=tM.2 (2*l) M eM
   dsimp only at h
   rw[if_neg (vY (2*l))]at h;exact h
  have cn':dimC n m qn (2*l)=n:=by unfold dimC;rw[if_neg (by omega)]
  rw[cn']at tk;have lras:=zk hT.2;have rm:=wk er;have lMs:=tM.1;refine⟨_,rfl,t,rfl,⟨_,SqL.of hT.1⟩,?_⟩;refine yP (xs:=ras.map V.ref) (fun e σ H'=>∃ Mc o11,σ=[some (.int k),some (.ref pt),some (.int c),some (.int (n:Int)),some (.int (i:Int)),some (.int (j:Int)),some vc,some (.ref ta),some (.ref tb),some (.ref tc),some (.ref t),o11]/\kaj H0 H' (Ms.set (2*l) Mc) [ta,tb,tc] rs/\TW k (dimR n m qn (2*l)) n (z+6) Mc/\(∀ e' r,e<=e'->Mc[e']?=some r->∀ y∈r,whk k (z+3) y)/\H' pt=some (.lst [.ref ta,.ref tb,.ref tc])/\H' pl=some (.lst [.ref ta,.ref tc])/\RN H' x vc) ⟨M,_,rfl,by rw[zhu eM];exact G,tk.up (by omega),fun e' r _ hr=>tk.sz r (wk hr),hpt,hl8,rc⟩ ?_ ?_ ?_
  ·rintro e σ H' _ ⟨Mc,o11,rfl,G',_⟩
   exact SqL.of (G'.tabs (2*l) Mc t ras (by rw[vo,if_pos rfl,if_pos (by omega)]) ht er).1
  ·rintro e v σ H' hv ⟨Mc,o11,rfl,G',tkc,low,hpt',hl',rc'⟩
   have eMc:(Ms.set (2*l) Mc)[2*l]?=some Mc:=by rw[vo,if_pos rfl,if_pos (by omega)]
   have hT':=G'.tabs (2*l) Mc t ras eMc ht er;obtain⟨row,ar,hrow,har,rfl,hR⟩:=hT'.row hv;obtain⟨us,hu,pu,lu⟩:=hR.len;have orow:=tkc.ok row (wk hrow);have srow:=low e row (ww _) hrow;have ei:row[i]?=some row[i]:=wg (by rw[orow.1];exact hi);have ej:row[j]?=some row[j]:=wg (by rw[orow.1];exact hj);obtain⟨vi,hvi,rvi⟩:=yH pu ei;obtain⟨vj,hvj,rvj⟩:=yH pu ej;have oi:=orow.2 _ (wk ei);have oj:=orow.2 _ (wk ej);have si:=srow _ (wk ei);have sj:=srow _ (wk ej);have om:=La.yS hk ox oi;have sm:=QY ox oi sx si;have nap:ar≠pt:=fun e=>nr ras rm (by rw[← e];exact wk har)
   have nal:ar≠pl:=fun e=>nlr ras rm (by rw[← e];exact wk har)
   refine⟨_,rfl,_,rfl,_,rfl,ar,_,_,vj,rfl,rfl,SqL.of hu,zP hvj,_,rfl,_,rfl,_,rfl,_,rfl,ar,_,_,vi,rfl,rfl,SqL.of hu,zP hvi,k,x,row[i],_,_,rfl,⟨hk,ox,oi,sx.nsm hk ox (by decide) (by decide),si.nsm hk oi (by omega) (by decide),rc',rvi⟩,fun v9 H9 g9 r9=>?_⟩;refine⟨k,row[j],_,_,_,rfl,hk,oj,om,sj.nsm hk oj (by omega) (by decide),sm.nsm hk om (by omega) (by decide),rvj.mono g9,r9,fun v10 H10 g10 r10=>?_⟩;have g':=g9.trans g10;have hu':=g' _ _ hu;refine⟨_,rfl,_,rfl,ar,us,_,j,rfl,rfl,hu',ZT (by rw[lu,orow.1];exact hj),?_⟩;have G10:=(G'.mono g').setRow eMc er har hu' (za4 (jC g' pu) j r10);rw[List.set_set]at G10;have lset:∀ y∈row.set j (nsub k row[j] (nmul k x row[i])),y.ok k/\whk k (z+6) y:=fun y hy=>by
    rcases La.ym hy with e|e
    ·rw[e];exact⟨JF (by omega) oj om,(zh4 oj om sj sm).mono (by omega)⟩
    ·exact⟨orow.2 y e,(srow y e).mono (by omega)⟩
   refine⟨Mc.set e (row.set j (nsub k row[j] (nmul k x row[i]))),_,rfl,G10,tkc.set (by rw[vn];exact orow.1) (fun y hy=>(lset y hy).1) (fun y hy=>(lset y hy).2),fun e' r he' hr=>?_,by rw[zN (Ne.symm nap)];exact g' _ _ hpt',by rw[zN (Ne.symm nal)];exact g' _ _ hl',(rc'.mono g').upd hu'⟩;rw[vo,if_neg (by omega)]at hr;exact low e' r (by omega) hr
  ·rintro σ H' ⟨Mc,o11,rfl,G',tkc,low,hpt',hl',rc'⟩
   refine⟨Ms.set (2*l) Mc,_,_,rfl,G',tM.set (g:=fun I=>if I<2 *(l+1)then z+6 else z+3) ?_ (fun I hI=>?_),hpt',hl',rc'⟩
   ·rw[if_pos (by omega),cn'];exact tkc
   ·split <;> split <;> omega
 ·rintro σ H8 ⟨Ms,o10,o11,rfl,G,tM,hpt,hl8,rc⟩
  exact q Ms rs H8 G (tM.up fun I=>by split <;> omega) hpt nr
theorem zhA(cs:List Int)(lo hi:Option Int):∃ zs:List Int,cutV (cs.map V.int) lo hi=zs.map V.int:=⟨_,by unfold cutV;rw[we,← Gq,← gQ]⟩
def JS:Sp:=fun vs H Q _=>∃(pc pq:Addr)(cs:List Int)(a b:Nat),vs=[.ref pc,.ref pq]/\H pc=some (.lst (cs.map V.int))/\cs≠[]/\cs.length<=1000/\H pq=some (.lst [.int (a:Int),.int (b:Int)])/\1<=a/\a<=3/\1<=b/\b<=10 /\
 ∀(k:Int)(n m q at':Nat)(A B C:Tb)(p3 pm ta tb tc:Addr)(ra rb rc:List Addr)(H':Hp),Same H H'->H' p3=some (.tup [.int k,.ref pm,.int (at':Int)])->kav H' A B C pm ta tb tc ra rb rc->KindS k->Fit k n->MOk k n m q 80 A B C->(TW k n n 14 A/\TW k n m 14 B/\TW k q n 14 C/\((cs.headD 1).fmod 3=0->k=0))->1<=m->m<=2->1<=q->q<=2->n<=a\/n<=b->Q (.ref p3) H'
theorem zcA (hP:P.given.tree=none) (hS:base.NoSeer) (D:Df K mg "_law_machine" dk xO) (zb4:Kn P w K mg base "_law_prime" 41 ["_law_cell"] zca) (zbI:Kn P w K mg base "_law_sorts" 42 dg zbk) (Qh:Kn P w K mg base "_law_blocked" 45 di Jx) (XC:Kn P w K mg base "_law_exchanged" 44 dj zdA) (m_int:mg "int" = none) (zJ:mg "range" = none):Kn P w K mg base "_law_machine" 46 dk JS:=by
 refine D.kn sE (fun vs H Q E h=>?_) (fun f cdv A' outer s' H vs Q E hr h=>?_)
 ·obtain⟨pc,pq,cs,a,b,rfl,_⟩:=h;rfl
 obtain⟨pc,pq,cs,a,b,rfl,hc,ne,c1000,hq,a1,a3,b1,b10,q⟩:=h;have szl:=dN
 obtain⟨c0,cs',rfl⟩:=uR ne;refine⟨_,(zd (zm (i:=2) sE.nd rfl (.inl rfl) (zE zw (pv 0) zf)) (zd (zm (i:=3) sE.nd rfl (.inl rfl) (zp zb4 hr (zc (pv 2) ze))) (zd (zm (i:=4) sE.nd rfl (.inl rfl) (xm (zc (zt yT zf (zt zW (zt (yf hr (by decide) hP hS ⟨_,_,rfl,rfl,rfl,rfl,rfl⟩) (pv 2) zf) (zE zw (pv 1) (xH Jc rfl m_int zdD (zc (xJ ZM (pv 3) zf (kae _)) ze))))) (zc (zt yT zf (zt zW (zt (yf hr (by decide) hP hS ⟨_,_,rfl,rfl,rfl,rfl,rfl⟩) (pv 2) zf) zf)) (zc (zt yT zf (zt zW (zt (yf hr (by decide) hP hS ⟨_,_,rfl,rfl,rfl,rfl,rfl⟩) (pv 2) zf) zf)) ze))))) (zd (zm (i:=5) sE.nd rfl (.inl rfl) (xJ xp (zt zW (zt (yf hr (by decide) hP hS ⟨_,_,rfl,rfl,rfl,rfl,rfl⟩) (pv 2) zf) zf) zf (kae _))) (zd (qk (zp Qh hr (zc (pv 3) (zc (pv 0) (zc (pv 4) (zc (zp zbI hr (zc (pv 2) (zc (zE zy (pv 4) zf) (zc (pv 5) ze)))) ze))))) (jZ 2 rfl (yd (zI (i:=6) sE.nd rfl (.inl rfl)) (yd (zI (i:=7) sE.nd rfl (.inl rfl)) je)))) (zd (yu PassesOwn.never rfl (zY rfl zJ (zc zf ze)) (zI (i:=8) sE.nd rfl (.inl rfl)) (zi (yn (qj (jL (pv 5))) (zi (yU (zp XC hr (zc (pv 3) (zc (pv 6) (zc (zt yT (zE zw (zt ZN (jD qD (pv 0) (jy (pv 7)) Jo) (yC (zc zf (zc zf (zc zf ze))))) (pv 8)) (zt (yf hr (by decide) hP hS ⟨_,_,rfl,rfl,rfl,rfl,rfl⟩) (pv 2) zf)) ze)))))) zK))) (zi (zo (xm (zc (pv 3) (zc (xm (zc (zE zw (pv 6) zf) (zc (zE zw (pv 6) zf) (zc (zE zw (pv 6) zf) ze)))) (zc (zt yT (pv 7) zf) ze)))))))))))),?_⟩;refine⟨_,rfl,pc,_,_,_,rfl,rfl,SqL.of hc,zP (j:=0) rfl,?_⟩;refine⟨_,rfl,c0,rfl,fun k H1 g1 hs hk0=>?_⟩;have hk:=hs.ok;have kl:=hk.lt;have hq1:=g1 _ _ hq;obtain⟨mo,emo,mo1,mob⟩ : ∃ mo:Nat,atI [V.int (a:Int),V.int (b:Int)] (if decide (0<k)=true then 1 else 0)=some (.int (mo:Int))/\1<=mo/\((k=0/\mo=a)\/(k≠0/\mo=b)):=by
  by_cases h:0<k
  ·rw[decide_eq_true h];exact⟨b,rfl,b1,.inr ⟨by omega,rfl⟩⟩
  ·rw[decide_eq_false h];exact⟨a,rfl,a1,.inl ⟨by omega,rfl⟩⟩
 have n75:(75:Int)≠0:=by decide
 refine⟨_,rfl,_,_,rfl,rfl,n75,_,rfl,_,rfl,_,_,rfl,rfl,.inr ⟨_,rfl,pq,_,_,.int (mo:Int),rfl,rfl,SqL.of hq1,emo,_,_,rfl,rfl,(by show(mo:Int)≠0;omega),_,_,rfl,rfl,_,rfl,_,_,rfl,rfl,(by show(375:Int)≠0;decide),_,_,rfl,rfl,(by show(2:Int)≠0;decide),_,_,rfl,rfl,_,rfl,_,_,rfl,rfl,(by show(750:Int)≠0;decide),_,_,rfl,rfl,(by show(2:Int)≠0;decide),_,_,rfl,rfl,(by show 3<=sizeLine;decide),fun pz hpz=>?_⟩⟩
 try dsimp only
 obtain⟨n,en,n1,nm⟩ : ∃ n:Nat,1 +(c0.fdiv 75).fmod (mo:Int) =(n:Int)/\1<=n/\n<=mo:=by
  have f0:=wJ (c0.fdiv 75) (show(0:Int) <(mo:Int) by omega);have f1:=wP (c0.fdiv 75) (show(0:Int) <(mo:Int) by omega);exact⟨(1 +(c0.fdiv 75).fmod (mo:Int)).toNat,by omega,by omega,by omega⟩
 obtain⟨m,em,m1,m2⟩ : ∃ m:Nat,1 +(c0.fdiv 375).fmod 2 =(m:Int)/\1<=m/\m<=2:=by
  have f0:=wJ (c0.fdiv 375) (show(0:Int)<2 by decide);have f1:=wP (c0.fdiv 375) (show(0:Int)<2 by decide);exact⟨(1 +(c0.fdiv 375).fmod 2).toNat,by omega,by omega,by omega⟩
 obtain⟨qn,eq,q1,q2⟩ : ∃ qn:Nat,1 +(c0.fdiv 750).fmod 2 =(qn:Int)/\1<=qn/\qn<=2:=by
  have f0:=wJ (c0.fdiv 750) (show(0:Int)<2 by decide);have f1:=wP (c0.fdiv 750) (show(0:Int)<2 by decide);exact⟨(1 +(c0.fdiv 750).fmod 2).toNat,by omega,by omega,by omega⟩
 rw[en,em,eq]at *;have g2:=zg hpz (.tup [.int (n:Int),.int (m:Int),.int (qn:Int)]);have hz2:upd H1 pz (.tup [.int (n:Int),.int (m:Int),.int (qn:Int)]) pz=some (.tup [.int (n:Int),.int (m:Int),.int (qn:Int)]):=zh;generalize upd H1 pz (.tup [.int (n:Int),.int (m:Int),.int (qn:Int)])=H2 at *;have n10:n<=10:=by rcases mob with⟨_,h⟩|⟨_,h⟩ <;> omega
 refine⟨_,rfl,_,_,rfl,rfl,(by show(1500:Int)≠0;decide),_,_,rfl,rfl,(by show(3:Int)≠0;decide),rfl,?_⟩
 try dsimp only
 generalize decide (V.int ((c0.fdiv 1500).fmod 3)=V.int 0)=pb;refine⟨_,rfl,_,rfl,_,rfl,_,rfl,_,rfl,pz,_,_,.int (n:Int),rfl,rfl,SqT.of hz2,rfl,_,rfl,c0,n,pb,rfl,by omega,fun ss ps H3 g3 hs3 lss=>?_⟩;have g13:=(g1.trans g2).trans g3;refine⟨k,pc,pz,ps,c0::cs',ss,n,m,qn,rfl,hk,g13 _ _ hc,ne,g3 _ _ hz2,hs3,lss,n10,by omega,by omega,fun A B C pt pr ts rs at' H4 G tA tB tC hpt ptn nt nr hpr=>?_⟩;refine⟨pr,_,rfl,SqT.of hpr,rfl,_,_,rfl,_,_,rfl,rfl,?_⟩;have T0:TWs k n m qn (fun _=>2) [A,B,C]:=⟨rfl,fun I M hM=>by
  match I,hM with
  | 0,hM=>cases hM;exact tA
  | 1,hM=>cases hM;exact tB
  | 2,hM=>cases hM;exact tC⟩
 clear tA tB tC hpr;refine⟨2,rfl,(by decide),(by decide),?_⟩;refine yF (lo:=0) (n:=2) (fun l σ H'=>∃ Ms rs o8,σ=[some (.ref pc),some (.ref pq),some (.int c0),some (.int k),some (.ref pz),some (.bl pb),some (.ref pt),some (.int (at':Int)),o8]/\kaj H3 H' Ms ts rs/\TWs k n m qn (fun _=>if l=0 then 2 else if l=1 then 8 else 14) Ms/\H' pt=some (.lst (ts.map V.ref))/\(∀ ras∈rs,pt∉ras)) ⟨_,rs,none,rfl,G,T0,hpt,nr⟩ ?_ ?_
 ·clear G T0 hpt nr
  rintro l σ H5 hl ⟨Ms,rs,o8,rfl,G,T,hpt,nr⟩
  refine⟨_,rfl,_,rfl,?_⟩;refine ite2 (fun cb=>?_) (fun cb=>?_)
  ·have hc5:H5 pc=some (.lst ((c0::cs').map V.int)):=G.same _ _ (g13 _ _ hc);refine⟨_,rfl,_,rfl,_,rfl,_,rfl,_,rfl,pc,_,rfl,SqL.of hc5,fun p1 hp1=>?_⟩;obtain⟨zs,ez⟩:=zhA (c0::cs') (some (at':Int)) none;have lzs:zs.length<=1000:=by
    have:(zs.map V.int).length<=((c0::cs').map V.int).length:=by rw[← ez];unfold cutV;rw[wx,ur];omega
    rw[we,we]at this;omega
   rw[ez];refine⟨(by show 3<=sizeLine;decide),fun p2 hp2=>?_⟩;have n12:p1≠p2:=fun e=>by rw[e,zh]at hp2;cases hp2
   refine⟨p1,p2,_,_,rfl,rfl,(by rw[zN n12];exact zh),zh,(by rw[we];show zs.length+3<=sizeLine;omega),fun p3 hp3=>?_⟩;have e3:zs.map V.int++[V.int 0,V.int 0,V.int 0] =(zs++[0,0,0]).map V.int:=by simp
   rw[e3]at *;have g6:=((zg hp1 (.lst (zs.map V.int))).trans (zg hp2 (.lst [V.int 0,V.int 0,V.int 0]))).trans (zg hp3 (.lst ((zs++[0,0,0]).map V.int)));have h3':upd (upd (upd H5 p1 (.lst (zs.map V.int))) p2 (.lst [V.int 0,V.int 0,V.int 0])) p3 (.lst ((zs++[0,0,0]).map V.int)) p3=some (.lst ((zs++[0,0,0]).map V.int)):=zh;generalize upd (upd (upd H5 p1 (.lst (zs.map V.int))) p2 (.lst [V.int 0,V.int 0,V.int 0])) p3 (.lst ((zs++[0,0,0]).map V.int))=H6 at *;have ll:l <(zs++[(0:Int),0,0]).length:=by rw[wy];show l<zs.length+3;omega
   have el:((zs++[(0:Int),0,0]).map V.int)[l]?=some (.int (zs++[(0:Int),0,0])[l]):=by rw[wo,wg ll];rfl
   refine⟨_,rfl,p3,_,_,.int (zs++[(0:Int),0,0])[l],rfl,rfl,SqL.of h3',(by rw[vA];exact zP el),_,rfl,_,_,rfl,rfl,(by show(4500:Int)≠0;decide),_,_,rfl,rfl,k,_,Ms,H3,ts,pt,rs,n,m,qn,_,rfl,hk,G.mono g6,T,g6 _ _ hpt,nr,nt,n1,n10,by omega,by omega,(by split <;>(try split) <;> omega),fun Ms' rs' H7 G7 T7 hpt7 nr7=>?_⟩;refine⟨Ms',rs',_,rfl,G7,T7.up fun _=>?_,hpt7,nr7⟩
   rcases (show l=0\/l=1 by omega)with e|e
   ·subst e;decide
   ·subst e;decide
  ·refine⟨Ms,rs,_,rfl,G,T.up fun _=>?_,hpt,nr⟩
   rcases (show l=0\/l=1 by omega)with e|e
   ·subst e;decide
   ·subst e;decide
 ·rintro σ H5 ⟨Ms,rs,o8,rfl,G,T,hpt,nr⟩
  obtain⟨A,B,C,rfl⟩ : ∃ A B C,Ms=[A,B,C]:=by
   match Ms,T.1 with
   | [A,B,C],_=>exact⟨A,B,C,rfl⟩
  obtain⟨ta,tb,tc,rfl⟩ : ∃ ta tb tc,ts=[ta,tb,tc]:=by
   match ts,G.lt with
   | [ta,tb,tc],_=>exact⟨ta,tb,tc,rfl⟩
  obtain⟨ra,rb,rc,rfl⟩ : ∃ ra rb rc,rs=[ra,rb,rc]:=by
   match rs,G.lr with
   | [ra,rb,rc],_=>exact⟨ra,rb,rc,rfl⟩
  refine⟨_,rfl,_,rfl,pt,_,_,.ref ta,rfl,rfl,SqL.of hpt,zP (j:=0) rfl,_,rfl,pt,_,_,.ref tb,rfl,rfl,SqL.of hpt,zP (j:=1) rfl,_,rfl,pt,_,_,.ref tc,rfl,rfl,SqL.of hpt,zP (j:=2) rfl,(by show 3<=sizeLine;decide),fun pm hpm=>?_⟩;have g6:=zg hpm (.tup [.ref ta,.ref tb,.ref tc]);have hm6:upd H5 pm (.tup [.ref ta,.ref tb,.ref tc]) pm=some (.tup [.ref ta,.ref tb,.ref tc]):=zh;generalize upd H5 pm (.tup [.ref ta,.ref tb,.ref tc])=H6 at *;refine⟨_,rfl,_,_,rfl,rfl,(by show 3<=sizeLine;decide),fun p3 hp3=>?_⟩;have g7:=zg hp3 (.tup [.int k,.ref pm,.int ((at':Int)+2)]);have G7:=(G.mono g6).mono g7;have ft:Fit k n:=⟨n1,by
   rcases mob with⟨_,h⟩|⟨k0,h⟩
   ·exact .inl (by omega)
   ·exact .inr ⟨k0,by omega⟩⟩
  refine q k n m qn (at'+2) A B C p3 pm ta tb tc ra rb rc _ (((g13.trans G.same).trans g6).trans g7) ?_ ⟨g7 _ _ hm6,G7.tabs 0 A ta ra rfl rfl rfl,G7.tabs 1 B tb rb rfl rfl rfl,G7.tabs 2 C tc rc rfl rfl rfl⟩ hs ft ⟨(T.2 0 A rfl).tok hk (by decide) (by decide),(T.2 1 B rfl).tok hk (by decide) (by decide),(T.2 2 C rfl).tok hk (by decide) (by decide)⟩ ⟨T.2 0 A rfl,T.2 1 B rfl,T.2 2 C rfl,hk0⟩ m1 m2 q1 q2 (by rcases mob with⟨_,h⟩|⟨_,h⟩ <;> omega);rw[zh]
  rfl
theorem zgH (D:Df K mg "_law_across" dm jn) (zJ:mg "range" = none) (m_len:mg "len" = none):Kn P w K mg base "_law_across" 1 dm jd:=by
 refine D.kn Qi (fun vs H Q E h=>?_) (fun f cdv A outer s H vs Q E hr h=>?_)
 ·obtain⟨M,n,top,ras,rfl,_⟩:=h;rfl
 obtain⟨M,n,top,ras,rfl,hT,hM,hn,nz,mz,q⟩:=h;refine⟨_,(zi (zo (yR ["_law_table"] [0] (zY rfl zJ (zc (zD zL rfl m_len yi (zc (zE zw (pv 0) zf) ze)) ze)) fun _ _ _ _ _ _=>⟨zO,(yR ["_law_j"] [0] (zH (pv 1)) fun _ _ _ _ _ _=>⟨zO,(zE zw (pv 0) (pv 1))⟩)⟩))),?_⟩;obtain⟨M0,M',rfl⟩:=uR hM;have hras:=zk hT.2;obtain⟨r0,ras',e0⟩ : ∃ r0 ras',ras=r0::ras':=by
  cases ras with
  | nil=>simp at hras
  | cons a b=>exact⟨a,b,rfl⟩
 obtain⟨vs0,h0,p0,l0⟩:=(ju hT.2 (i:=0) rfl (by rw[e0];rfl)).len;have n0:=hn M0 wt;have szl:=dN
 refine⟨_,rfl,top,_,_,_,rfl,rfl,SqL.of hT.1,(by rw[e0];exact zP (j:=0) rfl),r0,_,rfl,.inl (SqL.of h0),_,rfl,(by omega),(by omega),?_⟩;have en:(vs0.length:Int).toNat=n:=by omega
 rw[en];refine yG (lo:=0) (n:=n) (fun i ys H'=>∃ ras2,ys=ras2.map V.ref/\Grow H H' ((kaa n (M0::M')).take i) ras2) ⟨[],rfl,Grow.nil H (Same.refl H)⟩ ?_ ?_ ?_
 ·rintro i ys H' hi ⟨ras2,rfl,G⟩
  have:=zk G.rows;rw[wx,zj]at this;rw[we];omega
 ·rintro i ys H' hi ⟨ras2,rfl,G⟩
  first|refine gyes ?_|refine tyes ?_
  refine⟨_,rfl,top,rfl,⟨_,SqL.of (G.same _ _ hT.1)⟩,?_⟩;refine zQ (xs:=ras.map V.ref) (fun j ys' H2=>H2=H'/\Paired (RN H') (((M0::M').map fun r=>r.getD i (.z 0)).take j) ys') ⟨rfl,.nil⟩ ?_ ?_ ?_
  ·rintro j ys' H2 hj ⟨rfl,pr⟩
   refine⟨SqL.of (G.same _ _ hT.1),?_⟩;have:=zk pr;rw[wx,we]at this;omega
  ·rintro j v ys' H2 hv hj ⟨rfl,pr⟩
   obtain⟨xs,a,hx,ha,rfl,hrow⟩:=(hT.mono G.same).row hv;obtain⟨us,hu,pu,lu⟩:=hrow.len;have nx:=hn xs (wk hx);have hi':i<xs.length:=by omega
   obtain⟨u,eu,ru⟩:=yH pu (wg hi')
   first|refine gyes ?_|refine tyes ?_
   refine⟨_,rfl,_,rfl,a,_,_,_,rfl,rfl,SqL.of hu,(by rw[vA];exact zP eu),nxt hj ⟨rfl,?_⟩⟩;have e:((M0::M').map fun r=>r.getD i (.z 0))[j]?=some (xs.getD i (.z 0)):=by rw[wo,hx];rfl
   rw[zq e];refine yj pr ?_;rw[wj,wg hi'];exact ru
  ·rintro ys' H2 ⟨rfl,pr⟩ p hp
   rw[wr (by rw[we,we];omega)]at pr;refine nxt hi ⟨ras2++[p],by rw[wF];rfl,?_⟩;rw[zq (xE hi)];exact G.snoc hp pr
 ·rintro ys H' ⟨ras2,rfl,G⟩ t ht
  rw[wr (by rw[zj];exact ww _)]at G;exact q t ras2 _ (G.same.trans (zg ht _)) (G.done ht)
def zdY:Sp:=fun vs H Q _=>∃ i:Int,vs=[.int i]/\Q (.bl true) H
theorem zg5 (D:Df K mg "_law_whole" ["_law_found"] jR) (zU:mg "isinstance" = none) (m_int:mg "int" = none) (ze5:mg "bool" = none):Kn P w K mg base "_law_whole" 1 ["_law_found"] zdY:=by
 refine D.kn zan (fun vs H Q E h=>?_) (fun f cdv A outer s H vs Q E hr h=>?_)
 ·obtain⟨i,rfl,_⟩:=h;rfl
 obtain⟨i,rfl,q⟩:=h;refine⟨_,(zi (zo (zbR (zD (jb (K:=K) rfl) rfl zU yA (zc (pv 0) (zc (zbe rfl m_int zdD) ze))) (QP (zkA (zD (jb (K:=K) rfl) rfl zU yA (zc (pv 0) (zc (zbe rfl ze5 ziO) ze)))))))),?_⟩;refine⟨_,rfl,_,_,_,_,rfl,TyOf.int i,zkC K,_,rfl,iteT ?_⟩;exact⟨_,rfl,_,_,_,_,rfl,TyOf.int i,zkf K,_,rfl,q⟩
theorem zkk:bootBuiltins "all" = some (.builtin "all"):=by decide +kernel
theorem Qr:∀ xs ys:List Nb,PyData.eqvAll (xs.map toD) (ys.map toD)=decide (xs=ys)
 | [],[]=>rfl
 | [],y::ys=>by simp[PyData.eqvAll]
 | x::xs,[]=>by simp[PyData.eqvAll]
 | x::xs,y::ys=>by
  show(PyData.eqv (toD x) (toD y) && PyData.eqvAll (xs.map toD) (ys.map toD))=_;rw[ZX,Qr xs ys]
  by_cases h:x=y
  ·by_cases h':xs=ys
   ·simp[h,h']
   ·simp[h,h']
  ·simp[h]
theorem zhL(xs ys:List Nb):PyData.eqv (rowD xs) (rowD ys)=decide (xs=ys):=Qr xs ys
def zbJ:Sp:=fun vs H Q _=>∃(k:Int)(x:Nb)(v:V),vs=[.int k,v]/\kab k/\x.ok k/\RN H x v/\Q (.bl true) H
theorem zgc (D:Df K mg "_law_is_number" dq xt) (Zh:Kn P w K mg base "_law_whole" 1 ["_law_found"] zdY) (qd:Kn P w K mg base "_law_divisor" 1 SJ zcH) (zU:mg "isinstance" = none) (xy:mg "tuple" = none) (m_len:mg "len" = none):Kn P w K mg base "_law_is_number" 2 dq zbJ:=by
 refine D.kn YV (fun vs H Q E h=>?_) (fun f cdv A outer s H vs Q E hr h=>?_)
 ·obtain⟨k,x,v,rfl,_⟩:=h;rfl
 obtain⟨k,x,v,rfl,hk,ox,rx,q⟩:=h;have kl:=hk.lt;refine⟨_,(zd (yn (zG ZM (pv 0) zf (kae _)) (zi (zo (zbR (zp Zh hr (zc (pv 1) ze)) (QP (zg8 zkG zh1 zf (pv 1) (pv 0)))))) zK) (zd (yn (PW.pt (pw_or (qj (jL (zD (jb (K:=K) rfl) rfl zU yA (zc (pv 1) (zc (zbe rfl xy Yv) ze))))) (pw_or (zG Yt (zD zL rfl m_len yi (zc (pv 1) ze)) zf (kae _)) (pw_or (qj (jL (zp Zh hr (zc (zE zy (pv 1) zf) ze)))) (pw_or1 (qj (jL (zp Zh hr (zc (zE zy (pv 1) zf) ze))))))))) (zi (zo XB)) zK) (zi (zo (zbR (xJ ZM (zE zy (pv 1) zf) zf (kae _)) (QP (xJ xp (zp qd hr (zc (zE zy (pv 1) zf) (zc (zE zy (pv 1) zf) ze))) zf (kae _)))))))),?_⟩;cases x with
 | z i =>
  rw[rx.z];have k0:k≠0:=ox.1;refine⟨_,rfl,_,_,rfl,rfl,_,rfl,?_⟩;rw[decide_eq_true (show(0:Int)<k by omega)];refine iteT ?_;refine⟨_,rfl,i,rfl,_,rfl,iteT ?_⟩;refine⟨_,rfl,_,_,rfl,rfl,_,rfl,?_⟩;rw[decide_eq_true (show(0:Int)<=i from ox.2.1),if_pos rfl];refine⟨_,rfl,_,_,rfl,rfl,?_⟩;show Q (.bl (decide (i<k))) H;rw[decide_eq_true (show i<k from ox.2.2)];exact q
 | q r =>
  obtain⟨p,rfl,hp⟩:=rx.q;have k0:k=0:=ox;subst k0;refine⟨_,rfl,_,_,rfl,rfl,_,rfl,iteF ?_⟩;refine⟨_,rfl,_,_,_,_,rfl,TyOf.tup hp,zf1 K,_,rfl,iteF ?_⟩;refine⟨_,rfl,p,_,rfl,.inr (SqT.of hp),rfl,_,rfl,iteF ?_⟩;refine⟨_,rfl,p,_,_,_,rfl,rfl,SqT.of hp,rfl,r.num,rfl,_,rfl,iteF ?_⟩;refine⟨_,rfl,p,_,_,_,rfl,rfl,SqT.of hp,rfl,(r.den:Int),rfl,_,rfl,iteF ?_⟩;refine⟨_,rfl,p,_,_,_,rfl,rfl,SqT.of hp,rfl,_,_,rfl,rfl,_,rfl,?_⟩;rw[decide_eq_true (show(0:Int) <(r.den:Int)from by have:=r.den_pos;omega)];refine iteT ?_;refine⟨_,rfl,p,_,_,_,rfl,rfl,SqT.of hp,rfl,_,rfl,p,_,_,_,rfl,rfl,SqT.of hp,rfl,r.num,(r.den:Int),rfl,rfl,?_⟩;have e:((vk r.num (r.den:Int):Nat):Int)=1:=by
   have:vk r.num (r.den:Int)=uI r.num.natAbs r.den:=rfl;rw[this,r.reduced];rfl
  show Q (.bl (decide (V.int ((vk r.num (r.den:Int):Nat):Int)=V.int 1))) H;rw[e];exact q
def za1:Sp:=fun vs H Q _=>∃(k:Int)(xs:List Nb)(a:Addr)(m:Int),vs=[.int k,.ref a,.int m]/\kab k/\kas H xs a/\La.OkR k xs/\m =(xs.length:Int)/\Q (.bl true) H
theorem zf3 (D:Df K mg "_law_is_row" dr jq) (XD:Kn P w K mg base "_law_is_number" 2 dq zbJ) (zU:mg "isinstance" = none) (xq:mg "list" = none) (m_len:mg "len" = none):Kn P w K mg base "_law_is_row" 3 dr za1:=by
 refine D.kn sQ (fun vs H Q E h=>?_) (fun f cdv A outer s H vs Q E hr h=>?_)
 ·obtain⟨k,xs,a,m,rfl,_⟩:=h;rfl
 obtain⟨k,xs,a,m,rfl,hk,hR,ox,em,q⟩:=h;obtain⟨us,hu,pu,lu⟩:=hR.len;refine⟨_,(zd (yn (PW.pt (pw_or (qj (jL (zD (jb (K:=K) rfl) rfl zU yA (zc (pv 1) (zc (zbe rfl xq ZO) ze))))) (pw_or1 (zG Yt (zD zL rfl m_len yi (zc (pv 1) ze)) (pv 2) (kae _))))) (zi (zo XB)) zK) (zd (yu PassesOwn.never rfl (zH (pv 1)) (zI (i:=3) sQ.nd rfl (.inl rfl)) (zi (yn (qj (jL (zp XD hr (zc (pv 0) (zc (pv 3) ze))))) (zi (zo XB)) zK))) (zi (zo XB)))),?_⟩;refine⟨_,rfl,_,_,_,_,rfl,TyOf.lst hu,ze4 K,_,rfl,iteF ?_⟩;refine⟨_,rfl,a,_,rfl,.inl (SqL.of hu),_,rfl,rfl,_,rfl,?_⟩;rw[lu,em,decide_eq_true rfl];refine iteF ?_;refine⟨_,rfl,a,rfl,⟨_,SqL.of hu⟩,?_⟩;refine yP (xs:=us) (fun j σ H2=>∃ o3,σ=[some (.int k),some (.ref a),some (.int (xs.length:Int)),o3]/\H2=H) ⟨_,rfl,rfl⟩ ?_ ?_ ?_
 ·rintro j σ H2 _ ⟨o3,rfl,rfl⟩
  exact SqL.of hu
 ·rintro j x σ H2 hx ⟨o3,rfl,rfl⟩
  obtain⟨n1,e1,r1⟩:=yh pu hx;exact⟨_,rfl,_,rfl,k,n1,x,rfl,hk,ox n1 (wk e1),r1,_,rfl,iteF ⟨_,rfl,rfl⟩⟩
 ·rintro σ H2 ⟨o3,rfl,rfl⟩
  exact q
def Qv:Sp:=fun vs H Q _=>∃(k:Int)(M:Tb)(t:Addr)(ras:List Addr)(m c:Int),vs=[.int k,.ref t,.int m,.int c]/\kab k/\kaf H M t ras/\m =(M.length:Int)/\(∀ r∈M,(r.length:Int)=c/\La.OkR k r)/\M.length<sizeLine/\∀ H',Same H H'->Q (.bl true) H'
theorem zdS:∀ n,(wN n true).all id=true
 | 0=>rfl
 | n+1=>by rw[vO,war,zdS n];rfl
theorem zed (D:Df K mg "_law_is_rows" du xR) (zaP:Kn P w K mg base "_law_is_row" 3 dr za1) (zU:mg "isinstance" = none) (xq:mg "list" = none) (m_len:mg "len" = none) (m_all:mg "all" = none):Kn P w K mg base "_law_is_rows" 4 du Qv:=by
 refine D.kn Jg (fun vs H Q E h=>?_) (fun f cdv A outer s H vs Q E hr h=>?_)
 ·obtain⟨k,M,t,ras,m,c,rfl,_⟩:=h;rfl
 obtain⟨k,M,t,ras,m,c,rfl,hk,hT,em,oM,hz,q⟩:=h;have lt:=zk hT.2;refine⟨_,(zi (zo (zbR (zD (jb (K:=K) rfl) rfl zU yA (zc (pv 1) (zc (zbe rfl xq ZO) ze))) (zbR (xJ xp (zD zL rfl m_len yi (zc (pv 1) ze)) (pv 2) (kae _)) (QP (zD (zgx rfl) rfl m_all zkk (zc (yR ["_law_prime_here", "_law_columns"] [0,3] (zH (pv 1)) fun _ _ _ _ _ _=>⟨zO,(zp zaP hr (zc (pv 1) (zc (pv 0) (zc (pv 2) ze))))⟩) ze))))))),?_⟩;refine⟨_,rfl,_,_,_,_,rfl,TyOf.lst hT.1,ze4 K,_,rfl,iteT ?_⟩;refine⟨_,rfl,t,_,rfl,.inl (SqL.of hT.1),_,rfl,rfl,_,rfl,?_⟩;rw[we,← lt,em,decide_eq_true rfl];refine iteT ?_;refine⟨_,rfl,t,rfl,⟨_,SqL.of hT.1⟩,?_⟩;refine zQ (xs:=ras.map V.ref) (fun i ys H'=>Same H H'/\ys =(wN i true).map V.bl) ⟨Same.refl H,rfl⟩ ?_ ?_ ?_
 ·rintro i ys H' hi ⟨g,rfl⟩
  refine⟨SqL.of (g _ _ hT.1),?_⟩;rw[we]at hi;rw[we,vt];omega
 ·rintro i v ys H' hv hi ⟨g,rfl⟩
  obtain⟨row,a,hrow,ha,rfl,hR⟩:=(hT.mono g).row hv;have o:=oM row (wk hrow)
  first|refine gyes ?_|refine tyes ?_
  refine⟨_,rfl,_,rfl,_,rfl,k,row,a,c,rfl,hk,hR,o.2,o.1.symm,nxt hi ⟨g,?_⟩⟩;rw[Gu,wF];rfl
 ·rintro ys H' ⟨g,rfl⟩ p hp
  refine⟨p,wN (ras.map V.ref).length true,rfl,zh,?_⟩;rw[zdS];exact q _ (g.trans (zg hp _))
theorem zjr{H1:Hp}{xs:List Nb}{us:List V}{x:Nb}{v:V}{pt:Addr}(hp:H1 pt=some (.lst us))(pu:Paired (RN H1) xs us)(rx:RN H1 x v):Paired (RN (upd H1 pt (.lst (us++[v])))) (xs++[x]) (us++[v]) :=
 yj (xZ (fun _ _ r=>r.upd hp) pu) (rx.upd hp)
theorem ze7{k:Int}{a b:Nat}(hk:kab k)(l:List (Nb×Nb))(h:∀ p∈l,p.1.ok k/\p.2.ok k/\szk k a p.1/\szk k b p.2):∀ i,i<=l.length->szk k (i *(a+b+1)+1) (La.ndotF k (l.take i)):=by
 intro i
 induction i with
 | zero =>
  intro _ k0;subst k0;exact⟨(ZZ _),sm_one.mono (by omega)⟩
 | succ i ih =>
  intro hi;have hg:l[i]?=some l[i]:=wg hi;have hp:=h l[i] (wp hi);have hl:∀ q∈l.take i,_:=fun q hq=>h q (uu hq)
  rw[zq hg,La.Xb];have o1:=La.XR hk (l.take i) fun q hq=>⟨(hl q hq).1,(hl q hq).2.1⟩
  refine(zh2 o1 (La.yS hk hp.1 hp.2.1) (ih (by omega)) (ZF hp.1 hp.2.1 hp.2.2.1 hp.2.2.2)).mono ?_;rw[vZ];omega
def JG:Sp:=fun vs H Q _=>∃(k:Int)(A:Tb)(x:List Nb)(n a0 b:Nat)(ta ax:Addr)(ra:List Addr),vs=[.int k,.ref ta,.ref ax]/\kab k/\kaf H A ta ra/\kas H x ax/\La.OkM k n A/\x.length=n/\La.OkR k x/\(∀ r∈A,∀ y∈r,szk k a0 y)/\(∀ y∈x,szk k b y)/\a0+b<=5000000/\n<=10/\A.length<=10 /\
 ∀ p H',Same H H'->NewR H H' (imgM k A x) p->(∀ y∈imgM k A x,szk k (n *(a0+b+1)+1) y)->Q (.ref p) H'
theorem zfd (D:Df K mg "_law_image" dw jW) (yk:Kn P w K mg base "_law_make" 1 QS qF) (jv:Kn P w K mg base "_law_plus" 42 QX (Ze nadd)) (yt:Kn P w K mg base "_law_times" 42 QX (Ze nmul)) (zJ:mg "range" = none) (m_len:mg "len" = none):Kn P w K mg base "_law_image" 43 dw JG:=by
 refine D.kn Sd (fun vs H Q E h=>?_) (fun f cdv A' outer s H vs Q E hr h=>?_)
 ·obtain⟨k,A,x,n,a0,b,ta,ax,ra,rfl,_⟩:=h;rfl
 obtain⟨k,A,x,n,a0,b,ta,ax,ra,rfl,hk,hT,hX,oA,lx,ox,sA,sx,hb,n10,a10,q⟩:=h;have szl:=dN
 have la:=zk hT.2;have szf:∀ r∈A,∀ i,szk k (n *(a0+b+1)+1) (La.ndotF k ((r.zip x).take i)):=fun r hr i=>by
  have lz:(r.zip x).length=n:=by rw[um,(oA r hr).1,lx,GZ]
  have hz:∀ p∈r.zip x,p.1.ok k/\p.2.ok k/\szk k a0 p.1/\szk k b p.2:=fun p hp=>⟨(oA r hr).2 _ (vw hp).1,ox _ (vw hp).2,sA r hr _ (vw hp).1,sx _ (vw hp).2⟩
  have up:∀ i,i<=n->i *(a0+b+1)+1<=n *(a0+b+1)+1:=fun i hi=>by
   have:=wU (a0+b+1) hi;omega
  rcases wbe i n with h|h
  ·exact(ze7 hk _ hz i (by omega)).mono (up i h)
  ·have:=ze7 hk _ hz n (by omega);rw[wr (by omega)]at this ⊢;exact this.mono (up n (ww _))
 have big:n *(a0+b+1)+1<=60000000:=by
  have:n *(a0+b+1)<=10 *(a0+b+1):=wU _ n10;omega
 refine⟨_,(zd (zm (i:=3) Sd.nd rfl (.inl rfl) (yC ze)) (zd (yu PassesOwn.never rfl (zH (pv 1)) (zI (i:=4) Sd.nd rfl (.inl rfl)) (zd (zm (i:=5) Sd.nd rfl (.inl rfl) (zp yk hr (zc (pv 0) (zc zf ze)))) (zd (yu PassesOwn.never rfl (zY rfl zJ (zc (zD zL rfl m_len yi (zc (pv 2) ze)) ze)) (zI (i:=6) Sd.nd rfl (.inl rfl)) (zi (zm (i:=5) Sd.nd rfl (.inl rfl) (zp jv hr (zc (pv 0) (zc (pv 5) (zc (zp yt hr (zc (pv 0) (zc (zE zw (pv 4) (pv 6)) (zc (zE zw (pv 2) (pv 6)) ze)))) ze))))))) (zi (yU (bm0 (fun _ h=>ZL PySem.F.plainAttrs_list PySem.F.slot_list_append PySem.F.type_list_append yE h (zc (pv 5) ze)) (pv 3))))))) (zi (zo (pv 3))))),?_⟩;refine⟨(by show 0<=sizeLine;decide),fun pt hpt=>?_⟩;have g0:=zg hpt (.lst []);have h0:upd H pt (.lst []) pt=some (.lst []):=zh;replace hT:=hT;refine⟨_,rfl,ta,rfl,⟨_,SqL.of (g0 _ _ hT.1)⟩,?_⟩;refine yP (xs:=ra.map V.ref) (fun i σ H'=>∃ us o4 o5 o6,σ=[some (.int k),some (.ref ta),some (.ref ax),some (.ref pt),o4,o5,o6]/\Same H H'/\H' pt=some (.lst us)/\Paired (RN H') ((imgM k A x).take i) us) ⟨[],none,none,none,rfl,g0,h0,.nil⟩ ?_ ?_ ?_
 ·rintro i σ H' _ ⟨us,o4,o5,o6,rfl,g,_⟩
  exact SqL.of (g _ _ hT.1)
 ·rintro i v σ H' hv ⟨us,o4,o5,o6,rfl,g,hp,pu⟩
  obtain⟨row,a,hrow,ha,rfl,hR⟩:=(hT.mono g).row hv;obtain⟨rs,hrs,prs,lrs⟩:=hR.len;obtain⟨xs,hxs,pxs,lxs⟩:=(hX.mono g).len;have hr':=wk hrow;have orow:=oA row hr';refine⟨_,rfl,k,0,rfl,hk,fun v0 H1 g1 r1=>?_⟩;refine⟨_,rfl,ax,_,rfl,.inl (SqL.of (g1 _ _ hxs)),_,rfl,(by omega),(by omega),?_⟩;have en:((xs.length:Int)).toNat=n:=by omega
  rw[en];refine yF (lo:=0) (n:=n) (fun j σ H2=>∃ w o6,σ=[some (.int k),some (.ref ta),some (.ref ax),some (.ref pt),some (.ref a),some w,o6]/\Same H' H2/\RN H2 (La.ndotF k ((row.zip x).take j)) w) ⟨v0,_,rfl,g1,r1⟩ ?_ ?_
  ·rintro j σ H2 hj ⟨w,o6,rfl,g2,rw2⟩
   have hj1:j<row.length:=by rw[orow.1];exact hj
   have hj2:j<x.length:=by omega
   obtain⟨u1,e1,ru1⟩:=yH prs (wg hj1);obtain⟨u2,e2,ru2⟩:=yH pxs (wg hj2);have m1:=wp hj1;have m2:=wp hj2;have oo1:=orow.2 _ m1;have oo2:=ox _ m2;have on:=La.XR hk ((row.zip x).take j) fun p hp=>by
    have hz:=uu hp;exact⟨orow.2 _ (vw hz).1,ox _ (vw hz).2⟩
   refine⟨_,rfl,_,rfl,_,rfl,_,rfl,_,rfl,a,_,_,_,rfl,rfl,SqL.of (g2 _ _ hrs),(by rw[vA];exact zP e1),_,rfl,_,rfl,ax,_,_,_,rfl,rfl,SqL.of (g2 _ _ hxs),(by rw[vA];exact zP e2),k,row[j],x[j],u1,u2,rfl,⟨hk,oo1,oo2,(sA row hr' _ m1).nsm hk oo1 (by omega) (by decide),(sx _ m2).nsm hk oo2 (by omega) (by decide),ru1.mono g2,ru2.mono g2⟩,fun v1 H3 g3 r3=>?_⟩;refine⟨k,_,_,w,v1,rfl,⟨hk,on,La.yS hk oo1 oo2,(szf row hr' j).nsm hk on (by omega) (by decide),(ZF oo1 oo2 (sA row hr' _ m1) (sx _ m2)).nsm hk (La.yS hk oo1 oo2) (by omega) (by decide),rw2.mono g3,r3⟩,fun v2 H4 g4 r4=>?_⟩;refine⟨v2,_,rfl,(g2.trans g3).trans g4,?_⟩;have ez:(row.zip x)[j]?=some (row[j],x[j]):=by rw[uX];exact⟨wg hj1,wg hj2⟩
   rw[zq ez,La.Xb];exact r4
  ·rintro σ H2 ⟨w,o6,rfl,g2,rw2⟩
   have el:(row.zip x).take n=row.zip x:=wr (by rw[um,orow.1,lx];omega);rw[el]at rw2;have hp2:=g2 _ _ hp;have lus:=zk pu;rw[wx]at lus;have lim:(imgM k A x).length=A.length:=by unfold imgM;exact we _
   refine⟨_,rfl,.inl ⟨rfl,_,SqL.of hp2⟩,_,rfl,pt,us,w,rfl,rfl,hp2,by omega,?_⟩;have ei:(imgM k A x)[i]?=some (La.ndot k row x):=by unfold imgM;rw[wo,hrow];rfl
   refine⟨us++[w],_,_,_,rfl,yw (g.trans g2) hpt,zh,?_⟩;rw[zq ei];exact zjr hp2 (jC g2 pu) rw2
 ·rintro σ H' ⟨us,o4,o5,o6,rfl,g,hp,pu⟩
  rw[we,← la,wr (by unfold imgM;rw[we];exact ww _)]at pu;refine⟨_,rfl,q pt H' g ⟨⟨us,hp,pu⟩,hpt⟩ fun y hy=>?_⟩;unfold imgM at hy;obtain⟨r,hr,rfl⟩:=wm.mp hy;have:=szf r hr n;rw[wr (by rw[um,(oA r hr).1,lx];omega)]at this;exact this
theorem zhv{K:PySem.W.Frag}{g:TG}{tt:TT}{te:TE}{R:List V->Hp->Prop}{H:Hp}{σb:L2.St}{a:Addr}{xs:List V}(J:Nat->List V->Hp->Prop)(h0:J 0 [] H)(hl:∀(i:Nat)(ys:List V)(H':Hp),i<=xs.length->J i ys H'->SqT K H' a xs/\ys.length<sizeLine)
  (hs:∀(i:Nat)(x:V)(ys:List V)(H':Hp),xs[i]?=some x->i<xs.length->J i ys H'->g x σb H' fun σ2 H2=>tt σ2 H2 fun b H3=>if b=true then te σ2 H3 fun y H4=>Nxt xs.length i (J (i+1) (ys++[y]) H4)else Nxt xs.length i (J (i+1) ys H3))
  (hd:∀(ys:List V)(H':Hp),J xs.length ys H'->R ys H') :
  ∃ W:Nat->Nat->List V->Hp->Prop,(∃ m,W 0 m [] H)/\∀ i m ys H,W i m ys H ->
   ((Itt K a).stop i H/\ys.length<=sizeLine/\R ys H) \/
   ((Itt K a).go i H/\ys.length<sizeLine/\∀ x H',(Itt K a).yld i H x H'->g x σb H' fun σ2 H2=>tt σ2 H2 fun b H3=>if b=true then te σ2 H3 fun y H4=>∃ m',m'<m/\W (i+1) m' (ys++[y]) H4 else ∃ m',m'<m/\W (i+1) m' ys H3):=by
 refine⟨fun i m ys H=>m=xs.length - i/\i<=xs.length/\J i ys H,⟨xs.length,by simp,vC _,h0⟩,?_⟩
 rintro i m ys H1 ⟨rfl,hi,j⟩
 obtain⟨q,hz⟩:=hl i ys H1 hi j
 by_cases hlt:i<xs.length
 ·refine .inr ⟨⟨xs,xs[i],q,by simp[hlt]⟩,hz,fun x H' y=>?_⟩;obtain⟨e,y⟩:=y;subst e;exact hs i x ys _ (y xs q) hlt j
 ·have e:i=xs.length:=by omega
  subst e;exact .inl ⟨⟨xs,q,ww _⟩,uh hz,hd ys H1 j⟩
def zd8:Sp:=fun vs H Q _=>∃(A B C:Tb)(pm ta tb tc:Addr)(ra rb rc:List Addr),vs=[.ref pm]/\kav H A B C pm ta tb tc ra rb rc/\A.length<sizeLine/\B.length<sizeLine/\C.length<sizeLine /\
 ∀ pm' ta' tb' tc' ra' rb' rc' H',Same H H'->kav H' A B C pm' ta' tb' tc' ra' rb' rc'->Q (.ref pm') H'
theorem zht (D:Df K mg "_law_copy" dC qB) (xy:mg "tuple" = none) (xq:mg "list" = none):Kn P w K mg base "_law_copy" 1 dC zd8:=by
 refine D.kn zbn (fun vs H Q E h=>?_) (fun f cdv A' outer s H vs Q E hr h=>?_)
 ·obtain⟨A,B,C,pm,ta,tb,tc,ra,rb,rc,rfl,_⟩:=h;rfl
 obtain⟨A,B,C,pm,ta,tb,tc,ra,rb,rc,rfl,hM,zA,zB,zC,q⟩:=h;refine⟨_,(zi (zo (xH XZ rfl xy Yv (zc (yR [] [] (zjw (pv 0)) fun _ _ _ _ _ _=>⟨zO,(yR [] [] (zH (pv 0)) fun _ _ _ _ _ _=>⟨zO,(xH Zp rfl xq ZO (zc (pv 0) ze))⟩)⟩) ze)))),?_⟩;refine⟨_,rfl,pm,rfl,⟨_,SqT.of hM.tup⟩,?_⟩;refine zhv (xs:=[.ref ta,.ref tb,.ref tc]) (fun i ys H'=>∃ ts rs,ys=ts.map V.ref/\kaj H H' ([A,B,C].take i) ts rs) ⟨[],[],rfl,kaj.nil (Same.refl H)⟩ ?_ ?_ ?_
 ·rintro i ys H' hi ⟨ts,rs,rfl,G⟩
  refine⟨SqT.of (G.same _ _ hM.tup),?_⟩;have:=G.lt;rw[wx]at this;rw[we,this];exact uo (GV _ _) (by show 3<sizeLine;decide)
 ·rintro i v ys H' hv hi ⟨ts,rs,rfl,G⟩
  obtain⟨M,t,ras,eM,rfl,hT,hz⟩ : ∃ M t ras,[A,B,C][i]?=some M/\v=.ref t/\kaf H' M t ras/\M.length<sizeLine:=by
   match i,hv with
   | 0,hv=>cases hv;exact⟨A,ta,ra,rfl,rfl,hM.a.mono G.same,zA⟩
   | 1,hv=>cases hv;exact⟨B,tb,rb,rfl,rfl,hM.b.mono G.same,zB⟩
   | 2,hv=>cases hv;exact⟨C,tc,rc,rfl,rfl,hM.c.mono G.same,zC⟩
  first|refine gyes ?_|refine tyes ?_
  refine⟨_,rfl,t,rfl,⟨_,SqL.of hT.1⟩,?_⟩;refine Jz hT hz (fun a us H2 Q2 ha hq=>⟨_,rfl,a,us,rfl,.inl (SqL.of ha),hq⟩) ?_;intro ras2 H2 G2 p hp;have N:=G2.done hp;refine nxt hi ⟨ts++[p],rs++[ras2],by rw[wF];rfl,?_⟩;rw[zq eM];exact G.push (G2.same.trans (zg hp _)) N
 ·rintro ys H' ⟨ts,rs,rfl,G⟩ p hp
  have G':kaj H H' [A,B,C] ts rs:=G;obtain⟨t1,t2,t3,rfl⟩ : ∃ t1 t2 t3,ts=[t1,t2,t3]:=by
   match ts,G'.lt with
   | [a,b,c],_=>exact⟨a,b,c,rfl⟩
  obtain⟨r1,r2,r3,rfl⟩ : ∃ r1 r2 r3,rs=[r1,r2,r3]:=by
   match rs,G'.lr with
   | [a,b,c],_=>exact⟨a,b,c,rfl⟩
  refine⟨p,_,rfl,.inl ⟨SqL.of zh,fun l hl=>?_⟩⟩;have g1:=zg hp (.lst ([t1,t2,t3].map V.ref));have g2:=zg hl (.tup ([t1,t2,t3].map V.ref));exact q l t1 t2 t3 r1 r2 r3 _ ((G'.same.trans g1).trans g2) ⟨zh,((G'.tabs 0 _ _ _ rfl rfl rfl).mono g1).mono g2,((G'.tabs 1 _ _ _ rfl rfl rfl).mono g1).mono g2,((G'.tabs 2 _ _ _ rfl rfl rfl).mono g1).mono g2⟩
theorem fermat:∀ p:Nat,p<99->primeB p=true->∀ x:Nat,x<p->0<x->x^(p - 2) % p*x % p=1:=by decide +kernel
theorem zhc(p t o l:Nat):(if l % 2=1 then t*o % p else t) *(o*o % p)^(l / 2) % p=t*o^l % p:=by
 have e:o^l =(o*o)^(l / 2)*o^(l % 2):=by
  rw[← wbn,← wal,← ul,Gv]
 have h1:∀ a:Nat,a *(o*o % p)^(l / 2) % p=a *(o*o)^(l / 2) % p:=fun a=>by
  rw[Go,← gX,← Go]
 rw[h1,e]
 by_cases h:l % 2=1
 ·rw[if_pos h,h,wbo];rw[Go (t*o % p),Nat.mod_mod,← Go]
  congr 1
  rw[gP,uk o]
 ·rw[if_neg h,show l % 2=0 by omega,waB,gY]
def zdK:Sp:=fun vs H Q _=>∃(k:Int)(x:Nb)(v:V),vs=[.int k,v]/\KindS k/\x.ok k/\x≠nnum k 0/\nsm 20000000 x/\RN H x v /\
 ∀ b v' H',Same H H'->RN H' b v'->b.ok k->nmul k b x=nnum k 1->(∀ m,szk k m x->szk k m b)->Q v' H'
theorem zhj (hP:P.given.tree=none) (hS:base.NoSeer) (D:Df K mg "_law_back" dE qG) (yv:Kn P w K mg base "_law_fraction" 41 Qa Zm):Kn P w K mg base "_law_back" 42 dE zdK:=by
 refine D.kn Si (fun vs H Q E h=>?_) (fun f cdv A' outer s H vs Q E hr h=>?_)
 ·obtain⟨k,x,v,rfl,_⟩:=h;rfl
 obtain⟨k,x,v,rfl,hk,ox,ne,sx,rx,q⟩:=h;have kl:=hk.ok.lt;refine⟨_,(zd (yn (zG xp (pv 0) zf (kae _)) (zi (zo (zp yv hr (zc (zt yb (zE zy (pv 1) zf) (zE zy (pv 1) zf)) (zc (zt yb (zE zy (pv 1) zf) (zE zy (pv 1) zf)) ze))))) zK) (zd (zm (i:=2) Si.nd rfl (.inl rfl) zf) (zd (zm (i:=3) Si.nd rfl (.inl rfl) (zt qV (pv 0) zf)) (zd (qS PassesOwn.never (zG ZM (pv 3) zf (kae _)) (zd (yn (zG xp (zt zW (pv 3) zf) zf (kae _)) (zi (zm (i:=2) Si.nd rfl (.inl rfl) (zt zW (zt yb (pv 2) (pv 1)) (pv 0)))) zK) (zd (zm (i:=1) Si.nd rfl (.inl rfl) (zt zW (zt yb (pv 1) (pv 1)) (pv 0))) (zi (zm (i:=3) Si.nd rfl (.inl rfl) (zt (yf hr (by decide) hP hS ⟨_,_,rfl,rfl,rfl,rfl,rfl⟩) (pv 3) zf)))))) (zi (zo (pv 2))))))),?_⟩;cases x with
 | q r =>
  obtain⟨p,rfl,hp⟩:=rx.q;have k0:k=0:=ox;subst k0;have r0:r≠0:=fun e=>ne (by rw[e];rfl)
  have n0:r.num≠0:=fun e=>r0 (waV.mp e)
  have sp:(0:Int)<r.num*r.num:=by
   have:=gw.mpr n0;rw[← Int.natAbs_mul_self' r.num];have h2:0 <(r.num.natAbs:Int):=by omega
   exact GC h2 h2
  refine⟨_,rfl,rfl,_,rfl,iteT ?_⟩;refine⟨_,rfl,p,_,_,_,rfl,rfl,SqT.of hp,rfl,_,rfl,p,_,_,_,rfl,rfl,SqT.of hp,rfl,_,_,rfl,rfl,sx.2.mulOk sx.1 (by decide),_,rfl,p,_,_,_,rfl,rfl,SqT.of hp,rfl,_,rfl,p,_,_,_,rfl,rfl,SqT.of hp,rfl,_,_,rfl,rfl,sx.1.mulOk sx.1 (by decide),_,_,rfl,sp,fun p' H' g h=>?_⟩;have e:vM ((r.den:Int)*r.num) (r.num*r.num)=r⁻¹:=by
   rw[wbk,Rat.divInt_mul_right n0]
  rw[e]at h;refine q (.q r⁻¹) _ H' g (RN.of_q h) rfl ?_ fun m hm _=>?_
  ·show Nb.q (r⁻¹*r)=Nb.q _;rw[Rat.mul_comm,Rat.mul_inv_cancel r r0];rfl
  ·have hs:=hm rfl;refine⟨?_,?_⟩
   ·show Sm m (r⁻¹).num;rw[Rat.num_inv];have hd:Sm m (r.den:Int):=hs.2;unfold Sm at hd ⊢;rw[vB];have:r.num.sign.natAbs=1:=by rw[Int.natAbs_sign_of_ne_zero n0]
    rw[this,vT];exact hd
   ·show Sm m ((r⁻¹).den:Int);rw[Rat.den_inv,if_neg n0];have hn:Sm m r.num:=hs.1;unfold Sm at hn ⊢
    simpa using hn
 | z i =>
  rw[rx.z];have k0:k≠0:=ox.1;have hpr:PrS k:=by
   rcases hk with h|h
   ·exact absurd h k0
   ·exact h
  obtain⟨p,rfl⟩:=gd kl.1;obtain⟨x,rfl⟩:=gd ox.2.1;have plo:=hpr.lo;have phi:=hpr.hi;have x1:x<p:=by have:=ox.2.2;omega
  have x0:0<x:=by
   rcases gi x with h|h
   ·exact absurd (by rw[h];unfold nnum;rw[if_neg k0];simp) ne
   ·exact h
  have fe:=fermat p (by omega) (by have:=hpr.pr;simpa using this) x x1 x0;refine⟨_,rfl,rfl,_,rfl,?_⟩;rw[decide_eq_false (fun e=>k0 (V.int.inj e))];refine iteF ?_;refine⟨_,rfl,_,_,rfl,rfl,?_⟩;refine⟨fun l σ H'=>∃(o t:Nat),σ=[some (.int (p:Int)),some (.int (o:Int)),some (.int (t:Int)),some (.int (l:Int))]/\H'=H/\o<p/\t<p/\t*o^l % p=x^(p - 2) % p,⟨p - 2,x,1,by rw[show((p - 2:Nat):Int) =(p:Int) - 2 by omega];rfl,rfl,x1,by omega,by rw[vT]⟩,?_⟩
  rintro l σ H' ⟨o,t,rfl,rfl,ho,ht,inv⟩
  refine⟨_,rfl,_,_,rfl,rfl,_,rfl,?_⟩;have modN:∀ a b:Nat,((a:Int) *(b:Int)).fmod (p:Int) =((a*b % p:Nat):Int):=fun a b=>by
   rw[uQ _ (by omega),waT,uU]
  have p7:p<99:=by omega
  refine ite2 (fun c=>?_) (fun c=>?_)
  ·have l0:0<l:=by have:(0:Int) <(l:Int):=of_decide_eq_true c;omega
   refine⟨_,fun _ _ h=>h,?_⟩;have l2:((l:Int)).fmod 2 =((l % 2:Nat):Int):=by rw[uQ _ (by decide),waT];rfl
   have d2:((l:Int)).fdiv 2 =((l / 2:Nat):Int):=by rw[GD _ (by decide),Int.natCast_ediv];rfl
   have stp:=zhc p t o l;refine⟨_,rfl,_,_,rfl,rfl,(by show(2:Int)≠0;decide),rfl,_,rfl,?_⟩;rw[l2];refine ite2 (fun c2=>?_) (fun c2=>?_)
   ·have h2:l % 2=1:=by have:=V.int.inj (of_decide_eq_true c2);omega
    refine⟨_,rfl,_,rfl,_,_,rfl,rfl,yI (by omega) (by omega),_,rfl,_,_,rfl,rfl,(by show(p:Int)≠0;omega),?_⟩;refine⟨_,rfl,_,rfl,_,_,rfl,rfl,yI (by omega) (by omega),_,rfl,_,_,rfl,rfl,(by show(p:Int)≠0;omega),?_⟩;refine⟨_,rfl,_,_,rfl,rfl,(by show(2:Int)≠0;decide),?_⟩;rw[if_pos h2]at stp;refine⟨l / 2,waY l0 (by decide),o*o % p,t*o % p,?_,rfl,GS _ (by omega),GS _ (by omega),stp.trans inv⟩;show [some (V.int (p:Int)),some (V.int (((o:Int) *(o:Int)).fmod (p:Int))),some (V.int (((t:Int) *(o:Int)).fmod (p:Int))),some (V.int (((l:Int)).fdiv 2))]=_;rw[modN,modN,d2]
   ·have h2:¬ l % 2=1:=fun e=>c2 (by rw[e];rfl)
    refine⟨_,rfl,_,rfl,_,_,rfl,rfl,yI (by omega) (by omega),_,rfl,_,_,rfl,rfl,(by show(p:Int)≠0;omega),?_⟩;refine⟨_,rfl,_,_,rfl,rfl,(by show(2:Int)≠0;decide),?_⟩;rw[if_neg h2]at stp;refine⟨l / 2,waY l0 (by decide),o*o % p,t,?_,rfl,GS _ (by omega),ht,stp.trans inv⟩;show [some (V.int (p:Int)),some (V.int (((o:Int) *(o:Int)).fmod (p:Int))),some (V.int (t:Int)),some (V.int (((l:Int)).fdiv 2))]=_;rw[modN,d2]
  ·have l0:l=0:=by
    have:¬(0:Int) <(l:Int):=of_decide_eq_false (uE.mpr c);omega
   subst l0;rw[waB,gY,Gk ht]at inv;refine⟨_,rfl,q (.z (t:Int)) _ H' (Same.refl _) RN.of_z ⟨k0,by omega,by omega⟩ ?_ fun m _ e=>absurd e k0⟩;show Nb.z (((t:Int) *(x:Int)).fmod (p:Int))=nnum (p:Int) 1;rw[modN,inv,fe];unfold nnum;rw[if_neg k0];have:(1:Int).fmod (p:Int)=1:=by rw[uQ _ (by omega)];exact Int.emod_eq_of_lt (by decide) (by omega)
   rw[this];rfl
theorem jx{k:Int}(hk:kab k){m n:Nat}{x:Nb}(o:x.ok k)(h:szk k m x)(hm:k=0->m<=n)(h7:61<=n):nsm n x:=by
 by_cases k0:k=0
 ·exact(h k0).mono (hm k0)
 ·exact(Yj hk k0 o).mono h7
theorem zdW{K:PySem.W.Frag}{te:TE}{σb:L2.St}{t:Addr}{ras:List Addr}{M:Tb}{H:Hp}{R:List V->Hp->Prop}(f:List Nb->List Nb)(hT:kaf H M t ras)(hz:M.length<sizeLine)
  (hte:∀(r:List Nb)(a:Addr)(H':Hp)(Q:VK),r∈M->Same H H'->kas H' r a->(∀(p:Addr)(us:List V)(H2:Hp),Same H' H2->H2 p=none->Paired (RN H2) (f r) us->Q (.ref p) (upd H2 p (.lst us)))->te (σb.set 0 (some (.ref a))) H' Q)
  (hd:∀(ras2:List Addr)(H':Hp),Grow H H' (M.map f) ras2->R (ras2.map V.ref) H') :
  ∃ W:Nat->Nat->List V->Hp->Prop,(∃ m,W 0 m [] H)/\∀ i m ys H,W i m ys H ->
   ((Itl K t).stop i H/\ys.length<=sizeLine/\R ys H) \/
   ((Itl K t).go i H/\ys.length<sizeLine/\∀ x H',(Itl K t).yld i H x H'->gName 0 x σb H' fun σ2 H2=>tTrue σ2 H2 fun b H3=>if b=true then te σ2 H3 fun y H4=>∃ m',m'<m/\W (i+1) m' (ys++[y]) H4 else ∃ m',m'<m/\W (i+1) m' ys H3):=by
 have hl:=zk hT.2;refine zQ (xs:=ras.map V.ref) (fun i ys H'=>∃ ras2,ys=ras2.map V.ref/\Grow H H' ((M.map f).take i) ras2) ⟨[],rfl,Grow.nil H (Same.refl H)⟩ ?_ ?_ ?_
 ·rintro i ys H' hi ⟨ras2,rfl,G⟩
  refine⟨SqL.of (G.same _ _ hT.1),?_⟩;have:=zk G.rows;rw[wx,we]at this;rw[we];omega
 ·rintro i v ys H' hv hi ⟨ras2,rfl,G⟩
  obtain⟨row,a,hrow,ha,rfl,hR⟩:=(hT.mono G.same).row hv;refine gyes (hte row a H' _ (wk hrow) G.same hR fun p us H2 g2 hp pu=>?_);refine nxt hi ⟨ras2++[p],by rw[wF];rfl,?_⟩;have e:(M.map f)[i]?=some (f row):=by rw[wo,hrow];rfl
  rw[zq e];exact(G.mono g2).snoc hp pu
 ·rintro ys H' ⟨ras2,rfl,G⟩
  rw[we,← hl,wr (by rw[we];exact ww _)]at G;exact hd ras2 H' G
theorem zco{α β:Type}{R S:α->β->Prop}:∀ {xs:List α} {ys:List β},(∀ x y,y∈ys->R x y->S x y)->Paired R xs ys->Paired S xs ys
 | _,_,_,.nil=>.nil
 | _,_,f,.cons r t=>.cons (f _ _ wt r) (zco (fun x y hy=>f x y (wv _ hy)) t)
theorem zbC:∀(l:List Addr)(j:Nat),(l.map V.ref).eraseIdx j =(l.eraseIdx j).map V.ref
 | [],_=>rfl
 | _::_,0=>rfl
 | a::l,j+1=>congrArg (V.ref a::·) (zbC l j)
def bdR(b c:Nat):Nat:=5^c *(b+1)
theorem XG(b c:Nat):bdR b (c+1)=5*bdR b c:=by unfold bdR;rw[gy];rw[uk (5^c) 5,gP]
theorem zju(b c:Nat):1<=bdR b c:=waS (gu (by decide)) (by omega)
theorem qN(b:Nat){c d:Nat}(h:c<=d):bdR b c<=bdR b d:=wU _ (ve (by decide) h)
theorem yO{r:List Nb}{c:Nat}{d x:Nb}(h:r[c]?=some x):r.getD c d=x:=by rw[wj,h];rfl
theorem ziE{k:Int}(hk:kab k){c B:Nat}{f r:List Nb}(of:La.OkR k f)(or:La.OkR k r)(hl:r.length=f.length)(hc:c<r.length)(sr:∀ x∈r,szk k B x)(sf:∀ x∈f,szk k (B+B) x):∀ x∈La.gjR k c f r,szk k (4*B+1) x:=by
 intro x hx;unfold La.gjR at hx;have ec:r.getD c (nnum k 0)=r[c]:=yO (wg hc);rw[ec]at hx;obtain⟨i,hi,e⟩:=wG hx;rw[uz]at e;rw[← e];have m1:=wp (l:=r) (n:=i) (by rw[wZ]at hi;omega);have m2:=wp (l:=f) (n:=i) (by rw[wZ]at hi;omega);have mc:=wp hc;exact(zhD (or _ m1) (La.yS hk (or _ mc) (of _ m2)) (sr _ m1) (ZF (or _ mc) (of _ m2) (sr _ mc) (sf _ m2))).mono (by omega)
def qK:Sp:=fun vs H Q _=>∃(k:Int)(n b:Nat)(M:Tb)(t:Addr)(ras:List Addr),vs=[.int k,.ref t]/\KindS k/\kaf H M t ras/\La.OkM k n M/\(∀ r∈M,∀ x∈r,szk k b x)/\n<=100/\(k=0->bdR b (min n M.length)<=30000000)/\M.length<=1000 /\
 ∀(R:Tb)(ls:List Nat)(t':Addr)(ras':List Addr)(H':Hp),Same H H'->kaf H' R t' ras'->IsRa k n R ls->kaz k R M->(∀ r∈R,∀ x∈r,szk k (bdR b R.length) x)->Q (.ref t') H'
theorem zcy (D:Df K mg "_law_reduced" dF xX) (yk:Kn P w K mg base "_law_make" 1 QS qF) (yt:Kn P w K mg base "_law_times" 42 QX (Ze nmul)) (xC:Kn P w K mg base "_law_minus" 43 QX Yi) (zcL:Kn P w K mg base "_law_back" 42 dE zdK) (xq:mg "list" = none) (m_len:mg "len" = none) (m_zip:mg "zip" = none):Kn P w K mg base "_law_reduced" 44 dF qK:=by
 refine D.kn sJ (fun vs H Q E h=>?_) (fun f cdv A' outer s H vs Q E hr h=>?_)
 ·obtain⟨k,n,b,M,t,ras,rfl,_⟩:=h;rfl
 obtain⟨k,n,b,M,t,ras,rfl,hs,hT,oM,sM,n10,b5,lM,q⟩:=h;have hk:=hs.ok;have szl:=dN
 have z0:=La.ya hk 0;refine⟨_,(zd (zm (i:=2) sJ.nd rfl (.inr rfl) (zp yk hr (zc (pv 0) (zc zf ze)))) (zd (Xn 3 sJ.nd [] [] (zH (pv 1)) fun _ _ _ _ _ _=>⟨zO,(xH Zp rfl xq ZO (zc (pv 0) ze))⟩) (zd (zm (i:=4) sJ.nd rfl (.inl rfl) (yC ze)) (zd (zm (i:=5) sJ.nd rfl (.inr rfl) zf) (zd (qS PassesOwn.never (PW.pt (pw_and (zG ZM (zD zL rfl m_len yi (zc (pv 3) ze)) zf (kae _)) (pw_and1 (zG zh1 (pv 5) (zD zL rfl m_len yi (zc (zE zw (pv 3) zf) ze)) (kae _))))) (zd (Xn 6 sJ.nd ["_law_at_here", "_law_nought"] [5,2] (zH (pv 3)) fun _ _ _ _ _ _=>⟨(Xe (zG (Qx hr) (zE zw (pv 0) (pv 1)) (pv 2) (kae _))),(pv 0)⟩) (zd (yn (zG ZM (zD zL rfl m_len yi (zc (pv 6) ze)) zf (kae _)) (zd (zm (i:=7) sJ.nd rfl (.inr rfl) (zE zw (pv 6) zf)) (zd (yU (bm0 (fun _ h=>ZL PySem.F.plainAttrs_list PySem.F.slot_list_remove PySem.F.type_list_remove (zgi hr) h (zc (pv 7) ze)) (pv 3))) (zd (zm (i:=8) sJ.nd rfl (.inr rfl) (zp zcL hr (zc (pv 0) (zc (zE zw (pv 7) (pv 5)) ze)))) (zd (zm (i:=7) sJ.nd rfl (.inr rfl) (yR ["_law_prime_here", "_law_by"] [0,8] (zH (pv 7)) fun _ _ _ _ _ _=>⟨zO,(zp yt hr (zc (pv 1) (zc (pv 2) (zc (pv 0) ze))))⟩)) (zd (Xn 3 sJ.nd ["_law_first", "_law_prime_here", "_law_at_here"] [7,0,5] (zH (pv 3)) fun _ _ _ _ _ _=>⟨zO,(ZQ ["_law_x", "_law_y"] ["_law_prime_here", "_law_row", "_law_at_here"] [2,0,3] ⟨rfl,rfl,rfl,rfl,rfl,rfl,by decide +kernel⟩ rfl (YZ rfl m_zip (zc (pv 0) (zc (pv 1) ze))) (ZD (yz (yB (by decide)) yy (yz (yB (by decide)) yy qh))) fun _ _ _ _ _ _=>⟨(jZ 2 rfl (yd (zI (i:=0) (by decide:(["_law_x", "_law_y", "_law_prime_here", "_law_row", "_law_at_here"]:List Str).Nodup) rfl (by first|exact Or.inl rfl|exact Or.inr rfl)) (yd (zI (i:=1) (by decide:(["_law_x", "_law_y", "_law_prime_here", "_law_row", "_law_at_here"]:List Str).Nodup) rfl (by first|exact Or.inl rfl|exact Or.inr rfl)) je))),zO,(zp xC hr (zc (pv 2) (zc (pv 0) (zc (zp yt hr (zc (pv 2) (zc (zE zw (pv 3) (pv 4)) (zc (pv 1) ze)))) ze))))⟩)⟩) (zd (Xn 4 sJ.nd ["_law_first", "_law_prime_here", "_law_at_here"] [7,0,5] (zH (pv 4)) fun _ _ _ _ _ _=>⟨zO,(ZQ ["_law_x", "_law_y"] ["_law_prime_here", "_law_row", "_law_at_here"] [2,0,3] ⟨rfl,rfl,rfl,rfl,rfl,rfl,by decide +kernel⟩ rfl (YZ rfl m_zip (zc (pv 0) (zc (pv 1) ze))) (ZD (yz (yB (by decide)) yy (yz (yB (by decide)) yy qh))) fun _ _ _ _ _ _=>⟨(jZ 2 rfl (yd (zI (i:=0) (by decide:(["_law_x", "_law_y", "_law_prime_here", "_law_row", "_law_at_here"]:List Str).Nodup) rfl (by first|exact Or.inl rfl|exact Or.inr rfl)) (yd (zI (i:=1) (by decide:(["_law_x", "_law_y", "_law_prime_here", "_law_row", "_law_at_here"]:List Str).Nodup) rfl (by first|exact Or.inl rfl|exact Or.inr rfl)) je))),zO,(zp xC hr (zc (pv 2) (zc (pv 0) (zc (zp yt hr (zc (pv 2) (zc (zE zw (pv 3) (pv 4)) (zc (pv 1) ze)))) ze))))⟩)⟩) (zi (yU (bm0 (fun _ h=>ZL PySem.F.plainAttrs_list PySem.F.slot_list_append PySem.F.type_list_append yE h (zc (pv 7) ze)) (pv 4)))))))))) zK) (zi (zm (i:=5) sJ.nd rfl (.inr rfl) (zt yT (pv 5) zf)))))) (zi (zo (pv 4)))))))),?_⟩;refine⟨_,rfl,k,0,rfl,hk,fun v0 H1 g1 r0=>?_⟩;refine⟨_,rfl,t,rfl,⟨_,SqL.of (g1 _ _ hT.1)⟩,?_⟩;refine Jz (hT.mono g1) (by omega) (fun a us H2 Q2 ha hq=>⟨_,rfl,a,us,rfl,.inl (SqL.of ha),hq⟩) ?_;intro rl H2 G2 pl hpl;have N2:=G2.done hpl;have g2:=g1.trans (G2.same.trans (zg hpl (.lst (rl.map V.ref))));have r2:=r0.mono (G2.same.trans (zg hpl (.lst (rl.map V.ref))));generalize upd H2 pl (.lst (rl.map V.ref))=H3 at *;refine⟨(by show 0<=sizeLine;decide),fun pt hpt=>?_⟩;have g3:=zg hpt (.lst []);have hpt3:upd H3 pt (.lst []) pt=some (.lst []):=zh;have hL3:=N2.tab.mono g3;have npt:pl≠pt:=fun e=>by rw[← e,N2.tab.1]at hpt;cases hpt
 have nplr:pl∉rl:=N2.nt;have fpl:H pl=none:=g1.none N2.ft;have g30:=g2.trans g3;have r3:=r2.mono g3;generalize upd H3 pt (.lst [])=H4 at *;clear G2 hpl r0 r2 g3 hpt g2 N2;refine⟨fun m σ H'=>∃(c:Nat)(told left:Tb)(ls:List Nat)(pl pt:Addr)(rl rt:List Addr)(o6 o7 o8:Option V),σ=[some (.int k),some (.ref t),some v0,some (.ref pl),some (.ref pt),some (.int (c:Int)),o6,o7,o8]/\Same H H'/\RN H' (nnum k 0) v0/\kaf H' left pl rl/\kaf H' told pt rt/\H pl=none/\pl∉rl/\pl∉rt/\pl≠pt/\c<=n/\left.length<=1000/\(told.length<=c/\told.length+left.length=M.length)/\(∀ r∈told,∀ x∈r,szk k (bdR b told.length) x)/\(∀ r∈left,∀ x∈r,szk k (bdR b told.length) x)/\(∀(F:Type) [Lean.Grind.Field F] (φ:La.Kf k F),La.Gj φ n c M told left ls)/\m=n - c,⟨_,0,[],M,[],pl,pt,rl,[],_,_,_,rfl,g30,r3,hL3,⟨hpt3,.nil⟩,fpl,nplr,(fun h=>nomatch h),npt,vC _,lM,⟨ww _,Ge _⟩,(fun _ h=>nomatch h),(fun r hr x hx=>(sM r hr x hx).mono (by show b<=bdR b 0;unfold bdR;omega)),(fun F _ φ=>La.Gj.start oM),rfl⟩,?_⟩;clear hpt3 hL3 npt nplr g30 r3 g1 sM lM
 rintro m σ H' ⟨c,told,left,ls,pl,pt,rl,rt,o6,o7,o8,rfl,g,r0,hL,hD,fpl,nlr,nlt,nlp,cn,ll,⟨lt,lML⟩,sD,sL,G,rfl⟩
 have lrl:=zk hL.2;have lrt:=zk hD.2;have exit:(left=[]\/n<=c)->Q (.ref pt) H':=fun h =>
  q told ls pt rt H' g hD (fun F _ φ=>((G F φ).done h).1) (fun F _ φ=>((G F φ).done h).2) sD
 refine⟨_,rfl,pl,_,rfl,.inl (SqL.of hL.1),_,_,rfl,rfl,_,rfl,?_⟩;rw[we,← lrl]
 rcases gi left.length with l0|l0
 ·have e:left=[]:=vx l0;rw[l0];refine iteF ?_;refine iteF ?_;exact⟨_,rfl,exit (.inl e)⟩
 rw[decide_eq_true (show(0:Int) <(left.length:Int) by omega)];refine iteT ?_;have hl0:left[0]?=some left[0]:=wg l0;obtain⟨a0,ea0,ra0⟩:=yH hL.2 hl0;obtain⟨us0,hu0,pu0,lu0⟩:=ra0.len;have okl:=(show La.OkM k n left from by obtain⟨F,_,_,⟨φ⟩⟩:=La.ye hk;exact(G F φ).okl);have okt:=(show La.OkM k n told from by obtain⟨F,_,_,⟨φ⟩⟩:=La.ye hk;exact(G F φ).okt);have w0:=(okl _ (wp l0)).1;refine⟨_,rfl,_,rfl,pl,_,_,.ref a0,rfl,rfl,SqL.of hL.1,zP (j:=0) (by rw[wo,ea0];rfl),a0,_,rfl,.inl (SqL.of hu0),_,_,rfl,rfl,_,rfl,?_⟩;rw[lu0,w0]
 rcases wO c n with hc|hc
 rotate_left
 ·rw[decide_eq_false (show ¬(c:Int) <(n:Int) by omega)];refine iteF ?_;exact⟨_,rfl,exit (.inr hc)⟩
 rw[decide_eq_true (show(c:Int) <(n:Int) by omega)];refine iteT ?_;clear exit pu0 hu0 lu0 us0 ra0 ea0 w0 hl0;refine⟨_,fun _ _ h=>h,?_⟩;have bd2:k=0->bdR b told.length<=6000000:=fun e=>by
  have h1:=b5 e;have h2:=qN b (show told.length+1<=min n M.length by omega);rw[XG]at h2;omega
 have bd1:=zju b told.length;refine⟨_,rfl,pl,rfl,⟨_,SqL.of hL.1⟩,?_⟩;refine zQ (xs:=rl.map V.ref) (fun i ys H2=>H2=H'/\ys.length<=i/\((ys=[]/\∀(m:Nat)(r:List Nb),m<i->left[m]?=some r->r.getD c (nnum k 0)=nnum k 0)\/∃(j:Nat)(r:List Nb)(a:Addr)(rest:List V),left[j]?=some r/\rl[j]?=some a/\r.getD c (nnum k 0)≠nnum k 0/\(∀(m:Nat)(r':List Nb),m<j->left[m]?=some r'->r'.getD c (nnum k 0)=nnum k 0)/\ys=.ref a::rest)) ⟨rfl,ww _,.inl ⟨rfl,fun _ _ h=>absurd h (vI _)⟩⟩ ?_ ?_ ?_
 ·rintro i ys H2 hi ⟨rfl,hy,_⟩
  rw[we]at hi;exact⟨SqL.of hL.1,by omega⟩
 ·rintro i v ys H2 hv hi ⟨rfl,hy,hJ⟩
  obtain⟨row,a,hrow,ha,rfl,hR⟩:=hL.row hv;obtain⟨us,hu,pu,lu⟩:=hR.len;have orow:=okl row (wk hrow);have hcr:c<row.length:=by rw[orow.1];exact hc
  have ec:row[c]?=some row[c]:=wg hcr;obtain⟨u,eu,ru⟩:=yH pu ec;refine⟨_,rfl,_,rfl,a,_,_,_,rfl,rfl,SqL.of hu,zP eu,_,rfl,toD row[c],toD (nnum k 0),ru,r0,jz _,jz _,wI (vJ _ _) (wI (qi _) (by decide)),_,rfl,?_⟩;rw[ZX]
  by_cases hz:row[c]=nnum k 0
  ·rw[decide_eq_true hz];refine iteF (nxt hi ⟨rfl,by omega,?_⟩)
   rcases hJ with⟨e,hJ⟩|hJ
   ·refine .inl ⟨e,fun m r hm hr=>?_⟩
    rcases vU (ug hm)with h|h
    ·exact hJ m r h hr
    ·rw[h,hrow]at hr;cases hr;rw[yO ec];exact hz
   ·exact .inr hJ
  ·rw[decide_eq_false hz];refine iteT ⟨_,rfl,nxt hi ⟨rfl,by rw[wy];show ys.length+1<=i+1;omega,.inr ?_⟩⟩
   rcases hJ with⟨e,hJ⟩|⟨j,r,a',rest,h1,h2,h3,h4,e⟩
   ·exact⟨i,row,a,[],hrow,ha,by rw[yO ec];exact hz,fun m r' hm hr=>hJ m r' hm hr,by rw[e];rfl⟩
   ·exact⟨j,r,a',rest++[.ref a],h1,h2,h3,h4,by rw[e];rfl⟩
 rintro ys H2 ⟨rfl,hy,hJ⟩ ps hps
 rw[we]at hy;have g4:=zg hps (.lst ys);have hps4:upd H2 ps (.lst ys) ps=some (.lst ys):=zh;have ga:=g.trans g4;have r4:=r0.mono g4;have hL4:=hL.mono g4;have hD4:=hD.mono g4;generalize upd H2 ps (.lst ys)=H5 at *;clear hps g4 hL hD r0 g;refine⟨_,rfl,ps,_,rfl,.inl (SqL.of hps4),_,_,rfl,rfl,_,rfl,?_⟩
 rcases hJ with⟨e,hJ⟩|⟨j,p,a,rest,hp,ha,hne,hbef,e⟩
 ·subst e;refine iteF ?_;refine⟨_,rfl,_,_,rfl,rfl,?_⟩;refine⟨n - (c+1),by omega,c+1,told,left,ls,pl,pt,rl,rt,_,_,_,rfl,ga,r4,hL4,hD4,fpl,nlr,nlt,nlp,hc,ll,⟨by omega,lML⟩,sD,sL,(fun F _ φ=>(G F φ).skip fun r hr=>?_),rfl⟩;obtain⟨i,hi,er⟩:=wG hr;have:=hJ i r (by rw[we];omega) (by rw[wg hi,er]);show φ.to (r.getD c (nnum k 0))=0;rw[this];exact(φ.zero_iff hk z0).mpr rfl
 subst e;rw[decide_eq_true (show(0:Int) <((V.ref a::rest).length:Int) by rw[vQ];omega)];refine iteT ?_;have hjl:j<left.length:=(wq.mp hp).1;have pm:=wk hp;have op:=okl p pm;have hra:kas H5 p a:=ju hL4.2 hp ha;obtain⟨ua,hua,pua,lua⟩:=hra.len;have hcp:c<p.length:=by rw[op.1];exact hc
 have ecp:p[c]?=some p[c]:=wg hcp;have hne':p[c]≠nnum k 0:=by rw[yO ecp]at hne;exact hne
 have oc:=op.2 _ (wp hcp);refine⟨_,rfl,ps,_,_,.ref a,rfl,rfl,SqL.of hps4,zP (j:=0) rfl,?_⟩;refine⟨_,rfl,.inl ⟨rfl,_,SqL.of hL4.1⟩,_,rfl,pl,_,.ref a,j,rowD p,rfl,rfl,hL4.1,(by rw[we];omega),hra.rp,QZ p,wI (Qu p) (by decide),(fun m z hm hz=>?_),?_⟩
 ·rw[wo]at hz;obtain⟨a',ha',rfl⟩:=wR.mp hz;obtain⟨r',er',rr'⟩:=yh hL4.2 ha';refine⟨rowD r',rr'.rp,QZ r',?_⟩;rw[zhL]
  rcases vU hm with h|h
  ·have hz':=hbef m r' h er';rw[decide_eq_false (fun e=>hne (by rw[← e];exact hz')),decide_eq_false (by omega)]
  ·subst h;rw[hp]at er';cases er';rw[decide_eq_true rfl,decide_eq_true rfl]
 have em:(rl.map V.ref).eraseIdx j =(rl.eraseIdx j).map V.ref:=zbC rl j;rw[em];have hTe:kaf (upd H5 pl (.lst ((rl.eraseIdx j).map V.ref))) (left.eraseIdx j) pl (rl.eraseIdx j):=⟨zh,zdo (zco (fun x y hy r=>r.upd (fun e=>nlr (by rw[← e];exact hy)) hL4.1) hL4.2) j⟩;have hDe:=hD4.upd (zs':=(rl.eraseIdx j).map V.ref) (Ne.symm nlp) nlt hL4.1;have hae:kas (upd H5 pl (.lst ((rl.eraseIdx j).map V.ref))) p a:=hra.upd (fun e=>nlr (by rw[← e];exact wk ha)) hL4.1;have gE:Same H (upd H5 pl (.lst ((rl.eraseIdx j).map V.ref))):=yw ga fpl;have rE:=r4.upd (zs':=(rl.eraseIdx j).map V.ref) hL4.1;generalize upd H5 pl (.lst ((rl.eraseIdx j).map V.ref))=HE at *;clear hL4 hD4 hra hua pua lua r4 ga hps4 ua em;obtain⟨ua,hua,pua,lua⟩:=hae.len;obtain⟨u,eu,ru⟩:=yH pua ecp;refine⟨_,rfl,_,rfl,_,rfl,a,_,_,_,rfl,rfl,SqL.of hua,zP eu,k,p[c],u,rfl,hs,oc,hne',jx hk oc (sL p pm _ (wp hcp)) (fun e=>by have:=bd2 e;omega) (by decide),ru,fun bb vb H6 g6 rb ob eb sb=>?_⟩;have sbb:=sb _ (sL p pm _ (wp hcp));have hua6:=g6 _ _ hua;have pua6:=jC g6 pua;refine⟨_,rfl,a,rfl,⟨_,SqL.of hua6⟩,?_⟩;refine zQ (xs:=ua) (fun i ys H7=>Same H6 H7/\Paired (RN H7) ((p.map (nmul k bb)).take i) ys) ⟨Same.refl H6,.nil⟩ ?_ ?_ ?_
 ·rintro i ys H7 hi ⟨g7,pr⟩
  refine⟨SqL.of (g7 _ _ hua6),?_⟩;have:=zk pr;rw[wx,we]at this;omega
 ·rintro i v ys H7 hv hi ⟨g7,pr⟩
  obtain⟨nx,ex,rx⟩:=yh pua6 hv;have ox:=op.2 _ (wk ex)
  first|refine gyes ?_|refine tyes ?_
  refine⟨_,rfl,_,rfl,_,rfl,k,bb,nx,vb,v,rfl,⟨hk,ob,ox,jx hk ob sbb (fun e=>by have:=bd2 e;omega) (by decide),jx hk ox (sL p pm _ (wk ex)) (fun e=>by have:=bd2 e;omega) (by decide),rb.mono g7,rx.mono g7⟩,fun v8 H8 g8 r8=>nxt hi ⟨g7.trans g8,?_⟩⟩;have e:(p.map (nmul k bb))[i]?=some (nmul k bb nx):=by rw[wo,ex];rfl
  rw[zq e];exact yj (jC g8 pr) r8
 rintro ys H7 ⟨g7,pr⟩ af haf
 rw[show ua.length =(p.map (nmul k bb)).length by rw[we,lua],vK]at pr;have g8:=zg haf (.lst ys);have hF:kas (upd H7 af (.lst ys)) (p.map (nmul k bb)) af:=⟨ys,zh,jC g8 pr⟩;have gF:=(g6.trans g7).trans g8;generalize upd H7 af (.lst ys)=HF at *;have turn:∀(F:Type) [Lean.Grind.Field F] (φ:La.Kf k F),La.Gj φ n (c+1) M (told.map (La.gjR k c (p.map (nmul k bb)))++[p.map (nmul k bb)]) ((left.eraseIdx j).map (La.gjR k c (p.map (nmul k bb)))) (ls++[c]):=fun F _ φ=>by
  refine(G F φ).turn hk hc hp ob ?_;show φ.to bb*φ.to (p.getD c (nnum k 0))=1;rw[yO ecp,← φ.mul ob oc,eb,φ.num];exact La.ι_one
 have lf:(p.map (nmul k bb)).length=n:=by rw[we];exact op.1
 have of':La.OkR k (p.map (nmul k bb)):=fun x hx=>by
  obtain⟨y,hy,rfl⟩:=wm.mp hx;exact La.yS hk ob (op.2 y hy)
 have sf:∀ x∈p.map (nmul k bb),szk k (bdR b told.length+bdR b told.length) x:=fun x hx=>by
  obtain⟨y,hy,rfl⟩:=wm.mp hx;exact ZF ob (op.2 y hy) sbb (sL p pm y hy)
 generalize p.map (nmul k bb)=f at *;have hTf:=hTe.mono gF;have hDf:=hDe.mono gF;have gHF:=gE.trans gF;have rF:=rE.mono gF;clear hTe hDe hae gE rE g6 g7 g8 pr haf gF hua hua6 pua pua6 ru eu rb;have oke:∀ r∈left.eraseIdx j,r∈left:=fun r hr=>(Gp (l:=left) j).subset hr
 have lle:(left.eraseIdx j).length<=left.length:=(Gp (l:=left) j).length_le;refine⟨_,rfl,pl,rfl,⟨_,SqL.of hTf.1⟩,?_⟩;refine zdW (La.gjR k c f) hTf (by omega) ?_ ?_
 ·have OKX:∀ r∈left.eraseIdx j,r.length=n/\La.OkR k r:=fun r hr=>okl r (oke r hr)
  have SZX:∀ r∈left.eraseIdx j,∀ x∈r,szk k (bdR b told.length) x:=fun r hr=>sL r (oke r hr)
  have GX:∀ {H8:Hp},Same HF H8->Same HF H8:=fun h=>h
  intro r a' H8 Q8 hr8 gs hR8 hq8;have orr:=OKX r hr8;have srr:=SZX r hr8;obtain⟨us,hu,pu,lu⟩:=hR8.len;obtain⟨uf,huf,puf,luf⟩:=(hF.mono (GX gs)).len;have hcr:c<r.length:=by rw[orr.1];exact hc
  obtain⟨uc,euc,ruc⟩:=yH pu (wg hcr);have occ:=orr.2 _ (wp hcr);refine⟨_,rfl,_,rfl,a',af,us,uf,rfl,SqL.of hu,SqL.of huf,?_⟩;refine Zo (xs:=us) (zs:=uf) (by rw[lu,luf,orr.1,lf]) (fun i ys' H9=>Same H8 H9/\Paired (RN H9) ((La.gjR k c f r).take i) ys') ⟨Same.refl H8,.nil⟩ ?_ ?_ ?_
  ·rintro i ys' H9 hi ⟨g9,pr⟩
   refine⟨SqL.of (g9 _ _ hu),SqL.of (g9 _ _ huf),?_⟩;have:=zk pr;rw[wx]at this;rw[lu,orr.1]at hi;omega
  ·rintro i x z T ys' H9 hx hz hi hT9 ⟨g9,pr⟩
   obtain⟨nx,ex,rx⟩:=yh pu hx;obtain⟨nz,ez,rz⟩:=yh puf hz;have ox:=orr.2 _ (wk ex);have oz:=of' _ (wk ez);have sx:=srr _ (wk ex);have sz:=sf _ (wk ez);have gT:=g9.trans (zg hT9 (.tup [x,z]));refine⟨T,_,rfl,SqT.of zh,rfl,_,_,rfl,_,_,rfl,rfl,?_⟩;have gN:=zg hT9 (.tup [x,z]);generalize upd H9 T (.tup [x,z])=H10 at *
   first|refine gyes ?_|refine tyes ?_
   refine⟨_,rfl,_,rfl,_,rfl,_,rfl,_,rfl,a',_,_,_,rfl,rfl,SqL.of (gT _ _ hu),zP euc,_,rfl,k,r[c],nz,uc,z,rfl,⟨hk,occ,oz,jx hk occ (srr _ (wp hcr)) (fun e=>by have:=bd2 e;omega) (by decide),jx hk oz sz (fun e=>by have:=bd2 e;omega) (by decide),ruc.mono gT,rz.mono gT⟩,fun v11 H11 g11 r11=>?_⟩;have omm:=La.yS hk occ oz;refine⟨k,nx,_,x,v11,rfl,hk,ox,omm,jx hk ox sx (fun e=>by have:=bd2 e;omega) (by decide),jx hk omm (ZF occ oz (srr _ (wp hcr)) sz) (fun e=>by have:=bd2 e;omega) (by decide),(rx.mono gT).mono g11,r11,fun v12 H12 g12 r12=>nxt hi ⟨(gT.trans g11).trans g12,?_⟩⟩;have e:(La.gjR k c f r)[i]?=some (nsub k nx (nmul k r[c] nz)):=by
    unfold La.gjR;rw[vP,ex,ez];show some (nsub k nx (nmul k (r.getD c (nnum k 0)) nz))=_;rw[yO (wg hcr)]
   rw[zq e];exact yj (jC (gN.trans (g11.trans g12)) pr) r12
  ·rintro ys' H9 ⟨g9,pr⟩ p9 hp9
   have lg:(La.gjR k c f r).length=us.length:=by unfold La.gjR;rw[wZ,lu,orr.1,lf,GZ]
   rw[← lg,vK]at pr;exact hq8 p9 ys' H9 g9 hp9 pr
 intro rl2 HG GG pl2 hpl2;have NG:=GG.done hpl2;have gG:=GG.same.trans (zg hpl2 (.lst (rl2.map V.ref)));have fpl2:H pl2=none:=gHF.none (GG.same.none hpl2);have naf2:pl2≠af:=fun e=>by
  obtain⟨uf,huf,_⟩:=(hF.mono GG.same).len;rw[← e,hpl2]at huf;cases huf
 generalize upd HG pl2 (.lst (rl2.map V.ref))=HH at *;have hF2:=hF.mono gG;refine⟨_,rfl,pt,rfl,⟨_,SqL.of (gG _ _ hDf.1)⟩,?_⟩;refine zdW (La.gjR k c f) (hDf.mono gG) (by omega) ?_ ?_
 ·have OKX:∀ r∈told,r.length=n/\La.OkR k r:=okt;have SZX:∀ r∈told,∀ x∈r,szk k (bdR b told.length) x:=sD;have GX:∀ {H8:Hp},Same HH H8->Same HF H8:=fun h=>gG.trans h
  intro r a' H8 Q8 hr8 gs hR8 hq8;have orr:=OKX r hr8;have srr:=SZX r hr8;obtain⟨us,hu,pu,lu⟩:=hR8.len;obtain⟨uf,huf,puf,luf⟩:=(hF.mono (GX gs)).len;have hcr:c<r.length:=by rw[orr.1];exact hc
  obtain⟨uc,euc,ruc⟩:=yH pu (wg hcr);have occ:=orr.2 _ (wp hcr);refine⟨_,rfl,_,rfl,a',af,us,uf,rfl,SqL.of hu,SqL.of huf,?_⟩;refine Zo (xs:=us) (zs:=uf) (by rw[lu,luf,orr.1,lf]) (fun i ys' H9=>Same H8 H9/\Paired (RN H9) ((La.gjR k c f r).take i) ys') ⟨Same.refl H8,.nil⟩ ?_ ?_ ?_
  ·rintro i ys' H9 hi ⟨g9,pr⟩
   refine⟨SqL.of (g9 _ _ hu),SqL.of (g9 _ _ huf),?_⟩;have:=zk pr;rw[wx]at this;rw[lu,orr.1]at hi;omega
  ·rintro i x z T ys' H9 hx hz hi hT9 ⟨g9,pr⟩
   obtain⟨nx,ex,rx⟩:=yh pu hx;obtain⟨nz,ez,rz⟩:=yh puf hz;have ox:=orr.2 _ (wk ex);have oz:=of' _ (wk ez);have sx:=srr _ (wk ex);have sz:=sf _ (wk ez);have gT:=g9.trans (zg hT9 (.tup [x,z]));refine⟨T,_,rfl,SqT.of zh,rfl,_,_,rfl,_,_,rfl,rfl,?_⟩;have gN:=zg hT9 (.tup [x,z]);generalize upd H9 T (.tup [x,z])=H10 at *
   first|refine gyes ?_|refine tyes ?_
   refine⟨_,rfl,_,rfl,_,rfl,_,rfl,_,rfl,a',_,_,_,rfl,rfl,SqL.of (gT _ _ hu),zP euc,_,rfl,k,r[c],nz,uc,z,rfl,⟨hk,occ,oz,jx hk occ (srr _ (wp hcr)) (fun e=>by have:=bd2 e;omega) (by decide),jx hk oz sz (fun e=>by have:=bd2 e;omega) (by decide),ruc.mono gT,rz.mono gT⟩,fun v11 H11 g11 r11=>?_⟩;have omm:=La.yS hk occ oz;refine⟨k,nx,_,x,v11,rfl,hk,ox,omm,jx hk ox sx (fun e=>by have:=bd2 e;omega) (by decide),jx hk omm (ZF occ oz (srr _ (wp hcr)) sz) (fun e=>by have:=bd2 e;omega) (by decide),(rx.mono gT).mono g11,r11,fun v12 H12 g12 r12=>nxt hi ⟨(gT.trans g11).trans g12,?_⟩⟩;have e:(La.gjR k c f r)[i]?=some (nsub k nx (nmul k r[c] nz)):=by
    unfold La.gjR;rw[vP,ex,ez];show some (nsub k nx (nmul k (r.getD c (nnum k 0)) nz))=_;rw[yO (wg hcr)]
   rw[zq e];exact yj (jC (gN.trans (g11.trans g12)) pr) r12
  ·rintro ys' H9 ⟨g9,pr⟩ p9 hp9
   have lg:(La.gjR k c f r).length=us.length:=by unfold La.gjR;rw[wZ,lu,orr.1,lf,GZ]
   rw[← lg,vK]at pr;exact hq8 p9 ys' H9 g9 hp9 pr
 intro rt2 HI GI pt2 hpt2;have NI:=GI.done hpt2;have gI:=GI.same.trans (zg hpt2 (.lst (rt2.map V.ref)));have hL2:=NG.tab.mono GI.same;have hFI:=hF2.mono GI.same;have npt2:pl2≠pt2:=fun e=>by
  have:=hL2.1;rw[e,hpt2]at this;cases this
 have nrl2:pt2∉rl2:=fun h=>by
  obtain⟨i,hi,ei⟩:=wG h;obtain⟨r,_,rr⟩:=yh hL2.2 (wg hi);obtain⟨us,hus,_⟩:=rr.len;rw[ei,hpt2]at hus;cases hus
 have nplt2:pl2∉rt2:=fun h=>by
  have:=NI.fr pl2 h;rw[NG.tab.1]at this;cases this
 have nafp:af≠pt2:=fun e=>by
  obtain⟨uf,huf,_⟩:=hFI.len;rw[e,hpt2]at huf;cases huf
 have gHI:=(gHF.trans gG).trans gI;have rI:=(rF.mono gG).mono gI;have hL3:=NG.tab.mono gI;have hF3:=hF2.mono gI;have fpt2:H pt2=none:=(gHF.trans gG).none (GI.same.none hpt2);generalize upd HI pt2 (.lst (rt2.map V.ref))=HJ at *;have lr2:=zk NI.tab.2;rw[we]at lr2;refine⟨_,rfl,.inl ⟨rfl,_,SqL.of NI.tab.1⟩,_,rfl,pt2,_,.ref af,rfl,rfl,NI.tab.1,(by rw[we];omega),?_⟩;refine⟨_,rfl,_,_,rfl,rfl,?_⟩;refine⟨n - (c+1),by omega,c+1,told.map (La.gjR k c f)++[f],(left.eraseIdx j).map (La.gjR k c f),ls++[c],pl2,pt2,rl2,rt2++[af],_,_,_,rfl,yw gHI fpt2,rI.upd NI.tab.1,hL3.upd npt2 nrl2 NI.tab.1,⟨by rw[zh,wF];rfl,yj (zco (fun x y hy r=>r.upd (fun e=>NI.nt (by rw[← e];exact hy)) NI.tab.1) NI.tab.2) (hF3.upd nafp NI.tab.1)⟩,fpl2,NG.nt,?_,npt2,hc,by rw[we];omega,⟨by rw[wy,we];show told.length+1<=c+1;omega,by rw[wy,we,we,List.length_eraseIdx_of_lt (wq.mp hp).1];show told.length+1 +(left.length - 1)=M.length;omega⟩,?_,?_,turn,rfl⟩
 ·intro h
  rcases wu.mp h with h|h
  ·exact nplt2 h
  ·exact naf2 (wD.mp h)
 ·rw[show(told.map (La.gjR k c f)++[f]).length=told.length+1 by rw[wy,we];rfl];intro r hr x hx
  rcases wu.mp hr with h|h
  ·obtain⟨r',hr',rfl⟩:=wm.mp h;have o:=okt r' hr';exact(ziE hk of' o.2 (by rw[o.1,lf]) (by rw[o.1];exact hc) (sD r' hr') sf x hx).mono (by rw[XG];omega)
  ·rw[wD.mp h]at hx;exact(sf x hx).mono (by rw[XG];omega)
 ·rw[show(told.map (La.gjR k c f)++[f]).length=told.length+1 by rw[wy,we];rfl];intro r hr x hx;obtain⟨r',hr',rfl⟩:=wm.mp hr;have o:=okl r' (oke r' hr');exact(ziE hk of' o.2 (by rw[o.1,lf]) (by rw[o.1];exact hc) (sL r' (oke r' hr')) sf x hx).mono (by rw[XG];omega)
theorem za7{K:PySem.W.Frag}{te:TE}{σb:L2.St}{t:Addr}{ras:List Addr}{M:Tb}{H:Hp}{R:List V->Hp->Prop}(f:List Nb->List Nb)(hT:kaf H M t ras)(hz:M.length<sizeLine)
  (hte:∀(r:List Nb)(a:Addr)(H':Hp)(Q:VK),r∈M->Same H H'->kas H' r a->(∀(p:Addr)(H2:Hp),Same H' H2->NewR H' H2 (f r) p->Q (.ref p) H2)->te (σb.set 0 (some (.ref a))) H' Q)
  (hd:∀(ras2:List Addr)(H':Hp),Grow H H' (M.map f) ras2->R (ras2.map V.ref) H') :
  ∃ W:Nat->Nat->List V->Hp->Prop,(∃ m,W 0 m [] H)/\∀ i m ys H,W i m ys H ->
   ((Itl K t).stop i H/\ys.length<=sizeLine/\R ys H) \/
   ((Itl K t).go i H/\ys.length<sizeLine/\∀ x H',(Itl K t).yld i H x H'->gName 0 x σb H' fun σ2 H2=>tTrue σ2 H2 fun b H3=>if b=true then te σ2 H3 fun y H4=>∃ m',m'<m/\W (i+1) m' (ys++[y]) H4 else ∃ m',m'<m/\W (i+1) m' ys H3):=by
 have hl:=zk hT.2;refine zQ (xs:=ras.map V.ref) (fun i ys H'=>∃ ras2,ys=ras2.map V.ref/\Grow H H' ((M.map f).take i) ras2) ⟨[],rfl,Grow.nil H (Same.refl H)⟩ ?_ ?_ ?_
 ·rintro i ys H' hi ⟨ras2,rfl,G⟩
  refine⟨SqL.of (G.same _ _ hT.1),?_⟩;have:=zk G.rows;rw[wx,we]at this;rw[we];omega
 ·rintro i v ys H' hv hi ⟨ras2,rfl,G⟩
  obtain⟨row,a,hrow,ha,rfl,hR⟩:=(hT.mono G.same).row hv;refine gyes (hte row a H' _ (wk hrow) G.same hR fun p H2 g2 nr=>?_);refine nxt hi ⟨ras2++[p],by rw[wF];rfl,?_⟩;have e:(M.map f)[i]?=some (f row):=by rw[wo,hrow];rfl
  rw[zq e];exact G.snocR g2 nr.row nr.fa
 ·rintro ys H' ⟨ras2,rfl,G⟩
  rw[we,← hl,wr (by rw[we];exact ww _)]at G;exact hd ras2 H' G
theorem zcr{k:Int}{A B:Tb}{b:List Nb}(hb:b∈B):∀(t j:Nat),j<=t->powX k A b j∈La.kry k A B t
 | 0,0,_=>hb
 | 0,j+1,h=>by omega
 | t+1,0,_=>wH _ hb
 | t+1,j+1,h=>wE _ (wm.mpr ⟨powX k A b j,zcr hb t j (by omega),rfl⟩)
theorem zjW{k:Int}{c:Nat}{M N:Tb}:kaa M.length ((kaa c N).map (imgM k M))=kai k c M N:=by
 refine gK (by rw[zj];unfold kai;rw[we]) fun j h1 h2=>?_
 rw[zj]at h1;have e1:=xE (M:=(kaa c N).map (imgM k M)) h1;have e2:(kai k c M N)[j]?=some ((kaa c N).map fun col=>La.ndot k M[j] col):=by unfold kai;rw[wo,wg h1];rfl
 rw[wg (by rw[zj];exact h1)]at e1;rw[wg h2]at e2;rw[Option.some.inj e1,Option.some.inj e2,vF];refine vV fun col _=>?_
 show(imgM k M col).getD j (.z 0)=_;rw[wj];unfold imgM;rw[wo,wg h1];rfl
theorem zgA{k:Int}(hk:kab k){x y:List Nb}(ox:La.OkR k x)(oy:La.OkR k y)(h:x.length=y.length):La.ndot k x y=La.ndot k y x:=by
 obtain⟨F,_,_,⟨φ⟩⟩:=La.ye hk;refine φ.inj (La.xl hk ox oy) (La.xl hk oy ox) ?_;rw[La.xh φ hk ox oy h,La.xh φ hk oy ox h.symm,h,La.zV]
theorem zhn{k:Int}(hk:kab k){n:Nat}{M A:Tb}(oM:La.OkM k n M)(oA:La.OkM k n A)(lA:A.length=n):kai k n M A=M.map (imgM k (kaa n A)):=by
 unfold kai imgM;refine vV fun r hr=>vV fun col hc=>?_
 have oc:=zZ oA col hc;exact zgA hk (oM r hr).2 oc.2 (by rw[(oM r hr).1,oc.1,lA])
def ZY:Sp:=fun vs H Q _=>∃(k:Int)(M N:Tb)(b c a0 b0:Nat)(tM tN:Addr)(rM rN:List Addr),vs=[.int k,.ref tM,.ref tN]/\kab k/\kaf H M tM rM/\kaf H N tN rN/\La.OkM k b M/\La.OkM k c N/\N.length=b/\(∀ r∈M,∀ y∈r,szk k a0 y)/\(∀ r∈N,∀ y∈r,szk k b0 y)/\a0+b0<=5000000/\1<=b/\b<=10/\1<=c/\c<=10/\M.length<=10 /\
 ∀ t rs H',Same H H'->NewT H H' (kai k c M N) t rs->Q (.ref t) H'
theorem zcZ (D:Df K mg "_law_product" QX xU) (jp:Kn P w K mg base "_law_across" 1 dm jd) (Zj:Kn P w K mg base "_law_image" 43 dw JG):Kn P w K mg base "_law_product" 44 QX ZY:=by
 refine D.kn Jj (fun vs H Q E h=>?_) (fun f cdv A' outer s H vs Q E hr h=>?_)
 ·obtain⟨k,M,N,b,c,a0,b0,tM,tN,rM,rN,rfl,_⟩:=h;rfl
 obtain⟨k,M,N,b,c,a0,b0,tM,tN,rM,rN,rfl,hk,hM,hN,oM,oN,lN,sM,sN,ab,b1,b10,c1,c10,r10,q⟩:=h;have szl:=dN
 refine⟨_,(zi (zo (zp jp hr (zc (yR ["_law_prime_here", "_law_one"] [0,1] (zH (zp jp hr (zc (pv 2) ze))) fun _ _ _ _ _ _=>⟨zO,(zp Zj hr (zc (pv 1) (zc (pv 2) (zc (pv 0) ze))))⟩) ze)))),?_⟩;have nN:N≠[]:=fun e=>by rw[e]at lN;simp at lN;omega
 refine⟨_,rfl,N,c,tN,rN,rfl,hN,nN,(fun r hr=>(oN r hr).1),by omega,by omega,fun t1 r1 H1 g1 n1=>?_⟩;have oT:=zZ oN;have sT:∀ r∈kaa c N,∀ y∈r,szk k b0 y:=fun r hr y hy=>by
  unfold kaa at hr;obtain⟨j,hj,rfl⟩:=wm.mp hr;obtain⟨x,hx,rfl⟩:=wm.mp hy;have hl:=(oN x hx).1;rw[vp]at hj;rw[wj,wg (by omega)];exact sN x hx _ (wp _)
 refine⟨t1,rfl,⟨_,SqL.of n1.tab.1⟩,?_⟩;refine za7 (imgM k M) n1.tab (by rw[zj];omega) ?_ ?_
 ·intro r a H4 Q4 hr4 g4 hR4 hq4;have orr:=oT r hr4;exact⟨_,rfl,_,rfl,_,rfl,k,M,r,b,a0,b0,tM,a,rM,rfl,hk,(hM.mono g1).mono g4,hR4,oM,orr.1.trans lN,orr.2,sM,sT r hr4,wI ab (by decide),b10,r10,fun p H5 g5 nr _=>hq4 p H5 g5 nr⟩
 intro rt2 H4 G4 p4 hp4;have N4:=G4.done hp4;have g4:=G4.same.trans (zg hp4 (.lst (rt2.map V.ref)));generalize upd H4 p4 (.lst (rt2.map V.ref))=H5 at *;have len:∀ r∈(kaa c N).map (imgM k M),r.length=M.length:=fun r hr=>by
  obtain⟨x,_,rfl⟩:=wm.mp hr;unfold imgM;exact we _
 refine⟨(kaa c N).map (imgM k M),M.length,p4,rt2,rfl,N4.tab,(fun e=>by have:=congrArg Gi e;rw[we,zj]at this;simp at this;omega),len,by omega,by rw[we,zj];omega,fun t rs H6 g6 n6=>?_⟩;rw[zjW]at n6;have g:=g1.trans g4;exact q t rs H6 (g.trans g6) ⟨n6.tab,g.none n6.ft,fun r hr=>g.none (n6.fr r hr),n6.nd,n6.nt⟩
def QQ:Sp:=fun vs H Q _=>∃(k:Int)(A B C:Tb)(n s zA z:Nat)(nI:Int)(pm ta tb tc:Addr)(ra rb rc:List Addr),vs=[.int k,.ref pm,.int nI]/\nI =(n:Int)/\kab k/\kav H A B C pm ta tb tc ra rb rc/\(La.OkM k n A/\A.length=n)/\(La.OkM k n C/\C.length=s)/\1<=n/\n<=10/\s<=10/\(∀ r∈A,∀ x∈r,szk k zA x)/\(∀ b∈C,∀ t,t<=n->∀ x∈powX k (kaa n A) b t,szk k z x)/\z+zA<=5000000 /\
 ∀ S ps rs H',Same H H'->kaf H' S ps rs->La.OkM k n S->(∀ r∈S,∀ x∈r,szk k z x)->S.length<=100->kaz k S (La.kry k (kaa n A) C n)->Q (.ref ps) H'
theorem zeJ (D:Df K mg "_law_sights" dG jl) (xV:Kn P w K mg base "_law_product" 44 QX ZY) (xq:mg "list" = none) (zJ:mg "range" = none):Kn P w K mg base "_law_sights" 45 dG QQ:=by
 refine D.kn sV (fun vs H Q E h=>?_) (fun f cdv A' outer s' H vs Q E hr h=>?_)
 ·obtain⟨k,A,B,C,n,s,zA,z,nI,pm,ta,tb,tc,ra,rb,rc,rfl,_⟩:=h;rfl
 obtain⟨k,A,B,C,n,s,zA,z,nI,pm,ta,tb,tc,ra,rb,rc,rfl,rfl,hk,hM,⟨oA,lA⟩,⟨oC,lC⟩,n1,n10,s10,sA,zz,za,q⟩:=h;have szl:=dN
 have oAt:La.OkM k n (kaa n A):=by have:=zZ oA;rw[lA]at this;exact this
 have lAt:=zj n A;refine⟨_,(zd (zm (i:=3) sV.nd rfl (.inl rfl) (yC ze)) (zd (Xn 4 sV.nd [] [] (zH (zE zy (pv 1) zf)) fun _ _ _ _ _ _=>⟨zO,(xH Zp rfl xq ZO (zc (pv 0) ze))⟩) (zd (yu PassesOwn.never rfl (zY rfl zJ (zc (pv 2) ze)) (zI (i:=5) sV.nd rfl (.inl rfl)) (zd (zm (i:=3) sV.nd rfl (.inl rfl) (zt ZN (pv 3) (pv 4))) (zi (zm (i:=4) sV.nd rfl (.inl rfl) (zp xV hr (zc (pv 0) (zc (pv 4) (zc (zE zy (pv 1) zf) ze)))))))) (zi (zo (pv 3)))))),?_⟩;refine⟨(by show 0<=sizeLine;decide),fun p0 hp0=>?_⟩;have g0:=zg hp0 (.lst []);have h0:upd H p0 (.lst []) p0=some (.lst []):=zh;generalize upd H p0 (.lst [])=H0 at *;have hM0:=hM.mono g0;refine⟨_,rfl,pm,_,_,_,rfl,rfl,SqT.of hM0.tup,rfl,tc,rfl,⟨_,SqL.of hM0.c.1⟩,?_⟩;refine Jz hM0.c (by omega) (fun a us H2 Q2 ha hq=>⟨_,rfl,a,us,rfl,.inl (SqL.of ha),hq⟩) ?_;intro r1 H1' G1 t1 ht1;have n1':=G1.done ht1;have g1:=G1.same.trans (zg ht1 (.lst (r1.map V.ref)));generalize upd H1' t1 (.lst (r1.map V.ref))=H1 at *;refine⟨_,rfl,n,rfl,by omega,by omega,?_⟩;have en:((n:Int)).toNat=n:=by omega
 rw[en];refine yF (lo:=0) (n:=n) (fun i σ H'=>∃(S:Tb)(ps pt:Addr)(rs rt:List Addr)(o7:Option V),σ=[some (.int k),some (.ref pm),some (.int (n:Int)),some (.ref ps),some (.ref pt),o7]/\Same H H'/\kaf H' S ps rs/\kaf H' ((C).map fun b=>powX k (kaa n A) b i) pt rt/\(∀ r,r∈S↔∃ b∈C,∃ j,j<i/\r=powX k (kaa n A) b j)/\S.length=i*s) ⟨[],p0,t1,[],r1,none,rfl,g0.trans g1,⟨g1 _ _ h0,.nil⟩,(by rw[show((C).map fun b=>powX k (kaa n A) b 0)=C from waC _];exact n1'.tab),(fun r=>⟨(fun h=>nomatch h),fun⟨_,_,j,hj,_⟩=>absurd hj (vI _)⟩),(by rw[Gg];rfl)⟩ ?_ ?_
 ·rintro i σ H2 hi ⟨S,ps,pt,rs,rt,o7,rfl,g,hS,hT,eS,lS⟩
  have lrs:=zk hS.2;have lrt:=zk hT.2;rw[we,lC]at lrt;have ih:i*s<=10*10:=vf (by omega) s10;refine⟨_,rfl,_,rfl,ps,pt,_,_,rfl,rfl,hS.1,hT.1,(by rw[we,we];omega),fun p2 hp2=>?_⟩;have g2:=zg hp2 (.lst (rs.map V.ref++rt.map V.ref));have hS2:kaf (upd H2 p2 (.lst (rs.map V.ref++rt.map V.ref))) (S ++(C).map fun b=>powX k (kaa n A) b i) p2 (rs++rt):=⟨by rw[zh,wF],xZ (fun _ _ r=>r.mono g2) (qU hS.2 hT.2)⟩;have hT2:=hT.mono g2;have gg:=g.trans g2;generalize upd H2 p2 (.lst (rs.map V.ref++rt.map V.ref))=H3 at *;have hM3:=hM.mono gg;have oT:La.OkM k n (C.map fun b=>powX k (kaa n A) b i):=fun r hr=>by
   obtain⟨c,hc,rfl⟩:=wm.mp hr;have op:=yQ hk oAt lAt (oC c hc).2 (oC c hc).1 i;exact⟨op.2,op.1⟩
  have sT:∀ r∈C.map fun b=>powX k (kaa n A) b i,∀ x∈r,szk k z x:=fun r hr=>by
   obtain⟨c,hc,rfl⟩:=wm.mp hr;exact zz c hc i (by omega)
  refine⟨_,rfl,_,rfl,_,rfl,pm,_,_,_,rfl,rfl,SqT.of hM3.tup,rfl,k,C.map (fun b=>powX k (kaa n A) b i),A,n,n,z,zA,pt,ta,rt,ra,rfl,hk,hT2,hM3.a,oT,oA,lA,sT,sA,za,n1,n10,n1,n10,by rw[we];omega,fun p4 rt2 H4 g4 N4=>?_⟩;rw[zhn hk oT oA lA]at N4;have em:((C).map fun b=>powX k (kaa n A) b i).map (imgM k (kaa n A)) =(C).map fun b=>powX k (kaa n A) b (i+1):=by rw[vF];rfl
  rw[em]at N4;refine⟨S ++(C).map fun b=>powX k (kaa n A) b i,p2,p4,rs++rt,rt2,_,rfl,gg.trans g4,hS2.mono g4,N4.tab,fun r=>⟨fun hr=>?_,fun⟨b,hb,j,hj,e⟩=>?_⟩,by rw[wy,we,lC,lS,vZ,vT]⟩
  ·rcases wu.mp hr with h'|h'
   ·obtain⟨b,hb,j,hj,e⟩:=(eS r).mp h';exact⟨b,hb,j,by omega,e⟩
   ·obtain⟨b,hb,rfl⟩:=wm.mp h';exact⟨b,hb,i,by omega,rfl⟩
  ·rcases vU (ug hj)with h'|h'
   ·exact wH _ ((eS r).mpr ⟨b,hb,j,h',e⟩)
   ·rw[e,h'];exact wE _ (wm.mpr ⟨b,hb,rfl⟩)
 ·rintro σ H2 ⟨S,ps,pt,rs,rt,o7,rfl,g,hS,hT,eS,lS⟩
  have ih:n*s<=10*10:=vf n10 s10;have oS:La.OkM k n S:=fun r hr=>by
   obtain⟨c,hc,j,hj,rfl⟩:=(eS r).mp hr;have op:=yQ hk oAt lAt (oC c hc).2 (oC c hc).1 j;exact⟨op.2,op.1⟩
  have sS:∀ r∈S,∀ x∈r,szk k z x:=fun r hr=>by
   obtain⟨c,hc,j,hj,rfl⟩:=(eS r).mp hr;exact zz c hc j (by omega)
  refine⟨_,rfl,q S ps rs H2 g hS oS sS (by omega) fun F _ φ v=>?_⟩;have e1:La.Rm φ S v↔La.Rm φ (La.kry k (kaa n A) C (n - 1)) v:=by
   constructor
   ·refine fun hv=>hv.mono fun u ⟨r,hr,e⟩=>⟨r,?_,e⟩
    obtain⟨b,hb,j,hj,rfl⟩:=(eS r).mp hr;exact zcr hb (n - 1) j (by omega)
   ·refine fun hv=>hv.mono fun u ⟨r,hr,e⟩=>⟨r,?_,e⟩
    obtain⟨b,hb,j,hj,e'⟩:=qO (n - 1) r hr;exact(eS r).mpr ⟨b,hb,j,by omega,e'⟩
  rw[e1]
  constructor
  ·intro hv;have:=La.qx hk oAt lAt oC (n - 1) v hv;rw[show n - 1+1=n by omega]at this;exact this
  ·exact La.qH hk oAt lAt oC n1 v
def JT:Sp:=fun vs H Q _=>∃(k:Int)(A B C:Tb)(n h zA z:Nat)(pm ta tb tc:Addr)(ra rb rc:List Addr),vs=[.int k,.ref pm]/\KindS k/\kav H A B C pm ta tb tc ra rb rc/\(La.OkM k n A/\A.length=n)/\(La.OkM k h B/\B.length=n)/\1<=n/\n<=10/\h<=10/\(∀ r∈A,∀ x∈r,szk k zA x)/\(∀ b∈kaa h B,∀ t,t<=n->∀ x∈powX k A b t,szk k z x)/\zA+z<=5000000/\(k=0->bdR z n<=30000000) /\
 ∀ R ls t rs H',Same H H'->kaf H' R t rs->IsRa k n R ls->kaz k R (La.kry k A (kaa h B) n)->Q (.ref t) H'
theorem zcj (D:Df K mg "_law_steered" dH xP) (jp:Kn P w K mg base "_law_across" 1 dm jd) (Zj:Kn P w K mg base "_law_image" 43 dw JG) (yM:Kn P w K mg base "_law_reduced" 44 dF qK) (zJ:mg "range" = none) (m_len:mg "len" = none):Kn P w K mg base "_law_steered" 45 dH JT:=by
 refine D.kn sH (fun vs H Q E h=>?_) (fun f cdv A' outer s' H vs Q E hr h=>?_)
 ·obtain⟨k,A,B,C,n,h,zA,z,pm,ta,tb,tc,ra,rb,rc,rfl,_⟩:=h;rfl
 obtain⟨k,A,B,C,n,h,zA,z,pm,ta,tb,tc,ra,rb,rc,rfl,hs,hM,⟨oA,lA⟩,⟨oB',lB⟩,n1,n10,h10,sA,zz,az,bz,q⟩:=h;have hk:=hs.ok;have szl:=dN
 have la:=zk hM.a.2;rw[lA]at la;have oBt:La.OkM k n (kaa h B):=by have:=zZ oB';rw[lB]at this;exact this
 refine⟨_,(zd (qk (pv 1) (jZ 3 rfl (yd (zI (i:=2) sH.nd rfl (.inr rfl)) (yd (zI (i:=3) sH.nd rfl (.inl rfl)) (yd (zI (i:=4) sH.nd rfl (.inl rfl)) je))))) (zd (zm (i:=5) sH.nd rfl (.inl rfl) (yC ze)) (zd (zm (i:=6) sH.nd rfl (.inl rfl) (zp jp hr (zc (pv 3) ze))) (zd (yu PassesOwn.never rfl (zY rfl zJ (zc (zD zL rfl m_len yi (zc (pv 2) ze)) ze)) (zI (i:=7) sH.nd rfl (.inl rfl)) (zd (zm (i:=5) sH.nd rfl (.inl rfl) (zt ZN (pv 5) (pv 6))) (zi (Xn 6 sH.nd ["_law_prime_here", "_law_table"] [0,2] (zH (pv 6)) fun _ _ _ _ _ _=>⟨zO,(zp Zj hr (zc (pv 1) (zc (pv 2) (zc (pv 0) ze))))⟩)))) (zi (zo (zp yM hr (zc (pv 0) (zc (pv 5) ze))))))))),?_⟩;refine⟨_,rfl,pm,_,rfl,SqT.of hM.tup,rfl,_,_,rfl,_,_,rfl,_,_,rfl,rfl,?_⟩;refine⟨(by show 0<=sizeLine;decide),fun p0 hp0=>?_⟩;have g0:=zg hp0 (.lst []);have h0:upd H p0 (.lst []) p0=some (.lst []):=zh;generalize upd H p0 (.lst [])=H0 at *;have hM0:=hM.mono g0;refine⟨_,rfl,B,h,tb,rb,rfl,hM0.b,(fun e=>by rw[e]at lB;simp at lB;omega),(fun r hr=>(oB' r hr).1),by omega,by omega,fun t1 r1 H1 g1 n1'=>?_⟩;have hM1:=hM0.mono g1;refine⟨_,rfl,ta,_,rfl,.inl (SqL.of hM1.a.1),_,rfl,(by rw[we,← la];omega),(by rw[we,← la];omega),?_⟩;rw[we,← la];have en:((n:Int)).toNat=n:=by omega
 rw[en];have lbt:=zj h B;refine yF (lo:=0) (n:=n) (fun i σ H'=>∃(S:Tb)(ps pt:Addr)(rs rt:List Addr)(o7:Option V),σ=[some (.int k),some (.ref pm),some (.ref ta),some (.ref tb),some (.ref tc),some (.ref ps),some (.ref pt),o7]/\Same H H'/\kaf H' S ps rs/\kaf H' ((kaa h B).map fun b=>powX k A b i) pt rt/\(∀ r,r∈S↔∃ b∈kaa h B,∃ j,j<i/\r=powX k A b j)/\S.length=i*h) ⟨[],p0,t1,[],r1,none,rfl,g0.trans g1,⟨g1 _ _ h0,.nil⟩,(by rw[show((kaa h B).map fun b=>powX k A b 0)=kaa h B from waC _];exact n1'.tab),(fun r=>⟨(fun h=>nomatch h),fun⟨_,_,j,hj,_⟩=>absurd hj (vI _)⟩),(by rw[Gg];rfl)⟩ ?_ ?_
 ·rintro i σ H2 hi ⟨S,ps,pt,rs,rt,o7,rfl,g,hS,hT,eS,lS⟩
  have lrs:=zk hS.2;have lrt:=zk hT.2;rw[we,lbt]at lrt;have ih:i*h<=10*10:=vf (by omega) h10;refine⟨_,rfl,_,rfl,ps,pt,_,_,rfl,rfl,hS.1,hT.1,(by rw[we,we];omega),fun p2 hp2=>?_⟩;have g2:=zg hp2 (.lst (rs.map V.ref++rt.map V.ref));have hS2:kaf (upd H2 p2 (.lst (rs.map V.ref++rt.map V.ref))) (S ++(kaa h B).map fun b=>powX k A b i) p2 (rs++rt):=⟨by rw[zh,wF],xZ (fun _ _ r=>r.mono g2) (qU hS.2 hT.2)⟩;have hT2:=hT.mono g2;have gg:=g.trans g2;generalize upd H2 p2 (.lst (rs.map V.ref++rt.map V.ref))=H3 at *;have hM3:=hM.mono gg;have oT:La.OkM k n ((kaa h B).map fun b=>powX k A b i):=fun r hr=>by
   obtain⟨c,hc,rfl⟩:=wm.mp hr;have op:=yQ hk oA lA (oBt c hc).2 (oBt c hc).1 i;exact⟨op.2,op.1⟩
  have sT:∀ r∈(kaa h B).map fun b=>powX k A b i,∀ x∈r,szk k z x:=fun r hr=>by
   obtain⟨c,hc,rfl⟩:=wm.mp hr;exact zz c hc i (by omega)
  refine⟨_,rfl,pt,rfl,⟨_,SqL.of hT2.1⟩,?_⟩;refine za7 (imgM k A) hT2 (by rw[we,lbt];omega) ?_ ?_
  ·intro r a H4 Q4 hr4 g4 hR4 hq4;have orr:=oT r hr4;exact⟨_,rfl,_,rfl,_,rfl,k,A,r,n,zA,z,ta,a,ra,rfl,hk,hM3.a.mono g4,hR4,oA,orr.1,orr.2,sA,sT r hr4,az,n10,by omega,fun p H5 g5 nr _=>hq4 p H5 g5 nr⟩
  intro rt2 H4 G4 p4 hp4;have N4:=G4.done hp4;have g4:=G4.same.trans (zg hp4 (.lst (rt2.map V.ref)));have em:((kaa h B).map fun b=>powX k A b i).map (imgM k A) =(kaa h B).map fun b=>powX k A b (i+1):=by rw[vF];rfl
  rw[em]at N4;refine⟨S ++(kaa h B).map fun b=>powX k A b i,p2,p4,rs++rt,rt2,_,rfl,gg.trans g4,hS2.mono g4,N4.tab,fun r=>⟨fun hr=>?_,fun⟨b,hb,j,hj,e⟩=>?_⟩,by rw[wy,we,lbt,lS,vZ,vT]⟩
  ·rcases wu.mp hr with h'|h'
   ·obtain⟨b,hb,j,hj,e⟩:=(eS r).mp h';exact⟨b,hb,j,by omega,e⟩
   ·obtain⟨b,hb,rfl⟩:=wm.mp h';exact⟨b,hb,i,by omega,rfl⟩
  ·rcases vU (ug hj)with h'|h'
   ·exact wH _ ((eS r).mpr ⟨b,hb,j,h',e⟩)
   ·rw[e,h'];exact wE _ (wm.mpr ⟨b,hb,rfl⟩)
 ·rintro σ H2 ⟨S,ps,pt,rs,rt,o7,rfl,g,hS,hT,eS,lS⟩
  have ih:n*h<=10*10:=vf n10 h10;have oS:La.OkM k n S:=fun r hr=>by
   obtain⟨c,hc,j,hj,rfl⟩:=(eS r).mp hr;have op:=yQ hk oA lA (oBt c hc).2 (oBt c hc).1 j;exact⟨op.2,op.1⟩
  have sS:∀ r∈S,∀ x∈r,szk k z x:=fun r hr=>by
   obtain⟨c,hc,j,hj,rfl⟩:=(eS r).mp hr;exact zz c hc j (by omega)
  refine⟨_,rfl,_,rfl,k,n,z,S,ps,rs,rfl,hs,hS,oS,sS,(by omega),(fun e=>wI (qN _ (vJ _ _)) (bz e)),by omega,fun R ls t' ras' H' g' hR iR sR _=>?_⟩;refine q R ls t' ras' H' (g.trans g') hR iR fun F _ φ v=>?_
  rw[sR F φ v];have e1:La.Rm φ S v↔La.Rm φ (La.kry k A (kaa h B) (n - 1)) v:=by
   constructor
   ·refine fun hv=>hv.mono fun u ⟨r,hr,e⟩=>⟨r,?_,e⟩
    obtain⟨b,hb,j,hj,rfl⟩:=(eS r).mp hr;exact zcr hb (n - 1) j (by omega)
   ·refine fun hv=>hv.mono fun u ⟨r,hr,e⟩=>⟨r,?_,e⟩
    obtain⟨b,hb,j,hj,e'⟩:=qO (n - 1) r hr;exact(eS r).mpr ⟨b,hb,j,by omega,e'⟩
  rw[e1]
  constructor
  ·intro hv;have:=La.qx hk oA lA oBt (n - 1) v hv;rw[show n - 1+1=n by omega]at this;exact this
  ·exact La.qH hk oA lA oBt n1 v
theorem zhY{n l:Nat}{p:Nat->Bool}(hl:l<n)(hp:p l=true)(hn:∀ j,j<l->p j=false):((vd n).filter p)[0]?=some l:=by
 rw[← List.head?_eq_getElem?,List.head?_filter,List.find?_range_eq_some];exact⟨hp,vp.mpr hl,fun j hj=>by rw[hn j hj];rfl⟩
def QB:Sp:=fun vs H Q _=>∃(k:Int)(n z:Nat)(nI:Int)(M:Tb)(t:Addr)(ras:List Addr),vs=[.int k,.ref t,.int nI]/\nI =(n:Int)/\KindS k/\kaf H M t ras/\La.OkM k n M/\(∀ r∈M,∀ x∈r,szk k z x)/\(k=0->bdR z n<=30000000)/\1<=n/\n<=10/\M.length<=1000/\(∀(F:Type) [Lean.Grind.Field F] (φ:La.Kf k F) (i:Nat),i<n->La.Rm φ M (La.kah i 1)) /\
 ∀(t':Addr)(H':Hp),Same H H'->H' t'=some (.lst [])->Q (.ref t') H'
theorem zec (D:Df K mg "_law_kernel" dI ji) (yM:Kn P w K mg base "_law_reduced" 44 dF qK) (yk:Kn P w K mg base "_law_make" 1 QS qF) (xC:Kn P w K mg base "_law_minus" 43 QX Yi) (zJ:mg "range" = none) (m_len:mg "len" = none) (m_int:mg "int" = none):Kn P w K mg base "_law_kernel" 45 dI QB:=by
 refine D.kn sO (fun vs H Q E h=>?_) (fun f' cdv A' outer s H vs Q E hr h=>?_)
 ·obtain⟨k,n,z,nI,M,t,ras,rfl,_⟩:=h;rfl
 obtain⟨k,n,z,nI,M,t,ras,rfl,rfl,hs,hT,oM,sM,bz,n1,n10,lM,full,q⟩:=h;have hk:=hs.ok;have szl:=dN
 refine⟨_,(zd (zm (i:=3) sO.nd rfl (.inl rfl) (zp yM hr (zc (pv 0) (zc (pv 1) ze)))) (zd (zm (i:=4) sO.nd rfl (.inl rfl) (yC ze)) (zd (yu PassesOwn.never rfl (zH (pv 3)) (zI (i:=5) sO.nd rfl (.inr rfl)) (zi (yU (bm0 (fun _ h=>ZL PySem.F.plainAttrs_list PySem.F.slot_list_append PySem.F.type_list_append yE h (zc (zE zw (yR ["_law_row", "_law_prime_here"] [5,0] (zY rfl zJ (zc (pv 2) ze)) fun _ _ _ _ _ _=>⟨(Xe (zG (Qx hr) (zE zw (pv 1) (pv 0)) (zp yk hr (zc (pv 2) (zc zf ze))) (kae _))),(pv 0)⟩) zf) ze)) (pv 4))))) (zd (zm (i:=6) sO.nd rfl (.inl rfl) (yC ze)) (zd (yu PassesOwn.never rfl (zY rfl zJ (zc (pv 2) ze)) (zI (i:=7) sO.nd rfl (.inr rfl)) (zi (yn (zG zba (pv 7) (pv 4) (by with_unfolding_all rfl)) (zd (Xn 8 sO.nd ["_law_prime_here", "_law_j"] [0,7] (zY rfl zJ (zc (pv 2) ze)) fun _ _ _ _ _ _=>⟨zO,(zp yk hr (zc (pv 1) (zc (xH Jc rfl m_int zdD (zc (xJ xp (pv 0) (pv 2) (kae _)) ze)) ze)))⟩) (zd (yu PassesOwn.never rfl (zY rfl zJ (zc (zD zL rfl m_len yi (zc (pv 3) ze)) ze)) (zI (i:=9) sO.nd rfl (.inl rfl)) (zi (qk (zp xC hr (zc (pv 0) (zc (zp yk hr (zc (pv 0) (zc zf ze))) (zc (zE zw (zE zw (pv 3) (pv 9)) (pv 7)) ze)))) (Xy (pv 8) (zE zw (pv 4) (pv 9)) jO)))) (zi (yU (bm0 (fun _ h=>ZL PySem.F.plainAttrs_list PySem.F.slot_list_append PySem.F.type_list_append yE h (zc (pv 8) ze)) (pv 6)))))) zK))) (zi (zo (zp yM hr (zc (pv 0) (zc (pv 6) ze)))))))))),?_⟩;refine⟨_,rfl,_,rfl,k,n,z,M,t,ras,rfl,hs,hT,oM,sM,(by omega),(fun e=>wI (qN _ (vJ _ _)) (bz e)),lM,fun R ls top rs H1 g1 hR isR eR sR=>?_⟩;have all:∀ j,j<n->j∈ls:=fun j hj=>by
  obtain⟨F,_,_,⟨φ⟩⟩:=La.ye hk;refine((isR F φ).lead_iff j).mpr ⟨La.kah j 1,(eR F φ _).mpr (full F φ j hj),fun i hi=>by unfold La.kah;rw[if_neg (by omega)],by unfold La.kah;rw[if_pos rfl];exact Lean.Grind.Field.zero_ne_one.symm⟩
 obtain⟨oR,lls,inc,llt⟩:=yl hk isR;have nd:ls.Nodup:=inc.imp fun h=>wY h
 obtain⟨F0,i0,d0,⟨φ0⟩⟩:=La.ye hk;have lrs:=zk hR.2;have lRn:=yN hk isR;have z0:=La.ya hk 0;refine⟨(by show 0<=sizeLine;decide),fun pL hpL=>?_⟩;have g2:=zg hpL (.lst []);have hL2:upd H1 pL (.lst []) pL=some (.lst (natV (ls.take 0))):=zh;have T2:=hR.mono g2;have nLt:top≠pL:=fun e=>by rw[← e,hR.1]at hpL;cases hpL
 have nLr:pL∉rs:=jt hR hpL;have fL:H pL=none:=g1.none hpL;have gH2:=g1.trans g2;generalize upd H1 pL (.lst [])=H2 at *;refine⟨_,rfl,top,rfl,⟨_,SqL.of T2.1⟩,?_⟩;refine yP (xs:=rs.map V.ref) (fun i σ H'=>∃ o5,σ=[some (.int k),some (.ref t),some (.int (n:Int)),some (.ref top),some (.ref pL),o5,none,none,none,none]/\Same H H'/\kaf H' R top rs/\H' pL=some (.lst (natV (ls.take i)))) ⟨none,rfl,gH2,T2,hL2⟩ ?_ ?_ ?_
 ·rintro i σ H' _ ⟨o5,rfl,g,T,_⟩
  exact SqL.of T.1
 ·rintro i v σ H' hv ⟨o5,rfl,g,T,hL⟩
  obtain⟨row,a,hrow,ha,rfl,hRow⟩:=T.row hv;have iR:i<R.length:=(wq.mp hrow).1;obtain⟨l,hl⟩ : ∃ l,ls[i]?=some l:=⟨ls[i]'(by omega),wg (by omega)⟩;obtain⟨ln,lz,l1⟩:=zcs hk (isR F0 φ0) hrow hl;have orow:=oR row (wk hrow);obtain⟨us,hu,pu,lu⟩:=hRow.len;refine⟨_,rfl,.inl ⟨rfl,_,SqL.of hL⟩,_,rfl,n,rfl,(by omega),(by omega),?_⟩;rw[wW];refine yG (lo:=0) (n:=n) (fun j ys H6=>Same H' H6/\ys=natV (((vd n).take j).filter fun j=>!decide (row.getD j (nnum k 0)=nnum k 0))) ⟨Same.refl _,rfl⟩ ?_ ?_ ?_
  ·rintro j ys H6 hj ⟨g6,rfl⟩
   unfold natV;have e3:=vW (fun j=>!decide (row.getD j (nnum k 0)=nnum k 0)) ((vd n).take j);rw[wx,vL]at e3;rw[we];omega
  ·rintro j ys H6 hj ⟨g6,rfl⟩
   have hjr:j<row.length:=by rw[orow.1];exact hj
   have ec:row[j]?=some row[j]:=wg hjr;obtain⟨u,eu,ru⟩:=yH (jC g6 pu) ec;refine⟨_,rfl,_,rfl,a,_,_,_,rfl,rfl,SqL.of (g6 _ _ hu),(by rw[vA];exact zP eu),_,rfl,k,0,rfl,hk,fun v0 H7 g7 r0=>?_⟩;refine⟨toD row[j],toD (nnum k 0),ru.mono g7,r0,jz _,jz _,wI (vJ _ _) (wI (qi _) (by decide)),_,rfl,?_⟩;rw[ZX];have ei:(vd n)[j]?=some j:=vG hj
   by_cases hz:row[j]=nnum k 0
   ·rw[decide_eq_true hz];refine iteF (nxt hj ⟨g6.trans g7,?_⟩);rw[jX _ ei,if_neg (by rw[yO ec,decide_eq_true hz];decide),vH]
   ·rw[decide_eq_false hz];refine iteT ⟨_,rfl,nxt hj ⟨g6.trans g7,?_⟩⟩;rw[jX _ ei,if_pos (by rw[yO ec,decide_eq_false hz];rfl),vA];unfold natV;rw[wF];rfl
  ·rintro ys H6 ⟨g6,rfl⟩ pc hpc
   rw[wr (by rw[vL];exact ww _)];have fe:(natV ((vd n).filter fun j=>!decide (row.getD j (nnum k 0)=nnum k 0)))[0]?=some (.int (l:Int)):=by
    unfold natV;rw[wo,zhY ln (by rw[yO l1,decide_eq_false (num01 hk)];rfl) fun j hj=>by rw[yO (lz j hj),decide_eq_true rfl];rfl];rfl
   have g7:=zg hpc (.lst (natV ((vd n).filter fun j=>!decide (row.getD j (nnum k 0)=nnum k 0))));have g67:=g6.trans g7;have hL7:=g67 _ _ hL;have T7:=T.mono g67;refine⟨pc,_,_,.int (l:Int),rfl,rfl,SqL.of zh,zP (j:=0) fe,?_⟩;generalize upd H6 pc (.lst (natV ((vd n).filter fun j=>!decide (row.getD j (nnum k 0)=nnum k 0))))=H7 at *;have lt:=wx (i:=i) (l:=ls);refine⟨pL,_,_,rfl,rfl,hL7,(by unfold natV;rw[we];omega),?_⟩;refine⟨_,rfl,yw (g.trans g67) fL,T7.upd nLt nLr hL7,?_⟩;rw[zq hl,zh];unfold natV;rw[wF];rfl
 rintro σ H3 ⟨o5,rfl,g3,T3,hL3⟩
 rw[we,← lrs,wr (by omega)]at hL3;refine⟨(by show 0<=sizeLine;decide),fun pT hpT=>?_⟩;have g4:=zg hpT (.lst []);have hT4:upd H3 pT (.lst []) pT=some (.lst []):=zh;have T4:=T3.mono g4;have hL4:=g4 _ _ hL3;have fT:H pT=none:=g3.none hpT;have gH4:=g3.trans g4;clear hT T2 hL2 gH2;generalize upd H3 pT (.lst [])=H4 at *;refine⟨_,rfl,n,rfl,(by omega),(by omega),?_⟩;rw[wW];refine yF (lo:=0) (n:=n) (fun i σ H'=>∃(o7 o8 o9:Option V),σ=[some (.int k),some (.ref t),some (.int (n:Int)),some (.ref top),some (.ref pL),o5,some (.ref pT),o7,o8,o9]/\H'=H4) ⟨none,none,none,rfl,rfl⟩ ?_ ?_
 ·rintro i σ H5 hi ⟨o7,o8,o9,rfl,rfl⟩
  refine⟨_,rfl,_,rfl,pL,_,rfl,.inl (SqL.of hL4),rfl,zcb ls,_,rfl,?_⟩;have ein:(if true=true then !inV (V.int (0 +(i:Int))) (natV ls)else inV (V.int (0 +(i:Int))) (natV ls))=!decide (i∈ls):=by rw[if_pos rfl,vA,zfU]
  rw[ein,decide_eq_true (all i hi)];refine iteF ?_;exact⟨_,_,_,rfl,rfl⟩
 ·rintro σ H5 ⟨o7,o8,o9,rfl,rfl⟩
  refine⟨_,rfl,_,rfl,k,n,1,[],pT,[],rfl,hs,⟨hT4,.nil⟩,(fun _ h=>nomatch h),(fun _ h=>nomatch h),(by omega),(fun e=>by show bdR 1 (min n 0)<=_;rw[Nat.min_zero];decide),by show 0<=1000;decide,fun U lu t' rs' H6 g6 hU isU eU sU=>?_⟩;have e:U=[]:=zap hk isU zdE eU;subst e;have lr:=zk hU.2;have e2:rs'=[]:=vx lr.symm;have h6:=hU.1;rw[e2]at h6;exact q t' H6 (gH4.trans g6) h6
def zbW:Sp:=fun vs H Q _=>∃(k:Int)(A B C:Tb)(n h s many zA zB zC:Nat)(mI:Int)(pm ta tb tc:Addr)(ra rb rc:List Addr),vs=[.int k,.ref pm,.int mI]/\mI =(many:Int)/\kab k/\kav H A B C pm ta tb tc ra rb rc/\(La.OkM k n A/\A.length=n)/\(La.OkM k h B/\B.length=n)/\(La.OkM k n C/\C.length=s)/\1<=n/\n<=10/\1<=h/\h<=10/\s<=10/\many<=20/\(∀ r∈A,∀ x∈r,szk k zA x)/\(∀ r∈C,∀ x∈r,szk k zC x)/\(∀ t,t<=many->∀ r∈blkT k h A B t,∀ x∈r,szk k zB x)/\zA+zB<=5000000/\zC+zB<=5000000 /\
 ∀(ts:List Addr)(p:Addr)(H':Hp),Same H H'->H' p=some (.lst (ts.map V.ref))->ts.length=many->(∀ t,t<many->∃ a rs,ts[t]?=some a/\kaf H' (kai k h C (blkT k h A B t)) a rs)->Q (.ref p) H'
theorem JV{k:Int}(hk:kab k){n h:Nat}{A B:Tb}(oA:La.OkM k n A)(lA:A.length=n)(oB:La.OkM k h B)(lB:B.length=n):∀ t,La.OkM k h (blkT k h A B t)/\(blkT k h A B t).length=n
 | 0=>⟨oB,lB⟩
 | t+1=>by
  have ih:=JV hk oA lA oB lB t;have o:=La.jo hk (c:=h) oA ih.1;exact⟨o.2,o.1.trans lA⟩
theorem zgv (D:Df K mg "_law_marks" dG jJ) (xV:Kn P w K mg base "_law_product" 44 QX ZY) (zJ:mg "range" = none):Kn P w K mg base "_law_marks" 45 dG zbW:=by
 refine D.kn Sf (fun vs H Q E h=>?_) (fun f cdv A' outer s' H vs Q E hr h=>?_)
 ·obtain⟨k,A,B,C,n,h,s,many,zA,zB,zC,mI,pm,ta,tb,tc,ra,rb,rc,rfl,_⟩:=h;rfl
 obtain⟨k,A,B,C,n,h,s,many,zA,zB,zC,mI,pm,ta,tb,tc,ra,rb,rc,rfl,rfl,hk,hM,⟨oA,lA⟩,⟨oB,lB⟩,⟨oC,lC⟩,n1,n10,h1,h10,s10,m20,sA,sC,sB,ab,cb,q⟩:=h;have szl:=dN
 have ok:=JV hk oA lA oB lB;refine⟨_,(zd (zm (i:=3) Sf.nd rfl (.inl rfl) (yC ze)) (zd (zm (i:=4) Sf.nd rfl (.inl rfl) (zE zy (pv 1) zf)) (zd (yu PassesOwn.never rfl (zY rfl zJ (zc (pv 2) ze)) (zI (i:=5) Sf.nd rfl (.inl rfl)) (zd (yU (bm0 (fun _ h=>ZL PySem.F.plainAttrs_list PySem.F.slot_list_append PySem.F.type_list_append yE h (zc (zp xV hr (zc (pv 0) (zc (zE zy (pv 1) zf) (zc (pv 4) ze)))) ze)) (pv 3))) (zi (zm (i:=4) Sf.nd rfl (.inl rfl) (zp xV hr (zc (pv 0) (zc (zE zy (pv 1) zf) (zc (pv 4) ze)))))))) (zi (zo (pv 3)))))),?_⟩;refine⟨(by show 0<=sizeLine;decide),fun pt hpt=>?_⟩;have g0:=zg hpt (.lst []);have h0:upd H pt (.lst []) pt=some (.lst []):=zh;have nb:tb≠pt:=fun e=>by rw[← e,hM.b.1]at hpt;cases hpt
 have mb:=jt hM.b hpt;generalize upd H pt (.lst [])=H0 at *;have hM0:=hM.mono g0;refine⟨_,rfl,pm,_,_,.ref tb,rfl,rfl,SqT.of hM0.tup,rfl,?_⟩;refine⟨_,rfl,many,rfl,(by omega),(by omega),?_⟩;rw[wW];refine yF (lo:=0) (n:=many) (fun i σ H'=>∃(ts:List Addr)(pth:Addr)(rth:List Addr)(o5:Option V),σ=[some (.int k),some (.ref pm),some (.int (many:Int)),some (.ref pt),some (.ref pth),o5]/\Same H H'/\H' pt=some (.lst (ts.map V.ref))/\ts.length=i/\(∀ t,t<i->∃ a rs,ts[t]?=some a/\kaf H' (kai k h C (blkT k h A B t)) a rs/\a≠pt/\pt∉rs)/\kaf H' (blkT k h A B i) pth rth/\pth≠pt/\pt∉rth) ⟨[],tb,rb,none,rfl,g0,h0,rfl,(fun _ h=>absurd h (vI _)),hM0.b,nb,mb⟩ ?_ ?_
 ·rintro i σ H1 hi ⟨ts,pth,rth,o5,rfl,g1,hp1,lts,tabs,hth,nth,mth⟩
  have hM1:=hM.mono g1;refine⟨_,rfl,.inl ⟨rfl,_,SqL.of hp1⟩,_,rfl,_,rfl,pm,_,_,.ref tc,rfl,rfl,SqT.of hM1.tup,rfl,_,rfl,k,C,blkT k h A B i,n,h,zC,zB,tc,pth,rc,rth,rfl,hk,hM1.c,hth,oC,(ok i).1,(ok i).2,sC,sB i (by omega),cb,n1,n10,h1,h10,by omega,fun t1 r1 H2 g2 N1=>?_⟩;have hp2:=g2 _ _ hp1;have n1':t1≠pt:=fun e=>by have:=N1.ft;rw[e,hp1]at this;cases this
  have m1':pt∉r1:=fun h=>by have:=N1.fr pt h;rw[hp1]at this;cases this
  refine⟨pt,_,_,rfl,rfl,hp2,(by rw[we];omega),?_⟩;have hpt3:upd H2 pt (.lst (ts.map V.ref++[.ref t1])) pt=some (.lst ((ts++[t1]).map V.ref)):=by rw[zh,wF];rfl
  have g13:Same H (upd H2 pt (.lst (ts.map V.ref++[.ref t1]))):=yw (g1.trans g2) hpt;have hth3:=(hth.mono g2).upd (zs':=ts.map V.ref++[.ref t1]) nth mth hp2;have tabs3:∀ t,t<i+1->∃ a rs,(ts++[t1])[t]?=some a/\kaf (upd H2 pt (.lst (ts.map V.ref++[.ref t1]))) (kai k h C (blkT k h A B t)) a rs/\a≠pt/\pt∉rs:=fun t ht=>by
   rcases vU (ug ht)with h'|h'
   ·obtain⟨a,rs,e,T,na,ma⟩:=tabs t h';exact⟨a,rs,by rw[vz (by omega)];exact e,(T.mono g2).upd na ma hp2,na,ma⟩
   ·subst h';exact⟨t1,r1,by rw[← lts,vv (ww _),Gf];rfl,N1.tab.upd n1' m1' hp2,n1',m1'⟩
  generalize upd H2 pt (.lst (ts.map V.ref++[.ref t1]))=H3 at *;have hM3:=hM.mono g13;refine⟨_,rfl,_,rfl,pm,_,_,.ref ta,rfl,rfl,SqT.of hM3.tup,rfl,_,rfl,k,A,blkT k h A B i,n,h,zA,zB,ta,pth,ra,rth,rfl,hk,hM3.a,hth3,oA,(ok i).1,(ok i).2,sA,sB i (by omega),ab,n1,n10,h1,h10,by omega,fun t2 r2 H4 g4 N2=>?_⟩;have n2':t2≠pt:=fun e=>by have:=N2.ft;rw[e,hpt3]at this;cases this
  have m2':pt∉r2:=fun h=>by have:=N2.fr pt h;rw[hpt3]at this;cases this
  exact⟨ts++[t1],t2,r2,_,rfl,g13.trans g4,g4 _ _ hpt3,by rw[wy];show ts.length+1=i+1;omega,fun t ht=>by
   obtain⟨a,rs,e,T,na,ma⟩:=tabs3 t ht;exact⟨a,rs,e,T.mono g4,na,ma⟩,N2.tab,n2',m2'⟩
 ·rintro σ H1 ⟨ts,pth,rth,o5,rfl,g1,hp1,lts,tabs,hth,nth,mth⟩
  exact⟨_,rfl,q ts pt H1 g1 hp1 lts fun t ht=>by
   obtain⟨a,rs,e,T,_,_⟩:=tabs t ht;exact⟨a,rs,e,T⟩⟩
def QN:Sp:=fun vs H Q _=>∃(k:Int)(A B C:Tb)(n h s:Nat)(hI sI:Int)(pm ta tb tc:Addr)(ra rb rc:List Addr),vs=[.int k,.ref pm,.int hI,.int sI]/\hI =(h:Int)/\sI =(s:Int)/\kab k/\kav H A B C pm ta tb tc ra rb rc/\(La.OkM k n A/\A.length=n)/\(La.OkM k h B/\B.length=n)/\(La.OkM k n C/\C.length=s)/\1<=n/\n<=10/\s<=10/\∀ H',Same H H'->Q (.bl true) H'
theorem zeu (D:Df K mg "_law_is_machine" dJ xg) (jY:Kn P w K mg base "_law_is_rows" 4 du Qv) (zU:mg "isinstance" = none) (xq:mg "list" = none) (xy:mg "tuple" = none) (m_len:mg "len" = none):Kn P w K mg base "_law_is_machine" 5 dJ QN:=by
 refine D.kn sk (fun vs H Q E h=>?_) (fun f cdv A' outer s' H vs Q E hr h=>?_)
 ·obtain⟨k,A,B,C,n,h,s,hI,sI,pm,ta,tb,tc,ra,rb,rc,rfl,_⟩:=h;rfl
 obtain⟨k,A,B,C,n,h,s,hI,sI,pm,ta,tb,tc,ra,rb,rc,rfl,rfl,rfl,hk,hM,⟨oA,lA⟩,⟨oB,lB⟩,⟨oC,lC⟩,n1,n10,s10,q⟩:=h;have szl:=dN
 have la:=zk hM.a.2;rw[lA]at la;refine⟨_,(zd (yn (PW.pt (pw_or (qj (jL (zD (jb (K:=K) rfl) rfl zU yA (zc (pv 1) (zc (zbe rfl xy Yv) ze))))) (pw_or (zG Yt (zD zL rfl m_len yi (zc (pv 1) ze)) zf (kae _)) (pw_or (qj (jL (zD (jb (K:=K) rfl) rfl zU yA (zc (zE zy (pv 1) zf) (zc (zbe rfl xq ZO) ze))))) (pw_or1 (zG xp (zD zL rfl m_len yi (zc (zE zy (pv 1) zf) ze)) zf (kae _))))))) (zi (zo XB)) zK) (zd (zm (i:=4) sk.nd rfl (.inl rfl) (zD zL rfl m_len yi (zc (zE zy (pv 1) zf) ze))) (zd (yn (PW.pt (pw_or (qj (jL (zp jY hr (zc (pv 0) (zc (zE zy (pv 1) zf) (zc (pv 4) (zc (pv 4) ze))))))) (pw_or1 (qj (jL (zp jY hr (zc (pv 0) (zc (zE zy (pv 1) zf) (zc (pv 4) (zc (pv 2) ze)))))))))) (zi (zo XB)) zK) (zi (zo (zp jY hr (zc (pv 0) (zc (zE zy (pv 1) zf) (zc (pv 3) (zc (pv 4) ze)))))))))),?_⟩;refine⟨_,rfl,_,_,_,_,rfl,TyOf.tup hM.tup,zf1 K,_,rfl,iteF ?_⟩;refine⟨_,rfl,pm,_,rfl,.inr (SqT.of hM.tup),rfl,_,rfl,iteF ?_⟩;refine⟨_,rfl,pm,_,_,.ref ta,rfl,rfl,SqT.of hM.tup,rfl,_,_,_,_,rfl,TyOf.lst hM.a.1,ze4 K,_,rfl,iteF ?_⟩;refine⟨_,rfl,pm,_,_,.ref ta,rfl,rfl,SqT.of hM.tup,rfl,ta,_,rfl,.inl (SqL.of hM.a.1),rfl,_,rfl,?_⟩;rw[we,← la,decide_eq_false (fun z=>by have:=V.int.inj z;omega)];refine iteF ?_;refine⟨_,rfl,pm,_,_,.ref ta,rfl,rfl,SqT.of hM.tup,rfl,ta,_,rfl,.inl (SqL.of hM.a.1),?_⟩;rw[we,← la];refine⟨_,rfl,_,rfl,pm,_,_,.ref ta,rfl,rfl,SqT.of hM.tup,rfl,_,rfl,_,rfl,k,A,ta,ra,_,_,rfl,hk,hM.a,(by rw[lA]),(fun r hr=>⟨by rw[(oA r hr).1],(oA r hr).2⟩),(by omega),fun H1 g1=>⟨_,rfl,iteF ?_⟩⟩;have hM1:=hM.mono g1;refine⟨_,rfl,_,rfl,pm,_,_,.ref tb,rfl,rfl,SqT.of hM1.tup,rfl,_,rfl,_,rfl,k,B,tb,rb,_,_,rfl,hk,hM1.b,(by rw[lB]),(fun r hr=>⟨by rw[(oB r hr).1],(oB r hr).2⟩),(by omega),fun H2 g2=>⟨_,rfl,iteF ?_⟩⟩;have hM2:=hM1.mono g2;exact⟨_,rfl,_,rfl,pm,_,_,.ref tc,rfl,rfl,SqT.of hM2.tup,rfl,_,rfl,_,rfl,k,C,tc,rc,_,_,rfl,hk,hM2.c,(by rw[lC]),(fun r hr=>⟨by rw[(oC r hr).1],(oC r hr).2⟩),(by omega),fun H3 g3=>q H3 ((g1.trans g2).trans g3)⟩
def sqR(Ms:Nat->Tb)(i q:Nat):Nat->List Nb
 | 0=>[]
 | j+1=>sqR Ms i q j ++(Ms (i+j)).getD q []
def sqI(Ms:Nat->Tb)(n i:Nat):Nat->Tb
 | 0=>[]
 | q+1=>sqI Ms n i q++[sqR Ms i q n]
def sqT(Ms:Nat->Tb)(n s:Nat):Nat->Tb
 | 0=>[]
 | i+1=>sqT Ms n s i++sqI Ms n i s
theorem zfs{Ms:Nat->Tb}{n i:Nat}{r:List Nb}:∀ q,r∈sqI Ms n i q↔∃ q',q'<q/\r=sqR Ms i q' n
 | 0=>⟨(fun h=>nomatch h),fun⟨_,h,_⟩=>absurd h (vI _)⟩
 | q+1=>by
  show r∈sqI Ms n i q++[sqR Ms i q n]↔_;rw[wu,zfs q,wD]
  constructor
  ·rintro (⟨q',h,e⟩|e)
   ·exact⟨q',by omega,e⟩
   ·exact⟨q,by omega,e⟩
  ·rintro ⟨q',h,e⟩
   rcases vU (ug h)with h'|h'
   ·exact .inl ⟨q',h',e⟩
   ·rw[h']at e;exact .inr e
theorem Jw{Ms:Nat->Tb}{n s:Nat}{r:List Nb}:∀ i,r∈sqT Ms n s i↔∃ i' q,i'<i/\q<s/\r=sqR Ms i' q n
 | 0=>⟨(fun h=>nomatch h),fun⟨_,_,h,_⟩=>absurd h (vI _)⟩
 | i+1=>by
  show r∈sqT Ms n s i++sqI Ms n i s↔_;rw[wu,Jw i,zfs]
  constructor
  ·rintro (⟨i',q,h,hq,e⟩|⟨q,hq,e⟩)
   ·exact⟨i',q,by omega,hq,e⟩
   ·exact⟨i,q,by omega,hq,e⟩
  ·rintro ⟨i',q,h,hq,e⟩
   rcases vU (ug h)with h'|h'
   ·exact .inl ⟨i',q,h',hq,e⟩
   ·rw[h']at e;exact .inr ⟨q,hq,e⟩
theorem zcE(Ms:Nat->Tb)(n i:Nat):∀ q,(sqI Ms n i q).length=q
 | 0=>rfl
 | q+1=>by show(sqI Ms n i q++[_]).length=_;rw[wy,zcE Ms n i q];rfl
theorem zcm(Ms:Nat->Tb)(n s:Nat):∀ i,(sqT Ms n s i).length=i*s
 | 0=>by rw[Gg];rfl
 | i+1=>by show(sqT Ms n s i++_).length=_;rw[wy,zcm Ms n s i,zcE,vZ,vT]
section
variable{k:Int}{Ms:Nat->Tb}{n h s:Nat}(oM:∀ t,t<n+n->La.OkM k h (Ms t)/\(Ms t).length=s)
include oM
theorem zfY{t q:Nat}(ht:t<n+n)(hq:q<s):(Ms t)[q]?=some ((Ms t).getD q [])/\((Ms t).getD q []).length=h/\La.OkR k ((Ms t).getD q []):=by
 have o:=oM t ht;have hl:q <(Ms t).length:=by rw[o.2];exact hq
 have e:(Ms t).getD q [] =(Ms t)[q]:=by rw[wj,wg hl];rfl
 rw[e];exact⟨wg hl,o.1 _ (wp hl)⟩
theorem zd2{i q:Nat}(hi:i<n)(hq:q<s):∀ j,j<=n->(sqR Ms i q j).length=j*h/\La.OkR k (sqR Ms i q j)
 | 0,_=>⟨by rw[Gg];rfl,fun _ h=>nomatch h⟩
 | j+1,hj=>by
  have ih:=zd2 hi hq j (by omega);obtain⟨_,l,o⟩:=zfY oM (t:=i+j) (by omega) hq;refine⟨by show(sqR Ms i q j++_).length=_;rw[wy,ih.1,l,vZ,vT],fun x hx=>?_⟩
  rcases wu.mp hx with h'|h'
  ·exact ih.2 x h'
  ·exact o x h'
theorem zgG{i q l:Nat}(hi:i<n)(hq:q<s)(hl:l<h):∀ J j,j<J->J<=n->(sqR Ms i q J)[j*h+l]? =((Ms (i+j)).getD q [])[l]?
 | J+1,j,hj,hJ=>by
  obtain⟨len,_⟩:=zd2 oM hi hq J (by omega);show(sqR Ms i q J ++(Ms (i+J)).getD q [])[j*h+l]?=_
  rcases vU (ug hj)with h'|h'
  ·have:(j+1)*h<=J*h:=wU _ h';rw[vZ,vT]at this;rw[vz (by omega)];exact zgG hi hq hl J j h' (by omega)
  ·subst h';rw[vv (by omega),len,uv]
theorem ziw{z i q:Nat}(hz:∀ t,t<n+n->∀ r∈Ms t,∀ x∈r,szk k z x)(hi:i<n)(hq:q<s):∀ j,j<=n->∀ x∈sqR Ms i q j,szk k z x
 | 0,_,x,hx=>(nomatch hx)
 | j+1,hj,x,hx=>by
  obtain⟨e,_⟩:=zfY oM (t:=i+j) (by omega) hq
  rcases wu.mp hx with h'|h'
  ·exact ziw hz hi hq j (by omega) x h'
  ·exact hz (i+j) (by omega) _ (wk e) x h'
end
def Qz:Sp:=fun vs H Q _=>∃(k:Int)(Ms:Nat->Tb)(n h s:Nat)(nI:Int)(ps:Addr)(ts:List Addr),vs=[.ref ps,.int nI,.int nI]/\nI =(n:Int)/\H ps=some (.lst (ts.map V.ref))/\ts.length=n+n/\1<=n/\n<=10/\h<=10/\s<=10/\(∀ t,t<n+n->La.OkM k h (Ms t)/\(Ms t).length=s)/\(∀ t,t<n+n->∃ a rs,ts[t]?=some a/\kaf H (Ms t) a rs) /\
 ∀ p rs H',Same H H'->kaf H' (sqT Ms n s n) p rs->Q (.ref p) H'
theorem zef (D:Df K mg "_law_square" dL jj) (zJ:mg "range" = none) (m_len:mg "len" = none):Kn P w K mg base "_law_square" 1 dL Qz:=by
 refine D.kn sK (fun vs H Q E h=>?_) (fun f cdv A' outer s' H vs Q E hr h=>?_)
 ·obtain⟨k,Ms,n,h,s,nI,ps,ts,rfl,_⟩:=h;rfl
 obtain⟨k,Ms,n,h,s,nI,ps,ts,rfl,rfl,hps,lts,n1,n10,h10,s10,oM,tabs,q⟩:=h;have szl:=dN
 refine⟨_,(zd (zm (i:=3) sK.nd rfl (.inl rfl) (yC ze)) (zd (yu PassesOwn.never rfl (zY rfl zJ (zc (pv 1) ze)) (zI (i:=4) sK.nd rfl (.inl rfl)) (zi (yu PassesOwn.never rfl (zY rfl zJ (zc (zD zL rfl m_len yi (zc (zE zw (pv 0) zf) ze)) ze)) (zI (i:=5) sK.nd rfl (.inl rfl)) (zd (zm (i:=6) sK.nd rfl (.inl rfl) (yC ze)) (zd (yu PassesOwn.never rfl (zY rfl zJ (zc (pv 2) ze)) (zI (i:=7) sK.nd rfl (.inl rfl)) (zi (zm (i:=6) sK.nd rfl (.inl rfl) (zt ZN (pv 6) (zE zw (zE zw (pv 0) (zt yT (pv 4) (pv 7))) (pv 5)))))) (zi (yU (bm0 (fun _ h=>ZL PySem.F.plainAttrs_list PySem.F.slot_list_append PySem.F.type_list_append yE h (zc (pv 6) ze)) (pv 3))))))))) (zi (zo (pv 3))))),?_⟩;refine⟨(by show 0<=sizeLine;decide),fun pt hpt=>?_⟩;have g0:=zg hpt (.lst []);have h0:upd H pt (.lst []) pt=some (.lst []):=zh;generalize upd H pt (.lst [])=H0 at *;refine⟨_,rfl,n,rfl,(by omega),(by omega),?_⟩;rw[wW];refine yF (lo:=0) (n:=n) (fun i σ H'=>∃(rs:List Addr)(o4 o5 o6 o7:Option V),σ=[some (.ref ps),some (.int (n:Int)),some (.int (n:Int)),some (.ref pt),o4,o5,o6,o7]/\Same H H'/\kaf H' (sqT Ms n s i) pt rs/\pt∉rs) ⟨[],none,none,none,none,rfl,g0,⟨h0,.nil⟩,fun h=>nomatch h⟩ ?_ ?_
 ·rintro i σ H1 hi ⟨rs,o4,o5,o6,o7,rfl,g1,hT,nT⟩
  obtain⟨a0,ra0,ea0,T0⟩:=tabs 0 (by omega);have l0:=zk T0.2;rw[(oM 0 (by omega)).2]at l0;refine⟨_,rfl,ps,_,_,.ref a0,rfl,rfl,SqL.of (g1 _ _ hps),zP (j:=0) (by rw[wo,ea0];rfl),a0,_,rfl,.inl (SqL.of (g1 _ _ T0.1)),s,(by rw[we,← l0]),(by omega),(by omega),?_⟩;rw[wW];refine yF (lo:=0) (n:=s) (fun q σ H'=>∃(rs:List Addr)(o5 o6 o7:Option V),σ=[some (.ref ps),some (.int (n:Int)),some (.int (n:Int)),some (.ref pt),some (.int (0 +(i:Int))),o5,o6,o7]/\Same H H'/\kaf H' (sqT Ms n s i++sqI Ms n i q) pt rs/\pt∉rs) ⟨rs,_,_,_,rfl,g1,(by show kaf H1 (sqT Ms n s i++[]) pt rs;rw[vH];exact hT),nT⟩ ?_ ?_
  ·clear hT nT
   rintro q' σ H2 hq ⟨rs,o5,o6,o7,rfl,g2,hT,nT⟩
   refine⟨(by show 0<=sizeLine;decide),fun pr hpr=>?_⟩;have g3:=zg hpr (.lst []);have h3:upd H2 pr (.lst []) pr=some (.lst []):=zh;have nrt:pr≠pt:=fun e=>by rw[e,hT.1]at hpr;cases hpr
   have T3:=hT.mono g3;have g23:=g2.trans g3;generalize upd H2 pr (.lst [])=H3 at *;refine⟨_,rfl,n,rfl,(by omega),(by omega),?_⟩;rw[wW];refine yF (lo:=0) (n:=n) (fun j σ H'=>∃(pr:Addr)(o7:Option V),σ=[some (.ref ps),some (.int (n:Int)),some (.int (n:Int)),some (.ref pt),some (.int (0 +(i:Int))),some (.int (0 +(q':Int))),some (.ref pr),o7]/\Same H H'/\kaf H' (sqT Ms n s i++sqI Ms n i q') pt rs/\kas H' (sqR Ms i q' j) pr/\pr≠pt) ⟨pr,_,rfl,g23,T3,⟨[],h3,.nil⟩,nrt⟩ ?_ ?_
   ·clear h3 nrt T3 g23 g3 hpr
    rintro j σ H4 hj ⟨pr,o7,rfl,g4,hT4,hR,nrt⟩
    obtain⟨a1,ra1,ea1,T1⟩:=tabs (i+j) (by omega);have T4:=T1.mono g4;obtain⟨eq,lq,oq⟩:=zfY oM (t:=i+j) (by omega) hq;obtain⟨b1,eb1,rb1⟩:=yH T4.2 eq;obtain⟨us,hus,pus,lus⟩:=hR.len;obtain⟨vs1,hvs,pvs,lvs⟩:=rb1.len;have lR:=(zd2 oM hi hq j (by omega)).1;have jh:j*h<=10*10:=vf (by omega) h10;have ej:(0:Int) +(i:Int) +(0 +(j:Int)) =((i+j:Nat):Int):=by omega
    refine⟨_,rfl,_,rfl,_,rfl,_,rfl,_,_,rfl,rfl,ps,_,_,.ref a1,rfl,rfl,SqL.of (g4 _ _ hps),(by rw[ej];exact zP (by rw[wo,ea1];rfl)),_,rfl,a1,_,_,.ref b1,rfl,rfl,SqL.of T4.1,(by rw[vA];exact zP (by rw[wo,eb1];rfl)),pr,b1,_,_,rfl,rfl,hus,hvs,(by rw[lus,lvs,lR,lq];omega),fun p5 hp5=>?_⟩;have g5:=zg hp5 (.lst (us++vs1));have n5:p5≠pt:=fun e=>by rw[e,hT4.1]at hp5;cases hp5
    exact⟨p5,_,rfl,g4.trans g5,hT4.mono g5,⟨us++vs1,zh,qU (jC g5 pus) (jC g5 pvs)⟩,n5⟩
   ·rintro σ H4 ⟨pr,o7,rfl,g4,hT4,hR,nrt⟩
    have lrs:=zk hT4.2;rw[wy,zcm,zcE]at lrs;have is:i*s<=10*10:=vf (by omega) s10;refine⟨_,rfl,.inl ⟨rfl,_,SqL.of hT4.1⟩,_,rfl,pt,_,_,rfl,rfl,hT4.1,(by rw[we];omega),?_⟩;refine⟨rs++[pr],_,_,_,rfl,yw g4 hpt,⟨by rw[zh,wF];rfl,?_⟩,fun h=>?_⟩
    ·show Paired _ (sqT Ms n s i ++(sqI Ms n i q'++[sqR Ms i q' n])) _;rw[← uW];exact yj (Jt (zk hT4.2) fun u x b h1 h2=>(ju hT4.2 h1 h2).upd (fun e=>nT (by rw[← e];exact wk h2)) hT4.1) (hR.upd nrt hT4.1)
    ·rcases wu.mp h with h|h
     ·exact nT h
     ·exact nrt (wD.mp h).symm
  ·rintro σ H2 ⟨rs,o5,o6,o7,rfl,g2,hT,nT⟩
   exact⟨rs,_,_,_,_,rfl,g2,hT,nT⟩
 ·rintro σ H1 ⟨rs,o4,o5,o6,o7,rfl,g1,hT,nT⟩
  exact⟨_,rfl,q pt rs H1 g1 hT⟩
theorem cutN{ns:List Int}(N:Nat):cutV (ns.map V.int) none (some (N:Int)) =(ns.take N).map V.int:=by
 unfold cutV;rw[HT.XE,wbg,wap,HT.Zf,we,gQ]
 rcases wO N ns.length with h|h
 ·rw[uV (by omega)]
 ·rw[gM (by omega),wr (by rw[we];exact ww _),wr (by rw[we];exact h)]
theorem zjf{X:Cx}{K:PySem.W.Frag}{tg l:Expr}{tl:TE}(hK:X.K=K)(hl:PE X l tl):PI X tg l (iTup K tl):=hK ▸ ziv hl
theorem zdq{H:Hp}(s:Str):Rp H (.str s) (.str s):=by simp only[Rp]
def nonD:PyData:=.tuple [.str "none"]
theorem zif {H:Hp} {p:Addr} (h:H p=some (.tup [.str "none"])):Rp H nonD (.ref p):=by
 show Rp H (.tuple [.str "none"]) _;simp only[Rp,Rps];exact⟨p,_,rfl,h,_,_,rfl,rfl,rfl⟩
theorem ze0{H:Hp}{Ms:Nat->Tb}{N:Nat}{ts:List Addr}{p:Addr}(h:H p=some (.lst (ts.map V.ref)))(l:ts.length=N)(tabs:∀ t,t<N->∃ a rs,ts[t]?=some a/\kaf H (Ms t) a rs):Rp H (tabsD ((vd N).map Ms)) (.ref p):=by
 refine ziQ h (zig tabD _ _ (by rw[we,we,vL,l]) fun i M v h1 h2=>?_);rw[wo]at h1 h2;obtain⟨t,ht,rfl⟩:=wR.mp h2;have hi:i<N:=by rw[← l];exact(wq.mp ht).1
 rw[vG hi]at h1;obtain⟨a,rs,e,T⟩:=tabs i hi;rw[ht]at e;cases e;cases h1;exact T.rp
theorem zas{k:Int}{h q l t:Nat}{A B C:Tb}(hq:q<C.length)(hl:l<h):((kai k h C (blkT k h A B t)).getD q [])[l]?=some (La.ndot k (C.getD q []) (powX k A ((kaa h B).getD l []) t)):=by
 have e1:(kai k h C (blkT k h A B t)).getD q [] =(kaa h (blkT k h A B t)).map fun c=>La.ndot k (C.getD q []) c:=by
  unfold kai;rw[wj,wo,wj,wg hq];rfl
 rw[e1,zde t,vF,wo,getT B hl];rfl
structure Apn(Ho H':Hp)(ts:List Addr)(rs:List (List Addr))(l c:Nat):Prop where
 same:Same Ho H'
 tab:∀(j:Nat)(t:Addr)(r:List Addr),l<=j->ts[j]?=some t->rs[j]?=some r->H' t=some (.lst (r.map V.ref))
 row:∀(j:Nat)(r:List Addr)(a:Addr),rs[j]?=some r->a∈r->∃ us,H' a=some (.lst us)/\us.length<=20+c
theorem Apn.rowStep{Ho H':Hp}{ts:List Addr}{rs:List (List Addr)}{l c j:Nat}(I:Apn Ho H' ts rs l c)(sep:∀ t∈ts,∀ r∈rs,t∉r){a:Addr}{r:List Addr}(hr:rs[j]?=some r)(ha:a∈r)(fr:Ho a=none){us:List V}{v:V}(hu:H' a=some (.lst us)):Apn Ho (upd H' a (.lst (us++[v]))) ts rs l (c+1):=by
 refine⟨yw I.same fr,fun j' t r' h1 h2 h3=>?_,fun j' r' a' h1 h2=>?_⟩
 ·rw[zN (fun e=>sep t (wk h2) r (wk hr) (by rw[e];exact ha))];exact I.tab j' t r' h1 h2 h3
 ·by_cases e:a'=a
  ·subst e;obtain⟨us',hu',lu'⟩:=I.row j' r' a' h1 h2;rw[hu]at hu';cases hu';exact⟨_,zh,by rw[wy];show us.length+1<=_;omega⟩
  ·obtain⟨us',hu',lu'⟩:=I.row j' r' a' h1 h2;exact⟨us',by rw[zN e];exact hu',by omega⟩
theorem Apn.tabStep{Ho H':Hp}{ts:List Addr}{rs:List (List Addr)}{l c:Nat}(I:Apn Ho H' ts rs l c)(sep:∀ t∈ts,∀ r∈rs,t∉r)(nd:ts.Nodup){t:Addr}(ht:ts[l]?=some t)(fr:Ho t=none){ws:List V}:Apn Ho (upd H' t (.lst ws)) ts rs (l+1) c:=by
 refine⟨yw I.same fr,fun j' t' r' h1 h2 h3=>?_,fun j' r' a' h1 h2=>?_⟩
 ·rw[zN (fun e=>by
   have hl:=(wq.mp ht).1;have hj:=(wq.mp h2).1;have:=(uC hj nd).mp (h2.trans ((congrArg some e).trans ht.symm));omega)]
  exact I.tab j' t' r' (by omega) h2 h3
 ·obtain⟨us',hu',lu'⟩:=I.row j' r' a' h1 h2;exact⟨us',by rw[zN (fun e=>sep t (wk ht) r' (wk h1) (by rw[← e];exact h2))];exact hu',lu'⟩
theorem zjX {f:Addr} {fd:FuncData} (F:Fun K "law" "law" zhw f fd) (Qc:Kn P w K mg base "_law_machine" 46 dk JS) (zcS:Kn P w K mg base "_law_copy" 1 dC zd8) (zjP:Kn P w K mg base "core" 53 SZ zg0) (Xo:Kn P w K mg base "_law_marks" 45 dG zbW) (zaB:Kn P w K mg base "_law_square" 1 dL Qz) (yM:Kn P w K mg base "_law_reduced" 44 dF qK) (YT:Kn P w K mg base "_law_is_machine" 5 dJ QN) (Qg:Kn P w K mg base "_law_steered" 45 dH JT) (zaz:Kn P w K mg base "_law_sights" 45 dG QQ) (zaD:Kn P w K mg base "_law_kernel" 45 dI QB) (m_len:mg "len" = none) (zU:mg "isinstance" = none) (xy:mg "tuple" = none) :
  FnOk P w K mg base CX0 54 f fd ["_law_script"] (spLaw K):=by
 refine F.ok SD (fun vs H Q E h=>?_) (fun cdv A' outer s' H vs Q E hr h=>?_)
 ·obtain⟨asc,ns,rfl,_⟩:=h;rfl
 obtain⟨asc,ns,rfl,hS,h63,q⟩:=h;have szl:=dN
 refine⟨_,(zd (zm (i:=1) SD.nd rfl (.inl rfl) (zt ZN (jD (zhk (K:=K) rfl) (pv 0) Jo (jy zf)) (yC (zc zf ze)))) (zd (qk (zp Qc hr (zc (pv 1) (zc (yC (zc zf (zc zf ze))) ze))) (zfF (K:=K) 3 rfl rfl (yd (zI (i:=2) SD.nd rfl (.inl rfl)) (yd (zI (i:=3) SD.nd rfl (.inl rfl)) (yd (zI (i:=4) SD.nd rfl (.inl rfl)) je))))) (zd (zm (i:=5) SD.nd rfl (.inl rfl) (zD (xL (K:=K) rfl) rfl m_len yi (zc (zE (Xi (K:=K) rfl) (pv 3) zf) ze))) (zd (zm (i:=6) SD.nd rfl (.inl rfl) (zp zcS hr (zc (pv 3) ze))) (zd (zm (i:=7) SD.nd rfl (.inl rfl) (zp zjP hr (zc (pv 2) (zc (pv 6) ze)))) (zd (yn (PW.pt (pw_or (zG (Qx hr) (pv 6) (pv 3) (kae _)) (pw_or1 (qj (jL (zD (jb (K:=K) rfl) rfl zU yA (zc (pv 7) (zc (zbe rfl xy Yv) ze)))))))) (zi (zo XB)) zK) (zd (zm (i:=8) SD.nd rfl (.inl rfl) (zp Xo hr (zc (pv 2) (zc (pv 3) (zc (zt yb zf (pv 5)) ze))))) (zd (zm (i:=9) SD.nd rfl (.inl rfl) (zD (xL (K:=K) rfl) rfl m_len yi (zc (zp yM hr (zc (pv 2) (zc (zp zaB hr (zc (pv 8) (zc (pv 5) (zc (pv 5) ze)))) ze))) ze))) (zd (yn (zG xp (pv 9) zf (kae _)) (zi (zo (xJ (zdM hr) (pv 7) (xm (zc zd0 ze)) (kae _)))) zK) (zd (yn (PW.pt (pw_or (zG Yt (zD (xL (K:=K) rfl) rfl m_len yi (zc (pv 7) ze)) zf (kae _)) (pw_or1 (zG (Qx hr) (zE (Xi (K:=K) rfl) (pv 7) zf) zd0 (kae _))))) (zi (zo XB)) zK) (zd (zm (i:=10) SD.nd rfl (.inl rfl) (zE (Xi (K:=K) rfl) (pv 7) zf)) (zd (yn (qj (jL (zp YT hr (zc (pv 2) (zc (pv 10) (zc (zD (xL (K:=K) rfl) rfl m_len yi (zc (zE (zhs (K:=K) rfl) (zE (Xi (K:=K) rfl) (pv 3) zf) zf) ze)) (zc (zD (xL (K:=K) rfl) rfl m_len yi (zc (zE (Xi (K:=K) rfl) (pv 3) zf) ze)) ze))))))) (zi (zo XB)) zK) (zd (yn (PW.pt (pw_or (zG Yt (zD (xL (K:=K) rfl) rfl m_len yi (zc (zE (Xi (K:=K) rfl) (pv 10) zf) ze)) (pv 9) (kae _)) (pw_or1 (zG (Qx hr) (zp Xo hr (zc (pv 2) (zc (pv 10) (zc (zt yb zf (pv 5)) ze)))) (pv 8) (kae _))))) (zi (zo XB)) zK) (zd (yn (zG Yt (zD (xL (K:=K) rfl) rfl m_len yi (zc (zp Qg hr (zc (pv 2) (zc (pv 10) ze))) ze)) (pv 9) (kae _)) (zi (zo XB)) zK) (zd (yn (zG Yt (zD (xL (K:=K) rfl) rfl m_len yi (zc (zp zaD hr (zc (pv 2) (zc (zp zaz hr (zc (pv 2) (zc (pv 10) (zc (pv 9) ze)))) (zc (pv 9) ze)))) ze)) zf (kae _)) (zi (zo XB)) zK) (zd (yu PassesOwn.never rfl (zjf (K:=K) rfl (pv 10)) (zI (i:=11) SD.nd rfl (.inl rfl)) (zd (yu PassesOwn.never rfl (zg6 (K:=K) rfl (pv 11)) (zI (i:=12) SD.nd rfl (.inl rfl)) (zi (yU (bm0 (fun _ h=>ZL PySem.F.plainAttrs_list PySem.F.slot_list_append PySem.F.type_list_append yE h (zc zis ze)) (pv 12))))) (zi (yU (bm0 (fun _ h=>ZL PySem.F.plainAttrs_list PySem.F.slot_list_append PySem.F.type_list_append yE h (zc zis ze)) (pv 11)))))) (zi (zo (xJ (zdM hr) (pv 6) (pv 3) (kae _)))))))))))))))))))),?_⟩;refine⟨_,rfl,_,rfl,asc,_,rfl,hS,fun p1 hp1=>?_⟩;refine⟨(by show 1<=sizeLine;decide),fun p2 hp2=>?_⟩;have n12:p1≠p2:=fun e=>by rw[e,zh]at hp2;cases hp2
 rw[show((63:Int)) =((63:Nat):Int)from rfl,cutN 63]at *;refine⟨p1,p2,_,_,rfl,rfl,(by rw[zN n12];exact zh),zh,?_,fun p3 hp3=>?_⟩
 ·rw[we,wx];show min 63 ns.length+1<=sizeLine;omega
 have e3:(ns.take 63).map V.int++[V.int 0] =(ns.take 63++[0]).map V.int:=by simp
 rw[e3];have hc0:upd (upd (upd H p1 (.lst ((ns.take 63).map V.int))) p2 (.lst [V.int 0])) p3 (.lst ((ns.take 63++[0]).map V.int)) p3=some (.lst ((ns.take 63++[0]).map V.int)):=zh;have lcs:(ns.take 63++[(0:Int)]).length<=1000:=by rw[wy,wx];show min 63 ns.length+1<=1000;omega
 have ncs:ns.take 63++[(0:Int)]≠[]:=by simp
 generalize upd (upd (upd H p1 (.lst ((ns.take 63).map V.int))) p2 (.lst [V.int 0])) p3 (.lst ((ns.take 63++[0]).map V.int))=H0 at *;generalize ns.take 63++[(0:Int)]=cs at *;refine⟨_,rfl,(by show 2<=sizeLine;decide),fun pq hpq=>?_⟩;have g1:=zg hpq (.lst [V.int 3,V.int 5]);refine⟨p3,pq,cs,3,5,rfl,g1 _ _ hc0,ncs,lcs,zh,(by decide),(by decide),(by decide),(by decide),fun k n m s at' A B C pr pm ta tb tc ra rb rc H2 g2 hpr hM hs ft oM wM m1 m2 s1 s2 nab=>?_⟩;have hk:=hs.ok;clear g1 hc0;refine⟨pr,_,rfl,SqT.of hpr,rfl,_,_,rfl,_,_,rfl,_,_,rfl,rfl,?_⟩;have n1:=ft.1;have n10:=ft.n10;have lA:=oM.a.len;have lB:=oM.b.len;have lC:=oM.c.len;have la:=zk hM.a.2;rw[oM.a.len]at la;have n3:k=0->n<=3:=fun e=>by
  rcases ft.2 with h|h
  ·exact h
  ·exact absurd e h.1
 refine⟨_,rfl,pm,_,_,.ref ta,rfl,rfl,SqT.of hM.tup,rfl,ta,_,rfl,.inl (SqL.of hM.a.1),?_⟩;rw[we,← la];refine⟨_,rfl,A,B,C,pm,ta,tb,tc,ra,rb,rc,rfl,hM,by omega,by omega,by omega,fun ph ua ub uc va vb vc H3 g3 hN=>?_⟩;have hM3:=hM.mono g3;have n5:n<=5:=by rcases nab with h|h <;> omega
 obtain⟨wA,wB,wC,_⟩:=wM;refine⟨_,rfl,_,rfl,k,A,B,C,n,m,s,ph,ua,ub,uc,va,vb,vc,rfl,hk,hN,ft,n5,oM,⟨wA,wB,wC⟩,m1,by omega,s1,by omega,fun R L U X S a b pt H4 g4 ⟨ys,hpt⟩ I cAt=>?_⟩;have hM4:=hM3.mono g4;have hN4:=hN.mono g4;refine⟨_,rfl,_,rfl,machD A B C,machD A B C,hN4.rp,hM4.rp,Yg A B C,Yg A B C,wI (vJ _ _) (wI (JL A B C) (by decide)),_,rfl,?_⟩;rw[Qw];refine iteF ?_;refine⟨_,rfl,_,_,_,_,rfl,TyOf.tup hpt,zf1 K,_,rfl,iteF ?_⟩;have ew:∀ t,t<=10->∀ r∈blkT k m A B t,∀ x∈r,whk k 174 x:=fun t ht r hr x hx=>(ziY hk oM (fun e=>by have:=n3 e;omega) wA wB t r hr x hx).mono (by omega)
 have sA80:∀ r∈A,∀ x∈r,szk k 80 x:=fun r hr x hx _=>oM.a.sz r hr x hx
 have sC80:∀ r∈C,∀ x∈r,szk k 80 x:=fun r hr x hx _=>oM.c.sz r hr x hx
 refine⟨_,rfl,_,rfl,_,rfl,_,_,rfl,rfl,yI (by decide) (by decide),k,A,B,C,n,m,s,n+n,80,174,80,_,pm,ta,tb,tc,ra,rb,rc,rfl,(by omega),hk,hM4,⟨oM.a.ok,oM.a.len⟩,⟨oM.b.ok,oM.b.len⟩,⟨oM.c.ok,oM.c.len⟩,n1,n10,m1,by omega,by omega,by omega,sA80,sC80,(fun t ht r hr x hx=>(ew t (by omega) r hr x hx).szk (by decide)),by decide,by decide,fun ts ps H5 g5 hps lts tabs=>?_⟩;have okb:=JV hk oM.a.ok oM.a.len oM.b.ok oM.b.len;have okM:∀ t,t<n+n->La.OkM k m (kai k m C (blkT k m A B t))/\(kai k m C (blkT k m A B t)).length=s:=fun t _=>by
  have o:=La.jo hk (c:=m) oM.c.ok (okb t).1;exact⟨o.2,o.1.trans oM.c.len⟩
 have szM:∀ t,t<n+n->∀ r∈kai k m C (blkT k m A B t),∀ x∈r,szk k 190 x:=fun t ht r hr x hx=>by
  unfold kai at hr;obtain⟨c,hc,rfl⟩:=wm.mp hr;obtain⟨d,hd,rfl⟩:=wm.mp hx;have oc:=oM.c.ok c hc;have od:=zZ (okb t).1 d hd;rw[(okb t).2]at od;intro k0;exact(zdw hk oc.2 od.2 oc.1 (show n<=2^2 by have:=n3 k0;omega) (wC.sz c hc) (xA (okb t).1 (ew t (by omega)) d hd)).szk (by decide) k0
 refine⟨_,rfl,_,rfl,_,rfl,_,rfl,k,(fun t=>kai k m C (blkT k m A B t)),n,m,s,_,ps,ts,rfl,rfl,hps,lts,n1,n10,by omega,by omega,okM,tabs,fun pq rq H6 g6 hq=>?_⟩;have oH:La.OkM k (n*m) (sqT (fun t=>kai k m C (blkT k m A B t)) n s n):=fun r hr=>by
  obtain⟨i,q,hi,hq',rfl⟩:=(Jw n).mp hr;exact zd2 okM hi hq' n (ww n)
 have nm:n*m<=5*2:=vf n5 m2;have ns:n*s<=5*2:=vf n5 s2;refine⟨k,n*m,190,_,pq,rq,rfl,hs,hq,oH,(fun r hr=>by
  obtain⟨i,q,hi,hq',rfl⟩:=(Jw n).mp hr;exact ziw okM szM hi hq' n (ww n)),by omega,(fun e=>wI (qN _ (show min (n*m) _<=6 from wI (vJ _ _) (wI (vf (n3 e) m2) (by decide)))) (by decide)),(by rw[zcm];omega),fun Z lz tz rz H7 g7 hZ iZ eZ _=>?_⟩
 have lrz:=zk hZ.2;have okA:=I.okA hk;have okB:=I.okB hk;have okC:=I.okC hk;have ab:=I.ab;have stN:∀(F:Type) [Lean.Grind.Field F] (φ:La.Kf k F) (i:Nat),i<b->La.Rm φ (La.kry k (cA k n a b A X S) (kaa m (cB k m a b B S)) (n - 1)) (La.kah i 1):=fun F _ φ i hi=>by
  have sB:∀ v,La.Rm φ (La.kry k (cA k n a b A X S) (kaa m (cB k m a b B S)) (b - 1+1)) v->La.Rm φ (La.kry k (cA k n a b A X S) (kaa m (cB k m a b B S)) (b - 1)) v:=fun v hv=>by
   rw[show b - 1+1=b by omega]at hv;exact La.qH hk okA.2 okA.1 (I.tB hk) (by omega) v hv
  have h1:=(La.jg hk okA.2 okA.1 (I.tB hk) sB (show b - 1<=n by omega) _).mp (I.steered hk φ hi);exact(La.jg hk okA.2 okA.1 (I.tB hk) sB (show b - 1<=n - 1 by omega) _).mpr h1
 have obN:∀(F:Type) [Lean.Grind.Field F] (φ:La.Kf k F) (u:Nat->F),(∀ w,La.Rm φ (La.kry k (kaa b (cA k n a b A X S)) (cC k n a b C X) (n - 1)) w->La.dot b w u=0)->∀ i,i<b->u i=0:=fun F _ φ u hu i hi=>by
  have sB:∀ v,La.Rm φ (La.kry k (kaa b (cA k n a b A X S)) (cC k n a b C X) (b - 1+1)) v->La.Rm φ (La.kry k (kaa b (cA k n a b A X S)) (cC k n a b C X) (b - 1)) v:=fun v hv=>by
   rw[show b - 1+1=b by omega]at hv;exact La.qH hk (I.tA hk) (zj b _) okC.2 (by omega) v hv
  refine I.seenAll hk φ (fun w hw=>hu w ?_) hi;have h1:=(La.jg hk (I.tA hk) (zj b _) okC.2 sB (show b - 1<=n by omega) _).mp hw;exact(La.jg hk (I.tA hk) (zj b _) okC.2 sB (show b - 1<=n - 1 by omega) _).mpr h1
 have mk:∀ i q,i<=n - 1->q<s->∀ j l,j<=n - 1->l<m->(sqR (fun t=>kai k m C (blkT k m A B t)) i q n)[j*m+l]?=some (La.ndot k ((cC k n a b C X).getD q []) (powX k (cA k n a b A X S) ((kaa m (cB k m a b B S)).getD l []) (i+j))):=fun i q hi hq' j l hj hl=>by
  rw[zgG okM (by omega) hq' hl n j (by omega) (ww n),zas (by rw[oM.c.len];exact hq') hl,I.mark hk hl (by rw[oM.c.len];exact hq') (i+j)]
 have en:n - 1+1=n:=by omega
 have rank:Z.length=b:=by
  refine zcC hk okA.2 okA.1 (N:=n - 1) (h:=m) (C:=cC k n a b C X) (Bt:=kaa m (cB k m a b B S)) (H:=sqT (fun t=>kai k m C (blkT k m A B t)) n s n) okC.2 (I.tB hk) (zj m _) stN obN (by rw[en];exact oH) (fun r hr=>?_) (fun i q hi hq'=>?_) (by rw[en];exact⟨lz,iZ⟩) eZ
  ·obtain⟨i,q,hi,hq',rfl⟩:=(Jw n).mp hr;exact⟨i,q,by omega,by rw[okC.1,oM.c.len];exact hq',mk i q (by omega) hq'⟩
  ·rw[okC.1,oM.c.len]at hq';exact⟨_,(Jw n).mpr ⟨i,q,by omega,hq',rfl⟩,mk i q hi hq'⟩
 have g57:=g6.trans g7;have g47:=g5.trans g57;refine⟨tz,_,rfl,.inl (SqL.of hZ.1),?_⟩;rw[we,← lrz,rank];refine⟨_,rfl,rfl,_,rfl,?_⟩
 rcases cAt with⟨b0,hno⟩|⟨b1,zx,zs,pi,wa,wb,wc,xa,xb,xc,hco,MI,GI,cX,cS,zz⟩
 ·rw[decide_eq_true (by rw[b0];rfl)];refine iteT ?_;refine⟨_,rfl,(by show 1<=sizeLine;decide),fun pn hpn=>?_⟩;have g8:=zg hpn (.tup [.str "none"]);have hn8:upd H7 pn (.tup [.str "none"]) pn=some (.tup [.str "none"]):=zh;refine⟨nonD,nonD,zif (g8 _ _ (g47 _ _ hno)),zif hn8,(by decide +kernel),(by decide +kernel),wI (GV _ _) (by decide),?_⟩;show Q (.bl (PyData.eqv nonD nonD)) _;rw[show PyData.eqv nonD nonD=true by decide];exact q _
 rw[decide_eq_false (fun z=>by have:=V.int.inj z;omega)];refine iteF ?_;have hco7:=g47 _ _ hco;refine⟨_,rfl,pt,_,rfl,.inr (SqT.of hco7),rfl,_,rfl,iteF ?_⟩;refine⟨_,rfl,pt,_,_,.str "core",rfl,rfl,SqT.of hco7,rfl,.str "core",.str "core",zdq _,zdq _,(by decide +kernel),(by decide +kernel),wI (vJ _ _) (by decide),_,rfl,?_⟩;rw[show PyData.eqv (.str "core") (.str "core")=true by decide];refine iteF ?_;refine⟨_,rfl,pt,_,_,.ref pi,rfl,rfl,SqT.of hco7,rfl,?_⟩;have g37:=g4.trans g47;have hM7:=hM4.mono g47;have MI7:=MI.mono g47;have lC':(cC k n a b C X).length=s:=okC.1.trans oM.c.len;have lxa:=zk MI7.a.2;rw[okA.1]at lxa;have lB:=oM.b.len;have eB0:B[0]?=some (B[0]'(by omega)):=wg (by omega);obtain⟨b0,eb0,rb0⟩:=yH hM7.b.2 eB0;obtain⟨us0,hu0,pu0,lu0⟩:=rb0.len;have lB0:=(oM.b.ok _ (wk eB0)).1;have lrc:=zk hM7.c.2;rw[oM.c.len]at lrc;refine⟨_,rfl,_,rfl,_,rfl,pm,_,_,.ref tb,rfl,rfl,SqT.of hM7.tup,rfl,tb,_,_,.ref b0,rfl,rfl,SqL.of hM7.b.1,zP (j:=0) (by rw[wo,eb0];rfl),b0,_,rfl,.inl (SqL.of hu0),_,rfl,pm,_,_,.ref tc,rfl,rfl,SqT.of hM7.tup,rfl,tc,_,rfl,.inl (SqL.of hM7.c.1),k,cA k n a b A X S,cB k m a b B S,cC k n a b C X,b,m,s,_,_,pi,wa,wb,wc,xa,xb,xc,rfl,(by rw[lu0,lB0]),(by rw[we,← lrc]),hk,MI7,⟨okA.2,okA.1⟩,⟨okB.2,okB.1⟩,⟨okC.2,lC'⟩,b1,by omega,by omega,fun H8 g8=>⟨_,rfl,iteF ?_⟩⟩;have MI8:=MI7.mono g8;have hz:zx<=36512/\zs<=1168392:=by omega
 obtain⟨oS',lS'⟩:=I.oS' hk;obtain⟨oX',lX'⟩:=I.oX' hk;have n4:k=0->n<=4:=fun e=>by have:=n3 e;omega
 have rS:∀ r∈cutR a b S,k=0->La.rowB zs r:=fun r hr k0=>cS k0 r (Zq hr)
 have rX:∀ r∈cutR a b X,k=0->La.rowB zx r:=fun r hr k0=>cX k0 r (Zq hr)
 have sA':∀ r∈cA k n a b A X S,∀ x∈r,szk k 1204930 x:=fun r hr x hx=>by
  obtain⟨s0,hs0,y,hy,rfl⟩:=I.entA hk hr hx;have os:=oS' s0 hs0;have oy:=oX' y hy;have oi:(imgM k A y).length=A.length/\La.OkR k (imgM k A y):=La.XW hk oM.a.ok oy.2;refine Ja hk n4 os.2 oi.2 os.1 (rS s0 hs0) (fun k0=>zdu (T:=14) (D:=1) hk (n4 k0) oM.a.ok (by decide) (by decide) (fun r' hr' x' hx'=>Yn k0 (wA.sz r' hr' x' hx')) oy.2 (rX y hy k0)) ?_;omega
 have sC':∀ r∈cC k n a b C X,∀ x∈r,szk k 36700 x:=fun r hr x hx=>by
  obtain⟨c0,hc0,y,hy,rfl⟩:=I.entC hk hr hx;have oc:=oM.c.ok c0 hc0;have oy:=oX' y hy;exact Ja hk n4 oc.2 oy.2 oc.1 (zaE (by decide) oc.2 (wC.sz c0 hc0)) (rX y hy) (by omega)
 have oBt:=I.tBn hk;have wBt:=xA wB.ok wB.sz;have sP:∀ l,l<m->∀ t,t<=10->∀ x∈powX k (cA k n a b A X S) ((kaa m (cB k m a b B S)).getD l []) t,szk k (zs+200) x:=fun l hl t ht x hx=>by
  rw[I.powL hk hl t]at hx;obtain⟨s0,hs0,rfl⟩:=wm.mp hx;have os:=oS' s0 hs0;have gl:=wk (getT B hl);have oc:=oBt _ gl;have op:=yQ hk oM.a.ok oM.a.len oc.2 oc.1 t;exact Ja hk n4 os.2 op.1 os.1 (rS s0 hs0) (zaE (m:=174) (by decide) op.1 fun y hy=>(JW hk n4 wA oc.2 oc.1 (wBt _ gl) t y hy).mono (by omega)) (by omega)
 have sB':∀ t,t<=n+n->∀ r∈blkT k m (cA k n a b A X S) (cB k m a b B S) t,∀ x∈r,szk k (zs+200) x:=fun t ht=>by
  have ob:=JV hk okA.2 okA.1 okB.2 okB.1 t;have cz:∀ r∈kaa m (blkT k m (cA k n a b A X S) (cB k m a b B S) t),∀ x∈r,szk k (zs+200) x:=fun r hr x hx=>by
   rw[zde t]at hr;obtain⟨c0,hc0,rfl⟩:=wm.mp hr;obtain⟨l,hl,el⟩:=wG hc0;rw[zj]at hl;have ec:(kaa m (cB k m a b B S)).getD l []=c0:=by rw[wj,wg (by rw[zj];exact hl),el];rfl
   rw[← ec]at hx;exact sP l hl t (by omega) x hx
  have tt:=zjZ (fun r hr=>(zZ ob.1 r hr).1) cz;rw[qs ob.1]at tt;exact tt
 have meq:∀ t,kai k m (cC k n a b C X) (blkT k m (cA k n a b A X S) (cB k m a b B S) t)=kai k m C (blkT k m A B t):=fun t=>by
  have o1:=La.jo hk (c:=m) okC.2 (JV hk okA.2 okA.1 okB.2 okB.1 t).1;have o2:=La.jo hk (c:=m) oM.c.ok (okb t).1;have e1:(kai k m (cC k n a b C X) (blkT k m (cA k n a b A X S) (cB k m a b B S) t)).length=s:=o1.1.trans lC';have e2:(kai k m C (blkT k m A B t)).length=s:=o2.1.trans oM.c.len;refine gK (by rw[e1,e2]) fun q h1 h2=>?_
  have hq':q<s:=by rw[← e1];exact h1
  have w1:=o1.2 _ (wp h1);have w2:=o2.2 _ (wp h2);refine uZ fun l=>?_
  rcases wO l m with hl|hl
  ·have a1:=zas (k:=k) (t:=t) (A:=cA k n a b A X S) (B:=cB k m a b B S) (C:=cC k n a b C X) (by rw[lC'];exact hq') hl;have a2:=zas (k:=k) (t:=t) (A:=A) (B:=B) (C:=C) (by rw[oM.c.len];exact hq') hl;rw[wj,wg h1]at a1;rw[wj,wg h2]at a2;rw[I.mark hk hl (by rw[oM.c.len];exact hq') t]at a1;exact a1.trans a2.symm
  ·rw[wK (wI (uS w1.1) hl),wK (wI (uS w2.1) hl)]
 refine⟨_,rfl,pi,_,_,.ref wa,rfl,rfl,SqT.of MI8.tup,rfl,wa,_,rfl,.inl (SqL.of MI8.a.1),_,rfl,rfl,_,rfl,?_⟩;rw[we,← lxa,decide_eq_true rfl];refine iteF ?_;refine⟨_,rfl,_,rfl,_,rfl,_,_,rfl,rfl,yI (by decide) (by decide),k,cA k n a b A X S,cB k m a b B S,cC k n a b C X,b,m,s,n+n,1204930,zs+200,36700,_,pi,wa,wb,wc,xa,xb,xc,rfl,(by omega),hk,MI8,⟨okA.2,okA.1⟩,⟨okB.2,okB.1⟩,⟨okC.2,lC'⟩,b1,by omega,m1,by omega,by omega,by omega,sA',sC',sB',by omega,by omega,fun ts2 ps2 H9 g9 hps2 lts2 tabs2=>?_⟩;have g59:=(g57.trans g8).trans g9;refine⟨_,rfl,tabsD ((vd (n+n)).map fun t=>kai k m C (blkT k m A B t)),tabsD ((vd (n+n)).map fun t=>kai k m C (blkT k m A B t)),ze0 hps2 lts2 (fun t ht=>by
  obtain⟨a',rs',e,T⟩:=tabs2 t ht;rw[meq t]at T;exact⟨a',rs',e,T⟩),ze0 (g59 _ _ hps) lts (fun t ht=>by
  obtain⟨a',rs',e,T⟩:=tabs t ht;exact⟨a',rs',e,T.mono g59⟩),zbr _,zbr _,wI (vJ _ _) (wI (zc0 _) (by decide)),_,rfl,?_⟩
 rw[zeb];refine iteF ?_;have MI9:=MI8.mono g9;have bz:k=0->bdR (zs+200) b<=30000000:=fun e=>by
  have:=n3 e
  rcases zz with⟨bn,_,e2⟩|⟨bn,_,e2⟩
  ·rw[e2];exact wI (qN _ (show b<=2 by omega)) (by decide)
  ·rw[e2];exact wI (qN _ (show b<=3 by omega)) (by decide)
 refine⟨_,rfl,_,rfl,k,cA k n a b A X S,cB k m a b B S,cC k n a b C X,b,m,1204930,zs+200,pi,wa,wb,wc,xa,xb,xc,rfl,hs,MI9,⟨okA.2,okA.1⟩,⟨okB.2,okB.1⟩,b1,by omega,by omega,sA',(fun c0 hc0 t ht x hx=>by
  obtain⟨l,hl,el⟩:=wG hc0;rw[zj]at hl;have ec:(kaa m (cB k m a b B S)).getD l []=c0:=by rw[wj,wg (by rw[zj];exact hl),el];rfl
  rw[← ec]at hx;exact sP l hl t (by omega) x hx),by omega,bz,fun R2 l2 t2 r2 H10 g10 hR2 iR2 eR2=>?_⟩
 have lR2:R2.length=b:=zjb hk iR2 fun F _ φ i hi=>(eR2 F φ _).mpr (I.steeredB hk φ hi)
 have lr2:=zk hR2.2;refine⟨t2,_,rfl,.inl (SqL.of hR2.1),_,rfl,rfl,_,rfl,?_⟩;rw[we,← lr2,lR2,decide_eq_true rfl];refine iteF ?_;have MI10:=MI9.mono g10;have wAt:TW k n n 14 (kaa n A):=⟨zj n A,I.tAn hk,xA wA.ok wA.sz⟩;refine⟨_,rfl,_,rfl,_,rfl,_,rfl,k,cA k n a b A X S,cB k m a b B S,cC k n a b C X,b,s,1204930,36700,_,pi,wa,wb,wc,xa,xb,xc,rfl,rfl,hk,MI10,⟨okA.2,okA.1⟩,⟨okC.2,lC'⟩,b1,by omega,by omega,sA',(fun c0 hc0 t ht x hx=>by
  obtain⟨q0,hq0,eq0⟩:=wG hc0;have hq1:q0<C.length:=by rw[← okC.1];exact hq0
  have ec:(cC k n a b C X).getD q0 []=c0:=by rw[wj,wg hq0,eq0];rfl
  rw[← ec,I.powD hk hq1 (by omega)]at hx;obtain⟨y,hy,rfl⟩:=wm.mp hx;have oy:=oX' y hy;have gC:C.getD q0 []∈C:=by rw[wj,wg hq1];exact wp _
  have oc:=oM.c.ok _ gC;have op:=yQ hk (I.tAn hk) (zj n A) oc.2 oc.1 t;exact Ja hk n4 op.1 oy.2 op.2 (zaE (m:=174) (by decide) op.1 fun y hy=>(JW hk n4 wAt oc.2 oc.1 (wC.sz _ gC) t y hy).mono (by omega)) (rX y hy) (by omega)),by omega,fun S1 p1 r1 H11 g11 hS1 oS1 sS1 lS1 eS1=>?_⟩
 refine⟨_,rfl,k,b,36700,_,S1,p1,r1,rfl,rfl,hs,hS1,oS1,sS1,(fun e=>wI (qN _ (show b<=3 by have:=n3 e;omega)) (by decide)),b1,by omega,by omega,(fun F _ φ i hi=>(eS1 F φ _).mpr (I.seenB hk φ hi)),fun t3 H12 g12 h12=>?_⟩;refine⟨t3,_,rfl,.inl (SqL.of h12),rfl,_,rfl,iteF ?_⟩;have g412:=((((g47.trans g8).trans g9).trans g10).trans g11).trans g12;have MI12:=MI.mono g412;have G12:=GI.mono g412;have A0:Apn H3 H12 [wa,wb,wc] [xa,xb,xc] 0 0:=by
  refine⟨G12.same,fun j t r _ h1 h2=>?_,fun j r a' h1 h2=>?_⟩
  ·obtain⟨M',t',ras,f1,f2,f3,hTb⟩:=G12.get (i:=j) (by rw[← G12.lt];exact(wq.mp h1).1);rw[h1]at f2;rw[h2]at f3;cases f2;cases f3;exact hTb.1
  ·obtain⟨M',t',ras,f1,f2,f3,hTb⟩:=G12.get (i:=j) (by rw[← G12.lr];exact(wq.mp h1).1);rw[h1]at f3;cases f3;obtain⟨xs,hxs,hxr⟩:=Ym hTb.2 h2;obtain⟨us,hu,_,lu⟩:=hxr.len;refine⟨us,hu,?_⟩;rw[lu]
   match j,f1 with
   | 0,f1=>cases f1;rw[(okA.2 xs hxs).1];omega
   | 1,f1=>cases f1;rw[(okB.2 xs hxs).1];omega
   | 2,f1=>cases f1;rw[(okC.2 xs hxs).1];omega
 have lrow:∀(l:Nat)(r:List Addr),([xa,xb,xc]:List (List Addr))[l]?=some r->r.length<=10:=fun l r hr=>by
  have w1:=zk MI12.a.2;have w2:=zk MI12.b.2;have w3:=zk MI12.c.2;rw[okA.1]at w1;rw[okB.1]at w2;rw[lC']at w3
  match l,hr with
  | 0,hr=>cases hr;omega
  | 1,hr=>cases hr;omega
  | 2,hr=>cases hr;omega
 refine⟨_,rfl,pi,rfl,⟨_,SqT.of MI12.tup⟩,?_⟩;refine zjo (xs:=[.ref wa,.ref wb,.ref wc]) (fun l σ H'=>∃(o11 o12:Option V)(cn:Nat),σ=[some (.ref asc),some (.ref p3),some (.int k),some (.ref pm),some (.int (at':Int)),some (.int (n:Int)),some (.ref ph),some (.ref pt),some (.ref ps),some (.int (b:Int)),some (.ref pi),o11,o12]/\Apn H3 H' [wa,wb,wc] [xa,xb,xc] l cn/\cn<=l*10/\H' pi=some (.tup [.ref wa,.ref wb,.ref wc])) ⟨none,none,0,rfl,A0,vC _,MI12.tup⟩ ?_ ?_ ?_
 ·rintro l σ H' _ ⟨o11,o12,cn,rfl,_,_,hpi⟩
  exact SqT.of hpi
 ·rintro l v σ H' hv ⟨o11,o12,cn,rfl,J,cl,hpi⟩
  have l3:l<3:=(wq.mp hv).1;obtain⟨t,r,rfl,ht,hr'⟩ : ∃ t r,v=.ref t/\[wa,wb,wc][l]?=some t/\[xa,xb,xc][l]?=some r:=by
   match l,hv with
   | 0,hv=>cases hv;exact⟨wa,xa,rfl,rfl,rfl⟩
   | 1,hv=>cases hv;exact⟨wb,xb,rfl,rfl,rfl⟩
   | 2,hv=>cases hv;exact⟨wc,xc,rfl,rfl,rfl⟩
  have lr10:=lrow l r hr';have hti:=J.tab l t r (ww l) ht hr';refine⟨_,rfl,t,rfl,⟨_,SqL.of hti⟩,?_⟩;refine yP (xs:=r.map V.ref) (fun i σ H'=>∃(o12:Option V)(cn:Nat),σ=[some (.ref asc),some (.ref p3),some (.int k),some (.ref pm),some (.int (at':Int)),some (.int (n:Int)),some (.ref ph),some (.ref pt),some (.ref ps),some (.int (b:Int)),some (.ref pi),some (.ref t),o12]/\Apn H3 H' [wa,wb,wc] [xa,xb,xc] l cn/\cn<=l*10+i/\H' pi=some (.tup [.ref wa,.ref wb,.ref wc])) ⟨o12,cn,rfl,J,by omega,hpi⟩ ?_ ?_ ?_
  ·rintro i σ H2 _ ⟨o12,cn,rfl,J,_,_⟩
   exact SqL.of (J.tab l t r (ww l) ht hr')
  ·rintro i v σ H2 hv ⟨o12,cn,rfl,J,cl,hpi⟩
   rw[wo]at hv;obtain⟨a',ha',rfl⟩:=wR.mp hv;have hi:i<r.length:=(wq.mp ha').1;have mem:=wk ha';obtain⟨us,hu,lu⟩:=J.row l r a' hr' mem;have npi:pi≠a':=fun e=>by rw[← e,hpi]at hu;cases hu
   refine⟨_,rfl,.inl ⟨rfl,_,SqL.of hu⟩,a',us,_,rfl,rfl,hu,(by omega),?_⟩;exact⟨_,cn+1,rfl,J.rowStep G12.sep hr' mem (G12.frr r (wk hr') a' mem) hu,by omega,by rw[zN npi];exact hpi⟩
  ·rintro σ H2 ⟨o12,cn,rfl,J,cl,hpi⟩
   rw[we]at cl;have hti:=J.tab l t r (ww l) ht hr';have npi:pi≠t:=fun e=>by rw[← e,hpi]at hti;cases hti
   refine⟨_,rfl,.inl ⟨rfl,_,SqL.of hti⟩,t,_,_,rfl,rfl,hti,(by rw[we];omega),?_⟩;exact⟨_,_,cn,rfl,J.tabStep G12.sep G12.nd ht (G12.frt t (wk ht)),by omega,by rw[zN npi];exact hpi⟩
 ·rintro σ H' ⟨o11,o12,cn,rfl,J,cl,hpi⟩
  refine⟨_,rfl,_,rfl,machD A B C,machD A B C,(hN.mono J.same).rp,(hM3.mono J.same).rp,Yg A B C,Yg A B C,wI (vJ _ _) (wI (JL A B C) (by decide)),?_⟩;show Q (.bl (PyData.eqv (machD A B C) (machD A B C))) H';rw[Qw];exact q H'
end
end KL
open PySem PySem.W PyProof.Rows
abbrev zPr:=(PySem.Challenge.rw_steermill_k42_whole_cores).prog
set_option maxRecDepth 100000 in
set_option maxHeartbeats 0 in
theorem PySem.Challenge.cw_steermill_k42_whole_cores_holds : PySem.Challenge.rw_steermill_k42_whole_cores.Holds := by
 refine L2.zeG (l:=PySem.Challenge.rw_steermill_k42_whole_cores) 54 3200 KL.lk KL.lv KL.h_ws rfl rfl rfl (by kernel_rfl) (by decide) (fun s=>by kernel_rfl) ⟨KL.h_st,KL.h_sn,KL.h_lk⟩ (by kernel_rfl) (by kernel_rfl) (by kernel_rfl) (by kernel_rfl) (by kernel_rfl) (by kernel_rfl) ⟨rfl,rfl,rfl,rfl,rfl,by decide +kernel⟩ (by w_witness2) (by decide +kernel) ⟨rfl,by decide,by decide⟩ ?F
 case F =>
  intro w mg fa h K KX hq G hmg
  have qf:=congrArg (·.1) hq
  have qm:=congrArg (·.2.1) hq
  have qe:=congrArg (·.2.2.1) hq
  have qc:=congrArg (·.2.2.2) hq
  have YU:L2.Df K mg "common_divisor" ["one", "other"] KL.xw:=L2.yc KX G (L2.zF qf 0 rfl rfl) fun _ _ _ _ _ _ us hl=>L2.kau (fun _ _=>rfl) us hl
  have zcR:L2.Df K mg "fraction" ["top", "bottom"] KL.ZB:=L2.yc KX G (L2.zF qf 1 rfl rfl) fun _ _ _ _ _ _ us hl=>L2.kau (fun _ _=>rfl) us hl
  have zct:L2.Df K mg "one_over" ["prime", "rest"] KL.Zx:=L2.yc KX G (L2.zF qf 2 rfl rfl) fun _ _ _ _ _ _ us hl=>L2.kau (fun _ _=>rfl) us hl
  have zgC:L2.Df K mg "number" ["kind", "whole"] KL.XI:=L2.yc KX G (L2.zF qf 3 rfl rfl) fun _ _ _ _ _ _ us hl=>L2.kau (fun _ _=>rfl) us hl
  have zhZ:L2.Df K mg "minus" ["kind", "one", "other"] KL.zar:=L2.yc KX G (L2.zF qf 4 rfl rfl) fun _ _ _ _ _ _ us hl=>L2.kaw (fun _ _ _=>rfl) us hl
  have zjx:L2.Df K mg "over" ["kind", "one", "other"] KL.zdp:=L2.yc KX G (L2.zF qf 5 rfl rfl) fun _ _ _ _ _ _ us hl=>L2.kaw (fun _ _ _=>rfl) us hl
  have zgI:L2.Df K mg "scaled" ["kind", "row"] KL.XO:=L2.yc KX G (L2.zF qf 6 rfl rfl) fun _ _ _ _ _ _ us hl=>L2.kau (fun _ _=>rfl) us hl
  have zcN:L2.Df K mg "quotient" ["kind", "top", "bottom"] KL.ZC:=L2.yc KX G (L2.zF qf 7 rfl rfl) fun _ _ _ _ _ _ us hl=>L2.kaw (fun _ _ _=>rfl) us hl
  have zbw:L2.Df K mg "whole_sum" ["one", "other"] KL.qu:=L2.yc KX G (L2.zF qf 8 rfl rfl) fun _ _ _ _ _ _ us hl=>L2.kau (fun _ _=>rfl) us hl
  have YN:L2.Df K mg "sum_of_products" ["kind", "one", "other"] KL.yX:=L2.yc KX G (L2.zF qf 9 rfl rfl) fun _ _ _ _ _ _ us hl=>L2.kaw (fun _ _ _=>rfl) us hl
  have zhV:L2.Df K mg "eased" ["kind", "wholes"] KL.zaH:=L2.yc KX G (L2.zF qf 10 rfl rfl) fun _ _ _ _ _ _ us hl=>L2.kau (fun _ _=>rfl) us hl
  have zeN:L2.Df K mg "cleared" ["kind", "row", "lead_row", "column"] KL.YH:=L2.yc KX G (L2.zF qf 11 rfl rfl) fun _ _ _ _ _ _ us hl=>L2.bind4 (fun _ _ _ _=>rfl) us hl
  have zhx:L2.Df K mg "swept" ["kind", "rows"] KL.zaf:=L2.yc KX G (L2.zF qf 12 rfl rfl) fun _ _ _ _ _ _ us hl=>L2.kau (fun _ _=>rfl) us hl
  have zeR:L2.Df K mg "noughts" ["kind", "width"] KL.Yl:=L2.yc KX G (L2.zF qf 13 rfl rfl) fun _ _ _ _ _ _ us hl=>L2.kau (fun _ _=>rfl) us hl
  have zeF:L2.Df K mg "abreast" ["one", "other"] KL.Ye:=L2.yc KX G (L2.zF qf 14 rfl rfl) fun _ _ _ _ _ _ us hl=>L2.kau (fun _ _=>rfl) us hl
  have zgm:L2.Df K mg "strung" ["rows"] KL.XL:=L2.yc KX G (L2.zF qf 15 rfl rfl) fun _ _ _ _ _ _ us hl=>L2.bind1 (fun _=>rfl) us hl
  have zgh:L2.Df K mg "turned" ["table"] KL.XJ:=L2.yc KX G (L2.zF qf 16 rfl rfl) fun _ _ _ _ _ _ us hl=>L2.bind1 (fun _=>rfl) us hl
  have zen:L2.Df K mg "product" ["kind", "one", "other"] KL.YB:=L2.yc KX G (L2.zF qf 17 rfl rfl) fun _ _ _ _ _ _ us hl=>L2.kaw (fun _ _ _=>rfl) us hl
  have zhW:L2.Df K mg "image" ["kind", "table", "row"] KL.zaG:=L2.yc KX G (L2.zF qf 18 rfl rfl) fun _ _ _ _ _ _ us hl=>L2.kaw (fun _ _ _=>rfl) us hl
  have zjm:L2.Df K mg "unit" ["kind", "size"] KL.zdf:=L2.yc KX G (L2.zF qf 19 rfl rfl) fun _ _ _ _ _ _ us hl=>L2.kau (fun _ _=>rfl) us hl
  have YE:L2.Df K mg "over_one_bottom" ["kind", "table"] KL.yW:=L2.yc KX G (L2.zF qf 20 rfl rfl) fun _ _ _ _ _ _ us hl=>L2.kau (fun _ _=>rfl) us hl
  have zeO:L2.Df K mg "lead_of" ["kind", "row"] KL.Yh:=L2.yc KX G (L2.zF qf 21 rfl rfl) fun _ _ _ _ _ _ us hl=>L2.kau (fun _ _=>rfl) us hl
  have zbM:L2.Df K mg "over_lead" ["kind", "wholes"] KL.qr:=L2.yc KX G (L2.zF qf 22 rfl rfl) fun _ _ _ _ _ _ us hl=>L2.kau (fun _ _=>rfl) us hl
  have zem:L2.Df K mg "reduced" ["kind", "rows"] KL.YD:=L2.yc KX G (L2.zF qf 23 rfl rfl) fun _ _ _ _ _ _ us hl=>L2.kau (fun _ _=>rfl) us hl
  have ziM:L2.Df K mg "back" ["kind", "table"] KL.zdZ:=L2.yc KX G (L2.zF qf 24 rfl rfl) fun _ _ _ _ _ _ us hl=>L2.kau (fun _ _=>rfl) us hl
  have zbz:L2.Df K mg "turned_by" ["kind", "machine", "T", "S"] KL.qv:=L2.yc KX G (L2.zF qf 25 rfl rfl) fun _ _ _ _ _ _ us hl=>L2.bind4 (fun _ _ _ _=>rfl) us hl
  have zfB:L2.Df K mg "joined" ["kind", "one", "other"] KL.XT:=L2.yc KX G (L2.zF qf 26 rfl rfl) fun _ _ _ _ _ _ us hl=>L2.kaw (fun _ _ _=>rfl) us hl
  have QS:L2.Df K mg "against_by" ["kind", "n", "rows", "free"] KL.jM:=L2.yc KX G (L2.zF qf 27 rfl rfl) fun _ _ _ _ _ _ us hl=>L2.bind4 (fun _ _ _ _=>rfl) us hl
  have zey:L2.Df K mg "against" ["kind", "n", "room"] KL.Yd:=L2.yc KX G (L2.zF qf 28 rfl rfl) fun _ _ _ _ _ _ us hl=>L2.kaw (fun _ _ _=>rfl) us hl
  have zj9:L2.Df K mg "met" ["kind", "n", "one", "other"] KL.zhy:=L2.yc KX G (L2.zF qf 29 rfl rfl) fun _ _ _ _ _ _ us hl=>L2.bind4 (fun _ _ _ _=>rfl) us hl
  have zex:L2.Df K mg "widened" ["kind", "table", "rows", "room"] KL.YM:=L2.yc KX G (L2.zF qf 30 rfl rfl) fun _ _ _ _ _ _ us hl=>L2.bind4 (fun _ _ _ _=>rfl) us hl
  have zav:L2.Df K mg "grown_room" ["kind", "table", "rows"] KL.jE:=L2.yc KX G (L2.zF qf 31 rfl rfl) fun _ _ _ _ _ _ us hl=>L2.kaw (fun _ _ _=>rfl) us hl
  have zci:L2.Df K mg "rests_of" ["table"] KL.ZJ:=L2.yc KX G (L2.zF qf 32 rfl rfl) fun _ _ _ _ _ _ us hl=>L2.bind1 (fun _=>rfl) us hl
  have zag:L2.Df K mg "least_room" ["kind", "table", "rows"] KL.jF:=L2.yc KX G (L2.zF qf 33 rfl rfl) fun _ _ _ _ _ _ us hl=>L2.kaw (fun _ _ _=>rfl) us hl
  have JY:L2.Df K mg "unseen_room" ["kind", "machine"] KL.jf:=L2.yc KX G (L2.zF qf 34 rfl rfl) fun _ _ _ _ _ _ us hl=>L2.kau (fun _ _=>rfl) us hl
  have Jf:L2.Df K mg "steered_room" ["kind", "machine"] KL.xS:=L2.yc KX G (L2.zF qf 35 rfl rfl) fun _ _ _ _ _ _ us hl=>L2.kau (fun _ _=>rfl) us hl
  have zg2:L2.Df K mg "picked" ["kind", "room", "rows"] KL.XH:=L2.yc KX G (L2.zF qf 36 rfl rfl) fun _ _ _ _ _ _ us hl=>L2.kaw (fun _ _ _=>rfl) us hl
  have zbZ:L2.Df K mg "stretches" ["kind", "machine"] KL.qP:=L2.yc KX G (L2.zF qf 37 rfl rfl) fun _ _ _ _ _ _ us hl=>L2.kau (fun _ _=>rfl) us hl
  have zeD:L2.Df K mg "parting" ["kind", "machine"] KL.YJ:=L2.yc KX G (L2.zF qf 38 rfl rfl) fun _ _ _ _ _ _ us hl=>L2.kau (fun _ _=>rfl) us hl
  have ziK:L2.Df K mg "core" ["kind", "machine"] KL.zdH:=L2.yc KX G (L2.zF qf 39 rfl rfl) fun _ _ _ _ _ _ us hl=>L2.kau (fun _ _=>rfl) us hl
  have zaI:L2.Df K mg "_law_whole" ["_law_found"] KL.jR:=L2.yc KX G (L2.zF qf 40 rfl rfl) fun _ _ _ _ _ _ us hl=>L2.bind1 (fun _=>rfl) us hl
  have JE:L2.Df K mg "_law_divisor" ["_law_one", "_law_other"] KL.xN:=L2.yc KX G (L2.zF qf 41 rfl rfl) fun _ _ _ _ _ _ us hl=>L2.kau (fun _ _=>rfl) us hl
  have zaJ:L2.Df K mg "_law_mixed" ["_law_cell", "_law_k"] KL.jT:=L2.yc KX G (L2.zF qf 42 rfl rfl) fun _ _ _ _ _ _ us hl=>L2.kau (fun _ _=>rfl) us hl
  have zaS:L2.Df K mg "_law_drawn" ["_law_prime_here", "_law_cell"] KL.jS:=L2.yc KX G (L2.zF qf 43 rfl rfl) fun _ _ _ _ _ _ us hl=>L2.kau (fun _ _=>rfl) us hl
  have XA:L2.Df K mg "_law_fraction" ["_law_top", "_law_bottom"] KL.xG:=L2.yc KX G (L2.zF qf 44 rfl rfl) fun _ _ _ _ _ _ us hl=>L2.kau (fun _ _=>rfl) us hl
  have zbq:L2.Df K mg "_law_make" ["_law_prime_here", "_law_whole_here"] KL.qC:=L2.yc KX G (L2.zF qf 45 rfl rfl) fun _ _ _ _ _ _ us hl=>L2.kau (fun _ _=>rfl) us hl
  have zbP:L2.Df K mg "_law_plus" ["_law_prime_here", "_law_one", "_law_other"] KL.qJ:=L2.yc KX G (L2.zF qf 46 rfl rfl) fun _ _ _ _ _ _ us hl=>L2.kaw (fun _ _ _=>rfl) us hl
  have zaO:L2.Df K mg "_law_times" ["_law_prime_here", "_law_one", "_law_other"] KL.jP:=L2.yc KX G (L2.zF qf 47 rfl rfl) fun _ _ _ _ _ _ us hl=>L2.kaw (fun _ _ _=>rfl) us hl
  have zam:L2.Df K mg "_law_minus" ["_law_prime_here", "_law_one", "_law_other"] KL.jN:=L2.yc KX G (L2.zF qf 48 rfl rfl) fun _ _ _ _ _ _ us hl=>L2.kaw (fun _ _ _=>rfl) us hl
  have YY:L2.Df K mg "_law_is_number" ["_law_prime_here", "_law_found"] KL.xt:=L2.yc KX G (L2.zF qf 49 rfl rfl) fun _ _ _ _ _ _ us hl=>L2.kau (fun _ _=>rfl) us hl
  have zau:L2.Df K mg "_law_image" ["_law_prime_here", "_law_table", "_law_column"] KL.jW:=L2.yc KX G (L2.zF qf 50 rfl rfl) fun _ _ _ _ _ _ us hl=>L2.kaw (fun _ _ _=>rfl) us hl
  have Qa:L2.Df K mg "_law_across" ["_law_table"] KL.jn:=L2.yc KX G (L2.zF qf 51 rfl rfl) fun _ _ _ _ _ _ us hl=>L2.bind1 (fun _=>rfl) us hl
  have JU:L2.Df K mg "_law_product" ["_law_prime_here", "_law_one", "_law_other"] KL.xU:=L2.yc KX G (L2.zF qf 52 rfl rfl) fun _ _ _ _ _ _ us hl=>L2.kaw (fun _ _ _=>rfl) us hl
  have Qb:L2.Df K mg "_law_is_row" ["_law_prime_here", "_law_found", "_law_many"] KL.jq:=L2.yc KX G (L2.zF qf 53 rfl rfl) fun _ _ _ _ _ _ us hl=>L2.kaw (fun _ _ _=>rfl) us hl
  have JQ:L2.Df K mg "_law_is_rows" ["_law_prime_here", "_law_found", "_law_rows", "_law_columns"] KL.xR:=L2.yc KX G (L2.zF qf 54 rfl rfl) fun _ _ _ _ _ _ us hl=>L2.bind4 (fun _ _ _ _=>rfl) us hl
  have zbb:L2.Df K mg "_law_back" ["_law_prime_here", "_law_one"] KL.qG:=L2.yc KX G (L2.zF qf 55 rfl rfl) fun _ _ _ _ _ _ us hl=>L2.kau (fun _ _=>rfl) us hl
  have Jb:L2.Df K mg "_law_reduced" ["_law_prime_here", "_law_rows"] KL.xX:=L2.yc KX G (L2.zF qf 56 rfl rfl) fun _ _ _ _ _ _ us hl=>L2.kau (fun _ _=>rfl) us hl
  have zaK:L2.Df K mg "_law_prime" ["_law_cell"] KL.xB:=L2.yc KX G (L2.zF qf 57 rfl rfl) fun _ _ _ _ _ _ us hl=>L2.bind1 (fun _=>rfl) us hl
  have zet:L2.Df K mg "_law_at" ["_law_prime_here", "_law_cells", "_law_k"] KL.Yk:=L2.yc KX G (L2.zF qf 58 rfl rfl) fun _ _ _ _ _ _ us hl=>L2.kaw (fun _ _ _=>rfl) us hl
  have QX:L2.Df K mg "_law_small" ["_law_prime_here", "_law_cells", "_law_k"] KL.jV:=L2.yc KX G (L2.zF qf 59 rfl rfl) fun _ _ _ _ _ _ us hl=>L2.kaw (fun _ _ _=>rfl) us hl
  have zaR:L2.Df K mg "_law_sorts" ["_law_head", "_law_n", "_law_plain"] KL.jH:=L2.yc KX G (L2.zF qf 60 rfl rfl) fun _ _ _ _ _ _ us hl=>L2.kaw (fun _ _ _=>rfl) us hl
  have za0:L2.Df K mg "_law_lets" ["_law_row", "_law_column"] KL.qE:=L2.yc KX G (L2.zF qf 61 rfl rfl) fun _ _ _ _ _ _ us hl=>L2.kau (fun _ _=>rfl) us hl
  have JR:L2.Df K mg "_law_blocked" ["_law_prime_here", "_law_cells", "_law_sizes", "_law_sorts_here"] KL.xQ:=L2.yc KX G (L2.zF qf 62 rfl rfl) fun _ _ _ _ _ _ us hl=>L2.bind4 (fun _ _ _ _=>rfl) us hl
  have YR:L2.Df K mg "_law_exchanged" ["_law_prime_here", "_law_tables", "_law_cell"] KL.xu:=L2.yc KX G (L2.zF qf 63 rfl rfl) fun _ _ _ _ _ _ us hl=>L2.kaw (fun _ _ _=>rfl) us hl
  have Jk:L2.Df K mg "_law_machine" ["_law_cells", "_law_most"] KL.xO:=L2.yc KX G (L2.zF qf 64 rfl rfl) fun _ _ _ _ _ _ us hl=>L2.kau (fun _ _=>rfl) us hl
  have zaY:L2.Df K mg "_law_copy" ["_law_machine_here"] KL.qB:=L2.yc KX G (L2.zF qf 65 rfl rfl) fun _ _ _ _ _ _ us hl=>L2.bind1 (fun _=>rfl) us hl
  have Jv:L2.Df K mg "_law_steered" ["_law_prime_here", "_law_machine_here"] KL.xP:=L2.yc KX G (L2.zF qf 66 rfl rfl) fun _ _ _ _ _ _ us hl=>L2.kau (fun _ _=>rfl) us hl
  have Qe:L2.Df K mg "_law_sights" ["_law_prime_here", "_law_machine_here", "_law_many"] KL.jl:=L2.yc KX G (L2.zF qf 67 rfl rfl) fun _ _ _ _ _ _ us hl=>L2.kaw (fun _ _ _=>rfl) us hl
  have JX:L2.Df K mg "_law_kernel" ["_law_prime_here", "_law_rows", "_law_n"] KL.ji:=L2.yc KX G (L2.zF qf 68 rfl rfl) fun _ _ _ _ _ _ us hl=>L2.kaw (fun _ _ _=>rfl) us hl
  have zai:L2.Df K mg "_law_marks" ["_law_prime_here", "_law_machine_here", "_law_many"] KL.jJ:=L2.yc KX G (L2.zF qf 69 rfl rfl) fun _ _ _ _ _ _ us hl=>L2.kaw (fun _ _ _=>rfl) us hl
  have JZ:L2.Df K mg "_law_square" ["_law_series", "_law_rows", "_law_columns"] KL.jj:=L2.yc KX G (L2.zF qf 70 rfl rfl) fun _ _ _ _ _ _ us hl=>L2.kaw (fun _ _ _=>rfl) us hl
  have Yy:L2.Df K mg "_law_is_machine" ["_law_prime_here", "_law_found", "_law_m", "_law_q"] KL.xg:=L2.yc KX G (L2.zF qf 71 rfl rfl) fun _ _ _ _ _ _ us hl=>L2.bind4 (fun _ _ _ _=>rfl) us hl
  obtain⟨t_GREAT_PRIME,yV⟩:=L2.zkN KX G (x := "GREAT_PRIME") (L2.zF qc 0 rfl rfl)
  have m_abs:mg "abs" = none:=PySem.W.mg_none_of KX G (L2.zF qm 0 rfl rfl)
  have m_all:mg "all" = none:=PySem.W.mg_none_of KX G (L2.zF qm 1 rfl rfl)
  have ze5:mg "bool" = none:=PySem.W.mg_none_of KX G (L2.zF qm 2 rfl rfl)
  have m_int:mg "int" = none:=PySem.W.mg_none_of KX G (L2.zF qm 3 rfl rfl)
  have zU:mg "isinstance" = none:=PySem.W.mg_none_of KX G (L2.zF qm 4 rfl rfl)
  have m_len:mg "len" = none:=PySem.W.mg_none_of KX G (L2.zF qm 5 rfl rfl)
  have xq:mg "list" = none:=PySem.W.mg_none_of KX G (L2.zF qm 6 rfl rfl)
  have zJ:mg "range" = none:=PySem.W.mg_none_of KX G (L2.zF qm 7 rfl rfl)
  have zae:mg "sorted" = none:=PySem.W.mg_none_of KX G (L2.zF qm 8 rfl rfl)
  have m_sum:mg "sum" = none:=PySem.W.mg_none_of KX G (L2.zF qm 9 rfl rfl)
  have xy:mg "tuple" = none:=PySem.W.mg_none_of KX G (L2.zF qm 10 rfl rfl)
  have m_zip:mg "zip" = none:=PySem.W.mg_none_of KX G (L2.zF qm 11 rfl rfl)
  obtain⟨fd,FL,hb⟩:=L2.zka (st:=KL.zhw) KX G hmg (L2.zF qf 72 rfl rfl) (fun _ _ _ _ _ _ _=>rfl)
  refine⟨fd,hb,fun base _ _ hS=>?_⟩
  have hP:(PySem.Challenge.rw_steermill_k42_whole_cores).prog.given.tree=none:=rfl
  have a1:=KL.zkJ (P:=zPr) (w:=w) (base:=base) YU m_abs
  have a2:=KL.zcX hP hS zcR a1
  have a3:=KL.zcn (P:=zPr) (w:=w) (base:=base) hP hS zct
  have a4:=KL.zfH (P:=zPr) (w:=w) (base:=base) zgC
  have a7:=KL.zhT zhZ a2
  have a8:=KL.zjC zjx a2 a4 a3
  have a9:=KL.ze9 hP hS zgI a1 xq
  have a10:=KL.ziJ zcN a8 a4
  have a11:=KL.zhB hP hS zhV a1
  have a12:=KL.zeC zeN a11 m_zip
  have a13:=KL.zhE zhx a11 a12 m_len zJ
  have a14:=KL.zcc zbM a10
  have a15:=KL.zes zem a9 a13 a14
  have a17:=KL.zjB zeO a4
  have a18:=KL.zfJ zfB a15
  have a23:=KL.zeW zeR a4
  have a19:=KL.ziL QS a23 a4 a17 a7
  have a20:=KL.zev zey a15 a17 a19 zJ
  have a23w:=KL.zjA (P:=zPr) (w:=w) (base:=base) zbw m_sum m_zip
  have a24:=KL.zjK YN a10 a23w
  have a25:=KL.zhe zhW (KL.JI a9) a24
  have a26:=KL.zgK (P:=zPr) (w:=w) (base:=base) zgh zJ m_len
  have a27:=KL.zeQ zex a25 a18
  have a28g:=KL.zhJ zav a15 a27 m_len
  have a28s:=KL.zf9 (P:=zPr) (w:=w) (base:=base) zgm
  have a28o:=KL.zjF YE (KL.JI a9) a28s m_len zJ
  have a28r:=KL.zhH zci a28o yV
  have a28u:=KL.zi1 zjm a4 zJ m_int
  have a28:=KL.zhf zag a28g a28r a28u yV m_len
  have a29:=KL.zek Jf a26 a28
  have a30:=KL.zeX JY a26 a28 a20 m_len
  have e1:=KL.zeA (P:=zPr) (w:=w) (base:=base) zeF m_zip
  have e2:=KL.zj2 zj9 a20 a18
  have e3:=KL.zi5 ziM a28u e1 a15 m_len
  have e4:=KL.zgB zg2 a18 m_len
  have e5:=KL.zbL zbZ a29 a30 e2 a18 a28u e4 m_len
  have e6:=KL.zel zeD e5 a26 e3 m_len xy
  have e7:=KL.zeh zen a26 (KL.JI a9) a24
  have e8:=KL.ziW zbz e7
  have e9:=KL.zji ziK e6 e8
  have b4:=KL.zky (P:=zPr) (w:=w) (base:=base) JE m_abs
  have b6:=KL.zbx hP hS XA b4
  have b5:=KL.zhR (P:=zPr) (w:=w) (base:=base) hP hS zaJ zJ
  have b7:=KL.zfi hP hS zaS b6
  have b8:=KL.zhi (P:=zPr) (w:=w) (base:=base) zbq
  have b9:=KL.zhU zbP b6
  have b10:=KL.zgO zaO b6
  have b11:=KL.zeZ zam b8 b9 b10
  have b12:=KL.zgX (P:=zPr) (w:=w) (base:=base) hP hS zaK
  have b13:=KL.zkd zet b7 b5 m_len
  have b14:=KL.zfN QX b13
  have b15:=KL.zfo zaR b5 zJ zae
  have b16:=KL.zhP (P:=zPr) (w:=w) (base:=base) za0
  have b17:=KL.zcG JR b8 b14 b16 zJ
  have b18:=KL.zh0 hP hS YR b8 b9 b10 b11 m_len m_zip
  have b19:=KL.zcA hP hS Jk b12 b15 b17 b18 m_int zJ
  have b20:=KL.zgH (P:=zPr) (w:=w) (base:=base) Qa zJ m_len
  have b21:=KL.zg5 (P:=zPr) (w:=w) (base:=base) zaI zU m_int ze5
  have b22:=KL.zgc YY b21 b4 zU xy m_len
  have b23:=KL.zf3 Qb b22 zU xq m_len
  have b24:=KL.zed JQ b23 zU xq m_len m_all
  have b26:=KL.zfd zau b8 b9 b10 zJ m_len
  have b27:=KL.zht (P:=zPr) (w:=w) (base:=base) zaY xy xq
  have b28:=KL.zhj hP hS zbb b6
  have b29:=KL.zcy Jb b8 b10 b11 b28 xq m_len m_zip
  have b30:=KL.zcZ JU b20 b26
  have b31:=KL.zeJ Qe b30 xq zJ
  have b32:=KL.zec JX b29 b8 b11 zJ m_len m_int
  have b33:=KL.zcj Jv b20 b26 b29 zJ m_len
  have b34:=KL.zgv zai b30 zJ
  have b35:=KL.zef (P:=zPr) (w:=w) (base:=base) JZ zJ m_len
  have b36:=KL.zeu Yy b24 zU xq xy m_len
  exact KL.zjX FL b19 b27 e9 b34 b35 b29 b36 b33 b31 b32 m_len zU xy
#print axioms PySem.Challenge.cw_steermill_k42_whole_cores_holds
