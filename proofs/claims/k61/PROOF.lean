import PyProof.Rows.All
import Wide.All
import OpenK.AllK
import Wide.FinOn
import Lean
import PyProof.EqAt
import PyProof.EqKinds
import PyProof.TupleCall
import PySem.Challenge.RW_steermill_k61_watchers
noncomputable section
local macro_rules | `(()) => `(by first | omega | decide | exact Nat.le_of_ble_eq_true rfl)
local macro_rules | `(($a, $b,*)) => do
 let r ← `(rfl)
 let o ← `(_)
 let l := (#[a] ++ b.getElems).flatMap fun e => if e.raw.getId.eraseMacroScopes == `Z then #[o, r] else if e.raw.getId.eraseMacroScopes == `V then #[r] else #[e]
 `(⟨$l,*⟩)
set_option compiler.extract_closed false
set_option genSizeOf false
local macro_rules | `(tactic| omega) => `(tactic| lia)
open List renaming getElem?_eq_getElem->wa,length_map->wc,getD_eq_getElem?_getD->we,mem_of_getElem?->wg,getElem_mem->wj,getElem?_map->wk,mem_map->wm,take_of_length_le->wo,mem_singleton->wp,mem_append->wq,length_take->wr,mem_cons_self->wt,getElem?_eq_some_iff->wu,mem_cons_of_mem->ww,map_append->wx,getElem_of_mem->wy,length_append->wD,mem_cons->wG,replicate->wK,mem_append_right->wL,length_zipWith->wO,range->wQ,getElem?_eq_none->wR,size_toArray->wV,getElem?_range->wZ,getElem?_append_right->vd,length_range->ve,length_replicate->vf,mem_append_left->vh,getElem?_append_left->vm,mem_of_mem_take->vn,map_congr_left->vo,of_mem_zip->vt,length_set->vv,map_map->vz,mem_range->vA,getElem?_set->vF,mem_filter->vG,getElem_zipWith->vJ,zipWith->vK,getElem?_zipWith->vL,length->vO,eq_of_mem_replicate->vQ,not_mem_nil->vR,take_succ_eq_append_getElem->vU,length_drop->vW,replicate_succ->vZ,length_reverse->ud,take_length->ug,getElem?_set_ne->uh,getElem?_set_self->uk,length_cons->um,length_filter_le->uo,map_take->uq,getElem?_reverse->uu,getElem?_replicate->uy,length_zip->uB,mem_of_mem_drop->uE,drop_of_length_le->uG,flatten_cons->uH,drop->uI,pairwise_iff_getElem->uJ,append_nil->uL,eq_nil_of_length_eq_zero->uM,all_eq_true->uN,ext_getElem->uP,map_drop->uS,idxOf_lt_length_of_mem->uT,getElem_map->uV,pairwise_cons->uY,replicate_succ'->uZ,pairwise_map->gi,map_cons->gm,filter_cons->gy,getElem?_drop->gJ,exists_cons_of_ne_nil->gL,getElem?_zip_eq_some->gQ,map_fst_zip->gV,mem_reverse->gZ,take->Ga,pairwise_lt_range->Gf,take_append_of_le_length->Gg,map_inj_left->Gi,getElem?_inj->Gk,ext_getElem?->Gm,drop_zero->Go,mem_flatten->Gs,getD->Gu,nodup_cons->Gw,getElem?_take->GD,getElem?_cons_succ->GE,foldl_append->GN,nodup_append->GO,map->GQ,eraseIdx_sublist->waa,map_uncurry_zip_eq_zipWith->wab,foldl_cons->wac,length_nil->wae,filterMap_cons->wai,mem_filterMap->wal,getElem?_take_of_lt->wat,lookup_cons->wax,getElem_zip->waA,map_reverse->waC,any_eq_true->waD,pairwise_singleton->waG,length_pos_of_mem->waM,length_singleton->waN,mem_iff_getElem?->waP,getElem?_toArray->waT,take_zero->waU,pairwise_append->waV,all_cons->waX,any_cons->waY,map_set->wba,map_id'->wbb,any_eq_false->wbc,append_assoc->wbe,getElem_take->wbl,reverse_cons->wbm,map_snd_zip->wbq,nil_append->wbu,sum_append->wbx,zip_append->wby,sum_nil->wbL,foldl->wbY
open Nat renaming le_refl->wv,le_trans->wE,mul_le_mul_right->wH,lt_or_ge->wJ,mul_le_mul_left->vk,ne_of_lt->vp,lt_of_lt_of_le->vw,lt_or_eq_of_le->vC,zero_le->vD,pow_le_pow_right->vI,le_of_lt_succ->vM,mul_le_mul->vN,lt_irrefl->vY,not_lt_zero->ue,le_of_lt->uw,le_mul_of_pos_right->uA,min_le_left->uC,sub_self->uD,pow_add->uF,succ_mul->uK,lt_succ_self->uO,mul_comm->uQ,add_sub_cancel_left->uR,one_mul->uW,lt_of_le_of_lt->uX,min_eq_left->gj,min_eq_right->gB,gcd->gC,add_mul->gK,le_of_eq->gM,lt_succ_of_lt->gS,mul_one->gW,one_le_two_pow->Gd,pow_succ->Gq,mul_assoc->Gv,pow_mod->Gx,two_pow_pos->Gy,le_succ->Gz,lt_succ_iff_lt_or_eq->GB,le_total->GH,min_self->GJ,sub_zero->GK,le_of_succ_le->GM,le_mul_of_pos_left->GR,le_add_right->GS,succ_le_succ->GT,dvd_trans->GU,mul_mod->GV,mul_sub->GW,pow_pos->GZ,le_antisymm->waf,eq_zero_or_pos->wam,add_sub_cancel->wan,lt_or_gt_of_ne->wao,gcd_dvd_right->was,mul_lt_mul''->waw,mod_eq_of_lt->way,gcd_dvd_left->waz,coprime_comm->waB,add_comm->waE,zero_add->waF,div_add_mod->waH,mul_ne_zero->waL,pow_mul->waR,add_le_add_right->waW,le_of_dvd->wa1,mod_lt->wa2,add_le_add_left->wa3,ne_of_gt->wa5,pow_zero->wa8,zero_mul->wa9,lt_trichotomy->wbh,dvd_mul_right->wbk,le_of_not_lt->wbo,min_le_right->wbs,zero_lt_one->wbz,div_lt_self->wbA,div_self->wbJ,lt_trans->wbK,gcd_comm->wbM,add_zero->wbN,one_pow->wbR,gcd_rec->wbS,pow_two->wbT,pow_one->wbU,sub_mul->wbV,mul_pos->wbW,le_zero->wbX
open Int renaming fmod_nonneg_of_pos->wI,toNat_natCast->wS,fmod_lt_of_pos->wW,zero_add->vB,gcd->vH,natAbs_mul->vS,fdiv_eq_ediv_of_dvd->ur,natAbs_natCast->ut,fmod_eq_emod_of_nonneg->uU,mul_le_mul_of_nonneg_left->gh,gcd_eq_natAbs_gcd_natAbs->gv,ediv_mul_cancel->gw,natCast_nonneg->gD,natCast_mul->gP,eq_ofNat_of_zero_le->Gb,emod_lt_of_pos->Gc,mul_ne_zero->Ge,emod_add_mul_ediv->Gh,natAbs_pos->Gn,lt_or_le->Gp,gcd_dvd_left->Gr,dvd_mul_of_dvd_right->GA,gcd_dvd_right->GL,emod_nonneg->wad,mul_zero->wag,zero_dvd->wah,gcd_pos_of_ne_zero_right->waj,gcd_pos_of_ne_zero_left->wak,mul_pos->wap,fdiv_eq_ediv_of_nonneg->waq,natAbs_add_le->war,natAbs_dvd_natAbs->waS,le_of_dvd->waZ,zero_fmod->wa0,dvd_zero->wa6,gcd_zero->wa7,dvd_mul_right->wbf,natAbs_sub_le->wbg,lt_trichotomy->wbj,dvd_sub->wbp,dvd_mul_left->wbr,natCast_emod->wbt,ediv_nonneg->wbv,mul_nonneg->wbB,dvd_trans->wbC,fmod_def->wbD,gcd_comm->wbE,zero_mul->wbF,dvd_refl->wbG,mul_comm->wbH,gcd_ediv->wbI,one_mul->wbO,neg_dvd->wbP
open Option renaming map_eq_some_iff->wY,getD_none->wbn
open Bool renaming false_ne_true->vg,eq_false_iff->uv,eq_iff_iff->gO,and_eq_true->gU,false_eq_true->wa4
open Rat renaming intCast_mul->vE,divInt->ul,intCast_eq_zero_iff->gk,num_divInt_den->GC,divInt_eq_divInt_iff->wau,divInt_ofNat->wav,intCast_add->waI,intCast_inj->waJ,intCast_neg->waK,divInt_mul_divInt->waO,divInt_eq_div->wbi,num_eq_zero->wbw,inv_def->wbQ
open Classical renaming byContradiction->vV,choose_spec->waQ
open PySem renaming Value->ca,World->ce,Program->cf,mainGlobals->cg,bootBuiltins->cj,Around->cm,wpAny->cq,model->cr,backTo->cu,starEach->cv,wpAny_mono->cw,wpAny_truthy_bool->cC,wpAny_execs_nil->cD,assignEach->cE,wpAny_bind->cF,wpAny_holding->cG,wpAny_standAt->cH,wpAny_pure->cJ,wpAny_passesOwn->cK,letOwnedTupleGo->cL,wpAny_pyIter_list->cN,foldedSetIterable->cO,binaryOp->cP,compareOp->cQ,FuncData->cS,bindArgs->cT,wpAny_Call_Name_kw->cU,NameKind->cV,cellsFrom->cX,sliceBounds->cY,intBits_le_64->cZ
open PyProof.Rows renaming assignInOrder_cons->ba
open Lean.Grind renaming Field->bf
open PySem.W renaming Frag->bh
def bj{c:Prop}{h:Decidable c}(x:c){α:Sort u}{t e:α}:@ite α c h t e=t:=if_pos x
def bn{c:Prop}{h:Decidable c}(x:¬c){α:Sort u}{t e:α}:@ite α c h t e=e:=if_neg x
def bq{p:Prop}[Decidable p](x:¬p):decide p=false:=decide_eq_false x
def br{p:Prop}[Decidable p](x:p):decide p=true:=decide_eq_true x
def bt{p:Prop}[Decidable p](x:decide p=true):p:=of_decide_eq_true x
def bv{p:Prop}[Decidable p](x:decide p=false):¬p:=of_decide_eq_false x
def bw{a:Prop}{b:Sort v}(h:a)(n:¬a):b:=absurd h n
set_option Elab.async false
set_option linter.all false
set_option maxRecDepth 100000
namespace L2
open PySem PySem.Spec PyProof.Rows
abbrev Key:=Sum Int Str
def keyIs:Key->ca->Bool
 | .inl k,v=>Value.isInt k v
 | .inr x,v=>Value.isStrOf x v
def keyH(w:ce):Key->Int
 | .inl k=>hashInt k
 | .inr x=>hashStr w x
def yj:∀ {k:Key} {v:ca},keyIs k v=true->(∃ i t,k=Sum.inl i/\v=Value.int i t)\/(∃ x t,k=Sum.inr x/\v=Value.str x t)
 | .inl i,v,h=>by
  obtain⟨t,e⟩:=Value.isInt_shape h;exact .inl (i,t,V,e)
 | .inr x,v,h=>by
  obtain⟨t,e⟩:=Value.isStrOf_shape h;exact .inr (x,t,V,e)
def zjv a b:decide ((Sum.inl a:Key)=Sum.inl b) =(a == b):=by
 by_cases e:a=b
 ·subst e;simp
 ·have h:¬(Sum.inl a:Key)=Sum.inl b:=λq=>e (Sum.inl.inj q)
  rw[bq h];exact(beq_eq_false_iff_ne.mpr e).symm
def zib a b:decide ((Sum.inr a:Key)=Sum.inr b)=decide (a=b):=by
 by_cases e:a=b
 ·subst e;simp
 ·have h:¬(Sum.inr a:Key)=Sum.inr b:=λq=>e (Sum.inr.inj q)
  rw[bq h,bq e]
def zjb a b:decide ((Sum.inl a:Key)=Sum.inr b)=false:=bq (λq=>nomatch q)
def ziy a b:decide ((Sum.inr a:Key)=Sum.inl b)=false:=bq (λq=>nomatch q)
def mixKind prog w:PySem.KeyKind prog w Key where
 is:=keyIs
 hash:=keyH w
 inj:=λv a b ha hb=>by
  rcases yj ha with⟨i,t,rfl,rfl⟩|⟨x,t,rfl,rfl⟩
  ·rcases yj hb with⟨j,u,rfl,e⟩|⟨y,u,rfl,e⟩
   ·injection e with e1 _;rw[e1]
   ·exact nomatch e
  ·rcases yj hb with⟨j,u,rfl,e⟩|⟨y,u,rfl,e⟩
   ·exact nomatch e
   ·injection e with e1 _;rw[e1]
 byValue:=λk v h=>by
  rcases yj h with⟨i,t,rfl,rfl⟩|⟨x,t,rfl,rfl⟩ <;> rfl
 pyHash:=λhv h=>by
  rcases yj hv with⟨i,t,rfl,rfl⟩|⟨x,t,rfl,rfl⟩
  ·exact wpAny_pyHash_int h
  ·exact wpAny_pyHash_str h
 eqBool:=λhu hv h=>by
  rcases yj hu with⟨i,t,rfl,rfl⟩|⟨x,t,rfl,rfl⟩
  ·rcases yj hv with⟨j,u,rfl,rfl⟩|⟨y,u,rfl,rfl⟩
   ·rw[zjv]at h;exact wpAny_eqBool_int h
   ·rw[zjb]at h;exact SeqAt.EqAt.int_str i t y u _ _ _ _ h
  ·rcases yj hv with⟨j,u,rfl,rfl⟩|⟨y,u,rfl,rfl⟩
   ·rw[ziy]at h;exact SeqAt.EqAt.str_int x t j u _ _ _ _ h
   ·rw[zib]at h;exact wpAny_eqBool_str h
 «strs»:=λk x t v h=>by
  rcases yj h with⟨i,u,rfl,e⟩|⟨y,u,rfl,e⟩
  ·exact nomatch e
  ·injection e with e1 _
   subst e1;cases v <;> rfl
inductive V where
 | non|bl (b:Bool) | int (i:Int) | str (x:Str) | byt (b:Array UInt8) | flt (b:UInt64) | ref (a:Addr) | ty (n:String)
 deriving DecidableEq
def RelV:V->ca->Prop
 | .non,u=>u=Value.none
 | .bl b,u=>u=Value.bool b
 | .int i,u=>∃ t,u=Value.int i t
 | .str x,u=>∃ t,u=Value.str x t
 | .byt b,u=>∃ t,u=Value.bytes b t
 | .flt b,u=>∃ t,u=Value.float b t
 | .ref a,u=>u=Value.ref a
 | .ty n,u=>u=Value.type n
abbrev Vals:List V->List ca->Prop:=Paired RelV
def Vals.length(r:Vals xs us):xs.length=us.length:=Paired.length r
def Vals.get:∀ {xs:List V} {us:List ca} {i:Nat} {x:V},Vals xs us->xs[i]?=some x->∃ u,us[i]?=some u/\RelV x u
 | _,_,_,_,.nil,e=>by simp at e
 | _,_,0,_,.cons r _,e=>by simp at e;subst e;exact(Z,r)
 | _,_,i+1,x,.cons _ t,e=>by
  obtain⟨u,h1,h2⟩:=Vals.get t (by simpa using e);exact(u,by simpa using h1,h2)
def Vals.set(r:RelV x u):∀ {xs:List V} {us:List ca} i,Vals xs us->Vals (xs.set i x) (us.set i u)
 | _,_,_,.nil=>.nil
 | _,_,0,.cons _ t=>.cons r t
 | _,_,i+1,.cons q t=>.cons q (Vals.set r i t)
def Vals.append:∀ {xs ys:List V} {us ws:List ca},Vals xs us->Vals ys ws->Vals (xs++ys) (us++ws)
 | _,_,_,_,.nil,s=>s
 | _,_,_,_,.cons r t,s=>.cons r (Vals.append t s)
def Vals.take:∀ {xs:List V} {us:List ca} n,Vals xs us->Vals (xs.take n) (us.take n)
 | _,_,0,_=>.nil
 | _,_,_+1,.nil=>.nil
 | _,_,n+1,.cons r t=>.cons r (Vals.take n t)
def Vals.drop:∀ {xs:List V} {us:List ca} n,Vals xs us->Vals (xs.drop n) (us.drop n)
 | _,_,0,r=>r
 | _,_,_+1,.nil=>.nil
 | _,_,n+1,.cons _ t=>Vals.drop n t
def RelO:Option V->Option ca->Prop
 | some v,some u=>RelV v u
 | none,none=>True
 | _,_=>False
def KV:List (κ×V)->List (κ×ca)->Prop:=Paired λp q=>p.1=q.1/\RelV p.2 q.2
def kV:Key->V
 | .inl i=>.int i
 | .inr x=>.str x
inductive HO where
 | lst (xs:List V)
 | tup (xs:List V)
 | dK (kvs:List (Key×V)) | dT (kvs:List (List Key×V))
 | set (S:Int->Bool) (n:Nat)
 | ins (bF dx:Addr) (fs:List (Str×V))
 | own (x:Addr)
 | xd (fs:List (Str×V))
 | met (f x:Addr)
 | rng (lo hi:Int)
 | frz (o:Obj) (u:HO)
 | tbl (ps:Array ca)
 | ext (O:Heap->Prop)
abbrev Hp:=Addr->Option HO
def upd(H:Hp)(a:Addr)(o:HO):Hp:=λb=>if b=a then some o else H b
def za:upd H a o a=some o:=by unfold upd;rw[bj rfl]
def zE(h:b≠a):upd H a o b=H b:=by unfold upd;rw[bn h]
def zR{H:Hp}(h:H a=some o)(h':H b=none):a≠b:=by
 intro e;subst e;rw[h]at h';cases h'
section
variable(P:cf)(w:ce)
def kaz(H:Hp)(h:Heap)(a:Addr):HO->Prop
 | .lst xs=>xs.length<=sizeLine/\∃(its:List ca)(n:Nat),Vals xs its/\h.get? a=some { cls:=.type "list",data:=.seq its.toArray n }
 | .tup xs=>xs.length<=sizeLine/\∃ its:List ca,Vals xs its/\IsTup h a its.toArray
 | .dK kvs=>kvs.length<=sizeLine/\(a == sysModules)=false/\∃ vs,KV kvs vs/\h.DictOf (mixKind P w) a vs
 | .dT kvs=>kvs.length<=sizeLine/\(a == sysModules)=false/\∃ xs:List (List Key×Addr×ca),
   Paired (λp q=>p.1=q.1/\H q.2.1=some (.tup (p.1.map kV))/\RelV p.2 q.2.2) kvs xs /\
   ∃ o es ep,h.get? a=some o/\o.ExactDict/\o.data=.dict es ep/\es.toList=xs.map (entryOfKey (tupleKind (mixKind P w)))/\(xs.map (·.1)).Nodup
 | .set S n=>h.SetOf (intKind P w) a S n
 | .ins bF dx fs=>H dx=some (.own a)/\fs.length<=1000/\dx≠a/\h.get? a=some (PySem.W.instObj bF dx) /\
   ∃ mA,h.Ns1 dx mA/\(∀ f,RelO (fs.lookup f) (mA f))/\PySem.Within mA (fs.map (·.1))
 | .own _=>∃ o,h.get? a=some o
 | .xd fs=>∃ mA,h.Ns1 a mA/\∀ f,RelO (fs.lookup f) (mA f)
 | .rng lo hi=>∃ t u v,h.get? a=some { cls:=.type "range",data:=.fields #[.int lo t,.int hi u,.int 1 v] }
 | .frz o u=>h.get? a=some o/\kaz H h a u
 | .tbl ps=>h.get? a=some { cls:=.none,data:=.fields ps }
 | .met f x=>h.get? a=some (PySem.W.methodObj (.ref f) (.ref x))
 | .ext O=>O h/\(∃ o,h.get? a=some o)/\∀ h1 h2:Heap,O h1->(∀ o,h1.get? a=some o->h2.get? a=some o)->O h2
def HOk(H:Hp)(h:Heap):Prop:=∀ a o,H a=some o->kaz P w H h a o
end
section
variable{a:Addr}
def kaz.lt(x:kaz P w H h a o):a<h.objs.size:=by
 cases o with
 | lst xs=>obtain⟨_,_,_,_,e⟩:=x;exact Heap.lt_size e
 | tup xs=>obtain⟨_,_,_,p⟩:=x;exact p.lt
 | dK kvs=>obtain⟨_,_,_,_,o,_,_,e,_⟩:=x;exact Heap.lt_size e
 | dT kvs=>obtain⟨_,_,_,_,o,_,_,e,_⟩:=x;exact Heap.lt_size e
 | set S n=>obtain⟨o,_,_,_,e,_⟩:=x;exact Heap.lt_size e
 | ins bF dx fs=>obtain⟨_,_,_,e,_⟩:=x;exact Heap.lt_size e
 | own y=>obtain⟨_,e⟩:=x;exact Heap.lt_size e
 | xd fs=>obtain⟨_,⟨_,_,_,e,_⟩,_⟩:=x;exact Heap.lt_size e
 | rng lo hi=>obtain⟨_,_,_,e⟩:=x;exact Heap.lt_size e
 | frz ob u=>obtain⟨e,_⟩:=x;exact Heap.lt_size e
 | tbl ps=>exact Heap.lt_size (show h.get? a=some _ from x)
 | met f y=>exact Heap.lt_size (show h.get? a=some _ from x)
 | ext O=>obtain⟨_,⟨_,e⟩,_⟩:=x;exact Heap.lt_size e
def Paired.mapP:∀ {l₁:List α} {l₂:List β},Paired F l₁ l₂->(∀ a b,F a b->G a b)->Paired G l₁ l₂
 | _,_,.nil,_=>.nil
 | _,_,.cons r t,f=>.cons (f _ _ r) (Paired.mapP t f)
def kaz.stay(x:kaz P w H h a o)(k:∀ b u,(b=a\/H b=some (.own a))->h.get? b=some u->h'.get? b=some u)
  (ho:∀ b,H b=some (.own a)->H' b=some (.own a)) (ht:∀ b xs,H b=some (.tup xs)->H' b=some (.tup xs)):kaz P w H' h' a o:=by
 induction o with
 | lst xs=>obtain⟨z,its,n,r,e⟩:=x;exact(z,its,n,r,k _ _ (.inl rfl) e)
 | tup xs=>obtain⟨z,its,r,ob,e,c⟩:=x;exact(z,its,r,ob,k _ _ (.inl rfl) e,c)
 | dK kvs=>obtain⟨z,y,vs,r,ob,es,ep,e,c⟩:=x;exact(z,y,vs,r,ob,es,ep,k _ _ (.inl rfl) e,c)
 | dT kvs =>
  obtain⟨z,y,xs,r,ob,es,ep,e,c⟩:=x;exact(z,y,xs,Paired.mapP r λp q z=>(z.1,ht _ _ z.2.1,z.2.2),ob,es,ep,k _ _ (.inl rfl) e,c)
 | set S n=>obtain⟨ob,es,ep,t,e,c⟩:=x;exact(ob,es,ep,t,k _ _ (.inl rfl) e,c)
 | ins bF dx fs =>
  obtain⟨d,z,ne,e,mA,⟨od,es,ep,e2,c⟩,r⟩:=x;exact(ho _ d,z,ne,k _ _ (.inl rfl) e,mA,(od,es,ep,k _ _ (.inr d) e2,c),r)
 | own y=>obtain⟨ob,e⟩:=x;exact(ob,k _ _ (.inl rfl) e)
 | xd fs=>obtain⟨mA,⟨od,es,ep,e,c⟩,r⟩:=x;exact(mA,(od,es,ep,k _ _ (.inl rfl) e,c),r)
 | rng lo hi=>obtain⟨t,u,v,e⟩:=x;exact(t,u,v,k _ _ (.inl rfl) e)
 | frz ob u ih=>obtain⟨e,q⟩:=x;exact(k _ _ (.inl rfl) e,ih q)
 | tbl ps =>
  have e:h.get? a=some { cls:=.none,data:=.fields ps }:=x;exact k a _ (.inl rfl) e
 | met f y =>
  have e:= x;exact k a _ (.inl rfl) e
 | ext O=>obtain⟨p,⟨o,e⟩,st⟩:=x;exact(st _ _ p λo q=>k _ _ (.inl rfl) q,(o,k _ _ (.inl rfl) e),st)
def HOk.lt(x:HOk P w H h)(e:H a=some o):a<h.objs.size:=(x a o e).lt
def HOk.fresh(x:HOk P w H h)(e:h.objs.size<=a):H a=none:=by
 cases q:H a with
 | none=>rfl
 | some u=>exact bw (vw (x.lt q) e) (vY _)
def HOk.kept(x:HOk P w H h)(k:∀ b u,h.get? b=some u->h'.get? b=some u):HOk P w H h':=λa o e =>
 (x a o e).stay (λb u _ q=>k b u q) (λ_ q=>q) λ_ _ q=>q
def HOk.laid(x:HOk P w H h)(k:∀ b u,h.get? b=some u->h'.get? b=some u)(C:h.objs.size<=a)(new:kaz P w (upd H a o) h' a o):HOk P w (upd H a o) h':=λb u e=>by
 have hn:=x.fresh C
 by_cases hb:b=a
 ·subst hb;rw[za]at e;cases e;exact new
 ·rw[zE hb]at e;exact(x b u e).stay (λc v _ q=>k c v q) (λc q=>by rw[zE (zR q hn)];exact q) λc xs q=>by rw[zE (zR q hn)];exact q
end
def Rd(H:Hp)(a:Addr)(u:HO):Prop:=H a=some u\/∃ o,H a=some (.frz o u)
def Rd.ok(r:Rd H a u)(x:HOk P w H h):kaz P w H h a u:=by
 rcases r with r|⟨o,r⟩
 ·exact x a u r
 ·obtain⟨_,q⟩:=x a _ r;exact q
def Mut:Option HO->Prop
 | some (.lst _)=>True
 | some (.dK _)=>True
 | some (.dT _)=>True
 | some (.set _ _)=>True
 | some (.ins _ _ _)=>True
 | some (.ext _)=>True
 | _=>False
section
def HOk.write(ok:HOk P w H h)(mu:Mut (H x))(he:e=x\/H e=some (.own x))(k:∀ b u,b≠e->h.get? b=some u->h'.get? b=some u)(heo:∃ u,h'.get? e=some u)
  (new:kaz P w (upd H x o') h' x o'):HOk P w (upd H x o') h':=λb u q=>by
 have nown:∀ c y,H c=some (.own y)->c≠x:=λc y r z=>by subst z;rw[r]at mu;exact mu
 have ntup:∀ c xs,H c=some (.tup xs)->c≠x:=λc xs r z=>by subst z;rw[r]at mu;exact mu
 by_cases hb:b=x
 ·subst hb;rw[za]at q;cases q;exact new
 ·rw[zE hb]at q
  by_cases hbe:b=e
  ·have q':H b=some (.own x):=by
    rcases he with z|z
    ·exact bw (hbe.trans z) hb
    ·rw[hbe];exact z
   rw[q]at q';cases q';obtain⟨v,hv⟩:=heo;exact(v,by rw[hbe];exact hv)
  ·refine(ok b u q).stay (λc v hc r=>k c v ?_ r) (λc r=>by rw[zE (nown c b r)];exact r) λc xs r=>by rw[zE (ntup c xs r)];exact r
   rcases hc with rfl|hc
   ·exact hbe
   ·rintro rfl
    rcases he with z|z
    ·exact nown c b hc z
    ·rw[hc]at z;cases z;exact hb rfl
end
structure Un(fs ex:List Addr)(H H':Hp)(h h':Heap):Prop where
 keep:∀ b o,h.get? b=some o->H b=none->b∉fs->b∉ex->h'.get? b=some o
 slot:∀ b o,h.get? b=some o->H b=none->b∈fs->b∉ex->∃ sl,h'.get? b=some { o with slots:=sl }
 free:∀ b o,h.get? b=some o->H b=none->b∉ex->H' b=none
 there:∀ b o,h.get? b=some o->b∉ex->∃ o',h'.get? b=some o'
 tups:∀ b xs,H b=some (.tup xs)->H' b=some (.tup xs)
 frzs:∀ b o u,H b=some (.frz o u)->H' b=some (.frz o u)
 tbls:∀ b ps,H b=some (.tbl ps)->∃ more,H' b=some (.tbl (ps++more))
section
variable{h h1 h2 h':Heap}{a x e:Addr}
def Un.any(u:Un fs ex H H1 h h1)(q:h.get? b=some ob)(n:H b=none)(D:b∉ex):∃ sl,h1.get? b=some { ob with slots:=sl }:=by
 by_cases hb:b∈fs
 ·exact u.slot b ob q n hb D
 ·exact(ob.slots,u.keep b ob q n hb D)
def Un.kept(k:∀ b u,h.get? b=some u->h'.get? b=some u):Un fs ex H H h h' :=
 (λb ob q _ _ _=>k b ob q,λb ob q _ _ _=>(ob.slots,k b ob q),λ_ _ _ n _=>n,λb ob q _=>(ob,k b ob q),λ_ _ q=>q,λ_ _ _ q=>q,λ_ ps q=>(#[],by rw[q];simp))
def Un.refl:Un fs ex H H h h:=Un.kept λ_ _ q=>q
def Un.laid(k:∀ b u,h.get? b=some u->h'.get? b=some u)(C:h.objs.size<=a)(hn:H a=none):Un fs ex H (upd H a o) h h' where
 keep:=λb u q _ _ _=>k b u q
 slot:=λb u q _ _ _=>(u.slots,k b u q)
 free:=λb u q n _=>by rw[zE (vp (vw (Heap.lt_size q) C))];exact n
 there:=λb u q _=>(u,k b u q)
 tups:=λb xs q=>by rw[zE (zR q hn)];exact q
 frzs:=λb u xs q=>by rw[zE (zR q hn)];exact q
 tbls:=λb ps q=>(#[],by rw[zE (zR q hn),q];simp)
def Un.write(mu:Mut (H x))(he:e=x\/H e=some (.own x))(k:∀ b u,b≠e->h.get? b=some u->h'.get? b=some u)(heo:∃ u,h'.get? e=some u):Un fs ex H (upd H x o) h h':=by
 have D:∀ b,H b=none->b≠x:=λb n z=>by subst z;rw[n]at mu;exact mu
 have hb:∀ b,H b=none->b≠e:=λb n z=>by
  subst z
  rcases he with r|r
  ·exact D b n r
  ·rw[n]at r;cases r
 have hm:∀ b u,H b=some u->¬ Mut (some u)->b≠x:=λb u q nm z=>by subst z;rw[q]at mu;exact nm mu
 refine(λb u q n _ _=>k b u (hb b n) q,λb u q n _ _=>(u.slots,k b u (hb b n) q),λb u q n _=>by rw[zE (D b n)];exact n,λb u q _=>?_,
  λb xs q=>by rw[zE (hm b _ q λz=>z)];exact q,λb u xs q=>by rw[zE (hm b _ q λz=>z)];exact q,λb ps q=>(#[],by rw[zE (hm b _ q λz=>z),q];simp))
 by_cases hbe:b=e
 ·subst hbe;exact heo
 ·exact(u,k b u hbe q)
end
def trk(h:Heap)(H:Hp):List Addr:=(wQ h.objs.size).filter λa=>(H a).isSome
def hidT(h:Heap)(H:Hp):Heap:=PySem.W.hideAll h (trk h H)
def zcW h H:(hidT h H).objs.size=h.objs.size:=PySem.W.hideAll_size _ _
def zfE(e:h.get? b=some o)(n:H b=none):(hidT h H).get? b=some o :=
 PySem.W.hideAll_get _ e λhm=>by
  have q:=(vG.mp hm).2;rw[n]at q;simp at q
def zgN(e:(hidT h H).get? b=some o):h.get? b=some o/\H b=none:=by
 have e':= PySem.W.of_hideAll (trk h H) e;refine(e',?_);cases q:H b with
 | none=>rfl
 | some x =>
  have hm:b∈trk h H:=vG.mpr (vA.mpr (Heap.lt_size e'),by simp[q]);have z:(hidT h H).get? b=none:=PySem.W.hideAll_none (trk h H) hm;rw[z]at e;cases e
structure Mod(K:bh)(mg:Str->Option ca)(base:Heap):Prop where
 kin:K.In base
 glob:base.Ns cg mg
 blt:∃ mb,base.Ns builtinsNs mb/\∀ x:Str,x ≠ "__name__" -> mb x=cj x
 nolimit:base.NoLimit
structure Cx where
 prog:cf
 w:ce
 K:bh
 mg:Str->Option ca
 base:Heap
 A:cm
 N:List Str
 s₀:Shared
 H₀:Hp
 env:Env
 outer:List Env
 stack:List Env
 ex:List Addr
 fn:Str->Bool
 calm:Bool
 pn:List (Addr×Obj)
 xe:ca->Shared->Prop
def frs(l:List Env):List Addr:=l.filterMap (·.frame)
abbrev Cx.fs(X:Cx):List Addr:=frs X.outer
def Vis(sc:Scope)(x:Str):Prop:=sc.names.lookup x=some .local\/sc.names.lookup x=some .cell\/sc.names.lookup x=some .free
def Loc(sc:Scope)(x:Str):Prop:=sc.names.lookup x=some .local\/sc.names.lookup x=some .cell
def Look(env:Env)(h:Heap)(m:Str->Option ca)(x:Str)(u:ca):Prop :=
 (env.kindOf x=some .local/\m x=some u)\/((env.kindOf x=some .cell\/env.kindOf x=some .free)/\∃ c,env.cells.lookup x=some c/\h.IsCell c (some u))
structure Cx.Ok(X:Cx):Prop where
 mod:Mod X.K X.mg X.base
 kind:X.env.scope.kind=.function
 glob:X.env.globals=cg
 blt:X.env.builtins=builtinsNs
 above:X.s₀.heap.objs.size<=X.env.locals
 inj:∀ x y c,X.env.cells.lookup x=some c->X.env.cells.lookup y=some c->x=y
 has:∀ x,(X.env.kindOf x=some .cell\/X.env.kindOf x=some .free)->∃ c,X.env.cells.lookup x=some c
 cab:∀ x c,X.fn x=true->X.env.cells.lookup x=some c->X.s₀.heap.objs.size<=c
 hd:X.calm=true->X.A.handled=none
 frames:X.A.frames=some X.stack
 stk:X.stack=X.outer\/(X.stack=X.env::X.outer/\X.env.frame=some X.env.locals)
 exf:∀ b∈X.ex,b≠X.env.locals/\∀ x c,X.env.cells.lookup x=some c->c≠b
 bs:∀ b o,X.base.get? b=some o->X.s₀.heap.get? b=some o/\X.H₀ b=none
 bsz:X.base.objs.size<=X.s₀.heap.objs.size
 noex:∀ b o,X.base.get? b=some o->b∉X.ex
 exfs:∀ b∈X.ex,b∉X.fs
 funs:X.s₀.heap.FunFrames X.base X.outer
 frf:∀ b∈X.fs,X.H₀ b=none
structure Inv(X:Cx)(pins:List (Addr×Obj))(L:List (Option V))(H:Hp)(s:Shared):Prop where
 ok:X.Ok
 os:s.os=X.s₀.os
 bare:AllBare s.gens
 base:Un X.fs X.ex X.H₀ H X.s₀.heap s.heap
 loc:∃ m,s.heap.Ns X.env.locals m/\∀(i:Nat)(x:Str)(v:V),X.N[i]?=some x->L[i]?=some (some v)->Vis X.env.scope x->∃ u,RelV v u/\Look X.env s.heap m x u
 cell:∀ x c,X.env.cells.lookup x=some c->∃ v,s.heap.IsCell c v
 free:H X.env.locals=none
 freeC:∀ x c,X.env.cells.lookup x=some c->H c=none
 pin:∀ p∈X.pn++pins,s.heap.get? p.1=some p.2/\H p.1=none/\p.1≠X.env.locals/\p.1∉X.fs/\∀ v,p.2.data≠.cell v
 hok:HOk X.prog X.w H s.heap
 len:L.length=X.N.length
section
variable{X:Cx}
def Cx.Ok.nofr(ok:X.Ok)(e:X.base.get? b=some o):b∉X.fs:=λhb=>by
 have:=(ok.funs.mem hb).1;rw[e]at this;cases this
def Inv.bs(I:Inv X pins L H s):∀ b o,X.base.get? b=some o->s.heap.get? b=some o/\H b=none:=λb o e =>
 (I.base.keep b o (I.ok.bs b o e).1 (I.ok.bs b o e).2 (I.ok.nofr e) (I.ok.noex b o e),I.base.free b o (I.ok.bs b o e).1 (I.ok.bs b o e).2 (I.ok.noex b o e))
def Inv.bk(I:Inv X pins L H s):∀ b o,X.base.get? b=some o->s.heap.get? b=some o:=λb o e=>(I.bs b o e).1
def Inv.mod(I:Inv X pins L H s):Mod X.K X.mg X.base:=I.ok.mod
def Inv.kIn(I:Inv X pins L H s):X.K.In s.heap:=I.ok.mod.kin.keeps I.bk
def Inv.nolimit(I:Inv X pins L H s):s.heap.NoLimit:=I.ok.mod.nolimit.keeps I.bk
def Inv.lt(I:Inv X pins L H s):X.env.locals<s.heap.objs.size:=let ⟨_,hn,_⟩:=I.loc;hn.lt
def Inv.sz(I:Inv X pins L H s):X.s₀.heap.objs.size<=s.heap.objs.size:=wE I.ok.above (uw I.lt)
def Inv.nofs(I:Inv X pins L H s){a:Addr}(h:s.heap.objs.size<=a):a∉X.fs:=λhb=>by
 obtain⟨_,o,ho,_⟩:=I.ok.funs.mem hb;exact bw (vw (Heap.lt_size ho) (wE I.sz h)) (vY _)
def Inv.cne(I:Inv X pins L H s):∀ x c,X.env.cells.lookup x=some c->c≠X.env.locals:=λx c e z=>by
 obtain⟨v,o,ho,hd⟩:=I.cell x c e;obtain⟨m,⟨o',es,ep,ho',hd',_⟩,_⟩:=I.loc;rw[z,ho']at ho;cases ho;rw[hd']at hd;cases hd
def Inv.funs(I:Inv X pins L H s):s.heap.FunFrames X.base X.outer:=by
 have all:∀ l,(∀ b∈frs l,b∈X.fs)->X.s₀.heap.FunFrames X.base l->s.heap.FunFrames X.base l:=by
  intro l
  induction l with
  | nil=>intro _ _;trivial
  | cons env r ih =>
   intro hs hl;obtain⟨J,⟨bA,o,hf,hn,ho,hd⟩,U⟩:=hl;have hL:= hs bA (by unfold frs;rw[wai,hf];exact wt);obtain⟨sl,e⟩:=I.base.slot bA o ho (I.ok.frf bA hL) hL λz=>I.ok.exfs bA z hL
   exact(J,(bA,_,hf,hn,e,hd),ih (λb hb=>hs b (by unfold frs;rw[wai,hf];exact ww _ hb)) U)
 exact all X.outer (λ_ hb=>hb) I.ok.funs
def Inv.stack(I:Inv X pins L H s):s.heap.FunFrames X.base X.stack:=by
 rcases I.ok.stk with e|⟨e,hf⟩
 ·rw[e];exact I.funs
 ·rw[e];obtain⟨m,hn,_⟩:=I.loc;refine .cons (by rw[I.ok.kind];decide) hf hn ?_ I.funs;exact Heap.get?_none_of_le (wE I.ok.bsz I.ok.above)
def Inv.stkSub(I:Inv X pins L H s):∀ b∈frs X.stack,b∈X.env.locals::X.fs:=λb hb=>by
 rcases I.ok.stk with e|⟨e,hf⟩
 ·rw[e]at hb;exact ww _ hb
 ·rw[e]at hb;unfold frs at hb;rw[wai,hf]at hb;exact hb
def Inv.stkFree(I:Inv X pins L H s):∀ b∈frs X.stack,H b=none:=λb hb=>by
 rcases wG.mp (I.stkSub b hb)with e|hb
 ·rw[e];exact I.free
 ·obtain⟨_,o,ho,_⟩:=I.ok.funs.mem hb;exact I.base.free b o ho (I.ok.frf b hb) λz=>I.ok.exfs b z hb
def Inv.step{g':Array GenState}{t':Nat}{d':Drawn}{ch:List Addr}(I:Inv X pins L H s)
  (hch:∀ b∈ch,(b∈X.ex\/X.s₀.heap.objs.size<=b)/\b≠X.env.locals/\(∀ x c,X.env.cells.lookup x=some c->c≠b)/\∀ p∈X.pn++pins,p.1≠b)
  (keep:∀ b o,b≠X.env.locals->b∉X.fs->b∉ch->s.heap.get? b=some o->H b=none->h'.get? b=some o)
  (slot:∀ b o,b≠X.env.locals->b∈X.fs->b∉ch->s.heap.get? b=some o->H b=none->∃ sl,h'.get? b=some { o with slots:=sl }) (free:∀ b o,b∉ch->s.heap.get? b=some o->H b=none->H' b=none)
  (there:∀ b o,b∉ch->s.heap.get? b=some o->∃ o',h'.get? b=some o')
  (tups:∀ b xs,H b=some (.tup xs)->H' b=some (.tup xs)) (frzs:∀ b o u,H b=some (.frz o u)->H' b=some (.frz o u)) (tbls:∀ b ps,H b=some (.tbl ps)->∃ more,H' b=some (.tbl (ps++more)))
  (ns:∀ m,s.heap.Ns X.env.locals m->h'.Ns X.env.locals m) (hok:HOk X.prog X.w H' h') (hg:AllBare g') :
  Inv X pins L H' { s with heap:=h',gens:=g',drawn:=d',toks:=t' }:=by
 have neL:∀ b o,X.s₀.heap.get? b=some o->b≠X.env.locals:=λb o e=>vp (vw (Heap.lt_size e) I.ok.above)
 have neC:∀ b o,X.s₀.heap.get? b=some o->b∉X.ex->b∉ch:=λb o e D hb=>by
  rcases (hch b hb).1 with z|z
  ·exact D z
  ·exact bw (vw (Heap.lt_size e) z) (vY _)
 have cellK:∀ x c,X.env.cells.lookup x=some c->∀ v,s.heap.IsCell c v->h'.IsCell c v:=λx c e v ⟨o,ho,hd⟩=>by
  have nch:= λz=>(hch c z).2.2.1 x c e rfl
  by_cases hc:c∈X.fs
  ·obtain⟨sl,q⟩:=slot c o (I.cne x c e) hc nch ho (I.freeC x c e);exact(_,q,hd)
  ·exact(o,keep c o (I.cne x c e) hc nch ho (I.freeC x c e),hd)
 refine(I.ok,I.os,hg,(λb o e n hb D=>?_,λb o e n hb D=>?_,λb o e n D=>?_,λb o e D=>?_,λb xs e=>tups b xs (I.base.tups b xs e),λb o xs e=>frzs b o xs (I.base.frzs b o xs e),λb ps e=>?_),?_,λx c e=>?_,?_,λx c e=>?_,λp C=>?_,hok,I.len)
 ·exact keep b o (neL b o e) hb (neC b o e D) (I.base.keep b o e n hb D) (I.base.free b o e n D)
 ·obtain⟨sl,e1⟩:=I.base.slot b o e n hb D;obtain⟨sl',e2⟩:=slot b _ (neL b o e) hb (neC b o e D) e1 (I.base.free b o e n D);exact(sl',e2)
 ·obtain⟨o',e1⟩:=I.base.there b o e D;exact free b o' (neC b o e D) e1 (I.base.free b o e n D)
 ·obtain⟨o',e1⟩:=I.base.there b o e D;exact there b o' (neC b o e D) e1
 ·obtain⟨m1,e1⟩:=I.base.tbls b ps e;obtain⟨m2,e2⟩:=tbls b _ e1;exact(m1++m2,by rw[e2,Array.append_assoc])
 ·obtain⟨m,hn,hl⟩:=I.loc;refine(m,ns m hn,λi x v e1 e2 e3=>?_);obtain⟨u,r,l⟩:=hl i x v e1 e2 e3;refine(u,r,?_)
  rcases l with l|⟨k,c,e,z⟩
  ·exact .inl l
  ·exact .inr (k,c,e,cellK x c e _ z)
 ·obtain⟨v,z⟩:=I.cell x c e;exact(v,cellK x c e v z)
 ·obtain⟨m,⟨o,_,_,ho,_⟩,_⟩:=I.loc;exact free _ o (λz=>(hch _ z).2.1 rfl) ho I.free
 ·obtain⟨v,o,ho,hd⟩:=I.cell x c e;exact free c o (λz=>(hch c z).2.2.1 x c e rfl) ho (I.freeC x c e)
 ·obtain⟨e,n,ne,nf,d⟩:=I.pin p C;have nch:= λz=>(hch p.1 z).2.2.2 p C rfl
  exact(keep p.1 p.2 ne nf nch e n,free p.1 p.2 nch e n,ne,nf,d)
def Inv.un{t':Nat}(I:Inv X pins L H s)(u:Un X.fs [] H H' s.heap h')(hok:HOk X.prog X.w H' h'):Inv X pins L H' { s with heap:=h',toks:=t' }:=by
 obtain⟨m,⟨o,es,ep,ho,r⟩,_⟩:=id I.loc;obtain⟨sl,hL⟩:=u.any ho I.free (by simp);exact I.step (g':=s.gens) (d':=s.drawn) (ch:=[]) (λ_ z=>nomatch z) (λb o _ hb _ e n=>u.keep b o e n hb (by simp)) (λb o _ hb _ e n=>u.slot b o e n hb (by simp)) (λb o _ e n=>u.free b o e n (by simp)) (λb o _ e=>u.there b o e (by simp)) u.tups u.frzs u.tbls (λm' hm=>by
  obtain⟨o',es',ep',ho',r'⟩:=hm;rw[ho]at ho';cases ho';exact(_,es',ep',hL,r')) hok I.bare
def Inv.call{g':Array GenState}{t':Nat}{d':Drawn}{ch:List Addr}(I:Inv X pins L H s)(u:Un (frs X.stack) ch H H' s.heap h')(hok:HOk X.prog X.w H' h')(hg:AllBare g')
  (hch:∀ b∈ch,(b∈X.ex\/X.s₀.heap.objs.size<=b)/\b≠X.env.locals/\(∀ x c,X.env.cells.lookup x=some c->c≠b)/\∀ p∈X.pn++pins,p.1≠b) :
  Inv X pins L H' { s with heap:=h',gens:=g',drawn:=d',toks:=t' }:=by
 obtain⟨m,⟨o,es,ep,ho,r⟩,_⟩:=id I.loc;obtain⟨sl,hL⟩:=u.any ho I.free λz=>(hch _ z).2.1 rfl
 exact I.step hch (λb o hL hb hc e n=>u.keep b o e n (λz=>(wG.mp (I.stkSub b z)).elim hL hb) hc) (λb o _ _ hc e n=>u.any e n hc) (λb o hc e n=>u.free b o e n hc) (λb o hc e=>u.there b o e hc) u.tups u.frzs u.tbls (λm' hm=>by
  obtain⟨o',es',ep',ho',r'⟩:=hm;rw[ho]at ho';cases ho';exact(_,es',ep',hL,r')) hok hg
def Inv.turned{t':Nat}{it:Addr}(I:Inv X pins L H s)(k:∀ b o,b≠it->s.heap.get? b=some o->h'.get? b=some o)(hn:H it=none)(hL:it≠X.env.locals)
  (h1:it∈X.ex\/X.s₀.heap.objs.size<=it) (h2:∀ x c,X.env.cells.lookup x=some c->c≠it) (h3:∀ p∈X.pn++pins,p.1≠it):Inv X pins L H { s with heap:=h',toks:=t' }:=by
 have nit:∀ b u,H b=some u->b≠it:=λb u e z=>by rw[z,hn]at e;cases e
 refine I.step (g':=s.gens) (d':=s.drawn) (ch:=[it]) (λb hb=>?_) (λb o _ _ hc e _=>k b o (λz=>hc (by simp[z])) e) (λb o _ _ hc e _=>(o.slots,k b o (λz=>hc (by simp[z])) e)) (λ_ _ _ _ n=>n)
  (λb o hc e=>(o,k b o (λz=>hc (by simp[z])) e)) (λ_ _ e=>e) (λ_ _ _ e=>e) (λb ps e=>(#[],by rw[e];simp)) (λm hm=>?_) (λb u e=>?_) I.bare
 ·have e:b=it:=by simpa using hb
  subst e;exact(h1,hL,h2,h3)
 ·obtain⟨o,es,ep,ho,r⟩:=hm;exact(o,es,ep,k _ o (Ne.symm hL) ho,r)
 ·refine(I.hok b u e).stay (λc v hc q=>k c v ?_ q) (λ_ q=>q) λ_ _ q=>q
  rcases hc with z|z
  ·rw[z];exact nit b u e
  ·exact nit c _ z
def Inv.tok(I:Inv X pins L H s) t:Inv X pins L H { s with toks:=t }:=I.un (h':=s.heap) (t':=t) Un.refl I.hok
def Inv.kept{t':Nat}(I:Inv X pins L H s)(k:∀ b u,s.heap.get? b=some u->h'.get? b=some u):Inv X pins L H { s with heap:=h',toks:=t' }:=I.un (Un.kept k) (I.hok.kept k)
def Inv.laid{a:Addr}{o:HO}{t':Nat}(I:Inv X pins L H s)(k:∀ b u,s.heap.get? b=some u->h'.get? b=some u)(C:s.heap.objs.size<=a)(new:kaz X.prog X.w (upd H a o) h' a o) :
  Inv X pins L (upd H a o) { s with heap:=h',toks:=t' }:=I.un (Un.laid k C (I.hok.fresh C)) (I.hok.laid k C new)
def Inv.write{x e:Addr}{o:HO}{t':Nat}(I:Inv X pins L H s)(mu:Mut (H x))(he:e=x\/H e=some (.own x))(k:∀ b u,b≠e->s.heap.get? b=some u->h'.get? b=some u)(heo:∃ u,h'.get? e=some u)
  (new:kaz X.prog X.w (upd H x o) h' x o):Inv X pins L (upd H x o) { s with heap:=h',toks:=t' }:=I.un (Un.write mu he k heo) (I.hok.write mu he k heo new)
def Inv.weak{σ':List (Option V)}(I:Inv X pins L H s)(hl:σ'.length=L.length)(w:∀(i:Nat) v,σ'[i]?=some (some v)->L[i]?=some (some v)):Inv X pins σ' H s :=
 (I.ok,I.os,I.bare,I.base,let ⟨m,hn,hl'⟩:=I.loc;(m,hn,λi x v e1 e2 e3=>hl' i x v e1 (w i v e2) e3),I.cell,I.free,I.freeC,I.pin,I.hok,hl.trans I.len)
def Inv.pins_of(I:Inv X pins L H s)(h:∀ p∈pins',s.heap.get? p.1=some p.2/\H p.1=none/\p.1≠X.env.locals/\p.1∉X.fs/\∀ v,p.2.data≠.cell v):Inv X pins' L H s :=
 (I.ok,I.os,I.bare,I.base,I.loc,I.cell,I.free,I.freeC,λp C=>(wq.mp C).elim (λz=>I.pin p (vh _ z)) (h p),I.hok,I.len)
def zaL{N:List Str}(hN:N.Nodup){i j:Nat}(a:N[i]?=some x)(b:N[j]?=some x):i=j:=by
 obtain⟨h1,e1⟩:=wu.mp a;obtain⟨h2,e2⟩:=wu.mp b;exact(List.getElem_inj hN).mp (e1.trans e2.symm)
def JL{M:Model}{A:cm}{E:ca->Shared->Prop}{i:Nat}{x:Str}{v:V}{u:ca}{Q:Unit->Shared->Prop}(I:Inv X pins L H s)(hN:X.N.Nodup)(hi:X.N[i]?=some x)(D:Loc X.env.scope x)(r:RelV v u)
  (h:∀ s',Inv X pins (L.set i (some v)) H s'->(∃ a,Heap.SameBut a s.heap s'.heap/\(a=X.env.locals\/X.env.cells.lookup x=some a))->Q PUnit.unit s') (hf:X.fn x=true\/X.env.scope.names.lookup x=some .local:=by first|exact .inl rfl|exact .inr rfl|assumption):cq M A (storeName X.env x u) Q E s:=by
 obtain⟨m,hn,hl⟩:=id I.loc;have hcls:(X.env.scope.kind == .class || (X.env.scope.kind == .module && X.env.locals != X.env.globals))=false:=by rw[I.ok.kind];rfl
 have hiσ:i<L.length:=by rw[I.len];exact(wu.mp hi).1
 have cne:=I.cne;have tracked:∀ {a:Addr} {h':Heap},(∃ o,s.heap.get? a=some o/\H a=none)->Heap.SameBut a s.heap h'->HOk X.prog X.w H h':=λ{a h'} ha hs b ob e=>by
  obtain⟨_,_,hfree⟩:=ha;refine(I.hok b ob e).stay (λc w' hc q=>(hs.2 c ?_).trans q) (λ_ q=>q) λ_ _ q=>q
  rintro rfl
  rcases hc with rfl|hc
  ·rw[hfree]at e;cases e
  ·rw[hfree]at hc;cases hc
 rcases D with J|J
 ·refine wpAny_storeName_local J hn (λh' hn' hs=>?_) hcls;obtain⟨oL,_,_,hoL,_⟩:=id hn;refine h _ (I.ok,I.os,I.bare,(λb o e n hb D=>?_,λb o e n hb D=>?_,I.base.free,λb o e D=>?_,I.base.tups,I.base.frzs,I.base.tbls),(_,hn',λj y v' e1 e2 e3=>?_),λy c e=>?_,I.free,I.freeC,λp C=>?_,tracked (oL,hoL,I.free) hs,by simpa using I.len) (_,hs,.inl rfl)
  ·exact(hs.2 b (vp (vw (Heap.lt_size e) I.ok.above))).trans (I.base.keep b o e n hb D)
  ·obtain⟨sl,e1⟩:=I.base.slot b o e n hb D;exact(sl,(hs.2 b (vp (vw (Heap.lt_size e) I.ok.above))).trans e1)
  ·obtain⟨o',e1⟩:=I.base.there b o e D;exact(o',(hs.2 b (vp (vw (Heap.lt_size e) I.ok.above))).trans e1)
  ·by_cases hj:j=i
   ·subst hj;rw[hi]at e1;cases e1;rw[uk hiσ]at e2;cases e2;exact(u,r,.inl (J,by simp))
   ·rw[uh (Ne.symm hj)]at e2;obtain⟨u',r',q⟩:=hl j y v' e1 e2 e3;refine(u',r',?_)
    rcases q with⟨k,e⟩|⟨k,c,e,z⟩
    ·refine .inl (k,?_);have:y≠x:=λe=>hj (zaL hN e1 (e ▸ hi))
     simp[this,e]
    ·exact .inr (k,c,e,z.sameBut hs (cne y c e))
  ·obtain⟨w',z⟩:=I.cell y c e;exact(w',z.sameBut hs (cne y c e))
  ·obtain⟨e,n,ne,nf,d⟩:=I.pin p C;exact((hs.2 p.1 ne).trans e,n,ne,nf,d)
 ·have hfn:X.fn x=true:=by
   rcases hf with z|z
   ·exact z
   ·rw[z]at J;cases J
  obtain⟨c,hc⟩:=I.ok.has x (.inl J);obtain⟨w',z⟩:=I.cell x c hc;refine wpAny_storeName_cell I.ok.kind J hc z (λh' hc' hs=>?_);obtain⟨oc,hoc,hocd⟩:=id z;refine h { s with heap:=h' } (I.ok,I.os,I.bare,(λb o e n hb D=>?_,λb o e n hb D=>?_,I.base.free,λb o e D=>?_,I.base.tups,I.base.frzs,I.base.tbls),(m,hn.sameBut hs (Ne.symm (cne x c hc)),λj y v' e1 e2 e3=>?_),λy c' e=>?_,I.free,I.freeC,λp C=>?_,tracked (oc,hoc,I.freeC x c hc) hs,by simpa using I.len) (c,hs,.inr hc)
  ·exact(hs.2 b (vp (vw (Heap.lt_size e) (I.ok.cab x c hfn hc)))).trans (I.base.keep b o e n hb D)
  ·obtain⟨sl,e1⟩:=I.base.slot b o e n hb D;exact(sl,(hs.2 b (vp (vw (Heap.lt_size e) (I.ok.cab x c hfn hc)))).trans e1)
  ·obtain⟨o',e1⟩:=I.base.there b o e D;exact(o',(hs.2 b (vp (vw (Heap.lt_size e) (I.ok.cab x c hfn hc)))).trans e1)
  ·by_cases hj:j=i
   ·subst hj;rw[hi]at e1;cases e1;rw[uk hiσ]at e2;cases e2;exact(u,r,.inr (.inl J,c,hc,hc'))
   ·rw[uh (Ne.symm hj)]at e2;obtain⟨u',r',q⟩:=hl j y v' e1 e2 e3;refine(u',r',?_)
    rcases q with q|⟨k,c',e,z'⟩
    ·exact .inl q
    ·refine .inr (k,c',e,z'.sameBut hs ?_)
     rintro rfl
     exact hj (zaL hN e1 (I.ok.inj _ _ _ e hc ▸ hi))
  ·by_cases hcc:c'=c
   ·subst hcc;exact(_,hc')
   ·obtain⟨w2,z2⟩:=I.cell y c' e;exact(w2,z2.sameBut hs hcc)
  ·obtain⟨e,n,ne,nf,d⟩:=I.pin p C;refine((hs.2 p.1 ?_).trans e,n,ne,nf,d);intro q;rw[q,hoc]at e;have q':= Option.some.inj e;exact d w' (by rw[← q'];exact hocd)
def ql(I:Inv X pins L H s)(hN:X.N.Nodup)(hi:X.N[i]?=some x)(D:Loc X.env.scope x)(r:RelV v u)
  (h:∀ s',Inv X pins (L.set i (some v)) H s'->Q PUnit.unit s') (hf:X.fn x=true\/X.env.scope.names.lookup x=some .local:=by first|exact .inl rfl|exact .inr rfl|assumption):cq M A (storeName X.env x u) Q E s :=
 JL I hN hi D r (λs' I' _=>h s' I') hf
def Inv.call'{s':Shared}{ch:List Addr}(I:Inv X pins L H s)(ho:s'.os=s.os)(u:Un (frs X.stack) ch H H' s.heap s'.heap)(hok:HOk X.prog X.w H' s'.heap)(hg:AllBare s'.gens)
  (hch:∀ b∈ch,(b∈X.ex\/X.s₀.heap.objs.size<=b)/\b≠X.env.locals/\(∀ x c,X.env.cells.lookup x=some c->c≠b)/\∀ p∈X.pn++pins,p.1≠b):Inv X pins L H' s':=by
 obtain⟨h',g',d',t',o'⟩:=s';have e:= ho;subst e;exact I.call (g':=g') (t':=t') (d':=d') u hok hg hch
end
abbrev XK:=ca->Option Addr->Hp->Prop
abbrev St:=List (Option V)
abbrev VK:=V->Hp->Prop
abbrev TE:=St->Hp->VK->Prop
abbrev TT:=St->Hp->(Bool->Hp->Prop)->Prop
abbrev TA:=St->Hp->(List V->Hp->Prop)->Prop
structure Ends where
 nx:St->Hp->Prop
 rt:VK
 bk:St->Hp->Prop:=λ_ _=>False
 ct:St->Hp->Prop:=λ_ _=>False
abbrev TS:=Ends->St->Hp->Prop
def EP(X:Cx)(pins:List (Addr×Obj))(L:St)(Q:VK)(u:ca)(s':Shared):Prop:=∃ v H',Inv X pins L H' s'/\RelV v u/\Q v H'
def TP(X:Cx)(pins:List (Addr×Obj))(L:St)(Q:Bool->Hp->Prop)(b:Bool)(s':Shared):Prop:=∃ H',Inv X pins L H' s'/\Q b H'
def AP(X:Cx)(pins:List (Addr×Obj))(L:St)(Q:List V->Hp->Prop)(us:List ca)(s':Shared):Prop:=∃ vs H',Inv X pins L H' s'/\Vals vs us/\Q vs H'
def SP(X:Cx)(pins:List (Addr×Obj))(bE:Ends)(f:Flow)(s':Shared):Prop :=
 match f with
 | .next=>∃ σ' H',Inv X pins σ' H' s'/\bE.nx σ' H'
 | .brk=>∃ σ' H',Inv X pins σ' H' s'/\bE.bk σ' H'
 | .cont=>∃ σ' H',Inv X pins σ' H' s'/\bE.ct σ' H'
 | .ret u=>∃ v σ' H',Inv X pins σ' H' s'/\RelV v u/\bE.rt v H'
def PE(X:Cx)(e:Expr)(t:TE):Prop :=
 ∀ pins s (L:St) H Q,Inv X pins L H s->t L H Q->cq (cr X.prog X.w) X.A (eval e X.env) (EP X pins L Q) X.xe s
def PT(X:Cx)(e:Expr)(t:TT):Prop :=
 ∀ pins s (L:St) H Q,Inv X pins L H s->t L H Q->cq (cr X.prog X.w) X.A (isTrue e X.env (eval e X.env)) (TP X pins L Q) X.xe s
def PW(X:Cx)(e:Expr)(t:TT):Prop :=
 ∀(whole:Sem ca)(pins:List (Addr×Obj))(s:Shared)(L:St)(H:Hp)(Q:Bool->Hp->Prop),Inv X pins L H s->t L H Q->cq (cr X.prog X.w) X.A (isTrue e X.env whole) (TP X pins L Q) X.xe s
def PW.pt(h:PW X e t):PT X e t:=h _
def PA(X:Cx)(es:List Expr)(t:TA):Prop :=
 ∀(pos:Pos)(pins:List (Addr×Obj))(s:Shared)(L:St)(H:Hp)(Q:List V->Hp->Prop),Inv X pins L H s->t L H Q->cq (cr X.prog X.w) X.A (spliced (cu pos (cv es X.env))) (AP X pins L Q) X.xe s
def PS(X:Cx)(st:Stmt)(t:TS):Prop :=
 ∀ pins s (L:St) H bE,Inv X pins L H s->t bE L H->cq (cr X.prog X.w) X.A (exec st X.env) (SP X pins bE) X.xe s
def PSs(X:Cx)(st:List Stmt)(t:TS):Prop :=
 ∀ pins s (L:St) H bE,Inv X pins L H s->t bE L H->cq (cr X.prog X.w) X.A (execs st X.env) (SP X pins bE) X.xe s
def thn{α:Type}{t:Sem α}{Q Q':α->Shared->Prop}{M:Model}{A:cm}{E:ca->Shared->Prop}{s:Shared}(h:cq M A t Q E s)(hQ:∀ a s,Q a s->Q' a s):cq M A t Q' E s:=cw h hQ λ_ _ x=>x
section
variable{X:Cx}
inductive zgx(i:Nat)(L:St)(H:Hp)(Q:VK):Prop where
 | mk (v:V) (h0_:L[i]?=some (some v)) (h1_:Q v H):zgx i L H Q
def tVar(i:Nat):TE:=λL H Q=>zgx i L H Q
def tC(v:V):TE:=λ_ H Q=>Q v H
def ziB {pos:Pos} (hN:X.N[i]?=some x) (hv:Vis X.env.scope x) (hd:(x ==("__debug__" : Str))=false:=by decide) (hcd:(x ==("__classdict__" : Str))=false:=by decide):PE X (.Name x pos) (tVar i):=by
 intro pins s L H Q I h;obtain⟨v,e,h⟩:=h;obtain⟨m,hn,hl⟩:=I.loc;obtain⟨u,r,l⟩:=hl i x v hN e hv;have fin:EP X pins L Q u s:=(v,H,I,r,h)
 rcases l with⟨J,hm⟩|⟨J,c,hc,hcell⟩
 ·exact wpAny_Name (wpAny_loadName_local I.ok.kind J hn hm fin) hd
 ·rcases J with J|J
  ·exact wpAny_Name (wpAny_loadName_cell I.ok.kind J hc hcell fin) hd
  ·exact wpAny_Name (wpAny_loadName_free I.ok.kind J hc hcell fin hcd) hd
def zf8{i j pos}:PE X (.Constant (.int i) j pos) (tC (.int i)):=λ_ _ _ H _ I h=>wpAny_Constant_int (.int i,H,I.tok _,(_,rfl),h)
def zjN{b j pos}:PE X (.Constant (.bool b) j pos) (tC (.bl b)):=λ_ _ _ H _ I h=>Constant_bool (.bl b,H,I,V,h)
def zi2{x j pos}:PE X (.Constant (.str x) j pos) (tC (.str x)):=λ_ _ _ H _ I h=>Calls.Constant_str (.str x,H,I.tok _,(_,rfl),h)
def Gl(X:Cx)(x:Str):Prop:=X.env.kindOf x=some .globalImplicit
def zd8{L:St}(I:Inv X pins L H s)(hg:Gl X x)(hm:X.mg x=some u)(h:Q u s)
  (hd:(x ==("__debug__" : Str))=false:=by decide):cq (cr X.prog X.w) X.A (eval (.Name x pos) X.env) Q E s :=
 Calls.Name_function_global I.ok.kind hg (Calls.loadGlobal_global (by rw[I.ok.glob];exact I.mod.glob.keeps I.bk) hm h) hd
def qJ{E:ca->Shared->Prop}{L:St}{pos:Pos}(I:Inv X pins L H s)(hg:Gl X x)(hm:X.mg x=none)(hv:cj x=some u)(h:Q u s)
  (hn:x ≠ "__name__" := by decide) (hd:(x ==("__debug__" : Str))=false:=by decide):cq (cr X.prog X.w) X.A (eval (.Name x pos) X.env) Q E s:=by
 obtain⟨mb,h1,h2⟩:=I.mod.blt;exact Calls.Name_function_global I.ok.kind hg (Calls.loadGlobal_builtin (by rw[I.ok.glob];exact I.mod.glob.keeps I.bk) hm (by rw[I.ok.blt];exact h1.keeps I.bk) ((h2 x hn).trans hv) h) hd
def zhV {x:Str} {v:V} {u:ca} {pos:Pos} (hg:Gl X x) (hm:X.mg x=some u) (r:RelV v u) (hd:(x ==("__debug__" : Str))=false:=by decide):PE X (.Name x pos) (tC v) :=
 λ_ _ _ H _ I h=>zd8 I hg hm (v,H,I,r,h) hd
def zhm {pos:Pos} (hg:Gl X x) (hm:X.mg x=none) (hv:cj x=some u) (r:RelV v u) (hn:x ≠ "__name__" := by decide) (hd:(x ==("__debug__" : Str))=false:=by decide):PE X (.Name x pos) (tC v) :=
 λ_ _ _ H _ I h=>qJ I hg hm hv (v,H,I,r,h) hn hd
inductive I_tB(x:V)(H1:Hp)(Q:Bool->Hp->Prop):Prop where
 | mk (c:Bool) (h0_:x=.bl c) (h1_:Q c H1):I_tB x H1 Q
def tB(t:TE):TT:=λL H Q=>t L H λx H1=>I_tB x H1 Q
def zi0{e:Expr}{t:TE}(h:PE X e t)(he:∀ whole,isTrue e X.env whole =(do let v ← whole;standAt e.pos;holding [v] (truthy v)):=by intro _;rfl):PT X e (tB t):=by
 intro pins s L H Q I hw;refine isTrue_plain (thn (h pins s L H _ I hw) λv s1 ⟨x,H1,I1,r1,q1⟩=>?_) (he _);obtain⟨d,rfl,q⟩:=q1;cases r1;exact cC (H1,I1,q)
def tAnd(t u:TT):TT:=λL H Q=>t L H λc H1=>if c=true then u L H1 Q else Q false H1
def tOr(t u:TT):TT:=λL H Q=>t L H λc H1=>if c=true then Q true H1 else u L H1 Q
def tNot(t:TT):TT:=λL H Q=>t L H λc H1=>Q (!c) H1
def pw_and1(ha:PT X a tA):PW X (.BoolOp .And [a] pos) tA:=by
 intro wh pins s L H Q I h;refine isTrue_and (thn (ha pins s L H Q I h) λc s1 e=>?_);cases c with
 | true=>exact isTrue_and_nil e
 | false=>exact e
def pw_or1(ha:PT X a tA):PW X (.BoolOp .Or [a] pos) tA:=by
 intro wh pins s L H Q I h;refine isTrue_or (thn (ha pins s L H Q I h) λc s1 e=>?_);cases c with
 | false=>exact isTrue_or_nil e
 | true=>exact e
def pw_and(ha:PT X a tA)(hb:PW X (.BoolOp .And (b::rest) pos) tB'):PW X (.BoolOp .And (a::b::rest) pos) (tAnd tA tB'):=by
 intro wh pins s L H Q I h;refine isTrue_and (thn (ha pins s L H _ I h) λc s1 ⟨H1,I1,q1⟩=>?_);cases c with
 | true=>exact hb wh pins s1 L H1 Q I1 q1
 | false=>exact(H1,I1,q1)
def pw_or(ha:PT X a tA)(hb:PW X (.BoolOp .Or (b::rest) pos) tB'):PW X (.BoolOp .Or (a::b::rest) pos) (tOr tA tB'):=by
 intro wh pins s L H Q I h;refine isTrue_or (thn (ha pins s L H _ I h) λc s1 ⟨H1,I1,q1⟩=>?_);cases c with
 | true=>exact(H1,I1,q1)
 | false=>exact hb wh pins s1 L H1 Q I1 q1
def zjJ(ha:PT X a tA):PT X (.UnaryOp .Not a pos) (tNot tA):=by
 intro pins s L H Q I h;exact isTrue_not (ha pins s L H (λc H1=>Q (!c) H1) I h)
def tAndV(ta tb:TE):TE:=λL H Q=>ta L H λx H1=>∃ c,x=.bl c/\if c=true then tb L H1 Q else Q (.bl false) H1
def tOrV(ta tb:TE):TE:=λL H Q=>ta L H λx H1=>∃ c,x=.bl c/\if c=true then Q (.bl true) H1 else tb L H1 Q
def tNotV(ta:TE):TE:=λL H Q=>ta L H λx H1=>∃ c,x=.bl c/\Q (.bl (!c)) H1
def ziI{op}(h:PE X a t):PE X (.BoolOp op [a] pos) t:=λpins s L H Q I hw=>BoolOp_one (h pins s L H Q I hw)
def zi1(ha:PE X a ta)(hb:PE X (.BoolOp .And (b::rest) pos) tb):PE X (.BoolOp .And (a::b::rest) pos) (tAndV ta tb):=by
 intro pins s L H Q I h;refine BoolOp_and (thn (ha pins s L H _ I h) λv s1 ⟨x,H1,I1,r1,q1⟩=>?_);obtain⟨c,rfl,q1⟩:=q1;cases r1;refine cC ?_;cases c with
 | true=>exact hb pins s1 L H1 Q I1 q1
 | false=>exact(.bl false,H1,I1,V,q1)
def zka(ha:PE X a ta)(hb:PE X (.BoolOp .Or (b::rest) pos) tb):PE X (.BoolOp .Or (a::b::rest) pos) (tOrV ta tb):=by
 intro pins s L H Q I h;refine BoolOp_or (thn (ha pins s L H _ I h) λv s1 ⟨x,H1,I1,r1,q1⟩=>?_);obtain⟨c,rfl,q1⟩:=q1;cases r1;refine cC ?_;cases c with
 | false=>exact hb pins s1 L H1 Q I1 q1
 | true=>exact(.bl true,H1,I1,V,q1)
def ziO(ha:PE X a ta):PE X (.UnaryOp .Not a pos) (tNotV ta):=by
 intro pins s L H Q I h;refine UnaryOp_ (thn (ha pins s L H _ I h) λv s1 ⟨x,H1,I1,r1,q1⟩=>?_);obtain⟨c,rfl,q1⟩:=q1;cases r1;exact not_of (cC (.bl (!c),H1,I1,V,q1))
def tIf(t:TT)(ta tb:TE):TE:=λL H Q=>t L H λc H1=>if c=true then ta L H1 Q else tb L H1 Q
def zeu(hc:PT X c tA)(ha:PE X a ta)(hb:PE X b tb):PE X (.IfExp c a b pos) (tIf tA ta tb):=by
 intro pins s L H Q I h;refine wpAny_IfExp (thn (hc pins s L H _ I h) λd s1 ⟨H1,I1,q1⟩=>?_);cases d with
 | true=>exact ha pins s1 L H1 Q I1 q1
 | false=>exact hb pins s1 L H1 Q I1 q1
end
def SqL(K:bh)(H:Hp)(a:Addr)(xs:List V):Prop :=
 Rd H a (.lst xs) \/
  ∃(o:Obj)(its:Array ca)(n:Nat),K.lookup a=some o/\o.cls=.type "list" /\ o.dict=none/\o.data=.seq its n/\its.size<=sizeLine/\Vals xs its.toList
def SqT(K:bh)(H:Hp)(a:Addr)(xs:List V):Prop :=
 Rd H a (.tup xs) \/
  ∃(o:Obj)(its:Array ca)(n:Nat),K.lookup a=some o/\o.cls=.type "tuple" /\ o.data=.seq its n/\its.size<=sizeLine/\Vals xs its.toList
def absV:ca->Option V
 | .none=>some .non
 | .bool b=>some (.bl b)
 | .int i _=>some (.int i)
 | .str x _=>some (.str x)
 | .bytes b _=>some (.byt b)
 | .float b _=>some (.flt b)
 | .ref a=>some (.ref a)
 | .type n=>some (.ty n)
 | _=>none
def RelV.abs(r:RelV x u):absV u=some x:=by
 cases x with
 | non=>cases r;rfl
 | bl _=>cases r;rfl
 | int _=>obtain⟨t,rfl⟩:=r;rfl
 | str _=>obtain⟨t,rfl⟩:=r;rfl
 | byt _=>obtain⟨t,rfl⟩:=r;rfl
 | flt _=>obtain⟨t,rfl⟩:=r;rfl
 | ref _=>cases r;rfl
 | ty _=>cases r;rfl
def RelV.inj(r:RelV x u)(q:RelV y u):x=y:=Option.some.inj (r.abs.symm.trans q.abs)
def Vals.inj:∀ {xs ys:List V} {us:List ca},Vals xs us->Vals ys us->xs=ys
 | _,_,_,.nil,.nil=>rfl
 | _,_,_,.cons r t,.cons r' t'=>by rw[r.inj r',Vals.inj t t']
section
variable{L:St}
def SqL.of{K:bh}(h:H a=some (.lst xs)):SqL K H a xs:=.inl (.inl h)
def SqT.of{K:bh}(h:H a=some (.tup xs)):SqT K H a xs:=.inl (.inl h)
def Inv.list(I:Inv X pins L H s)(h:SqL X.K H a xs):∃ its:List ca,Vals xs its/\PlainL s.heap a its.toArray/\xs.length<=sizeLine:=by
 rcases h with h|⟨o,its,n,J,hc,hd,hs,hz,r⟩
 ·obtain⟨z,its,n,r,e⟩:=h.ok I.hok;exact(its,r,(_,n,e,V,V,V),z)
 ·refine(its.toList,r,(o,n,I.kIn a o J,hc,hd,by simpa using hs),?_);have e:=r.length;simp only[Array.length_toList]at e;omega
def Inv.tuple(I:Inv X pins L H s)(h:SqT X.K H a xs):∃ its:List ca,Vals xs its/\IsTup s.heap a its.toArray/\xs.length<=sizeLine:=by
 rcases h with h|⟨o,its,n,J,hc,hs,hz,r⟩
 ·obtain⟨z,its,r,p⟩:=h.ok I.hok;exact(its,r,p,z)
 ·refine(its.toList,r,(o,I.kIn a o J,hc,n,by simpa using hs),?_);have e:=r.length;simp only[Array.length_toList]at e;omega
def Inv.list_inj(I:Inv X pins L H s)(h:SqL X.K H a xs)(h':SqL X.K H a ys):xs=ys:=by
 obtain⟨its,r,⟨o,n,e,_,_,d⟩,_⟩:=I.list h;obtain⟨its',r',⟨o',n',e',_,_,d'⟩,_⟩:=I.list h';rw[e]at e';cases e';rw[d]at d'
 injection d' with d1 _
 have:its=its':=by simpa using congrArg Array.toList d1
 subst this;exact r.inj r'
def Inv.tuple_inj(I:Inv X pins L H s)(h:SqT X.K H a xs)(h':SqT X.K H a ys):xs=ys:=by
 obtain⟨its,r,⟨o,e,_,n,d⟩,_⟩:=I.tuple h;obtain⟨its',r',⟨o',e',_,n',d'⟩,_⟩:=I.tuple h';rw[e]at e';cases e';rw[d]at d'
 injection d' with d1 _
 have:its=its':=by simpa using congrArg Array.toList d1
 subst this;exact r.inj r'
end
abbrev Cx.wish(X:Cx)(E:ca->Shared->Prop):Cx:={ X with xe:=E }
abbrev Cx.nox(X:Cx):Cx:=X.wish λ_ _=>False
def Cx.Ok.wish{X:Cx}(ok:X.Ok) E:(X.wish E).Ok :=
 (ok.mod,ok.kind,ok.glob,ok.blt,ok.above,ok.inj,ok.has,ok.cab,ok.hd,ok.frames,ok.stk,ok.exf,ok.bs,ok.bsz,ok.noex,ok.exfs,ok.funs,ok.frf)
def Cx.Ok.unwish{X:Cx}(ok:(X.wish E).Ok):X.Ok :=
 (ok.mod,ok.kind,ok.glob,ok.blt,ok.above,ok.inj,ok.has,ok.cab,ok.hd,ok.frames,ok.stk,ok.exf,ok.bs,ok.bsz,ok.noex,ok.exfs,ok.funs,ok.frf)
section
variable{L:St}
def Inv.wish(I:Inv X pins L H s) E:Inv (X.wish E) pins L H s:=(I.ok.wish E,I.os,I.bare,I.base,I.loc,I.cell,I.free,I.freeC,I.pin,I.hok,I.len)
def Inv.unwish(I:Inv (X.wish E) pins L H s):Inv X pins L H s:=(I.ok.unwish,I.os,I.bare,I.base,I.loc,I.cell,I.free,I.freeC,I.pin,I.hok,I.len)
def SP.unwish(h:SP (X.wish E) pins bE f s'):SP X pins bE f s':=by
 cases f with
 | next=>obtain⟨σ',H',I,q⟩:=h;exact(σ',H',I.unwish,q)
 | brk=>obtain⟨σ',H',I,q⟩:=h;exact(σ',H',I.unwish,q)
 | cont=>obtain⟨σ',H',I,q⟩:=h;exact(σ',H',I.unwish,q)
 | ret u=>obtain⟨v,σ',H',I,r,q⟩:=h;exact(v,σ',H',I.unwish,r,q)
def PSs.nox{st:List Stmt}(h:PSs X.nox st t):PSs X st t:=λpins s L H bE I hw =>
 cw (h pins s L H bE (I.wish _) hw) (λ_ _ q=>q.unwish) λ_ _ z=>False.elim z
end
section
variable{st:Stmt}
def tNext:TS:=λbE L H=>bE.nx L H
def tSeq(t u:TS):TS:=λbE L H=>t { bE with nx:=u bE } L H
def zhd:PSs X [] tNext:=λ_ _ L H _ I h=>cD (L,H,I,h)
def zfx(h1:PS X st t)(h2:PSs X rest u):PSs X (st::rest) (tSeq t u):=by
 intro pins s L H bE I h;refine wpAny_execs_cons (thn (h1 pins s L H { bE with nx:=u bE } I h) λf s1 q=>?_);cases f with
 | next =>
  obtain⟨σ',H',I',q⟩:=q;exact h2 pins s1 σ' H' bE I' q
 | ret v=>exact q
 | brk=>exact q
 | cont=>exact q
def zgG(h1:PS X st t):PSs X [st] t:=by
 intro pins s L H bE I h;refine wpAny_execs_cons (thn (h1 pins s L H bE I h) λf s1 q=>?_);cases f with
 | next=>exact cD q
 | ret v=>exact q
 | brk=>exact q
 | cont=>exact q
def Inv.quiet{pins:List (Addr×Obj)}{L:St}{H:Hp}{s:Shared}(I:Inv X pins L H s):interactive X.env=false:=by simp[interactive,I.ok.kind]
def tDrop(te:TE):TS:=λbE L H=>te L H λ_ H1=>bE.nx L H1
def zhJ(he:PE X e te)(hs:swapsWith e none pos.line X.env=pure false:=by rfl):PS X (.Expr e pos) (tDrop te):=by
 intro pins s L H bE I h;exact wpAny_Expr_any (thn (he pins s L H _ I h) λv s1 ⟨x,H1,I1,r1,q1⟩=>(L,H1,I1,q1)) I.quiet hs
def tRet(te:TE):TS:=λbE L H=>te L H bE.rt
def ziT(he:PE X e te):PS X (.Return (some e) pos) (tRet te):=by
 intro pins s L H bE I h;exact wpAny_Return_some (thn (he pins s L H _ I h) λv s1 ⟨x,H1,I1,r1,q1⟩=>(x,L,H1,I1,r1,q1))
def tIfS(c:TT)(t u:TS):TS:=λbE L H=>c L H λb H1=>if b=true then t bE L H1 else u bE L H1
def zkl(hc:PT X c tc)(ha:PSs X a t)(hb:PSs X b u):PS X (.If c a b pos) (tIfS tc t u):=by
 intro pins s L H bE I h;refine wpAny_If (thn (hc pins s L H _ I h) λd s1 ⟨H1,I1,q1⟩=>?_);cases d with
 | true=>exact ha pins s1 L H1 bE I1 q1
 | false=>exact hb pins s1 L H1 bE I1 q1
def tNever:TS:=λ_ _ _=>False
def zao:PS X st tNever:=λ_ _ _ _ _ _ h=>h.elim
end
abbrev TG:=V->St->Hp->(St->Hp->Prop)->Prop
abbrev TGs:=List V->St->Hp->(St->Hp->Prop)->Prop
def PG(X:Cx)(target:Expr)(t:TG):Prop :=
 ∀ pins s (L:St) H v u Q,Inv X pins L H s->RelV v u->t v L H Q ->
  cq (cr X.prog X.w) X.A (assign target X.env u) (λ_ s'=>∃ σ' H',Inv X pins σ' H' s'/\Q σ' H') X.xe s
def PGs(X:Cx)(ts:List Expr)(t:TGs):Prop :=
 ∀(pins:List (Addr×Obj))(s:Shared)(L:St)(H:Hp)(vs:List V)(us:List ca)(Q:St->Hp->Prop),Inv X pins L H s->Vals vs us->t vs L H Q ->
  cq (cr X.prog X.w) X.A (assignInOrder ((cE ts X.env).map (·.2)) us) (λ_ s'=>∃ σ' H',Inv X pins σ' H' s'/\Q σ' H') X.xe s
abbrev TSet:=V->V->V->Hp->(Hp->Prop)->Prop
def PSet(X:Cx)(t:TSet):Prop :=
 ∀ pins s (L:St) H o i v ov iv u Q,Inv X pins L H s->RelV o ov->RelV i iv->RelV v u->t o i v H Q ->
  cq (cr X.prog X.w) X.A (setItem ov iv u) (λ_ s'=>∃ H',Inv X pins L H' s'/\Q H') X.xe s
abbrev TIp:=V->V->Hp->VK->Prop
def PIp(X:Cx)(op:Operator)(t:TIp):Prop :=
 ∀ pins s (L:St) H x y v u Q,Inv X pins L H s->RelV x v->RelV y u->t x y H Q ->
  cq (cr X.prog X.w) X.A (inplaceOp op v u) (EP X pins L Q) X.xe s
section
variable{pos:Pos}
def gName(i:Nat):TG:=λv L H Q=>Q (L.set i (some v)) H
def Zx(hN:X.N.Nodup)(hi:X.N[i]?=some x)(D:Loc X.env.scope x)(hf:X.fn x=true\/X.env.scope.names.lookup x=some .local:=by first|exact .inl rfl|exact .inr rfl|assumption):PG X (.Name x pos) (gName i):=by
 intro pins s L H v u Q I r h;exact wpAny_assign_Name (ql I hN hi D r (λs' I'=>(_,H,I',h)) hf)
def gNil:TGs:=λvs L H Q=>vs=[]/\Q L H
inductive zbX(t:TG)(u:TGs)(vs:List V)(L:St)(H:Hp)(Q:St->Hp->Prop):Prop where
 | mk (v:V) (r:List V) (h0_:vs=v::r) (h1_:t v L H λσ' H'=>u r σ' H' Q):zbX t u vs L H Q
def gCons(t:TG)(u:TGs):TGs:=λvs L H Q=>zbX t u vs L H Q
def zcU:PGs X [] gNil:=by
 intro pins s L H vs us Q I r h;obtain⟨e,h⟩:=h;subst e;cases r;exact assignInOrder_nil (L,H,I,h)
def YR(h1:PG X e t)(h2:PGs X es u)
  (hs:(cE (e::es) X.env).map (·.2)=assign e X.env ::(cE es X.env).map (·.2):=by rfl):PGs X (e::es) (gCons t u):=by
 intro pins s L H vs us Q I r h;obtain⟨v,vr,e1,h⟩:=h;subst e1;cases r with
 | cons r rr =>
  rw[hs];refine ba (thn (h1 pins s L H _ _ _ I r h) λ_ s1 ⟨σ1,H1,I1,q1⟩=>?_);exact h2 pins s1 σ1 H1 _ _ Q I1 rr q1
inductive zgy(K:bh)(n:Nat)(t:TGs)(v:V)(L:St)(H:Hp)(Q:St->Hp->Prop):Prop where
 | mk (a:Addr) (xs:List V) (h0_:v=.ref a) (h1_:SqT K H a xs) (h2_:xs.length=n) (h3_:t xs L H Q):zgy K n t v L H Q
def gTup(K:bh)(n:Nat)(t:TGs):TG:=λv L H Q=>zgy K n t v L H Q
def zio{k:Nat}(hc:X.calm=true)(h:PGs X es t)
  (hn:(cE es X.env).length=n:=by rfl) (hst:(cE es X.env).findIdx? (·.1)=none:=by rfl):PG X (.Tuple es k pos) (gTup X.K n t):=by
 intro pins s L H v u Q I r hw;obtain⟨a,xs,e1,hq,hl,hw⟩:=hw;subst e1;cases r;obtain⟨its,rv,ht,hz⟩:=I.tuple hq;refine assign_Tuple_tuple (I.ok.hd hc) ht (by simp[hn,← hl,rv.length]) hst λh' D=>?_
 have I1:Inv X pins L H { s with heap:=h' }:=I.kept (t':=s.toks) λb o e=>D b o (vp (Heap.lt_size e)) e
 exact h pins _ L H xs _ Q I1 (by simpa using rv) hw
def gSub(to ti:TE)(t:TSet):TG:=λv L H Q=>to L H λo H1=>ti L H1 λi H2=>t o i v H2 λH3=>Q L H3
def ziM(ho:PE X o to)(hi:PE X i ti)(hs:PSet X t)
  (ha:∀ v,assign (.Subscript o i pos) X.env v =(do
   let ov ← holding [v] (eval o X.env)
   let iv ← holding [v,ov] (eval i X.env)
   standAt pos
   holding [v,ov,iv] (setItem ov iv v)
   release [v,ov,iv] []):=by intro _;rfl):PG X (.Subscript o i pos) (gSub to ti t):=by
 intro pins s L H v u Q I r h;rw[ha];refine cF (cG (thn (ho pins s L H _ I h) λov s1 ⟨x,H1,I1,r1,q1⟩=>?_));refine cF (cG (thn (hi pins s1 L H1 _ I1 q1) λiv s2 ⟨y,H2,I2,r2,q2⟩=>?_));refine cF (cH (cF (cG (thn (hs pins s2 L H2 x y v ov iv u _ I2 r1 r2 r q2) λ_ s3 ⟨H3,I3,q3⟩=>?_))));exact wpAny_release (L,H3,I3,q3)
def tAsg(te:TE)(g:TG):TS:=λbE L H=>te L H λx H1=>g x L H1 bE.nx
def zi3(he:PE X e te)(hg:PG X tg g)(hs:swapsWithSole [tg] e pos.line X.env=pure false:=by rfl)(hw:swappedStores [tg] e X.env=pure none:=by rfl)
  (h1:(cE [tg] X.env).map (·.2)=[assign tg X.env]:=by rfl):PS X (.Assign [tg] e pos) (tAsg te g):=by
 intro pins s L H bE I h;refine wpAny_Assign_stores (thn (he pins s L H _ I h) λv s1 ⟨x,H1,I1,r1,q1⟩=>?_) hs hw;rw[h1];exact thn (hg pins s1 L H1 x v _ I1 r1 q1) λ_ s2 q=>q
def zjG{i:Nat}{x:Str}{e:Expr}{te:TE}{pos':Pos}(hN:X.N.Nodup)(hi:X.N[i]?=some x)(D:Loc X.env.scope x)(he:PE X e te)(hs:swapsWith e (some (.Name x pos')) pos.line X.env=pure false:=by rfl)(hf:X.fn x=true\/X.env.scope.names.lookup x=some .local:=by first|exact .inl rfl|exact .inr rfl|assumption) :
  PS X (.Assign [.Name x pos'] e pos) (tAsg te (gName i)):=by
 intro pins s L H bE I h;refine wpAny_Assign_Name (thn (he pins s L H _ I h) λv s1 ⟨y,H1,I1,r1,q1⟩=>?_) hs;exact ql I1 hN hi D r1 (λs2 I2=>(_,H1,I2,q1)) hf
def tPar(i j:Nat)(ta:TA):TS:=λbE L H=>ta L H λvs H1=>∃ v w,vs=[v,w]/\bE.nx ((L.set i (some v)).set j (some w)) H1
def ziZ{kt k2 pt2}(hc:X.calm=true)(hN:X.N.Nodup)(hi:X.N[i]?=some x)(hj:X.N[j]?=some y)(hij:i≠j)
  (D:X.env.scope.names.lookup x=some .local) (hy:X.env.scope.names.lookup y=some .local) (ha:PA X [a,b] ta)
  (hw:swappedStores [.Tuple [.Name x px,.Name y py] kt pt] (.Tuple [a,b] k2 pt2) X.env=pure (some [x,y]))
  (hs:swapsWithSole [.Tuple [.Name x px,.Name y py] kt pt] (.Tuple [a,b] k2 pt2) pos.line X.env=pure false:=by rfl) :
  PS X (.Assign [.Tuple [.Name x px,.Name y py] kt pt] (.Tuple [a,b] k2 pt2) pos) (tPar i j ta):=by
 intro pins s L H bE I h;rw[exec_Assign_arm];refine cF (cH ?_);rw[hs];refine cF (cJ ?_);rw[bn ()];refine cF (Tuple_ (thn (ha _ pins s L H _ I h) λus s1 ⟨vs,H1,I1,r1,q1⟩=>?_));obtain⟨v,w,e1,q1⟩:=q1;subst e1;obtain⟨u1,u2,rfl,rv,rw'⟩ : ∃ u1 u2,us=[u1,u2]/\RelV v u1/\RelV w u2:=by
  cases r1 with
  | cons p q =>
   cases q with
   | cons p' q' =>
    cases q';exact(_,Z,p,p')
 refine wpAny_newObj_type ?_ ();have I2:Inv X pins L H1 { s1 with heap:=s1.heap.push { cls:=.type "tuple",data:=.seq [u1,u2].toArray } }:=I1.kept (t':=s1.toks) λb o e=>Heap.get?_push_of_some _ e
 rw[hw];refine cF (cJ ?_);refine cF (wpAny_rule (cF (unpackItems_tuple (items:=#[u1,u2]) (I.ok.hd hc) (IsTup.new s1.heap _) λh' hx'=>?_)));have I3:=I2.kept (h':=h') (t':=s1.toks) λb o e=>hx' b o (vp (Heap.lt_size e)) e
 refine cF (ba (wpAny_bindName (ql I3 hN hj (.inl hy) rw' (λs2 I4=>?_) (.inr hy))));refine ba (wpAny_bindName (ql I4 hN hi (.inl D) rv (λs3 I5=>assignInOrder_nil (cJ ?_)) (.inr D)));rw[List.set_comm _ _ (Ne.symm hij)]at I5;exact(_,H1,I5,q1)
def tAug(i:Nat)(te:TE)(ti:TIp):TS:=λbE L H=>∃ x,L[i]?=some (some x)/\te L H λy H1=>ti x y H1 λz H2=>bE.nx (L.set i (some z)) H2
def zis(hN:X.N.Nodup)(hi:X.N[i]?=some x)(D:Loc X.env.scope x)(he:PE X e te)(ho:PIp X op ti)(hf:X.fn x=true\/X.env.scope.names.lookup x=some .local:=by first|exact .inl rfl|exact .inr rfl|assumption) :
  PS X (.AugAssign (.Name x pos') op e pos) (tAug i te ti):=by
 intro pins s L H bE I h;obtain⟨v,e1,h⟩:=h;obtain⟨m,hn,hl⟩:=I.loc;have vis:Vis X.env.scope x:=by rcases D with k|k;exact .inl k;exact .inr (.inl k)
 obtain⟨u,r,l⟩:=hl i x v hi e1 vis;refine wpAny_AugAssign_Name ?_;have go:cq (cr X.prog X.w) X.A (eval e X.env) (λw s₂=>cq (cr X.prog X.w) X.A (inplaceOp op u w) (λr s₃=>cq (cr X.prog X.w) X.A (storeName X.env x r) (λ_=>SP X pins bE .next) X.xe s₃) X.xe s₂) X.xe s:=by
  refine thn (he pins s L H _ I h) λw s1 ⟨y,H1,I1,r1,q1⟩=>?_
  refine thn (ho pins s1 L H1 v y u w _ I1 r r1 q1) λz s2 ⟨zv,H2,I2,r2,q2⟩=>?_
  exact ql I2 hN hi D r2 (λs3 I3=>(_,H2,I3,q2)) hf
 rcases l with⟨J,hm⟩|⟨J,c,hc,hcell⟩
 ·exact wpAny_loadName_local I.ok.kind J hn hm go
 ·rcases J with J|J
  ·exact wpAny_loadName_cell I.ok.kind J hc hcell go
  ·rcases D with k|k
   ·have:X.env.scope.names.lookup x=some .free:=J;rw[k]at this;cases this
   ·have:X.env.scope.names.lookup x=some .free:=J;rw[k]at this;cases this
def ipI(f:Int->Int->Int):TIp:=λx y H Q=>∃ i j,x=.int i/\y=.int j/\Q (.int (f i j)) H
def zil:PIp X .Add (ipI λi j=>i+j):=by
 intro pins s L H x y v u Q I r1 r2 h;obtain⟨i,j,e1,e2,q⟩:=h;subst e1;subst e2;obtain⟨t,rfl⟩:=r1;obtain⟨t',rfl⟩:=r2;exact iadd_int (.int _,H,I.tok _,(_,rfl),q)
end
section
def tWhile(c:TT)(tb:TS):TS:=λbE L H=>∃ W:Nat->St->Hp->Prop,(∃ m,W m L H)/\∀ m L H,W m L H ->
 c L H λb H1=>if b=true then ∃ N:St->Hp->Prop,(∀ σ' H',N σ' H'->∃ m',m'<m/\W m' σ' H')/\tb { bE with nx:=N,ct:=N,bk:=bE.nx } L H1 else bE.nx L H1
def zfw(C:PassesOwn (cr X.prog X.w) X.A X.env X.xe)(hc:PT X c tc)(hb:PSs X body tb):PS X (.While c body [] pos) (tWhile tc tb):=by
 intro pins s L H bE I h;obtain⟨W,⟨m0,w0⟩,turn⟩:=h;refine wpAny_While (codeAny_whileLoop (λn s'=>∃ σ' H',Inv X pins σ' H' s'/\W n σ' H') ?_ m0 (L,H,I,w0))
 rintro n s1 ⟨σ1,H1,I1,w1⟩
 refine cK C (thn (hc pins s1 σ1 H1 _ I1 (turn n σ1 H1 w1)) λb s2 ⟨H2,I2,q2⟩=>?_);cases b with
 | true =>
  obtain⟨N,hN,q2⟩:=q2;rw[bj rfl];refine cK C (thn (hb pins s2 σ1 H2 _ I2 q2) λf s3 q3=>?_);cases f with
  | next =>
   obtain⟨σ3,H3,I3,n3⟩:=q3;obtain⟨m',hm,w3⟩:=hN σ3 H3 n3;exact(m',hm,σ3,H3,I3,w3)
  | cont =>
   obtain⟨σ3,H3,I3,n3⟩:=q3;obtain⟨m',hm,w3⟩:=hN σ3 H3 n3;exact(m',hm,σ3,H3,I3,w3)
  | brk=>exact q3
  | ret v=>exact q3
 | false =>
  rw[bn vg];exact cD (σ1,H2,I2,q2)
end
structure It where
 go:Nat->Hp->Prop
 yld:Nat->Hp->V->Hp->Prop
 stop:Nat->Hp->Prop
def FpOk(X:Cx)(pins:List (Addr×Obj))(H:Hp)(b:Addr):Prop :=
 H b=none/\b≠X.env.locals/\b∉X.fs/\(b∈X.ex\/X.s₀.heap.objs.size<=b)/\(∀ x c,X.env.cells.lookup x=some c->c≠b)/\∀ p∈X.pn++pins,p.1≠b
def Inv.fpOk{L:St}{b:Addr}(I:Inv X pins L H s)(hb:s.heap.objs.size<=b)(hn:H' b=none):FpOk X pins H' b:=by
 refine(hn,wa5 (vw I.lt hb),I.nofs hb,.inr (wE I.sz hb),λx c e z=>?_,λp C z=>?_)
 ·obtain⟨v,q⟩:=I.cell x c e;exact bw (vw q.lt (by rw[z];exact hb)) (vY _)
 ·exact bw (vw (Heap.lt_size (I.pin p C).1) (by rw[z];exact hb)) (vY _)
structure Turn(P:cf)(w:ce)(K:bh)(tg:Expr)(bz:It)(fp:List Addr)(it:Addr)(tn:Nat->Heap->Prop):Prop where
 mem:it∈fp
 obj:∀ i h,tn i h->∀ b∈fp,∃ o,h.get? b=some o/\∀ v,o.data≠.cell v
 keep:∀ i h h',tn i h->(∀ b∈fp,∀ o,h.get? b=some o->h'.get? b=some o)->tn i h'
 item:∀(X:Cx),X.prog=P->X.w=w->X.K=K->X.calm=true->∀(i:Nat)(pins:List (Addr×Obj))(s:Shared)(L:St)(H:Hp)(E:ca->Shared->Prop),Inv X pins L H s->(∀ b∈fp,FpOk X pins H b)->tn i s.heap->bz.go i H ->
  cq (cr P w) X.A (pyNext (.ref it)) (λr s1=>∃ u,r=some u /\
   cq (cr P w) X.A (cL tg (.ref it) u) (λ_ s2=>∃ x H',Inv X pins L H' s2/\RelV x u/\bz.yld i H x H'/\tn (i+1) s2.heap/\∀ b∈fp,H' b=none) E s1) E s
 done:∀(X:Cx),X.prog=P->X.w=w->X.K=K->X.calm=true->∀(i:Nat)(pins:List (Addr×Obj))(s:Shared)(L:St)(H:Hp)(E:ca->Shared->Prop),Inv X pins L H s->(∀ b∈fp,FpOk X pins H b)->tn i s.heap->bz.stop i H ->
  cq (cr P w) X.A (pyNext (.ref it)) (λr s1=>r=none/\Inv X pins L H s1) E s
 self:∀(A:cm)(i:Nat)(s:Shared)(Q:ca->Shared->Prop)(E:ca->Shared->Prop),tn i s.heap->Q (.ref it) s->cq (cr P w) A (pyIter (.ref it)) Q E s
abbrev TI:=St->Hp->(It->Hp->Prop)->Prop
def PIE(X:Cx)(pins:List (Addr×Obj))(L:St)(tg:Expr)(R:It->Hp->Prop)(itv:ca)(s2:Shared):Prop :=
 ∃(it:Addr)(fp:List Addr)(tn:Nat->Heap->Prop)(bz:It)(H':Hp),itv=.ref it/\Inv X pins L H' s2/\Turn X.prog X.w X.K tg bz fp it tn/\tn 0 s2.heap/\(∀ b∈fp,FpOk X pins H' b)/\R bz H'
def PI(X:Cx)(tg iter:Expr)(wi:TI):Prop :=
 ∀ pins s (L:St) H R,Inv X pins L H s->wi L H R ->
  cq (cr X.prog X.w) X.A (eval iter X.env) (λv s1=>cq (cr X.prog X.w) X.A (pyIter v) (PIE X pins L tg R) X.xe s1) X.xe s
def zeU{M:Model}{A:cm}{E:ca->Shared->Prop}{s:Shared}{tg:Expr}{it:Addr}{u:ca}{o:Obj}{n:String}{vs:Array ca}{Q:Unit->Shared->Prop}(ho:s.heap.get? it=some o)(hc:o.cls=.type n)(hd:o.data=.fields vs)
  (hn:["enumerate", "zip", "dict_itemiterator", "dict_reverseitemiterator", "odict_iterator", "itertools.zip_longest", "itertools.pairwise"].contains n=false) (hQ:Q PUnit.unit s):cq M A (cL tg (.ref it) u) Q E s:=by
 unfold cL;cases tg <;> first
  | exact cJ hQ
  | (cases u <;> first
    | exact cJ hQ
    | (refine cF (wpAny_load ho ?_)
       rw[hc,hd];show cq M A (if (["enumerate", "zip", "dict_itemiterator", "dict_reverseitemiterator", "odict_iterator", "itertools.zip_longest", "itertools.pairwise"].contains n && vs[0]? == some (rawInt _))=true then _ else _) Q E s;rw[bn (by intro h;rw[hn,Bool.false_and]at h;cases h)];exact cJ hQ))
def Itl(K:bh)(a:Addr):It :=
 (λi H=>∃ xs x,SqL K H a xs/\xs[i]?=some x,λi H x H'=>H'=H/\∀ xs,SqL K H a xs->xs[i]?=some x,λi H=>∃ xs,SqL K H a xs/\xs.length<=i)
def Itt(K:bh)(a:Addr):It :=
 (λi H=>∃ xs x,SqT K H a xs/\xs[i]?=some x,λi H x H'=>H'=H/\∀ xs,SqT K H a xs->xs[i]?=some x,λi H=>∃ xs,SqT K H a xs/\xs.length<=i)
def Itr(lo:Int)(n:Nat):It:=(λi _=>i<n,λi H x H'=>H'=H/\x=.int (lo+i),λi _=>n<=i)
def zch{K:bh} a it:Turn P w K tg (Itl K a) [it] it (λi h=>h.IsListIter it a i) where
 mem:=by simp
 obj:=λi h st b hb=>by
  have e:b=it:=by simpa using hb
  subst e;obtain⟨o,e,c,d⟩:=st;exact(o,e,λv z=>by rw[d]at z;cases z)
 keep:=λi h h' st k=>st.at λo e=>k it (by simp) o e
 item:=by
  intro X hP hw hK hc i pins s L H E I hf st hg;subst hP hw hK;obtain⟨xs,x,hq,D⟩:=hg;obtain⟨its,rv,p,hz⟩:=I.list hq;obtain⟨u,hu,ru⟩:=rv.get D;obtain⟨f0,f1,f2,f3,f4,f5⟩:=hf it (by simp);refine wpAny_pyNext_list_item st p.isList (by simpa using hu) λh' st' sb=>?_
  have I1:Inv X pins L H { s with heap:=h' }:=I.turned (t':=s.toks) (λb o hb e=>(sb.2 b hb).trans e) f0 f1 f3 f4 f5;obtain⟨o,e,c,d⟩:=id st';exact(u,V,zeU e c d () (x,H,I1,ru,(V,λys hy=>by rw[I.list_inj hy hq];exact D),st',λb hb=>(hf b hb).1))
 done:=by
  intro X hP hw hK hc i pins s L H E I hf st hg;subst hP hw hK;obtain⟨xs,hq,D⟩:=hg;obtain⟨its,rv,p,hz⟩:=I.list hq;obtain⟨f0,f1,f2,f3,f4,f5⟩:=hf it (by simp);have hl:=rv.length;exact wpAny_pyNext_list_end (I.ok.hd hc) st p.isList (by simp;omega) λh' eb=>(V,I.turned (t':=s.toks) (λb o hb e=>eb b o hb e) f0 f1 f3 f4 f5)
 self:=λ_ _ _ _ _ st h=>wpAny_pyIter_listiter st h
def zbo{K:bh} a it:Turn P w K tg (Itt K a) [it] it (λi h=>h.IsTupleIter it a i) where
 mem:=by simp
 obj:=λi h st b hb=>by
  have e:b=it:=by simpa using hb
  subst e;obtain⟨o,e,c,d⟩:=st;exact(o,e,λv z=>by rw[d]at z;cases z)
 keep:=λi h h' st k=>st.at λo e=>k it (by simp) o e
 item:=by
  intro X hP hw hK hc i pins s L H E I hf st hg;subst hP hw hK;obtain⟨xs,x,hq,D⟩:=hg;obtain⟨its,rv,p,hz⟩:=I.tuple hq;obtain⟨u,hu,ru⟩:=rv.get D;obtain⟨f0,f1,f2,f3,f4,f5⟩:=hf it (by simp);refine wpAny_pyNext_tuple_item st (show s.heap.IsTuple a its.toArray from p) (by simpa using hu) λh' st' sb=>?_
  have I1:Inv X pins L H { s with heap:=h' }:=I.turned (t':=s.toks) (λb o hb e=>(sb.2 b hb).trans e) f0 f1 f3 f4 f5;obtain⟨o,e,c,d⟩:=id st';exact(u,V,zeU e c d () (x,H,I1,ru,(V,λys hy=>by rw[I.tuple_inj hy hq];exact D),st',λb hb=>(hf b hb).1))
 done:=by
  intro X hP hw hK hc i pins s L H E I hf st hg;subst hP hw hK;obtain⟨xs,hq,D⟩:=hg;obtain⟨its,rv,p,hz⟩:=I.tuple hq;obtain⟨f0,f1,f2,f3,f4,f5⟩:=hf it (by simp);have hl:=rv.length;exact wpAny_pyNext_tuple_end (I.ok.hd hc) st (show s.heap.IsTuple a its.toArray from p) (by simp;omega) λh' eb=>(V,I.turned (t':=s.toks) (λb o hb e=>eb b o hb e) f0 f1 f3 f4 f5)
 self:=λ_ _ _ _ _ st h=>wpAny_pyIter_tupleiter st h
def zbi{K:bh} it lo n:Turn P w K tg (Itr lo n) [it] it (λi h=>IsRangeIter h it (lo +(i:Nat)*1) ((n:Int) - (i:Nat)) 1) where
 mem:=by simp
 obj:=λi h st b hb=>by
  have e:b=it:=by simpa using hb
  subst e;exact(_,st,λv z=>by
   have z':= z;cases z')
 keep:=λi h h' st k=>k it (by simp) _ st
 item:=by
  intro X hP hw hK hc i pins s L H E I hf st hg;subst hP hw hK;obtain⟨f0,f1,f2,f3,f4,f5⟩:=hf it (by simp);have W:=Walks.range (prog:=X.prog) (w:=X.w) (I.ok.hd hc) it lo 1 n;refine W.item i s _ _ hg st λv h' tk hv st' kk=>?_
  obtain⟨t,rfl⟩:=hv;have I1:Inv X pins L H { s with heap:=h',toks:=tk }:=I.turned (λb o hb e=>kk b o (by simpa using hb) e) f0 f1 f3 f4 f5;refine(Z,zeU st' rfl rfl () (.int (lo+i),H,I1,(t,?_),(V,V),st',λb hb=>(hf b hb).1));rw[Int.mul_one]
 done:=by
  intro X hP hw hK hc i pins s L H E I hf st hg;subst hP hw hK;obtain⟨f0,f1,f2,f3,f4,f5⟩:=hf it (by simp);exact wpAny_pyNext_range_end (I.ok.hd hc) st (by have:n<=i:=hg;omega) λh' eb=>(V,I.turned (t':=s.toks) (λb o hb e=>eb b o hb e) f0 f1 f3 f4 f5)
 self:=λ_ _ _ _ _ st h=>wpAny_pyIter_rangeiter st h
section
inductive zcD(K:bh)(x:V)(H1:Hp)(R:It->Hp->Prop):Prop where
 | mk (a:Addr) (h0_:x=.ref a) (h1_:(∃ xs,SqL K H1 a xs)) (h2_:R (Itl K a) H1):zcD K x H1 R
def iList(K:bh)(tl:TE):TI:=λL H R=>tl L H λx H1=>zcD K x H1 R
def iTup(K:bh)(tl:TE):TI:=λL H R=>tl L H λx H1=>∃ a,x=.ref a/\(∃ xs,SqT K H1 a xs)/\R (Itt K a) H1
def zhW(hl:PE X l tl):PI X tg l (iList X.K tl):=by
 intro pins s L H R I h;refine thn (hl pins s L H _ I h) λv s1 ⟨x,H1,I1,r1,q1⟩=>?_
 obtain⟨a,e,⟨xs,hq⟩,q⟩:=q1;subst e;cases r1;obtain⟨its,rv,p,hz⟩:=I1.list hq;refine cN p.isList ?_;refine(s1.heap.objs.size,[s1.heap.objs.size],_,_,H1,V,I1.kept (t':=s1.toks) λb o e=>Heap.get?_push_of_some _ e,zch a _,(_,Heap.get?_push_size _ rfl,V,V),λb hb=>?_,q);have e:b=s1.heap.objs.size:=by simpa using hb
 subst e;exact I1.fpOk (wv _) (I1.hok.fresh (wv _))
def ziX(hl:PE X l tl):PI X tg l (iTup X.K tl):=by
 intro pins s L H R I h;refine thn (hl pins s L H _ I h) λv s1 ⟨x,H1,I1,r1,q1⟩=>?_
 obtain⟨a,e,⟨xs,hq⟩,q⟩:=q1;subst e;cases r1;obtain⟨its,rv,p,hz⟩:=I1.tuple hq;refine wpAny_pyIter_tuple (show s1.heap.IsTuple a its.toArray from p) ?_;refine(s1.heap.objs.size,[s1.heap.objs.size],_,_,H1,V,I1.kept (t':=s1.toks) λb o e=>Heap.get?_push_of_some _ e,zbo a _,(_,Heap.get?_push_size _ rfl,V,V),λb hb=>?_,q);have e:b=s1.heap.objs.size:=by simpa using hb
 subst e;exact I1.fpOk (wv _) (I1.hok.fresh (wv _))
def zey{pins:List (Addr×Obj)}{L:St}{H:Hp}{s:Shared}{R:It->Hp->Prop}{E:ca->Shared->Prop}{lo hi:Int}{t u v:Tok}{tk:Nat}(I:Inv X pins L H s)(h1 : -(2^62)<=lo)(h2:lo<2^62)(h3 : -(2^62)<=hi)(h4:hi<2^62)
  (q:R (Itr lo (hi - lo).toNat) H):cq (cr X.prog X.w) X.A (pyIter (.ref s.heap.objs.size)) (PIE X pins L tg R) E { s with heap:=s.heap.push { cls:=.type "range",data:=.fields #[.int lo t,.int hi u,.int 1 v] },toks:=tk }:=by
 refine wpAny_pyIter_range (IsRange.new ..) (small_one h1 h2 h3 h4) ?_;have I1:Inv X pins L H { s with heap:=s.heap.push { cls:=.type "range",data:=.fields #[.int lo t,.int hi u,.int 1 v] },toks:=tk }:=I.kept λb o e=>Heap.get?_push_of_some _ e
 refine((s.heap.push { cls:=.type "range",data:=.fields #[.int lo t,.int hi u,.int 1 v] }).objs.size,[(s.heap.push { cls:=.type "range",data:=.fields #[.int lo t,.int hi u,.int 1 v] }).objs.size],_,_,H,V,
  I1.kept (t':=tk) λb o e=>Heap.get?_push_of_some _ e,zbi _ lo (hi - lo).toNat,?_,λb hb=>?_,q)
 ·have e1:lo +((0:Nat):Int)*1=lo:=by simp
  have e2:(((hi - lo).toNat:Nat):Int) - ((0:Nat):Int)=Builtin.Range.rangeSize lo hi 1:=by rw[rangeSize_one];split <;> omega
  rw[e1,e2];exact Heap.get?_push_size _ rfl
 ·have e:b =(s.heap.push { cls:=.type "range",data:=.fields #[.int lo t,.int hi u,.int 1 v] }).objs.size:=by simpa using hb
  subst e;exact I1.fpOk (wv _) (I1.hok.fresh (wv _))
inductive zdB(vs:List V)(H1:Hp)(R:It->Hp->Prop):Prop where
 | mk (j:Int) (h0_:vs=[.int j]) (h1_ : -(2^62)<=j) (h2_:j<2^62) (h3_:R (Itr 0 j.toNat) H1):zdB vs H1 R
def iRng1(ta:TA):TI:=λL H R=>ta L H λvs H1=>zdB vs H1 R
def zdy (hg:Gl X "range") (hm:X.mg "range" = none) (ha:PA X [a] ta) (hs:cv [a] X.env=[(false,eval a X.env)]:=by rfl):PI X tg (.Call (.Name "range" p) [a] [] pos) (iRng1 ta):=by
 intro pins s L H R I h;refine Call_ (qJ I hg hm boot_range (PyProof.Rows.callWith_type1 (thn (ha pos pins s L H _ I h) λus s1 ⟨vs,H1,I1,r1,q1⟩=>?_) hs rfl));obtain⟨j,e,q1,q2,q⟩:=q1;subst e;cases r1 with
 | cons r rr =>
  cases rr;obtain⟨t,rfl⟩:=r;exact call_range_1 (zey I1 () () q1 q2 (by simpa using q))
def tFor(wi:TI)(g:TG)(tb:TS):TS:=λbE L H=>wi L H λbz H1=>∃ W:Nat->Nat->St->Hp->Prop,(∃ m,W 0 m L H1)/\∀ i m L H,W i m L H ->
 (bz.stop i H/\bE.nx L H)\/(bz.go i H/\∃ N:St->Hp->Prop,(∀ σ' H',N σ' H'->∃ m',m'<m/\W (i+1) m' σ' H')/\∀ x H',bz.yld i H x H'->g x L H' λσ2 H2=>tb { bE with nx:=N,ct:=N,bk:=bE.nx } σ2 H2)
def pinsAt(fp:List Addr)(h:Heap):List (Addr×Obj):=fp.filterMap λb=>(h.get? b).map λo=>(b,o)
def jy(hb:b∈fp)(e:h.get? b=some o):(b,o)∈pinsAt fp h:=wal.mpr (b,hb,by rw[e];rfl)
def zcN(C:p∈pinsAt fp h):p.1∈fp/\h.get? p.1=some p.2:=by
 obtain⟨b,hb,e⟩:=wal.mp C;cases q:h.get? b with
 | none=>rw[q]at e;cases e
 | some o =>
  rw[q]at e;have e':= Option.some.inj e;subst e';exact(hb,q)
def Inv.pinned{L:St}(I:Inv X pins L H s)(hf:∀ b∈fp,FpOk X pins H b)(ho:∀ b∈fp,∃ o,s.heap.get? b=some o/\∀ v,o.data≠.cell v):Inv X (pins++pinsAt fp s.heap) L H s :=
 I.pins_of λp C=>(wq.mp C).elim (λz=>I.pin p (wL _ z)) λz=>by
  obtain⟨hb,e⟩:=zcN z;obtain⟨f0,f1,f2,_⟩:=hf p.1 hb;obtain⟨o,e',d⟩:=ho p.1 hb;rw[e]at e';cases e';exact(e,f0,f1,f2,d)
def Inv.unpinned{L:St}(I:Inv X (pins++pl) L H s):Inv X pins L H s:=I.pins_of λp C=>I.pin p (wL _ (vh _ C))
def zik(C:PassesOwn (cr X.prog X.w) X.A X.env X.xe)(hc:X.calm=true)(hi:PI X tg iter wi)(hg:PG X tg g)(hb:PSs X body tb)
  (hs:∀ x,cO iter X.env x=pure x:=by intro _;rfl):PS X (.For tg iter body [] pos) (tFor wi g tb):=by
 intro pins s L H bE I h;refine wpAny_For (thn (hi pins s L H _ I h) λv s1 h1=>thn h1 λitv s2 h2=>?_) hs;obtain⟨it,fp,tn,bz,H2,e,I2,T,st2,f2,W,⟨m0,w0⟩,turn⟩:=h2;subst e;have stat:∀ {H':Hp},(∀ b∈fp,H' b=none)->∀ b∈fp,FpOk X pins H' b:=λhn b hb=>(hn b hb,(f2 b hb).2)
 refine codeAny_forLoop_any (λn s'=>∃ i σ' H',Inv X pins σ' H' s'/\tn i s'.heap/\(∀ b∈fp,H' b=none)/\W i n σ' H') ?_ m0 (0,L,H2,I2,st2,λb hb=>(f2 b hb).1,w0)
 rintro n s3 ⟨i,σ3,H3,I3,st3,fr3,w3⟩
 rcases turn i n σ3 H3 w3 with⟨stop,qn⟩|⟨go,N,hN,step⟩
 ·refine cK C (thn (T.done X rfl rfl rfl hc i pins s3 σ3 H3 X.xe I3 (stat fr3) st3 stop) λr s4 ⟨U,I4⟩=>?_);subst U;exact cD (σ3,H3,I4,qn)
 ·refine cK C (thn (T.item X rfl rfl rfl hc i pins s3 σ3 H3 X.xe I3 (stat fr3) st3 go) λr s4 ⟨u,U,h4⟩=>?_);subst U;refine cK C (thn h4 λ_ s5 ⟨x,H5,I5,r5,y5,st5,fr5⟩=>?_);have I5':=I5.pinned (stat fr5) (T.obj _ _ st5);refine cK C (thn (hg _ s5 σ3 H5 x u _ I5' r5 (step x H5 y5)) λ_ s6 ⟨σ6,H6,I6,q6⟩=>?_);refine cK C (thn (hb _ s6 σ6 H6 _ I6 q6) λf s7 q7=>?_);have again:∀ {σ7:St} {H7:Hp},Inv X (pins++pinsAt fp s5.heap) σ7 H7 s7->N σ7 H7->∃ m,m<n/\∃ i σ' H',Inv X pins σ' H' s7/\tn i s7.heap/\(∀ b∈fp,H' b=none)/\W i m σ' H':=λ{σ7 H7} I7 n7=>by
   obtain⟨m',hm,w7⟩:=hN σ7 H7 n7;refine(m',hm,i+1,σ7,H7,I7.unpinned,T.keep _ _ _ st5 λb hb o e=>(I7.pin (b,o) (wL _ (wL _ (jy hb e)))).1,λb hb=>?_,w7);obtain⟨o,e,d⟩:=T.obj _ _ st5 b hb;exact(I7.pin (b,o) (wL _ (wL _ (jy hb e)))).2.1
  cases f with
  | next=>obtain⟨σ7,H7,I7,n7⟩:=q7;exact again I7 n7
  | cont=>obtain⟨σ7,H7,I7,n7⟩:=q7;exact again I7 n7
  | brk=>obtain⟨σ7,H7,I7,q7⟩:=q7;exact(σ7,H7,I7.unpinned,q7)
  | ret v=>obtain⟨x7,σ7,H7,I7,r7,q7⟩:=q7;exact(x7,σ7,H7,I7.unpinned,r7,q7)
end
def yl{K:bh}{a:Addr}{xs:List V}{g:TG}{tb:TS}{bE:Ends}{L:St}{H:Hp}(Pv:Nat->St->Hp->Prop)(h0:Pv 0 L H)(hl:∀ i L H,i<=xs.length->Pv i L H->SqL K H a xs)
  (hs:∀ i x L H,xs[i]?=some x->Pv i L H->g x L H λσ2 H2=>tb { bE with nx:=Pv (i+1),ct:=Pv (i+1),bk:=bE.nx } σ2 H2) (hd:∀ L H,Pv xs.length L H->bE.nx L H) :
  ∃ W:Nat->Nat->St->Hp->Prop,(∃ m,W 0 m L H)/\∀ i m L H,W i m L H ->
   ((Itl K a).stop i H/\bE.nx L H)\/((Itl K a).go i H/\∃ N:St->Hp->Prop,(∀ σ' H',N σ' H'->∃ m',m'<m/\W (i+1) m' σ' H')/\∀ x H',(Itl K a).yld i H x H'->g x L H' λσ2 H2=>tb { bE with nx:=N,ct:=N,bk:=bE.nx } σ2 H2):=by
 refine(λi m L H=>m=xs.length - i/\i<=xs.length/\Pv i L H,(xs.length,by simp,vD _,h0),?_)
 rintro i m L H ⟨rfl,hi,p⟩
 have q:=hl i L H hi p
 by_cases hlt:i<xs.length
 ·refine .inr ((xs,xs[i],q,by simp[hlt]),Pv (i+1),λσ' H' p'=>(xs.length - (i+1),(),V,hlt,p'),λx H' y=>?_);obtain⟨e,y⟩:=y;subst e;exact hs i x L _ (y xs q) p
 ·have e:i=xs.length:=by omega
  subst e;exact .inl ((xs,q,wv _),hd L H p)
def zS{lo:Int}{g:TG}{tb:TS}{bE:Ends}(Pv:Nat->St->Hp->Prop)(h0:Pv 0 L H)
  (hs:∀ i L H,i<n->Pv i L H->g (.int (lo+i)) L H λσ2 H2=>tb { bE with nx:=Pv (i+1),ct:=Pv (i+1),bk:=bE.nx } σ2 H2) (hd:∀ L H,Pv n L H->bE.nx L H) :
  ∃ W:Nat->Nat->St->Hp->Prop,(∃ m,W 0 m L H)/\∀ i m L H,W i m L H ->
   ((Itr lo n).stop i H/\bE.nx L H)\/((Itr lo n).go i H/\∃ N:St->Hp->Prop,(∀ σ' H',N σ' H'->∃ m',m'<m/\W (i+1) m' σ' H')/\∀ x H',(Itr lo n).yld i H x H'->g x L H' λσ2 H2=>tb { bE with nx:=N,ct:=N,bk:=bE.nx } σ2 H2):=by
 refine(λi m L H=>m=n - i/\i<=n/\Pv i L H,(n,by simp,vD _,h0),?_)
 rintro i m L H ⟨rfl,hi,p⟩
 by_cases hlt:i<n
 ·refine .inr (hlt,Pv (i+1),λσ' H' p'=>(n - (i+1),(),V,hlt,p'),λx H' y=>?_);obtain⟨e,y⟩:=y;subst e y;exact hs i L _ hlt p
 ·have e:i=n:=by omega
  subst e;exact .inl (wv _,hd L H p)
abbrev R2:=V->V->Hp->VK->Prop
def OpR(X:Cx)(f:ca->ca->Sem ca)(r:R2):Prop :=
 ∀(pins:List (Addr×Obj))(s:Shared)(L:St)(H:Hp)(x y:V)(v u:ca)(Q:VK),Inv X pins L H s->RelV x v->RelV y u->r x y H Q ->
  cq (cr X.prog X.w) X.A (f v u) (EP X pins L Q) X.xe s
def UnR(X:Cx)(f:ca->Sem ca)(r:V->Hp->VK->Prop):Prop :=
 ∀(pins:List (Addr×Obj))(s:Shared)(L:St)(H:Hp)(x:V)(v:ca)(Q:VK),Inv X pins L H s->RelV x v->r x H Q ->
  cq (cr X.prog X.w) X.A (f v) (EP X pins L Q) X.xe s
def kau(X:Cx)(f:ca)(r:List V->Hp->VK->Prop):Prop :=
 ∀(pins:List (Addr×Obj))(s:Shared)(L:St)(H:Hp)(xs:List V)(us:List ca)(Q:VK),Inv X pins L H s->Vals xs us->r xs H Q ->
  cq (cr X.prog X.w) X.A (call f us) (EP X pins L Q) X.xe s
def tOp(r:R2)(ta tb:TE):TE:=λL H Q=>ta L H λx H1=>tb L H1 λy H2=>r x y H2 Q
def tUn(r:V->Hp->VK->Prop)(ta:TE):TE:=λL H Q=>ta L H λx H1=>r x H1 Q
inductive I_rI(bF:Int->Int->Prop)(g:Int->Int->V)(x y:V)(H:Hp)(Q:VK):Prop where
 | mk (i j:Int) (h0_:x=.int i) (h1_:y=.int j) (h2_:bF i j) (h3_:Q (g i j) H):I_rI bF g x y H Q
def rI(bF:Int->Int->Prop)(g:Int->Int->V):R2:=λx y H Q=>I_rI bF g x y H Q
inductive ziS(g:Int->Int->V)(x y:V)(H:Hp)(Q:VK):Prop where
 | mk (i j:Int) (h0_:x=.int i) (h1_:y=.int j) (h2_:Q (g i j) H):ziS g x y H Q
def rI0(g:Int->Int->V):R2:=λx y H Q=>ziS g x y H Q
inductive I_rU(g:Int->V)(x:V)(H:Hp)(Q:VK):Prop where
 | mk (i:Int) (h0_:x=.int i) (h1_:Q (g i) H):I_rU g x H Q
def rU(g:Int->V):V->Hp->VK->Prop:=λx H Q=>I_rU g x H Q
section
def binT(ha:PE X a ta)(hb:PE X b tb){L:St}{R:V->V->Hp->Prop}(I:Inv X pins L H s)
  (h:ta L H λx H1=>tb L H1 λy H2=>R x y H2) {f:ca->ca->Sem ca}
  (hf:∀ v u s2 x y H2,Inv X pins L H2 s2->RelV x v->RelV y u->R x y H2->cq (cr X.prog X.w) X.A (f v u) Q X.xe s2) :
  cq (cr X.prog X.w) X.A (eval a X.env) (λv s₁=>cq (cr X.prog X.w) X.A (eval b X.env) (λu s₂=>cq (cr X.prog X.w) X.A (f v u) Q X.xe s₂) X.xe s₁) X.xe s:=by
 refine thn (ha pins s L H _ I h) λv s1 ⟨x,H1,I1,r1,q1⟩=>?_
 refine thn (hb pins s1 L H1 _ I1 q1) λu s2 ⟨y,H2,I2,r2,q2⟩=>?_
 exact hf v u s2 x y H2 I2 r1 r2 q2
def zj4(ho:OpR X (cP op) r)(ha:PE X a ta)(hb:PE X b tb):PE X (.BinOp a op b pos) (tOp r ta tb):=by
 intro pins s L H Q I h;exact wpAny_BinOp (binT ha hb I h λv u s2 x y H2 I2 rx ry q=>ho pins s2 L H2 x y v u Q I2 rx ry q)
def zjU(ho:UnR X (unaryOp op) r)(ha:PE X a ta):PE X (.UnaryOp op a pos) (tUn r ta):=by
 intro pins s L H Q I h;exact UnaryOp_ (thn (ha pins s L H _ I h) λv s1 ⟨x,H1,I1,r1,q1⟩=>ho pins s1 L H1 x v Q I1 r1 q1)
def opI{g:Int->Int->Int}
  (rule:∀ i j t u s Q E,bF i j->Q (.int (g i j) s.toks) { s with toks:=s.toks+1 }->cq (cr X.prog X.w) X.A (f (.int i t) (.int j u)) Q E s) :
  OpR X f (rI bF λi j=>.int (g i j)):=by
 intro pins s L H x y v u Q I rx ry h;obtain⟨i,j,rfl,rfl,hc,q⟩:=h;obtain⟨t,rfl⟩:=rx;obtain⟨t',rfl⟩:=ry;exact rule i j t t' s _ _ hc (.int (g i j),H,I.tok _,(_,rfl),q)
def opI0{g:Int->Int->Int}
  (rule:∀ i j t u s Q E,Q (.int (g i j) s.toks) { s with toks:=s.toks+1 }->cq (cr X.prog X.w) X.A (f (.int i t) (.int j u)) Q E s) :
  OpR X f (rI0 λi j=>.int (g i j)):=by
 intro pins s L H x y v u Q I rx ry h;obtain⟨i,j,rfl,rfl,q⟩:=h;obtain⟨t,rfl⟩:=rx;obtain⟨t',rfl⟩:=ry;exact rule i j t t' s _ _ (.int (g i j),H,I.tok _,(_,rfl),q)
def opB0{g:Int->Int->Bool}
  (rule:∀ i j t u s Q E,Q (.bool (g i j)) s->cq (cr X.prog X.w) X.A (f (.int i t) (.int j u)) Q E s) :
  OpR X f (rI0 λi j=>.bl (g i j)):=by
 intro pins s L H x y v u Q I rx ry h;obtain⟨i,j,rfl,rfl,q⟩:=h;obtain⟨t,rfl⟩:=rx;obtain⟨t',rfl⟩:=ry;exact rule i j t t' s _ _ (.bl (g i j),H,I,V,q)
def CPow(i j:Int):Prop:=0<=j/\j<=1000000/\i.natAbs<2^64
def zT:OpR X (cP .Add) (rI0 λi j=>.int (i+j)):=opI0 λ_ _ _ _ _ _ _ q=>add_int q
def zjF:OpR X (cP .Sub) (rI0 λi j=>.int (i - j)):=opI0 λ_ _ _ _ _ _ _ q=>sub_int q
def zgH:OpR X (cP .Mod) (rI (λ_ j=>j≠0) λi j=>.int (i.fmod j)):=opI λ_ _ _ _ _ _ _ hc q=>mod_int' hc q
def zd4:OpR X (cP .Pow) (rI CPow λi j=>.int (i^j.toNat)):=opI λ_ _ _ _ _ _ _ hc q=>pow_int_small hc.1 hc.2.1 hc.2.2 q
def unI{g:Int->Int}
  (rule:∀ i t s Q E,Q (.int (g i) s.toks) { s with toks:=s.toks+1 }->cq (cr X.prog X.w) X.A (f (.int i t)) Q E s) :
  UnR X f (rU λi=>.int (g i)):=by
 intro pins s L H x v Q I rx h;obtain⟨i,rfl,q⟩:=h;obtain⟨t,rfl⟩:=rx;exact rule i t s _ _ (.int (g i),H,I.tok _,(_,rfl),q)
def ziC:UnR X (unaryOp .USub) (rU λi=>.int (-i)):=unI λ_ _ _ _ _ q=>neg_int q
end
def scal:V->V->Bool
 | .non,.non=>true | .non,.int _=>true | .int _,.non=>true | .non,.bl _=>true | .bl _,.non=>true | .non,.str _=>true | .str _,.non=>true
 | .int _,.int _=>true | .bl _,.bl _=>true | .str _,.str _=>true | .byt _,.byt _=>true
 | .int _,.str _=>true | .str _,.int _=>true | .bl _,.str _=>true | .str _,.bl _=>true
 | _,_=>false
def rEq:R2:=λx y H Q=>scal x y=true/\Q (.bl (decide (x=y))) H
def rNe:R2:=λx y H Q=>scal x y=true/\Q (.bl (!decide (x=y))) H
def zco:decide (V.int i=V.int j) =(i == j):=by
 rw[gO];simp
def zf1:decide (V.bl i=V.bl j) =(i == j):=by
 rw[gO];simp
def zcQ:decide (V.str i=V.str j) =(i == j):=by
 rw[gO];simp
def zdr:decide (V.byt i=V.byt j) =(i.toList == j.toList):=by
 rw[gO];cases i;cases j;simp
section
def zZ{L:St}(I:Inv X pins L H s)(q:Q (.bl k) H)(e:k=k'):EP X pins L Q (.bool k') s:=by
 subst e;exact(.bl k,H,I,V,q)
def yu:OpR X (cQ .Eq) rEq:=by
 intro pins s L H x y v u Q I rx ry h;obtain⟨hs,q⟩:=h;cases x with
 | non =>
  cases rx;cases y with
  | non=>cases ry;exact PySem.EqNone.eq_none_none (zZ I q (by simp))
  | bl j=>cases ry;exact PySem.EqNone.eq_none_bool (zZ I q (by simp))
  | int j=>obtain⟨t',rfl⟩:=ry;exact PySem.EqNone.eq_none_int (zZ I q (by simp))
  | str j=>obtain⟨t',rfl⟩:=ry;exact PySem.EqNone.eq_none_str (zZ I q (by simp))
  | _=>exact bw (show false=true from hs) vg
 | bl i =>
  cases rx;cases y with
  | non=>cases ry;exact PySem.EqNone.eq_bool_none (zZ I q (by simp))
  | bl j=>cases ry;exact eq_bool (zZ I q zf1)
  | str j=>obtain⟨t',rfl⟩:=ry;exact PySem.EqMixed.eq_bool_str (zZ I q (by simp))
  | _=>exact bw (show false=true from hs) vg
 | int i =>
  obtain⟨t,rfl⟩:=rx;cases y with
  | non=>cases ry;exact PySem.EqNone.eq_int_none (zZ I q (by simp))
  | int j=>obtain⟨t',rfl⟩:=ry;exact eq_int (zZ I q zco)
  | str j=>obtain⟨t',rfl⟩:=ry;exact PySem.EqMixed.eq_int_str (zZ I q (by simp))
  | _=>exact bw (show false=true from hs) vg
 | str i =>
  obtain⟨t,rfl⟩:=rx;cases y with
  | non=>cases ry;exact PySem.EqNone.eq_str_none (zZ I q (by simp))
  | bl j=>cases ry;exact PySem.EqMixed.eq_str_bool (zZ I q (by simp))
  | int j=>obtain⟨t',rfl⟩:=ry;exact PySem.EqMixed.eq_str_int (zZ I q (by simp))
  | str j=>obtain⟨t',rfl⟩:=ry;exact eq_str (zZ I q zcQ)
  | _=>exact bw (show false=true from hs) vg
 | byt i =>
  obtain⟨t,rfl⟩:=rx;cases y with
  | byt j=>obtain⟨t',rfl⟩:=ry;exact PySem.W.eq_bytes (zZ I q zdr)
  | _=>exact bw (show false=true from hs) vg
 | _=>cases y <;> exact bw (show false=true from hs) vg
def ZF:OpR X (cQ .NotEq) rNe:=by
 intro pins s L H x y v u Q I rx ry h;obtain⟨hs,q⟩:=h;cases x with
 | non =>
  cases rx;cases y with
  | non=>cases ry;exact PySem.EqNone.ne_none_none (zZ I q (by simp))
  | bl j=>cases ry;exact PySem.EqNone.ne_none_bool (zZ I q (by simp))
  | int j=>obtain⟨t',rfl⟩:=ry;exact PySem.EqNone.ne_none_int (zZ I q (by simp))
  | str j=>obtain⟨t',rfl⟩:=ry;exact PySem.EqNone.ne_none_str (zZ I q (by simp))
  | _=>exact bw (show false=true from hs) vg
 | bl i =>
  cases rx;cases y with
  | non=>cases ry;exact PySem.EqNone.ne_bool_none (zZ I q (by simp))
  | bl j=>cases ry;exact ne_bool (zZ I q (congrArg not zf1))
  | str j=>obtain⟨t',rfl⟩:=ry;exact PySem.EqMixed.ne_bool_str (zZ I q (by simp))
  | _=>exact bw (show false=true from hs) vg
 | int i =>
  obtain⟨t,rfl⟩:=rx;cases y with
  | non=>cases ry;exact PySem.EqNone.ne_int_none (zZ I q (by simp))
  | int j=>obtain⟨t',rfl⟩:=ry;exact ne_int (zZ I q (congrArg not zco))
  | str j=>obtain⟨t',rfl⟩:=ry;exact PySem.EqMixed.ne_int_str (zZ I q (by simp))
  | _=>exact bw (show false=true from hs) vg
 | str i =>
  obtain⟨t,rfl⟩:=rx;cases y with
  | non=>cases ry;exact PySem.EqNone.ne_str_none (zZ I q (by simp))
  | bl j=>cases ry;exact PySem.EqMixed.ne_str_bool (zZ I q (by simp))
  | int j=>obtain⟨t',rfl⟩:=ry;exact PySem.EqMixed.ne_str_int (zZ I q (by simp))
  | str j=>obtain⟨t',rfl⟩:=ry;exact ne_str (zZ I q (congrArg not zcQ))
  | _=>exact bw (show false=true from hs) vg
 | byt i =>
  obtain⟨t,rfl⟩:=rx;cases y with
  | byt j=>obtain⟨t',rfl⟩:=ry;exact PySem.W.ne_bytes (zZ I q (congrArg not zdr))
  | _=>exact bw (show false=true from hs) vg
 | _=>cases y <;> exact bw (show false=true from hs) vg
def zj9:OpR X (cQ .Lt) (rI0 λi j=>.bl (decide (i<j))):=opB0 λ_ _ _ _ _ _ _ q=>lt_int q
def zj0:OpR X (cQ .LtE) (rI0 λi j=>.bl (decide (i<=j))):=opB0 λ_ _ _ _ _ _ _ q=>le_int q
def zjZ:OpR X (cQ .Gt) (rI0 λi j=>.bl (decide (j<i))):=opB0 λ_ _ _ _ _ _ _ q=>gt_int q
def zkf:OpR X (cQ .GtE) (rI0 λi j=>.bl (decide (j<=i))):=opB0 λ_ _ _ _ _ _ _ q=>ge_int q
def nomark b (h:op≠.In:=by decide) (h2:op≠.NotIn:=by decide):behindInMarks op b=false:=by
 have e1:(op == CmpOp.In)=false:=by cases op <;> first|rfl|exact bw rfl h
 have e2:(op == CmpOp.NotIn)=false:=by cases op <;> first|rfl|exact bw rfl h2
 cases b <;> simp[behindInMarks,e1,e2]
def zhs{op:CmpOp}{r:R2}(ho:OpR X (cQ op) r)(ha:PE X a ta)(hb:PE X b tb)(hm:behindInMarks op b=false):PE X (.Compare a [op] [b] pos) (tOp r ta tb):=by
 intro pins s L H Q I h;exact wpAny_Compare1 (binT ha hb I h λv u s2 x y H2 I2 rx ry q=>ho pins s2 L H2 x y v u Q I2 rx ry q) hm
inductive zde(x:V)(H':Hp)(Q:Bool->Hp->Prop):Prop where
 | mk (k:Bool) (h0_:x=.bl k) (h1_:Q k H'):zde x H' Q
def tTest(t:TE):TT:=λL H Q=>t L H λx H'=>zde x H' Q
def zgM(ho:OpR X (cQ op) r)(ha:PE X a ta)(hb:PE X b tb)(hm:behindInMarks op b=false):PT X (.Compare a [op] [b] pos) (tTest (tOp r ta tb)):=by
 intro pins s L H Q I h;refine wpAny_isTrue_Compare1 (thn (ha pins s L H _ I h) λv s1 ⟨x,H1,I1,r1,q1⟩=>thn (hb pins s1 L H1 _ I1 q1) λu s2 ⟨y,H2,I2,r2,q2⟩ =>
  thn (ho pins s2 L H2 x y v u _ I2 r1 r2 q2) λc s3 ⟨z,H3,I3,r3,k,e,q3⟩=>?_) hm
 subst e;cases r3;exact cC (H3,I3,q3)
def tChain(r r':R2)(ta tb tc:TE):TE:=λL H Q=>ta L H λx H1=>tb L H1 λy H2=>r x y H2 λz H3=>∃ k,z=.bl k /\
 (if k=true then tc L H3 λw' H4=>r' y w' H4 Q else Q (.bl false) H3)
def ze9(ho:OpR X (cQ op) r)(ho':OpR X (cQ op') r')(ha:PE X a ta)(hb:PE X b tb)(hc:PE X c tc)
  (hm:lastMarks [op,op'] [b,c]=false:=by with_unfolding_all rfl):PE X (.Compare a [op,op'] [b,c] pos) (tChain r r' ta tb tc):=by
 intro pins s L H Q I h;refine Compare_chain (thn (ha pins s L H _ I h) λv s1 ⟨x,H1,I1,r1,q1⟩=>chain_link (thn (hb pins s1 L H1 _ I1 q1) λu s2 ⟨y,H2,I2,r2,q2⟩ =>
  thn (ho pins s2 L H2 x y v u _ I2 r1 r2 q2) λd s3 ⟨z,H3,I3,r3,k,e,q3⟩=>?_)) hm
 subst e;cases r3;refine cC ?_;cases k with
 | false=>exact ite_ff (.bl false,H3,I3,V,q3)
 | true=>exact ite_tt (chain_last (thn (hc pins s3 L H3 _ I3 q3) λw' s4 ⟨z',H4,I4,r4,q4⟩=>ho' pins s4 L H4 y z' u w' Q I4 r2 r4 q4))
def line63:(sizeLine:Nat)<2^63:=by rw[sizeLine_eq];decide
def vals1(r:Vals [x] us):∃ u,us=[u]/\RelV x u:=by
 cases r with
 | cons r1 r2=>cases r2;exact(Z,r1)
def vals2(r:Vals [x,y] us):∃ u w',us=[u,w']/\RelV x u/\RelV y w':=by
 cases r with
 | cons r1 r2 =>
  cases r2 with
  | cons r3 r4=>cases r4;exact(_,Z,r1,r3)
def zfv:kau X (.builtin "abs") (λxs H Q=>∃ i,xs=[.int i]/\Q (.int (if i<0 then -i else i)) H):=by
 intro pins s L H xs us Q I r h;obtain⟨i,rfl,q⟩:=h;obtain⟨u,rfl,t,rfl⟩:=vals1 r;exact call_abs_int λu tk=>(.int (if i<0 then -i else i),H,I.tok _,(_,rfl),q)
def zdl (hc:X.calm=true):kau X (.builtin "max") (λxs H Q=>∃ i j,xs=[.int i,.int j]/\Q (.int (if j > i then j else i)) H):=by
 intro pins s L H xs us Q I r h;obtain⟨i,j,rfl,q⟩:=h;obtain⟨u,w',rfl,⟨t,rfl⟩,⟨t',rfl⟩⟩:=vals2 r;refine max_two_ints (I.ok.hd hc) λh' tk k=>(_,H,I.kept k,?_,q)
 by_cases hj:j > i
 ·rw[bj hj,bj hj];exact(_,rfl)
 ·rw[bn hj,bn hj];exact(_,rfl)
def zcg:kau X (.type "int") (λxs H Q=>(∃ i,xs=[.int i]/\Q (.int i) H)\/∃ k,xs=[.bl k]/\Q (.int (if k then 1 else 0)) H):=by
 intro pins s L H xs us Q I r h
 rcases h with⟨i,rfl,q⟩|⟨k,rfl,q⟩
 ·obtain⟨u,rfl,t,rfl⟩:=vals1 r;exact call_int_int (.int i,H,I,(_,rfl),q)
 ·obtain⟨u,rfl,r1⟩:=vals1 r;cases r1;exact call_int_bool (.int (if k then 1 else 0),H,I.tok _,(_,rfl),q)
end
structure ObjM(h:Heap)(x dx bF:Addr)(mA:Str->Option ca):Prop where
 obj:h.get? x=some (PySem.W.instObj bF dx)
 ns:h.Ns1 dx mA
 ne:dx≠x
def zcH{h:Heap}(n:h.Ns1 dx mA):∃ od,h.get? dx=some od/\∀ name,PySem.W.lookIn name od=some (mA name):=by
 obtain⟨o,es,ep,ho,hd,J,_,hm⟩:=n;refine(o,ho,λname=>?_);have e:=hm name;unfold nsFind findBy at e;rw[← Array.find?_toList]at e;unfold PySem.W.lookIn;rw[hd]
 dsimp only
 split
 ·rename_i y q;rw[q]at e;exact congrArg some e
 ·rename_i q;rw[q]at e;have a:es.toList.any (·.refKey)=false:=by
   rw[wbc];intro y hy;obtain⟨z,t,hkey⟩:=J y (Array.mem_toList_iff.mp hy);simp[DictEntry.refKey,hkey]
  have a':¬ es.toList.any (·.refKey)=true:=by rw[a];exact vg
  rw[bn a'];exact congrArg some e
def ObjM.look(I:ObjM h x dx bF mA):∃ od,PySem.W.InstAt h x (PySem.W.instObj bF dx) bF (some od)/\∀ name,PySem.W.lookIn name od=some (mA name) :=
 let ⟨od,ho,hl⟩:=zcH I.ns
 (od,(I.obj,V,V,ho),hl)
section
def zhx(hok:HOk P w H h)(e:H a=some (.ins bF dx fs)):∃ mA,ObjM h a dx bF mA/\(∀ f,RelO (fs.lookup f) (mA f))/\PySem.Within mA (fs.map (·.1))/\fs.length<=1000/\H dx=some (.own a):=by
 obtain⟨d,z,ne,ob,mA,n,r,q⟩:=(show kaz P w H h a (.ins bF dx fs)from hok a _ e);exact(mA,(ob,n,ne),r,q,z,d)
end
structure Cls(K:bh)(bF:Addr):Prop where
 pg:PySem.W.plainGet K bF Str.empty=true
 hd:PySem.W.hasDictIn K bF=true
 po:PySem.W.plainOver K bF=true
 sa:PySem.W.findIn K (.ref bF) "__setattr__" = some (some (.builtin "object.__setattr__"))
def Cls.get{K:bh}(c:Cls K bF) f:PySem.W.plainGet K bF f=true:=c.pg
section
variable{L:St}
inductive TyOf(K:bh)(H:Hp):V->ca->Prop where
 | non:TyOf K H .non (.type "NoneType")
 | bl (x:Bool):TyOf K H (.bl x) (.type "bool")
 | int (i:Int):TyOf K H (.int i) (.type "int")
 | str (x:Str):TyOf K H (.str x) (.type "str")
 | flt (x:UInt64):TyOf K H (.flt x) (.type "float")
 | lst {a:Addr} {xs:List V} (e:H a=some (.lst xs)):TyOf K H (.ref a) (.type "list")
 | frz {a:Addr} {o:Obj} {xs:List V} (e:H a=some (.frz o (.lst xs))):TyOf K H (.ref a) (.type "list")
 | tup {a:Addr} {xs:List V} (e:H a=some (.tup xs)):TyOf K H (.ref a) (.type "tuple")
 | dK {a:Addr} {kvs:List (Key×V)} (e:H a=some (.dK kvs)):TyOf K H (.ref a) (.type "dict")
 | dT {a:Addr} {kvs:List (List Key×V)} (e:H a=some (.dT kvs)):TyOf K H (.ref a) (.type "dict")
 | ins {a bF dx:Addr} {fs:List (Str×V)} (e:H a=some (.ins bF dx fs)) (cl:Cls K bF) (ha:PySem.W.findIn K (.ref bF) "__class__" = some (some (.builtin "object.__class__")))
   (hn:PySem.W.specialIn K (.builtin "object.__class__") "__get__" = some (some (.builtin "getset_descriptor.__get__"))) (htk:PySem.W.takesIn K (.builtin "object.__class__")=some true)
   (hm:PySem.W.mroIn K bF (.type "object")=some true):TyOf K H (.ref a) (.ref bF)
def zc6{x:V}{u t:ca}(I:Inv X pins L H s)(rx:RelV x u)(ty:TyOf X.K H x t)(e:PySem.W.kitOne X.K t c=some b)(h:∀ tk,Q (.bool b) { s with toks:=tk }) :
  cq (cr X.prog X.w) A (call (.builtin "isinstance") [u,c]) Q E s:=by
 cases ty with
 | non=>cases (show u=Value.none from rx);exact PySem.W.kia_one PySem.W.kitx_none I.kIn True.intro e (λz=>nomatch z) h
 | bl y=>cases (show u=Value.bool y from rx);exact PySem.W.kia_one PySem.W.kitx_bool I.kIn True.intro e (λz=>nomatch z) h
 | int i=>obtain⟨t,q⟩:=(show ∃ t,u=Value.int i t from rx);cases q;exact PySem.W.kia_one PySem.W.kitx_int I.kIn True.intro e (λz=>nomatch z) h
 | str y=>obtain⟨t,q⟩:=(show ∃ t,u=Value.str y t from rx);cases q;exact PySem.W.kia_one PySem.W.kitx_str I.kIn True.intro e (λz=>nomatch z) h
 | flt y=>obtain⟨t,q⟩:=(show ∃ t,u=Value.float y t from rx);cases q;exact PySem.W.kia_one PySem.W.kitx_float I.kIn True.intro e (λz=>nomatch z) h
 | @lst a xs ea =>
  cases (show u=Value.ref a from rx);obtain⟨_,_,n,_,h1⟩:=(show kaz X.prog X.w H s.heap a (.lst xs)from I.hok a _ ea);exact PySem.W.kia_one PySem.W.kitx_list I.kIn (_,h1,V) e (λz=>nomatch z) h
 | @frz a ob xs ea =>
  cases (show u=Value.ref a from rx);obtain⟨_,_,_,n,_,h1⟩:=(show kaz X.prog X.w H s.heap a (.frz ob (.lst xs))from I.hok a _ ea);exact PySem.W.kia_one PySem.W.kitx_list I.kIn (_,h1,V) e (λz=>nomatch z) h
 | @tup a xs ea =>
  cases (show u=Value.ref a from rx);obtain⟨_,_,_,p⟩:=(show kaz X.prog X.w H s.heap a (.tup xs)from I.hok a _ ea);obtain⟨o,h1,h2,_⟩:=p;exact PySem.W.kia_one PySem.W.kitx_tuple I.kIn (o,h1,h2) e (λz=>nomatch z) h
 | @dK a kvs ea =>
  cases (show u=Value.ref a from rx);obtain⟨_,_,vs,_,p⟩:=(show kaz X.prog X.w H s.heap a (.dK kvs)from I.hok a _ ea);obtain⟨o,es,ep,h1,h2,_⟩:=p;exact PySem.W.kia_one PySem.W.kitx_dict I.kIn (o,h1,h2.1) e (λz=>nomatch z) h
 | @dT a kvs ea =>
  cases (show u=Value.ref a from rx);obtain⟨_,_,xs,_,o,es,ep,h1,h2,_⟩:=(show kaz X.prog X.w H s.heap a (.dT kvs)from I.hok a _ ea);exact PySem.W.kia_one PySem.W.kitx_dict I.kIn (o,h1,h2.1) e (λz=>nomatch z) h
 | @ins a bF dx fs ea cl ha hn htk hm =>
  cases (show u=Value.ref a from rx);obtain⟨mA,bx,_⟩:=zhx I.hok ea;obtain⟨od,bz,_⟩:=bx.look;exact PySem.W.kia_one (PySem.W.kitx_own (cl.get _) cl.hd ha hn htk hm) I.kIn bz e (λz=>nomatch z) h
end
structure Room(k:Nat)(A:cm):Prop where
 hd:A.handled=none
 dp:A.depth+3*k+5<recursionLimit
 un:A.units+16*k+200<cLine
def Room.mono(r:Room k A)(h:j<=k):Room j A:=(r.hd,by have:=r.dp;omega,by have:=r.un;omega)
def Room.deeper(r:Room (k+1) A) env:Room k (A.deeper env) :=
 (r.hd,by have:=r.dp;show A.depth+1+3*k+5<_;omega,by have:=r.un;show A.units+3+16*k+200<_;omega)
def Room.depth(r:Room k A):A.depth<recursionLimit:=by have:=r.dp;omega
def Room.units(r:Room k A):A.units+64<cLine:=by have:=r.un;omega
def tNil:TA:=λ_ H Q=>Q [] H
def tCons(ta:TE)(tr:TA):TA:=λL H Q=>ta L H λx H1=>tr L H1 λxs H2=>Q (x::xs) H2
section
def zge:PA X [] tNil:=λ_ _ _ _ H Q I h=>Calls.spliced_nil ([],H,I,.nil,h)
def zdm(ha:PE X e te)(U:PA X es t)(hs:cv (e::es) X.env =(false,eval e X.env)::cv es X.env:=by rfl):PA X (e::es) (tCons te t):=by
 intro pos pins s L H Q I h;rw[hs];refine Calls.spliced_cons (thn (ha pins s L H _ I h) λu s1 ⟨x,H1,I1,r1,q1⟩=>?_);exact thn (U pos pins s1 L H1 _ I1 q1) λus s2 ⟨xs,H2,I2,r2,q2⟩=>(x::xs,H2,I2,.cons r1 r2,q2)
def tTup(t:TA):TE:=λL H Q=>t L H λxs H1=>xs.length<=sizeLine/\∀ p,H1 p=none->Q (.ref p) (upd H1 p (.tup xs))
def tLst(t:TA):TE:=λL H Q=>t L H λxs H1=>xs.length<=sizeLine/\∀ p,H1 p=none->Q (.ref p) (upd H1 p (.lst xs))
def zif{x1}(h:PA X es t):PE X (.Tuple es x1 pos) (tTup t):=by
 intro pins s L H Q I hq;refine wpAny_Tuple_spliced (thn (h pos pins s L H _ I hq) λus s1 ⟨xs,H1,I1,r,z,q⟩=>(by rw[← r.length];exact z,?_));have hf:= I1.hok.fresh (wv _);refine(.ref s1.heap.objs.size,upd H1 s1.heap.objs.size (.tup xs),I1.laid (t':=s1.toks) (λb u e=>Heap.get?_push_of_some _ e) (wv _) ?_,V,q _ hf);exact(z,us,r,(_,Heap.get?_push_size _ rfl,V,Z))
def ziL(h:PA X es t):PE X (.List es pos) (tLst t):=by
 intro pins s L H Q I hq;refine wpAny_List_spliced (thn (h pos pins s L H _ I hq) λus s1 ⟨xs,H1,I1,r,z,q⟩=>(by rw[← r.length];exact z,?_));have hf:= I1.hok.fresh (wv _);refine(.ref s1.heap.objs.size,upd H1 s1.heap.objs.size (.lst xs),I1.laid (t':=s1.toks) (λb u e=>Heap.get?_push_of_some _ e) (wv _) ?_,V,q _ hf);exact(z,us,0,r,Heap.get?_push_size _ rfl)
end
abbrev Sp:=List V->Hp->VK->XK->Prop
abbrev CXT:=List Env->Hp->Shared->XK->ca->Shared->Prop
structure Env0(P:cf)(w:ce)(K:bh)(mg:Str->Option ca)(base:Heap)(A:cm)(outer:List Env)(s:Shared)(H:Hp):Prop where
 frames:A.frames=some outer
 mod:Mod K mg base
 bs:∀ b o,base.get? b=some o->s.heap.get? b=some o/\H b=none
 bsz:base.objs.size<=s.heap.objs.size
 funs:s.heap.FunFrames base outer
 frf:∀ b∈frs outer,H b=none
 hok:HOk P w H s.heap
 bare:AllBare s.gens
def CE(outer:List Env)(P:cf)(w:ce)(H:Hp)(s:Shared)(Q:VK)(u:ca)(s':Shared):Prop :=
 ∃ v H',s'.os=s.os/\AllBare s'.gens/\Un (frs outer) [] H H' s.heap s'.heap/\HOk P w H' s'.heap/\RelV v u/\Q v H'
def CR(CX:CXT)(outer:List Env)(P:cf)(w:ce)(H:Hp)(s:Shared)(Q:VK)(E:XK)(r:Result)(s':Shared):Prop :=
 match r with
 | .ok (.ret u)=>CE outer P w H s Q u s'
 | .ok _=>False
 | .error e=>CX outer H s E e s'
structure FnOk(P:cf)(w:ce)(K:bh)(mg:Str->Option ca)(base:Heap)(CX:CXT)(k:Nat)(f:Addr)(fd:cS)(ps:List Str)(sp:Sp):Prop where
 len:∀ vs H Q E,sp vs H Q E->vs.length=ps.length
 run:∀(A:cm)(outer:List Env)(s:Shared)(H:Hp)(args:Args)(us:List ca)(vs:List V)(Q:VK)(E:XK),Room k A->Env0 P w K mg base A outer s H->BindsTo s fd args (ps.zip us)->Vals vs us->sp vs H Q E ->
  codeAny (cr P w) A (.call (.ref f) args) (CR CX outer P w H s Q E) s
def FnOk.imp{P:cf}{w:ce}{K:bh}{mg:Str->Option ca}{base:Heap}{CX:CXT}{k:Nat}{f:Addr}{fd:cS}{ps:List Str}{sp sp':Sp}(F:FnOk P w K mg base CX k f fd ps sp)
  (h:∀ vs H Q E,sp' vs H Q E->sp vs H Q E):FnOk P w K mg base CX k f fd ps sp' :=
 (λvs H Q E q=>F.len vs H Q E (h _ _ _ _ q),λA outer s H args us vs Q E U he hb hv hs=>F.run A outer s H args us vs Q E U he hb hv (h _ _ _ _ hs))
section
variable{L:St}
def Inv.env0(I:Inv X pins L H s):Env0 X.prog X.w X.K X.mg X.base X.A X.stack s H :=
 (I.ok.frames,I.ok.mod,I.bs,wE I.ok.bsz I.sz,I.stack,I.stkFree,I.hok,I.bare)
def Inv.after{Q:VK}{u:ca}(I:Inv X pins L H s)(h:CE X.stack X.prog X.w H s Q u s'):EP X pins L Q u s':=by
 obtain⟨v,H',os,bare,un,hok,r,q⟩:=h;obtain⟨hh,g,d,t,os'⟩:=s';obtain rfl:os'=s.os:=os;exact(v,H',I.call (h':=hh) (g':=g) (d':=d) (t':=t) un hok bare (λb z=>bw z (by simp)),r,q)
end
def tCall(sp:Sp)(dvs:List V)(E:XK)(t:TA):TE:=λL H Q=>t L H λvs H1=>sp (vs++dvs) H1 Q E
def Binds(K:bh)(fd:cS)(ps:List Str)(ds:List ca):Prop :=
 ∀(s:Shared)(us:List ca),K.In s.heap->(us++ds).length=ps.length->BindsTo s fd (us,[]) (ps.zip (us++ds))
def Binds.all{K:bh}{fd:cS}{ps:List Str}(h:∀ us:List ca,us.length=ps.length->cT fd (us,[])=pure (ps.zip us)):Binds K fd ps []:=λs us _ hl=>by
 rw[uL]at hl ⊢;exact .of_eq (h us hl)
def Passes(CX:CXT)(X:Cx)(E:XK):Prop:=∀(pins:List (Addr×Obj))(L:St)(H:Hp)(s:Shared)(e:ca)(s':Shared),Inv X pins L H s->CX X.stack H s E e s'->X.xe e s'
section
variable{p pos apos:Pos}
def zjj{pins:List (Addr×Obj)}{L:St}{H:Hp}{s:Shared}{Q:VK}{us:List ca}{vs:List V}(F:FnOk X.prog X.w X.K X.mg X.base CX k f fd ps sp)(U:Room k X.A)(hb:Binds X.K fd ps ds)(hd:Vals dvs ds)(D:Passes CX X E)
  (I:Inv X pins L H s) (r:Vals vs us) (h:sp (vs++dvs) H Q E):cq (cr X.prog X.w) X.A (call (.ref f) us) (EP X pins L Q) X.xe s:=by
 have r2:= r.append hd;have hl:(us++ds).length=ps.length:=by rw[← r2.length];exact F.len _ _ _ _ h
 refine wpAny_call (codeAny_mono (F.run X.A X.stack s H (us,[]) (us++ds) (vs++dvs) Q E U I.env0 (hb s us I.kIn hl) r2 h) λr s' hq=>?_);cases r with
 | error e=>exact D pins L H s e s' I hq
 | ok fl =>
  cases fl with
  | ret u=>exact I.after hq
  | next=>exact False.elim hq
  | brk=>exact False.elim hq
  | cont=>exact False.elim hq
def zhi(F:FnOk X.prog X.w X.K X.mg X.base CX k f fd ps sp)(U:Room k X.A)(hg:Gl X x)(hm:X.mg x=some (.ref f))(J:PySem.W.keepIn X.K (.ref f)=true)(hb:Binds X.K fd ps ds)(hd:Vals dvs ds)(D:Passes CX X E)
  (ha:PA X (e::es) t) (hdb:(x ==("__debug__" : Str))=false:=by decide) (he:cv (e::es) X.env =(false,eval e X.env)::cv es X.env:=by rfl) (hpl:(cu pos (cv es X.env)).any (·.1)=false:=by rfl) :
  PE X (.Call (.Name x p) (e::es) [] pos) (tCall sp dvs E t):=by
 intro pins s L H Q I h;refine cU (zd8 I hg hm ?_ hdb);refine PySem.W.callWith_K I.ok.mod.kin J (thn (ha pos pins s L H _ I h) λus s1 ⟨vs,H1,I1,r,q⟩=>(I1.kIn,?_)) he hpl;exact zjj F U hb hd D I1 r q
end
structure kav(N P:List Str)(sc:Scope):Prop where
 kind:sc.kind=.function
 co:sc.isCoroutine=false
 gen:sc.isGenerator=false
 nd:N.Nodup
 pre:N.take P.length=P
 par:∀ x∈P,sc.names.lookup x=some .local\/sc.names.lookup x=some .cell
 nofree:∀ y∈sc.names,y.2≠.free
def XJ{kindOf:Str->Option cV}:∀ {binds:List (Str×ca)} {m:Str->Option ca},(∀ v,(x,v)∉binds)->bindL kindOf binds m x=m x
 | [],_,_=>rfl
 | (n,v)::r,m,h=>by
  unfold bindL;rw[XJ λw hw=>h w (ww _ hw)]
  split
  ·have:x≠n:=by rintro rfl;exact h v wt
   simp[this]
  ·rfl
def XX{kindOf:Str->Option cV}:∀ {binds:List (Str×ca)} {m:Str->Option ca},(∀ v,(x,v)∉binds)->bindC kindOf binds m x=m x
 | [],_,_=>rfl
 | (n,v)::r,m,h=>by
  unfold bindC;rw[XX λw hw=>h w (ww _ hw)]
  split
  ·rfl
  ·have:x≠n:=by rintro rfl;exact h v wt
   simp[this]
def JI{kindOf:Str->Option cV}:∀ {P:List Str} {vs:List ca} {i:Nat} {m:Str->Option ca},P.Nodup->P[i]?=some x->vs[i]?=some v->kindOf x=some .local ->
  bindL kindOf (P.zip vs) m x=some v
 | [],_,_,_,_,h,_,_=>by simp at h
 | _::_,[],_,_,_,_,h,_=>by simp at h
 | p::P,w::vs,0,m,nd,h1,h2,J=>by
  simp at h1 h2;subst h1;subst h2;show bindL kindOf ((p,w)::P.zip vs) m p=_;unfold bindL;rw[XJ λv hv=>(Gw.mp nd).1 (vt hv).1,bj J];simp
 | p::P,w::vs,i+1,m,nd,h1,h2,J=>by
  unfold bindL;exact JI (Gw.mp nd).2 (by simpa using h1) (by simpa using h2) J
def Jb{kindOf:Str->Option cV}:∀ {P:List Str} {vs:List ca} {i:Nat} {m:Str->Option ca},P.Nodup->P[i]?=some x->vs[i]?=some v->kindOf x≠some .local ->
  bindC kindOf (P.zip vs) m x=some v
 | [],_,_,_,_,h,_,_=>by simp at h
 | _::_,[],_,_,_,_,h,_=>by simp at h
 | p::P,w::vs,0,m,nd,h1,h2,J=>by
  simp at h1 h2;subst h1;subst h2;show bindC kindOf ((p,w)::P.zip vs) m p=_;unfold bindC;rw[XX λv hv=>(Gw.mp nd).1 (vt hv).1,bn J];simp
 | p::P,w::vs,i+1,m,nd,h1,h2,J=>by
  unfold bindC;exact Jb (Gw.mp nd).2 (by simpa using h1) (by simpa using h2) J
def start(N:List Str)(vs:List V):St:=vs.map some++wK (N.length - vs.length) none
def cxOf(CX:CXT)(P:cf)(w:ce)(K:bh)(mg:Str->Option ca)(base:Heap)(N:List Str)(qual:Str)(scope:Scope)(f:Addr)(cd:ca)(A:cm)(outer:List Env)(s:Shared)(H:Hp)(E:XK):Cx where
 prog:=P
 w:=w
 K:=K
 mg:=mg
 base:=base
 A:=A.deeper (envOfC qual scope s.heap.objs.size f cd)
 N:=N
 s₀:=s
 H₀:=H
 env:=envOfC qual scope s.heap.objs.size f cd
 outer:=outer
 stack:=envOfC qual scope s.heap.objs.size f cd::outer
 ex:=[]
 calm:=true
 fn:=λ_=>true
 pn:=[]
 xe:=λe s'=>cq (cr P w) (A.deeper (envOfC qual scope s.heap.objs.size f cd)) (leaving (envOfC qual scope s.heap.objs.size f cd) e) (λ_ s''=>CX outer H s E e s'') (λe' s''=>CX outer H s E e' s'') s'
def zaQ{sc:Scope}(h:sc.names.lookup x=some .cell):∃ c,(cX n sc.names []).lookup x=some c:=by
 have q:=PySem.W.cellsFrom_some sc.names n [] (.inl h);exact Option.isSome_iff_exists.mp q
def zdx{K:bh}
  (S:kav N ps scope) (hd:A.handled=none) (e0:Env0 P w K mg base A outer s H) (hl:vs.length=ps.length) (r:Vals vs us)
  (x:InCallC s s.heap.objs.size (bindL (envOfC qual scope s.heap.objs.size f cd).kindOf (ps.zip us) λ_=>none) (cX (s.heap.objs.size+1) scope.names []) (bindC (envOfC qual scope s.heap.objs.size f cd).kindOf (ps.zip us) λ_=>none) s1) :
  Inv (cxOf CX P w K mg base N qual scope f cd A outer s H E) [] (start N vs) H s1:=by
 have hpl:ps.length<=N.length:=by have:=congrArg vO S.pre;rw[wr]at this;omega
 obtain⟨h1,tk,rfl,J⟩:=x.done;have noA:∀ b:Addr,b∉(cxOf CX P w K mg base N qual scope f cd A outer s H E).ex:=λb z=>bw (show b∈([]:List Addr)from z) (by simp)
 refine((e0.mod,S.kind,V,V,wv _,λy z c h1 h2=>?_,λy hy=>?_,λy c _ h=>?_,λ_=>hd,Around.frames_deeper e0.frames,.inr (V,V),λb z=>bw z (noA b),e0.bs,e0.bsz,λb _ _=>noA b,λb z=>bw z (noA b),e0.funs,e0.frf),
  rfl,e0.bare,Un.kept J,(_,x.toInCall.ns,λi y v h1 h2 h3=>?_),λy c h=>(_,x.cell y c h),e0.hok.fresh (wv _),λy c h=>?_,λp C=>bw (show p∈([]:List (Addr×Obj))from C) (by simp),e0.hok.kept J,?_)
 ·exact name_of_addr x.apart (PySem.mem_of_lookup h1) (PySem.mem_of_lookup h2)
 ·have hy:= hy
  rcases hy with hy|hy
  ·exact zaQ hy
  ·exact bw rfl (S.nofree _ (PySem.mem_of_lookup hy))
 ·exact uw (x.above y c (PySem.mem_of_lookup h))
 ·have hi:i<vs.length:=by
   unfold start at h2
   by_cases hi:i<vs.length
   ·exact hi
   ·rw[vd (by simpa using hi)]at h2;rw[uy]at h2
    split at h2 <;> cases h2
  have ha:vs[i]?=some v:=by
   unfold start at h2;rw[vm (by simpa using hi),wk]at h2;cases e:vs[i]? with
   | none=>rw[e]at h2;cases h2
   | some a=>rw[e]at h2;cases h2;rfl
  obtain⟨u,hu,rv⟩:=r.get ha;have C:ps[i]?=some y:=by
   rw[← S.pre,wat ()];exact h1
  have ndP:ps.Nodup:=by rw[← S.pre];exact S.nd.sublist (List.take_sublist _ _)
  refine(u,rv,?_)
  rcases S.par y (wg C)with k|k
  ·exact .inl (k,JI ndP C hu k)
  ·obtain⟨c,e⟩:=zaQ k;refine .inr (.inl k,c,e,?_);have q:=x.cell y c e;rw[Jb ndP C hu (by show scope.names.lookup y≠_;rw[k];decide)]at q;exact q
 ·exact e0.hok.fresh (uw (x.above y c (PySem.mem_of_lookup h)))
 ·unfold start;show _=N.length;rw[wD,wc,vf];omega
def zkd{CX:CXT}{P:cf}{w:ce}{K:bh}{mg:Str->Option ca}{base:Heap}{k:Nat}{f:Addr}{name qual:Str}{params:Arguments}{body:List Stmt}{scope:Scope}{dV kV doc pm cdv ct oc:ca}{an od:Option Addr}
  {osl:Array (Option ca)} {N ps:List Str} {sp:Sp} (lk:K.lookup f=some (oc,od,.func (PySem.W.fnOf name qual params body scope dV kV doc pm an cdv ct),osl)) (hcd:PySem.W.codeIn K cdv qual=true) (S:kav N ps scope)
  (len:∀ vs H Q E,sp vs H Q E->vs.length=ps.length)
  (hbody:∀(A:cm)(outer:List Env)(s:Shared)(H:Hp)(vs:List V)(Q:VK)(E:XK),Room k (A.deeper (envOfC qual scope s.heap.objs.size f cdv))->sp vs H Q E ->
   ∃ t,PSs (cxOf CX P w K mg base N qual scope f cdv A outer s H E) body t/\t { nx:=λ_ H'=>Q .non H',rt:=Q } (start N vs) H) :
  FnOk P w K mg base CX (k+1) f (PySem.W.fnOf name qual params body scope dV kV doc pm an cdv ct) ps sp:=by
 refine(len,λA outer s H args us vs Q E U e0 hb r hsp=>?_);have hl:=len _ _ _ _ hsp;have KX:= e0.mod.kin.keeps λb o e=>(e0.bs b o e).1
 have lim:= e0.mod.nolimit.keeps λb o e=>(e0.bs b o e).1
 have hkind:∀ y∈ps.zip us,scope.names.lookup y.1=some .local\/(scope.names.lookup y.1=some .cell/\((cX (s.heap.objs.size+1) scope.names []).lookup y.1).isSome=true):=λ⟨n,v⟩ hy=>by
  rcases S.par n (vt hy).1 with q|q
  ·exact .inl q
  ·exact .inr (q,PySem.W.cellsFrom_some _ _ _ (.inl q))
 refine codeAny_call_function U.depth (KX _ _ lk) rfl S.co S.gen rfl (PySem.W.codeRec_of KX hcd) (hb _ _ _ _ ?_);refine wpAny_newFunctionEnv_cells S.kind hkind λenv he s1 x=>?_
 subst he;refine(lim.keeps x.toInCall.keep,codeAny_func ?_);obtain⟨t,ht,hq⟩:=hbody A outer s H vs Q E (U.deeper _) hsp;have I:Inv (cxOf CX P w K mg base N qual scope f cdv A outer s H E) [] (start N vs) H s1:=zdx S U.hd e0 hl r x;refine cw (ht [] s1 (start N vs) H _ I hq) (λfl s' hs=>?_) λe s' hs=>hs
 have fin:∀ {σ':St} {H':Hp} {v:V} {u:ca},Inv (cxOf CX P w K mg base N qual scope f cdv A outer s H E) [] σ' H' s'->RelV v u->Q v H'->CE outer P w H s Q u s' :=
  λ{σ' H' v u} bz rv q=>(v,H',bz.os,bz.bare,bz.base,bz.hok,rv,q)
 cases fl with
 | ret u =>
  obtain⟨v,σ',H',bz,rv,q⟩:=hs;exact fin bz rv q
 | next =>
  obtain⟨σ',H',bz,q⟩:=hs;exact fin (v:=V.non) bz rfl q
 | brk =>
  obtain⟨_,_,_,q⟩:=hs;exact False.elim q
 | cont =>
  obtain⟨_,_,_,q⟩:=hs;exact False.elim q
section
variable{p pos:Pos}{id T:String}
def tCB(r:List V->Hp->VK->Prop)(t:TA):TE:=λL H Q=>t L H λvs H1=>r vs H1 Q
def xh (hc:kau X (.builtin id) r) (hg:Gl X x) (hm:X.mg x=none) (hv:cj x=some (.builtin id)) (ha:PA X (e::es) t) (hn:x ≠ "__name__" := by decide) (hdb:(x ==("__debug__" : Str))=false:=by decide)
  (he:cv (e::es) X.env =(false,eval e X.env)::cv es X.env:=by rfl) (hpl:(cu pos (cv es X.env)).any (·.1)=false:=by rfl):PE X (.Call (.Name x p) (e::es) [] pos) (tCB r t):=by
 intro pins s L H Q I h;refine cU (qJ I hg hm hv ?_ hn hdb);exact PyProof.Rows.callWith_builtin1 (thn (ha pos pins s L H _ I h) λus s1 ⟨vs,H1,I1,r1,q1⟩=>hc pins s1 L H1 vs us Q I1 r1 q1) he hpl
def qV (hc:kau X (.type T) r) (hg:Gl X x) (hm:X.mg x=none) (hv:cj x=some (.type T)) (ha:PA X (e::es) t) (hn:x ≠ "__name__" := by decide) (hdb:(x ==("__debug__" : Str))=false:=by decide)
  (he:cv (e::es) X.env =(false,eval e X.env)::cv es X.env:=by rfl) (hpl:(cu pos (cv es X.env)).any (·.1)=false:=by rfl):PE X (.Call (.Name x p) (e::es) [] pos) (tCB r t):=by
 intro pins s L H Q I h;refine cU (qJ I hg hm hv ?_ hn hdb);exact PyProof.Rows.callWith_type1 (thn (ha pos pins s L H _ I h) λus s1 ⟨vs,H1,I1,r1,q1⟩=>hc pins s1 L H1 vs us Q I1 r1 q1) he hpl
end
end L2
namespace HT
open PySem PyProof.Rows
section
def sIx(n d:Nat):Option Int->Nat
 | none=>d
 | some v=>if v<0 then(v +(n:Int)).toNat else min v.toNat n
def xt n d:sIx n d none=d:=rfl
def xN(n d k:Nat):sIx n d (some (k:Int))=min k n:=by
 show(if (k:Int)<0 then((k:Int) +(n:Int)).toNat else min (k:Int).toNat n)=min k n;rw[bn (),wS]
end
end HT
namespace L2
open PySem PySem.Spec PyProof.Rows
abbrev TO:=St->Hp->(Option Int->Hp->Prop)->Prop
def PO(X:Cx)(e:Option Expr)(t:TO):Prop :=
 ∀(pins:List (Addr×Obj))(s:Shared)(L:St)(H:Hp)(Q:Option Int->Hp->Prop),Inv X pins L H s->t L H Q ->
  cq (cr X.prog X.w) X.A (evalPart e X.env) (λu s'=>∃ o H',Inv X pins L H' s'/\IsPart u o/\Q o H') X.xe s
def tNoPart:TO:=λ_ H Q=>Q none H
def tPart(t:TE):TO:=λL H Q=>t L H λx H1=>∃ i,x=.int i/\Q (some i) H1
section
variable{lo hi:Option Expr}
def zh2:PO X none tNoPart:=by
 intro pins s L H Q I h;rw[evalPart_none];exact cJ (none,H,I,.none,h)
def zhg(h:PE X e te):PO X (some e) (tPart te):=by
 intro pins s L H Q I hw;rw[evalPart_some];refine thn (h pins s L H _ I hw) λu s1 ⟨x,H1,I1,r1,q1⟩=>?_
 obtain⟨i,rfl,q⟩:=q1;obtain⟨t,rfl⟩:=r1;exact(some i,H1,I1,.int i t,q)
def SlR(X:Cx)(r:V->Option Int->Option Int->Hp->VK->Prop):Prop :=
 ∀(pins:List (Addr×Obj))(s:Shared)(L:St)(H:Hp)(x:V)(v vl vu:ca)(lo hi:Option Int)(sl:Addr)(Q:VK),Inv X pins L H s->RelV x v->s.heap.IsSliceOf sl vl vu .none->IsPart vl lo->IsPart vu hi->r x lo hi H Q ->
  ∃ T id,typeLookup (.type T) "__getitem__" = pure (some (.builtin id))/\s.TypeIs v T/\cq (cr X.prog X.w) X.A (getItem v (.ref sl)) (EP X pins L Q) X.xe s
def tSl(r:V->Option Int->Option Int->Hp->VK->Prop)(te:TE)(tl th:TO):TE:=λL H Q=>te L H λx H1=>tl L H1 λl H2=>th L H2 λu H3=>r x l u H3 Q
def zfe{r:V->Option Int->Option Int->Hp->VK->Prop}(U:SlR X r)(he:PE X e te)(hl:PO X lo tl)(hu:PO X hi th):PE X (.Subscript e (.Slice lo hi none p2) pos) (tSl r te tl th):=by
 intro pins s L H Q I h;refine Subscript_ (thn (he pins s L H _ I h) λv s1 ⟨x,H1,I1,r1,q1⟩=>?_);refine wpAny_Slice (thn (hl pins s1 L H1 _ I1 q1) λvl s2 ⟨l,H2,I2,pl,q2⟩=>thn (hu pins s2 L H2 _ I2 q2) λvu s3 ⟨u,H3,I3,pu,q3⟩=>?_);rw[evalPart_none];refine cJ ?_;have I4:Inv X pins L H3 { s3 with heap:=s3.heap.push { cls:=.type "slice",data:=.fields #[vl,vu,.none] } }:=I3.kept (t':=s3.toks) λb ob q=>Heap.get?_push_of_some _ q
 obtain⟨T,id,hT,ht,hg⟩:=U pins { s3 with heap:=s3.heap.push { cls:=.type "slice",data:=.fields #[vl,vu,.none] } } L H3 x v vl vu l u s3.heap.objs.size Q I4 r1 (Heap.IsSliceOf.new ..) pl pu q3;exact tail_any ht hT hg (by with_unfolding_all rfl)
def cutV(xs:List V)(lo hi:Option Int):List V:=(xs.drop (HT.sIx xs.length 0 lo)).take (HT.sIx xs.length xs.length hi - HT.sIx xs.length 0 lo)
def JZ xs lo hi:(cutV xs lo hi).length<=xs.length:=by
 unfold cutV;rw[wr,vW];omega
end
def ixN(n:Nat)(i:Int):Option Nat:=if 0<=i then(if i<n then some i.toNat else none)else if -(n:Int)<=i then some (i+n).toNat else none
def atI{α:Type}(xs:List α)(i:Int):Option α:=(ixN xs.length i).bind λj=>xs[j]?
def zc3(h:ixN n i=some j):seqIndex? i n=some j/\j<n/\-(n:Int)<=i/\i<n:=by
 unfold ixN at h
 by_cases h0:0<=i
 ·rw[bj h0]at h
  by_cases h1:i<n
  ·rw[bj h1]at h;have e:= Option.some.inj h;exact(by rw[seqIndex_of h0 h1,e],(),(),h1)
  ·rw[bn h1]at h;cases h
 ·rw[bn h0]at h
  by_cases h1 : -n<=i
  ·rw[bj h1]at h;have e:= Option.some.inj h;exact(by rw[seqIndex_neg () h1,e],(),h1,())
  ·rw[bn h1]at h;cases h
def zdM(h:atI xs i=some v):∃ j,seqIndex? i xs.length=some j/\xs[j]?=some v/\j<xs.length/\-(xs.length:Int)<=i/\i<xs.length:=by
 unfold atI at h;cases e:ixN xs.length i with
 | none=>rw[e]at h;cases h
 | some j =>
  rw[e]at h;obtain⟨h1,h2,h3,h4⟩:=zc3 e;exact(j,h1,h,h2,h3,h4)
def zk{j:Nat}(h:xs[j]?=some v):atI xs (j:Int)=some v:=by
 have hj:j<xs.length:=(wu.mp h).1;have e:ixN xs.length (j:Int)=some j:=by
  unfold ixN;rw[bj (),bj ()];simp
 unfold atI;rw[e];exact h
def PlainIx(b:Expr):Prop:=∀ o i,subscripted b false o i=operate [o,i] (getItem o i)
def IxR(X:Cx)(r:R2):Prop :=
 ∀(value slice:Expr)(pins:List (Addr×Obj))(s:Shared)(L:St)(H:Hp)(x y:V)(v u:ca)(Q:VK),Inv X pins L H s->RelV x v->RelV y u->r x y H Q ->
  subscripted slice false v u=operate [v,u] (getItem v u)->cq (cr X.prog X.w) X.A (subscriptTail value slice v u) (EP X pins L Q) X.xe s
def MtR(X:Cx)(id:String)(r:V->List V->Hp->VK->Prop):Prop :=
 ∀(pins:List (Addr×Obj))(s:Shared)(L:St)(H:Hp)(x:V)(xs:List V)(v:ca)(us:List ca)(Q:VK),Inv X pins L H s->RelV x v->Vals xs us->r x xs H Q ->
  cq (cr X.prog X.w) X.A (call (.builtin id) (v::us)) (EP X pins L Q) X.xe s
section
def zj7{r:R2}(U:IxR X r)(ha:PE X a ta)(hb:PE X b tb)(hs:PlainIx b):PE X (.Subscript a b pos) (tOp r ta tb):=by
 intro pins s L H Q I h;exact Subscript_ (binT ha hb I h λv u s2 x y H2 I2 rx ry q=>U a b pins s2 L H2 x y v u Q I2 rx ry q (hs _ _))
inductive zf3(K:bh)(x y:V)(H:Hp)(Q:VK):Prop where
 | mk (p:Addr) (xs:List V) (i:Int) (v:V) (h0_:x=.ref p) (h1_:y=.int i) (h2_:SqL K H p xs) (h3_:atI xs i=some v) (h4_:Q v H):zf3 K x y H Q
def rIxL(K:bh):R2:=λx y H Q=>zf3 K x y H Q
inductive zf6(K:bh)(x y:V)(H:Hp)(Q:VK):Prop where
 | mk (p:Addr) (xs:List V) (i:Int) (v:V) (h0_:x=.ref p) (h1_:y=.int i) (h2_:SqT K H p xs) (h3_:atI xs i=some v) (h4_:Q v H):zf6 K x y H Q
def rIxT(K:bh):R2:=λx y H Q=>zf6 K x y H Q
def zgD:IxR X (rIxL X.K):=by
 intro value slice pins s L H x y v u Q I rx ry h hs;obtain⟨p,xs,i,z,rfl,rfl,hq,he,q⟩:=h;cases rx;obtain⟨t,rfl⟩:=ry;obtain⟨its,r,pl,hz⟩:=I.list hq;obtain⟨j,h1,h2,h3,h4,h5⟩:=zdM he;obtain⟨w,ew,rw'⟩:=r.get h2;have hl:=r.length;have hn:=line63;have fin:EP X pins L Q w s:=(z,H,I,rw',q)
 by_cases h0:0<=i
 ·have hj:i.toNat=j:=by
   rw[seqIndex_of h0 h5]at h1;exact Option.some.inj h1
  exact item_listR pl.isList h0 () (by rw[hj];simpa using ew) fin hs
 ·have hj:(i+its.toArray.size).toNat=j:=by
   rw[seqIndex_neg () h4]at h1;rw[wV,← hl];exact Option.some.inj h1
  exact subscriptTail_builtinR pl.isList.typeIs slot_list_getitem.lookup
   (wpAny_getItem_list_neg pl.isList () (by rw[wV] <;> omega) () (by rw[hj];simpa using ew) (V,fin)) hs
def zi9:IxR X (rIxT X.K):=by
 intro value slice pins s L H x y v u Q I rx ry h hs;obtain⟨p,xs,i,z,rfl,rfl,hq,he,q⟩:=h;cases rx;obtain⟨t,rfl⟩:=ry;obtain⟨its,r,pl,hz⟩:=I.tuple hq;obtain⟨j,h1,h2,h3,h4,h5⟩:=zdM he;obtain⟨w,ew,rw'⟩:=r.get h2;have hl:=r.length;have hn:=line63;have fin:EP X pins L Q w s:=(z,H,I,rw',q);exact subscriptTail_builtinR pl.typeIs slot_tuple_getitem.lookup
  (getItem_tuple pl () () (by rw[wV,← hl];exact h1) (by simpa using ew) (V,fin)) hs
def zbL (its:List ca) (n j:Nat) (u:ca):Obj.mapSeq (·.setIfInBounds j u) { cls:=.type "list",data:=.seq its.toArray n }={ cls:=.type "list",data:=.seq (its.set j u).toArray n }:=by
 simp[Obj.mapSeq]
def Inv.lst{L:St}(I:Inv X pins L H s)(h:H p=some (.lst xs)) :
  ∃(its:List ca)(n:Nat),Vals xs its/\s.heap.get? p=some { cls:=.type "list",data:=.seq its.toArray n }/\xs.length<=sizeLine:=by
 obtain⟨z,its,n,r,e⟩:=I.hok p _ h;exact(its,n,r,e,z)
def Inv.lstUpd{pins:List (Addr×Obj)}{L:St}{H:Hp}{s:Shared}{p:Addr}{xs ys:List V}{its its':List ca}{n n':Nat}{f:Obj->Obj}(I:Inv X pins L H s)(h:H p=some (.lst xs))
  (ho:s.heap.get? p=some { cls:=.type "list",data:=.seq its.toArray n }) (hf:f { cls:=.type "list",data:=.seq its.toArray n }={ cls:=.type "list",data:=.seq its'.toArray n' }) (r:Vals ys its') (hz:ys.length<=sizeLine) (t:Nat) :
  Inv X pins L (upd H p (.lst ys)) { s with heap:=s.heap.update p f,toks:=t }:=by
 have e:(s.heap.update p f).get? p=some { cls:=.type "list",data:=.seq its'.toArray n' }:=by
  rw[Heap.get?_update_self f ho (by rw[hf] <;> rfl),hf]
 refine I.write (by rw[h];trivial) (.inl rfl) (λb u hb q=>(Heap.get?_update_other _ _ (Ne.symm hb)).trans q) (_,e) ?_;exact(hz,its',n',r,e)
inductive zdc(o i v:V)(H:Hp)(Q:Hp->Prop):Prop where
 | mk (p:Addr) (xs:List V) (k:Int) (j:Nat) (h0_:o=.ref p) (h1_:i=.int k) (h2_:H p=some (.lst xs)) (h3_:ixN xs.length k=some j) (h4_:Q (upd H p (.lst (xs.set j v)))):zdc  o i v H Q
def rSetL:V->V->V->Hp->(Hp->Prop)->Prop:=λo i v H Q=>zdc  o i v H Q
def zeQ:PSet X rSetL:=by
 intro pins s L H o i v ov iv u Q I ro ri rv h;obtain⟨p,xs,k,j,rfl,rfl,C,hj,q⟩:=h;cases ro;obtain⟨t,rfl⟩:=ri;obtain⟨its,n,r,ho,hz⟩:=I.lst C;obtain⟨h1,h2,h3,h4⟩:=zc3 hj;have hl:=r.length;have hn:=line63;have I':Inv X pins L (upd H p (.lst (xs.set j v))) { s with heap:=s.heap.update p (Obj.mapSeq (·.setIfInBounds j u)) } :=
  I.lstUpd C ho (zbL its n j u) (r.set rv j) (by rw[vv];exact hz) s.toks
 by_cases h0:0<=k
 ·have J:k.toNat=j:=by
   rw[seqIndex_of h0 h4]at h1;exact Option.some.inj h1
  exact PySem.W.ki_setAt ho h0 () (by rw[wV,← hl];exact h4) (by rw[J];exact(_,I',q))
 ·have J:(k+its.toArray.size).toNat=j:=by
   rw[seqIndex_neg () h3]at h1;rw[wV,← hl];exact Option.some.inj h1
  exact PySem.W.ki_setBack ho () (by rw[wV,← hl];exact h3) () (by rw[J];exact(_,I',q))
def XM lo hi n:(cY lo hi none n).1 =((HT.sIx n 0 lo:Nat):Int)/\(cY lo hi none n).2.1 =((HT.sIx n n hi:Nat):Int)/\(cY lo hi none n).2.2=1:=by
 refine(?_,?_,V)
 ·cases lo with
  | none=>simp[cY,HT.sIx]
  | some i =>
   simp only[cY,HT.sIx,wbn,show(1:Int) > 0 by decide,if_true]
   by_cases h:i<0
   ·simp only[h,if_true] <;> omega
   ·simp only[h,if_false] <;> omega
 ·cases hi with
  | none=>simp[cY,HT.sIx]
  | some i =>
   simp only[cY,HT.sIx,wbn,show(1:Int) > 0 by decide,if_true]
   by_cases h:i<0
   ·simp only[h,if_true] <;> omega
   ·simp only[h,if_false] <;> omega
def Xb(its:List ca) lo hi:slicePick its.toArray lo hi none =((its.drop (HT.sIx its.length 0 lo)).take (HT.sIx its.length its.length hi - HT.sIx its.length 0 lo)).toArray:=by
 obtain⟨h1,h2,h3⟩:=XM lo hi its.toArray.size;unfold slicePick;rw[h1,h2,h3];simp only[sliceRange_one,pick_run,wV] <;> rfl
inductive zf0(K:bh)(x:V)(lo hi:Option Int)(H:Hp)(Q:VK):Prop where
 | mk (a:Addr) (xs:List V) (h0_:x=.ref a) (h1_:SqL K H a xs) (h2_:∀ p,H p=none->Q (.ref p) (upd H p (.lst (cutV xs lo hi)))):zf0 K x lo hi H Q
def rSlL(K:bh):V->Option Int->Option Int->Hp->VK->Prop:=λx lo hi H Q=>zf0 K x lo hi H Q
def zef:SlR X (rSlL X.K):=by
 intro pins s L H x v vl vu lo hi sl Q I rx hs pl pu h;obtain⟨a,xs,rfl,D,q⟩:=h;cases rx;obtain⟨its,r,ht,hz⟩:=I.list D;have hlen:=r.length;refine("list",_,slot_list_getitem.lookup,ht.isList.typeIs,?_);refine wpAny_getItem_list_slice ht.isList hs pl pu .none (by simp) ?_ (by rw[wV] <;> omega);rw[Xb,← hlen];refine(.ref s.heap.objs.size,_,I.laid (t':=s.toks) (λb ob q=>Heap.get?_push_of_some _ q) (wv _) ?_,V,q _ (I.hok.fresh (wv _)));exact(wE (JZ xs lo hi) hz,_,0,(r.drop (HT.sIx xs.length 0 lo)).take (HT.sIx xs.length xs.length hi - HT.sIx xs.length 0 lo),Heap.get?_push_size _ rfl)
def flatV:V->Bool
 | .non=>true
 | .bl _=>true
 | .int _=>true
 | .str _=>true
 | _=>false
def eqV:V->V->Bool
 | .non,.non=>true
 | .bl a,.bl b=>a == b
 | .bl a,.int b=>(if a then 1 else 0) == b
 | .int a,.bl b=>a ==(if b then 1 else 0)
 | .int a,.int b=>a == b
 | .str a,.str b=>a == b
 | _,_=>false
def zjh(ry:RelV y u)(rx:RelV x v)(fy:flatV y=true)(fx:flatV x=true):SeqAt.EqAt A s u v (eqV y x):=by
 cases y with
 | non =>
  cases ry;cases x with
  | non=>cases rx;exact SeqAt.EqAt.same _
  | bl b=>cases rx;exact SeqAt.EqAt.none_bool b
  | int b=>obtain⟨t,rfl⟩:=rx;exact SeqAt.EqAt.none_int b t
  | str b=>obtain⟨t,rfl⟩:=rx;exact SeqAt.EqAt.none_str b t
  | _=>exact bw (show false=true from fx) vg
 | bl a =>
  cases ry;cases x with
  | non=>cases rx;exact SeqAt.EqAt.bool_none a
  | bl b=>cases rx;exact SeqAt.EqAt.bool_bool a b
  | int b=>obtain⟨t,rfl⟩:=rx;exact SeqAt.EqAt.bool_int a b t
  | str b=>obtain⟨t,rfl⟩:=rx;exact SeqAt.EqAt.bool_str a b t
  | _=>exact bw (show false=true from fx) vg
 | int a =>
  obtain⟨t',rfl⟩:=ry;cases x with
  | non=>cases rx;exact SeqAt.EqAt.int_none a t'
  | bl b=>cases rx;exact SeqAt.EqAt.int_bool a t' b
  | int b=>obtain⟨t,rfl⟩:=rx;exact SeqAt.EqAt.int_int a t' b t
  | str b=>obtain⟨t,rfl⟩:=rx;exact SeqAt.EqAt.int_str a t' b t
  | _=>exact bw (show false=true from fx) vg
 | str a =>
  obtain⟨t',rfl⟩:=ry;cases x with
  | non=>cases rx;exact SeqAt.EqAt.str_none a t'
  | bl b=>cases rx;exact SeqAt.EqAt.str_bool a t' b
  | int b=>obtain⟨t,rfl⟩:=rx;exact SeqAt.EqAt.str_int a t' b t
  | str b=>obtain⟨t,rfl⟩:=rx;exact SeqAt.EqAt.str_str a t' b t
  | _=>exact bw (show false=true from fx) vg
 | _=>exact bw (show false=true from fy) vg
def eqU(x:V)(u:ca):Bool:=match u with
 | .none=>eqV .non x
 | .bool b=>eqV (.bl b) x
 | .int i _=>eqV (.int i) x
 | .str z _=>eqV (.str z) x
 | _=>false
def zgw(r:RelV y u)(f:flatV y=true):eqU x u=eqV y x:=by
 cases y with
 | non=>cases r;rfl
 | bl b=>cases r;rfl
 | int i=>obtain⟨t,rfl⟩:=r;rfl
 | str z=>obtain⟨t,rfl⟩:=r;rfl
 | _=>exact bw (show false=true from f) vg
def Qb:∀ {xs:List V} {us:List ca},Vals xs us->xs.all flatV=true->us.any (eqU x)=xs.any λy=>eqV y x
 | _,_,.nil,_=>rfl
 | y::xs,u::us,.cons r t,f=>by
  rw[waX,gU]at f;rw[waY,waY,zgw r f.1,Qb t f.2]
def Xe(rx:RelV x v)(fx:flatV x=true):∀ {xs:List V} {us:List ca},Vals xs us->xs.all flatV=true->∀ u∈us,SeqAt.EqAt A s u v (eqU x u)
 | _,_,.nil,_=>λu hu=>by cases hu
 | y::xs,u::us,.cons r t,f=>λu' hu=>by
  rw[waX,gU]at f
  rcases wG.mp hu with rfl|hu
  ·rw[zgw r f.1];exact zjh r rx f.1 fx
  ·exact Xe rx fx t f.2 u' hu
def inV(x:V)(xs:List V):Bool:=xs.any λy=>eqV y x
def rIn(K:bh)(neg:Bool):R2:=λx y H Q=>∃ p xs,y=.ref p/\(SqL K H p xs\/SqT K H p xs)/\flatV x=true/\xs.all flatV=true/\Q (.bl (if neg then !inV x xs else inV x xs)) H
def JJ:OpR X (cQ .NotIn) (rIn X.K true):=by
 intro pins s L H x y v u Q I rx ry h;obtain⟨p,xs,rfl,hq,fx,fs,q⟩:=h;cases ry
 rcases hq with hq|hq
 ·obtain⟨its,r,pl,hz⟩:=I.list hq;refine SeqAt.notIn_listAt (eqU x) pl.isList (λw hw=>Xe rx fx r fs w (by simpa using hw)) (.bl _,H,I,V,?_);rw[show its.toArray.any (eqU x)=its.any (eqU x) by simp,Qb r fs];exact q
 ·obtain⟨its,r,pl,hz⟩:=I.tuple hq;refine SeqAt.notIn_tupleAt (eqU x) pl (λw hw=>Xe rx fx r fs w (by simpa using hw)) (.bl _,H,I,V,?_);rw[show its.toArray.any (eqU x)=its.any (eqU x) by simp,Qb r fs];exact q
def Je:kau X (.builtin "len") (λxs H Q=>∃ p ys,xs=[.ref p]/\(SqL X.K H p ys\/SqT X.K H p ys)/\Q (.int ys.length) H):=by
 intro pins s L H xs us Q I r h;obtain⟨p,ys,rfl,hq,q⟩:=h;obtain⟨u,rfl,rx⟩:=vals1 r;cases rx;have hn:=line63
 rcases hq with hq|hq
 ·obtain⟨its,r',pl,hz⟩:=I.list hq;have hlen:=r'.length;exact Calls.call_len_list pl.isList (by simp only[wV] <;> omega) (.int ys.length,H,I.tok _,(s.toks+1,by rw[wV,hlen]),q)
 ·obtain⟨its,r',pl,hz⟩:=I.tuple hq;have hlen:=r'.length;exact len_tuple pl (by simp only[wV] <;> omega) (.int ys.length,H,I.tok _,(s.toks+1,by rw[wV,hlen]),q)
def XO:kau X (.type "list") (λxs H Q=>∃ p ys,xs=[.ref p]/\(SqL X.K H p ys\/SqT X.K H p ys)/\∀ l,H l=none->Q (.ref l) (upd H l (.lst ys))):=by
 intro pins s L H xs us Q I r h;obtain⟨p,ys,rfl,hq,q⟩:=h;obtain⟨u,rfl,rx⟩:=vals1 r;cases rx;have fin:∀ its,Vals ys its->ys.length<=sizeLine->∀ h' c',(∀ b o',s.heap.get? b=some o'->h'.get? b=some o') ->
   h'.get? s.heap.objs.size=some { cls:=.type "list",dict:=none,data:=.seq its.toArray c',slots:=#[] }->EP X pins L Q (.ref s.heap.objs.size) { s with heap:=h' }:=λits r' hz h' c' kp e =>
  (.ref s.heap.objs.size,_,I.laid (t':=s.toks) kp (wv _) (show kaz X.prog X.w _ h' _ (.lst ys)from(hz,its,c',r',e)),V,q _ (I.hok.fresh (wv _)))
 rcases hq with hq|hq
 ·obtain⟨its,r',pl,hz⟩:=I.list hq;have hlen:=r'.length;obtain⟨o,ho,hc,n,hd⟩:=pl.isList;exact call_list_seq p (.inl rfl) ho hc hd (λh' c' kp e=>fin its r' hz h' c' kp e) (by simp only[wV] <;> omega)
 ·obtain⟨its,r',pl,hz⟩:=I.tuple hq;have hlen:=r'.length;obtain⟨o,ho,hc,n,hd⟩:=pl;exact call_list_seq p (.inr rfl) ho hc hd (λh' c' kp e=>fin its r' hz h' c' kp e) (by simp only[wV] <;> omega)
def YU:kau X (.type "tuple") (λxs H Q=>∃ p ys,xs=[.ref p]/\((SqL X.K H p ys/\∀ l,H l=none->Q (.ref l) (upd H l (.tup ys)))\/(SqT X.K H p ys/\Q (.ref p) H))):=by
 intro pins s L H xs us Q I r h;obtain⟨p,ys,rfl,h⟩:=h;obtain⟨u,rfl,rx⟩:=vals1 r;cases rx
 rcases h with⟨hq,q⟩|⟨hq,q⟩
 ·obtain⟨its,r',pl,hz⟩:=I.list hq;have hlen:=r'.length;refine call_tuple_list pl.isList (λh' kp=>?_) (by simp only[wV] <;> omega);have I1:Inv X pins L H { s with heap:=h' }:=I.kept (t':=s.toks) kp;have I2:Inv X pins L (upd H h'.objs.size (.tup ys)) { s with heap:=h'.push { cls:=.type "tuple",data:=.seq its.toArray } } :=
   I1.laid (t':=s.toks) (λb o e=>Heap.get?_push_of_some _ e) (wv _) (show kaz X.prog X.w _ _ _ (.tup ys)from(hz,its,r',IsTup.new _ _))
  exact(.ref h'.objs.size,_,I2,V,q _ (I1.hok.fresh (wv _)))
 ·obtain⟨its,r',pl,hz⟩:=I.tuple hq;exact call_tuple_same pl (.ref p,H,I,V,q)
def tyV(K:bh)(T:String)(x:V)(H:Hp):Prop:=match x with
 | .str _=>T = "str"
 | .int _=>T = "int"
 | .ref p=>(T = "list" /\ ∃ xs,SqL K H p xs)\/(T = "tuple" /\ ∃ o,K.lookup p=some o/\o.cls=.type "tuple" /\ o.dict=none) \/
   (T = "dict" /\ ((∃ kvs,H p=some (.dK kvs))\/∃ kvs,H p=some (.dT kvs)))\/(T = "set" /\ ∃ S n,H p=some (.set S n))
 | _=>False
def zjD{L:St}(I:Inv X pins L H s)(r:RelV x v)(ty:tyV X.K T x H) :
  s.TypeIs v T/\∀ a,v=.ref a->∃ ob,s.heap.get? a=some ob/\ob.dict=none:=by
 cases x with
 | str z =>
  obtain⟨t,rfl⟩:=r;cases (show T = "str" from ty);exact(typeIs_str s z t,λ_ e=>nomatch e)
 | int i =>
  obtain⟨t,rfl⟩:=r;cases (show T = "int" from ty);exact(typeIs_int s i t,λ_ e=>nomatch e)
 | ref p =>
  cases r
  rcases ty with⟨rfl,xs,hq⟩|⟨rfl,o,J,hc,hd⟩|⟨rfl,J⟩|⟨rfl,S,n,J⟩
  ·obtain⟨its,_,pl,_⟩:=I.list hq;refine(pl.isList.typeIs,λa e=>?_);cases e;obtain⟨o,n,e,c,hd,_⟩:=pl;exact(o,e,hd)
  ·refine((o,I.kIn p o J,hc),λa e=>?_);cases e;exact(o,I.kIn _ o J,hd)
  ·have z:∃ o,s.heap.get? p=some o/\o.ExactDict:=by
    rcases J with⟨kvs,J⟩|⟨kvs,J⟩
    ·obtain⟨_,_,_,_,o,_,_,e,ex,_⟩:=I.hok p _ J;exact(o,e,ex)
    ·obtain⟨_,_,_,_,o,_,_,e,ex,_⟩:=I.hok p _ J;exact(o,e,ex)
   obtain⟨o,e,ex⟩:=z;refine((o,e,ex.1),λa e2=>?_);cases e2;exact(o,e,ex.2.1)
  ·obtain⟨o,_,_,_,e,ex,_⟩:=I.hok p _ J;refine((o,e,ex.1),λa e2=>?_);cases e2;exact(o,e,ex.2.1)
 | _=>exact False.elim ty
def tBM(K:bh)(T:String)(r:V->List V->Hp->VK->Prop)(to:TE)(t:TA):TE:=λL H Q=>to L H λx H1=>tyV K T x H1/\t L H1 λxs H2=>r x xs H2 Q
variable{apos cpos:Pos}{T id:String}
def zha (pa:PlainAttrs T) (slot:Slot T name id) (hty:typeOf (.builtin id)=pure (.type "method_descriptor")) (hm:MtR X id r) (ho:PE X o to) (ha:PA X (e::es) t)
  (hbase:attributeBase o name X.env (eval o X.env)=eval o X.env:=by rfl)
  (hfew:((cu cpos (cv (e::es) X.env)).all (λx=>!x.1) && (backToKw cpos (keywordEach [] X.env)).all (λx=>x.1.isSome)
   && decide ((e::es).length +([]:List Keyword).length +(if ([]:List Keyword).isEmpty then 0 else 1)<30))=true:=by rfl)
  (hline:(apos.endLine == cpos.line)=true:=by rfl) (hs:cv (e::es) X.env =(false,eval e X.env)::cv es X.env:=by rfl) (hplain:(cu cpos (cv es X.env)).any (·.1)=false:=by rfl) :
  PE X (.Call (.Attribute o name apos) (e::es) [] cpos) (tBM X.K T r to t):=by
 intro pins s L H Q I h;refine wpAny_Call_method_late hbase hfew hline rfl (thn (ho pins s L H _ I h) λv s1 ⟨x,H1,I1,r1,ty,q1⟩=>?_);obtain⟨h1,h2⟩:=zjD I1 r1 ty;refine(T,id,pa,slot,hty,h1,h2,?_);have hA:=ha cpos pins s1 L H1 _ I1 q1;rw[hs]at hA ⊢;refine Calls.callWith_builtin (by show(false || (cu cpos (cv es X.env)).any (·.1))=false;rw[hplain] <;> rfl) (Calls.evalArgs_plain ?_);exact thn hA λus s2 ⟨vs,H2,I2,r2,q2⟩=>hm pins s2 L H2 x vs v us Q I2 r1 r2 q2
end
def MtM(X:Cx)(id:String)(r:V->List V->Hp->VK->Prop):Prop :=
 ∀ pins s (L:St) H x xs v us Q,Inv X pins L H s->RelV x v->Vals xs us->r x xs H Q ->
  cq (cr X.prog X.w) X.A (call (.builtin id) (v::us)) (EP X pins L Q) X.xe s
def Vals.one:∀ {x:V} {us:List ca},Vals [x] us->∃ u,us=[u]/\RelV x u
 | _,_,.cons r .nil=>(Z,r)
def Vals.two:∀ {x y:V} {us:List ca},Vals [x,y] us->∃ u v,us=[u,v]/\RelV x u/\RelV y v
 | _,_,_,.cons r (.cons q .nil)=>(_,Z,r,q)
def Vals.rep(h:Vals xs us):∀ k:Nat,Vals (wK k xs).flatten (wK k us).flatten
 | 0=>.nil
 | k+1=>by
  rw[vZ,vZ,uH,uH];exact Vals.append h (Vals.rep h k)
def Jd its:∀ k (acc:List ca),
  wbY (λx1 x2=>x1++x2) acc.toArray (wK k its.toArray) =(acc ++(wK k its).flatten).toArray
 | 0,acc=>by simp
 | k+1,acc=>by
  have e:acc.toArray++its.toArray =(acc++its).toArray:=by simp
  have e2:(acc++its) ++(wK k its).flatten=acc ++(wK (k+1) its).flatten:=by
   rw[vZ,uH,wbe]
  rw[← e2,← Jd its k (acc++its),← e,vZ,wac]
section
variable{L:St}
def Inv.lset{its its':List ca}(I:Inv X pins L H s)(hH:H l=some (.lst xs))
  (e:s.heap.get? l=some { cls:=.type "list",data:=.seq its.toArray n }) (hf:f its.toArray=its'.toArray) (hv:Vals ys its') (hz:ys.length<=sizeLine) :
  Inv X pins L (upd H l (.lst ys)) { s with heap:=s.heap.update l (Obj.mapSeq f),toks:=t' }:=by
 have q:=PySem.IsL.update e f;rw[hf]at q;refine I.write (by rw[hH];exact trivial) (.inl rfl) (λb' u hb hu=>(Heap.get?_update_other s.heap (Obj.mapSeq f) (Ne.symm hb)).trans hu) (_,q) ?_;exact(hz,its',_,hv,q)
def Inv.lnew(I:Inv X pins L H s)(hv:Vals ys its)(hz:ys.length<=sizeLine) :
  Inv X pins L (upd H s.heap.objs.size (.lst ys)) { s with heap:=s.heap.push { cls:=.type "list",data:=.seq its.toArray },toks:=t' } :=
 I.laid (λ_ _ q=>Heap.get?_push_of_some _ q) (wv _) (hz,its,0,hv,Heap.get?_push_size _ rfl)
def Inv.fresh(I:Inv X pins L H s):H s.heap.objs.size=none:=I.hok.fresh (wv _)
def Inv.lstM (I:Inv X pins L H s) (hH:H l=some (.lst xs)):xs.length<=sizeLine/\∃(its:List ca)(n:Nat),Vals xs its/\xs.length=its.length/\s.heap.get? l=some { cls:=.type "list",data:=.seq its.toArray n }:=by
 obtain⟨z,its,n,r,e⟩:=I.hok l _ hH;exact(z,its,n,r,r.length,e)
def notLongL(h:n<=sizeLine):Builtin.List.listTooLong n=false:=by
 unfold Builtin.List.listTooLong;exact bq ()
end
section
inductive Jk(x:V)(vs:List V)(H:Hp)(Q:VK):Prop where
 | mk (l:Addr) (xs:List V) (y:V) (h0_:x=.ref l) (h1_:vs=[y]) (h2_:H l=some (.lst xs)) (h3_:xs.length<sizeLine) (h4_:Q .non (upd H l (.lst (xs++[y])))):Jk  x vs H Q
def rAppend:V->List V->Hp->VK->Prop:=λx vs H Q=>Jk  x vs H Q
def zdF:MtM X "list.append" rAppend:=by
 intro pins s L H x vs v us Q I rx rv h;obtain⟨l,xs,y,rfl,rfl,hH,hz,q⟩:=h;cases rx;obtain⟨u,rfl,ru⟩:=rv.one;obtain⟨z,its,n,r,hl,e⟩:=I.lstM hH;refine call_meets F.slot_list_append (_,e,V) F.entry_list_append (F.args_list_append_2 _ _) (PySem.list_append l its.toArray n u (by rw[wV];omega)) (e,?_);refine(.non,_,I.lset (its':=its++[u]) hH e (by simp) (r.append (.cons ru .nil)) ?_,V,q);rw[wD,waN];omega
def rExtend:V->List V->Hp->VK->Prop:=λx vs H Q=>∃ l b xs zs,x=.ref l/\vs=[.ref b]/\H l=some (.lst xs)/\H b=some (.lst zs)/\xs.length+zs.length<=sizeLine/\Q .non (upd H l (.lst (xs++zs)))
def zbU:MtM X "list.extend" rExtend:=by
 intro pins s L H x vs v us Q I rx rv h;obtain⟨l,b,xs,zs,rfl,rfl,hH,hB,hz,q⟩:=h;cases rx;obtain⟨u,rfl,ru⟩:=rv.one;cases ru;obtain⟨z,its,n,r,hl,e⟩:=I.lstM hH;obtain⟨z2,its2,n2,r2,hl2,e2⟩:=I.lstM hB;have hsz:its.toArray.size+its2.toArray.size<=sizeLine:=by rw[wV,wV];omega
 have hlong:¬(!its.toArray.isEmpty && Builtin.List.listTooLong (its.toArray.size+its2.toArray.size))=true:=by
  rw[notLongL hsz,Bool.and_false];exact vg
 refine call_meets F.slot_list_extend (_,e,V) F.entry_list_extend (F.args_list_extend_2 _ _)
  (AutoSeq1.list_extend_list_list_0 l its.toArray n b its2.toArray n2 hlong (by rw[wV];omega) ()) (e,e2,?_)
 refine(.non,_,I.lset (its':=its++its2) hH e (by simp) (r.append r2) ?_,V,q);rw[wD];omega
inductive zgh(x y:V)(H:Hp)(Q:VK):Prop where
 | mk (l b:Addr) (xs zs:List V) (h0_:x=.ref l) (h1_:y=.ref b) (h2_:H l=some (.lst xs)) (h3_:H b=some (.lst zs)) (h4_:xs.length+zs.length<=sizeLine) (h5_:∀ p,H p=none->Q (.ref p) (upd H p (.lst (xs++zs)))):zgh  x y H Q
def rCat:R2:=λx y H Q=>zgh  x y H Q
def xC:OpR X (cP .Add) rCat:=by
 intro pins s L H x y v u Q I rx ry h;obtain⟨l,b,xs,zs,rfl,rfl,hH,hB,hz,q⟩:=h;cases rx;cases ry;obtain⟨z,its,n,r,hl,e⟩:=I.lstM hH;obtain⟨z2,its2,n2,r2,hl2,e2⟩:=I.lstM hB;refine PySem.P.add_list e e2 ?_ (by rw[wV,wV];omega);have ea:its.toArray++its2.toArray =(its++its2).toArray:=by simp
 rw[ea];exact(.ref _,_,I.lnew (t':=s.toks) (r.append r2) (by rw[wD];omega),V,q _ I.fresh)
def rRep:R2:=λx y H Q=>∃ l k xs,x=.ref l/\y=.int k/\H l=some (.lst xs)/\-(2^63)<=k/\k<2^63/\xs.length*k.toNat<=sizeLine /\
 ∀ p,H p=none->Q (.ref p) (upd H p (.lst (wK k.toNat xs).flatten))
def zgB{α:Type}(xs:List α) k:(wK k xs).flatten.length=k*xs.length:=by
 induction k with
 | zero=>simp
 | succ k ih=>rw[vZ,uH,wD,ih,uK,waE]
def ziU:OpR X (cP .Mult) rRep:=by
 intro pins s L H x y v u Q I rx ry h;obtain⟨l,k,xs,rfl,rfl,hH,h1,h2,hz,q⟩:=h;cases rx;obtain⟨t,rfl⟩:=ry;obtain⟨z,its,n,r,hl,e⟩:=I.lstM hH;have hlen:its.toArray.size*k.toNat<=sizeLine:=by rw[wV,← hl];exact hz
 have hcap:¬ its.toArray.size*k.toNat >(2^63 - 1) / 8:=by
  have:sizeLine<=(2^63 - 1) / 8:=by decide
  omega
 have hfit:¬(!Builtin.List.listFitsIndex k)=true:=by
  rw[fitsIndex_both h1 h2];exact vg
 have hlong:¬ Builtin.List.listTooLong (its.toArray.size*k.toNat)=true:=by
  rw[notLongL hlen];exact vg
 have hnew:wbY (λx1 x2=>x1++x2) #[] (wK (if its.toArray.isEmpty=true then 0 else k.toNat) its.toArray) =(wK k.toNat its).flatten.toArray:=by
  have f0:= λm=>by
   have:=Jd its m [];rw[wbu]at this;exact this
  rw[f0];cases its with
  | nil=>simp
  | cons a r'=>rw[bn (by simp)]
 refine wpAny_binaryOp_repeat_ref () (_,e,V) (λs'=>typeIs_int s' k t) noFill_list_mul F.fills_int_mul F.slot_int_rmul repeat_list F.slot_int_index.lookup
  (call_meets F.slot_int_rmul (typeIs_int s k t) F.entry_int_rmul (F.args_int_rmul_2 _ _) (int___rmul___int_list k t l its.toArray n)
   (e,V,(_,e,V),call_meets F.slot_list_mul (_,e,V) F.entry_list_mul (F.args_list_mul_2 _ _) (AutoListH.list___mul___list_int_3 l its.toArray n k t hfit hcap hlong) (e,?_)))
 rw[hnew];exact(.ref _,_,I.lnew (t':=s.toks) (r.rep k.toNat) (by rw[zgB,uQ];exact hz),V,q _ I.fresh)
end
end L2
namespace Att
open PySem PySem.W PySem.Calls PyProof.Rows
def Zd:∀ ns vs,WellAll P h vs (ns.map WData.int)->IntsAre vs ns:=by
 intro ns
 induction ns with
 | nil =>
  intro vs w;rw[List.map_nil]at w;cases w;exact .nil
 | cons n ns ih =>
  intro vs w;rw[gm]at w;cases w with
  | cons a b =>
   cases a;exact .cons _ _ (ih _ b)
def zdv{l:OpenLaw}(hn:l.most=some n)
  (hpre:l.row.toRowW.claim.pre args=true) (hwl:WellAll P h vals args) :
  ∃ a vs ns,vals=[Value.ref a]/\args=[WData.list (ns.map WData.int)]/\h.get? a=some { cls:=.type "list",data:=.seq vs.toArray }/\IntsAre vs ns/\ns.length<=n:=by
 have hsh:=(pre_splitW hpre).1;have hc:l.pre.holds [] { args:=args }=true:=(pre_splitW hpre).2;obtain⟨d,r,rfl,h1,h2⟩:=hasAllW_cons hsh;obtain rfl:=hasAllW_nil h2;obtain⟨xs,rfl,h3⟩:=hasW_list h1;obtain⟨ns,rfl⟩:=items_int h3;have hlen:ns.length<=n:=by
  unfold OpenLaw.pre at hc;have h4:(WTm.not (.lt (.lit (.int (n:Int))) (.len (.arg 0)))).holds [] { args:=[.list (ns.map .int)] }=true:=by
   have h4:=(holds_andW hc).1;rw[hn]at h4;exact h4
  have h5:=condW_of h4 (w_not (w_lt w_lit (w_len_list (w_arg rfl))));rw[wc]at h5;refine wbo λq=>?_
  have q':n <(ns.length:Int):=by omega
  first
   | (rw[br q']at h5;exact bw h5 ())
   | (simp at h5;omega)
 cases hwl with
 | cons w1 w2 =>
  cases w2;cases w1 with
  | list ho hall=>exact(_,_,ns,V,V,ho,Zd ns _ hall,hlen)
def zdK(l:OpenLaw) args:l.row.toRowW.claim.post args (.bool true) args=true :=
 postW_of
  (show WShape.has [] (.bool true) .bool=true by first|rfl|decide|simp[WShape.has,WShape.arms,WShape.armsAll])
  (show(WTm.eq .res (.lit (.bool true))).value [] { args:=args,res:=some (.bool true),after:=args }=some (.bool (true == true))from w_eq_bool (w_res rfl) w_lit) rfl
def Qn{l:OpenLaw}{n:Nat}{q:cf}{loose:List Str}{XP:(Str->Option ca)->Heap->Prop}{YP:ce->Heap->Prop}{d:DefRec}
  (hn:l.most=some n) (hdf:d.params.defaults=[])
  (call:∀(w:ce)(s₀ s₁:Shared)(mg mb:Str->Option ca)(fa:Addr)(o:Obj)(pm cd doc:ca)(a:Addr)(vs:List ca)(ns:List Int),
   Ground q loose [] XP w s₀ mg mb s₁.heap->YP w s₁.heap ->
   s₁.heap.get? fa=some o->o.data=.func (docDef d.name d.params d.body d.scope pm cd doc)->s₁.heap.CodeRec cd d.name->mg d.name=some (.ref fa) ->
   s₁.heap.get? a=some { cls:=.type "list",data:=.seq vs.toArray }->IntsAre vs ns->ns.length<=n->s₁.gens=#[] ->
   codeAny (cr l.prog w) callerA (.call (.ref fa) ([.ref a],[])) (λr s'=>r=.ok (.ret (.bool true))/\OldK s₁.heap s'.heap/\s'.os=s₁.os/\AllBare s'.gens) s₁) :
  WalkO q loose XP YP l.row.toRowW d [] (λf vs=>PySem.call f vs):=by
 intro w s₀ s₁ mg mb G Y fa o pm cd doc dV kV ho hd hcd hD hmg hg args vals as hpre hlay hrd hwl hlo;obtain rfl:dV=.none:=Dflts.none hD hdf;obtain rfl:kV=.none:=Dflts.noKw hD;obtain⟨a,vs,ns,rfl,rfl,hobj,hints,hlen⟩:=zdv hn hpre hwl;refine enter_call (codeAny_mono (call w s₀ s₁ mg mb fa o pm cd doc a vs ns G Y ho (fd_plain hd) hcd hmg hobj hints hlen hg) λr s' hq=>?_);obtain⟨rfl,h2,h3,h4⟩:=hq;exact(.inl (.bool true,.bool true,[],V,λ_=>rfl,.bool true,zdK l _,λ_=>(List.Pairwise.nil,λ_ hm=>(nomatch hm))),h2,h3,h4)
end Att
namespace L2
open PySem PySem.Spec PyProof.Rows
def Jj:∀ {vs:List ca} {ns:List Int},IntsAre vs ns->Vals (ns.map V.int) vs
 | _,_,.nil=>.nil
 | _,_,.cons n t h=>.cons (t,V) (Jj h)
def Only(H:Hp):Prop:=∀ b,H b=none\/∃ o xs,H b=some (.frz o (.lst xs))
def zeC{P:cf}{w:ce}{K:bh}{mg mb:Str->Option ca}{CX:CXT}{k:Nat}{fa a:Addr}{fd:cS}{x:Str}{sp:Sp}{s₁:Shared}{vs:List ca}{ns:List Int}
  (KX:K.In s₁.heap) (hns:s₁.heap.Ns cg mg) (hb:s₁.heap.Ns builtinsNs mb) (hbb:∀ x:Str,x ≠ "__name__" -> mb x=cj x) (hlim:s₁.heap.NoLimit) (hSe:s₁.heap.NoSeer) (hg:s₁.gens=#[])
  (ha:s₁.heap.get? a=some { cls:=.type "list",data:=.seq vs.toArray }) (hi:IntsAre vs ns) (hl:ns.length<=sizeLine) (U:Room k callerA)
  (F:∀ base:Heap,K.In base->base.Ns cg mg->base.NoSeer->FnOk P w K mg base CX k fa fd [x] sp) (hbind:∀(s:Shared)(u:ca),BindsTo s fd ([u],[]) [(x,u)])
  (hsp:∀ H:Hp,Only H->SqL K H a (ns.map V.int)->sp [.ref a] H (λv _=>v=.bl true) λ_ _ _=>False)
  (hCX:∀ H e s',CX [] H s₁ (λ_ _ _=>False) e s'->False) :
  codeAny (cr P w) callerA (.call (.ref fa) ([.ref a],[])) (λr s'=>r=.ok (.ret (.bool true))/\OldK s₁.heap s'.heap/\s'.os=s₁.os/\AllBare s'.gens) s₁:=by
 have rv:=Jj hi;have lenV:=hi.length;have core:∀ H:Hp,Only H->SqL K H a (ns.map V.int)->HOk P w H s₁.heap->(∀ b,H b≠none->b=a)->(H a≠none->K.lookup a=none) ->
   codeAny (cr P w) callerA (.call (.ref fa) ([.ref a],[])) (λr s'=>r=.ok (.ret (.bool true))/\OldK s₁.heap s'.heap/\s'.os=s₁.os/\AllBare s'.gens) s₁:=by
  intro H hO hS hok hA hK;have base_of:∀ {b:Addr} {o:Obj},s₁.heap.get? b=some o->H b=none->(hidT s₁.heap H).get? b=some o:=λe n=>zfE e n
  have noA:∀ {b:Addr} {o:Obj} {es:Array DictEntry} {ep:Nat},s₁.heap.get? b=some o->o.data=.dict es ep->H b=none:=λ{b o es ep} e d=>by
   cases q:H b with
   | none=>rfl
   | some u =>
    have e':= hA b (by rw[q];simp);subst e';rw[ha]at e;cases e;have d':= d;cases d'
  have nsK:∀ {b:Addr} {m:Str->Option ca},s₁.heap.Ns b m->(hidT s₁.heap H).Ns b m:=λ{b m} ⟨o,es,ep,e,d,r⟩=>(o,es,ep,base_of e (noA e d),d,r)
  have hKb:= λb o e=>base_of (KX b o e) (by
   cases q:H b with
   | none=>rfl
   | some u =>
    have e':= hA b (by rw[q];simp);subst e';rw[hK (by rw[q];simp)]at e;cases e)
  have hM:Mod K mg (hidT s₁.heap H):=(hKb,nsK hns,(mb,nsK hb,hbb),let ⟨mc,h1,h2⟩:=hlim;(mc,nsK h1,h2));have e0:Env0 P w K mg (hidT s₁.heap H) callerA [] s₁ H:=(V,hM,λb o e=>zgN e,gM (zcW _ _),trivial,λb hb=>bw (show b∈([]:List Addr)from hb) (by simp),hok,.of_eq hg);have hSb:(hidT s₁.heap H).NoSeer:=((let ⟨mc,h1,h2⟩:=hSe.statics;(mc,nsK h1,h2)),(let ⟨mc,h1,h2⟩:=hSe.mods;(mc,nsK h1,h2)),(let ⟨mc,h1,h2⟩:=hSe.imp;(mc,nsK h1,h2)),by
   obtain⟨m',bm,ob,h1,h2,h3,h4,h5⟩:=hSe.main;refine(m',bm,ob,nsK h1,h2,base_of h3 ?_,h4,h5);cases q:H bm with
   | none=>rfl
   | some u =>
    have e':= hA bm (by rw[q];simp);subst e';rw[ha]at h3;cases h3;exact bw h4 (by simp))
  refine codeAny_mono ((F _ hKb (nsK hns) hSb).run callerA [] s₁ H ([.ref a],[]) [.ref a] [.ref a] _ _ U e0 (hbind s₁ (.ref a)) (.cons rfl .nil) (hsp H hO hS)) λr s' h=>?_
  cases r with
  | error e=>exact(hCX H e s' h).elim
  | ok fl =>
   cases fl with
   | next=>exact False.elim h
   | brk=>exact False.elim h
   | cont=>exact False.elim h
   | ret u =>
    obtain⟨v,H',os,bare,un,hok',r',q⟩:=h;have q':= q;subst q';obtain rfl:u=Value.bool true:=r';refine(V,OldK.of_keep λb o e=>?_,os,bare);cases q:H b with
    | none=>exact un.keep b o e q (by intro z;exact bw (show b∈([]:List Addr)from z) (by simp)) (by simp)
    | some u =>
     rcases hO b with z|⟨ob,xs,z⟩
     ·rw[q]at z;cases z
     ·have z2:=un.frzs b ob _ z;obtain⟨e1,_⟩:=hok b _ z;obtain⟨e2,_⟩:=hok' b _ z2;rw[e]at e1;cases e1;exact e2
 cases J:K.lookup a with
 | some o =>
  have e:=KX a o J;rw[ha]at e;cases e;refine core (λ_=>none) (λ_=>.inl rfl) (.inr (_,vs.toArray,_,J,V,V,V,by rw[wV,lenV];exact hl,by simpa using rv)) (λb u z=>by have z':= z;cases z') (λb z=>bw rfl z) λz=>bw rfl z
 | none =>
  refine core (λb=>if b=a then some (.frz { cls:=.type "list",data:=.seq vs.toArray } (.lst (ns.map V.int)))else none) (λb=>?_) (.inl (.inr ({ cls:=.type "list",data:=.seq vs.toArray },bj rfl))) (λb u z=>?_) (λb z=>?_) λ_=>J
  ·by_cases hb:b=a
   ·exact .inr (_,_,bj hb)
   ·exact .inl (bn hb)
  ·by_cases hb:b=a
   ·have z':=(bj hb).symm.trans z;cases z';subst hb;exact(ha,by rw[wc];exact hl,vs,_,rv,ha)
   ·have z':=(bn hb).symm.trans z;cases z'
  ·by_cases hb:b=a
   ·exact hb
   ·exact bw (bn hb) z
def kat(s:Stmt):Arguments:=match s with
 | .FunctionDef _ a _ _ _ _ _ _ _ _=>a
 | _=>{ posonlyargs:=[],args:=[],vararg:=none,kwonlyargs:=[],kw_defaults:=[],kwarg:=none,defaults:=[] }
def kaq(s:Stmt):List Stmt:=match s with
 | .FunctionDef _ _ b _ _ _ _ _ _ _=>b
 | _=>[]
def kae(s:Stmt):Scope:=match s with
 | .FunctionDef _ _ _ _ _ _ sc _ _ _=>sc
 | _=>{ kind:=.function,names:=[],isGenerator:=false,isCoroutine:=false }
abbrev CX0:CXT:=λ_ _ _ _ _ _=>False
abbrev E0:XK:=λ_ _ _=>False
def pass0:Passes CX0 X E0:=λ_ _ _ _ _ _ _ h=>h.elim
structure Fun(K:bh)(x qual:Str)(st:Stmt)(f:Addr)(fd:cS):Prop where
 ex:∃(oc:ca)(od:Option Addr)(kV doc pm:ca)(an:Option Addr)(cdv ct:ca)(osl:Array (Option ca)),
  fd=PySem.W.fnOf x qual (kat st) (kaq st) (kae st) .none kV doc pm an cdv ct/\K.lookup f=some (oc,od,.func fd,osl)/\PySem.W.codeIn K cdv qual=true
 kp:PySem.W.keepIn K (.ref f)=true
section
variable{K:bh}
def Fun.ok{x qual:Str}{st:Stmt}{f:Addr}{fd:cS}{N ps:List Str}{k:Nat}{sp:Sp}(F:Fun K x qual st f fd)(S:kav N ps (kae st))(len:∀ vs H Q E,sp vs H Q E->vs.length=ps.length)
  (hbody:∀(cdv:ca)(A:cm)(outer:List Env)(s:Shared)(H:Hp)(vs:List V)(Q:VK)(E:XK),Room k (A.deeper (envOfC qual (kae st) s.heap.objs.size f cdv))->sp vs H Q E ->
   ∃ t,PSs (cxOf CX0 P w K mg base N qual (kae st) f cdv A outer s H E).nox (kaq st) t/\t { nx:=λ_ H'=>Q .non H',rt:=Q } (start N vs) H):FnOk P w K mg base CX0 (k+1) f fd ps sp:=by
 obtain⟨oc,od,kV,doc,pm,an,cdv,ct,osl,rfl,lk,hcd⟩:=F.ex;refine zkd lk hcd S len λA outer s H vs Q E U hsp=>?_
 obtain⟨t,h,q⟩:=hbody cdv A outer s H vs Q E U hsp;exact(t,h.nox,q)
def Fun.binds{x qual:Str}{st:Stmt}{f:Addr}{fd:cS}{ps:List Str}(F:Fun K x qual st f fd)
  (h:∀(kV doc pm:ca)(an:Option Addr)(cdv ct:ca)(us:List ca),us.length=ps.length->cT (PySem.W.fnOf x qual (kat st) (kaq st) (kae st) .none kV doc pm an cdv ct) (us,[])=pure (ps.zip us)):Binds K fd ps []:=by
 obtain⟨oc,od,kV,doc,pm,an,cdv,ct,osl,rfl,lk,hcd⟩:=F.ex;exact .all (h kV doc pm an cdv ct)
def zgn{st:Stmt}{kV doc pm cdv ct:ca}(l:K.lookup f=some (oc,od,.func (PySem.W.fnOf x qual (kat st) (kaq st) (kae st) .none kV doc pm an cdv ct),osl))
  (c:PySem.W.codeIn K cdv qual=true) (k:PySem.W.keepIn K (.ref f)=true):Fun K x qual st f (PySem.W.fnOf x qual (kat st) (kaq st) (kae st) .none kV doc pm an cdv ct):=((oc,od,kV,doc,pm,an,cdv,ct,osl,V,l,c),k)
end
def iteF{A B:Prop}(h:B):if false=true then A else B:=by
 rw[bn vg];exact h
def iteT{A B:Prop}(h:A):if true=true then A else B:=by
 rw[bj rfl];exact h
def ite2{c A B:Prop}[Decidable c](h1:c->A)(h2:¬ c->B):if c then A else B:=by
 by_cases h:c
 ·rw[bj h];exact h1 h
 ·rw[bn h];exact h2 h
def Same(H H':Hp):Prop:=∀ b o,H b=some o->H' b=some o
def Same.refl H:Same H H:=λ_ _ h=>h
def Same.trans(a:Same H H1)(b:Same H1 H2):Same H H2:=λc o h=>b c o (a c o h)
end L2
namespace Nm
def primeB(n:Nat):Bool:=decide (1<n) && (wQ n).all λd=>decide (d<2) || decide (n % d≠0)
structure PrS(k:Int):Prop where
 lo:1<k
 hi:k<99
 pr:primeB k.toNat=true
structure Pr(k:Int):Prop where
 lo:1<k
 hi:k<2305843009213693952
 cp:∀ r:Int,0<r->r<k->vH k r=1
def kab(k:Int):Prop:=k=0\/Pr k
def KindS(k:Int):Prop:=k=0\/PrS k
theorem kab.lt(h:kab k):0<=k/\k<2305843009213693952:=by
 rcases h with h|h
 ·omega
 ·have:=h.lo;have:=h.hi;omega
def YZ:∀ k<99,primeB k=true->∀ r<k,0<r->gC k r=1:=by decide +kernel
def PrS.big(h:PrS k):Pr k:=by
 refine(h.lo,by have:=h.hi;omega,λr h0 h1=>?_);have:=YZ k.toNat (by have:=h.hi;omega) h.pr r.toNat () ();have e1:k.natAbs=k.toNat:=by omega
 have e2:r.natAbs=r.toNat:=by omega
 rw[gv,e1,e2];exact this
def KindS.ok(h:KindS k):kab k:=h.imp id PrS.big
def Pr.cop(h:Pr k)(h0:0<r)(h1:r<k):vH k r=1:=h.cp r h0 h1
def QI(a b:Int):vH b (a.fmod b)=vH a b:=by
 rw[wbD,Int.gcd_sub_mul_left_right,wbE]
def zbg(a:Int)(hb:b≠0):(a.fmod b).natAbs<b.natAbs:=by
 rcases Gp 0 b with h|h
 ·have h1:=wI a h;have h2:=wW a h;omega
 ·have hb':0 < -b:=by omega
  have h1:=wI (-a) hb';have h2:=wW (-a) hb';have e:(-a).fmod (-b) = -(a.fmod b):=by
   rw[Int.neg_fmod_neg]
  omega
end Nm
namespace Nm
structure OvInv(p r l g ml mg:Int):Prop where
 l0:0<=l
 l1:l<2305843009213693952
 g0:0<=g
 g1:g<2305843009213693952
 cop:vH l g=1
 left:p ∣ l - ml*r
 right:p ∣ g - mg*r
def zbf(h:Pr p)(h0:0<r)(h1:r<p):OvInv p r p r 0 1:=by
 have:=h.lo;have:=h.hi;refine((),(),(),(),h.cop h0 h1,?_,?_)
 ·rw[wbF,Int.sub_zero];exact wbG p
 ·rw[wbO,Int.sub_self];exact wa6 p
def zd6(h:OvInv p r l g ml mg)(hg:g≠0):OvInv p r g (l - l / g*g) mg (ml - l / g*mg):=by
 have g0:=h.g0;have g1:=h.g1;have e:l - l / g*g=l % g:=by
  have:=Gh l g;rw[wbH (l / g) g];omega
 have m0:=wad l hg;have m1:=Gc l (show 0<g by omega);refine(g0,g1,(),(),?_,h.right,?_)
 ·rw[Int.gcd_sub_mul_right_right,wbE];exact h.cop
 ·have e2:l - l / g*g - (ml - l / g*mg)*r =(l - ml*r) - l / g *(g - mg*r):=by grind
  rw[e2];exact wbp h.left (GA h.right)
def zbZ{l g:Int}(g0:0<=g)(hg:g≠0):(l - l / g*g).toNat<g.toNat:=by
 have e:l - l / g*g=l % g:=by
  have:=Gh l g;rw[wbH (l / g) g];omega
 have m1:=Gc l (show 0<g by omega);omega
def zfG(h:OvInv p r l 0 ml mg)(C:0<p):p ∣ ml % p*r - 1:=by
 have c:=h.cop;rw[wa7]at c;have e:l=1:=by have:=h.l0;omega
 have d:=h.left;rw[e]at d;have e1:ml % p*r - 1 = -(1 - ml*r) - p *(ml / p)*r:=by
  have:=Gh ml p
  grind
 rw[e1];exact wbp (Int.dvd_neg.mpr d) (Int.dvd_mul_of_dvd_left (wbf p _))
def sg(t b:Int):Int:=if b<0 then -((vH t b:Nat):Int)else((vH t b:Nat):Int)
def zeW(hb:b≠0):sg t b≠0:=by
 have:=waj t hb;unfold sg;split <;> omega
def zjH t b:(sg t b).natAbs=vH t b:=by
 unfold sg;split <;> omega
def jZ t b:sg t b ∣ t:=by
 unfold sg;split
 ·exact wbP.mpr (Gr t b)
 ·exact Gr t b
def jK t b:sg t b ∣ b:=by
 unfold sg;split
 ·exact wbP.mpr (GL t b)
 ·exact GL t b
def zd9{t b:Int}(hb:b≠0)(h:q.num*b=t*q.den):ul t b=q:=by
 rw[← GC q];have hd:(q.den:Int)≠0:=by have:=q.den_nz;omega
 rw[wau hb hd];omega
def qO(hb:b≠0):t.fdiv (sg t b) =(ul t b).num/\b.fdiv (sg t b) =((ul t b).den:Nat):=by
 rw[ur (jZ t b),ur (jK t b)];have et:=gw (jZ t b);have eb:=gw (jK t b);have hpos:0<b / sg t b:=by
  have hne:b / sg t b≠0:=λz=>by rw[z,wbF]at eb;exact hb eb.symm
  rcases Gp b 0 with h|h
  ·have e:sg t b = -((vH t b:Nat):Int):=by unfold sg;rw[bj h]
   have:0<=b / sg t b:=Int.ediv_nonneg_of_nonpos_of_nonpos () ();omega
  ·have e:sg t b =((vH t b:Nat):Int):=by unfold sg;rw[bn ()]
   have:0<=b / sg t b:=wbv () ();omega
 have hcop:vH (t / sg t b) (b / sg t b)=1:=by
  rw[wbI (jZ t b) (jK t b),zjH];exact wbJ (waj t hb)
 let q:Rat:=(t / sg t b,(b / sg t b).toNat,(),by
  have:(b / sg t b).toNat =(b / sg t b).natAbs:=by omega
  rw[this];exact hcop)
 have hq:ul t b=q:=zd9 hb (by
  have e:(((b / sg t b).toNat:Nat):Int)=b / sg t b:=by omega
  rw[e];have:t / sg t b*b=t / sg t b *(b / sg t b*sg t b):=by rw[eb]
  have:t *(b / sg t b)=t / sg t b*sg t b *(b / sg t b):=by rw[et]
  grind)
 rw[hq];refine(V,?_);show b / sg t b =(((b / sg t b).toNat:Nat):Int);omega
def QA x y:ul (x.num*y.den+y.num*x.den) (x.den*y.den)=x+y:=by
 rw[Rat.add_def',← wav];simp
def JX x y:ul (x.num*y.den - y.num*x.den) (x.den*y.den)=x - y:=by
 rw[Rat.sub_def',← wav];simp
def QE x y:ul (x.num*y.num) (x.den*y.den)=x*y:=by
 rw[Rat.mul_def',← wav];simp
def zd3 x y:ul (x.num*y.den) (x.den*y.num)=x / y:=by
 rw[Rat.div_def,wbQ,← GC x,waO];simp[GC]
end Nm
namespace L2
open PySem PySem.Spec PyProof.Rows
def zjr:cj "len" = some (.builtin "len"):=by decide +kernel
def zjl:cj "abs" = some (.builtin "abs"):=by decide +kernel
def YJ:cj "isinstance" = some (.builtin "isinstance"):=by decide +kernel
def zjq:cj "sum" = some (.builtin "sum"):=by decide +kernel
def ziz:cj "max" = some (.builtin "max"):=by decide +kernel
def zca:cj "sorted" = some (.builtin "sorted"):=by decide +kernel
def zgq:cj "int" = some (.type "int"):=by decide +kernel
def zg3:cj "bool" = some (.type "bool"):=by decide +kernel
def Qr:cj "list" = some (.type "list"):=by decide +kernel
def zay:cj "tuple" = some (.type "tuple"):=by decide +kernel
def zh9:cj "zip" = some (.type "zip"):=by decide +kernel
def Sm(n:Nat)(x:Int):Prop:=x.natAbs<2^n
def Sm.bits(h:Sm n x):Builtin.Int.intBits x<=n:=by
 unfold Builtin.Int.intBits
 split
 ·exact vD _
 ·rename_i h0;have h0':x.natAbs≠0:=by
   intro z;have e:x=0:=by omega
   rw[e]at h0;exact h0 rfl
  have:=(Nat.log2_lt h0').mpr h;omega
def Sm.mulOk(ha:Sm m a)(hb:Sm n b)(h:m+n<=134217728):IntMulOk a b:=IntMulOk.of_le ha.bits hb.bits h
def Sm.mono(h:Sm m x)(hmn:m<=n):Sm n x:=vw h (vI () hmn)
def Sm.mul(ha:Sm m a)(hb:Sm n b):Sm (m+n) (a*b):=by
 unfold Sm;rw[vS,uF];exact waw ha hb
def Sm.add(ha:Sm n a)(hb:Sm n b):Sm (n+1) (a+b):=by
 unfold Sm at *;rw[Gq];have:=war a b;omega
def Sm.sub(ha:Sm n a)(hb:Sm n b):Sm (n+1) (a - b):=by
 unfold Sm at *;rw[Gq];have:=wbg a b;omega
def Sm.neg(ha:Sm n a):Sm n (-a):=by
 unfold Sm at *;rw[Int.natAbs_neg];exact ha
def Sm.le(ha:Sm n a)(h:b.natAbs<=a.natAbs):Sm n b:=uX h ha
section
variable{pos:Pos}
def zK:OpR X (cP .Mult) (rI IntMulOk λi j=>.int (i*j)):=opI λ_ _ _ _ _ _ _ hc q=>mul_int q hc
def rIsi(K:bh):List V->Hp->VK->Prop:=λxs H Q=>∃ x n t b,xs=[x,.ty n]/\TyOf K H x t/\PySem.W.kitOne K t (.type n)=some b/\Q (.bl b) H
def zfu:kau X (.builtin "isinstance") (rIsi X.K):=by
 intro pins s L H xs us Q I r h;obtain⟨x,n,t,b,rfl,ty,e,q⟩:=h;obtain⟨u,w',rfl,r1,r2⟩:=Vals.two r;cases r2;exact zc6 I r1 ty e λtk=>(.bl b,H,I.tok tk,V,q)
def zep (hg:Gl X x) (hm:X.mg x=none) (hv:cj x=some (.type n)) (hn:x ≠ "__name__" := by decide) (hd:(x ==("__debug__" : Str))=false:=by decide):PE X (.Name x pos) (tC (.ty n)) :=
 zhm hg hm hv rfl hn hd
end
structure Kn(P:cf)(w:ce)(K:bh)(mg:Str->Option ca)(base:Heap)(x:Str)(k:Nat)(ps:List Str)(sp:Sp):Prop where
 ex:∃(f:Addr)(fd:cS),FnOk P w K mg base CX0 k f fd ps sp/\mg x=some (.ref f)/\PySem.W.keepIn K (.ref f)=true/\Binds K fd ps []
def zkb{p pos:Pos}(bE:Kn X.prog X.w X.K X.mg X.base x k ps sp)(U:Room k X.A)(hg:Gl X x)(ha:PA X (e::es) t)
  (hdb:(x ==("__debug__" : Str))=false:=by decide) (he:cv (e::es) X.env =(false,eval e X.env)::cv es X.env:=by rfl) (hpl:(cu pos (cv es X.env)).any (·.1)=false:=by rfl) :
  PE X (.Call (.Name x p) (e::es) [] pos) (tCall sp [] E0 t):=by
 obtain⟨f,fd,F,hm,J,hb⟩:=bE.ex;exact zhi F U hg hm J hb .nil pass0 ha hdb he hpl
structure Df(K:bh)(mg:Str->Option ca)(x:Str)(ps:List Str)(st:Stmt):Prop where
 ex:∃(f:Addr)(fd:cS),Fun K x x st f fd/\mg x=some (.ref f)/\Binds K fd ps []
section
variable{K:bh}
def Df.kn{st:Stmt}(bE:Df K mg x ps st)(S:kav N ps (kae st))(len:∀ vs H Q E,sp vs H Q E->vs.length=ps.length)
  (hbody:∀ f cdv A outer s H vs Q E,Room k (A.deeper (envOfC x (kae st) s.heap.objs.size f cdv))->sp vs H Q E ->
   ∃ t,PSs (cxOf CX0 P w K mg base N x (kae st) f cdv A outer s H E).nox (kaq st) t/\t { nx:=λ_ H'=>Q .non H',rt:=Q } (start N vs) H):Kn P w K mg base x (k+1) ps sp:=by
 obtain⟨f,fd,F,hm,hb⟩:=bE.ex;exact(f,fd,F.ok S len (λcdv A outer s H vs Q E U h=>hbody f cdv A outer s H vs Q E U h),hm,F.kp,hb)
def zjP{st:Stmt}{kV doc pm cdv ct:ca}(X:K.In h)(G:h.Ns cg mg)
  (a:PySem.W.nsIn K cg x=some (some (.ref f)))
  (l:K.lookup f=some (oc,od,.func (PySem.W.fnOf x x (kat st) (kaq st) (kae st) .none kV doc pm an cdv ct),osl))
  (c:PySem.W.codeIn K cdv x=true) (k:PySem.W.keepIn K (.ref f)=true)
  (hb:∀ kV doc pm an cdv ct us,us.length=ps.length->cT (PySem.W.fnOf x x (kat st) (kaq st) (kae st) .none kV doc pm an cdv ct) (us,[])=pure (ps.zip us)):Df K mg x ps st:=by
 have F:=zgn l c k;exact(f,_,F,PySem.W.mg_of X G a,F.binds hb)
end
def bind1{ps:List Str}(h:∀ a0,cT fd ([a0],[])=pure (ps.zip [a0])) us (e:us.length=1):cT fd (us,[])=pure (ps.zip us):=by
 match us,e with | [a0],_=>exact h a0
def bind2{ps:List Str}(h:∀ a0 a1,cT fd ([a0,a1],[])=pure (ps.zip [a0,a1])) us (e:us.length=2):cT fd (us,[])=pure (ps.zip us):=by
 match us,e with | [a0,a1],_=>exact h a0 a1
def bind3{ps:List Str}(h:∀ a0 a1 a2,cT fd ([a0,a1,a2],[])=pure (ps.zip [a0,a1,a2])) us (e:us.length=3):cT fd (us,[])=pure (ps.zip us):=by
 match us,e with | [a0,a1,a2],_=>exact h a0 a1 a2
def bind4{ps:List Str}(h:∀ a0 a1 a2 a3,cT fd ([a0,a1,a2,a3],[])=pure (ps.zip [a0,a1,a2,a3])) us (e:us.length=4):cT fd (us,[])=pure (ps.zip us):=by
 match us,e with | [a0,a1,a2,a3],_=>exact h a0 a1 a2 a3
def bind5{ps:List Str}(h:∀ a0 a1 a2 a3 a4,cT fd ([a0,a1,a2,a3,a4],[])=pure (ps.zip [a0,a1,a2,a3,a4])) us (e:us.length=5):cT fd (us,[])=pure (ps.zip us):=by
 match us,e with | [a0,a1,a2,a3,a4],_=>exact h a0 a1 a2 a3 a4
def spLaw(K:bh):Sp:=λvs H Q _=>∃(a:Addr)(ns:List Int),vs=[.ref a]/\SqL K H a (ns.map V.int)/\ns.length<=63/\∀ H',Q (.bl true) H'
def zc(h:H p=none) o:Same H (upd H p o):=λb u q=>by rw[zE (zR q h)];exact q
def ziu {K:bh} {st:Stmt} {kV doc pm cdv ct:ca} (X:K.In h) (G:h.Ns cg mg) (hmg:mg "law" = some (.ref fa))
  (a:PySem.W.nsIn K cg "law" = some (some (.ref f)))
  (l:K.lookup f=some (oc,od,.func (PySem.W.fnOf "law" "law" (kat st) (kaq st) (kae st) .none kV doc pm an cdv ct),osl))
  (c:PySem.W.codeIn K cdv "law" = true) (k:PySem.W.keepIn K (.ref f)=true)
  (hb:∀ kV doc pm an cdv ct v,cT (PySem.W.fnOf "law" "law" (kat st) (kaq st) (kae st) .none kV doc pm an cdv ct) ([v],[])=pure [(("_law_script" : Str),v)]) :
  ∃ fd:cS,Fun K "law" "law" st fa fd/\∀ s v,BindsTo s fd ([v],[]) [("_law_script",v)]:=by
 have e:=hmg.symm.trans (PySem.W.mg_of X G a);cases e;exact(_,zgn l c k,λs v=>.of_eq (hb _ _ _ _ _ _ v))
def fragFrom:Nat->List Obj->bh
 | _,[]=>[]
 | i,o::r=>match o.data with
  | .freed=>fragFrom (i+1) r
  | _=>(i,o)::fragFrom (i+1) r
def fragH(h:Heap):bh:=fragFrom 0 h.objs.toList
def ZD:∀ l (i a:Nat) o,(fragFrom i l).lookup a=some o->∃ j,a=i+j/\l[j]?=some o/\(∀ c d sl,o≠(c,d,.freed,sl))
 | [],i,a,o,h=>by cases h
 | p::r,i,a,o,h=>by
  unfold fragFrom at h;have go:(fragFrom (i+1) r).lookup a=some o->∃ j,a=i+j/\(p::r)[j]?=some o/\(∀ c d sl,o≠⟨c,d,.freed,sl⟩):=λh=>by
   obtain⟨j,e,e',n⟩:=ZD r (i+1) a o h;exact(j+1,(),by simpa using e',n)
  split at h
  ·exact go h
  ·rename_i hf;rw[wax]at h
   split at h
   ·rename_i e;cases h;have e:a=i:=by simpa using e
    exact(0,(),by simp,λc d sl e=>hf (by rw[e]))
   ·exact go h
def zfr h:(fragH h).In h:=λa o e=>by
 obtain⟨j,rfl,e',n⟩:=ZD _ _ _ _ e;unfold Heap.get?;have e'':h.objs[0+j]?=some o:=by
  rw[waF]
  simpa using e'
 rw[e''];obtain⟨c,d,dt,sl⟩:=o;cases dt <;> first|rfl|exact bw rfl (n _ _ _)
def fnSh(K:bh)(x:Str):Option (cS×Bool×Bool):=match PySem.W.nsIn K cg x with
 | some (some (.ref f))=>(match K.lookup f with
  | some ⟨_,_,.func fd,_⟩=>some ({ fd with kwdefaults:=.none,doc:=.none,pyModule:=.none,annotations:=none,code:=.none,closureTuple:=.none },PySem.W.codeIn K fd.code x,PySem.W.keepIn K (.ref f))
  | _=>none)
 | _=>none
def fnEx(x:Str)(st:Stmt):Option (cS×Bool×Bool):=some (PySem.W.fnOf x x (kat st) (kaq st) (kae st) .none .none .none .none none .none .none,true,true)
def zcI{K:bh}{st:Stmt}(e:fnSh K x=fnEx x st):∃(f:Addr)(oc:ca)(od an:Option Addr)(osl:Array (Option ca))(kV doc pm cdv ct:ca),
  PySem.W.nsIn K cg x=some (some (.ref f))/\K.lookup f=some (oc,od,.func (PySem.W.fnOf x x (kat st) (kaq st) (kae st) .none kV doc pm an cdv ct),osl) /\
  PySem.W.codeIn K cdv x=true/\PySem.W.keepIn K (.ref f)=true:=by
 unfold fnSh fnEx at e
 split at e
 ·rename_i f hf
  split at e
  ·rename_i oc od fd osl hl;obtain⟨nm,qn,pa,bo,sc,gl,cl,de,kd,dc,pm,an,co,ct,bi⟩:=fd;simp only[Option.some.injEq,Prod.mk.injEq,FuncData.mk.injEq]at e;obtain⟨⟨rfl,rfl,rfl,rfl,rfl,rfl,rfl,rfl,-,-,-,-,-,-,rfl⟩,e1,e2⟩:=e;exact(f,oc,od,an,osl,kd,dc,pm,co,ct,hf,hl,e1,e2)
  ·cases e
 ·cases e
def ctSh(K:bh)(x:Str):Option Int:=match PySem.W.nsIn K cg x with
 | some (some (.int i _))=>some i
 | _=>none
section
variable{K:bh}
def zkc(X:K.In h)(G:h.Ns cg mg)(e:ctSh K x=some i):∃ t,mg x=some (.int i t):=by
 unfold ctSh at e
 split at e
 ·rename_i j t hn;cases e;exact(t,PySem.W.mg_of X G hn)
 ·cases e
def zjV{st:Stmt}(X:K.In h)(G:h.Ns cg mg)(e:fnSh K x=fnEx x st)
  (hb:∀ kV doc pm an cdv ct us,us.length=ps.length->cT (PySem.W.fnOf x x (kat st) (kaq st) (kae st) .none kV doc pm an cdv ct) (us,[])=pure (ps.zip us)):Df K mg x ps st:=by
 obtain⟨f,oc,od,an,osl,kV,doc,pm,cdv,ct,a,l,c,k⟩:=zcI e;exact zjP X G a l c k hb
def zid {st:Stmt} (X:K.In h) (G:h.Ns cg mg) (hmg:mg "law" = some (.ref fa)) (e:fnSh K "law" = fnEx "law" st)
  (hb:∀ kV doc pm an cdv ct v,cT (PySem.W.fnOf "law" "law" (kat st) (kaq st) (kae st) .none kV doc pm an cdv ct) ([v],[])=pure [(("_law_script" : Str),v)]) :
  ∃ fd:cS,Fun K "law" "law" st fa fd/\∀ s v,BindsTo s fd ([v],[]) [("_law_script",v)]:=by
 obtain⟨f,oc,od,an,osl,kV,doc,pm,cdv,ct,a,l,c,k⟩:=zcI e;exact ziu X G hmg a l c k hb
end
def lawOnly(p:cf):cf:={ p with main:={ p.main with body:=p.main.body.filter λst=>match st with
 | .FunctionDef n ..=>n ==("law" : Str)
 | _=>false } }
def looseOf (p:cf):List Str:=(p.main.scope.names.map (·.1)).filter λn=>!(n ==("law" : Str))
def lawRec (p:cf):DefRec:=match PySem.W.defOf (lawOnly p) "law" with
 | some (d,_)=>d
 | none=>("law",{ posonlyargs:=[],args:=[],vararg:=none,kwonlyargs:=[],kw_defaults:=[],kwarg:=none,defaults:=[] },[],{ kind:=.function,names:=[],isGenerator:=false,isCoroutine:=false },default)
def runT(p:cf)(N:Nat)(w:ce)(os:OsState):Option Shared :=
 PySem.W.Fast.tw14082659384304107361 PySem.W.Fast.tw14364793385576792824 p w 11 (some (.ref 6)) N (PySem.W.boot_heap w.params,#[],PySem.W.boot_drawn,PySem.W.boot_toks,os) (PySem.W.topStub p)
def statT(p:cf)(w:ce)(s₁:Shared):Bool:=PySem.W.staticsOk (importedModules p.main.body) (PySem.W.boot_heap w.params) s₁.heap && PySem.W.namesBound p s₁.heap && PySem.W.gensDone s₁ && PySem.W.laidKept (PySem.W.boot_heap w.params) s₁.heap
def seenT p s:=PySem.W.Fast.tw4187177175401517315 (lawOnly p) (looseOf p) (importedModules p.main.body) (λ_=>true) true s
structure Behind{β:Type}(p:cf)(N:Nat)(lk:bh->β)(val:β):Prop where
 st:∀(w:ce)(os:OsState),(runT p N w os).map (statT p w)=some true
 sn:∀(w:ce)(os:OsState),(runT p N w os).map (seenT p)=some (PySem.W.openGood (lawOnly p) (looseOf p))
 lk:∀(w:ce)(os:OsState),(runT p N w os).map (λs=>lk (fragH s.heap))=some val
def zb1 (w:ce):((PySem.W.boot_heap w.params).isNs cg && (#[]:Array GenState).size == 0)=true/\(PySem.W.boot_heap w.params).objs.size=11/\(PySem.W.boot_heap w.params).nsMap cg "__annotations__" = some (.ref 6):=by
 refine(?_,?_,?_)
 ·kernel_rfl
 ·kernel_rfl
 ·rw[PySem.W.Fast.te8920871248978507458];kernel_rfl
def zdn{N:Nat}(e:PySem.W.opening p=PySem.W.plainProg p.main.scope.names)(hN:Nat.ble 600 N=true)(f:∀ s,fenceModules? p s=some s)
  (h:Behind p N lk val) :
  PySem.W.LeftO p (lawOnly p) (looseOf p) (λ_=>true) (λs=>lk (fragH s.heap)) (λ_=>val) N:=λw=>by
 obtain⟨⟨C,gs,d,k,os⟩,e1,e2⟩:=wY.mp (PySem.W.boot_open e hN f w);obtain⟨rfl,rfl,rfl,rfl⟩ : C=PySem.W.boot_heap w.params/\gs=#[]/\d=PySem.W.boot_drawn/\k=PySem.W.boot_toks:=by simpa using e2
 obtain⟨z1,z2,z3⟩:=zb1 w;have zs:=h.st w os;have zn:=h.sn w os;have zl:=h.lk w os;unfold seenT at zn;unfold runT at zs zn zl;rw[← PySem.W.Fast.te14082659384304107361,← PySem.W.Fast.te14364793385576792824]at zs zn zl;rw[← PySem.W.Fast.te4187177175401517315]at zn;obtain⟨s₁,er,es⟩:=wY.mp zs;rw[er]at zn zl;unfold statT at es;unfold PySem.W.openEnds;rw[e1];show(PySem.W.topFrom treeTable p w N _).map _=_;unfold PySem.W.topFrom;rw[z1,z2,z3,er];show((match PySem.W.staticsOk (importedModules p.main.body) (PySem.W.boot_heap w.params) s₁.heap && PySem.W.namesBound p s₁.heap && PySem.W.gensDone s₁ && PySem.W.laidKept (PySem.W.boot_heap w.params) s₁.heap with|true=>some s₁|false=>none).map _:Option _)=_;rw[es];exact congrArg some (Prod.ext (Option.some.inj zn) (Option.some.inj zl))
theorem zbj (k N:Nat) lk (val:β) (ws:PySem.W.Fast.tw9446332074065402090 l=true) (hl:l.name = "law") (hn:l.most=some 63) (hwr:l.writes=false)
  (e:PySem.W.opening l.prog=PySem.W.plainProg l.prog.main.scope.names) (hN:Nat.ble 600 N=true) (f:∀ s,fenceModules? l.prog s=some s)
  (h:Behind l.prog N lk val)
  (hd:PySem.W.defOf (lawOnly l.prog) "law" = some (lawRec l.prog,[])) (C:l.prog.theDef "law" = some ((lawRec l.prog).params,(lawRec l.prog).body,(lawRec l.prog).scope))
  (J:PySem.W.kwWritten? (lawRec l.prog).params.kwonlyargs (lawRec l.prog).params.kw_defaults=some []) (hdf:(lawRec l.prog).params.defaults=[]) (hnm:(lawRec l.prog).name = "law")
  (ok:(PySem.W.chainsOk (lawOnly l.prog) && PySem.W.opensWell l.prog && (PySem.W.frees l.row.toRowW && l.row.within.isEmpty))=true) (hb:l.prog.bare) (hw:l.row.toRowW.promised) (hi:PyProof.Rows.importsNone (lawOnly l.prog)=true) (U:Room k callerA)
  (F:∀ w mg fa h K,K.In h->lk K=val->h.Ns cg mg->mg "law" = some (.ref fa) ->
   ∃ fd:cS,(∀ s u,BindsTo s fd ([u],[]) [("_law_script",u)])/\∀ base:Heap,K.In base->base.Ns cg mg->base.NoSeer->FnOk l.prog w K mg base CX0 k fa fd ["_law_script"] (spLaw K)):l.Holds:=by
 rw[← PySem.W.Fast.te9446332074065402090]at ws;refine PySem.W.holds_law ws λsaid=>?_
 have hl':l.row.toRowW.name = "law" := hl;refine PySem.W.holds_open (r:=l.row) (q:=lawOnly l.prog) (loose:=looseOf l.prog) (Xt:=λ_=>true) (XP:=λ_ _=>True) (Yf:=λs=>lk (fragH s.heap)) (Ya:=λ_=>val)
  (YP:=λ_ h=>∃ K:bh,K.In h/\lk K=val) (d:=lawRec l.prog) (kwd:=[]) (N:=N) (zdn e hN f h) (λw s e=>(_,zfr _,e)) (λw h h' y kp=>?_) (λ_ _=>True.intro) (λ_ _ _ _ _=>True.intro)
  (by rw[hl'];exact hd) (by rw[hl'];exact C) J (λs _=>PySem.W.recFacts_of (R:=[]) rfl) ?_ said ok hb hw ?_
 ·obtain⟨K,i,q⟩:=y;exact(K,i.keeps kp,q)
 ·show(!l.writes || _)=true;rw[hwr];rfl
 ·refine Att.Qn hn hdf λw s₀ s₁ mg mb fa o pm cd doc a vs ns G Y ho hd hcd hmg hobj hints hlen hg=>?_
  obtain⟨K,KX,q⟩:=Y;rw[hnm]at hmg;obtain⟨fd,hb,hF⟩:=F w mg fa _ K KX q G.T.g hmg;exact zeC KX G.T.g G.T.b G.T.builtins G.T.nolimit (G.T.seer hi) hg hobj hints (wE hlen (by decide)) U hF hb (λH hO hS=>(a,ns,V,hS,hlen,λ_=>rfl)) λH e s' z=>z
abbrev nthS(p:cf)(i:Nat):Stmt:=p.main.body.getD i (.Pass (0,0,0,0))
def isFn:Stmt->Bool
 | .FunctionDef ..=>true
 | _=>false
def dfN:Stmt->Str
 | .FunctionDef n ..=>n
 | _ => ""
def parN(s:Stmt):List Str:=(kat s).args.map (·.arg)
def lcN(s:Scope):List Str:=(s.names.filter λx=>match x.2 with
 | .local=>true
 | .cell=>true
 | _=>false).map (·.1)
inductive LcN:List (Str×cV)->List Str->Prop where
 | nil:LcN [] []
 | loc {x:Str} {r:List (Str×cV)} {N:List Str}:LcN r N->LcN ((x,.local)::r) (x::N)
 | cel {x:Str} {r:List (Str×cV)} {N:List Str}:LcN r N->LcN ((x,.cell)::r) (x::N)
 | glo {x:Str} {r:List (Str×cV)} {N:List Str}:LcN r N->LcN ((x,.globalImplicit)::r) N
def LcN.eq(h:LcN l N):(l.filter λx=>match x.2 with
 | .local=>true
 | .cell=>true
 | _=>false).map (·.1)=N:=by
 induction h with
 | nil=>rfl
 | loc _ ih=>simp[ih]
 | cel _ ih=>simp[ih]
 | glo _ ih=>simp[ih]
def dfsP(p:cf):List (Str×Stmt):=p.main.body.filterMap λs=>match isFn s with
 | true=>some (dfN s,s)
 | false=>none
def ckS(s:Stmt):Bool:=decide ((kae s).kind=.function) && !(kae s).isCoroutine && !(kae s).isGenerator && decide (lcN (kae s)).Nodup && decide ((lcN (kae s)).take (parN s).length=parN s) &&
 (parN s).all (λx=>decide ((kae s).names.lookup x=some .local\/(kae s).names.lookup x=some .cell)) && (kae s).names.all λy=>decide (y.2≠.free)
def ziN(h:ckS s=true):kav (lcN (kae s)) (parN s) (kae s):=by
 unfold ckS at h;simp only[gU,decide_eq_true_eq,Bool.not_eq_true',uN]at h;obtain⟨⟨⟨⟨⟨⟨a,b⟩,c⟩,d⟩,e⟩,f⟩,g⟩:=h;exact(a,b,c,d,e,f,g)
def Xa(h:isFn (nthS p i)=true):(dfN (nthS p i),nthS p i)∈dfsP p:=by
 have m:nthS p i∈p.main.body:=by
  unfold nthS at h ⊢;rw[we]at h ⊢;cases e:p.main.body[i]? with
  | none=>rw[e]at h;cases h
  | some s=>exact wg e
 exact wal.mpr (_,m,by rw[h])
def YL:List Str:=["abs", "all", "any", "bool", "int", "isinstance", "len", "list", "max", "min", "range", "reversed", "sorted", "str", "sum", "tuple", "zip"]
abbrev GP:Int:=2305843009213693951
def cstP (p:cf):List Str:=(p.main.scope.names.map (·.1)).filter (· == "GREAT_PRIME")
abbrev LkT:=List (Option (cS×Bool×Bool))×List (Option (Option ca))×List (Option Int)
def lkP(p:cf)(K:bh):LkT:=((dfsP p).map λx=>fnSh K x.1,YL.map (PySem.W.nsIn K cg),(cstP p).map (ctSh K))
def lvP(p:cf):LkT:=((dfsP p).map λx=>fnEx x.1 x.2,YL.map λ_=>some none,(cstP p).map λ_=>some GP)
def zg4{K:bh}(q:lkP p K=lvP p) i (h:isFn (nthS p i)=true):fnSh K (dfN (nthS p i))=fnEx (dfN (nthS p i)) (nthS p i):=(Gi (f:=λx:Str×Stmt=>fnSh K x.1) (g:=λx=>fnEx x.1 x.2)).mp (congrArg (·.1) q) _ (Xa h)
class Bn (p:cf) where
 w:ce
 K:bh
 mg:Str->Option ca
 base:Heap
 h:Heap
 X:K.In h
 G:h.Ns cg mg
 S:base.NoSeer
 q:lkP p K=lvP p
 k:(dfsP p).all (λx=>ckS x.2)=true
section
variable{p:cf}[B:Bn p]
def zhE(h:isFn (nthS p i)=true):kav (lcN (kae (nthS p i))) (parN (nthS p i)) (kae (nthS p i)):=ziN (uN.mp B.k _ (Xa h))
def bn_m(h:x∈YL):B.mg x=none:=PySem.W.mg_none_of B.X B.G ((Gi (g:=λ_=>some none)).mp (congrArg (·.2.1) B.q) x h)
def bn_c(h:x∈cstP p):∃ t,B.mg x=some (.int GP t):=zkc B.X B.G ((Gi).mp (congrArg (·.2.2) B.q) x h)
def zih(h:isFn (nthS p i)=true)
  (hb:∀ kV doc pm an cdv ct us,us.length =(parN (nthS p i)).length->cT (PySem.W.fnOf (dfN (nthS p i)) (dfN (nthS p i)) (kat (nthS p i)) (kaq (nthS p i)) (kae (nthS p i)) .none kV doc pm an cdv ct) (us,[])=pure ((parN (nthS p i)).zip us)) :
  Df B.K B.mg (dfN (nthS p i)) (parN (nthS p i)) (nthS p i) :=
 zjV B.X B.G (Gi.mp (congrArg (·.1) B.q) _ (Xa h)) hb
variable(p)
abbrev KnI(i k:Nat)(sp:Sp):Prop:=Kn p B.w B.K B.mg B.base (dfN (nthS p i)) k (parN (nthS p i)) sp
variable{p}
def knI i {dl:List Expr}
  (e:nthS p i=.FunctionDef nm ar bo dl rt tp sc ts bi ps)
  (T:(LcN sc.names N\/kav N (ar.args.map (·.arg)) sc)/\∀ f cdv A outer s H E,N.Nodup->Room k (A.deeper (envOfC nm sc s.heap.objs.size f cdv)) ->
   PSs (cxOf CX0 p B.w B.K B.mg B.base N nm sc f cdv A outer s H E).nox bo t)
  (b:∀ vs H Q E,sp vs H Q E->t { nx:=λ_ H'=>Q .non H',rt:=Q } (start N vs) H)
  (hb:∀ kV doc pm an cdv ct us,us.length =(ar.args.map (·.arg)).length->cT (PySem.W.fnOf nm nm ar bo sc .none kV doc pm an cdv ct) (us,[])=pure ((ar.args.map (·.arg)).zip us):=by
   exact λ_ _ _ _ _ _ us hl=>by first|exact bind1 (λ_=>rfl) us hl|exact bind2 (λ_ _=>rfl) us hl|exact bind3 (λ_ _ _=>rfl) us hl|exact bind4 (λ_ _ _ _=>rfl) us hl|exact bind5 (λ_ _ _ _ _=>rfl) us hl|exact bind0 rfl us hl|exact bind6 (λ_ _ _ _ _ _=>rfl) us hl)
  (len:∀ vs H Q E,sp vs H Q E->vs.length =(ar.args.map (·.arg)).length:=by intro _ _ _ _ h;first| (cases h;subst_vars;rfl) | ((repeat (rcases h with⟨_,h⟩));subst_vars;rfl)):KnI p i (k+1) sp:=by
 have hf:isFn (nthS p i)=true:=by rw[e];rfl
 have bE:=zih hf (by rw[e];exact hb);have S:=zhE hf;unfold KnI;rw[e]at bE S ⊢;have S:kav N (ar.args.map (·.arg)) sc:=T.1.elim (λh=>by
  have hN:lcN sc=N:=h.eq;have S:kav (lcN sc) _ sc:=S;rw[hN]at S;exact S) id
 exact bE.kn S len λf cdv A outer s H vs Q E U h=>(t,T.2 f cdv A outer s H E S.nd U,b vs H Q E h)
def knF i {k:Nat} {dl:List Expr}
  (b:∀ vs H Q E,sp vs H Q E->False) (e:nthS p i=.FunctionDef nm ar bo dl rt tp sc ts bi ps:=by rfl)
  (hb:∀ kV doc pm an cdv ct us,us.length =(ar.args.map (·.arg)).length->cT (PySem.W.fnOf nm nm ar bo sc .none kV doc pm an cdv ct) (us,[])=pure ((ar.args.map (·.arg)).zip us):=by
   exact λ_ _ _ _ _ _ us hl=>by first|exact bind1 (λ_=>rfl) us hl|exact bind2 (λ_ _=>rfl) us hl|exact bind3 (λ_ _ _=>rfl) us hl|exact bind4 (λ_ _ _ _=>rfl) us hl|exact bind5 (λ_ _ _ _ _=>rfl) us hl):KnI p i (k+1) sp:=by
 have hf:isFn (nthS p i)=true:=by rw[e];rfl
 have bE:=zih hf (by rw[e];exact hb);exact bE.kn (zhE hf) (λvs H Q E h=>(b vs H Q E h).elim) λf cdv A outer s H vs Q E U h=>(b vs H Q E h).elim
def lawI {dl:List Expr} (F:Fun B.K "law" "law" (nthS p i) f fd)
  (e:nthS p i=.FunctionDef nm ar bo dl rt tp sc ts bi ps)
  (T:(LcN sc.names N\/kav N (ar.args.map (·.arg)) sc)/\∀ f cdv A outer s H E,N.Nodup->Room k (A.deeper (envOfC "law" sc s.heap.objs.size f cdv)) ->
   PSs (cxOf CX0 p B.w B.K B.mg B.base N "law" sc f cdv A outer s H E).nox bo t)
  (b:∀ vs H Q E,sp vs H Q E->t { nx:=λ_ H'=>Q .non H',rt:=Q } (start N vs) H)
  (hP:ar.args.map (·.arg)=P:=by rfl)
  (len:∀ vs H Q E,sp vs H Q E->vs.length=P.length:=by intro _ _ _ _ h;first| (cases h;subst_vars;rfl) | ((repeat (rcases h with⟨_,h⟩));subst_vars;rfl)):FnOk p B.w B.K B.mg B.base CX0 (k+1) f fd P sp:=by
 have hf:isFn (nthS p i)=true:=by rw[e];rfl
 have S:=zhE hf;rw[e]at S F;have S:kav N (ar.args.map (·.arg)) sc:=T.1.elim (λh=>by
  have hN:lcN sc=N:=h.eq;have S:kav (lcN sc) _ sc:=S;rw[hN]at S;exact S) id
 rw[hP]at S;exact F.ok S len λcdv A outer s H vs Q E U h=>(t,T.2 f cdv A outer s H E S.nd U,b vs H Q E h)
end
end L2
namespace KL
open PySem PySem.Spec PyProof.Rows L2
def sh:sizeLine=16777216:=by decide
set_option maxHeartbeats 4000000
abbrev pg:cf:=PySem.Challenge.rw_steermill_k61_watchers.prog
theorem h_ws:PySem.W.Fast.tw9446332074065402090 PySem.Challenge.rw_steermill_k61_watchers=true:=by kernel_rfl
def h_st w os:(runT pg 3200 w os).map (statT pg w)=some true:=by kernel_rfl
def h_sn w os:(runT pg 3200 w os).map (seenT pg)=some (PySem.W.openGood (lawOnly pg) (looseOf pg)):=by kernel_rfl
def h_lk w os:(runT pg 3200 w os).map (λs=>lkP pg (fragH s.heap))=some (lvP pg):=by kernel_rfl
def h_ck:(dfsP pg).all (λx=>ckS x.2)=true:=by kernel_rfl
end KL
namespace Nm
inductive Nb where
 | q (r:Rat)
 | z (i:Int)
 deriving DecidableEq
abbrev TB:=List (List Nb)
def Nb.ok(k:Int):Nb->Prop
 | .q _=>k=0
 | .z i=>k≠0/\0<=i/\i<k
def zinv(k b:Int):Int:=(((wQ k.toNat).find? λ(x:Nat)=>decide (k ∣ (x:Int)*b - 1)).getD 0:Nat)
def zbF{k b x y:Int}(hx0:0<=x)(D:x<k)(hy0:0<=y)(hy:y<k)(h1:k ∣ x*b - 1)(h2:k ∣ y*b - 1):x=y:=by
 have h:k ∣ x - y:=by
  have e:x - y=y *(x*b - 1) - x *(y*b - 1):=by grind
  rw[e];exact wbp (GA h1) (GA h2)
 obtain⟨c,hc⟩:=h
 rcases Gp c 0 with h|h
 ·have:k*c<=k *(-1):=gh () ();omega
 ·rcases Gp 0 c with h'|h'
  ·have:k*1<=k*c:=gh () ();omega
  ·have:c=0:=by omega
   rw[this,wag]at hc;omega
def zb2(h0:0<=x)(h1:x<k)(h:k ∣ x*b - 1):zinv k b=x:=by
 unfold zinv;cases e:(wQ k.toNat).find? λ(x:Nat)=>decide (k ∣ x*b - 1)with
 | none =>
  rw[List.find?_eq_none]at e;have:=e x.toNat (by rw[vA];omega);rw[show(x.toNat:Int)=x by omega]at this;simp[h]at this
 | some y =>
  have hm:=List.mem_of_find?_eq_some e;rw[vA]at hm;have C:=List.find?_some e;have hp':k ∣ y*b - 1:=by simpa using C
  show((y:Nat):Int)=x;exact zbF (gD y) () h0 h1 hp' h
def zfX{p r:Int}(C:0<p):∀(n:Nat)(l g ml mg:Int),g.toNat<n->OvInv p r l g ml mg->∃ x,0<=x/\x<p/\p ∣ x*r - 1
 | 0,_,_,_,_,h,_=>bw h (ue _)
 | n+1,l,g,ml,mg,h,I=>by
  by_cases z:g=0
  ·subst z;exact(ml % p,wad _ (),Gc _ C,zfG I C)
  ·exact zfX C n _ _ _ _ (vw (zbZ I.g0 z) ()) (zd6 I z)
def Yo(h:Pr k)(h0:0<b)(h1:b<k):∃ x,0<=x/\x<k/\k ∣ x*b - 1 :=
 zfX (by have:=h.lo;omega) _ _ _ _ _ (uO _) (zbf h h0 h1)
def nnum(k w:Int):Nb:=if k=0 then .q (w:Rat)else .z (w.fmod k)
def nadd(k:Int):Nb->Nb->Nb
 | .q a,.q b=>.q (a+b)
 | .z a,.z b=>.z ((a+b).fmod k)
 | _,_=>.z 0
def nsub(k:Int):Nb->Nb->Nb
 | .q a,.q b=>.q (a - b)
 | .z a,.z b=>.z ((a - b).fmod k)
 | _,_=>.z 0
def nmul(k:Int):Nb->Nb->Nb
 | .q a,.q b=>.q (a*b)
 | .z a,.z b=>.z ((a*b).fmod k)
 | _,_=>.z 0
def ndiv(k:Int):Nb->Nb->Nb
 | .q a,.q b=>.q (a / b)
 | .z a,.z b=>.z ((a*zinv k b).fmod k)
 | _,_=>.z 0
def qK(k a:Int):k ∣ a.fmod k - a:=by
 rw[wbD];refine(-(a.fdiv k),?_)
 grind
def yV(r:Rat):(r.den:Int)≠0:=by have:=r.den_nz;omega
def den_pos(r:Rat):0 <(r.den:Int):=by have:=r.den_pos;omega
def zgb{r:Rat}(h:r≠0):r.num≠0:=λz=>h (wbw.mp z)
end Nm
namespace L2
open PySem PySem.Spec PyProof.Rows
def kaw(cells:List (Str×Addr)):List (Str×cV)->List (Str×Addr)->List (Str×Addr)
 | [],acc=>acc
 | (n,k)::r,acc=>if (k == NameKind.free)=true then kaw cells r ((n,(cells.lookup n).getD 0)::acc)else kaw cells r acc
def qB f
  (hf:∀ name kind cs,f (name,kind) cs=if (kind == NameKind.free)=true then(do let a ← cellOf env name;pure (.yield ((name,a)::cs)))else pure (.yield cs)) :
  ∀ l acc,(∀ x∈l,x.2=.free->∃ c,env.cells.lookup x.1=some c)->(forIn l acc f:Sem _)=pure (kaw env.cells l acc)
 | [],acc,_=>by rw[List.forIn_nil];rfl
 | (n,k)::r,acc,h=>by
  rw[List.forIn_cons,hf];have U:= λx D=>h x (ww _ D)
  by_cases J:(k == NameKind.free)=true
  ·obtain⟨c,hc⟩:=h (n,k) wt (by simpa using J);rw[bj J];have e:cellOf env n=pure c:=by unfold cellOf;rw[hc]
   rw[e];show(forIn r ((n,c)::acc) f:Sem _)=_;rw[qB f hf r _ U]
   conv=>rhs;unfold kaw
   rw[bj J,hc]
   rfl
  ·rw[bn J];show(forIn r acc f:Sem _)=_;rw[qB f hf r _ U]
   conv=>rhs;unfold kaw
   rw[bn J]
def Xd(h:∀ x∈scope.names,x.2=.free->∃ c,env.cells.lookup x.1=some c):closureFor scope env=pure (kaw env.cells scope.names []):=by
 simp only[closureFor];rw[qB _ (λname kind cs=>by cases J:kind == NameKind.free <;> simp[J]) scope.names [] h]
 rfl
def qq:∀ {l:List (Str×cV)} {acc:List (Str×Addr)} {n:Str} {c:Addr},(∀ x∈l,x.2=.free->∃ c,cells.lookup x.1=some c)->(n,c)∈kaw cells l acc ->
  (n,c)∈acc\/((n,NameKind.free)∈l/\cells.lookup n=some c)
 | [],acc,n,c,_,h=>.inl h
 | (m,k)::r,acc,n,c,hl,h=>by
  have U:= λx D=>hl x (ww _ D)
  unfold kaw at h
  by_cases J:(k == NameKind.free)=true
  ·rw[bj J]at h;have hk':k=.free:=by simpa using J
   subst hk';obtain⟨c',hc'⟩:=hl (m,.free) wt rfl
   rcases qq U h with h|⟨h1,h2⟩
   ·rcases wG.mp h with e|h
    ·have hc2:= hc';rw[hc2]at e;cases e;exact .inr (wt,hc')
    ·exact .inl h
   ·exact .inr (ww _ h1,h2)
  ·rw[bn J]at h
   rcases qq U h with h|⟨h1,h2⟩
   ·exact .inl h
   ·exact .inr (ww _ h1,h2)
def yJ{α:Type}:∀ {l:List (Str×α)} {n:Str},(∃ c,(n,c)∈l)->∃ c,l.lookup n=some c
 | [],n,⟨c,h⟩=>nomatch h
 | (m,v)::r,n,⟨c,h⟩=>by
  rw[wax];cases hb:n == m with
  | true=>exact(v,V)
  | false =>
   rcases wG.mp h with e|h
   ·cases e;simp at hb
   ·exact yJ (c,h)
def qG:∀ {l:List (Str×cV)} {acc:List (Str×Addr)} {p:Str×Addr},p∈acc->p∈kaw cells l acc
 | [],acc,p,h=>h
 | (m,k)::r,acc,p,h=>by
  unfold kaw
  split
  ·exact qG (ww _ h)
  ·exact qG h
def jo:∀ {l:List (Str×cV)} {acc:List (Str×Addr)} {n:Str},(n,NameKind.free)∈l->∃ c,(n,c)∈kaw cells l acc
 | (m,k)::r,acc,n,h=>by
  unfold kaw
  rcases wG.mp h with e|h
  ·cases e;exact(_,qG wt)
  ·split
   ·exact jo h
   ·exact jo h
def zX:∀ l n acc,cX n l acc=cX n l []++acc
 | [],n,acc=>rfl
 | (m,k)::r,n,acc=>by
  unfold cX
  split
  ·rw[zX r (n+1) ((m,n)::acc),zX r (n+1) [(m,n)],wbe];rfl
  ·exact zX r n acc
def xO:∀ {l:List (Str×cV)} {n:Nat} {x:Str} {c:Addr},(x,c)∈cX n l []->(x,NameKind.cell)∈l
 | (m,k)::r,n,x,c,h=>by
  unfold cX at h
  by_cases J:(k == NameKind.cell)=true
  ·rw[bj J,zX]at h
   rcases wq.mp h with h|h
   ·exact ww _ (xO h)
   ·have e:Prod.mk x c =(m,n):=by simpa using h
    cases e;have:k=.cell:=by simpa using J
    subst this;exact wt
  ·rw[bn J]at h;exact ww _ (xO h)
def xM:∀ {l:List (Str×cV)} {n:Nat} {x:Str},(x,NameKind.cell)∈l->∃ c,(x,c)∈cX n l []
 | (m,k)::r,n,x,h=>by
  unfold cX
  rcases wG.mp h with e|h
  ·cases e;rw[bj (),zX];exact(n,wL _ wt)
  ·split
   ·rw[zX];obtain⟨c,hc⟩:=xM h;exact(c,vh _ hc)
   ·exact xM h
def blk(X:Cx)(own fre:List Str)(scope:Scope)(bA:Addr)(cells:List (Str×Addr))(s₀:Shared)(H₀:Hp)(ex:List Addr)(pn:List (Addr×Obj)):Cx where
 prog:=X.prog
 w:=X.w
 K:=X.K
 mg:=X.mg
 base:=X.base
 A:=X.A
 N:=own++fre
 s₀:=s₀
 H₀:=H₀
 env:=compEnvC scope cells bA X.env
 outer:=X.stack
 stack:=X.stack
 ex:=ex
 fn:=λx=>own.contains x
 calm:=X.calm
 pn:=pn
 xe:=λ_ _=>False
def bst(own:Nat)(idx:List Nat)(L:St):St:=wK own none++idx.map λi=>(L[i]?).join
structure BlkOk(X:Cx)(own fre:List Str)(idx:List Nat)(scope:Scope):Prop where
 kind:scope.kind=.function
 free:(scope.names.all λx=>x.2 != .free || (X.env.kindOf x.1 == some .cell || X.env.kindOf x.1 == some .free))=true
 loc:(scope.names.all λx=>x.2 != .local || scope.names.lookup x.1 == some .local)=true
 ownB:(scope.names.all λx=>x.2 != .free || !own.contains x.1)=true
 freB:((fre.zip idx).all λp=>scope.names.lookup p.1 == some .free && X.N[p.2]? == some p.1)=true
 len:fre.length=idx.length
 nd:(scope.names.map (·.1)).Nodup
def zhQ{l:List (Str×cV)}:(l.map (·.1)).Nodup->∀ {x:Str} {k1 k2:cV},(x,k1)∈l->(x,k2)∈l->k1=k2:=by
 induction l with
 | nil=>intro _ x k1 k2 h;exact nomatch h
 | cons p r ih =>
  intro nd x k1 k2 h1 h2;rw[gm,Gw]at nd
  rcases wG.mp h1 with e1|h1 <;> rcases wG.mp h2 with e2|h2
  ·rw[← e1]at e2;cases e2;rfl
  ·exact bw (wm.mpr (_,h2,by rw[← e1])) nd.1
  ·exact bw (wm.mpr (_,h1,by rw[← e2])) nd.1
  ·exact ih nd.2 h1 h2
section
def BlkOk.freeC(B:BlkOk X own fre idx scope)(D:x∈scope.names)(h:x.2=.free):X.env.kindOf x.1=some .cell\/X.env.kindOf x.1=some .free:=by
 have:=uN.mp B.free x D;rw[h]at this
 simpa using this
def BlkOk.cells(B:BlkOk X own fre idx scope)(ok:X.Ok):∀ x∈scope.names,x.2=.free->∃ c,X.env.cells.lookup x.1=some c:=λx D h=>ok.has x.1 (B.freeC D h)
def rl(env:Env)(p:Str×cV):Str×cV:=if (p.2 == NameKind.free && env.scope.kind == .function && env.kindOf p.1 == some .cell)=true then(p.1,NameKind.cell)else p
def zgl env p:(rl env p).1=p.1:=by unfold rl;split <;> rfl
def zf5 env p:(rl env p).2=p.2\/((rl env p).2=.cell/\p.2=.free):=by
 unfold rl
 split
 ·rename_i hc;rw[gU,gU]at hc;exact .inr (V,by simpa using hc.1.1)
 ·exact .inl rfl
def xI{α:Type} p (r:List (Str×α)) x:(p::r).lookup x=if (x == p.1)=true then some p.2 else r.lookup x:=by
 rw[show p =(p.1,p.2)from rfl,wax];cases x == p.1 <;> rfl
def xY:∀ {l:List (Str×cV)} {x:Str} {k:cV},(l.map (rl env)).lookup x=some k->(l.lookup x=some k\/(k=.cell/\l.lookup x=some .free))
 | [],x,k,h=>by simp at h
 | p::r,x,k,h=>by
  rw[gm,xI,zgl]at h;rw[xI]
  by_cases D:(x == p.1)=true
  ·rw[bj D]at h ⊢
   rcases zf5 env p with e|⟨e1,e2⟩
   ·rw[e]at h;exact .inl h
   ·rw[e1]at h;cases h;rw[e2];exact .inr (V,V)
  ·rw[bn D]at h ⊢;exact xY h
def qL:∀ {l:List (Str×cV)} {x:Str},l.lookup x=some .free->(l.map (rl env)).lookup x=some .cell\/(l.map (rl env)).lookup x=some .free
 | [],x,h=>by simp at h
 | p::r,x,h=>by
  rw[xI]at h;rw[gm,xI,zgl]
  by_cases D:(x == p.1)=true
  ·rw[bj D]at h ⊢
   rcases zf5 env p with e|⟨e1,e2⟩
   ·rw[e];exact .inr h
   ·rw[e1];exact .inl rfl
  ·rw[bn D]at h ⊢;exact qL h
def QQ(B:BlkOk X own fre idx scope)(ok:X.Ok){n:Nat}{x:Str}{c:Addr}(h:(cX n scope.names (kaw X.env.cells scope.names [])).lookup x=some c) :
  ((x,c)∈cX n scope.names []/\(x,NameKind.cell)∈scope.names)\/((x,NameKind.free)∈scope.names/\X.env.cells.lookup x=some c):=by
 have h1:=mem_of_lookup h;rw[zX]at h1
 rcases wq.mp h1 with h1|h1
 ·exact .inl (h1,xO h1)
 ·rcases qq (B.cells ok) h1 with h1|h1
  ·exact nomatch h1
  ·exact .inr h1
end
section
def Jy{elt target iter:Expr}{ifs:List Expr}{scope:Scope}{pos:Pos}{it acc:ca}{env:Env}(I:Nat->Shared->Prop)
  (turn:∀ n s,I n s->cq (cr prog w) A (pyNext it) (λr s₁=>match r with
   | none=>R (.ok .next) s₁
   | some v=>cq (cr prog w) A (cL target it v) (λ_ s₂=>cq (cr prog w) A (assign target env v) (λ_ s₃ =>
     cq (cr prog w) A (forIn ifs true λc r=>if r=true then do let ok ← isTrue c env (eval c env);pure (ForInStep.yield ok)else pure (ForInStep.yield r)) (λok s₄ =>
      if ok=true then cq (cr prog w) A (eval elt env) (λx s₅ =>
       cq (cr prog w) A (call (.builtin "list.append") [acc,x]) (λ_ s₆=>∃ m,m<n/\I m s₆) (λ_ _=>False) s₅) (λ_ _=>False) s₄
      else ∃ m,m<n/\I m s₄) (λ_ _=>False) s₃) (λ_ _=>False) s₂) (λ_ _=>False) s₁) (λ_ _=>False) s)
  (n:Nat) (h:I n s) :
  codeAny (cr prog w) A (.compLoop (.ListComp elt [(target,iter,ifs,0)] scope pos) 0 it acc env) R s:=by
 refine codeAny_loop rfl I (λn s hI=>?_) n h;refine wpAny_noted ?_;rw[compTurn_list];refine cF (cH (cF (cw (turn n s hI) (λr s₁ h₁=>?_) λ_ _ h'=>h'.elim)));cases r with
 | none=>exact cJ h₁
 | some v =>
  refine cF (cw h₁ (λ_ s₂ h₂=>?_) λ_ _ h'=>h'.elim);refine cF (cw h₂ (λ_ s₃ h₃=>cF (cw h₃ (λok s₄ h₄=>?_) λ_ _ h'=>h'.elim)) λ_ _ h'=>h'.elim);cases ok with
  | false=>exact cJ (V,h₄)
  | true =>
   exact cF (cF (cw h₄ (λx s₅ h₅=>cF (cw h₅ (λ_ s₆ h₆=>cJ (cJ (V,h₆))) λ_ _ h'=>h'.elim)) λ_ _ h'=>h'.elim))
end
section
variable{L:St}
abbrev bcells(X:Cx)(scope:Scope)(bA:Addr):List (Str×Addr):=cX (bA+1) scope.names (kaw X.env.cells scope.names [])
abbrev dictO:Obj:={ cls:=.type "dict",data:=.dict #[] }
def zci{own:Nat}(h:(bst own idx L)[i]?=some (some v)):∃ j k,i=own+j/\idx[j]?=some k/\L[k]?=some (some v):=by
 unfold bst at h
 by_cases hi:i<own
 ·rw[vm (by simpa using hi)]at h;rw[uy]at h;rw[bj hi]at h;cases h
 ·rw[vd (by simpa using wbo hi)]at h;rw[vf,wk]at h;cases e:idx[i - own]? with
  | none=>rw[e]at h;cases h
  | some k =>
   rw[e]at h;refine(i - own,k,(),e,?_);have h':some ((L[k]?).join)=some (some v):=h;have h2:=Option.some.inj h';cases e2:L[k]? with
   | none=>rw[e2]at h2;cases h2
   | some o=>rw[e2]at h2;rw[show o=some v from h2]
def zdO(B:BlkOk X own fre idx scope)(I:Inv X pins L H s){ex:List Addr}(hex:∀ b∈ex,FpOk X pins H b/\b<s.heap.objs.size) :
  Inv (blk X own fre scope s.heap.objs.size (bcells X scope s.heap.objs.size) s H ex (X.pn++pins)) [] (bst own.length idx L) H { s with heap:=pushCells (s.heap.push dictO) scope.names }:=by
 have ok:=I.ok;have hsz:(s.heap.push dictO).objs.size=s.heap.objs.size+1:=Heap.size_push ..;have keep:∀ b o,s.heap.get? b=some o->(pushCells (s.heap.push dictO) scope.names).get? b=some o:=λb o e=>pushCells_keeps _ _ b o (Heap.get?_push_of_some _ e)
 have cok:=cellsFrom_ok scope.names (s.heap.push dictO) (s.heap.objs.size+1) [] (λ_ _ hm=>(nomatch hm),List.Pairwise.nil) (by rw[hsz];exact wv _);rw[hsz]at cok;have freeLt:= λx c e=>let ⟨_,h⟩:=I.cell x c e;h.lt
 have cellC:∀ x c,(bcells X scope s.heap.objs.size).lookup x=some c->(s.heap.objs.size+1<=c/\(pushCells (s.heap.push dictO) scope.names).IsCell c none/\(x,c)∈cX (s.heap.objs.size+1) scope.names []/\(x,NameKind.cell)∈scope.names)\/(X.env.cells.lookup x=some c/\c<s.heap.objs.size/\(x,NameKind.free)∈scope.names):=λx c e=>by
  rcases QQ B ok e with⟨h1,h2⟩|⟨h1,h2⟩
  ·exact .inl ((cok.empty x c h1).2,(cok.empty x c h1).1,h1,h2)
  ·exact .inr (h2,freeLt x c h2,h1)
 have hfs:∀ b∈frs X.stack,b<s.heap.objs.size:=λb hb=>by
  rcases wG.mp (I.stkSub b hb)with e|hb
  ·rw[e];exact I.lt
  ·obtain⟨_,o,ho,_⟩:=I.ok.funs.mem hb;exact vw (Heap.lt_size ho) I.sz
 have OK:(blk X own fre scope s.heap.objs.size (bcells X scope s.heap.objs.size) s H ex (X.pn++pins)).Ok:=by
  refine(ok.mod,B.kind,ok.glob,ok.blt,wv _,?_,?_,?_,ok.hd,ok.frames,.inl rfl,?_,λb o e=>I.bs b o e,wE ok.bsz I.sz,?_,?_,I.stack,I.stkFree)
  ·intro x y c e1 e2
   rcases cellC x c e1 with⟨l1,_,m1,_⟩|⟨f1,l1,_⟩ <;> rcases cellC y c e2 with⟨l2,_,m2,_⟩|⟨f2,l2,_⟩
   ·exact name_of_addr cok.apart m1 m2
   ·exact bw (vw l2 (GM l1)) (vY _)
   ·exact bw (vw l1 (GM l2)) (vY _)
   ·exact ok.inj x y c f1 f2
  ·intro x J;have hk':= J;have hor:(x,NameKind.cell)∈scope.names\/(x,NameKind.free)∈scope.names:=by
    rcases hk' with h|h
    ·rcases xY h with h|⟨_,h⟩
     ·exact .inl (mem_of_lookup h)
     ·exact .inr (mem_of_lookup h)
    ·rcases xY h with h|⟨h,_⟩
     ·exact .inr (mem_of_lookup h)
     ·cases h
   refine yJ ?_;show ∃ c,(x,c)∈cX (s.heap.objs.size+1) scope.names (kaw X.env.cells scope.names []);rw[zX]
   rcases hor with h|h
   ·obtain⟨c,hc⟩:=xM h;exact(c,vh _ hc)
   ·obtain⟨c,hc⟩:=jo h;exact(c,wL _ hc)
  ·intro x c hf e
   rcases cellC x c e with⟨l1,_⟩|⟨_,_,m1⟩
   ·show s.heap.objs.size<=c;omega
   ·have:=uN.mp B.ownB _ m1;have hf':own.contains x=true:=hf;rw[hf']at this;simp at this
  ·intro b hb;obtain⟨⟨_,_,_,_,f4,_⟩,hlt⟩:=hex b hb;refine(vp hlt,λx c e=>?_)
   rcases cellC x c e with⟨l1,_⟩|⟨f1,_,_⟩
   ·exact Ne.symm (vp (vw hlt (GM l1)))
   ·exact f4 x c f1
  ·intro b o e hb;obtain⟨⟨_,_,_,f3,_,_⟩,_⟩:=hex b hb
   rcases f3 with f3|f3
   ·exact ok.noex b o e f3
   ·exact bw (Heap.lt_size (ok.bs b o e).1) (Nat.not_lt.mpr f3)
  ·intro b hb hm;obtain⟨⟨_,f1,f2,_⟩,_⟩:=hex b hb
   rcases wG.mp (I.stkSub b hm)with e|hm
   ·exact f1 e
   ·exact f2 hm
 refine(OK,V,I.bare,Un.kept keep,?_,?_,I.fresh,?_,?_,I.hok.kept keep,?_)
 ·refine(λ_=>none,(Heap.Ns.new s.heap (.type "dict")).keeps (pushCells_keeps _ _),λi x v e1 e2 e3=>?_);obtain⟨j,k,rfl,hj,J⟩:=zci e2;have e1':(own++fre)[own.length+j]?=some x:=e1;rw[vd (GS _ _),uR]at e1';have hz:(x,k)∈fre.zip idx:=by
   refine waP.mpr (j,?_);rw[gQ];exact(e1',hj)
  have hq:=uN.mp B.freB _ hz;rw[gU]at hq;have q1:scope.names.lookup x=some .free:=by simpa using hq.1
  have q2:X.N[k]?=some x:=by simpa using hq.2
  have kin:=B.freeC (mem_of_lookup q1) rfl;have vis:Vis X.env.scope x:=.inr kin;obtain⟨m,hn,hl⟩:=I.loc;obtain⟨u,r,look⟩:=hl k x v q2 J vis;refine(u,r,?_);obtain⟨c,hc,hcell⟩ : ∃ c,X.env.cells.lookup x=some c/\s.heap.IsCell c (some u):=by
   rcases look with⟨hk1,_⟩|⟨_,c,e,z⟩
   ·rcases kin with h|h <;>(rw[hk1]at h;cases h)
   ·exact(c,e,z)
  refine .inr (qL q1,c,?_,hcell.keeps keep);have hl2:∃ c',(bcells X scope s.heap.objs.size).lookup x=some c':=by
   refine yJ ?_;show ∃ c,(x,c)∈cX (s.heap.objs.size+1) scope.names (kaw X.env.cells scope.names []);rw[zX];obtain⟨c,hc⟩:=jo (mem_of_lookup q1);exact(c,wL _ hc)
  obtain⟨c',hc'⟩:=hl2
  rcases QQ B ok hc' with⟨_,h2⟩|⟨_,h2⟩
  ·exact nomatch zhQ B.nd h2 (mem_of_lookup q1)
  ·rw[hc]at h2;cases h2;exact hc'
 ·intro x c e
  rcases cellC x c e with⟨_,h,_⟩|⟨h,_,_⟩
  ·exact(none,h)
  ·obtain⟨v,z⟩:=I.cell x c h;exact(v,z.keeps keep)
 ·intro x c e
  rcases cellC x c e with⟨l,_⟩|⟨h,_,_⟩
  ·exact I.hok.fresh ()
  ·exact I.freeC x c h
 ·intro p C;rw[uL]at C;obtain⟨h1,h2,h3,h4,h5⟩:=I.pin p C;refine(keep _ _ h1,h2,vp (Heap.lt_size h1),λhm=>?_,h5)
  rcases wG.mp (I.stkSub p.1 hm)with e|hm
  ·exact h3 e
  ·exact h4 hm
 ·show(bst own.length idx L).length =(own++fre).length;unfold bst;rw[wD,vf,wc,wD,B.len]
def zho{bA bE:Addr}{cells:List (Str×Addr)}{s₀ s':Shared}{H₀ H':Hp}{fp:List Addr}{pl:List (Addr×Obj)}{σb:St}{ys:List V}{its:List ca}{n:Nat}(I:Inv X pins L H₀ s₀)(I':Inv (blk X own fre scope bA cells s₀ H₀ (bE::fp) (X.pn++pins)) pl σb H' s')
  (hfp:∀ b∈fp,FpOk X pins H₀ b) (hD:FpOk X pins H₀ bE) (hD':H' bE=none) (hv:Vals ys its) (hz:ys.length<=sizeLine) (e:s'.heap.get? bE=some { cls:=.type "list",data:=.seq its.toArray n }) :
  Inv X pins L (upd H' bE (.lst ys)) s':=by
 have u:=I'.base;have nD:= hD.1;refine I.call' (H':=upd H' bE (.lst ys)) I'.os (u.keep,u.slot,λb o h1 h2 h3=>?_,u.there,λb xs h=>?_,λb o v h=>?_,λb ps h=>?_) (λb o h=>?_) I'.bare λb hb=>?_
 ·rw[zE (λz=>h3 (by rw[z];exact wt))];exact u.free b o h1 h2 h3
 ·rw[zE (zR h nD)];exact u.tups b xs h
 ·rw[zE (zR h nD)];exact u.frzs b o v h
 ·rw[zE (zR h nD)];exact u.tbls b ps h
 ·by_cases hb:b=bE
  ·subst hb;rw[za]at h;cases h;exact(hz,its,n,hv,e)
  ·rw[zE hb]at h;exact(I'.hok b o h).stay (λc v _ q=>q) (λc q=>by rw[zE (zR q hD')];exact q) λc xs q=>by rw[zE (zR q hD')];exact q
 ·rcases wG.mp hb with rfl|hb
  ·obtain⟨_,f1,_,f3,f4,f5⟩:=hD;exact(f3,f1,f4,f5)
  ·obtain⟨_,f1,_,f3,f4,f5⟩:=hfp b hb;exact(f3,f1,f4,f5)
def GOwn(k:Nat)(g:TG):Prop:=∀ v L H Q,g v L H Q->g v L H λσ' H'=>Q σ' H'/\σ'.drop k=L.drop k/\σ'.length=L.length
def GOwns(k:Nat)(g:TGs):Prop:=∀ v L H Q,g v L H Q->g v L H λσ' H'=>Q σ' H'/\σ'.drop k=L.drop k/\σ'.length=L.length
def qi(h:i<k):GOwn k (gName i):=λv L H Q q=>(q,by rw[List.drop_set_of_lt h],vv)
def zc1:GOwns k gNil:=λv L H Q ⟨e,q⟩=>(e,q,V,V)
def Yn(ht:GOwn k t)(hm:∀ v L H Q Q',(∀ σ' H',Q σ' H'->Q' σ' H')->t v L H Q->t v L H Q')(hu:GOwns k u):GOwns k (gCons t u):=λvs L H Q ⟨v,r,e,q⟩ =>
 (v,r,e,hm _ _ _ _ _ (λσ' H' ⟨q1,q2,q3⟩=>by
  have q4:=hu _ _ _ _ q1;rw[q2,q3]at q4;exact q4) (ht _ _ _ _ q))
def Yl:∀ v L H (Q Q':St->Hp->Prop),(∀ σ' H',Q σ' H'->Q' σ' H')->gName i v L H Q->gName i v L H Q':=λ_ _ _ _ _ h q=>h _ _ q
def ze4{K:bh}(h:GOwns k t):GOwn k (gTup K n t):=λv L H Q ⟨a,xs,e,h1,h2,q⟩=>(a,xs,e,h1,h2,h _ _ _ _ q)
def zau{own:Nat}{L σ':St}(hd:σ'.drop own =(bst own idx L).drop own)(i:Nat) v (h:(bst own idx L)[i]?=some (some v)):σ'[i]?=some (some v):=by
 obtain⟨j,k,rfl,_,_⟩:=zci h;rw[← gJ,hd,gJ];exact h
def tCompW(own:Nat)(idx:List Nat)(wi:TI)(g:TG)(tt:TT)(te:TE)(R:List V->Hp->Prop):St->Hp->Prop:=λL H=>wi L H λbz H1=>∃ W:Nat->Nat->List V->Hp->Prop,(∃ m,W 0 m [] H1)/\∀ i m ys H,W i m ys H ->
 (bz.stop i H/\ys.length<=sizeLine/\R ys H) \/
 (bz.go i H/\ys.length<sizeLine/\∀ x H',bz.yld i H x H'->g x (bst own idx L) H' λσ2 H2=>tt σ2 H2 λb H3=>if b=true then te σ2 H3 λy H4=>∃ m',m'<m/\W (i+1) m' (ys++[y]) H4 else ∃ m',m'<m/\W (i+1) m' ys H3)
def PTs(Y:Cx)(ifs:List Expr)(t:TT):Prop:=∀(pins:List (Addr×Obj))(s:Shared)(L:St)(H:Hp)(Q:Bool->Hp->Prop),Inv Y pins L H s->t L H Q ->
 cq (cr Y.prog Y.w) Y.A (forIn ifs true λc r=>if r=true then do let ok ← isTrue c Y.env (eval c Y.env);pure (ForInStep.yield ok)else pure (ForInStep.yield r)) (TP Y pins L Q) Y.xe s
def tTrue:TT:=λ_ H Q=>Q true H
def zhw:PTs Y [] tTrue:=λpins s L H Q I h=>wpAny_tests_nil (H,I,h)
def zhz(h:PT Y c t):PTs Y [c] t:=λpins s L H Q I hq=>wpAny_tests_one (h pins s L H Q I hq)
def zaf(B:BlkOk X own fre idx scope)(hc:X.calm=true)(hi:PI X tg iter wi)(hg:GOwn own.length g)
  (hb:∀ bA cells s₀ H₀ ex pn,PG (blk X own fre scope bA cells s₀ H₀ ex pn) tg g/\PTs (blk X own fre scope bA cells s₀ H₀ ex pn) ifs tt/\PE (blk X own fre scope bA cells s₀ H₀ ex pn) elt te)
  (hs:∀ x,cO iter X.env x=pure x) (I:Inv X pins L H s) (h:tCompW own.length idx wi g tt te R L H)
  (hq:∀ ys H' s' bA bE m,R ys H'->H' bE=none->Inv X pins L (upd H' bE (.lst ys)) s'->s'.heap.Ns bA m->upd H' bE (.lst ys) bA=none->FpOk X pins (upd H' bE (.lst ys)) bA ->
   compPost (cr X.prog X.w) X.A X.xe use Q (.ref bE) bA (.ok .next) s') :
  cq (cr X.prog X.w) X.A (comprehension (.ListComp elt [(tg,iter,ifs,0)] scope pos) scope X.env (firstIterPos [(tg,iter,ifs,0)] pos) (newList []) false (eval iter X.env) use) Q X.xe s:=by
 have hnames:∀ x∈scope.names,x.2=.local->scope.names.lookup x.1=some .local:=λx D hl=>by
  have:=uN.mp B.loc x D;rw[hl]at this
  simpa using this
 refine wpAny_comprehension_free rfl hs (Xd (B.cells I.ok)) B.kind hnames (cw (hi pins s L H _ I h) (λv s1 h1=>cw h1 (λitv s2 h2=>?_) λ_ _ e=>e) λ_ _ e=>e);obtain⟨it,fp,tn,bz,H2,rfl,I2,T,st2,f2,W,⟨m0,w0⟩,turn⟩:=h2;refine wpAny_newObj_type ?_;generalize hs3:({ s2 with heap:=s2.heap.push { cls:=.type "list",dict:=none,data:=.seq ([]:List ca).toArray } }:Shared)=s3;have hD3:s3.heap.get? s2.heap.objs.size=some { cls:=.type "list",data:=.seq ([]:List ca).toArray 0 }:=by rw[← hs3];exact Heap.get?_push_size _ rfl
 have keep23:∀ b o,s2.heap.get? b=some o->s3.heap.get? b=some o:=λb o e=>by rw[← hs3];exact Heap.get?_push_of_some _ e
 have I3:Inv X pins L H2 s3:=by rw[← hs3];exact I2.kept (t':=s2.toks) λb o e=>Heap.get?_push_of_some _ e
 have sz3:s3.heap.objs.size=s2.heap.objs.size+1:=by rw[← hs3];exact Heap.size_push ..
 generalize hD:s2.heap.objs.size=bE at *;have nD:H2 bE=none:=by rw[← hD];exact I2.fresh
 have okD:= I2.fpOk (by rw[hD];exact wv _) nD;have ltfp:∀ b∈fp,b<bE:=λb hb=>by
  obtain⟨o,ho,_⟩:=T.obj _ _ st2 b hb;rw[← hD];exact Heap.lt_size ho
 simp only[newFunctionEnv,Option.isSome_some,if_true];refine cF (wpAny_alloc ?_);refine cF (wpAny_layCells _ (λname kind cells=>by cases hkc:kind == NameKind.cell <;> simp[hkc]) _ _ _ _ ?_);refine cF (cJ (cJ ?_));have I4:=zdO B I3 (λb hb=>by
  rcases wG.mp hb with rfl|hb
  ·exact(okD,by rw[sz3];exact uO _)
  ·exact(f2 b hb,by rw[sz3];exact gS (ltfp b hb)))
 generalize hs4:({ s3 with heap:=pushCells (s3.heap.push dictO) scope.names }:Shared)=s4 at I4;have keep34:∀ b o,s3.heap.get? b=some o->s4.heap.get? b=some o:=λb o e=>by rw[← hs4];exact pushCells_keeps _ _ b o (Heap.get?_push_of_some _ e)
 generalize hY:blk X own fre scope s3.heap.objs.size (bcells X scope s3.heap.objs.size) s3 H2 (bE::fp) (X.pn++pins)=Y at I4;have YA:Y.A=X.A:=by rw[← hY];rfl
 have Yp:Y.prog=X.prog:=by rw[← hY];rfl
 have Yw:Y.w=X.w:=by rw[← hY];rfl
 have YK:Y.K=X.K:=by rw[← hY];rfl
 have Yc:Y.calm=true:=by rw[← hY];exact hc
 have Yx:Y.xe=λ_ _=>False:=by rw[← hY];rfl
 have Yex:Y.ex=bE::fp:=by rw[← hY];rfl
 have Ypn:Y.pn=X.pn++pins:=by rw[← hY];rfl
 have YL:Y.env.locals=s3.heap.objs.size:=by rw[← hY];rfl
 have hbY:PG Y tg g/\PTs Y ifs tt/\PE Y elt te:=by rw[← hY];exact hb ..
 have nDY:bE≠Y.env.locals:=by rw[YL,sz3];exact vp (uO _)
 have okY:=I4.ok;have fsD:= okY.exfs bE (by rw[Yex];exact wt);have pnD:∀ p∈Y.pn,p.1≠bE:=by rw[Ypn];exact okD.2.2.2.2.2
 have FO:∀ {H':Hp} {o:Obj},(∀ b∈fp,H' b=none)->∀ b∈fp,FpOk Y [(bE,o)] H' b:=λ{H' o} hn b hb=>by
  have m:b∈Y.ex:=by rw[Yex];exact ww _ hb
  refine(hn b hb,(okY.exf b m).1,okY.exfs b m,.inl m,(okY.exf b m).2,λp C=>?_)
  rcases wq.mp C with C|C
  ·rw[Ypn]at C;exact(f2 b hb).2.2.2.2.2 p C
  ·have e:p =(bE,o):=by simpa using C
   rw[e];exact Ne.symm (vp (ltfp b hb))
 have pinD:∀ {pl:List (Addr×Obj)} {σ':St} {H':Hp} {s':Shared} {o:Obj},Inv Y pl σ' H' s'->s'.heap.get? bE=some o->H' bE=none->(∀ v,o.data≠.cell v)->Inv Y [(bE,o)] σ' H' s':=λ{pl σ' H' s' o} I' e hn hd=>I'.pins_of λp C=>by
  have e':p =(bE,o):=by simpa using C
  subst e';exact(e,hn,nDY,fsD,hd)
 have loop:codeAny (cr X.prog X.w) X.A (.compLoop (.ListComp elt [(tg,iter,ifs,0)] scope pos) 0 (.ref it) (.ref bE) Y.env) (compPost (cr X.prog X.w) X.A X.xe use Q (.ref bE) s3.heap.objs.size) s4:=by
  refine Jy (λn s'=>∃ i ys its k H',Inv Y [(bE,({ cls:=.type "list",data:=.seq (its:List ca).toArray k }:Obj))] (bst own.length idx L) H' s'/\tn i s'.heap/\(∀ b∈fp,H' b=none)/\Vals ys its/\ys.length<=sizeLine/\W i n ys H') ?_ m0
   (0,[],[],0,H2,pinD I4 (keep34 _ _ hD3) nD (λv z=>nomatch z),T.keep _ _ _ st2 λb _ o e=>keep34 _ _ (keep23 _ _ e),λb hb=>(f2 b hb).1,.nil,vD _,w0)
  rintro n s' ⟨i,ys,its,k,H',I',st',fr',hv,hz,w'⟩
  rcases turn i n ys H' w' with⟨stop,hl,hR⟩|⟨go,hl,step⟩
  ·have z:=T.done Y Yp Yw YK Yc i _ s' _ H' (λ_ _=>False) I' (FO fr') st' stop;rw[YA]at z;refine thn z λr s5 ⟨U,I5⟩=>?_
   subst U;have pD5:=I5.pin _ (wL _ wt);have I5':=I5;rw[← hY]at I5';have E:=zho I3 I5' (λb hb=>f2 b hb) okD pD5.2.1 hv hl pD5.1;obtain⟨m5,hm5,_⟩:=I5.loc;rw[YL]at hm5;have nL:H' s3.heap.objs.size=none:=by rw[← YL];exact I5.free
   have nL':upd H' bE (.lst ys) s3.heap.objs.size=none:=by rw[zE (by rw[← YL];exact Ne.symm nDY)];exact nL
   exact hq ys H' s5 _ bE m5 hR pD5.2.1 E hm5 nL' (I3.fpOk (wv _) nL')
  ·have z:=T.item Y Yp Yw YK Yc i _ s' _ H' (λ_ _=>False) I' (FO fr') st' go;rw[YA]at z;refine thn z λr s5 ⟨u,U,h5⟩=>?_
   subst U;refine thn h5 λ_ s6 ⟨x,H6,I6,r6,y6,st6,fr6⟩=>?_
   have I6':=I6.pinned (FO fr6) (T.obj _ _ st6);have z7:=hbY.1 _ s6 _ H6 x u _ I6' r6 (hg _ _ _ _ (step x H6 y6));rw[Yp,Yw,YA,Yx]at z7;refine thn z7 λ_ s7 ⟨σ7,H7,I7,q7,d7,l7⟩=>?_
   have z8:=hbY.2.1 _ s7 σ7 H7 _ I7 q7;rw[Yp,Yw,YA,Yx]at z8;refine thn z8 λok s8 ⟨H8,I8,q8⟩=>?_
   have tnK:∀ {σ9:St} {H9:Hp} {s9:Shared},Inv Y ([(bE,({ cls:=.type "list",data:=.seq its.toArray k }:Obj))]++pinsAt fp s6.heap) σ9 H9 s9->tn (i+1) s9.heap/\∀ b∈fp,H9 b=none:=λI9 =>
    (T.keep _ _ _ st6 λb hb o e=>(I9.pin (b,o) (wL _ (wL _ (jy hb e)))).1,λb hb=>by
     obtain⟨o,e,d⟩:=T.obj _ _ st6 b hb;exact(I9.pin (b,o) (wL _ (wL _ (jy hb e)))).2.1)
   cases ok with
   | false =>
    rw[bn vg]at q8 ⊢;obtain⟨m',hm,w8⟩:=q8;obtain⟨t8,n8⟩:=tnK I8;exact(m',hm,i+1,ys,its,k,H8,I8.unpinned.weak l7.symm (zau d7),t8,n8,hv,hz,w8)
   | true =>
    rw[bj rfl]at q8 ⊢;have z9:=hbY.2.2 _ s8 σ7 H8 _ I8 q8;rw[Yp,Yw,YA,Yx]at z9;refine thn z9 λy s9 ⟨v9,H9,I9,r9,m',hm,w9⟩=>?_
    obtain⟨t9,n9⟩:=tnK I9;have pD9:=I9.pin (bE,{ cls:=.type "list",data:=.seq its.toArray k }) (wL _ (vh _ wt));refine append_at pD9.1 (λh10 sb hD10=>?_) (by rw[wV,← hv.length];exact uw hl);have I9a:Inv Y [] σ7 H9 s9:=I9.pins_of λp C=>nomatch C
    have I10:Inv Y [] σ7 H9 { s9 with heap:=h10 }:=I9a.turned (t':=s9.toks) (λb o hb e=>sb.extBut b o hb e) pD9.2.1 nDY (.inl (by rw[Yex];exact wt)) (okY.exf bE (by rw[Yex];exact wt)).2 (λp C=>by
     rw[uL]at C;exact pnD p C)
    refine(m',hm,i+1,ys++[v9],its++[y],k+1,H9,pinD (I10.weak l7.symm (zau d7)) ?_ pD9.2.1 (λv z=>nomatch z),?_,n9,hv.append (.cons r9 .nil),?_,w9)
    ·show h10.get? bE=_;rw[hD10,List.push_toArray]
    ·exact T.keep _ _ _ t9 λb hb o e=>sb.extBut b o (vp (ltfp b hb)) e
    ·rw[wD,waN];exact hl
 have goal:codeAny (cr X.prog X.w) X.A (.compStart (.ListComp elt [(tg,iter,ifs,0)] scope pos) 0 (.ref it) (.ref bE) Y.env) (compPost (cr X.prog X.w) X.A X.xe use Q (.ref bE) s3.heap.objs.size) s4 :=
  codeAny_compStart_list loop (T.self X.A 0 s4 _ _ (T.keep _ _ _ st2 λb _ o e=>keep34 _ _ (keep23 _ _ e)) loop)
 rw[← hY]at goal;have hsz:({ s3 with heap:=s3.heap.push { cls:=.type "dict",data:=.dict #[] } }:Shared).heap.objs.size=s3.heap.objs.size+1:=Heap.size_push ..;rw[hsz]
 first
  | exact goal
  | (rw[← hs4]at goal;exact goal)
end
def tComp(own:Nat)(idx:List Nat)(wi:TI)(g:TG)(tt:TT)(te:TE):TE:=λL H Q=>tCompW own idx wi g tt te (λys H'=>∀ p,H' p=none->Q (.ref p) (upd H' p (.lst ys))) L H
section
def zdA own fre idx (B:BlkOk X own fre idx scope) (hc:X.calm=true) (hi:PI X tg iter wi) (hg:GOwn own.length g)
  (hb:∀ bA cells s₀ H₀ ex pn,PG (blk X own fre scope bA cells s₀ H₀ ex pn) tg g/\PTs (blk X own fre scope bA cells s₀ H₀ ex pn) ifs tt/\PE (blk X own fre scope bA cells s₀ H₀ ex pn) elt te)
  (hs:∀ x,cO iter X.env x=pure x:=by intro _;rfl):PE X (.ListComp elt [(tg,iter,ifs,0)] scope pos) (tComp own.length idx wi g tt te):=by
 intro pins s L H Q I h;rw[eval_ListComp];refine zaf B hc hi hg hb hs I h λys H' s' bA bE m hR hD I' hn nL fL=>?_
 refine(m,hn,λh' hs'=>?_);obtain⟨f0,f1,f2,f3,f4,f5⟩:=fL;exact(.ref bE,_,I'.turned (t':=s'.toks) (λb o hb e=>hs'.extBut b o hb e) f0 f1 f3 f4 f5,V,hR bE hD)
def tAsgC(own:Nat)(idx:List Nat)(wi:TI)(g:TG)(tt:TT)(te:TE)(i:Nat):TS:=λbE L H=>tCompW own idx wi g tt te (λys H'=>∀ p,H' p=none->bE.nx (L.set i (some (.ref p))) (upd H' p (.lst ys))) L H
def zg2{pos pos' spos:Pos}(hN:X.N.Nodup)(hi':X.N[i]?=some x)(D:X.env.scope.names.lookup x=some .local) own fre idx (B:BlkOk X own fre idx scope) (hc:X.calm=true) (hi:PI X tg iter wi) (hg:GOwn own.length g)
  (hb:∀ bA cells s₀ H₀ ex pn,PG (blk X own fre scope bA cells s₀ H₀ ex pn) tg g/\PTs (blk X own fre scope bA cells s₀ H₀ ex pn) ifs tt/\PE (blk X own fre scope bA cells s₀ H₀ ex pn) elt te)
  (hsw:swapsWith (.ListComp elt [(tg,iter,ifs,0)] scope pos) (some (.Name x pos')) spos.line X.env=pure true:=by rfl)
  (hs:∀ x,cO iter X.env x=pure x:=by intro _;rfl):PS X (.Assign [.Name x pos'] (.ListComp elt [(tg,iter,ifs,0)] scope pos) spos) (tAsgC own.length idx wi g tt te i):=by
 intro pins s L H bE I h;rw[exec_Assign_Name_used _ _ _ _ hsw];refine cF (cH (cF ?_));refine cF (cw (zaf (use:=some (assign (.Name x pos') X.env)) B hc hi hg hb hs I h λys H' s' bA Da m hR hD I' hn nL fL=>?_) (λ_ s' hq=>cJ (cJ hq)) λ_ _ e=>e);obtain⟨f0,f1,f2,f3,f4,f5⟩:=fL;refine wpAny_assign_Name (JL I' hN hi' (.inl D) (show RelV (.ref Da) (.ref Da)from rfl) (λs2 I2 ⟨a,sb,ha⟩=>?_) (.inr D));have hLa:bA≠a:=by
  rcases ha with rfl|ha
  ·exact f1
  ·exact Ne.symm (f4 x a ha)
 refine(m,hn.sameBut sb hLa,λh' hs'=>?_);exact(_,_,I2.turned (t':=s2.toks) (λb o hb e=>hs'.extBut b o hb e) f0 f1 f3 f4 f5,hR Da hD)
end
mutual
def Rp(H:Hp):PyData->V->Prop
 | .none,v=>v=.non
 | .bool b,v=>v=.bl b
 | .int i,v=>v=.int i
 | .str x,v=>v=.str x
 | .list ds,v=>∃ a xs,v=.ref a/\H a=some (.lst xs)/\Rps H ds xs
 | .tuple ds,v=>∃ a xs,v=.ref a/\H a=some (.tup xs)/\Rps H ds xs
 | .dict _,_=>False
def Rps(H:Hp):List PyData->List V->Prop
 | [],xs=>xs=[]
 | d::ds,xs=>∃ x r,xs=x::r/\Rp H d x/\Rps H ds r
end
mutual
def Rp.mono{H H':Hp}(g:Same H H'):∀(d:PyData)(v:V),Rp H d v->Rp H' d v
 | .none,_,h=>by simpa only [Rp] using h
 | .bool _,_,h=>by simpa only [Rp] using h
 | .int _,_,h=>by simpa only [Rp] using h
 | .str _,_,h=>by simpa only [Rp] using h
 | .list ds,v,h=>by
  simp only[Rp]at h ⊢;obtain⟨a,xs,e,h1,h2⟩:=h;exact(a,xs,e,g _ _ h1,Rps.mono g ds xs h2)
 | .tuple ds,v,h=>by
  simp only[Rp]at h ⊢;obtain⟨a,xs,e,h1,h2⟩:=h;exact(a,xs,e,g _ _ h1,Rps.mono g ds xs h2)
 | .dict _,_,h=>by simp only[Rp]at h
def Rps.mono{H H':Hp}(g:Same H H'):∀(ds:List PyData)(xs:List V),Rps H ds xs->Rps H' ds xs
 | [],xs,h=>by simpa only [Rps] using h
 | d::ds,xs,h=>by
  simp only[Rps]at h ⊢;obtain⟨x,r,e,h1,h2⟩:=h;exact(x,r,e,Rp.mono g d x h1,Rps.mono g ds r h2)
end
section
mutual
def Rp.reads(I:Inv X pins L H s):∀(d:PyData)(v:V)(u:ca),Rp H d v->RelV v u->∃ as,Reads s.heap u d as
 | .none,v,u,h,r=>by
  simp only[Rp]at h;subst h;cases (show u=Value.none from r);exact(_,.none)
 | .bool b,v,u,h,r=>by
  simp only[Rp]at h;subst h;cases (show u=Value.bool b from r);exact(_,.bool b)
 | .int i,v,u,h,r=>by
  simp only[Rp]at h;subst h;obtain⟨t,e⟩:=(show ∃ t,u=Value.int i t from r);subst e;exact(_,.int i t)
 | .str x,v,u,h,r=>by
  simp only[Rp]at h;subst h;obtain⟨t,e⟩:=(show ∃ t,u=Value.str x t from r);subst e;exact(_,.str x t)
 | .list ds,v,u,h,r=>by
  simp only[Rp]at h;obtain⟨a,xs,e,h1,h2⟩:=h;subst e;cases (show u=Value.ref a from r);obtain⟨_,its,n,hv,hg⟩:=(show kaz X.prog X.w H s.heap a (.lst xs)from I.hok a _ h1);obtain⟨as,q⟩:=Rps.reads I ds xs its h2 hv;exact(_,.list hg rfl rfl q)
 | .tuple ds,v,u,h,r=>by
  simp only[Rp]at h;obtain⟨a,xs,e,h1,h2⟩:=h;subst e;cases (show u=Value.ref a from r);obtain⟨_,its,hv,o,hg,hc,n,hd⟩:=(show kaz X.prog X.w H s.heap a (.tup xs)from I.hok a _ h1);obtain⟨as,q⟩:=Rps.reads I ds xs its h2 hv;exact(_,.tuple hg hc hd q)
 | .dict _,v,u,h,r=>by simp only[Rp]at h
def Rps.reads(I:Inv X pins L H s):∀(ds:List PyData)(xs:List V)(us:List ca),Rps H ds xs->Vals xs us->∃ as,ReadsAll s.heap us ds as
 | [],xs,us,h,r=>by
  simp only[Rps]at h;subst h;cases r;exact(_,.nil)
 | d::ds,xs,us,h,r=>by
  simp only[Rps]at h;obtain⟨x,rr,e,h1,h2⟩:=h;subst e;cases r with
  | cons r1 r2 =>
   obtain⟨as,q1⟩:=Rp.reads I d x _ h1 r1;obtain⟨bs,q2⟩:=Rps.reads I ds rr _ h2 r2;exact(_,.cons q1 q2)
end
def rEqD(f:Bool->Bool):R2:=λx y H Q=>∃ dx dy,Rp H dx x/\Rp H dy y/\dx.canLay0=true/\dy.canLay0=true/\min dx.depth dy.depth<=60/\Q (.bl (f (PyData.eqv dx dy))) H
def ziF(U:Room k X.A):OpR X (cQ .Eq) (rEqD id):=by
 intro pins s L H x y v u Q I rx ry h;obtain⟨dx,dy,h1,h2,l1,l2,hd,q⟩:=h;obtain⟨as,r1⟩:=Rp.reads I dx x v h1 rx;obtain⟨bs,r2⟩:=Rp.reads I dy y u h2 ry;exact SeqAt.compareEq_reads r1 r2 l1 l2 (by have:=U.units;omega) (.bl _,H,I,V,q)
def ziP(U:Room k X.A):OpR X (cQ .NotEq) (rEqD not):=by
 intro pins s L H x y v u Q I rx ry h;obtain⟨dx,dy,h1,h2,l1,l2,hd,q⟩:=h;obtain⟨as,r1⟩:=Rp.reads I dx x v h1 rx;obtain⟨bs,r2⟩:=Rp.reads I dy y u h2 ry;exact SeqAt.compareNe_reads r1 r2 l1 l2 (by have:=U.units;omega) (.bl _,H,I,V,q)
end
def Itz(K:bh)(a b:Addr):It :=
 (λi H=>∃ xs ys x y,SqL K H a xs/\SqL K H b ys/\xs[i]?=some x/\ys[i]?=some y,
   λi H v H'=>∃ T x y,v=.ref T/\H T=none/\H'=upd H T (.tup [x,y])/\(∀ xs,SqL K H a xs->xs[i]?=some x)/\(∀ ys,SqL K H b ys->ys[i]?=some y),
   λi H=>∃ xs ys,SqL K H a xs/\SqL K H b ys/\(xs.length<=i\/ys.length<=i))
def ZipAt(z TI TO i1 i2 a b:Addr)(i:Nat)(h:Heap):Prop:=IsZip h z TI TO .none/\IsPair h TI (.ref i1) (.ref i2)/\(∃ u v,IsPair h TO u v)/\h.IsListIter i1 a i/\h.IsListIter i2 b i
def zfl{K:bh} z TI TO i1 i2 a b (bE:ZipApart z TI TO i1 i2 a b) :
  Turn P w K (.Tuple elts k1 pos) (Itz K a b) [z,TI,TO,i1,i2] z (ZipAt z TI TO i1 i2 a b) where
 mem:=by simp
 obj:=λi h st c hc=>by
  obtain⟨hz,hTI,⟨u,v,hTO⟩,⟨o1,e1,_,d1⟩,⟨o2,e2,_,d2⟩⟩:=st;simp only[wG,vR,or_false]at hc
  rcases hc with rfl|rfl|rfl|rfl|rfl
  ·exact(_,hz,λv z=>nomatch z)
  ·exact(_,hTI,λv z=>nomatch z)
  ·exact(_,hTO,λv z=>nomatch z)
  ·exact(o1,e1,λv z=>by rw[d1]at z;cases z)
  ·exact(o2,e2,λv z=>by rw[d2]at z;cases z)
 keep:=λi h h' st k=>by
  obtain⟨hz,hTI,⟨u,v,hTO⟩,h1,h2⟩:=st;exact(k z (by simp) _ hz,k TI (by simp) _ hTI,(u,v,k TO (by simp) _ hTO),h1.at λo e=>k i1 (by simp) o e,h2.at λo e=>k i2 (by simp) o e)
 item:=by
  intro X hP hw hK hc i pins s L H E I hf st hg;subst hP hw hK;obtain⟨hz,hTI,⟨u0,v0,hTO⟩,h1,h2⟩:=st;obtain⟨xs,ys,x,y,q1,q2,ex,ey⟩:=hg;obtain⟨its1,rv1,p1,_⟩:=I.list q1;obtain⟨its2,rv2,p2,_⟩:=I.list q2;obtain⟨u,hu,ru⟩:=rv1.get ex;obtain⟨u',hu',ru'⟩:=rv2.get ey;refine wpAny_pyNext_zip_item bE hz hTI hTO h1 h2 p1.isList p2.isList (by simpa using hu) (by simpa using hu') λh' z' TO' i1' i2' T' sz keep=>?_
  refine(Z,wpAny_letOwnedTupleGo_zip z' λh'' z'' sb=>?_);have hlt:∀ c o,s.heap.get? c=some o->c<s.heap.objs.size:=λc o e=>Heap.lt_size e
  have zlt:=hlt _ _ hz;have TOlt:=hlt _ _ hTO;have TIlt:=hlt _ _ hTI;have i1lt:= let ⟨o,e,_⟩:=h1;hlt _ _ e
  have i2lt:= let ⟨o,e,_⟩:=h2;hlt _ _ e
  have fz:=hf z (by simp);have fTO:=hf TO (by simp);have f1:=hf i1 (by simp);have f2:=hf i2 (by simp);have nT:= I.fresh;have keep2:= λc o c1 c2 c3 c4 e=>sb.extBut c o c1 (keep c o c1 c2 c3 c4 e)
  have hT:h''.get? s.heap.objs.size=some { cls:=.type "tuple",data:=.seq #[u,u'] }:=sb.extBut _ _ (wa5 zlt) T';have TOK:IsTup h'' s.heap.objs.size [u,u'].toArray:=(_,hT,V,Z);refine(.ref s.heap.objs.size,upd H s.heap.objs.size (.tup [x,y]),?_,V,(_,x,y,V,nT,V,λzs h=>by rw[I.list_inj h q1];exact ex,λzs h=>by rw[I.list_inj h q2];exact ey),(z'',?_,(u,u',?_),?_,?_),?_)
  ·have nch:∀ c,H c≠none->c≠z/\c≠TO/\c≠i1/\c≠i2:=λc hc=>(λe=>hc (by rw[e];exact fz.1),λe=>hc (by rw[e];exact fTO.1),λe=>hc (by rw[e];exact f1.1),λe=>hc (by rw[e];exact f2.1))
   refine Inv.step (s:=s) (g':=s.gens) (d':=s.drawn) (t':=s.toks) (ch:=[z,TO,i1,i2]) (h':=h'') I (λb hb=>?_) (λb o _ _ hc e _=>?_) (λb o _ _ hc e _=>(o.slots,?_)) (λb o _ e n=>?_) (λb o hc e=>(o,?_)) (λb xs e=>?_) (λb o v e=>?_) (λb ps e=>(#[],?_)) (λm hm=>?_) (λb o e=>?_) I.bare
   ·simp only[wG,vR,or_false]at hb
    rcases hb with rfl|rfl|rfl|rfl
    ·exact(fz.2.2.2.1,fz.2.1,fz.2.2.2.2.1,fz.2.2.2.2.2)
    ·exact(fTO.2.2.2.1,fTO.2.1,fTO.2.2.2.2.1,fTO.2.2.2.2.2)
    ·exact(f1.2.2.2.1,f1.2.1,f1.2.2.2.2.1,f1.2.2.2.2.2)
    ·exact(f2.2.2.2.1,f2.2.1,f2.2.2.2.2.1,f2.2.2.2.2.2)
   ·simp only[wG,vR,or_false,not_or]at hc;exact keep2 b o hc.1 hc.2.1 hc.2.2.1 hc.2.2.2 e
   ·simp only[wG,vR,or_false,not_or]at hc;exact keep2 b o hc.1 hc.2.1 hc.2.2.1 hc.2.2.2 e
   ·rw[zE (vp (Heap.lt_size e))];exact n
   ·simp only[wG,vR,or_false,not_or]at hc;exact keep2 b o hc.1 hc.2.1 hc.2.2.1 hc.2.2.2 e
   ·rw[zE (zR e nT)];exact e
   ·rw[zE (zR e nT)];exact e
   ·rw[zE (zR e nT)];simpa using e
   ·obtain⟨o,es,ep,ho,r⟩:=hm;exact(o,es,ep,keep2 _ o (Ne.symm fz.2.1) (Ne.symm fTO.2.1) (Ne.symm f1.2.1) (Ne.symm f2.2.1) ho,r)
   ·by_cases hb:b=s.heap.objs.size
    ·subst hb;rw[za]at e;cases e;exact(by show 2<=sizeLine;decide,[u,u'],.cons ru (.cons ru' .nil),TOK)
    ·rw[zE hb]at e;refine(I.hok b o e).stay (λc v hc q=>?_) (λc q=>by rw[zE (zR q nT)];exact q) λc xs q=>by rw[zE (zR q nT)];exact q
     have hne:H c≠none:=by
      rcases hc with rfl|hc
      ·rw[e];exact λz=>nomatch z
      ·rw[hc];exact λz=>nomatch z
     obtain⟨c1,c2,c3,c4⟩:=nch c hne;exact keep2 c v c1 c2 c3 c4 q
  ·exact sb.extBut _ _ bE.TIz (keep _ _ bE.TIz bE.TITO bE.TIi1 bE.TIi2 hTI)
  ·exact sb.extBut _ _ bE.TOz TO'
  ·exact i1'.at λo e=>sb.extBut _ _ bE.i1z e
  ·exact i2'.at λo e=>sb.extBut _ _ bE.i2z e
  ·intro b hb;rw[zE ?_]
   ·exact(hf b hb).1
   ·simp only[wG,vR,or_false]at hb
    rcases hb with rfl|rfl|rfl|rfl|rfl
    ·exact vp zlt
    ·exact vp TIlt
    ·exact vp TOlt
    ·exact vp i1lt
    ·exact vp i2lt
 done:=by
  intro X hP hw hK hc i pins s L H E I hf st hg;subst hP hw hK;obtain⟨hz,hTI,⟨u0,v0,hTO⟩,h1,h2⟩:=st;obtain⟨xs,ys,q1,q2,D⟩:=hg;obtain⟨its1,rv1,p1,_⟩:=I.list q1;obtain⟨its2,rv2,p2,_⟩:=I.list q2;have l1:=rv1.length;have l2:=rv2.length;have fz:=hf z (by simp);have fTO:=hf TO (by simp);have f1:=hf i1 (by simp);have f2:=hf i2 (by simp);refine wpAny_pyNext_zip_end (I.ok.hd hc) bE hz hTI hTO h1 h2 p1.isList p2.isList (by
   rcases D with D|D
   ·exact .inl (by simp;omega)
   ·exact .inr (by simp;omega)) λh' keep=>(V,?_)
  have nch:∀ c,H c≠none->c≠z/\c≠TO/\c≠i1/\c≠i2:=λc hc=>(λe=>hc (by rw[e];exact fz.1),λe=>hc (by rw[e];exact fTO.1),λe=>hc (by rw[e];exact f1.1),λe=>hc (by rw[e];exact f2.1))
  refine Inv.step (g':=s.gens) (d':=s.drawn) (t':=s.toks) (ch:=[z,TO,i1,i2]) (h':=h') I (λb hb=>?_) (λb o _ _ hc e _=>?_) (λb o _ _ hc e _=>(o.slots,?_)) (λb o _ e n=>n) (λb o hc e=>(o,?_)) (λb xs e=>e) (λb o v e=>e) (λb ps e=>(#[],by simpa using e)) (λm hm=>?_) (λb o e=>?_) I.bare
  ·simp only[wG,vR,or_false]at hb
   rcases hb with rfl|rfl|rfl|rfl
   ·exact(fz.2.2.2.1,fz.2.1,fz.2.2.2.2.1,fz.2.2.2.2.2)
   ·exact(fTO.2.2.2.1,fTO.2.1,fTO.2.2.2.2.1,fTO.2.2.2.2.2)
   ·exact(f1.2.2.2.1,f1.2.1,f1.2.2.2.2.1,f1.2.2.2.2.2)
   ·exact(f2.2.2.2.1,f2.2.1,f2.2.2.2.2.1,f2.2.2.2.2.2)
  ·simp only[wG,vR,or_false,not_or]at hc;exact keep b o hc.1 hc.2.1 hc.2.2.1 hc.2.2.2 e
  ·simp only[wG,vR,or_false,not_or]at hc;exact keep b o hc.1 hc.2.1 hc.2.2.1 hc.2.2.2 e
  ·simp only[wG,vR,or_false,not_or]at hc;exact keep b o hc.1 hc.2.1 hc.2.2.1 hc.2.2.2 e
  ·obtain⟨o,es,ep,ho,r⟩:=hm;exact(o,es,ep,keep _ o (Ne.symm fz.2.1) (Ne.symm fTO.2.1) (Ne.symm f1.2.1) (Ne.symm f2.2.1) ho,r)
  ·refine(I.hok b o e).stay (λc v hc q=>?_) (λc q=>q) λc xs q=>q
   have hne:H c≠none:=by
    rcases hc with rfl|hc
    ·rw[e];exact λz=>nomatch z
    ·rw[hc];exact λz=>nomatch z
   obtain⟨c1,c2,c3,c4⟩:=nch c hne;exact keep c v c1 c2 c3 c4 q
 self:=λ_ _ _ _ _ st h=>wpAny_pyIter_zip st.1 h
section
def iZip(K:bh)(ta:TA):TI:=λL H R=>ta L H λvs H1=>∃ a b xs ys,vs=[.ref a,.ref b]/\SqL K H1 a xs/\SqL K H1 b ys/\R (Itz K a b) H1
def zi8 {p pos:Pos} {elts:List Expr} {k1:Nat} {tpos:Pos} (hg:Gl X "zip") (hm:X.mg "zip" = none) (ha:PA X [a,b] ta) (hs:cv [a,b] X.env=[(false,eval a X.env),(false,eval b X.env)]:=by rfl) (hs2:cv [b] X.env=[(false,eval b X.env)]:=by rfl) :
  PI X (.Tuple elts k1 tpos) (.Call (.Name "zip" p) [a,b] [] pos) (iZip X.K ta):=by
 intro pins s L H R I h;refine cU (qJ I hg hm zh9 ?_);refine PyProof.Rows.callWith_type1 (thn (ha pos pins s L H _ I h) λus s1 ⟨vs,H1,I1,r1,q1⟩=>?_) (by rw[hs,hs2]) (by rw[hs2];rfl);obtain⟨a1,b1,xs,ys,rfl,h1,h2,q⟩:=q1;obtain⟨u,w',rfl,ra,rb⟩:=Vals.two r1;cases ra;cases rb;obtain⟨its1,rv1,p1,_⟩:=I1.list h1;obtain⟨its2,rv2,p2,_⟩:=I1.list h2;have l1:= let ⟨_,e,_⟩:=p1.isList;Heap.lt_size e
 have l2:= let ⟨_,e,_⟩:=p2.isList;Heap.lt_size e
 refine call_zip_2 p1.isList p2.isList λh' hz hTI hTO hi1 hi2 hsz keep=>?_
 have I2:Inv X pins L H1 { s1 with heap:=h' }:=I1.kept (t':=s1.toks) keep;refine wpAny_pyIter_zip hz ?_;refine(_,_,_,_,H1,V,I2,zfl _ _ _ _ _ a1 b1 (zipApart_new l1 l2),(hz,hTI,(_,_,hTO),hi1,hi2),λb hb=>?_,q);have hb':s1.heap.objs.size<=b:=by
  simp only[wG,vR,or_false]at hb
  rcases hb with rfl|rfl|rfl|rfl|rfl <;> omega
 exact I1.fpOk hb' (I1.hok.fresh hb')
def qY(ns:List Int):∀ j,j<=ns.length->preSum (λi=>ns.getD i 0) j =(ns.take j).sum
 | 0,_=>by simp[preSum]
 | j+1,h=>by
  have hj:j<ns.length:=h;rw[preSum,qY ns j (uw hj),vU hj,wbx];simp[Gu,hj]
def zcO (hc:X.calm=true):kau X (.builtin "sum") (λxs H Q=>∃ p ns,xs=[.ref p]/\SqL X.K H p ((ns:List Int).map V.int)/\Q (.int ns.sum) H):=by
 intro pins s L H xs us Q I r h;obtain⟨p,ns,rfl,hq,q⟩:=h;obtain⟨u,rfl,ru⟩:=Vals.one r;cases ru;obtain⟨its,rv,pl,_⟩:=I.list hq;have hh:X.A.in1.handled=none:=I.ok.hd hc;have lt:= let ⟨_,e,_⟩:=pl.isList;Heap.lt_size e
 have hl:its.length=ns.length:=by rw[← rv.length,wc]
 refine call_sum_walkG (cN pl.isList ?_);refine(s.heap.objs.size,_,_,_,_,_,λi=>ns.getD i 0,V,Walks.list hh s.heap.objs.size p (vp lt) its.toArray,((_,Heap.get?_push_size _ rfl,V,V),pl.isList.at λo e=>Heap.get?_push_of_some _ e),λb hb=>?_,λi v hv=>?_,λh' tk t' keep=>?_)
 ·simp only[wG,vR,or_false]at hb
  rcases hb with rfl|rfl
  ·rw[Heap.size_push];exact uO _
  ·rw[Heap.size_push];exact gS lt
 ·have hv':its[i]?=some v:=by simpa using hv
  have hi:i<ns.length:=by rw[← hl];exact(wu.mp hv').1
  obtain⟨u,hu,ru⟩:=rv.get (by rw[wk,wa hi];rfl);rw[hu]at hv';cases hv';obtain⟨t,e⟩:=ru;refine(t,?_);rw[e];simp[Gu,hi]
 ·have e:preSum (λi=>ns.getD i 0) its.toArray.size=ns.sum:=by
   rw[wV,hl,qY ns _ (wv _),ug]
  rw[e];refine(.int ns.sum,H,?_,(t',V),q);exact I.kept (h':=h') (t':=tk) λb o eb=>keep b o (by simp only[wG,vR,or_false];exact vp (Heap.lt_size eb)) (Heap.get?_push_of_some _ eb)
end
end L2
namespace L2
open PySem PySem.Spec PyProof.Rows Nm
def toD:Nb->PyData
 | .q r=>.tuple [.int r.num,.int (r.den:Int)]
 | .z i=>.int i
def RN(H:Hp)(x:Nb)(v:V):Prop:=Rp H (toD x) v
def RN.q(h:RN H (.q r) v):∃ a,v=.ref a/\H a=some (.tup [.int r.num,.int (r.den:Int)]):=by
 simp only[RN,toD,Rp,Rps]at h;obtain⟨a,xs,e,h1,x,r1,e1,e2,y,r2,e3,e4,e5⟩:=h;subst e5 e4 e3 e2 e1;exact(a,e,h1)
def RN.of_q(h:H a=some (.tup [.int r.num,.int (r.den:Int)])):RN H (.q r) (.ref a):=by
 simp only[RN,toD,Rp,Rps];exact(a,Z,h,_,Z,V,_,Z,V,V)
def RN.z(h:RN H (.z i) v):v=.int i:=by
 simpa only [RN,toD,Rp] using h
def RN.of_z:RN H (.z i) (.int i):=by
 simp only[RN,toD,Rp]
def RN.mono(h:RN H x v)(g:Same H H'):RN H' x v:=Rp.mono g _ _ h
def yy x:(toD x).canLay0=true:=by
 cases x <;> rfl
def yO x:(toD x).depth<=1:=by
 cases x <;> simp[toD,PyData.depth,PyData.depthAll]
def jh x y:PyData.eqv (toD x) (toD y)=decide (x=y):=by
 cases x with
 | q r =>
  cases y with
  | q s =>
   show((r.num == s.num) && (((r.den:Int) ==(s.den:Int)) && true))=decide (Nb.q r=Nb.q s)
   by_cases h:r=s
   ·subst h;simp
   ·have h':= λz=>h (Nb.q.inj z)
    rw[bq h'];rw[Bool.and_eq_false_iff]
    by_cases h1:r.num=s.num
    ·right
     rw[Bool.and_true];have:¬ r.den =(s.den:Int):=λz=>h (Rat.ext h1 ())
     simp[this]
    ·left;simp[h1]
  | z j=>simp[toD,PyData.eqv]
 | z i =>
  cases y with
  | q s=>simp[toD,PyData.eqv]
  | z j =>
   show(i == j)=decide (Nb.z i=Nb.z j)
   by_cases h:i=j
   ·subst h;simp
   ·have h':= λz=>h (Nb.z.inj z)
    rw[bq h'];simp[h]
def nsm(n:Nat):Nb->Prop
 | .q r=>Sm n r.num/\Sm n (r.den:Int)
 | .z i=>Sm n i
def nsm.mono(h:nsm m x)(hmn:m<=n):nsm n x:=by
 cases x with
 | q r=>exact(Sm.mono h.1 hmn,Sm.mono h.2 hmn)
 | z i=>exact Sm.mono (show Sm m i from h) hmn
theorem ZC(h0:0<=i)(h1:i<k)(h9:k<2305843009213693952):Sm 61 i:=by
 unfold Sm;have:2^61=2305843009213693952:=by decide
 omega
def YI{t b:Int}(hb:b≠0):((ul t b).den:Int).natAbs<=b.natAbs:=by
 have h:=(qO (t:=t) hb).2;rw[← h,ur (jK t b)];have e:=gw (jK t b);have h1:(b / sg t b*sg t b).natAbs=b.natAbs:=by rw[e]
 rw[vS]at h1;have h2:0 <(sg t b).natAbs:=Gn.mpr (zeW hb);rw[← h1];exact uA _ h2
def Xo(hb:b≠0):(ul t b).num.natAbs<=t.natAbs:=by
 have h:=(qO (t:=t) hb).1;rw[← h,ur (jZ t b)];have e:=gw (jZ t b);have h1:(t / sg t b*sg t b).natAbs=t.natAbs:=by rw[e]
 rw[vS]at h1;have h2:0 <(sg t b).natAbs:=Gn.mpr (zeW hb);rw[← h1];exact uA _ h2
def yS(hb:b≠0)(ht:Sm m t)(hs:Sm n b):Sm m (ul t b).num/\Sm n ((ul t b).den:Int):=(ht.le (Xo hb),hs.le (YI hb))
def zdi(J:k≠0)(k0:0<=k)(a:Int):Nb.ok k (.z (a.fmod k)):=(J,wI a (),wW a ())
def xx{x y:Nb}(D:x.ok k)(hy:y.ok k):(k=0/\∃ r s,x=.q r/\y=.q s)\/(k≠0/\∃ i j,x=.z i/\y=.z j/\0<=i/\i<k/\0<=j/\j<k):=by
 cases x with
 | q r =>
  cases y with
  | q s=>exact .inl (D,r,s,V,V)
  | z j=>exact bw (show k=0 from D) hy.1
 | z i =>
  cases y with
  | q s=>exact bw (show k=0 from hy) D.1
  | z j=>exact .inr (D.1,i,j,V,V,D.2.1,D.2.2,hy.2.1,hy.2.2)
section
def jf(k0:0<=k)(D:x.ok k)(hy:y.ok k):(nsub k x y).ok k:=by
 rcases xx D hy with⟨h,r,s,rfl,rfl⟩|⟨h,i,j,rfl,rfl,_⟩
 ·exact h
 ·exact zdi h k0 _
def Qe(k0:0<=k)(D:x.ok k)(hy:y.ok k):(nmul k x y).ok k:=by
 rcases xx D hy with⟨h,r,s,rfl,rfl⟩|⟨h,i,j,rfl,rfl,_⟩
 ·exact h
 ·exact zdi h k0 _
def zej(J:kab k)(h:k≠0)(hn:61<=n)(a:Int):nsm n (.z (a.fmod k)):=by
 have hl:=J.lt;have h0:=wI a (show 0<k by omega);have h1:=wW a (show 0<k by omega);exact(ZC h0 h1 hl.2).mono hn
def yL(r s:Rat):(r.den:Int) *(s.den:Int)≠0:=Ge (yV r) (yV s)
def zgO(J:kab k)(D:x.ok k)(hy:y.ok k)(sx:nsm m x)(sy:nsm m y)(hm:61<=m):nsm (m+m) (nmul k x y):=by
 rcases xx D hy with⟨h,r,s,rfl,rfl⟩|⟨h,i,j,rfl,rfl,_⟩
 ·show Sm _ (r*s).num/\Sm _ ((r*s).den:Int);rw[← QE];exact yS (yL r s) (sx.1.mul sy.1) (sx.2.mul sy.2)
 ·exact zej J h () _
def zhT(J:kab k)(D:x.ok k)(hy:y.ok k)(ne:y≠nnum k 0)(sx:nsm m x)(sy:nsm m y)(hm:61<=m):nsm (m+m) (ndiv k x y):=by
 rcases xx D hy with⟨h,r,s,rfl,rfl⟩|⟨h,i,j,rfl,rfl,_⟩
 ·subst h;have s0:s≠0:=λz=>ne (by rw[z];rfl)
  show Sm _ (r / s).num/\Sm _ ((r / s).den:Int);rw[← zd3];exact yS (Ge (yV r) (zgb s0)) (sx.1.mul sy.2) (sx.2.mul sy.1)
 ·exact zej J h () _
end
section
variable{R S:α->β->Prop}
def zd:∀ {xs:List α} {ys:List β},Paired R xs ys->xs.length=ys.length
 | _,_,.nil=>rfl
 | _,_,.cons _ t=>congrArg (·+1) (zd t)
def yt(f:∀ a b,R a b->S a b):∀ {xs:List α} {ys:List β},Paired R xs ys->Paired S xs ys
 | _,_,.nil=>.nil
 | _,_,.cons r t=>.cons (f _ _ r) (yt f t)
def xX:∀ {xs xs':List α} {ys ys':List β},Paired R xs ys->Paired R xs' ys'->Paired R (xs++xs') (ys++ys')
 | _,_,_,_,.nil,s=>s
 | _,_,_,_,.cons r t,s=>.cons r (xX t s)
def zy(h:Paired R xs ys)(r:R a b):Paired R (xs++[a]) (ys++[b]):=xX h (.cons r .nil)
def zJ:∀ {xs:List α} {ys:List β} {i:Nat} {a:α},Paired R xs ys->xs[i]?=some a->∃ b,ys[i]?=some b/\R a b
 | _,_,_,_,.nil,e=>by simp at e
 | _,_,0,_,.cons r _,e=>by simp at e;subst e;exact(Z,r)
 | _,_,i+1,a,.cons _ t,e=>by
  obtain⟨b,h1,h2⟩:=zJ t (by simpa using e);exact(b,by simpa using h1,h2)
def zG:∀ {xs:List α} {ys:List β} {i:Nat} {b:β},Paired R xs ys->ys[i]?=some b->∃ a,xs[i]?=some a/\R a b
 | _,_,_,_,.nil,e=>by simp at e
 | _,_,0,_,.cons r _,e=>by simp at e;subst e;exact(Z,r)
 | _,_,i+1,b,.cons _ t,e=>by
  obtain⟨a,h1,h2⟩:=zG t (by simpa using e);exact(a,by simpa using h1,h2)
def jT:∀ {xs:List α} {ys:List β} {b:β},Paired R xs ys->b∈ys->∃ a∈xs,R a b
 | _,_,_,.nil,e=>nomatch e
 | _,_,b,.cons r t,e=>by
  rcases wG.mp e with rfl|e
  ·exact(_,wt,r)
  ·obtain⟨a,h1,h2⟩:=jT t e;exact(a,ww _ h1,h2)
end
def zf{α:Type}{l:List α}{x:α}(h:l[i]?=some x):l.take (i+1)=l.take i++[x]:=by
 obtain⟨hi,e⟩:=wu.mp h;rw[vU hi,e]
def kag(H:Hp)(xs:List Nb)(a:Addr):Prop:=∃ vs,H a=some (.lst vs)/\Paired (RN H) xs vs
def kac(H:Hp)(M:TB)(top:Addr)(ras:List Addr):Prop:=H top=some (.lst (ras.map V.ref))/\Paired (kag H) M ras
def zW(g:Same H H')(h:Paired (RN H) xs vs):Paired (RN H') xs vs:=yt (λ_ _ r=>r.mono g) h
def kag.mono(h:kag H xs a)(g:Same H H'):kag H' xs a :=
 let ⟨vs,h1,h2⟩:=h
 (vs,g _ _ h1,zW g h2)
def kac.mono(h:kac H M top ras)(g:Same H H'):kac H' M top ras:=(g _ _ h.1,yt (λ_ _ r=>r.mono g) h.2)
def kac.row{i:Nat}(h:kac H M top ras)(e:(ras.map V.ref)[i]?=some v):∃ xs a,M[i]?=some xs/\ras[i]?=some a/\v=.ref a/\kag H xs a:=by
 rw[wk]at e;obtain⟨a,ha,rfl⟩:=wY.mp e;obtain⟨xs,D,r⟩:=zG h.2 ha;exact(xs,a,D,ha,V,r)
def rowD(xs:List Nb):PyData:=.list (xs.map toD)
def tabD(M:TB):PyData:=.list (M.map rowD)
def zdL:∀ {xs:List Nb} {vs:List V},Paired (RN H) xs vs->Rps H (xs.map toD) vs
 | _,_,.nil=>by simp[Rps]
 | _,_,.cons r t=>by
  simp only[gm,Rps];exact(_,Z,r,zdL t)
def kag.rp(h:kag H xs a):Rp H (rowD xs) (.ref a):=by
 obtain⟨vs,h1,h2⟩:=h;simp only[rowD,Rp];exact(a,vs,V,h1,zdL h2)
def QW:∀ {M:TB} {ras:List Addr},Paired (kag H) M ras->Rps H (M.map rowD) (ras.map V.ref)
 | _,_,.nil=>by simp[Rps]
 | _,_,.cons r t=>by
  simp only[gm,Rps];exact(_,Z,r.rp,QW t)
def kac.rp(h:kac H M top ras):Rp H (tabD M) (.ref top):=by
 simp only[tabD,Rp];exact(top,Z,h.1,QW h.2)
def qz{α:Type} f (h:∀ x,(f x).canLay0=true):∀ l:List α,PyData.canLayAll0 (l.map f)=true
 | []=>rfl
 | x::r=>by
  show((f x).canLay0 && PyData.canLayAll0 (r.map f))=true;rw[h x,qz f h r];rfl
def xU{α:Type} f n (h:∀ x,(f x).depth<=n):∀ l:List α,PyData.depthAll (l.map f)<=n
 | []=>vD _
 | x::r=>by
  exact Nat.max_le.mpr (h x,xU f n h r)
def jx xs:(rowD xs).canLay0=true:=qz toD yy xs
def ju xs:(rowD xs).depth<=2:=GT (xU toD 1 yO xs)
def qg M:(tabD M).canLay0=true:=qz rowD jx M
def jq M:(tabD M).depth<=3:=GT (xU rowD 2 ju M)
def qC{α:Type} f (h:∀ x,PyData.eqv (f x) (f x)=true):∀ l:List α,PyData.eqvAll (l.map f) (l.map f)=true
 | []=>rfl
 | x::r=>by
  show(PyData.eqv (f x) (f x) && PyData.eqvAll (r.map f) (r.map f))=true;rw[h x,qC f h r];rfl
def YQ x:PyData.eqv (toD x) (toD x)=true:=by rw[jh];simp
def Zk xs:PyData.eqv (rowD xs) (rowD xs)=true:=qC toD YQ xs
def ZA M:PyData.eqv (tabD M) (tabD M)=true:=qC rowD Zk M
def Nxt(n i:Nat)(bz:Prop):Prop:=∃ m',m'<n - i/\m'=n - (i+1)/\i+1<=n/\bz
def nxt(h:i<n)(j:bz):Nxt n i bz:=(n - (i+1),(),V,h,j)
section
variable{K:bh}{g:TG}{tt:TT}{te:TE}{R:List V->Hp->Prop}
def zo(bz:Nat->List V->Hp->Prop)(h0:bz 0 [] H)(hl:∀ i ys H',i<=xs.length->bz i ys H'->SqL K H' a xs/\ys.length<sizeLine)
  (hs:∀ i x ys H',xs[i]?=some x->i<xs.length->bz i ys H'->g x σb H' λσ2 H2=>tt σ2 H2 λb H3=>if b=true then te σ2 H3 λy H4=>Nxt xs.length i (bz (i+1) (ys++[y]) H4)else Nxt xs.length i (bz (i+1) ys H3))
  (hd:∀ ys H',bz xs.length ys H'->R ys H') :
  ∃ W:Nat->Nat->List V->Hp->Prop,(∃ m,W 0 m [] H)/\∀ i m ys H,W i m ys H ->
   ((Itl K a).stop i H/\ys.length<=sizeLine/\R ys H) \/
   ((Itl K a).go i H/\ys.length<sizeLine/\∀ x H',(Itl K a).yld i H x H'->g x σb H' λσ2 H2=>tt σ2 H2 λb H3=>if b=true then te σ2 H3 λy H4=>∃ m',m'<m/\W (i+1) m' (ys++[y]) H4 else ∃ m',m'<m/\W (i+1) m' ys H3):=by
 refine(λi m ys H=>m=xs.length - i/\i<=xs.length/\bz i ys H,(xs.length,by simp,vD _,h0),?_)
 rintro i m ys H1 ⟨rfl,hi,j⟩
 obtain⟨q,hz⟩:=hl i ys H1 hi j
 by_cases hlt:i<xs.length
 ·refine .inr ((xs,xs[i],q,by simp[hlt]),hz,λx H' y=>?_);obtain⟨e,y⟩:=y;subst e;exact hs i x ys _ (y xs q) hlt j
 ·have e:i=xs.length:=by omega
  subst e;exact .inl ((xs,q,wv _),uw hz,hd ys H1 j)
def zO{lo:Int}(bz:Nat->List V->Hp->Prop)(h0:bz 0 [] H)(hl:∀ i ys H',i<=n->bz i ys H'->ys.length<sizeLine)
  (hs:∀ i ys H',i<n->bz i ys H'->g (.int (lo+i)) σb H' λσ2 H2=>tt σ2 H2 λb H3=>if b=true then te σ2 H3 λy H4=>Nxt n i (bz (i+1) (ys++[y]) H4)else Nxt n i (bz (i+1) ys H3))
  (hd:∀ ys H',bz n ys H'->R ys H') :
  ∃ W:Nat->Nat->List V->Hp->Prop,(∃ m,W 0 m [] H)/\∀ i m ys H,W i m ys H ->
   ((Itr lo n).stop i H/\ys.length<=sizeLine/\R ys H) \/
   ((Itr lo n).go i H/\ys.length<sizeLine/\∀ x H',(Itr lo n).yld i H x H'->g x σb H' λσ2 H2=>tt σ2 H2 λb H3=>if b=true then te σ2 H3 λy H4=>∃ m',m'<m/\W (i+1) m' (ys++[y]) H4 else ∃ m',m'<m/\W (i+1) m' ys H3):=by
 refine(λi m ys H=>m=n - i/\i<=n/\bz i ys H,(n,by simp,vD _,h0),?_)
 rintro i m ys H1 ⟨rfl,hi,j⟩
 have hz:=hl i ys H1 hi j
 by_cases hlt:i<n
 ·refine .inr (hlt,hz,λx H' y=>?_);obtain⟨e,y⟩:=y;subst e y;exact hs i ys _ hlt j
 ·have e:i=n:=by omega
  subst e;exact .inl (wv _,uw hz,hd ys H1 j)
def xu{a b:Addr}{xs zs:List V}(he:xs.length=zs.length)(bz:Nat->List V->Hp->Prop)(h0:bz 0 [] H)(hl:∀(i:Nat)(ys:List V)(H':Hp),i<=xs.length->bz i ys H'->SqL K H' a xs/\SqL K H' b zs/\ys.length<sizeLine)
  (hs:∀(i:Nat)(x z:V)(T:Addr)(ys:List V)(H':Hp),xs[i]?=some x->zs[i]?=some z->i<xs.length->H' T=none->bz i ys H'->g (.ref T) σb (upd H' T (.tup [x,z])) λσ2 H2=>tt σ2 H2 λb H3=>if b=true then te σ2 H3 λy H4=>Nxt xs.length i (bz (i+1) (ys++[y]) H4)else Nxt xs.length i (bz (i+1) ys H3))
  (hd:∀(ys:List V)(H':Hp),bz xs.length ys H'->R ys H') :
  ∃ W:Nat->Nat->List V->Hp->Prop,(∃ m,W 0 m [] H)/\∀ i m ys H,W i m ys H ->
   ((Itz K a b).stop i H/\ys.length<=sizeLine/\R ys H) \/
   ((Itz K a b).go i H/\ys.length<sizeLine/\∀ x H',(Itz K a b).yld i H x H'->g x σb H' λσ2 H2=>tt σ2 H2 λb H3=>if b=true then te σ2 H3 λy H4=>∃ m',m'<m/\W (i+1) m' (ys++[y]) H4 else ∃ m',m'<m/\W (i+1) m' ys H3):=by
 refine(λi m ys H=>m=xs.length - i/\i<=xs.length/\bz i ys H,(xs.length,by simp,vD _,h0),?_)
 rintro i m ys H1 ⟨rfl,hi,j⟩
 obtain⟨q1,q2,hz⟩:=hl i ys H1 hi j
 by_cases hlt:i<xs.length
 ·refine .inr ((xs,zs,xs[i],zs[i]'(),q1,q2,by simp[hlt],by simp[show i<zs.length by omega]),hz,λx H' y=>?_);obtain⟨T,u,v,rfl,hT,rfl,y1,y2⟩:=y;exact hs i u v T ys _ (y1 xs q1) (y2 zs q2) hlt hT j
 ·have e:i=xs.length:=by omega
  subst e;exact .inl ((xs,zs,q1,q2,.inl (wv _)),uw hz,hd ys H1 j)
end
end L2
namespace La
open Lean.Grind
section
variable{F:Type}[Field F]
inductive Span(S:(Nat->F)->Prop):(Nat->F)->Prop
 | zero:Span S (λ_=>0)
 | step (c:F) {r v:Nat->F} (h:S r) (t:Span S v):Span S (λj=>c*r j+v j)
variable{S T:(Nat->F)->Prop}
def Span.cast(h:Span S u)(e:∀ j,u j=v j):Span S v:=by
 have:u=v:=funext e;rw[← this];exact h
def Span.of(h:S v):Span S v:=(Span.step 1 h .zero).cast λj=>by grind
def Span.add(h:Span S u)(g:Span S v):Span S (λj=>u j+v j):=by
 induction h with
 | zero=>exact g.cast λj=>by grind
 | step c U _ ih=>exact(Span.step c U ih).cast λj=>by grind
def Span.smul c (h:Span S v):Span S (λj=>c*v j):=by
 induction h with
 | zero=>exact Span.zero.cast λj=>by grind
 | step d U _ ih=>exact(Span.step (c*d) U ih).cast λj=>by grind
def Span.lin a b (h:Span S u) (g:Span S v):Span S (λj=>a*u j+b*v j):=(h.smul a).add (g.smul b)
def Span.bind(f:∀ r,S r->Span T r)(h:Span S v):Span T v:=by
 induction h with
 | zero=>exact .zero
 | step c U _ ih=>exact((f _ U).smul c).add ih
def Span.mono(f:∀ r,S r->T r)(h:Span S v):Span T v:=h.bind λr q=>.of (f r q)
def Span.all{P:(Nat->F)->Prop}(h:Span S v)(z:P λ_=>0)(s:∀ c r v,S r->P v->P (λj=>c*r j+v j)):P v:=by
 induction h with
 | zero=>exact z
 | step c U _ ih=>exact s c _ _ U ih
def Span.zero_at(h:Span S v)(z:∀ r,S r->r i=0):v i=0 :=
 h.all (P:=λv=>v i=0) rfl λc r v U hv=>by
  show c*r i+v i=0;rw[z r U,hv];grind
abbrev Pv(F:Type):=Nat×(Nat->F)
def Rows(P:List (Pv F)):(Nat->F)->Prop:=λr=>∃ p∈P,p.2=r
structure Rr(n:Nat)(P:List (Pv F)):Prop where
 inc:P.Pairwise λa b=>a.1<b.1
 lt:∀ p∈P,p.1<n
 out:∀ p∈P,∀ j,n<=j->p.2 j=0
 bef:∀ p∈P,∀ j,j<p.1->p.2 j=0
 one:∀ p∈P,p.2 p.1=1
 oth:∀ p∈P,∀ q∈P,p.1≠q.1->p.2 q.1=0
def comb:List (Pv F)->(Nat->F)->Nat->F
 | [],_,_=>0
 | p::P,v,j=>v p.1*p.2 j+comb P v j
def zag c u v j:∀ P:List (Pv F),comb P (λi=>c*u i+v i) j=c*comb P u j+comb P v j
 | []=>by simp only[comb];grind
 | p::P=>by simp only[comb];rw[zag c u v j P];grind
def yv v j:∀ P:List (Pv F),(∀ p∈P,v p.1*p.2 j=0)->comb P v j=0
 | [],_=>rfl
 | p::P,h=>by
  simp only[comb];rw[h p wt,yv v j P λq hq=>h q (ww _ hq)];grind
def qc v:∀ P:List (Pv F),Span (Rows P) (comb P v)
 | []=>Span.zero.cast λ_=>rfl
 | p::P=>by
  have h:=(qc v P).mono (T:=Rows (p::P)) λr ⟨q,hq,e⟩=>(q,ww _ hq,e)
  exact(Span.step (v p.1) (p,wt,V) h).cast λj=>rfl
def Za{v:Nat->F}{p:Pv F}(j:Nat):∀ P:List (Pv F),P.Pairwise (λa b=>a.1<b.1)->p∈P->v p.1=1->(∀ q∈P,q.1≠p.1->v q.1=0)->comb P v j=p.2 j
 | [],_,h,_,_=>nomatch h
 | q::P,inc,h,h1,h0=>by
  rw[uY]at inc;simp only[comb]
  rcases wG.mp h with e|h
  ·subst e;rw[yv v j P λr U=>by rw[h0 r (ww _ U) (wa5 (inc.1 r U))];grind];rw[h1];grind
  ·rw[h0 q wt (vp (inc.1 p h)),Za j P inc.2 h h1 λr U=>h0 r (ww _ U)];grind
variable{P Q:List (Pv F)}
def Rr.self(R:Rr n P)(h:p∈P) j:comb P p.2 j=p.2 j:=Za j P R.inc h (R.one p h) λq hq ne=>R.oth p h q hq (Ne.symm ne)
def Rr.comb(R:Rr n P)(h:Span (Rows P) v):∀ j,La.comb P v j=v j:=λj =>
 h.all (P:=λv=>La.comb P v j=v j) (yv _ j P λp _=>by grind) λc r v ⟨p,C,e⟩ hv=>by
  rw[zag,hv,← e,R.self C j]
def Rr.out_of(R:Rr n P)(h:Span (Rows P) v) j (hj:n<=j):v j=0:=h.zero_at λr ⟨p,C,e⟩=>by rw[← e];exact R.out p C j hj
def Rr.lead(R:Rr n P){i:Nat}(h:Span (Rows P) v)(z:∀ j,j<i->v j=0)(ne:v i≠0):∃ p∈P,p.1=i:=by
 refine vV λno=>ne ?_
 rw[← R.comb h i];refine yv _ i P λp C=>?_
 rcases wbh p.1 i with g|g|g
 ·rw[z p.1 g];grind
 ·exact bw (p,C,g) no
 ·rw[R.bef p C i g];grind
def Yt:∀ {P Q:List (Pv F)},P.Pairwise (λa b=>a.1<b.1)->Q.Pairwise (λa b=>a.1<b.1)->(∀ p∈P,p∈Q)->(∀ q∈Q,q∈P)->P=Q
 | [],[],_,_,_,_=>rfl
 | [],q::_,_,_,_,h=>nomatch h q wt
 | p::_,[],_,_,h,_=>nomatch h p wt
 | p::P,q::Q,hP,hQ,h1,h2=>by
  rw[uY]at hP hQ;have e:p=q:=by
   rcases wG.mp (h1 p wt)with e|m
   ·exact e
   ·rcases wG.mp (h2 q wt)with e|m'
    ·exact e.symm
    ·have:=hP.1 q m';have:=hQ.1 p m;omega
  subst e;rw[Yt hP.2 hQ.2 (λr U=>?_) (λr U=>?_)]
  ·rcases wG.mp (h1 r (ww _ U))with e|m
   ·subst e;exact bw (hP.1 r U) (vY _)
   ·exact m
  ·rcases wG.mp (h2 r (ww _ U))with e|m
   ·subst e;exact bw (hQ.1 r U) (vY _)
   ·exact m
def Rr.leads(R:Rr n P)(R':Rr n Q)(sub:∀ v,Span (Rows P) v->Span (Rows Q) v){p:Pv F}(C:p∈P):∃ q∈Q,q.1=p.1 :=
 R'.lead (sub _ (.of (p,C,V))) (λj hj=>R.bef p C j hj) (by rw[R.one p C];grind)
def Rr.mem_of(R:Rr n P)(R':Rr n Q)(s1:∀ v,Span (Rows P) v->Span (Rows Q) v)(s2:∀ v,Span (Rows Q) v->Span (Rows P) v)(C:p∈P):p∈Q:=by
 obtain⟨q,hq,e⟩:=R.leads R' s1 C;have:p=q:=by
  refine Prod.ext e.symm (funext λj=>?_);rw[← R'.comb (s1 _ (.of (p,C,V))) j];refine Za j Q R'.inc hq (by rw[e];exact R.one p C) λr U ne=>?_
  obtain⟨p',hp',e'⟩:=R'.leads R s2 U;rw[← e'];exact R.oth p C p' hp' λz=>ne (by rw[← e',← z,e])
 rw[this];exact hq
def Rr.unique(R:Rr n P)(R':Rr n Q)(s1:∀ v,Span (Rows P) v->Span (Rows Q) v)(s2:∀ v,Span (Rows Q) v->Span (Rows P) v):P=Q :=
 Yt R.inc R'.inc (λ_ h=>R.mem_of R' s1 s2 h) λ_ h=>R'.mem_of R s2 s1 h
structure Sw(n c:Nat)(bx:(Nat->F)->Prop)(bE:List (Pv F))(W:List (Nat->F)):Prop where
 inc:bE.Pairwise λa b=>a.1<b.1
 lt:∀ p∈bE,p.1<c
 bef:∀ p∈bE,∀ j,j<p.1->p.2 j=0
 one:∀ p∈bE,p.2 p.1≠0
 oth:∀ p∈bE,∀ q∈bE,p.1≠q.1->p.2 q.1=0
 nil:∀ w∈W,∀ j,j<c->w j=0
 to:∀ r,bx r->Span (λr=>Rows bE r\/r∈W) r
 fro:∀ r,(Rows bE r\/r∈W)->Span bx r
def zfo n W bx (h1:∀ r,bx r->Span (·∈W) r) (h2:∀ r∈W,Span bx r):Sw n 0 bx ([]:List (Pv F)) W where
 inc:=.nil
 lt:=λp h=>nomatch h
 bef:=λp h=>nomatch h
 one:=λp h=>nomatch h
 oth:=λp h=>nomatch h
 nil:=λw _ j h=>bw h (ue j)
 to:=λr h=>(h1 r h).mono λ_=>.inr
 fro:=λr h=>h.elim (λ⟨p,C,_⟩=>nomatch C) (h2 r)
variable{W W':List (Nat->F)}
def Sw.skip(s:Sw n c bx bE W)(h:∀ w∈W,w c=0):Sw n (c+1) bx bE W :=
 { s with
  lt:=λp C=>gS (s.lt p C)
  nil:=λw hw j hj=>by
   rcases GB.mp hj with g|g
   ·exact s.nil w hw j g
   ·rw[g];exact h w hw }
def Clr(c:Nat)(l r r':Nat->F):Prop:=(∃ a b:F,a≠0/\∀ j,r' j=a*r j+b*l j)/\r' c=0
def Clr.back(h:Clr c l r r')(hl:Span S l)(U:Span S r'):Span S r:=by
 obtain⟨⟨a,b,ha,e⟩,_⟩:=h;exact(U.lin (1 / a) (-b / a) hl).cast λj=>by rw[e j];grind
def Clr.to(h:Clr c l r r')(hl:Span S l)(U:Span S r):Span S r':=by
 obtain⟨⟨a,b,ha,e⟩,_⟩:=h;exact(U.lin a b hl).cast λj=>by rw[e j]
def Sw.turn{α:Type}{E:List α}{a b:α->Pv F}(s:Sw n c bx (E.map a) W){l:Nat->F}(hl:l∈W)(lc:l c≠0)(hf:∀ e∈E,(b e).1 =(a e).1/\Clr c l (a e).2 (b e).2)
  (hW:∀ w∈W',(w∈W/\w c=0)\/∃ r∈W,Clr c l r w) (hW2:∀ w∈W,w∈W'\/w=l\/∃ w'∈W',Clr c l w w'):Sw n (c+1) bx (E.map b++[(c,l)]) W':=by
 have lz:= s.nil l hl;have ina:∀ e∈E,a e∈E.map a:=λe he=>wm.mpr (e,he,V)
 have alt:= λe he=>s.lt _ (ina e he)
 have fz:∀ e∈E,∀ j,j<c->(a e).2 j=0->(b e).2 j=0:=λe he j hj z=>by
  obtain⟨_,⟨x,y,ha,q⟩,_⟩:=hf e he;rw[q j,z,lz j hj];grind
 have mem:∀ q∈E.map b++[(c,l)],(∃ e∈E,q=b e)\/q =(c,l):=λq hq=>by
  rcases wq.mp hq with h|h
  ·obtain⟨p,C,e⟩:=wm.mp h;exact .inl (p,C,e.symm)
  ·exact .inr (wp.mp h)
 have inl:(c,l)∈E.map b++[(c,l)]:=wL _ (wp.mpr rfl);have ind:∀ e∈E,b e∈E.map b++[(c,l)]:=λe he=>vh _ (wm.mpr (e,he,V))
 refine(?_,λq hq=>?_,λq hq j hj=>?_,λq hq=>?_,λq hq q' hq' ne=>?_,λw hw j hj=>?_,λr U=>?_,λr U=>?_)
 ·rw[waV];refine(?_,waG _ _,λx D y hy=>?_)
  ·have h:=s.inc;rw[gi]at h ⊢;refine h.imp_of_mem λ{x y} D hy q=>?_
   rw[(hf x D).1,(hf y hy).1];exact q
  ·obtain⟨p,C,e⟩:=wm.mp D;rw[wp.mp hy,← e,(hf p C).1];exact alt p C
 ·rcases mem q hq with⟨p,C,rfl⟩|rfl
  ·rw[(hf p C).1];exact gS (alt p C)
  ·exact uO _
 ·rcases mem q hq with⟨p,C,rfl⟩|rfl
  ·rw[(hf p C).1]at hj;exact fz p C j (wbK hj (alt p C)) (s.bef _ (ina p C) j hj)
  ·exact lz j hj
 ·rcases mem q hq with⟨p,C,rfl⟩|rfl
  ·obtain⟨e1,⟨x,y,ha,e⟩,_⟩:=hf p C;rw[e1,e,lz _ (alt p C)];have:=s.one _ (ina p C);intro z
   grind
  ·exact lc
 ·rcases mem q hq with⟨p,C,rfl⟩|rfl
  ·rcases mem q' hq' with⟨p',hp',rfl⟩|rfl
   ·rw[(hf p C).1,(hf p' hp').1]at ne;rw[(hf p' hp').1];exact fz p C _ (alt p' hp') (s.oth _ (ina p C) _ (ina p' hp') ne)
   ·exact(hf p C).2.2
  ·rcases mem q' hq' with⟨p',hp',rfl⟩|rfl
   ·rw[(hf p' hp').1];exact lz _ (alt p' hp')
   ·exact bw rfl ne
 ·rcases hW w hw with⟨h,z⟩|⟨r,U,⟨⟨x,y,ha,e⟩,z⟩⟩
  ·rcases GB.mp hj with g|g
   ·exact s.nil w h j g
   ·rw[g];exact z
  ·rcases GB.mp hj with g|g
   ·rw[e j,s.nil r U j g,lz j g];grind
   ·rw[g];exact z
 ·refine(s.to r U).bind λu hu=>?_
  have bA:Span (λr=>Rows (E.map b++[(c,l)]) r\/r∈W') l:=.of (.inl (_,inl,V))
  rcases hu with⟨q,hq,rfl⟩|hu
  ·obtain⟨p,C,rfl⟩:=wm.mp hq;exact(hf p C).2.back bA (.of (.inl (_,ind p C,V)))
  ·rcases hW2 u hu with h|h|⟨w',h,k⟩
   ·exact .of (.inr h)
   ·rw[h];exact bA
   ·exact k.back bA (.of (.inr h))
 ·have bA:= s.fro l (.inr hl)
  rcases U with⟨q,hq,rfl⟩|U
  ·rcases mem q hq with⟨p,C,rfl⟩|rfl
   ·exact(hf p C).2.to bA (s.fro _ (.inl (_,ina p C,V)))
   ·exact bA
  ·rcases hW r U with⟨h,_⟩|⟨u,hu,k⟩
   ·exact s.fro _ (.inr h)
   ·exact k.to bA (s.fro _ (.inr hu))
def Sw.done(s:Sw n n bx bE W)(ow:∀ w∈W,∀ j,n<=j->w j=0)(od:∀ p∈bE,∀ j,n<=j->p.2 j=0):Rr n (bE.map λp=>(p.1,λj=>p.2 j / p.2 p.1)) /\
  (∀ v,Span (Rows (bE.map λp=>(p.1,λj=>p.2 j / p.2 p.1))) v->Span bx v)/\(∀ v,Span bx v->Span (Rows (bE.map λp=>(p.1,λj=>p.2 j / p.2 p.1))) v):=by
 have wz:∀ w∈W,∀ j,w j=0:=λw hw j=>by
  rcases wJ j n with g|g
  ·exact s.nil w hw j g
  ·exact ow w hw j g
 refine((?_,λq hq=>?_,λq hq j hj=>?_,λq hq j hj=>?_,λq hq=>?_,λq hq q' hq' ne=>?_),λv hv=>?_,λv hv=>?_)
 ·rw[gi];exact s.inc
 ·obtain⟨p,C,rfl⟩:=wm.mp hq;exact s.lt p C
 ·obtain⟨p,C,rfl⟩:=wm.mp hq;show p.2 j / p.2 p.1=0;rw[od p C j hj];grind
 ·obtain⟨p,C,rfl⟩:=wm.mp hq;show p.2 j / p.2 p.1=0;rw[s.bef p C j hj];grind
 ·obtain⟨p,C,rfl⟩:=wm.mp hq;have:=s.one p C
  grind
 ·obtain⟨p,C,rfl⟩:=wm.mp hq;obtain⟨p',hp',rfl⟩:=wm.mp hq';show p.2 p'.1 / p.2 p.1=0;rw[s.oth p C p' hp' ne];grind
 ·refine hv.bind λr ⟨q,hq,e⟩=>?_
  obtain⟨p,C,rfl⟩:=wm.mp hq;rw[← e];exact((s.fro p.2 (.inl (p,C,V))).smul (1 / p.2 p.1)).cast λj=>by grind
 ·refine(hv.bind s.to).bind λr U=>?_
  rcases U with⟨p,C,rfl⟩|U
  ·have:=s.one p C;have h:Span (Rows (bE.map λp=>(p.1,λj=>p.2 j / p.2 p.1))) (λj=>p.2 j / p.2 p.1):=Span.of (_,wm.mpr (p,C,V),V);exact(h.smul (p.2 p.1)).cast λj=>by grind
  ·exact Span.zero.cast λj=>(wz r U j).symm
end
end La
open La
namespace La
open Lean.Grind Nm
def ι{F:Type}[CommRing F](w:Int):F:=(Ring.intCast:IntCast F).intCast w
section
variable[CommRing F]
def ι_add x y:(ι (x+y):F)=ι x+ι y:=Ring.intCast_add x y
def ι_mul x y:(ι (x*y):F)=ι x*ι y:=Ring.intCast_mul x y
def ι_sub x y:(ι (x - y):F)=ι x - ι y:=Ring.intCast_sub x y
def ι_neg x:(ι (-x):F) = -ι x:=Ring.intCast_neg x
def ι_zero:(ι 0:F)=0:=Ring.intCast_zero
def ι_one:(ι 1:F)=1:=Ring.intCast_one
end
structure Kf(k:Int)(F:Type)[Field F] where
 to:Nb->F
 of:F->Nb
 ok:∀ x,(of x).ok k
 to_of:∀ x,to (of x)=x
 of_to:∀ x,x.ok k->of (to x)=x
 add:∀ {x y},x.ok k->y.ok k->to (nadd k x y)=to x+to y
 sub:∀ {x y},x.ok k->y.ok k->to (nsub k x y)=to x - to y
 mul:∀ {x y},x.ok k->y.ok k->to (nmul k x y)=to x*to y
 div:∀ {x y},x.ok k->y.ok k->y≠nnum k 0->to (ndiv k x y)=to x / to y
 num:∀ w:Int,to (nnum k w)=ι w
 zero:∀ w:Int,(ι w:F)=0↔k ∣ w
 rat:∀ r:Rat,k=0->to (.q r)*ι (r.den:Int)=ι r.num
 rest:∀ i:Int,k≠0->to (.z i)=ι i
def zpw{F:Type}[CommRing F](inv:F->F)(a:F):Int->F
 | .ofNat n=>a^n
 | .negSucc n=>inv (a^(n+1))
@[reducible] noncomputable def fieldOf [CommRing F] (h01:(0:F)≠1) (hinv:∀ a:F,∃ b:F,(a=0->b=0)/\(a≠0->a*b=1)):Field F :=
 have un:∀ a b c:F,a*b=1->a*c=1->b=c:=λa b c h1 h2=>by
  have:b=b *(a*c):=by rw[h2];grind
  have:c=c *(a*b):=by rw[h1];grind
  grind
 let inv:F->F:=λa=>Classical.choose (hinv a)
 have i0:∀ a,a=0->inv a=0:=λa=>(waQ (hinv a)).1
 have i1:∀ a,a≠0->a*inv a=1:=λa=>(waQ (hinv a)).2
 have ii:∀ a,inv (inv a)=a:=λa=>by
  by_cases h:a=0
  ·rw[i0 a h,i0 0 rfl,h]
  ·have h':inv a≠0:=λz=>by
    have:=i1 a h;rw[z]at this;exact h01 (by rw[← this];grind)
   have e1:=i1 a h;have e2:=i1 _ h';exact un (inv a) _ _ e2 (by rw[← e1];grind)
 letI:Inv F:=⟨inv⟩
 letI:Div F:=⟨λa b=>a*inv b⟩
 letI:HPow F Int F:=⟨zpw inv⟩
 {zpow:=⟨zpw inv⟩
  div_eq_mul_inv:=λa b=>rfl
  zero_ne_one:=h01
  inv_zero:=i0 0 rfl
  mul_inv_cancel:=λ{a} h=>i1 a h
  zpow_zero:=λa=>Semiring.pow_zero a
  zpow_succ:=λa n=>Semiring.pow_succ a n
  zpow_neg:=λa n=>by
   show zpw inv a (-n)=inv (zpw inv a n)
   match n with
   | .ofNat 0 =>
    show a^0=inv (a^0);rw[Semiring.pow_zero];have:=i1 1 (Ne.symm h01);exact un 1 _ _ (by grind) this
   | .ofNat (m+1)=>rfl
   | .negSucc m =>
    show a^(m+1)=inv (inv (a^(m+1)));rw[ii] }
def kfRat:Kf 0 Rat where
 to:=λx=>match x with | .q r=>r | .z _=>0
 of:=.q
 ok:=λ_=>rfl
 to_of:=λ_=>rfl
 of_to:=λx h=>by cases x with
  | q r=>rfl
  | z i=>exact bw rfl h.1
 add:=λ{x y} D hy=>by
  cases x with
  | z i=>exact bw rfl D.1
  | q r=>cases y with
   | z i=>exact bw rfl hy.1
   | q s=>rfl
 sub:=λ{x y} D hy=>by
  cases x with
  | z i=>exact bw rfl D.1
  | q r=>cases y with
   | z i=>exact bw rfl hy.1
   | q s=>rfl
 mul:=λ{x y} D hy=>by
  cases x with
  | z i=>exact bw rfl D.1
  | q r=>cases y with
   | z i=>exact bw rfl hy.1
   | q s=>rfl
 div:=λ{x y} D hy _=>by
  cases x with
  | z i=>exact bw rfl D.1
  | q r=>cases y with
   | z i=>exact bw rfl hy.1
   | q s=>rfl
 num:=λw=>rfl
 zero:=λw=>by
  rw[wah];exact gk
 rat:=λr _=>by
  show r *((r.den:Int):Rat) =((r.num:Int):Rat);have e:ul r.num r.den*ul (r.den:Int) 1=ul r.num 1:=by
   rw[waO,wau (by have:=yV r;omega) ()]
   grind
  have o:∀ a:Int,ul a 1 =(a:Rat):=λa=>by
   rw[wbi];show(a:Rat) / 1=a
   grind
  rw[GC,o,o]at e;exact e
 rest:=λi h=>bw rfl h
def zcl{F:Type}[Field F]{a b z:F}(h:z*b=1):a*z=a / b:=by
 grind
section
variable{k:Int}{p:Nat}[NeZero p]
def zj6(C:(p:Int)=k):(ι k:Fin p)=0:=by
 subst C;show Fin.intCast (p:Int)=0;unfold Fin.intCast;rw[bj (gD p)];refine Fin.ext ?_;simp
def zcm(C:(p:Int)=k)(h:k ∣ w):(ι w:Fin p)=0:=by
 obtain⟨c,rfl⟩:=h;rw[ι_mul,zj6 C];grind
def jJ(C:(p:Int)=k)(h:k ∣ a - b):(ι a:Fin p)=ι b:=by
 have:=zcm C h;rw[ι_sub]at this
 grind
def zcG(C:(p:Int)=k)(h0:0<=i)(h1:i<k):((ι i:Fin p).val:Int)=i:=by
 show((Fin.intCast i:Fin p).val:Int)=i;unfold Fin.intCast;rw[bj h0];show((i.natAbs % p:Nat):Int)=i;rw[way ()];omega
def fin_ι x:(ι (x.val:Int):Fin p)=x:=by
 show(Fin.intCast (x.val:Int):Fin p)=x;unfold Fin.intCast;rw[bj (gD _)];refine Fin.ext ?_;show(x.val:Int).natAbs % p=x.val;rw[ut,way x.isLt]
def zaF(C:(p:Int)=k) w:(ι w:Fin p)=0↔k ∣ w:=by
 refine(λh=>?_,zcm C);have k0:0<k:=by have:=NeZero.ne p;omega
 have e:(ι w:Fin p)=ι (w % k):=jJ C (w / k,by have:=Gh w k;omega);have v:=zcG C (wad w ()) (Gc w k0);rw[← e,h]at v;have:w % k=0:=by rw[← v];rfl
 exact Int.dvd_of_emod_eq_zero this
def zhn(h:Pr k)(C:(p:Int)=k) a:∃ b:Fin p,(a=0->b=0)/\(a≠0->a*b=1):=by
 by_cases z:a=0
 ·exact(0,λ_=>rfl,λn=>bw z n)
 ·have a0:0 <(a.val:Int):=by
   have:a.val≠0:=λe=>z (Fin.ext e)
   omega
  obtain⟨x,x0,xk,D⟩:=Yo h a0 (by have:=a.isLt;omega);refine(ι x,λe=>bw e z,λ_=>?_);have:=jJ C D;rw[ι_mul,fin_ι,ι_one]at this
  grind
def ziY(h:Pr k)(C:(p:Int)=k):(0:Fin p)≠1:=λe=>by
 have:(ι 1:Fin p)=0:=by rw[ι_one];exact e.symm
 have:=(zaF C 1).mp this;have:=waZ () this;have:=h.lo;omega
@[reducible] noncomputable def fieldFin (h:Pr k) (C:(p:Int)=k):Field (Fin p):=fieldOf (ziY h C) (zhn h C)
def kfFin h (C:(p:Int)=k) : @Kf k (Fin p) (fieldFin h C) :=
 letI:=fieldFin h C
 have k1:=h.lo;have k0:k≠0:=by omega
 have fm:∀ a:Int,(ι (a.fmod k):Fin p)=ι a:=λa=>jJ C (qK k a)
 {to:=λx=>match x with | .q _=>0 | .z i=>ι i
  of:=λx=>.z x.val
  ok:=λx=>(k0,gD _,by have:=x.isLt;omega)
  to_of:=λx=>fin_ι x
  of_to:=λx D=>by cases x with
   | q r=>exact bw D k0
   | z i=>exact congrArg Nb.z (zcG C D.2.1 D.2.2)
  add:=λ{x y} D hy=>by
   cases x with
   | q r=>exact bw D k0
   | z i=>cases y with
    | q s=>exact bw hy k0
    | z j=>exact(fm _).trans (ι_add i j)
  sub:=λ{x y} D hy=>by
   cases x with
   | q r=>exact bw D k0
   | z i=>cases y with
    | q s=>exact bw hy k0
    | z j=>exact(fm _).trans (ι_sub i j)
  mul:=λ{x y} D hy=>by
   cases x with
   | q r=>exact bw D k0
   | z i=>cases y with
    | q s=>exact bw hy k0
    | z j=>exact(fm _).trans (ι_mul i j)
  div:=λ{x y} D hy ne=>by
   cases x with
   | q r=>exact bw D k0
   | z i=>cases y with
    | q s=>exact bw hy k0
    | z j =>
     have j0:j≠0:=λz=>ne (by unfold nnum;rw[bn k0,z,wa0])
     obtain⟨x,x0,xk,hx'⟩:=Yo h (show 0<j by have:=hy.2.1;omega) hy.2.2;have e:=jJ (p:=p) C hx';rw[ι_mul,ι_one]at e;refine Eq.trans (b:=ι i*ι x) ?_ (zcl e);show(ι ((i*zinv k j).fmod k):Fin p)=ι i*ι x;rw[fm,ι_mul,zb2 x0 xk hx']
  num:=λw=>by
   unfold nnum;rw[bn k0];exact fm w
  zero:=zaF C
  rat:=λr e=>bw e k0
  rest:=λi _=>rfl }
end
def zD{k:Int}(h:kab k):∃(F:Type)(inst:Field F)(dec:DecidableEq F),Nonempty (Kf k F):=by
 rcases h with rfl|h
 ·exact(Rat,inferInstance,inferInstance,⟨kfRat⟩)
 ·have k1:=h.lo;haveI:NeZero k.toNat:=⟨()⟩;have C:(k.toNat:Int)=k:=by omega
  exact(Fin k.toNat,fieldFin h C,inferInstance,⟨kfFin h C⟩)
section
variable[Field F]
def fv(ws:List Int):Nat->F:=λj=>ι (ws.getD j 0)
def za4(h:ws.length<=j):(fv ws j:F)=0:=by
 unfold fv;rw[we,wR h];exact ι_zero
def Nf(k:Int)(ws:List Int):Prop:=k≠0->∀ w∈ws,0<=w/\w<k
def Zq(O:Kf k F)(h:Nf k ws) j:(fv ws j:F)=0↔ws.getD j 0=0:=by
 unfold fv;rw[O.zero]
 constructor
 ·intro d
  by_cases k0:k=0
  ·rw[k0,wah]at d;exact d
  ·have hw:0<=ws.getD j 0/\ws.getD j 0<k:=by
    rcases wJ j ws.length with g|g
    ·rw[we,wa g];exact h k0 _ (wj g)
    ·rw[we,wR g];refine(Int.le_refl _,?_);show 0<k;have n:0<=k:=by
      rcases Gp k 0 with z|z
      ·exfalso
       have:=O.ok (O.to (.z 0));generalize O.of (O.to (.z 0))=x at this;cases x with
       | q r=>exact k0 this
       | z i=>obtain⟨_,i0,i1⟩:=this;omega
      ·exact z
     omega
   obtain⟨c,hc⟩:=d
   rcases wbj c 0 with g|g|g
   ·have:k*c<=k *(-1):=gh () ();omega
   ·rw[hc,g,wag]
   ·have:k*1<=k*c:=gh () ();omega
 ·intro e;rw[e];exact wa6 k
def gcdL(ws:List Int):Nat:=ws.foldl (λd w=>gC d w.natAbs) 0
def xT:∀(ws:List Int) d,(ws.foldl (λd w=>gC d w.natAbs) d ∣ d)/\∀ w∈ws,((ws.foldl (λd w=>gC d w.natAbs) d:Nat):Int) ∣ w
 | [],d=>(Nat.dvd_refl d,λw h=>nomatch h)
 | x::ws,d=>by
  obtain⟨h1,h2⟩:=xT ws (gC d x.natAbs);refine(GU h1 (waz _ _),λw hw=>?_)
  rcases wG.mp hw with e|hw
  ·rw[e];exact Int.ofNat_dvd_left.mpr (GU h1 (was _ _))
  ·exact h2 w hw
def QV(h:w∈ws):((gcdL ws:Nat):Int) ∣ w:=(xT ws 0).2 w h
def kam(k:Int)(ws:List Int):List Int:=if k≠0 then ws.map (·.fmod k)else if gcdL ws=0 then ws else ws.map λw=>w.fdiv ((gcdL ws:Nat):Int)
def Yu ws:(kam k ws).length=ws.length:=by
 unfold kam;split
 ·exact wc _
 ·split
  ·rfl
  ·exact wc _
def JM(k0:0<=k) ws:Nf k (kam k ws):=λh w hw=>by
 unfold kam at hw;rw[bj h]at hw;obtain⟨x,_,rfl⟩:=wm.mp hw;exact(wI x (),wW x ())
def zah{α β:Type} f a (b:β) (h:f a=b) (l:List α) j:(l.map f).getD j b=f (l.getD j a):=by
 rw[we,we,wk,← h];cases l[j]? <;> rfl
def xQ{w d:Int}(h:d ∣ w)(hd:d≠0):w.fdiv d*d=w:=by
 rw[ur h];exact gw h
def qW(O:Kf k F) ws:∃ a:F,a≠0/\∀ j,fv (kam k ws) j=a*fv ws j:=by
 have one:(1:F)≠0:=λe=>Field.zero_ne_one e.symm
 unfold kam
 split
 ·rename_i h;refine(1,one,λj=>?_);unfold fv;rw[zah (λw:Int=>w.fmod k) 0 0 (wa0 k)];have d:=(O.zero _).mpr (qK k (ws.getD j 0));rw[ι_sub]at d
  grind
 ·rename_i h;have k0:= vV λz=>h z
  split
  ·exact(1,one,λj=>by grind)
  ·rename_i g;have gn:(ι ((gcdL ws:Nat):Int):F)≠0:=λz=>by
    rw[O.zero,k0,wah]at z;omega
   refine(1 / ι ((gcdL ws:Nat):Int),λz=>?_,λj=>?_)
   ·have:ι ((gcdL ws:Nat):Int) *(1 / ι ((gcdL ws:Nat):Int)) =(1:F):=by grind
    rw[z]at this;exact one (by rw[← this];grind)
   ·unfold fv;rw[zah (λw:Int=>w.fdiv ((gcdL ws:Nat):Int)) 0 0 (Int.zero_fdiv _)];have dv:((gcdL ws:Nat):Int) ∣ ws.getD j 0:=by
     rcases wJ j ws.length with z|z
     ·rw[we,wa z];exact QV (wj z)
     ·rw[we,wR z];exact wa6 _
    have e:=xQ dv ();have e2:(ι ((ws.getD j 0).fdiv ((gcdL ws:Nat):Int)):F)*ι ((gcdL ws:Nat):Int)=ι (ws.getD j 0):=by rw[← ι_mul,e]
    grind
def mixed(row lead:List Int)(c:Nat):List Int:=vK (λl r=>lead.getD c 0*l - row.getD c 0*r) row lead
def kaf(k:Int)(lead:List Int)(c:Nat)(row:List Int):List Int:=if row.getD c 0=0 then row else kam k (mixed row lead c)
def xV(h:row.length=lead.length) c:(mixed row lead c).length=row.length:=by
 unfold mixed;rw[wO];omega
def xq(h:row.length=lead.length) c:(kaf k lead c row).length=row.length:=by
 unfold kaf;split
 ·rfl
 ·rw[Yu,xV h]
def ZL(h:row.length=lead.length) c j:(mixed row lead c).getD j 0=lead.getD c 0*row.getD j 0 - row.getD c 0*lead.getD j 0:=by
 rcases wJ j row.length with g|g
 ·have g2:j<lead.length:=by omega
  unfold mixed;rw[we,vL,wa g,wa g2];simp[we,wa g,wa g2]
 ·have g2:lead.length<=j:=by omega
  have g3:(mixed row lead c).length<=j:=by rw[xV h];exact g
  simp[we,wR g,wR g2,wR g3]
def Zp(k0:0<=k) c (h:Nf k row):Nf k (kaf k lead c row):=by
 unfold kaf;split
 ·exact h
 ·exact JM k0 _
def Jt(O:Kf k F)(h:row.length=lead.length)(lc:(fv lead c:F)≠0):Clr c (fv lead:Nat->F) (fv row) (fv (kaf k lead c row)):=by
 unfold kaf;have one:(1:F)≠0:=λe=>Field.zero_ne_one e.symm
 split
 ·rename_i z;refine((1,0,one,λj=>by grind),?_);show ι (row.getD c 0)=0;rw[z];exact ι_zero
 ·obtain⟨a,ha,e⟩:=qW O (mixed row lead c);have m:∀ j,(fv (mixed row lead c) j:F)=fv lead c*fv row j - fv row c*fv lead j:=λj=>by
   unfold fv;rw[ZL h,ι_sub,ι_mul,ι_mul]
  refine((a*fv lead c,-(a*fv row c),λz=>?_,λj=>?_),?_)
  ·grind
  ·rw[e j,m j];grind
  ·rw[e c,m c];grind
def kao(k:Int)(c:Nat)(s:List (Nat×List Int)×List (List Int)):List (Nat×List Int)×List (List Int) :=
 match s.2.filter (λr=>decide (r.getD c 0≠0))with
 | []=>s
 | l::rest=>(s.1.map (λp=>(p.1,kaf k l c p.2))++[(c,l)],s.2.filter (λr=>decide (r.getD c 0=0))++rest.map (kaf k l c))
def swTo(k:Int)(rows:List (List Int)):Nat->List (Nat×List Int)×List (List Int)
 | 0=>([],rows.map (kam k))
 | c+1=>kao k c (swTo k rows c)
structure Fine(k:Int)(n:Nat)(s:List (Nat×List Int)×List (List Int)):Prop where
 dl:∀ p∈s.1,p.2.length=n
 wl:∀ w∈s.2,w.length=n
 df:∀ p∈s.1,Nf k p.2
 wf:∀ w∈s.2,Nf k w
def Fine.turn(k0:0<=k)(h:Fine k n s):Fine k n (kao k c s):=by
 unfold kao;cases e:s.2.filter (λr=>decide (r.getD c 0≠0))with
 | nil=>exact h
 | cons l rest =>
  have sub:∀ r∈l::rest,r∈s.2:=λr U=>by rw[← e]at U;exact(vG.mp U).1
  have hl:=sub l wt;refine(λp C=>?_,λw hw=>?_,λp C=>?_,λw hw=>?_)
  ·rcases wq.mp C with C|C
   ·obtain⟨q,hq,rfl⟩:=wm.mp C;rw[xq (by rw[h.dl q hq,h.wl l hl]),h.dl q hq]
   ·rw[wp.mp C];exact h.wl l hl
  ·rcases wq.mp hw with hw|hw
   ·exact h.wl w (vG.mp hw).1
   ·obtain⟨q,hq,rfl⟩:=wm.mp hw;have:=h.wl q (sub q (ww _ hq));rw[xq (by rw[this,h.wl l hl]),this]
  ·rcases wq.mp C with C|C
   ·obtain⟨q,hq,rfl⟩:=wm.mp C;exact Zp k0 c (h.df q hq)
   ·rw[wp.mp C];exact h.wf l hl
  ·rcases wq.mp hw with hw|hw
   ·exact h.wf w (vG.mp hw).1
   ·obtain⟨q,hq,rfl⟩:=wm.mp hw;exact Zp k0 c (h.wf q (sub q (ww _ hq)))
def Fine.to(k0:0<=k)(h:∀ r∈rows,r.length=n):∀ c,Fine k n (swTo k rows c)
 | 0=>by
  refine(λp C=>(nomatch C),λw hw=>?_,λp C=>(nomatch C),λw hw=>?_)
  ·obtain⟨r,U,rfl⟩:=wm.mp hw;rw[Yu,h r U]
  ·obtain⟨r,U,rfl⟩:=wm.mp hw;exact JM k0 r
 | c+1=>(Fine.to k0 h c).turn k0
def inF(bE:List (Nat×List Int)):List (Pv F):=bE.map λp=>(p.1,fv p.2)
def zgW(O:Kf k F)(k0:0<=k)(h:∀ r∈rows,r.length=n):∀ c,Sw n c (λv=>∃ r∈rows,v =(fv r:Nat->F)) (inF (swTo k rows c).1) ((swTo k rows c).2.map fv)
 | 0=>by
  refine zfo n _ _ (λv ⟨r,U,e⟩=>?_) λv hv=>?_
  ·obtain⟨a,ha,q⟩:=qW O r;have hm:(fv (kam k r):Nat->F)∈(swTo k rows 0).2.map fv:=wm.mpr (_,wm.mpr (r,U,V),V);have hs:Span (λv=>v∈(swTo k rows 0).2.map fv) (fv (kam k r):Nat->F):=.of hm;exact(hs.smul (1 / a)).cast λj=>by rw[e,q j];grind
  ·obtain⟨w,hw,rfl⟩:=wm.mp hv;obtain⟨r,U,rfl⟩:=wm.mp hw;obtain⟨a,ha,q⟩:=qW O r;have hs:Span (λv=>∃ r∈rows,v =(fv r:Nat->F)) (fv r):=.of (r,U,V);exact(hs.smul a).cast λj=>(q j).symm
 | c+1=>by
  have ih:=zgW O k0 h c;have fine:=Fine.to k0 h c;show Sw n (c+1) _ (inF (kao k c (swTo k rows c)).1) ((kao k c (swTo k rows c)).2.map fv);generalize swTo k rows c=s at ih fine;have zr:= λr U=>Zq O (fine.wf r U) c
  unfold kao;cases e:s.2.filter (λr=>decide (r.getD c 0≠0))with
  | nil =>
   refine ih.skip λw hw=>?_
   obtain⟨r,U,rfl⟩:=wm.mp hw;rw[zr r U];refine vV λz=>?_
   have:r∈s.2.filter (λr=>decide (r.getD c 0≠0)):=vG.mpr (U,by simpa using z);rw[e]at this;exact nomatch this
  | cons l rest =>
   have mem:∀ r∈l::rest,r∈s.2/\r.getD c 0≠0:=λr U=>by
    rw[← e]at U;obtain⟨h1,h2⟩:=vG.mp U;exact(h1,by simpa using h2)
   obtain⟨hl,lz⟩:=mem l wt;have lc:= λz=>lz ((zr l hl).mp z)
   have ll:=fine.wl l hl;have cl:∀ r,r.length=n->Clr c (fv l:Nat->F) (fv r) (fv (kaf k l c r)):=λr U=>Jt O (by rw[U,ll]) lc
   have e1:(inF (s.1.map (λp=>(p.1,kaf k l c p.2))++[(c,l)]):List (Pv F))=s.1.map (λp=>(p.1,fv (kaf k l c p.2)))++[(c,fv l)]:=by
    unfold inF;rw[wx,vz];rfl
   rw[e1];refine Sw.turn (b:=λp=>(p.1,fv (kaf k l c p.2))) ih (wm.mpr (l,hl,V)) lc (λp C=>(V,cl p.2 (fine.dl p C))) (λw hw=>?_) (λw hw=>?_)
   ·obtain⟨r,U,rfl⟩:=wm.mp hw
    rcases wq.mp U with U|U
    ·obtain⟨h1,h2⟩:=vG.mp U;exact .inl (wm.mpr (r,h1,V),(zr r h1).mpr (by simpa using h2))
    ·obtain⟨q,hq,rfl⟩:=wm.mp U;have hq2:=(mem q (ww _ hq)).1;exact .inr (fv q,wm.mpr (q,hq2,V),cl q (fine.wl q hq2))
   ·obtain⟨r,U,rfl⟩:=wm.mp hw
    by_cases z:r.getD c 0=0
    ·exact .inl (wm.mpr (r,vh _ (vG.mpr (U,by simpa using z)),V))
    ·have hm:r∈l::rest:=by rw[← e];exact vG.mpr (U,by simpa using z)
     rcases wG.mp hm with q|q
     ·exact .inr (.inl (by rw[q]))
     ·exact .inr (.inr (_,wm.mpr (_,wL _ (wm.mpr (r,q,V)),V),cl r (fine.wl r U)))
abbrev RmI(F:Type)[Field F](rows:List (List Int)):(Nat->F)->Prop:=λv=>∃ r∈rows,v=fv r
def zfk(O:Kf k F)(k0:0<=k)(h:∀ r∈rows,r.length=n) :
  Rr n ((swTo k rows n).1.map λp=>(p.1,λj=>(fv p.2 j / fv p.2 p.1:F))) /\
  (∀ v,Span (Rows ((swTo k rows n).1.map λp=>(p.1,λj=>(fv p.2 j / fv p.2 p.1:F)))) v->Span (RmI F rows) v)/\(∀ v,Span (RmI F rows) v->Span (Rows ((swTo k rows n).1.map λp=>(p.1,λj=>(fv p.2 j / fv p.2 p.1:F)))) v):=by
 have s:=zgW O k0 h n;have fine:=Fine.to k0 h n;have d:=s.done (λw hw j hj=>by
  obtain⟨r,U,rfl⟩:=wm.mp hw;exact za4 (by rw[fine.wl r U];exact hj)) (λp C j hj=>by
  obtain⟨q,hq,rfl⟩:=wm.mp C;exact za4 (by rw[fine.dl q hq];exact hj))
 have e:((inF (swTo k rows n).1:List (Pv F)).map λp=>Prod.mk p.1 λj=>p.2 j / p.2 p.1) =(swTo k rows n).1.map λp=>Prod.mk p.1 λj=>(fv p.2 j / fv p.2 p.1:F):=by
  unfold inF;rw[vz];rfl
 rw[e]at d;exact d
def jj(O:Kf k F)(k0:0<=k){n:Nat}{rows:List (List Int)}(h:∀ r∈rows,r.length=n){p:Nat×List Int}(C:p∈(swTo k rows n).1) :
  p.1<n/\p.2.length=n/\p.2.getD p.1 0≠0/\∀ j,j<p.1->p.2.getD j 0=0:=by
 have s:=zgW O k0 h n;have fine:=Fine.to k0 h n;have hm:((p.1,fv p.2):Pv F)∈inF (swTo k rows n).1:=wm.mpr (p,C,V);have z:=λj=>Zq O (fine.df p C) j
 exact(s.lt _ hm,fine.dl p C,λe=>s.one _ hm ((z p.1).mpr e),λj hj=>(z j).mp (s.bef _ hm j hj))
end
section
variable{k:Int}{F:Type}[Field F]
def zm(h:kab k) w:(nnum k w).ok k:=by
 unfold nnum
 split
 ·assumption
 ·rename_i n;have:=h.lt;exact(n,wI w (),wW w ())
def OkR(k:Int)(xs:List Nb):Prop:=∀ x∈xs,x.ok k
def nv(O:Kf k F)(xs:List Nb):Nat->F:=λj=>O.to (xs.getD j (nnum k 0))
def Kf.num0(O:Kf k F):O.to (nnum k 0)=0:=by rw[O.num];exact ι_zero
def Kf.num1(O:Kf k F):O.to (nnum k 1)=1:=by rw[O.num];exact ι_one
def Kf.inj(O:Kf k F)(D:x.ok k)(hy:y.ok k)(h:O.to x=O.to y):x=y:=by rw[← O.of_to x D,← O.of_to y hy,h]
def Kf.zero_iff(O:Kf k F)(J:kab k)(D:x.ok k):O.to x=0↔x=nnum k 0 :=
 (λh=>O.inj D (zm J 0) (by rw[h,O.num0]),λh=>by rw[h,O.num0])
def zI(O:Kf k F)(h:xs.length<=j):nv O xs j=0:=by
 unfold nv;rw[we,wR h];exact O.num0
def zH(O:Kf k F)(h:xs[j]?=some x):nv O xs j=O.to x:=by
 unfold nv;rw[we,h];rfl
def Yb(O:Kf k F)(D:OkR k xs)(hy:OkR k ys)(hl:xs.length=ys.length)(h:∀ j,nv O xs j=nv O ys j):xs=ys:=by
 refine uP hl λj h1 h2=>?_
 have e:=h j;rw[zH O (wa h1),zH O (wa h2)]at e;exact O.inj (D _ (wj h1)) (hy _ (wj h2)) e
def dot:Nat->(Nat->F)->(Nat->F)->F
 | 0,_,_=>0
 | n+1,u,v=>dot n u v+u n*v n
def zt{u u' v v':Nat->F}(h:∀ j,j<n->u j*v j=u' j*v' j):dot n u v=dot n u' v':=by
 induction n with
 | zero=>rfl
 | succ n ih=>simp only[dot];rw[ih λj hj=>h j (),h n ()]
def xn a n (u v:Nat->F):dot n (λj=>a*u j) v=a*dot n u v:=by
 induction n with
 | zero=>simp only[dot];grind
 | succ n ih=>simp only[dot];rw[ih];grind
def jG n (u u' v:Nat->F):dot n (λj=>u j+u' j) v=dot n u v+dot n u' v:=by
 induction n with
 | zero=>simp only[dot];grind
 | succ n ih=>simp only[dot];rw[ih];grind
def zM n (u v:Nat->F):dot n u v=dot n v u:=zt λj _=>by grind
def dot_zero n (u v:Nat->F) (h:∀ j,j<n->u j*v j=0):dot n u v=0:=by
 induction n with
 | zero=>rfl
 | succ n ih=>simp only[dot];rw[ih λj hj=>h j (),h n ()];grind
def ndotF(k:Int)(l:List (Nb×Nb)):Nb:=l.foldl (λs p=>nadd k s (nmul k p.1 p.2)) (nnum k 0)
def ndot(k:Int)(xs ys:List Nb):Nb:=ndotF k (xs.zip ys)
def yk(J:kab k)(D:x.ok k)(hy:y.ok k):(nadd k x y).ok k:=by
 have hl:=J.lt;cases x with
 | q r=>cases y with
  | q s=>exact D
  | z j=>exact bw (show k=0 from D) hy.1
 | z i=>cases y with
  | q s=>exact bw (show k=0 from hy) D.1
  | z j=>exact(D.1,wI _ (by have:=D.1;omega),wW _ (by have:=D.1;omega))
def zY(J:kab k)(D:x.ok k)(hy:y.ok k):(nmul k x y).ok k:=by
 have hl:=J.lt;cases x with
 | q r=>cases y with
  | q s=>exact D
  | z j=>exact bw (show k=0 from D) hy.1
 | z i=>cases y with
  | q s=>exact bw (show k=0 from hy) D.1
  | z j=>exact(D.1,wI _ (by have:=D.1;omega),wW _ (by have:=D.1;omega))
def QH(J:kab k)(D:x.ok k)(hy:y.ok k):(ndiv k x y).ok k:=by
 have hl:=J.lt;cases x with
 | q r=>cases y with
  | q s=>exact D
  | z j=>exact bw (show k=0 from D) hy.1
 | z i=>cases y with
  | q s=>exact bw (show k=0 from hy) D.1
  | z j=>exact(D.1,wI _ (by have:=D.1;omega),wW _ (by have:=D.1;omega))
def qr l p:ndotF k (l++[p])=nadd k (ndotF k l) (nmul k p.1 p.2):=by
 unfold ndotF;rw[GN];rfl
def jn(J:kab k):∀ l,(∀ p∈l,p.1.ok k/\p.2.ok k)->(ndotF k l).ok k:=by
 intro l;unfold ndotF;have go:∀(l:List (Nb×Nb)) s,s.ok k->(∀ p∈l,p.1.ok k/\p.2.ok k)->(l.foldl (λs p=>nadd k s (nmul k p.1 p.2)) s).ok k:=by
  intro l
  induction l with
  | nil=>intro s hs _;exact hs
  | cons p l ih=>intro s hs h;exact ih _ (yk J hs (zY J (h p wt).1 (h p wt).2)) λq hq=>h q (ww _ hq)
 exact λh=>go l _ (zm J 0) h
def zaX(D:OkR k xs)(hy:OkR k ys):∀ p∈xs.zip ys,p.1.ok k/\p.2.ok k:=λp C=>by
 obtain⟨a,b⟩:=p;obtain⟨h1,h2⟩:=vt C;exact(D _ h1,hy _ h2)
def yb(J:kab k)(D:OkR k xs)(hy:OkR k ys):(ndot k xs ys).ok k:=jn J _ (zaX D hy)
def JQ(O:Kf k F)(J:kab k)(D:OkR k xs)(hy:OkR k ys)(hl:xs.length=ys.length):∀ i,i<=xs.length->O.to (ndotF k ((xs.zip ys).take i))=dot i (nv O xs) (nv O ys)
 | 0,_=>by
  exact O.num0
 | i+1,h=>by
  have h1:= h;have h2:i<ys.length:=by omega
  have hz:i <(xs.zip ys).length:=by rw[uB];omega
  rw[vU hz,qr,waA];have ih:=JQ O J D hy hl i ();have o1:=D _ (wj h1);have o2:=hy _ (wj h2);rw[O.add (jn J _ λp C=>zaX D hy p (vn C)) (zY J o1 o2),ih,O.mul o1 o2];simp only[dot];rw[zH O (wa h1),zH O (wa h2)]
def xw(O:Kf k F)(J:kab k)(D:OkR k xs)(hy:OkR k ys)(hl:xs.length=ys.length):O.to (ndot k xs ys)=dot xs.length (nv O xs) (nv O ys):=by
 have h:=JQ O J D hy hl xs.length (wv _);rw[wo (by rw[uB];omega)]at h;exact h
def scW(b:Int):Nb->Int
 | .q r=>r.num*b.fdiv (r.den:Int)
 | .z i=>i
def dvB(b:Int):Nb->Prop
 | .q r=>(r.den:Int) ∣ b
 | .z _=>True
structure Scl(k:Int)(xs:List Nb)(ws:List Int)(b:Int):Prop where
 eq:ws=xs.map (scW b)
 pos:0<b
 one:k≠0->b=1
 dv:∀ x∈xs,dvB b x
def Scl.len(s:Scl k xs ws b):ws.length=xs.length:=by rw[s.eq,wc]
def Scl.ne(O:Kf k F)(J:kab k)(s:Scl k xs ws b):(ι b:F)≠0:=λz=>by
 rw[O.zero]at z
 by_cases k0:k=0
 ·rw[k0,wah]at z;have:=s.pos;omega
 ·rw[s.one k0]at z;have:=waZ () z
  rcases J with h|h
  ·exact k0 h
  ·have:=h.lo;omega
def zgi(O:Kf k F)(one:k≠0->b=1)(D:x.ok k)(dv:dvB b x):(ι (scW b x):F)=O.to x*ι b:=by
 cases x with
 | q r =>
  have k0:= D;have e:=O.rat r k0;have d:= dv;have e2:=xQ d (yV r);show(ι (r.num*b.fdiv (r.den:Int)):F)=_;rw[ι_mul,← e];have e3:(ι (b.fdiv (r.den:Int)):F)*ι (r.den:Int)=ι b:=by rw[← ι_mul,e2]
  grind
 | z i =>
  have k0:= D.1;rw[O.rest i k0,one k0,ι_one];show(ι i:F)=_
  grind
def Scl.fv(O:Kf k F)(s:Scl k xs ws b)(D:OkR k xs) j:(La.fv ws j:F)=nv O xs j*ι b:=by
 rcases wJ j xs.length with g|g
 ·have e:ws[j]?=some (scW b xs[j]):=by rw[s.eq,wk,wa g];rfl
  rw[zH O (wa g),← zgi O s.one (D _ (wj g)) (s.dv _ (wj g))];unfold La.fv;rw[we,e];rfl
 ·rw[zI O g,za4 (by rw[s.len];exact g)];grind
def zhL(n:Nat){ws vs:List Int}(h1:ws.length=n)(h2:vs.length=n):(ι (vK (·*·) ws vs).sum:F)=dot n (fv ws) (fv vs):=by
 have go:∀ i,i<=n->(ι ((vK (·*·) ws vs).take i).sum:F)=dot i (fv ws) (fv vs):=by
  intro i
  induction i with
  | zero=>intro _;rw[waU,wbL];exact ι_zero
  | succ i ih =>
   intro hi;have hz:i <(vK (·*·) ws vs).length:=by rw[wO];omega
   rw[vU hz,wbx,ι_add,ih (),vJ];simp only[dot];have e1:(fv ws i:F)=ι (ws[i]'()):=by unfold fv;rw[we,wa ()];rfl
   have e2:(fv vs i:F)=ι (vs[i]'()):=by unfold fv;rw[we,wa ()];rfl
   rw[e1,e2,← ι_mul];simp
 have:=go n (wv _);rw[wo (by rw[wO];omega)]at this;exact this
def Xg(O:Kf k F)(h:(ι b:F)≠0):nnum k b≠nnum k 0:=λz=>h (by rw[← O.num,z,O.num0])
def zja(J:kab k)(hl:xs.length=ys.length)(s1:Scl k xs ws b)(s2:Scl k ys vs c)(D:OkR k xs)(hy:OkR k ys) :
  nnum k (b*c)≠nnum k 0/\ndiv k (nnum k (vK (·*·) ws vs).sum) (nnum k (b*c))=ndot k xs ys:=by
 obtain⟨F,_,_,⟨O⟩⟩:=zD J;have n1:=s1.ne O J;have n2:=s2.ne O J;have n3:(ι (b*c):F)≠0:=λz=>by rw[ι_mul]at z;grind
 have nn:=Xg O n3;refine(nn,O.inj (QH J (zm J _) (zm J _)) (yb J D hy) ?_);rw[O.div (zm J _) (zm J _) nn,O.num,O.num,xw O J D hy hl,zhL xs.length s1.len (by rw[s2.len,hl]),ι_mul];have e:dot xs.length (La.fv ws) (La.fv vs) =(ι b*ι c)*dot xs.length (nv O xs) (nv O ys):=by
  rw[← xn];exact zt λj _=>by rw[s1.fv O D,s2.fv O hy];grind
 rw[e];grind
def RmN(O:Kf k F)(M:TB):(Nat->F)->Prop:=λv=>∃ r∈M,v=nv O r
def OkM(k:Int)(n:Nat)(M:TB):Prop:=∀ r∈M,r.length=n/\OkR k r
structure IsR(O:Kf k F)(n:Nat)(R:TB)(ls:List Nat):Prop where
 ok:OkM k n R
 len:ls.length=R.length
 rr:Rr n (ls.zip (R.map (nv O)))
structure kay(O:Kf k F)(n:Nat)(M R:TB)(ls:List Nat):Prop extends IsR O n R ls where
 to:∀ v,Span (RmN O M) v->Span (RmN O R) v
 fro:∀ v,Span (RmN O R) v->Span (RmN O M) v
def qe{ls:List Nat}(h:ls.length=R.length)(v:Nat->F):Rows (ls.zip (R.map (nv O))) v↔RmN O R v:=by
 constructor
 ·rintro ⟨p,C,rfl⟩
  obtain⟨a,b⟩:=p;obtain⟨r,U,e⟩:=wm.mp (vt C).2;exact(r,U,e.symm)
 ·rintro ⟨r,U,rfl⟩
  obtain⟨i,hi,e⟩:=wy U;have h2:i <(R.map (nv O)).length:=by rw[wc];exact hi
  refine((ls[i],(R.map (nv O))[i]),?_,by simp[e]);rw[← waA (h:=by rw[uB];omega)];exact wj _
def IsR.rows(h:IsR O n R ls){v:Nat->F}:Span (Rows (ls.zip (R.map (nv O)))) v↔Span (RmN O R) v :=
 (λq=>q.mono λu=>(qe h.len u).mp,λq=>q.mono λu=>(qe h.len u).mpr)
def IsR.unique{O:Kf k F}(h:IsR O n R ls)(h':IsR O n R' ls')(s1:∀ v,Span (RmN O R) v->Span (RmN O R') v)(s2:∀ v,Span (RmN O R') v->Span (RmN O R) v):R=R'/\ls=ls':=by
 have e:=h.rr.unique h'.rr (λv q=>h'.rows.mpr (s1 v (h.rows.mp q))) (λv q=>h.rows.mpr (s2 v (h'.rows.mp q)));have el:=congrArg (GQ Prod.fst) e;have er:=congrArg (GQ Prod.snd) e;rw[gV (by rw[wc];exact gM h.len),gV (by rw[wc];exact gM h'.len)]at el;rw[wbq (by rw[wc];exact gM h.len.symm),wbq (by rw[wc];exact gM h'.len.symm)]at er;refine(?_,el);have hl:R.length=R'.length:=by have:=congrArg vO er;simpa using this
 refine uP hl λi h1 h2=>?_
 have e2:(R.map (nv O))[i]'(by simpa using h1) =(R'.map (nv O))[i]'(by simpa using h2):=by simp only[er]
 rw[uV,uV]at e2;have o1:=h.ok _ (wj h1);have o2:=h'.ok _ (wj h2);exact Yb O o1.2 o2.2 (by rw[o1.1,o2.1]) λj=>by rw[e2]
def kay.unique{O:Kf k F}(h:kay O n M R ls)(h':kay O n M' R' ls')(s1:∀ v,Span (RmN O M) v->Span (RmN O M') v)(s2:∀ v,Span (RmN O M') v->Span (RmN O M) v):R=R' :=
 (h.toIsR.unique h'.toIsR (λv q=>h'.to v (s1 v (h.fro v q))) (λv q=>h.to v (s2 v (h'.fro v q)))).1
def overL(k:Int)(p:Nat×List Int):List Nb:=p.2.map λw=>ndiv k (nnum k w) (nnum k (p.2.getD p.1 0))
def redM(k:Int)(n:Nat)(Ws:List (List Int)):TB:=(swTo k Ws n).1.map (overL k)
def leadsM(k:Int)(n:Nat)(Ws:List (List Int)):List Nat:=(swTo k Ws n).1.map (·.1)
def qx(O:Kf k F)(J:kab k)(ok:OkM k n M)(hl:Ws.length=M.length)(hs:∀(i:Nat) r ws,M[i]?=some r->Ws[i]?=some ws->∃ b,Scl k r ws b) :
  kay O n M (redM k n Ws) (leadsM k n Ws):=by
 have k0:=J.lt.1;have pair:∀ ws∈Ws,∃ r∈M,∃ b,Scl k r ws b:=λws hw=>by
  obtain⟨i,hi,e⟩:=wy hw;have h2:i<M.length:=by omega
  exact(M[i],wj h2,hs i M[i] ws (wa h2) (by rw[wa hi,e]))
 have pair2:∀ r∈M,∃ ws∈Ws,∃ b,Scl k r ws b:=λr U=>by
  obtain⟨i,hi,e⟩:=wy U;have h2:i<Ws.length:=by omega
  exact(Ws[i],wj h2,hs i r Ws[i] (by rw[wa hi,e]) (wa h2))
 have wl:∀ ws∈Ws,ws.length=n:=λws hw=>by
  obtain⟨r,U,b,s⟩:=pair ws hw;rw[s.len,(ok r U).1]
 obtain⟨rr,s1,s2⟩:=zfk O k0 wl;have sp1:∀ v,Span (RmI F Ws) v->Span (RmN O M) v:=λv q=>q.bind λu ⟨ws,hw,e⟩=>by
  obtain⟨r,U,b,s⟩:=pair ws hw;have:Span (RmN O M) (nv O r):=.of (r,U,V);exact(this.smul (ι b)).cast λj=>by rw[e,s.fv O (ok r U).2];grind
 have sp2:∀ v,Span (RmN O M) v->Span (RmI F Ws) v:=λv q=>q.bind λu ⟨r,U,e⟩=>by
  obtain⟨ws,hw,b,s⟩:=pair2 r U;have:Span (RmI F Ws) (La.fv ws):=.of (ws,hw,V);have n:=s.ne O J;exact(this.smul (1 / ι b)).cast λj=>by rw[e,s.fv O (ok r U).2];grind
 have rowv:∀ p∈(swTo k Ws n).1,(nv O (overL k p):Nat->F)=λj=>fv p.2 j / fv p.2 p.1:=λp C=>by
  obtain⟨p1,p2,p3,p4⟩:=jj O k0 wl C;have fine:=Fine.to k0 wl n;have ln:(ι (p.2.getD p.1 0):F)≠0:=λz=>p3 ((Zq O (fine.df p C) p.1).mp z)
  funext j
  rcases wJ j p.2.length with g|g
  ·have e:(overL k p)[j]?=some (ndiv k (nnum k p.2[j]) (nnum k (p.2.getD p.1 0))):=by unfold overL;rw[wk,wa g];rfl
   rw[zH O e,O.div (zm J _) (zm J _) (Xg O ln),O.num,O.num];show _=fv p.2 j / fv p.2 p.1;unfold fv;rw[we (l:=p.2) (i:=j),wa g];rfl
  ·rw[zI O (by unfold overL;rw[wc];exact g)];show _=fv p.2 j / fv p.2 p.1;rw[za4 g];grind
 have zz:(leadsM k n Ws).zip ((redM k n Ws).map (nv O)) =(swTo k Ws n).1.map λp=>(p.1,λj=>(fv p.2 j / fv p.2 p.1:F)):=by
  unfold leadsM redM;rw[vz,List.zip_map',Gi];intro p C;show Prod.mk p.1 (nv O (overL k p))=_;rw[rowv p C]
 have hlen:(leadsM k n Ws).length =(redM k n Ws).length:=by unfold leadsM redM;rw[wc,wc]
 refine((λr U=>?_,hlen,by rw[zz];exact rr),λv q=>?_,λv q=>?_)
 ·obtain⟨p,C,rfl⟩:=wm.mp U;obtain⟨p1,p2,p3,p4⟩:=jj O k0 wl C;refine(by unfold overL;rw[wc];exact p2,λx D=>?_);obtain⟨w,_,rfl⟩:=wm.mp D;exact QH J (zm J _) (zm J _)
 ·have:=s2 v (sp2 v q);rw[← zz]at this;exact this.mono λu=>(qe hlen u).mp
 ·refine sp1 v (s1 v ?_);rw[← zz];exact q.mono λu=>(qe hlen u).mpr
end
end La
namespace Nm
def php:∀ n (f:Nat->Nat),(∀ i,i<n+1->f i<n)->∃ i j,i<j/\j<n+1/\f i=f j
 | 0,f,h=>bw (h 0 ()) ()
 | n+1,f,h=>by
  by_cases c:∃ i,i<n+1/\f i=f (n+1)
  ·obtain⟨i,hi,e⟩:=c;exact(i,n+1,hi,(),e)
  have c':∀ i,i<n+1->f i≠f (n+1):=λi hi e=>c (i,hi,e)
  have hv:=h (n+1) ();obtain⟨i,j,hij,hj,e⟩:=php n (λi=>if f i=n then f (n+1)else f i) (λi hi=>by
   have h1:=h i ();have h2:=c' i hi
   split <;> omega)
  refine(i,j,hij,(),?_);have hi:=c' i ();have hj':=c' j ()
  split at e <;> split at e <;> omega
def onto{n:Nat}{f:Nat->Nat}(hf:∀ i,i<n->f i<n)(inj:∀ i j,i<j->j<n->f i≠f j){r:Nat}(U:r<n):∃ i,i<n/\f i=r:=by
 cases Classical.em (∃ i,i<n/\f i=r)with
 | inl h=>exact h
 | inr h =>
  exfalso
  obtain⟨m,rfl⟩ : ∃ m,n=m+1:=(n - 1,());obtain⟨i,j,hij,hj,e⟩:=php m (λi=>if f i=m then r else f i) (λi hi=>by
   have h1:=hf i ();have h2:f i≠r:=λe=>h (i,(),e)
   split <;> omega)
  have h1:f i≠r:=λe=>h (i,(),e)
  have h2:f j≠r:=λe=>h (j,(),e)
  have h3:=inj i j hij ()
  split at e <;> split at e <;> omega
def JT(D:a^x % p=1 % p)(hy:a^y % p=1 % p):a^(x % y) % p=1 % p:=by
 have e:a^x =(a^y)^(x / y)*a^(x % y):=by rw[← waR,← uF,waH]
 have h1:(a^y)^(x / y) % p=1 % p:=by rw[Gx,hy,← Gx,wbR]
 rw[e,GV,h1,← GV,uW]at D;exact D
def zhe:∀ x y,a^x % p=1 % p->a^y % p=1 % p->a^(gC x y) % p=1 % p:=λx y=>by
 induction x,y using gC.induction with
 | H0 n=>intro _ h;rw[Nat.gcd_zero_left];exact h
 | H1 m n hm ih =>
  intro D hy;rw[wbS];exact ih (JT hy D) D
def zcJ{Q q' M g:Nat}(hQ:∀ h,h<=Q->h ∣ Q->h=Q\/h ∣ q')(Q0:0<Q)(hg:g ∣ Q*M)(hn:¬ g ∣ q'*M):Q ∣ g:=by
 have h1:gC g Q ∣ Q:=was _ _
 rcases hQ _ (wa1 Q0 h1) h1 with e|e
 ·rw[← e];exact waz _ _
 ·exfalso
  apply hn
  have h2:g ∣ gC (g*M) (Q*M):=Nat.dvd_gcd (wbk _ _) hg;rw[Nat.gcd_mul_right]at h2;exact GU h2 (Nat.mul_dvd_mul_right e M)
def pw(p:Nat):Nat->Nat->Nat->Nat
 | 0,_,_=>1 % p
 | f+1,a,n=>if n=0 then 1 % p else if n % 2=1 then pw p f (a*a % p) (n / 2)*a % p else pw p f (a*a % p) (n / 2)
def pw_eq p:∀ f a n,n<2^f->pw p f a n=a^n % p
 | 0,a,n,h=>by
  have:n=0:=by simpa using h
  subst this;rfl
 | f+1,a,n,h=>by
  have e:a^n =(a*a)^(n / 2)*a^(n % 2):=by rw[← wbT,← waR,← uF,waH]
  have ih:=pw_eq p f (a*a % p) (n / 2) (by rw[Gq]at h;omega);unfold pw
  split
  ·rename_i z;subst z;rfl
  ·split
   ·rename_i z;rw[ih,← Gx,e,z,wbU,Nat.mod_mul_mod]
   ·rename_i z;rw[ih,← Gx,e,show n % 2=0 by omega,wa8,gW]
def gp:Nat:=2305843009213693951
theorem zhR N (h:N=2305843009213693950):37^N % gp=1 % gp:=by
 rw[← pw_eq gp 61 37 N (by rw[h];decide),h];decide +kernel
theorem zj5 N (h:N=2305843009213693950):∀ q∈[2,3,5,7,11,13,31,41,61,151,331,1321],37^(N / q) % gp≠1 % gp:=by
 intro q hq;rw[← pw_eq gp 61 37 _ (uX (Nat.div_le_self _ _) (by rw[h];decide))];subst h
 revert q
 decide +kernel
set_option maxHeartbeats 1000000 in
theorem ziR{d:Nat}(h0:0<d)(h1:d<2305843009213693950)(h:37^d % gp=1 % gp):False:=by
 obtain⟨N,hN⟩ : ∃ N,N=2305843009213693950:=(_,rfl);have hg:=zhe d N h (zhR N hN);have dl:gC d N ∣ N:=was _ _;have dd:gC d N ∣ d:=waz _ _;generalize gC d N=g at *;have no:∀ q∈[2,3,5,7,11,13,31,41,61,151,331,1321],∀ y,y*q=N->0<q->¬ g ∣ y:=λq hq y hy q0 ⟨m,e⟩=>by
  refine zj5 N hN q hq ?_;rw[← hy,Nat.mul_div_cancel _ q0,e,waR,Gx,hg,← Gx,wbR]
 have fl:∀ Q q' M q:Nat,q∈[2,3,5,7,11,13,31,41,61,151,331,1321]->(∀ h,h<=Q->h ∣ Q->h=Q\/h ∣ q')->0<Q->0<q->Q*M=N->q'*M*q=N->Q ∣ g:=λQ q' M q hq h Q0 q0 e1 e2 =>
  zcJ h Q0 (by rw[e1];exact dl) (no q hq _ e2 q0)
 clear hg h no dl;subst hN;have a1:= fl 2 1 1152921504606846975 2 (by decide) (by decide +kernel) (by decide) (by decide) (by decide) (by decide);have a2:= fl 9 3 256204778801521550 3 (by decide) (by decide +kernel) (by decide) (by decide) (by decide) (by decide);have a3:= fl 25 5 92233720368547758 5 (by decide) (by decide +kernel) (by decide) (by decide) (by decide) (by decide);have a4:= fl 7 1 329406144173384850 7 (by decide) (by decide +kernel) (by decide) (by decide) (by decide) (by decide);have a5:= fl 11 1 209622091746699450 11 (by decide) (by decide +kernel) (by decide) (by decide) (by decide) (by decide);have a6:= fl 13 1 177372539170284150 13 (by decide) (by decide +kernel) (by decide) (by decide) (by decide) (by decide);have a7:= fl 31 1 74382032555280450 31 (by decide) (by decide +kernel) (by decide) (by decide) (by decide) (by decide);have a8:= fl 41 1 56240073395455950 41 (by decide) (by decide +kernel) (by decide) (by decide) (by decide) (by decide);have a9:= fl 61 1 37800705069076950 61 (by decide) (by decide +kernel) (by decide) (by decide) (by decide) (by decide);have a10:= fl 151 1 15270483504726450 151 (by decide) (by decide +kernel) (by decide) (by decide) (by decide) (by decide);have a11:= fl 331 1 6966293079195450 331 (by decide) (by decide +kernel) (by decide) (by decide) (by decide) (by decide);have a12:= fl 1321 1 1745528394559950 1321 (by decide) (by decide +kernel) (by decide) (by decide) (by decide) (by decide);clear fl;have mk:∀ x y z:Nat,Nat.Coprime x y->x*y=z->x ∣ g->y ∣ g->z ∣ g:=λx y z h e p q=>e ▸ Nat.Coprime.mul_dvd_of_dvd_of_dvd h p q
 have c:=mk 2 9 18 (by decide +kernel) (by decide) a1 a2;have c:=mk 18 25 450 (by decide +kernel) (by decide) c a3;have c:=mk 450 7 3150 (by decide +kernel) (by decide) c a4;have c:=mk 3150 11 34650 (by decide +kernel) (by decide) c a5;have c:=mk 34650 13 450450 (by decide +kernel) (by decide) c a6;have c:=mk 450450 31 13963950 (by decide +kernel) (by decide) c a7;have c:=mk 13963950 41 572521950 (by decide +kernel) (by decide) c a8;have c:=mk 572521950 61 34923838950 (by decide +kernel) (by decide) c a9;have c:=mk 34923838950 151 5273499681450 (by decide +kernel) (by decide) c a10;have c:=mk 5273499681450 331 1745528394559950 (by decide +kernel) (by decide) c a11;have c:=mk 1745528394559950 1321 2305843009213693950 (by decide +kernel) (by decide) c a12;have e:= c;exact bw (wa1 h0 (GU e dd)) (Nat.not_le_of_lt h1)
theorem zgt(i:Nat):gC gp (37^i % gp)=1:=by
 rw[wbM,← wbS,wbM];exact Nat.Coprime.pow_left i (by decide +kernel)
theorem zeL r (h0:0<r) (h1:r<gp):gC gp r=1:=by
 have cancel:∀ i j,i<j->j<2305843009213693950->37^i % gp≠37^j % gp:=λi j hij hj e=>by
  have e1:37^j=37^i*37^(j - i):=by rw[← uF];congr 1;omega
  have d:= Nat.dvd_of_mod_eq_zero (Nat.sub_mod_eq_zero_of_mod_eq e.symm);rw[e1,show 37^i*37^(j - i) - 37^i=37^i *(37^(j - i) - 1) by rw[GW,gW]]at d;have c:=(Nat.Coprime.pow_left i (by decide +kernel:Nat.Coprime 37 gp)).symm;have d':=c.dvd_of_dvd_mul_left d;refine ziR (d:=j - i) (by omega) (by omega) ?_;obtain⟨c,hc⟩:=d';have h1:1<=37^(j - i):=Nat.one_le_pow _ _ (by decide);rw[show 37^(j - i)=1+gp*c by omega,Nat.add_mul_mod_self_left]
 have pos:∀ i,0<37^i % gp:=λi=>by
  have:=zgt i
  rcases wam (37^i % gp)with z|z
  ·rw[z,Nat.gcd_zero_right]at this;exact bw this (by decide)
  ·exact z
 obtain⟨i,_,e⟩:=onto (n:=2305843009213693950) (λi _=>by
   have h:37^i % gp<2305843009213693951:=wa2 _ (by decide);have:=pos i;show 37^i % gp - 1<_;omega) (λi j hij hj e=>by
   have:=pos i;have:=pos j;have:=cancel i j hij hj;omega) (r:=r - 1) (by have:r<2305843009213693951:=h1;omega)
 have:=pos i;have e':37^i % gp=r:=by omega
 rw[← e'];exact zgt i
theorem zju:Pr 2305843009213693951:=(by decide,by decide,λr h0 h1=>by
 have:=zeL r.toNat (by omega) (by show r.toNat<2305843009213693951;omega);rw[gv,show r.natAbs=r.toNat by omega];exact this)
end Nm
namespace La
open Lean.Grind Nm
section
def zdG l w:gcdL (l++[w])=gC (gcdL l) w.natAbs:=by unfold gcdL;rw[GN];rfl
def XF l l':gcdL (l++l') ∣ gcdL l:=by unfold gcdL;rw[GN];exact(xT l' _).1
def zeq(h:gcdL (ws.take i)=1):gcdL ws=1:=by
 have:=XF (ws.take i) (ws.drop i);rw[List.take_append_drop,h]at this;exact Nat.dvd_one.mp this
def zbl(h:gcdL ws=1):kam 0 ws=ws:=by
 unfold kam;rw[bn (by simp),bn (),h];have:(λw:Int=>w.fdiv ((1:Nat):Int))=id:=funext λw=>Int.fdiv_one w
 rw[this,List.map_id]
def zbv(h:gcdL ws=0):kam 0 ws=ws:=by
 unfold kam;rw[bn (by simp),bj h]
def zbA(h:gcdL ws≠0):kam 0 ws=ws.map λw=>w.fdiv ((gcdL ws:Nat):Int):=by
 unfold kam;rw[bn (by simp),bn h]
def zbN(h:k≠0) ws:kam k ws=ws.map (·.fmod k):=by
 unfold kam;rw[bj h]
def jm rows:∀ c,(swTo k rows c).1.length +(swTo k rows c).2.length=rows.length
 | 0=>by show 0 +(rows.map (kam k)).length=_;rw[wc];omega
 | c+1=>by
  have ih:=jm (k:=k) rows c;show(kao k c (swTo k rows c)).1.length +(kao k c (swTo k rows c)).2.length=_;generalize swTo k rows c=s at ih;unfold kao;cases e:s.2.filter (λr=>decide (r.getD c 0≠0))with
  | nil=>exact ih
  | cons l rest =>
   show(s.1.map _++[Prod.mk c l]).length +(s.2.filter _++rest.map _).length=_;have h1:(s.2.filter (λr=>decide (r.getD c 0≠0))).length=rest.length+1:=by rw[e];rfl
   have h2:∀ l:List (List Int),(l.filter (λr=>decide (r.getD c 0≠0))).length +(l.filter (λr=>decide (r.getD c 0=0))).length=l.length:=by
    intro l
    induction l with
    | nil=>rfl
    | cons x l ih =>
     rw[gy,gy]
     by_cases z:x.getD c 0=0
     ·simp only[z,ne_eq,not_true_eq_false,decide_false,decide_true,if_true,um];simp only[wa4,if_false];simp only[ne_eq]at ih;omega
     ·simp only[z,ne_eq,not_false_eq_true,decide_false,decide_true,if_true,um];simp only[wa4,if_false];simp only[ne_eq]at ih;omega
   have h3:=h2 s.2;simp only[wD,wc,um,wae];omega
def zaM:∀ c,swTo k [] c =([],[])
 | 0=>rfl
 | c+1=>by
  show kao k c (swTo k [] c)=_;rw[zaM c];rfl
def yz{α:Type}{l:List α}{i:Nat}{x:α}(p:α->Bool)(h:l[i]?=some x):(l.take (i+1)).filter p =(l.take i).filter p ++(if p x=true then [x] else []):=by
 obtain⟨hi,e⟩:=wu.mp h;rw[vU hi,List.filter_append,e,gy,List.filter_nil]
def ze6{ws:List Int}{p:Nat}(C:p<ws.length)(hz:∀ j,j<p->ws.getD j 0=0)(hn:ws.getD p 0≠0):(ws.filter λw=>decide (w≠0))[0]?=some (ws.getD p 0):=by
 induction ws generalizing p with
 | nil=>simp at C
 | cons w ws ih =>
  cases p with
  | zero =>
   have h:w≠0:=by simpa using hn
   rw[gy,bj (by simpa using h)];simp
  | succ p =>
   have h0:w=0:=by simpa using hz 0 (Nat.succ_pos p)
   rw[gy,bn (by simp[h0])];have:=ih (by simpa using C) (λj hj=>by have:=hz (j+1) ();simpa using this) (by simpa using hn);rw[this];simp
end
def dB(bE B:Nat):Nb->Prop
 | .q r=>∃ a:Int,r *((bE:Int):Rat) =((a:Int):Rat)/\a.natAbs<=B
 | .z _=>True
def dB.mul(D:dB bE B x)(hy:dB D' B' y)(ox:x.ok k)(oy:y.ok k):dB (bE*D') (B*B') (nmul k x y):=by
 cases x with
 | q r =>
  cases y with
  | q s =>
   obtain⟨a,ea,ha⟩:=D;obtain⟨b,eb,hb⟩:=hy;refine(a*b,?_,?_)
   ·have e1:(((bE*D':Nat):Int):Rat) =((bE:Int):Rat) *((D':Int):Rat):=by rw[gP,vE]
    rw[e1,vE,← ea,← eb]
    grind
   ·rw[vS];exact vN ha hb
  | z j=>exact bw (show k=0 from ox) oy.1
 | z i =>
  cases y with
  | q s=>exact bw (show k=0 from oy) ox.1
  | z j=>trivial
def dB.add(D:dB bE B x)(hy:dB bE B' y)(ox:x.ok k)(oy:y.ok k):dB bE (B+B') (nadd k x y):=by
 cases x with
 | q r =>
  cases y with
  | q s =>
   obtain⟨a,ea,ha⟩:=D;obtain⟨b,eb,hb⟩:=hy;refine(a+b,?_,?_)
   ·rw[waI,← ea,← eb]
    grind
   ·have:=war a b;omega
  | z j=>exact bw (show k=0 from ox) oy.1
 | z i =>
  cases y with
  | q s=>exact bw (show k=0 from oy) ox.1
  | z j=>trivial
def dB.up(D:dB bE B x) e c (he:e<=c):dB (e*bE) (c*B) x:=by
 cases x with
 | q r =>
  obtain⟨a,ea,ha⟩:=D;refine(e*a,?_,?_)
  ·have e1:(((e*bE:Nat):Int):Rat) =((e:Int):Rat) *((bE:Int):Rat):=by rw[gP,vE]
   rw[e1,vE,← ea]
   grind
  ·rw[vS,ut];exact vN he ha
 | z i=>trivial
def dB.mono(D:dB bE B x)(h:B<=B'):dB bE B' x:=by
 cases x with
 | q r=>obtain⟨a,ea,ha⟩:=D;exact(a,ea,wE ha h)
 | z i=>trivial
def dB.num{k w:Int}{bE B:Nat}(h:w.natAbs*bE<=B):dB bE B (nnum k w):=by
 unfold nnum
 split
 ·refine(w*bE,by rw[vE],?_);rw[vS,ut];exact h
 ·trivial
def dB.parts(hD:bE≠0)(h:dB bE B (.q r)):r.den<=bE/\r.num.natAbs<=B:=by
 obtain⟨a,ea,ha⟩:=h;have e0:=kfRat.rat r rfl;have e0':r *((r.den:Int):Rat) =((r.num:Int):Rat):=e0;have e1:r.num*bE=a*r.den:=by
  have:((r.num*bE:Int):Rat) =((a*r.den:Int):Rat):=by
   rw[vE,vE,← e0',← ea]
   grind
  exact waJ.mp this
 have e2:r.num.natAbs*bE=a.natAbs*r.den:=by
  have:=congrArg Int.natAbs e1;rw[vS,vS,ut,ut]at this;exact this
 have cop:=(waB.mp r.reduced);have dv:= cop.dvd_of_dvd_mul_left (a.natAbs,by rw[e2,uQ]);have le:= wa1 () dv;refine(le,?_);have h1:r.num.natAbs*bE<=a.natAbs*bE:=by rw[e2];exact vk _ le
 have h2:r.num.natAbs<=a.natAbs:=Nat.le_of_mul_le_mul_right h1 ();omega
section
variable[Field F]
def zL{α:Type}{l:List α}{x y:α}(h:y∈l.set i x):y=x\/y∈l:=by
 rcases List.mem_or_eq_of_mem_set h with h|h
 ·exact .inr h
 ·exact .inl h
def zh7{O:Kf k F}(g:F->F)(h0:g 0=0)(h:∀ x∈xs,O.to (f x)=g (O.to x)) j:nv O (xs.map f) j=g (nv O xs j):=by
 rcases wJ j xs.length with l|l
 ·rw[zH O (by rw[wk,wa l];rfl),zH O (wa l),h _ (wj l)]
 ·rw[zI O (by rw[wc];exact l),zI O l,h0]
def zgv{O:Kf k F}(hl:xs.length=ys.length)(g:F->F->F)(h0:g 0 0=0)(h:∀ x∈xs,∀ y∈ys,O.to (f x y)=g (O.to x) (O.to y)) j:nv O (vK f xs ys) j=g (nv O xs j) (nv O ys j):=by
 rcases wJ j xs.length with l|l
 ·have l2:j<ys.length:=by omega
  rw[zH O (by rw[vL,wa l,wa l2]),zH O (wa l),zH O (wa l2),h _ (wj l) _ (wj l2)]
 ·rw[zI O (by rw[wO];omega),zI O l,zI O (),h0]
end
section
variable{F:Type}[Field F]
def je{u v:Nat->F}(hl:l<n)(h:∀ j,j<n->j≠l->u j*v j=0):dot n u v=u l*v l:=by
 induction n with
 | zero=>exact bw hl (ue l)
 | succ n ih =>
  simp only[dot]
  by_cases e:l=n
  ·subst e;rw[dot_zero l u v λj hj=>h j () ()];grind
  ·rw[ih () λj hj ne=>h j () ne,h n () (Ne.symm e)];grind
def xW n (u v w:Nat->F):dot n u (λj=>v j+w j)=dot n u v+dot n u w:=by
 rw[zM,jG,zM n v,zM n w]
def ZS a n (u v:Nat->F):dot n u (λj=>a*v j)=a*dot n u v:=by
 rw[zM,xn,zM n v]
def Span.dot_zero{S:(Nat->F)->Prop}{n:Nat}{x v:Nat->F}(h:Span S v)(z:∀ r,S r->dot n r x=0):dot n v x=0 :=
 h.all (P:=λv=>dot n v x=0) (La.dot_zero n _ _ λj _=>by grind) λc r v U hv=>by
  rw[jG n (λj=>c*r j) v x,xn,z r U,hv];grind
def Qk{α β:Type}{xs:List α}{ys:List β}{i:Nat}{a:α}{b:β}(h1:xs[i]?=some a)(h2:ys[i]?=some b):(a,b)∈xs.zip ys :=
 wg (by rw[gQ];exact(h1,h2))
def trF(n:Nat)(A:TB):TB:=(wQ n).map λj=>A.map λr=>r.getD j (.z 0)
def kar(l:Nat)(c:F):Nat->F:=λj=>if j=l then c else 0
def xm(hl:l<n) u (c:F):dot n u (kar l c)=c*u l:=by
 rw[je hl λj hj ne=>by unfold kar;rw[bn ne];grind];unfold kar;rw[bj rfl];grind
end
def rowD(bE B:Nat)(xs:List Nb):Prop:=∀ x∈xs,dB bE (2^B - 1) x
def rowB(B:Nat)(xs:List Nb):Prop:=∃ bE:Nat,bE≠0/\bE<2^B/\rowD bE B xs
def kal(B:Nat)(M:TB):Prop:=∀ r∈M,rowB B r
def rowB.mono(h:rowB B xs)(hc:B<=bF):rowB bF xs:=by
 obtain⟨bE,d0,d1,hd⟩:=h;have:2^B<=2^bF:=vI () hc;exact(bE,d0,(),λx D=>(hd x D).mono ())
def kal.mono(h:kal B M)(hc:B<=bF):kal bF M:=λr U=>(h r U).mono hc
def kal.app(h:kal B M)(g:kal B N):kal B (M++N):=λr U=>by
 rcases wq.mp U with q|q
 ·exact h r q
 ·exact g r q
def dB.den_dvd{bE B:Nat}{r:Rat}(hD:bE≠0)(h:dB bE B (.q r)):(r.den:Int) ∣ (bE:Int):=by
 obtain⟨a,ea,ha⟩:=h;have e0':r *((r.den:Int):Rat) =((r.num:Int):Rat):=kfRat.rat r rfl;have e1:r.num*bE=a*r.den:=by
  have:((r.num*bE:Int):Rat) =((a*r.den:Int):Rat):=by
   rw[vE,vE,← e0',← ea]
   grind
  exact waJ.mp this
 have e2:r.num.natAbs*bE=a.natAbs*r.den:=by
  have:=congrArg Int.natAbs e1;rw[vS,vS,ut,ut]at this;exact this
 have cop:=(waB.mp r.reduced);have dv:= cop.dvd_of_dvd_mul_left (a.natAbs,by rw[e2,uQ]);exact Int.ofNat_dvd.mpr dv
def zdY{bE B:Nat}{b:Int}{x:Nb}{k:Int}(J:kab k)(ox:x.ok k)(h7:61<=B)(hD:bE≠0)(h:dB bE (2^B - 1) x)(hb:0<b)(D:dvB b x)(hd:k=0->b ∣ (bE:Int)):(scW b x).natAbs<2^B:=by
 have p2:0<2^B:=GZ (by decide);cases x with
 | q r =>
  obtain⟨a,ea,ha⟩:=h;obtain⟨e,he⟩:=hd ox;have hdv:= D;have e1:=xQ hdv (yV r);have e0':r *((r.den:Int):Rat) =((r.num:Int):Rat):=kfRat.rat r rfl;have key:a=scW b (.q r)*e:=by
   show a=r.num*b.fdiv (r.den:Int)*e;generalize b.fdiv (r.den:Int)=u at *;have hDD:((bE:Int):Rat) =(u:Rat) *((r.den:Int):Rat) *(e:Rat):=by rw[he,← e1,vE,vE]
   have:(a:Rat) =((r.num*u*e:Int):Rat):=by
    rw[vE,vE,← ea,← e0',hDD];generalize (r.den:Rat)=dd
    grind
   exact waJ.mp this
  have ene:e≠0:=λz=>by rw[z,wag]at he;omega
  have:(scW b (.q r)).natAbs<=a.natAbs:=by
   rw[key,vS];exact uA _ (Gn.mpr ene)
  omega
 | z i =>
  have:=J.lt;obtain⟨_,i0,i1⟩:=ox;show i.natAbs<2^B;have:2^61<=2^B:=vI (by decide) h7;have:2^61=2305843009213693952:=by decide
  omega
def zhN{b d bE:Int}(hb:0<b)(hd:0<d)(h1:b ∣ bE)(h2:d ∣ bE):b.fdiv ((vH b d:Nat):Int)*d ∣ bE:=by
 have g0:0 <((vH b d:Nat):Int):=by have:=wak d (show b≠0 by omega);omega
 have db:= Gr b d;have dd:= GL b d;have e1:=xQ db ();have e2:=xQ dd ();have cop:vH (b.fdiv ((vH b d:Nat):Int)) (d.fdiv ((vH b d:Nat):Int))=1:=by
  rw[ur db,ur dd,wbI db dd,ut];exact wbJ ()
 generalize D:b.fdiv ((vH b d:Nat):Int)=x at *;generalize hy:d.fdiv ((vH b d:Nat):Int)=y at *;generalize hg:((vH b d:Nat):Int)=g at *;obtain⟨s,hs⟩:=h1;obtain⟨t,ht⟩:=h2;have e3:x*s=y*t:=by
  have:g *(x*s)=g *(y*t):=by
   grind
  exact Int.eq_of_mul_eq_mul_left () this
 have dv:y ∣ s:=by
  have:y ∣ x*s:=(t,e3);have h1:y.natAbs ∣ x.natAbs*s.natAbs:=by rw[← vS];exact waS.mpr this
  have c1:Nat.Coprime y.natAbs x.natAbs:=by
   have:gC x.natAbs y.natAbs=1:=cop;exact(waB.mp this)
  exact waS.mp (c1.dvd_of_dvd_mul_left h1)
 obtain⟨u,hu⟩:=dv;refine(u,?_);rw[hs,hu,← e1,← e2]
 grind
def zbs{k:Int}(J:kab k){B p:Nat}{ws:List Int}(h:∀ w∈ws,w.natAbs<2^B)(C:p<ws.length)(ne:ws.getD p 0≠0)(nn:nnum k (ws.getD p 0)≠nnum k 0):rowB B (overL k (p,ws)):=by
 have hl:ws.getD p 0∈ws:=by
  rw[we,wa C];exact wj C
 have hlb:=h _ hl;refine((ws.getD p 0).natAbs,(),hlb,λx D=>?_);unfold overL at D;obtain⟨w,hw,rfl⟩:=wm.mp D;generalize hL:ws.getD p 0=l at *
 by_cases k0:k=0
 ·subst k0;have hwb:=h w hw;have e1:nnum 0 w=.q (w:Rat):=rfl;have e2:nnum 0 l=.q (l:Rat):=rfl;rw[e1,e2];have nl:(l:Rat)≠0:=λz=>ne (gk.mp z)
  rcases Int.le_total 0 l with s|s
  ·refine(w,?_,());rw[show(l.natAbs:Int)=l by omega]
   grind
  ·refine(-w,?_,());rw[show(l.natAbs:Int) = -l by omega,waK,waK]
   grind
 ·have e1:nnum k w=.z (w.fmod k):=by unfold nnum;rw[bn k0]
  have e2:nnum k l=.z (l.fmod k):=by unfold nnum;rw[bn k0]
  rw[e1,e2]
  trivial
section
variable{k:Int}{F:Type}[Field F]
abbrev Rm(O:Kf k F)(M:TB):(Nat->F)->Prop:=Span (RmN O M)
def perp(n:Nat)(bC:(Nat->F)->Prop):(Nat->F)->Prop:=λv=>(∀ j,n<=j->v j=0)/\∀ u,bC u->dot n u v=0
variable{O:Kf k F}
def IsR.supp(h:IsR O n R ls)(hv:Rm O R v) j (hj:n<=j):v j=0:=h.rr.out_of (h.rows.mpr hv) j hj
def IsR.ext(h:IsR O n R ls)(h':IsR O n R' ls')(e:∀ v,Rm O R v↔Rm O R' v):R=R':=(h.unique h' (λv=>(e v).mp) (λv=>(e v).mpr)).1
structure AgR(k:Int)(n:Nat)(R:TB)(ls:List Nat)(f:Nat)(xs:List Nb):Prop where
 len:xs.length=n
 ok:OkR k xs
 one:xs[f]?=some (nnum k 1)
 at_:∀(i l:Nat)(r:List Nb)(y:Nb),ls[i]?=some l->R[i]?=some r->r[f]?=some y->xs[l]?=some (nsub k (nnum k 0) y)
 off:∀ j,j<n->j≠f->j∉ls->xs[j]?=some (nnum k 0)
def IsR.get(h:IsR O n R ls){i l:Nat}(hl:ls[i]?=some l)(U:R[i]?=some r):(l,nv O r)∈ls.zip (R.map (nv O)):=Qk hl (by rw[wk,U];rfl)
def IsR.lead_of(h:IsR O n R ls)(hl:l∈ls):∃(i:Nat)(r:List Nb),ls[i]?=some l/\R[i]?=some r:=by
 obtain⟨i,hi,e⟩:=wy hl;have h2:i<R.length:=by rw[← h.len];exact hi
 exact(i,R[i],by rw[wa hi,e],wa h2)
def IsR.row_of(h:IsR O n R ls)(U:r∈R):∃(i l:Nat),ls[i]?=some l/\R[i]?=some r:=by
 obtain⟨i,hi,e⟩:=wy U;have h2:i<ls.length:=by rw[h.len];exact hi
 exact(i,ls[i],wa h2,by rw[wa hi,e])
def AgR.val(h:IsR O n R ls){f:Nat}{xs:List Nb}(J:kab k)(hf:f<n)(g:AgR k n R ls f xs) :
  nv O xs f=1/\(∀(i l:Nat)(r:List Nb),ls[i]?=some l->R[i]?=some r->nv O xs l = - nv O r f)/\(∀ j,j≠f->j∉ls->nv O xs j=0):=by
 refine(by rw[zH O g.one,O.num1],λi l r hl U=>?_,λj hj hn=>?_)
 ·have orr:=h.ok r (wg U);have hf':f<r.length:=by rw[orr.1];exact hf
  rw[zH O (g.at_ i l r _ hl U (wa hf')),O.sub (zm J 0) (orr.2 _ (wj hf')),O.num0,zH O (wa hf')]
  grind
 ·rcases wJ j n with z|z
  ·rw[zH O (g.off j z hj hn),O.num0]
  ·exact zI O (by rw[g.len];exact z)
def zcn n (u v w:Nat->F):dot n u (λj=>v j - w j)=dot n u v - dot n u w:=by
 have:(λj=>v j - w j)=λj=>v j +(-1)*w j:=funext λj=>by grind
 rw[this,xW n u v (λj=>(-1)*w j),ZS];grind
def Span.dot_zero_r{x v:Nat->F}(h:Span S v)(z:∀ r,S r->dot n x r=0):dot n x v=0:=by
 rw[zM];exact h.dot_zero λr U=>by rw[zM];exact z r U
def zjp(h:IsR O n R ls)(J:kab k){f:Nat}{xs:List Nb}(hf:f<n)(nf:f∉ls)(g:AgR k n R ls f xs){r:List Nb}(U:r∈R):dot n (nv O r) (nv O xs)=0:=by
 obtain⟨v1,v2,v3⟩:=g.val h J hf;obtain⟨i,l,hl,hi⟩:=h.row_of U;have C:=h.get hl hi;have ln:= h.rr.lt _ C;have lf:l≠f:=λe=>nf (by rw[← e];exact wg hl)
 have e:dot n (nv O r) (nv O xs)=dot n (nv O r) (kar f 1)+dot n (nv O r) (kar l (- nv O r f)):=by
  rw[← xW];refine zt λj hj=>?_
  unfold kar
  by_cases e1:j=f
  ·subst e1;rw[bj rfl,bn (Ne.symm lf),v1];grind
  ·by_cases e2:j=l
   ·subst e2;rw[bn lf,bj rfl,v2 i j r hl hi];grind
   ·rw[bn e1,bn e2]
    by_cases hm:j∈ls
    ·obtain⟨i',r',hl',hi'⟩:=h.lead_of hm;have:nv O r j=0:=h.rr.oth _ C _ (h.get hl' hi') (Ne.symm e2);rw[this];grind
    ·rw[v3 j e1 hm];grind
 have o:nv O r l=1:=h.rr.one _ C;rw[e,xm hf,xm ln,o];grind
def xl(h:IsR O n R ls)(J:kab k){fs:List Nat}(inc:fs.Pairwise (·<·))(hfs:∀ f,f∈fs↔f<n/\f∉ls)(la:fs.length=A.length)(hA:∀(i f:Nat)(xs:List Nb),fs[i]?=some f->A[i]?=some xs->AgR k n R ls f xs)(v:Nat->F) :
  Rm O A v↔perp n (Rm O R) v:=by
 have rowA:∀ xs∈A,∃ f∈fs,AgR k n R ls f xs:=λxs D=>by
  obtain⟨i,hi,e⟩:=wy D;have h2:i<fs.length:=by omega
  exact(fs[i],wj h2,hA i fs[i] xs (wa h2) (by rw[wa hi,e]))
 have to:∀ w,Rm O A w->perp n (Rm O R) w:=λw hw=>by
  refine(λj hj=>hw.zero_at λr ⟨xs,D,e⟩=>?_,λu hu=>?_)
  ·obtain⟨f,_,g⟩:=rowA xs D;rw[e];exact zI O (by rw[g.len];exact hj)
  ·refine hu.dot_zero λr ⟨row,hrow,e⟩=>?_
   rw[e];refine hw.dot_zero_r λs ⟨xs,D,e'⟩=>?_
   obtain⟨f,hf,g⟩:=rowA xs D;have:=(hfs f).mp hf;rw[e'];exact zjp h J this.1 this.2 g hrow
 refine(to v,λhv=>?_)
 let PA:List (Pv F):=fs.zip (A.map (nv O))
 have incA:PA.Pairwise λa b=>a.1<b.1:=by
  rw[← gi,gV (by rw[wc];omega)];exact inc
 have memPA:∀ p∈PA,∃ xs,p.2=nv O xs/\AgR k n R ls p.1 xs/\p.1∈fs:=λp C=>by
  obtain⟨i,hi,e⟩:=wy C;have hi':= hi;rw[uB,wc]at hi';have h1:i<fs.length:=by omega
  have h2:i<A.length:=by omega
  have e':= e;rw[waA,uV]at e';refine(A[i],by rw[← e'],?_,by rw[← e'];exact wj h1);rw[← e'];exact hA i _ _ (wa h1) (wa h2)
 have cA:=(qc v PA).mono λr ⟨p,C,e⟩=>(qe (O:=O) la r).mp (p,C,e)
 have pc:=to _ cA;have wz:∀ j,v j - comb PA v j=0:=by
  have free:∀ f,f∈fs->comb PA v f=v f:=λf hf=>by
   obtain⟨i,hi,e⟩:=wy hf;have h2:i<A.length:=by omega
   have hm:= Qk (ys:=A.map (nv O)) (by rw[wa hi,e]) (by rw[wk,wa h2];rfl);have hfl:=(hfs f).mp hf;have key:comb PA v f=v f*1:=by
    have gen:∀ P,P.Pairwise (λa b=>a.1<b.1)->(∀ p∈P,∃ xs,p.2=nv O xs/\AgR k n R ls p.1 xs/\p.1∈fs)->(∃ p∈P,p.1=f)->comb P v f=v f*1:=by
     intro P
     induction P with
     | nil=>intro _ _ ⟨p,C,_⟩;exact nomatch C
     | cons p P ih =>
      intro pw hm hex;rw[uY]at pw;obtain⟨xs,ex,g,pf⟩:=hm p wt;have vals:=g.val h J ((hfs p.1).mp pf).1;simp only[comb]
      by_cases ep:p.1=f
      ·rw[yv v f P λq hq=>?_]
       ·rw[ex,← ep,vals.1];grind
       ·obtain⟨ys,ey,g',qf⟩:=hm q (ww _ hq);have vq:=g'.val h J ((hfs q.1).mp qf).1;have:p.1<q.1:=pw.1 q hq;rw[ey,vq.2.2 f () hfl.2];grind
      ·obtain⟨q,hq,eq⟩:=hex
       rcases wG.mp hq with z|z
       ·rw[z]at eq;exact bw eq ep
       ·rw[ih pw.2 (λr U=>hm r (ww _ U)) (q,z,eq),ex,vals.2.2 f (Ne.symm ep) hfl.2];grind
    exact gen PA incA memPA (_,hm,V)
   rw[key];grind
  intro j
  rcases wJ j n with hj|hj
  ·by_cases hm:j∈ls
   ·obtain⟨i,r,hl,U⟩:=h.lead_of hm;have C:=h.get hl U;have d0:dot n (nv O r) (λj=>v j - comb PA v j)=0:=by
     have h1:= hv.2 _ (.of (r,wg U,V));have h2:= pc.2 _ (.of (r,wg U,V));rw[zcn,h1,h2];grind
    rw[je hj λt ht ne=>?_]at d0
    ·have o:nv O r j=1:=h.rr.one _ C;rw[o]at d0
     grind
    ·by_cases tm:t∈ls
     ·obtain⟨i',r',hl',hi'⟩:=h.lead_of tm;have:nv O r t=0:=h.rr.oth _ C _ (h.get hl' hi') (Ne.symm ne);rw[this];grind
     ·rw[free t ((hfs t).mpr (ht,tm))];grind
   ·rw[free j ((hfs j).mpr (hj,hm))];grind
  ·rw[hv.1 j hj,pc.1 j hj];grind
 exact cA.cast λj=>by have:=wz j;grind
def Jh(h:IsR O n R ls)(J:kab k)(v:Nat->F):perp n (perp n (Rm O R)) v↔Rm O R v:=by
 constructor
 ·intro hv;have cR:= h.rows.mp (qc v _);have ag:∀ f,f<n->f∉ls->∃ a:Nat->F,perp n (Rm O R) a/\a f=1/\∀ j,j≠f->j∉ls->a j=0:=λf hf nf=>by
   let a:Nat->F:=λj=>if j=f then 1 else comb (ls.zip (R.map (nv O))) (λ_=>0) j +(if hj:j∈ls then - (nv O ((R.getD (ls.idxOf j) [])) f)else 0)
   have a0:∀ j,j≠f->j∉ls->a j=0:=λj hj hn=>by
    show(if j=f then 1 else _)=_;rw[bn hj,dif_neg hn,yv _ j _ λp _=>by grind];grind
   have al:∀(i l:Nat)(r:List Nb),ls[i]?=some l->R[i]?=some r->a l = - nv O r f:=λi l r hl U=>by
    have lf:l≠f:=λe=>nf (by rw[← e];exact wg hl)
    have hm:=wg hl;have nd:ls.Nodup:=by
     have:=h.rr.inc;rw[← gi,gV (by rw[wc];exact gM h.len)]at this;exact this.imp λh=>vp h
    have ei:ls.idxOf l=i:=by
     have h1:ls[ls.idxOf l]?=some l:=by rw[wa (uT hm)];simp
     exact(Gk (uT hm) nd).mp (h1.trans hl.symm)
    show(if l=f then 1 else _)=_;rw[bn lf,dif_pos hm,yv _ l _ λp _=>by grind,ei,we,U]
    grind
   refine(a,(λj hj=>a0 j () λhm=>?_,λu hu=>?_),by show(if f=f then 1 else _)=_;rw[bj rfl],a0)
   ·obtain⟨i,r,hl,U⟩:=h.lead_of hm;have:j<n:=h.rr.lt _ (h.get hl U);omega
   ·refine hu.dot_zero λs ⟨r,U,e⟩=>?_
    rw[e];obtain⟨i,l,hl,hi⟩:=h.row_of U;have C:=h.get hl hi;have ln:= h.rr.lt _ C;have lf:l≠f:=λe=>nf (by rw[← e];exact wg hl)
    have af:a f=1:=by show(if f=f then 1 else _)=_;rw[bj rfl]
    have e:dot n (nv O r) a=dot n (nv O r) (kar f 1)+dot n (nv O r) (kar l (- nv O r f)):=by
     rw[← xW];refine zt λj hj=>?_
     unfold kar
     by_cases e1:j=f
     ·subst e1;rw[bj rfl,bn (Ne.symm lf),af];grind
     ·by_cases e2:j=l
      ·subst e2;rw[bn lf,bj rfl,al i j r hl hi];grind
      ·rw[bn e1,bn e2]
       by_cases hm:j∈ls
       ·obtain⟨i',r',hl',hi'⟩:=h.lead_of hm;have:nv O r j=0:=h.rr.oth _ C _ (h.get hl' hi') (Ne.symm e2);rw[this];grind
       ·rw[a0 j e1 hm];grind
    have o:nv O r l=1:=h.rr.one _ C;rw[e,xm hf,xm ln,o];grind
  have lead:∀ l,l∈ls->comb (ls.zip (R.map (nv O))) v l=v l:=λl hl=>by
   obtain⟨i,r,h1,h2⟩:=h.lead_of hl;have C:=h.get h1 h2;have gen:∀ P,P.Pairwise (λa b=>a.1<b.1)->(∀ p∈P,p∈ls.zip (R.map (nv O)))->(∃ p∈P,p.1=l)->comb P v l=v l*1:=by
    intro P
    induction P with
    | nil=>intro _ _ ⟨p,C,_⟩;exact nomatch C
    | cons p P ih =>
     intro pw hm hex;rw[uY]at pw;have hp0:=hm p wt;simp only[comb]
     by_cases ep:p.1=l
     ·have o:= h.rr.one _ hp0;rw[yv v l P λq hq=>?_]
      ·rw[← ep,o];grind
      ·have hq0:=hm q (ww _ hq);have:p.1<q.1:=pw.1 q hq;have z:= h.rr.oth q hq0 p hp0 ();rw[← ep,z];grind
     ·obtain⟨q,hq,eq⟩:=hex
      rcases wG.mp hq with z|z
      ·rw[z]at eq;exact bw eq ep
      ·have hq0:=hm q (ww _ z);have z2:= h.rr.oth p hp0 q hq0 (by rw[eq];exact ep);rw[ih pw.2 (λr U=>hm r (ww _ U)) (q,z,eq),← eq,z2];grind
   rw[gen _ h.rr.inc (λp C=>C) (_,C,V)];grind
  refine cR.cast λj=>?_
  rcases wJ j n with hj|hj
  ·by_cases hm:j∈ls
   ·exact lead j hm
   ·obtain⟨a,pa,af,a0⟩:=ag j hj hm;have d0:dot n a (λj=>v j - comb (ls.zip (R.map (nv O))) v j)=0:=by
     have h1:= hv.2 a pa;have h2:dot n a (comb (ls.zip (R.map (nv O))) v)=0:=by rw[zM];exact pa.2 _ cR
     rw[zcn,h1,h2];grind
    rw[je hj λt ht ne=>?_,af]at d0
    ·grind
    ·by_cases tm:t∈ls
     ·rw[lead t tm];grind
     ·rw[a0 t ne tm];grind
  ·rw[h.supp cR j hj,hv.1 j hj]
 ·intro hv;exact(λj hj=>h.supp hv j hj,λu hu=>by rw[zM];exact hu.2 v hv)
end
section
variable{F:Type}[Field F]{O:Kf k F}
def xE(J:kab k):∀ {xs:List Nb},OkR k xs->∃ b,Scl k xs (xs.map (scW b)) b:=by
 intro xs ox
 by_cases k0:k=0
 ·have:∃ b:Int,0<b/\∀ x∈xs,dvB b x:=by
   induction xs with
   | nil=>exact(1,(),λx D=>nomatch D)
   | cons x xs ih =>
    obtain⟨b,b0,hb⟩:=ih λy hy=>ox y (ww _ hy)
    cases x with
    | z i=>exact bw k0 (ox (.z i) wt).1
    | q r =>
     refine(b*r.den,wap b0 (den_pos r),λy hy=>?_)
     rcases wG.mp hy with e|hy
     ·rw[e];exact wbr _ _
     ·have:=hb y hy;cases y with
      | q s=>exact wbC (show(s.den:Int) ∣ b from this) (wbf _ _)
      | z j=>trivial
  obtain⟨b,b0,hb⟩:=this;exact(b,V,b0,λz=>bw k0 z,hb)
 ·refine(1,V,(),λ_=>rfl,λx D=>?_);have o:=ox x D;cases x with
  | q r=>exact bw o k0
  | z i=>trivial
def qt(O:Kf k F)(J:kab k)(oM:OkM k n M):∃ R ls,kay O n M R ls:=by
 have:∃ Ws:List (List Int),Ws.length=M.length/\∀(i:Nat) r ws,M[i]?=some r->Ws[i]?=some ws->∃ b,Scl k r ws b:=by
  induction M with
  | nil=>exact([],V,λi r ws h=>by simp at h)
  | cons m M ih =>
   obtain⟨Ws,l,h⟩:=ih λr U=>oM r (ww _ U)
   obtain⟨b,hb⟩:=xE J (oM m wt).2;refine(m.map (scW b)::Ws,by simp[l],λi r ws h1 h2=>?_);cases i with
   | zero=>simp at h1 h2;subst h1 h2;exact(b,hb)
   | succ i=>exact h i r ws (by simpa using h1) (by simpa using h2)
 obtain⟨Ws,l,h⟩:=this;exact(_,_,qx O J oM l h)
def ofV(O:Kf k F)(n:Nat)(v:Nat->F):List Nb:=(wQ n).map λj=>O.of (v j)
def zgj v:(ofV O n v).length=n/\OkR k (ofV O n v):=by
 refine(by unfold ofV;simp,λx D=>?_);unfold ofV at D;obtain⟨j,_,rfl⟩:=wm.mp D;exact O.ok _
def zij(hv:∀ j,n<=j->v j=0) j:nv O (ofV O n v) j=v j:=by
 rcases wJ j n with h|h
 ·rw[zH O (by unfold ofV;rw[wk,wZ h];rfl),O.to_of]
 ·rw[zI O (by rw[(zgj (O:=O) v).1];exact h),hv j h]
def xL:∀ {P Q:List Nat},P.Pairwise (·<·)->Q.Pairwise (·<·)->(∀ p∈P,p∈Q)->(∀ q∈Q,q∈P)->P=Q
 | [],[],_,_,_,_=>rfl
 | [],q::_,_,_,_,h=>nomatch h q wt
 | p::_,[],_,_,h,_=>nomatch h p wt
 | p::P,q::Q,hP,hQ,h1,h2=>by
  rw[uY]at hP hQ;have e:p=q:=by
   rcases wG.mp (h1 p wt)with e|m
   ·exact e
   ·rcases wG.mp (h2 q wt)with e|m'
    ·exact e.symm
    ·have:=hP.1 q m';have:=hQ.1 p m;omega
  subst e;rw[xL hP.2 hQ.2 (λr U=>?_) (λr U=>?_)]
  ·rcases wG.mp (h1 r (ww _ U))with e|m
   ·subst e;exact bw (hP.1 r U) (vY _)
   ·exact m
  ·rcases wG.mp (h2 r (ww _ U))with e|m
   ·subst e;exact bw (hQ.1 r U) (vY _)
   ·exact m
def jc p:∀ l:List Nat,(l.filter p).length +(l.filter λx=>!p x).length=l.length
 | []=>rfl
 | x::l=>by
  have ih:=jc p l;rw[gy,gy];cases h:p x <;> simp <;> omega
def IsR.inc(h:IsR O n bC lu):lu.Pairwise (·<·):=by
 have:=h.rr.inc;rw[← gi,gV (by rw[wc];exact gM h.len)]at this;exact this
def IsR.lead_iff(h:IsR O n bC lu)(p:Nat):p∈lu↔∃ v,Rm O bC v/\(∀ j,j<p->v j=0)/\v p≠0:=by
 constructor
 ·intro C;obtain⟨i,r,h1,h2⟩:=h.lead_of C;have hm:=h.get h1 h2;have o:nv O r p=1:=h.rr.one _ hm;exact(nv O r,.of (r,wg h2,V),h.rr.bef _ hm,by rw[o];exact λe=>Field.zero_ne_one e.symm)
 ·rintro ⟨v,hv,z,ne⟩
  obtain⟨q,hq,e⟩:=h.rr.lead (h.rows.mpr hv) z ne;rw[← e];exact(vt (show Prod.mk q.1 q.2∈_ from hq)).1
def IsR.zero(h:IsR O n bC lu){v:Nat->F}(hv:Rm O bC v)(z:∀ l∈lu,v l=0)(j:Nat):v j=0:=by
 rw[← h.rr.comb (h.rows.mpr hv) j];exact yv v j _ λp C=>by
  rw[z p.1 (vt (show Prod.mk p.1 p.2∈_ from C)).1];grind
def IsR.take_off(h:IsR O n bC lu)(v:Nat->F):∃ u,Rm O bC u/\∀ l∈lu,u l=v l:=by
 refine(comb (lu.zip (bC.map (nv O))) v,h.rows.mp (qc v _),λl hl=>?_);obtain⟨i,r,h1,h2⟩:=h.lead_of hl;have C:=h.get h1 h2;have gen:∀ P,P.Pairwise (λa b=>a.1<b.1)->(∀ p∈P,p∈lu.zip (bC.map (nv O)))->(∃ p∈P,p.1=l)->comb P v l=v l*1:=by
  intro P
  induction P with
  | nil=>intro _ _ ⟨p,C,_⟩;exact nomatch C
  | cons p P ih =>
   intro pw hm hex;rw[uY]at pw;have hp0:=hm p wt;simp only[comb]
   by_cases ep:p.1=l
   ·have o:= h.rr.one _ hp0;rw[yv v l P λq hq=>?_]
    ·rw[← ep,o];grind
    ·have hq0:=hm q (ww _ hq);have:p.1<q.1:=pw.1 q hq;have z:= h.rr.oth q hq0 p hp0 ();rw[← ep,z];grind
   ·obtain⟨q,hq,eq⟩:=hex
    rcases wG.mp hq with z|z
    ·rw[z]at eq;exact bw eq ep
    ·have hq0:=hm q (ww _ z);have z2:= h.rr.oth p hp0 q hq0 (by rw[eq];exact ep);rw[ih pw.2 (λr U=>hm r (ww _ U)) (q,z,eq),← eq,z2];grind
 rw[gen _ h.rr.inc (λp C=>C) (_,C,V)];grind
end
section
variable[Field F]{O:Kf k F}
def Span.read{f:Nat->Nat}{g:Nat->F}(h:Span S v)(U:∀ r,S r->r t=dot n (λi=>r (f i)) g):v t=dot n (λi=>v (f i)) g:=by
 refine h.all (P:=λv=>v t=dot n (λi=>v (f i)) g) ?_ λc r v q e=>?_
 ·exact(La.dot_zero n _ g λj _=>by grind).symm
 ·show c*r t+v t=dot n (λi=>c*r (f i)+v (f i)) g;rw[jG n (λi=>c*r (f i)) (λi=>v (f i)),xn c n (λi=>r (f i)),← U r q,← e]
def jC j:nv O (xs++ys) j=if j<xs.length then nv O xs j else nv O ys (j - xs.length):=by
 unfold nv
 split
 ·rename_i h;rw[we,vm h,← we]
 ·rename_i h;rw[we,vd (),← we]
def qS(h:j<m):nv O (xs.take m) j=nv O xs j:=by
 unfold nv;rw[we,wat h,← we]
def zaG j:nv O (xs.drop m) j=nv O xs (m+j):=by
 unfold nv;rw[we,gJ,← we]
def kad(k:Int)(n i:Nat):List Nb:=(wQ n).map λj=>if i=j then nnum k 1 else nnum k 0
def kaj(k:Int)(n:Nat):TB:=(wQ n).map (kad k n)
def xy(J:kab k) n i:(kad k n i).length=n/\OkR k (kad k n i):=by
 refine(by unfold kad;simp,λx D=>?_);obtain⟨j,_,rfl⟩:=wm.mp D
 split
 ·exact zm J 1
 ·exact zm J 0
def yQ(h:i<n):(kaj k n)[i]?=some (kad k n i):=by unfold kaj;rw[wk,wZ h];rfl
def yi(J:kab k) n:OkM k n (kaj k n)/\(kaj k n).length=n:=by
 refine(λr U=>?_,by unfold kaj;simp);obtain⟨i,_,rfl⟩:=wm.mp U;exact xy J n i
def yH(hi:i<n) j:nv O (kad k n i) j=kar i 1 j:=by
 unfold kar
 rcases wJ j n with h|h
 ·rw[zH O (x:=if i=j then nnum k 1 else nnum k 0) (by unfold kad;rw[wk,wZ h];rfl)]
  split
  ·rename_i e;subst e;rw[bj rfl];exact O.num1
  ·rename_i e;rw[bn (Ne.symm e)];exact O.num0
 ·rw[zI O (by unfold kad;simp;exact h),bn ()]
def kan(k:Int)(n:Nat)(M:TB):TB:=vK (·++·) M (kaj k n)
def qy(lM:M.length=n)(h:M[i]?=some m):(kan k n M)[i]?=some (m++kad k n i):=by
 have hi:i<n:=by rw[← lM];exact(wu.mp h).1
 unfold kan;rw[vL,h,yQ hi]
def ZY(lM:M.length=n)(h:r∈kan k n M):∃ i m,i<n/\M[i]?=some m/\r=m++kad k n i:=by
 obtain⟨i,hi,e⟩:=wy h;have l:i<n:=by
  unfold kan at hi;rw[wO]at hi;omega
 refine(i,M[i],l,wa (),?_);have:=qy (k:=k) lM (wa (show i<M.length by omega));rw[wa hi,e]at this;exact Option.some.inj this
def jY(J:kab k)(oM:OkM k n M)(lM:M.length=n):OkM k (n+n) (kan k n M)/\(kan k n M).length=n:=by
 refine(λr U=>?_,by unfold kan;rw[wO,(yi J n).2];omega);obtain⟨i,m,hi,hm,rfl⟩:=ZY lM U;have o:=oM m (wg hm);have u:=xy J n i;refine(by rw[wD,o.1,u.1],λx D=>?_)
 rcases wq.mp D with h|h
 ·exact o.2 x h
 ·exact u.2 x h
def Zy(J:kab k)(oM:OkM k n M)(h:M[i]?=some m)(hi:i<n):(∀ j,j<n->nv O (m++kad k n i) j=nv O m j)/\∀ t,nv O (m++kad k n i) (n+t)=kar i 1 t:=by
 have o:=oM m (wg h);refine(λj hj=>by rw[jC,bj ()],λt=>?_);rw[jC,bn (),o.1,uR,yH hi]
def JV(J:kab k){M:TB}(oM:OkM k n M)(lM:M.length=n){v:Nat->F}(hv:Rm O (kan k n M) v){j:Nat}(hj:j<n):v j=dot n (λi=>v (n+i)) (λi=>nv O (M.getD i []) j):=by
 refine Span.read hv λr ⟨x,D,e⟩=>?_
 obtain⟨i,m,hi,hm,rfl⟩:=ZY lM D;obtain⟨h1,h2⟩:=Zy (O:=O) J oM hm hi;rw[e,h1 j hj,show(λt=>nv O (m++kad k n i) (n+t))=kar i 1 from funext h2,zM,xm hi];have:M.getD i []=m:=by rw[we,hm];rfl
 rw[this];grind
def zbq(J:kab k){R:TB}(hU:R.map (Ga n)=kaj k n){v:Nat->F}(hv:Rm O R v)(t:Nat):v (n+t)=dot n v (λp=>nv O (R.getD p []) (n+t)):=by
 refine Span.read hv λr ⟨x,D,e⟩=>?_
 obtain⟨p,C,ep⟩:=wy D;have lR:R.length=n:=by have:=congrArg vO hU;rw[wc,(yi J n).2]at this;exact this
 have hpn:p<n:=by omega
 have eu:x.take n=kad k n p:=by
  have:=congrArg (λl=>l[p]?) hU;simp only[wk]at this;rw[wa C,ep,yQ hpn]at this;exact Option.some.inj this
 have:R.getD p []=x:=by rw[we,wa C,ep];rfl
 rw[e];have h1:dot n (λi=>nv O x i) (λp=>nv O (R.getD p []) (n+t))=dot n (kar p 1) (λp=>nv O (R.getD p []) (n+t)):=zt λj hj=>by rw[← yH (O:=O) hpn,← eu,qS hj]
 rw[h1,zM,xm hpn,this];grind
end
section
variable[Field F]{O:Kf k F}
def zfm(O:Kf k F)(J:kab k)(oM:OkM k n M)(red:kay O n M R ls):R.length<=M.length:=by
 have:∃ Ws:List (List Int),Ws.length=M.length/\∀(i:Nat) r ws,M[i]?=some r->Ws[i]?=some ws->∃ b,Scl k r ws b:=by
  clear red
  induction M with
  | nil=>exact([],V,λi r ws h=>by simp at h)
  | cons m M ih =>
   obtain⟨Ws,l,h⟩:=ih λr U=>oM r (ww _ U)
   obtain⟨b,hb⟩:=xE J (oM m wt).2;refine(m.map (scW b)::Ws,by simp[l],λi r ws h1 h2=>?_);cases i with
   | zero=>simp at h1 h2;subst h1 h2;exact(b,hb)
   | succ i=>exact h i r ws (by simpa using h1) (by simpa using h2)
 obtain⟨Ws,l,h⟩:=this;have eR:= red.unique (qx O J oM l h) (λv q=>q) (λv q=>q);have:=jm (k:=k) Ws n;rw[eR];unfold redM;rw[wc];omega
def zff(inc:ls.Pairwise (·<·))(all:∀ p,p<n->p∈ls)(len:ls.length<=n):ls=wQ n:=by
 have h1:ls.filter (λx=>decide (x<n))=wQ n:=xL (inc.filter _) Gf (λp C=>by
  rw[vG]at C;exact vA.mpr (bt C.2)) (λq hq=>by
  have:=vA.mp hq;rw[vG];exact(all q this,br this))
 have h2:=jc (λx=>decide (x<n)) ls;rw[h1,ve]at h2;have h3:ls.filter (λx=>!decide (x<n))=[]:=uM ();rw[List.filter_eq_nil_iff]at h3;rw[← h1];refine(List.filter_eq_self.mpr λx D=>?_).symm;have:=h3 x D
 simpa using this
def Qz(J:kab k)(oM:OkM k n M)(lM:M.length=n)(h:Rm O M v):∃ w,Rm O (kan k n M) w/\∀ j,j<n->w j=v j:=by
 refine h.all (P:=λv=>∃ w,Rm O (kan k n M) w/\∀ j,j<n->w j=v j) (λ_=>0,.zero,λ_ _=>rfl) λc r v ⟨x,D,e⟩ ⟨w,hw,ew⟩=>?_
 obtain⟨i,hi,ei⟩:=wy D;have hg:M[i]?=some x:=by rw[wa hi,ei]
 have b:=qy (k:=k) lM hg;refine(λj=>c*nv O (x++kad k n i) j+w j,.step c (_,wg b,V) hw,λj hj=>?_)
 dsimp only
 rw[(Zy (O:=O) J oM hg ()).1 j hj,ew j hj,e]
def zf4(oM:OkM k n M)(h:Rm O M v)(hj:n<=j):v j=0 :=
 Span.zero_at h λr ⟨x,D,e⟩=>by rw[e,zI O (by rw[(oM x D).1];exact hj)]
def zed(J:kab k)(oM:OkM k n M)(lM:M.length=n)(red:kay O (n+n) (kan k n M) R ls)(all:∀ p,p<n->∃ v,Rm O M v/\(∀ j,j<p->v j=0)/\v p≠0):R.map (Ga n)=kaj k n:=by
 have lR:=zfm O J (jY J oM lM).1 red;rw[(jY J oM lM).2]at lR;have h:=red.toIsR;have el:= zff h.inc (λp C=>by
  obtain⟨v,hv,z,ne⟩:=all p C;obtain⟨w,hw,e⟩:=Qz J oM lM hv;exact(h.lead_iff p).mpr (w,red.to w hw,λj hj=>by rw[e j (),z j hj],by rw[e p C];exact ne)) (by rw[h.len];exact lR)
 have hl:R.length=n:=by rw[← h.len,el,ve]
 refine uP (by rw[wc,hl,(yi J n).2]) λp h1 h2=>?_
 have C:p<n:=by rw[wc]at h1;omega
 have e2:(kaj k n)[p]=kad k n p:=by
  have:=yQ (k:=k) C;rw[wa h2]at this;exact Option.some.inj this
 rw[uV,e2];have o:=h.ok _ (wj (show p<R.length by omega));have u:=xy J n p;refine Yb O (λx D=>o.2 x (vn D)) u.2 (by rw[wr,o.1,u.1];omega) λj=>?_
 have lp:∀ q,q<n->ls[q]?=some q:=λq hq=>by rw[el,wZ hq]
 rcases wJ j n with hj|hj
 ·rw[qS hj,yH C];have m1:=h.get (lp p C) (wa (show p<R.length by omega));have m2:=h.get (lp j hj) (wa (show j<R.length by omega));unfold kar
  split
  ·rename_i e;subst e;exact h.rr.one _ m1
  ·rename_i e;exact h.rr.oth _ m1 _ m2 (Ne.symm e)
 ·rw[zI O (by rw[wr];omega),zI O (by rw[u.1];exact hj)]
def YF(O:Kf k F)(J:kab k) n:IsR O n (kaj k n) (wQ n):=by
 have mem:∀ p∈(wQ n).zip ((kaj k n).map (nv O)),p.1<n/\p.2=kar p.1 1:=λp C=>by
  obtain⟨i,hi,e⟩:=wy C;have hin:i<n:=by rw[uB,ve]at hi;omega
  have:((wQ n).zip ((kaj k n).map (nv O)))[i]?=some (i,nv O (kad k n i)):=by
   rw[gQ];exact(wZ hin,by rw[wk,yQ hin];rfl)
  rw[wa hi,e]at this;rw[Option.some.inj this];exact(hin,funext λj=>yH hin j)
 refine((yi J n).1,by rw[ve,(yi J n).2],?_,λp C=>(mem p C).1,λp C j hj=>?_,λp C j hj=>?_,λp C=>?_,λp C q hq ne=>?_)
 ·rw[← gi,gV (by rw[wc,ve,(yi J n).2];exact wv _)];exact Gf
 ·rw[(mem p C).2];unfold kar;rw[bn (by have:=(mem p C).1;omega)]
 ·rw[(mem p C).2];unfold kar;rw[bn ()]
 ·rw[(mem p C).2];unfold kar;rw[bj rfl]
 ·rw[(mem p C).2];unfold kar;rw[bn (Ne.symm ne)]
end
section
variable[Field F]
def jX n c (b:Nat->Nat->F) a:∀ m,dot m a (λi=>dot n (b i) c)=dot n (λj=>dot m a (λi=>b i j)) c
 | 0=>by
  rw[dot_zero n (λj=>dot 0 a λi=>b i j) c λj _=>by simp only[dot];grind]
  rfl
 | m+1=>by
  have e:dot n (λj=>dot (m+1) a (λi=>b i j)) c=dot n (λj=>dot m a (λi=>b i j)) c+dot n (λj=>a m*b m j) c:=by
   rw[← jG]
   rfl
  rw[e,← jX n c b a m,xn]
  rfl
def imgR(k:Int)(M:TB)(x:List Nb):List Nb:=M.map λr=>ndot k r x
def prodR(k:Int)(c:Nat)(M N:TB):TB:=M.map λr=>(trF c N).map λcol=>ndot k r col
def YW(J:kab k)(oM:OkM k n M)(ox:OkR k x):(imgR k M x).length=M.length/\OkR k (imgR k M x):=by
 refine(by unfold imgR;rw[wc],λy hy=>?_);unfold imgR at hy;obtain⟨r,U,rfl⟩:=wm.mp hy;exact yb J (oM r U).2 ox
def zg8 n M:(trF n M).length=n:=by unfold trF;simp
def zgV(h:i<n):(trF n M)[i]?=some (M.map λr=>r.getD i (.z 0)):=by unfold trF;simp[h]
def zjK(h:OkM k n M)(hj:j<n):(M.map λr=>r.getD j (.z 0)).length=M.length/\OkR k (M.map λr=>r.getD j (.z 0)):=by
 refine(wc _,λx D=>?_);obtain⟨row,hrow,rfl⟩:=wm.mp D;obtain⟨h1,h2⟩:=h row hrow;have hj':j<row.length:=by omega
 rw[we,wa hj'];exact h2 _ (wj hj')
def zi7(h:OkM k n M):OkM k M.length (trF n M):=λr U=>by
 unfold trF at U;obtain⟨j,hj,rfl⟩:=wm.mp U;rw[vA]at hj;exact zjK h hj
def yB(J:kab k)(oM:OkM k b M)(oN:OkM k c N):(prodR k c M N).length=M.length/\OkM k c (prodR k c M N):=by
 refine(by unfold prodR;rw[wc],λr U=>?_);unfold prodR at U;obtain⟨m,hm,rfl⟩:=wm.mp U;refine(by rw[wc,zg8],λx D=>?_);obtain⟨col,hcol,rfl⟩:=wm.mp D;exact yb J (oM m hm).2 (zi7 oN col hcol).2
end
section
variable[Field F]
def Unit2(n:Nat)(T S:Nat->Nat->F):Prop:=∀ p q,p<n->q<n->dot n (T p) (λl=>S l q)=if p=q then 1 else 0
def PairU(k:Int)(n:Nat)(T S:TB):Prop:=∀(F:Type) [Field F] (O:Kf k F),Unit2 n (λp=>nv O (T.getD p [])) (λl q=>nv O (S.getD l []) q)
end
section
variable[Field F]{O:Kf k F}
def zds{S:TB}{f:List Nb->List Nb}(hl:l<S.length):(S.map f).getD l []=f (S.getD l []):=by
 rw[we,wk,we,wa hl];rfl
def zhB(hj:j<xs.length):O.to (xs.getD j (.z 0))=nv O xs j:=by
 rw[zH O (wa hj),we,wa hj];rfl
def ym{S:TB}(hi:i<S.length):S[i]?=some (S.getD i []):=by rw[we,wa hi];rfl
end
section
variable{F:Type}[Field F]{O:Kf k F}
def Rm.app:Rm O (A++B) v↔∃ a b,Rm O A a/\Rm O B b/\∀ j,v j=a j+b j:=by
 constructor
 ·intro hv;refine hv.all (P:=λv=>∃ a b,Rm O A a/\Rm O B b/\∀ j,v j=a j+b j) (λ_=>0,λ_=>0,.zero,.zero,λj=>by grind) λc r v ⟨x,D,e⟩ ⟨a,b,ha,hb,ev⟩=>?_
  rcases wq.mp D with q|q
  ·exact(λj=>c*r j+a j,b,.step c (x,q,e) ha,hb,λj=>by show c*r j+v j=c*r j+a j+b j;rw[ev j];grind)
  ·exact(a,λj=>c*r j+b j,ha,.step c (x,q,e) hb,λj=>by show c*r j+v j=a j +(c*r j+b j);rw[ev j];grind)
 ·rintro ⟨a,b,ha,hb,ev⟩
  have h1:Rm O (A++B) a:=ha.mono λr ⟨x,D,e⟩=>(x,vh _ D,e)
  have h2:Rm O (A++B) b:=hb.mono λr ⟨x,D,e⟩=>(x,wL _ D,e)
  exact(h1.add h2).cast λj=>(ev j).symm
def limg(O:Kf k F)(n:Nat)(A:TB)(v:Nat->F):Nat->F:=λi=>dot n (nv O (A.getD i [])) v
def qm A c u v i:limg O n A (λj=>c*u j+v j) i=c*limg O n A u i+limg O n A v i:=by
 unfold limg;rw[xW n _ (λj=>c*u j) v,ZS]
def xH A i:limg O n A (λ_=>0) i=0:=dot_zero n _ _ λj _=>by grind
def zek j:nv O [] j=0:=zI O (vD _)
def JA(J:kab k)(oA:OkM k n A)(ox:OkR k x)(lx:x.length=n) i:nv O (imgR k A x) i=limg O n A (nv O x) i:=by
 unfold limg
 rcases wJ i A.length with h|h
 ·have g:= wa h;have ge:A.getD i []=A[i]:=by rw[we,g];rfl
  have oa:=oA A[i] (wj h);rw[zH O (by unfold imgR;rw[wk,g];rfl),xw O J oa.2 ox (by rw[oa.1,lx]),oa.1,ge]
 ·rw[zI O (by unfold imgR;rw[wc];exact h)];have ge:A.getD i []=[]:=by rw[we,wR h];rfl
  rw[ge,dot_zero n _ _ λj _=>by rw[zek];grind]
def Rm.img(J:kab k)(oA:OkM k n A)(oR:OkM k n R):Rm O (R.map (imgR k A)) w↔∃ v,Rm O R v/\∀ i,w i=limg O n A v i:=by
 constructor
 ·intro h;refine h.all (P:=λw=>∃ v,Rm O R v/\∀ i,w i=limg O n A v i) (λ_=>0,.zero,λi=>(xH A i).symm) λc r w ⟨x,D,e⟩ ⟨v,hv,ev⟩=>?_
  obtain⟨y,hy,rfl⟩:=wm.mp D;have oy:=oR y hy;refine(λj=>c*nv O y j+v j,.step c (y,hy,V) hv,λi=>?_);rw[qm,← ev i,← JA J oA oy.2 oy.1,e]
 ·rintro ⟨v,hv,ev⟩
  have:Rm O (R.map (imgR k A)) (limg O n A v):=by
   refine hv.all (P:=λv=>Rm O (R.map (imgR k A)) (limg O n A v)) (Span.cast .zero λi=>(xH A i).symm) λc r v ⟨x,D,e⟩ hw=>?_
   have ox:=oR x D;refine Span.cast (.step c (_,wm.mpr (x,D,V),V) hw) λi=>?_
   rw[qm,e,JA J oA ox.2 ox.1]
  exact this.cast λi=>(ev i).symm
def kry(k:Int)(A B:TB):Nat->TB
 | 0=>B
 | t+1=>B ++(kry k A B t).map (imgR k A)
def yR(J:kab k)(oA:OkM k n A)(lA:A.length=n)(oB:OkM k n B):∀ t,OkM k n (kry k A B t)
 | 0=>oB
 | t+1=>λr U=>by
  rcases wq.mp U with h|h
  ·exact oB r h
  ·obtain⟨x,D,rfl⟩:=wm.mp h;have:=YW J oA (yR J oA lA oB t x D).2;exact(by rw[this.1,lA],this.2)
def zaw(J:kab k){A B R:TB}(oA:OkM k n A)(lA:A.length=n)(oB:OkM k n B)(oR:OkM k n R){t:Nat}(e:∀ v,Rm O R v↔Rm O (kry k A B t) v)(v:Nat->F):Rm O (B++R.map (imgR k A)) v↔Rm O (kry k A B (t+1)) v:=by
 show _↔Rm O (B ++(kry k A B t).map (imgR k A)) v;rw[Rm.app,Rm.app]
 constructor
 ·rintro ⟨a,b,ha,hb,ev⟩
  obtain⟨u,hu,eu⟩:=(Rm.img J oA oR).mp hb;exact(a,b,ha,(Rm.img J oA (yR J oA lA oB t)).mpr (u,(e u).mp hu,eu),ev)
 ·rintro ⟨a,b,ha,hb,ev⟩
  obtain⟨u,hu,eu⟩:=(Rm.img J oA (yR J oA lA oB t)).mp hb;exact(a,b,ha,(Rm.img J oA oR).mpr (u,(e u).mpr hu,eu),ev)
def jR(J:kab k)(oA:OkM k n A)(lA:A.length=n)(oB:OkM k n B):∀ t v,Rm O (kry k A B t) v->Rm O (kry k A B (t+1)) v
 | 0,v,h=>h.mono λr ⟨x,D,e⟩=>(x,vh _ D,e)
 | t+1,v,h=>by
  have h':= h;obtain⟨a,b,ha,hb,ev⟩:=Rm.app.mp h';obtain⟨u,hu,eu⟩:=(Rm.img J oA (yR J oA lA oB t)).mp hb;exact Rm.app.mpr (a,b,ha,(Rm.img J oA (yR J oA lA oB (t+1))).mpr (u,jR J oA lA oB t u hu,eu),ev)
def zcK(J:kab k)(oA:OkM k n A)(lA:A.length=n)(oB:OkM k n B) t:∀ d v,Rm O (kry k A B t) v->Rm O (kry k A B (t+d)) v
 | 0,v,h=>h
 | d+1,v,h=>jR J oA lA oB (t+d) v (zcK J oA lA oB t d v h)
def Xf(J:kab k){A B:TB}(oA:OkM k n A)(lA:A.length=n)(oB:OkM k n B){t:Nat}(s:∀ v,Rm O (kry k A B (t+1)) v->Rm O (kry k A B t) v):∀(d:Nat)(v:Nat->F),Rm O (kry k A B (t+d)) v->Rm O (kry k A B t) v
 | 0,v,h=>h
 | d+1,v,h=>by
  refine s v ?_;have h':= h;obtain⟨a,b,ha,hb,ev⟩:=Rm.app.mp h';obtain⟨u,hu,eu⟩:=(Rm.img J oA (yR J oA lA oB (t+d))).mp hb;exact Rm.app.mpr (a,b,ha,(Rm.img J oA (yR J oA lA oB t)).mpr (u,Xf J oA lA oB s d u hu,eu),ev)
def zez(J:kab k)(oA:OkM k n A)(lA:A.length=n)(oB:OkM k n B)(s:∀ v,Rm O (kry k A B (t+1)) v->Rm O (kry k A B t) v)(hm:t<=m) v:Rm O (kry k A B m) v↔Rm O (kry k A B t) v:=by
 obtain⟨d,rfl⟩:=Nat.le.dest hm;exact(Xf J oA lA oB s d v,zcK J oA lA oB t d v)
def IsR.sub_len{bC W:TB}{lu lw:List Nat}(hU:IsR O n bC lu)(hW:IsR O n W lw)(sub:∀ v,Rm O bC v->Rm O W v):bC.length<=W.length/\(W.length<=bC.length->∀ v,Rm O W v->Rm O bC v):=by
 have inc:=hU.inc;have inc':=hW.inc;have sb:∀ p∈lu,p∈lw:=λp C=>by
  obtain⟨v,hv,z,ne⟩:=(hU.lead_iff p).mp C;exact(hW.lead_iff p).mpr (v,sub v hv,z,ne)
 have ef:= xL inc (inc'.filter _) (λp C=>vG.mpr (sb p C,br C)) λp C=>bt (vG.mp C).2
 have le:lu.length<=lw.length:=by rw[ef];exact uo _ _
 refine(by rw[← hU.len,← hW.len];exact le,λge v hv=>?_);have e:(lw.filter λp=>decide (p∈lu)).length=lw.length:=by rw[← ef];rw[← hU.len,← hW.len]at ge;omega
 have sb':∀ p∈lw,p∈lu:=λp C=>bt (List.length_filter_eq_length_iff.mp e p C)
 obtain⟨u,hu,eu⟩:=hU.take_off v;have hd:= hv.add ((sub u hu).smul (-1));have z:=hW.zero hd λl hl=>by rw[eu l (sb' l hl)];grind
 exact hu.cast λj=>by have:=z j;grind
end
section
def zbx(J:kab k)(ox:x.ok k)(oy:y.ok k)(oz:z.ok k):nadd k (nadd k x y) z=nadd k x (nadd k y z):=by
 obtain⟨F,_,_,⟨O⟩⟩:=zD J;refine O.inj (yk J (yk J ox oy) oz) (yk J ox (yk J oy oz)) ?_;rw[O.add (yk J ox oy) oz,O.add ox oy,O.add ox (yk J oy oz),O.add oy oz]
 grind
def zcL(J:kab k)(ox:x.ok k)(oy:y.ok k):nadd k x y=nadd k y x:=by
 obtain⟨F,_,_,⟨O⟩⟩:=zD J;refine O.inj (yk J ox oy) (yk J oy ox) ?_;rw[O.add ox oy,O.add oy ox]
 grind
def Zm(J:kab k)(ox:x.ok k):nadd k x (nnum k 0)=x:=by
 obtain⟨F,_,_,⟨O⟩⟩:=zD J;refine O.inj (yk J ox (zm J 0)) ox ?_;rw[O.add ox (zm J 0),O.num0]
 grind
def zbV(J:kab k)(ox:x.ok k):nadd k (nnum k 0) x=x:=by rw[zcL J (zm J 0) ox,Zm J ox]
def YS(J:kab k):∀ l s,s.ok k->(∀ p∈l,p.1.ok k/\p.2.ok k)->l.foldl (λs p=>nadd k s (nmul k p.1 p.2)) s=nadd k s (ndotF k l)
 | [],s,os,_=>(Zm J os).symm
 | p::l,s,os,h=>by
  have op:=h p wt;have om:=zY J op.1 op.2;have hl:= λq hq=>h q (ww _ hq)
  have e:ndotF k (p::l)=nadd k (nmul k p.1 p.2) (ndotF k l):=by
   show l.foldl (λs p=>nadd k s (nmul k p.1 p.2)) (nadd k (nnum k 0) (nmul k p.1 p.2))=_;rw[zbV J om];exact YS J l _ om hl
  rw[wac,YS J l _ (yk J os om) hl,e,zbx J os om (jn J l hl)]
def zfh(J:kab k)(oa:OkR k a)(ob:OkR k b)(ox:OkR k x)(oy:OkR k y)(h:a.length=x.length):ndot k (a++b) (x++y)=nadd k (ndot k a x) (ndot k b y):=by
 have e:(a++b).zip (x++y)=a.zip x++b.zip y:=wby h;show ndotF k ((a++b).zip (x++y))=_;rw[e];show(a.zip x++b.zip y).foldl _ _=_;rw[GN];exact YS J (b.zip y) (ndotF k (a.zip x)) (jn J _ (zaX oa ox)) (zaX ob oy)
def zgk(J:kab k) n:OkR k (wK n (nnum k 0)):=λx D=>by rw[vQ D];exact zm J 0
def zfg(J:kab k)(ox:OkR k x)(h:x.length=n):ndot k (wK n (nnum k 0)) x=nnum k 0:=by
 obtain⟨F,_,_,⟨O⟩⟩:=zD J;refine O.inj (yb J (zgk J n) ox) (zm J 0) ?_;rw[xw O J (zgk J n) ox (by simp[h]),O.num0];refine dot_zero _ _ _ λj hj=>?_
 rw[vf]at hj;rw[zH O (by rw[uy,bj hj]),O.num0]
 grind
def addR(k:Int)(u v:List Nb):List Nb:=vK (nadd k) u v
def Xl(h:u.length=v.length):(addR k u v).length=u.length:=by unfold addR;rw[wO];omega
def zgS(J:kab k)(ou:OkR k u)(ov:OkR k v):OkR k (addR k u v):=λx D=>by
 unfold addR at D;obtain⟨i,hi,rfl⟩:=wy D;rw[vJ];exact yk J (ou _ (wj _)) (ov _ (wj _))
def za3{i:Nat}(hu:u[i]?=some x)(hv:v[i]?=some y):(addR k u v)[i]?=some (nadd k x y):=by unfold addR;rw[vL,hu,hv]
def zhC[Field F](O:Kf k F)(ou:OkR k u)(ov:OkR k v)(h:u.length=v.length) j:nv O (addR k u v) j=nv O u j+nv O v j:=by
 rcases wJ j u.length with hj|hj
 ·have e1:=wa hj;have e2:=wa (l:=v) (i:=j) ();rw[zH O (za3 e1 e2),zH O e1,zH O e2,O.add (ou _ (wj _)) (ov _ (wj _))]
 ·rw[zI O hj,zI O (xs:=v) (),zI O (by rw[Xl h];exact hj)]
  grind
end
section
variable[Field F]{O:Kf k F}
def XH{R:TB}(C:p<R.length):(R.map (uI n)).getD p [] =(R.getD p []).drop n:=zds C
def Qo(J:kab k)(red:kay O (n+n) (kan k n M) R ls)(hU:R.map (Ga n)=kaj k n):OkM k n (R.map (uI n))/\R.length=n:=by
 have lR:R.length=n:=by have:=congrArg vO hU;rw[wc,(yi J n).2]at this;exact this
 refine(λr U=>?_,lR);obtain⟨x,D,rfl⟩:=wm.mp U;have o:=red.ok x D;exact(by rw[vW,o.1];omega,λy hy=>o.2 y (uE hy))
def row_of(C:p<R.length):Rm O R (nv O (R.getD p [])):=.of (_,by rw[we,wa C];exact wj C,V)
def zda(J:kab k)(oM:OkM k n M)(lM:M.length=n)(red:kay O (n+n) (kan k n M) R ls)(hU:R.map (Ga n)=kaj k n):Unit2 n (λp=>nv O ((R.map (uI n)).getD p [])) (λl q=>nv O (M.getD l []) q):=λp q C hq=>by
 have lR:=(Qo J red hU).2;have h:=JV J oM lM (red.fro _ (row_of (O:=O) (p:=p) ())) hq;have eu:(R.getD p []).take n=kad k n p:=by
  have:=congrArg (λl=>l[p]?) hU;simp only[wk]at this;rw[ym (),yQ C]at this;exact Option.some.inj this
 show dot n (nv O ((R.map (uI n)).getD p [])) (λl=>nv O (M.getD l []) q)=_;rw[XH ()];have e:(λi=>nv O ((R.getD p []).drop n) i)=λi=>nv O (R.getD p []) (n+i):=funext λi=>zaG i
 show dot n (λi=>nv O ((R.getD p []).drop n) i) _=_;rw[e,← h,← qS hq,eu,yH C];unfold kar
 by_cases c:p=q
 ·rw[bj c,bj c.symm]
 ·rw[bn c,bn (λz=>c z.symm)]
def zbt(J:kab k)(oM:OkM k n M)(lM:M.length=n)(red:kay O (n+n) (kan k n M) R ls)(hU:R.map (Ga n)=kaj k n):Unit2 n (λp=>nv O (M.getD p [])) (λl q=>nv O ((R.map (uI n)).getD l []) q):=λp q C hq=>by
 have lR:=(Qo J red hU).2;have hm:=ym (S:=M) (i:=p) ();have hb:=qy (k:=k) lM hm;have h:=zbq J hU (red.to _ (.of (_,wg hb,V))) q;obtain⟨h1,h2⟩:=Zy (O:=O) J oM hm C;rw[h2 q]at h;have e1:dot n (nv O (M.getD p []++kad k n p)) (λp=>nv O (R.getD p []) (n+q))=dot n (nv O (M.getD p [])) (λl=>nv O ((R.map (uI n)).getD l []) q):=zt λj hj=>by
  rw[h1 j hj,XH (),zaG]
 rw[← e1,← h];unfold kar
 by_cases c:p=q
 ·rw[bj c,bj c.symm]
 ·rw[bn c,bn (λz=>c z.symm)]
end
section
def zc7(J:kab k)(oM:OkM k n M)(lM:M.length=n)(red:∀ F [Field F] (O:Kf k F),kay O (n+n) (kan k n M) R ls)(hU:R.map (Ga n)=kaj k n):PairU k n M (R.map (uI n))/\PairU k n (R.map (uI n)) M :=
 (λF _ O=>zbt J oM lM (red F O) hU,λF _ O=>zda J oM lM (red F O) hU)
end
def zdot:Nat->(Nat->Int)->(Nat->Int)->Int
 | 0,_,_=>0
 | n+1,u,v=>zdot n u v+u n*v n
def Zr[Field F] u v:∀ n,(ι (zdot n u v):F)=dot n (λj=>ι (u j)) (λj=>ι (v j))
 | 0=>ι_zero
 | n+1=>by
  show(ι (zdot n u v+u n*v n):F)=dot n _ _+ι (u n)*ι (v n);rw[ι_add,ι_mul,Zr u v n]
def Jl p u y z:∀ n,(∀ j,j<n->y j=p*z j)->zdot n u y=p*zdot n u z
 | 0,_=>by show(0:Int)=p*0;omega
 | n+1,h=>by
  show zdot n u y+u n*y n=p *(zdot n u z+u n*z n);rw[Jl p u y z n λj hj=>h j (),h n ()]
  grind
def zr(ws:List Int):Nat->Int:=λj=>ws.getD j 0
def Kz(n:Nat)(A B:List (List Int)):Nat->(Nat->Int)->Prop
 | 0,v=>∃ r∈B,v=zr r
 | t+1,v=>(∃ r∈B,v=zr r)\/∃ u,Kz n A B t u/\v=λi=>zdot n (zr (A.getD i [])) u
section
def zgY{p:Int}{F:Type}[Field F](O:Kf p F)(C:kab p)(lA:A.length=n)(wA:∀ r∈A,r.length=n)(wB:∀ r∈B,r.length=n) :
  ∀(t:Nat)(r:List Nb),r∈kry p (A.map (·.map (nnum p))) (B.map (·.map (nnum p))) t->∃ v,Kz n A B t v/\∀ i,nv O r i=ι (v i):=by
 have row:∀(ws:List Int)(j:Nat),nv O (ws.map (nnum p)) j=ι (zr ws j):=λws j=>by
  unfold zr;rw[we];cases h:ws[j]? with
  | none=>rw[zI O (by rw[wc];exact List.getElem?_eq_none_iff.mp h)];exact ι_zero.symm
  | some x=>rw[zH O (by rw[wk,h];rfl),O.num];rfl
 have okB:∀(M:List (List Int)),(∀ r∈M,r.length=n)->OkM p n (M.map (·.map (nnum p))):=λM h r U=>by
  obtain⟨ws,hw,rfl⟩:=wm.mp U;refine(by rw[wc];exact h ws hw,λx D=>?_);obtain⟨w,_,rfl⟩:=wm.mp D;exact zm C w
 have oA:=okB A wA;have oB:=okB B wB;intro t
 induction t with
 | zero =>
  intro r U;obtain⟨ws,hw,rfl⟩:=wm.mp U;exact(zr ws,(ws,hw,V),row ws)
 | succ t ih =>
  intro r U
  rcases wq.mp U with h|h
  ·obtain⟨ws,hw,rfl⟩:=wm.mp h;exact(zr ws,.inl (ws,hw,V),row ws)
  ·obtain⟨x,D,rfl⟩:=wm.mp h;obtain⟨u,hu,e⟩:=ih x D;have ox:=yR C oA (by rw[wc];exact lA) oB t x D;refine(_,.inr (u,hu,V),λi=>?_);rw[JA C oA ox.2 ox.1];rw[Zr];refine zt λj _=>?_
   rw[e j]
   congr 1
   have:(A.map (·.map (nnum p))).getD i [] =(A.getD i []).map (nnum p):=by
    rw[we,we,wk];cases A[i]? <;> rfl
   rw[this];exact row _ j
def zhj{F:Type}[Field F](O:Kf 0 F){A0 B0:TB}(oA:OkM 0 n A0)(lA:A0.length=n)(oB:OkM 0 n B0){a b:Int}(hA:Scl 0 A0.flatten (A0.flatten.map (scW a)) a)(hB:Scl 0 B0.flatten (B0.flatten.map (scW b)) b) :
  ∀(t:Nat)(v:Nat->Int),Kz n (A0.map (·.map (scW a))) (B0.map (·.map (scW b))) t v->∃ r∈kry 0 A0 B0 t,∃ c:F,∀ i,(ι (v i):F)=c*nv O r i:=by
 have row:∀(M:TB)(b:Int),OkM 0 n M->Scl 0 M.flatten (M.flatten.map (scW b)) b->∀ r∈M,∀ j,(ι (zr (r.map (scW b)) j):F)=ι b*nv O r j:=λM b oM s r U j=>by
  have sr:Scl 0 r (r.map (scW b)) b:=(V,s.pos,s.one,λx D=>s.dv x (Gs.mpr (r,U,D)));have:=sr.fv O (oM r U).2 j;show(La.fv (r.map (scW b)) j:F)=_;rw[this];grind
 intro t
 induction t with
 | zero =>
  rintro v ⟨ws,hw,rfl⟩
  obtain⟨r,U,rfl⟩:=wm.mp hw;exact(r,U,ι b,row B0 b oB hB r U)
 | succ t ih =>
  rintro v (⟨ws,hw,rfl⟩|⟨u,hu,rfl⟩)
  ·obtain⟨r,U,rfl⟩:=wm.mp hw;exact(r,vh _ U,ι b,row B0 b oB hB r U)
  ·obtain⟨r,U,c,e⟩:=ih u hu;have or:=yR (.inl rfl) oA lA oB t r U;refine(imgR 0 A0 r,wL _ (wm.mpr (r,U,V)),ι a*c,λi=>?_);rw[JA (.inl rfl) oA or.2 or.1];show(ι (zdot n _ u):F)=_*dot n _ _;rw[Zr,← xn];refine zt λj _=>?_
   rw[e j];have:(ι (zr ((A0.map (·.map (scW a))).getD i []) j):F)=ι a*nv O (A0.getD i []) j:=by
    rw[we,we,wk];cases h:A0[i]? with
    | none =>
     show(ι (zr [] j):F)=ι a*nv O [] j;rw[zek,show zr [] j=0 from rfl,ι_zero];grind
    | some r=>exact row A0 a oA hA r (wg h) j
   rw[this];grind
def ziJ{p:Int}{F:Type}[Field F](O:Kf p F)(C:kab p)(lA:A.length=n)(wA:∀ r∈A,r.length=n)(wB:∀ r∈B,r.length=n)
  (full:∀ j,j<n->Rm O (kry p (A.map (·.map (nnum p))) (B.map (·.map (nnum p))) n) (kar j 1)) {y:Nat->Int} (h:∀ v,Kz n A B n v->zdot n v y=0) (j:Nat) (hj:j<n):p ∣ y j:=by
 rw[← O.zero];have z:=(full j hj).dot_zero_r λr ⟨x,D,e⟩=>by
  obtain⟨v,hv,ev⟩:=zgY O C lA wA wB n x D;have:=h v hv;rw[e,zM,← show dot n (λi=>ι (v i)) (λi=>ι (y i))=dot n (nv O x) (λi=>(ι (y i):F))from zt λi _=>by rw[ev i],← Zr,this];exact ι_zero
 rw[xm hj]at z
 grind
def zdh(p1:1<p)(dv:∀ y:Nat->Int,(∀ v,Kz n A B n v->zdot n v y=0)->∀ j,j<n->p ∣ y j):∀ m y,(∀ v,Kz n A B n v->zdot n v y=0)->∀ j,j<n->(y j).natAbs<m->y j=0
 | 0,y,h,j,hj,hm=>bw hm (ue _)
 | m+1,y,h,j,hj,hm=>by
  by_cases z:y j=0
  ·exact z
  have e:= λi hi=>(Int.mul_ediv_cancel' (dv y h i hi)).symm
  have h':∀ v,Kz n A B n v->zdot n v (λi=>y i / p)=0:=λv hv=>by
   have:=h v hv;rw[Jl p v y (λi=>y i / p) n e]at this
   rcases Int.mul_eq_zero.mp this with q|q
   ·omega
   ·exact q
  have lt:(y j / p).natAbs<m:=by
   have e1:=e j hj;have e2:(y j).natAbs=p.natAbs *(y j / p).natAbs:=by rw[← vS,← e1]
   have q0:y j / p≠0:=λq=>z (by rw[e1,q,wag])
   have:2 *(y j / p).natAbs<=p.natAbs *(y j / p).natAbs:=wH _ ();have:0 <(y j / p).natAbs:=Gn.mpr q0;omega
  have:=zdh p1 dv m (λi=>y i / p) h' j hj lt;rw[e j hj,this,wag]
end
def Jc{n:Nat}{p:Int}(C:Pr p){A0 B0:TB}(oA:OkM 0 n A0)(lA:A0.length=n)(oB:OkM 0 n B0){a b:Int}(hA:Scl 0 A0.flatten (A0.flatten.map (scW a)) a)(hB:Scl 0 B0.flatten (B0.flatten.map (scW b)) b)
  (full:∀(F:Type) [Field F] (O:Kf p F) (j:Nat),j<n->Rm O (kry p ((A0.map (·.map (scW a))).map (·.map (nnum p))) ((B0.map (·.map (scW b))).map (·.map (nnum p))) n) (kar j 1))
  {F:Type} [Field F] (O:Kf 0 F) (v:Nat->F) (hv:∀ j,n<=j->v j=0):Rm O (kry 0 A0 B0 n) v:=by
 obtain⟨Fp,_,_,⟨φp⟩⟩:=zD (.inr C);have wd:∀(M:TB)(b:Int),OkM 0 n M->∀ r∈M.map (·.map (scW b)),r.length=n:=λM b oM r U=>by
  obtain⟨x,D,rfl⟩:=wm.mp U;rw[wc];exact(oM x D).1
 have dv:=λy h j hj=>ziJ (y:=y) φp (.inr C) (by rw[wc];exact lA) (wd A0 a oA) (wd B0 b oB) (full Fp φp) h j hj
 obtain⟨W,ls,red⟩:=qt O (.inl rfl) (yR (.inl rfl) oA lA oB n);refine red.fro v ((Jh red.toIsR (.inl rfl) v).mp (hv,λu hu=>?_));have zu:∀ j,j<n->u j=0:=λj hj=>by
  obtain⟨lx,ox⟩:=zgj (O:=O) u;obtain⟨c,sc⟩:=xE (.inl rfl) ox;have nvx:=zij (O:=O) hu.1;have fvx:=λi=>sc.fv O ox i
  have z:∀ v,Kz n (A0.map (·.map (scW a))) (B0.map (·.map (scW b))) n v->zdot n v (zr ((ofV O n u).map (scW c)))=0:=λv hv=>by
   obtain⟨r,U,d,e⟩:=zhj O oA lA oB hA hB n v hv;have o:=hu.2 (nv O r) (red.to _ (.of (r,U,V)));have:(ι (zdot n v (zr ((ofV O n u).map (scW c)))):F)=0:=by
    rw[Zr];have e2:dot n (λj=>(ι (v j):F)) (λj=>ι (zr ((ofV O n u).map (scW c)) j))=d*ι c*dot n (nv O r) u:=by
     rw[← xn];refine zt λi _=>?_
     have:=fvx i;rw[nvx i]at this;show ι (v i)*La.fv ((ofV O n u).map (scW c)) i=_;rw[e i,this];grind
    rw[e2,o];grind
   rw[O.zero]at this;exact wah.mp this
  have y0:=zdh C.lo dv _ _ z j hj (uO _);have:=fvx j;rw[nvx j]at this;have e:(La.fv ((ofV O n u).map (scW c)) j:F)=0:=by
   show(ι (zr ((ofV O n u).map (scW c)) j):F)=0;rw[y0];exact ι_zero
  rw[e]at this;have ne:=sc.ne O (.inl rfl)
  grind
 exact dot_zero n _ _ λj hj=>by rw[zu j hj];grind
section
variable[Field F]{O:Kf k F}
def zV(oM:OkM k c M)(hj:j<c):nv O ((trF c M).getD j []) i=nv O (M.getD i []) j:=by
 have e:(trF c M).getD j []=M.map λr=>r.getD j (.z 0):=by rw[we,zgV hj];rfl
 rw[e]
 rcases wJ i M.length with h|h
 ·have g:M.getD i []=M[i]:=by rw[we,wa h];rfl
  have o:=oM M[i] (wj h);rw[zH O (by rw[wk,wa h];rfl),g,zhB (by rw[o.1];exact hj)]
 ·rw[zI O (by rw[wc];exact h),we,wR h];exact(zek j).symm
def zby{A:TB}(oA:OkM k n A)(lA:A.length=n)(u v:Nat->F):dot n (limg O n (trF n A) u) v=dot n u (limg O n A v):=by
 unfold limg;rw[jX n v (λi=>nv O (A.getD i [])) u n];refine zt λj hj=>?_
 congr 1
 rw[zM n u];refine zt λi _=>?_
 rw[zV oA hj]
end
section
variable{R:Type}[CommRing R]
def rdot:List R->List R->R
 | a::as,b::bs=>a*b+rdot as bs
 | _,_=>0
def bpow(inner:List (List R))(v:List R):Nat->List R
 | 0=>v
 | i+1=>inner.map λr=>rdot r (bpow inner v i)
def bfac(W:List (List R))(s:Nat):List R :=
 1 ::(-((W.getD s []).getD s 0)) ::(wQ s).map λst=>-(rdot ((W.getD s []).take s) (bpow ((W.take s).map (·.take s)) ((W.take s).map (·.getD s 0)) st))
def wgr(W:List (List R)):Nat->List R
 | 0=>[1]
 | s+1=>(wQ (s+2)).map λpl=>rdot (wgr W s) ((bfac W s).reverse.drop (s+1 - pl))
end
structure Hm{R S:Type}[CommRing R][CommRing S](f:R->S):Prop where
 zero:f 0=0
 one:f 1=1
 add:∀ a b,f (a+b)=f a+f b
 mul:∀ a b,f (a*b)=f a*f b
 neg:∀ a,f (-a) = -f a
section
variable{R S:Type}[CommRing R][CommRing S]{f:R->S}
def qR(h:Hm f):∀ as bs,f (rdot as bs)=rdot (as.map f) (bs.map f)
 | [],_=>h.zero
 | _::_,[]=>h.zero
 | a::as,b::bs=>by
  show f (a*b+rdot as bs)=f a*f b+rdot (as.map f) (bs.map f);rw[h.add,h.mul,qR h as bs]
def zaa(h:Hm f) inner v:∀ i,(bpow inner v i).map f=bpow (inner.map (·.map f)) (v.map f) i
 | 0=>rfl
 | i+1=>by
  show((inner.map λr=>rdot r (bpow inner v i)).map f) =(inner.map (·.map f)).map λr=>rdot r (bpow _ _ i)
  rw[vz,vz];refine vo λr _=>?_
  show f (rdot r _)=rdot (r.map f) _;rw[qR h,zaa h inner v i]
def zad(h:Hm f)(xs:List R) i:f (xs.getD i 0) =(xs.map f).getD i 0:=by
 rw[we,we,wk];cases xs[i]? with
 | none=>exact h.zero
 | some x=>rfl
def zcc(W:List (List R)) i:(W.getD i []).map f =(W.map (·.map f)).getD i []:=by
 rw[we,we,wk];cases W[i]? with
 | none=>rfl
 | some x=>rfl
def zex(h:Hm f) W s:(bfac W s).map f=bfac (W.map (·.map f)) s:=by
 unfold bfac;rw[gm,gm,h.one,h.neg,zad h,zcc,vz]
 congr 2
 refine vo λst _=>?_
 show f (-_) = -_;rw[h.neg,qR h,zaa h,uq,zcc]
 congr 3
 ·rw[vz,← uq,vz];refine vo λr _=>?_
  exact uq
 ·rw[vz,← uq,vz];refine vo λr _=>?_
  exact zad h r s
def Xh(h:Hm f) W:∀ s,(wgr W s).map f=wgr (W.map (·.map f)) s
 | 0=>by show [f 1]=[1];rw[h.one]
 | s+1=>by
  show((wQ (s+2)).map _).map f =(wQ (s+2)).map _;rw[vz];refine vo λpl _=>?_
  show f (rdot _ _)=rdot _ _;rw[qR h,Xh h W s,uS,waC,zex h]
end
section
variable{R:Type}[CommRing R]
def sgn(j:Nat):R:=if j % 2=0 then 1 else -1
def csum(f:Nat->R):Nat->R
 | 0=>0
 | j+1=>csum f j+f j
def minor(j:Nat)(rows:List (List R)):List (List R):=(rows.drop 1).map λr=>r.take j++r.drop (j+1)
def cdet:Nat->List (List R)->R
 | 0,_=>1
 | d+1,rows=>csum (λj=>sgn j *((rows.getD 0 []).getD j 0*cdet d (minor j rows))) (d+1)
def tblO(n:Nat)(t:Nat->Nat->R):List (List R):=(wQ n).map λi=>(wQ n).map (t i)
def pwrO(x:R):Nat->R
 | 0=>1
 | m+1=>x*pwrO x m
set_option maxHeartbeats 4000000 in
def grtO{n:Nat}(n1:1<=n)(n4:n<=4)(x:R)(t:Nat->Nat->R):cdet n (tblO n λi j=>if i=j then x + -(t i j)else -(t i j))=csum (λi=>(wgr (tblO n t) n).getD i 0*pwrO x (n - i)) (n+1):=by
 rcases (show n=1\/n=2\/n=3\/n=4 by omega)with e|e|e|e <;> subst e <;> dsimp [tblO,pwrO,cdet,csum,minor,sgn,wgr,bfac,rdot,wQ,wQ.loop,bpow,Gu,List.getElem?_cons_zero,GE,Option.getD,GQ,uI,Ga,List.reverse,List.reverseAux,Nat.reduceMod,reduceIte] <;> grind
end
section
variable[CommRing R]
def PSr(R:Type):=Nat->R
def ptl(p:PSr R):PSr R:=λn=>p (n+1)
def pmu:Nat->PSr R->PSr R->R
 | 0,p,q=>p 0*q 0
 | n+1,p,q=>p 0*q (n+1)+pmu n (ptl p) q
def cst(c:R):PSr R
 | 0=>c
 | _+1=>0
def qd:∀ n (p p' q:PSr R),pmu n (λi=>p i+p' i) q=pmu n p q+pmu n p' q
 | 0,p,p',q=>by show(p 0+p' 0)*q 0=p 0*q 0+p' 0*q 0;grind
 | n+1,p,p',q=>by
  show(p 0+p' 0)*q (n+1)+pmu n (λi=>ptl p i+ptl p' i) q=_;rw[qd n];show _=p 0*q (n+1)+pmu n (ptl p) q +(p' 0*q (n+1)+pmu n (ptl p') q)
  grind
def YN:∀ n c (p q:PSr R),pmu n (λi=>c*p i) q=c*pmu n p q
 | 0,c,p,q=>by show(c*p 0)*q 0=c *(p 0*q 0);grind
 | n+1,c,p,q=>by
  show(c*p 0)*q (n+1)+pmu n (λi=>c*ptl p i) q=c *(p 0*q (n+1)+pmu n (ptl p) q);rw[YN n]
  grind
def Xx:∀ n (p q:PSr R),pmu (n+1) p q=p (n+1)*q 0+pmu n p (ptl q)
 | 0,p,q=>by show p 0*q 1+p 1*q 0=p 1*q 0+p 0*q 1;grind
 | n+1,p,q=>by
  show p 0*q (n+2)+pmu (n+1) (ptl p) q=p (n+2)*q 0 +(p 0*q (n+2)+pmu n (ptl p) (ptl q));rw[Xx n (ptl p) q];show p 0*q (n+2) +(p (n+2)*q 0+_)=_
  grind
def yW:∀ n (p q:PSr R),pmu n p q=pmu n q p
 | 0,p,q=>by show p 0*q 0=q 0*p 0;grind
 | n+1,p,q=>by
  rw[Xx n p q,yW n p (ptl q)];show p (n+1)*q 0+_=q 0*p (n+1)+pmu n (ptl q) p
  grind
def JK:∀ n (p q r:PSr R),pmu n (λi=>pmu i p q) r=pmu n p (λi=>pmu i q r)
 | 0,p,q,r=>by show(p 0*q 0)*r 0=p 0 *(q 0*r 0);grind
 | n+1,p,q,r=>by
  show(p 0*q 0)*r (n+1)+pmu n (λi=>p 0*q (i+1)+pmu i (ptl p) q) r=p 0 *(q 0*r (n+1)+pmu n (ptl q) r)+pmu n (ptl p) (λi=>pmu i q r);rw[qd n (λi=>p 0*q (i+1)) (λi=>pmu i (ptl p) q) r,JK n (ptl p) q r];have:=YN n (p 0) (ptl q) r;have e:pmu n (λi=>p 0*q (i+1)) r=p 0*pmu n (ptl q) r:=this;rw[e]
  grind
def jO:∀ n (q:PSr R),pmu n (λ_=>0) q=0
 | 0,q=>by show 0*q 0=0;grind
 | n+1,q=>by
  show 0*q (n+1)+pmu n (λ_=>0) q=0;rw[jO n q];grind
def xc:∀ n c (q:PSr R),pmu n (cst c) q=c*q n
 | 0,c,q=>rfl
 | n+1,c,q=>by
  show c*q (n+1)+pmu n (λ_=>0) q=c*q (n+1);rw[jO];grind
end
section
variable[CommRing R]
local instance natC:NatCast R:=Semiring.natCast
local instance intC:IntCast R:=Ring.intCast
def zcP(a b:R) n:cst (a+b) n=cst a n+cst b n:=by
 cases n with
 | zero=>rfl
 | succ n=>show(0:R)=0+0;grind
def zcS(a:R) n:cst (-a) n = -cst a n:=by
 cases n with
 | zero=>rfl
 | succ n=>show(0:R) = -0;grind
def zgP(a b:R) n:cst (a*b) n=pmu n (cst a) (cst b):=by
 rw[xc];cases n with
 | zero=>rfl
 | succ n=>show(0:R)=a*0;grind
def ppw(p:PSr R):Nat->PSr R
 | 0=>cst 1
 | n+1=>λi=>pmu i (ppw p n) p
@[reducible] noncomputable def psRing:CommRing (PSr R) where
 add p q:=λi=>p i+q i
 mul p q:=λi=>pmu i p q
 natCast:=⟨λn=>cst (n:R)⟩
 ofNat n:=⟨cst (n:R)⟩
 nsmul:=⟨λn p=>λi=>pmu i (cst (n:R)) p⟩
 npow:=⟨λp n=>ppw p n⟩
 add_zero p:=by
  funext i
  show p i+cst ((0:Nat):R) i=p i;have:(((0:Nat):R))=0:=Semiring.natCast_zero;rw[this];cases i <;>(show p _ +(0:R)=p _;grind)
 add_comm p q:=by funext i;show p i+q i=q i+p i;grind
 add_assoc p q r:=by funext i;show p i+q i+r i=p i +(q i+r i);grind
 mul_assoc p q r:=by funext i;exact JK i p q r
 mul_one p:=by
  funext i
  show pmu i p (cst ((1:Nat):R))=p i;have:(((1:Nat):R))=1:=Semiring.natCast_one;rw[this,yW,xc];grind
 one_mul p:=by
  funext i
  show pmu i (cst ((1:Nat):R)) p=p i;have:(((1:Nat):R))=1:=Semiring.natCast_one;rw[this,xc];grind
 left_distrib p q r:=by
  funext i
  exact(yW i p _).trans ((qd i q r p).trans (by rw[yW i q p,yW i r p];rfl))
 right_distrib p q r:=by funext i;exact qd i p q r
 zero_mul p:=by
  funext i
  show pmu i (cst ((0:Nat):R)) p=cst ((0:Nat):R) i;have:(((0:Nat):R))=0:=Semiring.natCast_zero;rw[this,xc];cases i <;>(show(0:R)*p _=0;grind)
 mul_zero p:=by
  funext i
  show pmu i p (cst ((0:Nat):R))=cst ((0:Nat):R) i;have:(((0:Nat):R))=0:=Semiring.natCast_zero;rw[this,yW,xc];cases i <;>(show(0:R)*p _=0;grind)
 pow_zero p:=by
  funext i
  show cst (1:R) i=cst ((1:Nat):R) i;have:(((1:Nat):R))=1:=Semiring.natCast_one;rw[this]
 pow_succ p n:=rfl
 ofNat_succ n:=by
  funext i
  show cst ((n+1:Nat):R) i=cst ((n:Nat):R) i+cst ((1:Nat):R) i;rw[← zcP,Semiring.natCast_succ,Semiring.natCast_one]
 ofNat_eq_natCast n:=rfl
 nsmul_eq_natCast_mul n p:=rfl
 neg p:=λi=>-p i
 sub p q:=λi=>p i + -q i
 intCast:=⟨λn=>cst ((n:Int):R)⟩
 zsmul:=⟨λn p=>λi=>pmu i (cst ((n:Int):R)) p⟩
 neg_add_cancel p:=by
  funext i
  show -p i+p i=cst ((0:Nat):R) i;have:(((0:Nat):R))=0:=Semiring.natCast_zero;rw[this];cases i <;>(show -p _+p _ =(0:R);grind)
 sub_eq_add_neg p q:=rfl
 neg_zsmul n p:=by
  funext i
  show pmu i (cst (((-n:Int)):R)) p = -pmu i (cst ((n:Int):R)) p;rw[xc,xc,Ring.intCast_neg];grind
 zsmul_natCast_eq_nsmul n p:=by
  funext i
  show pmu i (cst (((n:Nat):Int):R)) p=pmu i (cst ((n:Nat):R)) p;rw[xc,xc,Ring.intCast_natCast]
 intCast_ofNat n:=by
  funext i
  show cst (((OfNat.ofNat n:Int)):R) i=cst ((n:Nat):R) i;rw[Ring.intCast_ofNat,Semiring.ofNat_eq_natCast]
 intCast_neg n:=by
  funext i
  show cst (((-n:Int)):R) i = -cst ((n:Int):R) i;rw[Ring.intCast_neg,zcS]
 mul_comm p q:=by funext i;exact yW i p q
noncomputable instance psI:CommRing (PSr R):=psRing
def yK:Hm (cst:R->PSr R):=by
 have z:((0:Nat):R)=0:=Semiring.natCast_zero;have o:((1:Nat):R)=1:=Semiring.natCast_one;refine(?_,?_,λa b=>?_,λa b=>?_,λa=>?_)
 ·show cst (0:R)=cst ((0:Nat):R);rw[z]
 ·show cst (1:R)=cst ((1:Nat):R);rw[o]
 ·funext n;exact zcP a b n
 ·funext n;exact zgP a b n
 ·funext n;exact zcS a n
def pX:PSr R
 | 1=>1
 | _=>0
def zki:ptl (pX:PSr R)=cst 1:=by
 funext n
 cases n with
 | zero=>rfl
 | succ n=>rfl
def zcY(p q:PSr R) n:(p*q) n=pmu n p q:=rfl
def xf(p q:PSr R) n:(p+q) n=p n+q n:=rfl
def xZ(p:PSr R) n:(-p) n = -p n:=rfl
def X_0 p:((pX:PSr R)*p:PSr R) 0=0:=by show(0:R)*p 0=0;grind
def X_s p n:((pX:PSr R)*p:PSr R) (n+1)=p n:=by
 show(0:R)*p (n+1)+pmu n (ptl pX) p=p n;rw[zki,xc];grind
def X_1 p:((pX:PSr R)*p:PSr R) 1=p 0:=X_s p 0
def c_at c (p:PSr R) n:(cst c*p) n=c*p n:=xc n c p
def pol(cs:List R):PSr R:=λj=>cs.getD j 0
def zh1(t:R):pol [-t] = -(cst t):=by
 funext n
 rw[xZ];cases n with
 | zero=>rfl
 | succ n=>show(0:R) = -0;grind
def zhy(t:R):pol [-t,1]=pX + -(cst t):=by
 funext n
 rw[xf,xZ]
 match n with
 | 0=>show -t=0 + -t;grind
 | 1=>show(1:R)=1 + -0;grind
 | n+2=>show(0:R)=0 + -0;grind
def zjE W s i:(wgr (W.map (·.map cst)) s).getD i 0 =(cst ((wgr W s).getD i 0):PSr R):=by
 rw[← Xh yK,← zad yK]
def pw_at:∀ m j,(pwrO pX m:PSr R) j=if j=m then 1 else 0
 | 0,j=>by
  show(1:PSr R) j=_;rw[← (yK (R:=R)).one];cases j <;> rfl
 | m+1,0=>X_0 _
 | m+1,j+1=>by
  show((pX:PSr R)*pwrO pX m:PSr R) (j+1)=_;rw[X_s,pw_at m j];simp only[Nat.add_right_cancel_iff]
def zdJ(f:Nat->PSr R) j:∀ m,(csum f m) j=csum (λi=>f i j) m
 | 0=>by
  show(0:PSr R) j=0;rw[← (yK (R:=R)).zero];cases j <;> rfl
 | m+1=>by show csum f m j+f m j=_;rw[zdJ f j m];rfl
def zdu{f:Nat->R}:∀ {m:Nat},(∀ i,i<m->f i=0)->csum f m=0
 | 0,_=>rfl
 | m+1,h=>by show csum f m+f m=0;rw[zdu λi hi=>h i (),h m ()];grind
def zfY{f:Nat->R}:∀ {m:Nat},p<m->(∀ i,i<m->i≠p->f i=0)->csum f m=f p
 | m+1,g,h=>by
  show csum f m+f m=f p
  rcases wJ p m with l|l
  ·rw[zfY l λi hi=>h i (),h m () ()];grind
  ·rw[zdu λi hi=>h i () (),show p=m by omega];grind
def yI(W:List (List R)) s:(wgr W s).length=s+1:=by
 cases s with
 | zero=>rfl
 | succ s=>simp[wgr]
def lawO(n1:1<=n)(n4:n<=4)(t:Nat->Nat->R):cdet n (tblO n λi j=>if i=j then pol [-(t i j),1] else pol [-(t i j)])=λj=>((wgr (tblO n t) n).reverse).getD j 0:=by
 have h:=grtO n1 n4 (pX:PSr R) λi j=>cst (t i j)
 rw[show(tblO n λi j=>(cst (t i j):PSr R)) =(tblO n t).map (·.map cst) by simp[tblO,Function.comp_def]]at h;simp only[zh1,zhy];rw[h]
 funext j
 rw[zdJ];have l:=yI (tblO n t) n;simp only[zjE,c_at,pw_at]
 rcases wJ n j with g|g
 ·rw[zdu λi hi=>by rw[bn ()];grind,we,wR (by rw[ud];omega)];rfl
 ·rw[zfY (p:=n - j) () λi hi e=>by rw[bn ()];grind,bj (),we,we,uu (),l,wan];grind
end
end La
namespace Dt
open Lean.Grind
section
variable{R:Type}[CommRing R]
def sg(f:Nat->R):Nat->R
 | 0=>0
 | n+1=>sg f n+f n
def sg_congr{f g:Nat->R}:∀ n,(∀ i,i<n->f i=g i)->sg f n=sg g n
 | 0,_=>rfl
 | n+1,h=>by
  show sg f n+f n=sg g n+g n;rw[sg_congr n (λi hi=>h i ()),h n ()]
def yf(f g:Nat->R):∀ n,sg (λi=>f i+g i) n=sg f n+sg g n
 | 0=>by show(0:R)=0+0;grind
 | n+1=>by
  show sg (λi=>f i+g i) n +(f n+g n) =(sg f n+f n) +(sg g n+g n);rw[yf f g n];grind
def yh c (f:Nat->R):∀ n,sg (λi=>c*f i) n=c*sg f n
 | 0=>by show(0:R)=c*0;grind
 | n+1=>by
  show sg (λi=>c*f i) n+c*f n=c *(sg f n+f n);rw[yh c f n];grind
def xg c (f:Nat->R) n:sg (λi=>f i*c) n=sg f n*c:=by
 rw[show(λi=>f i*c)=λi=>c*f i from funext λi=>by grind,yh];grind
def zcw n:sg (λ_=>(0:R)) n=0:=by
 induction n with
 | zero=>rfl
 | succ n ih=>show sg (λ_=>(0:R)) n+0=0;rw[ih];grind
def sg_0{f:Nat->R}(h:∀ i,i<n->f i=0):sg f n=0:=by rw[sg_congr n h,zcw]
def yx(f:Nat->Nat->R) m:∀ n,sg (λi=>sg (λj=>f i j) m) n=sg (λj=>sg (λi=>f i j) n) m
 | 0=>(zcw m).symm
 | n+1=>by
  show sg (λi=>sg (λj=>f i j) m) n+sg (λj=>f n j) m=sg (λj=>sg (λi=>f i j) n+f n j) m;rw[yx f m n,yf]
def idm(i j:Nat):R:=if i=j then 1 else 0
def idm_self i:(idm i i:R)=1:=bj rfl
def idm_ne(h:i≠j):(idm i j:R)=0:=bn h
def xv(f:Nat->R):∀ n,i<n->sg (λl=>idm i l*f l) n=f i
 | n+1,h=>by
  show sg (λl=>idm i l*f l) n+idm i n*f n=f i
  rcases vC (vM h)with g|g
  ·rw[xv f n g,idm_ne ()];grind
  ·subst g;rw[sg_0 λl hl=>by rw[idm_ne ()];grind,idm_self];grind
def idm_comm i j:(idm i j:R)=idm j i:=by
 unfold idm
 by_cases h:i=j
 ·rw[bj h,bj h.symm]
 ·rw[bn h,bn (λe=>h e.symm)]
def sg_idr(f:Nat->R) n (h:i<n):sg (λl=>f l*idm l i) n=f i:=by
 rw[sg_congr n (g:=λl=>idm i l*f l) (λl _=>by rw[idm_comm l i];grind),xv f n h]
def mm(n:Nat)(X Y:Nat->Nat->R):Nat->Nat->R:=λi j=>sg (λl=>X i l*Y l j) n
def ZK n X Y (w:Nat->R) i:sg (λj=>mm n X Y i j*w j) n=sg (λl=>X i l*sg (λj=>Y l j*w j) n) n:=by
 have e:∀ j,mm n X Y i j*w j=sg (λl=>X i l *(Y l j*w j)) n:=λj=>by
  show sg _ n*w j=_;rw[← xg];exact sg_congr n λl _=>by grind
 rw[sg_congr n λj _=>e j,yx];exact sg_congr n λl _=>yh _ _ n
def zfS n X Y (v:Nat->R) j:sg (λi=>v i*mm n X Y i j) n=sg (λl=>sg (λi=>v i*X i l) n*Y l j) n:=by
 have e:∀ i,v i*mm n X Y i j=sg (λl=>v i*X i l*Y l j) n:=λi=>by
  show v i*sg _ n=_;rw[← yh];exact sg_congr n λl _=>by grind
 rw[sg_congr n λi _=>e i,yx];exact sg_congr n λl _=>xg _ _ n
def zeN n (X Y Z:Nat->Nat->R) i j:mm n (mm n X Y) Z i j=mm n X (mm n Y Z) i j:=ZK n X Y (λl=>Z l j) i
structure Loc(bz:R->Prop):Prop where
 zero:bz 0
 add:∀ {a b},bz a->bz b->bz (a+b)
 mul:∀(c:R) {a},bz a->bz (c*a)
 inv:∀ {a},bz a->∃ b,(1+a)*b=1
variable{bz:R->Prop}(bA:Loc bz)
include bA
theorem Loc.neg(h:bz a):bz (-a):=by
 have:=bA.mul (-1) h;rw[show -1*a = -a by grind]at this;exact this
theorem Loc.mulr c (h:bz a):bz (a*c):=by rw[show a*c=c*a by grind];exact bA.mul c h
theorem Loc.sub(h:bz a)(g:bz b):bz (a - b):=by rw[show a - b=a + -b by grind];exact bA.add h (bA.neg g)
theorem Loc.sum:∀ n,(∀ i,i<n->bz (f i))->bz (sg f n)
 | 0,_=>bA.zero
 | n+1,h=>bA.add (Loc.sum n λi hi=>h i ()) (h n ())
omit bA
def Nr(bz:R->Prop)(n:Nat)(X:Nat->Nat->R):Prop:=∀ i j,i<n->j<n->bz (X i j - idm i j)
structure Bk(n:Nat)(X G:Nat->Nat->R):Prop where
 r:∀ i j,i<n->j<n->mm n X G i j=idm i j
 l:∀ i j,i<n->j<n->mm n G X i j=idm i j
include bA
theorem Nr.mm(hX:Nr bz n X)(hY:Nr bz n Y):Nr bz n (mm n X Y):=λi j hi hj=>by
 have e:Dt.mm n X Y i j - idm i j=sg (λl=>(X i l - idm i l)*Y l j) n +(Y i j - idm i j):=by
  have:sg (λl=>(X i l - idm i l)*Y l j) n=Dt.mm n X Y i j - Y i j:=by
   rw[sg_congr n (g:=λl=>X i l*Y l j +(-1) *(idm i l*Y l j)) (λl _=>by grind),yf,yh,xv _ n hi];show Dt.mm n X Y i j+_=_
   grind
  rw[this];grind
 rw[e];exact bA.add (bA.sum n λl hl=>bA.mulr _ (hX i l hi hl)) (hY i j hi hj)
theorem Nr.off(h:Nr bz n X)(hi:i<n)(hj:j<n)(ne:i≠j):bz (X i j):=by
 have:=h i j hi hj;rw[idm_ne ne,show X i j - 0=X i j by grind]at this;exact this
theorem Jo:∀(n:Nat)(X:Nat->Nat->R),Nr bz n X->∃ G,Bk n X G/\Nr bz n G
 | 0,X,_=>(X,(λ_ _ h=>bw h (ue _),λ_ _ h=>bw h (ue _)),λ_ _ h=>bw h (ue _))
 | n+1,X,hX=>by
  obtain⟨G,hG,nG⟩:=Jo n X λi j hi hj=>hX i j () ()
  let w:Nat->R:=λi=>sg (λl=>G i l*X l n) n
  let v:Nat->R:=λj=>sg (λl=>X n l*G l j) n
  let L:R:=X n n - sg (λi=>X n i*w i) n
  have jw:∀ i,i<n->bz (w i):=λi hi=>bA.sum n λl hl=>bA.mul _ (hX.off bA () () ())
  have jv:∀ j,j<n->bz (v j):=λj hj=>bA.sum n λl hl=>bA.mulr _ (hX.off bA () () ())
  have js:bz (L - 1):=by
   have h1:=hX n n () ();rw[idm_self]at h1;have h2:bz (sg (λi=>X n i*w i) n):=bA.sum n λl hl=>bA.mul _ (jw l hl)
   have:=bA.sub h1 h2;rw[show X n n - 1 - sg (λi=>X n i*w i) n=L - 1 by show _=X n n - sg (λi=>X n i*w i) n - 1;grind]at this;exact this
  obtain⟨τ,hτ⟩:=bA.inv js;have Xw:= λi hi=>by
   have:=ZK n X G (λl=>X l n) i;rw[sg_congr n (λj hj=>by rw[hG.r i j hi hj]),xv _ n hi]at this;exact this.symm
  have vX:= λj hj=>by
   have:=zfS n G X (λl=>X n l) j;rw[sg_congr n (λi hi=>by rw[hG.l i j hi hj]),sg_idr _ n hj]at this;exact this.symm
  have vc:sg (λl=>v l*X l n) n=sg (λi=>X n i*w i) n:=(ZK n (λ_ l=>X n l) G (λl=>X l n) 0)
  let H:Nat->Nat->R:=λi j=>if i<n then(if j<n then G i j+w i *(τ*v j)else -(w i*τ))else(if j<n then -(τ*v j)else τ)
  have h1:∀ i j,i<n->j<n->H i j=G i j+w i *(τ*v j):=λi j hi hj=>by show(if i<n then _ else _)=_;rw[bj hi,bj hj]
  have h2:∀ i,i<n->H i n = -(w i*τ):=λi hi=>by show(if i<n then _ else _)=_;rw[bj hi,bn ()]
  have h3:∀ j,j<n->H n j = -(τ*v j):=λj hj=>by show(if n<n then _ else _)=_;rw[bn (),bj hj]
  have h4:H n n=τ:=by show(if n<n then _ else _)=_;rw[bn (),bn ()]
  refine(H,(λi j hi hj=>?_,λi j hi hj=>?_),λi j hi hj=>?_)
  ·show sg (λl=>X i l*H l j) n+X i n*H n j=idm i j
   rcases vC (vM hj)with hj|hj
   ·rw[h3 j hj,sg_congr n (g:=λl=>X i l*G l j +(X i l*w l) *(τ*v j)) (λl hl=>by rw[h1 l j hl hj];grind),yf,xg]
    rcases vC (vM hi)with hi|hi
    ·have:=hG.r i j hi hj;rw[Xw i hi,show sg (λl=>X i l*G l j) n=idm i j from this];grind
    ·subst hi;rw[idm_ne ()];have:L=X i i - sg (λl=>X i l*w l) i:=rfl
     grind
   ·subst hj;rw[h4,sg_congr j (g:=λl=>(X i l*w l) *(-τ)) (λl hl=>by rw[h2 l hl];grind),xg]
    rcases vC (vM hi)with hi|hi
    ·rw[Xw i hi,idm_ne ()];grind
    ·subst hi;rw[idm_self];have:L=X i i - sg (λl=>X i l*w l) i:=rfl
     grind
  ·show sg (λl=>H i l*X l j) n+H i n*X n j=idm i j
   rcases vC (vM hi)with hi|hi
   ·rw[h2 i hi,sg_congr n (g:=λl=>G i l*X l j +(w i*τ) *(v l*X l j)) (λl hl=>by rw[h1 i l hi hl];grind),yf,yh]
    rcases vC (vM hj)with hj|hj
    ·have:=hG.l i j hi hj;rw[vX j hj,show sg (λl=>G i l*X l j) n=idm i j from this];grind
    ·subst hj;rw[vc];rw[idm_ne ()];have:L=X j j - sg (λl=>X j l*w l) j:=rfl
     grind
   ·subst hi;rw[h4,sg_congr i (g:=λl=>(-τ) *(v l*X l j)) (λl hl=>by rw[h3 l hl];grind),yh]
    rcases vC (vM hj)with hj|hj
    ·rw[vX j hj,idm_ne ()];grind
    ·subst hj;rw[vc,idm_self];have:L=X j j - sg (λl=>X j l*w l) j:=rfl
     grind
  ·rcases vC (vM hi)with hi|hi
   ·rcases vC (vM hj)with hj|hj
    ·rw[h1 i j hi hj,show G i j+w i *(τ*v j) - idm i j =(G i j - idm i j)+w i *(τ*v j) by grind];exact bA.add (nG i j hi hj) (bA.mulr _ (jw i hi))
    ·subst hj;rw[h2 i hi,idm_ne (),show -(w i*τ) - 0 = -(w i*τ) by grind];exact bA.neg (bA.mulr _ (jw i hi))
   ·subst hi
    rcases vC (vM hj)with hj|hj
    ·rw[h3 j hj,idm_ne (),show -(τ*v j) - 0 = -(τ*v j) by grind];exact bA.neg (bA.mul _ (jv j hj))
    ·subst hj;rw[h4,idm_self,show τ - 1 = -(τ *(L - 1)) by grind];exact bA.neg (bA.mul _ js)
omit bA
inductive Dl:Nat->(Nat->Nat->R)->R->Prop
 | nil (X:Nat->Nat->R):Dl 0 X 1
 | cons {n:Nat} {X:Nat->Nat->R} {d:R} (w:Nat->R) (h:Dl n X d) (hw:∀ i,i<n->sg (λl=>X i l*w l) n=X i n):Dl (n+1) X (d *(X n n - sg (λi=>X n i*w i) n))
theorem Dl.congr:∀ {n:Nat} {d:R},Dl n X d->(∀ i j,i<n->j<n->X i j=Y i j)->Dl n Y d
 | 0,_,.nil _,_=>.nil Y
 | n+1,_,.cons w h hw,e=>by
  have:=Dl.cons w (h.congr λi j hi hj=>e i j () ()) (λi hi=>by
   rw[← e i n () (),← hw i hi];exact sg_congr n λl hl=>by rw[e i l () ()])
  rw[← e n n () (),sg_congr n (g:=λi=>X n i*w i) (λl hl=>by rw[e n l () ()])]at this;exact this
theorem Jz(h:Bk n X G){w c:Nat->R}(hw:∀ i,i<n->sg (λl=>X i l*w l) n=c i)(hi:i<n):w i=sg (λl=>G i l*c l) n:=by
 have:=ZK n G X w i;rw[sg_congr n (λj hj=>by rw[h.l i j hi hj]),xv _ n hi]at this;rw[this];exact sg_congr n λl hl=>by rw[hw l hl]
theorem zdI(h:Bk n X G)(c:Nat->R)(hi:i<n):sg (λl=>X i l*sg (λj=>G l j*c j) n) n=c i:=by
 rw[← ZK,sg_congr n (λj hj=>by rw[h.r i j hi hj]),xv _ n hi]
include bA
theorem Dl.uniq:∀ {n:Nat} {d e:R},Nr bz n X->Dl n X d->Dl n X e->d=e
 | 0,_,_,_,.nil _,.nil _=>rfl
 | n+1,_,_,hX,.cons w h hw,.cons w' h' hw'=>by
  have hn:Nr bz n X:=λi j hi hj=>hX i j () ()
  obtain⟨G,hG,_⟩:=Jo bA n X hn;rw[Dl.uniq hn h h',sg_congr n (g:=λi=>X n i*w' i) (λi hi=>by rw[Jz hG hw hi,Jz hG hw' hi])]
theorem Dl.ex:∀ {n:Nat},Nr bz n X->∃ d,Dl n X d/\bz (d - 1)
 | 0,_=>(1,.nil X,by rw[show(1:R) - 1=0 by grind];exact bA.zero)
 | n+1,hX=>by
  have hn:Nr bz n X:=λi j hi hj=>hX i j () ()
  obtain⟨d,hd,jd⟩:=Dl.ex hn;obtain⟨G,hG,_⟩:=Jo bA n X hn;refine(_,.cons (λi=>sg (λl=>G i l*X l n) n) hd λi hi=>zdI hG (λl=>X l n) hi,?_);have h1:=hX n n () ();rw[idm_self]at h1;have h2:bz (sg (λi=>X n i*sg (λl=>G i l*X l n) n) n):=bA.sum n λl hl=>bA.mulr _ (hX.off bA () () ())
  generalize sg (λi=>X n i*sg (λl=>G i l*X l n) n) n=z at *;rw[show d *(X n n - z) - 1 =(X n n - z) *(d - 1) +((X n n - 1) - z) by grind];exact bA.add (bA.mul _ jd) (bA.sub h1 h2)
theorem qU(u v:Nat->R):∀ n,(∀ i,i<n->bz (u i))->Dl n (λi j=>idm i j+u i*v j) (1+sg (λi=>v i*u i) n)
 | 0,_=>by
  have:=Dl.nil (λi j=>idm i j+u i*v j);rw[show(1:R)+sg (λi=>v i*u i) 0=1 by show(1:R)+0=1;grind];exact this
 | n+1,hu=>by
  have ih:=qU u v n λi hi=>hu i ()
  have jt:bz (sg (λi=>v i*u i) n):=bA.sum n λi hi=>bA.mul _ (hu i ())
  obtain⟨κ,hκ⟩:=bA.inv jt;have:=Dl.cons (λi=>u i *(v n*κ)) ih λi hi=>by
   rw[sg_congr n (g:=λl=>idm i l *(u l *(v n*κ)) +(u i *(v n*κ)) *(v l*u l)) (λl _=>by grind),yf,xv _ n hi,yh,idm_ne ()];generalize sg (λi=>v i*u i) n=t at *
   grind
  have e:(1+sg (λi=>v i*u i) n) *((λi j=>idm i j+u i*v j) n n - sg (λi=>(λi j=>idm i j+u i*v j) n i *(u i *(v n*κ))) n)=1+sg (λi=>v i*u i) (n+1):=by
   show(1+sg (λi=>v i*u i) n) *(idm n n+u n*v n - sg (λi=>(idm n i+u n*v i) *(u i *(v n*κ))) n)=1 +(sg (λi=>v i*u i) n+v n*u n);rw[sg_congr n (f:=λi=>(idm n i+u n*v i) *(u i *(v n*κ))) (g:=λi=>(u n *(v n*κ)) *(v i*u i)) (λi hi=>by show(idm n i+u n*v i) *(u i *(v n*κ))=_;rw[idm_ne ()];grind),yh,idm_self];generalize sg (λi=>v i*u i) n=t at *
   grind
  rw[e]at this;exact this
theorem Dl.mul:∀ {n:Nat} {X Y:Nat->Nat->R} {a b:R},Nr bz n X->Nr bz n Y->Dl n X a->Dl n Y b->Dl n (mm n X Y) (a*b)
 | 0,X,Y,_,_,_,_,.nil _,.nil _=>by
  rw[show(1:R)*1=1 by grind];exact .nil _
 | n+1,X,Y,_,_,hX,hY,.cons (d:=a) g hA hg,.cons (d:=b) h hB hh=>by
  have nX:Nr bz n X:=λi j hi hj=>hX i j () ()
  have nY:Nr bz n Y:=λi j hi hj=>hY i j () ()
  obtain⟨GX,bX,gX⟩:=Jo bA n X nX;obtain⟨GY,bY,gY⟩:=Jo bA n Y nY;have jg:∀ i,i<n->bz (g i):=λi hi=>by
   rw[Jz bX hg hi];exact bA.sum n λl hl=>bA.mul _ (hX.off bA () () ())
  let p:Nat->R:=λi=>sg (λl=>GY i l*g l) n
  have jp:∀ i,i<n->bz (p i):=λi hi=>bA.sum n λl hl=>bA.mul _ (jg l hl)
  have Yp:∀ i,i<n->sg (λl=>Y i l*p l) n=g i:=λi hi=>zdI bY g hi
  have r1:=qU bA p (λj=>Y n j) n jp
  let θ:R:=sg (λi=>Y n i*p i) n
  have jθ:bz θ:=bA.sum n λi hi=>bA.mul _ (jp i hi)
  obtain⟨κ,hκ⟩:=bA.inv jθ
  let E:Nat->Nat->R:=λi j=>idm i j+p i*Y n j
  have nE:Nr bz n E:=λi j hi hj=>by
   rw[show idm i j+p i*Y n j - idm i j=p i*Y n j by grind];exact bA.mulr _ (jp i hi)
  have d3:=Dl.mul (nX.mm bA nY) nE (Dl.mul nX nY hA hB) r1;have YE:∀ i j,i<n->j<n->mm n Y E i j=Y i j+g i*Y n j:=λi j hi hj=>by
   show sg (λl=>Y i l *(idm l j+p l*Y n j)) n=_;rw[sg_congr n (g:=λl=>Y i l*idm l j +(Y i l*p l)*Y n j) (λl _=>by grind),yf,sg_idr _ n hj,xg,Yp i hi]
  have d4:=d3.congr (Y:=mm (n+1) X Y) λi j hi hj=>by
   rw[zeN];show sg (λl=>X i l*mm n Y E l j) n=sg (λl=>X i l*Y l j) n+X i n*Y n j;rw[sg_congr n (g:=λl=>X i l*Y l j +(X i l*g l)*Y n j) (λl hl=>by rw[YE l j hl hj];grind),yf,xg,hg i hi]
  let ρ:R:=Y n n - sg (λi=>Y n i*h i) n
  let w:Nat->R:=λi=>h i+p i *(ρ*κ)
  have Yw:∀ l,l<n->sg (λj=>Y l j*w j) n=Y l n+g l *(ρ*κ):=λl hl=>by
   rw[sg_congr n (g:=λj=>Y l j*h j +(Y l j*p j) *(ρ*κ)) (λj _=>by grind),yf,xg,hh l hl,Yp l hl]
  have qw:sg (λj=>Y n j*w j) n=sg (λj=>Y n j*h j) n+θ *(ρ*κ):=by
   rw[sg_congr n (g:=λj=>Y n j*h j +(Y n j*p j) *(ρ*κ)) (λj _=>by grind),yf,xg]
  have row:∀ i,sg (λj=>mm (n+1) X Y i j*w j) n=sg (λl=>X i l*Y l n) n+sg (λl=>X i l*g l) n *(ρ*κ)+X i n *(sg (λj=>Y n j*h j) n+θ *(ρ*κ)):=λi=>by
   show sg (λj=>(mm n X Y i j+X i n*Y n j)*w j) n=_;rw[sg_congr n (g:=λj=>mm n X Y i j*w j+X i n *(Y n j*w j)) (λj _=>by grind),yf,yh,qw,ZK,sg_congr n (g:=λl=>X i l*Y l n +(X i l*g l) *(ρ*κ)) (λl hl=>by rw[Yw l hl];grind),yf,xg]
  have d5:=Dl.cons w d4 λi hi=>by
   rw[row i,hg i hi];show _=sg (λl=>X i l*Y l n) n+X i n*Y n n;have:ρ=Y n n - sg (λi=>Y n i*h i) n:=rfl
   grind
  have e:a*b *(1+sg (λi=>Y n i*p i) n) *(mm (n+1) X Y n n - sg (λi=>mm (n+1) X Y n i*w i) n)=a *(X n n - sg (λi=>X n i*g i) n) *(b *(Y n n - sg (λi=>Y n i*h i) n)):=by
   rw[row n];show a*b *(1+θ) *(sg (λl=>X n l*Y l n) n+X n n*Y n n - _)=a*_ *(b*ρ);have e1:ρ=Y n n - sg (λi=>Y n i*h i) n:=rfl;generalize sg (λi=>X n i*g i) n=rg at *;generalize sg (λl=>X n l*Y l n) n=re at *;generalize sg (λi=>Y n i*h i) n=qh at *
   grind
  rw[e]at d5;exact d5
end
end Dt
namespace Dt
open Lean.Grind La
section
variable[CommRing R]
def qE:(1:PSr R) 0=1:=by
 have:=(yK (R:=R)).one;rw[← this];rfl
def qo n:(1:PSr R) (n+1)=0:=by
 have:=(yK (R:=R)).one;rw[← this];rfl
def zero_at n:(0:PSr R) n=0:=by
 have:=(yK (R:=R)).zero;rw[← this];cases n <;> rfl
def sub_at(p q:PSr R) n:(p - q) n=p n - q n:=by
 rw[show p - q=p + -q by grind,xf,xZ];grind
def zcZ(f:Nat->PSr R) t:∀ n,(sg f n) t=sg (λi=>f i t) n
 | 0=>zero_at t
 | n+1=>by
  show(sg f n+f n) t=sg (λi=>f i t) n+f n t;rw[xf,zcZ f t n]
def JH:∀ n (p q q':PSr R),(∀ i,i<=n->q i=q' i)->pmu n p q=pmu n p q'
 | 0,p,q,q',h=>by show p 0*q 0=p 0*q' 0;rw[h 0 (wv _)]
 | n+1,p,q,q',h=>by
  show p 0*q (n+1)+pmu n (ptl p) q=p 0*q' (n+1)+pmu n (ptl p) q';rw[h (n+1) (wv _),JH n (ptl p) q q' λi hi=>h i ()]
def bkQ(p:PSr R):Nat->PSr R
 | 0=>λ_=>1
 | n+1=>λi=>if i<=n then bkQ p n i else -(pmu n (ptl p) (bkQ p n))
def zfU(p:PSr R):∀ m i,i<=m->bkQ p m i=bkQ p i i
 | 0,i,h=>by rw[show i=0 by omega]
 | m+1,i,h=>by
  rcases vC h with g|g
  ·show(if i<=m then bkQ p m i else _)=_;rw[bj (),zfU p m i ()]
  ·rw[g]
def zgK(h:p 0=1):∃ q:PSr R,p*q=1:=by
 refine((λi=>bkQ p i i:Nat->R),funext λn=>?_);cases n with
 | zero =>
  rw[qE];show p 0*1=1;rw[h];grind
 | succ n =>
  rw[qo];show p 0*bkQ p (n+1) (n+1)+pmu n (ptl p) (λi=>bkQ p i i)=0;rw[h,JH n (ptl p) (λi=>bkQ p i i) (bkQ p n) λi hi=>(zfU p n i hi).symm];have:bkQ p (n+1) (n+1) = -(pmu n (ptl p) (bkQ p n)):=by
   show(if n+1<=n then _ else _)=_;rw[bn ()]
  rw[this];grind
def J0(p:PSr R):Prop:=p 0=0
def loc0:Loc (J0 (R:=R)) :=
 (zero_at 0,λ{a b} h g=>by show(a+b) 0=0;rw[xf,h,g];grind,λc {a} h=>by show(c*a) 0=0;rw[zcY];show c 0*a 0=0;rw[h];grind,λ{a} h=>zgK (by rw[xf,qE,h];grind))
def NM(M:Nat->Nat->R):Nat->Nat->PSr R:=λi j=>idm i j + -(pX*cst (M i j))
def NM_nr(M:Nat->Nat->R) n:Nr J0 n (NM M):=λi j _ _=>by
 show(idm i j + -(pX*cst (M i j)) - idm i j:PSr R) 0=0;rw[show idm i j + -(pX*cst (M i j)) - idm i j = -(pX*cst (M i j)) by grind,xZ,X_0];grind
def zaH(M:Nat->Nat->R)(h:i≠j):NM M i j = -(pX*cst (M i j)):=by
 show idm i j+_=_;rw[idm_ne h];grind
def zjk(dg:∀ M (f:PSr R),Dl n (NM M) f->∀ t,n<t->f t=0)(h:Dl n (NM M) d){w:Nat->PSr R}(hw:∀ i,i<n->sg (λl=>NM M i l*w l) n=NM M i n)(hi:i<n)(ht:n<t):(d*w i) t=0:=by
 have bA:=loc0 (R:=R);have nn:=NM_nr M n;obtain⟨G,bG,nG⟩:=Jo bA n (NM M) nn;have jw:∀ i,i<n->J0 (w i):=λi hi=>by
  rw[Jz bG hw hi];exact bA.sum n λl hl=>bA.mul _ ((NM_nr M (n+1)).off bA () () ())
 have r1:=qU bA w (λj=>idm i j) n jw;rw[xv _ n hi]at r1;have nE:Nr J0 n (λa j=>idm a j+w a*idm i j):=λa j ha hj=>by
  rw[show idm a j+w a*idm i j - idm a j=w a*idm i j by grind];exact bA.mulr _ (jw a ha)
 have d2:=(Dl.mul bA nn nE h r1).congr (Y:=NM λa j=>M a j+M a n *(if j=i then 1 else 0)) λa j ha hj=>by
  show sg (λl=>NM M a l *(idm l j+w l*idm i j)) n=_;rw[sg_congr n (g:=λl=>NM M a l*idm l j +(NM M a l*w l)*idm i j) (λl _=>by grind),yf,sg_idr _ n hj,xg,hw a ha,zaH M (show a≠n by omega)];show idm a j + -(pX*cst (M a j)) + -(pX*cst (M a n))*idm i j=idm a j + -(pX*cst (M a j+M a n *(if j=i then 1 else 0)));rw[(yK (R:=R)).add,(yK (R:=R)).mul]
  by_cases e:j=i
  ·subst e;rw[idm_self,bj rfl,(yK (R:=R)).one];grind
  ·rw[idm_ne (λz=>e z.symm),bn e,(yK (R:=R)).zero];grind
 have e2:=dg _ _ d2 t ht;rw[show d *(1+w i)=d+d*w i by grind,xf,dg _ _ h t ht]at e2;rw[← e2];grind
def Jq:∀(n:Nat)(M:Nat->Nat->R)(f:PSr R),Dl n (NM M) f->∀ t,n<t->f t=0
 | 0,M,_,.nil _,t,ht=>by
  cases t with
  | zero=>omega
  | succ t=>exact qo t
 | n+1,M,_,.cons (d:=d) w h hw,t,ht=>by
  have dd:=Jq n M d h;have dw:∀ i,i<n->∀ t,n<t->(d*w i) t=0:=λi hi t ht=>zjk (Jq n) h hw hi ht
  obtain⟨t,rfl⟩ : ∃ t',t=t'+1:=(t - 1,());have e1:d *(NM M n n - sg (λi=>NM M n i*w i) n)=d + -(pX *(cst (M n n)*d))+pX*sg (λi=>cst (M n i) *(d*w i)) n:=by
   rw[sg_congr n (g:=λi=>(-pX) *(cst (M n i)*w i)) (λi hi=>by rw[zaH M (show n≠i by omega)];grind),yh];have e2:sg (λi=>cst (M n i) *(d*w i)) n=d*sg (λi=>cst (M n i)*w i) n:=by
    rw[← yh];exact sg_congr n λi _=>by grind
   rw[e2];show d *(idm n n + -(pX*cst (M n n)) - _)=_;rw[idm_self];grind
  rw[e1,xf,xf,xZ,X_s,X_s,dd (t+1) (),c_at,dd t (),zcZ,sg_0 λi hi=>by rw[c_at,dw i hi t ()];grind]
  grind
end
section
variable{R:Type}[CommRing R]
def jH(f:Nat->R):∀ n,sg f (n+1)=f 0+sg (λi=>f (i+1)) n
 | 0=>by show(0:R)+f 0=f 0+0;grind
 | n+1=>by
  show sg f (n+1)+f (n+1)=f 0 +(sg (λi=>f (i+1)) n+f (n+1));rw[jH f n];grind
def Qc:∀ n (as bs:List R),as.length=n->bs.length=n->rdot as bs=sg (λi=>as.getD i 0*bs.getD i 0) n
 | 0,[],[],_,_=>rfl
 | n+1,a::as,b::bs,h,g=>by
  rw[jH];show a*b+rdot as bs=_;rw[Qc n as bs (by simpa using h) (by simpa using g)];rfl
def za8:∀ n as (q:PSr R),pmu n (λj=>as.getD j 0) q=rdot as ((wQ (n+1)).map λi=>q (n - i))
 | 0,[],q=>by show(0:R)*q 0=0;grind
 | 0,a::as,q=>by
  show a*q 0=a*q 0+rdot as [];cases as <;>(show _=_+0;grind)
 | n+1,[],q=>by
  have:(λj=>([]:List R).getD j 0)=λ_=>(0:R):=funext λj=>by simp
  rw[this,jO];rfl
 | n+1,a::as,q=>by
  rw[List.range_succ_eq_map,gm,vz];show a*q (n+1)+pmu n (λj=>as.getD j 0) q=a*q (n+1 - 0)+rdot as _;rw[za8 n as q]
  congr 2
  refine vo λi _=>?_
  show q (n - i)=q (n+1 - (i+1));rw[show n+1 - (i+1)=n - i by omega]
def tab(W:List (List R)):Nat->Nat->R:=λi j=>(W.getD i []).getD j 0
def pvT(M:Nat->Nat->R)(s:Nat):Nat->Nat->R
 | 0=>λi=>M i s
 | t+1=>λi=>sg (λl=>M i l*pvT M s t l) s
def wT(M:Nat->Nat->R)(s i:Nat):PSr R
 | 0=>0
 | t+1=>-(pvT M s t i)
def zjc(M:Nat->Nat->R) s (hi:i<s):sg (λl=>NM M i l*wT M s l) s=NM M i s:=by
 have e:sg (λl=>NM M i l*wT M s l) s=wT M s i + -(pX*sg (λl=>cst (M i l)*wT M s l) s):=by
  rw[sg_congr s (g:=λl=>idm i l*wT M s l +(-pX) *(cst (M i l)*wT M s l)) (λl _=>by show(idm i l + -(pX*cst (M i l)))*_=_;grind),yf,xv _ s hi,yh];grind
 rw[e,zaH M (show i≠s by omega)]
 funext t
 rw[xf,xZ,xZ];cases t with
 | zero =>
  rw[X_0,X_0];show(0:R) + -0 = -0
  grind
 | succ t =>
  rw[X_s,X_s,zcZ];cases t with
  | zero =>
   rw[sg_0 λl _=>by rw[c_at];show _ *(0:R)=0;grind];show -(M i s) + -0 = -(M i s)
   grind
  | succ t =>
   rw[sg_congr s (g:=λl=>(-1) *(M i l*pvT M s t l)) (λl _=>by rw[c_at];show _ * -(pvT M s t l)=_;grind),yh];show -(sg (λl=>M i l*pvT M s t l) s)+_ = -0
   grind
def sgT(M:Nat->Nat->R)(s:Nat):PSr R:=NM M s s - sg (λi=>NM M s i*wT M s i) s
def zjx(M:Nat->Nat->R) s:sgT M s 0=1/\sgT M s 1 = -(M s s)/\∀ t,sgT M s (t+2) = -(sg (λi=>M s i*pvT M s t i) s):=by
 have e:sgT M s=1 + -(pX*cst (M s s))+pX*sg (λi=>cst (M s i)*wT M s i) s:=by
  show idm s s + -(pX*cst (M s s)) - sg (λi=>NM M s i*wT M s i) s=_;rw[sg_congr s (g:=λi=>(-pX) *(cst (M s i)*wT M s i)) (λi hi=>by rw[zaH M (show s≠i by omega)];grind),yh,idm_self];grind
 refine(?_,?_,λt=>?_)
 ·rw[e,xf,xf,xZ,X_0,X_0,qE];grind
 ·rw[e,xf,xf,xZ,X_1,X_1,qo,zcZ,sg_0 λi _=>by rw[c_at];show _ *(0:R)=0;grind];show(0:R) + -(M s s)+0=_
  grind
 ·rw[e,xf,xf,xZ,X_s,X_s,qo,zcZ,sg_congr s (g:=λi=>(-1) *(M s i*pvT M s t i)) (λi _=>by rw[c_at];show _ * -(pvT M s t i)=_;grind),yh];show(0:R) + -0+_=_
  grind
section
variable{W:List (List R)}(lW:s<W.length)(lr:∀ r∈W,s<r.length)
include lW lr
theorem zak(hi:i<=s):((W.getD i []).take s).length=s/\∀ l,l<s->((W.getD i []).take s).getD l 0=tab W i l:=by
 have h:i<W.length:=by omega
 have e:W.getD i []=W[i]:=by rw[we,wa h];rfl
 have:=lr _ (wj h);refine(by rw[e,wr];omega,λl hl=>?_);show _ =(W.getD i []).getD l 0;generalize W.getD i []=r;rw[we,GD,bj hl,we]
theorem QZ{α:Type}(g:List R->α):(W.take s).map g =(wQ s).map λi=>g (W.getD i []):=by
 refine uP (by rw[wc,wr,wc,ve];omega) λi h1 h2=>?_
 have hi:i<W.length:=by rw[wc,ve]at h2;omega
 rw[uV,wbl,uV,List.getElem_range,we,wa hi]
 rfl
theorem zdC:∀ t,bpow ((W.take s).map (·.take s)) ((W.take s).map (·.getD s 0)) t =(wQ s).map (pvT (tab W) s t)
 | 0=>QZ lW lr (·.getD s 0)
 | t+1=>by
  show((W.take s).map (·.take s)).map (λr=>rdot r (bpow _ _ t))=_;rw[zdC t,vz,QZ lW lr];refine vo λi hi=>?_
  have hi':=vA.mp hi;obtain⟨l1,e1⟩:=zak lW lr (i:=i) ();show rdot ((W.getD i []).take s) _=sg (λl=>tab W i l*pvT (tab W) s t l) s;rw[Qc s _ _ l1 (by rw[wc,ve])];refine sg_congr s λl hl=>?_
  rw[e1 l hl,we,wk,wZ hl];rfl
theorem zeE:(bfac W s).length=s+2/\∀ j,j<=s+1->(bfac W s)[j]?=some (sgT (tab W) s j):=by
 refine(by unfold bfac;simp,λj hj=>?_);obtain⟨a0,a1,a2⟩:=zjx (tab W) s;unfold bfac
 match j,hj with
 | 0,_=>rw[a0];rfl
 | 1,_=>rw[a1];rfl
 | j+2,hj =>
  show((wQ s).map _)[j]?=_;rw[wk,wZ (),a2 j];show some (-(rdot ((W.getD s []).take s) _))=_;obtain⟨l1,e1⟩:=zak lW lr (wv s);rw[zdC lW lr j,Qc s _ _ l1 (by rw[wc,ve])]
  congr 2
  refine sg_congr s λl hl=>?_
  rw[e1 l hl,we,wk,wZ hl];rfl
end
def dl_wgr{W:List (List R)}:∀ s,s<=W.length->(∀ r∈W,s<=r.length)->∀ f,Dl s (NM (tab W)) f->∀ t,f t =(wgr W s).getD t 0
 | 0,_,_,_,.nil _,t=>by
  cases t with
  | zero=>exact qE
  | succ t=>rw[qo];rfl
 | s+1,lW,lr,f,hf,t=>by
  have bA:=loc0 (R:=R);obtain⟨d,hd,_⟩:=Dl.ex bA (NM_nr (tab W) s);have ih:=dl_wgr s () (λr U=>GM (lr r U)) d hd;have ed:= funext ih;have c:=Dl.cons (wT (tab W) s) hd λi hi=>zjc (tab W) s hi
  have ef:f=d*sgT (tab W) s:=Dl.uniq bA (NM_nr (tab W) (s+1)) hf c
  rcases wJ t (s+2)with ht|ht
  ·obtain⟨bl,bg⟩:=zeE lW lr;have e1:(wgr W (s+1)).getD t 0=rdot (wgr W s) ((bfac W s).reverse.drop (s+1 - t)):=by
    show((wQ (s+2)).map _).getD t 0=_;rw[we,wk,wZ ht];rfl
   have e2:(bfac W s).reverse.drop (s+1 - t) =(wQ (t+1)).map λi=>sgT (tab W) s (t - i):=by
    refine Gm λi=>?_
    rw[gJ,wk]
    rcases wJ i (t+1)with hi|hi
    ·rw[wZ hi,uu (),bl,show s+2 - 1 - (s+1 - t+i)=t - i by omega,bg _ ()]
     rfl
    ·rw[wR (by rw[ud];omega),wR (by rw[ve];exact hi)]
     rfl
   rw[e1,e2,ef,zcY,ed,za8]
  ·rw[Jq (s+1) _ f hf t (),we,wR (by rw[yI];omega)]
   rfl
end
end Dt
namespace La
open Lean.Grind Nm Dt
section
variable{F:Type}[Field F]
def gdd{α β:Type} f {W:List (List α)} (hi:i<W.length) (hj:j <(W.getD i []).length) (d:β) d':((W.map λr=>r.map f).getD i []).getD j d=f ((W.getD i []).getD j d'):=by
 obtain⟨r,e⟩ : ∃ r,W[i]?=some r:=(_,wa hi);simp only[we,wk,e,Option.map_some,Option.getD_some]at hj ⊢;rw[wa hj];rfl
def gdmem{α:Type}{M:List α}(h:i<M.length) d:M.getD i d∈M:=by
 rw[we,wa h];exact wj h
def zh4[CommRing R]{T:List (List R)}(l:T.length=n)(h:∀ r∈T,r.length=n):tblO n (tab T)=T:=by
 refine uP (by simp[tblO,l]) λi h1 h2=>uP (by simp[tblO,h _ (wj h2)]) λj h3 h4=>by simp[tblO,tab,h2,h4]
def zq(z:F):Nat->F
 | 0=>1
 | i+1=>zq z i*z
def bp(b:Int):Nat->Int
 | 0=>1
 | i+1=>bp b i*b
def ι_bp b:∀ i,(ι (bp b i):F)=zq (ι b) i
 | 0=>ι_one
 | i+1=>by show(ι (bp b i*b):F)=zq (ι b) i*ι b;rw[ι_mul,ι_bp b i]
def zhY{z:F}(h:z≠0):∀ i,zq z i≠0
 | 0=>by show(1:F)≠0;grind
 | i+1=>λe=>by
  have e':zq z i*z=0:=e;have:=zhY h i
  grind
def scaO(z:F)(p:PSr F):PSr F:=λt=>zq z t*p t
def zgd z:∀ n (p q:PSr F),pmu n (scaO z p) (scaO z q)=zq z n*pmu n p q
 | 0,p,q=>by show(1*p 0) *(1*q 0)=1 *(p 0*q 0);grind
 | n+1,p,q=>by
  have:=zgd z n (ptl p) q;show(1*p 0) *(zq z n*z*q (n+1))+pmu n (ptl (scaO z p)) (scaO z q)=zq z n*z *(p 0*q (n+1)+pmu n (ptl p) q);rw[show ptl (scaO z p)=λi=>z*scaO z (ptl p) i from funext λi=>by show zq z i*z*p (i+1)=z *(zq z i*p (i+1));grind,YN]
  grind
def ziV(z:F):Hm (scaO z):=by
 refine(?_,?_,λp q=>?_,λp q=>funext λn=>(zgd z n p q).symm,λp=>?_)
 ·funext t;show zq z t *(0:PSr F) t=_;rw[zero_at];grind
 ·funext t
  show zq z t *(1:PSr F) t=_;cases t with
  | zero=>rw[qE];show 1 *(1:F)=1;grind
  | succ t=>rw[qo];grind
 ·funext t;show zq z t *(p t+q t)=zq z t*p t+zq z t*q t;grind
 ·funext t;show zq z t * -(p t) = -(zq z t*p t);grind
def zgJ[CommRing R][CommRing S]{f:R->S}(h:Hm f) g:∀ n,f (sg g n)=sg (λi=>f (g i)) n
 | 0=>h.zero
 | n+1=>by show f (sg g n+g n)=_;rw[h.add,zgJ h g n];rfl
def zke[CommRing R][CommRing S]{f:R->S}(h:Hm f)(g:Dl n X d):Dl n (λi j=>f (X i j)) (f d):=by
 induction g with
 | nil=>rw[h.one];exact .nil _
 | cons w _ hw ih =>
  have:=Dl.cons (λl=>f (w l)) ih λi hi=>by
   rw[← hw i hi,zgJ h];exact sg_congr _ λl _=>(h.mul _ _).symm
  rw[show ∀ a b c:R,a *(b - c)=a *(b + -c) by intros;grind,h.mul,h.add,h.neg,zgJ h];simp only[h.mul];rw[show ∀ a b:S,a + -b=a - b by intros;grind];exact this
def zj3 z (M:Nat->Nat->F) i j:scaO z (NM M i j)=NM (λi j=>z*M i j) i j:=by
 have h:=ziV z;show scaO z (idm i j + -(pX*cst (M i j)))=idm i j + -(pX*cst (z*M i j));rw[h.add,h.neg]
 congr 2
 ·unfold idm;split
  ·exact h.one
  ·exact h.zero
 ·funext t
  cases t with
  | zero=>show _*_=_;rw[X_0,X_0];grind
  | succ t =>
   show _*_=_;rw[X_s,X_s];cases t with
   | zero=>show 1*z*M i j=z*M i j;grind
   | succ t=>show _ *(0:F)=0;grind
def zb3 z {T:List (List F)} (l:T.length=n) (h:∀ r∈T,r.length=n) i:(wgr (T.map λr=>r.map λx=>z*x) n).getD i 0=zq z i *(wgr T n).getD i 0:=by
 obtain⟨f,hf,_⟩:=Dl.ex loc0 (NM_nr (tab T) n);rw[← dl_wgr n () (λr U=>by rw[h r U];exact wv n) f hf i];refine(dl_wgr n (by rw[wc];omega) (λr U=>?_) (scaO z f) ((zke (ziV z) hf).congr λi j hi hj=>?_) i).symm
 ·obtain⟨r,g,rfl⟩:=wm.1 U;rw[wc,h r g];exact wv n
 ·rw[zj3];have:tab (T.map λr=>r.map λx=>z*x) i j=z*tab T i j:=gdd (λx=>z*x) (l ▸ hi) (by rw[h _ (gdmem (l ▸ hi) [])];exact hj) 0 0;show _=idm i j + -(pX*cst (tab _ i j));rw[this];rfl
def hm_ι:Hm (ι:Int->F):=(ι_zero,ι_one,ι_add,ι_mul,ι_neg)
end
def GrP(k:Int)(n:Nat)(M:TB)(xs:List Nb):Prop:=∀(F:Type) [Field F] (O:Kf k F) (j:Nat),nv O xs j =((wgr (M.map λr=>r.map O.to) n).reverse).getD j 0
def grN(k b:Int)(ws:List Int)(n:Nat):List Nb:=(wQ (n+1)).map λj=>ndiv k (nnum k (ws.getD j 0)) (nnum k (bp b j))
def YM:(grN k b ws n).length=n+1:=by unfold grN;simp
def zgX(J:kab k)(s:Scl k xs ws b) j:nnum k (bp b j)≠nnum k 0:=λe=>by
 obtain⟨F,_,_,⟨O⟩⟩:=zD J;have h:=congrArg O.to e;rw[O.num,O.num,ι_bp,ι_zero]at h;exact zhY (s.ne O J) j h
def zjI(J:kab k):OkR k (grN k b ws n):=λx D=>by
 unfold grN at D;obtain⟨j,_,rfl⟩:=wm.mp D;exact QH J (zm J _) (zm J _)
def zjn(J:kab k)(lM:M.length=n)(oM:OkM k n M)(s:Scl k M.flatten (M.flatten.map (scW b)) b):GrP k n M (grN k b (wgr (M.map λr=>r.map (scW b)) n) n).reverse:=by
 intro F _ O j;have zn:=s.ne O J;have eW:(M.map λr=>r.map (scW b)).map (λr=>r.map (ι:Int->F)) =(M.map λr=>r.map O.to).map λr=>r.map λx=>ι b*x:=by
  rw[vz,vz];refine vo λr U=>?_
  show(r.map (scW b)).map ι =(r.map O.to).map λx=>ι b*x
  rw[vz,vz];refine vo λx D=>?_
  show(ι (scW b x):F)=ι b*O.to x;rw[zgi O s.one ((oM r U).2 x D) (s.dv x (Gs.mpr (r,U,D)))]
  grind
 have eg:∀ i,(ι ((wgr (M.map λr=>r.map (scW b)) n).getD i 0):F)=zq (ι b) i *(wgr (M.map λr=>r.map O.to) n).getD i 0:=λi=>by
  rw[zad hm_ι,Xh hm_ι,eW];exact zb3 (ι b) (by rw[wc,lM]) (λr U=>by
   obtain⟨r',hr',rfl⟩:=wm.mp U;rw[wc,(oM r' hr').1]) i
 rcases wJ j (n+1)with hj|hj
 ·have l1:j <(grN k b (wgr (M.map λr=>r.map (scW b)) n) n).length:=by rw[YM];exact hj
  have l2:j <(wgr (M.map λr=>r.map O.to) n).length:=by rw[yI];exact hj
  rw[zH O (x:=ndiv k (nnum k ((wgr (M.map λr=>r.map (scW b)) n).getD (n - j) 0)) (nnum k (bp b (n - j)))) (by
   rw[uu l1,YM];unfold grN;rw[wk,show n+1 - 1 - j=n - j by omega,wZ ()];rfl)]
  rw[O.div (zm J _) (zm J _) (zgX J s _),O.num,O.num,eg (n - j),ι_bp];have e2:(wgr (M.map λr=>r.map O.to) n).reverse.getD j 0 =(wgr (M.map λr=>r.map O.to) n).getD (n - j) 0:=by
   rw[we,uu l2,yI,show n+1 - 1 - j=n - j by omega,← we]
  rw[e2];have:=zhY zn (n - j)
  grind
 ·rw[zI O (by rw[ud,YM];exact hj),we,wR (by rw[ud,yI];exact hj)]
  rfl
end La
namespace La
open Lean.Grind Nm
section
variable{F:Type}[CommRing F]
def mulT(P Q:Nat->F):Nat->Nat->F
 | 0,_=>0
 | i+1,m=>mulT P Q i m+P i *(if i<=m then Q (m - i)else 0)
def Jm(P Q:Nat->F):∀ n,mulT P Q (n+1) 0=P 0*Q 0
 | 0=>by show(0:F)+P 0*Q 0=P 0*Q 0;grind
 | n+1=>by
  show mulT P Q (n+1) 0+P (n+1) *(if n+1<=0 then _ else 0)=_;rw[Jm P Q n,bn ()];grind
def Yr(P Q:Nat->F) m:∀ n,mulT P Q (n+1) (m+1)=P 0*Q (m+1)+mulT (λi=>P (i+1)) Q n m
 | 0=>by show(0:F)+P 0*Q (m+1)=P 0*Q (m+1)+0;grind
 | n+1=>by
  show mulT P Q (n+1) (m+1)+P (n+1) *(if n+1<=m+1 then Q (m+1 - (n+1))else 0)=P 0*Q (m+1) +(mulT (λi=>P (i+1)) Q n m+P (n+1) *(if n<=m then Q (m - n)else 0));rw[Yr P Q m n]
  by_cases c:n<=m
  ·rw[bj c,bj (),show m+1 - (n+1)=m - n by omega];grind
  ·rw[bn c,bn ()];grind
def za0:∀ n m (P Q:Nat->F),(∀ i,n<=i->P i=0)->pmu m P Q=mulT P Q n m
 | 0,m,P,Q,h=>by
  have:P=λ_=>0:=funext λi=>h i (vD _)
  rw[this];exact jO m Q
 | n+1,0,P,Q,h=>(Jm P Q n).symm
 | n+1,m+1,P,Q,h=>by
  rw[Yr];show P 0*Q (m+1)+pmu m (ptl P) Q=_;rw[za0 n m (ptl P) Q (λi hi=>h (i+1) ())]
  rfl
end
def zhr[Field F]{O:Kf k F}(hj:j<xs.length):nv O (xs.set j y) q=if q=j then O.to y else nv O xs q:=by
 unfold nv;rw[we,we,vF]
 by_cases c:q=j
 ·subst c;rw[bj rfl,bj hj,bj rfl];rfl
 ·rw[bn (Ne.symm c),bn c]
def pnv{k:Int}{F:Type}[Field F](O:Kf k F)(xs:List Nb):PSr F:=λj=>nv O xs j
end La
namespace La
open Lean.Grind Nm Dt
def grRow(k:Int)(M:TB)(i j:Nat):List Nb:=if i=j then [nsub k (nnum k 0) ((M.getD i []).getD j (.z 0)),nnum k 1] else [nsub k (nnum k 0) ((M.getD i []).getD j (.z 0))]
def grR(k:Int)(M:TB)(n:Nat):List (TB):=(wQ n).map λi=>(wQ n).map λj=>grRow k M i j
section
variable[Field F]
def zhK(O:Kf k F)(J:kab k)(ox:x.ok k):pnv O [nsub k (nnum k 0) x]=pol [-(O.to x)]:=by
 have e:O.to (nsub k (nnum k 0) x) = -(O.to x):=by rw[O.sub (zm J 0) ox,O.num0];grind
 funext j
 match j with
 | 0=>exact e
 | j+1=>exact zI O (by simp)
def zg7(O:Kf k F)(J:kab k)(ox:x.ok k):pnv O [nsub k (nnum k 0) x,nnum k 1]=pol [-(O.to x),1]:=by
 have e:O.to (nsub k (nnum k 0) x) = -(O.to x):=by rw[O.sub (zm J 0) ox,O.num0];grind
 have e1:O.to (nnum k 1)=1:=by rw[O.num,ι_one]
 funext j
 match j with
 | 0=>exact e
 | 1=>exact e1
 | j+2=>exact zI O (by simp)
def zhh(O:Kf k F)(J:kab k)(n1:1<=n)(n4:n<=4)(lM:M.length=n)(oM:OkM k n M):cdet n ((grR k M n).map λr=>r.map λx=>pnv O x)=λj=>((wgr (M.map λr=>r.map O.to) n).reverse).getD j 0:=by
 have e:((grR k M n).map λr=>r.map λx=>pnv O x)=tblO n λi j=>if i=j then pol [-(tab (M.map λr=>r.map O.to) i j),1] else pol [-(tab (M.map λr=>r.map O.to) i j)]:=by
  unfold grR tblO;rw[vz];refine vo λi hi=>?_
  show((wQ n).map _).map _=_;rw[vz];refine vo λj hj=>?_
  have hi:i<M.length:=by rw[lM];exact vA.1 hi
  obtain⟨lr,or⟩:=oM _ (gdmem hi []);have hj:j <(M.getD i []).length:=by rw[lr];exact vA.1 hj
  dsimp only
  rw[show tab (M.map λr=>r.map O.to) i j=_ from gdd O.to hi hj 0 (.z 0)];have hj:=gdmem hj (.z 0);show pnv O (grRow k M i j)=_;unfold grRow
  split
  ·exact zg7 O J (or _ hj)
  ·exact zhK O J (or _ hj)
 rw[e,lawO n1 n4,zh4 (by rw[wc,lM]) λr U=>by
  obtain⟨r,h,rfl⟩:=wm.1 U;rw[wc,(oM r h).1]]
end
end La
namespace Dt
open Lean.Grind La
section
variable[CommRing R]{bz:R->Prop}(bA:Loc bz)
include bA
omit bA
theorem zjo:∀ n,Dl n (idm:Nat->Nat->R) 1
 | 0=>.nil _
 | n+1=>by
  have c:=Dl.cons (λ_=>(0:R)) (zjo n) λi hi=>by rw[idm_ne ()];exact sg_0 λl _=>by grind
  rw[idm_self,sg_0 λi _=>by grind,show(1:R) *(1 - 0)=1 by grind]at c;exact c
end
section
variable[CommRing R]{bz:R->Prop}(bA:Loc bz)
include bA
theorem syl{n:Nat}(bC W:Nat->Nat->R)(jU:∀ i k,i<n->bz (bC i k)):∀ l,∃ d,Dl n (λi j=>idm i j+sg (λk=>bC i k*W k j) l) d/\Dl l (λi j=>idm i j+sg (λq=>W i q*bC q j) n) d
 | 0=>(1,(zjo n).congr λi j _ _=>by show _=idm i j+0;grind,.nil _)
 | l+1=>by
  obtain⟨d,dX,dY⟩:=syl bC W jU l
  let X:Nat->Nat->R:=λi j=>idm i j+sg (λk=>bC i k*W k j) l
  have nX:Nr bz n X:=λi j hi _=>by
   rw[show idm i j+sg (λk=>bC i k*W k j) l - idm i j=sg (λk=>bC i k*W k j) l by grind];exact bA.sum l λk _=>bA.mulr _ (jU i k hi)
  obtain⟨G,bG,_⟩:=Jo bA n X nX
  let p:Nat->R:=λi=>sg (λq=>G i q*bC q l) n
  have jp:∀ i,i<n->bz (p i):=λi _=>bA.sum n λq hq=>bA.mul _ (jU q l hq)
  have Xp:∀ i,i<n->sg (λq=>X i q*p q) n=bC i l:=λi hi=>zdI bG (λq=>bC q l) hi
  let w:Nat->R:=λc=>sg (λr=>W c r*p r) n
  have key:∀ q,q<n->p q+sg (λc=>bC q c*w c) l=bC q l:=λq hq=>by
   rw[← Xp q hq];rw[sg_congr n (f:=λr=>(idm q r+sg (λk=>bC q k*W k r) l)*p r) (g:=λr=>idm q r*p r+sg (λk=>bC q k*W k r*p r) l) (λr _=>by rw[xg];grind),yf,xv _ n hq,yx (λr k=>bC q k*W k r*p r) l n]
   congr 1
   refine sg_congr l λc _=>?_
   rw[← yh];exact sg_congr n λr _=>by grind
  have r1:=qU bA p (λj=>W l j) n jp;have nE:Nr bz n (λi j=>idm i j+p i*W l j):=λi j hi _=>by
   rw[show idm i j+p i*W l j - idm i j=p i*W l j by grind];exact bA.mulr _ (jp i hi)
  have d3:=Dl.mul bA nX nE dX r1;refine(_,d3.congr λi j hi hj=>?_,?_)
  ·show sg (λq=>X i q *(idm q j+p q*W l j)) n=idm i j +(sg (λk=>bC i k*W k j) l+bC i l*W l j);rw[sg_congr n (g:=λq=>X i q*idm q j +(X i q*p q)*W l j) (λq _=>by grind),yf,sg_idr _ n hj,xg,Xp i hi]
   grind
  ·have c:=Dl.cons w dY λi hi=>by
    rw[sg_congr l (g:=λc=>idm i c*w c+sg (λq=>W i q*bC q c*w c) n) (λc _=>by rw[xg];grind),yf,xv _ l hi,idm_ne (),yx (λc q=>W i q*bC q c*w c) n l];rw[← yf];rw[show ∀ z:R,(0:R)+z=z by grind];refine sg_congr n λq hq=>?_
    rw[← key q hq,sg_congr l (g:=λc=>W i q *(bC q c*w c)) (λc _=>by grind),yh];grind
   have e:(idm l l+sg (λq=>W l q*bC q l) n) - sg (λc=>(idm l c+sg (λq=>W l q*bC q c) n)*w c) l=1+sg (λi=>W l i*p i) n:=by
    rw[sg_congr l (g:=λc=>sg (λq=>W l q*bC q c*w c) n) (λc hc=>by rw[xg,idm_ne ()];grind),yx (λc q=>W l q*bC q c*w c) n l,idm_self];have:sg (λq=>W l q*bC q l) n=sg (λi=>W l i*p i) n+sg (λq=>sg (λc=>W l q*bC q c*w c) l) n:=by
     rw[← yf];refine sg_congr n λq hq=>?_
     rw[← key q hq,sg_congr l (f:=λc=>W l q*bC q c*w c) (g:=λc=>W l q *(bC q c*w c)) (λc _=>by grind),yh];grind
    rw[this];grind
   rw[show((λi j=>idm i j+sg (λq=>W i q*bC q j) n) l l - sg (λi=>(λi j=>idm i j+sg (λq=>W i q*bC q j) n) l i*w i) l:R)=1+sg (λi=>W l i*p i) n from e]at c;exact c
end
section
variable[CommRing R]
def zbb f:∀ n,(cst (sg f n):PSr R)=sg (λi=>cst (f i)) n
 | 0=>(yK).zero
 | n+1=>by
  show cst (sg f n+f n)=sg (λi=>cst (f i)) n+cst (f n);rw[(yK).add,zbb f n]
def zbd{P Q:Nat->Nat->R}(e:P i j=Q i j):NM P i j=NM Q i j:=by show _ + -(pX*cst (P i j))=_ + -(pX*cst (Q i j));rw[e]
def zgo(u w:Nat->Nat->R) n l:∃ d,Dl n (NM λi j=>sg (λk=>u i k*w k j) l) d/\Dl l (NM λi j=>sg (λq=>w i q*u q j) n) d:=by
 have hm:=yK (R:=R);obtain⟨d,h1,h2⟩:=syl (loc0) (λi k=>-(pX*cst (u i k))) (λk j=>cst (w k j)) (λi k _=>by show(-(pX*cst (u i k)):PSr R) 0=0;rw[xZ,X_0];grind) l;refine(d,h1.congr λi j _ _=>?_,h2.congr λi j _ _=>?_)
 ·show idm i j+sg (λk=>-(pX*cst (u i k))*cst (w k j)) l=idm i j + -(pX*cst (sg (λk=>u i k*w k j) l));rw[zbb,sg_congr l (g:=λk=>-pX*cst (u i k*w k j)) (λk _=>by rw[hm.mul];grind),yh];grind
 ·show idm i j+sg (λq=>cst (w i q) * -(pX*cst (u q j))) n=idm i j + -(pX*cst (sg (λq=>w i q*u q j) n));rw[zbb,sg_congr n (g:=λq=>-pX*cst (w i q*u q j)) (λk _=>by rw[hm.mul];grind),yh];grind
def ziQ{A B:Nat->Nat->R}(h:∀ i j,i<n->j<n->sg (λq=>A i q*B q j) n=0)(hi:i<n)(hj:j<n):mm n (NM A) (NM B) i j=NM (λi j=>A i j+B i j) i j:=by
 have hm:=yK (R:=R);show sg (λq=>(idm i q + -(pX*cst (A i q))) *(idm q j + -(pX*cst (B q j)))) n=idm i j + -(pX*cst (A i j+B i j));rw[sg_congr n (g:=λq=>idm i q *(idm q j + -(pX*cst (B q j))) +((-pX) *(cst (A i q)*idm q j) +(pX*pX)*cst (A i q*B q j))) (λq _=>by rw[hm.mul];grind),yf,xv _ n hi,yf,yh,sg_idr _ n hj,yh,← zbb,h i j hi hj,hm.zero,hm.add]
 grind
def dl_div{n l m:Nat}{X N W V E K:Nat->Nat->R}(hWX:∀ i j,i<l->j<n->sg (λq=>W i q*X q j) n=sg (λc=>N i c*W c j) l)(hWV:∀ i j,i<l->j<l->sg (λq=>W i q*V q j) n=idm i j)
  (hE:∀ i j,i<n->j<n->idm i j - sg (λc=>V i c*W c j) l=sg (λb=>E i b*K b j) m) {f:PSr R} (hN:Dl l (NM N) f):∃ g:PSr R,Dl n (NM X) (f*g)/\∀ t,m<t->g t=0:=by
 have bA:=loc0 (R:=R)
 let NW:Nat->Nat->R:=λc j=>sg (λa=>N c a*W a j) l
 let KX:Nat->Nat->R:=λb j=>sg (λq=>K b q*X q j) n
 obtain⟨d,h1,h2⟩:=zgo V NW n l;obtain⟨g,h3,h4⟩:=zgo E KX n m;have eN:∀ i j,i<l->j<l->sg (λq=>NW i q*V q j) n=N i j:=λi j hi hj=>by
  rw[sg_congr n (λq _=>(xg _ _ _).symm),yx (λq a=>N i a*W a q*V q j) l n,sg_congr l (g:=λa=>N i a*idm a j) (λa ha=>by rw[← hWV a j ha hj,← yh];exact sg_congr n λq _=>by grind),sg_idr _ l hj]
 have ed:= Dl.uniq bA (NM_nr _ l) (h2.congr λi j hi hj=>zbd (eN i j hi hj)) hN;rw[ed]at h1;refine(g,?_,Jq m _ g h4)
 let A1:Nat->Nat->R:=λi j=>sg (λk=>V i k*NW k j) l
 let A2:Nat->Nat->R:=λi j=>sg (λb=>E i b*KX b j) m
 have e2:∀ i j,i<n->j<n->A2 i j=X i j - A1 i j:=λi j hi hj=>by
  show sg (λb=>E i b*sg (λq=>K b q*X q j) n) m=X i j - sg (λk=>V i k*NW k j) l;rw[sg_congr m (g:=λb=>sg (λq=>E i b*K b q*X q j) n) (λb _=>by rw[← yh];exact sg_congr n λq _=>by grind),yx (λb q=>E i b*K b q*X q j) n m];rw[sg_congr n (g:=λq=>idm i q*X q j +(-1)*sg (λc=>V i c*W c q*X q j) l) (λq hq=>by rw[xg,← hE i q hi hq,xg];grind),yf,xv _ n hi,yh,yx (λq c=>V i c*W c q*X q j) l n];rw[sg_congr l (λc hc=>by
   show _=V i c*sg (λa=>N c a*W a j) l;rw[← hWX c j hc hj,← yh];exact sg_congr n λq _=>by grind)]
  grind
 have wz:∀ a j,a<l->j<n->sg (λq=>W a q*A2 q j) n=0:=λa j ha hj=>by
  rw[sg_congr n (g:=λq=>W a q*X q j +(-1)*sg (λk=>W a q*V q k*NW k j) l) (λq hq=>by
   rw[e2 q j hq hj];rw[sg_congr l (g:=λk=>W a q *(V q k*NW k j)) (λk _=>by grind),yh];grind),yf,yh,hWX a j ha hj,yx (λq k=>W a q*V q k*NW k j) l n]
  rw[sg_congr l (f:=λk=>sg (λq=>W a q*V q k*NW k j) n) (λk J=>by rw[xg,hWV a k ha J]),xv _ l ha]
  grind
 have z:∀ i j,i<n->j<n->sg (λq=>A1 i q*A2 q j) n=0:=λi j hi hj=>by
  rw[sg_congr n (λq _=>(xg _ _ _).symm),yx (λq k=>V i k*NW k q*A2 q j) l n];refine sg_0 λk J=>?_
  rw[sg_congr n (g:=λq=>V i k *(NW k q*A2 q j)) (λq _=>by grind),yh];have:sg (λq=>NW k q*A2 q j) n=0:=by
   rw[sg_congr n (λq _=>(xg _ _ _).symm),yx (λq a=>N k a*W a q*A2 q j) l n];refine sg_0 λa ha=>?_
   rw[sg_congr n (g:=λq=>N k a *(W a q*A2 q j)) (λq _=>by grind),yh,wz a j ha hj];grind
  rw[this];grind
 have p:=Dl.mul bA (NM_nr A1 n) (NM_nr A2 n) h1 h3;refine p.congr λi j hi hj=>?_
 rw[ziQ z hi hj];exact zbd (by rw[e2 i j hi hj];grind)
end
section
variable[Field F]
def dot_sg(u v:Nat->F):∀ n,dot n u v=sg (λi=>u i*v i) n
 | 0=>rfl
 | n+1=>by show dot n u v+u n*v n=sg _ n+u n*v n;rw[dot_sg u v n]
def zaN{n:Nat}{A:Nat->Nat->F}{s r:Nat->Nat->F}(hs:∀ i,i+1<n->∀ q,q<n->s (i+1) q=sg (λj=>A q j*s i j) n)(U:∀ i j,j<n->r (i+1) j=sg (λq=>r i q*A q j) n)(h0:∀ i,i<n->sg (λq=>r 0 q*s i q) n=if i+1=n then 1 else 0):∀ i t,i+t<n->sg (λq=>r i q*s t q) n=if i+t+1=n then 1 else 0
 | 0,t,h=>by rw[h0 t (),waF]
 | i+1,t,h=>by
  have ih:=zaN hs U h0 i (t+1) ();rw[show i+1+t+1=i +(t+1)+1 by omega,← ih];rw[sg_congr n (λj hj=>by rw[U i j hj,← xg]),yx (λj q=>r i q*A q j*s t j) n n];refine sg_congr n λq hq=>?_
  rw[hs t () q hq,← yh];exact sg_congr n λj _=>by grind
def zbC{n:Nat}{s r:Nat->Nat->F}(h:∀ i t,i+t<n->sg (λq=>r i q*s t q) n=if i+t+1=n then 1 else 0){c:Nat->F}(z:∀ j,j<n->sg (λi=>c i*r i j) n=0):∀ t,∀ u,u<=t->u<n->c (n - 1 - u)=0:=by
 have dots:∀ t,t<n->sg (λi=>c i*sg (λq=>r i q*s t q) n) n=0:=λt ht=>by
  rw[sg_congr n (g:=λi=>sg (λq=>c i*r i q*s t q) n) (λi _=>by rw[← yh];exact sg_congr n λq _=>by grind),yx (λi q=>c i*r i q*s t q) n n];exact sg_0 λq hq=>by rw[xg,z q hq];grind
 have one:∀ t,t<n->(∀ i,n - 1 - t<i->i<n->c i=0)->c (n - 1 - t)=0:=λt ht hc=>by
  have d:=dots t ht;rw[sg_congr n (g:=λi=>c i*idm i (n - 1 - t)) (λi hi=>by
   rcases wJ (n - 1 - t) i with g|g
   ·rw[hc i g hi];grind
   ·rw[h i t ()]
    by_cases e:i=n - 1 - t
    ·rw[bj (),e,idm_self]
    ·rw[bn (),idm_ne e]),sg_idr _ n ()]at d
  exact d
 intro t
 induction t with
 | zero=>intro u hu hn;exact one u hn λi h1 h2=>by omega
 | succ t ih =>
  intro u hu hn;exact one u hn λi h1 h2=>by
   have:=ih (n - 1 - i) () ();rw[show n - 1 - (n - 1 - i)=i by omega]at this;exact this
def acker{n:Nat}(n1:1<=n){A M:Nat->Nat->F}{s r r':Nat->Nat->F}{b μ p y:Nat->F}(hs:∀ i,i+1<n->∀ q,q<n->s (i+1) q=sg (λj=>A q j*s i j) n)(hb:∀ q,q<n->s 0 q=b q)(U:∀ i j,j<n->r (i+1) j=sg (λq=>r i q*A q j) n)(h0:∀ i,i<n->sg (λq=>r 0 q*s i q) n=if i+1=n then 1 else 0)
  (hμ:∀ j,j<n->μ j=sg (λi=>p i*r i j) n+r n j) (hM:∀ q j,q<n->j<n->M q j=A q j - b q*μ j) (e0:∀ j,j<n->r' 0 j=r 0 j) (hr':∀ i j,j<n->r' (i+1) j=sg (λq=>r' i q*M q j) n) (ch:∀ j,j<n->sg (λi=>y i*r' i j) n+r' n j=0):∀ i,i<n->y i=p i:=by
 have at':=zaN hs U h0;have step:∀ i,i<n->(∀ j,j<n->r' i j=r i j)->∀ j,j<n->r' (i+1) j=r (i+1) j - (if i+1=n then 1 else 0)*μ j:=λi hi e j hj=>by
  rw[hr' i j hj,U i j hj,← at' i 0 ()];rw[sg_congr n (g:=λq=>r i q*A q j +(-(μ j)) *(r i q*s 0 q)) (λq hq=>by rw[e q hq,hM q j hq hj,hb q hq];grind),yf,yh];grind
 have same:∀ i,i<n->∀ j,j<n->r' i j=r i j:=by
  intro i
  induction i with
  | zero=>exact λ_=>e0
  | succ i ih=>intro hi j hj;rw[step i () (ih ()) j hj,bn ()];grind
 obtain⟨n',rfl⟩ : ∃ n',n=n'+1:=(n - 1,());have last:∀ j,j<n'+1->r' (n'+1) j = -(sg (λi=>p i*r i j) (n'+1)):=λj hj=>by
  rw[step n' () (same n' ()) j hj,bj rfl,hμ j hj];grind
 have z:∀ j,j<n'+1->sg (λi=>(y i - p i)*r i j) (n'+1)=0:=λj hj=>by
  have c:=ch j hj;rw[last j hj,sg_congr (n'+1) (λi hi=>by rw[same i hi j hj])]at c;rw[sg_congr (n'+1) (g:=λi=>y i*r i j +(-1) *(p i*r i j)) (λi _=>by grind),yf,yh]
  grind
 intro i hi;have:=zbC at' z (n' - i) (n' - i) (wv _) ();rw[show n'+1 - 1 - (n' - i)=i by omega]at this
 grind
end
section
variable[CommRing R]
def XT:∀ j (p q:Nat->R),pmu j p q=sg (λi=>p i*q (j - i)) (j+1)
 | 0,p,q=>by show p 0*q 0=0+p 0*q 0;grind
 | j+1,p,q=>by
  show p 0*q (j+1)+pmu j (ptl p) q=_;rw[jH,XT j (ptl p) q]
  congr 1
  exact sg_congr (j+1) λi _=>by rw[show j+1 - (i+1)=j - i by omega];rfl
def Qu{f:Nat->R}:∀ {b:Nat},a<=b->(∀ i,a<=i->i<b->f i=0)->sg f b=sg f a
 | 0,h,_=>by rw[show a=0 by omega]
 | b+1,h,z=>by
  rcases vC h with g|g
  ·show sg f b+f b=_;rw[z b () (),Qu () λi h1 h2=>z i h1 ()];grind
  ·rw[g]
def zfL(f:Nat->R):∀ n,sg f (n+1)=sg (λi=>f (n - i)) (n+1)
 | 0=>rfl
 | n+1=>by
  rw[jH (λi=>f (n+1 - i))];show sg f (n+1)+f (n+1)=f (n+1 - 0)+_;rw[zfL f n,sg_congr (n+1) (f:=λi=>f (n+1 - (i+1))) (λi _=>by rw[show n+1 - (i+1)=n - i by omega])];rw[show n+1 - 0=n+1 by omega];grind
def pmu_top{p:Nat->R}(q:Nat->R)(zp:∀ t,n<t->p t=0):pmu j p q=sg (λi=>if i<=j then p i*q (j - i)else 0) (n+1):=by
 rw[XT,sg_congr (j+1) (g:=λi=>if i<=j then p i*q (j - i)else 0) (λi hi=>by rw[bj ()])]
 rcases GH j n with h|h
 ·exact(Qu () λi h1 _=>by rw[bn ()]).symm
 ·exact Qu () λi h1 _=>by
   split
   ·rw[zp i ()];grind
   ·rfl
def pmu_rev2{p q p' q':Nat->R}{n m:Nat}(zp:∀ t,n<t->p t=0)(zq:∀ t,m<t->q t=0)(zp':∀ t,n<t->p' t=0)(zq':∀ t,m<t->q' t=0)(ep:∀ i,i<=n->p' i=p (n - i))(eq:∀ i,i<=m->q' i=q (m - i)){j:Nat}(hj:j<=n+m):pmu j p' q'=pmu (n+m - j) p q:=by
 rw[pmu_top q' zp',pmu_top q zp,zfL];refine sg_congr (n+1) λi hi=>?_
 rcases wJ j (n - i)with g|g
 ·rw[bn ()]
  split
  ·rw[zq _ ()];grind
  ·rfl
 ·rw[bj g,ep (n - i) (),show n - (n - i)=i by omega]
  rcases wJ m (j - (n - i))with g2|g2
  ·rw[zq' _ g2,bn ()];grind
  ·rw[eq _ g2,bj (),show m - (j - (n - i))=n+m - j - i by omega]
def div_step{o q:Nat->R}{l a:Nat}(ho:∀ t,l<t->o t=0)(o1:o l=1)(hq:∀ t,a<t->q t=0):pmu (a+l) o q=q a/\∀ j,pmu j o (λt=>if t=a then 0 else q t)=pmu j o q - (if a<=j then q a*o (j - a)else 0):=by
 refine(?_,λj=>?_)
 ·rw[pmu_top q ho,sg_congr (l+1) (g:=λi=>q a*idm i l) (λi hi=>by
   rw[bj ()]
   by_cases e:i=l
   ·rw[e,idm_self,o1,show a+l - l=a by omega];grind
   ·rw[idm_ne e,hq _ ()];grind),sg_idr (λ_=>q a) (l+1) ()]
 ·rw[XT,XT];have e:∀ i,i<j+1->o i *(if j - i=a then 0 else q (j - i))=o i*q (j - i) +(-(q a)) *(if a<=j then o i*idm i (j - a)else 0):=λi hi=>by
   by_cases c:j - i=a
   ·rw[bj c,bj (),show j - a=i by omega,idm_self,c];grind
   ·rw[bn c]
    split
    ·rw[idm_ne ()];grind
    ·grind
  rw[sg_congr (j+1) e,yf,yh]
  by_cases c:a<=j
  ·rw[bj c,sg_congr (j+1) (λi _=>bj c),sg_idr o (j+1) ()];grind
  ·rw[bn c,sg_0 λi _=>bn c];grind
end
section
variable[CommRing R]{bz:R->Prop}(bA:Loc bz)
include bA
theorem dl_tr:∀ {n:Nat} {d:R},Nr bz n X->Dl n X d->Dl n (λi j=>X j i) d
 | 0,_,_,.nil _=>.nil _
 | n+1,_,hX,.cons (d:=d) w h hw=>by
  have hn:Nr bz n X:=λi j hi hj=>hX i j () ()
  obtain⟨G,hG,_⟩:=Jo bA n X hn;have c:=Dl.cons (X:=λi j=>X j i) (λl=>sg (λi=>X n i*G i l) n) (dl_tr hn h) (λi hi=>by
   have:=zfS n G X (λi=>X n i) i;rw[sg_congr n (g:=λa=>X n a*idm a i) (λa ha=>by rw[hG.l a i ha hi]),sg_idr _ n hi]at this;show sg (λl=>X l i*sg (λi=>X n i*G i l) n) n=X n i;rw[this];exact sg_congr n λl _=>by grind)
  have e:sg (λi=>X i n*sg (λa=>X n a*G a i) n) n=sg (λi=>X n i*w i) n:=by
   rw[sg_congr n (g:=λa=>X n a*sg (λl=>G a l*X l n) n) (f:=λi=>X n i*w i) (λa ha=>by rw[Jz hG hw ha])];rw[sg_congr n (g:=λi=>sg (λa=>X n a *(G a i*X i n)) n) (λi _=>by rw[← yh];exact sg_congr n λa _=>by grind),yx];exact sg_congr n λa _=>by rw[yh]
  have e':(λi j=>X j i:Nat->Nat->R) n n - sg (λi=>(λi j=>X j i:Nat->Nat->R) n i*sg (λa=>X n a*G a i) n) n=X n n - sg (λi=>X n i*w i) n:=by
   show X n n - sg (λi=>X i n*sg (λa=>X n a*G a i) n) n=_;rw[e]
  rw[e']at c;exact c
end
end Dt
namespace La
open Lean.Grind Dt
section
variable[Field F]
def vT(T:List (List F))(n:Nat)(u:Nat->F):Nat->F:=λj=>dot n u (λi=>(T.getD i []).getD j 0)
def vP(T:List (List F))(n:Nat)(u:Nat->F):Nat->Nat->F
 | 0=>u
 | i+1=>vT T n (vP T n u i)
variable{T:List (List F)}(l:T.length=n)(h:∀ r∈T,r.length=n)
include l h
theorem ziq:∃ f,Dl n (NM (tab T)) f/\f 0=1/\∀ t,f t =(wgr T n).getD t 0:=by
 obtain⟨f,hf,g⟩:=Dl.ex loc0 (NM_nr (tab T) n);refine(f,hf,?_,dl_wgr n () (λr U=>by have:=h r U;omega) f hf);have:(f - 1) 0=0:=g;rw[Dt.sub_at,qE]at this
 grind
theorem zix:(wgr T n).getD 0 0=1:=by
 obtain⟨f,_,a,b⟩:=ziq l h;rw[← b,a]
theorem zjg u (hj:j<n):dot (n+1) (λi=>(wgr T n).getD (n - i) 0) (λi=>vP T n u i j)=0:=by
 obtain⟨f,hf,_,e⟩:=ziq l h;have hM:Dl n (NM λa b=>if b<n then tab T b a else u a) f:=(dl_tr loc0 (NM_nr (tab T) n) hf).congr λi j hi hj=>by
  show idm j i + -(pX*cst (tab T j i))=idm i j + -(pX*cst (if j<n then tab T j i else u i));rw[bj hj,idm_comm]
 have pv:∀ t a,pvT (λa b=>if b<n then tab T b a else u a) n t a=vP T n u t a:=by
  intro t
  induction t with
  | zero=>intro a;show(if n<n then _ else _)=u a;rw[bn ()]
  | succ t ih =>
   intro a;show sg (λb=>(if b<n then tab T b a else u a)*pvT _ n t b) n=dot n (vP T n u t) _;rw[dot_sg];refine sg_congr n λb hb=>?_
   rw[bj hb,ih b];show tab T b a*_=_*tab T b a
   grind
 have c:=zjk (Jq n) hM (λi hi=>zjc _ n hi) hj (uO n);rw[zcY,yW]at c;replace c:=(XT (n+1) (wT (λa b=>if b<n then tab T b a else u a) n j) f).symm.trans c;rw[jH]at c;rw[dot_sg];rw[sg_congr (n+1) (g:=λi=>(-1) *((wgr T n).getD (n - i) 0*vP T n u i j)) (λi _=>by
  rw[show n+1 - (i+1)=n - i by omega,e,← pv i j];show -(pvT _ n i j)*_=_
  grind),yh]at c
 have z:wT (λa b=>if b<n then tab T b a else u a) n j 0*f (n+1 - 0)=0:=by
  show(0:F)*_=0
  grind
 rw[z]at c
 grind
end
end La
namespace L2
open PySem PySem.Spec PyProof.Rows Nm
def TopOk(X:Cx):Prop:=∃ env l,X.stack=env::l/\env.scope.isGenerator=false/\env.scope.isCoroutine=false/\env.builtins=builtinsNs/\env.globals=cg
def zfj(U:Room k X.A)(J:40<=k)(hP:X.prog.given.tree=none)(hS:X.base.NoSeer)(hT:TopOk X):OpR X (cP .FloorDiv) (rI (λ_ j=>j≠0) λi j=>.int (i.fdiv j)):=by
 intro pins s L H x y v u Q I rx ry h;obtain⟨i,j,rfl,rfl,hc,q⟩:=h;obtain⟨t,rfl⟩:=rx;obtain⟨t',rfl⟩:=ry;obtain⟨env,l,e,h1,h2,h3,h4⟩:=hT;have hd:X.A.depth+Builtin.pylongFrames<recursionLimit:=by
  have:=U.dp;have:Builtin.pylongFrames=100:=rfl;omega
 exact floordiv_int hc (.int (i.fdiv j),H,I.tok _,(_,rfl),q) (.inr (PylongRoom.of I.nolimit hd (SeerAt.of (hS.keeps I.bk) hP (I.ok.frames.trans (congrArg some e)) h1 h2 h3 h4)))
def IRow(H:Hp)(ws:List Int)(a:Addr):Prop:=H a=some (.lst (ws.map V.int))
def IRow.mono(h:IRow H ws a)(g:Same H H'):IRow H' ws a:=g _ _ h
structure NewT(H H':Hp)(M:TB)(top:Addr)(ras:List Addr):Prop where
 tab:kac H' M top ras
 ft:H top=none
 fr:∀ r∈ras,H r=none
 nd:ras.Nodup
 nt:top∉ras
structure NewR(H H':Hp)(xs:List Nb)(a:Addr):Prop where
 row:kag H' xs a
 fa:H a=none
def Same.none(g:Same H H')(h:H' p=none):H p=none:=by
 cases e:H p with
 | none=>rfl
 | some u=>rw[g _ _ e]at h;cases h
def zQ(g:Same H H')(h:H p=none):Same H (upd H' p o):=λb u q=>by
 rw[zE (zR q h)];exact g _ _ q
def kag.len(h:kag H xs a):∃ vs,H a=some (.lst vs)/\Paired (RN H) xs vs/\vs.length=xs.length :=
 let ⟨vs,h1,h2⟩:=h
 (vs,h1,h2,(zd h2).symm)
def xR:∀ {xs:List α} {ys:List β},xs.length=ys.length->(∀(i:Nat) a b,xs[i]?=some a->ys[i]?=some b->R a b)->Paired R xs ys
 | [],[],_,_=>.nil
 | [],_::_,h,_=>by simp at h
 | _::_,[],h,_=>by simp at h
 | a::xs,b::ys,h,f=>.cons (f 0 a b rfl rfl) (xR (by simpa using h) λi x y h1 h2=>f (i+1) x y (by simpa using h1) (by simpa using h2))
def yq{i:Nat}{b:β}(h:Paired R xs ys)(h1:xs[i]?=some a)(h2:ys[i]?=some b):R a b:=by
 obtain⟨b',e,r⟩:=zJ h h1;rw[h2]at e;cases e;exact r
def kax:Sm 1 1:=by unfold Sm;decide
def yg n:Sm n 0:=by unfold Sm;exact GZ ()
def Qh(h:Sm n w)(hd:d ∣ w):Sm n (w.fdiv d):=by
 rw[ur hd]
 by_cases z:d=0
 ·subst z;rw[Int.ediv_zero];exact yg n
 ·have e:=gw hd;refine h.le ?_;have h1:(w / d*d).natAbs=w.natAbs:=by rw[e]
  rw[vS]at h1;rw[← h1];exact uA _ (Gn.mpr z)
theorem zc9{w k:Int}(k0:0<k)(k9:k<2305843009213693952)(hn:61<=n):Sm n (w.fmod k) :=
 (ZC (wI w k0) (wW w k0) k9).mono hn
def zfW:∀ {ws:List Int},(∀ w∈ws,Sm n w)->Sm (n+ws.length) ws.sum
 | [],_=>by rw[wbL];exact yg _
 | w::ws,h=>by
  rw[List.sum_cons];have h1:=zfW λx D=>h x (ww _ D)
  have h2:=(h w wt).mono (GS n ws.length);exact(h2.add h1).mono (by rw[um];omega)
def yc(J:kab k)(h:Sm n w)(hn:61<=n):nsm n (nnum k w):=by
 unfold nnum
 split
 ·exact(h,Sm.mono kax ())
 ·rename_i k0;exact zc9 (by have:=J.lt;omega) J.lt.2 hn
def gLst(K:bh)(n:Nat)(t:TGs):TG:=λv L H Q=>∃ a xs,v=.ref a/\SqL K H a xs/\xs.length=n/\t xs L H Q
def zim{pos:Pos}{k:Nat}(hc:X.calm=true)(h:PGs X es t)
  (hn:(cE es X.env).length=n:=by rfl) (hst:(cE es X.env).findIdx? (·.1)=none:=by rfl):PG X (.Tuple es k pos) (gLst X.K n t):=by
 intro pins s L H v u Q I r hw;obtain⟨a,xs,e1,hq,hl,hw⟩:=hw;subst e1;cases r;obtain⟨its,rv,pl,hz⟩:=I.list hq;have e:(cE es X.env).length=its.toArray.size:=by simp[hn,← hl,rv.length]
 rw[assign_Tuple];refine cF (cH ?_);unfold unpack;rw[e,hst];refine cF (cG (PySem.W.kun_itemsOf (I.ok.hd hc) pl.isList λh' D=>?_));have I1:Inv X pins L H { s with heap:=h' }:=I.kept (t':=s.toks) λb o e=>D b o (vp (Heap.lt_size e)) e
 exact h pins _ L H xs _ Q I1 (by simpa using rv) hw
def zev(hb:0<b)(hd:0<d):0<b.fdiv ((vH b d:Nat):Int)*d/\b ∣ b.fdiv ((vH b d:Nat):Int)*d/\d ∣ b.fdiv ((vH b d:Nat):Int)*d/\((vH b d:Nat):Int)≠0:=by
 have g0:0 <((vH b d:Nat):Int):=by have:=wak d (show b≠0 by omega);omega
 have db:= Gr b d;have dd:= GL b d;have e1:=xQ db ();have e2:=xQ dd ();have p1:0<b.fdiv ((vH b d:Nat):Int):=by
  rcases wbj 0 (b.fdiv ((vH b d:Nat):Int))with h|h|h
  ·exact h
  ·rw[← h]at e1;omega
  ·have:=Int.mul_neg_of_neg_of_pos h g0;omega
 refine(wap p1 hd,(d.fdiv ((vH b d:Nat):Int),?_),wbr _ _,());generalize b.fdiv ((vH b d:Nat):Int)=x at *;generalize d.fdiv ((vH b d:Nat):Int)=y at *;generalize ((vH b d:Nat):Int)=g at *;rw[← e1,← e2]
 grind
def Xv{k:Int}{H:Hp}(k0:k≠0):∀ {xs:List Nb} {vs:List V},OkR k xs->Paired (RN H) xs vs->∃ is:List Int,xs=is.map Nb.z/\vs=is.map V.int
 | _,_,_,.nil=>([],V,V)
 | x::xs,v::vs,h,.cons r t=>by
  obtain⟨is,e1,e2⟩:=Xv k0 (λy hy=>h y (ww _ hy)) t;have D:=h x wt;cases x with
  | q a=>exact bw D k0
  | z i=>exact(i::is,by rw[e1];rfl,by rw[e2,r.z];rfl)
def zb4(k0:k≠0) is:Scl k (is.map Nb.z) is 1 :=
 (by rw[vz];exact(List.map_id'' (λ_=>rfl) is).symm,(),λ_=>rfl,λx D=>by
  obtain⟨i,_,rfl⟩:=wm.mp D
  trivial)
def RN.upd(h:RN H x v)(ht:H t=some (.lst zs)):RN (upd H t (.lst zs')) x v:=by
 cases x with
 | q r =>
  obtain⟨a,rfl,ha⟩:=h.q;exact RN.of_q (by rw[zE (λe=>by rw[e,ht]at ha;cases ha)];exact ha)
 | z i=>rw[h.z];exact RN.of_z
def kag.upd(h:kag H xs a)(ne:a≠t)(ht:H t=some (.lst zs)):kag (upd H t (.lst zs')) xs a :=
 let ⟨vs,h1,h2⟩:=h
 (vs,by rw[zE ne];exact h1,yt (λ_ _ r=>r.upd ht) h2)
def kag.some(h:kag H xs a):∃ o,H a=some o:=let ⟨vs,h1,_⟩:=h;(_,h1)
structure Grow(H H':Hp)(M:TB)(ras:List Addr):Prop where
 same:Same H H'
 rows:Paired (kag H') M ras
 fr:∀ r∈ras,H r=none
 nd:ras.Nodup
def Grow.nil H (g:Same H H'):Grow H H' [] []:=(g,.nil,λ_ h=>(nomatch h),.nil)
section
def Grow.mono(G:Grow H H' M ras)(g:Same H' H2):Grow H H2 M ras:=(G.same.trans g,yt (λ_ _ r=>r.mono g) G.rows,G.fr,G.nd)
def Grow.not_mem(G:Grow H H' M ras)(C:H' p=none):p∉ras:=λhm=>by
 obtain⟨xs,_,h⟩:=jT G.rows hm;obtain⟨o,e⟩:=h.some;rw[C]at e;cases e
def Grow.snoc(G:Grow H H' M ras)(C:H' p=none)(U:Paired (RN H') xs vs):Grow H (upd H' p (.lst vs)) (M++[xs]) (ras++[p]):=by
 have g:=zc C (.lst vs);have G':=G.mono g;refine(G'.same,zy G'.rows (vs,za,zW g U),λr hr'=>?_,?_)
 ·rcases wq.mp hr' with h|h
  ·exact G.fr r h
  ·rw[wp.mp h];exact G.same.none C
 ·rw[GO];refine(G.nd,by simp,λa ha b hb=>?_);rw[wp.mp hb];exact λe=>G.not_mem C (by rw[← e];exact ha)
def Grow.done(G:Grow H H' M ras)(ht:H' top=none):NewT H (upd H' top (.lst (ras.map V.ref))) M top ras :=
 ((za,yt (λ_ _ r=>r.mono (zc ht _)) G.rows),G.same.none ht,G.fr,G.nd,G.not_mem ht)
def Grow.push(G:Grow H H' M ras){t p:Addr}{xs:List Nb}{vs zs zs':List V}(tn:H t=none)(ht:H' t=some (.lst zs))(tr:t∉ras)(g:Same H' H2)(C:H2 p=none)(U:Paired (RN H2) xs vs) :
  Grow H (upd (upd H2 p (.lst vs)) t (.lst zs')) (M++[xs]) (ras++[p])/\t∉ras++[p]:=by
 have G1:=(G.mono g).snoc C U;have ht2:= g _ _ ht;have tp:t≠p:=λe=>by rw[e,C]at ht2;cases ht2
 have ht3:upd H2 p (.lst vs) t=some (.lst zs):=by rw[zE tp];exact ht2
 have nm:t∉ras++[p]:=λh=>by
  rcases wq.mp h with h|h
  ·exact tr h
  ·exact tp (wp.mp h)
 refine((zQ G1.same tn,?_,G1.fr,G1.nd),nm);refine xR (zd G1.rows) λi x a h1 h2=>(yq G1.rows h1 h2).upd (λe=>nm ?_) ht3
 rw[← e];exact wg h2
end
def SclAt(H:Hp)(k:Int)(m:Nat)(xs:List Nb)(p:Addr):Prop:=∃ l ws b,H p=some (.tup [.ref l,.int b])/\IRow H ws l/\Scl k xs ws b/\Sm m b/\∀ w∈ws,Sm m w
def SclAt.mono(h:SclAt H k m xs p)(g:Same H H'):SclAt H' k m xs p :=
 let ⟨l,ws,b,h1,h2,r⟩:=h
 (l,ws,b,g _ _ h1,h2.mono g,r)
def kaa(n:Nat)(M:TB):TB:=(wQ n).map λj=>M.map λr=>r.getD j (.z 0)
def zF n M:(kaa n M).length=n:=by unfold kaa;simp
def xD(h:i<n):(kaa n M)[i]?=some (M.map λr=>r.getD i (.z 0)):=by unfold kaa;simp[h]
def zw(h:OkM k n M):OkM k M.length (kaa n M):=λr U=>by
 unfold kaa at U;obtain⟨j,hj,rfl⟩:=wm.mp U;rw[vA]at hj;refine(wc _,λx D=>?_);obtain⟨row,hrow,rfl⟩:=wm.mp D;obtain⟨h1,h2⟩:=h row hrow;have hj':j<row.length:=by omega
 rw[we,wa hj'];exact h2 _ (wj hj')
def kah(k:Int)(c:Nat)(M N:TB):TB:=M.map λr=>(kaa c N).map λcol=>ndot k r col
def imgM(k:Int)(M:TB)(xs:List Nb):List Nb:=M.map λr=>ndot k r xs
def tyes{A B:Hp->Prop}(h:A H):tTrue L H λb H3=>if b=true then A H3 else B H3:=by
 show if true=true then A H else B H
 exact iteT h
def gyes{A B:St->Hp->Prop}(h:A (L.set i (some x)) H):gName i x L H λσ2 H2=>tTrue σ2 H2 λb H3=>if b=true then A σ2 H3 else B σ2 H3:=by
 show if true=true then A (L.set i (some x)) H else B (L.set i (some x)) H
 exact iteT h
def Zc{K:bh}{te:TE}{σb:St}{t:Addr}{ras:List Addr}{M:TB}{H:Hp}{R:List V->Hp->Prop}(hT:kac H M t ras)(hz:M.length<sizeLine)
  (hte:∀(a:Addr)(us:List V)(H':Hp)(Q:VK),H' a=some (.lst us)->(∀ l,H' l=none->Q (.ref l) (upd H' l (.lst us)))->te (σb.set 0 (some (.ref a))) H' Q)
  (hd:∀(ras2:List Addr)(H':Hp),Grow H H' M ras2->R (ras2.map V.ref) H') :
  ∃ W:Nat->Nat->List V->Hp->Prop,(∃ m,W 0 m [] H)/\∀ i m ys H,W i m ys H ->
   ((Itl K t).stop i H/\ys.length<=sizeLine/\R ys H) \/
   ((Itl K t).go i H/\ys.length<sizeLine/\∀ x H',(Itl K t).yld i H x H'->gName 0 x σb H' λσ2 H2=>tTrue σ2 H2 λb H3=>if b=true then te σ2 H3 λy H4=>∃ m',m'<m/\W (i+1) m' (ys++[y]) H4 else ∃ m',m'<m/\W (i+1) m' ys H3):=by
 have hl:=zd hT.2;refine zo (xs:=ras.map V.ref) (λi ys H'=>∃ ras2,ys=ras2.map V.ref/\Grow H H' (M.take i) ras2) ([],V,Grow.nil H (Same.refl H)) ?_ ?_ ?_
 ·rintro i ys H' hi ⟨ras2,rfl,G⟩
  refine(SqL.of (G.same _ _ hT.1),?_);have:=zd G.rows;rw[wr]at this;rw[wc];omega
 ·rintro i v ys H' hv hi ⟨ras2,rfl,G⟩
  obtain⟨xs,a,D,ha,rfl,hrow⟩:=(hT.mono G.same).row hv;obtain⟨us,hu,pu,lu⟩:=hrow.len;refine gyes ?_;refine hte a us H' _ hu λl hl'=>?_
  refine nxt hi (ras2++[l],by rw[wx];rfl,?_);rw[zf D];exact G.snoc hl' pu
 ·rintro ys H' ⟨ras2,rfl,G⟩
  rw[wc,wo ()]at G;exact hd ras2 H' G
def jM(h:Rp H d v)(r:Rps H ds vs):Rps H (d::ds) (v::vs):=by
 simp only[Rps];exact(_,Z,h,r)
def zcM:Rps H [] []:=by simp only[Rps]
section
variable{K:bh}
def zeA(hK:X.K=K):SlR X (rSlL K):=hK ▸ zef
def zcr (hK:X.K=K):kau X (.builtin "len") (λxs H Q=>∃ p ys,xs=[.ref p]/\(SqL K H p ys\/SqT K H p ys)/\Q (.int ys.length) H):=hK ▸ Je
def zbm (hK:X.K=K):kau X (.type "list") (λxs H Q=>∃ p ys,xs=[.ref p]/\(SqL K H p ys\/SqT K H p ys)/\∀ l,H l=none->Q (.ref l) (upd H l (.lst ys))):=hK ▸ XO
def zcF (hK:X.K=K):kau X (.builtin "isinstance") (rIsi K):=hK ▸ zfu
def zcp (hc:X.calm=true) (hK:X.K=K):kau X (.builtin "sum") (λxs H Q=>∃ p ns,xs=[.ref p]/\SqL K H p ((ns:List Int).map V.int)/\Q (.int ns.sum) H):=hK ▸ zcO hc
def zb6(hK:X.K=K):OpR X (cQ .NotIn) (rIn K true):=hK ▸ JJ
def zhZ{pos:Pos}{k:Nat} n (hK:X.K=K) (hc:X.calm=true) (h:PGs X es t)
  (hn:(cE es X.env).length=n:=by rfl) (hst:(cE es X.env).findIdx? (·.1)=none:=by rfl):PG X (.Tuple es k pos) (gTup K n t):=hK ▸ zio hc h hn hst
def zhc{pos:Pos}{k:Nat} n (hK:X.K=K) (hc:X.calm=true) (h:PGs X es t)
  (hn:(cE es X.env).length=n:=by rfl) (hst:(cE es X.env).findIdx? (·.1)=none:=by rfl):PG X (.Tuple es k pos) (gLst K n t):=hK ▸ zim hc h hn hst
end
def IRs(H:Hp)(Ws:List (List Int))(t:Addr)(ras:List Addr):Prop:=H t=some (.lst (ras.map V.ref))/\Paired (IRow H) Ws ras
def jA(g:Same H H')(h:Paired (IRow H) Ws ras):Paired (IRow H') Ws ras:=yt (λ_ _ r=>r.mono g) h
def IRs.mono(h:IRs H Ws t ras)(g:Same H H'):IRs H' Ws t ras:=(g _ _ h.1,jA g h.2)
def IRs.row{i:Nat}(h:IRs H Ws t ras)(e:(ras.map V.ref)[i]?=some v):∃ ws a,Ws[i]?=some ws/\ras[i]?=some a/\v=.ref a/\IRow H ws a:=by
 rw[wk]at e;obtain⟨a,ha,rfl⟩:=wY.mp e;obtain⟨xs,D,r⟩:=zG h.2 ha;exact(xs,a,D,ha,V,r)
def IRow.ne{rs:List Addr}(h:IRow H ws a)(hw:ws≠[])(ht:H t=some (.lst (rs.map V.ref))):a≠t:=λe=>by
 subst e;unfold IRow at h;rw[ht]at h;cases ws with
 | nil=>exact hw rfl
 | cons w ws =>
  cases rs with
  | nil=>cases h
  | cons r rs=>cases h
def xA{rs:List Addr}(ht:H t=some (.lst (rs.map V.ref)))(h:Paired (IRow H) Ws ras)(hw:∀ ws∈Ws,ws≠[]):Paired (IRow (upd H t o)) Ws ras :=
 xR (zd h) λi ws a h1 h2=>by
  have r:=yq h h1 h2;show upd H t o a=_;rw[zE (r.ne (hw ws (wg h1)) ht)];exact r
def ZE(h:IRow H ws a)(hj:j<ws.length):atI (ws.map V.int) (0 +(j:Int))=some (.int (ws.getD j 0)):=by
 rw[vB];refine zk ?_;rw[wk,we,wa hj];rfl
def cut1 xs:cutV xs (some 1) none=xs.drop 1:=by
 unfold cutV;cases xs with
 | nil=>rfl
 | cons x xs =>
  rw[show(1:Int) =((1:Nat):Int)from rfl,HT.xN,HT.xt];simp
def SzS(b:Nat)(s:List (Nat×List Int)×List (List Int)):Prop:=(∀ p∈s.1,∀ w∈p.2,Sm b w)/\∀ r∈s.2,∀ w∈r,Sm b w
def Xm(J:kab k)(h7:61<=b)(h:∀ w∈ws,Sm b w):∀ w∈kam k ws,Sm b w:=λw hw=>by
 unfold kam at hw
 split at hw
 ·rename_i k0;obtain⟨x,_,rfl⟩:=wm.mp hw;exact zc9 (by have:=J.lt;omega) J.lt.2 h7
 ·split at hw
  ·exact h w hw
  ·obtain⟨x,D,rfl⟩:=wm.mp hw;exact Qh (h x D) (QV D)
def yT{ws:List Int}(h:∀ w∈ws,Sm b w) c:Sm b (ws.getD c 0):=by
 rcases wJ c ws.length with g|g
 ·rw[we,wa g];exact h _ (wj g)
 ·rw[we,wR g];exact yg b
def zfb(hl:row.length=lead.length)(h1:∀ w∈row,Sm b w)(h2:∀ w∈lead,Sm b w) c:∀ w∈mixed row lead c,Sm (2*b+1) w:=λw hw=>by
 obtain⟨j,hj,e⟩:=wy hw;have e2:=ZL hl c j;rw[we,wa hj]at e2;have e3:w=lead.getD c 0*row.getD j 0 - row.getD c 0*lead.getD j 0:=by rw[← e,← e2];rfl
 rw[e3];exact(((yT h2 c).mul (yT h1 j)).sub ((yT h1 c).mul (yT h2 j))).mono ()
def ZX(J:kab k)(h7:61<=b)(hl:row.length=lead.length)(h1:∀ w∈row,Sm b w)(h2:∀ w∈lead,Sm b w) c:∀ w∈kaf k lead c row,Sm (2*b+1) w:=by
 unfold kaf
 split
 ·exact λw hw=>(h1 w hw).mono ()
 ·exact Xm J () (zfb hl h1 h2 c)
def SzS.turn(J:kab k)(h7:61<=b)(f:Fine k n s)(h:SzS b s):SzS (2*b+1) (kao k c s):=by
 unfold kao;cases e:s.2.filter (λr=>decide (r.getD c 0≠0))with
 | nil=>exact(λp C w hw=>(h.1 p C w hw).mono (),λp C w hw=>(h.2 p C w hw).mono ())
 | cons l rest =>
  have sub:∀ r∈l::rest,r∈s.2:=λr U=>by rw[← e]at U;exact(vG.mp U).1
  have hl:=sub l wt;refine(λp C=>?_,λr U=>?_)
  ·rcases wq.mp C with C|C
   ·obtain⟨q,hq,rfl⟩:=wm.mp C;exact ZX J h7 (by rw[f.dl q hq,f.wl l hl]) (h.1 q hq) (h.2 l hl) c
   ·rw[wp.mp C];exact λw hw=>(h.2 l hl w hw).mono ()
  ·rcases wq.mp U with U|U
   ·exact λw hw=>(h.2 r (vG.mp U).1 w hw).mono ()
   ·obtain⟨q,hq,rfl⟩:=wm.mp U;have hq2:=sub q (ww _ hq);exact ZX J h7 (by rw[f.wl q hq2,f.wl l hl]) (h.2 q hq2) (h.2 l hl) c
def zhl(J:kab k)(h7:61<=b)(hl:∀ r∈rows,r.length=n)(h:∀ r∈rows,∀ w∈r,Sm b w):∀ c,SzS ((b+1)*2^c - 1) (swTo k rows c)
 | 0=>(λp C=>(nomatch C),λr U w hw=>by
   obtain⟨x,D,rfl⟩:=wm.mp U;exact(Xm J h7 (h x D) w hw).mono ())
 | c+1=>by
  have ih:=zhl J h7 hl h c;have h1:2^c ≥ 1:=Gd;have h2:(b+1)*1<=(b+1)*2^c:=vk _ h1;have e:(b+1)*2^(c+1) - 1=2 *((b+1)*2^c - 1)+1:=by
   rw[Gq];have:(b+1) *(2^c*2) =(b+1)*2^c*2:=by rw[Gv]
   omega
  rw[e];exact SzS.turn J () (Fine.to J.lt.1 hl c) ih
def jN{xs:List α}{ys:List β}(h:Paired R xs ys) i (r:R a b):Paired R (xs.set i a) (ys.set i b):=by
 refine xR (by rw[vv,vv];exact zd h) λj x y h1 h2=>?_
 by_cases e:i=j
 ·subst e;have l1:i<xs.length:=by have:=(wu.mp h1).1;rw[vv]at this;exact this
  have l2:i<ys.length:=by rw[← zd h];exact l1
  rw[uk l1]at h1;rw[uk l2]at h2;cases h1;cases h2;exact r
 ·rw[uh e]at h1 h2;exact yq h h1 h2
def Zh(hT:kac H M t ras)(C:H p=none):p∉ras:=λhm=>by
 obtain⟨xs,_,h⟩:=jT hT.2 hm;obtain⟨o,e⟩:=h.some;rw[C]at e;cases e
def xa(h:j<n):ixN n (j:Int)=some j:=by
 unfold ixN;rw[bj (),bj ()];simp
def zjy(J:kab k)(h:dB bE B x)(ox:x.ok k)(hD0:bE≠0)(hD:bE<2^m)(hB:B<2^m)(m7:61<=m):nsm m x:=by
 cases x with
 | q r =>
  obtain⟨h1,h2⟩:=dB.parts hD0 h;refine(uX h2 hB,?_);show((r.den:Nat):Int).natAbs<2^m;rw[ut];exact uX h1 hD
 | z i =>
  have:=J.lt;exact(ZC ox.2.1 ox.2.2 this.2).mono m7
def yG(ht:H t=some (.lst zs))(h:Paired (RN H) xs vs):Paired (RN (upd H t (.lst zs'))) xs vs:=yt (λ_ _ r=>r.upd ht) h
def natV(bA:List Nat):List V:=bA.map λ(l:Nat)=>V.int (l:Int)
def XL bA:(natV bA).all flatV=true:=by
 unfold natV;rw[List.all_map];exact uN.mpr λ_ _=>rfl
def zdD(j:Nat) bA:inV (.int (j:Int)) (natV bA)=decide (j∈bA):=by
 unfold inV natV;rw[List.any_map]
 by_cases h:j∈bA
 ·rw[br h,waD];exact(j,h,by show(j ==(j:Int))=true;simp)
 ·rw[bq h,wbc];intro x D;show ¬((x:Int) ==(j:Int))=true;intro e;have:x =(j:Int):=by simpa using e
  exact h (by rw[show j=x by omega];exact D)
def jb{t u:TS}{bE:Ends}{L:St}{H:Hp}(N:St->Hp->Prop)(hN:∀ L H,N L H->u bE L H)(h:(∀ L H,N L H->u bE L H)->t { bE with nx:=u bE } L H):tSeq t u bE L H:=h hN
def zeg(v:V):∀ n:Nat,(wK n [v]).flatten=wK n v
 | 0=>rfl
 | n+1=>by rw[vZ,uH,zeg v n,vZ];rfl
def JB{x:Nb}{v:V}(r:R x v):∀ n:Nat,Paired R (wK n x) (wK n v)
 | 0=>.nil
 | n+1=>by rw[vZ,vZ];exact .cons r (JB r n)
def Zu{k:Int}{F:Type}[bf F]{O:Kf k F}(J:kab k){n i l:Nat}{R:TB}{ls:List Nat}{r:List Nb}(h:IsR O n R ls)(U:R[i]?=some r)(hl:ls[i]?=some l) :
  l<n/\(∀ j,j<l->r[j]?=some (nnum k 0))/\r[l]?=some (nnum k 1):=by
 have o:=h.ok r (wg U);have C:=Qk (b:=nv O r) hl (by rw[wk,U];rfl);have ln:= h.rr.lt _ C;have val:∀ j,j<n->∀ y:Nb,y.ok k->nv O r j=O.to y->r[j]?=some y:=λj hj y oy e=>by
  have hj':j<r.length:=by rw[o.1];exact hj
  rw[zH O (wa hj')]at e;rw[wa hj',O.inj (o.2 _ (wj hj')) oy e]
 refine(ln,λj hj=>val j () _ (zm J 0) ?_,val l ln _ (zm J 1) ?_)
 ·rw[O.num0];exact h.rr.bef _ C j hj
 ·rw[O.num1];exact h.rr.one _ C
def num01(J:kab k):nnum k 1≠nnum k 0:=λe=>by
 obtain⟨F,_,_,⟨O⟩⟩:=zD J;have:=congrArg O.to e;rw[O.num0,O.num1]at this;exact Lean.Grind.Field.zero_ne_one this.symm
def zc4 r x y:ul (r.num*x.den*y.den+x.num*y.num*r.den) (r.den*x.den*y.den)=r+x*y:=by
 rw[wbi];have h1:r *((r.den:Int):Rat) =((r.num:Int):Rat):=kfRat.rat r rfl;have h2:x *((x.den:Int):Rat) =((x.num:Int):Rat):=kfRat.rat x rfl;have h3:y *((y.den:Int):Rat) =((y.num:Int):Rat):=kfRat.rat y rfl;have n1:((r.den:Int):Rat)≠0:=λz=>yV r (gk.mp z)
 have n2:((x.den:Int):Rat)≠0:=λz=>yV x (gk.mp z)
 have n3:((y.den:Int):Rat)≠0:=λz=>yV y (gk.mp z)
 rw[waI,vE,vE,vE,vE,vE,vE];generalize (r.den:Rat)=a at *;generalize (x.den:Rat)=b at *;generalize (y.den:Rat)=c at *;generalize (r.num:Rat)=a' at *;generalize (x.num:Rat)=b' at *;generalize (y.num:Rat)=c' at *
 grind
def zae(J:kab k)(m7:61<=m):∀(l:List (Nb×Nb)),(∀ p∈l,p.1.ok k/\p.2.ok k/\nsm m p.1/\nsm n p.2)->∀ s:Nb,s.ok k->∀ T,61<=T->nsm T s->nsm (T+l.length *(m+n+1)) (l.foldl (λs p=>nadd k s (nmul k p.1 p.2)) s)
 | [],_,s,_,T,_,h=>by simpa using h
 | p::l,hl,s,os,T,t7,h=>by
  obtain⟨o1,o2,s1,s2⟩:=hl p wt;have om:=zY J o1 o2;have step:nsm (T +(m+n+1)) (nadd k s (nmul k p.1 p.2)):=by
   obtain⟨x,y⟩:=p
   rcases xx o1 o2 with⟨k0,r,t,rfl,rfl⟩|⟨k0,i,j,rfl,rfl,_⟩
   ·cases s with
    | z i=>exact bw k0 os.1
    | q u =>
     show Sm _ (u+r*t).num/\Sm _ ((u+r*t).den:Int);rw[← zc4];have hb:= Ge (Ge (yV u) (yV r)) (yV t);have st:=((h.1.mul s1.2).mul s2.2).add (((s1.1.mul s2.1).mul h.2).mono ());have d:=yS hb st ((h.2.mul s1.2).mul s2.2);exact(d.1.mono (),d.2.mono ())
   ·cases s with
    | q u=>exact bw (show k=0 from os) k0
    | z u=>exact(zej J k0 () _:nsm (T +(m+n+1)) (.z _))
  have:=zae J m7 l (λq hq=>hl q (ww _ hq)) _ (yk J os om) _ () step;rw[wac];refine this.mono ?_;rw[um,gK];omega
def Yv(J:kab k)(m7:61<=m)(ox:OkR k xs)(oy:OkR k ys)(sx:∀ x∈xs,nsm m x)(sy:∀ y∈ys,nsm n y):nsm (61+xs.length *(m+n+1)) (ndot k xs ys):=by
 unfold ndot ndotF;have h:=zae J m7 (xs.zip ys) (λp C=>by
  obtain⟨a,b⟩:=p;obtain⟨h1,h2⟩:=vt C;exact(ox _ h1,oy _ h2,sx _ h1,sy _ h2)) (nnum k 0) (zm J 0) 61 () (yc J (yg 61) ())
 refine h.mono ?_;rw[uB];have:min xs.length ys.length *(m+n+1)<=xs.length *(m+n+1):=wH _ (uC _ _);omega
def jz{k:Int}(J:kab k)(k0:k≠0){x:Nb}(h:x.ok k):nsm 61 x:=by
 cases x with
 | q r=>exact bw (show k=0 from h) k0
 | z i=>exact ZC h.2.1 h.2.2 J.lt.2
structure ROk(k:Int)(n m:Nat)(xs:List Nb):Prop where
 len:xs.length=n
 ok:OkR k xs
 sz:∀ x∈xs,nsm m x
structure TOk(k:Int)(r c m:Nat)(M:TB):Prop where
 len:M.length=r
 ok:OkM k c M
 sz:∀ r∈M,∀ x∈r,nsm m x
def TOk.up(h:TOk k r c m M)(hm:m<=m'):TOk k r c m' M:=(h.len,h.ok,λr U x D=>(h.sz r U x D).mono hm)
def TOk.row(h:TOk k r c m M)(D:x∈M):ROk k c m x:=((h.ok x D).1,(h.ok x D).2,h.sz x D)
def ROk.app(h:ROk k n m xs)(h':ROk k n' m ys):ROk k (n+n') m (xs++ys) :=
 (by rw[wD,h.len,h'.len],λx D=>(wq.mp D).elim (h.ok x) (h'.ok x),λx D=>(wq.mp D).elim (h.sz x) (h'.sz x))
def Qw(J:kab k)(m7:61<=m)(hM:TOk k r c m M)(D:ROk k c m' x):ROk k r (61+c *(m+m'+1)) (imgM k M x):=by
 refine(by unfold imgM;rw[wc,hM.len],λy hy=>?_,λy hy=>?_)
 all_goals
  unfold imgM at hy;obtain⟨row,U,rfl⟩:=wm.mp hy
 ·exact yb J (hM.ok row U).2 D.ok
 ·have:=Yv J m7 (hM.ok row U).2 D.ok (hM.sz row U) D.sz;rw[(hM.ok row U).1]at this;exact this
def xS(hM:TOk k r c m M):TOk k c r m (kaa c M):=by
 refine(zF _ _,by have:=zw hM.ok;rw[hM.len]at this;exact this,λq hq x D=>?_);unfold kaa at hq;obtain⟨j,hj,rfl⟩:=wm.mp hq;rw[vA]at hj;obtain⟨row,hrow,rfl⟩:=wm.mp D;have hj':j<row.length:=by have:=(hM.ok row hrow).1;omega
 rw[we,wa hj'];exact hM.sz row hrow _ (wj hj')
def YD(J:kab k)(m7:61<=m)(hM:TOk k r b m M)(hN:TOk k b c m' N):TOk k r c (61+b *(m+m'+1)) (kah k c M N):=by
 have hT:=xS hN;refine(by unfold kah;rw[wc,hM.len],λq hq=>?_,λq hq x D=>?_)
 all_goals
  unfold kah at hq;obtain⟨row,U,rfl⟩:=wm.mp hq
 ·refine(by rw[wc,zF],λx D=>?_);obtain⟨col,hc,rfl⟩:=wm.mp D;exact yb J (hM.ok row U).2 (hT.ok col hc).2
 ·obtain⟨col,hc,rfl⟩:=wm.mp D;have:=Yv J m7 (hM.ok row U).2 (hT.ok col hc).2 (hM.sz row U) (hT.sz col hc);rw[(hM.ok row U).1]at this;exact this
structure MOk(k:Int)(n h s m:Nat)(A B bF:TB):Prop where
 a:TOk k n n m A
 b:TOk k n h m B
 c:TOk k s n m bF
structure kap(H:Hp)(A B bF:TB)(p ta tb tc:Addr)(ra rb rc:List Addr):Prop where
 tup:H p=some (.tup [.ref ta,.ref tb,.ref tc])
 a:kac H A ta ra
 b:kac H B tb rb
 c:kac H bF tc rc
def kap.mono(h:kap H A B bF p ta tb tc ra rb rc)(g:Same H H'):kap H' A B bF p ta tb tc ra rb rc:=(g _ _ h.tup,h.a.mono g,h.b.mono g,h.c.mono g)
def machD(A B bF:TB):PyData:=.tuple [tabD A,tabD B,tabD bF]
def zit(h:H a=some (.tup vs))(r:Rps H ds vs):Rp H (.tuple ds) (.ref a):=by
 simp only[Rp];exact(a,Z,h,r)
def kap.rp(h:kap H A B bF p ta tb tc ra rb rc):Rp H (machD A B bF) (.ref p):=zit h.tup (jM h.a.rp (jM h.b.rp (jM h.c.rp zcM)))
def zeh A B bF:(machD A B bF).canLay0=true:=by
 show((tabD A).canLay0 && ((tabD B).canLay0 && ((tabD bF).canLay0 && true)))=true;rw[qg,qg,qg];rfl
def Qx A B bF:(machD A B bF).depth<=4:=by
 show max (tabD A).depth (max (tabD B).depth (max (tabD bF).depth 0))+1<=4;have:=jq A;have:=jq B;have:=jq bF;omega
def zbD A B bF:PyData.eqv (machD A B bF) (machD A B bF)=true:=by
 show(PyData.eqv (tabD A) (tabD A) && (PyData.eqv (tabD B) (tabD B) && (PyData.eqv (tabD bF) (tabD bF) && true)))=true;rw[ZA,ZA,ZA];rfl
def augM(A B:TB):TB:=vK (·++·) A B
def jV{i:Nat}(hA:A[i]?=some a)(hB:B[i]?=some b):(augM A B)[i]?=some (a++b):=by unfold augM;rw[vL,hA,hB]
def QM(hA:TOk k r c m A)(hB:TOk k r c' m B):TOk k r (c+c') m (augM A B):=by
 have row:∀ q∈augM A B,ROk k (c+c') m q:=λq hq=>by
  obtain⟨i,hi⟩:=waP.mp hq;have hl:=(wu.mp hi).1;unfold augM at hl;rw[wO,hA.len,hB.len]at hl;have i1:i<A.length:=by rw[hA.len];omega
  have i2:i<B.length:=by rw[hB.len];omega
  rw[jV (wa i1) (wa i2)]at hi;cases hi;exact(hA.row (wj i1)).app (hB.row (wj i2))
 exact(by unfold augM;rw[wO,hA.len,hB.len];omega,λq hq=>((row q hq).len,(row q hq).ok),λq hq=>(row q hq).sz)
def nextM(k:Int)(A B:TB)(xs us:List Nb):List Nb:=imgM k (augM A B) (xs++us)
def Grow.pushR(G:Grow H H' M ras)(tn:H t=none)(ht:H' t=some (.lst zs))(tr:t∉ras)(g:Same H' H2)(C:H' p=none)(U:kag H2 xs p) :
  Grow H (upd H2 t (.lst zs')) (M++[xs]) (ras++[p])/\t∉ras++[p]:=by
 have ht2:H2 t=some (.lst zs):=g _ _ ht;have tp:t≠p:=λe=>by rw[e,C]at ht;cases ht
 have nm:t∉ras++[p]:=λh=>by
  rcases wq.mp h with h|h
  ·exact tr h
  ·exact tp (wp.mp h)
 have R:Paired (kag H2) (M++[xs]) (ras++[p]):=zy (G.mono g).rows U;refine((zQ (G.same.trans g) tn,?_,λr hr'=>?_,?_),nm)
 ·refine xR (zd R) λi x a h1 h2=>(yq R h1 h2).upd (λe=>nm ?_) ht2
  rw[← e];exact wg h2
 ·rcases wq.mp hr' with h|h
  ·exact G.fr r h
  ·rw[wp.mp h];exact G.same.none C
 ·rw[GO];refine(G.nd,by simp,λa ha b hb=>?_);rw[wp.mp hb];exact λe=>G.not_mem C (by rw[← e];exact ha)
def kac.upd(h:kac H M t ras)(ht:t≠p)(U:p∉ras)(C:H p=some (.lst zs)):kac (upd H p (.lst zs')) M t ras:=by
 refine(by rw[zE ht];exact h.1,xR (zd h.2) λi x a h1 h2=>(yq h.2 h1 h2).upd (λe=>U ?_) C);rw[← e];exact wg h2
def kac.rsome(h:kac H M t ras)(U:r∈ras):∃ o,H r=some o:=by
 obtain⟨xs,_,D⟩:=jT h.2 U;exact D.some
def adr(rs:List (List Addr))(i j:Nat):Option Addr:=(rs[i]?).bind (·[j]?)
def jB(h:i<rs.length):adr (rs++[ras]) i j=adr rs i j:=by unfold adr;rw[vm h]
def xJ:adr (rs++[ras]) rs.length j=ras[j]?:=by unfold adr;rw[vd (wv _),uD];rfl
def Xu(h:adr rs i j=some a):∃ ras,rs[i]?=some ras/\ras[j]?=some a:=by
 unfold adr at h;exact Option.bind_eq_some_iff.mp h
structure kai(H H':Hp)(Ms:List (TB))(ts:List Addr)(rs:List (List Addr)):Prop where
 same:Same H H'
 lt:ts.length=Ms.length
 lr:rs.length=Ms.length
 tabs:∀(i:Nat) M t ras,Ms[i]?=some M->ts[i]?=some t->rs[i]?=some ras->kac H' M t ras
 frt:∀ t∈ts,H t=none
 frr:∀ ras∈rs,∀ r∈ras,H r=none
 nd:ts.Nodup
 sep:∀ t∈ts,∀ ras∈rs,t∉ras
 inj:∀ i j i' j' a,adr rs i j=some a->adr rs i' j'=some a->i=i'/\j=j'
def kai.nil(g:Same H H'):kai H H' [] [] [] :=
 (g,V,V,λi M t ras h=>by simp at h,λt h=>(nomatch h),λr h=>(nomatch h),.nil,λt h=>(nomatch h),λi j i' j' a h=>by simp[adr]at h)
section
def kai.mono(G:kai H H' Ms ts rs)(g:Same H' H2):kai H H2 Ms ts rs:=(G.same.trans g,G.lt,G.lr,λi M t ras h1 h2 h3=>(G.tabs i M t ras h1 h2 h3).mono g,G.frt,G.frr,G.nd,G.sep,G.inj)
def kai.get(G:kai H H' Ms ts rs)(hi:i<Ms.length):∃ M t ras,Ms[i]?=some M/\ts[i]?=some t/\rs[i]?=some ras/\kac H' M t ras :=
 (_,_,_,wa hi,wa (by rw[G.lt];exact hi),wa (by rw[G.lr];exact hi),G.tabs i _ _ _ (wa hi) (wa (by rw[G.lt];exact hi)) (wa (by rw[G.lr];exact hi)))
def kai.tsome(G:kai H H' Ms ts rs)(h:t∈ts):∃ o,H' t=some o:=by
 obtain⟨i,hi,rfl⟩:=wy h;obtain⟨M,t',ras,h1,h2,h3,h4⟩:=G.get (by rw[← G.lt];exact hi);rw[wa hi]at h2;cases h2;exact(_,h4.1)
def kai.rsome(G:kai H H' Ms ts rs)(h:ras∈rs)(U:r∈ras):∃ o,H' r=some o:=by
 obtain⟨i,hi,rfl⟩:=wy h;obtain⟨M,t',ras',h1,h2,h3,h4⟩:=G.get (by rw[← G.lr];exact hi);rw[wa hi]at h3;cases h3;exact h4.rsome U
def kai.push(G:kai H H' Ms ts rs){M:TB}{t:Addr}{ras:List Addr}(g:Same H' H2)(N:NewT H' H2 M t ras):kai H H2 (Ms++[M]) (ts++[t]) (rs++[ras]):=by
 have ot:∀ x∈ts,x≠t:=λx D e=>by
  obtain⟨o,ho⟩:=G.tsome D;rw[e,N.ft]at ho;cases ho
 have olds:∀ x∈rs,∀ r∈x,r∉ras:=λx D r U h=>by
  obtain⟨o,ho⟩:=G.rsome D U;rw[N.fr r h]at ho;cases ho
 refine(G.same.trans g,by simp[G.lt],by simp[G.lr],λi M' t' ras' h1 h2 h3=>?_,λx D=>?_,λx D r U=>?_,?_,λx D y hy=>?_,λi j i' j' a h1 h2=>?_)
 ·rcases wJ i Ms.length with h|h
  ·rw[vm h]at h1;rw[vm (by rw[G.lt];exact h)]at h2;rw[vm (by rw[G.lr];exact h)]at h3;exact(G.tabs i M' t' ras' h1 h2 h3).mono g
  ·have e:i=Ms.length:=by
    have:=(wu.mp h1).1;simp at this;omega
   subst e;rw[vd (wv _),uD]at h1;rw[← G.lt,vd (wv _),uD]at h2;rw[← G.lr,vd (wv _),uD]at h3;cases h1;cases h2;cases h3;exact N.tab
 ·rcases wq.mp D with h|h
  ·exact G.frt x h
  ·rw[wp.mp h];exact G.same.none N.ft
 ·rcases wq.mp D with h|h
  ·exact G.frr x h r U
  ·rw[wp.mp h]at U;exact G.same.none (N.fr r U)
 ·rw[GO];exact(G.nd,by simp,λx D y hy=>by rw[wp.mp hy];exact ot x D)
 ·rcases wq.mp D with h|h
  ·rcases wq.mp hy with h'|h'
   ·exact G.sep x h y h'
   ·rw[wp.mp h'];intro hm;obtain⟨o,ho⟩:=G.tsome h;rw[N.fr x hm]at ho;cases ho
  ·rw[wp.mp h]
   rcases wq.mp hy with h'|h'
   ·intro hm;obtain⟨o,ho⟩:=G.rsome h' hm;rw[N.ft]at ho;cases ho
   ·rw[wp.mp h'];exact N.nt
 ·have lim:∀ i j,adr (rs++[ras]) i j=some a->i<=rs.length:=λi j h=>by
   obtain⟨x,D,_⟩:=Xu h;have:=(wu.mp D).1;simp at this;omega
  have mem:∀ i j,i<rs.length->adr (rs++[ras]) i j=some a->∃ x∈rs,a∈x:=λi j hi h=>by
   rw[jB hi]at h;obtain⟨x,D,hx'⟩:=Xu h;exact(x,wg D,wg hx')
  rcases wJ i rs.length with h|h <;> rcases wJ i' rs.length with h'|h'
  ·rw[jB h]at h1;rw[jB h']at h2;exact G.inj i j i' j' a h1 h2
  ·obtain⟨x,D,ha⟩:=mem i j h h1;have e:= waf (lim i' j' h2) h';rw[e,xJ]at h2;exact bw (wg h2) (olds x D a ha)
  ·obtain⟨x,D,ha⟩:=mem i' j' h' h2;have e:= waf (lim i j h1) h;rw[e,xJ]at h1;exact bw (wg h1) (olds x D a ha)
  ·have e:= waf (lim i j h1) h;have e':= waf (lim i' j' h2) h';rw[e,xJ]at h1;rw[e',xJ]at h2;exact((),(Gk (wu.mp h1).1 N.nd).mp (h1.trans h2.symm))
def kai.updAt(G:kai H H' Ms ts rs){p:Addr}{zs zs':List V}(C:H p=none)(h:H' p=some (.lst zs))(nt:p∉ts)(nr:∀ ras∈rs,p∉ras):kai H (upd H' p (.lst zs')) Ms ts rs :=
 (zQ G.same C,G.lt,G.lr,λi M t ras h1 h2 h3=>(G.tabs i M t ras h1 h2 h3).upd (λe=>nt (by rw[← e];exact wg h2)) (nr ras (wg h3)) h,G.frt,G.frr,G.nd,G.sep,G.inj)
end
def powX(k:Int)(A:TB)(x:List Nb):Nat->List Nb
 | 0=>x
 | i+1=>imgM k A (powX k A x i)
def szP(n z:Nat):Nat->Nat
 | 0=>z
 | i+1=>61+n *(z+szP n z i+1)
def zia(h:61<=z):∀ i,61<=szP n z i
 | 0=>h
 | i+1=>by simp only[szP];omega
def QN(J:kab k)(z7:61<=z)(hA:TOk k n n z A)(D:ROk k n z x):∀ i,ROk k n (szP n z i) (powX k A x i)
 | 0=>D
 | i+1=>Qw J z7 hA (QN J z7 hA D i)
def zgf(J:kab k)(h7:61<=b)(hl:∀ r∈rows,r.length=n)(h:∀ r∈rows,∀ w∈r,Sm b w):∀ c,SzS ((b+1)*2^(swTo k rows c).1.length - 1) (swTo k rows c)
 | 0=>(λp C=>(nomatch C),λr U w hw=>by
   obtain⟨x,D,rfl⟩:=wm.mp U;exact(Xm J h7 (h x D) w hw).mono (by show b<=(b+1)*2^0 - 1;omega))
 | c+1=>by
  have ih:=zgf J h7 hl h c;have fine:=Fine.to J.lt.1 hl c;show SzS ((b+1)*2^(kao k c (swTo k rows c)).1.length - 1) (kao k c (swTo k rows c));generalize swTo k rows c=s at ih fine;have h1:2^s.1.length ≥ 1:=Gd;have h2:(b+1)*1<=(b+1)*2^s.1.length:=vk _ h1;cases e:s.2.filter (λr=>decide (r.getD c 0≠0))with
  | nil =>
   have t:kao k c s=s:=by unfold kao;simp only[e]
   rw[t];exact ih
  | cons l rest =>
   have t:=SzS.turn (c:=c) J (show 61<=(b+1)*2^s.1.length - 1 by omega) fine ih;have len:(kao k c s).1.length=s.1.length+1:=by
    unfold kao;simp only[e];rw[wD,wc];rfl
   rw[len];have e2:(b+1)*2^(s.1.length+1) - 1=2 *((b+1)*2^s.1.length - 1)+1:=by
    rw[Gq];have:(b+1) *(2^s.1.length*2) =(b+1)*2^s.1.length*2:=by rw[Gv]
    omega
   rw[e2];exact t
def jQ{k:Int}(J:kab k){n B:Nat}{M R:TB}{ls:List Nat}(h7:61<=B)(oM:OkM k n M)(hM:kal B M)(red:∀(F:Type) [bf F] (O:Kf k F),kay O n M R ls):kal ((B+1)*2^R.length) R:=by
 obtain⟨F0,i0,d0,⟨φ0⟩⟩:=zD J;have:∃ Ws:List (List Int),Ws.length=M.length/\(∀(i:Nat) r ws,M[i]?=some r->Ws[i]?=some ws->∃ b,Scl k r ws b)/\∀ ws∈Ws,ws.length=n/\∀ w∈ws,Sm B w:=by
  clear red
  induction M with
  | nil=>exact([],V,λi r ws h=>by simp at h,λws h=>(nomatch h))
  | cons m M ih =>
   obtain⟨Ws,l,h,hs⟩:=ih (λr U=>oM r (ww _ U)) (λr U=>hM r (ww _ U));have om:=oM m wt;obtain⟨bE,D0,D1,hD⟩:=hM m wt
   by_cases k0:k=0
   ·have dv:∀ x∈m,dvB (bE:Int) x:=λx D=>by
     cases x with
     | q r=>exact dB.den_dvd D0 (hD _ D)
     | z i=>trivial
    have sc:Scl k m (m.map (scW (bE:Int))) (bE:Int):=(V,(),λz=>bw k0 z,dv);refine(m.map (scW (bE:Int))::Ws,by simp[l],λi r ws h1 h2=>?_,λws hw=>?_)
    ·cases i with
     | zero=>simp at h1 h2;subst h1 h2;exact(_,sc)
     | succ i=>exact h i r ws (by simpa using h1) (by simpa using h2)
    ·rcases wG.mp hw with e|hw
     ·rw[e];refine(by rw[wc];exact om.1,λw hw=>?_);obtain⟨x,D,rfl⟩:=wm.mp hw;exact zdY J (om.2 x D) h7 D0 (hD x D) () (dv x D) λ_=>wbG _
     ·exact hs ws hw
   ·have dv:∀ x∈m,dvB 1 x:=λx D=>by
     cases x with
     | q r=>exact bw (om.2 _ D) k0
     | z i=>trivial
    have sc:Scl k m (m.map (scW 1)) 1:=(V,(),λ_=>rfl,dv);refine(m.map (scW 1)::Ws,by simp[l],λi r ws h1 h2=>?_,λws hw=>?_)
    ·cases i with
     | zero=>simp at h1 h2;subst h1 h2;exact(_,sc)
     | succ i=>exact h i r ws (by simpa using h1) (by simpa using h2)
    ·rcases wG.mp hw with e|hw
     ·rw[e];refine(by rw[wc];exact om.1,λw hw=>?_);obtain⟨x,D,rfl⟩:=wm.mp hw;exact zdY J (om.2 x D) h7 D0 (hD x D) () (dv x D) λz=>bw z k0
     ·exact hs ws hw
 obtain⟨Ws,lW,scl,hs⟩:=this;have r2:=qx φ0 J oM lW scl;have eR:=(red F0 φ0).unique r2 (λv q=>q) (λv q=>q);have wl:= λr U=>(hs r U).1
 have szs:=zgf J h7 wl (λr U=>(hs r U).2) n;have fine:=Fine.to J.lt.1 wl n;have len:R.length =(swTo k Ws n).1.length:=by rw[eR];unfold redM;rw[wc]
 rw[len];intro r U;rw[eR]at U;unfold redM at U;obtain⟨p,C,rfl⟩:=wm.mp U;obtain⟨h1,h2,h3,h4⟩:=jj φ0 J.lt.1 wl C;have nn:= Xg φ0 λz=>h3 ((Zq φ0 (fine.df p C) p.1).mp z)
 have b:=zbs J (λw hw=>szs.1 p C w hw) () h3 nn;exact b.mono ()
def QD{k:Int}{n bF:Nat}(hW:kal bF W):∃ bE:Nat,bE≠0/\bE<=2^(W.length*bF)/\∀ r∈W,La.rowD bE (W.length*bF) r:=by
 induction W with
 | nil=>exact(1,(),by simp,λr U=>(nomatch U))
 | cons w W ih =>
  obtain⟨bE,d0,d1,hd⟩:=ih λr U=>hW r (ww _ U)
  obtain⟨E,e0,e1,he⟩:=hW w wt;have ep:2^((w::W).length*bF)=2^(W.length*bF)*2^bF:=by rw[← uF,um,gK,uW]
  refine(E*bE,waL e0 d0,?_,λr U x D=>?_)
  ·rw[ep,uQ E bE];exact vN d1 ()
  ·rcases wG.mp U with e|U
   ·rw[e]at D;have h:=dB.up (he x D) bE (2^(W.length*bF)) d1;rw[uQ bE E]at h;refine h.mono ?_;rw[ep,GW,gW];omega
   ·have h:=dB.up (hd r U x D) E (2^bF) ();refine h.mono ?_;rw[ep,GW,gW,uQ (2^bF)];omega
def zic(J:kab k)(h:dB bE B y)(oy:y.ok k):dB bE B (nsub k (nnum k 0) y):=by
 cases y with
 | q r =>
  have k0:= oy;subst k0;obtain⟨a,ea,ha⟩:=h;refine(-a,?_,());rw[waK,← ea]
  grind
 | z i =>
  have e:nnum k 0=.z ((0:Int).fmod k):=by unfold nnum;rw[bn oy.1]
  rw[e]
  trivial
def zdW(J:kab k)(hW:kal bF W)(oW:OkM k n W)(hl:lw.length=W.length)(c7:61<=bF)(wn:W.length<n)(hf:f<n)(g:AgR k n W lw f xs):rowB (n*bF) xs:=by
 obtain⟨bE,d0,d1,hd⟩:=QD (k:=k) (n:=n) hW;have le1:W.length*bF+bF<=n*bF:=by
  have:(W.length+1)*bF<=n*bF:=wH _ ();rw[gK]at this;omega
 have lt:2^(W.length*bF)<2^(n*bF):=Nat.pow_lt_pow_right () ();refine(bE,d0,(),λx D=>?_);obtain⟨j,hj,e⟩:=wy D;have hx':xs[j]?=some x:=by rw[wa hj,e]
 have hjn:j<n:=by rw[← g.len];exact hj
 by_cases ef:j=f
 ·subst ef;rw[g.one]at hx';cases hx';refine dB.num ?_;show 1*bE<=_;omega
 ·by_cases hm:j∈lw
  ·obtain⟨i,hi,ei⟩:=wy hm;have h2:i<W.length:=by omega
   have ow:=oW _ (wj h2);have hf':f<W[i].length:=by rw[ow.1];exact hf
   have:=g.at_ i j W[i] W[i][f] (by rw[wa hi,ei]) (wa h2) (wa hf');rw[hx']at this;cases this;exact(zic J (hd _ (wj h2) _ (wj hf')) (ow.2 _ (wj hf'))).mono ()
  ·rw[g.off j hjn ef hm]at hx';cases hx';exact dB.num (by simp)
def IsRa(k:Int)(n:Nat)(W:TB)(lw:List Nat):Prop:=∀(F:Type) [bf F] (O:Kf k F),IsR O n W lw
def ye(J:kab k)(h:IsRa k n W lw):OkM k n W/\lw.length=W.length/\lw.Pairwise (·<·)/\∀ l∈lw,l<n:=by
 obtain⟨F,_,_,⟨O⟩⟩:=zD J;refine((h F O).ok,(h F O).len,(h F O).inc,λl hl=>?_);obtain⟨i,r,h1,h2⟩:=(h F O).lead_of hl;exact(h F O).rr.lt _ ((h F O).get h1 h2)
def qp:∀ {l:List Nat} {m n:Nat},l.Pairwise (·<·)->(∀ x∈l,m<=x/\x<n)->m<=n->l.length<=n - m
 | [],_,_,_,_,_=>vD _
 | x::l,m,n,pw,h,mn=>by
  rw[uY]at pw;have D:=h x wt;have:=qp pw.2 (λy hy=>(pw.1 y hy,(h y (ww _ hy)).2)) ();rw[um];omega
def yC(J:kab k)(h:IsRa k n W lw):W.length<=n:=by
 obtain⟨_,e,pw,lt⟩:=ye J h;have:=qp pw (λx D=>(vD _,lt x D)) (vD _);omega
def yF(h:∀ F [bf F] (O:Kf k F),kay O n M R ls):IsRa k n R ls:=λF _ O=>(h F O).toIsR
def ze7(J:kab k)(h:IsRa k n W lw)(h':IsRa k n W' lw')(e:∀ F [bf F] (O:Kf k F) v,Rm O W v↔Rm O W' v):W=W':=by
 obtain⟨F,_,_,⟨O⟩⟩:=zD J;exact(h F O).ext (h' F O) (e F O)
def kak(n:Nat)(ls:List Nat):List Nat:=(wQ n).filter λf=>!decide (f∈ls)
def jr n ls:(kak n ls).Pairwise (·<·):=(Gf).filter _
def yw n ls f:f∈kak n ls↔f<n/\f∉ls:=by
 unfold kak;rw[vG,vA];simp
def jP(J:kab k)(h:IsRa k n W lw):(kak n lw).length+W.length=n:=by
 obtain⟨_,e,pw,lt⟩:=ye J h;have h1:=jc (λx=>decide (x∈lw)) (wQ n);have h2:(wQ n).filter (λx=>decide (x∈lw))=lw:=xL ((Gf).filter _) pw (λp C=>by simpa using (vG.mp C).2) (λp C=>vG.mpr (vA.mpr (lt p C),by simpa using C));rw[h2,ve]at h1;unfold kak;omega
def yA{l:List Nat} p (h:l[i]?=some x):(l.take (i+1)).filter p =(l.take i).filter p ++(if p x=true then [x] else []):=yz p h
def Grow.snocR(G:Grow H H1 M ras)(g:Same H1 H2)(U:kag H2 xs p)(C:H1 p=none):Grow H H2 (M++[xs]) (ras++[p]):=by
 have G':=G.mono g;refine(G'.same,zy G'.rows U,λr hr'=>?_,?_)
 ·rcases wq.mp hr' with h|h
  ·exact G.fr r h
  ·rw[wp.mp h];exact G.same.none C
 ·rw[GO];refine(G.nd,by simp,λa ha b hb e=>G.not_mem C ?_);rw[← wp.mp hb,← e];exact ha
structure AgI(k:Int)(n:Nat)(R:TB)(ls:List Nat)(f i:Nat)(xs:List Nb):Prop where
 len:xs.length=n
 ok:OkR k xs
 one:xs[f]?=some (nnum k 1)
 at_:∀(t l:Nat)(r:List Nb)(y:Nb),t<i->ls[t]?=some l->R[t]?=some r->r[f]?=some y->xs[l]?=some (nsub k (nnum k 0) y)
 off:∀ j,j<n->j≠f->j∉ls.take i->xs[j]?=some (nnum k 0)
def AgI.start(J:kab k)(hf:f<n) R ls:AgI k n R ls f 0 ((wK n (nnum k 0)).set f (nnum k 1)):=by
 refine(by rw[vv,vf],λx D=>?_,uk (by rw[vf];exact hf),λt l r y h=>bw h (ue t),λj hj ne _=>?_)
 ·rcases zL D with e|e
  ·rw[e];exact zm J 1
  ·rw[vQ e];exact zm J 0
 ·rw[uh (Ne.symm ne),uy,bj hj]
def AgI.step(J:kab k)(T:AgI k n R ls f i xs)(nd:ls.Nodup)(nf:f∉ls)(hl:ls[i]?=some l)(U:R[i]?=some r)(hy:r[f]?=some y)(oy:y.ok k)(ln:l<n):AgI k n R ls f (i+1) (xs.set l (nsub k (nnum k 0) y)):=by
 have lf:l≠f:=λe=>nf (by rw[← e];exact wg hl)
 refine(by rw[vv];exact T.len,λx D=>?_,by rw[uh lf];exact T.one,λt l' r' y' ht hl' hr' hy'=>?_,λj hj ne nm=>?_)
 ·rcases zL D with e|e
  ·rw[e];exact jf J.lt.1 (zm J 0) oy
  ·exact T.ok x e
 ·by_cases e:t=i
  ·subst e;rw[hl]at hl';cases hl';rw[U]at hr';cases hr';rw[hy]at hy';cases hy';rw[uk (by rw[T.len];exact ln)]
  ·have ne:l'≠l:=λz=>e ((Gk (wu.mp hl').1 nd).mp (by rw[hl',hl,z]))
   rw[uh (Ne.symm ne)];exact T.at_ t l' r' y' () hl' hr' hy'
 ·rw[zf hl]at nm;have n1:= λh=>nm (vh _ h)
  have n2:j≠l:=λh=>nm (wL _ (by rw[h];exact wp.mpr rfl))
  rw[uh (Ne.symm n2)];exact T.off j hj ne n1
def AgI.done(T:AgI k n R ls f R.length xs)(hl:ls.length=R.length):AgR k n R ls f xs :=
 (T.len,T.ok,T.one,λi l r y h1 h2 h3=>T.at_ i l r y (wu.mp h2).1 h1 h2 h3,λj hj ne nm=>T.off j hj ne (by rw[wo ()];exact nm))
def qZ(J:kab k)(oW:OkM k n W)(h:kal bF W)(c7:61<=bF):∀ r∈W,∀ x∈r,nsm bF x:=λr U x D=>by
 obtain⟨bE,d0,d1,hd⟩:=h r U;have:0<2^bF:=GZ ();exact zjy J (hd x D) ((oW r U).2 x D) d0 d1 () c7
def kas(k:Int)(W M:TB):Prop:=∀ F [bf F] (O:Kf k F) v,Rm O W v↔Rm O M v
def Gen(k:Int)(n g:Nat)(W:TB):Prop:=∃ M,OkM k n M/\kal g M/\kas k W M
def YX(h:IsRa k n W lw)(e:kas k W M):∀ F [bf F] (O:Kf k F),kay O n M W lw:=λF _ O=>{ (h F O)with to:=λv q=>(e F O v).mpr q,fro:=λv q=>(e F O v).mp q }
def zaK(J:kab k)(h:IsRa k n W lw)(g7:61<=g)(hg:Gen k n g W):kal ((g+1)*2^W.length) W:=by
 obtain⟨M,oM,cM,e⟩:=hg;exact jQ J g7 oM cM (YX h e)
def Xn(J:kab k)(h:IsRa k n W lw)(g7:61<=g)(hg:Gen k n g W):kal ((g+1)*2^n) W :=
 (zaK J h g7 hg).mono (vk _ (vI () (yC J h)))
def zbP(J:kab k)(oM:OkM k n M)(red:∀ F [bf F] (O:Kf k F),kay O n M R ls):R.length<=M.length:=by
 obtain⟨F,_,_,⟨O⟩⟩:=zD J;have:∃ Ws:List (List Int),Ws.length=M.length/\∀(i:Nat) r ws,M[i]?=some r->Ws[i]?=some ws->∃ b,Scl k r ws b:=by
  clear red
  induction M with
  | nil=>exact([],V,λi r ws h=>by simp at h)
  | cons m M ih =>
   obtain⟨Ws,l,h⟩:=ih λr U=>oM r (ww _ U)
   obtain⟨b,hb⟩:=xE J (oM m wt).2;refine(m.map (scW b)::Ws,by simp[l],λi r ws h1 h2=>?_);cases i with
   | zero=>simp at h1 h2;subst h1 h2;exact(b,hb)
   | succ i=>exact h i r ws (by simpa using h1) (by simpa using h2)
 obtain⟨Ws,l,h⟩:=this;have eR:=(red F O).unique (qx O J oM l h) (λv q=>q) (λv q=>q);have:=jm (k:=k) Ws n;rw[eR];unfold redM;rw[wc];omega
def agL(k:Int)(n:Nat)(W:TB)(lw:List Nat)(f:Nat):List Nb:=(wQ n).map λj=>if j=f then nnum k 1 else if j∈lw then nsub k (nnum k 0) ((W.getD (lw.idxOf j) []).getD f (nnum k 0))else nnum k 0
def JS(J:kab k)(h:IsRa k n W lw)(hf:f<n)(nf:f∉lw):AgR k n W lw f (agL k n W lw f):=by
 obtain⟨oW,ll,inc,lt⟩:=ye J h;have nd:= inc.imp λh=>vp h
 have get:∀ j,j<n->(agL k n W lw f)[j]?=some (if j=f then nnum k 1 else if j∈lw then nsub k (nnum k 0) ((W.getD (lw.idxOf j) []).getD f (nnum k 0))else nnum k 0):=λj hj=>by
  unfold agL;rw[wk,wZ hj];rfl
 refine(by unfold agL;simp,λx D=>?_,by rw[get f hf,bj rfl],λi l r y hl U hy=>?_,λj hj ne nm=>by rw[get j hj,bn ne,bn nm])
 ·unfold agL at D;obtain⟨j,_,rfl⟩:=wm.mp D
  split
  ·exact zm J 1
  ·split
   ·rename_i hm;refine jf J.lt.1 (zm J 0) ?_;have hi:lw.idxOf j<W.length:=by rw[← ll];exact uT hm
    rw[we (l:=W),wa hi];show((W[lw.idxOf j]).getD f (nnum k 0)).ok k;rw[we];have o:=oW _ (wj hi);rw[wa (by rw[o.1];exact hf)];exact o.2 _ (wj _)
   ·exact zm J 0
 ·have lf:l≠f:=λe=>nf (by rw[← e];exact wg hl)
  have hm:=wg hl;have ei:lw.idxOf l=i:=by
   have h1:lw[lw.idxOf l]?=some l:=by rw[wa (uT hm)];simp
   exact(Gk (uT hm) nd).mp (h1.trans hl.symm)
  rw[get l (lt l hm),bn lf,bj hm,ei,we (l:=W),U];show some (nsub k (nnum k 0) (r.getD f (nnum k 0)))=_;rw[we,hy];rfl
def zd0(J:kab k)(n1:1<=n)(h:IsRa k n W lw)(g7:61<=g)(hg:Gen k n g W)(hA:IsRa k n A la)(e:∀ F [bf F] (O:Kf k F) v,Rm O A v↔perp n (Rm O W) v):kal ((n *(g+1)+1)*2^n) A:=by
 obtain⟨oW,ll,inc,lt⟩:=ye J h;have cW:=zaK J h g7 hg;have fl:=jP J h;have p1:1<=2^W.length:=Gd;have c7:61<=(g+1)*2^W.length:=by have:(g+1)*1<=(g+1)*2^W.length:=vk _ p1;omega
 let A0:=(kak n lw).map (agL k n W lw)
 have ag:∀(i f:Nat)(xs:List Nb),(kak n lw)[i]?=some f->A0[i]?=some xs->AgR k n W lw f xs:=λi f xs h1 h2=>by
  have h2':= h2;rw[wk,h1]at h2';have:agL k n W lw f=xs:=Option.some.inj h2';rw[← this];have:=(yw n lw f).mp (wg h1);exact JS J h this.1 this.2
 have oA0:OkM k n A0:=λr U=>by
  obtain⟨f,hf,e⟩:=wm.mp U;have:=(yw n lw f).mp hf;rw[← e];exact((JS J h this.1 this.2).len,(JS J h this.1 this.2).ok)
 have cA0:kal (n *((g+1)*2^W.length)) A0:=λr U=>by
  obtain⟨f,hf,e⟩:=wm.mp U;have hf':=(yw n lw f).mp hf;have:0 <(kak n lw).length:=waM hf;rw[← e];exact zdW J cW oW ll c7 () hf'.1 (JS J h hf'.1 hf'.2)
 have same:kas k A A0:=λF _ O v=>(e F O v).trans (xl (h F O) J (jr n lw) (yw n lw) (by show _ =((kak n lw).map (agL k n W lw)).length;rw[wc]) ag v).symm
 have red:=YX hA same;have n7:61<=n *((g+1)*2^W.length):=by have:1 *((g+1)*2^W.length)<=n *((g+1)*2^W.length):=wH _ n1;omega
 have sz:=jQ J n7 oA0 cA0 red;have lA:=zbP J oA0 red;have lA0:A0.length =(kak n lw).length:=by show((kak n lw).map (agL k n W lw)).length=_;rw[wc]
 refine sz.mono ?_;have h1:n *((g+1)*2^W.length)+1<=(n *(g+1)+1)*2^W.length:=by
  have:(n *(g+1)+1)*2^W.length=n *((g+1)*2^W.length)+2^W.length:=by
   rw[gK (n *(g+1)) 1,uW,Gv]
  omega
 have h2:2^A.length<=2^(n - W.length):=vI () ();have h3:(n *((g+1)*2^W.length)+1)*2^A.length<=(n *(g+1)+1)*2^W.length*2^(n - W.length):=vN h1 h2;have h4:(n *(g+1)+1)*2^W.length*2^(n - W.length) =(n *(g+1)+1)*2^n:=by
  rw[Gv,← uF];have:=yC J h;rw[show W.length +(n - W.length)=n by omega]
 omega
set_option maxHeartbeats 4000000
def RdR(k:Int)(n:Nat)(W:TB):Prop:=∃ lw,IsRa k n W lw
def ZQ:∀(xs:List Nb),(∀ x∈xs,nsm m x)->∃ bE:Nat,bE≠0/\bE<=2^(xs.length*m)/\∀ r:Rat,Nb.q r∈xs->r.den ∣ bE
 | [],_=>(1,(),by simp,λr h=>(nomatch h))
 | x::xs,h=>by
  obtain⟨bE,d0,dl,dd⟩:=ZQ xs λy hy=>h y (ww _ hy)
  have pm:2^((x::xs).length*m)=2^(xs.length*m)*2^m:=by rw[um,gK,uW,uF]
  cases x with
  | z i =>
   refine(bE,d0,?_,λr U=>?_)
   ·rw[pm];exact wE dl (uA _ (Gy m))
   ·rcases wG.mp U with e|e
    ·cases e
    ·exact dd r e
  | q s =>
   have hs:s.den<2^m:=by
    have:=(h (.q s) wt).2;unfold Sm at this;omega
   refine(bE*s.den,waL d0 s.den_nz,?_,λr U=>?_)
   ·rw[pm];exact vN dl (uw hs)
   ·rcases wG.mp U with e|e
    ·cases e;exact Nat.dvd_mul_left _ _
    ·exact GU (dd r e) (wbk _ _)
def qQ(m1:1<=m)(h:ROk k n m xs):rowB ((n+1)*m) xs:=by
 obtain⟨bE,d0,dl,dd⟩:=ZQ xs h.sz;rw[h.len]at dl;have pm:2^((n+1)*m)=2^(n*m)*2^m:=by rw[gK,uW,uF]
 have m2:= vI (n:=2) () m1;refine(bE,d0,?_,λx D=>?_)
 ·rw[pm]
  calc bE<=2^(n*m):=dl
   _<2^(n*m)*2:=by omega
   _<=2^(n*m)*2^m:=vk _ m2
 ·cases x with
  | z i=>trivial
  | q r =>
   obtain⟨c,hc⟩:=dd r D;have sr:=h.sz _ D;refine(c*r.num,?_,?_)
   ·have e1:((bE:Int):Rat) =((r.den:Int):Rat) *((c:Int):Rat):=by rw[hc,gP,vE]
    have e2:r *((r.den:Int):Rat) =((r.num:Int):Rat):=kfRat.rat r rfl;rw[e1,vE,← e2]
    grind
   ·rw[vS];have hn:r.num.natAbs<2^m:=sr.1;have hc':c<=bE:=by
     rw[hc];exact GR _ r.den_pos
    have:((c:Int)).natAbs*r.num.natAbs<=2^(n*m) *(2^m - 1):=vN () ();have e:2^(n*m) *(2^m - 1)=2^(n*m)*2^m - 2^(n*m):=by rw[GW,gW]
    rw[pm];omega
def zdQ(m1:1<=m)(h:TOk k r n m M):kal ((n+1)*m) M:=λx D=>qQ m1 (h.row D)
def qu(k0:k≠0)(oM:OkM k n M)(b1:1<=B):kal B M:=λr U=>(1,(),vw (by decide:1<2^1) (vI () b1),λx D=>by
 have:=(oM r U).2 x D;cases x with
 | z i=>trivial
 | q s=>exact bw (show k=0 from this) k0)
def Fit(k:Int)(n:Nat):Prop:=1<=n/\(n<=3\/(k≠0/\n<=10))
def Fit.n10(h:Fit k n):n<=10:=by rcases h.2 with h|h <;> omega
def jF:∀ t r,r∈kry k A B t->∃ b∈B,∃ i,i<=t/\r=powX k A b i
 | 0,r,U=>(r,U,0,wv _,V)
 | t+1,r,U=>by
  rcases wq.mp U with h|h
  ·exact(r,h,0,vD _,V)
  ·obtain⟨x,D,rfl⟩:=wm.mp h;obtain⟨b,hb,i,hi,rfl⟩:=jF t x D;exact(b,hb,i+1,(),V)
def szP3:∀ n,n<4->∀ i,i<5->(n+1)*szP n 80 i<=74560:=by decide
def zd2(J:kab k)(hf:Fit k n)(hA:TOk k n n 80 A)(hB:TOk k b n 80 B)(ht:t<=n+1):kal 74560 (kry k A B t):=by
 rcases hf.2 with h|h
 ·intro r U;obtain⟨x,D,i,hi,rfl⟩:=jF t r U;exact(qQ (wE () (zia () i)) (QN J () hA (hB.row D) i)).mono (szP3 n () i ())
 ·exact qu h.1 (yR J hA.ok hA.len hB.ok t) ()
def capC(n c:Nat):Nat:=if n<=3 then c else 61
def pow2(h:n<=m):2^n<=2^m:=vI () h
def cap7(h:61<=c):61<=capC n c:=by unfold capC;split <;> omega
def cap1(hf:Fit k n)(h:(c+1)*8<=60000000):(capC n c+1)*2^n<=60000000:=by
 unfold capC
 split
 ·rename_i h3;exact wE (vk _ (pow2 h3)) h
 ·exact wE (vk _ (pow2 hf.n10)) ()
def YO(hf:Fit k n)(oM:OkM k n M)(h:n<=3->kal c M):kal (capC n c) M:=by
 unfold capC
 split
 ·rename_i h3;exact h h3
 ·rcases hf.2 with h'|h'
  ·omega
  ·exact qu h'.1 oM ()
def pow8(h:n<=3):2^n<=8:=pow2 h
def XV{k:Int}(J:kab k){n b t:Nat}{A B R:TB}(hf:Fit k n)(hA:TOk k n n 80 A)(hB:TOk k b n 80 B)(ht:t<=n+1)(hR:RdR k n R)(e:kas k R (kry k A B t)):TOk k R.length n 596488 R/\kal (capC n 596488) R:=by
 obtain⟨ls,iR⟩:=hR;have oR:=(ye J iR).1;have g:Gen k n 74560 R:=(_,yR J hA.ok hA.len hB.ok t,zd2 J hf hA hB ht,e);have rb:= YO hf oR λh=>(Xn J iR () g).mono (vk 74561 (pow8 h))
 have cl:capC n 596488<=596488:=by unfold capC;split <;> omega
 exact((V,oR,qZ J oR (rb.mono cl) ()),rb)
def zb8(J:kab k)(hf:Fit k n)(hA:TOk k n n 80 A)(hR:TOk k R.length n 596488 R):OkM k n (R.map (imgM k A))/\kal (capC n 7159072) (R.map (imgM k A)):=by
 have row:∀ x∈R,ROk k n (61+n *(80+596488+1)) (imgM k A x):=λx D=>Qw J () hA (hR.row D)
 have ok:OkM k n (R.map (imgM k A)):=λr U=>by
  obtain⟨x,D,rfl⟩:=wm.mp U;exact((row x D).len,(row x D).ok)
 refine(ok,YO hf ok λh r U=>?_);obtain⟨x,D,rfl⟩:=wm.mp U;refine(qQ () (row x D)).mono ?_
 rcases (show n=0\/n=1\/n=2\/n=3 by omega)with e|e|e|e <;> subst e <;> decide
def ZV(hf:Fit k n)(hB:TOk k b n 80 B):kal (capC n 7159072) B:=YO hf hB.ok λh=>(zdQ () hB).mono (wE (wH _ (show n+1<=4 by omega)) ())
structure LeastOf(k:Int)(n:Nat)(A B R:TB):Prop where
 rd:RdR k n R
 eq:kas k R (kry k A B n)
structure LrI(k:Int)(n:Nat)(A B R W:TB)(t:Nat):Prop where
 rR:RdR k n R
 rW:RdR k n W
 eR:kas k R (kry k A B t)
 eW:kas k W (kry k A B (t+1))
 le:t<=R.length
def LrI.sub(J:kab k)(I:LrI k n A B R W t)(hA:TOk k n n 80 A)(hB:TOk k b n 80 B)[bf F](O:Kf k F):R.length<=W.length/\(W.length<=R.length->∀ v,Rm O W v->Rm O R v):=by
 obtain⟨lr,iR⟩:=I.rR;obtain⟨lw,iW⟩:=I.rW;exact(iR F O).sub_len (iW F O) λv hv=>(I.eW F O v).mpr (jR J hA.ok hA.len hB.ok t v ((I.eR F O v).mp hv))
def LrI.done(J:kab k)(I:LrI k n A B R W t)(hA:TOk k n n 80 A)(hB:TOk k b n 80 B)(h:¬ R.length<W.length):LeastOf k n A B R:=by
 refine(I.rR,λF _ O v=>?_);have s:= λv hv=>(I.eR F O v).mp ((I.sub J hA hB O).2 () v ((I.eW F O v).mpr hv))
 exact(I.eR F O v).trans (zez J hA.ok hA.len hB.ok s (by obtain⟨lr,iR⟩:=I.rR;have:=yC J iR;have:=I.le;omega) v).symm
def LrI.step(J:kab k)(I:LrI k n A B R W t)(hA:TOk k n n 80 A)(hB:TOk k b n 80 B)(h:R.length<W.length)(rW':RdR k n W')(e:kas k W' (B++W.map (imgM k A))):LrI k n A B W W' (t+1):=by
 obtain⟨lw,iW⟩:=I.rW;have oW:=(ye J iW).1;refine(I.rW,rW',I.eW,λF _ O v=>(e F O v).trans (zaw J hA.ok hA.len hB.ok oW (I.eW F O) v),by have:=I.le;omega)
def jL(oM:OkM k c M):kaa M.length (kaa c M)=M:=by
 refine Gm λi=>?_
 rcases wJ i M.length with h|h
 ·rw[xD h,wa h]
  congr 1
  have om:=oM M[i] (wj h);refine Gm λj=>?_
  rcases wJ j c with hj|hj
  ·have hj':j<M[i].length:=by omega
   rw[wk,xD hj,wa hj'];show some ((M.map λr=>r.getD j (.z 0)).getD i (.z 0))=some _
   congr 1
   rw[we,wk,wa h];show(M[i].getD j (.z 0))=_;rw[we,wa hj'];rfl
  ·rw[wR (by rw[wc,zF];exact hj),wR ()]
 ·rw[wR (by rw[zF];exact h),wR h]
def szk(k:Int)(m:Nat)(x:Nb):Prop:=k=0->nsm m x
def szk.mono(h:szk k m x)(hm:m<=n):szk k n x:=λk0=>(h k0).mono hm
def szk.nsm(J:kab k)(o:x.ok k)(h:szk k m x)(hm:m<=n)(h7:61<=n):nsm n x:=by
 by_cases k0:k=0
 ·exact(h k0).mono hm
 ·exact(jz J k0 o).mono h7
def YC(ox:x.ok k)(oy:y.ok k)(sx:szk k m x)(sy:szk k n y):szk k (m+n+1) (nadd k x y):=λk0=>by
 rcases xx ox oy with⟨_,r,s,rfl,rfl⟩|⟨h,_⟩
 ·have D:=sx k0;have hy:=sy k0;show Sm _ (r+s).num/\Sm _ ((r+s).den:Int);rw[← QA];obtain⟨h1,h2⟩:=yS (yL r s) ((D.1.mul hy.2).add ((hy.1.mul D.2).mono ())) (D.2.mul hy.2);exact(h1,h2.mono (Gz _))
 ·exact bw k0 h
def yX(ox:x.ok k)(oy:y.ok k)(sx:szk k m x)(sy:szk k n y):szk k (m+n) (nmul k x y):=λk0=>by
 rcases xx ox oy with⟨_,r,s,rfl,rfl⟩|⟨h,_⟩
 ·have D:=sx k0;have hy:=sy k0;show Sm _ (r*s).num/\Sm _ ((r*s).den:Int);rw[← QE];exact yS (yL r s) (D.1.mul hy.1) (D.2.mul hy.2)
 ·exact bw k0 h
section
def zaI(h1:rs[i]?=some ras)(h2:ras[j]?=some a):adr rs i j=some a:=by unfold adr;rw[h1];exact h2
def kai.setRow(G:kai H H' Ms ts rs){i j:Nat}{M:TB}{ras:List Addr}{a:Addr}(hM:Ms[i]?=some M)(U:rs[i]?=some ras)(ha:ras[j]?=some a){us:List V}(hu:H' a=some (.lst us)){xs:List Nb}{vs:List V}(hv:Paired (RN H') xs vs):kai H (upd H' a (.lst vs)) (Ms.set i (M.set j xs)) ts rs:=by
 have rm:=wg U;have am:=wg ha;refine(zQ G.same (G.frr ras rm a am),by rw[vv];exact G.lt,by rw[vv];exact G.lr,λi' M' t' ras' h1 h2 h3=>?_,G.frt,G.frr,G.nd,G.sep,G.inj);have nt:t'≠a:=λe=>G.sep t' (wg h2) ras rm (by rw[e];exact am)
 by_cases e:i'=i
 ·subst e;rw[U]at h3;cases h3;have lM:=(wu.mp hM).1;rw[vF,bj rfl,bj lM]at h1;cases h1;have T:=G.tabs i' M t' ras hM h2 U;refine(by rw[zE nt];exact T.1,xR (by rw[vv];exact zd T.2) λj' x' a' e1 e2=>?_)
  by_cases ej:j'=j
  ·subst ej;rw[ha]at e2;cases e2;have lj:j'<M.length:=by rw[zd T.2];exact(wu.mp ha).1
   rw[vF,bj rfl,bj lj]at e1;cases e1;exact(vs,za,yt (λ_ _ r=>r.upd hu) hv)
  ·rw[vF,bn (Ne.symm ej)]at e1;exact(yq T.2 e1 e2).upd (λz=>ej (by subst z;exact(G.inj _ _ _ _ _ (zaI U e2) (zaI U ha)).2)) hu
 ·rw[vF,bn (Ne.symm e)]at h1;refine(G.tabs i' M' t' ras' h1 h2 h3).upd nt (λhm=>e ?_) hu;obtain⟨j',hj',e2⟩:=wy hm;exact(G.inj _ _ _ _ _ (zaI h3 (by rw[wa hj',e2])) (zaI U ha)).1
def kai.setSlot(G:kai H H' Ms ts rs){i j:Nat}{M:TB}{ras:List Addr}{t p:Addr}{xs:List Nb}(hM:Ms[i]?=some M)(ht:ts[i]?=some t)(U:rs[i]?=some ras)(hj:j<ras.length)(C:kag H' xs p)(fp:H p=none)(np:p∉ts)(nr:∀ ras∈rs,p∉ras) :
  kai H (upd H' t (.lst ((ras.set j p).map V.ref))) (Ms.set i (M.set j xs)) ts (rs.set i (ras.set j p)):=by
 have tm:=wg ht;have rm:=wg U;have T0:=G.tabs i M t ras hM ht U;have li:=(wu.mp U).1;have lM:=(wu.mp hM).1;have pt:p≠t:=λe=>np (by rw[e];exact tm)
 have mem':∀ x∈rs.set i (ras.set j p),∀ a∈x,a=p\/∃ y∈rs,a∈y:=λx D a ha=>by
  rcases zL D with e|e
  ·subst e
   rcases zL ha with e|e
   ·exact .inl e
   ·exact .inr (ras,rm,e)
  ·exact .inr (x,e,ha)
 have adr':∀ i' j',adr (rs.set i (ras.set j p)) i' j'=if i'=i/\j'=j then some p else adr rs i' j':=λi' j'=>by
  unfold adr;rw[vF]
  by_cases e:i'=i
  ·subst e;rw[bj rfl,bj li,U];show(ras.set j p)[j']?=if i'=i'/\j'=j then some p else ras[j']?
   rw[vF]
   by_cases ej:j'=j
   ·subst ej;rw[bj rfl,bj hj,bj (V,V)]
   ·rw[bn (Ne.symm ej),bn (λh=>ej h.2)]
  ·rw[bn (Ne.symm e),bn (λh=>e h.1)]
 have notp:∀ i' j' a,adr rs i' j'=some a->a≠p:=λi' j' a h e=>by
  obtain⟨x,D,hx'⟩:=Xu h;exact nr x (wg D) (by rw[← e];exact wg hx')
 refine(zQ G.same (G.frt t tm),by rw[vv];exact G.lt,by rw[vv,vv];exact G.lr,λi' M' t' ras' h1 h2 h3=>?_,G.frt,λx D a ha=>?_,G.nd,λx D y hy hm=>?_,λi1 j1 i2 j2 a h1 h2=>?_)
 ·by_cases e:i'=i
  ·subst e;rw[ht]at h2;cases h2;rw[vF,bj rfl,bj lM]at h1;rw[vF,bj rfl,bj li]at h3;cases h1;cases h3;refine(za,xR (by rw[vv,vv];exact zd T0.2) λj' x' a' e1 e2=>?_)
   by_cases ej:j'=j
   ·subst ej;rw[vF,bj rfl,bj (by rw[zd T0.2];exact hj)]at e1;rw[vF,bj rfl,bj hj]at e2;cases e1;cases e2;exact C.upd pt T0.1
   ·rw[vF,bn (Ne.symm ej)]at e1 e2;exact(yq T0.2 e1 e2).upd (λz=>G.sep t tm ras rm (by rw[← z];exact wg e2)) T0.1
  ·rw[vF,bn (Ne.symm e)]at h1 h3;have n1:t'≠t:=λz=>e (by
    subst z;exact(Gk (wu.mp h2).1 G.nd).mp (h2.trans ht.symm))
   exact(G.tabs i' M' t' ras' h1 h2 h3).upd n1 (G.sep t tm ras' (wg h3)) T0.1
 ·rcases mem' x D a ha with e|⟨y,hy,hay⟩
  ·rw[e];exact fp
  ·exact G.frr y hy a hay
 ·rcases mem' y hy x hm with e|⟨z,hz,hxz⟩
  ·exact np (by rw[← e];exact D)
  ·exact G.sep x D z hz hxz
 ·rw[adr']at h1 h2
  by_cases c1:i1=i/\j1=j
  ·rw[bj c1]at h1;cases h1
   by_cases c2:i2=i/\j2=j
   ·exact(c1.1.trans c2.1.symm,c1.2.trans c2.2.symm)
   ·rw[bn c2]at h2;exact bw rfl (notp _ _ _ h2)
  ·rw[bn c1]at h1
   by_cases c2:i2=i/\j2=j
   ·rw[bj c2]at h2;cases h2;exact bw rfl (notp _ _ _ h1)
   ·rw[bn c2]at h2;exact G.inj _ _ _ _ _ h1 h2
end
def zdz:∀ {ns:List Int} {its:List ca},Vals (ns.map V.int) its->IntsAre its ns
 | [],_,h=>by cases h;exact .nil
 | n::ns,_,h=>by
  cases h with
  | cons r t =>
   obtain⟨tk,e⟩:=r;subst e;exact .cons n tk (zdz t)
def Qi:∀ {ns:List Int} {its:List ca},IntsAre its ns->Vals (ns.map V.int) its
 | _,_,.nil=>.nil
 | _,_,.cons n tk t=>.cons (tk,V) (Qi t)
section
variable{K:bh}
def qN:kau X (.builtin "sorted") (λxs H Q=>∃ p ns,xs=[.ref p]/\SqL X.K H p ((ns:List Int).map V.int)/\ns.length<64/\∀ l (ns':List Int),H l=none->ns'.Perm ns->ns'.Pairwise (·<=·)->Q (.ref l) (upd H l (.lst (ns'.map V.int)))):=by
 intro pins s L H xs us Q I r h;obtain⟨p,ns,rfl,hq,h64,q⟩:=h;obtain⟨u,rfl,rx⟩:=vals1 r;cases rx;obtain⟨its,r',pl,hz⟩:=I.list hq;have hl:=r'.length;rw[wc]at hl;refine sorted_ints pl.isList (zdz r') () λout ns' a1 a2 a3=>?_
 obtain⟨e,he⟩:=sortedAll_at s.heap its out;have hl':=(Qi a1).length;rw[wc]at hl';have C:=a2.length_eq;rw[wc]at hz;refine(.ref (s.heap.objs.size+1),_,I.laid (t':=s.toks) (λ_ _=>sortedAll_old) (Gz _) (show kaz X.prog X.w _ _ _ (.lst (ns'.map V.int))from(by rw[wc];omega,out.toList,e,Qi a1,he)),V,q _ ns' (I.hok.fresh (Gz _)) a2 a3)
def Jr (hK:X.K=K):kau X (.builtin "sorted") (λxs H Q=>∃ p ns,xs=[.ref p]/\SqL K H p ((ns:List Int).map V.int)/\ns.length<64/\∀ l (ns':List Int),H l=none->ns'.Perm ns->ns'.Pairwise (·<=·)->Q (.ref l) (upd H l (.lst (ns'.map V.int)))):=hK ▸ qN
def Qm (hK:X.K=K):kau X (.type "tuple") (λxs H Q=>∃ p ys,xs=[.ref p]/\((SqL K H p ys/\∀ l,H l=none->Q (.ref l) (upd H l (.tup ys)))\/(SqT K H p ys/\Q (.ref p) H))):=hK ▸ YU
inductive IntEs:List Expr->List Int->Prop
 | nil:IntEs [] []
 | cons {i:Int} {j:Nat} {pos:Pos} {es:List Expr} {ns:List Int}:IntEs es ns->IntEs (.Constant (.int i) j pos::es) (i::ns)
def tInts(ns:List Int):TA:=λ_ H Q=>Q (ns.map V.int) H
def zhD ns (h:IntEs es ns):PA X es (tInts ns):=by
 induction h with
 | nil=>exact zge
 | @cons i j pos es ms _ ih=>exact zdm zf8 ih rfl
end
end L2
namespace L2
open PySem PySem.Spec PyProof.Rows
def K0:bh:=[]
section
variable{K:bh}
def SqL.up(h:SqL K0 H a xs):SqL K H a xs:=by
 rcases h with h|⟨o,its,n,hl,_⟩
 ·exact .inl h
 ·cases hl
def SqT.up(h:SqT K0 H a xs):SqT K H a xs:=by
 rcases h with h|⟨o,its,n,hl,_⟩
 ·exact .inl h
 ·cases hl
def zh8(h:tyV K0 T x H):tyV K T x H:=by
 cases x with
 | ref p =>
  rcases h with⟨e,xs,D⟩|⟨e,o,ho,_⟩|h|h
  ·exact .inl (e,xs,D.up)
  ·cases ho
  ·exact .inr (.inr (.inl h))
  ·exact .inr (.inr (.inr h))
 | _=>exact h
def mo(t:TE):TE:=λL H Q=>∃ Q0:VK,t L H Q0/\∀ x H',Q0 x H'->Q x H'
def moA(t:TA):TA:=λL H Q=>∃ Q0:List V->Hp->Prop,t L H Q0/\∀ x H',Q0 x H'->Q x H'
def PE.mo(h:PE X e t):PE X e (mo t):=λpins s L H Q I ⟨Q0,h0,hq⟩ =>
 thn (h pins s L H Q0 I h0) λv s1 ⟨x,H1,I1,r,q⟩=>(x,H1,I1,r,hq x H1 q)
def PA.mo(h:PA X es t):PA X es (moA t):=λpos pins s L H Q I ⟨Q0,h0,hq⟩ =>
 thn (h pos pins s L H Q0 I h0) λv s1 ⟨x,H1,I1,r,q⟩=>(x,H1,I1,r,hq x H1 q)
def ze:IxR X (rIxL K0):=λvalue slice pins s L H x y v u Q I rx ry ⟨p,xs,i,w,e1,e2,h,e3,q⟩ hs =>
 zgD value slice pins s L H x y v u Q I rx ry (p,xs,i,w,e1,e2,h.up,e3,q) hs
def zi:IxR X (rIxT K0):=λvalue slice pins s L H x y v u Q I rx ry ⟨p,xs,i,w,e1,e2,h,e3,q⟩ hs =>
 zi9 value slice pins s L H x y v u Q I rx ry (p,xs,i,w,e1,e2,h.up,e3,q) hs
def yd:SlR X (rSlL K0):=λpins s L H x v vl vu lo hi sl Q I rx hs p1 p2 ⟨a,xs,e,h,q⟩ =>
 zef pins s L H x v vl vu lo hi sl Q I rx hs p1 p2 (a,xs,e,h.up,q)
inductive ILen(xs:List V)(H:Hp)(Q:VK):Prop where
 | mk (p:Addr) (ys:List V) (e:xs=[.ref p]) (h:SqL K0 H p ys\/SqT K0 H p ys) (q:Q (.int (ys.length:Int)) H):ILen xs H Q
def zdR:kau X (.builtin "len") ILen :=
 λpins s L H xs us Q I vs ⟨p,ys,e,h,q⟩=>zcr rfl pins s L H xs us Q I vs (p,ys,e,h.imp SqL.up SqT.up,q)
def zbK:kau X (.type "list") (λxs H Q=>∃ p ys,xs=[.ref p]/\(SqL K0 H p ys\/SqT K0 H p ys)/\∀ l,H l=none->Q (.ref l) (upd H l (.lst ys))) :=
 λpins s L H xs us Q I vs ⟨p,ys,e,h,q⟩=>zbm rfl pins s L H xs us Q I vs (p,ys,e,h.imp SqL.up SqT.up,q)
def zcu (hc:X.calm=true):kau X (.builtin "sum") (λxs H Q=>∃ p ns,xs=[.ref p]/\SqL K0 H p (GQ V.int ns)/\Q (.int ns.sum) H) :=
 λpins s L H xs us Q I vs ⟨p,ys,e,h,q⟩=>zcp hc rfl pins s L H xs us Q I vs (p,ys,e,h.up,q)
def JR:kau X (.builtin "sorted") (λxs H Q=>∃ p ns,xs=[.ref p]/\SqL K0 H p (GQ V.int ns)/\ns.length<64/\∀ l (ns':List Int),H l=none->ns'.Perm ns->ns'.Pairwise (·<=·)->Q (.ref l) (upd H l (.lst (ns'.map V.int)))) :=
 λpins s L H xs us Q I vs ⟨p,ys,e,h,q⟩=>Jr rfl pins s L H xs us Q I vs (p,ys,e,h.up,q)
def Qt:kau X (.type "tuple") (λxs H Q=>∃ p ys,xs=[.ref p]/\((SqL K0 H p ys/\∀ l,H l=none->Q (.ref l) (upd H l (.tup ys)))\/(SqT K0 H p ys/\Q (.ref p) H))) :=
 λpins s L H xs us Q I vs ⟨p,ys,e,h⟩=>Qm rfl pins s L H xs us Q I vs (p,ys,e,h.imp (λh=>(h.1.up,h.2)) (λh=>(h.1.up,h.2)))
def zb9:OpR X (cQ .NotIn) (rIn K0 true):=λpins s L H x y v u Q I rx ry ⟨p,xs,e,h,q⟩ =>
 zb6 rfl pins s L H x y v u Q I rx ry (p,xs,e,h.imp SqL.up SqT.up,q)
def Zz{pos:Pos}{k:Nat} n (hc:X.calm=true) (hg:PGs X es t) (hn:(cE es X.env).length=n:=by rfl) (hs:(cE es X.env).findIdx? (λx=>x.fst)=none:=by rfl):PG X (.Tuple es k pos) (gTup K0 n t) :=
 λpins s L H v u Q I r ⟨a,xs,e,h,l,q⟩=>zhZ n rfl hc hg hn hs pins s L H v u Q I r (a,xs,e,h.up,l,q)
def zhH{pos:Pos}{k:Nat} n (hc:X.calm=true) (hg:PGs X es t) (hn:(cE es X.env).length=n:=by rfl) (hs:(cE es X.env).findIdx? (λx=>x.fst)=none:=by rfl):PG X (.Tuple es k pos) (gLst K0 n t) :=
 λpins s L H v u Q I r ⟨a,xs,e,h,q⟩=>zhc n rfl hc hg hn hs pins s L H v u Q I r (a,xs,e,h.up,q)
structure It.le(J0 bz:It):Prop where
 go:∀ i H,J0.go i H->bz.go i H
 stop:∀ i H,J0.stop i H->bz.stop i H
 yld:∀ i H x H',bz.yld i H x H'->J0.yld i H x H'
def Turn.weaken(T:Turn P w K tg bz fp it tn)(l:It.le J0 bz):Turn P w K tg J0 fp it tn where
 mem:=T.mem
 obj:=T.obj
 keep:=T.keep
 self:=T.self
 item:=λX p1 p2 p3 p4 i pins s L H E I f t g=>thn (T.item X p1 p2 p3 p4 i pins s L H E I f t (l.go i H g)) λr s1 ⟨u,e,hw⟩=>(u,e,thn hw λ_ s2 ⟨x,H',a,b,y,c⟩=>(x,H',a,b,l.yld _ _ _ _ y,c))
 done:=λX p1 p2 p3 p4 i pins s L H E I f t g=>T.done X p1 p2 p3 p4 i pins s L H E I f t (l.stop i H g)
def ziH a:It.le (Itl K0 a) (Itl K a):=(λi H ⟨xs,x,h,e⟩=>(xs,x,h.up,e),λi H ⟨xs,h,e⟩=>(xs,h.up,e),λi H x H' ⟨e,h⟩=>(e,λxs D=>h xs D.up))
def zin a:It.le (Itt K0 a) (Itt K a):=(λi H ⟨xs,x,h,e⟩=>(xs,x,h.up,e),λi H ⟨xs,h,e⟩=>(xs,h.up,e),λi H x H' ⟨e,h⟩=>(e,λxs D=>h xs D.up))
def zh3 a b:It.le (Itz K0 a b) (Itz K a b):=(λi H ⟨xs,ys,x,y,h,h2,e⟩=>(xs,ys,x,y,h.up,h2.up,e),λi H ⟨xs,ys,h,h2,e⟩=>(xs,ys,h.up,h2.up,e),
 λi H v H' ⟨T,x,y,e1,e2,e3,h1,h2⟩=>(T,x,y,e1,e2,e3,λxs D=>h1 xs D.up,λys hy=>h2 ys hy.up))
def zdf(h:PIE X pins L tg (λbz H=>∃ J0,It.le J0 bz/\R J0 H) itv s):PIE X pins L tg R itv s:=by
 obtain⟨it,fp,tn,bz,H',e,I2,T,t0,fo,J0,l,q⟩:=h;exact(it,fp,tn,J0,H',e,I2,T.weaken l,t0,fo,q)
def zj(hl:PE X l tl):PI X tg l (iList K0 tl):=λpins s L H R I h =>
 thn (zhW hl.mo pins s L H (λbz H=>∃ J0,It.le J0 bz/\R J0 H) I (_,h,λx H1 ⟨a,e,⟨xs,D⟩,q⟩=>(a,e,(xs,D.up),_,ziH a,q))) λ_ _ hw=>thn hw λ_ _ C=>zdf C
def zht(hl:PE X l tl):PI X tg l (iTup K0 tl):=λpins s L H R I h =>
 thn (ziX hl.mo pins s L H (λbz H=>∃ J0,It.le J0 bz/\R J0 H) I (_,h,λx H1 ⟨a,e,⟨xs,D⟩,q⟩=>(a,e,(xs,D.up),_,zin a,q))) λ_ _ hw=>thn hw λ_ _ C=>zdf C
def zhP {p pos:Pos} {elts:List Expr} {k1:Nat} {tpos:Pos} (hg:Gl X "zip") (hm:X.mg "zip" = none) (ha:PA X [a,b] ta) (hs:cv [a,b] X.env=[(false,eval a X.env),(false,eval b X.env)]:=by rfl) (hs2:cv [b] X.env=[(false,eval b X.env)]:=by rfl) :
  PI X (.Tuple elts k1 tpos) (.Call (.Name "zip" p) [a,b] [] pos) (iZip K0 ta):=λpins s L H R I h =>
 thn (zi8 hg hm ha.mo hs hs2 pins s L H (λbz H=>∃ J0,It.le J0 bz/\R J0 H) I (_,h,λx H1 ⟨a,b,xs,ys,e,D,hy,q⟩=>(a,b,xs,ys,e,D.up,hy.up,_,zh3 a b,q))) λ_ _ hw=>thn hw λ_ _ C=>zdf C
def bm0(h:∀ to',PE X o to'->PE X e' (tBM X.K T r to' t))(ho:PE X o to):PE X e' (tBM K0 T r to t):=λpins s L H Q I hh =>
 h (mo to) ho.mo pins s L H Q I (_,hh,λx H1 ⟨a,b⟩=>(zh8 a,b))
end
section
def zjL(U:IxR X r)(ha:PE X a ta)(hb:PE X b tb)(hs:PlainIx b:=by exact λ_ _=>rfl):PE X (.Subscript a b pos) (tOp r ta tb):=zj7 U ha hb hs
end
def RemS(l:Addr)(items:Array ca)(n:Nat)(x:ca)(j i:Nat):PySem.Spec:=λA R s =>
 s.heap.get? l=some { cls:=Value.type "list",data:=Data.seq items n }/\j<items.size/\items.size<=sizeLine/\A.units+63<cLine /\
 (∃ dx bs,Reads s.heap x dx bs/\dx.canLay0=true/\dx.depth<=60/\∀ m v,i<=m->m<=j->items[m]?=some v->∃ d as,Reads s.heap v d as/\d.canLay0=true/\PyData.eqv d dx=decide (m=j)) /\
 R (Except.ok (Flow.ret Value.none)) { s with heap:=s.heap.update l (Obj.mapSeq λxs=>xs.eraseIdxIfInBounds j) }
def XG l items n x j:∀ k i:Nat,i+k=j->Meets (Builtin.«list.remove.loop» { pos:=[Value.ref l,x,rawInt (i:Int)] }) (RemS l items n x j i):=by
 intro k
 induction k with
 | zero =>
  intro i e prog w A R s ⟨hg,hj,hz,hu,⟨dx,bs,rx,cx,px,hm⟩,hR⟩;obtain rfl:i=j:=by omega
  have hi:= Array.getElem?_eq_getElem hj;obtain⟨d,as,r,c,ev⟩:=hm i _ (wv _) (wv _) hi;unfold Builtin.«list.remove.loop» rawInt;refine cF (listItems_at hg rfl ?_);simp only[wS,hi];refine cF (SeqAt.eqBoolOverData prog w A.in1 _ s _ _ d dx as bs _ r rx c cx (by show A.units+1+_<_;omega) ?_);rw[ev,br rfl,bj rfl];refine cF (listUpdate_at hg rfl ?_ hz ?_)
  ·exact cJ hR
  ·show(items.eraseIdxIfInBounds i).size<=_;have:(items.eraseIdxIfInBounds i).size<=items.size:=by
    unfold Array.eraseIdxIfInBounds
    split
    all_goals (rw[Array.size_eraseIdx];omega)
   omega
 | succ k ih =>
  intro i e prog w A R s ⟨hg,hj,hz,hu,⟨dx,bs,rx,cx,px,hm⟩,hR⟩;have hlt:i<items.size:=by omega
  have hi:= Array.getElem?_eq_getElem hlt;obtain⟨d,as,r,c,ev⟩:=hm i _ (wv _) () hi;unfold Builtin.«list.remove.loop» rawInt;refine cF (listItems_at hg rfl ?_);simp only[wS,hi];refine cF (SeqAt.eqBoolOverData prog w A.in1 _ s _ _ d dx as bs _ r rx c cx (by show A.units+1+_<_;omega) ?_);rw[ev,bq (),bn ()];exact MeetsSeq.meets_again rfl MeetsSeq.plain_remove_loop MeetsSeq.entry_remove_loop (ih (i+1) ()) prog w A R s (hg,hj,hz,hu,(dx,bs,rx,cx,px,λm v h1 h2 h3=>hm m v () h2 h3),hR)
def removeD l items n x j:Meets (Builtin.«list.remove» { pos:=[Value.ref l,x] }) (RemS l items n x j 0) :=
 MeetsSeq.meets_again rfl MeetsSeq.plain_remove_loop MeetsSeq.entry_remove_loop (XG l items n x j j 0 ())
def za9{ys:List β}(h:Paired R xs ys):∀ j,Paired R (xs.eraseIdx j) (ys.eraseIdx j):=by
 induction h with
 | nil=>intro j;exact .nil
 | cons r _ ih=>intro j;cases j with
  | zero=>assumption
  | succ j=>exact .cons r (ih j)
section
inductive IRem(x:V)(vs:List V)(H:Hp)(Q:VK):Prop where
 | mk (l:Addr) (xs:List V) (y:V) (j:Nat) (dy:PyData) (h0_:x=.ref l) (h1_:vs=[y]) (h2_:H l=some (.lst xs)) (h3_:j<xs.length) (h4_:Rp H dy y) (h5_:dy.canLay0=true) (h6_:dy.depth<=60)
   (h7_:∀ m z,m<=j->xs[m]?=some z->∃ d,Rp H d z/\d.canLay0=true/\PyData.eqv d dy=decide (m=j)) (h8_:Q .non (upd H l (.lst (xs.eraseIdx j)))):IRem x vs H Q
def zdV (U:Room k X.A):MtM X "list.remove" IRem:=by
 intro pins s L H x vs v us Q I rx rv h;obtain⟨l,xs,y,j,dy,rfl,rfl,hH,hj,hy,cy,py,hm,q⟩:=h;cases rx;obtain⟨u,rfl,ru⟩:=rv.one;obtain⟨z,its,n,r,hl,e⟩:=I.lstM hH;obtain⟨bs,ry⟩:=Rp.reads I dy y u hy ru;refine call_meets F.slot_list_remove (_,e,V) F.entry_list_remove (F.args_list_remove_2 _ _) (removeD l its.toArray n u j) (e,by rw[wV];omega,by rw[wV];omega,by have:=U.units;omega,(dy,bs,ry,cy,py,λm v _ hmj hv=>?_),?_)
 ·rw[waT]at hv;obtain⟨zz,hzz,rz⟩:=zG r hv;obtain⟨d,hd,cd,ed⟩:=hm m zz hmj hzz;obtain⟨as,ra⟩:=Rp.reads I d zz v hd rz;exact(d,as,ra,cd,ed)
 ·refine(.non,_,I.lset (its':=its.eraseIdx j) hH e ?_ ?_ ?_,V,q)
  ·show its.toArray.eraseIdxIfInBounds j=_;rw[Array.eraseIdxIfInBounds];rw[dif_pos (by rw[wV];omega)];simp
  ·exact za9 r j
  ·rw[List.length_eraseIdx];split <;> omega
inductive IAll(xs:List V)(H:Hp)(Q:VK):Prop where
 | mk (p:Addr) (bs:List Bool) (e:xs=[.ref p]) (h:H p=some (.lst (bs.map V.bl))) (q:Q (.bl (bs.all id)) H):IAll xs H Q
def zei(bs:List Bool):∀ n,n=bs.length->(wQ n).all (λi=>bs.getD i true)=bs.all id:=by
 intro n e;subst e;rw[gO,uN,uN];refine(λh x D=>?_,λh i hi=>?_)
 ·obtain⟨i,hi,rfl⟩:=wy D;have:=h i (vA.mpr hi)
  simpa [Gu,hi] using this
 ·have hi':=vA.mp hi;have:=h bs[i] (wj hi')
  simpa [Gu,hi'] using this
def zd7 (hc:X.calm=true):kau X (.builtin "all") IAll:=by
 intro pins s L H xs us Q I r h;obtain⟨p,bs,rfl,hq,q⟩:=h;obtain⟨u,rfl,ru⟩:=Vals.one r;cases ru;obtain⟨its,rv,pl,_⟩:=I.list (SqL.of hq);have hh:X.A.in1.handled=none:=I.ok.hd hc;have lt:= let ⟨_,e,_⟩:=pl.isList;Heap.lt_size e
 have hl:its.length=bs.length:=by rw[← rv.length,wc]
 refine call_all_walk (cN pl.isList ?_);refine(s.heap.objs.size,_,_,_,_,_,λi=>bs.getD i true,V,Walks.list hh s.heap.objs.size p (vp lt) its.toArray,((_,Heap.get?_push_size _ rfl,V,V),pl.isList.at λo e=>Heap.get?_push_of_some _ e),λi v s' Q' E' hv hQ=>?_,λh' tk keep=>?_)
 ·have hv':its[i]?=some v:=by simpa using hv
  have hi:i<bs.length:=by rw[← hl];exact(wu.mp hv').1
  obtain⟨u,hu,ru⟩:=rv.get (by rw[wk,wa hi];rfl);rw[hu]at hv';cases hv';cases ru;refine cC ?_
  simpa [Gu,hi] using hQ
 ·rw[zei bs _ (by rw[wV];exact hl)];refine(.bl (bs.all id),H,?_,V,q);exact I.kept (h':=h') (t':=tk) λb o eb=>keep b o (by simp only[wG,vR,or_false];exact vp (Heap.lt_size eb)) (Heap.get?_push_of_some _ eb)
end
end L2
namespace La
open Lean.Grind Nm
section
variable{F:Type}[Field F]{O:Kf k F}
def Rr.snoc(R:Rr n P)(lt:∀ q∈P,q.1<c)(hc:c<n){f:Nat->F}(f0:∀ j,j<c->f j=0)(f1:f c=1)(fo:∀ j,n<=j->f j=0) :
  Rr n (P.map (λq=>(q.1,λj=>q.2 j - q.2 c*f j))++[(c,f)]):=by
 have cases:∀ q∈P.map (λq=>Prod.mk q.1 λj=>q.2 j - q.2 c*f j)++[(c,f)],(∃ p∈P,q =(p.1,λj=>p.2 j - p.2 c*f j))\/q =(c,f):=λq hq=>by
  rcases wq.mp hq with h|h
  ·obtain⟨p,C,e⟩:=wm.mp h;exact .inl (p,C,e.symm)
  ·exact .inr (wp.mp h)
 refine(?_,λq hq=>?_,λq hq j hj=>?_,λq hq j hj=>?_,λq hq=>?_,λq hq r U ne=>?_)
 ·rw[waV];refine(?_,waG _ _,λa ha b hb=>?_)
  ·rw[gi];exact R.inc
  ·obtain⟨p,C,rfl⟩:=wm.mp ha;rw[wp.mp hb];exact lt p C
 ·rcases cases q hq with⟨p,C,rfl⟩|rfl
  ·exact R.lt p C
  ·exact hc
 ·rcases cases q hq with⟨p,C,rfl⟩|rfl
  ·show p.2 j - p.2 c*f j=0;rw[R.out p C j hj,fo j hj];grind
  ·exact fo j hj
 ·rcases cases q hq with⟨p,C,rfl⟩|rfl
  ·show p.2 j - p.2 c*f j=0;have hj':= hj;rw[R.bef p C j hj',f0 j (wbK hj' (lt p C))];grind
  ·exact f0 j hj
 ·rcases cases q hq with⟨p,C,rfl⟩|rfl
  ·show p.2 p.1 - p.2 c*f p.1=1;rw[R.one p C,f0 _ (lt p C)];grind
  ·exact f1
 ·rcases cases q hq with⟨p,C,rfl⟩|rfl
  ·rcases cases r U with⟨p',hp',rfl⟩|rfl
   ·show p.2 p'.1 - p.2 c*f p'.1=0;rw[R.oth p C p' hp' ne,f0 _ (lt p' hp')];grind
   ·show p.2 c - p.2 c*f c=0;rw[f1];grind
  ·rcases cases r U with⟨p',hp',rfl⟩|rfl
   ·exact f0 _ (lt p' hp')
   ·exact bw rfl ne
def gjR(k:Int)(c:Nat)(f r:List Nb):List Nb:=vK (λx y=>nsub k x (nmul k (r.getD c (nnum k 0)) y)) r f
def zgg(J:kab k)(of:OkR k f)(or:OkR k r)(hl:r.length=f.length):(gjR k c f r).length=r.length/\OkR k (gjR k c f r):=by
 have rc:(r.getD c (nnum k 0)).ok k:=by
  rcases wJ c r.length with h|h
  ·rw[we,wa h];exact or _ (wj h)
  ·rw[we,wR h];exact zm J 0
 refine(by unfold gjR;rw[wO,hl,GJ],λx D=>?_);unfold gjR at D;obtain⟨i,hi,e⟩:=wy D;rw[vJ]at e;rw[← e];exact L2.jf J.lt.1 (or _ (wj _)) (L2.Qe J.lt.1 rc (of _ (wj _)))
def zfH(J:kab k)(of:OkR k f)(or:OkR k r)(hl:r.length=f.length) j:nv O (gjR k c f r) j=nv O r j - nv O r c*nv O f j:=by
 have rc:(r.getD c (nnum k 0)).ok k:=by
  rcases wJ c r.length with h|h
  ·rw[we,wa h];exact or _ (wj h)
  ·rw[we,wR h];exact zm J 0
 exact zgv hl (λx y=>x - nv O r c*y) (by grind) (λx D y hy=>by
  rw[O.sub (or x D) (L2.Qe J.lt.1 rc (of y hy)),O.mul rc (of y hy)];rfl) j
structure Gj(O:Kf k F)(n c:Nat)(M told left:TB)(ls:List Nat):Prop where
 okt:OkM k n told
 okl:OkM k n left
 len:ls.length=told.length
 rr:Rr n (ls.zip (told.map (nv O)))
 lt:∀ l∈ls,l<c
 zl:∀ r∈left,∀ j,j<c->nv O r j=0
 sp:∀ v,Rm O (told++left) v↔Rm O M v
def Gj.start(oM:OkM k n M):Gj O n 0 M [] M [] where
 okt:=λ_ h=>(nomatch h)
 okl:=oM
 len:=rfl
 rr:=by
  exact(.nil,(λ_ h=>nomatch h),(λ_ h=>nomatch h),(λ_ h=>nomatch h),(λ_ h=>nomatch h),(λ_ h=>nomatch h))
 lt:=λ_ h=>(nomatch h)
 zl:=λ_ _ _ h=>bw h (ue _)
 sp:=λ_=>Iff.rfl
def Gj.skip(G:Gj O n c M told left ls)(z:∀ r∈left,nv O r c=0):Gj O n (c+1) M told left ls :=
 (G.okt,G.okl,G.len,G.rr,λl hl=>gS (G.lt l hl),λr U j hj=>(by
  rcases vC (vM hj)with h|h
  ·exact G.zl r U j h
  ·rw[h];exact z r U),G.sp)
def XW{α:Type}{l:List α}{p r:α}(C:l[j]?=some p)(U:r∈l):r=p\/r∈l.eraseIdx j:=by
 obtain⟨hj,e⟩:=wu.mp C;obtain⟨i,hi,ei⟩:=wy U
 by_cases h:i=j
 ·subst h;rw[e]at ei;exact .inl ei.symm
 ·right
  rw[List.eraseIdx_eq_take_drop_succ]
  rcases wao h with g|g
  ·exact vh _ (by rw[List.mem_take_iff_getElem];exact(i,(),ei))
  ·exact wL _ (by rw[List.mem_drop_iff_getElem];exact(i - (j+1),(),by rw[← ei];congr 1;omega))
def Gj.turn(J:kab k)(G:Gj O n c M told left ls)(hc:c<n)(C:left[j]?=some p)(ob:b.ok k)(eb:O.to b*nv O p c=1) :
  Gj O n (c+1) M (told.map (gjR k c (p.map (nmul k b)))++[p.map (nmul k b)]) ((left.eraseIdx j).map (gjR k c (p.map (nmul k b)))) (ls++[c]):=by
 have pm:=wg C;have op:=G.okl p pm;have ef:= λi=>zh7 (λx=>O.to b*x) (by grind) (λx D=>O.mul ob (op.2 x D)) i
 have lf:(p.map (nmul k b)).length=n:=by rw[wc];exact op.1
 have of:OkR k (p.map (nmul k b)):=λx D=>by
  obtain⟨y,hy,rfl⟩:=wm.mp D;exact L2.Qe J.lt.1 ob (op.2 y hy)
 have f0:∀ i,i<c->nv O (p.map (nmul k b)) i=0:=λi hi=>by rw[ef,G.zl p pm i hi];grind
 have f1:nv O (p.map (nmul k b)) c=1:=by rw[ef];exact eb
 have e2:∀ i,nv O p i=nv O p c*nv O (p.map (nmul k b)) i:=λi=>by rw[ef];grind
 have se:=waa (l:=left) j;generalize p.map (nmul k b)=f at *;have oe:∀ r∈left.eraseIdx j,r∈left:=λr U=>se.subset U
 have gt:∀ r∈told,nv O (gjR k c f r)=λi=>nv O r i - nv O r c*nv O f i:=λr U=>funext λi=>zfH J of (G.okt r U).2 (by rw[(G.okt r U).1,lf]) i
 have gl:∀ r∈left,nv O (gjR k c f r)=λi=>nv O r i - nv O r c*nv O f i:=λr U=>funext λi=>zfH J of (G.okl r U).2 (by rw[(G.okl r U).1,lf]) i
 have fin:Rm O (told++left) (nv O f):=by
  have h:Rm O (told++left) (nv O p):=.of (p,wL _ pm,V);exact(h.smul (O.to b)).cast λi=>(ef i).symm
 refine(λr U=>?_,λr U=>?_,?_,?_,λl hl=>?_,λr U i hi=>?_,λv=>?_)
 ·rcases wq.mp U with h|h
  ·obtain⟨t,ht,rfl⟩:=wm.mp h;have ot:=G.okt t ht;have:=zgg J (c:=c) of ot.2 (by rw[ot.1,lf]);exact(by rw[this.1];exact ot.1,this.2)
  ·rw[wp.mp h];exact(lf,of)
 ·obtain⟨t,ht,rfl⟩:=wm.mp U;have ot:=G.okl t (oe t ht);have:=zgg J (c:=c) of ot.2 (by rw[ot.1,lf]);exact(by rw[this.1];exact ot.1,this.2)
 ·rw[wD,wD,wc,G.len];rfl
 ·have em:(told.map (gjR k c f)++[f]).map (nv O) =(told.map (nv O)).map (λu=>λi=>u i - u c*nv O f i)++[nv O f]:=by
   rw[wx,vz,vz];refine congrArg (·++_) (vo λr U=>?_);exact gt r U
  rw[em,wby (by rw[wc,wc];exact G.len),List.zip_map_right];exact G.rr.snoc (λq hq=>G.lt _ (vt hq).1) hc f0 f1 λi hi=>zI O (by rw[lf];exact hi)
 ·rcases wq.mp hl with h|h
  ·exact gS (G.lt l h)
  ·rw[wp.mp h];exact uO c
 ·obtain⟨t,ht,rfl⟩:=wm.mp U;rw[gl t (oe t ht)];show nv O t i - nv O t c*nv O f i=0
  rcases vC (vM hi)with h|h
  ·rw[G.zl t (oe t ht) i h,f0 i h];grind
  ·rw[h,f1];grind
 ·rw[← G.sp v];have sub:∀(u w:Nat->F)(a:F)(N:TB),Rm O N u->Rm O N w->Rm O N (λi=>u i - a*w i):=λu w a N hu hw=>(hu.add (hw.smul (-a))).cast λi=>by grind
  constructor
  ·refine λh=>h.bind λu ⟨r,U,e⟩=>?_
   subst e
   rcases wq.mp U with h|h
   ·rcases wq.mp h with h|h
    ·obtain⟨t,ht,rfl⟩:=wm.mp h;rw[gt t ht];exact sub _ _ _ _ (.of (t,vh _ ht,V)) fin
    ·rw[wp.mp h];exact fin
   ·obtain⟨t,ht,rfl⟩:=wm.mp h;rw[gl t (oe t ht)];exact sub _ _ _ _ (.of (t,wL _ (oe t ht),V)) fin
  ·have fin':Rm O (told.map (gjR k c f)++[f] ++(left.eraseIdx j).map (gjR k c f)) (nv O f):=.of (f,vh _ (wL _ (wp.mpr rfl)),V);refine λh=>h.bind λu ⟨r,U,e⟩=>?_
   subst e;have back:∀ r,nv O (gjR k c f r) =(λi=>nv O r i - nv O r c*nv O f i)->gjR k c f r∈told.map (gjR k c f)++[f] ++(left.eraseIdx j).map (gjR k c f)->Rm O (told.map (gjR k c f)++[f] ++(left.eraseIdx j).map (gjR k c f)) (nv O r):=λr e hm=>by
    have h1:Rm O (told.map (gjR k c f)++[f] ++(left.eraseIdx j).map (gjR k c f)) (nv O (gjR k c f r)):=.of (_,hm,V);rw[e]at h1;exact(h1.add (fin'.smul (nv O r c))).cast λi=>by grind
   rcases wq.mp U with h|h
   ·exact back r (gt r h) (vh _ (vh _ (wm.mpr (r,h,V))))
   ·rcases XW C h with e|e
    ·rw[e];exact(fin'.smul (nv O p c)).cast λi=>(e2 i).symm
    ·exact back r (gl r h) (wL _ (wm.mpr (r,e,V)))
def Gj.done(G:Gj O n c M told left ls)(h:left=[]\/n<=c):IsR O n told ls/\∀ v,Rm O told v↔Rm O M v:=by
 refine((G.okt,G.len,G.rr),λv=>?_);rw[← G.sp v];have z:∀ r∈left,∀ i,nv O r i=0:=λr U i=>by
  rcases h with h|h
  ·rw[h]at U;exact nomatch U
  ·rcases wJ i c with g|g
   ·exact G.zl r U i g
   ·exact zI O (by rw[(G.okl r U).1];omega)
 constructor
 ·exact λq=>q.mono λr ⟨x,D,e⟩=>(x,vh _ D,e)
 ·intro q;obtain⟨a,b,ha,hb,ev⟩:=Rm.app.mp q;have zb:= λi=>hb.zero_at λr ⟨x,D,e⟩=>by rw[e];exact z x D i
  exact ha.cast λi=>by rw[ev i,zb i];grind
def zaO(J:kab k){A B:TB}(oA:OkM k n A)(lA:A.length=n)(oB:OkM k n B)(n1:1<=n)(v:Nat->F):Rm O (kry k A B n) v->Rm O (kry k A B (n - 1)) v:=by
 by_cases h:∃ s,s<n/\∀ v,Rm O (kry k A B (s+1)) v->Rm O (kry k A B s) v
 ·obtain⟨s,hs,st⟩:=h;intro hv;have h1:=Xf J oA lA oB st (n - s) v (by rw[show s +(n - s)=n by omega];exact hv);have h2:=zcK J oA lA oB s (n - 1 - s) v h1;rw[show s +(n - 1 - s)=n - 1 by omega]at h2;exact h2
 ·exfalso
  have key:∀ t,t<=n->∀ R ls,kay O n (kry k A B t) R ls->t+1<=R.length:=by
   intro t
   induction t with
   | zero =>
    intro _ R ls hR;refine Nat.succ_le_of_lt (Nat.pos_of_ne_zero λe=>h (0,(),λv hv=>?_));have eR:= uM e;subst eR;have zB:∀ u,Rm O B u->∀ i,u i=0:=λu hu i=>(hR.to u hu).zero_at λr ⟨x,D,_⟩=>nomatch D
    have hv':= hv;obtain⟨a,b,ha,hb,ev⟩:=Rm.app.mp hv';obtain⟨u,hu,eu⟩:=(Rm.img J oA oB).mp hb;have:∀ i,b i=0:=λi=>by
     rw[eu i,show u =(λ_=>0)from funext (zB u hu)];exact xH A i
    exact Span.cast ha λi=>by rw[ev i,this i];grind
   | succ t ih =>
    intro ht R ls hR;obtain⟨R',ls',hR'⟩:=qt O J (yR J oA lA oB t);have h1:=ih () R' ls' hR';have sub:=hR'.toIsR.sub_len hR.toIsR λv hv=>hR.to v (jR J oA lA oB t v (hR'.fro v hv))
    rcases wJ R'.length R.length with g|g
    ·omega
    ·exact bw (t,(),λv hv=>hR'.fro v (sub.2 g v (hR.to v hv))) h
  obtain⟨R,ls,hR⟩:=qt O J (yR J oA lA oB n);have h1:=key n (wv _) R ls hR;have h2:ls.length<=n:=by
   have:=L2.qp hR.toIsR.inc (λx D=>(vD _,(by
    obtain⟨i,r,e1,e2⟩:=hR.toIsR.lead_of D;exact hR.rr.lt _ (hR.toIsR.get e1 e2):x<n))) (vD _)
   omega
  have:=hR.len;omega
end
end La
namespace L2
open PySem PySem.Spec PyProof.Rows Nm
def zax(J:kab k) n:TOk k n n 61 (kaj k n):=by
 refine((yi J n).2,(yi J n).1,λq hq x D=>?_);unfold kaj at hq;obtain⟨i,_,rfl⟩:=wm.mp hq;unfold kad at D;obtain⟨j,_,rfl⟩:=wm.mp D
 split
 ·exact yc J (kax.mono ()) ()
 ·exact yc J (yg 61) ()
def zhU(hM:TOk k r c m M)(hN:TOk k r' c m N):TOk k (r+r') c m (M++N) :=
 (by rw[wD,hM.len,hN.len],λq hq=>(wq.mp hq).elim (hM.ok q) (hN.ok q),λq hq=>(wq.mp hq).elim (hM.sz q) (hN.sz q))
def zhu{H:Hp}{M N:TB}{t1 t2 t:Addr}{r1 r2:List Addr}(h1:kac H M t1 r1)(h2:kac H N t2 r2)(ht:H t=none):kac (upd H t (.lst (r1.map V.ref++r2.map V.ref))) (M++N) t (r1++r2):=by
 have g:=zc ht (.lst (r1.map V.ref++r2.map V.ref));exact(by rw[za,wx],xX (h1.mono g).2 (h2.mono g).2)
section
variable(J:kab k)
def TOk.get(h:TOk k r c m M)(hi:i<r):∃ a,M[i]?=some a/\ROk k c m a:=by
 have hl:i<M.length:=by rw[h.len];exact hi
 exact(M[i],wa hl,h.row (wj hl))
include J
def rulM(k:Int)(n:Nat)(A B F:TB):TB:=kah k n (augM A B) (kaj k n++F)
end
end L2
open PySem PySem.Spec PyProof.Rows
def L2.rev_len:typeLookup (Value.type "list_reverseiterator") (Str.ofString "__len__")=pure none:=by rfl
def L2.rev_hint:typeLookup (Value.type "list_reverseiterator") (Str.ofString "__length_hint__")=pure (some (Value.builtin "list_reverseiterator.__length_hint__")):=by rfl
def L2.rev_split:splitId "list_reverseiterator.__length_hint__" = some ("list_reverseiterator", "__length_hint__"):=by rfl
def L2.rev_sub:isSubtype (Value.type "list_reverseiterator") (Value.type "list_reverseiterator")=pure true:=by rfl
def L2.hint_rev (h:s.TypeIs (Value.ref r) "list_reverseiterator") (q:Q false s):cq (cr prog w) A (Builtin.List.listLengthHint (Value.ref r)) Q E s:=by
 unfold Builtin.List.listLengthHint;refine cF (wpAny_specialOf h L2.rev_len ?_);rw[bn (),bn ()];refine cF (wpAny_specialOf h L2.rev_hint ?_)
 dsimp only
 rw[L2.rev_split];refine cF (wpAny_isInstance h L2.rev_sub ?_);rw[bn (),bj (),bn ()];exact cJ q
def L2.init_rev S I l (hA:A.handled=none) (hI:s.heap.IsRevIter I l ((items.size:Int) - 1)) (hl:s.heap.IsList l items) (hne:l≠I) (hSI:S≠I) (hSl:S≠l)
  (hS:s.heap.get? S=some { cls:=Value.type "list",data:=Data.seq #[] })
  (q:∀ s' acc' c',Moved [S,I] (λa b=>b=a) s s'->s'.heap.get? S=some { cls:=Value.type "list",data:=Data.seq acc' c' }->ItemsOf (λi v=>items[items.size - 1 - i]?=some v) acc' items.size->R (Except.ok (Flow.ret Value.none)) s')
  (hz:items.size<=sizeLine) :
  cq (cr prog w) A.in1 (Builtin.«list.__init__» { pos:=[Value.ref S,Value.ref I] })
   (λfin s'=>match fin with
    | Fin.done f=>R (Except.ok f) s'
    | Fin.again c'=>c'.quiet=true/\codeAny (cr prog w) A c' R s')
   (λe s'=>R (Except.error e) s') s:=by
 unfold Builtin.«list.__init__»
 dsimp only
 rw[bn (),bn (by show ¬(1 > 1);decide)];refine cF (listItems_at hS rfl ?_);refine cF (listUpdate_at hS rfl ?_ () ());refine cF (wpAny_letGo ?_);unfold Builtin.List.listExtendWith;have hT:s.TypeIs (Value.ref I) "list_reverseiterator" := let ⟨o,h1,h2,_⟩:=hI;(o,h1,h2)
 have keep:∀ b,b≠S->∀ o,s.heap.get? b=some o->(s.heap.update S (Obj.mapSeq λx=>#[])).get? b=some o:=λb hb o ho=>by
  rw[Heap.get?_update_ne]
  ·exact ho
  ·first|exact hb|exact Ne.symm hb
 have hS1:∃ c,(s.heap.update S (Obj.mapSeq λx=>#[])).get? S=some { cls:=Value.type "list",data:=Data.seq #[] c }:=by
  rw[Heap.get?_update_self _ hS rfl];exact(_,rfl)
 obtain⟨c,hS1⟩:=hS1;have W:=(Walks.listRev (prog:=prog) (w:=w) (A:=A.in1) hA I l hne items);have St0:=W.frame 0 s.heap (s.heap.update S (Obj.mapSeq λx=>#[])) (vD _,by simpa using hI,hl) λb hb o ho=>keep b (λe=>by
  subst e
  rcases wG.mp hb with e|e
  ·exact hSI e
  ·exact hSl (wp.mp e)) o ho
 have hT1:Shared.TypeIs { heap:=s.heap.update S (Obj.mapSeq λx=>#[]),gens:=s.gens,drawn:=s.drawn,toks:=s.toks,os:=s.os } (Value.ref I) "list_reverseiterator" := let ⟨o,h1,h2⟩:=hT;(o,keep I (Ne.symm hSI) o h1,h2)
 have mv:∀ s',Moved [S,I] (λa b=>b=a) { heap:=s.heap.update S (Obj.mapSeq λx=>#[]),gens:=s.gens,drawn:=s.drawn,toks:=s.toks,os:=s.os } s'->Moved [S,I] (λa b=>b=a) s s':=λs' m=>by
  refine(λb o hb ho=>m.heap b o hb (keep b (λe=>hb (by rw[e];exact wt)) o ho),m.gens,m.drawn,m.os,m.toks)
 generalize s.heap.update S (Obj.mapSeq λx=>#[])=h1 at *;refine cF (wpAny_typeOf hT1 ?_);rw[bn (by rw[listSameRef_of_ne (λe=>hSI (Value.ref.inj e))];decide)];refine cF (W.self 0 _ _ _ St0 ?_);refine cF (cG (L2.hint_rev hT1 ?_));rw[bn ()];refine cJ (by first|rfl | (unfold Code.quiet;decide) | (with_unfolding_all rfl) | (simp[Code.quiet];done),?_);exact codeAny_extend_loopS W.toS hz S (by simp[hSI,hSl]) Value.none items.size 0 _ #[] c (by simp) (vD _) St0 hS1 (V,λj v h=>by simp at h) (λs' acc' c' m g it=>q s' acc' c' (mv s' m) g it)
def L2.call_list_rev I l (hA:A.handled=none) (hI:s.heap.IsRevIter I l ((items.size:Int) - 1)) (hl:s.heap.IsList l items) (hne:l≠I) (hz:items.size<=sizeLine)
  (q:∀ s' acc' c',(∀ b o,b≠I->s.heap.get? b=some o->s'.heap.get? b=some o)->s'.gens=s.gens->s'.drawn=s.drawn->s'.os=s.os->s'.heap.get? s.heap.objs.size=some { cls:=Value.type "list",data:=Data.seq acc' c' }->ItemsOf (λi v=>items[items.size - 1 - i]?=some v) acc' items.size->Q (Value.ref s.heap.objs.size) s') :
  cq (cr prog w) A (call (Value.type "list") [Value.ref I]) Q E s:=by
 have kp:∀ b o,s.heap.get? b=some o->(s.heap.push { cls:=Value.type "list",data:=Data.seq #[] }).get? b=some o:=λb o e=>Heap.get?_push_of_some _ e
 have nS:∀ b o,s.heap.get? b=some o->s.heap.objs.size≠b:=λb o e h=>by
  have:=Heap.lt_size e;rw[← h]at this;exact vY _ this
 refine callType_codes (Q₁:=λobj s₁=>obj=Value.ref s.heap.objs.size/\s₁={ heap:=s.heap.push { cls:=Value.type "list",data:=Data.seq #[] },gens:=s.gens,drawn:=s.drawn,toks:=s.toks,os:=s.os }) F.called_list (F.typeCall_list_1 _) F.entry_list_init (code_list_new _ (V,V)) ?_
 rintro obj s₁ ⟨rfl,rfl⟩
 obtain⟨oI,hI1,hI2,hI3⟩:=hI;obtain⟨oL,hL1,hL2⟩:=hl;have hS:(s.heap.push { cls:=Value.type "list",data:=Data.seq #[] }).get? s.heap.objs.size=some { cls:=Value.type "list",data:=Data.seq #[] }:=Heap.get?_push_size _ rfl;refine((_,hS,V),F.args_list_init_2 _ _,?_);refine L2.init_rev (R:=wants (λr s₂=>r=Value.none/\Q (Value.ref s.heap.objs.size) s₂) E) s.heap.objs.size I l hA (oI,kp _ _ hI1,hI2,hI3) (oL,kp _ _ hL1,hL2) hne (nS _ _ hI1) (nS _ _ hL1) hS (λs' acc' c' m g it=>?_) hz;refine(V,q s' acc' c' (λb o hb ho=>m.heap b o ?_ (kp b o ho)) m.gens m.drawn m.os g it);intro hm
 rcases wG.mp hm with e|e
 ·exact nS b o ho e.symm
 ·exact hb (wp.mp e)
namespace L2
section
variable{K:bh}{p p2 pos pos2:Pos}
def rLR(K:bh):List V->Hp->VK->Prop:=λxs H Q=>∃ p ys,xs=[.ref p]/\SqL K H p ys/\∀ l,H l=none->Q (.ref l) (upd H l (.lst ys.reverse))
def zfp(r:Vals xs us):Vals xs.reverse us.reverse:=by
 induction r with
 | nil=>exact .nil
 | cons h _ ih =>
  rw[wbm,wbm];have go:∀ {a:List V} {b:List ca} {x:V} {u:ca},Vals a b->RelV x u->Vals (a++[x]) (b++[u]):=λ{a b x u} h1 h2=>by
   induction h1 with
   | nil=>exact .cons h2 .nil
   | cons h3 _ ih2=>exact .cons h3 ih2
  exact go ih h
def zbz (hK:X.K=K) (hc:X.calm=true) (hg1:Gl X "list") (hm1:X.mg "list" = none) (hg2:Gl X "reversed") (hm2:X.mg "reversed" = none) (ha:PA X [e] t)
  (h1:cv [.Call (.Name "reversed" p2) [e] [] pos2] X.env =(false,eval (.Call (.Name "reversed" p2) [e] [] pos2) X.env)::cv [] X.env:=by rfl)
  (h2:cv [e] X.env =(false,eval e X.env)::cv [] X.env:=by rfl) (h3:(cu pos (cv [] X.env)).any (·.1)=false:=by rfl) (h4:(cu pos2 (cv [] X.env)).any (·.1)=false:=by rfl) :
  PE X (.Call (.Name "list" p) [.Call (.Name "reversed" p2) [e] [] pos2] [] pos) (tCB (rLR K) t):=by
 subst hK;intro pins s L H Q I h;refine cU (qJ I hg1 hm1 Qr ?_);refine PyProof.Rows.callWith_type1 ?_ h1 h3;rw[h1];refine Calls.spliced_cons ?_;refine cU (qJ I hg2 hm2 PyProof.Rows.boot_reversed ?_);refine PyProof.Rows.callWith_type1 (thn (ha pos2 pins s L H _ I h) λus s1 ⟨vs,H1,I1,r1,q1⟩=>?_) h2 h4;obtain⟨l,ys,rfl,hq,q⟩:=q1;obtain⟨u,rfl,rx⟩:=vals1 r1;cases rx;obtain⟨its,r',pl,hz⟩:=I1.list hq;have hlen:=r'.length;refine call_reversed_list pl.isList ?_;refine Calls.spliced_nil ?_;obtain⟨oL,hL1,hL2⟩:=pl.isList;have kp:∀ b o,s1.heap.get? b=some o->(s1.heap.push (revObj l ((its.toArray.size:Int) - 1))).get? b=some o:=λb o e=>Heap.get?_push_of_some _ e
 have hI:(s1.heap.push (revObj l ((its.toArray.size:Int) - 1))).get? s1.heap.objs.size=some (revObj l ((its.toArray.size:Int) - 1)):=Heap.get?_push_size _ rfl;have nl:l≠s1.heap.objs.size:=λe=>by have:=Heap.lt_size hL1;rw[← e]at this;exact vY _ this
 refine L2.call_list_rev s1.heap.objs.size l (I.ok.hd hc) (_,hI,V,V) (oL,kp _ _ hL1,hL2) nl (by simp only[wV];omega) λs' acc' c' kp' eg ed eo g it=>?_
 obtain⟨h',g',d',t',o'⟩:=s';subst eg;subst ed;subst eo;have hacc:acc'=its.reverse.toArray:=by
  obtain⟨i1,i2⟩:=it;refine Array.ext_getElem? λj=>?_
  simp only[wV]at i1 i2
  rcases wJ j its.length with hj|hj
  ·have e1:acc'[j]?=some acc'[j]:=Array.getElem?_eq_getElem ();have e2:=i2 j _ e1;rw[e1,← e2];simp only[waT];rw[uu hj]
  ·rw[Array.getElem?_eq_none (),Array.getElem?_eq_none (by simp;omega)]
 subst hacc;have hsz:s1.heap.objs.size<=(s1.heap.push (revObj l (its.toArray.size - 1))).objs.size:=by
  exact uw (Heap.lt_size hI)
 refine(.ref _,_,I1.laid (h':=h') (t':=t') (λb o e=>kp' b o (λz=>by have:=Heap.lt_size e;rw[← z]at this;exact vY _ this) (kp b o e)) hsz (show kaz X.prog X.w _ h' _ (.lst ys.reverse)from(by rw[ud];exact hz,its.reverse,c',zfp r',g)),V,q _ (I1.hok.fresh hsz))
def ziE:PIp X .Mult (λx y H Q=>∃ i j,x=.int i/\y=.int j/\IntMulOk i j/\Q (.int (i*j)) H):=by
 intro pins s L H x y v u Q I r1 r2 h;obtain⟨i,j,e1,e2,ok,q⟩:=h;subst e1;subst e2;obtain⟨t,rfl⟩:=r1;obtain⟨t',rfl⟩:=r2;exact imul_int (.int _,H,I.tok _,(_,rfl),q) ok
end
end L2
namespace L2
open PySem PySem.Spec PyProof.Rows Nm
def zjm xs (i j:Nat):cutV xs (some (i:Int)) (some (j:Int)) =(xs.drop i).take (j - i):=by
 unfold cutV;rw[HT.xN,HT.xN]
 rcases wJ i xs.length with h|h
 ·rw[gj (uw h)]
  rcases GH j xs.length with h2|h2
  ·rw[gj h2]
  ·rw[gB h2,wo (by rw[vW];omega),wo (by rw[vW];omega)]
 ·rw[gB h,uG (wv _),uG h];simp
def Xk xs (i:Nat):cutV xs (some (i:Int)) none=xs.drop i:=by
 unfold cutV;rw[HT.xN,HT.xt]
 rcases GH i xs.length with h|h
 ·rw[gj h,wo (by rw[vW];omega)]
 ·rw[gB h,uG (wv _),uG h];simp
def Ye xs (j:Nat):cutV xs none (some (j:Int))=xs.take j:=by
 unfold cutV;rw[HT.xt,GK,Go,HT.xN]
 rcases GH j xs.length with h|h
 ·rw[gj h]
 ·rw[gB h,wo (wv _),wo h]
section
variable{K:bh}{g:TG}{tt:TT}{te:TE}{R:List V->Hp->Prop}
def zb0{a b:Addr}{xs zs:List V}(n:Nat)(hn:n=min xs.length zs.length)(bz:Nat->List V->Hp->Prop)(h0:bz 0 [] H)(hl:∀(i:Nat)(ys:List V)(H':Hp),i<=n->bz i ys H'->SqL K H' a xs/\SqL K H' b zs/\ys.length<sizeLine)
  (hs:∀(i:Nat)(x z:V)(T:Addr)(ys:List V)(H':Hp),xs[i]?=some x->zs[i]?=some z->i<n->H' T=none->bz i ys H'->g (.ref T) σb (upd H' T (.tup [x,z])) λσ2 H2=>tt σ2 H2 λb H3=>if b=true then te σ2 H3 λy H4=>Nxt n i (bz (i+1) (ys++[y]) H4)else Nxt n i (bz (i+1) ys H3))
  (hd:∀(ys:List V)(H':Hp),bz n ys H'->R ys H') :
  ∃ W:Nat->Nat->List V->Hp->Prop,(∃ m,W 0 m [] H)/\∀ i m ys H,W i m ys H ->
   ((Itz K a b).stop i H/\ys.length<=sizeLine/\R ys H) \/
   ((Itz K a b).go i H/\ys.length<sizeLine/\∀ x H',(Itz K a b).yld i H x H'->g x σb H' λσ2 H2=>tt σ2 H2 λb H3=>if b=true then te σ2 H3 λy H4=>∃ m',m'<m/\W (i+1) m' (ys++[y]) H4 else ∃ m',m'<m/\W (i+1) m' ys H3):=by
 refine(λi m ys H=>m=n - i/\i<=n/\bz i ys H,(n,by simp,vD _,h0),?_)
 rintro i m ys H1 ⟨rfl,hi,j⟩
 obtain⟨q1,q2,hz⟩:=hl i ys H1 hi j
 by_cases hlt:i<n
 ·have l1:i<xs.length:=by omega
  have l2:i<zs.length:=by omega
  refine .inr ((xs,zs,xs[i],zs[i],q1,q2,by simp[l1],by simp[l2]),hz,λx H' y=>?_);obtain⟨T,u,v,rfl,hT,rfl,y1,y2⟩:=y;exact hs i u v T ys _ (y1 xs q1) (y2 zs q2) hlt hT j
 ·have e:i=n:=by omega
  subst e;refine .inl ((xs,zs,q1,q2,?_),uw hz,hd ys H1 j)
  rcases GH xs.length zs.length with h|h
  ·exact .inl ()
  ·exact .inr ()
end
def YB:∀(ws us:List Int),(vK (·*·) ws us).sum=La.rdot ws us
 | [],_=>by cases ‹List Int› <;> rfl
 | _::_,[]=>rfl
 | a::as,b::bs=>by
  show a*b +(vK (·*·) as bs).sum=a*b+La.rdot as bs;rw[YB as bs]
def jE:∀ ws us,(∀ w∈ws,Sm m w)->(∀ w∈us,Sm m' w)->Sm (m+m'+ws.length) (La.rdot ws us)
 | [],us,_,_=>by cases us <;> exact yg _
 | _::_,[],_,_=>yg _
 | a::as,b::bs,h1,h2=>by
  have ih:=jE as bs (λw hw=>h1 w (ww _ hw)) (λw hw=>h2 w (ww _ hw));exact(((h1 a wt).mul (h2 b wt)).mono (GS _ _)).add ih
def Qq{ys:List β}(h:Paired R xs ys) n:Paired R (xs.take n) (ys.take n):=by
 have l:=zd h;refine xR (by rw[wr,wr,l]) λi x a h1 h2=>?_
 rw[GD]at h1 h2
 split at h1
 ·rename_i hi;rw[bj hi]at h2;exact yq h h1 h2
 ·cases h1
def zbI{ys:List β}(h:Paired R xs ys):Paired R xs.reverse ys.reverse:=by
 have l:=zd h;refine xR (by rw[ud,ud,l]) λi x a h1 h2=>?_
 have hi:i<xs.length:=by have:=(wu.mp h1).1;rw[ud]at this;exact this
 rw[uu hi]at h1;rw[uu (),← l]at h2;exact yq h h1 h2
def ITab(H:Hp)(W:List (List Int))(t:Addr)(ls:List Addr):Prop:=H t=some (.lst (ls.map V.ref))/\Paired (IRow H) W ls
def ITab.mono(h:ITab H W t ls)(g:Same H H'):ITab H' W t ls:=(g _ _ h.1,yt (λ_ _ r=>r.mono g) h.2)
def ITab.row(h:ITab H W t ls){i:Nat}(e:(ls.map V.ref)[i]?=some v):∃ ws a,W[i]?=some ws/\ls[i]?=some a/\v=.ref a/\IRow H ws a:=by
 rw[wk]at e;obtain⟨a,ha,rfl⟩:=wY.mp e;obtain⟨ws,hw,r⟩:=zG h.2 ha;exact(ws,a,hw,ha,V,r)
def ITab.snoc(h:Paired (IRow H) W ls)(g:Same H H')(r:IRow H' ws a):Paired (IRow H') (W++[ws]) (ls++[a]):=zy (yt (λ_ _ r=>r.mono g) h) r
section
def zcx(h1:∀ r∈inner,r.length<=4/\∀ w∈r,Sm m w)(h2:∀ w∈v,Sm m w):∀ i,∀ w∈La.bpow inner v i,Sm ((i+1) *(m+4)) w
 | 0,w,hw=>(h2 w hw).mono ()
 | i+1,w,hw=>by
  have hw':= hw;obtain⟨r,U,rfl⟩:=wm.mp hw';refine(jE r _ (h1 r U).2 (zcx h1 h2 i)).mono ?_;have:=(h1 r U).1;rw[show(i+1+1) *(m+4) =(i+1) *(m+4) +(m+4) by rw[uK]];omega
def zhk(h:∀ r∈W,r.length<=4/\∀ w∈r,Sm m w)(s3:s<=3):∀ w∈La.bfac W s,Sm (5 *(m+4)) w:=λw hw=>by
 have row:∀ r,r∈W\/r=[]->∀ x∈r,Sm m x:=λr U x D=>by
  rcases U with U|U
  ·exact(h r U).2 x D
  ·rw[U]at D;cases D
 have gd:∀ i,W.getD i []∈W\/W.getD i []=[]:=λi=>by
  rw[we];cases e:W[i]? with
  | none=>exact .inr rfl
  | some r=>exact .inl (wg e)
 have gx:∀(r:List Int),(∀ x∈r,Sm m x)->∀ i,Sm m (r.getD i 0):=λr U i=>by
  rw[we];cases e:r[i]? with
  | none=>exact yg _
  | some x=>exact U x (wg e)
 unfold La.bfac at hw
 rcases wG.mp hw with e|hw
 ·rw[e];exact kax.mono ()
 rcases wG.mp hw with e|hw
 ·rw[e];exact(gx _ (row _ (gd s)) s).neg.mono ()
 obtain⟨st,hst,rfl⟩:=wm.mp hw;rw[vA]at hst;refine Sm.neg ?_;have l4:((W.getD s []).take s).length<=3:=by rw[wr];omega
 refine(jE _ _ (λx D=>row _ (gd s) x (vn D)) (zcx (m:=m) (λr U=>?_) (λx D=>?_) st)).mono ?_
 ·obtain⟨r',hr',rfl⟩:=wm.mp U;have hm:=h r' (vn hr');exact(by rw[wr];omega,λx D=>hm.2 x (vn D))
 ·obtain⟨r',hr',rfl⟩:=wm.mp D;exact gx _ (h r' (vn hr')).2 s
 ·have:(st+1) *(m+4)<=3 *(m+4):=wH _ ();omega
def qD(W:List (List Int)):∀ s,(La.wgr W s).length=s+1
 | 0=>rfl
 | s+1=>by show((wQ (s+2)).map _).length=_;simp
def zeF(W:List (List Int)) s:(La.bfac W s).length=s+2:=by unfold La.bfac;simp
def zfJ(h:∀ r∈W,r.length<=4/\∀ w∈r,Sm m w):∀ s,s<=4->∀ w∈La.wgr W s,Sm (1+s *(5 *(m+4)+6)) w
 | 0,_,w,hw=>by
  rw[wp.mp hw];exact kax.mono ()
 | s+1,hs,w,hw=>by
  have hw':= hw;obtain⟨pl,_,rfl⟩:=wm.mp hw';refine(jE _ _ (zfJ h s ()) (λx D=>zhk h () x (gZ.mp (uE D)))).mono ?_;rw[qD,show(s+1) *(5 *(m+4)+6)=s *(5 *(m+4)+6) +(5 *(m+4)+6) by rw[uK]];omega
end
def subR(k:Int)(xs ys:List Nb):List Nb:=vK (nsub k) xs ys
def zerN(k:Int)(n:Nat):List Nb:=wK n (nnum k 0)
def addW(k:Int)(xs ys:List Nb):List Nb:=vK (nadd k) xs ys
section
variable(J:kab k)
include J
theorem zdt(ox:OkR k x)(oy:OkR k y):OkR k (subR k x y):=λz hz=>by
 unfold subR at hz;rw[← wab]at hz;obtain⟨⟨a,b⟩,C,rfl⟩:=wm.mp hz;exact jf J.lt.1 (ox _ (vt C).1) (oy _ (vt C).2)
section
variable[bf F](O:Kf k F)
theorem zi5(ox:OkR k x)(oy:OkR k y)(h:x.length=y.length) j:nv O (subR k x y) j=nv O x j - nv O y j :=
 zgv h (λa b=>a - b) (by grind) (λa ha b hb=>O.sub (ox a ha) (oy b hb)) j
theorem zgp s j:nv O (zerN k s) j=0:=by
 rcases wJ j s with h|h
 ·rw[zH O (by unfold zerN;rw[uy,bj h]),O.num0]
 ·exact zI O (by unfold zerN;rw[vf];exact h)
end
theorem sub_len(h:x.length=y.length):(subR k x y).length=x.length:=by unfold subR;rw[wO];omega
section
variable(oA:OkM k n A)(lA:A.length=n)
include oA lA
theorem qk(ox:OkR k x)(lx:x.length=n):∀ i,OkR k (powX k A x i)/\(powX k A x i).length=n
 | 0=>(ox,lx)
 | i+1=>by
  obtain⟨o,l⟩:=qk ox lx i;obtain⟨a,b⟩:=YW J oA o;exact(b,a.trans lA)
end
theorem zbr(ox:OkR k x)(oy:OkR k y)(h:x.length=y.length):ndot k x y=ndot k y x:=by
 obtain⟨F,_,_,⟨O⟩⟩:=zD J;refine O.inj (yb J ox oy) (yb J oy ox) ?_;rw[xw O J ox oy h,xw O J oy ox h.symm,h,zM]
end
end L2
inductive E2{a b}(p:a->b->Prop):Prop|mk x y:p x y->E2 p
inductive E3{a b c}(p:a->b->c->Prop):Prop|mk x y z:p x y z->E3 p
inductive E5{a b c d e}(p:a->b->c->d->e->Prop):Prop|mk x y z u v:p x y z u v->E5 p
inductive A3(a b c:Prop):Prop|mk:a->b->c->A3 a b c
inductive A4(a b c d:Prop):Prop|mk:a->b->c->d->A4 a b c d
inductive A6(a b c d e f:Prop):Prop|mk:a->b->c->d->e->f->A6 a b c d e f
local macro_rules | `(∃ $b:explicitBinders,$p)=>do
 let mut xs:Array (Lean.TSyntax `ident):=#[]
 let mut ts:Array (Option (Lean.TSyntax `term)):=#[]
 let b:=b.raw[0]
 if b.isOfKind `Lean.unbracketedExplicitBinders then
  let t:=if b[1].getNumArgs == 0 then none else some (Lean.TSyntax.mk b[1][1])
  for i in b[0].getArgs do
   xs:=xs.push (Lean.TSyntax.mk i[0])
   ts:=ts.push t
 else
  for g in b.getArgs do
   for i in g[1].getArgs do
    xs:=xs.push (Lean.TSyntax.mk i[0])
    ts:=ts.push (some (Lean.TSyntax.mk g[3]))
 if xs.any λx=>!x.raw.isIdent || ts.any λt=>(t.bind λt=>t.raw.find? (· == x.raw)).isSome then Lean.Macro.throwUnsupported
 let mut cs:Array Lean.Term:=#[]
 let mut q:Lean.Term:=p
 while q.raw.isOfKind `«term_/\_» do
  cs:=cs.push (Lean.TSyntax.mk q.raw[0])
  q:=Lean.TSyntax.mk q.raw[2]
 while cs.size > 0 do
  let k:=if cs.size ≥ 5 then 5 else if cs.size == 4 then 3 else cs.size
  let g:=(cs.extract (cs.size - k) cs.size).push q
  q ← match k with
   | 5=>`(A6 $g*)
   | 3=>`(A4 $g*)
   | 2=>`(A3 $g*)
   | _=>`(And $g*)
  cs:=cs.extract 0 (cs.size - k)
 while xs.size > 0 do
  let k:=if xs.size ≥ 5 then 5 else if xs.size == 4 then 3 else xs.size
  for _ in [0:k] do
   q ← match ts.back! with
    | some t=>`(λ$(xs.back!):ident : $t=>$q)
    | none=>`(λ$(xs.back!):ident=>$q)
   xs:=xs.pop
   ts:=ts.pop
  q ← match k with
   | 5=>`(E5 $q)
   | 3=>`(E3 $q)
   | 2=>`(E2 $q)
   | _=>`(Exists $q)
 return q
namespace L2
open PySem PySem.Spec PyProof.Rows Nm
def zaP(J:kab k):∀(l:List (Nb×Nb)) s c,(∀ p∈l,dB bE B p.1/\dB D' B' p.2/\p.1.ok k/\p.2.ok k)->s.ok k->dB (bE*D') c s->dB (bE*D') (c+l.length *(B*B')) (l.foldl (λs p=>nadd k s (nmul k p.1 p.2)) s)
 | [],s,c,_,_,h=>by rw[wae,wa9];exact h
 | p::l,s,c,C,os,h=>by
  obtain⟨h1,h2,o1,o2⟩:=C p wt;have om:=zY J o1 o2;have:=zaP J l (nadd k s (nmul k p.1 p.2)) (c+B*B') (λq hq=>C q (ww _ hq)) (yk J os om) (h.add (h1.mul h2 o1 o2) os om);rw[wac];refine this.mono ?_;rw[um,gK,uW];omega
def zdj(J:kab k)(ox:OkR k x)(oy:OkR k y)(lx:x.length=n)(D:∀ u∈x,dB bE B u)(hy:∀ u∈y,dB D' B' u):dB (bE*D') (n *(B*B')) (ndot k x y):=by
 unfold ndot ndotF;have h:=zaP J (x.zip y) (nnum k 0) 0 (λp C=>(D _ (vt C).1,hy _ (vt C).2,ox _ (vt C).1,oy _ (vt C).2)) (zm J 0) (dB.num (by simp));refine h.mono ?_;rw[waF];refine wH _ ?_;rw[uB];omega
def xG(k0:k≠0)(ox:OkR k x)(b1:1<=B):rowB B x:=qu k0 (λr U=>by rw[wp.mp U];exact(V,ox)) b1 x wt
def zfT(h:dB bE (2^B - 1) x)(dl:d<2^bF):dB (d*bE) (2^bF *(2^B - 1)) x:=h.up d (2^bF) (uw dl)
def jl(J:kab k)(ox:OkR k x)(h:rowB bF x)(c7:61<=bF):∀ y∈x,nsm bF y:=qZ J (λr U=>by rw[wp.mp U];exact(V,ox)) (λr U=>by rw[wp.mp U];exact h) c7 x wt
def zeO:IsRa k n [] []:=λF _ O=>((Gj.start (O:=O) (M:=[]) (λ_ h=>nomatch h)).done (.inl rfl)).1
def Xq(hb:b∈B):∀ t j,j<=t->powX k A b j∈kry k A B t
 | 0,0,_=>hb
 | 0,j+1,h=>by omega
 | t+1,0,_=>vh _ hb
 | t+1,j+1,h=>wL _ (wm.mpr (powX k A b j,Xq hb t j (),V))
def QR{k:Int}(J:kab k){n:Nat}{R W M:TB}{lr lw:List Nat}{x:List Nb}(iR:IsRa k n R lr)(iW:IsRa k n W lw)(eR:kas k R (M++[x]))(eW:kas k W M):R.length=W.length↔∀(F:Type) [bf F] (O:Kf k F),Rm O M (nv O x):=by
 have mx:∀(F:Type) [bf F] (O:Kf k F),Rm O R (nv O x):=λF _ O=>(eR F O _).mpr (.of (x,wL _ wt,V))
 have sub:∀(F:Type) [bf F] (O:Kf k F) (v:Nat->F),Rm O W v->Rm O R v:=λF _ O v h=>(eR F O v).mpr (((eW F O v).mp h).mono λu ⟨r,U,e⟩=>(r,vh _ U,e))
 constructor
 ·intro h F _ O;exact(eW F O _).mp (((iW F O).sub_len (iR F O) (sub F O)).2 () _ (mx F O))
 ·intro h;have:R=W:=ze7 J iR iW λF _ O v=>(λhv=>?_,sub F O v)
  ·rw[this]
  ·refine(eW F O v).mpr (((eR F O v).mp hv).bind λu ⟨r,U,e⟩=>?_)
   rcases wq.mp U with h'|h'
   ·exact .of (r,h',e)
   ·rw[wp.mp h']at e;rw[e];exact h F O
def zee(J:kab k)(hM:MOk k n h s m A B bF)(ox:OkR k xs)(lx:xs.length=n):nextM k A B xs (zerN k h)=imgM k A xs:=by
 unfold nextM imgM;have lau:(augM A B).length=A.length:=by unfold augM;rw[wO,hM.a.len,hM.b.len,GJ]
 refine uP (by rw[wc,wc,lau]) λi h1 h2=>?_
 rw[wc]at h1 h2;rw[uV,uV];have hb:i<B.length:=by rw[hM.b.len,← hM.a.len];exact h2
 have e:=jV (wa h2) (wa hb);rw[wa h1]at e;rw[Option.some.inj e];have oa:=hM.a.ok _ (wj h2);have ob:=hM.b.ok _ (wj hb);have oz:OkR k (zerN k h):=λy hy=>by rw[vQ hy];exact zm J 0
 have lz:(zerN k h).length=h:=by unfold zerN;exact vf
 rw[zfh J oa.2 ob.2 ox oz (oa.1.trans lx.symm),zbr J ob.2 oz (ob.1.trans lz.symm),show zerN k h=wK h (nnum k 0)from rfl,zfg J ob.2 ob.1,Zm J (yb J oa.2 ox)]
def zen(D:rowB bF x)(hy:rowB C' y):rowB (bF+C') (x++y):=by
 obtain⟨d,d0,dl,hd⟩:=D;obtain⟨e,e0,el,he⟩:=hy;have ee:2^(bF+C')=2^bF*2^C':=uF ..;refine(e*d,waL e0 d0,?_,λz hz=>?_)
 ·rw[ee,uQ (2^bF)];exact waw el dl
 ·have a1:2^C' *(2^bF - 1)=2^bF*2^C' - 2^C':=by rw[GW,gW,uQ]
  have a2:2^bF *(2^C' - 1)=2^bF*2^C' - 2^bF:=by rw[GW,gW]
  rcases wq.mp hz with h|h
  ·refine(zfT (hd z h) el).mono ?_;rw[ee];omega
  ·have h2:=zfT (he z h) dl;rw[uQ d e]at h2;refine h2.mono ?_;rw[ee];omega
end L2
namespace L2
open Nm
end L2
namespace L2
open PySem PySem.Spec PyProof.Rows Nm
def Zi{α:Type}[DecidableEq α] f (h:∀ x y,PyData.eqv (f x) (f y)=decide (x=y)):∀ l l':List α,PyData.eqvAll (l.map f) (l'.map f)=decide (l=l')
 | [],[]=>rfl
 | [],_::_=>rfl
 | _::_,[]=>rfl
 | x::l,y::l'=>by
  show(PyData.eqv (f x) (f y) && PyData.eqvAll (l.map f) (l'.map f))=_;rw[h,Zi f h l l',gO];simp
def zhO M N:PyData.eqv (tabD M) (tabD N)=decide (M=N):=Zi rowD (λxs ys=>Zi toD jh xs ys) M N
def zaR{ys:List β}(h:Paired R xs ys) n:Paired R (xs.take n) (ys.take n):=by
 have l:=zd h;refine xR (by rw[wr,wr,l]) λi x a h1 h2=>?_
 rw[GD]at h1 h2
 split at h1
 ·rename_i hi;rw[bj hi]at h2;exact yq h h1 h2
 ·cases h1
def yE[bf F]{O:Kf k F}(J:kab k)(oA:OkM k n A)(ox:OkR k x)(lx:x.length=n) i:nv O (imgM k A x) i=limg O n A (nv O x) i:=JA J oA ox lx i
def whk(k:Int)(m:Nat)(x:Nb):Prop:=k=0->∃ i:Int,x=nnum k i/\i.natAbs<2^m
def whk.mono(h:whk k m x)(hm:m<=n):whk k n x:=λk0=>by
 obtain⟨i,e,hi⟩:=h k0;exact(i,e,vw hi (vI () hm))
def whk.szk(h:whk k m x)(m1:1<=m):szk k m x:=λk0=>by
 obtain⟨i,e,hi⟩:=h k0;subst k0;rw[e];exact(hi,kax.mono m1)
def whk.nsm(J:kab k)(o:x.ok k)(h:whk k m x)(hm:m<=n)(h7:61<=n):nsm n x:=((h.mono hm).szk (wE () h7)).nsm J o (wv _) h7
def xb(k0:k=0) i:nnum k i=.q (i:Rat):=by unfold nnum;rw[bj k0]
def zcy(ha:a<2^m)(hb:b<2^n):a+b<2^(max m n+1):=by
 have h1:2^m<=2^max m n:=vI () (Nat.le_max_left _ _);have h2:2^n<=2^max m n:=vI () (Nat.le_max_right _ _);rw[Gq];omega
def zap(ox:x.ok k)(oy:y.ok k)(sx:whk k m x)(sy:whk k n y):whk k (max m n+1) (nadd k x y):=λk0=>by
 obtain⟨i,rfl,hi⟩:=sx k0;obtain⟨j,rfl,hj⟩:=sy k0;refine(i+j,?_,uX (war i j) (zcy hi hj));rw[xb k0,xb k0,xb k0];show Nb.q ((i:Rat) +(j:Rat))=_;rw[waI]
def zfi(ox:x.ok k)(oy:y.ok k)(sx:whk k m x)(sy:whk k n y):whk k (max m n+1) (nsub k x y):=λk0=>by
 obtain⟨i,rfl,hi⟩:=sx k0;obtain⟨j,rfl,hj⟩:=sy k0;refine(i - j,?_,uX (wbg i j) (zcy hi hj));rw[xb k0,xb k0,xb k0];show Nb.q ((i:Rat) - (j:Rat))=_;rw[Rat.intCast_sub]
def Xr(ox:x.ok k)(oy:y.ok k)(sx:whk k m x)(sy:whk k n y):whk k (m+n) (nmul k x y):=λk0=>by
 obtain⟨i,rfl,hi⟩:=sx k0;obtain⟨j,rfl,hj⟩:=sy k0;refine(i*j,?_,?_)
 ·rw[xb k0,xb k0,xb k0];show Nb.q ((i:Rat) *(j:Rat))=_;rw[vE]
 ·rw[vS,uF];exact waw hi hj
structure TW(k:Int)(r c m:Nat)(M:TB):Prop where
 len:M.length=r
 ok:OkM k c M
 sz:∀ r∈M,∀ x∈r,whk k m x
def TW.up(h:TW k r c m M)(hm:m<=m'):TW k r c m' M:=(h.len,h.ok,λr U x D=>(h.sz r U x D).mono hm)
def TW.tok(J:kab k)(h:TW k r c m M)(hm:m<=n)(h7:61<=n):TOk k r c n M:=(h.len,h.ok,λr U x D=>(h.sz r U x D).nsm J ((h.ok r U).2 x D) hm h7)
def TW.set(h:TW k r c m M)(lx:xs.length=c)(ox:OkR k xs)(sx:∀ x∈xs,whk k m x):TW k r c m (M.set i xs):=by
 refine(by rw[vv];exact h.len,λq hq=>?_,λq hq=>?_)
 all_goals
  rcases zL hq with e|e
 ·rw[e];exact(lx,ox)
 ·exact h.ok q e
 ·rw[e];exact sx
 ·exact h.sz q e
def jS(k0:k=0)(h:whk k m x):dB 1 (2^m - 1) x:=by
 obtain⟨i,rfl,hi⟩:=h k0;exact dB.num ()
def zdZ(ox:x.ok k)(h:k=0->dB 1 B x)(hb:B<2^m):whk k m x:=λk0=>by
 have h:=h k0;cases x with
 | z i=>exact bw k0 ox.1
 | q r =>
  obtain⟨a,ea,ha⟩:=h;refine(a,?_,());rw[xb k0];have e1:(((1:Nat):Int):Rat)=1:=by rfl
  rw[e1]at ea;have:r =(a:Rat):=by rw[← ea];grind
  rw[this]
def YH(m1:1<=m)(ox:OkR k x)(h:∀ y∈x,whk k m y):rowB m x:=by
 by_cases k0:k=0
 ·have:2^1<=2^m:=vI () m1;exact(1,(),(),λy hy=>jS k0 (h y hy))
 ·exact xG k0 ox m1
def Xi(J:kab k)(ox:OkR k x)(oy:OkR k y)(lx:x.length=n)(hn:n<=2^c)(D:∀ u∈x,whk k a u)(hy:∀ u∈y,whk k b u):whk k (a+b+c) (ndot k x y):=by
 refine zdZ (B:=n *((2^a - 1) *(2^b - 1))) (yb J ox oy) (λk0=>?_) ?_
 ·exact zdj J ox oy lx (λu hu=>jS k0 (D u hu)) (λu hu=>jS k0 (hy u hu))
 ·have p1:=Gy a;have p2:=Gy b;have p3:=Gy c;rw[uF,uF];have h1:(2^a - 1) *(2^b - 1)<=(2^a - 1)*2^b:=vk _ ();have h2:(2^a - 1)*2^b=2^a*2^b - 2^b:=by rw[wbV,uW]
  have h3:0<2^a*2^b:=wbW p1 p2
  calc n *((2^a - 1) *(2^b - 1))<=2^c *(2^a*2^b - 1):=vN hn ()
   _<2^c *(2^a*2^b):=Nat.mul_lt_mul_of_pos_left () p3
   _=2^a*2^b*2^c:=uQ ..
def zcq(J:kab k)(n4:k=0->n<=4)(hA:TW k r n a A)(ox:OkR k x)(D:∀ u∈x,whk k b u):∀ y∈imgM k A x,whk k (a+b+2) y:=λy hy k0=>by
 unfold imgM at hy;obtain⟨q,hq,rfl⟩:=wm.mp hy;have o:=hA.ok q hq;exact Xi J o.2 ox o.1 (n4 k0) (hA.sz q hq) D k0
def zcj(J:kab k)(n4:k=0->n<=4)(hA:TW k n n a A)(ox:OkR k x)(lx:x.length=n)(D:∀ u∈x,whk k b u):∀ i,∀ y∈powX k A x i,whk k (b+i *(a+2)) y
 | 0=>λy hy=>(D y hy).mono ()
 | i+1=>λy hy=>by
  have o:=qk J hA.ok hA.len ox lx i;exact(zcq J n4 hA o.1 (zcj J n4 hA ox lx D i) y hy).mono (by rw[gK,uW];omega)
def yM(oM:OkM k c M)(h:∀ r∈M,∀ x∈r,whk k m x):∀ r∈kaa c M,∀ x∈r,whk k m x:=λr U x D=>by
 unfold kaa at U;obtain⟨j,hj,rfl⟩:=wm.mp U;obtain⟨q,hq,rfl⟩:=wm.mp D;have hl:=(oM q hq).1;rw[vA]at hj;rw[we,wa ()];exact h q hq _ (wj _)
def zgL(ox:OkR k x)(oy:OkR k y)(D:∀ u∈x,whk k m u)(hy:∀ u∈y,whk k n u):∀ u∈addW k x y,whk k (max m n+1) u:=λu hu=>by
 unfold addW at hu;rw[← wab]at hu;obtain⟨⟨p,q⟩,C,rfl⟩:=wm.mp hu;have m1:=(vt C).1;have m2:=(vt C).2;exact zap (ox p m1) (oy q m2) (D p m1) (hy q m2)
section
def zc2(bs:List Bool) n (h:n=bs.length):(wQ n).any (λi=>bs.getD i false)=bs.any id:=by
 subst h;rw[gO,waD,waD]
 constructor
 ·rintro ⟨i,hi,e⟩
  have hi':=vA.mp hi;refine(bs[i],wj hi',?_)
  simpa [Gu,hi'] using e
 ·rintro ⟨b,hb,e⟩
  obtain⟨i,hi,rfl⟩:=wy hb;exact(i,vA.mpr hi,by simpa [Gu,hi] using e)
def zcX (hc:X.calm=true):kau X (.builtin "any") (λxs H Q=>∃(p:Addr)(bs:List Bool),xs=[.ref p]/\H p=some (.lst (bs.map V.bl))/\Q (.bl (bs.any id)) H):=by
 intro pins s L H xs us Q I r h;obtain⟨p,bs,rfl,hq,q⟩:=h;obtain⟨u,rfl,ru⟩:=Vals.one r;cases ru;obtain⟨its,rv,pl,_⟩:=I.list (SqL.of hq);have hh:X.A.in1.handled=none:=I.ok.hd hc;have lt:= let ⟨_,e,_⟩:=pl.isList;Heap.lt_size e
 have hl:its.length=bs.length:=by rw[← rv.length,wc]
 refine call_any_walk (cN pl.isList ?_);refine(s.heap.objs.size,_,_,_,_,_,λi=>bs.getD i false,V,Walks.list hh s.heap.objs.size p (vp lt) its.toArray,((_,Heap.get?_push_size _ rfl,V,V),pl.isList.at λo e=>Heap.get?_push_of_some _ e),λi v s' Q' E' hv hQ=>?_,λh' tk keep=>?_)
 ·have hv':its[i]?=some v:=by simpa using hv
  have hi:i<bs.length:=by rw[← hl];exact(wu.mp hv').1
  obtain⟨u,hu,ru⟩:=rv.get (by rw[wk,wa hi];rfl);rw[hu]at hv';cases hv';cases ru;refine cC ?_
  simpa [Gu,hi] using hQ
 ·rw[zc2 bs _ (by rw[wV];exact hl)];refine(.bl (bs.any id),H,?_,V,q);exact I.kept (h':=h') (t':=tk) λb o eb=>keep b o (by simp only[wG,vR,or_false];exact vp (Heap.lt_size eb)) (Heap.get?_push_of_some _ eb)
end
section
variable[bf F]
def zbT(u v:Nat->F) p:∀ q,dot (p+q) u v=dot p u v+dot q (λj=>u (p+j)) (λj=>v (p+j))
 | 0=>by show _=_+0;rw[wbN];grind
 | q+1=>by
  show dot (p+q) u v+u (p+q)*v (p+q)=dot p u v +(dot q (λj=>u (p+j)) (λj=>v (p+j))+u (p+q)*v (p+q));rw[zbT u v p q];grind
end
def getT M (hl:l<h):(kaa h M)[l]?=some ((kaa h M).getD l []):=by
 have hl':l <(kaa h M).length:=by rw[zF];exact hl
 rw[we,wa hl'];rfl
section
variable{F:Type}[bf F]{O:Kf k F}
structure LinF(T:(Nat->F)->Nat->F):Prop where
 lin:∀(c:F)(u v:Nat->F)(j:Nat),T (λi=>c*u i+v i) j=c*T u j+T v j
 zer:∀ j,T (λ_=>0) j=0
def LinF.rm(bA:LinF T)(h:∀ r∈M,Rm O Y (T (nv O r)))(hv:Rm O M v):Rm O Y (T v) :=
 hv.all (P:=λv=>Rm O Y (T v)) (Span.cast .zero λj=>(bA.zer j).symm) λc r v ⟨x,D,e⟩ hv=>(((h x D).smul c).add hv).cast λj=>by rw[bA.lin,e]
def JN(u v:Nat->F):∀ n,dot (n+1) u v=u 0*v 0+dot n (λi=>u (i+1)) (λi=>v (i+1))
 | 0=>by show(0:F)+_=_+0;grind
 | n+1=>by
  show dot (n+1) u v+u (n+1)*v (n+1)=_ +(dot n _ _+u (n+1)*v (n+1));rw[JN u v n];grind
def QJ v j:∀(ls:List Nat)(bC:TB),ls.length=bC.length->comb (ls.zip (bC.map (nv O))) v j=dot bC.length (λi=>v (ls.getD i 0)) (λi=>nv O (bC.getD i []) j)
 | [],[],_=>rfl
 | l::ls,u::bC,h=>by
  have ih:=QJ v j ls bC (by simpa using h);show v l*nv O u j+comb (ls.zip (bC.map (nv O))) v j=dot (bC.length+1) _ _;rw[JN,ih];rfl
def expand(h:IsR O n bC lu)(hv:Rm O bC v) j:v j=dot bC.length (λi=>v (lu.getD i 0)) (λi=>nv O (bC.getD i []) j):=by
 rw[← QJ v j lu bC h.len];exact(h.rr.comb (h.rows.mpr hv) j).symm
def Rnk(O:Kf k F)(n:Nat)(M:TB)(r:Nat):Prop:=∃ R ls,IsR O n R ls/\(∀ v,Rm O R v↔Rm O M v)/\R.length=r
def JE(J:kab k)(oM:OkM k n M):∃ R ls,kay O n M R ls/\R.length<=M.length:=by
 have:∃ Ws:List (List Int),Ws.length=M.length/\∀(i:Nat) r ws,M[i]?=some r->Ws[i]?=some ws->∃ b,Scl k r ws b:=by
  induction M with
  | nil=>exact([],V,λi r ws h=>by simp at h)
  | cons m M ih =>
   obtain⟨Ws,l,h⟩:=ih λr U=>oM r (ww _ U)
   obtain⟨b,hb⟩:=xE J (oM m wt).2;refine(m.map (scW b)::Ws,by simp[l],λi r ws h1 h2=>?_);cases i with
   | zero=>simp at h1 h2;subst h1 h2;exact(b,hb)
   | succ i=>exact h i r ws (by simpa using h1) (by simpa using h2)
 obtain⟨Ws,l,h⟩:=this;refine(_,_,qx O J oM l h,?_);have:=jm (k:=k) Ws n;unfold redM;rw[wc];omega
def zhq(h:Rnk O n M r)(h':Rnk O n M' r')(sub:∀ v,Rm O M v->Rm O M' v):r<=r'/\(r'<=r->∀ v,Rm O M' v->Rm O M v):=by
 obtain⟨R,ls,i,e,rfl⟩:=h;obtain⟨R',ls',i',e',rfl⟩:=h';have:=i.sub_len i' λv hv=>(e' v).mpr (sub v ((e v).mp hv))
 exact(this.1,λhl v hv=>(e v).mp (this.2 hl v ((e' v).mpr hv)))
def zfZ(J:kab k)(oY:OkM k n Y)(h:Rnk O n M r)(sub:∀ v,Rm O M v->Rm O Y v):r<=Y.length:=by
 obtain⟨R,ls,red,l⟩:=JE (O:=O) J oY;exact wE (zhq h (R,ls,red.toIsR,λv=>(red.fro v,red.to v),V) sub).1 l
end
section
variable(J:kab k)[bf F](O:Kf k F)
include J
theorem zfN(oM:OkM k n M)(lM:M.length=n)(ow:OkR k w)(lw:w.length=n):∀ i j,j<n->vP (M.map λr=>r.map O.to) n (nv O w) i j=nv O (powX k (kaa n M) w i) j
 | 0,j,hj=>rfl
 | i+1,j,hj=>by
  have oT:OkM k n (kaa n M):=by have:=zw oM;rw[lM]at this;exact this
  have op:=qk J oT (zF n M) ow lw i;have e1:nv O (powX k (kaa n M) w (i+1)) j=limg O n (kaa n M) (nv O (powX k (kaa n M) w i)) j:=yE J oT op.1 op.2 j;rw[e1];show dot n (vP (M.map λr=>r.map O.to) n (nv O w) i) (λi'=>((M.map λr=>r.map O.to).getD i' []).getD j 0)=dot n (nv O ((kaa n M).getD j [])) (nv O (powX k (kaa n M) w i));rw[zM];refine zt λi' hi'=>?_
  rw[zfN oM lM ow lw i i' hi']
  congr 1
  have e2:nv O ((kaa n M).getD j []) i'=nv O (M.getD i' []) j:=zV oM hj;rw[e2];have hi2:i'<M.length:=by omega
  have e3:M.getD i' []=M[i']:=by rw[we,wa hi2];rfl
  have lr:=(oM _ (wj hi2)).1;have e4:(M.map λr=>r.map O.to).getD i' []=M[i'].map O.to:=by rw[we,wk,wa hi2];rfl
  rw[e3,e4,we,wk,wa (),zH O (wa ())]
  rfl
theorem zhF(g:GrP k n M xs)(hi:i<=n):nv O xs i =(La.wgr (M.map λr=>r.map O.to) n).getD (n - i) 0:=by
 rw[g F O i,we,we,uu (by rw[La.yI];omega),La.yI]
 rfl
theorem zjO(n1:1<=n)(n4:n<=4)(oM:OkM k n M)(lM:M.length=n)(g:GrP k n M xs)(ow:OkR k w)(lw:w.length=n)(hj:j<n):dot (n+1) (nv O xs) (λi=>nv O (powX k (kaa n M) w i) j)=0:=by
 have:=zjg (T:=M.map λr=>r.map O.to) (by rw[wc];exact lM) (λr U=>by
  obtain⟨x,D,rfl⟩:=wm.mp U;rw[wc];exact(oM x D).1) (nv O w) hj
 rw[← this];refine zt λi hi=>?_
 rw[zhF J O g (),zfN J O oM lM ow lw i j hj]
theorem zfR(n1:1<=n)(n4:n<=4)(oM:OkM k n M)(lM:M.length=n)(g:GrP k n M xs):nv O xs n=1:=by
 rw[zhF J O g (wv n),uD];exact zix (by rw[wc];exact lM) λr U=>by
  obtain⟨x,D,rfl⟩:=wm.mp U;rw[wc];exact(oM x D).1
end
def hrn(k:Int)(n:Nat)(A:TB)(w xs:List Nb):Nat->List Nb
 | 0=>w
 | t+1=>imgM k (kaa n (A++[w])) (hrn k n A w xs t++[xs.getD (n - 1 - t) (nnum k 0)])
section
variable(J:kab k)(oA:OkM k n A)(lA:A.length=n)(ow:OkR k w)(lw:w.length=n)(ox:OkR k xs)(lx:xs.length=n+1)
include J oA lA ow lw ox lx
theorem zec:OkM k (n+1) (kaa n (A++[w])):=by
 have o:OkM k n (A++[w]):=λr U=>by
  rcases wq.mp U with h|h
  ·exact oA r h
  ·rw[wp.mp h];exact(lw,ow)
 have:=zw o;rw[wD,lA]at this;exact this
theorem Jn:∀ t,t<=n->OkR k (hrn k n A w xs t)/\(hrn k n A w xs t).length=n
 | 0,_=>(ow,lw)
 | t+1,ht=>by
  obtain⟨o,l⟩:=Jn t ();have oT:=zec J oA lA ow lw ox lx;have oy:OkR k (hrn k n A w xs t++[xs.getD (n - 1 - t) (nnum k 0)]):=λx D=>by
   rcases wq.mp D with h|h
   ·exact o x h
   ·rw[wp.mp h,we,wa ()];exact ox _ (wj _)
  have:=YW J oT oy;exact(this.2,this.1.trans (zF n _))
theorem zcs[bf F](O:Kf k F) ys z:nv O (ys++[z]) i=if i<ys.length then nv O ys i else if i=ys.length then O.to z else 0:=by
 rcases wbh i ys.length with h|h|h
 ·rw[bj h,zH O (show(ys++[z])[i]?=some ys[i] by rw[vm h];exact wa h),zH O (wa h)]
 ·subst h;rw[bn (vY _),bj rfl,zH O (show(ys++[z])[ys.length]?=some z by rw[vd (wv _),uD];rfl)]
 ·rw[bn (),bn ()];exact zI O (by rw[wD];show ys.length+1<=i;omega)
theorem ze8[bf F](O:Kf k F)(ht:t<n)(hj:j<n):nv O (hrn k n A w xs (t+1)) j=dot n (nv O (hrn k n A w xs t)) (λi=>nv O (A.getD i []) j)+nv O xs (n - 1 - t)*nv O w j:=by
 obtain⟨o,l⟩:=Jn J oA lA ow lw ox lx t ();have oT:=zec J oA lA ow lw ox lx;have gx:xs[n - 1 - t]?=some (xs.getD (n - 1 - t) (nnum k 0)):=by rw[we,wa ()];rfl
 have oy:OkR k (hrn k n A w xs t++[xs.getD (n - 1 - t) (nnum k 0)]):=λx D=>by
  rcases wq.mp D with h|h
  ·exact o x h
  ·rw[wp.mp h];exact ox _ (wg gx)
 have o2:OkM k n (A++[w]):=λr U=>by
  rcases wq.mp U with h|h
  ·exact oA r h
  ·rw[wp.mp h];exact(lw,ow)
 have e1:nv O (hrn k n A w xs (t+1)) j=limg O (n+1) (kaa n (A++[w])) (nv O (hrn k n A w xs t++[xs.getD (n - 1 - t) (nnum k 0)])) j:=yE J oT oy (by rw[wD,l];rfl) j;rw[e1];show dot n _ _+nv O ((kaa n (A++[w])).getD j []) n*nv O (hrn k n A w xs t++[xs.getD (n - 1 - t) (nnum k 0)]) n=_;have tu:∀ i,nv O ((kaa n (A++[w])).getD j []) i=nv O ((A++[w]).getD i []) j:=λi=>zV o2 hj
 have a1:(A++[w]).getD n []=w:=by rw[we,vd (),lA,uD];rfl
 rw[tu n,a1,zcs J oA lA ow lw ox lx O,bn (),bj l.symm,zH O gx];have s:dot n (nv O ((kaa n (A++[w])).getD j [])) (nv O (hrn k n A w xs t++[xs.getD (n - 1 - t) (nnum k 0)]))=dot n (nv O (hrn k n A w xs t)) (λi=>nv O (A.getD i []) j):=by
  rw[zM];refine zt λi hi=>?_
  rw[tu i,zcs J oA lA ow lw ox lx O,bj ()];have a2:(A++[w]).getD i []=A.getD i []:=by rw[we,vm (),we]
  rw[a2]
 rw[s];grind
theorem zfI[bf F](O:Kf k F)(one:nv O xs n=1)(hj:j<n):∀ t,t<=n->∀ j,j<n->nv O (hrn k n A w xs t) j=dot (t+1) (λi=>nv O xs (n - t+i)) (λi=>nv O (powX k (kaa n A) w i) j)
 | 0,_,j,hj=>by
  show nv O w j=0+nv O xs (n - 0+0)*nv O w j;rw[GK,wbN,one];grind
 | t+1,ht,j,hj=>by
  have oTA:OkM k n (kaa n A):=by have:=zw oA;rw[lA]at this;exact this
  have ih:=zfI O one hj t ();rw[ze8 J oA lA ow lw ox lx O () hj];have e1:dot n (nv O (hrn k n A w xs t)) (λi=>nv O (A.getD i []) j)=dot n (λi'=>dot (t+1) (λi=>nv O xs (n - t+i)) (λi=>nv O (powX k (kaa n A) w i) i')) (λi=>nv O (A.getD i []) j):=zt λi hi=>by rw[ih i hi]
  rw[e1];have sw:∀ m,dot n (λi'=>dot m (λi=>nv O xs (n - t+i)) (λi=>nv O (powX k (kaa n A) w i) i')) (λi=>nv O (A.getD i []) j)=dot m (λi=>nv O xs (n - t+i)) (λi=>nv O (powX k (kaa n A) w (i+1)) j):=by
   intro m
   induction m with
   | zero=>exact dot_zero n _ _ λi _=>by show(0:F)*_=0;grind
   | succ m ihm =>
    show dot n (λi'=>dot m _ _+nv O xs (n - t+m)*nv O (powX k (kaa n A) w m) i') _=dot m _ _+_;rw[jG n (λi'=>dot m (λi=>nv O xs (n - t+i)) (λi=>nv O (powX k (kaa n A) w i) i')) (λi'=>nv O xs (n - t+m)*nv O (powX k (kaa n A) w m) i'),ihm,xn]
    congr 1
    congr 1
    have op:=qk J oTA (zF n A) ow lw m;have e2:nv O (powX k (kaa n A) w (m+1)) j=limg O n (kaa n A) (nv O (powX k (kaa n A) w m)) j:=yE J oTA op.1 op.2 j;show _=nv O (powX k (kaa n A) w (m+1)) j;rw[e2];rw[zM];exact zt λi hi=>by
     have e3:nv O ((kaa n A).getD j []) i=nv O (A.getD i []) j:=zV oA hj;rw[e3]
  rw[sw (t+1)];have fr:∀(u v:Nat->F) m,dot (m+1) u v=u 0*v 0+dot m (λi=>u (i+1)) (λi=>v (i+1)):=by
   intro u v m
   induction m with
   | zero=>show(0:F)+_=_+0;grind
   | succ m ihm =>
    show dot (m+1) u v+u (m+1)*v (m+1)=_ +(dot m _ _+u (m+1)*v (m+1));rw[ihm];grind
  rw[fr _ _ (t+1)];have e4:dot (t+1) (λi=>nv O xs (n - t+i)) (λi=>nv O (powX k (kaa n A) w (i+1)) j)=dot (t+1) (λi=>nv O xs (n - (t+1) +(i+1))) (λi=>nv O (powX k (kaa n A) w (i+1)) j):=zt λi _=>by rw[show n - (t+1) +(i+1)=n - t+i by omega]
  rw[e4];have e5:n - (t+1)+0=n - 1 - t:=by omega
  show _=nv O xs (n - (t+1)+0)*nv O w j+_;rw[e5];grind
end
def Itv(K:bh)(a:Addr)(N:Nat):It :=
 (λi H=>∃ xs x,SqL K H a xs/\i<N/\xs[N - 1 - i]?=some x,λi H x H'=>H'=H/\∀ xs,SqL K H a xs->xs[N - 1 - i]?=some x,λi _=>i=N)
def zeM{K:bh} a it N:Turn P w K tg (Itv K a N) [it] it (λi h=>i<=N/\h.IsRevIter it a ((N:Int) - 1 - (i:Int))) where
 mem:=by simp
 obj:=λi h st b hb=>by
  have e:b=it:=by simpa using hb
  subst e;obtain⟨_,o,e,c,d⟩:=st;exact(o,e,λv z=>by rw[d]at z;cases z)
 keep:=λi h h' st k=>(st.1,st.2.at λo e=>k it (by simp) o e)
 item:=by
  intro X hP hw hK hc i pins s L H E I hf st hg;subst hP hw hK;obtain⟨xs,x,hq,hi,D⟩:=hg;obtain⟨its,rv,p,hz⟩:=I.list hq;obtain⟨u,hu,ru⟩:=rv.get D;obtain⟨f0,f1,f2,f3,f4,f5⟩:=hf it (by simp);have ei:N - 1 - i =((N - 1 - i:Nat):Int):=by omega
  have st1:=st.2;rw[ei]at st1;refine wpAny_pyNext_rev_item st1 p.isList (by simpa using hu) λh' st' sb=>?_
  have I1:Inv X pins L H { s with heap:=h' }:=I.turned (t':=s.toks) (λb o hb e=>(sb.2 b hb).trans e) f0 f1 f3 f4 f5;rw[show((N - 1 - i:Nat):Int) - 1=N - 1 - ((i+1:Nat):Int) by omega]at st';obtain⟨o,e,c,d⟩:=id st';exact(u,V,zeU e c d () (x,H,I1,ru,(V,λys hy=>by rw[I.list_inj hy hq];exact D),(hi,st'),λb hb=>(hf b hb).1))
 done:=by
  intro X hP hw hK hc i pins s L H E I hf st hg;subst hP hw hK;have hi:i=N:=hg;obtain⟨f0,f1,f2,f3,f4,f5⟩:=hf it (by simp);have st1:=st.2;rw[show(N:Int) - 1 - i = -1 by omega]at st1;exact wpAny_pyNext_rev_end (I.ok.hd hc) st1 λh' eb=>(V,I.turned (t':=s.toks) (λb o hb e=>eb b o hb e) f0 f1 f3 f4 f5)
 self:=λ_ _ _ _ _ st h=>wpAny_pyIter_revIter st.2 h
section
variable{K:bh}{tg e:Expr}{p2 pos2:Pos}
def iRev(K:bh)(t:TA):TI:=λL H R=>t L H λxs H1=>∃ a ys,xs=[.ref a]/\SqL K H1 a ys/\R (Itv K a ys.length) H1
def ziG (hK:X.K=K) (hg:Gl X "reversed") (hm:X.mg "reversed" = none) (ha:PA X [e] t)
  (h2:cv [e] X.env =(false,eval e X.env)::cv [] X.env:=by rfl) (h4:(cu pos2 (cv [] X.env)).any (·.1)=false:=by rfl) :
  PI X tg (.Call (.Name "reversed" p2) [e] [] pos2) (iRev K t):=by
 subst hK;intro pins s L H R I h;refine cU (qJ I hg hm PyProof.Rows.boot_reversed ?_);refine PyProof.Rows.callWith_type1 (thn (ha pos2 pins s L H _ I h) λus s1 ⟨vs,H1,I1,r1,q1⟩=>?_) h2 h4;obtain⟨l,ys,rfl,hq,q⟩:=q1;obtain⟨u,rfl,rx⟩:=vals1 r1;cases rx;obtain⟨its,r',pl,hz⟩:=I1.list hq;have hlen:=r'.length;refine call_reversed_list pl.isList ?_;have st:(s1.heap.push (revObj l ((its.toArray.size:Int) - 1))).IsRevIter s1.heap.objs.size l ((its.toArray.size:Int) - 1):=(_,Heap.get?_push_size _ rfl,V,V);refine wpAny_pyIter_revIter st ?_;refine(s1.heap.objs.size,[s1.heap.objs.size],_,_,H1,V,I1.kept (t':=s1.toks) λb o e=>Heap.get?_push_of_some _ e,zeM l _ ys.length,(vD _,?_),λb hb=>?_,q)
 ·rw[show(ys.length:Int) - 1 - ((0:Nat):Int)=its.toArray.size - 1 by rw[wV,← hlen];omega];exact st
 ·have e:b=s1.heap.objs.size:=by simpa using hb
  subst e;exact I1.fpOk (wv _) (I1.hok.fresh (wv _))
end
def zgZ{K:bh}(hN:xs.length=N){g:TG}{tb:TS}{bE:Ends}(Pv:Nat->St->Hp->Prop)(h0:Pv 0 L H)(hl:∀ i L H,i<=N->Pv i L H->SqL K H a xs)
  (hs:∀ i x L H,i<N->xs[N - 1 - i]?=some x->Pv i L H->g x L H λσ2 H2=>tb { bE with nx:=Pv (i+1),ct:=Pv (i+1),bk:=bE.nx } σ2 H2) (hd:∀ L H,Pv N L H->bE.nx L H) :
  ∃ W:Nat->Nat->St->Hp->Prop,(∃ m,W 0 m L H)/\∀ i m L H,W i m L H ->
   ((Itv K a N).stop i H/\bE.nx L H)\/((Itv K a N).go i H/\∃ Z:St->Hp->Prop,(∀ σ' H',Z σ' H'->∃ m',m'<m/\W (i+1) m' σ' H')/\∀ x H',(Itv K a N).yld i H x H'->g x L H' λσ2 H2=>tb { bE with nx:=Z,ct:=Z,bk:=bE.nx } σ2 H2):=by
 refine(λi m L H=>m=N - i/\i<=N/\Pv i L H,(N,by simp,vD _,h0),?_)
 rintro i m L H ⟨rfl,hi,p⟩
 have q:=hl i L H hi p
 by_cases hlt:i<N
 ·have D:N - 1 - i<xs.length:=by omega
  refine .inr ((xs,xs[N - 1 - i],q,hlt,by simp[D]),Pv (i+1),λσ' H' p'=>(N - (i+1),(),V,hlt,p'),λx H' y=>?_);obtain⟨e,y⟩:=y;subst e;exact hs i x L _ hlt (y xs q) p
 ·have e:i=N:=by omega
  subst e;exact .inl (V,hd L H p)
end L2
namespace L2
open PySem PySem.Spec PyProof.Rows
def zh5:cj "all" = some (.builtin "all"):=by decide +kernel
def ziW:cj "any" = some (.builtin "any"):=by decide +kernel
section
variable{X:Cx}[B:Bn p]
def zkh{p pos:Pos}(bE:Kn X.prog X.w X.K X.mg X.base x k ps sp)(ha:PA X (e::es) t)(U:Room j X.A:=by assumption)(hj:k<=j:=by first|decide|omega)(hg:Gl X x:=by rfl)
  (hdb:(x ==("__debug__" : Str))=false:=by decide) (he:cv (e::es) X.env =(false,eval e X.env)::cv es X.env:=by rfl) (hpl:(cu pos (cv es X.env)).any (·.1)=false:=by rfl) :
  PE X (.Call (.Name x p) (e::es) [] pos) (tCall sp [] E0 t):=zkb bE (U.mono hj) hg ha hdb he hpl
def AtN(N:List Str)(i:Nat)(x:Str):Prop:=N[i]?=some x
inductive AtNs(N:List Str):List Nat->List Str->Prop where
 | nil:AtNs N [] []
 | cons {i:Nat} {x:Str} {l:List Nat} {r:List Str}:AtN N i x->AtNs N l r->AtNs N (i::l) (x::r)
def at0:AtN (x::l) 0 x:=rfl
def at1:AtN (a0::x::l) 1 x:=rfl
def at2:AtN (a0::a1::x::l) 2 x:=rfl
def at3:AtN (a0::a1::a2::x::l) 3 x:=rfl
def at4:AtN (a0::a1::a2::a3::x::l) 4 x:=rfl
def at5:AtN (a0::a1::a2::a3::a4::x::l) 5 x:=rfl
def at6:AtN (a0::a1::a2::a3::a4::a5::x::l) 6 x:=rfl
def at7:AtN (a0::a1::a2::a3::a4::a5::a6::x::l) 7 x:=rfl
def at8:AtN (a0::a1::a2::a3::a4::a5::a6::a7::x::l) 8 x:=rfl
def at9:AtN (a0::a1::a2::a3::a4::a5::a6::a7::a8::x::l) 9 x:=rfl
def at10:AtN (a0::a1::a2::a3::a4::a5::a6::a7::a8::a9::x::l) 10 x:=rfl
def at11:AtN (a0::a1::a2::a3::a4::a5::a6::a7::a8::a9::a10::x::l) 11 x:=rfl
def at12:AtN (a0::a1::a2::a3::a4::a5::a6::a7::a8::a9::a10::a11::x::l) 12 x:=rfl
def at13:AtN (a0::a1::a2::a3::a4::a5::a6::a7::a8::a9::a10::a11::a12::x::l) 13 x:=rfl
def at14:AtN (a0::a1::a2::a3::a4::a5::a6::a7::a8::a9::a10::a11::a12::a13::x::l) 14 x:=rfl
def at15:AtN (a0::a1::a2::a3::a4::a5::a6::a7::a8::a9::a10::a11::a12::a13::a14::x::l) 15 x:=rfl
variable{N:List Str}
def pvI {i:Nat} {x:Str} {pos:Pos} (nd:N.Nodup:=by assumption) (hi:AtN N i x:=by fail) (hX:X.N=N:=by rfl) (hv:Vis X.env.scope x:=by first|exact Or.inl rfl|exact Or.inr (Or.inl rfl) | exact Or.inr (Or.inr rfl)) (hd:(x ==("__debug__" : Str))=false:=by decide)
  (hcd:(x ==("__classdict__" : Str))=false:=by decide):PE X (.Name x pos) (tVar i):=ziB (hX ▸ hi) hv hd hcd
def zjX{pos posn:Pos} idx (hi:PI X (.Name y posn) iter wi)
  (hb:∀ bA cells s₀ H₀ ex pn,(y::fre).Nodup->PTs (blk X [y] fre scope bA cells s₀ H₀ ex pn) ifs tt/\PE (blk X [y] fre scope bA cells s₀ H₀ ex pn) elt te)
  (nd:N.Nodup:=by assumption) (hX:X.N=N:=by rfl) (ha:AtNs N idx fre:=by repeat' first|exact AtNs.nil|refine' AtNs.cons ?_ ?_|fail) (nd':(y::fre).Nodup:=by decide +kernel)
  (B:BlkOk X [y] fre idx scope:=by exact(V,V,V,V,V,V,by decide +kernel)) (hc:X.calm=true:=by rfl)
  (hg:∀ bA cells s₀ H₀ ex pn,(y::fre).Nodup->PG (blk X [y] fre scope bA cells s₀ H₀ ex pn) (.Name y posn) (gName 0):=by exact λ_ _ _ _ _ _ h=>Zx (i:=0) h rfl (by first|exact Or.inl rfl|exact Or.inr rfl))
  (hs:∀ x,cO iter X.env x=pure x:=by intro _;rfl):PE X (.ListComp elt [(.Name y posn,iter,ifs,0)] scope pos) (tComp 1 idx wi (gName 0) tt te) :=
 zdA [y] fre idx B hc hi (qi (wbz)) (λa b c d e f=>(hg a b c d e f nd',hb a b c d e f nd')) hs
def zjY{i:Nat}{x:Str}{pos pos' spos posn:Pos} idx (hi:PI X (.Name y posn) iter wi)
  (hb:∀ bA cells s₀ H₀ ex pn,(y::fre).Nodup->PTs (blk X [y] fre scope bA cells s₀ H₀ ex pn) ifs tt/\PE (blk X [y] fre scope bA cells s₀ H₀ ex pn) elt te)
  (nd:N.Nodup:=by assumption) (hX:X.N=N:=by rfl) (ha:AtNs N idx fre:=by repeat' first|exact AtNs.nil|refine' AtNs.cons ?_ ?_|fail) (nd':(y::fre).Nodup:=by decide +kernel)
  (hi':AtN N i x:=by fail) (D:X.env.scope.names.lookup x=some .local:=by rfl)
  (B:BlkOk X [y] fre idx scope:=by exact(V,V,V,V,V,V,by decide +kernel)) (hc:X.calm=true:=by rfl)
  (hg:∀ bA cells s₀ H₀ ex pn,(y::fre).Nodup->PG (blk X [y] fre scope bA cells s₀ H₀ ex pn) (.Name y posn) (gName 0):=by exact λ_ _ _ _ _ _ h=>Zx (i:=0) h rfl (by first|exact Or.inl rfl|exact Or.inr rfl))
  (hsw:swapsWith (.ListComp elt [(.Name y posn,iter,ifs,0)] scope pos) (some (.Name x pos')) spos.line X.env=pure true:=by rfl)
  (hs:∀ x,cO iter X.env x=pure x:=by intro _;rfl):PS X (.Assign [.Name x pos'] (.ListComp elt [(.Name y posn,iter,ifs,0)] scope pos) spos) (tAsgC 1 idx wi (gName 0) tt te i) :=
 zg2 (hX ▸ nd) (hX ▸ hi') D [y] fre idx B hc hi (qi (wbz)) (λa b c d e f=>(hg a b c d e f nd',hb a b c d e f nd')) hsw hs
def zj1{y z:Str}{elt iter:Expr}{ifs:List Expr}{pos py pz tp:Pos}{k1:Nat}{wi:TI}{tt:TT}{te:TE}(idx:List Nat){fre:List Str}(hi:PI X (.Tuple [.Name y py,.Name z pz] k1 tp) iter wi)
  (hb:∀(bA:Addr)(cells:List (Str×Addr))(s₀:Shared)(H₀:Hp)(ex:List Addr)(pn:List (Addr×Obj)),(y::z::fre).Nodup->PTs (blk X [y,z] fre scope bA cells s₀ H₀ ex pn) ifs tt/\PE (blk X [y,z] fre scope bA cells s₀ H₀ ex pn) elt te)
  (nd:N.Nodup:=by assumption) (hX:X.N=N:=by rfl) (ha:AtNs N idx fre:=by repeat' first|exact AtNs.nil|refine' AtNs.cons ?_ ?_|fail) (nd':(y::z::fre).Nodup:=by decide +kernel)
  (B:BlkOk X [y,z] fre idx scope:=by exact(V,V,V,V,V,V,by decide +kernel)) (hc:X.calm=true:=by rfl)
  (hg:∀(bA:Addr)(cells:List (Str×Addr))(s₀:Shared)(H₀:Hp)(ex:List Addr)(pn:List (Addr×Obj)),(y::z::fre).Nodup->PG (blk X [y,z] fre scope bA cells s₀ H₀ ex pn) (.Tuple [.Name y py,.Name z pz] k1 tp) (gTup K0 2 (gCons (gName 0) (gCons (gName 1) gNil))):=by
   exact λ_ _ _ _ _ _ h=>Zz 2 rfl (YR (Zx (i:=0) h rfl (by first|exact Or.inl rfl|exact Or.inr rfl)) (YR (Zx (i:=1) h rfl (by first|exact Or.inl rfl|exact Or.inr rfl)) zcU)))
  (hs:∀ x,cO iter X.env x=pure x:=by intro _;rfl):PE X (.ListComp elt [(.Tuple [.Name y py,.Name z pz] k1 tp,iter,ifs,0)] scope pos) (tComp 2 idx wi (gTup K0 2 (gCons (gName 0) (gCons (gName 1) gNil))) tt te) :=
 zdA [y,z] fre idx B hc hi (ze4 (Yn (qi Nat.zero_lt_two) Yl (Yn (qi Nat.one_lt_two) Yl zc1))) (λa b c d e f=>(hg a b c d e f nd',hb a b c d e f nd')) hs
def zkg{i:Nat}{pos pos':Pos}(he:PE X e te)(hs:swapsWith e (some (.Name x pos')) pos.line X.env=pure false:=by rfl)(nd:N.Nodup:=by assumption)(hi:AtN N i x:=by fail)(hX:X.N=N:=by rfl)(D:Loc X.env.scope x:=by first|exact .inl rfl|exact .inr rfl)(hf:X.fn x=true\/X.env.scope.names.lookup x=some .local:=by first|exact .inl rfl|exact .inr rfl|assumption) :
  PS X (.Assign [.Name x pos'] e pos) (tAsg te (gName i)):=zjG (hX ▸ nd) (hX ▸ hi) D he hs hf
def zj2{i:Nat}{x:Str}{pos:Pos}(nd:N.Nodup:=by assumption)(hi:AtN N i x:=by fail)(hX:X.N=N:=by rfl)(D:Loc X.env.scope x:=by first|exact .inl rfl|exact .inr rfl)(hf:X.fn x=true\/X.env.scope.names.lookup x=some .local:=by first|exact .inl rfl|exact .inr rfl|assumption):PG X (.Name x pos) (gName i):=Zx (hX ▸ nd) (hX ▸ hi) D hf
def zj8{i:Nat}{x:Str}{pos pos':Pos}(he:PE X e te)(ho:PIp X op ti)(nd:N.Nodup:=by assumption)(hi:AtN N i x:=by fail)(hX:X.N=N:=by rfl)(D:Loc X.env.scope x:=by first|exact .inl rfl|exact .inr rfl)(hf:X.fn x=true\/X.env.scope.names.lookup x=some .local:=by first|exact .inl rfl|exact .inr rfl|assumption) :
  PS X (.AugAssign (.Name x pos') op e pos) (tAug i te ti):=zis (hX ▸ nd) (hX ▸ hi) D he ho hf
def zjT{i j:Nat}{x y:Str}{pos px py pt:Pos}{kt k2 pt2}(ha:PA X [a,b] ta)(nd:N.Nodup:=by assumption)(hi:AtN N i x:=by fail)(hj:AtN N j y:=by fail)(hX:X.N=N:=by rfl)(hc:X.calm=true:=by rfl)(hij:i≠j:=by decide)
  (D:X.env.scope.names.lookup x=some .local:=by rfl) (hy:X.env.scope.names.lookup y=some .local:=by rfl)
  (hw:swappedStores [.Tuple [.Name x px,.Name y py] kt pt] (.Tuple [a,b] k2 pt2) X.env=pure (some [x,y]):=by rfl)
  (hs:swapsWithSole [.Tuple [.Name x px,.Name y py] kt pt] (.Tuple [a,b] k2 pt2) pos.line X.env=pure false:=by rfl) :
  PS X (.Assign [.Tuple [.Name x px,.Name y py] kt pt] (.Tuple [a,b] k2 pt2) pos) (tPar i j ta):=ziZ hc (hX ▸ nd) (hX ▸ hi) (hX ▸ hj) hij D hy ha hw hs
def zje(U:Room k X.A:=by assumption)(J:40<=k:=by decide)(hP:X.prog.given.tree=none:=by rfl)(hS:X.base.NoSeer:=by exact Bn.S)(hT:TopOk X:=by exact(_,Z,V,V,V,V)):OpR X (cP .FloorDiv) (rI (λ_ j=>j≠0) λi j=>.int (i.fdiv j)):=zfj U J hP hS hT
def zh0(U:Room k X.A:=by assumption):OpR X (cQ .Eq) (rEqD id):=ziF U
def Jx(U:Room k X.A:=by assumption):OpR X (cQ .NotEq) (rEqD not):=ziP U
def zjW {pos:Pos} (hg:Gl X "GREAT_PRIME" := by rfl) (hm:∃ t,X.mg "GREAT_PRIME" = some (.int GP t):=by exact bn_c (by decide +kernel)):PE X (.Name "GREAT_PRIME" pos) (tC (.int GP)):=by
 obtain⟨t,hm⟩:=hm;exact zhV hg hm (_,rfl)
def zjd(hs:IntEs (a::b::c::d::e::f::g::h::es) ns):PA X (a::b::c::d::e::f::g::h::es) (tInts ns):=zhD ns hs
def ziv {p1 p2 pos pos2:Pos} (ha:PA X [e] t) (hK:X.K=B.K:=by rfl) (hc:X.calm=true:=by rfl) (hg1:Gl X "list" := by rfl) (hm1:X.mg "list" = none:=by exact bn_m ()) (hg2:Gl X "reversed" := by rfl) (hm2:X.mg "reversed" = none:=by exact bn_m ())
  (h1:cv [.Call (.Name "reversed" p2) [e] [] pos2] X.env =(false,eval (.Call (.Name "reversed" p2) [e] [] pos2) X.env)::cv [] X.env:=by rfl)
  (h2:cv [e] X.env =(false,eval e X.env)::cv [] X.env:=by rfl) (h3:(cu pos (cv [] X.env)).any (·.1)=false:=by rfl) (h4:(cu pos2 (cv [] X.env)).any (·.1)=false:=by rfl) :
  PE X (.Call (.Name "list" p1) [.Call (.Name "reversed" p2) [e] [] pos2] [] pos) (tCB (rLR B.K) t):=zbz hK hc hg1 hm1 hg2 hm2 ha h1 h2 h3 h4
def zjR {e tg:Expr} {p2 pos2:Pos} (ha:PA X [e] t) (hK:X.K=B.K:=by rfl) (hg:Gl X "reversed" := by rfl) (hm:X.mg "reversed" = none:=by exact bn_m ())
  (h2:cv [e] X.env =(false,eval e X.env)::cv [] X.env:=by rfl) (h4:(cu pos2 (cv [] X.env)).any (·.1)=false:=by rfl) :
  PI X tg (.Call (.Name "reversed" p2) [e] [] pos2) (iRev B.K t):=ziG hK hg hm ha h2 h4
end
end L2
namespace L2
open PySem PySem.Spec PyProof.Rows Nm
def toI:Nb->Int
 | .q r=>r.num
 | .z i=>i
def zcR(k0:k=0)(h:whk k m x):x=nnum k (toI x)/\Sm m (toI x):=by
 obtain⟨i,e,hi⟩:=h k0;have e2:toI x=i:=by
  rw[e,xb k0];exact Rat.num_intCast i
 rw[e2];exact(e,hi)
def adT(k:Int)(M N:TB):TB:=vK (addR k) M N
def zdU{i:Nat}(h1:M[i]?=some a)(h2:N[i]?=some b):(adT k M N)[i]?=some (addR k a b):=by unfold adT;rw[vL,h1,h2]
section
def YV(h1:∀ r∈inner,r.length<=8/\∀ w∈r,Sm m w)(h2:∀ w∈v,Sm m w):∀ i,∀ w∈La.bpow inner v i,Sm ((i+1) *(m+8)) w
 | 0,w,hw=>(h2 w hw).mono ()
 | i+1,w,hw=>by
  have hw':= hw;obtain⟨r,U,rfl⟩:=wm.mp hw';refine(jE r _ (h1 r U).2 (YV h1 h2 i)).mono ?_;have:=(h1 r U).1;rw[show(i+1+1) *(m+8) =(i+1) *(m+8) +(m+8) by rw[uK]];omega
def zal(h:∀ r∈W,r.length<=8/\∀ w∈r,Sm m w)(s3:s<=7):∀ w∈La.bfac W s,Sm (9 *(m+8)) w:=λw hw=>by
 have row:∀ r,r∈W\/r=[]->∀ x∈r,Sm m x:=λr U x D=>by
  rcases U with U|U
  ·exact(h r U).2 x D
  ·rw[U]at D;cases D
 have gd:∀ i,W.getD i []∈W\/W.getD i []=[]:=λi=>by
  rw[we];cases e:W[i]? with
  | none=>exact .inr rfl
  | some r=>exact .inl (wg e)
 have gx:∀(r:List Int),(∀ x∈r,Sm m x)->∀ i,Sm m (r.getD i 0):=λr U i=>by
  rw[we];cases e:r[i]? with
  | none=>exact yg _
  | some x=>exact U x (wg e)
 unfold La.bfac at hw
 rcases wG.mp hw with e|hw
 ·rw[e];exact kax.mono ()
 rcases wG.mp hw with e|hw
 ·rw[e];exact(gx _ (row _ (gd s)) s).neg.mono ()
 obtain⟨st,hst,rfl⟩:=wm.mp hw;rw[vA]at hst;refine Sm.neg ?_;have l4:((W.getD s []).take s).length<=7:=by rw[wr];omega
 refine(jE _ _ (λx D=>row _ (gd s) x (vn D)) (YV (m:=m) (λr U=>?_) (λx D=>?_) st)).mono ?_
 ·obtain⟨r',hr',rfl⟩:=wm.mp U;have hm:=h r' (vn hr');exact(by rw[wr];omega,λx D=>hm.2 x (vn D))
 ·obtain⟨r',hr',rfl⟩:=wm.mp D;exact gx _ (h r' (vn hr')).2 s
 ·have:(st+1) *(m+8)<=7 *(m+8):=wH _ ();omega
def YG(h:∀ r∈W,r.length<=8/\∀ w∈r,Sm m w):∀ s,s<=8->∀ w∈La.wgr W s,Sm (1+s *(9 *(m+8)+10)) w
 | 0,_,w,hw=>by
  rw[wp.mp hw];exact kax.mono ()
 | s+1,hs,w,hw=>by
  have hw':= hw;obtain⟨pl,_,rfl⟩:=wm.mp hw';refine(jE _ _ (YG h s ()) (λx D=>zal h () x (gZ.mp (uE D)))).mono ?_;rw[qD,show(s+1) *(9 *(m+8)+10)=s *(9 *(m+8)+10) +(9 *(m+8)+10) by rw[uK]];omega
end
def tv{F:Type}[bf F](O:Kf k F)(T:TB):Nat->Nat->F:=λi j=>nv O (T.getD i []) j
section
variable(J:kab k)[bf F](O:Kf k F)
def zcE T:Dt.tab (T.map λr=>r.map O.to)=tv O T:=funext λi=>funext λj=>by
 show((T.map λr=>r.map O.to).getD i []).getD j 0=O.to ((T.getD i []).getD j (nnum k 0));have e:(T.map λr=>r.map O.to).getD i [] =(T.getD i []).map O.to:=by
  rw[we,wk,we];cases T[i]? <;> simp
 rw[e];generalize T.getD i []=r;rw[we,wk,we];cases r[j]? with
 | none=>exact O.num0.symm
 | some x=>rfl
include J
theorem xK{a b c:Nat}(oM:OkM k b M)(oN:OkM k c N)(lN:N.length=b)(hi:i<M.length)(hj:j<c):tv O (kah k c M N) i j=dot b (nv O (M.getD i [])) (λl=>nv O (N.getD l []) j):=by
 have om:=oM _ (wj hi);have gT:=getT N hj;have oT:=zw oN;have oc:=oT _ (wg gT);rw[lN]at oc;have er:(kah k c M N).getD i [] =(kaa c N).map λcol=>ndot k M[i] col:=by
  unfold kah;rw[we,wk,wa hi];rfl
 have e3:M.getD i []=M[i]:=by rw[we,wa hi];rfl
 show nv O ((kah k c M N).getD i []) j=_;rw[er,zH O (show((kaa c N).map λcol=>ndot k M[i] col)[j]?=some (ndot k M[i] ((kaa c N).getD j [])) by rw[wk,gT];rfl),xw O J om.2 oc.2 (by rw[om.1,oc.1]),om.1,e3];exact zt λl _=>by
  have:nv O ((kaa c N).getD j []) l=nv O (N.getD l []) j:=zV oN hj;rw[this]
theorem zgc{A B Fr:TB}(oA:OkM k n A)(lA:A.length=n)(oB:OkM k h B)(lB:B.length=n)(oF:OkM k n Fr)(lF:Fr.length=h)(hi:i<n)(hj:j<n):tv O (rulM k n A B Fr) i j=tv O A i j+tv O (kah k n B Fr) i j:=by
 have oI:=yi J n;have oU:OkM k n (kaj k n++Fr):=λr U=>by
  rcases wq.mp U with g|g
  ·exact oI.1 r g
  ·exact oF r g
 have lU:(kaj k n++Fr).length=n+h:=by rw[wD,oI.2,lF]
 have oG:OkM k (n+h) (augM A B):=λr U=>by
  unfold augM at U;obtain⟨q,hq,e⟩:=wy U;rw[vJ]at e;rw[wO]at hq;have o1:=oA _ (wj (n:=q) ());have o2:=oB _ (wj (n:=q) ());rw[← e];exact(by rw[wD,o1.1,o2.1],λx D=>(wq.mp D).elim (o1.2 x) (o2.2 x))
 have lG:(augM A B).length=n:=by unfold augM;rw[wO];omega
 have e1:=xK (a:=n) J O oG oU lU (i:=i) () hj;rw[show rulM k n A B Fr=kah k n (augM A B) (kaj k n++Fr)from rfl,e1,xK (a:=n) J O oB oF lF () hj];have ha:i<A.length:=by omega
 have hb:i<B.length:=by omega
 have eg:(augM A B).getD i []=A[i]++B[i]:=by rw[we,jV (wa ha) (wa hb)];rfl
 have ea:A.getD i []=A[i]:=by rw[we,wa ha];rfl
 have eb:B.getD i []=B[i]:=by rw[we,wa hb];rfl
 have la:=(oA _ (wj ha)).1;have lb:=(oB _ (wj hb)).1;have sp:∀(u v:Nat->F) m,dot (n+m) u v=dot n u v+dot m (λl=>u (n+l)) (λl=>v (n+l)):=by
  intro u v m
  induction m with
  | zero=>show dot n u v=dot n u v+0;grind
  | succ m ih =>
   show dot (n+m) u v+u (n+m)*v (n+m)=dot n u v +(dot m _ _+u (n+m)*v (n+m));rw[ih];grind
 rw[sp,eg,eb];have nvU:∀ p j,p<n->nv O ((kaj k n).getD p []) j=if j=p then 1 else 0:=λp j C=>by
  have e:(kaj k n).getD p []=kad k n p:=by
   unfold kaj;rw[we,wk,wZ C];rfl
  rw[e,yH C]
  rfl
 have nl:∀ l,l<n->nv O (A[i]++B[i]) l=nv O A[i] l:=λl hl=>by
  have h1:l<A[i].length:=by omega
  rw[zH O (show(A[i]++B[i])[l]?=some A[i][l] by rw[vm h1];exact wa h1),zH O (wa h1)]
 have nr:∀ l,l<h->nv O (A[i]++B[i]) (n+l)=nv O B[i] l:=λl hl=>by
  have h1:l<B[i].length:=by omega
  rw[zH O (show(A[i]++B[i])[n+l]?=some B[i][l] by rw[vd (),la,uR];exact wa h1),zH O (wa h1)]
 congr 1
 ·rw[je hj λq hq ne=>by
   have t2:(kaj k n++Fr).getD q [] =(kaj k n).getD q []:=by rw[we,vm (by rw[oI.2];exact hq),we]
   rw[t2,nvU q j hq,bn (λe=>ne e.symm)];grind]
  have t2:(kaj k n++Fr).getD j [] =(kaj k n).getD j []:=by rw[we,vm (by rw[oI.2];exact hj),we]
  rw[t2,nvU j j hj,bj rfl,nl j hj];show _=nv O (A.getD i []) j;rw[ea];grind
 ·refine zt λl hl=>?_
  have t2:(kaj k n++Fr).getD (n+l) []=Fr.getD l []:=by rw[we,vd (by rw[oI.2];omega),oI.2,uR,we]
  rw[nr l hl,t2]
theorem JU(oA:OkM k n A)(lA:A.length=n)(oB:OkM k n B)(lB:B.length=n):OkM k n (adT k A B)/\(adT k A B).length=n/\∀ i j,i<n->tv O (adT k A B) i j=tv O A i j+tv O B i j:=by
 refine(λr U=>?_,by unfold adT;rw[wO];omega,λi j hi=>?_)
 ·unfold adT at U;obtain⟨i,hi,e⟩:=wy U;rw[vJ]at e;rw[wO]at hi;have o1:=oA _ (wj (n:=i) ());have o2:=oB _ (wj (n:=i) ());rw[← e];exact((Xl (o1.1.trans o2.1.symm)).trans o1.1,zgS J o1.2 o2.2)
 ·have ha:i<A.length:=by omega
  have C:i<B.length:=by omega
  have o1:=oA _ (wj ha);have o2:=oB _ (wj C);have e1:(adT k A B).getD i []=addR k A[i] B[i]:=by rw[we,zdU (wa ha) (wa C)];rfl
  have e2:A.getD i []=A[i]:=by rw[we,wa ha];rfl
  have e3:B.getD i []=B[i]:=by rw[we,wa C];rfl
  show nv O _ j=nv O _ j+nv O _ j;rw[e1,zhC O o1.2 o2.2 (o1.1.trans o2.1.symm),e2,e3]
omit J
end
def zh6(J:kab k)[bf F](O:Kf k F)(oM:OkM k n M)(lM:M.length=n)(g:GrP k n M xs)(h:Dt.Dl n (Dt.NM (tv O M)) f):(∀ i,i<=n->nv O xs i=f (n - i))/\(∀ i,n<i->nv O xs i=0)/\∀ t,n<t->f t=0:=by
 have hw:=Dt.dl_wgr (W:=M.map λr=>r.map O.to) n (by rw[wc,lM];exact wv n) (λr U=>by
  obtain⟨x,D,rfl⟩:=wm.mp U;rw[wc,(oM x D).1];exact wv n) f (by rw[zcE];exact h)
 refine(λi hi=>by rw[zhF J O g hi,hw],λi hi=>?_,λt ht=>by rw[hw t,we,wR (by rw[La.yI];omega)];rfl);rw[g F O i,we,wR (by rw[ud,La.yI];omega)];rfl
def zaY(J:kab k) n:OkR k (zerN k n)/\(zerN k n).length=n:=(λy hy=>by rw[vQ hy];exact zm J 0,by unfold zerN;rw[vf])
def zU{M:TB} h:M.getD i []=M[i]:=by rw[we,wa h];rfl
def zdX(J:kab k)(n4:n<=4)(oM:OkM k n M)(wM:∀ r∈M,∀ x∈r,whk k 20 x)(ox:OkR k xs)(lx:xs.length=n+1)(g:GrP k n M xs):∀ x∈xs,nsm 1008 x:=λx D=>by
 by_cases k0:k=0
 ·subst k0;obtain⟨j,hj,ej⟩:=wy D
  let W:List (List Int):=M.map λr=>r.map toI
  have e1:(M.map λr=>r.map kfRat.to)=W.map λr=>r.map (La.ι:Int->Rat):=by
   rw[vz];refine vo λr U=>?_
   show r.map _ =(r.map toI).map _;rw[vz];refine vo λy hy=>?_
   have:=(zcR rfl (wM r U y hy)).1;show kfRat.to y=La.ι (toI y);rw[← kfRat.num (toI y),← this]
  have e2:=g Rat kfRat j;rw[e1,← Xh hm_ι W n,← waC,zH kfRat (wa hj),ej]at e2;have lW:((La.wgr W n).reverse).length=n+1:=by rw[ud,qD]
  have hj2:j <((La.wgr W n).reverse).length:=by omega
  have e3:(((La.wgr W n).reverse).map (La.ι:Int->Rat)).getD j 0=La.ι (((La.wgr W n).reverse)[j]):=by
   rw[we,wk,wa hj2];rfl
  rw[e3,← kfRat.num]at e2;have e4:=kfRat.inj (ox x D) (zm J _) e2;rw[e4];have mem:= gZ.mp (wj hj2);have sm:=zfJ (λr U=>by
   obtain⟨q,hq,rfl⟩:=wm.mp U;refine(by rw[wc,(oM q hq).1];exact n4,λw hw=>?_);obtain⟨y,hy,rfl⟩:=wm.mp hw;exact(zcR rfl (wM q hq y hy)).2) n n4 _ mem
  refine yc J (sm.mono ?_) ();have:n *(5 *(20+4)+6)<=4 *(5 *(20+4)+6):=wH _ n4;omega
 ·exact(jz J k0 (ox x D)).mono ()
def zes(J:kab k)(oM:OkM k d M)(oN:OkM k c N)(hd:d<=2^e)(wM:∀ r∈M,∀ x∈r,whk k a x)(wN:∀ r∈N,∀ x∈r,whk k b x):∀ r∈kah k c M N,∀ x∈r,whk k (a+b+e) x:=λr U x D=>by
 unfold kah at U;obtain⟨m,hm,rfl⟩:=wm.mp U;obtain⟨q,hq,rfl⟩:=wm.mp D;exact Xi J (oM m hm).2 (zw oN q hq).2 (oM m hm).1 hd (wM m hm) (yM oN wN q hq)
def ziw(oM:OkM k n M)(oN:OkM k n N)(wM:∀ r∈M,∀ x∈r,whk k a x)(wN:∀ r∈N,∀ x∈r,whk k b x):∀ r∈adT k M N,∀ x∈r,whk k (max a b+1) x:=λr U x D=>by
 unfold adT at U;obtain⟨i,hi,e⟩:=wy U;rw[vJ]at e;rw[wO]at hi;have m1:=wj (l:=M) (n:=i) ();have m2:=wj (l:=N) (n:=i) ();rw[← e]at D;exact zgL (oM _ m1).2 (oN _ m2).2 (wM _ m1) (wN _ m2) x D
section
variable[bf F]{O:Kf k F}
def zea(h:IsR O n W lw)(hi:i<W.length)(hc:c<W.length):nv O (W.getD i []) (lw.getD c 0)=if i=c then 1 else 0:=by
 have li:i<lw.length:=by rw[h.len];exact hi
 have lc:c<lw.length:=by rw[h.len];exact hc
 have pi:=h.get (wa li) (wa hi);have pc:=h.get (wa lc) (wa hc);have e1:= zU hi;have e2:lw.getD c 0=lw[c]:=by rw[we,wa lc];rfl
 rw[e1,e2]
 by_cases e:i=c
 ·subst e;rw[bj rfl];exact h.rr.one _ pi
 ·rw[bn e];refine h.rr.oth _ pi _ pc ?_;have inc:=h.inc
  rcases wao e with g|g
  ·exact vp (uJ.mp inc i c li lc g)
  ·exact λz=>vp (uJ.mp inc c i lc li g) z.symm
def zgr(J:kab k)(iW:IsRa k n W lw)(lW:W.length=l)(oX:OkM k n X)(lX:X.length=n)(oN:OkM k l N)(lN:N.length=l)(cl:∀ i,i<l->Rm O W (nv O (imgM k (kaa n X) (W.getD i []))))(eN:∀ i c,i<l->c<l->tv O N i c=nv O (imgM k (kaa n X) (W.getD i [])) (lw.getD c 0))
  (gp:GrP k l N ps) (gg:GrP k n X gs):∃ q:Nat->F,(∀ j,nv O gs j=La.pmu j (nv O ps) q)/\∀ t,n - l<t->q t=0:=by
 subst lW;have iR:=iW F O;have ok:=ye J iW;have fl:=jP J iW;have row:∀ i,i<W.length->OkR k (W.getD i [])/\(W.getD i []).length=n:=λi hi=>by
  rw[zU hi];have:=ok.1 _ (wj hi);exact(this.2,this.1)
 have oXt:OkM k n (kaa n X):=by have:=zw oX;rw[lX]at this;exact this
 have im:∀ i j,i<W.length->j<n->nv O (imgM k (kaa n X) (W.getD i [])) j=Dt.sg (λq=>tv O W i q*tv O X q j) n:=λi j hi hj=>by
  rw[yE J oXt (row i hi).1 (row i hi).2];show dot n (nv O ((kaa n X).getD j [])) (nv O (W.getD i []))=_;rw[Dt.dot_sg];refine Dt.sg_congr n λq _=>?_
  have:nv O ((kaa n X).getD j []) q=nv O (X.getD q []) j:=zV oX hj;rw[this];show _=nv O (W.getD i []) q*nv O (X.getD q []) j
  grind
 have lmem:∀ c,c<W.length->lw.getD c 0∈lw:=λc hc=>by
  have lc:c<lw.length:=by rw[iR.len];exact hc
  rw[we,wa lc];exact wj lc
 have fget:= λb hb=>by
  have:(kak n lw).getD b 0∈kak n lw:=by rw[we,wa hb];exact wj hb
  exact(yw n lw _).mp this
 obtain⟨f,hf,_⟩:=Dt.Dl.ex (Dt.loc0) (Dt.NM_nr (tv O N) W.length);obtain⟨g,hg,zg⟩:=Dt.dl_div (E:=λi b=>Dt.idm i ((kak n lw).getD b 0) - Dt.sg (λc=>Dt.idm i (lw.getD c 0)*tv O W c ((kak n lw).getD b 0)) W.length) (K:=λb j=>Dt.idm ((kak n lw).getD b 0) j)
  (λi j hi hj=>by
   rw[← im i j hi hj,expand iR (cl i hi) j,Dt.dot_sg];exact Dt.sg_congr _ λc hc=>by rw[eN i c hi hc];rfl)
  (λi j hi hj=>by
   rw[Dt.sg_idr (tv O W i) n (ok.2.2.2 _ (lmem j hj))];show nv O (W.getD i []) (lw.getD j 0)=_;rw[zea iR hi hj];rfl)
  (λi j hi hj=>by
   by_cases c:j∈lw
   ·obtain⟨a,la,ea⟩:=wy c;have ha:a<W.length:=by rw[← iR.len];exact la
    have e2:lw.getD a 0=j:=by rw[we,wa la];exact ea
    rw[Dt.sg_congr W.length (g:=λc=>Dt.idm i (lw.getD c 0)*Dt.idm c a) (λc hc=>by
     show _*nv O (W.getD c []) j=_;rw[← e2,zea iR hc ha];rfl),Dt.sg_idr (λc=>Dt.idm i (lw.getD c 0)) W.length ha,e2]
    rw[Dt.sg_0 λb hb=>by rw[Dt.idm_ne (λz:(kak n lw).getD b 0=j=>(fget b hb).2 (by rw[z];exact c))];grind]
    grind
   ·obtain⟨a,la,ea⟩:=wy ((yw n lw j).mpr (hj,c));have e2:(kak n lw).getD a 0=j:=by rw[we,wa la];exact ea
    rw[Dt.sg_congr (kak n lw).length (g:=λb=>(Dt.idm i ((kak n lw).getD b 0) - Dt.sg (λc=>Dt.idm i (lw.getD c 0)*tv O W c ((kak n lw).getD b 0)) W.length)*Dt.idm b a) (λb hb=>by
     congr 1
     by_cases z:b=a
     ·rw[z,e2,Dt.idm_self,Dt.idm_self]
     ·rw[Dt.idm_ne z,Dt.idm_ne];intro y;have eb:(kak n lw)[b] =(kak n lw)[a]:=by
       rw[we,wa hb]at y;rw[ea];exact y
      have inc:=jr n lw
      rcases wao z with g|g
      ·have:=uJ.mp inc b a hb la g;omega
      ·have:=uJ.mp inc a b la hb g;omega)]
    rw[Dt.sg_idr (λb=>Dt.idm i ((kak n lw).getD b 0) - Dt.sg (λc=>Dt.idm i (lw.getD c 0)*tv O W c ((kak n lw).getD b 0)) W.length) _ la,e2]) hf
 obtain⟨a1,a2,a3⟩:=zh6 J O oN lN gp hf;obtain⟨b1,b2,b3⟩:=zh6 J O oX lX gg hg;have em:(kak n lw).length=n - W.length:=by omega
 rw[em]at zg;refine(λt=>if t<=n - W.length then g (n - W.length - t)else 0,λj=>?_,λt ht=>bn (by omega))
 rcases wJ n j with h|h
 ·rw[b2 j h];have ep:= a2;rw[Dt.pmu_top _ ep];exact(Dt.sg_0 λi hi=>by
   split
   ·rw[bn (by omega)];grind
   ·rfl).symm
 ·rw[b1 j h,Dt.pmu_rev2 a3 zg a2 (λt ht=>bn (by omega)) a1 (λi hi=>bj hi) (by omega),show W.length +(n - W.length) - j=n - j by omega]
  rfl
end
section
variable(J:kab k)(oA:OkM k n A)(lA:A.length=n)(oM:OkM k n M)(lM:M.length=n)
include J oM lM
theorem zf9[bf F](O:Kf k F)(ow:OkR k w)(lw:w.length=n) i (hj:j<n):nv O (powX k (kaa n M) w (i+1)) j=Dt.sg (λq=>nv O (powX k (kaa n M) w i) q*tv O M q j) n:=by
 have oT:OkM k n (kaa n M):=by have:=zw oM;rw[lM]at this;exact this
 have lT:(kaa n M).length=n:=by unfold kaa;rw[wc,ve]
 have op:=qk J oT lT ow lw i;show nv O (imgM k (kaa n M) (powX k (kaa n M) w i)) j=_;rw[yE J oT op.1 op.2];show dot n (nv O ((kaa n M).getD j [])) _=_;rw[Dt.dot_sg];refine Dt.sg_congr n λq _=>?_
 have:nv O ((kaa n M).getD j []) q=nv O (M.getD q []) j:=zV oM hj;rw[this];show _=_*nv O (M.getD q []) j
 grind
include oA lA
theorem zb5(n1:1<=n)(n4:n<=4){S:TB}(oS:OkM k n S)(lS:S.length=n){w ps ys:List Nb}(ow:OkR k w)(lw:w.length=n)(op:OkR k ps)(lp:ps.length=n+1)(oy:OkR k ys)(ly:ys.length=n+1)(g:GrP k n M ys)
  (h:∀(F:Type) [bf F] (O:Kf k F),nv O ps n=1/\(∀ i,i<n->dot n (nv O w) (nv O (S.getD i []))=if i+1=n then 1 else 0)/\(∀ i,i+1<n->∀ q,q<n->tv O S (i+1) q=dot n (nv O (A.getD q [])) (nv O (S.getD i [])))/\∀ q j,q<n->j<n->tv O M q j=tv O A q j - tv O S 0 q*nv O (hrn k n A w ps n) j):ys=ps:=by
 obtain⟨F,_,_,⟨O⟩⟩:=zD J;obtain⟨one,hw,hs,hM⟩:=h F O;have oney:=zfR J O n1 n4 oM lM g;have key:=Dt.acker n1 (r:=λi=>nv O (powX k (kaa n A) w i)) (r':=λi=>nv O (powX k (kaa n M) w i)) (μ:=nv O (hrn k n A w ps n)) (p:=nv O ps) (y:=nv O ys)
  (λi hi q hq=>by rw[hs i hi q hq,Dt.dot_sg];rfl) (λq _=>rfl) (λi j hj=>zf9 J oA lA O ow lw i hj) (λi hi=>by rw[← hw i hi,Dt.dot_sg];rfl)
  (λj hj=>by
   rw[zfI J oA lA ow lw op lp O one hj n (wv n) j hj];show dot n _ _+nv O ps (n - n+n)*nv O (powX k (kaa n A) w n) j=_;rw[show n - n+n=n by omega,one,Dt.dot_sg,Dt.sg_congr n (g:=λi=>nv O ps i*nv O (powX k (kaa n A) w i) j) (λi _=>by rw[show n - n+i=i by omega])];grind)
  hM (λj _=>rfl) (λi j hj=>zf9 J oM lM O ow lw i hj)
  (λj hj=>by
   have c:=zjO J O n1 n4 oM lM g ow lw hj;have c':dot n (nv O ys) (λi=>nv O (powX k (kaa n M) w i) j)+nv O ys n*nv O (powX k (kaa n M) w n) j=0:=c;rw[oney,Dt.dot_sg]at c'
   grind)
 refine Yb O oy op (ly.trans lp.symm) λj=>?_
 rcases wJ j n with hj|hj
 ·exact key j hj
 ·rcases vC hj with g2|g2
  ·rw[zI O (),zI O ()]
  ·rw[← g2,oney,one]
end
def zbe(J:kab k)(iR:IsRa k n R lr)(iW:IsRa k n W lw)(eR:kas k R (M++[x]))(eW:kas k W M)[bf F](O:Kf k F)(h:Rm O M (nv O x)):R.length=W.length:=by
 have sub:= λv hv=>(eR F O v).mpr (((eW F O v).mp hv).mono λu ⟨r,U,e⟩=>(r,vh _ U,e))
 have sub2:= λv hv=>(eW F O v).mpr (((eR F O v).mp hv).bind λu ⟨r,U,e⟩=>by
  rcases wq.mp U with h'|h'
  ·exact .of (r,h',e)
  ·rw[wp.mp h']at e;rw[e];exact h)
 have a:=((iW F O).sub_len (iR F O) sub).1;have b:=((iR F O).sub_len (iW F O) sub2).1;omega
def zbu{l:List Nat}(pw:l.Pairwise (·<·))(lt:∀ x∈l,x<n)(hl:l.length=n)(C:p<n):p∈l:=by
 have g:=uJ.mp pw;have lo:∀ i (hi:i<l.length),i<=l[i]:=by
  intro i
  induction i with
  | zero=>intro _;omega
  | succ i ih=>intro hi;have:=ih ();have:=g i (i+1) () hi ();omega
 have hiB:∀ t i (hi:i<l.length),i+t+1=n->l[i]<=i:=by
  intro t
  induction t with
  | zero=>intro i hi e;have:=lt _ (wj hi);omega
  | succ t ih=>intro i hi e;have:=ih (i+1) () ();have:=g i (i+1) hi () ();omega
 have h1:=lo p ();have h2:=hiB (n - 1 - p) p () ();have e:l[p]'()=p:=by omega
 rw[← e];exact wj _
def uOr(k:Int)(h:Nat)(u:List Nb):Prop:=u=zerN k h\/∃ q,q<h/\u=kad k h q
def uOr.ok(J:kab k)(o:uOr k h u):OkR k u/\u.length=h/\∀ x∈u,whk k 1 x:=by
 rcases o with rfl|⟨q,_,rfl⟩
 ·obtain⟨oz,lz⟩:=zaY J h;exact(oz,lz,λx D=>by rw[vQ D];exact λ_=>(0,V,()))
 ·have o:=xy J h q;refine(o.2,o.1,λx D=>?_);unfold kad at D;obtain⟨j,_,rfl⟩:=wm.mp D;intro k0
  split
  ·exact(1,V,())
  ·exact(0,V,())
structure ChL(k:Int)(n h:Nat)(A B:TB)(hd i:Nat)(S bC:TB):Prop where
 lS:S.length=i+1
 lU:bC.length=i
 oS:OkM k n S
 oU:∀ u∈bC,uOr k h u
 st:S[0]? =(kaa h B)[hd]?
 nx:∀ j,j<i->S.getD (j+1) []=nextM k A B (S.getD j []) (bC.getD j [])
 fr:∀(F:Type) [bf F] (O:Kf k F) (j:Nat),j<=i->¬ Rm O (S.take j) (nv O (S.getD j []))
 sz:∀ j,j<=i->∀ x∈S.getD j [],whk k (14+17*j) x
section
variable(J:kab k)(wA:TW k n n 14 A)(wB:TW k n h 14 B)
include J wA wB
theorem Yh:TW k n (n+h) 14 (augM A B):=by
 have g:∀ r∈augM A B,∃ a∈A,∃ b∈B,r=a++b:=λr U=>by
  unfold augM at U;obtain⟨i,hi,e⟩:=wy U;rw[vJ]at e;exact(_,wj _,_,wj _,e.symm)
 refine(by unfold augM;rw[wO,wA.len,wB.len];omega,λr U=>?_,λr U x D=>?_)
 ·obtain⟨a,ha,b,hb,rfl⟩:=g r U;have o1:=wA.ok a ha;have o2:=wB.ok b hb;exact(by rw[wD,o1.1,o2.1],λx D=>(wq.mp D).elim (o1.2 x) (o2.2 x))
 ·obtain⟨a,ha,b,hb,rfl⟩:=g r U;exact(wq.mp D).elim (wA.sz a ha x) (wB.sz b hb x)
theorem zan(ox:OkR k x)(ou:OkR k u):OkR k (nextM k A B x u)/\(nextM k A B x u).length=n:=by
 have t:=Yh J wA wB;refine(λz hz=>?_,by rw[← t.len];exact wc _);obtain⟨q,hq,rfl⟩:=wm.mp hz;exact yb J (t.ok q hq).2 λy hy=>(wq.mp hy).elim (ox y) (ou y)
theorem Qp[bf F](O:Kf k F)(ox:OkR k x)(lx:x.length=n)(ou:OkR k u)(lu:u.length=h)(hj:j<n):nv O (nextM k A B x u) j=dot n (nv O (A.getD j [])) (nv O x)+dot h (nv O (B.getD j [])) (nv O u):=by
 have t:=Yh J wA wB;have oxu:= λy hy=>(wq.mp hy).elim (ox y) (ou y)
 have ha:j<A.length:=by rw[wA.len];exact hj
 have hb:j<B.length:=by rw[wB.len];exact hj
 show nv O (imgM k (augM A B) (x++u)) j=_;rw[yE J t.ok oxu (by rw[wD,lx,lu])];show dot (n+h) (nv O ((augM A B).getD j [])) (nv O (x++u))=_;have eg:(augM A B).getD j []=A[j]++B[j]:=by rw[we,jV (wa ha) (wa hb)];rfl
 have la:=(wA.ok _ (wj ha)).1;rw[zbT,eg,zU ha,zU hb]
 congr 1
 ·exact zt λl hl=>by rw[jC,bj (),jC,bj ()]
 ·exact zt λl hl=>by rw[jC,bn (),jC,bn (),la,lx,uR]
theorem ze3(m1:1<=m)(nh:n+h<=8)(ox:OkR k x)(ou:OkR k u)(sx:∀ y∈x,whk k m y)(su:∀ y∈u,whk k 1 y):∀ y∈nextM k A B x u,whk k (17+m) y:=λy hy=>by
 have t:=Yh J wA wB;obtain⟨q,hq,rfl⟩:=wm.mp hy;exact(Xi J (t.ok q hq).2 (λy hy=>(wq.mp hy).elim (ox y) (ou y)) (t.ok q hq).1 (show n+h<=2^3 by omega) (t.sz q hq) (λy hy=>(wq.mp hy).elim (sx y) λg=>(su y g).mono m1)).mono ()
theorem ChL.start(hb:(kaa h B)[hd]?=some b)(no:∀ F [bf F] (O:Kf k F),¬ Rm O [] (nv O b)):ChL k n h A B hd 0 [b] []:=by
 have oT:OkM k n (kaa h B):=by have:=zw wB.ok;rw[wB.len]at this;exact this
 have m:=wg hb;refine(V,V,λr U=>by rw[wp.mp U];exact oT b m,λu hu=>(nomatch hu),hb.symm,λj hj=>bw hj (ue _),λF _ O j hj=>?_,λj hj=>?_)
 ·obtain rfl:j=0:=by omega
  exact no F O
 ·obtain rfl:j=0:=by omega
  exact yM wB.ok wB.sz b m
theorem ChL.more(c:ChL k n h A B hd i S bC)(nh:n+h<=8)(ou:uOr k h u)(no:∀ F [bf F] (O:Kf k F),¬ Rm O S (nv O (nextM k A B (S.getD i []) u))):ChL k n h A B hd (i+1) (S++[nextM k A B (S.getD i []) u]) (bC++[u]):=by
 have lS:=c.lS;have lU:=c.lU;have mi:S.getD i []∈S:=by rw[zU (show i<S.length by omega)];exact wj _
 have oi:=c.oS _ mi;have o:=ou.ok J;have g1:∀ j,j<=i->(S++[nextM k A B (S.getD i []) u]).getD j []=S.getD j []:=λj hj=>by rw[we,vm (),we]
 have g2:(S++[nextM k A B (S.getD i []) u]).getD (i+1) []=nextM k A B (S.getD i []) u:=by rw[we,vd (),lS,uD];rfl
 have g3:∀ j,j<i->(bC++[u]).getD j []=bC.getD j []:=λj hj=>by rw[we,vm (),we]
 have g4:(bC++[u]).getD i []=u:=by rw[we,vd (),lU,uD];rfl
 refine(by rw[wD,lS];rfl,by rw[wD,lU];rfl,λr U=>?_,λv hv=>?_,by rw[vm ()];exact c.st,λj hj=>?_,λF _ O j hj=>?_,λj hj=>?_)
 ·rcases wq.mp U with g|g
  ·exact c.oS r g
  ·rw[wp.mp g];have:=zan J wA wB oi.2 o.1;exact(this.2,this.1)
 ·rcases wq.mp hv with g|g
  ·exact c.oU v g
  ·rw[wp.mp g];exact ou
 ·rcases vC (vM hj)with g|g
  ·rw[g1 (j+1) (),g1 j (),g3 j g];exact c.nx j g
  ·subst g;rw[g2,g1 j (wv _),g4]
 ·rcases vC hj with g|g
  ·rw[g1 j (),Gg ()];exact c.fr F O j ()
  ·subst g;rw[g2,Gg (),wo ()];exact no F O
 ·rcases vC hj with g|g
  ·rw[g1 j ()];exact c.sz j ()
  ·subst g;rw[g2];exact λx D=>(ze3 J wA wB (show 1<=14+17*i by omega) nh oi.2 o.1 (c.sz i (wv _)) o.2.2 x D).mono ()
theorem zhA{F:Type}[bf F](O:Kf k F){S:TB}(cols:∀ b∈kaa h B,Rm O S (nv O b)){u:List Nb}(o:uOr k h u):Rm O S (λj=>if j<n then dot h (nv O (B.getD j [])) (nv O u)else 0):=by
 rcases o with rfl|⟨q,hq,rfl⟩
 ·refine Span.cast .zero λj=>?_
  split
  ·exact(dot_zero h _ _ λl _=>by rw[zgp J O];grind).symm
  ·rfl
 ·have gT:=getT B hq;refine Span.cast (cols _ (wg gT)) λj=>?_
  have oT:OkM k n (kaa h B):=by have:=zw wB.ok;rw[wB.len]at this;exact this
  split
  ·rename_i hj;have e:nv O ((kaa h B).getD q []) j=nv O (B.getD j []) q:=zV wB.ok hq;rw[je hq λl hl ne=>by rw[yH hq];show _ *(if l=q then(1:F)else 0)=0;rw[bn ne];grind,yH hq];rw[e];show _=_ *(if q=q then(1:F)else 0);rw[bj rfl];grind
  ·have l:=(oT _ (wg gT)).1;exact zI O ()
theorem ChL.stuck{hd i:Nat}{S bC:TB}(c:ChL k n h A B hd i S bC)(hi:i+1<n){R:TB}{lr:List Nat}(iR:IsRa k n R lr)(eR:kas k R (kry k A (kaa h B) n))(l:R.length=n){F:Type}[bf F](O:Kf k F)(dr:Rm O S (nv O (imgM k A (S.getD i []))))(cols:∀ b∈kaa h B,Rm O S (nv O b)):False:=by
 have lin:LinF (limg O n A):=(λc u v j=>qm A c u v j,λj=>xH A j);have oT:OkM k n (kaa h B):=by have:=zw wB.ok;rw[wB.len]at this;exact this
 have lS:=c.lS;have row:∀ j,j<=i->OkR k (S.getD j [])/\(S.getD j []).length=n/\S.getD j []∈S:=λj hj=>by
  have m:S.getD j []∈S:=by rw[zU ()];exact wj _
  exact((c.oS _ m).2,(c.oS _ m).1,m)
 have st:∀ r∈S,Rm O S (limg O n A (nv O r)):=λr U=>by
  obtain⟨j,hj,e⟩:=wy U;have ej:S.getD j []=r:=by rw[zU hj];exact e
  rw[← ej];have rj:=row j ();have el:limg O n A (nv O (S.getD j []))=nv O (imgM k A (S.getD j [])):=funext λq=>(yE J wA.ok rj.1 rj.2.1 q).symm
  rcases wJ j i with g|g
  ·have uj:uOr k h (bC.getD j []):=c.oU _ (by rw[zU (by rw[c.lU];exact g)];exact wj _);have o:=uj.ok J;have r1:=row (j+1) ();refine Span.cast ((Span.of (_,r1.2.2,V)).add ((zhA J wA wB O cols uj).smul (-1))) λq=>?_
   rcases wJ q n with hq|hq
   ·rw[bj hq,c.nx j g,Qp J wA wB O rj.1 rj.2.1 o.1 o.2.1 hq];show _=dot n _ _
    grind
   ·rw[bn (),zI O (),el,zI O (by show(GQ _ A).length<=q;rw[wc,wA.len];exact hq)];grind
  ·have:j=i:=by omega
   rw[el,this];exact dr
 have all:∀ b∈kaa h B,∀ t,Rm O S (nv O (powX k A b t)):=by
  intro b hb t
  induction t with
  | zero=>exact cols b hb
  | succ t ih =>
   have op:=qk J wA.ok wA.len (oT b hb).2 (oT b hb).1 t;have e:limg O n A (nv O (powX k A b t))=nv O (powX k A b (t+1)):=funext λq=>(yE J wA.ok op.1 op.2 q).symm
   rw[← e];exact lin.rm st ih
 have le:=zfZ (O:=O) J c.oS (R,lr,iR F O,λ_=>Iff.rfl,V) λv hv=>((eR F O v).mp hv).bind λu ⟨x,D,e⟩=>by
  obtain⟨b,hb,j,_,rfl⟩:=jF n x D;rw[e];exact all b hb j
 omega
omit wA wB
theorem ChL.full{hd i:Nat}{S bC:TB}(c:ChL k n h A B hd i S bC)(hi:i+1=n)(F:Type)[bf F](O:Kf k F){p:Nat}(C:p<n):Rm O S (kar p 1):=by
 have lS:=c.lS;have ok:∀ j,OkM k n (S.take j):=λj r U=>c.oS r (vn U)
 have rk:∀ j,j<=n->Rnk O n (S.take j) j:=by
  intro j
  induction j with
  | zero =>
   intro _;obtain⟨R,ls,red,l⟩:=JE (O:=O) J (ok 0);exact(R,ls,red.toIsR,λv=>(red.fro v,red.to v),by rw[waU]at l;exact wbX.mp l)
  | succ j ih =>
   intro hj;obtain⟨R,ls,iR,eR,lR⟩:=ih ();obtain⟨R',ls',red,l'⟩:=JE (O:=O) J (ok (j+1));have tk:S.take (j+1)=S.take j++[S.getD j []]:=by
    rw[zU ()];exact vU ()
   have sub:= λv hv=>red.to v (((eR v).mp hv).mono λu ⟨r,U,e⟩=>(r,by rw[tk];exact vh _ U,e))
   have a:=iR.sub_len red.toIsR sub;have ne:¬ R'.length<=R.length:=λg=>by
    have m:= red.to _ (.of (_,by rw[tk];exact wL _ wt,V));exact c.fr F O j () ((eR _).mp (a.2 g _ m))
   rw[wr]at l';exact(R',ls',red.toIsR,λv=>(red.fro v,red.to v),())
 obtain⟨R,ls,iR,eR,lR⟩:=rk n (wv n);rw[wo ()]at eR;refine(eR _).mp ?_;obtain⟨u,hu,eu⟩:=iR.take_off (kar p 1);have lt:∀ l∈ls,l<n:=λl hl=>by
  obtain⟨a,r,h1,h2⟩:=iR.lead_of hl;exact iR.rr.lt _ (iR.get h1 h2)
 refine hu.cast λj=>?_
 rcases wJ j n with hj|hj
 ·exact eu j (zbu iR.inc lt (iR.len.trans lR) hj)
 ·rw[iR.supp hu j hj];show(0:F)=if j=p then 1 else 0
  rw[bn ()]
end
section
variable(J:kab k)(wA:TW k n n 14 A)(wB:TW k n h 14 B)(ch:ChL k n h A B hd i S bC)(hi:i+1=n)(oD:OkM k n bE)(lD:bE.length=n)(pair:∀(F:Type) [bf F] (O:Kf k F) (a b:Nat),a<n->b<n->dot n (nv O (S.getD a [])) (λl=>nv O (bE.getD l []) b)=if a=b then 1 else 0)
def ruF(k:Int)(h:Nat)(bE bC:TB):TB:=kaa h (kah k h bE (bC++[zerN k h]))
include J ch hi
theorem chU:OkM k h (bC++[zerN k h])/\(bC++[zerN k h]).length=n:=by
 refine(λr U=>?_,by rw[wD,ch.lU];exact hi)
 rcases wq.mp U with g|g
 ·have o:=(ch.oU r g).ok J;exact(o.2.1,o.1)
 ·rw[wp.mp g];obtain⟨oz,lz⟩:=zaY J h;exact(lz,oz)
include oD lD
theorem zcv:OkM k n (ruF k h bE bC)/\(ruF k h bE bC).length=h:=by
 obtain⟨oU,lU⟩:=chU J ch hi;have o:=yB J oD oU;have l:(kah k h bE (bC++[zerN k h])).length=n:=o.1.trans lD;refine(?_,by unfold ruF kaa;rw[wc,ve]);have:=zw (show OkM k h (kah k h bE (bC++[zerN k h]))from o.2);rw[l]at this;exact this
include pair
theorem zig{F:Type}[bf F](O:Kf k F){a q:Nat}(ha:a<n)(hq:q<h):dot n (nv O ((ruF k h bE bC).getD q [])) (nv O (S.getD a []))=nv O ((bC++[zerN k h]).getD a []) q:=by
 obtain⟨oU,lU⟩:=chU J ch hi;have o:=yB J oD oU;have e:∀ l,l<n->nv O ((ruF k h bE bC).getD q []) l=dot n (nv O (bE.getD l [])) (λt=>nv O ((bC++[zerN k h]).getD t []) q):=λl hl=>by
  have t1:nv O ((kaa h (kah k h bE (bC++[zerN k h]))).getD q []) l=nv O ((kah k h bE (bC++[zerN k h])).getD l []) q:=zV (show OkM k h (kah k h bE (bC++[zerN k h]))from o.2) hq;show nv O ((kaa h (kah k h bE (bC++[zerN k h]))).getD q []) l=_;rw[t1];exact xK (a:=n) J O oD oU lU (by rw[lD];exact hl) hq
 rw[zM,zt (v':=λl=>dot n (nv O (bE.getD l [])) (λt=>nv O ((bC++[zerN k h]).getD t []) q)) (u':=nv O (S.getD a [])) (λl hl=>by rw[e l hl]),jX];rw[zt (u':=λt=>if a=t then(1:F)else 0) (v':=λt=>nv O ((bC++[zerN k h]).getD t []) q) (λt ht=>by rw[pair F O a t ha ht]),je ha λt ht ne=>by rw[bn (λz=>ne z.symm)];grind,bj rfl];grind
include wA wB
theorem zeR{F:Type}[bf F](O:Kf k F){a:Nat}(ha:a+1<n){q:Nat}(hq:q<n):tv O S (a+1) q=dot n (nv O ((rulM k n A B (ruF k h bE bC)).getD q [])) (nv O (S.getD a [])):=by
 obtain⟨oU,lU⟩:=chU J ch hi;obtain⟨oF,lF⟩:=zcv J ch hi oD lD;have lS:=ch.lS;have ma:S.getD a []∈S:=by rw[zU ()];exact wj _
 have oa:=ch.oS _ ma;have au:a<bC.length:=by rw[ch.lU];omega
 have ou:=(ch.oU (bC.getD a []) (by rw[zU au];exact wj _)).ok J;have eu:(bC++[zerN k h]).getD a []=bC.getD a []:=by rw[we,vm au,we]
 show nv O (S.getD (a+1) []) q=_;rw[ch.nx a (),Qp J wA wB O oa.2 oa.1 ou.1 ou.2.1 hq];rw[zt (u:=nv O ((rulM k n A B (ruF k h bE bC)).getD q [])) (u':=λl=>nv O (A.getD q []) l+dot h (nv O (B.getD q [])) (λp=>nv O ((ruF k h bE bC).getD p []) l)) (v':=nv O (S.getD a [])) (λl hl=>by
  have r:=zgc J O wA.ok wA.len wB.ok wB.len oF lF hq hl;have p:=xK (a:=n) J O wB.ok oF lF (by rw[wB.len];exact hq) hl;rw[p]at r;show tv O (rulM k n A B (ruF k h bE bC)) q l*_=_;rw[r];rfl),jG]
 congr 1
 rw[← jX];exact zt λp C=>by rw[zig J ch hi oD lD pair O (show a<n by omega) C,eu]
end
def zgR{k:Int}(J:kab k){n h:Nat}{A B Fr:TB}(oA:OkM k n A)(lA:A.length=n)(oB:OkM k h B)(lB:B.length=n)(oF:OkM k n Fr)(lF:Fr.length=h){hd:Nat}(hh:hd<h){y:List Nb}(oy:OkR k y)(ly:y.length=n){F:Type}[bf F](O:Kf k F){q j:Nat}(hq:q<n)(hj:j<n) :
  tv O (adT k A (kah k n B (Fr.set hd (subR k (Fr.getD hd []) y)))) q j=tv O (rulM k n A B Fr) q j - nv O (B.getD q []) hd*nv O y j:=by
 have hf:hd<Fr.length:=by omega
 have mf:Fr.getD hd []∈Fr:=by rw[zU hf];exact wj _
 have of:=oF _ mf;have osub:OkR k (subR k (Fr.getD hd []) y)/\(subR k (Fr.getD hd []) y).length=n:=(zdt J of.2 oy,(sub_len J (of.1.trans ly.symm)).trans of.1);have oS:OkM k n (Fr.set hd (subR k (Fr.getD hd []) y)):=λr U=>by
  rcases zL U with e|e
  ·rw[e];exact(osub.2,osub.1)
  ·exact oF r e
 have lS:(Fr.set hd (subR k (Fr.getD hd []) y)).length=h:=by rw[vv];exact lF
 have o:=yB J oB oS;rw[(JU J O oA lA (show OkM k n (kah k n B (Fr.set hd (subR k (Fr.getD hd []) y)))from o.2) (o.1.trans lB)).2.2 q j hq,xK (a:=n) J O oB oS lS () hj,zgc J O oA lA oB lB oF lF hq hj,xK (a:=n) J O oB oF lF () hj];have e:∀ p,p<h->nv O ((Fr.set hd (subR k (Fr.getD hd []) y)).getD p []) j=nv O (Fr.getD p []) j +(if p=hd then -(nv O y j)else 0):=λp C=>by
  by_cases c:p=hd
  ·subst c;rw[bj rfl,we,uk ()];show nv O (subR k (Fr.getD p []) y) j=_;rw[zi5 J O of.2 oy (of.1.trans ly.symm)];grind
  ·rw[bn c,we,uh (λz=>c z.symm),← we];grind
 rw[zt (u':=nv O (B.getD q [])) (v':=λp=>nv O (Fr.getD p []) j +(if p=hd then -(nv O y j)else 0)) (λp C=>by rw[e p C]),xW,je (v:=λp=>if p=hd then -(nv O y j)else 0) hh λp C ne=>by rw[bn ne];grind,bj rfl]
 grind
def Xc(J:kab k)(n8:n<=8)(oA:OkM k n A)(wA:∀ r∈A,∀ y∈r,whk k a y)(ox:OkR k x)(D:rowB bF x):rowB (a+bF+3) (imgM k A x):=by
 have oI:OkR k (imgM k A x):=λz hz=>by
  obtain⟨q,hq,rfl⟩:=wm.mp hz;exact yb J (oA q hq).2 ox
 by_cases k0:k=0
 ·obtain⟨d,e0,el,hd⟩:=D;have p1:=Gy a;have e:2^(a+bF+3)=2^a*2^bF*8:=by rw[uF,uF]
  have pm:2^bF<=2^a*2^bF:=GR _ p1;refine(1*d,(),(),λy hy=>?_);obtain⟨r,U,rfl⟩:=wm.mp hy;refine(zdj J (oA r U).2 ox (oA r U).1 (λu hu=>jS k0 (wA r U u hu)) hd).mono ?_;rw[e];have h1:(2^a - 1) *(2^bF - 1)<=(2^a - 1)*2^bF:=vk _ ();have h2:(2^a - 1)*2^bF=2^a*2^bF - 2^bF:=by rw[wbV,uW]
  have h3:n *((2^a - 1) *(2^bF - 1))<=8 *(2^a*2^bF - 2^bF):=vN n8 ();omega
 ·exact xG k0 oI ()
def zdT{k:Int}(J:kab k){n c bF a:Nat}{bE bC:TB}(n8:n<=8)(oD:OkM k n bE)(oU:OkM k c bC)(lU:bC.length=n)(wU:∀ r∈bC,∀ y∈r,whk k a y)(hD:kal bF bE):kal (a+bF+3) (kah k c bE bC):=λr U=>by
 unfold kah at U;obtain⟨d,hd,rfl⟩:=wm.mp U;have oT:OkM k n (kaa c bC):=by have:=zw oU;rw[lU]at this;exact this
 have e:((kaa c bC).map λcol=>ndot k d col)=imgM k (kaa c bC) d:=by
  unfold imgM;refine vo λcol hc=>?_
  have o1:=oD d hd;have o2:=oT col hc;obtain⟨F,_,_,⟨O⟩⟩:=zD J;refine O.inj (yb J o1.2 o2.2) (yb J o2.2 o1.2) ?_;rw[xw O J o1.2 o2.2 (o1.1.trans o2.1.symm),xw O J o2.2 o1.2 (o2.1.trans o1.1.symm),o1.1,o2.1,zM]
 rw[e];exact Xc J n8 oT (yM oU wU) (oD d hd).2 (hD d hd)
def zeK{k:Int}(J:kab k){n h bF:Nat}{A B P:TB}(nh:n+h<=8)(wA:TW k n n 14 A)(wB:TW k n h 14 B)(oP:OkM k h P)(lP:P.length=n)(hP:kal bF P):TOk k n n (max 61 (bF+18)) (rulM k n A B (kaa h P)):=by
 have tU:=Yh J wA wB;have oF:OkM k n (kaa h P):=by have:=zw oP;rw[lP]at this;exact this
 have lF:(kaa h P).length=h:=by unfold kaa;rw[wc,ve]
 have oI:=yi J n;have oX:OkM k n (kaj k n++kaa h P):=λr U=>by
  rcases wq.mp U with g|g
  ·exact oI.1 r g
  ·exact oF r g
 have lX:(kaj k n++kaa h P).length=n+h:=by rw[wD,oI.2,lF]
 have o:=yB J tU.ok oX;refine(o.1.trans tU.len,o.2,λr U y hy=>?_);have hr':= U;unfold kah at hr';obtain⟨a,ha,rfl⟩:=wm.mp hr';obtain⟨col,hc,rfl⟩:=wm.mp hy;have oc:=zw oX col hc;rw[lX]at oc;obtain⟨j,hj,ej⟩:=wy hc;have hjn:j<n:=by unfold kaa at hj;rw[wc,ve]at hj;exact hj
 have hjp:j<P.length:=by omega
 have oj:=oP _ (wj hjp);have ou:=xy J n j;have ec:col=kad k n j++P[j]:=by
  obtain⟨F,_,_,⟨O⟩⟩:=zD J;refine Yb O oc.2 (λx D=>(wq.mp D).elim (ou.2 x) (oj.2 x)) (by rw[oc.1,wD,ou.1,oj.1]) λl=>?_
  have e1:nv O ((kaa n (kaj k n++kaa h P)).getD j []) l=nv O ((kaj k n++kaa h P).getD l []) j:=zV oX hjn;rw[zU hj,ej]at e1;rw[e1,jC,ou.1]
  by_cases c:l<n
  ·rw[bj c];have e2:(kaj k n++kaa h P).getD l []=kad k n l:=by
    rw[we,vm (by rw[oI.2];exact c)];unfold kaj;rw[wk,wZ c];rfl
   rw[e2,yH c,yH hjn];show(if j=l then(1:F)else 0)=if l=j then 1 else 0
   by_cases z:j=l
   ·rw[bj z,bj z.symm]
   ·rw[bn z,bn (λy=>z y.symm)]
  ·rw[bn c];have e2:(kaj k n++kaa h P).getD l [] =(kaa h P).getD (l - n) []:=by
    rw[we,vd (by rw[oI.2];omega),oI.2,we]
   rw[e2]
   rcases wJ (l - n) h with z|z
   ·have e3:nv O ((kaa h P).getD (l - n) []) j=nv O (P.getD j []) (l - n):=zV oP z;rw[e3,zU hjp]
   ·rw[zI O (xs:=P[j]) (),we,wR ()];exact zI O (vD _)
 have bu:= YH () ou.2 ((uOr.ok J (.inr (j,hjn,V))).2.2);have bc:rowB (1+bF) col:=by rw[ec];exact zen bu (hP _ (wj hjp))
 have bi:=Xc J nh tU.ok tU.sz oc.2 bc;have m:ndot k a col∈imgM k (augM A B) col:=wm.mpr (a,ha,V);have oi:OkR k (imgM k (augM A B) col):=λz hz=>by
  obtain⟨q,hq,rfl⟩:=wm.mp hz;exact yb J (tU.ok q hq).2 oc.2
 exact jl J oi (bi.mono (show 14 +(1+bF)+3<=max 61 (bF+18) by omega)) () _ m
section
variable(J:kab k)(oA:OkM k n A)(lA:A.length=n)(oB:OkM k h B)(lB:B.length=n)(n1:1<=n)(iR:IsRa k n R lr)(eR:kas k R (kry k A (kaa h B) n))(iW:IsRa k n W lw)(eW:∀(F:Type) [bf F] (O:Kf k F) (v:Nat->F),Rm O W v↔perp n (Rm O R) v)
include J oA lA oB lB n1 iR eR iW eW
theorem Qs[bf F](O:Kf k F)(hv:Rm O R v):Rm O R (limg O n A v):=by
 have oT:OkM k n (kaa h B):=by have:=zw oB;rw[lB]at this;exact this
 have lin:LinF (limg O n A):=(λc u v j=>qm A c u v j,λj=>xH A j);have h1:=zaO J oA lA oT n1 _ ((eR F O v).mp hv);refine(eR F O _).mpr (lin.rm (λr U=>?_) h1);have o:=yR J oA lA oT (n - 1) r U;have e:limg O n A (nv O r)=nv O (imgM k A r):=funext λq=>(yE J oA o.2 o.1 q).symm
 rw[e];obtain⟨b,hb,i,hi,rfl⟩:=jF (n - 1) r U;exact .of (powX k A b (i+1),Xq hb n (i+1) (),V)
theorem ZG[bf F](O:Kf k F)(hw:w∈W):Rm O W (nv O (imgM k (kaa n A) w)):=by
 obtain⟨oW,_,_,_⟩:=ye J iW;have ow:=oW w hw;have oTA:OkM k n (kaa n A):=by have:=zw oA;rw[lA]at this;exact this
 have pw:=(eW F O _).mp (.of (w,hw,V));have lI:(imgM k (kaa n A) w).length=n:=by show(GQ _ (kaa n A)).length=n;rw[wc];unfold kaa;rw[wc,ve]
 refine(eW F O _).mpr (λj hj=>zI O (),λu hu=>?_);have e1:nv O (imgM k (kaa n A) w)=limg O n (kaa n A) (nv O w):=funext λi=>yE J oTA ow.2 ow.1 i
 rw[e1];have d:=zby (O:=O) oA lA (nv O w) u;have z:=pw.2 _ (Qs J oA lA oB lB n1 iR eR iW eW O hu);exact(zM n u _).trans (d.trans ((zM n _ _).trans z))
theorem zcb{F:Type}[bf F](O:Kf k F){w:List Nb}(hw:w∈W){p:Nat}(C:p<h):dot n (nv O w) (λq=>nv O (B.getD q []) p)=0:=by
 have pw:=(eW F O _).mp (.of (w,hw,V));have gT:=getT B C;have m:=wg gT;have z:=pw.2 _ ((eR F O _).mpr (.of (_,Xq m n 0 (),V)));rw[zM]at z;have e:∀ q,nv O ((kaa h B).getD p []) q=nv O (B.getD q []) p:=λq=>zV oB C
 exact(zt λq _=>by rw[← e q];rfl).trans z
theorem zeB{Fr:TB}(oF:OkM k n Fr)(lF:Fr.length=h)(hw:w∈W):imgM k (kaa n (adT k A (kah k n B Fr))) w=imgM k (kaa n A) w:=by
 obtain⟨F,_,_,⟨O⟩⟩:=zD J;obtain⟨oW,_,_,_⟩:=ye J iW;have ow:=oW w hw;have o:=yB J oB oF;obtain⟨oX,lX,eX⟩:=JU J O oA lA (show OkM k n (kah k n B Fr)from o.2) (o.1.trans lB);have oTA:OkM k n (kaa n A):=by have:=zw oA;rw[lA]at this;exact this
 have oTX:OkM k n (kaa n (adT k A (kah k n B Fr))):=by have:=zw oX;rw[lX]at this;exact this
 have li:∀ M:TB,(imgM k (kaa n M) w).length=n:=λM=>by show(GQ _ (kaa n M)).length=n;rw[wc];unfold kaa;rw[wc,ve]
 have oi:∀ {M:TB},OkM k n M->OkR k (imgM k M w):=λ{M} oM z hz=>by
  obtain⟨q,hq,rfl⟩:=wm.mp hz;exact yb J (oM q hq).2 ow.2
 refine Yb O (oi oTX) (oi oTA) ((li _).trans (li _).symm) λj=>?_
 rcases wJ j n with hj|hj
 ·rw[yE J oTX ow.2 ow.1,yE J oTA ow.2 ow.1];show dot n (nv O ((kaa n (adT k A (kah k n B Fr))).getD j [])) (nv O w)=dot n (nv O ((kaa n A).getD j [])) (nv O w);have e1:∀ q,nv O ((kaa n (adT k A (kah k n B Fr))).getD j []) q=tv O (adT k A (kah k n B Fr)) q j:=λq=>zV oX hj
  have e2:∀ q,nv O ((kaa n A).getD j []) q=tv O A q j:=λq=>zV oA hj
  rw[zt (u':=λq=>tv O A q j+dot h (nv O (B.getD q [])) (λp=>nv O (Fr.getD p []) j)) (v':=nv O w) (λq hq=>by rw[e1 q,eX q j hq,xK (a:=n) J O oB oF lF () hj]),jG,zt (u:=nv O ((kaa n A).getD j [])) (u':=λq=>tv O A q j) (v':=nv O w) (λq _=>by rw[e2 q])];have z:dot n (λq=>dot h (nv O (B.getD q [])) (λp=>nv O (Fr.getD p []) j)) (nv O w)=0:=by
   rw[zM,jX];exact dot_zero h _ _ λp C=>by rw[zcb J oA lA oB lB n1 iR eR iW eW O hw C];grind
  rw[z];grind
 ·rw[zI O (by rw[li];exact hj),zI O (by rw[li];exact hj)]
end
section
variable[bf F]{O:Kf k F}
def zhI(J:kab k)(oM:OkM k n M)(ind:∀ j,j<M.length->¬ Rm O (M.take j) (nv O (M.getD j []))):Rnk O n M M.length:=by
 have ok:∀ j,OkM k n (M.take j):=λj r U=>oM r (vn U)
 have rk:∀ j,j<=M.length->Rnk O n (M.take j) j:=by
  intro j
  induction j with
  | zero =>
   intro _;obtain⟨R,ls,red,l⟩:=JE (O:=O) J (ok 0);exact(R,ls,red.toIsR,λv=>(red.fro v,red.to v),by rw[waU]at l;exact wbX.mp l)
  | succ j ih =>
   intro hj;obtain⟨R,ls,iR,eR,lR⟩:=ih ();obtain⟨R',ls',red,l'⟩:=JE (O:=O) J (ok (j+1));have tk:M.take (j+1)=M.take j++[M.getD j []]:=by
    rw[zU ()];exact vU ()
   have sub:= λv hv=>red.to v (((eR v).mp hv).mono λu ⟨r,U,e⟩=>(r,by rw[tk];exact vh _ U,e))
   have a:=iR.sub_len red.toIsR sub;have ne:¬ R'.length<=R.length:=λg=>by
    have m:= red.to _ (.of (_,by rw[tk];exact wL _ wt,V));exact ind j () ((eR _).mp (a.2 g _ m))
   rw[wr]at l';exact(R',ls',red.toIsR,λv=>(red.fro v,red.to v),())
 have:=rk M.length (wv _);rw[ug]at this;exact this
end
def JP{k:Int}(J:kab k){n:Nat}{W A:TB}{lw la:List Nat}(h:IsRa k n W lw)(hA:IsRa k n A la)(e:∀(F:Type) [bf F] (O:Kf k F) (v:Nat->F),Rm O A v↔perp n (Rm O W) v):A.length+W.length=n:=by
 obtain⟨F,i0,d0,⟨O⟩⟩:=zD J;have fl:=jP J h;have nz:=(O.zero_iff J (zm J 0)).mpr rfl;have n1:O.to (nnum k 1)=1:=by rw[O.num];exact La.ι_one
 let A0:=(kak n lw).map (agL k n W lw)
 have lA0:A0.length =(kak n lw).length:=by show((kak n lw).map (agL k n W lw)).length=_;rw[wc]
 have get:∀(i:Nat)(xs:List Nb),A0[i]?=some xs->∃ f,(kak n lw)[i]?=some f/\AgR k n W lw f xs:=λi xs h2=>by
  have h2':= h2;rw[wk]at h2';obtain⟨f,hf,rfl⟩:=wY.mp h2';have:=(yw n lw f).mp (wg hf);exact(f,hf,JS J h this.1 this.2)
 have ag:∀(i f:Nat)(xs:List Nb),(kak n lw)[i]?=some f->A0[i]?=some xs->AgR k n W lw f xs:=λi f xs h1 h2=>by
  obtain⟨f',hf',g⟩:=get i xs h2;rw[h1]at hf';cases hf';exact g
 have oA0:OkM k n A0:=λr U=>by
  obtain⟨i,hi,er⟩:=wy U;obtain⟨f,_,g⟩:=get i r (by rw[wa hi,er]);exact(g.len,g.ok)
 have same:= λv=>(e F O v).trans (xl (h F O) J (jr n lw) (yw n lw) lA0.symm ag v).symm
 have rk:= zhI J oA0 λi hi hm=>by
  have er:A0[i]?=some (A0.getD i []):=by rw[zU hi];exact wa hi
  obtain⟨f,hf,g⟩:=get i _ er;have hf':=(yw n lw f).mp (wg hf);have z:nv O (A0.getD i []) f=0:=hm.zero_at λr' ⟨x,D,ex⟩=>by
   obtain⟨j,hj,ej⟩:=wy D;rw[wr]at hj;have hx':A0[j]?=some x:=by rw[wbl]at ej;rw[wa (),ej]
   obtain⟨f',hf2,g'⟩:=get j x hx';have ne:f≠f':=by
    have:=uJ.mp (jr n lw) j i (wu.mp hf2).1 (wu.mp hf).1 ();rw[(wu.mp hf2).2,(wu.mp hf).2]at this;omega
   rw[ex,zH O (g'.off f hf'.1 ne hf'.2)];exact nz
  rw[zH O g.one,n1]at z;exact Lean.Grind.Field.zero_ne_one z.symm
 obtain⟨R,ls,iR,eR,lR⟩:=rk;have a:=(iR.sub_len (hA F O) λv hv=>(same v).mpr ((eR v).mp hv)).1;have b:=((hA F O).sub_len iR λv hv=>(eR v).mpr ((same v).mp hv)).1;omega
def pw_row2(J:kab k)(n3:k=0->n<=3)(wA:TW k n n 14 A)(ob:OkR k b)(lb:b.length=n)(wb:∀ x∈b,whk k 14 x)(hi:i<=n):rowB 62 (powX k A b i):=by
 have op:=qk J wA.ok wA.len ob lb i
 by_cases k0:k=0
 ·have:=n3 k0;exact YH () op.1 λy hy=>(zcj J (λ_=>by omega) wA ob lb wb i y hy).mono ()
 ·exact xG k0 op.1 ()
def zhM(J:kab k)(n3:k=0->n<=3)(wA:TW k n n 14 A)(wB:TW k n h 14 B)(eR:kas k R (kry k A (kaa h B) n)):Gen k n 62 R:=by
 have oT:OkM k n (kaa h B):=by have:=zw wB.ok;rw[wB.len]at this;exact this
 refine(_,yR J wA.ok wA.len oT n,λr U=>?_,eR);obtain⟨b,hb,i,hi,rfl⟩:=jF n r U;exact pw_row2 J n3 wA (oT b hb).2 (oT b hb).1 (yM wB.ok wB.sz b hb) hi
def zcB{k:Int}(J:kab k){n h:Nat}{A B R:TB}{lr:List Nat}(n1:1<=n)(oA:OkM k n A)(lA:A.length=n)(oB:OkM k h B)(lB:B.length=n)(iR:IsRa k n R lr)(eR:kas k R (kry k A (kaa h B) n))(l:R.length=n):∃(q0:Nat)(b0:List Nb),(kaa h B)[q0]?=some b0/\¬(∀(F:Type) [bf F] (O:Kf k F),Rm O [] (nv O b0)):=vV λnone'=>by
 obtain⟨F,_,_,⟨O⟩⟩:=zD J;have oT:OkM k n (kaa h B):=by have:=zw oB;rw[lB]at this;exact this
 have lin:LinF (limg O n A):=(λc u v j=>qm A c u v j,λj=>xH A j);have cols:∀ b∈kaa h B,Rm O [] (nv O b):=λb hb=>by
  obtain⟨j,hj,ej⟩:=wy hb;refine vV λnb=>none' (j,b,by rw[wa hj,ej],λal=>nb (al F O))
 have all:∀ b∈kaa h B,∀ t,Rm O [] (nv O (powX k A b t)):=by
  intro b hb t
  induction t with
  | zero=>exact cols b hb
  | succ t ih =>
   have op:=qk J oA lA (oT b hb).2 (oT b hb).1 t;have e:limg O n A (nv O (powX k A b t))=nv O (powX k A b (t+1)):=funext λq=>(yE J oA op.1 op.2 q).symm
   rw[← e];exact lin.rm (M:=[]) (λ_ h=>nomatch h) ih
 have le:=zfZ (O:=O) (Y:=[]) J (λ_ h=>nomatch h) (R,lr,iR F O,λ_=>Iff.rfl,V) λv hv=>((eR F O v).mp hv).bind λu ⟨x,D,e⟩=>by
  obtain⟨b,hb,j,_,rfl⟩:=jF n x D;rw[e];exact all b hb j
 rw[l]at le;exact bw le (by simp;omega)
def gtN(k:Int)(T W:TB)(lw:List Nat):TB:=W.map λr=>lw.map λc=>(imgM k T r).getD c (nnum k 0)
structure FixOf(k:Int)(n h:Nat)(A B:TB)(l:Nat)(ps:List Nb):Prop where
 ex:∃ R lr W lw,IsRa k n R lr/\kas k R (kry k A (kaa h B) n)/\IsRa k n W lw/\(∀(F:Type) [bf F] (O:Kf k F) (v:Nat->F),Rm O W v↔perp n (Rm O R) v)/\W.length=l/\GrP k l (gtN k (kaa n A) W lw) ps
 ok:OkR k ps
 len:ps.length=l+1
section
variable(J:kab k)(oA:OkM k n A)(lA:A.length=n)(oB:OkM k h B)(lB:B.length=n)(n1:1<=n)(f:FixOf k n h A B l ps)
include J oA lA
theorem zdH(iW:IsRa k n W lw):OkM k W.length (gtN k (kaa n A) W lw)/\(gtN k (kaa n A) W lw).length=W.length/\∀ {F:Type} [bf F] (O:Kf k F) i c,i<W.length->c<W.length->tv O (gtN k (kaa n A) W lw) i c=nv O (imgM k (kaa n A) (W.getD i [])) (lw.getD c 0):=by
 obtain⟨oW,lls,_,llt⟩:=ye J iW;have oT:OkM k n (kaa n A):=by have:=zw oA;rw[lA]at this;exact this
 have lT:(kaa n A).length=n:=by unfold kaa;rw[wc,ve]
 have im:∀ r∈W,OkR k (imgM k (kaa n A) r):=λr U z hz=>by
  obtain⟨q,hq,rfl⟩:=wm.mp hz;exact yb J (oT q hq).2 (oW r U).2
 refine(λr U=>?_,by unfold gtN;rw[wc],λ{F} _ O i c hi hc=>?_)
 ·obtain⟨x,D,rfl⟩:=wm.mp U;refine(by rw[wc];exact lls,λy hy=>?_);obtain⟨c,hc,rfl⟩:=wm.mp hy;rw[we];cases e:(imgM k (kaa n A) x)[c]? with
  | none=>exact zm J 0
  | some z=>exact im x D z (wg e)
 ·have lc:c<lw.length:=by rw[lls];exact hc
  have e1:(gtN k (kaa n A) W lw).getD i []=lw.map λc=>(imgM k (kaa n A) W[i]).getD c (nnum k 0):=by
   unfold gtN;rw[we,wk,wa hi];rfl
  have e2:lw.getD c 0=lw[c]:=by rw[we,wa lc];rfl
  have li:(imgM k (kaa n A) W[i]).length=n:=by show(GQ _ (kaa n A)).length=n;rw[wc];exact lT
  have hl:lw[c] <(imgM k (kaa n A) W[i]).length:=by rw[li];exact llt _ (wj lc)
  show nv O ((gtN k (kaa n A) W lw).getD i []) c=_;rw[e1,e2,zU hi,zH O (show(lw.map λc=>(imgM k (kaa n A) W[i]).getD c (nnum k 0))[c]?=some ((imgM k (kaa n A) W[i]).getD lw[c] (nnum k 0)) by rw[wk,wa lc];rfl),zH O (wa hl),we,wa hl]
  rfl
include oB lB n1 f
theorem zel(g:GrP k n A gs)[bf F](O:Kf k F):∃ q:Nat->F,(∀ j,nv O gs j=La.pmu j (nv O ps) q)/\∀ t,n - l<t->q t=0:=by
 obtain⟨R,lr,W,lw,iR,eR,iW,eW,rfl,gp⟩:=f.ex;obtain⟨oN,lN,eN⟩:=zdH J oA lA iW;exact zgr J iW rfl oA lA oN lN (λi hi=>ZG J oA lA oB lB n1 iR eR iW eW O (by rw[zU hi];exact wj _)) (λi c hi hc=>eN O i c hi hc) gp g
theorem zgU{Fr:TB}(oF:OkM k n Fr)(lF:Fr.length=h)(g:GrP k n (adT k A (kah k n B Fr)) gs)[bf F](O:Kf k F):∃ q:Nat->F,(∀ j,nv O gs j=La.pmu j (nv O ps) q)/\∀ t,n - l<t->q t=0:=by
 obtain⟨R,lr,W,lw,iR,eR,iW,eW,rfl,gp⟩:=f.ex;obtain⟨oN,lN,eN⟩:=zdH J oA lA iW;have o:=yB J oB oF;obtain⟨oX,lX,_⟩:=JU J O oA lA (show OkM k n (kah k n B Fr)from o.2) (o.1.trans lB);have same:∀ i,i<W.length->imgM k (kaa n (adT k A (kah k n B Fr))) (W.getD i [])=imgM k (kaa n A) (W.getD i []):=λi hi=>zeB J oA lA oB lB n1 iR eR iW eW oF lF (by rw[zU hi];exact wj _)
 exact zgr J iW rfl oX lX oN lN (λi hi=>by rw[same i hi];exact ZG J oA lA oB lB n1 iR eR iW eW O (by rw[zU hi];exact wj _)) (λi c hi hc=>by rw[same i hi];exact eN O i c hi hc) gp g
end
structure RuleOf(k:Int)(n h:Nat)(A B:TB)(xs:List Nb)(Fr:TB):Prop where
 ok:OkM k n Fr
 len:Fr.length=h
 sz:∀ r∈Fr,∀ y∈r,szk k 165200 y
 gr:∀ ys,OkR k ys->ys.length=n+1->GrP k n (adT k A (kah k n B Fr)) ys->ys=xs
def zeT(J:kab k)(D:x.ok k)(hy:y.ok k)(sx:nsm m x)(sy:nsm m' y)(hm:61<=m):nsm (m+m'+1) (nadd k x y):=by
 rcases xx D hy with⟨h,r,s,rfl,rfl⟩|⟨h,i,j,rfl,rfl,_⟩
 ·show Sm _ (r+s).num/\Sm _ ((r+s).den:Int);rw[← QA];obtain⟨h1,h2⟩:=yS (yL r s) ((sx.1.mul sy.2).add ((sy.1.mul sx.2).mono (gM (waE _ _)))) (sx.2.mul sy.2);exact(h1,h2.mono (Gz _))
 ·exact zej J h () _
def ze5(J:kab k)(D:x.ok k)(hy:y.ok k)(sx:nsm m x)(sy:nsm m' y)(hm:61<=m):nsm (m+m'+1) (nsub k x y):=by
 rcases xx D hy with⟨h,r,s,rfl,rfl⟩|⟨h,i,j,rfl,rfl,_⟩
 ·show Sm _ (r - s).num/\Sm _ ((r - s).den:Int);rw[← JX];obtain⟨h1,h2⟩:=yS (yL r s) ((sx.1.mul sy.2).sub ((sy.1.mul sx.2).mono (gM (waE _ _)))) (sx.2.mul sy.2);exact(h1,h2.mono (Gz _))
 ·exact zej J h () _
section
variable(J:kab k)(wA:TW k n n 14 A)(wB:TW k n h 14 B)(ch:ChL k n h A B hd i S bC)(hi:i+1=n)(hh:hd<h)(oD:OkM k n bE)(lD:bE.length=n)(pair:∀(F:Type) [bf F] (O:Kf k F) (a b:Nat),a<n->b<n->dot n (nv O (S.getD a [])) (λl=>nv O (bE.getD l []) b)=if a=b then 1 else 0)
include J wA wB ch hi hh oD lD pair
theorem zct(n1:1<=n)(n4:n<=4)(ow:OkR k w)(lw:w.length=n)(ox:OkR k xs)(lx:xs.length=n+1)(x1:∀ F [bf F] (O:Kf k F),nv O xs n=1)(hw:∀ F [bf F] (O:Kf k F) a,a<n->dot n (nv O w) (nv O (S.getD a []))=if a+1=n then 1 else 0)
  (sF:∀ r∈ruF k h bE bC,∀ y∈r,nsm 1012 y) (sy:∀ y∈hrn k n (rulM k n A B (ruF k h bE bC)) w xs n,szk k 164165 y) :
  RuleOf k n h A B xs ((ruF k h bE bC).set hd (subR k ((ruF k h bE bC).getD hd []) (hrn k n (rulM k n A B (ruF k h bE bC)) w xs n))):=by
 obtain⟨oF,lF⟩:=zcv J ch hi oD lD;have hf:hd <(ruF k h bE bC).length:=by omega
 have mf:(ruF k h bE bC).getD hd []∈ruF k h bE bC:=by rw[zU hf];exact wj _
 have of:=oF _ mf;have oR:=yB J (Yh J wA wB).ok (show OkM k n (kaj k n++ruF k h bE bC)from λr U=>by
  rcases wq.mp U with g|g
  ·exact(yi J n).1 r g
  ·exact oF r g)
 have oX:OkM k n (rulM k n A B (ruF k h bE bC)):=oR.2;have lX:= oR.1.trans (Yh J wA wB).len;have oh:=Jn J oX lX ow lw ox lx n (wv n);generalize ey:hrn k n (rulM k n A B (ruF k h bE bC)) w xs n=y at *;have osub:OkR k (subR k ((ruF k h bE bC).getD hd []) y)/\(subR k ((ruF k h bE bC).getD hd []) y).length=n:=(zdt J of.2 oh.1,(sub_len J (of.1.trans oh.2.symm)).trans of.1);have oS:OkM k n ((ruF k h bE bC).set hd (subR k ((ruF k h bE bC).getD hd []) y)):=λr U=>by
  rcases zL U with e|e
  ·rw[e];exact(osub.2,osub.1)
  ·exact oF r e
 have lS:((ruF k h bE bC).set hd (subR k ((ruF k h bE bC).getD hd []) y)).length=h:=by rw[vv];exact lF
 refine(oS,lS,λr U x D k0=>?_,λys oy ly g=>?_)
 ·rcases zL U with e|e
  ·rw[e]at D;unfold subR at D;obtain⟨a,ha,ea⟩:=wy D;rw[vJ]at ea;rw[← ea];exact(ze5 J (of.2 _ (wj _)) (oh.1 _ (wj _)) (sF _ mf _ (wj _)) (sy _ (wj _) k0) ()).mono ()
  ·exact(sF r e x D).mono ()
 ·have o:=yB J wB.ok oS;obtain⟨F0,_,_,⟨φ0⟩⟩:=zD J;obtain⟨oM,lM,_⟩:=JU J φ0 wA.ok wA.len (show OkM k n (kah k n B _)from o.2) (o.1.trans wB.len);have lSS:=ch.lS;refine zb5 J oX lX oM lM n1 n4 ch.oS () ow lw ox lx oy ly g λF _ O=>(x1 F O,λa ha=>hw F O a ha,λa ha q hq=>zeR J wA wB ch hi oD lD pair O ha hq,λq j hq hj=>?_)
  rw[ey,zgR J wA.ok wA.len wB.ok wB.len oF lF hh oh.1 oh.2 O hq hj];have e0:S.getD 0 [] =(kaa h B).getD hd []:=by rw[we,ch.st,we]
  have et:nv O ((kaa h B).getD hd []) q=nv O (B.getD q []) hd:=zV wB.ok hh;show _=_ - nv O (S.getD 0 []) q*_;rw[e0,et]
end
end L2
namespace L2
open PySem PySem.Spec PyProof.Rows
open Nm
def TW.tr(h:TW k r c m M):TW k c r m (kaa c M):=by
 refine(zF _ _,by have:=zw h.ok;rw[h.len]at this;exact this,λq hq x D=>?_);unfold kaa at hq;obtain⟨j,hj,rfl⟩:=wm.mp hq;rw[vA]at hj;obtain⟨row,hrow,rfl⟩:=wm.mp D;have hj':j<row.length:=by have:=(h.ok row hrow).1;omega
 rw[we,wa hj'];exact h.sz row hrow _ (wj hj')
def zhp{k:Int}{n:Nat}{M N:TB}(oM:OkM k n M)(lM:M.length=n)(oN:OkM k n N)(lN:N.length=n)(tr:∀(F:Type) [bf F] (O:Kf k F) (i j:Nat),i<n->j<n->tv O N i j=tv O M j i){gs:List Nb}(g:GrP k n M gs):GrP k n N gs:=λF _ O j=>by
 rw[g F O j];obtain⟨f,hf,_⟩:=Dt.Dl.ex Dt.loc0 (Dt.NM_nr (tv O M) n);have rows:∀ {X:TB},OkM k n X->∀ r∈X.map (λr=>r.map O.to),n<=r.length:=λoX r U=>by
  obtain⟨x,D,rfl⟩:=wm.mp U;rw[wc,(oX x D).1];exact wv n
 have hM:=Dt.dl_wgr (W:=M.map λr=>r.map O.to) n (by rw[wc,lM];exact wv n) (rows oM) f (by rw[zcE];exact hf);have hf':Dt.Dl n (Dt.NM (tv O N)) f:=(Dt.dl_tr Dt.loc0 (Dt.NM_nr (tv O M) n) hf).congr λi j hi hj=>by
  show Dt.idm j i + -(La.pX*La.cst (tv O M j i))=Dt.idm i j + -(La.pX*La.cst (tv O N i j));rw[tr F O i j hi hj,Dt.idm_comm]
 have hN:=Dt.dl_wgr (W:=N.map λr=>r.map O.to) n (by rw[wc,lN];exact wv n) (rows oN) f (by rw[zcE];exact hf');have e:La.wgr (M.map λr=>r.map O.to) n=La.wgr (N.map λr=>r.map O.to) n:=by
  refine uP (by rw[La.yI,La.yI]) λt h1 h2=>?_
  have a:=hM t;have b:=hN t;rw[we,wa h1]at a;rw[we,wa h2]at b;exact(show f t=_ from a).symm.trans (show f t=_ from b)
 rw[e]
section
variable(J:kab k)[bf F](O:Kf k F)
include J
theorem zeo(oM:OkM k n M)(lM:M.length=m)(hi:i<n)(hj:j<m):tv O (kaa n M) i j=tv O M j i:=by
 have hj':j<M.length:=by omega
 have U:=oM _ (wj hj');have e1:(kaa n M)[i]?=some (M.map λr=>r.getD i (nnum k 0)):=by
  unfold kaa;rw[wk,wZ hi];show some _=some _
  congr 1
  refine vo λr U=>?_
  have:=(oM r U).1;rw[we,we,wa ()];rfl
 unfold tv;rw[we,e1,we (l:=M),wa hj'];show nv O (M.map λr=>r.getD i (nnum k 0)) j=nv O M[j] i;have hi':i <(M[j]).length:=by have:=U.1;omega
 rw[zH O (show(M.map λr=>r.getD i (nnum k 0))[j]?=some ((M[j]).getD i (nnum k 0)) by rw[wk,wa hj'];rfl),zH O (wa hi')];rw[we,wa hi'];rfl
theorem qI M:(kaa n M).length=n:=by unfold kaa;rw[wc,ve]
theorem zat{n s:Nat}{A bF Fr:TB}(oA:OkM k n A)(lA:A.length=n)(oC:OkM k n bF)(lC:bF.length=s)(oF:OkM k n Fr)(lF:Fr.length=s):(OkM k n (adT k A (kah k n (kaa n Fr) bF))/\(adT k A (kah k n (kaa n Fr) bF)).length=n)/\(OkM k n (adT k (kaa n A) (kah k n (kaa n bF) Fr))/\(adT k (kaa n A) (kah k n (kaa n bF) Fr)).length=n) /\
  ∀ i j,i<n->j<n->tv O (adT k A (kah k n (kaa n Fr) bF)) i j=tv O (adT k (kaa n A) (kah k n (kaa n bF) Fr)) j i:=by
 have oAt:OkM k n (kaa n A):=by have:=zw oA;rw[lA]at this;exact this
 have oCt:OkM k s (kaa n bF):=by have:=zw oC;rw[lC]at this;exact this
 have oFt:OkM k s (kaa n Fr):=by have:=zw oF;rw[lF]at this;exact this
 have o1:=yB J (c:=n) oFt oC;have o2:=yB J (c:=n) oCt oF;obtain⟨a1,b1,c1⟩:=JU J O oA lA (show OkM k n (kah k n (kaa n Fr) bF)from o1.2) (o1.1.trans (qI J Fr));obtain⟨a2,b2,c2⟩:=JU J O oAt (qI J A) (show OkM k n (kah k n (kaa n bF) Fr)from o2.2) (o2.1.trans (qI J bF));refine((a1,b1),(a2,b2),λi j hi hj=>?_);have t1:i <(kaa n Fr).length:=by rw[qI J (n:=n)];exact hi
 have t2:j <(kaa n bF).length:=by rw[qI J (n:=n)];exact hj
 rw[c1 i j hi,c2 j i hj,zeo J O oA lA hj hi,xK J O (a:=0) oFt oC lC t1 hj,xK J O (a:=0) oCt oF lF t2 hi]
 congr 1
 refine zt λl hl=>?_
 have e1:nv O ((kaa n Fr).getD i []) l=nv O (Fr.getD l []) i:=zeo J O oF lF hi hl;have e2:nv O ((kaa n bF).getD j []) l=nv O (bF.getD l []) j:=zeo J O oC lC hj hl;rw[e1,e2];grind
end
end L2
namespace KL
open PySem PySem.Spec PyProof.Rows L2 Nm
set_option maxHeartbeats 4000000
def zie K:PySem.W.kitOne K (.type "int") (.type "int")=some true:=by unfold PySem.W.kitOne;rw[bj ()]
def zjz K:PySem.W.kitOne K (.type "int") (.type "bool")=some false:=by
 unfold PySem.W.kitOne;rw[bn ()];show(if PySem.W.kitMeta "bool" = true then PySem.W.subIn K (.type "int") (.type "bool")else none)=some false;rw[bj (by decide +kernel)];show(PySem.fastBuiltinMro "int").map (·.contains (Value.type "bool"))=some false
 decide +kernel
def zfV K:PySem.W.kitOne K (.type "tuple") (.type "tuple")=some true:=by unfold PySem.W.kitOne;rw[bj ()]
local macro_rules | `(tactic| fail)=>`(tactic| with_reducible first|exact at0|exact at1|exact at2|exact at3|exact at4|exact at5|exact at6|exact at7|exact at8|exact at9|exact at10|exact at11|exact at12|exact at13|exact at14|exact at15|exact at16|exact at17|exact at18|exact at19)
local macro_rules | `(tactic| and_intros)=>`(tactic| repeat' first| (show PSs _ _ _;first|exact zhd|refine' zgG ?_|refine' zfx ?_ ?_) | (show PA _ _ _;first|exact zjd (by repeat constructor) | exact zge|refine' zdm ?_ ?_) | (show PE _ _ _;first|exact pvI|exact zf8|refine' zj4 ?_ ?_ ?_|refine' zfe ?_ ?_ ?_ ?_|refine' zjL ?_ ?_ ?_|refine' xh ?_ rfl (bn_m ()) zjr ?_|refine' zhs ?_ ?_ ?_ (by first|exact nomark _|with_unfolding_all rfl) | refine' bm0 (λ_ h=>zha PySem.F.plainAttrs_list PySem.F.slot_list_append PySem.F.type_list_append zdF h ?_) ?_|exact zjN|exact pe_non|exact zi2|exact zjW|refine' zif ?_|refine' ziL ?_|refine' zjU ziC ?_|refine' ziO ?_|refine' ziI ?_|refine' zi1 ?_ ?_|refine' zka ?_ ?_|refine' zeu ?_ ?_ ?_|refine' ze9 ?_ ?_ ?_ ?_ ?_|refine' xh ?_ rfl (bn_m ()) ziz ?_|refine' xh ?_ rfl (bn_m ()) zjl ?_|refine' xh ?_ rfl (bn_m ()) zjq ?_|refine' xh ?_ rfl (bn_m ()) zca ?_|refine' xh ?_ rfl (bn_m ()) zh5 ?_|refine' xh ?_ rfl (bn_m ()) ziW ?_|refine' xh ?_ rfl (bn_m ()) YJ ?_|refine' ziv ?_|refine' qV ?_ rfl (bn_m ()) Qr ?_|refine' qV ?_ rfl (bn_m ()) zgq ?_|refine' qV ?_ rfl (bn_m ()) zay ?_|exact zep rfl (bn_m ()) zgq|exact zep rfl (bn_m ()) zg3|exact zep rfl (bn_m ()) zay|exact zep rfl (bn_m ()) Qr|refine' bm0 (λ_ h=>zha PySem.F.plainAttrs_list PySem.F.slot_list_extend PySem.F.type_list_extend zbU h ?_) ?_|refine' bm0 (λ_ h=>zha PySem.F.plainAttrs_list PySem.F.slot_list_remove PySem.F.type_list_remove (zdV (by assumption)) h ?_) ?_) | (show PS _ _ _;first|refine' ziT ?_|refine' zkl ?_ ?_ ?_|refine' zkg ?_|refine' zjT ?_|refine' zi3 ?_ ?_|refine' zhJ ?_|refine' zik PassesOwn.never rfl ?_ ?_ ?_|refine' zfw PassesOwn.never ?_ ?_|refine' zj8 ?_ ?_) | (show OpR _ _ _;first|exact zjF|exact zgH|exact zje|exact zj9|exact zj0|exact zjZ|exact zkf|exact op_in0|exact zb9|exact op_isN|exact op_notN) | (show kau _ _ _;first|exact zdR|exact zdl rfl|exact zfv|exact zcu rfl|exact JR|exact zd7 rfl|exact zcX rfl|exact zcF rfl|exact zbK|exact zcg|exact Qt) | (show PO _ _ _;first|exact zh2|refine' zhg ?_) | (show PI _ _ _ _;first|refine' zdy rfl (bn_m ()) ?_|refine' zhP rfl (bn_m ()) ?_|refine' zjR ?_) | (show PG _ _ _;first|exact zj2|refine' ziM ?_ ?_ zeQ) | (show PGs _ _ _;first|exact zcU|refine' YR ?_ ?_) | (show PTs _ _ _;first|exact zhw|refine' zhz ?_) | (show PT _ _ _;first|refine' zgM ?_ ?_ ?_ (by first|exact nomark _|with_unfolding_all rfl) | refine' zjJ ?_|refine' PW.pt (pw_and ?_ ?_) | refine' PW.pt (pw_or ?_ ?_) | refine' pt_chain ?_ ?_ ?_ ?_ ?_|refine' zi0 ?_) | (show PW _ _ _;first|refine' pw_and1 ?_|refine' pw_and ?_ ?_|refine' pw_or1 ?_|refine' pw_or ?_ ?_) | (show PIp _ _ _;first|exact zil|exact ziE) | refine' λ_ _ _ _ _ _ _=>(?_,?_))
local macro_rules | `(tactic| exists $es:term,*)=>do
 if let some n:=es.getElems[0]? then
  if n.raw.isOfKind `num then
   let i:List Lean.Ident:=[`vs,`H,`Q,`E,`h].map Lean.mkIdent
   return ← `(tactic| (refine knI $n rfl (by exists $(es.getElems.drop 1),*) ?_;intro $(i.toArray)*))
 let mut t ← `(tactic| (refine' ⟨?_,?_⟩;(first|exact .inr (V,V,V,by decide +kernel,V,by decide +kernel,by decide +kernel) | (refine' .inl ?_;repeat' with_reducible first|exact LcN.nil|refine' LcN.loc ?_|refine' LcN.glo ?_|refine' LcN.cel ?_));intros;and_intros))
 for e in es.getElems do
  if e.raw.isOfKind ``Lean.Parser.Term.hole then continue
  let h ← `(tactic| (first|exact $e|refine' zkh $e ?_|refine' $e ?_|refine' zjX $e ?_ ?_|refine' zj1 $e ?_ ?_|refine' zjY $e ?_ ?_) <;> and_intros)
  t ← `(tactic| ($t;first| $h:tactic | (rotate_left;$h:tactic) | (rotate_left 2;$h:tactic)))
 return t
seal PSs PS PE PA PT PW PI PG PGs PTs PO OpR UnR IxR SlR kau PIp
section
variable[B:Bn pg]
theorem yn(h0:0<=a)(h1:a<=2305843009213693952):IntMulOk a b:=IntMulOk.of_left (cZ (by omega) (by omega))
inductive zgQ:Sp
 | mk:∀ a b,vs=[.int a,.int b]->Q (.int ((vH a b:Nat):Int)) H->zgQ vs H Q E_
def zc8 i:(if i<0 then -i else i) =(i.natAbs:Int):=by split <;> omega
def zgC:KnI pg 4 1 zgQ:=by
 exists 4,ZF
 obtain⟨a,b,rfl,q⟩:=h;refine(Z,a,V,Z,b,V,?_);rw[zc8,zc8]
 let Wv1_:Nat->L2.St->Hp->Prop:=λm L H'=>∃ l r o,L=[some (.int a),some (.int b),some (.int l),some (.int r),o]/\H'=H/\0<=l/\0<=r/\vH l r=vH a b/\m=r.toNat
 refine(Wv1_,(_,_,_,none,V,V,gD _,gD _,by simp[gv],V),?_)
 rintro m L H' ⟨l,r,o,rfl,rfl,l0,r0,g,rfl⟩
 refine(Z,V,Z,?_);refine ite2 (λc=>?_) (λc=>?_)
 ·have c':r≠0:=λz=>by rw[z]at c;exact bw c ()
  have m0:=wI l (show 0<r by omega);have m1:=wW l (show 0<r by omega);refine(_,λ_ _ h=>h,?_);exact(Z,Z,_,Z,V,c',Z,Z,_,(),r,l.fmod r,Z,V,r0,m0,(QI l r).trans g,V)
 ·have c':r=0:=by
   rcases Gp 0 r with h|h
   ·exact bw (by have h':¬ V.int r=V.int 0:=λz=>(by have:=V.int.inj z;omega);rw[bq h'];rfl) c
   ·omega
  subst c';refine(Z,?_);have e:l =((vH a b:Nat):Int):=by rw[← g,wa7];omega
  rw[e];exact q
inductive Zs:Sp
 | mk:∀ t b,vs=[.int t,.int b]->b≠0->(∀ v H',Same H H'->RN H' (.q (ul t b)) v->Q v H')->Zs vs H Q E_
def Zb:KnI pg 5 41 Zs:=by
 exists 5,zgC
 obtain⟨t,b,rfl,hb,q⟩:=h;obtain⟨e1,e2⟩:=qO hb;have cd:sg t b≠0:=zeW hb;have fin:∀ p,H p=none->Q (.ref p) (upd H p (.tup [.int (t.fdiv (sg t b)),.int (b.fdiv (sg t b))])):=λp C=>by
  rw[e1,e2];exact q _ _ (zc C _) (RN.of_q za)
 refine(Z,Z,t,b,V,?_);refine(Z,_,Z,V,Z,?_);refine ite2 (λc=>?_) (λc=>?_)
 ·have c':= bt c;have e:sg t b = -((vH t b:Nat):Int):=by unfold sg;rw[bj c']
  rw[e]at cd fin;exact(Z,Z,Z,Z,_,Z,V,cd,Z,Z,_,Z,V,cd,(),fin)
 ·have c':= bv (uv.mpr c);have e:sg t b =((vH t b:Nat):Int):=by unfold sg;rw[bn c']
  rw[e]at cd fin;exact(Z,Z,_,Z,V,cd,Z,Z,_,Z,V,cd,(),fin)
inductive Zj:Sp
 | mk:∀ p r,vs=[.int p,.int r]->Pr p->0<r->r<p->(∀ x,0<=x->x<p->p ∣ x*r - 1->Q (.int x) H)->Zj vs H Q E_
def QF:KnI pg 6 41 Zj:=by
 exists 6,ZF,zK,zK
 obtain⟨p,r,rfl,C,r0,rp,q⟩:=h;have p0:0<p:=by have:=C.lo;omega
 refine(Z,Z,?_)
 let Wv1_:Nat->L2.St->Hp->Prop:=λm L H'=>∃ l g ml mg o1 o2 o3,L=[some (.int p),some (.int r),some (.int l),some (.int g),some (.int ml),some (.int mg),o1,o2,o3]/\H'=H/\OvInv p r l g ml mg/\m=g.toNat
 refine(Wv1_,(_,_,_,_,_,none,none,none,V,V,zbf C r0 rp,V),?_)
 rintro m L H' ⟨l,g,ml,mg,o1,o2,o3,rfl,rfl,inv,rfl⟩
 have l0:=inv.l0;have l1:=inv.l1;have g0:=inv.g0;refine(Z,V,Z,?_);refine ite2 (λc=>?_) (λc=>?_)
 ·have c':g≠0:=λz=>by rw[z]at c;exact bw c ()
  have ed:= waq l g0;have d0:0<=l.fdiv g:=by rw[ed];exact wbv l0 g0
  have d1:l.fdiv g<=l:=by rw[ed];exact Int.ediv_le_self g l0
  have tn:=zd6 inv c';have tm:=zbZ (l:=l) g0 c';rw[← ed]at tn tm;refine(_,λ_ _ h=>h,?_);refine(Z,Z,_,Z,V,c',?_);refine(Z,Z,Z,_,Z,V,yn d0 (),_,Z,V,Z,Z,Z,_,Z,V,yn d0 (),_,Z,V,Z,Z,Z,Z,_,tm,g,_,mg,_,_,_,Z,V,tn,V)
 ·have c':g=0:=by
   rcases Gp 0 g with h|h
   ·exact bw (by have h':¬ V.int g=V.int 0:=λz=>(by have:=V.int.inj z;omega);rw[bq h'];rfl) c
   ·omega
  subst c';refine(Z,Z,_,Z,V,(show p≠0 by omega),?_);have em:ml.fmod p=ml % p:=uU ml ();rw[em];exact q _ (wad _ ()) (Gc _ p0) (zfG inv p0)
inductive Xy:Sp
 | mk:∀ k w,vs=[.int k,.int w]->(∀ v H',Same H H'->RN H' (nnum k w) v->Q v H')->Xy vs H Q E_
def yP:KnI pg 7 1 Xy:=by
 exists 7,yu
 obtain⟨k,w,rfl,q⟩:=h;refine(Z,V,Z,?_);refine ite2 (λc=>?_) (λc=>?_)
 ·have e:= V.int.inj (bt c);subst e;refine(Z,(),λp C=>?_);refine q _ _ (zc C _) ?_;exact RN.of_q za
 ·have c':= bv (uv.mpr c);have e:k≠0:=λz=>c' (by rw[z])
  refine(Z,Z,_,Z,V,e,?_);refine q _ _ (Same.refl H) ?_;unfold nnum;rw[bn e];exact RN.of_z
structure Two(H:Hp)(k:Int)(x y:Nb)(a b:V):Prop where
 kd:kab k
 xo:x.ok k
 yo:y.ok k
 xs:nsm 60000000 x
 ys:nsm 60000000 y
 xr:RN H x a
 yr:RN H y b
inductive zaU(f:Int->Nb->Nb->Nb):Sp
 | mk:∀(k:Int)(x y:Nb)(a b:V),vs=[.int k,a,b]->Two H k x y a b->(∀ v H',Same H H'->RN H' (f k x y) v->Q v H')->zaU f vs H Q E_
def qj{H:Hp}{k:Int}{x y:Nb}{a b:V}(T:Two H k x y a b) :
  (k=0/\∃ r s pa pb,x=.q r/\y=.q s/\a=.ref pa/\b=.ref pb/\H pa=some (.tup [.int r.num,.int (r.den:Int)])/\H pb=some (.tup [.int s.num,.int (s.den:Int)])/\Sm 60000000 r.num/\Sm 60000000 (r.den:Int)/\Sm 60000000 s.num/\Sm 60000000 (s.den:Int)) \/
  (k≠0/\Pr k/\∃ i j,x=.z i/\y=.z j/\a=.int i/\b=.int j/\0<=i/\i<k/\0<=j/\j<k):=by
 obtain⟨kd,xo,yo,xs,ys,xr,yr⟩:=T;cases x with
 | q r =>
  have k0:= xo;cases y with
  | q s =>
   obtain⟨pa,ea,ha⟩:=xr.q;obtain⟨pb,eb,hb⟩:=yr.q;exact .inl (k0,r,s,pa,pb,V,V,ea,eb,ha,hb,xs.1,xs.2,ys.1,ys.2)
  | z j=>exact bw k0 yo.1
 | z i =>
  cases y with
  | q s=>exact bw (show k=0 from yo) xo.1
  | z j =>
   refine .inr (xo.1,?_,i,j,V,V,xr.z,yr.z,xo.2.1,xo.2.2,yo.2.1,yo.2.2)
   rcases kd with h|h
   ·exact bw h xo.1
   ·exact h
def yN(ha:Sm m a)(hb:Sm n b)(h:m+n<=134217728:=by decide):IntMulOk a b:=ha.mulOk hb h
def zbM(r s:Rat):(r.den:Int) *(s.den:Int)≠0:=Ge (yV r) (yV s)
inductive zd5:Sp
 | mk:∀ k x y a b,vs=[.int k,a,b]->Two H k x y a b->y≠nnum k 0->(∀ v H',Same H H'->RN H' (ndiv k x y) v->Q v H')->zd5 vs H Q E_
def zhS:KnI pg 9 42 zd5:=by
 exists 9,zh0,yP,zao,yu,Zb,zK,zi,zi,zK,zi,zi,zK,QF
 obtain⟨k,x,y,a,b,rfl,T,ne,q⟩:=h;refine(Z,Z,k,0,V,λv0 H0 g0 r0=>?_);refine(toD y,toD (nnum k 0),T.yr.mono g0,r0,yy _,yy _,wE (uC _ _) (wE (yO y) ()),Z,?_);rw[jh,bq ne];refine iteF ?_
 rcases qj T with⟨rfl,r,s,pa,pb,rfl,rfl,rfl,rfl,ha,hb,rn,rd,sn,sd⟩|⟨k0,C,i,j,rfl,rfl,rfl,rfl,i0,ik,j0,jk⟩
 ·have ha':=g0 _ _ ha;have hb':=g0 _ _ hb;have s0:s≠0:=λz=>ne (by rw[z];rfl)
  refine(Z,V,Z,iteT ?_);refine(Z,pa,_,_,Z,V,SqT.of ha',V,Z,pb,_,_,Z,V,SqT.of hb',V,_,Z,V,yN rn sd,Z,pa,_,_,Z,V,SqT.of ha',V,Z,pb,_,_,Z,V,SqT.of hb',V,_,Z,V,yN rd sn,_,Z,Ge (yV r) (zgb s0),λv H' g h=>?_);rw[zd3]at h;exact q v H' (g0.trans g) h
 ·have j1:j≠0:=λz=>ne (by unfold nnum;rw[bn k0,z,wa0])
  refine(Z,V,Z,?_);rw[bq (show ¬ V.int k=V.int 0 from λz=>k0 (V.int.inj z))];refine iteF ?_;refine(Z,Z,Z,k,j,V,C,(),jk,λx x0 xk D=>?_);refine(_,Z,V,yn i0 (by have:=C.hi;omega),Z,_,Z,V,k0,?_);refine q _ _ g0 ?_;show RN _ (.z ((i*zinv k j).fmod k)) _;rw[zb2 x0 xk D];exact RN.of_z
def zav:KnI pg 8 42 (zaU nsub):=by
 exists 8,yu,Zb,zK,zi,zi,zK,zi,zi,zK,zi,zi
 obtain⟨k,x,y,a,b,rfl,T,q⟩:=h
 rcases qj T with⟨rfl,r,s,pa,pb,rfl,rfl,rfl,rfl,ha,hb,rn,rd,sn,sd⟩|⟨k0,C,i,j,rfl,rfl,rfl,rfl,i0,ik,j0,jk⟩
 ·refine(Z,V,Z,iteT ?_);refine(Z,pa,_,_,Z,V,SqT.of ha,V,Z,pb,_,_,Z,V,SqT.of hb,V,_,Z,V,yN rn sd,Z,pb,_,_,Z,V,SqT.of hb,V,Z,pa,_,_,Z,V,SqT.of ha,V,_,Z,V,yN sn rd,_,Z,V,Z,pa,_,_,Z,V,SqT.of ha,V,Z,pb,_,_,Z,V,SqT.of hb,V,_,Z,V,yN rd sd,_,Z,zbM r s,λv H' g h=>?_);rw[JX]at h;exact q v H' g h
 ·refine(Z,V,Z,?_);rw[bq (show ¬ V.int k=V.int 0 from λz=>k0 (V.int.inj z))];refine iteF ?_;refine(Z,Z,_,Z,V,Z,_,Z,V,k0,?_);exact q _ _ (Same.refl H) RN.of_z
def zfO:KnI pg 65 1 zgQ:=by
 exists 65,ZF
 obtain⟨a,b,rfl,q⟩:=h
 let Wv1_:Nat->L2.St->Hp->Prop:=λm L H'=>∃ l r,L=[some (.int l),some (.int r)]/\H'=H/\vH l r=vH a b/\m=r.natAbs
 refine(Wv1_,(_,_,Z,V,V,V),?_)
 rintro m L H' ⟨l,r,rfl,rfl,g,rfl⟩
 refine(Z,V,Z,?_);refine ite2 (λc=>?_) (λc=>?_)
 ·have c':r≠0:=λz=>by rw[z]at c;exact bw c ()
  refine(_,λ_ _ h=>h,?_);exact(Z,Z,Z,_,Z,V,c',_,Z,_,zbg l c',r,l.fmod r,V,V,(QI l r).trans g,V)
 ·have c':r=0:=by
   by_cases h:r=0
   ·exact h
   ·exact bw (by have h':¬ V.int r=V.int 0:=λz=>h (V.int.inj z);rw[bq h'];rfl) c
  subst c';refine(Z,l,V,?_);have e:(if l<0 then -l else l) =((vH a b:Nat):Int):=by rw[zc8,← g,wa7]
  show Q (.int (if l<0 then -l else l)) H';rw[e];exact q
def szM(m:Nat)(M:TB):Prop:=∀ r∈M,∀ x∈r,nsm m x
def zbJ(ok:OkM k n M)(h:szM m M):szM m (kaa n M):=λr U x D=>by
 unfold kaa at U;obtain⟨j,hj,rfl⟩:=wm.mp U;rw[vA]at hj;obtain⟨row,hrow,rfl⟩:=wm.mp D;have hj':j<row.length:=by have:=(ok row hrow).1;omega
 rw[we,wa hj'];exact h row hrow _ (wj hj')
inductive Zo:Sp
 | mk:∀ k xs a B,vs=[.int k,.ref a]->kab k->kag H xs a->OkR k xs->rowB B xs->61<=B->B<=60000000->xs.length<sizeLine->(∀ p H',Same H H'->SclAt H' k B xs p->Q (.ref p) H')->Zo vs H Q E_
local macro_rules | `(tactic| symm) => `(tactic| first | refine gyes ?_ | refine tyes ?_)
def xF:KnI pg 11 41 Zo:=by
 exists 11,ZF,zj,zK,zgC,zi,zi,[2],zj,zK,zi,zi
 obtain⟨k,xs,a,B,rfl,J,hrow,ok,⟨Dn,dn0,dn1,hD⟩,b7,b6,hlen,q⟩:=h;have kl:=J.lt;have szl:=sh
 obtain⟨vs,ha,C,hvl⟩:=hrow.len;refine(Z,V,Z,?_);refine ite2 (λc=>?_) (λc=>?_)
 ·have k0:k≠0:=λz=>by rw[z]at c;exact bw c ()
  obtain⟨is,rfl,rfl⟩:=Xv k0 ok C;refine(Z,a,Z,.inl (SqL.of ha),λl hl=>((),λp hp'=>?_));have n1:l≠p:=λe=>by rw[e,za]at hp';cases hp'
  refine q p _ ((zc hl _).trans (zc hp' _)) (l,is,1,za,?_,zb4 k0 is,?_,λw hw=>?_)
  ·show upd _ _ _ l=_;rw[zE n1];exact za
  ·exact kax.mono ()
  ·have o:=ok (.z w) (wm.mpr (w,hw,V));exact(ZC o.2.1 o.2.2 kl.2).mono b7
 ·have k0:k=0:=by
   by_cases z:k=0
   ·exact z
   ·exact bw (by have h':¬ V.int k=V.int 0:=λe=>z (V.int.inj e);rw[bq h'];rfl) c
  subst k0;have isq:∀(i:Nat)(x:Nb),xs[i]?=some x->∃ r,x=.q r:=λi x D=>by
   have o:=ok x (wg D);cases x with
   | q r=>exact(r,V)
   | z j=>exact bw rfl o.1
  have dle:∀ b:Int,0<b->b ∣ (Dn:Int)->Sm B b:=λb b0 hb=>by
   have:=waZ () hb;show b.natAbs<2^B;omega
  have parts:∀ r:Rat,.q r∈xs->Sm B r.num/\Sm B (r.den:Int)/\(r.den:Int) ∣ (Dn:Int):=λr U=>by
   obtain⟨h1,h2⟩:=dB.parts dn0 (hD _ U);have dv:=dB.den_dvd dn0 (hD _ U);refine(?_,dle _ (den_pos r) dv,dv);show r.num.natAbs<2^B;have:0<2^B:=GZ ();omega
  refine(Z,a,V,(_,SqL.of ha),?_)
  let Pv1_:Nat->L2.St->Hp->Prop:=λi L H'=>∃ b o,L=[some (.int 0),some (.ref a),some (.int b),o]/\H'=H/\0<b/\(∀ x∈xs.take i,dvB b x)/\b ∣ (Dn:Int)
  refine yl (xs:=vs) Pv1_ (1,none,V,V,(),λx D=>by simp at D,(_,(wbO _).symm)) ?_ ?_ ?_
  ·rintro i L H' _ ⟨b,o,rfl,rfl,_⟩
   exact SqL.of ha
  ·rintro i v L H' hv ⟨b,o,rfl,rfl,b0,dv,bD⟩
   obtain⟨x,D,rx⟩:=zG C hv;obtain⟨r,rfl⟩:=isq i x D;obtain⟨pa,rfl,hpa⟩:=rx.q;obtain⟨sn,sd,dD⟩:=parts r (wg D);obtain⟨l1,l2,l3,l4⟩:=zev b0 (den_pos r);have l5:=zhN b0 (den_pos r) bD dD;have sf:Sm B (b.fdiv ((vH b (r.den:Int):Nat):Int)):=Qh (dle b b0 bD) (Gr _ _);refine(Z,Z,Z,pa,_,_,Z,V,SqT.of hpa,V,_,Z,_,Z,V,l4,?_);refine(Z,pa,_,_,Z,V,SqT.of hpa,V,_,Z,V,sf.mulOk sd (),?_);refine(_,Z,V,l1,λy hy=>?_,l5);rw[zf D]at hy
   rcases wq.mp hy with hy|hy
   ·have:=dv y hy;cases y with
    | q s=>exact wbC (show(s.den:Int) ∣ b from this) l2
    | z j=>trivial
   ·rw[wp.mp hy];exact l3
  ·rintro L H' ⟨b,o,rfl,rfl,b0,dv,bD⟩
   rw[hvl]at dv;rw[ug]at dv;have sb:=dle b b0 bD;refine(Z,a,V,(_,SqL.of ha),?_)
   let Pv2_:Nat->List V->Hp->Prop:=λi ys H2=>H2=H'/\ys =((xs.take i).map (scW b)).map V.int
   refine zo (xs:=vs) Pv2_ (V,by simp) ?_ ?_ ?_
   ·rintro i ys H2 hi ⟨rfl,rfl⟩
    refine(SqL.of ha,?_);rw[wc,wc,wr];omega
   ·rintro i v ys H2 hv hi ⟨rfl,rfl⟩
    obtain⟨x,D,rx⟩:=zG C hv;obtain⟨r,rfl⟩:=isq i x D;obtain⟨pa,rfl,hpa⟩:=rx.q;obtain⟨sn,sd,dD⟩:=parts r (wg D);have dx:(r.den:Int) ∣ b:=dv _ (wg D)
    symm
    refine(Z,pa,_,_,Z,V,SqT.of hpa,V,Z,Z,pa,_,_,Z,V,SqT.of hpa,V,_,Z,V,yV r,_,Z,V,sn.mulOk (Qh sb dx) (),nxt hi (V,?_));rw[zf D,wx,wx];rfl
   ·rintro ys H2 ⟨rfl,rfl⟩ l hl
    rw[hvl,ug]at *;refine(Z,(),λp hp'=>?_);have n1:l≠p:=λe=>by rw[e,za]at hp';cases hp'
    refine q p _ ((zc hl _).trans (zc hp' _)) (l,xs.map (scW b),b,za,?_,(V,b0,λz=>bw rfl z,dv),sb,λw hw=>?_)
    ·show upd _ _ _ l=_;rw[zE n1];exact za
    ·obtain⟨x,D,rfl⟩:=wm.mp hw;exact zdY J (ok x D) b7 dn0 (hD x D) b0 (dv x D) λ_=>bD
inductive zdb:Sp
 | mk:∀ k t b,vs=[.int k,.int t,.int b]->kab k->nnum k b≠nnum k 0->Sm 60000000 t->Sm 60000000 b->(∀ v H',Same H H'->RN H' (ndiv k (nnum k t) (nnum k b)) v->Q v H')->zdb vs H Q E_
def JY:KnI pg 12 43 zdb:=by
 exists 12,zhS,yP,yP
 obtain⟨k,t,b,rfl,J,ne,st,sb,q⟩:=h;refine(Z,Z,Z,k,t,V,λv1 H1 g1 r1=>?_);refine(Z,Z,k,b,V,λv2 H2 g2 r2=>?_);refine(k,_,_,v1,v2,V,(J,zm J t,zm J b,yc J st (),yc J sb (),r1.mono g2,r2),ne,λv3 H3 g3 r3=>?_);exact q v3 H3 ((g1.trans g2).trans g3) r3
inductive za1:Sp
 | mk:∀ k ws a,vs=[.int k,.ref a]->kab k->IRow H ws a->ws.length<sizeLine->(∀ p H',Same H H'->IRow H' (kam k ws) p->Q (.ref p) H')->za1 vs H Q E_
def QX:KnI pg 16 41 za1:=by
 refine knI (N:=["kind", "wholes", "divisor", "whole"]) 16 rfl (by exists ZF,[0],zj,zj,zgC,yu,yu,[2],zj) λvs H Q E h=>?_
 obtain⟨k,ws,a,rfl,J,ha,hz,q⟩:=h;refine(Z,V,Z,?_);refine ite2 (λc=>?_) (λc=>?_)
 ·have k0:k≠0:=λz=>by rw[z]at c;exact bw c ()
  refine(Z,a,V,(_,SqL.of ha),?_)
  let Pv1_:Nat->List V->Hp->Prop:=λi ys H'=>H'=H/\ys =((ws.take i).map (·.fmod k)).map V.int
  refine zo (xs:=ws.map V.int) Pv1_ (V,by simp) ?_ ?_ ?_
  ·rintro i ys H' hi ⟨rfl,rfl⟩
   refine(SqL.of ha,?_);rw[wc,wc,wr];omega
  ·rintro i v ys H' hv hi ⟨rfl,rfl⟩
   rw[wk]at hv;obtain⟨u,hu,rfl⟩:=wY.mp hv
   symm
   refine(Z,Z,_,Z,V,k0,nxt hi (V,?_));rw[zf hu,wx,wx];rfl
  ·rintro ys H' ⟨rfl,rfl⟩ p C
   rw[wc,ug];refine q p _ (zc C _) ?_;rw[zbN k0];exact za
 ·have k0:k=0:=by
   by_cases z:k=0
   ·exact z
   ·exact bw (by have h':¬ V.int k=V.int 0:=λe=>z (V.int.inj e);rw[bq h'];rfl) c
  subst k0;refine(Z,a,V,(_,SqL.of ha),?_)
  let Pv2_:Nat->L2.St->Hp->Prop:=λi L H'=>∃ o,L=[some (.int 0),some (.ref a),some (.int ((gcdL (ws.take i):Nat):Int)),o]/\H'=H
  refine yl (xs:=ws.map V.int) Pv2_ (none,V,V) ?_ ?_ ?_
  ·rintro i L H' _ ⟨o,rfl,rfl⟩
   exact SqL.of ha
  ·rintro i v L H' hv ⟨o,rfl,rfl⟩
   rw[wk]at hv;obtain⟨u,hu,rfl⟩:=wY.mp hv;have eg:((vH ((gcdL (ws.take i):Nat):Int) u:Nat):Int) =((gcdL (ws.take (i+1)):Nat):Int):=by
    rw[zf hu,zdG,gv,ut]
   refine(Z,Z,_,Z,?_);rw[eg];refine(Z,V,Z,?_);refine ite2 (λc1=>?_) (λc1=>?_)
   ·have e1:((gcdL (ws.take (i+1)):Nat):Int)=1:=V.int.inj (bt c1);refine(Z,q a _ (Same.refl _) ?_);rw[zbl (zeq (i:=i+1) ())];exact ha
   ·exact(Z,V)
  ·rintro L H' ⟨o,rfl,rfl⟩
   rw[wc,ug];refine(Z,V,Z,?_);refine ite2 (λc1=>?_) (λc1=>?_)
   ·have e1:((gcdL ws:Nat):Int)=0:=V.int.inj (bt c1);refine(Z,q a _ (Same.refl _) ?_);rw[zbv ()];exact ha
   ·have e1:((gcdL ws:Nat):Int)≠0:=λz=>by rw[z]at c1;exact c1 ()
    refine(Z,a,V,(_,SqL.of ha),?_)
    let Pv3_:Nat->List V->Hp->Prop:=λi ys H2=>H2=H'/\ys =((ws.take i).map λw=>w.fdiv ((gcdL ws:Nat):Int)).map V.int
    refine zo (xs:=ws.map V.int) Pv3_ (V,by simp) ?_ ?_ ?_
    ·rintro i ys H2 hi ⟨rfl,rfl⟩
     refine(SqL.of ha,?_);rw[wc,wc,wr];omega
    ·rintro i v ys H2 hv hi ⟨rfl,rfl⟩
     rw[wk]at hv;obtain⟨u,hu,rfl⟩:=wY.mp hv
     symm
     refine(Z,Z,_,Z,V,e1,nxt hi (V,?_));rw[zf hu,wx,wx];rfl
    ·rintro ys H2 ⟨rfl,rfl⟩ p C
     rw[wc,ug];refine q p _ (zc C _) ?_;rw[zbA ()];exact za
inductive ZN:Sp
 | mk:∀(k:Int)(row lead:List Int)(c:Nat)(ra la:Addr)(b:Nat),vs=[.int k,.ref ra,.ref la,.int (0 +(c:Int))]->kab k->IRow H row ra->IRow H lead la->row.length=lead.length->c<row.length->row.length<sizeLine->(∀ w∈row,Sm b w)->(∀ w∈lead,Sm b w)->b<=60000000->(∀ p H',Same H H'->IRow H' (kaf k lead c row) p->Q (.ref p) H')->ZN vs H Q E_
def Yg:KnI pg 17 42 ZN:=by
 exists 17,yu,ze,QX,[2,3,1],zK,ze,zK,ze
 obtain⟨k,row,lead,c,ra,la,b,rfl,J,hra,hla,hl,hc,hz,s1,s2,hb,q⟩:=h;refine(Z,Z,ra,_,_,Z,V,SqL.of hra,ZE hra hc,V,Z,?_);refine ite2 (λc1=>?_) (λc1=>?_)
 ·have e1:= V.int.inj (bt c1);refine(Z,q ra _ (Same.refl _) ?_);unfold kaf;rw[bj e1];exact hra
 ·have e1:row.getD c 0≠0:=λz=>by rw[z]at c1;exact c1 ()
  refine(Z,Z,Z,ra,la,_,Z,SqL.of hra,SqL.of hla,?_)
  let Pv1_:Nat->List V->Hp->Prop:=λi ys' H'=>Same H H'/\ys' =((mixed row lead c).take i).map V.int
  refine xu (xs:=row.map V.int) (zs:=lead.map V.int) (by rw[wc,wc];omega) Pv1_ (Same.refl H,by simp) ?_ ?_ ?_
  ·rintro i ys' H' hi ⟨g,rfl⟩
   refine(SqL.of (hra.mono g),SqL.of (hla.mono g),?_);rw[wc,wr,xV hl];omega
  ·rintro i x z T ys' H' D hy hi hT ⟨g,rfl⟩
   rw[wk]at D hy;obtain⟨u,hu,rfl⟩:=wY.mp D;obtain⟨u',hu',rfl⟩:=wY.mp hy;have g':=g.trans (zc hT (.tup [.int u,.int u']));refine(T,Z,SqT.of za,V,_,Z,_,Z,V,?_)
   symm
   refine(Z,Z,la,_,_,Z,V,SqL.of (hla.mono g'),ZE (hla.mono g') (),Z,_,Z,V,(yT s2 c).mulOk (s1 u (wg hu)) (),?_);refine(Z,Z,ra,_,_,Z,V,SqL.of (hra.mono g'),ZE (hra.mono g') (),Z,_,Z,V,(yT s1 c).mulOk (s2 u' (wg hu')) (),_,Z,V,nxt hi (g',?_));have e:(mixed row lead c)[i]?=some (lead.getD c 0*u - row.getD c 0*u'):=by unfold mixed;rw[vL,hu,hu']
   rw[zf e,wx];rfl
  ·rintro ys' H' ⟨g,rfl⟩ pl hpl
   rw[wc,wo (by rw[xV hl];exact wv _)];refine(k,_,pl,V,J,za,by rw[xV hl];exact hz,λp H2 g2 C=>?_);refine q p H2 ((g.trans (zc hpl _)).trans g2) ?_;unfold kaf;rw[bn e1];exact C
inductive zas:Sp
 | mk:∀ k Ws n b t ras,vs=[.int k,.ref t]->kab k->IRs H Ws t ras->(∀ r∈Ws,r.length=n)->n<sizeLine->Ws.length<=8000000->(∀ r∈Ws,∀ w∈r,Sm b w)->61<=b->(b+1)*2^n<=60000000->(∀ p rs H',Same H H'->IRs H' ((swTo k Ws n).1.map (·.2)) p rs->Q (.ref p) H')->zas vs H Q E_
def zeH:KnI pg 18 43 zas:=by
 exists 18,[0],zj,QX,ze,[5],zj,ZF,ze,ze,[5],zj,yu,ze,[0,7,5],zj,yd,Yg,[0,7,5],zj,Yg
 obtain⟨k,Ws,n,b,t,ras,rfl,J,hI,hl,nz,wz,sz,b7,hb,q⟩:=h;have szl:=sh
 have lras:=zd hI.2;refine((),λpd hpd=>?_);have g0:=zc hpd (.lst []);have hpd0:upd H pd (.lst []) pd=some (.lst []):=za;generalize upd H pd (.lst [])=H0 at *;refine(Z,t,V,(_,SqL.of (g0 _ _ hI.1)),?_)
 let Pv1_:Nat->List V->Hp->Prop:=λi ys H'=>∃ rs,ys=rs.map V.ref/\Same H0 H'/\Paired (IRow H') ((Ws.map (kam k)).take i) rs
 refine zo (xs:=ras.map V.ref) Pv1_ ([],V,Same.refl _,.nil) ?_ ?_ ?_
 ·rintro i ys H' hi ⟨rs,rfl,g,pr⟩
  refine(SqL.of (g _ _ (g0 _ _ hI.1)),?_);have:=zd pr;rw[wr,wc]at this;rw[wc];omega
 ·rintro i v ys H' hv hi ⟨rs,rfl,g,pr⟩
  obtain⟨ws,a,hw,ha,rfl,hrow⟩:=(hI.mono (g0.trans g)).row hv
  symm
  refine(Z,Z,k,ws,a,V,J,hrow,by rw[hl ws (wg hw)];exact nz,λp H2 g2 C=>nxt hi (rs++[p],by rw[wx];rfl,g.trans g2,?_));have e:(Ws.map (kam k))[i]?=some (kam k ws):=by rw[wk,hw];rfl
  rw[zf e];exact zy (jA g2 pr) C
 rintro ys H' ⟨rs,rfl,g,pr⟩ pw hpw
 rw[wc,wo (by rw[wc];omega)]at pr;have g1:=(g0.trans g).trans (zc hpw (.lst (rs.map V.ref)));have hpw1:upd H' pw (.lst (rs.map V.ref)) pw=some (.lst (rs.map V.ref)):=za;have pr1:=jA (zc hpw (.lst (rs.map V.ref))) pr;have hpd1:=zc hpw (.lst (rs.map V.ref)) _ _ (g _ _ hpd0);generalize upd H' pw (.lst (rs.map V.ref))=H1 at *;clear g pr hpw g0 hpd0;refine(Z,t,Z,.inl (SqL.of (g1 _ _ hI.1)),_,Z,V,Z,?_);rw[wc,← lras];refine ite2 (λc=>?_) (λc=>?_)
 ·have c':0 <(Ws.length:Int):=bt c;obtain⟨r0,ras',e0⟩ : ∃ r0 ras',ras=r0::ras':=by
   cases ras with
   | nil=>rw[wae]at lras;omega
   | cons a b=>exact(a,b,V)
  obtain⟨w0,hw0,hr0⟩:=zG (hI.mono g1).2 (i:=0) (b:=r0) (by rw[e0];rfl);have lw0:=hl w0 (wg hw0);refine(Z,t,_,_,Z,V,SqL.of (g1 _ _ hI.1),(by rw[e0];exact zk (j:=0) rfl),r0,Z,.inl (SqL.of hr0),?_);rw[wc,lw0];refine(Z,Z,(),(),?_);rw[wS];have fine:=Fine.to (k:=k) J.lt.1 hl;have szs:=zhl J b7 hl sz;have lens:=jm (k:=k) Ws;refine zS (lo:=0) (n:=n) (λi L H'=>∃ td tw rd rw o5 o6 o7,L=[some (.int k),some (.ref t),some (.ref td),some (.ref tw),some (.int (n:Int)),o5,o6,o7]/\Same H H'/\IRs H' ((swTo k Ws i).1.map (·.2)) td rd/\IRs H' (swTo k Ws i).2 tw rw) (pd,pw,[],rs,none,none,none,V,g1,(hpd1,.nil),(hpw1,pr1)) ?_ ?_
  ·rintro i L H2 hi ⟨td,tw,rd,rw',o5,o6,o7,rfl,g2,hD,hW⟩
   have fi:=fine i;have si:=szs i;have li:=lens i;have e1:swTo k Ws (i+1)=kao k i (swTo k Ws i):=rfl;rw[e1];generalize swTo k Ws i=S at *;obtain⟨Dn,Wt⟩:=S;have bnd:(b+1)*2^i - 1<=60000000:=by
    have:2^i<=2^n:=vI () ();have:(b+1)*2^i<=(b+1)*2^n:=vk _ this;omega
   generalize (b+1)*2^i - 1=bb at *
   dsimp only at hD hW li
   have lD:=zd hD.2;have lW:=zd hW.2;rw[wc]at lD;have wlen:∀ ws∈Wt,ws.length=n:=fi.wl;have dlen:∀ ws∈Dn.map (·.2),ws.length=n:=λws hw=>by
    obtain⟨p,C,rfl⟩:=wm.mp hw;exact fi.dl p C
   have nn:∀ ws:List Int,ws.length=n->ws≠[]:=λws h e=>by rw[e]at h;simp at h;omega
   refine(Z,tw,V,(_,SqL.of hW.1),?_)
   let Pv2_:Nat->List V->Hp->Prop:=λj ys H3=>H3=H2/\∃ rl,ys=rl.map V.ref/\Paired (IRow H2) ((Wt.take j).filter λr=>decide (r.getD i 0≠0)) rl
   refine zo (xs:=rw'.map V.ref) Pv2_ (V,[],V,.nil) ?_ ?_ ?_
   ·rintro j ys H3 hj ⟨rfl,rl,rfl,prl⟩
    refine(SqL.of hW.1,?_);have:=zd prl;have h2:=uo (λr:List Int=>decide (r.getD i 0≠0)) (Wt.take j);rw[wr]at h2;rw[wc];omega
   ·rintro j v ys H3 hv hj ⟨rfl,rl,rfl,prl⟩
    obtain⟨ws,a,hw,ha,rfl,hrow⟩:=hW.row hv;have lw:=wlen ws (wg hw);refine(Z,Z,a,_,_,Z,V,SqL.of hrow,ZE hrow (),V,Z,?_);refine ite2 (λc1=>?_) (λc1=>?_)
    ·have z:ws.getD i 0≠0:=λz=>by rw[z]at c1;exact bw c1 ()
     refine(Z,nxt hj (V,rl++[a],by rw[wx];rfl,?_));rw[yz _ hw,bj (br z)];exact zy prl hrow
    ·have z:ws.getD i 0=0:=by
      by_cases z:ws.getD i 0=0
      ·exact z
      ·exact bw (by have h':¬ V.int (ws.getD i 0)=V.int 0:=λe=>z (V.int.inj e);rw[bq h'];rfl) c1
     refine nxt hj (V,rl,V,?_);rw[yz _ hw,bn (show ¬ decide (ws.getD i 0≠0)=true from λh=>bt h z),uL];exact prl
   rintro ys H3 ⟨rfl,rl,rfl,prl⟩ pl hpl
   rw[wc,wo ()]at prl;have g3:=zc hpl (.lst (rl.map V.ref));have hpl3:upd H3 pl (.lst (rl.map V.ref)) pl=some (.lst (rl.map V.ref)):=za;have prl3:=jA g3 prl;have hD3:=hD.mono g3;have hW3:=hW.mono g3;have g23:=g2.trans g3;generalize upd H3 pl (.lst (rl.map V.ref))=H4 at *;clear prl hpl hD hW;have lrl:=zd prl3;refine(Z,pl,Z,.inl (SqL.of hpl3),_,Z,V,Z,?_);rw[wc,← lrl];refine ite2 (λc1=>?_) (λc1=>?_)
   ·have c2:0 <((Wt.filter λr=>decide (r.getD i 0≠0)).length:Int):=bt c1;cases ef:Wt.filter (λr=>decide (r.getD i 0≠0))with
    | nil=>rw[ef]at c2;simp at c2
    | cons lead rest =>
     rw[ef]at prl3 lrl;have turn:kao k i (Dn,Wt) =(Dn.map (λp=>(p.1,kaf k lead i p.2))++[(i,lead)],Wt.filter (λr=>decide (r.getD i 0=0))++rest.map (kaf k lead i)):=by
      unfold kao;simp only[ef]
     rw[turn];obtain⟨ld,rl',rfl⟩ : ∃ ld rl',rl=ld::rl':=by
      cases rl with
      | nil=>simp at lrl
      | cons a b=>exact(a,b,V)
     obtain⟨hld,prest⟩ : IRow H4 lead ld/\Paired (IRow H4) rest rl':=by
      cases prl3 with
      | cons h t=>exact(h,t)
     have memW:∀ r∈lead::rest,r∈Wt:=λr U=>by rw[← ef]at U;exact(vG.mp U).1
     have hlead:=memW lead wt;have llead:=wlen lead hlead;have slead:=si.2 lead hlead;have lf:=uo (λr:List Int=>decide (r.getD i 0≠0)) Wt;rw[ef,um]at lf;refine(Z,pl,_,_,Z,V,SqL.of hpl3,zk (j:=0) rfl,?_);refine(Z,tw,V,(_,SqL.of hW3.1),?_)
     let Pv3_:Nat->List V->Hp->Prop:=λj ys H5=>H5=H4/\∃ rz,ys=rz.map V.ref/\Paired (IRow H4) ((Wt.take j).filter λr=>decide (r.getD i 0=0)) rz
     refine zo (xs:=rw'.map V.ref) Pv3_ (V,[],V,.nil) ?_ ?_ ?_
     ·rintro j ys H5 hj ⟨rfl,rz,rfl,prz⟩
      refine(SqL.of hW3.1,?_);have:=zd prz;have h2:=uo (λr:List Int=>decide (r.getD i 0=0)) (Wt.take j);rw[wr]at h2;rw[wc];omega
     ·rintro j v ys H5 hv hj ⟨rfl,rz,rfl,prz⟩
      obtain⟨ws,a,hw,ha,rfl,hrow⟩:=hW3.row hv;have lw:=wlen ws (wg hw);refine(Z,Z,a,_,_,Z,V,SqL.of hrow,ZE hrow (),V,Z,?_);refine ite2 (λc1=>?_) (λc1=>?_)
      ·have z:ws.getD i 0=0:=V.int.inj (bt c1);refine(Z,nxt hj (V,rz++[a],by rw[wx];rfl,?_));rw[yz _ hw,bj (br z)];exact zy prz hrow
      ·have z:ws.getD i 0≠0:=λz=>by rw[z]at c1;exact c1 ()
       refine nxt hj (V,rz,V,?_);rw[yz _ hw,bn (show ¬ decide (ws.getD i 0=0)=true from λh=>z (bt h)),uL];exact prz
     rintro ys H5 ⟨rfl,rz,rfl,prz⟩ pz hpz
     rw[wc,wo ()]at prz;have g5:=zc hpz (.lst (rz.map V.ref));have hpz5:upd H5 pz (.lst (rz.map V.ref)) pz=some (.lst (rz.map V.ref)):=za;have pzH:H pz=none:=g23.none hpz;have ntd:td≠pz:=λe=>by rw[← e,hD3.1]at hpz;cases hpz
     have prz5:=jA g5 prz;have prest5:=jA g5 prest;have hld5:=hld.mono g5;have hD5:=hD3.mono g5;have hpl5:=g5 _ _ hpl3;have g25:=g23.trans g5;generalize upd H5 pz (.lst (rz.map V.ref))=H6 at *;clear prz hpz prest hld hD3 hpl3 g23 hW3 prl3 g3 g5 c1;have lrz:=zd prz5;have lfz:=uo (λr:List Int=>decide (r.getD i 0=0)) Wt;have zlen:∀ ws∈Wt.filter (λr=>decide (r.getD i 0=0)),ws.length=n:=λws hw=>wlen ws (vG.mp hw).1
     have lrest:=zd prest5;refine(Z,.inl (V,_,SqL.of hpz5),Z,Z,pl,Z,SqL.of hpl5,λpc hpc=>?_);rw[cut1];have g7:=zc hpc (.lst (((ld::rl').map V.ref).drop 1));have hpc7:upd H6 pc (.lst (((ld::rl').map V.ref).drop 1)) pc=some (.lst (rl'.map V.ref)):=za;generalize upd H6 pc (.lst (((ld::rl').map V.ref).drop 1))=H7 at *;refine(pc,V,(_,SqL.of hpc7),?_)
     let Pv4_:Nat->List V->Hp->Prop:=λj ys H8=>∃ rc,ys=rc.map V.ref/\Same H7 H8/\Paired (IRow H8) ((rest.map (kaf k lead i)).take j) rc
     refine zo (xs:=rl'.map V.ref) Pv4_ ([],V,Same.refl _,.nil) ?_ ?_ ?_
     ·rintro j ys H8 hj ⟨rc,rfl,g8,prc⟩
      refine(SqL.of (g8 _ _ hpc7),?_);have:=zd prc;rw[wr,wc]at this;rw[wc];omega
     ·rintro j v ys H8 hv hj ⟨rc,rfl,g8,prc⟩
      rw[wk]at hv;obtain⟨a,ha,rfl⟩:=wY.mp hv;obtain⟨ws,hw,hrow⟩:=zG prest5 ha;have hm:=memW ws (ww _ (wg hw));have lw:=wlen ws hm
      symm
      refine(Z,Z,Z,Z,k,ws,lead,i,a,ld,bb,V,J,hrow.mono (g7.trans g8),hld5.mono (g7.trans g8),(),(),(),si.2 ws hm,slead,bnd,λp H9 g9 C=>nxt hj (rc++[p],by rw[wx];rfl,g8.trans g9,?_));have e:(rest.map (kaf k lead i))[j]?=some (kaf k lead i ws):=by rw[wk,hw];rfl
      rw[zf e];exact zy (jA g9 prc) C
     rintro ys H8 ⟨rc,rfl,g8,prc⟩ pe hpe
     rw[wc,wo (by rw[wc];omega)]at prc;have lrc:=zd prc;rw[wc]at lrc;have g9:=(g7.trans g8).trans (zc hpe (.lst (rc.map V.ref)));have hpe9:upd H8 pe (.lst (rc.map V.ref)) pe=some (.lst (rc.map V.ref)):=za;have prc9:=jA (zc hpe (.lst (rc.map V.ref))) prc;generalize upd H8 pe (.lst (rc.map V.ref))=H9 at *;clear prc hpe g8 hpc7 hpc g7;have clen:∀ ws∈rest.map (kaf k lead i),ws.length=n:=λws hw=>by
      obtain⟨x,D,rfl⟩:=wm.mp hw;have hm:=wlen x (memW x (ww _ D));rw[xq ()];exact hm
     refine(pz,pe,_,Z,V,g9 _ _ hpz5,hpe9,(by rw[wc,wc];omega),?_);have hpz9:=g9 _ _ hpz5;have prz10:=xA (o:=.lst (rz.map V.ref++rc.map V.ref)) hpz9 (jA g9 prz5) λws hw=>nn ws (zlen ws hw)
     have prc10:=xA (o:=.lst (rz.map V.ref++rc.map V.ref)) hpz9 prc9 λws hw=>nn ws (clen ws hw)
     have hld10:IRow (upd H9 pz (.lst (rz.map V.ref++rc.map V.ref))) lead ld:=by
      show upd H9 pz _ ld=_;rw[zE ((hld5.mono g9).ne (nn lead llead) hpz9)];exact hld5.mono g9
     have hW10:upd H9 pz (.lst (rz.map V.ref++rc.map V.ref)) pz=some (.lst ((rz++rc).map V.ref)):=by rw[za,wx]
     have hD10:IRs (upd H9 pz (.lst (rz.map V.ref++rc.map V.ref))) (Dn.map (·.2)) td rd:=(by rw[zE ntd];exact g9 _ _ hD5.1,xA hpz9 (jA g9 hD5.2) λws hw=>nn ws (dlen ws hw));have g10:Same H (upd H9 pz (.lst (rz.map V.ref++rc.map V.ref))):=zQ (g25.trans g9) pzH;generalize upd H9 pz (.lst (rz.map V.ref++rc.map V.ref))=H10 at *;clear hpz9 hD5 hld5 prz5 prc9 hpe9 prest5 hpl5;refine(Z,td,V,(_,SqL.of hD10.1),?_)
     let Pv5_:Nat->List V->Hp->Prop:=λj ys H11=>∃ rn,ys=rn.map V.ref/\Same H10 H11/\Paired (IRow H11) ((Dn.map λp=>kaf k lead i p.2).take j) rn
     refine zo (xs:=rd.map V.ref) Pv5_ ([],V,Same.refl _,.nil) ?_ ?_ ?_
     ·rintro j ys H11 hj ⟨rn,rfl,g11,prn⟩
      refine(SqL.of (g11 _ _ hD10.1),?_);have:=zd prn;rw[wr,wc]at this;rw[wc];omega
     ·rintro j v ys H11 hv hj ⟨rn,rfl,g11,prn⟩
      obtain⟨ws,a,hw,ha,rfl,hrow⟩:=(hD10.mono g11).row hv;rw[wk]at hw;obtain⟨p0,hp0,rfl⟩:=wY.mp hw;have hm:=wg hp0;have lw:=fi.dl p0 hm
      symm
      refine(Z,Z,Z,Z,k,p0.2,lead,i,a,ld,bb,V,J,hrow,hld10.mono g11,(),(),(),si.1 p0 hm,slead,bnd,λp H12 g12 C=>nxt hj (rn++[p],by rw[wx];rfl,g11.trans g12,?_));have e:(Dn.map λp=>kaf k lead i p.2)[j]?=some (kaf k lead i p0.2):=by rw[wk,hp0];rfl
      rw[zf e];exact zy (jA g12 prn) C
     rintro ys H11 ⟨rn,rfl,g11,prn⟩ pn hpn
     rw[wc,wo (by rw[wc];omega)]at prn;have lrn:=zd prn;rw[wc]at lrn;have nlen:∀ ws∈Dn.map (λp=>kaf k lead i p.2),ws.length=n:=λws hw=>by
      obtain⟨x,D,rfl⟩:=wm.mp hw;have hm:=fi.dl x D;rw[xq ()];exact hm
     have npz:pz≠pn:=λe=>by rw[← e,g11 _ _ hW10]at hpn;cases hpn
     have pnH:H pn=none:=(g10.trans g11).none hpn;have g12:=zc hpn (.lst (rn.map V.ref));have hpn12:upd H11 pn (.lst (rn.map V.ref)) pn=some (.lst (rn.map V.ref)):=za;have prn12:=jA g12 prn;have prz12:=jA (g11.trans g12) prz10;have prc12:=jA (g11.trans g12) prc10;have hld12:=hld10.mono (g11.trans g12);have hW12:=(g11.trans g12) _ _ hW10;have gh12:=(g10.trans g11).trans g12;generalize upd H11 pn (.lst (rn.map V.ref))=H12 at *;refine(Z,.inl (V,_,SqL.of hpn12),Z,pn,_,Z,V,hpn12,(by rw[wc];omega),?_);refine(pn,pz,rn++[ld],rz++rc,_,_,Z,zQ gh12 pnH,(?_,?_),(?_,?_))
     ·rw[za,wx];rfl
     ·have e:(Dn.map (λp=>Prod.mk p.1 (kaf k lead i p.2))++[Prod.mk i lead]).map (·.2) =(Dn.map λp=>kaf k lead i p.2)++[lead]:=by
       rw[wx,vz];rfl
      rw[e];refine zy (xA hpn12 prn12 λws hw=>nn ws (nlen ws hw)) ?_;show upd H12 pn _ ld=_;rw[zE (hld12.ne (nn lead llead) hpn12)];exact hld12
     ·rw[zE npz];exact hW12
     ·exact xX (xA hpn12 prz12 λws hw=>nn ws (zlen ws hw)) (xA hpn12 prc12 λws hw=>nn ws (clen ws hw))
   ·have c2:¬ 0 <((Wt.filter λr=>decide (r.getD i 0≠0)).length:Int):=bv (uv.mpr c1);have ef:Wt.filter (λr=>decide (r.getD i 0≠0))=[]:=uM ();have turn:kao k i (Dn,Wt) =(Dn,Wt):=by
     unfold kao;simp only[ef]
    rw[turn];exact(td,tw,rd,rw',_,_,Z,g23,hD3,hW3)
  ·rintro L H2 ⟨td,tw,rd,rw',o5,o6,o7,rfl,g2,hD,hW⟩
   exact(Z,q td rd H2 g2 hD)
 ·have c':¬ 0 <(Ws.length:Int):=bv (uv.mpr c);have ew:Ws=[]:=uM ();refine(Z,Z,(),(),?_)
  let Pv6_:Nat->L2.St->Hp->Prop:=λi L H'=>∃ o5 o6 o7,L=[some (.int k),some (.ref t),some (.ref pd),some (.ref pw),some (.int 0),o5,o6,o7]/\H'=H1
  refine zS (lo:=0) (n:=(0:Int).toNat) Pv6_ (none,none,none,V,V) ?_ ?_
  ·intro i L H2 hi;exact bw hi (ue i)
  ·rintro L H2 ⟨o5,o6,o7,rfl,rfl⟩
   refine(Z,q pd [] _ g1 ?_);rw[ew,zaM];exact(hpd1,.nil)
inductive qH:Sp
 | mk:∀ k p ws a,vs=[.int k,.ref a]->kab k->IRow H ws a->p<ws.length->ws.getD p 0≠0->((∀ j,j<p->ws.getD j 0=0))->nnum k (ws.getD p 0)≠nnum k 0->(∀ w∈ws,Sm 60000000 w)->ws.length<sizeLine->(∀ vs' a' H',Same H H'->H' a'=none->Paired (RN H') (overL k (p,ws)) vs'->Q (.ref a') (upd H' a' (.lst vs')))->qH vs H Q E_
def XI:KnI pg 30 44 qH:=by
 exists 30,ze,[],zj,ZF,[0,2],zj,JY
 obtain⟨k,p,ws,a,rfl,J,ha,C,hn,hz,ne,sz,hl,q⟩:=h;refine(Z,a,V,(_,SqL.of ha),?_)
 let Pv1_:Nat->List V->Hp->Prop:=λi ys H'=>H'=H/\ys =((ws.take i).filter λw=>decide (w≠0)).map V.int
 refine zo (xs:=ws.map V.int) Pv1_ (V,by simp) ?_ ?_ ?_
 ·rintro i ys H' hi ⟨rfl,rfl⟩
  refine(SqL.of ha,?_);have h2:=uo (λw:Int=>decide (w≠0)) (ws.take i);rw[wr]at h2;rw[wc];omega
 ·rintro i v ys H' hv hi ⟨rfl,rfl⟩
  rw[wk]at hv;obtain⟨u,hu,rfl⟩:=wY.mp hv;refine(Z,V,Z,?_);refine ite2 (λc1=>?_) (λc1=>?_)
  ·have z:u≠0:=λz=>by rw[z]at c1;exact bw c1 ()
   refine(Z,nxt hi (V,?_));rw[yz _ hu,bj (br z),wx];rfl
  ·have z:u=0:=by
    by_cases z:u=0
    ·exact z
    ·exact bw (by have h':¬ V.int u=V.int 0:=λe=>z (V.int.inj e);rw[bq h'];rfl) c1
   refine nxt hi (V,?_);rw[yz _ hu,bn (show ¬ decide (u≠0)=true from λh=>bt h z),uL]
 rintro ys H' ⟨rfl,rfl⟩ pf hpf
 rw[wc,ug];have g1:=zc hpf (.lst ((ws.filter λw=>decide (w≠0)).map V.int));refine(pf,_,_,Z,V,SqL.of za,zk (j:=0) (by rw[wk,ze6 C hz hn];rfl),?_);have ha1:=ha.mono g1;generalize upd H' pf (.lst ((ws.filter λw=>decide (w≠0)).map V.int))=H1 at *;refine(Z,a,V,(_,SqL.of ha1),?_)
 let Pv2_:Nat->List V->Hp->Prop:=λi ys H2=>Same H1 H2/\Paired (RN H2) ((overL k (p,ws)).take i) ys
 refine zo (xs:=ws.map V.int) Pv2_ (Same.refl _,.nil) ?_ ?_ ?_
 ·rintro i ys H2 hi ⟨g2,pr⟩
  refine(SqL.of (ha1.mono g2),?_);have:=zd pr;unfold overL at this;rw[wr,wc]at this;rw[wc]at hi;show ys.length<sizeLine;have e:(Prod.mk p ws).2=ws:=rfl;rw[e]at this;omega
 ·rintro i v ys H2 hv hi ⟨g2,pr⟩
  rw[wk]at hv;obtain⟨u,hu,rfl⟩:=wY.mp hv
  symm
  refine(Z,Z,Z,k,u,ws.getD p 0,V,J,ne,sz u (wg hu),yT sz p,λv3 H3 g3 r3=>nxt hi (g2.trans g3,?_));have e:(overL k (p,ws))[i]?=some (ndiv k (nnum k u) (nnum k (ws.getD p 0))):=by unfold overL;rw[wk];show Option.map _ ws[i]?=_;rw[hu];rfl
  rw[zf e];exact zy (zW g3 pr) r3
 ·rintro ys H2 ⟨g2,pr⟩ a' ha'
  rw[wc,wo (by unfold overL;rw[wc];exact wv _)]at pr;exact q ys a' H2 (g1.trans g2) ha' pr
inductive ZP:Sp
 | mk:∀(k:Int)(M:TB)(n B:Nat)(t:Addr)(ras:List Addr),vs=[.int k,.ref t]->kab k->kac H M t ras->OkM k n M->kal B M->61<=B->(B+1)*2^n<=60000000->n<sizeLine->M.length<=8000000->(∀ R ls top rs H',Same H H'->NewT H H' R top rs->(∀ F [bf F] (O:Kf k F),kay O n M R ls)->R.length<=M.length->Q (.ref top) H')->ZP vs H Q E_
def yY:KnI pg 31 45 ZP:=by
 exists 31,[0],zj,zi,xF,[0],zj,zeH,XI
 obtain⟨k,M,n,B,t,ras,rfl,J,hT,oM,sM,b2,hb,nz,mz,q⟩:=h;have lras:=zd hT.2;have szl:=sh
 have b1:B<=60000000/\(B+1)*2^n - 1<=60000000:=by
  have h1:1<=2^n:=Gd;have h2:(B+1)*1<=(B+1)*2^n:=vk _ h1;omega
 refine(Z,t,V,(_,SqL.of hT.1),?_)
 let Pv1_:Nat->List V->Hp->Prop:=λi ys H'=>∃ Ws rl,ys=rl.map V.ref/\Same H H'/\Paired (IRow H') Ws rl/\Paired (λxs ws=>(∃ b,Scl k xs ws b)/\∀ w∈ws,Sm (B) w) (M.take i) Ws
 refine zo (xs:=ras.map V.ref) Pv1_ ([],[],V,Same.refl _,.nil,.nil) ?_ ?_ ?_
 ·rintro i ys H' hi ⟨Ws,rl,rfl,g,pr,ps⟩
  refine(SqL.of (g _ _ hT.1),?_);have h1:=zd pr;have h2:=zd ps;rw[wr]at h2;rw[wc];omega
 ·rintro i v ys H' hv hi ⟨Ws,rl,rfl,g,pr,ps⟩
  obtain⟨xs,a,D,ha,rfl,hrow⟩:=(hT.mono g).row hv;obtain⟨lx,ox⟩:=oM xs (wg D)
  symm
  refine(Z,Z,k,xs,a,B,V,J,hrow,ox,sM xs (wg D),b2,b1.1,(),λp H2 g2 sc=>?_);obtain⟨l,ws,b,C,hl,sc,sb,sw⟩:=sc;refine(p,_,_,Z,V,SqT.of C,V,nxt hi (Ws++[ws],rl++[l],by rw[wx];rfl,g.trans g2,zy (jA g2 pr) hl,?_));rw[zf D];exact zy ps ((b,sc),sw)
 rintro ys H' ⟨Ws,rl,rfl,g,pr,ps⟩ pw hpw
 rw[wc,wo ()]at ps;have lps:=zd ps;have g1:=g.trans (zc hpw (.lst (rl.map V.ref)));have hpw1:upd H' pw (.lst (rl.map V.ref)) pw=some (.lst (rl.map V.ref)):=za;have pr1:=jA (zc hpw (.lst (rl.map V.ref))) pr;generalize upd H' pw (.lst (rl.map V.ref))=H1 at *;have wl:∀ r∈Ws,r.length=n:=λr U=>by
  obtain⟨xs,D,⟨b,sc⟩,_⟩:=jT ps U;rw[sc.len,(oM xs D).1]
 have ws':∀ r∈Ws,∀ w∈r,Sm (B) w:=λr U=>by
  obtain⟨xs,D,_,h⟩:=jT ps U;exact h
 refine(Z,Z,k,Ws,n,B,pw,rl,V,J,(hpw1,pr1),wl,nz,(),ws',b2,hb,λpp rs H2 g2 hI=>?_);refine(pp,V,(_,SqL.of hI.1),?_);have red:∀(F:Type) [bf F] (O:Kf k F),kay O n M (redM k n Ws) (leadsM k n Ws):=λF _ O=>qx O J oM lps.symm λi r ws h1 h2=>(yq ps h1 h2).1
 have fine:=Fine.to J.lt.1 wl n;have szs:=zhl J b2 wl ws' n;have lens:=jm (k:=k) Ws n;obtain⟨F0,i0,d0,⟨φ0⟩⟩:=zD J;have lead:∀ p∈(swTo k Ws n).1,p.1<n/\p.2.length=n/\p.2.getD p.1 0≠0/\(∀ j,j<p.1->p.2.getD j 0=0)/\nnum k (p.2.getD p.1 0)≠nnum k 0:=λp C=>by
  obtain⟨h1,h2,h3,h4⟩:=jj φ0 J.lt.1 wl C;refine(h1,h2,h3,h4,Xg φ0 λz=>h3 ?_);exact(Zq φ0 (fine.df p C) p.1).mp z
 generalize hS:(swTo k Ws n).1=Dn at *;have lrs:=zd hI.2;rw[wc]at lrs;have eR:redM k n Ws=Dn.map (overL k):=by unfold redM;rw[hS]
 let Pv2_:Nat->List V->Hp->Prop:=λi ys H3=>∃ ras2,ys=ras2.map V.ref/\Grow H2 H3 ((redM k n Ws).take i) ras2
 refine zo (xs:=rs.map V.ref) Pv2_ ([],V,Grow.nil H2 (Same.refl H2)) ?_ ?_ ?_
 ·rintro i ys H3 hi ⟨ras2,rfl,G⟩
  refine(SqL.of (G.same _ _ hI.1),?_);have:=zd G.rows;rw[wr,eR,wc]at this;rw[wc];omega
 ·rintro i v ys H3 hv hi ⟨ras2,rfl,G⟩
  obtain⟨ws,a,hw,ha,rfl,hrow⟩:=(hI.mono G.same).row hv;rw[wk]at hw;obtain⟨p,C,rfl⟩:=wY.mp hw;have hm:=wg C;obtain⟨l1,l2,l3,l4,l5⟩:=lead p hm
  symm
  refine(Z,Z,k,p.1,p.2,a,V,J,hrow,(),l3,l4,l5,λw hw=>(szs.1 p (by rw[hS];exact hm) w hw).mono (),(),λvs' a' H4 g4 ha' pr4=>nxt hi (ras2++[a'],by rw[wx];rfl,?_));have e:(redM k n Ws)[i]?=some (overL k (p.1,p.2)):=by rw[eR,wk,C];rfl
  rw[zf e];exact(G.mono g4).snoc ha' pr4
 rintro ys H3 ⟨ras2,rfl,G⟩ top ht
 rw[wc,wo (by rw[eR,wc];omega)]at G;have N:=G.done ht;refine q (redM k n Ws) (leadsM k n Ws) top ras2 _ ((g1.trans g2).trans (G.same.trans (zc ht _))) (N.tab,(g1.trans g2).none N.ft,λr U=>(g1.trans g2).none (N.fr r U),N.nd,N.nt) red (by rw[eR,wc];omega)
inductive Yd:Sp
 | mk:∀(k:Int)(n:Nat),vs=[.int k,.int (n:Int)]->n<=1000->(∀ v0 pt H',Same H H'->RN H' (nnum k 0) v0->H' pt=some (.lst (wK n v0))->H pt=none->Q (.ref pt) H')->Yd vs H Q E_
def qF:KnI pg 20 2 Yd:=by
 exists 20,ziU,yP
 obtain⟨k,n,rfl,hn,q⟩:=h;have szl:=sh
 refine(Z,k,0,V,λv0 H1 g1 rv0=>((),λp1 hp1=>?_));refine(Z,p1,_,Z,V,za,(),(),(by show 1 *(n:Int).toNat<=sizeLine;omega),λpt hpt=>?_);rw[zeg,wS];exact q v0 pt _ ((g1.trans (zc hp1 (.lst [v0]))).trans (zc hpt (.lst (wK n v0)))) ((rv0.mono (zc hp1 (.lst [v0]))).mono (zc hpt (.lst (wK n v0)))) za ((g1.trans (zc hp1 (.lst [v0]))).none hpt)
inductive JO:Sp
 | mk:∀(k:Int)(A B:TB)(n bF:Nat)(t1 t2:Addr)(r1 r2:List Addr),vs=[.int k,.ref t1,.ref t2]->kab k->kac H A t1 r1->kac H B t2 r2->OkM k n A->OkM k n B->kal bF A->kal bF B->61<=bF->(bF+1)*2^n<=60000000->n<=64->A.length<=1000->B.length<=1000->(∀ R ls top rs H',Same H H'->NewT H H' R top rs->(∀ F [bf F] (O:Kf k F),kay O n (A++B) R ls)->Q (.ref top) H')->JO vs H Q E_
def JD:KnI pg 45 46 JO:=by
 exists 45,yY,xC
 obtain⟨k,A,B,n,bF,t1,t2,r1,r2,rfl,J,hA,hB,oA,oB,cA,cB,c7,hc,n64,lA,lB,q⟩:=h;have szl:=sh
 have l1:=zd hA.2;have l2:=zd hB.2;refine(Z,Z,Z,t1,t2,_,Z,V,hA.1,hB.1,(by rw[wc,wc];omega),λp C=>?_);have g:=zc C (.lst (r1.map V.ref++r2.map V.ref));have T:kac (upd H p (.lst (r1.map V.ref++r2.map V.ref))) (A++B) p (r1++r2):=(by rw[za,wx],xX (hA.mono g).2 (hB.mono g).2);generalize upd H p (.lst (r1.map V.ref++r2.map V.ref))=H1 at *;refine(k,A++B,n,bF,p,r1++r2,V,J,T,(λr U=>(wq.mp U).elim (oA r) (oB r)),cA.app cB,c7,hc,(),(by rw[wD];omega),λR ls top rs H2 g2 nt red _=>?_);exact q R ls top rs H2 (g.trans g2) (nt.tab,g.none nt.ft,λr U=>g.none (nt.fr r U),nt.nd,nt.nt) red
inductive QU:Sp
 | mk:∀ ws us l l' m,vs=[.ref l,.ref l']->IRow H ws l->IRow H us l'->(∀ w∈ws,Sm m w)->(∀ w∈us,Sm m w)->2*m<=60000000->ws.length<sizeLine->(∀ H',Same H H'->Q (.int (La.rdot ws us)) H')->QU vs H Q E_
def qP:KnI pg 13 1 QU:=by
 exists 13,[],zK
 obtain⟨ws,vs,l,l',m,rfl,hl,hl',sw,sw',hsz,hz,q⟩:=h;refine(Z,Z,l,l',ws.map V.int,vs.map V.int,V,SqL.of hl,SqL.of hl',?_);have lz:(vK (·*·) ws vs).length=min ws.length vs.length:=wO;refine zb0 (xs:=ws.map V.int) (zs:=vs.map V.int) (min ws.length vs.length) (by rw[wc,wc]) (λi ys' H'=>Same H H'/\ys' =((vK (·*·) ws vs).take i).map V.int) (Same.refl H,by simp) ?_ ?_ ?_
 ·rintro i ys' H' hi ⟨g,rfl⟩
  refine(SqL.of (hl.mono g),SqL.of (hl'.mono g),?_);rw[wc,wr,lz];omega
 ·rintro i x z T ys' H' D hy hi hT ⟨g,rfl⟩
  rw[wk]at D hy;obtain⟨u,hu,rfl⟩:=wY.mp D;obtain⟨u',hu',rfl⟩:=wY.mp hy;refine(T,Z,SqT.of za,V,_,Z,_,Z,V,?_)
  symm
  refine(Z,Z,_,Z,V,(sw u (wg hu)).mulOk (sw' u' (wg hu')) (),nxt hi (g.trans (zc hT _),?_));have e:(vK (·*·) ws vs)[i]?=some (u*u'):=by rw[vL,hu,hu']
  rw[zf e,wx];rfl
 ·rintro ys' H' ⟨g,rfl⟩ pl hpl
  rw[← lz,ug];refine(pl,Z,SqL.of za,?_);rw[YB];exact q _ (g.trans (zc hpl (.lst ((vK (·*·) ws vs).map V.int))))
inductive zfQ:Sp
 | mk:∀ k xs ys p p' m,vs=[.int k,.ref p,.ref p']->kab k->SclAt H k m xs p->SclAt H k m ys p'->OkR k xs->OkR k ys->xs.length=ys.length->61<=m->2*m+xs.length<=60000000->xs.length<sizeLine->(∀ v H',Same H H'->RN H' (ndot k xs ys) v->Q v H')->zfQ vs H Q E_
def zgm:KnI pg 15 44 zfQ:=by
 exists 15,JY,qP,zi,zi,zK,zi,zi
 obtain⟨k,xs,ys,p,p',m,rfl,J,⟨l,ws,b,C,hl,sc,sb,sw⟩,⟨l',vs,b',hp',hl',sc',sb',sw'⟩,ox,oy,hlen,m7,hsz,hz,q⟩:=h;have ewl:=sc.len;have evl:=sc'.len;refine(Z,Z,p,_,_,Z,V,SqT.of C,V,Z,p',_,_,Z,V,SqT.of hp',V,ws,vs,l,l',m,V,hl,hl',sw,sw',(),(),λH' g2=>?_);rw[← YB];obtain⟨ne,e⟩:=zja J hlen sc sc' ox oy;have st:Sm (m+m +(vK (·*·) ws vs).length) (vK (·*·) ws vs).sum:=zfW λw hw=>by
  obtain⟨i,hi,e⟩:=wy hw;rw[vJ]at e;rw[← e];exact(sw _ (wj _)).mul (sw' _ (wj _))
 rw[wO]at st;refine(Z,p,_,_,Z,V,SqT.of (g2 _ _ C),V,Z,p',_,_,Z,V,SqT.of (g2 _ _ hp'),V,_,Z,V,sb.mulOk sb' (),k,_,Z,J,ne,st.mono (),(sb.mul sb').mono (),λv H2 g3 r=>?_);rw[e]at r;exact q v H2 (g2.trans g3) r
def zhb(bE:Kn pg B.w B.K B.mg B.base x l ps sp)(h:∀ vs H Q E,sp' vs H Q E->sp vs H Q E):Kn pg B.w B.K B.mg B.base x l ps sp':=by
 obtain⟨f,fd,F,r⟩:=bE.ex;exact(f,fd,F.imp h,r)
inductive ZW:Sp
 | mk:∀ k xs a m,vs=[.int k,.ref a]->kab k->kag H xs a->OkR k xs->(∀ x∈xs,nsm m x)->61<=m->(xs.length+2)*m<=60000000->(∀ p H',Same H H'->SclAt H' k ((xs.length+2)*m) xs p->Q (.ref p) H')->ZW vs H Q E_
def ja(d:KnI pg 11 41 Zo):KnI pg 11 41 ZW:=zhb d λvs H Q E h=>by
 obtain⟨k,xs,a,m,rfl,J,U,ox,sx,m7,hsz,q⟩:=h;have szl:=sh
 have h1:(xs.length+2)*61<=(xs.length+2)*m:=vk _ m7;have h2:(xs.length+1)*m<=(xs.length+2)*m:=wH _ ();exact(k,xs,a,(xs.length+2)*m,V,J,U,ox,(qQ () (V,ox,sx)).mono h2,(),hsz,(),q)
def XC(h7:61<=m)(h:(n+2)*m<=20000000):2 *((n+2)*m)+n<=60000000/\61<=(n+2)*m/\n<sizeLine/\(n+2)*m<=60000000:=by
 have h1:(n+2)*61<=(n+2)*m:=vk _ h7;have:sizeLine=16777216:=by decide
 omega
inductive zaj:Sp
 | mk:∀ k M xs b m t1 a r1,vs=[.int k,.ref t1,.ref a]->kab k->kac H M t1 r1->kag H xs a->OkM k b M->xs.length=b->OkR k xs->szM m M->(∀ x∈xs,nsm m x)->61<=m->(b+2)*m<=20000000->M.length<sizeLine->(∀ p H',Same H H'->NewR H H' (imgM k M xs) p->Q (.ref p) H')->zaj vs H Q E_
def jW:KnI pg 26 45 zaj:=by
 exists 26,(ja xF),[0,3],zj,zgm,(ja xF)
 obtain⟨k,M,xs,b,m,t1,a,r1,rfl,J,hM,D,oM,lx,ox,sM,sx,m7,hsz,mz,q⟩:=h;obtain⟨z1,z2,z3,z4⟩:=XC m7 hsz;refine(Z,Z,k,xs,a,m,V,J,D,ox,sx,m7,by rw[lx];exact z4,λp0 H0 g0 sc0=>?_);rw[lx]at sc0;refine(Z,t1,V,(_,SqL.of (g0 _ _ hM.1)),?_);have hl:=zd hM.2
 let Pv1_:Nat->List V->Hp->Prop:=λi ys H'=>Same H0 H'/\Paired (RN H') ((imgM k M xs).take i) ys
 refine zo (xs:=r1.map V.ref) Pv1_ (Same.refl _,.nil) ?_ ?_ ?_
 ·rintro i ys H' hi ⟨g,pr⟩
  refine(SqL.of (g _ _ (g0 _ _ hM.1)),?_);have:=zd pr;unfold imgM at this;rw[wr,wc]at this;omega
 ·rintro i v ys H' hv hi ⟨g,pr⟩
  obtain⟨row,ra,hrow,ha,rfl,hR⟩:=(hM.mono (g0.trans g)).row hv;obtain⟨lr,orow⟩:=oM row (wg hrow)
  symm
  refine(Z,Z,Z,k,row,ra,m,V,J,hR,orow,sM row (wg hrow),m7,by rw[lr];exact z4,λp1 H1 g1 sc1=>?_);rw[lr]at sc1;refine(Z,k,row,xs,p1,p0,(b+2)*m,V,J,sc1,sc0.mono (g.trans g1),orow,ox,by rw[lr,lx],z2,by rw[lr];exact z1,by rw[lr];exact z3,λv2 H2 g2 r2=>?_);refine nxt hi ((g.trans g1).trans g2,?_);have e:(imgM k M xs)[i]?=some (ndot k row xs):=by unfold imgM;rw[wk,hrow];rfl
  rw[zf e];exact zy (zW (g1.trans g2) pr) r2
 ·rintro ys H' ⟨g,pr⟩ p C
  rw[wc,wo (by unfold imgM;rw[wc];omega)]at pr;exact q p _ ((g0.trans g).trans (zc C _)) ((ys,za,zW (zc C _) pr),(g0.trans g).none C)
inductive Zw:Sp
 | mk:∀ M n top ras,vs=[.ref top]->kac H M top ras->M≠[]->(∀ r∈M,r.length=n)->n<sizeLine->M.length<sizeLine->(∀ t ras' H',Same H H'->NewT H H' (kaa n M) t ras'->Q (.ref t) H')->Zw vs H Q E_
def yp:KnI pg 24 1 Zw:=by
 exists 24,[0],ze,[0],zj,ze
 obtain⟨M,n,top,ras,rfl,hT,hM,hn,nz,mz,q⟩:=h;obtain⟨M0,M',rfl⟩:=gL hM;have hras:=zd hT.2;obtain⟨r0,ras',e0⟩ : ∃ r0 ras',ras=r0::ras':=by
  cases ras with
  | nil=>simp at hras
  | cons a b=>exact(a,b,V)
 obtain⟨vs0,h0,p0,l0⟩:=(yq hT.2 (i:=0) rfl (by rw[e0];rfl)).len;have n0:=hn M0 wt;have szl:=sh
 refine(Z,top,_,_,Z,V,SqL.of hT.1,(by rw[e0];exact zk rfl),r0,Z,.inl (SqL.of h0),Z,(),(),?_);have en:(vs0.length:Int).toNat=n:=by omega
 rw[en]
 let Pv1_:Nat->List V->Hp->Prop:=λi ys H'=>∃ ras2,ys=ras2.map V.ref/\Grow H H' ((kaa n (M0::M')).take i) ras2
 refine zO Pv1_ ([],V,Grow.nil H (Same.refl H)) ?_ ?_ ?_
 ·rintro i ys H' hi ⟨ras2,rfl,G⟩
  have:=zd G.rows;rw[wr,zF]at this;rw[wc];omega
 ·rintro i ys H' hi ⟨ras2,rfl,G⟩
  symm
  refine(Z,top,V,(_,SqL.of (G.same _ _ hT.1)),?_)
  let Pv2_:Nat->List V->Hp->Prop:=λj ys' H2=>H2=H'/\Paired (RN H') (((M0::M').map λr=>r.getD i (.z 0)).take j) ys'
  refine zo (xs:=ras.map V.ref) Pv2_ (V,.nil) ?_ ?_ ?_
  ·rintro j ys' H2 hj ⟨rfl,pr⟩
   refine(SqL.of (G.same _ _ hT.1),?_);have:=zd pr;rw[wr,wc]at this;omega
  ·rintro j v ys' H2 hv hj ⟨rfl,pr⟩
   obtain⟨xs,a,D,ha,rfl,hrow⟩:=(hT.mono G.same).row hv;obtain⟨us,hu,pu,lu⟩:=hrow.len;have nx:=hn xs (wg D);have hi':i<xs.length:=by omega
   obtain⟨u,eu,ru⟩:=zJ pu (wa hi')
   symm
   refine(Z,Z,a,_,_,Z,V,SqL.of hu,(by rw[vB];exact zk eu),nxt hj (V,?_));have e:((M0::M').map λr=>r.getD i (.z 0))[j]?=some (xs.getD i (.z 0)):=by rw[wk,D];rfl
   rw[zf e];refine zy pr ?_;rw[we,wa hi'];exact ru
  ·rintro ys' H2 ⟨rfl,pr⟩ p C
   rw[wo (by rw[wc,wc];omega)]at pr;refine nxt hi (ras2++[p],by rw[wx];rfl,?_);rw[zf (xD hi)];exact G.snoc C pr
 ·rintro ys H' ⟨ras2,rfl,G⟩ t ht
  rw[wo (by rw[zF];exact wv _)]at G;exact q t ras2 _ (G.same.trans (zc ht _)) (G.done ht)
inductive ZO:Sp
 | mk:∀ k A B R n b tA tB tR rA rB rR,vs=[.int k,.ref tA,.ref tB,.ref tR]->kab k->kac H A tA rA->kac H B tB rB->kac H R tR rR->Fit k n->TOk k n n 80 A->TOk k b n 80 B->b<=1000->TOk k R.length n 596488 R->R.length<=10->(∀ W t rs H',Same H H'->NewT H H' W t rs->RdR k n W->kas k W (B++R.map (imgM k A))->Q (.ref t) H')->ZO vs H Q E_
def Yi:KnI pg 49 47 ZO:=by
 exists 49,JD,[0,1],zj,jW
 obtain⟨k,A,B,R,n,b,tA,tB,tR,rA,rB,rR,rfl,J,hA,hB,hR,hf,oA,oB,b1000,oR,lR,q⟩:=h;have szl:=sh
 have n10:=hf.n10;have lrR:=zd hR.2;obtain⟨oI,cI⟩:=zb8 J hf oA oR;refine(Z,Z,Z,tR,V,(_,SqL.of hR.1),?_)
 let Pv1_:Nat->List V->Hp->Prop:=λi ys H'=>∃ ras,ys=ras.map V.ref/\Grow H H' ((R.map (imgM k A)).take i) ras
 refine zo (xs:=rR.map V.ref) Pv1_ ([],V,Grow.nil H (Same.refl H)) ?_ ?_ ?_
 ·rintro i ys H' hi ⟨ras,rfl,G⟩
  refine(SqL.of (G.same _ _ hR.1),?_);have:=zd G.rows;rw[wr]at this;rw[wc]at hi ⊢;omega
 ·rintro i v ys H' hv hi ⟨ras,rfl,G⟩
  obtain⟨row,a,hrow,ha,rfl,hRow⟩:=(hR.mono G.same).row hv;have rr:=oR.row (wg hrow);have oA':=oA.up (show(80:Nat)<=596488 by decide)
  symm
  refine(Z,Z,Z,k,A,row,n,596488,tA,a,rA,V,J,hA.mono G.same,hRow,oA'.ok,rr.len,rr.ok,oA'.sz,rr.sz,(),(),(by rw[oA.len];omega),λp H1 g1 nr=>nxt hi (ras++[p],by rw[wx];rfl,?_));have e:(R.map (imgM k A))[i]?=some (imgM k A row):=by rw[wk,hrow];rfl
  rw[zf e];exact G.snocR g1 nr.row nr.fa
 ·rintro ys H' ⟨ras,rfl,G⟩ pI hpI
  rw[wc,wo (by rw[wc];omega)]at G;have N:=G.done hpI;have g1:=G.same.trans (zc hpI (.lst (ras.map V.ref)));generalize upd H' pI (.lst (ras.map V.ref))=H1 at *;refine(k,B,R.map (imgM k A),n,capC n 7159072,tB,pI,rB,ras,V,J,hB.mono g1,N.tab,oB.ok,oI,ZV hf oB,cI,cap7 (),cap1 hf (),(),(by rw[oB.len];exact b1000),(by rw[wc];omega),λW lw t rs H2 g2 nt red=>?_);exact q W t rs H2 (g1.trans g2) (nt.tab,g1.none nt.ft,λr U=>g1.none (nt.fr r U),nt.nd,nt.nt) (lw,yF red) λF _ O v=>(λh=>(red F O).fro v h,λh=>(red F O).to v h)
inductive zai:Sp
 | mk:∀ k A B n b tA tB rA rB,vs=[.int k,.ref tA,.ref tB]->kab k->kac H A tA rA->kac H B tB rB->Fit k n->TOk k n n 80 A->TOk k b n 80 B->b<=1000->(∀ R t rs H',Same H H'->NewT H H' R t rs->LeastOf k n A B R->Q (.ref t) H')->zai vs H Q E_
def zaZ:KnI pg 50 48 zai:=by
 exists 50,yY,Yi,Yi
 obtain⟨k,A,B,n,b,tA,tB,rA,rB,rfl,J,hA,hB,hf,oA,oB,b1000,q⟩:=h;have szl:=sh
 have n10:=hf.n10;refine(Z,Z,k,B,n,capC n 7159072,tB,rB,V,J,hB,oB.ok,ZV hf oB,cap7 (),cap1 hf (),(),(by rw[oB.len];omega),λR ls t1 r1 H1 g1 n1 red _=>?_);have rR:RdR k n R:=(ls,yF red);have eR:kas k R (kry k A B 0):=λF _ O v=>(λh=>(red F O).fro v h,λh=>(red F O).to v h)
 have sR:=(XV J hf oA oB (vD _) rR eR).1;have lR:R.length<=10:=by have:=yC J (yF red);omega
 refine(Z,Z,Z,Z,k,A,B,R,n,b,tA,tB,t1,rA,rB,r1,V,J,hA.mono g1,hB.mono g1,n1.tab,hf,oA,oB,b1000,sR,lR,λW t2 r2 H2 g2 n2 rW eW=>?_);have I0:LrI k n A B R W 0:=by
  refine(rR,rW,eR,λF _ O v=>(eW F O v).trans (zaw J oA.ok oA.len oB.ok (ye J (yF red)).1 (eR F O) v),vD _)
 have N1:NewT H H2 R t1 r1:=(n1.tab.mono g2,n1.ft,n1.fr,n1.nd,n1.nt);have N2:NewT H H2 W t2 r2:=(n2.tab,g1.none n2.ft,λr U=>g1.none (n2.fr r U),n2.nd,n2.nt);have gH:=g1.trans g2;clear n1 n2 g1 red sR lR rR eR rW eW
 let Wv1_:Nat->L2.St->Hp->Prop:=λm L H'=>∃ R W t t1 r1 t2 r2,L=[some (.int k),some (.ref tA),some (.ref tB),some (.ref t1),some (.ref t2)]/\Same H H'/\NewT H H' R t1 r1/\NewT H H' W t2 r2/\LrI k n A B R W t/\m=n - t
 refine(Wv1_,(_,R,W,0,t1,r1,t2,r2,V,gH,N1,N2,I0,V),?_);clear I0 N1 N2 gH
 rintro m L H' ⟨R,W,t,t1,r1,t2,r2,rfl,gH,N1,N2,I,rfl⟩
 have l1:=zd N1.tab.2;have l2:=zd N2.tab.2;refine(Z,t2,Z,.inl (SqL.of N2.tab.1),Z,t1,Z,.inl (SqL.of N1.tab.1),_,Z,V,Z,?_);refine ite2 (λc=>?_) (λc=>?_)
 ·have c':(((r1.map V.ref).length:Nat):Int) <(((r2.map V.ref).length:Nat):Int):=bt c;rw[wc,wc]at c';have lt:R.length<W.length:=by omega
  have tn:t<n:=by obtain⟨lw',iW'⟩:=I.rW;have:=yC J iW';have:=I.le;omega
  obtain⟨lw,iW⟩:=I.rW;have sW:=(XV J hf oA oB (show t+1<=n+1 by omega) I.rW I.eW).1;have lW:W.length<=10:=by have:=yC J iW;omega
  refine(_,λ_ _ h=>h,?_);refine(Z,?_);refine(Z,Z,Z,Z,k,A,B,W,n,b,tA,tB,t2,rA,rB,r2,V,J,hA.mono gH,hB.mono gH,N2.tab,hf,oA,oB,b1000,sW,lW,λW' t3 r3 H3 g3 n3 rW' eW'=>?_);have I':=I.step J oA oB lt rW' eW';exact(_,(),W,W',t+1,t2,r2,t3,r3,V,gH.trans g3,(N2.tab.mono g3,N2.ft,N2.fr,N2.nd,N2.nt),(n3.tab,gH.none n3.ft,λr U=>gH.none (n3.fr r U),n3.nd,n3.nt),I',V)
 ·have c':¬(((r1.map V.ref).length:Nat):Int) <(((r2.map V.ref).length:Nat):Int):=bv (uv.mpr c);rw[wc,wc]at c';exact(Z,q R t1 r1 H' gH N1 (I.done J oA oB ()))
inductive Ji:Sp
 | mk:∀ M n t ras,vs=[.ref t]->kac H M t ras->(∀ r∈M,r.length=n)->n<=100->M.length<=100->(∀ p H',Same H H'->NewR H H' M.flatten p->Q (.ref p) H')->Ji vs H Q E_
def YY:∀(M:TB),(∀ r∈M,r.length=n)->M.flatten.length=M.length*n
 | [],_=>by simp
 | r::M,h=>by
  rw[uH,wD,YY M (λr U=>h r (ww _ U)),h r wt,um,uK];omega
def zbY:KnI pg 23 1 Ji:=by
 exists 23,zj
 obtain⟨M,n,t,ras,rfl,hT,hn,n100,m100,q⟩:=h;have szl:=sh
 have lr:=zd hT.2;refine((),λpt hpt=>?_);have g0:=zc hpt (.lst []);refine(Z,t,V,(_,SqL.of (g0 _ _ hT.1)),?_)
 let Pv1_:Nat->L2.St->Hp->Prop:=λi L H'=>∃ us o2,L=[some (.ref t),some (.ref pt),o2]/\Same H H'/\H' pt=some (.lst us)/\Paired (RN H') (M.take i).flatten us
 refine yl (xs:=ras.map V.ref) Pv1_ ([],none,V,g0,za,.nil) ?_ ?_ ?_
 ·rintro i L H' _ ⟨us,o2,rfl,g,_⟩
  exact SqL.of (g _ _ hT.1)
 ·rintro i v L H' hv ⟨us,o2,rfl,g,C,pu⟩
  obtain⟨row,a,hrow,ha,rfl,hR⟩:=(hT.mono g).row hv;obtain⟨zs,hz,pz,lz⟩:=hR.len;have lrow:=hn row (wg hrow);have lu:=zd pu;rw[YY (M.take i) (λr U=>hn r (vn U)),wr]at lu;have b1:min i M.length*n<=100*100:=vN () n100;refine(Z,.inl (V,_,SqL.of C),Z,pt,a,us,zs,V,V,C,hz,(),us++zs,Z,zQ g hpt,za,?_);rw[zf hrow,List.flatten_append,uH,List.flatten_nil,uL];exact yG C (xX pu pz)
 ·rintro L H' ⟨us,o2,rfl,g,C,pu⟩
  rw[wc,wo ()]at pu;exact(Z,q pt H' g ((us,C,pu),hpt))
def zaT:∀(M:TB) i r,(∀ r∈M,r.length=n)->M[i]?=some r->(M.flatten.drop (i*n)).take n=r
 | [],i,r,_,h=>by simp at h
 | r0::M,0,r,hn,h=>by
  have e:r0=r:=by simpa using h
  rw[wa9,Go,uH,Gg (by rw[hn r0 wt];exact wv _),wo (by rw[hn r0 wt];exact wv _),e]
 | r0::M,i+1,r,hn,h=>by
  have l0:=hn r0 wt;rw[uH,uK,waE (i*n) n,← List.drop_drop];have e:uI n r0=[]:=uG ();rw[List.drop_append_of_le_length (),e,wbu];exact zaT M i r (λr U=>hn r (ww _ U)) (by simpa using h)
inductive zfM:Sp
 | mk:∀ k M r n m t ras,vs=[.int k,.ref t]->kab k->kac H M t ras->TOk k r n m M->1<=r->r<=100->n<=10->61<=m->(r*n+2)*m<=60000000->(∀ p t' b ls H',Same H H'->H' p=some (.tup [.ref t',.int b])->ITab H' (M.map λr=>r.map (scW b)) t' ls->Scl k M.flatten (M.flatten.map (scW b)) b->Sm ((r*n+2)*m) b->(∀ x∈M.flatten,Sm ((r*n+2)*m) (scW b x))->Q (.ref p) H')->zfM vs H Q E_
def zf7:KnI pg 28 42 zfM:=by
 exists 28,ze,(ja xF),zbY,[3,2],yd,zi,zK,zK,zT,zi
 obtain⟨k,M,r,n,m,t,ras,rfl,J,hT,oM,n1,r100,n10,m7,m6,q⟩:=h;have szl:=sh
 have lr:=zd hT.2;rw[oM.len]at lr;obtain⟨r0,ras',e0⟩ : ∃ r0 ras',ras=r0::ras':=by
  cases ras with
  | nil=>rw[wae]at lr;omega
  | cons a b=>exact(a,b,V)
 obtain⟨x0,hx0,hr0⟩:=zG hT.2 (i:=0) (b:=r0) (by rw[e0];rfl);obtain⟨u0,hu0,pu0,lu0⟩:=hr0.len;have lx0:=(oM.ok x0 (wg hx0)).1;have rn:∀ r∈M,r.length=n:=λr U=>(oM.ok r U).1
 have fl:=YY M rn;rw[oM.len]at fl;have nn:r*n<=1000:=vN r100 n10;refine(Z,t,_,_,Z,V,SqL.of hT.1,(by rw[e0];exact zk (j:=0) rfl),r0,Z,.inl (SqL.of hu0),?_);rw[lu0,lx0];have okf:OkR k M.flatten:=λx D=>by
  obtain⟨r,U,hx'⟩:=Gs.mp D;exact(oM.ok r U).2 x hx'
 refine(Z,Z,M,n,t,ras,V,hT,rn,(),(by rw[oM.len];omega),λp1 H1 g1 N1=>?_);refine(k,M.flatten,p1,m,V,J,N1.row,okf,(λx D=>by
  obtain⟨r,U,hx'⟩:=Gs.mp D;exact oM.sz r U x hx'),m7,(by rw[fl];exact m6),λpp H2 g2 sc=>?_)
 rw[fl]at sc;obtain⟨l,ws,b,C,hl,sc,sb,sw⟩:=sc;have ew:=sc.eq;subst ew;have g12:=g1.trans g2;refine(Z,t,Z,.inl (SqL.of (g12 _ _ hT.1)),Z,(),(by rw[wc,← lr];omega),?_);rw[wS,wc,← lr];have lW:(M.map λr=>r.map (scW b)).length=r:=by rw[wc];exact oM.len
 let Pv1_:Nat->List V->Hp->Prop:=λi ys H'=>∃ ls,ys=ls.map V.ref/\Same H2 H'/\Paired (IRow H') ((M.map λr=>r.map (scW b)).take i) ls
 refine zO (lo:=0) (n:=r) Pv1_ ([],V,Same.refl _,.nil) ?_ ?_ ?_
 ·rintro i ys H' hi ⟨ls,rfl,g,pr⟩
  have:=zd pr;rw[wr]at this;rw[wc];omega
 ·rintro i ys H' hi ⟨ls,rfl,g,pr⟩
  symm
  rw[vB];refine(Z,pp,_,_,Z,V,SqT.of (g _ _ C),V,Z,Z,_,Z,V,(IntMulOk.of_left (cZ () ())),Z,Z,_,Z,V,Z,_,Z,V,(IntMulOk.of_left (cZ () ())),Z,l,Z,SqL.of (hl.mono g),λp3 hp3=>?_);obtain⟨r',U,_⟩:=oM.get hi;have ec:cutV ((M.flatten.map (scW b)).map V.int) (some ((i:Int) *(n:Int))) (some (((i:Int)+1) *(n:Int))) =(r'.map (scW b)).map V.int:=by
   rw[show(i:Int) *(n:Int) =((i*n:Nat):Int) by rw[gP],show((i:Int)+1) *(n:Int) =(((i+1)*n:Nat):Int) by rw[gP];rfl,zjm,← uS,← uq,← uS,← uq,show(i+1)*n - i*n=n by rw[uK];omega,zaT M i r' rn U]
  rw[ec];refine nxt hi (ls++[p3],by rw[wx];rfl,g.trans (zc hp3 _),?_);rw[zf (x:=r'.map (scW b)) (by rw[wk,U];rfl)];exact ITab.snoc pr (zc hp3 _) za
 ·rintro ys H' ⟨ls,rfl,g,pr⟩ t' ht'
  rw[wo ()]at pr;have g3:=zc ht' (.lst (ls.map V.ref));have T3:ITab (upd H' t' (.lst (ls.map V.ref))) (M.map λr=>r.map (scW b)) t' ls:=(za,yt (λ_ _ r=>r.mono g3) pr);generalize upd H' t' (.lst (ls.map V.ref))=H3 at *;refine(Z,pp,_,_,Z,V,SqT.of (g3 _ _ (g _ _ C)),V,(),λp hp'=>?_);have g4:=zc hp' (.tup [.ref t',.int b]);exact q p t' b ls _ (((g12.trans g).trans g3).trans g4) za (T3.mono g4) sc sb (λx D=>sw _ (wm.mpr (x,D,V)))
abbrev gpi:Int:=2305843009213693951
theorem qA:kab gpi:=.inr zju
def restM(b:Int)(M:TB):TB:=(M.map λr=>r.map (scW b)).map λr=>r.map (nnum gpi)
theorem JC(h:TOk 0 r n m M) b:TOk gpi r n 80 (restM b M):=by
 have ok:OkM gpi n (restM b M):=λx D=>by
  obtain⟨y,hy,rfl⟩:=wm.mp D;obtain⟨z,hz,rfl⟩:=wm.mp hy;refine(by rw[wc,wc];exact(h.ok z hz).1,λu hu=>?_);obtain⟨w,_,rfl⟩:=wm.mp hu;exact zm qA w
 exact(by unfold restM;rw[wc,wc];exact h.len,ok,λr U x D=>(jz qA () ((ok r U).2 x D)).mono ())
inductive zba:Sp
 | mk:∀ M r n t ras,vs=[.ref t]->kac H M t ras->TOk 0 r n 80 M->1<=r->r<=100->n<=10->(∀ b t' rs H',Same H H'->NewT H H' (restM b M) t' rs->Scl 0 M.flatten (M.flatten.map (scW b)) b->Q (.ref t') H')->zba vs H Q E_
def zbc:KnI pg 51 43 zba:=by
 exists 51,[],zj,zi,zf7,[],zj
 obtain⟨M,r,n,t,ras,rfl,hT,oM,r1,r100,n10,q⟩:=h;have szl:=sh
 refine(Z,0,M,r,n,80,t,ras,V,.inl rfl,hT,oM,r1,r100,n10,(),wE (wH 80 (waW (vN r100 n10) 2)) (),λp t' b ls H1 g1 C T sc _ _=>?_);refine(p,_,_,Z,V,SqT.of C,V,t',V,(_,SqL.of T.1),?_);have lW:(M.map λr=>r.map (scW b)).length=r:=by rw[wc];exact oM.len
 have lG:(restM b M).length=r:=by unfold restM;rw[wc];exact lW
 have ll:=zd T.2
 let Pv1_:Nat->List V->Hp->Prop:=λi ys H'=>∃ rs,ys=rs.map V.ref/\Grow H1 H' ((restM b M).take i) rs
 refine zo (xs:=ls.map V.ref) Pv1_ ([],V,Grow.nil H1 (Same.refl H1)) ?_ ?_ ?_
 ·rintro i ys H' hi ⟨rs,rfl,G⟩
  refine(SqL.of (G.same _ _ T.1),?_);have:=zd G.rows;rw[wr]at this;rw[wc]at hi ⊢;omega
 ·rintro i v ys H' hv hi ⟨rs,rfl,G⟩
  obtain⟨ws,a,hw,ha,rfl,hRow⟩:=(T.mono G.same).row hv;have lws:ws.length=n:=by
   obtain⟨y,hy,rfl⟩:=wm.mp (wg hw);rw[wc];exact(oM.ok y hy).1
  symm
  refine(Z,a,V,(_,SqL.of hRow),?_)
  let Pv2_:Nat->List V->Hp->Prop:=λj ys' H6=>Same H' H6/\Paired (RN H6) ((ws.map (nnum gpi)).take j) ys'
  refine zo (xs:=ws.map V.int) Pv2_ (Same.refl _,.nil) ?_ ?_ ?_
  ·rintro j ys' H6 hj ⟨g6,pr6⟩
   refine(SqL.of (g6 _ _ hRow),?_);have:=zd pr6;rw[wr,wc]at this;omega
  ·rintro j v ys' H6 hv6 hj ⟨g6,pr6⟩
   rw[wk]at hv6;obtain⟨x,D,rfl⟩:=wY.mp hv6
   symm
   refine(Z,_,Z,V,(),nxt hj (g6,?_));rw[zf (x:=nnum gpi x) (by rw[wk,D];rfl)];exact zy pr6 RN.of_z
  ·rintro ys' H6 ⟨g6,pr6⟩ p6 hp6
   rw[wc,wo (by rw[wc];exact wv _)]at pr6;refine nxt hi (rs++[p6],by rw[wx];rfl,?_);have e:(restM b M)[i]?=some (ws.map (nnum gpi)):=by unfold restM;rw[wk,hw];rfl
   rw[zf e];exact(G.mono g6).snoc hp6 pr6
 ·rintro ys H' ⟨rs,rfl,G⟩ t2 ht
  rw[wo (by rw[lG,wc];omega)]at G;have N:=G.done ht;have g2:=G.same.trans (zc ht (.lst (rs.map V.ref)));exact q b t2 rs _ (g1.trans g2) (N.tab,g1.none N.ft,λr U=>g1.none (N.fr r U),N.nd,N.nt) sc
inductive zdg:Sp
 | mk:∀(k:Int)(n:Nat),vs=[.int k,.int (n:Int)]->n<=1000->(∀ t ras H',Same H H'->NewT H H' (kaj k n) t ras->Q (.ref t) H')->zdg vs H Q E_
def Yz:KnI pg 27 2 zdg:=by
 exists 27,[1,0],[2,0],yP,yu
 obtain⟨k,n,rfl,hn,q⟩:=h;have szl:=sh
 have lT:(kaj k n).length=n:=by unfold kaj;simp
 refine(Z,n,V,(),(),?_);rw[wS]
 let Pv1_:Nat->List V->Hp->Prop:=λi ys H'=>∃ ras2,ys=ras2.map V.ref/\Grow H H' ((kaj k n).take i) ras2
 refine zO Pv1_ ([],V,Grow.nil H (Same.refl H)) ?_ ?_ ?_
 ·rintro i ys H' hi ⟨ras2,rfl,G⟩
  have:=zd G.rows;rw[wr]at this;rw[wc];omega
 ·rintro i ys H' hi ⟨ras2,rfl,G⟩
  symm
  refine(Z,n,V,(),(),?_);rw[wS];have lR:(kad k n i).length=n:=by unfold kad;simp
  let Pv2_:Nat->List V->Hp->Prop:=λj ys' H6=>Same H' H6/\Paired (RN H6) ((kad k n i).take j) ys'
  refine zO Pv2_ (Same.refl _,.nil) ?_ ?_ ?_
  ·rintro j ys' H6 hj ⟨g6,pr6⟩
   have:=zd pr6;rw[wr]at this;omega
  ·rintro j ys' H6 hj ⟨g6,pr6⟩
   symm
   refine(Z,Z,Z,V,.inr (Z,k,Z,λv H7 g7 r7=>nxt hj (g6.trans g7,?_)));have e:(kad k n i)[j]?=some (if i=j then nnum k 1 else nnum k 0):=by unfold kad;rw[wk,wZ hj];rfl
   rw[zf e];refine zy (zW g7 pr6) ?_
   by_cases c:i=j
   ·rw[bj c];rw[c,br rfl]at r7;exact r7
   ·rw[bn c];rw[bq (λz=>c (by have:=V.int.inj z;omega))]at r7;exact r7
  ·rintro ys' H6 ⟨g6,pr6⟩ p C
   rw[wo ()]at pr6;refine nxt hi (ras2++[p],by rw[wx];rfl,?_);rw[zf (yQ hi)];exact(G.mono g6).snoc C pr6
 ·rintro ys H' ⟨ras2,rfl,G⟩ t ht
  rw[wo ()]at G;exact q t ras2 _ (G.same.trans (zc ht _)) (G.done ht)
inductive QY:Sp
 | mk:∀ k A B n b tA tB rA rB,vs=[.int k,.ref tA,.ref tB]->kab k->kac H A tA rA->kac H B tB rB->Fit k n->TOk k n n 80 A->TOk k b n 80 B->1<=b->b<=100->(∀ R t rs H',Same H H'->NewT H H' R t rs->LeastOf k n A B R->Q (.ref t) H')->QY vs H Q E_
def QO(J:kab k)[bf F](O:Kf k F) v (hv:∀ j,n<=j->v j=0):Rm O (kaj k n) v:=by
 refine(Jh (YF O J n) J v).mp (hv,λu hu=>?_);refine dot_zero n _ _ λj hj=>?_
 have z:=hu.2 _ (.of (_,wg (yQ hj),V));rw[zM,zt (u':=u) (v':=kar j 1) λi _=>by rw[yH hj i],xm hj]at z
 grind
theorem zbH{A B R:TB}(oA:TOk 0 n n 80 A)(oB:TOk 0 b n 80 B)(hA:Scl 0 A.flatten (A.flatten.map (scW a)) a)(hB:Scl 0 B.flatten (B.flatten.map (scW c)) c)(bA:LeastOf gpi n (restM a A) (restM c B) R)(hl:R.length=n):LeastOf 0 n A B (kaj 0 n):=by
 refine((wQ n,λF _ O=>YF O (.inl rfl) n),λF _ O v=>(λh=>?_,λh=>?_))
 ·refine Jc zju oA.ok oA.len oB.ok hA hB (λF _ O j hj=>?_) O v λj hj=>zf4 (yi (.inl rfl) n).1 h hj
  obtain⟨lr,iR⟩:=bA.rd;have oU:=yi qA n;have sub:=((iR F O).sub_len (YF O qA n) λv hv=>QO qA O v λj hj=>(iR F O).supp hv j hj).2 (by rw[oU.2,hl];exact wv _);refine(bA.eq F O _).mp (sub _ ?_);exact .of (_,wg (yQ hj),funext λi=>(yH hj i).symm)
 ·exact QO (.inl rfl) O v λj hj=>zf4 (yR (.inl rfl) oA.ok oA.len oB.ok n) h hj
def zfa:KnI pg 52 49 QY:=by
 exists 52,yu,yu,zaZ,zbc,zbc,Yz,zaZ
 obtain⟨k,A,B,n,b,tA,tB,rA,rB,rfl,J,hA,hB,hf,oA,oB,b1,b100,q⟩:=h;have szl:=sh
 have n10:=hf.n10;have lA:=zd hA.2;rw[oA.len]at lA;refine(Z,tA,Z,.inl (SqL.of hA.1),?_);rw[wc,← lA];refine(Z,V,Z,?_);refine ite2 (λc=>?_) (λc=>?_)
 ·have k0:k=0:=V.int.inj (bt c);subst k0;have n3:n<=3:=by rcases hf.2 with h|h;exact h;exact bw rfl h.1
  refine(Z,A,n,n,tA,rA,V,hA,oA,hf.1,(),(),λa t1 r1 H1 g1 n1 sA=>?_);refine(Z,B,b,n,tB,rB,V,hB.mono g1,oB,b1,b100,(),λc2 t2 r2 H2 g2 n2 sB=>?_);refine(gpi,restM a A,restM c2 B,n,b,t1,t2,r1,r2,V,qA,n1.tab.mono g2,n2.tab,(hf.1,.inl n3),JC oA a,JC oB c2,(),λR t3 r3 H3 g3 n3' bA=>?_);have l3:=zd n3'.tab.2;have g13:=(g1.trans g2).trans g3;refine(t3,Z,.inl (SqL.of n3'.tab.1),Z,V,Z,?_);refine ite2 (λd=>?_) (λd=>?_)
  ·have d':=V.int.inj (bt d);rw[wc]at d';refine(Z,Z,0,n,V,(),λt ras H4 g4 nt=>?_);exact q _ t ras H4 (g13.trans g4) (nt.tab,g13.none nt.ft,λr U=>g13.none (nt.fr r U),nt.nd,nt.nt) (zbH oA oB sA sB bA ())
  ·refine(Z,Z,Z,0,A,B,n,b,tA,tB,rA,rB,V,J,hA.mono g13,hB.mono g13,hf,oA,oB,(),λR t rs H4 g4 nt lo=>?_);exact q R t rs H4 (g13.trans g4) (nt.tab,g13.none nt.ft,λr U=>g13.none (nt.fr r U),nt.nd,nt.nt) lo
 ·refine iteF ?_;refine(Z,Z,Z,k,A,B,n,b,tA,tB,rA,rB,V,J,hA,hB,hf,oA,oB,(),λR t rs H4 g4 nt lo=>?_);exact q R t rs H4 g4 nt lo
inductive ZH:Sp
 | mk:∀ k A B bF n h s pm ta tb tc ra rb rc,vs=[.int k,.ref pm]->kab k->kap H A B bF pm ta tb tc ra rb rc->Fit k n->MOk k n h s 80 A B bF->1<=h->h<=100->(∀ R t rs H',Same H H'->NewT H H' R t rs->LeastOf k n A (kaa h B) R->Q (.ref t) H')->ZH vs H Q E_
def zbw:KnI pg 54 50 ZH:=by
 exists 54,zfa,zi,yp,zi
 obtain⟨k,A,B,bF,n,h,s,pm,ta,tb,tc,ra,rb,rc,rfl,J,hM,hf,oM,h1,h100,q⟩:=h;have szl:=sh
 have n10:=hf.n10;have n1:=hf.1;have lB:=oM.b.len;refine(Z,Z,pm,_,_,Z,V,SqT.of hM.tup,V,Z,pm,_,_,Z,V,SqT.of hM.tup,V,B,h,tb,rb,V,hM.b,(λe=>by rw[e]at lB;simp at lB;omega),(λr U=>(oM.b.ok r U).1),(),(),λt1 r1 H1 g1 n1'=>?_);refine(k,A,kaa h B,n,h,ta,t1,ra,r1,V,J,hM.a.mono g1,n1'.tab,hf,oM.a,xS oM.b,h1,(),λR t rs H2 g2 nt lo=>?_);exact q R t rs H2 (g1.trans g2) (nt.tab,g1.none nt.ft,λr U=>g1.none (nt.fr r U),nt.nd,nt.nt) lo
inductive Yq:Sp
 | mk:∀ A B n h ta tb ra rb,vs=[.ref ta,.ref tb]->kac H A ta ra->kac H B tb rb->A.length=B.length->(∀ r∈A,r.length=n)->(∀ r∈B,r.length=h)->n+h<=sizeLine->A.length<sizeLine->(∀ p ras H',Same H H'->NewT H H' (augM A B) p ras->Q (.ref p) H')->Yq vs H Q E_
def Yy:KnI pg 22 1 Yq:=by
 exists 22,[],xC
 obtain⟨A,B,n,h,ta,tb,ra,rb,rfl,hA,hB,lAB,nA,nB,nh,lA,q⟩:=h;have la:=zd hA.2;have lb:=zd hB.2;refine(Z,Z,ta,tb,_,Z,SqL.of hA.1,SqL.of hB.1,?_)
 let Pv1_:Nat->List V->Hp->Prop:=λi ys H'=>∃ ras,ys=ras.map V.ref/\Grow H H' ((augM A B).take i) ras
 refine xu (xs:=ra.map V.ref) (zs:=rb.map V.ref) (by rw[wc,wc];omega) Pv1_ ([],V,Grow.nil H (Same.refl H)) ?_ ?_ ?_
 ·rintro i ys H' hi ⟨ras,rfl,G⟩
  refine(SqL.of (G.same _ _ hA.1),SqL.of (G.same _ _ hB.1),?_);have:=zd G.rows;rw[wr]at this;rw[wc]at hi ⊢;omega
 ·rintro i x z T ys H' hx' hz' hi hT ⟨ras,rfl,G⟩
  have g':=zc hT (.tup [x,z]);have G1:=G.mono g';obtain⟨row,a,hrow,ha,rfl,hR⟩:=(hA.mono G1.same).row hx';obtain⟨row2,a2,hrow2,ha2,rfl,hR2⟩:=(hB.mono G1.same).row hz';obtain⟨us1,hu1,pu1,lu1⟩:=hR.len;obtain⟨us2,hu2,pu2,lu2⟩:=hR2.len;have r1:=nA _ (wg hrow);have r2:=nB _ (wg hrow2);refine(T,Z,SqT.of za,V,_,Z,_,Z,V,?_);generalize upd H' T (.tup [.ref a,.ref a2])=H1 at *
  symm
  refine(Z,Z,a,a2,_,Z,V,hu1,hu2,(by rw[lu1,lu2,r1,r2];exact nh),λp C=>?_);refine nxt hi (ras++[p],by rw[wx];rfl,?_);rw[zf (jV hrow hrow2)];exact G1.snoc C (xX pu1 pu2)
 ·rintro ys H' ⟨ras,rfl,G⟩ pb hpb
  rw[wc,wo (by unfold augM;rw[wO];omega)]at G;have N:=G.done hpb;have g1:=G.same.trans (zc hpb (.lst (ras.map V.ref)));exact q pb ras _ g1 N
inductive zcT:Sp
 | mk:∀(k:Int)(M:TB)(n bF:Nat)(t:Addr)(ras:List Addr),vs=[.int k,.ref t]->kab k->kac H M t ras->OkM k n M->M.length=n->kal bF M->61<=bF->(bF+1)*2^(n+n)<=60000000->n<=30->((∀ R ls,(∀ F [bf F] (O:Kf k F),kay O (n+n) (kan k n M) R ls)->R.map (Ga n)=kaj k n))->(∀ R ls t' ras' H',Same H H'->NewT H H' (R.map (uI n)) t' ras'->(∀ F [bf F] (O:Kf k F),kay O (n+n) (kan k n M) R ls)->Q (.ref t') H')->zcT vs H Q E_
def qM(c7:61<=bF)(hM:kal bF M):kal bF (augM M (kaj k n)):=λr U=>by
 unfold augM at U;obtain⟨i,hi,e⟩:=wy U;rw[vJ]at e;rw[← e];obtain⟨bE,d0,dl,hd⟩:=hM _ (wj (n:=i) (by rw[wO]at hi;omega));refine(bE,d0,dl,λx D=>?_)
 rcases wq.mp D with h|h
 ·exact hd x h
 ·have hu:=wj (l:=kaj k n) (n:=i) (by rw[wO]at hi;omega);unfold kaj at hu;obtain⟨j,_,ej⟩:=wm.mp hu;have hx':x∈kad k n j:=by rw[ej];exact h
  unfold kad at hx';obtain⟨q,_,rfl⟩:=wm.mp hx'
  by_cases c:j=q
  ·rw[bj c];exact dB.num (by show 1*bE<=_;omega)
  ·rw[bn c];exact dB.num (by show 0*bE<=_;omega)
def zfq{ys:List β}(h:Paired R xs ys) n:Paired R (xs.drop n) (ys.drop n):=by
 have hl:=zd h;refine xR (by rw[vW,vW,hl]) λi a b h1 h2=>?_
 rw[gJ]at h1 h2;exact yq h h1 h2
def cutToF(N:Nat):cutV xs none (some (N:Int))=xs.take N:=by
 unfold cutV;rw[HT.xt,GK,Go,HT.xN]
 rcases wJ N xs.length with h|h
 ·rw[gj ()]
 ·rw[gB (),wo (wv _),wo h]
def cutFromF(N:Nat):cutV xs (some (N:Int)) none=xs.drop N:=by
 unfold cutV;rw[HT.xt,HT.xN]
 rcases wJ N xs.length with h|h
 ·rw[gj (),wo (by rw[vW];exact wv _)]
 ·rw[gB (),uG (wv _),uG h,List.take_nil]
def zgF:KnI pg 32 46 zcT:=by
 exists 32,Yz,yY,Yy,Jx,[2],zj,yd,zao,[2],zj,yd
 obtain⟨k,M,n,bF,t,ras,rfl,J,hT,oM,lM,cM,c7,hc,n30,full,q⟩:=h;have szl:=sh
 have lr:=zd hT.2;rw[lM]at lr;refine(Z,t,Z,.inl (SqL.of hT.1),?_);rw[wc,← lr];refine(Z,Z,k,n,V,(),λt1 r1 H1 g1 N1=>?_);have oU:=zax J n;refine(Z,Z,Z,M,kaj k n,n,n,t,t1,ras,r1,V,hT.mono g1,N1.tab,(by rw[lM,oU.len]),(λr U=>(oM r U).1),(λr U=>(oU.ok r U).1),(),(by rw[lM];omega),λt2 r2 H2 g2 N2=>?_);have oB:OkM k (n+n) (augM M (kaj k n))/\(augM M (kaj k n)).length=n:=jY J oM lM;refine(k,augM M (kaj k n),n+n,bF,t2,r2,V,J,N2.tab,oB.1,qM c7 cM,c7,hc,(),(by rw[oB.2];omega),λR ls t3 r3 H3 g3 N3 red lR=>?_);rw[oB.2]at lR;have g13:=(g1.trans g2).trans g3;have l3:=zd N3.tab.2;have U3:=N1.tab.mono (g2.trans g3);have oR:OkM k (n+n) R:=by
  obtain⟨F0,i0,d0,⟨φ0⟩⟩:=zD J;exact(red F0 φ0).ok
 clear N1 N2 g1 g2 g3;refine(Z,t3,V,(_,SqL.of N3.tab.1),?_)
 let Pv1_:Nat->List V->Hp->Prop:=λi ys H'=>∃ ras2,ys=ras2.map V.ref/\Grow H3 H' ((R.map (Ga n)).take i) ras2
 refine zo (xs:=r3.map V.ref) Pv1_ ([],V,Grow.nil H3 (Same.refl H3)) ?_ ?_ ?_
 ·rintro i ys H' hi ⟨ras2,rfl,G⟩
  refine(SqL.of (G.same _ _ N3.tab.1),?_);have:=zd G.rows;rw[wr,wc]at this;rw[wc];omega
 ·rintro i v ys H' hv hi ⟨ras2,rfl,G⟩
  obtain⟨row,a,D,ha,rfl,hrow⟩:=(N3.tab.mono G.same).row hv;obtain⟨us,hus,pus,lus⟩:=hrow.len
  symm
  refine(Z,Z,Z,a,Z,SqL.of hus,λp C=>?_);rw[cutToF];refine nxt hi (ras2++[p],by rw[wx];rfl,?_);have e:(R.map (Ga n))[i]?=some (row.take n):=by rw[wk,D];rfl
  rw[zf e];exact G.snoc C (zaR pus n)
 rintro ys H4 ⟨ras2,rfl,G⟩ pl hpl
 rw[wc,wo (by rw[wc];omega)]at G;have N4:=G.done hpl;have g4:=G.same.trans (zc hpl (.lst (ras2.map V.ref)));generalize upd H4 pl (.lst (ras2.map V.ref))=H5 at *;have U5:=U3.mono g4;refine(Z,tabD _,tabD _,N4.tab.rp,U5.rp,qg _,qg _,wE (uC _ _) (wE (jq _) ()),Z,?_);rw[zhO];have eU:=full R ls red;rw[br eU];refine iteF ?_;have T5:=N3.tab.mono g4;refine(Z,t3,V,(_,SqL.of T5.1),?_)
 let Pv2_:Nat->List V->Hp->Prop:=λi ys H'=>∃ ras2,ys=ras2.map V.ref/\Grow H5 H' ((R.map (uI n)).take i) ras2
 refine zo (xs:=r3.map V.ref) Pv2_ ([],V,Grow.nil H5 (Same.refl H5)) ?_ ?_ ?_
 ·rintro i ys H' hi ⟨ras2,rfl,G⟩
  refine(SqL.of (G.same _ _ T5.1),?_);have:=zd G.rows;rw[wr,wc]at this;rw[wc];omega
 ·rintro i v ys H' hv hi ⟨ras2,rfl,G⟩
  obtain⟨row,a,D,ha,rfl,hrow⟩:=(T5.mono G.same).row hv;obtain⟨us,hus,pus,lus⟩:=hrow.len
  symm
  refine(Z,Z,Z,a,Z,SqL.of hus,λp C=>?_);rw[cutFromF];refine nxt hi (ras2++[p],by rw[wx];rfl,?_);have e:(R.map (uI n))[i]?=some (row.drop n):=by rw[wk,D];rfl
  rw[zf e];exact G.snoc C (zfq pus n)
 rintro ys H6 ⟨ras3,rfl,G6⟩ pr hpr
 rw[wc,wo (by rw[wc];omega)]at G6;have N6:=G6.done hpr;have g:=g13.trans g4;exact q R ls pr ras3 _ (g.trans (G6.same.trans (zc hpr _))) (N6.tab,g.none N6.ft,λr U=>g.none (N6.fr r U),N6.nd,N6.nt) red
inductive Yj:Sp
 | mk:∀ k M N b c m t1 t2 r1 r2,vs=[.int k,.ref t1,.ref t2]->kab k->kac H M t1 r1->kac H N t2 r2->OkM k b M->OkM k c N->N.length=b->0<b->szM m M->szM m N->61<=m->(b+2)*m<=20000000->c<sizeLine->M.length<sizeLine->(∀ t ras H',Same H H'->NewT H H' (kah k c M N) t ras->Q (.ref t) H')->Yj vs H Q E_
def Ym:KnI pg 25 45 Yj:=by
 exists 25,[0],zj,yp,(ja xF),zj,(ja xF),[0,6],zj,zgm
 obtain⟨k,M,N,b,c,m,t1,t2,r1,r2,rfl,J,hM,hN,oM,oN,lN,b0,sM,sN,m7,hsz,cz,mz,q⟩:=h;obtain⟨z1,z2,z3,z4⟩:=XC m7 hsz;have oT:=zw oN;rw[lN]at oT;have sT:=zbJ oN sN;refine(Z,N,c,t2,r2,V,hN,(λe=>by rw[e]at lN;simp at lN;omega),(λr U=>(oN r U).1),cz,(),λtt rt H1 g1 nT=>?_);refine(tt,V,(_,SqL.of nT.tab.1),?_);have tl:=zd nT.tab.2;rw[zF]at tl
 let Pv1_:Nat->List V->Hp->Prop:=λi ys H'=>∃ ps,ys=ps.map V.ref/\Same H1 H'/\Paired (λxs p=>SclAt H' k ((b+2)*m) xs p) ((kaa c N).take i) ps
 refine zo (xs:=rt.map V.ref) Pv1_ ([],V,Same.refl _,.nil) ?_ ?_ ?_
 ·rintro i ys H' hi ⟨ps,rfl,g,pr⟩
  refine(SqL.of (g _ _ nT.tab.1),?_);have:=zd pr;rw[wr,zF]at this;rw[wc];omega
 ·rintro i v ys H' hv hi ⟨ps,rfl,g,pr⟩
  obtain⟨xs,a,D,ha,rfl,hrow⟩:=(nT.tab.mono g).row hv;obtain⟨lx,ox⟩:=oT xs (wg D)
  symm
  refine(Z,Z,k,xs,a,m,V,J,hrow,ox,sT xs (wg D),m7,by rw[lx];exact z4,λp H2 g2 sc=>?_);rw[lx]at sc;refine nxt hi (ps++[p],by rw[wx];rfl,g.trans g2,?_);rw[zf D];exact zy (yt (λ_ _ r=>r.mono g2) pr) sc
 ·rintro ys H' ⟨ps,rfl,g,pr⟩ pc hpc
  rw[wc,wo (by rw[zF];omega)]at pr;have pcl:=zd pr;rw[zF]at pcl;have gq:Same H (upd H' pc (.lst (ps.map V.ref))):=(g1.trans g).trans (zc hpc _);have prq:Paired (λxs p=>SclAt (upd H' pc (.lst (ps.map V.ref))) k ((b+2)*m) xs p) (kaa c N) ps:=yt (λ_ _ r=>r.mono (zc hpc _)) pr;have hpq:upd H' pc (.lst (ps.map V.ref)) pc=some (.lst (ps.map V.ref)):=za;generalize upd H' pc (.lst (ps.map V.ref))=Hq at *;refine((),λpt hpt=>?_);refine(Z,t1,V,(_,SqL.of (zc hpt _ _ _ (gq _ _ hM.1))),?_)
  let Pv2_:Nat->L2.St->Hp->Prop:=λi L H4=>∃ ras o5 o6,L=[some (.int k),some (.ref t1),some (.ref t2),some (.ref pc),some (.ref pt),o5,o6]/\Grow Hq H4 ((kah k c M N).take i) ras/\H4 pt=some (.lst (ras.map V.ref))/\pt∉ras
  refine yl (xs:=r1.map V.ref) Pv2_ ([],none,none,V,Grow.nil Hq (zc hpt _),za,by simp) ?_ ?_ ?_
  ·rintro i L H4 _ ⟨ras,o5,o6,rfl,G,_⟩
   exact SqL.of (G.same _ _ (gq _ _ hM.1))
  ·rintro i v L H4 hv ⟨ras,o5,o6,rfl,G,hpt4,npt4⟩
   obtain⟨xs,a,D,ha,rfl,hrow⟩:=(hM.mono (gq.trans G.same)).row hv;obtain⟨lx,ox⟩:=oM xs (wg D);refine(Z,Z,k,xs,a,m,V,J,hrow,ox,sM xs (wg D),m7,by rw[lx];exact z4,λp H5 g5 sc=>?_);rw[lx]at sc;have gq5:=G.same.trans g5;refine(Z,.inl (V,_,SqL.of (g5 _ _ hpt4)),Z,pc,V,(_,SqL.of (gq5 _ _ hpq)),?_)
   let Pv3_:Nat->List V->Hp->Prop:=λj ys' H6=>Same H5 H6/\Paired (RN H6) (((kaa c N).map λcol=>ndot k xs col).take j) ys'
   refine zo (xs:=ps.map V.ref) Pv3_ (Same.refl _,.nil) ?_ ?_ ?_
   ·rintro j ys' H6 hj ⟨g6,pr6⟩
    refine(SqL.of (g6 _ _ (gq5 _ _ hpq)),?_);have:=zd pr6;rw[wr,wc,zF]at this;omega
   ·rintro j v ys' H6 hv' hj ⟨g6,pr6⟩
    rw[wk]at hv';obtain⟨pj,hpj,rfl⟩:=wY.mp hv';obtain⟨col,hcol,scj⟩:=zG prq hpj;obtain⟨lc,oc⟩:=oT col (wg hcol)
    symm
    refine(Z,Z,Z,k,xs,col,p,pj,(b+2)*m,V,J,sc.mono g6,scj.mono (gq5.trans g6),ox,oc,by rw[lx,lc],z2,by rw[lx];exact z1,by rw[lx];exact z3,λv7 H7 g7 r7=>?_);refine nxt hj (g6.trans g7,?_);have e:((kaa c N).map λcol=>ndot k xs col)[j]?=some (ndot k xs col):=by rw[wk,hcol];rfl
    rw[zf e];exact zy (zW g7 pr6) r7
   ·rintro ys' H6 ⟨g6,pr6⟩ pn hpn
    rw[wc,wo (by rw[wc,zF];omega)]at pr6;have g46:=g5.trans g6;have npn:pt≠pn:=λe=>by rw[← e,g46 _ _ hpt4]at hpn;cases hpn
    refine(pt,_,Z,V,(by rw[zE npn];exact g46 _ _ hpt4),?_,?_)
    ·have e1:=zd G.rows;rw[wr]at e1;have e2:=(wu.mp ha).1;have e3:=zd hM.2;rw[wc];omega
    obtain⟨G2,nm2⟩:=G.push (zs':=(ras.map V.ref)++[.ref pn]) hpt hpt4 npt4 g46 hpn pr6;refine(ras++[pn],_,Z,?_,?_,nm2)
    ·have e:(kah k c M N)[i]?=some ((kaa c N).map λcol=>ndot k xs col):=by unfold kah;rw[wk,D];rfl
     rw[zf e];exact G2
    ·rw[za,wx];rfl
  ·rintro L H4 ⟨ras,o5,o6,rfl,G,hpt4,npt4⟩
   rw[wc,wo (by unfold kah;rw[wc];have:=zd hM.2;omega)]at G;exact(Z,q pt ras H4 (gq.trans G.same) ((hpt4,G.rows),gq.none hpt,λr U=>gq.none (G.fr r U),G.nd,npt4))
inductive ZJ:Sp
 | mk:∀ k A B bF n h s m pm ta tb tc ra rb rc,vs=[.ref pm]->kap H A B bF pm ta tb tc ra rb rc->MOk k n h s m A B bF->(n+h+2)*m<=20000000->61<=m->(∀ p ras H',Same H H'->NewT H H' (augM A B) p ras->Q (.ref p) H')->ZJ vs H Q E_
def ZI:KnI pg 34 2 ZJ:=by
 exists 34,Yy,zi,zi
 obtain⟨k,A,B,bF,n,h,s,m,pm,ta,tb,tc,ra,rb,rc,rfl,hM,oM,hsz,m7,q⟩:=h;obtain⟨z1,z2,z3,z4⟩:=XC m7 hsz;exact(Z,pm,_,_,Z,V,SqT.of hM.tup,V,Z,pm,_,_,Z,V,SqT.of hM.tup,V,A,B,n,h,ta,tb,ra,rb,V,hM.a,hM.b,by rw[oM.a.len,oM.b.len],λr U=>(oM.a.ok r U).1,λr U=>(oM.b.ok r U).1,(),by rw[oM.a.len];omega,q)
inductive zdd:Sp
 | mk:∀ k A B bF xs us n h s m pm ta tb tc ax au ra rb rc,vs=[.int k,.ref pm,.ref ax,.ref au]->kab k->kap H A B bF pm ta tb tc ra rb rc->kag H xs ax->kag H us au->MOk k n h s m A B bF->ROk k n m xs->ROk k h m us->61<=m->(n+h+2)*m<=20000000->(∀ p H',Same H H'->NewR H H' (nextM k A B xs us) p->Q (.ref p) H')->zdd vs H Q E_
def zgI:KnI pg 35 46 zdd:=by
 exists 35,jW,ZI,xC
 obtain⟨k,A,B,bF,xs,us,n,h,s,m,pm,ta,tb,tc,ax,au,ra,rb,rc,rfl,J,hM,D,hu,oM,rx,ru,m7,hsz,q⟩:=h;obtain⟨z1,z2,z3,z4⟩:=XC m7 hsz;have oAB:=QM oM.a oM.b;refine(Z,Z,k,A,B,bF,n,h,s,m,pm,ta,tb,tc,ra,rb,rc,V,hM,oM,hsz,m7,λpb ras H1 g1 N=>?_);obtain⟨us1,hu1,pu1,lu1⟩:=(D.mono g1).len;obtain⟨us2,hu2,pu2,lu2⟩:=(hu.mono g1).len;refine(Z,Z,ax,au,_,Z,V,hu1,hu2,(by rw[lu1,lu2,rx.len,ru.len];omega),λp C=>?_);have g2:=zc C (.lst (us1++us2));have R2:kag (upd H1 p (.lst (us1++us2))) (xs++us) p:=(_,za,zW g2 (xX pu1 pu2));generalize upd H1 p (.lst (us1++us2))=H2 at *;have rxu:=rx.app ru;refine(k,augM A B,xs++us,n+h,m,pb,p,ras,V,J,N.tab.mono g2,R2,oAB.ok,rxu.len,rxu.ok,oAB.sz,rxu.sz,m7,hsz,(by rw[oAB.len];omega),λpr H3 g3 nr=>?_);exact q pr H3 ((g1.trans g2).trans g3) (nr.row,(g1.trans g2).none nr.fa)
inductive QP:Sp
 | mk:∀(k:Int)(n:Nat)(W:TB)(lw:List Nat)(xs:List Nb)(bF:Nat)(t a:Addr)(ras:List Addr),vs=[.int k,.ref t,.ref a]->kab k->kac H W t ras->IsRa k n W lw->kag H xs a->xs.length=n->OkR k xs->kal bF W->rowB bF xs->61<=bF->n<=64->(bF+1)*2^n<=60000000->(∀ R ls H',Same H H'->(∀ F [bf F] (O:Kf k F),kay O n (W++[xs]) R ls)->Q (.bl (decide (R.length=W.length))) H')->QP vs H Q E_
def zab:KnI pg 48 47 QP:=by
 exists 48,yu,JD
 obtain⟨k,n,W,lw,xs,bF,t,a,ras,rfl,J,hT,iW,D,lx,ox,cW,cx,c7,n64,hc,q⟩:=h;have lW:=yC J iW;refine(Z,Z,Z,(),λp C=>?_);have g1:=zc C (.lst [.ref a]);have T1:kac (upd H p (.lst [.ref a])) [xs] p [a]:=(za,.cons (D.mono g1) .nil);have TW:=hT.mono g1;generalize upd H p (.lst [.ref a])=H1 at *;refine(k,W,[xs],n,bF,t,p,ras,[a],V,J,TW,T1,(ye J iW).1,(λr U=>by rw[wp.mp U];exact(lx,ox)),cW,(λr U=>by rw[wp.mp U];exact cx),c7,hc,n64,(),(by show 1<=1000;decide),λR ls top rs H2 g2 nR red=>?_);have l1:=zd nR.tab.2;have l2:=zd hT.2;refine(top,Z,.inl (SqL.of nR.tab.1),Z,t,Z,.inl (SqL.of (g2 _ _ TW.1)),V,?_);have el:decide (V.int ((rs.map V.ref).length:Int)=V.int ((ras.map V.ref).length:Int))=decide (R.length=W.length):=decide_eq_decide.mpr (by rw[wc,wc,← l1,← l2];exact(λe=>by have:=V.int.inj e;omega,λe=>by rw[e]));show Q (.bl (decide (V.int ((rs.map V.ref).length:Int)=V.int ((ras.map V.ref).length:Int)))) H2;rw[el];exact q R ls H2 (g1.trans g2) red
inductive zcC:Sp
 | mk:∀ k xs ys a b,vs=[.int k,.ref a,.ref b]->kab k->kag H xs a->kag H ys b->OkR k xs->OkR k ys->xs.length=ys.length->xs.length<=1000->(∀ x∈xs,nsm 60000000 x)->(∀ x∈ys,nsm 60000000 x)->(∀ p H',Same H H'->NewR H H' (subR k xs ys) p->Q (.ref p) H')->zcC vs H Q E_
def zg0:KnI pg 21 43 zcC:=by
 exists 21,[0],zav
 obtain⟨k,xs,ys,a,b,rfl,J,D,hy,ox,oy,lxy,l1000,sx,sy,q⟩:=h;have szl:=sh
 obtain⟨us1,hu1,pu1,lu1⟩:=D.len;obtain⟨us2,hu2,pu2,lu2⟩:=hy.len;have ls:=sub_len J lxy;refine(Z,Z,a,b,us1,us2,V,SqL.of hu1,SqL.of hu2,?_)
 let Pv1_:Nat->List V->Hp->Prop:=λj ys' H'=>Same H H'/\Paired (RN H') ((subR k xs ys).take j) ys'
 refine xu (xs:=us1) (zs:=us2) () Pv1_ (Same.refl _,.nil) ?_ ?_ ?_
 ·rintro j ys' H' hj ⟨g,pr⟩
  refine(SqL.of (g _ _ hu1),SqL.of (g _ _ hu2),?_);have:=zd pr;rw[wr]at this;omega
 ·rintro j x z T ys' H' hx' hz hj hT ⟨g,pr⟩
  obtain⟨nx,ex,rx⟩:=zG pu1 hx';obtain⟨nz,ez,rz⟩:=zG pu2 hz;have gN:=zc hT (.tup [x,z]);have gT:=g.trans gN;refine(T,Z,SqT.of za,V,_,Z,_,Z,V,?_);generalize upd H' T (.tup [x,z])=H2 at *
  symm
  refine(Z,Z,Z,k,nx,nz,x,z,V,(J,ox nx (wg ex),oy nz (wg ez),sx nx (wg ex),sy nz (wg ez),rx.mono gT,rz.mono gT),λv H3 g3 r3=>nxt hj (gT.trans g3,?_));have e:(subR k xs ys)[j]?=some (nsub k nx nz):=by unfold subR;rw[vL,ex,ez]
  rw[zf e];exact zy (zW (gN.trans g3) pr) r3
 ·rintro ys' H' ⟨g,pr⟩ p C
  rw[wo ()]at pr;have g2:=zc C (.lst ys');exact q p _ (g.trans g2) ((ys',za,zW g2 pr),g.none C)
inductive za6:Sp
 | mk:∀ k A B bF xs n h s m pm ta tb tc ax ra rb rc,vs=[.int k,.ref pm,.ref ax]->kab k->kap H A B bF pm ta tb tc ra rb rc->kag H xs ax->MOk k n h s m A B bF->ROk k n m xs->61<=m->(n+2)*m<=20000000->n<=1000->(∀ p H',Same H H'->NewR H H' (imgM k A xs) p->Q (.ref p) H')->za6 vs H Q E_
def zfs:KnI pg 36 46 za6:=by
 exists 36,jW,zi
 obtain⟨k,A,B,bF,xs,n,h,s,m,pm,ta,tb,tc,ax,ra,rb,rc,rfl,J,hM,D,oM,rx,m7,hsz,n1000,q⟩:=h;have szl:=sh
 exact(Z,Z,pm,_,_,Z,V,SqT.of hM.tup,V,Z,k,A,xs,n,m,ta,ax,ra,V,J,hM.a,D,oM.a.ok,rx.len,rx.ok,oM.a.sz,rx.sz,m7,hsz,(by rw[oM.a.len];omega),q)
inductive QK:Sp
 | mk:∀ k A B bF F n h s m pm ta tb tc tf ra rb rc rf,vs=[.int k,.ref pm,.ref tf]->kab k->kap H A B bF pm ta tb tc ra rb rc->kac H F tf rf->MOk k n h s m A B bF->TOk k h n m F->1<=n->n<=1000->61<=m->(n+h+2)*m<=20000000->(∀ t ras H',Same H H'->NewT H H' (rulM k n A B F) t ras->Q (.ref t) H')->QK vs H Q E_
def zew:KnI pg 56 46 QK:=by
 exists 56,Ym,ZI,xC,Yz,zi
 obtain⟨k,A,B,bF,F,n,h,s,m,pm,ta,tb,tc,tf,ra,rb,rc,rf,rfl,J,hM,hF,oM,oF,n1,n1000,m7,hsz,q⟩:=h;obtain⟨z1,z2,z3,z4⟩:=XC m7 hsz;have szl:=sh
 have la:=zd hM.a.2;rw[oM.a.len]at la;have oAB:=QM oM.a oM.b;have oI:=zhU ((zax J n).up m7) oF;refine(Z,Z,k,A,B,bF,n,h,s,m,pm,ta,tb,tc,ra,rb,rc,V,hM,oM,hsz,m7,λt1 r1 H1 g1 N1=>?_);have M1:=hM.mono g1;refine(Z,Z,pm,_,_,Z,V,SqT.of M1.tup,V,ta,Z,.inl (SqL.of M1.a.1),k,n,(by rw[wc,← la];rfl),n1000,λt2 r2 H2 g2 N2=>?_);have l2:=zd N2.tab.2;rw[(yi J n).2]at l2;have lf:=zd hF.2;rw[oF.len]at lf;have F2:=(hF.mono g1).mono g2;refine(Z,t2,tf,_,Z,V,N2.tab.1,F2.1,(by rw[wc,wc];omega),λt3 ht3=>?_);have T3:=zhu N2.tab F2 ht3;have g3:=zc ht3 (.lst (r2.map V.ref++rf.map V.ref));generalize upd H2 t3 (.lst (r2.map V.ref++rf.map V.ref))=H3 at *;have g13:=(g1.trans g2).trans g3;refine(k,augM A B,kaj k n++F,n+h,n,m,t1,t3,r1,r2++rf,V,J,N1.tab.mono (g2.trans g3),T3,oAB.ok,oI.ok,oI.len,(),oAB.sz,oI.sz,m7,hsz,(),(by rw[oAB.len];omega),λt ras H' g' N=>?_);exact q t ras H' (g13.trans g') (N.tab,g13.none N.ft,λr U=>g13.none (N.fr r U),N.nd,N.nt)
def zgs K:PySem.W.kitOne K (.type "list") (.type "list")=some true:=by unfold PySem.W.kitOne;rw[bj ()]
def jD(h0 : -(2^64)<b)(h1:b<2^64):IntMulOk a b:=IntMulOk.of_right (cZ h0 h1)
def yZ(h0 : -(2^64)<a)(h1:a<2^64):IntMulOk a b:=IntMulOk.of_left (cZ h0 h1)
inductive Jp:Sp
 | mk:∀ t b,vs=[.int t,.int b]->0<b->(∀ p H',Same H H'->H' p=some (.tup [.int (ul t b).num,.int ((ul t b).den:Int)])->Q (.ref p) H')->Jp vs H Q E_
def xp:KnI pg 68 41 Jp:=by
 exists 68,zfO
 obtain⟨t,b,rfl,b0,q⟩:=h;have e:sg t b =((vH t b:Nat):Int):=by unfold sg;rw[bn ()]
 have ne:((vH t b:Nat):Int)≠0:=by rw[← e];exact zeW ()
 obtain⟨e1,e2⟩:=qO (t:=t) (b:=b) ();rw[e]at e1 e2;refine(Z,Z,t,b,V,Z,Z,_,Z,V,ne,Z,Z,_,Z,V,ne,(),λp C=>?_);show Q (.ref p) (upd H p (.tup [.int (t.fdiv ((vH t b:Nat):Int)),.int (b.fdiv ((vH t b:Nat):Int))]));rw[e1,e2];exact q p _ (zc C _) za
inductive zaE:Sp
 | mk:∀ c j,vs=[.int c,.int j]->0<=j->j<=1000->(∀ m:Int,0<=m->m<2147483648->Q (.int m) H)->zaE vs H Q E_
def ten7:(10:Int)^(7:Int).toNat=10000000:=by decide
def cpow10(h0:0<=j)(h1:j<=100):CPow 10 j:=(h0,(),())
def QT:KnI pg 66 41 zaE:=by
 exists 66,zd4,zd4,zd4,zK,zT,zT,zK,zK,zK,zK,zT,zT,zK
 obtain⟨c,j,rfl,j0,j1,q⟩:=h;have n1:(2147483647:Int)≠0:=by decide
 have n2:(2147483629:Int)≠0:=by decide
 have n3:(65537:Int)≠0:=by decide
 have n4:(1000:Int)≠0:=by decide
 have n5:(10:Int)^(7:Int).toNat≠0:=by decide
 refine(Z,_,Z,V,cpow10 () (),_,Z,V,Z,?_);refine ite2 (λcc=>?_) (λcc=>?_)
 ·refine(Z,_,Z,V,n4,?_);refine(Z,j,V,(),(),?_)
  let Pv1_:Nat->L2.St->Hp->Prop:=λi L H'=>∃ lf o3 o4,L=[some (.int c),some (.int j),some (.int lf),o3,o4]/\H'=H
  refine zS (lo:=0) (n:=j.toNat) Pv1_ (_,none,none,V,V) ?_ ?_
  ·rintro i L H' hi ⟨lf,o3,o4,rfl,rfl⟩
   exact(Z,_,Z,V,cpow10 () (),_,Z,V,n5,_,_,Z,V)
  ·rintro L H' ⟨lf,o3,o4,rfl,rfl⟩
   refine(Z,_,Z,V,cpow10 () (),_,Z,V,n5,?_)
   dsimp only
   rw[ten7];have h0:=wI lf (show(0:Int)<10000000 by decide);have h1:=wW lf (show(0:Int)<10000000 by decide);exact q _ h0 ()
 ·have f0:=wI c (show(0:Int)<2147483647 by decide);have f1:=wW c (show(0:Int)<2147483647 by decide);refine(Z,_,Z,V,n1,Z,_,Z,V,yZ () (),Z,_,Z,V,jD () (),_,Z,V,Z,_,Z,V,yZ () (),_,Z,V,_,Z,V,jD () (),_,Z,V,n1,?_)
  dsimp only
  generalize ((c.fmod 2147483647+40503*j*j+17*j)*48271).fmod 2147483647=o at *;refine(Z,Z,_,Z,V,n3,Z,_,Z,V,yZ () (),_,Z,V,_,Z,V,_,Z,V,jD ?_ ?_,_,Z,V,n2,?_)
  ·have h0:=wI o (show(0:Int)<65537 by decide);show -(2^64)<o.fmod 65537+3*j+1;omega
  ·have h1:=wW o (show(0:Int)<65537 by decide);show o.fmod 65537+3*j+1<2^64;omega
  dsimp only
  generalize o *(o.fmod 65537+3*j+1)=x;have h0:=wI x (show(0:Int)<2147483629 by decide);have h1:=wW x (show(0:Int)<2147483629 by decide);exact q _ h0 ()
inductive Ju:Sp
 | mk:∀ k c,vs=[.int k,.int c]->kab k->(∀ x v H',Same H H'->RN H' x v->x.ok k->Q v H')->Ju vs H Q E_
def zeD(J:1<k)(h0:0<=m)(h1:m<4)(c0:0<=c)(c1:c<k):∃ w:Int,atI [V.int 0,V.int 1,V.int (k - 1),V.int c] m=some (.int w)/\0<=w/\w<k:=by
 rcases (show m=0\/m=1\/m=2\/m=3 by omega)with rfl|rfl|rfl|rfl
 ·exact(0,V,(),())
 ·exact(1,V,(),())
 ·exact(k - 1,V,(),())
 ·exact(c,V,c0,c1)
def Jg:KnI pg 67 42 Ju:=by
 exists 67,ze,yu,xp,zT
 obtain⟨k,c,rfl,J,q⟩:=h;have kl:=J.lt;have n4:(4:Int)≠0:=by decide
 have n3:(3:Int)≠0:=by decide
 refine(Z,_,Z,V,Z,?_);refine ite2 (λck=>?_) (λck=>?_)
 ·have k0:0<k:=bt ck;have k1:1<k:=by
   rcases J with h|h
   ·omega
   ·exact h.1
  refine(Z,_,Z,V,Z,_,Z,V,n4,Z,_,Z,V,(show k≠0 by omega),(),λp C=>?_);obtain⟨w,ew,w0,w1⟩:=zeD k1 (wI c (show(0:Int)<4 by decide)) (wW c (show(0:Int)<4 by decide)) (wI (c.fdiv 4) k0) (wW (c.fdiv 4) k0);exact(Z,_,Z,V,n4,p,_,_,Z,V,SqL.of za,ew,q (.z w) _ _ (zc C _) RN.of_z ((),w0,w1))
 ·have k0:k=0:=by
   have:¬ 0<k:=bv (uv.mpr ck);omega
  refine(Z,_,Z,V,n3,V,Z,?_);refine ite2 (λc3=>?_) (λc3=>?_)
  ·refine(Z,_,Z,V,n3,_,Z,V,n3,_,Z,V,(),λp C=>?_);exact q (.q ((((c.fdiv 3).fmod 3 - 1:Int)):Rat)) _ _ (zc C _) (RN.of_q (r:=(((c.fdiv 3).fmod 3 - 1:Int):Rat)) za) k0
  ·have b0:=wI (c.fdiv 57) (show(0:Int)<4 by decide);exact(Z,_,Z,V,n3,_,Z,V,(by show(19:Int)≠0;decide),_,Z,V,Z,_,Z,V,(by show(57:Int)≠0;decide),_,Z,V,n4,_,Z,V,_,Z,(),λp H' g C=>q (.q _) _ H' g (RN.of_q C) k0)
inductive zaq:Sp
 | mk:∀ k w,vs=[.int k,.int w]->kab k->(∀ v H',Same H H'->RN H' (nnum k w) v->Q v H')->zaq vs H Q E_
def ya:KnI pg 69 1 zaq:=by
 exists 69,yu
 obtain⟨k,x,rfl,J,q⟩:=h;have kl:=J.lt;refine(Z,V,Z,?_);refine ite2 (λc=>?_) (λc=>?_)
 ·have k0:k=0:=V.int.inj (bt c);subst k0;exact(Z,(),λp C=>q _ _ (zc C _) (RN.of_q (r:=(x:Rat)) za))
 ·have k0:k≠0:=λe=>c (by show decide (V.int k=V.int 0)=true;rw[e];decide)
  refine(Z,Z,_,Z,V,k0,q _ _ (Same.refl H) ?_);unfold nnum;rw[bn k0];exact RN.of_z
def ji:KnI pg 70 42 (zaU nadd):=by
 exists 70,yu,xp,zT,zK,zi,zi,zK,zi,zi,zK,zi,zi,zT
 obtain⟨k,x,y,a,b,rfl,T,q⟩:=h;have kl:=T.kd.lt
 rcases qj T with⟨rfl,r,s,pa,pb,rfl,rfl,rfl,rfl,ha,hb,rn,rd,sn,sd⟩|⟨k0,C,i,j,rfl,rfl,rfl,rfl,i0,ik,j0,jk⟩
 ·refine(Z,V,Z,iteT ?_);refine(Z,pa,_,_,Z,V,SqT.of ha,V,Z,pb,_,_,Z,V,SqT.of hb,V,_,Z,V,yN rn sd,Z,pb,_,_,Z,V,SqT.of hb,V,Z,pa,_,_,Z,V,SqT.of ha,V,_,Z,V,yN sn rd,_,Z,V,Z,pa,_,_,Z,V,SqT.of ha,V,Z,pb,_,_,Z,V,SqT.of hb,V,_,Z,V,yN rd sd,_,Z,wap (den_pos r) (den_pos s),λp H' g h=>?_);rw[QA]at h;exact q _ H' g (RN.of_q h)
 ·refine(Z,V,Z,?_);rw[bq (λe=>k0 (V.int.inj e))];refine iteF ?_;refine(Z,Z,_,Z,V,Z,_,Z,V,k0,?_);exact q _ _ (Same.refl H) RN.of_z
def yD:KnI pg 71 42 (zaU nmul):=by
 exists 71,yu,xp,zK,zi,zi,zK,zi,zi,zK
 obtain⟨k,x,y,a,b,rfl,T,q⟩:=h;have kl:=T.kd.lt
 rcases qj T with⟨rfl,r,s,pa,pb,rfl,rfl,rfl,rfl,ha,hb,rn,rd,sn,sd⟩|⟨k0,C,i,j,rfl,rfl,rfl,rfl,i0,ik,j0,jk⟩
 ·refine(Z,V,Z,iteT ?_);refine(Z,pa,_,_,Z,V,SqT.of ha,V,Z,pb,_,_,Z,V,SqT.of hb,V,_,Z,V,yN rn sn,Z,pa,_,_,Z,V,SqT.of ha,V,Z,pb,_,_,Z,V,SqT.of hb,V,_,Z,V,yN rd sd,_,Z,wap (den_pos r) (den_pos s),λp H' g h=>?_);rw[QE]at h;exact q _ H' g (RN.of_q h)
 ·refine(Z,V,Z,?_);rw[bq (λe=>k0 (V.int.inj e))];refine iteF ?_;refine(Z,Z,_,Z,V,yn i0 (by have:=C.hi;omega),Z,_,Z,V,k0,?_);exact q _ _ (Same.refl H) RN.of_z
def zjs(J:kab k)(ox:x.ok k)(oy:y.ok k):nadd k x (nmul k (nnum k (-1)) y)=nsub k x y:=by
 obtain⟨F,_,_,⟨O⟩⟩:=zD J;have o1:=zm J (-1);have om:=zY J o1 oy;refine O.inj (yk J ox om) (jf (by have:=J.lt;omega) ox oy) ?_;rw[O.add ox om,O.mul o1 oy,O.sub ox oy,O.num];have:(La.ι (-1):F) = -1:=by
  have h1:(La.ι (-1):F)+La.ι 1=0:=by rw[← La.ι_add];exact La.ι_zero
  rw[La.ι_one]at h1
  grind
 rw[this]
 grind
inductive XZ:Sp
 | mk:∀ k x y a b,vs=[.int k,a,b]->kab k->x.ok k->y.ok k->nsm 30000000 x->nsm 30000000 y->RN H x a->RN H y b->(∀ v H',Same H H'->RN H' (nsub k x y) v->Q v H')->XZ vs H Q E_
def xB:KnI pg 72 43 XZ:=by
 exists 72,ji,yD,ya
 obtain⟨k,x,y,a,b,rfl,J,ox,oy,sx,sy,rx,ry,q⟩:=h;have o1:=zm J (-1);have s1:nsm 30000000 (nnum k (-1)):=yc J (kax.neg.mono ()) ();refine(Z,Z,Z,Z,Z,k,-1,V,J,λv1 H1 g1 r1=>?_);refine(Z,k,nnum k (-1),y,_,Z,(J,o1,oy,nsm.mono s1 (),nsm.mono sy (),r1,ry.mono g1),λv2 H2 g2 r2=>?_);refine(k,x,_,_,Z,(J,ox,zY J o1 oy,sx.mono (),(zgO J o1 oy s1 sy ()).mono (),(rx.mono g1).mono g2,r2),λv3 H3 g3 r3=>?_);rw[zjs J ox oy]at r3;exact q v3 H3 ((g1.trans g2).trans g3) r3
def primesN:List Nat:=[2,3,5,7,11,13,17,19,23,29,31,37,41,43,47,53,59,61,67,71,73,79,83,89,97]
def zcV:∀ w∈primesN,primeB w=true/\1<w/\w<99:=by decide
def zeS(h:i<25):∃ k:Int,(([2,3,5,7,11,13,17,19,23,29,31,37,41,43,47,53,59,61,67,71,73,79,83,89,97]:List Int).map V.int)[i]?=some (.int k)/\KindS k:=by
 rw[show(([2,3,5,7,11,13,17,19,23,29,31,37,41,43,47,53,59,61,67,71,73,79,83,89,97]:List Int).map V.int)=primesN.map λ(w:Nat)=>V.int (w:Int)from rfl];have hi:= h;refine((primesN[i]:Int),by rw[wk,wa hi];rfl,.inr ?_);obtain⟨h1,h2,h3⟩:=zcV primesN[i] (wj hi);exact((),(),by rw[wS];exact h1)
inductive JF:Sp
 | mk:∀ c,vs=[.int c]->(∀ k H',Same H H'->KindS k->(c.fmod 3=0->k=0)->Q (.int k) H')->JF vs H Q E_
def zcA:KnI pg 81 41 JF:=by
 exists 81,yu,ze,ze
 obtain⟨c,rfl,q⟩:=h;have n3:(3:Int)≠0:=by decide
 refine((),λp C=>?_);have hpp:upd H p (.lst (([2,3,5,7,11,13,17,19,23,29,31,37,41,43,47,53,59,61,67,71,73,79,83,89,97]:List Int).map V.int)) p=some (.lst (([2,3,5,7,11,13,17,19,23,29,31,37,41,43,47,53,59,61,67,71,73,79,83,89,97]:List Int).map V.int)):=za;have g1:=zc C (.lst (([2,3,5,7,11,13,17,19,23,29,31,37,41,43,47,53,59,61,67,71,73,79,83,89,97]:List Int).map V.int));generalize upd H p (.lst (([2,3,5,7,11,13,17,19,23,29,31,37,41,43,47,53,59,61,67,71,73,79,83,89,97]:List Int).map V.int))=H1 at *;refine(Z,_,Z,V,n3,V,Z,?_);refine ite2 (λcc=>?_) (λcc=>?_)
 ·exact q 0 _ g1 (.inl rfl) (λ_=>rfl)
 ·have c3:c.fmod 3≠0:=λe=>cc (by show decide (V.int (c.fmod 3)=V.int 0)=true;rw[e];decide)
  have f0:=wI c (show(0:Int)<3 by decide);have f1:=wW c (show(0:Int)<3 by decide);have a0:=wI (c.fdiv 3) (show(0:Int)<4 by decide);have a1:=wW (c.fdiv 3) (show(0:Int)<4 by decide);have b0:=wI (c.fdiv 3) (show(0:Int)<25 by decide);have b1:=wW (c.fdiv 3) (show(0:Int)<25 by decide);refine(Z,Z,_,Z,V,n3,_,Z,V,(by show(4:Int)≠0;decide),Z,_,Z,V,n3,_,Z,V,(by show(25:Int)≠0;decide),(),λp2 hp2=>?_);have g2:=zc hp2 (.lst [V.int ((c.fdiv 3).fmod 4),V.int ((c.fdiv 3).fmod 25)]);obtain⟨i,ei,hi⟩ : ∃ i:Nat,atI [V.int ((c.fdiv 3).fmod 4),V.int ((c.fdiv 3).fmod 25)] (c.fmod 3 - 1)=some (.int (i:Int))/\i<25:=by
   rcases (show c.fmod 3=1\/c.fmod 3=2 by omega)with e|e
   ·refine(((c.fdiv 3).fmod 4).toNat,?_,());rw[e,show((((c.fdiv 3).fmod 4).toNat:Nat):Int) =(c.fdiv 3).fmod 4 by omega]
    rfl
   ·refine(((c.fdiv 3).fmod 25).toNat,?_,());rw[e,show((((c.fdiv 3).fmod 25).toNat:Nat):Int) =(c.fdiv 3).fmod 25 by omega]
    rfl
  obtain⟨k,ek,J⟩:=zeS hi;exact(Z,_,Z,V,n3,_,Z,V,p2,_,_,Z,V,SqL.of za,ei,p,_,_,Z,V,SqL.of (g2 _ _ hpp),zk ek,q k _ (g1.trans g2) J (λe=>bw e c3))
inductive zfK:Sp
 | mk:∀(k:Int)(pc:Addr)(cs:List Int)(i:Nat)(iI:Int),vs=[.int k,.ref pc,.int iI]->iI =(i:Int)->kab k->H pc=some (.lst (cs.map V.int))->cs≠[]->(∀ x v H',Same H H'->RN H' x v->x.ok k->Q v H')->zfK vs H Q E_
def zjf:KnI pg 82 43 zfK:=by
 exists 82,Jg,ze,Jg,QT,zT,ze
 obtain⟨k,pc,cs,i,iI,rfl,rfl,J,hc,ne,q⟩:=h;refine(Z,Z,pc,Z,.inl (SqL.of hc),_,Z,V,Z,?_);refine ite2 (λcc=>?_) (λcc=>?_)
 ·have c':(i:Int) <(((cs.map V.int).length:Nat):Int):=bt cc;rw[wc]at c';have e:(cs.map V.int)[i]?=some (.int cs[i]):=by rw[wk,wa ()];rfl
  exact(Z,Z,Z,pc,_,_,Z,V,SqL.of hc,zk e,k,Z,J,q)
 ·obtain⟨c0,cs',rfl⟩:=gL ne;have f0:=wI (i:Int) (show(0:Int)<30 by decide);have f1:=wW (i:Int) (show(0:Int)<30 by decide);exact(Z,Z,pc,_,_,Z,V,SqL.of hc,zk (j:=0) rfl,Z,_,Z,V,Z,_,Z,V,(by show(30:Int)≠0;decide),_,Z,(),(),λm _ _=>(k,m,V,J,q))
inductive XD:Sp
 | mk:∀(k:Int)(pc:Addr)(cs:List Int)(i:Nat)(iI:Int),vs=[.int k,.ref pc,.int iI]->iI =(i:Int)->kab k->H pc=some (.lst (cs.map V.int))->cs≠[]->(∀ x v H',Same H H'->RN H' x v->x.ok k->whk k 2 x->Q v H')->XD vs H Q E_
def Zt:KnI pg 83 44 XD:=by
 exists 83,zjf,yu,zi
 obtain⟨k,pc,cs,i,iI,rfl,rfl,J,hc,ne,q⟩:=h;refine(Z,Z,Z,k,pc,cs,i,Z,V,J,hc,ne,λx v H1 g1 rx ox=>?_);refine(Z,V,Z,?_);refine ite2 (λcc=>?_) (λcc=>?_)
 ·have k0:k=0:=V.int.inj (bt cc);subst k0;cases x with
  | z j=>exact bw rfl ox.1
  | q r =>
   obtain⟨p,rfl,C⟩:=rx.q;have f0:=wI r.num (show(0:Int)<5 by decide);have f1:=wW r.num (show(0:Int)<5 by decide);refine(Z,p,_,_,Z,V,SqT.of C,V,_,Z,V,(by show(5:Int)≠0;decide),_,Z,V,(),λp2 hp2=>?_);refine q (.q ((r.num.fmod 5 - 2:Int):Rat)) _ _ (g1.trans (zc hp2 _)) (RN.of_q (r:=((r.num.fmod 5 - 2:Int):Rat)) za) rfl λ_=>(r.num.fmod 5 - 2,V,?_)
   have:(2:Nat)^2=4:=by decide
   omega
 ·have k0:k≠0:=λe=>cc (by show decide (V.int k=V.int 0)=true;rw[e];decide)
  exact(Z,q x v H1 g1 rx ox λe=>bw e k0)
inductive Ja:Sp
 | mk:∀(h:Int)(n:Nat)(b:Bool),vs=[.int h,.int (n:Int),.bl b]->n<=60->(∀(ss:List Int) l H',Same H H'->H' l=some (.lst (ss.map V.int))->ss.length=n->Q (.ref l) H')->Ja vs H Q E_
def zdo:KnI pg 84 42 Ja:=by
 exists 84,[],[0],QT,zT
 obtain⟨h,n,b,rfl,n60,q⟩:=h;have szl:=sh
 refine(Z,Z,?_);refine ite2 (λcc=>?_) (λcc=>?_)
 ·refine(Z,n,V,(),(),?_);rw[wS]
  let Pv1_:Nat->List V->Hp->Prop:=λi ys H'=>H'=H/\ys =(wK i (1:Int)).map V.int
  refine zO (lo:=0) (n:=n) Pv1_ (V,V) ?_ ?_ ?_
  ·rintro i ys H' hi ⟨rfl,rfl⟩
   rw[wc,vf];omega
  ·rintro i ys H' hi ⟨rfl,rfl⟩
   symm
   refine nxt hi (V,?_);rw[uZ,wx];rfl
  ·rintro ys H' ⟨rfl,rfl⟩ p C
   exact q _ p _ (zc C _) za (by rw[vf])
 ·refine(Z,n,V,(),(),?_);rw[wS]
  let Pv2_:Nat->List V->Hp->Prop:=λi ys H'=>H'=H/\∃ ss:List Int,ys=ss.map V.int/\ss.length=i
  refine zO (lo:=0) (n:=n) Pv2_ (V,[],V,V) ?_ ?_ ?_
  ·rintro i ys H' hi ⟨rfl,ss,rfl,l⟩
   rw[wc];omega
  ·rintro i ys H' hi ⟨rfl,ss,rfl,l⟩
   symm
   refine(Z,Z,_,Z,V,_,Z,(),(),λm _ _=>(_,Z,V,(by show(4:Int)≠0;decide),nxt hi (V,ss++[m.fmod 4],?_,by rw[wD,l];rfl)));rw[wx];rfl
  ·rintro ys H' ⟨rfl,ss,rfl,l⟩ p C
   refine(p,ss,V,SqL.of za,(),λl2 ss' hl2 pm _=>?_);exact q ss' l2 _ ((zc C _).trans (zc hl2 _)) za (by rw[pm.length_eq,l])
inductive zaz:Sp
 | mk:∀ a b,vs=[.int a,.int b]->(∀ c,Q (.bl c) H)->zaz vs H Q E_
def zet:KnI pg 85 1 zaz:=by
 exists 85,yu,yu,yu,yu,yu,yu
 obtain⟨a,b,rfl,q⟩:=h;refine(Z,V,Z,?_);refine ite2 (λc1=>?_) (λc1=>?_)
 ·refine(Z,V,Z,?_);refine ite2 (λc2=>?_) (λc2=>?_)
  ·exact q _
  ·exact(Z,V,q _)
 ·refine(Z,V,Z,?_);refine ite2 (λc2=>?_) (λc2=>?_)
  ·exact(Z,_,Z,V,q _)
  ·refine(Z,V,Z,?_);refine ite2 (λc3=>?_) (λc3=>?_)
   ·exact q _
   ·exact(Z,V,q _)
def XQ{K:bh}{g:TG}{tb:TS}{bE:Ends}(Pv:Nat->L2.St->Hp->Prop)(h0:Pv 0 L H)(hl:∀ i L H,i<=xs.length->Pv i L H->SqL K H a xs)
  (hs:∀ N B i x L H,(∀ σ' H',Pv (i+1) σ' H'->N σ' H')->xs[i]?=some x->Pv i L H->g x L H λσ2 H2=>tb { bE with nx:=N,ct:=N,bk:=B } σ2 H2) (hd:∀ L H,Pv xs.length L H->bE.nx L H) :
  ∃ W:Nat->Nat->L2.St->Hp->Prop,(∃ m,W 0 m L H)/\∀ i m L H,W i m L H ->
   ((Itl K a).stop i H/\bE.nx L H)\/((Itl K a).go i H/\∃ N:L2.St->Hp->Prop,(∀ σ' H',N σ' H'->∃ m',m'<m/\W (i+1) m' σ' H')/\∀ x H',(Itl K a).yld i H x H'->g x L H' λσ2 H2=>tb { bE with nx:=N,ct:=N,bk:=bE.nx } σ2 H2) :=
 yl Pv h0 hl (λi x L H D p=>hs (Pv (i+1)) bE.nx i x L H (λ_ _ h=>h) D p) hd
def qv{lo:Int}{g:TG}{tb:TS}{bE:Ends}(Pv:Nat->L2.St->Hp->Prop)(h0:Pv 0 L H)
  (hs:∀ N B i L H,(∀ σ' H',Pv (i+1) σ' H'->N σ' H')->i<n->Pv i L H->g (.int (lo+i)) L H λσ2 H2=>tb { bE with nx:=N,ct:=N,bk:=B } σ2 H2) (hd:∀ L H,Pv n L H->bE.nx L H) :
  ∃ W:Nat->Nat->L2.St->Hp->Prop,(∃ m,W 0 m L H)/\∀ i m L H,W i m L H ->
   ((Itr lo n).stop i H/\bE.nx L H)\/((Itr lo n).go i H/\∃ N:L2.St->Hp->Prop,(∀ σ' H',N σ' H'->∃ m',m'<m/\W (i+1) m' σ' H')/\∀ x H',(Itr lo n).yld i H x H'->g x L H' λσ2 H2=>tb { bE with nx:=N,ct:=N,bk:=bE.nx } σ2 H2) :=
 zS Pv h0 (λi L H hi p=>hs (Pv (i+1)) bE.nx i L H (λ_ _ h=>h) hi p) hd
inductive qX:Sp
 | mk:∀(k:Int)(pc pz ps:Addr)(cs ss:List Int)(n m q:Nat),vs=[.int k,.ref pc,.ref pz,.ref ps]->kab k->H pc=some (.lst (cs.map V.int))->cs≠[]->H pz=some (.tup [.int (n:Int),.int (m:Int),.int (q:Int)])->H ps=some (.lst (ss.map V.int))->ss.length=n->n<=10->m<=10->q<=10->(∀ A B bF pt pr ts rs (at':Nat) H',kai H H' [A,B,bF] ts rs->TW k n n 2 A->TW k n m 2 B->TW k q n 2 bF->H' pt=some (.lst (ts.map V.ref))->H pt=none->pt∉ts->(∀ ras∈rs,pt∉ras)->H' pr=some (.tup [.ref pt,.int (at':Int)])->Q (.ref pr) H')->qX vs H Q E_
def dimR(n m q j:Nat):Nat:=if j=2 then q else n
def dimC(n m q j:Nat):Nat:=if j=1 then m else n
def Ql:KnI pg 86 45 qX:=by
 exists 86,Zz 3 rfl,ya,zj,Zz 2 rfl,[0,1,9,13,11],Zt,zT,zT,zK,zT,zK,zet,ze,ze,ze,ze,ze,[7],ze,yu,ze,zj,ze
 obtain⟨k,pc,pz,ps,cs,ss,n,m,qn,rfl,J,hc,ne,hz,hs,ls,n10,m10,q10,q⟩:=h;have szl:=sh
 refine(Z,pz,Z,SqT.of hz,V,_,Z,_,Z,_,Z,V,?_);refine(Z,k,0,V,J,λv0 H1 g1 r1=>?_);refine((),λpt hpt=>?_);have ptH:H pt=none:=g1.none hpt;have g2:=zc hpt (.lst []);have hpt2:upd H1 pt (.lst []) pt=some (.lst []):=za;have r2:=r1.mono g2;have gH2:=g1.trans g2;generalize upd H1 pt (.lst [])=H2 at *;clear hpt r1;refine(Z,Z,(),λq1 hq1=>?_);have g3:=zc hq1 (.tup [.int (n:Int),.int (n:Int)]);have e1:upd H2 q1 (.tup [.int (n:Int),.int (n:Int)]) q1=some (.tup [.int (n:Int),.int (n:Int)]):=za;generalize upd H2 q1 (.tup [.int (n:Int),.int (n:Int)])=H3 at *;refine(Z,Z,(),λq2 hq2=>?_);have g4:=zc hq2 (.tup [.int (n:Int),.int (m:Int)]);have e2:upd H3 q2 (.tup [.int (n:Int),.int (m:Int)]) q2=some (.tup [.int (n:Int),.int (m:Int)]):=za;generalize upd H3 q2 (.tup [.int (n:Int),.int (m:Int)])=H4 at *;refine(Z,Z,(),λq3 hq3=>?_);have g5:=zc hq3 (.tup [.int (qn:Int),.int (n:Int)]);have e3:upd H4 q3 (.tup [.int (qn:Int),.int (n:Int)]) q3=some (.tup [.int (qn:Int),.int (n:Int)]):=za;generalize upd H4 q3 (.tup [.int (qn:Int),.int (n:Int)])=H5 at *;refine((),λpl hpl=>?_);have g6:=zc hpl (.lst [.ref q1,.ref q2,.ref q3]);have e4:upd H5 pl (.lst [.ref q1,.ref q2,.ref q3]) pl=some (.lst [.ref q1,.ref q2,.ref q3]):=za;generalize upd H5 pl (.lst [.ref q1,.ref q2,.ref q3])=H6 at *;have hpt6:=g6 _ _ (g5 _ _ (g4 _ _ (g3 _ _ hpt2)));have npl:pl≠pt:=λe=>by rw[e,g5 _ _ (g4 _ _ (g3 _ _ hpt2))]at hpl;cases hpl
 have nq1:q1≠pt:=λe=>by rw[e,hpt2]at hq1;cases hq1
 have nq2:q2≠pt:=λe=>by rw[e,g3 _ _ hpt2]at hq2;cases hq2
 have nq3:q3≠pt:=λe=>by rw[e,g4 _ _ (g3 _ _ hpt2)]at hq3;cases hq3
 have gH6:=(((gH2.trans g3).trans g4).trans g5).trans g6;have r6:=(((r2.mono g3).mono g4).mono g5).mono g6;have f1:=g6 _ _ (g5 _ _ (g4 _ _ e1));have f2:=g6 _ _ (g5 _ _ e2);have f3:=g6 _ _ e3;clear g1 g2 g3 g4 g5 g6 hq1 hq2 hq3 hpl e1 e2 e3 hpt2 gH2 r2;refine(pl,V,(_,SqL.of e4),?_)
 let Pv1_:Nat->L2.St->Hp->Prop:=λi L H'=>∃ Ms ts rs,∃ at':Nat,∃ o10 o11 o12 o13 o14 o15,L=[some (.int k),some (.ref pc),some (.ref pz),some (.ref ps),some (.int (n:Int)),some (.int (m:Int)),some (.int (qn:Int)),some v0,some (.ref pt),some (.int (at':Int)),o10,o11,o12,o13,o14,o15]/\kai H H' Ms ts rs/\Ms.length=i/\(∀ j M,Ms[j]?=some M->TW k (dimR n m qn j) (dimC n m qn j) 2 M)/\H' pt=some (.lst (ts.map V.ref))/\pt∉ts/\(∀ ras∈rs,pt∉ras)/\RN H' (nnum k 0) v0/\H' pl=some (.lst [.ref q1,.ref q2,.ref q3])/\H' q1=some (.tup [.int (n:Int),.int (n:Int)])/\H' q2=some (.tup [.int (n:Int),.int (m:Int)])/\H' q3=some (.tup [.int (qn:Int),.int (n:Int)])
 refine XQ (xs:=[.ref q1,.ref q2,.ref q3]) Pv1_
  ([],[],[],1,none,none,none,none,none,none,V,kai.nil gH6,V,λj M h=>by simp at h,hpt6,by simp,λras U=>(nomatch U),r6,e4,f1,f2,f3) ?_ ?_ ?_
 ·rintro i L H' _ ⟨Ms,ts,rs,at',o10,o11,o12,o13,o14,o15,rfl,G,lM,dM,hpt,nt,nr,r0,hl,_⟩
  exact SqL.of hl
 ·intro N1 B1 i v L H7 hN1 hv
  rintro ⟨Ms,ts,rs,at',o10,o11,o12,o13,o14,o15,rfl,G,lM,dM,hpt7,nt,nr,r0,hl,h1,h2,h3⟩
  obtain⟨qa,rows,cols,rfl,hqa,er,ec,rb,cb⟩ : ∃ qa rows cols,v=.ref qa/\H7 qa=some (.tup [.int ((rows:Nat):Int),.int ((cols:Nat):Int)])/\rows=dimR n m qn i/\cols=dimC n m qn i/\rows<=10/\cols<=10:=by
   match i,hv with
   | 0,hv=>cases hv;exact(q1,n,n,V,h1,V,V,n10,n10)
   | 1,hv=>cases hv;exact(q2,n,m,V,h2,V,V,n10,m10)
   | 2,hv=>cases hv;exact(q3,qn,n,V,h3,V,V,q10,n10)
  refine(qa,Z,SqT.of hqa,V,_,Z,_,Z,V,?_);refine((),λpto hpto=>?_);have hc7:=G.same _ _ hc;refine(Z,rows,V,(),(),?_);rw[wS]
  let Pv2_:Nat->L2.St->Hp->Prop:=λj L H'=>∃ M ras o13 o14 o15,L=[some (.int k),some (.ref pc),some (.ref pz),some (.ref ps),some (.int (n:Int)),some (.int (m:Int)),some (.int (qn:Int)),some v0,some (.ref pt),some (.int (at':Int)),some (.int (rows:Int)),some (.int (cols:Int)),some (.ref pto),o13,o14,o15]/\Grow H7 H' M ras/\H' pto=some (.lst (ras.map V.ref))/\pto∉ras/\M.length=j/\OkM k cols M/\(∀ r∈M,∀ x∈r,whk k 2 x)
  refine qv (lo:=0) (n:=rows) Pv2_ ([],[],_,_,Z,Grow.nil H7 (zc hpto _),za,by simp,V,λr U=>(nomatch U),λr U=>(nomatch U)) ?_ ?_
  ·intro N2 B2 j L H8 hN2 hj
   rintro ⟨M,ras,o13,o14,o15,rfl,G8,hpt8,npt8,l8,o8,s8⟩
   refine(Z,.inl (V,_,SqL.of hpt8),Z,cols,V,(),(),?_);rw[wS];have ci0:0<=(0 +(j:Int)) *(cols:Int):=wbB () ()
   let Pv3_:Nat->List V->Hp->Prop:=λl ys' H9=>∃ xs,Same H8 H9/\Paired (RN H9) xs ys'/\xs.length=l/\OkR k xs/\∀ x∈xs,whk k 2 x
   refine zO (lo:=0) (n:=cols) Pv3_ ([],Same.refl _,.nil,V,λx D=>(nomatch D),λx D=>(nomatch D)) ?_ ?_ ?_
   ·rintro l ys' H9 hl' ⟨xs,g9,pr9,lx,_⟩
    have:=zd pr9;omega
   ·rintro l ys' H9 hl' ⟨xs,g9,pr9,lx,ox,sx⟩
    have hc9:H9 pc=some (.lst (cs.map V.int)):=g9 _ _ (G8.same _ _ hc7)
    symm
    refine(Z,Z,Z,Z,Z,_,Z,V,yZ () (),_,Z,V,Z,_,Z,V,k,pc,cs,((at':Int) +(0 +(j:Int)) *(cols:Int) +(0 +(l:Int))).toNat,Z,(),J,hc9,ne,λx v' H10 g10 xr xo xs2=>?_);refine nxt hl' (xs++[x],g9.trans g10,zy (zW g10 pr9) xr,by rw[wD,lx];rfl,λy hy=>?_,λy hy=>?_)
    ·rcases wq.mp hy with h|h
     ·exact ox y h
     ·rw[wp.mp h];exact xo
    ·rcases wq.mp hy with h|h
     ·exact sx y h
     ·rw[wp.mp h];exact xs2
   ·rintro ys' H9 ⟨xs,g9,pr9,lx,ox,sx⟩ pn hpn
    have npn:pto≠pn:=λe=>by rw[← e,g9 _ _ hpt8]at hpn;cases hpn
    refine(pto,_,Z,V,(by rw[zE npn];exact g9 _ _ hpt8),?_,?_)
    ·have:=zd G8.rows;rw[wc];omega
    obtain⟨G9,nm9⟩:=G8.push (zs':=(ras.map V.ref)++[.ref pn]) hpto hpt8 npt8 g9 hpn pr9;refine hN2 _ _ (M++[xs],ras++[pn],_,_,Z,G9,?_,nm9,by rw[wD,l8];rfl,λy hy=>?_,λy hy=>?_)
    ·rw[za,wx];rfl
    ·rcases wq.mp hy with h|h
     ·exact o8 y h
     ·rw[wp.mp h];exact(lx,ox)
    ·rcases wq.mp hy with h|h
     ·exact s8 y h
     ·rw[wp.mp h];exact sx
  ·rintro L H8 ⟨M,ras,o13,o14,o15,rfl,G8,hpt8,npt8,l8,o8,s8⟩
   have g8:=G8.same;have hptb:H8 pt=some (.lst (ts.map V.ref)):=g8 _ _ hpt7;have N8:NewT H7 H8 M pto ras:=((hpt8,G8.rows),hpto,G8.fr,G8.nd,npt8);have lts:=G.lt;have hi3:i<3:=(wu.mp hv).1;refine(Z,.inl (V,_,SqL.of hptb),Z,pt,_,Z,V,hptb,(by rw[wc];omega),?_);have nt8:pt≠pto:=λe=>by have:=hpto;rw[← e,hpt7]at this;cases this
   have nr8:pt∉ras:=λhm=>by have:=G8.fr _ hm;rw[hpt7]at this;cases this
   have nts:pt∉ts++[pto]:=λhm=>by
    rcases wq.mp hm with h|h
    ·exact nt h
    ·exact nt8 (wp.mp h)
   have nrs:∀ x∈rs++[ras],pt∉x:=λx hm=>by
    rcases wq.mp hm with h|h
    ·exact nr x h
    ·rw[wp.mp h];exact nr8
   have G9:=(G.push g8 N8).updAt (zs':=(ts.map V.ref)++[.ref pto]) ptH hptb nts nrs;refine(Z,Z,Z,_,Z,V,yZ () (),_,Z,V,hN1 _ _ (Ms++[M],ts++[pto],rs++[ras],at'+rows*cols,some (.int (rows:Int)),some (.int (cols:Int)),some (.ref pto),o13,o14,o15,?_,G9,by rw[wD,lM];rfl,λj M' hj=>?_,by rw[za,wx];rfl,nts,nrs,(r0.mono g8).upd hptb,by rw[zE npl];exact g8 _ _ hl,by rw[zE nq1];exact g8 _ _ h1,by rw[zE nq2];exact g8 _ _ h2,by rw[zE nq3];exact g8 _ _ h3))
   ·rw[show((at'+rows*cols:Nat):Int) =(at':Int) +(rows:Int) *(cols:Int) by rw[Int.natCast_add,gP]]
    rfl
   ·rcases wJ j Ms.length with h|h
    ·rw[vm h]at hj;exact dM j M' hj
    ·have e:j=Ms.length:=by
      have:=(wu.mp hj).1;simp at this;omega
     subst e;rw[vd (wv _),uD]at hj;cases hj;rw[lM,← er,← ec];exact(l8,o8,s8)
 rintro L H7 ⟨Ms,ts,rs,at',o10,o11,o12,o13,o14,o15,rfl,G,lM,dM,hpt7,nt,nr,r0,_⟩
 obtain⟨A,B,bF,rfl⟩ : ∃ A B bF,Ms=[A,B,bF]:=by
  match Ms,lM with
  | [A,B,bF],_=>exact(A,B,bF,V)
 have tA:TW k n n 2 A:=dM 0 A rfl;have tB:TW k n m 2 B:=dM 1 B rfl;have tC:TW k qn n 2 bF:=dM 2 bF rfl;obtain⟨ta,tb,tc,rfl⟩ : ∃ ta tb tc,ts=[ta,tb,tc]:=by
  match ts,G.lt with
  | [ta,tb,tc],_=>exact(ta,tb,tc,V)
 clear dM lM e4 f1 f2 f3 hpt6 npl nq1 nq2 nq3 r6 gH6;have z0:(nnum k 0).ok k:=zm J 0;have zs:whk k 2 (nnum k 0):=λ_=>(0,V,())
 refine(Z,n,V,(),(),?_);rw[wS]
 let Pv4_:Nat->L2.St->Hp->Prop:=λi L H'=>∃ A B bF rs o10 o11 o12 o13 o14 o15,L=[some (.int k),some (.ref pc),some (.ref pz),some (.ref ps),some (.int (n:Int)),some (.int (m:Int)),some (.int (qn:Int)),some v0,some (.ref pt),some (.int (at':Int)),o10,o11,o12,o13,o14,o15]/\kai H H' [A,B,bF] [ta,tb,tc] rs/\TW k n n 2 A/\TW k n m 2 B/\TW k qn n 2 bF/\H' pt=some (.lst [.ref ta,.ref tb,.ref tc])/\(∀ ras∈rs,pt∉ras)/\RN H' (nnum k 0) v0
 refine qv (lo:=0) (n:=n) Pv4_ (A,B,bF,rs,_,_,_,_,_,Z,G,tA,tB,tC,hpt7,nr,r0) ?_ ?_
 ·clear G tA tB tC hpt7 nr r0;intro N4 B4 i L H8 hN4 hi
  rintro ⟨A,B,bF,rs,o10,o11,o12,o13,o14,o15,rfl,G,tA,tB,tC,hpt8,nr,r0⟩
  have hss:(ss.map V.int)[i]?=some (.int ss[i]):=by rw[wk,wa ()];rfl
  refine(Z,n,V,(),(),?_);rw[wS]
  let Pv5_:Nat->L2.St->Hp->Prop:=λj L H'=>∃ A o14 o15,L=[some (.int k),some (.ref pc),some (.ref pz),some (.ref ps),some (.int (n:Int)),some (.int (m:Int)),some (.int (qn:Int)),some v0,some (.ref pt),some (.int (at':Int)),o10,o11,o12,some (.int (0 +(i:Int))),o14,o15]/\kai H H' [A,B,bF] [ta,tb,tc] rs/\TW k n n 2 A/\H' pt=some (.lst [.ref ta,.ref tb,.ref tc])/\RN H' (nnum k 0) v0
  refine qv (lo:=0) (n:=n) Pv5_ (A,_,Z,G,tA,hpt8,r0) ?_ ?_
  ·clear G tA hpt8 r0;intro N5 B5 j L H9 hN5 hj
   rintro ⟨A,o14,o15,rfl,G,tA,hpt9,r0⟩
   have hs9:=G.same _ _ hs;have hsj:(ss.map V.int)[j]?=some (.int ss[j]):=by rw[wk,wa ()];rfl
   refine(Z,Z,ps,_,_,Z,V,SqL.of hs9,(by rw[vB];exact zk hss),Z,Z,ps,_,_,Z,V,SqL.of hs9,(by rw[vB];exact zk hsj),_,Z,λcb=>(Z,?_));refine ite2 (λcc=>?_) (λcc=>?_)
   ·obtain⟨M',t',ras,e1,e2,e3,hT⟩:=G.get (i:=0) (by simp);cases e1;cases e2;have lra:=zd hT.2;rw[tA.len]at lra;have hi':ras[i]?=some ras[i]:=wa ();obtain⟨row,hrow,hR⟩:=zG hT.2 hi';obtain⟨us,hu,pu,lu⟩:=hR.len;have orow:=tA.ok row (wg hrow);have nra:ras[i]≠pt:=λe=>nr ras (wg e3) (by rw[← e];exact wj _)
    refine(Z,Z,pt,_,_,Z,V,SqL.of hpt9,zk (j:=0) rfl,Z,ta,_,_,Z,V,SqL.of hT.1,(by rw[vB];exact zk (by rw[wk,hi'];rfl)),Z,ras[i],us,_,j,V,V,hu,(by rw[vB];exact xa (by rw[lu,orow.1];exact hj)),?_);refine hN5 _ _ (A.set i (row.set j (nnum k 0)),_,Z,G.setRow (i:=0) rfl e3 hi' hu (jN pu j r0),tA.set (by rw[vv];exact orow.1) (λx D=>?_) (λx D=>?_),by rw[zE (Ne.symm nra)];exact hpt9,r0.upd hu)
    ·rcases zL D with e|e
     ·rw[e];exact z0
     ·exact orow.2 x e
    ·rcases zL D with e|e
     ·rw[e];exact zs
     ·exact tA.sz row (wg hrow) x e
   ·exact hN5 _ _ (A,_,Z,G,tA,hpt9,r0)
  clear G tA hpt8 r0
  rintro L H9 ⟨A,o14,o15,rfl,G,tA,hpt9,r0⟩
  have hs9:=G.same _ _ hs
  try dsimp only
  let Pv6_:L2.St->Hp->Prop:=λL H'=>∃ B rs o14,L=[some (.int k),some (.ref pc),some (.ref pz),some (.ref ps),some (.int (n:Int)),some (.int (m:Int)),some (.int (qn:Int)),some v0,some (.ref pt),some (.int (at':Int)),o10,o11,o12,some (.int (0 +(i:Int))),o14,o15]/\kai H H' [A,B,bF] [ta,tb,tc] rs/\TW k n m 2 B/\H' pt=some (.lst [.ref ta,.ref tb,.ref tc])/\(∀ ras∈rs,pt∉ras)/\RN H' (nnum k 0) v0
  refine jb Pv6_ ?_ ?_
  rotate_left
  ·intro hN;refine(Z,Z,ps,_,_,Z,V,SqL.of hs9,(by rw[vB];exact zk hss),_,Z,V,Z,?_);refine ite2 (λcc=>?_) (λcc=>?_)
   ·refine(Z,m,V,(),(),?_);rw[wS];refine zO (lo:=0) (n:=m) (λl ys' H'=>H'=H9/\ys'=wK l v0) (V,V) ?_ ?_ ?_
    ·rintro l ys' H' hl' ⟨rfl,rfl⟩
     rw[vf];omega
    ·rintro l ys' H' hl' ⟨rfl,rfl⟩
     symm
     exact(Z,nxt hl' (V,by rw[uZ]))
    ·rintro ys' H' ⟨rfl,rfl⟩ pn hpn
     have g10:=zc hpn (.lst (wK m v0));have R10:kag (upd H' pn (.lst (wK m v0))) (wK m (nnum k 0)) pn:=(_,za,JB (r0.mono g10) m);have G10:=G.mono g10;have hpt10:=g10 _ _ hpt9;have npn:pn∉[ta,tb,tc]:=λhm=>by obtain⟨o,ho⟩:=G.tsome hm;rw[hpn]at ho;cases ho
     have nrn:∀ ras∈rs,pn∉ras:=λras U hm=>by obtain⟨o,ho⟩:=G.rsome U hm;rw[hpn]at ho;cases ho
     have fpn:H pn=none:=G.same.none hpn;have r10:=r0.mono g10;have ptn:pt≠pn:=λe=>by rw[← e,hpt9]at hpn;cases hpn
     generalize upd H' pn (.lst (wK m v0))=H10 at *;obtain⟨M',t',ras,e1,e2,e3,hT⟩:=G10.get (i:=1) (by simp);cases e1;cases e2;have lra:=zd hT.2;rw[tB.len]at lra;have hi':i<ras.length:=by omega
     refine(Z,pt,_,_,Z,V,SqL.of hpt10,zk (j:=1) rfl,Z,tb,_,_,i,V,V,hT.1,(by rw[vB];exact xa (by rw[wc];exact hi')),?_);have G11:=G10.setSlot (i:=1) (j:=i) rfl rfl e3 hi' R10 fpn npn nrn;rw[wba]at G11;have ntb:pt≠tb:=λe=>nt (by rw[e];simp)
     refine hN _ _ (B.set i (wK m (nnum k 0)),rs.set 1 (ras.set i pn),Z,G11,tB.set (by rw[vf]) (λx D=>by rw[vQ D];exact z0) (λx D=>by rw[vQ D];exact zs),by rw[zE ntb];exact hpt10,λx D hm=>?_,r10.upd hT.1)
     rcases zL D with e|e
     ·rw[e]at hm
      rcases zL hm with e'|e'
      ·exact ptn e'
      ·exact nr ras (wg e3) e'
     ·exact nr x e hm
   ·exact hN _ _ (B,rs,Z,G,tB,hpt9,nr,r0)
  clear G tB hpt9 nr r0 hs9
  rintro L H10 ⟨B,rs,o14,rfl,G,tB,hpt10,nr,r0⟩
  have hs10:=G.same _ _ hs;refine(Z,Z,ps,_,_,Z,V,SqL.of hs10,(by rw[vB];exact zk hss),_,Z,V,(by show(2:Int)≠0;decide),V,Z,?_);refine ite2 (λcc=>?_) (λcc=>?_)
  ·obtain⟨M',t',ras,e1,e2,e3,hT⟩:=G.get (i:=2) (by simp);cases e1;cases e2;have lra:=zd hT.2;rw[tC.len]at lra;refine(Z,pt,_,_,Z,V,SqL.of hpt10,zk (j:=2) rfl,tc,V,(_,SqL.of hT.1),?_)
   let Pv7_:Nat->L2.St->Hp->Prop:=λl L H'=>∃ bF o15,L=[some (.int k),some (.ref pc),some (.ref pz),some (.ref ps),some (.int (n:Int)),some (.int (m:Int)),some (.int (qn:Int)),some v0,some (.ref pt),some (.int (at':Int)),o10,o11,o12,some (.int (0 +(i:Int))),o14,o15]/\kai H H' [A,B,bF] [ta,tb,tc] rs/\TW k qn n 2 bF/\H' pt=some (.lst [.ref ta,.ref tb,.ref tc])/\RN H' (nnum k 0) v0
   refine XQ (xs:=ras.map V.ref) Pv7_ (bF,Z,G,tC,hpt10,r0) ?_ ?_ ?_
   ·rintro l L H' _ ⟨bF,o15,rfl,G,_⟩
    exact SqL.of (G.tabs 2 bF tc ras rfl rfl e3).1
   ·clear G tC hpt10 r0 hT;intro N6 B6 l v L H' hN6 hv
    rintro ⟨bF,o15,rfl,G,tC,hptl,r0⟩
    have hT:=G.tabs 2 bF tc ras rfl rfl e3;obtain⟨row,ar,hrow,har,rfl,hR⟩:=hT.row hv;obtain⟨us,hu,pu,lu⟩:=hR.len;have orow:=tC.ok row (wg hrow);have nra:ar≠pt:=λe=>nr ras (wg e3) (by rw[← e];exact wg har)
    refine(Z,Z,Z,ar,us,_,i,V,V,hu,(by rw[vB];exact xa (by rw[lu,orow.1];exact hi)),?_);refine hN6 _ _ (bF.set l (row.set i (nnum k 0)),Z,G.setRow (i:=2) rfl e3 har hu (jN pu i r0),tC.set (by rw[vv];exact orow.1) (λx D=>?_) (λx D=>?_),by rw[zE (Ne.symm nra)];exact hptl,r0.upd hu)
    ·rcases zL D with e|e
     ·rw[e];exact z0
     ·exact orow.2 x e
    ·rcases zL D with e|e
     ·rw[e];exact zs
     ·exact tC.sz row (wg hrow) x e
   ·rintro L H' ⟨bF,o15,rfl,G,tC,hptl,r0⟩
    exact hN4 _ _ (A,B,bF,rs,_,_,_,_,_,Z,G,tA,tB,tC,hptl,nr,r0)
  ·exact hN4 _ _ (A,B,bF,rs,_,_,_,_,_,Z,G,tA,tB,tC,hpt10,nr,r0)
 ·rintro L H8 ⟨A,B,bF,rs,o10,o11,o12,o13,o14,o15,rfl,G,tA,tB,tC,hpt8,nr,r0⟩
  refine(Z,Z,(),λpr hpr=>?_);have g9:=zc hpr (.tup [.ref pt,.int (at':Int)]);exact q A B bF pt pr [ta,tb,tc] rs at' _ (G.mono g9) tA tB tC (g9 _ _ hpt8) ptH nt nr za
def YT(ox:x.ok k)(oy:y.ok k)(sx:szk k m x)(sy:szk k n y):szk k (m+n+1) (nsub k x y):=λk0=>by
 rcases xx ox oy with⟨_,r,s,rfl,rfl⟩|⟨h,_⟩
 ·have D:=sx k0;have hy:=sy k0;show Sm _ (r - s).num/\Sm _ ((r - s).den:Int);rw[← JX];obtain⟨h1,h2⟩:=yS (yL r s) ((D.1.mul hy.2).sub ((hy.1.mul D.2).mono ())) (D.2.mul hy.2);exact(h1,h2.mono (Gz _))
 ·exact bw k0 h
def zeZ{α:Type}{l:List α}{x:α}(h:l[i]?=some x):l.set i x=l:=by
 refine Gm λj=>?_
 rw[vF]
 by_cases e:i=j
 ·subst e;rw[bj rfl,bj (wu.mp h).1,h]
 ·rw[bn e]
def TWs(k:Int)(n m q:Nat)(f:Nat->Nat)(Ms:List (TB)):Prop:=Ms.length=3/\∀ I M,Ms[I]?=some M->TW k (dimR n m q I) (dimC n m q I) (f I) M
def TWs.up(h:TWs k n m q f Ms)(hf:∀ I,f I<=g I):TWs k n m q g Ms:=(h.1,λI M hM=>(h.2 I M hM).up (hf I))
def TWs.set(h:TWs k n m q f Ms)(hM:TW k (dimR n m q bz) (dimC n m q bz) (g bz) M')(hf:∀ I,I≠bz->f I<=g I):TWs k n m q g (Ms.set bz M'):=by
 refine(by rw[vv];exact h.1,λI M e=>?_)
 by_cases c:I=bz
 ·subst c;have hl:I<Ms.length:=by have:=(wu.mp e).1;rw[vv]at this;exact this
  rw[vF,bj rfl,bj hl]at e;cases e;exact hM
 ·rw[vF,bn (Ne.symm c)]at e;exact(h.2 I M e).up (hf I c)
inductive zaB:Sp
 | mk:∀ k c Ms H0 ts pt rs n m q z,vs=[.int k,.ref pt,.int c]->kab k->kai H0 H Ms ts rs->TWs k n m q (λ_=>z) Ms->H pt=some (.lst (ts.map V.ref))->(∀ ras∈rs,pt∉ras)->pt∉ts->1<=n->n<=10->m<=10->q<=10->z<=1000->(∀ Ms' rs' H',kai H0 H' Ms' ts rs'->TWs k n m q (λ_=>z+6) Ms'->H' pt=some (.lst (ts.map V.ref))->(∀ ras∈rs',pt∉ras)->Q .non H')->zaB vs H Q E_
def pick3(h0:0<=m)(h1:m<3):∃ w:Int,atI [V.int 1,V.int (-1),V.int 2] m=some (.int w)/\(w=1\/w = -1\/w=2):=by
 rcases (show m=0\/m=1\/m=2 by omega)with rfl|rfl|rfl
 ·exact(1,V,by simp)
 ·exact(-1,V,by simp)
 ·exact(2,V,by simp)
def zeY:KnI pg 87 44 zaB:=by
 exists 87,ze,zT,zT,ya,ze,zhH 3 rfl,zj,[0,6],ze,ze,ji,yD,zj,zj,xB,ze,yD,ze
 obtain⟨k,c,Ms,H0,ts,pt,rs,n,m,qn,z,rfl,J,G,tM,hpt,nr,nt,n1,n10,m10,q10,z1000,q⟩:=h;have szl:=sh
 have kl:=J.lt;have lM3:=tM.1;obtain⟨ta,tb,tc,rfl⟩ : ∃ ta tb tc,ts=[ta,tb,tc]:=by
  match ts,(G.lt.trans lM3)with
  | [ta,tb,tc],_=>exact(ta,tb,tc,V)
 obtain⟨M0,t0,ra,e1,e2,ea,hTa⟩:=G.get (i:=0) ();cases e2;have lra:=zd hTa.2;rw[(tM.2 0 M0 e1).len]at lra;replace lra:n=ra.length:=lra;refine(Z,pt,_,_,.ref ta,V,V,SqL.of hpt,zk (j:=0) rfl,ta,Z,.inl (SqL.of hTa.1),?_);rw[wc,← lra];refine(Z,Z,_,Z,V,(by show(n:Int)≠0;omega),?_);have i0:=wI c (show(0:Int) <(n:Int) by omega);have i1:=wW c (show(0:Int) <(n:Int) by omega)
 try dsimp only
 generalize c.fmod (n:Int)=iI at *;obtain⟨i,rfl⟩:=Gb i0;have hi:i<n:=by omega
 clear hTa ea lra e1;refine(Z,_,Z,V,Z,?_);refine ite2 (λcn=>?_) (λcn=>?_)
 rotate_left
 ·exact q Ms rs H G (tM.up λ_=>by omega) hpt nr
 have n2:(1:Int) <(n:Int):=bt cn;refine(Z,_,Z,V,Z,_,Z,V,(by show(5:Int)≠0;decide),Z,_,Z,V,_,Z,V,(by show(n:Int) - 1≠0;omega),_,Z,V,Z,_,Z,V,(by show(n:Int)≠0;omega),?_)
 try dsimp only
 have j0:=wI ((i:Int)+1 +(c.fdiv 5).fmod ((n:Int) - 1)) (show(0:Int) <(n:Int) by omega);have j1:=wW ((i:Int)+1 +(c.fdiv 5).fmod ((n:Int) - 1)) (show(0:Int) <(n:Int) by omega);generalize ((i:Int)+1 +(c.fdiv 5).fmod ((n:Int) - 1)).fmod (n:Int)=jI at *;obtain⟨j,rfl⟩:=Gb j0;have hj:j<n:=by omega
 refine(Z,Z,(),λp3 hp3=>?_);obtain⟨w3,ew,hw⟩:=pick3 (wI (c.fdiv 20) (show(0:Int)<3 by decide)) (wW (c.fdiv 20) (show(0:Int)<3 by decide));have g3:=zc hp3 (.lst [V.int 1,V.int (-1),V.int 2]);refine(Z,_,Z,V,(by show(20:Int)≠0;decide),_,Z,V,(by show(3:Int)≠0;decide),p3,_,_,.int w3,V,V,SqL.of za,ew,k,w3,V,J,λvc H4 g4 rc=>?_);have g34:=g3.trans g4;generalize upd H p3 (.lst [V.int 1,V.int (-1),V.int 2])=H3 at *;clear hp3 g3 g4 ew;have sw:whk k 2 (nnum k w3):=λk0=>(w3,V,by
  have:(2:Nat)^2=4:=by decide
  omega)
 try dsimp only
 let Pv1_:L2.St->Hp->Prop:=λL H'=>∃ x v o7 o8 o9 o10 o11,L=[some (.int k),some (.ref pt),some (.int c),some (.int (n:Int)),some (.int (i:Int)),some (.int (j:Int)),some v,o7,o8,o9,o10,o11]/\x.ok k/\whk k 2 x/\RN H' x v/\H'=H4
 refine jb Pv1_ ?_ ?_
 rotate_left
 ·intro hN;refine(Z,_,Z,V,Z,?_);refine ite2 (λck=>?_) (λck=>?_)
  ·have k0:0<k:=bt ck;exact(Z,_,Z,V,(by show(20:Int)≠0;decide),Z,_,Z,V,(show k≠0 by omega),hN _ _ (.z _,_,_,_,_,_,Z,((),wI _ k0,wW _ k0),λe=>by omega,RN.of_z,V))
  ·exact hN _ _ (nnum k w3,vc,_,_,_,_,Z,zm J w3,sw,rc,V)
 clear rc sw hw
 rintro L H4' ⟨x,vc,o7,o8,o9,o10,o11,rfl,ox,sx,rc,rfl⟩
 replace G:=G.mono g34;replace hpt:=g34 _ _ hpt;clear g34;refine(Z,pt,Z,SqL.of hpt,V,_,Z,_,Z,_,Z,V,?_);refine(Z,Z,(),λpl hpl=>?_);have g5:=zc hpl (.lst [.ref ta,.ref tb]);have hl5:upd H4' pl (.lst [.ref ta,.ref tb]) pl=some (.lst [.ref ta,.ref tb]):=za;have nlt:pl∉[ta,tb,tc]:=λhm=>by obtain⟨o,ho⟩:=G.tsome hm;rw[hpl]at ho;cases ho
 have nlr:∀ ras∈rs,pl∉ras:=λras U hm=>by obtain⟨o,ho⟩:=G.rsome U hm;rw[hpl]at ho;cases ho
 replace G:=G.mono g5;replace hpt:=g5 _ _ hpt;replace rc:=rc.mono g5;generalize upd H4' pl (.lst [.ref ta,.ref tb])=H5 at *;clear g5 hpl;refine(pl,V,(_,SqL.of hl5),?_)
 let Pv2_:Nat->L2.St->Hp->Prop:=λl L H'=>∃ Ms rs o10 o11,L=[some (.int k),some (.ref pt),some (.int c),some (.int (n:Int)),some (.int (i:Int)),some (.int (j:Int)),some vc,some (.ref ta),some (.ref tb),some (.ref tc),o10,o11]/\kai H0 H' Ms [ta,tb,tc] rs/\TWs k n m qn (λI=>if I<l then z+3 else z) Ms/\H' pt=some (.lst [.ref ta,.ref tb,.ref tc])/\(∀ ras∈rs,pt∉ras)/\H' pl=some (.lst [.ref ta,.ref tb])/\(∀ ras∈rs,pl∉ras)/\RN H' x vc
 refine yl (xs:=[.ref ta,.ref tb]) Pv2_ (Ms,rs,_,Z,G,tM.up λI=>by rw[bn (ue I)];exact wv _,hpt,nr,hl5,nlr,rc) ?_ ?_ ?_
 ·rintro l L H' _ ⟨Ms,rs,o10,o11,rfl,_,_,_,_,hl',_⟩
  exact SqL.of hl'
 ·clear G tM hpt nr hl5 nlr rc lM3
  rintro l v L H6 hv ⟨Ms,rs,o10,o11,rfl,G,tM,hpt,nr,hl6,nlr,rc⟩
  have l2:l<2:=(wu.mp hv).1;obtain⟨t,rfl,ht⟩ : ∃ t,v=.ref t/\[ta,tb,tc][l]?=some t:=by
   match l,hv with
   | 0,hv=>cases hv;exact(ta,V,V)
   | 1,hv=>cases hv;exact(tb,V,V)
  obtain⟨M,t',ras,eM,e2,er,hT⟩:=G.get (i:=l) (by rw[tM.1];omega);rw[ht]at e2;cases e2;have tk:TW k (dimR n m qn l) (dimC n m qn l) z M:=by
   have h:=tM.2 l M eM
   dsimp only at h
   rw[bn (vY l)]at h;exact h
  have dn:dimR n m qn l=n:=by unfold dimR;rw[bn ()]
  have cc10:dimC n m qn l<=10:=by unfold dimC;split <;> omega
  have lras:=zd hT.2;rw[tk.len,dn]at lras;have ei:ras[i]?=some ras[i]:=wa ();have ej:ras[j]?=some ras[j]:=wa ();obtain⟨xi,hxi,ri⟩:=zG hT.2 ei;obtain⟨xj,hxj,rj⟩:=zG hT.2 ej;obtain⟨ui,hui,pui,lui⟩:=ri.len;obtain⟨uj,huj,puj,luj⟩:=rj.len;have oi:=tk.ok xi (wg hxi);have oj:=tk.ok xj (wg hxj);have si:=tk.sz xi (wg hxi);have sj:=tk.sz xj (wg hxj);have ll:xi.length=xj.length:=by rw[oi.1,oj.1]
  refine(Z,Z,t,_,_,.ref ras[i],V,V,SqL.of hT.1,zk (by rw[wk,ei];rfl),Z,Z,t,_,_,.ref ras[j],V,V,SqL.of hT.1,zk (by rw[wk,ej];rfl),ras[i],ras[j],ui,uj,V,SqL.of hui,SqL.of huj,?_)
  let Pv3_:Nat->List V->Hp->Prop:=λe ys H'=>Same H6 H'/\Paired (RN H') ((vK (λa b=>nadd k a (nmul k x b)) xi xj).take e) ys
  refine xu (xs:=ui) (zs:=uj) (by rw[lui,luj];exact ll) Pv3_ (Same.refl _,.nil) ?_ ?_ ?_
  ·rintro e ys H' he ⟨g,pr⟩
   refine(SqL.of (g _ _ hui),SqL.of (g _ _ huj),?_);have:=zd pr;rw[wr]at this;rw[lui,oi.1]at he;omega
  ·rintro e a b T ys H' ha hb he hTn ⟨g,pr⟩
   have g':=g.trans (zc hTn (.tup [a,b]));obtain⟨na,ena,rna⟩:=zG pui ha;obtain⟨nb,enb,rnb⟩:=zG puj hb;have oa:=oi.2 na (wg ena);have ob:=oj.2 nb (wg enb);have sa:=si na (wg ena);have sb:=sj nb (wg enb);have om:=zY J ox ob;have sm:=Xr ox ob sx sb;have pr':=zW (zc hTn (.tup [a,b])) pr;refine(T,Z,SqT.of za,V,_,Z,_,Z,V,?_);generalize upd H' T (.tup [a,b])=H7 at *
   symm
   refine(Z,Z,Z,Z,Z,k,x,nb,_,Z,(J,ox,ob,sx.nsm J ox () (),sb.nsm J ob () (),rc.mono g',rnb.mono g'),λv8 H8 g8 r8=>?_);refine(k,na,_,_,Z,(J,oa,om,sa.nsm J oa () (),sm.nsm J om () (),(rna.mono g').mono g8,r8),λv9 H9 g9 r9=>nxt he ((g'.trans g8).trans g9,?_));have ez:(vK (λa b=>nadd k a (nmul k x b)) xi xj)[e]?=some (nadd k na (nmul k x nb)):=by rw[vL,ena,enb]
   rw[zf ez];exact zy (zW (g8.trans g9) pr') r9
  rintro ys H7 ⟨g7,pr⟩ pn hpn
  rw[lui,wo (by rw[wO];omega)]at pr;generalize ez:vK (λa b=>nadd k a (nmul k x b)) xi xj=xz at *;have memz:∀ y∈xz,y.ok k/\whk k (z+3) y:=λy hy=>by
   rw[← ez]at hy;obtain⟨e,he,rfl⟩:=wy hy;rw[vJ];rw[wO]at he;have oa:=oi.2 _ (wj (show e<xi.length by omega));have ob:=oj.2 _ (wj (show e<xj.length by omega));have sa:=si _ (wj (show e<xi.length by omega));have sb:=sj _ (wj (show e<xj.length by omega));exact(yk J oa (zY J ox ob),(zap oa (zY J ox ob) sa (Xr ox ob sx sb)).mono ())
  have lz:xz.length=dimC n m qn l:=by rw[← ez,wO,← ll,oi.1];omega
  have g8:=zc hpn (.lst ys);have R8:kag (upd H7 pn (.lst ys)) xz pn:=(ys,za,zW g8 pr);have G7:=G.mono g7;have npn:pn∉[ta,tb,tc]:=λhm=>by obtain⟨o,ho⟩:=G7.tsome hm;rw[hpn]at ho;cases ho
  have nrn:∀ ras∈rs,pn∉ras:=λras U hm=>by obtain⟨o,ho⟩:=G7.rsome U hm;rw[hpn]at ho;cases ho
  have fpn:H0 pn=none:=G7.same.none hpn;have ptn:pt≠pn:=λe=>by rw[← e,g7 _ _ hpt]at hpn;cases hpn
  have pln:pl≠pn:=λe=>by rw[← e,g7 _ _ hl6]at hpn;cases hpn
  have G8:=G7.mono g8;have g78:=g7.trans g8;generalize upd H7 pn (.lst ys)=H8 at *;have hT8:=hT.mono g78;have tm:=wg ht;have ptt:pt≠t:=λe=>nt (by rw[e];exact tm)
  have plt:pl≠t:=λe=>nlt (by rw[e];exact tm)
  refine(Z,Z,t,_,_,i,V,V,hT8.1,xa (by rw[wc];omega),?_);have G9:=G8.setSlot (i:=l) (j:=i) eM ht er () R8 fpn npn nrn;rw[wba]at G9;have away:∀ p,p≠pn->(∀ ras∈rs,p∉ras)->∀ x'∈rs.set l (ras.set i pn),p∉x':=λp C U x' hx' hm=>by
   rcases zL hx' with e|e
   ·rw[e]at hm
    rcases zL hm with e'|e'
    ·exact C e'
    ·exact U ras (wg er) e'
   ·exact U x' e hm
  refine(Ms.set l (M.set i xz),rs.set l (ras.set i pn),_,Z,G9,tM.set (g:=λI=>if I<l+1 then z+3 else z) ?_ (λI hI=>?_),by rw[zE ptt];exact g78 _ _ hpt,away pt ptn nr,by rw[zE plt];exact g78 _ _ hl6,away pl pln nlr,(rc.mono g78).upd hT8.1)
  ·rw[bj (uO l)];exact(tk.up (show z<=z+3 by omega)).set lz (λy hy=>(memz y hy).1) (λy hy=>(memz y hy).2)
  ·by_cases c1:I<l
   ·rw[bj c1,bj ()];exact wv _
   ·rw[bn c1,bn ()];exact wv _
 clear G tM hpt nr hl5 nlr rc nlt
 rintro L H6 ⟨Ms,rs,o10,o11,rfl,G,tM0,hpt,nr,_,_,rc⟩
 have tM:TWs k n m qn (λ_=>z+3) Ms:=tM0.up λI=>by split <;> omega
 clear tM0;refine(Z,Z,(),λpl hpl=>?_);have g5:=zc hpl (.lst [.ref ta,.ref tc]);have hl5:upd H6 pl (.lst [.ref ta,.ref tc]) pl=some (.lst [.ref ta,.ref tc]):=za;have nlr:∀ ras∈rs,pl∉ras:=λras U hm=>by obtain⟨o,ho⟩:=G.rsome U hm;rw[hpl]at ho;cases ho
 replace G:=G.mono g5;replace hpt:=g5 _ _ hpt;replace rc:=rc.mono g5;generalize upd H6 pl (.lst [.ref ta,.ref tc])=H7 at *;clear g5 hpl;refine(pl,V,(_,SqL.of hl5),?_)
 let Pv4_:Nat->L2.St->Hp->Prop:=λl L H'=>∃ Ms o10 o11,L=[some (.int k),some (.ref pt),some (.int c),some (.int (n:Int)),some (.int (i:Int)),some (.int (j:Int)),some vc,some (.ref ta),some (.ref tb),some (.ref tc),o10,o11]/\kai H0 H' Ms [ta,tb,tc] rs/\TWs k n m qn (λI=>if I<2*l then z+6 else z+3) Ms/\H' pt=some (.lst [.ref ta,.ref tb,.ref tc])/\H' pl=some (.lst [.ref ta,.ref tc])/\RN H' x vc
 refine yl (xs:=[.ref ta,.ref tc]) Pv4_ (Ms,_,Z,G,tM.up λI=>by rw[bn ()];exact wv _,hpt,hl5,rc) ?_ ?_ ?_
 ·rintro l L H' _ ⟨Ms,o10,o11,rfl,_,_,_,hl',_⟩
  exact SqL.of hl'
 ·clear G tM hpt hl5 rc
  rintro l v L H8 hv ⟨Ms,o10,o11,rfl,G,tM,hpt,hl8,rc⟩
  have l2:l<2:=(wu.mp hv).1;obtain⟨t,rfl,ht⟩ : ∃ t,v=.ref t/\[ta,tb,tc][2*l]?=some t:=by
   match l,hv with
   | 0,hv=>cases hv;exact(ta,V,V)
   | 1,hv=>cases hv;exact(tc,V,V)
  obtain⟨M,t',ras,eM,e2,er,hT⟩:=G.get (i:=2*l) (by rw[tM.1];omega);rw[ht]at e2;cases e2;have tk:TW k (dimR n m qn (2*l)) (dimC n m qn (2*l)) (z+3) M:=by
   have h:=tM.2 (2*l) M eM
   dsimp only at h
   rw[bn (vY (2*l))]at h;exact h
  have cn':dimC n m qn (2*l)=n:=by unfold dimC;rw[bn ()]
  rw[cn']at tk;have lras:=zd hT.2;have rm:=wg er;have lMs:=tM.1;refine(Z,t,V,(_,SqL.of hT.1),?_)
  let Pv5_:Nat->L2.St->Hp->Prop:=λe L H'=>∃ Mc o11,L=[some (.int k),some (.ref pt),some (.int c),some (.int (n:Int)),some (.int (i:Int)),some (.int (j:Int)),some vc,some (.ref ta),some (.ref tb),some (.ref tc),some (.ref t),o11]/\kai H0 H' (Ms.set (2*l) Mc) [ta,tb,tc] rs/\TW k (dimR n m qn (2*l)) n (z+6) Mc/\(∀ e' r,e<=e'->Mc[e']?=some r->∀ y∈r,whk k (z+3) y)/\H' pt=some (.lst [.ref ta,.ref tb,.ref tc])/\H' pl=some (.lst [.ref ta,.ref tc])/\RN H' x vc
  refine yl (xs:=ras.map V.ref) Pv5_ (M,Z,by rw[zeZ eM];exact G,tk.up (),λe' r _ U=>tk.sz r (wg U),hpt,hl8,rc) ?_ ?_ ?_
  ·rintro e L H' _ ⟨Mc,o11,rfl,G',_⟩
   exact SqL.of (G'.tabs (2*l) Mc t ras (by rw[vF,bj rfl,bj ()]) ht er).1
  ·rintro e v L H' hv ⟨Mc,o11,rfl,G',tkc,low,hpt',hl',rc'⟩
   have eMc:(Ms.set (2*l) Mc)[2*l]?=some Mc:=by rw[vF,bj rfl,bj ()]
   have hT':=G'.tabs (2*l) Mc t ras eMc ht er;obtain⟨row,ar,hrow,har,rfl,hR⟩:=hT'.row hv;obtain⟨us,hu,pu,lu⟩:=hR.len;have orow:=tkc.ok row (wg hrow);have srow:=low e row (wv _) hrow;have ei:row[i]?=some row[i]:=wa (by rw[orow.1];exact hi);have ej:row[j]?=some row[j]:=wa (by rw[orow.1];exact hj);obtain⟨vi,hvi,rvi⟩:=zJ pu ei;obtain⟨vj,hvj,rvj⟩:=zJ pu ej;have oi:=orow.2 _ (wg ei);have oj:=orow.2 _ (wg ej);have si:=srow _ (wg ei);have sj:=srow _ (wg ej);have om:=zY J ox oi;have sm:=Xr ox oi sx si;have nap:ar≠pt:=λe=>nr ras rm (by rw[← e];exact wg har)
   have nal:ar≠pl:=λe=>nlr ras rm (by rw[← e];exact wg har)
   refine(Z,Z,Z,ar,_,_,vj,V,V,SqL.of hu,zk hvj,Z,Z,Z,Z,ar,_,_,vi,V,V,SqL.of hu,zk hvi,k,x,row[i],_,Z,(J,ox,oi,sx.nsm J ox () (),si.nsm J oi () (),rc',rvi),λv9 H9 g9 r9=>?_);refine(k,row[j],_,_,Z,J,oj,om,sj.nsm J oj () (),sm.nsm J om () (),rvj.mono g9,r9,λv10 H10 g10 r10=>?_);have g':=g9.trans g10;have hu':=g' _ _ hu;refine(Z,Z,ar,us,_,j,V,V,hu',xa (by rw[lu,orow.1];exact hj),?_);have G10:=(G'.mono g').setRow eMc er har hu' (jN (zW g' pu) j r10);rw[List.set_set]at G10;have lset:∀ y∈row.set j (nsub k row[j] (nmul k x row[i])),y.ok k/\whk k (z+6) y:=λy hy=>by
    rcases zL hy with e|e
    ·rw[e];exact(jf () oj om,(zfi oj om sj sm).mono ())
    ·exact(orow.2 y e,(srow y e).mono ())
   refine(Mc.set e (row.set j (nsub k row[j] (nmul k x row[i]))),Z,G10,tkc.set (by rw[vv];exact orow.1) (λy hy=>(lset y hy).1) (λy hy=>(lset y hy).2),λe' r he' U=>?_,by rw[zE (Ne.symm nap)];exact g' _ _ hpt',by rw[zE (Ne.symm nal)];exact g' _ _ hl',(rc'.mono g').upd hu');rw[vF,bn ()]at U;exact low e' r () U
  ·rintro L H' ⟨Mc,o11,rfl,G',tkc,low,hpt',hl',rc'⟩
   refine(Ms.set (2*l) Mc,_,Z,G',tM.set (g:=λI=>if I<2 *(l+1)then z+6 else z+3) ?_ (λI hI=>?_),hpt',hl',rc')
   ·rw[bj (),cn'];exact tkc
   ·split <;> split <;> omega
 ·rintro L H8 ⟨Ms,o10,o11,rfl,G,tM,hpt,hl8,rc⟩
  exact q Ms rs H8 G (tM.up λI=>by split <;> omega) hpt nr
def zfC(cs:List Int) lo hi:∃ zs:List Int,cutV (cs.map V.int) lo hi=zs.map V.int:=(_,by unfold cutV;rw[wc,← uS,← uq])
inductive ZB:Sp
 | mk:∀(pc pq:Addr)(cs:List Int)(a b:Nat),vs=[.ref pc,.ref pq]->H pc=some (.lst (cs.map V.int))->cs≠[]->cs.length<=1000->H pq=some (.lst [.int (a:Int),.int (b:Int)])->1<=a->a<=3->1<=b->b<=10->(∀ k (n m q at':Nat) A B bF p3 pm ta tb tc ra rb rc H',Same H H'->H' p3=some (.tup [.int k,.ref pm,.int (at':Int)])->kap H' A B bF pm ta tb tc ra rb rc->KindS k->Fit k n->MOk k n m q 80 A B bF->(TW k n n 14 A/\TW k n m 14 B/\TW k q n 14 bF/\((cs.headD 1).fmod 3=0->k=0))->1<=m->m<=2->1<=q->q<=2->n<=a\/n<=b->Q (.ref p3) H')->ZB vs H Q E_
def Qf:KnI pg 88 46 ZB:=by
 exists 88,ze,zcA,zT,ze,zT,zT,yu,Ql,zdo,zi,Zz 2 rfl,zeY,zT,ze,xC,yd,ze,ze,ze,zT
 obtain⟨pc,pq,cs,a,b,rfl,hc,ne,c1000,hq,a1,a3,b1,b10,q⟩:=h;have szl:=sh
 obtain⟨c0,cs',rfl⟩:=gL ne;refine(Z,pc,_,_,Z,V,SqL.of hc,zk rfl,?_);refine(Z,c0,V,λk H1 g1 hs hk0=>?_);have J:=hs.ok;have kl:=J.lt;have hq1:=g1 _ _ hq;obtain⟨mo,emo,mo1,mob⟩ : ∃ mo:Nat,atI [V.int (a:Int),V.int (b:Int)] (if decide (0<k)=true then 1 else 0)=some (.int (mo:Int))/\1<=mo/\((k=0/\mo=a)\/(k≠0/\mo=b)):=by
  by_cases h:0<k
  ·rw[br h];exact(b,V,b1,.inr ((),V))
  ·rw[bq h];exact(a,V,a1,.inl ((),V))
 have n75:(75:Int)≠0:=by decide
 refine(Z,_,Z,V,n75,Z,Z,_,Z,V,.inr (Z,pq,_,_,.int (mo:Int),V,V,SqL.of hq1,emo,_,Z,V,(by show(mo:Int)≠0;omega),_,Z,V,Z,_,Z,V,(by show(375:Int)≠0;decide),_,Z,V,(by show(2:Int)≠0;decide),_,Z,V,Z,_,Z,V,(by show(750:Int)≠0;decide),_,Z,V,(by show(2:Int)≠0;decide),_,Z,V,(),λpz hpz=>?_))
 try dsimp only
 obtain⟨n,en,n1,nm⟩ : ∃ n:Nat,1 +(c0.fdiv 75).fmod (mo:Int) =(n:Int)/\1<=n/\n<=mo:=by
  have f0:=wI (c0.fdiv 75) (show(0:Int) <(mo:Int) by omega);have f1:=wW (c0.fdiv 75) (show(0:Int) <(mo:Int) by omega);exact((1 +(c0.fdiv 75).fmod (mo:Int)).toNat,(),(),())
 obtain⟨m,em,m1,m2⟩ : ∃ m:Nat,1 +(c0.fdiv 375).fmod 2 =(m:Int)/\1<=m/\m<=2:=by
  have f0:=wI (c0.fdiv 375) (show(0:Int)<2 by decide);have f1:=wW (c0.fdiv 375) (show(0:Int)<2 by decide);exact((1 +(c0.fdiv 375).fmod 2).toNat,(),(),())
 obtain⟨qn,eq,q1,q2⟩ : ∃ qn:Nat,1 +(c0.fdiv 750).fmod 2 =(qn:Int)/\1<=qn/\qn<=2:=by
  have f0:=wI (c0.fdiv 750) (show(0:Int)<2 by decide);have f1:=wW (c0.fdiv 750) (show(0:Int)<2 by decide);exact((1 +(c0.fdiv 750).fmod 2).toNat,(),(),())
 rw[en,em,eq]at *;have g2:=zc hpz (.tup [.int (n:Int),.int (m:Int),.int (qn:Int)]);have hz2:upd H1 pz (.tup [.int (n:Int),.int (m:Int),.int (qn:Int)]) pz=some (.tup [.int (n:Int),.int (m:Int),.int (qn:Int)]):=za;generalize upd H1 pz (.tup [.int (n:Int),.int (m:Int),.int (qn:Int)])=H2 at *;have n10:n<=10:=by rcases mob with⟨_,h⟩|⟨_,h⟩ <;> omega
 refine(Z,_,Z,V,(by show(1500:Int)≠0;decide),_,Z,V,(by show(3:Int)≠0;decide),V,?_)
 try dsimp only
 generalize decide (V.int ((c0.fdiv 1500).fmod 3)=V.int 0)=pb;refine(Z,Z,Z,Z,Z,pz,_,_,.int (n:Int),V,V,SqT.of hz2,V,Z,c0,n,pb,V,(),λss ps H3 g3 hs3 lss=>?_);have g13:=(g1.trans g2).trans g3;refine(k,pc,pz,ps,c0::cs',ss,n,m,qn,V,J,g13 _ _ hc,ne,g3 _ _ hz2,hs3,lss,n10,(),(),λA B bF pt pr ts rs at' H4 G tA tB tC hpt ptn nt nr hpr=>?_);refine(pr,Z,SqT.of hpr,V,_,Z,_,Z,V,?_);have T0:TWs k n m qn (λ_=>2) [A,B,bF]:=(V,λI M hM=>by
  match I,hM with
  | 0,hM=>cases hM;exact tA
  | 1,hM=>cases hM;exact tB
  | 2,hM=>cases hM;exact tC)
 clear tA tB tC hpr;refine(2,V,(),(),?_)
 let Pv1_:Nat->L2.St->Hp->Prop:=λl L H'=>∃ Ms rs o8,L=[some (.ref pc),some (.ref pq),some (.int c0),some (.int k),some (.ref pz),some (.bl pb),some (.ref pt),some (.int (at':Int)),o8]/\kai H3 H' Ms ts rs/\TWs k n m qn (λ_=>if l=0 then 2 else if l=1 then 8 else 14) Ms/\H' pt=some (.lst (ts.map V.ref))/\(∀ ras∈rs,pt∉ras)
 refine zS (lo:=0) (n:=2) Pv1_ (_,rs,none,V,G,T0,hpt,nr) ?_ ?_
 ·clear G T0 hpt nr
  rintro l L H5 hl ⟨Ms,rs,o8,rfl,G,T,hpt,nr⟩
  refine(Z,Z,?_);refine ite2 (λcb=>?_) (λcb=>?_)
  ·have hc5:H5 pc=some (.lst ((c0::cs').map V.int)):=G.same _ _ (g13 _ _ hc);refine(Z,Z,Z,Z,Z,pc,Z,SqL.of hc5,λp1 hp1=>?_);obtain⟨zs,ez⟩:=zfC (c0::cs') (some (at':Int)) none;have lzs:zs.length<=1000:=by
    have:(zs.map V.int).length<=((c0::cs').map V.int).length:=by rw[← ez];unfold cutV;rw[wr,vW];omega
    rw[wc,wc]at this;omega
   rw[ez];refine((),λp2 hp2=>?_);have n12:p1≠p2:=λe=>by rw[e,za]at hp2;cases hp2
   refine(p1,p2,_,Z,V,(by rw[zE n12];exact za),za,(by rw[wc];show zs.length+3<=sizeLine;omega),λp3 hp3=>?_);have e3:zs.map V.int++[V.int 0,V.int 0,V.int 0] =(zs++[0,0,0]).map V.int:=by simp
   rw[e3]at *;have g6:=((zc hp1 (.lst (zs.map V.int))).trans (zc hp2 (.lst [V.int 0,V.int 0,V.int 0]))).trans (zc hp3 (.lst ((zs++[0,0,0]).map V.int)));have h3':upd (upd (upd H5 p1 (.lst (zs.map V.int))) p2 (.lst [V.int 0,V.int 0,V.int 0])) p3 (.lst ((zs++[0,0,0]).map V.int)) p3=some (.lst ((zs++[0,0,0]).map V.int)):=za;generalize upd (upd (upd H5 p1 (.lst (zs.map V.int))) p2 (.lst [V.int 0,V.int 0,V.int 0])) p3 (.lst ((zs++[0,0,0]).map V.int))=H6 at *;have ll:l <(zs++[(0:Int),0,0]).length:=by rw[wD];show l<zs.length+3;omega
   have el:((zs++[(0:Int),0,0]).map V.int)[l]?=some (.int (zs++[(0:Int),0,0])[l]):=by rw[wk,wa ll];rfl
   refine(Z,p3,_,_,.int (zs++[(0:Int),0,0])[l],V,V,SqL.of h3',(by rw[vB];exact zk el),Z,_,Z,V,(by show(4500:Int)≠0;decide),_,Z,V,k,_,Ms,H3,ts,pt,rs,n,m,qn,Z,J,G.mono g6,T,g6 _ _ hpt,nr,nt,n1,n10,(),(),(by split <;>(try split) <;> omega),λMs' rs' H7 G7 T7 hpt7 nr7=>?_);refine(Ms',rs',Z,G7,T7.up λ_=>?_,hpt7,nr7)
   rcases (show l=0\/l=1 by omega)with e|e
   ·subst e;decide
   ·subst e;decide
  ·refine(Ms,rs,Z,G,T.up λ_=>?_,hpt,nr)
   rcases (show l=0\/l=1 by omega)with e|e
   ·subst e;decide
   ·subst e;decide
 ·rintro L H5 ⟨Ms,rs,o8,rfl,G,T,hpt,nr⟩
  obtain⟨A,B,bF,rfl⟩ : ∃ A B bF,Ms=[A,B,bF]:=by
   match Ms,T.1 with
   | [A,B,bF],_=>exact(A,B,bF,V)
  obtain⟨ta,tb,tc,rfl⟩ : ∃ ta tb tc,ts=[ta,tb,tc]:=by
   match ts,G.lt with
   | [ta,tb,tc],_=>exact(ta,tb,tc,V)
  obtain⟨ra,rb,rc,rfl⟩ : ∃ ra rb rc,rs=[ra,rb,rc]:=by
   match rs,G.lr with
   | [ra,rb,rc],_=>exact(ra,rb,rc,V)
  refine(Z,Z,pt,_,_,.ref ta,V,V,SqL.of hpt,zk (j:=0) rfl,Z,pt,_,_,.ref tb,V,V,SqL.of hpt,zk (j:=1) rfl,Z,pt,_,_,.ref tc,V,V,SqL.of hpt,zk (j:=2) rfl,(),λpm hpm=>?_);have g6:=zc hpm (.tup [.ref ta,.ref tb,.ref tc]);have hm6:upd H5 pm (.tup [.ref ta,.ref tb,.ref tc]) pm=some (.tup [.ref ta,.ref tb,.ref tc]):=za;generalize upd H5 pm (.tup [.ref ta,.ref tb,.ref tc])=H6 at *;refine(Z,_,Z,V,(),λp3 hp3=>?_);have g7:=zc hp3 (.tup [.int k,.ref pm,.int ((at':Int)+2)]);have G7:=(G.mono g6).mono g7;have ft:Fit k n:=(n1,by
   rcases mob with⟨_,h⟩|⟨k0,h⟩
   ·exact .inl ()
   ·exact .inr (k0,()))
  refine q k n m qn (at'+2) A B bF p3 pm ta tb tc ra rb rc _ (((g13.trans G.same).trans g6).trans g7) ?_ (g7 _ _ hm6,G7.tabs 0 A ta ra rfl rfl rfl,G7.tabs 1 B tb rb rfl rfl rfl,G7.tabs 2 bF tc rc rfl rfl rfl) hs ft ((T.2 0 A rfl).tok J () (),(T.2 1 B rfl).tok J () (),(T.2 2 bF rfl).tok J () ()) (T.2 0 A rfl,T.2 1 B rfl,T.2 2 bF rfl,hk0) m1 m2 q1 q2 (by rcases mob with⟨_,h⟩|⟨_,h⟩ <;> omega);rw[za]
  rfl
def XE:KnI pg 75 1 Zw:=by
 exists 75,[0],ze,[0],zj,ze
 obtain⟨M,n,top,ras,rfl,hT,hM,hn,nz,mz,q⟩:=h;obtain⟨M0,M',rfl⟩:=gL hM;have hras:=zd hT.2;obtain⟨r0,ras',e0⟩ : ∃ r0 ras',ras=r0::ras':=by
  cases ras with
  | nil=>simp at hras
  | cons a b=>exact(a,b,V)
 obtain⟨vs0,h0,p0,l0⟩:=(yq hT.2 (i:=0) rfl (by rw[e0];rfl)).len;have n0:=hn M0 wt;have szl:=sh
 refine(Z,top,_,_,Z,V,SqL.of hT.1,(by rw[e0];exact zk (j:=0) rfl),r0,Z,.inl (SqL.of h0),Z,(),(),?_);have en:(vs0.length:Int).toNat=n:=by omega
 rw[en]
 let Pv1_:Nat->List V->Hp->Prop:=λi ys H'=>∃ ras2,ys=ras2.map V.ref/\Grow H H' ((kaa n (M0::M')).take i) ras2
 refine zO (lo:=0) (n:=n) Pv1_ ([],V,Grow.nil H (Same.refl H)) ?_ ?_ ?_
 ·rintro i ys H' hi ⟨ras2,rfl,G⟩
  have:=zd G.rows;rw[wr,zF]at this;rw[wc];omega
 ·rintro i ys H' hi ⟨ras2,rfl,G⟩
  symm
  refine(Z,top,V,(_,SqL.of (G.same _ _ hT.1)),?_)
  let Pv2_:Nat->List V->Hp->Prop:=λj ys' H2=>H2=H'/\Paired (RN H') (((M0::M').map λr=>r.getD i (.z 0)).take j) ys'
  refine zo (xs:=ras.map V.ref) Pv2_ (V,.nil) ?_ ?_ ?_
  ·rintro j ys' H2 hj ⟨rfl,pr⟩
   refine(SqL.of (G.same _ _ hT.1),?_);have:=zd pr;rw[wr,wc]at this;omega
  ·rintro j v ys' H2 hv hj ⟨rfl,pr⟩
   obtain⟨xs,a,D,ha,rfl,hrow⟩:=(hT.mono G.same).row hv;obtain⟨us,hu,pu,lu⟩:=hrow.len;have nx:=hn xs (wg D);have hi':i<xs.length:=by omega
   obtain⟨u,eu,ru⟩:=zJ pu (wa hi')
   symm
   refine(Z,Z,a,_,_,Z,V,SqL.of hu,(by rw[vB];exact zk eu),nxt hj (V,?_));have e:((M0::M').map λr=>r.getD i (.z 0))[j]?=some (xs.getD i (.z 0)):=by rw[wk,D];rfl
   rw[zf e];refine zy pr ?_;rw[we,wa hi'];exact ru
  ·rintro ys' H2 ⟨rfl,pr⟩ p C
   rw[wo (by rw[wc,wc];omega)]at pr;refine nxt hi (ras2++[p],by rw[wx];rfl,?_);rw[zf (xD hi)];exact G.snoc C pr
 ·rintro ys H' ⟨ras2,rfl,G⟩ t ht
  rw[wo (by rw[zF];exact wv _)]at G;exact q t ras2 _ (G.same.trans (zc ht _)) (G.done ht)
inductive za7:Sp
 | mk:∀(i:Int),vs=[.int i]->Q (.bl true) H->za7 vs H Q E_
def Xs:KnI pg 64 1 za7:=by
 exists 64,_
 obtain⟨i,rfl,q⟩:=h;refine(Z,_,_,_,Z,TyOf.int i,zie _,Z,iteT ?_);exact(Z,_,_,_,Z,TyOf.int i,zjz _,Z,q)
def Ys:∀ xs ys:List Nb,PyData.eqvAll (xs.map toD) (ys.map toD)=decide (xs=ys)
 | [],[]=>rfl
 | [],y::ys=>by simp[PyData.eqvAll]
 | x::xs,[]=>by simp[PyData.eqvAll]
 | x::xs,y::ys=>by
  show(PyData.eqv (toD x) (toD y) && PyData.eqvAll (xs.map toD) (ys.map toD))=_;rw[jh,Ys xs ys]
  by_cases h:x=y
  ·by_cases h':xs=ys
   ·simp[h,h']
   ·simp[h,h']
  ·simp[h]
def zeG xs ys:PyData.eqv (rowD xs) (rowD ys)=decide (xs=ys):=Ys xs ys
inductive XN:Sp
 | mk:∀ k x v,vs=[.int k,v]->kab k->x.ok k->RN H x v->Q (.bl true) H->XN vs H Q E_
def zbS:KnI pg 73 2 XN:=by
 exists 73,Xs,ZF,Xs,zi,Xs,zi,zi,yu,zfO,zi,zi
 obtain⟨k,x,v,rfl,J,ox,rx,q⟩:=h;have kl:=J.lt;cases x with
 | z i =>
  rw[rx.z];have k0:k≠0:=ox.1;refine(Z,_,Z,V,Z,?_);rw[br (show(0:Int)<k by omega)];refine iteT ?_;refine(Z,i,V,Z,iteT ?_);refine(Z,_,Z,V,Z,?_);rw[br (show(0:Int)<=i from ox.2.1),bj rfl];refine(Z,_,Z,V,?_);show Q (.bl (decide (i<k))) H;rw[br (show i<k from ox.2.2)];exact q
 | q r =>
  obtain⟨p,rfl,C⟩:=rx.q;have k0:k=0:=ox;subst k0;refine(Z,_,Z,V,Z,iteF ?_);refine(Z,_,_,_,Z,TyOf.tup C,zfV _,Z,iteF ?_);refine(Z,p,Z,.inr (SqT.of C),V,Z,iteF ?_);refine(Z,p,_,_,Z,V,SqT.of C,V,r.num,V,Z,iteF ?_);refine(Z,p,_,_,Z,V,SqT.of C,V,(r.den:Int),V,Z,iteF ?_);refine(Z,p,_,_,Z,V,SqT.of C,V,_,Z,V,Z,?_);rw[br (show(0:Int) <(r.den:Int)from by have:=r.den_pos;omega)];refine iteT ?_;refine(Z,p,_,_,Z,V,SqT.of C,V,Z,p,_,_,Z,V,SqT.of C,V,r.num,(r.den:Int),V,V,?_);have e:((vH r.num (r.den:Int):Nat):Int)=1:=by
   have:vH r.num (r.den:Int)=gC r.num.natAbs r.den:=rfl;rw[this,r.reduced];rfl
  show Q (.bl (decide (V.int ((vH r.num (r.den:Int):Nat):Int)=V.int 1))) H;rw[e];exact q
inductive JG:Sp
 | mk:∀ k xs a m,vs=[.int k,.ref a,.int m]->kab k->kag H xs a->OkR k xs->m =(xs.length:Int)->Q (.bl true) H->JG vs H Q E_
def Js:KnI pg 77 3 JG:=by
 exists 77,ZF,zj,zbS
 obtain⟨k,xs,a,m,rfl,J,hR,ox,em,q⟩:=h;obtain⟨us,hu,pu,lu⟩:=hR.len;refine(Z,_,_,_,Z,TyOf.lst hu,zgs _,Z,iteF ?_);refine(Z,a,Z,.inl (SqL.of hu),Z,V,Z,?_);rw[lu,em,br rfl];refine iteF ?_;refine(Z,a,V,(_,SqL.of hu),?_)
 let Pv1_:Nat->L2.St->Hp->Prop:=λj L H2=>∃ o3,L=[some (.int k),some (.ref a),some (.int (xs.length:Int)),o3]/\H2=H
 refine yl (xs:=us) Pv1_ (Z,V) ?_ ?_ ?_
 ·rintro j L H2 _ ⟨o3,rfl,rfl⟩
  exact SqL.of hu
 ·rintro j x L H2 D ⟨o3,rfl,rfl⟩
  obtain⟨n1,e1,r1⟩:=zG pu D;exact(Z,Z,k,n1,x,V,J,ox n1 (wg e1),r1,Z,iteF (Z,V))
 ·rintro L H2 ⟨o3,rfl,rfl⟩
  exact q
inductive ZU:Sp
 | mk:∀ k M t ras m c,vs=[.int k,.ref t,.int m,.int c]->kab k->kac H M t ras->m =(M.length:Int)->(∀ r∈M,(r.length:Int)=c/\OkR k r)->M.length<sizeLine->(∀ H',Same H H'->Q (.bl true) H')->ZU vs H Q E_
def QS:∀ n,(wK n true).all id=true
 | 0=>rfl
 | n+1=>by rw[vZ,waX,QS n];rfl
def zbk:KnI pg 78 4 ZU:=by
 exists 78,yu,[0,3],zj,Js
 obtain⟨k,M,t,ras,m,c,rfl,J,hT,em,oM,hz,q⟩:=h;have lt:=zd hT.2;refine(Z,_,_,_,Z,TyOf.lst hT.1,zgs _,Z,iteT ?_);refine(Z,t,Z,.inl (SqL.of hT.1),Z,V,Z,?_);rw[wc,← lt,em,br rfl];refine iteT ?_;refine(Z,t,V,(_,SqL.of hT.1),?_)
 let Pv1_:Nat->List V->Hp->Prop:=λi ys H'=>Same H H'/\ys =(wK i true).map V.bl
 refine zo (xs:=ras.map V.ref) Pv1_ (Same.refl H,V) ?_ ?_ ?_
 ·rintro i ys H' hi ⟨g,rfl⟩
  refine(SqL.of (g _ _ hT.1),?_);rw[wc]at hi;rw[wc,vf];omega
 ·rintro i v ys H' hv hi ⟨g,rfl⟩
  obtain⟨row,a,hrow,ha,rfl,hR⟩:=(hT.mono g).row hv;have o:=oM row (wg hrow)
  symm
  refine(Z,Z,Z,k,row,a,c,V,J,hR,o.2,o.1.symm,nxt hi (g,?_));rw[uZ,wx];rfl
 ·rintro ys H' ⟨g,rfl⟩ p C
  refine(p,wK (ras.map V.ref).length true,V,za,?_);rw[QS];exact q _ (g.trans (zc C _))
def zhG(C:H1 pt=some (.lst us))(pu:Paired (RN H1) xs us)(rx:RN H1 x v):Paired (RN (upd H1 pt (.lst (us++[v])))) (xs++[x]) (us++[v]) :=
 zy (yt (λ_ _ r=>r.upd C) pu) (rx.upd C)
def QG(J:kab k)(l:List (Nb×Nb))(h:∀ p∈l,p.1.ok k/\p.2.ok k/\szk k a p.1/\szk k b p.2):∀ i,i<=l.length->szk k (i *(a+b+1)+1) (ndotF k (l.take i)):=by
 intro i
 induction i with
 | zero =>
  intro _ k0;subst k0;exact((yg _),kax.mono ())
 | succ i ih =>
  intro hi;have hg:= wa hi;have C:=h l[i] (wj hi);have hl:∀ q∈l.take i,_:=λq hq=>h q (vn hq)
  rw[zf hg,qr];have o1:=jn J (l.take i) λq hq=>((hl q hq).1,(hl q hq).2.1)
  refine(YC o1 (zY J C.1 C.2.1) (ih ()) (yX C.1 C.2.1 C.2.2.1 C.2.2.2)).mono ?_;rw[gK];omega
inductive XY:Sp
 | mk:∀ k A x n a0 b ta ax ra,vs=[.int k,.ref ta,.ref ax]->kab k->kac H A ta ra->kag H x ax->OkM k n A->x.length=n->OkR k x->(∀ r∈A,∀ y∈r,szk k a0 y)->(∀ y∈x,szk k b y)->a0+b<=5000000->n<=10->A.length<=10->(∀ p H',Same H H'->NewR H H' (imgM k A x) p->(∀ y∈imgM k A x,szk k (n *(a0+b+1)+1) y)->Q (.ref p) H')->XY vs H Q E_
def zd1:KnI pg 74 43 XY:=by
 exists 74,zj,ya,ji,yD,ze,ze
 obtain⟨k,A,x,n,a0,b,ta,ax,ra,rfl,J,hT,hX,oA,lx,ox,sA,sx,hb,n10,a10,q⟩:=h;have szl:=sh
 have la:=zd hT.2;have szf:∀ r∈A,∀ i,szk k (n *(a0+b+1)+1) (ndotF k ((r.zip x).take i)):=λr U i=>by
  have lz:(r.zip x).length=n:=by rw[uB,(oA r U).1,lx,GJ]
  have hz:∀ p∈r.zip x,p.1.ok k/\p.2.ok k/\szk k a0 p.1/\szk k b p.2:=λp C=>((oA r U).2 _ (vt C).1,ox _ (vt C).2,sA r U _ (vt C).1,sx _ (vt C).2)
  have up:∀ i,i<=n->i *(a0+b+1)+1<=n *(a0+b+1)+1:=λi hi=>by
   have:=wH (a0+b+1) hi;omega
  rcases GH i n with h|h
  ·exact(QG J _ hz i ()).mono (up i h)
  ·have:=QG J _ hz n ();rw[wo ()]at this ⊢;exact this.mono (up n (wv _))
 have big:n *(a0+b+1)+1<=60000000:=by
  have:n *(a0+b+1)<=10 *(a0+b+1):=wH _ n10;omega
 refine((),λpt hpt=>?_);have g0:=zc hpt (.lst []);have h0:upd H pt (.lst []) pt=some (.lst []):=za;replace hT:=hT;refine(Z,ta,V,(_,SqL.of (g0 _ _ hT.1)),?_)
 let Pv1_:Nat->L2.St->Hp->Prop:=λi L H'=>∃ us o4 o5 o6,L=[some (.int k),some (.ref ta),some (.ref ax),some (.ref pt),o4,o5,o6]/\Same H H'/\H' pt=some (.lst us)/\Paired (RN H') ((imgM k A x).take i) us
 refine yl (xs:=ra.map V.ref) Pv1_ ([],none,none,none,V,g0,h0,.nil) ?_ ?_ ?_
 ·rintro i L H' _ ⟨us,o4,o5,o6,rfl,g,_⟩
  exact SqL.of (g _ _ hT.1)
 ·rintro i v L H' hv ⟨us,o4,o5,o6,rfl,g,C,pu⟩
  obtain⟨row,a,hrow,ha,rfl,hR⟩:=(hT.mono g).row hv;obtain⟨rs,hrs,prs,lrs⟩:=hR.len;obtain⟨xs,hxs,pxs,lxs⟩:=(hX.mono g).len;have hr':=wg hrow;have orow:=oA row hr';refine(Z,k,0,V,J,λv0 H1 g1 r1=>?_);refine(Z,ax,Z,.inl (SqL.of (g1 _ _ hxs)),Z,(),(),?_);have en:((xs.length:Int)).toNat=n:=by omega
  rw[en]
  let Pv2_:Nat->L2.St->Hp->Prop:=λj L H2=>∃ w o6,L=[some (.int k),some (.ref ta),some (.ref ax),some (.ref pt),some (.ref a),some w,o6]/\Same H' H2/\RN H2 (ndotF k ((row.zip x).take j)) w
  refine zS (lo:=0) (n:=n) Pv2_ (v0,Z,g1,r1) ?_ ?_
  ·rintro j L H2 hj ⟨w,o6,rfl,g2,rw2⟩
   have hj1:j<row.length:=by rw[orow.1];exact hj
   have hj2:j<x.length:=by omega
   obtain⟨u1,e1,ru1⟩:=zJ prs (wa hj1);obtain⟨u2,e2,ru2⟩:=zJ pxs (wa hj2);have m1:=wj hj1;have m2:=wj hj2;have oo1:=orow.2 _ m1;have oo2:=ox _ m2;have on:=jn J ((row.zip x).take j) λp C=>by
    have hz:=vn C;exact(orow.2 _ (vt hz).1,ox _ (vt hz).2)
   refine(Z,Z,Z,Z,Z,a,_,_,Z,V,SqL.of (g2 _ _ hrs),(by rw[vB];exact zk e1),Z,Z,ax,_,_,Z,V,SqL.of (g2 _ _ hxs),(by rw[vB];exact zk e2),k,row[j],x[j],u1,u2,V,(J,oo1,oo2,(sA row hr' _ m1).nsm J oo1 () (),(sx _ m2).nsm J oo2 () (),ru1.mono g2,ru2.mono g2),λv1 H3 g3 r3=>?_);refine(k,_,_,w,v1,V,(J,on,zY J oo1 oo2,(szf row hr' j).nsm J on () (),(yX oo1 oo2 (sA row hr' _ m1) (sx _ m2)).nsm J (zY J oo1 oo2) () (),rw2.mono g3,r3),λv2 H4 g4 r4=>?_);refine(v2,Z,(g2.trans g3).trans g4,?_);have ez:(row.zip x)[j]?=some (row[j],x[j]):=by rw[gQ];exact(wa hj1,wa hj2)
   rw[zf ez,qr];exact r4
  ·rintro L H2 ⟨w,o6,rfl,g2,rw2⟩
   have el:(row.zip x).take n=row.zip x:=wo (by rw[uB,orow.1,lx];omega);rw[el]at rw2;have hp2:=g2 _ _ C;have lus:=zd pu;rw[wr]at lus;have lim:(imgM k A x).length=A.length:=by unfold imgM;exact wc _
   refine(Z,.inl (V,_,SqL.of hp2),Z,pt,us,w,V,V,hp2,(),?_);have ei:(imgM k A x)[i]?=some (ndot k row x):=by unfold imgM;rw[wk,hrow];rfl
   refine(us++[w],_,_,Z,zQ (g.trans g2) hpt,za,?_);rw[zf ei];exact zhG hp2 (zW g2 pu) rw2
 ·rintro L H' ⟨us,o4,o5,o6,rfl,g,C,pu⟩
  rw[wc,← la,wo (by unfold imgM;rw[wc];exact wv _)]at pu;refine(Z,q pt H' g ((us,C,pu),hpt) λy hy=>?_);unfold imgM at hy;obtain⟨r,U,rfl⟩:=wm.mp hy;have:=szf r U n;rw[wo (by rw[uB,(oA r U).1,lx];omega)]at this;exact this
def zfn{K:bh}{g:TG}{tt:TT}{te:TE}{R:List V->Hp->Prop}(bz:Nat->List V->Hp->Prop)(h0:bz 0 [] H)(hl:∀ i ys H',i<=xs.length->bz i ys H'->SqT K H' a xs/\ys.length<sizeLine)
  (hs:∀ i x ys H',xs[i]?=some x->i<xs.length->bz i ys H'->g x σb H' λσ2 H2=>tt σ2 H2 λb H3=>if b=true then te σ2 H3 λy H4=>Nxt xs.length i (bz (i+1) (ys++[y]) H4)else Nxt xs.length i (bz (i+1) ys H3))
  (hd:∀ ys H',bz xs.length ys H'->R ys H') :
  ∃ W:Nat->Nat->List V->Hp->Prop,(∃ m,W 0 m [] H)/\∀ i m ys H,W i m ys H ->
   ((Itt K a).stop i H/\ys.length<=sizeLine/\R ys H) \/
   ((Itt K a).go i H/\ys.length<sizeLine/\∀ x H',(Itt K a).yld i H x H'->g x σb H' λσ2 H2=>tt σ2 H2 λb H3=>if b=true then te σ2 H3 λy H4=>∃ m',m'<m/\W (i+1) m' (ys++[y]) H4 else ∃ m',m'<m/\W (i+1) m' ys H3):=by
 refine(λi m ys H=>m=xs.length - i/\i<=xs.length/\bz i ys H,(xs.length,by simp,vD _,h0),?_)
 rintro i m ys H1 ⟨rfl,hi,j⟩
 obtain⟨q,hz⟩:=hl i ys H1 hi j
 by_cases hlt:i<xs.length
 ·refine .inr ((xs,xs[i],q,by simp[hlt]),hz,λx H' y=>?_);obtain⟨e,y⟩:=y;subst e;exact hs i x ys _ (y xs q) hlt j
 ·have e:i=xs.length:=by omega
  subst e;exact .inl ((xs,q,wv _),uw hz,hd ys H1 j)
inductive zam:Sp
 | mk:∀ A B bF pm ta tb tc ra rb rc,vs=[.ref pm]->kap H A B bF pm ta tb tc ra rb rc->A.length<sizeLine->B.length<sizeLine->bF.length<sizeLine->(∀ pm' ta' tb' tc' ra' rb' rc' H',Same H H'->kap H' A B bF pm' ta' tb' tc' ra' rb' rc'->Q (.ref pm') H')->zam vs H Q E_
def zfD:KnI pg 89 1 zam:=by
 exists 89,[],zht,[],zj
 obtain⟨A,B,bF,pm,ta,tb,tc,ra,rb,rc,rfl,hM,zA,zB,zC,q⟩:=h;refine(Z,pm,V,(_,SqT.of hM.tup),?_);refine zfn (xs:=[.ref ta,.ref tb,.ref tc]) (λi ys H'=>∃ ts rs,ys=ts.map V.ref/\kai H H' ([A,B,bF].take i) ts rs) ([],[],V,kai.nil (Same.refl H)) ?_ ?_ ?_
 ·rintro i ys H' hi ⟨ts,rs,rfl,G⟩
  refine(SqT.of (G.same _ _ hM.tup),?_);have:=G.lt;rw[wr]at this;rw[wc,this];exact uX (wbs _ _) (by show 3<sizeLine;decide)
 ·rintro i v ys H' hv hi ⟨ts,rs,rfl,G⟩
  obtain⟨M,t,ras,eM,rfl,hT,hz⟩ : ∃ M t ras,[A,B,bF][i]?=some M/\v=.ref t/\kac H' M t ras/\M.length<sizeLine:=by
   match i,hv with
   | 0,hv=>cases hv;exact(A,ta,ra,V,V,hM.a.mono G.same,zA)
   | 1,hv=>cases hv;exact(B,tb,rb,V,V,hM.b.mono G.same,zB)
   | 2,hv=>cases hv;exact(bF,tc,rc,V,V,hM.c.mono G.same,zC)
  symm
  refine(Z,t,V,(_,SqL.of hT.1),?_);refine Zc hT hz (λa us H2 Q2 ha hq=>(Z,a,us,V,.inl (SqL.of ha),hq)) ?_;intro ras2 H2 G2 p C;have N:=G2.done C;refine nxt hi (ts++[p],rs++[ras2],by rw[wx];rfl,?_);rw[zf eM];exact G.push (G2.same.trans (zc C _)) N
 ·rintro ys H' ⟨ts,rs,rfl,G⟩ p C
  have G':kai H H' [A,B,bF] ts rs:=G;obtain⟨t1,t2,t3,rfl⟩ : ∃ t1 t2 t3,ts=[t1,t2,t3]:=by
   match ts,G'.lt with
   | [a,b,c],_=>exact(a,b,c,V)
  obtain⟨r1,r2,r3,rfl⟩ : ∃ r1 r2 r3,rs=[r1,r2,r3]:=by
   match rs,G'.lr with
   | [a,b,c],_=>exact(a,b,c,V)
  refine(p,Z,.inl (SqL.of za,λl hl=>?_));have g1:=zc C (.lst ([t1,t2,t3].map V.ref));have g2:=zc hl (.tup ([t1,t2,t3].map V.ref));exact q l t1 t2 t3 r1 r2 r3 _ ((G'.same.trans g1).trans g2) (za,((G'.tabs 0 _ _ _ rfl rfl rfl).mono g1).mono g2,((G'.tabs 1 _ _ _ rfl rfl rfl).mono g1).mono g2,((G'.tabs 2 _ _ _ rfl rfl rfl).mono g1).mono g2)
def fermat:∀ p:Nat,p<99->primeB p=true->∀ x:Nat,x<p->0<x->x^(p - 2) % p*x % p=1:=by decide +kernel
def zfc(p t o l:Nat):(if l % 2=1 then t*o % p else t) *(o*o % p)^(l / 2) % p=t*o^l % p:=by
 have e:o^l =(o*o)^(l / 2)*o^(l % 2):=by
  rw[← wbT,← waR,← uF,waH]
 have h1:∀ a:Nat,a *(o*o % p)^(l / 2) % p=a *(o*o)^(l / 2) % p:=λa=>by
  rw[GV,← Gx,← GV]
 rw[h1,e]
 by_cases h:l % 2=1
 ·rw[bj h,h,wbU];rw[GV (t*o % p),Nat.mod_mod,← GV]
  congr 1
  rw[Gv,uQ o]
 ·rw[bn h,show l % 2=0 by omega,wa8,gW]
inductive zac:Sp
 | mk:∀ k x v,vs=[.int k,v]->KindS k->x.ok k->x≠nnum k 0->nsm 20000000 x->RN H x v->(∀ b v' H',Same H H'->RN H' b v'->b.ok k->nmul k b x=nnum k 1->(∀ m,szk k m x->szk k m b)->Q v' H')->zac vs H Q E_
def ze0:KnI pg 79 42 zac:=by
 exists 79,yu,xp,zK,zi,zi,zK,zi,zi,yu,zK,zK
 obtain⟨k,x,v,rfl,J,ox,ne,sx,rx,q⟩:=h;have kl:=J.ok.lt;cases x with
 | q r =>
  obtain⟨p,rfl,C⟩:=rx.q;have k0:= ox;subst k0;have r0:r≠0:=λe=>ne (by rw[e];rfl)
  have n0:= λe=>r0 (wbw.mp e)
  have sp:0<r.num*r.num:=by
   have:=Gn.mpr n0;rw[← Int.natAbs_mul_self' r.num];have h2:0 <(r.num.natAbs:Int):=by omega
   exact wap h2 h2
  refine(Z,V,Z,iteT ?_);refine(Z,p,_,_,Z,V,SqT.of C,V,Z,p,_,_,Z,V,SqT.of C,V,_,Z,V,sx.2.mulOk sx.1 (),Z,p,_,_,Z,V,SqT.of C,V,Z,p,_,_,Z,V,SqT.of C,V,_,Z,V,sx.1.mulOk sx.1 (),_,Z,sp,λp' H' g h=>?_);have e:ul (r.den*r.num) (r.num*r.num)=r⁻¹:=by
   rw[wbQ,Rat.divInt_mul_right n0]
  rw[e]at h;refine q (.q r⁻¹) _ H' g (RN.of_q h) rfl ?_ λm hm _=>?_
  ·show Nb.q (r⁻¹*r)=Nb.q _;rw[Rat.mul_comm,Rat.mul_inv_cancel r r0];rfl
  ·have hs:=hm rfl;refine(?_,?_)
   ·show Sm m (r⁻¹).num;rw[Rat.num_inv];have hd:Sm m (r.den:Int):=hs.2;unfold Sm at hd ⊢;rw[vS];have:r.num.sign.natAbs=1:=by rw[Int.natAbs_sign_of_ne_zero n0]
    rw[this,uW];exact hd
   ·show Sm m ((r⁻¹).den:Int);rw[Rat.den_inv,bn n0];have hn:Sm m r.num:=hs.1;unfold Sm at hn ⊢
    simpa using hn
 | z i =>
  rw[rx.z];have k0:k≠0:=ox.1;have hpr:PrS k:=by
   rcases J with h|h
   ·exact bw h k0
   ·exact h
  obtain⟨p,rfl⟩:=Gb kl.1;obtain⟨x,rfl⟩:=Gb ox.2.1;have plo:=hpr.lo;have phi:=hpr.hi;have x1:x<p:=by have:=ox.2.2;omega
  have x0:0<x:=by
   rcases wam x with h|h
   ·exact bw (by rw[h];unfold nnum;rw[bn k0];simp) ne
   ·exact h
  have fe:=fermat p () (by have:=hpr.pr;simpa using this) x x1 x0;refine(Z,V,Z,?_);rw[bq (λe=>k0 (V.int.inj e))];refine iteF ?_;refine(Z,_,Z,V,?_)
  let Wv1_:Nat->L2.St->Hp->Prop:=λl L H'=>∃(o t:Nat),L=[some (.int (p:Int)),some (.int (o:Int)),some (.int (t:Int)),some (.int (l:Int))]/\H'=H/\o<p/\t<p/\t*o^l % p=x^(p - 2) % p
  refine(Wv1_,(p - 2,x,1,by rw[show((p - 2:Nat):Int) =(p:Int) - 2 by omega];rfl,V,x1,(),by rw[uW]),?_)
  rintro l L H' ⟨o,t,rfl,rfl,ho,ht,inv⟩
  refine(Z,_,Z,V,Z,?_);have modN:∀ a b:Nat,((a:Int) *(b:Int)).fmod (p:Int) =((a*b % p:Nat):Int):=λa b=>by
   rw[uU _ (),wbt,gP]
  have p7:p<99:=by omega
  refine ite2 (λc=>?_) (λc=>?_)
  ·have l0:0<l:=by have:(0:Int) <(l:Int):=bt c;omega
   refine(_,λ_ _ h=>h,?_);have l2:((l:Int)).fmod 2 =((l % 2:Nat):Int):=by rw[uU _ (),wbt];rfl
   have d2:((l:Int)).fdiv 2 =((l / 2:Nat):Int):=by rw[waq _ (),Int.natCast_ediv];rfl
   have stp:=zfc p t o l;refine(Z,_,Z,V,(by show(2:Int)≠0;decide),V,Z,?_);rw[l2];refine ite2 (λc2=>?_) (λc2=>?_)
   ·have h2:l % 2=1:=by have:=V.int.inj (bt c2);omega
    refine(Z,Z,_,Z,V,yn () (),Z,_,Z,V,(by show(p:Int)≠0;omega),?_);refine(Z,Z,_,Z,V,yn () (),Z,_,Z,V,(by show(p:Int)≠0;omega),?_);refine(Z,_,Z,V,(by show(2:Int)≠0;decide),?_);rw[bj h2]at stp;refine(l / 2,wbA l0 (),o*o % p,t*o % p,?_,V,wa2 _ (),wa2 _ (),stp.trans inv);show [some (V.int (p:Int)),some (V.int (((o:Int) *(o:Int)).fmod (p:Int))),some (V.int (((t:Int) *(o:Int)).fmod (p:Int))),some (V.int (((l:Int)).fdiv 2))]=_;rw[modN,modN,d2]
   ·have h2:¬ l % 2=1:=λe=>c2 (by rw[e];rfl)
    refine(Z,Z,_,Z,V,yn () (),Z,_,Z,V,(by show(p:Int)≠0;omega),?_);refine(Z,_,Z,V,(by show(2:Int)≠0;decide),?_);rw[bn h2]at stp;refine(l / 2,wbA l0 (),o*o % p,t,?_,V,wa2 _ (),ht,stp.trans inv);show [some (V.int (p:Int)),some (V.int (((o:Int) *(o:Int)).fmod (p:Int))),some (V.int (t:Int)),some (V.int (((l:Int)).fdiv 2))]=_;rw[modN,d2]
  ·have l0:l=0:=by
    have:¬(0:Int) <(l:Int):=bv (uv.mpr c);omega
   subst l0;rw[wa8,gW,way ht]at inv;refine(Z,q (.z (t:Int)) _ H' (Same.refl _) RN.of_z (k0,(),()) ?_ λm _ e=>bw e k0);show Nb.z (((t:Int) *(x:Int)).fmod (p:Int))=nnum (p:Int) 1;rw[modN,inv,fe];unfold nnum;rw[bn k0];have:(1:Int).fmod (p:Int)=1:=by rw[uU _ ()];exact Int.emod_eq_of_lt () ()
   rw[this];rfl
def yU(J:kab k)(o:x.ok k)(h:szk k m x)(hm:k=0->m<=n)(h7:61<=n):nsm n x:=by
 by_cases k0:k=0
 ·exact(h k0).mono (hm k0)
 ·exact(jz J k0 o).mono h7
def Xj{K:bh}{te:TE}{σb:L2.St}{t:Addr}{ras:List Addr}{M:TB}{H:Hp}{R:List V->Hp->Prop}(f:List Nb->List Nb)(hT:kac H M t ras)(hz:M.length<sizeLine)
  (hte:∀(r:List Nb)(a:Addr)(H':Hp)(Q:VK),r∈M->Same H H'->kag H' r a->(∀(p:Addr)(us:List V)(H2:Hp),Same H' H2->H2 p=none->Paired (RN H2) (f r) us->Q (.ref p) (upd H2 p (.lst us)))->te (σb.set 0 (some (.ref a))) H' Q)
  (hd:∀(ras2:List Addr)(H':Hp),Grow H H' (M.map f) ras2->R (ras2.map V.ref) H') :
  ∃ W:Nat->Nat->List V->Hp->Prop,(∃ m,W 0 m [] H)/\∀ i m ys H,W i m ys H ->
   ((Itl K t).stop i H/\ys.length<=sizeLine/\R ys H) \/
   ((Itl K t).go i H/\ys.length<sizeLine/\∀ x H',(Itl K t).yld i H x H'->gName 0 x σb H' λσ2 H2=>tTrue σ2 H2 λb H3=>if b=true then te σ2 H3 λy H4=>∃ m',m'<m/\W (i+1) m' (ys++[y]) H4 else ∃ m',m'<m/\W (i+1) m' ys H3):=by
 have hl:=zd hT.2;refine zo (xs:=ras.map V.ref) (λi ys H'=>∃ ras2,ys=ras2.map V.ref/\Grow H H' ((M.map f).take i) ras2) ([],V,Grow.nil H (Same.refl H)) ?_ ?_ ?_
 ·rintro i ys H' hi ⟨ras2,rfl,G⟩
  refine(SqL.of (G.same _ _ hT.1),?_);have:=zd G.rows;rw[wr,wc]at this;rw[wc];omega
 ·rintro i v ys H' hv hi ⟨ras2,rfl,G⟩
  obtain⟨row,a,hrow,ha,rfl,hR⟩:=(hT.mono G.same).row hv;refine gyes (hte row a H' _ (wg hrow) G.same hR λp us H2 g2 C pu=>?_);refine nxt hi (ras2++[p],by rw[wx];rfl,?_);have e:(M.map f)[i]?=some (f row):=by rw[wk,hrow];rfl
  rw[zf e];exact(G.mono g2).snoc C pu
 ·rintro ys H' ⟨ras2,rfl,G⟩
  rw[wc,← hl,wo (by rw[wc];exact wv _)]at G;exact hd ras2 H' G
def Qv:∀ {xs:List α} {ys:List β},(∀ x y,y∈ys->R x y->S x y)->Paired R xs ys->Paired S xs ys
 | _,_,_,.nil=>.nil
 | _,_,f,.cons r t=>.cons (f _ _ wt r) (Qv (λx y hy=>f x y (ww _ hy)) t)
def Xz:∀(l:List Addr) j,(l.map V.ref).eraseIdx j =(l.eraseIdx j).map V.ref
 | [],_=>rfl
 | _::_,0=>rfl
 | a::l,j+1=>congrArg (V.ref a::·) (Xz l j)
def bdR(b c:Nat):Nat:=5^c *(b+1)
def qT b c:bdR b (c+1)=5*bdR b c:=by unfold bdR;rw[Gq];rw[uQ (5^c) 5,Gv]
def zce b c:1<=bdR b c:=wbW (GZ ()) ()
def qb b (h:c<=d):bdR b c<=bdR b d:=wH _ (vI () h)
def ym{r:List Nb}(h:r[c]?=some x):r.getD c d=x:=by rw[we,h];rfl
def zgu(J:kab k){c B:Nat}(of:OkR k f)(or:OkR k r)(hl:r.length=f.length)(hc:c<r.length)(sr:∀ x∈r,szk k B x)(sf:∀ x∈f,szk k (B+B) x):∀ x∈gjR k c f r,szk k (4*B+1) x:=by
 intro x D;unfold gjR at D;have ec:r.getD c (nnum k 0)=r[c]:=ym (wa hc);rw[ec]at D;obtain⟨i,hi,e⟩:=wy D;rw[vJ]at e;rw[← e];have m1:=wj (l:=r) (n:=i) (by rw[wO]at hi;omega);have m2:=wj (l:=f) (n:=i) (by rw[wO]at hi;omega);have mc:=wj hc;exact(YT (or _ m1) (zY J (or _ mc) (of _ m2)) (sr _ m1) (yX (or _ mc) (of _ m2) (sr _ mc) (sf _ m2))).mono ()
inductive Zn:Sp
 | mk:∀ k n b M t ras,vs=[.int k,.ref t]->KindS k->kac H M t ras->OkM k n M->(∀ r∈M,∀ x∈r,szk k b x)->((k=0->n<=3))->n<=10->((k=0->bdR b (min n M.length)<=12500125))->M.length<=1000->(∀ R ls t' ras' H',Same H H'->kac H' R t' ras'->IsRa k n R ls->kas k R M->(∀ r∈R,∀ x∈r,szk k (bdR b R.length) x)->Q (.ref t') H')->Zn vs H Q E_
def Zf:KnI pg 80 44 Zn:=by
 exists 80,ya,[],zj,ze,[5,2],zj,Jx,ze,ze,ze0,ze,[0,8],zj,yD,[7,0,5],zj,[2,0,3],xB,yD,ze,[7,0,5],zj,[2,0,3],xB,yD,ze,zT
 obtain⟨k,n,b,M,t,ras,rfl,hs,hT,oM,sM,n3,n10,b5,lM,q⟩:=h;have J:=hs.ok;have szl:=sh
 have z0:=zm J 0;refine(Z,k,0,V,J,λv0 H1 g1 r0=>?_);refine(Z,t,V,(_,SqL.of (g1 _ _ hT.1)),?_);refine Zc (hT.mono g1) () (λa us H2 Q2 ha hq=>(Z,a,us,V,.inl (SqL.of ha),hq)) ?_;intro rl H2 G2 pl hpl;have N2:=G2.done hpl;have g2:=g1.trans (G2.same.trans (zc hpl (.lst (rl.map V.ref))));have r2:=r0.mono (G2.same.trans (zc hpl (.lst (rl.map V.ref))));generalize upd H2 pl (.lst (rl.map V.ref))=H3 at *;refine((),λpt hpt=>?_);have g3:=zc hpt (.lst []);have hpt3:upd H3 pt (.lst []) pt=some (.lst []):=za;have hL3:=N2.tab.mono g3;have npt:pl≠pt:=λe=>by rw[← e,N2.tab.1]at hpt;cases hpt
 have nplr:pl∉rl:=N2.nt;have fpl:H pl=none:=g1.none N2.ft;have g30:=g2.trans g3;have r3:=r2.mono g3;generalize upd H3 pt (.lst [])=H4 at *;clear G2 hpl r0 r2 g3 hpt g2 N2
 let Wv1_:Nat->L2.St->Hp->Prop:=λm L H'=>∃(c:Nat)(told left:TB)(ls:List Nat)(pl pt:Addr)(rl rt:List Addr)(o6 o7 o8:Option V),L=[some (.int k),some (.ref t),some v0,some (.ref pl),some (.ref pt),some (.int (c:Int)),o6,o7,o8]/\Same H H'/\RN H' (nnum k 0) v0/\kac H' left pl rl/\kac H' told pt rt/\H pl=none/\pl∉rl/\pl∉rt/\pl≠pt/\c<=n/\left.length<=1000/\(told.length<=c/\told.length+left.length=M.length)/\(∀ r∈told,∀ x∈r,szk k (bdR b told.length) x)/\(∀ r∈left,∀ x∈r,szk k (bdR b told.length) x)/\(∀(F:Type) [bf F] (O:Kf k F),Gj O n c M told left ls)/\m=n - c
 refine(Wv1_,(_,0,[],M,[],pl,pt,rl,[],_,_,Z,g30,r3,hL3,(hpt3,.nil),fpl,nplr,(λh=>nomatch h),npt,vD _,lM,(wv _,waF _),(λ_ h=>nomatch h),(λr U x D=>(sM r U x D).mono (by show b<=bdR b 0;unfold bdR;omega)),(λF _ O=>Gj.start oM),V),?_);clear hpt3 hL3 npt nplr g30 r3 g1 sM lM
 rintro m L H' ⟨c,told,left,ls,pl,pt,rl,rt,o6,o7,o8,rfl,g,r0,hL,hD,fpl,nlr,nlt,nlp,cn,ll,⟨lt,lML⟩,sD,sL,G,rfl⟩
 have lrl:=zd hL.2;have lrt:=zd hD.2;have exit:(left=[]\/n<=c)->Q (.ref pt) H':=λh =>
  q told ls pt rt H' g hD (λF _ O=>((G F O).done h).1) (λF _ O=>((G F O).done h).2) sD
 refine(Z,pl,Z,.inl (SqL.of hL.1),_,Z,V,Z,?_);rw[wc,← lrl]
 rcases wam left.length with l0|l0
 ·have e:left=[]:=uM l0;rw[l0];refine iteF ?_;refine iteF ?_;exact(Z,exit (.inl e))
 rw[br (show(0:Int) <(left.length:Int) by omega)];refine iteT ?_;have hl0:left[0]?=some left[0]:=wa l0;obtain⟨a0,ea0,ra0⟩:=zJ hL.2 hl0;obtain⟨us0,hu0,pu0,lu0⟩:=ra0.len;have okl:=(show OkM k n left from by obtain⟨F,_,_,⟨O⟩⟩:=zD J;exact(G F O).okl);have okt:=(show OkM k n told from by obtain⟨F,_,_,⟨O⟩⟩:=zD J;exact(G F O).okt);have w0:=(okl _ (wj l0)).1;refine(Z,Z,pl,_,_,.ref a0,V,V,SqL.of hL.1,zk (j:=0) (by rw[wk,ea0];rfl),a0,Z,.inl (SqL.of hu0),_,Z,V,Z,?_);rw[lu0,w0]
 rcases wJ c n with hc|hc
 rotate_left
 ·rw[bq (show ¬(c:Int) <(n:Int) by omega)];refine iteF ?_;exact(Z,exit (.inr hc))
 rw[br (show(c:Int) <(n:Int) by omega)];refine iteT ?_;clear exit pu0 hu0 lu0 us0 ra0 ea0 w0 hl0;refine(_,λ_ _ h=>h,?_);have bd2:k=0->bdR b told.length<=2500025:=λe=>by
  have h1:=b5 e;have h2:=qb b (show told.length+1<=min n M.length by omega);rw[qT]at h2;omega
 have bd1:=zce b told.length;refine(Z,pl,V,(_,SqL.of hL.1),?_)
 let Pv2_:Nat->List V->Hp->Prop:=λi ys H2=>H2=H'/\ys.length<=i/\((ys=[]/\∀(m:Nat)(r:List Nb),m<i->left[m]?=some r->r.getD c (nnum k 0)=nnum k 0)\/∃(j:Nat)(r:List Nb)(a:Addr)(rest:List V),left[j]?=some r/\rl[j]?=some a/\r.getD c (nnum k 0)≠nnum k 0/\(∀(m:Nat)(r':List Nb),m<j->left[m]?=some r'->r'.getD c (nnum k 0)=nnum k 0)/\ys=.ref a::rest)
 refine zo (xs:=rl.map V.ref) Pv2_ (V,wv _,.inl (V,λ_ _ h=>bw h (ue _))) ?_ ?_ ?_
 ·rintro i ys H2 hi ⟨rfl,hy,_⟩
  rw[wc]at hi;exact(SqL.of hL.1,())
 ·rintro i v ys H2 hv hi ⟨rfl,hy,hJ⟩
  obtain⟨row,a,hrow,ha,rfl,hR⟩:=hL.row hv;obtain⟨us,hu,pu,lu⟩:=hR.len;have orow:=okl row (wg hrow);have hcr:c<row.length:=by rw[orow.1];exact hc
  have ec:row[c]?=some row[c]:=wa hcr;obtain⟨u,eu,ru⟩:=zJ pu ec;refine(Z,Z,a,_,_,Z,V,SqL.of hu,zk eu,Z,toD row[c],toD (nnum k 0),ru,r0,yy _,yy _,wE (uC _ _) (wE (yO _) ()),Z,?_);rw[jh]
  by_cases hz:row[c]=nnum k 0
  ·rw[br hz];refine iteF (nxt hi (V,(),?_))
   rcases hJ with⟨e,hJ⟩|hJ
   ·refine .inl (e,λm r hm U=>?_)
    rcases vC (vM hm)with h|h
    ·exact hJ m r h U
    ·rw[h,hrow]at U;cases U;rw[ym ec];exact hz
   ·exact .inr hJ
  ·rw[bq hz];refine iteT (Z,nxt hi (V,by rw[wD];show ys.length+1<=i+1;omega,.inr ?_))
   rcases hJ with⟨e,hJ⟩|⟨j,r,a',rest,h1,h2,h3,h4,e⟩
   ·exact(i,row,a,[],hrow,ha,by rw[ym ec];exact hz,λm r' hm U=>hJ m r' hm U,by rw[e];rfl)
   ·exact(j,r,a',rest++[.ref a],h1,h2,h3,h4,by rw[e];rfl)
 rintro ys H2 ⟨rfl,hy,hJ⟩ ps hps
 rw[wc]at hy;have g4:=zc hps (.lst ys);have hps4:upd H2 ps (.lst ys) ps=some (.lst ys):=za;have ga:=g.trans g4;have r4:=r0.mono g4;have hL4:=hL.mono g4;have hD4:=hD.mono g4;generalize upd H2 ps (.lst ys)=H5 at *;clear hps g4 hL hD r0 g;refine(Z,ps,Z,.inl (SqL.of hps4),_,Z,V,Z,?_)
 rcases hJ with⟨e,hJ⟩|⟨j,p,a,rest,C,ha,hne,hbef,e⟩
 ·subst e;refine iteF ?_;refine(Z,_,Z,V,?_);refine(n - (c+1),(),c+1,told,left,ls,pl,pt,rl,rt,_,_,Z,ga,r4,hL4,hD4,fpl,nlr,nlt,nlp,hc,ll,((),lML),sD,sL,(λF _ O=>(G F O).skip λr U=>?_),V);obtain⟨i,hi,er⟩:=wy U;have:=hJ i r (by rw[wc];omega) (by rw[wa hi,er]);show O.to (r.getD c (nnum k 0))=0;rw[this];exact(O.zero_iff J z0).mpr rfl
 subst e;rw[br (show(0:Int) <((V.ref a::rest).length:Int) by rw[um];omega)];refine iteT ?_;have hjl:j<left.length:=(wu.mp C).1;have pm:=wg C;have op:=okl p pm;have hra:kag H5 p a:=yq hL4.2 C ha;obtain⟨ua,hua,pua,lua⟩:=hra.len;have hcp:c<p.length:=by rw[op.1];exact hc
 have ecp:p[c]?=some p[c]:=wa hcp;have hne':p[c]≠nnum k 0:=by rw[ym ecp]at hne;exact hne
 have oc:=op.2 _ (wj hcp);refine(Z,ps,_,_,.ref a,V,V,SqL.of hps4,zk (j:=0) rfl,?_);refine(Z,.inl (V,_,SqL.of hL4.1),Z,pl,_,.ref a,j,rowD p,V,V,hL4.1,(by rw[wc];omega),hra.rp,jx p,wE (ju p) (),(λm z hm hz=>?_),?_)
 ·rw[wk]at hz;obtain⟨a',ha',rfl⟩:=wY.mp hz;obtain⟨r',er',rr'⟩:=zG hL4.2 ha';refine(rowD r',rr'.rp,jx r',?_);rw[zeG]
  rcases vC hm with h|h
  ·have hz':=hbef m r' h er';rw[bq (λe=>hne (by rw[← e];exact hz')),bq ()]
  ·subst h;rw[C]at er';cases er';rw[br rfl,br rfl]
 have em:(rl.map V.ref).eraseIdx j =(rl.eraseIdx j).map V.ref:=Xz rl j;rw[em];have hTe:kac (upd H5 pl (.lst ((rl.eraseIdx j).map V.ref))) (left.eraseIdx j) pl (rl.eraseIdx j):=(za,za9 (Qv (λx y hy r=>r.upd (λe=>nlr (by rw[← e];exact hy)) hL4.1) hL4.2) j);have hDe:=hD4.upd (zs':=(rl.eraseIdx j).map V.ref) (Ne.symm nlp) nlt hL4.1;have hae:kag (upd H5 pl (.lst ((rl.eraseIdx j).map V.ref))) p a:=hra.upd (λe=>nlr (by rw[← e];exact wg ha)) hL4.1;have gE:Same H (upd H5 pl (.lst ((rl.eraseIdx j).map V.ref))):=zQ ga fpl;have rE:=r4.upd (zs':=(rl.eraseIdx j).map V.ref) hL4.1;generalize upd H5 pl (.lst ((rl.eraseIdx j).map V.ref))=HE at *;clear hL4 hD4 hra hua pua lua r4 ga hps4 ua em;obtain⟨ua,hua,pua,lua⟩:=hae.len;obtain⟨u,eu,ru⟩:=zJ pua ecp;refine(Z,Z,Z,a,_,_,Z,V,SqL.of hua,zk eu,k,p[c],u,V,hs,oc,hne',yU J oc (sL p pm _ (wj hcp)) (λe=>by have:=bd2 e;omega) (),ru,λbb vb H6 g6 rb ob eb sb=>?_);have sbb:=sb _ (sL p pm _ (wj hcp));have hua6:=g6 _ _ hua;have pua6:=zW g6 pua;refine(Z,a,V,(_,SqL.of hua6),?_)
 let Pv3_:Nat->List V->Hp->Prop:=λi ys H7=>Same H6 H7/\Paired (RN H7) ((p.map (nmul k bb)).take i) ys
 refine zo (xs:=ua) Pv3_ (Same.refl H6,.nil) ?_ ?_ ?_
 ·rintro i ys H7 hi ⟨g7,pr⟩
  refine(SqL.of (g7 _ _ hua6),?_);have:=zd pr;rw[wr,wc]at this;omega
 ·rintro i v ys H7 hv hi ⟨g7,pr⟩
  obtain⟨nx,ex,rx⟩:=zG pua6 hv;have ox:=op.2 _ (wg ex)
  symm
  refine(Z,Z,Z,k,bb,nx,vb,v,V,(J,ob,ox,yU J ob sbb (λe=>by have:=bd2 e;omega) (),yU J ox (sL p pm _ (wg ex)) (λe=>by have:=bd2 e;omega) (),rb.mono g7,rx.mono g7),λv8 H8 g8 r8=>nxt hi (g7.trans g8,?_));have e:(p.map (nmul k bb))[i]?=some (nmul k bb nx):=by rw[wk,ex];rfl
  rw[zf e];exact zy (zW g8 pr) r8
 rintro ys H7 ⟨g7,pr⟩ af haf
 rw[show ua.length =(p.map (nmul k bb)).length by rw[wc,lua],ug]at pr;have g8:=zc haf (.lst ys);have hF:kag (upd H7 af (.lst ys)) (p.map (nmul k bb)) af:=(ys,za,zW g8 pr);have gF:=(g6.trans g7).trans g8;generalize upd H7 af (.lst ys)=HF at *;have turn:∀(F:Type) [bf F] (O:Kf k F),Gj O n (c+1) M (told.map (gjR k c (p.map (nmul k bb)))++[p.map (nmul k bb)]) ((left.eraseIdx j).map (gjR k c (p.map (nmul k bb)))) (ls++[c]):=λF _ O=>by
  refine(G F O).turn J hc C ob ?_;show O.to bb*O.to (p.getD c (nnum k 0))=1;rw[ym ecp,← O.mul ob oc,eb,O.num];exact La.ι_one
 have lf:(p.map (nmul k bb)).length=n:=by rw[wc];exact op.1
 have of':OkR k (p.map (nmul k bb)):=λx D=>by
  obtain⟨y,hy,rfl⟩:=wm.mp D;exact zY J ob (op.2 y hy)
 have sf:∀ x∈p.map (nmul k bb),szk k (bdR b told.length+bdR b told.length) x:=λx D=>by
  obtain⟨y,hy,rfl⟩:=wm.mp D;exact yX ob (op.2 y hy) sbb (sL p pm y hy)
 generalize p.map (nmul k bb)=f at *;have hTf:=hTe.mono gF;have hDf:=hDe.mono gF;have gHF:=gE.trans gF;have rF:=rE.mono gF;clear hTe hDe hae gE rE g6 g7 g8 pr haf gF hua hua6 pua pua6 ru eu rb;have oke:∀ r∈left.eraseIdx j,r∈left:=λr U=>(waa (l:=left) j).subset U
 have lle:(left.eraseIdx j).length<=left.length:=(waa (l:=left) j).length_le;refine(Z,pl,V,(_,SqL.of hTf.1),?_);refine Xj (gjR k c f) hTf () ?_ ?_
 ·have OKX:∀ r∈left.eraseIdx j,r.length=n/\OkR k r:=λr U=>okl r (oke r U)
  have SZX:∀ r∈left.eraseIdx j,∀ x∈r,szk k (bdR b told.length) x:=λr U=>sL r (oke r U)
  have GX:∀ {H8:Hp},Same HF H8->Same HF H8:=λh=>h
  intro r a' H8 Q8 hr8 gs hR8 hq8;have orr:=OKX r hr8;have srr:=SZX r hr8;obtain⟨us,hu,pu,lu⟩:=hR8.len;obtain⟨uf,huf,puf,luf⟩:=(hF.mono (GX gs)).len;have hcr:c<r.length:=by rw[orr.1];exact hc
  obtain⟨uc,euc,ruc⟩:=zJ pu (wa hcr);have occ:=orr.2 _ (wj hcr);refine(Z,Z,a',af,us,uf,V,SqL.of hu,SqL.of huf,?_)
  let Pv4_:Nat->List V->Hp->Prop:=λi ys' H9=>Same H8 H9/\Paired (RN H9) ((gjR k c f r).take i) ys'
  refine xu (xs:=us) (zs:=uf) (by rw[lu,luf,orr.1,lf]) Pv4_ (Same.refl H8,.nil) ?_ ?_ ?_
  ·rintro i ys' H9 hi ⟨g9,pr⟩
   refine(SqL.of (g9 _ _ hu),SqL.of (g9 _ _ huf),?_);have:=zd pr;rw[wr]at this;rw[lu,orr.1]at hi;omega
  ·rintro i x z T ys' H9 D hz hi hT9 ⟨g9,pr⟩
   obtain⟨nx,ex,rx⟩:=zG pu D;obtain⟨nz,ez,rz⟩:=zG puf hz;have ox:=orr.2 _ (wg ex);have oz:=of' _ (wg ez);have sx:=srr _ (wg ex);have sz:=sf _ (wg ez);have gT:=g9.trans (zc hT9 (.tup [x,z]));refine(T,Z,SqT.of za,V,_,Z,_,Z,V,?_);have gN:=zc hT9 (.tup [x,z]);generalize upd H9 T (.tup [x,z])=H10 at *
   symm
   refine(Z,Z,Z,Z,Z,a',_,_,Z,V,SqL.of (gT _ _ hu),zk euc,Z,k,r[c],nz,uc,z,V,(J,occ,oz,yU J occ (srr _ (wj hcr)) (λe=>by have:=bd2 e;omega) (),yU J oz sz (λe=>by have:=bd2 e;omega) (),ruc.mono gT,rz.mono gT),λv11 H11 g11 r11=>?_);have omm:=zY J occ oz;refine(k,nx,_,x,v11,V,J,ox,omm,yU J ox sx (λe=>by have:=bd2 e;omega) (),yU J omm (yX occ oz (srr _ (wj hcr)) sz) (λe=>by have:=bd2 e;omega) (),(rx.mono gT).mono g11,r11,λv12 H12 g12 r12=>nxt hi ((gT.trans g11).trans g12,?_));have e:(gjR k c f r)[i]?=some (nsub k nx (nmul k r[c] nz)):=by
    unfold gjR;rw[vL,ex,ez];show some (nsub k nx (nmul k (r.getD c (nnum k 0)) nz))=_;rw[ym (wa hcr)]
   rw[zf e];exact zy (zW (gN.trans (g11.trans g12)) pr) r12
  ·rintro ys' H9 ⟨g9,pr⟩ p9 hp9
   have lg:(gjR k c f r).length=us.length:=by unfold gjR;rw[wO,lu,orr.1,lf,GJ]
   rw[← lg,ug]at pr;exact hq8 p9 ys' H9 g9 hp9 pr
 intro rl2 HG GG pl2 hpl2;have NG:=GG.done hpl2;have gG:=GG.same.trans (zc hpl2 (.lst (rl2.map V.ref)));have fpl2:H pl2=none:=gHF.none (GG.same.none hpl2);have naf2:pl2≠af:=λe=>by
  obtain⟨uf,huf,_⟩:=(hF.mono GG.same).len;rw[← e,hpl2]at huf;cases huf
 generalize upd HG pl2 (.lst (rl2.map V.ref))=HH at *;have hF2:=hF.mono gG;refine(Z,pt,V,(_,SqL.of (gG _ _ hDf.1)),?_);refine Xj (gjR k c f) (hDf.mono gG) () ?_ ?_
 ·have OKX:∀ r∈told,r.length=n/\OkR k r:=okt;have SZX:∀ r∈told,∀ x∈r,szk k (bdR b told.length) x:=sD;have GX:∀ {H8:Hp},Same HH H8->Same HF H8:=λh=>gG.trans h
  intro r a' H8 Q8 hr8 gs hR8 hq8;have orr:=OKX r hr8;have srr:=SZX r hr8;obtain⟨us,hu,pu,lu⟩:=hR8.len;obtain⟨uf,huf,puf,luf⟩:=(hF.mono (GX gs)).len;have hcr:c<r.length:=by rw[orr.1];exact hc
  obtain⟨uc,euc,ruc⟩:=zJ pu (wa hcr);have occ:=orr.2 _ (wj hcr);refine(Z,Z,a',af,us,uf,V,SqL.of hu,SqL.of huf,?_)
  let Pv5_:Nat->List V->Hp->Prop:=λi ys' H9=>Same H8 H9/\Paired (RN H9) ((gjR k c f r).take i) ys'
  refine xu (xs:=us) (zs:=uf) (by rw[lu,luf,orr.1,lf]) Pv5_ (Same.refl H8,.nil) ?_ ?_ ?_
  ·rintro i ys' H9 hi ⟨g9,pr⟩
   refine(SqL.of (g9 _ _ hu),SqL.of (g9 _ _ huf),?_);have:=zd pr;rw[wr]at this;rw[lu,orr.1]at hi;omega
  ·rintro i x z T ys' H9 D hz hi hT9 ⟨g9,pr⟩
   obtain⟨nx,ex,rx⟩:=zG pu D;obtain⟨nz,ez,rz⟩:=zG puf hz;have ox:=orr.2 _ (wg ex);have oz:=of' _ (wg ez);have sx:=srr _ (wg ex);have sz:=sf _ (wg ez);have gT:=g9.trans (zc hT9 (.tup [x,z]));refine(T,Z,SqT.of za,V,_,Z,_,Z,V,?_);have gN:=zc hT9 (.tup [x,z]);generalize upd H9 T (.tup [x,z])=H10 at *
   symm
   refine(Z,Z,Z,Z,Z,a',_,_,Z,V,SqL.of (gT _ _ hu),zk euc,Z,k,r[c],nz,uc,z,V,(J,occ,oz,yU J occ (srr _ (wj hcr)) (λe=>by have:=bd2 e;omega) (),yU J oz sz (λe=>by have:=bd2 e;omega) (),ruc.mono gT,rz.mono gT),λv11 H11 g11 r11=>?_);have omm:=zY J occ oz;refine(k,nx,_,x,v11,V,J,ox,omm,yU J ox sx (λe=>by have:=bd2 e;omega) (),yU J omm (yX occ oz (srr _ (wj hcr)) sz) (λe=>by have:=bd2 e;omega) (),(rx.mono gT).mono g11,r11,λv12 H12 g12 r12=>nxt hi ((gT.trans g11).trans g12,?_));have e:(gjR k c f r)[i]?=some (nsub k nx (nmul k r[c] nz)):=by
    unfold gjR;rw[vL,ex,ez];show some (nsub k nx (nmul k (r.getD c (nnum k 0)) nz))=_;rw[ym (wa hcr)]
   rw[zf e];exact zy (zW (gN.trans (g11.trans g12)) pr) r12
  ·rintro ys' H9 ⟨g9,pr⟩ p9 hp9
   have lg:(gjR k c f r).length=us.length:=by unfold gjR;rw[wO,lu,orr.1,lf,GJ]
   rw[← lg,ug]at pr;exact hq8 p9 ys' H9 g9 hp9 pr
 intro rt2 HI GI pt2 hpt2;have NI:=GI.done hpt2;have gI:=GI.same.trans (zc hpt2 (.lst (rt2.map V.ref)));have hL2:=NG.tab.mono GI.same;have hFI:=hF2.mono GI.same;have npt2:pl2≠pt2:=λe=>by
  have:=hL2.1;rw[e,hpt2]at this;cases this
 have nrl2:pt2∉rl2:=λh=>by
  obtain⟨i,hi,ei⟩:=wy h;obtain⟨r,_,rr⟩:=zG hL2.2 (wa hi);obtain⟨us,hus,_⟩:=rr.len;rw[ei,hpt2]at hus;cases hus
 have nplt2:pl2∉rt2:=λh=>by
  have:=NI.fr pl2 h;rw[NG.tab.1]at this;cases this
 have nafp:af≠pt2:=λe=>by
  obtain⟨uf,huf,_⟩:=hFI.len;rw[e,hpt2]at huf;cases huf
 have gHI:=(gHF.trans gG).trans gI;have rI:=(rF.mono gG).mono gI;have hL3:=NG.tab.mono gI;have hF3:=hF2.mono gI;have fpt2:H pt2=none:=(gHF.trans gG).none (GI.same.none hpt2);generalize upd HI pt2 (.lst (rt2.map V.ref))=HJ at *;have lr2:=zd NI.tab.2;rw[wc]at lr2;refine(Z,.inl (V,_,SqL.of NI.tab.1),Z,pt2,_,.ref af,V,V,NI.tab.1,(by rw[wc];omega),?_);refine(Z,_,Z,V,?_);refine(n - (c+1),(),c+1,told.map (gjR k c f)++[f],(left.eraseIdx j).map (gjR k c f),ls++[c],pl2,pt2,rl2,rt2++[af],_,_,Z,zQ gHI fpt2,rI.upd NI.tab.1,hL3.upd npt2 nrl2 NI.tab.1,(by rw[za,wx];rfl,zy (Qv (λx y hy r=>r.upd (λe=>NI.nt (by rw[← e];exact hy)) NI.tab.1) NI.tab.2) (hF3.upd nafp NI.tab.1)),fpl2,NG.nt,?_,npt2,hc,by rw[wc];omega,(by rw[wD,wc];show told.length+1<=c+1;omega,by rw[wD,wc,wc,List.length_eraseIdx_of_lt (wu.mp C).1];show told.length+1 +(left.length - 1)=M.length;omega),?_,?_,turn,V)
 ·intro h
  rcases wq.mp h with h|h
  ·exact nplt2 h
  ·exact naf2 (wp.mp h)
 ·rw[show(told.map (gjR k c f)++[f]).length=told.length+1 by rw[wD,wc];rfl];intro r U x D
  rcases wq.mp U with h|h
  ·obtain⟨r',hr',rfl⟩:=wm.mp h;have o:=okt r' hr';exact(zgu J of' o.2 (by rw[o.1,lf]) (by rw[o.1];exact hc) (sD r' hr') sf x D).mono (by rw[qT];omega)
  ·rw[wp.mp h]at D;exact(sf x D).mono (by rw[qT];omega)
 ·rw[show(told.map (gjR k c f)++[f]).length=told.length+1 by rw[wD,wc];rfl];intro r U x D;obtain⟨r',hr',rfl⟩:=wm.mp U;have o:=okl r' (oke r' hr');exact(zgu J of' o.2 (by rw[o.1,lf]) (by rw[o.1];exact hc) (sL r' (oke r' hr')) sf x D).mono (by rw[qT];omega)
def XA{K:bh}{te:TE}{R:List V->Hp->Prop} f (hT:kac H M t ras) (hz:M.length<sizeLine)
  (hte:∀ r a H' Q,r∈M->Same H H'->kag H' r a->(∀ p H2,Same H' H2->NewR H' H2 (f r) p->Q (.ref p) H2)->te (σb.set 0 (some (.ref a))) H' Q)
  (hd:∀ ras2 H',Grow H H' (M.map f) ras2->R (ras2.map V.ref) H') :
  ∃ W:Nat->Nat->List V->Hp->Prop,(∃ m,W 0 m [] H)/\∀ i m ys H,W i m ys H ->
   ((Itl K t).stop i H/\ys.length<=sizeLine/\R ys H) \/
   ((Itl K t).go i H/\ys.length<sizeLine/\∀ x H',(Itl K t).yld i H x H'->gName 0 x σb H' λσ2 H2=>tTrue σ2 H2 λb H3=>if b=true then te σ2 H3 λy H4=>∃ m',m'<m/\W (i+1) m' (ys++[y]) H4 else ∃ m',m'<m/\W (i+1) m' ys H3):=by
 have hl:=zd hT.2;refine zo (xs:=ras.map V.ref) (λi ys H'=>∃ ras2,ys=ras2.map V.ref/\Grow H H' ((M.map f).take i) ras2) ([],V,Grow.nil H (Same.refl H)) ?_ ?_ ?_
 ·rintro i ys H' hi ⟨ras2,rfl,G⟩
  refine(SqL.of (G.same _ _ hT.1),?_);have:=zd G.rows;rw[wr,wc]at this;rw[wc];omega
 ·rintro i v ys H' hv hi ⟨ras2,rfl,G⟩
  obtain⟨row,a,hrow,ha,rfl,hR⟩:=(hT.mono G.same).row hv;refine gyes (hte row a H' _ (wg hrow) G.same hR λp H2 g2 nr=>?_);refine nxt hi (ras2++[p],by rw[wx];rfl,?_);have e:(M.map f)[i]?=some (f row):=by rw[wk,hrow];rfl
  rw[zf e];exact G.snocR g2 nr.row nr.fa
 ·rintro ys H' ⟨ras2,rfl,G⟩
  rw[wc,← hl,wo (by rw[wc];exact wv _)]at G;exact hd ras2 H' G
def tbf:Nat->Nat
 | 0=>80
 | 1=>484
 | 2=>1696
 | _=>5332
def zga:∀ i,tbf i<=5332
 | 0=>by decide
 | 1=>by decide
 | 2=>by decide
 | _+3=>wv _
def zf2:∀ i,tbf i<=tbf (i+1)
 | 0=>by decide
 | 1=>by decide
 | 2=>by decide
 | _+3=>wv _
def zeP(hn:n<=3):∀ i,i<=2->n *(tbf i+81)+1<=tbf (i+1)
 | 0,_=>by show n*161+1<=484;omega
 | 1,_=>by show n*565+1<=1696;omega
 | 2,_=>by show n*1777+1<=5332;omega
 | _+3,h=>by omega
def zc5{A B:TB}(hb:b∈B):∀ t j,j<=t->powX k A b j∈kry k A B t
 | 0,0,_=>hb
 | 0,j+1,h=>by omega
 | t+1,0,_=>vh _ hb
 | t+1,j+1,h=>wL _ (wm.mpr (powX k A b j,zc5 hb t j (),V))
def ziK:kaa M.length ((kaa c N).map (imgM k M))=kah k c M N:=by
 refine uP (by rw[zF];unfold kah;rw[wc]) λj h1 h2=>?_
 rw[zF]at h1;have e1:=xD (M:=(kaa c N).map (imgM k M)) h1;have e2:(kah k c M N)[j]?=some ((kaa c N).map λcol=>ndot k M[j] col):=by unfold kah;rw[wk,wa h1];rfl
 rw[wa (by rw[zF];exact h1)]at e1;rw[wa h2]at e2;rw[Option.some.inj e1,Option.some.inj e2,vz];refine vo λcol _=>?_
 show(imgM k M col).getD j (.z 0)=_;rw[we];unfold imgM;rw[wk,wa h1];rfl
def zeb(J:kab k)(ox:OkR k x)(oy:OkR k y)(h:x.length=y.length):ndot k x y=ndot k y x:=by
 obtain⟨F,_,_,⟨O⟩⟩:=zD J;refine O.inj (yb J ox oy) (yb J oy ox) ?_;rw[xw O J ox oy h,xw O J oy ox h.symm,h,zM]
def zfy(J:kab k)(oM:OkM k n M)(oA:OkM k n A)(lA:A.length=n):kah k n M A=M.map (imgM k (kaa n A)):=by
 unfold kah imgM;refine vo λr U=>vo λcol hc=>?_
 have oc:=zw oA col hc;exact zeb J (oM r U).2 oc.2 (by rw[(oM r U).1,oc.1,lA])
inductive Zv:Sp
 | mk:∀ k M N b c a0 b0 tM tN rM rN,vs=[.int k,.ref tM,.ref tN]->kab k->kac H M tM rM->kac H N tN rN->OkM k b M->OkM k c N->N.length=b->(∀ r∈M,∀ y∈r,szk k a0 y)->(∀ r∈N,∀ y∈r,szk k b0 y)->a0+b0<=5000000->1<=b->b<=10->1<=c->c<=10->M.length<=10->(∀ t rs H',Same H H'->NewT H H' (kah k c M N) t rs->Q (.ref t) H')->Zv vs H Q E_
def Zl:KnI pg 76 44 Zv:=by
 exists 76,XE,[0,1],zj,XE,zd1
 obtain⟨k,M,N,b,c,a0,b0,tM,tN,rM,rN,rfl,J,hM,hN,oM,oN,lN,sM,sN,ab,b1,b10,c1,c10,r10,q⟩:=h;have szl:=sh
 have nN:N≠[]:=λe=>by rw[e]at lN;simp at lN;omega
 refine(Z,N,c,tN,rN,V,hN,nN,(λr U=>(oN r U).1),(),(),λt1 r1 H1 g1 n1=>?_);have oT:=zw oN;have sT:∀ r∈kaa c N,∀ y∈r,szk k b0 y:=λr U y hy=>by
  unfold kaa at U;obtain⟨j,hj,rfl⟩:=wm.mp U;obtain⟨x,D,rfl⟩:=wm.mp hy;have hl:=(oN x D).1;rw[vA]at hj;rw[we,wa ()];exact sN x D _ (wj _)
 refine(t1,V,(_,SqL.of n1.tab.1),?_);refine XA (imgM k M) n1.tab (by rw[zF];omega) ?_ ?_
 ·intro r a H4 Q4 hr4 g4 hR4 hq4;have orr:=oT r hr4;exact(Z,Z,Z,k,M,r,b,a0,b0,tM,a,rM,V,J,(hM.mono g1).mono g4,hR4,oM,orr.1.trans lN,orr.2,sM,sT r hr4,wE ab (),b10,r10,λp H5 g5 nr _=>hq4 p H5 g5 nr)
 intro rt2 H4 G4 p4 hp4;have N4:=G4.done hp4;have g4:=G4.same.trans (zc hp4 (.lst (rt2.map V.ref)));generalize upd H4 p4 (.lst (rt2.map V.ref))=H5 at *;have len:∀ r∈(kaa c N).map (imgM k M),r.length=M.length:=λr U=>by
  obtain⟨x,_,rfl⟩:=wm.mp U;unfold imgM;exact wc _
 refine((kaa c N).map (imgM k M),M.length,p4,rt2,V,N4.tab,(λe=>by have:=congrArg vO e;rw[wc,zF]at this;simp at this;omega),len,(),by rw[wc,zF];omega,λt rs H6 g6 n6=>?_);rw[ziK]at n6;have g:=g1.trans g4;exact q t rs H6 (g.trans g6) (n6.tab,g.none n6.ft,λr U=>g.none (n6.fr r U),n6.nd,n6.nt)
inductive ZZ:Sp
 | mk:∀(k:Int)(A B bF:TB)(n h s:Nat)(pm ta tb tc:Addr)(ra rb rc:List Addr),vs=[.int k,.ref pm,.int (n:Int)]->kab k->kap H A B bF pm ta tb tc ra rb rc->Fit k n->MOk k n h s 80 A B bF->1<=s->s<=10->(∀ S ps rs H',Same H H'->kac H' S ps rs->OkM k n S->(∀ r∈S,∀ x∈r,szk k 5332 x)->S.length<=100->kas k S (kry k (kaa n A) bF n)->Q (.ref ps) H')->ZZ vs H Q E_
def zbh:KnI pg 90 45 ZZ:=by
 exists 90,[],zj,zi,xC,Zl,zi
 obtain⟨k,A,B,bF,n,h,s,pm,ta,tb,tc,ra,rb,rc,rfl,J,hM,hf,oM,s1,s10,q⟩:=h;have szl:=sh
 have n10:=hf.n10;have n1:=hf.1;have lC:=oM.c.len;have lA:=oM.a.len;have oAt:=xS oM.a;have n3:k=0->n<=3:=λe=>by
  rcases hf.2 with h|h
  ·exact h
  ·exact bw e h.1
 refine((),λp0 hp0=>?_);have g0:=zc hp0 (.lst []);have h0:upd H p0 (.lst []) p0=some (.lst []):=za;generalize upd H p0 (.lst [])=H0 at *;have hM0:=hM.mono g0;refine(Z,pm,_,_,Z,V,SqT.of hM0.tup,V,tc,V,(_,SqL.of hM0.c.1),?_);refine Zc hM0.c () (λa us H2 Q2 ha hq=>(Z,a,us,V,.inl (SqL.of ha),hq)) ?_;intro r1 H1' G1 t1 ht1;have n1':=G1.done ht1;have g1:=G1.same.trans (zc ht1 (.lst (r1.map V.ref)));generalize upd H1' t1 (.lst (r1.map V.ref))=H1 at *;have sz0:∀ r∈bF,∀ x∈r,szk k 80 x:=λr U x D _=>oM.c.sz r U x D
 have sA:∀ r∈A,∀ x∈r,szk k 80 x:=λr U x D _=>oM.a.sz r U x D
 have sAt:∀ r∈kaa n A,∀ x∈r,szk k 80 x:=λr U x D _=>oAt.sz r U x D
 refine(Z,n,V,(),(),?_);have en:((n:Int)).toNat=n:=by omega
 rw[en]
 let Pv1_:Nat->L2.St->Hp->Prop:=λi L H'=>∃(S:TB)(ps pt:Addr)(rs rt:List Addr)(o7:Option V),L=[some (.int k),some (.ref pm),some (.int (n:Int)),some (.ref ps),some (.ref pt),o7]/\Same H H'/\kac H' S ps rs/\kac H' ((bF).map λb=>powX k (kaa n A) b i) pt rt/\(∀ r,r∈S↔∃ b∈bF,∃ j,j<i/\r=powX k (kaa n A) b j)/\S.length=i*s/\(∀ r∈S,∀ x∈r,szk k (tbf i) x)/\(∀ r∈(bF).map λb=>powX k (kaa n A) b i,∀ x∈r,szk k (tbf i) x)/\OkM k n S/\OkM k n ((bF).map λb=>powX k (kaa n A) b i)
 refine zS (lo:=0) (n:=n) Pv1_ ([],p0,t1,[],r1,none,V,g0.trans g1,(g1 _ _ h0,.nil),(by rw[show((bF).map λb=>powX k (kaa n A) b 0)=bF from wbb _];exact n1'.tab),(λr=>((λh=>nomatch h),λ⟨_,_,j,hj,_⟩=>bw hj (ue _))),(by rw[wa9];rfl),(λ_ h=>nomatch h),(by rw[show((bF).map λb=>powX k (kaa n A) b 0)=bF from wbb _];exact sz0),(λ_ h=>nomatch h),(by rw[show((bF).map λb=>powX k (kaa n A) b 0)=bF from wbb _];exact oM.c.ok)) ?_ ?_
 ·rintro i L H2 hi ⟨S,ps,pt,rs,rt,o7,rfl,g,hS,hT,eS,lS,sS,sT,oS,oT⟩
  have lrs:=zd hS.2;have lrt:=zd hT.2;rw[wc,lC]at lrt;have ih:i*s<=10*10:=vN () s10;refine(Z,Z,ps,pt,_,Z,V,hS.1,hT.1,(by rw[wc,wc];omega),λp2 hp2=>?_);have g2:=zc hp2 (.lst (rs.map V.ref++rt.map V.ref));have hS2:kac (upd H2 p2 (.lst (rs.map V.ref++rt.map V.ref))) (S ++(bF).map λb=>powX k (kaa n A) b i) p2 (rs++rt):=(by rw[za,wx],yt (λ_ _ r=>r.mono g2) (xX hS.2 hT.2));have hT2:=hT.mono g2;have gg:=g.trans g2;generalize upd H2 p2 (.lst (rs.map V.ref++rt.map V.ref))=H3 at *;have hM3:=hM.mono gg;have tl:=zga i;refine(Z,Z,Z,pm,_,_,Z,V,SqT.of hM3.tup,V,k,bF.map (λb=>powX k (kaa n A) b i),A,n,n,tbf i,80,pt,ta,rt,ra,V,J,hT2,hM3.a,oT,oM.a.ok,lA,sT,sA,(),n1,n10,n1,n10,by rw[wc];omega,λp4 rt2 H4 g4 N4=>?_);rw[zfy J oT oM.a.ok lA]at N4;have em:((bF).map λb=>powX k (kaa n A) b i).map (imgM k (kaa n A)) =(bF).map λb=>powX k (kaa n A) b (i+1):=by rw[vz];rfl
  rw[em]at N4;have oN:OkM k n ((bF).map λb=>powX k (kaa n A) b (i+1)):=by
   rw[← em];intro r U;obtain⟨x,D,rfl⟩:=wm.mp U;have:=YW J oAt.ok (oT x D).2;exact(this.1.trans oAt.len,this.2)
  refine(S ++(bF).map λb=>powX k (kaa n A) b i,p2,p4,rs++rt,rt2,Z,gg.trans g4,hS2.mono g4,N4.tab,λr=>(λU=>?_,λ⟨b,hb,j,hj,e⟩=>?_),by rw[wD,wc,lC,lS,gK,uW],λr U x D=>?_,λr U x D k0=>?_,λr U=>?_,oN)
  ·rcases wq.mp U with h'|h'
   ·obtain⟨b,hb,j,hj,e⟩:=(eS r).mp h';exact(b,hb,j,(),e)
   ·obtain⟨b,hb,rfl⟩:=wm.mp h';exact(b,hb,i,(),V)
  ·rcases vC (vM hj)with h'|h'
   ·exact vh _ ((eS r).mpr (b,hb,j,h',e))
   ·rw[e,h'];exact wL _ (wm.mpr (b,hb,V))
  ·rcases wq.mp U with h'|h'
   ·exact(sS r h' x D).mono (zf2 i)
   ·exact(sT r h' x D).mono (zf2 i)
  ·rw[← em]at U;obtain⟨y,hy,rfl⟩:=wm.mp U;unfold imgM at D;obtain⟨r',hr',rfl⟩:=wm.mp D;have oy:=oT y hy;have or':=oAt.ok r' hr';have:=QG (a:=80) (b:=tbf i) J (r'.zip y) (λpq C=>(or'.2 _ (vt C).1,oy.2 _ (vt C).2,sAt r' hr' _ (vt C).1,sT y hy _ (vt C).2)) (r'.zip y).length (wv _);rw[ug]at this;refine(this.mono ?_) k0;have lz:(r'.zip y).length=n:=by rw[uB,or'.1,oy.1,GJ]
   rw[lz,show 80+tbf i+1=tbf i+81 by omega];exact zeP (n3 k0) i (by have:=n3 k0;omega)
  ·rcases wq.mp U with h'|h'
   ·exact oS r h'
   ·exact oT r h'
 ·rintro L H2 ⟨S,ps,pt,rs,rt,o7,rfl,g,hS,hT,eS,lS,sS,sT,oS,oT⟩
  have ih:n*s<=10*10:=vN n10 s10;have tl:=zga n;refine(Z,q S ps rs H2 g hS oS (λr U x D=>(sS r U x D).mono tl) () λF _ O v=>?_);have e1:Rm O S v↔Rm O (kry k (kaa n A) bF (n - 1)) v:=by
   constructor
   ·refine λhv=>hv.mono λu ⟨r,U,e⟩=>(r,?_,e)
    obtain⟨b,hb,j,hj,rfl⟩:=(eS r).mp U;exact zc5 hb (n - 1) j ()
   ·refine λhv=>hv.mono λu ⟨r,U,e⟩=>(r,?_,e)
    obtain⟨b,hb,j,hj,e'⟩:=jF (n - 1) r U;exact(eS r).mpr (b,hb,j,(),e')
  rw[e1]
  constructor
  ·intro hv;have:=jR J oAt.ok oAt.len oM.c.ok (n - 1) v hv;rw[show n - 1+1=n by omega]at this;exact this
  ·exact zaO J oAt.ok oAt.len oM.c.ok n1 v
def zfA(hl:l<n)(C:p l=true)(hn:∀ j,j<l->p j=false):((wQ n).filter p)[0]?=some l:=by
 rw[← List.head?_eq_getElem?,List.head?_filter,List.find?_range_eq_some];exact(C,vA.mpr hl,λj hj=>by rw[hn j hj];rfl)
def zg6(oy:y.ok k)(h:szk k m y):szk k m (nsub k (nnum k 0) y):=λk0=>by
 subst k0;have h':=h rfl;cases y with
 | z i=>exact bw rfl oy.1
 | q r =>
  show Sm m (((0:Int):Rat) - r).num/\Sm m ((((0:Int):Rat) - r).den:Int);have e:((0:Int):Rat) - r = -r:=by grind
  rw[e];exact((show Sm m (-r.num)from h'.1.neg),h'.2)
def zgA:kad k n f =(wK n (nnum k 0)).set f (nnum k 1):=by
 refine Gm λj=>?_
 unfold kad
 by_cases h:j<n
 ·rw[wk,wZ h]
  by_cases e:f=j
  ·subst e;rw[uk (by rw[vf];exact h)];show some (if f=f then _ else _)=_;rw[bj rfl]
  ·rw[uh e,uy,bj h];show some (if f=j then _ else _)=_;rw[bn e]
 ·rw[wR (by rw[wc,ve];omega),wR (by rw[vv,vf];omega)]
def zeJ(h:r<=n)(n3:n<=3):bdR (bdR 5332 r) (n - r)<=1000000:=by
 rcases (show n=0\/n=1\/n=2\/n=3 by omega)with e|e|e|e <;> subst e <;> rcases (show r=0\/r=1\/r=2\/r=3 by omega)with e|e|e|e <;> subst e <;> first|omega|decide
inductive ZT:Sp
 | mk:∀(k:Int)(n:Nat)(M:TB)(t:Addr)(ras:List Addr),vs=[.int k,.ref t,.int (n:Int)]->KindS k->kac H M t ras->OkM k n M->(∀ r∈M,∀ x∈r,szk k 5332 x)->((k=0->n<=3))->1<=n->n<=10->M.length<=1000->(∀ bC lu t' rs H',Same H H'->kac H' bC t' rs->IsRa k n bC lu->(∀ F [bf F] (O:Kf k F) v,Rm O bC v↔perp n (Rm O M) v)->(∀ r∈bC,∀ x∈r,szk k 1000000 x)->Q (.ref t') H')->ZT vs H Q E_
def zbO:KnI pg 91 45 ZT:=by
 exists 91,Zf,zj,ze,[5,0],Jx,ze,ya,[0,7],ya,yu,xB,ya,ze,ze,ze,Zf
 obtain⟨k,n,M,t,ras,rfl,hs,hT,oM,sM,n3,n1,n10,lM,q⟩:=h;have J:=hs.ok;have szl:=sh
 refine(Z,Z,k,n,5332,M,t,ras,V,hs,hT,oM,sM,n3,n10,(λe=>wE (qb _ (show min n M.length<=3 by have:=n3 e;omega)) ()),lM,λR ls top rs H1 g1 hR isR eR sR=>?_);obtain⟨oR,lls,inc,llt⟩:=ye J isR;have nd:= inc.imp λh=>vp h
 obtain⟨F0,i0,d0,⟨φ0⟩⟩:=zD J;have lrs:=zd hR.2;have lRn:=yC J isR;have z0:=zm J 0;refine((),λpL hpL=>?_);have g2:=zc hpL (.lst []);have hL2:upd H1 pL (.lst []) pL=some (.lst (natV (ls.take 0))):=za;have T2:=hR.mono g2;have nLt:top≠pL:=λe=>by rw[← e,hR.1]at hpL;cases hpL
 have nLr:pL∉rs:=Zh hR hpL;have fL:H pL=none:=g1.none hpL;have gH2:=g1.trans g2;generalize upd H1 pL (.lst [])=H2 at *;refine(Z,top,V,(_,SqL.of T2.1),?_)
 let Pv1_:Nat->L2.St->Hp->Prop:=λi L H'=>∃ o5,L=[some (.int k),some (.ref t),some (.int (n:Int)),some (.ref top),some (.ref pL),o5,none,none,none,none]/\Same H H'/\kac H' R top rs/\H' pL=some (.lst (natV (ls.take i)))
 refine yl (xs:=rs.map V.ref) Pv1_ (none,V,gH2,T2,hL2) ?_ ?_ ?_
 ·rintro i L H' _ ⟨o5,rfl,g,T,_⟩
  exact SqL.of T.1
 ·rintro i v L H' hv ⟨o5,rfl,g,T,hL⟩
  obtain⟨row,a,hrow,ha,rfl,hRow⟩:=T.row hv;have iR:i<R.length:=(wu.mp hrow).1;obtain⟨l,hl⟩ : ∃ l,ls[i]?=some l:=(ls[i]'(),wa ());obtain⟨ln,lz,l1⟩:=Zu J (isR F0 φ0) hrow hl;have orow:=oR row (wg hrow);obtain⟨us,hu,pu,lu⟩:=hRow.len;refine(Z,.inl (V,_,SqL.of hL),Z,n,V,(),(),?_);rw[wS]
  let Pv2_:Nat->List V->Hp->Prop:=λj ys H6=>Same H' H6/\ys=natV (((wQ n).take j).filter λj=>!decide (row.getD j (nnum k 0)=nnum k 0))
  refine zO (lo:=0) (n:=n) Pv2_ (Same.refl _,V) ?_ ?_ ?_
  ·rintro j ys H6 hj ⟨g6,rfl⟩
   unfold natV;have e3:=uo (λj=>!decide (row.getD j (nnum k 0)=nnum k 0)) ((wQ n).take j);rw[wr,ve]at e3;rw[wc];omega
  ·rintro j ys H6 hj ⟨g6,rfl⟩
   have hjr:j<row.length:=by rw[orow.1];exact hj
   have ec:row[j]?=some row[j]:=wa hjr;obtain⟨u,eu,ru⟩:=zJ (zW g6 pu) ec;refine(Z,Z,a,_,_,Z,V,SqL.of (g6 _ _ hu),(by rw[vB];exact zk eu),Z,k,0,V,J,λv0 H7 g7 r0=>?_);refine(toD row[j],toD (nnum k 0),ru.mono g7,r0,yy _,yy _,wE (uC _ _) (wE (yO _) ()),Z,?_);rw[jh];have ei:(wQ n)[j]?=some j:=wZ hj
   by_cases hz:row[j]=nnum k 0
   ·rw[br hz];refine iteF (nxt hj (g6.trans g7,?_));rw[yA _ ei,bn (by rw[ym ec,br hz];decide),uL]
   ·rw[bq hz];refine iteT (Z,nxt hj (g6.trans g7,?_));rw[yA _ ei,bj (by rw[ym ec,bq hz];rfl),vB];unfold natV;rw[wx];rfl
  ·rintro ys H6 ⟨g6,rfl⟩ pc hpc
   rw[wo (by rw[ve];exact wv _)];have fe:(natV ((wQ n).filter λj=>!decide (row.getD j (nnum k 0)=nnum k 0)))[0]?=some (.int (l:Int)):=by
    unfold natV;rw[wk,zfA ln (by rw[ym l1,bq (num01 J)];rfl) λj hj=>by rw[ym (lz j hj),br rfl];rfl];rfl
   have g7:=zc hpc (.lst (natV ((wQ n).filter λj=>!decide (row.getD j (nnum k 0)=nnum k 0))));have g67:=g6.trans g7;have hL7:=g67 _ _ hL;have T7:=T.mono g67;refine(pc,_,_,.int (l:Int),V,V,SqL.of za,zk (j:=0) fe,?_);generalize upd H6 pc (.lst (natV ((wQ n).filter λj=>!decide (row.getD j (nnum k 0)=nnum k 0))))=H7 at *;have lt:=wr (i:=i) (l:=ls);refine(pL,_,Z,V,hL7,(by unfold natV;rw[wc];omega),?_);refine(Z,zQ (g.trans g67) fL,T7.upd nLt nLr hL7,?_);rw[zf hl,za];unfold natV;rw[wx];rfl
 rintro L H3 ⟨o5,rfl,g3,T3,hL3⟩
 rw[wc,← lrs,wo ()]at hL3;refine((),λpT hpT=>?_);have g4:=zc hpT (.lst []);have hT4:upd H3 pT (.lst []) pT=some (.lst []):=za;have T4:=T3.mono g4;have hL4:=g4 _ _ hL3;have fT:H pT=none:=g3.none hpT;have gH4:=g3.trans g4;clear hT T2 hL2 gH2;generalize upd H3 pT (.lst [])=H4 at *;refine(Z,n,V,(),(),?_);rw[wS]
 let Pv3_:Nat->L2.St->Hp->Prop:=λi L H'=>∃(A:TB)(ras2:List Addr)(o7 o8 o9:Option V),L=[some (.int k),some (.ref t),some (.int (n:Int)),some (.ref top),some (.ref pL),o5,some (.ref pT),o7,o8,o9]/\Grow H3 H' A ras2/\H' pT=some (.lst (ras2.map V.ref))/\pT∉ras2/\Paired (λf xs=>AgR k n R ls f xs) (((wQ n).take i).filter λf=>!decide (f∈ls)) A/\(∀ r∈A,∀ x∈r,szk k (bdR 5332 R.length) x)
 refine zS (lo:=0) (n:=n) Pv3_ ([],[],none,none,none,V,Grow.nil H3 g4,hT4,(λh=>nomatch h),by simp;exact .nil,(λ_ h=>nomatch h)) ?_ ?_
 ·rintro i L H5 hi ⟨A,ras2,o7,o8,o9,rfl,G,hT5,nT,pA,sA⟩
  have e1:=zd G.rows;have e2:=zd pA;have e3:=uo (λf=>!decide (f∈ls)) ((wQ n).take i);rw[wr,ve]at e3;have ei:(wQ n)[i]?=some i:=wZ hi;refine(Z,Z,pL,Z,.inl (SqL.of (G.same _ _ hL3)),V,XL ls,Z,?_);have ein:(if true=true then !inV (V.int (0 +(i:Int))) (natV ls)else inV (V.int (0 +(i:Int))) (natV ls))=!decide (i∈ls):=by rw[bj rfl,vB,zdD]
  rw[ein];refine ite2 (λc=>?_) (λc=>?_)
  ·have nm:i∉ls:=λhm=>by rw[br hm]at c;exact bw c ()
   refine(Z,n,V,(),(),?_);rw[wS];have lU:(kad k n i).length=n:=by unfold kad;simp
   let Pv4_:Nat->List V->Hp->Prop:=λj ys' H6=>Same H5 H6/\Paired (RN H6) ((kad k n i).take j) ys'
   refine zO (lo:=0) (n:=n) Pv4_ (Same.refl _,.nil) ?_ ?_ ?_
   ·rintro j ys' H6 hj ⟨g6,pr6⟩
    have:=zd pr6;rw[wr]at this;omega
   ·rintro j ys' H6 hj ⟨g6,pr6⟩
    symm
    refine(Z,Z,Z,V,.inr (Z,k,Z,J,λv H7 g7 r7=>nxt hj (g6.trans g7,?_)));have e:(kad k n i)[j]?=some (if i=j then nnum k 1 else nnum k 0):=by unfold kad;rw[wk,wZ hj];rfl
    rw[zf e];refine zy (zW g7 pr6) ?_
    by_cases c:i=j
    ·rw[bj c];rw[c,br rfl]at r7;exact r7
    ·rw[bn c];rw[bq (λz=>c (by have:=V.int.inj z;omega))]at r7;exact r7
   rintro ys' H6 ⟨g6,pr6⟩ p1 hp1
   rw[wo ()]at pr6;have g7:=zc hp1 (.lst ys');have h1:upd H6 p1 (.lst ys') p1=some (.lst ys'):=za;have pr7:=zW g7 pr6;have g57:=g6.trans g7;have f1:H5 p1=none:=g6.none hp1;generalize upd H6 p1 (.lst ys')=H7 at *;have st:=AgI.start J hi R ls;rw[← zgA]at st;have sU:∀ y∈kad k n i,szk k (bdR 5332 R.length) y:=λy hy k0=>by
    unfold kad at hy;obtain⟨j,_,rfl⟩:=wm.mp hy;have b1:=zce 5332 R.length;subst k0
    split
    ·exact(kax.mono b1,kax.mono b1)
    ·exact(yg _,kax.mono b1)
   have T5:=T3.mono G.same;have hL5:=G.same _ _ hL3;refine(Z,top,Z,.inl (SqL.of (g57 _ _ T5.1)),Z,(by rw[wc];omega),(by rw[wc];omega),?_);rw[wc,← lrs,wS]
   let Pv5_:Nat->L2.St->Hp->Prop:=λe L H'=>∃(x:List Nb)(us:List V)(o9:Option V),L=[some (.int k),some (.ref t),some (.int (n:Int)),some (.ref top),some (.ref pL),o5,some (.ref pT),some (.int (0 +(i:Int))),some (.ref p1),o9]/\Same H5 H'/\H' p1=some (.lst us)/\Paired (RN H') x us/\AgI k n R ls i e x/\(∀ y∈x,szk k (bdR 5332 R.length) y)
   refine zS (lo:=0) (n:=R.length) Pv5_ (_,_,o9,V,g57,h1,pr7,st,sU) ?_ ?_
   ·rintro e L H8 he ⟨x,us,o9',rfl,g8,h8,px,tI,sx⟩
    have hrow:R[e]?=some R[e]:=wa he;obtain⟨l,hl⟩ : ∃ l,ls[e]?=some l:=(ls[e]'(),wa ());obtain⟨ln,lz,l1⟩:=Zu J (isR F0 φ0) hrow hl;have orow:=oR R[e] (wj he);have hfr:i <(R[e]).length:=by rw[orow.1];exact hi
    have oy:=orow.2 _ (wj hfr);have sy:=sR R[e] (wj he) _ (wj hfr);refine(Z,Z,k,0,V,J,λv2 H9 g9 r2=>?_);obtain⟨a,ea,ra⟩:=zJ ((T5.mono g8).mono g9).2 hrow;obtain⟨ua,hua,pua,lua⟩:=ra.len;obtain⟨vy,ey,ry⟩:=zJ pua (wa hfr);have bb:k=0->bdR 5332 R.length<=30000000:=λe0=>wE (qb 5332 (show R.length<=3 by have:=n3 e0;omega)) ()
    refine(Z,Z,top,_,_,.ref a,V,V,SqL.of (g9 _ _ (g8 _ _ T5.1)),(by rw[vB];exact zk (by rw[wk,ea];rfl)),Z,a,_,_,vy,V,V,SqL.of hua,(by rw[vB];exact zk ey),k,nnum k 0,_,v2,vy,V,J,z0,oy,(yc J (yg 61) ()).mono (),yU J oy sy bb (),r2,ry,λv10 H10 g10 r10=>?_);have g810:=g9.trans g10;have h10:=g810 _ _ h8;have lus:=zd px;refine(Z,Z,Z,pL,_,_,.int (l:Int),V,V,SqL.of (g810 _ _ (g8 _ _ hL5)),(by rw[vB];exact zk (by unfold natV;rw[wk,hl];rfl)),?_);refine(p1,_,_,l,V,V,h10,xa (by rw[← lus,tI.len];exact ln),?_);refine(_,_,Z,zQ (g8.trans g810) f1,za,yG h10 (jN (zW g810 px) l r10),tI.step J nd nm hl hrow (wa hfr) oy ln,λy hy=>?_)
    rcases zL hy with h|h
    ·rw[h];exact zg6 oy sy
    ·exact sx y h
   ·rintro L H8 ⟨x,us,o9',rfl,g8,h8,px,tI,sx⟩
    have hT8:=g8 _ _ hT5;refine(Z,.inl (V,_,SqL.of hT8),Z,pT,_,Z,V,hT8,(by rw[wc];omega),?_);obtain⟨G2,nm2⟩:=G.pushR (zs':=(ras2.map V.ref)++[.ref p1]) hpT hT5 nT g8 f1 (us,h8,px);refine(A++[x],ras2++[p1],_,_,Z,G2,by rw[za,wx];rfl,nm2,?_,λr U=>?_)
    ·rw[yA _ ei,bj (by rw[bq nm];rfl)];exact zy pA (tI.done lls)
    ·rcases wq.mp U with h|h
     ·exact sA r h
     ·rw[wp.mp h];exact sx
  ·have hm:i∈ls:=vV λnm=>c (by rw[bq nm];rfl)
   refine(A,ras2,_,_,Z,G,hT5,nT,?_,sA);rw[yA _ ei,bn (by rw[br hm];exact vg),uL];exact pA
 ·rintro L H5 ⟨A,ras2,o7,o8,o9,rfl,G,hT5,nT,pA,sA⟩
  rw[wo (by rw[ve];exact wv _)]at pA;have lA:=zd pA;have efr:kak n ls =(wQ n).filter λf=>!decide (f∈ls):=rfl
  rw[← efr]at pA lA;have fl:=jP J isR;have oA:OkM k n A:=λr U=>by
   obtain⟨f,_,ag⟩:=jT pA U;exact(ag.len,ag.ok)
  have bth:k=0->bdR (bdR 5332 R.length) A.length<=1000000:=λe=>by
   rw[show A.length=n - R.length by omega];exact zeJ lRn (n3 e)
  refine(Z,Z,k,n,bdR 5332 R.length,A,pT,ras2,V,hs,(hT5,G.rows),oA,sA,n3,n10,(λe=>wE (qb _ (wbs _ _)) (wE (bth e) ())),(),λbC lu t' rs' H6 g6 hU isU eU sU=>?_);refine q bC lu t' rs' H6 ((g3.trans G.same).trans g6) hU isU (λF _ O v=>?_) λr U x D k0=>((sU r U x D) k0).mono ?_
  ·have C:=xl (isR F O) J (jr n ls) (yw n ls) lA (λi f xs h1 h2=>yq pA h1 h2) v;rw[eU F O v,C];exact(λh=>(h.1,λu hu=>h.2 u ((eR F O u).mpr hu)),λh=>(h.1,λu hu=>h.2 u ((eR F O u).mp hu)))
  ·have lU:=zbP J oA (YX isU eU);exact wE (qb _ lU) (bth k0)
def ppL(k:Int)(p q:List Nb):List Nb:=(wQ (max p.length q.length)).map λj=>if j<q.length then nadd k (p.getD j (nnum k 0)) (q.getD j (nnum k 0))else p.getD j (nnum k 0)
def xP(J:kab k)(h:OkR k p) j:(p.getD j (nnum k 0)).ok k:=by
 rw[we];cases e:p[j]? with
 | none=>exact zm J 0
 | some x=>exact h x (wg e)
def yT(J:kab k){p:List Nb}(m7:61<=m)(h:∀ x∈p,szk k m x) j:szk k m (p.getD j (nnum k 0)):=by
 rw[we];cases e:p[j]? with
 | none=>exact λ_=>yc J (yg m) m7
 | some x=>exact h x (wg e)
def QC:(ppL k p q).length=max p.length q.length:=by unfold ppL;simp
def zcz(h:j<max p.length q.length):(ppL k p q)[j]?=some (if j<q.length then nadd k (p.getD j (nnum k 0)) (q.getD j (nnum k 0))else p.getD j (nnum k 0)):=by
 unfold ppL;rw[wk,wZ h];rfl
def zjA(J:kab k)(C:OkR k p)(hq:OkR k q):OkR k (ppL k p q):=λx D=>by
 unfold ppL at D;obtain⟨j,_,rfl⟩:=wm.mp D
 split
 ·exact yk J (xP J C j) (xP J hq j)
 ·exact xP J C j
def zjw(J:kab k)(a7:61<=m1)(b7:61<=m2)(C:OkR k p)(hq:OkR k q)(sp:∀ x∈p,szk k m1 x)(sq:∀ x∈q,szk k m2 x):∀ x∈ppL k p q,szk k (m1+m2+1) x:=λx D=>by
 unfold ppL at D;obtain⟨j,_,rfl⟩:=wm.mp D
 split
 ·exact YC (xP J C j) (xP J hq j) (yT J a7 sp j) (yT J b7 sq j)
 ·exact(yT J a7 sp j).mono ()
def ziA(J:kab k)(C:OkR k p)(hq:OkR k q)[bf F](O:Kf k F) j:nv O (ppL k p q) j=nv O p j+nv O q j:=by
 rcases wJ j (max p.length q.length)with h|h
 ·rw[zH O (zcz h)]
  by_cases c:j<q.length
  ·rw[bj c,O.add (xP J C j) (xP J hq j)];rfl
  ·rw[bn c,zI O (xs:=q) ()];show nv O p j=nv O p j+0
   grind
 ·rw[zI O (by rw[QC];exact h),zI O (),zI O ()]
  grind
inductive za2:Sp
 | mk:∀ k p q m1 m2 a b,vs=[.int k,.ref a,.ref b]->kab k->kag H p a->kag H q b->OkR k p->OkR k q->(∀ x∈p,szk k m1 x)->(∀ x∈q,szk k m2 x)->61<=m1->61<=m2->((k=0->m1<=60000000/\m2<=60000000))->p.length<=100->q.length<=100->(∀ r H',Same H H'->NewR H H' (ppL k p q) r->Q (.ref r) H')->za2 vs H Q E_
def nsm60(J:kab k)(o:x.ok k)(h:szk k m x)(b:k=0->m<=60000000):nsm 60000000 x:=by
 by_cases k0:k=0
 ·exact(h k0).mono (b k0)
 ·exact(jz J k0 o).mono ()
def zeV:KnI pg 92 43 za2:=by
 exists 92,ya,ze,ji,ze
 obtain⟨k,p,q',m1,m2,a,b,rfl,J,ha,hb,op,oq,sp,sq,a7,b7,bd,lp,lq,q⟩:=h;have szl:=sh
 obtain⟨ua,hua,pua,lua⟩:=ha.len;obtain⟨ub,hub,pub,lub⟩:=hb.len;refine((),λpt hpt=>?_);have g0:=zc hpt (.lst []);refine(Z,a,Z,.inl (SqL.of (g0 _ _ hua)),Z,b,Z,.inl (SqL.of (g0 _ _ hub)),_,Z,Z,(by split <;> omega),(by split <;> omega),?_);have eN:(if (ub.length:Int) >(ua.length:Int)then(ub.length:Int)else(ua.length:Int)).toNat=max p.length q'.length:=by split <;> omega
 rw[eN];have lL:=QC (k:=k) (p:=p) (q:=q')
 let Pv1_:Nat->L2.St->Hp->Prop:=λi L H'=>∃ us o4 o5,L=[some (.int k),some (.ref a),some (.ref b),some (.ref pt),o4,o5]/\Same H H'/\H' pt=some (.lst us)/\Paired (RN H') ((ppL k p q').take i) us
 refine zS (lo:=0) (n:=max p.length q'.length) Pv1_ ([],none,none,V,g0,za,.nil) ?_ ?_
 ·rintro i L H1 hi ⟨us,o4,o5,rfl,g1,ht1,pu1⟩
  rw[vB];refine(Z,k,0,V,J,λv2 H2 g2 r2=>?_)
  try dsimp only
  let Pv2_:L2.St->Hp->Prop:=λL H'=>∃ v,L=[some (.int k),some (.ref a),some (.ref b),some (.ref pt),some (.int (i:Int)),some v]/\Same H1 H'/\RN H' (p.getD i (nnum k 0)) v
  refine jb Pv2_ ?_ ?_
  rotate_left
  ·intro hN;refine(Z,Z,a,Z,.inl (SqL.of (g2 _ _ (g1 _ _ hua))),_,Z,V,Z,?_);refine ite2 (λcc=>?_) (λcc=>?_)
   ·have ci:i<ua.length:=by have:(i:Int) <(ua.length:Int):=bt cc;omega
    obtain⟨x,D,rx⟩:=zG pua (wa ci);refine(Z,Z,a,_,_,Z,V,SqL.of (g2 _ _ (g1 _ _ hua)),zk (wa ci),hN _ _ (Z,g2,?_));rw[we,D];exact(rx.mono g1).mono g2
   ·have ci:¬ i<ua.length:=by have:¬(i:Int) <(ua.length:Int):=bv (uv.mpr cc);omega
    refine hN _ _ (Z,g2,?_);rw[we,wR ()];exact r2
  rintro L H3 ⟨v3,rfl,g3,r3⟩
  have g03:=g1.trans g3
  try dsimp only
  let Pv3_:L2.St->Hp->Prop:=λL H'=>∃ v,L=[some (.int k),some (.ref a),some (.ref b),some (.ref pt),some (.int (i:Int)),some v]/\Same H3 H'/\RN H' (if i<q'.length then nadd k (p.getD i (nnum k 0)) (q'.getD i (nnum k 0))else p.getD i (nnum k 0)) v
  refine jb Pv3_ ?_ ?_
  rotate_left
  ·intro hN;refine(Z,Z,b,Z,.inl (SqL.of (g03 _ _ hub)),_,Z,V,Z,?_);refine ite2 (λcc=>?_) (λcc=>?_)
   ·have ci:i<ub.length:=by have:(i:Int) <(ub.length:Int):=bt cc;omega
    obtain⟨x,D,rx⟩:=zG pub (wa ci);have ex:q'.getD i (nnum k 0)=x:=by rw[we,D];rfl
    refine(Z,Z,Z,Z,b,_,_,Z,V,SqL.of (g03 _ _ hub),zk (wa ci),k,p.getD i (nnum k 0),x,_,Z,(J,xP J op i,oq x (wg D),nsm60 J (xP J op i) (yT J a7 sp i) (λh=>(bd h).1),nsm60 J (oq x (wg D)) (sq x (wg D)) (λh=>(bd h).2),r3,rx.mono g03),λv4 H4 g4 r4=>hN _ _ (Z,g4,?_));rw[bj (),ex];exact r4
   ·have ci:¬ i<ub.length:=by have:¬(i:Int) <(ub.length:Int):=bv (uv.mpr cc);omega
    refine hN _ _ (Z,Same.refl _,?_);rw[bn ()];exact r3
  rintro L H4 ⟨v4,rfl,g4,r4⟩
  have ht4:=g4 _ _ (g3 _ _ ht1);have lu:=zd pu1;rw[wr]at lu;refine(Z,.inl (V,_,SqL.of ht4),Z,pt,us,Z,V,ht4,(),?_);refine(us++[v4],_,Z,zQ (g03.trans g4) hpt,za,?_);rw[zf (zcz hi)];exact yG ht4 (zy (zW (g3.trans g4) pu1) r4)
 ·rintro L H1 ⟨us,o4,o5,rfl,g1,ht1,pu1⟩
  rw[wo ()]at pu1;exact(Z,q pt H1 g1 ((us,ht1,pu1),hpt))
inductive XS:Sp
 | mk:∀(k:Int)(p q:List Nb)(m1 m2:Nat)(a b:Addr),vs=[.int k,.ref a,.ref b]->kab k->kag H p a->kag H q b->OkR k p->OkR k q->(∀ x∈p,szk k m1 x)->(∀ x∈q,szk k m2 x)->61<=m1->61<=m2->((k=0->61+p.length *(m1+m2+1)<=60000000))->1<=p.length->1<=q.length->p.length<=10->q.length<=10->(∀ xs r H',Same H H'->NewR H H' xs r->xs.length=p.length+q.length - 1->OkR k xs->(∀ x∈xs,szk k (61+p.length *(m1+m2+1)) x)->(∀ F [bf F] (O:Kf k F) j,nv O xs j=La.pmu j (nv O p) (nv O q))->Q (.ref r) H')->XS vs H Q E_
def Jw:KnI pg 93 43 XS:=by
 exists 93,[0],zT,ya,ji,ze,zT,yD,ze,ze,zT
 obtain⟨k,p,q',m1,m2,a,b,rfl,J,ha,hb,op,oq,sp,sq,a7,b7,bd,lp1,lq1,lp,lq,q⟩:=h;have szl:=sh
 obtain⟨ua,hua,pua,lua⟩:=ha.len;obtain⟨ub,hub,pub,lub⟩:=hb.len;refine(Z,a,Z,.inl (SqL.of hua),Z,b,Z,.inl (SqL.of hub),_,Z,V,_,Z,V,_,Z,Z,(by split <;> omega),(by split <;> omega),?_);have eN:(if (ua.length:Int)+ub.length - 1 > 0 then(ua.length:Int)+ub.length - 1 else 0).toNat=p.length+q'.length - 1:=by split <;> omega
 rw[eN]
 let Pv1_:Nat->List V->Hp->Prop:=λi ys H'=>Same H H'/\Paired (RN H') (wK i (nnum k 0)) ys
 refine zO Pv1_ (Same.refl _,.nil) ?_ ?_ ?_
 ·rintro i ys H' hi ⟨g,pr⟩
  have:=zd pr;rw[vf]at this;omega
 ·rintro i ys H' hi ⟨g,pr⟩
  symm
  refine(Z,k,0,V,J,λv H2 g2 r2=>nxt hi (g.trans g2,?_));rw[uZ];exact zy (zW g2 pr) r2
 rintro ys H1 ⟨g1,pr1⟩ pt hpt
 have ptH:= g1.none hpt;have g2:=zc hpt (.lst ys);have z0:∀(F:Type) [bf F] (O:Kf k F) (m:Nat),nv O (wK (p.length+q'.length - 1) (nnum k 0)) m=mulT (nv O p) (nv O q') 0 m +(if 0<=m/\m<0+0 then nv O p 0*nv O q' (m - 0)else 0):=λF _ O m=>by
  rw[bn ()];have e:nv O (wK (p.length+q'.length - 1) (nnum k 0)) m=0:=by
   rcases wJ m (p.length+q'.length - 1)with h|h
   ·rw[zH O (by rw[uy,bj h])];exact O.num0
   ·exact zI O (by rw[vf];exact h)
  rw[e];show(0:F)=0+0
  grind
 refine(Z,a,Z,.inl (SqL.of (g2 _ _ (g1 _ _ hua))),Z,(),(),?_);rw[wS,lua]
 let Pv2_:Nat->L2.St->Hp->Prop:=λi L H'=>∃ xs us o4 o5,L=[some (.int k),some (.ref a),some (.ref b),some (.ref pt),o4,o5]/\Same H H'/\H' pt=some (.lst us)/\Paired (RN H') xs us/\xs.length=p.length+q'.length - 1/\OkR k xs/\(∀ x∈xs,szk k (61+i *(m1+m2+1)) x)/\(∀(F:Type) [bf F] (O:Kf k F) (m:Nat),nv O xs m=mulT (nv O p) (nv O q') i m)
 refine zS (lo:=0) (n:=p.length) Pv2_ (_,ys,none,none,V,g1.trans g2,za,zW g2 pr1,by rw[vf],λx D=>by rw[vQ D];exact zm J 0,λx D=>by rw[vQ D];exact λ_=>yc J (yg _) (),λF _ O m=>by rw[z0 F O m,bn ()];grind) ?_ ?_
 ·rintro i L H2 hi ⟨xs,us,o4,o5,rfl,g2',ht2,pu2,lx2,ox2,sx2,nx2⟩
  rw[vB];refine(Z,b,Z,.inl (SqL.of (g2' _ _ hub)),Z,(),(),?_);rw[wS,lub]
  let Pv3_:Nat->L2.St->Hp->Prop:=λj L H'=>∃ xs us o5,L=[some (.int k),some (.ref a),some (.ref b),some (.ref pt),some (.int (i:Int)),o5]/\Same H H'/\H' pt=some (.lst us)/\Paired (RN H') xs us/\xs.length=p.length+q'.length - 1/\OkR k xs/\(∀ x∈xs,szk k (61 +(i+1) *(m1+m2+1)) x)/\(∀ c (hc:c<xs.length),i+j<=c->szk k (61+i *(m1+m2+1)) xs[c])/\(∀(F:Type) [bf F] (O:Kf k F) (m:Nat),nv O xs m=mulT (nv O p) (nv O q') i m +(if i<=m/\m<i+j then nv O p i*nv O q' (m - i)else 0))
  refine zS (lo:=0) (n:=q'.length) Pv3_ (xs,us,o5,V,g2',ht2,pu2,lx2,ox2,(λx D=>(sx2 x D).mono (by rw[uK];omega)),(λc hc _=>sx2 _ (wj hc)),λF _ O m=>by rw[nx2 F O m,bn ()];grind) ?_ ?_
  ·rintro j L H3 hj ⟨xs,us,o5,rfl,g3,ht3,pu3,lx3,ox3,sx3,sy3,nx3⟩
   rw[vB];have lu3:=zd pu3;have ij:i+j<xs.length:=by omega
   obtain⟨u,eu,ru⟩:=zJ pu3 (wa ij);obtain⟨va,ea,rva⟩:=zJ pua (wa hi);obtain⟨vb,eb,rvb⟩:=zJ pub (wa hj);have o1:=op _ (wj hi);have o2:=oq _ (wj hj);have o3:=ox3 _ (wj ij);have om:=zY J o1 o2;have sm:=yX o1 o2 (sp _ (wj hi)) (sq _ (wj hj));have s3:=sy3 (i+j) ij (wv _);have hb2:(i+1) *(m1+m2+1)<=p.length *(m1+m2+1):=wH _ ();have hb3:(i+1) *(m1+m2+1)=i *(m1+m2+1) +(m1+m2+1):=uK _ _;refine(Z,Z,Z,Z,_,Z,V,pt,_,_,Z,V,SqL.of ht3,(by rw[show(i:Int) +(j:Int) =((i+j:Nat):Int) by omega];exact zk eu),Z,Z,Z,a,_,_,Z,V,SqL.of (g3 _ _ hua),zk ea,Z,Z,b,_,_,Z,V,SqL.of (g3 _ _ hub),zk eb,k,p[i],q'[j],_,Z,(J,o1,o2,nsm60 J o1 (sp _ (wj hi)) (λh=>by have:=bd h;omega),nsm60 J o2 (sq _ (wj hj)) (λh=>by have:=bd h;omega),rva.mono g3,rvb.mono g3),λv4 H4 g4 r4=>?_);refine(k,xs[i+j],nmul k p[i] q'[j],_,Z,(J,o3,om,nsm60 J o3 s3 (λh=>by have:=bd h;omega),nsm60 J om sm (λh=>by have:=bd h;omega),ru.mono g4,r4),λv5 H5 g5 r5=>?_);have g35:=g4.trans g5;have ht5:=g35 _ _ ht3;refine(Z,Z,Z,_,Z,V,pt,us,_,i+j,V,V,ht5,(by rw[show(i:Int) +(j:Int) =((i+j:Nat):Int) by omega];exact xa ()),?_);refine(xs.set (i+j) (nadd k xs[i+j] (nmul k p[i] q'[j])),us.set (i+j) v5,Z,zQ (g3.trans g35) ptH,za,yG ht5 (jN (zW g35 pu3) (i+j) r5),by rw[vv];exact lx3,λx D=>?_,λx D=>?_,λc hc ic=>?_,λF _ O m=>?_)
   ·rcases zL D with e|e
    ·rw[e];exact yk J o3 om
    ·exact ox3 x e
   ·rcases zL D with e|e
    ·rw[e];refine(YC o3 om s3 sm).mono ?_;rw[hb3];omega
    ·exact sx3 x e
   ·rw[vv]at hc;rw[List.getElem_set_ne ()];exact sy3 c hc ()
   ·rw[zhr ij,O.add o3 om,O.mul o1 o2,nx3 F O m];have e3:O.to xs[i+j]=mulT (nv O p) (nv O q') i (i+j):=by
     have:=nx3 F O (i+j);rw[zH O (wa ij),bn ()]at this;rw[this];grind
    by_cases c:m=i+j
    ·subst c;rw[bj rfl,bj (),e3,show i+j - i=j by omega,zH O (wa hi),zH O (wa hj)]
    ·rw[bn c]
     by_cases c2:i<=m/\m<i+j
     ·rw[bj c2,bj ()]
     ·rw[bn c2,bn ()]
  ·rintro L H3 ⟨xs,us,o5,rfl,g3,ht3,pu3,lx3,ox3,sx3,_,nx3⟩
   refine(xs,us,_,Z,g3,ht3,pu3,lx3,ox3,sx3,λF _ O m=>?_);rw[nx3 F O m];show _=mulT (nv O p) (nv O q') i m+nv O p i *(if i<=m then nv O q' (m - i)else 0)
   by_cases c:i<=m
   ·rw[bj c]
    by_cases c2:m<i+q'.length
    ·rw[bj (c,c2)]
    ·rw[bn (),zI O (xs:=q') ()];grind
   ·rw[bn c,bn ()];grind
 ·rintro L H2 ⟨xs,us,o4,o5,rfl,g2',ht2,pu2,lx2,ox2,sx2,nx2⟩
  exact(Z,q xs pt H2 g2' ((us,ht2,pu2),ptH) lx2 ox2 sx2 λF _ O j=>by rw[nx2 F O j];exact(za0 p.length j _ _ (λi hi=>zI O hi)).symm)
def RsAt(H:Hp)(R:List (TB))(p:Addr)(ts:List Addr):Prop:=H p=some (.lst (ts.map V.ref))/\Paired (λM t=>∃ ras,kac H M t ras) R ts
def RsAt.mono(h:RsAt H R p ts)(g:Same H H'):RsAt H' R p ts:=(g _ _ h.1,yt (λ_ _ ⟨ras,r⟩=>(ras,r.mono g)) h.2)
def zbW{ys:List β}(h:Paired R xs ys) n:Paired R (xs.drop n) (ys.drop n):=by
 have l:=zd h;refine xR (by rw[vW,vW,l]) λi x a h1 h2=>?_
 rw[gJ]at h1 h2;exact yq h h1 h2
def mnr{α:Type}(j:Nat)(rows:List (List α)):List (List α):=(rows.drop 1).map λr=>r.take j++r.drop (j+1)
def zg9[Lean.Grind.CommRing β](f:α->β) j rows:minor j (rows.map λr=>r.map f) =(mnr j rows).map λr=>r.map f:=by
 unfold minor mnr;rw[← uS,vz,vz];refine vo λr _=>?_
 show(r.map f).take j ++(r.map f).drop (j+1) =(r.take j++r.drop (j+1)).map f;rw[wx,uq,uS]
def za5(f:α->β) j rows:mnr j (rows.map λr=>r.map f) =(mnr j rows).map λr=>r.map f:=by
 unfold mnr;rw[← uS,vz,vz];refine vo λr _=>?_
 show(r.map f).take j ++(r.map f).drop (j+1) =(r.take j++r.drop (j+1)).map f;rw[wx,uq,uS]
def lmax(f:Nat->Nat):Nat->Nat
 | 0=>0
 | j+1=>max (lmax f j) (f j)
def ldet:Nat->List (List Nat)->Nat
 | 0,_=>1
 | d+1,S=>lmax (λj=>(S.getD 0 []).getD j 0+ldet d (mnr j S) - 1) (d+1)
def Qg{lo hi:Nat}:∀ n,(∀ j,j<n->lo<=f j/\f j<=hi)->(0<n->lo<=lmax f n)/\lmax f n<=hi
 | 0,_=>(λh=>bw h (),vD _)
 | n+1,h=>by
  have ih:=Qg n λj hj=>h j ()
  have hn:=h n ();show(0<n+1->lo<=max (lmax f n) (f n))/\max (lmax f n) (f n)<=hi;have:=ih.2;omega
def zdk{P:α->Prop}(l:R.length=n+1)(hj:j<n+1)(h:∀ r∈R,r.length=n+1/\∀ x∈r,P x):(mnr j R).length=n/\∀ r∈mnr j R,r.length=n/\∀ x∈r,P x:=by
 refine(by unfold mnr;rw[wc,vW];omega,λr U=>?_);unfold mnr at U;obtain⟨r',hr',rfl⟩:=wm.mp U;have o:=h r' (uE hr');refine(by rw[wD,wr,vW];omega,λx D=>?_)
 rcases wq.mp D with e|e
 ·exact o.2 x (vn e)
 ·exact o.2 x (uE e)
def Qa:∀ d S,S.length=d->(∀ r∈S,r.length=d/\∀ x∈r,1<=x/\x<=2)->1<=ldet d S/\ldet d S<=d+1
 | 0,_,_,_=>(wv _,wv _)
 | d+1,S,l,h=>by
  have key:∀ j,j<d+1->1<=(S.getD 0 []).getD j 0+ldet d (mnr j S) - 1/\(S.getD 0 []).getD j 0+ldet d (mnr j S) - 1<=d+2:=λj hj=>by
   obtain⟨m1,m2⟩:=zdk l hj h;have ih:=Qa d (mnr j S) m1 m2;have h0:0<S.length:=by omega
   have e0:S.getD 0 []=S[0]:=by rw[we,wa h0];rfl
   have o:=h S[0] (wj h0);have hj':j<S[0].length:=by omega
   have e1:(S.getD 0 []).getD j 0=S[0][j]:=by rw[e0,we,wa hj'];rfl
   have:=o.2 _ (wj hj');rw[e1];omega
  have:=Qg (d+1) key;exact(this.1 (),this.2)
def sdT1(s _n:Nat):Nat:=61+2 *(400000+s+1)
def sdT2(s n:Nat):Nat:=61+1 *(61+sdT1 s n+1)
def sd:Nat->Nat
 | 0=>61
 | n+1=>61 +(n+1) *(sdT2 (sd n) n+1)
def zjS:∀ n,n<=2->sdT1 (sd n) n<=60000000/\sdT2 (sd n) n<=60000000/\sd (n+1)<=60000000:=by decide
def zkk:∀ n,61<=sd n
 | 0=>wv _
 | n+1=>GS _ _
def PolyOk(k:Int)(x:List Nb):Prop:=1<=x.length/\x.length<=2/\OkR k x/\∀ y∈x,szk k 400000 y
def DetP(k:Int)(n:Nat)(R:List (TB))(xs:List Nb):Prop:=∀ F [bf F] (O:Kf k F),pnv O xs=cdet n (R.map λr=>r.map λx=>pnv O x)
inductive zaJ(d:Nat):Sp
 | mk:∀(k:Int)(R:List (TB))(n:Nat)(p:Addr)(ts:List Addr),vs=[.int k,.ref p]->kab k->RsAt H R p ts->R.length=n->(∀ r∈R,r.length=n/\∀ x∈r,PolyOk k x)->n<d->n<=4->((k=0->n<=3))->(∀ xs a H',Same H H'->NewR H H' xs a->xs.length=ldet n (R.map λr=>r.map vO)->OkR k xs->(∀ y∈xs,szk k (sd n) y)->DetP k n R xs->Q (.ref a) H')->zaJ d vs H Q E_
def zg1:KnI pg 94 (46+0) (zaJ 0):=by
 refine knF 94 λvs H Q E h=>?_
 obtain⟨k,R,n,p,ts,rfl,J,hR,lR,oR,nd,_⟩:=h;exact bw nd ()
def zaD{R:List (TB)}(h:∀ r∈R,r.length=n/\∀ x∈r,PolyOk k x):∀ r∈R.map (λr=>r.map vO),r.length=n/\∀ x∈r,1<=x/\x<=2:=λr U=>by
 obtain⟨r',hr',rfl⟩:=wm.mp U;refine(by rw[wc];exact(h r' hr').1,λx D=>?_);obtain⟨y,hy,rfl⟩:=wm.mp D;have:=(h r' hr').2 y hy;exact(this.1,this.2.1)
def zgz[bf F](O:Kf k F) c:pnv O [c]=La.cst (O.to c):=by
 funext j
 cases j with
 | zero=>rfl
 | succ j=>exact zI O (by simp)
def zi4(J:kab k)[bf F](O:Kf k F)(j:Nat):(La.cst (O.to (nnum k (1 - 2 *((j:Int).fmod 2)))):La.PSr F)=sgn j:=by
 rw[O.num];unfold sgn;have e:(j:Int).fmod 2 =((j % 2:Nat):Int):=by rw[uU _ ()];omega
 rw[e];have hm:=La.yK (R:=F)
 rcases Nat.mod_two_eq_zero_or_one j with h|h
 ·rw[h,bj rfl];rw[show(1:Int) - 2 *((0:Nat):Int)=1 by decide,La.ι_one];exact hm.one
 ·rw[h,bn ()];rw[show(1:Int) - 2 *((1:Nat):Int) = -1 by decide,La.ι_neg,La.ι_one,hm.neg,hm.one]
def Ze d (zbE:KnI pg 94 (46+d) (zaJ d)):KnI pg 94 (46+d+1) (zaJ (d+1)):=by
 exists 94,yu,ya,zbE,[3],zj,yd,xC,yd,yd,zT,Jw,ze,ze,Jw,ya,zK,zeV
 obtain⟨k,R,n,p,ts,rfl,J,hR,lR,oR,nd,n4,n3,q⟩:=h;have szl:=sh
 have lt:=zd hR.2;rw[lR]at lt;refine(Z,p,Z,.inl (SqL.of hR.1),V,Z,?_);rw[wc,← lt];refine ite2 (λc=>?_) (λc=>?_)
 ·have n0:n=0:=by have:=V.int.inj (bt c);omega
  subst n0;refine(Z,k,1,V,J,λv H1 g1 r1=>((),λpl hpl=>?_));have g2:=zc hpl (.lst [v]);refine q [nnum k 1] pl _ (g1.trans g2) (([v],za,.cons (r1.mono g2) .nil),g1.none hpl) rfl (λx D=>by rw[wp.mp D];exact zm J 1) (λx D=>by rw[wp.mp D];exact λ_=>yc J (kax.mono (by decide)) (by decide)) λF _ O=>?_
  rw[zgz,O.num,La.ι_one];exact(La.yK).one
 obtain⟨n',rfl⟩ : ∃ n',n=n'+1:=(n - 1,by
  have:n≠0:=λe=>c (by rw[e];exact br rfl)
  omega)
 have lo:=zkk n';refine((by decide),λpt hpt=>?_);have g0:=zc hpt (.lst []);refine(Z,p,Z,.inl (SqL.of (g0 _ _ hR.1)),Z,(by omega),(by rw[wc,← lt];omega),?_);rw[wS,wc,← lt];have bd:= λh=>zjS n' (by have:=n3 h;omega)
 have h0R:0<R.length:=by omega
 have g0R:R[0]?=some R[0]:=wa h0R;obtain⟨t0,et0,ras0,T0⟩:=zJ hR.2 g0R;have o0:=oR R[0] (wj h0R)
 let Pv1_:Nat->L2.St->Hp->Prop:=λj L H'=>∃ xs a o3 o4,L=[some (.int k),some (.ref p),some (.ref a),o3,o4]/\Same H H'/\NewR H H' xs a/\xs.length=lmax (λj=>((R.map λr=>r.map vO).getD 0 []).getD j 0+ldet n' (mnr j (R.map λr=>r.map vO)) - 1) j/\OkR k xs/\(∀ y∈xs,szk k (61+j *(sdT2 (sd n') n'+1)) y)/\(∀(F:Type) [bf F] (O:Kf k F),pnv O xs=csum (λj=>sgn j *(((R.map λr=>r.map λx=>pnv O x).getD 0 []).getD j 0*cdet n' (minor j (R.map λr=>r.map λx=>pnv O x)))) j)
 refine zS (lo:=0) (n:=n'+1) Pv1_ ([],pt,none,none,V,g0,(([],za,.nil),hpt),V,λx D=>(nomatch D),λx D=>(nomatch D),λF _ O=>by
  show _ =(0:La.PSr F);rw[← (La.yK (R:=F)).zero]
  funext j
  show nv O [] j=_;rw[zI O (vD _)];cases j <;> rfl) ?_ ?_
 ·rintro j L H1 hj ⟨xs,a,o3,o4,rfl,g1,N1,l1,ox1,sx1,nx1⟩
  rw[vB];have R1:=hR.mono g1;obtain⟨ml,mo⟩:=zdk lR hj oR;refine(Z,Z,Z,p,Z,SqL.of R1.1,λp2 hp2=>?_);rw[show cutV (ts.map V.ref) (some 1) none =(ts.map V.ref).drop 1 from Xk _ 1,← uS];have g2:=zc hp2 (.lst ((ts.drop 1).map V.ref));have e2:upd H1 p2 (.lst ((ts.drop 1).map V.ref)) p2=some (.lst ((ts.drop 1).map V.ref)):=za;have D2:Paired (λM t=>∃ ras,kac (upd H1 p2 (.lst ((ts.drop 1).map V.ref))) M t ras) (R.drop 1) (ts.drop 1):=zbW (R1.mono g2).2 1;generalize upd H1 p2 (.lst ((ts.drop 1).map V.ref))=H2 at *;refine(p2,V,(_,SqL.of e2),?_);have lD:=zd D2;have lmn:(mnr j R).length =(R.drop 1).length:=by unfold mnr;rw[wc]
  let Pv2_:Nat->List V->Hp->Prop:=λi ys H'=>∃ ts',ys=ts'.map V.ref/\Same H2 H'/\Paired (λM t=>∃ ras,kac H' M t ras) ((mnr j R).take i) ts'
  refine zo (xs:=(ts.drop 1).map V.ref) Pv2_ ([],V,Same.refl _,.nil) ?_ ?_ ?_
  ·rintro i ys H' hi ⟨ts',rfl,g,pr⟩
   refine(SqL.of (g _ _ e2),?_);have:=zd pr;rw[wr]at this;rw[wc];omega
  ·rintro i v ys H' hv hi ⟨ts',rfl,g,pr⟩
   rw[wk]at hv;obtain⟨t,ht,rfl⟩:=wY.mp hv;obtain⟨M,hM,ras,T⟩:=zG D2 ht;have T':=T.mono g;have lras:=zd T'.2;have oMr:=oR M (uE (wg hM))
   symm
   refine(Z,Z,Z,t,Z,SqL.of T'.1,λpa hpa=>?_);rw[Ye,← uq];have ga:=zc hpa (.lst ((ras.take j).map V.ref));have ea:upd H' pa (.lst ((ras.take j).map V.ref)) pa=some (.lst ((ras.take j).map V.ref)):=za;have Ta:=T'.mono ga;generalize upd H' pa (.lst ((ras.take j).map V.ref))=Ha at *;refine(Z,Z,_,Z,V,Z,t,Z,SqL.of Ta.1,λpb hpb=>?_);rw[show(j:Int)+1 =((j+1:Nat):Int) by omega,Xk,← uS];have gb:=zc hpb (.lst ((ras.drop (j+1)).map V.ref));have eb:upd Ha pb (.lst ((ras.drop (j+1)).map V.ref)) pb=some (.lst ((ras.drop (j+1)).map V.ref)):=za;have Tb:=Ta.mono gb;have ea':=gb _ _ ea;generalize upd Ha pb (.lst ((ras.drop (j+1)).map V.ref))=Hb at *;refine(pa,pb,_,Z,V,ea',eb,(by rw[wc,wc,wr,vW];omega),λpc hpc=>?_);have gc:=zc hpc (.lst ((ras.take j).map V.ref ++(ras.drop (j+1)).map V.ref));have gg:=(ga.trans gb).trans gc;refine nxt hi (ts'++[pc],by rw[wx];rfl,g.trans gg,?_);rw[zf (x:=M.take j++M.drop (j+1)) (by unfold mnr;rw[wk,hM];rfl)];exact zy (yt (λ_ _ ⟨ras,r⟩=>(ras,r.mono gg)) pr) (ras.take j++ras.drop (j+1),by rw[za,wx],xX (Qq (Tb.mono gc).2 j) (zbW (Tb.mono gc).2 (j+1)))
  rintro ys H3 ⟨ts',rfl,g3,pr3⟩ pm hpm
  rw[wc,wo (by omega)]at pr3;have g4:=zc hpm (.lst (ts'.map V.ref));have RM:RsAt (upd H3 pm (.lst (ts'.map V.ref))) (mnr j R) pm ts':=(za,yt (λ_ _ ⟨ras,r⟩=>(ras,r.mono g4)) pr3);generalize upd H3 pm (.lst (ts'.map V.ref))=H4 at *;have g14:=(g2.trans g3).trans g4;refine(k,mnr j R,n',pm,ts',V,J,RM,ml,mo,(by omega),(by omega),(λh=>by have:=n3 h;omega),λds ad H5 g5 N5 ld od sds cd=>?_);have g15:=g14.trans g5;have bl:=Qa n' ((mnr j R).map λr=>r.map vO) (by rw[wc];exact ml) (zaD mo);rw[← ld]at bl;have hjr:j<R[0].length:=by omega
  obtain⟨ax,eax,RX⟩:=zJ T0.2 (wa hjr);have oX:=o0.2 _ (wj hjr);have g05:=g1.trans g15;have hb1:R[0][j].length *(400000+sd n'+1)<=2 *(400000+sd n'+1):=wH _ oX.2.1;refine(Z,Z,p,_,_,Z,V,SqL.of (hR.mono g05).1,zk (j:=0) (by rw[wk,et0];rfl),Z,t0,_,_,Z,V,SqL.of (T0.mono g05).1,zk (by rw[wk,eax];rfl),Z,k,R[0][j],ds,400000,sd n',ax,ad,V,J,RX.mono g05,N5.row,oX.2.2.1,od,oX.2.2.2,sds,(by decide),lo,(λh=>by have:=(bd h).1;unfold sdT1 at this;omega),oX.1,bl.1,(by have:=oX.2.1;omega),(by omega),λx1 a1 H6 g6 N6 l6 o6 s6 c6=>?_);have g06:=g05.trans g6;refine(Z,Z,Z,_,Z,V,(by show(2:Int)≠0;decide),_,Z,V,yZ (by decide) (by decide),_,Z,V,k,Z,J,λv7 H7 g7 r7=>((),λpl hpl=>?_));have g8:=zc hpl (.lst [v7]);have R8:kag (upd H7 pl (.lst [v7])) [nnum k (1 - 2 *((j:Int).fmod 2))] pl:=([v7],za,.cons (r7.mono g8) .nil);generalize upd H7 pl (.lst [v7])=H8 at *;have g78:=g7.trans g8;have l61:1<=x1.length:=by have:=oX.1;omega
  have l62:x1.length<=n'+2:=by have:=oX.2.1;omega
  have s6':∀ y∈x1,szk k (sdT1 (sd n') n') y:=λy hy=>(s6 y hy).mono (by unfold sdT1;omega)
  refine(Z,k,[nnum k (1 - 2 *((j:Int).fmod 2))],x1,61,sdT1 (sd n') n',pl,a1,V,J,R8,N6.row.mono g78,(λx D=>by rw[wp.mp D];exact zm J _),o6,(λx D=>by
   rw[wp.mp D];refine λ_=>yc J ?_ (by decide)
   have f0:=wI (j:Int) (show(0:Int)<2 by decide);have f1:=wW (j:Int) (show(0:Int)<2 by decide);unfold Sm;have:(2:Nat)^61=2305843009213693952:=by decide
   omega),s6',(by decide),(by unfold sdT1;omega),(λh=>by have:=(bd h).2.1;unfold sdT2 at this;show 61+1*_<=_;omega),(by show 1<=1;decide),l61,(by show 1<=10;decide),(by omega),λx2 a2 H9 g9 N9 l9 o9 s9 c9=>?_)
  have g69:=g78.trans g9;have s9':∀ y∈x2,szk k (sdT2 (sd n') n') y:=λy hy=>(s9 y hy).mono (by show 61+1*_<=_;unfold sdT2;omega)
  have l9':x2.length=R[0][j].length+ds.length - 1:=by rw[l9,l6];show 1+_ - 1=_;omega
  have hb3:j *(sdT2 (sd n') n'+1) +(sdT2 (sd n') n'+1)<=(n'+1) *(sdT2 (sd n') n'+1):=by
   have:(j+1) *(sdT2 (sd n') n'+1)<=(n'+1) *(sdT2 (sd n') n'+1):=wH _ (by omega);rw[uK]at this;exact this
  have g19:=(g15.trans g6).trans g69;have lx1:xs.length<=n'+2:=by
   rw[l1];refine(Qg (lo:=0) (hi:=n'+2) j λj' hj'=>(vD _,?_)).2;obtain⟨ml',mo'⟩:=zdk lR (show j'<n'+1 by omega) oR;have b':=Qa n' ((mnr j' R).map λr=>r.map vO) (by rw[wc];exact ml') (zaD mo');rw[za5];have e0:(R.map λr=>r.map vO).getD 0 []=R[0].map vO:=by rw[we,wk,g0R];rfl
   have hj'':j'<R[0].length:=by omega
   have e1:(R[0].map vO).getD j' 0=R[0][j'].length:=by rw[we,wk,wa hj''];rfl
   rw[e0,e1];have:=(o0.2 _ (wj hj'')).2.1;omega
  refine(Z,Z,Z,k,xs,x2,61+j *(sdT2 (sd n') n'+1),sdT2 (sd n') n',a,a2,V,J,N1.row.mono g19,N9.row,ox1,o9,sx1,s9',(by omega),(by unfold sdT2;omega),(λh=>by have b:=bd h;have e:sd (n'+1)=61 +(n'+1) *(sdT2 (sd n') n'+1):=rfl;rw[e]at b;omega),(by omega),(by omega),λr Hz gz Nz=>?_);have e0:(R.map λr=>r.map vO).getD 0 []=R[0].map vO:=by rw[we,wk,g0R];rfl
  have e1:(R[0].map vO).getD j 0=R[0][j].length:=by rw[we,wk,wa hjr];rfl
  refine(ppL k xs x2,r,_,Z,(g1.trans g19).trans gz,(Nz.row,(g1.trans g19).none Nz.fa),?_,zjA J ox1 o9,λy hy=>?_,λF _ O=>?_)
  ·have ef:((R.map λr=>r.map vO).getD 0 []).getD j 0+ldet n' (mnr j (R.map λr=>r.map vO)) - 1=x2.length:=by rw[e0,e1,za5,← ld,l9']
   rw[QC];show max xs.length x2.length=max (lmax _ j) (((R.map λr=>r.map vO).getD 0 []).getD j 0+ldet n' (mnr j (R.map λr=>r.map vO)) - 1);rw[ef,l1]
  ·refine(zjw J (by omega) (by unfold sdT2;omega) ox1 o9 sx1 s9' y hy).mono ?_;rw[uK];omega
  ·show pnv O (ppL k xs x2)=csum _ j+_;rw[← nx1 F O];show pnv O (ppL k xs x2)=pnv O xs+sgn j *(((R.map λr=>r.map λx=>pnv O x).getD 0 []).getD j 0*cdet n' (minor j (R.map λr=>r.map λx=>pnv O x)));have f0:(R.map λr=>r.map λx=>pnv O x).getD 0 []=R[0].map λx=>pnv O x:=by rw[we,wk,g0R];rfl
   have f1:(R[0].map λx=>pnv O x).getD j 0=pnv O R[0][j]:=by rw[we,wk,wa hjr];rfl
   have f2:minor j (R.map λr=>r.map λx=>pnv O x) =(mnr j R).map λr=>r.map λx=>pnv O x:=zg9 (λx=>pnv O x) j R
   rw[f0,f1,f2,← cd F O,← zi4 J O j,← zgz]
   funext m
   show nv O (ppL k xs x2) m=nv O xs m+La.pmu m (pnv O _) (λi=>La.pmu i (nv O R[0][j]) (nv O ds));rw[ziA J ox1 o9 O m,c9 F O m];have e6:nv O x1=λi=>La.pmu i (nv O R[0][j]) (nv O ds):=funext λi=>c6 F O i
   rw[e6]
   rfl
 ·rintro L H1 ⟨xs,a,o3,o4,rfl,g1,N1,l1,ox1,sx1,nx1⟩
  exact(Z,q xs a H1 g1 N1 l1 ox1 sx1 λF _ O=>nx1 F O)
def zdP k M i j:(grRow k M i j).length=if i=j then 2 else 1:=by unfold grRow;split <;> rfl
def shp(n:Nat):List (List Nat):=(wQ n).map λi=>(wQ n).map λj=>if i=j then 2 else 1
def zdS k M n:((grR k M n).map λr=>r.map vO)=shp n:=by
 unfold grR shp;rw[vz];refine vo λi _=>?_
 show((wQ n).map _).map vO=_;rw[vz];exact vo λj _=>zdP k M i j
def zem:∀ n,n<=4->ldet n (shp n)=n+1:=by decide
def ze1(J:kab k)(oM:TOk k n n 390000 M)(hi:i<n)(hj:j<n):PolyOk k (grRow k M i j):=by
 obtain⟨r,U,rr⟩:=oM.get hi;have hj':j<r.length:=by rw[rr.len];exact hj
 have e:(M.getD i []).getD j (.z 0)=r[j]:=by rw[show M.getD i []=r by rw[we,U];rfl,we,wa hj'];rfl
 have o:=rr.ok _ (wj hj');have s:=rr.sz _ (wj hj');have on:=zm J 0;have kl:=J.lt;have os:= jf () on o;have ss:szk k 400000 (nsub k (nnum k 0) r[j]):=(YT on o (λ_=>yc J (yg 61) ()) (λ_=>s)).mono ();unfold grRow;rw[e]
 split
 ·refine(by show 1<=2;decide,wv _,λx D=>?_,λx D=>?_)
  all_goals rcases wG.mp D with e|e
  ·rw[e];exact os
  ·rw[wp.mp e];exact zm J 1
  ·rw[e];exact ss
  ·rw[wp.mp e];exact λ_=>yc J (kax.mono ()) ()
 ·refine(wv _,by show 1<=2;decide,λx D=>?_,λx D=>?_)
  ·rw[wp.mp D];exact os
  ·rw[wp.mp D];exact ss
inductive XB:Sp
 | mk:∀ k M n t ras,vs=[.int k,.ref t]->kab k->kac H M t ras->TOk k n n 390000 M->1<=n->n<=4->((k=0->n<=3))->(∀ xs p H',Same H H'->kag H' xs p->xs.length=n+1->OkR k xs->GrP k n M xs->Q (.ref p) H')->XB vs H Q E_
def XR:KnI pg 95 52 XB:=by
 exists 95,xB,ya,ze,ze,xC,[0],yu,ya,yd,(Ze 4 (Ze 3 (Ze 2 (Ze 1 (Ze 0 zg1))))),zT
 obtain⟨k,M,n,t,ras,rfl,J,hT,oM,n1,n4,n3,q⟩:=h;have szl:=sh
 have lr:=zd hT.2;rw[oM.len]at lr;refine((),λpt hpt=>?_);have g0:=zc hpt (.lst []);refine(Z,t,Z,.inl (SqL.of (g0 _ _ hT.1)),Z,(),(by rw[wc,← lr];omega),?_);rw[wS,wc,← lr];have lG:(grR k M n).length=n:=by unfold grR;simp
 let Pv1_:Nat->L2.St->Hp->Prop:=λi L H'=>∃ ts rs o3 o4 o5 o6,L=[some (.int k),some (.ref t),some (.ref pt),o3,o4,o5,o6]/\kai H H' ((grR k M n).take i) ts rs/\H' pt=some (.lst (ts.map V.ref))/\pt∉ts/\(∀ ras∈rs,pt∉ras)
 refine zS Pv1_ ([],[],none,none,none,none,V,kai.nil g0,za,by simp,λr U=>(nomatch U)) ?_ ?_
 ·rintro i L H1 hi ⟨ts,rs,o3,o4,o5,o6,rfl,G1,ht1,nt1,nr1⟩
  rw[vB];refine((),λpw hpw=>?_);have g2:=zc hpw (.lst []);have g02:=G1.same.trans g2;refine(Z,t,Z,.inl (SqL.of (g02 _ _ hT.1)),Z,(),(by rw[wc,← lr];omega),?_);rw[wS,wc,← lr];obtain⟨row,hrow,rrow⟩:=oM.get hi;have eRow:(grR k M n)[i]?=some ((wQ n).map λj=>grRow k M i j):=by unfold grR;rw[wk,wZ hi];rfl
  have lRow:((wQ n).map λj=>grRow k M i j).length=n:=by simp
  let Pv2_:Nat->L2.St->Hp->Prop:=λj L H'=>∃ qs o5 o6,L=[some (.int k),some (.ref t),some (.ref pt),some (.int (i:Int)),some (.ref pw),o5,o6]/\Grow H1 H' (((wQ n).map λj=>grRow k M i j).take j) qs/\H' pw=some (.lst (qs.map V.ref))/\pw∉qs
  refine zS (lo:=0) (n:=n) Pv2_ ([],o5,o6,V,Grow.nil H1 g2,za,by simp) ?_ ?_
  ·rintro j L H3 hj ⟨qs,o5,o6,rfl,G3,hw3,nw3⟩
   rw[vB];have g03:=G1.same.trans G3.same;have T3:=hT.mono g03;obtain⟨ar,ear,RR⟩:=zJ T3.2 hrow;obtain⟨us,hus,pus,lus⟩:=RR.len;have hj':j<row.length:=by rw[rrow.len];exact hj
   obtain⟨vx,evx,rvx⟩:=zJ pus (wa hj');have ox:=rrow.ok _ (wj hj');have sx:=rrow.sz _ (wj hj');have ex:(M.getD i []).getD j (.z 0)=row[j]:=by rw[show M.getD i []=row by rw[we,hrow];rfl,we,wa hj'];rfl
   refine(Z,Z,k,0,V,J,λv4 H4 g4 r4=>?_);have T4:=T3.mono g4;refine(Z,Z,t,_,_,Z,V,SqL.of T4.1,zk (by rw[wk,ear];rfl),Z,ar,_,_,Z,V,SqL.of (g4 _ _ hus),zk evx,k,nnum k 0,row[j],_,Z,J,zm J 0,ox,yc J (yg _) (),sx.mono (),r4,rvx.mono g4,λv5 H5 g5 r5=>?_);have g35:=g4.trans g5;have hw5:=g35 _ _ hw3;refine(Z,.inl (V,_,SqL.of hw5),Z,(),λpa hpa=>?_);have g6:=zc hpa (.lst [v5]);have ea:upd H5 pa (.lst [v5]) pa=some (.lst [v5]):=za;have r6:=r5.mono g6;generalize upd H5 pa (.lst [v5])=H6 at *;refine(Z,Z,V,.inr (Z,Z,(by split <;> omega),(by split <;> omega),?_));have ec:(if decide (V.int (i:Int)=V.int (j:Int))=true then(1:Int)else 0).toNat=if i=j then 1 else 0:=by
    by_cases c:i=j
    ·rw[bj c,c,br rfl];rfl
    ·rw[bn c,bq (λz=>c (by have:=V.int.inj z;omega))];rfl
   rw[ec]
   let Pv3_:Nat->List V->Hp->Prop:=λl ys H'=>Same H6 H'/\Paired (RN H') (wK l (nnum k 1)) ys
   refine zO (lo:=0) (n:=if i=j then 1 else 0) Pv3_ (Same.refl _,.nil) ?_ ?_ ?_
   ·rintro l ys H' hl ⟨g,pr⟩
    have:=zd pr;rw[vf]at this
    split at hl <;> omega
   ·rintro l ys H' hl ⟨g,pr⟩
    symm
    refine(Z,k,1,V,J,λv H2 g2 r2=>nxt hl (g.trans g2,?_));rw[uZ];exact zy (zW g2 pr) r2
   rintro ys H7 ⟨g7,pr7⟩ pb hpb
   have g8:=zc hpb (.lst ys);have g78:=g7.trans g8;have ea8:=g78 _ _ ea;have lys:=zd pr7;rw[vf]at lys;have l1:ys.length<=1:=by rw[← lys];split <;> omega
   refine(pa,pb,_,Z,V,ea8,za,(by show 1+ys.length<=sizeLine;omega),λpc hpc=>?_);have g38:=(g35.trans g6).trans g78;have hw8:=g38 _ _ hw3;have pr8:Paired (RN (upd H7 pb (.lst ys))) (grRow k M i j) ([v5]++ys):=by
    have e:grRow k M i j=[nsub k (nnum k 0) row[j]]++wK (if i=j then 1 else 0) (nnum k 1):=by
     unfold grRow;rw[ex]
     split <;> rfl
    rw[e];exact xX (.cons (r6.mono g78) .nil) (zW g8 pr7)
   have lqs:=zd G3.rows;rw[wr]at lqs;have npc:pw≠pc:=λe=>by rw[← e,hw8]at hpc;cases hpc
   refine(pw,_,Z,V,(by rw[zE npc];exact hw8),(by rw[wc];omega),?_);obtain⟨G9,n9⟩:=G3.push (zs':=(qs.map V.ref)++[.ref pc]) hpw hw3 nw3 g38 hpc pr8;refine(qs++[pc],_,Z,?_,?_,n9)
   ·rw[zf (x:=grRow k M i j) (by rw[wk,wZ hj];rfl)];exact G9
   ·rw[za,wx];rfl
  ·rintro L H3 ⟨qs,o5,o6,rfl,G3,hw3,nw3⟩
   rw[wo ()]at G3;have N3:NewT H1 H3 ((wQ n).map λj=>grRow k M i j) pw qs:=((hw3,G3.rows),hpw,G3.fr,G3.nd,nw3);have ht3:=G3.same _ _ ht1;have lts:=G1.lt;rw[wr]at lts;refine(Z,.inl (V,_,SqL.of ht3),Z,pt,_,Z,V,ht3,(by rw[wc];omega),?_);have nt6:pt≠pw:=λe=>by rw[← e,ht1]at hpw;cases hpw
   have nr6:pt∉qs:=λhm=>by have:=G3.fr _ hm;rw[ht1]at this;cases this
   have nts:pt∉ts++[pw]:=λhm=>by
    rcases wq.mp hm with h|h
    ·exact nt1 h
    ·exact nt6 (wp.mp h)
   have nrs:∀ ras∈rs++[qs],pt∉ras:=λras hm=>by
    rcases wq.mp hm with h|h
    ·exact nr1 ras h
    ·rw[wp.mp h];exact nr6
   have G6:=G1.push G3.same N3;rw[← zf eRow]at G6;refine(ts++[pw],rs++[qs],_,_,_,Z,G6.updAt hpt ht3 nts nrs,?_,nts,nrs);rw[za,wx];rfl
 ·rintro L H1 ⟨ts,rs,o3,o4,o5,o6,rfl,G1,ht1,nt1,nr1⟩
  rw[wo ()]at G1;have RR:RsAt H1 (grR k M n) pt ts:=(ht1,xR (by rw[G1.lt]) λi M' t' h1 h2=>by
   obtain⟨M2,t2,ras2,f1,f2,f3,f4⟩:=G1.get (wu.mp h1).1;rw[h1]at f1;rw[h2]at f2;cases f1;cases f2;exact(ras2,f4))
  have oR:∀ r∈grR k M n,r.length=n/\∀ x∈r,PolyOk k x:=λr U=>by
   unfold grR at U;obtain⟨i,hi,rfl⟩:=wm.mp U;refine(by simp,λx D=>?_);obtain⟨j,hj,rfl⟩:=wm.mp D;exact ze1 J oM (vA.mp hi) (vA.mp hj)
  refine(Z,Z,k,grR k M n,n,pt,ts,V,J,RR,lG,oR,(),n4,n3,λxs a H2 g2 N2 l2 ox2 sx2 c2=>?_);rw[zdS,zem n n4]at l2;have g02:=G1.same.trans g2;obtain⟨us,hus,pus,lus⟩:=N2.row.len;refine(Z,t,Z,.inl (SqL.of (g02 _ _ hT.1)),_,Z,V,Z,a,Z,SqL.of hus,λp3 hp3=>?_);rw[wc,← lr,show(n:Int)+1 =((n+1:Nat):Int) by omega,Ye,wo ()];have g3:=zc hp3 (.lst us);exact q xs p3 _ (g02.trans g3) (us,za,zW g3 pus) l2 ox2 λF _ O j=>by
   have:=congrFun (c2 F O) j;rw[zhh O J n1 n4 oM.len oM.ok]at this;exact this
def QB(J:kab k)(o:x.ok k)(h:szk k m x)(hm:k=0->m<=n)(h7:61<=n):nsm n x:=by
 by_cases k0:k=0
 ·exact(h k0).mono (hm k0)
 ·exact(jz J k0 o).mono h7
def cutL(q:Nat)(h:q<=xs.length):cutV xs none (some (q:Int))=xs.take q:=by
 unfold cutV;rw[HT.xt,GK,Go,HT.xN,gj h]
def zr:Nat->Nat
 | 0=>1008
 | t+1=>2*zr t+5000001
def zkj:∀ t,t<=2->zr t<=15100000:=by decide
inductive zaV:Sp
 | mk:∀(k:Int)(gs ps:List Nb)(n l:Nat)(a b:Addr),vs=[.int k,.ref a,.ref b]->kab k->kag H gs a->kag H ps b->OkR k gs->OkR k ps->gs.length=n+1->ps.length=l+1->1<=l->l<=n->n<=4->((k=0->n<=3))->(∀ x∈gs,szk k 1008 x)->(∀ x∈ps,szk k 5000000 x)->((∀ F [bf F] (O:Kf k F),nv O ps l=1/\∃ q:Nat->F,(∀ j,nv O gs j=La.pmu j (nv O ps) q)/\∀ t,n - l<t->q t=0))->(∀ p H',Same H H'->kag H' (zerN k l) p->Q (.ref p) H')->zaV vs H Q E_
def zfF:KnI pg 97 44 zaV:=by
 exists 97,ze,xB,ze,zT,yD,ze,zT,yd
 obtain⟨k,gs,ps,n,l,a,b,rfl,J,ha,hb,og,op,lg,lp,l1,ln,n4,n3,sg,sp,hq,q⟩:=h;obtain⟨ua,hua,pua,lua⟩:=ha.len;obtain⟨ub,hub,pub,lub⟩:=hb.len;refine(Z,a,ua,V,.inl (SqL.of hua),λp0 hp0=>?_);have g0:=zc hp0 (.lst ua);have h0:upd H p0 (.lst ua) p0=some (.lst ua):=za;have pu0:=zW g0 pua;generalize upd H p0 (.lst ua)=H0 at *;refine(λm L H'=>∃ xs us pl o4 o5 o6,L=[some (.int k),some (.ref a),some (.ref b),some (.ref pl),o4,o5,o6]/\Same H H'/\H' pl=some (.lst us)/\H pl=none/\Paired (RN H') xs us/\l<=xs.length/\xs.length<=n+1/\OkR k xs/\(∀ x∈xs,szk k (zr (n+1 - xs.length)) x)/\(∀ F [bf F] (O:Kf k F),∃ q:Nat->F,(∀ j,j<xs.length->nv O xs j=La.pmu j (nv O ps) q)/\∀ t,xs.length<=t+l->q t=0)/\m=xs.length,(n+1,gs,ua,p0,none,none,none,V,g0,h0,hp0,pu0,(),(),og,(λx D=>by rw[lg,uD];exact sg x D),(λF _ O=>by
  obtain⟨_,q,e1,e2⟩:=hq F O;exact(q,λj _=>e1 j,λt ht=>e2 t ())),lg.symm),?_)
 rintro m L H1 ⟨xs,us,pl,o4,o5,o6,rfl,g1,hl1,fl,pu1,lx,lx2,ox,sx,D,rfl⟩
 have lus:=zd pu1;refine(Z,pl,Z,.inl (SqL.of hl1),Z,b,Z,.inl (SqL.of (g1 _ _ hub)),_,Z,V,Z,?_)
 rcases wJ l xs.length with hlt|hge
 rotate_left
 ·rw[bq ()];refine iteF ?_;have el:xs.length=l:=by omega
  have ez:xs=zerN k l:=by
   obtain⟨F,_,_,⟨O⟩⟩:=zD J;obtain⟨oz,lz⟩:=zaY J l;obtain⟨q,e1,e2⟩:=D F O;have q0:= funext λt=>e2 t ()
   refine Yb O ox oz (el.trans lz.symm) λj=>?_
   rw[zgp J O]
   rcases wJ j xs.length with hj|hj
   ·rw[e1 j hj,q0];exact(yW j (nv O ps) (λ_=>0)).trans (La.jO j (nv O ps))
   ·exact zI O hj
  rw[ez]at pu1;exact(Z,q pl H1 g1 (us,hl1,pu1))
 rw[br ()];refine iteT (_,λ_ _ h=>h,?_);obtain⟨at',eat⟩ : ∃ at',xs.length=at'+l+1:=(xs.length - (l+1),());have hL:at'+l<xs.length:=by omega
 obtain⟨v,ev,rv⟩:=zJ pu1 (wa hL);have ob:=ox _ (wj hL);have sb:=sx _ (wj hL);have t2:k=0->zr (n+1 - xs.length)<=15100000:=λe=>zkj _ (by have:=n3 e;omega)
 refine(Z,Z,pl,Z,.inl (SqL.of hl1),_,Z,V,pl,_,_,v,V,V,SqL.of hl1,(by rw[show(us.length:Int) - 1 =((at'+l:Nat):Int) by omega];exact zk ev),?_);refine(Z,pl,Z,.inl (SqL.of hl1),Z,b,Z,.inl (SqL.of (g1 _ _ hub)),_,Z,V,?_);refine(Z,b,Z,.inl (SqL.of (g1 _ _ hub)),Z,(),(),?_);rw[wS,lub,lp]
 let Pv1_:Nat->L2.St->Hp->Prop:=λj L H'=>∃ ys us' o6,L=[some (.int k),some (.ref a),some (.ref b),some (.ref pl),some v,some (.int ((us.length:Int) - ((l+1:Nat):Int))),o6]/\Same H H'/\H' pl=some (.lst us')/\Paired (RN H') ys us'/\Paired (RN H') [xs[at'+l]] [v]/\ys.length=xs.length/\(∀ c (hc:c<xs.length),ys[c]?=some (if at'<=c/\c<at'+j then nsub k xs[c] (nmul k xs[at'+l] (ps.getD (c - at') (nnum k 0)))else xs[c]))
 refine zS (lo:=0) (n:=l+1) Pv1_ (xs,us,o6,V,g1,hl1,pu1,.cons rv .nil,V,(λc hc=>by rw[bn (),wa hc])) ?_ ?_
 ·rintro j L H2 hj ⟨ys,us',o6,rfl,g2,hl2,pu2,pv2,ly,ey⟩
  rw[vB];have lu2:=zd pu2;have ij:at'+j<xs.length:=by omega
  have hjp:j<ps.length:=by omega
  have e1:=ey (at'+j) ij;rw[bn ()]at e1;obtain⟨u,eu,ru⟩:=zJ pu2 e1;obtain⟨vb,eb,rvb⟩:=zJ pub (wa hjp);have rv2:RN H2 xs[at'+l] v:=by cases pv2;assumption
  have o2:=op _ (wj hjp);have o3:=ox _ (wj ij);have s3:=sx _ (wj ij);have om:=zY J ob o2;have sm:=yX ob o2 sb (sp _ (wj hjp));have ei:(us.length:Int) - ((l+1:Nat):Int) +(j:Int) =((at'+j:Nat):Int):=by omega
  refine(Z,Z,Z,Z,_,Z,V,pl,_,_,Z,V,SqL.of hl2,(by rw[ei];exact zk eu),Z,Z,Z,Z,b,_,_,Z,V,SqL.of (g2 _ _ hub),zk eb,k,xs[at'+l],ps[j],_,Z,(J,ob,o2,QB J ob sb (λe=>by have:=t2 e;omega) (),QB J o2 (sp _ (wj hjp)) (λ_=>by decide) (),rv2,rvb.mono g2),λv4 H4 g4 r4=>?_);refine(k,xs[at'+j],nmul k xs[at'+l] ps[j],_,Z,J,o3,om,QB J o3 s3 (λe=>by have:=t2 e;omega) (),QB J om sm (λe=>by have:=t2 e;omega) (),ru.mono g4,r4,λv5 H5 g5 r5=>?_);have g45:=g4.trans g5;have hl5:=g45 _ _ hl2;refine(Z,Z,Z,_,Z,V,pl,us',_,at'+j,V,V,hl5,(by rw[ei];exact xa ()),?_);refine(ys.set (at'+j) (nsub k xs[at'+j] (nmul k xs[at'+l] ps[j])),us'.set (at'+j) v5,Z,zQ (g2.trans g45) fl,za,yG hl5 (jN (zW g45 pu2) (at'+j) r5),yG hl5 (zW g45 pv2),by rw[vv];exact ly,λc hc=>?_)
  by_cases e:c=at'+j
  ·subst e;rw[uk (),bj (),uR,we,wa hjp];rfl
  ·rw[uh (λz=>e z.symm),ey c hc]
   by_cases d:at'<=c/\c<at'+j
   ·rw[bj d,bj ()]
   ·rw[bn d,bn ()]
 rintro L H2 ⟨ys,us',o6',rfl,g2,hl2,pu2,_,ly,ey⟩
 have lu2:=zd pu2;refine(Z,Z,pl,Z,.inl (SqL.of hl2),_,Z,V,Z,pl,Z,SqL.of hl2,λp3 hp3=>?_);rw[show(us'.length:Int) - 1 =((at'+l:Nat):Int) by omega,cutL _ ()];have g3:=zc hp3 (.lst (us'.take (at'+l)));have lt:(ys.take (at'+l)).length=at'+l:=by rw[wr];omega
 have mem:∀ y∈ys.take (at'+l),∃ c,∃ hc:c<xs.length,y=if at'<=c/\c<at' +(l+1)then nsub k xs[c] (nmul k xs[at'+l] (ps.getD (c - at') (nnum k 0)))else xs[c]:=λy hy=>by
  obtain⟨c,hc,e⟩:=wy (vn hy);have:=ey c ();rw[wa hc,e]at this;exact(c,(),Option.some.inj this)
 have pg:∀ t,(ps.getD t (nnum k 0)).ok k/\szk k 5000000 (ps.getD t (nnum k 0)):=λt=>by
  rcases wJ t ps.length with h|h
  ·rw[we,wa h];exact(op _ (wj h),sp _ (wj h))
  ·rw[we,wR h];exact(zm J 0,λ_=>yc J (yg _) ())
 refine(at'+l,(),ys.take (at'+l),us'.take (at'+l),p3,_,_,Z,g2.trans g3,za,g2.none hp3,zW g3 (zaR pu2 _),(),(),λy hy=>?_,λy hy=>?_,λF _ O=>?_,lt.symm)
 ·obtain⟨c,hc,rfl⟩:=mem y hy
  split
  ·exact jf J.lt.1 (ox _ (wj hc)) (zY J ob (pg _).1)
  ·exact ox _ (wj hc)
 ·rw[lt,show n+1 - (at'+l) =(n+1 - xs.length)+1 by omega];obtain⟨c,hc,rfl⟩:=mem y hy;show szk k (2*zr (n+1 - xs.length)+5000001) _
  split
  ·exact(YT (ox _ (wj hc)) (zY J ob (pg _).1) (sx _ (wj hc)) (yX ob (pg _).1 sb (pg _).2)).mono ()
  ·exact(sx _ (wj hc)).mono ()
 ·obtain⟨one,_⟩:=hq F O;obtain⟨q',e1,e2⟩:=D F O;obtain⟨d1,d2⟩:=Dt.div_step (o:=nv O ps) (q:=q') (l:=l) (a:=at') (λt ht=>zI O ()) one (λt ht=>e2 t ());refine(λt=>if t=at' then 0 else q' t,λj hj=>?_,λt ht=>?_)
  ·rw[lt]at hj;rw[qS hj,d2 j,zH O (ey j ()),← e1 j (),zH O (wa (show j<xs.length by omega)),← d1,← e1 (at'+l) hL,zH O (wa hL)]
   by_cases c:at'<=j
   ·rw[bj (c,()),bj c,O.sub (ox _ (wj _)) (zY J ob (pg _).1),O.mul ob (pg _).1]
    rfl
   ·rw[bn (λz=>c z.1),bn c];grind
  ·rw[lt]at ht;show(if t=at' then(0:F)else q' t)=0
   split
   ·rfl
   ·exact e2 t ()
inductive zdw:Sp
 | mk:∀ k A B bF Fr n h s z pm ta tb tc tf ra rb rc rf,vs=[.int k,.ref pm,.ref tf]->kab k->kap H A B bF pm ta tb tc ra rb rc->kac H Fr tf rf->MOk k n h s 80 A B bF->TOk k n s z Fr->80<=z->z<=4000000->1<=n->n<=4->1<=s->s<=4->(∀ t ras H',Same H H'->kac H' (adT k A (kah k n Fr bF)) t ras->Q (.ref t) H')->zdw vs H Q E_
def zcd:KnI pg 98 45 zdw:=by
 exists 98,Zl,zi,[0],zi,[2],ji
 obtain⟨k,A,B,bF,Fr,n,h,s,z,pm,ta,tb,tc,tf,ra,rb,rc,rf,rfl,J,hM,hF,oM,rF,z80,z4,n1,n4,s1,s4,q⟩:=h;have szl:=sh
 have lA:=oM.a.len;have lB:=oM.b.len;have lC:=oM.c.len;have tP:=YD J () rF oM.c;have lP:=tP.len;have zP:61+s *(z+80+1)<=60000000:=wE (wa3 (vN s4 (show z+80+1<=4000081 by omega)) 61) ();have lT:(adT k A (kah k n Fr bF)).length=n:=by unfold adT;rw[wO];omega
 refine(Z,Z,Z,pm,_,_,.ref tc,V,V,SqT.of hM.tup,V,k,Fr,bF,s,n,z,80,tf,tc,rf,rc,V,J,hF,hM.c,rF.ok,oM.c.ok,oM.c.len,(λr U y hy _=>rF.sz r U y hy),(λr U y hy _=>oM.c.sz r U y hy),(),s1,(),n1,(),(by rw[rF.len];omega),λtp rp H1 g1 NP=>?_);have hM1:=hM.mono g1;have l1:=zd hM1.a.2;rw[lA]at l1;have l2:=zd NP.tab.2;rw[lP]at l2;refine(Z,pm,_,_,.ref ta,V,V,SqT.of hM1.tup,V,Z,ta,tp,_,Z,SqL.of hM1.a.1,SqL.of NP.tab.1,?_)
 let Pv1_:Nat->List V->Hp->Prop:=λi ys H'=>∃ ras,ys=ras.map V.ref/\Grow H1 H' ((adT k A (kah k n Fr bF)).take i) ras
 refine xu (xs:=ra.map V.ref) (zs:=rp.map V.ref) (by rw[wc,wc];omega) Pv1_ ([],V,Grow.nil H1 (Same.refl H1)) ?_ ?_ ?_
 ·rintro i ys H' hi ⟨ras,rfl,G⟩
  refine(SqL.of (G.same _ _ hM1.a.1),SqL.of (G.same _ _ NP.tab.1),?_);have:=zd G.rows;rw[wr]at this;rw[wc]at hi ⊢;omega
 ·rintro i x z T ys H' hx' hz' hi hT ⟨ras,rfl,G⟩
  have g':=zc hT (.tup [x,z]);have G1:=G.mono g';obtain⟨row,a,hrow,ha,rfl,hR⟩:=(hM1.a.mono G1.same).row hx';obtain⟨row2,a2,hrow2,ha2,rfl,hR2⟩:=(NP.tab.mono G1.same).row hz';obtain⟨us1,hu1,pu1,lu1⟩:=hR.len;obtain⟨us2,hu2,pu2,lu2⟩:=hR2.len;have o1:=oM.a.row (wg hrow);have o2:=tP.row (wg hrow2);have lo1:=o1.len;have lo2:=o2.len;refine(T,Z,SqT.of za,V,_,Z,_,Z,V,?_);generalize upd H' T (.tup [.ref a,.ref a2])=H2 at *
  symm
  have lR:(addR k row row2).length=n:=by rw[Xl ()];exact lo1
  refine(Z,Z,a,a2,_,Z,SqL.of hu1,SqL.of hu2,?_)
  let Pv2_:Nat->List V->Hp->Prop:=λj ys H6=>Same H2 H6/\Paired (RN H6) ((addR k row row2).take j) ys
  refine xu (xs:=us1) (zs:=us2) () Pv2_ (Same.refl _,.nil) ?_ ?_ ?_
  ·rintro j ys H6 hj ⟨g6,pr⟩
   refine(SqL.of (g6 _ _ hu1),SqL.of (g6 _ _ hu2),?_);have:=zd pr;rw[wr]at this;omega
  ·rintro j x z T2 ys H6 D hz hj hT2 ⟨g6,pr⟩
   obtain⟨x',hx'',rx⟩:=zG pu1 D;obtain⟨z',hz'',rz⟩:=zG pu2 hz;have g7:=zc hT2 (.tup [x,z]);refine(T2,Z,SqT.of za,V,_,Z,_,Z,V,?_);generalize upd H6 T2 (.tup [x,z])=H7 at *
   symm
   have g67:=g6.trans g7;refine(Z,Z,Z,k,x',z',x,z,V,(J,o1.ok _ (wg hx''),o2.ok _ (wg hz''),(o1.sz _ (wg hx'')).mono (),(o2.sz _ (wg hz'')).mono zP,rx.mono g67,rz.mono g67),λv H8 g8 r8=>nxt hj (g67.trans g8,?_));rw[zf (za3 hx'' hz'')];exact zy (zW (g7.trans g8) pr) r8
  ·rintro ys H6 ⟨g6,pr⟩ p C
   rw[wo ()]at pr;refine nxt hi (ras++[p],by rw[wx];rfl,?_);rw[zf (zdU hrow hrow2)];exact(G1.mono g6).snoc C pr
 ·rintro ys H' ⟨ras,rfl,G⟩ pb hpb
  rw[wc,wo ()]at G;exact q pb ras _ (g1.trans (G.same.trans (zc hpb (.lst (ras.map V.ref))))) (G.done hpb).tab
inductive QL:Sp
 | mk:∀(k:Int)(pc:Addr)(cs:List Int)(at' n:Nat),vs=[.int k,.ref pc,.int (at':Int),.int (n:Int)]->kab k->H pc=some (.lst (cs.map V.int))->cs≠[]->n<=100->(∀ xs p H',Same H H'->NewR H H' (xs++[nnum k 1]) p->xs.length=n->OkR k xs->(∀ x∈xs,whk k 2 x)->Q (.ref p) H')->QL vs H Q E_
def zft:KnI pg 96 45 QL:=by
 exists 96,xC,[0,1,2],Zt,zT,ya
 obtain⟨k,pc,cs,at',n,rfl,J,hc,ne,n100,q⟩:=h;have szl:=sh
 refine(Z,n,V,(),(),?_);rw[wS]
 let Pv1_:Nat->List V->Hp->Prop:=λl ys' H9=>∃ xs,Same H H9/\Paired (RN H9) xs ys'/\xs.length=l/\OkR k xs/\∀ x∈xs,whk k 2 x
 refine zO (lo:=0) (n:=n) Pv1_ ([],Same.refl _,.nil,V,λx D=>(nomatch D),λx D=>(nomatch D)) ?_ ?_ ?_
 ·rintro l ys' H9 hl' ⟨xs,g9,pr9,lx,_⟩
  have:=zd pr9;omega
 ·rintro l ys' H9 hl' ⟨xs,g9,pr9,lx,ox,sx⟩
  symm
  refine(Z,Z,Z,Z,_,Z,V,k,pc,cs,at'+l,Z,(),J,g9 _ _ hc,ne,λx v' H10 g10 xr xo xs2=>?_);refine nxt hl' (xs++[x],g9.trans g10,zy (zW g10 pr9) xr,by rw[wD,lx];rfl,λy hy=>?_,λy hy=>?_)
  ·rcases wq.mp hy with h|h
   ·exact ox y h
   ·rw[wp.mp h];exact xo
  ·rcases wq.mp hy with h|h
   ·exact sx y h
   ·rw[wp.mp h];exact xs2
 ·rintro ys' H9 ⟨xs,g9,pr9,lx,ox,sx⟩ p C
  have g:=zc C (.lst ys');have h1:upd H9 p (.lst ys') p=some (.lst ys'):=za;have pr1:=zW g pr9;have lys:=zd pr9;generalize upd H9 p (.lst ys')=H1 at *;refine(Z,k,1,V,J,λv H2 g2 r2=>((),λp2 hp2=>?_));have g3:=zc hp2 (.lst [v]);have h3:upd H2 p2 (.lst [v]) p2=some (.lst [v]):=za;have r3:=r2.mono g3;generalize upd H2 p2 (.lst [v])=H3 at *;refine(p,p2,_,Z,V,g3 _ _ (g2 _ _ h1),h3,(by show ys'.length+1<=sizeLine;omega),λp4 hp4=>?_);have g4:=zc hp4 (.lst (ys'++[v]));have g03:=(g9.trans g).trans (g2.trans g3);exact q xs p4 _ (g03.trans g4) ((_,za,zW g4 (zy (zW (g2.trans g3) pr1) r3)),g03.none hp4) lx ox sx
def DivP(k:Int)(n l:Nat)(X:TB)(ps:List Nb):Prop:=∀ gs,GrP k n X gs->∀ F [bf F] (O:Kf k F),∃ q:Nat->F,(∀ j,nv O gs j=La.pmu j (nv O ps) q)/\∀ t,n - l<t->q t=0
def zaC:Rp H (.str s) (.str s):=by simp only[Rp]
def zb7:(PyData.str "fixed").canLay0=true:=by decide +kernel
def zfB:PyData.eqv (PyData.str "fixed") (PyData.str "fixed")=true:=by decide +kernel
def Jv:∀ n,(wK n false).any id=false
 | 0=>rfl
 | n+1=>by rw[vZ,waY,Jv n];rfl
inductive XU:Sp
 | mk:∀(k:Int)(A B bF Fr:TB)(ps:List Nb)(n h s l:Nat)(pm ta tb tc tf pt pp:Addr)(ra rb rc rf:List Addr),vs=[.int k,.ref pm,.ref pt,.int (l:Int),.ref tf]->kab k->kap H A B bF pm ta tb tc ra rb rc->kac H Fr tf rf->H pt=some (.tup [.str "fixed",.ref pp])->kag H ps pp->MOk k n h s 80 A B bF->(TW k n n 14 A/\TW k s n 14 bF/\TW k n s 2 Fr)->1<=l->l<=n->n<=4->1<=s->s<=4->((k=0->n<=3))->OkR k ps->ps.length=l+1->ps[l]?=some (nnum k 1)->(∀ x∈ps,szk k 5000000 x)->DivP k n l A ps->DivP k n l (adT k A (kah k n Fr bF)) ps->(∀ H',Same H H'->Q (.bl true) H')->XU vs H Q E_
def zdN:KnI pg 99 53 XU:=by
 exists 99,Jx,zi,Js,zi,zT,Jx,ze,zi,ya,zj,zi,zcd,zfF,XR,zi,[0],zj,Jx,ya
 obtain⟨k,A,B,bF,Fr,ps,n,h,s,l,pm,ta,tb,tc,tf,pt,pp,ra,rb,rc,rf,rfl,J,hM,hF,hpt,C,oM,⟨wA,wC,wF⟩,l1,ln,n4,s1,s4,n3,op,lp,pl1,sp,dA,dM,q⟩:=h;have szl:=sh
 obtain⟨F0,_,_,⟨φ0⟩⟩:=zD J;have tF:TOk k n s 80 Fr:=wF.tok J () ();have tP:=YD J () tF oM.c;obtain⟨oX,lX,_⟩:=JU J φ0 oM.a.ok oM.a.len tP.ok tP.len;have wP:=zes J wF.ok wC.ok (show s<=2^2 by omega) wF.sz wC.sz;have wX:∀ r∈adT k A (kah k n Fr bF),∀ x∈r,whk k 20 x:=λr U x D=>(ziw oM.a.ok tP.ok wA.sz wP r U x D).mono ()
 obtain⟨us,hus,pus,lus⟩:=C.len;obtain⟨u1,eu1,ru1⟩:=zJ pus pl1;refine(Z,pt,_,_,.str "fixed",V,V,SqT.of hpt,V,.str "fixed",.str "fixed",zaC,zaC,zb7,zb7,(),Z,?_);rw[zfB];refine iteF ?_;refine(Z,Z,pt,_,_,.ref pp,V,V,SqT.of hpt,V,Z,_,Z,V,k,ps,pp,Z,J,C,op,(by rw[lp];push_cast;rfl),?_);refine(Z,iteF ?_);refine(Z,pt,_,_,.ref pp,V,V,SqT.of hpt,V,Z,pp,_,_,u1,V,V,SqL.of hus,zk eu1,Z,k,1,V,J,λv1 H1 g1 r1=>?_);refine(toD (nnum k 1),toD (nnum k 1),ru1.mono g1,r1,yy _,yy _,wE (uC _ _) (wE (yO _) ()),Z,?_);rw[YQ];refine iteF ?_;have hM1:=hM.mono g1;refine(Z,pm,_,_,.ref ta,V,V,SqT.of hM1.tup,V,Z,Z,Z,k,A,B,bF,Fr,n,h,s,80,pm,ta,tb,tc,tf,ra,rb,rc,rf,V,J,hM1,hF.mono g1,oM,tF,(),(),(),n4,s1,s4,λtr rr H2 g2 hT2=>((),λpl hpl=>?_));have g3:=zc hpl (.lst [.ref ta,.ref tr]);have h3:upd H2 pl (.lst [.ref ta,.ref tr]) pl=some (.lst [.ref ta,.ref tr]):=za;have hT3:=hT2.mono g3;generalize upd H2 pl (.lst [.ref ta,.ref tr])=H3 at *;have g13:=(g1.trans g2).trans g3;have hA3:=hM.a.mono g13;have hp3:=C.mono g13;refine(pl,V,(_,SqL.of h3),?_)
 let Pv1_:Nat->L2.St->Hp->Prop:=λi L H'=>∃ o5 o6,L=[some (.int k),some (.ref pm),some (.ref pt),some (.int (l:Int)),some (.ref tf),o5,o6]/\Same H3 H'
 refine yl (xs:=[.ref ta,.ref tr]) Pv1_ (none,none,V,Same.refl _) ?_ ?_ ?_
 ·rintro i L H' _ ⟨o5,o6,rfl,g⟩
  exact SqL.of (g _ _ h3)
 ·rintro i v L H4 hv ⟨o5,o6,rfl,g4⟩
  obtain⟨X,t,ras,rfl,hT,oX',lX',wX',dX⟩ : ∃ X t ras,v=.ref t/\kac H4 X t ras/\OkM k n X/\X.length=n/\(∀ r∈X,∀ x∈r,whk k 20 x)/\DivP k n l X ps:=by
   match i,hv with
   | 0,hv=>cases hv;exact(A,ta,ra,V,hA3.mono g4,oM.a.ok,oM.a.len,λr U x D=>(wA.sz r U x D).mono (),dA)
   | 1,hv=>cases hv;exact(_,tr,rr,V,hT3.mono g4,oX,lX,wX,dM)
  refine(Z,Z,Z,k,X,n,t,ras,V,J,hT,(lX',oX',λr U x D=>(wX' r U x D).nsm J ((oX' r U).2 x D) () ()),(),n4,n3,λgs pg H5 g5 hg lg og gr=>?_);have sg:=zdX J n4 oX' wX' og lg gr;have hpt5:=(g13.trans (g4.trans g5)) _ _ hpt;refine(Z,pt,_,_,.ref pp,V,V,SqT.of hpt5,V,k,gs,ps,n,l,pg,pp,V,J,hg,(hp3.mono g4).mono g5,og,op,lg,lp,l1,ln,n4,n3,(λx D _=>sg x D),sp,(λF _ O=>(by rw[zH O pl1];exact O.num1,dX gs gr F O)),λpz H6 g6 hz=>?_);obtain⟨uz,huz,puz,luz⟩:=hz.len;refine(Z,pz,V,(_,SqL.of huz),?_)
  let Pv2_:Nat->List V->Hp->Prop:=λc ys H'=>Same H6 H'/\ys=wK c (.bl false)
  refine zo (xs:=uz) Pv2_ (Same.refl _,V) ?_ ?_ ?_
  ·rintro c ys H' hc ⟨g,rfl⟩
   refine(SqL.of (g _ _ huz),?_);have:=(zaY J l).2;rw[vf];omega
  ·rintro c v ys H7 hv hc ⟨g7,rfl⟩
   obtain⟨x,ex,rx⟩:=zG puz hv;have zx:x=nnum k 0:=vQ (wg ex)
   symm
   refine(Z,Z,k,0,V,J,λv8 H8 g8 r8=>(toD x,toD (nnum k 0),(rx.mono g7).mono g8,r8,yy _,yy _,wE (uC _ _) (wE (yO _) ()),?_));rw[jh,br zx];exact nxt hc (g7.trans g8,by rw[uZ];rfl)
  ·rintro ys H7 ⟨g7,rfl⟩ p8 hp8
   have g8:=zc hp8 (.lst (wK uz.length (V.bl false)));refine(p8,wK uz.length false,V,(by rw[za,List.map_replicate]),Z,?_);rw[Jv];exact iteF (_,Z,(((g4.trans g5).trans g6).trans g7).trans g8)
 ·rintro L H4 ⟨o5,o6,rfl,g4⟩
  exact q H4 (g13.trans g4)
inductive zbQ:Sp
 | mk:∀(k:Int)(n:Nat)(cols W:TB)(lw:List Nat)(bF q0:Nat)(b0:List Nb)(tc tw:Addr)(rc rw':List Addr),vs=[.int k,.ref tc,.ref tw]->kab k->kac H cols tc rc->kac H W tw rw'->IsRa k n W lw->kal bF W->OkM k n cols->kal bF cols->61<=bF->n<=10->(bF+1)*2^n<=60000000->cols.length<=1000->cols[q0]?=some b0->¬(∀ F [bf F] (O:Kf k F),Rm O W (nv O b0))->(∀(q:Nat) b H',Same H H'->cols[q]?=some b->(∀ F [bf F] (O:Kf k F),¬ Rm O W (nv O b))->Q (.int (q:Int)) H')->zbQ vs H Q E_
def zcf:KnI pg 57 48 zbQ:=by
 exists 57,zab,ze
 obtain⟨k,n,cols,W,lw,bF,q0,b0,tc,tw,rc,rw',rfl,J,hc,hW,iW,bW,oc,bc,c61,n10,big,l1000,hb0,no,q⟩:=h;have l0:=(wu.mp hb0).1
 let Wv1_:Nat->L2.St->Hp->Prop:=λm L H'=>∃ j:Nat,L=[some (.int k),some (.ref tc),some (.ref tw),some (.int (j:Int))]/\Same H H'/\j<=q0/\m=q0 - j
 refine(Wv1_,(q0,0,V,Same.refl _,vD _,V),?_)
 rintro m L H1 ⟨j,rfl,g1,hj,rfl⟩
 have hjl:j<cols.length:=by omega
 have hc1:=hc.mono g1;obtain⟨aj,eaj,hrj⟩:=zJ hc1.2 (wa hjl);have oj:=oc _ (wj hjl);refine(Z,Z,Z,Z,tc,_,_,.ref aj,V,V,SqL.of hc1.1,zk (by rw[wk,eaj];rfl),k,n,W,lw,cols[j],bF,tw,aj,rw',V,J,hW.mono g1,iW,hrj,oj.1,oj.2,bW,bc _ (wj hjl),c61,(),big,λR ls H2 g2 red=>(Z,?_));have eR:kas k R (W++[cols[j]]):=λF _ O v=>((red F O).fro v,(red F O).to v)
 by_cases e:R.length=W.length
 ·rw[br e];have all:=(QR J (yF red) iW eR (λF _ O v=>Iff.rfl)).mp e;have ne:j≠q0:=λz=>by
   subst z;rw[wa hjl]at hb0;rw[Option.some.inj hb0]at all;exact no all
  refine iteT (_,λ_ _ h=>h,?_);refine(Z,_,Z,V,q0 - (j+1),(),j+1,?_,g1.trans g2,(),V);show [_,_,_,some (V.int ((j:Int)+1))]=_;rw[show((j+1:Nat):Int) =(j:Int)+1 by omega]
 ·rw[bq e];exact iteF (Z,q j cols[j] H2 (g1.trans g2) (wa hjl) λF _ O r=>e (zbe J (yF red) iW eR (λF _ O v=>Iff.rfl) O r))
def Qj{n m:Nat}(n3:k=0->n<=3)(hi:i<n)(ox:OkR k x)(h:∀ y∈x,whk k (14+17*i) y):rowB 62 x:=by
 by_cases k0:k=0
 ·have:=n3 k0;exact(YH () ox h).mono ()
 ·exact xG k0 ox ()
inductive zaA:Sp
 | mk:∀(k:Int)(A B bF R0:TB)(l0:List Nat)(b:List Nb)(n h s hd:Nat)(pm ta tb tc:Addr)(ra rb rc:List Addr),vs=[.int k,.ref pm,.int (hd:Int)]->kab k->kap H A B bF pm ta tb tc ra rb rc->((1<=n/\n<=4/\(k=0->n<=3)))->(1<=h/\h<=4)->MOk k n h s 80 A B bF->TW k n n 14 A->TW k n h 14 B->(kaa h B)[hd]?=some b->(∀ F [bf F] (O:Kf k F),¬ Rm O [] (nv O b))->(IsRa k n R0 l0/\kas k R0 (kry k A (kaa h B) n)/\R0.length=n)->(∀ S bC i p p1 p2 r1 r2 H',i+1=n->ChL k n h A B hd i S bC->Same H H'->H' p=some (.tup [.ref p1,.ref p2])->kac H' S p1 r1->kac H' (bC++[zerN k h]) p2 r2->Q (.ref p) H')->zaA vs H Q E_
def zfd:KnI pg 58 49 zaA:=by
 exists 58,yp,zi,ze,yY,qF,zab,zfs,ze,Yz,zcf,zgI,xC,qF
 obtain⟨k,A,B,bF,R0,l0,b,n,h,s,hd,pm,ta,tb,tc,ra,rb,rc,rfl,J,hM,⟨n1,n4,n3⟩,⟨h1,h4⟩,oM,wA,wB,eb,nob,⟨i0,e0,len0⟩,q⟩:=h;have szl:=sh
 have lA:=oM.a.len;have lB:=oM.b.len;have oBt:OkM k n (kaa h B):=by have:=zw oM.b.ok;rw[lB]at this;exact this
 have lT:(kaa h B).length=h:=by unfold kaa;rw[wc,ve]
 have bCols:kal 1008 (kaa h B):=λr U=>(Qj (m:=0) n3 (i:=0) () (oBt r U).2 (yM wB.ok wB.sz r U)).mono ()
 have big:(62+1)*2^n<=60000000:=wE (vk _ (pow2 n4)) ();have big2:(1008+1)*2^n<=60000000:=wE (vk _ (pow2 n4)) ();refine(Z,pm,_,_,.ref tb,V,V,SqT.of hM.tup,V,B,h,tb,rb,V,hM.b,(λe=>by rw[e]at lB;simp at lB;omega),(λr U=>(oM.b.ok r U).1),(),(),λtk rk H1 g1 NC=>?_);have tK:=NC.tab;have lrk:=zd tK.2;rw[lT]at lrk;obtain⟨a0,ea0,hb1⟩:=zJ tK.2 eb;have hM1:=hM.mono g1;refine(Z,Z,tk,_,_,.ref a0,V,V,SqL.of tK.1,zk (by rw[wk,ea0];rfl),?_);refine(Z,(),λpst hpst=>?_);have g2:=zc hpst (.lst [.ref a0]);have h2:upd H1 pst (.lst [.ref a0]) pst=some (.lst [.ref a0]):=za;generalize upd H1 pst (.lst [.ref a0])=H2 at *;refine((),λpin hpin=>?_);have g3:=zc hpin (.lst []);have h3:upd H2 pin (.lst []) pin=some (.lst []):=za;have hst3:=g3 _ _ h2;have g13:=g2.trans g3;have f1:H1 pin=none:=g2.none hpin;have npp:pst≠pin:=λe=>by rw[e]at h2;rw[h2]at hpin;cases hpin
 have na1:a0≠pst:=λe=>by obtain⟨_,hh,_⟩:=hb1;rw[e,hpst]at hh;cases hh
 have na2:a0≠pin:=λe=>by obtain⟨_,hh,_⟩:=hb1;rw[e,f1]at hh;cases hh
 have hb3:=hb1.mono g13;generalize upd H2 pin (.lst [])=H3 at *;clear hpin h2 g2 g3
 let Wv1_:Nat->L2.St->Hp->Prop:=λm L H'=>∃(i:Nat)(S bC:TB)(ph:Addr)(rst rin:List Addr)(o7 o8:Option V),L=[some (.int k),some (.ref pm),some (.int (hd:Int)),some (.ref tk),some (.ref ph),some (.ref pst),some (.ref pin),o7,o8]/\Same H1 H'/\i<n/\ChL k n h A B hd i S bC/\kac H' S pst rst/\kac H' bC pin rin/\kag H' (S.getD i []) ph/\(ph≠pst/\ph≠pin/\pst∉rst/\pst∉rin/\pin∉rst/\pin∉rin)/\m=n - i
 refine(Wv1_,(_,0,[b],[],a0,[a0],[],none,none,V,g13,(),ChL.start J wA wB eb nob,(hst3,.cons hb3 .nil),(h3,.nil),hb3,(na1,na2,(λh=>na1 (wp.mp h).symm),(λh=>nomatch h),(λh=>na2 (wp.mp h).symm),(λh=>nomatch h)),V),?_);clear hst3 h3 hb3 g13
 rintro m L H4 ⟨i,S,bC,ph,rst,rin,o7,o8,rfl,g4,hi,ch,hS,hI,hP,⟨c1,c2,c3,c4,c5,c6⟩,rfl⟩
 have lst:=zd hS.2;rw[ch.lS]at lst;have lin:=zd hI.2;rw[ch.lU]at lin;obtain⟨us,hus,pus,lus⟩:=hP.len;have mi:S.getD i []∈S:=by rw[zU (by rw[ch.lS];omega)];exact wj _
 have oi:=ch.oS _ mi;have hk4:=g4 _ _ tK.1;have hM4:=hM1.mono g4;refine(Z,pst,Z,.inl (SqL.of hS.1),Z,ph,Z,.inl (SqL.of hus),_,Z,V,Z,?_);rw[wc,← lst,lus,oi.1]
 rcases wJ (i+1) n with hlt|hge
 rotate_left
 ·
  rw[bq (show ¬((i+1:Nat):Int) <(n:Int) by omega)];refine iteF ?_;have ei:i+1=n:=by omega
  refine(Z,Z,Z,Z,tk,Z,.inl (SqL.of hk4),?_);rw[wc,← lrk];refine(k,h,V,(),λv0 pz H5 g5 r0 hz fz=>?_);have hz':kag H5 (zerN k h) pz:=(_,hz,JB r0 h);refine((),λpl hpl=>?_);have g6:=zc hpl (.lst [.ref pz]);have h6:upd H5 pl (.lst [.ref pz]) pl=some (.lst [.ref pz]):=za;have hI6:=(hI.mono g5).mono g6;have hS6:=(hS.mono g5).mono g6;have hz6:=hz'.mono g6;generalize upd H5 pl (.lst [.ref pz])=H6 at *;refine(pin,pl,_,Z,V,hI6.1,h6,(by rw[wc];show rin.length+1<=_;omega),λpc hpc=>?_);have g7:=zc hpc (.lst (rin.map V.ref++[.ref pz]));have hS7:=hS6.mono g7;have hI7:kac (upd H6 pc (.lst (rin.map V.ref++[.ref pz]))) (bC++[zerN k h]) pc (rin++[pz]):=(by rw[za,wx];rfl,zy (hI6.mono g7).2 (hz6.mono g7));generalize upd H6 pc (.lst (rin.map V.ref++[.ref pz]))=H7 at *;refine((),λpt hpt=>?_);have g8:=zc hpt (.tup [.ref pst,.ref pc]);exact q S bC i pt pst pc rst (rin++[pz]) _ ei ch (((((g1.trans g4).trans g5).trans g6).trans g7).trans g8) za (hS7.mono g8) (hI7.mono g8)
 rw[br (show((i+1:Nat):Int) <(n:Int) by omega)];refine iteT (_,λ_ _ h=>h,?_);have rows:kal 62 S:=λr U=>by
  obtain⟨j,hj,e⟩:=wy U;have:=ch.lS;have sj:=ch.sz j ();rw[zU hj,e]at sj;exact Qj (m:=0) n3 (show j<n by omega) (ch.oS r U).2 sj
 have rok:ROk k n 80 (S.getD i []):=(oi.1,oi.2,λx D=>(jl J oi.2 (rows _ mi) () x D).mono ());refine(Z,Z,k,S,n,62,pst,rst,V,J,hS,ch.oS,rows,(),big,(),(by rw[ch.lS];omega),λW lw tw rw' H5 g5 NW red _=>?_);have iW:=yF red;have eW:kas k W S:=λF _ O v=>((red F O).fro v,(red F O).to v)
 have bW:kal 1008 W:=(Xn J iW (g:=62) () (_,ch.oS,rows,eW)).mono (wE (vk _ (pow2 n4)) ());refine(Z,Z,tk,Z,.inl (SqL.of (g5 _ _ hk4)),?_);rw[wc,← lrk];refine(k,h,V,(),λv0 pz H6 g6 r0 hz fz=>?_);have hz':kag H6 (zerN k h) pz:=(_,hz,JB r0 h);have g46:=g5.trans g6;have hM6:=hM4.mono g46;have hP6:=hP.mono g46;have m80:(n+2)*80<=20000000:=wE (wH _ (show n+2<=6 by omega)) ();have m81:(n+h+2)*80<=20000000:=wE (wH _ (show n+h+2<=10 by omega)) ();refine(Z,Z,Z,Z,Z,k,A,B,bF,S.getD i [],n,h,s,80,pm,ta,tb,tc,ph,ra,rb,rc,V,J,hM6,hP6,oM,rok,(),m80,(),λpd H7 g7 ND=>?_);have od:OkR k (imgM k A (S.getD i []))/\(imgM k A (S.getD i [])).length=n:=qk J oM.a.ok lA oi.2 oi.1 1;have bd:rowB 62 (imgM k A (S.getD i [])):=by
  by_cases k0:k=0
  ·have:=n3 k0;exact(YH (m:=14 +(14+17*i)+2) () od.1 (zcq J (λ_=>by omega) wA oi.2 (ch.sz i (wv _)))).mono ()
  ·exact xG k0 od.1 ()
 refine(k,n,W,lw,imgM k A (S.getD i []),1008,tw,pd,rw',V,J,(NW.tab.mono g6).mono g7,iW,ND.row,od.2,od.1,bW,bd.mono (),(),(),big2,λR ls H8 g8 red2=>(Z,?_));have eR:kas k R (W++[imgM k A (S.getD i [])]):=λF _ O v=>((red2 F O).fro v,(red2 F O).to v)
 have g48:=(g46.trans g7).trans g8;have hW8:=((NW.tab.mono g6).mono g7).mono g8;have hk8:=tK.mono (g4.trans g48)
 by_cases e:R.length=W.length
 ·rw[br e];refine iteT ?_;have all:=(QR J (yF red2) iW eR (λF _ O v=>Iff.rfl)).mp e;obtain⟨q0,b0,hq0,nq0⟩ : ∃ q0 b0,(kaa h B)[q0]?=some b0/\¬(∀(F:Type) [bf F] (O:Kf k F),Rm O W (nv O b0)):=vV λnone'=>by
   obtain⟨F,_,_,⟨O⟩⟩:=zD J;refine ch.stuck J wA wB hlt i0 e0 len0 O ((eW F O _).mp (all F O)) λb' hb'=>?_
   obtain⟨j,hj,ej⟩:=wy hb';refine vV λnb=>none' (j,b',by rw[wa hj,ej],λal=>nb ((eW F O _).mp (al F O)))
  refine(Z,Z,tk,Z,.inl (SqL.of hk8.1),?_);rw[wc,← lrk];refine(k,h,V,(),λtu ru H9 g9 NU=>?_);refine(Z,Z,Z,k,n,kaa h B,W,lw,1008,q0,b0,tk,tw,rk,rw',V,J,hk8.mono g9,hW8.mono g9,iW,bW,oBt,bCols,(),(),big2,(by rw[lT];omega),hq0,nq0,λq1 b1 Hb gb hb1' nob1=>?_);have hq1:q1<h:=by rw[← lT];exact(wu.mp hb1').1
  have eU:(kaj k h)[q1]?=some (kad k h q1):=by unfold kaj;rw[wk,wZ hq1];rfl
  obtain⟨pu,epu,hu0⟩:=zJ NU.tab.2 eU;have hUb:=NU.tab.mono gb;refine(tu,_,_,.ref pu,V,V,SqL.of hUb.1,zk (by rw[wk,epu];rfl),?_)
  dsimp only
  have gu:=(g48.trans g9).trans gb;have hu:=hu0.mono gb;have ou:uOr k h (kad k h q1):=.inr (q1,hq1,V);have z1:pu≠pst:=λz=>by have:=NU.fr pu (wg epu);rw[z,g48 _ _ hS.1]at this;cases this
  have z2:pu≠pin:=λz=>by have:=NU.fr pu (wg epu);rw[z,g48 _ _ hI.1]at this;cases this
  have no:∀(F:Type) [bf F] (O:Kf k F),¬ Rm O S (nv O (nextM k A B (S.getD i []) (kad k h q1))):=λF _ O r=>by
   have oku:=ou.ok J;have on:=zan J wA wB oi.2 oku.1;have ob1:=oBt b1 (wg hb1');refine nob1 F O ((eW F O _).mpr (Span.cast (r.add (((eW F O _).mp (all F O)).smul (-1))) λj=>?_))
   rcases wJ j n with hj|hj
   ·rw[Qp J wA wB O oi.2 oi.1 oku.1 oku.2.1 hj,yE J oM.a.ok oi.2 oi.1];show dot n _ _+_ + -1*dot n _ _=_;have eb1:(kaa h B).getD q1 []=b1:=by rw[we,hb1'];rfl
    have et:nv O ((kaa h B).getD q1 []) j=nv O (B.getD j []) q1:=zV wB.ok hq1;rw[eb1]at et;rw[je hq1 λl hl ne=>by rw[yH hq1];show _ *(if l=q1 then(1:F)else 0)=0;rw[bn ne];grind,yH hq1,et];show _+_ *(if q1=q1 then(1:F)else 0)+_=_;rw[bj rfl];grind
   ·rw[zI O (),zI O (),zI O ()];grind
  generalize kad k h q1=u at *;have ouk:=ou.ok J;have roku:ROk k h 80 u:=(ouk.2.1,ouk.1,λx D=>(ouk.2.2 x D).nsm J (ouk.1 x D) () ());refine(Z,Z,Z,Z,k,A,B,bF,S.getD i [],u,n,h,s,80,pm,ta,tb,tc,ph,pu,ra,rb,rc,V,J,hM4.mono gu,hP.mono gu,hu,oM,rok,roku,(),m81,λpn Ha ga NR=>?_);have rn:=NR.row;have gA:=gu.trans ga;have hS9:=hS.mono gA;have hI9:=hI.mono gA;have hu9:=hu.mono ga;have n1':pn≠pst:=λe=>by have:=NR.fa;rw[e,gu _ _ hS.1]at this;cases this
  have n2':pn≠pin:=λe=>by have:=NR.fa;rw[e,gu _ _ hI.1]at this;cases this
  have more:=ch.more J wA wB () ou no;have eg:(S++[nextM k A B (S.getD i []) u]).getD (i+1) []=nextM k A B (S.getD i []) u:=by rw[we,vd (by rw[ch.lS];omega),ch.lS,uD];rfl
  rw[← eg]at rn;generalize nextM k A B (S.getD i []) u=x' at *;refine(Z,.inl (V,_,SqL.of hS9.1),Z,pst,_,Z,V,hS9.1,(by rw[wc];omega),?_);have hS10:kac (upd Ha pst (.lst (rst.map V.ref++[.ref pn]))) (S++[x']) pst (rst++[pn]):=(by rw[za,wx];rfl,by
   rw[eg]at rn;exact zy (xR (zd hS9.2) λu x c h1 h2=>(yq hS9.2 h1 h2).upd (λe=>c3 (by rw[← e];exact wg h2)) hS9.1) (kag.upd rn n1' hS9.1))
  have hI10:kac (upd Ha pst (.lst (rst.map V.ref++[.ref pn]))) bC pin rin:=hI9.upd (Ne.symm npp) c4 hS9.1;have rn10:kag (upd Ha pst (.lst (rst.map V.ref++[.ref pn]))) ((S++[x']).getD (i+1) []) pn:=kag.upd rn n1' hS9.1;have hu10:kag (upd Ha pst (.lst (rst.map V.ref++[.ref pn]))) u pu:=hu9.upd z1 hS9.1;have g10:Same H1 (upd Ha pst (.lst (rst.map V.ref++[.ref pn]))):=zQ (g4.trans gA) hpst;generalize upd Ha pst (.lst (rst.map V.ref++[.ref pn]))=H10 at *;refine(Z,.inl (V,_,SqL.of hI10.1),Z,pin,_,Z,V,hI10.1,(by rw[wc];omega),?_);refine(n - (i+1),(),i+1,S++[x'],bC++[u],pn,rst++[pn],rin++[pu],_,Z,zQ g10 f1,hlt,more,hS10.upd npp (λh=>?_) hI10.1,(by rw[za,wx];rfl,?_),rn10.upd n2' hI10.1,(n1',n2',λh=>?_,λh=>?_,λh=>?_,λh=>?_),V)
  ·rcases wq.mp h with h|h
   ·exact c5 h
   ·exact n2' (wp.mp h).symm
  ·exact zy (xR (zd hI10.2) λu x c h1 h2=>(yq hI10.2 h1 h2).upd (λe=>c6 (by rw[← e];exact wg h2)) hI10.1) (hu10.upd z2 hI10.1)
  ·rcases wq.mp h with h|h
   ·exact c3 h
   ·exact n1' (wp.mp h).symm
  ·rcases wq.mp h with h|h
   ·exact c4 h
   ·exact z1 (wp.mp h).symm
  ·rcases wq.mp h with h|h
   ·exact c5 h
   ·exact n2' (wp.mp h).symm
  ·rcases wq.mp h with h|h
   ·exact c6 h
   ·exact z2 (wp.mp h).symm
 ·rw[bq e];refine iteF ?_
  dsimp only
  have gu:=g48;have hu:=(hz'.mono g7).mono g8;have ou:uOr k h (zerN k h):=.inl rfl;have z1:pz≠pst:=λz=>by rw[z,g5 _ _ hS.1]at fz;cases fz
  have z2:pz≠pin:=λz=>by rw[z,g5 _ _ hI.1]at fz;cases fz
  have no:∀(F:Type) [bf F] (O:Kf k F),¬ Rm O S (nv O (nextM k A B (S.getD i []) (zerN k h))):=λF _ O r=>by
   rw[L2.zee J oM oi.2 oi.1]at r;exact e (zbe J (yF red2) iW eR (λF _ O v=>Iff.rfl) O ((eW F O _).mpr r))
  generalize zerN k h=u at *;generalize pz=pu at *;have ouk:=ou.ok J;have roku:ROk k h 80 u:=(ouk.2.1,ouk.1,λx D=>(ouk.2.2 x D).nsm J (ouk.1 x D) () ());refine(Z,Z,Z,Z,k,A,B,bF,S.getD i [],u,n,h,s,80,pm,ta,tb,tc,ph,pu,ra,rb,rc,V,J,hM4.mono gu,hP.mono gu,hu,oM,rok,roku,(),m81,λpn Ha ga NR=>?_);have rn:=NR.row;have gA:=gu.trans ga;have hS9:=hS.mono gA;have hI9:=hI.mono gA;have hu9:=hu.mono ga;have n1':pn≠pst:=λe=>by have:=NR.fa;rw[e,gu _ _ hS.1]at this;cases this
  have n2':pn≠pin:=λe=>by have:=NR.fa;rw[e,gu _ _ hI.1]at this;cases this
  have more:=ch.more J wA wB () ou no;have eg:(S++[nextM k A B (S.getD i []) u]).getD (i+1) []=nextM k A B (S.getD i []) u:=by rw[we,vd (by rw[ch.lS];omega),ch.lS,uD];rfl
  rw[← eg]at rn;generalize nextM k A B (S.getD i []) u=x' at *;refine(Z,.inl (V,_,SqL.of hS9.1),Z,pst,_,Z,V,hS9.1,(by rw[wc];omega),?_);have hS10:kac (upd Ha pst (.lst (rst.map V.ref++[.ref pn]))) (S++[x']) pst (rst++[pn]):=(by rw[za,wx];rfl,by
   rw[eg]at rn;exact zy (xR (zd hS9.2) λu x c h1 h2=>(yq hS9.2 h1 h2).upd (λe=>c3 (by rw[← e];exact wg h2)) hS9.1) (kag.upd rn n1' hS9.1))
  have hI10:kac (upd Ha pst (.lst (rst.map V.ref++[.ref pn]))) bC pin rin:=hI9.upd (Ne.symm npp) c4 hS9.1;have rn10:kag (upd Ha pst (.lst (rst.map V.ref++[.ref pn]))) ((S++[x']).getD (i+1) []) pn:=kag.upd rn n1' hS9.1;have hu10:kag (upd Ha pst (.lst (rst.map V.ref++[.ref pn]))) u pu:=hu9.upd z1 hS9.1;have g10:Same H1 (upd Ha pst (.lst (rst.map V.ref++[.ref pn]))):=zQ (g4.trans gA) hpst;generalize upd Ha pst (.lst (rst.map V.ref++[.ref pn]))=H10 at *;refine(Z,.inl (V,_,SqL.of hI10.1),Z,pin,_,Z,V,hI10.1,(by rw[wc];omega),?_);refine(n - (i+1),(),i+1,S++[x'],bC++[u],pn,rst++[pn],rin++[pu],_,Z,zQ g10 f1,hlt,more,hS10.upd npp (λh=>?_) hI10.1,(by rw[za,wx];rfl,?_),rn10.upd n2' hI10.1,(n1',n2',λh=>?_,λh=>?_,λh=>?_,λh=>?_),V)
  ·rcases wq.mp h with h|h
   ·exact c5 h
   ·exact n2' (wp.mp h).symm
  ·exact zy (xR (zd hI10.2) λu x c h1 h2=>(yq hI10.2 h1 h2).upd (λe=>c6 (by rw[← e];exact wg h2)) hI10.1) (hu10.upd z2 hI10.1)
  ·rcases wq.mp h with h|h
   ·exact c3 h
   ·exact n1' (wp.mp h).symm
  ·rcases wq.mp h with h|h
   ·exact c4 h
   ·exact z1 (wp.mp h).symm
  ·rcases wq.mp h with h|h
   ·exact c5 h
   ·exact n2' (wp.mp h).symm
  ·rcases wq.mp h with h|h
   ·exact c6 h
   ·exact z2 (wp.mp h).symm
inductive zc0:Sp
 | mk:∀ W v t a ls m,vs=[.ref t,.ref a]->ITab H W t ls->IRow H v a->(∀ r∈W,r.length<1000/\∀ w∈r,Sm m w)->(∀ w∈v,Sm m w)->2*m<=60000000->W.length<1000->(∀ p H',Same H H'->IRow H' (W.map λr=>La.rdot r v) p->H p=none->Q (.ref p) H')->zc0 vs H Q E_
def zhv:KnI pg 14 2 zc0:=by
 exists 14,[1],zj,qP
 obtain⟨W,v,t,a,ls,m,rfl,hT,hv,sW,sv,hsz,lW,q⟩:=h;have szl:=sh
 have ll:=zd hT.2;have lM:(W.map λr=>La.rdot r v).length=W.length:=wc _;refine(Z,t,V,(_,SqL.of hT.1),?_)
 let Pv1_:Nat->List V->Hp->Prop:=λi ys H'=>Same H H'/\ys =((W.map λr=>La.rdot r v).take i).map V.int
 refine zo (xs:=ls.map V.ref) Pv1_ (Same.refl H,by simp) ?_ ?_ ?_
 ·rintro i ys H' hi ⟨g,rfl⟩
  refine(SqL.of (g _ _ hT.1),?_);rw[wc,wr,lM];omega
 ·rintro i x ys H' D hi ⟨g,rfl⟩
  obtain⟨ws,b,hw,hb,rfl,r⟩:=(hT.mono g).row D;have s1:=sW ws (wg hw)
  symm
  refine(Z,Z,ws,v,b,a,m,V,r,hv.mono g,s1.2,sv,hsz,(),λH2 g2=>nxt hi (g.trans g2,?_));rw[zf (by rw[wk,hw];rfl),wx];rfl
 ·rintro ys H' ⟨g,rfl⟩ p C
  rw[wc,wo (by rw[lM];omega)];exact q p _ (g.trans (zc C _)) za (g.none C)
def WOk(m n:Nat)(W:List (List Int)):Prop:=W.length=n/\∀ r∈W,r.length=n/\∀ w∈r,Sm m w
def zeX W s i (hi:i<s):(La.bfac W s).take (i+2+1) =(La.bfac W s).take (i+2)++[-(La.rdot ((W.getD s []).take s) (La.bpow ((W.take s).map (·.take s)) ((W.take s).map (·.getD s 0)) i))]:=by
 refine zf ?_;unfold La.bfac;rw[GE,GE,wk,wZ hi];rfl
inductive zjB:Sp
 | mk:∀(W:List (List Int))(n s:Nat)(t:Addr)(ls:List Addr),vs=[.ref t,.int (s:Int)]->ITab H W t ls->WOk 66000 n W->n<=8->s<n->(∀ p H',Same H H'->IRow H' (La.bfac W s) p->Q (.ref p) H')->zjB vs H Q E_
def zjQ:KnI pg 39 3 zjB:=by
 exists 39,[1],zj,yd,yd,yd,ze,[1],zj,yd,ze,ze,ze,zhv,qP
 obtain⟨W,n,s,t,ls,rfl,hT,oW,n4,sn,q⟩:=h;obtain⟨lW,oW⟩:=oW;have szl:=sh
 have ll:=zd hT.2;rw[lW]at ll;have lTk:(W.take s).length=s:=by rw[wr];omega
 refine(Z,Z,Z,t,Z,SqL.of hT.1,λp1 hp1=>?_);rw[Ye,← uq];have g1:=zc hp1 (.lst ((ls.take s).map V.ref));have e1:upd H p1 (.lst ((ls.take s).map V.ref)) p1=some (.lst ((ls.take s).map V.ref)):=za;have T1:ITab (upd H p1 (.lst ((ls.take s).map V.ref))) (W.take s) p1 (ls.take s):=(za,yt (λ_ _ r=>r.mono g1) (Qq hT.2 s));generalize upd H p1 (.lst ((ls.take s).map V.ref))=H1 at *;refine(p1,V,(_,SqL.of e1),?_);have lI:((W.take s).map (·.take s)).length=s:=by rw[wc];exact lTk
 let Pv1_:Nat->List V->Hp->Prop:=λi ys H'=>∃ zs,ys=zs.map V.ref/\Same H1 H'/\Paired (IRow H') (((W.take s).map (·.take s)).take i) zs
 refine zo (xs:=(ls.take s).map V.ref) Pv1_ ([],V,Same.refl _,.nil) ?_ ?_ ?_
 ·rintro i ys H' hi ⟨zs,rfl,g,pr⟩
  refine(SqL.of (g _ _ e1),?_);have:=zd pr;rw[wr]at this;rw[wc];omega
 ·rintro i x ys H' D hi ⟨zs,rfl,g,pr⟩
  obtain⟨ws,b,hw,hb,rfl,r⟩:=(T1.mono g).row D
  symm
  refine(Z,Z,Z,b,Z,SqL.of r,λp3 hp3=>?_);rw[Ye,← uq];refine nxt hi (zs++[p3],by rw[wx];rfl,g.trans (zc hp3 _),?_);rw[zf (by rw[wk,hw];rfl)];exact ITab.snoc pr (zc hp3 _) za
 rintro ys H2 ⟨zs,rfl,g2,pr2⟩ pI hpI
 rw[wc,wo (by rw[lI,wr];omega)]at pr2;have g3:=zc hpI (.lst (zs.map V.ref));have TI:ITab (upd H2 pI (.lst (zs.map V.ref))) ((W.take s).map (·.take s)) pI zs:=(za,yt (λ_ _ r=>r.mono g3) pr2);generalize upd H2 pI (.lst (zs.map V.ref))=H3 at *;have g03:=(g1.trans g2).trans g3;clear e1 T1 g1 g2 pr2 hpI g3 hp1;obtain⟨b0,hb0⟩ : ∃ b0,ls[s]?=some b0:=(ls[s]'(),wa ());obtain⟨ws,hws,rws⟩:=zG hT.2 hb0;have gds:W.getD s []=ws:=by rw[we,hws];rfl
 have ows:=oW ws (wg hws);refine(Z,Z,t,_,_,Z,V,SqL.of (g03 _ _ hT.1),zk (by rw[wk,hb0];rfl),Z,Z,b0,Z,SqL.of (rws.mono g03),λpB hpB=>?_);rw[Ye,← uq];have g4:=zc hpB (.lst ((ws.take s).map V.int));have RB:IRow (upd H3 pB (.lst ((ws.take s).map V.int))) (ws.take s) pB:=za;generalize upd H3 pB (.lst ((ws.take s).map V.int))=H4 at *;have g04:=g03.trans g4;replace TI:=TI.mono g4;refine(Z,Z,Z,t,Z,SqL.of (g04 _ _ hT.1),λp5 hp5=>?_);rw[Ye,← uq];have g5:=zc hp5 (.lst ((ls.take s).map V.ref));have e5:upd H4 p5 (.lst ((ls.take s).map V.ref)) p5=some (.lst ((ls.take s).map V.ref)):=za;have T5:ITab (upd H4 p5 (.lst ((ls.take s).map V.ref))) (W.take s) p5 (ls.take s):=(za,yt (λ_ _ r=>r.mono (g04.trans g5)) (Qq hT.2 s));generalize upd H4 p5 (.lst ((ls.take s).map V.ref))=H5 at *;refine(p5,V,(_,SqL.of e5),?_);have lV:((W.take s).map (·.getD s 0)).length=s:=by rw[wc];exact lTk
 let Pv2_:Nat->List V->Hp->Prop:=λi ys H'=>H'=H5/\ys =(((W.take s).map (·.getD s 0)).take i).map V.int
 refine zo (xs:=(ls.take s).map V.ref) Pv2_ (V,by simp) ?_ ?_ ?_
 ·rintro i ys H' hi ⟨rfl,rfl⟩
  refine(SqL.of e5,?_);rw[wc,wr];omega
 ·rintro i x ys H' D hi ⟨rfl,rfl⟩
  obtain⟨us,b,hw,hb,rfl,r⟩:=T5.row D;have ou:=oW us (vn (wg hw));have hs':us[s]?=some us[s]:=wa ()
  symm
  refine(Z,Z,b,_,_,Z,V,SqL.of r,zk (by rw[wk,hs'];rfl),nxt hi (V,?_));rw[zf (x:=us[s]) (by rw[wk,hw];show some (us.getD s 0)=_;rw[we,hs'];rfl),wx];rfl
 rintro ys H6 ⟨rfl,rfl⟩ pV hpV
 rw[wc,wo (by rw[lV,wr];omega)];have g6:=zc hpV (.lst (((W.take s).map (·.getD s 0)).map V.int));have RV:IRow (upd H6 pV (.lst (((W.take s).map (·.getD s 0)).map V.int))) ((W.take s).map (·.getD s 0)) pV:=za;generalize upd H6 pV (.lst (((W.take s).map (·.getD s 0)).map V.int))=H7 at *;have g57:=g5.trans g6;have g07:=g04.trans g57;replace TI:=TI.mono g57;replace RB:=RB.mono g57;clear e5 T5 g4 g5 g6 g57 hp5 hpV hpB;obtain⟨wss,hss⟩ : ∃ x,ws[s]?=some x:=(_,wa (show s<ws.length by omega));have gss:(W.getD s []).getD s 0=wss:=by rw[gds,we,hss];rfl
 refine(Z,Z,t,_,_,Z,V,SqL.of (g07 _ _ hT.1),zk (by rw[wk,hb0];rfl),Z,b0,_,_,Z,V,SqL.of (rws.mono g07),zk (by rw[wk,hss];rfl),Z,(),λpt hpt=>?_);have g8:=zc hpt (.lst [.int 1,.int (-wss)]);have et:upd H7 pt (.lst [.int 1,.int (-wss)]) pt=some (.lst (((La.bfac W s).take (0+2)).map V.int)):=by
  rw[za];unfold La.bfac;rw[gss];rfl
 have Hpt:H pt=none:=g07.none hpt;have npV:pV≠pt:=λe=>by have h:=RV;unfold IRow at h;rw[e,hpt]at h;cases h
 have sV:∀ w∈(W.take s).map (·.getD s 0),Sm 66000 w:=λw hw=>by
  obtain⟨r,U,rfl⟩:=wm.mp hw;have o:=oW r (vn U);rw[we,wa (show s<r.length by omega)];exact o.2 _ (wj _)
 have sI:∀ r∈(W.take s).map (·.take s),r.length<=8/\∀ w∈r,Sm 66000 w:=λr U=>by
  obtain⟨r',hr',rfl⟩:=wm.mp U;have o:=oW r' (vn hr');exact(by rw[wr];omega,λw hw=>o.2 w (vn hw))
 have sP:∀ i,i<=8->∀ w∈La.bpow ((W.take s).map (·.take s)) ((W.take s).map (·.getD s 0)) i,Sm 600000 w:=λi hi w hw=>(YV sI sV i w hw).mono (by have:(i+1) *(66000+8)<=9 *(66000+8):=wH _ ();omega)
 generalize eI:(W.take s).map (·.take s)=inn at *;generalize eV:(W.take s).map (·.getD s 0)=bes at *;refine(Z,s,V,(),(),?_);rw[wS]
 let Pv3_:Nat->L2.St->Hp->Prop:=λi L H'=>∃ pV o6,L=[some (.ref t),some (.int (s:Int)),some (.ref pI),some (.ref pB),some (.ref pV),some (.ref pt),o6]/\Same H7 H'/\IRow H' (La.bpow inn bes (i - 1)) pV/\pV≠pt/\H' pt=some (.lst (((La.bfac W s).take (i+2)).map V.int))
 refine zS (lo:=0) (n:=s) Pv3_ (pV,none,V,g8,RV.mono g8,npV,et) ?_ ?_
 ·rintro i L H8 hi ⟨pV,o6,rfl,g8',RV8,npV8,et8⟩
  rw[vB]
  try dsimp only
  let Pv4_:L2.St->Hp->Prop:=λL H'=>∃ pV,L=[some (.ref t),some (.int (s:Int)),some (.ref pI),some (.ref pB),some (.ref pV),some (.ref pt),some (.int (i:Int))]/\Same H8 H'/\IRow H' (La.bpow inn bes i) pV/\pV≠pt
  refine jb Pv4_ ?_ ?_
  rotate_left
  ·intro hN;refine(Z,_,Z,V,Z,?_);refine ite2 (λcc=>?_) (λcc=>?_)
   ·have i0:0<i:=by have:(0:Int) <(i:Int):=bt cc;omega
    obtain⟨i',rfl⟩ : ∃ i',i=i'+1:=(i - 1,());rw[wan]at RV8;refine(Z,Z,inn,La.bpow inn bes i',pI,pV,zs,600000,V,TI.mono g8',RV8,(λr U=>(by have:=(sI r U).1;omega,λw hw=>((sI r U).2 w hw).mono ())),sP i' (),(),(by rw[← lI]at sn;omega),λp9 H9 g9 R9 n9=>?_);exact hN _ _ (p9,V,g9,R9,λe=>by rw[e,et8]at n9;cases n9)
   ·have i0:i=0:=by
     have:¬(0:Int) <(i:Int):=bv (uv.mpr cc);omega
    subst i0;exact hN _ _ (pV,V,Same.refl _,RV8,npV8)
  clear RV8 npV8
  rintro L H9 ⟨pV,rfl,g9,RV9,npV9⟩
  have g79:=g8'.trans g9;have et9:=g9 _ _ et8;refine(Z,.inl (V,_,SqL.of et9),Z,Z,ws.take s,La.bpow inn bes i,pB,pV,600000,V,RB.mono g79,RV9,(λw hw=>(ows.2 w (vn hw)).mono ()),sP i (),(),(by rw[wr];omega),λHa ga=>?_);have eta:=ga _ _ et9;refine(Z,pt,_,Z,V,eta,(by rw[wc,wr];omega),?_);refine(pV,Z,zQ (g79.trans ga) hpt,(show IRow _ _ _ from by unfold IRow;rw[zE npV9];exact RV9.mono ga),npV9,?_);have hb:=zeX W s i hi;rw[gds,eI,eV]at hb;rw[za,show i+1+2=i+2+1 by omega,hb,wx];rfl
 ·rintro L H8 ⟨pV,o6,rfl,g8',RV8,npV8,et8⟩
  rw[wo (by rw[zeF];exact wv _)]at et8;exact(Z,q pt H8 (g07.trans g8') et8)
inductive ziD:Sp
 | mk:∀ W n t ls,vs=[.ref t]->ITab H W t ls->WOk 66000 n W->1<=n->n<=8->(∀ p H',Same H H'->IRow H' (La.wgr W n) p->Q (.ref p) H')->ziD vs H Q E_
def zjM:KnI pg 40 4 ziD:=by
 exists 40,zjQ,[1,3,2],zT,qP,yd,zT
 obtain⟨W,n,t,ls,rfl,hT,oW,n1,n4,q⟩:=h;have szl:=sh
 have ll:=zd hT.2;rw[oW.1]at ll;have o4:∀ r∈W,r.length<=8/\∀ w∈r,Sm 66000 w:=λr U=>(by rw[(oW.2 r U).1];exact n4,(oW.2 r U).2)
 have sG:∀ s,s<=8->∀ w∈La.wgr W s,Sm 5000000 w:=λs hs w hw=>(YG o4 s hs w hw).mono (by have:s *(9 *(66000+8)+10)<=8 *(9 *(66000+8)+10):=wH _ hs;omega)
 have sB:∀ s,s<=7->∀ w∈La.bfac W s,Sm 5000000 w:=λs hs w hw=>(zal o4 hs w hw).mono ()
 refine((),λp0 hp0=>?_);have g0:=zc hp0 (.lst [.int 1]);refine(Z,t,Z,.inl (SqL.of (g0 _ _ hT.1)),Z,(),(by rw[wc,← ll];omega),?_);rw[wS,wc,← ll]
 let Pv1_:Nat->L2.St->Hp->Prop:=λi L H'=>∃ pt o2 o3,L=[some (.ref t),some (.ref pt),o2,o3]/\Same H H'/\IRow H' (La.wgr W i) pt
 refine zS (lo:=0) (n:=n) Pv1_ (p0,none,none,V,g0,za) ?_ ?_
 ·rintro i L H1 hi ⟨pt,o2,o3,rfl,g1,R1⟩
  rw[vB];refine(Z,Z,W,n,i,t,ls,V,hT.mono g1,oW,n4,hi,λp2 H2 g2 R2=>?_);refine(p2,Z,SqL.of R2,λp3 hp3=>?_);rw[← waC];have g3:=zc hp3 (.lst ((La.bfac W i).reverse.map V.int));have R3:IRow (upd H2 p3 (.lst ((La.bfac W i).reverse.map V.int))) (La.bfac W i).reverse p3:=za;generalize upd H2 p3 (.lst ((La.bfac W i).reverse.map V.int))=H3 at *;have g13:=g2.trans g3;refine(Z,_,Z,V,Z,(),(),?_);rw[show(i:Int)+2 =((i+2:Nat):Int) by omega,wS]
  let Pv2_:Nat->List V->Hp->Prop:=λj ys H'=>Same H3 H'/\ys =((La.wgr W (i+1)).take j).map V.int
  refine zO (lo:=0) (n:=i+2) Pv2_ (Same.refl _,by simp) ?_ ?_ ?_
  ·rintro j ys H' hj ⟨g,rfl⟩
   rw[wc,wr];omega
  ·rintro j ys H' hj ⟨g,rfl⟩
   symm
   rw[vB];refine(Z,Z,Z,_,Z,V,Z,_,Z,V,Z,p3,Z,SqL.of (R3.mono g),λp4 hp4=>?_);rw[show(i:Int)+1 - (j:Int) =((i+1 - j:Nat):Int) by omega,Xk,← uS];have g4:=zc hp4 (.lst (((La.bfac W i).reverse.drop (i+1 - j)).map V.int));have R4:IRow (upd H' p4 (.lst (((La.bfac W i).reverse.drop (i+1 - j)).map V.int))) ((La.bfac W i).reverse.drop (i+1 - j)) p4:=za;generalize upd H' p4 (.lst (((La.bfac W i).reverse.drop (i+1 - j)).map V.int))=H4 at *;refine(La.wgr W i,(La.bfac W i).reverse.drop (i+1 - j),pt,p4,5000000,V,R1.mono ((g13.trans g).trans g4),R4,sG i (),(λw hw=>sB i () w (gZ.mp (uE hw))),(),(by rw[qD];omega),λH5 g5=>nxt hj ((g.trans g4).trans g5,?_));have e:(La.wgr W (i+1))[j]?=some (La.rdot (La.wgr W i) ((La.bfac W i).reverse.drop (i+1 - j))):=by
    show((wQ (i+2)).map _)[j]?=_;rw[wk,wZ hj];rfl
   rw[zf e,wx];rfl
  ·rintro ys H' ⟨g,rfl⟩ p5 hp5
   rw[wo (by rw[qD];omega)];exact(p5,_,Z,((g1.trans g13).trans g).trans (zc hp5 _),za)
 ·rintro L H1 ⟨pt,o2,o3,rfl,g1,R1⟩
  exact(Z,q pt H1 g1 R1)
def zgE(h:Sm m b):∀ i,Sm (1+i*m) (bp b i)
 | 0=>kax.mono ()
 | i+1=>by
  refine((zgE h i).mul h).mono ?_;rw[uK];omega
inductive zar:Sp
 | mk:∀ k M n m t ras,vs=[.int k,.ref t]->kab k->kac H M t ras->TOk k n n m M->1<=n->n<=8->((k=0->n<=3))->61<=m->(n*n+2)*m<=66000->(∀ xs p H',Same H H'->NewR H H' xs p->xs.length=n+1->OkR k xs->GrP k n M xs->(∀ x∈xs,szk k 5000000 x)->Q (.ref p) H')->zar vs H Q E_
def ze2:KnI pg 41 44 zar:=by
 exists 41,zf7,zj,zjM,zi,JY,zi
 obtain⟨k,M,n,m,t,ras,rfl,J,hT,oM,n1,n4,n44,m7,m1000,q⟩:=h;have szl:=sh
 refine(Z,Z,k,M,n,n,m,t,ras,V,J,hT,oM,n1,(),(),m7,(),λpp t' b ls H1 g1 hpp T1 sc sb0 sw0=>?_);have sb:=sb0.mono m1000;have sw:=λx D=>(sw0 x D).mono m1000
 have gr:=zjn J oM.len oM.ok sc;refine((),λpt hpt=>?_);have g2:=zc hpt (.lst []);have ht2:upd H1 pt (.lst []) pt=some (.lst []):=za;generalize upd H1 pt (.lst [])=H2 at *;have oW:WOk 66000 n (M.map λr=>r.map (scW b)):=by
  refine(by rw[wc];exact oM.len,λr U=>?_);obtain⟨r',hr',rfl⟩:=wm.mp U;refine(by rw[wc];exact(oM.ok r' hr').1,λw hw=>?_);obtain⟨x,D,rfl⟩:=wm.mp hw;exact sw x (Gs.mpr (r',hr',D))
 have o4:∀ r∈M.map λr=>r.map (scW b),r.length<=8/\∀ w∈r,Sm 66000 w:=λr U=>(by rw[(oW.2 r U).1];exact n4,(oW.2 r U).2)
 have sG:∀ w∈La.wgr (M.map λr=>r.map (scW b)) n,Sm 5000000 w:=λw hw=>(YG o4 n n4 w hw).mono (by have:n *(9 *(66000+8)+10)<=8 *(9 *(66000+8)+10):=wH _ n4;omega)
 have lG:=qD (M.map λr=>r.map (scW b)) n;have sG3:k=0->∀ w∈La.wgr (M.map λr=>r.map (scW b)) n,Sm 1800000 w:=λe w hw=>(YG o4 n n4 w hw).mono (by have:n *(9 *(66000+8)+10)<=3 *(9 *(66000+8)+10):=wH _ (n44 e);omega)
 refine(Z,pp,_,_,Z,V,SqT.of (g2 _ _ hpp),V,M.map λr=>r.map (scW b),n,t',ls,V,T1.mono g2,oW,n1,n4,λpw H3 g3 R3=>?_);have g13:=g2.trans g3;refine(pw,V,(_,SqL.of R3),?_);generalize La.wgr (M.map λr=>r.map (scW b)) n=ws at *;have lN:(grN k b ws n).length=n+1:=YM
 let Pv1_:Nat->L2.St->Hp->Prop:=λi L H'=>∃ us o5,L=[some (.int k),some (.ref t),some (.ref pp),some (.ref pt),some (.int (bp b i)),o5]/\Same H1 H'/\H' pw=some (.lst (ws.map V.int))/\H' pt=some (.lst us)/\Paired (RN H') ((grN k b ws n).take i) us
 refine yl (xs:=ws.map V.int) Pv1_ ([],none,V,g13,R3,g3 _ _ ht2,.nil) ?_ ?_ ?_
 ·rintro i L H' _ ⟨us,o5,rfl,g,hw,_⟩
  exact SqL.of hw
 ·rintro i v L H4 hv ⟨us,o5,rfl,g4,hw4,ht4,pu4⟩
  rw[wk]at hv;obtain⟨x,D,rfl⟩:=wY.mp hv;have il:i<n+1:=by rw[← lG];exact(wu.mp D).1
  have sbp:=(zgE sb i).mono (show 1+i*66000<=600000 by have:i*66000<=8*66000:=wH _ ();omega);refine(Z,.inl (V,_,SqL.of ht4),Z,Z,Z,k,x,bp b i,V,J,zgX J sc i,(sG x (wg D)).mono (),sbp.mono (),λv5 H5 g5 r5=>?_);have ht5:=g5 _ _ ht4;have lu:=zd pu4;rw[wr]at lu;have nwt:pw≠pt:=λe=>by
   rw[e,ht4]at hw4;have:=g3 _ _ ht2;rw[e]at R3;unfold IRow at R3;rw[this]at R3;cases ws with
   | nil=>simp at D
   | cons a b=>cases R3
  refine(pt,us,Z,V,ht5,(),?_);have npp:pp≠pt:=λe=>by rw[e,hpt]at hpp;cases hpp
  have hpp5:upd H5 pt (.lst (us++[v5])) pp=some (.tup [.ref t',.int b]):=by rw[zE npp];exact g5 _ _ (g4 _ _ hpp)
  refine(Z,Z,pp,_,_,Z,V,SqT.of hpp5,V,_,Z,V,(sbp.mulOk sb ()),?_);refine(us++[v5],Z,zQ (g4.trans g5) hpt,by rw[zE nwt];exact g5 _ _ hw4,za,?_);have e:(grN k b ws n)[i]?=some (ndiv k (nnum k x) (nnum k (bp b i))):=by
   unfold grN;rw[wk,wZ il];show some (ndiv k (nnum k (ws.getD i 0)) _)=_;rw[we,D];rfl
  rw[zf e];exact yG ht5 (zy (zW g5 pu4) r5)
 ·rintro L H4 ⟨us,o5,rfl,g4,hw4,ht4,pu4⟩
  rw[wc,wo ()]at pu4;refine(Z,pt,us,V,SqL.of ht4,λpr hpr=>?_);have g5:=zc hpr (.lst us.reverse);exact q (grN k b ws n).reverse pr _ ((g1.trans g4).trans g5) ((_,za,zW g5 (zbI pu4)),g1.none (g4.none hpr)) (by rw[ud,lN]) (λx D=>zjI J x (gZ.mp D)) gr λx D k0=>(by
   have hx':=gZ.mp D;unfold grN at hx';obtain⟨i,hi,rfl⟩:=wm.mp hx';have hin:i<n+1:=vA.mp hi;have n3:=n44 k0;have s1:Sm 1800000 (ws.getD i 0):=by
    have il:i<ws.length:=by omega
    rw[we,wa il];exact sG3 k0 _ (wj il)
   have s2:Sm 1800000 (bp b i):=(zgE sb i).mono (by have:i*66000<=3*66000:=wH _ ();omega);exact(zhT J (zm J _) (zm J _) (zgX J sc i) (yc J s1 ()) (yc J s2 ()) ()).mono ())
inductive zdq:Sp
 | mk:∀(k:Int)(xs:List Nb)(a:Addr)(l:Nat)(x:Nb),vs=[.int k,.ref a]->kag H xs a->((∀ j,j<l->xs[j]?=some (nnum k 0)))->xs[l]?=some x->x≠nnum k 0->(∀ H',Same H H'->Q (.int (l:Int)) H')->zdq vs H Q E_
def Qd:KnI pg 29 2 zdq:=by
 exists 29,yP,zh0,ze
 obtain⟨k,xs,a,l,x,rfl,ha,hz,hl,ne,q⟩:=h;refine(Z,k,0,V,λv0 H1 g1 r1=>?_);obtain⟨us,hu,pu,lu⟩:=(ha.mono g1).len
 let Wv1_:Nat->L2.St->Hp->Prop:=λm L H'=>∃ p:Nat,L=[some (.int k),some (.ref a),some v0,some (.int (p:Int))]/\H'=H1/\p<=l/\m=l - p
 refine(Wv1_,(_,0,V,V,vD _,V),?_)
 rintro m L H' ⟨p,rfl,rfl,pl,rfl⟩
 rcases wJ p l with h|h
 ·obtain⟨u,eu,ru⟩:=zJ pu (hz p h);refine(Z,Z,a,_,_,Z,V,SqL.of hu,zk eu,Z,toD (nnum k 0),toD (nnum k 0),ru,r1,yy _,yy _,wE (uC _ _) (wE (yO _) ()),Z,?_);rw[YQ];refine iteT (_,λ_ _ h=>h,?_);exact(Z,_,Z,V,_,(),p+1,V,V,(),V)
 ·have e:p=l:=by omega
  subst e;obtain⟨u,eu,ru⟩:=zJ pu hl;refine(Z,Z,a,_,_,Z,V,SqL.of hu,zk eu,Z,toD x,toD (nnum k 0),ru,r1,yy _,yy _,wE (uC _ _) (wE (yO _) ()),Z,?_);rw[jh,bq ne];refine iteF ?_;exact(Z,q _ g1)
inductive zck:Sp
 | mk:∀(k:Int)(n:Nat)(R:TB)(ls:List Nat)(f:Nat)(fI:Int)(t:Addr)(rs:List Addr),vs=[.int k,.int (n:Int),.ref t,.int fI]->fI =(f:Int)->kab k->kac H R t rs->IsRa k n R ls->f<n->f∉ls->n<=64->(∀ r∈R,∀ x∈r,nsm 60000000 x)->(∀ xs p H',Same H H'->NewR H H' xs p->AgR k n R ls f xs->Q (.ref p) H')->zck vs H Q E_
def zgT:KnI pg 46 43 zck:=by
 exists 46,qF,yP,zj,zav,yP,ze,Qd
 obtain⟨k,n,R,ls,f,fI,t,rs,rfl,rfl,J,hT,isR,hf,nf,n64,sR,q⟩:=h;have szl:=sh
 obtain⟨oR,lls,inc,llt⟩:=ye J isR;have nd:ls.Nodup:=inc.imp λh=>vp h
 obtain⟨F0,i0,d0,⟨φ0⟩⟩:=zD J;refine(Z,Z,k,n,V,(),λv0 pt H2 g2 rv2 hpt2 ptH=>?_);refine(Z,k,1,V,λv1 H3 g3 rv1=>?_);have hpt3:=g3 _ _ hpt2;refine(Z,Z,pt,_,_,f,V,V,hpt3,xa (by rw[vf];exact hf),?_);have g4:Same H (upd H3 pt (.lst ((wK n v0).set f v1))):=zQ (g2.trans g3) ptH;have pr4:=yG (zs':=(wK n v0).set f v1) hpt3 (jN (JB (rv2.mono g3) n) f rv1);have hpt4:upd H3 pt (.lst ((wK n v0).set f v1)) pt=some (.lst ((wK n v0).set f v1)):=za;generalize upd H3 pt (.lst ((wK n v0).set f v1))=H4 at *;have T4:=hT.mono g4;have npt:pt∉rs:=Zh hT ptH;have ntop:t≠pt:=λe=>by rw[← e,hT.1]at ptH;cases ptH
 have lrs:=zd hT.2;refine(Z,t,V,(_,SqL.of T4.1),?_)
 let Pv1_:Nat->L2.St->Hp->Prop:=λi L H'=>∃ x us o5,L=[some (.int k),some (.int (n:Int)),some (.ref t),some (.int (f:Int)),some (.ref pt),o5]/\Same H H'/\H' pt=some (.lst us)/\Paired (RN H') x us/\AgI k n R ls f i x
 refine yl (xs:=rs.map V.ref) Pv1_ (_,_,none,V,g4,hpt4,pr4,AgI.start J hf R ls) ?_ ?_ ?_
 ·rintro i L H' _ ⟨x,us,o5,rfl,g,_⟩
  exact SqL.of (g _ _ hT.1)
 ·rintro i v L H5 hv ⟨x,us,o5,rfl,g5,hpt5,px,tI⟩
  obtain⟨row,a,hrow,ha,rfl,hR⟩:=(hT.mono g5).row hv;have iR:i<R.length:=(wu.mp hrow).1;obtain⟨l,hl⟩ : ∃ l,ls[i]?=some l:=(ls[i]'(),wa ());obtain⟨ln,lz,l1⟩:=Zu J (isR F0 φ0) hrow hl;have orow:=oR row (wg hrow);have hfr:f<row.length:=by rw[orow.1];exact hf
  refine(Z,Z,k,0,V,λv2 H6 g6 rv2'=>?_);obtain⟨us6,hu6,pu6,lu6⟩:=(hR.mono g6).len;obtain⟨vy,ey,ry⟩:=zJ pu6 (wa hfr);refine(Z,Z,a,_,_,Z,V,SqL.of hu6,zk ey,k,_,_,v2,vy,V,(J,zm J 0,orow.2 _ (wj hfr),(yc J (yg 61) ()).mono (),sR row (wg hrow) _ (wj hfr),rv2',ry),λv7 H7 g7 rv7=>?_);refine(Z,Z,Z,k,row,a,l,Z,(hR.mono g6).mono g7,lz,l1,num01 J,λH8 g8=>?_);have g58:=(g6.trans g7).trans g8;have hpt8:=g58 _ _ hpt5;have lus:=zd px;refine(pt,_,_,l,V,V,hpt8,xa (by rw[← lus,tI.len];exact ln),?_);exact(_,_,Z,zQ (g5.trans g58) ptH,za,yG hpt8 (jN (zW g58 px) l (rv7.mono g8)),tI.step J nd nf hl hrow (wa hfr) (orow.2 _ (wj hfr)) ln)
 ·rintro L H5 ⟨x,us,o5,rfl,g5,hpt5,px,tI⟩
  rw[wc,← lrs]at tI;exact(Z,q x pt H5 g5 ((us,hpt5,px),ptH) (tI.done lls))
inductive Zg:Sp
 | mk:∀(k:Int)(n:Nat)(M:TB)(bF:Nat)(t:Addr)(ras:List Addr),vs=[.int k,.int (n:Int),.ref t]->kab k->kac H M t ras->OkM k n M->M.length<=1000->kal bF M->61<=bF->1<=n->n<=64->(n *((bF+1)*2^n)+1)*2^n<=60000000->(∀ A la top rs H',Same H H'->NewT H H' A top rs->IsRa k n A la->(∀ F [bf F] (O:Kf k F) v,Rm O A v↔perp n (Rm O M) v)->Q (.ref top) H')->Zg vs H Q E_
def zjC(h:(n*bF+1)*2^n<=60000000)(n1:1<=n):(bF+1)*2^n<=60000000/\bF<=60000000:=by
 have h1:bF+1<=n*bF+1:=by have:1*bF<=n*bF:=wH _ n1;omega
 have h2:(bF+1)*2^n<=(n*bF+1)*2^n:=wH _ h1;have h3:(bF+1)*1<=(bF+1)*2^n:=vk _ Gd;omega
def JW:KnI pg 47 46 Zg:=by
 exists 47,yY,[0],zj,Qd,yY,[0,1,3,4],zgT
 obtain⟨k,n,M,C0,t,ras,rfl,J,hT,oM,lM,cM,c70,n1,n64,hc,q⟩:=h;have szl:=sh
 have p2:0<2^n:=GZ ();have c7:= wE c70 (wE (Gz _) (uA _ p2));have hc0:(C0+1)*2^n<=60000000:=by
  have h1:(C0+1)*2^n<=n *((C0+1)*2^n):=GR _ n1;have h2:n *((C0+1)*2^n)+1<=(n *((C0+1)*2^n)+1)*2^n:=uA _ p2;omega
 obtain⟨hc1,hc2⟩:=zjC hc n1;refine(Z,Z,k,M,n,C0,t,ras,V,J,hT,oM,cM,c70,hc0,(),(),λR ls top rs H1 g1 nR red _=>?_);have isR:=yF red;have lRn:=yC J isR;have oW:=(ye J isR).1;have cW:=(jQ J c70 oM cM red).mono (vk _ (vI () lRn));have eRM:∀(F:Type) [bf F] (O:Kf k F) (v:Nat->F),Rm O R v↔Rm O M v:=λF _ O v=>(λh=>(red F O).fro v h,λh=>(red F O).to v h)
 generalize (C0+1)*2^n=bF at *;obtain⟨_,lls,inc,llt⟩:=ye J isR;obtain⟨F0,i0,d0,⟨φ0⟩⟩:=zD J;have lrs:=zd nR.tab.2;refine(Z,top,V,(_,SqL.of nR.tab.1),?_);refine zo (xs:=rs.map V.ref) (λi ys H'=>Same H1 H'/\ys=natV (ls.take i)) (Same.refl _,V) ?_ ?_ ?_
 ·rintro i ys H' hi ⟨g,rfl⟩
  refine(SqL.of (g _ _ nR.tab.1),?_);unfold natV;rw[wc,wr];omega
 ·rintro i v ys H' hv hi ⟨g,rfl⟩
  obtain⟨row,a,hrow,ha,rfl,hR⟩:=(nR.tab.mono g).row hv;have iR:i<R.length:=(wu.mp hrow).1;obtain⟨l,hl⟩ : ∃ l,ls[i]?=some l:=(ls[i]'(),wa ());obtain⟨ln,lz,l1⟩:=Zu J (isR F0 φ0) hrow hl
  symm
  refine(Z,Z,k,row,a,l,Z,hR,lz,l1,num01 J,λH2 g2=>nxt hi (g.trans g2,?_));rw[zf hl];unfold natV;rw[wx];rfl
 rintro ys H2 ⟨g2,rfl⟩ pL hpL
 rw[wc,wo ()];have g3:=(g1.trans g2).trans (zc hpL (.lst (natV ls)));have T3:=(nR.tab.mono g2).mono (zc hpL (.lst (natV ls)));have hL3:upd H2 pL (.lst (natV ls)) pL=some (.lst (natV ls)):=za;generalize upd H2 pL (.lst (natV ls))=H3 at *;refine(Z,Z,n,V,(),(),?_);rw[wS]
 let Pv1_:Nat->List V->Hp->Prop:=λi ys H'=>∃ A ras2,ys=ras2.map V.ref/\Grow H3 H' A ras2/\Paired (λf xs=>AgR k n R ls f xs) (((wQ n).take i).filter λf=>!decide (f∈ls)) A
 refine zO (lo:=0) (n:=n) Pv1_ ([],[],V,Grow.nil H3 (Same.refl _),by simp;exact .nil) ?_ ?_ ?_
 ·rintro i ys H' hi ⟨A,ras2,rfl,G,pA⟩
  have e1:=zd G.rows;have e2:=zd pA;have e3:=uo (λf=>!decide (f∈ls)) ((wQ n).take i);rw[wr,ve]at e3;rw[wc];omega
 ·rintro i ys H' hi ⟨A,ras2,rfl,G,pA⟩
  have ei:(wQ n)[i]?=some i:=wZ hi;refine(Z,Z,pL,Z,.inl (SqL.of (G.same _ _ hL3)),V,XL ls,Z,?_);have ein:(if true=true then !inV (V.int (0 +(i:Int))) (natV ls)else inV (V.int (0 +(i:Int))) (natV ls))=!decide (i∈ls):=by rw[bj rfl,vB,zdD]
  rw[ein];refine ite2 (λc=>?_) (λc=>?_)
  ·have nm:i∉ls:=λhm=>by rw[br hm]at c;exact bw c ()
   refine(Z,Z,Z,Z,k,n,R,ls,i,_,top,rs,V,vB _,J,T3.mono G.same,isR,hi,nm,n64,λr U x D=>(qZ J oW cW c7 r U x D).mono (),λxs p H4 g4 nx ag=>nxt hi (A++[xs],ras2++[p],by rw[wx];rfl,G.snocR g4 nx.row nx.fa,?_));rw[yA _ ei,bj (by rw[bq nm];rfl)];exact zy pA ag
  ·have hm:i∈ls:=vV λnm=>c (by rw[bq nm];rfl)
   refine nxt hi (A,ras2,V,G,?_);rw[yA _ ei,bn (by rw[br hm];exact vg),uL];exact pA
 rintro ys H4 ⟨A,ras2,rfl,G,pA⟩ p4 hp4
 rw[wo (by rw[ve];exact wv _)]at pA;have N4:=(G.done hp4).tab;have g5:=G.same.trans (zc hp4 (.lst (ras2.map V.ref)));generalize upd H4 p4 (.lst (ras2.map V.ref))=H5 at *;have lA:=zd pA;have efr:kak n ls =(wQ n).filter λf=>!decide (f∈ls):=rfl
 rw[← efr]at pA lA;have fl:=jP J isR;have oA:OkM k n A:=λr U=>by
  obtain⟨f,_,ag⟩:=jT pA U;exact(ag.len,ag.ok)
 have cA:kal (n*bF) A:=λr U=>by
  obtain⟨f,hf,ag⟩:=jT pA U;have hf':=(yw n ls f).mp hf;have:0 <(kak n ls).length:=waM hf;exact zdW J cW oW lls c7 () hf'.1 ag
 have c7':61<=n*bF:=by have:1*bF<=n*bF:=wH _ n1;omega
 refine(k,A,n,n*bF,p4,ras2,V,J,N4,oA,cA,c7',hc,(),(),λR2 ls2 top2 rs2 H6 g6 n6 red2 _=>?_);have g36:=g3.trans g5;refine q R2 ls2 top2 rs2 H6 (g36.trans g6) (n6.tab,g36.none n6.ft,λr U=>g36.none (n6.fr r U),n6.nd,n6.nt) (yF red2) λF _ O v=>?_
 have C:=xl (isR F O) J (jr n ls) (yw n ls) lA (λi f xs h1 h2=>yq pA h1 h2) v;have hq:perp n (Rm O R) v↔perp n (Rm O M) v:=(λh=>(h.1,λu hu=>h.2 u ((eRM F O u).mpr hu)),λh=>(h.1,λu hu=>h.2 u ((eRM F O u).mp hu)));exact(λh=>hq.mp (C.mp ((red2 F O).fro v h)),λh=>(red2 F O).to v (C.mpr (hq.mpr h)))
inductive ZM:Sp
 | mk:∀ k T W lw n m zN tt tw rt rw',vs=[.int k,.ref tt,.ref tw]->kab k->kac H T tt rt->kac H W tw rw'->OkM k n T->T.length=n->IsRa k n W lw->szM m T->szM m W->61<=m->(n+2)*m<=20000000->1<=W.length->n<=4->((k=0->n<=3))->(∀ r∈W,∀ y∈imgM k T r,nsm zN y)->61<=zN->(W.length*W.length+2)*zN<=66000->(∀ ps p H',Same H H'->NewR H H' ps p->ps.length=W.length+1->OkR k ps->GrP k W.length (gtN k T W lw) ps->(∀ x∈ps,szk k 5000000 x)->Q (.ref p) H')->ZM vs H Q E_
def zhX(J:kab k)(oT:OkM k n T)(lT:T.length=n)(iW:IsRa k n W lw)(z61:61<=zN)(sz:∀ r∈W,∀ y∈imgM k T r,nsm zN y):TOk k W.length W.length zN (gtN k T W lw):=by
 obtain⟨oW,lls,_,_⟩:=ye J iW;have im:∀ r∈W,OkR k (imgM k T r):=λr U z hz=>by
  obtain⟨q,hq,rfl⟩:=wm.mp hz;exact yb J (oT q hq).2 (oW r U).2
 refine(by unfold gtN;rw[wc],λr U=>?_,λr U y hy=>?_)
 ·obtain⟨x,D,rfl⟩:=wm.mp U;refine(by rw[wc];exact lls,λy hy=>?_);obtain⟨c,hc,rfl⟩:=wm.mp hy;rw[we];cases e:(imgM k T x)[c]? with
  | none=>exact zm J 0
  | some z=>exact im x D z (wg e)
 ·obtain⟨x,D,rfl⟩:=wm.mp U;obtain⟨c,hc,rfl⟩:=wm.mp hy;rw[we];cases e:(imgM k T x)[c]? with
  | none=>exact yc J (yg _) z61
  | some z=>exact sz x D z (wg e)
def zbB:KnI pg 42 46 ZM:=by
 exists 42,[0],zj,Qd,[0,1],zj,jW,ze2,[3],zj,[0],zj,ze
 obtain⟨k,T,W,lw,n,m,zN,tt,tw,rt,rw',rfl,J,hT,hW,oT,lT,iW,sT,sW,m61,mbig,l1,n4,n3,sN,z61,zbig,q⟩:=h;have szl:=sh
 obtain⟨oW,lls,inc,llt⟩:=ye J iW;have lWn:=yC J iW;obtain⟨F0,_,_,⟨φ0⟩⟩:=zD J;have tN:=zhX J oT lT iW z61 sN;have lrw:=zd hW.2;refine(Z,tw,V,(_,SqL.of hW.1),?_);refine zo (xs:=rw'.map V.ref) (λi ys H'=>Same H H'/\ys=natV (lw.take i)) (Same.refl _,V) ?_ ?_ ?_
 ·rintro i ys H' hi ⟨g,rfl⟩
  refine(SqL.of (g _ _ hW.1),?_);unfold natV;rw[wc,wr];omega
 ·rintro i v ys H' hv hi ⟨g,rfl⟩
  obtain⟨row,a,hrow,ha,rfl,hR⟩:=(hW.mono g).row hv;have iR:i<W.length:=(wu.mp hrow).1;obtain⟨l,hl⟩ : ∃ l,lw[i]?=some l:=(lw[i]'(),wa ());obtain⟨ln,lz,l1⟩:=Zu J (iW F0 φ0) hrow hl
  symm
  refine(Z,Z,k,row,a,l,Z,hR,lz,l1,num01 J,λH2 g2=>nxt hi (g.trans g2,?_));rw[zf hl];unfold natV;rw[wx];rfl
 rintro ys H2 ⟨g2,rfl⟩ pL hpL
 rw[wc,wo ()];have g3:=g2.trans (zc hpL (.lst (natV lw)));have hL3:upd H2 pL (.lst (natV lw)) pL=some (.lst (natV lw)):=za;generalize upd H2 pL (.lst (natV lw))=H3 at *;have hW3:=hW.mono g3;have hT3:=hT.mono g3;refine(Z,tw,V,(_,SqL.of hW3.1),?_);refine XA (imgM k T) hW3 () (λr a H4 Q2 hr2 g4 ha hq=>?_) ?_
 ·have o:=oW r hr2;exact(Z,Z,Z,k,T,r,n,m,tt,a,rt,V,J,hT3.mono g4,ha,oT,o.1,o.2,sT,sW r hr2,m61,mbig,(),λp H5 g5 N5=>hq p H5 g5 N5)
 intro ras4 H4 G4 p4 hp4;have N4:=G4.done hp4;have g4:=G4.same.trans (zc hp4 (.lst (ras4.map V.ref)));generalize upd H4 p4 (.lst (ras4.map V.ref))=H5 at *;have hL5:=g4 _ _ hL3;have im:∀ r∈W.map (imgM k T),r.length=n:=λr U=>by
  obtain⟨x,_,rfl⟩:=wm.mp U;rw[← lT];exact wc _
 refine(Z,Z,p4,V,(_,SqL.of N4.tab.1),?_);refine Xj (λim=>lw.map λc=>im.getD c (nnum k 0)) N4.tab (by rw[wc];omega) (λr a H6 Q2 hr2 g6 ha hq=>?_) ?_
 ·obtain⟨us,hus,pus,lus⟩:=ha.len;have lr:=im r hr2;have hL6:=g6 _ _ hL5;refine(Z,pL,V,(_,SqL.of hL6),?_)
  let Pv1_:Nat->List V->Hp->Prop:=λc ys H'=>H'=H6/\Paired (RN H6) ((lw.map λc=>r.getD c (nnum k 0)).take c) ys
  refine zo (xs:=natV lw) Pv1_ (V,.nil) ?_ ?_ ?_
  ·rintro c ys H' hc ⟨rfl,pr⟩
   refine(SqL.of hL6,?_);have:=zd pr;rw[wr,wc]at this;omega
  ·rintro c v ys H' hv hc ⟨rfl,pr⟩
   unfold natV at hv;rw[wk]at hv;obtain⟨l,hl,rfl⟩:=wY.mp hv;have ll:=llt l (wg hl);have hlr:l<r.length:=by omega
   obtain⟨u,eu,ru⟩:=zJ pus (wa hlr)
   symm
   refine(Z,Z,a,_,_,u,V,V,SqL.of hus,zk eu,nxt hc (V,?_));have e:(lw.map λc=>r.getD c (nnum k 0))[c]?=some r[l]:=by
    rw[wk,hl];show some (r.getD l (nnum k 0))=_;rw[we,wa hlr];rfl
   rw[zf e];exact zy pr ru
  ·rintro ys H' ⟨rfl,pr⟩ p C
   unfold natV at pr;rw[wc,wo (by rw[wc];omega)]at pr;exact hq p ys H' (Same.refl _) C pr
 intro ras6 H6 G6 p6 hp6;have N6:=G6.done hp6;have g6:=G6.same.trans (zc hp6 (.lst (ras6.map V.ref)));have eg:(W.map (imgM k T)).map (λim=>lw.map λc=>im.getD c (nnum k 0))=gtN k T W lw:=by rw[vz];rfl
 rw[eg]at N6;generalize upd H6 p6 (.lst (ras6.map V.ref))=H7 at *;have g07:=(g3.trans g4).trans g6;exact(k,gtN k T W lw,W.length,zN,p6,ras6,V,J,N6.tab,tN,l1,(),(λe=>by have:=n3 e;omega),z61,zbig,λps p H8 g8 N8 l8 o8 gr s8=>q ps p H8 (g07.trans g8) (N8.row,g07.none N8.fa) l8 o8 gr s8)
def zjt n d:HT.sIx n d (some (-1))=n - 1:=by
 show(if (-1:Int)<0 then((-1:Int) +(n:Int)).toNat else min (-1:Int).toNat n)=_;rw[bj ()];omega
def zhf xs:cutV xs none (some (-1))=xs.take (xs.length - 1):=by
 unfold cutV;rw[HT.xt,GK,Go,zjt]
def zh:Nat->Nat
 | 0=>1100
 | t+1=>61+4 *(1100+zh t+1)
def zi6:∀ t,t<=3->zh t<=164165:=by decide
def zir:∀ t,1100<=zh t
 | 0=>wv _
 | t+1=>by have:=zir t;show 1100<=61+4 *(1100+zh t+1);omega
inductive ZR:Sp
 | mk:∀ k A w xs n t aw ap ra,vs=[.int k,.ref t,.ref aw,.ref ap]->kab k->kac H A t ra->kag H w aw->kag H xs ap->TOk k n n 1100 A->ROk k n 1100 w->ROk k (n+1) 1100 xs->1<=n->n<=4->((k=0->n<=3))->(∀ p H',Same H H'->kag H' (hrn k n A w xs n) p->(∀ x∈hrn k n A w xs n,szk k 164165 x)->Q (.ref p) H')->ZR vs H Q E_
def zbp:KnI pg 59 46 ZR:=by
 exists 59,yp,xC,yd,jW,xC
 obtain⟨k,A,w,xs,n,t,aw,ap,ra,rfl,J,hT,hw,D,oA,ow,ox,n1,n4,n3,q⟩:=h;have szl:=sh
 have lr:=zd hT.2;rw[oA.len]at lr;have oAw:TOk k (n+1) n 1100 (A++[w]):=(by rw[wD,oA.len];rfl,λr U=>by
  rcases wq.mp U with h|h
  ·exact oA.ok r h
  ·rw[wp.mp h];exact(ow.len,ow.ok),λr U=>by
  rcases wq.mp U with h|h
  ·exact oA.sz r h
  ·rw[wp.mp h];exact ow.sz)
 have oT:=xS oAw;have big:(n+1+2)*1426536<=20000000:=wE (wH _ (show n+1+2<=7 by omega)) ();refine(Z,Z,(),λp1 hp1=>?_);have g1:=zc hp1 (.lst [.ref aw]);have h1:upd H p1 (.lst [.ref aw]) p1=some (.lst [.ref aw]):=za;have hT1:=hT.mono g1;have hw1:=hw.mono g1;generalize upd H p1 (.lst [.ref aw])=H1 at *;refine(t,p1,_,Z,V,hT1.1,h1,(by rw[wc];show ra.length+1<=_;omega),λp2 hp2=>?_);have g2:=zc hp2 (.lst (ra.map V.ref++[.ref aw]));have T2:kac (upd H1 p2 (.lst (ra.map V.ref++[.ref aw]))) (A++[w]) p2 (ra++[aw]):=(by rw[za,wx];rfl,zy (hT1.mono g2).2 (hw1.mono g2));generalize upd H1 p2 (.lst (ra.map V.ref++[.ref aw]))=H2 at *;refine(A++[w],n,p2,ra++[aw],V,T2,(λe=>by simp at e),(λr U=>(oAw.ok r U).1),(),(by rw[oAw.len];omega),λtc rc H3 g3 NC=>?_);have g03:=(g1.trans g2).trans g3;have hw3:=hw.mono g03;have hx3:=D.mono g03;refine(Z,?_);obtain⟨us,hus,pus,lus⟩:=hx3.len;refine(Z,Z,Z,ap,Z,SqL.of hus,λpp hpp=>?_);rw[zhf,lus,ox.len,wan];have g4:=zc hpp (.lst (us.take n));have h4:upd H3 pp (.lst (us.take n)) pp=some (.lst (us.take n)):=za;have pus4:=zW g4 pus;have hC4:=NC.tab.mono g4;have hw4:=hw3.mono g4;generalize upd H3 pp (.lst (us.take n))=H4 at *;have lt:(us.take n).length=n:=by rw[wr,lus,ox.len];omega
 refine(pp,Z,SqL.of h4,?_);rw[lt];refine zgZ lt (λi L H'=>∃ pt o6,L=[some (.int k),some (.ref t),some (.ref aw),some (.ref ap),some (.ref tc),some (.ref pt),o6]/\Same H4 H'/\kag H' (hrn k n A w xs i) pt/\∀ x∈hrn k n A w xs i,szk k (zh i) x) (aw,none,V,Same.refl _,hw4,λx D _=>ow.sz x D) ?_ ?_ ?_
 ·rintro i L H' _ ⟨pt,o6,rfl,g,_⟩
  exact SqL.of (g _ _ h4)
 ·rintro i v L H5 hi hv ⟨pt,o6,rfl,g,hr5,sk⟩
  have oh:=Jn J oA.ok oA.len ow.ok ow.len ox.ok ox.len i ();have hz:k=0->zh i<=1426536:=λe=>wE (zi6 i (by have:=n3 e;omega)) ()
  rw[GD,bj ()]at hv;obtain⟨x,hx',rx⟩:=zG pus4 hv;have ex:xs.getD (n - 1 - i) (nnum k 0)=x:=by rw[we,hx'];rfl
  have mx:=wg hx';obtain⟨us5,hu5,pu5,lu5⟩:=hr5.len;refine(Z,Z,Z,Z,(),λq1 hq1=>?_);have g6:=zc hq1 (.lst [v]);have h6:upd H5 q1 (.lst [v]) q1=some (.lst [v]):=za;have hu6:=g6 _ _ hu5;have pu6:=zW g6 pu5;have rx6:=(rx.mono g).mono g6;have hC6:=(hC4.mono g).mono g6;have g46:=g.trans g6;generalize upd H5 q1 (.lst [v])=H6 at *;refine(pt,q1,_,Z,V,hu6,h6,(by rw[lu5,oh.2];show n+1<=_;omega),λq2 hq2=>?_);have g7:=zc hq2 (.lst (us5++[v]));have R7:kag (upd H6 q2 (.lst (us5++[v]))) (hrn k n A w xs i++[x]) q2:=(_,za,zy (zW g7 pu6) (rx6.mono g7));have hC7:=hC6.mono g7;generalize upd H6 q2 (.lst (us5++[v]))=H7 at *;have okx:OkR k (hrn k n A w xs i++[x]):=λy hy=>by
   rcases wq.mp hy with h|h
   ·exact oh.1 y h
   ·rw[wp.mp h];exact ox.ok x mx
  have lkx:(hrn k n A w xs i++[x]).length=n+1:=by rw[wD,oh.2];rfl
  have skx:∀ y∈hrn k n A w xs i++[x],szk k (zh i) y:=λy hy=>by
   rcases wq.mp hy with h|h
   ·exact sk y h
   ·rw[wp.mp h];exact λ_=>(ox.sz x mx).mono (zir i)
  refine(k,kaa n (A++[w]),hrn k n A w xs i++[x],n+1,1426536,tc,q2,rc,V,J,hC7,R7,oT.ok,lkx,okx,(λr U y hy=>(oT.sz r U y hy).mono ()),(λy hy=>QB J (okx y hy) (skx y hy) hz ()),(),big,(by rw[oT.len];omega),λpr H8 g8 NR=>?_);have er:imgM k (kaa n (A++[w])) (hrn k n A w xs i++[x])=hrn k n A w xs (i+1):=by rw[← ex];rfl
  have row:=NR.row;rw[er]at row;refine(pr,Z,(g46.trans g7).trans g8,row,λy hy k0=>?_);have rkx:ROk k (n+1) (zh i) (hrn k n A w xs i++[x]):=(lkx,okx,λy hy=>skx y hy k0);have sz:=(Qw J () oT rkx).sz;rw[er]at sz;refine(sz y hy).mono ?_;show 61 +(n+1) *(1100+zh i+1)<=61+4 *(1100+zh i+1);exact wa3 (wH _ (by have:=n3 k0;omega)) _
 ·rintro L H5 ⟨pt,o6,rfl,g,hr5,sk⟩
  exact(Z,q pt H5 ((g03.trans g4).trans g) hr5 λx D k0=>(sk x D k0).mono (zi6 n (n3 k0)))
def zfP(J:kab k)[bf F](O:Kf k F):O.to (nnum k 1)=1:=by rw[O.num];exact La.ι_one
def Told (k:Int) (n h:Nat) (A B:TB) (xs:List Nb) (H:Hp) (p:Addr):Prop:=(∃(R:TB)(lr:List Nat)(ps:List Nb)(pp:Addr),IsRa k n R lr/\kas k R (kry k A (kaa h B) n)/\R.length<n/\H p=some (.tup [.str "fixed",.ref pp])/\kag H ps pp/\FixOf k n h A B (n - R.length) ps/\(∀ x∈ps,szk k 5000000 x)/\(∀ F [bf F] (O:Kf k F),nv O ps (n - R.length)=1)) \/
 ∃(R:TB)(lr:List Nat)(Fr:TB)(tF:Addr)(rF:List Addr),IsRa k n R lr/\kas k R (kry k A (kaa h B) n)/\R.length=n/\H p=some (.tup [.str "rule",.ref tF])/\kac H Fr tF rF/\RuleOf k n h A B xs Fr
inductive Yk:Sp
 | mk:∀(k:Int)(A B bF:TB)(xs:List Nb)(n h s:Nat)(pm ta tb tc ap:Addr)(ra rb rc:List Addr),vs=[.int k,.ref pm,.ref ap]->kab k->kap H A B bF pm ta tb tc ra rb rc->kag H xs ap->(n<=4/\Fit k n)->(1<=h/\h<=4)->MOk k n h s 80 A B bF->(TW k n n 14 A/\TW k n h 14 B)->ROk k (n+1) 1100 xs->(∀ F [bf F] (O:Kf k F),nv O xs n=1)->(∀ p H',Same H H'->Told k n h A B xs H' p->Q (.ref p) H')->Yk vs H Q E_
def zbn:KnI pg 60 51 Yk:=by
 exists 60,zi,zbw,zbB,yp,zi,JW,zcf,yp,zi,zfd,zgF,zi,yp,Ym,zi,[3],zj,ze,zg0,ze,zbp,zew
 obtain⟨k,A,B,bF,xs,n,h,s,pm,ta,tb,tc,ap,ra,rb,rc,rfl,J,hM,D,⟨n4,ft⟩,⟨h1,h4⟩,oM,⟨wA,wB⟩,ox,x1,q⟩:=h;have szl:=sh
 have n1:=ft.1;have n3:k=0->n<=3:=λe=>by
  rcases ft.2 with h|h
  ·exact h
  ·exact bw e h.1
 have lA:=oM.a.len;have lB:=oM.b.len;have la:=zd hM.a.2;rw[lA]at la;have oBt:OkM k n (kaa h B):=by have:=zw oM.b.ok;rw[lB]at this;exact this
 have lT:(kaa h B).length=h:=by unfold kaa;rw[wc,ve]
 refine(Z,pm,_,_,.ref ta,V,V,SqT.of hM.tup,V,ta,Z,.inl (SqL.of hM.a.1),?_);rw[wc,← la];refine(Z,Z,k,A,B,bF,n,h,s,pm,ta,tb,tc,ra,rb,rc,V,J,hM,ft,oM,h1,by omega,λR tr rr H1 g1 NR LR=>?_);obtain⟨lr,iR⟩:=LR.rd;have eR:=LR.eq;have leR:=yC J iR;have lrr:=zd NR.tab.2;have gR:=zhM J n3 wA wB eR;have hM1:=hM.mono g1;refine(Z,tr,Z,.inl (SqL.of NR.tab.1),Z,_,Z,V,Z,?_);rw[wc,← lrr];refine ite2 (λd=>?_) (λd=>?_)
 ·
  have lt:R.length<n:=by have:=bt d;omega
  refine(Z,Z,pm,_,_,.ref ta,V,V,SqT.of hM1.tup,V,A,n,ta,ra,V,hM1.a,(λe=>by rw[e]at lA;simp at lA;omega),(λr U=>(oM.a.ok r U).1),by omega,by omega,λtt rt H2 g2 NT=>?_);have bR:kal 1008 R:=(Xn J iR (g:=62) (by decide) gR).mono (wE (vk _ (pow2 n4)) (by decide));have bigA:(n *((1008+1)*2^n)+1)*2^n<=60000000:=wE (vN (GT (vN n4 (vk _ (pow2 n4)))) (pow2 n4)) (by decide);refine(Z,Z,Z,k,n,R,1008,tr,rr,V,J,NR.tab.mono g2,(ye J iR).1,(by omega),bR,by decide,n1,by omega,bigA,λW lw tw rw' H3 g3 NW iW eW=>?_);have lW:=JP J iR iW eW;have oW:=(ye J iW).1;have oTA:OkM k n (kaa n A):=by have:=zw oM.a.ok;rw[lA]at this;exact this
  have lTA:(kaa n A).length=n:=by unfold kaa;rw[wc,ve]
  have wTA:∀ r∈kaa n A,∀ y∈r,whk k 14 y:=yM wA.ok wA.sz;have bW:kal 1520 W:=by
   by_cases k0:k=0
   ·have:=n3 k0;refine(zd0 J n1 iR (by decide) gR iW eW).mono (wE (vN (GT (wH _ this)) (pow2 this)) (by decide))
   ·exact λr U=>xG k0 (oW r U).2 (by decide)
  have sW:szM 1600 W:=λr U y hy=>(jl J (oW r U).2 (bW r U) (by decide) y hy).mono (by decide)
  have sI:∀ r∈W,∀ y∈imgM k (kaa n A) r,nsm 1600 y:=λr U y hy=>by
   have oi:OkR k (imgM k (kaa n A) r):=λz hz=>by
    obtain⟨q,hq,rfl⟩:=wm.mp hz;exact yb J (oTA q hq).2 (oW r U).2
   exact(jl J oi (Xc J (by omega) oTA wTA (oW r U).2 (bW r U)) (by decide) y hy).mono (by decide)
  have sT:szM 1600 (kaa n A):=λr U y hy=>(((wTA r U y hy).nsm J ((oTA r U).2 y hy) (by decide:14<=80) (by decide)).mono (by decide))
  have bg1:(n+2)*1600<=20000000:=wE (wH _ (show n+2<=6 by omega)) (by decide);have bg2:(W.length*W.length+2)*1600<=66000:=wE (wH _ (waW (vN (show W.length<=4 by omega) (show W.length<=4 by omega)) 2)) (by decide);refine(k,kaa n A,W,lw,n,1600,1600,tt,tw,rt,rw',V,J,NT.tab.mono g3,NW.tab,oTA,lTA,iW,sT,sW,by decide,bg1,by omega,n4,n3,sI,by decide,bg2,λps pp H4 g4 NP lp op gp sp=>?_);refine((),λpt hpt=>?_);have g5:=zc hpt (.tup [.str "fixed",.ref pp]);have el:W.length=n - R.length:=by omega
  rw[el]at lp gp;have oN:=zdH J oM.a.ok lA iW;rw[el]at oN;exact q pt _ ((((g1.trans g2).trans g3).trans g4).trans g5) (.inl (R,lr,ps,pp,iR,eR,lt,za,NP.row.mono g5,((R,lr,W,lw,iR,eR,iW,eW,el,gp),op,lp),sp,λF _ O=>zfR J O (by omega) (by omega) oN.1 oN.2.1 gp))
 have len0:R.length=n:=by
  rcases wJ R.length n with z|z
  ·exact bw (br (by omega)) d
  ·omega
 dsimp only
 obtain⟨q0,b0,hq0,nq0⟩:=zcB J n1 oM.a.ok lA oM.b.ok lB iR eR len0;have bCols:kal 62 (kaa h B):=λr U=>pw_row2 J n3 wA (oBt r U).2 (oBt r U).1 (yM wB.ok wB.sz r U) (vD _)
 have big62:(62+1)*2^n<=60000000:=wE (vk _ (pow2 n4)) (by decide);refine(Z,Z,pm,_,_,.ref tb,V,V,SqT.of hM1.tup,V,B,h,tb,rb,V,hM1.b,(λe=>by rw[e]at lB;simp at lB;omega),(λr U=>(oM.b.ok r U).1),by omega,by omega,λtk rk H2 g2 NC=>?_);refine((),λpe hpe=>?_);have g3:=zc hpe (.lst []);have h3:upd H2 pe (.lst []) pe=some (.lst []):=za;have tK3:=NC.tab.mono g3;have g13:=g2.trans g3;generalize upd H2 pe (.lst [])=H3 at *;refine(k,n,kaa h B,[],[],62,q0,b0,tk,pe,rk,[],V,J,tK3,(h3,.nil),zeO,(λ_ h=>nomatch h),oBt,bCols,by decide,by omega,big62,(by rw[lT];omega),hq0,nq0,λhd b H4 g4 hb nob=>?_);have hh:hd<h:=by rw[← lT];exact(wu.mp hb).1
 have hM4:=(hM1.mono g13).mono g4;refine(Z,Z,Z,k,A,B,bF,R,lr,b,n,h,s,hd,pm,ta,tb,tc,ra,rb,rc,V,J,hM4,(n1,n4,n3),(h1,h4),oM,wA,wB,hb,nob,(iR,eR,len0),λS bC i pl pS pI rS rI H5 hi ch g5 hpl hS hI=>?_);have oS:=ch.oS;have lS:S.length=n:=ch.lS.trans hi;have bS:kal 62 S:=λr U=>by
  obtain⟨j,hj,e⟩:=wy U;have sj:=ch.sz j (by omega);rw[zU hj,e]at sj;exact Qj (m:=0) n3 (show j<n by omega) (ch.oS r U).2 sj
 have full:∀ R ls,(∀(F:Type) [bf F] (O:Kf k F),kay O (n+n) (kan k n S) R ls)->R.map (Ga n)=kaj k n:=λR ls red=>by
  obtain⟨F,_,_,⟨O⟩⟩:=zD J;refine zed J oS lS (red F O) λp C=>(kar p 1,ch.full J hi F O C,λj hj=>by unfold kar;rw[bn (by omega)],by unfold kar;rw[bj rfl];exact λe=>Lean.Grind.Field.zero_ne_one e.symm)
 have bigB:(62+1)*2^(n+n)<=60000000:=wE (vk _ (pow2 (show n+n<=8 by omega))) (by decide);refine(Z,Z,pl,_,_,.ref pS,V,V,SqT.of hpl,V,k,S,n,62,pS,rS,V,J,hS,oS,lS,bS,by decide,bigB,by omega,full,λRb lb' tB rB H6 g6 NB redB=>?_);obtain⟨F0,_,_,⟨φ0⟩⟩:=zD J;have hU:=full Rb lb' redB;have okB:=Qo J (redB F0 φ0) hU;have pair0:=(zc7 J oS lS redB hU).1;have bB:kal 1008 (Rb.map (uI n)):=λr U=>by
  obtain⟨x,hx',rfl⟩:=wm.mp U;have bes:=jY J oS lS;have:=jQ J (B:=62) (by decide) bes.1 (by
   have:=qM (k:=k) (n:=n) (by decide) bS;exact this) redB
  obtain⟨D',d0',dl',hd'⟩:=(this.mono (wE (vk _ (pow2 (show Rb.length<=4 by rw[okB.2];exact n4))) (by decide:(62+1)*2^4<=1008))) x hx';exact(D',d0',dl',λy hy=>hd' y (uE hy))
 have lBk:(Rb.map (uI n)).length=n:=by rw[wc];exact okB.2
 have szB:∀ r∈Rb.map (uI n),∀ y∈r,nsm 1008 y:=λr U y hy=>jl J (okB.1 r U).2 (bB r U) (by decide) y hy
 have pair:∀(F:Type) [bf F] (O:Kf k F) (a b:Nat),a<n->b<n->dot n (nv O (S.getD a [])) (λl=>nv O ((Rb.map (uI n)).getD l []) b)=if a=b then 1 else 0:=λF _ O a b ha hb=>pair0 F O a b ha hb
 clear pair0 hU;have okB1:=okB.1;clear okB redB;generalize Rb.map (uI n)=Bk at *;have hpl6:=g6 _ _ hpl;have hI6:=hI.mono g6;obtain⟨oU,lU⟩:=chU J ch hi;have wU:∀ r∈bC++[zerN k h],∀ y∈r,whk k 1 y:=λr U=>by
  rcases wq.mp U with g|g
  ·exact((ch.oU r g).ok J).2.2
  ·rw[wp.mp g];exact(uOr.ok J (h:=h) (.inl rfl)).2.2
 have szU:szM 1008 (bC++[zerN k h]):=λr U y hy=>(((wU r U y hy).nsm J ((oU r U).2 y hy) (by decide:1<=80) (by decide)).mono (by decide))
 have m1008:(n+2)*1008<=20000000:=wE (wH _ (show n+2<=6 by omega)) (by decide);refine(Z,Z,Z,pl,_,_,.ref pI,V,V,SqT.of hpl6,V,k,Bk,bC++[zerN k h],n,h,1008,tB,pI,rB,rI,V,J,NB.tab,hI6,okB1,oU,lU,by omega,szB,szU,by decide,m1008,by omega,(by rw[lBk];omega),λtP rP H7 g7 NP=>?_);have oP:=yB J (c:=h) okB1 oU;have oP2:OkM k h (kah k h Bk (bC++[zerN k h])):=oP.2;have lP:(kah k h Bk (bC++[zerN k h])).length=n:=oP.1.trans lBk;have bP:=zdT J (by omega) okB1 oU lU wU bB;have tRul:=zeK J (show n+h<=8 by omega) wA wB oP2 lP bP;refine(kah k h Bk (bC++[zerN k h]),h,tP,rP,V,NP.tab,(λe=>by rw[e]at lP;simp at lP;omega),(λr U=>(oP2 r U).1),by omega,by omega,λtF rF H8 g8 NF=>?_);have tF8:kac H8 (ruF k h Bk bC) tF rF:=NF.tab;have tRul2:TOk k n n (max 61 (1+1008+3+18)) (rulM k n A B (ruF k h Bk bC)):=tRul;obtain⟨oF,lF⟩:=zcv J ch hi okB1 lBk;have sF:∀ r∈ruF k h Bk bC,∀ y∈r,nsm 1012 y:=λr U y hy=>by
  have hr':r∈kaa h (kah k h Bk (bC++[zerN k h])):=U;unfold kaa at hr';obtain⟨c,hc,rfl⟩:=wm.mp hr';obtain⟨row,hrow,rfl⟩:=wm.mp hy;have o:=oP2 row hrow;have hcl:c<row.length:=by rw[o.1];exact vA.mp hc
  rw[we,wa hcl];exact jl J o.2 (bP row hrow) (by decide) _ (wj _)
 have g68:=g7.trans g8;have hB8:=NB.tab.mono g68;have lrB:=zd hB8.2;rw[lBk]at lrB;refine(Z,tB,V,(_,SqL.of hB8.1),?_)
 let Pv1_:Nat->List V->Hp->Prop:=λi ys H'=>H'=H8/\Paired (RN H8) ((Bk.map λr=>r.getD (n - 1) (nnum k 0)).take i) ys
 refine zo (xs:=rB.map V.ref) Pv1_ (V,.nil) ?_ ?_ ?_
 ·rintro i ys H' hi ⟨rfl,pr⟩
  have:=zd pr;rw[wr,wc]at this;exact(SqL.of hB8.1,by omega)
 ·rintro i v ys H' hv hi ⟨rfl,pr⟩
  obtain⟨row,a,hrow,ha,rfl,hR⟩:=hB8.row hv;obtain⟨us,hu,pu,lu⟩:=hR.len;have o:=okB1 row (wg hrow);have hl:n - 1<row.length:=by rw[o.1];omega
  have eg:row[n - 1]?=some (row.getD (n - 1) (nnum k 0)):=by rw[we,wa hl];rfl
  obtain⟨u,eu,ru⟩:=zJ pu eg
  symm
  refine(Z,Z,_,Z,V,a,_,_,u,V,V,SqL.of hu,(by rw[show(n:Int) - 1 =((n - 1:Nat):Int) by omega];exact zk eu),nxt hi (V,?_));have e:(Bk.map λr=>r.getD (n - 1) (nnum k 0))[i]?=some (row.getD (n - 1) (nnum k 0)):=by rw[wk,hrow];rfl
  rw[zf e];exact zy pr ru
 rintro ys H8' ⟨rfl,pr⟩ pw hpw
 rw[wc,wo (by rw[wc,lBk];omega)]at pr;have g9:=zc hpw (.lst ys);have hw9:kag (upd H8' pw (.lst ys)) (Bk.map λr=>r.getD (n - 1) (nnum k 0)) pw:=(_,za,zW g9 pr);have g19:Same H1 (upd H8' pw (.lst ys)):=((((g13.trans g4).trans g5).trans g6).trans g68).trans g9;have tF9:=tF8.mono g9;generalize upd H8' pw (.lst ys)=H9 at *;have lw:(Bk.map λr=>r.getD (n - 1) (nnum k 0)).length=n:=by rw[wc];exact lBk
 have rw9:ROk k n 1100 (Bk.map λr=>r.getD (n - 1) (nnum k 0)):=(lw,λy hy=>by
  obtain⟨r,hr',rfl⟩:=wm.mp hy;have o:=okB1 r hr';rw[we,wa (by rw[o.1];omega)];exact o.2 _ (wj _),λy hy=>by
  obtain⟨r,hr',rfl⟩:=wm.mp hy;have o:=okB1 r hr';rw[we,wa (by rw[o.1];omega)];exact(szB r hr' _ (wj _)).mono (by decide))
 have wbd:∀(F:Type) [bf F] (O:Kf k F) (i:Nat),i<n->dot n (nv O (Bk.map λr=>r.getD (n - 1) (nnum k 0))) (nv O (S.getD i []))=if i+1=n then 1 else 0:=λF _ O i hi=>by
  have u3:=pair F O i (n - 1) hi (by omega);rw[zM];have e5:dot n (nv O (S.getD i [])) (nv O (Bk.map λr=>r.getD (n - 1) (nnum k 0)))=dot n (nv O (S.getD i [])) (λl=>nv O (Bk.getD l []) (n - 1)):=zt λl hl=>by
   congr 1
   have hl':l<Bk.length:=by omega
   have e6:Bk.getD l []=Bk[l]:=by rw[we,wa hl'];rfl
   rw[e6,zH O (show(Bk.map λr=>r.getD (n - 1) (nnum k 0))[l]?=some (Bk[l].getD (n - 1) (nnum k 0)) by rw[wk,wa hl'];rfl)]
   rfl
  rw[e5,u3]
  by_cases h:i+1=n
  ·rw[bj h,bj (by omega)]
  ·rw[bn h,bn (by omega)]
 generalize (Bk.map λr=>r.getD (n - 1) (nnum k 0))=w at *;have hM9:=hM1.mono g19;have lrF:=zd tF9.2;rw[lF]at lrF;have hdF:hd <(ruF k h Bk bC).length:=by omega
 obtain⟨z0,ez0,hz9⟩:=zJ tF9.2 (wa hdF);have m83:(n+h+2)*1020<=20000000:=wE (wH _ (show n+h+2<=10 by omega)) (by decide);have oMu:MOk k n h s 1020 A B bF:=(oM.a.up (by decide),oM.b.up (by decide),oM.c.up (by decide));refine(Z,Z,Z,tF,_,_,.ref z0,V,V,SqL.of tF9.1,zk (by rw[wk,ez0];rfl),Z,Z,Z,Z,k,A,B,bF,ruF k h Bk bC,n,h,s,1020,pm,ta,tb,tc,tF,ra,rb,rc,rF,V,J,hM9,tF9,oMu,(lF,oF,λr U y hy=>(sF r U y hy).mono (by decide)),n1,by omega,by decide,m83,λtR rR H10 g10 NRu=>?_);have hx10:=(D.mono (g1.trans g19)).mono g10;refine(Z,Z,k,rulM k n A B (ruF k h Bk bC),w,xs,n,tR,pw,ap,rR,V,J,NRu.tab,hw9.mono g10,hx10,tRul2.up (by decide),rw9,ox,n1,n4,n3,λph H11 g11 hh11 szh=>?_);have g911:=g10.trans g11;have hz11:=hz9.mono g911;have oh:=Jn J tRul2.ok tRul2.len rw9.ok rw9.len ox.ok ox.len n (wv n);have ozr:=oF _ (wj hdF);have RO:=zct J wA wB ch hi hh okB1 lBk pair n1 n4 rw9.ok rw9.len ox.ok ox.len x1 wbd sF szh;rw[zU hdF]at RO;refine(k,_,_,z0,ph,V,J,hz11,hh11,ozr.2,oh.1,ozr.1.trans oh.2.symm,(by rw[ozr.1];omega),(λy hy=>(sF _ (wj hdF) y hy).mono (by decide)),(λy hy=>QB J (oh.1 y hy) (szh y hy) (λ_=>by decide) (by decide)),λpf H12 g12 ND=>?_);have row:=ND.row;generalize subR k (ruF k h Bk bC)[hd] (hrn k n (rulM k n A B (ruF k h Bk bC)) w xs n)=fr at *;have g912:=g911.trans g12;have tF12:=tF9.mono g912;refine(Z,Z,tF,_,_,hd,V,V,tF12.1,xa (by rw[wc];omega),?_);have nft:pf≠tF:=λe=>by have:=ND.fa;rw[e,g11 _ _ (g10 _ _ tF9.1)]at this;cases this
 have ntr:tF∉rF:=λm=>by have:=NF.nt;exact this m
 have h13:kac (upd H12 tF (.lst ((rF.map V.ref).set hd (.ref pf)))) ((ruF k h Bk bC).set hd fr) tF (rF.set hd pf):=by
  refine(by rw[za,wba],?_);refine jN (xR (zd tF12.2) λu x c h1 h2=>(yq tF12.2 h1 h2).upd (λe=>ntr (by rw[← e];exact wg h2)) tF12.1) hd (row.upd nft tF12.1)
 have fF:H1 tF=none:=(((((g13.trans g4).trans g5).trans g6).trans g7)).none NF.ft;have g13':Same H1 (upd H12 tF (.lst ((rF.map V.ref).set hd (.ref pf)))):=zQ (g19.trans g912) fF;generalize upd H12 tF (.lst ((rF.map V.ref).set hd (.ref pf)))=H13 at *;refine(Z,(),λpr hpr=>?_);have g14:=zc hpr (.tup [.str "rule",.ref tF]);exact q pr _ ((g1.trans g13').trans g14) (.inr (R,lr,_,tF,rF.set hd pf,iR,eR,len0,za,h13.mono g14,RO))
inductive zbR:Sp
 | mk:∀ k A B bF n h s pm ta tb tc ra rb rc,vs=[.ref pm]->kap H A B bF pm ta tb tc ra rb rc->MOk k n h s 80 A B bF->(1<=n/\n<=10)->(1<=h/\h<=10)->(1<=s/\s<=10)->(∀ p ua ub uc va vb vc H',Same H H'->kap H' (kaa n A) (kaa n bF) (kaa h B) p ua ub uc va vb vc->Q (.ref p) H')->zbR vs H Q E_
def zg5:KnI pg 37 2 zbR:=by
 exists 37,yp,zi,yp,zi,yp,zi
 obtain⟨k,A,B,bF,n,h,s,pm,ta,tb,tc,ra,rb,rc,rfl,hM,oM,⟨n1,n10⟩,⟨h1,h10⟩,⟨s1,s10⟩,q⟩:=h;have szl:=sh
 have lA:=oM.a.len;have lB:=oM.b.len;have lC:=oM.c.len;refine(Z,pm,_,_,.ref ta,V,V,SqT.of hM.tup,V,A,n,ta,ra,V,hM.a,(λe=>by rw[e]at lA;simp at lA;omega),(λr U=>(oM.a.ok r U).1),(),(),λt1 r1 H1 g1 N1=>?_);have hM1:=hM.mono g1;refine(Z,pm,_,_,.ref tc,V,V,SqT.of hM1.tup,V,bF,n,tc,rc,V,hM1.c,(λe=>by rw[e]at lC;simp at lC;omega),(λr U=>(oM.c.ok r U).1),(),(),λt2 r2 H2 g2 N2=>?_);have hM2:=hM1.mono g2;refine(Z,pm,_,_,.ref tb,V,V,SqT.of hM2.tup,V,B,h,tb,rb,V,hM2.b,(λe=>by rw[e]at lB;simp at lB;omega),(λr U=>(oM.b.ok r U).1),(),(),λt3 r3 H3 g3 N3=>?_);refine((),λp C=>?_);have g4:=zc C (.tup [.ref t1,.ref t2,.ref t3]);exact q p t1 t2 t3 r1 r2 r3 _ (((g1.trans g2).trans g3).trans g4) (za,N1.tab.mono ((g2.trans g3).trans g4),N2.tab.mono (g3.trans g4),N3.tab.mono g4)
def ToldW (k:Int) (n s:Nat) (A bF:TB) (xs:List Nb) (H:Hp) (p:Addr):Prop:=(∃(R:TB)(lr:List Nat)(ps:List Nb)(pp:Addr),IsRa k n R lr/\kas k R (kry k (kaa n A) bF n)/\R.length<n/\H p=some (.tup [.str "fixed",.ref pp])/\kag H ps pp/\FixOf k n s (kaa n A) (kaa n bF) (n - R.length) ps/\(∀ x∈ps,szk k 5000000 x)/\(∀ F [bf F] (O:Kf k F),nv O ps (n - R.length)=1)) \/
 ∃(R:TB)(lr:List Nat)(Fr:TB)(tF:Addr)(rF:List Addr),IsRa k n R lr/\kas k R (kry k (kaa n A) bF n)/\R.length=n/\H p=some (.tup [.str "watcher",.ref tF])/\kac H (kaa n Fr) tF rF/\RuleOf k n s (kaa n A) (kaa n bF) xs Fr
def ToldW.mono(t:ToldW k n s A bF xs H p)(g:Same H H'):ToldW k n s A bF xs H' p:=by
 rcases t with⟨R,lr,ps,pp,a,b,c,e,r,d⟩|⟨R,lr,Fr,tF,rF,a,b,c,e,r,d⟩
 ·exact .inl (R,lr,ps,pp,a,b,c,g _ _ e,r.mono g,d)
 ·exact .inr (R,lr,Fr,tF,rF,a,b,c,g _ _ e,r.mono g,d)
def ToldW.tup(t:ToldW k n s A bF xs H p):∃ x y,H p=some (.tup [x,y]):=by
 rcases t with⟨R,lr,ps,pp,a,b,c,e,r,d⟩|⟨R,lr,Fr,tF,rF,a,b,c,e,r,d⟩
 ·exact(_,_,e)
 ·exact(_,_,e)
inductive zaS:Sp
 | mk:∀(k:Int)(A B bF:TB)(xs:List Nb)(n h s:Nat)(pm ta tb tc ap:Addr)(ra rb rc:List Addr),vs=[.int k,.ref pm,.ref ap]->kab k->kap H A B bF pm ta tb tc ra rb rc->kag H xs ap->(n<=4/\Fit k n)->(1<=h/\h<=4)->(1<=s/\s<=4)->MOk k n h s 80 A B bF->(TW k n n 14 A/\TW k s n 14 bF)->ROk k (n+1) 1100 xs->(∀ F [bf F] (O:Kf k F),nv O xs n=1)->(∀ p H',Same H H'->ToldW k n s A bF xs H' p->Q (.ref p) H')->zaS vs H Q E_
def zeI:KnI pg 62 52 zaS:=by
 exists 62,zbn,zg5,yu,zi,yp,zi
 obtain⟨k,A,B,bF,xs,n,h,s,pm,ta,tb,tc,ap,ra,rb,rc,rfl,J,hM,D,⟨n4,ft⟩,⟨h1,h4⟩,⟨s1,s4⟩,oM,⟨wA,wC⟩,ox,x1,q⟩:=h;have szl:=sh
 have n1:=ft.1;have eC:kaa s (kaa n bF)=bF:=by have:=jL oM.c.ok;rw[oM.c.len]at this;exact this
 refine(Z,Z,k,A,B,bF,n,h,s,pm,ta,tb,tc,ra,rb,rc,V,hM,oM,(n1,()),(h1,()),(s1,()),λpn ua ub uc va vb vc H1 g1 hN=>?_);refine(Z,k,kaa n A,kaa n bF,kaa h B,xs,n,s,h,pn,ua,ub,uc,ap,va,vb,vc,V,J,hN,D.mono g1,(n4,ft),(s1,s4),(xS oM.a,xS oM.c,xS oM.b),(wA.tr,wC.tr),ox,x1,λpt H2 g2 T2=>?_);have g12:=g1.trans g2
 rcases T2 with⟨R,lr,ps,pp,iR,eR,lR,ht,hps,d⟩|⟨R,lr,Fr,tF,rF,iR,eR,lR,ht,hTF,ro⟩
 all_goals rw[eC]at eR
 ·refine(Z,pt,_,_,.str "fixed",V,V,SqT.of ht,V,V,Z,?_);refine iteT (Z,q pt H2 g12 (.inl (R,lr,ps,pp,iR,eR,lR,ht,hps,d)))
 ·refine(Z,pt,_,_,.str "rule",V,V,SqT.of ht,V,V,Z,?_);refine iteF ?_;refine(Z,pt,_,_,.ref tF,V,V,SqT.of ht,V,Fr,n,tF,rF,V,hTF,(λe=>by have:=ro.len;rw[e]at this;simp at this;omega),(λr U=>(ro.ok r U).1),(),(by rw[ro.len];omega),λtW rW H3 g3 NW=>?_);refine((),λpw hpw=>?_);have g4:=zc hpw (.tup [.str "watcher",.ref tW]);exact q pw _ ((g12.trans g3).trans g4) (.inr (R,lr,Fr,tW,rW,iR,eR,lR,za,NW.tab.mono g4,ro))
def zdE:(PyData.str "watcher").canLay0=true:=by decide +kernel
def zfz:PyData.eqv (PyData.str "watcher") (PyData.str "watcher")=true:=by decide +kernel
def hand2(A B bF:TB)(xs:List Nb):PyData:=.list [machD A B bF,rowD xs]
def zbG A B bF xs:PyData.eqv (hand2 A B bF xs) (hand2 A B bF xs)=true:=by
 show(PyData.eqv (machD A B bF) (machD A B bF) && (PyData.eqv (rowD xs) (rowD xs) && true))=true;rw[zbD,Zk];rfl
def Jf A B bF xs:(hand2 A B bF xs).canLay0=true:=by
 show((machD A B bF).canLay0 && ((rowD xs).canLay0 && true))=true;rw[zeh,jx];rfl
def Qy A B bF xs:(hand2 A B bF xs).depth<=5:=by
 show max (machD A B bF).depth (max (rowD xs).depth 0)+1<=5;have:=Qx A B bF;have:=ju xs;omega
def zaW{A B bF:TB}(hl:H l=some (.lst [.ref pm,.ref a]))(hM:kap H A B bF pm ta tb tc ra rb rc)(D:kag H xs a):Rp H (hand2 A B bF xs) (.ref l):=by
 unfold Rp;refine(l,Z,hl,?_);exact jM hM.rp (jM D.rp zcM)
def cutN{ns:List Int}(N:Nat):cutV (ns.map V.int) none (some (N:Int)) =(ns.take N).map V.int:=by
 unfold cutV;rw[HT.xt,GK,Go,HT.xN,wc,uq]
 rcases wJ N ns.length with h|h
 ·rw[gj ()]
 ·rw[gB (),wo (by rw[wc];exact wv _),wo (by rw[wc];exact h)]
def zdp(J:kab k)(op:OkR k ps)(lp:ps.length=l+1)(h1:∀ F [bf F] (O:Kf k F),nv O ps l=1):ps[l]?=some (nnum k 1):=by
 obtain⟨F,_,_,⟨O⟩⟩:=zD J;have hl:l<ps.length:=by omega
 rw[wa hl]
 congr 1
 refine O.inj (op _ (wj hl)) (zm J 1) ?_;have:=h1 F O;rw[zH O (wa hl)]at this;rw[this,zfP J O]
def zii(J:kab k)(s2:s<=2)(oA:TOk k n n 80 A)(oC:TOk k s n 80 bF)(oW:TOk k n s 165200 W):∀ r∈adT k A (kah k n W bF),∀ y∈r,nsm 390000 y:=λr U y hy=>by
 have tP:=YD J () oW oC;unfold adT at U;obtain⟨i,hi,e⟩:=wy U;rw[vJ]at e;rw[← e]at hy;unfold addR at hy;obtain⟨j,hj,e2⟩:=wy hy;rw[vJ]at e2;rw[← e2];have m1:=wj (l:=A) (n:=i) (by rw[wO]at hi;omega);have m2:=wj (l:=kah k n W bF) (n:=i) (by rw[wO]at hi;omega);have b:61+s *(165200+80+1)<=330623:=by omega
 exact(zeT J ((oA.ok _ m1).2 _ (wj _)) ((tP.ok _ m2).2 _ (wj _)) (oA.sz _ m1 _ (wj _)) ((tP.sz _ m2 _ (wj _)).mono b) ()).mono ()
def zji (F:Fun B.K "law" "law" (nthS pg 100) f fd):FnOk pg B.w B.K B.mg B.base CX0 54 f fd ["_law_script"] (spLaw B.K):=by
 refine lawI F rfl (by exists xC,(zeA rfl),Qf,Zz 3 rfl,zi,zi,zft,[6,2,1,4,5],[2,3,4,5,0,1],Zt,zT,zT,zT,zK,zfD,zeI,ze,ze,Jx,ZF,zbO,zbh,zdN,Jx,zi,zbk,zi,zh0,XR,zcd,zi) λvs H Q E h=>?_
 obtain⟨asc,ns,rfl,hSq,h63,q⟩:=h;have szl:=sh
 refine(Z,Z,asc,Z,hSq,λp1 hp1=>?_);refine((),λp2 hp2=>?_);have n12:p1≠p2:=λe=>by rw[e,za]at hp2;cases hp2
 rw[show((63:Int)) =((63:Nat):Int)from rfl,cutN 63]at *;refine(p1,p2,_,Z,V,(by rw[zE n12];exact za),za,?_,λp3 hp3=>?_)
 ·rw[wc,wr];show min 63 ns.length+1<=sizeLine;omega
 have e3:(ns.take 63).map V.int++[V.int 0] =(ns.take 63++[0]).map V.int:=by simp
 rw[e3];have hc0:upd (upd (upd H p1 (.lst ((ns.take 63).map V.int))) p2 (.lst [V.int 0])) p3 (.lst ((ns.take 63++[0]).map V.int)) p3=some (.lst ((ns.take 63++[0]).map V.int)):=za;have lcs:(ns.take 63++[(0:Int)]).length<=1000:=by rw[wD,wr];show min 63 ns.length+1<=1000;omega
 have ncs:ns.take 63++[(0:Int)]≠[]:=by simp
 generalize upd (upd (upd H p1 (.lst ((ns.take 63).map V.int))) p2 (.lst [V.int 0])) p3 (.lst ((ns.take 63++[0]).map V.int))=H0 at *;generalize ns.take 63++[(0:Int)]=cs at *;refine(Z,(),λpq hpq=>?_);have g1:=zc hpq (.lst [V.int 3,V.int 4]);refine(p3,pq,cs,3,4,V,g1 _ _ hc0,ncs,lcs,za,(),(),(),(),λk n m s at' A B bF pr pm ta tb tc ra rb rc H2 g2 hpr hM hs ft oM wM m1 m2 s1 s2 nab=>?_);have J:=hs.ok;have hc2:=g2 _ _ (g1 _ _ hc0);clear g1 hc0;refine(pr,Z,SqT.of hpr,V,_,Z,_,Z,_,Z,V,?_);have n1:=ft.1;have n4:n<=4:=by omega
 have n3:k=0->n<=3:=λe=>by
  rcases ft.2 with h|h
  ·exact h
  ·exact bw e h.1
 obtain⟨wA,wB,wC,_⟩:=wM;have lA:=oM.a.len;have lB:=oM.b.len;have lC:=oM.c.len;have la:=zd hM.a.2;rw[lA]at la;have lc:=zd hM.c.2;rw[lC]at lc;refine(Z,pm,_,_,.ref ta,V,V,SqT.of hM.tup,V,ta,Z,.inl (SqL.of hM.a.1),?_);rw[wc,← la];refine(Z,pm,_,_,.ref tc,V,V,SqT.of hM.tup,V,tc,Z,.inl (SqL.of hM.c.1),?_);rw[wc,← lc];refine(Z,Z,Z,Z,k,p3,cs,at',n,V,J,hc2,ncs,(),λxs0 px H3 g3 NX lx0 ox0 wx0=>?_);have hX3:=NX.row;have ox:OkR k (xs0++[nnum k 1]):=λy hy=>by
  rcases wq.mp hy with h|h
  ·exact ox0 y h
  ·rw[wp.mp h];exact zm J 1
 have rx:ROk k (n+1) 1100 (xs0++[nnum k 1]):=(by rw[wD,lx0];rfl,ox,λy hy=>by
  rcases wq.mp hy with h|h
  ·exact((wx0 y h).nsm J (ox0 y h) (by decide:2<=80) ()).mono ()
  ·rw[wp.mp h];exact(yc J (show Sm 80 1 by unfold Sm;decide) ()).mono ())
 have x1:∀(F:Type) [bf F] (O:Kf k F),nv O (xs0++[nnum k 1]) n=1:=λF _ O=>by
  rw[zH O (show(xs0++[nnum k 1])[n]?=some (nnum k 1) by rw[vd (),lx0,uD];rfl)];exact zfP J O
 generalize xs0++[nnum k 1]=xs at *;have hc3:=g3 _ _ hc2;refine(Z,n,V,(),(),?_);rw[wS]
 let Pv1_:Nat->List V->Hp->Prop:=λj ys H'=>∃ M ras,ys=ras.map V.ref/\Grow H3 H' M ras/\M.length=j/\OkM k s M/\(∀ r∈M,∀ x∈r,whk k 2 x)
 refine zO (lo:=0) (n:=n) Pv1_ ([],[],V,Grow.nil H3 (Same.refl H3),V,λr U=>(nomatch U),λr U=>(nomatch U)) ?_ ?_ ?_
 ·rintro j ys H' hj ⟨M,ras,rfl,G7,lM,_⟩
  have:=zd G7.rows;rw[wc];omega
 ·rintro j ys H7 hj ⟨M,ras,rfl,G7,lM,o7,s7⟩
  symm
  refine(Z,s,V,(),(),?_);rw[wS]
  let Pv2_:Nat->List V->Hp->Prop:=λl ys' H9=>∃ xs,Same H7 H9/\Paired (RN H9) xs ys'/\xs.length=l/\OkR k xs/\∀ x∈xs,whk k 2 x
  refine zO (lo:=0) (n:=s) Pv2_ ([],Same.refl _,.nil,V,λx D=>(nomatch D),λx D=>(nomatch D)) ?_ ?_ ?_
  ·rintro l ys' H9 hl' ⟨xs,g9,pr9,lx,_⟩
   have:=zd pr9;omega
  ·rintro l ys' H9 hl' ⟨xs,g9,pr9,lx,ox,sx⟩
   have hc9:H9 p3=some (.lst (cs.map V.int)):=g9 _ _ (G7.same _ _ hc3);have ci3:0<=(0 +(j:Int)) *(s:Int):=wbB () ()
   symm
   refine(Z,Z,Z,Z,_,Z,V,Z,Z,_,Z,V,yn () (),_,Z,V,Z,_,Z,V,k,p3,cs,((at':Int) +(n:Int) +(0 +(j:Int)) *(s:Int) +(0 +(l:Int))).toNat,Z,(),J,hc9,ncs,λx v' H10 g10 xr xo xs2=>?_);refine nxt hl' (xs++[x],g9.trans g10,zy (zW g10 pr9) xr,by rw[wD,lx];rfl,λy hy=>?_,λy hy=>?_)
   ·rcases wq.mp hy with h|h
    ·exact ox y h
    ·rw[wp.mp h];exact xo
   ·rcases wq.mp hy with h|h
    ·exact sx y h
    ·rw[wp.mp h];exact xs2
  ·rintro ys' H9 ⟨xs,g9,pr9,lx,ox,sx⟩ p C
   refine nxt hj (M++[xs],ras++[p],by rw[wx];rfl,(G7.mono g9).snoc C pr9,by rw[wD,lM];rfl,λr U=>?_,λr U=>?_)
   ·rcases wq.mp U with h|h
    ·exact o7 r h
    ·rw[wp.mp h];exact(lx,ox)
   ·rcases wq.mp U with h|h
    ·exact s7 r h
    ·rw[wp.mp h];exact sx
 rintro ys6 H6 ⟨Fd,rf,rfl,GF,lF,oF,wF⟩ tf htf
 have NF:=GF.done htf;have g4:=GF.same.trans (zc htf (.lst (rf.map V.ref)));generalize upd H6 tf (.lst (rf.map V.ref))=H4 at *;have tFd:TW k n s 2 Fd:=(lF,oF,wF);have hF4:=NF.tab;have hX4:=hX3.mono g4;have hM4:=hM.mono (g3.trans g4);clear oF wF GF NF g3 g4 hc2 hc3 hM hpr NX hX3 lx0 ox0 wx0 hpq;refine(Z,A,B,bF,pm,ta,tb,tc,ra,rb,rc,V,hM4,(),(),(),λph ua ub uc va vb vc H5 g5 hN=>?_);obtain⟨ux,hux,pux,lux⟩:=(hX4.mono g5).len;refine(Z,px,ux,V,.inl (SqL.of hux),λp1' hp1'=>?_);have g6:=zc hp1' (.lst ux);have R1:kag (upd H5 p1' (.lst ux)) xs p1':=(ux,za,zW g6 pux);have g46:=g5.trans g6;replace hN:=hN.mono g6;generalize upd H5 p1' (.lst ux)=H6 at *;refine((),λpl hpl=>?_);have g7:=zc hpl (.lst [.ref ph,.ref p1']);have hl:upd H6 pl (.lst [.ref ph,.ref p1']) pl=some (.lst [.ref ph,.ref p1']):=za;have g47:=g46.trans g7;replace hN:=hN.mono g7;replace R1:=R1.mono g7;generalize upd H6 pl (.lst [.ref ph,.ref p1'])=H7 at *;clear g5 g6 g7 g46 hux pux lux hp1' hpl ux;refine(Z,Z,pl,_,_,.ref ph,V,V,SqL.of hl,V,Z,pl,_,_,.ref p1',V,V,SqL.of hl,V,k,A,B,bF,xs,n,m,s,ph,ua,ub,uc,p1',va,vb,vc,V,J,hN,R1,(n4,ft),(m1,()),(s1,()),oM,(wA,wC),rx,x1,λpt H9 g79 T8=>?_);have hl9:=g79 _ _ hl;have hN9:=hN.mono g79;have R19:=R1.mono g79;have g49:=g47.trans g79;have hM9:=hM4.mono g49;have hX9:=hX4.mono g49;have hF9:=hF4.mono g49;clear g79 g47 g49 hN R1 hl hM4 hX4 hF4;refine(Z,Z,Z,(),λpz hpz=>?_);have g10:=zc hpz (.lst [.ref pm,.ref px]);have hz:upd H9 pz (.lst [.ref pm,.ref px]) pz=some (.lst [.ref pm,.ref px]):=za;replace T8:=T8.mono g10;replace hl9:=g10 _ _ hl9;replace hN9:=hN9.mono g10;replace R19:=R19.mono g10;replace hM9:=hM9.mono g10;replace hX9:=hX9.mono g10;replace hF9:=hF9.mono g10;generalize upd H9 pz (.lst [.ref pm,.ref px])=Ha at *;clear g10 hpz;refine(hand2 A B bF xs,hand2 A B bF xs,zaW hl9 hN9 R19,zaW hz hM9 hX9,Jf ..,Jf ..,wE (uC _ _) (wE (Qy ..) ()),Z,?_);rw[zbG];refine iteF ?_;obtain⟨y1,y2,ht⟩:=T8.tup;refine(Z,_,_,_,Z,TyOf.tup ht,zfV _,Z,iteF ?_);refine(Z,pt,Z,.inr (SqT.of ht),V,Z,iteF ?_);clear ht;refine(Z,Z,Z,Z,k,A,B,bF,n,m,s,pm,ta,tb,tc,ra,rb,rc,V,J,hM9,ft,oM,s1,(),λS pS rS Hb gb hS oS szS lS eS=>?_);refine(Z,k,n,S,pS,rS,V,hs,hS,oS,szS,n3,n1,(),(),λbC lu tU rU Hc gc hU iU eU szU=>?_);have gbc:=gb.trans gc;replace T8:=T8.mono gbc;replace hM9:=hM9.mono gbc;replace hX9:=hX9.mono gbc;replace hF9:=hF9.mono gbc;have lUU:=zd hU.2;refine(tU,Z,.inl (SqL.of hU.1),Z,_,Z,V,Z,?_);rw[wc,← lUU];have len:∀(R:TB)(lr:List Nat),IsRa k n R lr->kas k R (kry k (kaa n A) bF n)->bC.length+R.length=n:=λR lr iR eR=>JP J iR iU λF _ O v=>(eU F O v).trans (λh=>(h.1,λw hw=>h.2 w ((eS F O w).mpr ((eR F O w).mp hw))),λh=>(h.1,λw hw=>h.2 w ((eR F O w).mpr ((eS F O w).mp hw))))
 clear hl9 hN9 R19 hz lUU hU gb gc gbc hS;have oAt:OkM k n (kaa n A):=(xS oM.a).ok;have lAt:(kaa n A).length=n:=(xS oM.a).len;have oCt:OkM k s (kaa n bF):=(xS oM.c).ok;have lCt:(kaa n bF).length=n:=(xS oM.c).len
 rcases T8 with⟨R1,lr1,ps,pp,i1,e1,l1,ht,hps,fx,sp,one⟩|⟨R1,lr1,Fr,tF,rF,i1,e1,l1,ht,hTF,ro⟩
 ·
  have lU:=len R1 lr1 i1 e1;have eL:n - R1.length=bC.length:=by omega
  rw[eL]at fx one;rw[br (show(0:Int) <(bC.length:Int) by omega)];refine iteT ?_;have trA:∀ {gs:List Nb},GrP k n A gs->GrP k n (kaa n A) gs:=λg=>zhp oM.a.ok lA oAt lAt (λF _ O i j hi hj=>zeo J O oM.a.ok lA hi hj) g
  have oFt:OkM k n (kaa s Fd):=by have:=zw tFd.ok;rw[tFd.len]at this;exact this
  have eF:kaa n (kaa s Fd)=Fd:=by have:=jL tFd.ok;rw[tFd.len]at this;exact this
  have trX:∀ {gs:List Nb},GrP k n (adT k A (kah k n Fd bF)) gs->GrP k n (adT k (kaa n A) (kah k n (kaa n bF) (kaa s Fd))) gs:=λg=>by
   rw[← eF]at g;obtain⟨F0,_,_,⟨φ0⟩⟩:=zD J;obtain⟨⟨a1,b1⟩,⟨a2,b2⟩,_⟩:=zat J φ0 oM.a.ok lA oM.c.ok lC oFt (qI J Fd);exact zhp a1 b1 a2 b2 (λF _ O i j hi hj=>((zat J O oM.a.ok lA oM.c.ok lC oFt (qI J Fd)).2.2 j i hj hi).symm) g
  exact(Z,Z,Z,Z,Z,k,A,B,bF,Fd,ps,n,m,s,bC.length,pm,ta,tb,tc,tf,pt,pp,ra,rb,rc,rf,V,J,hM9,hF9,ht,hps,oM,(wA,wC,tFd),(),(),n4,s1,(),n3,fx.ok,fx.len,zdp J fx.ok fx.len one,sp,(λgs g F _ O=>zel J oAt lAt oCt lCt n1 fx (trA g) O),(λgs g F _ O=>zgU J oAt lAt oCt lCt n1 fx oFt (qI J Fd) (trX g) O),λHd gd=>q _)
 have lU:=len R1 lr1 i1 e1;rw[bq (show ¬(0:Int) <(bC.length:Int) by omega)];refine iteF ?_
 dsimp only
 have tF0:TOk k s n 165200 Fr:=(ro.len,ro.ok,λx D y hy=>QB J ((ro.ok x D).2 y hy) (ro.sz x D y hy) (λ_=>wv _) ());have tW:=xS tF0;refine(Z,pt,_,_,.str "watcher",V,V,SqT.of ht,V,.str "watcher",.str "watcher",zaC,zaC,zdE,zdE,(),Z,?_);rw[zfz];refine iteF ?_;refine(Z,Z,pt,_,_,.ref tF,V,V,SqT.of ht,V,Z,Z,k,kaa n Fr,tF,rF,_,Z,J,hTF,(by rw[tW.len]),(λr U=>(by rw[(tW.ok r U).1],(tW.ok r U).2)),(by rw[tW.len];omega),λHd gd=>?_);refine(Z,iteF ?_)
 dsimp only
 obtain⟨F0,_,_,⟨φ0⟩⟩:=zD J;obtain⟨⟨a1,b1⟩,⟨a2,b2⟩,_⟩:=zat J φ0 oM.a.ok lA oM.c.ok lC ro.ok ro.len;refine(Z,Z,Z,Z,pt,_,_,.ref tF,V,V,SqT.of (gd _ _ ht),V,k,A,B,bF,kaa n Fr,n,m,s,165200,pm,ta,tb,tc,tF,ra,rb,rc,rF,V,J,hM9.mono gd,hTF.mono gd,oM,tW,(),(),n1,n4,s1,(),λtm rm He ge hMr=>?_);refine(k,adT k A (kah k n (kaa n Fr) bF),n,tm,rm,V,J,hMr,(b1,a1,zii J s2 oM.a oM.c tW),n1,n4,n3,λys py Hf gf hy ly oy gr=>?_);obtain rfl:=ro.gr ys oy ly (zhp a1 b1 a2 b2 (λF _ O i j hi hj=>((zat J O oM.a.ok lA oM.c.ok lC ro.ok ro.len).2.2 j i hj hi).symm) gr);refine(Z,rowD ys,rowD ys,hy.rp,(hX9.mono (gd.trans (ge.trans gf))).rp,jx _,jx _,wE (uC _ _) (wE (ju _) ()),?_);rw[Zk];exact q _
end
end KL
open PySem PySem.W PyProof.Rows
set_option maxRecDepth 100000 in
set_option maxHeartbeats 0 in
theorem PySem.Challenge.cw_steermill_k61_watchers_holds : PySem.Challenge.rw_steermill_k61_watchers.Holds := by
 refine L2.zbj (l:=PySem.Challenge.rw_steermill_k61_watchers) 54 3200 (L2.lkP KL.pg) (L2.lvP KL.pg) KL.h_ws rfl rfl rfl (by kernel_rfl) () (λs=>by kernel_rfl) (KL.h_st,KL.h_sn,KL.h_lk) (by kernel_rfl) (by kernel_rfl) (by kernel_rfl) (by kernel_rfl) (by kernel_rfl) (by kernel_rfl) (V,V,V,V,V,by decide +kernel) (by w_witness2) (by decide +kernel) (V,(),()) ?F
 case F =>
  intro w mg fa h K KX hq G hmg
  obtain⟨fd,FL,hb⟩:=L2.zid (st:=L2.nthS KL.pg 100) KX G hmg (L2.zg4 hq 100 rfl) (λ_ _ _ _ _ _ _=>rfl)
  exact(fd,hb,λbase _ _ hS=>KL.zji (B:=(w,K,mg,base,h,KX,G,hS,hq,KL.h_ck)) FL)
