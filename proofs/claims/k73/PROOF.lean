import PyProof.Rows.All
import Wide.All
import OpenK.AllK
import Wide.FinOn
import Lean
import PyProof.EqAt
import PyProof.EqKinds
import PyProof.TupleCall
import PySem.Challenge.RW_steermill_k73_whole_least_machines
noncomputable section
local macro_rules | `(()) => `(by first | omega | decide | exact Nat.le_of_ble_eq_true rfl)
local macro_rules | `(($a, $b,*)) => do
 let r ← `(rfl)
 let o ← `(_)
 let l := (#[a] ++ b.getElems).flatMap fun e => if e.raw.getId.eraseMacroScopes == `Q then #[o, r] else if e.raw.getId.eraseMacroScopes == `V then #[r] else #[e]
 `(⟨$l,*⟩)
set_option compiler.extract_closed false
set_option genSizeOf false
local macro_rules | `(tactic| omega) => `(tactic| lia)
open List renaming length_map->wa,getElem?_eq_getElem->wb,getD_eq_getElem?_getD->wc,mem_of_getElem?->we,getElem?_map->wg,mem_map->wj,getElem_mem->wk,take_of_length_le->wm,mem_cons_self->wo,mem_append->wp,length_take->wr,mem_cons_of_mem->wt,getElem?_eq_some_iff->wu,map_append->wv,mem_singleton->wx,length_append->wy,getElem_of_mem->wD,mem_append_right->wF,getElem?_eq_none->wK,replicate->wL,mem_cons->wN,mem_append_left->wO,mem_range->wP,length_replicate->wQ,mem_flatten->wU,size_toArray->wV,getElem?_append_right->wW,range->wY,length_zipWith->vd,mem_filter->vg,getElem?_append_left->vk,getElem?_append->vo,of_mem_zip->vt,length_set->vv,getElem?_range->vw,length_range->vx,drop->vz,getElem?_set->vA,eq_nil_of_length_eq_zero->vB,mem_of_mem_take->vD,flatten_cons->vE,eq_of_mem_replicate->vF,not_mem_nil->vH,map_congr_left->vM,length_cons->vO,zipWith->vP,take->vS,getElem?_replicate->vU,map_map->vV,append_nil->vW,take_succ_eq_append_getElem->vZ,length_drop->ue,all_eq_true->ul,take_length->um,replicate_succ->uo,getElem?_zipWith->uq,length_zip->uy,length_filter_le->uz,pairwise_cons->uA,ext_getElem->uB,getElem?_set_ne->uC,getElem_zipWith->uD,idxOf_lt_length_of_mem->uF,getD->uG,getElem?_set_self->uH,length_nil->uI,mem_map_of_mem->uJ,getElem_map->uM,pairwise_map->uQ,ext_getElem?->uR,length->uV,flatten_append->gd,filter_cons->gg,pairwise_lt_range->gh,drop_of_length_le->gi,getElem?_drop->gk,exists_cons_of_ne_nil->gr,getElem?_zip_eq_some->gx,getElem?_inj->gy,mem_of_mem_drop->gD,map_fst_zip->gF,getElem?_take->gM,map_take->gQ,append_assoc->gS,map_inj_left->gV,nodup_append->gW,any_eq_true->Ga,map_cons->Gb,map_drop->Gc,nodup_cons->Gd,getElem?_take_of_lt->Gf,foldl_append->Gq,map->Gr,eq_nil_or_concat->Gz,pairwise_append->GA,foldl_cons->GD,filterMap_cons->GM,mem_filterMap->GQ,lookup_cons->wac,getElem_zip->wag,flatten_nil->waj,nil_append->wam,length_pos_of_mem->waq,getElem_replicate->war,length_singleton->was,mem_iff_getElem?->wau,concat_eq_append->waB,drop_zero->waC,replicate_succ'->waF,getElem_take->waV,map_snd_zip->waZ,sum_append->wa4,range_succ->wa8,take_zero->wa9,all_cons->wba,any_cons->wbb,sum_nil->wbk,map_id'->wbm,map_set->wbp,foldl->wbv
open Nat renaming le_refl->ww,le_trans->wE,lt_or_ge->wH,mul_le_mul_right->wI,mul_le_mul_left->wS,lt_of_lt_of_le->ve,ne_of_lt->vf,pow_le_pow_right->vh,mul_le_mul->vm,add_mul->vG,zero_le->vI,mul_comm->vJ,add_sub_cancel_left->vK,one_mul->vL,not_lt_zero->vN,le_of_lt->vT,min_le_left->vX,pow_add->vY,two_pow_pos->ud,zero_add->uk,lt_irrefl->ur,le_antisymm->ut,lt_of_le_of_lt->uu,lt_or_eq_of_le->uv,le_of_lt_succ->ux,sub_self->uE,le_succ->uL,one_le_two_pow->uN,succ_mul->uW,le_mul_of_pos_right->uX,lt_succ_self->gf,eq_zero_or_pos->gm,min_eq_left->gv,gcd->gw,div_lt_of_lt_mul->gE,le_of_eq->gI,mul_ne_zero->gO,le_mul_of_pos_left->gP,pow_succ->gY,lt_succ_iff_lt_or_eq->Gh,add_comm->Gk,exists_eq_add_of_le->Gm,lt_succ_of_lt->Gp,mod_lt->Gs,mod_eq_of_lt->Gu,dvd_trans->Gv,pow_mod->Gw,mul_one->Gx,min_eq_right->Gy,div_add_mod->GF,zero_mul->GK,add_zero->GL,mul_sub->GR,le_of_succ_le->GU,lt_trichotomy->GV,gcd_dvd_right->GW,mul_assoc->GX,min_le_right->GZ,mul_lt_mul''->wab,le_add_right->wad,succ_le_succ->wae,gcd_dvd_left->waf,coprime_comm->wah,pow_pos->waw,mul_pos->waz,sub_mul->waA,pow_lt_pow_right->waD,add_le_add_right->waE,le_of_dvd->waI,add_le_add_left->waJ,ne_of_gt->waL,lt_trans->waO,le_total->waP,dvd_mul_right->waU,le_of_not_lt->waX,pow_mul->wa0,div_eq_of_lt->wa2,mul_add_mod->wa5,mul_add_div->wa6,zero_lt_one->wa7,div_self->wbj,gcd_comm->wbl,min_self->wbn,sub_zero->wbo,one_pow->wbs,mul_mod->wbt,gcd_rec->wbu
open Option renaming map_eq_some_iff->wG,getD_some->wai,getD_none->waW
open Int renaming fmod_nonneg_of_pos->wJ,fmod_lt_of_pos->wR,toNat_natCast->vn,gcd->vC,zero_add->vQ,natAbs_mul->vR,fdiv_eq_ediv_of_dvd->ug,natAbs_natCast->uh,mul_le_mul_of_nonneg_left->uP,gcd_eq_natAbs_gcd_natAbs->uZ,ediv_mul_cancel->ga,natCast_nonneg->gj,natCast_mul->gu,emod_lt_of_pos->gK,emod_add_mul_ediv->gU,lt_or_le->gX,gcd_dvd_left->gZ,mul_ne_zero->Ge,dvd_mul_of_dvd_right->Gg,natAbs_pos->Gn,gcd_dvd_right->Go,emod_nonneg->GE,mul_zero->GH,zero_dvd->GI,gcd_pos_of_ne_zero_right->GN,gcd_pos_of_ne_zero_left->GO,fdiv_eq_ediv_of_nonneg->GS,natAbs_add_le->GT,eq_ofNat_of_zero_le->wal,natAbs_dvd_natAbs->wax,mul_pos->way,le_of_dvd->waG,zero_fmod->waH,dvd_zero->waM,gcd_zero->waN,dvd_mul_right->waQ,natAbs_sub_le->waR,lt_trichotomy->waT,dvd_sub->waY,dvd_mul_left->wa1,ediv_nonneg->wa3,dvd_trans->wbc,fmod_def->wbd,gcd_comm->wbe,zero_mul->wbf,dvd_refl->wbg,mul_comm->wbh,gcd_ediv->wbi,one_mul->wbq,neg_dvd->wbr
open Bool renaming false_ne_true->wZ,and_eq_true->uK,eq_iff_iff->uO,eq_false_iff->uS,false_eq_true->waK
open Rat renaming intCast_mul->vp,divInt->uf,intCast_eq_zero_iff->uY,num_divInt_den->Gi,divInt_eq_divInt_iff->GY,divInt_ofNat->waa,intCast_add->wan,intCast_inj->wao,intCast_neg->wap,divInt_mul_divInt->wat,divInt_eq_div->waS
open Classical renaming byContradiction->uw,not_forall->GB,axiomOfChoice->wak,choose_spec->wav
open PySem renaming Value->ca,World->ce,Program->cf,mainGlobals->cg,bootBuiltins->ci,Around->cj,wpAny->cm,model->cq,backTo->cr,starEach->cu,wpAny_mono->cv,wpAny_truthy_bool->cw,wpAny_execs_nil->cx,assignEach->cy,wpAny_bind->cD,wpAny_holding->cE,wpAny_standAt->cF,wpAny_pure->cG,wpAny_passesOwn->cH,letOwnedTupleGo->cK,wpAny_pyIter_list->cO,foldedSetIterable->cP,binaryOp->cQ,compareOp->cV,FuncData->cY,bindArgs->cZ,wpAny_Call_Name_kw->bd,NameKind->bf,cellsFrom->bg,sliceBounds->bj,intBits_le_64->bp
open PyProof.Rows renaming assignInOrder_cons->bq
open Lean.Grind renaming Field->bu
open PySem.W renaming Frag->bv
def bw{c:Prop}{h:Decidable c}(x:c){α:Sort u}{t e:α}:@ite α c h t e=t:=if_pos x
def bx{c:Prop}{h:Decidable c}(x:¬c){α:Sort u}{t e:α}:@ite α c h t e=e:=if_neg x
def bE{p:Prop}[Decidable p](x:¬p):decide p=false:=decide_eq_false x
def bF{p:Prop}[Decidable p](x:p):decide p=true:=decide_eq_true x
def bG{p:Prop}[Decidable p](x:decide p=true):p:=of_decide_eq_true x
def bH{p:Prop}[Decidable p](x:decide p=false):¬p:=of_decide_eq_false x
def bK{a:Prop}{b:Sort v}(h:a)(n:¬a):b:=absurd h n
set_option Elab.async false
set_option linter.all false
set_option maxRecDepth 100000
namespace L2
open PySem PySem.Spec PyProof.Rows
abbrev Key:=Sum Int Str
def keyIs:Key->ca->Bool
 | .inl k,v=>Value.isInt k v
 | .inr x,v=>Value.isStrOf x v
def keyH(w:ce):Key->Int
 | .inl k=>hashInt k
 | .inr x=>hashStr w x
def yg:∀ {k:Key} {v:ca},keyIs k v=true->(∃ i t,k=Sum.inl i/\v=Value.int i t)\/(∃ x t,k=Sum.inr x/\v=Value.str x t)
 | .inl i,v,h=>by
  obtain⟨t,e⟩:=Value.isInt_shape h;exact .inl (i,t,V,e)
 | .inr x,v,h=>by
  obtain⟨t,e⟩:=Value.isStrOf_shape h;exact .inr (x,t,V,e)
def zig a b:decide ((Sum.inl a:Key)=Sum.inl b) =(a == b):=by
 by_cases e:a=b
 ·subst e;simp
 ·have h:¬(Sum.inl a:Key)=Sum.inl b:=λq=>e (Sum.inl.inj q)
  rw[bE h];exact(beq_eq_false_iff_ne.mpr e).symm
def zhA a b:decide ((Sum.inr a:Key)=Sum.inr b)=decide (a=b):=by
 by_cases e:a=b
 ·subst e;simp
 ·have h:¬(Sum.inr a:Key)=Sum.inr b:=λq=>e (Sum.inr.inj q)
  rw[bE h,bE e]
def zib a b:decide ((Sum.inl a:Key)=Sum.inr b)=false:=bE (λq=>nomatch q)
def zhE a b:decide ((Sum.inr a:Key)=Sum.inl b)=false:=bE (λq=>nomatch q)
def mixKind prog w:PySem.KeyKind prog w Key where
 is:=keyIs
 hash:=keyH w
 inj:=λv a b ha hb=>by
  rcases yg ha with⟨i,t,rfl,rfl⟩|⟨x,t,rfl,rfl⟩
  ·rcases yg hb with⟨j,u,rfl,e⟩|⟨y,u,rfl,e⟩
   ·injection e with e1 _;rw[e1]
   ·exact nomatch e
  ·rcases yg hb with⟨j,u,rfl,e⟩|⟨y,u,rfl,e⟩
   ·exact nomatch e
   ·injection e with e1 _;rw[e1]
 byValue:=λk v h=>by
  rcases yg h with⟨i,t,rfl,rfl⟩|⟨x,t,rfl,rfl⟩ <;> rfl
 pyHash:=λhv h=>by
  rcases yg hv with⟨i,t,rfl,rfl⟩|⟨x,t,rfl,rfl⟩
  ·exact wpAny_pyHash_int h
  ·exact wpAny_pyHash_str h
 eqBool:=λhu hv h=>by
  rcases yg hu with⟨i,t,rfl,rfl⟩|⟨x,t,rfl,rfl⟩
  ·rcases yg hv with⟨j,u,rfl,rfl⟩|⟨y,u,rfl,rfl⟩
   ·rw[zig]at h;exact wpAny_eqBool_int h
   ·rw[zib]at h;exact SeqAt.EqAt.int_str i t y u _ _ _ _ h
  ·rcases yg hv with⟨j,u,rfl,rfl⟩|⟨y,u,rfl,rfl⟩
   ·rw[zhE]at h;exact SeqAt.EqAt.str_int x t j u _ _ _ _ h
   ·rw[zhA]at h;exact wpAny_eqBool_str h
 «strs»:=λk x t v h=>by
  rcases yg h with⟨i,u,rfl,e⟩|⟨y,u,rfl,e⟩
  ·exact nomatch e
  ·injection e with e1 _
   subst e1;cases v <;> rfl
inductive V where
 | non|bl (b:Bool) | int (i:Int) | str (x:Str) | byt (b:Array UInt8) | flt (b:UInt64) | ref (a:Addr) | ty (n:String)
 deriving DecidableEq
def RelV:V->ca->Prop
 | .non,u=>u=Value.none
 | .bl b,u=>u=Value.bool b
 | .int i,u=>∃ t,u=Value.int i t
 | .str x,u=>∃ t,u=Value.str x t
 | .byt b,u=>∃ t,u=Value.bytes b t
 | .flt b,u=>∃ t,u=Value.float b t
 | .ref a,u=>u=Value.ref a
 | .ty n,u=>u=Value.type n
abbrev Vals:List V->List ca->Prop:=Paired RelV
def Vals.length(r:Vals xs us):xs.length=us.length:=Paired.length r
def Vals.get:∀ {xs:List V} {us:List ca} {i:Nat} {x:V},Vals xs us->xs[i]?=some x->∃ u,us[i]?=some u/\RelV x u
 | _,_,_,_,.nil,e=>by simp at e
 | _,_,0,_,.cons r _,e=>by simp at e;subst e;exact(Q,r)
 | _,_,i+1,x,.cons _ t,e=>by
  obtain⟨u,h1,h2⟩:=Vals.get t (by simpa using e);exact(u,by simpa using h1,h2)
def Vals.set(r:RelV x u):∀ {xs:List V} {us:List ca} i,Vals xs us->Vals (xs.set i x) (us.set i u)
 | _,_,_,.nil=>.nil
 | _,_,0,.cons _ t=>.cons r t
 | _,_,i+1,.cons q t=>.cons q (Vals.set r i t)
def Vals.append:∀ {xs ys:List V} {us ws:List ca},Vals xs us->Vals ys ws->Vals (xs++ys) (us++ws)
 | _,_,_,_,.nil,s=>s
 | _,_,_,_,.cons r t,s=>.cons r (Vals.append t s)
def Vals.take:∀ {xs:List V} {us:List ca} n,Vals xs us->Vals (xs.take n) (us.take n)
 | _,_,0,_=>.nil
 | _,_,_+1,.nil=>.nil
 | _,_,n+1,.cons r t=>.cons r (Vals.take n t)
def Vals.drop:∀ {xs:List V} {us:List ca} n,Vals xs us->Vals (xs.drop n) (us.drop n)
 | _,_,0,r=>r
 | _,_,_+1,.nil=>.nil
 | _,_,n+1,.cons _ t=>Vals.drop n t
def RelO:Option V->Option ca->Prop
 | some v,some u=>RelV v u
 | none,none=>True
 | _,_=>False
def KV:List (κ×V)->List (κ×ca)->Prop:=Paired λp q=>p.1=q.1/\RelV p.2 q.2
def kV:Key->V
 | .inl i=>.int i
 | .inr x=>.str x
inductive HO where
 | lst (xs:List V)
 | tup (xs:List V)
 | dK (kvs:List (Key×V)) | dT (kvs:List (List Key×V))
 | set (S:Int->Bool) (n:Nat)
 | ins (C dx:Addr) (fs:List (Str×V))
 | own (x:Addr)
 | xd (fs:List (Str×V))
 | met (f x:Addr)
 | rng (lo hi:Int)
 | frz (o:Obj) (u:HO)
 | tbl (ps:Array ca)
 | ext (O:Heap->Prop)
abbrev Hp:=Addr->Option HO
def upd(H:Hp)(a:Addr)(o:HO):Hp:=λb=>if b=a then some o else H b
def zd:upd H a o a=some o:=by unfold upd;rw[bw rfl]
def zy(h:b≠a):upd H a o b=H b:=by unfold upd;rw[bx h]
def zH{H:Hp}(h:H a=some o)(h':H b=none):a≠b:=by
 intro e;subst e;rw[h]at h';cases h'
section
variable(P:cf)(w:ce)
def ObjOk(H:Hp)(h:Heap)(a:Addr):HO->Prop
 | .lst xs=>xs.length<=sizeLine/\∃(its:List ca)(n:Nat),Vals xs its/\h.get? a=some { cls:=.type "list",data:=.seq its.toArray n }
 | .tup xs=>xs.length<=sizeLine/\∃ its:List ca,Vals xs its/\IsTup h a its.toArray
 | .dK kvs=>kvs.length<=sizeLine/\(a == sysModules)=false/\∃ vs,KV kvs vs/\h.DictOf (mixKind P w) a vs
 | .dT kvs=>kvs.length<=sizeLine/\(a == sysModules)=false/\∃ xs:List (List Key×Addr×ca),
   Paired (λp q=>p.1=q.1/\H q.2.1=some (.tup (p.1.map kV))/\RelV p.2 q.2.2) kvs xs /\
   ∃ o es ep,h.get? a=some o/\o.ExactDict/\o.data=.dict es ep/\es.toList=xs.map (entryOfKey (tupleKind (mixKind P w)))/\(xs.map (·.1)).Nodup
 | .set S n=>h.SetOf (intKind P w) a S n
 | .ins C dx fs=>H dx=some (.own a)/\fs.length<=1000/\dx≠a/\h.get? a=some (PySem.W.instObj C dx) /\
   ∃ mA,h.Ns1 dx mA/\(∀ f,RelO (fs.lookup f) (mA f))/\PySem.Within mA (fs.map (·.1))
 | .own _=>∃ o,h.get? a=some o
 | .xd fs=>∃ mA,h.Ns1 a mA/\∀ f,RelO (fs.lookup f) (mA f)
 | .rng lo hi=>∃ t u v,h.get? a=some { cls:=.type "range",data:=.fields #[.int lo t,.int hi u,.int 1 v] }
 | .frz o u=>h.get? a=some o/\ObjOk H h a u
 | .tbl ps=>h.get? a=some { cls:=.none,data:=.fields ps }
 | .met f x=>h.get? a=some (PySem.W.methodObj (.ref f) (.ref x))
 | .ext O=>O h/\(∃ o,h.get? a=some o)/\∀ h1 h2:Heap,O h1->(∀ o,h1.get? a=some o->h2.get? a=some o)->O h2
def HOk(H:Hp)(h:Heap):Prop:=∀ a o,H a=some o->ObjOk P w H h a o
end
section
variable{a:Addr}
def ObjOk.lt(x:ObjOk P w H h a o):a<h.objs.size:=by
 cases o with
 | lst xs=>obtain⟨_,_,_,_,e⟩:=x;exact Heap.lt_size e
 | tup xs=>obtain⟨_,_,_,p⟩:=x;exact p.lt
 | dK kvs=>obtain⟨_,_,_,_,o,_,_,e,_⟩:=x;exact Heap.lt_size e
 | dT kvs=>obtain⟨_,_,_,_,o,_,_,e,_⟩:=x;exact Heap.lt_size e
 | set S n=>obtain⟨o,_,_,_,e,_⟩:=x;exact Heap.lt_size e
 | ins C dx fs=>obtain⟨_,_,_,e,_⟩:=x;exact Heap.lt_size e
 | own y=>obtain⟨_,e⟩:=x;exact Heap.lt_size e
 | xd fs=>obtain⟨_,⟨_,_,_,e,_⟩,_⟩:=x;exact Heap.lt_size e
 | rng lo hi=>obtain⟨_,_,_,e⟩:=x;exact Heap.lt_size e
 | frz ob u=>obtain⟨e,_⟩:=x;exact Heap.lt_size e
 | tbl ps=>exact Heap.lt_size (show h.get? a=some _ from x)
 | met f y=>exact Heap.lt_size (show h.get? a=some _ from x)
 | ext O=>obtain⟨_,⟨_,e⟩,_⟩:=x;exact Heap.lt_size e
def Paired.mapP:∀ {l₁:List α} {l₂:List β},Paired F l₁ l₂->(∀ a b,F a b->G a b)->Paired G l₁ l₂
 | _,_,.nil,_=>.nil
 | _,_,.cons r t,f=>.cons (f _ _ r) (Paired.mapP t f)
def ObjOk.stay(x:ObjOk P w H h a o)(k:∀ b u,(b=a\/H b=some (.own a))->h.get? b=some u->h'.get? b=some u)
  (ho:∀ b,H b=some (.own a)->H' b=some (.own a)) (ht:∀ b xs,H b=some (.tup xs)->H' b=some (.tup xs)):ObjOk P w H' h' a o:=by
 induction o with
 | lst xs=>obtain⟨z,its,n,r,e⟩:=x;exact(z,its,n,r,k _ _ (.inl rfl) e)
 | tup xs=>obtain⟨z,its,r,ob,e,c⟩:=x;exact(z,its,r,ob,k _ _ (.inl rfl) e,c)
 | dK kvs=>obtain⟨z,y,vs,r,ob,es,ep,e,c⟩:=x;exact(z,y,vs,r,ob,es,ep,k _ _ (.inl rfl) e,c)
 | dT kvs =>
  obtain⟨z,y,xs,r,ob,es,ep,e,c⟩:=x;exact(z,y,xs,Paired.mapP r λp q z=>(z.1,ht _ _ z.2.1,z.2.2),ob,es,ep,k _ _ (.inl rfl) e,c)
 | set S n=>obtain⟨ob,es,ep,t,e,c⟩:=x;exact(ob,es,ep,t,k _ _ (.inl rfl) e,c)
 | ins C dx fs =>
  obtain⟨d,z,ne,e,mA,⟨od,es,ep,e2,c⟩,r⟩:=x;exact(ho _ d,z,ne,k _ _ (.inl rfl) e,mA,(od,es,ep,k _ _ (.inr d) e2,c),r)
 | own y=>obtain⟨ob,e⟩:=x;exact(ob,k _ _ (.inl rfl) e)
 | xd fs=>obtain⟨mA,⟨od,es,ep,e,c⟩,r⟩:=x;exact(mA,(od,es,ep,k _ _ (.inl rfl) e,c),r)
 | rng lo hi=>obtain⟨t,u,v,e⟩:=x;exact(t,u,v,k _ _ (.inl rfl) e)
 | frz ob u ih=>obtain⟨e,q⟩:=x;exact(k _ _ (.inl rfl) e,ih q)
 | tbl ps =>
  have e:h.get? a=some { cls:=.none,data:=.fields ps }:=x;exact k a _ (.inl rfl) e
 | met f y =>
  have e:= x;exact k a _ (.inl rfl) e
 | ext O=>obtain⟨p,⟨o,e⟩,st⟩:=x;exact(st _ _ p λo q=>k _ _ (.inl rfl) q,(o,k _ _ (.inl rfl) e),st)
def HOk.lt(x:HOk P w H h)(e:H a=some o):a<h.objs.size:=(x a o e).lt
def HOk.fresh(x:HOk P w H h)(e:h.objs.size<=a):H a=none:=by
 cases q:H a with
 | none=>rfl
 | some u=>exact bK (ve (x.lt q) e) (ur _)
def HOk.kept(x:HOk P w H h)(k:∀ b u,h.get? b=some u->h'.get? b=some u):HOk P w H h':=λa o e =>
 (x a o e).stay (λb u _ q=>k b u q) (λ_ q=>q) λ_ _ q=>q
def HOk.laid(x:HOk P w H h)(k:∀ b u,h.get? b=some u->h'.get? b=some u)(hp:h.objs.size<=a)(new:ObjOk P w (upd H a o) h' a o):HOk P w (upd H a o) h':=λb u e=>by
 have hn:=x.fresh hp
 by_cases hb:b=a
 ·subst hb;rw[zd]at e;cases e;exact new
 ·rw[zy hb]at e;exact(x b u e).stay (λc v _ q=>k c v q) (λc q=>by rw[zy (zH q hn)];exact q) λc xs q=>by rw[zy (zH q hn)];exact q
end
def Rd(H:Hp)(a:Addr)(u:HO):Prop:=H a=some u\/∃ o,H a=some (.frz o u)
def Rd.ok(r:Rd H a u)(x:HOk P w H h):ObjOk P w H h a u:=by
 rcases r with r|⟨o,r⟩
 ·exact x a u r
 ·obtain⟨_,q⟩:=x a _ r;exact q
def Mut:Option HO->Prop
 | some (.lst _)=>True
 | some (.dK _)=>True
 | some (.dT _)=>True
 | some (.set _ _)=>True
 | some (.ins _ _ _)=>True
 | some (.ext _)=>True
 | _=>False
section
def HOk.write(ok:HOk P w H h)(mu:Mut (H x))(he:e=x\/H e=some (.own x))(k:∀ b u,b≠e->h.get? b=some u->h'.get? b=some u)(heo:∃ u,h'.get? e=some u)
  (new:ObjOk P w (upd H x o') h' x o'):HOk P w (upd H x o') h':=λb u q=>by
 have nown:∀ c y,H c=some (.own y)->c≠x:=λc y r z=>by subst z;rw[r]at mu;exact mu
 have ntup:∀ c xs,H c=some (.tup xs)->c≠x:=λc xs r z=>by subst z;rw[r]at mu;exact mu
 by_cases hb:b=x
 ·subst hb;rw[zd]at q;cases q;exact new
 ·rw[zy hb]at q
  by_cases hbe:b=e
  ·have q':H b=some (.own x):=by
    rcases he with z|z
    ·exact bK (hbe.trans z) hb
    ·rw[hbe];exact z
   rw[q]at q';cases q';obtain⟨v,hv⟩:=heo;exact(v,by rw[hbe];exact hv)
  ·refine(ok b u q).stay (λc v hc r=>k c v ?_ r) (λc r=>by rw[zy (nown c b r)];exact r) λc xs r=>by rw[zy (ntup c xs r)];exact r
   rcases hc with rfl|hc
   ·exact hbe
   ·rintro rfl
    rcases he with z|z
    ·exact nown c b hc z
    ·rw[hc]at z;cases z;exact hb rfl
end
structure Un(fs ex:List Addr)(H H':Hp)(h h':Heap):Prop where
 keep:∀ b o,h.get? b=some o->H b=none->b∉fs->b∉ex->h'.get? b=some o
 slot:∀ b o,h.get? b=some o->H b=none->b∈fs->b∉ex->∃ sl,h'.get? b=some { o with slots:=sl }
 free:∀ b o,h.get? b=some o->H b=none->b∉ex->H' b=none
 there:∀ b o,h.get? b=some o->b∉ex->∃ o',h'.get? b=some o'
 tups:∀ b xs,H b=some (.tup xs)->H' b=some (.tup xs)
 frzs:∀ b o u,H b=some (.frz o u)->H' b=some (.frz o u)
 tbls:∀ b ps,H b=some (.tbl ps)->∃ more,H' b=some (.tbl (ps++more))
section
variable{h h1 h2 h':Heap}{a x e:Addr}
def Un.any(u:Un fs ex H H1 h h1)(q:h.get? b=some ob)(n:H b=none)(J:b∉ex):∃ sl,h1.get? b=some { ob with slots:=sl }:=by
 by_cases hb:b∈fs
 ·exact u.slot b ob q n hb J
 ·exact(ob.slots,u.keep b ob q n hb J)
def Un.kept(k:∀ b u,h.get? b=some u->h'.get? b=some u):Un fs ex H H h h' :=
 (λb ob q _ _ _=>k b ob q,λb ob q _ _ _=>(ob.slots,k b ob q),λ_ _ _ n _=>n,λb ob q _=>(ob,k b ob q),λ_ _ q=>q,λ_ _ _ q=>q,λ_ ps q=>(#[],by rw[q];simp))
def Un.refl:Un fs ex H H h h:=Un.kept λ_ _ q=>q
def Un.laid(k:∀ b u,h.get? b=some u->h'.get? b=some u)(hp:h.objs.size<=a)(hn:H a=none):Un fs ex H (upd H a o) h h' where
 keep:=λb u q _ _ _=>k b u q
 slot:=λb u q _ _ _=>(u.slots,k b u q)
 free:=λb u q n _=>by rw[zy (vf (ve (Heap.lt_size q) hp))];exact n
 there:=λb u q _=>(u,k b u q)
 tups:=λb xs q=>by rw[zy (zH q hn)];exact q
 frzs:=λb u xs q=>by rw[zy (zH q hn)];exact q
 tbls:=λb ps q=>(#[],by rw[zy (zH q hn),q];simp)
def Un.write(mu:Mut (H x))(he:e=x\/H e=some (.own x))(k:∀ b u,b≠e->h.get? b=some u->h'.get? b=some u)(heo:∃ u,h'.get? e=some u):Un fs ex H (upd H x o) h h':=by
 have J:∀ b,H b=none->b≠x:=λb n z=>by subst z;rw[n]at mu;exact mu
 have hb:∀ b,H b=none->b≠e:=λb n z=>by
  subst z
  rcases he with r|r
  ·exact J b n r
  ·rw[n]at r;cases r
 have hm:∀ b u,H b=some u->¬ Mut (some u)->b≠x:=λb u q nm z=>by subst z;rw[q]at mu;exact nm mu
 refine(λb u q n _ _=>k b u (hb b n) q,λb u q n _ _=>(u.slots,k b u (hb b n) q),λb u q n _=>by rw[zy (J b n)];exact n,λb u q _=>?_,
  λb xs q=>by rw[zy (hm b _ q λz=>z)];exact q,λb u xs q=>by rw[zy (hm b _ q λz=>z)];exact q,λb ps q=>(#[],by rw[zy (hm b _ q λz=>z),q];simp))
 by_cases hbe:b=e
 ·subst hbe;exact heo
 ·exact(u,k b u hbe q)
end
def trk(h:Heap)(H:Hp):List Addr:=(wY h.objs.size).filter λa=>(H a).isSome
def hidT(h:Heap)(H:Hp):Heap:=PySem.W.hideAll h (trk h H)
def zdj h H:(hidT h H).objs.size=h.objs.size:=PySem.W.hideAll_size _ _
def zfj(e:h.get? b=some o)(n:H b=none):(hidT h H).get? b=some o :=
 PySem.W.hideAll_get _ e λhm=>by
  have q:=(vg.mp hm).2;rw[n]at q;simp at q
def zhh(e:(hidT h H).get? b=some o):h.get? b=some o/\H b=none:=by
 have e':= PySem.W.of_hideAll (trk h H) e;refine(e',?_);cases q:H b with
 | none=>rfl
 | some x =>
  have hm:b∈trk h H:=vg.mpr (wP.mpr (Heap.lt_size e'),by simp[q]);have z:(hidT h H).get? b=none:=PySem.W.hideAll_none (trk h H) hm;rw[z]at e;cases e
structure Mod(K:bv)(mg:Str->Option ca)(base:Heap):Prop where
 kin:K.In base
 glob:base.Ns cg mg
 blt:∃ mb,base.Ns builtinsNs mb/\∀ x:Str,x ≠ "__name__" -> mb x=ci x
 nolimit:base.NoLimit
structure Cx where
 prog:cf
 w:ce
 K:bv
 mg:Str->Option ca
 base:Heap
 A:cj
 N:List Str
 s₀:Shared
 H₀:Hp
 env:Env
 outer:List Env
 stack:List Env
 ex:List Addr
 fn:Str->Bool
 calm:Bool
 pn:List (Addr×Obj)
 xe:ca->Shared->Prop
def frs(l:List Env):List Addr:=l.filterMap (·.frame)
abbrev Cx.fs(X:Cx):List Addr:=frs X.outer
def Vis(sc:Scope)(x:Str):Prop:=sc.names.lookup x=some .local\/sc.names.lookup x=some .cell\/sc.names.lookup x=some .free
def Loc(sc:Scope)(x:Str):Prop:=sc.names.lookup x=some .local\/sc.names.lookup x=some .cell
def Look(env:Env)(h:Heap)(m:Str->Option ca)(x:Str)(u:ca):Prop :=
 (env.kindOf x=some .local/\m x=some u)\/((env.kindOf x=some .cell\/env.kindOf x=some .free)/\∃ c,env.cells.lookup x=some c/\h.IsCell c (some u))
structure Cx.Ok(X:Cx):Prop where
 mod:Mod X.K X.mg X.base
 kind:X.env.scope.kind=.function
 glob:X.env.globals=cg
 blt:X.env.builtins=builtinsNs
 above:X.s₀.heap.objs.size<=X.env.locals
 inj:∀ x y c,X.env.cells.lookup x=some c->X.env.cells.lookup y=some c->x=y
 has:∀ x,(X.env.kindOf x=some .cell\/X.env.kindOf x=some .free)->∃ c,X.env.cells.lookup x=some c
 cab:∀ x c,X.fn x=true->X.env.cells.lookup x=some c->X.s₀.heap.objs.size<=c
 hd:X.calm=true->X.A.handled=none
 frames:X.A.frames=some X.stack
 stk:X.stack=X.outer\/(X.stack=X.env::X.outer/\X.env.frame=some X.env.locals)
 exf:∀ b∈X.ex,b≠X.env.locals/\∀ x c,X.env.cells.lookup x=some c->c≠b
 bs:∀ b o,X.base.get? b=some o->X.s₀.heap.get? b=some o/\X.H₀ b=none
 bsz:X.base.objs.size<=X.s₀.heap.objs.size
 noex:∀ b o,X.base.get? b=some o->b∉X.ex
 exfs:∀ b∈X.ex,b∉X.fs
 funs:X.s₀.heap.FunFrames X.base X.outer
 frf:∀ b∈X.fs,X.H₀ b=none
structure Inv(X:Cx)(pins:List (Addr×Obj))(E:List (Option V))(H:Hp)(s:Shared):Prop where
 ok:X.Ok
 os:s.os=X.s₀.os
 bare:AllBare s.gens
 base:Un X.fs X.ex X.H₀ H X.s₀.heap s.heap
 loc:∃ m,s.heap.Ns X.env.locals m/\∀(i:Nat)(x:Str)(v:V),X.N[i]?=some x->E[i]?=some (some v)->Vis X.env.scope x->∃ u,RelV v u/\Look X.env s.heap m x u
 cell:∀ x c,X.env.cells.lookup x=some c->∃ v,s.heap.IsCell c v
 free:H X.env.locals=none
 freeC:∀ x c,X.env.cells.lookup x=some c->H c=none
 pin:∀ p∈X.pn++pins,s.heap.get? p.1=some p.2/\H p.1=none/\p.1≠X.env.locals/\p.1∉X.fs/\∀ v,p.2.data≠.cell v
 hok:HOk X.prog X.w H s.heap
 len:E.length=X.N.length
section
variable{X:Cx}
def Cx.Ok.nofr(ok:X.Ok)(e:X.base.get? b=some o):b∉X.fs:=λhb=>by
 have:=(ok.funs.mem hb).1;rw[e]at this;cases this
def Inv.bs(I:Inv X pins E H s):∀ b o,X.base.get? b=some o->s.heap.get? b=some o/\H b=none:=λb o e =>
 (I.base.keep b o (I.ok.bs b o e).1 (I.ok.bs b o e).2 (I.ok.nofr e) (I.ok.noex b o e),I.base.free b o (I.ok.bs b o e).1 (I.ok.bs b o e).2 (I.ok.noex b o e))
def Inv.bk(I:Inv X pins E H s):∀ b o,X.base.get? b=some o->s.heap.get? b=some o:=λb o e=>(I.bs b o e).1
def Inv.mod(I:Inv X pins E H s):Mod X.K X.mg X.base:=I.ok.mod
def Inv.kIn(I:Inv X pins E H s):X.K.In s.heap:=I.ok.mod.kin.keeps I.bk
def Inv.nolimit(I:Inv X pins E H s):s.heap.NoLimit:=I.ok.mod.nolimit.keeps I.bk
def Inv.lt(I:Inv X pins E H s):X.env.locals<s.heap.objs.size:=let ⟨_,hn,_⟩:=I.loc;hn.lt
def Inv.sz(I:Inv X pins E H s):X.s₀.heap.objs.size<=s.heap.objs.size:=wE I.ok.above (vT I.lt)
def Inv.nofs(I:Inv X pins E H s){a:Addr}(h:s.heap.objs.size<=a):a∉X.fs:=λhb=>by
 obtain⟨_,o,ho,_⟩:=I.ok.funs.mem hb;exact bK (ve (Heap.lt_size ho) (wE I.sz h)) (ur _)
def Inv.cne(I:Inv X pins E H s):∀ x c,X.env.cells.lookup x=some c->c≠X.env.locals:=λx c e z=>by
 obtain⟨v,o,ho,hd⟩:=I.cell x c e;obtain⟨m,⟨o',es,ep,ho',hd',_⟩,_⟩:=I.loc;rw[z,ho']at ho;cases ho;rw[hd']at hd;cases hd
def Inv.funs(I:Inv X pins E H s):s.heap.FunFrames X.base X.outer:=by
 have all:∀ l,(∀ b∈frs l,b∈X.fs)->X.s₀.heap.FunFrames X.base l->s.heap.FunFrames X.base l:=by
  intro l
  induction l with
  | nil=>intro _ _;trivial
  | cons env r ih =>
   intro hs hl;obtain⟨Z,⟨bO,o,hf,hn,ho,hd⟩,L⟩:=hl;have hL:= hs bO (by unfold frs;rw[GM,hf];exact wo);obtain⟨sl,e⟩:=I.base.slot bO o ho (I.ok.frf bO hL) hL λz=>I.ok.exfs bO z hL
   exact(Z,(bO,_,hf,hn,e,hd),ih (λb hb=>hs b (by unfold frs;rw[GM,hf];exact wt _ hb)) L)
 exact all X.outer (λ_ hb=>hb) I.ok.funs
def Inv.stack(I:Inv X pins E H s):s.heap.FunFrames X.base X.stack:=by
 rcases I.ok.stk with e|⟨e,hf⟩
 ·rw[e];exact I.funs
 ·rw[e];obtain⟨m,hn,_⟩:=I.loc;refine .cons (by rw[I.ok.kind];decide) hf hn ?_ I.funs;exact Heap.get?_none_of_le (wE I.ok.bsz I.ok.above)
def Inv.stkSub(I:Inv X pins E H s):∀ b∈frs X.stack,b∈X.env.locals::X.fs:=λb hb=>by
 rcases I.ok.stk with e|⟨e,hf⟩
 ·rw[e]at hb;exact wt _ hb
 ·rw[e]at hb;unfold frs at hb;rw[GM,hf]at hb;exact hb
def Inv.stkFree(I:Inv X pins E H s):∀ b∈frs X.stack,H b=none:=λb hb=>by
 rcases wN.mp (I.stkSub b hb)with e|hb
 ·rw[e];exact I.free
 ·obtain⟨_,o,ho,_⟩:=I.ok.funs.mem hb;exact I.base.free b o ho (I.ok.frf b hb) λz=>I.ok.exfs b z hb
def Inv.step{g':Array GenState}{t':Nat}{d':Drawn}{ch:List Addr}(I:Inv X pins E H s)
  (hch:∀ b∈ch,(b∈X.ex\/X.s₀.heap.objs.size<=b)/\b≠X.env.locals/\(∀ x c,X.env.cells.lookup x=some c->c≠b)/\∀ p∈X.pn++pins,p.1≠b)
  (keep:∀ b o,b≠X.env.locals->b∉X.fs->b∉ch->s.heap.get? b=some o->H b=none->h'.get? b=some o)
  (slot:∀ b o,b≠X.env.locals->b∈X.fs->b∉ch->s.heap.get? b=some o->H b=none->∃ sl,h'.get? b=some { o with slots:=sl }) (free:∀ b o,b∉ch->s.heap.get? b=some o->H b=none->H' b=none)
  (there:∀ b o,b∉ch->s.heap.get? b=some o->∃ o',h'.get? b=some o')
  (tups:∀ b xs,H b=some (.tup xs)->H' b=some (.tup xs)) (frzs:∀ b o u,H b=some (.frz o u)->H' b=some (.frz o u)) (tbls:∀ b ps,H b=some (.tbl ps)->∃ more,H' b=some (.tbl (ps++more)))
  (ns:∀ m,s.heap.Ns X.env.locals m->h'.Ns X.env.locals m) (hok:HOk X.prog X.w H' h') (hg:AllBare g') :
  Inv X pins E H' { s with heap:=h',gens:=g',drawn:=d',toks:=t' }:=by
 have neL:∀ b o,X.s₀.heap.get? b=some o->b≠X.env.locals:=λb o e=>vf (ve (Heap.lt_size e) I.ok.above)
 have neC:∀ b o,X.s₀.heap.get? b=some o->b∉X.ex->b∉ch:=λb o e J hb=>by
  rcases (hch b hb).1 with z|z
  ·exact J z
  ·exact bK (ve (Heap.lt_size e) z) (ur _)
 have cellK:∀ x c,X.env.cells.lookup x=some c->∀ v,s.heap.IsCell c v->h'.IsCell c v:=λx c e v ⟨o,ho,hd⟩=>by
  have nch:= λz=>(hch c z).2.2.1 x c e rfl
  by_cases hc:c∈X.fs
  ·obtain⟨sl,q⟩:=slot c o (I.cne x c e) hc nch ho (I.freeC x c e);exact(_,q,hd)
  ·exact(o,keep c o (I.cne x c e) hc nch ho (I.freeC x c e),hd)
 refine(I.ok,I.os,hg,(λb o e n hb J=>?_,λb o e n hb J=>?_,λb o e n J=>?_,λb o e J=>?_,λb xs e=>tups b xs (I.base.tups b xs e),λb o xs e=>frzs b o xs (I.base.frzs b o xs e),λb ps e=>?_),?_,λx c e=>?_,?_,λx c e=>?_,λp hp=>?_,hok,I.len)
 ·exact keep b o (neL b o e) hb (neC b o e J) (I.base.keep b o e n hb J) (I.base.free b o e n J)
 ·obtain⟨sl,e1⟩:=I.base.slot b o e n hb J;obtain⟨sl',e2⟩:=slot b _ (neL b o e) hb (neC b o e J) e1 (I.base.free b o e n J);exact(sl',e2)
 ·obtain⟨o',e1⟩:=I.base.there b o e J;exact free b o' (neC b o e J) e1 (I.base.free b o e n J)
 ·obtain⟨o',e1⟩:=I.base.there b o e J;exact there b o' (neC b o e J) e1
 ·obtain⟨m1,e1⟩:=I.base.tbls b ps e;obtain⟨m2,e2⟩:=tbls b _ e1;exact(m1++m2,by rw[e2,Array.append_assoc])
 ·obtain⟨m,hn,hl⟩:=I.loc;refine(m,ns m hn,λi x v e1 e2 e3=>?_);obtain⟨u,r,l⟩:=hl i x v e1 e2 e3;refine(u,r,?_)
  rcases l with l|⟨k,c,e,z⟩
  ·exact .inl l
  ·exact .inr (k,c,e,cellK x c e _ z)
 ·obtain⟨v,z⟩:=I.cell x c e;exact(v,cellK x c e v z)
 ·obtain⟨m,⟨o,_,_,ho,_⟩,_⟩:=I.loc;exact free _ o (λz=>(hch _ z).2.1 rfl) ho I.free
 ·obtain⟨v,o,ho,hd⟩:=I.cell x c e;exact free c o (λz=>(hch c z).2.2.1 x c e rfl) ho (I.freeC x c e)
 ·obtain⟨e,n,ne,nf,d⟩:=I.pin p hp;have nch:= λz=>(hch p.1 z).2.2.2 p hp rfl
  exact(keep p.1 p.2 ne nf nch e n,free p.1 p.2 nch e n,ne,nf,d)
def Inv.un{t':Nat}(I:Inv X pins E H s)(u:Un X.fs [] H H' s.heap h')(hok:HOk X.prog X.w H' h'):Inv X pins E H' { s with heap:=h',toks:=t' }:=by
 obtain⟨m,⟨o,es,ep,ho,r⟩,_⟩:=id I.loc;obtain⟨sl,hL⟩:=u.any ho I.free (by simp);exact I.step (g':=s.gens) (d':=s.drawn) (ch:=[]) (λ_ z=>nomatch z) (λb o _ hb _ e n=>u.keep b o e n hb (by simp)) (λb o _ hb _ e n=>u.slot b o e n hb (by simp)) (λb o _ e n=>u.free b o e n (by simp)) (λb o _ e=>u.there b o e (by simp)) u.tups u.frzs u.tbls (λm' hm=>by
  obtain⟨o',es',ep',ho',r'⟩:=hm;rw[ho]at ho';cases ho';exact(_,es',ep',hL,r')) hok I.bare
def Inv.call{g':Array GenState}{t':Nat}{d':Drawn}{ch:List Addr}(I:Inv X pins E H s)(u:Un (frs X.stack) ch H H' s.heap h')(hok:HOk X.prog X.w H' h')(hg:AllBare g')
  (hch:∀ b∈ch,(b∈X.ex\/X.s₀.heap.objs.size<=b)/\b≠X.env.locals/\(∀ x c,X.env.cells.lookup x=some c->c≠b)/\∀ p∈X.pn++pins,p.1≠b) :
  Inv X pins E H' { s with heap:=h',gens:=g',drawn:=d',toks:=t' }:=by
 obtain⟨m,⟨o,es,ep,ho,r⟩,_⟩:=id I.loc;obtain⟨sl,hL⟩:=u.any ho I.free λz=>(hch _ z).2.1 rfl
 exact I.step hch (λb o hL hb hc e n=>u.keep b o e n (λz=>(wN.mp (I.stkSub b z)).elim hL hb) hc) (λb o _ _ hc e n=>u.any e n hc) (λb o hc e n=>u.free b o e n hc) (λb o hc e=>u.there b o e hc) u.tups u.frzs u.tbls (λm' hm=>by
  obtain⟨o',es',ep',ho',r'⟩:=hm;rw[ho]at ho';cases ho';exact(_,es',ep',hL,r')) hok hg
def Inv.turned{t':Nat}{it:Addr}(I:Inv X pins E H s)(k:∀ b o,b≠it->s.heap.get? b=some o->h'.get? b=some o)(hn:H it=none)(hL:it≠X.env.locals)
  (h1:it∈X.ex\/X.s₀.heap.objs.size<=it) (h2:∀ x c,X.env.cells.lookup x=some c->c≠it) (h3:∀ p∈X.pn++pins,p.1≠it):Inv X pins E H { s with heap:=h',toks:=t' }:=by
 have nit:∀ b u,H b=some u->b≠it:=λb u e z=>by rw[z,hn]at e;cases e
 refine I.step (g':=s.gens) (d':=s.drawn) (ch:=[it]) (λb hb=>?_) (λb o _ _ hc e _=>k b o (λz=>hc (by simp[z])) e) (λb o _ _ hc e _=>(o.slots,k b o (λz=>hc (by simp[z])) e)) (λ_ _ _ _ n=>n)
  (λb o hc e=>(o,k b o (λz=>hc (by simp[z])) e)) (λ_ _ e=>e) (λ_ _ _ e=>e) (λb ps e=>(#[],by rw[e];simp)) (λm hm=>?_) (λb u e=>?_) I.bare
 ·have e:b=it:=by simpa using hb
  subst e;exact(h1,hL,h2,h3)
 ·obtain⟨o,es,ep,ho,r⟩:=hm;exact(o,es,ep,k _ o (Ne.symm hL) ho,r)
 ·refine(I.hok b u e).stay (λc v hc q=>k c v ?_ q) (λ_ q=>q) λ_ _ q=>q
  rcases hc with z|z
  ·rw[z];exact nit b u e
  ·exact nit c _ z
def Inv.tok(I:Inv X pins E H s) t:Inv X pins E H { s with toks:=t }:=I.un (h':=s.heap) (t':=t) Un.refl I.hok
def Inv.kept{t':Nat}(I:Inv X pins E H s)(k:∀ b u,s.heap.get? b=some u->h'.get? b=some u):Inv X pins E H { s with heap:=h',toks:=t' }:=I.un (Un.kept k) (I.hok.kept k)
def Inv.laid{a:Addr}{o:HO}{t':Nat}(I:Inv X pins E H s)(k:∀ b u,s.heap.get? b=some u->h'.get? b=some u)(hp:s.heap.objs.size<=a)(new:ObjOk X.prog X.w (upd H a o) h' a o) :
  Inv X pins E (upd H a o) { s with heap:=h',toks:=t' }:=I.un (Un.laid k hp (I.hok.fresh hp)) (I.hok.laid k hp new)
def Inv.write{x e:Addr}{o:HO}{t':Nat}(I:Inv X pins E H s)(mu:Mut (H x))(he:e=x\/H e=some (.own x))(k:∀ b u,b≠e->s.heap.get? b=some u->h'.get? b=some u)(heo:∃ u,h'.get? e=some u)
  (new:ObjOk X.prog X.w (upd H x o) h' x o):Inv X pins E (upd H x o) { s with heap:=h',toks:=t' }:=I.un (Un.write mu he k heo) (I.hok.write mu he k heo new)
def Inv.weak{σ':List (Option V)}(I:Inv X pins E H s)(hl:σ'.length=E.length)(w:∀(i:Nat) v,σ'[i]?=some (some v)->E[i]?=some (some v)):Inv X pins σ' H s :=
 (I.ok,I.os,I.bare,I.base,let ⟨m,hn,hl'⟩:=I.loc;(m,hn,λi x v e1 e2 e3=>hl' i x v e1 (w i v e2) e3),I.cell,I.free,I.freeC,I.pin,I.hok,hl.trans I.len)
def Inv.pins_of(I:Inv X pins E H s)(h:∀ p∈pins',s.heap.get? p.1=some p.2/\H p.1=none/\p.1≠X.env.locals/\p.1∉X.fs/\∀ v,p.2.data≠.cell v):Inv X pins' E H s :=
 (I.ok,I.os,I.bare,I.base,I.loc,I.cell,I.free,I.freeC,λp hp=>(wp.mp hp).elim (λz=>I.pin p (wO _ z)) (h p),I.hok,I.len)
def zbl{N:List Str}(hN:N.Nodup){i j:Nat}(a:N[i]?=some x)(b:N[j]?=some x):i=j:=by
 obtain⟨h1,e1⟩:=wu.mp a;obtain⟨h2,e2⟩:=wu.mp b;exact(List.getElem_inj hN).mp (e1.trans e2.symm)
def Qt{M:Model}{A:cj}{bP:ca->Shared->Prop}{i:Nat}{x:Str}{v:V}{u:ca}{Q:Unit->Shared->Prop}(I:Inv X pins E H s)(hN:X.N.Nodup)(hi:X.N[i]?=some x)(J:Loc X.env.scope x)(r:RelV v u)
  (h:∀ s',Inv X pins (E.set i (some v)) H s'->(∃ a,Heap.SameBut a s.heap s'.heap/\(a=X.env.locals\/X.env.cells.lookup x=some a))->Q PUnit.unit s') (hf:X.fn x=true\/X.env.scope.names.lookup x=some .local:=by first|exact .inl rfl|exact .inr rfl|assumption):cm M A (storeName X.env x u) Q bP s:=by
 obtain⟨m,hn,hl⟩:=id I.loc;have hcls:(X.env.scope.kind == .class || (X.env.scope.kind == .module && X.env.locals != X.env.globals))=false:=by rw[I.ok.kind];rfl
 have hiσ:i<E.length:=by rw[I.len];exact(wu.mp hi).1
 have cne:=I.cne;have tracked:∀ {a:Addr} {h':Heap},(∃ o,s.heap.get? a=some o/\H a=none)->Heap.SameBut a s.heap h'->HOk X.prog X.w H h':=λ{a h'} ha hs b ob e=>by
  obtain⟨_,_,hfree⟩:=ha;refine(I.hok b ob e).stay (λc w' hc q=>(hs.2 c ?_).trans q) (λ_ q=>q) λ_ _ q=>q
  rintro rfl
  rcases hc with rfl|hc
  ·rw[hfree]at e;cases e
  ·rw[hfree]at hc;cases hc
 rcases J with Z|Z
 ·refine wpAny_storeName_local Z hn (λh' hn' hs=>?_) hcls;obtain⟨oL,_,_,hoL,_⟩:=id hn;refine h _ (I.ok,I.os,I.bare,(λb o e n hb J=>?_,λb o e n hb J=>?_,I.base.free,λb o e J=>?_,I.base.tups,I.base.frzs,I.base.tbls),(_,hn',λj y v' e1 e2 e3=>?_),λy c e=>?_,I.free,I.freeC,λp hp=>?_,tracked (oL,hoL,I.free) hs,by simpa using I.len) (_,hs,.inl rfl)
  ·exact(hs.2 b (vf (ve (Heap.lt_size e) I.ok.above))).trans (I.base.keep b o e n hb J)
  ·obtain⟨sl,e1⟩:=I.base.slot b o e n hb J;exact(sl,(hs.2 b (vf (ve (Heap.lt_size e) I.ok.above))).trans e1)
  ·obtain⟨o',e1⟩:=I.base.there b o e J;exact(o',(hs.2 b (vf (ve (Heap.lt_size e) I.ok.above))).trans e1)
  ·by_cases hj:j=i
   ·subst hj;rw[hi]at e1;cases e1;rw[uH hiσ]at e2;cases e2;exact(u,r,.inl (Z,by simp))
   ·rw[uC (Ne.symm hj)]at e2;obtain⟨u',r',q⟩:=hl j y v' e1 e2 e3;refine(u',r',?_)
    rcases q with⟨k,e⟩|⟨k,c,e,z⟩
    ·refine .inl (k,?_);have:y≠x:=λe=>hj (zbl hN e1 (e ▸ hi))
     simp[this,e]
    ·exact .inr (k,c,e,z.sameBut hs (cne y c e))
  ·obtain⟨w',z⟩:=I.cell y c e;exact(w',z.sameBut hs (cne y c e))
  ·obtain⟨e,n,ne,nf,d⟩:=I.pin p hp;exact((hs.2 p.1 ne).trans e,n,ne,nf,d)
 ·have hfn:X.fn x=true:=by
   rcases hf with z|z
   ·exact z
   ·rw[z]at Z;cases Z
  obtain⟨c,hc⟩:=I.ok.has x (.inl Z);obtain⟨w',z⟩:=I.cell x c hc;refine wpAny_storeName_cell I.ok.kind Z hc z (λh' hc' hs=>?_);obtain⟨oc,hoc,hocd⟩:=id z;refine h { s with heap:=h' } (I.ok,I.os,I.bare,(λb o e n hb J=>?_,λb o e n hb J=>?_,I.base.free,λb o e J=>?_,I.base.tups,I.base.frzs,I.base.tbls),(m,hn.sameBut hs (Ne.symm (cne x c hc)),λj y v' e1 e2 e3=>?_),λy c' e=>?_,I.free,I.freeC,λp hp=>?_,tracked (oc,hoc,I.freeC x c hc) hs,by simpa using I.len) (c,hs,.inr hc)
  ·exact(hs.2 b (vf (ve (Heap.lt_size e) (I.ok.cab x c hfn hc)))).trans (I.base.keep b o e n hb J)
  ·obtain⟨sl,e1⟩:=I.base.slot b o e n hb J;exact(sl,(hs.2 b (vf (ve (Heap.lt_size e) (I.ok.cab x c hfn hc)))).trans e1)
  ·obtain⟨o',e1⟩:=I.base.there b o e J;exact(o',(hs.2 b (vf (ve (Heap.lt_size e) (I.ok.cab x c hfn hc)))).trans e1)
  ·by_cases hj:j=i
   ·subst hj;rw[hi]at e1;cases e1;rw[uH hiσ]at e2;cases e2;exact(u,r,.inr (.inl Z,c,hc,hc'))
   ·rw[uC (Ne.symm hj)]at e2;obtain⟨u',r',q⟩:=hl j y v' e1 e2 e3;refine(u',r',?_)
    rcases q with q|⟨k,c',e,z'⟩
    ·exact .inl q
    ·refine .inr (k,c',e,z'.sameBut hs ?_)
     rintro rfl
     exact hj (zbl hN e1 (I.ok.inj _ _ _ e hc ▸ hi))
  ·by_cases hcc:c'=c
   ·subst hcc;exact(_,hc')
   ·obtain⟨w2,z2⟩:=I.cell y c' e;exact(w2,z2.sameBut hs hcc)
  ·obtain⟨e,n,ne,nf,d⟩:=I.pin p hp;refine((hs.2 p.1 ?_).trans e,n,ne,nf,d);intro q;rw[q,hoc]at e;have q':= Option.some.inj e;exact d w' (by rw[← q'];exact hocd)
def qq(I:Inv X pins E H s)(hN:X.N.Nodup)(hi:X.N[i]?=some x)(J:Loc X.env.scope x)(r:RelV v u)
  (h:∀ s',Inv X pins (E.set i (some v)) H s'->Q PUnit.unit s') (hf:X.fn x=true\/X.env.scope.names.lookup x=some .local:=by first|exact .inl rfl|exact .inr rfl|assumption):cm M A (storeName X.env x u) Q bP s :=
 Qt I hN hi J r (λs' I' _=>h s' I') hf
def Inv.call'{s':Shared}{ch:List Addr}(I:Inv X pins E H s)(ho:s'.os=s.os)(u:Un (frs X.stack) ch H H' s.heap s'.heap)(hok:HOk X.prog X.w H' s'.heap)(hg:AllBare s'.gens)
  (hch:∀ b∈ch,(b∈X.ex\/X.s₀.heap.objs.size<=b)/\b≠X.env.locals/\(∀ x c,X.env.cells.lookup x=some c->c≠b)/\∀ p∈X.pn++pins,p.1≠b):Inv X pins E H' s':=by
 obtain⟨h',g',d',t',o'⟩:=s';have e:= ho;subst e;exact I.call (g':=g') (t':=t') (d':=d') u hok hg hch
end
abbrev XK:=ca->Option Addr->Hp->Prop
abbrev St:=List (Option V)
abbrev VK:=V->Hp->Prop
abbrev TE:=St->Hp->VK->Prop
abbrev TT:=St->Hp->(Bool->Hp->Prop)->Prop
abbrev TA:=St->Hp->(List V->Hp->Prop)->Prop
structure Ends where
 nx:St->Hp->Prop
 rt:VK
 bk:St->Hp->Prop:=λ_ _=>False
 ct:St->Hp->Prop:=λ_ _=>False
abbrev TS:=Ends->St->Hp->Prop
def EP(X:Cx)(pins:List (Addr×Obj))(E:St)(Q:VK)(u:ca)(s':Shared):Prop:=∃ v H',Inv X pins E H' s'/\RelV v u/\Q v H'
def TP(X:Cx)(pins:List (Addr×Obj))(E:St)(Q:Bool->Hp->Prop)(b:Bool)(s':Shared):Prop:=∃ H',Inv X pins E H' s'/\Q b H'
def AP(X:Cx)(pins:List (Addr×Obj))(E:St)(Q:List V->Hp->Prop)(us:List ca)(s':Shared):Prop:=∃ vs H',Inv X pins E H' s'/\Vals vs us/\Q vs H'
def SP(X:Cx)(pins:List (Addr×Obj))(D:Ends)(f:Flow)(s':Shared):Prop :=
 match f with
 | .next=>∃ σ' H',Inv X pins σ' H' s'/\D.nx σ' H'
 | .brk=>∃ σ' H',Inv X pins σ' H' s'/\D.bk σ' H'
 | .cont=>∃ σ' H',Inv X pins σ' H' s'/\D.ct σ' H'
 | .ret u=>∃ v σ' H',Inv X pins σ' H' s'/\RelV v u/\D.rt v H'
def PE(X:Cx)(e:Expr)(t:TE):Prop :=
 ∀ pins s (E:St) H Q,Inv X pins E H s->t E H Q->cm (cq X.prog X.w) X.A (eval e X.env) (EP X pins E Q) X.xe s
def PT(X:Cx)(e:Expr)(t:TT):Prop :=
 ∀ pins s (E:St) H Q,Inv X pins E H s->t E H Q->cm (cq X.prog X.w) X.A (isTrue e X.env (eval e X.env)) (TP X pins E Q) X.xe s
def PW(X:Cx)(e:Expr)(t:TT):Prop :=
 ∀(whole:Sem ca)(pins:List (Addr×Obj))(s:Shared)(E:St)(H:Hp)(Q:Bool->Hp->Prop),Inv X pins E H s->t E H Q->cm (cq X.prog X.w) X.A (isTrue e X.env whole) (TP X pins E Q) X.xe s
def PW.pt(h:PW X e t):PT X e t:=h _
def PA(X:Cx)(es:List Expr)(t:TA):Prop :=
 ∀(pos:Pos)(pins:List (Addr×Obj))(s:Shared)(E:St)(H:Hp)(Q:List V->Hp->Prop),Inv X pins E H s->t E H Q->cm (cq X.prog X.w) X.A (spliced (cr pos (cu es X.env))) (AP X pins E Q) X.xe s
def PS(X:Cx)(st:Stmt)(t:TS):Prop :=
 ∀ pins s (E:St) H D,Inv X pins E H s->t D E H->cm (cq X.prog X.w) X.A (exec st X.env) (SP X pins D) X.xe s
def PSs(X:Cx)(st:List Stmt)(t:TS):Prop :=
 ∀ pins s (E:St) H D,Inv X pins E H s->t D E H->cm (cq X.prog X.w) X.A (execs st X.env) (SP X pins D) X.xe s
def thn{α:Type}{t:Sem α}{Q Q':α->Shared->Prop}{M:Model}{A:cj}{bP:ca->Shared->Prop}{s:Shared}(h:cm M A t Q bP s)(hQ:∀ a s,Q a s->Q' a s):cm M A t Q' bP s:=cv h hQ λ_ _ x=>x
section
variable{X:Cx}
inductive zfV(i:Nat)(E:St)(H:Hp)(Q:VK):Prop where
 | mk (v:V) (h0_:E[i]?=some (some v)) (h1_:Q v H):zfV i E H Q
def tVar(i:Nat):TE:=λE H Q=>zfV i E H Q
def tC(v:V):TE:=λ_ H Q=>Q v H
def ziY {pos:Pos} (hN:X.N[i]?=some x) (hv:Vis X.env.scope x) (hd:(x ==("__debug__" : Str))=false:=by decide) (hcd:(x ==("__classdict__" : Str))=false:=by decide):PE X (.Name x pos) (tVar i):=by
 intro pins s E H Q I h;obtain⟨v,e,h⟩:=h;obtain⟨m,hn,hl⟩:=I.loc;obtain⟨u,r,l⟩:=hl i x v hN e hv;have fin:EP X pins E Q u s:=(v,H,I,r,h)
 rcases l with⟨Z,hm⟩|⟨Z,c,hc,hcell⟩
 ·exact wpAny_Name (wpAny_loadName_local I.ok.kind Z hn hm fin) hd
 ·rcases Z with Z|Z
  ·exact wpAny_Name (wpAny_loadName_cell I.ok.kind Z hc hcell fin) hd
  ·exact wpAny_Name (wpAny_loadName_free I.ok.kind Z hc hcell fin hcd) hd
def zfR{i j pos}:PE X (.Constant (.int i) j pos) (tC (.int i)):=λ_ _ _ H _ I h=>wpAny_Constant_int (.int i,H,I.tok _,(_,rfl),h)
def zje{b j pos}:PE X (.Constant (.bool b) j pos) (tC (.bl b)):=λ_ _ _ H _ I h=>Constant_bool (.bl b,H,I,V,h)
def zhL{j pos}:PE X (.Constant .none j pos) (tC .non):=λ_ _ _ H _ I h=>Constant_none (.non,H,I,V,h)
def zhV{x j pos}:PE X (.Constant (.str x) j pos) (tC (.str x)):=λ_ _ _ H _ I h=>Calls.Constant_str (.str x,H,I.tok _,(_,rfl),h)
def Gl(X:Cx)(x:Str):Prop:=X.env.kindOf x=some .globalImplicit
def zdC{E:St}(I:Inv X pins E H s)(hg:Gl X x)(hm:X.mg x=some u)(h:Q u s)
  (hd:(x ==("__debug__" : Str))=false:=by decide):cm (cq X.prog X.w) X.A (eval (.Name x pos) X.env) Q bP s :=
 Calls.Name_function_global I.ok.kind hg (Calls.loadGlobal_global (by rw[I.ok.glob];exact I.mod.glob.keeps I.bk) hm h) hd
def za0{bP:ca->Shared->Prop}{E:St}{pos:Pos}(I:Inv X pins E H s)(hg:Gl X x)(hm:X.mg x=none)(hv:ci x=some u)(h:Q u s)
  (hn:x ≠ "__name__" := by decide) (hd:(x ==("__debug__" : Str))=false:=by decide):cm (cq X.prog X.w) X.A (eval (.Name x pos) X.env) Q bP s:=by
 obtain⟨mb,h1,h2⟩:=I.mod.blt;exact Calls.Name_function_global I.ok.kind hg (Calls.loadGlobal_builtin (by rw[I.ok.glob];exact I.mod.glob.keeps I.bk) hm (by rw[I.ok.blt];exact h1.keeps I.bk) ((h2 x hn).trans hv) h) hd
def zgN {x:Str} {v:V} {u:ca} {pos:Pos} (hg:Gl X x) (hm:X.mg x=some u) (r:RelV v u) (hd:(x ==("__debug__" : Str))=false:=by decide):PE X (.Name x pos) (tC v) :=
 λ_ _ _ H _ I h=>zdC I hg hm (v,H,I,r,h) hd
inductive I_tB(x:V)(H1:Hp)(Q:Bool->Hp->Prop):Prop where
 | mk (c:Bool) (h0_:x=.bl c) (h1_:Q c H1):I_tB x H1 Q
def tB(t:TE):TT:=λE H Q=>t E H λx H1=>I_tB x H1 Q
def ziu{e:Expr}{t:TE}(h:PE X e t)(he:∀ whole,isTrue e X.env whole =(do let v ← whole;standAt e.pos;holding [v] (truthy v)):=by intro _;rfl):PT X e (tB t):=by
 intro pins s E H Q I hw;refine isTrue_plain (thn (h pins s E H _ I hw) λv s1 ⟨x,H1,I1,r1,q1⟩=>?_) (he _);obtain⟨d,rfl,q⟩:=q1;cases r1;exact cw (H1,I1,q)
def tAnd(t u:TT):TT:=λE H Q=>t E H λc H1=>if c=true then u E H1 Q else Q false H1
def tOr(t u:TT):TT:=λE H Q=>t E H λc H1=>if c=true then Q true H1 else u E H1 Q
def tNot(t:TT):TT:=λE H Q=>t E H λc H1=>Q (!c) H1
def pw_and1(ha:PT X a tA):PW X (.BoolOp .And [a] pos) tA:=by
 intro wh pins s E H Q I h;refine isTrue_and (thn (ha pins s E H Q I h) λc s1 e=>?_);cases c with
 | true=>exact isTrue_and_nil e
 | false=>exact e
def pw_or1(ha:PT X a tA):PW X (.BoolOp .Or [a] pos) tA:=by
 intro wh pins s E H Q I h;refine isTrue_or (thn (ha pins s E H Q I h) λc s1 e=>?_);cases c with
 | false=>exact isTrue_or_nil e
 | true=>exact e
def pw_and(ha:PT X a tA)(hb:PW X (.BoolOp .And (b::rest) pos) tB'):PW X (.BoolOp .And (a::b::rest) pos) (tAnd tA tB'):=by
 intro wh pins s E H Q I h;refine isTrue_and (thn (ha pins s E H _ I h) λc s1 ⟨H1,I1,q1⟩=>?_);cases c with
 | true=>exact hb wh pins s1 E H1 Q I1 q1
 | false=>exact(H1,I1,q1)
def pw_or(ha:PT X a tA)(hb:PW X (.BoolOp .Or (b::rest) pos) tB'):PW X (.BoolOp .Or (a::b::rest) pos) (tOr tA tB'):=by
 intro wh pins s E H Q I h;refine isTrue_or (thn (ha pins s E H _ I h) λc s1 ⟨H1,I1,q1⟩=>?_);cases c with
 | true=>exact(H1,I1,q1)
 | false=>exact hb wh pins s1 E H1 Q I1 q1
def zh6(ha:PT X a tA):PT X (.UnaryOp .Not a pos) (tNot tA):=by
 intro pins s E H Q I h;exact isTrue_not (ha pins s E H (λc H1=>Q (!c) H1) I h)
def tAndV(ta tb:TE):TE:=λE H Q=>ta E H λx H1=>∃ c,x=.bl c/\if c=true then tb E H1 Q else Q (.bl false) H1
def tOrV(ta tb:TE):TE:=λE H Q=>ta E H λx H1=>∃ c,x=.bl c/\if c=true then Q (.bl true) H1 else tb E H1 Q
def zim{op}(h:PE X a t):PE X (.BoolOp op [a] pos) t:=λpins s E H Q I hw=>BoolOp_one (h pins s E H Q I hw)
def zik(ha:PE X a ta)(hb:PE X (.BoolOp .And (b::rest) pos) tb):PE X (.BoolOp .And (a::b::rest) pos) (tAndV ta tb):=by
 intro pins s E H Q I h;refine BoolOp_and (thn (ha pins s E H _ I h) λv s1 ⟨x,H1,I1,r1,q1⟩=>?_);obtain⟨c,rfl,q1⟩:=q1;cases r1;refine cw ?_;cases c with
 | true=>exact hb pins s1 E H1 Q I1 q1
 | false=>exact(.bl false,H1,I1,V,q1)
def zjn(ha:PE X a ta)(hb:PE X (.BoolOp .Or (b::rest) pos) tb):PE X (.BoolOp .Or (a::b::rest) pos) (tOrV ta tb):=by
 intro pins s E H Q I h;refine BoolOp_or (thn (ha pins s E H _ I h) λv s1 ⟨x,H1,I1,r1,q1⟩=>?_);obtain⟨c,rfl,q1⟩:=q1;cases r1;refine cw ?_;cases c with
 | false=>exact hb pins s1 E H1 Q I1 q1
 | true=>exact(.bl true,H1,I1,V,q1)
def tIf(t:TT)(ta tb:TE):TE:=λE H Q=>t E H λc H1=>if c=true then ta E H1 Q else tb E H1 Q
def zev(hc:PT X c tA)(ha:PE X a ta)(hb:PE X b tb):PE X (.IfExp c a b pos) (tIf tA ta tb):=by
 intro pins s E H Q I h;refine wpAny_IfExp (thn (hc pins s E H _ I h) λd s1 ⟨H1,I1,q1⟩=>?_);cases d with
 | true=>exact ha pins s1 E H1 Q I1 q1
 | false=>exact hb pins s1 E H1 Q I1 q1
end
def SqL(K:bv)(H:Hp)(a:Addr)(xs:List V):Prop :=
 Rd H a (.lst xs) \/
  ∃(o:Obj)(its:Array ca)(n:Nat),K.lookup a=some o/\o.cls=.type "list" /\ o.dict=none/\o.data=.seq its n/\its.size<=sizeLine/\Vals xs its.toList
def SqT(K:bv)(H:Hp)(a:Addr)(xs:List V):Prop :=
 Rd H a (.tup xs) \/
  ∃(o:Obj)(its:Array ca)(n:Nat),K.lookup a=some o/\o.cls=.type "tuple" /\ o.data=.seq its n/\its.size<=sizeLine/\Vals xs its.toList
def absV:ca->Option V
 | .none=>some .non
 | .bool b=>some (.bl b)
 | .int i _=>some (.int i)
 | .str x _=>some (.str x)
 | .bytes b _=>some (.byt b)
 | .float b _=>some (.flt b)
 | .ref a=>some (.ref a)
 | .type n=>some (.ty n)
 | _=>none
def RelV.abs(r:RelV x u):absV u=some x:=by
 cases x with
 | non=>cases r;rfl
 | bl _=>cases r;rfl
 | int _=>obtain⟨t,rfl⟩:=r;rfl
 | str _=>obtain⟨t,rfl⟩:=r;rfl
 | byt _=>obtain⟨t,rfl⟩:=r;rfl
 | flt _=>obtain⟨t,rfl⟩:=r;rfl
 | ref _=>cases r;rfl
 | ty _=>cases r;rfl
def RelV.inj(r:RelV x u)(q:RelV y u):x=y:=Option.some.inj (r.abs.symm.trans q.abs)
def Vals.inj:∀ {xs ys:List V} {us:List ca},Vals xs us->Vals ys us->xs=ys
 | _,_,_,.nil,.nil=>rfl
 | _,_,_,.cons r t,.cons r' t'=>by rw[r.inj r',Vals.inj t t']
section
variable{E:St}
def SqL.of{K:bv}(h:H a=some (.lst xs)):SqL K H a xs:=.inl (.inl h)
def SqT.of{K:bv}(h:H a=some (.tup xs)):SqT K H a xs:=.inl (.inl h)
def Inv.list(I:Inv X pins E H s)(h:SqL X.K H a xs):∃ its:List ca,Vals xs its/\PlainL s.heap a its.toArray/\xs.length<=sizeLine:=by
 rcases h with h|⟨o,its,n,Z,hc,hd,hs,hz,r⟩
 ·obtain⟨z,its,n,r,e⟩:=h.ok I.hok;exact(its,r,(_,n,e,V,V,V),z)
 ·refine(its.toList,r,(o,n,I.kIn a o Z,hc,hd,by simpa using hs),?_);have e:=r.length;simp only[Array.length_toList]at e;omega
def Inv.tuple(I:Inv X pins E H s)(h:SqT X.K H a xs):∃ its:List ca,Vals xs its/\IsTup s.heap a its.toArray/\xs.length<=sizeLine:=by
 rcases h with h|⟨o,its,n,Z,hc,hs,hz,r⟩
 ·obtain⟨z,its,r,p⟩:=h.ok I.hok;exact(its,r,p,z)
 ·refine(its.toList,r,(o,I.kIn a o Z,hc,n,by simpa using hs),?_);have e:=r.length;simp only[Array.length_toList]at e;omega
def Inv.list_inj(I:Inv X pins E H s)(h:SqL X.K H a xs)(h':SqL X.K H a ys):xs=ys:=by
 obtain⟨its,r,⟨o,n,e,_,_,d⟩,_⟩:=I.list h;obtain⟨its',r',⟨o',n',e',_,_,d'⟩,_⟩:=I.list h';rw[e]at e';cases e';rw[d]at d'
 injection d' with d1 _
 have:its=its':=by simpa using congrArg Array.toList d1
 subst this;exact r.inj r'
end
abbrev Cx.wish(X:Cx)(bP:ca->Shared->Prop):Cx:={ X with xe:=bP }
abbrev Cx.nox(X:Cx):Cx:=X.wish λ_ _=>False
def Cx.Ok.wish{X:Cx}(ok:X.Ok) bP:(X.wish bP).Ok :=
 (ok.mod,ok.kind,ok.glob,ok.blt,ok.above,ok.inj,ok.has,ok.cab,ok.hd,ok.frames,ok.stk,ok.exf,ok.bs,ok.bsz,ok.noex,ok.exfs,ok.funs,ok.frf)
def Cx.Ok.unwish{X:Cx}(ok:(X.wish bP).Ok):X.Ok :=
 (ok.mod,ok.kind,ok.glob,ok.blt,ok.above,ok.inj,ok.has,ok.cab,ok.hd,ok.frames,ok.stk,ok.exf,ok.bs,ok.bsz,ok.noex,ok.exfs,ok.funs,ok.frf)
section
variable{E:St}
def Inv.wish(I:Inv X pins E H s) bP:Inv (X.wish bP) pins E H s:=(I.ok.wish bP,I.os,I.bare,I.base,I.loc,I.cell,I.free,I.freeC,I.pin,I.hok,I.len)
def Inv.unwish(I:Inv (X.wish bP) pins E H s):Inv X pins E H s:=(I.ok.unwish,I.os,I.bare,I.base,I.loc,I.cell,I.free,I.freeC,I.pin,I.hok,I.len)
def SP.unwish(h:SP (X.wish bP) pins D f s'):SP X pins D f s':=by
 cases f with
 | next=>obtain⟨σ',H',I,q⟩:=h;exact(σ',H',I.unwish,q)
 | brk=>obtain⟨σ',H',I,q⟩:=h;exact(σ',H',I.unwish,q)
 | cont=>obtain⟨σ',H',I,q⟩:=h;exact(σ',H',I.unwish,q)
 | ret u=>obtain⟨v,σ',H',I,r,q⟩:=h;exact(v,σ',H',I.unwish,r,q)
def PSs.nox{st:List Stmt}(h:PSs X.nox st t):PSs X st t:=λpins s E H D I hw =>
 cv (h pins s E H D (I.wish _) hw) (λ_ _ q=>q.unwish) λ_ _ z=>False.elim z
end
section
variable{st:Stmt}
def tNext:TS:=λD E H=>D.nx E H
def tSeq(t u:TS):TS:=λD E H=>t { D with nx:=u D } E H
def zhm:PSs X [] tNext:=λ_ _ E H _ I h=>cx (E,H,I,h)
def zeA(h1:PS X st t)(h2:PSs X rest u):PSs X (st::rest) (tSeq t u):=by
 intro pins s E H D I h;refine wpAny_execs_cons (thn (h1 pins s E H { D with nx:=u D } I h) λf s1 q=>?_);cases f with
 | next =>
  obtain⟨σ',H',I',q⟩:=q;exact h2 pins s1 σ' H' D I' q
 | ret v=>exact q
 | brk=>exact q
 | cont=>exact q
def zgJ(h1:PS X st t):PSs X [st] t:=by
 intro pins s E H D I h;refine wpAny_execs_cons (thn (h1 pins s E H D I h) λf s1 q=>?_);cases f with
 | next=>exact cx q
 | ret v=>exact q
 | brk=>exact q
 | cont=>exact q
def Inv.quiet{pins:List (Addr×Obj)}{E:St}{H:Hp}{s:Shared}(I:Inv X pins E H s):interactive X.env=false:=by simp[interactive,I.ok.kind]
def tDrop(te:TE):TS:=λD E H=>te E H λ_ H1=>D.nx E H1
def zgW(he:PE X e te)(hs:swapsWith e none pos.line X.env=pure false:=by rfl):PS X (.Expr e pos) (tDrop te):=by
 intro pins s E H D I h;exact wpAny_Expr_any (thn (he pins s E H _ I h) λv s1 ⟨x,H1,I1,r1,q1⟩=>(E,H1,I1,q1)) I.quiet hs
def tRet(te:TE):TS:=λD E H=>te E H D.rt
def ziD(he:PE X e te):PS X (.Return (some e) pos) (tRet te):=by
 intro pins s E H D I h;exact wpAny_Return_some (thn (he pins s E H _ I h) λv s1 ⟨x,H1,I1,r1,q1⟩=>(x,E,H1,I1,r1,q1))
def tIfS(c:TT)(t u:TS):TS:=λD E H=>c E H λb H1=>if b=true then t D E H1 else u D E H1
def zjm(hc:PT X c tc)(ha:PSs X a t)(hb:PSs X b u):PS X (.If c a b pos) (tIfS tc t u):=by
 intro pins s E H D I h;refine wpAny_If (thn (hc pins s E H _ I h) λd s1 ⟨H1,I1,q1⟩=>?_);cases d with
 | true=>exact ha pins s1 E H1 D I1 q1
 | false=>exact hb pins s1 E H1 D I1 q1
def tNever:TS:=λ_ _ _=>False
def za4:PS X st tNever:=λ_ _ _ _ _ _ h=>h.elim
end
abbrev TG:=V->St->Hp->(St->Hp->Prop)->Prop
abbrev TGs:=List V->St->Hp->(St->Hp->Prop)->Prop
def PG(X:Cx)(target:Expr)(t:TG):Prop :=
 ∀ pins s (E:St) H v u Q,Inv X pins E H s->RelV v u->t v E H Q ->
  cm (cq X.prog X.w) X.A (assign target X.env u) (λ_ s'=>∃ σ' H',Inv X pins σ' H' s'/\Q σ' H') X.xe s
def PGs(X:Cx)(ts:List Expr)(t:TGs):Prop :=
 ∀(pins:List (Addr×Obj))(s:Shared)(E:St)(H:Hp)(vs:List V)(us:List ca)(Q:St->Hp->Prop),Inv X pins E H s->Vals vs us->t vs E H Q ->
  cm (cq X.prog X.w) X.A (assignInOrder ((cy ts X.env).map (·.2)) us) (λ_ s'=>∃ σ' H',Inv X pins σ' H' s'/\Q σ' H') X.xe s
abbrev TSet:=V->V->V->Hp->(Hp->Prop)->Prop
def PSet(X:Cx)(t:TSet):Prop :=
 ∀ pins s (E:St) H o i v ov iv u Q,Inv X pins E H s->RelV o ov->RelV i iv->RelV v u->t o i v H Q ->
  cm (cq X.prog X.w) X.A (setItem ov iv u) (λ_ s'=>∃ H',Inv X pins E H' s'/\Q H') X.xe s
abbrev TIp:=V->V->Hp->VK->Prop
def PIp(X:Cx)(op:Operator)(t:TIp):Prop :=
 ∀ pins s (E:St) H x y v u Q,Inv X pins E H s->RelV x v->RelV y u->t x y H Q ->
  cm (cq X.prog X.w) X.A (inplaceOp op v u) (EP X pins E Q) X.xe s
section
variable{pos:Pos}
def gName(i:Nat):TG:=λv E H Q=>Q (E.set i (some v)) H
def ZV(hN:X.N.Nodup)(hi:X.N[i]?=some x)(J:Loc X.env.scope x)(hf:X.fn x=true\/X.env.scope.names.lookup x=some .local:=by first|exact .inl rfl|exact .inr rfl|assumption):PG X (.Name x pos) (gName i):=by
 intro pins s E H v u Q I r h;exact wpAny_assign_Name (qq I hN hi J r (λs' I'=>(_,H,I',h)) hf)
def gNil:TGs:=λvs E H Q=>vs=[]/\Q E H
inductive zcD(t:TG)(u:TGs)(vs:List V)(E:St)(H:Hp)(Q:St->Hp->Prop):Prop where
 | mk (v:V) (r:List V) (h0_:vs=v::r) (h1_:t v E H λσ' H'=>u r σ' H' Q):zcD t u vs E H Q
def gCons(t:TG)(u:TGs):TGs:=λvs E H Q=>zcD t u vs E H Q
def zdB:PGs X [] gNil:=by
 intro pins s E H vs us Q I r h;obtain⟨e,h⟩:=h;subst e;cases r;exact assignInOrder_nil (E,H,I,h)
def XN(h1:PG X e t)(h2:PGs X es u)
  (hs:(cy (e::es) X.env).map (·.2)=assign e X.env ::(cy es X.env).map (·.2):=by rfl):PGs X (e::es) (gCons t u):=by
 intro pins s E H vs us Q I r h;obtain⟨v,vr,e1,h⟩:=h;subst e1;cases r with
 | cons r rr =>
  rw[hs];refine bq (thn (h1 pins s E H _ _ _ I r h) λ_ s1 ⟨σ1,H1,I1,q1⟩=>?_);exact h2 pins s1 σ1 H1 _ _ Q I1 rr q1
inductive zfu(K:bv)(n:Nat)(t:TGs)(v:V)(E:St)(H:Hp)(Q:St->Hp->Prop):Prop where
 | mk (a:Addr) (xs:List V) (h0_:v=.ref a) (h1_:SqT K H a xs) (h2_:xs.length=n) (h3_:t xs E H Q):zfu K n t v E H Q
def gTup(K:bv)(n:Nat)(t:TGs):TG:=λv E H Q=>zfu K n t v E H Q
def zhF{k:Nat}(hc:X.calm=true)(h:PGs X es t)
  (hn:(cy es X.env).length=n:=by rfl) (hst:(cy es X.env).findIdx? (·.1)=none:=by rfl):PG X (.Tuple es k pos) (gTup X.K n t):=by
 intro pins s E H v u Q I r hw;obtain⟨a,xs,e1,hq,hl,hw⟩:=hw;subst e1;cases r;obtain⟨its,rv,ht,hz⟩:=I.tuple hq;refine assign_Tuple_tuple (I.ok.hd hc) ht (by simp[hn,← hl,rv.length]) hst λh' J=>?_
 have I1:Inv X pins E H { s with heap:=h' }:=I.kept (t':=s.toks) λb o e=>J b o (vf (Heap.lt_size e)) e
 exact h pins _ E H xs _ Q I1 (by simpa using rv) hw
def gSub(to ti:TE)(t:TSet):TG:=λv E H Q=>to E H λo H1=>ti E H1 λi H2=>t o i v H2 λH3=>Q E H3
def zhH(ho:PE X o to)(hi:PE X i ti)(hs:PSet X t)
  (ha:∀ v,assign (.Subscript o i pos) X.env v =(do
   let ov ← holding [v] (eval o X.env)
   let iv ← holding [v,ov] (eval i X.env)
   standAt pos
   holding [v,ov,iv] (setItem ov iv v)
   release [v,ov,iv] []):=by intro _;rfl):PG X (.Subscript o i pos) (gSub to ti t):=by
 intro pins s E H v u Q I r h;rw[ha];refine cD (cE (thn (ho pins s E H _ I h) λov s1 ⟨x,H1,I1,r1,q1⟩=>?_));refine cD (cE (thn (hi pins s1 E H1 _ I1 q1) λiv s2 ⟨y,H2,I2,r2,q2⟩=>?_));refine cD (cF (cD (cE (thn (hs pins s2 E H2 x y v ov iv u _ I2 r1 r2 r q2) λ_ s3 ⟨H3,I3,q3⟩=>?_))));exact wpAny_release (E,H3,I3,q3)
def tAsg(te:TE)(g:TG):TS:=λD E H=>te E H λx H1=>g x E H1 D.nx
def ziX(he:PE X e te)(hg:PG X tg g)(hs:swapsWithSole [tg] e pos.line X.env=pure false:=by rfl)(hw:swappedStores [tg] e X.env=pure none:=by rfl)
  (h1:(cy [tg] X.env).map (·.2)=[assign tg X.env]:=by rfl):PS X (.Assign [tg] e pos) (tAsg te g):=by
 intro pins s E H D I h;refine wpAny_Assign_stores (thn (he pins s E H _ I h) λv s1 ⟨x,H1,I1,r1,q1⟩=>?_) hs hw;rw[h1];exact thn (hg pins s1 E H1 x v _ I1 r1 q1) λ_ s2 q=>q
def ziP{i:Nat}{x:Str}{e:Expr}{te:TE}{pos':Pos}(hN:X.N.Nodup)(hi:X.N[i]?=some x)(J:Loc X.env.scope x)(he:PE X e te)(hs:swapsWith e (some (.Name x pos')) pos.line X.env=pure false:=by rfl)(hf:X.fn x=true\/X.env.scope.names.lookup x=some .local:=by first|exact .inl rfl|exact .inr rfl|assumption) :
  PS X (.Assign [.Name x pos'] e pos) (tAsg te (gName i)):=by
 intro pins s E H D I h;refine wpAny_Assign_Name (thn (he pins s E H _ I h) λv s1 ⟨y,H1,I1,r1,q1⟩=>?_) hs;exact qq I1 hN hi J r1 (λs2 I2=>(_,H1,I2,q1)) hf
def tPar(i j:Nat)(ta:TA):TS:=λD E H=>ta E H λvs H1=>∃ v w,vs=[v,w]/\D.nx ((E.set i (some v)).set j (some w)) H1
def ziQ{kt k2 pt2}(hc:X.calm=true)(hN:X.N.Nodup)(hi:X.N[i]?=some x)(hj:X.N[j]?=some y)(hij:i≠j)
  (J:X.env.scope.names.lookup x=some .local) (hy:X.env.scope.names.lookup y=some .local) (ha:PA X [a,b] ta)
  (hw:swappedStores [.Tuple [.Name x px,.Name y py] kt pt] (.Tuple [a,b] k2 pt2) X.env=pure (some [x,y]))
  (hs:swapsWithSole [.Tuple [.Name x px,.Name y py] kt pt] (.Tuple [a,b] k2 pt2) pos.line X.env=pure false:=by rfl) :
  PS X (.Assign [.Tuple [.Name x px,.Name y py] kt pt] (.Tuple [a,b] k2 pt2) pos) (tPar i j ta):=by
 intro pins s E H D I h;rw[exec_Assign_arm];refine cD (cF ?_);rw[hs];refine cD (cG ?_);rw[bx ()];refine cD (Tuple_ (thn (ha _ pins s E H _ I h) λus s1 ⟨vs,H1,I1,r1,q1⟩=>?_));obtain⟨v,w,e1,q1⟩:=q1;subst e1;obtain⟨u1,u2,rfl,rv,rw'⟩ : ∃ u1 u2,us=[u1,u2]/\RelV v u1/\RelV w u2:=by
  cases r1 with
  | cons p q =>
   cases q with
   | cons p' q' =>
    cases q';exact(_,Q,p,p')
 refine wpAny_newObj_type ?_ ();have I2:Inv X pins E H1 { s1 with heap:=s1.heap.push { cls:=.type "tuple",data:=.seq [u1,u2].toArray } }:=I1.kept (t':=s1.toks) λb o e=>Heap.get?_push_of_some _ e
 rw[hw];refine cD (cG ?_);refine cD (wpAny_rule (cD (unpackItems_tuple (items:=#[u1,u2]) (I.ok.hd hc) (IsTup.new s1.heap _) λh' hx'=>?_)));have I3:=I2.kept (h':=h') (t':=s1.toks) λb o e=>hx' b o (vf (Heap.lt_size e)) e
 refine cD (bq (wpAny_bindName (qq I3 hN hj (.inl hy) rw' (λs2 I4=>?_) (.inr hy))));refine bq (wpAny_bindName (qq I4 hN hi (.inl J) rv (λs3 I5=>assignInOrder_nil (cG ?_)) (.inr J)));rw[List.set_comm _ _ (Ne.symm hij)]at I5;exact(_,H1,I5,q1)
def tAug(i:Nat)(te:TE)(ti:TIp):TS:=λD E H=>∃ x,E[i]?=some (some x)/\te E H λy H1=>ti x y H1 λz H2=>D.nx (E.set i (some z)) H2
def zhP(hN:X.N.Nodup)(hi:X.N[i]?=some x)(J:Loc X.env.scope x)(he:PE X e te)(ho:PIp X op ti)(hf:X.fn x=true\/X.env.scope.names.lookup x=some .local:=by first|exact .inl rfl|exact .inr rfl|assumption) :
  PS X (.AugAssign (.Name x pos') op e pos) (tAug i te ti):=by
 intro pins s E H D I h;obtain⟨v,e1,h⟩:=h;obtain⟨m,hn,hl⟩:=I.loc;have vis:Vis X.env.scope x:=by rcases J with k|k;exact .inl k;exact .inr (.inl k)
 obtain⟨u,r,l⟩:=hl i x v hi e1 vis;refine wpAny_AugAssign_Name ?_;have go:cm (cq X.prog X.w) X.A (eval e X.env) (λw s₂=>cm (cq X.prog X.w) X.A (inplaceOp op u w) (λr s₃=>cm (cq X.prog X.w) X.A (storeName X.env x r) (λ_=>SP X pins D .next) X.xe s₃) X.xe s₂) X.xe s:=by
  refine thn (he pins s E H _ I h) λw s1 ⟨y,H1,I1,r1,q1⟩=>?_
  refine thn (ho pins s1 E H1 v y u w _ I1 r r1 q1) λz s2 ⟨zv,H2,I2,r2,q2⟩=>?_
  exact qq I2 hN hi J r2 (λs3 I3=>(_,H2,I3,q2)) hf
 rcases l with⟨Z,hm⟩|⟨Z,c,hc,hcell⟩
 ·exact wpAny_loadName_local I.ok.kind Z hn hm go
 ·rcases Z with Z|Z
  ·exact wpAny_loadName_cell I.ok.kind Z hc hcell go
  ·rcases J with k|k
   ·have:X.env.scope.names.lookup x=some .free:=Z;rw[k]at this;cases this
   ·have:X.env.scope.names.lookup x=some .free:=Z;rw[k]at this;cases this
def ipI(f:Int->Int->Int):TIp:=λx y H Q=>∃ i j,x=.int i/\y=.int j/\Q (.int (f i j)) H
def ziA:PIp X .Add (ipI λi j=>i+j):=by
 intro pins s E H x y v u Q I r1 r2 h;obtain⟨i,j,e1,e2,q⟩:=h;subst e1;subst e2;obtain⟨t,rfl⟩:=r1;obtain⟨t',rfl⟩:=r2;exact iadd_int (.int _,H,I.tok _,(_,rfl),q)
end
section
def tWhile(c:TT)(tb:TS):TS:=λD E H=>∃ W:Nat->St->Hp->Prop,(∃ m,W m E H)/\∀ m E H,W m E H ->
 c E H λb H1=>if b=true then ∃ N:St->Hp->Prop,(∀ σ' H',N σ' H'->∃ m',m'<m/\W m' σ' H')/\tb { D with nx:=N,ct:=N,bk:=D.nx } E H1 else D.nx E H1
def zfq(hp:PassesOwn (cq X.prog X.w) X.A X.env X.xe)(hc:PT X c tc)(hb:PSs X body tb):PS X (.While c body [] pos) (tWhile tc tb):=by
 intro pins s E H D I h;obtain⟨W,⟨m0,w0⟩,turn⟩:=h;refine wpAny_While (codeAny_whileLoop (λn s'=>∃ σ' H',Inv X pins σ' H' s'/\W n σ' H') ?_ m0 (E,H,I,w0))
 rintro n s1 ⟨σ1,H1,I1,w1⟩
 refine cH hp (thn (hc pins s1 σ1 H1 _ I1 (turn n σ1 H1 w1)) λb s2 ⟨H2,I2,q2⟩=>?_);cases b with
 | true =>
  obtain⟨N,hN,q2⟩:=q2;rw[bw rfl];refine cH hp (thn (hb pins s2 σ1 H2 _ I2 q2) λf s3 q3=>?_);cases f with
  | next =>
   obtain⟨σ3,H3,I3,n3⟩:=q3;obtain⟨m',hm,w3⟩:=hN σ3 H3 n3;exact(m',hm,σ3,H3,I3,w3)
  | cont =>
   obtain⟨σ3,H3,I3,n3⟩:=q3;obtain⟨m',hm,w3⟩:=hN σ3 H3 n3;exact(m',hm,σ3,H3,I3,w3)
  | brk=>exact q3
  | ret v=>exact q3
 | false =>
  rw[bx wZ];exact cx (σ1,H2,I2,q2)
end
structure It where
 go:Nat->Hp->Prop
 yld:Nat->Hp->V->Hp->Prop
 stop:Nat->Hp->Prop
def FpOk(X:Cx)(pins:List (Addr×Obj))(H:Hp)(b:Addr):Prop :=
 H b=none/\b≠X.env.locals/\b∉X.fs/\(b∈X.ex\/X.s₀.heap.objs.size<=b)/\(∀ x c,X.env.cells.lookup x=some c->c≠b)/\∀ p∈X.pn++pins,p.1≠b
def Inv.fpOk{E:St}{b:Addr}(I:Inv X pins E H s)(hb:s.heap.objs.size<=b)(hn:H' b=none):FpOk X pins H' b:=by
 refine(hn,waL (ve I.lt hb),I.nofs hb,.inr (wE I.sz hb),λx c e z=>?_,λp hp z=>?_)
 ·obtain⟨v,q⟩:=I.cell x c e;exact bK (ve q.lt (by rw[z];exact hb)) (ur _)
 ·exact bK (ve (Heap.lt_size (I.pin p hp).1) (by rw[z];exact hb)) (ur _)
structure Turn(P:cf)(w:ce)(K:bv)(tg:Expr)(bN:It)(fp:List Addr)(it:Addr)(tn:Nat->Heap->Prop):Prop where
 mem:it∈fp
 obj:∀ i h,tn i h->∀ b∈fp,∃ o,h.get? b=some o/\∀ v,o.data≠.cell v
 keep:∀ i h h',tn i h->(∀ b∈fp,∀ o,h.get? b=some o->h'.get? b=some o)->tn i h'
 item:∀(X:Cx),X.prog=P->X.w=w->X.K=K->X.calm=true->∀(i:Nat)(pins:List (Addr×Obj))(s:Shared)(E:St)(H:Hp)(bP:ca->Shared->Prop),Inv X pins E H s->(∀ b∈fp,FpOk X pins H b)->tn i s.heap->bN.go i H ->
  cm (cq P w) X.A (pyNext (.ref it)) (λr s1=>∃ u,r=some u /\
   cm (cq P w) X.A (cK tg (.ref it) u) (λ_ s2=>∃ x H',Inv X pins E H' s2/\RelV x u/\bN.yld i H x H'/\tn (i+1) s2.heap/\∀ b∈fp,H' b=none) bP s1) bP s
 done:∀(X:Cx),X.prog=P->X.w=w->X.K=K->X.calm=true->∀(i:Nat)(pins:List (Addr×Obj))(s:Shared)(E:St)(H:Hp)(bP:ca->Shared->Prop),Inv X pins E H s->(∀ b∈fp,FpOk X pins H b)->tn i s.heap->bN.stop i H ->
  cm (cq P w) X.A (pyNext (.ref it)) (λr s1=>r=none/\Inv X pins E H s1) bP s
 self:∀(A:cj)(i:Nat)(s:Shared)(Q:ca->Shared->Prop)(bP:ca->Shared->Prop),tn i s.heap->Q (.ref it) s->cm (cq P w) A (pyIter (.ref it)) Q bP s
abbrev TI:=St->Hp->(It->Hp->Prop)->Prop
def PIE(X:Cx)(pins:List (Addr×Obj))(E:St)(tg:Expr)(R:It->Hp->Prop)(itv:ca)(s2:Shared):Prop :=
 ∃(it:Addr)(fp:List Addr)(tn:Nat->Heap->Prop)(bN:It)(H':Hp),itv=.ref it/\Inv X pins E H' s2/\Turn X.prog X.w X.K tg bN fp it tn/\tn 0 s2.heap/\(∀ b∈fp,FpOk X pins H' b)/\R bN H'
def PI(X:Cx)(tg iter:Expr)(wi:TI):Prop :=
 ∀ pins s (E:St) H R,Inv X pins E H s->wi E H R ->
  cm (cq X.prog X.w) X.A (eval iter X.env) (λv s1=>cm (cq X.prog X.w) X.A (pyIter v) (PIE X pins E tg R) X.xe s1) X.xe s
def zin{M:Model}{A:cj}{bP:ca->Shared->Prop}{s:Shared}{tg:Expr}{it:Addr}{u:ca}{o:Obj}{n:String}{vs:Array ca}{Q:Unit->Shared->Prop}(ho:s.heap.get? it=some o)(hc:o.cls=.type n)(hd:o.data=.fields vs)
  (hn:["enumerate", "zip", "dict_itemiterator", "dict_reverseitemiterator", "odict_iterator", "itertools.zip_longest", "itertools.pairwise"].contains n=false) (hQ:Q PUnit.unit s):cm M A (cK tg (.ref it) u) Q bP s:=by
 unfold cK;cases tg <;> first
  | exact cG hQ
  | (cases u <;> first
    | exact cG hQ
    | (refine cD (wpAny_load ho ?_)
       rw[hc,hd];show cm M A (if (["enumerate", "zip", "dict_itemiterator", "dict_reverseitemiterator", "odict_iterator", "itertools.zip_longest", "itertools.pairwise"].contains n && vs[0]? == some (rawInt _))=true then _ else _) Q bP s;rw[bx (by intro h;rw[hn,Bool.false_and]at h;cases h)];exact cG hQ))
def Itl(K:bv)(a:Addr):It :=
 (λi H=>∃ xs x,SqL K H a xs/\xs[i]?=some x,λi H x H'=>H'=H/\∀ xs,SqL K H a xs->xs[i]?=some x,λi H=>∃ xs,SqL K H a xs/\xs.length<=i)
def Itr(lo:Int)(n:Nat):It:=(λi _=>i<n,λi H x H'=>H'=H/\x=.int (lo+i),λi _=>n<=i)
def zc6{K:bv} a it:Turn P w K tg (Itl K a) [it] it (λi h=>h.IsListIter it a i) where
 mem:=by simp
 obj:=λi h st b hb=>by
  have e:b=it:=by simpa using hb
  subst e;obtain⟨o,e,c,d⟩:=st;exact(o,e,λv z=>by rw[d]at z;cases z)
 keep:=λi h h' st k=>st.at λo e=>k it (by simp) o e
 item:=by
  intro X hP hw hK hc i pins s E H bP I hf st hg;subst hP hw hK;obtain⟨xs,x,hq,J⟩:=hg;obtain⟨its,rv,p,hz⟩:=I.list hq;obtain⟨u,hu,ru⟩:=rv.get J;obtain⟨f0,f1,f2,f3,f4,f5⟩:=hf it (by simp);refine wpAny_pyNext_list_item st p.isList (by simpa using hu) λh' st' sb=>?_
  have I1:Inv X pins E H { s with heap:=h' }:=I.turned (t':=s.toks) (λb o hb e=>(sb.2 b hb).trans e) f0 f1 f3 f4 f5;obtain⟨o,e,c,d⟩:=id st';exact(u,V,zin e c d () (x,H,I1,ru,(V,λys hy=>by rw[I.list_inj hy hq];exact J),st',λb hb=>(hf b hb).1))
 done:=by
  intro X hP hw hK hc i pins s E H bP I hf st hg;subst hP hw hK;obtain⟨xs,hq,J⟩:=hg;obtain⟨its,rv,p,hz⟩:=I.list hq;obtain⟨f0,f1,f2,f3,f4,f5⟩:=hf it (by simp);have hl:=rv.length;exact wpAny_pyNext_list_end (I.ok.hd hc) st p.isList (by simp;omega) λh' eb=>(V,I.turned (t':=s.toks) (λb o hb e=>eb b o hb e) f0 f1 f3 f4 f5)
 self:=λ_ _ _ _ _ st h=>wpAny_pyIter_listiter st h
def zbJ{K:bv} it lo n:Turn P w K tg (Itr lo n) [it] it (λi h=>IsRangeIter h it (lo +(i:Nat)*1) ((n:Int) - (i:Nat)) 1) where
 mem:=by simp
 obj:=λi h st b hb=>by
  have e:b=it:=by simpa using hb
  subst e;exact(_,st,λv z=>by
   have z':= z;cases z')
 keep:=λi h h' st k=>k it (by simp) _ st
 item:=by
  intro X hP hw hK hc i pins s E H bP I hf st hg;subst hP hw hK;obtain⟨f0,f1,f2,f3,f4,f5⟩:=hf it (by simp);have W:=Walks.range (prog:=X.prog) (w:=X.w) (I.ok.hd hc) it lo 1 n;refine W.item i s _ _ hg st λv h' tk hv st' kk=>?_
  obtain⟨t,rfl⟩:=hv;have I1:Inv X pins E H { s with heap:=h',toks:=tk }:=I.turned (λb o hb e=>kk b o (by simpa using hb) e) f0 f1 f3 f4 f5;refine(Q,zin st' rfl rfl () (.int (lo+i),H,I1,(t,?_),(V,V),st',λb hb=>(hf b hb).1));rw[Int.mul_one]
 done:=by
  intro X hP hw hK hc i pins s E H bP I hf st hg;subst hP hw hK;obtain⟨f0,f1,f2,f3,f4,f5⟩:=hf it (by simp);exact wpAny_pyNext_range_end (I.ok.hd hc) st (by have:n<=i:=hg;omega) λh' eb=>(V,I.turned (t':=s.toks) (λb o hb e=>eb b o hb e) f0 f1 f3 f4 f5)
 self:=λ_ _ _ _ _ st h=>wpAny_pyIter_rangeiter st h
section
inductive zcR(K:bv)(x:V)(H1:Hp)(R:It->Hp->Prop):Prop where
 | mk (a:Addr) (h0_:x=.ref a) (h1_:(∃ xs,SqL K H1 a xs)) (h2_:R (Itl K a) H1):zcR K x H1 R
def iList(K:bv)(tl:TE):TI:=λE H R=>tl E H λx H1=>zcR K x H1 R
def zhu(hl:PE X l tl):PI X tg l (iList X.K tl):=by
 intro pins s E H R I h;refine thn (hl pins s E H _ I h) λv s1 ⟨x,H1,I1,r1,q1⟩=>?_
 obtain⟨a,e,⟨xs,hq⟩,q⟩:=q1;subst e;cases r1;obtain⟨its,rv,p,hz⟩:=I1.list hq;refine cO p.isList ?_;refine(s1.heap.objs.size,[s1.heap.objs.size],_,_,H1,V,I1.kept (t':=s1.toks) λb o e=>Heap.get?_push_of_some _ e,zc6 a _,(_,Heap.get?_push_size _ rfl,V,V),λb hb=>?_,q);have e:b=s1.heap.objs.size:=by simpa using hb
 subst e;exact I1.fpOk (ww _) (I1.hok.fresh (ww _))
def zeU{pins:List (Addr×Obj)}{E:St}{H:Hp}{s:Shared}{R:It->Hp->Prop}{bP:ca->Shared->Prop}{lo hi:Int}{t u v:Tok}{tk:Nat}(I:Inv X pins E H s)(h1 : -(2^62)<=lo)(h2:lo<2^62)(h3 : -(2^62)<=hi)(h4:hi<2^62)
  (q:R (Itr lo (hi - lo).toNat) H):cm (cq X.prog X.w) X.A (pyIter (.ref s.heap.objs.size)) (PIE X pins E tg R) bP { s with heap:=s.heap.push { cls:=.type "range",data:=.fields #[.int lo t,.int hi u,.int 1 v] },toks:=tk }:=by
 refine wpAny_pyIter_range (IsRange.new ..) (small_one h1 h2 h3 h4) ?_;have I1:Inv X pins E H { s with heap:=s.heap.push { cls:=.type "range",data:=.fields #[.int lo t,.int hi u,.int 1 v] },toks:=tk }:=I.kept λb o e=>Heap.get?_push_of_some _ e
 refine((s.heap.push { cls:=.type "range",data:=.fields #[.int lo t,.int hi u,.int 1 v] }).objs.size,[(s.heap.push { cls:=.type "range",data:=.fields #[.int lo t,.int hi u,.int 1 v] }).objs.size],_,_,H,V,
  I1.kept (t':=tk) λb o e=>Heap.get?_push_of_some _ e,zbJ _ lo (hi - lo).toNat,?_,λb hb=>?_,q)
 ·have e1:lo +((0:Nat):Int)*1=lo:=by simp
  have e2:(((hi - lo).toNat:Nat):Int) - ((0:Nat):Int)=Builtin.Range.rangeSize lo hi 1:=by rw[rangeSize_one];split <;> omega
  rw[e1,e2];exact Heap.get?_push_size _ rfl
 ·have e:b =(s.heap.push { cls:=.type "range",data:=.fields #[.int lo t,.int hi u,.int 1 v] }).objs.size:=by simpa using hb
  subst e;exact I1.fpOk (ww _) (I1.hok.fresh (ww _))
inductive zea(vs:List V)(H1:Hp)(R:It->Hp->Prop):Prop where
 | mk (j:Int) (h0_:vs=[.int j]) (h1_ : -(2^62)<=j) (h2_:j<2^62) (h3_:R (Itr 0 j.toNat) H1):zea vs H1 R
def iRng1(ta:TA):TI:=λE H R=>ta E H λvs H1=>zea vs H1 R
def zdb (hg:Gl X "range") (hm:X.mg "range" = none) (ha:PA X [a] ta) (hs:cu [a] X.env=[(false,eval a X.env)]:=by rfl):PI X tg (.Call (.Name "range" p) [a] [] pos) (iRng1 ta):=by
 intro pins s E H R I h;refine Call_ (za0 I hg hm boot_range (PyProof.Rows.callWith_type1 (thn (ha pos pins s E H _ I h) λus s1 ⟨vs,H1,I1,r1,q1⟩=>?_) hs rfl));obtain⟨j,e,q1,q2,q⟩:=q1;subst e;cases r1 with
 | cons r rr =>
  cases rr;obtain⟨t,rfl⟩:=r;exact call_range_1 (zeU I1 () () q1 q2 (by simpa using q))
def tFor(wi:TI)(g:TG)(tb:TS):TS:=λD E H=>wi E H λbN H1=>∃ W:Nat->Nat->St->Hp->Prop,(∃ m,W 0 m E H1)/\∀ i m E H,W i m E H ->
 (bN.stop i H/\D.nx E H)\/(bN.go i H/\∃ N:St->Hp->Prop,(∀ σ' H',N σ' H'->∃ m',m'<m/\W (i+1) m' σ' H')/\∀ x H',bN.yld i H x H'->g x E H' λσ2 H2=>tb { D with nx:=N,ct:=N,bk:=D.nx } σ2 H2)
def pinsAt(fp:List Addr)(h:Heap):List (Addr×Obj):=fp.filterMap λb=>(h.get? b).map λo=>(b,o)
def jj(hb:b∈fp)(e:h.get? b=some o):(b,o)∈pinsAt fp h:=GQ.mpr (b,hb,by rw[e];rfl)
def zc8(hp:p∈pinsAt fp h):p.1∈fp/\h.get? p.1=some p.2:=by
 obtain⟨b,hb,e⟩:=GQ.mp hp;cases q:h.get? b with
 | none=>rw[q]at e;cases e
 | some o =>
  rw[q]at e;have e':= Option.some.inj e;subst e';exact(hb,q)
def Inv.pinned{E:St}(I:Inv X pins E H s)(hf:∀ b∈fp,FpOk X pins H b)(ho:∀ b∈fp,∃ o,s.heap.get? b=some o/\∀ v,o.data≠.cell v):Inv X (pins++pinsAt fp s.heap) E H s :=
 I.pins_of λp hp=>(wp.mp hp).elim (λz=>I.pin p (wF _ z)) λz=>by
  obtain⟨hb,e⟩:=zc8 z;obtain⟨f0,f1,f2,_⟩:=hf p.1 hb;obtain⟨o,e',d⟩:=ho p.1 hb;rw[e]at e';cases e';exact(e,f0,f1,f2,d)
def Inv.unpinned{E:St}(I:Inv X (pins++pl) E H s):Inv X pins E H s:=I.pins_of λp hp=>I.pin p (wF _ (wO _ hp))
def zhW(hp:PassesOwn (cq X.prog X.w) X.A X.env X.xe)(hc:X.calm=true)(hi:PI X tg iter wi)(hg:PG X tg g)(hb:PSs X body tb)
  (hs:∀ x,cP iter X.env x=pure x:=by intro _;rfl):PS X (.For tg iter body [] pos) (tFor wi g tb):=by
 intro pins s E H D I h;refine wpAny_For (thn (hi pins s E H _ I h) λv s1 h1=>thn h1 λitv s2 h2=>?_) hs;obtain⟨it,fp,tn,bN,H2,e,I2,T,st2,f2,W,⟨m0,w0⟩,turn⟩:=h2;subst e;have stat:∀ {H':Hp},(∀ b∈fp,H' b=none)->∀ b∈fp,FpOk X pins H' b:=λhn b hb=>(hn b hb,(f2 b hb).2)
 refine codeAny_forLoop_any (λn s'=>∃ i σ' H',Inv X pins σ' H' s'/\tn i s'.heap/\(∀ b∈fp,H' b=none)/\W i n σ' H') ?_ m0 (0,E,H2,I2,st2,λb hb=>(f2 b hb).1,w0)
 rintro n s3 ⟨i,σ3,H3,I3,st3,fr3,w3⟩
 rcases turn i n σ3 H3 w3 with⟨stop,qn⟩|⟨go,N,hN,step⟩
 ·refine cH hp (thn (T.done X rfl rfl rfl hc i pins s3 σ3 H3 X.xe I3 (stat fr3) st3 stop) λr s4 ⟨L,I4⟩=>?_);subst L;exact cx (σ3,H3,I4,qn)
 ·refine cH hp (thn (T.item X rfl rfl rfl hc i pins s3 σ3 H3 X.xe I3 (stat fr3) st3 go) λr s4 ⟨u,L,h4⟩=>?_);subst L;refine cH hp (thn h4 λ_ s5 ⟨x,H5,I5,r5,y5,st5,fr5⟩=>?_);have I5':=I5.pinned (stat fr5) (T.obj _ _ st5);refine cH hp (thn (hg _ s5 σ3 H5 x u _ I5' r5 (step x H5 y5)) λ_ s6 ⟨σ6,H6,I6,q6⟩=>?_);refine cH hp (thn (hb _ s6 σ6 H6 _ I6 q6) λf s7 q7=>?_);have again:∀ {σ7:St} {H7:Hp},Inv X (pins++pinsAt fp s5.heap) σ7 H7 s7->N σ7 H7->∃ m,m<n/\∃ i σ' H',Inv X pins σ' H' s7/\tn i s7.heap/\(∀ b∈fp,H' b=none)/\W i m σ' H':=λ{σ7 H7} I7 n7=>by
   obtain⟨m',hm,w7⟩:=hN σ7 H7 n7;refine(m',hm,i+1,σ7,H7,I7.unpinned,T.keep _ _ _ st5 λb hb o e=>(I7.pin (b,o) (wF _ (wF _ (jj hb e)))).1,λb hb=>?_,w7);obtain⟨o,e,d⟩:=T.obj _ _ st5 b hb;exact(I7.pin (b,o) (wF _ (wF _ (jj hb e)))).2.1
  cases f with
  | next=>obtain⟨σ7,H7,I7,n7⟩:=q7;exact again I7 n7
  | cont=>obtain⟨σ7,H7,I7,n7⟩:=q7;exact again I7 n7
  | brk=>obtain⟨σ7,H7,I7,q7⟩:=q7;exact(σ7,H7,I7.unpinned,q7)
  | ret v=>obtain⟨x7,σ7,H7,I7,r7,q7⟩:=q7;exact(x7,σ7,H7,I7.unpinned,r7,q7)
end
def yn{K:bv}{a:Addr}{xs:List V}{g:TG}{tb:TS}{D:Ends}{E:St}{H:Hp}(Pv:Nat->St->Hp->Prop)(h0:Pv 0 E H)(hl:∀ i E H,i<=xs.length->Pv i E H->SqL K H a xs)
  (hs:∀ i x E H,xs[i]?=some x->Pv i E H->g x E H λσ2 H2=>tb { D with nx:=Pv (i+1),ct:=Pv (i+1),bk:=D.nx } σ2 H2) (hd:∀ E H,Pv xs.length E H->D.nx E H) :
  ∃ W:Nat->Nat->St->Hp->Prop,(∃ m,W 0 m E H)/\∀ i m E H,W i m E H ->
   ((Itl K a).stop i H/\D.nx E H)\/((Itl K a).go i H/\∃ N:St->Hp->Prop,(∀ σ' H',N σ' H'->∃ m',m'<m/\W (i+1) m' σ' H')/\∀ x H',(Itl K a).yld i H x H'->g x E H' λσ2 H2=>tb { D with nx:=N,ct:=N,bk:=D.nx } σ2 H2):=by
 refine(λi m E H=>m=xs.length - i/\i<=xs.length/\Pv i E H,(xs.length,by simp,vI _,h0),?_)
 rintro i m E H ⟨rfl,hi,p⟩
 have q:=hl i E H hi p
 by_cases hlt:i<xs.length
 ·refine .inr ((xs,xs[i],q,by simp[hlt]),Pv (i+1),λσ' H' p'=>(xs.length - (i+1),(),V,hlt,p'),λx H' y=>?_);obtain⟨e,y⟩:=y;subst e;exact hs i x E _ (y xs q) p
 ·have e:i=xs.length:=by omega
  subst e;exact .inl ((xs,q,ww _),hd E H p)
def yu{lo:Int}{g:TG}{tb:TS}{D:Ends}(Pv:Nat->St->Hp->Prop)(h0:Pv 0 E H)
  (hs:∀ i E H,i<n->Pv i E H->g (.int (lo+i)) E H λσ2 H2=>tb { D with nx:=Pv (i+1),ct:=Pv (i+1),bk:=D.nx } σ2 H2) (hd:∀ E H,Pv n E H->D.nx E H) :
  ∃ W:Nat->Nat->St->Hp->Prop,(∃ m,W 0 m E H)/\∀ i m E H,W i m E H ->
   ((Itr lo n).stop i H/\D.nx E H)\/((Itr lo n).go i H/\∃ N:St->Hp->Prop,(∀ σ' H',N σ' H'->∃ m',m'<m/\W (i+1) m' σ' H')/\∀ x H',(Itr lo n).yld i H x H'->g x E H' λσ2 H2=>tb { D with nx:=N,ct:=N,bk:=D.nx } σ2 H2):=by
 refine(λi m E H=>m=n - i/\i<=n/\Pv i E H,(n,by simp,vI _,h0),?_)
 rintro i m E H ⟨rfl,hi,p⟩
 by_cases hlt:i<n
 ·refine .inr (hlt,Pv (i+1),λσ' H' p'=>(n - (i+1),(),V,hlt,p'),λx H' y=>?_);obtain⟨e,y⟩:=y;subst e y;exact hs i E _ hlt p
 ·have e:i=n:=by omega
  subst e;exact .inl (ww _,hd E H p)
abbrev R2:=V->V->Hp->VK->Prop
def OpR(X:Cx)(f:ca->ca->Sem ca)(r:R2):Prop :=
 ∀(pins:List (Addr×Obj))(s:Shared)(E:St)(H:Hp)(x y:V)(v u:ca)(Q:VK),Inv X pins E H s->RelV x v->RelV y u->r x y H Q ->
  cm (cq X.prog X.w) X.A (f v u) (EP X pins E Q) X.xe s
def UnR(X:Cx)(f:ca->Sem ca)(r:V->Hp->VK->Prop):Prop :=
 ∀(pins:List (Addr×Obj))(s:Shared)(E:St)(H:Hp)(x:V)(v:ca)(Q:VK),Inv X pins E H s->RelV x v->r x H Q ->
  cm (cq X.prog X.w) X.A (f v) (EP X pins E Q) X.xe s
def kaB(X:Cx)(f:ca)(r:List V->Hp->VK->Prop):Prop :=
 ∀(pins:List (Addr×Obj))(s:Shared)(E:St)(H:Hp)(xs:List V)(us:List ca)(Q:VK),Inv X pins E H s->Vals xs us->r xs H Q ->
  cm (cq X.prog X.w) X.A (call f us) (EP X pins E Q) X.xe s
def tOp(r:R2)(ta tb:TE):TE:=λE H Q=>ta E H λx H1=>tb E H1 λy H2=>r x y H2 Q
def tUn(r:V->Hp->VK->Prop)(ta:TE):TE:=λE H Q=>ta E H λx H1=>r x H1 Q
inductive I_rI(C:Int->Int->Prop)(g:Int->Int->V)(x y:V)(H:Hp)(Q:VK):Prop where
 | mk (i j:Int) (h0_:x=.int i) (h1_:y=.int j) (h2_:C i j) (h3_:Q (g i j) H):I_rI C g x y H Q
def rI(C:Int->Int->Prop)(g:Int->Int->V):R2:=λx y H Q=>I_rI C g x y H Q
inductive zhU(g:Int->Int->V)(x y:V)(H:Hp)(Q:VK):Prop where
 | mk (i j:Int) (h0_:x=.int i) (h1_:y=.int j) (h2_:Q (g i j) H):zhU g x y H Q
def rI0(g:Int->Int->V):R2:=λx y H Q=>zhU g x y H Q
inductive I_rU(g:Int->V)(x:V)(H:Hp)(Q:VK):Prop where
 | mk (i:Int) (h0_:x=.int i) (h1_:Q (g i) H):I_rU g x H Q
def rU(g:Int->V):V->Hp->VK->Prop:=λx H Q=>I_rU g x H Q
section
def binT(ha:PE X a ta)(hb:PE X b tb){E:St}{R:V->V->Hp->Prop}(I:Inv X pins E H s)
  (h:ta E H λx H1=>tb E H1 λy H2=>R x y H2) {f:ca->ca->Sem ca}
  (hf:∀ v u s2 x y H2,Inv X pins E H2 s2->RelV x v->RelV y u->R x y H2->cm (cq X.prog X.w) X.A (f v u) Q X.xe s2) :
  cm (cq X.prog X.w) X.A (eval a X.env) (λv s₁=>cm (cq X.prog X.w) X.A (eval b X.env) (λu s₂=>cm (cq X.prog X.w) X.A (f v u) Q X.xe s₂) X.xe s₁) X.xe s:=by
 refine thn (ha pins s E H _ I h) λv s1 ⟨x,H1,I1,r1,q1⟩=>?_
 refine thn (hb pins s1 E H1 _ I1 q1) λu s2 ⟨y,H2,I2,r2,q2⟩=>?_
 exact hf v u s2 x y H2 I2 r1 r2 q2
def zjr(ho:OpR X (cQ op) r)(ha:PE X a ta)(hb:PE X b tb):PE X (.BinOp a op b pos) (tOp r ta tb):=by
 intro pins s E H Q I h;exact wpAny_BinOp (binT ha hb I h λv u s2 x y H2 I2 rx ry q=>ho pins s2 E H2 x y v u Q I2 rx ry q)
def zjb(ho:UnR X (unaryOp op) r)(ha:PE X a ta):PE X (.UnaryOp op a pos) (tUn r ta):=by
 intro pins s E H Q I h;exact UnaryOp_ (thn (ha pins s E H _ I h) λv s1 ⟨x,H1,I1,r1,q1⟩=>ho pins s1 E H1 x v Q I1 r1 q1)
def opI{g:Int->Int->Int}
  (rule:∀ i j t u s Q bP,C i j->Q (.int (g i j) s.toks) { s with toks:=s.toks+1 }->cm (cq X.prog X.w) X.A (f (.int i t) (.int j u)) Q bP s) :
  OpR X f (rI C λi j=>.int (g i j)):=by
 intro pins s E H x y v u Q I rx ry h;obtain⟨i,j,rfl,rfl,hc,q⟩:=h;obtain⟨t,rfl⟩:=rx;obtain⟨t',rfl⟩:=ry;exact rule i j t t' s _ _ hc (.int (g i j),H,I.tok _,(_,rfl),q)
def opI0{g:Int->Int->Int}
  (rule:∀ i j t u s Q bP,Q (.int (g i j) s.toks) { s with toks:=s.toks+1 }->cm (cq X.prog X.w) X.A (f (.int i t) (.int j u)) Q bP s) :
  OpR X f (rI0 λi j=>.int (g i j)):=by
 intro pins s E H x y v u Q I rx ry h;obtain⟨i,j,rfl,rfl,q⟩:=h;obtain⟨t,rfl⟩:=rx;obtain⟨t',rfl⟩:=ry;exact rule i j t t' s _ _ (.int (g i j),H,I.tok _,(_,rfl),q)
def opB0{g:Int->Int->Bool}
  (rule:∀ i j t u s Q bP,Q (.bool (g i j)) s->cm (cq X.prog X.w) X.A (f (.int i t) (.int j u)) Q bP s) :
  OpR X f (rI0 λi j=>.bl (g i j)):=by
 intro pins s E H x y v u Q I rx ry h;obtain⟨i,j,rfl,rfl,q⟩:=h;obtain⟨t,rfl⟩:=rx;obtain⟨t',rfl⟩:=ry;exact rule i j t t' s _ _ (.bl (g i j),H,I,V,q)
def CPow(i j:Int):Prop:=0<=j/\j<=1000000/\i.natAbs<2^64
def yh:OpR X (cQ .Add) (rI0 λi j=>.int (i+j)):=opI0 λ_ _ _ _ _ _ _ q=>add_int q
def zio:OpR X (cQ .Sub) (rI0 λi j=>.int (i - j)):=opI0 λ_ _ _ _ _ _ _ q=>sub_int q
def zg0:OpR X (cQ .Mod) (rI (λ_ j=>j≠0) λi j=>.int (i.fmod j)):=opI λ_ _ _ _ _ _ _ hc q=>mod_int' hc q
def zdF:OpR X (cQ .Pow) (rI CPow λi j=>.int (i^j.toNat)):=opI λ_ _ _ _ _ _ _ hc q=>pow_int_small hc.1 hc.2.1 hc.2.2 q
def unI{g:Int->Int}
  (rule:∀ i t s Q bP,Q (.int (g i) s.toks) { s with toks:=s.toks+1 }->cm (cq X.prog X.w) X.A (f (.int i t)) Q bP s) :
  UnR X f (rU λi=>.int (g i)):=by
 intro pins s E H x v Q I rx h;obtain⟨i,rfl,q⟩:=h;obtain⟨t,rfl⟩:=rx;exact rule i t s _ _ (.int (g i),H,I.tok _,(_,rfl),q)
def ziz:UnR X (unaryOp .USub) (rU λi=>.int (-i)):=unI λ_ _ _ _ _ q=>neg_int q
end
def scal:V->V->Bool
 | .non,.non=>true | .non,.int _=>true | .int _,.non=>true | .non,.bl _=>true | .bl _,.non=>true | .non,.str _=>true | .str _,.non=>true
 | .int _,.int _=>true | .bl _,.bl _=>true | .str _,.str _=>true | .byt _,.byt _=>true
 | .int _,.str _=>true | .str _,.int _=>true | .bl _,.str _=>true | .str _,.bl _=>true
 | _,_=>false
def rEq:R2:=λx y H Q=>scal x y=true/\Q (.bl (decide (x=y))) H
def rNe:R2:=λx y H Q=>scal x y=true/\Q (.bl (!decide (x=y))) H
def zdN:decide (V.int i=V.int j) =(i == j):=by
 rw[uO];simp
def zfH:decide (V.bl i=V.bl j) =(i == j):=by
 rw[uO];simp
def zd4:decide (V.str i=V.str j) =(i == j):=by
 rw[uO];simp
def zcy:decide (V.byt i=V.byt j) =(i.toList == j.toList):=by
 rw[uO];cases i;cases j;simp
section
def zU{E:St}(I:Inv X pins E H s)(q:Q (.bl k) H)(e:k=k'):EP X pins E Q (.bool k') s:=by
 subst e;exact(.bl k,H,I,V,q)
def yF:OpR X (cV .Eq) rEq:=by
 intro pins s E H x y v u Q I rx ry h;obtain⟨hs,q⟩:=h;cases x with
 | non =>
  cases rx;cases y with
  | non=>cases ry;exact PySem.EqNone.eq_none_none (zU I q (by simp))
  | bl j=>cases ry;exact PySem.EqNone.eq_none_bool (zU I q (by simp))
  | int j=>obtain⟨t',rfl⟩:=ry;exact PySem.EqNone.eq_none_int (zU I q (by simp))
  | str j=>obtain⟨t',rfl⟩:=ry;exact PySem.EqNone.eq_none_str (zU I q (by simp))
  | _=>exact bK (show false=true from hs) wZ
 | bl i =>
  cases rx;cases y with
  | non=>cases ry;exact PySem.EqNone.eq_bool_none (zU I q (by simp))
  | bl j=>cases ry;exact eq_bool (zU I q zfH)
  | str j=>obtain⟨t',rfl⟩:=ry;exact PySem.EqMixed.eq_bool_str (zU I q (by simp))
  | _=>exact bK (show false=true from hs) wZ
 | int i =>
  obtain⟨t,rfl⟩:=rx;cases y with
  | non=>cases ry;exact PySem.EqNone.eq_int_none (zU I q (by simp))
  | int j=>obtain⟨t',rfl⟩:=ry;exact eq_int (zU I q zdN)
  | str j=>obtain⟨t',rfl⟩:=ry;exact PySem.EqMixed.eq_int_str (zU I q (by simp))
  | _=>exact bK (show false=true from hs) wZ
 | str i =>
  obtain⟨t,rfl⟩:=rx;cases y with
  | non=>cases ry;exact PySem.EqNone.eq_str_none (zU I q (by simp))
  | bl j=>cases ry;exact PySem.EqMixed.eq_str_bool (zU I q (by simp))
  | int j=>obtain⟨t',rfl⟩:=ry;exact PySem.EqMixed.eq_str_int (zU I q (by simp))
  | str j=>obtain⟨t',rfl⟩:=ry;exact eq_str (zU I q zd4)
  | _=>exact bK (show false=true from hs) wZ
 | byt i =>
  obtain⟨t,rfl⟩:=rx;cases y with
  | byt j=>obtain⟨t',rfl⟩:=ry;exact PySem.W.eq_bytes (zU I q zcy)
  | _=>exact bK (show false=true from hs) wZ
 | _=>cases y <;> exact bK (show false=true from hs) wZ
def JM:OpR X (cV .NotEq) rNe:=by
 intro pins s E H x y v u Q I rx ry h;obtain⟨hs,q⟩:=h;cases x with
 | non =>
  cases rx;cases y with
  | non=>cases ry;exact PySem.EqNone.ne_none_none (zU I q (by simp))
  | bl j=>cases ry;exact PySem.EqNone.ne_none_bool (zU I q (by simp))
  | int j=>obtain⟨t',rfl⟩:=ry;exact PySem.EqNone.ne_none_int (zU I q (by simp))
  | str j=>obtain⟨t',rfl⟩:=ry;exact PySem.EqNone.ne_none_str (zU I q (by simp))
  | _=>exact bK (show false=true from hs) wZ
 | bl i =>
  cases rx;cases y with
  | non=>cases ry;exact PySem.EqNone.ne_bool_none (zU I q (by simp))
  | bl j=>cases ry;exact ne_bool (zU I q (congrArg not zfH))
  | str j=>obtain⟨t',rfl⟩:=ry;exact PySem.EqMixed.ne_bool_str (zU I q (by simp))
  | _=>exact bK (show false=true from hs) wZ
 | int i =>
  obtain⟨t,rfl⟩:=rx;cases y with
  | non=>cases ry;exact PySem.EqNone.ne_int_none (zU I q (by simp))
  | int j=>obtain⟨t',rfl⟩:=ry;exact ne_int (zU I q (congrArg not zdN))
  | str j=>obtain⟨t',rfl⟩:=ry;exact PySem.EqMixed.ne_int_str (zU I q (by simp))
  | _=>exact bK (show false=true from hs) wZ
 | str i =>
  obtain⟨t,rfl⟩:=rx;cases y with
  | non=>cases ry;exact PySem.EqNone.ne_str_none (zU I q (by simp))
  | bl j=>cases ry;exact PySem.EqMixed.ne_str_bool (zU I q (by simp))
  | int j=>obtain⟨t',rfl⟩:=ry;exact PySem.EqMixed.ne_str_int (zU I q (by simp))
  | str j=>obtain⟨t',rfl⟩:=ry;exact ne_str (zU I q (congrArg not zd4))
  | _=>exact bK (show false=true from hs) wZ
 | byt i =>
  obtain⟨t,rfl⟩:=rx;cases y with
  | byt j=>obtain⟨t',rfl⟩:=ry;exact PySem.W.ne_bytes (zU I q (congrArg not zcy))
  | _=>exact bK (show false=true from hs) wZ
 | _=>cases y <;> exact bK (show false=true from hs) wZ
def zjh:OpR X (cV .Lt) (rI0 λi j=>.bl (decide (i<j))):=opB0 λ_ _ _ _ _ _ _ q=>lt_int q
def zjk:OpR X (cV .Gt) (rI0 λi j=>.bl (decide (j<i))):=opB0 λ_ _ _ _ _ _ _ q=>gt_int q
def zjg:OpR X (cV .GtE) (rI0 λi j=>.bl (decide (j<=i))):=opB0 λ_ _ _ _ _ _ _ q=>ge_int q
def zit:OpR X (cV .Is) (λx y H Q=>y=.non/\Q (.bl (decide (x=.non))) H):=by
 intro pins s E H x y v u Q I rx ry h;obtain⟨rfl,q⟩:=h;cases ry;refine is_none_gen (zU I q ?_);cases x <;> first
  | (cases rx;rfl)
  | (obtain⟨t,rfl⟩:=rx;rfl)
def zgX:OpR X (cV .IsNot) (λx y H Q=>y=.non/\Q (.bl (!decide (x=.non))) H):=by
 intro pins s E H x y v u Q I rx ry h;obtain⟨rfl,q⟩:=h;cases ry;refine isnot_none_gen (zU I q ?_);cases x <;> first
  | (cases rx;rfl)
  | (obtain⟨t,rfl⟩:=rx;rfl)
def nomark b (h:op≠.In:=by decide) (h2:op≠.NotIn:=by decide):behindInMarks op b=false:=by
 have e1:(op == CmpOp.In)=false:=by cases op <;> first|rfl|exact bK rfl h
 have e2:(op == CmpOp.NotIn)=false:=by cases op <;> first|rfl|exact bK rfl h2
 cases b <;> simp[behindInMarks,e1,e2]
def zg4{op:CmpOp}{r:R2}(ho:OpR X (cV op) r)(ha:PE X a ta)(hb:PE X b tb)(hm:behindInMarks op b=false):PE X (.Compare a [op] [b] pos) (tOp r ta tb):=by
 intro pins s E H Q I h;exact wpAny_Compare1 (binT ha hb I h λv u s2 x y H2 I2 rx ry q=>ho pins s2 E H2 x y v u Q I2 rx ry q) hm
inductive zd8(x:V)(H':Hp)(Q:Bool->Hp->Prop):Prop where
 | mk (k:Bool) (h0_:x=.bl k) (h1_:Q k H'):zd8 x H' Q
def tTest(t:TE):TT:=λE H Q=>t E H λx H'=>zd8 x H' Q
def zhx(ho:OpR X (cV op) r)(ha:PE X a ta)(hb:PE X b tb)(hm:behindInMarks op b=false):PT X (.Compare a [op] [b] pos) (tTest (tOp r ta tb)):=by
 intro pins s E H Q I h;refine wpAny_isTrue_Compare1 (thn (ha pins s E H _ I h) λv s1 ⟨x,H1,I1,r1,q1⟩=>thn (hb pins s1 E H1 _ I1 q1) λu s2 ⟨y,H2,I2,r2,q2⟩ =>
  thn (ho pins s2 E H2 x y v u _ I2 r1 r2 q2) λc s3 ⟨z,H3,I3,r3,k,e,q3⟩=>?_) hm
 subst e;cases r3;exact cw (H3,I3,q3)
def line63:(sizeLine:Nat)<2^63:=by rw[sizeLine_eq];decide
def vals1(r:Vals [x] us):∃ u,us=[u]/\RelV x u:=by
 cases r with
 | cons r1 r2=>cases r2;exact(Q,r1)
def zeH:kaB X (.builtin "abs") (λxs H Q=>∃ i,xs=[.int i]/\Q (.int (if i<0 then -i else i)) H):=by
 intro pins s E H xs us Q I r h;obtain⟨i,rfl,q⟩:=h;obtain⟨u,rfl,t,rfl⟩:=vals1 r;exact call_abs_int λu tk=>(.int (if i<0 then -i else i),H,I.tok _,(_,rfl),q)
def zed:kaB X (.type "int") (λxs H Q=>(∃ i,xs=[.int i]/\Q (.int i) H)\/∃ k,xs=[.bl k]/\Q (.int (if k then 1 else 0)) H):=by
 intro pins s E H xs us Q I r h
 rcases h with⟨i,rfl,q⟩|⟨k,rfl,q⟩
 ·obtain⟨u,rfl,t,rfl⟩:=vals1 r;exact call_int_int (.int i,H,I,(_,rfl),q)
 ·obtain⟨u,rfl,r1⟩:=vals1 r;cases r1;exact call_int_bool (.int (if k then 1 else 0),H,I.tok _,(_,rfl),q)
end
structure Room(k:Nat)(A:cj):Prop where
 hd:A.handled=none
 dp:A.depth+3*k+5<recursionLimit
 un:A.units+16*k+200<cLine
def Room.mono(r:Room k A)(h:j<=k):Room j A:=(r.hd,by have:=r.dp;omega,by have:=r.un;omega)
def Room.deeper(r:Room (k+1) A) env:Room k (A.deeper env) :=
 (r.hd,by have:=r.dp;show A.depth+1+3*k+5<_;omega,by have:=r.un;show A.units+3+16*k+200<_;omega)
def Room.depth(r:Room k A):A.depth<recursionLimit:=by have:=r.dp;omega
def Room.units(r:Room k A):A.units+64<cLine:=by have:=r.un;omega
def tNil:TA:=λ_ H Q=>Q [] H
def tCons(ta:TE)(tr:TA):TA:=λE H Q=>ta E H λx H1=>tr E H1 λxs H2=>Q (x::xs) H2
section
def zfI:PA X [] tNil:=λ_ _ _ _ H Q I h=>Calls.spliced_nil ([],H,I,.nil,h)
def zdr(ha:PE X e te)(L:PA X es t)(hs:cu (e::es) X.env =(false,eval e X.env)::cu es X.env:=by rfl):PA X (e::es) (tCons te t):=by
 intro pos pins s E H Q I h;rw[hs];refine Calls.spliced_cons (thn (ha pins s E H _ I h) λu s1 ⟨x,H1,I1,r1,q1⟩=>?_);exact thn (L pos pins s1 E H1 _ I1 q1) λus s2 ⟨xs,H2,I2,r2,q2⟩=>(x::xs,H2,I2,.cons r1 r2,q2)
def tTup(t:TA):TE:=λE H Q=>t E H λxs H1=>xs.length<=sizeLine/\∀ p,H1 p=none->Q (.ref p) (upd H1 p (.tup xs))
def tLst(t:TA):TE:=λE H Q=>t E H λxs H1=>xs.length<=sizeLine/\∀ p,H1 p=none->Q (.ref p) (upd H1 p (.lst xs))
def zix{x1}(h:PA X es t):PE X (.Tuple es x1 pos) (tTup t):=by
 intro pins s E H Q I hq;refine wpAny_Tuple_spliced (thn (h pos pins s E H _ I hq) λus s1 ⟨xs,H1,I1,r,z,q⟩=>(by rw[← r.length];exact z,?_));have hf:= I1.hok.fresh (ww _);refine(.ref s1.heap.objs.size,upd H1 s1.heap.objs.size (.tup xs),I1.laid (t':=s1.toks) (λb u e=>Heap.get?_push_of_some _ e) (ww _) ?_,V,q _ hf);exact(z,us,r,(_,Heap.get?_push_size _ rfl,V,Q))
def ziR(h:PA X es t):PE X (.List es pos) (tLst t):=by
 intro pins s E H Q I hq;refine wpAny_List_spliced (thn (h pos pins s E H _ I hq) λus s1 ⟨xs,H1,I1,r,z,q⟩=>(by rw[← r.length];exact z,?_));have hf:= I1.hok.fresh (ww _);refine(.ref s1.heap.objs.size,upd H1 s1.heap.objs.size (.lst xs),I1.laid (t':=s1.toks) (λb u e=>Heap.get?_push_of_some _ e) (ww _) ?_,V,q _ hf);exact(z,us,0,r,Heap.get?_push_size _ rfl)
end
abbrev Sp:=List V->Hp->VK->XK->Prop
abbrev CXT:=List Env->Hp->Shared->XK->ca->Shared->Prop
structure Env0(P:cf)(w:ce)(K:bv)(mg:Str->Option ca)(base:Heap)(A:cj)(outer:List Env)(s:Shared)(H:Hp):Prop where
 frames:A.frames=some outer
 mod:Mod K mg base
 bs:∀ b o,base.get? b=some o->s.heap.get? b=some o/\H b=none
 bsz:base.objs.size<=s.heap.objs.size
 funs:s.heap.FunFrames base outer
 frf:∀ b∈frs outer,H b=none
 hok:HOk P w H s.heap
 bare:AllBare s.gens
def CE(outer:List Env)(P:cf)(w:ce)(H:Hp)(s:Shared)(Q:VK)(u:ca)(s':Shared):Prop :=
 ∃ v H',s'.os=s.os/\AllBare s'.gens/\Un (frs outer) [] H H' s.heap s'.heap/\HOk P w H' s'.heap/\RelV v u/\Q v H'
def CR(CX:CXT)(outer:List Env)(P:cf)(w:ce)(H:Hp)(s:Shared)(Q:VK)(bP:XK)(r:Result)(s':Shared):Prop :=
 match r with
 | .ok (.ret u)=>CE outer P w H s Q u s'
 | .ok _=>False
 | .error e=>CX outer H s bP e s'
structure FnOk(P:cf)(w:ce)(K:bv)(mg:Str->Option ca)(base:Heap)(CX:CXT)(k:Nat)(f:Addr)(fd:cY)(ps:List Str)(sp:Sp):Prop where
 len:∀ vs H Q bP,sp vs H Q bP->vs.length=ps.length
 run:∀(A:cj)(outer:List Env)(s:Shared)(H:Hp)(args:Args)(us:List ca)(vs:List V)(Q:VK)(bP:XK),Room k A->Env0 P w K mg base A outer s H->BindsTo s fd args (ps.zip us)->Vals vs us->sp vs H Q bP ->
  codeAny (cq P w) A (.call (.ref f) args) (CR CX outer P w H s Q bP) s
def FnOk.imp{P:cf}{w:ce}{K:bv}{mg:Str->Option ca}{base:Heap}{CX:CXT}{k:Nat}{f:Addr}{fd:cY}{ps:List Str}{sp sp':Sp}(F:FnOk P w K mg base CX k f fd ps sp)
  (h:∀ vs H Q bP,sp' vs H Q bP->sp vs H Q bP):FnOk P w K mg base CX k f fd ps sp' :=
 (λvs H Q bP q=>F.len vs H Q bP (h _ _ _ _ q),λA outer s H args us vs Q bP L he hb hv hs=>F.run A outer s H args us vs Q bP L he hb hv (h _ _ _ _ hs))
section
variable{E:St}
def Inv.env0(I:Inv X pins E H s):Env0 X.prog X.w X.K X.mg X.base X.A X.stack s H :=
 (I.ok.frames,I.ok.mod,I.bs,wE I.ok.bsz I.sz,I.stack,I.stkFree,I.hok,I.bare)
def Inv.after{Q:VK}{u:ca}(I:Inv X pins E H s)(h:CE X.stack X.prog X.w H s Q u s'):EP X pins E Q u s':=by
 obtain⟨v,H',os,bare,un,hok,r,q⟩:=h;obtain⟨hh,g,d,t,os'⟩:=s';obtain rfl:os'=s.os:=os;exact(v,H',I.call (h':=hh) (g':=g) (d':=d) (t':=t) un hok bare (λb z=>bK z (by simp)),r,q)
end
def tCall(sp:Sp)(dvs:List V)(bP:XK)(t:TA):TE:=λE H Q=>t E H λvs H1=>sp (vs++dvs) H1 Q bP
def Binds(K:bv)(fd:cY)(ps:List Str)(ds:List ca):Prop :=
 ∀(s:Shared)(us:List ca),K.In s.heap->(us++ds).length=ps.length->BindsTo s fd (us,[]) (ps.zip (us++ds))
def Binds.all{K:bv}{fd:cY}{ps:List Str}(h:∀ us:List ca,us.length=ps.length->cZ fd (us,[])=pure (ps.zip us)):Binds K fd ps []:=λs us _ hl=>by
 rw[vW]at hl ⊢;exact .of_eq (h us hl)
def Passes(CX:CXT)(X:Cx)(bP:XK):Prop:=∀(pins:List (Addr×Obj))(E:St)(H:Hp)(s:Shared)(e:ca)(s':Shared),Inv X pins E H s->CX X.stack H s bP e s'->X.xe e s'
section
variable{p pos apos:Pos}
def zir{pins:List (Addr×Obj)}{E:St}{H:Hp}{s:Shared}{Q:VK}{us:List ca}{vs:List V}(F:FnOk X.prog X.w X.K X.mg X.base CX k f fd ps sp)(L:Room k X.A)(hb:Binds X.K fd ps ds)(hd:Vals dvs ds)(J:Passes CX X bP)
  (I:Inv X pins E H s) (r:Vals vs us) (h:sp (vs++dvs) H Q bP):cm (cq X.prog X.w) X.A (call (.ref f) us) (EP X pins E Q) X.xe s:=by
 have r2:= r.append hd;have hl:(us++ds).length=ps.length:=by rw[← r2.length];exact F.len _ _ _ _ h
 refine wpAny_call (codeAny_mono (F.run X.A X.stack s H (us,[]) (us++ds) (vs++dvs) Q bP L I.env0 (hb s us I.kIn hl) r2 h) λr s' hq=>?_);cases r with
 | error e=>exact J pins E H s e s' I hq
 | ok fl =>
  cases fl with
  | ret u=>exact I.after hq
  | next=>exact False.elim hq
  | brk=>exact False.elim hq
  | cont=>exact False.elim hq
def zgk(F:FnOk X.prog X.w X.K X.mg X.base CX k f fd ps sp)(L:Room k X.A)(hg:Gl X x)(hm:X.mg x=some (.ref f))(Z:PySem.W.keepIn X.K (.ref f)=true)(hb:Binds X.K fd ps ds)(hd:Vals dvs ds)(J:Passes CX X bP)
  (ha:PA X (e::es) t) (hdb:(x ==("__debug__" : Str))=false:=by decide) (he:cu (e::es) X.env =(false,eval e X.env)::cu es X.env:=by rfl) (hpl:(cr pos (cu es X.env)).any (·.1)=false:=by rfl) :
  PE X (.Call (.Name x p) (e::es) [] pos) (tCall sp dvs bP t):=by
 intro pins s E H Q I h;refine bd (zdC I hg hm ?_ hdb);refine PySem.W.callWith_K I.ok.mod.kin Z (thn (ha pos pins s E H _ I h) λus s1 ⟨vs,H1,I1,r,q⟩=>(I1.kIn,?_)) he hpl;exact zir F L hb hd J I1 r q
end
structure kay(N P:List Str)(sc:Scope):Prop where
 kind:sc.kind=.function
 co:sc.isCoroutine=false
 gen:sc.isGenerator=false
 nd:N.Nodup
 pre:N.take P.length=P
 par:∀ x∈P,sc.names.lookup x=some .local\/sc.names.lookup x=some .cell
 nofree:∀ y∈sc.names,y.2≠.free
def Jj{kindOf:Str->Option bf}:∀ {binds:List (Str×ca)} {m:Str->Option ca},(∀ v,(x,v)∉binds)->bindL kindOf binds m x=m x
 | [],_,_=>rfl
 | (n,v)::r,m,h=>by
  unfold bindL;rw[Jj λw hw=>h w (wt _ hw)]
  split
  ·have:x≠n:=by rintro rfl;exact h v wo
   simp[this]
  ·rfl
def JQ{kindOf:Str->Option bf}:∀ {binds:List (Str×ca)} {m:Str->Option ca},(∀ v,(x,v)∉binds)->bindC kindOf binds m x=m x
 | [],_,_=>rfl
 | (n,v)::r,m,h=>by
  unfold bindC;rw[JQ λw hw=>h w (wt _ hw)]
  split
  ·rfl
  ·have:x≠n:=by rintro rfl;exact h v wo
   simp[this]
def JO{kindOf:Str->Option bf}:∀ {P:List Str} {vs:List ca} {i:Nat} {m:Str->Option ca},P.Nodup->P[i]?=some x->vs[i]?=some v->kindOf x=some .local ->
  bindL kindOf (P.zip vs) m x=some v
 | [],_,_,_,_,h,_,_=>by simp at h
 | _::_,[],_,_,_,_,h,_=>by simp at h
 | p::P,w::vs,0,m,nd,h1,h2,Z=>by
  simp at h1 h2;subst h1;subst h2;show bindL kindOf ((p,w)::P.zip vs) m p=_;unfold bindL;rw[Jj λv hv=>(Gd.mp nd).1 (vt hv).1,bw Z];simp
 | p::P,w::vs,i+1,m,nd,h1,h2,Z=>by
  unfold bindL;exact JO (Gd.mp nd).2 (by simpa using h1) (by simpa using h2) Z
def Jz{kindOf:Str->Option bf}:∀ {P:List Str} {vs:List ca} {i:Nat} {m:Str->Option ca},P.Nodup->P[i]?=some x->vs[i]?=some v->kindOf x≠some .local ->
  bindC kindOf (P.zip vs) m x=some v
 | [],_,_,_,_,h,_,_=>by simp at h
 | _::_,[],_,_,_,_,h,_=>by simp at h
 | p::P,w::vs,0,m,nd,h1,h2,Z=>by
  simp at h1 h2;subst h1;subst h2;show bindC kindOf ((p,w)::P.zip vs) m p=_;unfold bindC;rw[JQ λv hv=>(Gd.mp nd).1 (vt hv).1,bx Z];simp
 | p::P,w::vs,i+1,m,nd,h1,h2,Z=>by
  unfold bindC;exact Jz (Gd.mp nd).2 (by simpa using h1) (by simpa using h2) Z
def start(N:List Str)(vs:List V):St:=vs.map some++wL (N.length - vs.length) none
def cxOf(CX:CXT)(P:cf)(w:ce)(K:bv)(mg:Str->Option ca)(base:Heap)(N:List Str)(qual:Str)(scope:Scope)(f:Addr)(cd:ca)(A:cj)(outer:List Env)(s:Shared)(H:Hp)(bP:XK):Cx where
 prog:=P
 w:=w
 K:=K
 mg:=mg
 base:=base
 A:=A.deeper (envOfC qual scope s.heap.objs.size f cd)
 N:=N
 s₀:=s
 H₀:=H
 env:=envOfC qual scope s.heap.objs.size f cd
 outer:=outer
 stack:=envOfC qual scope s.heap.objs.size f cd::outer
 ex:=[]
 calm:=true
 fn:=λ_=>true
 pn:=[]
 xe:=λe s'=>cm (cq P w) (A.deeper (envOfC qual scope s.heap.objs.size f cd)) (leaving (envOfC qual scope s.heap.objs.size f cd) e) (λ_ s''=>CX outer H s bP e s'') (λe' s''=>CX outer H s bP e' s'') s'
def zaS{sc:Scope}(h:sc.names.lookup x=some .cell):∃ c,(bg n sc.names []).lookup x=some c:=by
 have q:=PySem.W.cellsFrom_some sc.names n [] (.inl h);exact Option.isSome_iff_exists.mp q
def zdh{K:bv}
  (S:kay N ps scope) (hd:A.handled=none) (e0:Env0 P w K mg base A outer s H) (hl:vs.length=ps.length) (r:Vals vs us)
  (x:InCallC s s.heap.objs.size (bindL (envOfC qual scope s.heap.objs.size f cd).kindOf (ps.zip us) λ_=>none) (bg (s.heap.objs.size+1) scope.names []) (bindC (envOfC qual scope s.heap.objs.size f cd).kindOf (ps.zip us) λ_=>none) s1) :
  Inv (cxOf CX P w K mg base N qual scope f cd A outer s H bP) [] (start N vs) H s1:=by
 have hpl:ps.length<=N.length:=by have:=congrArg uV S.pre;rw[wr]at this;omega
 obtain⟨h1,tk,rfl,Z⟩:=x.done;have noA:∀ b:Addr,b∉(cxOf CX P w K mg base N qual scope f cd A outer s H bP).ex:=λb z=>bK (show b∈([]:List Addr)from z) (by simp)
 refine((e0.mod,S.kind,V,V,ww _,λy z c h1 h2=>?_,λy hy=>?_,λy c _ h=>?_,λ_=>hd,Around.frames_deeper e0.frames,.inr (V,V),λb z=>bK z (noA b),e0.bs,e0.bsz,λb _ _=>noA b,λb z=>bK z (noA b),e0.funs,e0.frf),
  rfl,e0.bare,Un.kept Z,(_,x.toInCall.ns,λi y v h1 h2 h3=>?_),λy c h=>(_,x.cell y c h),e0.hok.fresh (ww _),λy c h=>?_,λp hp=>bK (show p∈([]:List (Addr×Obj))from hp) (by simp),e0.hok.kept Z,?_)
 ·exact name_of_addr x.apart (PySem.mem_of_lookup h1) (PySem.mem_of_lookup h2)
 ·have hy:= hy
  rcases hy with hy|hy
  ·exact zaS hy
  ·exact bK rfl (S.nofree _ (PySem.mem_of_lookup hy))
 ·exact vT (x.above y c (PySem.mem_of_lookup h))
 ·have hi:i<vs.length:=by
   unfold start at h2
   by_cases hi:i<vs.length
   ·exact hi
   ·rw[wW (by simpa using hi)]at h2;rw[vU]at h2
    split at h2 <;> cases h2
  have ha:vs[i]?=some v:=by
   unfold start at h2;rw[vk (by simpa using hi),wg]at h2;cases e:vs[i]? with
   | none=>rw[e]at h2;cases h2
   | some a=>rw[e]at h2;cases h2;rfl
  obtain⟨u,hu,rv⟩:=r.get ha;have hp:ps[i]?=some y:=by
   rw[← S.pre,Gf ()];exact h1
  have ndP:ps.Nodup:=by rw[← S.pre];exact S.nd.sublist (List.take_sublist _ _)
  refine(u,rv,?_)
  rcases S.par y (we hp)with k|k
  ·exact .inl (k,JO ndP hp hu k)
  ·obtain⟨c,e⟩:=zaS k;refine .inr (.inl k,c,e,?_);have q:=x.cell y c e;rw[Jz ndP hp hu (by show scope.names.lookup y≠_;rw[k];decide)]at q;exact q
 ·exact e0.hok.fresh (vT (x.above y c (PySem.mem_of_lookup h)))
 ·unfold start;show _=N.length;rw[wy,wa,wQ];omega
def zi0{CX:CXT}{P:cf}{w:ce}{K:bv}{mg:Str->Option ca}{base:Heap}{k:Nat}{f:Addr}{name qual:Str}{params:Arguments}{body:List Stmt}{scope:Scope}{dV kV doc pm cdv ct oc:ca}{an od:Option Addr}
  {osl:Array (Option ca)} {N ps:List Str} {sp:Sp} (lk:K.lookup f=some (oc,od,.func (PySem.W.fnOf name qual params body scope dV kV doc pm an cdv ct),osl)) (hcd:PySem.W.codeIn K cdv qual=true) (S:kay N ps scope)
  (len:∀ vs H Q bP,sp vs H Q bP->vs.length=ps.length)
  (hbody:∀(A:cj)(outer:List Env)(s:Shared)(H:Hp)(vs:List V)(Q:VK)(bP:XK),Room k (A.deeper (envOfC qual scope s.heap.objs.size f cdv))->sp vs H Q bP ->
   ∃ t,PSs (cxOf CX P w K mg base N qual scope f cdv A outer s H bP) body t/\t { nx:=λ_ H'=>Q .non H',rt:=Q } (start N vs) H) :
  FnOk P w K mg base CX (k+1) f (PySem.W.fnOf name qual params body scope dV kV doc pm an cdv ct) ps sp:=by
 refine(len,λA outer s H args us vs Q bP L e0 hb r hsp=>?_);have hl:=len _ _ _ _ hsp;have KX:= e0.mod.kin.keeps λb o e=>(e0.bs b o e).1
 have lim:= e0.mod.nolimit.keeps λb o e=>(e0.bs b o e).1
 have hkind:∀ y∈ps.zip us,scope.names.lookup y.1=some .local\/(scope.names.lookup y.1=some .cell/\((bg (s.heap.objs.size+1) scope.names []).lookup y.1).isSome=true):=λ⟨n,v⟩ hy=>by
  rcases S.par n (vt hy).1 with q|q
  ·exact .inl q
  ·exact .inr (q,PySem.W.cellsFrom_some _ _ _ (.inl q))
 refine codeAny_call_function L.depth (KX _ _ lk) rfl S.co S.gen rfl (PySem.W.codeRec_of KX hcd) (hb _ _ _ _ ?_);refine wpAny_newFunctionEnv_cells S.kind hkind λenv he s1 x=>?_
 subst he;refine(lim.keeps x.toInCall.keep,codeAny_func ?_);obtain⟨t,ht,hq⟩:=hbody A outer s H vs Q bP (L.deeper _) hsp;have I:Inv (cxOf CX P w K mg base N qual scope f cdv A outer s H bP) [] (start N vs) H s1:=zdh S L.hd e0 hl r x;refine cv (ht [] s1 (start N vs) H _ I hq) (λfl s' hs=>?_) λe s' hs=>hs
 have fin:∀ {σ':St} {H':Hp} {v:V} {u:ca},Inv (cxOf CX P w K mg base N qual scope f cdv A outer s H bP) [] σ' H' s'->RelV v u->Q v H'->CE outer P w H s Q u s' :=
  λ{σ' H' v u} bN rv q=>(v,H',bN.os,bN.bare,bN.base,bN.hok,rv,q)
 cases fl with
 | ret u =>
  obtain⟨v,σ',H',bN,rv,q⟩:=hs;exact fin bN rv q
 | next =>
  obtain⟨σ',H',bN,q⟩:=hs;exact fin (v:=V.non) bN rfl q
 | brk =>
  obtain⟨_,_,_,q⟩:=hs;exact False.elim q
 | cont =>
  obtain⟨_,_,_,q⟩:=hs;exact False.elim q
section
variable{p pos:Pos}{id T:String}
def tCB(r:List V->Hp->VK->Prop)(t:TA):TE:=λE H Q=>t E H λvs H1=>r vs H1 Q
def xl (hc:kaB X (.builtin id) r) (hg:Gl X x) (hm:X.mg x=none) (hv:ci x=some (.builtin id)) (ha:PA X (e::es) t) (hn:x ≠ "__name__" := by decide) (hdb:(x ==("__debug__" : Str))=false:=by decide)
  (he:cu (e::es) X.env =(false,eval e X.env)::cu es X.env:=by rfl) (hpl:(cr pos (cu es X.env)).any (·.1)=false:=by rfl):PE X (.Call (.Name x p) (e::es) [] pos) (tCB r t):=by
 intro pins s E H Q I h;refine bd (za0 I hg hm hv ?_ hn hdb);exact PyProof.Rows.callWith_builtin1 (thn (ha pos pins s E H _ I h) λus s1 ⟨vs,H1,I1,r1,q1⟩=>hc pins s1 E H1 vs us Q I1 r1 q1) he hpl
def ZW (hc:kaB X (.type T) r) (hg:Gl X x) (hm:X.mg x=none) (hv:ci x=some (.type T)) (ha:PA X (e::es) t) (hn:x ≠ "__name__" := by decide) (hdb:(x ==("__debug__" : Str))=false:=by decide)
  (he:cu (e::es) X.env =(false,eval e X.env)::cu es X.env:=by rfl) (hpl:(cr pos (cu es X.env)).any (·.1)=false:=by rfl):PE X (.Call (.Name x p) (e::es) [] pos) (tCB r t):=by
 intro pins s E H Q I h;refine bd (za0 I hg hm hv ?_ hn hdb);exact PyProof.Rows.callWith_type1 (thn (ha pos pins s E H _ I h) λus s1 ⟨vs,H1,I1,r1,q1⟩=>hc pins s1 E H1 vs us Q I1 r1 q1) he hpl
end
end L2
namespace HT
open PySem PyProof.Rows
section
def sIx(n d:Nat):Option Int->Nat
 | none=>d
 | some v=>if v<0 then(v +(n:Int)).toNat else min v.toNat n
def Zp n d:sIx n d none=d:=rfl
def jh(n d k:Nat):sIx n d (some (k:Int))=min k n:=by
 show(if (k:Int)<0 then((k:Int) +(n:Int)).toNat else min (k:Int).toNat n)=min k n;rw[bx (),vn]
def ziW n d (hd:d<=n) o:sIx n d o<=n:=by
 cases o with
 | none=>exact hd
 | some v =>
  show(if v<0 then(v +(n:Int)).toNat else min v.toNat n)<=n
  by_cases hv:v<0
  ·rw[bw hv];omega
  ·rw[bx hv];exact GZ _ _
def zc0 v (n d:Nat):(if v<0 then max (v +(n:Int)) 0 else min v (n:Int)) =((sIx n d (some v):Nat):Int):=by
 show(if v<0 then max (v +(n:Int)) 0 else min v (n:Int)) =(((if v<0 then(v +(n:Int)).toNat else min v.toNat n):Nat):Int)
 by_cases hv:v<0
 ·simp only[bw hv];omega
 ·simp only[bx hv];omega
def zbZ lo hi (n:Nat):Builtin.Slice.sliceAdjust lo hi 1 (n:Int) =(((sIx n 0 lo:Nat):Int),((sIx n n hi:Nat):Int)):=by
 have h1:¬((1:Int)<0):=by omega
 unfold Builtin.Slice.sliceAdjust;simp only[h1,if_false];refine Prod.ext ?_ ?_
 ·cases lo with
  | none=>rfl
  | some v=>exact zc0 v n 0
 ·cases hi with
  | none=>rfl
  | some v=>exact zc0 v n n
def zbP(i j:Nat):Builtin.Slice.slicePlaces (i:Int) (j:Int) 1=j - i:=by
 unfold Builtin.Slice.slicePlaces;have h1:(1:Int) > 0:=by omega
 simp only[h1,if_true,Int.ediv_one]
 split <;> omega
def YV(p:IsPart v o)(h:Q o s):cm (cq prog w) A (Builtin.Slice.slicePartIndex v) Q bP s:=by
 cases p with
 | none=>exact slicePart_none h
 | int i t=>exact slicePart_int h
def Zc{lo hi:Option Int}{Q:Int×Int×Nat->Shared->Prop}(hs:s.heap.IsSliceOf sl vl vu .none)(pl:IsPart vl lo)(pu:IsPart vu hi)
  (h:Q (((sIx n 0 lo:Nat):Int),1,sIx n n hi - sIx n 0 lo) s):cm (cq prog w) A (Builtin.Slice.sliceApplied (.ref sl) (pure (n:Int))) Q bP s:=by
 obtain⟨os,hos,hcs,hds⟩:=id hs;unfold Builtin.Slice.sliceApplied Builtin.Slice.sliceFields;refine cD (cD (wpAny_field hos hds (x:=vl) rfl (cD (wpAny_field hos hds (x:=vu) rfl (cD (wpAny_field hos hds (x:=.none) rfl (cG ?_)))))));refine cD (slicePart_none ?_);show cm _ _ (if ((1:Int) == 0)=true then _ else _) _ _ s;rw[bx ()];refine cD (YV pl (cD (YV pu (cD (cG ?_)))));show cm _ _ (match Builtin.Slice.sliceAdjust lo hi 1 (n:Int)with | (lo,hi)=>pure (Prod.mk lo (Prod.mk (1:Int) (Builtin.Slice.slicePlaces lo hi 1)))) _ _ s;rw[zbZ lo hi n];show cm _ _ (pure (Prod.mk ((sIx n 0 lo:Nat):Int) (Prod.mk (1:Int) (Builtin.Slice.slicePlaces ((sIx n 0 lo:Nat):Int) ((sIx n n hi:Nat):Int) 1)))) _ _ s;rw[zbP];exact cG h
def zfl(xs:Array ca)(i k:Nat):((wY k).filterMap λ(m:Nat)=>xs[((i:Int) +(m:Int)*1).toNat]?).toArray =((xs.toList.drop i).take k).toArray:=by
 have e:(λ(m:Nat)=>xs[((i:Int) +(m:Int)*1).toNat]?)=λm=>xs[i+m]?:=by
  funext m
  have:((i:Int) +(m:Int)*1).toNat=i+m:=by omega
  rw[this]
 rw[e];have:=pick_run xs i k;rw[List.filterMap_map]at this;have e2:((λx=>xs[x]?) ∘ λx=>i+x)=λm=>xs[i+m]?:=rfl
 rw[e2]at this;rw[this]
def qF{lo hi:Option Int}(ht:IsTup s.heap t items)(hs:s.heap.IsSliceOf sl vl vu .none)(pl:IsPart vl lo)(pu:IsPart vu hi)
  (hw:¬(sIx items.size 0 lo=0/\sIx items.size items.size hi=items.size))
  (h:Q (.ref s.heap.objs.size) { s with heap:=s.heap.push { cls:=.type "tuple",data:=.seq ((items.toList.drop (sIx items.size 0 lo)).take (sIx items.size items.size hi - sIx items.size 0 lo)).toArray } })
  (hsz:items.size<=sizeLine):cm (cq prog w) A (getItem (.ref t) (.ref sl)) Q bP s:=by
 have htake:sizeOk (.seq ((items.toList.drop (sIx items.size 0 lo)).take (sIx items.size items.size hi - sIx items.size 0 lo)).toArray):=by
  show((items.toList.drop (sIx items.size 0 lo)).take (sIx items.size items.size hi - sIx items.size 0 lo)).toArray.size<=sizeLine;rw[wV,wr,ue,Array.length_toList];omega
 have hj:sIx items.size items.size hi<=items.size:=ziW _ _ (ww _) hi;obtain⟨os,hos,hcs,hds⟩:=id hs;have hTs:s.TypeIs (.ref sl) "slice" :=(os,hos,hcs);unfold getItem
 try with_reducible refine cE ?_
 first|refine cD (cG ?_) | skip
 refine cD (wpAny_sequenceKey ht.typeIs () ?_);refine cD (wpAny_callSpecial?_slot (name:=Str.ofString "__getitem__") ht.typeIs PyProof.Rows.slot_tuple_getitem
  (wpAny_call_entry PyProof.Rows.slot_tuple_getitem ht.typeIs entry_tuple_getitem ?_ (args_tuple_getitem _ _)))
 show cm _ _ (Builtin.Tuple.tupleItemsOf (.ref t) >>= _) _ _ s;refine cD (tupleItemsOf_ ht ?_);refine cD (wpAny_typeOf hTs ?_);rw[bw ()];refine cD (Zc hs pl pu ?_);have hno:¬((((sIx items.size 0 lo:Nat):Int) == 0 && (1:Int) == 1 && (sIx items.size items.size hi - sIx items.size 0 lo) == items.size)=true):=by
  intro q;rw[uK,uK]at q;have q1:((sIx items.size 0 lo:Nat):Int)=0:=eq_of_beq q.1.1;have q2:sIx items.size items.size hi - sIx items.size 0 lo=items.size:=eq_of_beq q.2;exact hw ((),())
 show cm _ _ (if (((sIx items.size 0 lo:Nat):Int) == 0 && (1:Int) == 1 && (sIx items.size items.size hi - sIx items.size 0 lo) == items.size)=true then _ else _) _ _ s;rw[bx hno,zfl]
 first
  | exact cD (m:=Builtin.Tuple.tupleExact _) (wpAny_newObj_type (cG (Q,cG h)) htake)
  | exact cD (m:=Builtin.Tuple.tupleExact _) (wpAny_newObj_type (cD (cG (cG (Q,cG h)))) htake)
  | exact cD (cD (m:=Builtin.Tuple.tupleExact _) (wpAny_newObj_type (cG (cG (Q,cG h))) htake))
  | exact cD (cD (m:=Builtin.Tuple.tupleExact _) (wpAny_newObj_type (cG (Q,cG h)) htake))
end
end HT
namespace L2
open PySem PySem.Spec PyProof.Rows
abbrev TO:=St->Hp->(Option Int->Hp->Prop)->Prop
def PO(X:Cx)(e:Option Expr)(t:TO):Prop :=
 ∀(pins:List (Addr×Obj))(s:Shared)(E:St)(H:Hp)(Q:Option Int->Hp->Prop),Inv X pins E H s->t E H Q ->
  cm (cq X.prog X.w) X.A (evalPart e X.env) (λu s'=>∃ o H',Inv X pins E H' s'/\IsPart u o/\Q o H') X.xe s
def tNoPart:TO:=λ_ H Q=>Q none H
def tPart(t:TE):TO:=λE H Q=>t E H λx H1=>∃ i,x=.int i/\Q (some i) H1
section
variable{lo hi:Option Expr}
def zgl:PO X none tNoPart:=by
 intro pins s E H Q I h;rw[evalPart_none];exact cG (none,H,I,.none,h)
def zht(h:PE X e te):PO X (some e) (tPart te):=by
 intro pins s E H Q I hw;rw[evalPart_some];refine thn (h pins s E H _ I hw) λu s1 ⟨x,H1,I1,r1,q1⟩=>?_
 obtain⟨i,rfl,q⟩:=q1;obtain⟨t,rfl⟩:=r1;exact(some i,H1,I1,.int i t,q)
def SlR(X:Cx)(r:V->Option Int->Option Int->Hp->VK->Prop):Prop :=
 ∀(pins:List (Addr×Obj))(s:Shared)(E:St)(H:Hp)(x:V)(v vl vu:ca)(lo hi:Option Int)(sl:Addr)(Q:VK),Inv X pins E H s->RelV x v->s.heap.IsSliceOf sl vl vu .none->IsPart vl lo->IsPart vu hi->r x lo hi H Q ->
  ∃ T id,typeLookup (.type T) "__getitem__" = pure (some (.builtin id))/\s.TypeIs v T/\cm (cq X.prog X.w) X.A (getItem v (.ref sl)) (EP X pins E Q) X.xe s
def tSl(r:V->Option Int->Option Int->Hp->VK->Prop)(te:TE)(tl th:TO):TE:=λE H Q=>te E H λx H1=>tl E H1 λl H2=>th E H2 λu H3=>r x l u H3 Q
def zeB{r:V->Option Int->Option Int->Hp->VK->Prop}(L:SlR X r)(he:PE X e te)(hl:PO X lo tl)(hu:PO X hi th):PE X (.Subscript e (.Slice lo hi none p2) pos) (tSl r te tl th):=by
 intro pins s E H Q I h;refine Subscript_ (thn (he pins s E H _ I h) λv s1 ⟨x,H1,I1,r1,q1⟩=>?_);refine wpAny_Slice (thn (hl pins s1 E H1 _ I1 q1) λvl s2 ⟨l,H2,I2,pl,q2⟩=>thn (hu pins s2 E H2 _ I2 q2) λvu s3 ⟨u,H3,I3,pu,q3⟩=>?_);rw[evalPart_none];refine cG ?_;have I4:Inv X pins E H3 { s3 with heap:=s3.heap.push { cls:=.type "slice",data:=.fields #[vl,vu,.none] } }:=I3.kept (t':=s3.toks) λb ob q=>Heap.get?_push_of_some _ q
 obtain⟨T,id,hT,ht,hg⟩:=L pins { s3 with heap:=s3.heap.push { cls:=.type "slice",data:=.fields #[vl,vu,.none] } } E H3 x v vl vu l u s3.heap.objs.size Q I4 r1 (Heap.IsSliceOf.new ..) pl pu q3;exact tail_any ht hT hg (by with_unfolding_all rfl)
def cutV(xs:List V)(lo hi:Option Int):List V:=(xs.drop (HT.sIx xs.length 0 lo)).take (HT.sIx xs.length xs.length hi - HT.sIx xs.length 0 lo)
def Ye xs lo hi:(cutV xs lo hi).length<=xs.length:=by
 unfold cutV;rw[wr,ue];omega
def rSlT(K:bv):V->Option Int->Option Int->Hp->VK->Prop:=λx lo hi H Q=>∃ a xs,x=.ref a/\SqT K H a xs /\
 ¬(HT.sIx xs.length 0 lo=0/\HT.sIx xs.length xs.length hi=xs.length)/\∀ p,H p=none->Q (.ref p) (upd H p (.tup (cutV xs lo hi)))
def ziN:SlR X (rSlT X.K):=by
 intro pins s E H x v vl vu lo hi sl Q I rx hs pl pu h;obtain⟨a,xs,rfl,J,hw,q⟩:=h;cases rx;obtain⟨its,r,ht,hz⟩:=I.tuple J;have hlen:its.toArray.size=xs.length:=by rw[wV];exact r.length.symm
 refine("tuple",_,PyProof.Rows.slot_tuple_getitem.lookup,ht.typeIs,?_);refine HT.qF ht hs pl pu (by rw[hlen];exact hw) ?_ (by rw[hlen];exact hz);rw[hlen];refine(.ref s.heap.objs.size,_,I.laid (t':=s.toks) (o:=.tup (cutV xs lo hi)) (λb ob q=>Heap.get?_push_of_some _ q) (ww _) ?_,V,q _ (I.hok.fresh (ww _)));exact(wE (Ye xs lo hi) hz,_,(r.drop (HT.sIx xs.length 0 lo)).take (HT.sIx xs.length xs.length hi - HT.sIx xs.length 0 lo),IsTup.new _ _)
end
def ixN(n:Nat)(i:Int):Option Nat:=if 0<=i then(if i<n then some i.toNat else none)else if -(n:Int)<=i then some (i+n).toNat else none
def atI{α:Type}(xs:List α)(i:Int):Option α:=(ixN xs.length i).bind λj=>xs[j]?
def zdO(h:ixN n i=some j):seqIndex? i n=some j/\j<n/\-(n:Int)<=i/\i<n:=by
 unfold ixN at h
 by_cases h0:0<=i
 ·rw[bw h0]at h
  by_cases h1:i<n
  ·rw[bw h1]at h;have e:= Option.some.inj h;exact(by rw[seqIndex_of h0 h1,e],(),(),h1)
  ·rw[bx h1]at h;cases h
 ·rw[bx h0]at h
  by_cases h1 : -n<=i
  ·rw[bw h1]at h;have e:= Option.some.inj h;exact(by rw[seqIndex_neg () h1,e],(),h1,())
  ·rw[bx h1]at h;cases h
def zcf(h:atI xs i=some v):∃ j,seqIndex? i xs.length=some j/\xs[j]?=some v/\j<xs.length/\-(xs.length:Int)<=i/\i<xs.length:=by
 unfold atI at h;cases e:ixN xs.length i with
 | none=>rw[e]at h;cases h
 | some j =>
  rw[e]at h;obtain⟨h1,h2,h3,h4⟩:=zdO e;exact(j,h1,h,h2,h3,h4)
def zt{j:Nat}(h:xs[j]?=some v):atI xs (j:Int)=some v:=by
 have hj:j<xs.length:=(wu.mp h).1;have e:ixN xs.length (j:Int)=some j:=by
  unfold ixN;rw[bw (),bw ()];simp
 unfold atI;rw[e];exact h
def zff xs (v:α):atI (xs++[v]) (-1)=some v:=by
 have hl:(xs++[v]).length=xs.length+1:=by simp
 have e:ixN (xs++[v]).length (-1)=some xs.length:=by
  unfold ixN;rw[hl,bx (),bw ()]
  congr 1
  omega
 unfold atI;rw[e];show(xs++[v])[xs.length]?=some v;simp
def PlainIx(b:Expr):Prop:=∀ o i,subscripted b false o i=operate [o,i] (getItem o i)
def IxR(X:Cx)(r:R2):Prop :=
 ∀(value slice:Expr)(pins:List (Addr×Obj))(s:Shared)(E:St)(H:Hp)(x y:V)(v u:ca)(Q:VK),Inv X pins E H s->RelV x v->RelV y u->r x y H Q ->
  subscripted slice false v u=operate [v,u] (getItem v u)->cm (cq X.prog X.w) X.A (subscriptTail value slice v u) (EP X pins E Q) X.xe s
def MtR(X:Cx)(id:String)(r:V->List V->Hp->VK->Prop):Prop :=
 ∀(pins:List (Addr×Obj))(s:Shared)(E:St)(H:Hp)(x:V)(xs:List V)(v:ca)(us:List ca)(Q:VK),Inv X pins E H s->RelV x v->Vals xs us->r x xs H Q ->
  cm (cq X.prog X.w) X.A (call (.builtin id) (v::us)) (EP X pins E Q) X.xe s
section
def zju{r:R2}(L:IxR X r)(ha:PE X a ta)(hb:PE X b tb)(hs:PlainIx b):PE X (.Subscript a b pos) (tOp r ta tb):=by
 intro pins s E H Q I h;exact Subscript_ (binT ha hb I h λv u s2 x y H2 I2 rx ry q=>L a b pins s2 E H2 x y v u Q I2 rx ry q (hs _ _))
inductive zfJ(K:bv)(x y:V)(H:Hp)(Q:VK):Prop where
 | mk (p:Addr) (xs:List V) (i:Int) (v:V) (h0_:x=.ref p) (h1_:y=.int i) (h2_:SqL K H p xs) (h3_:atI xs i=some v) (h4_:Q v H):zfJ K x y H Q
def rIxL(K:bv):R2:=λx y H Q=>zfJ K x y H Q
inductive zf5(K:bv)(x y:V)(H:Hp)(Q:VK):Prop where
 | mk (p:Addr) (xs:List V) (i:Int) (v:V) (h0_:x=.ref p) (h1_:y=.int i) (h2_:SqT K H p xs) (h3_:atI xs i=some v) (h4_:Q v H):zf5 K x y H Q
def rIxT(K:bv):R2:=λx y H Q=>zf5 K x y H Q
def zg3:IxR X (rIxL X.K):=by
 intro value slice pins s E H x y v u Q I rx ry h hs;obtain⟨p,xs,i,z,rfl,rfl,hq,he,q⟩:=h;cases rx;obtain⟨t,rfl⟩:=ry;obtain⟨its,r,pl,hz⟩:=I.list hq;obtain⟨j,h1,h2,h3,h4,h5⟩:=zcf he;obtain⟨w,ew,rw'⟩:=r.get h2;have hl:=r.length;have hn:=line63;have fin:EP X pins E Q w s:=(z,H,I,rw',q)
 by_cases h0:0<=i
 ·have hj:i.toNat=j:=by
   rw[seqIndex_of h0 h5]at h1;exact Option.some.inj h1
  exact item_listR pl.isList h0 () (by rw[hj];simpa using ew) fin hs
 ·have hj:(i+its.toArray.size).toNat=j:=by
   rw[seqIndex_neg () h4]at h1;rw[wV,← hl];exact Option.some.inj h1
  exact subscriptTail_builtinR pl.isList.typeIs slot_list_getitem.lookup
   (wpAny_getItem_list_neg pl.isList () (by rw[wV] <;> omega) () (by rw[hj];simpa using ew) (V,fin)) hs
def zhB:IxR X (rIxT X.K):=by
 intro value slice pins s E H x y v u Q I rx ry h hs;obtain⟨p,xs,i,z,rfl,rfl,hq,he,q⟩:=h;cases rx;obtain⟨t,rfl⟩:=ry;obtain⟨its,r,pl,hz⟩:=I.tuple hq;obtain⟨j,h1,h2,h3,h4,h5⟩:=zcf he;obtain⟨w,ew,rw'⟩:=r.get h2;have hl:=r.length;have hn:=line63;have fin:EP X pins E Q w s:=(z,H,I,rw',q);exact subscriptTail_builtinR pl.typeIs slot_tuple_getitem.lookup
  (getItem_tuple pl () () (by rw[wV,← hl];exact h1) (by simpa using ew) (V,fin)) hs
def zbz (its:List ca) (n j:Nat) (u:ca):Obj.mapSeq (·.setIfInBounds j u) { cls:=.type "list",data:=.seq its.toArray n }={ cls:=.type "list",data:=.seq (its.set j u).toArray n }:=by
 simp[Obj.mapSeq]
def Inv.lst{E:St}(I:Inv X pins E H s)(h:H p=some (.lst xs)) :
  ∃(its:List ca)(n:Nat),Vals xs its/\s.heap.get? p=some { cls:=.type "list",data:=.seq its.toArray n }/\xs.length<=sizeLine:=by
 obtain⟨z,its,n,r,e⟩:=I.hok p _ h;exact(its,n,r,e,z)
def Inv.lstUpd{pins:List (Addr×Obj)}{E:St}{H:Hp}{s:Shared}{p:Addr}{xs ys:List V}{its its':List ca}{n n':Nat}{f:Obj->Obj}(I:Inv X pins E H s)(h:H p=some (.lst xs))
  (ho:s.heap.get? p=some { cls:=.type "list",data:=.seq its.toArray n }) (hf:f { cls:=.type "list",data:=.seq its.toArray n }={ cls:=.type "list",data:=.seq its'.toArray n' }) (r:Vals ys its') (hz:ys.length<=sizeLine) (t:Nat) :
  Inv X pins E (upd H p (.lst ys)) { s with heap:=s.heap.update p f,toks:=t }:=by
 have e:(s.heap.update p f).get? p=some { cls:=.type "list",data:=.seq its'.toArray n' }:=by
  rw[Heap.get?_update_self f ho (by rw[hf] <;> rfl),hf]
 refine I.write (by rw[h];trivial) (.inl rfl) (λb u hb q=>(Heap.get?_update_other _ _ (Ne.symm hb)).trans q) (_,e) ?_;exact(hz,its',n',r,e)
inductive zcX(o i v:V)(H:Hp)(Q:Hp->Prop):Prop where
 | mk (p:Addr) (xs:List V) (k:Int) (j:Nat) (h0_:o=.ref p) (h1_:i=.int k) (h2_:H p=some (.lst xs)) (h3_:ixN xs.length k=some j) (h4_:Q (upd H p (.lst (xs.set j v)))):zcX  o i v H Q
def rSetL:V->V->V->Hp->(Hp->Prop)->Prop:=λo i v H Q=>zcX  o i v H Q
def ze9:PSet X rSetL:=by
 intro pins s E H o i v ov iv u Q I ro ri rv h;obtain⟨p,xs,k,j,rfl,rfl,hp,hj,q⟩:=h;cases ro;obtain⟨t,rfl⟩:=ri;obtain⟨its,n,r,ho,hz⟩:=I.lst hp;obtain⟨h1,h2,h3,h4⟩:=zdO hj;have hl:=r.length;have hn:=line63;have I':Inv X pins E (upd H p (.lst (xs.set j v))) { s with heap:=s.heap.update p (Obj.mapSeq (·.setIfInBounds j u)) } :=
  I.lstUpd hp ho (zbz its n j u) (r.set rv j) (by rw[vv];exact hz) s.toks
 by_cases h0:0<=k
 ·have Z:k.toNat=j:=by
   rw[seqIndex_of h0 h4]at h1;exact Option.some.inj h1
  exact PySem.W.ki_setAt ho h0 () (by rw[wV,← hl];exact h4) (by rw[Z];exact(_,I',q))
 ·have Z:(k+its.toArray.size).toNat=j:=by
   rw[seqIndex_neg () h3]at h1;rw[wV,← hl];exact Option.some.inj h1
  exact PySem.W.ki_setBack ho () (by rw[wV,← hl];exact h3) () (by rw[Z];exact(_,I',q))
def Jm lo hi n:(bj lo hi none n).1 =((HT.sIx n 0 lo:Nat):Int)/\(bj lo hi none n).2.1 =((HT.sIx n n hi:Nat):Int)/\(bj lo hi none n).2.2=1:=by
 refine(?_,?_,V)
 ·cases lo with
  | none=>simp[bj,HT.sIx]
  | some i =>
   simp only[bj,HT.sIx,waW,show(1:Int) > 0 by decide,if_true]
   by_cases h:i<0
   ·simp only[h,if_true] <;> omega
   ·simp only[h,if_false] <;> omega
 ·cases hi with
  | none=>simp[bj,HT.sIx]
  | some i =>
   simp only[bj,HT.sIx,waW,show(1:Int) > 0 by decide,if_true]
   by_cases h:i<0
   ·simp only[h,if_true] <;> omega
   ·simp only[h,if_false] <;> omega
def Xo(its:List ca) lo hi:slicePick its.toArray lo hi none =((its.drop (HT.sIx its.length 0 lo)).take (HT.sIx its.length its.length hi - HT.sIx its.length 0 lo)).toArray:=by
 obtain⟨h1,h2,h3⟩:=Jm lo hi its.toArray.size;unfold slicePick;rw[h1,h2,h3];simp only[sliceRange_one,pick_run,wV] <;> rfl
inductive zf4(K:bv)(x:V)(lo hi:Option Int)(H:Hp)(Q:VK):Prop where
 | mk (a:Addr) (xs:List V) (h0_:x=.ref a) (h1_:SqL K H a xs) (h2_:∀ p,H p=none->Q (.ref p) (upd H p (.lst (cutV xs lo hi)))):zf4 K x lo hi H Q
def rSlL(K:bv):V->Option Int->Option Int->Hp->VK->Prop:=λx lo hi H Q=>zf4 K x lo hi H Q
def zb5:SlR X (rSlL X.K):=by
 intro pins s E H x v vl vu lo hi sl Q I rx hs pl pu h;obtain⟨a,xs,rfl,J,q⟩:=h;cases rx;obtain⟨its,r,ht,hz⟩:=I.list J;have hlen:=r.length;refine("list",_,slot_list_getitem.lookup,ht.isList.typeIs,?_);refine wpAny_getItem_list_slice ht.isList hs pl pu .none (by simp) ?_ (by rw[wV] <;> omega);rw[Xo,← hlen];refine(.ref s.heap.objs.size,_,I.laid (t':=s.toks) (λb ob q=>Heap.get?_push_of_some _ q) (ww _) ?_,V,q _ (I.hok.fresh (ww _)));exact(wE (Ye xs lo hi) hz,_,0,(r.drop (HT.sIx xs.length 0 lo)).take (HT.sIx xs.length xs.length hi - HT.sIx xs.length 0 lo),Heap.get?_push_size _ rfl)
def flatV:V->Bool
 | .non=>true
 | .bl _=>true
 | .int _=>true
 | .str _=>true
 | _=>false
def eqV:V->V->Bool
 | .non,.non=>true
 | .bl a,.bl b=>a == b
 | .bl a,.int b=>(if a then 1 else 0) == b
 | .int a,.bl b=>a ==(if b then 1 else 0)
 | .int a,.int b=>a == b
 | .str a,.str b=>a == b
 | _,_=>false
def ziv(ry:RelV y u)(rx:RelV x v)(fy:flatV y=true)(fx:flatV x=true):SeqAt.EqAt A s u v (eqV y x):=by
 cases y with
 | non =>
  cases ry;cases x with
  | non=>cases rx;exact SeqAt.EqAt.same _
  | bl b=>cases rx;exact SeqAt.EqAt.none_bool b
  | int b=>obtain⟨t,rfl⟩:=rx;exact SeqAt.EqAt.none_int b t
  | str b=>obtain⟨t,rfl⟩:=rx;exact SeqAt.EqAt.none_str b t
  | _=>exact bK (show false=true from fx) wZ
 | bl a =>
  cases ry;cases x with
  | non=>cases rx;exact SeqAt.EqAt.bool_none a
  | bl b=>cases rx;exact SeqAt.EqAt.bool_bool a b
  | int b=>obtain⟨t,rfl⟩:=rx;exact SeqAt.EqAt.bool_int a b t
  | str b=>obtain⟨t,rfl⟩:=rx;exact SeqAt.EqAt.bool_str a b t
  | _=>exact bK (show false=true from fx) wZ
 | int a =>
  obtain⟨t',rfl⟩:=ry;cases x with
  | non=>cases rx;exact SeqAt.EqAt.int_none a t'
  | bl b=>cases rx;exact SeqAt.EqAt.int_bool a t' b
  | int b=>obtain⟨t,rfl⟩:=rx;exact SeqAt.EqAt.int_int a t' b t
  | str b=>obtain⟨t,rfl⟩:=rx;exact SeqAt.EqAt.int_str a t' b t
  | _=>exact bK (show false=true from fx) wZ
 | str a =>
  obtain⟨t',rfl⟩:=ry;cases x with
  | non=>cases rx;exact SeqAt.EqAt.str_none a t'
  | bl b=>cases rx;exact SeqAt.EqAt.str_bool a t' b
  | int b=>obtain⟨t,rfl⟩:=rx;exact SeqAt.EqAt.str_int a t' b t
  | str b=>obtain⟨t,rfl⟩:=rx;exact SeqAt.EqAt.str_str a t' b t
  | _=>exact bK (show false=true from fx) wZ
 | _=>exact bK (show false=true from fy) wZ
def eqU(x:V)(u:ca):Bool:=match u with
 | .none=>eqV .non x
 | .bool b=>eqV (.bl b) x
 | .int i _=>eqV (.int i) x
 | .str z _=>eqV (.str z) x
 | _=>false
def zfY(r:RelV y u)(f:flatV y=true):eqU x u=eqV y x:=by
 cases y with
 | non=>cases r;rfl
 | bl b=>cases r;rfl
 | int i=>obtain⟨t,rfl⟩:=r;rfl
 | str z=>obtain⟨t,rfl⟩:=r;rfl
 | _=>exact bK (show false=true from f) wZ
def QI:∀ {xs:List V} {us:List ca},Vals xs us->xs.all flatV=true->us.any (eqU x)=xs.any λy=>eqV y x
 | _,_,.nil,_=>rfl
 | y::xs,u::us,.cons r t,f=>by
  rw[wba,uK]at f;rw[wbb,wbb,zfY r f.1,QI t f.2]
def Xn(rx:RelV x v)(fx:flatV x=true):∀ {xs:List V} {us:List ca},Vals xs us->xs.all flatV=true->∀ u∈us,SeqAt.EqAt A s u v (eqU x u)
 | _,_,.nil,_=>λu hu=>by cases hu
 | y::xs,u::us,.cons r t,f=>λu' hu=>by
  rw[wba,uK]at f
  rcases wN.mp hu with rfl|hu
  ·rw[zfY r f.1];exact ziv r rx f.1 fx
  ·exact Xn rx fx t f.2 u' hu
def inV(x:V)(xs:List V):Bool:=xs.any λy=>eqV y x
def rIn(K:bv)(neg:Bool):R2:=λx y H Q=>∃ p xs,y=.ref p/\(SqL K H p xs\/SqT K H p xs)/\flatV x=true/\xs.all flatV=true/\Q (.bl (if neg then !inV x xs else inV x xs)) H
def Jb:OpR X (cV .NotIn) (rIn X.K true):=by
 intro pins s E H x y v u Q I rx ry h;obtain⟨p,xs,rfl,hq,fx,fs,q⟩:=h;cases ry
 rcases hq with hq|hq
 ·obtain⟨its,r,pl,hz⟩:=I.list hq;refine SeqAt.notIn_listAt (eqU x) pl.isList (λw hw=>Xn rx fx r fs w (by simpa using hw)) (.bl _,H,I,V,?_);rw[show its.toArray.any (eqU x)=its.any (eqU x) by simp,QI r fs];exact q
 ·obtain⟨its,r,pl,hz⟩:=I.tuple hq;refine SeqAt.notIn_tupleAt (eqU x) pl (λw hw=>Xn rx fx r fs w (by simpa using hw)) (.bl _,H,I,V,?_);rw[show its.toArray.any (eqU x)=its.any (eqU x) by simp,QI r fs];exact q
def Qk:kaB X (.builtin "len") (λxs H Q=>∃ p ys,xs=[.ref p]/\(SqL X.K H p ys\/SqT X.K H p ys)/\Q (.int ys.length) H):=by
 intro pins s E H xs us Q I r h;obtain⟨p,ys,rfl,hq,q⟩:=h;obtain⟨u,rfl,rx⟩:=vals1 r;cases rx;have hn:=line63
 rcases hq with hq|hq
 ·obtain⟨its,r',pl,hz⟩:=I.list hq;have hlen:=r'.length;exact Calls.call_len_list pl.isList (by simp only[wV] <;> omega) (.int ys.length,H,I.tok _,(s.toks+1,by rw[wV,hlen]),q)
 ·obtain⟨its,r',pl,hz⟩:=I.tuple hq;have hlen:=r'.length;exact len_tuple pl (by simp only[wV] <;> omega) (.int ys.length,H,I.tok _,(s.toks+1,by rw[wV,hlen]),q)
def Qe:kaB X (.type "list") (λxs H Q=>∃ p ys,xs=[.ref p]/\(SqL X.K H p ys\/SqT X.K H p ys)/\∀ l,H l=none->Q (.ref l) (upd H l (.lst ys))):=by
 intro pins s E H xs us Q I r h;obtain⟨p,ys,rfl,hq,q⟩:=h;obtain⟨u,rfl,rx⟩:=vals1 r;cases rx;have fin:∀ its,Vals ys its->ys.length<=sizeLine->∀ h' c',(∀ b o',s.heap.get? b=some o'->h'.get? b=some o') ->
   h'.get? s.heap.objs.size=some { cls:=.type "list",dict:=none,data:=.seq its.toArray c',slots:=#[] }->EP X pins E Q (.ref s.heap.objs.size) { s with heap:=h' }:=λits r' hz h' c' kp e =>
  (.ref s.heap.objs.size,_,I.laid (t':=s.toks) kp (ww _) (show ObjOk X.prog X.w _ h' _ (.lst ys)from(hz,its,c',r',e)),V,q _ (I.hok.fresh (ww _)))
 rcases hq with hq|hq
 ·obtain⟨its,r',pl,hz⟩:=I.list hq;have hlen:=r'.length;obtain⟨o,ho,hc,n,hd⟩:=pl.isList;exact call_list_seq p (.inl rfl) ho hc hd (λh' c' kp e=>fin its r' hz h' c' kp e) (by simp only[wV] <;> omega)
 ·obtain⟨its,r',pl,hz⟩:=I.tuple hq;have hlen:=r'.length;obtain⟨o,ho,hc,n,hd⟩:=pl;exact call_list_seq p (.inr rfl) ho hc hd (λh' c' kp e=>fin its r' hz h' c' kp e) (by simp only[wV] <;> omega)
def Xv:kaB X (.type "tuple") (λxs H Q=>∃ p ys,xs=[.ref p]/\((SqL X.K H p ys/\∀ l,H l=none->Q (.ref l) (upd H l (.tup ys)))\/(SqT X.K H p ys/\Q (.ref p) H))):=by
 intro pins s E H xs us Q I r h;obtain⟨p,ys,rfl,h⟩:=h;obtain⟨u,rfl,rx⟩:=vals1 r;cases rx
 rcases h with⟨hq,q⟩|⟨hq,q⟩
 ·obtain⟨its,r',pl,hz⟩:=I.list hq;have hlen:=r'.length;refine call_tuple_list pl.isList (λh' kp=>?_) (by simp only[wV] <;> omega);have I1:Inv X pins E H { s with heap:=h' }:=I.kept (t':=s.toks) kp;have I2:Inv X pins E (upd H h'.objs.size (.tup ys)) { s with heap:=h'.push { cls:=.type "tuple",data:=.seq its.toArray } } :=
   I1.laid (t':=s.toks) (λb o e=>Heap.get?_push_of_some _ e) (ww _) (show ObjOk X.prog X.w _ _ _ (.tup ys)from(hz,its,r',IsTup.new _ _))
  exact(.ref h'.objs.size,_,I2,V,q _ (I1.hok.fresh (ww _)))
 ·obtain⟨its,r',pl,hz⟩:=I.tuple hq;exact call_tuple_same pl (.ref p,H,I,V,q)
def tyV(K:bv)(T:String)(x:V)(H:Hp):Prop:=match x with
 | .str _=>T = "str"
 | .int _=>T = "int"
 | .ref p=>(T = "list" /\ ∃ xs,SqL K H p xs)\/(T = "tuple" /\ ∃ o,K.lookup p=some o/\o.cls=.type "tuple" /\ o.dict=none) \/
   (T = "dict" /\ ((∃ kvs,H p=some (.dK kvs))\/∃ kvs,H p=some (.dT kvs)))\/(T = "set" /\ ∃ S n,H p=some (.set S n))
 | _=>False
def ziI{E:St}(I:Inv X pins E H s)(r:RelV x v)(ty:tyV X.K T x H) :
  s.TypeIs v T/\∀ a,v=.ref a->∃ ob,s.heap.get? a=some ob/\ob.dict=none:=by
 cases x with
 | str z =>
  obtain⟨t,rfl⟩:=r;cases (show T = "str" from ty);exact(typeIs_str s z t,λ_ e=>nomatch e)
 | int i =>
  obtain⟨t,rfl⟩:=r;cases (show T = "int" from ty);exact(typeIs_int s i t,λ_ e=>nomatch e)
 | ref p =>
  cases r
  rcases ty with⟨rfl,xs,hq⟩|⟨rfl,o,Z,hc,hd⟩|⟨rfl,Z⟩|⟨rfl,S,n,Z⟩
  ·obtain⟨its,_,pl,_⟩:=I.list hq;refine(pl.isList.typeIs,λa e=>?_);cases e;obtain⟨o,n,e,c,hd,_⟩:=pl;exact(o,e,hd)
  ·refine((o,I.kIn p o Z,hc),λa e=>?_);cases e;exact(o,I.kIn _ o Z,hd)
  ·have z:∃ o,s.heap.get? p=some o/\o.ExactDict:=by
    rcases Z with⟨kvs,Z⟩|⟨kvs,Z⟩
    ·obtain⟨_,_,_,_,o,_,_,e,ex,_⟩:=I.hok p _ Z;exact(o,e,ex)
    ·obtain⟨_,_,_,_,o,_,_,e,ex,_⟩:=I.hok p _ Z;exact(o,e,ex)
   obtain⟨o,e,ex⟩:=z;refine((o,e,ex.1),λa e2=>?_);cases e2;exact(o,e,ex.2.1)
  ·obtain⟨o,_,_,_,e,ex,_⟩:=I.hok p _ Z;refine((o,e,ex.1),λa e2=>?_);cases e2;exact(o,e,ex.2.1)
 | _=>exact False.elim ty
def tBM(K:bv)(T:String)(r:V->List V->Hp->VK->Prop)(to:TE)(t:TA):TE:=λE H Q=>to E H λx H1=>tyV K T x H1/\t E H1 λxs H2=>r x xs H2 Q
variable{apos cpos:Pos}{T id:String}
def zgR (pa:PlainAttrs T) (slot:Slot T name id) (hty:typeOf (.builtin id)=pure (.type "method_descriptor")) (hm:MtR X id r) (ho:PE X o to) (ha:PA X (e::es) t)
  (hbase:attributeBase o name X.env (eval o X.env)=eval o X.env:=by rfl)
  (hfew:((cr cpos (cu (e::es) X.env)).all (λx=>!x.1) && (backToKw cpos (keywordEach [] X.env)).all (λx=>x.1.isSome)
   && decide ((e::es).length +([]:List Keyword).length +(if ([]:List Keyword).isEmpty then 0 else 1)<30))=true:=by rfl)
  (hline:(apos.endLine == cpos.line)=true:=by rfl) (hs:cu (e::es) X.env =(false,eval e X.env)::cu es X.env:=by rfl) (hplain:(cr cpos (cu es X.env)).any (·.1)=false:=by rfl) :
  PE X (.Call (.Attribute o name apos) (e::es) [] cpos) (tBM X.K T r to t):=by
 intro pins s E H Q I h;refine wpAny_Call_method_late hbase hfew hline rfl (thn (ho pins s E H _ I h) λv s1 ⟨x,H1,I1,r1,ty,q1⟩=>?_);obtain⟨h1,h2⟩:=ziI I1 r1 ty;refine(T,id,pa,slot,hty,h1,h2,?_);have hA:=ha cpos pins s1 E H1 _ I1 q1;rw[hs]at hA ⊢;refine Calls.callWith_builtin (by show(false || (cr cpos (cu es X.env)).any (·.1))=false;rw[hplain] <;> rfl) (Calls.evalArgs_plain ?_);exact thn hA λus s2 ⟨vs,H2,I2,r2,q2⟩=>hm pins s2 E H2 x vs v us Q I2 r1 r2 q2
end
def MtM(X:Cx)(id:String)(r:V->List V->Hp->VK->Prop):Prop :=
 ∀ pins s (E:St) H x xs v us Q,Inv X pins E H s->RelV x v->Vals xs us->r x xs H Q ->
  cm (cq X.prog X.w) X.A (call (.builtin id) (v::us)) (EP X pins E Q) X.xe s
def Vals.one:∀ {x:V} {us:List ca},Vals [x] us->∃ u,us=[u]/\RelV x u
 | _,_,.cons r .nil=>(Q,r)
def Vals.two:∀ {x y:V} {us:List ca},Vals [x,y] us->∃ u v,us=[u,v]/\RelV x u/\RelV y v
 | _,_,_,.cons r (.cons q .nil)=>(_,Q,r,q)
def Vals.rep(h:Vals xs us):∀ k:Nat,Vals (wL k xs).flatten (wL k us).flatten
 | 0=>.nil
 | k+1=>by
  rw[uo,uo,vE,vE];exact Vals.append h (Vals.rep h k)
def JS its:∀ k (acc:List ca),
  wbv (λx1 x2=>x1++x2) acc.toArray (wL k its.toArray) =(acc ++(wL k its).flatten).toArray
 | 0,acc=>by simp
 | k+1,acc=>by
  have e:acc.toArray++its.toArray =(acc++its).toArray:=by simp
  have e2:(acc++its) ++(wL k its).flatten=acc ++(wL (k+1) its).flatten:=by
   rw[uo,vE,gS]
  rw[← e2,← JS its k (acc++its),← e,uo,GD]
section
variable{E:St}
def Inv.lset{its its':List ca}(I:Inv X pins E H s)(hH:H l=some (.lst xs))
  (e:s.heap.get? l=some { cls:=.type "list",data:=.seq its.toArray n }) (hf:f its.toArray=its'.toArray) (hv:Vals ys its') (hz:ys.length<=sizeLine) :
  Inv X pins E (upd H l (.lst ys)) { s with heap:=s.heap.update l (Obj.mapSeq f),toks:=t' }:=by
 have q:=PySem.IsL.update e f;rw[hf]at q;refine I.write (by rw[hH];exact trivial) (.inl rfl) (λb' u hb hu=>(Heap.get?_update_other s.heap (Obj.mapSeq f) (Ne.symm hb)).trans hu) (_,q) ?_;exact(hz,its',_,hv,q)
def Inv.lnew(I:Inv X pins E H s)(hv:Vals ys its)(hz:ys.length<=sizeLine) :
  Inv X pins E (upd H s.heap.objs.size (.lst ys)) { s with heap:=s.heap.push { cls:=.type "list",data:=.seq its.toArray },toks:=t' } :=
 I.laid (λ_ _ q=>Heap.get?_push_of_some _ q) (ww _) (hz,its,0,hv,Heap.get?_push_size _ rfl)
def Inv.fresh(I:Inv X pins E H s):H s.heap.objs.size=none:=I.hok.fresh (ww _)
def Inv.lstM (I:Inv X pins E H s) (hH:H l=some (.lst xs)):xs.length<=sizeLine/\∃(its:List ca)(n:Nat),Vals xs its/\xs.length=its.length/\s.heap.get? l=some { cls:=.type "list",data:=.seq its.toArray n }:=by
 obtain⟨z,its,n,r,e⟩:=I.hok l _ hH;exact(z,its,n,r,r.length,e)
def notLongL(h:n<=sizeLine):Builtin.List.listTooLong n=false:=by
 unfold Builtin.List.listTooLong;exact bE ()
end
section
inductive Js(x:V)(vs:List V)(H:Hp)(Q:VK):Prop where
 | mk (l:Addr) (xs:List V) (y:V) (h0_:x=.ref l) (h1_:vs=[y]) (h2_:H l=some (.lst xs)) (h3_:xs.length<sizeLine) (h4_:Q .non (upd H l (.lst (xs++[y])))):Js  x vs H Q
def rAppend:V->List V->Hp->VK->Prop:=λx vs H Q=>Js  x vs H Q
def zdc:MtM X "list.append" rAppend:=by
 intro pins s E H x vs v us Q I rx rv h;obtain⟨l,xs,y,rfl,rfl,hH,hz,q⟩:=h;cases rx;obtain⟨u,rfl,ru⟩:=rv.one;obtain⟨z,its,n,r,hl,e⟩:=I.lstM hH;refine call_meets F.slot_list_append (_,e,V) F.entry_list_append (F.args_list_append_2 _ _) (PySem.list_append l its.toArray n u (by rw[wV];omega)) (e,?_);refine(.non,_,I.lset (its':=its++[u]) hH e (by simp) (r.append (.cons ru .nil)) ?_,V,q);rw[wy,was];omega
def rExtend:V->List V->Hp->VK->Prop:=λx vs H Q=>∃ l b xs zs,x=.ref l/\vs=[.ref b]/\H l=some (.lst xs)/\H b=some (.lst zs)/\xs.length+zs.length<=sizeLine/\Q .non (upd H l (.lst (xs++zs)))
def zd1:MtM X "list.extend" rExtend:=by
 intro pins s E H x vs v us Q I rx rv h;obtain⟨l,b,xs,zs,rfl,rfl,hH,hB,hz,q⟩:=h;cases rx;obtain⟨u,rfl,ru⟩:=rv.one;cases ru;obtain⟨z,its,n,r,hl,e⟩:=I.lstM hH;obtain⟨z2,its2,n2,r2,hl2,e2⟩:=I.lstM hB;have hsz:its.toArray.size+its2.toArray.size<=sizeLine:=by rw[wV,wV];omega
 have hlong:¬(!its.toArray.isEmpty && Builtin.List.listTooLong (its.toArray.size+its2.toArray.size))=true:=by
  rw[notLongL hsz,Bool.and_false];exact wZ
 refine call_meets F.slot_list_extend (_,e,V) F.entry_list_extend (F.args_list_extend_2 _ _)
  (AutoSeq1.list_extend_list_list_0 l its.toArray n b its2.toArray n2 hlong (by rw[wV];omega) ()) (e,e2,?_)
 refine(.non,_,I.lset (its':=its++its2) hH e (by simp) (r.append r2) ?_,V,q);rw[wy];omega
inductive zfS(x y:V)(H:Hp)(Q:VK):Prop where
 | mk (l b:Addr) (xs zs:List V) (h0_:x=.ref l) (h1_:y=.ref b) (h2_:H l=some (.lst xs)) (h3_:H b=some (.lst zs)) (h4_:xs.length+zs.length<=sizeLine) (h5_:∀ p,H p=none->Q (.ref p) (upd H p (.lst (xs++zs)))):zfS  x y H Q
def rCat:R2:=λx y H Q=>zfS  x y H Q
def qh:OpR X (cQ .Add) rCat:=by
 intro pins s E H x y v u Q I rx ry h;obtain⟨l,b,xs,zs,rfl,rfl,hH,hB,hz,q⟩:=h;cases rx;cases ry;obtain⟨z,its,n,r,hl,e⟩:=I.lstM hH;obtain⟨z2,its2,n2,r2,hl2,e2⟩:=I.lstM hB;refine PySem.P.add_list e e2 ?_ (by rw[wV,wV];omega);have ea:its.toArray++its2.toArray =(its++its2).toArray:=by simp
 rw[ea];exact(.ref _,_,I.lnew (t':=s.toks) (r.append r2) (by rw[wy];omega),V,q _ I.fresh)
def rRep:R2:=λx y H Q=>∃ l k xs,x=.ref l/\y=.int k/\H l=some (.lst xs)/\-(2^63)<=k/\k<2^63/\xs.length*k.toNat<=sizeLine /\
 ∀ p,H p=none->Q (.ref p) (upd H p (.lst (wL k.toNat xs).flatten))
def zhf{α:Type}(xs:List α) k:(wL k xs).flatten.length=k*xs.length:=by
 induction k with
 | zero=>simp
 | succ k ih=>rw[uo,vE,wy,ih,uW,Gk]
def ziC:OpR X (cQ .Mult) rRep:=by
 intro pins s E H x y v u Q I rx ry h;obtain⟨l,k,xs,rfl,rfl,hH,h1,h2,hz,q⟩:=h;cases rx;obtain⟨t,rfl⟩:=ry;obtain⟨z,its,n,r,hl,e⟩:=I.lstM hH;have hlen:its.toArray.size*k.toNat<=sizeLine:=by rw[wV,← hl];exact hz
 have hcap:¬ its.toArray.size*k.toNat >(2^63 - 1) / 8:=by
  have:sizeLine<=(2^63 - 1) / 8:=by decide
  omega
 have hfit:¬(!Builtin.List.listFitsIndex k)=true:=by
  rw[fitsIndex_both h1 h2];exact wZ
 have hlong:¬ Builtin.List.listTooLong (its.toArray.size*k.toNat)=true:=by
  rw[notLongL hlen];exact wZ
 have hnew:wbv (λx1 x2=>x1++x2) #[] (wL (if its.toArray.isEmpty=true then 0 else k.toNat) its.toArray) =(wL k.toNat its).flatten.toArray:=by
  have f0:= λm=>by
   have:=JS its m [];rw[wam]at this;exact this
  rw[f0];cases its with
  | nil=>simp
  | cons a r'=>rw[bx (by simp)]
 refine wpAny_binaryOp_repeat_ref () (_,e,V) (λs'=>typeIs_int s' k t) noFill_list_mul F.fills_int_mul F.slot_int_rmul repeat_list F.slot_int_index.lookup
  (call_meets F.slot_int_rmul (typeIs_int s k t) F.entry_int_rmul (F.args_int_rmul_2 _ _) (int___rmul___int_list k t l its.toArray n)
   (e,V,(_,e,V),call_meets F.slot_list_mul (_,e,V) F.entry_list_mul (F.args_list_mul_2 _ _) (AutoListH.list___mul___list_int_3 l its.toArray n k t hfit hcap hlong) (e,?_)))
 rw[hnew];exact(.ref _,_,I.lnew (t':=s.toks) (r.rep k.toNat) (by rw[zhf,vJ];exact hz),V,q _ I.fresh)
end
end L2
namespace Att
open PySem PySem.W PySem.Calls PyProof.Rows
def Yq:∀ ns vs,WellAll P h vs (ns.map WData.int)->IntsAre vs ns:=by
 intro ns
 induction ns with
 | nil =>
  intro vs w;rw[List.map_nil]at w;cases w;exact .nil
 | cons n ns ih =>
  intro vs w;rw[Gb]at w;cases w with
  | cons a b =>
   cases a;exact .cons _ _ (ih _ b)
def zb7{l:OpenLaw}(hn:l.most=some n)
  (hpre:l.row.toRowW.claim.pre args=true) (hwl:WellAll P h vals args) :
  ∃ a vs ns,vals=[Value.ref a]/\args=[WData.list (ns.map WData.int)]/\h.get? a=some { cls:=.type "list",data:=.seq vs.toArray }/\IntsAre vs ns/\ns.length<=n:=by
 have hsh:=(pre_splitW hpre).1;have hc:l.pre.holds [] { args:=args }=true:=(pre_splitW hpre).2;obtain⟨d,r,rfl,h1,h2⟩:=hasAllW_cons hsh;obtain rfl:=hasAllW_nil h2;obtain⟨xs,rfl,h3⟩:=hasW_list h1;obtain⟨ns,rfl⟩:=items_int h3;have hlen:ns.length<=n:=by
  unfold OpenLaw.pre at hc;have h4:(WTm.not (.lt (.lit (.int (n:Int))) (.len (.arg 0)))).holds [] { args:=[.list (ns.map .int)] }=true:=by
   have h4:=(holds_andW hc).1;rw[hn]at h4;exact h4
  have h5:=condW_of h4 (w_not (w_lt w_lit (w_len_list (w_arg rfl))));rw[wa]at h5;refine waX λq=>?_
  have q':n <(ns.length:Int):=by omega
  first
   | (rw[bF q']at h5;exact bK h5 ())
   | (simp at h5;omega)
 cases hwl with
 | cons w1 w2 =>
  cases w2;cases w1 with
  | list ho hall=>exact(_,_,ns,V,V,ho,Yq ns _ hall,hlen)
def zd3(l:OpenLaw) args:l.row.toRowW.claim.post args (.bool true) args=true :=
 postW_of
  (show WShape.has [] (.bool true) .bool=true by first|rfl|decide|simp[WShape.has,WShape.arms,WShape.armsAll])
  (show(WTm.eq .res (.lit (.bool true))).value [] { args:=args,res:=some (.bool true),after:=args }=some (.bool (true == true))from w_eq_bool (w_res rfl) w_lit) rfl
def QX{l:OpenLaw}{n:Nat}{q:cf}{loose:List Str}{XP:(Str->Option ca)->Heap->Prop}{YP:ce->Heap->Prop}{d:DefRec}
  (hn:l.most=some n) (hdf:d.params.defaults=[])
  (call:∀(w:ce)(s₀ s₁:Shared)(mg mb:Str->Option ca)(fa:Addr)(o:Obj)(pm cd doc:ca)(a:Addr)(vs:List ca)(ns:List Int),
   Ground q loose [] XP w s₀ mg mb s₁.heap->YP w s₁.heap ->
   s₁.heap.get? fa=some o->o.data=.func (docDef d.name d.params d.body d.scope pm cd doc)->s₁.heap.CodeRec cd d.name->mg d.name=some (.ref fa) ->
   s₁.heap.get? a=some { cls:=.type "list",data:=.seq vs.toArray }->IntsAre vs ns->ns.length<=n->s₁.gens=#[] ->
   codeAny (cq l.prog w) callerA (.call (.ref fa) ([.ref a],[])) (λr s'=>r=.ok (.ret (.bool true))/\OldK s₁.heap s'.heap/\s'.os=s₁.os/\AllBare s'.gens) s₁) :
  WalkO q loose XP YP l.row.toRowW d [] (λf vs=>PySem.call f vs):=by
 intro w s₀ s₁ mg mb G Y fa o pm cd doc dV kV ho hd hcd hD hmg hg args vals as hpre hlay hrd hwl hlo;obtain rfl:dV=.none:=Dflts.none hD hdf;obtain rfl:kV=.none:=Dflts.noKw hD;obtain⟨a,vs,ns,rfl,rfl,hobj,hints,hlen⟩:=zb7 hn hpre hwl;refine enter_call (codeAny_mono (call w s₀ s₁ mg mb fa o pm cd doc a vs ns G Y ho (fd_plain hd) hcd hmg hobj hints hlen hg) λr s' hq=>?_);obtain⟨rfl,h2,h3,h4⟩:=hq;exact(.inl (.bool true,.bool true,[],V,λ_=>rfl,.bool true,zd3 l _,λ_=>(List.Pairwise.nil,λ_ hm=>(nomatch hm))),h2,h3,h4)
end Att
namespace L2
open PySem PySem.Spec PyProof.Rows
def Qs:∀ {vs:List ca} {ns:List Int},IntsAre vs ns->Vals (ns.map V.int) vs
 | _,_,.nil=>.nil
 | _,_,.cons n t h=>.cons (t,V) (Qs h)
def Only(H:Hp):Prop:=∀ b,H b=none\/∃ o xs,H b=some (.frz o (.lst xs))
def ze2{P:cf}{w:ce}{K:bv}{mg mb:Str->Option ca}{CX:CXT}{k:Nat}{fa a:Addr}{fd:cY}{x:Str}{sp:Sp}{s₁:Shared}{vs:List ca}{ns:List Int}
  (KX:K.In s₁.heap) (hns:s₁.heap.Ns cg mg) (hb:s₁.heap.Ns builtinsNs mb) (hbb:∀ x:Str,x ≠ "__name__" -> mb x=ci x) (hlim:s₁.heap.NoLimit) (hSe:s₁.heap.NoSeer) (hg:s₁.gens=#[])
  (ha:s₁.heap.get? a=some { cls:=.type "list",data:=.seq vs.toArray }) (hi:IntsAre vs ns) (hl:ns.length<=sizeLine) (L:Room k callerA)
  (F:∀ base:Heap,K.In base->base.Ns cg mg->base.NoSeer->FnOk P w K mg base CX k fa fd [x] sp) (hbind:∀(s:Shared)(u:ca),BindsTo s fd ([u],[]) [(x,u)])
  (hsp:∀ H:Hp,Only H->SqL K H a (ns.map V.int)->sp [.ref a] H (λv _=>v=.bl true) λ_ _ _=>False)
  (hCX:∀ H e s',CX [] H s₁ (λ_ _ _=>False) e s'->False) :
  codeAny (cq P w) callerA (.call (.ref fa) ([.ref a],[])) (λr s'=>r=.ok (.ret (.bool true))/\OldK s₁.heap s'.heap/\s'.os=s₁.os/\AllBare s'.gens) s₁:=by
 have rv:=Qs hi;have lenV:=hi.length;have core:∀ H:Hp,Only H->SqL K H a (ns.map V.int)->HOk P w H s₁.heap->(∀ b,H b≠none->b=a)->(H a≠none->K.lookup a=none) ->
   codeAny (cq P w) callerA (.call (.ref fa) ([.ref a],[])) (λr s'=>r=.ok (.ret (.bool true))/\OldK s₁.heap s'.heap/\s'.os=s₁.os/\AllBare s'.gens) s₁:=by
  intro H hO hS hok hA hK;have base_of:∀ {b:Addr} {o:Obj},s₁.heap.get? b=some o->H b=none->(hidT s₁.heap H).get? b=some o:=λe n=>zfj e n
  have noA:∀ {b:Addr} {o:Obj} {es:Array DictEntry} {ep:Nat},s₁.heap.get? b=some o->o.data=.dict es ep->H b=none:=λ{b o es ep} e d=>by
   cases q:H b with
   | none=>rfl
   | some u =>
    have e':= hA b (by rw[q];simp);subst e';rw[ha]at e;cases e;have d':= d;cases d'
  have nsK:∀ {b:Addr} {m:Str->Option ca},s₁.heap.Ns b m->(hidT s₁.heap H).Ns b m:=λ{b m} ⟨o,es,ep,e,d,r⟩=>(o,es,ep,base_of e (noA e d),d,r)
  have hKb:= λb o e=>base_of (KX b o e) (by
   cases q:H b with
   | none=>rfl
   | some u =>
    have e':= hA b (by rw[q];simp);subst e';rw[hK (by rw[q];simp)]at e;cases e)
  have hM:Mod K mg (hidT s₁.heap H):=(hKb,nsK hns,(mb,nsK hb,hbb),let ⟨mc,h1,h2⟩:=hlim;(mc,nsK h1,h2));have e0:Env0 P w K mg (hidT s₁.heap H) callerA [] s₁ H:=(V,hM,λb o e=>zhh e,gI (zdj _ _),trivial,λb hb=>bK (show b∈([]:List Addr)from hb) (by simp),hok,.of_eq hg);have hSb:(hidT s₁.heap H).NoSeer:=((let ⟨mc,h1,h2⟩:=hSe.statics;(mc,nsK h1,h2)),(let ⟨mc,h1,h2⟩:=hSe.mods;(mc,nsK h1,h2)),(let ⟨mc,h1,h2⟩:=hSe.imp;(mc,nsK h1,h2)),by
   obtain⟨m',bm,ob,h1,h2,h3,h4,h5⟩:=hSe.main;refine(m',bm,ob,nsK h1,h2,base_of h3 ?_,h4,h5);cases q:H bm with
   | none=>rfl
   | some u =>
    have e':= hA bm (by rw[q];simp);subst e';rw[ha]at h3;cases h3;exact bK h4 (by simp))
  refine codeAny_mono ((F _ hKb (nsK hns) hSb).run callerA [] s₁ H ([.ref a],[]) [.ref a] [.ref a] _ _ L e0 (hbind s₁ (.ref a)) (.cons rfl .nil) (hsp H hO hS)) λr s' h=>?_
  cases r with
  | error e=>exact(hCX H e s' h).elim
  | ok fl =>
   cases fl with
   | next=>exact False.elim h
   | brk=>exact False.elim h
   | cont=>exact False.elim h
   | ret u =>
    obtain⟨v,H',os,bare,un,hok',r',q⟩:=h;have q':= q;subst q';obtain rfl:u=Value.bool true:=r';refine(V,OldK.of_keep λb o e=>?_,os,bare);cases q:H b with
    | none=>exact un.keep b o e q (by intro z;exact bK (show b∈([]:List Addr)from z) (by simp)) (by simp)
    | some u =>
     rcases hO b with z|⟨ob,xs,z⟩
     ·rw[q]at z;cases z
     ·have z2:=un.frzs b ob _ z;obtain⟨e1,_⟩:=hok b _ z;obtain⟨e2,_⟩:=hok' b _ z2;rw[e]at e1;cases e1;exact e2
 cases Z:K.lookup a with
 | some o =>
  have e:=KX a o Z;rw[ha]at e;cases e;refine core (λ_=>none) (λ_=>.inl rfl) (.inr (_,vs.toArray,_,Z,V,V,V,by rw[wV,lenV];exact hl,by simpa using rv)) (λb u z=>by have z':= z;cases z') (λb z=>bK rfl z) λz=>bK rfl z
 | none =>
  refine core (λb=>if b=a then some (.frz { cls:=.type "list",data:=.seq vs.toArray } (.lst (ns.map V.int)))else none) (λb=>?_) (.inl (.inr ({ cls:=.type "list",data:=.seq vs.toArray },bw rfl))) (λb u z=>?_) (λb z=>?_) λ_=>Z
  ·by_cases hb:b=a
   ·exact .inr (_,_,bw hb)
   ·exact .inl (bx hb)
  ·by_cases hb:b=a
   ·have z':=(bw hb).symm.trans z;cases z';subst hb;exact(ha,by rw[wa];exact hl,vs,_,rv,ha)
   ·have z':=(bx hb).symm.trans z;cases z'
  ·by_cases hb:b=a
   ·exact hb
   ·exact bK (bx hb) z
def kaw(s:Stmt):Arguments:=match s with
 | .FunctionDef _ a _ _ _ _ _ _ _ _=>a
 | _=>{ posonlyargs:=[],args:=[],vararg:=none,kwonlyargs:=[],kw_defaults:=[],kwarg:=none,defaults:=[] }
def kav(s:Stmt):List Stmt:=match s with
 | .FunctionDef _ _ b _ _ _ _ _ _ _=>b
 | _=>[]
def kag(s:Stmt):Scope:=match s with
 | .FunctionDef _ _ _ _ _ _ sc _ _ _=>sc
 | _=>{ kind:=.function,names:=[],isGenerator:=false,isCoroutine:=false }
abbrev CX0:CXT:=λ_ _ _ _ _ _=>False
abbrev E0:XK:=λ_ _ _=>False
def pass0:Passes CX0 X E0:=λ_ _ _ _ _ _ _ h=>h.elim
structure Fun(K:bv)(x qual:Str)(st:Stmt)(f:Addr)(fd:cY):Prop where
 ex:∃(oc:ca)(od:Option Addr)(kV doc pm:ca)(an:Option Addr)(cdv ct:ca)(osl:Array (Option ca)),
  fd=PySem.W.fnOf x qual (kaw st) (kav st) (kag st) .none kV doc pm an cdv ct/\K.lookup f=some (oc,od,.func fd,osl)/\PySem.W.codeIn K cdv qual=true
 kp:PySem.W.keepIn K (.ref f)=true
section
variable{K:bv}
def Fun.ok{x qual:Str}{st:Stmt}{f:Addr}{fd:cY}{N ps:List Str}{k:Nat}{sp:Sp}(F:Fun K x qual st f fd)(S:kay N ps (kag st))(len:∀ vs H Q bP,sp vs H Q bP->vs.length=ps.length)
  (hbody:∀(cdv:ca)(A:cj)(outer:List Env)(s:Shared)(H:Hp)(vs:List V)(Q:VK)(bP:XK),Room k (A.deeper (envOfC qual (kag st) s.heap.objs.size f cdv))->sp vs H Q bP ->
   ∃ t,PSs (cxOf CX0 P w K mg base N qual (kag st) f cdv A outer s H bP).nox (kav st) t/\t { nx:=λ_ H'=>Q .non H',rt:=Q } (start N vs) H):FnOk P w K mg base CX0 (k+1) f fd ps sp:=by
 obtain⟨oc,od,kV,doc,pm,an,cdv,ct,osl,rfl,lk,hcd⟩:=F.ex;refine zi0 lk hcd S len λA outer s H vs Q bP L hsp=>?_
 obtain⟨t,h,q⟩:=hbody cdv A outer s H vs Q bP L hsp;exact(t,h.nox,q)
def Fun.binds{x qual:Str}{st:Stmt}{f:Addr}{fd:cY}{ps:List Str}(F:Fun K x qual st f fd)
  (h:∀(kV doc pm:ca)(an:Option Addr)(cdv ct:ca)(us:List ca),us.length=ps.length->cZ (PySem.W.fnOf x qual (kaw st) (kav st) (kag st) .none kV doc pm an cdv ct) (us,[])=pure (ps.zip us)):Binds K fd ps []:=by
 obtain⟨oc,od,kV,doc,pm,an,cdv,ct,osl,rfl,lk,hcd⟩:=F.ex;exact .all (h kV doc pm an cdv ct)
def zfG{st:Stmt}{kV doc pm cdv ct:ca}(l:K.lookup f=some (oc,od,.func (PySem.W.fnOf x qual (kaw st) (kav st) (kag st) .none kV doc pm an cdv ct),osl))
  (c:PySem.W.codeIn K cdv qual=true) (k:PySem.W.keepIn K (.ref f)=true):Fun K x qual st f (PySem.W.fnOf x qual (kaw st) (kav st) (kag st) .none kV doc pm an cdv ct):=((oc,od,kV,doc,pm,an,cdv,ct,osl,V,l,c),k)
end
def iteF{A B:Prop}(h:B):if false=true then A else B:=by
 rw[bx wZ];exact h
def iteT{A B:Prop}(h:A):if true=true then A else B:=by
 rw[bw rfl];exact h
def ite2{c A B:Prop}[Decidable c](h1:c->A)(h2:¬ c->B):if c then A else B:=by
 by_cases h:c
 ·rw[bw h];exact h1 h
 ·rw[bx h];exact h2 h
def Same(H H':Hp):Prop:=∀ b o,H b=some o->H' b=some o
def Same.refl H:Same H H:=λ_ _ h=>h
def Same.trans(a:Same H H1)(b:Same H1 H2):Same H H2:=λc o h=>b c o (a c o h)
end L2
namespace Nm
def primeB(n:Nat):Bool:=decide (1<n) && (wY n).all λd=>decide (d<2) || decide (n % d≠0)
structure PrS(k:Int):Prop where
 lo:1<k
 hi:k<99
 pr:primeB k.toNat=true
structure Pr(k:Int):Prop where
 lo:1<k
 hi:k<2305843009213693952
 cp:∀ r:Int,0<r->r<k->vC k r=1
def kab(k:Int):Prop:=k=0\/Pr k
def KindS(k:Int):Prop:=k=0\/PrS k
theorem kab.lt(h:kab k):0<=k/\k<2305843009213693952:=by
 rcases h with h|h
 ·omega
 ·have:=h.lo;have:=h.hi;omega
def XD:∀ k<99,primeB k=true->∀ r<k,0<r->gw k r=1:=by decide +kernel
def PrS.big(h:PrS k):Pr k:=by
 refine(h.lo,by have:=h.hi;omega,λr h0 h1=>?_);have:=XD k.toNat (by have:=h.hi;omega) h.pr r.toNat () ();have e1:k.natAbs=k.toNat:=by omega
 have e2:r.natAbs=r.toNat:=by omega
 rw[uZ,e1,e2];exact this
def KindS.ok(h:KindS k):kab k:=h.imp id PrS.big
def Pr.cop(h:Pr k)(h0:0<r)(h1:r<k):vC k r=1:=h.cp r h0 h1
def za5(a b:Int):vC b (a.fmod b)=vC a b:=by
 rw[wbd,Int.gcd_sub_mul_left_right,wbe]
def zb1(a:Int)(hb:b≠0):(a.fmod b).natAbs<b.natAbs:=by
 rcases gX 0 b with h|h
 ·have h1:=wJ a h;have h2:=wR a h;omega
 ·have hb':0 < -b:=by omega
  have h1:=wJ (-a) hb';have h2:=wR (-a) hb';have e:(-a).fmod (-b) = -(a.fmod b):=by
   rw[Int.neg_fmod_neg]
  omega
end Nm
namespace Nm
structure OvInv(p r l g ml mg:Int):Prop where
 l0:0<=l
 l1:l<2305843009213693952
 g0:0<=g
 g1:g<2305843009213693952
 cop:vC l g=1
 left:p ∣ l - ml*r
 right:p ∣ g - mg*r
def zba(h:Pr p)(h0:0<r)(h1:r<p):OvInv p r p r 0 1:=by
 have:=h.lo;have:=h.hi;refine((),(),(),(),h.cop h0 h1,?_,?_)
 ·rw[wbf,Int.sub_zero];exact wbg p
 ·rw[wbq,Int.sub_self];exact waM p
def zc1(h:OvInv p r l g ml mg)(hg:g≠0):OvInv p r g (l - l / g*g) mg (ml - l / g*mg):=by
 have g0:=h.g0;have g1:=h.g1;have e:l - l / g*g=l % g:=by
  have:=gU l g;rw[wbh (l / g) g];omega
 have m0:=GE l hg;have m1:=gK l (show 0<g by omega);refine(g0,g1,(),(),?_,h.right,?_)
 ·rw[Int.gcd_sub_mul_right_right,wbe];exact h.cop
 ·have e2:l - l / g*g - (ml - l / g*mg)*r =(l - ml*r) - l / g *(g - mg*r):=by grind
  rw[e2];exact waY h.left (Gg h.right)
def zcT{l g:Int}(g0:0<=g)(hg:g≠0):(l - l / g*g).toNat<g.toNat:=by
 have e:l - l / g*g=l % g:=by
  have:=gU l g;rw[wbh (l / g) g];omega
 have m1:=gK l (show 0<g by omega);omega
def zga(h:OvInv p r l 0 ml mg)(hp:0<p):p ∣ ml % p*r - 1:=by
 have c:=h.cop;rw[waN]at c;have e:l=1:=by have:=h.l0;omega
 have d:=h.left;rw[e]at d;have e1:ml % p*r - 1 = -(1 - ml*r) - p *(ml / p)*r:=by
  have:=gU ml p
  grind
 rw[e1];exact waY (Int.dvd_neg.mpr d) (Int.dvd_mul_of_dvd_left (waQ p _))
def sg(t b:Int):Int:=if b<0 then -((vC t b:Nat):Int)else((vC t b:Nat):Int)
def zfk(hb:b≠0):sg t b≠0:=by
 have:=GN t hb;unfold sg;split <;> omega
def zif t b:(sg t b).natAbs=vC t b:=by
 unfold sg;split <;> omega
def qo t b:sg t b ∣ t:=by
 unfold sg;split
 ·exact wbr.mpr (gZ t b)
 ·exact gZ t b
def qr t b:sg t b ∣ b:=by
 unfold sg;split
 ·exact wbr.mpr (Go t b)
 ·exact Go t b
def zdu{t b:Int}(hb:b≠0)(h:q.num*b=t*q.den):uf t b=q:=by
 rw[← Gi q];have hd:(q.den:Int)≠0:=by have:=q.den_nz;omega
 rw[GY hb hd];omega
def Zo(hb:b≠0):t.fdiv (sg t b) =(uf t b).num/\b.fdiv (sg t b) =((uf t b).den:Nat):=by
 rw[ug (qo t b),ug (qr t b)];have et:=ga (qo t b);have eb:=ga (qr t b);have hpos:0<b / sg t b:=by
  have hne:b / sg t b≠0:=λz=>by rw[z,wbf]at eb;exact hb eb.symm
  rcases gX b 0 with h|h
  ·have e:sg t b = -((vC t b:Nat):Int):=by unfold sg;rw[bw h]
   have:0<=b / sg t b:=Int.ediv_nonneg_of_nonpos_of_nonpos () ();omega
  ·have e:sg t b =((vC t b:Nat):Int):=by unfold sg;rw[bx ()]
   have:0<=b / sg t b:=wa3 () ();omega
 have hcop:vC (t / sg t b) (b / sg t b)=1:=by
  rw[wbi (qo t b) (qr t b),zif];exact wbj (GN t hb)
 let q:Rat:=(t / sg t b,(b / sg t b).toNat,(),by
  have:(b / sg t b).toNat =(b / sg t b).natAbs:=by omega
  rw[this];exact hcop)
 have hq:uf t b=q:=zdu hb (by
  have e:(((b / sg t b).toNat:Nat):Int)=b / sg t b:=by omega
  rw[e];have:t / sg t b*b=t / sg t b *(b / sg t b*sg t b):=by rw[eb]
  have:t *(b / sg t b)=t / sg t b*sg t b *(b / sg t b):=by rw[et]
  grind)
 rw[hq];refine(V,?_);show b / sg t b =(((b / sg t b).toNat:Nat):Int);omega
def zcm x y:uf (x.num*y.den+y.num*x.den) (x.den*y.den)=x+y:=by
 rw[Rat.add_def',← waa];simp
def zen x y:uf (x.num*y.den - y.num*x.den) (x.den*y.den)=x - y:=by
 rw[Rat.sub_def',← waa];simp
def QG x y:uf (x.num*y.num) (x.den*y.den)=x*y:=by
 rw[Rat.mul_def',← waa];simp
def zhv x y:uf (x.num*y.den) (x.den*y.num)=x / y:=by
 rw[Rat.div_def,Rat.inv_def,← Gi x,wat];simp[Gi]
end Nm
namespace L2
open PySem PySem.Spec PyProof.Rows
def zh7:ci "len" = some (.builtin "len"):=by decide +kernel
def ziB:ci "abs" = some (.builtin "abs"):=by decide +kernel
def zh9:ci "sum" = some (.builtin "sum"):=by decide +kernel
def zcn:ci "sorted" = some (.builtin "sorted"):=by decide +kernel
def zfw:ci "int" = some (.type "int"):=by decide +kernel
def zcW:ci "list" = some (.type "list"):=by decide +kernel
def zaY:ci "tuple" = some (.type "tuple"):=by decide +kernel
def zhM:ci "zip" = some (.type "zip"):=by decide +kernel
def Sm(n:Nat)(x:Int):Prop:=x.natAbs<2^n
def Sm.bits(h:Sm n x):Builtin.Int.intBits x<=n:=by
 unfold Builtin.Int.intBits
 split
 ·exact vI _
 ·rename_i h0;have h0':x.natAbs≠0:=by
   intro z;have e:x=0:=by omega
   rw[e]at h0;exact h0 rfl
  have:=(Nat.log2_lt h0').mpr h;omega
def Sm.mulOk(ha:Sm m a)(hb:Sm n b)(h:m+n<=134217728):IntMulOk a b:=IntMulOk.of_le ha.bits hb.bits h
def Sm.mono(h:Sm m x)(hmn:m<=n):Sm n x:=ve h (vh () hmn)
def Sm.mul(ha:Sm m a)(hb:Sm n b):Sm (m+n) (a*b):=by
 unfold Sm;rw[vR,vY];exact wab ha hb
def Sm.add(ha:Sm n a)(hb:Sm n b):Sm (n+1) (a+b):=by
 unfold Sm at *;rw[gY];have:=GT a b;omega
def Sm.sub(ha:Sm n a)(hb:Sm n b):Sm (n+1) (a - b):=by
 unfold Sm at *;rw[gY];have:=waR a b;omega
def Sm.neg(ha:Sm n a):Sm n (-a):=by
 unfold Sm at *;rw[Int.natAbs_neg];exact ha
def Sm.le(ha:Sm n a)(h:b.natAbs<=a.natAbs):Sm n b:=uu h ha
section
def zG:OpR X (cQ .Mult) (rI IntMulOk λi j=>.int (i*j)):=opI λ_ _ _ _ _ _ _ hc q=>mul_int q hc
end
structure Kn(P:cf)(w:ce)(K:bv)(mg:Str->Option ca)(base:Heap)(x:Str)(k:Nat)(ps:List Str)(sp:Sp):Prop where
 ex:∃(f:Addr)(fd:cY),FnOk P w K mg base CX0 k f fd ps sp/\mg x=some (.ref f)/\PySem.W.keepIn K (.ref f)=true/\Binds K fd ps []
def zi2{p pos:Pos}(D:Kn X.prog X.w X.K X.mg X.base x k ps sp)(L:Room k X.A)(hg:Gl X x)(ha:PA X (e::es) t)
  (hdb:(x ==("__debug__" : Str))=false:=by decide) (he:cu (e::es) X.env =(false,eval e X.env)::cu es X.env:=by rfl) (hpl:(cr pos (cu es X.env)).any (·.1)=false:=by rfl) :
  PE X (.Call (.Name x p) (e::es) [] pos) (tCall sp [] E0 t):=by
 obtain⟨f,fd,F,hm,Z,hb⟩:=D.ex;exact zgk F L hg hm Z hb .nil pass0 ha hdb he hpl
structure Df(K:bv)(mg:Str->Option ca)(x:Str)(ps:List Str)(st:Stmt):Prop where
 ex:∃(f:Addr)(fd:cY),Fun K x x st f fd/\mg x=some (.ref f)/\Binds K fd ps []
section
variable{K:bv}
def Df.kn{st:Stmt}(D:Df K mg x ps st)(S:kay N ps (kag st))(len:∀ vs H Q bP,sp vs H Q bP->vs.length=ps.length)
  (hbody:∀ f cdv A outer s H vs Q bP,Room k (A.deeper (envOfC x (kag st) s.heap.objs.size f cdv))->sp vs H Q bP ->
   ∃ t,PSs (cxOf CX0 P w K mg base N x (kag st) f cdv A outer s H bP).nox (kav st) t/\t { nx:=λ_ H'=>Q .non H',rt:=Q } (start N vs) H):Kn P w K mg base x (k+1) ps sp:=by
 obtain⟨f,fd,F,hm,hb⟩:=D.ex;exact(f,fd,F.ok S len (λcdv A outer s H vs Q bP L h=>hbody f cdv A outer s H vs Q bP L h),hm,F.kp,hb)
def zjv{st:Stmt}{kV doc pm cdv ct:ca}(X:K.In h)(G:h.Ns cg mg)
  (a:PySem.W.nsIn K cg x=some (some (.ref f)))
  (l:K.lookup f=some (oc,od,.func (PySem.W.fnOf x x (kaw st) (kav st) (kag st) .none kV doc pm an cdv ct),osl))
  (c:PySem.W.codeIn K cdv x=true) (k:PySem.W.keepIn K (.ref f)=true)
  (hb:∀ kV doc pm an cdv ct us,us.length=ps.length->cZ (PySem.W.fnOf x x (kaw st) (kav st) (kag st) .none kV doc pm an cdv ct) (us,[])=pure (ps.zip us)):Df K mg x ps st:=by
 have F:=zfG l c k;exact(f,_,F,PySem.W.mg_of X G a,F.binds hb)
end
def bind1{ps:List Str}(h:∀ a0,cZ fd ([a0],[])=pure (ps.zip [a0])) us (e:us.length=1):cZ fd (us,[])=pure (ps.zip us):=by
 match us,e with | [a0],_=>exact h a0
def bind2{ps:List Str}(h:∀ a0 a1,cZ fd ([a0,a1],[])=pure (ps.zip [a0,a1])) us (e:us.length=2):cZ fd (us,[])=pure (ps.zip us):=by
 match us,e with | [a0,a1],_=>exact h a0 a1
def bind3{ps:List Str}(h:∀ a0 a1 a2,cZ fd ([a0,a1,a2],[])=pure (ps.zip [a0,a1,a2])) us (e:us.length=3):cZ fd (us,[])=pure (ps.zip us):=by
 match us,e with | [a0,a1,a2],_=>exact h a0 a1 a2
def bind4{ps:List Str}(h:∀ a0 a1 a2 a3,cZ fd ([a0,a1,a2,a3],[])=pure (ps.zip [a0,a1,a2,a3])) us (e:us.length=4):cZ fd (us,[])=pure (ps.zip us):=by
 match us,e with | [a0,a1,a2,a3],_=>exact h a0 a1 a2 a3
def spLaw(K:bv):Sp:=λvs H Q _=>∃(a:Addr)(ns:List Int),vs=[.ref a]/\SqL K H a (ns.map V.int)/\ns.length<=63/\∀ H',Q (.bl true) H'
def zc(h:H p=none) o:Same H (upd H p o):=λb u q=>by rw[zy (zH q h)];exact q
def zhO {K:bv} {st:Stmt} {kV doc pm cdv ct:ca} (X:K.In h) (G:h.Ns cg mg) (hmg:mg "law" = some (.ref fa))
  (a:PySem.W.nsIn K cg "law" = some (some (.ref f)))
  (l:K.lookup f=some (oc,od,.func (PySem.W.fnOf "law" "law" (kaw st) (kav st) (kag st) .none kV doc pm an cdv ct),osl))
  (c:PySem.W.codeIn K cdv "law" = true) (k:PySem.W.keepIn K (.ref f)=true)
  (hb:∀ kV doc pm an cdv ct v,cZ (PySem.W.fnOf "law" "law" (kaw st) (kav st) (kag st) .none kV doc pm an cdv ct) ([v],[])=pure [(("_law_script" : Str),v)]) :
  ∃ fd:cY,Fun K "law" "law" st fa fd/\∀ s v,BindsTo s fd ([v],[]) [("_law_script",v)]:=by
 have e:=hmg.symm.trans (PySem.W.mg_of X G a);cases e;exact(_,zfG l c k,λs v=>.of_eq (hb _ _ _ _ _ _ v))
def fragFrom:Nat->List Obj->bv
 | _,[]=>[]
 | i,o::r=>match o.data with
  | .freed=>fragFrom (i+1) r
  | _=>(i,o)::fragFrom (i+1) r
def fragH(h:Heap):bv:=fragFrom 0 h.objs.toList
def Yd:∀ l (i a:Nat) o,(fragFrom i l).lookup a=some o->∃ j,a=i+j/\l[j]?=some o/\(∀ c d sl,o≠(c,d,.freed,sl))
 | [],i,a,o,h=>by cases h
 | p::r,i,a,o,h=>by
  unfold fragFrom at h;have go:(fragFrom (i+1) r).lookup a=some o->∃ j,a=i+j/\(p::r)[j]?=some o/\(∀ c d sl,o≠⟨c,d,.freed,sl⟩):=λh=>by
   obtain⟨j,e,e',n⟩:=Yd r (i+1) a o h;exact(j+1,(),by simpa using e',n)
  split at h
  ·exact go h
  ·rename_i hf;rw[wac]at h
   split at h
   ·rename_i e;cases h;have e:a=i:=by simpa using e
    exact(0,(),by simp,λc d sl e=>hf (by rw[e]))
   ·exact go h
def zfb h:(fragH h).In h:=λa o e=>by
 obtain⟨j,rfl,e',n⟩:=Yd _ _ _ _ e;unfold Heap.get?;have e'':h.objs[0+j]?=some o:=by
  rw[uk]
  simpa using e'
 rw[e''];obtain⟨c,d,dt,sl⟩:=o;cases dt <;> first|rfl|exact bK rfl (n _ _ _)
def fnSh(K:bv)(x:Str):Option (cY×Bool×Bool):=match PySem.W.nsIn K cg x with
 | some (some (.ref f))=>(match K.lookup f with
  | some ⟨_,_,.func fd,_⟩=>some ({ fd with kwdefaults:=.none,doc:=.none,pyModule:=.none,annotations:=none,code:=.none,closureTuple:=.none },PySem.W.codeIn K fd.code x,PySem.W.keepIn K (.ref f))
  | _=>none)
 | _=>none
def fnEx(x:Str)(st:Stmt):Option (cY×Bool×Bool):=some (PySem.W.fnOf x x (kaw st) (kav st) (kag st) .none .none .none .none none .none .none,true,true)
def zcJ{K:bv}{st:Stmt}(e:fnSh K x=fnEx x st):∃(f:Addr)(oc:ca)(od an:Option Addr)(osl:Array (Option ca))(kV doc pm cdv ct:ca),
  PySem.W.nsIn K cg x=some (some (.ref f))/\K.lookup f=some (oc,od,.func (PySem.W.fnOf x x (kaw st) (kav st) (kag st) .none kV doc pm an cdv ct),osl) /\
  PySem.W.codeIn K cdv x=true/\PySem.W.keepIn K (.ref f)=true:=by
 unfold fnSh fnEx at e
 split at e
 ·rename_i f hf
  split at e
  ·rename_i oc od fd osl hl;obtain⟨nm,qn,pa,bo,sc,gl,cl,de,kd,dc,pm,an,co,ct,bi⟩:=fd;simp only[Option.some.injEq,Prod.mk.injEq,FuncData.mk.injEq]at e;obtain⟨⟨rfl,rfl,rfl,rfl,rfl,rfl,rfl,rfl,-,-,-,-,-,-,rfl⟩,e1,e2⟩:=e;exact(f,oc,od,an,osl,kd,dc,pm,co,ct,hf,hl,e1,e2)
  ·cases e
 ·cases e
def ctSh(K:bv)(x:Str):Option Int:=match PySem.W.nsIn K cg x with
 | some (some (.int i _))=>some i
 | _=>none
section
variable{K:bv}
def zi9(X:K.In h)(G:h.Ns cg mg)(e:ctSh K x=some i):∃ t,mg x=some (.int i t):=by
 unfold ctSh at e
 split at e
 ·rename_i j t hn;cases e;exact(t,PySem.W.mg_of X G hn)
 ·cases e
def zja{st:Stmt}(X:K.In h)(G:h.Ns cg mg)(e:fnSh K x=fnEx x st)
  (hb:∀ kV doc pm an cdv ct us,us.length=ps.length->cZ (PySem.W.fnOf x x (kaw st) (kav st) (kag st) .none kV doc pm an cdv ct) (us,[])=pure (ps.zip us)):Df K mg x ps st:=by
 obtain⟨f,oc,od,an,osl,kV,doc,pm,cdv,ct,a,l,c,k⟩:=zcJ e;exact zjv X G a l c k hb
def zii {st:Stmt} (X:K.In h) (G:h.Ns cg mg) (hmg:mg "law" = some (.ref fa)) (e:fnSh K "law" = fnEx "law" st)
  (hb:∀ kV doc pm an cdv ct v,cZ (PySem.W.fnOf "law" "law" (kaw st) (kav st) (kag st) .none kV doc pm an cdv ct) ([v],[])=pure [(("_law_script" : Str),v)]) :
  ∃ fd:cY,Fun K "law" "law" st fa fd/\∀ s v,BindsTo s fd ([v],[]) [("_law_script",v)]:=by
 obtain⟨f,oc,od,an,osl,kV,doc,pm,cdv,ct,a,l,c,k⟩:=zcJ e;exact zhO X G hmg a l c k hb
end
def lawOnly(p:cf):cf:={ p with main:={ p.main with body:=p.main.body.filter λst=>match st with
 | .FunctionDef n ..=>n ==("law" : Str)
 | _=>false } }
def looseOf (p:cf):List Str:=(p.main.scope.names.map (·.1)).filter λn=>!(n ==("law" : Str))
def lawRec (p:cf):DefRec:=match PySem.W.defOf (lawOnly p) "law" with
 | some (d,_)=>d
 | none=>("law",{ posonlyargs:=[],args:=[],vararg:=none,kwonlyargs:=[],kw_defaults:=[],kwarg:=none,defaults:=[] },[],{ kind:=.function,names:=[],isGenerator:=false,isCoroutine:=false },default)
def runT(p:cf)(N:Nat)(w:ce)(os:OsState):Option Shared :=
 PySem.W.Fast.tw14082659384304107361 PySem.W.Fast.tw14364793385576792824 p w 11 (some (.ref 6)) N (PySem.W.boot_heap w.params,#[],PySem.W.boot_drawn,PySem.W.boot_toks,os) (PySem.W.topStub p)
def statT(p:cf)(w:ce)(s₁:Shared):Bool:=PySem.W.staticsOk (importedModules p.main.body) (PySem.W.boot_heap w.params) s₁.heap && PySem.W.namesBound p s₁.heap && PySem.W.gensDone s₁ && PySem.W.laidKept (PySem.W.boot_heap w.params) s₁.heap
def seenT p s:=PySem.W.Fast.tw4187177175401517315 (lawOnly p) (looseOf p) (importedModules p.main.body) (λ_=>true) true s
structure Behind{β:Type}(p:cf)(N:Nat)(lk:bv->β)(val:β):Prop where
 st:∀(w:ce)(os:OsState),(runT p N w os).map (statT p w)=some true
 sn:∀(w:ce)(os:OsState),(runT p N w os).map (seenT p)=some (PySem.W.openGood (lawOnly p) (looseOf p))
 lk:∀(w:ce)(os:OsState),(runT p N w os).map (λs=>lk (fragH s.heap))=some val
def zec (w:ce):((PySem.W.boot_heap w.params).isNs cg && (#[]:Array GenState).size == 0)=true/\(PySem.W.boot_heap w.params).objs.size=11/\(PySem.W.boot_heap w.params).nsMap cg "__annotations__" = some (.ref 6):=by
 refine(?_,?_,?_)
 ·kernel_rfl
 ·kernel_rfl
 ·rw[PySem.W.Fast.te8920871248978507458];kernel_rfl
def zds{N:Nat}(e:PySem.W.opening p=PySem.W.plainProg p.main.scope.names)(hN:Nat.ble 600 N=true)(f:∀ s,fenceModules? p s=some s)
  (h:Behind p N lk val) :
  PySem.W.LeftO p (lawOnly p) (looseOf p) (λ_=>true) (λs=>lk (fragH s.heap)) (λ_=>val) N:=λw=>by
 obtain⟨⟨hp,gs,d,k,os⟩,e1,e2⟩:=wG.mp (PySem.W.boot_open e hN f w);obtain⟨rfl,rfl,rfl,rfl⟩ : hp=PySem.W.boot_heap w.params/\gs=#[]/\d=PySem.W.boot_drawn/\k=PySem.W.boot_toks:=by simpa using e2
 obtain⟨z1,z2,z3⟩:=zec w;have zs:=h.st w os;have zn:=h.sn w os;have zl:=h.lk w os;unfold seenT at zn;unfold runT at zs zn zl;rw[← PySem.W.Fast.te14082659384304107361,← PySem.W.Fast.te14364793385576792824]at zs zn zl;rw[← PySem.W.Fast.te4187177175401517315]at zn;obtain⟨s₁,er,es⟩:=wG.mp zs;rw[er]at zn zl;unfold statT at es;unfold PySem.W.openEnds;rw[e1];show(PySem.W.topFrom treeTable p w N _).map _=_;unfold PySem.W.topFrom;rw[z1,z2,z3,er];show((match PySem.W.staticsOk (importedModules p.main.body) (PySem.W.boot_heap w.params) s₁.heap && PySem.W.namesBound p s₁.heap && PySem.W.gensDone s₁ && PySem.W.laidKept (PySem.W.boot_heap w.params) s₁.heap with|true=>some s₁|false=>none).map _:Option _)=_;rw[es];exact congrArg some (Prod.ext (Option.some.inj zn) (Option.some.inj zl))
theorem zbF (k N:Nat) lk (val:β) (ws:PySem.W.Fast.tw9446332074065402090 l=true) (hl:l.name = "law") (hn:l.most=some 63) (hwr:l.writes=false)
  (e:PySem.W.opening l.prog=PySem.W.plainProg l.prog.main.scope.names) (hN:Nat.ble 600 N=true) (f:∀ s,fenceModules? l.prog s=some s)
  (h:Behind l.prog N lk val)
  (hd:PySem.W.defOf (lawOnly l.prog) "law" = some (lawRec l.prog,[])) (hp:l.prog.theDef "law" = some ((lawRec l.prog).params,(lawRec l.prog).body,(lawRec l.prog).scope))
  (Z:PySem.W.kwWritten? (lawRec l.prog).params.kwonlyargs (lawRec l.prog).params.kw_defaults=some []) (hdf:(lawRec l.prog).params.defaults=[]) (hnm:(lawRec l.prog).name = "law")
  (ok:(PySem.W.chainsOk (lawOnly l.prog) && PySem.W.opensWell l.prog && (PySem.W.frees l.row.toRowW && l.row.within.isEmpty))=true) (hb:l.prog.bare) (hw:l.row.toRowW.promised) (hi:PyProof.Rows.importsNone (lawOnly l.prog)=true) (L:Room k callerA)
  (F:∀ w mg fa h K,K.In h->lk K=val->h.Ns cg mg->mg "law" = some (.ref fa) ->
   ∃ fd:cY,(∀ s u,BindsTo s fd ([u],[]) [("_law_script",u)])/\∀ base:Heap,K.In base->base.Ns cg mg->base.NoSeer->FnOk l.prog w K mg base CX0 k fa fd ["_law_script"] (spLaw K)):l.Holds:=by
 rw[← PySem.W.Fast.te9446332074065402090]at ws;refine PySem.W.holds_law ws λsaid=>?_
 have hl':l.row.toRowW.name = "law" := hl;refine PySem.W.holds_open (r:=l.row) (q:=lawOnly l.prog) (loose:=looseOf l.prog) (Xt:=λ_=>true) (XP:=λ_ _=>True) (Yf:=λs=>lk (fragH s.heap)) (Ya:=λ_=>val)
  (YP:=λ_ h=>∃ K:bv,K.In h/\lk K=val) (d:=lawRec l.prog) (kwd:=[]) (N:=N) (zds e hN f h) (λw s e=>(_,zfb _,e)) (λw h h' y kp=>?_) (λ_ _=>True.intro) (λ_ _ _ _ _=>True.intro)
  (by rw[hl'];exact hd) (by rw[hl'];exact hp) Z (λs _=>PySem.W.recFacts_of (R:=[]) rfl) ?_ said ok hb hw ?_
 ·obtain⟨K,i,q⟩:=y;exact(K,i.keeps kp,q)
 ·show(!l.writes || _)=true;rw[hwr];rfl
 ·refine Att.QX hn hdf λw s₀ s₁ mg mb fa o pm cd doc a vs ns G Y ho hd hcd hmg hobj hints hlen hg=>?_
  obtain⟨K,KX,q⟩:=Y;rw[hnm]at hmg;obtain⟨fd,hb,hF⟩:=F w mg fa _ K KX q G.T.g hmg;exact ze2 KX G.T.g G.T.b G.T.builtins G.T.nolimit (G.T.seer hi) hg hobj hints (wE hlen (by decide)) L hF hb (λH hO hS=>(a,ns,V,hS,hlen,λ_=>rfl)) λH e s' z=>z
abbrev nthS(p:cf)(i:Nat):Stmt:=p.main.body.getD i (.Pass (0,0,0,0))
def isFn:Stmt->Bool
 | .FunctionDef ..=>true
 | _=>false
def dfN:Stmt->Str
 | .FunctionDef n ..=>n
 | _ => ""
def parN(s:Stmt):List Str:=(kaw s).args.map (·.arg)
def lcN(s:Scope):List Str:=(s.names.filter λx=>match x.2 with
 | .local=>true
 | .cell=>true
 | _=>false).map (·.1)
inductive LcN:List (Str×bf)->List Str->Prop where
 | nil:LcN [] []
 | loc {x:Str} {r:List (Str×bf)} {N:List Str}:LcN r N->LcN ((x,.local)::r) (x::N)
 | cel {x:Str} {r:List (Str×bf)} {N:List Str}:LcN r N->LcN ((x,.cell)::r) (x::N)
 | glo {x:Str} {r:List (Str×bf)} {N:List Str}:LcN r N->LcN ((x,.globalImplicit)::r) N
def LcN.eq(h:LcN l N):(l.filter λx=>match x.2 with
 | .local=>true
 | .cell=>true
 | _=>false).map (·.1)=N:=by
 induction h with
 | nil=>rfl
 | loc _ ih=>simp[ih]
 | cel _ ih=>simp[ih]
 | glo _ ih=>simp[ih]
def dfsP(p:cf):List (Str×Stmt):=p.main.body.filterMap λs=>match isFn s with
 | true=>some (dfN s,s)
 | false=>none
def ckS(s:Stmt):Bool:=decide ((kag s).kind=.function) && !(kag s).isCoroutine && !(kag s).isGenerator && decide (lcN (kag s)).Nodup && decide ((lcN (kag s)).take (parN s).length=parN s) &&
 (parN s).all (λx=>decide ((kag s).names.lookup x=some .local\/(kag s).names.lookup x=some .cell)) && (kag s).names.all λy=>decide (y.2≠.free)
def zhJ(h:ckS s=true):kay (lcN (kag s)) (parN s) (kag s):=by
 unfold ckS at h;simp only[uK,decide_eq_true_eq,Bool.not_eq_true',ul]at h;obtain⟨⟨⟨⟨⟨⟨a,b⟩,c⟩,d⟩,e⟩,f⟩,g⟩:=h;exact(a,b,c,d,e,f,g)
def XX(h:isFn (nthS p i)=true):(dfN (nthS p i),nthS p i)∈dfsP p:=by
 have m:nthS p i∈p.main.body:=by
  unfold nthS at h ⊢;rw[wc]at h ⊢;cases e:p.main.body[i]? with
  | none=>rw[e]at h;cases h
  | some s=>exact we e
 exact GQ.mpr (_,m,by rw[h])
def YL:List Str:=["abs", "all", "any", "bool", "int", "isinstance", "len", "list", "max", "min", "range", "reversed", "sorted", "str", "sum", "tuple", "zip"]
abbrev GP:Int:=2305843009213693951
def cstP (p:cf):List Str:=(p.main.scope.names.map (·.1)).filter (· == "GREAT_PRIME")
abbrev LkT:=List (Option (cY×Bool×Bool))×List (Option (Option ca))×List (Option Int)
def lkP(p:cf)(K:bv):LkT:=((dfsP p).map λx=>fnSh K x.1,YL.map (PySem.W.nsIn K cg),(cstP p).map (ctSh K))
def lvP(p:cf):LkT:=((dfsP p).map λx=>fnEx x.1 x.2,YL.map λ_=>some none,(cstP p).map λ_=>some GP)
def zg9{K:bv}(q:lkP p K=lvP p) i (h:isFn (nthS p i)=true):fnSh K (dfN (nthS p i))=fnEx (dfN (nthS p i)) (nthS p i):=(gV (f:=λx:Str×Stmt=>fnSh K x.1) (g:=λx=>fnEx x.1 x.2)).mp (congrArg (·.1) q) _ (XX h)
class Bn (p:cf) where
 w:ce
 K:bv
 mg:Str->Option ca
 base:Heap
 h:Heap
 X:K.In h
 G:h.Ns cg mg
 S:base.NoSeer
 q:lkP p K=lvP p
 k:(dfsP p).all (λx=>ckS x.2)=true
section
variable{p:cf}[B:Bn p]
def zhX(h:isFn (nthS p i)=true):kay (lcN (kag (nthS p i))) (parN (nthS p i)) (kag (nthS p i)):=zhJ (ul.mp B.k _ (XX h))
def bn_m(h:x∈YL):B.mg x=none:=PySem.W.mg_none_of B.X B.G ((gV (g:=λ_=>some none)).mp (congrArg (·.2.1) B.q) x h)
def bn_c(h:x∈cstP p):∃ t,B.mg x=some (.int GP t):=zi9 B.X B.G ((gV).mp (congrArg (·.2.2) B.q) x h)
def zi5(h:isFn (nthS p i)=true)
  (hb:∀ kV doc pm an cdv ct us,us.length =(parN (nthS p i)).length->cZ (PySem.W.fnOf (dfN (nthS p i)) (dfN (nthS p i)) (kaw (nthS p i)) (kav (nthS p i)) (kag (nthS p i)) .none kV doc pm an cdv ct) (us,[])=pure ((parN (nthS p i)).zip us)) :
  Df B.K B.mg (dfN (nthS p i)) (parN (nthS p i)) (nthS p i) :=
 zja B.X B.G (gV.mp (congrArg (·.1) B.q) _ (XX h)) hb
variable(p)
abbrev KnI(i k:Nat)(sp:Sp):Prop:=Kn p B.w B.K B.mg B.base (dfN (nthS p i)) k (parN (nthS p i)) sp
variable{p}
def knI i {dl:List Expr}
  (e:nthS p i=.FunctionDef nm ar bo dl rt tp sc ts bi ps)
  (T:(LcN sc.names N\/kay N (ar.args.map (·.arg)) sc)/\∀ f cdv A outer s H bP,N.Nodup->Room k (A.deeper (envOfC nm sc s.heap.objs.size f cdv)) ->
   PSs (cxOf CX0 p B.w B.K B.mg B.base N nm sc f cdv A outer s H bP).nox bo t)
  (b:∀ vs H Q bP,sp vs H Q bP->t { nx:=λ_ H'=>Q .non H',rt:=Q } (start N vs) H)
  (hb:∀ kV doc pm an cdv ct us,us.length =(ar.args.map (·.arg)).length->cZ (PySem.W.fnOf nm nm ar bo sc .none kV doc pm an cdv ct) (us,[])=pure ((ar.args.map (·.arg)).zip us):=by
   exact λ_ _ _ _ _ _ us hl=>by first|exact bind1 (λ_=>rfl) us hl|exact bind2 (λ_ _=>rfl) us hl|exact bind3 (λ_ _ _=>rfl) us hl|exact bind4 (λ_ _ _ _=>rfl) us hl|exact bind5 (λ_ _ _ _ _=>rfl) us hl|exact bind0 rfl us hl|exact bind6 (λ_ _ _ _ _ _=>rfl) us hl)
  (len:∀ vs H Q bP,sp vs H Q bP->vs.length =(ar.args.map (·.arg)).length:=by intro _ _ _ _ h;first| (cases h;subst_vars;rfl) | ((repeat (rcases h with⟨_,h⟩));subst_vars;rfl)):KnI p i (k+1) sp:=by
 have hf:isFn (nthS p i)=true:=by rw[e];rfl
 have D:=zi5 hf (by rw[e];exact hb);have S:=zhX hf;unfold KnI;rw[e]at D S ⊢;have S:kay N (ar.args.map (·.arg)) sc:=T.1.elim (λh=>by
  have hN:lcN sc=N:=h.eq;have S:kay (lcN sc) _ sc:=S;rw[hN]at S;exact S) id
 exact D.kn S len λf cdv A outer s H vs Q bP L h=>(t,T.2 f cdv A outer s H bP S.nd L,b vs H Q bP h)
def lawI {dl:List Expr} (F:Fun B.K "law" "law" (nthS p i) f fd)
  (e:nthS p i=.FunctionDef nm ar bo dl rt tp sc ts bi ps)
  (T:(LcN sc.names N\/kay N (ar.args.map (·.arg)) sc)/\∀ f cdv A outer s H bP,N.Nodup->Room k (A.deeper (envOfC "law" sc s.heap.objs.size f cdv)) ->
   PSs (cxOf CX0 p B.w B.K B.mg B.base N "law" sc f cdv A outer s H bP).nox bo t)
  (b:∀ vs H Q bP,sp vs H Q bP->t { nx:=λ_ H'=>Q .non H',rt:=Q } (start N vs) H)
  (hP:ar.args.map (·.arg)=P:=by rfl)
  (len:∀ vs H Q bP,sp vs H Q bP->vs.length=P.length:=by intro _ _ _ _ h;first| (cases h;subst_vars;rfl) | ((repeat (rcases h with⟨_,h⟩));subst_vars;rfl)):FnOk p B.w B.K B.mg B.base CX0 (k+1) f fd P sp:=by
 have hf:isFn (nthS p i)=true:=by rw[e];rfl
 have S:=zhX hf;rw[e]at S F;have S:kay N (ar.args.map (·.arg)) sc:=T.1.elim (λh=>by
  have hN:lcN sc=N:=h.eq;have S:kay (lcN sc) _ sc:=S;rw[hN]at S;exact S) id
 rw[hP]at S;exact F.ok S len λcdv A outer s H vs Q bP L h=>(t,T.2 f cdv A outer s H bP S.nd L,b vs H Q bP h)
end
end L2
namespace KL
open PySem PySem.Spec PyProof.Rows L2
def se:sizeLine=16777216:=by decide
set_option maxHeartbeats 4000000
abbrev pg:cf:=PySem.Challenge.rw_steermill_k73_whole_least_machines.prog
theorem h_ws:PySem.W.Fast.tw9446332074065402090 PySem.Challenge.rw_steermill_k73_whole_least_machines=true:=by kernel_rfl
def h_st w os:(runT pg 3300 w os).map (statT pg w)=some true:=by kernel_rfl
def h_sn w os:(runT pg 3300 w os).map (seenT pg)=some (PySem.W.openGood (lawOnly pg) (looseOf pg)):=by kernel_rfl
def h_lk w os:(runT pg 3300 w os).map (λs=>lkP pg (fragH s.heap))=some (lvP pg):=by kernel_rfl
def h_ck:(dfsP pg).all (λx=>ckS x.2)=true:=by kernel_rfl
end KL
namespace Nm
inductive Nb where
 | q (r:Rat)
 | z (i:Int)
 deriving DecidableEq
abbrev Tb:=List (List Nb)
def Nb.ok(k:Int):Nb->Prop
 | .q _=>k=0
 | .z i=>k≠0/\0<=i/\i<k
def zinv(k b:Int):Int:=(((wY k.toNat).find? λ(x:Nat)=>decide (k ∣ (x:Int)*b - 1)).getD 0:Nat)
def zbE{k b x y:Int}(hx0:0<=x)(J:x<k)(hy0:0<=y)(hy:y<k)(h1:k ∣ x*b - 1)(h2:k ∣ y*b - 1):x=y:=by
 have h:k ∣ x - y:=by
  have e:x - y=y *(x*b - 1) - x *(y*b - 1):=by grind
  rw[e];exact waY (Gg h1) (Gg h2)
 obtain⟨c,hc⟩:=h
 rcases gX c 0 with h|h
 ·have:k*c<=k *(-1):=uP () ();omega
 ·rcases gX 0 c with h'|h'
  ·have:k*1<=k*c:=uP () ();omega
  ·have:c=0:=by omega
   rw[this,GH]at hc;omega
def zdk(h0:0<=x)(h1:x<k)(h:k ∣ x*b - 1):zinv k b=x:=by
 unfold zinv;cases e:(wY k.toNat).find? λ(x:Nat)=>decide (k ∣ x*b - 1)with
 | none =>
  rw[List.find?_eq_none]at e;have:=e x.toNat (by rw[wP];omega);rw[show(x.toNat:Int)=x by omega]at this;simp[h]at this
 | some y =>
  have hm:=List.mem_of_find?_eq_some e;rw[wP]at hm;have hp:=List.find?_some e;have hp':k ∣ y*b - 1:=by simpa using hp
  show((y:Nat):Int)=x;exact zbE (gj y) () h0 h1 hp' h
def zfU{p r:Int}(hp:0<p):∀(n:Nat)(l g ml mg:Int),g.toNat<n->OvInv p r l g ml mg->∃ x,0<=x/\x<p/\p ∣ x*r - 1
 | 0,_,_,_,_,h,_=>bK h (vN _)
 | n+1,l,g,ml,mg,h,I=>by
  by_cases z:g=0
  ·subst z;exact(ml % p,GE _ (),gK _ hp,zga I hp)
  ·exact zfU hp n _ _ _ _ (ve (zcT I.g0 z) ()) (zc1 I z)
def YN(h:Pr k)(h0:0<b)(h1:b<k):∃ x,0<=x/\x<k/\k ∣ x*b - 1 :=
 zfU (by have:=h.lo;omega) _ _ _ _ _ (gf _) (zba h h0 h1)
def nnum(k w:Int):Nb:=if k=0 then .q (w:Rat)else .z (w.fmod k)
def nadd(k:Int):Nb->Nb->Nb
 | .q a,.q b=>.q (a+b)
 | .z a,.z b=>.z ((a+b).fmod k)
 | _,_=>.z 0
def nsub(k:Int):Nb->Nb->Nb
 | .q a,.q b=>.q (a - b)
 | .z a,.z b=>.z ((a - b).fmod k)
 | _,_=>.z 0
def nmul(k:Int):Nb->Nb->Nb
 | .q a,.q b=>.q (a*b)
 | .z a,.z b=>.z ((a*b).fmod k)
 | _,_=>.z 0
def ndiv(k:Int):Nb->Nb->Nb
 | .q a,.q b=>.q (a / b)
 | .z a,.z b=>.z ((a*zinv k b).fmod k)
 | _,_=>.z 0
def qU(k a:Int):k ∣ a.fmod k - a:=by
 rw[wbd];refine(-(a.fdiv k),?_)
 grind
def yU(r:Rat):(r.den:Int)≠0:=by have:=r.den_nz;omega
def den_pos(r:Rat):0 <(r.den:Int):=by have:=r.den_pos;omega
def zhy{r:Rat}(h:r≠0):r.num≠0:=λz=>h (Rat.num_eq_zero.mp z)
end Nm
namespace L2
open PySem PySem.Spec PyProof.Rows
def kaz(cells:List (Str×Addr)):List (Str×bf)->List (Str×Addr)->List (Str×Addr)
 | [],acc=>acc
 | (n,k)::r,acc=>if (k == NameKind.free)=true then kaz cells r ((n,(cells.lookup n).getD 0)::acc)else kaz cells r acc
def qy f
  (hf:∀ name kind cs,f (name,kind) cs=if (kind == NameKind.free)=true then(do let a ← cellOf env name;pure (.yield ((name,a)::cs)))else pure (.yield cs)) :
  ∀ l acc,(∀ x∈l,x.2=.free->∃ c,env.cells.lookup x.1=some c)->(forIn l acc f:Sem _)=pure (kaz env.cells l acc)
 | [],acc,_=>by rw[List.forIn_nil];rfl
 | (n,k)::r,acc,h=>by
  rw[List.forIn_cons,hf];have L:= λx J=>h x (wt _ J)
  by_cases Z:(k == NameKind.free)=true
  ·obtain⟨c,hc⟩:=h (n,k) wo (by simpa using Z);rw[bw Z];have e:cellOf env n=pure c:=by unfold cellOf;rw[hc]
   rw[e];show(forIn r ((n,c)::acc) f:Sem _)=_;rw[qy f hf r _ L]
   conv=>rhs;unfold kaz
   rw[bw Z,hc]
   rfl
  ·rw[bx Z];show(forIn r acc f:Sem _)=_;rw[qy f hf r _ L]
   conv=>rhs;unfold kaz
   rw[bx Z]
def Xq(h:∀ x∈scope.names,x.2=.free->∃ c,env.cells.lookup x.1=some c):closureFor scope env=pure (kaz env.cells scope.names []):=by
 simp only[closureFor];rw[qy _ (λname kind cs=>by cases Z:kind == NameKind.free <;> simp[Z]) scope.names [] h]
 rfl
def qu:∀ {l:List (Str×bf)} {acc:List (Str×Addr)} {n:Str} {c:Addr},(∀ x∈l,x.2=.free->∃ c,cells.lookup x.1=some c)->(n,c)∈kaz cells l acc ->
  (n,c)∈acc\/((n,NameKind.free)∈l/\cells.lookup n=some c)
 | [],acc,n,c,_,h=>.inl h
 | (m,k)::r,acc,n,c,hl,h=>by
  have L:= λx J=>hl x (wt _ J)
  unfold kaz at h
  by_cases Z:(k == NameKind.free)=true
  ·rw[bw Z]at h;have hk':k=.free:=by simpa using Z
   subst hk';obtain⟨c',hc'⟩:=hl (m,.free) wo rfl
   rcases qu L h with h|⟨h1,h2⟩
   ·rcases wN.mp h with e|h
    ·have hc2:= hc';rw[hc2]at e;cases e;exact .inr (wo,hc')
    ·exact .inl h
   ·exact .inr (wt _ h1,h2)
  ·rw[bx Z]at h
   rcases qu L h with h|⟨h1,h2⟩
   ·exact .inl h
   ·exact .inr (wt _ h1,h2)
def yE{α:Type}:∀ {l:List (Str×α)} {n:Str},(∃ c,(n,c)∈l)->∃ c,l.lookup n=some c
 | [],n,⟨c,h⟩=>nomatch h
 | (m,v)::r,n,⟨c,h⟩=>by
  rw[wac];cases hb:n == m with
  | true=>exact(v,V)
  | false =>
   rcases wN.mp h with e|h
   ·cases e;simp at hb
   ·exact yE (c,h)
def qB:∀ {l:List (Str×bf)} {acc:List (Str×Addr)} {p:Str×Addr},p∈acc->p∈kaz cells l acc
 | [],acc,p,h=>h
 | (m,k)::r,acc,p,h=>by
  unfold kaz
  split
  ·exact qB (wt _ h)
  ·exact qB h
def jo:∀ {l:List (Str×bf)} {acc:List (Str×Addr)} {n:Str},(n,NameKind.free)∈l->∃ c,(n,c)∈kaz cells l acc
 | (m,k)::r,acc,n,h=>by
  unfold kaz
  rcases wN.mp h with e|h
  ·cases e;exact(_,qB wo)
  ·split
   ·exact jo h
   ·exact jo h
def zR:∀ l n acc,bg n l acc=bg n l []++acc
 | [],n,acc=>rfl
 | (m,k)::r,n,acc=>by
  unfold bg
  split
  ·rw[zR r (n+1) ((m,n)::acc),zR r (n+1) [(m,n)],gS];rfl
  ·exact zR r n acc
def xJ:∀ {l:List (Str×bf)} {n:Nat} {x:Str} {c:Addr},(x,c)∈bg n l []->(x,NameKind.cell)∈l
 | (m,k)::r,n,x,c,h=>by
  unfold bg at h
  by_cases Z:(k == NameKind.cell)=true
  ·rw[bw Z,zR]at h
   rcases wp.mp h with h|h
   ·exact wt _ (xJ h)
   ·have e:Prod.mk x c =(m,n):=by simpa using h
    cases e;have:k=.cell:=by simpa using Z
    subst this;exact wo
  ·rw[bx Z]at h;exact wt _ (xJ h)
def xI:∀ {l:List (Str×bf)} {n:Nat} {x:Str},(x,NameKind.cell)∈l->∃ c,(x,c)∈bg n l []
 | (m,k)::r,n,x,h=>by
  unfold bg
  rcases wN.mp h with e|h
  ·cases e;rw[bw (),zR];exact(n,wF _ wo)
  ·split
   ·rw[zR];obtain⟨c,hc⟩:=xI h;exact(c,wO _ hc)
   ·exact xI h
def blk(X:Cx)(own fre:List Str)(scope:Scope)(bO:Addr)(cells:List (Str×Addr))(s₀:Shared)(H₀:Hp)(ex:List Addr)(pn:List (Addr×Obj)):Cx where
 prog:=X.prog
 w:=X.w
 K:=X.K
 mg:=X.mg
 base:=X.base
 A:=X.A
 N:=own++fre
 s₀:=s₀
 H₀:=H₀
 env:=compEnvC scope cells bO X.env
 outer:=X.stack
 stack:=X.stack
 ex:=ex
 fn:=λx=>own.contains x
 calm:=X.calm
 pn:=pn
 xe:=λ_ _=>False
def bst(own:Nat)(idx:List Nat)(E:St):St:=wL own none++idx.map λi=>(E[i]?).join
structure BlkOk(X:Cx)(own fre:List Str)(idx:List Nat)(scope:Scope):Prop where
 kind:scope.kind=.function
 free:(scope.names.all λx=>x.2 != .free || (X.env.kindOf x.1 == some .cell || X.env.kindOf x.1 == some .free))=true
 loc:(scope.names.all λx=>x.2 != .local || scope.names.lookup x.1 == some .local)=true
 ownB:(scope.names.all λx=>x.2 != .free || !own.contains x.1)=true
 freB:((fre.zip idx).all λp=>scope.names.lookup p.1 == some .free && X.N[p.2]? == some p.1)=true
 len:fre.length=idx.length
 nd:(scope.names.map (·.1)).Nodup
def zhr{l:List (Str×bf)}:(l.map (·.1)).Nodup->∀ {x:Str} {k1 k2:bf},(x,k1)∈l->(x,k2)∈l->k1=k2:=by
 induction l with
 | nil=>intro _ x k1 k2 h;exact nomatch h
 | cons p r ih =>
  intro nd x k1 k2 h1 h2;rw[Gb,Gd]at nd
  rcases wN.mp h1 with e1|h1 <;> rcases wN.mp h2 with e2|h2
  ·rw[← e1]at e2;cases e2;rfl
  ·exact bK (wj.mpr (_,h2,by rw[← e1])) nd.1
  ·exact bK (wj.mpr (_,h1,by rw[← e2])) nd.1
  ·exact ih nd.2 h1 h2
section
def BlkOk.freeC(B:BlkOk X own fre idx scope)(J:x∈scope.names)(h:x.2=.free):X.env.kindOf x.1=some .cell\/X.env.kindOf x.1=some .free:=by
 have:=ul.mp B.free x J;rw[h]at this
 simpa using this
def BlkOk.cells(B:BlkOk X own fre idx scope)(ok:X.Ok):∀ x∈scope.names,x.2=.free->∃ c,X.env.cells.lookup x.1=some c:=λx J h=>ok.has x.1 (B.freeC J h)
def rl(env:Env)(p:Str×bf):Str×bf:=if (p.2 == NameKind.free && env.scope.kind == .function && env.kindOf p.1 == some .cell)=true then(p.1,NameKind.cell)else p
def zfW env p:(rl env p).1=p.1:=by unfold rl;split <;> rfl
def zft env p:(rl env p).2=p.2\/((rl env p).2=.cell/\p.2=.free):=by
 unfold rl
 split
 ·rename_i hc;rw[uK,uK]at hc;exact .inr (V,by simpa using hc.1.1)
 ·exact .inl rfl
def xO{α:Type} p (r:List (Str×α)) x:(p::r).lookup x=if (x == p.1)=true then some p.2 else r.lookup x:=by
 rw[show p =(p.1,p.2)from rfl,wac];cases x == p.1 <;> rfl
def xY:∀ {l:List (Str×bf)} {x:Str} {k:bf},(l.map (rl env)).lookup x=some k->(l.lookup x=some k\/(k=.cell/\l.lookup x=some .free))
 | [],x,k,h=>by simp at h
 | p::r,x,k,h=>by
  rw[Gb,xO,zfW]at h;rw[xO]
  by_cases J:(x == p.1)=true
  ·rw[bw J]at h ⊢
   rcases zft env p with e|⟨e1,e2⟩
   ·rw[e]at h;exact .inl h
   ·rw[e1]at h;cases h;rw[e2];exact .inr (V,V)
  ·rw[bx J]at h ⊢;exact xY h
def Zb:∀ {l:List (Str×bf)} {x:Str},l.lookup x=some .free->(l.map (rl env)).lookup x=some .cell\/(l.map (rl env)).lookup x=some .free
 | [],x,h=>by simp at h
 | p::r,x,h=>by
  rw[xO]at h;rw[Gb,xO,zfW]
  by_cases J:(x == p.1)=true
  ·rw[bw J]at h ⊢
   rcases zft env p with e|⟨e1,e2⟩
   ·rw[e];exact .inr h
   ·rw[e1];exact .inl rfl
  ·rw[bx J]at h ⊢;exact Zb h
def za2(B:BlkOk X own fre idx scope)(ok:X.Ok){n:Nat}{x:Str}{c:Addr}(h:(bg n scope.names (kaz X.env.cells scope.names [])).lookup x=some c) :
  ((x,c)∈bg n scope.names []/\(x,NameKind.cell)∈scope.names)\/((x,NameKind.free)∈scope.names/\X.env.cells.lookup x=some c):=by
 have h1:=mem_of_lookup h;rw[zR]at h1
 rcases wp.mp h1 with h1|h1
 ·exact .inl (h1,xJ h1)
 ·rcases qu (B.cells ok) h1 with h1|h1
  ·exact nomatch h1
  ·exact .inr h1
end
section
def Jv{elt target iter:Expr}{ifs:List Expr}{scope:Scope}{pos:Pos}{it acc:ca}{env:Env}(I:Nat->Shared->Prop)
  (turn:∀ n s,I n s->cm (cq prog w) A (pyNext it) (λr s₁=>match r with
   | none=>R (.ok .next) s₁
   | some v=>cm (cq prog w) A (cK target it v) (λ_ s₂=>cm (cq prog w) A (assign target env v) (λ_ s₃ =>
     cm (cq prog w) A (forIn ifs true λc r=>if r=true then do let ok ← isTrue c env (eval c env);pure (ForInStep.yield ok)else pure (ForInStep.yield r)) (λok s₄ =>
      if ok=true then cm (cq prog w) A (eval elt env) (λx s₅ =>
       cm (cq prog w) A (call (.builtin "list.append") [acc,x]) (λ_ s₆=>∃ m,m<n/\I m s₆) (λ_ _=>False) s₅) (λ_ _=>False) s₄
      else ∃ m,m<n/\I m s₄) (λ_ _=>False) s₃) (λ_ _=>False) s₂) (λ_ _=>False) s₁) (λ_ _=>False) s)
  (n:Nat) (h:I n s) :
  codeAny (cq prog w) A (.compLoop (.ListComp elt [(target,iter,ifs,0)] scope pos) 0 it acc env) R s:=by
 refine codeAny_loop rfl I (λn s hI=>?_) n h;refine wpAny_noted ?_;rw[compTurn_list];refine cD (cF (cD (cv (turn n s hI) (λr s₁ h₁=>?_) λ_ _ h'=>h'.elim)));cases r with
 | none=>exact cG h₁
 | some v =>
  refine cD (cv h₁ (λ_ s₂ h₂=>?_) λ_ _ h'=>h'.elim);refine cD (cv h₂ (λ_ s₃ h₃=>cD (cv h₃ (λok s₄ h₄=>?_) λ_ _ h'=>h'.elim)) λ_ _ h'=>h'.elim);cases ok with
  | false=>exact cG (V,h₄)
  | true =>
   exact cD (cD (cv h₄ (λx s₅ h₅=>cD (cv h₅ (λ_ s₆ h₆=>cG (cG (V,h₆))) λ_ _ h'=>h'.elim)) λ_ _ h'=>h'.elim))
end
section
variable{E:St}
abbrev bcells(X:Cx)(scope:Scope)(bO:Addr):List (Str×Addr):=bg (bO+1) scope.names (kaz X.env.cells scope.names [])
abbrev dictO:Obj:={ cls:=.type "dict",data:=.dict #[] }
def zb3{own:Nat}(h:(bst own idx E)[i]?=some (some v)):∃ j k,i=own+j/\idx[j]?=some k/\E[k]?=some (some v):=by
 unfold bst at h
 by_cases hi:i<own
 ·rw[vk (by simpa using hi)]at h;rw[vU]at h;rw[bw hi]at h;cases h
 ·rw[wW (by simpa using waX hi)]at h;rw[wQ,wg]at h;cases e:idx[i - own]? with
  | none=>rw[e]at h;cases h
  | some k =>
   rw[e]at h;refine(i - own,k,(),e,?_);have h':some ((E[k]?).join)=some (some v):=h;have h2:=Option.some.inj h';cases e2:E[k]? with
   | none=>rw[e2]at h2;cases h2
   | some o=>rw[e2]at h2;rw[show o=some v from h2]
def zdt(B:BlkOk X own fre idx scope)(I:Inv X pins E H s){ex:List Addr}(hex:∀ b∈ex,FpOk X pins H b/\b<s.heap.objs.size) :
  Inv (blk X own fre scope s.heap.objs.size (bcells X scope s.heap.objs.size) s H ex (X.pn++pins)) [] (bst own.length idx E) H { s with heap:=pushCells (s.heap.push dictO) scope.names }:=by
 have ok:=I.ok;have hsz:(s.heap.push dictO).objs.size=s.heap.objs.size+1:=Heap.size_push ..;have keep:∀ b o,s.heap.get? b=some o->(pushCells (s.heap.push dictO) scope.names).get? b=some o:=λb o e=>pushCells_keeps _ _ b o (Heap.get?_push_of_some _ e)
 have cok:=cellsFrom_ok scope.names (s.heap.push dictO) (s.heap.objs.size+1) [] (λ_ _ hm=>(nomatch hm),List.Pairwise.nil) (by rw[hsz];exact ww _);rw[hsz]at cok;have freeLt:= λx c e=>let ⟨_,h⟩:=I.cell x c e;h.lt
 have cellC:∀ x c,(bcells X scope s.heap.objs.size).lookup x=some c->(s.heap.objs.size+1<=c/\(pushCells (s.heap.push dictO) scope.names).IsCell c none/\(x,c)∈bg (s.heap.objs.size+1) scope.names []/\(x,NameKind.cell)∈scope.names)\/(X.env.cells.lookup x=some c/\c<s.heap.objs.size/\(x,NameKind.free)∈scope.names):=λx c e=>by
  rcases za2 B ok e with⟨h1,h2⟩|⟨h1,h2⟩
  ·exact .inl ((cok.empty x c h1).2,(cok.empty x c h1).1,h1,h2)
  ·exact .inr (h2,freeLt x c h2,h1)
 have hfs:∀ b∈frs X.stack,b<s.heap.objs.size:=λb hb=>by
  rcases wN.mp (I.stkSub b hb)with e|hb
  ·rw[e];exact I.lt
  ·obtain⟨_,o,ho,_⟩:=I.ok.funs.mem hb;exact ve (Heap.lt_size ho) I.sz
 have OK:(blk X own fre scope s.heap.objs.size (bcells X scope s.heap.objs.size) s H ex (X.pn++pins)).Ok:=by
  refine(ok.mod,B.kind,ok.glob,ok.blt,ww _,?_,?_,?_,ok.hd,ok.frames,.inl rfl,?_,λb o e=>I.bs b o e,wE ok.bsz I.sz,?_,?_,I.stack,I.stkFree)
  ·intro x y c e1 e2
   rcases cellC x c e1 with⟨l1,_,m1,_⟩|⟨f1,l1,_⟩ <;> rcases cellC y c e2 with⟨l2,_,m2,_⟩|⟨f2,l2,_⟩
   ·exact name_of_addr cok.apart m1 m2
   ·exact bK (ve l2 (GU l1)) (ur _)
   ·exact bK (ve l1 (GU l2)) (ur _)
   ·exact ok.inj x y c f1 f2
  ·intro x Z;have hk':= Z;have hor:(x,NameKind.cell)∈scope.names\/(x,NameKind.free)∈scope.names:=by
    rcases hk' with h|h
    ·rcases xY h with h|⟨_,h⟩
     ·exact .inl (mem_of_lookup h)
     ·exact .inr (mem_of_lookup h)
    ·rcases xY h with h|⟨h,_⟩
     ·exact .inr (mem_of_lookup h)
     ·cases h
   refine yE ?_;show ∃ c,(x,c)∈bg (s.heap.objs.size+1) scope.names (kaz X.env.cells scope.names []);rw[zR]
   rcases hor with h|h
   ·obtain⟨c,hc⟩:=xI h;exact(c,wO _ hc)
   ·obtain⟨c,hc⟩:=jo h;exact(c,wF _ hc)
  ·intro x c hf e
   rcases cellC x c e with⟨l1,_⟩|⟨_,_,m1⟩
   ·show s.heap.objs.size<=c;omega
   ·have:=ul.mp B.ownB _ m1;have hf':own.contains x=true:=hf;rw[hf']at this;simp at this
  ·intro b hb;obtain⟨⟨_,_,_,_,f4,_⟩,hlt⟩:=hex b hb;refine(vf hlt,λx c e=>?_)
   rcases cellC x c e with⟨l1,_⟩|⟨f1,_,_⟩
   ·exact Ne.symm (vf (ve hlt (GU l1)))
   ·exact f4 x c f1
  ·intro b o e hb;obtain⟨⟨_,_,_,f3,_,_⟩,_⟩:=hex b hb
   rcases f3 with f3|f3
   ·exact ok.noex b o e f3
   ·exact bK (Heap.lt_size (ok.bs b o e).1) (Nat.not_lt.mpr f3)
  ·intro b hb hm;obtain⟨⟨_,f1,f2,_⟩,_⟩:=hex b hb
   rcases wN.mp (I.stkSub b hm)with e|hm
   ·exact f1 e
   ·exact f2 hm
 refine(OK,V,I.bare,Un.kept keep,?_,?_,I.fresh,?_,?_,I.hok.kept keep,?_)
 ·refine(λ_=>none,(Heap.Ns.new s.heap (.type "dict")).keeps (pushCells_keeps _ _),λi x v e1 e2 e3=>?_);obtain⟨j,k,rfl,hj,Z⟩:=zb3 e2;have e1':(own++fre)[own.length+j]?=some x:=e1;rw[wW (wad _ _),vK]at e1';have hz:(x,k)∈fre.zip idx:=by
   refine wau.mpr (j,?_);rw[gx];exact(e1',hj)
  have hq:=ul.mp B.freB _ hz;rw[uK]at hq;have q1:scope.names.lookup x=some .free:=by simpa using hq.1
  have q2:X.N[k]?=some x:=by simpa using hq.2
  have kin:=B.freeC (mem_of_lookup q1) rfl;have vis:Vis X.env.scope x:=.inr kin;obtain⟨m,hn,hl⟩:=I.loc;obtain⟨u,r,look⟩:=hl k x v q2 Z vis;refine(u,r,?_);obtain⟨c,hc,hcell⟩ : ∃ c,X.env.cells.lookup x=some c/\s.heap.IsCell c (some u):=by
   rcases look with⟨hk1,_⟩|⟨_,c,e,z⟩
   ·rcases kin with h|h <;>(rw[hk1]at h;cases h)
   ·exact(c,e,z)
  refine .inr (Zb q1,c,?_,hcell.keeps keep);have hl2:∃ c',(bcells X scope s.heap.objs.size).lookup x=some c':=by
   refine yE ?_;show ∃ c,(x,c)∈bg (s.heap.objs.size+1) scope.names (kaz X.env.cells scope.names []);rw[zR];obtain⟨c,hc⟩:=jo (mem_of_lookup q1);exact(c,wF _ hc)
  obtain⟨c',hc'⟩:=hl2
  rcases za2 B ok hc' with⟨_,h2⟩|⟨_,h2⟩
  ·exact nomatch zhr B.nd h2 (mem_of_lookup q1)
  ·rw[hc]at h2;cases h2;exact hc'
 ·intro x c e
  rcases cellC x c e with⟨_,h,_⟩|⟨h,_,_⟩
  ·exact(none,h)
  ·obtain⟨v,z⟩:=I.cell x c h;exact(v,z.keeps keep)
 ·intro x c e
  rcases cellC x c e with⟨l,_⟩|⟨h,_,_⟩
  ·exact I.hok.fresh ()
  ·exact I.freeC x c h
 ·intro p hp;rw[vW]at hp;obtain⟨h1,h2,h3,h4,h5⟩:=I.pin p hp;refine(keep _ _ h1,h2,vf (Heap.lt_size h1),λhm=>?_,h5)
  rcases wN.mp (I.stkSub p.1 hm)with e|hm
  ·exact h3 e
  ·exact h4 hm
 ·show(bst own.length idx E).length =(own++fre).length;unfold bst;rw[wy,wQ,wa,wy,B.len]
def zgv{bO D:Addr}{cells:List (Str×Addr)}{s₀ s':Shared}{H₀ H':Hp}{fp:List Addr}{pl:List (Addr×Obj)}{σb:St}{ys:List V}{its:List ca}{n:Nat}(I:Inv X pins E H₀ s₀)(I':Inv (blk X own fre scope bO cells s₀ H₀ (D::fp) (X.pn++pins)) pl σb H' s')
  (hfp:∀ b∈fp,FpOk X pins H₀ b) (hD:FpOk X pins H₀ D) (hD':H' D=none) (hv:Vals ys its) (hz:ys.length<=sizeLine) (e:s'.heap.get? D=some { cls:=.type "list",data:=.seq its.toArray n }) :
  Inv X pins E (upd H' D (.lst ys)) s':=by
 have u:=I'.base;have nD:= hD.1;refine I.call' (H':=upd H' D (.lst ys)) I'.os (u.keep,u.slot,λb o h1 h2 h3=>?_,u.there,λb xs h=>?_,λb o v h=>?_,λb ps h=>?_) (λb o h=>?_) I'.bare λb hb=>?_
 ·rw[zy (λz=>h3 (by rw[z];exact wo))];exact u.free b o h1 h2 h3
 ·rw[zy (zH h nD)];exact u.tups b xs h
 ·rw[zy (zH h nD)];exact u.frzs b o v h
 ·rw[zy (zH h nD)];exact u.tbls b ps h
 ·by_cases hb:b=D
  ·subst hb;rw[zd]at h;cases h;exact(hz,its,n,hv,e)
  ·rw[zy hb]at h;exact(I'.hok b o h).stay (λc v _ q=>q) (λc q=>by rw[zy (zH q hD')];exact q) λc xs q=>by rw[zy (zH q hD')];exact q
 ·rcases wN.mp hb with rfl|hb
  ·obtain⟨_,f1,_,f3,f4,f5⟩:=hD;exact(f3,f1,f4,f5)
  ·obtain⟨_,f1,_,f3,f4,f5⟩:=hfp b hb;exact(f3,f1,f4,f5)
def GOwn(k:Nat)(g:TG):Prop:=∀ v E H Q,g v E H Q->g v E H λσ' H'=>Q σ' H'/\σ'.drop k=E.drop k/\σ'.length=E.length
def GOwns(k:Nat)(g:TGs):Prop:=∀ v E H Q,g v E H Q->g v E H λσ' H'=>Q σ' H'/\σ'.drop k=E.drop k/\σ'.length=E.length
def jZ(h:i<k):GOwn k (gName i):=λv E H Q q=>(q,by rw[List.drop_set_of_lt h],vv)
def zdq:GOwns k gNil:=λv E H Q ⟨e,q⟩=>(e,q,V,V)
def YJ(ht:GOwn k t)(hm:∀ v E H Q Q',(∀ σ' H',Q σ' H'->Q' σ' H')->t v E H Q->t v E H Q')(hu:GOwns k u):GOwns k (gCons t u):=λvs E H Q ⟨v,r,e,q⟩ =>
 (v,r,e,hm _ _ _ _ _ (λσ' H' ⟨q1,q2,q3⟩=>by
  have q4:=hu _ _ _ _ q1;rw[q2,q3]at q4;exact q4) (ht _ _ _ _ q))
def YX:∀ v E H (Q Q':St->Hp->Prop),(∀ σ' H',Q σ' H'->Q' σ' H')->gName i v E H Q->gName i v E H Q':=λ_ _ _ _ _ h q=>h _ _ q
def zet{K:bv}(h:GOwns k t):GOwn k (gTup K n t):=λv E H Q ⟨a,xs,e,h1,h2,q⟩=>(a,xs,e,h1,h2,h _ _ _ _ q)
def zay{own:Nat}{E σ':St}(hd:σ'.drop own =(bst own idx E).drop own)(i:Nat) v (h:(bst own idx E)[i]?=some (some v)):σ'[i]?=some (some v):=by
 obtain⟨j,k,rfl,_,_⟩:=zb3 h;rw[← gk,hd,gk];exact h
def tCompW(own:Nat)(idx:List Nat)(wi:TI)(g:TG)(tt:TT)(te:TE)(R:List V->Hp->Prop):St->Hp->Prop:=λE H=>wi E H λbN H1=>∃ W:Nat->Nat->List V->Hp->Prop,(∃ m,W 0 m [] H1)/\∀ i m ys H,W i m ys H ->
 (bN.stop i H/\ys.length<=sizeLine/\R ys H) \/
 (bN.go i H/\ys.length<sizeLine/\∀ x H',bN.yld i H x H'->g x (bst own idx E) H' λσ2 H2=>tt σ2 H2 λb H3=>if b=true then te σ2 H3 λy H4=>∃ m',m'<m/\W (i+1) m' (ys++[y]) H4 else ∃ m',m'<m/\W (i+1) m' ys H3)
def PTs(Y:Cx)(ifs:List Expr)(t:TT):Prop:=∀(pins:List (Addr×Obj))(s:Shared)(E:St)(H:Hp)(Q:Bool->Hp->Prop),Inv Y pins E H s->t E H Q ->
 cm (cq Y.prog Y.w) Y.A (forIn ifs true λc r=>if r=true then do let ok ← isTrue c Y.env (eval c Y.env);pure (ForInStep.yield ok)else pure (ForInStep.yield r)) (TP Y pins E Q) Y.xe s
def tTrue:TT:=λ_ H Q=>Q true H
def zhk:PTs Y [] tTrue:=λpins s E H Q I h=>wpAny_tests_nil (H,I,h)
def zgm(h:PT Y c t):PTs Y [c] t:=λpins s E H Q I hq=>wpAny_tests_one (h pins s E H Q I hq)
def za7(B:BlkOk X own fre idx scope)(hc:X.calm=true)(hi:PI X tg iter wi)(hg:GOwn own.length g)
  (hb:∀ bO cells s₀ H₀ ex pn,PG (blk X own fre scope bO cells s₀ H₀ ex pn) tg g/\PTs (blk X own fre scope bO cells s₀ H₀ ex pn) ifs tt/\PE (blk X own fre scope bO cells s₀ H₀ ex pn) elt te)
  (hs:∀ x,cP iter X.env x=pure x) (I:Inv X pins E H s) (h:tCompW own.length idx wi g tt te R E H)
  (hq:∀ ys H' s' bO D m,R ys H'->H' D=none->Inv X pins E (upd H' D (.lst ys)) s'->s'.heap.Ns bO m->upd H' D (.lst ys) bO=none->FpOk X pins (upd H' D (.lst ys)) bO ->
   compPost (cq X.prog X.w) X.A X.xe use Q (.ref D) bO (.ok .next) s') :
  cm (cq X.prog X.w) X.A (comprehension (.ListComp elt [(tg,iter,ifs,0)] scope pos) scope X.env (firstIterPos [(tg,iter,ifs,0)] pos) (newList []) false (eval iter X.env) use) Q X.xe s:=by
 have hnames:∀ x∈scope.names,x.2=.local->scope.names.lookup x.1=some .local:=λx J hl=>by
  have:=ul.mp B.loc x J;rw[hl]at this
  simpa using this
 refine wpAny_comprehension_free rfl hs (Xq (B.cells I.ok)) B.kind hnames (cv (hi pins s E H _ I h) (λv s1 h1=>cv h1 (λitv s2 h2=>?_) λ_ _ e=>e) λ_ _ e=>e);obtain⟨it,fp,tn,bN,H2,rfl,I2,T,st2,f2,W,⟨m0,w0⟩,turn⟩:=h2;refine wpAny_newObj_type ?_;generalize hs3:({ s2 with heap:=s2.heap.push { cls:=.type "list",dict:=none,data:=.seq ([]:List ca).toArray } }:Shared)=s3;have hD3:s3.heap.get? s2.heap.objs.size=some { cls:=.type "list",data:=.seq ([]:List ca).toArray 0 }:=by rw[← hs3];exact Heap.get?_push_size _ rfl
 have keep23:∀ b o,s2.heap.get? b=some o->s3.heap.get? b=some o:=λb o e=>by rw[← hs3];exact Heap.get?_push_of_some _ e
 have I3:Inv X pins E H2 s3:=by rw[← hs3];exact I2.kept (t':=s2.toks) λb o e=>Heap.get?_push_of_some _ e
 have sz3:s3.heap.objs.size=s2.heap.objs.size+1:=by rw[← hs3];exact Heap.size_push ..
 generalize hD:s2.heap.objs.size=D at *;have nD:H2 D=none:=by rw[← hD];exact I2.fresh
 have okD:= I2.fpOk (by rw[hD];exact ww _) nD;have ltfp:∀ b∈fp,b<D:=λb hb=>by
  obtain⟨o,ho,_⟩:=T.obj _ _ st2 b hb;rw[← hD];exact Heap.lt_size ho
 simp only[newFunctionEnv,Option.isSome_some,if_true];refine cD (wpAny_alloc ?_);refine cD (wpAny_layCells _ (λname kind cells=>by cases hkc:kind == NameKind.cell <;> simp[hkc]) _ _ _ _ ?_);refine cD (cG (cG ?_));have I4:=zdt B I3 (λb hb=>by
  rcases wN.mp hb with rfl|hb
  ·exact(okD,by rw[sz3];exact gf _)
  ·exact(f2 b hb,by rw[sz3];exact Gp (ltfp b hb)))
 generalize hs4:({ s3 with heap:=pushCells (s3.heap.push dictO) scope.names }:Shared)=s4 at I4;have keep34:∀ b o,s3.heap.get? b=some o->s4.heap.get? b=some o:=λb o e=>by rw[← hs4];exact pushCells_keeps _ _ b o (Heap.get?_push_of_some _ e)
 generalize hY:blk X own fre scope s3.heap.objs.size (bcells X scope s3.heap.objs.size) s3 H2 (D::fp) (X.pn++pins)=Y at I4;have YA:Y.A=X.A:=by rw[← hY];rfl
 have Yp:Y.prog=X.prog:=by rw[← hY];rfl
 have Yw:Y.w=X.w:=by rw[← hY];rfl
 have YK:Y.K=X.K:=by rw[← hY];rfl
 have Yc:Y.calm=true:=by rw[← hY];exact hc
 have Yx:Y.xe=λ_ _=>False:=by rw[← hY];rfl
 have Yex:Y.ex=D::fp:=by rw[← hY];rfl
 have Ypn:Y.pn=X.pn++pins:=by rw[← hY];rfl
 have YL:Y.env.locals=s3.heap.objs.size:=by rw[← hY];rfl
 have hbY:PG Y tg g/\PTs Y ifs tt/\PE Y elt te:=by rw[← hY];exact hb ..
 have nDY:D≠Y.env.locals:=by rw[YL,sz3];exact vf (gf _)
 have okY:=I4.ok;have fsD:= okY.exfs D (by rw[Yex];exact wo);have pnD:∀ p∈Y.pn,p.1≠D:=by rw[Ypn];exact okD.2.2.2.2.2
 have FO:∀ {H':Hp} {o:Obj},(∀ b∈fp,H' b=none)->∀ b∈fp,FpOk Y [(D,o)] H' b:=λ{H' o} hn b hb=>by
  have m:b∈Y.ex:=by rw[Yex];exact wt _ hb
  refine(hn b hb,(okY.exf b m).1,okY.exfs b m,.inl m,(okY.exf b m).2,λp hp=>?_)
  rcases wp.mp hp with hp|hp
  ·rw[Ypn]at hp;exact(f2 b hb).2.2.2.2.2 p hp
  ·have e:p =(D,o):=by simpa using hp
   rw[e];exact Ne.symm (vf (ltfp b hb))
 have pinD:∀ {pl:List (Addr×Obj)} {σ':St} {H':Hp} {s':Shared} {o:Obj},Inv Y pl σ' H' s'->s'.heap.get? D=some o->H' D=none->(∀ v,o.data≠.cell v)->Inv Y [(D,o)] σ' H' s':=λ{pl σ' H' s' o} I' e hn hd=>I'.pins_of λp hp=>by
  have e':p =(D,o):=by simpa using hp
  subst e';exact(e,hn,nDY,fsD,hd)
 have loop:codeAny (cq X.prog X.w) X.A (.compLoop (.ListComp elt [(tg,iter,ifs,0)] scope pos) 0 (.ref it) (.ref D) Y.env) (compPost (cq X.prog X.w) X.A X.xe use Q (.ref D) s3.heap.objs.size) s4:=by
  refine Jv (λn s'=>∃ i ys its k H',Inv Y [(D,({ cls:=.type "list",data:=.seq (its:List ca).toArray k }:Obj))] (bst own.length idx E) H' s'/\tn i s'.heap/\(∀ b∈fp,H' b=none)/\Vals ys its/\ys.length<=sizeLine/\W i n ys H') ?_ m0
   (0,[],[],0,H2,pinD I4 (keep34 _ _ hD3) nD (λv z=>nomatch z),T.keep _ _ _ st2 λb _ o e=>keep34 _ _ (keep23 _ _ e),λb hb=>(f2 b hb).1,.nil,vI _,w0)
  rintro n s' ⟨i,ys,its,k,H',I',st',fr',hv,hz,w'⟩
  rcases turn i n ys H' w' with⟨stop,hl,hR⟩|⟨go,hl,step⟩
  ·have z:=T.done Y Yp Yw YK Yc i _ s' _ H' (λ_ _=>False) I' (FO fr') st' stop;rw[YA]at z;refine thn z λr s5 ⟨L,I5⟩=>?_
   subst L;have pD5:=I5.pin _ (wF _ wo);have I5':=I5;rw[← hY]at I5';have bP:=zgv I3 I5' (λb hb=>f2 b hb) okD pD5.2.1 hv hl pD5.1;obtain⟨m5,hm5,_⟩:=I5.loc;rw[YL]at hm5;have nL:H' s3.heap.objs.size=none:=by rw[← YL];exact I5.free
   have nL':upd H' D (.lst ys) s3.heap.objs.size=none:=by rw[zy (by rw[← YL];exact Ne.symm nDY)];exact nL
   exact hq ys H' s5 _ D m5 hR pD5.2.1 bP hm5 nL' (I3.fpOk (ww _) nL')
  ·have z:=T.item Y Yp Yw YK Yc i _ s' _ H' (λ_ _=>False) I' (FO fr') st' go;rw[YA]at z;refine thn z λr s5 ⟨u,L,h5⟩=>?_
   subst L;refine thn h5 λ_ s6 ⟨x,H6,I6,r6,y6,st6,fr6⟩=>?_
   have I6':=I6.pinned (FO fr6) (T.obj _ _ st6);have z7:=hbY.1 _ s6 _ H6 x u _ I6' r6 (hg _ _ _ _ (step x H6 y6));rw[Yp,Yw,YA,Yx]at z7;refine thn z7 λ_ s7 ⟨σ7,H7,I7,q7,d7,l7⟩=>?_
   have z8:=hbY.2.1 _ s7 σ7 H7 _ I7 q7;rw[Yp,Yw,YA,Yx]at z8;refine thn z8 λok s8 ⟨H8,I8,q8⟩=>?_
   have tnK:∀ {σ9:St} {H9:Hp} {s9:Shared},Inv Y ([(D,({ cls:=.type "list",data:=.seq its.toArray k }:Obj))]++pinsAt fp s6.heap) σ9 H9 s9->tn (i+1) s9.heap/\∀ b∈fp,H9 b=none:=λI9 =>
    (T.keep _ _ _ st6 λb hb o e=>(I9.pin (b,o) (wF _ (wF _ (jj hb e)))).1,λb hb=>by
     obtain⟨o,e,d⟩:=T.obj _ _ st6 b hb;exact(I9.pin (b,o) (wF _ (wF _ (jj hb e)))).2.1)
   cases ok with
   | false =>
    rw[bx wZ]at q8 ⊢;obtain⟨m',hm,w8⟩:=q8;obtain⟨t8,n8⟩:=tnK I8;exact(m',hm,i+1,ys,its,k,H8,I8.unpinned.weak l7.symm (zay d7),t8,n8,hv,hz,w8)
   | true =>
    rw[bw rfl]at q8 ⊢;have z9:=hbY.2.2 _ s8 σ7 H8 _ I8 q8;rw[Yp,Yw,YA,Yx]at z9;refine thn z9 λy s9 ⟨v9,H9,I9,r9,m',hm,w9⟩=>?_
    obtain⟨t9,n9⟩:=tnK I9;have pD9:=I9.pin (D,{ cls:=.type "list",data:=.seq its.toArray k }) (wF _ (wO _ wo));refine append_at pD9.1 (λh10 sb hD10=>?_) (by rw[wV,← hv.length];exact vT hl);have I9a:Inv Y [] σ7 H9 s9:=I9.pins_of λp hp=>nomatch hp
    have I10:Inv Y [] σ7 H9 { s9 with heap:=h10 }:=I9a.turned (t':=s9.toks) (λb o hb e=>sb.extBut b o hb e) pD9.2.1 nDY (.inl (by rw[Yex];exact wo)) (okY.exf D (by rw[Yex];exact wo)).2 (λp hp=>by
     rw[vW]at hp;exact pnD p hp)
    refine(m',hm,i+1,ys++[v9],its++[y],k+1,H9,pinD (I10.weak l7.symm (zay d7)) ?_ pD9.2.1 (λv z=>nomatch z),?_,n9,hv.append (.cons r9 .nil),?_,w9)
    ·show h10.get? D=_;rw[hD10,List.push_toArray]
    ·exact T.keep _ _ _ t9 λb hb o e=>sb.extBut b o (vf (ltfp b hb)) e
    ·rw[wy,was];exact hl
 have goal:codeAny (cq X.prog X.w) X.A (.compStart (.ListComp elt [(tg,iter,ifs,0)] scope pos) 0 (.ref it) (.ref D) Y.env) (compPost (cq X.prog X.w) X.A X.xe use Q (.ref D) s3.heap.objs.size) s4 :=
  codeAny_compStart_list loop (T.self X.A 0 s4 _ _ (T.keep _ _ _ st2 λb _ o e=>keep34 _ _ (keep23 _ _ e)) loop)
 rw[← hY]at goal;have hsz:({ s3 with heap:=s3.heap.push { cls:=.type "dict",data:=.dict #[] } }:Shared).heap.objs.size=s3.heap.objs.size+1:=Heap.size_push ..;rw[hsz]
 first
  | exact goal
  | (rw[← hs4]at goal;exact goal)
end
def tComp(own:Nat)(idx:List Nat)(wi:TI)(g:TG)(tt:TT)(te:TE):TE:=λE H Q=>tCompW own idx wi g tt te (λys H'=>∀ p,H' p=none->Q (.ref p) (upd H' p (.lst ys))) E H
section
def zck own fre idx (B:BlkOk X own fre idx scope) (hc:X.calm=true) (hi:PI X tg iter wi) (hg:GOwn own.length g)
  (hb:∀ bO cells s₀ H₀ ex pn,PG (blk X own fre scope bO cells s₀ H₀ ex pn) tg g/\PTs (blk X own fre scope bO cells s₀ H₀ ex pn) ifs tt/\PE (blk X own fre scope bO cells s₀ H₀ ex pn) elt te)
  (hs:∀ x,cP iter X.env x=pure x:=by intro _;rfl):PE X (.ListComp elt [(tg,iter,ifs,0)] scope pos) (tComp own.length idx wi g tt te):=by
 intro pins s E H Q I h;rw[eval_ListComp];refine za7 B hc hi hg hb hs I h λys H' s' bO D m hR hD I' hn nL fL=>?_
 refine(m,hn,λh' hs'=>?_);obtain⟨f0,f1,f2,f3,f4,f5⟩:=fL;exact(.ref D,_,I'.turned (t':=s'.toks) (λb o hb e=>hs'.extBut b o hb e) f0 f1 f3 f4 f5,V,hR D hD)
def tAsgC(own:Nat)(idx:List Nat)(wi:TI)(g:TG)(tt:TT)(te:TE)(i:Nat):TS:=λD E H=>tCompW own idx wi g tt te (λys H'=>∀ p,H' p=none->D.nx (E.set i (some (.ref p))) (upd H' p (.lst ys))) E H
def zgP{pos pos' spos:Pos}(hN:X.N.Nodup)(hi':X.N[i]?=some x)(J:X.env.scope.names.lookup x=some .local) own fre idx (B:BlkOk X own fre idx scope) (hc:X.calm=true) (hi:PI X tg iter wi) (hg:GOwn own.length g)
  (hb:∀ bO cells s₀ H₀ ex pn,PG (blk X own fre scope bO cells s₀ H₀ ex pn) tg g/\PTs (blk X own fre scope bO cells s₀ H₀ ex pn) ifs tt/\PE (blk X own fre scope bO cells s₀ H₀ ex pn) elt te)
  (hsw:swapsWith (.ListComp elt [(tg,iter,ifs,0)] scope pos) (some (.Name x pos')) spos.line X.env=pure true:=by rfl)
  (hs:∀ x,cP iter X.env x=pure x:=by intro _;rfl):PS X (.Assign [.Name x pos'] (.ListComp elt [(tg,iter,ifs,0)] scope pos) spos) (tAsgC own.length idx wi g tt te i):=by
 intro pins s E H D I h;rw[exec_Assign_Name_used _ _ _ _ hsw];refine cD (cF (cD ?_));refine cD (cv (za7 (use:=some (assign (.Name x pos') X.env)) B hc hi hg hb hs I h λys H' s' bO Da m hR hD I' hn nL fL=>?_) (λ_ s' hq=>cG (cG hq)) λ_ _ e=>e);obtain⟨f0,f1,f2,f3,f4,f5⟩:=fL;refine wpAny_assign_Name (Qt I' hN hi' (.inl J) (show RelV (.ref Da) (.ref Da)from rfl) (λs2 I2 ⟨a,sb,ha⟩=>?_) (.inr J));have hLa:bO≠a:=by
  rcases ha with rfl|ha
  ·exact f1
  ·exact Ne.symm (f4 x a ha)
 refine(m,hn.sameBut sb hLa,λh' hs'=>?_);exact(_,_,I2.turned (t':=s2.toks) (λb o hb e=>hs'.extBut b o hb e) f0 f1 f3 f4 f5,hR Da hD)
end
mutual
def Rp(H:Hp):PyData->V->Prop
 | .none,v=>v=.non
 | .bool b,v=>v=.bl b
 | .int i,v=>v=.int i
 | .str x,v=>v=.str x
 | .list ds,v=>∃ a xs,v=.ref a/\H a=some (.lst xs)/\Rps H ds xs
 | .tuple ds,v=>∃ a xs,v=.ref a/\H a=some (.tup xs)/\Rps H ds xs
 | .dict _,_=>False
def Rps(H:Hp):List PyData->List V->Prop
 | [],xs=>xs=[]
 | d::ds,xs=>∃ x r,xs=x::r/\Rp H d x/\Rps H ds r
end
mutual
def Rp.mono{H H':Hp}(g:Same H H'):∀(d:PyData)(v:V),Rp H d v->Rp H' d v
 | .none,_,h=>by simpa only [Rp] using h
 | .bool _,_,h=>by simpa only [Rp] using h
 | .int _,_,h=>by simpa only [Rp] using h
 | .str _,_,h=>by simpa only [Rp] using h
 | .list ds,v,h=>by
  simp only[Rp]at h ⊢;obtain⟨a,xs,e,h1,h2⟩:=h;exact(a,xs,e,g _ _ h1,Rps.mono g ds xs h2)
 | .tuple ds,v,h=>by
  simp only[Rp]at h ⊢;obtain⟨a,xs,e,h1,h2⟩:=h;exact(a,xs,e,g _ _ h1,Rps.mono g ds xs h2)
 | .dict _,_,h=>by simp only[Rp]at h
def Rps.mono{H H':Hp}(g:Same H H'):∀(ds:List PyData)(xs:List V),Rps H ds xs->Rps H' ds xs
 | [],xs,h=>by simpa only [Rps] using h
 | d::ds,xs,h=>by
  simp only[Rps]at h ⊢;obtain⟨x,r,e,h1,h2⟩:=h;exact(x,r,e,Rp.mono g d x h1,Rps.mono g ds r h2)
end
section
mutual
def Rp.reads(I:Inv X pins E H s):∀(d:PyData)(v:V)(u:ca),Rp H d v->RelV v u->∃ as,Reads s.heap u d as
 | .none,v,u,h,r=>by
  simp only[Rp]at h;subst h;cases (show u=Value.none from r);exact(_,.none)
 | .bool b,v,u,h,r=>by
  simp only[Rp]at h;subst h;cases (show u=Value.bool b from r);exact(_,.bool b)
 | .int i,v,u,h,r=>by
  simp only[Rp]at h;subst h;obtain⟨t,e⟩:=(show ∃ t,u=Value.int i t from r);subst e;exact(_,.int i t)
 | .str x,v,u,h,r=>by
  simp only[Rp]at h;subst h;obtain⟨t,e⟩:=(show ∃ t,u=Value.str x t from r);subst e;exact(_,.str x t)
 | .list ds,v,u,h,r=>by
  simp only[Rp]at h;obtain⟨a,xs,e,h1,h2⟩:=h;subst e;cases (show u=Value.ref a from r);obtain⟨_,its,n,hv,hg⟩:=(show ObjOk X.prog X.w H s.heap a (.lst xs)from I.hok a _ h1);obtain⟨as,q⟩:=Rps.reads I ds xs its h2 hv;exact(_,.list hg rfl rfl q)
 | .tuple ds,v,u,h,r=>by
  simp only[Rp]at h;obtain⟨a,xs,e,h1,h2⟩:=h;subst e;cases (show u=Value.ref a from r);obtain⟨_,its,hv,o,hg,hc,n,hd⟩:=(show ObjOk X.prog X.w H s.heap a (.tup xs)from I.hok a _ h1);obtain⟨as,q⟩:=Rps.reads I ds xs its h2 hv;exact(_,.tuple hg hc hd q)
 | .dict _,v,u,h,r=>by simp only[Rp]at h
def Rps.reads(I:Inv X pins E H s):∀(ds:List PyData)(xs:List V)(us:List ca),Rps H ds xs->Vals xs us->∃ as,ReadsAll s.heap us ds as
 | [],xs,us,h,r=>by
  simp only[Rps]at h;subst h;cases r;exact(_,.nil)
 | d::ds,xs,us,h,r=>by
  simp only[Rps]at h;obtain⟨x,rr,e,h1,h2⟩:=h;subst e;cases r with
  | cons r1 r2 =>
   obtain⟨as,q1⟩:=Rp.reads I d x _ h1 r1;obtain⟨bs,q2⟩:=Rps.reads I ds rr _ h2 r2;exact(_,.cons q1 q2)
end
def rEqD(f:Bool->Bool):R2:=λx y H Q=>∃ dx dy,Rp H dx x/\Rp H dy y/\dx.canLay0=true/\dy.canLay0=true/\min dx.depth dy.depth<=60/\Q (.bl (f (PyData.eqv dx dy))) H
def zhI(L:Room k X.A):OpR X (cV .Eq) (rEqD id):=by
 intro pins s E H x y v u Q I rx ry h;obtain⟨dx,dy,h1,h2,l1,l2,hd,q⟩:=h;obtain⟨as,r1⟩:=Rp.reads I dx x v h1 rx;obtain⟨bs,r2⟩:=Rp.reads I dy y u h2 ry;exact SeqAt.compareEq_reads r1 r2 l1 l2 (by have:=L.units;omega) (.bl _,H,I,V,q)
def zh0(L:Room k X.A):OpR X (cV .NotEq) (rEqD not):=by
 intro pins s E H x y v u Q I rx ry h;obtain⟨dx,dy,h1,h2,l1,l2,hd,q⟩:=h;obtain⟨as,r1⟩:=Rp.reads I dx x v h1 rx;obtain⟨bs,r2⟩:=Rp.reads I dy y u h2 ry;exact SeqAt.compareNe_reads r1 r2 l1 l2 (by have:=L.units;omega) (.bl _,H,I,V,q)
end
def Itz(K:bv)(a b:Addr):It :=
 (λi H=>∃ xs ys x y,SqL K H a xs/\SqL K H b ys/\xs[i]?=some x/\ys[i]?=some y,
   λi H v H'=>∃ T x y,v=.ref T/\H T=none/\H'=upd H T (.tup [x,y])/\(∀ xs,SqL K H a xs->xs[i]?=some x)/\(∀ ys,SqL K H b ys->ys[i]?=some y),
   λi H=>∃ xs ys,SqL K H a xs/\SqL K H b ys/\(xs.length<=i\/ys.length<=i))
def ZipAt(z TI TO i1 i2 a b:Addr)(i:Nat)(h:Heap):Prop:=IsZip h z TI TO .none/\IsPair h TI (.ref i1) (.ref i2)/\(∃ u v,IsPair h TO u v)/\h.IsListIter i1 a i/\h.IsListIter i2 b i
def zeP{K:bv} z TI TO i1 i2 a b (D:ZipApart z TI TO i1 i2 a b) :
  Turn P w K (.Tuple elts k1 pos) (Itz K a b) [z,TI,TO,i1,i2] z (ZipAt z TI TO i1 i2 a b) where
 mem:=by simp
 obj:=λi h st c hc=>by
  obtain⟨hz,hTI,⟨u,v,hTO⟩,⟨o1,e1,_,d1⟩,⟨o2,e2,_,d2⟩⟩:=st;simp only[wN,vH,or_false]at hc
  rcases hc with rfl|rfl|rfl|rfl|rfl
  ·exact(_,hz,λv z=>nomatch z)
  ·exact(_,hTI,λv z=>nomatch z)
  ·exact(_,hTO,λv z=>nomatch z)
  ·exact(o1,e1,λv z=>by rw[d1]at z;cases z)
  ·exact(o2,e2,λv z=>by rw[d2]at z;cases z)
 keep:=λi h h' st k=>by
  obtain⟨hz,hTI,⟨u,v,hTO⟩,h1,h2⟩:=st;exact(k z (by simp) _ hz,k TI (by simp) _ hTI,(u,v,k TO (by simp) _ hTO),h1.at λo e=>k i1 (by simp) o e,h2.at λo e=>k i2 (by simp) o e)
 item:=by
  intro X hP hw hK hc i pins s E H bP I hf st hg;subst hP hw hK;obtain⟨hz,hTI,⟨u0,v0,hTO⟩,h1,h2⟩:=st;obtain⟨xs,ys,x,y,q1,q2,ex,ey⟩:=hg;obtain⟨its1,rv1,p1,_⟩:=I.list q1;obtain⟨its2,rv2,p2,_⟩:=I.list q2;obtain⟨u,hu,ru⟩:=rv1.get ex;obtain⟨u',hu',ru'⟩:=rv2.get ey;refine wpAny_pyNext_zip_item D hz hTI hTO h1 h2 p1.isList p2.isList (by simpa using hu) (by simpa using hu') λh' z' TO' i1' i2' T' sz keep=>?_
  refine(Q,wpAny_letOwnedTupleGo_zip z' λh'' z'' sb=>?_);have hlt:∀ c o,s.heap.get? c=some o->c<s.heap.objs.size:=λc o e=>Heap.lt_size e
  have zlt:=hlt _ _ hz;have TOlt:=hlt _ _ hTO;have TIlt:=hlt _ _ hTI;have i1lt:= let ⟨o,e,_⟩:=h1;hlt _ _ e
  have i2lt:= let ⟨o,e,_⟩:=h2;hlt _ _ e
  have fz:=hf z (by simp);have fTO:=hf TO (by simp);have f1:=hf i1 (by simp);have f2:=hf i2 (by simp);have nT:= I.fresh;have keep2:= λc o c1 c2 c3 c4 e=>sb.extBut c o c1 (keep c o c1 c2 c3 c4 e)
  have hT:h''.get? s.heap.objs.size=some { cls:=.type "tuple",data:=.seq #[u,u'] }:=sb.extBut _ _ (waL zlt) T';have TOK:IsTup h'' s.heap.objs.size [u,u'].toArray:=(_,hT,V,Q);refine(.ref s.heap.objs.size,upd H s.heap.objs.size (.tup [x,y]),?_,V,(_,x,y,V,nT,V,λzs h=>by rw[I.list_inj h q1];exact ex,λzs h=>by rw[I.list_inj h q2];exact ey),(z'',?_,(u,u',?_),?_,?_),?_)
  ·have nch:∀ c,H c≠none->c≠z/\c≠TO/\c≠i1/\c≠i2:=λc hc=>(λe=>hc (by rw[e];exact fz.1),λe=>hc (by rw[e];exact fTO.1),λe=>hc (by rw[e];exact f1.1),λe=>hc (by rw[e];exact f2.1))
   refine Inv.step (s:=s) (g':=s.gens) (d':=s.drawn) (t':=s.toks) (ch:=[z,TO,i1,i2]) (h':=h'') I (λb hb=>?_) (λb o _ _ hc e _=>?_) (λb o _ _ hc e _=>(o.slots,?_)) (λb o _ e n=>?_) (λb o hc e=>(o,?_)) (λb xs e=>?_) (λb o v e=>?_) (λb ps e=>(#[],?_)) (λm hm=>?_) (λb o e=>?_) I.bare
   ·simp only[wN,vH,or_false]at hb
    rcases hb with rfl|rfl|rfl|rfl
    ·exact(fz.2.2.2.1,fz.2.1,fz.2.2.2.2.1,fz.2.2.2.2.2)
    ·exact(fTO.2.2.2.1,fTO.2.1,fTO.2.2.2.2.1,fTO.2.2.2.2.2)
    ·exact(f1.2.2.2.1,f1.2.1,f1.2.2.2.2.1,f1.2.2.2.2.2)
    ·exact(f2.2.2.2.1,f2.2.1,f2.2.2.2.2.1,f2.2.2.2.2.2)
   ·simp only[wN,vH,or_false,not_or]at hc;exact keep2 b o hc.1 hc.2.1 hc.2.2.1 hc.2.2.2 e
   ·simp only[wN,vH,or_false,not_or]at hc;exact keep2 b o hc.1 hc.2.1 hc.2.2.1 hc.2.2.2 e
   ·rw[zy (vf (Heap.lt_size e))];exact n
   ·simp only[wN,vH,or_false,not_or]at hc;exact keep2 b o hc.1 hc.2.1 hc.2.2.1 hc.2.2.2 e
   ·rw[zy (zH e nT)];exact e
   ·rw[zy (zH e nT)];exact e
   ·rw[zy (zH e nT)];simpa using e
   ·obtain⟨o,es,ep,ho,r⟩:=hm;exact(o,es,ep,keep2 _ o (Ne.symm fz.2.1) (Ne.symm fTO.2.1) (Ne.symm f1.2.1) (Ne.symm f2.2.1) ho,r)
   ·by_cases hb:b=s.heap.objs.size
    ·subst hb;rw[zd]at e;cases e;exact(by show 2<=sizeLine;decide,[u,u'],.cons ru (.cons ru' .nil),TOK)
    ·rw[zy hb]at e;refine(I.hok b o e).stay (λc v hc q=>?_) (λc q=>by rw[zy (zH q nT)];exact q) λc xs q=>by rw[zy (zH q nT)];exact q
     have hne:H c≠none:=by
      rcases hc with rfl|hc
      ·rw[e];exact λz=>nomatch z
      ·rw[hc];exact λz=>nomatch z
     obtain⟨c1,c2,c3,c4⟩:=nch c hne;exact keep2 c v c1 c2 c3 c4 q
  ·exact sb.extBut _ _ D.TIz (keep _ _ D.TIz D.TITO D.TIi1 D.TIi2 hTI)
  ·exact sb.extBut _ _ D.TOz TO'
  ·exact i1'.at λo e=>sb.extBut _ _ D.i1z e
  ·exact i2'.at λo e=>sb.extBut _ _ D.i2z e
  ·intro b hb;rw[zy ?_]
   ·exact(hf b hb).1
   ·simp only[wN,vH,or_false]at hb
    rcases hb with rfl|rfl|rfl|rfl|rfl
    ·exact vf zlt
    ·exact vf TIlt
    ·exact vf TOlt
    ·exact vf i1lt
    ·exact vf i2lt
 done:=by
  intro X hP hw hK hc i pins s E H bP I hf st hg;subst hP hw hK;obtain⟨hz,hTI,⟨u0,v0,hTO⟩,h1,h2⟩:=st;obtain⟨xs,ys,q1,q2,J⟩:=hg;obtain⟨its1,rv1,p1,_⟩:=I.list q1;obtain⟨its2,rv2,p2,_⟩:=I.list q2;have l1:=rv1.length;have l2:=rv2.length;have fz:=hf z (by simp);have fTO:=hf TO (by simp);have f1:=hf i1 (by simp);have f2:=hf i2 (by simp);refine wpAny_pyNext_zip_end (I.ok.hd hc) D hz hTI hTO h1 h2 p1.isList p2.isList (by
   rcases J with J|J
   ·exact .inl (by simp;omega)
   ·exact .inr (by simp;omega)) λh' keep=>(V,?_)
  have nch:∀ c,H c≠none->c≠z/\c≠TO/\c≠i1/\c≠i2:=λc hc=>(λe=>hc (by rw[e];exact fz.1),λe=>hc (by rw[e];exact fTO.1),λe=>hc (by rw[e];exact f1.1),λe=>hc (by rw[e];exact f2.1))
  refine Inv.step (g':=s.gens) (d':=s.drawn) (t':=s.toks) (ch:=[z,TO,i1,i2]) (h':=h') I (λb hb=>?_) (λb o _ _ hc e _=>?_) (λb o _ _ hc e _=>(o.slots,?_)) (λb o _ e n=>n) (λb o hc e=>(o,?_)) (λb xs e=>e) (λb o v e=>e) (λb ps e=>(#[],by simpa using e)) (λm hm=>?_) (λb o e=>?_) I.bare
  ·simp only[wN,vH,or_false]at hb
   rcases hb with rfl|rfl|rfl|rfl
   ·exact(fz.2.2.2.1,fz.2.1,fz.2.2.2.2.1,fz.2.2.2.2.2)
   ·exact(fTO.2.2.2.1,fTO.2.1,fTO.2.2.2.2.1,fTO.2.2.2.2.2)
   ·exact(f1.2.2.2.1,f1.2.1,f1.2.2.2.2.1,f1.2.2.2.2.2)
   ·exact(f2.2.2.2.1,f2.2.1,f2.2.2.2.2.1,f2.2.2.2.2.2)
  ·simp only[wN,vH,or_false,not_or]at hc;exact keep b o hc.1 hc.2.1 hc.2.2.1 hc.2.2.2 e
  ·simp only[wN,vH,or_false,not_or]at hc;exact keep b o hc.1 hc.2.1 hc.2.2.1 hc.2.2.2 e
  ·simp only[wN,vH,or_false,not_or]at hc;exact keep b o hc.1 hc.2.1 hc.2.2.1 hc.2.2.2 e
  ·obtain⟨o,es,ep,ho,r⟩:=hm;exact(o,es,ep,keep _ o (Ne.symm fz.2.1) (Ne.symm fTO.2.1) (Ne.symm f1.2.1) (Ne.symm f2.2.1) ho,r)
  ·refine(I.hok b o e).stay (λc v hc q=>?_) (λc q=>q) λc xs q=>q
   have hne:H c≠none:=by
    rcases hc with rfl|hc
    ·rw[e];exact λz=>nomatch z
    ·rw[hc];exact λz=>nomatch z
   obtain⟨c1,c2,c3,c4⟩:=nch c hne;exact keep c v c1 c2 c3 c4 q
 self:=λ_ _ _ _ _ st h=>wpAny_pyIter_zip st.1 h
section
def iZip(K:bv)(ta:TA):TI:=λE H R=>ta E H λvs H1=>∃ a b xs ys,vs=[.ref a,.ref b]/\SqL K H1 a xs/\SqL K H1 b ys/\R (Itz K a b) H1
def zih {p pos:Pos} {elts:List Expr} {k1:Nat} {tpos:Pos} (hg:Gl X "zip") (hm:X.mg "zip" = none) (ha:PA X [a,b] ta) (hs:cu [a,b] X.env=[(false,eval a X.env),(false,eval b X.env)]:=by rfl) (hs2:cu [b] X.env=[(false,eval b X.env)]:=by rfl) :
  PI X (.Tuple elts k1 tpos) (.Call (.Name "zip" p) [a,b] [] pos) (iZip X.K ta):=by
 intro pins s E H R I h;refine bd (za0 I hg hm zhM ?_);refine PyProof.Rows.callWith_type1 (thn (ha pos pins s E H _ I h) λus s1 ⟨vs,H1,I1,r1,q1⟩=>?_) (by rw[hs,hs2]) (by rw[hs2];rfl);obtain⟨a1,b1,xs,ys,rfl,h1,h2,q⟩:=q1;obtain⟨u,w',rfl,ra,rb⟩:=Vals.two r1;cases ra;cases rb;obtain⟨its1,rv1,p1,_⟩:=I1.list h1;obtain⟨its2,rv2,p2,_⟩:=I1.list h2;have l1:= let ⟨_,e,_⟩:=p1.isList;Heap.lt_size e
 have l2:= let ⟨_,e,_⟩:=p2.isList;Heap.lt_size e
 refine call_zip_2 p1.isList p2.isList λh' hz hTI hTO hi1 hi2 hsz keep=>?_
 have I2:Inv X pins E H1 { s1 with heap:=h' }:=I1.kept (t':=s1.toks) keep;refine wpAny_pyIter_zip hz ?_;refine(_,_,_,_,H1,V,I2,zeP _ _ _ _ _ a1 b1 (zipApart_new l1 l2),(hz,hTI,(_,_,hTO),hi1,hi2),λb hb=>?_,q);have hb':s1.heap.objs.size<=b:=by
  simp only[wN,vH,or_false]at hb
  rcases hb with rfl|rfl|rfl|rfl|rfl <;> omega
 exact I1.fpOk hb' (I1.hok.fresh hb')
def Yj(ns:List Int):∀ j,j<=ns.length->preSum (λi=>ns.getD i 0) j =(ns.take j).sum
 | 0,_=>by simp[preSum]
 | j+1,h=>by
  have hj:j<ns.length:=h;rw[preSum,Yj ns j (vT hj),vZ hj,wa4];simp[uG,hj]
def zcH (hc:X.calm=true):kaB X (.builtin "sum") (λxs H Q=>∃ p ns,xs=[.ref p]/\SqL X.K H p ((ns:List Int).map V.int)/\Q (.int ns.sum) H):=by
 intro pins s E H xs us Q I r h;obtain⟨p,ns,rfl,hq,q⟩:=h;obtain⟨u,rfl,ru⟩:=Vals.one r;cases ru;obtain⟨its,rv,pl,_⟩:=I.list hq;have hh:X.A.in1.handled=none:=I.ok.hd hc;have lt:= let ⟨_,e,_⟩:=pl.isList;Heap.lt_size e
 have hl:its.length=ns.length:=by rw[← rv.length,wa]
 refine call_sum_walkG (cO pl.isList ?_);refine(s.heap.objs.size,_,_,_,_,_,λi=>ns.getD i 0,V,Walks.list hh s.heap.objs.size p (vf lt) its.toArray,((_,Heap.get?_push_size _ rfl,V,V),pl.isList.at λo e=>Heap.get?_push_of_some _ e),λb hb=>?_,λi v hv=>?_,λh' tk t' keep=>?_)
 ·simp only[wN,vH,or_false]at hb
  rcases hb with rfl|rfl
  ·rw[Heap.size_push];exact gf _
  ·rw[Heap.size_push];exact Gp lt
 ·have hv':its[i]?=some v:=by simpa using hv
  have hi:i<ns.length:=by rw[← hl];exact(wu.mp hv').1
  obtain⟨u,hu,ru⟩:=rv.get (by rw[wg,wb hi];rfl);rw[hu]at hv';cases hv';obtain⟨t,e⟩:=ru;refine(t,?_);rw[e];simp[uG,hi]
 ·have e:preSum (λi=>ns.getD i 0) its.toArray.size=ns.sum:=by
   rw[wV,hl,Yj ns _ (ww _),um]
  rw[e];refine(.int ns.sum,H,?_,(t',V),q);exact I.kept (h':=h') (t':=tk) λb o eb=>keep b o (by simp only[wN,vH,or_false];exact vf (Heap.lt_size eb)) (Heap.get?_push_of_some _ eb)
end
end L2
namespace L2
open PySem PySem.Spec PyProof.Rows Nm
def toD:Nb->PyData
 | .q r=>.tuple [.int r.num,.int (r.den:Int)]
 | .z i=>.int i
def RN(H:Hp)(x:Nb)(v:V):Prop:=Rp H (toD x) v
def RN.q(h:RN H (.q r) v):∃ a,v=.ref a/\H a=some (.tup [.int r.num,.int (r.den:Int)]):=by
 simp only[RN,toD,Rp,Rps]at h;obtain⟨a,xs,e,h1,x,r1,e1,e2,y,r2,e3,e4,e5⟩:=h;subst e5 e4 e3 e2 e1;exact(a,e,h1)
def RN.of_q(h:H a=some (.tup [.int r.num,.int (r.den:Int)])):RN H (.q r) (.ref a):=by
 simp only[RN,toD,Rp,Rps];exact(a,Q,h,_,Q,V,_,Q,V,V)
def RN.z(h:RN H (.z i) v):v=.int i:=by
 simpa only [RN,toD,Rp] using h
def RN.of_z:RN H (.z i) (.int i):=by
 simp only[RN,toD,Rp]
def RN.mono(h:RN H x v)(g:Same H H'):RN H' x v:=Rp.mono g _ _ h
def yV x:(toD x).canLay0=true:=by
 cases x <;> rfl
def xA x:(toD x).depth<=1:=by
 cases x <;> simp[toD,PyData.depth,PyData.depthAll]
def jQ x y:PyData.eqv (toD x) (toD y)=decide (x=y):=by
 cases x with
 | q r =>
  cases y with
  | q s =>
   show((r.num == s.num) && (((r.den:Int) ==(s.den:Int)) && true))=decide (Nb.q r=Nb.q s)
   by_cases h:r=s
   ·subst h;simp
   ·have h':= λz=>h (Nb.q.inj z)
    rw[bE h'];rw[Bool.and_eq_false_iff]
    by_cases h1:r.num=s.num
    ·right
     rw[Bool.and_true];have:¬ r.den =(s.den:Int):=λz=>h (Rat.ext h1 ())
     simp[this]
    ·left;simp[h1]
  | z j=>simp[toD,PyData.eqv]
 | z i =>
  cases y with
  | q s=>simp[toD,PyData.eqv]
  | z j =>
   show(i == j)=decide (Nb.z i=Nb.z j)
   by_cases h:i=j
   ·subst h;simp
   ·have h':= λz=>h (Nb.z.inj z)
    rw[bE h'];simp[h]
def nsm(n:Nat):Nb->Prop
 | .q r=>Sm n r.num/\Sm n (r.den:Int)
 | .z i=>Sm n i
def nsm.mono(h:nsm m x)(hmn:m<=n):nsm n x:=by
 cases x with
 | q r=>exact(Sm.mono h.1 hmn,Sm.mono h.2 hmn)
 | z i=>exact Sm.mono (show Sm m i from h) hmn
theorem Zz(h0:0<=i)(h1:i<k)(h9:k<2305843009213693952):Sm 61 i:=by
 unfold Sm;have:2^61=2305843009213693952:=by decide
 omega
def Xu{t b:Int}(hb:b≠0):((uf t b).den:Int).natAbs<=b.natAbs:=by
 have h:=(Zo (t:=t) hb).2;rw[← h,ug (qr t b)];have e:=ga (qr t b);have h1:(b / sg t b*sg t b).natAbs=b.natAbs:=by rw[e]
 rw[vR]at h1;have h2:0 <(sg t b).natAbs:=Gn.mpr (zfk hb);rw[← h1];exact uX _ h2
def XJ(hb:b≠0):(uf t b).num.natAbs<=t.natAbs:=by
 have h:=(Zo (t:=t) hb).1;rw[← h,ug (qo t b)];have e:=ga (qo t b);have h1:(t / sg t b*sg t b).natAbs=t.natAbs:=by rw[e]
 rw[vR]at h1;have h2:0 <(sg t b).natAbs:=Gn.mpr (zfk hb);rw[← h1];exact uX _ h2
def jb(hb:b≠0)(ht:Sm m t)(hs:Sm n b):Sm m (uf t b).num/\Sm n ((uf t b).den:Int):=(ht.le (XJ hb),hs.le (Xu hb))
def zhb(Z:k≠0)(k0:0<=k)(a:Int):Nb.ok k (.z (a.fmod k)):=(Z,wJ a (),wR a ())
def qD{x y:Nb}(J:x.ok k)(hy:y.ok k):(k=0/\∃ r s,x=.q r/\y=.q s)\/(k≠0/\∃ i j,x=.z i/\y=.z j/\0<=i/\i<k/\0<=j/\j<k):=by
 cases x with
 | q r =>
  cases y with
  | q s=>exact .inl (J,r,s,V,V)
  | z j=>exact bK (show k=0 from J) hy.1
 | z i =>
  cases y with
  | q s=>exact bK (show k=0 from hy) J.1
  | z j=>exact .inr (J.1,i,j,V,V,J.2.1,J.2.2,hy.2.1,hy.2.2)
section
def Zx(k0:0<=k)(J:x.ok k)(hy:y.ok k):(nsub k x y).ok k:=by
 rcases qD J hy with⟨h,r,s,rfl,rfl⟩|⟨h,i,j,rfl,rfl,_⟩
 ·exact h
 ·exact zhb h k0 _
def zhs(Z:kab k)(h:k≠0)(hn:61<=n)(a:Int):nsm n (.z (a.fmod k)):=by
 have hl:=Z.lt;have h0:=wJ a (show 0<k by omega);have h1:=wR a (show 0<k by omega);exact(Zz h0 h1 hl.2).mono hn
def xP(r s:Rat):(r.den:Int) *(s.den:Int)≠0:=Ge (yU r) (yU s)
def zgj(Z:kab k)(J:x.ok k)(hy:y.ok k)(sx:nsm m x)(sy:nsm m y)(hm:61<=m):nsm (m+m+1) (nsub k x y):=by
 rcases qD J hy with⟨h,r,s,rfl,rfl⟩|⟨h,i,j,rfl,rfl,_⟩
 ·show Sm _ (r - s).num/\Sm _ ((r - s).den:Int);rw[← zen];obtain⟨h1,h2⟩:=jb (t:=r.num*s.den - s.num*r.den) (xP r s) ((sx.1.mul sy.2).sub (sy.1.mul sx.2)) (sx.2.mul sy.2);exact(h1,h2.mono (uL _))
 ·exact zhs Z h () _
def zhj(Z:kab k)(J:x.ok k)(hy:y.ok k)(sx:nsm m x)(sy:nsm m y)(hm:61<=m):nsm (m+m) (nmul k x y):=by
 rcases qD J hy with⟨h,r,s,rfl,rfl⟩|⟨h,i,j,rfl,rfl,_⟩
 ·show Sm _ (r*s).num/\Sm _ ((r*s).den:Int);rw[← QG];exact jb (xP r s) (sx.1.mul sy.1) (sx.2.mul sy.2)
 ·exact zhs Z h () _
end
section
variable{R S:α->β->Prop}
def zf:∀ {xs:List α} {ys:List β},Paired R xs ys->xs.length=ys.length
 | _,_,.nil=>rfl
 | _,_,.cons _ t=>congrArg (·+1) (zf t)
def yC(f:∀ a b,R a b->S a b):∀ {xs:List α} {ys:List β},Paired R xs ys->Paired S xs ys
 | _,_,.nil=>.nil
 | _,_,.cons r t=>.cons (f _ _ r) (yC f t)
def xV:∀ {xs xs':List α} {ys ys':List β},Paired R xs ys->Paired R xs' ys'->Paired R (xs++xs') (ys++ys')
 | _,_,_,_,.nil,s=>s
 | _,_,_,_,.cons r t,s=>.cons r (xV t s)
def zJ(h:Paired R xs ys)(r:R a b):Paired R (xs++[a]) (ys++[b]):=xV h (.cons r .nil)
def yj:∀ {xs:List α} {ys:List β} {i:Nat} {a:α},Paired R xs ys->xs[i]?=some a->∃ b,ys[i]?=some b/\R a b
 | _,_,_,_,.nil,e=>by simp at e
 | _,_,0,_,.cons r _,e=>by simp at e;subst e;exact(Q,r)
 | _,_,i+1,a,.cons _ t,e=>by
  obtain⟨b,h1,h2⟩:=yj t (by simpa using e);exact(b,by simpa using h1,h2)
def zK:∀ {xs:List α} {ys:List β} {i:Nat} {b:β},Paired R xs ys->ys[i]?=some b->∃ a,xs[i]?=some a/\R a b
 | _,_,_,_,.nil,e=>by simp at e
 | _,_,0,_,.cons r _,e=>by simp at e;subst e;exact(Q,r)
 | _,_,i+1,b,.cons _ t,e=>by
  obtain⟨a,h1,h2⟩:=zK t (by simpa using e);exact(a,by simpa using h1,h2)
def xS:∀ {xs:List α} {ys:List β} {b:β},Paired R xs ys->b∈ys->∃ a∈xs,R a b
 | _,_,_,.nil,e=>nomatch e
 | _,_,b,.cons r t,e=>by
  rcases wN.mp e with rfl|e
  ·exact(_,wo,r)
  ·obtain⟨a,h1,h2⟩:=xS t e;exact(a,wt _ h1,h2)
end
def zh{α:Type}{l:List α}{x:α}(h:l[i]?=some x):l.take (i+1)=l.take i++[x]:=by
 obtain⟨hi,e⟩:=wu.mp h;rw[vZ hi,e]
def kaq(H:Hp)(xs:List Nb)(a:Addr):Prop:=∃ vs,H a=some (.lst vs)/\Paired (RN H) xs vs
def kac(H:Hp)(M:Tb)(top:Addr)(ras:List Addr):Prop:=H top=some (.lst (ras.map V.ref))/\Paired (kaq H) M ras
def xT(g:Same H H')(h:Paired (RN H) xs vs):Paired (RN H') xs vs:=yC (λ_ _ r=>r.mono g) h
def kaq.mono(h:kaq H xs a)(g:Same H H'):kaq H' xs a :=
 let ⟨vs,h1,h2⟩:=h
 (vs,g _ _ h1,xT g h2)
def kac.mono(h:kac H M top ras)(g:Same H H'):kac H' M top ras:=(g _ _ h.1,yC (λ_ _ r=>r.mono g) h.2)
def kac.row{i:Nat}(h:kac H M top ras)(e:(ras.map V.ref)[i]?=some v):∃ xs a,M[i]?=some xs/\ras[i]?=some a/\v=.ref a/\kaq H xs a:=by
 rw[wg]at e;obtain⟨a,ha,rfl⟩:=wG.mp e;obtain⟨xs,J,r⟩:=zK h.2 ha;exact(xs,a,J,ha,V,r)
def rowD(xs:List Nb):PyData:=.list (xs.map toD)
def tabD(M:Tb):PyData:=.list (M.map rowD)
def zcq:∀ {xs:List Nb} {vs:List V},Paired (RN H) xs vs->Rps H (xs.map toD) vs
 | _,_,.nil=>by simp[Rps]
 | _,_,.cons r t=>by
  simp only[Gb,Rps];exact(_,Q,r,zcq t)
def kaq.rp(h:kaq H xs a):Rp H (rowD xs) (.ref a):=by
 obtain⟨vs,h1,h2⟩:=h;simp only[rowD,Rp];exact(a,vs,V,h1,zcq h2)
def zbb:∀ {M:Tb} {ras:List Addr},Paired (kaq H) M ras->Rps H (M.map rowD) (ras.map V.ref)
 | _,_,.nil=>by simp[Rps]
 | _,_,.cons r t=>by
  simp only[Gb,Rps];exact(_,Q,r.rp,zbb t)
def kac.rp(h:kac H M top ras):Rp H (tabD M) (.ref top):=by
 simp only[tabD,Rp];exact(top,Q,h.1,zbb h.2)
def js{α:Type} f (h:∀ x,(f x).canLay0=true):∀ l:List α,PyData.canLayAll0 (l.map f)=true
 | []=>rfl
 | x::r=>by
  show((f x).canLay0 && PyData.canLayAll0 (r.map f))=true;rw[h x,js f h r];rfl
def yZ{α:Type} f n (h:∀ x,(f x).depth<=n):∀ l:List α,PyData.depthAll (l.map f)<=n
 | []=>vI _
 | x::r=>by
  exact Nat.max_le.mpr (h x,yZ f n h r)
def ze7 xs:(rowD xs).canLay0=true:=js toD yV xs
def zbB xs:(rowD xs).depth<=2:=wae (yZ toD 1 xA xs)
def jX M:(tabD M).canLay0=true:=js rowD ze7 M
def qt M:(tabD M).depth<=3:=wae (yZ rowD 2 zbB M)
def zfn x:PyData.eqv (toD x) (toD x)=true:=by rw[jQ];simp
def Nxt(n i:Nat)(bN:Prop):Prop:=∃ m',m'<n - i/\m'=n - (i+1)/\i+1<=n/\bN
def nxt(h:i<n)(j:bN):Nxt n i bN:=(n - (i+1),(),V,h,j)
section
variable{K:bv}{g:TG}{tt:TT}{te:TE}{R:List V->Hp->Prop}
def zq(bN:Nat->List V->Hp->Prop)(h0:bN 0 [] H)(hl:∀ i ys H',i<=xs.length->bN i ys H'->SqL K H' a xs/\ys.length<sizeLine)
  (hs:∀ i x ys H',xs[i]?=some x->i<xs.length->bN i ys H'->g x σb H' λσ2 H2=>tt σ2 H2 λb H3=>if b=true then te σ2 H3 λy H4=>Nxt xs.length i (bN (i+1) (ys++[y]) H4)else Nxt xs.length i (bN (i+1) ys H3))
  (hd:∀ ys H',bN xs.length ys H'->R ys H') :
  ∃ W:Nat->Nat->List V->Hp->Prop,(∃ m,W 0 m [] H)/\∀ i m ys H,W i m ys H ->
   ((Itl K a).stop i H/\ys.length<=sizeLine/\R ys H) \/
   ((Itl K a).go i H/\ys.length<sizeLine/\∀ x H',(Itl K a).yld i H x H'->g x σb H' λσ2 H2=>tt σ2 H2 λb H3=>if b=true then te σ2 H3 λy H4=>∃ m',m'<m/\W (i+1) m' (ys++[y]) H4 else ∃ m',m'<m/\W (i+1) m' ys H3):=by
 refine(λi m ys H=>m=xs.length - i/\i<=xs.length/\bN i ys H,(xs.length,by simp,vI _,h0),?_)
 rintro i m ys H1 ⟨rfl,hi,j⟩
 obtain⟨q,hz⟩:=hl i ys H1 hi j
 by_cases hlt:i<xs.length
 ·refine .inr ((xs,xs[i],q,by simp[hlt]),hz,λx H' y=>?_);obtain⟨e,y⟩:=y;subst e;exact hs i x ys _ (y xs q) hlt j
 ·have e:i=xs.length:=by omega
  subst e;exact .inl ((xs,q,ww _),vT hz,hd ys H1 j)
def zZ{lo:Int}(bN:Nat->List V->Hp->Prop)(h0:bN 0 [] H)(hl:∀ i ys H',i<=n->bN i ys H'->ys.length<sizeLine)
  (hs:∀ i ys H',i<n->bN i ys H'->g (.int (lo+i)) σb H' λσ2 H2=>tt σ2 H2 λb H3=>if b=true then te σ2 H3 λy H4=>Nxt n i (bN (i+1) (ys++[y]) H4)else Nxt n i (bN (i+1) ys H3))
  (hd:∀ ys H',bN n ys H'->R ys H') :
  ∃ W:Nat->Nat->List V->Hp->Prop,(∃ m,W 0 m [] H)/\∀ i m ys H,W i m ys H ->
   ((Itr lo n).stop i H/\ys.length<=sizeLine/\R ys H) \/
   ((Itr lo n).go i H/\ys.length<sizeLine/\∀ x H',(Itr lo n).yld i H x H'->g x σb H' λσ2 H2=>tt σ2 H2 λb H3=>if b=true then te σ2 H3 λy H4=>∃ m',m'<m/\W (i+1) m' (ys++[y]) H4 else ∃ m',m'<m/\W (i+1) m' ys H3):=by
 refine(λi m ys H=>m=n - i/\i<=n/\bN i ys H,(n,by simp,vI _,h0),?_)
 rintro i m ys H1 ⟨rfl,hi,j⟩
 have hz:=hl i ys H1 hi j
 by_cases hlt:i<n
 ·refine .inr (hlt,hz,λx H' y=>?_);obtain⟨e,y⟩:=y;subst e y;exact hs i ys _ hlt j
 ·have e:i=n:=by omega
  subst e;exact .inl (ww _,vT hz,hd ys H1 j)
def Zs{a b:Addr}{xs zs:List V}(he:xs.length=zs.length)(bN:Nat->List V->Hp->Prop)(h0:bN 0 [] H)(hl:∀(i:Nat)(ys:List V)(H':Hp),i<=xs.length->bN i ys H'->SqL K H' a xs/\SqL K H' b zs/\ys.length<sizeLine)
  (hs:∀(i:Nat)(x z:V)(T:Addr)(ys:List V)(H':Hp),xs[i]?=some x->zs[i]?=some z->i<xs.length->H' T=none->bN i ys H'->g (.ref T) σb (upd H' T (.tup [x,z])) λσ2 H2=>tt σ2 H2 λb H3=>if b=true then te σ2 H3 λy H4=>Nxt xs.length i (bN (i+1) (ys++[y]) H4)else Nxt xs.length i (bN (i+1) ys H3))
  (hd:∀(ys:List V)(H':Hp),bN xs.length ys H'->R ys H') :
  ∃ W:Nat->Nat->List V->Hp->Prop,(∃ m,W 0 m [] H)/\∀ i m ys H,W i m ys H ->
   ((Itz K a b).stop i H/\ys.length<=sizeLine/\R ys H) \/
   ((Itz K a b).go i H/\ys.length<sizeLine/\∀ x H',(Itz K a b).yld i H x H'->g x σb H' λσ2 H2=>tt σ2 H2 λb H3=>if b=true then te σ2 H3 λy H4=>∃ m',m'<m/\W (i+1) m' (ys++[y]) H4 else ∃ m',m'<m/\W (i+1) m' ys H3):=by
 refine(λi m ys H=>m=xs.length - i/\i<=xs.length/\bN i ys H,(xs.length,by simp,vI _,h0),?_)
 rintro i m ys H1 ⟨rfl,hi,j⟩
 obtain⟨q1,q2,hz⟩:=hl i ys H1 hi j
 by_cases hlt:i<xs.length
 ·refine .inr ((xs,zs,xs[i],zs[i]'(),q1,q2,by simp[hlt],by simp[show i<zs.length by omega]),hz,λx H' y=>?_);obtain⟨T,u,v,rfl,hT,rfl,y1,y2⟩:=y;exact hs i u v T ys _ (y1 xs q1) (y2 zs q2) hlt hT j
 ·have e:i=xs.length:=by omega
  subst e;exact .inl ((xs,zs,q1,q2,.inl (ww _)),vT hz,hd ys H1 j)
end
end L2
namespace La
open Lean.Grind
section
variable{F:Type}[Field F]
inductive Span(S:(Nat->F)->Prop):(Nat->F)->Prop
 | zero:Span S (λ_=>0)
 | step (c:F) {r v:Nat->F} (h:S r) (t:Span S v):Span S (λj=>c*r j+v j)
variable{S T:(Nat->F)->Prop}
def Span.cast(h:Span S u)(e:∀ j,u j=v j):Span S v:=by
 have:u=v:=funext e;rw[← this];exact h
def Span.of(h:S v):Span S v:=(Span.step 1 h .zero).cast λj=>by grind
def Span.add(h:Span S u)(g:Span S v):Span S (λj=>u j+v j):=by
 induction h with
 | zero=>exact g.cast λj=>by grind
 | step c L _ ih=>exact(Span.step c L ih).cast λj=>by grind
def Span.smul c (h:Span S v):Span S (λj=>c*v j):=by
 induction h with
 | zero=>exact Span.zero.cast λj=>by grind
 | step d L _ ih=>exact(Span.step (c*d) L ih).cast λj=>by grind
def Span.lin a b (h:Span S u) (g:Span S v):Span S (λj=>a*u j+b*v j):=(h.smul a).add (g.smul b)
def Span.bind(f:∀ r,S r->Span T r)(h:Span S v):Span T v:=by
 induction h with
 | zero=>exact .zero
 | step c L _ ih=>exact((f _ L).smul c).add ih
def Span.mono(f:∀ r,S r->T r)(h:Span S v):Span T v:=h.bind λr q=>.of (f r q)
def Span.all{P:(Nat->F)->Prop}(h:Span S v)(z:P λ_=>0)(s:∀ c r v,S r->P v->P (λj=>c*r j+v j)):P v:=by
 induction h with
 | zero=>exact z
 | step c L _ ih=>exact s c _ _ L ih
def Span.zero_at(h:Span S v)(z:∀ r,S r->r i=0):v i=0 :=
 h.all (P:=λv=>v i=0) rfl λc r v L hv=>by
  show c*r i+v i=0;rw[z r L,hv];grind
abbrev Pv(F:Type):=Nat×(Nat->F)
def Rows(P:List (Pv F)):(Nat->F)->Prop:=λr=>∃ p∈P,p.2=r
structure Rr(n:Nat)(P:List (Pv F)):Prop where
 inc:P.Pairwise λa b=>a.1<b.1
 lt:∀ p∈P,p.1<n
 out:∀ p∈P,∀ j,n<=j->p.2 j=0
 bef:∀ p∈P,∀ j,j<p.1->p.2 j=0
 one:∀ p∈P,p.2 p.1=1
 oth:∀ p∈P,∀ q∈P,p.1≠q.1->p.2 q.1=0
def comb:List (Pv F)->(Nat->F)->Nat->F
 | [],_,_=>0
 | p::P,v,j=>v p.1*p.2 j+comb P v j
def za9 c u v j:∀ P:List (Pv F),comb P (λi=>c*u i+v i) j=c*comb P u j+comb P v j
 | []=>by simp only[comb];grind
 | p::P=>by simp only[comb];rw[za9 c u v j P];grind
def yw v j:∀ P:List (Pv F),(∀ p∈P,v p.1*p.2 j=0)->comb P v j=0
 | [],_=>rfl
 | p::P,h=>by
  simp only[comb];rw[h p wo,yw v j P λq hq=>h q (wt _ hq)];grind
def jS v:∀ P:List (Pv F),Span (Rows P) (comb P v)
 | []=>Span.zero.cast λ_=>rfl
 | p::P=>by
  have h:=(jS v P).mono (T:=Rows (p::P)) λr ⟨q,hq,e⟩=>(q,wt _ hq,e)
  exact(Span.step (v p.1) (p,wo,V) h).cast λj=>rfl
def YB{v:Nat->F}{p:Pv F}(j:Nat):∀ P:List (Pv F),P.Pairwise (λa b=>a.1<b.1)->p∈P->v p.1=1->(∀ q∈P,q.1≠p.1->v q.1=0)->comb P v j=p.2 j
 | [],_,h,_,_=>nomatch h
 | q::P,inc,h,h1,h0=>by
  rw[uA]at inc;simp only[comb]
  rcases wN.mp h with e|h
  ·subst e;rw[yw v j P λr L=>by rw[h0 r (wt _ L) (waL (inc.1 r L))];grind];rw[h1];grind
  ·rw[h0 q wo (vf (inc.1 p h)),YB j P inc.2 h h1 λr L=>h0 r (wt _ L)];grind
variable{P Q:List (Pv F)}
def Rr.self(R:Rr n P)(h:p∈P) j:comb P p.2 j=p.2 j:=YB j P R.inc h (R.one p h) λq hq ne=>R.oth p h q hq (Ne.symm ne)
def Rr.comb(R:Rr n P)(h:Span (Rows P) v):∀ j,La.comb P v j=v j:=λj =>
 h.all (P:=λv=>La.comb P v j=v j) (yw _ j P λp _=>by grind) λc r v ⟨p,hp,e⟩ hv=>by
  rw[za9,hv,← e,R.self hp j]
def Rr.out_of(R:Rr n P)(h:Span (Rows P) v) j (hj:n<=j):v j=0:=h.zero_at λr ⟨p,hp,e⟩=>by rw[← e];exact R.out p hp j hj
def Rr.lead(R:Rr n P){i:Nat}(h:Span (Rows P) v)(z:∀ j,j<i->v j=0)(ne:v i≠0):∃ p∈P,p.1=i:=by
 refine uw λno=>ne ?_
 rw[← R.comb h i];refine yw _ i P λp hp=>?_
 rcases GV p.1 i with g|g|g
 ·rw[z p.1 g];grind
 ·exact bK (p,hp,g) no
 ·rw[R.bef p hp i g];grind
def Xb:∀ {P Q:List (Pv F)},P.Pairwise (λa b=>a.1<b.1)->Q.Pairwise (λa b=>a.1<b.1)->(∀ p∈P,p∈Q)->(∀ q∈Q,q∈P)->P=Q
 | [],[],_,_,_,_=>rfl
 | [],q::_,_,_,_,h=>nomatch h q wo
 | p::_,[],_,_,h,_=>nomatch h p wo
 | p::P,q::Q,hP,hQ,h1,h2=>by
  rw[uA]at hP hQ;have e:p=q:=by
   rcases wN.mp (h1 p wo)with e|m
   ·exact e
   ·rcases wN.mp (h2 q wo)with e|m'
    ·exact e.symm
    ·have:=hP.1 q m';have:=hQ.1 p m;omega
  subst e;rw[Xb hP.2 hQ.2 (λr L=>?_) (λr L=>?_)]
  ·rcases wN.mp (h1 r (wt _ L))with e|m
   ·subst e;exact bK (hP.1 r L) (ur _)
   ·exact m
  ·rcases wN.mp (h2 r (wt _ L))with e|m
   ·subst e;exact bK (hQ.1 r L) (ur _)
   ·exact m
def Rr.leads(R:Rr n P)(R':Rr n Q)(sub:∀ v,Span (Rows P) v->Span (Rows Q) v){p:Pv F}(hp:p∈P):∃ q∈Q,q.1=p.1 :=
 R'.lead (sub _ (.of (p,hp,V))) (λj hj=>R.bef p hp j hj) (by rw[R.one p hp];grind)
def Rr.mem_of(R:Rr n P)(R':Rr n Q)(s1:∀ v,Span (Rows P) v->Span (Rows Q) v)(s2:∀ v,Span (Rows Q) v->Span (Rows P) v)(hp:p∈P):p∈Q:=by
 obtain⟨q,hq,e⟩:=R.leads R' s1 hp;have:p=q:=by
  refine Prod.ext e.symm (funext λj=>?_);rw[← R'.comb (s1 _ (.of (p,hp,V))) j];refine YB j Q R'.inc hq (by rw[e];exact R.one p hp) λr L ne=>?_
  obtain⟨p',hp',e'⟩:=R'.leads R s2 L;rw[← e'];exact R.oth p hp p' hp' λz=>ne (by rw[← e',← z,e])
 rw[this];exact hq
def Rr.unique(R:Rr n P)(R':Rr n Q)(s1:∀ v,Span (Rows P) v->Span (Rows Q) v)(s2:∀ v,Span (Rows Q) v->Span (Rows P) v):P=Q :=
 Xb R.inc R'.inc (λ_ h=>R.mem_of R' s1 s2 h) λ_ h=>R'.mem_of R s2 s1 h
structure Sw(n c:Nat)(bL:(Nat->F)->Prop)(D:List (Pv F))(W:List (Nat->F)):Prop where
 inc:D.Pairwise λa b=>a.1<b.1
 lt:∀ p∈D,p.1<c
 bef:∀ p∈D,∀ j,j<p.1->p.2 j=0
 one:∀ p∈D,p.2 p.1≠0
 oth:∀ p∈D,∀ q∈D,p.1≠q.1->p.2 q.1=0
 nil:∀ w∈W,∀ j,j<c->w j=0
 to:∀ r,bL r->Span (λr=>Rows D r\/r∈W) r
 fro:∀ r,(Rows D r\/r∈W)->Span bL r
def zeV n W bL (h1:∀ r,bL r->Span (·∈W) r) (h2:∀ r∈W,Span bL r):Sw n 0 bL ([]:List (Pv F)) W where
 inc:=.nil
 lt:=λp h=>nomatch h
 bef:=λp h=>nomatch h
 one:=λp h=>nomatch h
 oth:=λp h=>nomatch h
 nil:=λw _ j h=>bK h (vN j)
 to:=λr h=>(h1 r h).mono λ_=>.inr
 fro:=λr h=>h.elim (λ⟨p,hp,_⟩=>nomatch hp) (h2 r)
variable{W W':List (Nat->F)}
def Sw.skip(s:Sw n c bL D W)(h:∀ w∈W,w c=0):Sw n (c+1) bL D W :=
 { s with
  lt:=λp hp=>Gp (s.lt p hp)
  nil:=λw hw j hj=>by
   rcases Gh.mp hj with g|g
   ·exact s.nil w hw j g
   ·rw[g];exact h w hw }
def Clr(c:Nat)(l r r':Nat->F):Prop:=(∃ a b:F,a≠0/\∀ j,r' j=a*r j+b*l j)/\r' c=0
def Clr.back(h:Clr c l r r')(hl:Span S l)(L:Span S r'):Span S r:=by
 obtain⟨⟨a,b,ha,e⟩,_⟩:=h;exact(L.lin (1 / a) (-b / a) hl).cast λj=>by rw[e j];grind
def Clr.to(h:Clr c l r r')(hl:Span S l)(L:Span S r):Span S r':=by
 obtain⟨⟨a,b,ha,e⟩,_⟩:=h;exact(L.lin a b hl).cast λj=>by rw[e j]
def Sw.turn{α:Type}{bP:List α}{a b:α->Pv F}(s:Sw n c bL (bP.map a) W){l:Nat->F}(hl:l∈W)(lc:l c≠0)(hf:∀ e∈bP,(b e).1 =(a e).1/\Clr c l (a e).2 (b e).2)
  (hW:∀ w∈W',(w∈W/\w c=0)\/∃ r∈W,Clr c l r w) (hW2:∀ w∈W,w∈W'\/w=l\/∃ w'∈W',Clr c l w w'):Sw n (c+1) bL (bP.map b++[(c,l)]) W':=by
 have lz:= s.nil l hl;have ina:∀ e∈bP,a e∈bP.map a:=λe he=>wj.mpr (e,he,V)
 have alt:= λe he=>s.lt _ (ina e he)
 have fz:∀ e∈bP,∀ j,j<c->(a e).2 j=0->(b e).2 j=0:=λe he j hj z=>by
  obtain⟨_,⟨x,y,ha,q⟩,_⟩:=hf e he;rw[q j,z,lz j hj];grind
 have mem:∀ q∈bP.map b++[(c,l)],(∃ e∈bP,q=b e)\/q =(c,l):=λq hq=>by
  rcases wp.mp hq with h|h
  ·obtain⟨p,hp,e⟩:=wj.mp h;exact .inl (p,hp,e.symm)
  ·exact .inr (wx.mp h)
 have inl:(c,l)∈bP.map b++[(c,l)]:=wF _ (wx.mpr rfl);have ind:∀ e∈bP,b e∈bP.map b++[(c,l)]:=λe he=>wO _ (wj.mpr (e,he,V))
 refine(?_,λq hq=>?_,λq hq j hj=>?_,λq hq=>?_,λq hq q' hq' ne=>?_,λw hw j hj=>?_,λr L=>?_,λr L=>?_)
 ·rw[GA];refine(?_,List.pairwise_singleton _ _,λx J y hy=>?_)
  ·have h:=s.inc;rw[uQ]at h ⊢;refine h.imp_of_mem λ{x y} J hy q=>?_
   rw[(hf x J).1,(hf y hy).1];exact q
  ·obtain⟨p,hp,e⟩:=wj.mp J;rw[wx.mp hy,← e,(hf p hp).1];exact alt p hp
 ·rcases mem q hq with⟨p,hp,rfl⟩|rfl
  ·rw[(hf p hp).1];exact Gp (alt p hp)
  ·exact gf _
 ·rcases mem q hq with⟨p,hp,rfl⟩|rfl
  ·rw[(hf p hp).1]at hj;exact fz p hp j (waO hj (alt p hp)) (s.bef _ (ina p hp) j hj)
  ·exact lz j hj
 ·rcases mem q hq with⟨p,hp,rfl⟩|rfl
  ·obtain⟨e1,⟨x,y,ha,e⟩,_⟩:=hf p hp;rw[e1,e,lz _ (alt p hp)];have:=s.one _ (ina p hp);intro z
   grind
  ·exact lc
 ·rcases mem q hq with⟨p,hp,rfl⟩|rfl
  ·rcases mem q' hq' with⟨p',hp',rfl⟩|rfl
   ·rw[(hf p hp).1,(hf p' hp').1]at ne;rw[(hf p' hp').1];exact fz p hp _ (alt p' hp') (s.oth _ (ina p hp) _ (ina p' hp') ne)
   ·exact(hf p hp).2.2
  ·rcases mem q' hq' with⟨p',hp',rfl⟩|rfl
   ·rw[(hf p' hp').1];exact lz _ (alt p' hp')
   ·exact bK rfl ne
 ·rcases hW w hw with⟨h,z⟩|⟨r,L,⟨⟨x,y,ha,e⟩,z⟩⟩
  ·rcases Gh.mp hj with g|g
   ·exact s.nil w h j g
   ·rw[g];exact z
  ·rcases Gh.mp hj with g|g
   ·rw[e j,s.nil r L j g,lz j g];grind
   ·rw[g];exact z
 ·refine(s.to r L).bind λu hu=>?_
  have bO:Span (λr=>Rows (bP.map b++[(c,l)]) r\/r∈W') l:=.of (.inl (_,inl,V))
  rcases hu with⟨q,hq,rfl⟩|hu
  ·obtain⟨p,hp,rfl⟩:=wj.mp hq;exact(hf p hp).2.back bO (.of (.inl (_,ind p hp,V)))
  ·rcases hW2 u hu with h|h|⟨w',h,k⟩
   ·exact .of (.inr h)
   ·rw[h];exact bO
   ·exact k.back bO (.of (.inr h))
 ·have bO:= s.fro l (.inr hl)
  rcases L with⟨q,hq,rfl⟩|L
  ·rcases mem q hq with⟨p,hp,rfl⟩|rfl
   ·exact(hf p hp).2.to bO (s.fro _ (.inl (_,ina p hp,V)))
   ·exact bO
  ·rcases hW r L with⟨h,_⟩|⟨u,hu,k⟩
   ·exact s.fro _ (.inr h)
   ·exact k.to bO (s.fro _ (.inr hu))
def Sw.done(s:Sw n n bL D W)(ow:∀ w∈W,∀ j,n<=j->w j=0)(od:∀ p∈D,∀ j,n<=j->p.2 j=0):Rr n (D.map λp=>(p.1,λj=>p.2 j / p.2 p.1)) /\
  (∀ v,Span (Rows (D.map λp=>(p.1,λj=>p.2 j / p.2 p.1))) v->Span bL v)/\(∀ v,Span bL v->Span (Rows (D.map λp=>(p.1,λj=>p.2 j / p.2 p.1))) v):=by
 have wz:∀ w∈W,∀ j,w j=0:=λw hw j=>by
  rcases wH j n with g|g
  ·exact s.nil w hw j g
  ·exact ow w hw j g
 refine((?_,λq hq=>?_,λq hq j hj=>?_,λq hq j hj=>?_,λq hq=>?_,λq hq q' hq' ne=>?_),λv hv=>?_,λv hv=>?_)
 ·rw[uQ];exact s.inc
 ·obtain⟨p,hp,rfl⟩:=wj.mp hq;exact s.lt p hp
 ·obtain⟨p,hp,rfl⟩:=wj.mp hq;show p.2 j / p.2 p.1=0;rw[od p hp j hj];grind
 ·obtain⟨p,hp,rfl⟩:=wj.mp hq;show p.2 j / p.2 p.1=0;rw[s.bef p hp j hj];grind
 ·obtain⟨p,hp,rfl⟩:=wj.mp hq;have:=s.one p hp
  grind
 ·obtain⟨p,hp,rfl⟩:=wj.mp hq;obtain⟨p',hp',rfl⟩:=wj.mp hq';show p.2 p'.1 / p.2 p.1=0;rw[s.oth p hp p' hp' ne];grind
 ·refine hv.bind λr ⟨q,hq,e⟩=>?_
  obtain⟨p,hp,rfl⟩:=wj.mp hq;rw[← e];exact((s.fro p.2 (.inl (p,hp,V))).smul (1 / p.2 p.1)).cast λj=>by grind
 ·refine(hv.bind s.to).bind λr L=>?_
  rcases L with⟨p,hp,rfl⟩|L
  ·have:=s.one p hp;have h:Span (Rows (D.map λp=>(p.1,λj=>p.2 j / p.2 p.1))) (λj=>p.2 j / p.2 p.1):=Span.of (_,wj.mpr (p,hp,V),V);exact(h.smul (p.2 p.1)).cast λj=>by grind
  ·exact Span.zero.cast λj=>(wz r L j).symm
end
end La
open La
namespace La
open Lean.Grind Nm
def ι{F:Type}[CommRing F](w:Int):F:=(Ring.intCast:IntCast F).intCast w
section
variable[CommRing F]
def ι_add x y:(ι (x+y):F)=ι x+ι y:=Ring.intCast_add x y
def ι_mul x y:(ι (x*y):F)=ι x*ι y:=Ring.intCast_mul x y
def ι_sub x y:(ι (x - y):F)=ι x - ι y:=Ring.intCast_sub x y
def ι_zero:(ι 0:F)=0:=Ring.intCast_zero
def ι_one:(ι 1:F)=1:=Ring.intCast_one
end
structure Kf(k:Int)(F:Type)[Field F] where
 to:Nb->F
 of:F->Nb
 ok:∀ x,(of x).ok k
 to_of:∀ x,to (of x)=x
 of_to:∀ x,x.ok k->of (to x)=x
 add:∀ {x y},x.ok k->y.ok k->to (nadd k x y)=to x+to y
 sub:∀ {x y},x.ok k->y.ok k->to (nsub k x y)=to x - to y
 mul:∀ {x y},x.ok k->y.ok k->to (nmul k x y)=to x*to y
 div:∀ {x y},x.ok k->y.ok k->y≠nnum k 0->to (ndiv k x y)=to x / to y
 num:∀ w:Int,to (nnum k w)=ι w
 zero:∀ w:Int,(ι w:F)=0↔k ∣ w
 rat:∀ r:Rat,k=0->to (.q r)*ι (r.den:Int)=ι r.num
 rest:∀ i:Int,k≠0->to (.z i)=ι i
def zpw{F:Type}[CommRing F](inv:F->F)(a:F):Int->F
 | .ofNat n=>a^n
 | .negSucc n=>inv (a^(n+1))
@[reducible] noncomputable def fieldOf [CommRing F] (h01:(0:F)≠1) (hinv:∀ a:F,∃ b:F,(a=0->b=0)/\(a≠0->a*b=1)):Field F :=
 have un:∀ a b c:F,a*b=1->a*c=1->b=c:=λa b c h1 h2=>by
  have:b=b *(a*c):=by rw[h2];grind
  have:c=c *(a*b):=by rw[h1];grind
  grind
 let inv:F->F:=λa=>Classical.choose (hinv a)
 have i0:∀ a,a=0->inv a=0:=λa=>(wav (hinv a)).1
 have i1:∀ a,a≠0->a*inv a=1:=λa=>(wav (hinv a)).2
 have ii:∀ a,inv (inv a)=a:=λa=>by
  by_cases h:a=0
  ·rw[i0 a h,i0 0 rfl,h]
  ·have h':inv a≠0:=λz=>by
    have:=i1 a h;rw[z]at this;exact h01 (by rw[← this];grind)
   have e1:=i1 a h;have e2:=i1 _ h';exact un (inv a) _ _ e2 (by rw[← e1];grind)
 letI:Inv F:=⟨inv⟩
 letI:Div F:=⟨λa b=>a*inv b⟩
 letI:HPow F Int F:=⟨zpw inv⟩
 {zpow:=⟨zpw inv⟩
  div_eq_mul_inv:=λa b=>rfl
  zero_ne_one:=h01
  inv_zero:=i0 0 rfl
  mul_inv_cancel:=λ{a} h=>i1 a h
  zpow_zero:=λa=>Semiring.pow_zero a
  zpow_succ:=λa n=>Semiring.pow_succ a n
  zpow_neg:=λa n=>by
   show zpw inv a (-n)=inv (zpw inv a n)
   match n with
   | .ofNat 0 =>
    show a^0=inv (a^0);rw[Semiring.pow_zero];have:=i1 1 (Ne.symm h01);exact un 1 _ _ (by grind) this
   | .ofNat (m+1)=>rfl
   | .negSucc m =>
    show a^(m+1)=inv (inv (a^(m+1)));rw[ii] }
def kfRat:Kf 0 Rat where
 to:=λx=>match x with | .q r=>r | .z _=>0
 of:=.q
 ok:=λ_=>rfl
 to_of:=λ_=>rfl
 of_to:=λx h=>by cases x with
  | q r=>rfl
  | z i=>exact bK rfl h.1
 add:=λ{x y} J hy=>by
  cases x with
  | z i=>exact bK rfl J.1
  | q r=>cases y with
   | z i=>exact bK rfl hy.1
   | q s=>rfl
 sub:=λ{x y} J hy=>by
  cases x with
  | z i=>exact bK rfl J.1
  | q r=>cases y with
   | z i=>exact bK rfl hy.1
   | q s=>rfl
 mul:=λ{x y} J hy=>by
  cases x with
  | z i=>exact bK rfl J.1
  | q r=>cases y with
   | z i=>exact bK rfl hy.1
   | q s=>rfl
 div:=λ{x y} J hy _=>by
  cases x with
  | z i=>exact bK rfl J.1
  | q r=>cases y with
   | z i=>exact bK rfl hy.1
   | q s=>rfl
 num:=λw=>rfl
 zero:=λw=>by
  rw[GI];exact uY
 rat:=λr _=>by
  show r *((r.den:Int):Rat) =((r.num:Int):Rat);have e:uf r.num r.den*uf (r.den:Int) 1=uf r.num 1:=by
   rw[wat,GY (by have:=yU r;omega) ()]
   grind
  have o:∀ a:Int,uf a 1 =(a:Rat):=λa=>by
   rw[waS];show(a:Rat) / 1=a
   grind
  rw[Gi,o,o]at e;exact e
 rest:=λi h=>bK rfl h
def zdD{F:Type}[Field F]{a b z:F}(h:z*b=1):a*z=a / b:=by
 grind
section
variable{k:Int}{p:Nat}[NeZero p]
def zi4(hp:(p:Int)=k):(ι k:Fin p)=0:=by
 subst hp;show Fin.intCast (p:Int)=0;unfold Fin.intCast;rw[bw (gj p)];refine Fin.ext ?_;simp
def zcP(hp:(p:Int)=k)(h:k ∣ w):(ι w:Fin p)=0:=by
 obtain⟨c,rfl⟩:=h;rw[ι_mul,zi4 hp];grind
def qg(hp:(p:Int)=k)(h:k ∣ a - b):(ι a:Fin p)=ι b:=by
 have:=zcP hp h;rw[ι_sub]at this
 grind
def zdX(hp:(p:Int)=k)(h0:0<=i)(h1:i<k):((ι i:Fin p).val:Int)=i:=by
 show((Fin.intCast i:Fin p).val:Int)=i;unfold Fin.intCast;rw[bw h0];show((i.natAbs % p:Nat):Int)=i;rw[Gu ()];omega
def fin_ι x:(ι (x.val:Int):Fin p)=x:=by
 show(Fin.intCast (x.val:Int):Fin p)=x;unfold Fin.intCast;rw[bw (gj _)];refine Fin.ext ?_;show(x.val:Int).natAbs % p=x.val;rw[uh,Gu x.isLt]
def zaG(hp:(p:Int)=k) w:(ι w:Fin p)=0↔k ∣ w:=by
 refine(λh=>?_,zcP hp);have k0:0<k:=by have:=NeZero.ne p;omega
 have e:(ι w:Fin p)=ι (w % k):=qg hp (w / k,by have:=gU w k;omega);have v:=zdX hp (GE w ()) (gK w k0);rw[← e,h]at v;have:w % k=0:=by rw[← v];rfl
 exact Int.dvd_of_emod_eq_zero this
def zgr(h:Pr k)(hp:(p:Int)=k) a:∃ b:Fin p,(a=0->b=0)/\(a≠0->a*b=1):=by
 by_cases z:a=0
 ·exact(0,λ_=>rfl,λn=>bK z n)
 ·have a0:0 <(a.val:Int):=by
   have:a.val≠0:=λe=>z (Fin.ext e)
   omega
  obtain⟨x,x0,xk,J⟩:=YN h a0 (by have:=a.isLt;omega);refine(ι x,λe=>bK e z,λ_=>?_);have:=qg hp J;rw[ι_mul,fin_ι,ι_one]at this
  grind
def zhK(h:Pr k)(hp:(p:Int)=k):(0:Fin p)≠1:=λe=>by
 have:(ι 1:Fin p)=0:=by rw[ι_one];exact e.symm
 have:=(zaG hp 1).mp this;have:=waG () this;have:=h.lo;omega
@[reducible] noncomputable def fieldFin (h:Pr k) (hp:(p:Int)=k):Field (Fin p):=fieldOf (zhK h hp) (zgr h hp)
def kfFin h (hp:(p:Int)=k) : @Kf k (Fin p) (fieldFin h hp) :=
 letI:=fieldFin h hp
 have k1:=h.lo;have k0:k≠0:=by omega
 have fm:∀ a:Int,(ι (a.fmod k):Fin p)=ι a:=λa=>qg hp (qU k a)
 {to:=λx=>match x with | .q _=>0 | .z i=>ι i
  of:=λx=>.z x.val
  ok:=λx=>(k0,gj _,by have:=x.isLt;omega)
  to_of:=λx=>fin_ι x
  of_to:=λx J=>by cases x with
   | q r=>exact bK J k0
   | z i=>exact congrArg Nb.z (zdX hp J.2.1 J.2.2)
  add:=λ{x y} J hy=>by
   cases x with
   | q r=>exact bK J k0
   | z i=>cases y with
    | q s=>exact bK hy k0
    | z j=>exact(fm _).trans (ι_add i j)
  sub:=λ{x y} J hy=>by
   cases x with
   | q r=>exact bK J k0
   | z i=>cases y with
    | q s=>exact bK hy k0
    | z j=>exact(fm _).trans (ι_sub i j)
  mul:=λ{x y} J hy=>by
   cases x with
   | q r=>exact bK J k0
   | z i=>cases y with
    | q s=>exact bK hy k0
    | z j=>exact(fm _).trans (ι_mul i j)
  div:=λ{x y} J hy ne=>by
   cases x with
   | q r=>exact bK J k0
   | z i=>cases y with
    | q s=>exact bK hy k0
    | z j =>
     have j0:j≠0:=λz=>ne (by unfold nnum;rw[bx k0,z,waH])
     obtain⟨x,x0,xk,hx'⟩:=YN h (show 0<j by have:=hy.2.1;omega) hy.2.2;have e:=qg (p:=p) hp hx';rw[ι_mul,ι_one]at e;refine Eq.trans (b:=ι i*ι x) ?_ (zdD e);show(ι ((i*zinv k j).fmod k):Fin p)=ι i*ι x;rw[fm,ι_mul,zdk x0 xk hx']
  num:=λw=>by
   unfold nnum;rw[bx k0];exact fm w
  zero:=zaG hp
  rat:=λr e=>bK e k0
  rest:=λi _=>rfl }
end
def zw{k:Int}(h:kab k):∃(F:Type)(inst:Field F)(dec:DecidableEq F),Nonempty (Kf k F):=by
 rcases h with rfl|h
 ·exact(Rat,inferInstance,inferInstance,⟨kfRat⟩)
 ·have k1:=h.lo;haveI:NeZero k.toNat:=⟨()⟩;have hp:(k.toNat:Int)=k:=by omega
  exact(Fin k.toNat,fieldFin h hp,inferInstance,⟨kfFin h hp⟩)
section
variable[Field F]
def fv(ws:List Int):Nat->F:=λj=>ι (ws.getD j 0)
def zaB(h:ws.length<=j):(fv ws j:F)=0:=by
 unfold fv;rw[wc,wK h];exact ι_zero
def Nf(k:Int)(ws:List Int):Prop:=k≠0->∀ w∈ws,0<=w/\w<k
def Yn(O:Kf k F)(h:Nf k ws) j:(fv ws j:F)=0↔ws.getD j 0=0:=by
 unfold fv;rw[O.zero]
 constructor
 ·intro d
  by_cases k0:k=0
  ·rw[k0,GI]at d;exact d
  ·have hw:0<=ws.getD j 0/\ws.getD j 0<k:=by
    rcases wH j ws.length with g|g
    ·rw[wc,wb g];exact h k0 _ (wk g)
    ·rw[wc,wK g];refine(Int.le_refl _,?_);show 0<k;have n:0<=k:=by
      rcases gX k 0 with z|z
      ·exfalso
       have:=O.ok (O.to (.z 0));generalize O.of (O.to (.z 0))=x at this;cases x with
       | q r=>exact k0 this
       | z i=>obtain⟨_,i0,i1⟩:=this;omega
      ·exact z
     omega
   obtain⟨c,hc⟩:=d
   rcases waT c 0 with g|g|g
   ·have:k*c<=k *(-1):=uP () ();omega
   ·rw[hc,g,GH]
   ·have:k*1<=k*c:=uP () ();omega
 ·intro e;rw[e];exact waM k
def gcdL(ws:List Int):Nat:=ws.foldl (λd w=>gw d w.natAbs) 0
def jd:∀(ws:List Int) d,(ws.foldl (λd w=>gw d w.natAbs) d ∣ d)/\∀ w∈ws,((ws.foldl (λd w=>gw d w.natAbs) d:Nat):Int) ∣ w
 | [],d=>(Nat.dvd_refl d,λw h=>nomatch h)
 | x::ws,d=>by
  obtain⟨h1,h2⟩:=jd ws (gw d x.natAbs);refine(Gv h1 (waf _ _),λw hw=>?_)
  rcases wN.mp hw with e|hw
  ·rw[e];exact Int.ofNat_dvd_left.mpr (Gv h1 (GW _ _))
  ·exact h2 w hw
def zaW(h:w∈ws):((gcdL ws:Nat):Int) ∣ w:=(jd ws 0).2 w h
def kar(k:Int)(ws:List Int):List Int:=if k≠0 then ws.map (·.fmod k)else if gcdL ws=0 then ws else ws.map λw=>w.fdiv ((gcdL ws:Nat):Int)
def Xh ws:(kar k ws).length=ws.length:=by
 unfold kar;split
 ·exact wa _
 ·split
  ·rfl
  ·exact wa _
def JJ(k0:0<=k) ws:Nf k (kar k ws):=λh w hw=>by
 unfold kar at hw;rw[bw h]at hw;obtain⟨x,_,rfl⟩:=wj.mp hw;exact(wJ x (),wR x ())
def zaZ{α β:Type} f a (b:β) (h:f a=b) (l:List α) j:(l.map f).getD j b=f (l.getD j a):=by
 rw[wc,wc,wg,← h];cases l[j]? <;> rfl
def xL{w d:Int}(h:d ∣ w)(hd:d≠0):w.fdiv d*d=w:=by
 rw[ug h];exact ga h
def Yv(O:Kf k F) ws:∃ a:F,a≠0/\∀ j,fv (kar k ws) j=a*fv ws j:=by
 have one:(1:F)≠0:=λe=>Field.zero_ne_one e.symm
 unfold kar
 split
 ·rename_i h;refine(1,one,λj=>?_);unfold fv;rw[zaZ (λw:Int=>w.fmod k) 0 0 (waH k)];have d:=(O.zero _).mpr (qU k (ws.getD j 0));rw[ι_sub]at d
  grind
 ·rename_i h;have k0:= uw λz=>h z
  split
  ·exact(1,one,λj=>by grind)
  ·rename_i g;have gn:(ι ((gcdL ws:Nat):Int):F)≠0:=λz=>by
    rw[O.zero,k0,GI]at z;omega
   refine(1 / ι ((gcdL ws:Nat):Int),λz=>?_,λj=>?_)
   ·have:ι ((gcdL ws:Nat):Int) *(1 / ι ((gcdL ws:Nat):Int)) =(1:F):=by grind
    rw[z]at this;exact one (by rw[← this];grind)
   ·unfold fv;rw[zaZ (λw:Int=>w.fdiv ((gcdL ws:Nat):Int)) 0 0 (Int.zero_fdiv _)];have dv:((gcdL ws:Nat):Int) ∣ ws.getD j 0:=by
     rcases wH j ws.length with z|z
     ·rw[wc,wb z];exact zaW (wk z)
     ·rw[wc,wK z];exact waM _
    have e:=xL dv ();have e2:(ι ((ws.getD j 0).fdiv ((gcdL ws:Nat):Int)):F)*ι ((gcdL ws:Nat):Int)=ι (ws.getD j 0):=by rw[← ι_mul,e]
    grind
def mixed(row lead:List Int)(c:Nat):List Int:=vP (λl r=>lead.getD c 0*l - row.getD c 0*r) row lead
def kah(k:Int)(lead:List Int)(c:Nat)(row:List Int):List Int:=if row.getD c 0=0 then row else kar k (mixed row lead c)
def jf(h:row.length=lead.length) c:(mixed row lead c).length=row.length:=by
 unfold mixed;rw[vd];omega
def xg(h:row.length=lead.length) c:(kah k lead c row).length=row.length:=by
 unfold kah;split
 ·rfl
 ·rw[Xh,jf h]
def YQ(h:row.length=lead.length) c j:(mixed row lead c).getD j 0=lead.getD c 0*row.getD j 0 - row.getD c 0*lead.getD j 0:=by
 rcases wH j row.length with g|g
 ·have g2:j<lead.length:=by omega
  unfold mixed;rw[wc,uq,wb g,wb g2];simp[wc,wb g,wb g2]
 ·have g2:lead.length<=j:=by omega
  have g3:(mixed row lead c).length<=j:=by rw[jf h];exact g
  simp[wc,wK g,wK g2,wK g3]
def Yu(k0:0<=k) c (h:Nf k row):Nf k (kah k lead c row):=by
 unfold kah;split
 ·exact h
 ·exact JJ k0 _
def JY(O:Kf k F)(h:row.length=lead.length)(lc:(fv lead c:F)≠0):Clr c (fv lead:Nat->F) (fv row) (fv (kah k lead c row)):=by
 unfold kah;have one:(1:F)≠0:=λe=>Field.zero_ne_one e.symm
 split
 ·rename_i z;refine((1,0,one,λj=>by grind),?_);show ι (row.getD c 0)=0;rw[z];exact ι_zero
 ·obtain⟨a,ha,e⟩:=Yv O (mixed row lead c);have m:∀ j,(fv (mixed row lead c) j:F)=fv lead c*fv row j - fv row c*fv lead j:=λj=>by
   unfold fv;rw[YQ h,ι_sub,ι_mul,ι_mul]
  refine((a*fv lead c,-(a*fv row c),λz=>?_,λj=>?_),?_)
  ·grind
  ·rw[e j,m j];grind
  ·rw[e c,m c];grind
def kat(k:Int)(c:Nat)(s:List (Nat×List Int)×List (List Int)):List (Nat×List Int)×List (List Int) :=
 match s.2.filter (λr=>decide (r.getD c 0≠0))with
 | []=>s
 | l::rest=>(s.1.map (λp=>(p.1,kah k l c p.2))++[(c,l)],s.2.filter (λr=>decide (r.getD c 0=0))++rest.map (kah k l c))
def swTo(k:Int)(rows:List (List Int)):Nat->List (Nat×List Int)×List (List Int)
 | 0=>([],rows.map (kar k))
 | c+1=>kat k c (swTo k rows c)
structure Fine(k:Int)(n:Nat)(s:List (Nat×List Int)×List (List Int)):Prop where
 dl:∀ p∈s.1,p.2.length=n
 wl:∀ w∈s.2,w.length=n
 df:∀ p∈s.1,Nf k p.2
 wf:∀ w∈s.2,Nf k w
def Fine.turn(k0:0<=k)(h:Fine k n s):Fine k n (kat k c s):=by
 unfold kat;cases e:s.2.filter (λr=>decide (r.getD c 0≠0))with
 | nil=>exact h
 | cons l rest =>
  have sub:∀ r∈l::rest,r∈s.2:=λr L=>by rw[← e]at L;exact(vg.mp L).1
  have hl:=sub l wo;refine(λp hp=>?_,λw hw=>?_,λp hp=>?_,λw hw=>?_)
  ·rcases wp.mp hp with hp|hp
   ·obtain⟨q,hq,rfl⟩:=wj.mp hp;rw[xg (by rw[h.dl q hq,h.wl l hl]),h.dl q hq]
   ·rw[wx.mp hp];exact h.wl l hl
  ·rcases wp.mp hw with hw|hw
   ·exact h.wl w (vg.mp hw).1
   ·obtain⟨q,hq,rfl⟩:=wj.mp hw;have:=h.wl q (sub q (wt _ hq));rw[xg (by rw[this,h.wl l hl]),this]
  ·rcases wp.mp hp with hp|hp
   ·obtain⟨q,hq,rfl⟩:=wj.mp hp;exact Yu k0 c (h.df q hq)
   ·rw[wx.mp hp];exact h.wf l hl
  ·rcases wp.mp hw with hw|hw
   ·exact h.wf w (vg.mp hw).1
   ·obtain⟨q,hq,rfl⟩:=wj.mp hw;exact Yu k0 c (h.wf q (sub q (wt _ hq)))
def Fine.to(k0:0<=k)(h:∀ r∈rows,r.length=n):∀ c,Fine k n (swTo k rows c)
 | 0=>by
  refine(λp hp=>(nomatch hp),λw hw=>?_,λp hp=>(nomatch hp),λw hw=>?_)
  ·obtain⟨r,L,rfl⟩:=wj.mp hw;rw[Xh,h r L]
  ·obtain⟨r,L,rfl⟩:=wj.mp hw;exact JJ k0 r
 | c+1=>(Fine.to k0 h c).turn k0
def inF(D:List (Nat×List Int)):List (Pv F):=D.map λp=>(p.1,fv p.2)
def zgD(O:Kf k F)(k0:0<=k)(h:∀ r∈rows,r.length=n):∀ c,Sw n c (λv=>∃ r∈rows,v =(fv r:Nat->F)) (inF (swTo k rows c).1) ((swTo k rows c).2.map fv)
 | 0=>by
  refine zeV n _ _ (λv ⟨r,L,e⟩=>?_) λv hv=>?_
  ·obtain⟨a,ha,q⟩:=Yv O r;have hm:(fv (kar k r):Nat->F)∈(swTo k rows 0).2.map fv:=wj.mpr (_,wj.mpr (r,L,V),V);have hs:Span (λv=>v∈(swTo k rows 0).2.map fv) (fv (kar k r):Nat->F):=.of hm;exact(hs.smul (1 / a)).cast λj=>by rw[e,q j];grind
  ·obtain⟨w,hw,rfl⟩:=wj.mp hv;obtain⟨r,L,rfl⟩:=wj.mp hw;obtain⟨a,ha,q⟩:=Yv O r;have hs:Span (λv=>∃ r∈rows,v =(fv r:Nat->F)) (fv r):=.of (r,L,V);exact(hs.smul a).cast λj=>(q j).symm
 | c+1=>by
  have ih:=zgD O k0 h c;have fine:=Fine.to k0 h c;show Sw n (c+1) _ (inF (kat k c (swTo k rows c)).1) ((kat k c (swTo k rows c)).2.map fv);generalize swTo k rows c=s at ih fine;have zr:= λr L=>Yn O (fine.wf r L) c
  unfold kat;cases e:s.2.filter (λr=>decide (r.getD c 0≠0))with
  | nil =>
   refine ih.skip λw hw=>?_
   obtain⟨r,L,rfl⟩:=wj.mp hw;rw[zr r L];refine uw λz=>?_
   have:r∈s.2.filter (λr=>decide (r.getD c 0≠0)):=vg.mpr (L,by simpa using z);rw[e]at this;exact nomatch this
  | cons l rest =>
   have mem:∀ r∈l::rest,r∈s.2/\r.getD c 0≠0:=λr L=>by
    rw[← e]at L;obtain⟨h1,h2⟩:=vg.mp L;exact(h1,by simpa using h2)
   obtain⟨hl,lz⟩:=mem l wo;have lc:= λz=>lz ((zr l hl).mp z)
   have ll:=fine.wl l hl;have cl:∀ r,r.length=n->Clr c (fv l:Nat->F) (fv r) (fv (kah k l c r)):=λr L=>JY O (by rw[L,ll]) lc
   have e1:(inF (s.1.map (λp=>(p.1,kah k l c p.2))++[(c,l)]):List (Pv F))=s.1.map (λp=>(p.1,fv (kah k l c p.2)))++[(c,fv l)]:=by
    unfold inF;rw[wv,vV];rfl
   rw[e1];refine Sw.turn (b:=λp=>(p.1,fv (kah k l c p.2))) ih (wj.mpr (l,hl,V)) lc (λp hp=>(V,cl p.2 (fine.dl p hp))) (λw hw=>?_) (λw hw=>?_)
   ·obtain⟨r,L,rfl⟩:=wj.mp hw
    rcases wp.mp L with L|L
    ·obtain⟨h1,h2⟩:=vg.mp L;exact .inl (wj.mpr (r,h1,V),(zr r h1).mpr (by simpa using h2))
    ·obtain⟨q,hq,rfl⟩:=wj.mp L;have hq2:=(mem q (wt _ hq)).1;exact .inr (fv q,wj.mpr (q,hq2,V),cl q (fine.wl q hq2))
   ·obtain⟨r,L,rfl⟩:=wj.mp hw
    by_cases z:r.getD c 0=0
    ·exact .inl (wj.mpr (r,wO _ (vg.mpr (L,by simpa using z)),V))
    ·have hm:r∈l::rest:=by rw[← e];exact vg.mpr (L,by simpa using z)
     rcases wN.mp hm with q|q
     ·exact .inr (.inl (by rw[q]))
     ·exact .inr (.inr (_,wj.mpr (_,wF _ (wj.mpr (r,q,V)),V),cl r (fine.wl r L)))
abbrev RmI(F:Type)[Field F](rows:List (List Int)):(Nat->F)->Prop:=λv=>∃ r∈rows,v=fv r
def zeF(O:Kf k F)(k0:0<=k)(h:∀ r∈rows,r.length=n) :
  Rr n ((swTo k rows n).1.map λp=>(p.1,λj=>(fv p.2 j / fv p.2 p.1:F))) /\
  (∀ v,Span (Rows ((swTo k rows n).1.map λp=>(p.1,λj=>(fv p.2 j / fv p.2 p.1:F)))) v->Span (RmI F rows) v)/\(∀ v,Span (RmI F rows) v->Span (Rows ((swTo k rows n).1.map λp=>(p.1,λj=>(fv p.2 j / fv p.2 p.1:F)))) v):=by
 have s:=zgD O k0 h n;have fine:=Fine.to k0 h n;have d:=s.done (λw hw j hj=>by
  obtain⟨r,L,rfl⟩:=wj.mp hw;exact zaB (by rw[fine.wl r L];exact hj)) (λp hp j hj=>by
  obtain⟨q,hq,rfl⟩:=wj.mp hp;exact zaB (by rw[fine.dl q hq];exact hj))
 have e:((inF (swTo k rows n).1:List (Pv F)).map λp=>Prod.mk p.1 λj=>p.2 j / p.2 p.1) =(swTo k rows n).1.map λp=>Prod.mk p.1 λj=>(fv p.2 j / fv p.2 p.1:F):=by
  unfold inF;rw[vV];rfl
 rw[e]at d;exact d
def ji(O:Kf k F)(k0:0<=k){n:Nat}{rows:List (List Int)}(h:∀ r∈rows,r.length=n){p:Nat×List Int}(hp:p∈(swTo k rows n).1) :
  p.1<n/\p.2.length=n/\p.2.getD p.1 0≠0/\∀ j,j<p.1->p.2.getD j 0=0:=by
 have s:=zgD O k0 h n;have fine:=Fine.to k0 h n;have hm:((p.1,fv p.2):Pv F)∈inF (swTo k rows n).1:=wj.mpr (p,hp,V);have z:=λj=>Yn O (fine.df p hp) j
 exact(s.lt _ hm,fine.dl p hp,λe=>s.one _ hm ((z p.1).mpr e),λj hj=>(z j).mp (s.bef _ hm j hj))
end
section
variable{k:Int}{F:Type}[Field F]
def zD(h:kab k) w:(nnum k w).ok k:=by
 unfold nnum
 split
 ·assumption
 ·rename_i n;have:=h.lt;exact(n,wJ w (),wR w ())
def OkR(k:Int)(xs:List Nb):Prop:=∀ x∈xs,x.ok k
def nv(O:Kf k F)(xs:List Nb):Nat->F:=λj=>O.to (xs.getD j (nnum k 0))
def Kf.num0(O:Kf k F):O.to (nnum k 0)=0:=by rw[O.num];exact ι_zero
def Kf.num1(O:Kf k F):O.to (nnum k 1)=1:=by rw[O.num];exact ι_one
def Kf.inj(O:Kf k F)(J:x.ok k)(hy:y.ok k)(h:O.to x=O.to y):x=y:=by rw[← O.of_to x J,← O.of_to y hy,h]
def zY(O:Kf k F)(h:xs.length<=j):nv O xs j=0:=by
 unfold nv;rw[wc,wK h];exact O.num0
def zI(O:Kf k F)(h:xs[j]?=some x):nv O xs j=O.to x:=by
 unfold nv;rw[wc,h];rfl
def YF(O:Kf k F)(J:OkR k xs)(hy:OkR k ys)(hl:xs.length=ys.length)(h:∀ j,nv O xs j=nv O ys j):xs=ys:=by
 refine uB hl λj h1 h2=>?_
 have e:=h j;rw[zI O (wb h1),zI O (wb h2)]at e;exact O.inj (J _ (wk h1)) (hy _ (wk h2)) e
def dot:Nat->(Nat->F)->(Nat->F)->F
 | 0,_,_=>0
 | n+1,u,v=>dot n u v+u n*v n
def zk{u u' v v':Nat->F}(h:∀ j,j<n->u j*v j=u' j*v' j):dot n u v=dot n u' v':=by
 induction n with
 | zero=>rfl
 | succ n ih=>simp only[dot];rw[ih λj hj=>h j (),h n ()]
def yY a n (u v:Nat->F):dot n (λj=>a*u j) v=a*dot n u v:=by
 induction n with
 | zero=>simp only[dot];grind
 | succ n ih=>simp only[dot];rw[ih];grind
def XQ n (u u' v:Nat->F):dot n (λj=>u j+u' j) v=dot n u v+dot n u' v:=by
 induction n with
 | zero=>simp only[dot];grind
 | succ n ih=>simp only[dot];rw[ih];grind
def zp n (u v:Nat->F):dot n u v=dot n v u:=zk λj _=>by grind
def dot_zero n (u v:Nat->F) (h:∀ j,j<n->u j*v j=0):dot n u v=0:=by
 induction n with
 | zero=>rfl
 | succ n ih=>simp only[dot];rw[ih λj hj=>h j (),h n ()];grind
def ndotF(k:Int)(l:List (Nb×Nb)):Nb:=l.foldl (λs p=>nadd k s (nmul k p.1 p.2)) (nnum k 0)
def ndot(k:Int)(xs ys:List Nb):Nb:=ndotF k (xs.zip ys)
def yt(Z:kab k)(J:x.ok k)(hy:y.ok k):(nadd k x y).ok k:=by
 have hl:=Z.lt;cases x with
 | q r=>cases y with
  | q s=>exact J
  | z j=>exact bK (show k=0 from J) hy.1
 | z i=>cases y with
  | q s=>exact bK (show k=0 from hy) J.1
  | z j=>exact(J.1,wJ _ (by have:=J.1;omega),wR _ (by have:=J.1;omega))
def yD(Z:kab k)(J:x.ok k)(hy:y.ok k):(nmul k x y).ok k:=by
 have hl:=Z.lt;cases x with
 | q r=>cases y with
  | q s=>exact J
  | z j=>exact bK (show k=0 from J) hy.1
 | z i=>cases y with
  | q s=>exact bK (show k=0 from hy) J.1
  | z j=>exact(J.1,wJ _ (by have:=J.1;omega),wR _ (by have:=J.1;omega))
def zcj(Z:kab k)(J:x.ok k)(hy:y.ok k):(ndiv k x y).ok k:=by
 have hl:=Z.lt;cases x with
 | q r=>cases y with
  | q s=>exact J
  | z j=>exact bK (show k=0 from J) hy.1
 | z i=>cases y with
  | q s=>exact bK (show k=0 from hy) J.1
  | z j=>exact(J.1,wJ _ (by have:=J.1;omega),wR _ (by have:=J.1;omega))
def qC l p:ndotF k (l++[p])=nadd k (ndotF k l) (nmul k p.1 p.2):=by
 unfold ndotF;rw[Gq];rfl
def jv(Z:kab k):∀ l,(∀ p∈l,p.1.ok k/\p.2.ok k)->(ndotF k l).ok k:=by
 intro l;unfold ndotF;have go:∀(l:List (Nb×Nb)) s,s.ok k->(∀ p∈l,p.1.ok k/\p.2.ok k)->(l.foldl (λs p=>nadd k s (nmul k p.1 p.2)) s).ok k:=by
  intro l
  induction l with
  | nil=>intro s hs _;exact hs
  | cons p l ih=>intro s hs h;exact ih _ (yt Z hs (yD Z (h p wo).1 (h p wo).2)) λq hq=>h q (wt _ hq)
 exact λh=>go l _ (zD Z 0) h
def zbm(J:OkR k xs)(hy:OkR k ys):∀ p∈xs.zip ys,p.1.ok k/\p.2.ok k:=λp hp=>by
 obtain⟨a,b⟩:=p;obtain⟨h1,h2⟩:=vt hp;exact(J _ h1,hy _ h2)
def zN(Z:kab k)(J:OkR k xs)(hy:OkR k ys):(ndot k xs ys).ok k:=jv Z _ (zbm J hy)
def Qi(O:Kf k F)(Z:kab k)(J:OkR k xs)(hy:OkR k ys)(hl:xs.length=ys.length):∀ i,i<=xs.length->O.to (ndotF k ((xs.zip ys).take i))=dot i (nv O xs) (nv O ys)
 | 0,_=>by
  exact O.num0
 | i+1,h=>by
  have h1:= h;have h2:i<ys.length:=by omega
  have hz:i <(xs.zip ys).length:=by rw[uy];omega
  rw[vZ hz,qC,wag];have ih:=Qi O Z J hy hl i ();have o1:=J _ (wk h1);have o2:=hy _ (wk h2);rw[O.add (jv Z _ λp hp=>zbm J hy p (vD hp)) (yD Z o1 o2),ih,O.mul o1 o2];simp only[dot];rw[zI O (wb h1),zI O (wb h2)]
def zP(O:Kf k F)(Z:kab k)(J:OkR k xs)(hy:OkR k ys)(hl:xs.length=ys.length):O.to (ndot k xs ys)=dot xs.length (nv O xs) (nv O ys):=by
 have h:=Qi O Z J hy hl xs.length (ww _);rw[wm (by rw[uy];omega)]at h;exact h
def scW(b:Int):Nb->Int
 | .q r=>r.num*b.fdiv (r.den:Int)
 | .z i=>i
def dvB(b:Int):Nb->Prop
 | .q r=>(r.den:Int) ∣ b
 | .z _=>True
structure Scl(k:Int)(xs:List Nb)(ws:List Int)(b:Int):Prop where
 eq:ws=xs.map (scW b)
 pos:0<b
 one:k≠0->b=1
 dv:∀ x∈xs,dvB b x
def Scl.len(s:Scl k xs ws b):ws.length=xs.length:=by rw[s.eq,wa]
def Scl.ne(O:Kf k F)(Z:kab k)(s:Scl k xs ws b):(ι b:F)≠0:=λz=>by
 rw[O.zero]at z
 by_cases k0:k=0
 ·rw[k0,GI]at z;have:=s.pos;omega
 ·rw[s.one k0]at z;have:=waG () z
  rcases Z with h|h
  ·exact k0 h
  ·have:=h.lo;omega
def zc2(O:Kf k F)(one:k≠0->b=1)(J:x.ok k)(dv:dvB b x):(ι (scW b x):F)=O.to x*ι b:=by
 cases x with
 | q r =>
  have k0:= J;have e:=O.rat r k0;have d:= dv;have e2:=xL d (yU r);show(ι (r.num*b.fdiv (r.den:Int)):F)=_;rw[ι_mul,← e];have e3:(ι (b.fdiv (r.den:Int)):F)*ι (r.den:Int)=ι b:=by rw[← ι_mul,e2]
  grind
 | z i =>
  have k0:= J.1;rw[O.rest i k0,one k0,ι_one];show(ι i:F)=_
  grind
def Scl.fv(O:Kf k F)(s:Scl k xs ws b)(J:OkR k xs) j:(La.fv ws j:F)=nv O xs j*ι b:=by
 rcases wH j xs.length with g|g
 ·have e:ws[j]?=some (scW b xs[j]):=by rw[s.eq,wg,wb g];rfl
  rw[zI O (wb g),← zc2 O s.one (J _ (wk g)) (s.dv _ (wk g))];unfold La.fv;rw[wc,e];rfl
 ·rw[zY O g,zaB (by rw[s.len];exact g)];grind
def zhl(n:Nat){ws vs:List Int}(h1:ws.length=n)(h2:vs.length=n):(ι (vP (·*·) ws vs).sum:F)=dot n (fv ws) (fv vs):=by
 have go:∀ i,i<=n->(ι ((vP (·*·) ws vs).take i).sum:F)=dot i (fv ws) (fv vs):=by
  intro i
  induction i with
  | zero=>intro _;rw[wa9,wbk];exact ι_zero
  | succ i ih =>
   intro hi;have hz:i <(vP (·*·) ws vs).length:=by rw[vd];omega
   rw[vZ hz,wa4,ι_add,ih (),uD];simp only[dot];have e1:(fv ws i:F)=ι (ws[i]'()):=by unfold fv;rw[wc,wb ()];rfl
   have e2:(fv vs i:F)=ι (vs[i]'()):=by unfold fv;rw[wc,wb ()];rfl
   rw[e1,e2,← ι_mul];simp
 have:=go n (ww _);rw[wm (by rw[vd];omega)]at this;exact this
def XG(O:Kf k F)(h:(ι b:F)≠0):nnum k b≠nnum k 0:=λz=>h (by rw[← O.num,z,O.num0])
def zhZ(Z:kab k)(hl:xs.length=ys.length)(s1:Scl k xs ws b)(s2:Scl k ys vs c)(J:OkR k xs)(hy:OkR k ys) :
  nnum k (b*c)≠nnum k 0/\ndiv k (nnum k (vP (·*·) ws vs).sum) (nnum k (b*c))=ndot k xs ys:=by
 obtain⟨F,_,_,⟨O⟩⟩:=zw Z;have n1:=s1.ne O Z;have n2:=s2.ne O Z;have n3:(ι (b*c):F)≠0:=λz=>by rw[ι_mul]at z;grind
 have nn:=XG O n3;refine(nn,O.inj (zcj Z (zD Z _) (zD Z _)) (zN Z J hy) ?_);rw[O.div (zD Z _) (zD Z _) nn,O.num,O.num,zP O Z J hy hl,zhl xs.length s1.len (by rw[s2.len,hl]),ι_mul];have e:dot xs.length (La.fv ws) (La.fv vs) =(ι b*ι c)*dot xs.length (nv O xs) (nv O ys):=by
  rw[← yY];exact zk λj _=>by rw[s1.fv O J,s2.fv O hy];grind
 rw[e];grind
def RmN(O:Kf k F)(M:Tb):(Nat->F)->Prop:=λv=>∃ r∈M,v=nv O r
def OkM(k:Int)(n:Nat)(M:Tb):Prop:=∀ r∈M,r.length=n/\OkR k r
structure IsR(O:Kf k F)(n:Nat)(R:Tb)(ls:List Nat):Prop where
 ok:OkM k n R
 len:ls.length=R.length
 rr:Rr n (ls.zip (R.map (nv O)))
structure kap(O:Kf k F)(n:Nat)(M R:Tb)(ls:List Nat):Prop extends IsR O n R ls where
 to:∀ v,Span (RmN O M) v->Span (RmN O R) v
 fro:∀ v,Span (RmN O R) v->Span (RmN O M) v
def qi{ls:List Nat}(h:ls.length=R.length)(v:Nat->F):Rows (ls.zip (R.map (nv O))) v↔RmN O R v:=by
 constructor
 ·rintro ⟨p,hp,rfl⟩
  obtain⟨a,b⟩:=p;obtain⟨r,L,e⟩:=wj.mp (vt hp).2;exact(r,L,e.symm)
 ·rintro ⟨r,L,rfl⟩
  obtain⟨i,hi,e⟩:=wD L;have h2:i <(R.map (nv O)).length:=by rw[wa];exact hi
  refine((ls[i],(R.map (nv O))[i]),?_,by simp[e]);rw[← wag (h:=by rw[uy];omega)];exact wk _
def IsR.rows(h:IsR O n R ls){v:Nat->F}:Span (Rows (ls.zip (R.map (nv O)))) v↔Span (RmN O R) v :=
 (λq=>q.mono λu=>(qi h.len u).mp,λq=>q.mono λu=>(qi h.len u).mpr)
def IsR.unique{O:Kf k F}(h:IsR O n R ls)(h':IsR O n R' ls')(s1:∀ v,Span (RmN O R) v->Span (RmN O R') v)(s2:∀ v,Span (RmN O R') v->Span (RmN O R) v):R=R'/\ls=ls':=by
 have e:=h.rr.unique h'.rr (λv q=>h'.rows.mpr (s1 v (h.rows.mp q))) (λv q=>h.rows.mpr (s2 v (h'.rows.mp q)));have el:=congrArg (Gr Prod.fst) e;have er:=congrArg (Gr Prod.snd) e;rw[gF (by rw[wa];exact gI h.len),gF (by rw[wa];exact gI h'.len)]at el;rw[waZ (by rw[wa];exact gI h.len.symm),waZ (by rw[wa];exact gI h'.len.symm)]at er;refine(?_,el);have hl:R.length=R'.length:=by have:=congrArg uV er;simpa using this
 refine uB hl λi h1 h2=>?_
 have e2:(R.map (nv O))[i]'(by simpa using h1) =(R'.map (nv O))[i]'(by simpa using h2):=by simp only[er]
 rw[uM,uM]at e2;have o1:=h.ok _ (wk h1);have o2:=h'.ok _ (wk h2);exact YF O o1.2 o2.2 (by rw[o1.1,o2.1]) λj=>by rw[e2]
def kap.unique{O:Kf k F}(h:kap O n M R ls)(h':kap O n M' R' ls')(s1:∀ v,Span (RmN O M) v->Span (RmN O M') v)(s2:∀ v,Span (RmN O M') v->Span (RmN O M) v):R=R' :=
 (h.toIsR.unique h'.toIsR (λv q=>h'.to v (s1 v (h.fro v q))) (λv q=>h.to v (s2 v (h'.fro v q)))).1
def IsR.red{O:Kf k F}(h:IsR O n R ls):kap O n R R ls:={ h with to:=λ_ q=>q,fro:=λ_ q=>q }
def overL(k:Int)(p:Nat×List Int):List Nb:=p.2.map λw=>ndiv k (nnum k w) (nnum k (p.2.getD p.1 0))
def redM(k:Int)(n:Nat)(Ws:List (List Int)):Tb:=(swTo k Ws n).1.map (overL k)
def leadsM(k:Int)(n:Nat)(Ws:List (List Int)):List Nat:=(swTo k Ws n).1.map (·.1)
def jR(O:Kf k F)(Z:kab k)(ok:OkM k n M)(hl:Ws.length=M.length)(hs:∀(i:Nat) r ws,M[i]?=some r->Ws[i]?=some ws->∃ b,Scl k r ws b) :
  kap O n M (redM k n Ws) (leadsM k n Ws):=by
 have k0:=Z.lt.1;have pair:∀ ws∈Ws,∃ r∈M,∃ b,Scl k r ws b:=λws hw=>by
  obtain⟨i,hi,e⟩:=wD hw;have h2:i<M.length:=by omega
  exact(M[i],wk h2,hs i M[i] ws (wb h2) (by rw[wb hi,e]))
 have pair2:∀ r∈M,∃ ws∈Ws,∃ b,Scl k r ws b:=λr L=>by
  obtain⟨i,hi,e⟩:=wD L;have h2:i<Ws.length:=by omega
  exact(Ws[i],wk h2,hs i r Ws[i] (by rw[wb hi,e]) (wb h2))
 have wl:∀ ws∈Ws,ws.length=n:=λws hw=>by
  obtain⟨r,L,b,s⟩:=pair ws hw;rw[s.len,(ok r L).1]
 obtain⟨rr,s1,s2⟩:=zeF O k0 wl;have sp1:∀ v,Span (RmI F Ws) v->Span (RmN O M) v:=λv q=>q.bind λu ⟨ws,hw,e⟩=>by
  obtain⟨r,L,b,s⟩:=pair ws hw;have:Span (RmN O M) (nv O r):=.of (r,L,V);exact(this.smul (ι b)).cast λj=>by rw[e,s.fv O (ok r L).2];grind
 have sp2:∀ v,Span (RmN O M) v->Span (RmI F Ws) v:=λv q=>q.bind λu ⟨r,L,e⟩=>by
  obtain⟨ws,hw,b,s⟩:=pair2 r L;have:Span (RmI F Ws) (La.fv ws):=.of (ws,hw,V);have n:=s.ne O Z;exact(this.smul (1 / ι b)).cast λj=>by rw[e,s.fv O (ok r L).2];grind
 have rowv:∀ p∈(swTo k Ws n).1,(nv O (overL k p):Nat->F)=λj=>fv p.2 j / fv p.2 p.1:=λp hp=>by
  obtain⟨p1,p2,p3,p4⟩:=ji O k0 wl hp;have fine:=Fine.to k0 wl n;have ln:(ι (p.2.getD p.1 0):F)≠0:=λz=>p3 ((Yn O (fine.df p hp) p.1).mp z)
  funext j
  rcases wH j p.2.length with g|g
  ·have e:(overL k p)[j]?=some (ndiv k (nnum k p.2[j]) (nnum k (p.2.getD p.1 0))):=by unfold overL;rw[wg,wb g];rfl
   rw[zI O e,O.div (zD Z _) (zD Z _) (XG O ln),O.num,O.num];show _=fv p.2 j / fv p.2 p.1;unfold fv;rw[wc (l:=p.2) (i:=j),wb g];rfl
  ·rw[zY O (by unfold overL;rw[wa];exact g)];show _=fv p.2 j / fv p.2 p.1;rw[zaB g];grind
 have zz:(leadsM k n Ws).zip ((redM k n Ws).map (nv O)) =(swTo k Ws n).1.map λp=>(p.1,λj=>(fv p.2 j / fv p.2 p.1:F)):=by
  unfold leadsM redM;rw[vV,List.zip_map',gV];intro p hp;show Prod.mk p.1 (nv O (overL k p))=_;rw[rowv p hp]
 have hlen:(leadsM k n Ws).length =(redM k n Ws).length:=by unfold leadsM redM;rw[wa,wa]
 refine((λr L=>?_,hlen,by rw[zz];exact rr),λv q=>?_,λv q=>?_)
 ·obtain⟨p,hp,rfl⟩:=wj.mp L;obtain⟨p1,p2,p3,p4⟩:=ji O k0 wl hp;refine(by unfold overL;rw[wa];exact p2,λx J=>?_);obtain⟨w,_,rfl⟩:=wj.mp J;exact zcj Z (zD Z _) (zD Z _)
 ·have:=s2 v (sp2 v q);rw[← zz]at this;exact this.mono λu=>(qi hlen u).mp
 ·refine sp1 v (s1 v ?_);rw[← zz];exact q.mono λu=>(qi hlen u).mpr
end
end La
namespace Nm
def php:∀ n (f:Nat->Nat),(∀ i,i<n+1->f i<n)->∃ i j,i<j/\j<n+1/\f i=f j
 | 0,f,h=>bK (h 0 ()) ()
 | n+1,f,h=>by
  by_cases c:∃ i,i<n+1/\f i=f (n+1)
  ·obtain⟨i,hi,e⟩:=c;exact(i,n+1,hi,(),e)
  have c':∀ i,i<n+1->f i≠f (n+1):=λi hi e=>c (i,hi,e)
  have hv:=h (n+1) ();obtain⟨i,j,hij,hj,e⟩:=php n (λi=>if f i=n then f (n+1)else f i) (λi hi=>by
   have h1:=h i ();have h2:=c' i hi
   split <;> omega)
  refine(i,j,hij,(),?_);have hi:=c' i ();have hj':=c' j ()
  split at e <;> split at e <;> omega
def onto{n:Nat}{f:Nat->Nat}(hf:∀ i,i<n->f i<n)(inj:∀ i j,i<j->j<n->f i≠f j){r:Nat}(L:r<n):∃ i,i<n/\f i=r:=by
 cases Classical.em (∃ i,i<n/\f i=r)with
 | inl h=>exact h
 | inr h =>
  exfalso
  obtain⟨m,rfl⟩ : ∃ m,n=m+1:=(n - 1,());obtain⟨i,j,hij,hj,e⟩:=php m (λi=>if f i=m then r else f i) (λi hi=>by
   have h1:=hf i ();have h2:f i≠r:=λe=>h (i,(),e)
   split <;> omega)
  have h1:f i≠r:=λe=>h (i,(),e)
  have h2:f j≠r:=λe=>h (j,(),e)
  have h3:=inj i j hij ()
  split at e <;> split at e <;> omega
def QW(J:a^x % p=1 % p)(hy:a^y % p=1 % p):a^(x % y) % p=1 % p:=by
 have e:a^x =(a^y)^(x / y)*a^(x % y):=by rw[← wa0,← vY,GF]
 have h1:(a^y)^(x / y) % p=1 % p:=by rw[Gw,hy,← Gw,wbs]
 rw[e,wbt,h1,← wbt,vL]at J;exact J
def zgB:∀ x y,a^x % p=1 % p->a^y % p=1 % p->a^(gw x y) % p=1 % p:=λx y=>by
 induction x,y using gw.induction with
 | H0 n=>intro _ h;rw[Nat.gcd_zero_left];exact h
 | H1 m n hm ih =>
  intro J hy;rw[wbu];exact ih (QW hy J) J
def zdH{Q q' M g:Nat}(hQ:∀ h,h<=Q->h ∣ Q->h=Q\/h ∣ q')(Q0:0<Q)(hg:g ∣ Q*M)(hn:¬ g ∣ q'*M):Q ∣ g:=by
 have h1:gw g Q ∣ Q:=GW _ _
 rcases hQ _ (waI Q0 h1) h1 with e|e
 ·rw[← e];exact waf _ _
 ·exfalso
  apply hn
  have h2:g ∣ gw (g*M) (Q*M):=Nat.dvd_gcd (waU _ _) hg;rw[Nat.gcd_mul_right]at h2;exact Gv h2 (Nat.mul_dvd_mul_right e M)
def pw(p:Nat):Nat->Nat->Nat->Nat
 | 0,_,_=>1 % p
 | f+1,a,n=>if n=0 then 1 % p else if n % 2=1 then pw p f (a*a % p) (n / 2)*a % p else pw p f (a*a % p) (n / 2)
def pw_eq p:∀ f a n,n<2^f->pw p f a n=a^n % p
 | 0,a,n,h=>by
  have:n=0:=by simpa using h
  subst this;rfl
 | f+1,a,n,h=>by
  have e:a^n =(a*a)^(n / 2)*a^(n % 2):=by rw[← Nat.pow_two,← wa0,← vY,GF]
  have ih:=pw_eq p f (a*a % p) (n / 2) (by rw[gY]at h;omega);unfold pw
  split
  ·rename_i z;subst z;rfl
  ·split
   ·rename_i z;rw[ih,← Gw,e,z,Nat.pow_one,Nat.mod_mul_mod]
   ·rename_i z;rw[ih,← Gw,e,show n % 2=0 by omega,Nat.pow_zero,Gx]
def gp:Nat:=2305843009213693951
theorem zhd N (h:N=2305843009213693950):37^N % gp=1 % gp:=by
 rw[← pw_eq gp 61 37 N (by rw[h];decide),h];decide +kernel
theorem zjw N (h:N=2305843009213693950):∀ q∈[2,3,5,7,11,13,31,41,61,151,331,1321],37^(N / q) % gp≠1 % gp:=by
 intro q hq;rw[← pw_eq gp 61 37 _ (uu (Nat.div_le_self _ _) (by rw[h];decide))];subst h
 revert q
 decide +kernel
set_option maxHeartbeats 1000000 in
theorem zhR{d:Nat}(h0:0<d)(h1:d<2305843009213693950)(h:37^d % gp=1 % gp):False:=by
 obtain⟨N,hN⟩ : ∃ N,N=2305843009213693950:=(_,rfl);have hg:=zgB d N h (zhd N hN);have dl:gw d N ∣ N:=GW _ _;have dd:gw d N ∣ d:=waf _ _;generalize gw d N=g at *;have no:∀ q∈[2,3,5,7,11,13,31,41,61,151,331,1321],∀ y,y*q=N->0<q->¬ g ∣ y:=λq hq y hy q0 ⟨m,e⟩=>by
  refine zjw N hN q hq ?_;rw[← hy,Nat.mul_div_cancel _ q0,e,wa0,Gw,hg,← Gw,wbs]
 have fl:∀ Q q' M q:Nat,q∈[2,3,5,7,11,13,31,41,61,151,331,1321]->(∀ h,h<=Q->h ∣ Q->h=Q\/h ∣ q')->0<Q->0<q->Q*M=N->q'*M*q=N->Q ∣ g:=λQ q' M q hq h Q0 q0 e1 e2 =>
  zdH h Q0 (by rw[e1];exact dl) (no q hq _ e2 q0)
 clear hg h no dl;subst hN;have a1:= fl 2 1 1152921504606846975 2 (by decide) (by decide +kernel) (by decide) (by decide) (by decide) (by decide);have a2:= fl 9 3 256204778801521550 3 (by decide) (by decide +kernel) (by decide) (by decide) (by decide) (by decide);have a3:= fl 25 5 92233720368547758 5 (by decide) (by decide +kernel) (by decide) (by decide) (by decide) (by decide);have a4:= fl 7 1 329406144173384850 7 (by decide) (by decide +kernel) (by decide) (by decide) (by decide) (by decide);have a5:= fl 11 1 209622091746699450 11 (by decide) (by decide +kernel) (by decide) (by decide) (by decide) (by decide);have a6:= fl 13 1 177372539170284150 13 (by decide) (by decide +kernel) (by decide) (by decide) (by decide) (by decide);have a7:= fl 31 1 74382032555280450 31 (by decide) (by decide +kernel) (by decide) (by decide) (by decide) (by decide);have a8:= fl 41 1 56240073395455950 41 (by decide) (by decide +kernel) (by decide) (by decide) (by decide) (by decide);have a9:= fl 61 1 37800705069076950 61 (by decide) (by decide +kernel) (by decide) (by decide) (by decide) (by decide);have a10:= fl 151 1 15270483504726450 151 (by decide) (by decide +kernel) (by decide) (by decide) (by decide) (by decide);have a11:= fl 331 1 6966293079195450 331 (by decide) (by decide +kernel) (by decide) (by decide) (by decide) (by decide);have a12:= fl 1321 1 1745528394559950 1321 (by decide) (by decide +kernel) (by decide) (by decide) (by decide) (by decide);clear fl;have mk:∀ x y z:Nat,Nat.Coprime x y->x*y=z->x ∣ g->y ∣ g->z ∣ g:=λx y z h e p q=>e ▸ Nat.Coprime.mul_dvd_of_dvd_of_dvd h p q
 have c:=mk 2 9 18 (by decide +kernel) (by decide) a1 a2;have c:=mk 18 25 450 (by decide +kernel) (by decide) c a3;have c:=mk 450 7 3150 (by decide +kernel) (by decide) c a4;have c:=mk 3150 11 34650 (by decide +kernel) (by decide) c a5;have c:=mk 34650 13 450450 (by decide +kernel) (by decide) c a6;have c:=mk 450450 31 13963950 (by decide +kernel) (by decide) c a7;have c:=mk 13963950 41 572521950 (by decide +kernel) (by decide) c a8;have c:=mk 572521950 61 34923838950 (by decide +kernel) (by decide) c a9;have c:=mk 34923838950 151 5273499681450 (by decide +kernel) (by decide) c a10;have c:=mk 5273499681450 331 1745528394559950 (by decide +kernel) (by decide) c a11;have c:=mk 1745528394559950 1321 2305843009213693950 (by decide +kernel) (by decide) c a12;have e:= c;exact bK (waI h0 (Gv e dd)) (Nat.not_le_of_lt h1)
theorem zfv(i:Nat):gw gp (37^i % gp)=1:=by
 rw[wbl,← wbu,wbl];exact Nat.Coprime.pow_left i (by decide +kernel)
theorem ze8 r (h0:0<r) (h1:r<gp):gw gp r=1:=by
 have cancel:∀ i j,i<j->j<2305843009213693950->37^i % gp≠37^j % gp:=λi j hij hj e=>by
  have e1:37^j=37^i*37^(j - i):=by rw[← vY];congr 1;omega
  have d:= Nat.dvd_of_mod_eq_zero (Nat.sub_mod_eq_zero_of_mod_eq e.symm);rw[e1,show 37^i*37^(j - i) - 37^i=37^i *(37^(j - i) - 1) by rw[GR,Gx]]at d;have c:=(Nat.Coprime.pow_left i (by decide +kernel:Nat.Coprime 37 gp)).symm;have d':=c.dvd_of_dvd_mul_left d;refine zhR (d:=j - i) (by omega) (by omega) ?_;obtain⟨c,hc⟩:=d';have h1:1<=37^(j - i):=Nat.one_le_pow _ _ (by decide);rw[show 37^(j - i)=1+gp*c by omega,Nat.add_mul_mod_self_left]
 have pos:∀ i,0<37^i % gp:=λi=>by
  have:=zfv i
  rcases gm (37^i % gp)with z|z
  ·rw[z,Nat.gcd_zero_right]at this;exact bK this (by decide)
  ·exact z
 obtain⟨i,_,e⟩:=onto (n:=2305843009213693950) (λi _=>by
   have h:37^i % gp<2305843009213693951:=Gs _ (by decide);have:=pos i;show 37^i % gp - 1<_;omega) (λi j hij hj e=>by
   have:=pos i;have:=pos j;have:=cancel i j hij hj;omega) (r:=r - 1) (by have:r<2305843009213693951:=h1;omega)
 have:=pos i;have e':37^i % gp=r:=by omega
 rw[← e'];exact zfv i
theorem zia:Pr 2305843009213693951:=(by decide,by decide,λr h0 h1=>by
 have:=ze8 r.toNat (by omega) (by show r.toNat<2305843009213693951;omega);rw[uZ,show r.natAbs=r.toNat by omega];exact this)
end Nm
namespace La
open Lean.Grind Nm
section
def zep l w:gcdL (l++[w])=gw (gcdL l) w.natAbs:=by unfold gcdL;rw[Gq];rfl
def JR l l':gcdL (l++l') ∣ gcdL l:=by unfold gcdL;rw[Gq];exact(jd l' _).1
def zeY(h:gcdL (ws.take i)=1):gcdL ws=1:=by
 have:=JR (ws.take i) (ws.drop i);rw[List.take_append_drop,h]at this;exact Nat.dvd_one.mp this
def zbI(h:gcdL ws=1):kar 0 ws=ws:=by
 unfold kar;rw[bx (by simp),bx (),h];have:(λw:Int=>w.fdiv ((1:Nat):Int))=id:=funext λw=>Int.fdiv_one w
 rw[this,List.map_id]
def zbO(h:gcdL ws=0):kar 0 ws=ws:=by
 unfold kar;rw[bx (by simp),bw h]
def zbK(h:gcdL ws≠0):kar 0 ws=ws.map λw=>w.fdiv ((gcdL ws:Nat):Int):=by
 unfold kar;rw[bx (by simp),bx h]
def zbG(h:k≠0) ws:kar k ws=ws.map (·.fmod k):=by
 unfold kar;rw[bw h]
def jp rows:∀ c,(swTo k rows c).1.length +(swTo k rows c).2.length=rows.length
 | 0=>by show 0 +(rows.map (kar k)).length=_;rw[wa];omega
 | c+1=>by
  have ih:=jp (k:=k) rows c;show(kat k c (swTo k rows c)).1.length +(kat k c (swTo k rows c)).2.length=_;generalize swTo k rows c=s at ih;unfold kat;cases e:s.2.filter (λr=>decide (r.getD c 0≠0))with
  | nil=>exact ih
  | cons l rest =>
   show(s.1.map _++[Prod.mk c l]).length +(s.2.filter _++rest.map _).length=_;have h1:(s.2.filter (λr=>decide (r.getD c 0≠0))).length=rest.length+1:=by rw[e];rfl
   have h2:∀ l:List (List Int),(l.filter (λr=>decide (r.getD c 0≠0))).length +(l.filter (λr=>decide (r.getD c 0=0))).length=l.length:=by
    intro l
    induction l with
    | nil=>rfl
    | cons x l ih =>
     rw[gg,gg]
     by_cases z:x.getD c 0=0
     ·simp only[z,ne_eq,not_true_eq_false,decide_false,decide_true,if_true,vO];simp only[waK,if_false];simp only[ne_eq]at ih;omega
     ·simp only[z,ne_eq,not_false_eq_true,decide_false,decide_true,if_true,vO];simp only[waK,if_false];simp only[ne_eq]at ih;omega
   have h3:=h2 s.2;simp only[wy,wa,vO,uI];omega
def zaz:∀ c,swTo k [] c =([],[])
 | 0=>rfl
 | c+1=>by
  show kat k c (swTo k [] c)=_;rw[zaz c];rfl
def yy{α:Type}{l:List α}{i:Nat}{x:α}(p:α->Bool)(h:l[i]?=some x):(l.take (i+1)).filter p =(l.take i).filter p ++(if p x=true then [x] else []):=by
 obtain⟨hi,e⟩:=wu.mp h;rw[vZ hi,List.filter_append,e,gg,List.filter_nil]
def zfp{ws:List Int}{p:Nat}(hp:p<ws.length)(hz:∀ j,j<p->ws.getD j 0=0)(hn:ws.getD p 0≠0):(ws.filter λw=>decide (w≠0))[0]?=some (ws.getD p 0):=by
 induction ws generalizing p with
 | nil=>simp at hp
 | cons w ws ih =>
  cases p with
  | zero =>
   have h:w≠0:=by simpa using hn
   rw[gg,bw (by simpa using h)];simp
  | succ p =>
   have h0:w=0:=by simpa using hz 0 (Nat.succ_pos p)
   rw[gg,bx (by simp[h0])];have:=ih (by simpa using hp) (λj hj=>by have:=hz (j+1) ();simpa using this) (by simpa using hn);rw[this];simp
end
def dB(D B:Nat):Nb->Prop
 | .q r=>∃ a:Int,r *((D:Int):Rat) =((a:Int):Rat)/\a.natAbs<=B
 | .z _=>True
def dB.mul(J:dB D B x)(hy:dB D' B' y)(ox:x.ok k)(oy:y.ok k):dB (D*D') (B*B') (nmul k x y):=by
 cases x with
 | q r =>
  cases y with
  | q s =>
   obtain⟨a,ea,ha⟩:=J;obtain⟨b,eb,hb⟩:=hy;refine(a*b,?_,?_)
   ·have e1:(((D*D':Nat):Int):Rat) =((D:Int):Rat) *((D':Int):Rat):=by rw[gu,vp]
    rw[e1,vp,← ea,← eb]
    grind
   ·rw[vR];exact vm ha hb
  | z j=>exact bK (show k=0 from ox) oy.1
 | z i =>
  cases y with
  | q s=>exact bK (show k=0 from oy) ox.1
  | z j=>trivial
def dB.add(J:dB D B x)(hy:dB D B' y)(ox:x.ok k)(oy:y.ok k):dB D (B+B') (nadd k x y):=by
 cases x with
 | q r =>
  cases y with
  | q s =>
   obtain⟨a,ea,ha⟩:=J;obtain⟨b,eb,hb⟩:=hy;refine(a+b,?_,?_)
   ·rw[wan,← ea,← eb]
    grind
   ·have:=GT a b;omega
  | z j=>exact bK (show k=0 from ox) oy.1
 | z i =>
  cases y with
  | q s=>exact bK (show k=0 from oy) ox.1
  | z j=>trivial
def dB.up(J:dB D B x) e c (he:e<=c):dB (e*D) (c*B) x:=by
 cases x with
 | q r =>
  obtain⟨a,ea,ha⟩:=J;refine(e*a,?_,?_)
  ·have e1:(((e*D:Nat):Int):Rat) =((e:Int):Rat) *((D:Int):Rat):=by rw[gu,vp]
   rw[e1,vp,← ea]
   grind
  ·rw[vR,uh];exact vm he ha
 | z i=>trivial
def dB.mono(J:dB D B x)(h:B<=B'):dB D B' x:=by
 cases x with
 | q r=>obtain⟨a,ea,ha⟩:=J;exact(a,ea,wE ha h)
 | z i=>trivial
def dB.num{k w:Int}{D B:Nat}(h:w.natAbs*D<=B):dB D B (nnum k w):=by
 unfold nnum
 split
 ·refine(w*D,by rw[vp],?_);rw[vR,uh];exact h
 ·trivial
def dB.parts(hD:D≠0)(h:dB D B (.q r)):r.den<=D/\r.num.natAbs<=B:=by
 obtain⟨a,ea,ha⟩:=h;have e0:=kfRat.rat r rfl;have e0':r *((r.den:Int):Rat) =((r.num:Int):Rat):=e0;have e1:r.num*D=a*r.den:=by
  have:((r.num*D:Int):Rat) =((a*r.den:Int):Rat):=by
   rw[vp,vp,← e0',← ea]
   grind
  exact wao.mp this
 have e2:r.num.natAbs*D=a.natAbs*r.den:=by
  have:=congrArg Int.natAbs e1;rw[vR,vR,uh,uh]at this;exact this
 have cop:=(wah.mp r.reduced);have dv:= cop.dvd_of_dvd_mul_left (a.natAbs,by rw[e2,vJ]);have le:= waI () dv;refine(le,?_);have h1:r.num.natAbs*D<=a.natAbs*D:=by rw[e2];exact wS _ le
 have h2:r.num.natAbs<=a.natAbs:=Nat.le_of_mul_le_mul_right h1 ();omega
section
variable[Field F]
def SameRm(k:Int)(M N:Tb):Prop:=∀ F [Field F] (O:Kf k F) v,Span (RmN O M) v↔Span (RmN O N) v
def SameRm.refl M:SameRm k M M:=λF _ O v=>Iff.rfl
def zO{α:Type}{l:List α}{x y:α}(h:y∈l.set i x):y=x\/y∈l:=by
 rcases List.mem_or_eq_of_mem_set h with h|h
 ·exact .inr h
 ·exact .inl h
def ziG(Z:kab k){n:Nat}{M R D:Tb}{ls ld:List Nat}(h:∀(F:Type) [Field F] (O:Kf k F),kap O n M R ls)(hD:∀(F:Type) [Field F] (O:Kf k F),IsR O n D ld)(s:SameRm k D M):R=D:=by
 obtain⟨F,_,_,⟨O⟩⟩:=zw Z;exact(h F O).unique (hD F O).red (λv q=>(s F O v).mpr q) (λv q=>(s F O v).mp q)
end
section
variable{F:Type}[Field F]
def zaa{u v:Nat->F}(hl:l<n)(h:∀ j,j<n->j≠l->u j*v j=0):dot n u v=u l*v l:=by
 induction n with
 | zero=>exact bK hl (vN l)
 | succ n ih =>
  simp only[dot]
  by_cases e:l=n
  ·subst e;rw[dot_zero l u v λj hj=>h j () ()];grind
  ·rw[ih () λj hj ne=>h j () ne,h n () (Ne.symm e)];grind
def yl n (u v w:Nat->F):dot n u (λj=>v j+w j)=dot n u v+dot n u w:=by
 rw[zp,XQ,zp n v,zp n w]
def ym a n (u v:Nat->F):dot n u (λj=>a*v j)=a*dot n u v:=by
 rw[zp,yY,zp n v]
def Span.dot_zero{S:(Nat->F)->Prop}{n:Nat}{x v:Nat->F}(h:Span S v)(z:∀ r,S r->dot n r x=0):dot n v x=0 :=
 h.all (P:=λv=>dot n v x=0) (La.dot_zero n _ _ λj _=>by grind) λc r v L hv=>by
  rw[XQ n (λj=>c*r j) v x,yY,z r L,hv];grind
def QL{α β:Type}{xs:List α}{ys:List β}{i:Nat}{a:α}{b:β}(h1:xs[i]?=some a)(h2:ys[i]?=some b):(a,b)∈xs.zip ys :=
 we (by rw[gx];exact(h1,h2))
def trF(n:Nat)(A:Tb):Tb:=(wY n).map λj=>A.map λr=>r.getD j (.z 0)
def kae(l:Nat)(c:F):Nat->F:=λj=>if j=l then c else 0
def yd(hl:l<n) u (c:F):dot n u (kae l c)=c*u l:=by
 rw[zaa hl λj hj ne=>by unfold kae;rw[bx ne];grind];unfold kae;rw[bw rfl];grind
def zi8(O:Kf k F)(oA:OkM k n A)(hj:j<n)(ha:A[i]?=some a):nv O (A.map λr=>r.getD j (.z 0)) i=nv O a j:=by
 have la:=(oA a (we ha)).1;have hj':j<a.length:=by omega
 rw[zI O (x:=a.getD j (.z 0)) (by rw[wg,ha];rfl),zI O (wb hj'),wc,wb hj'];rfl
end
def rowD(D B:Nat)(xs:List Nb):Prop:=∀ x∈xs,dB D (2^B - 1) x
def rowB(B:Nat)(xs:List Nb):Prop:=∃ D:Nat,D≠0/\D<2^B/\rowD D B xs
def kad(B:Nat)(M:Tb):Prop:=∀ r∈M,rowB B r
def rowB.mono(h:rowB B xs)(hc:B<=C):rowB C xs:=by
 obtain⟨D,d0,d1,hd⟩:=h;have:2^B<=2^C:=vh () hc;exact(D,d0,(),λx J=>(hd x J).mono ())
def kad.mono(h:kad B M)(hc:B<=C):kad C M:=λr L=>(h r L).mono hc
def kad.app(h:kad B M)(g:kad B N):kad B (M++N):=λr L=>by
 rcases wp.mp L with q|q
 ·exact h r q
 ·exact g r q
def dB.den_dvd{D B:Nat}{r:Rat}(hD:D≠0)(h:dB D B (.q r)):(r.den:Int) ∣ (D:Int):=by
 obtain⟨a,ea,ha⟩:=h;have e0':r *((r.den:Int):Rat) =((r.num:Int):Rat):=kfRat.rat r rfl;have e1:r.num*D=a*r.den:=by
  have:((r.num*D:Int):Rat) =((a*r.den:Int):Rat):=by
   rw[vp,vp,← e0',← ea]
   grind
  exact wao.mp this
 have e2:r.num.natAbs*D=a.natAbs*r.den:=by
  have:=congrArg Int.natAbs e1;rw[vR,vR,uh,uh]at this;exact this
 have cop:=(wah.mp r.reduced);have dv:= cop.dvd_of_dvd_mul_left (a.natAbs,by rw[e2,vJ]);exact Int.ofNat_dvd.mpr dv
def zcs{D B:Nat}{b:Int}{x:Nb}{k:Int}(Z:kab k)(ox:x.ok k)(h7:61<=B)(hD:D≠0)(h:dB D (2^B - 1) x)(hb:0<b)(J:dvB b x)(hd:k=0->b ∣ (D:Int)):(scW b x).natAbs<2^B:=by
 have p2:0<2^B:=waw (by decide);cases x with
 | q r =>
  obtain⟨a,ea,ha⟩:=h;obtain⟨e,he⟩:=hd ox;have hdv:= J;have e1:=xL hdv (yU r);have e0':r *((r.den:Int):Rat) =((r.num:Int):Rat):=kfRat.rat r rfl;have key:a=scW b (.q r)*e:=by
   show a=r.num*b.fdiv (r.den:Int)*e;generalize b.fdiv (r.den:Int)=u at *;have hDD:((D:Int):Rat) =(u:Rat) *((r.den:Int):Rat) *(e:Rat):=by rw[he,← e1,vp,vp]
   have:(a:Rat) =((r.num*u*e:Int):Rat):=by
    rw[vp,vp,← ea,← e0',hDD];generalize (r.den:Rat)=dd
    grind
   exact wao.mp this
  have ene:e≠0:=λz=>by rw[z,GH]at he;omega
  have:(scW b (.q r)).natAbs<=a.natAbs:=by
   rw[key,vR];exact uX _ (Gn.mpr ene)
  omega
 | z i =>
  have:=Z.lt;obtain⟨_,i0,i1⟩:=ox;show i.natAbs<2^B;have:2^61<=2^B:=vh (by decide) h7;have:2^61=2305843009213693952:=by decide
  omega
def zgz{b d D:Int}(hb:0<b)(hd:0<d)(h1:b ∣ D)(h2:d ∣ D):b.fdiv ((vC b d:Nat):Int)*d ∣ D:=by
 have g0:0 <((vC b d:Nat):Int):=by have:=GO d (show b≠0 by omega);omega
 have db:= gZ b d;have dd:= Go b d;have e1:=xL db ();have e2:=xL dd ();have cop:vC (b.fdiv ((vC b d:Nat):Int)) (d.fdiv ((vC b d:Nat):Int))=1:=by
  rw[ug db,ug dd,wbi db dd,uh];exact wbj ()
 generalize J:b.fdiv ((vC b d:Nat):Int)=x at *;generalize hy:d.fdiv ((vC b d:Nat):Int)=y at *;generalize hg:((vC b d:Nat):Int)=g at *;obtain⟨s,hs⟩:=h1;obtain⟨t,ht⟩:=h2;have e3:x*s=y*t:=by
  have:g *(x*s)=g *(y*t):=by
   grind
  exact Int.eq_of_mul_eq_mul_left () this
 have dv:y ∣ s:=by
  have:y ∣ x*s:=(t,e3);have h1:y.natAbs ∣ x.natAbs*s.natAbs:=by rw[← vR];exact wax.mpr this
  have c1:Nat.Coprime y.natAbs x.natAbs:=by
   have:gw x.natAbs y.natAbs=1:=cop;exact(wah.mp this)
  exact wax.mp (c1.dvd_of_dvd_mul_left h1)
 obtain⟨u,hu⟩:=dv;refine(u,?_);rw[hs,hu,← e1,← e2]
 grind
def zbX{k:Int}(Z:kab k){B p:Nat}{ws:List Int}(h:∀ w∈ws,w.natAbs<2^B)(hp:p<ws.length)(ne:ws.getD p 0≠0)(nn:nnum k (ws.getD p 0)≠nnum k 0):rowB B (overL k (p,ws)):=by
 have hl:ws.getD p 0∈ws:=by
  rw[wc,wb hp];exact wk hp
 have hlb:=h _ hl;refine((ws.getD p 0).natAbs,(),hlb,λx J=>?_);unfold overL at J;obtain⟨w,hw,rfl⟩:=wj.mp J;generalize hL:ws.getD p 0=l at *
 by_cases k0:k=0
 ·subst k0;have hwb:=h w hw;have e1:nnum 0 w=.q (w:Rat):=rfl;have e2:nnum 0 l=.q (l:Rat):=rfl;rw[e1,e2];have nl:(l:Rat)≠0:=λz=>ne (uY.mp z)
  rcases Int.le_total 0 l with s|s
  ·refine(w,?_,());rw[show(l.natAbs:Int)=l by omega]
   grind
  ·refine(-w,?_,());rw[show(l.natAbs:Int) = -l by omega,wap,wap]
   grind
 ·have e1:nnum k w=.z (w.fmod k):=by unfold nnum;rw[bx k0]
  have e2:nnum k l=.z (l.fmod k):=by unfold nnum;rw[bx k0]
  rw[e1,e2]
  trivial
section
variable{k:Int}{F:Type}[Field F]
abbrev Rm(O:Kf k F)(M:Tb):(Nat->F)->Prop:=Span (RmN O M)
def perp(n:Nat)(U:(Nat->F)->Prop):(Nat->F)->Prop:=λv=>(∀ j,n<=j->v j=0)/\∀ u,U u->dot n u v=0
variable{O:Kf k F}
def IsR.supp(h:IsR O n R ls)(hv:Rm O R v) j (hj:n<=j):v j=0:=h.rr.out_of (h.rows.mpr hv) j hj
def IsR.ext(h:IsR O n R ls)(h':IsR O n R' ls')(e:∀ v,Rm O R v↔Rm O R' v):R=R':=(h.unique h' (λv=>(e v).mp) (λv=>(e v).mpr)).1
structure AgR(k:Int)(n:Nat)(R:Tb)(ls:List Nat)(f:Nat)(xs:List Nb):Prop where
 len:xs.length=n
 ok:OkR k xs
 one:xs[f]?=some (nnum k 1)
 at_:∀(i l:Nat)(r:List Nb)(y:Nb),ls[i]?=some l->R[i]?=some r->r[f]?=some y->xs[l]?=some (nsub k (nnum k 0) y)
 off:∀ j,j<n->j≠f->j∉ls->xs[j]?=some (nnum k 0)
def IsR.get(h:IsR O n R ls){i l:Nat}(hl:ls[i]?=some l)(L:R[i]?=some r):(l,nv O r)∈ls.zip (R.map (nv O)):=QL hl (by rw[wg,L];rfl)
def IsR.lead_of(h:IsR O n R ls)(hl:l∈ls):∃(i:Nat)(r:List Nb),ls[i]?=some l/\R[i]?=some r:=by
 obtain⟨i,hi,e⟩:=wD hl;have h2:i<R.length:=by rw[← h.len];exact hi
 exact(i,R[i],by rw[wb hi,e],wb h2)
def IsR.row_of(h:IsR O n R ls)(L:r∈R):∃(i l:Nat),ls[i]?=some l/\R[i]?=some r:=by
 obtain⟨i,hi,e⟩:=wD L;have h2:i<ls.length:=by rw[h.len];exact hi
 exact(i,ls[i],wb h2,by rw[wb hi,e])
def AgR.val(h:IsR O n R ls){f:Nat}{xs:List Nb}(Z:kab k)(hf:f<n)(g:AgR k n R ls f xs) :
  nv O xs f=1/\(∀(i l:Nat)(r:List Nb),ls[i]?=some l->R[i]?=some r->nv O xs l = - nv O r f)/\(∀ j,j≠f->j∉ls->nv O xs j=0):=by
 refine(by rw[zI O g.one,O.num1],λi l r hl L=>?_,λj hj hn=>?_)
 ·have orr:=h.ok r (we L);have hf':f<r.length:=by rw[orr.1];exact hf
  rw[zI O (g.at_ i l r _ hl L (wb hf')),O.sub (zD Z 0) (orr.2 _ (wk hf')),O.num0,zI O (wb hf')]
  grind
 ·rcases wH j n with z|z
  ·rw[zI O (g.off j z hj hn),O.num0]
  ·exact zY O (by rw[g.len];exact z)
def QV n (u v w:Nat->F):dot n u (λj=>v j - w j)=dot n u v - dot n u w:=by
 have:(λj=>v j - w j)=λj=>v j +(-1)*w j:=funext λj=>by grind
 rw[this,yl n u v (λj=>(-1)*w j),ym];grind
def Span.dot_zero_r{x v:Nat->F}(h:Span S v)(z:∀ r,S r->dot n x r=0):dot n x v=0:=by
 rw[zp];exact h.dot_zero λr L=>by rw[zp];exact z r L
def zil(h:IsR O n R ls)(Z:kab k){f:Nat}{xs:List Nb}(hf:f<n)(nf:f∉ls)(g:AgR k n R ls f xs){r:List Nb}(L:r∈R):dot n (nv O r) (nv O xs)=0:=by
 obtain⟨v1,v2,v3⟩:=g.val h Z hf;obtain⟨i,l,hl,hi⟩:=h.row_of L;have hp:=h.get hl hi;have ln:= h.rr.lt _ hp;have lf:l≠f:=λe=>nf (by rw[← e];exact we hl)
 have e:dot n (nv O r) (nv O xs)=dot n (nv O r) (kae f 1)+dot n (nv O r) (kae l (- nv O r f)):=by
  rw[← yl];refine zk λj hj=>?_
  unfold kae
  by_cases e1:j=f
  ·subst e1;rw[bw rfl,bx (Ne.symm lf),v1];grind
  ·by_cases e2:j=l
   ·subst e2;rw[bx lf,bw rfl,v2 i j r hl hi];grind
   ·rw[bx e1,bx e2]
    by_cases hm:j∈ls
    ·obtain⟨i',r',hl',hi'⟩:=h.lead_of hm;have:nv O r j=0:=h.rr.oth _ hp _ (h.get hl' hi') (Ne.symm e2);rw[this];grind
    ·rw[v3 j e1 hm];grind
 have o:nv O r l=1:=h.rr.one _ hp;rw[e,yd hf,yd ln,o];grind
def qY(h:IsR O n R ls)(Z:kab k){fs:List Nat}(inc:fs.Pairwise (·<·))(hfs:∀ f,f∈fs↔f<n/\f∉ls)(la:fs.length=A.length)(hA:∀(i f:Nat)(xs:List Nb),fs[i]?=some f->A[i]?=some xs->AgR k n R ls f xs)(v:Nat->F) :
  Rm O A v↔perp n (Rm O R) v:=by
 have rowA:∀ xs∈A,∃ f∈fs,AgR k n R ls f xs:=λxs J=>by
  obtain⟨i,hi,e⟩:=wD J;have h2:i<fs.length:=by omega
  exact(fs[i],wk h2,hA i fs[i] xs (wb h2) (by rw[wb hi,e]))
 have to:∀ w,Rm O A w->perp n (Rm O R) w:=λw hw=>by
  refine(λj hj=>hw.zero_at λr ⟨xs,J,e⟩=>?_,λu hu=>?_)
  ·obtain⟨f,_,g⟩:=rowA xs J;rw[e];exact zY O (by rw[g.len];exact hj)
  ·refine hu.dot_zero λr ⟨row,hrow,e⟩=>?_
   rw[e];refine hw.dot_zero_r λs ⟨xs,J,e'⟩=>?_
   obtain⟨f,hf,g⟩:=rowA xs J;have:=(hfs f).mp hf;rw[e'];exact zil h Z this.1 this.2 g hrow
 refine(to v,λhv=>?_)
 let PA:List (Pv F):=fs.zip (A.map (nv O))
 have incA:PA.Pairwise λa b=>a.1<b.1:=by
  rw[← uQ,gF (by rw[wa];omega)];exact inc
 have memPA:∀ p∈PA,∃ xs,p.2=nv O xs/\AgR k n R ls p.1 xs/\p.1∈fs:=λp hp=>by
  obtain⟨i,hi,e⟩:=wD hp;have hi':= hi;rw[uy,wa]at hi';have h1:i<fs.length:=by omega
  have h2:i<A.length:=by omega
  have e':= e;rw[wag,uM]at e';refine(A[i],by rw[← e'],?_,by rw[← e'];exact wk h1);rw[← e'];exact hA i _ _ (wb h1) (wb h2)
 have cA:=(jS v PA).mono λr ⟨p,hp,e⟩=>(qi (O:=O) la r).mp (p,hp,e)
 have pc:=to _ cA;have wz:∀ j,v j - comb PA v j=0:=by
  have free:∀ f,f∈fs->comb PA v f=v f:=λf hf=>by
   obtain⟨i,hi,e⟩:=wD hf;have h2:i<A.length:=by omega
   have hm:= QL (ys:=A.map (nv O)) (by rw[wb hi,e]) (by rw[wg,wb h2];rfl);have hfl:=(hfs f).mp hf;have key:comb PA v f=v f*1:=by
    have gen:∀ P,P.Pairwise (λa b=>a.1<b.1)->(∀ p∈P,∃ xs,p.2=nv O xs/\AgR k n R ls p.1 xs/\p.1∈fs)->(∃ p∈P,p.1=f)->comb P v f=v f*1:=by
     intro P
     induction P with
     | nil=>intro _ _ ⟨p,hp,_⟩;exact nomatch hp
     | cons p P ih =>
      intro pw hm hex;rw[uA]at pw;obtain⟨xs,ex,g,pf⟩:=hm p wo;have vals:=g.val h Z ((hfs p.1).mp pf).1;simp only[comb]
      by_cases ep:p.1=f
      ·rw[yw v f P λq hq=>?_]
       ·rw[ex,← ep,vals.1];grind
       ·obtain⟨ys,ey,g',qf⟩:=hm q (wt _ hq);have vq:=g'.val h Z ((hfs q.1).mp qf).1;have:p.1<q.1:=pw.1 q hq;rw[ey,vq.2.2 f () hfl.2];grind
      ·obtain⟨q,hq,eq⟩:=hex
       rcases wN.mp hq with z|z
       ·rw[z]at eq;exact bK eq ep
       ·rw[ih pw.2 (λr L=>hm r (wt _ L)) (q,z,eq),ex,vals.2.2 f (Ne.symm ep) hfl.2];grind
    exact gen PA incA memPA (_,hm,V)
   rw[key];grind
  intro j
  rcases wH j n with hj|hj
  ·by_cases hm:j∈ls
   ·obtain⟨i,r,hl,L⟩:=h.lead_of hm;have hp:=h.get hl L;have d0:dot n (nv O r) (λj=>v j - comb PA v j)=0:=by
     have h1:= hv.2 _ (.of (r,we L,V));have h2:= pc.2 _ (.of (r,we L,V));rw[QV,h1,h2];grind
    rw[zaa hj λt ht ne=>?_]at d0
    ·have o:nv O r j=1:=h.rr.one _ hp;rw[o]at d0
     grind
    ·by_cases tm:t∈ls
     ·obtain⟨i',r',hl',hi'⟩:=h.lead_of tm;have:nv O r t=0:=h.rr.oth _ hp _ (h.get hl' hi') (Ne.symm ne);rw[this];grind
     ·rw[free t ((hfs t).mpr (ht,tm))];grind
   ·rw[free j ((hfs j).mpr (hj,hm))];grind
  ·rw[hv.1 j hj,pc.1 j hj];grind
 exact cA.cast λj=>by have:=wz j;grind
def yM(h:IsR O n R ls)(Z:kab k)(v:Nat->F):perp n (perp n (Rm O R)) v↔Rm O R v:=by
 constructor
 ·intro hv;have cR:= h.rows.mp (jS v _);have ag:∀ f,f<n->f∉ls->∃ a:Nat->F,perp n (Rm O R) a/\a f=1/\∀ j,j≠f->j∉ls->a j=0:=λf hf nf=>by
   let a:Nat->F:=λj=>if j=f then 1 else comb (ls.zip (R.map (nv O))) (λ_=>0) j +(if hj:j∈ls then - (nv O ((R.getD (ls.idxOf j) [])) f)else 0)
   have a0:∀ j,j≠f->j∉ls->a j=0:=λj hj hn=>by
    show(if j=f then 1 else _)=_;rw[bx hj,dif_neg hn,yw _ j _ λp _=>by grind];grind
   have al:∀(i l:Nat)(r:List Nb),ls[i]?=some l->R[i]?=some r->a l = - nv O r f:=λi l r hl L=>by
    have lf:l≠f:=λe=>nf (by rw[← e];exact we hl)
    have hm:=we hl;have nd:ls.Nodup:=by
     have:=h.rr.inc;rw[← uQ,gF (by rw[wa];exact gI h.len)]at this;exact this.imp λh=>vf h
    have ei:ls.idxOf l=i:=by
     have h1:ls[ls.idxOf l]?=some l:=by rw[wb (uF hm)];simp
     exact(gy (uF hm) nd).mp (h1.trans hl.symm)
    show(if l=f then 1 else _)=_;rw[bx lf,dif_pos hm,yw _ l _ λp _=>by grind,ei,wc,L]
    grind
   refine(a,(λj hj=>a0 j () λhm=>?_,λu hu=>?_),by show(if f=f then 1 else _)=_;rw[bw rfl],a0)
   ·obtain⟨i,r,hl,L⟩:=h.lead_of hm;have:j<n:=h.rr.lt _ (h.get hl L);omega
   ·refine hu.dot_zero λs ⟨r,L,e⟩=>?_
    rw[e];obtain⟨i,l,hl,hi⟩:=h.row_of L;have hp:=h.get hl hi;have ln:= h.rr.lt _ hp;have lf:l≠f:=λe=>nf (by rw[← e];exact we hl)
    have af:a f=1:=by show(if f=f then 1 else _)=_;rw[bw rfl]
    have e:dot n (nv O r) a=dot n (nv O r) (kae f 1)+dot n (nv O r) (kae l (- nv O r f)):=by
     rw[← yl];refine zk λj hj=>?_
     unfold kae
     by_cases e1:j=f
     ·subst e1;rw[bw rfl,bx (Ne.symm lf),af];grind
     ·by_cases e2:j=l
      ·subst e2;rw[bx lf,bw rfl,al i j r hl hi];grind
      ·rw[bx e1,bx e2]
       by_cases hm:j∈ls
       ·obtain⟨i',r',hl',hi'⟩:=h.lead_of hm;have:nv O r j=0:=h.rr.oth _ hp _ (h.get hl' hi') (Ne.symm e2);rw[this];grind
       ·rw[a0 j e1 hm];grind
    have o:nv O r l=1:=h.rr.one _ hp;rw[e,yd hf,yd ln,o];grind
  have lead:∀ l,l∈ls->comb (ls.zip (R.map (nv O))) v l=v l:=λl hl=>by
   obtain⟨i,r,h1,h2⟩:=h.lead_of hl;have hp:=h.get h1 h2;have gen:∀ P,P.Pairwise (λa b=>a.1<b.1)->(∀ p∈P,p∈ls.zip (R.map (nv O)))->(∃ p∈P,p.1=l)->comb P v l=v l*1:=by
    intro P
    induction P with
    | nil=>intro _ _ ⟨p,hp,_⟩;exact nomatch hp
    | cons p P ih =>
     intro pw hm hex;rw[uA]at pw;have hp0:=hm p wo;simp only[comb]
     by_cases ep:p.1=l
     ·have o:= h.rr.one _ hp0;rw[yw v l P λq hq=>?_]
      ·rw[← ep,o];grind
      ·have hq0:=hm q (wt _ hq);have:p.1<q.1:=pw.1 q hq;have z:= h.rr.oth q hq0 p hp0 ();rw[← ep,z];grind
     ·obtain⟨q,hq,eq⟩:=hex
      rcases wN.mp hq with z|z
      ·rw[z]at eq;exact bK eq ep
      ·have hq0:=hm q (wt _ z);have z2:= h.rr.oth p hp0 q hq0 (by rw[eq];exact ep);rw[ih pw.2 (λr L=>hm r (wt _ L)) (q,z,eq),← eq,z2];grind
   rw[gen _ h.rr.inc (λp hp=>hp) (_,hp,V)];grind
  refine cR.cast λj=>?_
  rcases wH j n with hj|hj
  ·by_cases hm:j∈ls
   ·exact lead j hm
   ·obtain⟨a,pa,af,a0⟩:=ag j hj hm;have d0:dot n a (λj=>v j - comb (ls.zip (R.map (nv O))) v j)=0:=by
     have h1:= hv.2 a pa;have h2:dot n a (comb (ls.zip (R.map (nv O))) v)=0:=by rw[zp];exact pa.2 _ cR
     rw[QV,h1,h2];grind
    rw[zaa hj λt ht ne=>?_,af]at d0
    ·grind
    ·by_cases tm:t∈ls
     ·rw[lead t tm];grind
     ·rw[a0 t ne tm];grind
  ·rw[h.supp cR j hj,hv.1 j hj]
 ·intro hv;exact(λj hj=>h.supp hv j hj,λu hu=>by rw[zp];exact hu.2 v hv)
end
section
variable{F:Type}[Field F]{O:Kf k F}
def yT(Z:kab k):∀ {xs:List Nb},OkR k xs->∃ b,Scl k xs (xs.map (scW b)) b:=by
 intro xs ox
 by_cases k0:k=0
 ·have:∃ b:Int,0<b/\∀ x∈xs,dvB b x:=by
   induction xs with
   | nil=>exact(1,(),λx J=>nomatch J)
   | cons x xs ih =>
    obtain⟨b,b0,hb⟩:=ih λy hy=>ox y (wt _ hy)
    cases x with
    | z i=>exact bK k0 (ox (.z i) wo).1
    | q r =>
     refine(b*r.den,way b0 (den_pos r),λy hy=>?_)
     rcases wN.mp hy with e|hy
     ·rw[e];exact wa1 _ _
     ·have:=hb y hy;cases y with
      | q s=>exact wbc (show(s.den:Int) ∣ b from this) (waQ _ _)
      | z j=>trivial
  obtain⟨b,b0,hb⟩:=this;exact(b,V,b0,λz=>bK k0 z,hb)
 ·refine(1,V,(),λ_=>rfl,λx J=>?_);have o:=ox x J;cases x with
  | q r=>exact bK o k0
  | z i=>trivial
def yA(O:Kf k F)(Z:kab k)(oM:OkM k n M):∃ R ls,kap O n M R ls:=by
 have:∃ Ws:List (List Int),Ws.length=M.length/\∀(i:Nat) r ws,M[i]?=some r->Ws[i]?=some ws->∃ b,Scl k r ws b:=by
  induction M with
  | nil=>exact([],V,λi r ws h=>by simp at h)
  | cons m M ih =>
   obtain⟨Ws,l,h⟩:=ih λr L=>oM r (wt _ L)
   obtain⟨b,hb⟩:=yT Z (oM m wo).2;refine(m.map (scW b)::Ws,by simp[l],λi r ws h1 h2=>?_);cases i with
   | zero=>simp at h1 h2;subst h1 h2;exact(b,hb)
   | succ i=>exact h i r ws (by simpa using h1) (by simpa using h2)
 obtain⟨Ws,l,h⟩:=this;exact(_,_,jR O Z oM l h)
def ofV(O:Kf k F)(n:Nat)(v:Nat->F):List Nb:=(wY n).map λj=>O.of (v j)
def Jp v:(ofV O n v).length=n/\OkR k (ofV O n v):=by
 refine(by unfold ofV;simp,λx J=>?_);unfold ofV at J;obtain⟨j,_,rfl⟩:=wj.mp J;exact O.ok _
def JC(hv:∀ j,n<=j->v j=0) j:nv O (ofV O n v) j=v j:=by
 rcases wH j n with h|h
 ·rw[zI O (by unfold ofV;rw[wg,vw h];rfl),O.to_of]
 ·rw[zY O (by rw[(Jp (O:=O) v).1];exact h),hv j h]
def yI:∀ {P Q:List Nat},P.Pairwise (·<·)->Q.Pairwise (·<·)->(∀ p∈P,p∈Q)->(∀ q∈Q,q∈P)->P=Q
 | [],[],_,_,_,_=>rfl
 | [],q::_,_,_,_,h=>nomatch h q wo
 | p::_,[],_,_,h,_=>nomatch h p wo
 | p::P,q::Q,hP,hQ,h1,h2=>by
  rw[uA]at hP hQ;have e:p=q:=by
   rcases wN.mp (h1 p wo)with e|m
   ·exact e
   ·rcases wN.mp (h2 q wo)with e|m'
    ·exact e.symm
    ·have:=hP.1 q m';have:=hQ.1 p m;omega
  subst e;rw[yI hP.2 hQ.2 (λr L=>?_) (λr L=>?_)]
  ·rcases wN.mp (h1 r (wt _ L))with e|m
   ·subst e;exact bK (hP.1 r L) (ur _)
   ·exact m
  ·rcases wN.mp (h2 r (wt _ L))with e|m
   ·subst e;exact bK (hQ.1 r L) (ur _)
   ·exact m
def yX p:∀ l:List Nat,(l.filter p).length +(l.filter λx=>!p x).length=l.length
 | []=>rfl
 | x::l=>by
  have ih:=yX p l;rw[gg,gg];cases h:p x <;> simp <;> omega
def ze0{P Q:List Nat}(hP:P.Pairwise (·<·))(hQ:Q.Pairwise (·<·))(sub:∀ p∈P,p∈Q)(ex:∃ q∈Q,q∉P)(un:∀ p∈Q,∀ q∈Q,p∉P->q∉P->p=q):Q.length=P.length+1:=by
 have e1:Q.filter (λx=>decide (x∈P))=P:=yI (hQ.filter _) hP (λp hp=>by simpa using (vg.mp hp).2) (λp hp=>vg.mpr (sub p hp,by simpa using hp));have e2:(Q.filter λx=>!decide (x∈P)).length=1:=by
  obtain⟨q,hq,nq⟩:=ex;have hm:q∈Q.filter λx=>!decide (x∈P):=vg.mpr (hq,by simpa using nq)
  have nd:(Q.filter λx=>!decide (x∈P)).Pairwise (·<·):=hQ.filter _;cases hf:Q.filter λx=>!decide (x∈P)with
  | nil=>rw[hf]at hm;exact nomatch hm
  | cons a l =>
   cases l with
   | nil=>rfl
   | cons b l =>
    rw[hf]at nd;have ma:a∈Q.filter λx=>!decide (x∈P):=by rw[hf];exact wo
    have mb:b∈Q.filter λx=>!decide (x∈P):=by rw[hf];exact wt _ wo
    have ha:=vg.mp ma;have hb:=vg.mp mb;have:=un a ha.1 b hb.1 (by simpa using ha.2) (by simpa using hb.2);rw[uA]at nd;have:=nd.1 b wo;omega
 have:=yX (λx=>decide (x∈P)) Q;rw[e1]at this;omega
def IsR.inc(h:IsR O n U lu):lu.Pairwise (·<·):=by
 have:=h.rr.inc;rw[← uQ,gF (by rw[wa];exact gI h.len)]at this;exact this
def IsR.lead_iff(h:IsR O n U lu)(p:Nat):p∈lu↔∃ v,Rm O U v/\(∀ j,j<p->v j=0)/\v p≠0:=by
 constructor
 ·intro hp;obtain⟨i,r,h1,h2⟩:=h.lead_of hp;have hm:=h.get h1 h2;have o:nv O r p=1:=h.rr.one _ hm;exact(nv O r,.of (r,we h2,V),h.rr.bef _ hm,by rw[o];exact λe=>Field.zero_ne_one e.symm)
 ·rintro ⟨v,hv,z,ne⟩
  obtain⟨q,hq,e⟩:=h.rr.lead (h.rows.mpr hv) z ne;rw[← e];exact(vt (show Prod.mk q.1 q.2∈_ from hq)).1
def IsR.zero(h:IsR O n U lu){v:Nat->F}(hv:Rm O U v)(z:∀ l∈lu,v l=0)(j:Nat):v j=0:=by
 rw[← h.rr.comb (h.rows.mpr hv) j];exact yw v j _ λp hp=>by
  rw[z p.1 (vt (show Prod.mk p.1 p.2∈_ from hp)).1];grind
def IsR.take_off(h:IsR O n U lu)(v:Nat->F):∃ u,Rm O U u/\∀ l∈lu,u l=v l:=by
 refine(comb (lu.zip (U.map (nv O))) v,h.rows.mp (jS v _),λl hl=>?_);obtain⟨i,r,h1,h2⟩:=h.lead_of hl;have hp:=h.get h1 h2;have gen:∀ P,P.Pairwise (λa b=>a.1<b.1)->(∀ p∈P,p∈lu.zip (U.map (nv O)))->(∃ p∈P,p.1=l)->comb P v l=v l*1:=by
  intro P
  induction P with
  | nil=>intro _ _ ⟨p,hp,_⟩;exact nomatch hp
  | cons p P ih =>
   intro pw hm hex;rw[uA]at pw;have hp0:=hm p wo;simp only[comb]
   by_cases ep:p.1=l
   ·have o:= h.rr.one _ hp0;rw[yw v l P λq hq=>?_]
    ·rw[← ep,o];grind
    ·have hq0:=hm q (wt _ hq);have:p.1<q.1:=pw.1 q hq;have z:= h.rr.oth q hq0 p hp0 ();rw[← ep,z];grind
   ·obtain⟨q,hq,eq⟩:=hex
    rcases wN.mp hq with z|z
    ·rw[z]at eq;exact bK eq ep
    ·have hq0:=hm q (wt _ z);have z2:= h.rr.oth p hp0 q hq0 (by rw[eq];exact ep);rw[ih pw.2 (λr L=>hm r (wt _ L)) (q,z,eq),← eq,z2];grind
 rw[gen _ h.rr.inc (λp hp=>hp) (_,hp,V)];grind
def XL(h:IsR O n U lu)(h':IsR O n W lw){x:Nat->F}(J:¬ Rm O U x)(e:∀ v,Rm O W v↔∃ u c,Rm O U u/\∀ j,v j=u j+c*x j):W.length=U.length+1:=by
 rw[← h.len,← h'.len];have sub:∀ u,Rm O U u->Rm O W u:=λu hu=>(e u).mpr (u,0,hu,λj=>by grind)
 have xW:Rm O W x:=(e x).mpr (λ_=>0,1,.zero,λj=>by grind);refine ze0 h.inc h'.inc (λp hp=>?_) ?_ λp hp q hq np nq=>?_
 ·obtain⟨v,hv,z,ne⟩:=(h.lead_iff p).mp hp;exact(h'.lead_iff p).mpr (v,sub v hv,z,ne)
 ·
  refine uw λno=>J ?_
  obtain⟨u,hu,eu⟩:=h.take_off x;have d:Rm O W (λj=>1*x j +(-1)*u j):=xW.lin 1 (-1) (sub u hu);have dz:=h'.zero d λl hl=>by
   have:l∈lu:=uw λz=>no (l,hl,z)
   rw[eu l this];grind
  exact hu.cast λj=>by have:=dz j;grind
 ·
  have main:∀ p q,p∈lw->q∈lw->p∉lu->q∉lu->p<q->False:=λp q hp hq np nq lt=>by
   obtain⟨i,r,h1,h2⟩:=h'.lead_of hp;obtain⟨i',s,h3,h4⟩:=h'.lead_of hq;have mp:=h'.get h1 h2;have mq:=h'.get h3 h4;obtain⟨u,c,hu,eu⟩:=(e _).mp (.of (r,we h2,V));obtain⟨v,d,hv,ev⟩:=(e _).mp (.of (s,we h4,V));have rp:nv O r p=1:=h'.rr.one _ mp;have sq:nv O s q=1:=h'.rr.one _ mq;have rb:∀ j,j<p->nv O r j=0:=h'.rr.bef _ mp;have sb:∀ j,j<q->nv O s j=0:=h'.rr.bef _ mq;have one:(1:F)≠0:=λe=>Field.zero_ne_one e.symm
   by_cases d0:d=0
   ·refine nq ((h.lead_iff q).mpr (v,hv,λj hj=>?_,?_))
    ·have:=ev j;rw[sb j hj,d0]at this;grind
    ·have:=ev q;rw[sq,d0]at this;intro z;rw[z]at this;grind
   ·
    refine np ((h.lead_iff p).mpr (λj=>1*u j +(-(c / d))*v j,hu.lin 1 _ hv,λj hj=>?_,?_))
    ·have a:=eu j;have b:=ev j;rw[rb j hj]at a;rw[sb j ()]at b;show 1*u j +(-(c / d))*v j=0;have a':u j = -(c*x j):=by grind
     have b':v j = -(d*x j):=by grind
     rw[a',b'];grind
    ·have a:=eu p;have b:=ev p;rw[rp]at a;rw[sb p lt]at b;show 1*u p +(-(c / d))*v p≠0;have a':u p=1 - c*x p:=by grind
     have b':v p = -(d*x p):=by grind
     rw[a',b'];intro z;have:(1:F)=0:=by grind
     exact one this
  rcases GV p q with g|g|g
  ·exact(main p q hp hq np nq g).elim
  ·exact g
  ·exact(main q p hq hp nq np g).elim
def Qw(Z:kab k){A B bN M:Tb}{la lb lj lm:List Nat}(hA:IsR O n A la)(hB:IsR O n B lb)(hJ:IsR O n bN lj)(hM:IsR O n M lm)
  (ej:∀ v,Rm O bN v↔∃ a b,Rm O A a/\Rm O B b/\∀ j,v j=a j+b j) (em:∀ v,Rm O M v↔Rm O A v/\Rm O B v):bN.length+M.length=A.length+B.length:=by
 have step:∀ i,i<=B.length->∃ J' lj' M' lm',IsR O n J' lj'/\IsR O n M' lm'/\(∀ v,Rm O J' v↔∃ a b,Rm O A a/\Rm O (B.take i) b/\∀ j,v j=a j+b j)/\(∀ v,Rm O M' v↔Rm O A v/\Rm O (B.take i) v)/\J'.length+M'.length=A.length+i:=by
  intro i
  induction i with
  | zero =>
   intro _;have nilR:IsR O n ([]:Tb) ([]:List Nat):=(λr L=>(nomatch L),V,(.nil,λp hp=>(nomatch hp),λp hp=>(nomatch hp),λp hp=>(nomatch hp),λp hp=>(nomatch hp),λp hp=>(nomatch hp)));have nilZ:∀ v,Rm O ([]:Tb) v->∀ j,v j=0:=λv hv j=>hv.zero_at λr ⟨x,J,_⟩=>nomatch J
   refine(A,la,[],[],hA,nilR,λv=>?_,λv=>?_,by simp)
   ·constructor
    ·intro hv;exact(v,λ_=>0,hv,.zero,λj=>by grind)
    ·rintro ⟨a,b,ha,hb,e⟩
     exact ha.cast λj=>by rw[e j,nilZ b hb j];grind
   ·constructor
    ·intro hv;exact(Span.zero.cast λj=>(nilZ v hv j).symm,hv)
    ·exact λh=>h.2
  | succ i ih =>
   intro hi;obtain⟨J',lj',M',lm',iJ,iM,eJ,eM,len⟩:=ih ();have hi':i<B.length:=hi;obtain⟨l,hl⟩ : ∃ l,lb[i]?=some l:=(lb[i]'(by rw[hB.len];exact hi'),wb _);have hb:=wb hi';have hp:=hB.get hl hb;generalize hbv:nv O B[i]=b at *;have etake:B.take (i+1)=B.take i++[B[i]]:=vZ hi';have eB:∀ v,Rm O (B.take (i+1)) v↔∃ u c,Rm O (B.take i) u/\∀ j,v j=u j+c*b j:=λv=>by
    rw[etake]
    constructor
    ·intro hv;refine hv.all (P:=λv=>∃ u c,Rm O (B.take i) u/\∀ j,v j=u j+c*b j) (λ_=>0,0,.zero,λj=>by grind) λc r v ⟨row,hrow,e⟩ ⟨u,d,hu,eu⟩=>?_
     rcases wp.mp hrow with q|q
     ·exact(λj=>c*r j+u j,d,.step c (row,q,e) hu,λj=>by show c*r j+v j=c*r j+u j+d*_;rw[eu j];grind)
     ·rw[wx.mp q]at e;exact(u,c+d,hu,λj=>by show c*r j+v j=_;rw[eu j,e,hbv];grind)
    ·rintro ⟨u,c,hu,eu⟩
     have h1:Rm O (B.take i++[B[i]]) u:=hu.mono λr ⟨x,J,e⟩=>(x,wO _ J,e)
     have h2:Rm O (B.take i++[B[i]]) b:=.of (B[i],wF _ (wx.mpr rfl),hbv.symm);exact(h1.lin 1 c h2).cast λj=>by rw[eu j];grind
   have bl:b l=1:=hB.rr.one _ hp;have nB:¬ Rm O (B.take i) b:=λh=>by
    have z:b l=0:=h.zero_at λr ⟨x,J,e⟩=>by
     obtain⟨t,ht,et⟩:=wD J;have ht':t<i:=by rw[wr]at ht;omega
     have ht2:t<B.length:=by omega
     have hx':B[t]?=some x:=by rw[wb ht2];rw[waV]at et;rw[et]
     obtain⟨l',hl'⟩ : ∃ l',lb[t]?=some l':=(lb[t]'(by rw[hB.len];exact ht2),wb _);have hq:=hB.get hl' hx';have ne:l'≠l:=λz=>by
      have nd:lb.Nodup:=hB.inc.imp λh=>vf h
      have q:lb[t]?=lb[i]?:=by rw[hl',hl,z]
      have:=(gy (wu.mp hl').1 nd).mp q;omega
     rw[e];exact hB.rr.oth _ hq _ hp ne
    rw[bl]at z;exact Field.zero_ne_one z.symm
   have bs:∀ j,n<=j->b j=0:=hB.rr.out _ hp;have mkR:∀(U:Tb)(lu:List Nat)(x:Nat->F),IsR O n U lu->(∀ j,n<=j->x j=0)->∃ W lw,IsR O n W lw/\∀ v,Rm O W v↔∃ u c,Rm O U u/\∀ j,v j=u j+c*x j:=λU lu x hU xs=>by
    have oM:OkM k n (U++[ofV O n x]):=λr L=>by
     rcases wp.mp L with q|q
     ·exact hU.ok r q
     ·rw[wx.mp q];exact Jp x
    obtain⟨W,lw,red⟩:=yA O Z oM;refine(W,lw,red.toIsR,λv=>(λhv=>?_,λ⟨u,c,hu,eu⟩=>?_))
    ·refine(red.fro v hv).all (P:=λv=>∃ u c,Rm O U u/\∀ j,v j=u j+c*x j) (λ_=>0,0,.zero,λj=>by grind) λc r v ⟨row,hrow,e⟩ ⟨u,d,hu,eu⟩=>?_
     rcases wp.mp hrow with q|q
     ·exact(λj=>c*r j+u j,d,.step c (row,q,e) hu,λj=>by show c*r j+v j=c*r j+u j+d*_;rw[eu j];grind)
     ·rw[wx.mp q]at e;exact(u,c+d,hu,λj=>by show c*r j+v j=_;rw[eu j,e,JC xs];grind)
    ·refine red.to v ?_;have h1:Rm O (U++[ofV O n x]) u:=hu.mono λr ⟨y,hy,e⟩=>(y,wO _ hy,e)
     have h2:Rm O (U++[ofV O n x]) (nv O (ofV O n x)):=.of (_,wF _ (wx.mpr rfl),V);exact(h1.lin 1 c h2).cast λj=>by rw[eu j,JC xs];grind
   by_cases bJ:Rm O J' b
   ·obtain⟨a,u,ha,hu,eb⟩:=(eJ b).mp bJ;have as:∀ j,n<=j->a j=0:=λj hj=>hA.supp ha j hj
    have aB:Rm O (B.take (i+1)) a:=(eB a).mpr (λj=>(-1)*u j,1,hu.smul (-1),λj=>by rw[eb j];grind);have nM:¬ Rm O M' a:=λh=>nB (((((eM a).mp h).2).add hu).cast λj=>(eb j).symm)
    obtain⟨M2,lm2,iM2,eM2⟩:=mkR M' lm' a iM as;have l2:=XL iM iM2 nM eM2;refine(J',lj',M2,lm2,iJ,iM2,λv=>?_,λv=>?_,())
    ·rw[eJ v]
     constructor
     ·rintro ⟨a',b',ha',hb',e⟩
      exact(a',b',ha',(eB b').mpr (b',0,hb',λj=>by grind),e)
     ·rintro ⟨a',b',ha',hb',e⟩
      obtain⟨u',c,hu',eu'⟩:=(eB b').mp hb';exact(λj=>1*a' j+c*a j,λj=>1*u' j+c*u j,ha'.lin 1 c ha,hu'.lin 1 c hu,λj=>by rw[e j,eu' j,eb j];grind)
    ·rw[eM2 v]
     constructor
     ·rintro ⟨m,c,hm,e⟩
      have hm':=(eM m).mp hm;refine((hm'.1.lin 1 c ha).cast λj=>by rw[e j];grind,?_);have:Rm O (B.take (i+1)) m:=(eB m).mpr (m,0,hm'.2,λj=>by grind);exact(this.lin 1 c aB).cast λj=>by rw[e j];grind
     ·rintro ⟨hvA,hvB⟩
      obtain⟨u',c,hu',eu'⟩:=(eB v).mp hvB;refine(λj=>1*v j +(-c)*a j,c,(eM _).mpr (hvA.lin 1 (-c) ha,?_),λj=>by grind);exact(hu'.lin 1 c hu).cast λj=>by rw[eu' j,eb j];grind
   ·obtain⟨J2,lj2,iJ2,eJ2⟩:=mkR J' lj' b iJ bs;have l2:=XL iJ iJ2 bJ eJ2;refine(J2,lj2,M',lm',iJ2,iM,λv=>?_,λv=>?_,())
    ·rw[eJ2 v]
     constructor
     ·rintro ⟨w,c,hw,e⟩
      obtain⟨a',b',ha',hb',e'⟩:=(eJ w).mp hw;exact(a',λj=>b' j+c*b j,ha',(eB _).mpr (b',c,hb',λj=>rfl),λj=>by rw[e j,e' j];grind)
     ·rintro ⟨a',b',ha',hb',e⟩
      obtain⟨u',c,hu',eu'⟩:=(eB b').mp hb';exact(λj=>a' j+u' j,c,(eJ _).mpr (a',u',ha',hu',λj=>rfl),λj=>by rw[e j,eu' j];grind)
    ·rw[eM v]
     constructor
     ·rintro ⟨h1,h2⟩
      exact(h1,(eB v).mpr (v,0,h2,λj=>by grind))
     ·rintro ⟨h1,h2⟩
      obtain⟨u',c,hu',eu'⟩:=(eB v).mp h2
      by_cases c0:c=0
      ·exact(h1,hu'.cast λj=>by rw[eu' j,c0];grind)
      ·exfalso
       refine bJ ((eJ b).mpr (λj=>(1 / c)*v j,λj=>(-(1 / c))*u' j,h1.smul _,hu'.smul _,λj=>?_));show b j=1 / c*v j + -(1 / c)*u' j;rw[eu' j];grind
 obtain⟨J',lj',M',lm',iJ,iM,eJ,eM,len⟩:=step B.length (ww _);rw[um]at eJ eM;have e1:bN=J':=hJ.ext iJ λv=>by rw[ej v,eJ v]
 have e2:M=M':=hM.ext iM λv=>by rw[em v,eM v]
 rw[e1,e2];exact len
end
section
variable[Field F]{O:Kf k F}
def Span.read{f:Nat->Nat}{g:Nat->F}(h:Span S v)(L:∀ r,S r->r t=dot n (λi=>r (f i)) g):v t=dot n (λi=>v (f i)) g:=by
 refine h.all (P:=λv=>v t=dot n (λi=>v (f i)) g) ?_ λc r v q e=>?_
 ·exact(La.dot_zero n _ g λj _=>by grind).symm
 ·show c*r t+v t=dot n (λi=>c*r (f i)+v (f i)) g;rw[XQ n (λi=>c*r (f i)) (λi=>v (f i)),yY c n (λi=>r (f i)),← L r q,← e]
def xv j:nv O (xs++ys) j=if j<xs.length then nv O xs j else nv O ys (j - xs.length):=by
 unfold nv
 split
 ·rename_i h;rw[wc,vk h,← wc]
 ·rename_i h;rw[wc,wW (),← wc]
def Zf(h:j<m):nv O (xs.take m) j=nv O xs j:=by
 unfold nv;rw[wc,Gf h,← wc]
def XY j:nv O (xs.drop m) j=nv O xs (m+j):=by
 unfold nv;rw[wc,gk,← wc]
def kak(k:Int)(n i:Nat):List Nb:=(wY n).map λj=>if i=j then nnum k 1 else nnum k 0
def kam(k:Int)(n:Nat):Tb:=(wY n).map (kak k n)
def jz(Z:kab k) n i:(kak k n i).length=n/\OkR k (kak k n i):=by
 refine(by unfold kak;simp,λx J=>?_);obtain⟨j,_,rfl⟩:=wj.mp J
 split
 ·exact zD Z 1
 ·exact zD Z 0
def yv(h:i<n):(kam k n)[i]?=some (kak k n i):=by unfold kam;rw[wg,vw h];rfl
def zW(Z:kab k) n:OkM k n (kam k n)/\(kam k n).length=n:=by
 refine(λr L=>?_,by unfold kam;simp);obtain⟨i,_,rfl⟩:=wj.mp L;exact jz Z n i
def xn(hi:i<n) j:nv O (kak k n i) j=kae i 1 j:=by
 unfold kae
 rcases wH j n with h|h
 ·rw[zI O (x:=if i=j then nnum k 1 else nnum k 0) (by unfold kak;rw[wg,vw h];rfl)]
  split
  ·rename_i e;subst e;rw[bw rfl];exact O.num1
  ·rename_i e;rw[bx (Ne.symm e)];exact O.num0
 ·rw[zY O (by unfold kak;simp;exact h),bx ()]
def kao(k:Int)(n:Nat)(M:Tb):Tb:=vP (·++·) M (kam k n)
def qH(lM:M.length=n)(h:M[i]?=some m):(kao k n M)[i]?=some (m++kak k n i):=by
 have hi:i<n:=by rw[← lM];exact(wu.mp h).1
 unfold kao;rw[uq,h,yv hi]
def Xf(lM:M.length=n)(h:r∈kao k n M):∃ i m,i<n/\M[i]?=some m/\r=m++kak k n i:=by
 obtain⟨i,hi,e⟩:=wD h;have l:i<n:=by
  unfold kao at hi;rw[vd]at hi;omega
 refine(i,M[i],l,wb (),?_);have:=qH (k:=k) lM (wb (show i<M.length by omega));rw[wb hi,e]at this;exact Option.some.inj this
def ja(Z:kab k)(oM:OkM k n M)(lM:M.length=n):OkM k (n+n) (kao k n M)/\(kao k n M).length=n:=by
 refine(λr L=>?_,by unfold kao;rw[vd,(zW Z n).2];omega);obtain⟨i,m,hi,hm,rfl⟩:=Xf lM L;have o:=oM m (we hm);have u:=jz Z n i;refine(by rw[wy,o.1,u.1],λx J=>?_)
 rcases wp.mp J with h|h
 ·exact o.2 x h
 ·exact u.2 x h
def Yz(Z:kab k)(oM:OkM k n M)(h:M[i]?=some m)(hi:i<n):(∀ j,j<n->nv O (m++kak k n i) j=nv O m j)/\∀ t,nv O (m++kak k n i) (n+t)=kae i 1 t:=by
 have o:=oM m (we h);refine(λj hj=>by rw[xv,bw ()],λt=>?_);rw[xv,bx (),o.1,vK,xn hi]
def zad(Z:kab k){M:Tb}(oM:OkM k n M)(lM:M.length=n){v:Nat->F}(hv:Rm O (kao k n M) v){j:Nat}(hj:j<n):v j=dot n (λi=>v (n+i)) (λi=>nv O (M.getD i []) j):=by
 refine Span.read hv λr ⟨x,J,e⟩=>?_
 obtain⟨i,m,hi,hm,rfl⟩:=Xf lM J;obtain⟨h1,h2⟩:=Yz (O:=O) Z oM hm hi;rw[e,h1 j hj,show(λt=>nv O (m++kak k n i) (n+t))=kae i 1 from funext h2,zp,yd hi];have:M.getD i []=m:=by rw[wc,hm];rfl
 rw[this];grind
def zbM(Z:kab k){R:Tb}(hU:R.map (vS n)=kam k n){v:Nat->F}(hv:Rm O R v)(t:Nat):v (n+t)=dot n v (λp=>nv O (R.getD p []) (n+t)):=by
 refine Span.read hv λr ⟨x,J,e⟩=>?_
 obtain⟨p,hp,ep⟩:=wD J;have lR:R.length=n:=by have:=congrArg uV hU;rw[wa,(zW Z n).2]at this;exact this
 have hpn:p<n:=by omega
 have eu:x.take n=kak k n p:=by
  have:=congrArg (λl=>l[p]?) hU;simp only[wg]at this;rw[wb hp,ep,yv hpn]at this;exact Option.some.inj this
 have:R.getD p []=x:=by rw[wc,wb hp,ep];rfl
 rw[e];have h1:dot n (λi=>nv O x i) (λp=>nv O (R.getD p []) (n+t))=dot n (kae p 1) (λp=>nv O (R.getD p []) (n+t)):=zk λj hj=>by rw[← xn (O:=O) hpn,← eu,Zf hj]
 rw[h1,zp,yd hpn,this];grind
end
section
variable[Field F]{O:Kf k F}
def zex(O:Kf k F)(Z:kab k)(oM:OkM k n M)(red:kap O n M R ls):R.length<=M.length:=by
 have:∃ Ws:List (List Int),Ws.length=M.length/\∀(i:Nat) r ws,M[i]?=some r->Ws[i]?=some ws->∃ b,Scl k r ws b:=by
  clear red
  induction M with
  | nil=>exact([],V,λi r ws h=>by simp at h)
  | cons m M ih =>
   obtain⟨Ws,l,h⟩:=ih λr L=>oM r (wt _ L)
   obtain⟨b,hb⟩:=yT Z (oM m wo).2;refine(m.map (scW b)::Ws,by simp[l],λi r ws h1 h2=>?_);cases i with
   | zero=>simp at h1 h2;subst h1 h2;exact(b,hb)
   | succ i=>exact h i r ws (by simpa using h1) (by simpa using h2)
 obtain⟨Ws,l,h⟩:=this;have eR:= red.unique (jR O Z oM l h) (λv q=>q) (λv q=>q);have:=jp (k:=k) Ws n;rw[eR];unfold redM;rw[wa];omega
def ze3(inc:ls.Pairwise (·<·))(all:∀ p,p<n->p∈ls)(len:ls.length<=n):ls=wY n:=by
 have h1:ls.filter (λx=>decide (x<n))=wY n:=yI (inc.filter _) gh (λp hp=>by
  rw[vg]at hp;exact wP.mpr (bG hp.2)) (λq hq=>by
  have:=wP.mp hq;rw[vg];exact(all q this,bF this))
 have h2:=yX (λx=>decide (x<n)) ls;rw[h1,vx]at h2;have h3:ls.filter (λx=>!decide (x<n))=[]:=vB ();rw[List.filter_eq_nil_iff]at h3;rw[← h1];refine(List.filter_eq_self.mpr λx J=>?_).symm;have:=h3 x J
 simpa using this
def QA(Z:kab k)(oM:OkM k n M)(lM:M.length=n)(h:Rm O M v):∃ w,Rm O (kao k n M) w/\∀ j,j<n->w j=v j:=by
 refine h.all (P:=λv=>∃ w,Rm O (kao k n M) w/\∀ j,j<n->w j=v j) (λ_=>0,.zero,λ_ _=>rfl) λc r v ⟨x,J,e⟩ ⟨w,hw,ew⟩=>?_
 obtain⟨i,hi,ei⟩:=wD J;have hg:M[i]?=some x:=by rw[wb hi,ei]
 have b:=qH (k:=k) lM hg;refine(λj=>c*nv O (x++kak k n i) j+w j,.step c (_,we b,V) hw,λj hj=>?_)
 dsimp only
 rw[(Yz (O:=O) Z oM hg ()).1 j hj,ew j hj,e]
def zem(oM:OkM k n M)(h:Rm O M v)(hj:n<=j):v j=0 :=
 Span.zero_at h λr ⟨x,J,e⟩=>by rw[e,zY O (by rw[(oM x J).1];exact hj)]
def Jx(Z:kab k)(oM:OkM k n M)(lM:M.length=n)(red:kap O (n+n) (kao k n M) R ls)(all:∀ p,p<n->∃ v,Rm O M v/\(∀ j,j<p->v j=0)/\v p≠0):R.map (vS n)=kam k n:=by
 have lR:=zex O Z (ja Z oM lM).1 red;rw[(ja Z oM lM).2]at lR;have h:=red.toIsR;have el:= ze3 h.inc (λp hp=>by
  obtain⟨v,hv,z,ne⟩:=all p hp;obtain⟨w,hw,e⟩:=QA Z oM lM hv;exact(h.lead_iff p).mpr (w,red.to w hw,λj hj=>by rw[e j (),z j hj],by rw[e p hp];exact ne)) (by rw[h.len];exact lR)
 have hl:R.length=n:=by rw[← h.len,el,vx]
 refine uB (by rw[wa,hl,(zW Z n).2]) λp h1 h2=>?_
 have hp:p<n:=by rw[wa]at h1;omega
 have e2:(kam k n)[p]=kak k n p:=by
  have:=yv (k:=k) hp;rw[wb h2]at this;exact Option.some.inj this
 rw[uM,e2];have o:=h.ok _ (wk (show p<R.length by omega));have u:=jz Z n p;refine YF O (λx J=>o.2 x (vD J)) u.2 (by rw[wr,o.1,u.1];omega) λj=>?_
 have lp:∀ q,q<n->ls[q]?=some q:=λq hq=>by rw[el,vw hq]
 rcases wH j n with hj|hj
 ·rw[Zf hj,xn hp];have m1:=h.get (lp p hp) (wb (show p<R.length by omega));have m2:=h.get (lp j hj) (wb (show j<R.length by omega));unfold kae
  split
  ·rename_i e;subst e;exact h.rr.one _ m1
  ·rename_i e;exact h.rr.oth _ m1 _ m2 (Ne.symm e)
 ·rw[zY O (by rw[wr];omega),zY O (by rw[u.1];exact hj)]
def yQ(O:Kf k F)(Z:kab k) n:IsR O n (kam k n) (wY n):=by
 have mem:∀ p∈(wY n).zip ((kam k n).map (nv O)),p.1<n/\p.2=kae p.1 1:=λp hp=>by
  obtain⟨i,hi,e⟩:=wD hp;have hin:i<n:=by rw[uy,vx]at hi;omega
  have:((wY n).zip ((kam k n).map (nv O)))[i]?=some (i,nv O (kak k n i)):=by
   rw[gx];exact(vw hin,by rw[wg,yv hin];rfl)
  rw[wb hi,e]at this;rw[Option.some.inj this];exact(hin,funext λj=>xn hin j)
 refine((zW Z n).1,by rw[vx,(zW Z n).2],?_,λp hp=>(mem p hp).1,λp hp j hj=>?_,λp hp j hj=>?_,λp hp=>?_,λp hp q hq ne=>?_)
 ·rw[← uQ,gF (by rw[wa,vx,(zW Z n).2];exact ww _)];exact gh
 ·rw[(mem p hp).2];unfold kae;rw[bx (by have:=(mem p hp).1;omega)]
 ·rw[(mem p hp).2];unfold kae;rw[bx ()]
 ·rw[(mem p hp).2];unfold kae;rw[bw rfl]
 ·rw[(mem p hp).2];unfold kae;rw[bx (Ne.symm ne)]
end
section
variable[Field F]
def xh n c (b:Nat->Nat->F) a:∀ m,dot m a (λi=>dot n (b i) c)=dot n (λj=>dot m a (λi=>b i j)) c
 | 0=>by
  rw[dot_zero n (λj=>dot 0 a λi=>b i j) c λj _=>by simp only[dot];grind]
  rfl
 | m+1=>by
  have e:dot n (λj=>dot (m+1) a (λi=>b i j)) c=dot n (λj=>dot m a (λi=>b i j)) c+dot n (λj=>a m*b m j) c:=by
   rw[← XQ]
   rfl
  rw[e,← xh n c b a m,yY]
  rfl
def imgR(k:Int)(M:Tb)(x:List Nb):List Nb:=M.map λr=>ndot k r x
def prodR(k:Int)(c:Nat)(M N:Tb):Tb:=M.map λr=>(trF c N).map λcol=>ndot k r col
def jJ(Z:kab k)(oM:OkM k n M)(ox:OkR k x):(imgR k M x).length=M.length/\OkR k (imgR k M x):=by
 refine(by unfold imgR;rw[wa],λy hy=>?_);unfold imgR at hy;obtain⟨r,L,rfl⟩:=wj.mp hy;exact zN Z (oM r L).2 ox
def qz n M:(trF n M).length=n:=by unfold trF;simp
def Yy(h:i<n):(trF n M)[i]?=some (M.map λr=>r.getD i (.z 0)):=by unfold trF;simp[h]
def zfD(h:OkM k n M)(hj:j<n):(M.map λr=>r.getD j (.z 0)).length=M.length/\OkR k (M.map λr=>r.getD j (.z 0)):=by
 refine(wa _,λx J=>?_);obtain⟨row,hrow,rfl⟩:=wj.mp J;obtain⟨h1,h2⟩:=h row hrow;have hj':j<row.length:=by omega
 rw[wc,wb hj'];exact h2 _ (wk hj')
def zaH(h:OkM k n M):OkM k M.length (trF n M):=λr L=>by
 unfold trF at L;obtain⟨j,hj,rfl⟩:=wj.mp L;rw[wP]at hj;exact zfD h hj
def xm(Z:kab k)(oM:OkM k b M)(oN:OkM k c N):(prodR k c M N).length=M.length/\OkM k c (prodR k c M N):=by
 refine(by unfold prodR;rw[wa],λr L=>?_);unfold prodR at L;obtain⟨m,hm,rfl⟩:=wj.mp L;refine(by rw[wa,qz],λx J=>?_);obtain⟨col,hcol,rfl⟩:=wj.mp J;exact zN Z (oM m hm).2 (zaH oN col hcol).2
def zei(Z:kab k){b c:Nat}{r x:List Nb}{N:Tb}(or:OkR k r)(lr:r.length=b)(oN:OkM k c N)(lN:N.length=b)(ox:OkR k x)(lx:x.length=c) :
  ndot k r (imgR k N x)=ndot k ((trF c N).map λcol=>ndot k r col) x:=by
 obtain⟨F,_,_,⟨O⟩⟩:=zw Z;obtain⟨li,oi⟩:=jJ Z oN ox;have oT:=zaH oN;have oL:OkR k ((trF c N).map λcol=>ndot k r col):=λy hy=>by
  obtain⟨col,hcol,rfl⟩:=wj.mp hy;exact zN Z or (oT col hcol).2
 have lL:((trF c N).map λcol=>ndot k r col).length=c:=by rw[wa,qz]
 refine O.inj (zN Z or oi) (zN Z oL ox) ?_;rw[zP O Z or oi (by rw[lr,li,lN]),zP O Z oL ox (by rw[lL,lx]),lr,lL];have e1:dot b (nv O r) (nv O (imgR k N x))=dot b (nv O r) (λi=>dot c (nv O (N.getD i [])) (nv O x)):=zk λi hi=>by
  have hi':i<N.length:=by omega
  have g:N[i]?=some N[i]:=wb hi';have ge:N.getD i []=N[i]:=by rw[wc,g];rfl
  have on:=oN N[i] (wk hi');rw[zI O (xs:=imgR k N x) (x:=ndot k N[i] x) (by unfold imgR;rw[wg,g];rfl),ge,zP O Z on.2 ox (by rw[on.1,lx]),on.1]
 rw[e1,xh c (nv O x) (λi=>nv O (N.getD i [])) (nv O r) b];refine zk λj hj=>?_
 have g:((trF c N).map λcol=>ndot k r col)[j]?=some (ndot k r (N.map λr=>r.getD j (.z 0))):=by rw[wg,Yy hj];rfl
 have oc:=zfD oN hj;rw[zI O g,zP O Z or oc.2 (by rw[lr,oc.1,lN]),lr];have e2:dot b (nv O r) (nv O (N.map λr=>r.getD j (.z 0)))=dot b (nv O r) (λi=>nv O (N.getD i []) j):=zk λi hi=>by
  have hi':i<N.length:=by omega
  have g:N[i]?=some N[i]:=wb hi';have ge:N.getD i []=N[i]:=by rw[wc,g];rfl
  rw[zi8 O oN hj g,ge]
 rw[e2]
def zaI{b d j:Nat}(hj:j<d):((prodR k d N P).map λr=>r.getD j (.z 0))=imgR k N (P.map λr=>r.getD j (.z 0)):=by
 unfold prodR imgR;rw[vV];refine vM λr _=>?_
 show((trF d P).map λcol=>ndot k r col).getD j (.z 0)=_;rw[wc,wg,Yy hj];rfl
def XW:trF d (prodR k d N P) =(trF d P).map (imgR k N):=by
 refine uR λj=>?_
 rcases wH j d with h|h
 ·rw[Yy h,wg,Yy h,zaI (b:=0) h];rfl
 ·rw[wK (by rw[qz];exact h),wK (by rw[wa,qz];exact h)]
def Xe(Z:kab k)(oM:OkM k b M)(oN:OkM k c N)(lN:N.length=b)(oQ:OkM k d Q)(lQ:Q.length=c):prodR k d (prodR k c M N) Q=prodR k d M (prodR k d N Q):=by
 unfold prodR;rw[vV];refine vM λr L=>?_
 show(trF d Q).map (λcol=>ndot k ((trF c N).map λcol=>ndot k r col) col) =(trF d (prodR k d N Q)).map λcol=>ndot k r col
 rw[XW,vV];refine vM λcol hcol=>?_
 have oc:=zaH oQ col hcol;exact(zei Z (oM r L).2 (oM r L).1 oN lN oc.2 (by rw[oc.1,lQ])).symm
end
section
variable[Field F]
def Unit2(n:Nat)(T S:Nat->Nat->F):Prop:=∀ p q,p<n->q<n->dot n (T p) (λl=>S l q)=if p=q then 1 else 0
def PairU(k:Int)(n:Nat)(T S:Tb):Prop:=∀(F:Type) [Field F] (O:Kf k F),Unit2 n (λp=>nv O (T.getD p [])) (λl q=>nv O (S.getD l []) q)
end
section
variable[Field F]{O:Kf k F}
def zdY{S:Tb}{f:List Nb->List Nb}(hl:l<S.length):(S.map f).getD l []=f (S.getD l []):=by
 rw[wc,wg,wc,wb hl];rfl
def zhw(hj:j<xs.length):O.to (xs.getD j (.z 0))=nv O xs j:=by
 rw[zI O (wb hj),wc,wb hj];rfl
def zaU{S:Tb}(hi:i<S.length):S[i]?=some (S.getD i []):=by rw[wc,wb hi];rfl
end
section
variable{F:Type}[Field F]{O:Kf k F}
def Rm.app:Rm O (A++B) v↔∃ a b,Rm O A a/\Rm O B b/\∀ j,v j=a j+b j:=by
 constructor
 ·intro hv;refine hv.all (P:=λv=>∃ a b,Rm O A a/\Rm O B b/\∀ j,v j=a j+b j) (λ_=>0,λ_=>0,.zero,.zero,λj=>by grind) λc r v ⟨x,J,e⟩ ⟨a,b,ha,hb,ev⟩=>?_
  rcases wp.mp J with q|q
  ·exact(λj=>c*r j+a j,b,.step c (x,q,e) ha,hb,λj=>by show c*r j+v j=c*r j+a j+b j;rw[ev j];grind)
  ·exact(a,λj=>c*r j+b j,ha,.step c (x,q,e) hb,λj=>by show c*r j+v j=a j +(c*r j+b j);rw[ev j];grind)
 ·rintro ⟨a,b,ha,hb,ev⟩
  have h1:Rm O (A++B) a:=ha.mono λr ⟨x,J,e⟩=>(x,wO _ J,e)
  have h2:Rm O (A++B) b:=hb.mono λr ⟨x,J,e⟩=>(x,wF _ J,e)
  exact(h1.add h2).cast λj=>(ev j).symm
def limg(O:Kf k F)(n:Nat)(A:Tb)(v:Nat->F):Nat->F:=λi=>dot n (nv O (A.getD i [])) v
def XA A c u v i:limg O n A (λj=>c*u j+v j) i=c*limg O n A u i+limg O n A v i:=by
 unfold limg;rw[yl n _ (λj=>c*u j) v,ym]
def jY A i:limg O n A (λ_=>0) i=0:=dot_zero n _ _ λj _=>by grind
def xR j:nv O [] j=0:=zY O (vI _)
def Jn(Z:kab k)(oA:OkM k n A)(ox:OkR k x)(lx:x.length=n) i:nv O (imgR k A x) i=limg O n A (nv O x) i:=by
 unfold limg
 rcases wH i A.length with h|h
 ·have g:= wb h;have ge:A.getD i []=A[i]:=by rw[wc,g];rfl
  have oa:=oA A[i] (wk h);rw[zI O (by unfold imgR;rw[wg,g];rfl),zP O Z oa.2 ox (by rw[oa.1,lx]),oa.1,ge]
 ·rw[zY O (by unfold imgR;rw[wa];exact h)];have ge:A.getD i []=[]:=by rw[wc,wK h];rfl
  rw[ge,dot_zero n _ _ λj _=>by rw[xR];grind]
def Rm.img(Z:kab k)(oA:OkM k n A)(oR:OkM k n R):Rm O (R.map (imgR k A)) w↔∃ v,Rm O R v/\∀ i,w i=limg O n A v i:=by
 constructor
 ·intro h;refine h.all (P:=λw=>∃ v,Rm O R v/\∀ i,w i=limg O n A v i) (λ_=>0,.zero,λi=>(jY A i).symm) λc r w ⟨x,J,e⟩ ⟨v,hv,ev⟩=>?_
  obtain⟨y,hy,rfl⟩:=wj.mp J;have oy:=oR y hy;refine(λj=>c*nv O y j+v j,.step c (y,hy,V) hv,λi=>?_);rw[XA,← ev i,← Jn Z oA oy.2 oy.1,e]
 ·rintro ⟨v,hv,ev⟩
  have:Rm O (R.map (imgR k A)) (limg O n A v):=by
   refine hv.all (P:=λv=>Rm O (R.map (imgR k A)) (limg O n A v)) (Span.cast .zero λi=>(jY A i).symm) λc r v ⟨x,J,e⟩ hw=>?_
   have ox:=oR x J;refine Span.cast (.step c (_,wj.mpr (x,J,V),V) hw) λi=>?_
   rw[XA,e,Jn Z oA ox.2 ox.1]
  exact this.cast λi=>(ev i).symm
def kry(k:Int)(A B:Tb):Nat->Tb
 | 0=>B
 | t+1=>B ++(kry k A B t).map (imgR k A)
def yq(Z:kab k)(oA:OkM k n A)(lA:A.length=n)(oB:OkM k n B):∀ t,OkM k n (kry k A B t)
 | 0=>oB
 | t+1=>λr L=>by
  rcases wp.mp L with h|h
  ·exact oB r h
  ·obtain⟨x,J,rfl⟩:=wj.mp h;have:=jJ Z oA (yq Z oA lA oB t x J).2;exact(by rw[this.1,lA],this.2)
def zbh(Z:kab k){A B R:Tb}(oA:OkM k n A)(lA:A.length=n)(oB:OkM k n B)(oR:OkM k n R){t:Nat}(e:∀ v,Rm O R v↔Rm O (kry k A B t) v)(v:Nat->F):Rm O (B++R.map (imgR k A)) v↔Rm O (kry k A B (t+1)) v:=by
 show _↔Rm O (B ++(kry k A B t).map (imgR k A)) v;rw[Rm.app,Rm.app]
 constructor
 ·rintro ⟨a,b,ha,hb,ev⟩
  obtain⟨u,hu,eu⟩:=(Rm.img Z oA oR).mp hb;exact(a,b,ha,(Rm.img Z oA (yq Z oA lA oB t)).mpr (u,(e u).mp hu,eu),ev)
 ·rintro ⟨a,b,ha,hb,ev⟩
  obtain⟨u,hu,eu⟩:=(Rm.img Z oA (yq Z oA lA oB t)).mp hb;exact(a,b,ha,(Rm.img Z oA oR).mpr (u,(e u).mpr hu,eu),ev)
def qe(Z:kab k)(oA:OkM k n A)(lA:A.length=n)(oB:OkM k n B):∀ t v,Rm O (kry k A B t) v->Rm O (kry k A B (t+1)) v
 | 0,v,h=>h.mono λr ⟨x,J,e⟩=>(x,wO _ J,e)
 | t+1,v,h=>by
  have h':= h;obtain⟨a,b,ha,hb,ev⟩:=Rm.app.mp h';obtain⟨u,hu,eu⟩:=(Rm.img Z oA (yq Z oA lA oB t)).mp hb;exact Rm.app.mpr (a,b,ha,(Rm.img Z oA (yq Z oA lA oB (t+1))).mpr (u,qe Z oA lA oB t u hu,eu),ev)
def jC(Z:kab k)(oA:OkM k n A)(lA:A.length=n)(oB:OkM k n B) t:∀ d v,Rm O (kry k A B t) v->Rm O (kry k A B (t+d)) v
 | 0,v,h=>h
 | d+1,v,h=>qe Z oA lA oB (t+d) v (jC Z oA lA oB t d v h)
def Xx(Z:kab k){A B:Tb}(oA:OkM k n A)(lA:A.length=n)(oB:OkM k n B){t:Nat}(s:∀ v,Rm O (kry k A B (t+1)) v->Rm O (kry k A B t) v):∀(d:Nat)(v:Nat->F),Rm O (kry k A B (t+d)) v->Rm O (kry k A B t) v
 | 0,v,h=>h
 | d+1,v,h=>by
  refine s v ?_;have h':= h;obtain⟨a,b,ha,hb,ev⟩:=Rm.app.mp h';obtain⟨u,hu,eu⟩:=(Rm.img Z oA (yq Z oA lA oB (t+d))).mp hb;exact Rm.app.mpr (a,b,ha,(Rm.img Z oA (yq Z oA lA oB t)).mpr (u,Xx Z oA lA oB s d u hu,eu),ev)
def xN(Z:kab k)(oA:OkM k n A)(lA:A.length=n)(oB:OkM k n B)(s:∀ v,Rm O (kry k A B (t+1)) v->Rm O (kry k A B t) v)(hm:t<=m) v:Rm O (kry k A B m) v↔Rm O (kry k A B t) v:=by
 obtain⟨d,rfl⟩:=Nat.le.dest hm;exact(Xx Z oA lA oB s d v,jC Z oA lA oB t d v)
def zbS(Z:kab k){A B:Tb}(oA:OkM k n A)(lA:A.length=n)(oB:OkM k n B){t:Nat}(s:∀ v,Rm O (kry k A B (t+1)) v->Rm O (kry k A B t) v){v:Nat->F}(h:Rm O (kry k A B t) v):Rm O (kry k A B t) (limg O n A v) :=
 s _ (Rm.app.mpr (λ_=>0,limg O n A v,.zero,(Rm.img Z oA (yq Z oA lA oB t)).mpr (v,h,λ_=>rfl),λj=>by grind))
def IsR.sub_len{U W:Tb}{lu lw:List Nat}(hU:IsR O n U lu)(hW:IsR O n W lw)(sub:∀ v,Rm O U v->Rm O W v):U.length<=W.length/\(W.length<=U.length->∀ v,Rm O W v->Rm O U v):=by
 have inc:=hU.inc;have inc':=hW.inc;have sb:∀ p∈lu,p∈lw:=λp hp=>by
  obtain⟨v,hv,z,ne⟩:=(hU.lead_iff p).mp hp;exact(hW.lead_iff p).mpr (v,sub v hv,z,ne)
 have ef:= yI inc (inc'.filter _) (λp hp=>vg.mpr (sb p hp,bF hp)) λp hp=>bG (vg.mp hp).2
 have le:lu.length<=lw.length:=by rw[ef];exact uz _ _
 refine(by rw[← hU.len,← hW.len];exact le,λge v hv=>?_);have e:(lw.filter λp=>decide (p∈lu)).length=lw.length:=by rw[← ef];rw[← hU.len,← hW.len]at ge;omega
 have sb':∀ p∈lw,p∈lu:=λp hp=>bG (List.length_filter_eq_length_iff.mp e p hp)
 obtain⟨u,hu,eu⟩:=hU.take_off v;have hd:= hv.add ((sub u hu).smul (-1));have z:=hW.zero hd λl hl=>by rw[eu l (sb' l hl)];grind
 exact hu.cast λj=>by have:=z j;grind
end
section
def zbA(Z:kab k)(ox:x.ok k)(oy:y.ok k)(oz:z.ok k):nadd k (nadd k x y) z=nadd k x (nadd k y z):=by
 obtain⟨F,_,_,⟨O⟩⟩:=zw Z;refine O.inj (yt Z (yt Z ox oy) oz) (yt Z ox (yt Z oy oz)) ?_;rw[O.add (yt Z ox oy) oz,O.add ox oy,O.add ox (yt Z oy oz),O.add oy oz]
 grind
def zcw(Z:kab k)(ox:x.ok k)(oy:y.ok k):nadd k x y=nadd k y x:=by
 obtain⟨F,_,_,⟨O⟩⟩:=zw Z;refine O.inj (yt Z ox oy) (yt Z oy ox) ?_;rw[O.add ox oy,O.add oy ox]
 grind
def ZR(Z:kab k)(ox:x.ok k):nadd k x (nnum k 0)=x:=by
 obtain⟨F,_,_,⟨O⟩⟩:=zw Z;refine O.inj (yt Z ox (zD Z 0)) ox ?_;rw[O.add ox (zD Z 0),O.num0]
 grind
def Jc(Z:kab k)(ox:x.ok k):nadd k (nnum k 0) x=x:=by rw[zcw Z (zD Z 0) ox,ZR Z ox]
def Xw(Z:kab k):∀ l s,s.ok k->(∀ p∈l,p.1.ok k/\p.2.ok k)->l.foldl (λs p=>nadd k s (nmul k p.1 p.2)) s=nadd k s (ndotF k l)
 | [],s,os,_=>(ZR Z os).symm
 | p::l,s,os,h=>by
  have op:=h p wo;have om:=yD Z op.1 op.2;have hl:= λq hq=>h q (wt _ hq)
  have e:ndotF k (p::l)=nadd k (nmul k p.1 p.2) (ndotF k l):=by
   show l.foldl (λs p=>nadd k s (nmul k p.1 p.2)) (nadd k (nnum k 0) (nmul k p.1 p.2))=_;rw[Jc Z om];exact Xw Z l _ om hl
  rw[GD,Xw Z l _ (yt Z os om) hl,e,zbA Z os om (jv Z l hl)]
def XT(Z:kab k)(oa:OkR k a)(ob:OkR k b)(ox:OkR k x)(oy:OkR k y)(h:a.length=x.length):ndot k (a++b) (x++y)=nadd k (ndot k a x) (ndot k b y):=by
 have e:(a++b).zip (x++y)=a.zip x++b.zip y:=List.zip_append h;show ndotF k ((a++b).zip (x++y))=_;rw[e];show(a.zip x++b.zip y).foldl _ _=_;rw[Gq];exact Xw Z (b.zip y) (ndotF k (a.zip x)) (jv Z _ (zbm oa ox)) (zbm ob oy)
def ZB(Z:kab k) n:OkR k (wL n (nnum k 0)):=λx J=>by rw[vF J];exact zD Z 0
def za3(Z:kab k)(ox:OkR k x)(h:x.length=n):ndot k (wL n (nnum k 0)) x=nnum k 0:=by
 obtain⟨F,_,_,⟨O⟩⟩:=zw Z;refine O.inj (zN Z (ZB Z n) ox) (zD Z 0) ?_;rw[zP O Z (ZB Z n) ox (by simp[h]),O.num0];refine dot_zero _ _ _ λj hj=>?_
 rw[wQ]at hj;rw[zI O (by rw[vU,bw hj]),O.num0]
 grind
end
section
variable[Field F]{O:Kf k F}
def JZ{R:Tb}(hp:p<R.length):(R.map (vz n)).getD p [] =(R.getD p []).drop n:=zdY hp
def QY(Z:kab k)(red:kap O (n+n) (kao k n M) R ls)(hU:R.map (vS n)=kam k n):OkM k n (R.map (vz n))/\R.length=n:=by
 have lR:R.length=n:=by have:=congrArg uV hU;rw[wa,(zW Z n).2]at this;exact this
 refine(λr L=>?_,lR);obtain⟨x,J,rfl⟩:=wj.mp L;have o:=red.ok x J;exact(by rw[ue,o.1];omega,λy hy=>o.2 y (gD hy))
def row_of(hp:p<R.length):Rm O R (nv O (R.getD p [])):=.of (_,by rw[wc,wb hp];exact wk hp,V)
def zdQ(Z:kab k)(oM:OkM k n M)(lM:M.length=n)(red:kap O (n+n) (kao k n M) R ls)(hU:R.map (vS n)=kam k n):Unit2 n (λp=>nv O ((R.map (vz n)).getD p [])) (λl q=>nv O (M.getD l []) q):=λp q hp hq=>by
 have lR:=(QY Z red hU).2;have h:=zad Z oM lM (red.fro _ (row_of (O:=O) (p:=p) ())) hq;have eu:(R.getD p []).take n=kak k n p:=by
  have:=congrArg (λl=>l[p]?) hU;simp only[wg]at this;rw[zaU (),yv hp]at this;exact Option.some.inj this
 show dot n (nv O ((R.map (vz n)).getD p [])) (λl=>nv O (M.getD l []) q)=_;rw[JZ ()];have e:(λi=>nv O ((R.getD p []).drop n) i)=λi=>nv O (R.getD p []) (n+i):=funext λi=>XY i
 show dot n (λi=>nv O ((R.getD p []).drop n) i) _=_;rw[e,← h,← Zf hq,eu,xn hp];unfold kae
 by_cases c:p=q
 ·rw[bw c,bw c.symm]
 ·rw[bx c,bx (λz=>c z.symm)]
def Xd(Z:kab k)(oM:OkM k n M)(lM:M.length=n)(red:kap O (n+n) (kao k n M) R ls)(hU:R.map (vS n)=kam k n):Unit2 n (λp=>nv O (M.getD p [])) (λl q=>nv O ((R.map (vz n)).getD l []) q):=λp q hp hq=>by
 have lR:=(QY Z red hU).2;have hm:=zaU (S:=M) (i:=p) ();have hb:=qH (k:=k) lM hm;have h:=zbM Z hU (red.to _ (.of (_,we hb,V))) q;obtain⟨h1,h2⟩:=Yz (O:=O) Z oM hm hp;rw[h2 q]at h;have e1:dot n (nv O (M.getD p []++kak k n p)) (λp=>nv O (R.getD p []) (n+q))=dot n (nv O (M.getD p [])) (λl=>nv O ((R.map (vz n)).getD l []) q):=zk λj hj=>by
  rw[h1 j hj,JZ (),XY]
 rw[← e1,← h];unfold kae
 by_cases c:p=q
 ·rw[bw c,bw c.symm]
 ·rw[bx c,bx (λz=>c z.symm)]
end
section
def JB(Z:kab k)(oM:OkM k n M)(lM:M.length=n)(red:∀ F [Field F] (O:Kf k F),kap O (n+n) (kao k n M) R ls)(hU:R.map (vS n)=kam k n):PairU k n M (R.map (vz n))/\PairU k n (R.map (vz n)) M :=
 (λF _ O=>Xd Z oM lM (red F O) hU,λF _ O=>zdQ Z oM lM (red F O) hU)
end
def zdot:Nat->(Nat->Int)->(Nat->Int)->Int
 | 0,_,_=>0
 | n+1,u,v=>zdot n u v+u n*v n
def ZX[Field F] u v:∀ n,(ι (zdot n u v):F)=dot n (λj=>ι (u j)) (λj=>ι (v j))
 | 0=>ι_zero
 | n+1=>by
  show(ι (zdot n u v+u n*v n):F)=dot n _ _+ι (u n)*ι (v n);rw[ι_add,ι_mul,ZX u v n]
def Qg p u y z:∀ n,(∀ j,j<n->y j=p*z j)->zdot n u y=p*zdot n u z
 | 0,_=>by show(0:Int)=p*0;omega
 | n+1,h=>by
  show zdot n u y+u n*y n=p *(zdot n u z+u n*z n);rw[Qg p u y z n λj hj=>h j (),h n ()]
  grind
def zr(ws:List Int):Nat->Int:=λj=>ws.getD j 0
def Kz(n:Nat)(A B:List (List Int)):Nat->(Nat->Int)->Prop
 | 0,v=>∃ r∈B,v=zr r
 | t+1,v=>(∃ r∈B,v=zr r)\/∃ u,Kz n A B t u/\v=λi=>zdot n (zr (A.getD i [])) u
section
def zgq{p:Int}{F:Type}[Field F](O:Kf p F)(hp:kab p)(lA:A.length=n)(wA:∀ r∈A,r.length=n)(wB:∀ r∈B,r.length=n) :
  ∀(t:Nat)(r:List Nb),r∈kry p (A.map (·.map (nnum p))) (B.map (·.map (nnum p))) t->∃ v,Kz n A B t v/\∀ i,nv O r i=ι (v i):=by
 have row:∀(ws:List Int)(j:Nat),nv O (ws.map (nnum p)) j=ι (zr ws j):=λws j=>by
  unfold zr;rw[wc];cases h:ws[j]? with
  | none=>rw[zY O (by rw[wa];exact List.getElem?_eq_none_iff.mp h)];exact ι_zero.symm
  | some x=>rw[zI O (by rw[wg,h];rfl),O.num];rfl
 have okB:∀(M:List (List Int)),(∀ r∈M,r.length=n)->OkM p n (M.map (·.map (nnum p))):=λM h r L=>by
  obtain⟨ws,hw,rfl⟩:=wj.mp L;refine(by rw[wa];exact h ws hw,λx J=>?_);obtain⟨w,_,rfl⟩:=wj.mp J;exact zD hp w
 have oA:=okB A wA;have oB:=okB B wB;intro t
 induction t with
 | zero =>
  intro r L;obtain⟨ws,hw,rfl⟩:=wj.mp L;exact(zr ws,(ws,hw,V),row ws)
 | succ t ih =>
  intro r L
  rcases wp.mp L with h|h
  ·obtain⟨ws,hw,rfl⟩:=wj.mp h;exact(zr ws,.inl (ws,hw,V),row ws)
  ·obtain⟨x,J,rfl⟩:=wj.mp h;obtain⟨u,hu,e⟩:=ih x J;have ox:=yq hp oA (by rw[wa];exact lA) oB t x J;refine(_,.inr (u,hu,V),λi=>?_);rw[Jn hp oA ox.2 ox.1];rw[ZX];refine zk λj _=>?_
   rw[e j]
   congr 1
   have:(A.map (·.map (nnum p))).getD i [] =(A.getD i []).map (nnum p):=by
    rw[wc,wc,wg];cases A[i]? <;> rfl
   rw[this];exact row _ j
def zho{F:Type}[Field F](O:Kf 0 F){A0 B0:Tb}(oA:OkM 0 n A0)(lA:A0.length=n)(oB:OkM 0 n B0){a b:Int}(hA:Scl 0 A0.flatten (A0.flatten.map (scW a)) a)(hB:Scl 0 B0.flatten (B0.flatten.map (scW b)) b) :
  ∀(t:Nat)(v:Nat->Int),Kz n (A0.map (·.map (scW a))) (B0.map (·.map (scW b))) t v->∃ r∈kry 0 A0 B0 t,∃ c:F,∀ i,(ι (v i):F)=c*nv O r i:=by
 have row:∀(M:Tb)(b:Int),OkM 0 n M->Scl 0 M.flatten (M.flatten.map (scW b)) b->∀ r∈M,∀ j,(ι (zr (r.map (scW b)) j):F)=ι b*nv O r j:=λM b oM s r L j=>by
  have sr:Scl 0 r (r.map (scW b)) b:=(V,s.pos,s.one,λx J=>s.dv x (wU.mpr (r,L,J)));have:=sr.fv O (oM r L).2 j;show(La.fv (r.map (scW b)) j:F)=_;rw[this];grind
 intro t
 induction t with
 | zero =>
  rintro v ⟨ws,hw,rfl⟩
  obtain⟨r,L,rfl⟩:=wj.mp hw;exact(r,L,ι b,row B0 b oB hB r L)
 | succ t ih =>
  rintro v (⟨ws,hw,rfl⟩|⟨u,hu,rfl⟩)
  ·obtain⟨r,L,rfl⟩:=wj.mp hw;exact(r,wO _ L,ι b,row B0 b oB hB r L)
  ·obtain⟨r,L,c,e⟩:=ih u hu;have or:=yq (.inl rfl) oA lA oB t r L;refine(imgR 0 A0 r,wF _ (wj.mpr (r,L,V)),ι a*c,λi=>?_);rw[Jn (.inl rfl) oA or.2 or.1];show(ι (zdot n _ u):F)=_*dot n _ _;rw[ZX,← yY];refine zk λj _=>?_
   rw[e j];have:(ι (zr ((A0.map (·.map (scW a))).getD i []) j):F)=ι a*nv O (A0.getD i []) j:=by
    rw[wc,wc,wg];cases h:A0[i]? with
    | none =>
     show(ι (zr [] j):F)=ι a*nv O [] j;rw[xR,show zr [] j=0 from rfl,ι_zero];grind
    | some r=>exact row A0 a oA hA r (we h) j
   rw[this];grind
def zid{p:Int}{F:Type}[Field F](O:Kf p F)(hp:kab p)(lA:A.length=n)(wA:∀ r∈A,r.length=n)(wB:∀ r∈B,r.length=n)
  (full:∀ j,j<n->Rm O (kry p (A.map (·.map (nnum p))) (B.map (·.map (nnum p))) n) (kae j 1)) {y:Nat->Int} (h:∀ v,Kz n A B n v->zdot n v y=0) (j:Nat) (hj:j<n):p ∣ y j:=by
 rw[← O.zero];have z:=(full j hj).dot_zero_r λr ⟨x,J,e⟩=>by
  obtain⟨v,hv,ev⟩:=zgq O hp lA wA wB n x J;have:=h v hv;rw[e,zp,← show dot n (λi=>ι (v i)) (λi=>ι (y i))=dot n (nv O x) (λi=>(ι (y i):F))from zk λi _=>by rw[ev i],← ZX,this];exact ι_zero
 rw[yd hj]at z
 grind
def zcG(p1:1<p)(dv:∀ y:Nat->Int,(∀ v,Kz n A B n v->zdot n v y=0)->∀ j,j<n->p ∣ y j):∀ m y,(∀ v,Kz n A B n v->zdot n v y=0)->∀ j,j<n->(y j).natAbs<m->y j=0
 | 0,y,h,j,hj,hm=>bK hm (vN _)
 | m+1,y,h,j,hj,hm=>by
  by_cases z:y j=0
  ·exact z
  have e:= λi hi=>(Int.mul_ediv_cancel' (dv y h i hi)).symm
  have h':∀ v,Kz n A B n v->zdot n v (λi=>y i / p)=0:=λv hv=>by
   have:=h v hv;rw[Qg p v y (λi=>y i / p) n e]at this
   rcases Int.mul_eq_zero.mp this with q|q
   ·omega
   ·exact q
  have lt:(y j / p).natAbs<m:=by
   have e1:=e j hj;have e2:(y j).natAbs=p.natAbs *(y j / p).natAbs:=by rw[← vR,← e1]
   have q0:y j / p≠0:=λq=>z (by rw[e1,q,GH])
   have:2 *(y j / p).natAbs<=p.natAbs *(y j / p).natAbs:=wI _ ();have:0 <(y j / p).natAbs:=Gn.mpr q0;omega
  have:=zcG p1 dv m (λi=>y i / p) h' j hj lt;rw[e j hj,this,GH]
end
def Qj{n:Nat}{p:Int}(hp:Pr p){A0 B0:Tb}(oA:OkM 0 n A0)(lA:A0.length=n)(oB:OkM 0 n B0){a b:Int}(hA:Scl 0 A0.flatten (A0.flatten.map (scW a)) a)(hB:Scl 0 B0.flatten (B0.flatten.map (scW b)) b)
  (full:∀(F:Type) [Field F] (O:Kf p F) (j:Nat),j<n->Rm O (kry p ((A0.map (·.map (scW a))).map (·.map (nnum p))) ((B0.map (·.map (scW b))).map (·.map (nnum p))) n) (kae j 1))
  {F:Type} [Field F] (O:Kf 0 F) (v:Nat->F) (hv:∀ j,n<=j->v j=0):Rm O (kry 0 A0 B0 n) v:=by
 obtain⟨Fp,_,_,⟨φp⟩⟩:=zw (.inr hp);have wd:∀(M:Tb)(b:Int),OkM 0 n M->∀ r∈M.map (·.map (scW b)),r.length=n:=λM b oM r L=>by
  obtain⟨x,J,rfl⟩:=wj.mp L;rw[wa];exact(oM x J).1
 have dv:=λy h j hj=>zid (y:=y) φp (.inr hp) (by rw[wa];exact lA) (wd A0 a oA) (wd B0 b oB) (full Fp φp) h j hj
 obtain⟨W,ls,red⟩:=yA O (.inl rfl) (yq (.inl rfl) oA lA oB n);refine red.fro v ((yM red.toIsR (.inl rfl) v).mp (hv,λu hu=>?_));have zu:∀ j,j<n->u j=0:=λj hj=>by
  obtain⟨lx,ox⟩:=Jp (O:=O) u;obtain⟨c,sc⟩:=yT (.inl rfl) ox;have nvx:=JC (O:=O) hu.1;have fvx:=λi=>sc.fv O ox i
  have z:∀ v,Kz n (A0.map (·.map (scW a))) (B0.map (·.map (scW b))) n v->zdot n v (zr ((ofV O n u).map (scW c)))=0:=λv hv=>by
   obtain⟨r,L,d,e⟩:=zho O oA lA oB hA hB n v hv;have o:=hu.2 (nv O r) (red.to _ (.of (r,L,V)));have:(ι (zdot n v (zr ((ofV O n u).map (scW c)))):F)=0:=by
    rw[ZX];have e2:dot n (λj=>(ι (v j):F)) (λj=>ι (zr ((ofV O n u).map (scW c)) j))=d*ι c*dot n (nv O r) u:=by
     rw[← yY];refine zk λi _=>?_
     have:=fvx i;rw[nvx i]at this;show ι (v i)*La.fv ((ofV O n u).map (scW c)) i=_;rw[e i,this];grind
    rw[e2,o];grind
   rw[O.zero]at this;exact GI.mp this
  have y0:=zcG hp.lo dv _ _ z j hj (gf _);have:=fvx j;rw[nvx j]at this;have e:(La.fv ((ofV O n u).map (scW c)) j:F)=0:=by
   show(ι (zr ((ofV O n u).map (scW c)) j):F)=0;rw[y0];exact ι_zero
  rw[e]at this;have ne:=sc.ne O (.inl rfl)
  grind
 exact dot_zero n _ _ λj hj=>by rw[zu j hj];grind
section
variable[Field F]{O:Kf k F}
def rm_one1:Rm O [r] v↔∃ c:F,∀ j,v j=c*nv O r j:=by
 constructor
 ·intro h;refine h.all (P:=λv=>∃ c:F,∀ j,v j=c*nv O r j) (0,λj=>by grind) λc r' v ⟨x,J,e⟩ ⟨d,ev⟩=>?_
  rw[wx.mp J]at e;exact(c+d,λj=>by show c*r' j+v j=_;rw[e,ev j];grind)
 ·rintro ⟨c,e⟩
  have g:Rm O [r] (nv O r):=.of (r,wx.mpr rfl,V);exact(g.smul c).cast λj=>(e j).symm
def rm_app1:Rm O (M++[x]) v↔∃ u c,Rm O M u/\∀ j,v j=u j+c*nv O x j:=by
 rw[Rm.app]
 constructor
 ·rintro ⟨a,b,ha,hb,e⟩
  obtain⟨c,ec⟩:=rm_one1.mp hb;exact(a,c,ha,λj=>by rw[e j,ec j])
 ·rintro ⟨u,c,hu,e⟩
  exact(u,λj=>c*nv O x j,hu,rm_one1.mpr (c,λ_=>rfl),e)
def xu(h:∀ r∈M,r∈N)(hv:Rm O M v):Rm O N v:=hv.mono λ_ ⟨x,J,e⟩=>(x,h x J,e)
def ya(oM:OkM k c M)(hj:j<c):nv O ((trF c M).getD j []) i=nv O (M.getD i []) j:=by
 have e:(trF c M).getD j []=M.map λr=>r.getD j (.z 0):=by rw[wc,Yy hj];rfl
 rw[e]
 rcases wH i M.length with h|h
 ·have g:M.getD i []=M[i]:=by rw[wc,wb h];rfl
  have o:=oM M[i] (wk h);rw[zI O (by rw[wg,wb h];rfl),g,zhw (by rw[o.1];exact hj)]
 ·rw[zY O (by rw[wa];exact h),wc,wK h];exact(xR j).symm
def ZG(T:Tb)(c:Nat->F):∀ m,Rm O T (λj=>dot m c (λl=>nv O (T.getD l []) j))
 | 0=>Span.cast .zero λj=>rfl
 | m+1=>by
  have ih:=ZG T c m
  rcases wH m T.length with h|h
  ·have g:Rm O T (nv O (T.getD m [])):=row_of h;exact(ih.add (g.smul (c m))).cast λj=>rfl
  ·refine ih.cast λj=>?_
   show _=dot m c _+c m*nv O (T.getD m []) j;rw[wc,wK h];have:nv O ((none:Option (List Nb)).getD []) j=0:=xR j;rw[this];grind
def yH{A:Tb}(oA:OkM k n A)(lA:A.length=n)(u v:Nat->F):dot n (limg O n (trF n A) u) v=dot n u (limg O n A v):=by
 unfold limg;rw[xh n v (λi=>nv O (A.getD i [])) u n];refine zk λj hj=>?_
 congr 1
 rw[zp n u];refine zk λi _=>?_
 rw[ya oA hj]
end
section
def jE(Z:kab k)(oX:OkM k n X)(lX:X.length=n)(all:∀ F [Field F] (O:Kf k F) p,p<n->Rm O X (kae p 1))(red:∀ F [Field F] (O:Kf k F),kap O (n+n) (kao k n (trF n X)) R ls):R.map (vS n)=kam k n:=by
 obtain⟨F,_,_,⟨O⟩⟩:=zw Z;obtain⟨R0,l0,red0⟩:=yA O Z (ja Z oX lX).1;have one:∀ p:Nat,(kae (F:=F) p 1) p≠0/\∀ j,j<p->(kae (F:=F) p 1) j=0:=λp=>by
  constructor
  ·unfold kae;rw[bw rfl];exact Field.zero_ne_one.symm
  ·intro j hj;unfold kae;rw[bx ()]
 have h0:=Jx Z oX lX red0 λp hp=>(kae p 1,all F O p hp,(one p).2,(one p).1)
 have br:=Xd Z oX lX red0 h0;have oT:OkM k n (trF n X):=by have:=zaH oX;rw[lX]at this;exact this
 refine Jx Z oT (qz n X) (red F O) λq hq=>(kae q 1,?_,(one q).2,(one q).1)
 refine(ZG (O:=O) (trF n X) (λl=>nv O ((R0.map (vz n)).getD l []) q) n).cast λj=>?_
 rcases wH j n with hj|hj
 ·rw[zp];have:=br j q hj hq;have e:dot n (λl=>nv O ((trF n X).getD l []) j) (λl=>nv O ((R0.map (vz n)).getD l []) q)=dot n (nv O (X.getD j [])) (λl=>nv O ((R0.map (vz n)).getD l []) q):=zk λl hl=>by rw[ya oX hl]
  rw[e,this];unfold kae
  rfl
 ·have z:∀ l,nv O ((trF n X).getD l []) j=0:=λl=>by
   rcases wH l n with hl|hl
   ·rw[ya oX hl,wc,wK ()];exact xR l
   ·rw[wc,wK (by rw[qz];exact hl)];exact xR j
  rw[dot_zero n _ _ λl _=>by rw[z l];grind];unfold kae;rw[bx ()]
end
section
variable[Field F]
def ZZ n (u v:Nat->F):∀ m,dot (n+m) u v=dot n u v+dot m (λj=>u (n+j)) (λj=>v (n+j))
 | 0=>by show dot n u v=dot n u v+0;grind
 | m+1=>by
  show dot (n+m) u v+u (n+m)*v (n+m)=dot n u v +(dot m _ _+u (n+m)*v (n+m));rw[ZZ n u v m]
  grind
end
section
variable{R:Type}[CommRing R]
def rdot:List R->List R->R
 | a::as,b::bs=>a*b+rdot as bs
 | _,_=>0
def bpow(inner:List (List R))(v:List R):Nat->List R
 | 0=>v
 | i+1=>inner.map λr=>rdot r (bpow inner v i)
end
end La
namespace L2
open PySem PySem.Spec PyProof.Rows Nm
def TopOk(X:Cx):Prop:=∃ env l,X.stack=env::l/\env.scope.isGenerator=false/\env.scope.isCoroutine=false/\env.builtins=builtinsNs/\env.globals=cg
def zeS(L:Room k X.A)(Z:40<=k)(hP:X.prog.given.tree=none)(hS:X.base.NoSeer)(hT:TopOk X):OpR X (cQ .FloorDiv) (rI (λ_ j=>j≠0) λi j=>.int (i.fdiv j)):=by
 intro pins s E H x y v u Q I rx ry h;obtain⟨i,j,rfl,rfl,hc,q⟩:=h;obtain⟨t,rfl⟩:=rx;obtain⟨t',rfl⟩:=ry;obtain⟨env,l,e,h1,h2,h3,h4⟩:=hT;have hd:X.A.depth+Builtin.pylongFrames<recursionLimit:=by
  have:=L.dp;have:Builtin.pylongFrames=100:=rfl;omega
 exact floordiv_int hc (.int (i.fdiv j),H,I.tok _,(_,rfl),q) (.inr (PylongRoom.of I.nolimit hd (SeerAt.of (hS.keeps I.bk) hP (I.ok.frames.trans (congrArg some e)) h1 h2 h3 h4)))
def IRow(H:Hp)(ws:List Int)(a:Addr):Prop:=H a=some (.lst (ws.map V.int))
def IRow.mono(h:IRow H ws a)(g:Same H H'):IRow H' ws a:=g _ _ h
structure NewT(H H':Hp)(M:Tb)(top:Addr)(ras:List Addr):Prop where
 tab:kac H' M top ras
 ft:H top=none
 fr:∀ r∈ras,H r=none
 nd:ras.Nodup
 nt:top∉ras
structure NewR(H H':Hp)(xs:List Nb)(a:Addr):Prop where
 row:kaq H' xs a
 fa:H a=none
def Same.none(g:Same H H')(h:H' p=none):H p=none:=by
 cases e:H p with
 | none=>rfl
 | some u=>rw[g _ _ e]at h;cases h
def yp(g:Same H H')(h:H p=none):Same H (upd H' p o):=λb u q=>by
 rw[zy (zH q h)];exact g _ _ q
def kaq.len(h:kaq H xs a):∃ vs,H a=some (.lst vs)/\Paired (RN H) xs vs/\vs.length=xs.length :=
 let ⟨vs,h1,h2⟩:=h
 (vs,h1,h2,(zf h2).symm)
def jN:∀ {xs:List α} {ys:List β},xs.length=ys.length->(∀(i:Nat) a b,xs[i]?=some a->ys[i]?=some b->R a b)->Paired R xs ys
 | [],[],_,_=>.nil
 | [],_::_,h,_=>by simp at h
 | _::_,[],h,_=>by simp at h
 | a::xs,b::ys,h,f=>.cons (f 0 a b rfl rfl) (jN (by simpa using h) λi x y h1 h2=>f (i+1) x y (by simpa using h1) (by simpa using h2))
def xw{i:Nat}{b:β}(h:Paired R xs ys)(h1:xs[i]?=some a)(h2:ys[i]?=some b):R a b:=by
 obtain⟨b',e,r⟩:=yj h h1;rw[h2]at e;cases e;exact r
def sm_one:Sm 1 1:=by unfold Sm;decide
def xp n:Sm n 0:=by unfold Sm;exact waw ()
def QQ(h:Sm n w)(hd:d ∣ w):Sm n (w.fdiv d):=by
 rw[ug hd]
 by_cases z:d=0
 ·subst z;rw[Int.ediv_zero];exact xp n
 ·have e:=ga hd;refine h.le ?_;have h1:(w / d*d).natAbs=w.natAbs:=by rw[e]
  rw[vR]at h1;rw[← h1];exact uX _ (Gn.mpr z)
theorem zdL{w k:Int}(k0:0<k)(k9:k<2305843009213693952)(hn:61<=n):Sm n (w.fmod k) :=
 (Zz (wJ w k0) (wR w k0) k9).mono hn
def zfE:∀ {ws:List Int},(∀ w∈ws,Sm n w)->Sm (n+ws.length) ws.sum
 | [],_=>by rw[wbk];exact xp _
 | w::ws,h=>by
  rw[List.sum_cons];have h1:=zfE λx J=>h x (wt _ J)
  have h2:=(h w wo).mono (wad n ws.length);exact(h2.add h1).mono (by rw[vO];omega)
def xq(Z:kab k)(h:Sm n w)(hn:61<=n):nsm n (nnum k w):=by
 unfold nnum
 split
 ·exact(h,Sm.mono sm_one ())
 ·rename_i k0;exact zdL (by have:=Z.lt;omega) Z.lt.2 hn
def gLst(K:bv)(n:Nat)(t:TGs):TG:=λv E H Q=>∃ a xs,v=.ref a/\SqL K H a xs/\xs.length=n/\t xs E H Q
def ziH{pos:Pos}{k:Nat}(hc:X.calm=true)(h:PGs X es t)
  (hn:(cy es X.env).length=n:=by rfl) (hst:(cy es X.env).findIdx? (·.1)=none:=by rfl):PG X (.Tuple es k pos) (gLst X.K n t):=by
 intro pins s E H v u Q I r hw;obtain⟨a,xs,e1,hq,hl,hw⟩:=hw;subst e1;cases r;obtain⟨its,rv,pl,hz⟩:=I.list hq;have e:(cy es X.env).length=its.toArray.size:=by simp[hn,← hl,rv.length]
 rw[assign_Tuple];refine cD (cF ?_);unfold unpack;rw[e,hst];refine cD (cE (PySem.W.kun_itemsOf (I.ok.hd hc) pl.isList λh' J=>?_));have I1:Inv X pins E H { s with heap:=h' }:=I.kept (t':=s.toks) λb o e=>J b o (vf (Heap.lt_size e)) e
 exact h pins _ E H xs _ Q I1 (by simpa using rv) hw
def zeE(hb:0<b)(hd:0<d):0<b.fdiv ((vC b d:Nat):Int)*d/\b ∣ b.fdiv ((vC b d:Nat):Int)*d/\d ∣ b.fdiv ((vC b d:Nat):Int)*d/\((vC b d:Nat):Int)≠0:=by
 have g0:0 <((vC b d:Nat):Int):=by have:=GO d (show b≠0 by omega);omega
 have db:= gZ b d;have dd:= Go b d;have e1:=xL db ();have e2:=xL dd ();have p1:0<b.fdiv ((vC b d:Nat):Int):=by
  rcases waT 0 (b.fdiv ((vC b d:Nat):Int))with h|h|h
  ·exact h
  ·rw[← h]at e1;omega
  ·have:=Int.mul_neg_of_neg_of_pos h g0;omega
 refine(way p1 hd,(d.fdiv ((vC b d:Nat):Int),?_),wa1 _ _,());generalize b.fdiv ((vC b d:Nat):Int)=x at *;generalize d.fdiv ((vC b d:Nat):Int)=y at *;generalize ((vC b d:Nat):Int)=g at *;rw[← e1,← e2]
 grind
def Ju{k:Int}{H:Hp}(k0:k≠0):∀ {xs:List Nb} {vs:List V},OkR k xs->Paired (RN H) xs vs->∃ is:List Int,xs=is.map Nb.z/\vs=is.map V.int
 | _,_,_,.nil=>([],V,V)
 | x::xs,v::vs,h,.cons r t=>by
  obtain⟨is,e1,e2⟩:=Ju k0 (λy hy=>h y (wt _ hy)) t;have J:=h x wo;cases x with
  | q a=>exact bK J k0
  | z i=>exact(i::is,by rw[e1];rfl,by rw[e2,r.z];rfl)
def zdp(k0:k≠0) is:Scl k (is.map Nb.z) is 1 :=
 (by rw[vV];exact(List.map_id'' (λ_=>rfl) is).symm,(),λ_=>rfl,λx J=>by
  obtain⟨i,_,rfl⟩:=wj.mp J
  trivial)
def RN.upd(h:RN H x v)(ht:H t=some (.lst zs)):RN (upd H t (.lst zs')) x v:=by
 cases x with
 | q r =>
  obtain⟨a,rfl,ha⟩:=h.q;exact RN.of_q (by rw[zy (λe=>by rw[e,ht]at ha;cases ha)];exact ha)
 | z i=>rw[h.z];exact RN.of_z
def kaq.upd(h:kaq H xs a)(ne:a≠t)(ht:H t=some (.lst zs)):kaq (upd H t (.lst zs')) xs a :=
 let ⟨vs,h1,h2⟩:=h
 (vs,by rw[zy ne];exact h1,yC (λ_ _ r=>r.upd ht) h2)
def kaq.some(h:kaq H xs a):∃ o,H a=some o:=let ⟨vs,h1,_⟩:=h;(_,h1)
structure Grow(H H':Hp)(M:Tb)(ras:List Addr):Prop where
 same:Same H H'
 rows:Paired (kaq H') M ras
 fr:∀ r∈ras,H r=none
 nd:ras.Nodup
def Grow.nil H (g:Same H H'):Grow H H' [] []:=(g,.nil,λ_ h=>(nomatch h),.nil)
section
def Grow.mono(G:Grow H H' M ras)(g:Same H' H2):Grow H H2 M ras:=(G.same.trans g,yC (λ_ _ r=>r.mono g) G.rows,G.fr,G.nd)
def Grow.not_mem(G:Grow H H' M ras)(hp:H' p=none):p∉ras:=λhm=>by
 obtain⟨xs,_,h⟩:=xS G.rows hm;obtain⟨o,e⟩:=h.some;rw[hp]at e;cases e
def Grow.snoc(G:Grow H H' M ras)(hp:H' p=none)(L:Paired (RN H') xs vs):Grow H (upd H' p (.lst vs)) (M++[xs]) (ras++[p]):=by
 have g:=zc hp (.lst vs);have G':=G.mono g;refine(G'.same,zJ G'.rows (vs,zd,xT g L),λr hr'=>?_,?_)
 ·rcases wp.mp hr' with h|h
  ·exact G.fr r h
  ·rw[wx.mp h];exact G.same.none hp
 ·rw[gW];refine(G.nd,by simp,λa ha b hb=>?_);rw[wx.mp hb];exact λe=>G.not_mem hp (by rw[← e];exact ha)
def Grow.done(G:Grow H H' M ras)(ht:H' top=none):NewT H (upd H' top (.lst (ras.map V.ref))) M top ras :=
 ((zd,yC (λ_ _ r=>r.mono (zc ht _)) G.rows),G.same.none ht,G.fr,G.nd,G.not_mem ht)
def Grow.push(G:Grow H H' M ras){t p:Addr}{xs:List Nb}{vs zs zs':List V}(tn:H t=none)(ht:H' t=some (.lst zs))(tr:t∉ras)(g:Same H' H2)(hp:H2 p=none)(L:Paired (RN H2) xs vs) :
  Grow H (upd (upd H2 p (.lst vs)) t (.lst zs')) (M++[xs]) (ras++[p])/\t∉ras++[p]:=by
 have G1:=(G.mono g).snoc hp L;have ht2:= g _ _ ht;have tp:t≠p:=λe=>by rw[e,hp]at ht2;cases ht2
 have ht3:upd H2 p (.lst vs) t=some (.lst zs):=by rw[zy tp];exact ht2
 have nm:t∉ras++[p]:=λh=>by
  rcases wp.mp h with h|h
  ·exact tr h
  ·exact tp (wx.mp h)
 refine((yp G1.same tn,?_,G1.fr,G1.nd),nm);refine jN (zf G1.rows) λi x a h1 h2=>(xw G1.rows h1 h2).upd (λe=>nm ?_) ht3
 rw[← e];exact we h2
end
def SclAt(H:Hp)(k:Int)(m:Nat)(xs:List Nb)(p:Addr):Prop:=∃ l ws b,H p=some (.tup [.ref l,.int b])/\IRow H ws l/\Scl k xs ws b/\Sm m b/\∀ w∈ws,Sm m w
def SclAt.mono(h:SclAt H k m xs p)(g:Same H H'):SclAt H' k m xs p :=
 let ⟨l,ws,b,h1,h2,r⟩:=h
 (l,ws,b,g _ _ h1,h2.mono g,r)
def kaa(n:Nat)(M:Tb):Tb:=(wY n).map λj=>M.map λr=>r.getD j (.z 0)
def ze n M:(kaa n M).length=n:=by unfold kaa;simp
def yz(h:i<n):(kaa n M)[i]?=some (M.map λr=>r.getD i (.z 0)):=by unfold kaa;simp[h]
def zg(h:OkM k n M):OkM k M.length (kaa n M):=λr L=>by
 unfold kaa at L;obtain⟨j,hj,rfl⟩:=wj.mp L;rw[wP]at hj;refine(wa _,λx J=>?_);obtain⟨row,hrow,rfl⟩:=wj.mp J;obtain⟨h1,h2⟩:=h row hrow;have hj':j<row.length:=by omega
 rw[wc,wb hj'];exact h2 _ (wk hj')
def kaf(k:Int)(c:Nat)(M N:Tb):Tb:=M.map λr=>(kaa c N).map λcol=>ndot k r col
def imgM(k:Int)(M:Tb)(xs:List Nb):List Nb:=M.map λr=>ndot k r xs
def tyes{A B:Hp->Prop}(h:A H):tTrue E H λb H3=>if b=true then A H3 else B H3:=by
 show if true=true then A H else B H
 exact iteT h
def gyes{A B:St->Hp->Prop}(h:A (E.set i (some x)) H):gName i x E H λσ2 H2=>tTrue σ2 H2 λb H3=>if b=true then A σ2 H3 else B σ2 H3:=by
 show if true=true then A (E.set i (some x)) H else B (E.set i (some x)) H
 exact iteT h
def zdK{K:bv}{te:TE}{σb:St}{t:Addr}{ras:List Addr}{M:Tb}{H:Hp}{R:List V->Hp->Prop}(hT:kac H M t ras)(hz:M.length<sizeLine)
  (hte:∀(a:Addr)(us:List V)(H':Hp)(Q:VK),H' a=some (.lst us)->(∀ l,H' l=none->Q (.ref l) (upd H' l (.lst us)))->te (σb.set 0 (some (.ref a))) H' Q)
  (hd:∀(ras2:List Addr)(H':Hp),Grow H H' M ras2->R (ras2.map V.ref) H') :
  ∃ W:Nat->Nat->List V->Hp->Prop,(∃ m,W 0 m [] H)/\∀ i m ys H,W i m ys H ->
   ((Itl K t).stop i H/\ys.length<=sizeLine/\R ys H) \/
   ((Itl K t).go i H/\ys.length<sizeLine/\∀ x H',(Itl K t).yld i H x H'->gName 0 x σb H' λσ2 H2=>tTrue σ2 H2 λb H3=>if b=true then te σ2 H3 λy H4=>∃ m',m'<m/\W (i+1) m' (ys++[y]) H4 else ∃ m',m'<m/\W (i+1) m' ys H3):=by
 have hl:=zf hT.2;refine zq (xs:=ras.map V.ref) (λi ys H'=>∃ ras2,ys=ras2.map V.ref/\Grow H H' (M.take i) ras2) ([],V,Grow.nil H (Same.refl H)) ?_ ?_ ?_
 ·rintro i ys H' hi ⟨ras2,rfl,G⟩
  refine(SqL.of (G.same _ _ hT.1),?_);have:=zf G.rows;rw[wr]at this;rw[wa];omega
 ·rintro i v ys H' hv hi ⟨ras2,rfl,G⟩
  obtain⟨xs,a,J,ha,rfl,hrow⟩:=(hT.mono G.same).row hv;obtain⟨us,hu,pu,lu⟩:=hrow.len;refine gyes ?_;refine hte a us H' _ hu λl hl'=>?_
  refine nxt hi (ras2++[l],by rw[wv];rfl,?_);rw[zh J];exact G.snoc hl' pu
 ·rintro ys H' ⟨ras2,rfl,G⟩
  rw[wa,wm ()]at G;exact hd ras2 H' G
def zd6{H:Hp}{ds:List PyData}{vs:List V}{a:Addr}(h:H a=some (.lst vs))(r:Rps H ds vs):Rp H (.list ds) (.ref a):=by
 simp only[Rp];exact(a,Q,h,r)
def zeI(h:Rp H d v)(r:Rps H ds vs):Rps H (d::ds) (v::vs):=by
 simp only[Rps];exact(_,Q,h,r)
def zgH:Rps H [] []:=by simp only[Rps]
section
variable{K:bv}
def zfo(hK:X.K=K):SlR X (rSlL K):=hK ▸ zb5
def zc4 (hK:X.K=K):kaB X (.builtin "len") (λxs H Q=>∃ p ys,xs=[.ref p]/\(SqL K H p ys\/SqT K H p ys)/\Q (.int ys.length) H):=hK ▸ Qk
def zbY (hK:X.K=K):kaB X (.type "list") (λxs H Q=>∃ p ys,xs=[.ref p]/\(SqL K H p ys\/SqT K H p ys)/\∀ l,H l=none->Q (.ref l) (upd H l (.lst ys))):=hK ▸ Qe
def zcg (hc:X.calm=true) (hK:X.K=K):kaB X (.builtin "sum") (λxs H Q=>∃ p ns,xs=[.ref p]/\SqL K H p ((ns:List Int).map V.int)/\Q (.int ns.sum) H):=hK ▸ zcH hc
def zcN(hK:X.K=K):OpR X (cV .NotIn) (rIn K true):=hK ▸ Jb
def zg2{pos:Pos}{k:Nat} n (hK:X.K=K) (hc:X.calm=true) (h:PGs X es t)
  (hn:(cy es X.env).length=n:=by rfl) (hst:(cy es X.env).findIdx? (·.1)=none:=by rfl):PG X (.Tuple es k pos) (gTup K n t):=hK ▸ zhF hc h hn hst
def zg1{pos:Pos}{k:Nat} n (hK:X.K=K) (hc:X.calm=true) (h:PGs X es t)
  (hn:(cy es X.env).length=n:=by rfl) (hst:(cy es X.env).findIdx? (·.1)=none:=by rfl):PG X (.Tuple es k pos) (gLst K n t):=hK ▸ ziH hc h hn hst
end
def IRs(H:Hp)(Ws:List (List Int))(t:Addr)(ras:List Addr):Prop:=H t=some (.lst (ras.map V.ref))/\Paired (IRow H) Ws ras
def jB(g:Same H H')(h:Paired (IRow H) Ws ras):Paired (IRow H') Ws ras:=yC (λ_ _ r=>r.mono g) h
def IRs.mono(h:IRs H Ws t ras)(g:Same H H'):IRs H' Ws t ras:=(g _ _ h.1,jB g h.2)
def IRs.row{i:Nat}(h:IRs H Ws t ras)(e:(ras.map V.ref)[i]?=some v):∃ ws a,Ws[i]?=some ws/\ras[i]?=some a/\v=.ref a/\IRow H ws a:=by
 rw[wg]at e;obtain⟨a,ha,rfl⟩:=wG.mp e;obtain⟨xs,J,r⟩:=zK h.2 ha;exact(xs,a,J,ha,V,r)
def IRow.ne{rs:List Addr}(h:IRow H ws a)(hw:ws≠[])(ht:H t=some (.lst (rs.map V.ref))):a≠t:=λe=>by
 subst e;unfold IRow at h;rw[ht]at h;cases ws with
 | nil=>exact hw rfl
 | cons w ws =>
  cases rs with
  | nil=>cases h
  | cons r rs=>cases h
def xD{rs:List Addr}(ht:H t=some (.lst (rs.map V.ref)))(h:Paired (IRow H) Ws ras)(hw:∀ ws∈Ws,ws≠[]):Paired (IRow (upd H t o)) Ws ras :=
 jN (zf h) λi ws a h1 h2=>by
  have r:=xw h h1 h2;show upd H t o a=_;rw[zy (r.ne (hw ws (we h1)) ht)];exact r
def Ys(h:IRow H ws a)(hj:j<ws.length):atI (ws.map V.int) (0 +(j:Int))=some (.int (ws.getD j 0)):=by
 rw[vQ];refine zt ?_;rw[wg,wc,wb hj];rfl
def cut1 xs:cutV xs (some 1) none=xs.drop 1:=by
 unfold cutV;cases xs with
 | nil=>rfl
 | cons x xs =>
  rw[show(1:Int) =((1:Nat):Int)from rfl,HT.jh,HT.Zp];simp
def SzS(b:Nat)(s:List (Nat×List Int)×List (List Int)):Prop:=(∀ p∈s.1,∀ w∈p.2,Sm b w)/\∀ r∈s.2,∀ w∈r,Sm b w
def XZ(Z:kab k)(h7:61<=b)(h:∀ w∈ws,Sm b w):∀ w∈kar k ws,Sm b w:=λw hw=>by
 unfold kar at hw
 split at hw
 ·rename_i k0;obtain⟨x,_,rfl⟩:=wj.mp hw;exact zdL (by have:=Z.lt;omega) Z.lt.2 h7
 ·split at hw
  ·exact h w hw
  ·obtain⟨x,J,rfl⟩:=wj.mp hw;exact QQ (h x J) (zaW J)
def jG{ws:List Int}(h:∀ w∈ws,Sm b w) c:Sm b (ws.getD c 0):=by
 rcases wH c ws.length with g|g
 ·rw[wc,wb g];exact h _ (wk g)
 ·rw[wc,wK g];exact xp b
def zeG(hl:row.length=lead.length)(h1:∀ w∈row,Sm b w)(h2:∀ w∈lead,Sm b w) c:∀ w∈mixed row lead c,Sm (2*b+1) w:=λw hw=>by
 obtain⟨j,hj,e⟩:=wD hw;have e2:=YQ hl c j;rw[wc,wb hj]at e2;have e3:w=lead.getD c 0*row.getD j 0 - row.getD c 0*lead.getD j 0:=by rw[← e,← e2];rfl
 rw[e3];exact(((jG h2 c).mul (jG h1 j)).sub ((jG h1 c).mul (jG h2 j))).mono ()
def Xj(Z:kab k)(h7:61<=b)(hl:row.length=lead.length)(h1:∀ w∈row,Sm b w)(h2:∀ w∈lead,Sm b w) c:∀ w∈kah k lead c row,Sm (2*b+1) w:=by
 unfold kah
 split
 ·exact λw hw=>(h1 w hw).mono ()
 ·exact XZ Z () (zeG hl h1 h2 c)
def SzS.turn(Z:kab k)(h7:61<=b)(f:Fine k n s)(h:SzS b s):SzS (2*b+1) (kat k c s):=by
 unfold kat;cases e:s.2.filter (λr=>decide (r.getD c 0≠0))with
 | nil=>exact(λp hp w hw=>(h.1 p hp w hw).mono (),λp hp w hw=>(h.2 p hp w hw).mono ())
 | cons l rest =>
  have sub:∀ r∈l::rest,r∈s.2:=λr L=>by rw[← e]at L;exact(vg.mp L).1
  have hl:=sub l wo;refine(λp hp=>?_,λr L=>?_)
  ·rcases wp.mp hp with hp|hp
   ·obtain⟨q,hq,rfl⟩:=wj.mp hp;exact Xj Z h7 (by rw[f.dl q hq,f.wl l hl]) (h.1 q hq) (h.2 l hl) c
   ·rw[wx.mp hp];exact λw hw=>(h.2 l hl w hw).mono ()
  ·rcases wp.mp L with L|L
   ·exact λw hw=>(h.2 r (vg.mp L).1 w hw).mono ()
   ·obtain⟨q,hq,rfl⟩:=wj.mp L;have hq2:=sub q (wt _ hq);exact Xj Z h7 (by rw[f.wl q hq2,f.wl l hl]) (h.2 q hq2) (h.2 l hl) c
def zgt(Z:kab k)(h7:61<=b)(hl:∀ r∈rows,r.length=n)(h:∀ r∈rows,∀ w∈r,Sm b w):∀ c,SzS ((b+1)*2^c - 1) (swTo k rows c)
 | 0=>(λp hp=>(nomatch hp),λr L w hw=>by
   obtain⟨x,J,rfl⟩:=wj.mp L;exact(XZ Z h7 (h x J) w hw).mono ())
 | c+1=>by
  have ih:=zgt Z h7 hl h c;have h1:2^c ≥ 1:=uN;have h2:(b+1)*1<=(b+1)*2^c:=wS _ h1;have e:(b+1)*2^(c+1) - 1=2 *((b+1)*2^c - 1)+1:=by
   rw[gY];have:(b+1) *(2^c*2) =(b+1)*2^c*2:=by rw[GX]
   omega
  rw[e];exact SzS.turn Z () (Fine.to Z.lt.1 hl c) ih
def Jr{xs:List α}{ys:List β}(h:Paired R xs ys) i (r:R a b):Paired R (xs.set i a) (ys.set i b):=by
 refine jN (by rw[vv,vv];exact zf h) λj x y h1 h2=>?_
 by_cases e:i=j
 ·subst e;have l1:i<xs.length:=by have:=(wu.mp h1).1;rw[vv]at this;exact this
  have l2:i<ys.length:=by rw[← zf h];exact l1
  rw[uH l1]at h1;rw[uH l2]at h2;cases h1;cases h2;exact r
 ·rw[uC e]at h1 h2;exact xw h h1 h2
def xF(hT:kac H M t ras)(hp:H p=none):p∉ras:=λhm=>by
 obtain⟨xs,_,h⟩:=xS hT.2 hm;obtain⟨o,e⟩:=h.some;rw[hp]at e;cases e
def jD(h:j<n):ixN n (j:Int)=some j:=by
 unfold ixN;rw[bw (),bw ()];simp
def zfB(Z:kab k)(h:dB D B x)(ox:x.ok k)(hD0:D≠0)(hD:D<2^m)(hB:B<2^m)(m7:61<=m):nsm m x:=by
 cases x with
 | q r =>
  obtain⟨h1,h2⟩:=dB.parts hD0 h;refine(uu h2 hB,?_);show((r.den:Nat):Int).natAbs<2^m;rw[uh];exact uu h1 hD
 | z i =>
  have:=Z.lt;exact(Zz ox.2.1 ox.2.2 this.2).mono m7
def ZT(ht:H t=some (.lst zs))(h:Paired (RN H) xs vs):Paired (RN (upd H t (.lst zs'))) xs vs:=yC (λ_ _ r=>r.upd ht) h
def natV(bO:List Nat):List V:=bO.map λ(l:Nat)=>V.int (l:Int)
def zdi bO:(natV bO).all flatV=true:=by
 unfold natV;rw[List.all_map];exact ul.mpr λ_ _=>rfl
def zgu(j:Nat) bO:inV (.int (j:Int)) (natV bO)=decide (j∈bO):=by
 unfold inV natV;rw[List.any_map]
 by_cases h:j∈bO
 ·rw[bF h,Ga];exact(j,h,by show(j ==(j:Int))=true;simp)
 ·rw[bE h,List.any_eq_false];intro x J;show ¬((x:Int) ==(j:Int))=true;intro e;have:x =(j:Int):=by simpa using e
  exact h (by rw[show j=x by omega];exact J)
def ZN{t u:TS}{D:Ends}{E:St}{H:Hp}(N:St->Hp->Prop)(hN:∀ E H,N E H->u D E H)(h:(∀ E H,N E H->u D E H)->t { D with nx:=u D } E H):tSeq t u D E H:=h hN
def zc5(v:V):∀ n:Nat,(wL n [v]).flatten=wL n v
 | 0=>rfl
 | n+1=>by rw[uo,vE,zc5 v n,uo];rfl
def Jy{x:Nb}{v:V}(r:R x v):∀ n:Nat,Paired R (wL n x) (wL n v)
 | 0=>.nil
 | n+1=>by rw[uo,uo];exact .cons r (Jy r n)
def QH{k:Int}{F:Type}[bu F]{O:Kf k F}(Z:kab k){n i l:Nat}{R:Tb}{ls:List Nat}{r:List Nb}(h:IsR O n R ls)(L:R[i]?=some r)(hl:ls[i]?=some l) :
  l<n/\(∀ j,j<l->r[j]?=some (nnum k 0))/\r[l]?=some (nnum k 1):=by
 have o:=h.ok r (we L);have hp:=QL (b:=nv O r) hl (by rw[wg,L];rfl);have ln:= h.rr.lt _ hp;have val:∀ j,j<n->∀ y:Nb,y.ok k->nv O r j=O.to y->r[j]?=some y:=λj hj y oy e=>by
  have hj':j<r.length:=by rw[o.1];exact hj
  rw[zI O (wb hj')]at e;rw[wb hj',O.inj (o.2 _ (wk hj')) oy e]
 refine(ln,λj hj=>val j () _ (zD Z 0) ?_,val l ln _ (zD Z 1) ?_)
 ·rw[O.num0];exact h.rr.bef _ hp j hj
 ·rw[O.num1];exact h.rr.one _ hp
def num01(Z:kab k):nnum k 1≠nnum k 0:=λe=>by
 obtain⟨F,_,_,⟨O⟩⟩:=zw Z;have:=congrArg O.to e;rw[O.num0,O.num1]at this;exact Lean.Grind.Field.zero_ne_one this.symm
def zdZ r x y:uf (r.num*x.den*y.den+x.num*y.num*r.den) (r.den*x.den*y.den)=r+x*y:=by
 rw[waS];have h1:r *((r.den:Int):Rat) =((r.num:Int):Rat):=kfRat.rat r rfl;have h2:x *((x.den:Int):Rat) =((x.num:Int):Rat):=kfRat.rat x rfl;have h3:y *((y.den:Int):Rat) =((y.num:Int):Rat):=kfRat.rat y rfl;have n1:((r.den:Int):Rat)≠0:=λz=>yU r (uY.mp z)
 have n2:((x.den:Int):Rat)≠0:=λz=>yU x (uY.mp z)
 have n3:((y.den:Int):Rat)≠0:=λz=>yU y (uY.mp z)
 rw[wan,vp,vp,vp,vp,vp,vp];generalize (r.den:Rat)=a at *;generalize (x.den:Rat)=b at *;generalize (y.den:Rat)=c at *;generalize (r.num:Rat)=a' at *;generalize (x.num:Rat)=b' at *;generalize (y.num:Rat)=c' at *
 grind
def zaD(Z:kab k)(m7:61<=m):∀(l:List (Nb×Nb)),(∀ p∈l,p.1.ok k/\p.2.ok k/\nsm m p.1/\nsm n p.2)->∀ s:Nb,s.ok k->∀ T,61<=T->nsm T s->nsm (T+l.length *(m+n+1)) (l.foldl (λs p=>nadd k s (nmul k p.1 p.2)) s)
 | [],_,s,_,T,_,h=>by simpa using h
 | p::l,hl,s,os,T,t7,h=>by
  obtain⟨o1,o2,s1,s2⟩:=hl p wo;have om:=yD Z o1 o2;have step:nsm (T +(m+n+1)) (nadd k s (nmul k p.1 p.2)):=by
   obtain⟨x,y⟩:=p
   rcases qD o1 o2 with⟨k0,r,t,rfl,rfl⟩|⟨k0,i,j,rfl,rfl,_⟩
   ·cases s with
    | z i=>exact bK k0 os.1
    | q u =>
     show Sm _ (u+r*t).num/\Sm _ ((u+r*t).den:Int);rw[← zdZ];have hb:= Ge (Ge (yU u) (yU r)) (yU t);have st:=((h.1.mul s1.2).mul s2.2).add (((s1.1.mul s2.1).mul h.2).mono ());have d:=jb hb st ((h.2.mul s1.2).mul s2.2);exact(d.1.mono (),d.2.mono ())
   ·cases s with
    | q u=>exact bK (show k=0 from os) k0
    | z u=>exact(zhs Z k0 () _:nsm (T +(m+n+1)) (.z _))
  have:=zaD Z m7 l (λq hq=>hl q (wt _ hq)) _ (yt Z os om) _ () step;rw[GD];refine this.mono ?_;rw[vO,vG];omega
def YE(Z:kab k)(m7:61<=m)(ox:OkR k xs)(oy:OkR k ys)(sx:∀ x∈xs,nsm m x)(sy:∀ y∈ys,nsm n y):nsm (61+xs.length *(m+n+1)) (ndot k xs ys):=by
 unfold ndot ndotF;have h:=zaD Z m7 (xs.zip ys) (λp hp=>by
  obtain⟨a,b⟩:=p;obtain⟨h1,h2⟩:=vt hp;exact(ox _ h1,oy _ h2,sx _ h1,sy _ h2)) (nnum k 0) (zD Z 0) 61 () (xq Z (xp 61) ())
 refine h.mono ?_;rw[uy];have:min xs.length ys.length *(m+n+1)<=xs.length *(m+n+1):=wI _ (vX _ _);omega
def XR{k:Int}(Z:kab k)(k0:k≠0){x:Nb}(h:x.ok k):nsm 61 x:=by
 cases x with
 | q r=>exact bK (show k=0 from h) k0
 | z i=>exact Zz h.2.1 h.2.2 Z.lt.2
structure ROk(k:Int)(n m:Nat)(xs:List Nb):Prop where
 len:xs.length=n
 ok:OkR k xs
 sz:∀ x∈xs,nsm m x
structure TOk(k:Int)(r c m:Nat)(M:Tb):Prop where
 len:M.length=r
 ok:OkM k c M
 sz:∀ r∈M,∀ x∈r,nsm m x
def TOk.up(h:TOk k r c m M)(hm:m<=m'):TOk k r c m' M:=(h.len,h.ok,λr L x J=>(h.sz r L x J).mono hm)
def TOk.row(h:TOk k r c m M)(J:x∈M):ROk k c m x:=((h.ok x J).1,(h.ok x J).2,h.sz x J)
def ROk.app(h:ROk k n m xs)(h':ROk k n' m ys):ROk k (n+n') m (xs++ys) :=
 (by rw[wy,h.len,h'.len],λx J=>(wp.mp J).elim (h.ok x) (h'.ok x),λx J=>(wp.mp J).elim (h.sz x) (h'.sz x))
def zdv(Z:kab k)(m7:61<=m)(hM:TOk k r c m M)(J:ROk k c m' x):ROk k r (61+c *(m+m'+1)) (imgM k M x):=by
 refine(by unfold imgM;rw[wa,hM.len],λy hy=>?_,λy hy=>?_)
 all_goals
  unfold imgM at hy;obtain⟨row,L,rfl⟩:=wj.mp hy
 ·exact zN Z (hM.ok row L).2 J.ok
 ·have:=YE Z m7 (hM.ok row L).2 J.ok (hM.sz row L) J.sz;rw[(hM.ok row L).1]at this;exact this
def Zy(hM:TOk k r c m M):TOk k c r m (kaa c M):=by
 refine(ze _ _,by have:=zg hM.ok;rw[hM.len]at this;exact this,λq hq x J=>?_);unfold kaa at hq;obtain⟨j,hj,rfl⟩:=wj.mp hq;rw[wP]at hj;obtain⟨row,hrow,rfl⟩:=wj.mp J;have hj':j<row.length:=by have:=(hM.ok row hrow).1;omega
 rw[wc,wb hj'];exact hM.sz row hrow _ (wk hj')
def zfg(Z:kab k)(m7:61<=m)(hM:TOk k r b m M)(hN:TOk k b c m' N):TOk k r c (61+b *(m+m'+1)) (kaf k c M N):=by
 have hT:=Zy hN;refine(by unfold kaf;rw[wa,hM.len],λq hq=>?_,λq hq x J=>?_)
 all_goals
  unfold kaf at hq;obtain⟨row,L,rfl⟩:=wj.mp hq
 ·refine(by rw[wa,ze],λx J=>?_);obtain⟨col,hc,rfl⟩:=wj.mp J;exact zN Z (hM.ok row L).2 (hT.ok col hc).2
 ·obtain⟨col,hc,rfl⟩:=wj.mp J;have:=YE Z m7 (hM.ok row L).2 (hT.ok col hc).2 (hM.sz row L) (hT.sz col hc);rw[(hM.ok row L).1]at this;exact this
structure MOk(k:Int)(n h s m:Nat)(A B C:Tb):Prop where
 a:TOk k n n m A
 b:TOk k n h m B
 c:TOk k s n m C
def MOk.up(x:MOk k n h s m A B C)(hm:m<=m'):MOk k n h s m' A B C:=(x.a.up hm,x.b.up hm,x.c.up hm)
structure kaj(H:Hp)(A B C:Tb)(p ta tb tc:Addr)(ra rb rc:List Addr):Prop where
 tup:H p=some (.tup [.ref ta,.ref tb,.ref tc])
 a:kac H A ta ra
 b:kac H B tb rb
 c:kac H C tc rc
def kaj.mono(h:kaj H A B C p ta tb tc ra rb rc)(g:Same H H'):kaj H' A B C p ta tb tc ra rb rc:=(g _ _ h.tup,h.a.mono g,h.b.mono g,h.c.mono g)
def augM(A B:Tb):Tb:=vP (·++·) A B
def xK{i:Nat}(hA:A[i]?=some a)(hB:B[i]?=some b):(augM A B)[i]?=some (a++b):=by unfold augM;rw[uq,hA,hB]
def Xz(hA:TOk k r c m A)(hB:TOk k r c' m B):TOk k r (c+c') m (augM A B):=by
 have row:∀ q∈augM A B,ROk k (c+c') m q:=λq hq=>by
  obtain⟨i,hi⟩:=wau.mp hq;have hl:=(wu.mp hi).1;unfold augM at hl;rw[vd,hA.len,hB.len]at hl;have i1:i<A.length:=by rw[hA.len];omega
  have i2:i<B.length:=by rw[hB.len];omega
  rw[xK (wb i1) (wb i2)]at hi;cases hi;exact(hA.row (wk i1)).app (hB.row (wk i2))
 exact(by unfold augM;rw[vd,hA.len,hB.len];omega,λq hq=>((row q hq).len,(row q hq).ok),λq hq=>(row q hq).sz)
def kac.upd(h:kac H M t ras)(ht:t≠p)(L:p∉ras)(hp:H p=some (.lst zs)):kac (upd H p (.lst zs')) M t ras:=by
 refine(by rw[zy ht];exact h.1,jN (zf h.2) λi x a h1 h2=>(xw h.2 h1 h2).upd (λe=>L ?_) hp);rw[← e];exact we h2
def kac.rsome(h:kac H M t ras)(L:r∈ras):∃ o,H r=some o:=by
 obtain⟨xs,_,J⟩:=xS h.2 L;exact J.some
def adr(rs:List (List Addr))(i j:Nat):Option Addr:=(rs[i]?).bind (·[j]?)
def jF(h:i<rs.length):adr (rs++[ras]) i j=adr rs i j:=by unfold adr;rw[vk h]
def xH:adr (rs++[ras]) rs.length j=ras[j]?:=by unfold adr;rw[wW (ww _),uE];rfl
def XC(h:adr rs i j=some a):∃ ras,rs[i]?=some ras/\ras[j]?=some a:=by
 unfold adr at h;exact Option.bind_eq_some_iff.mp h
structure kai(H H':Hp)(Ms:List (Tb))(ts:List Addr)(rs:List (List Addr)):Prop where
 same:Same H H'
 lt:ts.length=Ms.length
 lr:rs.length=Ms.length
 tabs:∀(i:Nat) M t ras,Ms[i]?=some M->ts[i]?=some t->rs[i]?=some ras->kac H' M t ras
 frt:∀ t∈ts,H t=none
 frr:∀ ras∈rs,∀ r∈ras,H r=none
 nd:ts.Nodup
 sep:∀ t∈ts,∀ ras∈rs,t∉ras
 inj:∀ i j i' j' a,adr rs i j=some a->adr rs i' j'=some a->i=i'/\j=j'
def kai.nil(g:Same H H'):kai H H' [] [] [] :=
 (g,V,V,λi M t ras h=>by simp at h,λt h=>(nomatch h),λr h=>(nomatch h),.nil,λt h=>(nomatch h),λi j i' j' a h=>by simp[adr]at h)
section
def kai.mono(G:kai H H' Ms ts rs)(g:Same H' H2):kai H H2 Ms ts rs:=(G.same.trans g,G.lt,G.lr,λi M t ras h1 h2 h3=>(G.tabs i M t ras h1 h2 h3).mono g,G.frt,G.frr,G.nd,G.sep,G.inj)
def kai.get(G:kai H H' Ms ts rs)(hi:i<Ms.length):∃ M t ras,Ms[i]?=some M/\ts[i]?=some t/\rs[i]?=some ras/\kac H' M t ras :=
 (_,_,_,wb hi,wb (by rw[G.lt];exact hi),wb (by rw[G.lr];exact hi),G.tabs i _ _ _ (wb hi) (wb (by rw[G.lt];exact hi)) (wb (by rw[G.lr];exact hi)))
def kai.tsome(G:kai H H' Ms ts rs)(h:t∈ts):∃ o,H' t=some o:=by
 obtain⟨i,hi,rfl⟩:=wD h;obtain⟨M,t',ras,h1,h2,h3,h4⟩:=G.get (by rw[← G.lt];exact hi);rw[wb hi]at h2;cases h2;exact(_,h4.1)
def kai.rsome(G:kai H H' Ms ts rs)(h:ras∈rs)(L:r∈ras):∃ o,H' r=some o:=by
 obtain⟨i,hi,rfl⟩:=wD h;obtain⟨M,t',ras',h1,h2,h3,h4⟩:=G.get (by rw[← G.lr];exact hi);rw[wb hi]at h3;cases h3;exact h4.rsome L
def kai.push(G:kai H H' Ms ts rs){M:Tb}{t:Addr}{ras:List Addr}(g:Same H' H2)(N:NewT H' H2 M t ras):kai H H2 (Ms++[M]) (ts++[t]) (rs++[ras]):=by
 have ot:∀ x∈ts,x≠t:=λx J e=>by
  obtain⟨o,ho⟩:=G.tsome J;rw[e,N.ft]at ho;cases ho
 have olds:∀ x∈rs,∀ r∈x,r∉ras:=λx J r L h=>by
  obtain⟨o,ho⟩:=G.rsome J L;rw[N.fr r h]at ho;cases ho
 refine(G.same.trans g,by simp[G.lt],by simp[G.lr],λi M' t' ras' h1 h2 h3=>?_,λx J=>?_,λx J r L=>?_,?_,λx J y hy=>?_,λi j i' j' a h1 h2=>?_)
 ·rcases wH i Ms.length with h|h
  ·rw[vk h]at h1;rw[vk (by rw[G.lt];exact h)]at h2;rw[vk (by rw[G.lr];exact h)]at h3;exact(G.tabs i M' t' ras' h1 h2 h3).mono g
  ·have e:i=Ms.length:=by
    have:=(wu.mp h1).1;simp at this;omega
   subst e;rw[wW (ww _),uE]at h1;rw[← G.lt,wW (ww _),uE]at h2;rw[← G.lr,wW (ww _),uE]at h3;cases h1;cases h2;cases h3;exact N.tab
 ·rcases wp.mp J with h|h
  ·exact G.frt x h
  ·rw[wx.mp h];exact G.same.none N.ft
 ·rcases wp.mp J with h|h
  ·exact G.frr x h r L
  ·rw[wx.mp h]at L;exact G.same.none (N.fr r L)
 ·rw[gW];exact(G.nd,by simp,λx J y hy=>by rw[wx.mp hy];exact ot x J)
 ·rcases wp.mp J with h|h
  ·rcases wp.mp hy with h'|h'
   ·exact G.sep x h y h'
   ·rw[wx.mp h'];intro hm;obtain⟨o,ho⟩:=G.tsome h;rw[N.fr x hm]at ho;cases ho
  ·rw[wx.mp h]
   rcases wp.mp hy with h'|h'
   ·intro hm;obtain⟨o,ho⟩:=G.rsome h' hm;rw[N.ft]at ho;cases ho
   ·rw[wx.mp h'];exact N.nt
 ·have lim:∀ i j,adr (rs++[ras]) i j=some a->i<=rs.length:=λi j h=>by
   obtain⟨x,J,_⟩:=XC h;have:=(wu.mp J).1;simp at this;omega
  have mem:∀ i j,i<rs.length->adr (rs++[ras]) i j=some a->∃ x∈rs,a∈x:=λi j hi h=>by
   rw[jF hi]at h;obtain⟨x,J,hx'⟩:=XC h;exact(x,we J,we hx')
  rcases wH i rs.length with h|h <;> rcases wH i' rs.length with h'|h'
  ·rw[jF h]at h1;rw[jF h']at h2;exact G.inj i j i' j' a h1 h2
  ·obtain⟨x,J,ha⟩:=mem i j h h1;have e:= ut (lim i' j' h2) h';rw[e,xH]at h2;exact bK (we h2) (olds x J a ha)
  ·obtain⟨x,J,ha⟩:=mem i' j' h' h2;have e:= ut (lim i j h1) h;rw[e,xH]at h1;exact bK (we h1) (olds x J a ha)
  ·have e:= ut (lim i j h1) h;have e':= ut (lim i' j' h2) h';rw[e,xH]at h1;rw[e',xH]at h2;exact((),(gy (wu.mp h1).1 N.nd).mp (h1.trans h2.symm))
def kai.updAt(G:kai H H' Ms ts rs){p:Addr}{zs zs':List V}(hp:H p=none)(h:H' p=some (.lst zs))(nt:p∉ts)(nr:∀ ras∈rs,p∉ras):kai H (upd H' p (.lst zs')) Ms ts rs :=
 (yp G.same hp,G.lt,G.lr,λi M t ras h1 h2 h3=>(G.tabs i M t ras h1 h2 h3).upd (λe=>nt (by rw[← e];exact we h2)) (nr ras (we h3)) h,G.frt,G.frr,G.nd,G.sep,G.inj)
end
def tabsD(Ms:List (Tb)):PyData:=.list (Ms.map tabD)
def JN Ms:(tabsD Ms).canLay0=true:=js tabD jX Ms
def QJ Ms:(tabsD Ms).depth<=4:=wae (yZ tabD 3 qt Ms)
def zda{α:Type} f:∀(xs:List α) vs,xs.length=vs.length->(∀(i:Nat) x v,xs[i]?=some x->vs[i]?=some v->Rp H (f x) v)->Rps H (xs.map f) vs
 | [],[],_,_=>zgH
 | [],_::_,h,_=>by simp at h
 | _::_,[],h,_=>by simp at h
 | x::xs,v::vs,h,q=>zeI (q 0 x v rfl rfl) (zda f xs vs (by simpa using h) λi y u h1 h2=>q (i+1) y u (by simpa using h1) (by simpa using h2))
def kai.rp(G:kai H H' Ms ts rs)(h:H' p=some (.lst (ts.map V.ref))):Rp H' (tabsD Ms) (.ref p):=by
 refine zd6 h (zda tabD Ms _ (by rw[wa,G.lt]) λi M v h1 h2=>?_);rw[wg]at h2;obtain⟨t,ht,rfl⟩:=wG.mp h2;obtain⟨M',t',ras,e1,e2,e3,e4⟩:=G.get (wu.mp h1).1;rw[h1]at e1;rw[ht]at e2;cases e1;cases e2;exact e4.rp
def kax(k:Int)(n:Nat)(A C:Tb):Nat->Tb
 | 0=>C
 | i+1=>kaf k n (kax k n A C i) A
def marksM(k:Int)(n h:Nat)(A B C:Tb)(many:Nat):List (Tb):=(wY many).map λi=>kaf k h (kax k n A C i) B
def powX(k:Int)(A:Tb)(x:List Nb):Nat->List Nb
 | 0=>x
 | i+1=>imgM k A (powX k A x i)
def JF x:∀ i,powX k A x (i+1)=powX k A (imgM k A x) i
 | 0=>rfl
 | i+1=>congrArg (imgM k A) (JF x i)
def szP(n z:Nat):Nat->Nat
 | 0=>z
 | i+1=>61+n *(z+szP n z i+1)
def zfs(h:61<=z):∀ i,61<=szP n z i
 | 0=>h
 | i+1=>by simp only[szP];omega
def zaT(Z:kab k)(z7:61<=z)(hA:TOk k n n z A)(J:ROk k n z x):∀ i,ROk k n (szP n z i) (powX k A x i)
 | 0=>J
 | i+1=>zdv Z z7 hA (zaT Z z7 hA J i)
def ZD(Z:kab k)(z7:61<=z)(hA:TOk k n n z A)(hC:TOk k s n z C):∀ i,TOk k s n (szP n z i) (kax k n A C i)
 | 0=>hC
 | i+1=>by
  have:=zfg Z (zfs z7 i) (ZD Z z7 hA hC i) hA;refine this.up ?_;simp only[szP];rw[Gk (szP n z i) z];exact ww _
def zau{k:Int}(Z:kab k){n s z:Nat}(z7:61<=z){A C:Tb}(hA:TOk k n n z A)(hC:TOk k s n z C):∀(i:Nat)(x:List Nb),OkR k x->x.length=n->∀(j:Nat)(c r:List Nb),C[j]?=some c->(kax k n A C i)[j]?=some r->ndot k r x=ndot k c (powX k A x i)
 | 0,x,ox,lx,j,c,r,hc,L=>by
  rw[show kax k n A C 0=C from rfl,hc]at L;cases L;rfl
 | i+1,x,ox,lx,j,c,r,hc,L=>by
  have hL:=ZD Z z7 hA hC i;have hr':((kax k n A C i).map λr=>(kaa n A).map λcol=>ndot k r col)[j]?=some r:=L;rw[wg]at hr';obtain⟨r0,h0,rfl⟩:=wG.mp hr';have o0:=hL.ok r0 (we h0);have e:=zei Z o0.2 o0.1 hA.ok hA.len ox lx;have e2:ndot k ((kaa n A).map λcol=>ndot k r0 col) x=ndot k r0 (imgM k A x):=e.symm;obtain⟨li,oi⟩:=jJ Z hA.ok ox;show ndot k ((kaa n A).map λcol=>ndot k r0 col) x=_;rw[e2,JF];exact zau Z z7 hA hC i (imgM k A x) oi (by rw[← hA.len];exact li) j c r0 hc h0
def dueRow(k:Int)(h:Nat)(A B:Tb)(c:List Nb)(i:Nat):List Nb:=(kaa h B).map λb=>ndot k c (powX k A b i)
def zfa(Z:kab k)(z7:61<=z)(hM:MOk k n h s z A B C){many i j:Nat}(e1:(marksM k n h A B C many)[i]?=some M)(hc:C[j]?=some c)(e2:M[j]?=some row):dueRow k h A B c i=row:=by
 unfold marksM at e1;rw[wg]at e1;obtain⟨i',hi',rfl⟩:=wG.mp e1;have:i'=i:=by
  obtain⟨hl,e⟩:=wu.mp hi'
  simpa using e.symm
 subst this;have e2':((kax k n A C i').map λr=>(kaa h B).map λcol=>ndot k r col)[j]?=some row:=e2;rw[wg]at e2';obtain⟨r,L,rfl⟩:=wG.mp e2';unfold dueRow;refine vM λb hb=>?_
 have ob:=(Zy hM.b).row hb;exact(zau Z z7 hM.a hM.c i' b ob.ok ob.len j c r hc L).symm
def xE:(marksM k n h A B C many).length=many:=by unfold marksM;simp
def jy(hi:i<many):(marksM k n h A B C many)[i]?=some (kaf k h (kax k n A C i) B):=by
 unfold marksM;rw[wg,vw hi];rfl
def zfO(Z:kab k)(h7:61<=b)(hl:∀ r∈rows,r.length=n)(h:∀ r∈rows,∀ w∈r,Sm b w):∀ c,SzS ((b+1)*2^(swTo k rows c).1.length - 1) (swTo k rows c)
 | 0=>(λp hp=>(nomatch hp),λr L w hw=>by
   obtain⟨x,J,rfl⟩:=wj.mp L;exact(XZ Z h7 (h x J) w hw).mono (by show b<=(b+1)*2^0 - 1;omega))
 | c+1=>by
  have ih:=zfO Z h7 hl h c;have fine:=Fine.to Z.lt.1 hl c;show SzS ((b+1)*2^(kat k c (swTo k rows c)).1.length - 1) (kat k c (swTo k rows c));generalize swTo k rows c=s at ih fine;have h1:2^s.1.length ≥ 1:=uN;have h2:(b+1)*1<=(b+1)*2^s.1.length:=wS _ h1;cases e:s.2.filter (λr=>decide (r.getD c 0≠0))with
  | nil =>
   have t:kat k c s=s:=by unfold kat;simp only[e]
   rw[t];exact ih
  | cons l rest =>
   have t:=SzS.turn (c:=c) Z (show 61<=(b+1)*2^s.1.length - 1 by omega) fine ih;have len:(kat k c s).1.length=s.1.length+1:=by
    unfold kat;simp only[e];rw[wy,wa];rfl
   rw[len];have e2:(b+1)*2^(s.1.length+1) - 1=2 *((b+1)*2^s.1.length - 1)+1:=by
    rw[gY];have:(b+1) *(2^s.1.length*2) =(b+1)*2^s.1.length*2:=by rw[GX]
    omega
   rw[e2];exact t
def Yb{k:Int}(Z:kab k){n B:Nat}{M R:Tb}{ls:List Nat}(h7:61<=B)(oM:OkM k n M)(hM:kad B M)(red:∀(F:Type) [bu F] (O:Kf k F),kap O n M R ls):kad ((B+1)*2^R.length) R:=by
 obtain⟨F0,i0,d0,⟨φ0⟩⟩:=zw Z;have:∃ Ws:List (List Int),Ws.length=M.length/\(∀(i:Nat) r ws,M[i]?=some r->Ws[i]?=some ws->∃ b,Scl k r ws b)/\∀ ws∈Ws,ws.length=n/\∀ w∈ws,Sm B w:=by
  clear red
  induction M with
  | nil=>exact([],V,λi r ws h=>by simp at h,λws h=>(nomatch h))
  | cons m M ih =>
   obtain⟨Ws,l,h,hs⟩:=ih (λr L=>oM r (wt _ L)) (λr L=>hM r (wt _ L));have om:=oM m wo;obtain⟨D,D0,D1,hD⟩:=hM m wo
   by_cases k0:k=0
   ·have dv:∀ x∈m,dvB (D:Int) x:=λx J=>by
     cases x with
     | q r=>exact dB.den_dvd D0 (hD _ J)
     | z i=>trivial
    have sc:Scl k m (m.map (scW (D:Int))) (D:Int):=(V,(),λz=>bK k0 z,dv);refine(m.map (scW (D:Int))::Ws,by simp[l],λi r ws h1 h2=>?_,λws hw=>?_)
    ·cases i with
     | zero=>simp at h1 h2;subst h1 h2;exact(_,sc)
     | succ i=>exact h i r ws (by simpa using h1) (by simpa using h2)
    ·rcases wN.mp hw with e|hw
     ·rw[e];refine(by rw[wa];exact om.1,λw hw=>?_);obtain⟨x,J,rfl⟩:=wj.mp hw;exact zcs Z (om.2 x J) h7 D0 (hD x J) () (dv x J) λ_=>wbg _
     ·exact hs ws hw
   ·have dv:∀ x∈m,dvB 1 x:=λx J=>by
     cases x with
     | q r=>exact bK (om.2 _ J) k0
     | z i=>trivial
    have sc:Scl k m (m.map (scW 1)) 1:=(V,(),λ_=>rfl,dv);refine(m.map (scW 1)::Ws,by simp[l],λi r ws h1 h2=>?_,λws hw=>?_)
    ·cases i with
     | zero=>simp at h1 h2;subst h1 h2;exact(_,sc)
     | succ i=>exact h i r ws (by simpa using h1) (by simpa using h2)
    ·rcases wN.mp hw with e|hw
     ·rw[e];refine(by rw[wa];exact om.1,λw hw=>?_);obtain⟨x,J,rfl⟩:=wj.mp hw;exact zcs Z (om.2 x J) h7 D0 (hD x J) () (dv x J) λz=>bK z k0
     ·exact hs ws hw
 obtain⟨Ws,lW,scl,hs⟩:=this;have r2:=jR φ0 Z oM lW scl;have eR:=(red F0 φ0).unique r2 (λv q=>q) (λv q=>q);have wl:= λr L=>(hs r L).1
 have szs:=zfO Z h7 wl (λr L=>(hs r L).2) n;have fine:=Fine.to Z.lt.1 wl n;have len:R.length =(swTo k Ws n).1.length:=by rw[eR];unfold redM;rw[wa]
 rw[len];intro r L;rw[eR]at L;unfold redM at L;obtain⟨p,hp,rfl⟩:=wj.mp L;obtain⟨h1,h2,h3,h4⟩:=ji φ0 Z.lt.1 wl hp;have nn:= XG φ0 λz=>h3 ((Yn φ0 (fine.df p hp) p.1).mp z)
 have b:=zbX Z (λw hw=>szs.1 p hp w hw) () h3 nn;exact b.mono ()
def jH{k:Int}{n C:Nat}(hW:kad C W):∃ D:Nat,D≠0/\D<=2^(W.length*C)/\∀ r∈W,La.rowD D (W.length*C) r:=by
 induction W with
 | nil=>exact(1,(),by simp,λr L=>(nomatch L))
 | cons w W ih =>
  obtain⟨D,d0,d1,hd⟩:=ih λr L=>hW r (wt _ L)
  obtain⟨bP,e0,e1,he⟩:=hW w wo;have ep:2^((w::W).length*C)=2^(W.length*C)*2^C:=by rw[← vY,vO,vG,vL]
  refine(bP*D,gO e0 d0,?_,λr L x J=>?_)
  ·rw[ep,vJ bP D];exact vm d1 ()
  ·rcases wN.mp L with e|L
   ·rw[e]at J;have h:=dB.up (he x J) D (2^(W.length*C)) d1;rw[vJ D bP]at h;refine h.mono ?_;rw[ep,GR,Gx];omega
   ·have h:=dB.up (hd r L x J) bP (2^C) ();refine h.mono ?_;rw[ep,GR,Gx,vJ (2^C)];omega
def zf7(Z:kab k)(h:dB D B y)(oy:y.ok k):dB D B (nsub k (nnum k 0) y):=by
 cases y with
 | q r =>
  have k0:= oy;subst k0;obtain⟨a,ea,ha⟩:=h;refine(-a,?_,());rw[wap,← ea]
  grind
 | z i =>
  have e:nnum k 0=.z ((0:Int).fmod k):=by unfold nnum;rw[bx oy.1]
  rw[e]
  trivial
def zc3(Z:kab k)(hW:kad C W)(oW:OkM k n W)(hl:lw.length=W.length)(c7:61<=C)(wn:W.length<n)(hf:f<n)(g:AgR k n W lw f xs):rowB (n*C) xs:=by
 obtain⟨D,d0,d1,hd⟩:=jH (k:=k) (n:=n) hW;have le1:W.length*C+C<=n*C:=by
  have:(W.length+1)*C<=n*C:=wI _ ();rw[vG]at this;omega
 have lt:2^(W.length*C)<2^(n*C):=waD () ();refine(D,d0,(),λx J=>?_);obtain⟨j,hj,e⟩:=wD J;have hx':xs[j]?=some x:=by rw[wb hj,e]
 have hjn:j<n:=by rw[← g.len];exact hj
 by_cases ef:j=f
 ·subst ef;rw[g.one]at hx';cases hx';refine dB.num ?_;show 1*D<=_;omega
 ·by_cases hm:j∈lw
  ·obtain⟨i,hi,ei⟩:=wD hm;have h2:i<W.length:=by omega
   have ow:=oW _ (wk h2);have hf':f<W[i].length:=by rw[ow.1];exact hf
   have:=g.at_ i j W[i] W[i][f] (by rw[wb hi,ei]) (wb h2) (wb hf');rw[hx']at this;cases this;exact(zf7 Z (hd _ (wk h2) _ (wk hf')) (ow.2 _ (wk hf'))).mono ()
  ·rw[g.off j hjn ef hm]at hx';cases hx';exact dB.num (by simp)
def IsRa(k:Int)(n:Nat)(W:Tb)(lw:List Nat):Prop:=∀(F:Type) [bu F] (O:Kf k F),IsR O n W lw
def zE(Z:kab k)(h:IsRa k n W lw):OkM k n W/\lw.length=W.length/\lw.Pairwise (·<·)/\∀ l∈lw,l<n:=by
 obtain⟨F,_,_,⟨O⟩⟩:=zw Z;refine((h F O).ok,(h F O).len,(h F O).inc,λl hl=>?_);obtain⟨i,r,h1,h2⟩:=(h F O).lead_of hl;exact(h F O).rr.lt _ ((h F O).get h1 h2)
def qI:∀ {l:List Nat} {m n:Nat},l.Pairwise (·<·)->(∀ x∈l,m<=x/\x<n)->m<=n->l.length<=n - m
 | [],_,_,_,_,_=>vI _
 | x::l,m,n,pw,h,mn=>by
  rw[uA]at pw;have J:=h x wo;have:=qI pw.2 (λy hy=>(pw.1 y hy,(h y (wt _ hy)).2)) ();rw[vO];omega
def yf(Z:kab k)(h:IsRa k n W lw):W.length<=n:=by
 obtain⟨_,e,pw,lt⟩:=zE Z h;have:=qI pw (λx J=>(vI _,lt x J)) (vI _);omega
def yc(h:∀ F [bu F] (O:Kf k F),kap O n M R ls):IsRa k n R ls:=λF _ O=>(h F O).toIsR
def zal(Z:kab k)(h:IsRa k n W lw)(h':IsRa k n W' lw')(e:∀ F [bu F] (O:Kf k F) v,Rm O W v↔Rm O W' v):W=W':=by
 obtain⟨F,_,_,⟨O⟩⟩:=zw Z;exact(h F O).ext (h' F O) (e F O)
def freeOf(n:Nat)(ls:List Nat):List Nat:=(wY n).filter λf=>!decide (f∈ls)
def zaQ n ls:(freeOf n ls).Pairwise (·<·):=(gh).filter _
def jx n ls f:f∈freeOf n ls↔f<n/\f∉ls:=by
 unfold freeOf;rw[vg,wP];simp
def zai(Z:kab k)(h:IsRa k n W lw):(freeOf n lw).length+W.length=n:=by
 obtain⟨_,e,pw,lt⟩:=zE Z h;have h1:=yX (λx=>decide (x∈lw)) (wY n);have h2:(wY n).filter (λx=>decide (x∈lw))=lw:=yI ((gh).filter _) pw (λp hp=>by simpa using (vg.mp hp).2) (λp hp=>vg.mpr (wP.mpr (lt p hp),by simpa using hp));rw[h2,vx]at h1;unfold freeOf;omega
def Za{l:List Nat} p (h:l[i]?=some x):(l.take (i+1)).filter p =(l.take i).filter p ++(if p x=true then [x] else []):=yy p h
def Grow.snocR(G:Grow H H1 M ras)(g:Same H1 H2)(L:kaq H2 xs p)(hp:H1 p=none):Grow H H2 (M++[xs]) (ras++[p]):=by
 have G':=G.mono g;refine(G'.same,zJ G'.rows L,λr hr'=>?_,?_)
 ·rcases wp.mp hr' with h|h
  ·exact G.fr r h
  ·rw[wx.mp h];exact G.same.none hp
 ·rw[gW];refine(G.nd,by simp,λa ha b hb e=>G.not_mem hp ?_);rw[← wx.mp hb,← e];exact ha
structure AgI(k:Int)(n:Nat)(R:Tb)(ls:List Nat)(f i:Nat)(xs:List Nb):Prop where
 len:xs.length=n
 ok:OkR k xs
 one:xs[f]?=some (nnum k 1)
 at_:∀(t l:Nat)(r:List Nb)(y:Nb),t<i->ls[t]?=some l->R[t]?=some r->r[f]?=some y->xs[l]?=some (nsub k (nnum k 0) y)
 off:∀ j,j<n->j≠f->j∉ls.take i->xs[j]?=some (nnum k 0)
def AgI.start(Z:kab k)(hf:f<n) R ls:AgI k n R ls f 0 ((wL n (nnum k 0)).set f (nnum k 1)):=by
 refine(by rw[vv,wQ],λx J=>?_,uH (by rw[wQ];exact hf),λt l r y h=>bK h (vN t),λj hj ne _=>?_)
 ·rcases zO J with e|e
  ·rw[e];exact zD Z 1
  ·rw[vF e];exact zD Z 0
 ·rw[uC (Ne.symm ne),vU,bw hj]
def AgI.step(Z:kab k)(T:AgI k n R ls f i xs)(nd:ls.Nodup)(nf:f∉ls)(hl:ls[i]?=some l)(L:R[i]?=some r)(hy:r[f]?=some y)(oy:y.ok k)(ln:l<n):AgI k n R ls f (i+1) (xs.set l (nsub k (nnum k 0) y)):=by
 have lf:l≠f:=λe=>nf (by rw[← e];exact we hl)
 refine(by rw[vv];exact T.len,λx J=>?_,by rw[uC lf];exact T.one,λt l' r' y' ht hl' hr' hy'=>?_,λj hj ne nm=>?_)
 ·rcases zO J with e|e
  ·rw[e];exact Zx Z.lt.1 (zD Z 0) oy
  ·exact T.ok x e
 ·by_cases e:t=i
  ·subst e;rw[hl]at hl';cases hl';rw[L]at hr';cases hr';rw[hy]at hy';cases hy';rw[uH (by rw[T.len];exact ln)]
  ·have ne:l'≠l:=λz=>e ((gy (wu.mp hl').1 nd).mp (by rw[hl',hl,z]))
   rw[uC (Ne.symm ne)];exact T.at_ t l' r' y' () hl' hr' hy'
 ·rw[zh hl]at nm;have n1:= λh=>nm (wO _ h)
  have n2:j≠l:=λh=>nm (wF _ (by rw[h];exact wx.mpr rfl))
  rw[uC (Ne.symm n2)];exact T.off j hj ne n1
def AgI.done(T:AgI k n R ls f R.length xs)(hl:ls.length=R.length):AgR k n R ls f xs :=
 (T.len,T.ok,T.one,λi l r y h1 h2 h3=>T.at_ i l r y (wu.mp h2).1 h1 h2 h3,λj hj ne nm=>T.off j hj ne (by rw[wm ()];exact nm))
def je(Z:kab k)(oW:OkM k n W)(h:kad C W)(c7:61<=C):∀ r∈W,∀ x∈r,nsm C x:=λr L x J=>by
 obtain⟨D,d0,d1,hd⟩:=h r L;have:0<2^C:=waw ();exact zfB Z (hd x J) ((oW r L).2 x J) d0 d1 () c7
def zhq(Z:kab k)(i1:IsRa k n W1 l1)(i2:IsRa k n W2 l2)
  (p1:∀ F [bu F] (O:Kf k F) v,Rm O A1 v↔perp n (Rm O W1) v) (p2:∀ F [bu F] (O:Kf k F) v,Rm O A2 v↔perp n (Rm O W2) v)
  (red:∀ F [bu F] (O:Kf k F),kap O n (A1++A2) bN lj) F [bu F] (O:Kf k F) v:perp n (Rm O bN) v↔Rm O W1 v/\Rm O W2 v:=by
 have s1:∀ u,Rm O A1 u->Rm O bN u:=λu hu=>(red F O).to u (hu.mono λr ⟨x,J,e⟩=>(x,wO _ J,e))
 have s2:∀ u,Rm O A2 u->Rm O bN u:=λu hu=>(red F O).to u (hu.mono λr ⟨x,J,e⟩=>(x,wF _ J,e))
 constructor
 ·rintro ⟨z,h⟩
  exact((yM (i1 F O) Z v).mp (z,λu hu=>h u (s1 u ((p1 F O u).mpr hu))),(yM (i2 F O) Z v).mp (z,λu hu=>h u (s2 u ((p2 F O u).mpr hu))))
 ·rintro ⟨h1,h2⟩
  refine(λj hj=>(i1 F O).supp h1 j hj,λu hu=>((red F O).fro u hu).dot_zero λr ⟨x,J,e⟩=>?_)
  rcases wp.mp J with q|q
  ·rw[e,zp];exact((p1 F O _).mp (.of (x,q,V))).2 v h1
  ·rw[e,zp];exact((p2 F O _).mp (.of (x,q,V))).2 v h2
def kau(k:Int)(W M:Tb):Prop:=∀ F [bu F] (O:Kf k F) v,Rm O W v↔Rm O M v
def Gen(k:Int)(n g:Nat)(W:Tb):Prop:=∃ M,OkM k n M/\kad g M/\kau k W M
def zaj(h:IsRa k n W lw)(e:kau k W M):∀ F [bu F] (O:Kf k F),kap O n M W lw:=λF _ O=>{ (h F O)with to:=λv q=>(e F O v).mpr q,fro:=λv q=>(e F O v).mp q }
def Zq(Z:kab k)(h:IsRa k n W lw)(g7:61<=g)(hg:Gen k n g W):kad ((g+1)*2^W.length) W:=by
 obtain⟨M,oM,cM,e⟩:=hg;exact Yb Z g7 oM cM (zaj h e)
def jw(Z:kab k)(h:IsRa k n W lw)(g7:61<=g)(hg:Gen k n g W):kad ((g+1)*2^n) W :=
 (Zq Z h g7 hg).mono (wS _ (vh () (yf Z h)))
def zhi(Z:kab k)(oM:OkM k n M)(red:∀ F [bu F] (O:Kf k F),kap O n M R ls):R.length<=M.length:=by
 obtain⟨F,_,_,⟨O⟩⟩:=zw Z;have:∃ Ws:List (List Int),Ws.length=M.length/\∀(i:Nat) r ws,M[i]?=some r->Ws[i]?=some ws->∃ b,Scl k r ws b:=by
  clear red
  induction M with
  | nil=>exact([],V,λi r ws h=>by simp at h)
  | cons m M ih =>
   obtain⟨Ws,l,h⟩:=ih λr L=>oM r (wt _ L)
   obtain⟨b,hb⟩:=yT Z (oM m wo).2;refine(m.map (scW b)::Ws,by simp[l],λi r ws h1 h2=>?_);cases i with
   | zero=>simp at h1 h2;subst h1 h2;exact(b,hb)
   | succ i=>exact h i r ws (by simpa using h1) (by simpa using h2)
 obtain⟨Ws,l,h⟩:=this;have eR:=(red F O).unique (jR O Z oM l h) (λv q=>q) (λv q=>q);have:=jp (k:=k) Ws n;rw[eR];unfold redM;rw[wa];omega
def agL(k:Int)(n:Nat)(W:Tb)(lw:List Nat)(f:Nat):List Nb:=(wY n).map λj=>if j=f then nnum k 1 else if j∈lw then nsub k (nnum k 0) ((W.getD (lw.idxOf j) []).getD f (nnum k 0))else nnum k 0
def zaF(Z:kab k)(h:IsRa k n W lw)(hf:f<n)(nf:f∉lw):AgR k n W lw f (agL k n W lw f):=by
 obtain⟨oW,ll,inc,lt⟩:=zE Z h;have nd:= inc.imp λh=>vf h
 have get:∀ j,j<n->(agL k n W lw f)[j]?=some (if j=f then nnum k 1 else if j∈lw then nsub k (nnum k 0) ((W.getD (lw.idxOf j) []).getD f (nnum k 0))else nnum k 0):=λj hj=>by
  unfold agL;rw[wg,vw hj];rfl
 refine(by unfold agL;simp,λx J=>?_,by rw[get f hf,bw rfl],λi l r y hl L hy=>?_,λj hj ne nm=>by rw[get j hj,bx ne,bx nm])
 ·unfold agL at J;obtain⟨j,_,rfl⟩:=wj.mp J
  split
  ·exact zD Z 1
  ·split
   ·rename_i hm;refine Zx Z.lt.1 (zD Z 0) ?_;have hi:lw.idxOf j<W.length:=by rw[← ll];exact uF hm
    rw[wc (l:=W),wb hi];show((W[lw.idxOf j]).getD f (nnum k 0)).ok k;rw[wc];have o:=oW _ (wk hi);rw[wb (by rw[o.1];exact hf)];exact o.2 _ (wk _)
   ·exact zD Z 0
 ·have lf:l≠f:=λe=>nf (by rw[← e];exact we hl)
  have hm:=we hl;have ei:lw.idxOf l=i:=by
   have h1:lw[lw.idxOf l]?=some l:=by rw[wb (uF hm)];simp
   exact(gy (uF hm) nd).mp (h1.trans hl.symm)
  rw[get l (lt l hm),bx lf,bw hm,ei,wc (l:=W),L];show some (nsub k (nnum k 0) (r.getD f (nnum k 0)))=_;rw[wc,hy];rfl
def ZL(Z:kab k)(n1:1<=n)(h:IsRa k n W lw)(g7:61<=g)(hg:Gen k n g W)(hA:IsRa k n A la)(e:∀ F [bu F] (O:Kf k F) v,Rm O A v↔perp n (Rm O W) v):kad ((n *(g+1)+1)*2^n) A:=by
 obtain⟨oW,ll,inc,lt⟩:=zE Z h;have cW:=Zq Z h g7 hg;have fl:=zai Z h;have p1:1<=2^W.length:=uN;have c7:61<=(g+1)*2^W.length:=by have:(g+1)*1<=(g+1)*2^W.length:=wS _ p1;omega
 let A0:=(freeOf n lw).map (agL k n W lw)
 have ag:∀(i f:Nat)(xs:List Nb),(freeOf n lw)[i]?=some f->A0[i]?=some xs->AgR k n W lw f xs:=λi f xs h1 h2=>by
  have h2':= h2;rw[wg,h1]at h2';have:agL k n W lw f=xs:=Option.some.inj h2';rw[← this];have:=(jx n lw f).mp (we h1);exact zaF Z h this.1 this.2
 have oA0:OkM k n A0:=λr L=>by
  obtain⟨f,hf,e⟩:=wj.mp L;have:=(jx n lw f).mp hf;rw[← e];exact((zaF Z h this.1 this.2).len,(zaF Z h this.1 this.2).ok)
 have cA0:kad (n *((g+1)*2^W.length)) A0:=λr L=>by
  obtain⟨f,hf,e⟩:=wj.mp L;have hf':=(jx n lw f).mp hf;have:0 <(freeOf n lw).length:=waq hf;rw[← e];exact zc3 Z cW oW ll c7 () hf'.1 (zaF Z h hf'.1 hf'.2)
 have same:kau k A A0:=λF _ O v=>(e F O v).trans (qY (h F O) Z (zaQ n lw) (jx n lw) (by show _ =((freeOf n lw).map (agL k n W lw)).length;rw[wa]) ag v).symm
 have red:=zaj hA same;have n7:61<=n *((g+1)*2^W.length):=by have:1 *((g+1)*2^W.length)<=n *((g+1)*2^W.length):=wI _ n1;omega
 have sz:=Yb Z n7 oA0 cA0 red;have lA:=zhi Z oA0 red;have lA0:A0.length =(freeOf n lw).length:=by show((freeOf n lw).map (agL k n W lw)).length=_;rw[wa]
 refine sz.mono ?_;have h1:n *((g+1)*2^W.length)+1<=(n *(g+1)+1)*2^W.length:=by
  have:(n *(g+1)+1)*2^W.length=n *((g+1)*2^W.length)+2^W.length:=by
   rw[vG (n *(g+1)) 1,vL,GX]
  omega
 have h2:2^A.length<=2^(n - W.length):=vh () ();have h3:(n *((g+1)*2^W.length)+1)*2^A.length<=(n *(g+1)+1)*2^W.length*2^(n - W.length):=vm h1 h2;have h4:(n *(g+1)+1)*2^W.length*2^(n - W.length) =(n *(g+1)+1)*2^n:=by
  rw[GX,← vY];have:=yf Z h;rw[show W.length +(n - W.length)=n by omega]
 omega
def zd7(hA:Gen k n g A)(hB:Gen k n g B)(red:∀ F [bu F] (O:Kf k F),kap O n (A++B) R ls):Gen k n g R:=by
 obtain⟨M,oM,cM,eM⟩:=hA;obtain⟨N,oN,cN,eN⟩:=hB;refine(M++N,λr L=>(wp.mp L).elim (oM r) (oN r),cM.app cN,λF _ O v=>?_);have mono:∀(X Y X' Y':Tb),(∀ u,Rm O X u->Rm O X' u)->(∀ u,Rm O Y u->Rm O Y' u)->∀ u,Rm O (X++Y) u->Rm O (X'++Y') u:=λX Y X' Y' h1 h2 u hu=>hu.bind λr ⟨x,J,e⟩=>by
  rw[e]
  rcases wp.mp J with q|q
  ·exact(h1 _ (.of (x,q,V))).mono λs ⟨y,hy,ey⟩=>(y,wO _ hy,ey)
  ·exact(h2 _ (.of (x,q,V))).mono λs ⟨y,hy,ey⟩=>(y,wF _ hy,ey)
 exact(λh=>mono A B M N (λu=>(eM F O u).mp) (λu=>(eN F O u).mp) v ((red F O).fro v h),λh=>(red F O).to v (mono M N A B (λu=>(eM F O u).mpr) (λu=>(eN F O u).mpr) v h))
set_option maxHeartbeats 4000000
def kaA(k:Int)(n:Nat)(A W:Tb):Prop:=∀ F [bu F] (O:Kf k F) v,Rm O A v↔perp n (Rm O W) v
def MetOf(k:Int)(M A B:Tb):Prop:=∀ F [bu F] (O:Kf k F) v,Rm O M v↔Rm O A v/\Rm O B v
def SumOf(k:Int)(bN A B:Tb):Prop:=∀ F [bu F] (O:Kf k F) v,Rm O bN v↔∃ a b,Rm O A a/\Rm O B b/\∀ j,v j=a j+b j
def RdR(k:Int)(n:Nat)(W:Tb):Prop:=∃ lw,IsRa k n W lw
def Yl(Z:kab k)(h:RdR k n W)(h':RdR k n W')(e:∀ F [bu F] (O:Kf k F) v,Rm O W v↔Rm O W' v):W=W':=by
 obtain⟨l,h⟩:=h;obtain⟨l',h'⟩:=h';exact zal Z h h' e
def zak(oW:OkM k n W)(h:kad g W):Gen k n g W:=(W,oW,h,λF _ O v=>Iff.rfl)
def zjq(Z:kab k)(hW:RdR k n W)(hB:RdR k n B)(e1:kaA k n A W)(e2:kaA k n B A):B=W:=by
 refine Yl Z hB hW λF _ O v=>?_
 obtain⟨lw,hW⟩:=hW;refine(e2 F O v).trans (Iff.trans ?_ (yM (hW F O) Z v));exact(λ⟨z,h⟩=>(z,λu hu=>h u ((e1 F O u).mpr hu)),λ⟨z,h⟩=>(z,λu hu=>h u ((e1 F O u).mp hu)))
section
variable(Z:kab k)
include Z
theorem dims(hA:RdR k n A)(hB:RdR k n B)(hJ:RdR k n bN)(hM:RdR k n M)(e:SumOf k bN A B)(e':MetOf k M A B):bN.length+M.length=A.length+B.length:=by
 obtain⟨F,_,_,⟨O⟩⟩:=zw Z;obtain⟨la,hA⟩:=hA;obtain⟨lb,hB⟩:=hB;obtain⟨lj,hJ⟩:=hJ;obtain⟨lm,hM⟩:=hM;exact Qw Z (hA F O) (hB F O) (hJ F O) (hM F O) (e F O) (e' F O)
end
def Xi:∀(xs:List Nb),(∀ x∈xs,nsm m x)->∃ D:Nat,D≠0/\D<=2^(xs.length*m)/\∀ r:Rat,Nb.q r∈xs->r.den ∣ D
 | [],_=>(1,(),by simp,λr h=>(nomatch h))
 | x::xs,h=>by
  obtain⟨D,d0,dl,dd⟩:=Xi xs λy hy=>h y (wt _ hy)
  have pm:2^((x::xs).length*m)=2^(xs.length*m)*2^m:=by rw[vO,vG,vL,vY]
  cases x with
  | z i =>
   refine(D,d0,?_,λr L=>?_)
   ·rw[pm];exact wE dl (uX _ (ud m))
   ·rcases wN.mp L with e|e
    ·cases e
    ·exact dd r e
  | q s =>
   have hs:s.den<2^m:=by
    have:=(h (.q s) wo).2;unfold Sm at this;omega
   refine(D*s.den,gO d0 s.den_nz,?_,λr L=>?_)
   ·rw[pm];exact vm dl (vT hs)
   ·rcases wN.mp L with e|e
    ·cases e;exact Nat.dvd_mul_left _ _
    ·exact Gv (dd r e) (waU _ _)
def Zn(m1:1<=m)(h:ROk k n m xs):rowB ((n+1)*m) xs:=by
 obtain⟨D,d0,dl,dd⟩:=Xi xs h.sz;rw[h.len]at dl;have pm:2^((n+1)*m)=2^(n*m)*2^m:=by rw[vG,vL,vY]
 have m2:= vh (n:=2) () m1;refine(D,d0,?_,λx J=>?_)
 ·rw[pm]
  calc D<=2^(n*m):=dl
   _<2^(n*m)*2:=by omega
   _<=2^(n*m)*2^m:=wS _ m2
 ·cases x with
  | z i=>trivial
  | q r =>
   obtain⟨c,hc⟩:=dd r J;have sr:=h.sz _ J;refine(c*r.num,?_,?_)
   ·have e1:((D:Int):Rat) =((r.den:Int):Rat) *((c:Int):Rat):=by rw[hc,gu,vp]
    have e2:r *((r.den:Int):Rat) =((r.num:Int):Rat):=kfRat.rat r rfl;rw[e1,vp,← e2]
    grind
   ·rw[vR];have hn:r.num.natAbs<2^m:=sr.1;have hc':c<=D:=by
     rw[hc];exact gP _ r.den_pos
    have:((c:Int)).natAbs*r.num.natAbs<=2^(n*m) *(2^m - 1):=vm () ();have e:2^(n*m) *(2^m - 1)=2^(n*m)*2^m - 2^(n*m):=by rw[GR,Gx]
    rw[pm];omega
def xU(m1:1<=m)(h:TOk k r n m M):kad ((n+1)*m) M:=λx J=>Zn m1 (h.row J)
def zV(k0:k≠0)(oM:OkM k n M)(b1:1<=B):kad B M:=λr L=>(1,(),ve (by decide:1<2^1) (vh () b1),λx J=>by
 have:=(oM r L).2 x J;cases x with
 | z i=>trivial
 | q s=>exact bK (show k=0 from this) k0)
def Fit(k:Int)(n:Nat):Prop:=1<=n/\(n<=3\/(k≠0/\n<=10))
def Fit.n10(h:Fit k n):n<=10:=by rcases h.2 with h|h <;> omega
def yB:∀ t r,r∈kry k A B t->∃ b∈B,∃ i,i<=t/\r=powX k A b i
 | 0,r,L=>(r,L,0,ww _,V)
 | t+1,r,L=>by
  rcases wp.mp L with h|h
  ·exact(r,h,0,vI _,V)
  ·obtain⟨x,J,rfl⟩:=wj.mp h;obtain⟨b,hb,i,hi,rfl⟩:=yB t x J;exact(b,hb,i+1,(),V)
def szP3:∀ n,n<4->∀ i,i<5->(n+1)*szP n 80 i<=74560:=by decide
def zc7(Z:kab k)(hf:Fit k n)(hA:TOk k n n 80 A)(hB:TOk k b n 80 B)(ht:t<=n+1):kad 74560 (kry k A B t):=by
 rcases hf.2 with h|h
 ·intro r L;obtain⟨x,J,i,hi,rfl⟩:=yB t r L;exact(Zn (wE () (zfs () i)) (zaT Z () hA (hB.row J) i)).mono (szP3 n () i ())
 ·exact zV h.1 (yq Z hA.ok hA.len hB.ok t) ()
def capC(n c:Nat):Nat:=if n<=3 then c else 61
def pow2(h:n<=m):2^n<=2^m:=vh () h
def cap7(h:61<=c):61<=capC n c:=by unfold capC;split <;> omega
def cap1(hf:Fit k n)(h:(c+1)*8<=60000000):(capC n c+1)*2^n<=60000000:=by
 unfold capC
 split
 ·rename_i h3;exact wE (wS _ (pow2 h3)) h
 ·exact wE (wS _ (pow2 hf.n10)) ()
def cap2(hf:Fit k n)(h:(3*c+1)*8<=60000000):(n*capC n c+1)*2^n<=60000000:=by
 unfold capC
 split
 ·rename_i h3;have:n*c<=3*c:=wI _ h3;exact wE (vm (show n*c+1<=3*c+1 by omega) (pow2 h3)) h
 ·have:=hf.n10;exact wE (vm (show n*61+1<=611 by omega) (pow2 hf.n10)) ()
def yx(hf:Fit k n)(oM:OkM k n M)(h:n<=3->kad c M):kad (capC n c) M:=by
 unfold capC
 split
 ·rename_i h3;exact h h3
 ·rcases hf.2 with h'|h'
  ·omega
  ·exact zV h'.1 oM ()
def pow8(h:n<=3):2^n<=8:=pow2 h
def zb4{k:Int}(Z:kab k){n b t:Nat}{A B R:Tb}(hf:Fit k n)(hA:TOk k n n 80 A)(hB:TOk k b n 80 B)(ht:t<=n+1)(hR:RdR k n R)(e:kau k R (kry k A B t)):TOk k R.length n 596488 R/\kad (capC n 596488) R:=by
 obtain⟨ls,iR⟩:=hR;have oR:=(zE Z iR).1;have g:Gen k n 74560 R:=(_,yq Z hA.ok hA.len hB.ok t,zc7 Z hf hA hB ht,e);have rb:= yx hf oR λh=>(jw Z iR () g).mono (wS 74561 (pow8 h))
 have cl:capC n 596488<=596488:=by unfold capC;split <;> omega
 exact((V,oR,je Z oR (rb.mono cl) ()),rb)
def zeo(Z:kab k)(hf:Fit k n)(hA:TOk k n n 80 A)(hR:TOk k R.length n 596488 R):OkM k n (R.map (imgM k A))/\kad (capC n 7159072) (R.map (imgM k A)):=by
 have row:∀ x∈R,ROk k n (61+n *(80+596488+1)) (imgM k A x):=λx J=>zdv Z () hA (hR.row J)
 have ok:OkM k n (R.map (imgM k A)):=λr L=>by
  obtain⟨x,J,rfl⟩:=wj.mp L;exact((row x J).len,(row x J).ok)
 refine(ok,yx hf ok λh r L=>?_);obtain⟨x,J,rfl⟩:=wj.mp L;refine(Zn () (row x J)).mono ?_
 rcases (show n=0\/n=1\/n=2\/n=3 by omega)with e|e|e|e <;> subst e <;> decide
def zbT(hf:Fit k n)(hB:TOk k b n 80 B):kad (capC n 7159072) B:=yx hf hB.ok λh=>(xU () hB).mono (wE (wI _ (show n+1<=4 by omega)) ())
structure kan(k:Int)(n:Nat)(A B R:Tb):Prop where
 rd:RdR k n R
 eq:kau k R (kry k A B n)
def kan.uniq(Z:kab k)(h:kan k n A B R)(h':kan k n A B R'):R=R':=Yl Z h.rd h'.rd λF _ O v=>(h.eq F O v).trans (h'.eq F O v).symm
structure LrI(k:Int)(n:Nat)(A B R W:Tb)(t:Nat):Prop where
 rR:RdR k n R
 rW:RdR k n W
 eR:kau k R (kry k A B t)
 eW:kau k W (kry k A B (t+1))
 le:t<=R.length
def zQ(oM:OkM k c M):kaa M.length (kaa c M)=M:=by
 refine uR λi=>?_
 rcases wH i M.length with h|h
 ·rw[yz h,wb h]
  congr 1
  have om:=oM M[i] (wk h);refine uR λj=>?_
  rcases wH j c with hj|hj
  ·have hj':j<M[i].length:=by omega
   rw[wg,yz hj,wb hj'];show some ((M.map λr=>r.getD j (.z 0)).getD i (.z 0))=some _
   congr 1
   rw[wc,wg,wb h];show(M[i].getD j (.z 0))=_;rw[wc,wb hj'];rfl
  ·rw[wK (by rw[wa,ze];exact hj),wK ()]
 ·rw[wK (by rw[ze];exact h),wK h]
def szk(k:Int)(m:Nat)(x:Nb):Prop:=k=0->nsm m x
def szk.mono(h:szk k m x)(hm:m<=n):szk k n x:=λk0=>(h k0).mono hm
def szk.nsm(Z:kab k)(o:x.ok k)(h:szk k m x)(hm:m<=n)(h7:61<=n):nsm n x:=by
 by_cases k0:k=0
 ·exact(h k0).mono hm
 ·exact(XR Z k0 o).mono h7
def zey(ox:x.ok k)(oy:y.ok k)(sx:szk k m x)(sy:szk k n y):szk k (m+n+1) (nadd k x y):=λk0=>by
 rcases qD ox oy with⟨_,r,s,rfl,rfl⟩|⟨h,_⟩
 ·have J:=sx k0;have hy:=sy k0;show Sm _ (r+s).num/\Sm _ ((r+s).den:Int);rw[← zcm];obtain⟨h1,h2⟩:=jb (xP r s) ((J.1.mul hy.2).add ((hy.1.mul J.2).mono ())) (J.2.mul hy.2);exact(h1,h2.mono (uL _))
 ·exact bK k0 h
def zbo(ox:x.ok k)(oy:y.ok k)(sx:szk k m x)(sy:szk k n y):szk k (m+n) (nmul k x y):=λk0=>by
 rcases qD ox oy with⟨_,r,s,rfl,rfl⟩|⟨h,_⟩
 ·have J:=sx k0;have hy:=sy k0;show Sm _ (r*s).num/\Sm _ ((r*s).den:Int);rw[← QG];exact jb (xP r s) (J.1.mul hy.1) (J.2.mul hy.2)
 ·exact bK k0 h
section
def zbc(h1:rs[i]?=some ras)(h2:ras[j]?=some a):adr rs i j=some a:=by unfold adr;rw[h1];exact h2
def kai.setRow(G:kai H H' Ms ts rs){i j:Nat}{M:Tb}{ras:List Addr}{a:Addr}(hM:Ms[i]?=some M)(L:rs[i]?=some ras)(ha:ras[j]?=some a){us:List V}(hu:H' a=some (.lst us)){xs:List Nb}{vs:List V}(hv:Paired (RN H') xs vs):kai H (upd H' a (.lst vs)) (Ms.set i (M.set j xs)) ts rs:=by
 have rm:=we L;have am:=we ha;refine(yp G.same (G.frr ras rm a am),by rw[vv];exact G.lt,by rw[vv];exact G.lr,λi' M' t' ras' h1 h2 h3=>?_,G.frt,G.frr,G.nd,G.sep,G.inj);have nt:t'≠a:=λe=>G.sep t' (we h2) ras rm (by rw[e];exact am)
 by_cases e:i'=i
 ·subst e;rw[L]at h3;cases h3;have lM:=(wu.mp hM).1;rw[vA,bw rfl,bw lM]at h1;cases h1;have T:=G.tabs i' M t' ras hM h2 L;refine(by rw[zy nt];exact T.1,jN (by rw[vv];exact zf T.2) λj' x' a' e1 e2=>?_)
  by_cases ej:j'=j
  ·subst ej;rw[ha]at e2;cases e2;have lj:j'<M.length:=by rw[zf T.2];exact(wu.mp ha).1
   rw[vA,bw rfl,bw lj]at e1;cases e1;exact(vs,zd,yC (λ_ _ r=>r.upd hu) hv)
  ·rw[vA,bx (Ne.symm ej)]at e1;exact(xw T.2 e1 e2).upd (λz=>ej (by subst z;exact(G.inj _ _ _ _ _ (zbc L e2) (zbc L ha)).2)) hu
 ·rw[vA,bx (Ne.symm e)]at h1;refine(G.tabs i' M' t' ras' h1 h2 h3).upd nt (λhm=>e ?_) hu;obtain⟨j',hj',e2⟩:=wD hm;exact(G.inj _ _ _ _ _ (zbc h3 (by rw[wb hj',e2])) (zbc L ha)).1
def kai.setSlot(G:kai H H' Ms ts rs){i j:Nat}{M:Tb}{ras:List Addr}{t p:Addr}{xs:List Nb}(hM:Ms[i]?=some M)(ht:ts[i]?=some t)(L:rs[i]?=some ras)(hj:j<ras.length)(hp:kaq H' xs p)(fp:H p=none)(np:p∉ts)(nr:∀ ras∈rs,p∉ras) :
  kai H (upd H' t (.lst ((ras.set j p).map V.ref))) (Ms.set i (M.set j xs)) ts (rs.set i (ras.set j p)):=by
 have tm:=we ht;have rm:=we L;have T0:=G.tabs i M t ras hM ht L;have li:=(wu.mp L).1;have lM:=(wu.mp hM).1;have pt:p≠t:=λe=>np (by rw[e];exact tm)
 have mem':∀ x∈rs.set i (ras.set j p),∀ a∈x,a=p\/∃ y∈rs,a∈y:=λx J a ha=>by
  rcases zO J with e|e
  ·subst e
   rcases zO ha with e|e
   ·exact .inl e
   ·exact .inr (ras,rm,e)
  ·exact .inr (x,e,ha)
 have adr':∀ i' j',adr (rs.set i (ras.set j p)) i' j'=if i'=i/\j'=j then some p else adr rs i' j':=λi' j'=>by
  unfold adr;rw[vA]
  by_cases e:i'=i
  ·subst e;rw[bw rfl,bw li,L];show(ras.set j p)[j']?=if i'=i'/\j'=j then some p else ras[j']?
   rw[vA]
   by_cases ej:j'=j
   ·subst ej;rw[bw rfl,bw hj,bw (V,V)]
   ·rw[bx (Ne.symm ej),bx (λh=>ej h.2)]
  ·rw[bx (Ne.symm e),bx (λh=>e h.1)]
 have notp:∀ i' j' a,adr rs i' j'=some a->a≠p:=λi' j' a h e=>by
  obtain⟨x,J,hx'⟩:=XC h;exact nr x (we J) (by rw[← e];exact we hx')
 refine(yp G.same (G.frt t tm),by rw[vv];exact G.lt,by rw[vv,vv];exact G.lr,λi' M' t' ras' h1 h2 h3=>?_,G.frt,λx J a ha=>?_,G.nd,λx J y hy hm=>?_,λi1 j1 i2 j2 a h1 h2=>?_)
 ·by_cases e:i'=i
  ·subst e;rw[ht]at h2;cases h2;rw[vA,bw rfl,bw lM]at h1;rw[vA,bw rfl,bw li]at h3;cases h1;cases h3;refine(zd,jN (by rw[vv,vv];exact zf T0.2) λj' x' a' e1 e2=>?_)
   by_cases ej:j'=j
   ·subst ej;rw[vA,bw rfl,bw (by rw[zf T0.2];exact hj)]at e1;rw[vA,bw rfl,bw hj]at e2;cases e1;cases e2;exact hp.upd pt T0.1
   ·rw[vA,bx (Ne.symm ej)]at e1 e2;exact(xw T0.2 e1 e2).upd (λz=>G.sep t tm ras rm (by rw[← z];exact we e2)) T0.1
  ·rw[vA,bx (Ne.symm e)]at h1 h3;have n1:t'≠t:=λz=>e (by
    subst z;exact(gy (wu.mp h2).1 G.nd).mp (h2.trans ht.symm))
   exact(G.tabs i' M' t' ras' h1 h2 h3).upd n1 (G.sep t tm ras' (we h3)) T0.1
 ·rcases mem' x J a ha with e|⟨y,hy,hay⟩
  ·rw[e];exact fp
  ·exact G.frr y hy a hay
 ·rcases mem' y hy x hm with e|⟨z,hz,hxz⟩
  ·exact np (by rw[← e];exact J)
  ·exact G.sep x J z hz hxz
 ·rw[adr']at h1 h2
  by_cases c1:i1=i/\j1=j
  ·rw[bw c1]at h1;cases h1
   by_cases c2:i2=i/\j2=j
   ·exact(c1.1.trans c2.1.symm,c1.2.trans c2.2.symm)
   ·rw[bx c2]at h2;exact bK rfl (notp _ _ _ h2)
  ·rw[bx c1]at h1
   by_cases c2:i2=i/\j2=j
   ·rw[bw c2]at h2;cases h2;exact bK rfl (notp _ _ _ h1)
   ·rw[bx c2]at h2;exact G.inj _ _ _ _ _ h1 h2
end
def zcl:∀ {ns:List Int} {its:List ca},Vals (ns.map V.int) its->IntsAre its ns
 | [],_,h=>by cases h;exact .nil
 | n::ns,_,h=>by
  cases h with
  | cons r t =>
   obtain⟨tk,e⟩:=r;subst e;exact .cons n tk (zcl t)
def QE:∀ {ns:List Int} {its:List ca},IntsAre its ns->Vals (ns.map V.int) its
 | _,_,.nil=>.nil
 | _,_,.cons n tk t=>.cons (tk,V) (QE t)
section
variable{K:bv}
def Zd:kaB X (.builtin "sorted") (λxs H Q=>∃ p ns,xs=[.ref p]/\SqL X.K H p ((ns:List Int).map V.int)/\ns.length<64/\∀ l (ns':List Int),H l=none->ns'.Perm ns->ns'.Pairwise (·<=·)->Q (.ref l) (upd H l (.lst (ns'.map V.int)))):=by
 intro pins s E H xs us Q I r h;obtain⟨p,ns,rfl,hq,h64,q⟩:=h;obtain⟨u,rfl,rx⟩:=vals1 r;cases rx;obtain⟨its,r',pl,hz⟩:=I.list hq;have hl:=r'.length;rw[wa]at hl;refine sorted_ints pl.isList (zcl r') () λout ns' a1 a2 a3=>?_
 obtain⟨e,he⟩:=sortedAll_at s.heap its out;have hl':=(QE a1).length;rw[wa]at hl';have hp:=a2.length_eq;rw[wa]at hz;refine(.ref (s.heap.objs.size+1),_,I.laid (t':=s.toks) (λ_ _=>sortedAll_old) (uL _) (show ObjOk X.prog X.w _ _ _ (.lst (ns'.map V.int))from(by rw[wa];omega,out.toList,e,QE a1,he)),V,q _ ns' (I.hok.fresh (uL _)) a2 a3)
def Qm (hK:X.K=K):kaB X (.builtin "sorted") (λxs H Q=>∃ p ns,xs=[.ref p]/\SqL K H p ((ns:List Int).map V.int)/\ns.length<64/\∀ l (ns':List Int),H l=none->ns'.Perm ns->ns'.Pairwise (·<=·)->Q (.ref l) (upd H l (.lst (ns'.map V.int)))):=hK ▸ Zd
def zac (hK:X.K=K):kaB X (.type "tuple") (λxs H Q=>∃ p ys,xs=[.ref p]/\((SqL K H p ys/\∀ l,H l=none->Q (.ref l) (upd H l (.tup ys)))\/(SqT K H p ys/\Q (.ref p) H))):=hK ▸ Xv
inductive IntEs:List Expr->List Int->Prop
 | nil:IntEs [] []
 | cons {i:Int} {j:Nat} {pos:Pos} {es:List Expr} {ns:List Int}:IntEs es ns->IntEs (.Constant (.int i) j pos::es) (i::ns)
def tInts(ns:List Int):TA:=λ_ H Q=>Q (ns.map V.int) H
def zgV ns (h:IntEs es ns):PA X es (tInts ns):=by
 induction h with
 | nil=>exact zfI
 | @cons i j pos es ms _ ih=>exact zdr zfR ih rfl
end
end L2
namespace L2
open PySem PySem.Spec PyProof.Rows
def K0:bv:=[]
section
variable{K:bv}
def SqL.up(h:SqL K0 H a xs):SqL K H a xs:=by
 rcases h with h|⟨o,its,n,hl,_⟩
 ·exact .inl h
 ·cases hl
def SqT.up(h:SqT K0 H a xs):SqT K H a xs:=by
 rcases h with h|⟨o,its,n,hl,_⟩
 ·exact .inl h
 ·cases hl
def ziM(h:tyV K0 T x H):tyV K T x H:=by
 cases x with
 | ref p =>
  rcases h with⟨e,xs,J⟩|⟨e,o,ho,_⟩|h|h
  ·exact .inl (e,xs,J.up)
  ·cases ho
  ·exact .inr (.inr (.inl h))
  ·exact .inr (.inr (.inr h))
 | _=>exact h
def mo(t:TE):TE:=λE H Q=>∃ Q0:VK,t E H Q0/\∀ x H',Q0 x H'->Q x H'
def moA(t:TA):TA:=λE H Q=>∃ Q0:List V->Hp->Prop,t E H Q0/\∀ x H',Q0 x H'->Q x H'
def PE.mo(h:PE X e t):PE X e (mo t):=λpins s E H Q I ⟨Q0,h0,hq⟩ =>
 thn (h pins s E H Q0 I h0) λv s1 ⟨x,H1,I1,r,q⟩=>(x,H1,I1,r,hq x H1 q)
def PA.mo(h:PA X es t):PA X es (moA t):=λpos pins s E H Q I ⟨Q0,h0,hq⟩ =>
 thn (h pos pins s E H Q0 I h0) λv s1 ⟨x,H1,I1,r,q⟩=>(x,H1,I1,r,hq x H1 q)
def zj:IxR X (rIxL K0):=λvalue slice pins s E H x y v u Q I rx ry ⟨p,xs,i,w,e1,e2,h,e3,q⟩ hs =>
 zg3 value slice pins s E H x y v u Q I rx ry (p,xs,i,w,e1,e2,h.up,e3,q) hs
def zi:IxR X (rIxT K0):=λvalue slice pins s E H x y v u Q I rx ry ⟨p,xs,i,w,e1,e2,h,e3,q⟩ hs =>
 zhB value slice pins s E H x y v u Q I rx ry (p,xs,i,w,e1,e2,h.up,e3,q) hs
def yK:SlR X (rSlL K0):=λpins s E H x v vl vu lo hi sl Q I rx hs p1 p2 ⟨a,xs,e,h,q⟩ =>
 zb5 pins s E H x v vl vu lo hi sl Q I rx hs p1 p2 (a,xs,e,h.up,q)
inductive ILen(xs:List V)(H:Hp)(Q:VK):Prop where
 | mk (p:Addr) (ys:List V) (e:xs=[.ref p]) (h:SqL K0 H p ys\/SqT K0 H p ys) (q:Q (.int (ys.length:Int)) H):ILen xs H Q
def zb6:kaB X (.builtin "len") ILen :=
 λpins s E H xs us Q I vs ⟨p,ys,e,h,q⟩=>zc4 rfl pins s E H xs us Q I vs (p,ys,e,h.imp SqL.up SqT.up,q)
def zbH:kaB X (.type "list") (λxs H Q=>∃ p ys,xs=[.ref p]/\(SqL K0 H p ys\/SqT K0 H p ys)/\∀ l,H l=none->Q (.ref l) (upd H l (.lst ys))) :=
 λpins s E H xs us Q I vs ⟨p,ys,e,h,q⟩=>zbY rfl pins s E H xs us Q I vs (p,ys,e,h.imp SqL.up SqT.up,q)
def zcB (hc:X.calm=true):kaB X (.builtin "sum") (λxs H Q=>∃ p ns,xs=[.ref p]/\SqL K0 H p (Gr V.int ns)/\Q (.int ns.sum) H) :=
 λpins s E H xs us Q I vs ⟨p,ys,e,h,q⟩=>zcg hc rfl pins s E H xs us Q I vs (p,ys,e,h.up,q)
def Qr:kaB X (.builtin "sorted") (λxs H Q=>∃ p ns,xs=[.ref p]/\SqL K0 H p (Gr V.int ns)/\ns.length<64/\∀ l (ns':List Int),H l=none->ns'.Perm ns->ns'.Pairwise (·<=·)->Q (.ref l) (upd H l (.lst (ns'.map V.int)))) :=
 λpins s E H xs us Q I vs ⟨p,ys,e,h,q⟩=>Qm rfl pins s E H xs us Q I vs (p,ys,e,h.up,q)
def QU:kaB X (.type "tuple") (λxs H Q=>∃ p ys,xs=[.ref p]/\((SqL K0 H p ys/\∀ l,H l=none->Q (.ref l) (upd H l (.tup ys)))\/(SqT K0 H p ys/\Q (.ref p) H))) :=
 λpins s E H xs us Q I vs ⟨p,ys,e,h⟩=>zac rfl pins s E H xs us Q I vs (p,ys,e,h.imp (λh=>(h.1.up,h.2)) (λh=>(h.1.up,h.2)))
def zcc:OpR X (cV .NotIn) (rIn K0 true):=λpins s E H x y v u Q I rx ry ⟨p,xs,e,h,q⟩ =>
 zcN rfl pins s E H x y v u Q I rx ry (p,xs,e,h.imp SqL.up SqT.up,q)
def Yh{pos:Pos}{k:Nat} n (hc:X.calm=true) (hg:PGs X es t) (hn:(cy es X.env).length=n:=by rfl) (hs:(cy es X.env).findIdx? (λx=>x.fst)=none:=by rfl):PG X (.Tuple es k pos) (gTup K0 n t) :=
 λpins s E H v u Q I r ⟨a,xs,e,h,l,q⟩=>zg2 n rfl hc hg hn hs pins s E H v u Q I r (a,xs,e,h.up,l,q)
def zhe{pos:Pos}{k:Nat} n (hc:X.calm=true) (hg:PGs X es t) (hn:(cy es X.env).length=n:=by rfl) (hs:(cy es X.env).findIdx? (λx=>x.fst)=none:=by rfl):PG X (.Tuple es k pos) (gLst K0 n t) :=
 λpins s E H v u Q I r ⟨a,xs,e,h,q⟩=>zg1 n rfl hc hg hn hs pins s E H v u Q I r (a,xs,e,h.up,q)
structure It.le(J0 bN:It):Prop where
 go:∀ i H,J0.go i H->bN.go i H
 stop:∀ i H,J0.stop i H->bN.stop i H
 yld:∀ i H x H',bN.yld i H x H'->J0.yld i H x H'
def Turn.weaken(T:Turn P w K tg bN fp it tn)(l:It.le J0 bN):Turn P w K tg J0 fp it tn where
 mem:=T.mem
 obj:=T.obj
 keep:=T.keep
 self:=T.self
 item:=λX p1 p2 p3 p4 i pins s E H bP I f t g=>thn (T.item X p1 p2 p3 p4 i pins s E H bP I f t (l.go i H g)) λr s1 ⟨u,e,hw⟩=>(u,e,thn hw λ_ s2 ⟨x,H',a,b,y,c⟩=>(x,H',a,b,l.yld _ _ _ _ y,c))
 done:=λX p1 p2 p3 p4 i pins s E H bP I f t g=>T.done X p1 p2 p3 p4 i pins s E H bP I f t (l.stop i H g)
def zhz a:It.le (Itl K0 a) (Itl K a):=(λi H ⟨xs,x,h,e⟩=>(xs,x,h.up,e),λi H ⟨xs,h,e⟩=>(xs,h.up,e),λi H x H' ⟨e,h⟩=>(e,λxs J=>h xs J.up))
def zh5 a b:It.le (Itz K0 a b) (Itz K a b):=(λi H ⟨xs,ys,x,y,h,h2,e⟩=>(xs,ys,x,y,h.up,h2.up,e),λi H ⟨xs,ys,h,h2,e⟩=>(xs,ys,h.up,h2.up,e),
 λi H v H' ⟨T,x,y,e1,e2,e3,h1,h2⟩=>(T,x,y,e1,e2,e3,λxs J=>h1 xs J.up,λys hy=>h2 ys hy.up))
def zf6(h:PIE X pins E tg (λbN H=>∃ J0,It.le J0 bN/\R J0 H) itv s):PIE X pins E tg R itv s:=by
 obtain⟨it,fp,tn,bN,H',e,I2,T,t0,fo,J0,l,q⟩:=h;exact(it,fp,tn,J0,H',e,I2,T.weaken l,t0,fo,q)
def zo(hl:PE X l tl):PI X tg l (iList K0 tl):=λpins s E H R I h =>
 thn (zhu hl.mo pins s E H (λbN H=>∃ J0,It.le J0 bN/\R J0 H) I (_,h,λx H1 ⟨a,e,⟨xs,J⟩,q⟩=>(a,e,(xs,J.up),_,zhz a,q))) λ_ _ hw=>thn hw λ_ _ hp=>zf6 hp
def zgA {p pos:Pos} {elts:List Expr} {k1:Nat} {tpos:Pos} (hg:Gl X "zip") (hm:X.mg "zip" = none) (ha:PA X [a,b] ta) (hs:cu [a,b] X.env=[(false,eval a X.env),(false,eval b X.env)]:=by rfl) (hs2:cu [b] X.env=[(false,eval b X.env)]:=by rfl) :
  PI X (.Tuple elts k1 tpos) (.Call (.Name "zip" p) [a,b] [] pos) (iZip K0 ta):=λpins s E H R I h =>
 thn (zih hg hm ha.mo hs hs2 pins s E H (λbN H=>∃ J0,It.le J0 bN/\R J0 H) I (_,h,λx H1 ⟨a,b,xs,ys,e,J,hy,q⟩=>(a,b,xs,ys,e,J.up,hy.up,_,zh5 a b,q))) λ_ _ hw=>thn hw λ_ _ hp=>zf6 hp
def bm0(h:∀ to',PE X o to'->PE X e' (tBM X.K T r to' t))(ho:PE X o to):PE X e' (tBM K0 T r to t):=λpins s E H Q I hh =>
 h (mo to) ho.mo pins s E H Q I (_,hh,λx H1 ⟨a,b⟩=>(ziM a,b))
end
section
def zjj(L:IxR X r)(ha:PE X a ta)(hb:PE X b tb)(hs:PlainIx b:=by exact λ_ _=>rfl):PE X (.Subscript a b pos) (tOp r ta tb):=zju L ha hb hs
end
section
inductive IAll(xs:List V)(H:Hp)(Q:VK):Prop where
 | mk (p:Addr) (bs:List Bool) (e:xs=[.ref p]) (h:H p=some (.lst (bs.map V.bl))) (q:Q (.bl (bs.all id)) H):IAll xs H Q
def zeb(bs:List Bool):∀ n,n=bs.length->(wY n).all (λi=>bs.getD i true)=bs.all id:=by
 intro n e;subst e;rw[uO,ul,ul];refine(λh x J=>?_,λh i hi=>?_)
 ·obtain⟨i,hi,rfl⟩:=wD J;have:=h i (wP.mpr hi)
  simpa [uG,hi] using this
 ·have hi':=wP.mp hi;have:=h bs[i] (wk hi')
  simpa [uG,hi'] using this
def zdx (hc:X.calm=true):kaB X (.builtin "all") IAll:=by
 intro pins s E H xs us Q I r h;obtain⟨p,bs,rfl,hq,q⟩:=h;obtain⟨u,rfl,ru⟩:=Vals.one r;cases ru;obtain⟨its,rv,pl,_⟩:=I.list (SqL.of hq);have hh:X.A.in1.handled=none:=I.ok.hd hc;have lt:= let ⟨_,e,_⟩:=pl.isList;Heap.lt_size e
 have hl:its.length=bs.length:=by rw[← rv.length,wa]
 refine call_all_walk (cO pl.isList ?_);refine(s.heap.objs.size,_,_,_,_,_,λi=>bs.getD i true,V,Walks.list hh s.heap.objs.size p (vf lt) its.toArray,((_,Heap.get?_push_size _ rfl,V,V),pl.isList.at λo e=>Heap.get?_push_of_some _ e),λi v s' Q' E' hv hQ=>?_,λh' tk keep=>?_)
 ·have hv':its[i]?=some v:=by simpa using hv
  have hi:i<bs.length:=by rw[← hl];exact(wu.mp hv').1
  obtain⟨u,hu,ru⟩:=rv.get (by rw[wg,wb hi];rfl);rw[hu]at hv';cases hv';cases ru;refine cw ?_
  simpa [uG,hi] using hQ
 ·rw[zeb bs _ (by rw[wV];exact hl)];refine(.bl (bs.all id),H,?_,V,q);exact I.kept (h':=h') (t':=tk) λb o eb=>keep b o (by simp only[wN,vH,or_false];exact vf (Heap.lt_size eb)) (Heap.get?_push_of_some _ eb)
end
end L2
namespace La
open Lean.Grind Nm
section
variable{F:Type}[Field F]{O:Kf k F}
structure Gj(O:Kf k F)(n c:Nat)(M told left:Tb)(ls:List Nat):Prop where
 okt:OkM k n told
 okl:OkM k n left
 len:ls.length=told.length
 rr:Rr n (ls.zip (told.map (nv O)))
 lt:∀ l∈ls,l<c
 zl:∀ r∈left,∀ j,j<c->nv O r j=0
 sp:∀ v,Rm O (told++left) v↔Rm O M v
def Gj.start(oM:OkM k n M):Gj O n 0 M [] M [] where
 okt:=λ_ h=>(nomatch h)
 okl:=oM
 len:=rfl
 rr:=by
  exact(.nil,(λ_ h=>nomatch h),(λ_ h=>nomatch h),(λ_ h=>nomatch h),(λ_ h=>nomatch h),(λ_ h=>nomatch h))
 lt:=λ_ h=>(nomatch h)
 zl:=λ_ _ _ h=>bK h (vN _)
 sp:=λ_=>Iff.rfl
def Gj.done(G:Gj O n c M told left ls)(h:left=[]\/n<=c):IsR O n told ls/\∀ v,Rm O told v↔Rm O M v:=by
 refine((G.okt,G.len,G.rr),λv=>?_);rw[← G.sp v];have z:∀ r∈left,∀ i,nv O r i=0:=λr L i=>by
  rcases h with h|h
  ·rw[h]at L;exact nomatch L
  ·rcases wH i c with g|g
   ·exact G.zl r L i g
   ·exact zY O (by rw[(G.okl r L).1];omega)
 constructor
 ·exact λq=>q.mono λr ⟨x,J,e⟩=>(x,wO _ J,e)
 ·intro q;obtain⟨a,b,ha,hb,ev⟩:=Rm.app.mp q;have zb:= λi=>hb.zero_at λr ⟨x,J,e⟩=>by rw[e];exact z x J i
  exact ha.cast λi=>by rw[ev i,zb i];grind
def xM(Z:kab k){A B:Tb}(oA:OkM k n A)(lA:A.length=n)(oB:OkM k n B)(n1:1<=n)(v:Nat->F):Rm O (kry k A B n) v->Rm O (kry k A B (n - 1)) v:=by
 by_cases h:∃ s,s<n/\∀ v,Rm O (kry k A B (s+1)) v->Rm O (kry k A B s) v
 ·obtain⟨s,hs,st⟩:=h;intro hv;have h1:=Xx Z oA lA oB st (n - s) v (by rw[show s +(n - s)=n by omega];exact hv);have h2:=jC Z oA lA oB s (n - 1 - s) v h1;rw[show s +(n - 1 - s)=n - 1 by omega]at h2;exact h2
 ·exfalso
  have key:∀ t,t<=n->∀ R ls,kap O n (kry k A B t) R ls->t+1<=R.length:=by
   intro t
   induction t with
   | zero =>
    intro _ R ls hR;refine Nat.succ_le_of_lt (Nat.pos_of_ne_zero λe=>h (0,(),λv hv=>?_));have eR:= vB e;subst eR;have zB:∀ u,Rm O B u->∀ i,u i=0:=λu hu i=>(hR.to u hu).zero_at λr ⟨x,J,_⟩=>nomatch J
    have hv':= hv;obtain⟨a,b,ha,hb,ev⟩:=Rm.app.mp hv';obtain⟨u,hu,eu⟩:=(Rm.img Z oA oB).mp hb;have:∀ i,b i=0:=λi=>by
     rw[eu i,show u =(λ_=>0)from funext (zB u hu)];exact jY A i
    exact Span.cast ha λi=>by rw[ev i,this i];grind
   | succ t ih =>
    intro ht R ls hR;obtain⟨R',ls',hR'⟩:=yA O Z (yq Z oA lA oB t);have h1:=ih () R' ls' hR';have sub:=hR'.toIsR.sub_len hR.toIsR λv hv=>hR.to v (qe Z oA lA oB t v (hR'.fro v hv))
    rcases wH R'.length R.length with g|g
    ·omega
    ·exact bK (t,(),λv hv=>hR'.fro v (sub.2 g v (hR.to v hv))) h
  obtain⟨R,ls,hR⟩:=yA O Z (yq Z oA lA oB n);have h1:=key n (ww _) R ls hR;have h2:ls.length<=n:=by
   have:=L2.qI hR.toIsR.inc (λx J=>(vI _,(by
    obtain⟨i,r,e1,e2⟩:=hR.toIsR.lead_of J;exact hR.rr.lt _ (hR.toIsR.get e1 e2):x<n))) (vI _)
   omega
  have:=hR.len;omega
end
end La
namespace L2
open PySem PySem.Spec PyProof.Rows Nm
def nulT(k:Int)(r c:Nat):Tb:=wL r (wL c (nnum k 0))
def zbf(Z:kab k) r c:TOk k r c 61 (nulT k r c):=by
 refine(by unfold nulT;simp,λq hq=>?_,λq hq x J=>?_)
 all_goals
  unfold nulT at hq;rw[vF hq]at *
 ·exact(by simp,ZB Z c)
 ·rw[vF J];exact xq Z (xp 61) ()
def qd(h:i<r):(nulT k r c)[i]?=some (wL c (nnum k 0)):=by unfold nulT;rw[vU,bw h]
def ze1(Z:kab k) n:TOk k n n 61 (kam k n):=by
 refine((zW Z n).2,(zW Z n).1,λq hq x J=>?_);unfold kam at hq;obtain⟨i,_,rfl⟩:=wj.mp hq;unfold kak at J;obtain⟨j,_,rfl⟩:=wj.mp J
 split
 ·exact xq Z (sm_one.mono ()) ()
 ·exact xq Z (xp 61) ()
def zcA(hM:TOk k r c m M)(hN:TOk k r' c m N):TOk k (r+r') c m (M++N) :=
 (by rw[wy,hM.len,hN.len],λq hq=>(wp.mp hq).elim (hM.ok q) (hN.ok q),λq hq=>(wp.mp hq).elim (hM.sz q) (hN.sz q))
def yR(hA:A.length=r)(hB:B.length=r):(augM A B).length=r:=by unfold augM;rw[vd];omega
def zgZ:imgM k (A++B) x=imgM k A x++imgM k B x:=wv
def zgi(lM:M.length=r)(lN:N.length=r)(h:∀ i,i<r->∃ a b,M[i]?=some a/\N[i]?=some b/\ndot k a x=ndot k b y):imgM k M x=imgM k N y:=by
 refine uR λi=>?_
 unfold imgM;rw[wg,wg]
 rcases wH i r with hi|hi
 ·obtain⟨a,b,ha,hb,e⟩:=h i hi;rw[ha,hb];exact congrArg some e
 ·rw[wK (),wK ()];rfl
def Grow.addR(G:Grow H H1 M ras)(g:Same H1 H2)(L:kaq H2 xs p)(hp:H1 p=none):Grow H H2 (M++[xs]) (ras++[p]):=by
 refine(G.same.trans g,zJ (G.mono g).rows L,λr hr'=>?_,?_)
 ·rcases wp.mp hr' with h|h
  ·exact G.fr r h
  ·rw[wx.mp h];exact G.same.none hp
 ·rw[gW];refine(G.nd,by simp,λa ha b hb=>?_);rw[wx.mp hb];exact λe=>G.not_mem hp (by rw[← e];exact ha)
def zct{H:Hp}{M N:Tb}{t1 t2 t:Addr}{r1 r2:List Addr}(h1:kac H M t1 r1)(h2:kac H N t2 r2)(ht:H t=none):kac (upd H t (.lst (r1.map V.ref++r2.map V.ref))) (M++N) t (r1++r2):=by
 have g:=zc ht (.lst (r1.map V.ref++r2.map V.ref));exact(by rw[zd,wv],xV (h1.mono g).2 (h2.mono g).2)
def NewT.app(g0:Same H H1)(n1:NewT H H1 M t1 r1)(g:Same H1 H2)(n2:NewT H1 H2 N t2 r2)(ht:H2 t=none):NewT H (upd H2 t (.lst (r1.map V.ref++r2.map V.ref))) (M++N) t (r1++r2):=by
 refine(zct (n1.tab.mono g) n2.tab ht,g0.none (g.none ht),λr L=>?_,?_,λh=>?_)
 ·rcases wp.mp L with h|h
  ·exact n1.fr r h
  ·exact g0.none (n2.fr r h)
 ·rw[gW];refine(n1.nd,n2.nd,λa ha b hb e=>?_);obtain⟨o,ho⟩:=n1.tab.rsome ha;rw[e,n2.fr b hb]at ho;cases ho
 ·rcases wp.mp h with h|h
  ·obtain⟨o,ho⟩:=(n1.tab.mono g).rsome h;rw[ht]at ho;cases ho
  ·obtain⟨o,ho⟩:=n2.tab.rsome h;rw[ht]at ho;cases ho
structure FrT(H:Hp)(t:Addr)(ras:List Addr):Prop where
 top:H t=none
 rows:∀ r∈ras,H r=none
structure NewM(H H':Hp)(A B C:Tb)(p ta tb tc:Addr)(ra rb rc:List Addr):Prop where
 same:Same H H'
 mach:kaj H' A B C p ta tb tc ra rb rc
 fa:FrT H ta ra
 fb:FrT H tb rb
 fc:FrT H tc rc
section
variable(Z:kab k)
def kas(k:Int)(n m:Nat)(A A':Tb):Tb:=augM A (nulT k n m)++augM (nulT k m n) A'
include Z
theorem zeO(m7:61<=m)(hA:TOk k n n m A)(hA':TOk k n' n' m A'):TOk k (n+n') (n+n') m (kas k n n' A A') :=
 zcA (Xz hA ((zbf Z n n').up m7)) (Xz ((zbf Z n' n).up m7) hA')
theorem xC(m7:61<=m)(M1:MOk k n h s m A B C)(M2:MOk k n' h s m A' B' C'):MOk k (n+n') h s m (kas k n n' A A') (B++B') (augM C C') :=
 (zeO Z m7 M1.a M2.a,zcA M1.b M2.b,Xz M1.c M2.c)
end
end L2
namespace L2
open PySem PySem.Spec PyProof.Rows Nm La Lean.Grind
end L2
namespace L2
open PySem PySem.Spec PyProof.Rows
end L2
namespace L2
open PySem PySem.Spec PyProof.Rows Nm La Lean.Grind
def ZF{α:Type}[DecidableEq α] f (h:∀ x y,PyData.eqv (f x) (f y)=decide (x=y)):∀ l l':List α,PyData.eqvAll (l.map f) (l'.map f)=decide (l=l')
 | [],[]=>rfl
 | [],_::_=>rfl
 | _::_,[]=>rfl
 | x::l,y::l'=>by
  show(PyData.eqv (f x) (f y) && PyData.eqvAll (l.map f) (l'.map f))=_;rw[h,ZF f h l l',uO];simp
def zeK xs ys:PyData.eqv (rowD xs) (rowD ys)=decide (xs=ys):=ZF toD jQ xs ys
def zes M N:PyData.eqv (tabD M) (tabD N)=decide (M=N):=ZF rowD zeK M N
end L2
open PySem PySem.Spec PyProof.Rows
namespace L2
end L2
namespace L2
open PySem PySem.Spec PyProof.Rows Nm
def zhY xs (i j:Nat):cutV xs (some (i:Int)) (some (j:Int)) =(xs.drop i).take (j - i):=by
 unfold cutV;rw[HT.jh,HT.jh]
 rcases wH i xs.length with h|h
 ·rw[gv (vT h)]
  rcases waP j xs.length with h2|h2
  ·rw[gv h2]
  ·rw[Gy h2,wm (by rw[ue];omega),wm (by rw[ue];omega)]
 ·rw[Gy h,gi (ww _),gi h];simp
section
variable{K:bv}{g:TG}{tt:TT}{te:TE}{R:List V->Hp->Prop}
def zek{a b:Addr}{xs zs:List V}(n:Nat)(hn:n=min xs.length zs.length)(bN:Nat->List V->Hp->Prop)(h0:bN 0 [] H)(hl:∀(i:Nat)(ys:List V)(H':Hp),i<=n->bN i ys H'->SqL K H' a xs/\SqL K H' b zs/\ys.length<sizeLine)
  (hs:∀(i:Nat)(x z:V)(T:Addr)(ys:List V)(H':Hp),xs[i]?=some x->zs[i]?=some z->i<n->H' T=none->bN i ys H'->g (.ref T) σb (upd H' T (.tup [x,z])) λσ2 H2=>tt σ2 H2 λb H3=>if b=true then te σ2 H3 λy H4=>Nxt n i (bN (i+1) (ys++[y]) H4)else Nxt n i (bN (i+1) ys H3))
  (hd:∀(ys:List V)(H':Hp),bN n ys H'->R ys H') :
  ∃ W:Nat->Nat->List V->Hp->Prop,(∃ m,W 0 m [] H)/\∀ i m ys H,W i m ys H ->
   ((Itz K a b).stop i H/\ys.length<=sizeLine/\R ys H) \/
   ((Itz K a b).go i H/\ys.length<sizeLine/\∀ x H',(Itz K a b).yld i H x H'->g x σb H' λσ2 H2=>tt σ2 H2 λb H3=>if b=true then te σ2 H3 λy H4=>∃ m',m'<m/\W (i+1) m' (ys++[y]) H4 else ∃ m',m'<m/\W (i+1) m' ys H3):=by
 refine(λi m ys H=>m=n - i/\i<=n/\bN i ys H,(n,by simp,vI _,h0),?_)
 rintro i m ys H1 ⟨rfl,hi,j⟩
 obtain⟨q1,q2,hz⟩:=hl i ys H1 hi j
 by_cases hlt:i<n
 ·have l1:i<xs.length:=by omega
  have l2:i<zs.length:=by omega
  refine .inr ((xs,zs,xs[i],zs[i],q1,q2,by simp[l1],by simp[l2]),hz,λx H' y=>?_);obtain⟨T,u,v,rfl,hT,rfl,y1,y2⟩:=y;exact hs i u v T ys _ (y1 xs q1) (y2 zs q2) hlt hT j
 ·have e:i=n:=by omega
  subst e;refine .inl ((xs,zs,q1,q2,?_),vT hz,hd ys H1 j)
  rcases waP xs.length zs.length with h|h
  ·exact .inl ()
  ·exact .inr ()
end
def XF:∀(ws us:List Int),(vP (·*·) ws us).sum=rdot ws us
 | [],_=>by cases ‹List Int› <;> rfl
 | _::_,[]=>rfl
 | a::as,b::bs=>by
  show a*b +(vP (·*·) as bs).sum=a*b+rdot as bs;rw[XF as bs]
def zcv:∀ ws us,(∀ w∈ws,Sm m w)->(∀ w∈us,Sm m' w)->Sm (m+m'+ws.length) (rdot ws us)
 | [],us,_,_=>by cases us <;> exact xp _
 | _::_,[],_,_=>xp _
 | a::as,b::bs,h1,h2=>by
  have ih:=zcv as bs (λw hw=>h1 w (wt _ hw)) (λw hw=>h2 w (wt _ hw));exact(((h1 a wo).mul (h2 b wo)).mono (wad _ _)).add ih
def ITab(H:Hp)(W:List (List Int))(t:Addr)(ls:List Addr):Prop:=H t=some (.lst (ls.map V.ref))/\Paired (IRow H) W ls
def ITab.mono(h:ITab H W t ls)(g:Same H H'):ITab H' W t ls:=(g _ _ h.1,yC (λ_ _ r=>r.mono g) h.2)
def ITab.row(h:ITab H W t ls){i:Nat}(e:(ls.map V.ref)[i]?=some v):∃ ws a,W[i]?=some ws/\ls[i]?=some a/\v=.ref a/\IRow H ws a:=by
 rw[wg]at e;obtain⟨a,ha,rfl⟩:=wG.mp e;obtain⟨ws,hw,r⟩:=zK h.2 ha;exact(ws,a,hw,ha,V,r)
def ITab.snoc(h:Paired (IRow H) W ls)(g:Same H H')(r:IRow H' ws a):Paired (IRow H') (W++[ws]) (ls++[a]):=zJ (yC (λ_ _ r=>r.mono g) h) r
def subR(k:Int)(xs ys:List Nb):List Nb:=vP (nsub k) xs ys
def zerN(k:Int)(n:Nat):List Nb:=wL n (nnum k 0)
section
variable(Z:kab k)
include Z
theorem QD(ox:OkR k x)(oy:OkR k y):OkR k (subR k x y):=λz hz=>by
 unfold subR at hz;rw[← List.map_uncurry_zip_eq_zipWith]at hz;obtain⟨⟨a,b⟩,hp,rfl⟩:=wj.mp hz;exact Zx Z.lt.1 (ox _ (vt hp).1) (oy _ (vt hp).2)
theorem sub_len(h:x.length=y.length):(subR k x y).length=x.length:=by unfold subR;rw[vd];omega
section
variable(oA:OkM k n A)(lA:A.length=n)
include oA lA
theorem zF(ox:OkR k x)(lx:x.length=n):∀ i,OkR k (powX k A x i)/\(powX k A x i).length=n
 | 0=>(ox,lx)
 | i+1=>by
  obtain⟨o,l⟩:=zF ox lx i;obtain⟨a,b⟩:=jJ Z oA o;exact(b,a.trans lA)
end
theorem zb2(ox:OkR k x)(oy:OkR k y)(h:x.length=y.length):ndot k x y=ndot k y x:=by
 obtain⟨F,_,_,⟨O⟩⟩:=zw Z;refine O.inj (zN Z ox oy) (zN Z oy ox) ?_;rw[zP O Z ox oy h,zP O Z oy ox h.symm,h,zp]
theorem Zr(z7:61<=z)(hA:TOk k n n z A)(hC:TOk k s n z C):∀ i,kax k n A C i=C.map λc=>powX k (kaa n A) c i
 | 0=>(wbm _).symm
 | i+1=>by
  have oL:=ZD Z z7 hA hC i;show(kax k n A C i).map (λr=>(kaa n A).map λcol=>ndot k r col)=_;have e:∀ r∈kax k n A C i,((kaa n A).map λcol=>ndot k r col)=imgM k (kaa n A) r:=λr L=>by
   unfold imgM;refine vM λcol hc=>?_
   have oc:=zg hA.ok col hc;exact zb2 Z (oL.ok r L).2 oc.2 (by rw[(oL.ok r L).1,oc.1,hA.len])
  rw[vM e,Zr z7 hA hC i,vV];rfl
end
end L2
inductive Ze2{a b}(p:a->b->Prop):Prop|mk x y:p x y->Ze2 p
inductive Ze3{a b c}(p:a->b->c->Prop):Prop|mk x y z:p x y z->Ze3 p
inductive Ze5{a b c d e}(p:a->b->c->d->e->Prop):Prop|mk x y z u v:p x y z u v->Ze5 p
inductive Za3(a b c:Prop):Prop|mk:a->b->c->Za3 a b c
inductive Za4(a b c d:Prop):Prop|mk:a->b->c->d->Za4 a b c d
inductive Za6(a b c d e f:Prop):Prop|mk:a->b->c->d->e->f->Za6 a b c d e f
local macro_rules | `(∃ $b:explicitBinders,$p)=>do
 let mut xs:Array (Lean.TSyntax `ident):=#[]
 let mut ts:Array (Option (Lean.TSyntax `term)):=#[]
 let b:=b.raw[0]
 if b.isOfKind `Lean.unbracketedExplicitBinders then
  let t:=if b[1].getNumArgs == 0 then none else some (Lean.TSyntax.mk b[1][1])
  for i in b[0].getArgs do
   xs:=xs.push (Lean.TSyntax.mk i[0])
   ts:=ts.push t
 else
  for g in b.getArgs do
   for i in g[1].getArgs do
    xs:=xs.push (Lean.TSyntax.mk i[0])
    ts:=ts.push (some (Lean.TSyntax.mk g[3]))
 if xs.any λx=>!x.raw.isIdent || ts.any λt=>(t.bind λt=>t.raw.find? (· == x.raw)).isSome then Lean.Macro.throwUnsupported
 let mut cs:Array Lean.Term:=#[]
 let mut q:Lean.Term:=p
 while q.raw.isOfKind `«term_/\_» do
  cs:=cs.push (Lean.TSyntax.mk q.raw[0])
  q:=Lean.TSyntax.mk q.raw[2]
 while cs.size > 0 do
  let k:=if cs.size ≥ 5 then 5 else if cs.size == 4 then 3 else cs.size
  let g:=(cs.extract (cs.size - k) cs.size).push q
  q ← match k with
   | 5=>`(Za6 $g*)
   | 3=>`(Za4 $g*)
   | 2=>`(Za3 $g*)
   | _=>`(And $g*)
  cs:=cs.extract 0 (cs.size - k)
 while xs.size > 0 do
  let k:=if xs.size ≥ 5 then 5 else if xs.size == 4 then 3 else xs.size
  for _ in [0:k] do
   q ← match ts.back! with
    | some t=>`(λ$(xs.back!):ident : $t=>$q)
    | none=>`(λ$(xs.back!):ident=>$q)
   xs:=xs.pop
   ts:=ts.pop
  q ← match k with
   | 5=>`(Ze5 $q)
   | 3=>`(Ze3 $q)
   | 2=>`(Ze2 $q)
   | _=>`(Exists $q)
 return q
namespace L2
open PySem PySem.Spec PyProof.Rows Nm
def zas(Z:kab k):∀(l:List (Nb×Nb)) s c,(∀ p∈l,dB D B p.1/\dB D' B' p.2/\p.1.ok k/\p.2.ok k)->s.ok k->dB (D*D') c s->dB (D*D') (c+l.length *(B*B')) (l.foldl (λs p=>nadd k s (nmul k p.1 p.2)) s)
 | [],s,c,_,_,h=>by rw[uI,GK];exact h
 | p::l,s,c,hp,os,h=>by
  obtain⟨h1,h2,o1,o2⟩:=hp p wo;have om:=yD Z o1 o2;have:=zas Z l (nadd k s (nmul k p.1 p.2)) (c+B*B') (λq hq=>hp q (wt _ hq)) (yt Z os om) (h.add (h1.mul h2 o1 o2) os om);rw[GD];refine this.mono ?_;rw[vO,vG,vL];omega
def XI(Z:kab k)(ox:OkR k x)(oy:OkR k y)(lx:x.length=n)(J:∀ u∈x,dB D B u)(hy:∀ u∈y,dB D' B' u):dB (D*D') (n *(B*B')) (ndot k x y):=by
 unfold ndot ndotF;have h:=zas Z (x.zip y) (nnum k 0) 0 (λp hp=>(J _ (vt hp).1,hy _ (vt hp).2,ox _ (vt hp).1,oy _ (vt hp).2)) (zD Z 0) (dB.num (by simp));refine h.mono ?_;rw[uk];refine wI _ ?_;rw[uy];omega
def zbi(Z:kab k)(n4:n<=4)(oA:OkM k n A)(d0:D≠0)(dl:D<2^T)(dA:∀ r∈A,La.rowD D T r)(ox:OkR k x)(J:rowB C x):rowB (T+C+2) (imgM k A x):=by
 obtain⟨d,e0,el,hd⟩:=J;have p1:=ud T;have p2:=ud C;have e:2^(T+C+2)=2^T*2^C*4:=by rw[vY,vY]
 have pm:0<2^T*2^C:=waz p1 p2;refine(D*d,gO d0 e0,?_,λy hy=>?_)
 ·rw[e];have:D*d<=2^T*2^C:=vm (vT dl) (vT el);omega
 ·unfold imgM at hy;obtain⟨r,L,rfl⟩:=wj.mp hy;refine(XI Z (oA r L).2 ox (oA r L).1 (dA r L) hd).mono ?_;rw[e];have h1:(2^T - 1) *(2^C - 1)<=(2^T - 1)*2^C:=wS _ ();have h2:(2^T - 1)*2^C=2^T*2^C - 2^C:=by rw[waA,vL]
  have h3:n *((2^T - 1) *(2^C - 1))<=4 *(2^T*2^C - 2^C):=vm n4 ();omega
def zcM{k:Int}{r n m:Nat}{M:Tb}(m1:1<=m)(h:TOk k r n m M):∃ D:Nat,D≠0/\D<2^(r *((n+1)*m)+1)/\∀ x∈M,La.rowD D (r *((n+1)*m)+1) x:=by
 obtain⟨D,d0,dl,hd⟩:=jH (k:=k) (n:=n) (xU m1 h);rw[h.len]at dl hd;have e:2^(r *((n+1)*m)+1)=2^(r *((n+1)*m))*2:=gY ..;have:=ud (r *((n+1)*m));exact(D,d0,(),λx J y hy=>(hd x J y hy).mono ())
def qj(k0:k≠0)(ox:OkR k x)(b1:1<=B):rowB B x:=zV k0 (λr L=>by rw[wx.mp L];exact(V,ox)) b1 x wo
def fit3(hf:Fit k n):n<=3\/k≠0:=by
 rcases hf.2 with h|h
 ·exact .inl h
 ·exact .inr h.1
def zfC(h:dB D (2^B - 1) x)(dl:d<2^C):dB (d*D) (2^C *(2^B - 1)) x:=h.up d (2^C) (vT dl)
def qp(Z:kab k)(ox:OkR k x)(h:rowB C x)(c7:61<=C):∀ y∈x,nsm C y:=je Z (λr L=>by rw[wx.mp L];exact(V,ox)) (λr L=>by rw[wx.mp L];exact h) c7 x wo
def XM:IsRa k n [] []:=λF _ O=>((Gj.start (O:=O) (M:=[]) (λ_ h=>nomatch h)).done (.inl rfl)).1
def qs(hb:b∈B):∀ t j,j<=t->powX k A b j∈kry k A B t
 | 0,0,_=>hb
 | 0,j+1,h=>by omega
 | t+1,0,_=>wO _ hb
 | t+1,j+1,h=>wF _ (wj.mpr (powX k A b j,qs hb t j (),V))
def za1{k:Int}(Z:kab k){n:Nat}{R W M:Tb}{lr lw:List Nat}{x:List Nb}(iR:IsRa k n R lr)(iW:IsRa k n W lw)(eR:kau k R (M++[x]))(eW:kau k W M):R.length=W.length↔∀(F:Type) [bu F] (O:Kf k F),Rm O M (nv O x):=by
 have mx:∀(F:Type) [bu F] (O:Kf k F),Rm O R (nv O x):=λF _ O=>(eR F O _).mpr (.of (x,wF _ wo,V))
 have sub:∀(F:Type) [bu F] (O:Kf k F) (v:Nat->F),Rm O W v->Rm O R v:=λF _ O v h=>(eR F O v).mpr (((eW F O v).mp h).mono λu ⟨r,L,e⟩=>(r,wO _ L,e))
 constructor
 ·intro h F _ O;exact(eW F O _).mp (((iW F O).sub_len (iR F O) (sub F O)).2 () _ (mx F O))
 ·intro h;have:R=W:=zal Z iR iW λF _ O v=>(λhv=>?_,sub F O v)
  ·rw[this]
  ·refine(eW F O v).mpr (((eR F O v).mp hv).bind λu ⟨r,L,e⟩=>?_)
   rcases wp.mp L with h'|h'
   ·exact .of (r,h',e)
   ·rw[wx.mp h']at e;rw[e];exact h F O
end L2
namespace L2
open Nm
end L2
namespace L2
open PySem PySem.Spec PyProof.Rows Nm
def ql{α:Type}[DecidableEq α] f (h:∀ x y,PyData.eqv (f x) (f y)=decide (x=y)):∀ l l':List α,PyData.eqvAll (l.map f) (l'.map f)=decide (l=l')
 | [],[]=>rfl
 | [],_::_=>rfl
 | _::_,[]=>rfl
 | x::l,y::l'=>by
  show(PyData.eqv (f x) (f y) && PyData.eqvAll (l.map f) (l'.map f))=_;rw[h,ql f h l l',uO];simp
def zdg M N:PyData.eqv (tabD M) (tabD N)=decide (M=N):=ql rowD (λxs ys=>ql toD jQ xs ys) M N
def Zh{ys:List β}(h:Paired R xs ys) n:Paired R (xs.take n) (ys.take n):=by
 have l:=zf h;refine jN (by rw[wr,wr,l]) λi x a h1 h2=>?_
 rw[gM]at h1 h2
 split at h1
 ·rename_i hi;rw[bw hi]at h2;exact xw h h1 h2
 ·cases h1
def yJ[bu F]{O:Kf k F}(Z:kab k)(oA:OkM k n A)(ox:OkR k x)(lx:x.length=n) i:nv O (imgM k A x) i=limg O n A (nv O x) i:=Jn Z oA ox lx i
def blkT(k:Int)(h:Nat)(A B:Tb):Nat->Tb
 | 0=>B
 | t+1=>kaf k h A (blkT k h A B t)
section
variable[bu F]
def Xl{u v:Nat->F}(h:∀ j,u j=v j) i:limg O n A u i=limg O n A v i:=by
 have:u=v:=funext h;rw[this]
variable(Z:kab k)(hM:MOk k n h s m A B C)
include Z hM
end
section
variable(Z:kab k)(hM:MOk k n h s m A B C)
def zgU:kaa h (kaf k h M N) =(kaa h N).map (imgM k M):=by
 refine uR λj=>?_
 rcases wH j h with hj|hj
 ·rw[yz hj,wg,yz hj];unfold kaf imgM;rw[vV];refine congrArg some (vM λr _=>?_);show((kaa h N).map λcol=>ndot k r col).getD j (.z 0)=_;rw[wc,wg,yz hj];rfl
 ·rw[wK (by rw[ze];exact hj),wK (by rw[wa,ze];exact hj)]
def zfF:∀ t,kaa h (blkT k h A B t) =(kaa h B).map λc=>powX k A c t
 | 0=>(wbm _).symm
 | t+1=>by
  show kaa h (kaf k h A (blkT k h A B t))=_;rw[zgU,zfF t,vV];rfl
include Z hM
theorem zgb:∀ t,OkM k h (blkT k h A B t)/\(blkT k h A B t).length=n
 | 0=>(hM.b.ok,hM.b.len)
 | t+1=>by
  obtain⟨o,l⟩:=zgb t;have oT:=zg o;rw[l]at oT;refine(λr L=>?_,by show(kaf k h A _).length=n;unfold kaf;rw[wa,hM.a.len]);have hr':r∈kaf k h A (blkT k h A B t):=L;unfold kaf at hr';obtain⟨a,ha,rfl⟩:=wj.mp hr';refine(by rw[wa,ze],λy hy=>?_);obtain⟨c,hc,rfl⟩:=wj.mp hy;exact zN Z (hM.a.ok a ha).2 (oT c hc).2
end
def whk(k:Int)(m:Nat)(x:Nb):Prop:=k=0->∃ i:Int,x=nnum k i/\i.natAbs<2^m
def whk.mono(h:whk k m x)(hm:m<=n):whk k n x:=λk0=>by
 obtain⟨i,e,hi⟩:=h k0;exact(i,e,ve hi (vh () hm))
def whk.szk(h:whk k m x)(m1:1<=m):szk k m x:=λk0=>by
 obtain⟨i,e,hi⟩:=h k0;subst k0;rw[e];exact(hi,sm_one.mono m1)
def whk.nsm(Z:kab k)(o:x.ok k)(h:whk k m x)(hm:m<=n)(h7:61<=n):nsm n x:=((h.mono hm).szk (wE () h7)).nsm Z o (ww _) h7
def xt(k0:k=0) i:nnum k i=.q (i:Rat):=by unfold nnum;rw[bw k0]
def zd5(ha:a<2^m)(hb:b<2^n):a+b<2^(max m n+1):=by
 have h1:2^m<=2^max m n:=vh () (Nat.le_max_left _ _);have h2:2^n<=2^max m n:=vh () (Nat.le_max_right _ _);rw[gY];omega
def zfi(ox:x.ok k)(oy:y.ok k)(sx:whk k m x)(sy:whk k n y):whk k (max m n+1) (nadd k x y):=λk0=>by
 obtain⟨i,rfl,hi⟩:=sx k0;obtain⟨j,rfl,hj⟩:=sy k0;refine(i+j,?_,uu (GT i j) (zd5 hi hj));rw[xt k0,xt k0,xt k0];show Nb.q ((i:Rat) +(j:Rat))=_;rw[wan]
def zfh(ox:x.ok k)(oy:y.ok k)(sx:whk k m x)(sy:whk k n y):whk k (max m n+1) (nsub k x y):=λk0=>by
 obtain⟨i,rfl,hi⟩:=sx k0;obtain⟨j,rfl,hj⟩:=sy k0;refine(i - j,?_,uu (waR i j) (zd5 hi hj));rw[xt k0,xt k0,xt k0];show Nb.q ((i:Rat) - (j:Rat))=_;rw[Rat.intCast_sub]
def XV(ox:x.ok k)(oy:y.ok k)(sx:whk k m x)(sy:whk k n y):whk k (m+n) (nmul k x y):=λk0=>by
 obtain⟨i,rfl,hi⟩:=sx k0;obtain⟨j,rfl,hj⟩:=sy k0;refine(i*j,?_,?_)
 ·rw[xt k0,xt k0,xt k0];show Nb.q ((i:Rat) *(j:Rat))=_;rw[vp]
 ·rw[vR,vY];exact wab hi hj
structure TW(k:Int)(r c m:Nat)(M:Tb):Prop where
 len:M.length=r
 ok:OkM k c M
 sz:∀ r∈M,∀ x∈r,whk k m x
def TW.up(h:TW k r c m M)(hm:m<=m'):TW k r c m' M:=(h.len,h.ok,λr L x J=>(h.sz r L x J).mono hm)
def TW.tok(Z:kab k)(h:TW k r c m M)(hm:m<=n)(h7:61<=n):TOk k r c n M:=(h.len,h.ok,λr L x J=>(h.sz r L x J).nsm Z ((h.ok r L).2 x J) hm h7)
def TW.set(h:TW k r c m M)(lx:xs.length=c)(ox:OkR k xs)(sx:∀ x∈xs,whk k m x):TW k r c m (M.set i xs):=by
 refine(by rw[vv];exact h.len,λq hq=>?_,λq hq=>?_)
 all_goals
  rcases zO hq with e|e
 ·rw[e];exact(lx,ox)
 ·exact h.ok q e
 ·rw[e];exact sx
 ·exact h.sz q e
def ZI(k0:k=0)(h:whk k m x):dB 1 (2^m - 1) x:=by
 obtain⟨i,rfl,hi⟩:=h k0;exact dB.num ()
def zdo(ox:x.ok k)(h:k=0->dB 1 B x)(hb:B<2^m):whk k m x:=λk0=>by
 have h:=h k0;cases x with
 | z i=>exact bK k0 ox.1
 | q r =>
  obtain⟨a,ea,ha⟩:=h;refine(a,?_,());rw[xt k0];have e1:(((1:Nat):Int):Rat)=1:=by rfl
  rw[e1]at ea;have:r =(a:Rat):=by rw[← ea];grind
  rw[this]
def Yt(m1:1<=m)(ox:OkR k x)(h:∀ y∈x,whk k m y):rowB m x:=by
 by_cases k0:k=0
 ·have:2^1<=2^m:=vh () m1;exact(1,(),(),λy hy=>ZI k0 (h y hy))
 ·exact qj k0 ox m1
def zaX(Z:kab k)(ox:OkR k x)(oy:OkR k y)(lx:x.length=n)(hn:n<=2^c)(J:∀ u∈x,whk k a u)(hy:∀ u∈y,whk k b u):whk k (a+b+c) (ndot k x y):=by
 refine zdo (B:=n *((2^a - 1) *(2^b - 1))) (zN Z ox oy) (λk0=>?_) ?_
 ·exact XI Z ox oy lx (λu hu=>ZI k0 (J u hu)) (λu hu=>ZI k0 (hy u hu))
 ·have p1:=ud a;have p2:=ud b;have p3:=ud c;rw[vY,vY];have h1:(2^a - 1) *(2^b - 1)<=(2^a - 1)*2^b:=wS _ ();have h2:(2^a - 1)*2^b=2^a*2^b - 2^b:=by rw[waA,vL]
  have h3:0<2^a*2^b:=waz p1 p2
  calc n *((2^a - 1) *(2^b - 1))<=2^c *(2^a*2^b - 1):=vm hn ()
   _<2^c *(2^a*2^b):=Nat.mul_lt_mul_of_pos_left () p3
   _=2^a*2^b*2^c:=vJ ..
def zgs(Z:kab k)(n4:k=0->n<=4)(hA:TW k r n a A)(ox:OkR k x)(J:∀ u∈x,whk k b u):∀ y∈imgM k A x,whk k (a+b+2) y:=λy hy k0=>by
 unfold imgM at hy;obtain⟨q,hq,rfl⟩:=wj.mp hy;have o:=hA.ok q hq;exact zaX Z o.2 ox o.1 (n4 k0) (hA.sz q hq) J k0
def Yi(Z:kab k)(n4:k=0->n<=4)(hA:TW k n n a A)(ox:OkR k x)(lx:x.length=n)(J:∀ u∈x,whk k b u):∀ i,∀ y∈powX k A x i,whk k (b+i *(a+2)) y
 | 0=>λy hy=>(J y hy).mono ()
 | i+1=>λy hy=>by
  have o:=zF Z hA.ok hA.len ox lx i;exact(zgs Z n4 hA o.1 (Yi Z n4 hA ox lx J i) y hy).mono (by rw[vG,vL];omega)
def ye(oM:OkM k c M)(h:∀ r∈M,∀ x∈r,whk k m x):∀ r∈kaa c M,∀ x∈r,whk k m x:=λr L x J=>by
 unfold kaa at L;obtain⟨j,hj,rfl⟩:=wj.mp L;obtain⟨q,hq,rfl⟩:=wj.mp J;have hl:=(oM q hq).1;rw[wP]at hj;rw[wc,wb ()];exact h q hq _ (wk _)
def zgY(Z:kab k)(hM:MOk k n h s z A B C)(n4:k=0->n<=4)(wA:TW k n n a A)(wB:TW k n h a B) i:∀ r∈blkT k h A B i,∀ x∈r,whk k (a+i *(a+2)) x:=by
 obtain⟨ob,lb⟩:=zgb Z hM i;have oT:=Zy hM.b;have wT:=ye wB.ok wB.sz;have cz:∀ r∈kaa h (blkT k h A B i),∀ x∈r,whk k (a+i *(a+2)) x:=λr L x J=>by
  rw[zfF i]at L;obtain⟨c,hc,rfl⟩:=wj.mp L;exact Yi Z n4 wA (oT.ok c hc).2 (oT.ok c hc).1 (wT c hc) i x J
 have tt:=ye (zg ob) cz;rw[zQ ob]at tt;exact tt
section
def zdG(bs:List Bool) n (h:n=bs.length):(wY n).any (λi=>bs.getD i false)=bs.any id:=by
 subst h;rw[uO,Ga,Ga]
 constructor
 ·rintro ⟨i,hi,e⟩
  have hi':=wP.mp hi;refine(bs[i],wk hi',?_)
  simpa [uG,hi'] using e
 ·rintro ⟨b,hb,e⟩
  obtain⟨i,hi,rfl⟩:=wD hb;exact(i,wP.mpr hi,by simpa [uG,hi] using e)
def zcS (hc:X.calm=true):kaB X (.builtin "any") (λxs H Q=>∃(p:Addr)(bs:List Bool),xs=[.ref p]/\H p=some (.lst (bs.map V.bl))/\Q (.bl (bs.any id)) H):=by
 intro pins s E H xs us Q I r h;obtain⟨p,bs,rfl,hq,q⟩:=h;obtain⟨u,rfl,ru⟩:=Vals.one r;cases ru;obtain⟨its,rv,pl,_⟩:=I.list (SqL.of hq);have hh:X.A.in1.handled=none:=I.ok.hd hc;have lt:= let ⟨_,e,_⟩:=pl.isList;Heap.lt_size e
 have hl:its.length=bs.length:=by rw[← rv.length,wa]
 refine call_any_walk (cO pl.isList ?_);refine(s.heap.objs.size,_,_,_,_,_,λi=>bs.getD i false,V,Walks.list hh s.heap.objs.size p (vf lt) its.toArray,((_,Heap.get?_push_size _ rfl,V,V),pl.isList.at λo e=>Heap.get?_push_of_some _ e),λi v s' Q' E' hv hQ=>?_,λh' tk keep=>?_)
 ·have hv':its[i]?=some v:=by simpa using hv
  have hi:i<bs.length:=by rw[← hl];exact(wu.mp hv').1
  obtain⟨u,hu,ru⟩:=rv.get (by rw[wg,wb hi];rfl);rw[hu]at hv';cases hv';cases ru;refine cw ?_
  simpa [uG,hi] using hQ
 ·rw[zdG bs _ (by rw[wV];exact hl)];refine(.bl (bs.any id),H,?_,V,q);exact I.kept (h':=h') (t':=tk) λb o eb=>keep b o (by simp only[wN,vH,or_false];exact vf (Heap.lt_size eb)) (Heap.get?_push_of_some _ eb)
end
section
def XH{V M N:Tb}(h:kau k V M):kau k (V++N) (M++N):=λF _ O v=>by
 rw[Rm.app,Rm.app];exact(λ⟨a,b,ha,hb,e⟩=>(a,b,(h F O a).mp ha,hb,e),λ⟨a,b,ha,hb,e⟩=>(a,b,(h F O a).mpr ha,hb,e))
def Zj(red:∀ F [bu F] (O:Kf k F),kap O n M R ls):kau k R M:=λF _ O v=>((red F O).fro v,(red F O).to v)
structure PkI(k:Int)(n:Nat)(W X bP V:Tb)(i:Nat):Prop where
 rd:RdR k n V
 sub:∀ r∈bP,r∈X
 eE:kau k V (W++bP)
 len:V.length=W.length+bP.length
 eX:kau k V (W++X.take i)
def PkI.start(h:RdR k n W) X:PkI k n W X [] W 0 :=
 (h,(λ_ h=>nomatch h),(λF _ O v=>by rw[vW]),V,(λF _ O v=>by rw[wa9,vW]))
def PkI.more(Z:kab k){W X bP V R:Tb}(I:PkI k n W X bP V i)(J:X[i]?=some x)(red:∀ F [bu F] (O:Kf k F),kap O n (V++[x]) R ls)(h:V.length<R.length):PkI k n W X (bP++[x]) R (i+1):=by
 have iR:=yc red;have eR:=Zj red;obtain⟨lv,iV⟩:=I.rd;have ne:¬ ∀(F:Type) [bu F] (O:Kf k F),Rm O V (nv O x):=λall=>by
  have:=(za1 Z iR iV eR (λ_ _ _ _=>Iff.rfl)).mpr all;omega
 obtain⟨F,h1⟩:=GB.mp ne;obtain⟨inst,h2⟩:=GB.mp h1;obtain⟨O,h3⟩:=GB.mp h2;have l:=XL (iV F O) (iR F O) h3 λv=>(eR F O v).trans rm_app1
 refine((ls,iR),λr L=>?_,λF _ O v=>?_,by rw[l,I.len,wy];rfl,λF _ O v=>?_)
 ·rcases wp.mp L with q|q
  ·exact I.sub r q
  ·rw[wx.mp q];exact we J
 ·rw[← gS];exact(eR F O v).trans (XH I.eE F O v)
 ·rw[zh J,← gS];exact(eR F O v).trans (XH I.eX F O v)
def PkI.same(Z:kab k){W X bP V R:Tb}(I:PkI k n W X bP V i)(J:X[i]?=some x)(red:∀ F [bu F] (O:Kf k F),kap O n (V++[x]) R ls)(h:¬ V.length<R.length):PkI k n W X bP V (i+1):=by
 have iR:=yc red;have eR:=Zj red;obtain⟨lv,iV⟩:=I.rd;obtain⟨F0,_,_,⟨φ0⟩⟩:=zw Z;have le:=((iV F0 φ0).sub_len (iR F0 φ0) λv hv=>(eR F0 φ0 v).mpr (xu (λr L=>wO _ L) hv)).1;have all:=(za1 Z iR iV eR (λ_ _ _ _=>Iff.rfl)).mp ();refine(I.rd,I.sub,I.eE,I.len,λF _ O v=>?_);rw[zh J,← gS]
 constructor
 ·exact λhv=>xu (λr L=>wO _ L) ((I.eX F O v).mp hv)
 ·intro hv;obtain⟨u,c,hu,e⟩:=rm_app1.mp hv;exact(((I.eX F O u).mpr hu).add ((all F O).smul c)).cast λj=>(e j).symm
def PkI.gen{W X bP V:Tb}(I:PkI k n W X bP V i)(oW:OkM k n W)(oX:OkM k n X)(cW:kad g W)(cX:kad g X):Gen k n g V :=
 (W++bP,λr L=>(wp.mp L).elim (oW r) λh=>oX r (I.sub r h),cW.app λr L=>cX r (I.sub r L),I.eE)
structure Quad(k:Int)(n:Nat)(R U M E1 E2 E3:Tb):Prop where
 ok:OkM k n (M++E1++E2++E3)
 len:M.length+E1.length+E2.length+E3.length=n
 r:kau k R (M++E1)
 u:kau k U (M++E2)
 all:∀(F:Type) [bu F] (O:Kf k F) (p:Nat),p<n->Rm O (M++E1++E2++E3) (kae p 1)
def jc(Z:kab k)[bu F](O:Kf k F) v (hv:∀ j,n<=j->v j=0):Rm O (kam k n) v:=by
 refine(yM (yQ O Z n) Z v).mp (hv,λu hu=>?_);refine dot_zero n _ _ λj hj=>?_
 have z:=hu.2 _ (.of (_,we (yv (k:=k) hj),V));rw[zp,zk (u':=u) (v':=kae j 1) λi _=>by rw[xn hj i],yd hj]at z
 grind
def jT(Z:kab k){M R bP V:Tb}(rR:RdR k n R)(sub:∀ F [bu F] (O:Kf k F) v,Rm O M v->Rm O R v)(I:PkI k n M R bP V R.length):kau k R (M++bP)/\M.length+bP.length=R.length:=by
 have e:V=R:=Yl Z I.rd rR λF _ O v=>by
  have h:=I.eX F O v;rw[um]at h;refine h.trans (λhv=>?_,λhv=>xu (λr L=>wF _ L) hv);obtain⟨a,b,ha,hb,ev⟩:=Rm.app.mp hv;exact((sub F O a ha).add hb).cast λj=>(ev j).symm
 subst e;exact(I.eE,I.len.symm)
def zgo(Z:kab k)(rR:RdR k n R)(rU:RdR k n U)(rM:RdR k n M)(rJ:RdR k n bN)(met:MetOf k M R U)(eJ:kau k bN (R++U))(p1:PkI k n M R E1 V1 R.length)(p2:PkI k n M U E2 V2 U.length)(p3:PkI k n bN (kam k n) E3 V3 n):Quad k n R U M E1 E2 E3:=by
 obtain⟨s1,l1⟩:=jT Z rR (λF _ O v h=>((met F O v).mp h).1) p1;obtain⟨s2,l2⟩:=jT Z rU (λF _ O v h=>((met F O v).mp h).2) p2;have lU:=(zW Z n).2;have oU:=(zW Z n).1;have ok:∀ {W:Tb},RdR k n W->OkM k n W:=λ⟨_,h⟩=>(zE Z h).1
 have p3':PkI k n bN (kam k n) E3 V3 (kam k n).length:=by rw[lU];exact p3
 obtain⟨s3,l3⟩:=jT Z (M:=bN) (_,λF _ O=>yQ O Z n) (λF _ O v h=>jc Z O v λj hj=>zem (ok rJ) h hj) p3';have d:=dims Z rR rU rJ rM (λF _ O v=>(eJ F O v).trans Rm.app) met;refine(λr L=>?_,(),s1,s2,λF _ O p hp=>?_)
 ·rcases wp.mp L with h|h
  ·rcases wp.mp h with h|h
   ·rcases wp.mp h with h|h
    ·exact ok rM r h
    ·exact ok rR r (p1.sub r h)
   ·exact ok rU r (p2.sub r h)
  ·exact oU r (p3.sub r h)
 ·have h0:Rm O (kam k n) (kae p 1):=jc Z O _ λj hj=>by unfold kae;rw[bx ()]
  obtain⟨a,b,ha,hb,e⟩:=Rm.app.mp ((s3 F O _).mp h0);obtain⟨c,d,hc,hd,e'⟩:=Rm.app.mp ((eJ F O _).mp ha);have h1:Rm O (M++E1++E2++E3) c:=xu (λr L=>wO _ (wO _ L)) ((s1 F O c).mp hc);have h2:Rm O (M++E1++E2++E3) d:=xu (λr L=>by
   rcases wp.mp L with h|h
   ·exact wO _ (wO _ (wO _ h))
   ·exact wO _ (wF _ h)) ((s2 F O d).mp hd)
  have h3:Rm O (M++E1++E2++E3) b:=xu (λr L=>wF _ L) hb;exact((h1.add h2).add h3).cast λj=>by rw[e j,e' j]
end
section
def plc(a b c d:Nat):List Int:=wL a 0++wL b 1++wL c 2++wL d 3
def Qu a b c d:(plc a b c d).length=a+b+c+d:=by unfold plc;simp only[wy,wQ]
def qx(h:(plc a b c d)[i]?=some p):(p=0/\i<a)\/(p=1/\a<=i/\i<a+b)\/(p=2/\a+b<=i/\i<a+b+c)\/(p=3/\a+b+c<=i/\i<a+b+c+d):=by
 unfold plc at h;rw[vo,vo,vo]at h;simp only[wy,wQ,vU]at h
 grind
def plc_at:(i<a->(plc a b c d)[i]?=some 0)/\(a<=i->i<a+b->(plc a b c d)[i]?=some 1)/\(a+b<=i->i<a+b+c->(plc a b c d)[i]?=some 2):=by
 unfold plc;rw[vo,vo,vo];simp only[wy,wQ,vU]
 grind
def zaN{M E1 E2 E3:Tb}(h:(M++E1++E2++E3)[i]?=some r):(i<M.length->r∈M)/\(M.length<=i->i<M.length+E1.length->r∈E1)/\(M.length+E1.length<=i->i<M.length+E1.length+E2.length->r∈E2):=by
 rw[vo,vo,vo]at h;simp only[wy]at h;refine(λh1=>?_,λh1 h2=>?_,λh1 h2=>?_)
 ·rw[bw (),bw (),bw h1]at h;exact we h
 ·rw[bw (),bw (),bx ()]at h;exact we h
 ·rw[bw (),bx ()]at h;exact we h
def jg{M E1 E2 E3:Tb}:(r∈M->∃ i,i<M.length/\(M++E1++E2++E3)[i]?=some r)/\(r∈E1->∃ i,M.length<=i/\i<M.length+E1.length/\(M++E1++E2++E3)[i]?=some r)/\(r∈E2->∃ i,M.length+E1.length<=i/\i<M.length+E1.length+E2.length/\(M++E1++E2++E3)[i]?=some r):=by
 refine(λh=>?_,λh=>?_,λh=>?_)
 ·obtain⟨i,hi,e⟩:=wD h;refine(i,hi,?_);rw[vo,vo,vo];simp only[wy];rw[bw (),bw (),bw hi,wb hi,e]
 ·obtain⟨i,hi,e⟩:=wD h;refine(M.length+i,(),(),?_);rw[vo,vo,vo];simp only[wy];rw[bw (),bw (),bx (),vK,wb hi,e]
 ·obtain⟨i,hi,e⟩:=wD h;refine(M.length+E1.length+i,(),(),?_);rw[vo,vo];simp only[wy];rw[bw (),bx (),vK,wb hi,e]
structure PlF(k:Int)(n:Nat)(R U X S:Tb)(P:List Int):Prop where
 len:P.length=n
 rng:∀ p∈P,p=0\/p=1\/p=2\/p=3
 inR:∀(i:Nat)(p:Int)(r:List Nb),P[i]?=some p->p<2->X[i]?=some r->∀(F:Type) [bu F] (O:Kf k F),Rm O R (nv O r)
 inU:∀(i:Nat)(p:Int)(r:List Nb),P[i]?=some p->(p=0\/p=2)->X[i]?=some r->∀(F:Type) [bu F] (O:Kf k F),Rm O U (nv O r)
 offR:∀(i:Nat)(p:Int)(s:List Nb),P[i]?=some p->1<p->S[i]?=some s->∀(F:Type) [bu F] (O:Kf k F) (v:Nat->F),Rm O R v->dot n (nv O s) v=0
 offU:∀(i:Nat)(p:Int)(s:List Nb),P[i]?=some p->(p=1\/p=3)->S[i]?=some s->∀(F:Type) [bu F] (O:Kf k F) (v:Nat->F),Rm O U v->dot n (nv O s) v=0
 spR:∀ Y:Tb,(∀(i:Nat)(p:Int)(r:List Nb),P[i]?=some p->p<2->X[i]?=some r->r∈Y)->∀(F:Type) [bu F] (O:Kf k F) (v:Nat->F),Rm O R v->Rm O Y v
 spU:∀ Y:Tb,(∀(i:Nat)(p:Int)(r:List Nb),P[i]?=some p->(p=0\/p=2)->X[i]?=some r->r∈Y)->∀(F:Type) [bu F] (O:Kf k F) (v:Nat->F),Rm O U v->Rm O Y v
def Zi(oX:OkM k n X)(lX:X.length=n)(lS:S.length=n)(pr:PairU k n S (kaa n X)){i q:Nat}(hs:S[i]?=some s)(L:X[q]?=some r)(ne:i≠q)[bu F](O:Kf k F):dot n (nv O s) (nv O r)=0:=by
 have hi:i<n:=by rw[← lS];exact(wu.mp hs).1
 have hq:q<n:=by rw[← lX];exact(wu.mp L).1
 have h:=pr F O i q hi hq;rw[bx ne]at h;have e1:S.getD i []=s:=by rw[wc,hs];rfl
 have e2:X.getD q []=r:=by rw[wc,L];rfl
 rw[← h];refine zk λl hl=>?_
 show _=nv O (S.getD i []) l*nv O ((trF n X).getD l []) q;rw[e1];rw[ya oX hl,e2]
def zdf(Qd:Quad k n R U M E1 E2 E3)(lS:S.length=n)(pr:PairU k n S (kaa n (M++E1++E2++E3))):PlF k n R U (M++E1++E2++E3) S (plc M.length E1.length E2.length E3.length):=by
 have lX:(M++E1++E2++E3).length=n:=by rw[wy,wy,wy];exact Qd.len
 refine(by rw[Qu];exact Qd.len,λp hp=>?_,λi p r hp p2 L F _ O=>?_,λi p r hp p2 L F _ O=>?_,λi p s hp p2 hs F _ O v hv=>?_,λi p s hp p2 hs F _ O v hv=>?_,λY hY F _ O v hv=>?_,λY hY F _ O v hv=>?_)
 ·obtain⟨i,hi,e⟩:=wD hp;have:=qx (a:=M.length) (b:=E1.length) (c:=E2.length) (d:=E3.length) (i:=i) (p:=p) (by rw[wb hi,e]);omega
 ·refine(Qd.r F O _).mpr (.of (r,?_,V));have g:=qx hp;have f:=zaN L
  rcases wH i M.length with h|h
  ·exact wO _ (f.1 h)
  ·exact wF _ (f.2.1 h ())
 ·refine(Qd.u F O _).mpr (.of (r,?_,V));have g:=qx hp;have f:=zaN L
  rcases wH i M.length with h|h
  ·exact wO _ (f.1 h)
  ·exact wF _ (f.2.2 () ())
 ·have g:=qx hp;refine Span.dot_zero_r ((Qd.r F O v).mp hv) λu ⟨r,L,e⟩=>?_
  rw[e]
  rcases wp.mp L with h|h
  ·obtain⟨q,hq,er⟩:=(jg (E1:=E1) (E2:=E2) (E3:=E3)).1 h;exact Zi Qd.ok lX lS pr hs er () O
  ·obtain⟨q,hq,hq',er⟩:=(jg (M:=M) (E2:=E2) (E3:=E3)).2.1 h;exact Zi Qd.ok lX lS pr hs er () O
 ·have g:=qx hp;refine Span.dot_zero_r ((Qd.u F O v).mp hv) λu ⟨r,L,e⟩=>?_
  rw[e]
  rcases wp.mp L with h|h
  ·obtain⟨q,hq,er⟩:=(jg (E1:=E1) (E2:=E2) (E3:=E3)).1 h;exact Zi Qd.ok lX lS pr hs er () O
  ·obtain⟨q,hq,hq',er⟩:=(jg (M:=M) (E1:=E1) (E3:=E3)).2.2 h;exact Zi Qd.ok lX lS pr hs er () O
 ·refine xu (λr L=>?_) ((Qd.r F O v).mp hv)
  rcases wp.mp L with h|h
  ·obtain⟨q,hq,er⟩:=(jg (E1:=E1) (E2:=E2) (E3:=E3)).1 h;exact hY q 0 r (plc_at.1 hq) () er
  ·obtain⟨q,hq,hq',er⟩:=(jg (M:=M) (E2:=E2) (E3:=E3)).2.1 h;exact hY q 1 r (plc_at.2.1 hq hq') () er
 ·refine xu (λr L=>?_) ((Qd.u F O v).mp hv)
  rcases wp.mp L with h|h
  ·obtain⟨q,hq,er⟩:=(jg (E1:=E1) (E2:=E2) (E3:=E3)).1 h;exact hY q 0 r (plc_at.1 hq) (.inl rfl) er
  ·obtain⟨q,hq,hq',er⟩:=(jg (M:=M) (E1:=E1) (E3:=E3)).2.2 h;exact hY q 2 r (plc_at.2.2 hq hq') (.inr rfl) er
def jA(Z:kab k){b z:Nat}(n1:1<=n)(oA:OkM k n A)(lA:A.length=n)(oB:OkM k n B)(bO:kan k n A B R)[bu F](O:Kf k F)(hv:Rm O R v):Rm O R (limg O n A v):=by
 have en:n - 1+1=n:=by omega
 have s:∀ v,Rm O (kry k A B (n - 1+1)) v->Rm O (kry k A B (n - 1)) v:=λv h=>by
  rw[en]at h;exact xM Z oA lA oB n1 v h
 have h1:=s v (by rw[en];exact(bO.eq F O v).mp hv);have h2:=qe Z oA lA oB (n - 1) _ (zbS Z oA lA oB s h1);rw[en]at h2;exact(bO.eq F O _).mpr h2
def QR(Z:kab k)(n1:1<=n)(oA:OkM k n A)(lA:A.length=n)(oC:OkM k n C)(hL:kan k n (kaa n A) C bO)(pU:kaA k n U bO)[bu F](O:Kf k F)(hv:Rm O U v):Rm O U (limg O n A v):=by
 obtain⟨z,h⟩:=(pU F O v).mp hv;have oT:OkM k n (kaa n A):=by have:=zg oA;rw[lA]at this;exact this
 refine(pU F O _).mpr (λj hj=>?_,λu hu=>?_)
 ·unfold limg;refine dot_zero n _ _ λi _=>?_
  rw[wc,wK ()];have:nv O ((none:Option (List Nb)).getD []) i=0:=xR i;rw[this];grind
 ·rw[← yH oA lA u v];exact h _ (jA Z (b:=0) (z:=0) n1 oT (ze n A) oC hL O hu)
structure Part(k:Int)(n h:Nat)(A B C R bO U:Tb):Prop where
 n1:1<=n
 oA:OkM k n A
 lA:A.length=n
 oB:OkM k h B
 lB:B.length=n
 oC:OkM k n C
 r:kan k n A (kaa h B) R
 l:kan k n (kaa n A) C bO
 u:kaA k n U bO
end
section
variable[bu F]
def zae(u v:Nat->F) p:∀ q,dot (p+q) u v=dot p u v+dot q (λj=>u (p+j)) (λj=>v (p+j))
 | 0=>by show _=_+0;rw[GL];grind
 | q+1=>by
  show dot (p+q) u v+u (p+q)*v (p+q)=dot p u v +(dot q (λj=>u (p+j)) (λj=>v (p+j))+u (p+q)*v (p+q));rw[zae u v p q];grind
def QS{u v:Nat->F}(hab:a+b<=n)(h:∀ l,l<n->(l<a\/a+b<=l)->u l*v l=0):dot n u v=dot b (λj=>u (a+j)) (λj=>v (a+j)):=by
 obtain⟨c,rfl⟩:=Nat.le.dest hab;rw[zae u v (a+b) c,zae u v a b,dot_zero a u v λj hj=>h j () (.inl hj),dot_zero c _ _ λj hj=>h (a+b+j) () (.inr ())]
 grind
end
section
def cutR(a b:Nat)(M:Tb):Tb:=(M.drop a).take b
def jt(hi:i<b):(cutR a b M)[i]?=M[a+i]?:=by
 unfold cutR;rw[Gf hi,gk]
def zaA(h:a+b<=M.length):(cutR a b M).length=b:=by unfold cutR;rw[wr,ue];omega
def yW(h:r∈cutR a b M):r∈M:=gD (vD h)
structure kal(k:Int)(n h a b:Nat)(A B C R bO U X S:Tb):Prop where
 pt:Part k n h A B C R bO U
 oX:OkM k n X
 lX:X.length=n
 oS:OkM k n S
 lS:S.length=n
 ab:a+b<=n
 pr:PairU k n S (kaa n X)
 rp:PairU k n (kaa n X) S
 inR:∀(q:Nat)(r:List Nb),q<a+b->X[q]?=some r->∀(F:Type) [bu F] (O:Kf k F),Rm O R (nv O r)
 inU:∀(q:Nat)(r:List Nb),q<a->X[q]?=some r->∀(F:Type) [bu F] (O:Kf k F),Rm O U (nv O r)
 offR:∀(q:Nat)(s:List Nb),a+b<=q->S[q]?=some s->∀(F:Type) [bu F] (O:Kf k F) (v:Nat->F),Rm O R v->dot n (nv O s) v=0
 offU:∀(q:Nat)(s:List Nb),a<=q->q<a+b->S[q]?=some s->∀(F:Type) [bu F] (O:Kf k F) (v:Nat->F),Rm O U v->dot n (nv O s) v=0
section
variable(Z:kab k)(I:kal k n h a b A B C R bO U X S)[bu F](O:Kf k F)
def cA(k:Int)(n a b:Nat)(A X S:Tb):Tb:=kaf k b (kaf k n (cutR a b S) A) (kaa n (cutR a b X))
def cB(k:Int)(h a b:Nat)(B S:Tb):Tb:=kaf k h (cutR a b S) B
def cC(k:Int)(n a b:Nat)(C X:Tb):Tb:=kaf k b C (kaa n (cutR a b X))
def pi0(n a b:Nat)(S:Tb)(v:Nat->F):Nat->F:=λi=>if i<b then dot n (nv O (S.getD (a+i) [])) v else 0
def pi1(n a b:Nat)(X:Tb)(v:Nat->F):Nat->F:=λj=>if j<b then dot n v (nv O (X.getD (a+j) []))else 0
include Z I
theorem kal.oX':OkM k n (cutR a b X)/\(cutR a b X).length=b:=(λr L=>I.oX r (yW L),zaA (by rw[I.lX];exact I.ab))
theorem kal.oS':OkM k n (cutR a b S)/\(cutR a b S).length=b:=(λr L=>I.oS r (yW L),zaA (by rw[I.lS];exact I.ab))
theorem kal.oT':OkM k b (kaa n (cutR a b X))/\kaa b (kaa n (cutR a b X))=cutR a b X:=by
 obtain⟨o,l⟩:=I.oX' Z;have h1:=zg o;have h2:=zQ o;rw[l]at h1 h2;exact(h1,h2)
theorem kal.okA:(cA k n a b A X S).length=b/\OkM k b (cA k n a b A X S):=by
 have o1:=xm Z (c:=n) (I.oS' Z).1 I.pt.oA;have o2:=xm Z (c:=b) o1.2 (I.oT' Z).1;exact(o2.1.trans (o1.1.trans (I.oS' Z).2),o2.2)
theorem kal.okB:(cB k h a b B S).length=b/\OkM k h (cB k h a b B S):=by
 have o1:=xm Z (c:=h) (I.oS' Z).1 I.pt.oB;exact(o1.1.trans (I.oS' Z).2,o1.2)
theorem kal.okC:(cC k n a b C X).length=C.length/\OkM k b (cC k n a b C X):=xm Z (c:=b) I.pt.oC (I.oT' Z).1
theorem kal.getS(hq:q<n):∃ s,S[q]?=some s/\S.getD q []=s/\s.length=n/\OkR k s:=by
 have hl:q<S.length:=by rw[I.lS];exact hq
 have e:S[q]?=some S[q]:=wb hl;exact(S[q],e,by rw[wc,e];rfl,I.oS _ (wk hl))
theorem kal.getX(hq:q<n):∃ s,X[q]?=some s/\X.getD q []=s/\s.length=n/\OkR k s:=by
 have hl:q<X.length:=by rw[I.lX];exact hq
 have e:X[q]?=some X[q]:=wb hl;exact(X[q],e,by rw[wc,e];rfl,I.oX _ (wk hl))
theorem kal.nvA(hi:i<b)(hj:j<b):nv O ((cA k n a b A X S).getD i []) j=dot n (nv O (S.getD (a+i) [])) (limg O n A (nv O (X.getD (a+j) []))):=by
 have ab:=I.ab;obtain⟨s,hs,es,ls,os⟩:=I.getS Z (q:=a+i) ();obtain⟨x,J,ex,lx,ox⟩:=I.getX Z (q:=a+j) ();obtain⟨oT,tT⟩:=I.oT' Z;have e0:cA k n a b A X S=kaf k b (cutR a b S) (kaf k b A (kaa n (cutR a b X))):=Xe Z (I.oS' Z).1 I.pt.oA I.pt.lA oT (ze n _);have e1:kaa b (kaf k b A (kaa n (cutR a b X))) =(cutR a b X).map (imgM k A):=by
  refine Eq.trans (XW (k:=k) (d:=b) (N:=A) (P:=kaa n (cutR a b X))) ?_;show(kaa b (kaa n (cutR a b X))).map _=_;rw[tT];rfl
 have hc:(cutR a b S)[i]?=some s:=by rw[jt hi];exact hs
 have er:(cA k n a b A X S).getD i [] =((cutR a b X).map (imgM k A)).map λc=>ndot k s c:=by
  rw[e0,wc];unfold kaf;rw[wg,hc];show Gr _ (kaa b (kaf k b A (kaa n (cutR a b X))))=_;rw[e1]
 have oi:(imgM k A x).length=A.length/\OkR k (imgM k A x):=jJ Z I.pt.oA ox;rw[er,es,ex,zI O (x:=ndot k s (imgM k A x)) (by rw[vV,wg,jt hj,J];rfl),zP O Z os oi.2 (by rw[ls,oi.1,I.pt.lA]),ls];refine zk λl _=>?_
 rw[yJ Z I.pt.oA ox lx]
theorem kal.nvB(hi:i<b)(hl:l<h):nv O ((cB k h a b B S).getD i []) l=dot n (nv O (S.getD (a+i) [])) (nv O ((kaa h B).getD l [])):=by
 have ab:=I.ab;obtain⟨s,hs,es,ls,os⟩:=I.getS Z (q:=a+i) ();have hc:(cutR a b S)[i]?=some s:=by rw[jt hi];exact hs
 have oT:=zg I.pt.oB;rw[I.pt.lB]at oT;have hl':l <(kaa h B).length:=by rw[ze];exact hl
 have ec:(kaa h B)[l]?=some (kaa h B)[l]:=wb hl';have oc:=oT _ (wk hl');have er:(cB k h a b B S).getD i [] =(kaa h B).map λc=>ndot k s c:=by
  unfold cB kaf;rw[wc,wg,hc];rfl
 have e2:(kaa h B).getD l [] =(kaa h B)[l]:=by rw[wc,ec];rfl
 rw[er,es,e2,zI O (x:=ndot k s (kaa h B)[l]) (by rw[wg,ec];rfl),zP O Z os oc.2 (by rw[ls,oc.1]),ls]
theorem kal.nvC(hj:j<b):nv O ((cC k n a b C X).getD r []) j=dot n (nv O (C.getD r [])) (nv O (X.getD (a+j) [])):=by
 have ab:=I.ab;obtain⟨x,J,ex,lx,ox⟩:=I.getX Z (q:=a+j) ();obtain⟨oT,tT⟩:=I.oT' Z
 rcases wH r C.length with L|L
 ·have ec:C[r]?=some C[r]:=wb L;have oc:=I.pt.oC _ (wk L);have er:(cC k n a b C X).getD r [] =(cutR a b X).map λc=>ndot k C[r] c:=by
   unfold cC kaf;rw[wc,wg,ec,tT];rfl
  have e2:C.getD r []=C[r]:=by rw[wc,ec];rfl
  rw[er,e2,ex,zI O (x:=ndot k C[r] x) (by rw[wg,jt hj,J];rfl),zP O Z oc.2 ox (by rw[oc.1,lx]),oc.1]
 ·rw[wc,wK (by rw[(I.okC Z).1];exact L),wc,wK L,dot_zero n _ _ λi _=>by
   have:nv O ((none:Option (List Nb)).getD []) i=0:=xR i;rw[this];grind]
  exact xR j
theorem kal.parts{v:Nat->F}(hv:∀ j,n<=j->v j=0){p:Nat}(hp:p<n):v p=dot n (λl=>nv O (X.getD l []) p) (λl=>dot n (nv O (S.getD l [])) v):=by
 have h1:=xh n v (λl=>nv O (S.getD l [])) (λl=>nv O (X.getD l []) p) n;rw[h1];have h2:dot n (λj=>dot n (λl=>nv O (X.getD l []) p) (λi=>nv O (S.getD i []) j)) v=dot n (kae p 1) v:=zk λj hj=>by
  congr 1
  have:=I.rp F O p j hp hj;have e:dot n (λl=>nv O (X.getD l []) p) (λi=>nv O (S.getD i []) j)=dot n ((λp=>nv O ((kaa n X).getD p [])) p) (λl=>(λl q=>nv O (S.getD l []) q) l j):=zk λl hl=>by
   show nv O (X.getD l []) p*_=nv O ((trF n X).getD p []) l*_;rw[ya I.oX hp]
  rw[e,this];unfold kae
  by_cases c:p=j
  ·rw[bw c,bw c.symm]
  ·rw[bx c,bx (λz=>c z.symm)]
 rw[h2,zp,yd hp]
 grind
end
end
def getT M (hl:l<h):(kaa h M)[l]?=some ((kaa h M).getD l []):=by
 have hl':l <(kaa h M).length:=by rw[ze];exact hl
 rw[wc,wb hl'];rfl
def zeg[bu F]{O:Kf k F}(e:∀ j,u j=v j) i:pi0 O n a b S u i=pi0 O n a b S v i:=by
 rw[show u=v from funext e]
section
section
variable(Z:kab k)(I:kal k n h a b A B C R bO U X S)[bu F](O:Kf k F)
include Z I
theorem kal.suppR(hv:Rm O R v):∀ j,n<=j->v j=0:=λj hj=>by
 obtain⟨lr,iR⟩:=I.pt.r.rd;exact(iR F O).supp hv j hj
theorem kal.seen{w v:Nat->F}(hv:Rm O R v)(hw:∀ q,q<a->dot n w (nv O (X.getD q []))=0):dot n w v=dot b (λj=>dot n w (nv O (X.getD (a+j) []))) (λj=>dot n (nv O (S.getD (a+j) [])) v):=by
 have e1:dot n w v=dot n w (λp=>dot n (λl=>nv O (X.getD l []) p) (λl=>dot n (nv O (S.getD l [])) v)):=zk λp hp=>by rw[← I.parts Z O (I.suppR Z O hv) hp]
 have e2:=xh n (λl=>dot n (nv O (S.getD l [])) v) (λp l=>nv O (X.getD l []) p) w n;rw[e1,e2];refine QS (u:=λj=>dot n w (λi=>nv O (X.getD j []) i)) I.ab λl hl hab=>?_
 rcases hab with h1|h1
 ·have:=hw l h1;have e:dot n w (λi=>nv O (X.getD l []) i)=0:=this;rw[e];grind
 ·obtain⟨s,hs,es,_⟩:=I.getS Z hl;rw[es,I.offR l s h1 hs F O v hv];grind
theorem kal.keptR(hv:Rm O R v):Rm O R (limg O n A v):=by
 have oT:=zg I.pt.oB;rw[I.pt.lB]at oT;exact jA Z (b:=0) (z:=0) I.pt.n1 I.pt.oA I.pt.lA oT I.pt.r O hv
theorem kal.keptU(hv:Rm O U v):Rm O U (limg O n A v):=QR Z I.pt.n1 I.pt.oA I.pt.lA I.pt.oC I.pt.l I.pt.u O hv
theorem kal.step{v:Nat->F}(hv:Rm O R v)(i:Nat):limg O b (cA k n a b A X S) (pi0 O n a b S v) i=pi0 O n a b S (limg O n A v) i:=by
 have ab:=I.ab;unfold limg pi0
 by_cases hi:i<b
 ·rw[bw hi];obtain⟨s,hs,es,ls,os⟩:=I.getS Z (q:=a+i) ();have lA:=I.pt.lA;have e1:dot n (nv O (S.getD (a+i) [])) (λi=>dot n (nv O (A.getD i [])) v)=dot n (limg O n (trF n A) (nv O (S.getD (a+i) []))) v:=(yH I.pt.oA lA _ v).symm;rw[e1,I.seen Z O (w:=limg O n (trF n A) (nv O (S.getD (a+i) []))) hv λq hq=>by
   rw[yH I.pt.oA lA];obtain⟨x,J,ex,_⟩:=I.getX Z (q:=q) ();rw[es,ex];exact I.offU (a+i) s () () hs F O _ (I.keptU Z O (I.inU q x hq J F O))]
  refine zk λj hj=>?_
  rw[I.nvA Z O hi hj,bw hj,yH I.pt.oA lA]
 ·rw[bx hi,wc,wK (by rw[(I.okA Z).1];omega)];exact dot_zero b _ _ λj _=>by
   have:nv O ((none:Option (List Nb)).getD []) j=0:=xR j;rw[this];grind
theorem kal.colR(hl:l<h):Rm O R (nv O ((kaa h B).getD l [])):=by
 have oT:=zg I.pt.oB;rw[I.pt.lB]at oT;have hl':l <(kaa h B).length:=by rw[ze];exact hl
 have e2:(kaa h B).getD l []∈kaa h B:=by rw[wc,wb hl'];exact wk hl'
 have:=jC Z I.pt.oA I.pt.lA oT 0 n (nv O ((kaa h B).getD l [])) (.of (_,e2,V));rw[uk]at this;exact(I.pt.r.eq F O _).mpr this
theorem kal.tB:OkM k b (kaa h (cB k h a b B S)):=by
 have o:=zg (I.okB Z).2;rw[(I.okB Z).1]at o;exact o
theorem kal.tBn:OkM k n (kaa h B):=by
 have o:=zg I.pt.oB;rw[I.pt.lB]at o;exact o
theorem kal.col{l:Nat}(hl:l<h)(i:Nat):nv O ((kaa h (cB k h a b B S)).getD l []) i=pi0 O n a b S (nv O ((kaa h B).getD l [])) i:=by
 have e:=ya (O:=O) (i:=i) (I.okB Z).2 hl;refine Eq.trans e ?_;unfold pi0
 by_cases hi:i<b
 ·rw[bw hi,I.nvB Z O hi hl]
 ·rw[bx hi,wc,wK (by rw[(I.okB Z).1];omega)];exact xR l
theorem kal.powR(hl:l<h):∀ t,Rm O R (nv O (powX k A ((kaa h B).getD l []) t))
 | 0=>I.colR Z O hl
 | t+1=>by
  have oc:=I.tBn Z _ (we (getT B hl));have op:=zF Z I.pt.oA I.pt.lA oc.2 oc.1 t;exact(I.keptR Z O (kal.powR hl t)).cast λj=>(yJ Z I.pt.oA op.1 op.2 j).symm
theorem kal.pow(hl:l<h):∀ t i,nv O (powX k (cA k n a b A X S) ((kaa h (cB k h a b B S)).getD l []) t) i=pi0 O n a b S (nv O (powX k A ((kaa h B).getD l []) t)) i
 | 0,i=>I.col Z O hl i
 | t+1,i=>by
  have oc:=I.tBn Z _ (we (getT B hl));have op:=zF Z I.pt.oA I.pt.lA oc.2 oc.1 t;have oc':=I.tB Z _ (we (getT (cB k h a b B S) hl));have op':=zF Z (I.okA Z).2 (I.okA Z).1 oc'.2 oc'.1 t;show nv O (imgM k (cA k n a b A X S) (powX k (cA k n a b A X S) ((kaa h (cB k h a b B S)).getD l []) t)) i=_;rw[yJ Z (I.okA Z).2 op'.1 op'.2,Xl (kal.pow hl t),I.step Z O (I.powR Z O hl t)];exact zeg (λj=>(yJ Z I.pt.oA op.1 op.2 j).symm) i
theorem kal.mark{l r:Nat}(hl:l<h)(L:r<C.length)(t:Nat):ndot k ((cC k n a b C X).getD r []) (powX k (cA k n a b A X S) ((kaa h (cB k h a b B S)).getD l []) t)=ndot k (C.getD r []) (powX k A ((kaa h B).getD l []) t):=by
 obtain⟨F,_,_,⟨O⟩⟩:=zw Z;have ab:=I.ab;have oc:=I.tBn Z _ (we (getT B hl));have op:=zF Z I.pt.oA I.pt.lA oc.2 oc.1 t;have oc':=I.tB Z _ (we (getT (cB k h a b B S) hl));have op':=zF Z (I.okA Z).2 (I.okA Z).1 oc'.2 oc'.1 t;have gC:C.getD r []∈C:=by rw[wc,wb L];exact wk L
 have oC:=I.pt.oC _ gC;have oC':=(I.okC Z).2 ((cC k n a b C X).getD r []) (by rw[wc,wb (by rw[(I.okC Z).1];exact L)];exact wk _);refine O.inj (zN Z oC'.2 op'.1) (zN Z oC.2 op.1) ?_;rw[zP O Z oC'.2 op'.1 (by rw[oC'.1,op'.2]),zP O Z oC.2 op.1 (by rw[oC.1,op.2]),oC'.1,oC.1];have oT:OkM k n (kaa n A):=by have:=zg I.pt.oA;rw[I.pt.lA]at this;exact this
 have hL:Rm O bO (nv O (C.getD r [])):=by
  have:=jC Z oT (ze n A) I.pt.oC 0 n (nv O (C.getD r [])) (.of (_,gC,V));rw[uk]at this;exact(I.pt.l.eq F O _).mpr this
 rw[I.seen Z O (I.powR Z O hl t) λq hq=>by
  obtain⟨x,J,ex,_⟩:=I.getX Z (q:=q) ();rw[ex];exact((I.pt.u F O _).mp (I.inU q x hq J F O)).2 _ hL]
 refine zk λj hj=>?_
 rw[I.nvC Z O hj,I.pow Z O hl t j];unfold pi0;rw[bw hj]
theorem kal.kryC(t:Nat)(v:Nat->F)(hv:Rm O (kry k A (kaa h B) t) v):Rm O (kry k (cA k n a b A X S) (kaa h (cB k h a b B S)) t) (pi0 O n a b S v):=by
 refine hv.all (P:=λv=>Rm O (kry k (cA k n a b A X S) (kaa h (cB k h a b B S)) t) (pi0 O n a b S v)) (Span.cast .zero λi=>?_) λc r v ⟨x,J,e⟩ hw=>?_
 ·unfold pi0
  split
  ·exact(dot_zero n _ _ λj _=>by grind).symm
  ·rfl
 obtain⟨y,hy,i,hi,rfl⟩:=yB t x J;obtain⟨l,hl,el⟩:=wD hy;have hl':l<h:=by rw[ze]at hl;exact hl
 have ex:(kaa h B).getD l []=y:=by rw[wc,wb hl,el];rfl
 refine Span.cast (.step c (r:=nv O (powX k (cA k n a b A X S) ((kaa h (cB k h a b B S)).getD l []) i)) (_,qs (we (getT (cB k h a b B S) hl')) t i hi,V) hw) λj=>?_
 rw[I.pow Z O hl' i j,ex,e];unfold pi0
 split
 ·rw[yl n _ (λj=>c*nv O (powX k A y i) j) v,ym]
 ·grind
theorem kal.unit(hi:i<b):∀ j,pi0 O n a b S (nv O (X.getD (a+i) [])) j=kae i 1 j:=λj=>by
 have ab:=I.ab;unfold pi0 kae
 by_cases hj:j<b
 ·rw[bw hj];have:=I.pr F O (a+j) (a+i) () ();have e:dot n (nv O (S.getD (a+j) [])) (nv O (X.getD (a+i) []))=dot n ((λp=>nv O (S.getD p [])) (a+j)) (λl=>(λl q=>nv O ((kaa n X).getD l []) q) l (a+i)):=zk λl hl=>by
   show _=nv O (S.getD (a+j) []) l*nv O ((trF n X).getD l []) (a+i);rw[ya I.oX hl]
  rw[e,this]
  by_cases c:j=i
  ·rw[bw (),bw c]
  ·rw[bx (),bx c]
 ·rw[bx hj,bx ()]
theorem kal.steered(hi:i<b):Rm O (kry k (cA k n a b A X S) (kaa h (cB k h a b B S)) n) (kae i 1):=by
 have ab:=I.ab;obtain⟨x,J,ex,_⟩:=I.getX Z (q:=a+i) ();have L:Rm O R (nv O (X.getD (a+i) [])):=by rw[ex];exact I.inR (a+i) x () J F O
 exact(I.kryC Z O n _ ((I.pt.r.eq F O _).mp L)).cast λj=>(I.unit Z O hi j)
end
end
def Zu[bu F]{O:Kf k F}(Z:kab k)(oM:OkM k n M)(ind:∀ i r,M[i]?=some r->¬ Rm O (M.take i) (nv O r)):∀ i,i<=M.length->∀ R ls,kap O n (M.take i) R ls->R.length=i
 | 0,_,R,ls,red=>by
  have e0:IsR O n ([]:Tb) []:=XM F O;have:=(red.toIsR.sub_len e0 λv hv=>red.fro v hv).1
  simpa using this
 | i+1,hi,R,ls,red=>by
  obtain⟨U,lu,rU⟩:=yA O Z (M:=M.take i) λr L=>oM r (vD L)
  have ih:=Zu Z oM ind i () U lu rU;have er:M[i]?=some M[i]:=wb ();have sm:∀ v,Rm O U v↔Rm O (M.take i) v:=λv=>(rU.fro v,rU.to v)
  have:=XL rU.toIsR red.toIsR (x:=nv O M[i]) (λh=>ind i _ er ((sm _).mp h)) λv=>by
   have s1:Rm O R v↔Rm O (M.take (i+1)) v:=(red.fro v,red.to v);rw[s1,zh er,rm_app1];exact(λ⟨u,c,hu,e⟩=>(u,c,(sm u).mpr hu,e),λ⟨u,c,hu,e⟩=>(u,c,(sm u).mp hu,e))
  omega
section
section
variable(Z:kab k)(I:kal k n h a b A B C R bO U X S)[bu F](O:Kf k F)
include Z I
theorem kal.perpL(hq:q<a)(hw:Rm O bO w):dot n w (nv O (X.getD q []))=0:=by
 have ab:=I.ab;obtain⟨x,J,ex,_⟩:=I.getX Z (q:=q) ();rw[ex];exact((I.pt.u F O _).mp (I.inU q x hq J F O)).2 _ hw
theorem kal.tA:OkM k b (kaa b (cA k n a b A X S)):=by
 have o:=zg (I.okA Z).2;rw[(I.okA Z).1]at o;exact o
theorem kal.tAn:OkM k n (kaa n A):=by
 have o:=zg I.pt.oA;rw[I.pt.lA]at o;exact o
theorem kal.powT{q:Nat}(hq:q<C.length):∀ t,t<=n->∀ j,nv O (powX k (kaa b (cA k n a b A X S)) ((cC k n a b C X).getD q []) t) j=pi1 O n a b X (nv O (powX k (kaa n A) (C.getD q []) t)) j:=by
 have ab:=I.ab;have gC:C.getD q []∈C:=by rw[wc,wb hq];exact wk _
 have gC':(cC k n a b C X).getD q []∈cC k n a b C X:=by rw[wc,wb (by rw[(I.okC Z).1];exact hq)];exact wk _
 have oc:=I.pt.oC _ gC;have oc':=(I.okC Z).2 _ gC';intro t
 induction t with
 | zero =>
  intro _ j;show nv O ((cC k n a b C X).getD q []) j=pi1 O n a b X (nv O (C.getD q [])) j;unfold pi1
  by_cases hj:j<b
  ·rw[bw hj,I.nvC Z O hj]
  ·rw[bx hj,zY O (by rw[oc'.1];omega)]
 | succ t ih =>
  intro ht j;have op:=zF Z (I.tAn Z) (ze n A) oc.2 oc.1 t;have op':=zF Z (I.tA Z) (ze b _) oc'.2 oc'.1 t;have hL:Rm O bO (nv O (powX k (kaa n A) (C.getD q []) t)):=by
   have h1:Rm O (kry k (kaa n A) C t) (nv O (powX k (kaa n A) (C.getD q []) t)):=.of (_,qs gC t t (ww t),V);obtain⟨d,rfl⟩:=Nat.le.dest (show t<=n by omega);exact(I.pt.l.eq F O _).mpr (jC Z (I.tAn Z) (ze _ A) I.pt.oC t d _ h1)
  show nv O (imgM k (kaa b (cA k n a b A X S)) _) j=pi1 O n a b X (nv O (imgM k (kaa n A) _)) j;rw[yJ Z (I.tA Z) op'.1 op'.2,Xl (ih ())];have e0:nv O (imgM k (kaa n A) (powX k (kaa n A) (C.getD q []) t))=limg O n (trF n A) (nv O (powX k (kaa n A) (C.getD q []) t)):=funext λi=>yJ Z (I.tAn Z) op.1 op.2 i
  rw[e0];unfold limg
  by_cases hj:j<b
  ·have e1:pi1 O n a b X (λi=>dot n (nv O ((trF n A).getD i [])) (nv O (powX k (kaa n A) (C.getD q []) t))) j=dot n (limg O n (trF n A) (nv O (powX k (kaa n A) (C.getD q []) t))) (nv O (X.getD (a+j) [])):=by unfold pi1;rw[bw hj];rfl
   obtain⟨x,J,ex,_⟩:=I.getX Z (q:=a+j) ();have hxR:Rm O R (nv O (X.getD (a+j) [])):=by rw[ex];exact I.inR (a+j) x () J F O
   rw[e1,yH I.pt.oA I.pt.lA,I.seen Z O (I.keptR Z O hxR) λq hq=>I.perpL Z O hq hL,zp b (nv O ((kaa b (cA k n a b A X S)).getD j []))];refine zk λi hi=>?_
   have e3:nv O ((kaa b (cA k n a b A X S)).getD j []) i=nv O ((cA k n a b A X S).getD i []) j:=ya (O:=O) (i:=i) (I.okA Z).2 hj;rw[e3,I.nvA Z O hi hj];unfold pi1;rw[bw hi]
  ·rw[wc,wK (by rw[ze];omega),dot_zero b _ _ λi _=>by
    have:nv O ((none:Option (List Nb)).getD []) i=0:=xR i;rw[this];grind]
   unfold pi1;rw[bx hj]
theorem kal.dual(t:Nat)(v:Nat->F)(ht:t<=n)(hv:Rm O (kry k (kaa n A) C t) v):Rm O (kry k (kaa b (cA k n a b A X S)) (cC k n a b C X) t) (pi1 O n a b X v):=by
 refine hv.all (P:=λv=>Rm O (kry k (kaa b (cA k n a b A X S)) (cC k n a b C X) t) (pi1 O n a b X v)) (Span.cast .zero λi=>?_) λc r v ⟨x,J,e⟩ hw=>?_
 ·unfold pi1
  split
  ·exact(dot_zero n _ _ λj _=>by grind).symm
  ·rfl
 obtain⟨y,hy,i,hi,rfl⟩:=yB t x J;obtain⟨l,hl,el⟩:=wD hy;have ex:C.getD l []=y:=by rw[wc,wb hl,el];rfl
 have hl':l <(cC k n a b C X).length:=by rw[(I.okC Z).1];exact hl
 have em:(cC k n a b C X).getD l []∈cC k n a b C X:=by rw[wc,wb hl'];exact wk hl'
 refine Span.cast (.step c (r:=nv O (powX k (kaa b (cA k n a b A X S)) ((cC k n a b C X).getD l []) i)) (_,qs em t i hi,V) hw) λj=>?_
 rw[I.powT Z O hl i () j,ex,e];unfold pi1
 split
 ·rw[zp n (λj=>c*nv O (powX k (kaa n A) y i) j+v j),yl n _ (λj=>c*nv O (powX k (kaa n A) y i) j) v,ym,zp n _ v,zp n (nv O (X.getD (a+j) [])) (nv O (powX k (kaa n A) y i))]
 ·grind
theorem kal.seenAll{u:Nat->F}(hu:∀ w,Rm O (kry k (kaa b (cA k n a b A X S)) (cC k n a b C X) n) w->dot b w u=0){i:Nat}(hi:i<b):u i=0:=by
 have ab:=I.ab;have sw:∀ l:Nat->F,dot n l (λp=>dot b u (λj=>nv O (X.getD (a+j) []) p))=dot b u (λj=>dot n l (nv O (X.getD (a+j) []))):=λl=>by
  have e1:dot n l (λp=>dot b u (λj=>nv O (X.getD (a+j) []) p))=dot n l (λp=>dot b (λj=>nv O (X.getD (a+j) []) p) u):=zk λp _=>by rw[zp b u]
  rw[e1,xh b u (λp j=>nv O (X.getD (a+j) []) p) l n,zp b u]
 have hU:Rm O U (λp=>dot b u (λj=>nv O (X.getD (a+j) []) p)):=by
  refine(I.pt.u F O _).mpr (λp hp=>dot_zero b _ _ λj hj=>?_,λl hl=>?_)
  ·obtain⟨x,J,ex,lx,_⟩:=I.getX Z (q:=a+j) ();rw[ex,zY O ()];grind
  ·rw[sw l];have h1:=hu _ (I.dual Z O n l (ww n) ((I.pt.l.eq F O l).mp hl));rw[← h1,zp b u];refine zk λj hj=>?_
   unfold pi1;rw[bw hj]
 obtain⟨s,hs,es,_⟩:=I.getS Z (q:=a+i) ();have z:=I.offU (a+i) s () () hs F O _ hU;rw[sw,← es]at z;have e2:dot b u (λj=>dot n (nv O (S.getD (a+i) [])) (nv O (X.getD (a+j) [])))=dot b u (kae i 1):=zk λj hj=>by
  congr 1
  have e:=I.unit Z O hj i;unfold pi0 at e;rw[bw hi]at e;rw[e];unfold kae
  by_cases c:i=j
  ·rw[bw c,bw c.symm]
  ·rw[bx c,bx (λz=>c z.symm)]
 rw[e2,yd hi]at z
 grind
end
end
section
variable(Z:kab k)(oA:OkM k b A)(lA:A.length=b)
include Z oA lA
theorem Yo[bu F](O:Kf k F)(oc:OkR k c)(lc:c.length=b)(oy:OkR k y)(ly:y.length=b):∀ i j,dot b (nv O (powX k (kaa b A) c i)) (nv O (powX k A y j))=dot b (nv O c) (nv O (powX k A y (i+j)))
 | 0,j=>by rw[uk];rfl
 | i+1,j=>by
  have oT:OkM k b (kaa b A):=by have:=zg oA;rw[lA]at this;exact this
  have op:=zF Z oT (ze b A) oc lc i;have oq:=zF Z oA lA oy ly j;have e1:nv O (powX k (kaa b A) c (i+1))=limg O b (trF b A) (nv O (powX k (kaa b A) c i)):=funext λt=>yJ Z oT op.1 op.2 t
  have e2:limg O b A (nv O (powX k A y j))=nv O (powX k A y (j+1)):=funext λt=>(yJ Z oA oq.1 oq.2 t).symm
  rw[e1,yH oA lA,e2,Yo O oc lc oy ly i (j+1),show i +(j+1)=i+1+j by omega]
theorem QP(oC:OkM k b C)(oB:OkM k b Bt)(lB:Bt.length=h)
  (st:∀ F [bu F] (O:Kf k F) i,i<b->Rm O (kry k A Bt N) (kae i 1))
  (ob:∀ F [bu F] (O:Kf k F) u,(∀ w,Rm O (kry k (kaa b A) C N) w->dot b w u=0)->∀ i,i<b->u i=0)
  (oH:OkM k ((N+1)*h) H)
  (toH:∀ r∈H,∃ i q,i<=N/\q<C.length/\∀ j l,j<=N->l<h->r[j*h+l]?=some (ndot k (C.getD q []) (powX k A (Bt.getD l []) (i+j))))
  (frH:∀ i q,i<=N->q<C.length->∃ r∈H,∀ j l,j<=N->l<h->r[j*h+l]?=some (ndot k (C.getD q []) (powX k A (Bt.getD l []) (i+j))))
  (rZ:RdR k ((N+1)*h) bM) (eZ:kau k bM H):bM.length=b:=by
 obtain⟨F,_,_,⟨O⟩⟩:=zw Z;obtain⟨lz,iZ⟩:=rZ;have oT:OkM k b (kaa b A):=by have:=zg oA;rw[lA]at this;exact this
 have lT:=ze b A;have gB:∀ l,l<h->(Bt.getD l [])∈Bt:=λl hl=>by rw[wc,wb ()];exact wk _
 have gC:∀ q,q<C.length->(C.getD q [])∈C:=λq hq=>by rw[wc,wb hq];exact wk _
 let κ:Nat->Nat->F:=λt=>nv O (powX k A (Bt.getD (t % h) []) (t / h))
 let Θ:(Nat->F)->Nat->F:=λw t=>if t <(N+1)*h then dot b w (κ t)else 0
 have sp:∀ t,t <(N+1)*h->t % h<h/\t / h<=N/\t / h*h+t % h=t:=λt ht=>by
  have h0:0<h:=by rcases gm h with e|e;(rw[e,Nat.mul_zero]at ht;omega);exact e
  have:=gE (by rw[vJ];exact ht:t<h *(N+1));have e:=GF t h;rw[vJ]at e;exact(Gs _ h0,(),e)
 have lin:∀(c:F)(u v:Nat->F)(t:Nat),Θ (λj=>c*u j+v j) t=c*Θ u t+Θ v t:=λc u v t=>by
  show(if t<_ then _ else _)=c *(if t<_ then _ else _) +(if t<_ then _ else _)
  split
  ·rw[zp,yl b _ (λj=>c*u j) v,ym,zp b _ u,zp b _ v]
  ·grind
 have zer:∀ t,Θ (λ_=>0) t=0:=λt=>by
  show(if t<_ then _ else _)=_
  split
  ·exact dot_zero b _ _ λj _=>by grind
  ·rfl
 have out:∀ w t,(N+1)*h<=t->Θ w t=0:=λw t ht=>by
  show(if t<_ then _ else _)=_;rw[bx ()]
 have row:∀ i q (r:List Nb),r.length =(N+1)*h->q<C.length->(∀ j l,j<=N->l<h->r[j*h+l]?=some (ndot k (C.getD q []) (powX k A (Bt.getD l []) (i+j))))->∀ t,nv O r t=Θ (nv O (powX k (kaa b A) (C.getD q []) i)) t:=λi q r lr hq L t=>by
  rcases wH t ((N+1)*h)with ht|ht
  ·obtain⟨s1,s2,s3⟩:=sp t ht;have e:=L (t / h) (t % h) s2 s1;rw[s3]at e;have oc:=oC _ (gC q hq);have oy:=oB _ (gB _ s1);have op:=zF Z oA lA oy.2 oy.1 (i+t / h);rw[zI O e,zP O Z oc.2 op.1 (by rw[oc.1,op.2]),oc.1];show _=if t<_ then _ else _
   rw[bw ht];exact(Yo Z oA lA O oc.2 oc.1 oy.2 oy.1 i (t / h)).symm
  ·rw[zY O (),out _ t ht]
 have to:∀ v,Rm O H v->∃ w,∀ t,v t=Θ w t:=λv hv=>by
  refine hv.all (P:=λv=>∃ w,∀ t,v t=Θ w t) (λ_=>0,λt=>(zer t).symm) λc r v ⟨x,J,e⟩ ⟨w,hw⟩=>?_
  obtain⟨i,q,hi,hq,L⟩:=toH x J;exact(λj=>c*nv O (powX k (kaa b A) (C.getD q []) i) j+w j,λt=>by
   show c*r t+v t=_;rw[lin,e,row i q x (oH x J).1 hq L t,hw t])
 have fro:∀ w,Rm O (kry k (kaa b A) C N) w->Rm O H (Θ w):=λw hw=>by
  refine hw.all (P:=λw=>Rm O H (Θ w)) (Span.cast .zero λt=>(zer t).symm) λc r v ⟨x,J,e⟩ hv=>?_
  obtain⟨y,hy,i,hi,ex⟩:=yB N x J;obtain⟨q,hq,eq⟩:=wD hy;have ey:C.getD q []=y:=by rw[wc,wb hq,eq];rfl
  obtain⟨r',hr',hf⟩:=frH i q hi hq;refine Span.cast (.step c (r:=nv O r') (r',hr',V) hv) λt=>?_
  rw[lin,e,ex,← ey,row i q r' (oH r' hr').1 hq hf t]
 have full:∀ i,i<b->Rm O (kry k (kaa b A) C N) (kae i 1):=λi hi=>by
  obtain⟨Rk,lk,red⟩:=yA O Z (yq Z oT lT oC N);refine red.fro _ ((yM red.toIsR Z _).mp (λj hj=>by unfold kae;rw[bx ()],λu hu=>?_));have z:=ob F O u λw hw=>hu.2 w (red.to w hw)
  exact dot_zero b _ _ λj hj=>by rw[z j hj];grind
 let G:Tb:=(wY b).map λi=>ofV O ((N+1)*h) (Θ (kae i 1))
 have lG:G.length=b:=by show((wY b).map _).length=b;rw[wa,vx]
 have gG:∀ i,i<b->G[i]?=some (ofV O ((N+1)*h) (Θ (kae i 1))):=λi hi=>by
  show((wY b).map _)[i]?=_;rw[wg,vw hi];rfl
 have nG:∀ i t,nv O (ofV O ((N+1)*h) (Θ (kae i 1))) t=Θ (kae i 1) t:=λi t=>JC (λj hj=>out _ j hj) t
 have oG:OkM k ((N+1)*h) G:=λr L=>by
  obtain⟨i,_,rfl⟩:=wj.mp L;exact Jp _
 have uT:∀ i t,i<b->t <(N+1)*h->Θ (kae i 1) t=κ t i:=λi t hi ht=>by
  show(if t<_ then _ else _)=_;rw[bw ht,zp,yd hi];grind
 have red:kap O ((N+1)*h) G bM lz:={ (iZ F O)with
  to:=λv hv=>(eZ F O v).mpr (hv.bind λu ⟨r,L,e⟩=>by
   obtain⟨i,hi,rfl⟩:=wj.mp L;rw[e];exact(fro _ (full i (wP.mp hi))).cast λt=>(nG i t).symm)
  fro:=λv hv=>by
   obtain⟨w,hw⟩:=to v ((eZ F O v).mp hv);refine(ZG (O:=O) G w b).cast λt=>?_
   rw[hw t];have e:∀ l,l<b->nv O (G.getD l []) t=Θ (kae l 1) t:=λl hl=>by rw[wc,gG l hl];exact nG l t
   rcases wH t ((N+1)*h)with ht|ht
   ·show _=if t<_ then _ else _
    rw[bw ht];exact zk λl hl=>by rw[e l hl,uT l t hl ht]
   ·rw[out _ t ht,dot_zero b _ _ λl hl=>by rw[e l hl,out _ t ht];grind] }
 have ind:∀(i:Nat)(r:List Nb),G[i]?=some r->¬ Rm O (G.take i) (nv O r):=λi r L hv=>by
  have hi:i<b:=by rw[← lG];exact(wu.mp L).1
  rw[gG i hi]at L;have er:=Option.some.inj L;obtain⟨w,wz,hw⟩ : ∃ w:Nat->F,(∀ j,i<=j->w j=0)/\∀ t,nv O r t=Θ w t:=by
   refine hv.all (P:=λv=>∃ w:Nat->F,(∀ j,i<=j->w j=0)/\∀ t,v t=Θ w t) (λ_=>0,λ_ _=>rfl,λt=>(zer t).symm) λc r' v ⟨x,J,e⟩ ⟨w,wz,hw⟩=>?_
   obtain⟨q,hq,eq⟩:=wD J;have hqi:q<i:=by rw[wr]at hq;omega
   rw[waV]at eq;have ex:x=ofV O ((N+1)*h) (Θ (kae q 1)):=by
    have:=gG q ();rw[wb (),eq]at this;exact Option.some.inj this
   refine(λj=>c*kae q 1 j+w j,λj hj=>?_,λt=>?_)
   ·show c*kae q 1 j+w j=0;unfold kae;rw[bx (),wz j hj];grind
   ·show c*r' t+v t=_;rw[lin,e,ex,nG q t,hw t]
  have z:∀ x,Rm O (kry k A Bt N) x->dot b (λj=>kae i 1 j - w j) x=0:=λx J=>by
   refine Span.dot_zero_r J λu ⟨y,hy,e⟩=>?_
   obtain⟨y0,hy0,j,hj,ey⟩:=yB N y hy;obtain⟨l,hl,el⟩:=wD hy0;have h0:l<h:=by omega
   have ht:j*h+l <(N+1)*h:=by
    have:(j+1)*h<=(N+1)*h:=wI _ ();rw[vG,vL]at this;omega
   have m1:(j*h+l) % h=l:=by rw[vJ,wa5,Gu h0]
   have m2:(j*h+l) / h=j:=by rw[vJ,wa6 (),wa2 h0,GL]
   have ek:κ (j*h+l)=u:=by
    show nv O (powX k A (Bt.getD ((j*h+l) % h) []) ((j*h+l) / h))=u;rw[m1,m2,e,ey,← el,wc,wb hl];rfl
   have h1:=hw (j*h+l);rw[← er,nG i]at h1;have h2:dot b (kae i 1) (κ (j*h+l))=dot b w (κ (j*h+l)):=by
    have a1:Θ (kae i 1) (j*h+l)=dot b (kae i 1) (κ (j*h+l)):=bw ht;have a2:Θ w (j*h+l)=dot b w (κ (j*h+l)):=bw ht;rw[← a1,← a2];exact h1
   rw[← ek,zp,QV,zp b _ (kae i 1),zp b _ w,h2]
   grind
  have f:=z _ (st F O i hi);rw[yd hi,wz i (ww i)]at f;have one:(kae (F:=F) i 1) i=1:=by unfold kae;rw[bw rfl]
  rw[one]at f;exact Lean.Grind.Field.zero_ne_one (α:=F) (by grind)
 have r2:kap O ((N+1)*h) (G.take b) bM lz:=by rw[wm ()];exact red
 exact Zu Z oG ind b () bM lz r2
end
def Qa{P:Nb->Prop}(hl:∀ r∈M,r.length=c)(h:∀ r∈M,∀ x∈r,P x):∀ r∈kaa c M,∀ x∈r,P x:=λr L x J=>by
 unfold kaa at L;obtain⟨j,hj,rfl⟩:=wj.mp L;obtain⟨q,hq,rfl⟩:=wj.mp J;have:=hl q hq;rw[wP]at hj;rw[wc,wb ()];exact h q hq _ (wk _)
section
section
variable(Z:kab k)(I:kal k n h a b A B C R bO U X S)
include Z I
theorem kal.entA(L:r∈cA k n a b A X S)(J:x∈r):∃ s∈cutR a b S,∃ y∈cutR a b X,x=ndot k s (imgM k A y):=by
 obtain⟨oT,tT⟩:=I.oT' Z;have e0:cA k n a b A X S=kaf k b (cutR a b S) (kaf k b A (kaa n (cutR a b X))):=Xe Z (I.oS' Z).1 I.pt.oA I.pt.lA oT (ze n _);have e1:kaa b (kaf k b A (kaa n (cutR a b X))) =(cutR a b X).map (imgM k A):=by
  refine Eq.trans (XW (k:=k) (d:=b) (N:=A) (P:=kaa n (cutR a b X))) ?_;show(kaa b (kaa n (cutR a b X))).map _=_;rw[tT];rfl
 rw[e0]at L;unfold kaf at L;obtain⟨s,hs,rfl⟩:=wj.mp L;obtain⟨c,hc,rfl⟩:=wj.mp J;have hc':c∈(cutR a b X).map (imgM k A):=by rw[← e1];exact hc
 obtain⟨y,hy,rfl⟩:=wj.mp hc';exact(s,hs,y,hy,V)
theorem kal.entC(L:r∈cC k n a b C X)(J:x∈r):∃ c∈C,∃ y∈cutR a b X,x=ndot k c y:=by
 obtain⟨oT,tT⟩:=I.oT' Z;unfold cC kaf at L;obtain⟨c,hc,rfl⟩:=wj.mp L;rw[tT]at J;obtain⟨y,hy,rfl⟩:=wj.mp J;exact(c,hc,y,hy,V)
theorem kal.powL{l:Nat}(hl:l<h)(t:Nat):powX k (cA k n a b A X S) ((kaa h (cB k h a b B S)).getD l []) t =(cutR a b S).map λs=>ndot k s (powX k A ((kaa h B).getD l []) t):=by
 obtain⟨F,_,_,⟨O⟩⟩:=zw Z;have oc:=I.tBn Z _ (we (getT B hl));have op:=zF Z I.pt.oA I.pt.lA oc.2 oc.1 t;have oc':=I.tB Z _ (we (getT (cB k h a b B S) hl));have op':=zF Z (I.okA Z).2 (I.okA Z).1 oc'.2 oc'.1 t;obtain⟨oS',lS'⟩:=I.oS' Z;have ab:=I.ab;refine YF O op'.1 (λx J=>?_) (by rw[op'.2,wa,lS']) λi=>?_
 ·obtain⟨s,hs,rfl⟩:=wj.mp J;exact zN Z (oS' s hs).2 op.1
 ·rw[I.pow Z O hl t i];unfold pi0
  by_cases hi:i<b
  ·obtain⟨s,hs,es,ls,os⟩:=I.getS Z (q:=a+i) ();rw[bw hi,es,zI O (x:=ndot k s (powX k A ((kaa h B).getD l []) t)) (by rw[wg,jt hi,hs];rfl),zP O Z os op.1 (by rw[ls,op.2]),ls]
  ·rw[bx hi,zY O (by rw[wa,lS'];omega)]
theorem kal.powD(hq:q<C.length)(ht:t<=n):powX k (kaa b (cA k n a b A X S)) ((cC k n a b C X).getD q []) t =(cutR a b X).map λx=>ndot k (powX k (kaa n A) (C.getD q []) t) x:=by
 obtain⟨F,_,_,⟨O⟩⟩:=zw Z;have ab:=I.ab;have gC:C.getD q []∈C:=by rw[wc,wb hq];exact wk _
 have gC':(cC k n a b C X).getD q []∈cC k n a b C X:=by rw[wc,wb (by rw[(I.okC Z).1];exact hq)];exact wk _
 have oc:=I.pt.oC _ gC;have oc':=(I.okC Z).2 _ gC';have op:=zF Z (I.tAn Z) (ze n A) oc.2 oc.1 t;have op':=zF Z (I.tA Z) (ze b _) oc'.2 oc'.1 t;obtain⟨oX',lX'⟩:=I.oX' Z;refine YF O op'.1 (λx J=>?_) (by rw[op'.2,wa,lX']) λj=>?_
 ·obtain⟨y,hy,rfl⟩:=wj.mp J;exact zN Z op.1 (oX' y hy).2
 ·rw[I.powT Z O hq t ht j];unfold pi1
  by_cases hj:j<b
  ·obtain⟨x,J,ex,lx,ox⟩:=I.getX Z (q:=a+j) ();rw[bw hj,ex,zI O (x:=ndot k (powX k (kaa n A) (C.getD q []) t) x) (by rw[wg,jt hj,J];rfl),zP O Z op.1 ox (by rw[lx,op.2]),op.2]
  ·rw[bx hj,zY O (by rw[wa,lX'];omega)]
theorem kal.steeredB{F:Type}[bu F](O:Kf k F){i:Nat}(hi:i<b):Rm O (kry k (cA k n a b A X S) (kaa h (cB k h a b B S)) b) (kae i 1):=by
 have ab:=I.ab;have s:∀ v,Rm O (kry k (cA k n a b A X S) (kaa h (cB k h a b B S)) (b - 1+1)) v->Rm O (kry k (cA k n a b A X S) (kaa h (cB k h a b B S)) (b - 1)) v:=λv hv=>by
  rw[show b - 1+1=b by omega]at hv;exact xM Z (I.okA Z).2 (I.okA Z).1 (I.tB Z) () v hv
 have h1:=(xN Z (I.okA Z).2 (I.okA Z).1 (I.tB Z) s (show b - 1<=n by omega) _).mp (I.steered Z O hi);exact(xN Z (I.okA Z).2 (I.okA Z).1 (I.tB Z) s (show b - 1<=b by omega) _).mpr h1
theorem kal.seenB[bu F](O:Kf k F)(hi:i<b):Rm O (kry k (kaa b (cA k n a b A X S)) (cC k n a b C X) b) (kae i 1):=by
 have ab:=I.ab;have s:∀ v,Rm O (kry k (kaa b (cA k n a b A X S)) (cC k n a b C X) (b - 1+1)) v->Rm O (kry k (kaa b (cA k n a b A X S)) (cC k n a b C X) (b - 1)) v:=λv hv=>by
  rw[show b - 1+1=b by omega]at hv;exact xM Z (I.tA Z) (ze b _) (I.okC Z).2 () v hv
 obtain⟨Rk,lk,red⟩:=yA O Z (yq Z (I.tA Z) (ze b _) (I.okC Z).2 b);refine red.fro _ ((yM red.toIsR Z _).mp (λj hj=>by unfold kae;rw[bx ()],λu hu=>?_));have z:∀ j,j<b->u j=0:=λj hj=>I.seenAll Z O (λw hw=>by
  have h1:=(xN Z (I.tA Z) (ze b _) (I.okC Z).2 s (show b - 1<=n by omega) _).mp hw;exact hu.2 w (red.to w ((xN Z (I.tA Z) (ze b _) (I.okC Z).2 s (show b - 1<=b by omega) _).mpr h1))) hj
 exact dot_zero b _ _ λj hj=>by rw[z j hj];grind
end
end
theorem zgp(Z:kab k)(iR:IsRa k n R ls)(full:∀ F [bu F] (O:Kf k F) i,i<n->Rm O R (kae i 1)):R.length=n:=by
 have e:R=kam k n:=Yl Z (ls,iR) (_,λF _ O=>yQ O Z n) λF _ O v=>(λhv=>jc Z O v λj hj=>(iR F O).supp hv j hj,λhv=>hv.bind λu ⟨r,L,e⟩=>by
  unfold kam at L;obtain⟨i,hi,rfl⟩:=wj.mp L;rw[e];exact(full F O i (wP.mp hi)).cast λj=>(xn (wP.mp hi) j).symm)
 rw[e,(zW Z n).2]
def sqR(Ms:Nat->Tb)(i q:Nat):Nat->List Nb
 | 0=>[]
 | j+1=>sqR Ms i q j ++(Ms (i+j)).getD q []
def sqI(Ms:Nat->Tb)(n i:Nat):Nat->Tb
 | 0=>[]
 | q+1=>sqI Ms n i q++[sqR Ms i q n]
def sqT(Ms:Nat->Tb)(n s:Nat):Nat->Tb
 | 0=>[]
 | i+1=>sqT Ms n s i++sqI Ms n i s
def jM:∀ q,r∈sqI Ms n i q↔∃ q',q'<q/\r=sqR Ms i q' n
 | 0=>((λh=>nomatch h),λ⟨_,h,_⟩=>bK h (vN _))
 | q+1=>by
  show r∈sqI Ms n i q++[sqR Ms i q n]↔_;rw[wp,jM q,wx]
  constructor
  ·rintro (⟨q',h,e⟩|e)
   ·exact(q',(),e)
   ·exact(q,(),e)
  ·rintro ⟨q',h,e⟩
   rcases uv (ux h)with h'|h'
   ·exact .inl (q',h',e)
   ·rw[h']at e;exact .inr e
def zL:∀ i,r∈sqT Ms n s i↔∃ i' q,i'<i/\q<s/\r=sqR Ms i' q n
 | 0=>((λh=>nomatch h),λ⟨_,_,h,_⟩=>bK h (vN _))
 | i+1=>by
  show r∈sqT Ms n s i++sqI Ms n i s↔_;rw[wp,zL i,jM]
  constructor
  ·rintro (⟨i',q,h,hq,e⟩|⟨q,hq,e⟩)
   ·exact(i',q,(),hq,e)
   ·exact(i,q,(),hq,e)
  ·rintro ⟨i',q,h,hq,e⟩
   rcases uv (ux h)with h'|h'
   ·exact .inl (i',q,h',hq,e)
   ·rw[h']at e;exact .inr (q,hq,e)
def yi Ms n i:∀ q,(sqI Ms n i q).length=q
 | 0=>rfl
 | q+1=>by show(sqI Ms n i q++[_]).length=_;rw[wy,yi Ms n i q];rfl
section
variable{X:Nat->Tb}(oX:∀ t,t<N->OkM k c (X t)/\(X t).length=p)
include oX
theorem Jh(ht:t<N)(hq:q<p):(X t)[q]?=some ((X t).getD q [])/\((X t).getD q []).length=c/\OkR k ((X t).getD q []):=by
 have o:=oX t ht;have hl:q <(X t).length:=by rw[o.2];exact hq
 have e:(X t).getD q [] =(X t)[q]:=by rw[wc,wb hl];rfl
 rw[e];exact(wb hl,o.1 _ (wk hl))
theorem qX(hq:q<p):∀ j,i+j<=N->(sqR X i q j).length=j*c/\OkR k (sqR X i q j)
 | 0,_=>(by rw[GK];rfl,λ_ h=>nomatch h)
 | j+1,hj=>by
  have ih:=qX (i:=i) hq j ();obtain⟨_,l,o⟩:=Jh oX (t:=i+j) () hq;refine(by show(sqR X i q j++_).length=_;rw[wy,ih.1,l,vG,vL],λx J=>?_)
  rcases wp.mp J with h'|h'
  ·exact ih.2 x h'
  ·exact o x h'
theorem Qz(hq:q<p)(hl:l<c):∀ bN j,j<bN->i+bN<=N->(sqR X i q bN)[j*c+l]? =((X (i+j)).getD q [])[l]?
 | bN+1,j,hj,hJ=>by
  obtain⟨len,_⟩:=qX oX (i:=i) hq bN ();show(sqR X i q bN ++(X (i+bN)).getD q [])[j*c+l]?=_
  rcases uv (ux hj)with h'|h'
  ·have:(j+1)*c<=bN*c:=wI _ h';rw[vG,vL]at this;rw[vk ()];exact Qz hq hl bN j h' ()
  ·subst h';rw[wW (),len,vK]
theorem zag{P:Nb->Prop}(hP:∀ t,t<N->∀ r∈X t,∀ x∈r,P x)(hq:q<p):∀ j,i+j<=N->∀ x∈sqR X i q j,P x
 | 0,_,x,J=>(nomatch J)
 | j+1,hj,x,J=>by
  obtain⟨e,_⟩:=Jh oX (t:=i+j) () hq
  rcases wp.mp J with h'|h'
  ·exact zag hP hq j () x h'
  ·exact hP (i+j) () _ (we e) x h'
theorem xc(h:a+b<=N+1):OkM k (a*c) (sqT X a p b):=λr L=>by
 obtain⟨i,q,hi,hq,rfl⟩:=(zL b).mp L;exact qX oX hq a ()
theorem zdJ{P:Nb->Prop}(hP:∀ t,t<N->∀ r∈X t,∀ x∈r,P x)(h:a+b<=N+1):∀ r∈sqT X a p b,∀ x∈r,P x:=λr L=>by
 obtain⟨i,q,hi,hq,rfl⟩:=(zL b).mp L;exact zag oX hP hq a ()
variable[bu F](O:Kf k F)(c0:0<c)
include c0
theorem YC(hq:q<p)(h:i+a<=N) j:nv O (sqR X i q a) j=if j<a*c then nv O ((X (i+j / c)).getD q []) (j % c)else 0:=by
 split
 ·rename_i hj;have hd:j / c<a:=gE (by rw[vJ];exact hj);have e:=Qz oX (i:=i) hq (Gs j c0) a (j / c) hd h;have ej:j / c*c+j % c=j:=by rw[vJ];exact GF j c
  rw[ej]at e;generalize (X (i+j / c)).getD q []=y at *;show O.to (uG _ j _)=O.to (uG _ (j % c) _);rw[wc,e,wc]
 ·rename_i hj;exact zY O (by rw[(qX oX hq a h).1];omega)
theorem zfA(hq:q<p)(h:i+a<=N)(hj:j<a)(hs:s<c):nv O (sqR X i q a) (j*c+s)=nv O ((X (i+j)).getD q []) s:=by
 have h1:(j+1)*c<=a*c:=wI _ hj;rw[vG,vL]at h1;rw[YC oX O c0 hq h,bw (),vJ,wa6 c0,wa2 hs,GL,wa5,Gu hs]
end
section
variable{F:Type}[bu F]{O:Kf k F}
structure LinF(T:(Nat->F)->Nat->F):Prop where
 lin:∀(c:F)(u v:Nat->F)(j:Nat),T (λi=>c*u i+v i) j=c*T u j+T v j
 zer:∀ j,T (λ_=>0) j=0
def LinF.rm(bO:LinF T)(h:∀ r∈M,Rm O Y (T (nv O r)))(hv:Rm O M v):Rm O Y (T v) :=
 hv.all (P:=λv=>Rm O Y (T v)) (Span.cast .zero λj=>(bO.zer j).symm) λc r v ⟨x,J,e⟩ hv=>(((h x J).smul c).add hv).cast λj=>by rw[bO.lin,e]
def LinF.onto(bO:LinF T)(h:∀ r∈Y,∃ x,Rm O M x/\∀ j,T x j=nv O r j)(hu:Rm O Y u):∃ v,Rm O M v/\∀ j,T v j=u j :=
 hu.all (P:=λu=>∃ v,Rm O M v/\∀ j,T v j=u j) (λ_=>0,.zero,λj=>bO.zer j) λc r u ⟨y,hy,e⟩ ⟨v,hv,hT⟩=>by
  obtain⟨x,J,ex⟩:=h y hy;exact(λj=>c*x j+v j,(J.smul c).add hv,λj=>by rw[bO.lin,hT,ex,e])
def LinF.sum(bO:LinF T)(u:Nat->F) j:∀ n,T (λi=>if i<n then u i else 0) j=dot n u (λi=>T (kae i 1) j)
 | 0=>by
  have:(λi=>if i<0 then u i else 0)=λ_:Nat=>(0:F):=funext λi=>bx (vN _)
  rw[this,bO.zer];rfl
 | n+1=>by
  have:(λi=>if i<n+1 then u i else 0)=λi=>u n*kae n 1 i +(if i<n then u i else 0):=funext λi=>by
   unfold kae
   rcases GV i n with h|h|h
   ·rw[bw (),bx (),bw h];grind
   ·rw[bw (),bw h,bx (),h];grind
   ·rw[bx (),bx (),bx ()];grind
  rw[this,bO.lin,bO.sum u j n];show _=dot n u _+u n*_
  grind
def trV(w:Nat)(v:Nat->F):Nat->F:=λj=>if j<w then v j else 0
def shV(c w:Nat)(v:Nat->F):Nat->F:=λj=>if j<w then v (j+c)else 0
def zaf w:LinF (F:=F) (trV w):=(λc u v j=>by unfold trV;split <;> grind,λj=>by unfold trV;split <;> rfl)
def zgy c w:LinF (F:=F) (shV c w):=(λc u v j=>by unfold shV;split <;> grind,λj=>by unfold shV;split <;> rfl)
def Qb(u v:Nat->F):∀ n,dot (n+1) u v=u 0*v 0+dot n (λi=>u (i+1)) (λi=>v (i+1))
 | 0=>by show(0:F)+_=_+0;grind
 | n+1=>by
  show dot (n+1) u v+u (n+1)*v (n+1)=_ +(dot n _ _+u (n+1)*v (n+1));rw[Qb u v n];grind
def zbw v j:∀(ls:List Nat)(U:Tb),ls.length=U.length->comb (ls.zip (U.map (nv O))) v j=dot U.length (λi=>v (ls.getD i 0)) (λi=>nv O (U.getD i []) j)
 | [],[],_=>rfl
 | l::ls,u::U,h=>by
  have ih:=zbw v j ls U (by simpa using h);show v l*nv O u j+comb (ls.zip (U.map (nv O))) v j=dot (U.length+1) _ _;rw[Qb,ih];rfl
def expand(h:IsR O n U lu)(hv:Rm O U v) j:v j=dot U.length (λi=>v (lu.getD i 0)) (λi=>nv O (U.getD i []) j):=by
 rw[← zbw v j lu U h.len];exact(h.rr.comb (h.rows.mpr hv) j).symm
def Rnk(O:Kf k F)(n:Nat)(M:Tb)(r:Nat):Prop:=∃ R ls,IsR O n R ls/\(∀ v,Rm O R v↔Rm O M v)/\R.length=r
def zfT(Z:kab k)(oM:OkM k n M):∃ R ls,kap O n M R ls/\R.length<=M.length:=by
 have:∃ Ws:List (List Int),Ws.length=M.length/\∀(i:Nat) r ws,M[i]?=some r->Ws[i]?=some ws->∃ b,Scl k r ws b:=by
  induction M with
  | nil=>exact([],V,λi r ws h=>by simp at h)
  | cons m M ih =>
   obtain⟨Ws,l,h⟩:=ih λr L=>oM r (wt _ L)
   obtain⟨b,hb⟩:=yT Z (oM m wo).2;refine(m.map (scW b)::Ws,by simp[l],λi r ws h1 h2=>?_);cases i with
   | zero=>simp at h1 h2;subst h1 h2;exact(b,hb)
   | succ i=>exact h i r ws (by simpa using h1) (by simpa using h2)
 obtain⟨Ws,l,h⟩:=this;refine(_,_,jR O Z oM l h,?_);have:=jp (k:=k) Ws n;unfold redM;rw[wa];omega
def QZ(Z:kab k)(oM:OkM k n M):∃ r,Rnk O n M r:=by
 obtain⟨R,ls,red,_⟩:=zfT (O:=O) Z oM;exact(_,R,ls,red.toIsR,λv=>(red.fro v,red.to v),V)
def yP(h:Rnk O n M r)(h':Rnk O n M' r')(sub:∀ v,Rm O M v->Rm O M' v):r<=r'/\(r'<=r->∀ v,Rm O M' v->Rm O M v):=by
 obtain⟨R,ls,i,e,rfl⟩:=h;obtain⟨R',ls',i',e',rfl⟩:=h';have:=i.sub_len i' λv hv=>(e' v).mpr (sub v ((e v).mp hv))
 exact(this.1,λhl v hv=>(e v).mp (this.2 hl v ((e' v).mpr hv)))
def QB(h:Rnk O n M r)(h':Rnk O n M r'):r=r':=ut (yP h h' λ_ q=>q).1 (yP h' h λ_ q=>q).1
def zfr(Z:kab k)(oY:OkM k n Y)(h:Rnk O n M r)(sub:∀ v,Rm O M v->Rm O Y v):r<=Y.length:=by
 obtain⟨R,ls,red,l⟩:=zfT (O:=O) Z oY;exact wE (yP h (R,ls,red.toIsR,λv=>(red.fro v,red.to v),V) sub).1 l
def Ja(Z:kab k){w r n:Nat}{M:Tb}(oM:OkM k w M)(h:Rnk O w M r)(g:Nat->Nat->F)(co:∀ x∈M,∃ y:Nat->F,∀ j,j<w->nv O x j=dot n y (λi=>g i j)):r<=n:=by
 let Y:Tb:=(wY n).map λi=>ofV O w (trV w (g i))
 have lY:Y.length=n:=by show((wY n).map _).length=n;rw[wa,vx]
 have oY:OkM k w Y:=λr L=>by
  obtain⟨i,_,rfl⟩:=wj.mp L;exact Jp _
 have nY:∀ i j,i<n->nv O (Y.getD i []) j=trV w (g i) j:=λi j hi=>by
  have:Y[i]?=some (ofV O w (trV w (g i))):=by
   show((wY n).map _)[i]?=_;rw[wg,vw hi];rfl
  rw[wc,this];exact JC (λj hj=>bx ()) j
 have:=zfr Z oY h λv hv=>hv.bind λu ⟨x,J,e⟩=>by
  obtain⟨y,hy⟩:=co x J;refine(ZG (O:=O) Y y n).cast λj=>?_
  rw[e]
  rcases wH j w with hj|hj
  ·rw[hy j hj];exact zk λi hi=>by rw[nY i j hi];unfold trV;rw[bw hj]
  ·rw[zY O (by rw[(oM x J).1];exact hj)];exact dot_zero n _ _ λi hi=>by rw[nY i j hi];unfold trV;rw[bx ()];grind
 omega
end
end L2
namespace L2
open PySem PySem.Spec PyProof.Rows
def ziy:ci "all" = some (.builtin "all"):=by decide +kernel
def zhC:ci "any" = some (.builtin "any"):=by decide +kernel
section
variable{X:Cx}[B:Bn p]
def zjp{p pos:Pos}(D:Kn X.prog X.w X.K X.mg X.base x k ps sp)(ha:PA X (e::es) t)(L:Room j X.A:=by assumption)(hj:k<=j:=by first|decide|omega)(hg:Gl X x:=by rfl)
  (hdb:(x ==("__debug__" : Str))=false:=by decide) (he:cu (e::es) X.env =(false,eval e X.env)::cu es X.env:=by rfl) (hpl:(cr pos (cu es X.env)).any (·.1)=false:=by rfl) :
  PE X (.Call (.Name x p) (e::es) [] pos) (tCall sp [] E0 t):=zi2 D (L.mono hj) hg ha hdb he hpl
def AtN(N:List Str)(i:Nat)(x:Str):Prop:=N[i]?=some x
inductive AtNs(N:List Str):List Nat->List Str->Prop where
 | nil:AtNs N [] []
 | cons {i:Nat} {x:Str} {l:List Nat} {r:List Str}:AtN N i x->AtNs N l r->AtNs N (i::l) (x::r)
def at0:AtN (x::l) 0 x:=rfl
def at1:AtN (a0::x::l) 1 x:=rfl
def at2:AtN (a0::a1::x::l) 2 x:=rfl
def at3:AtN (a0::a1::a2::x::l) 3 x:=rfl
def at4:AtN (a0::a1::a2::a3::x::l) 4 x:=rfl
def at5:AtN (a0::a1::a2::a3::a4::x::l) 5 x:=rfl
def at6:AtN (a0::a1::a2::a3::a4::a5::x::l) 6 x:=rfl
def at7:AtN (a0::a1::a2::a3::a4::a5::a6::x::l) 7 x:=rfl
def at8:AtN (a0::a1::a2::a3::a4::a5::a6::a7::x::l) 8 x:=rfl
def at9:AtN (a0::a1::a2::a3::a4::a5::a6::a7::a8::x::l) 9 x:=rfl
def at10:AtN (a0::a1::a2::a3::a4::a5::a6::a7::a8::a9::x::l) 10 x:=rfl
def at11:AtN (a0::a1::a2::a3::a4::a5::a6::a7::a8::a9::a10::x::l) 11 x:=rfl
def at12:AtN (a0::a1::a2::a3::a4::a5::a6::a7::a8::a9::a10::a11::x::l) 12 x:=rfl
def at13:AtN (a0::a1::a2::a3::a4::a5::a6::a7::a8::a9::a10::a11::a12::x::l) 13 x:=rfl
def at14:AtN (a0::a1::a2::a3::a4::a5::a6::a7::a8::a9::a10::a11::a12::a13::x::l) 14 x:=rfl
def at15:AtN (a0::a1::a2::a3::a4::a5::a6::a7::a8::a9::a10::a11::a12::a13::a14::x::l) 15 x:=rfl
variable{N:List Str}
def pvI {i:Nat} {x:Str} {pos:Pos} (nd:N.Nodup:=by assumption) (hi:AtN N i x:=by fail) (hX:X.N=N:=by rfl) (hv:Vis X.env.scope x:=by first|exact Or.inl rfl|exact Or.inr (Or.inl rfl) | exact Or.inr (Or.inr rfl)) (hd:(x ==("__debug__" : Str))=false:=by decide)
  (hcd:(x ==("__classdict__" : Str))=false:=by decide):PE X (.Name x pos) (tVar i):=ziY (hX ▸ hi) hv hd hcd
def zjt{pos posn:Pos} idx (hi:PI X (.Name y posn) iter wi)
  (hb:∀ bO cells s₀ H₀ ex pn,(y::fre).Nodup->PTs (blk X [y] fre scope bO cells s₀ H₀ ex pn) ifs tt/\PE (blk X [y] fre scope bO cells s₀ H₀ ex pn) elt te)
  (nd:N.Nodup:=by assumption) (hX:X.N=N:=by rfl) (ha:AtNs N idx fre:=by repeat' first|exact AtNs.nil|refine' AtNs.cons ?_ ?_|fail) (nd':(y::fre).Nodup:=by decide +kernel)
  (B:BlkOk X [y] fre idx scope:=by exact(V,V,V,V,V,V,by decide +kernel)) (hc:X.calm=true:=by rfl)
  (hg:∀ bO cells s₀ H₀ ex pn,(y::fre).Nodup->PG (blk X [y] fre scope bO cells s₀ H₀ ex pn) (.Name y posn) (gName 0):=by exact λ_ _ _ _ _ _ h=>ZV (i:=0) h rfl (by first|exact Or.inl rfl|exact Or.inr rfl))
  (hs:∀ x,cP iter X.env x=pure x:=by intro _;rfl):PE X (.ListComp elt [(.Name y posn,iter,ifs,0)] scope pos) (tComp 1 idx wi (gName 0) tt te) :=
 zck [y] fre idx B hc hi (jZ (wa7)) (λa b c d e f=>(hg a b c d e f nd',hb a b c d e f nd')) hs
def zjx{i:Nat}{x:Str}{pos pos' spos posn:Pos} idx (hi:PI X (.Name y posn) iter wi)
  (hb:∀ bO cells s₀ H₀ ex pn,(y::fre).Nodup->PTs (blk X [y] fre scope bO cells s₀ H₀ ex pn) ifs tt/\PE (blk X [y] fre scope bO cells s₀ H₀ ex pn) elt te)
  (nd:N.Nodup:=by assumption) (hX:X.N=N:=by rfl) (ha:AtNs N idx fre:=by repeat' first|exact AtNs.nil|refine' AtNs.cons ?_ ?_|fail) (nd':(y::fre).Nodup:=by decide +kernel)
  (hi':AtN N i x:=by fail) (J:X.env.scope.names.lookup x=some .local:=by rfl)
  (B:BlkOk X [y] fre idx scope:=by exact(V,V,V,V,V,V,by decide +kernel)) (hc:X.calm=true:=by rfl)
  (hg:∀ bO cells s₀ H₀ ex pn,(y::fre).Nodup->PG (blk X [y] fre scope bO cells s₀ H₀ ex pn) (.Name y posn) (gName 0):=by exact λ_ _ _ _ _ _ h=>ZV (i:=0) h rfl (by first|exact Or.inl rfl|exact Or.inr rfl))
  (hsw:swapsWith (.ListComp elt [(.Name y posn,iter,ifs,0)] scope pos) (some (.Name x pos')) spos.line X.env=pure true:=by rfl)
  (hs:∀ x,cP iter X.env x=pure x:=by intro _;rfl):PS X (.Assign [.Name x pos'] (.ListComp elt [(.Name y posn,iter,ifs,0)] scope pos) spos) (tAsgC 1 idx wi (gName 0) tt te i) :=
 zgP (hX ▸ nd) (hX ▸ hi') J [y] fre idx B hc hi (jZ (wa7)) (λa b c d e f=>(hg a b c d e f nd',hb a b c d e f nd')) hsw hs
def zi1{y z:Str}{elt iter:Expr}{ifs:List Expr}{pos py pz tp:Pos}{k1:Nat}{wi:TI}{tt:TT}{te:TE}(idx:List Nat){fre:List Str}(hi:PI X (.Tuple [.Name y py,.Name z pz] k1 tp) iter wi)
  (hb:∀(bO:Addr)(cells:List (Str×Addr))(s₀:Shared)(H₀:Hp)(ex:List Addr)(pn:List (Addr×Obj)),(y::z::fre).Nodup->PTs (blk X [y,z] fre scope bO cells s₀ H₀ ex pn) ifs tt/\PE (blk X [y,z] fre scope bO cells s₀ H₀ ex pn) elt te)
  (nd:N.Nodup:=by assumption) (hX:X.N=N:=by rfl) (ha:AtNs N idx fre:=by repeat' first|exact AtNs.nil|refine' AtNs.cons ?_ ?_|fail) (nd':(y::z::fre).Nodup:=by decide +kernel)
  (B:BlkOk X [y,z] fre idx scope:=by exact(V,V,V,V,V,V,by decide +kernel)) (hc:X.calm=true:=by rfl)
  (hg:∀(bO:Addr)(cells:List (Str×Addr))(s₀:Shared)(H₀:Hp)(ex:List Addr)(pn:List (Addr×Obj)),(y::z::fre).Nodup->PG (blk X [y,z] fre scope bO cells s₀ H₀ ex pn) (.Tuple [.Name y py,.Name z pz] k1 tp) (gTup K0 2 (gCons (gName 0) (gCons (gName 1) gNil))):=by
   exact λ_ _ _ _ _ _ h=>Yh 2 rfl (XN (ZV (i:=0) h rfl (by first|exact Or.inl rfl|exact Or.inr rfl)) (XN (ZV (i:=1) h rfl (by first|exact Or.inl rfl|exact Or.inr rfl)) zdB)))
  (hs:∀ x,cP iter X.env x=pure x:=by intro _;rfl):PE X (.ListComp elt [(.Tuple [.Name y py,.Name z pz] k1 tp,iter,ifs,0)] scope pos) (tComp 2 idx wi (gTup K0 2 (gCons (gName 0) (gCons (gName 1) gNil))) tt te) :=
 zck [y,z] fre idx B hc hi (zet (YJ (jZ Nat.zero_lt_two) YX (YJ (jZ Nat.one_lt_two) YX zdq))) (λa b c d e f=>(hg a b c d e f nd',hb a b c d e f nd')) hs
def zjc{i:Nat}{pos pos':Pos}(he:PE X e te)(hs:swapsWith e (some (.Name x pos')) pos.line X.env=pure false:=by rfl)(nd:N.Nodup:=by assumption)(hi:AtN N i x:=by fail)(hX:X.N=N:=by rfl)(J:Loc X.env.scope x:=by first|exact .inl rfl|exact .inr rfl)(hf:X.fn x=true\/X.env.scope.names.lookup x=some .local:=by first|exact .inl rfl|exact .inr rfl|assumption) :
  PS X (.Assign [.Name x pos'] e pos) (tAsg te (gName i)):=ziP (hX ▸ nd) (hX ▸ hi) J he hs hf
def zjl{i:Nat}{x:Str}{pos:Pos}(nd:N.Nodup:=by assumption)(hi:AtN N i x:=by fail)(hX:X.N=N:=by rfl)(J:Loc X.env.scope x:=by first|exact .inl rfl|exact .inr rfl)(hf:X.fn x=true\/X.env.scope.names.lookup x=some .local:=by first|exact .inl rfl|exact .inr rfl|assumption):PG X (.Name x pos) (gName i):=ZV (hX ▸ nd) (hX ▸ hi) J hf
def zjy{i:Nat}{x:Str}{pos pos':Pos}(he:PE X e te)(ho:PIp X op ti)(nd:N.Nodup:=by assumption)(hi:AtN N i x:=by fail)(hX:X.N=N:=by rfl)(J:Loc X.env.scope x:=by first|exact .inl rfl|exact .inr rfl)(hf:X.fn x=true\/X.env.scope.names.lookup x=some .local:=by first|exact .inl rfl|exact .inr rfl|assumption) :
  PS X (.AugAssign (.Name x pos') op e pos) (tAug i te ti):=zhP (hX ▸ nd) (hX ▸ hi) J he ho hf
def zjs{i j:Nat}{x y:Str}{pos px py pt:Pos}{kt k2 pt2}(ha:PA X [a,b] ta)(nd:N.Nodup:=by assumption)(hi:AtN N i x:=by fail)(hj:AtN N j y:=by fail)(hX:X.N=N:=by rfl)(hc:X.calm=true:=by rfl)(hij:i≠j:=by decide)
  (J:X.env.scope.names.lookup x=some .local:=by rfl) (hy:X.env.scope.names.lookup y=some .local:=by rfl)
  (hw:swappedStores [.Tuple [.Name x px,.Name y py] kt pt] (.Tuple [a,b] k2 pt2) X.env=pure (some [x,y]):=by rfl)
  (hs:swapsWithSole [.Tuple [.Name x px,.Name y py] kt pt] (.Tuple [a,b] k2 pt2) pos.line X.env=pure false:=by rfl) :
  PS X (.Assign [.Tuple [.Name x px,.Name y py] kt pt] (.Tuple [a,b] k2 pt2) pos) (tPar i j ta):=ziQ hc (hX ▸ nd) (hX ▸ hi) (hX ▸ hj) hij J hy ha hw hs
def zh1(L:Room k X.A:=by assumption)(Z:40<=k:=by decide)(hP:X.prog.given.tree=none:=by rfl)(hS:X.base.NoSeer:=by exact Bn.S)(hT:TopOk X:=by exact(_,Q,V,V,V,V)):OpR X (cQ .FloorDiv) (rI (λ_ j=>j≠0) λi j=>.int (i.fdiv j)):=zeS L Z hP hS hT
def XU(L:Room k X.A:=by assumption):OpR X (cV .Eq) (rEqD id):=zhI L
def zhg(L:Room k X.A:=by assumption):OpR X (cV .NotEq) (rEqD not):=zh0 L
def zjf {pos:Pos} (hg:Gl X "GREAT_PRIME" := by rfl) (hm:∃ t,X.mg "GREAT_PRIME" = some (.int GP t):=by exact bn_c (by decide +kernel)):PE X (.Name "GREAT_PRIME" pos) (tC (.int GP)):=by
 obtain⟨t,hm⟩:=hm;exact zgN hg hm (_,rfl)
def zis(hs:IntEs (a::b::c::d::e::f::g::h::es) ns):PA X (a::b::c::d::e::f::g::h::es) (tInts ns):=zgV ns hs
end
end L2
namespace L2
open PySem PySem.Spec PyProof.Rows Nm
def ngT(k:Int)(n:Nat)(M:Tb):Tb:=M.map λr=>subR k (zerN k n) r
def zbt(Z:kab k) n:OkR k (zerN k n)/\(zerN k n).length=n:=(λy hy=>by rw[vF hy];exact zD Z 0,by unfold zerN;rw[wQ])
def tabB(z:Nat)(M:Tb):Prop:=∃ D:Nat,D≠0/\D<2^z/\∀ r∈M,La.rowD D z r
def tabB.rows(h:tabB z M):kad z M:=λr L=>by
 obtain⟨D,a,b,c⟩:=h;exact(D,a,b,c r L)
def tabB.flat(h:tabB z M):rowB z M.flatten:=by
 obtain⟨D,a,b,c⟩:=h;exact(D,a,b,λx J=>by
  obtain⟨r,L,J⟩:=wU.mp J;exact c r L x J)
def tabB.of(h:rowB z M.flatten):tabB z M:=by
 obtain⟨D,a,b,c⟩:=h;exact(D,a,b,λr L x J=>c x (wU.mpr (r,L,J)))
def tabB.mono(h:tabB z M)(hy:z<=y):tabB y M:=.of (h.flat.mono hy)
def tabB.tr(h:tabB z M)(hl:∀ r∈M,r.length=c):tabB z (kaa c M):=by
 obtain⟨D,a,b,e⟩:=h;refine(D,a,b,λr L x J=>?_);unfold kaa at L;obtain⟨j,hj,rfl⟩:=wj.mp L;obtain⟨row,hrow,rfl⟩:=wj.mp J;have hj':j<row.length:=by rw[hl row hrow];exact wP.mp hj
 rw[wc,wb hj'];exact e row hrow _ (wk hj')
def zeq(k0:k≠0)(oM:OkM k n M)(z1:1<=z):tabB z M:=.of (qj k0 (λx J=>by
 obtain⟨r,L,J⟩:=wU.mp J;exact(oM r L).2 x J) z1)
def QO(Z:kab k)(n8:n<=8)(oA:OkM k n A)(hA:tabB T A)(ox:OkR k x)(J:rowB C x):rowB (T+C+3) (imgM k A x):=by
 obtain⟨D,d0,dl,dA⟩:=hA;obtain⟨d,e0,el,hd⟩:=J;have p1:=ud T;have p2:=ud C;have e:2^(T+C+3)=2^T*2^C*8:=by rw[vY,vY]
 have pm:0<2^T*2^C:=waz p1 p2;refine(D*d,gO d0 e0,?_,λy hy=>?_)
 ·rw[e];have:D*d<=2^T*2^C:=vm (vT dl) (vT el);omega
 ·unfold imgM at hy;obtain⟨r,L,rfl⟩:=wj.mp hy;refine(XI Z (oA r L).2 ox (oA r L).1 (dA r L) hd).mono ?_;rw[e];have h1:(2^T - 1) *(2^C - 1)<=(2^T - 1)*2^C:=wS _ ();have h2:(2^T - 1)*2^C=2^T*2^C - 2^C:=by rw[waA,vL]
  have h3:n *((2^T - 1) *(2^C - 1))<=8 *(2^T*2^C - 2^C):=vm n8 ();omega
def Qy(Z:kab k)(n8:n<=8)(oA:OkM k n A)(lA:A.length=n)(hA:tabB T A)(ox:OkR k x)(lx:x.length=n)(J:rowB C x):∀ t,rowB (C+t *(T+3)) (powX k A x t)
 | 0=>J.mono ()
 | t+1=>by
  have ih:=Qy Z n8 oA lA hA ox lx J t;have o:=zF Z oA lA ox lx t;refine(QO Z n8 oA hA o.1 ih).mono ?_;rw[uW];omega
structure KrZ(k:Int)(n:Nat)(A B:Tb)(C m:Nat):Prop where
 oA:OkM k n A
 lA:A.length=n
 oB:OkM k n B
 bB:kad C B
 mA:kad m A
 st:∀ t W,RdR k n W->kau k W (kry k A B t)->t<=W.length->kad m W/\kad C (W.map (imgM k A))
 m7:61<=m
 c7:61<=C
 n10:n<=10
 m6:2*m+n<=60000000
 c6:(C+1)*2^n<=60000000
def QF(Z:kab k)(oA:OkM k n A)(lA:A.length=n)(oW:OkM k n W):OkM k n (W.map (imgM k A)):=λr L=>by
 obtain⟨x,J,rfl⟩:=wj.mp L;have o:=jJ Z oA (oW x J).2;exact(by show(Gr _ A).length=n;rw[wa];exact lA,o.2)
def ZU{k:Int}(Z:kab k){n T g r:Nat}{A B:Tb}(n8:n<=8)(oA:OkM k n A)(lA:A.length=n)(oB:OkM k n B)(tA:k=0->tabB T A)(zB:k=0->∀ b∈B,∀ i,i<=r->rowB g (powX k A b i))(g7:61<=g)
  (rk:∀ t W,RdR k n W->kau k W (kry k A B t)->W.length<=r) (m6:2 *((g+1)*2^r+T)+n<=60000000) (c6:((g+1)*2^r+T+4)*2^n<=60000000):KrZ k n A B ((g+1)*2^r+T+3) ((g+1)*2^r+T):=by
 have p1:1<=2^r:=uN;have b1:g+1<=(g+1)*2^r:=by have:=wS (g+1) p1;omega
 refine(oA,lA,oB,?_,?_,λt W hW eW le=>?_,(),(),(),m6,c6)
 ·by_cases k0:k=0
  ·exact λq hq=>(zB k0 q hq 0 (vI r)).mono ()
  ·exact zV k0 oB ()
 ·by_cases k0:k=0
  ·exact(tA k0).rows.mono ()
  ·exact zV k0 oA ()
 ·obtain⟨lw,iW⟩:=hW;have oW:=(zE Z iW).1;have oI:=QF Z oA lA oW
  by_cases k0:k=0
  ·have lr:=rk t W (lw,iW) eW;have G:Gen k n g W:=(_,yq Z oA lA oB t,λq hq=>by
    obtain⟨b,hb,i,hi,rfl⟩:=yB t q hq;exact zB k0 b hb i (),eW)
   have s:=(Zq Z iW g7 G).mono (wS _ (pow2 lr));refine(s.mono (),λq hq=>?_);obtain⟨x,J,rfl⟩:=wj.mp hq;exact(QO Z n8 oA (tA k0) (oW x J).2 (s x J)).mono ()
  ·exact(zV k0 oW (),zV k0 oI ())
def zfP{k:Int}(Z:kab k){n T z r:Nat}{A B:Tb}(n8:n<=8)(oA:OkM k n A)(lA:A.length=n)(oB:OkM k n B)(tA:k=0->tabB T A)(zB:k=0->kad z B)(z7:61<=z)
  (rk:∀ t W,RdR k n W->kau k W (kry k A B t)->W.length<=r) (m6:2 *((z+r *(T+3)+1)*2^r+T)+n<=60000000) (c6:((z+r *(T+3)+1)*2^r+T+4)*2^n<=60000000):KrZ k n A B ((z+r *(T+3)+1)*2^r+T+3) ((z+r *(T+3)+1)*2^r+T):=ZU Z n8 oA lA oB tA (λk0 b hb i hi=>(Qy Z n8 oA lA (tA k0) (oB b hb).2 (oB b hb).1 (zB k0 b hb) i).mono (waJ (wI (T+3) hi) z)) () rk m6 c6
def xf(Z:kab k)(k0:k≠0)(n8:n<=8)(oA:OkM k n A)(lA:A.length=n)(oB:OkM k n B):KrZ k n A B 61 61:=(oA,lA,oB,zV k0 oB (),zV k0 oA (),λt W ⟨lw,iW⟩ _ _=>(zV k0 (zE Z iW).1 (),zV k0 (QF Z oA lA (zE Z iW).1) ()),(),(),(),(),wE (wS 62 (pow2 n8)) ())
def qK(c7:61<=C):kad C (kam k n):=λr L=>by
 have p2:2^61<=2^C:=vh () c7;refine(1,(),(),λx J=>?_);unfold kam at L;obtain⟨j,_,rfl⟩:=wj.mp L;unfold kak at J;obtain⟨q,_,rfl⟩:=wj.mp J
 by_cases c:j=q
 ·rw[bw c];exact dB.num (by show 1*1<=_;omega)
 ·rw[bx c];exact dB.num (by show 0*1<=_;omega)
def rk_n(Z:kab k)(h:RdR k n W):W.length<=n:=by
 obtain⟨lw,iW⟩:=h;exact yf Z iW
def zdP(Z:kab k)(hf:Fit k n)(n8:n<=8)(oA:TOk k n n 80 A)(oB:TOk k b n 80 B):∃ C m,KrZ k n A B C m/\(n*m+1)*2^n<=60000000:=by
 by_cases k0:k=0
 ·have n3:n<=3:=by
   rcases hf.2 with h|h
   ·exact h
   ·exact bK k0 h.1
  have cap:∀ c,capC n c=c:=λc=>bw n3
  refine(7159072,596488,(oA.ok,oA.len,oB.ok,?_,?_,λt W hW eW le=>?_,(),(),(),(),wE (wS 7159073 (pow2 n3)) ()),wE (vm (waE (wI 596488 n3) 1) (pow2 n3)) ())
  ·have:=zbT hf oB;rw[cap]at this;exact this
  ·exact(xU () oA).mono (wE (wI _ (show n+1<=4 by omega)) ())
  ·obtain⟨s1,s2⟩:=zb4 Z hf oA oB (show t<=n+1 by have:=rk_n Z hW;omega) hW eW;have:=(zeo Z hf oA s1).2;rw[cap]at this s2;exact(s2,this)
 ·exact(61,61,xf Z k0 n8 oA.ok oA.len oB.ok,wE (vm (waE (wI 61 n8) 1) (pow2 n8)) ())
def XE(hf:Fit k n)(k0:k=0)(h:r=n\/r<=100)(oM:TOk k r n 80 M):tabB 40000 M:=by
 have n3:n<=3:=by
  rcases hf.2 with h|h
  ·exact h
  ·exact bK k0 h.1
 obtain⟨D,a,b,e⟩:=zcM () oM;have le:r *((n+1)*80)<=100 *(4*80):=vm () (wI _ ());exact tabB.mono (D,a,b,e) ()
def ze4(hf:Fit k n)(k0:k=0)(h1:h<=100)(oM:TOk k n h 80 M):tabB 40000 M:=by
 have n3:n<=3:=by
  rcases hf.2 with h|h
  ·exact h
  ·exact bK k0 h.1
 obtain⟨D,a,b,e⟩:=zcM () oM;have le:n *((h+1)*80)<=3 *(101*80):=vm n3 (wI _ ());exact tabB.mono (D,a,b,e) ()
section
variable(Z:kab k)(I:LrI k n A B R W t)(bM:KrZ k n A B C m)
include Z I bM
theorem LrI.subZ[bu F](O:Kf k F):R.length<=W.length/\(W.length<=R.length->∀ v,Rm O W v->Rm O R v):=by
 obtain⟨lr,iR⟩:=I.rR;obtain⟨lw,iW⟩:=I.rW;exact(iR F O).sub_len (iW F O) λv hv=>(I.eW F O v).mpr (qe Z bM.oA bM.lA bM.oB t v ((I.eR F O v).mp hv))
theorem LrI.doneZ(h:¬ R.length<W.length):kan k n A B R:=by
 refine(I.rR,λF _ O v=>?_);have s:∀ v,Rm O (kry k A B (t+1)) v->Rm O (kry k A B t) v:=λv hv=>(I.eR F O v).mp ((I.subZ Z bM O).2 () v ((I.eW F O v).mpr hv))
 exact(I.eR F O v).trans (xN Z bM.oA bM.lA bM.oB s (by obtain⟨lr,iR⟩:=I.rR;have:=yf Z iR;have:=I.le;omega) v).symm
theorem LrI.stepZ(h:R.length<W.length)(rW':RdR k n W')(e:kau k W' (B++W.map (imgM k A))):LrI k n A B W W' (t+1):=by
 obtain⟨lw,iW⟩:=I.rW;have lW:=yf Z iW;have oW:=(zE Z iW).1;refine(I.rW,rW',I.eW,λF _ O v=>(e F O v).trans (zbh Z bM.oA bM.lA bM.oB oW (I.eW F O) v),by have:=I.le;omega)
end
end L2
namespace La
open Lean.Grind Nm
section
variable[Field F]
def zf3(u v:Nat->F):∀ n,dot (n+1) u v=u 0*v 0+dot n (λi=>u (i+1)) (λi=>v (i+1))
 | 0=>by show(0:F)+u 0*v 0=u 0*v 0+0;grind
 | n+1=>by
  have:=zf3 u v n;show dot (n+1) u v+u (n+1)*v (n+1)=u 0*v 0 +(dot n _ _+u (n+1)*v (n+1))
  grind
def ι_rdot c d:∀ n ws us x y,ws.length=n->us.length=n->(∀ i,i<n->(ι (ws.getD i 0):F)=x i*c)->(∀ i,i<n->(ι (us.getD i 0):F)=d*y i)->(ι (rdot ws us):F)=c*d*dot n x y
 | 0,[],[],_,_,_,_,_,_=>by show(ι 0:F)=c*d*0;rw[ι_zero];grind
 | n+1,w::ws,u::us,x,y,lw,lu,hw,hu=>by
  show(ι (w*u+rdot ws us):F)=_;have a:=hw 0 ();have b:=hu 0 ();rw[ι_add,ι_mul,zf3,ι_rdot c d n ws us (λi=>x (i+1)) (λi=>y (i+1)) (by simpa using lw) (by simpa using lu) (λi hi=>hw (i+1) ()) (λi hi=>hu (i+1) ())];rw[show(ι w:F)=x 0*c from a,show(ι u:F)=d*y 0 from b]
  grind
end
end La
namespace L2
open PySem PySem.Spec PyProof.Rows Nm
section
structure Mtp(k c:Int)(ws:List Int)(ys:List Nb):Prop where
 len:ws.length=ys.length
 tm:∀(F:Type) [bu F] (O:Kf k F),(La.ι c:F)≠0/\∀ i,i<ws.length->(La.ι (ws.getD i 0):F)=La.ι c*nv O ys i
def Mtp.of(Z:kab k){M:Tb}(s:Scl k M.flatten (M.flatten.map (scW b)) b)(ox:OkR k xs)(h:∀ x∈xs,x∈M.flatten):Mtp k b (xs.map (scW b)) xs:=by
 refine(wa _,λF _ O=>(s.ne O Z,λi hi=>?_));rw[wa]at hi;have hm:=wk hi;rw[wc,wg,wb hi,zI O (wb hi)];show(La.ι (scW b xs[i]):F)=_;rw[zc2 O s.one (ox _ hm) (s.dv _ (h _ hm))]
 grind
def Mtp.img(Z:kab k)(oA:OkM k n A)(s:Scl k A.flatten (A.flatten.map (scW b)) b)(oy:OkR k y)(ly:y.length=n)(m:Mtp k c ws y):Mtp k (b*c) ((A.map λr=>r.map (scW b)).map λr=>rdot r ws) (imgM k A y):=by
 refine(by unfold imgM;simp,λF _ O=>?_);obtain⟨cn,ct⟩:=m.tm F O;have bn:=s.ne O Z;have lw:=m.len;refine(by rw[La.ι_mul];grind,λi hi=>?_);simp only[wa]at hi;have hm:=wk hi;obtain⟨lr,or⟩:=oA _ hm;rw[wc,wg,wg,wb hi,zI O (x:=ndot k A[i] y) (by unfold imgM;rw[wg,wb hi];rfl),zP O Z or oy (),lr];show(La.ι (rdot (A[i].map (scW b)) ws):F)=_;rw[La.ι_rdot (La.ι b) (La.ι c) n _ ws (nv O A[i]) (nv O y) (by rw[wa,lr]) () (λj hj=>?_) (λj hj=>ct j ()),La.ι_mul];have hj':j<A[i].length:=by omega
 rw[wc,wg,wb hj',zI O (wb hj')];exact zc2 O s.one (or _ (wk hj')) (s.dv _ (wU.mpr (_,hm,wk hj')))
def Mtp.nought(Z:kab k){c:Int}{ws:List Int}{ys:List Nb}(oy:OkR k ys)(m:Mtp k c ws ys):(∀ w∈ws,nnum k w=nnum k 0)↔∀ y∈ys,y=nnum k 0:=by
 obtain⟨F,_,_,⟨O⟩⟩:=zw Z;obtain⟨cn,ct⟩:=m.tm F O;have l:=m.len;have one:∀ i (h1:i<ws.length) (h2:i<ys.length),nnum k ws[i]=nnum k 0↔ys[i]=nnum k 0:=λi h1 h2=>by
  have e:=ct i h1;rw[wc,wb h1,zI O (wb h2)]at e;have e:(La.ι ws[i]:F)=La.ι c*O.to ys[i]:=e
  constructor
  ·intro z;have:=congrArg O.to z;rw[O.num,O.num,La.ι_zero]at this;refine O.inj (oy _ (wk h2)) (zD Z 0) ?_;rw[O.num,La.ι_zero]
   grind
  ·intro z;refine O.inj (zD Z _) (zD Z 0) ?_;rw[O.num,O.num,La.ι_zero,e,z,O.num,La.ι_zero]
   grind
 constructor
 ·intro h y hy;obtain⟨i,hi,rfl⟩:=wD hy;exact(one i () hi).1 (h _ (wk _))
 ·intro h w hw;obtain⟨i,hi,rfl⟩:=wD hw;exact(one i hi ()).2 (h _ (wk _))
def IRow.row(h:IRow H ws a):kaq H (ws.map Nb.z) a:=(_,h,jN (by simp) λi x v h1 h2=>by
 rw[wg]at h1 h2;obtain⟨w,e,rfl⟩:=wG.1 h1;rw[e]at h2;cases h2;exact RN.of_z)
def IRow.of(h:kaq H (ws.map Nb.z) a):IRow H ws a:=by
 obtain⟨vs,e,p⟩:=h;have l:=zf p;rw[wa]at l;show H a=_;rw[e,show vs=ws.map V.int from uB (by rw[wa,l]) λi h1 h2=>?_];obtain⟨v,ev,r⟩:=yj p (i:=i) (a:=Nb.z ws[i]) (by rw[wg,wb ()];rfl);rw[wb h1]at ev;cases ev;rw[r.z,uM]
def ITab.tab(h:ITab H W t ls):kac H (W.map λr=>r.map Nb.z) t ls:=(h.1,jN (by rw[wa];exact zf h.2) λi r a h1 h2=>by
 rw[wg]at h1;obtain⟨w,e,rfl⟩:=wG.1 h1;obtain⟨a',ea,r⟩:=yj h.2 e;rw[h2]at ea;cases ea;exact r.row)
def ITab.of(h:kac H (W.map λr=>r.map Nb.z) t ls):ITab H W t ls:=(h.1,jN (by have:=zf h.2;rw[wa]at this;exact this) λi w a h1 h2=>by
 obtain⟨a',ea,r⟩:=yj h.2 (i:=i) (a:=w.map Nb.z) (by rw[wg,h1];rfl);rw[h2]at ea;cases ea;exact IRow.of r)
def zie b (hB:∀ r∈B,r.length=h):kaa h ((B.map λr=>r.map (scW b)).map λr=>r.map Nb.z) =((kaa h B).map λx=>x.map (scW b)).map λr=>r.map Nb.z:=by
 simp only[kaa,vV];refine vM λj hj=>?_
 simp only[Function.comp_apply,vV];refine vM λr L=>?_
 have hj:j<r.length:=by rw[hB r L];exact wP.1 hj
 show((r.map (scW b)).map Nb.z).getD j (.z 0)=Nb.z (scW b (r.getD j (.z 0)));rw[wc,wg,wg,wc,wb hj];rfl
def zgS(Z:kab k)(oA:OkM k n A)(lA:A.length=n)(sA:Scl k A.flatten (A.flatten.map (scW bA)) bA)(oB:OkM k h B)(lB:B.length=n)(sB:Scl k B.flatten (B.flatten.map (scW bB)) bB)(J:x∈kaa h B):∀ t,∃ c,Mtp k c (bpow (A.map λr=>r.map (scW bA)) (x.map (scW bB)) t) (powX k A x t):=by
 have o:∀ t,OkR k (powX k A x t)/\(powX k A x t).length=n:=by
  have:=zg oB x J;exact zF Z oA lA this.2 (this.1.trans lB)
 intro t
 induction t with
 | zero =>
  refine(bB,Mtp.of Z sB (zg oB x J).2 λy hy=>?_);unfold kaa at J;obtain⟨j,hj,rfl⟩:=wj.1 J;obtain⟨r,L,rfl⟩:=wj.1 hy;refine wU.mpr (r,L,?_);have:j<r.length:=by rw[(oB r L).1];exact wP.1 hj
  rw[wc,wb this];exact wk this
 | succ t ih =>
  obtain⟨c,m⟩:=ih;exact(bA*c,Mtp.img Z oA sA (o t).1 (o t).2 m)
def zdm(n8:n<=8)(hW:∀ r∈W,r.length=n/\∀ w∈r,Sm z w)(hv:∀ w∈v,Sm z w):∀ t,∀ w∈bpow W v t,Sm (z+t *(z+8)) w
 | 0,w,hw=>(hv w hw).mono ()
 | t+1,w,hw=>by
  obtain⟨r,L,rfl⟩:=wj.1 hw;have:=zcv r (bpow W v t) (hW r L).2 (zdm n8 hW hv t);refine this.mono ?_;rw[(hW r L).1,uW];omega
def MkZ(k:Int)(h:Nat)(A B C:Tb)(t:Nat):Prop:=∀ x∈kaa h B,∀ y∈imgM k C (powX k A x t),y=nnum k 0
end
section
def colX(i:Nat)(B:Tb):List Nb:=B.map λr=>r.getD i (.z 0)
def Zm(hi:i<h) B:colX i B∈kaa h B:=uJ (wP.2 hi)
def yO(oB:OkM k h B)(lB:B.length=n)(hi:i<h):OkR k (colX i B)/\(colX i B).length=n:=by
 have:=zg oB _ (Zm hi B);exact(this.2,this.1.trans lB)
def zbn(Z:kab k)(oA:OkM k n A)(lA:A.length=n)(oA2:OkM k n2 A2)(lA2:A2.length=n2)(ox:OkR k x)(lx:x.length=n)(ox2:OkR k x2)(lx2:x2.length=n2):imgM k (kas k n n2 A A2) (x++x2)=imgM k A x++imgM k A2 x2:=by
 have z:∀ r c,(nulT k r c).length=r:=λr c=>by unfold nulT;rw[wQ]
 unfold kas;rw[zgZ]
 congr 1
 ·refine zgi (yR lA (z n n2)) lA λi hi=>?_
  have hi':i<A.length:=by omega
  have o:=oA _ (wk hi');refine(_,_,xK (wb hi') (qd hi),wb hi',?_);rw[XT Z o.2 (ZB Z n2) ox ox2 (),za3 Z ox2 lx2,ZR Z (zN Z o.2 ox)]
 ·refine zgi (yR (z n2 n) lA2) lA2 λi hi=>?_
  have hi':i<A2.length:=by omega
  have o:=oA2 _ (wk hi');refine(_,_,xK (qd hi) (wb hi'),wb hi',?_);rw[XT Z (ZB Z n) o.2 ox ox2 (by rw[wQ,lx]),za3 Z ox lx,Jc Z (zN Z o.2 ox2)]
def jq(Z:kab k)(oA:OkM k n A)(lA:A.length=n)(oA2:OkM k n2 A2)(lA2:A2.length=n2)(ox:OkR k x)(lx:x.length=n)(ox2:OkR k x2)(lx2:x2.length=n2):∀ t,powX k (kas k n n2 A A2) (x++x2) t=powX k A x t++powX k A2 x2 t
 | 0=>rfl
 | t+1=>by
  have o:=zF Z oA lA ox lx t;have o2:=zF Z oA2 lA2 ox2 lx2 t;show imgM k _ (powX k _ _ t)=_;rw[jq Z oA lA oA2 lA2 ox lx ox2 lx2 t,zbn Z oA lA oA2 lA2 o.1 o.2 o2.1 o2.2];rfl
def zha(hi:i<C.length):(ngT k n C)[i]?=some (subR k (zerN k n) C[i]):=by unfold ngT;rw[wg,wb hi];rfl
def zgG(Z:kab k)(oc:OkR k c)(lc:c.length=n)(oy:OkR k y)(ly:y.length=n)[bu F](O:Kf k F):O.to (ndot k (subR k (zerN k n) c) y) = -O.to (ndot k c y):=by
 obtain⟨oz,lz⟩:=zbt Z n;have ls:(subR k (zerN k n) c).length=n:=by unfold subR;rw[vd];omega
 rw[zP O Z (QD Z oz oc) oy (),zP O Z oc oy (),ls,lc,show -dot n (nv O c) (nv O y) =(-1)*dot n (nv O c) (nv O y) by grind,← yY];refine zk λj hj=>?_
 have h1:(zerN k n)[j]?=some (nnum k 0):=by unfold zerN;rw[vU,bw hj]
 have hj':j<c.length:=by omega
 rw[zI O (x:=nsub k (nnum k 0) c[j]) (by unfold subR;rw[uq,h1,wb hj']),zI O (wb hj'),O.sub (zD Z 0) (oc _ (wk hj')),O.num,La.ι_zero]
 grind
def MkE(k:Int)(h:Nat)(A B C A2 B2 C2:Tb)(t:Nat):Prop:=∀ i,i<h->imgM k C (powX k A (colX i B) t)=imgM k C2 (powX k A2 (colX i B2) t)
def ZE(Z:kab k)(oA:OkM k n A)(lA:A.length=n)(oB:OkM k h B)(lB:B.length=n)(oC:OkM k n C)(lC:C.length=s)(oA2:OkM k n2 A2)(lA2:A2.length=n2)(oB2:OkM k h B2)(lB2:B2.length=n2)(oC2:OkM k n2 C2)(lC2:C2.length=s) t:MkZ k h (kas k n n2 A A2) (B++B2) (augM C (ngT k n2 C2)) t↔MkE k h A B C A2 B2 C2 t:=by
 obtain⟨F,_,_,⟨O⟩⟩:=zw Z;have lN:(ngT k n2 C2).length=s:=by unfold ngT;rw[wa,lC2]
 have one:∀ i,i<h->((∀ y∈imgM k (augM C (ngT k n2 C2)) (powX k (kas k n n2 A A2) (colX i (B++B2)) t),y=nnum k 0)↔imgM k C (powX k A (colX i B) t)=imgM k C2 (powX k A2 (colX i B2) t)):=λi hi=>by
  obtain⟨o1,l1⟩:=yO oB lB hi;obtain⟨o2,l2⟩:=yO oB2 lB2 hi;obtain⟨p1,q1⟩:=zF Z oA lA o1 l1 t;obtain⟨p2,q2⟩:=zF Z oA2 lA2 o2 l2 t;rw[show colX i (B++B2)=colX i B++colX i B2 from wv,jq Z oA lA oA2 lA2 o1 l1 o2 l2];generalize powX k A (colX i B) t=x at *;generalize powX k A2 (colX i B2) t=x2 at *;have row:∀ j (h1:j<C.length) (h2:j<C2.length),(imgM k (augM C (ngT k n2 C2)) (x++x2))[j]?=some (nadd k (ndot k C[j] x) (ndot k (subR k (zerN k n2) C2[j]) x2))/\(nadd k (ndot k C[j] x) (ndot k (subR k (zerN k n2) C2[j]) x2)=nnum k 0↔ndot k C[j] x=ndot k C2[j] x2):=λj h1 h2=>by
   have c1:=oC _ (wk h1);have c2:=oC2 _ (wk h2);have os:=QD Z (zbt Z n2).1 c2.2;have d1:=zN Z c1.2 p1;have d2:=zN Z c2.2 p2;have d3:=zN Z os p2;have en:=zgG Z c2.2 c2.1 p2 q2 O;refine(?_,λe=>?_,λe=>?_)
   ·unfold imgM;rw[wg,xK (wb h1) (zha h2)];exact congrArg some (XT Z c1.2 os p1 p2 (by rw[c1.1,q1]))
   ·have:=congrArg O.to e;rw[O.add d1 d3,en,O.num,La.ι_zero]at this;exact O.inj d1 d2 (by grind)
   ·refine O.inj (yt Z d1 d3) (zD Z 0) ?_;rw[O.add d1 d3,en,e,O.num,La.ι_zero]
    grind
  constructor
  ·intro z;refine uB (by unfold imgM;rw[wa,wa];omega) λj h1 h2=>?_
   have h1':j<C.length:=by unfold imgM at h1;rwa [wa]at h1
   have h2':j<C2.length:=by omega
   obtain⟨e,iff⟩:=row j h1' h2';have:=iff.1 (z _ (we e));simp only[imgM,uM];exact this
  ·intro e y hy;obtain⟨j,hj,rfl⟩:=wD hy;have hj':j<C.length:=by unfold imgM at hj;rw[wa,yR lC lN]at hj;omega
   have h2':j<C2.length:=by omega
   obtain⟨g,iff⟩:=row j hj' h2';rw[wb hj]at g;rw[Option.some.inj g];refine iff.2 ?_;have:=congrArg (·[j]?) e;unfold imgM at this;rw[wg,wg,wb hj',wb h2']at this;exact Option.some.inj this
 constructor
 ·intro z i hi;exact(one i hi).1 (z _ (Zm hi _))
 ·intro e x J;unfold kaa at J;obtain⟨i,hi,rfl⟩:=wj.1 J;exact(one i (wP.1 hi)).2 (e i (wP.1 hi))
def xG(h:rowB z xs)(g:rowB y ys):rowB (z+y) (xs++ys):=by
 obtain⟨D,d0,d1,hd⟩:=h;obtain⟨bP,e0,e1,he⟩:=g;have p:∀ a b,2^a *(2^b - 1)<=2^(b+a) - 1:=λa b=>by
  have:=uN (n:=a);rw[GR,Gx,vY,vJ (2^b)];omega
 refine(bP*D,gO e0 d0,by rw[vY,vJ];exact wab d1 e1,λx J=>?_)
 rcases wp.1 J with J|J
 ·exact(zfC (hd x J) e1).mono (p y z)
 ·rw[vJ,Gk];exact(zfC (he x J) d1).mono (p z y)
def Zl(h:rowB z xs)(s:∀ y∈ys,y∈xs\/y=nnum k 0):rowB z ys:=by
 obtain⟨D,d0,d1,hd⟩:=h;refine(D,d0,d1,λy hy=>?_)
 rcases s y hy with h|rfl
 ·exact hd y h
 ·exact dB.num (by simp)
def zb9(h:x∈(augM A B).flatten):x∈A.flatten\/x∈B.flatten:=by
 obtain⟨r,L,J⟩:=wU.1 h;unfold augM at L;obtain⟨i,hi,rfl⟩:=wD L;rw[uD]at J
 rcases wp.1 J with J|J
 ·exact .inl (wU.2 (_,wk _,J))
 ·exact .inr (wU.2 (_,wk _,J))
def zb8(h:x∈(nulT k r c).flatten):x=nnum k 0:=by
 obtain⟨q,hq,J⟩:=wU.1 h;unfold nulT at hq;rw[vF hq]at J;exact vF J
def qm(h:rowB z A.flatten)(g:rowB y B.flatten):rowB (z+y) (kas k n m A B).flatten:=by
 refine Zl (k:=k) (xG h g) λx J=>?_
 unfold kas at J;rw[gd]at J
 rcases wp.1 J with J|J <;> rcases zb9 J with J|J
 ·exact .inl (wp.2 (.inl J))
 ·exact .inr (zb8 J)
 ·exact .inr (zb8 J)
 ·exact .inl (wp.2 (.inr J))
def zeD(Z:kab k)(oC:OkM k n C)(h:rowB z C.flatten):rowB z (ngT k n C).flatten:=by
 obtain⟨D,d0,d1,hd⟩:=h;refine(D,d0,d1,λy hy=>?_);obtain⟨r,L,J⟩:=wU.1 hy;unfold ngT at L;obtain⟨c,hc,rfl⟩:=wj.1 L;unfold subR at J;obtain⟨i,hi,rfl⟩:=wD J;rw[uD];have:(zerN k n)[i]'(by rw[vd]at hi;omega)=nnum k 0:=war _;rw[this];have hm:=wk (show i<c.length by rw[vd]at hi;omega);exact zf7 Z (hd _ (wU.2 (c,hc,hm))) ((oC c hc).2 _ hm)
def zgx(Z:kab k)(m7:61<=m)(h:TOk k s n m C):TOk k s n (m+m+1) (ngT k n C):=by
 obtain⟨oz,lz⟩:=zbt Z n;refine(by unfold ngT;rw[wa,h.len],λr L=>?_,λr L x J=>?_)
 ·unfold ngT at L;obtain⟨c,hc,rfl⟩:=wj.1 L;have:=h.ok c hc;exact(by unfold subR;rw[vd,lz,this.1,wbn],QD Z oz this.2)
 ·unfold ngT at L;obtain⟨c,hc,rfl⟩:=wj.1 L;unfold subR at J;obtain⟨i,hi,rfl⟩:=wD J;rw[uD];have hm:=wk (show i<c.length by rw[vd]at hi;omega);have hz:(zerN k n)[i]'(by rw[vd]at hi;omega)=nnum k 0:=war _;rw[hz];exact zgj Z (zD Z 0) ((h.ok c hc).2 _ hm) (xq Z ((show Sm 61 0 by unfold Sm;decide).mono m7) m7) (h.sz c hc _ hm) m7
end
end L2
namespace La
def gdmemX{α:Type}{M:List (List α)}(h:i<M.length):M.getD i []∈M:=by
 rw[wc,wb h];exact wk h
end La
namespace L2
open PySem PySem.Spec PyProof.Rows Nm
section
variable[bu F]{O:Kf k F}
def seen0(Z:kab k){p:Nat}{A C:Tb}(oA:OkM k p A)(lA:A.length=p)(oC:OkM k p C)(P:kaA k p [] (kry k (kaa p A) C p)){U:(Nat->F)->Prop}(inv:∀ u,U u->∃ w,U w/\∀ j,j<p->w j=limg O p A u j)(see:∀ u,U u->∀ c∈C,dot p (nv O c) u=0){u:Nat->F}(hu:U u):∀ j,j<p->u j=0:=by
 have oT:OkM k p (kaa p A):=by have:=zg oA;rwa [lA]at this
 have lT:=ze p A;have pw:∀ c∈C,∀ i u,U u->dot p (nv O (powX k (kaa p A) c i)) u=0:=λc hc i=>by
  induction i with
  | zero=>exact λu hu=>see u hu c hc
  | succ i ih =>
   intro u hu;obtain⟨w,hw,e⟩:=inv u hu;have o:=zF Z oT lT (oC c hc).2 (oC c hc).1 i;have e1:nv O (powX k (kaa p A) c (i+1))=limg O p (kaa p A) (nv O (powX k (kaa p A) c i)):=funext λj=>yJ Z oT o.1 o.2 j
   rw[e1];refine(yH oA lA _ u).trans ?_;rw[← ih w hw];exact zk λj hj=>by rw[e j hj]
 have pe:perp p (Rm O (kry k (kaa p A) C p)) (λj=>if j<p then u j else 0):=by
  refine(λj hj=>bx (),λr L=>?_);have cut:∀ r:Nat->F,dot p r (λj=>if j<p then u j else 0)=dot p r u:=λr=>zk λj hj=>by rw[bw hj]
  rw[cut];refine L.all (P:=λr=>dot p r u=0) (dot_zero p _ _ λj _=>by grind) λc r v ⟨x,J,e⟩ hv=>?_
  obtain⟨b,hb,i,_,rfl⟩:=yB p x J;have:=pw b hb i u hu;rw[zp,yl p u (λj=>c*r j) v,ym,zp p u r,zp p u v,e,this,hv]
  grind
 have z:=(P F O _).mpr pe;have z0:∀ j,(λj=>if j<p then u j else 0) j =(0:F):=z.all (P:=λv=>∀ j,v j=0) (λj=>rfl) λc r v ⟨x,J,_⟩ _=>nomatch J
 intro j hj;have:=z0 j
 simpa [hj] using this
def ZH{l:List Nat}(h:l.Pairwise (·<·)):∀ d i (hd:i+d<l.length),l[i]+d<=l[i+d]
 | 0,i,_=>ww _
 | d+1,i,hd=>by
  have h1:=ZH h d i ();have h2:=List.pairwise_iff_getElem.1 h (i+d) (i +(d+1)) () hd ();omega
def zeu{l:List Nat}(h:l.Pairwise (·<·))(b:∀ x∈l,x<n)(e:l.length=n)(hj:j<n):j∈l:=by
 have h1:=ZH h j 0 ();have h2:=ZH h (n - 1 - j) j ();have h3:=b _ (wk (show j +(n - 1 - j)<l.length by omega));have:l[j]'()=j:=by
  have h1:l[0]'()+j<=l[j]'():=by simpa using h1
  omega
 rw[← this];exact wk _
def ZS(Z:kab k)(rR:RdR k n R)(e:R.length=n)(u:Nat->F):∃ v,Rm O R v/\∀ j,j<n->v j=u j:=by
 obtain⟨lw,i⟩:=rR;obtain⟨_,ll,inc,lt⟩:=zE Z i;obtain⟨v,hv,ev⟩:=(i F O).take_off u;exact(v,hv,λj hj=>ev j (zeu inc lt () hj))
end
def JU[bu F](h:∀ u,U u↔U' u){v:Nat->F}:perp n U v↔perp n U' v:=(λp=>(p.1,λu hu=>p.2 u ((h u).2 hu)),λp=>(p.1,λu hu=>p.2 u ((h u).1 hu)))
def LstM(k:Int)(n h:Nat)(A B C:Tb):Prop:=(∃ R,kan k n A (kaa h B) R/\R.length=n)/\kaA k n [] (kry k (kaa n A) C n)
structure TwoM(k:Int)(n p h s:Nat)(A B C A2 B2 C2 W:Tb):Prop where
 n1:1<=n
 p1:1<=p
 oA:OkM k n A
 lA:A.length=n
 oB:OkM k h B
 lB:B.length=n
 oC:OkM k n C
 lC:C.length=s
 oA2:OkM k p A2
 lA2:A2.length=p
 oB2:OkM k h B2
 lB2:B2.length=p
 oC2:OkM k p C2
 lC2:C2.length=s
 mke:∀ t,t<n+p->MkE k h A B C A2 B2 C2 t
 le:kan k (n+p) (kas k n p A A2) (kaa h (B++B2)) W
 l1:LstM k n h A B C
 l2:LstM k p h A2 B2 C2
section
variable(T:TwoM k n p h s A B C A2 B2 C2 W)(Z:kab k)[bu F](O:Kf k F)
include T Z
theorem TwoM.corn_lo(hi:i<n):(kas k n p A A2)[i]?=some (A.getD i []++wL p (nnum k 0)):=by
 have:=T.lA;unfold kas;rw[vk (by rw[yR (r:=n) T.lA (by unfold nulT;rw[wQ])];exact hi)];exact xK (by rw[wc,wb ()];rfl) (qd hi)
theorem TwoM.corn_hi(hi:i<p):(kas k n p A A2)[n+i]?=some (wL n (nnum k 0)++A2.getD i []):=by
 have:=T.lA2;have l:=yR (r:=n) T.lA (show(nulT k n p).length=n by unfold nulT;rw[wQ]);unfold kas;rw[wW (),l,vK];exact xK (qd hi) (by rw[wc,wb ()];rfl)
theorem TwoM.corn_ok:OkM k (n+p) (kas k n p A A2)/\(kas k n p A A2).length=n+p:=by
 have l:(kas k n p A A2).length=n+p:=by
  unfold kas;rw[wy,yR (r:=n) T.lA (by unfold nulT;rw[wQ]),yR (r:=p) (by unfold nulT;rw[wQ]) T.lA2]
 refine(λr L=>?_,l);have get:∀ {M:Tb} {i:Nat},i<M.length->M.getD i []∈M:=λ{M i} hi=>by rw[wc,wb hi];exact wk hi
 have okapp:∀ {x y:List Nb},OkR k x->OkR k y->OkR k (x++y):=λJ hy z hz=>(wp.mp hz).elim (J z) (hy z)
 obtain⟨i,hi,rfl⟩:=wD L
 rcases wH i n with h|h
 ·have e:=T.corn_lo Z h;rw[wb hi]at e;rw[Option.some.inj e];have o:=T.oA _ (get (by rw[T.lA];exact h));exact(by rw[wy,wQ,o.1],okapp o.2 (ZB Z p))
 ·obtain⟨j,rfl⟩:=Gm h;have hj:j<p:=by omega
  have e:=T.corn_hi Z hj;rw[wb hi]at e;rw[Option.some.inj e];have o:=T.oA2 _ (get (by rw[T.lA2];exact hj));exact(by rw[wy,wQ,o.1],okapp (ZB Z n) o.2)
theorem TwoM.bt_ok:OkM k (n+p) (kaa h (B++B2)):=by
 have:=zg (k:=k) (n:=h) (M:=B++B2) λr L=>(wp.1 L).elim (T.oB r) (T.oB2 r)
 rwa [wy,T.lB,T.lB2]at this
theorem TwoM.kept(hv:Rm O W v):Rm O W (limg O (n+p) (kas k n p A A2) v):=by
 have o:=T.corn_ok Z;exact jA Z (b:=0) (z:=0) (by have:=T.n1;omega) o.1 o.2 (T.bt_ok Z) T.le O hv
theorem zf9:nv O (wL m (nnum k 0)) j=0:=by
 rcases wH j m with h|h
 ·rw[zI O (x:=nnum k 0) (by rw[vU,bw h]),O.num,La.ι_zero]
 ·exact zY O (by rw[wQ];exact h)
theorem TwoM.img_lo v (hi:i<n):limg O (n+p) (kas k n p A A2) v i=limg O n A v i:=by
 unfold limg;have o:=T.oA _ (gdmemX (show i<A.length by rw[T.lA];exact hi));rw[wc,T.corn_lo Z hi,wai,ZZ];have z:dot p (λj=>nv O (A.getD i []++wL p (nnum k 0)) (n+j)) (λj=>v (n+j))=0:=dot_zero p _ _ λj _=>by
  rw[xv,bx (),zf9 T Z];grind
 rw[z,zk (u':=nv O (A.getD i [])) (v':=v) λj hj=>by rw[xv,bw ()]]
 grind
theorem TwoM.img_hi v (hi:i<p):limg O (n+p) (kas k n p A A2) v (n+i)=limg O p A2 (λj=>v (n+j)) i:=by
 unfold limg;rw[wc (l:=kas k n p A A2),T.corn_hi Z hi,wai,ZZ];have z:dot n (nv O (wL n (nnum k 0)++A2.getD i [])) v=0:=dot_zero n _ _ λj hj=>by
  rw[xv,bw (by rw[wQ];exact hj),zf9 T Z];grind
 rw[z,zk (u':=nv O (A2.getD i [])) (v':=λj=>v (n+j)) λj hj=>by rw[xv,bx (by rw[wQ];omega),wQ,vK]]
 grind
theorem TwoM.row{l:Nat}(hl:l<h):∀ i,Rm O W (nv O (powX k A (colX l B) i++powX k A2 (colX l B2) i)):=by
 obtain⟨o1,l1⟩:=yO T.oB T.lB hl;obtain⟨o2,l2⟩:=yO T.oB2 T.lB2 hl;have oc:=T.corn_ok Z;intro i
 induction i with
 | zero =>
  refine(T.le.eq F O _).mpr ?_;have:=jC Z oc.1 oc.2 (T.bt_ok Z) 0 (n+p) (nv O (colX l B++colX l B2)) (.of (_,?_,V))
  ·rwa [uk]at this
  ·show colX l B++colX l B2∈kaa h (B++B2);rw[← show colX l (B++B2)=colX l B++colX l B2 from wv];exact Zm hl _
 | succ i ih =>
  have p1:=zF Z T.oA T.lA o1 l1 i;have p2:=zF Z T.oA2 T.lA2 o2 l2 i;have:=T.kept Z O ih;rw[← show nv O (imgM k (kas k n p A A2) (powX k A (colX l B) i++powX k A2 (colX l B2) i))=_ from funext λj=>yJ Z oc.1 (λx J=>(wp.1 J).elim (p1.1 x) (p2.1 x)) (by rw[wy,p1.2,p2.2]) j,zbn Z T.oA T.lA T.oA2 T.lA2 p1.1 p1.2 p2.1 p2.2]at this;exact this
theorem TwoM.bt(hb:b∈kaa h (B++B2)):∃ l,l<h/\b=colX l B++colX l B2:=by
 unfold kaa at hb;obtain⟨l,hl,rfl⟩:=wj.1 hb;exact(l,wP.1 hl,wv)
theorem TwoM.see(hv:Rm O W v)(hi:i<s):dot n (nv O (C.getD i [])) v=dot p (nv O (C2.getD i [])) (λj=>v (n+j)):=by
 have oc:=T.corn_ok Z;have h1:=xM Z oc.1 oc.2 (T.bt_ok Z) (by have:=T.n1;omega) v ((T.le.eq F O v).mp hv);have hC:i<C.length:=by rw[T.lC];exact hi
 have hC2:i<C2.length:=by rw[T.lC2];exact hi
 have o1:=T.oC _ (gdmemX hC);have o2:=T.oC2 _ (gdmemX hC2);refine h1.all (P:=λv=>dot n (nv O (C.getD i [])) v=dot p (nv O (C2.getD i [])) (λj=>v (n+j))) ?_ λc r v ⟨x,J,e⟩ hv=>?_
 ·rw[dot_zero n _ _ λj _=>by grind,dot_zero p _ _ λj _=>by grind]
 obtain⟨b,hb,t,ht,rfl⟩:=yB _ x J;obtain⟨l,hl,rfl⟩:=T.bt Z hb;obtain⟨c1,d1⟩:=yO T.oB T.lB hl;obtain⟨c2,d2⟩:=yO T.oB2 T.lB2 hl;have p1:=zF Z T.oA T.lA c1 d1 t;have p2:=zF Z T.oA2 T.lA2 c2 d2 t;have m:=T.mke t (by have:=T.n1;omega) l hl;rw[jq Z T.oA T.lA T.oA2 T.lA2 c1 d1 c2 d2]at e;have m:=congrArg (λl=>O.to (l.getD i (nnum k 0))) m;have get:∀ {M:Tb} {x:List Nb},i<M.length->(imgM k M x).getD i (nnum k 0)=ndot k (M.getD i []) x:=λ{M x} h=>by
  unfold imgM;rw[wc,wg,wc,wb h];rfl
 rw[get hC,get hC2,zP O Z o1.2 p1.1 (by rw[o1.1,p1.2]),zP O Z o2.2 p2.1 (by rw[o2.1,p2.2]),o1.1,o2.1]at m;rw[yl n _ (λj=>c*r j) v,ym,yl p _ (λj=>c*r (n+j)) (λj=>v (n+j)),ym,hv,e];rw[zk (u':=nv O (C.getD i [])) (v':=nv O (powX k A (colX l B) t)) λj hj=>by rw[xv,bw ()],m];rw[zk (n:=p) (u:=nv O (C2.getD i [])) (v:=λj=>nv O (powX k A (colX l B) t++powX k A2 (colX l B2) t) (n+j)) (u':=nv O (C2.getD i [])) (v':=nv O (powX k A2 (colX l B2) t)) λj hj=>by rw[xv,bx (),p1.2,vK]]
theorem TwoM.supp(hv:Rm O W v)(hj:n+p<=j):v j=0:=by
 obtain⟨lw,i⟩:=T.le.rd;exact(i F O).supp hv j hj
theorem TwoM.hd0(hv:Rm O W v)(z:∀ j,j<n->v j=0) j:v j=0:=by
 have P:=T.l2.2;have:=seen0 (O:=O) Z T.oA2 T.lA2 T.oC2 P (U:=λu=>∃ v,Rm O W v/\(∀ j,j<n->v j=0)/\∀ j,u j=v (n+j)) (λu ⟨v,hv,z,e⟩=>?_) (λu ⟨v,hv,z,e⟩ c hc=>?_) (u:=λj=>v (n+j)) (v,hv,z,λ_=>rfl)
 ·rcases wH j n with h|h
  ·exact z j h
  obtain⟨i,rfl⟩:=Gm h
  rcases wH i p with h|h
  ·exact this i h
  ·exact T.supp Z O hv ()
 ·refine(_,(_,T.kept Z O hv,λj hj=>?_,λj=>rfl),λj hj=>?_)
  ·rw[T.img_lo Z O v hj];exact dot_zero n _ _ λi hi=>by rw[z i hi];grind
  ·rw[T.img_hi Z O v hj,show u=λj=>v (n+j)from funext e]
 ·obtain⟨i,hi,rfl⟩:=wD hc;have hs:=T.see Z O hv (i:=i) (by rw[← T.lC2];exact hi);rw[dot_zero n _ _ λi hi=>by rw[z i hi];grind]at hs;rw[show u=λj=>v (n+j)from funext e,hs,wc,wb hi];rfl
theorem TwoM.tl0(hv:Rm O W v)(z:∀ j,j<p->v (n+j)=0) j:v j=0:=by
 have P:=T.l1.2;have:=seen0 (O:=O) Z T.oA T.lA T.oC P (U:=λv=>Rm O W v/\∀ j,j<p->v (n+j)=0) (λv ⟨hv,z⟩=>?_) (λv ⟨hv,z⟩ c hc=>?_) (u:=v) (hv,z)
 ·rcases wH j n with h|h
  ·exact this j h
  obtain⟨i,rfl⟩:=Gm h
  rcases wH i p with h|h
  ·exact z i h
  ·exact T.supp Z O hv ()
 ·refine(_,(T.kept Z O hv,λj hj=>?_),λj hj=>T.img_lo Z O v hj);rw[T.img_hi Z O v hj];exact dot_zero p _ _ λi hi=>by rw[z i hi];grind
 ·obtain⟨i,hi,rfl⟩:=wD hc;have hs:=T.see Z O hv (i:=i) (by rw[← T.lC];exact hi);rw[dot_zero p _ _ λi hi=>by rw[z i hi];grind,wc,wb hi]at hs;exact hs
theorem TwoM.on1(u:Nat->F):∃ v,Rm O W v/\∀ j,j<n->v j=u j:=by
 obtain⟨⟨R,bO,e⟩,_⟩:=T.l1;obtain⟨x,J,ex⟩:=ZS (O:=O) Z bO.rd e u;have lin:LinF (F:=F) λv j=>if j<n then v j else 0:=(λc u v j=>by split <;> grind,λj=>by split <;> rfl)
 suffices q:∀ r∈kry k A (kaa h B) n,∃ x,Rm O W x/\∀ j,(if j<n then x j else 0)=nv O r j by
  obtain⟨v,hv,ev⟩:=lin.onto (M:=W) (Y:=kry k A (kaa h B) n) q ((bO.eq F O x).mp J);exact(v,hv,λj hj=>by have:=ev j;rw[bw hj]at this;rw[this,ex j hj])
 intro r L;obtain⟨b,hb,i,_,rfl⟩:=yB _ r L;unfold kaa at hb;obtain⟨l,hl,rfl⟩:=wj.1 hb;have hl:=wP.1 hl;obtain⟨c1,d1⟩:=yO T.oB T.lB hl;have p1:=zF Z T.oA T.lA c1 d1 i;refine(_,T.row Z O hl i,λj=>?_);show(if j<n then _ else _)=nv O (powX k A (colX l B) i) j
 split
 ·rw[xv,bw ()]
 ·exact(zY O ()).symm
theorem TwoM.on2(u:Nat->F):∃ v,Rm O W v/\∀ j,j<p->v (n+j)=u j:=by
 obtain⟨⟨R,bO,e⟩,_⟩:=T.l2;obtain⟨x,J,ex⟩:=ZS (O:=O) Z bO.rd e u;have lin:LinF (F:=F) λv j=>v (n+j):=(λc u v j=>rfl,λj=>rfl)
 suffices q:∀ r∈kry k A2 (kaa h B2) p,∃ x,Rm O W x/\∀ j,x (n+j)=nv O r j by
  obtain⟨v,hv,ev⟩:=lin.onto (M:=W) (Y:=kry k A2 (kaa h B2) p) q ((bO.eq F O x).mp J);exact(v,hv,λj hj=>by rw[ev j,ex j hj])
 intro r L;obtain⟨b,hb,i,_,rfl⟩:=yB _ r L;unfold kaa at hb;obtain⟨l,hl,rfl⟩:=wj.1 hb;have hl:=wP.1 hl;obtain⟨c1,d1⟩:=yO T.oB T.lB hl;have p1:=zF Z T.oA T.lA c1 d1 i;refine(_,T.row Z O hl i,λj=>?_);show nv O (powX k A (colX l B) i++powX k A2 (colX l B2) i) (n+j)=nv O (powX k A2 (colX l B2) i) j;rw[xv,bx (),p1.2,vK]
end
section
variable[bu F]{O:Kf k F}
def zfN c {f:Nat->Nat->F}:∀ m,(∀ i,i<m->Rm O W (f i))->Rm O W (λj=>dot m c (λi=>f i j))
 | 0,_=>Span.cast .zero λj=>rfl
 | m+1,h=>((h m ()).smul (c m)).add (zfN c m λi hi=>h i ()) |>.cast λj=>by
  show c m*f m j+dot m c (λi=>f i j)=dot m c (λi=>f i j)+c m*f m j
  grind
def LinF.dots(bO:LinF T) c (f:Nat->Nat->F) j:∀ m,T (λj=>dot m c (λi=>f i j)) j=dot m c (λi=>T (f i) j)
 | 0=>bO.zer j
 | m+1=>by
  have:(λj=>dot (m+1) c (λi=>f i j))=λj=>c m*f m j+dot m c (λi=>f i j):=funext λj=>by
   show dot m c (λi=>f i j)+c m*f m j=_
   grind
  rw[this,bO.lin,bO.dots c f j m];show _=dot m c (λi=>T (f i) j)+c m*T (f m) j
  grind
def zfM(Z:kab k)(L1:LinF T1)(L2:LinF T2)(on1:∀ u:Nat->F,∃ v,Rm O W v/\∀ j,j<n->T1 v j=u j)(on2:∀ u:Nat->F,∃ v,Rm O W v/\∀ j,j<p->T2 v j=u j)(inj:∀ v,Rm O W v->(∀ j,j<p->T2 v j=0)->∀ j,j<n->T1 v j=0):n<=p:=by
 obtain⟨f,hf⟩:=wak λi:Nat=>on2 (kae i 1)
 have ou:=zW Z n;refine Ja (O:=O) Z (w:=n) (M:=kam k n) ou.1 (kam k n,_,yQ O Z n,λv=>Iff.rfl,ou.2) (λi=>T1 (f i)) λx J=>?_
 obtain⟨v,hv,ev⟩:=on1 (nv O x);refine(T2 v,λj hj=>?_);have w:=(((zfN (O:=O) (W:=W) (T2 v) (f:=f) p λi _=>(hf i).1).smul (-1)).add hv);have z:=inj _ w (λl hl=>by
  rw[L2.lin,L2.dots,zk (u':=T2 v) (v':=kae l 1) λi hi=>by rw[(hf i).2 l hl];unfold kae;grind,yd hl]
  grind) j hj
 rw[L1.lin,L1.dots,ev j hj]at z
 grind
end
section
variable(T:TwoM k n p h s A B C A2 B2 C2 W)(Z:kab k)[bu F](O:Kf k F)
include T Z
theorem TwoM.np:n=p:=by
 obtain⟨F,_,_,⟨O⟩⟩:=zw Z;have la:LinF (F:=F) λv j=>v j:=(λc u v j=>rfl,λj=>rfl)
 have lb:LinF (F:=F) λv j=>v (n+j):=(λc u v j=>rfl,λj=>rfl)
 exact ut (zfM (O:=O) Z la lb (T.on1 Z O) (T.on2 Z O) λv hv z j _=>T.tl0 Z O hv z j) (zfM (O:=O) Z lb la (T.on2 Z O) (T.on1 Z O) λv hv z j _=>T.hd0 Z O hv z (n+j))
theorem TwoM.unit:W.length=n/\W.map (vS n)=kam k n:=by
 obtain⟨F,_,_,⟨O⟩⟩:=zw Z;obtain⟨lw,ia⟩:=T.le.rd;have i:=ia F O;have one:(1:F)≠0:=λe=>Lean.Grind.Field.zero_ne_one e.symm
 have el:lw=wY n:=yI i.inc gh (λl hl=>by
  obtain⟨v,hv,z,ne⟩:=(i.lead_iff l).1 hl
  rcases wH l n with g|g
  ·exact wP.2 g
  ·exact bK (T.hd0 Z O hv (λj hj=>z j ()) l) ne) λl hl=>by
  have hl:=wP.1 hl;obtain⟨v,hv,e⟩:=T.on1 Z O (kae l 1);refine(i.lead_iff l).2 (v,hv,λj hj=>?_,?_)
  ·rw[e j ()];unfold kae;rw[bx ()]
  ·rw[e l hl];unfold kae;rw[bw rfl];exact one
 have lW:W.length=n:=by rw[← i.len,el,vx]
 subst el;refine(lW,uB (by rw[wa,(zW Z n).2,lW]) λj h1 h2=>?_);have hj:j<n:=by rw[wa]at h1;omega
 have hW:j<W.length:=by omega
 have g:=λ(q:Nat) (hq:q<n)=>i.get (i:=q) (vw hq) (wb (show q<W.length by omega))
 have ok:=i.ok _ (wk hW);have eu:(kam k n)[j]=kak k n j:=by
  have:=yv (k:=k) hj;rw[wb h2]at this;exact Option.some.inj this
 have ou:=jz Z n j;rw[uM,eu];refine YF O (λx J=>ok.2 x (vD J)) ou.2 (by rw[wr,ok.1,ou.1];omega) λq=>?_
 rw[xn hj]
 rcases wH q n with hq|hq
 ·rw[Zf hq];unfold kae
  split
  ·rename_i e;subst e;exact i.rr.one _ (g q hq)
  ·rename_i e;exact i.rr.oth _ (g j hj) _ (g q hq) λz=>e z.symm
 ·rw[zY O (by rw[wr];omega)];unfold kae;rw[bx ()]
theorem TwoM.y_ok:OkM k p (W.map (vz n))/\(W.map (vz n)).length=n:=by
 obtain⟨lw,ia⟩:=T.le.rd;have o:=(zE Z ia).1;refine(λr L=>?_,by rw[wa,(T.unit Z).1]);obtain⟨w,hw,rfl⟩:=wj.1 L;exact(by rw[ue,(o w hw).1];omega,λx J=>(o w hw).2 x (gD J))
theorem TwoM.s_ok:OkM k n (kaa p (W.map (vz n)))/\(kaa p (W.map (vz n))).length=p:=by
 have:=zg (T.y_ok Z).1;rw[(T.y_ok Z).2]at this;exact(this,ze _ _)
theorem TwoM.full(hi:i<n):Rm O (W.map (vz n)) (kae i 1):=by
 obtain⟨v,hv,e⟩:=T.on2 Z O (kae i 1);have lin:LinF (F:=F) λv j=>v (n+j):=(λc u v j=>rfl,λj=>rfl)
 have:=lin.rm (M:=W) (Y:=W.map (vz n)) (λr L=>.of (_,uJ L,funext λj=>(XY j).symm)) hv;refine this.cast λj=>?_
 have np:=T.np Z
 rcases wH j p with hj|hj
 ·exact e j hj
 ·rw[T.supp Z O hv ()];unfold kae;rw[bx ()]
omit T in
theorem yN{z:Nat}:∀ {M:Tb},kad z M->rowB (M.length*z+1) M.flatten
 | [],_=>(1,(),by rw[uI,GK];decide,λx J=>nomatch J)
 | r::M,h=>by
  have:=xG (h r wo) (yN (M:=M) λr L=>h r (wt _ L));rw[vE,vO,uW];exact this.mono ()
omit T in
theorem zgK{z c:Nat}{M:Tb}(oM:OkM k c M)(h:kad z M):kad (M.length*z+1) (kaa c M):=λr L=>by
 refine Zl (k:=k) (yN Z h) λx J=>.inl ?_
 unfold kaa at L;obtain⟨j,hj,rfl⟩:=wj.1 L;obtain⟨w,hw,rfl⟩:=wj.1 J;have:j<w.length:=by rw[(oM w hw).1];exact wP.1 hj
 refine wU.2 (w,hw,?_);rw[wc,wb this];exact wk this
theorem TwoM.back{R:Tb}{ls:List Nat}(red:∀(F:Type) [bu F] (O:Kf k F),kap O (n+n) (kao k n (kaa n (W.map (vz n)))) R ls):R.map (vS n)=kam k n:=by
 have y:=T.y_ok Z;have np:=T.np Z;subst np;exact jE Z y.1 y.2 (λF _ O i hi=>T.full Z O hi) red
end
section
variable(Z:kab k)
def zcL(hj:j<h):∀ t,colX j (blkT k h A B t)=powX k A (colX j B) t
 | 0=>rfl
 | t+1=>(zaI (b:=0) hj).trans (congrArg (imgM k A) (zcL hj t))
include Z
end
section
variable(Z:kab k)
include Z
theorem zcz{n:Nat}{M:Tb}(oM:OkM k n M):∃ R ls,∀(F:Type) [bu F] (O:Kf k F),kap O n M R ls:=by
 have:∃ Ws:List (List Int),Ws.length=M.length/\∀(i:Nat)(r:List Nb)(ws:List Int),M[i]?=some r->Ws[i]?=some ws->∃ b,Scl k r ws b:=by
  induction M with
  | nil=>exact([],V,λi r ws h=>by simp at h)
  | cons m M ih =>
   obtain⟨Ws,l,h⟩:=ih λr L=>oM r (wt _ L)
   obtain⟨b,hb⟩:=yT Z (oM m wo).2;refine(m.map (scW b)::Ws,by simp[l],λi r ws h1 h2=>?_);cases i with
   | zero=>simp at h1 h2;subst h1 h2;exact(b,hb)
   | succ i=>exact h i r ws (by simpa using h1) (by simpa using h2)
 obtain⟨Ws,l,h⟩:=this;exact(_,_,λF _ O=>jR O Z oM l h)
theorem ju(oA:OkM k n A)(lA:A.length=n)(oB:OkM k n B):∃ R,kan k n A B R:=by
 obtain⟨R,ls,red⟩:=zcz Z (yq Z oA lA oB n);exact(R,(ls,λF _ O=>(red F O).toIsR),λF _ O v=>((red F O).fro v,(red F O).to v))
end
section
variable(T:TwoM k n p h s A B C A2 B2 C2 W)(Z:kab k)
include T Z
theorem TwoM.rank{t:Nat}{V:Tb}(hV:RdR k (n+p) V)(e:kau k V (kry k (kas k n p A A2) (kaa h (B++B2)) t)):V.length<=n:=by
 obtain⟨F,_,_,⟨O⟩⟩:=zw Z;obtain⟨lw,i⟩:=hV;have oc:=T.corn_ok Z;have sub:∀ v,Rm O V v->Rm O W v:=λv hv=>((e F O v).mp hv).bind λu ⟨r,L,er⟩=>by
  obtain⟨b,hb,j,_,rfl⟩:=yB t r L;obtain⟨l,hl,rfl⟩:=T.bt Z hb;obtain⟨c1,d1⟩:=yO T.oB T.lB hl;obtain⟨c2,d2⟩:=yO T.oB2 T.lB2 hl;rw[jq Z T.oA T.lA T.oA2 T.lA2 c1 d1 c2 d2]at er;rw[er];exact T.row Z O hl j
 obtain⟨lx,ix⟩:=T.le.rd;have:=((i F O).sub_len (ix F O) sub).1
 rwa [(T.unit Z).1]at this
end
section
variable[bu F]{O:Kf k F}{X:Nat->Tb}(Z:kab k)(oX:∀ t,t<N->OkM k c (X t)/\(X t).length=p)(c0:0<c)
include Z oX c0
theorem zdE{Y:Nat->Tb}(oY:∀ t,t<N->OkM k p (Y t)/\(Y t).length=c)(p0:0<p)(tu:∀ t l s,t<N->l<p->s<c->nv O ((X t).getD l []) s=nv O ((Y t).getD s []) l){a b r r':Nat}(ab:a+b<=N+1)(h:Rnk O (a*c) (sqT X a p b) r)(h':Rnk O (b*p) (sqT Y b c a) r'):r<=r':=by
 obtain⟨bM,lz,iZ,eZ,rfl⟩:=h';refine Ja Z (xc oX ab) h (λi j=>nv O (sqR Y (j / c) (j % c) b) (lz.getD i 0)) λx J=>?_
 obtain⟨t,l,ht,hl,rfl⟩:=(zL b).mp J;refine(λi=>nv O (bM.getD i []) (t*p+l),λj hj=>?_);have hd:j / c<a:=gE (by rw[vJ];exact hj);have hm:=Gs j c0;rw[YC oX O c0 hl (),bw hj,tu (t+j / c) l (j % c) () hl hm,zp];have e1:=zfA oY O p0 (i:=j / c) (q:=j % c) (a:=b) (j:=t) (s:=l) hm () ht hl;rw[Gk t,← e1];exact expand iZ ((eZ _).mpr (.of (_,(zL a).mpr (j / c,j % c,hd,hm,V),V))) _
theorem zc9(hl:l<p)(h:t +(a+1)<=N) j:trV (a*c) (nv O (sqR X t l (a+1))) j=nv O (sqR X t l a) j:=by
 unfold trV;rw[YC oX O c0 hl h,YC oX O c0 hl ()];have:a*c<=(a+1)*c:=wI _ (uL a)
 split
 ·rw[bw ()]
 ·rfl
theorem zfm(hl:l<p)(h:t +(a+1)<=N) j:shV c (a*c) (nv O (sqR X t l (a+1))) j=nv O (sqR X (t+1) l a) j:=by
 unfold shV;rw[YC oX O c0 hl h,YC oX O c0 hl ()];have:(a+1)*c=a*c+c:=by rw[vG,vL]
 split
 ·rw[bw (),Nat.add_div_right _ c0,Nat.add_mod_right]
  congr 3
  omega
 ·rfl
theorem ziZ(h:a+1+b<=N+1)(hv:Rm O (sqT X (a+1) p b) v):Rm O (sqT X a p b) (trV (a*c) v) :=
 (zaf (a*c)).rm (λr L=>by
  obtain⟨t,l,ht,hl,rfl⟩:=(zL b).mp L;exact Span.cast (.of (_,(zL b).mpr (t,l,ht,hl,V),V)) λj=>(zc9 Z oX c0 hl () j).symm) hv
theorem zji(h:a+1+b<=N+1)(hv:Rm O (sqT X (a+1) p b) v):Rm O (sqT X a p (b+1)) (shV c (a*c) v) :=
 (zgy c (a*c)).rm (λr L=>by
  obtain⟨t,l,ht,hl,rfl⟩:=(zL b).mp L;exact Span.cast (.of (_,(zL (b+1)).mpr (t+1,l,(),hl,V),V)) λj=>(zfm Z oX c0 hl () j).symm) hv
theorem ziS(h:a+1+b<=N+1)(hu:Rm O (sqT X a p b) u):∃ v,Rm O (sqT X (a+1) p b) v/\∀ j,trV (a*c) v j=u j :=
 (zaf (a*c)).onto (λr L=>by
  obtain⟨t,l,ht,hl,rfl⟩:=(zL b).mp L;exact(_,.of (_,(zL b).mpr (t,l,ht,hl,V),V),λj=>zc9 Z oX c0 hl () j)) hu
theorem xQ(h:b<=b')(hv:Rm O (sqT X a p b) v):Rm O (sqT X a p b') v :=
 xu (λr L=>by
  obtain⟨t,l,ht,hl,rfl⟩:=(zL b).mp L;exact(zL b').mpr (t,l,(),hl,V)) hv
variable(hN:N=h+h)(h1:1<=h)
include hN h1
theorem zav{R:Tb}{ls:List Nat}(iR:IsR O ((h+1)*c) R ls)(eR:∀ v,Rm O R v↔Rm O (sqT X (h+1) p h) v)(r0:Rnk O (h*c) (sqT X h p h) R.length):∀ l∈ls,l<h*c:=by
 rcases Gz R with e|⟨R',x,e⟩
 ·subst e;have:=iR.len;rw[vB this];exact λ_ h=>nomatch h
 rcases Gz ls with e2|⟨ls',y,e2⟩
 ·have:=iR.len;rw[e,e2]at this;simp at this
 rw[waB]at e e2;have hll:ls'.length=R'.length:=by have:=iR.len;rw[e,e2]at this;simpa using this
 have inc:=iR.inc;have hy:y<h*c:=by
  rcases wH y (h*c)with hy|hy
  ·exact hy
  exfalso
  have hz:∀ j,j<h*c->nv O x j=0:=λj hj=>by
   have hm:=iR.get (i:=R'.length) (l:=y) (r:=x) (by rw[e2,← hll,wW (ww _),uE];rfl) (by rw[e,wW (ww _),uE];rfl);exact iR.rr.bef _ hm j (ve hj hy)
  have oR':OkM k (h*c) (R'.map (vS (h*c))):=λr L=>by
   obtain⟨q,hq,rfl⟩:=wj.mp L;have o:=iR.ok q (by rw[e];exact wO _ hq);have:h*c<=(h+1)*c:=wI _ (uL h);exact(by rw[wr,o.1];omega,λz hz=>o.2 z (vD hz))
  have:=zfr Z oR' r0 λu hu=>by
   obtain⟨v,hv,ev⟩:=ziS Z oX c0 (a:=h) () hu;have hv':=(eR v).mpr hv;rw[e]at hv';obtain⟨w,d,hw,ew⟩:=rm_app1.mp hv';have hw':Rm O (R'.map (vS (h*c))) (trV (h*c) w):=(zaf (h*c)).rm (λr L=>Span.cast (.of (_,uJ L,V)) λj=>by
    unfold trV
    split
    ·rename_i hj;show O.to (uG _ j _)=O.to (uG _ j _);rw[wc,wc,gM,bw hj]
    ·rename_i hj;exact zY O (by rw[wr];omega)) hw
   exact hw'.cast λj=>by
    rw[← ev j];unfold trV
    split
    ·rename_i hj;rw[ew j,hz j hj];grind
    ·rfl
  rw[wa,e,wy]at this;simp at this;omega
 intro l hl;rw[e2]at hl inc
 rcases wp.mp hl with g|g
 ·exact waO ((GA.mp inc).2.2 l g y (wx.mpr rfl)) hy
 ·rw[wx.mp g];exact hy
theorem za8{R:Tb}{ls:List Nat}(iR:IsR O ((h+1)*c) R ls)(ld:∀ l∈ls,l<h*c){u v:Nat->F}(hu:Rm O R u)(hv:Rm O R v)(e:∀ j,j<h*c->u j=v j)(j:Nat):u j=v j:=by
 rw[expand iR hu j,expand iR hv j];refine zk λi hi=>?_
 have hl:i<ls.length:=by rw[iR.len];exact hi
 have:ls.getD i 0∈ls:=by rw[wc,wb hl];exact wk _
 rw[e _ (ld _ this)]
theorem zg8(hs:s+1<=h)(hv:Rm O (sqT X (h+1) p s) v):∃ v',Rm O (sqT X (h+1) p (s+1)) v'/\∀ j,j<h*c->v' j=v (j+c) :=
 hv.all (P:=λv=>∃ v',Rm O (sqT X (h+1) p (s+1)) v'/\∀ j,j<h*c->v' j=v (j+c)) (λ_=>0,.zero,λ_ _=>rfl) λd r v ⟨y,hy,e⟩ ⟨v',hv',ev⟩=>by
  obtain⟨t,l,ht,hl,rfl⟩:=(zL s).mp hy;refine(λj=>d*nv O (sqR X (t+1) l (h+1)) j+v' j,.step d (_,(zL (s+1)).mpr (t+1,l,(),hl,V),V) hv',λj hj=>?_);have e1:=zc9 (O:=O) Z oX c0 (t:=t+1) (a:=h) hl () j;have e2:=zfm (O:=O) Z oX c0 (t:=t) (a:=h) hl () j;unfold trV at e1;unfold shV at e2;rw[bw hj]at e1 e2;show d*nv O (sqR X (t+1) l (h+1)) j+v' j=d*r (j+c)+v (j+c);rw[ev j hj,e,e1,e2]
theorem zez(r0:∃ r,Rnk O (h*c) (sqT X h p h) r/\Rnk O ((h+1)*c) (sqT X (h+1) p h) r){s:Nat}(hs:s+1<=h)(st:∀ v,Rm O (sqT X (h+1) p (s+1)) v->Rm O (sqT X (h+1) p s) v):∀ v,Rm O (sqT X (h+1) p h) v->Rm O (sqT X (h+1) p s) v:=by
 obtain⟨r,r0,R,ls,iR,eR,rfl⟩:=r0;have ld:=zav Z oX c0 hN h1 iR eR r0;have key:∀ t,t<h->∀ l,l<p->Rm O (sqT X (h+1) p s) (nv O (sqR X t l (h+1))):=by
  intro t
  induction t with
  | zero=>exact λ_ l hl=>st _ (.of (_,(zL (s+1)).mpr (0,l,(),hl,V),V))
  | succ t ih =>
   intro ht l hl;obtain⟨v',hv',ev⟩:=zg8 Z oX c0 hN h1 hs (ih () l hl);have hw:=st v' hv';refine hw.cast λj=>za8 Z oX c0 hN h1 iR ld ((eR _).mpr (xQ Z oX c0 () hw)) ((eR _).mpr (.of (_,(zL h).mpr (t+1,l,ht,hl,V),V))) (λj hj=>?_) j
   have e1:=zc9 (O:=O) Z oX c0 (t:=t+1) (a:=h) hl () j;have e2:=zfm (O:=O) Z oX c0 (t:=t) (a:=h) hl () j;unfold trV at e1;unfold shV at e2;rw[bw hj]at e1 e2;rw[ev j hj,e1,e2]
 exact λv hv=>hv.bind λu ⟨y,hy,e⟩=>by
  obtain⟨t,l,ht,hl,rfl⟩:=(zL h).mp hy;rw[e];exact key t ht l hl
end
def itF{F:Type}[bu F](O:Kf k F)(n:Nat)(A:Tb):Nat->(Nat->F)->Nat->F
 | 0,u=>u
 | j+1,u=>itF O n A j (limg O n A u)
section
variable[bu F]{O:Kf k F}
def zaP:∀ j,LinF (itF O n A j)
 | 0=>(λ_ _ _ _=>rfl,λ_=>rfl)
 | j+1=>(λc u v i=>by
   show itF O n A j (limg O n A λi=>c*u i+v i) i=c*itF O n A j _ i+itF O n A j _ i;rw[← (zaP j).lin]
   congr 1
   exact funext λi=>XA A c u v i,λi=>by
   show itF O n A j (limg O n A λ_=>0) i=0;rw[show limg O n A (λ_=>0)=λ_=>(0:F)from funext λi=>jY A i];exact(zaP j).zer i)
variable(Z:kab k)(oA:OkM k n A)(lA:A.length=n)
include Z oA lA
theorem zcO(oy:OkR k y)(ly:y.length=n):∀ j t,itF O n A j (nv O (powX k A y t))=nv O (powX k A y (t+j))
 | 0,t=>rfl
 | j+1,t=>by
  have op:=zF Z oA lA oy ly t;show itF O n A j (limg O n A (nv O (powX k A y t)))=_;rw[show limg O n A (nv O (powX k A y t))=nv O (powX k A y (t+1))from funext λi=>(yJ Z oA op.1 op.2 i).symm,zcO oy ly j (t+1),show t+1+j=t +(j+1) by omega]
end
def thF{F:Type}[bu F](O:Kf k F)(n c:Nat)(A:Tb)(D:Nat->Nat->F)(a:Nat)(u:Nat->F):Nat->F:=λj=>if j<a*c then dot n (D (j % c)) (itF O n A (j / c) u)else 0
def zfz[bu F]{O:Kf k F} a:LinF (thF O n c A D a) :=
 (λd u v j=>by
  unfold thF
  split
  ·rw[show itF O n A (j / c) (λi=>d*u i+v i)=λi=>d*itF O n A (j / c) u i+itF O n A (j / c) v i from funext λi=>(zaP (j / c)).lin d u v i,yl n _ (λi=>d*itF O n A (j / c) u i) (itF O n A (j / c) v),ym]
  ·grind,λj=>by
  unfold thF
  split
  ·rw[show itF O n A (j / c) (λ_=>0)=λ_=>(0:F)from funext λi=>(zaP (j / c)).zer i];exact dot_zero n _ _ λi _=>by grind
  ·rfl)
def MkV{k:Int}{F:Type}[bu F](O:Kf k F)(X:Nat->Tb)(N p c n:Nat)(A Bt:Tb)(D:Nat->Nat->F):Prop:=∀ t l s,t<N->l<p->s<c->nv O ((X t).getD l []) s=dot n (D s) (nv O (powX k A (Bt.getD l []) t))
section
variable[bu F]{O:Kf k F}(Z:kab k)(oX:∀ t,t<N->OkM k c (X t)/\(X t).length=p)(c0:0<c)(oA:OkM k n A)(lA:A.length=n)(oB:OkM k n Bt)(lB:Bt.length=p)(mk:MkV O X N p c n A Bt D)
include Z oX c0 oA lA oB lB mk
theorem zcZ(hl:l<p)(h:t+a<=N) j:nv O (sqR X t l a) j=thF O n c A D a (nv O (powX k A (Bt.getD l []) t)) j:=by
 rw[YC oX O c0 hl h];unfold thF
 split
 ·rename_i hj;have hd:j / c<a:=gE (by rw[vJ];exact hj);have gB:Bt.getD l []∈Bt:=by rw[wc,wb ()];exact wk _
  rw[mk (t+j / c) l (j % c) () hl (Gs j c0),zcO Z oA lA (oB _ gB).2 (oB _ gB).1]
 ·rfl
theorem XO(ab:a+b<=N+1)(h:Rnk O (a*c) (sqT X a p b) r):r<=n:=by
 refine Ja Z (xc oX ab) h (λi j=>thF O n c A D a (kae i 1) j) λx J=>?_
 obtain⟨t,l,ht,hl,rfl⟩:=(zL b).mp J;have gB:Bt.getD l []∈Bt:=by rw[wc,wb ()];exact wk _
 have op:=zF Z oA lA (oB _ gB).2 (oB _ gB).1 t;refine(nv O (powX k A (Bt.getD l []) t),λj _=>?_);rw[zcZ Z oX c0 oA lA oB lB mk hl () j,← (zfz a).sum]
 congr 1
 exact funext λi=>by
  split
  ·rfl
  ·exact zY O ()
theorem zdR{h:Nat}(hN:N=h+h)(n1:1<=n)(nh:n<=h):∀ v,Rm O (sqT X h p (h+1)) v->Rm O (sqT X h p h) v:=λv hv=>hv.bind λu ⟨y,hy,e⟩=>by
 obtain⟨t,l,ht,hl,rfl⟩:=(zL (h+1)).mp hy;rw[e];have gB:Bt.getD l []∈Bt:=by rw[wc,wb ()];exact wk _
 have sB:∀ v,Rm O (kry k A Bt (n - 1+1)) v->Rm O (kry k A Bt (n - 1)) v:=λv hv=>by
  rw[show n - 1+1=n by omega]at hv;exact xM Z oA lA oB n1 v hv
 have h0:Rm O (kry k A Bt h) (nv O (powX k A (Bt.getD l []) t)):=.of (_,qs gB h t (),V);have h2:=(xN Z oA lA oB sB (show n - 1<=h - 1 by omega) _).mpr ((xN Z oA lA oB sB (show n - 1<=h by omega) _).mp h0);refine((zfz (O:=O) (n:=n) (c:=c) (A:=A) (D:=D) h).rm (λr L=>?_) h2).cast λj=>(zcZ Z oX c0 oA lA oB lB mk hl () j).symm
 obtain⟨b,hb,i,hi,rfl⟩:=yB (h - 1) r L;obtain⟨q,hq,eq⟩:=wD hb;have eb:Bt.getD q []=b:=by rw[wc,wb hq,eq];rfl
 rw[← eb];exact Span.cast (.of (_,(zL h).mpr (i,q,(),(),V),V)) λj=>zcZ Z oX c0 oA lA oB lB mk () () j
end
def zeJ{k:Int}{F:Type}[bu F]{O:Kf k F}{n w:Nat}{R:Tb}{ls:List Nat}(iR:IsR O n R ls)(wn:w<=n)(ld:∀ l∈ls,l<w):IsR O w (R.map (vS w)) ls/\∀ r:List Nb,nv O (r.take w)=trV w (nv O r):=by
 have nvt:∀ r:List Nb,nv O (r.take w)=trV w (nv O r):=λr=>funext λj=>by
  unfold trV
  split
  ·rename_i hj;show O.to (uG _ j _)=O.to (uG _ j _);rw[wc,wc,gM,bw hj]
  ·rename_i hj;exact zY O (by rw[wr];omega)
 have ez:ls.zip ((R.map (vS w)).map (nv O)) =(ls.zip (R.map (nv O))).map (Prod.map id (trV w)):=by
  rw[← List.zip_map_right,vV,vV]
  congr 1
  exact vM λr _=>nvt r
 have mem:∀ q∈ls.zip (R.map (nv O)),q.1<w:=λq hq=>ld _ (vt (show Prod.mk q.1 q.2∈_ from hq)).1
 refine((λr L=>?_,by rw[wa];exact iR.len,?_),nvt)
 ·obtain⟨q,hq,rfl⟩:=wj.mp L;have o:=iR.ok q hq;exact(by rw[wr,o.1];omega,λz hz=>o.2 z (vD hz))
 rw[ez];refine(?_,λq hq=>?_,λq hq j hj=>?_,λq hq j hj=>?_,λq hq=>?_,λq hq q' hq' ne=>?_)
 ·rw[uQ];exact iR.rr.inc
 all_goals
  obtain⟨x,J,rfl⟩:=wj.mp hq
 ·exact mem x J
 ·show(if j<w then _ else _)=_;rw[bx ()]
 ·show(if j<w then _ else _)=_
  split
  ·exact iR.rr.bef x J j hj
  ·rfl
 ·show(if x.1<w then _ else _)=_;rw[bw (mem x J)];exact iR.rr.one x J
 ·obtain⟨y,hy,rfl⟩:=wj.mp hq';show(if y.1<w then _ else _)=_;rw[bw (mem y hy)];exact iR.rr.oth x J y hy ne
section
variable[bu F]{O:Kf k F}{X:Nat->Tb}(Z:kab k)(oX:∀ t,t<N->OkM k c (X t)/\(X t).length=p)(c0:0<c)(hN:N=h+h)(h1:1<=h)
include Z oX c0 hN h1
theorem zbL{D:Nat->Nat->F}(iR:IsR O ((h+1)*c) R ls)(sR:∀ v,Rm O R v->Rm O (sqT X (h+1) p h) v)(ld:∀ l∈ls,l<h*c)(oA:OkM k R.length A)(lA:A.length=R.length)(oB:OkM k R.length Bt)(lB:Bt.length=p)(mk:MkV O X N p c R.length A Bt D):Rnk O (h*c) (sqT X h p h) R.length/\Rnk O ((h+1)*c) (sqT X (h+1) p h) R.length/\Rnk O (h*c) (sqT X h p (h+1)) R.length:=by
 obtain⟨r0,k0⟩:=QZ (O:=O) Z (xc oX (a:=h) (b:=h) ());obtain⟨r1,k1⟩:=QZ (O:=O) Z (xc oX (a:=h+1) (b:=h) ());obtain⟨r2,k2⟩:=QZ (O:=O) Z (xc oX (a:=h) (b:=h+1) ());have a0:=XO Z oX c0 oA lA oB lB mk () k0;have a1:=XO Z oX c0 oA lA oB lB mk () k1;have a2:=XO Z oX c0 oA lA oB lB mk () k2;have b1:=(yP (R,ls,iR,λ_=>Iff.rfl,V) k1 sR).1;obtain⟨iT,nvt⟩:=zeJ iR (wI c (uL h)) ld;have b0:=(yP (_,ls,iT,λ_=>Iff.rfl,V) k0 λv hv=>hv.bind λu ⟨x,J,e⟩=>by
  obtain⟨y,hy,rfl⟩:=wj.mp J;rw[e,nvt];exact ziZ Z oX c0 () (sR _ (.of (y,hy,V)))).1
 rw[wa]at b0;have b2:=(yP k0 k2 λv hv=>xQ Z oX c0 (uL h) hv).1;have e0:r0=R.length:=by omega
 have e1:r1=R.length:=by omega
 have e2:r2=R.length:=by omega
 subst e0;exact(k0,by rw[← e1];exact k1,by rw[← e2];exact k2)
theorem realize(iR:IsR O ((h+1)*c) R ls)(eR:∀ v,Rm O R v↔Rm O (sqT X (h+1) p h) v)(ld:∀ l∈ls,l<h*c)(nx:∀ v,Rm O (sqT X h p (h+1)) v->Rm O (sqT X h p h) v)
  (oA:OkM k R.length A) (lA:A.length=R.length) (oB:OkM k R.length Bt) (lB:Bt.length=p)
  (eA:∀ i j,i<R.length->j<R.length->nv O (A.getD j []) i=nv O (R.getD i []) (c+ls.getD j 0))
  (eB:∀ l j,l<p->j<R.length->nv O (Bt.getD l []) j=nv O (sqR X 0 l (h+1)) (ls.getD j 0)):MkV O X N p c R.length A Bt (λs i=>nv O (R.getD i []) s):=by
 have gl:∀ i,i<R.length->ls.getD i 0∈ls:=λi hi=>by
  rw[wc,wb (by rw[iR.len];exact hi)];exact wk _
 have gB:∀ l,l<p->Bt.getD l []∈Bt:=λl hl=>by rw[wc,wb ()];exact wk _
 let ψ:(Nat->F)->Nat->F:=λu j=>dot R.length u (λi=>nv O (R.getD i []) j)
 have pR:∀ u,Rm O R (ψ u):=λu=>ZG (O:=O) R u R.length
 have ex:∀ v,Rm O R v->∀ j,v j=ψ (λi=>v (ls.getD i 0)) j:=λv hv j=>expand iR hv j
 have inj:∀ u v,Rm O R u->Rm O R v->(∀ j,j<h*c->u j=v j)->∀ j,u j=v j:=λu v hu hv e=>za8 Z oX c0 hN h1 iR ld hu hv e
 have hc:(h+1)*c=h*c+c:=by rw[vG,vL]
 have aps:∀ u j,j<h*c->ψ (limg O R.length A u) j=ψ u (j+c):=λu j hj=>by
  have h0:=zji Z oX c0 (a:=h) (b:=h) () ((eR _).mp (pR u));obtain⟨v',hv',ev⟩:=ziS Z oX c0 (a:=h) (b:=h) () (nx _ h0);have e1:∀ i,i<h*c->v' i=ψ u (i+c):=λi hi=>by
   have:=ev i;unfold trV shV at this;rw[bw hi,bw hi]at this;exact this
  have e2:=ex v' ((eR _).mpr hv') j;rw[← e1 j hj,e2];refine zk λi hi=>?_
  congr 1
  show limg O R.length A u i=v' (ls.getD i 0);rw[e1 _ (ld _ (gl i hi))];show dot R.length (nv O (A.getD i [])) u=dot R.length u (λi'=>nv O (R.getD i' []) (ls.getD i 0+c));rw[zp];exact zk λi' hi'=>by rw[eA i' i hi' hi,Gk c]
 have row:∀ t l,t<h->l<p->Rm O R (nv O (sqR X t l (h+1))):=λt l ht hl=>(eR _).mpr (.of (_,(zL h).mpr (t,l,ht,hl,V),V))
 have ans:∀ l,l<p->∀ t,t<h->∀ j,nv O (sqR X t l (h+1)) j=ψ (nv O (powX k A (Bt.getD l []) t)) j:=λl hl t=>by
  induction t with
  | zero =>
   intro ht j;rw[ex _ (row 0 l ht hl) j];refine zk λi hi=>?_
   rw[show nv O (powX k A (Bt.getD l []) 0) i=_ from eB l i hl hi]
  | succ t ih =>
   intro ht;refine inj _ _ (row (t+1) l ht hl) (pR _) λj hj=>?_
   have op:=zF Z oA lA (oB _ (gB l hl)).2 (oB _ (gB l hl)).1 t;have e1:=zc9 (O:=O) Z oX c0 (t:=t+1) (a:=h) hl () j;have e2:=zfm (O:=O) Z oX c0 (t:=t) (a:=h) hl () j;unfold trV at e1;unfold shV at e2;rw[bw hj]at e1 e2;rw[show nv O (powX k A (Bt.getD l []) (t+1))=limg O R.length A (nv O (powX k A (Bt.getD l []) t))from funext λi=>yJ Z oA op.1 op.2 i,aps _ j hj,← ih (),e2,e1]
 have blk:∀ i,i<=h->∀ u s,s<c->ψ u (i*c+s)=ψ (itF O R.length A i u) s:=λi=>by
  induction i with
  | zero=>intro _ u s _;rw[GK,uk];rfl
  | succ i ih =>
   intro hi u s hs;have:(i+1)*c<=h*c:=wI _ hi;rw[vG,vL]at this;rw[vG,vL,show i*c+c+s=i*c+s+c by omega,← aps u _ (),ih () _ s hs]
   rfl
 intro T l s hT hl hs;obtain⟨t,i,ht,hi,e⟩ : ∃ t i,t<h/\i<=h/\T=t+i:=by
  rcases wH T h with g|g
  ·exact(T,0,g,vI _,V)
  ·exact(h - 1,T - (h - 1),(),(),())
 have:=ans l hl t ht (i*c+s);rw[zfA oX O c0 hl () (show i<h+1 by omega) hs,blk i hi _ s hs,zcO Z oA lA (oB _ (gB l hl)).2 (oB _ (gB l hl)).1,← e]at this;rw[this,zp]
end
def zfc Ms Ns:PyData.eqv (tabsD Ms) (tabsD Ns)=decide (Ms=Ns):=ql tabD zdg Ms Ns
def zgC[bu F]{O:Kf k F}(h:Rnk O n M r)(z:∀ r∈M,∀ j,nv O r j=0):r=0:=by
 obtain⟨R,ls,iR,eR,rfl⟩:=h;have zz:∀ v,Rm O R v->∀ j,v j=0:=λv hv j=>((eR v).mp hv).zero_at λu ⟨x,J,e⟩=>by rw[e];exact z x J j
 rcases gm R.length with e|e
 ·exact e
 ·exfalso
  have hl:0<ls.length:=by rw[iR.len];exact e
  obtain⟨v,hv,_,ne⟩:=(iR.lead_iff ls[0]).mp (wk hl);exact ne (zz v hv _)
def pkR(ls:List Nat)(o:Nat)(row:List Nb):List Nb:=ls.map λl=>row.getD (o+l) (.z 0)
def mA(q:Nat)(R:Tb)(ls:List Nat):Tb:=kaa ls.length (R.map (pkR ls q))
def mB(X:Nat->Tb)(N m:Nat)(ls:List Nat):Tb:=kaa ls.length ((sqI X N 0 m).map (pkR ls 0))
def mC(q:Nat)(R:Tb):Tb:=kaa q (R.map (vS q))
def Zg{k:Int}{r:List Nb}(l:r.length=n)(hj:j<n) d:r[j]?=some (r.getD j d)/\r.getD j d∈r:=by
 have h:j<r.length:=by omega
 rw[wc,wb h];exact(V,wk h)
section
variable{ls:List Nat}(oR:OkM k n R)(ld:∀ l∈ls,o+l<n)
include oR ld
theorem XS:OkM k ls.length (R.map (pkR ls o)):=λr L=>by
 obtain⟨x,J,rfl⟩:=wj.mp L;refine(wa _,λy hy=>?_);obtain⟨l,hl,rfl⟩:=wj.mp hy;exact(oR x J).2 _ (Zg (k:=k) (oR x J).1 (ld l hl) _).2
theorem zfy{P:Nb->Prop}(hP:∀ r∈R,∀ x∈r,P x):∀ r∈R.map (pkR ls o),∀ x∈r,P x:=λr L y hy=>by
 obtain⟨x,J,rfl⟩:=wj.mp L;obtain⟨l,hl,rfl⟩:=wj.mp hy;exact hP x J _ (Zg (k:=k) (oR x J).1 (ld l hl) _).2
theorem zij[bu F](O:Kf k F)(hi:i<R.length)(hj:j<ls.length):nv O ((R.map (pkR ls o)).getD i []) j=nv O (R.getD i []) (o+ls.getD j 0):=by
 have e1:(R.map (pkR ls o)).getD i []=pkR ls o (R.getD i []):=by
  rw[wc,wg,wc,wb hi];rfl
 have e2:ls.getD j 0=ls[j]:=by rw[wc,wb hj];rfl
 have e3:R.getD i []=R[i]:=by rw[wc,wb hi];rfl
 rw[e1,e2,e3];have g:=(Zg (k:=k) (oR _ (wk hi)).1 (ld _ (wk hj)) (.z 0)).1;rw[zI O g];refine zI O ?_;unfold pkR;rw[wg,wb hj];rfl
end
def zh4(oR:OkM k n R)(ld:∀ l∈ls,q+l<n)(ll:ls.length=R.length):OkM k R.length (mA q R ls)/\(mA q R ls).length=R.length:=by
 have:=zg (XS oR ld);rw[wa]at this;exact(this,(ze _ _).trans ll)
def ziT(oX:∀ t,t<N->OkM k c (X t)/\(X t).length=m)(ld:∀ l∈ls,l<N*c):OkM k m (mB X N m ls)/\(mB X N m ls).length=ls.length:=by
 have oI:OkM k (N*c) (sqI X N 0 m):=λr L=>by
  obtain⟨l,hl,rfl⟩:=(jM m).mp L;exact qX oX hl N ()
 have:=zg (XS oI (o:=0) (ls:=ls) λl hl=>by rw[uk];exact ld l hl);rw[wa,yi]at this;exact(this,ze _ _)
def zjo(oR:OkM k n R)(qn:q<=n):OkM k R.length (mC q R)/\(mC q R).length=q:=by
 have o:OkM k q (R.map (vS q)):=λr L=>by
  obtain⟨x,J,rfl⟩:=wj.mp L;have:=oR x J;exact(by rw[wr,this.1];omega,λy hy=>this.2 y (vD hy))
 have:=zg o;rw[wa]at this;exact(this,ze _ _)
section
variable[bu F](O:Kf k F)
def zi7(oR:OkM k n R)(ld:∀ l∈ls,q+l<n)(hi:i<R.length)(hj:j<ls.length):nv O ((mA q R ls).getD j []) i=nv O (R.getD i []) (q+ls.getD j 0):=by
 have:nv O ((mA q R ls).getD j []) i=nv O ((R.map (pkR ls q)).getD i []) j:=ya (XS oR ld) hj;rw[this,zij oR ld O hi hj]
def zdI X n i:∀ m,l<m->(sqI X n i m)[l]?=some (sqR X i l n)
 | m+1,h=>by
  show(sqI X n i m++[sqR X i m n])[l]?=_
  rcases uv (ux h)with h'|h'
  ·rw[vk (by rw[yi];exact h')];exact zdI X n i m h'
  ·subst h';rw[wW (by rw[yi];exact ww _),yi,uE];rfl
def zi3(oX:∀ t,t<N->OkM k c (X t)/\(X t).length=m)(ld:∀ l∈ls,l<N*c)(hl:l<m)(hj:j<ls.length):nv O ((kaa m (mB X N m ls)).getD l []) j=nv O (sqR X 0 l N) (ls.getD j 0):=by
 have oI:OkM k (N*c) (sqI X N 0 m):=λr L=>by
  obtain⟨l,hl,rfl⟩:=(jM m).mp L;exact qX oX hl N ()
 have ld':∀ l∈ls,0+l<N*c:=λl hl=>by rw[uk];exact ld l hl
 have tt:=zQ (XS oI ld');rw[wa,yi]at tt;have e:kaa m (mB X N m ls) =(sqI X N 0 m).map (pkR ls 0):=tt;rw[e,zij oI ld' O (by rw[yi];exact hl) hj,uk];have:(sqI X N 0 m).getD l []=sqR X 0 l N:=by rw[wc,zdI X N 0 m hl];rfl
 rw[this]
def zjz(oR:OkM k n R)(qn:q<=n)(hs:s<q):nv O ((mC q R).getD s []) i=nv O (R.getD i []) s:=by
 have o:OkM k q (R.map (vS q)):=λr L=>by
  obtain⟨x,J,rfl⟩:=wj.mp L;have:=oR x J;exact(by rw[wr,this.1];omega,λy hy=>this.2 y (vD hy))
 have:nv O ((mC q R).getD s []) i=nv O ((R.map (vS q)).getD i []) s:=ya o hs;rw[this];have e1:(R.map (vS q)).getD i [] =(R.getD i []).take q:=by
  rw[wc,wg,wc];cases R[i]? <;> simp
 rw[e1];generalize R.getD i []=r;show O.to (uG _ s _)=O.to (uG _ s _);rw[wc,wc,gM,bw hs]
end
structure SzM(k:Int)(m:Nat)(A B C:Tb):Prop where
 a:k=0->∃ D:Nat,D≠0/\D<2^6113/\∀ r∈A,La.rowD D 6113 r
 b:∀ x∈kaa m B,rowB 6113 x
 c:∀ x∈C,rowB 6113 x
def ziJ(Z:kab k)(n4:n<=4)(oA:OkM k n A)(lA:A.length=n)(dA:k=0->∃ D:Nat,D≠0/\D<2^6113/\∀ r∈A,La.rowD D 6113 r)(ox:OkR k x)(lx:x.length=n)(J:rowB 6113 x)(ht:t<=8):rowB 120000 (powX k A x t):=by
 by_cases k0:k=0
 ·obtain⟨D,d0,dl,d⟩:=dA k0;have:∀ t,rowB (6113+t*6115) (powX k A x t):=by
   intro t
   induction t with
   | zero=>exact J.mono ()
   | succ t ih =>
    have op:=zF Z oA lA ox lx t;exact(zbi Z n4 oA d0 dl d op.1 ih).mono ()
  exact(this t).mono ()
 ·exact qj k0 (zF Z oA lA ox lx t).1 ()
def zhQ(Z:kab k)(oR:OkM k n R)(ld:∀ l∈ls,q+l<n)(qn:q<=n)(ll:ls.length=R.length)(l4:R.length<=4)(bR:kad 1528 R)(oX:∀ t,t<N->OkM k c (X t)/\(X t).length=m)(ld2:∀ l∈ls,l<N*c)(wX:∀ t,t<N->∀ r∈X t,∀ x∈r,whk k 190 x):SzM k m (mA q R ls) (mB X N m ls) (mC q R):=by
 obtain⟨D,d0,dl,d⟩:=jH (k:=k) (n:=n) bR;have le:R.length*1528<=6112:=by omega
 have dl':D<2^6113:=uu dl (uu (vh () le) (waD () ()));have up:∀ x:Nb,dB D (2^(R.length*1528) - 1) x->dB D (2^6113 - 1) x:=λx h=>h.mono (Nat.sub_le_sub_right (vh () ()) 1)
 refine(λ_=>(D,d0,dl',λr L x J=>?_),λx J=>?_,λx J=>(D,d0,dl',λy hy=>?_))
 ·have o:=XS oR ld;exact up x (Qa (λr L=>(o r L).1) (zfy oR ld λr L x J=>d r L x J) r L x J)
 ·have oI:OkM k (N*c) (sqI X N 0 m):=λr L=>by
   obtain⟨l,hl,rfl⟩:=(jM m).mp L;exact qX oX hl N ()
  have ld':∀ l∈ls,0+l<N*c:=λl hl=>by rw[uk];exact ld2 l hl
  have tt:=zQ (XS oI ld');rw[wa,yi]at tt;have e:kaa m (mB X N m ls) =(sqI X N 0 m).map (pkR ls 0):=tt;rw[e]at J;have w:=zfy oI ld' (P:=λx=>whk k 190 x) (λr L=>by
   obtain⟨l,hl,rfl⟩:=(jM m).mp L;exact zag oX wX hl N ()) x J
  exact(Yt () (XS oI ld' x J).2 w).mono ()
 ·have o:∀ r∈R.map (vS q),r.length=q:=λr L=>by
   obtain⟨x,J,rfl⟩:=wj.mp L;rw[wr,(oR x J).1];omega
  exact up y (Qa o (λr L z hz=>by
   obtain⟨x,J,rfl⟩:=wj.mp L;exact d x J z (vD hz)) x J y hy)
section
variable(Z:kab k)(r4:r<=4)(oA:OkM k r A/\A.length=r)(oB:OkM k m B/\B.length=r)(oC:OkM k r C/\C.length=q)(S:SzM k m A B C)
include Z oA oB oC S
theorem qE:MOk k r m q 120000 A B C:=by
 refine((oA.2,oA.1,λx J y hy=>?_),(oB.2,oB.1,?_),(oC.2,oC.1,λx J y hy=>(qp Z (oC.1 x J).2 (S.c x J) () y hy).mono ()))
 ·have o:=(oA.1 x J).2;have:rowB 6113 x:=by
   by_cases k0:k=0
   ·obtain⟨D,d0,dl,d⟩:=S.a k0;exact(D,d0,dl,d x J)
   ·exact qj k0 o ()
  exact(qp Z o this () y hy).mono ()
 ·have oT:=zg oB.1;have tt:=Qa (P:=λy=>nsm 120000 y) (λr L=>(oT r L).1) λx J y hy=>(qp Z (oT x J).2 (S.b x J) () y hy).mono ()
  rw[zQ oB.1]at tt;exact tt
include r4
theorem zeM(hi:i<=8):TOk k q r 120000 (kax k r A C i):=by
 have M:=qE Z oA oB oC S;rw[Zr Z () M.a M.c i];have oT:OkM k r (kaa r A):=by have:=zg oA.1;rw[oA.2]at this;exact this
 have dT:k=0->∃ D:Nat,D≠0/\D<2^6113/\∀ x∈kaa r A,La.rowD D 6113 x:=λk0=>by
  obtain⟨D,d0,dl,d⟩:=S.a k0;exact(D,d0,dl,λx J y hy=>Qa (λx J=>(oA.1 x J).1) (λx J y hy=>d x J y hy) x J y hy)
 refine(by rw[wa];exact oC.2,λx J=>?_,λx J=>?_)
 all_goals
  obtain⟨c,hc,rfl⟩:=wj.mp J;have o:=oC.1 c hc;have op:=zF Z oT (ze r A) o.2 o.1 i
 ·exact(op.2,op.1)
 ·exact qp Z op.1 (ziJ Z r4 oT (ze r A) dT o.2 o.1 (S.c c hc) hi) ()
theorem zcr{F:Type}[bu F](O:Kf k F){t s l:Nat}(hs:s<q)(hl:l<m):nv O ((kaf k m (kax k r A C t) B).getD s []) l=dot r (nv O (C.getD s [])) (nv O (powX k A ((kaa m B).getD l []) t)):=by
 have M:=qE Z oA oB oC S;have hc:C[s]?=some (C.getD s []):=by rw[wc,wb ()];rfl
 have hL:s <(kaf k m (kax k r A C t) B).length:=by
  unfold kaf;rw[wa,Zr Z () M.a M.c t,wa];omega
 have e2:(kaf k m (kax k r A C t) B)[s]?=some ((kaf k m (kax k r A C t) B).getD s []):=by rw[wc,wb hL];rfl
 have row:=zfa Z () M (jy (k:=k) (n:=r) (h:=m) (A:=A) (B:=B) (C:=C) (many:=t+1) (i:=t) ()) hc e2;rw[← row];have oc:=oC.1 _ (we hc);have eb:=getT B hl;have ob:OkM k r (kaa m B):=by have:=zg oB.1;rw[oB.2]at this;exact this
 have obl:=ob _ (we eb);have op:=zF Z oA.1 oA.2 obl.2 obl.1 t;rw[zI O (show(dueRow k m A B (C.getD s []) t)[l]?=some (ndot k (C.getD s []) (powX k A ((kaa m B).getD l []) t)) by unfold dueRow;rw[wg,eb];rfl),zP O Z oc.2 op.1 (by rw[oc.1,op.2]),oc.1]
theorem zeC t:OkM k m (kaf k m (kax k r A C t) B)/\(kaf k m (kax k r A C t) B).length=q:=by
 have M:=qE Z oA oB oC S;have oL:OkM k r (kax k r A C t)/\(kax k r A C t).length=q:=by
  rw[Zr Z () M.a M.c t];have oT:OkM k r (kaa r A):=by have:=zg oA.1;rw[oA.2]at this;exact this
  refine(λx J=>?_,by rw[wa];exact oC.2);obtain⟨c,hc,rfl⟩:=wj.mp J;have op:=zF Z oT (ze r A) (oC.1 c hc).2 (oC.1 c hc).1 t;exact(op.2,op.1)
 have o:=xm Z (c:=m) oL.1 oB.1;exact(o.2,o.1.trans oL.2)
theorem JK{F:Type}[bu F](O:Kf k F){Ps X:Nat->Tb}{N:Nat}(oP:∀ t,t<N->OkM k m (Ps t)/\(Ps t).length=q)(tr:∀ t,t<N->kaa m (Ps t)=X t):marksM k r m A B C N =(wY N).map Ps↔MkV O X N m q r A (kaa m B) (λs=>nv O (C.getD s [])):=by
 have turn:∀ t l s,t<N->l<m->nv O ((X t).getD l []) s=nv O ((Ps t).getD s []) l:=λt l s ht hl=>by
  rw[← tr t ht];exact ya (oP t ht).1 hl
 constructor
 ·intro e t l s ht hl hs;have e1:Ps t=kaf k m (kax k r A C t) B:=by
   have h1:=jy (k:=k) (n:=r) (h:=m) (A:=A) (B:=B) (C:=C) ht;rw[e,wg,vw ht]at h1;exact Option.some.inj h1
  rw[turn t l s ht hl,e1];exact zcr Z r4 oA oB oC S O hs hl
 ·intro mk;refine uB (by rw[xE,wa,vx]) λt h1 h2=>?_
  rw[xE]at h1;have g1:=jy (k:=k) (n:=r) (h:=m) (A:=A) (B:=B) (C:=C) h1;rw[wb (by rw[xE];exact h1)]at g1;rw[Option.some.inj g1,uM,List.getElem_range];have o1:=zeC Z r4 oA oB oC S t;have o2:=oP t h1;refine uB (o1.2.trans o2.2.symm) λs a1 a2=>?_
  have hs:s<q:=by rw[← o1.2];exact a1
  have w1:=o1.1 _ (wk a1);have w2:=o2.1 _ (wk a2);refine YF O w1.2 w2.2 (w1.1.trans w2.1.symm) λl=>?_
  rcases wH l m with hl|hl
  ·have b1:=zcr Z r4 oA oB oC S O (t:=t) hs hl;have b2:=(turn t l s h1 hl).symm.trans (mk t l s h1 hl hs);rw[wc,wb a1]at b1;rw[wc,wb a2]at b2;exact b1.trans b2.symm
  ·rw[zY O (),zY O ()]
end
def RkX{F:Type}[bu F](O:Kf k F)(X:Nat->Tb)(h q m r:Nat):Prop:=Rnk O (h*q) (sqT X h m h) r/\Rnk O ((h+1)*q) (sqT X (h+1) m h) r/\Rnk O (h*q) (sqT X h m (h+1)) r
section
variable[bu F]{O:Kf k F}(Z:kab k)(oX:∀ t,t<h+h->OkM k q (X t)/\(X t).length=m)(q0:0<q)(h1:1<=h)(iR:IsR O ((h+1)*q) R ls)(hs:s<=h)(eR:∀ v,Rm O R v↔Rm O (sqT X (h+1) m s) v)
include Z oX q0 h1 iR hs eR
theorem zg5(K:RkX O X h q m r):R.length<=r:=(yP (R,ls,iR,λ_=>Iff.rfl,V) K.2.1 λv hv=>xQ Z oX q0 hs ((eR v).mp hv)).1
theorem Jf(st:s=h\/h<R.length\/∃ s',s=s'+1/\∀ v,Rm O (sqT X (h+1) m s) v->Rm O (sqT X (h+1) m s') v)(K:RkX O X h q m r)(rh:r<=h):(∀ v,Rm O R v↔Rm O (sqT X (h+1) m h) v)/\R.length=r/\∀ l∈ls,l<h*q:=by
 have le:=zg5 Z oX q0 h1 iR hs eR K;have e:∀ v,Rm O R v↔Rm O (sqT X (h+1) m h) v:=by
  rcases st with rfl|g|⟨s',rfl,st⟩
  ·exact eR
  ·omega
  ·have all:=zez Z oX q0 rfl h1 (r,K.1,K.2.1) (s:=s') () st;exact λv=>(λhv=>xQ Z oX q0 hs ((eR v).mp hv),λhv=>(eR v).mpr (xQ Z oX q0 (uL s') (all v hv)))
 have len:R.length=r:=QB (R,ls,iR,e,V) K.2.1;exact(e,len,zav Z oX q0 rfl h1 iR e (by rw[len];exact K.1))
theorem zbD(st:s=h\/h<R.length\/∃ s',s=s'+1/\∀ v,Rm O (sqT X (h+1) m s) v->Rm O (sqT X (h+1) m s') v)(K:RkX O X h q m r)(rh:r<=h):MkV O X (h+h) m q R.length (mA q R ls) (kaa m (mB X (h+h) m ls)) (λs=>nv O ((mC q R).getD s [])):=by
 obtain⟨e,len,ld⟩:=Jf Z oX q0 h1 iR hs eR st K rh;have wq:(h+1)*q=h*q+q:=by rw[vG,vL]
 have hh:(h+h)*q=h*q+h*q:=vG h h q;have hq:q<=h*q:=gP q h1;have ldA:∀ l∈ls,q+l <(h+1)*q:=λl hl=>by have:=ld l hl;omega
 have ld2:∀ l∈ls,l <(h+h)*q:=λl hl=>by have:=ld l hl;omega
 have oA:=zh4 iR.ok ldA iR.len;have oB:=ziT oX ld2;have oBt:=zg oB.1;rw[oB.2,iR.len]at oBt;have nx:=(yP K.1 K.2.2 λv hv=>xQ Z oX q0 (uL h) hv).2 (ww r);have mk:=realize Z oX q0 rfl h1 iR e ld nx oA.1 oA.2 oBt (ze m _) (λi j hi hj=>zi7 O iR.ok ldA hi (by rw[iR.len];exact hj)) λl j hl hj=>by
  rw[zi3 O oX ld2 hl (by rw[iR.len];exact hj)];have lj:ls.getD j 0<h*q:=by
   have hj':j<ls.length:=by rw[iR.len];exact hj
   rw[wc,wb hj'];exact ld _ (wk hj')
  rw[YC oX O q0 hl (),YC oX O q0 hl (),bw (),bw ()]
 intro t l s' ht hl hs';rw[mk t l s' ht hl hs'];exact zk λi hi=>by
  show nv O (R.getD i []) s'*_=nv O ((mC q R).getD s' []) i*_;rw[zjz O iR.ok () hs']
end
def RkL{F:Type}[bu F](O:Kf k F)(Ms:Nat->Tb)(h q m a b r:Nat):Prop:=Rnk O (b*m) (sqT Ms b q a) r
section
variable[bu F]{O:Kf k F}{Ms X:Nat->Tb}(Z:kab k)(oM:∀ t,t<h+h->OkM k m (Ms t)/\(Ms t).length=q)(tr:∀ t,t<h+h->kaa m (Ms t)=X t)(q0:0<q)(m0:0<m)
include Z oM tr q0 m0
theorem turnX:∀ t,t<h+h->OkM k q (X t)/\(X t).length=m:=λt ht=>by
 have o:=oM t ht;have:=zg o.1;rw[o.2]at this;rw[← tr t ht];exact(this,ze m _)
theorem JV(ab:a+b<=h+h+1):Rnk O (a*q) (sqT X a m b) r↔RkL O Ms h q m a b r:=by
 have oX:=turnX Z oM tr q0 m0;have tu:∀ t l s,t<h+h->l<m->s<q->nv O ((X t).getD l []) s=nv O ((Ms t).getD s []) l:=λt l s ht hl hs=>by
  rw[← tr t ht];exact ya (oM t ht).1 hl
 have tu':∀ t l s,t<h+h->l<q->s<m->nv O ((Ms t).getD l []) s=nv O ((X t).getD s []) l:=λt l s ht hl hs=>(tu t s l ht hs hl).symm
 obtain⟨r1,k1⟩:=QZ (O:=O) Z (xc oX ab);obtain⟨r2,k2⟩:=QZ (O:=O) Z (xc oM (a:=b) (b:=a) ());have e:r1=r2:=ut (zdE Z oX q0 oM m0 tu ab k1 k2) (zdE Z oM m0 oX q0 tu' () k2 k1);exact(λg=>by rw[QB g k1,e];exact k2,λg=>by rw[QB g k2,← e];exact k1)
end
def zgO(oA:OkM k r A/\A.length=r)(oC:OkM k r C/\C.length=m)(S:SzM k q A B C):SzM k m (kaa r A) (kaa r C) (kaa q B):=by
 refine(λk0=>?_,λx J=>?_,S.b)
 ·obtain⟨D,d0,dl,d⟩:=S.a k0;exact(D,d0,dl,λx J y hy=>Qa (λx J=>(oA.1 x J).1) (λx J y hy=>d x J y hy) x J y hy)
 ·have tt:=zQ oC.1;rw[oC.2]at tt;rw[tt]at J;exact S.c x J
def ziU(Z:kab k)[bu F](O:Kf k F)(oA:OkM k r A/\A.length=r)(oB:OkM k q B/\B.length=r)(oC:OkM k r C/\C.length=m)(hs:s<q)(hl:l<m):dot r (nv O (C.getD l [])) (nv O (powX k A ((kaa q B).getD s []) t))=dot r (nv O ((kaa q B).getD s [])) (nv O (powX k (kaa r A) ((kaa m (kaa r C)).getD l []) t)):=by
 have tt:=zQ oC.1;rw[oC.2]at tt;rw[tt];have gC:C.getD l []∈C:=by rw[wc,wb ()];exact wk _
 have ob:OkM k r (kaa q B):=by have:=zg oB.1;rw[oB.2]at this;exact this
 have gB:=ob _ (we (getT B hs));have:=Yo Z oA.1 oA.2 O (oC.1 _ gC).2 (oC.1 _ gC).1 gB.2 gB.1 t 0;rw[GL]at this;rw[← this,zp]
 rfl
section
def zdT:SlR X (rSlT K0):=λpins s E H x v vl vu lo hi sl Q I rx hs p1 p2 ⟨a,xs,e,h,ne,q⟩ =>
 ziN pins s E H x v vl vu lo hi sl Q I rx hs p1 p2 (a,xs,e,h.up,ne,q)
end
def zdl{k:Int}{F:Type}[bu F]{O:Kf k F}(Z:kab k){Ms:Nat->Tb}{m q h n:Nat}(oM:∀ t,t<h+h->OkM k m (Ms t)/\(Ms t).length=q)(q0:0<q)(m0:0<m){A B C:Tb}(n1:1<=n)(nh:n<=h)(oA:OkM k n A/\A.length=n)(oB:OkM k m B/\B.length=n)(oC:OkM k n C/\C.length=q)
  (mk:∀ t s l,t<h+h->s<q->l<m->nv O ((Ms t).getD s []) l=dot n (nv O (C.getD s [])) (nv O (powX k A ((kaa m B).getD l []) t))) {r0 r1 r2:Nat} (k0:RkL O Ms h q m h h r0) (k1:RkL O Ms h q m (h+1) h r1) (k2:RkL O Ms h q m h (h+1) r2):r0<=h/\r1=r0/\r2=r0:=by
 have tr:∀ t,t<h+h->kaa m (Ms t) =(λt=>kaa m (Ms t)) t:=λt _=>rfl
 have oX:=turnX Z oM tr q0 m0;have oBt:OkM k n (kaa m B):=by have:=zg oB.1;rw[oB.2]at this;exact this
 have oT:OkM k n (kaa n A):=by have:=zg oA.1;rw[oA.2]at this;exact this
 have mkX:MkV O (λt=>kaa m (Ms t)) (h+h) m q n A (kaa m B) (λs=>nv O (C.getD s [])):=λt l s ht hl hs=>by
  have e:nv O ((kaa m (Ms t)).getD l []) s=nv O ((Ms t).getD s []) l:=ya (oM t ht).1 hl;show nv O ((kaa m (Ms t)).getD l []) s=_;rw[e,mk t s l ht hs hl]
 have mkM:MkV O Ms (h+h) q m n (kaa n A) C (λl=>nv O ((kaa m B).getD l [])):=λt s l ht hs hl=>by
  rw[mk t s l ht hs hl];have gC:C.getD s []∈C:=by rw[wc,wb ()];exact wk _
  have gB:=oBt _ (we (getT B hl));have:=Yo Z oA.1 oA.2 O (oC.1 _ gC).2 (oC.1 _ gC).1 gB.2 gB.1 t 0;rw[GL]at this;rw[← this,zp]
  rfl
 have x0:=(JV (O:=O) (r:=r0) Z oM tr q0 m0 (a:=h) (b:=h) ()).mpr k0;have x2:=(JV (O:=O) (r:=r2) Z oM tr q0 m0 (a:=h) (b:=h+1) ()).mpr k2;have le:=XO Z oX q0 oA.1 oA.2 oBt (ze m B) mkX () x0;have s2:=zdR Z oX q0 oA.1 oA.2 oBt (ze m B) mkX rfl n1 nh;have s1:=zdR Z oM m0 oT (ze n A) oC.1 oC.2 mkM rfl n1 nh;have e2:r2=r0:=ut (yP x2 x0 s2).1 (yP x0 x2 λv hv=>xQ Z oX q0 (uL h) hv).1;have e1:r1=r0:=ut (yP k1 k0 s1).1 (yP k0 k1 λv hv=>xQ Z oM m0 (uL h) hv).1;exact((),e1,e2)
def zaw{k:Int}{F:Type}[bu F]{O:Kf k F}(Z:kab k){Ms:Nat->Tb}{m q h:Nat}(oM:∀ t,t<h+h->OkM k m (Ms t)/\(Ms t).length=q)(q0:0<q)(m0:0<m)(z:∀ t,t<h+h->∀ r∈Ms t,∀ x∈r,x=nnum k 0){a b r:Nat}(ab:a+b<=h+h+1)(kr:RkL O Ms h q m a b r):r=0:=by
 refine zgC kr λx J j=>?_
 have:=zdJ oM (P:=λx=>x=nnum k 0) z (a:=b) (b:=a) () x J
 rcases wH j x.length with hj|hj
 ·rw[zI O (wb hj),this _ (wk hj)];exact O.num0
 ·exact zY O hj
def Qn(h:∀ F [bu F] (O:Kf k F) i,i<n->∃ u,Rm O M u/\∀ j,j<n->u j=kae i 1 j):kaA k n [] M:=λF _ O v=>by
 constructor
 ·intro hv;have z:∀ j,v j=0:=hv.all (P:=λv=>∀ j,v j=0) (λj=>rfl) λc r v ⟨x,J,_⟩ _=>nomatch J
  exact(λj _=>z j,λu _=>dot_zero n u v λj _=>by rw[z j];grind)
 ·rintro ⟨s,p⟩
  refine(show Rm O [] (λ_=>0)from .zero).cast λj=>?_
  rcases wH j n with hj|hj
  ·obtain⟨u,hu,e⟩:=h F O j hj;have:=p u hu;rw[zk (u':=kae j 1) (v':=v) λi hi=>by rw[e i hi],zp,yd hj]at this
   grind
  ·exact(s j hj).symm
def Yr(Z:kab k)(n1:1<=n)(oA:OkM k n A)(lA:A.length=n)(oB:OkM k n B)(Lr:kan k n A B R)[bu F](O:Kf k F)(hb:b∈B):∀ t,Rm O R (nv O (powX k A b t))
 | 0=>by
  have:=jC Z oA lA oB 0 n (nv O b) (.of (_,hb,V));rw[uk]at this;exact(Lr.eq F O _).mpr this
 | t+1=>by
  have ob:=oB b hb;have op:=zF Z oA lA ob.2 ob.1 t;exact(jA Z (b:=0) (z:=0) n1 oA lA oB Lr O (Yr Z n1 oA lA oB Lr O hb t)).cast λj=>(yJ Z oA op.1 op.2 j).symm
def kal.lst(Z:kab k)(I:kal k n h a b A B C R bO U X S):LstM k b h (cA k n a b A X S) (cB k h a b B S) (cC k n a b C X):=by
 obtain⟨W,LW⟩:=ju Z (I.okA Z).2 (I.okA Z).1 (I.tB Z);obtain⟨lw,iW⟩:=id LW.rd;exact((W,LW,zgp Z iW λF _ O i hi=>(LW.eq F O _).mpr (I.steeredB Z O hi)),Qn λF _ O i hi=>(_,I.seenB Z O hi,λ_ _=>rfl))
section
variable(Z:kab k){Ms:Nat->Tb}(oM:∀ t,t<h+h->OkM k m (Ms t)/\(Ms t).length=q)(q0:0<q)(m0:0<m)(oA:OkM k r A/\A.length=r)(oB:OkM k m B/\B.length=r)(oC:OkM k r C/\C.length=q)
include Z oM m0 oA oB oC
theorem zgh[bu F](O:Kf k F)(mk:∀ t s l,t<h+h->s<q->l<m->nv O ((Ms t).getD s []) l=dot r (nv O (C.getD s [])) (nv O (powX k A ((kaa m B).getD l []) t)))(hi:i+a<=h+h)(hs:s<q)(hj:j<a*m):nv O (sqR Ms i s a) j=dot r (nv O (powX k (kaa r A) (C.getD s []) i)) (nv O (powX k A ((kaa m B).getD (j % m) []) (j / m))):=by
 have jm:j / m<a:=gE (by rw[vJ];exact hj);have jl:j % m<m:=Gs _ m0;rw[YC oM O m0 hs hi j,bw hj,mk (i+j / m) s (j % m) () hs jl];have oBt:OkM k r (kaa m B):=by have:=zg oB.1;rw[oB.2]at this;exact this
 have gC:=oC.1 _ (gdmemX (M:=C) (i:=s) ());have gB:=oBt _ (we (getT B jl));exact(Yo Z oA.1 oA.2 O gC.2 gC.1 gB.2 gB.1 i (j / m)).symm
theorem zhT(r1:1<=r)(mk:∀ F [bu F] (O:Kf k F) t s l,t<h+h->s<q->l<m->nv O ((Ms t).getD s []) l=dot r (nv O (C.getD s [])) (nv O (powX k A ((kaa m B).getD l []) t)))(kr:∀ F [bu F] (O:Kf k F),RkL O Ms h q m h h r):LstM k r m A B C:=by
 obtain⟨F0,i0,d0,⟨φ0⟩⟩:=zw Z;have oBt:OkM k r (kaa m B):=by have:=zg oB.1;rw[oB.2]at this;exact this
 have oT:OkM k r (kaa r A):=by have:=zg oA.1;rw[oA.2]at this;exact this
 have oS:OkM k (h*m) (sqT Ms h q h):=xc oM ();refine(?_,?_)
 ·obtain⟨W,LW⟩:=ju Z oA.1 oA.2 oBt;obtain⟨lw,iW⟩:=id LW.rd;refine(W,LW,ut (rk_n Z LW.rd) ?_);refine Ja Z oS (kr F0 φ0) (n:=W.length) (λi j=>nv φ0 (powX k A ((kaa m B).getD (j % m) []) (j / m)) (lw.getD i 0)) λx J=>?_
  obtain⟨i,s,hi,hs,rfl⟩:=(zL h).mp J;refine(λc=>dot r (nv φ0 (powX k (kaa r A) (C.getD s []) i)) (nv φ0 (W.getD c [])),λj hj=>?_);rw[zgh Z oM m0 oA oB oC φ0 (mk F0 φ0) () hs hj];have mem:=we (getT B (show j % m<m from Gs _ m0));have ex:=λp=>(expand (iW F0 φ0) (Yr Z r1 oA.1 oA.2 oBt LW φ0 mem (j / m)) p).trans (zp _ _ _)
  rw[← xh];exact zk λp _=>by rw[← ex p]
 ·obtain⟨bO,LL⟩:=ju Z oT (ze r A) oC.1;obtain⟨ll,iL⟩:=id LL.rd;have lL:bO.length=r:=by
   refine ut (rk_n Z LL.rd) ?_;refine Ja Z oS (kr F0 φ0) (n:=bO.length) (λi j=>dot r (nv φ0 (powX k A ((kaa m B).getD (j % m) []) (j / m))) (nv φ0 (bO.getD i []))) λx J=>?_
   obtain⟨i,s,hi,hs,rfl⟩:=(zL h).mp J;refine(λc=>nv φ0 (powX k (kaa r A) (C.getD s []) i) (ll.getD c 0),λj hj=>?_);rw[zgh Z oM m0 oA oB oC φ0 (mk F0 φ0) () hs hj,zp,zp bO.length];have mem:=gdmemX (M:=C) (i:=s) ();have ex:=λp=>(expand (iL F0 φ0) (Yr Z r1 oT (ze r A) oC.1 LL φ0 mem i) p).trans (zp _ _ _)
   rw[← xh];exact zk λp _=>by rw[← ex p]
  refine Qn λF _ O i hi=>?_
  obtain⟨v,hv,e⟩:=ZS Z (O:=O) LL.rd lL (kae i 1);exact(v,(LL.eq F O v).mp hv,e)
end
def Yg(hl:l<m) B:(kaa m B).getD l []=colX l B:=by
 unfold kaa colX;rw[wc,wg,vw hl];rfl
def XB{k:Int}{m s l:Nat}{A B C:Tb}(t:Nat)(hs:s<C.length)(hl:l<m):((kaf k m C (blkT k m A B t)).getD s [])[l]?=some (ndot k (C.getD s []) (powX k A ((kaa m B).getD l []) t)):=by
 rw[Yg hl,← zcL hl t];have e:(kaf k m C (blkT k m A B t)).getD s [] =(kaa m (blkT k m A B t)).map (ndot k (C.getD s [])):=by
  unfold kaf;rw[wc,wg,wb hs,wc,wb hs];rfl
 rw[e,wg,getT _ hl,Yg hl];rfl
section
variable(Z:kab k)(I:kal k n m a b A B C R bO U X S)
include Z I
theorem kal.rank(oM:∀ t,t<h+h->OkM k m (kaf k m C (blkT k m A B t))/\(kaf k m C (blkT k m A B t)).length=C.length)(q0:0<C.length)(m0:0<m)(b1:1<=b)(bh:b<=h)[bu F](O:Kf k F):Rnk O (h*m) (sqT (λt=>kaf k m C (blkT k m A B t)) h C.length h) b:=by
 have oS:=xc oM (a:=h) (b:=h) ();obtain⟨bM,lz,red⟩:=zcz Z oS;obtain⟨N,rfl⟩ : ∃ N,h=N+1:=(h - 1,());have okA:=I.okA Z;have okC:=I.okC Z;have tB:=I.tB Z;have tA:=I.tA Z;have ent:∀ i q',i<=N->q'<C.length->∀ j l,j<=N->l<m->(sqR (λt=>kaf k m C (blkT k m A B t)) i q' (N+1))[j*m+l]?=some (ndot k ((cC k n a b C X).getD q' []) (powX k (cA k n a b A X S) ((kaa m (cB k m a b B S)).getD l []) (i+j))):=λi q' hi hq j l hj hl=>by
  rw[Qz oM hq hl (N+1) j () (),I.mark Z hl hq (i+j)];exact XB (i+j) hq hl
 have len:bM.length=b:=QP Z okA.2 okA.1 (N:=N) (h:=m) (C:=cC k n a b C X) (Bt:=kaa m (cB k m a b B S)) okC.2 tB (ze _ _) (λF _ O i hi=>by
   have:=xM Z okA.2 okA.1 tB () _ (I.steeredB Z O hi);have:=jC Z okA.2 okA.1 tB (b - 1) (N - (b - 1)) _ this
   rwa [show b - 1 +(N - (b - 1))=N by omega]at this) (λF _ O u hu i hi=>by
   have:=xM Z tA (ze _ _) okC.2 () _ (I.seenB Z O hi);have:=jC Z tA (ze _ _) okC.2 (b - 1) (N - (b - 1)) _ this;rw[show b - 1 +(N - (b - 1))=N by omega]at this;have:=hu _ this;rw[zp,yd hi]at this
   grind) oS (λr L=>by
   obtain⟨i,q',hi,hq,rfl⟩:=(zL (N+1)).mp L;exact(i,q',(),by rw[okC.1];exact hq,ent i q' () hq)) (λi q' hi hq=>(_,(zL (N+1)).mpr (i,q',(),by rwa [okC.1]at hq,V),ent i q' hi (by rwa [okC.1]at hq))) (lz,yc red) (Zj red)
 exact(bM,lz,(red F O).toIsR,λv=>((red F O).fro v,(red F O).to v),len)
theorem kal.nought(b0:b=0)(m0:0<m) t (oM:OkM k m (kaf k m C (blkT k m A B t))/\(kaf k m C (blkT k m A B t)).length=C.length):∀ r∈kaf k m C (blkT k m A B t),∀ x∈r,x=nnum k 0:=λr L x J=>by
 subst b0;obtain⟨s,hs,rfl⟩:=wD L;obtain⟨l,hl,rfl⟩:=wD J;have hs':s<C.length:=by rw[← oM.2];exact hs
 have lr:=(oM.1 _ (wk hs)).1;have hl':l<m:=by rw[← lr];exact hl
 have e:=XB (k:=k) (A:=A) (B:=B) t hs' hl';rw[wc,wb hs,wai,wb hl,← I.mark Z hl' hs' t]at e;have lc:=((I.okC Z).2 _ (gdmemX (M:=cC k n a 0 C X) (i:=s) (by rw[(I.okC Z).1];exact hs'))).1;rw[vB lc]at e;exact Option.some.inj e
theorem kal.mkE(oA:OkM k r A1/\A1.length=r)(oB:OkM k m B1/\B1.length=r)(oC:OkM k r C1/\C1.length=C.length) t (mk:∀ F [bu F] (O:Kf k F) s l,s<C.length->l<m->nv O ((kaf k m C (blkT k m A B t)).getD s []) l=dot r (nv O (C1.getD s [])) (nv O (powX k A1 ((kaa m B1).getD l []) t))):MkE k m A1 B1 C1 (cA k n a b A X S) (cB k m a b B S) (cC k n a b C X) t:=λi hi=>by
 obtain⟨F,_,_,⟨O⟩⟩:=zw Z;have okC:=I.okC Z;refine uR λs=>?_
 unfold imgM;rw[wg,wg]
 rcases wH s C.length with hs|hs
 ·rw[wb (by omega:s<C1.length),wb (by rw[okC.1];exact hs:s <(cC k n a b C X).length)];have e1:C1.getD s []=C1[s]'():=by rw[wc,wb (by omega:s<C1.length)];rfl
  have e2:(cC k n a b C X).getD s [] =(cC k n a b C X)[s]'(by rw[okC.1];exact hs):=by rw[wc,wb (by rw[okC.1];exact hs:s <(cC k n a b C X).length)];rfl
  show some (ndot k _ _)=some (ndot k _ _);rw[← e1,← e2,← Yg hi B1,← Yg hi (cB k m a b B S),I.mark Z hi hs t];have q:=mk F O s i hs hi;have gb:=(show OkM k r (kaa m B1) by have:=zg oB.1;rw[oB.2]at this;exact this) _ (we (getT B1 hi));have op:=zF Z oA.1 oA.2 gb.2 gb.1 t;have oc:=oC.1 _ (gdmemX (M:=C1) (i:=s) ());have gB:=I.tBn Z _ (we (getT B hi));have oP:=zF Z I.pt.oA I.pt.lA gB.2 gB.1 t;have oc':=I.pt.oC _ (gdmemX (M:=C) (i:=s) hs);refine congrArg some (O.inj (zN Z oc.2 op.1) (zN Z oc'.2 oP.1) ?_);rw[zP O Z oc.2 op.1 (by rw[oc.1,op.2]),oc.1,← q,zI O (XB t hs hi)]
 ·rw[wK (by omega:C1.length<=s),wK (by rw[okC.1];exact hs:(cC k n a b C X).length<=s)]
  rfl
end
end L2
namespace KL
open PySem PySem.Spec PyProof.Rows L2 Nm
set_option maxHeartbeats 4000000
local macro_rules | `(tactic| fail)=>`(tactic| with_reducible first|exact at0|exact at1|exact at2|exact at3|exact at4|exact at5|exact at6|exact at7|exact at8|exact at9|exact at10|exact at11|exact at12|exact at13|exact at14|exact at15|exact at16|exact at17|exact at18|exact at19)
local macro_rules | `(tactic| and_intros)=>`(tactic| repeat' first| (show PSs _ _ _;first|exact zhm|refine' zgJ ?_|refine' zeA ?_ ?_) | (show PA _ _ _;first|exact zis (by repeat constructor) | exact zfI|refine' zdr ?_ ?_) | (show PE _ _ _;first|exact pvI|exact zfR|refine' zjr ?_ ?_ ?_|refine' zeB ?_ ?_ ?_ ?_|refine' zjj ?_ ?_ ?_|refine' xl ?_ rfl (bn_m ()) zh7 ?_|refine' zg4 ?_ ?_ ?_ (by first|exact nomark _|with_unfolding_all rfl) | refine' bm0 (λ_ h=>zgR PySem.F.plainAttrs_list PySem.F.slot_list_append PySem.F.type_list_append zdc h ?_) ?_|exact zje|exact zhL|exact zhV|exact zjf|refine' zix ?_|refine' ziR ?_|refine' zjb ziz ?_|refine' pe_not ?_|refine' zim ?_|refine' zik ?_ ?_|refine' zjn ?_ ?_|refine' zev ?_ ?_ ?_|refine' pe_chain ?_ ?_ ?_ ?_ ?_|refine' xl ?_ rfl (bn_m ()) bb_max ?_|refine' xl ?_ rfl (bn_m ()) ziB ?_|refine' xl ?_ rfl (bn_m ()) zh9 ?_|refine' xl ?_ rfl (bn_m ()) zcn ?_|refine' xl ?_ rfl (bn_m ()) ziy ?_|refine' xl ?_ rfl (bn_m ()) zhC ?_|refine' xl ?_ rfl (bn_m ()) bb_isinstance ?_|refine' pe_lrI ?_|refine' ZW ?_ rfl (bn_m ()) zcW ?_|refine' ZW ?_ rfl (bn_m ()) zfw ?_|refine' ZW ?_ rfl (bn_m ()) zaY ?_|exact pe_ty rfl (bn_m ()) zfw|exact pe_ty rfl (bn_m ()) bb_bool|exact pe_ty rfl (bn_m ()) zaY|exact pe_ty rfl (bn_m ()) zcW|exact pe_ty rfl (bn_m ()) bb_str|refine' bm0 (λ_ h=>zgR PySem.F.plainAttrs_list PySem.F.slot_list_extend PySem.F.type_list_extend zd1 h ?_) ?_|refine' bm0 (λ_ h=>zgR PySem.F.plainAttrs_list PySem.F.slot_list_remove PySem.F.type_list_remove (mt_remove (by assumption)) h ?_) ?_) | (show PS _ _ _;first|refine' ziD ?_|refine' zjm ?_ ?_ ?_|refine' zjc ?_|refine' zjs ?_|refine' ziX ?_ ?_|refine' zgW ?_|refine' zhW PassesOwn.never rfl ?_ ?_ ?_|refine' zfq PassesOwn.never ?_ ?_|refine' zjy ?_ ?_) | (show OpR _ _ _;first|exact zio|exact zg0|exact zh1|exact zjh|exact op_le|exact zjk|exact zjg|exact op_in0|exact zcc|exact zit|exact zgX) | (show kaB _ _ _;first|exact zb6|exact call_max2 rfl|exact zeH|exact zcB rfl|exact Qr|exact zdx rfl|exact zcS rfl|exact call_isiK rfl|exact zbH|exact zed|exact QU) | (show PO _ _ _;first|exact zgl|refine' zht ?_) | (show PI _ _ _ _;first|refine' zdb rfl (bn_m ()) ?_|refine' zgA rfl (bn_m ()) ?_|refine' pi_rI ?_) | (show PG _ _ _;first|exact zjl|refine' zhH ?_ ?_ ze9) | (show PGs _ _ _;first|exact zdB|refine' XN ?_ ?_) | (show PTs _ _ _;first|exact zhk|refine' zgm ?_) | (show PT _ _ _;first|refine' zhx ?_ ?_ ?_ (by first|exact nomark _|with_unfolding_all rfl) | refine' zh6 ?_|refine' PW.pt (pw_and ?_ ?_) | refine' PW.pt (pw_or ?_ ?_) | refine' pt_chain ?_ ?_ ?_ ?_ ?_|refine' ziu ?_) | (show PW _ _ _;first|refine' pw_and1 ?_|refine' pw_and ?_ ?_|refine' pw_or1 ?_|refine' pw_or ?_ ?_) | (show PIp _ _ _;first|exact ziA|exact ip_mul) | refine' λ_ _ _ _ _ _ _=>(?_,?_))
local macro_rules | `(tactic| exists $es:term,*)=>do
 if let some n:=es.getElems[0]? then
  if n.raw.isOfKind `num then
   let i:List Lean.Ident:=[`vs,`H,`Q,`E,`h].map Lean.mkIdent
   return ← `(tactic| (refine knI $n rfl (by exists $(es.getElems.drop 1),*) ?_;intro $(i.toArray)*))
 let mut t ← `(tactic| (refine' ⟨?_,?_⟩;(first|exact .inr (V,V,V,by decide +kernel,V,by decide +kernel,by decide +kernel) | (refine' .inl ?_;repeat' with_reducible first|exact LcN.nil|refine' LcN.loc ?_|refine' LcN.glo ?_|refine' LcN.cel ?_));intros;and_intros))
 for e in es.getElems do
  if e.raw.isOfKind ``Lean.Parser.Term.hole then continue
  let h ← `(tactic| (first|exact $e|refine' zjp $e ?_|refine' $e ?_|refine' zjt $e ?_ ?_|refine' zi1 $e ?_ ?_|refine' zjx $e ?_ ?_) <;> and_intros)
  t ← `(tactic| ($t;first| $h:tactic | (rotate_left;$h:tactic) | (rotate_left 2;$h:tactic)))
 return t
seal PSs PS PE PA PT PW PI PG PGs PTs PO OpR UnR IxR SlR kaB PIp
section
variable[B:Bn pg]
theorem yG(h0:0<=a)(h1:a<=2305843009213693952):IntMulOk a b:=IntMulOk.of_left (bp (by omega) (by omega))
inductive zgw:Sp
 | mk:∀ a b,vs=[.int a,.int b]->Q (.int ((vC a b:Nat):Int)) H->zgw vs H Q E_
def zdS i:(if i<0 then -i else i) =(i.natAbs:Int):=by split <;> omega
def zgI:KnI pg 4 1 zgw:=by
 exists 4,JM
 obtain⟨a,b,rfl,q⟩:=h;refine(Q,a,V,Q,b,V,?_);rw[zdS,zdS]
 let Wv1_:Nat->L2.St->Hp->Prop:=λm E H'=>∃ l r o,E=[some (.int a),some (.int b),some (.int l),some (.int r),o]/\H'=H/\0<=l/\0<=r/\vC l r=vC a b/\m=r.toNat
 refine(Wv1_,(_,_,_,none,V,V,gj _,gj _,by simp[uZ],V),?_)
 rintro m E H' ⟨l,r,o,rfl,rfl,l0,r0,g,rfl⟩
 refine(Q,V,Q,?_);refine ite2 (λc=>?_) (λc=>?_)
 ·have c':r≠0:=λz=>by rw[z]at c;exact bK c ()
  have m0:=wJ l (show 0<r by omega);have m1:=wR l (show 0<r by omega);refine(_,λ_ _ h=>h,?_);exact(Q,Q,_,Q,V,c',Q,Q,_,(),r,l.fmod r,Q,V,r0,m0,(za5 l r).trans g,V)
 ·have c':r=0:=by
   rcases gX 0 r with h|h
   ·exact bK (by have h':¬ V.int r=V.int 0:=λz=>(by have:=V.int.inj z;omega);rw[bE h'];rfl) c
   ·omega
  subst c';refine(Q,?_);have e:l =((vC a b:Nat):Int):=by rw[← g,waN];omega
  rw[e];exact q
inductive Zv:Sp
 | mk:∀ t b,vs=[.int t,.int b]->b≠0->(∀ v H',Same H H'->RN H' (.q (uf t b)) v->Q v H')->Zv vs H Q E_
def Zt:KnI pg 5 41 Zv:=by
 exists 5,zgI
 obtain⟨t,b,rfl,hb,q⟩:=h;obtain⟨e1,e2⟩:=Zo hb;have cd:sg t b≠0:=zfk hb;have fin:∀ p,H p=none->Q (.ref p) (upd H p (.tup [.int (t.fdiv (sg t b)),.int (b.fdiv (sg t b))])):=λp hp=>by
  rw[e1,e2];exact q _ _ (zc hp _) (RN.of_q zd)
 refine(Q,Q,t,b,V,?_);refine(Q,_,Q,V,Q,?_);refine ite2 (λc=>?_) (λc=>?_)
 ·have c':= bG c;have e:sg t b = -((vC t b:Nat):Int):=by unfold sg;rw[bw c']
  rw[e]at cd fin;exact(Q,Q,Q,Q,_,Q,V,cd,Q,Q,_,Q,V,cd,(),fin)
 ·have c':= bH (uS.mpr c);have e:sg t b =((vC t b:Nat):Int):=by unfold sg;rw[bx c']
  rw[e]at cd fin;exact(Q,Q,_,Q,V,cd,Q,Q,_,Q,V,cd,(),fin)
inductive ZA:Sp
 | mk:∀ p r,vs=[.int p,.int r]->Pr p->0<r->r<p->(∀ x,0<=x->x<p->p ∣ x*r - 1->Q (.int x) H)->ZA vs H Q E_
def QK:KnI pg 6 41 ZA:=by
 exists 6,JM,zG,zG
 obtain⟨p,r,rfl,hp,r0,rp,q⟩:=h;have p0:0<p:=by have:=hp.lo;omega
 refine(Q,Q,?_)
 let Wv1_:Nat->L2.St->Hp->Prop:=λm E H'=>∃ l g ml mg o1 o2 o3,E=[some (.int p),some (.int r),some (.int l),some (.int g),some (.int ml),some (.int mg),o1,o2,o3]/\H'=H/\OvInv p r l g ml mg/\m=g.toNat
 refine(Wv1_,(_,_,_,_,_,none,none,none,V,V,zba hp r0 rp,V),?_)
 rintro m E H' ⟨l,g,ml,mg,o1,o2,o3,rfl,rfl,inv,rfl⟩
 have l0:=inv.l0;have l1:=inv.l1;have g0:=inv.g0;refine(Q,V,Q,?_);refine ite2 (λc=>?_) (λc=>?_)
 ·have c':g≠0:=λz=>by rw[z]at c;exact bK c ()
  have ed:= GS l g0;have d0:0<=l.fdiv g:=by rw[ed];exact wa3 l0 g0
  have d1:l.fdiv g<=l:=by rw[ed];exact Int.ediv_le_self g l0
  have tn:=zc1 inv c';have tm:=zcT (l:=l) g0 c';rw[← ed]at tn tm;refine(_,λ_ _ h=>h,?_);refine(Q,Q,_,Q,V,c',?_);refine(Q,Q,Q,_,Q,V,yG d0 (),_,Q,V,Q,Q,Q,_,Q,V,yG d0 (),_,Q,V,Q,Q,Q,Q,_,tm,g,_,mg,_,_,_,Q,V,tn,V)
 ·have c':g=0:=by
   rcases gX 0 g with h|h
   ·exact bK (by have h':¬ V.int g=V.int 0:=λz=>(by have:=V.int.inj z;omega);rw[bE h'];rfl) c
   ·omega
  subst c';refine(Q,Q,_,Q,V,(show p≠0 by omega),?_);have em:ml.fmod p=ml % p:=Int.fmod_eq_emod_of_nonneg ml ();rw[em];exact q _ (GE _ ()) (gK _ p0) (zga inv p0)
inductive Jq:Sp
 | mk:∀ k w,vs=[.int k,.int w]->(∀ v H',Same H H'->RN H' (nnum k w) v->Q v H')->Jq vs H Q E_
def yk:KnI pg 7 1 Jq:=by
 exists 7,yF
 obtain⟨k,w,rfl,q⟩:=h;refine(Q,V,Q,?_);refine ite2 (λc=>?_) (λc=>?_)
 ·have e:= V.int.inj (bG c);subst e;refine(Q,(),λp hp=>?_);refine q _ _ (zc hp _) ?_;exact RN.of_q zd
 ·have c':= bH (uS.mpr c);have e:k≠0:=λz=>c' (by rw[z])
  refine(Q,Q,_,Q,V,e,?_);refine q _ _ (Same.refl H) ?_;unfold nnum;rw[bx e];exact RN.of_z
structure Two(H:Hp)(k:Int)(x y:Nb)(a b:V):Prop where
 kd:kab k
 xo:x.ok k
 yo:y.ok k
 xs:nsm 60000000 x
 ys:nsm 60000000 y
 xr:RN H x a
 yr:RN H y b
inductive zaM(f:Int->Nb->Nb->Nb):Sp
 | mk:∀(k:Int)(x y:Nb)(a b:V),vs=[.int k,a,b]->Two H k x y a b->(∀ v H',Same H H'->RN H' (f k x y) v->Q v H')->zaM f vs H Q E_
def jV{H:Hp}{k:Int}{x y:Nb}{a b:V}(T:Two H k x y a b) :
  (k=0/\∃ r s pa pb,x=.q r/\y=.q s/\a=.ref pa/\b=.ref pb/\H pa=some (.tup [.int r.num,.int (r.den:Int)])/\H pb=some (.tup [.int s.num,.int (s.den:Int)])/\Sm 60000000 r.num/\Sm 60000000 (r.den:Int)/\Sm 60000000 s.num/\Sm 60000000 (s.den:Int)) \/
  (k≠0/\Pr k/\∃ i j,x=.z i/\y=.z j/\a=.int i/\b=.int j/\0<=i/\i<k/\0<=j/\j<k):=by
 obtain⟨kd,xo,yo,xs,ys,xr,yr⟩:=T;cases x with
 | q r =>
  have k0:= xo;cases y with
  | q s =>
   obtain⟨pa,ea,ha⟩:=xr.q;obtain⟨pb,eb,hb⟩:=yr.q;exact .inl (k0,r,s,pa,pb,V,V,ea,eb,ha,hb,xs.1,xs.2,ys.1,ys.2)
  | z j=>exact bK k0 yo.1
 | z i =>
  cases y with
  | q s=>exact bK (show k=0 from yo) xo.1
  | z j =>
   refine .inr (xo.1,?_,i,j,V,V,xr.z,yr.z,xo.2.1,xo.2.2,yo.2.1,yo.2.2)
   rcases kd with h|h
   ·exact bK h xo.1
   ·exact h
def yL(ha:Sm m a)(hb:Sm n b)(h:m+n<=134217728:=by decide):IntMulOk a b:=ha.mulOk hb h
def zbR(r s:Rat):(r.den:Int) *(s.den:Int)≠0:=Ge (yU r) (yU s)
inductive zd0:Sp
 | mk:∀ k x y a b,vs=[.int k,a,b]->Two H k x y a b->y≠nnum k 0->(∀ v H',Same H H'->RN H' (ndiv k x y) v->Q v H')->zd0 vs H Q E_
def zg6:KnI pg 9 42 zd0:=by
 exists 9,XU,yk,za4,yF,Zt,zG,zi,zi,zG,zi,zi,zG,QK
 obtain⟨k,x,y,a,b,rfl,T,ne,q⟩:=h;refine(Q,Q,k,0,V,λv0 H0 g0 r0=>?_);refine(toD y,toD (nnum k 0),T.yr.mono g0,r0,yV _,yV _,wE (vX _ _) (wE (xA y) ()),Q,?_);rw[jQ,bE ne];refine iteF ?_
 rcases jV T with⟨rfl,r,s,pa,pb,rfl,rfl,rfl,rfl,ha,hb,rn,rd,sn,sd⟩|⟨k0,hp,i,j,rfl,rfl,rfl,rfl,i0,ik,j0,jk⟩
 ·have ha':=g0 _ _ ha;have hb':=g0 _ _ hb;have s0:s≠0:=λz=>ne (by rw[z];rfl)
  refine(Q,V,Q,iteT ?_);refine(Q,pa,_,_,Q,V,SqT.of ha',V,Q,pb,_,_,Q,V,SqT.of hb',V,_,Q,V,yL rn sd,Q,pa,_,_,Q,V,SqT.of ha',V,Q,pb,_,_,Q,V,SqT.of hb',V,_,Q,V,yL rd sn,_,Q,Ge (yU r) (zhy s0),λv H' g h=>?_);rw[zhv]at h;exact q v H' (g0.trans g) h
 ·have j1:j≠0:=λz=>ne (by unfold nnum;rw[bx k0,z,waH])
  refine(Q,V,Q,?_);rw[bE (show ¬ V.int k=V.int 0 from λz=>k0 (V.int.inj z))];refine iteF ?_;refine(Q,Q,Q,k,j,V,hp,(),jk,λx x0 xk J=>?_);refine(_,Q,V,yG i0 (by have:=hp.hi;omega),Q,_,Q,V,k0,?_);refine q _ _ g0 ?_;show RN _ (.z ((i*zinv k j).fmod k)) _;rw[zdk x0 xk J];exact RN.of_z
def zar:KnI pg 8 42 (zaM nsub):=by
 exists 8,yF,Zt,zG,zi,zi,zG,zi,zi,zG,zi,zi
 obtain⟨k,x,y,a,b,rfl,T,q⟩:=h
 rcases jV T with⟨rfl,r,s,pa,pb,rfl,rfl,rfl,rfl,ha,hb,rn,rd,sn,sd⟩|⟨k0,hp,i,j,rfl,rfl,rfl,rfl,i0,ik,j0,jk⟩
 ·refine(Q,V,Q,iteT ?_);refine(Q,pa,_,_,Q,V,SqT.of ha,V,Q,pb,_,_,Q,V,SqT.of hb,V,_,Q,V,yL rn sd,Q,pb,_,_,Q,V,SqT.of hb,V,Q,pa,_,_,Q,V,SqT.of ha,V,_,Q,V,yL sn rd,_,Q,V,Q,pa,_,_,Q,V,SqT.of ha,V,Q,pb,_,_,Q,V,SqT.of hb,V,_,Q,V,yL rd sd,_,Q,zbR r s,λv H' g h=>?_);rw[zen]at h;exact q v H' g h
 ·refine(Q,V,Q,?_);rw[bE (show ¬ V.int k=V.int 0 from λz=>k0 (V.int.inj z))];refine iteF ?_;refine(Q,Q,_,Q,V,Q,_,Q,V,k0,?_);exact q _ _ (Same.refl H) RN.of_z
def zhN:KnI pg 75 1 zgw:=by
 exists 75,JM
 obtain⟨a,b,rfl,q⟩:=h
 let Wv1_:Nat->L2.St->Hp->Prop:=λm E H'=>∃ l r,E=[some (.int l),some (.int r)]/\H'=H/\vC l r=vC a b/\m=r.natAbs
 refine(Wv1_,(_,_,Q,V,V,V),?_)
 rintro m E H' ⟨l,r,rfl,rfl,g,rfl⟩
 refine(Q,V,Q,?_);refine ite2 (λc=>?_) (λc=>?_)
 ·have c':r≠0:=λz=>by rw[z]at c;exact bK c ()
  refine(_,λ_ _ h=>h,?_);exact(Q,Q,Q,_,Q,V,c',_,Q,_,zb1 l c',r,l.fmod r,V,V,(za5 l r).trans g,V)
 ·have c':r=0:=by
   by_cases h:r=0
   ·exact h
   ·exact bK (by have h':¬ V.int r=V.int 0:=λz=>h (V.int.inj z);rw[bE h'];rfl) c
  subst c';refine(Q,l,V,?_);have e:(if l<0 then -l else l) =((vC a b:Nat):Int):=by rw[zdS,← g,waN]
  show Q (.int (if l<0 then -l else l)) H';rw[e];exact q
def szM(m:Nat)(M:Tb):Prop:=∀ r∈M,∀ x∈r,nsm m x
def zbV(ok:OkM k n M)(h:szM m M):szM m (kaa n M):=λr L x J=>by
 unfold kaa at L;obtain⟨j,hj,rfl⟩:=wj.mp L;rw[wP]at hj;obtain⟨row,hrow,rfl⟩:=wj.mp J;have hj':j<row.length:=by have:=(ok row hrow).1;omega
 rw[wc,wb hj'];exact h row hrow _ (wk hj')
inductive ZQ:Sp
 | mk:∀ k xs a B,vs=[.int k,.ref a]->kab k->kaq H xs a->OkR k xs->rowB B xs->61<=B->B<=60000000->xs.length<sizeLine->(∀ p H',Same H H'->SclAt H' k B xs p->Q (.ref p) H')->ZQ vs H Q E_
local macro_rules | `(tactic| symm) => `(tactic| first | refine gyes ?_ | refine tyes ?_)
def xy:KnI pg 11 41 ZQ:=by
 exists 11,JM,zo,zG,zgI,zi,zi,[2],zo,zG,zi,zi
 obtain⟨k,xs,a,B,rfl,Z,hrow,ok,⟨Dn,dn0,dn1,hD⟩,b7,b6,hlen,q⟩:=h;have kl:=Z.lt;have szl:=se
 obtain⟨vs,ha,hp,hvl⟩:=hrow.len;refine(Q,V,Q,?_);refine ite2 (λc=>?_) (λc=>?_)
 ·have k0:k≠0:=λz=>by rw[z]at c;exact bK c ()
  obtain⟨is,rfl,rfl⟩:=Ju k0 ok hp;refine(Q,a,Q,.inl (SqL.of ha),λl hl=>((),λp hp'=>?_));have n1:l≠p:=λe=>by rw[e,zd]at hp';cases hp'
  refine q p _ ((zc hl _).trans (zc hp' _)) (l,is,1,zd,?_,zdp k0 is,?_,λw hw=>?_)
  ·show upd _ _ _ l=_;rw[zy n1];exact zd
  ·exact sm_one.mono ()
  ·have o:=ok (.z w) (wj.mpr (w,hw,V));exact(Zz o.2.1 o.2.2 kl.2).mono b7
 ·have k0:k=0:=by
   by_cases z:k=0
   ·exact z
   ·exact bK (by have h':¬ V.int k=V.int 0:=λe=>z (V.int.inj e);rw[bE h'];rfl) c
  subst k0;have isq:∀(i:Nat)(x:Nb),xs[i]?=some x->∃ r,x=.q r:=λi x J=>by
   have o:=ok x (we J);cases x with
   | q r=>exact(r,V)
   | z j=>exact bK rfl o.1
  have dle:∀ b:Int,0<b->b ∣ (Dn:Int)->Sm B b:=λb b0 hb=>by
   have:=waG () hb;show b.natAbs<2^B;omega
  have parts:∀ r:Rat,.q r∈xs->Sm B r.num/\Sm B (r.den:Int)/\(r.den:Int) ∣ (Dn:Int):=λr L=>by
   obtain⟨h1,h2⟩:=dB.parts dn0 (hD _ L);have dv:=dB.den_dvd dn0 (hD _ L);refine(?_,dle _ (den_pos r) dv,dv);show r.num.natAbs<2^B;have:0<2^B:=waw ();omega
  refine(Q,a,V,(_,SqL.of ha),?_)
  let Pv1_:Nat->L2.St->Hp->Prop:=λi E H'=>∃ b o,E=[some (.int 0),some (.ref a),some (.int b),o]/\H'=H/\0<b/\(∀ x∈xs.take i,dvB b x)/\b ∣ (Dn:Int)
  refine yn (xs:=vs) Pv1_ (1,none,V,V,(),λx J=>by simp at J,(_,(wbq _).symm)) ?_ ?_ ?_
  ·rintro i E H' _ ⟨b,o,rfl,rfl,_⟩
   exact SqL.of ha
  ·rintro i v E H' hv ⟨b,o,rfl,rfl,b0,dv,bD⟩
   obtain⟨x,J,rx⟩:=zK hp hv;obtain⟨r,rfl⟩:=isq i x J;obtain⟨pa,rfl,hpa⟩:=rx.q;obtain⟨sn,sd,dD⟩:=parts r (we J);obtain⟨l1,l2,l3,l4⟩:=zeE b0 (den_pos r);have l5:=zgz b0 (den_pos r) bD dD;have sf:Sm B (b.fdiv ((vC b (r.den:Int):Nat):Int)):=QQ (dle b b0 bD) (gZ _ _);refine(Q,Q,Q,pa,_,_,Q,V,SqT.of hpa,V,_,Q,_,Q,V,l4,?_);refine(Q,pa,_,_,Q,V,SqT.of hpa,V,_,Q,V,sf.mulOk sd (),?_);refine(_,Q,V,l1,λy hy=>?_,l5);rw[zh J]at hy
   rcases wp.mp hy with hy|hy
   ·have:=dv y hy;cases y with
    | q s=>exact wbc (show(s.den:Int) ∣ b from this) l2
    | z j=>trivial
   ·rw[wx.mp hy];exact l3
  ·rintro E H' ⟨b,o,rfl,rfl,b0,dv,bD⟩
   rw[hvl]at dv;rw[um]at dv;have sb:=dle b b0 bD;refine(Q,a,V,(_,SqL.of ha),?_)
   let Pv2_:Nat->List V->Hp->Prop:=λi ys H2=>H2=H'/\ys =((xs.take i).map (scW b)).map V.int
   refine zq (xs:=vs) Pv2_ (V,by simp) ?_ ?_ ?_
   ·rintro i ys H2 hi ⟨rfl,rfl⟩
    refine(SqL.of ha,?_);rw[wa,wa,wr];omega
   ·rintro i v ys H2 hv hi ⟨rfl,rfl⟩
    obtain⟨x,J,rx⟩:=zK hp hv;obtain⟨r,rfl⟩:=isq i x J;obtain⟨pa,rfl,hpa⟩:=rx.q;obtain⟨sn,sd,dD⟩:=parts r (we J);have dx:(r.den:Int) ∣ b:=dv _ (we J)
    symm
    refine(Q,pa,_,_,Q,V,SqT.of hpa,V,Q,Q,pa,_,_,Q,V,SqT.of hpa,V,_,Q,V,yU r,_,Q,V,sn.mulOk (QQ sb dx) (),nxt hi (V,?_));rw[zh J,wv,wv];rfl
   ·rintro ys H2 ⟨rfl,rfl⟩ l hl
    rw[hvl,um]at *;refine(Q,(),λp hp'=>?_);have n1:l≠p:=λe=>by rw[e,zd]at hp';cases hp'
    refine q p _ ((zc hl _).trans (zc hp' _)) (l,xs.map (scW b),b,zd,?_,(V,b0,λz=>bK rfl z,dv),sb,λw hw=>?_)
    ·show upd _ _ _ l=_;rw[zy n1];exact zd
    ·obtain⟨x,J,rfl⟩:=wj.mp hw;exact zcs Z (ok x J) b7 dn0 (hD x J) b0 (dv x J) λ_=>bD
inductive zcE:Sp
 | mk:∀ k t b,vs=[.int k,.int t,.int b]->kab k->nnum k b≠nnum k 0->Sm 60000000 t->Sm 60000000 b->(∀ v H',Same H H'->RN H' (ndiv k (nnum k t) (nnum k b)) v->Q v H')->zcE vs H Q E_
def zeh:KnI pg 12 43 zcE:=by
 exists 12,zg6,yk,yk
 obtain⟨k,t,b,rfl,Z,ne,st,sb,q⟩:=h;refine(Q,Q,Q,k,t,V,λv1 H1 g1 r1=>?_);refine(Q,Q,k,b,V,λv2 H2 g2 r2=>?_);refine(k,_,_,v1,v2,V,(Z,zD Z t,zD Z b,xq Z st (),xq Z sb (),r1.mono g2,r2),ne,λv3 H3 g3 r3=>?_);exact q v3 H3 ((g1.trans g2).trans g3) r3
inductive zap:Sp
 | mk:∀ k ws a,vs=[.int k,.ref a]->kab k->IRow H ws a->ws.length<sizeLine->(∀ p H',Same H H'->IRow H' (kar k ws) p->Q (.ref p) H')->zap vs H Q E_
def zbr:KnI pg 16 41 zap:=by
 refine knI (N:=["kind", "wholes", "divisor", "whole"]) 16 rfl (by exists JM,[0],zo,zo,zgI,yF,yF,[2],zo) λvs H Q bP h=>?_
 obtain⟨k,ws,a,rfl,Z,ha,hz,q⟩:=h;refine(Q,V,Q,?_);refine ite2 (λc=>?_) (λc=>?_)
 ·have k0:k≠0:=λz=>by rw[z]at c;exact bK c ()
  refine(Q,a,V,(_,SqL.of ha),?_)
  let Pv1_:Nat->List V->Hp->Prop:=λi ys H'=>H'=H/\ys =((ws.take i).map (·.fmod k)).map V.int
  refine zq (xs:=ws.map V.int) Pv1_ (V,by simp) ?_ ?_ ?_
  ·rintro i ys H' hi ⟨rfl,rfl⟩
   refine(SqL.of ha,?_);rw[wa,wa,wr];omega
  ·rintro i v ys H' hv hi ⟨rfl,rfl⟩
   rw[wg]at hv;obtain⟨u,hu,rfl⟩:=wG.mp hv
   symm
   refine(Q,Q,_,Q,V,k0,nxt hi (V,?_));rw[zh hu,wv,wv];rfl
  ·rintro ys H' ⟨rfl,rfl⟩ p hp
   rw[wa,um];refine q p _ (zc hp _) ?_;rw[zbG k0];exact zd
 ·have k0:k=0:=by
   by_cases z:k=0
   ·exact z
   ·exact bK (by have h':¬ V.int k=V.int 0:=λe=>z (V.int.inj e);rw[bE h'];rfl) c
  subst k0;refine(Q,a,V,(_,SqL.of ha),?_)
  let Pv2_:Nat->L2.St->Hp->Prop:=λi E H'=>∃ o,E=[some (.int 0),some (.ref a),some (.int ((gcdL (ws.take i):Nat):Int)),o]/\H'=H
  refine yn (xs:=ws.map V.int) Pv2_ (none,V,V) ?_ ?_ ?_
  ·rintro i E H' _ ⟨o,rfl,rfl⟩
   exact SqL.of ha
  ·rintro i v E H' hv ⟨o,rfl,rfl⟩
   rw[wg]at hv;obtain⟨u,hu,rfl⟩:=wG.mp hv;have eg:((vC ((gcdL (ws.take i):Nat):Int) u:Nat):Int) =((gcdL (ws.take (i+1)):Nat):Int):=by
    rw[zh hu,zep,uZ,uh]
   refine(Q,Q,_,Q,?_);rw[eg];refine(Q,V,Q,?_);refine ite2 (λc1=>?_) (λc1=>?_)
   ·have e1:((gcdL (ws.take (i+1)):Nat):Int)=1:=V.int.inj (bG c1);refine(Q,q a _ (Same.refl _) ?_);rw[zbI (zeY (i:=i+1) ())];exact ha
   ·exact(Q,V)
  ·rintro E H' ⟨o,rfl,rfl⟩
   rw[wa,um];refine(Q,V,Q,?_);refine ite2 (λc1=>?_) (λc1=>?_)
   ·have e1:((gcdL ws:Nat):Int)=0:=V.int.inj (bG c1);refine(Q,q a _ (Same.refl _) ?_);rw[zbO ()];exact ha
   ·have e1:((gcdL ws:Nat):Int)≠0:=λz=>by rw[z]at c1;exact c1 ()
    refine(Q,a,V,(_,SqL.of ha),?_)
    let Pv3_:Nat->List V->Hp->Prop:=λi ys H2=>H2=H'/\ys =((ws.take i).map λw=>w.fdiv ((gcdL ws:Nat):Int)).map V.int
    refine zq (xs:=ws.map V.int) Pv3_ (V,by simp) ?_ ?_ ?_
    ·rintro i ys H2 hi ⟨rfl,rfl⟩
     refine(SqL.of ha,?_);rw[wa,wa,wr];omega
    ·rintro i v ys H2 hv hi ⟨rfl,rfl⟩
     rw[wg]at hv;obtain⟨u,hu,rfl⟩:=wG.mp hv
     symm
     refine(Q,Q,_,Q,V,e1,nxt hi (V,?_));rw[zh hu,wv,wv];rfl
    ·rintro ys H2 ⟨rfl,rfl⟩ p hp
     rw[wa,um];refine q p _ (zc hp _) ?_;rw[zbK ()];exact zd
inductive YT:Sp
 | mk:∀(k:Int)(row lead:List Int)(c:Nat)(ra la:Addr)(b:Nat),vs=[.int k,.ref ra,.ref la,.int (0 +(c:Int))]->kab k->IRow H row ra->IRow H lead la->row.length=lead.length->c<row.length->row.length<sizeLine->(∀ w∈row,Sm b w)->(∀ w∈lead,Sm b w)->b<=60000000->(∀ p H',Same H H'->IRow H' (kah k lead c row) p->Q (.ref p) H')->YT vs H Q E_
def YG:KnI pg 17 42 YT:=by
 exists 17,yF,zj,zbr,[2,3,1],zG,zj,zG,zj
 obtain⟨k,row,lead,c,ra,la,b,rfl,Z,hra,hla,hl,hc,hz,s1,s2,hb,q⟩:=h;refine(Q,Q,ra,_,_,Q,V,SqL.of hra,Ys hra hc,V,Q,?_);refine ite2 (λc1=>?_) (λc1=>?_)
 ·have e1:= V.int.inj (bG c1);refine(Q,q ra _ (Same.refl _) ?_);unfold kah;rw[bw e1];exact hra
 ·have e1:row.getD c 0≠0:=λz=>by rw[z]at c1;exact c1 ()
  refine(Q,Q,Q,ra,la,_,Q,SqL.of hra,SqL.of hla,?_)
  let Pv1_:Nat->List V->Hp->Prop:=λi ys' H'=>Same H H'/\ys' =((mixed row lead c).take i).map V.int
  refine Zs (xs:=row.map V.int) (zs:=lead.map V.int) (by rw[wa,wa];omega) Pv1_ (Same.refl H,by simp) ?_ ?_ ?_
  ·rintro i ys' H' hi ⟨g,rfl⟩
   refine(SqL.of (hra.mono g),SqL.of (hla.mono g),?_);rw[wa,wr,jf hl];omega
  ·rintro i x z T ys' H' J hy hi hT ⟨g,rfl⟩
   rw[wg]at J hy;obtain⟨u,hu,rfl⟩:=wG.mp J;obtain⟨u',hu',rfl⟩:=wG.mp hy;have g':=g.trans (zc hT (.tup [.int u,.int u']));refine(T,Q,SqT.of zd,V,_,Q,_,Q,V,?_)
   symm
   refine(Q,Q,la,_,_,Q,V,SqL.of (hla.mono g'),Ys (hla.mono g') (),Q,_,Q,V,(jG s2 c).mulOk (s1 u (we hu)) (),?_);refine(Q,Q,ra,_,_,Q,V,SqL.of (hra.mono g'),Ys (hra.mono g') (),Q,_,Q,V,(jG s1 c).mulOk (s2 u' (we hu')) (),_,Q,V,nxt hi (g',?_));have e:(mixed row lead c)[i]?=some (lead.getD c 0*u - row.getD c 0*u'):=by unfold mixed;rw[uq,hu,hu']
   rw[zh e,wv];rfl
  ·rintro ys' H' ⟨g,rfl⟩ pl hpl
   rw[wa,wm (by rw[jf hl];exact ww _)];refine(k,_,pl,V,Z,zd,by rw[jf hl];exact hz,λp H2 g2 hp=>?_);refine q p H2 ((g.trans (zc hpl _)).trans g2) ?_;unfold kah;rw[bx e1];exact hp
inductive zbd:Sp
 | mk:∀ k Ws n b t ras,vs=[.int k,.ref t]->kab k->IRs H Ws t ras->(∀ r∈Ws,r.length=n)->n<sizeLine->Ws.length<=8000000->(∀ r∈Ws,∀ w∈r,Sm b w)->61<=b->(b+1)*2^n<=60000000->(∀ p rs H',Same H H'->IRs H' ((swTo k Ws n).1.map (·.2)) p rs->Q (.ref p) H')->zbd vs H Q E_
def ze5:KnI pg 18 43 zbd:=by
 exists 18,[0],zo,zbr,zj,[5],zo,JM,zj,zj,[5],zo,yF,zj,[0,7,5],zo,yK,YG,[0,7,5],zo,YG
 obtain⟨k,Ws,n,b,t,ras,rfl,Z,hI,hl,nz,wz,sz,b7,hb,q⟩:=h;have szl:=se
 have lras:=zf hI.2;refine((),λpd hpd=>?_);have g0:=zc hpd (.lst []);have hpd0:upd H pd (.lst []) pd=some (.lst []):=zd;generalize upd H pd (.lst [])=H0 at *;refine(Q,t,V,(_,SqL.of (g0 _ _ hI.1)),?_)
 let Pv1_:Nat->List V->Hp->Prop:=λi ys H'=>∃ rs,ys=rs.map V.ref/\Same H0 H'/\Paired (IRow H') ((Ws.map (kar k)).take i) rs
 refine zq (xs:=ras.map V.ref) Pv1_ ([],V,Same.refl _,.nil) ?_ ?_ ?_
 ·rintro i ys H' hi ⟨rs,rfl,g,pr⟩
  refine(SqL.of (g _ _ (g0 _ _ hI.1)),?_);have:=zf pr;rw[wr,wa]at this;rw[wa];omega
 ·rintro i v ys H' hv hi ⟨rs,rfl,g,pr⟩
  obtain⟨ws,a,hw,ha,rfl,hrow⟩:=(hI.mono (g0.trans g)).row hv
  symm
  refine(Q,Q,k,ws,a,V,Z,hrow,by rw[hl ws (we hw)];exact nz,λp H2 g2 hp=>nxt hi (rs++[p],by rw[wv];rfl,g.trans g2,?_));have e:(Ws.map (kar k))[i]?=some (kar k ws):=by rw[wg,hw];rfl
  rw[zh e];exact zJ (jB g2 pr) hp
 rintro ys H' ⟨rs,rfl,g,pr⟩ pw hpw
 rw[wa,wm (by rw[wa];omega)]at pr;have g1:=(g0.trans g).trans (zc hpw (.lst (rs.map V.ref)));have hpw1:upd H' pw (.lst (rs.map V.ref)) pw=some (.lst (rs.map V.ref)):=zd;have pr1:=jB (zc hpw (.lst (rs.map V.ref))) pr;have hpd1:=zc hpw (.lst (rs.map V.ref)) _ _ (g _ _ hpd0);generalize upd H' pw (.lst (rs.map V.ref))=H1 at *;clear g pr hpw g0 hpd0;refine(Q,t,Q,.inl (SqL.of (g1 _ _ hI.1)),_,Q,V,Q,?_);rw[wa,← lras];refine ite2 (λc=>?_) (λc=>?_)
 ·have c':0 <(Ws.length:Int):=bG c;obtain⟨r0,ras',e0⟩ : ∃ r0 ras',ras=r0::ras':=by
   cases ras with
   | nil=>rw[uI]at lras;omega
   | cons a b=>exact(a,b,V)
  obtain⟨w0,hw0,hr0⟩:=zK (hI.mono g1).2 (i:=0) (b:=r0) (by rw[e0];rfl);have lw0:=hl w0 (we hw0);refine(Q,t,_,_,Q,V,SqL.of (g1 _ _ hI.1),(by rw[e0];exact zt (j:=0) rfl),r0,Q,.inl (SqL.of hr0),?_);rw[wa,lw0];refine(Q,Q,(),(),?_);rw[vn];have fine:=Fine.to (k:=k) Z.lt.1 hl;have szs:=zgt Z b7 hl sz;have lens:=jp (k:=k) Ws;refine yu (lo:=0) (n:=n) (λi E H'=>∃ td tw rd rw o5 o6 o7,E=[some (.int k),some (.ref t),some (.ref td),some (.ref tw),some (.int (n:Int)),o5,o6,o7]/\Same H H'/\IRs H' ((swTo k Ws i).1.map (·.2)) td rd/\IRs H' (swTo k Ws i).2 tw rw) (pd,pw,[],rs,none,none,none,V,g1,(hpd1,.nil),(hpw1,pr1)) ?_ ?_
  ·rintro i E H2 hi ⟨td,tw,rd,rw',o5,o6,o7,rfl,g2,hD,hW⟩
   have fi:=fine i;have si:=szs i;have li:=lens i;have e1:swTo k Ws (i+1)=kat k i (swTo k Ws i):=rfl;rw[e1];generalize swTo k Ws i=S at *;obtain⟨Dn,Wt⟩:=S;have bnd:(b+1)*2^i - 1<=60000000:=by
    have:2^i<=2^n:=vh () ();have:(b+1)*2^i<=(b+1)*2^n:=wS _ this;omega
   generalize (b+1)*2^i - 1=bb at *
   dsimp only at hD hW li
   have lD:=zf hD.2;have lW:=zf hW.2;rw[wa]at lD;have wlen:∀ ws∈Wt,ws.length=n:=fi.wl;have dlen:∀ ws∈Dn.map (·.2),ws.length=n:=λws hw=>by
    obtain⟨p,hp,rfl⟩:=wj.mp hw;exact fi.dl p hp
   have nn:∀ ws:List Int,ws.length=n->ws≠[]:=λws h e=>by rw[e]at h;simp at h;omega
   refine(Q,tw,V,(_,SqL.of hW.1),?_)
   let Pv2_:Nat->List V->Hp->Prop:=λj ys H3=>H3=H2/\∃ rl,ys=rl.map V.ref/\Paired (IRow H2) ((Wt.take j).filter λr=>decide (r.getD i 0≠0)) rl
   refine zq (xs:=rw'.map V.ref) Pv2_ (V,[],V,.nil) ?_ ?_ ?_
   ·rintro j ys H3 hj ⟨rfl,rl,rfl,prl⟩
    refine(SqL.of hW.1,?_);have:=zf prl;have h2:=uz (λr:List Int=>decide (r.getD i 0≠0)) (Wt.take j);rw[wr]at h2;rw[wa];omega
   ·rintro j v ys H3 hv hj ⟨rfl,rl,rfl,prl⟩
    obtain⟨ws,a,hw,ha,rfl,hrow⟩:=hW.row hv;have lw:=wlen ws (we hw);refine(Q,Q,a,_,_,Q,V,SqL.of hrow,Ys hrow (),V,Q,?_);refine ite2 (λc1=>?_) (λc1=>?_)
    ·have z:ws.getD i 0≠0:=λz=>by rw[z]at c1;exact bK c1 ()
     refine(Q,nxt hj (V,rl++[a],by rw[wv];rfl,?_));rw[yy _ hw,bw (bF z)];exact zJ prl hrow
    ·have z:ws.getD i 0=0:=by
      by_cases z:ws.getD i 0=0
      ·exact z
      ·exact bK (by have h':¬ V.int (ws.getD i 0)=V.int 0:=λe=>z (V.int.inj e);rw[bE h'];rfl) c1
     refine nxt hj (V,rl,V,?_);rw[yy _ hw,bx (show ¬ decide (ws.getD i 0≠0)=true from λh=>bG h z),vW];exact prl
   rintro ys H3 ⟨rfl,rl,rfl,prl⟩ pl hpl
   rw[wa,wm ()]at prl;have g3:=zc hpl (.lst (rl.map V.ref));have hpl3:upd H3 pl (.lst (rl.map V.ref)) pl=some (.lst (rl.map V.ref)):=zd;have prl3:=jB g3 prl;have hD3:=hD.mono g3;have hW3:=hW.mono g3;have g23:=g2.trans g3;generalize upd H3 pl (.lst (rl.map V.ref))=H4 at *;clear prl hpl hD hW;have lrl:=zf prl3;refine(Q,pl,Q,.inl (SqL.of hpl3),_,Q,V,Q,?_);rw[wa,← lrl];refine ite2 (λc1=>?_) (λc1=>?_)
   ·have c2:0 <((Wt.filter λr=>decide (r.getD i 0≠0)).length:Int):=bG c1;cases ef:Wt.filter (λr=>decide (r.getD i 0≠0))with
    | nil=>rw[ef]at c2;simp at c2
    | cons lead rest =>
     rw[ef]at prl3 lrl;have turn:kat k i (Dn,Wt) =(Dn.map (λp=>(p.1,kah k lead i p.2))++[(i,lead)],Wt.filter (λr=>decide (r.getD i 0=0))++rest.map (kah k lead i)):=by
      unfold kat;simp only[ef]
     rw[turn];obtain⟨ld,rl',rfl⟩ : ∃ ld rl',rl=ld::rl':=by
      cases rl with
      | nil=>simp at lrl
      | cons a b=>exact(a,b,V)
     obtain⟨hld,prest⟩ : IRow H4 lead ld/\Paired (IRow H4) rest rl':=by
      cases prl3 with
      | cons h t=>exact(h,t)
     have memW:∀ r∈lead::rest,r∈Wt:=λr L=>by rw[← ef]at L;exact(vg.mp L).1
     have hlead:=memW lead wo;have llead:=wlen lead hlead;have slead:=si.2 lead hlead;have lf:=uz (λr:List Int=>decide (r.getD i 0≠0)) Wt;rw[ef,vO]at lf;refine(Q,pl,_,_,Q,V,SqL.of hpl3,zt (j:=0) rfl,?_);refine(Q,tw,V,(_,SqL.of hW3.1),?_)
     let Pv3_:Nat->List V->Hp->Prop:=λj ys H5=>H5=H4/\∃ rz,ys=rz.map V.ref/\Paired (IRow H4) ((Wt.take j).filter λr=>decide (r.getD i 0=0)) rz
     refine zq (xs:=rw'.map V.ref) Pv3_ (V,[],V,.nil) ?_ ?_ ?_
     ·rintro j ys H5 hj ⟨rfl,rz,rfl,prz⟩
      refine(SqL.of hW3.1,?_);have:=zf prz;have h2:=uz (λr:List Int=>decide (r.getD i 0=0)) (Wt.take j);rw[wr]at h2;rw[wa];omega
     ·rintro j v ys H5 hv hj ⟨rfl,rz,rfl,prz⟩
      obtain⟨ws,a,hw,ha,rfl,hrow⟩:=hW3.row hv;have lw:=wlen ws (we hw);refine(Q,Q,a,_,_,Q,V,SqL.of hrow,Ys hrow (),V,Q,?_);refine ite2 (λc1=>?_) (λc1=>?_)
      ·have z:ws.getD i 0=0:=V.int.inj (bG c1);refine(Q,nxt hj (V,rz++[a],by rw[wv];rfl,?_));rw[yy _ hw,bw (bF z)];exact zJ prz hrow
      ·have z:ws.getD i 0≠0:=λz=>by rw[z]at c1;exact c1 ()
       refine nxt hj (V,rz,V,?_);rw[yy _ hw,bx (show ¬ decide (ws.getD i 0=0)=true from λh=>z (bG h)),vW];exact prz
     rintro ys H5 ⟨rfl,rz,rfl,prz⟩ pz hpz
     rw[wa,wm ()]at prz;have g5:=zc hpz (.lst (rz.map V.ref));have hpz5:upd H5 pz (.lst (rz.map V.ref)) pz=some (.lst (rz.map V.ref)):=zd;have pzH:H pz=none:=g23.none hpz;have ntd:td≠pz:=λe=>by rw[← e,hD3.1]at hpz;cases hpz
     have prz5:=jB g5 prz;have prest5:=jB g5 prest;have hld5:=hld.mono g5;have hD5:=hD3.mono g5;have hpl5:=g5 _ _ hpl3;have g25:=g23.trans g5;generalize upd H5 pz (.lst (rz.map V.ref))=H6 at *;clear prz hpz prest hld hD3 hpl3 g23 hW3 prl3 g3 g5 c1;have lrz:=zf prz5;have lfz:=uz (λr:List Int=>decide (r.getD i 0=0)) Wt;have zlen:∀ ws∈Wt.filter (λr=>decide (r.getD i 0=0)),ws.length=n:=λws hw=>wlen ws (vg.mp hw).1
     have lrest:=zf prest5;refine(Q,.inl (V,_,SqL.of hpz5),Q,Q,pl,Q,SqL.of hpl5,λpc hpc=>?_);rw[cut1];have g7:=zc hpc (.lst (((ld::rl').map V.ref).drop 1));have hpc7:upd H6 pc (.lst (((ld::rl').map V.ref).drop 1)) pc=some (.lst (rl'.map V.ref)):=zd;generalize upd H6 pc (.lst (((ld::rl').map V.ref).drop 1))=H7 at *;refine(pc,V,(_,SqL.of hpc7),?_)
     let Pv4_:Nat->List V->Hp->Prop:=λj ys H8=>∃ rc,ys=rc.map V.ref/\Same H7 H8/\Paired (IRow H8) ((rest.map (kah k lead i)).take j) rc
     refine zq (xs:=rl'.map V.ref) Pv4_ ([],V,Same.refl _,.nil) ?_ ?_ ?_
     ·rintro j ys H8 hj ⟨rc,rfl,g8,prc⟩
      refine(SqL.of (g8 _ _ hpc7),?_);have:=zf prc;rw[wr,wa]at this;rw[wa];omega
     ·rintro j v ys H8 hv hj ⟨rc,rfl,g8,prc⟩
      rw[wg]at hv;obtain⟨a,ha,rfl⟩:=wG.mp hv;obtain⟨ws,hw,hrow⟩:=zK prest5 ha;have hm:=memW ws (wt _ (we hw));have lw:=wlen ws hm
      symm
      refine(Q,Q,Q,Q,k,ws,lead,i,a,ld,bb,V,Z,hrow.mono (g7.trans g8),hld5.mono (g7.trans g8),(),(),(),si.2 ws hm,slead,bnd,λp H9 g9 hp=>nxt hj (rc++[p],by rw[wv];rfl,g8.trans g9,?_));have e:(rest.map (kah k lead i))[j]?=some (kah k lead i ws):=by rw[wg,hw];rfl
      rw[zh e];exact zJ (jB g9 prc) hp
     rintro ys H8 ⟨rc,rfl,g8,prc⟩ pe hpe
     rw[wa,wm (by rw[wa];omega)]at prc;have lrc:=zf prc;rw[wa]at lrc;have g9:=(g7.trans g8).trans (zc hpe (.lst (rc.map V.ref)));have hpe9:upd H8 pe (.lst (rc.map V.ref)) pe=some (.lst (rc.map V.ref)):=zd;have prc9:=jB (zc hpe (.lst (rc.map V.ref))) prc;generalize upd H8 pe (.lst (rc.map V.ref))=H9 at *;clear prc hpe g8 hpc7 hpc g7;have clen:∀ ws∈rest.map (kah k lead i),ws.length=n:=λws hw=>by
      obtain⟨x,J,rfl⟩:=wj.mp hw;have hm:=wlen x (memW x (wt _ J));rw[xg ()];exact hm
     refine(pz,pe,_,Q,V,g9 _ _ hpz5,hpe9,(by rw[wa,wa];omega),?_);have hpz9:=g9 _ _ hpz5;have prz10:=xD (o:=.lst (rz.map V.ref++rc.map V.ref)) hpz9 (jB g9 prz5) λws hw=>nn ws (zlen ws hw)
     have prc10:=xD (o:=.lst (rz.map V.ref++rc.map V.ref)) hpz9 prc9 λws hw=>nn ws (clen ws hw)
     have hld10:IRow (upd H9 pz (.lst (rz.map V.ref++rc.map V.ref))) lead ld:=by
      show upd H9 pz _ ld=_;rw[zy ((hld5.mono g9).ne (nn lead llead) hpz9)];exact hld5.mono g9
     have hW10:upd H9 pz (.lst (rz.map V.ref++rc.map V.ref)) pz=some (.lst ((rz++rc).map V.ref)):=by rw[zd,wv]
     have hD10:IRs (upd H9 pz (.lst (rz.map V.ref++rc.map V.ref))) (Dn.map (·.2)) td rd:=(by rw[zy ntd];exact g9 _ _ hD5.1,xD hpz9 (jB g9 hD5.2) λws hw=>nn ws (dlen ws hw));have g10:Same H (upd H9 pz (.lst (rz.map V.ref++rc.map V.ref))):=yp (g25.trans g9) pzH;generalize upd H9 pz (.lst (rz.map V.ref++rc.map V.ref))=H10 at *;clear hpz9 hD5 hld5 prz5 prc9 hpe9 prest5 hpl5;refine(Q,td,V,(_,SqL.of hD10.1),?_)
     let Pv5_:Nat->List V->Hp->Prop:=λj ys H11=>∃ rn,ys=rn.map V.ref/\Same H10 H11/\Paired (IRow H11) ((Dn.map λp=>kah k lead i p.2).take j) rn
     refine zq (xs:=rd.map V.ref) Pv5_ ([],V,Same.refl _,.nil) ?_ ?_ ?_
     ·rintro j ys H11 hj ⟨rn,rfl,g11,prn⟩
      refine(SqL.of (g11 _ _ hD10.1),?_);have:=zf prn;rw[wr,wa]at this;rw[wa];omega
     ·rintro j v ys H11 hv hj ⟨rn,rfl,g11,prn⟩
      obtain⟨ws,a,hw,ha,rfl,hrow⟩:=(hD10.mono g11).row hv;rw[wg]at hw;obtain⟨p0,hp0,rfl⟩:=wG.mp hw;have hm:=we hp0;have lw:=fi.dl p0 hm
      symm
      refine(Q,Q,Q,Q,k,p0.2,lead,i,a,ld,bb,V,Z,hrow,hld10.mono g11,(),(),(),si.1 p0 hm,slead,bnd,λp H12 g12 hp=>nxt hj (rn++[p],by rw[wv];rfl,g11.trans g12,?_));have e:(Dn.map λp=>kah k lead i p.2)[j]?=some (kah k lead i p0.2):=by rw[wg,hp0];rfl
      rw[zh e];exact zJ (jB g12 prn) hp
     rintro ys H11 ⟨rn,rfl,g11,prn⟩ pn hpn
     rw[wa,wm (by rw[wa];omega)]at prn;have lrn:=zf prn;rw[wa]at lrn;have nlen:∀ ws∈Dn.map (λp=>kah k lead i p.2),ws.length=n:=λws hw=>by
      obtain⟨x,J,rfl⟩:=wj.mp hw;have hm:=fi.dl x J;rw[xg ()];exact hm
     have npz:pz≠pn:=λe=>by rw[← e,g11 _ _ hW10]at hpn;cases hpn
     have pnH:H pn=none:=(g10.trans g11).none hpn;have g12:=zc hpn (.lst (rn.map V.ref));have hpn12:upd H11 pn (.lst (rn.map V.ref)) pn=some (.lst (rn.map V.ref)):=zd;have prn12:=jB g12 prn;have prz12:=jB (g11.trans g12) prz10;have prc12:=jB (g11.trans g12) prc10;have hld12:=hld10.mono (g11.trans g12);have hW12:=(g11.trans g12) _ _ hW10;have gh12:=(g10.trans g11).trans g12;generalize upd H11 pn (.lst (rn.map V.ref))=H12 at *;refine(Q,.inl (V,_,SqL.of hpn12),Q,pn,_,Q,V,hpn12,(by rw[wa];omega),?_);refine(pn,pz,rn++[ld],rz++rc,_,_,Q,yp gh12 pnH,(?_,?_),(?_,?_))
     ·rw[zd,wv];rfl
     ·have e:(Dn.map (λp=>Prod.mk p.1 (kah k lead i p.2))++[Prod.mk i lead]).map (·.2) =(Dn.map λp=>kah k lead i p.2)++[lead]:=by
       rw[wv,vV];rfl
      rw[e];refine zJ (xD hpn12 prn12 λws hw=>nn ws (nlen ws hw)) ?_;show upd H12 pn _ ld=_;rw[zy (hld12.ne (nn lead llead) hpn12)];exact hld12
     ·rw[zy npz];exact hW12
     ·exact xV (xD hpn12 prz12 λws hw=>nn ws (zlen ws hw)) (xD hpn12 prc12 λws hw=>nn ws (clen ws hw))
   ·have c2:¬ 0 <((Wt.filter λr=>decide (r.getD i 0≠0)).length:Int):=bH (uS.mpr c1);have ef:Wt.filter (λr=>decide (r.getD i 0≠0))=[]:=vB ();have turn:kat k i (Dn,Wt) =(Dn,Wt):=by
     unfold kat;simp only[ef]
    rw[turn];exact(td,tw,rd,rw',_,_,Q,g23,hD3,hW3)
  ·rintro E H2 ⟨td,tw,rd,rw',o5,o6,o7,rfl,g2,hD,hW⟩
   exact(Q,q td rd H2 g2 hD)
 ·have c':¬ 0 <(Ws.length:Int):=bH (uS.mpr c);have ew:Ws=[]:=vB ();refine(Q,Q,(),(),?_)
  let Pv6_:Nat->L2.St->Hp->Prop:=λi E H'=>∃ o5 o6 o7,E=[some (.int k),some (.ref t),some (.ref pd),some (.ref pw),some (.int 0),o5,o6,o7]/\H'=H1
  refine yu (lo:=0) (n:=(0:Int).toNat) Pv6_ (none,none,none,V,V) ?_ ?_
  ·intro i E H2 hi;exact bK hi (vN i)
  ·rintro E H2 ⟨o5,o6,o7,rfl,rfl⟩
   refine(Q,q pd [] _ g1 ?_);rw[ew,zaz];exact(hpd1,.nil)
inductive qV:Sp
 | mk:∀ k p ws a,vs=[.int k,.ref a]->kab k->IRow H ws a->p<ws.length->ws.getD p 0≠0->((∀ j,j<p->ws.getD j 0=0))->nnum k (ws.getD p 0)≠nnum k 0->(∀ w∈ws,Sm 60000000 w)->ws.length<sizeLine->(∀ vs' a' H',Same H H'->H' a'=none->Paired (RN H') (overL k (p,ws)) vs'->Q (.ref a') (upd H' a' (.lst vs')))->qV vs H Q E_
def JH:KnI pg 34 44 qV:=by
 exists 34,zj,[],zo,JM,[0,2],zo,zeh
 obtain⟨k,p,ws,a,rfl,Z,ha,hp,hn,hz,ne,sz,hl,q⟩:=h;refine(Q,a,V,(_,SqL.of ha),?_)
 let Pv1_:Nat->List V->Hp->Prop:=λi ys H'=>H'=H/\ys =((ws.take i).filter λw=>decide (w≠0)).map V.int
 refine zq (xs:=ws.map V.int) Pv1_ (V,by simp) ?_ ?_ ?_
 ·rintro i ys H' hi ⟨rfl,rfl⟩
  refine(SqL.of ha,?_);have h2:=uz (λw:Int=>decide (w≠0)) (ws.take i);rw[wr]at h2;rw[wa];omega
 ·rintro i v ys H' hv hi ⟨rfl,rfl⟩
  rw[wg]at hv;obtain⟨u,hu,rfl⟩:=wG.mp hv;refine(Q,V,Q,?_);refine ite2 (λc1=>?_) (λc1=>?_)
  ·have z:u≠0:=λz=>by rw[z]at c1;exact bK c1 ()
   refine(Q,nxt hi (V,?_));rw[yy _ hu,bw (bF z),wv];rfl
  ·have z:u=0:=by
    by_cases z:u=0
    ·exact z
    ·exact bK (by have h':¬ V.int u=V.int 0:=λe=>z (V.int.inj e);rw[bE h'];rfl) c1
   refine nxt hi (V,?_);rw[yy _ hu,bx (show ¬ decide (u≠0)=true from λh=>bG h z),vW]
 rintro ys H' ⟨rfl,rfl⟩ pf hpf
 rw[wa,um];have g1:=zc hpf (.lst ((ws.filter λw=>decide (w≠0)).map V.int));refine(pf,_,_,Q,V,SqL.of zd,zt (j:=0) (by rw[wg,zfp hp hz hn];rfl),?_);have ha1:=ha.mono g1;generalize upd H' pf (.lst ((ws.filter λw=>decide (w≠0)).map V.int))=H1 at *;refine(Q,a,V,(_,SqL.of ha1),?_)
 let Pv2_:Nat->List V->Hp->Prop:=λi ys H2=>Same H1 H2/\Paired (RN H2) ((overL k (p,ws)).take i) ys
 refine zq (xs:=ws.map V.int) Pv2_ (Same.refl _,.nil) ?_ ?_ ?_
 ·rintro i ys H2 hi ⟨g2,pr⟩
  refine(SqL.of (ha1.mono g2),?_);have:=zf pr;unfold overL at this;rw[wr,wa]at this;rw[wa]at hi;show ys.length<sizeLine;have e:(Prod.mk p ws).2=ws:=rfl;rw[e]at this;omega
 ·rintro i v ys H2 hv hi ⟨g2,pr⟩
  rw[wg]at hv;obtain⟨u,hu,rfl⟩:=wG.mp hv
  symm
  refine(Q,Q,Q,k,u,ws.getD p 0,V,Z,ne,sz u (we hu),jG sz p,λv3 H3 g3 r3=>nxt hi (g2.trans g3,?_));have e:(overL k (p,ws))[i]?=some (ndiv k (nnum k u) (nnum k (ws.getD p 0))):=by unfold overL;rw[wg];show Option.map _ ws[i]?=_;rw[hu];rfl
  rw[zh e];exact zJ (xT g3 pr) r3
 ·rintro ys H2 ⟨g2,pr⟩ a' ha'
  rw[wa,wm (by unfold overL;rw[wa];exact ww _)]at pr;exact q ys a' H2 (g1.trans g2) ha' pr
inductive YI:Sp
 | mk:∀(k:Int)(M:Tb)(n B:Nat)(t:Addr)(ras:List Addr),vs=[.int k,.ref t]->kab k->kac H M t ras->OkM k n M->kad B M->61<=B->(B+1)*2^n<=60000000->n<sizeLine->M.length<=8000000->(∀ R ls top rs H',Same H H'->NewT H H' R top rs->(∀ F [bu F] (O:Kf k F),kap O n M R ls)->R.length<=M.length->Q (.ref top) H')->YI vs H Q E_
def xx:KnI pg 35 45 YI:=by
 exists 35,[0],zo,zi,xy,[0],zo,ze5,JH
 obtain⟨k,M,n,B,t,ras,rfl,Z,hT,oM,sM,b2,hb,nz,mz,q⟩:=h;have lras:=zf hT.2;have szl:=se
 have b1:B<=60000000/\(B+1)*2^n - 1<=60000000:=by
  have h1:1<=2^n:=uN;have h2:(B+1)*1<=(B+1)*2^n:=wS _ h1;omega
 refine(Q,t,V,(_,SqL.of hT.1),?_)
 let Pv1_:Nat->List V->Hp->Prop:=λi ys H'=>∃ Ws rl,ys=rl.map V.ref/\Same H H'/\Paired (IRow H') Ws rl/\Paired (λxs ws=>(∃ b,Scl k xs ws b)/\∀ w∈ws,Sm (B) w) (M.take i) Ws
 refine zq (xs:=ras.map V.ref) Pv1_ ([],[],V,Same.refl _,.nil,.nil) ?_ ?_ ?_
 ·rintro i ys H' hi ⟨Ws,rl,rfl,g,pr,ps⟩
  refine(SqL.of (g _ _ hT.1),?_);have h1:=zf pr;have h2:=zf ps;rw[wr]at h2;rw[wa];omega
 ·rintro i v ys H' hv hi ⟨Ws,rl,rfl,g,pr,ps⟩
  obtain⟨xs,a,J,ha,rfl,hrow⟩:=(hT.mono g).row hv;obtain⟨lx,ox⟩:=oM xs (we J)
  symm
  refine(Q,Q,k,xs,a,B,V,Z,hrow,ox,sM xs (we J),b2,b1.1,(),λp H2 g2 sc=>?_);obtain⟨l,ws,b,hp,hl,sc,sb,sw⟩:=sc;refine(p,_,_,Q,V,SqT.of hp,V,nxt hi (Ws++[ws],rl++[l],by rw[wv];rfl,g.trans g2,zJ (jB g2 pr) hl,?_));rw[zh J];exact zJ ps ((b,sc),sw)
 rintro ys H' ⟨Ws,rl,rfl,g,pr,ps⟩ pw hpw
 rw[wa,wm ()]at ps;have lps:=zf ps;have g1:=g.trans (zc hpw (.lst (rl.map V.ref)));have hpw1:upd H' pw (.lst (rl.map V.ref)) pw=some (.lst (rl.map V.ref)):=zd;have pr1:=jB (zc hpw (.lst (rl.map V.ref))) pr;generalize upd H' pw (.lst (rl.map V.ref))=H1 at *;have wl:∀ r∈Ws,r.length=n:=λr L=>by
  obtain⟨xs,J,⟨b,sc⟩,_⟩:=xS ps L;rw[sc.len,(oM xs J).1]
 have ws':∀ r∈Ws,∀ w∈r,Sm (B) w:=λr L=>by
  obtain⟨xs,J,_,h⟩:=xS ps L;exact h
 refine(Q,Q,k,Ws,n,B,pw,rl,V,Z,(hpw1,pr1),wl,nz,(),ws',b2,hb,λpp rs H2 g2 hI=>?_);refine(pp,V,(_,SqL.of hI.1),?_);have red:∀(F:Type) [bu F] (O:Kf k F),kap O n M (redM k n Ws) (leadsM k n Ws):=λF _ O=>jR O Z oM lps.symm λi r ws h1 h2=>(xw ps h1 h2).1
 have fine:=Fine.to (k:=k) Z.lt.1 wl n;have szs:=zgt Z b2 wl ws' n;have lens:=jp (k:=k) Ws n;obtain⟨F0,i0,d0,⟨φ0⟩⟩:=zw Z;have lead:∀ p∈(swTo k Ws n).1,p.1<n/\p.2.length=n/\p.2.getD p.1 0≠0/\(∀ j,j<p.1->p.2.getD j 0=0)/\nnum k (p.2.getD p.1 0)≠nnum k 0:=λp hp=>by
  obtain⟨h1,h2,h3,h4⟩:=ji φ0 Z.lt.1 wl hp;refine(h1,h2,h3,h4,XG φ0 λz=>h3 ?_);exact(Yn φ0 (fine.df p hp) p.1).mp z
 generalize hS:(swTo k Ws n).1=Dn at *;have lrs:=zf hI.2;rw[wa]at lrs;have eR:redM k n Ws=Dn.map (overL k):=by unfold redM;rw[hS]
 let Pv2_:Nat->List V->Hp->Prop:=λi ys H3=>∃ ras2,ys=ras2.map V.ref/\Grow H2 H3 ((redM k n Ws).take i) ras2
 refine zq (xs:=rs.map V.ref) Pv2_ ([],V,Grow.nil H2 (Same.refl H2)) ?_ ?_ ?_
 ·rintro i ys H3 hi ⟨ras2,rfl,G⟩
  refine(SqL.of (G.same _ _ hI.1),?_);have:=zf G.rows;rw[wr,eR,wa]at this;rw[wa];omega
 ·rintro i v ys H3 hv hi ⟨ras2,rfl,G⟩
  obtain⟨ws,a,hw,ha,rfl,hrow⟩:=(hI.mono G.same).row hv;rw[wg]at hw;obtain⟨p,hp,rfl⟩:=wG.mp hw;have hm:=we hp;obtain⟨l1,l2,l3,l4,l5⟩:=lead p hm
  symm
  refine(Q,Q,k,p.1,p.2,a,V,Z,hrow,(),l3,l4,l5,λw hw=>(szs.1 p (by rw[hS];exact hm) w hw).mono (),(),λvs' a' H4 g4 ha' pr4=>nxt hi (ras2++[a'],by rw[wv];rfl,?_));have e:(redM k n Ws)[i]?=some (overL k (p.1,p.2)):=by rw[eR,wg,hp];rfl
  rw[zh e];exact(G.mono g4).snoc ha' pr4
 rintro ys H3 ⟨ras2,rfl,G⟩ top ht
 rw[wa,wm (by rw[eR,wa];omega)]at G;have N:=G.done ht;refine q (redM k n Ws) (leadsM k n Ws) top ras2 _ ((g1.trans g2).trans (G.same.trans (zc ht _))) (N.tab,(g1.trans g2).none N.ft,λr L=>(g1.trans g2).none (N.fr r L),N.nd,N.nt) red (by rw[eR,wa];omega)
inductive zd9:Sp
 | mk:∀(k:Int)(xs:List Nb)(a:Addr)(l:Nat)(x:Nb),vs=[.int k,.ref a]->kaq H xs a->((∀ j,j<l->xs[j]?=some (nnum k 0)))->xs[l]?=some x->x≠nnum k 0->(∀ H',Same H H'->Q (.int (l:Int)) H')->zd9 vs H Q E_
def QM:KnI pg 33 2 zd9:=by
 exists 33,yk,XU,zj
 obtain⟨k,xs,a,l,x,rfl,ha,hz,hl,ne,q⟩:=h;refine(Q,k,0,V,λv0 H1 g1 r1=>?_);obtain⟨us,hu,pu,lu⟩:=(ha.mono g1).len
 let Wv1_:Nat->L2.St->Hp->Prop:=λm E H'=>∃ p:Nat,E=[some (.int k),some (.ref a),some v0,some (.int (p:Int))]/\H'=H1/\p<=l/\m=l - p
 refine(Wv1_,(_,0,V,V,vI _,V),?_)
 rintro m E H' ⟨p,rfl,rfl,pl,rfl⟩
 rcases wH p l with h|h
 ·obtain⟨u,eu,ru⟩:=yj pu (hz p h);refine(Q,Q,a,_,_,Q,V,SqL.of hu,zt eu,Q,toD (nnum k 0),toD (nnum k 0),ru,r1,yV _,yV _,wE (vX _ _) (wE (xA _) ()),Q,?_);rw[zfn];refine iteT (_,λ_ _ h=>h,?_);exact(Q,_,Q,V,_,(),p+1,V,V,(),V)
 ·have e:p=l:=by omega
  subst e;obtain⟨u,eu,ru⟩:=yj pu hl;refine(Q,Q,a,_,_,Q,V,SqL.of hu,zt eu,Q,toD x,toD (nnum k 0),ru,r1,yV _,yV _,wE (vX _ _) (wE (xA _) ()),Q,?_);rw[jQ,bE ne];refine iteF ?_;exact(Q,q _ g1)
inductive YD:Sp
 | mk:∀(k:Int)(n:Nat),vs=[.int k,.int (n:Int)]->n<=1000->(∀ v0 pt H',Same H H'->RN H' (nnum k 0) v0->H' pt=some (.lst (wL n v0))->H pt=none->Q (.ref pt) H')->YD vs H Q E_
def qG:KnI pg 20 2 YD:=by
 exists 20,ziC,yk
 obtain⟨k,n,rfl,hn,q⟩:=h;have szl:=se
 refine(Q,k,0,V,λv0 H1 g1 rv0=>((),λp1 hp1=>?_));refine(Q,p1,_,Q,V,zd,(),(),(by show 1 *(n:Int).toNat<=sizeLine;omega),λpt hpt=>?_);rw[zc5,vn];exact q v0 pt _ ((g1.trans (zc hp1 (.lst [v0]))).trans (zc hpt (.lst (wL n v0)))) ((rv0.mono (zc hp1 (.lst [v0]))).mono (zc hpt (.lst (wL n v0)))) zd ((g1.trans (zc hp1 (.lst [v0]))).none hpt)
inductive JD:Sp
 | mk:∀(k:Int)(A B:Tb)(n C:Nat)(t1 t2:Addr)(r1 r2:List Addr),vs=[.int k,.ref t1,.ref t2]->kab k->kac H A t1 r1->kac H B t2 r2->OkM k n A->OkM k n B->kad C A->kad C B->61<=C->(C+1)*2^n<=60000000->n<=64->A.length<=1000->B.length<=1000->(∀ R ls top rs H',Same H H'->NewT H H' R top rs->(∀ F [bu F] (O:Kf k F),kap O n (A++B) R ls)->Q (.ref top) H')->JD vs H Q E_
def xZ:KnI pg 44 46 JD:=by
 exists 44,xx,qh
 obtain⟨k,A,B,n,C,t1,t2,r1,r2,rfl,Z,hA,hB,oA,oB,cA,cB,c7,hc,n64,lA,lB,q⟩:=h;have szl:=se
 have l1:=zf hA.2;have l2:=zf hB.2;refine(Q,Q,Q,t1,t2,_,Q,V,hA.1,hB.1,(by rw[wa,wa];omega),λp hp=>?_);have g:=zc hp (.lst (r1.map V.ref++r2.map V.ref));have T:kac (upd H p (.lst (r1.map V.ref++r2.map V.ref))) (A++B) p (r1++r2):=(by rw[zd,wv],xV (hA.mono g).2 (hB.mono g).2);generalize upd H p (.lst (r1.map V.ref++r2.map V.ref))=H1 at *;refine(k,A++B,n,C,p,r1++r2,V,Z,T,(λr L=>(wp.mp L).elim (oA r) (oB r)),cA.app cB,c7,hc,(),(by rw[wy];omega),λR ls top rs H2 g2 nt red _=>?_);exact q R ls top rs H2 (g.trans g2) (nt.tab,g.none nt.ft,λr L=>g.none (nt.fr r L),nt.nd,nt.nt) red
inductive zcb:Sp
 | mk:∀(k:Int)(n:Nat)(R:Tb)(ls:List Nat)(f:Nat)(fI:Int)(t:Addr)(rs:List Addr),vs=[.int k,.int (n:Int),.ref t,.int fI]->fI =(f:Int)->kab k->kac H R t rs->IsRa k n R ls->f<n->f∉ls->n<=64->(∀ r∈R,∀ x∈r,nsm 60000000 x)->(∀ xs p H',Same H H'->NewR H H' xs p->AgR k n R ls f xs->Q (.ref p) H')->zcb vs H Q E_
def zhc:KnI pg 45 43 zcb:=by
 exists 45,qG,yk,zo,zar,yk,zj,QM
 obtain⟨k,n,R,ls,f,fI,t,rs,rfl,rfl,Z,hT,isR,hf,nf,n64,sR,q⟩:=h;obtain⟨oR,lls,inc,llt⟩:=zE Z isR;have nd:= inc.imp λh=>vf h
 obtain⟨F0,i0,d0,⟨φ0⟩⟩:=zw Z;refine(Q,Q,k,n,V,(),λv0 pt H2 g2 rv2 hpt2 ptH=>?_);refine(Q,k,1,V,λv1 H3 g3 rv1=>?_);have hpt3:=g3 _ _ hpt2;refine(Q,Q,pt,_,_,f,V,V,hpt3,jD (by rw[wQ];exact hf),?_);have g4:Same H (upd H3 pt (.lst ((wL n v0).set f v1))):=yp (g2.trans g3) ptH;have pr4:=ZT (zs':=(wL n v0).set f v1) hpt3 (Jr (Jy (rv2.mono g3) n) f rv1);have hpt4:upd H3 pt (.lst ((wL n v0).set f v1)) pt=some (.lst ((wL n v0).set f v1)):=zd;generalize upd H3 pt (.lst ((wL n v0).set f v1))=H4 at *;have T4:=hT.mono g4;have lrs:=zf hT.2;refine(Q,t,V,(_,SqL.of T4.1),?_)
 let Pv1_:Nat->L2.St->Hp->Prop:=λi E H'=>∃ x us o5,E=[some (.int k),some (.int (n:Int)),some (.ref t),some (.int (f:Int)),some (.ref pt),o5]/\Same H H'/\H' pt=some (.lst us)/\Paired (RN H') x us/\AgI k n R ls f i x
 refine yn (xs:=rs.map V.ref) Pv1_ (_,_,none,V,g4,hpt4,pr4,AgI.start Z hf R ls) ?_ ?_ ?_
 ·rintro i E H' _ ⟨x,us,o5,rfl,g,_⟩
  exact SqL.of (g _ _ hT.1)
 ·rintro i v E H5 hv ⟨x,us,o5,rfl,g5,hpt5,px,tI⟩
  obtain⟨row,a,hrow,ha,rfl,hR⟩:=(hT.mono g5).row hv;have iR:i<R.length:=(wu.mp hrow).1;obtain⟨l,hl⟩ : ∃ l,ls[i]?=some l:=(ls[i]'(),wb ());obtain⟨ln,lz,l1⟩:=QH Z (isR F0 φ0) hrow hl;have orow:=oR row (we hrow);have hfr:f<row.length:=by rw[orow.1];exact hf
  refine(Q,Q,k,0,V,λv2 H6 g6 rv2'=>?_);obtain⟨us6,hu6,pu6,lu6⟩:=(hR.mono g6).len;obtain⟨vy,ey,ry⟩:=yj pu6 (wb hfr);refine(Q,Q,a,_,_,Q,V,SqL.of hu6,zt ey,k,_,_,v2,vy,V,(Z,zD Z 0,orow.2 _ (wk hfr),(xq Z (xp 61) ()).mono (),sR row (we hrow) _ (wk hfr),rv2',ry),λv7 H7 g7 rv7=>?_);refine(Q,Q,Q,k,row,a,l,Q,(hR.mono g6).mono g7,lz,l1,num01 Z,λH8 g8=>?_);have g58:=(g6.trans g7).trans g8;have hpt8:=g58 _ _ hpt5;have lus:=zf px;refine(pt,_,_,l,V,V,hpt8,jD (by rw[← lus,tI.len];exact ln),?_);exact(_,_,Q,yp (g5.trans g58) ptH,zd,ZT hpt8 (Jr (xT g58 px) l (rv7.mono g8)),tI.step Z nd nf hl hrow (wb hfr) (orow.2 _ (wk hfr)) ln)
 ·rintro E H5 ⟨x,us,o5,rfl,g5,hpt5,px,tI⟩
  rw[wa,← lrs]at tI;exact(Q,q x pt H5 g5 ((us,hpt5,px),ptH) (tI.done lls))
inductive YU:Sp
 | mk:∀(k:Int)(n:Nat)(W:Tb)(lw:List Nat)(C:Nat)(t:Addr)(ras:List Addr),vs=[.int k,.int (n:Int),.ref t]->kab k->kac H W t ras->IsRa k n W lw->kad C W->61<=C->1<=n->n<=64->(n*C+1)*2^n<=60000000->(∀ A la top rs H',Same H H'->NewT H H' A top rs->IsRa k n A la->(∀ F [bu F] (O:Kf k F) v,Rm O A v↔perp n (Rm O W) v)->Q (.ref top) H')->YU vs H Q E_
def ziL(h:(n*C+1)*2^n<=60000000)(n1:1<=n):(C+1)*2^n<=60000000/\C<=60000000:=by
 have h1:C+1<=n*C+1:=by have:1*C<=n*C:=wI _ n1;omega
 have h2:(C+1)*2^n<=(n*C+1)*2^n:=wI _ h1;have h3:(C+1)*1<=(C+1)*2^n:=wS _ uN;omega
def jn:KnI pg 46 46 YU:=by
 exists 46,xx,[0],zo,QM,xx,[0,1,3,4],zhc
 obtain⟨k,n,W,lw,C,t,ras,rfl,Z,hT,isW,cW,c7,n1,n64,hc,q⟩:=h;have szl:=se
 obtain⟨oW,_,_,_⟩:=zE Z isW;have lW:=yf Z isW;obtain⟨hc1,hc2⟩:=ziL hc n1;refine(Q,Q,k,W,n,C,t,ras,V,Z,hT,oW,cW,c7,hc1,(),(),λR ls top rs H1 g1 nR red _=>?_);obtain rfl:R=W:=ziG Z red isW (SameRm.refl _);have isR:=yc red;obtain⟨_,lls,inc,llt⟩:=zE Z isR;obtain⟨F0,i0,d0,⟨φ0⟩⟩:=zw Z;have lrs:=zf nR.tab.2;refine(Q,top,V,(_,SqL.of nR.tab.1),?_);refine zq (xs:=rs.map V.ref) (λi ys H'=>Same H1 H'/\ys=natV (ls.take i)) (Same.refl _,V) ?_ ?_ ?_
 ·rintro i ys H' hi ⟨g,rfl⟩
  refine(SqL.of (g _ _ nR.tab.1),?_);unfold natV;rw[wa,wr];omega
 ·rintro i v ys H' hv hi ⟨g,rfl⟩
  obtain⟨row,a,hrow,ha,rfl,hR⟩:=(nR.tab.mono g).row hv;have iR:i<R.length:=(wu.mp hrow).1;obtain⟨l,hl⟩ : ∃ l,ls[i]?=some l:=(ls[i]'(),wb ());obtain⟨ln,lz,l1⟩:=QH Z (isR F0 φ0) hrow hl
  symm
  refine(Q,Q,k,row,a,l,Q,hR,lz,l1,num01 Z,λH2 g2=>nxt hi (g.trans g2,?_));rw[zh hl];unfold natV;rw[wv];rfl
 rintro ys H2 ⟨g2,rfl⟩ pL hpL
 rw[wa,wm ()];have g3:=(g1.trans g2).trans (zc hpL (.lst (natV ls)));have T3:=(nR.tab.mono g2).mono (zc hpL (.lst (natV ls)));have hL3:upd H2 pL (.lst (natV ls)) pL=some (.lst (natV ls)):=zd;generalize upd H2 pL (.lst (natV ls))=H3 at *;refine(Q,Q,n,V,(),(),?_);rw[vn]
 let Pv1_:Nat->List V->Hp->Prop:=λi ys H'=>∃ A ras2,ys=ras2.map V.ref/\Grow H3 H' A ras2/\Paired (λf xs=>AgR k n R ls f xs) (((wY n).take i).filter λf=>!decide (f∈ls)) A
 refine zZ (lo:=0) (n:=n) Pv1_ ([],[],V,Grow.nil H3 (Same.refl _),by simp;exact .nil) ?_ ?_ ?_
 ·rintro i ys H' hi ⟨A,ras2,rfl,G,pA⟩
  have e1:=zf G.rows;have e2:=zf pA;have e3:=uz (λf=>!decide (f∈ls)) ((wY n).take i);rw[wr,vx]at e3;rw[wa];omega
 ·rintro i ys H' hi ⟨A,ras2,rfl,G,pA⟩
  have ei:(wY n)[i]?=some i:=vw hi;refine(Q,Q,pL,Q,.inl (SqL.of (G.same _ _ hL3)),V,zdi ls,Q,?_);have ein:(if true=true then !inV (V.int (0 +(i:Int))) (natV ls)else inV (V.int (0 +(i:Int))) (natV ls))=!decide (i∈ls):=by rw[bw rfl,vQ,zgu]
  rw[ein];refine ite2 (λc=>?_) (λc=>?_)
  ·have nm:i∉ls:=λhm=>by rw[bF hm]at c;exact bK c ()
   refine(Q,Q,Q,Q,k,n,R,ls,i,_,top,rs,V,vQ _,Z,T3.mono G.same,isR,hi,nm,n64,λr L x J=>(je Z oW cW c7 r L x J).mono (),λxs p H4 g4 nx ag=>nxt hi (A++[xs],ras2++[p],by rw[wv];rfl,G.snocR g4 nx.row nx.fa,?_));rw[Za _ ei,bw (by rw[bE nm];rfl)];exact zJ pA ag
  ·have hm:i∈ls:=uw λnm=>c (by rw[bE nm];rfl)
   refine nxt hi (A,ras2,V,G,?_);rw[Za _ ei,bx (by rw[bF hm];exact wZ),vW];exact pA
 rintro ys H4 ⟨A,ras2,rfl,G,pA⟩ p4 hp4
 rw[wm (by rw[vx];exact ww _)]at pA;have N4:=(G.done hp4).tab;have g5:=G.same.trans (zc hp4 (.lst (ras2.map V.ref)));generalize upd H4 p4 (.lst (ras2.map V.ref))=H5 at *;have lA:=zf pA;have efr:freeOf n ls =(wY n).filter λf=>!decide (f∈ls):=rfl
 rw[← efr]at pA lA;have fl:=zai Z isR;have oA:OkM k n A:=λr L=>by
  obtain⟨f,_,ag⟩:=xS pA L;exact(ag.len,ag.ok)
 have cA:kad (n*C) A:=λr L=>by
  obtain⟨f,hf,ag⟩:=xS pA L;have hf':=(jx n ls f).mp hf;have:0 <(freeOf n ls).length:=waq hf;exact zc3 Z cW oW lls c7 () hf'.1 ag
 have c7':61<=n*C:=by have:1*C<=n*C:=wI _ n1;omega
 refine(k,A,n,n*C,p4,ras2,V,Z,N4,oA,cA,c7',hc,(),(),λR2 ls2 top2 rs2 H6 g6 n6 red2 _=>?_);have g36:=g3.trans g5;refine q R2 ls2 top2 rs2 H6 (g36.trans g6) (n6.tab,g36.none n6.ft,λr L=>g36.none (n6.fr r L),n6.nd,n6.nt) (yc red2) λF _ O v=>?_
 have hp:=qY (isR F O) Z (zaQ n ls) (jx n ls) lA (λi f xs h1 h2=>xw pA h1 h2) v;exact(λh=>hp.mp ((red2 F O).fro v h),λh=>(red2 F O).to v (hp.mpr h))
inductive zam:Sp
 | mk:∀ ws us l l' m,vs=[.ref l,.ref l']->IRow H ws l->IRow H us l'->(∀ w∈ws,Sm m w)->(∀ w∈us,Sm m w)->2*m<=60000000->ws.length<sizeLine->(∀ H',Same H H'->Q (.int (rdot ws us)) H')->zam vs H Q E_
def zaO:KnI pg 13 1 zam:=by
 exists 13,[],zG
 obtain⟨ws,vs,l,l',m,rfl,hl,hl',sw,sw',hsz,hz,q⟩:=h;refine(Q,Q,l,l',ws.map V.int,vs.map V.int,V,SqL.of hl,SqL.of hl',?_);have lz:(vP (·*·) ws vs).length=min ws.length vs.length:=vd;refine zek (xs:=ws.map V.int) (zs:=vs.map V.int) (min ws.length vs.length) (by rw[wa,wa]) (λi ys' H'=>Same H H'/\ys' =((vP (·*·) ws vs).take i).map V.int) (Same.refl H,by simp) ?_ ?_ ?_
 ·rintro i ys' H' hi ⟨g,rfl⟩
  refine(SqL.of (hl.mono g),SqL.of (hl'.mono g),?_);rw[wa,wr,lz];omega
 ·rintro i x z T ys' H' J hy hi hT ⟨g,rfl⟩
  rw[wg]at J hy;obtain⟨u,hu,rfl⟩:=wG.mp J;obtain⟨u',hu',rfl⟩:=wG.mp hy;refine(T,Q,SqT.of zd,V,_,Q,_,Q,V,?_)
  symm
  refine(Q,Q,_,Q,V,(sw u (we hu)).mulOk (sw' u' (we hu')) (),nxt hi (g.trans (zc hT _),?_));have e:(vP (·*·) ws vs)[i]?=some (u*u'):=by rw[uq,hu,hu']
  rw[zh e,wv];rfl
 ·rintro ys' H' ⟨g,rfl⟩ pl hpl
  rw[← lz,um];refine(pl,Q,SqL.of zd,?_);rw[XF];exact q _ (g.trans (zc hpl (.lst ((vP (·*·) ws vs).map V.int))))
inductive zfx:Sp
 | mk:∀ k xs ys p p' m,vs=[.int k,.ref p,.ref p']->kab k->SclAt H k m xs p->SclAt H k m ys p'->OkR k xs->OkR k ys->xs.length=ys.length->61<=m->2*m+xs.length<=60000000->xs.length<sizeLine->(∀ v H',Same H H'->RN H' (ndot k xs ys) v->Q v H')->zfx vs H Q E_
def zgg:KnI pg 15 44 zfx:=by
 exists 15,zeh,zaO,zi,zi,zG,zi,zi
 obtain⟨k,xs,ys,p,p',m,rfl,Z,⟨l,ws,b,hp,hl,sc,sb,sw⟩,⟨l',vs,b',hp',hl',sc',sb',sw'⟩,ox,oy,hlen,m7,hsz,hz,q⟩:=h;have ewl:=sc.len;have evl:=sc'.len;refine(Q,Q,p,_,_,Q,V,SqT.of hp,V,Q,p',_,_,Q,V,SqT.of hp',V,ws,vs,l,l',m,V,hl,hl',sw,sw',(),(),λH' g2=>?_);rw[← XF];obtain⟨ne,e⟩:=zhZ Z hlen sc sc' ox oy;have st:Sm (m+m +(vP (·*·) ws vs).length) (vP (·*·) ws vs).sum:=zfE λw hw=>by
  obtain⟨i,hi,e⟩:=wD hw;rw[uD]at e;rw[← e];exact(sw _ (wk _)).mul (sw' _ (wk _))
 rw[vd]at st;refine(Q,p,_,_,Q,V,SqT.of (g2 _ _ hp),V,Q,p',_,_,Q,V,SqT.of (g2 _ _ hp'),V,_,Q,V,sb.mulOk sb' (),k,_,Q,Z,ne,st.mono (),(sb.mul sb').mono (),λv H2 g3 r=>?_);rw[e]at r;exact q v H2 (g2.trans g3) r
def Yk(D:Kn pg B.w B.K B.mg B.base x l ps sp)(h:∀ vs H Q bP,sp' vs H Q bP->sp vs H Q bP):Kn pg B.w B.K B.mg B.base x l ps sp':=by
 obtain⟨f,fd,F,r⟩:=D.ex;exact(f,fd,F.imp h,r)
inductive YR:Sp
 | mk:∀ k xs a m,vs=[.int k,.ref a]->kab k->kaq H xs a->OkR k xs->(∀ x∈xs,nsm m x)->61<=m->(xs.length+2)*m<=60000000->(∀ p H',Same H H'->SclAt H' k ((xs.length+2)*m) xs p->Q (.ref p) H')->YR vs H Q E_
def Jw(d:KnI pg 11 41 ZQ):KnI pg 11 41 YR:=Yk d λvs H Q bP h=>by
 obtain⟨k,xs,a,m,rfl,Z,L,ox,sx,m7,hsz,q⟩:=h;have szl:=se
 have h1:(xs.length+2)*61<=(xs.length+2)*m:=wS _ m7;have h2:(xs.length+1)*m<=(xs.length+2)*m:=wI _ ();exact(k,xs,a,(xs.length+2)*m,V,Z,L,ox,(Zn () (V,ox,sx)).mono h2,(),hsz,(),q)
def zgd(h7:61<=m)(h:(n+2)*m<=20000000):2 *((n+2)*m)+n<=60000000/\61<=(n+2)*m/\n<sizeLine/\(n+2)*m<=60000000:=by
 have h1:(n+2)*61<=(n+2)*m:=wS _ h7;have:sizeLine=16777216:=by decide
 omega
inductive zbe:Sp
 | mk:∀ k M xs b m t1 a r1,vs=[.int k,.ref t1,.ref a]->kab k->kac H M t1 r1->kaq H xs a->OkM k b M->xs.length=b->OkR k xs->kad m M->rowB m xs->61<=m->2*m+b<=60000000->b<=1000->M.length<sizeLine->(∀ p H',Same H H'->NewR H H' (imgM k M xs) p->Q (.ref p) H')->zbe vs H Q E_
def zeL:KnI pg 29 45 zbe:=by
 exists 29,xy,[0,3],zo,zgg,xy
 obtain⟨k,M,xs,b,m,t1,a,r1,rfl,Z,hM,J,oM,lx,ox,sM,sx,m7,hsz,b9,mz,q⟩:=h;have szl:=se
 refine(Q,Q,k,xs,a,m,V,Z,J,ox,sx,m7,(),(),λp0 H0 g0 sc0=>?_);refine(Q,t1,V,(_,SqL.of (g0 _ _ hM.1)),?_);have hl:=zf hM.2
 let Pv1_:Nat->List V->Hp->Prop:=λi ys H'=>Same H0 H'/\Paired (RN H') ((imgM k M xs).take i) ys
 refine zq (xs:=r1.map V.ref) Pv1_ (Same.refl _,.nil) ?_ ?_ ?_
 ·rintro i ys H' hi ⟨g,pr⟩
  refine(SqL.of (g _ _ (g0 _ _ hM.1)),?_);have:=zf pr;unfold imgM at this;rw[wr,wa]at this;omega
 ·rintro i v ys H' hv hi ⟨g,pr⟩
  obtain⟨row,ra,hrow,ha,rfl,hR⟩:=(hM.mono (g0.trans g)).row hv;obtain⟨lr,orow⟩:=oM row (we hrow)
  symm
  refine(Q,Q,Q,k,row,ra,m,V,Z,hR,orow,sM row (we hrow),m7,(),(),λp1 H1 g1 sc1=>?_);refine(Q,k,row,xs,p1,p0,m,V,Z,sc1,sc0.mono (g.trans g1),orow,ox,by rw[lr,lx],m7,by rw[lr];omega,(),λv2 H2 g2 r2=>?_);refine nxt hi ((g.trans g1).trans g2,?_);have e:(imgM k M xs)[i]?=some (ndot k row xs):=by unfold imgM;rw[wg,hrow];rfl
  rw[zh e];exact zJ (xT (g1.trans g2) pr) r2
 ·rintro ys H' ⟨g,pr⟩ p hp
  rw[wa,wm (by unfold imgM;rw[wa];omega)]at pr;exact q p _ ((g0.trans g).trans (zc hp _)) ((ys,zd,xT (zc hp _) pr),(g0.trans g).none hp)
inductive ZJ:Sp
 | mk:∀ M n top ras,vs=[.ref top]->kac H M top ras->M≠[]->(∀ r∈M,r.length=n)->n<sizeLine->M.length<sizeLine->(∀ t ras' H',Same H H'->NewT H H' (kaa n M) t ras'->Q (.ref t) H')->ZJ vs H Q E_
def yb:KnI pg 27 1 ZJ:=by
 exists 27,[0],zj,[0],zo,zj
 obtain⟨M,n,top,ras,rfl,hT,hM,hn,nz,mz,q⟩:=h;obtain⟨M0,M',rfl⟩:=gr hM;have hras:=zf hT.2;obtain⟨r0,ras',e0⟩ : ∃ r0 ras',ras=r0::ras':=by
  cases ras with
  | nil=>simp at hras
  | cons a b=>exact(a,b,V)
 obtain⟨vs0,h0,p0,l0⟩:=(xw hT.2 (i:=0) rfl (by rw[e0];rfl)).len;have n0:=hn M0 wo;have szl:=se
 refine(Q,top,_,_,Q,V,SqL.of hT.1,(by rw[e0];exact zt (j:=0) rfl),r0,Q,.inl (SqL.of h0),Q,(),(),?_);have en:(vs0.length:Int).toNat=n:=by omega
 rw[en]
 let Pv1_:Nat->List V->Hp->Prop:=λi ys H'=>∃ ras2,ys=ras2.map V.ref/\Grow H H' ((kaa n (M0::M')).take i) ras2
 refine zZ (lo:=0) (n:=n) Pv1_ ([],V,Grow.nil H (Same.refl H)) ?_ ?_ ?_
 ·rintro i ys H' hi ⟨ras2,rfl,G⟩
  have:=zf G.rows;rw[wr,ze]at this;rw[wa];omega
 ·rintro i ys H' hi ⟨ras2,rfl,G⟩
  symm
  refine(Q,top,V,(_,SqL.of (G.same _ _ hT.1)),?_)
  let Pv2_:Nat->List V->Hp->Prop:=λj ys' H2=>H2=H'/\Paired (RN H') (((M0::M').map λr=>r.getD i (.z 0)).take j) ys'
  refine zq (xs:=ras.map V.ref) Pv2_ (V,.nil) ?_ ?_ ?_
  ·rintro j ys' H2 hj ⟨rfl,pr⟩
   refine(SqL.of (G.same _ _ hT.1),?_);have:=zf pr;rw[wr,wa]at this;omega
  ·rintro j v ys' H2 hv hj ⟨rfl,pr⟩
   obtain⟨xs,a,J,ha,rfl,hrow⟩:=(hT.mono G.same).row hv;obtain⟨us,hu,pu,lu⟩:=hrow.len;have nx:=hn xs (we J);have hi':i<xs.length:=by omega
   obtain⟨u,eu,ru⟩:=yj pu (wb hi')
   symm
   refine(Q,Q,a,_,_,Q,V,SqL.of hu,(by rw[vQ];exact zt eu),nxt hj (V,?_));have e:((M0::M').map λr=>r.getD i (.z 0))[j]?=some (xs.getD i (.z 0)):=by rw[wg,J];rfl
   rw[zh e];refine zJ pr ?_;rw[wc,wb hi'];exact ru
  ·rintro ys' H2 ⟨rfl,pr⟩ p hp
   rw[wm (by rw[wa,wa];omega)]at pr;refine nxt hi (ras2++[p],by rw[wv];rfl,?_);rw[zh (yz hi)];exact G.snoc hp pr
 ·rintro ys H' ⟨ras2,rfl,G⟩ t ht
  rw[wm (by rw[ze];exact ww _)]at G;exact q t ras2 _ (G.same.trans (zc ht _)) (G.done ht)
inductive YZ:Sp
 | mk:∀ k A B R n C m tA tB tR rA rB rR,vs=[.int k,.ref tA,.ref tB,.ref tR]->kab k->kac H A tA rA->kac H B tB rB->kac H R tR rR->KrZ k n A B C m->B.length<=1000->OkM k n R->kad m R->kad C (R.map (imgM k A))->R.length<=10->(∀ W t rs H',Same H H'->NewT H H' W t rs->RdR k n W->kau k W (B++R.map (imgM k A))->Q (.ref t) H')->YZ vs H Q E_
def Xm:KnI pg 48 47 YZ:=by
 exists 48,xZ,[0,1],zo,zeL
 obtain⟨k,A,B,R,n,C,m,tA,tB,tR,rA,rB,rR,rfl,Z,hA,hB,hR,bM,b1000,oR,mR,cI,lR,q⟩:=h;have szl:=se
 have n10:=bM.n10;have lA:=bM.lA;have lrR:=zf hR.2;have oI:=QF Z bM.oA bM.lA oR;refine(Q,Q,Q,tR,V,(_,SqL.of hR.1),?_)
 let Pv1_:Nat->List V->Hp->Prop:=λi ys H'=>∃ ras,ys=ras.map V.ref/\Grow H H' ((R.map (imgM k A)).take i) ras
 refine zq (xs:=rR.map V.ref) Pv1_ ([],V,Grow.nil H (Same.refl H)) ?_ ?_ ?_
 ·rintro i ys H' hi ⟨ras,rfl,G⟩
  refine(SqL.of (G.same _ _ hR.1),?_);have:=zf G.rows;rw[wr]at this;rw[wa]at hi ⊢;omega
 ·rintro i v ys H' hv hi ⟨ras,rfl,G⟩
  obtain⟨row,a,hrow,ha,rfl,hRow⟩:=(hR.mono G.same).row hv;have hm:=we hrow;have rr:=oR row hm
  symm
  refine(Q,Q,Q,k,A,row,n,m,tA,a,rA,V,Z,hA.mono G.same,hRow,bM.oA,rr.1,rr.2,bM.mA,mR row hm,bM.m7,bM.m6,(),(),λp H1 g1 nr=>nxt hi (ras++[p],by rw[wv];rfl,?_));have e:(R.map (imgM k A))[i]?=some (imgM k A row):=by rw[wg,hrow];rfl
  rw[zh e];exact G.snocR g1 nr.row nr.fa
 ·rintro ys H' ⟨ras,rfl,G⟩ pI hpI
  rw[wa,wm (by rw[wa];omega)]at G;have N:=G.done hpI;have g1:=G.same.trans (zc hpI (.lst (ras.map V.ref)));generalize upd H' pI (.lst (ras.map V.ref))=H1 at *;refine(k,B,R.map (imgM k A),n,C,tB,pI,rB,ras,V,Z,hB.mono g1,N.tab,bM.oB,oI,bM.bB,cI,bM.c7,bM.c6,(),b1000,(by rw[wa];omega),λW lw t rs H2 g2 nt red=>?_);exact q W t rs H2 (g1.trans g2) (nt.tab,g1.none nt.ft,λr L=>g1.none (nt.fr r L),nt.nd,nt.nt) (lw,yc red) λF _ O v=>(λh=>(red F O).fro v h,λh=>(red F O).to v h)
inductive zaV:Sp
 | mk:∀ k A B n C m tA tB rA rB,vs=[.int k,.ref tA,.ref tB]->kab k->kac H A tA rA->kac H B tB rB->KrZ k n A B C m->B.length<=1000->(∀ R t rs H',Same H H'->NewT H H' R t rs->kan k n A B R->kad m R->Q (.ref t) H')->zaV vs H Q E_
def zbv:KnI pg 49 48 zaV:=by
 exists 49,xx,Xm,Xm
 obtain⟨k,A,B,n,C,m,tA,tB,rA,rB,rfl,Z,hA,hB,bM,b1000,q⟩:=h;have szl:=se
 have n10:=bM.n10;refine(Q,Q,k,B,n,C,tB,rB,V,Z,hB,bM.oB,bM.bB,bM.c7,bM.c6,(),(),λR ls t1 r1 H1 g1 n1 red _=>?_);have rR:RdR k n R:=(ls,yc red);have eR:kau k R (kry k A B 0):=λF _ O v=>(λh=>(red F O).fro v h,λh=>(red F O).to v h)
 have sR:=bM.st 0 R rR eR (vI _);have lR:R.length<=10:=by have:=yf Z (yc red);omega
 refine(Q,Q,Q,Q,k,A,B,R,n,C,m,tA,tB,t1,rA,rB,r1,V,Z,hA.mono g1,hB.mono g1,n1.tab,bM,b1000,(zE Z (yc red)).1,sR.1,sR.2,lR,λW t2 r2 H2 g2 n2 rW eW=>?_);have I0:LrI k n A B R W 0:=by
  refine(rR,rW,eR,λF _ O v=>(eW F O v).trans (zbh Z bM.oA bM.lA bM.oB (zE Z (yc red)).1 (eR F O) v),vI _)
 have N1:NewT H H2 R t1 r1:=(n1.tab.mono g2,n1.ft,n1.fr,n1.nd,n1.nt);have N2:NewT H H2 W t2 r2:=(n2.tab,g1.none n2.ft,λr L=>g1.none (n2.fr r L),n2.nd,n2.nt);have gH:=g1.trans g2;clear n1 n2 g1 red sR lR rR eR rW eW
 let Wv1_:Nat->L2.St->Hp->Prop:=λm E H'=>∃ R W t t1 r1 t2 r2,E=[some (.int k),some (.ref tA),some (.ref tB),some (.ref t1),some (.ref t2)]/\Same H H'/\NewT H H' R t1 r1/\NewT H H' W t2 r2/\LrI k n A B R W t/\m=n - t
 refine(Wv1_,(_,R,W,0,t1,r1,t2,r2,V,gH,N1,N2,I0,V),?_);clear I0 N1 N2 gH
 rintro m E H' ⟨R,W,t,t1,r1,t2,r2,rfl,gH,N1,N2,I,rfl⟩
 have l1:=zf N1.tab.2;have l2:=zf N2.tab.2;refine(Q,t2,Q,.inl (SqL.of N2.tab.1),Q,t1,Q,.inl (SqL.of N1.tab.1),_,Q,V,Q,?_);refine ite2 (λc=>?_) (λc=>?_)
 ·have c':(((r1.map V.ref).length:Nat):Int) <(((r2.map V.ref).length:Nat):Int):=bG c;rw[wa,wa]at c';have lt:R.length<W.length:=by omega
  have tn:t<n:=by obtain⟨lw',iW'⟩:=I.rW;have:=yf Z iW';have:=I.le;omega
  obtain⟨lw,iW⟩:=I.rW;have sW:=bM.st (t+1) W I.rW I.eW (by have:=I.le;omega);have lW:W.length<=10:=by have:=yf Z iW;omega
  refine(_,λ_ _ h=>h,?_);refine(Q,?_);refine(Q,Q,Q,Q,k,A,B,W,n,C,m,tA,tB,t2,rA,rB,r2,V,Z,hA.mono gH,hB.mono gH,N2.tab,bM,b1000,(zE Z iW).1,sW.1,sW.2,lW,λW' t3 r3 H3 g3 n3 rW' eW'=>?_);have I':=I.stepZ Z bM lt rW' eW';exact(_,(),W,W',t+1,t2,r2,t3,r3,V,gH.trans g3,(N2.tab.mono g3,N2.ft,N2.fr,N2.nd,N2.nt),(n3.tab,gH.none n3.ft,λr L=>gH.none (n3.fr r L),n3.nd,n3.nt),I',V)
 ·have c':¬(((r1.map V.ref).length:Nat):Int) <(((r2.map V.ref).length:Nat):Int):=bH (uS.mpr c);rw[wa,wa]at c';exact(Q,q R t1 r1 H' gH N1 (I.doneZ Z bM ()) (bM.st t R I.rR I.eR I.le).1)
inductive Qq:Sp
 | mk:∀ M n t ras,vs=[.ref t]->kac H M t ras->(∀ r∈M,r.length=n)->n<=100->M.length<=100->(∀ p H',Same H H'->NewR H H' M.flatten p->Q (.ref p) H')->Qq vs H Q E_
def Xy:∀(M:Tb),(∀ r∈M,r.length=n)->M.flatten.length=M.length*n
 | [],_=>by simp
 | r::M,h=>by
  rw[vE,wy,Xy M (λr L=>h r (wt _ L)),h r wo,vO,uW];omega
def zd2:KnI pg 26 1 Qq:=by
 exists 26,zo
 obtain⟨M,n,t,ras,rfl,hT,hn,n100,m100,q⟩:=h;have szl:=se
 have lr:=zf hT.2;refine((),λpt hpt=>?_);have g0:=zc hpt (.lst []);refine(Q,t,V,(_,SqL.of (g0 _ _ hT.1)),?_)
 let Pv1_:Nat->L2.St->Hp->Prop:=λi E H'=>∃ us o2,E=[some (.ref t),some (.ref pt),o2]/\Same H H'/\H' pt=some (.lst us)/\Paired (RN H') (M.take i).flatten us
 refine yn (xs:=ras.map V.ref) Pv1_ ([],none,V,g0,zd,.nil) ?_ ?_ ?_
 ·rintro i E H' _ ⟨us,o2,rfl,g,_⟩
  exact SqL.of (g _ _ hT.1)
 ·rintro i v E H' hv ⟨us,o2,rfl,g,hp,pu⟩
  obtain⟨row,a,hrow,ha,rfl,hR⟩:=(hT.mono g).row hv;obtain⟨zs,hz,pz,lz⟩:=hR.len;have lrow:=hn row (we hrow);have lu:=zf pu;rw[Xy (n:=n) (M.take i) (λr L=>hn r (vD L)),wr]at lu;have il:=(wu.mp hrow).1;have b1:min i M.length*n<=100*100:=vm () n100;refine(Q,.inl (V,_,SqL.of hp),Q,pt,a,us,zs,V,V,hp,hz,(),us++zs,Q,yp g hpt,zd,?_);rw[zh hrow,gd,vE,waj,vW];exact ZT hp (xV pu pz)
 ·rintro E H' ⟨us,o2,rfl,g,hp,pu⟩
  rw[wa,wm ()]at pu;exact(Q,q pt H' g ((us,hp,pu),hpt))
def zbk:∀(M:Tb) i r,(∀ r∈M,r.length=n)->M[i]?=some r->(M.flatten.drop (i*n)).take n=r
 | [],i,r,_,h=>by simp at h
 | r0::M,0,r,hn,h=>by
  have e:r0=r:=by simpa using h
  rw[GK,waC,vE,List.take_append_of_le_length (by rw[hn r0 wo];exact ww _),wm (by rw[hn r0 wo];exact ww _),e]
 | r0::M,i+1,r,hn,h=>by
  have l0:=hn r0 wo;rw[vE,uW,Gk (i*n) n,← List.drop_drop];have e:vz n r0=[]:=gi ();rw[List.drop_append_of_le_length (),e,wam];exact zbk M i r (λr L=>hn r (wt _ L)) (by simpa using h)
inductive zf2:Sp
 | mk:∀ k M r n z t ras,vs=[.int k,.ref t]->kab k->kac H M t ras->(OkM k n M/\M.length=r)->1<=r->r<=100->n<=10->rowB z M.flatten->61<=z->z<=60000000->(∀ p t' b ls H',Same H H'->H' p=some (.tup [.ref t',.int b])->ITab H' (M.map λr=>r.map (scW b)) t' ls->Scl k M.flatten (M.flatten.map (scW b)) b->Sm z b->(∀ x∈M.flatten,Sm z (scW b x))->Q (.ref p) H')->zf2 vs H Q E_
def zaL:KnI pg 32 42 zf2:=by
 exists 32,zj,xy,zd2,[3,2],yK,zi,zG,zG,yh,zi
 obtain⟨k,M,r,n,z,t,ras,rfl,Z,hT,⟨okM,lM⟩,n1,r100,n10,bz,m7,m6,q⟩:=h;have szl:=se
 have lr:=zf hT.2;rw[lM]at lr;obtain⟨r0,ras',e0⟩ : ∃ r0 ras',ras=r0::ras':=by
  cases ras with
  | nil=>rw[uI]at lr;omega
  | cons a b=>exact(a,b,V)
 obtain⟨x0,hx0,hr0⟩:=zK hT.2 (i:=0) (b:=r0) (by rw[e0];rfl);obtain⟨u0,hu0,pu0,lu0⟩:=hr0.len;have lx0:=(okM x0 (we hx0)).1;have rn:∀ r∈M,r.length=n:=λr L=>(okM r L).1
 have fl:=Xy M rn;rw[lM]at fl;have nn:r*n<=1000:=vm r100 n10;refine(Q,t,_,_,Q,V,SqL.of hT.1,(by rw[e0];exact zt (j:=0) rfl),r0,Q,.inl (SqL.of hu0),?_);rw[lu0,lx0];have okf:OkR k M.flatten:=λx J=>by
  obtain⟨r,L,hx'⟩:=wU.mp J;exact(okM r L).2 x hx'
 refine(Q,Q,M,n,t,ras,V,hT,rn,(),(by rw[lM];omega),λp1 H1 g1 N1=>?_);refine(k,M.flatten,p1,z,V,Z,N1.row,okf,bz,m7,m6,(by rw[fl];omega),λpp H2 g2 sc=>?_);obtain⟨l,ws,b,hp,hl,sc,sb,sw⟩:=sc;have ew:=sc.eq;subst ew;have g12:=g1.trans g2;refine(Q,t,Q,.inl (SqL.of (g12 _ _ hT.1)),Q,(),(by rw[wa,← lr];omega),?_);rw[vn,wa,← lr];have lW:(M.map λr=>r.map (scW b)).length=r:=by rw[wa];exact lM
 let Pv1_:Nat->List V->Hp->Prop:=λi ys H'=>∃ ls,ys=ls.map V.ref/\Same H2 H'/\Paired (IRow H') ((M.map λr=>r.map (scW b)).take i) ls
 refine zZ (lo:=0) (n:=r) Pv1_ ([],V,Same.refl _,.nil) ?_ ?_ ?_
 ·rintro i ys H' hi ⟨ls,rfl,g,pr⟩
  have:=zf pr;rw[wr]at this;rw[wa];omega
 ·rintro i ys H' hi ⟨ls,rfl,g,pr⟩
  symm
  rw[vQ];refine(Q,pp,_,_,Q,V,SqT.of (g _ _ hp),V,Q,Q,_,Q,V,(IntMulOk.of_left (bp () ())),Q,Q,_,Q,V,Q,_,Q,V,(IntMulOk.of_left (bp () ())),Q,l,Q,SqL.of (hl.mono g),λp3 hp3=>?_);obtain⟨r',L⟩ : ∃ r',M[i]?=some r':=(M[i]'(),wb ());have ec:cutV ((M.flatten.map (scW b)).map V.int) (some ((i:Int) *(n:Int))) (some (((i:Int)+1) *(n:Int))) =(r'.map (scW b)).map V.int:=by
   rw[show(i:Int) *(n:Int) =((i*n:Nat):Int) by rw[gu],show((i:Int)+1) *(n:Int) =(((i+1)*n:Nat):Int) by rw[gu];rfl,zhY,← Gc,← gQ,← Gc,← gQ,show(i+1)*n - i*n=n by rw[uW];omega,zbk M i r' rn L]
  rw[ec];refine nxt hi (ls++[p3],by rw[wv];rfl,g.trans (zc hp3 _),?_);rw[zh (x:=r'.map (scW b)) (by rw[wg,L];rfl)];exact ITab.snoc pr (zc hp3 _) zd
 ·rintro ys H' ⟨ls,rfl,g,pr⟩ t' ht'
  rw[wm ()]at pr;have g3:=zc ht' (.lst (ls.map V.ref));have T3:ITab (upd H' t' (.lst (ls.map V.ref))) (M.map λr=>r.map (scW b)) t' ls:=(zd,yC (λ_ _ r=>r.mono g3) pr);generalize upd H' t' (.lst (ls.map V.ref))=H3 at *;refine(Q,pp,_,_,Q,V,SqT.of (g3 _ _ (g _ _ hp)),V,(),λp hp'=>?_);have g4:=zc hp' (.tup [.ref t',.int b]);exact q p t' b ls _ (((g12.trans g).trans g3).trans g4) zd (T3.mono g4) sc sb (λx J=>sw _ (wj.mpr (x,J,V)))
abbrev gpi:Int:=2305843009213693951
theorem qw:kab gpi:=.inr zia
def restM(b:Int)(M:Tb):Tb:=(M.map λr=>r.map (scW b)).map λr=>r.map (nnum gpi)
theorem zbs(h:OkM 0 n M) b:OkM gpi n (restM b M)/\(restM b M).length=M.length:=(λx J=>by
 obtain⟨y,hy,rfl⟩:=wj.mp J;obtain⟨z,hz,rfl⟩:=wj.mp hy;refine(by rw[wa,wa];exact(h z hz).1,λu hu=>?_);obtain⟨w,_,rfl⟩:=wj.mp hu;exact zD qw w,by unfold restM;rw[wa,wa])
inductive zaE:Sp
 | mk:∀ M r n z t ras,vs=[.ref t]->kac H M t ras->(OkM 0 n M/\M.length=r)->1<=r->r<=100->n<=10->rowB z M.flatten->61<=z->z<=60000000->(∀ b t' rs H',Same H H'->NewT H H' (restM b M) t' rs->Scl 0 M.flatten (M.flatten.map (scW b)) b->Q (.ref t') H')->zaE vs H Q E_
def zby:KnI pg 50 43 zaE:=by
 exists 50,[],zo,zi,zaL,[],zo
 obtain⟨M,r,n,z,t,ras,rfl,hT,⟨okM,lM⟩,r1,r100,n10,bz,z7,z6,q⟩:=h;have szl:=se
 refine(Q,0,M,r,n,z,t,ras,V,.inl rfl,hT,(okM,lM),r1,r100,n10,bz,z7,z6,λp t' b ls H1 g1 hp T sc _ _=>?_);refine(p,_,_,Q,V,SqT.of hp,V,t',V,(_,SqL.of T.1),?_);have lW:(M.map λr=>r.map (scW b)).length=r:=by rw[wa];exact lM
 have lG:(restM b M).length=r:=by unfold restM;rw[wa];exact lW
 have ll:=zf T.2
 let Pv1_:Nat->List V->Hp->Prop:=λi ys H'=>∃ rs,ys=rs.map V.ref/\Grow H1 H' ((restM b M).take i) rs
 refine zq (xs:=ls.map V.ref) Pv1_ ([],V,Grow.nil H1 (Same.refl H1)) ?_ ?_ ?_
 ·rintro i ys H' hi ⟨rs,rfl,G⟩
  refine(SqL.of (G.same _ _ T.1),?_);have:=zf G.rows;rw[wr]at this;rw[wa]at hi ⊢;omega
 ·rintro i v ys H' hv hi ⟨rs,rfl,G⟩
  obtain⟨ws,a,hw,ha,rfl,hRow⟩:=(T.mono G.same).row hv;have lws:ws.length=n:=by
   obtain⟨y,hy,rfl⟩:=wj.mp (we hw);rw[wa];exact(okM y hy).1
  symm
  refine(Q,a,V,(_,SqL.of hRow),?_)
  let Pv2_:Nat->List V->Hp->Prop:=λj ys' H6=>Same H' H6/\Paired (RN H6) ((ws.map (nnum gpi)).take j) ys'
  refine zq (xs:=ws.map V.int) Pv2_ (Same.refl _,.nil) ?_ ?_ ?_
  ·rintro j ys' H6 hj ⟨g6,pr6⟩
   refine(SqL.of (g6 _ _ hRow),?_);have:=zf pr6;rw[wr,wa]at this;omega
  ·rintro j v ys' H6 hv6 hj ⟨g6,pr6⟩
   rw[wg]at hv6;obtain⟨x,J,rfl⟩:=wG.mp hv6
   symm
   refine(Q,_,Q,V,(),nxt hj (g6,?_));rw[zh (x:=nnum gpi x) (by rw[wg,J];rfl)];exact zJ pr6 RN.of_z
  ·rintro ys' H6 ⟨g6,pr6⟩ p6 hp6
   rw[wa,wm (by rw[wa];exact ww _)]at pr6;refine nxt hi (rs++[p6],by rw[wv];rfl,?_);have e:(restM b M)[i]?=some (ws.map (nnum gpi)):=by unfold restM;rw[wg,hw];rfl
   rw[zh e];exact(G.mono g6).snoc hp6 pr6
 ·rintro ys H' ⟨rs,rfl,G⟩ t2 ht
  rw[wm (by rw[lG,wa];omega)]at G;have N:=G.done ht;have g2:=G.same.trans (zc ht (.lst (rs.map V.ref)));exact q b t2 rs _ (g1.trans g2) (N.tab,g1.none N.ft,λr L=>g1.none (N.fr r L),N.nd,N.nt) sc
inductive zdz:Sp
 | mk:∀(k:Int)(n:Nat),vs=[.int k,.int (n:Int)]->n<=1000->(∀ t ras H',Same H H'->NewT H H' (kam k n) t ras->Q (.ref t) H')->zdz vs H Q E_
def QC:KnI pg 30 2 zdz:=by
 exists 30,[1,0],[2,0],yk,yF
 obtain⟨k,n,rfl,hn,q⟩:=h;have szl:=se
 have lT:(kam k n).length=n:=by unfold kam;simp
 refine(Q,n,V,(),(),?_);rw[vn]
 let Pv1_:Nat->List V->Hp->Prop:=λi ys H'=>∃ ras2,ys=ras2.map V.ref/\Grow H H' ((kam k n).take i) ras2
 refine zZ (lo:=0) (n:=n) Pv1_ ([],V,Grow.nil H (Same.refl H)) ?_ ?_ ?_
 ·rintro i ys H' hi ⟨ras2,rfl,G⟩
  have:=zf G.rows;rw[wr]at this;rw[wa];omega
 ·rintro i ys H' hi ⟨ras2,rfl,G⟩
  symm
  refine(Q,n,V,(),(),?_);rw[vn];have lR:(kak k n i).length=n:=by unfold kak;simp
  let Pv2_:Nat->List V->Hp->Prop:=λj ys' H6=>Same H' H6/\Paired (RN H6) ((kak k n i).take j) ys'
  refine zZ (lo:=0) (n:=n) Pv2_ (Same.refl _,.nil) ?_ ?_ ?_
  ·rintro j ys' H6 hj ⟨g6,pr6⟩
   have:=zf pr6;rw[wr]at this;omega
  ·rintro j ys' H6 hj ⟨g6,pr6⟩
   symm
   refine(Q,Q,Q,V,.inr (Q,k,Q,λv H7 g7 r7=>nxt hj (g6.trans g7,?_)));have e:(kak k n i)[j]?=some (if i=j then nnum k 1 else nnum k 0):=by unfold kak;rw[wg,vw hj];rfl
   rw[zh e];refine zJ (xT g7 pr6) ?_
   by_cases c:i=j
   ·rw[bw c];rw[c,bF rfl]at r7;exact r7
   ·rw[bx c];rw[bE (λz=>c (by have:=V.int.inj z;omega))]at r7;exact r7
  ·rintro ys' H6 ⟨g6,pr6⟩ p hp
   rw[wm ()]at pr6;refine nxt hi (ras2++[p],by rw[wv];rfl,?_);rw[zh (yv hi)];exact(G.mono g6).snoc hp pr6
 ·rintro ys H' ⟨ras2,rfl,G⟩ t ht
  rw[wm ()]at G;exact q t ras2 _ (G.same.trans (zc ht _)) (G.done ht)
inductive zbx:Sp
 | mk:∀ k A B n C m z tA tB rA rB,vs=[.int k,.ref tA,.ref tB]->kab k->kac H A tA rA->kac H B tB rB->(1<=n/\n<=8)->KrZ k n A B C m->1<=B.length->B.length<=100->((k=0->tabB z A/\tabB z B))->61<=z->z<=60000000->(∀ R t rs H',Same H H'->NewT H H' R t rs->kan k n A B R->kad m R->Q (.ref t) H')->zbx vs H Q E_
def zbq(Z:kab k)[bu F](O:Kf k F) v (hv:∀ j,n<=j->v j=0):Rm O (kam k n) v:=by
 refine(yM (yQ O Z n) Z v).mp (hv,λu hu=>?_);refine dot_zero n _ _ λj hj=>?_
 have z:=hu.2 _ (.of (_,we (yv hj),V));rw[zp,zk (u':=u) (v':=kae j 1) λi _=>by rw[xn hj i],yd hj]at z
 grind
theorem zbQ{A B R:Tb}(oA:OkM 0 n A)(lA:A.length=n)(oB:OkM 0 n B)(hA:Scl 0 A.flatten (A.flatten.map (scW a)) a)(hB:Scl 0 B.flatten (B.flatten.map (scW c)) c)(bO:kan gpi n (restM a A) (restM c B) R)(hl:R.length=n):kan 0 n A B (kam 0 n):=by
 refine((wY n,λF _ O=>yQ O (.inl rfl) n),λF _ O v=>(λh=>?_,λh=>?_))
 ·refine Qj zia oA lA oB hA hB (λF _ O j hj=>?_) O v λj hj=>zem (zW (.inl rfl) n).1 h hj
  obtain⟨lr,iR⟩:=bO.rd;have oU:=zW qw n;have sub:=((iR F O).sub_len (yQ O qw n) λv hv=>zbq qw O v λj hj=>(iR F O).supp hv j hj).2 (by rw[oU.2,hl];exact ww _);refine(bO.eq F O _).mp (sub _ ?_);exact .of (_,we (yv hj),funext λi=>(xn hj i).symm)
 ·exact zbq (.inl rfl) O v λj hj=>zem (yq (.inl rfl) oA lA oB n) h hj
def zbg:KnI pg 51 49 zbx:=by
 exists 51,yF,yF,zbv,zby,zby,QC,zbv
 obtain⟨k,A,B,n,C,m,z,tA,tB,rA,rB,rfl,Z,hA,hB,⟨n1,n8⟩,bM,b1,b100,tz,z7,z6,q⟩:=h;have szl:=se
 have lA:=zf hA.2;rw[bM.lA]at lA;refine(Q,tA,Q,.inl (SqL.of hA.1),?_);rw[wa,← lA];refine(Q,V,Q,?_);refine ite2 (λc=>?_) (λc=>?_)
 ·have k0:k=0:=V.int.inj (bG c);subst k0;obtain⟨zA,zB⟩:=tz rfl;refine(Q,A,n,n,z,tA,rA,V,hA,(bM.oA,bM.lA),n1,(),(),zA.flat,z7,z6,λa t1 r1 H1 g1 n1' sA=>?_);refine(Q,B,B.length,n,z,tB,rB,V,hB.mono g1,(bM.oB,V),b1,b100,(),zB.flat,z7,z6,λc2 t2 r2 H2 g2 n2 sB=>?_);have rA':=zbs bM.oA a;have rB':=zbs bM.oB c2;refine(gpi,restM a A,restM c2 B,n,61,61,t1,t2,r1,r2,V,qw,n1'.tab.mono g2,n2.tab,xf qw () n8 rA'.1 (rA'.2.trans bM.lA) rB'.1,(),λR t3 r3 H3 g3 n3' bO _=>?_);have l3:=zf n3'.tab.2;have g13:=(g1.trans g2).trans g3;refine(t3,Q,.inl (SqL.of n3'.tab.1),Q,V,Q,?_);refine ite2 (λd=>?_) (λd=>?_)
  ·have d':=V.int.inj (bG d);rw[wa]at d';refine(Q,Q,0,n,V,(),λt ras H4 g4 nt=>?_);exact q _ t ras H4 (g13.trans g4) (nt.tab,g13.none nt.ft,λr L=>g13.none (nt.fr r L),nt.nd,nt.nt) (zbQ bM.oA bM.lA bM.oB sA sB bO ()) (qK bM.m7)
  ·refine(Q,Q,Q,0,A,B,n,C,m,tA,tB,rA,rB,V,Z,hA.mono g13,hB.mono g13,bM,(),λR t rs H4 g4 nt lo sz=>?_);exact q R t rs H4 (g13.trans g4) (nt.tab,g13.none nt.ft,λr L=>g13.none (nt.fr r L),nt.nd,nt.nt) lo sz
 ·refine iteF ?_;refine(Q,Q,Q,k,A,B,n,C,m,tA,tB,rA,rB,V,Z,hA,hB,bM,(),λR t rs H4 g4 nt lo sz=>?_);exact q R t rs H4 g4 nt lo sz
inductive jP:Sp
 | mk:∀ k A B C n h c m z pm ta tb tc ra rb rc,vs=[.int k,.ref pm]->kab k->kaj H A B C pm ta tb tc ra rb rc->(1<=n/\n<=8)->KrZ k n A (kaa h B) c m->(OkM k h B/\B.length=n)->1<=h->h<=100->((k=0->tabB z A/\tabB z B))->61<=z->z<=60000000->(∀ R t rs H',Same H H'->NewT H H' R t rs->kan k n A (kaa h B) R->kad m R->Q (.ref t) H')->jP vs H Q E_
def jK:KnI pg 53 50 jP:=by
 exists 53,zbg,zi,yb,zi
 obtain⟨k,A,B,C,n,h,c,m,z,pm,ta,tb,tc,ra,rb,rc,rfl,Z,hM,⟨n1,n8⟩,bM,⟨oB,lB⟩,h1,h100,tz,z7,z6,q⟩:=h;have szl:=se
 refine(Q,Q,pm,_,_,Q,V,SqT.of hM.tup,V,Q,pm,_,_,Q,V,SqT.of hM.tup,V,B,h,tb,rb,V,hM.b,(λe=>by rw[e]at lB;simp at lB;omega),(λr L=>(oB r L).1),(),(),λt1 r1 H1 g1 n1'=>?_);refine(k,A,kaa h B,n,c,m,z,ta,t1,ra,r1,V,Z,hM.a.mono g1,n1'.tab,(n1,n8),bM,by rw[ze];exact h1,by rw[ze];exact h100,(λe=>((tz e).1,(tz e).2.tr λr L=>(oB r L).1)),z7,z6,λR t rs H2 g2 nt lo sz=>?_);exact q R t rs H2 (g1.trans g2) (nt.tab,g1.none nt.ft,λr L=>g1.none (nt.fr r L),nt.nd,nt.nt) lo sz
inductive qJ:Sp
 | mk:∀ k A B C n c m z pm ta tb tc ra rb rc,vs=[.int k,.ref pm]->kab k->kaj H A B C pm ta tb tc ra rb rc->(1<=n/\n<=8)->KrZ k n (kaa n A) C c m->(OkM k n A/\A.length=n)->(n*m+1)*2^n<=60000000->1<=C.length->C.length<=100->((k=0->tabB z A/\tabB z C))->61<=z->z<=60000000->(∀ R U t rs H',Same H H'->NewT H H' U t rs->kan k n (kaa n A) C R->RdR k n U->kaA k n U R->Q (.ref t) H')->qJ vs H Q E_
def Xc:KnI pg 57 50 qJ:=by
 exists 57,jn,zi,zbg,yb,zi,zi
 obtain⟨k,A,B,C,n,c,m,z,pm,ta,tb,tc,ra,rb,rc,rfl,Z,hM,⟨n1,n8⟩,bM,⟨oA,lA⟩,mz,s1,s100,tz,z7,z6,q⟩:=h;have szl:=se
 have lra:=zf hM.a.2;refine(Q,Q,pm,_,_,Q,V,SqT.of hM.tup,V,ta,Q,.inl (SqL.of hM.a.1),Q,Q,pm,_,_,Q,V,SqT.of hM.tup,V,A,n,ta,ra,V,hM.a,(λe=>by rw[e]at lA;simp at lA;omega),(λr L=>(oA r L).1),(),(),λt1 r1 H1 g1 n1'=>?_);have hM1:=hM.mono g1;refine(Q,pm,_,_,Q,V,SqT.of hM1.tup,V,k,kaa n A,C,n,c,m,z,t1,tc,r1,rc,V,Z,n1'.tab,hM1.c,(n1,n8),bM,s1,s100,(λe=>((tz e).1.tr λr L=>(oA r L).1,(tz e).2)),z7,z6,λR t rs H2 g2 nt lo sz=>?_);obtain⟨lr,iR⟩:=lo.rd;refine(k,n,R,lr,m,t,rs,(by rw[wa,← lra,lA];rfl),Z,nt.tab,iR,sz,bM.m7,n1,(),mz,λU lu t3 r3 H3 g3 n3 iU pe=>?_);have g13:=g1.trans g2;exact q R U t3 r3 H3 (g13.trans g3) (n3.tab,g13.none n3.ft,λr L=>g13.none (n3.fr r L),n3.nd,n3.nt) lo (lu,iU) pe
inductive YY:Sp
 | mk:∀ k A B C n h s pm ta tb tc ra rb rc,vs=[.int k,.ref pm]->kab k->kaj H A B C pm ta tb tc ra rb rc->(Fit k n/\n<=8)->MOk k n h s 80 A B C->1<=h->h<=100->(∀ R t rs H',Same H H'->NewT H H' R t rs->kan k n A (kaa h B) R->Q (.ref t) H')->YY vs H Q E_
def zbC(d:KnI pg 53 50 jP):KnI pg 53 50 YY:=Yk d λvs H Q bP h=>by
 obtain⟨k,A,B,C,n,h,s,pm,ta,tb,tc,ra,rb,rc,rfl,Z,hM,⟨hf,n8⟩,oM,h1,h100,q⟩:=h;obtain⟨c,m,bM,_⟩:=zdP Z hf n8 oM.a (Zy oM.b);exact(k,A,B,C,n,h,c,m,40000,pm,ta,tb,tc,ra,rb,rc,V,Z,hM,(hf.1,n8),bM,(oM.b.ok,oM.b.len),h1,h100,(λe=>(XE hf e (.inl rfl) oM.a,ze4 hf e h100 oM.b)),(),(),λR t rs H' g nt lo _=>q R t rs H' g nt lo)
inductive JI:Sp
 | mk:∀ k A B C n h s pm ta tb tc ra rb rc,vs=[.int k,.ref pm]->kab k->kaj H A B C pm ta tb tc ra rb rc->(Fit k n/\n<=8)->MOk k n h s 80 A B C->1<=s->s<=100->(∀ R U t rs H',Same H H'->NewT H H' U t rs->kan k n (kaa n A) C R->RdR k n U->kaA k n U R->Q (.ref t) H')->JI vs H Q E_
def zej(d:KnI pg 57 50 qJ):KnI pg 57 50 JI:=Yk d λvs H Q bP h=>by
 obtain⟨k,A,B,C,n,h,s,pm,ta,tb,tc,ra,rb,rc,rfl,Z,hM,⟨hf,n8⟩,oM,s1,s100,q⟩:=h;obtain⟨c,m,bM,mz⟩:=zdP Z hf n8 (Zy oM.a) oM.c;exact(k,A,B,C,n,c,m,40000,pm,ta,tb,tc,ra,rb,rc,V,Z,hM,(hf.1,n8),bM,(oM.a.ok,oM.a.len),mz,by rw[oM.c.len];exact s1,by rw[oM.c.len];exact s100,(λe=>(XE hf e (.inl rfl) oM.a,XE hf e (.inr s100) oM.c)),(),(),q)
inductive Xg:Sp
 | mk:∀ A B n h ta tb ra rb,vs=[.ref ta,.ref tb]->kac H A ta ra->kac H B tb rb->A.length=B.length->(∀ r∈A,r.length=n)->(∀ r∈B,r.length=h)->n+h<=sizeLine->A.length<sizeLine->(∀ p ras H',Same H H'->NewT H H' (augM A B) p ras->Q (.ref p) H')->Xg vs H Q E_
def jr:KnI pg 25 1 Xg:=by
 exists 25,[],qh
 obtain⟨A,B,n,h,ta,tb,ra,rb,rfl,hA,hB,lAB,nA,nB,nh,lA,q⟩:=h;have szl:=se
 have la:=zf hA.2;have lb:=zf hB.2;refine(Q,Q,ta,tb,_,Q,SqL.of hA.1,SqL.of hB.1,?_)
 let Pv1_:Nat->List V->Hp->Prop:=λi ys H'=>∃ ras,ys=ras.map V.ref/\Grow H H' ((augM A B).take i) ras
 refine Zs (xs:=ra.map V.ref) (zs:=rb.map V.ref) (by rw[wa,wa];omega) Pv1_ ([],V,Grow.nil H (Same.refl H)) ?_ ?_ ?_
 ·rintro i ys H' hi ⟨ras,rfl,G⟩
  refine(SqL.of (G.same _ _ hA.1),SqL.of (G.same _ _ hB.1),?_);have:=zf G.rows;rw[wr]at this;rw[wa]at hi ⊢;omega
 ·rintro i x z T ys H' hx' hz' hi hT ⟨ras,rfl,G⟩
  have g':=zc hT (.tup [x,z]);have G1:=G.mono g';obtain⟨row,a,hrow,ha,rfl,hR⟩:=(hA.mono G1.same).row hx';obtain⟨row2,a2,hrow2,ha2,rfl,hR2⟩:=(hB.mono G1.same).row hz';obtain⟨us1,hu1,pu1,lu1⟩:=hR.len;obtain⟨us2,hu2,pu2,lu2⟩:=hR2.len;have r1:=nA _ (we hrow);have r2:=nB _ (we hrow2);refine(T,Q,SqT.of zd,V,_,Q,_,Q,V,?_);generalize upd H' T (.tup [.ref a,.ref a2])=H1 at *
  symm
  refine(Q,Q,a,a2,_,Q,V,hu1,hu2,(by rw[lu1,lu2,r1,r2];exact nh),λp hp=>?_);refine nxt hi (ras++[p],by rw[wv];rfl,?_);rw[zh (xK hrow hrow2)];exact G1.snoc hp (xV pu1 pu2)
 ·rintro ys H' ⟨ras,rfl,G⟩ pb hpb
  rw[wa,wm (by unfold augM;rw[vd];omega)]at G;have N:=G.done hpb;have g1:=G.same.trans (zc hpb (.lst (ras.map V.ref)));exact q pb ras _ g1 N
inductive zf1:Sp
 | mk:∀(k:Int)(n:Nat)(W1 W2:Tb)(l1 l2:List Nat)(C Pm GJ:Nat)(t1 t2:Addr)(r1 r2:List Addr),vs=[.int k,.int (n:Int),.ref t1,.ref t2]->kab k->kac H W1 t1 r1->kac H W2 t2 r2->IsRa k n W1 l1->IsRa k n W2 l2->kad C W1->kad C W2->61<=C->61<=Pm->61<=GJ->1<=n->n<=64->(n*C+1)*2^n<=60000000->(Pm+1)*2^n<=60000000->(n*GJ+1)*2^n<=60000000->((∀ A la,IsRa k n A la->(∀ F [bu F] (O:Kf k F) v,Rm O A v↔perp n (Rm O W1) v)->kad Pm A))->((∀ A la,IsRa k n A la->(∀ F [bu F] (O:Kf k F) v,Rm O A v↔perp n (Rm O W2) v)->kad Pm A))->((∀ A1 A2 bN la1 la2 lj,IsRa k n A1 la1->IsRa k n A2 la2->(∀ F [bu F] (O:Kf k F) v,Rm O A1 v↔perp n (Rm O W1) v)->(∀ F [bu F] (O:Kf k F) v,Rm O A2 v↔perp n (Rm O W2) v)->(∀ F [bu F] (O:Kf k F),kap O n (A1++A2) bN lj)->kad GJ bN))->(∀ M lm top rs H',Same H H'->NewT H H' M top rs->IsRa k n M lm->MetOf k M W1 W2->(∃ A1 A2 bN la1 la2 lj,IsRa k n A1 la1/\IsRa k n A2 la2/\kaA k n A1 W1/\kaA k n A2 W2/\(∀ F [bu F] (O:Kf k F),kap O n (A1++A2) bN lj)/\kaA k n M bN)->Q (.ref top) H')->zf1 vs H Q E_
def zic:KnI pg 47 47 zf1:=by
 exists 47,jn,xZ,jn,jn
 obtain⟨k,n,W1,W2,l1,l2,C,Pm,GJ,t1,t2,r1,r2,rfl,Z,T1,T2,i1,i2,c1,c2,c7,p7,j7,n1,n64,hc,hp,hj,hP1,hP2,hJ,q⟩:=h;refine(Q,Q,Q,Q,Q,Q,k,n,W1,l1,C,t1,r1,V,Z,T1,i1,c1,c7,n1,n64,hc,λA1 la1 ta1 ra1 H1 g1 nA1 iA1 pA1=>?_);refine(Q,Q,Q,k,n,W2,l2,C,t2,r2,V,Z,T2.mono g1,i2,c2,c7,n1,n64,hc,λA2 la2 ta2 ra2 H2 g2 nA2 iA2 pA2=>?_);have lA1:=yf Z iA1;have lA2:=yf Z iA2;refine(k,A1,A2,n,Pm,ta1,ta2,ra1,ra2,V,Z,nA1.tab.mono g2,nA2.tab,(zE Z iA1).1,(zE Z iA2).1,hP1 A1 la1 iA1 pA1,hP2 A2 la2 iA2 pA2,p7,hp,n64,(),(),λbN lj tj rj H3 g3 nJ redJ=>?_);refine(k,n,bN,lj,GJ,tj,rj,V,Z,nJ.tab,yc redJ,hJ A1 A2 bN la1 la2 lj iA1 iA2 pA1 pA2 redJ,j7,n1,n64,hj,λM lm tm rm H4 g4 nM iM pM=>?_);have g:=(g1.trans g2).trans g3;refine q M lm tm rm H4 (g.trans g4) (nM.tab,g.none nM.ft,λr L=>g.none (nM.fr r L),nM.nd,nM.nt) iM (λF _ O v=>?_) (A1,A2,bN,la1,la2,lj,iA1,iA2,pA1,pA2,redJ,pM);exact(pM F O v).trans (zhq Z i1 i2 pA1 pA2 redJ F O v)
inductive zdw:Sp
 | mk:∀(k:Int)(M:Tb)(n C:Nat)(t:Addr)(ras:List Addr),vs=[.int k,.ref t]->kab k->kac H M t ras->OkM k n M->M.length=n->kad C M->61<=C->(C+1)*2^(n+n)<=60000000->n<=30->((∀ R ls,(∀ F [bu F] (O:Kf k F),kap O (n+n) (kao k n M) R ls)->R.map (vS n)=kam k n))->(∀ R ls t' ras' H',Same H H'->NewT H H' (R.map (vz n)) t' ras'->(∀ F [bu F] (O:Kf k F),kap O (n+n) (kao k n M) R ls)->Q (.ref t') H')->zdw vs H Q E_
def qW(c7:61<=C)(hM:kad C M):kad C (augM M (kam k n)):=λr L=>by
 unfold augM at L;obtain⟨i,hi,e⟩:=wD L;rw[uD]at e;rw[← e];obtain⟨D,d0,dl,hd⟩:=hM _ (wk (n:=i) (by rw[vd]at hi;omega));refine(D,d0,dl,λx J=>?_)
 rcases wp.mp J with h|h
 ·exact hd x h
 ·have hu:=wk (l:=kam k n) (n:=i) (by rw[vd]at hi;omega);unfold kam at hu;obtain⟨j,_,ej⟩:=wj.mp hu;have hx':x∈kak k n j:=by rw[ej];exact h
  unfold kak at hx';obtain⟨q,_,rfl⟩:=wj.mp hx'
  by_cases c:j=q
  ·rw[bw c];exact dB.num (by show 1*D<=_;omega)
  ·rw[bx c];exact dB.num (by show 0*D<=_;omega)
def Zk{ys:List β}(h:Paired R xs ys) n:Paired R (xs.drop n) (ys.drop n):=by
 have hl:=zf h;refine jN (by rw[ue,ue,hl]) λi a b h1 h2=>?_
 rw[gk]at h1 h2;exact xw h h1 h2
def cutToF(N:Nat):cutV xs none (some (N:Int))=xs.take N:=by
 unfold cutV;rw[HT.Zp,wbo,waC,HT.jh]
 rcases wH N xs.length with h|h
 ·rw[gv ()]
 ·rw[Gy (),wm (ww _),wm h]
def cutFromF(N:Nat):cutV xs (some (N:Int)) none=xs.drop N:=by
 unfold cutV;rw[HT.Zp,HT.jh]
 rcases wH N xs.length with h|h
 ·rw[gv (),wm (by rw[ue];exact ww _)]
 ·rw[Gy (),gi (ww _),gi h,List.take_nil]
def zdA:KnI pg 36 46 zdw:=by
 exists 36,QC,xx,jr,zhg,[2],zo,yK,za4,[2],zo,yK
 obtain⟨k,M,n,C,t,ras,rfl,Z,hT,oM,lM,cM,c7,hc,n30,full,q⟩:=h;have szl:=se
 have lr:=zf hT.2;rw[lM]at lr;refine(Q,t,Q,.inl (SqL.of hT.1),?_);rw[wa,← lr];refine(Q,Q,k,n,V,(),λt1 r1 H1 g1 N1=>?_);have oU:=ze1 Z n;refine(Q,Q,Q,M,kam k n,n,n,t,t1,ras,r1,V,hT.mono g1,N1.tab,(by rw[lM,oU.len]),(λr L=>(oM r L).1),(λr L=>(oU.ok r L).1),(),(by rw[lM];omega),λt2 r2 H2 g2 N2=>?_);have oB:OkM k (n+n) (augM M (kam k n))/\(augM M (kam k n)).length=n:=ja Z oM lM;refine(k,augM M (kam k n),n+n,C,t2,r2,V,Z,N2.tab,oB.1,qW c7 cM,c7,hc,(),(by rw[oB.2];omega),λR ls t3 r3 H3 g3 N3 red lR=>?_);rw[oB.2]at lR;have g13:=(g1.trans g2).trans g3;have l3:=zf N3.tab.2;have U3:=N1.tab.mono (g2.trans g3);have oR:OkM k (n+n) R:=by
  obtain⟨F0,i0,d0,⟨φ0⟩⟩:=zw Z;exact(red F0 φ0).ok
 clear N1 N2 g1 g2 g3;refine(Q,t3,V,(_,SqL.of N3.tab.1),?_)
 let Pv1_:Nat->List V->Hp->Prop:=λi ys H'=>∃ ras2,ys=ras2.map V.ref/\Grow H3 H' ((R.map (vS n)).take i) ras2
 refine zq (xs:=r3.map V.ref) Pv1_ ([],V,Grow.nil H3 (Same.refl H3)) ?_ ?_ ?_
 ·rintro i ys H' hi ⟨ras2,rfl,G⟩
  refine(SqL.of (G.same _ _ N3.tab.1),?_);have:=zf G.rows;rw[wr,wa]at this;rw[wa];omega
 ·rintro i v ys H' hv hi ⟨ras2,rfl,G⟩
  obtain⟨row,a,J,ha,rfl,hrow⟩:=(N3.tab.mono G.same).row hv;obtain⟨us,hus,pus,lus⟩:=hrow.len
  symm
  refine(Q,Q,Q,a,Q,SqL.of hus,λp hp=>?_);rw[cutToF];refine nxt hi (ras2++[p],by rw[wv];rfl,?_);have e:(R.map (vS n))[i]?=some (row.take n):=by rw[wg,J];rfl
  rw[zh e];exact G.snoc hp (Zh pus n)
 rintro ys H4 ⟨ras2,rfl,G⟩ pl hpl
 rw[wa,wm (by rw[wa];omega)]at G;have N4:=G.done hpl;have g4:=G.same.trans (zc hpl (.lst (ras2.map V.ref)));generalize upd H4 pl (.lst (ras2.map V.ref))=H5 at *;have U5:=U3.mono g4;refine(Q,tabD _,tabD _,N4.tab.rp,U5.rp,jX _,jX _,wE (vX _ _) (wE (qt _) ()),Q,?_);rw[zdg];have eU:=full R ls red;rw[bF eU];refine iteF ?_;have T5:=N3.tab.mono g4;have lR2:R.length=n:=by have:=congrArg uV eU;rw[wa,(zW Z n).2]at this;exact this
 refine(Q,t3,V,(_,SqL.of T5.1),?_)
 let Pv2_:Nat->List V->Hp->Prop:=λi ys H'=>∃ ras2,ys=ras2.map V.ref/\Grow H5 H' ((R.map (vz n)).take i) ras2
 refine zq (xs:=r3.map V.ref) Pv2_ ([],V,Grow.nil H5 (Same.refl H5)) ?_ ?_ ?_
 ·rintro i ys H' hi ⟨ras2,rfl,G⟩
  refine(SqL.of (G.same _ _ T5.1),?_);have:=zf G.rows;rw[wr,wa]at this;rw[wa];omega
 ·rintro i v ys H' hv hi ⟨ras2,rfl,G⟩
  obtain⟨row,a,J,ha,rfl,hrow⟩:=(T5.mono G.same).row hv;obtain⟨us,hus,pus,lus⟩:=hrow.len
  symm
  refine(Q,Q,Q,a,Q,SqL.of hus,λp hp=>?_);rw[cutFromF];refine nxt hi (ras2++[p],by rw[wv];rfl,?_);have e:(R.map (vz n))[i]?=some (row.drop n):=by rw[wg,J];rfl
  rw[zh e];exact G.snoc hp (Zk pus n)
 rintro ys H6 ⟨ras3,rfl,G6⟩ pr hpr
 rw[wa,wm (by rw[wa];omega)]at G6;have N6:=G6.done hpr;have g:=g13.trans g4;exact q R ls pr ras3 _ (g.trans (G6.same.trans (zc hpr _))) (N6.tab,g.none N6.ft,λr L=>g.none (N6.fr r L),N6.nd,N6.nt) red
inductive Qo:Sp
 | mk:∀ k n g c W X t1 t2 r1 r2,vs=[.int k,.ref t1,.ref t2]->kab k->kac H W t1 r1->kac H X t2 r2->RdR k n W->OkM k n X->kad g W->kad g X->X.length<=100->n<=64->g<=c->61<=c->(c+1)*2^n<=60000000->((∀ bM,RdR k n bM->Gen k n g bM->kad c bM))->(∀ bP bM t rs H',Same H H'->kac H' bP t rs->PkI k n W X bP bM X.length->Q (.ref t) H')->Qo vs H Q E_
def ZY:KnI pg 69 47 Qo:=by
 exists 69,zo,xZ
 obtain⟨k,n,g,c,W,X,t1,t2,r1,r2,rfl,Z,T1,T2,rW,oX,cW,cX,lX,n64,gc,c7,hc,hG,q⟩:=h;have szl:=se
 have oW:OkM k n W:=by obtain⟨l,i⟩:=rW;exact(zE Z i).1
 have lr2:=zf T2.2;refine((),λpt hpt=>?_);have g0:=zc hpt (.lst []);have h0:upd H pt (.lst []) pt=some (.lst []):=zd;have n1:t1≠pt:=λe=>by rw[← e,T1.1]at hpt;cases hpt
 have n2:t2≠pt:=λe=>by rw[← e,T2.1]at hpt;cases hpt
 have m1:=xF T1 hpt;have m2:=xF T2 hpt;generalize upd H pt (.lst [])=H0 at *;refine(Q,?_);refine(Q,t2,V,(_,SqL.of (g0 _ _ T2.1)),?_)
 let Pv1_:Nat->L2.St->Hp->Prop:=λi E H'=>∃(bP bM:Tb)(re rz:List Addr)(pz:Addr)(o5 o6:Option V),E=[some (.int k),some (.ref t1),some (.ref t2),some (.ref pt),some (.ref pz),o5,o6]/\Same H H'/\kac H' bP pt re/\kac H' bM pz rz/\pz≠pt/\pt∉rz/\pt∉re/\bP.length<=i/\PkI k n W X bP bM i
 refine yn (xs:=r2.map V.ref) Pv1_ ([],W,[],r1,t1,none,none,V,g0,(h0,.nil),T1.mono g0,n1,m1,(λh=>nomatch h),ww _,PkI.start rW X) ?_ ?_ ?_
 ·rintro i E H' _ ⟨bP,bM,re,rz,pz,o5,o6,rfl,g',_⟩
  exact SqL.of (g' _ _ T2.1)
 ·rintro i v E H' hv ⟨bP,bM,re,rz,pz,o5,o6,rfl,g',hE,hZ,nz,mz,me,lE,I⟩
  obtain⟨row,a,hrow,ha,rfl,hR⟩:=(T2.mono g').row hv;have iX:i<X.length:=(wu.mp hrow).1;have orow:=oX row (we hrow);have oZ:OkM k n bM:=by obtain⟨l,j⟩:=I.rd;exact(zE Z j).1
  have lZ:bM.length<=n:=by obtain⟨l,j⟩:=I.rd;exact yf Z j
  refine(Q,Q,Q,(),λp1 hp1=>?_);have g1:=zc hp1 (.lst [.ref a]);have T3:kac (upd H' p1 (.lst [.ref a])) [row] p1 [a]:=(zd,.cons (hR.mono g1) .nil);generalize upd H' p1 (.lst [.ref a])=H1 at *;refine(k,bM,[row],n,c,pz,p1,rz,[a],V,Z,hZ.mono g1,T3,oZ,(λr L=>by rw[wx.mp L];exact orow),hG bM I.rd (I.gen oW oX cW cX),(λr L=>by rw[wx.mp L];exact(cX row (we hrow)).mono gc),c7,hc,n64,(),by show 1<=1000;decide,λR ls tr rr H2 g2 nR red=>?_);have g12:=g1.trans g2;have hZ2:=hZ.mono g12;have hE2:=hE.mono g12;have lrr:=zf nR.tab.2;have lrz:=zf hZ2.2;have fpt:H2 pt=some (.lst (re.map V.ref)):=hE2.1;have ntr:tr≠pt:=λe=>by rw[e]at nR;have:=g1 _ _ hE.1;rw[nR.ft]at this;cases this
  have mtr:pt∉rr:=λh=>by have:=nR.fr pt h;rw[g1 _ _ hE.1]at this;cases this
  refine(Q,tr,Q,.inl (SqL.of nR.tab.1),Q,pz,Q,.inl (SqL.of hZ2.1),_,Q,V,Q,?_);rw[wa,wa,← lrr,← lrz];refine ite2 (λd=>?_) (λd=>?_)
  ·have d':bM.length<R.length:=by have:=bG d;omega
   have na:a≠pt:=λe=>m2 (by rw[← e];exact we ha)
   have lre:=zf hE2.2;refine(Q,.inl (V,_,SqL.of fpt),Q,pt,_,Q,V,fpt,(by rw[wa];omega),?_);refine(Q,bP++[row],R,re++[a],rr,tr,_,Q,yp (g'.trans g12) hpt,(by rw[zd,wv];rfl,?_),nR.tab.upd ntr mtr fpt,ntr,mtr,λh=>?_,by rw[wy];show bP.length+1<=i+1;omega,I.more Z hrow red d')
   ·refine zJ (jN (zf hE2.2) λj x b h1 h2=>(xw hE2.2 h1 h2).upd (λe=>me (by rw[← e];exact we h2)) fpt) ((hR.mono g12).upd na fpt)
   ·rcases wp.mp h with h|h
    ·exact me h
    ·exact na (wx.mp h).symm
  ·have d':¬ bM.length<R.length:=λz=>d (bF ())
   exact(bP,bM,re,rz,pz,_,Q,g'.trans g12,hE2,hZ2,nz,mz,me,(),I.same Z hrow red d')
 ·rintro E H' ⟨bP,bM,re,rz,pz,o5,o6,rfl,g',hE,hZ,nz,mz,me,lE,I⟩
  rw[wa,← lr2]at I;exact(Q,q bP bM pt re H' g' hE I)
def mul8(h3:n<=3)(h:a<=b):a*2^n<=b*8:=vm h (pow8 h3)
def zi6(Z:kab k){A B:Tb}(n3:k=0->n<=3)(wA:TW k n n 14 A)(oB:OkM k n B)(wB:∀ r∈B,∀ x∈r,whk k 14 x):kad 62 (kry k A B n):=by
 by_cases k0:k=0
 ·intro r L;obtain⟨b,hb,i,hi,rfl⟩:=yB n r L;have ob:=oB b hb;have:=n3 k0;exact Yt () (zF Z wA.ok wA.len ob.2 ob.1 i).1 λy hy=>(Yi Z (λ_=>by omega) wA ob.2 ob.1 (wB b hb) i y hy).mono ()
 ·exact zV k0 (yq Z wA.ok wA.len oB n) ()
def Ji(Z:kab k){A B R:Tb}(n3:k=0->n<=3)(wA:TW k n n 14 A)(oB:OkM k n B)(wB:∀ r∈B,∀ x∈r,whk k 14 x)(bO:kan k n A B R):Gen k n 62 R:=(_,yq Z wA.ok wA.len oB n,zi6 Z n3 wA oB wB,bO.eq)
def qR(h:n<=3):capC n c=c:=bw h
def zaK(h:c<=d):capC n c<=capC n d:=by unfold capC;split <;> omega
inductive qQ:Sp
 | mk:∀ k A B C n h s pm ta tb tc ra rb rc,vs=[.int k,.ref pm]->kab k->kaj H A B C pm ta tb tc ra rb rc->(Fit k n/\n<=8)->MOk k n h s 80 A B C->(TW k n n 14 A/\TW k n h 14 B/\TW k s n 14 C)->1<=h->h<=100->1<=s->s<=100->(∀ R bO U M E1 E2 E3 p t0 t1 t2 t3 r0 r1 r2 r3 H',Same H H'->H' p=some (.lst [.ref t0,.ref t1,.ref t2,.ref t3])->(kac H' M t0 r0/\kac H' E1 t1 r1/\kac H' E2 t2 r2/\kac H' E3 t3 r3)->Part k n h A B C R bO U->RdR k n R->RdR k n U->Quad k n R U M E1 E2 E3->kad (capC n 36512) (M++E1++E2++E3)->(E1.length=n->∀ r∈M++E1++E2++E3,∀ x∈r,x=nnum k 0\/x=nnum k 1)->(E1.length+1=n->k=0->kad 1520 (M++E1++E2++E3))->Q (.ref p) H')->qQ vs H Q E_
def Jo:KnI pg 70 51 qQ:=by
 exists 70,zi,(zbC jK),(zej Xc),zic,ZY,xZ,QC,ZY,ZY
 obtain⟨k,A,B,C,n,h,s,pm,ta,tb,tc,ra,rb,rc,rfl,Z,hM,⟨hf,n8⟩,oM,⟨wA,wB,wC⟩,h1,h100,s1,s100,q⟩:=h;have szl:=se
 have n10:=hf.n10;have n1:=hf.1;have n3:k=0->n<=3:=λe=>by
  rcases hf.2 with h|h
  ·exact h
  ·exact bK e h.1
 have lra:=zf hM.a.2;rw[oM.a.len]at lra;have oBt:=(Zy oM.b).ok;have wAt:TW k n n 14 (kaa n A):=(ze n A,(Zy oM.a).ok,ye wA.ok wA.sz);refine(Q,pm,_,_,.ref ta,V,V,SqT.of hM.tup,V,ta,Q,.inl (SqL.of hM.a.1),?_);rw[wa,← lra];refine(Q,Q,k,A,B,C,n,h,s,pm,ta,tb,tc,ra,rb,rc,V,Z,hM,(hf,n8),oM,h1,h100,λR tR rR H1 g1 nR LR=>?_);have hM1:=hM.mono g1;refine(Q,Q,k,A,B,C,n,h,s,pm,ta,tb,tc,ra,rb,rc,V,Z,hM1,(hf,n8),oM,s1,s100,λbO U tU rU H2 g2 nU LL rdU pU=>?_);have TR:=nR.tab.mono g2;obtain⟨lr,iR⟩:=id LR.rd;obtain⟨lu,iU⟩:=id rdU;obtain⟨ll,iL⟩:=id LL.rd;have gR:=Ji Z n3 wA oBt (ye wB.ok wB.sz) LR;have gL:=Ji Z n3 wAt oM.c.ok wC.sz LL;have oR:=(zE Z iR).1;have oU:=(zE Z iU).1;have cL:n<=3->kad 504 bO:=λh3=>(jw Z iL () gL).mono (mul8 h3 (ww 63))
 have cR:kad (capC n 1520) R:=yx hf oR λh3=>(jw Z iR () gR).mono (wE (mul8 h3 (ww 63)) ())
 have b190:n<=3->(n *(62+1)+1)*2^n<=1520:=λh3=>mul8 h3 (show n *(62+1)+1<=190 by omega)
 have cU:kad (capC n 1520) U:=yx hf oU λh3=>(ZL Z n1 iL () gL iU pU).mono (b190 h3)
 have pR:∀ A1 la1,IsRa k n A1 la1->kaA k n A1 R->kad (capC n 1520) A1:=λA1 la1 i e=>yx hf (zE Z i).1 λh3=>(ZL Z n1 iR () gR i e).mono (b190 h3)
 have pU':∀ A1 la1,IsRa k n A1 la1->kaA k n A1 U->kad (capC n 1520) A1:=λA1 la1 i e=>yx hf (zE Z i).1 λh3=>by
  rw[zjq Z LL.rd (_,i) pU e];exact(cL h3).mono ()
 have gJ:∀ A1 A2 bN la1 la2 lj,IsRa k n A1 la1->IsRa k n A2 la2->kaA k n A1 R->kaA k n A2 U->(∀(F:Type) [bu F] (O:Kf k F),kap O n (A1++A2) bN lj)->n<=3->Gen k n 1520 bN:=λA1 A2 bN la1 la2 lj i1 i2 e1 e2 red h3=>by
  have c1:=pR A1 la1 i1 e1;have c2:=pU' A2 la2 i2 e2;rw[qR h3]at c1 c2;exact zd7 (zak (zE Z i1).1 c1) (zak (zE Z i2).1 c2) red
 refine(Q,Q,Q,Q,k,n,R,U,lr,lu,capC n 1520,capC n 1520,capC n 12168,tR,tU,rR,rU,V,Z,TR,nU.tab,iR,iU,cR,cU,cap7 (),cap7 (),cap7 (),n1,(),cap2 hf (),cap1 hf (),cap2 hf (),pR,pU',(λA1 A2 bN la1 la2 lj i1 i2 e1 e2 red=>yx hf (zE Z (yc red)).1 λh3=>(jw Z (yc red) () (gJ A1 A2 bN la1 la2 lj i1 i2 e1 e2 red h3)).mono (mul8 h3 (ww 1521))),λM lm tM rM H3 g3 nM iM metM ⟨A1,A2,J0,la1,la2,lj0,i1,i2,e1,e2,red0,pM⟩=>?_);have oMM:=(zE Z iM).1;have cM:kad (capC n 36512) M:=yx hf oMM λh3=>(ZL Z n1 (yc red0) () (gJ A1 A2 J0 la1 la2 lj0 i1 i2 e1 e2 red0 h3) iM pM).mono (mul8 h3 (show n *(1520+1)+1<=4564 by omega))
 clear gJ pR pU' i1 i2 e1 e2 red0 pM b190 cL;have up:capC n 1520<=capC n 36512:=zaK ();have lR:=yf Z iR;have lU:=yf Z iU;have TR3:=TR.mono g3;have TU3:=nU.tab.mono g3;refine(Q,Q,Q,Q,k,R,U,n,capC n 1520,tR,tU,rR,rU,V,Z,TR3,TU3,oR,oU,cR,cU,cap7 (),cap1 hf (),(),(),(),λbN lj tJ rJ H4 g4 nJ redJ=>?_);have iJ:=yc redJ;have oJ:=(zE Z iJ).1;have cJ:kad (capC n 36512) bN:=yx hf oJ λh3=>by
  rw[qR h3]at cR cU;exact(jw Z iJ () (zd7 (zak oR cR) (zak oU cU) redJ)).mono (wE (mul8 h3 (ww 1521)) ())
 have hG:∀ bM,RdR k n bM->Gen k n (capC n 36512) bM->kad (capC n 292104) bM:=λbM ⟨lz,iz⟩ gz=>yx hf (zE Z iz).1 λh3=>by
  rw[qR h3]at gz;exact(jw Z iz () gz).mono (mul8 h3 (ww 36513))
 have c292:capC n 36512<=capC n 292104:=zaK ();refine(Q,Q,k,n,V,(),λtI rI H5 g5 nI=>?_);obtain⟨oI,lI⟩:=zW Z n;have cI:kad (capC n 36512) (kam k n):=qK (cap7 ());refine(k,n,capC n 36512,capC n 292104,bN,kam k n,tJ,tI,rJ,rI,V,Z,nJ.tab.mono g5,nI.tab,(lj,iJ),oI,cJ,cI,(),(),c292,cap7 (),cap1 hf (),hG,λE3 V3 t3 r3 H6 g6 T3 pk3=>?_);rw[lI]at pk3;have g36:=(g4.trans g5).trans g6;have TM6:=nM.tab.mono g36;have TR6:=TR3.mono g36;have TU6:=TU3.mono g36;refine(Q,Q,Q,Q,k,n,capC n 36512,capC n 292104,M,R,tM,tR,rM,rR,V,Z,TM6,TR6,(lm,iM),oR,cM,cR.mono up,(),(),c292,cap7 (),cap1 hf (),hG,λE1 V1 t1 r1 H7 g7 T1 pk1=>?_);refine(Q,Q,Q,k,n,capC n 36512,capC n 292104,M,U,tM,tU,rM,rU,V,Z,TM6.mono g7,TU6.mono g7,(lm,iM),oU,cM,cU.mono up,(),(),c292,cap7 (),cap1 hf (),hG,λE2 V2 t2 r2 H8 g8 T2 pk2=>?_);refine(Q,(),λp hp=>?_);have g9:=zc hp (.lst [.ref tM,.ref t1,.ref t2,.ref t3]);have g78:=g7.trans g8;have Qd:=zgo Z LR.rd rdU (lm,iM) (lj,iJ) metM (Zj redJ) pk1 pk2 pk3;refine q R bO U M E1 E2 E3 p tM t1 t2 t3 rM r1 r2 r3 _ (((((g1.trans g2).trans g3).trans g36).trans g78).trans g9) zd ((TM6.mono g78).mono g9,(T1.mono g8).mono g9,T2.mono g9,(T3.mono g78).mono g9) (n1,oM.a.ok,oM.a.len,oM.b.ok,oM.b.len,oM.c.ok,LR,LL,pU) LR.rd rdU Qd (λr L=>?_) (λe1n r L x J=>?_) λe1 k0=>?_
 ·rcases wp.mp L with h|h
  ·rcases wp.mp h with h|h
   ·rcases wp.mp h with h|h
    ·exact cM r h
    ·exact(cR r (pk1.sub r h)).mono up
   ·exact(cU r (pk2.sub r h)).mono up
  ·exact cI r (pk3.sub r h)
 ·have len:=Qd.len;have zM:M=[]:=vB ();have z2:E2=[]:=vB ();have z3:E3=[]:=vB ();rw[zM,z2,z3,wam,vW,vW]at L;have lRn:R.length=n:=by
   have:=(jT Z LR.rd (λF _ O v h=>((metM F O v).mp h).1) pk1).2;omega
  have eR:R=kam k n:=Yl Z LR.rd (_,λF _ O=>yQ O Z n) λF _ O v=>(λhv=>jc Z O v λj hj=>(iR F O).supp hv j hj,((iR F O).sub_len (yQ O Z n) λv hv=>jc Z O v λj hj=>(iR F O).supp hv j hj).2 (by rw[lI,lRn];exact ww _) v)
  have hu:=pk1.sub r L;rw[eR]at hu;unfold kam at hu;obtain⟨j,_,rfl⟩:=wj.mp hu;unfold kak at J;obtain⟨q,_,rfl⟩:=wj.mp J
  by_cases c:j=q
  ·rw[bw c];exact .inr rfl
  ·rw[bx c];exact .inl rfl
 ·have h3:=n3 k0;have len:=Qd.len;rw[qR h3]at cR cU;have cM':kad 1520 M:=by
   rcases gm M.length with z|z
   ·rw[vB z];intro r L;cases L
   have uU:=(jT Z rdU (λF _ O v h=>((metM F O v).mp h).2) pk2).2;have eM:M=U:=Yl Z (lm,iM) rdU λF _ O v=>(λhv=>((metM F O v).mp hv).2,((iM F O).sub_len (iU F O) λv hv=>((metM F O v).mp hv).2).2 () v)
   rw[eM];exact cU
  intro r L
  rcases wp.mp L with h|h
  ·rcases wp.mp h with h|h
   ·rcases wp.mp h with h|h
    ·exact cM' r h
    ·exact cR r (pk1.sub r h)
   ·exact cU r (pk2.sub r h)
  ·exact(qK (k:=k) (n:=n) (ww 61) r (pk3.sub r h)).mono ()
def Xa(h:∀ r∈M,∀ x∈r,x=nnum k 0\/x=nnum k 1):kad 61 M:=λr L=>by
 have p2:2^61=2305843009213693952:=by decide
 refine(1,by decide,by rw[p2];omega,λx J=>?_)
 rcases h r L x J with e|e
 ·rw[e];exact dB.num (by rw[p2];show 0*1<=_;omega)
 ·rw[e];exact dB.num (by rw[p2];show 1*1<=_;omega)
inductive YH:Sp
 | mk:∀ k A B C n h s pm ta tb tc ra rb rc,vs=[.int k,.ref pm]->kab k->kaj H A B C pm ta tb tc ra rb rc->Fit k n->n<=5->MOk k n h s 80 A B C->(TW k n n 14 A/\TW k n h 14 B/\TW k s n 14 C)->1<=h->h<=100->1<=s->s<=100->(∀ R bO U X S (a b c d zx zs:Nat) p tT tS tz rT rS H',Same H H'->H' p=some (.tup [.ref tT,.ref tS,.ref tz])->H' tz=some (.tup ([(a:Int),(b:Int),(c:Int),(d:Int)].map V.int))->kac H' (kaa n X) tT rT->kac H' S tS rS->Part k n h A B C R bO U->(RdR k n R/\RdR k n U)->(OkM k n X/\X.length=n)->(OkM k n S/\S.length=n)->(PairU k n S (kaa n X)/\PairU k n (kaa n X) S)->PlF k n R U X S (plc a b c d)->a+b+c+d=n->((k=0->kad zx X)/\(k=0->kad zs S)/\((b+2<=n/\zx=36512/\zs=1168392)\/(b+1=n/\zx=1520/\zs=48648)\/(b=n/\zx=61/\zs=496)))->Q (.ref p) H')->YH vs H Q E_
def zdd(hl:∀ r∈M,r.length=c)(h:∀ r∈M,∀ x∈r,nsm m x):∀ r∈kaa c M,∀ x∈r,nsm m x:=λr L x J=>by
 unfold kaa at L;obtain⟨j,hj,rfl⟩:=wj.mp L;obtain⟨q,hq,rfl⟩:=wj.mp J;have:=hl q hq;rw[wP]at hj;rw[wc,wb ()];exact h q hq _ (wk _)
def ZC(Z:kab k)(hf:Fit k n)(oM:OkM k n M)(lM:M.length=n)(c7:61<=C)(cM:kad C M)(c1:n<=3->(C+1)*8<=z)(red:∀ F [bu F] (O:Kf k F),kap O (n+n) (kao k n M) R ls)(lR:R.length=n):k=0->kad z (R.map (vz n)):=λk0 r L=>by
 have h3:n<=3:=by
  rcases hf.2 with h|h
  ·exact h
  ·exact bK k0 h.1
 obtain⟨y,hy,rfl⟩:=wj.mp L;have b:=Yb Z c7 (ja Z oM lM).1 (qW c7 cM) red;have le:(C+1)*2^R.length<=z:=by
  rw[lR];exact wE (mul8 h3 (ww _)) (c1 h3)
 obtain⟨D,d0,dl,hd⟩:=(b.mono le) y hy;exact(D,d0,dl,λx J=>hd x (gD J))
def zbN:KnI pg 71 52 YH:=by
 exists 71,Jo,yb,qh,qh,qh,zj,zj,zj,zj,zdA,[],zo
 obtain⟨k,A,B,C,n,h,s,pm,ta,tb,tc,ra,rb,rc,rfl,Z,hM,hf,n5,oM,wM,h1,h100,s1,s100,q⟩:=h;have szl:=se
 have n1:=hf.1;refine(Q,Q,k,A,B,C,n,h,s,pm,ta,tb,tc,ra,rb,rc,V,Z,hM,(hf,()),oM,wM,h1,h100,s1,s100,λR bO U M E1 E2 E3 pf t0 t1 t2 t3 r0 r1 r2 r3 H1 g1 hpf ⟨T0,T1,T2,T3⟩ Pt rdR rdU Qd cX cX1 cX2=>?_);have len:=Qd.len;have l0:=zf T0.2;have l1:=zf T1.2;have l2:=zf T2.2;have l3:=zf T3.2;refine(Q,pf,_,_,.ref t0,V,V,SqL.of hpf,V,Q,pf,_,_,.ref t1,V,V,SqL.of hpf,V,t0,t1,_,Q,V,T0.1,T1.1,(by rw[wa,wa];omega),λp1 hp1=>?_);have g2:=zc hp1 (.lst (r0.map V.ref++r1.map V.ref));have X1:kac (upd H1 p1 (.lst (r0.map V.ref++r1.map V.ref))) (M++E1) p1 (r0++r1):=(by rw[zd,wv],xV (T0.mono g2).2 (T1.mono g2).2);have T2':=T2.mono g2;have T3':=T3.mono g2;have hpf2:=g2 _ _ hpf;have g12:=g1.trans g2;generalize upd H1 p1 (.lst (r0.map V.ref++r1.map V.ref))=H2 at *;refine(Q,pf,_,_,.ref t2,V,V,SqL.of hpf2,V,p1,t2,_,Q,V,X1.1,T2'.1,(by rw[wa,wa,wy];omega),λp2 hp2=>?_);have g3:=zc hp2 (.lst ((r0++r1).map V.ref++r2.map V.ref));have X2:kac (upd H2 p2 (.lst ((r0++r1).map V.ref++r2.map V.ref))) (M++E1++E2) p2 (r0++r1++r2):=(by rw[zd,wv (l₁:=r0++r1)],xV (X1.mono g3).2 (T2'.mono g3).2);have T3'':=T3'.mono g3;have hpf3:=g3 _ _ hpf2;have g13:=g12.trans g3;generalize upd H2 p2 (.lst ((r0++r1).map V.ref++r2.map V.ref))=H3 at *;refine(Q,pf,_,_,.ref t3,V,V,SqL.of hpf3,V,p2,t3,_,Q,V,X2.1,T3''.1,(by rw[wa,wa,wy,wy];omega),λp3 hp3=>?_);have g4:=zc hp3 (.lst ((r0++r1++r2).map V.ref++r3.map V.ref));have X3:kac (upd H3 p3 (.lst ((r0++r1++r2).map V.ref++r3.map V.ref))) (M++E1++E2++E3) p3 (r0++r1++r2++r3):=(by rw[zd,wv (l₁:=r0++r1++r2)],xV (X2.mono g4).2 (T3''.mono g4).2);have hpf4:=g4 _ _ hpf3;have g14:=g13.trans g4;have T0':=((T0.mono g2).mono g3).mono g4;have T1':=((T1.mono g2).mono g3).mono g4;have T2'':=(T2'.mono g3).mono g4;have T3t:=T3''.mono g4;generalize upd H3 p3 (.lst ((r0++r1++r2).map V.ref++r3.map V.ref))=H4 at *;clear X1 X2 T2' T3' T3'' hpf hpf2 hpf3 g2 g3 g4 g12 g13 T0 T1 T2 T3;have lX:(M++E1++E2++E3).length=n:=by rw[wy,wy,wy];exact len
 have oX:=Qd.ok;refine(M++E1++E2++E3,n,p3,Q,X3,(λe=>by rw[e]at lX;simp at lX;omega),(λr L=>(oX r L).1),(),(),λtT rT H5 g5 nT=>?_);have oT:OkM k n (kaa n (M++E1++E2++E3)):=by have:=zg oX;rw[lX]at this;exact this
 have lT:=ze n (M++E1++E2++E3);have c7:61<=capC n 146048:=cap7 ();have cT:kad (capC n 146048) (kaa n (M++E1++E2++E3)):=yx hf oT λh3=>by
  rw[qR h3]at cX;have sT:=zdd (λr L=>(oX r L).1) (je Z oX cX ());exact(xU () (k:=k) (r:=n) (n:=n) (m:=36512) (lT,oT,sT)).mono (wE (wI 36512 (show n+1<=4 by omega)) ())
 have hc:(capC n 146048+1)*2^(n+n)<=60000000:=by
  rcases wH 3 n with h|h
  ·have e:capC n 146048=61:=bx ();rw[e];exact wE (wS _ (vh () (show n+n<=10 by omega))) ()
  ·rw[qR h];exact wE (wS _ (vh () (show n+n<=6 by omega))) ()
 refine(Q,Q,Q,k,kaa n (M++E1++E2++E3),n,capC n 146048,tT,rT,V,Z,nT.tab,oT,lT,cT,c7,hc,(),(λR' ls' red=>jE Z oX lX Qd.all red),λR' ls' tS rS H6 g6 nS red=>?_);have hU:=jE Z oX lX Qd.all red;obtain⟨F0,i0,d0,⟨φ0⟩⟩:=zw Z;obtain⟨oS,lR'⟩:=QY Z (red F0 φ0) hU;have lS:(R'.map (vz n)).length=n:=by rw[wa];exact lR'
 have pr:=(JB Z oT lT red hU).2;have rp:=(JB Z oT lT red hU).1;have sS:=ZC Z hf oT lT c7 cT (z:=1168392) (λh3=>by rw[qR h3];decide) red lR';have g46:=g5.trans g6;have four:∀(i:Nat)(v:V),([V.ref t0,V.ref t1,V.ref t2,V.ref t3]:List V)[i]?=some v->∃(W:Tb)(t:Addr)(rs:List Addr),v=.ref t/\kac H6 W t rs/\([M.length,E1.length,E2.length,E3.length]:List Nat)[i]?=some W.length:=λi v hv=>by
  match i,hv with
  | 0,hv=>exact(M,t0,r0,(Option.some.inj hv).symm,T0'.mono g46,V)
  | 1,hv=>exact(E1,t1,r1,(Option.some.inj hv).symm,T1'.mono g46,V)
  | 2,hv=>exact(E2,t2,r2,(Option.some.inj hv).symm,T2''.mono g46,V)
  | 3,hv=>exact(E3,t3,r3,(Option.some.inj hv).symm,T3t.mono g46,V)
  | i+4,hv=>exact bK hv (by simp)
 have hpf6:=g46 _ _ hpf4;refine(Q,pf,V,(_,SqL.of hpf6),?_)
 let Pv1_:Nat->List V->Hp->Prop:=λi ys H'=>Same H6 H'/\ys=natV (([M.length,E1.length,E2.length,E3.length]:List Nat).take i)
 refine zq (xs:=[V.ref t0,V.ref t1,V.ref t2,V.ref t3]) Pv1_ (Same.refl _,V) ?_ ?_ ?_
 ·rintro i ys H' hi ⟨g,rfl⟩
  refine(SqL.of (g _ _ hpf6),?_);unfold natV;rw[wa,wr];exact uu (GZ _ _) (by show 4<sizeLine;decide)
 ·rintro i v ys H' hv hi ⟨g,rfl⟩
  obtain⟨W,t,rs,rfl,hW,eW⟩:=four i v hv;have hW':=hW.mono g;have lW:=zf hW'.2
  symm
  refine(Q,t,Q,.inl (SqL.of hW'.1),nxt hi (g,?_));rw[zh eW,wa,← lW];unfold natV;rw[wv];rfl
 rintro ys H7 ⟨g7,rfl⟩ pl hpl
 have g8:=zc hpl (.lst (natV (([M.length,E1.length,E2.length,E3.length]:List Nat).take ([V.ref t0,V.ref t1,V.ref t2,V.ref t3]:List V).length)));refine(pl,Q,.inl (SqL.of zd,λtz htz=>?_));have g9:=zc htz (.tup (natV (([M.length,E1.length,E2.length,E3.length]:List Nat).take ([V.ref t0,V.ref t1,V.ref t2,V.ref t3]:List V).length)));refine((),λp hp=>?_);have g10:=zc hp (.tup [.ref tT,.ref tS,.ref tz]);have g610:=((g7.trans g8).trans g9).trans g10
 by_cases bn:E1.length=n
 ·have c61:=Xa (cX1 bn);have cT1:kad 61 (kaa n (M++E1++E2++E3)):=Xa (k:=k) λr L x J=>by
   unfold kaa at L;obtain⟨j,hj,rfl⟩:=wj.mp L;obtain⟨q,hq,rfl⟩:=wj.mp J;have:=(oX q hq).1;rw[wP]at hj;rw[wc,wb ()];exact cX1 bn q hq _ (wk _)
  refine q R bO U (M++E1++E2++E3) (R'.map (vz n)) M.length E1.length E2.length E3.length 61 496 p tT tS tz rT rS _ ((g14.trans g46).trans g610) zd (g10 _ _ zd) ((nT.tab.mono g6).mono g610) (nS.tab.mono g610) Pt (rdR,rdU) (oX,lX) (oS,lS) (pr,rp) (zdf Qd lS pr) len (λ_=>c61,ZC Z hf oT lT () cT1 (λ_=>by decide) red lR',.inr (.inr (bn,V,V)))
 by_cases bm:E1.length+1=n
 ·refine q R bO U (M++E1++E2++E3) (R'.map (vz n)) M.length E1.length E2.length E3.length 1520 48648 p tT tS tz rT rS _ ((g14.trans g46).trans g610) zd (g10 _ _ zd) ((nT.tab.mono g6).mono g610) (nS.tab.mono g610) Pt (rdR,rdU) (oX,lX) (oS,lS) (pr,rp) (zdf Qd lS pr) len (λk0=>cX2 bm k0,λk0=>?_,.inr (.inl (bm,V,V)));have h3:n<=3:=by
   rcases hf.2 with h|h
   ·exact h
   ·exact bK k0 h.1
  have sT:=zdd (λr L=>(oX r L).1) (je Z oX (cX2 bm k0) ());have cT1:kad 6080 (kaa n (M++E1++E2++E3)):=(xU () (k:=k) (r:=n) (n:=n) (m:=1520) (lT,oT,sT)).mono (wE (wI 1520 (show n+1<=4 by omega)) ());exact ZC Z hf oT lT () cT1 (λ_=>by decide) red lR' k0
 ·refine q R bO U (M++E1++E2++E3) (R'.map (vz n)) M.length E1.length E2.length E3.length 36512 1168392 p tT tS tz rT rS _ ((g14.trans g46).trans g610) zd (g10 _ _ zd) ((nT.tab.mono g6).mono g610) (nS.tab.mono g610) Pt (rdR,rdU) (oX,lX) (oS,lS) (pr,rp) (zdf Qd lS pr) len (λk0=>?_,sS,.inl ((),V,V));have h3:n<=3:=by
   rcases hf.2 with h|h
   ·exact h
   ·exact bK k0 h.1
  rw[qR h3]at cX;exact cX
inductive YS:Sp
 | mk:∀ k M N b c m t1 t2 r1 r2,vs=[.int k,.ref t1,.ref t2]->kab k->kac H M t1 r1->kac H N t2 r2->OkM k b M->OkM k c N->N.length=b->0<b->szM m M->szM m N->61<=m->(b+2)*m<=20000000->c<sizeLine->M.length<sizeLine->(∀ t ras H',Same H H'->NewT H H' (kaf k c M N) t ras->Q (.ref t) H')->YS vs H Q E_
def yS:KnI pg 28 45 YS:=by
 exists 28,[0],zo,yb,(Jw xy),zo,(Jw xy),[0,6],zo,zgg
 obtain⟨k,M,N,b,c,m,t1,t2,r1,r2,rfl,Z,hM,hN,oM,oN,lN,b0,sM,sN,m7,hsz,cz,mz,q⟩:=h;obtain⟨z1,z2,z3,z4⟩:=zgd m7 hsz;have oT:=zg oN;rw[lN]at oT;have sT:=zbV oN sN;refine(Q,N,c,t2,r2,V,hN,(λe=>by rw[e]at lN;simp at lN;omega),(λr L=>(oN r L).1),cz,(),λtt rt H1 g1 nT=>?_);refine(tt,V,(_,SqL.of nT.tab.1),?_);have tl:=zf nT.tab.2;rw[ze]at tl
 let Pv1_:Nat->List V->Hp->Prop:=λi ys H'=>∃ ps,ys=ps.map V.ref/\Same H1 H'/\Paired (λxs p=>SclAt H' k ((b+2)*m) xs p) ((kaa c N).take i) ps
 refine zq (xs:=rt.map V.ref) Pv1_ ([],V,Same.refl _,.nil) ?_ ?_ ?_
 ·rintro i ys H' hi ⟨ps,rfl,g,pr⟩
  refine(SqL.of (g _ _ nT.tab.1),?_);have:=zf pr;rw[wr,ze]at this;rw[wa];omega
 ·rintro i v ys H' hv hi ⟨ps,rfl,g,pr⟩
  obtain⟨xs,a,J,ha,rfl,hrow⟩:=(nT.tab.mono g).row hv;obtain⟨lx,ox⟩:=oT xs (we J)
  symm
  refine(Q,Q,k,xs,a,m,V,Z,hrow,ox,sT xs (we J),m7,by rw[lx];exact z4,λp H2 g2 sc=>?_);rw[lx]at sc;refine nxt hi (ps++[p],by rw[wv];rfl,g.trans g2,?_);rw[zh J];exact zJ (yC (λ_ _ r=>r.mono g2) pr) sc
 ·rintro ys H' ⟨ps,rfl,g,pr⟩ pc hpc
  rw[wa,wm (by rw[ze];omega)]at pr;have pcl:=zf pr;rw[ze]at pcl;have gq:Same H (upd H' pc (.lst (ps.map V.ref))):=(g1.trans g).trans (zc hpc _);have prq:Paired (λxs p=>SclAt (upd H' pc (.lst (ps.map V.ref))) k ((b+2)*m) xs p) (kaa c N) ps:=yC (λ_ _ r=>r.mono (zc hpc _)) pr;have hpq:upd H' pc (.lst (ps.map V.ref)) pc=some (.lst (ps.map V.ref)):=zd;generalize upd H' pc (.lst (ps.map V.ref))=Hq at *;refine((),λpt hpt=>?_);refine(Q,t1,V,(_,SqL.of (zc hpt _ _ _ (gq _ _ hM.1))),?_)
  let Pv2_:Nat->L2.St->Hp->Prop:=λi E H4=>∃ ras o5 o6,E=[some (.int k),some (.ref t1),some (.ref t2),some (.ref pc),some (.ref pt),o5,o6]/\Grow Hq H4 ((kaf k c M N).take i) ras/\H4 pt=some (.lst (ras.map V.ref))/\pt∉ras
  refine yn (xs:=r1.map V.ref) Pv2_ ([],none,none,V,Grow.nil Hq (zc hpt _),zd,by simp) ?_ ?_ ?_
  ·rintro i E H4 _ ⟨ras,o5,o6,rfl,G,_⟩
   exact SqL.of (G.same _ _ (gq _ _ hM.1))
  ·rintro i v E H4 hv ⟨ras,o5,o6,rfl,G,hpt4,npt4⟩
   obtain⟨xs,a,J,ha,rfl,hrow⟩:=(hM.mono (gq.trans G.same)).row hv;obtain⟨lx,ox⟩:=oM xs (we J);refine(Q,Q,k,xs,a,m,V,Z,hrow,ox,sM xs (we J),m7,by rw[lx];exact z4,λp H5 g5 sc=>?_);rw[lx]at sc;have gq5:=G.same.trans g5;refine(Q,.inl (V,_,SqL.of (g5 _ _ hpt4)),Q,pc,V,(_,SqL.of (gq5 _ _ hpq)),?_)
   let Pv3_:Nat->List V->Hp->Prop:=λj ys' H6=>Same H5 H6/\Paired (RN H6) (((kaa c N).map λcol=>ndot k xs col).take j) ys'
   refine zq (xs:=ps.map V.ref) Pv3_ (Same.refl _,.nil) ?_ ?_ ?_
   ·rintro j ys' H6 hj ⟨g6,pr6⟩
    refine(SqL.of (g6 _ _ (gq5 _ _ hpq)),?_);have:=zf pr6;rw[wr,wa,ze]at this;omega
   ·rintro j v ys' H6 hv' hj ⟨g6,pr6⟩
    rw[wg]at hv';obtain⟨pj,hpj,rfl⟩:=wG.mp hv';obtain⟨col,hcol,scj⟩:=zK prq hpj;obtain⟨lc,oc⟩:=oT col (we hcol)
    symm
    refine(Q,Q,Q,k,xs,col,p,pj,(b+2)*m,V,Z,sc.mono g6,scj.mono (gq5.trans g6),ox,oc,by rw[lx,lc],z2,by rw[lx];exact z1,by rw[lx];exact z3,λv7 H7 g7 r7=>?_);refine nxt hj (g6.trans g7,?_);have e:((kaa c N).map λcol=>ndot k xs col)[j]?=some (ndot k xs col):=by rw[wg,hcol];rfl
    rw[zh e];exact zJ (xT g7 pr6) r7
   ·rintro ys' H6 ⟨g6,pr6⟩ pn hpn
    rw[wa,wm (by rw[wa,ze];omega)]at pr6;have g46:=g5.trans g6;have npn:pt≠pn:=λe=>by rw[← e,g46 _ _ hpt4]at hpn;cases hpn
    refine(pt,_,Q,V,(by rw[zy npn];exact g46 _ _ hpt4),?_,?_)
    ·have e1:=zf G.rows;rw[wr]at e1;have e2:=(wu.mp ha).1;have e3:=zf hM.2;rw[wa];omega
    obtain⟨G2,nm2⟩:=G.push (zs':=(ras.map V.ref)++[.ref pn]) hpt hpt4 npt4 g46 hpn pr6;refine(ras++[pn],_,Q,?_,?_,nm2)
    ·have e:(kaf k c M N)[i]?=some ((kaa c N).map λcol=>ndot k xs col):=by unfold kaf;rw[wg,J];rfl
     rw[zh e];exact G2
    ·rw[zd,wv];rfl
  ·rintro E H4 ⟨ras,o5,o6,rfl,G,hpt4,npt4⟩
   rw[wa,wm (by unfold kaf;rw[wa];have:=zf hM.2;omega)]at G;exact(Q,q pt ras H4 (gq.trans G.same) ((hpt4,G.rows),gq.none hpt,λr L=>gq.none (G.fr r L),G.nd,npt4))
def zhn(Z:kab k)(n4:k=0->n<=4)(ox:OkR k x)(oy:OkR k y)(lx:x.length=n)(J:k=0->rowB a x)(hy:k=0->rowB b y)(hm:a+b+2<=m):szk k m (ndot k x y):=λk0=>by
 have q:=zbi (k:=k) (n:=n) (T:=a) (C:=b) (A:=[x]) (D:=(J k0).choose) Z (n4 k0) (λr L=>by rw[wx.mp L];exact(lx,ox)) (J k0).choose_spec.1 (J k0).choose_spec.2.1 (λr L=>by rw[wx.mp L];exact(J k0).choose_spec.2.2) oy (hy k0);have o:=zN Z ox oy;obtain⟨D,d0,dl,hd⟩:=q;have h1:=hd (ndot k x y) (by unfold imgM;exact wj.mpr (x,wo,V));have p1:2^(a+b+2)<=2^m:=vh () hm
 revert h1 o
 generalize ndot k x y=z;intro o h1;cases z with
 | z i=>exact bK k0 o.1
 | q r =>
  obtain⟨e1,e2⟩:=dB.parts d0 h1;have hD:r.den<2^m:=by omega
  have hN:r.num.natAbs<2^m:=by have:=ud (a+b+2);omega
  exact(hN,by unfold Sm;omega)
def Qx(m1:1<=m)(ox:OkR k x)(h:∀ y∈x,whk k m y):k=0->rowB m x:=λ_=>Yt m1 ox h
inductive zcV:Sp
 | mk:∀ k A B C X S n h s b pm ta tb tc tT tS ra rb rc rT rS,vs=[.int k,.ref pm,.ref tT,.ref tS]->kab k->kaj H A B C pm ta tb tc ra rb rc->kac H (kaa n X) tT rT->kac H S tS rS->((k=0->n<=3))->n<=5->MOk k n h s 80 A B C->(TW k n n 14 A/\TW k n h 14 B/\TW k s n 14 C)->1<=h->h<=10->s<=10->(OkM k n X/\X.length=b)->(OkM k n S/\S.length=b)->1<=b->b<=n->((∀ r∈X,k=0->rowB 36512 r))->((∀ r∈S,k=0->rowB 1168392 r))->(∀ p ua ub uc ra' rb' rc' H',Same H H'->kaj H' (kaf k b (kaf k n S A) (kaa n X)) (kaf k h S B) (kaf k b C (kaa n X)) p ua ub uc ra' rb' rc'->kai H H' [kaf k b (kaf k n S A) (kaa n X),kaf k h S B,kaf k b C (kaa n X)] [ua,ub,uc] [ra',rb',rc']->Q (.ref p) H')->zcV vs H Q E_
def zat(Z:kab k)(oM:OkM k n M)(h:∀ r∈M,k=0->rowB m r)(m7:61<=m):szM m M:=λr L x J=>by
 by_cases k0:k=0
 ·exact qp Z (oM r L).2 (h r L k0) m7 x J
 ·exact(XR Z k0 ((oM r L).2 x J)).mono m7
def zgE:KnI pg 41 46 zcV:=by
 exists 41,yS,yS,zi,yS,zi,yS,zi
 obtain⟨k,A,B,C,X,S,n,h,s,b,pm,ta,tb,tc,tT,tS,ra,rb,rc,rT,rS,rfl,Z,hM,hT,hS',n3,n5,oM,⟨wA,wB,wC⟩,h1,h10,s10,⟨oX,lX⟩,⟨oS,lS⟩,b1,bn,sX,sS,q⟩:=h;have szl:=se
 have oT:OkM k b (kaa n X):=by have:=zg oX;rw[lX]at this;exact this
 have lT:=ze n X;have zX:=zat Z oX sX ();have zS:=zat Z oS sS ();have zT:szM 36512 (kaa n X):=zdd (λr L=>(oX r L).1) zX;have up:∀ {m m':Nat} {M:Tb},szM m M->m<=m'->szM m' M:=λh hm r L x J=>(h r L x J).mono hm
 have zA:szM 1168392 A:=up oM.a.sz ();have zB:szM 1168392 B:=up oM.b.sz ();have zC:szM 36512 C:=up oM.c.sz ();have m5:(n+2)*1168392<=20000000:=wE (wI _ (show n+2<=7 by omega)) ();have m6:(n+2)*36512<=20000000:=wE (wI _ (show n+2<=7 by omega)) ();refine(Q,Q,Q,Q,pm,_,_,Q,V,SqT.of hM.tup,V,k,S,A,n,n,1168392,tS,ta,rS,ra,V,Z,hS',hM.a,oS,oM.a.ok,oM.a.len,(),zS,zA,(),m5,(),(),λt1 r1 H1 g1 N1=>?_);have o1:=xm Z (c:=n) oS oM.a.ok;have l1:(kaf k n S A).length=b:=o1.1.trans lS;have z1:szM 1168408 (kaf k n S A):=λr L x J=>by
  by_cases k0:k=0
  ·unfold kaf at L;obtain⟨u,hu,rfl⟩:=wj.mp L;obtain⟨c,hc,rfl⟩:=wj.mp J;have ou:=oS u hu;have oc:=zg oM.a.ok c hc;rw[oM.a.len]at oc;exact zhn Z (λe=>by have:=n3 e;omega) ou.2 oc.2 ou.1 (sS u hu) (Qx (m:=14) () oc.2 (ye wA.ok wA.sz c hc)) () k0
  ·exact(XR Z k0 ((o1.2 r L).2 x J)).mono ()
 have m7:(n+2)*1168408<=20000000:=wE (wI _ (show n+2<=7 by omega)) ();refine(Q,k,kaf k n S A,kaa n X,n,b,1168408,t1,tT,r1,rT,V,Z,N1.tab,hT.mono g1,o1.2,oT,lT,(),z1,up zT (),(),m7,(),(),λt2 r2 H2 g2 N2=>?_);have g12:=g1.trans g2;have hM2:=hM.mono g12;refine(Q,Q,Q,Q,pm,_,_,Q,V,SqT.of hM2.tup,V,k,S,B,n,h,1168392,tS,tb,rS,rb,V,Z,hS'.mono g12,hM2.b,oS,oM.b.ok,oM.b.len,(),zS,zB,(),m5,(),(),λt3 r3 H3 g3 N3=>?_);have hM3:=hM2.mono g3;refine(Q,Q,pm,_,_,Q,V,SqT.of hM3.tup,V,Q,k,C,kaa n X,n,b,36512,tc,tT,rc,rT,V,Z,hM3.c,(hT.mono g12).mono g3,oM.c.ok,oT,lT,(),zC,zT,(),m6,(),(by rw[oM.c.len];omega),λt4 r4 H4 g4 N4=>?_);refine((),λp hp=>?_);have g5:=zc hp (.tup [.ref t2,.ref t3,.ref t4]);exact q p t2 t3 t4 r2 r3 r4 _ (((g12.trans g3).trans g4).trans g5) (zd,((N2.tab.mono g3).mono g4).mono g5,(N3.tab.mono g4).mono g5,N4.tab.mono g5) (((((kai.nil g1).push g2 N2).push g3 N3).push g4 N4).mono g5)
def zgn{A B C R bO U X S:Tb}(Pt:Part k n h A B C R bO U)(oX:OkM k n X)(lX:X.length=n)(oS:OkM k n S)(lS:S.length=n)(pr:PairU k n S (kaa n X))(rp:PairU k n (kaa n X) S)(Pl:PlF k n R U X S (plc a b c d))(sum:a+b+c+d=n):kal k n h a b A B C R bO U X S:=by
 have at0:∀ q,q<a->(plc a b c d)[q]?=some 0:=λq hq=>plc_at.1 hq
 have at1:∀ q,a<=q->q<a+b->(plc a b c d)[q]?=some 1:=λq h1 h2=>plc_at.2.1 h1 h2
 refine(Pt,oX,lX,oS,lS,(),pr,rp,λq r hq L F _ O=>?_,λq r hq L F _ O=>Pl.inU q 0 r (at0 q hq) (.inl rfl) L F O,λq s hq hs F _ O v hv=>?_,λq s h1 h2 hs F _ O v hv=>Pl.offU q 1 s (at1 q h1 h2) (.inl rfl) hs F O v hv)
 ·rcases wH q a with h1|h1
  ·exact Pl.inR q 0 r (at0 q h1) () L F O
  ·exact Pl.inR q 1 r (at1 q h1 hq) () L F O
 ·have hq':q<n:=by rw[← lS];exact(wu.mp hs).1
  obtain⟨p,hp⟩ : ∃ p,(plc a b c d)[q]?=some p:=((plc a b c d)[q]'(by rw[Qu];omega),wb (by rw[Qu];omega));have:=qx hp;exact Pl.offR q p s hp () hs F O v hv
def cutCols:(kaa n X).map (λr=>(r.drop a).take b)=kaa n (cutR a b X):=by
 unfold kaa cutR;rw[vV];refine vM λj _=>?_
 show((X.map λr=>r.getD j (.z 0)).drop a).take b =((X.drop a).take b).map λr=>r.getD j (.z 0)
 rw[gQ,Gc]
def cutAB(a b:Nat)(h:a+b<=xs.length):cutV xs (some (a:Int)) (some ((a:Int) +(b:Int))) =(xs.drop a).take b:=by
 have e:(a:Int) +(b:Int) =((a+b:Nat):Int):=by omega
 rw[e];unfold cutV;rw[HT.jh,HT.jh,gv (),gv (),vK]
def zeQ(g:Same H0 H)(G:kai H H' Ms ts rs):kai H0 H' Ms ts rs:={ G with same:=g.trans G.same,frt:=λt ht=>g.none (G.frt t ht),frr:=λras L r h=>g.none (G.frr ras L r h) }
def coreAt (H H':Hp) (k:Int) (n h a b:Nat) (A B C X S:Tb) (p:Addr):Prop:=(b=0/\H' p=some (.tup [.str "none"]))\/(1<=b/\∃(zx zs:Nat)(pi ua ub uc:Addr)(va vb vc:List Addr),H' p=some (.tup [.str "core",.ref pi])/\kaj H' (cA k n a b A X S) (cB k h a b B S) (cC k n a b C X) pi ua ub uc va vb vc/\kai H H' [cA k n a b A X S,cB k h a b B S,cC k n a b C X] [ua,ub,uc] [va,vb,vc]/\(k=0->kad zx X)/\(k=0->kad zs S)/\((b+2<=n/\zx=36512/\zs=1168392)\/(b+1=n/\zx=1520/\zs=48648)\/(b=n/\zx=61/\zs=496)))
inductive zce:Sp
 | mk:∀ k A B C n h s pm ta tb tc ra rb rc,vs=[.int k,.ref pm]->kab k->kaj H A B C pm ta tb tc ra rb rc->Fit k n->n<=5->MOk k n h s 80 A B C->(TW k n n 14 A/\TW k n h 14 B/\TW k s n 14 C)->1<=h->h<=10->1<=s->s<=10->(∀ R bO U X S a b p H',Same H H'->(∃ ys,H' p=some (.tup ys))->kal k n h a b A B C R bO U X S->coreAt H H' k n h a b A B C X S p->Q (.ref p) H')->zce vs H Q E_
def zgT:KnI pg 72 53 zce:=by
 exists 72,zbN,zi,zi,yh,zi,zi,yF,zgE,[3,4],zo,zi,yK,yK,zi
 obtain⟨k,A,B,C,n,h,s,pm,ta,tb,tc,ra,rb,rc,rfl,Z,hM,hf,n5,oM,wM,h1,h10,s1,s10,q⟩:=h;have szl:=se
 have n1:=hf.1;have n3:k=0->n<=3:=λe=>by
  rcases hf.2 with h|h
  ·exact h
  ·exact bK e h.1
 refine(Q,Q,k,A,B,C,n,h,s,pm,ta,tb,tc,ra,rb,rc,V,Z,hM,hf,n5,oM,wM,h1,(),s1,(),λR bO U X S a b c d zx zs pp tT tS tz rT rS H1 g1 hp hz TT TS Pt ⟨rdR,rdU⟩ ⟨oX,lX⟩ ⟨oS,lS⟩ ⟨pr,rp⟩ Pl sum ⟨cX,cS,zz⟩=>?_);have I:=zgn Pt oX lX oS lS pr rp Pl sum;refine(Q,pp,_,_,.ref tz,V,V,SqT.of hp,V,tz,_,_,.int (a:Int),V,V,SqT.of hz,V,?_);refine(Q,Q,pp,_,_,.ref tz,V,V,SqT.of hp,V,tz,_,_,.int (b:Int),V,V,SqT.of hz,V,_,Q,V,?_);refine(Q,Q,V,Q,?_);refine ite2 (λe=>?_) (λe=>?_)
 ·have e':=V.int.inj (bG e);have b0:b=0:=by omega
  subst b0;refine((),λp hp'=>?_);exact q R bO U X S a 0 p _ (g1.trans (zc hp' _)) (_,zd) I (.inl (V,zd))
 have b1:1<=b:=by
  rcases gm b with z|z
  ·exact bK (bF (congrArg V.int (show(a:Int) =(a:Int) +(b:Int) by omega))) e
  ·exact z
 have lrT:=zf TT.2;rw[ze]at lrT;have lrS:=zf TS.2;rw[lS]at lrS;refine(Q,Q,Q,pp,_,_,.ref tT,V,V,SqT.of hp,V,tT,V,(_,SqL.of TT.1),?_)
 let Pv1_:Nat->List V->Hp->Prop:=λi ys H'=>∃ ras2,ys=ras2.map V.ref/\Grow H1 H' (((kaa n X).map λr=>(r.drop a).take b).take i) ras2
 refine zq (xs:=rT.map V.ref) Pv1_ ([],V,Grow.nil H1 (Same.refl H1)) ?_ ?_ ?_
 ·rintro i ys H' hi ⟨ras2,rfl,G⟩
  refine(SqL.of (G.same _ _ TT.1),?_);have:=zf G.rows;rw[wr,wa,ze]at this;rw[wa];omega
 ·rintro i v ys H' hv hi ⟨ras2,rfl,G⟩
  obtain⟨row,a',J,ha,rfl,hrow⟩:=(TT.mono G.same).row hv;obtain⟨us,hus,pus,lus⟩:=hrow.len;have oT:=zg oX;have lrow:=(oT row (we J)).1;rw[lX]at lrow
  symm
  refine(Q,Q,Q,Q,Q,a',Q,SqL.of hus,λp hp'=>?_);rw[cutAB a b (by rw[lus,lrow];omega)];refine nxt hi (ras2++[p],by rw[wv];rfl,?_);have e:((kaa n X).map λr=>(r.drop a).take b)[i]?=some ((row.drop a).take b):=by rw[wg,J];rfl
  rw[zh e];exact G.snoc hp' (Zh (Zk pus a) b)
 rintro ys H2 ⟨ras2,rfl,G⟩ pl hpl
 rw[wa,wm (by rw[wa,ze];omega),cutCols]at G;have N2:=G.done hpl;have g2:=G.same.trans (zc hpl (.lst (ras2.map V.ref)));generalize upd H2 pl (.lst (ras2.map V.ref))=H3 at *;have hp3:=g2 _ _ hp;have TS3:=TS.mono g2;refine(Q,pp,_,_,.ref tS,V,V,SqT.of hp3,V,Q,Q,Q,Q,tS,Q,SqL.of TS3.1,λp3 hp'=>?_);rw[cutAB a b (by rw[wa];omega),← Gc,← gQ];have g3:=zc hp' (.lst (((rS.drop a).take b).map V.ref));have TS4:kac (upd H3 p3 (.lst (((rS.drop a).take b).map V.ref))) (cutR a b S) p3 ((rS.drop a).take b):=(zd,Zh (Zk (TS3.mono g3).2 a) b);have TT4:=N2.tab.mono g3;have g13:=(g1.trans g2).trans g3;generalize upd H3 p3 (.lst (((rS.drop a).take b).map V.ref))=H4 at *;have sX:∀ r∈cutR a b X,k=0->rowB 36512 r:=λr L k0=>(cX k0 r (yW L)).mono ()
 have sS:∀ r∈cutR a b S,k=0->rowB 1168392 r:=λr L k0=>(cS k0 r (yW L)).mono ()
 refine(k,A,B,C,cutR a b X,cutR a b S,n,h,s,b,pm,ta,tb,tc,pl,p3,ra,rb,rc,_,Q,Z,hM.mono g13,TT4,TS4,n3,n5,oM,wM,h1,h10,s10,(I.oX' Z),(I.oS' Z),b1,by have:=I.ab;omega,sX,sS,λpi ua ub uc va vb vc H5 g5 MM GG=>?_);refine((),λp hp'=>?_);have g6:=zc hp' (.tup [.str "core",.ref pi]);exact q R bO U X S a b p _ ((g13.trans g5).trans g6) (_,zd) I (.inr (b1,zx,zs,pi,ua,ub,uc,va,vb,vc,zd,MM.mono g6,(zeQ g13 GG).mono g6,cX,cS,zz))
inductive zef:Sp
 | mk:∀(k:Int)(r c:Nat),vs=[.int k,.int (r:Int),.int (c:Int)]->r<=1000->c<=1000->(∀ t ras H',Same H H'->NewT H H' (nulT k r c) t ras->Q (.ref t) H')->zef vs H Q E_
def zcp:KnI pg 21 3 zef:=by
 exists 21,[0,2],qG
 obtain⟨k,r,c,rfl,hr',hc,q⟩:=h;have szl:=se
 have lT:(nulT k r c).length=r:=by unfold nulT;simp
 refine(Q,r,V,(),(),?_);rw[vn]
 let Pv1_:Nat->List V->Hp->Prop:=λi ys H'=>∃ ras2,ys=ras2.map V.ref/\Grow H H' ((nulT k r c).take i) ras2
 refine zZ (lo:=0) (n:=r) Pv1_ ([],V,Grow.nil H (Same.refl H)) ?_ ?_ ?_
 ·rintro i ys H' hi ⟨ras2,rfl,G⟩
  have:=zf G.rows;rw[wr]at this;rw[wa];omega
 ·rintro i ys H' hi ⟨ras2,rfl,G⟩
  symm
  refine(Q,Q,k,c,V,hc,λv0 pt H2 g2 rv hpt hn=>?_);refine nxt hi (ras2++[pt],by rw[wv];rfl,?_);rw[zh (qd hi)];exact G.addR g2 (_,hpt,Jy rv c) hn
 ·rintro ys H' ⟨ras2,rfl,G⟩ t ht
  rw[wm ()]at G;exact q t ras2 _ (G.same.trans (zc ht _)) (G.done ht)
inductive Qf:Sp
 | mk:∀ M t ras,vs=[.ref t]->kac H M t ras->M.length<sizeLine->(∀ t' ras' H',Same H H'->NewT H H' M t' ras'->Q (.ref t') H')->Qf vs H Q E_
def zca:KnI pg 22 1 Qf:=by
 exists 22,[],zo
 obtain⟨M,t,ras,rfl,hT,hl,q⟩:=h;refine(Q,t,V,(_,SqL.of hT.1),zdK hT hl (λa us H' Q h q=>(Q,a,Q,.inl (SqL.of h),q)) λras2 H' G t' ht=>?_);exact q t' ras2 _ (G.same.trans (zc ht _)) (G.done ht)
inductive zci:Sp
 | mk:∀ k A B n m z ta tb ra rb,vs=[.int k,.ref ta,.ref tb]->kac H A ta ra->kac H B tb rb->TOk k n n z A->TOk k m m z B->1<=n->1<=m->n<=100->m<=100->(∀ t ras H',Same H H'->NewT H H' (kas k n m A B) t ras->Q (.ref t) H')->zci vs H Q E_
def zgF:KnI pg 31 4 zci:=by
 exists 31,jr,zcp,zj,qh,jr,zcp,zj
 obtain⟨k,A,B,n,m,z,ta,tb,ra,rb,rfl,hA,hB,oA,oB,n1,m1,n100,m100,q⟩:=h;have szl:=se
 have la:=zf hA.2;have lb:=zf hB.2;rw[oA.len]at la;rw[oB.len]at lb;obtain⟨a0,ra',ea⟩ : ∃ r0 r',ra=r0::r':=by
  cases ra with
  | nil=>rw[uI]at la;omega
  | cons a b=>exact(a,b,V)
 obtain⟨b0,rb',eb⟩ : ∃ r0 r',rb=r0::r':=by
  cases rb with
  | nil=>rw[uI]at lb;omega
  | cons a b=>exact(a,b,V)
 obtain⟨xa,hxa,ha0⟩:=zK hA.2 (i:=0) (b:=a0) (by rw[ea];rfl);obtain⟨xb,hxb,hb0⟩:=zK hB.2 (i:=0) (b:=b0) (by rw[eb];rfl);have lxa:=(oA.ok xa (we hxa)).1;have lxb:=(oB.ok xb (we hxb)).1;obtain⟨ua,hua,pua,lua⟩:=ha0.len;obtain⟨ub,hub,pub,lub⟩:=hb0.len;have lz:∀ r c,(nulT k r c).length=r:=λr c=>by unfold nulT;simp
 have rz:∀ r c,∀ q∈nulT k r c,q.length=c:=λr c q hq=>by unfold nulT at hq;rw[vF hq];simp
 refine(Q,Q,Q,ta,Q,.inl (SqL.of hA.1),Q,tb,_,_,Q,V,SqL.of hB.1,(by rw[eb];exact zt (j:=0) rfl),b0,Q,.inl (SqL.of hub),k,n,m,(by rw[wa,← la,lub,lxb];rfl),(),(),λt1 r1 H1 g1 n1'=>?_);refine(A,nulT k n m,n,m,ta,t1,ra,r1,V,hA.mono g1,n1'.tab,(by rw[oA.len,lz]),(λr L=>(oA.ok r L).1),rz n m,(),(by rw[oA.len];omega),λt2 r2 H2 g2 n2=>?_);have g12:=g1.trans g2;refine(Q,Q,Q,tb,Q,.inl (SqL.of (g12 _ _ hB.1)),Q,ta,_,_,Q,V,SqL.of (g12 _ _ hA.1),(by rw[ea];exact zt (j:=0) rfl),a0,Q,.inl (SqL.of (g12 _ _ hua)),k,m,n,(by rw[wa,← lb,lua,lxa];rfl),(),(),λt3 r3 H3 g3 n3=>?_);have g123:=g12.trans g3;refine(Q,nulT k m n,B,n,m,t3,tb,r3,rb,V,n3.tab,hB.mono g123,(by rw[oB.len,lz]),rz m n,(λr L=>(oB.ok r L).1),(),(by rw[lz];omega),λt4 r4 H4 g4 n4=>?_);have n2':=n2.tab.mono g3;have lr2:=zf n2.tab.2;have lr4:=zf n4.tab.2;have oz1:(augM A (nulT k n m)).length=n:=yR oA.len (lz n m);have oz2:(augM (nulT k m n) B).length=m:=yR (lz m n) oB.len;refine(t2,t4,_,Q,V,g4 _ _ (g3 _ _ n2.tab.1),n4.tab.1,(by rw[wa,wa];omega),λt ht=>?_);have n2h:NewT H H2 (augM A (nulT k n m)) t2 r2:=(n2.tab,g1.none n2.ft,λr L=>g1.none (n2.fr r L),n2.nd,n2.nt);have n4h:NewT H2 H4 (augM (nulT k m n) B) t4 r4:=(n4.tab,g3.none n4.ft,λr L=>g3.none (n4.fr r L),n4.nd,n4.nt);exact q t (r2++r4) _ ((g123.trans g4).trans (zc ht _)) (NewT.app g12 n2h (g3.trans g4) n4h ht)
inductive JG:Sp
 | mk:∀ k A B C A2 B2 C2 n n2 h s m pm ta tb tc pm2 ta2 tb2 tc2 ra rb rc ra2 rb2 rc2,vs=[.int k,.ref pm,.ref pm2]->kab k->kaj H A B C pm ta tb tc ra rb rc->kaj H A2 B2 C2 pm2 ta2 tb2 tc2 ra2 rb2 rc2->MOk k n h s m A B C->MOk k n2 h s m A2 B2 C2->1<=n->1<=n2->n<=100->n2<=100->h<=100->s<=100->(∀ p ua ub uc qa qb qc H',NewM H H' (kas k n n2 A A2) (B++B2) (augM C C2) p ua ub uc qa qb qc->Q (.ref p) H')->JG vs H Q E_
def JT:KnI pg 55 5 JG:=by
 exists 55,zgF,zi,zi,zca,qh,zi,zi,jr,zi,zi
 obtain⟨k,A,B,C,A2,B2,C2,n,n2,h,s,m,pm,ta,tb,tc,pm2,ta2,tb2,tc2,ra,rb,rc,ra2,rb2,rc2,rfl,Z,hM,hN,oM,oN,n1,n21,n100,n2100,h100,s100,q⟩:=h;have szl:=se
 refine(Q,Q,pm,_,_,Q,V,SqT.of hM.tup,V,Q,pm2,_,_,Q,V,SqT.of hN.tup,V,k,A,A2,n,n2,m,ta,ta2,ra,ra2,V,hM.a,hN.a,oM.a,oN.a,n1,n21,n100,n2100,λt1 r1 H1 g1 N1=>?_);have M1:=hM.mono g1;have M2:=hN.mono g1;have lb:=zf hM.b.2;rw[oM.b.len]at lb;have lb2:=zf hN.b.2;rw[oN.b.len]at lb2;refine(Q,pm,_,_,Q,V,SqT.of M1.tup,V,Q,pm2,_,_,Q,V,SqT.of M2.tup,V,tb,tb2,_,Q,V,M1.b.1,M2.b.1,(by rw[wa,wa];omega),λt2 ht2=>?_);have T2:=zct M1.b M2.b ht2;have g2:=zc ht2 (.lst (rb.map V.ref++rb2.map V.ref));generalize upd H1 t2 (.lst (rb.map V.ref++rb2.map V.ref))=H2 at *;refine(B++B2,t2,rb++rb2,V,T2,(by rw[wy,oM.b.len,oN.b.len];omega),λt3 r3 H3 g3 N3=>?_);have g23:=g2.trans g3;have M3:=M1.mono g23;have M4:=M2.mono g23;refine(Q,pm,_,_,Q,V,SqT.of M3.tup,V,Q,pm2,_,_,Q,V,SqT.of M4.tup,V,C,C2,n,n2,tc,tc2,rc,rc2,V,M3.c,M4.c,(by rw[oM.c.len,oN.c.len]),(λr L=>(oM.c.ok r L).1),(λr L=>(oN.c.ok r L).1),(),(by rw[oM.c.len];omega),λt4 r4 H4 g4 N4=>?_);refine((),λp hp=>?_);have g5:=zc hp (.tup [.ref t1,.ref t3,.ref t4]);have g12:=g1.trans g2;have g13:=g12.trans g3;exact q p t1 t3 t4 r1 r3 r4 _ ((g13.trans g4).trans g5,(zd,N1.tab.mono ((g23.trans g4).trans g5),N3.tab.mono (g4.trans g5),N4.tab.mono g5),(N1.ft,N1.fr),(g12.none N3.ft,λr L=>g12.none (N3.fr r L)),(g13.none N4.ft,λr L=>g13.none (N4.fr r L)))
inductive zee:Sp
 | mk:∀ k xs ys a b,vs=[.int k,.ref a,.ref b]->kab k->kaq H xs a->kaq H ys b->OkR k xs->OkR k ys->xs.length=ys.length->xs.length<=1000->(∀ x∈xs,nsm 60000000 x)->(∀ x∈ys,nsm 60000000 x)->(∀ p H',Same H H'->NewR H H' (subR k xs ys) p->Q (.ref p) H')->zee vs H Q E_
def zgQ:KnI pg 23 43 zee:=by
 exists 23,[0],zar
 obtain⟨k,xs,ys,a,b,rfl,Z,J,hy,ox,oy,lxy,l1000,sx,sy,q⟩:=h;have szl:=se
 obtain⟨us1,hu1,pu1,lu1⟩:=J.len;obtain⟨us2,hu2,pu2,lu2⟩:=hy.len;have ls:=sub_len Z lxy;refine(Q,Q,a,b,us1,us2,V,SqL.of hu1,SqL.of hu2,?_)
 let Pv1_:Nat->List V->Hp->Prop:=λj ys' H'=>Same H H'/\Paired (RN H') ((subR k xs ys).take j) ys'
 refine Zs (xs:=us1) (zs:=us2) () Pv1_ (Same.refl _,.nil) ?_ ?_ ?_
 ·rintro j ys' H' hj ⟨g,pr⟩
  refine(SqL.of (g _ _ hu1),SqL.of (g _ _ hu2),?_);have:=zf pr;rw[wr]at this;omega
 ·rintro j x z T ys' H' hx' hz hj hT ⟨g,pr⟩
  obtain⟨nx,ex,rx⟩:=zK pu1 hx';obtain⟨nz,ez,rz⟩:=zK pu2 hz;have gN:=zc hT (.tup [x,z]);have gT:=g.trans gN;refine(T,Q,SqT.of zd,V,_,Q,_,Q,V,?_);generalize upd H' T (.tup [x,z])=H2 at *
  symm
  refine(Q,Q,Q,k,nx,nz,x,z,V,(Z,ox nx (we ex),oy nz (we ez),sx nx (we ex),sy nz (we ez),rx.mono gT,rz.mono gT),λv H3 g3 r3=>nxt hj (gT.trans g3,?_));have e:(subR k xs ys)[j]?=some (nsub k nx nz):=by unfold subR;rw[uq,ex,ez]
  rw[zh e];exact zJ (xT (gN.trans g3) pr) r3
 ·rintro ys' H' ⟨g,pr⟩ p hp
  rw[wm ()]at pr;have g2:=zc hp (.lst ys');exact q p _ (g.trans g2) ((ys',zd,xT g2 pr),g.none hp)
inductive zfQ:Sp
 | mk:∀ k M n t ras,vs=[.int k,.ref t]->kab k->kac H M t ras->OkM k n M->(∀ r∈M,∀ x∈r,nsm 60000000 x)->n<=100->M.length<=100->(∀ t' ras' H',Same H H'->NewT H H' (ngT k n M) t' ras'->Q (.ref t') H')->zfQ vs H Q E_
def ziq:KnI pg 24 44 zfQ:=by
 exists 24,[0],zo,zgQ,qG
 obtain⟨k,M,n,t,ras,rfl,Z,hT,oM,sM,n100,m100,q⟩:=h;have szl:=se
 obtain⟨oz,lz⟩:=zbt Z n;refine(Q,t,V,(_,SqL.of hT.1),?_);have hl:=zf hT.2
 let Pv1_:Nat->List V->Hp->Prop:=λi ys H'=>∃ ras2,ys=ras2.map V.ref/\Grow H H' ((ngT k n M).take i) ras2
 refine zq (xs:=ras.map V.ref) Pv1_ ([],V,Grow.nil H (Same.refl H)) ?_ ?_ ?_
 ·rintro i ys H' hi ⟨ras2,rfl,G⟩
  refine(SqL.of (G.same _ _ hT.1),?_);have:=zf G.rows;unfold ngT at this;rw[wr,wa]at this;rw[wa];omega
 ·rintro i v ys H' hv hi ⟨ras2,rfl,G⟩
  obtain⟨row,a,hrow,ha,rfl,hR⟩:=(hT.mono G.same).row hv;obtain⟨us,hu,pu,lu⟩:=hR.len;have o:=oM row (we hrow)
  symm
  refine(Q,Q,Q,a,Q,.inl (SqL.of hu),?_);rw[lu,o.1];refine(k,n,V,(),λv0 pz H1 g1 r0 hz fz=>?_);have hz':kaq H1 (zerN k n) pz:=(_,hz,Jy r0 n);refine(Q,k,zerN k n,row,pz,a,V,Z,hz',hR.mono g1,oz,o.2,lz.trans o.1.symm,(),(λx J=>by rw[vF J];exact xq Z ((show Sm 80 0 by unfold Sm;decide).mono ()) ()),(λx J=>(sM row (we hrow) x J).mono ()),λp H2 g2 N2=>?_);refine nxt hi (ras2++[p],by rw[wv];rfl,?_);have e:(ngT k n M)[i]?=some (subR k (zerN k n) row):=by unfold ngT;rw[wg,hrow];rfl
  rw[zh e];exact G.snocR (g1.trans g2) N2.row (g1.none N2.fa)
 ·rintro ys H' ⟨ras2,rfl,G⟩ t' ht'
  rw[wa,wm (by unfold ngT;rw[wa];omega)]at G;exact q t' ras2 _ (G.same.trans (zc ht' _)) (G.done ht')
inductive zdU:Sp
 | mk:∀ W v t a ls m,vs=[.ref t,.ref a]->ITab H W t ls->IRow H v a->(∀ r∈W,r.length<1000/\∀ w∈r,Sm m w)->(∀ w∈v,Sm m w)->2*m<=60000000->W.length<1000->(∀ p H',Same H H'->IRow H' (W.map λr=>rdot r v) p->H p=none->Q (.ref p) H')->zdU vs H Q E_
def zch:KnI pg 14 2 zdU:=by
 exists 14,[1],zo,zaO
 obtain⟨W,v,t,a,ls,m,rfl,hT,hv,sW,sv,hsz,lW,q⟩:=h;have szl:=se
 have ll:=zf hT.2;have lM:(W.map λr=>rdot r v).length=W.length:=wa _;refine(Q,t,V,(_,SqL.of hT.1),?_)
 let Pv1_:Nat->List V->Hp->Prop:=λi ys H'=>Same H H'/\ys =((W.map λr=>rdot r v).take i).map V.int
 refine zq (xs:=ls.map V.ref) Pv1_ (Same.refl H,by simp) ?_ ?_ ?_
 ·rintro i ys H' hi ⟨g,rfl⟩
  refine(SqL.of (g _ _ hT.1),?_);rw[wa,wr,lM];omega
 ·rintro i x ys H' J hi ⟨g,rfl⟩
  obtain⟨ws,b,hw,hb,rfl,r⟩:=(hT.mono g).row J;have s1:=sW ws (we hw)
  symm
  refine(Q,Q,ws,v,b,a,m,V,r,hv.mono g,s1.2,sv,hsz,(),λH2 g2=>nxt hi (g.trans g2,?_));rw[zh (by rw[wg,hw];rfl),wv];rfl
 ·rintro ys H' ⟨g,rfl⟩ p hp
  rw[wa,wm (by rw[lM];omega)];exact q p _ (g.trans (zc hp _)) zd (g.none hp)
inductive zf8:Sp
 | mk:∀ k A B C n h s z pm ta tb tc ra rb rc,vs=[.int k,.ref pm]->kab k->kaj H A B C pm ta tb tc ra rb rc->(OkM k n A/\A.length=n)->(OkM k h B/\B.length=n)->(OkM k n C/\C.length=s)->(1<=n/\n<=8)->(1<=h/\h<=10)->(1<=s/\s<=100)->rowB z A.flatten->rowB z B.flatten->rowB z C.flatten->61<=z->(n+1) *(z+8)<=30000000->((∀ j H',Same H H'->j<n->(∀ t,t<j->MkZ k h A B C t)->¬ MkZ k h A B C j->Q (.int (j:Int)) H'))->(∀ H',Same H H'->(∀ t,t<n->MkZ k h A B C t)->Q .non H')->zf8 vs H Q E_
def zhS:KnI pg 64 43 zf8:=by
 exists 64,zi,zaL,zi,zi,zaL,zi,yb,zi,zaL,zi,zo,[0],zo,zch,zhg,yk,yk,[2],zo,zch
 obtain⟨k,A,B,C,n,h,s,z,pm,ta,tb,tc,ra,rb,rc,rfl,Z,hM,⟨oA,lA⟩,⟨oB,lB⟩,⟨oC,lC⟩,⟨n1,n8⟩,⟨h1,h10⟩,⟨s1,s100⟩,zA,zB,zC,z7,zm,qS,qN⟩:=h;have szl:=se
 have z6:z+8<=30000000:=wE (gP _ (by omega)) zm;refine(Q,Q,pm,_,_,Q,V,SqT.of hM.tup,V,k,A,n,n,z,ta,ra,V,Z,hM.a,(oA,lA),by omega,by omega,by omega,zA,z7,by omega,λp1 t1 bA l1 H1 g1 e1 T1 sA ba wA=>?_);have hM1:=hM.mono g1;refine(p1,_,_,Q,V,SqT.of e1,V,Q,Q,pm,_,_,Q,V,SqT.of hM1.tup,V,k,C,s,n,z,tc,rc,V,Z,hM1.c,(oC,lC),by omega,by omega,by omega,zC,z7,by omega,λp2 t2 bC l2 H2 g2 e2 T2 sC bc wC=>?_);have hM2:=hM1.mono g2;refine(p2,_,_,Q,V,SqT.of e2,V,Q,Q,pm,_,_,Q,V,SqT.of hM2.tup,V,k,B,n,h,z,tb,rb,V,Z,hM2.b,(oB,lB),by omega,by omega,by omega,zB,z7,by omega,λp3 t3 bB l3 H3 g3 e3 T3 sB bb wB=>?_);have hB:∀ r∈B,r.length=h:=λr L=>(oB r L).1
 refine(p3,_,_,Q,V,SqT.of e3,V,_,h,t3,l3,V,T3.tab,(λe=>by have:=congrArg uV e;simp only[wa,uI]at this;omega),(λr L=>by
  obtain⟨w,hw,rfl⟩:=wj.1 L;obtain⟨u,hu,rfl⟩:=wj.1 hw;rw[wa,wa,hB u hu]),by omega,(by rw[wa,wa];omega),λt4 r4 H4 g4 N4=>?_)
 have T4:=N4.tab;rw[zie bB hB]at T4;have T4:=ITab.of T4;have T1:=((T1.mono g2).mono g3).mono g4;have T2:=(T2.mono g3).mono g4;have gH:=((g1.trans g2).trans g3).trans g4;have hWA:∀ r∈A.map λr=>r.map (scW bA),r.length=n/\∀ w∈r,Sm z w:=λr L=>by
  obtain⟨u,hu,rfl⟩:=wj.1 L;refine(by rw[wa,(oA u hu).1],λw hw=>?_);obtain⟨x,J,rfl⟩:=wj.1 hw;exact wA x (wU.mpr (u,hu,J))
 have hWC:∀ r∈C.map λr=>r.map (scW bC),r.length=n/\∀ w∈r,Sm z w:=λr L=>by
  obtain⟨u,hu,rfl⟩:=wj.1 L;refine(by rw[wa,(oC u hu).1],λw hw=>?_);obtain⟨x,J,rfl⟩:=wj.1 hw;exact wC x (wU.mpr (u,hu,J))
 have hv:∀ x∈kaa h B,∀ w∈x.map (scW bB),Sm z w:=λx J w hw=>by
  obtain⟨y,hy,rfl⟩:=wj.1 hw;unfold kaa at J;obtain⟨j,hj,rfl⟩:=wj.1 J;obtain⟨r,L,rfl⟩:=wj.1 hy;have:j<r.length:=by rw[hB r L];exact wP.1 hj
  refine wB _ (wU.mpr (r,L,?_));rw[wc,wb this];exact wk this
 have hp:∀ t,t<=n->∀ x∈kaa h B,∀ w∈bpow (A.map λr=>r.map (scW bA)) (x.map (scW bB)) t,Sm (z+n *(z+8)) w:=λt ht x J w hw=>(zdm n8 hWA (hv x J) t w hw).mono (waJ (wI _ ht) _)
 have hm:2 *(z+n *(z+8))<=60000000:=by rw[uW]at zm;omega
 have ok:∀ x∈kaa h B,∀ t,OkR k (powX k A x t)/\(powX k A x t).length=n:=λx J=>by
  have:=zg oB x J;exact zF Z oA lA this.2 (this.1.trans lB)
 have mz:∀ t,∀ x∈kaa h B,(∀ w∈(C.map λr=>r.map (scW bC)).map λr=>rdot r (bpow (A.map λr=>r.map (scW bA)) (x.map (scW bB)) t),nnum k w=nnum k 0)↔∀ y∈imgM k C (powX k A x t),y=nnum k 0:=λt x J=>by
  obtain⟨c,m⟩:=zgS Z oA lA sA oB lB sB J t;exact(Mtp.img Z oC sC (ok x J t).1 (ok x J t).2 m).nought Z λy hy=>by
   obtain⟨r,L,rfl⟩:=wj.1 hy;exact zN Z (oC r L).2 (ok x J t).1
 have lT1:=zf T1.2;rw[wa,lA]at lT1;refine(Q,t1,Q,.inl (SqL.of T1.1),n,(by rw[wa,← lT1]),by omega,by omega,?_);rw[vn]
 let Pv1_:Nat->L2.St->Hp->Prop:=λi E H'=>∃(pc:Addr)(lc:List Addr)(o5 o6:Option V),E=[some (.int k),some (.ref pm),some (.ref t1),some (.ref t2),some (.ref pc),o5,o6]/\Same H4 H'/\ITab H' ((kaa h B).map λx=>bpow (A.map λr=>r.map (scW bA)) (x.map (scW bB)) i) pc lc/\∀ t,t<i->MkZ k h A B C t
 refine yu (lo:=0) (n:=n) Pv1_ (t4,r4,none,none,V,Same.refl _,(by simp only[bpow];exact T4),λt ht=>bK ht (by omega)) ?_ ?_
 ·rintro i E H5 hi ⟨pc,lc,o5,o6,rfl,g5,T5,old⟩
  have lc':=zf T5.2;rw[wa,ze]at lc';refine(Q,pc,V,(_,SqL.of T5.1),?_)
  let Pv2_:Nat->L2.St->Hp->Prop:=λj E H'=>∃ o6,E=[some (.int k),some (.ref pm),some (.ref t1),some (.ref t2),some (.ref pc),some (.int (0 +(i:Int))),o6]/\Same H5 H'/\∀ x∈(kaa h B).take j,∀ y∈imgM k C (powX k A x i),y=nnum k 0
  refine yn (xs:=lc.map V.ref) Pv2_ (Q,Same.refl _,λx J=>by simp at J) ?_ ?_ ?_
  ·rintro j E H6 _ ⟨o6,rfl,g6,_⟩
   exact SqL.of (g6 _ _ T5.1)
  ·rintro j v E H6 hv ⟨o6,rfl,g6,old6⟩
   obtain⟨ws,a,hw,ha,rfl,hR⟩:=(T5.mono g6).row hv;rw[wg]at hw;obtain⟨x,J,rfl⟩:=wG.1 hw;have hxm:=we J;refine(Q,Q,_,_,t2,a,l2,z+n *(z+8),V,(T2.mono g5).mono g6,hR,(λr L=>(by rw[(hWC r L).1];omega,λw hw=>((hWC r L).2 w hw).mono (by omega))),hp i (by omega) x hxm,hm,(by rw[wa];omega),λp7 H7 g7 R7 f7=>?_);have mzx:=mz i x hxm;have lus:((C.map λr=>r.map (scW bC)).map λr=>rdot r (bpow (A.map λr=>r.map (scW bA)) (x.map (scW bB)) i)).length=s:=by rw[wa,wa,lC]
   generalize ((C.map λr=>r.map (scW bC)).map λr=>rdot r (bpow (A.map λr=>r.map (scW bA)) (x.map (scW bB)) i))=us at R7 mzx lus;refine(p7,V,(_,SqL.of R7),?_)
   let Pv3_:Nat->List V->Hp->Prop:=λj ys H'=>Same H7 H'/\ys =((us.take j).map λw=>!(decide (nnum k w=nnum k 0))).map V.bl
   refine zq (xs:=us.map V.int) Pv3_ (Same.refl _,V) ?_ ?_ ?_
   ·rintro j ys H8 hj ⟨g8,rfl⟩
    refine(SqL.of (g8 _ _ R7),?_);rw[wa,wa,wr];omega
   ·rintro j v ys H8 hv' hj ⟨g8,rfl⟩
    rw[wg]at hv';obtain⟨w,hw,rfl⟩:=wG.1 hv'
    symm
    refine(Q,Q,k,w,V,λv1 H9 g9 r9=>?_);refine(Q,k,0,V,λv0 H10 g10 r10=>?_);refine(toD (nnum k w),toD (nnum k 0),r9.mono g10,r10,yV _,yV _,wE (vX _ _) (wE (xA _) (by decide)),nxt hj ((g8.trans g9).trans g10,?_));rw[zh hw,wv,wv,jQ];rfl
   rintro ys H8 ⟨g8,rfl⟩ pb hpb
   rw[wa,um]at *;have gb:=zc hpb (.lst ((us.map λw=>!(decide (nnum k w=nnum k 0))).map V.bl));refine(pb,Q,zd,?_);have g58:=((g6.trans g7).trans g8).trans gb;generalize upd H8 pb (.lst ((us.map λw=>!(decide (nnum k w=nnum k 0))).map V.bl))=H9 at *;refine(Q,?_);refine ite2 (λd=>?_) (λd=>?_)
   ·refine(Q,?_);rw[vQ];refine qS i _ (gH.trans (g5.trans g58)) hi old λmk=>?_
    obtain⟨b,hb,eb⟩:=Ga.1 d;obtain⟨w,hw,rfl⟩:=wj.1 hb;rw[mzx.2 (mk x hxm) w hw]at eb;simp at eb
   ·refine(Q,g58,λy hy=>?_);rw[zh J,wp,wx]at hy
    rcases hy with hy|rfl
    ·exact old6 y hy
    refine mzx.1 λw hw=>?_
    by_cases e:nnum k w=nnum k 0
    ·exact e
    ·exact bK (Ga.2 (_,uJ hw,by rw[bE e];rfl)) d
  ·rintro E H6 ⟨o6,rfl,g6,old6⟩
   rw[wa,wm (by rw[ze];omega)]at old6;refine(Q,pc,V,(_,SqL.of (g6 _ _ T5.1)),?_);have lM:((kaa h B).map λx=>bpow (A.map λr=>r.map (scW bA)) (x.map (scW bB)) (i+1)).length=h:=by rw[wa,ze]
   let Pv4_:Nat->List V->Hp->Prop:=λj ys H'=>∃ ls2:List Addr,ys=ls2.map V.ref/\Same H6 H'/\Paired (IRow H') (((kaa h B).map λx=>bpow (A.map λr=>r.map (scW bA)) (x.map (scW bB)) (i+1)).take j) ls2
   refine zq (xs:=lc.map V.ref) Pv4_ ([],V,Same.refl _,.nil) ?_ ?_ ?_
   ·rintro j ys H8 hj ⟨ls2,rfl,g8,pr⟩
    refine(SqL.of (g8 _ _ (g6 _ _ T5.1)),?_);have:=zf pr;rw[wr,lM]at this;rw[wa];omega
   ·rintro j v ys H8 hv hj ⟨ls2,rfl,g8,pr⟩
    obtain⟨ws,a,hw,ha,rfl,hR⟩:=((T5.mono g6).mono g8).row hv;rw[wg]at hw;obtain⟨x,J,rfl⟩:=wG.1 hw;have hxm:=we J
    symm
    refine(Q,Q,_,_,t1,a,l1,z+n *(z+8),V,((T1.mono g5).mono g6).mono g8,hR,(λr L=>(by rw[(hWA r L).1];omega,λw hw=>((hWA r L).2 w hw).mono (by omega))),hp i (by omega) x hxm,hm,(by rw[wa];omega),λp9 H9 g9 R9 f9=>nxt hj (ls2++[p9],by rw[wv];rfl,g8.trans g9,?_));rw[zh (x:=bpow (A.map λr=>r.map (scW bA)) (x.map (scW bB)) (i+1)) (by rw[wg,J];rfl)];exact zJ (yC (λ_ _ r=>g9 _ _ r) pr) R9
   ·rintro ys H8 ⟨ls2,rfl,g8,pr⟩ p hp'
    rw[wa,wm (by rw[lM];omega)]at pr;have gp:=zc hp' (.lst (ls2.map V.ref));refine(p,ls2,_,Q,((g5.trans g6).trans g8).trans gp,(zd,yC (λ_ _ r=>gp _ _ r) pr),λt ht=>?_)
    rcases uv (ux ht)with h'|h'
    ·exact old t h'
    ·subst h';exact old6
 ·rintro E H5 ⟨pc,lc,o5,o6,rfl,g5,T5,old⟩
  exact qN _ (gH.trans g5) old
inductive zfX:Sp
 | mk:∀ k A B C A2 B2 C2 n n2 h s m z pm ta tb tc pm2 ta2 tb2 tc2 ra rb rc ra2 rb2 rc2,vs=[.int k,.ref pm,.ref pm2]->kab k->kaj H A B C pm ta tb tc ra rb rc->kaj H A2 B2 C2 pm2 ta2 tb2 tc2 ra2 rb2 rc2->MOk k n h s m A B C->MOk k n2 h s m A2 B2 C2->(1<=n/\1<=n2/\n+n2<=8)->(1<=h/\h<=10)->(1<=s/\s<=100)->(61<=m/\m<=60000000)->(rowB z A.flatten/\rowB z B.flatten/\rowB z C.flatten)->(rowB z A2.flatten/\rowB z B2.flatten/\rowB z C2.flatten)->61<=z->(n+n2+1) *(z+z+8)<=30000000->((∀ j H',Same H H'->j<n+n2->(∀ t,t<j->MkE k h A B C A2 B2 C2 t)->¬ MkE k h A B C A2 B2 C2 j->Q (.int (j:Int)) H'))->(∀ H',Same H H'->(∀ t,t<n+n2->MkE k h A B C A2 B2 C2 t)->Q .non H')->zfX vs H Q E_
def ziF:KnI pg 65 45 zfX:=by
 exists 65,zhS,JT,zi,zi,ziq,zi
 obtain⟨k,A,B,C,A2,B2,C2,n,n2,h,s,m,z,pm,ta,tb,tc,pm2,ta2,tb2,tc2,ra,rb,rc,ra2,rb2,rc2,rfl,Z,hM,hN,oM,oN,⟨n1,n21,n8⟩,⟨h1,h10⟩,⟨s1,s100⟩,⟨m7,m6⟩,⟨zA,zB,zC⟩,⟨zA2,zB2,zC2⟩,z7,zm,qS,qN⟩:=h;have szl:=se
 refine(Q,Q,Q,Q,pm2,_,_,Q,V,SqT.of hN.tup,V,Q,pm2,_,_,Q,V,SqT.of hN.tup,V,Q,Q,pm2,_,_,Q,V,SqT.of hN.tup,V,k,C2,n2,tc2,rc2,V,Z,hN.c,oN.c.ok,(λr L x J=>(oN.c.sz r L x J).mono m6),(),by rw[oN.c.len];omega,λt1 r1 H1 g1 N1=>?_);refine((),λpt hpt=>?_);have gt:=zc hpt (.tup [.ref ta2,.ref tb2,.ref t1]);have lN:(ngT k n2 C2).length=s:=by unfold ngT;rw[wa,oN.c.len]
 have oG:TOk k s n2 (m+m+1) (ngT k n2 C2):=zgx Z m7 oN.c;have mm:m<=m+m+1:=by omega
 have oM':MOk k n h s (m+m+1) A B C:=(oM.a.up mm,oM.b.up mm,oM.c.up mm);have oN':MOk k n2 h s (m+m+1) A2 B2 (ngT k n2 C2):=(oN.a.up mm,oN.b.up mm,oG);have hM1:=(hM.mono g1).mono gt;have hN1:kaj (upd H1 pt (.tup [.ref ta2,.ref tb2,.ref t1])) A2 B2 (ngT k n2 C2) pt ta2 tb2 t1 ra2 rb2 r1:=(zd,(hN.a.mono g1).mono gt,(hN.b.mono g1).mono gt,N1.tab.mono gt);generalize upd H1 pt (.tup [.ref ta2,.ref tb2,.ref t1])=H2 at *;refine(k,A,B,C,A2,B2,ngT k n2 C2,n,n2,h,s,m+m+1,pm,ta,tb,tc,pt,ta2,tb2,t1,ra,rb,rc,ra2,rb2,r1,V,Z,hM1,hN1,oM',oN',n1,n21,(),(),(),s100,λp ua ub uc qa qb qc H3 NM=>?_);have ok:=xC Z (show 61<=m+m+1 by omega) oM' oN';have g03:=(g1.trans gt).trans NM.same;refine(k,_,_,_,n+n2,h,s,z+z,p,ua,ub,uc,qa,qb,qc,V,Z,NM.mach,(ok.a.ok,ok.a.len),(ok.b.ok,ok.b.len),(ok.c.ok,ok.c.len),((),n8),(h1,h10),(s1,s100),qm zA zA2,?_,?_,(),zm,λj H' g hj old nw=>?_,λH' g old=>?_)
 ·rw[gd];exact xG zB zB2
 ·exact Zl (k:=k) (xG zC (zeD Z oN.c.ok zC2)) λx J=>.inl (wp.2 (zb9 J))
 ·exact qS j H' (g03.trans g) hj (λt ht=>(ZE Z oM.a.ok oM.a.len oM.b.ok oM.b.len oM.c.ok oM.c.len oN.a.ok oN.a.len oN.b.ok oN.b.len oN.c.ok oN.c.len t).1 (old t ht)) λe=>nw ((ZE Z oM.a.ok oM.a.len oM.b.ok oM.b.len oM.c.ok oM.c.len oN.a.ok oN.a.len oN.b.ok oN.b.len oN.c.ok oN.c.len j).2 e)
 ·exact qN H' (g03.trans g) λt ht=>(ZE Z oM.a.ok oM.a.len oM.b.ok oM.b.len oM.c.ok oM.c.len oN.a.ok oN.a.len oN.b.ok oN.b.len oN.c.ok oN.c.len t).1 (old t ht)
inductive zfL:Sp
 | mk:∀ k A B C n h c m c' m' z pm ta tb tc ra rb rc,vs=[.int k,.ref pm]->kab k->kaj H A B C pm ta tb tc ra rb rc->(1<=n/\n<=8)->KrZ k n A (kaa h B) c m->KrZ k n (kaa n A) C c' m'->(OkM k n A/\A.length=n)->(OkM k h B/\B.length=n)->1<=h->h<=100->(n*m'+1)*2^n<=60000000->1<=C.length->C.length<=100->((k=0->tabB z A/\tabB z B/\tabB z C))->61<=z->z<=60000000->(∀ b H',Same H H'->(b=true↔LstM k n h A B C)->Q (.bl b) H')->zfL vs H Q E_
def zge:KnI pg 66 51 zfL:=by
 exists 66,yF,jK,zi,XU,Xc
 obtain⟨k,A,B,C,n,h,c,m,c',m',z,pm,ta,tb,tc,ra,rb,rc,rfl,Z,hM,⟨n1,n8⟩,bM,Z',⟨oA,lA⟩,⟨oB,lB⟩,h1,h100,mz,s1,s100,tz,z7,z6,q⟩:=h;have szl:=se
 refine(Q,Q,k,A,B,C,n,h,c,m,z,pm,ta,tb,tc,ra,rb,rc,V,Z,hM,(n1,n8),bM,(oB,lB),h1,h100,(λe=>((tz e).1,(tz e).2.1)),z7,z6,λR t1 r1 H1 g1 N1 lo _=>?_);have hM1:=hM.mono g1;refine(t1,Q,.inl (SqL.of N1.tab.1),Q,pm,_,_,Q,V,SqT.of hM1.tup,V,ta,Q,.inl (SqL.of hM1.a.1),?_);have lr:=zf N1.tab.2;have la:=zf hM1.a.2;refine(V,Q,?_);rw[wa,wa,← lr,← la,lA];refine ite2 (λd=>?_) (λd=>?_)
 ·have e1:R.length=n:=by have:=V.int.inj (bG d);omega
  refine(Q,Q,k,A,B,C,n,c',m',z,pm,ta,tb,tc,ra,rb,rc,V,Z,hM1,(n1,n8),Z',(oA,lA),mz,s1,s100,(λe=>((tz e).1,(tz e).2.2)),z7,z6,λR2 U t2 r2 H2 g2 N2 lo2 rU pU=>?_);refine((),λpe hpe=>?_);have ge:=zc hpe (.lst []);have he:kac (upd H2 pe (.lst [])) [] pe []:=(zd,.nil);refine(tabD U,tabD [],(N2.tab.mono ge).rp,he.rp,jX _,jX _,wE (vX _ _) (wE (qt _) ()),?_);rw[zes];refine q _ _ ((g1.trans g2).trans ge) (λz=>?_,λ⟨_,p'⟩=>?_)
  ·have z:U=[]:=bG z;subst z;exact((R,lo,e1),λF _ O v=>(pU F O v).trans (JU λu=>lo2.eq F O u))
  ·exact bF (Yl Z rU ([],XM) λF _ O v=>((pU F O v).trans (JU λu=>lo2.eq F O u)).trans (p' F O v).symm)
 ·refine q false _ g1 ((λz=>by cases z),λ⟨⟨R',l',e'⟩,_⟩=>?_);rw[lo.uniq Z l']at d;exact bK (by rw[e'];exact bF rfl) d
def IslZ(k:Int)(n h:Nat)(A B C:Tb):Prop:=∃ c m c' m' z,KrZ k n A (kaa h B) c m/\KrZ k n (kaa n A) C c' m'/\(n*m'+1)*2^n<=60000000/\(k=0->tabB z A/\tabB z B/\tabB z C)/\61<=z/\z<=60000000
inductive zdV:Sp
 | mk:∀(k:Int)(A B C A2 B2 C2:Tb)(n n2 h s m z g:Nat)(pm ta tb tc pm2 ta2 tb2 tc2:Addr)(ra rb rc ra2 rb2 rc2:List Addr),vs=[.int k,.ref pm,.ref pm2]->kab k->kaj H A B C pm ta tb tc ra rb rc->kaj H A2 B2 C2 pm2 ta2 tb2 tc2 ra2 rb2 rc2->MOk k n h s m A B C->MOk k n2 h s m A2 B2 C2->(1<=n/\1<=n2/\n+n2<=8)->(1<=h/\h<=10)->(1<=s/\s<=100)->(61<=m/\m<=60000000)->(rowB z A.flatten/\rowB z B.flatten/\rowB z C.flatten)->(rowB z A2.flatten/\rowB z B2.flatten/\rowB z C2.flatten)->61<=z->(n+n2+1) *(z+z+8)<=30000000->(((∀ t,t<n+n2->MkE k h A B C A2 B2 C2 t)->IslZ k n h A B C/\(LstM k n h A B C->IslZ k n2 h A2 B2 C2/\(LstM k n2 h A2 B2 C2->∃ c,KrZ k (n+n2) (kas k n n2 A A2) (kaa h (B++B2)) c g/\(n*g+62)*2^(n+n)<=60000000))))->((∀(j:Nat) p H',Same H H'->H' p=some (.tup [.str "apart",.int (j:Int)])->j<n+n2->(∀ t,t<j->MkE k h A B C A2 B2 C2 t)->¬ MkE k h A B C A2 B2 C2 j->Q (.ref p) H'))->((∀ p H',Same H H'->H' p=some (.tup [.str "alike"])->(∀ t,t<n+n2->MkE k h A B C A2 B2 C2 t)->¬(LstM k n h A B C/\LstM k n2 h A2 B2 C2)->Q (.ref p) H'))->(∀ W X ls p tx ts rx rs H',Same H H'->H' p=some (.tup [.str "turn",.ref tx,.ref ts])->kac H' (X.map (vz n)) tx rx->kac H' (kaa n (W.map (vz n))) ts rs->TwoM k n n2 h s A B C A2 B2 C2 W->kad g W->(∀ F [bu F] (O:Kf k F),kap O (n+n) (kao k n (kaa n (W.map (vz n)))) X ls)->Q (.ref p) H')->zdV vs H Q E_
def zgf:KnI pg 67 52 zdV:=by
 exists 67,ziF,zge,zge,yb,[1],zo,jK,JT,yK,zi,zdA
 obtain⟨k,A,B,C,A2,B2,C2,n,n2,h,s,m,z,g,pm,ta,tb,tc,pm2,ta2,tb2,tc2,ra,rb,rc,ra2,rb2,rc2,rfl,Z,hM,hN,oM,oN,⟨n1,n21,n8⟩,⟨h1,h10⟩,⟨s1,s100⟩,⟨m7,m6⟩,⟨zA,zB,zC⟩,⟨zA2,zB2,zC2⟩,z7,zm,hz,qA,qL,qT⟩:=h;have szl:=se
 have z6:z+z+8<=30000000:=wE (gP _ (by omega)) zm;refine(Q,Q,Q,k,A,B,C,A2,B2,C2,n,n2,h,s,m,z,pm,ta,tb,tc,pm2,ta2,tb2,tc2,ra,rb,rc,ra2,rb2,rc2,V,Z,hM,hN,oM,oN,(n1,n21,n8),(h1,h10),(s1,s100),(m7,m6),(zA,zB,zC),(zA2,zB2,zC2),z7,zm,λj H1 g1 hj old nw=>?_,λH1 g1 mk=>?_)
 ·refine(Q,V,Q,?_);refine ite2 (λd=>?_) (λd=>bK rfl d);refine(Q,(),λp hp=>?_);exact qA j p _ (g1.trans (zc hp _)) zd hj old nw
 ·refine(Q,V,Q,?_);refine ite2 (λd=>bK d (by decide)) (λd=>?_);obtain⟨⟨c,m1,c',m',z',bM,Z',mz,tz,z7',z6'⟩,hz⟩:=hz mk;have hM1:=hM.mono g1;have hN1:=hN.mono g1;refine(Q,Q,k,A,B,C,n,h,c,m1,c',m',z',pm,ta,tb,tc,ra,rb,rc,V,Z,hM1,(n1,by omega),bM,Z',(oM.a.ok,oM.a.len),(oM.b.ok,oM.b.len),h1,by omega,mz,by rw[oM.c.len];exact s1,by rw[oM.c.len];exact s100,tz,z7',z6',λb H2 g2 hb=>?_);have fin:∀(b:Bool),(!b)=true->b≠true:=λb e z=>by rw[z]at e;cases e
  have fit:∀(b:Bool),¬(!b)=true->b=true:=λb e=>by cases b;exact bK rfl e;rfl
  refine(Q,?_);refine ite2 (λd=>?_) (λd=>?_)
  ·refine ite2 (λ_=>?_) (λe=>bK rfl e);refine((),λp hp=>?_);exact qL p _ ((g1.trans g2).trans (zc hp _)) zd mk λz=>fin b d (hb.2 z.1)
  have L1:=hb.1 (fit b d);obtain⟨⟨c2,m2,c2',m2',z2,Y,Y',my,ty,y7,y6⟩,hz⟩:=hz L1;have hM2:=hM1.mono g2;have hN2:=hN1.mono g2;refine(Q,Q,k,A2,B2,C2,n2,h,c2,m2,c2',m2',z2,pm2,ta2,tb2,tc2,ra2,rb2,rc2,V,Z,hN2,(n21,by omega),Y,Y',(oN.a.ok,oN.a.len),(oN.b.ok,oN.b.len),h1,by omega,my,by rw[oN.c.len];exact s1,by rw[oN.c.len];exact s100,ty,y7,y6,λb2 H3 g3 hb2=>?_);have g13:=(g1.trans g2).trans g3;refine(Q,?_);refine ite2 (λd2=>?_) (λd2=>?_)
  ·refine((),λp hp=>?_);exact qL p _ (g13.trans (zc hp _)) zd mk λz=>fin b2 d2 (hb2.2 z.2)
  have L2:=hb2.1 (fit b2 d2);obtain⟨c3,X,hg⟩:=hz L2;have hM3:=hM2.mono g3;have hN3:=hN2.mono g3;refine(Q,Q,Q,Q,k,A,B,C,A2,B2,C2,n,n2,h,s,m,pm,ta,tb,tc,pm2,ta2,tb2,tc2,ra,rb,rc,ra2,rb2,rc2,V,Z,hM3,hN3,oM,oN,n1,n21,by omega,by omega,by omega,s100,λp4 ua ub uc qa qb qc H4 NM=>?_);have ok:=xC Z m7 oM oN;refine(k,_,_,_,n+n2,h,c3,g,z+z,p4,ua,ub,uc,qa,qb,qc,V,Z,NM.mach,(by omega,n8),X,(ok.b.ok,ok.b.len),h1,by omega,(λ_=>(.of (qm zA zA2),.of (by rw[gd];exact xG zB zB2))),by omega,by omega,λW t5 r5 H5 g5 N5 lo sz=>?_);have T:TwoM k n n2 h s A B C A2 B2 C2 W:=(n1,n21,oM.a.ok,oM.a.len,oM.b.ok,oM.b.len,oM.c.ok,oM.c.len,oN.a.ok,oN.a.len,oN.b.ok,oN.b.len,oN.c.ok,oN.c.len,mk,lo,L1,L2);have y:=T.y_ok Z;have np:=T.np Z;subst np;have l5:=zf N5.tab.2;have lW:=(T.unit Z).1;have g35:=NM.same.trans g5;have hM5:=hM3.mono g35;have lra:=zf hM5.a.2;rw[oM.a.len]at lra;refine(t5,V,(_,SqL.of N5.tab.1),?_)
  let Pv1_:Nat->List V->Hp->Prop:=λi ys H'=>∃ ras2,ys=ras2.map V.ref/\Grow H5 H' ((W.map (vz n)).take i) ras2
  refine zq (xs:=r5.map V.ref) Pv1_ ([],V,Grow.nil H5 (Same.refl H5)) ?_ ?_ ?_
  ·rintro i ys H' hi ⟨ras2,rfl,G⟩
   refine(SqL.of (G.same _ _ N5.tab.1),?_);have:=zf G.rows;rw[wr,wa]at this;rw[wa];omega
  ·rintro i v ys H' hv hi ⟨ras2,rfl,G⟩
   obtain⟨row,a,J,ha,rfl,hrow⟩:=(N5.tab.mono G.same).row hv;obtain⟨us,hus,pus,lus⟩:=hrow.len;have hM6:=hM5.mono G.same
   symm
   refine(Q,Q,pm,_,_,Q,V,SqT.of hM6.tup,V,ta,Q,.inl (SqL.of hM6.a.1),?_);rw[wa,← lra];refine(Q,a,Q,SqL.of hus,λp hp=>?_);rw[cutFromF];refine nxt hi (ras2++[p],by rw[wv];rfl,?_);have e:(W.map (vz n))[i]?=some (row.drop n):=by rw[wg,J];rfl
   rw[zh e];exact G.snoc hp (Zk pus n)
  rintro ys H6 ⟨ras2,rfl,G⟩ pl hpl
  rw[wa,wm (by rw[wa];omega)]at G;have N6:=G.done hpl;have g6:=G.same.trans (zc hpl (.lst (ras2.map V.ref)));generalize upd H6 pl (.lst (ras2.map V.ref))=H7 at *;refine(_,n,pl,ras2,V,N6.tab,(λe=>by have:=congrArg uV e;rw[y.2,uI]at this;omega),(λr L=>(y.1 r L).1),by omega,(by rw[y.2];omega),λt8 r8 H8 g8 N8=>?_);have S:=T.s_ok Z;have cS:kad (n*g+1) (kaa n (W.map (vz n))):=by
   have:=zgK (k:=k) Z y.1 (z:=g) λr L=>by
    obtain⟨w,hw,rfl⟩:=wj.1 L;exact Zl (k:=k) (sz w hw) λx J=>.inl (gD J)
   rwa [y.2]at this
  refine(Q,Q,k,_,n,n*g+1+60,t8,r8,V,Z,N8.tab,S.1,S.2,(λr L=>(cS r L).mono (by omega)),by omega,?_,by omega,(λR ls red=>T.back Z red),λR ls t9 r9 H9 g9 N9 red=>?_)
  ·exact hg
  ·refine(Q,(),λp hp=>?_);have gp:=zc hp (.tup [.str "turn",.ref t9,.ref t8]);exact qT W R ls p t9 t8 r9 r8 _ (((((g13.trans g35).trans g6).trans g8).trans g9).trans gp) zd (N9.tab.mono gp) ((N8.tab.mono g9).mono gp) T sz red
inductive zbj:Sp
 | mk:∀(k:Int)(A B C:Tb)(n h s m many:Nat)(pm ta tb tc:Addr)(ra rb rc:List Addr),vs=[.int k,.ref pm,.int (many:Int)]->kab k->kaj H A B C pm ta tb tc ra rb rc->MOk k n h s m A B C->((∀ i,i<many->TOk k s n m (kax k n A C i)))->1<=n->h<=1000->61<=m->(n+2)*m<=20000000->s<=1000->many<=1000->(∀ pt ts rs H',kai H H' (marksM k n h A B C many) ts rs->H' pt=some (.lst (ts.map V.ref))->H pt=none->pt∉ts->(∀ ras∈rs,pt∉ras)->Q (.ref pt) H')->zbj vs H Q E_
def zeW:KnI pg 38 46 zbj:=by
 exists 38,zi,yS,zi,yS,zi
 obtain⟨k,A,B,C,n,h,s,m,many,pm,ta,tb,tc,ra,rb,rc,rfl,Z,hM,oM,oL,n1,h1000,m7,hsz,s1000,my,q⟩:=h;obtain⟨z1,z2,z3,z4⟩:=zgd m7 hsz;have szl:=se
 refine((),λpt hpt=>?_);have g0:=zc hpt (.lst []);have ntc:tc≠pt:=λe=>by have:=hM.c.1;rw[e,hpt]at this;cases this
 have nrc:pt∉rc:=xF hM.c hpt;refine(Q,pm,_,_,Q,V,SqT.of (g0 _ _ hM.tup),V,?_);refine(Q,many,V,(),(),?_);rw[vn]
 let Pv1_:Nat->L2.St->Hp->Prop:=λi E H4=>∃ tl rl ts rs o5,E=[some (.int k),some (.ref pm),some (.int (many:Int)),some (.ref pt),some (.ref tl),o5]/\kac H4 (kax k n A C (i - 1)) tl rl/\tl≠pt/\pt∉rl/\kai H H4 ((marksM k n h A B C many).take i) ts rs/\H4 pt=some (.lst (ts.map V.ref))/\pt∉ts/\(∀ ras∈rs,pt∉ras)
 refine yu (lo:=0) (n:=many) Pv1_ (tc,rc,[],[],none,V,hM.c.mono g0,ntc,nrc,kai.nil g0,zd,by simp,λras L=>(nomatch L)) ?_ ?_
 ·rintro i E H4 hi ⟨tl,rl,ts,rs,o5,rfl,hL,ntl,nrl,G,hpt4,nt4,nr4⟩
  have M4:=hM.mono G.same
  try dsimp only
  let Pv2_:L2.St->Hp->Prop:=λE H'=>∃ tl rl,E=[some (.int k),some (.ref pm),some (.int (many:Int)),some (.ref pt),some (.ref tl),some (.int (0 +(i:Int)))]/\Same H4 H'/\kac H' (kax k n A C i) tl rl/\tl≠pt/\pt∉rl
  refine ZN Pv2_ ?_ ?_
  rotate_left
  ·intro hN;refine(Q,_,Q,V,Q,?_);refine ite2 (λcc=>?_) (λcc=>?_)
   ·have i0:0<i:=by have:(0:Int)<0 +(i:Int):=bG cc;omega
    obtain⟨i',rfl⟩ : ∃ i',i=i'+1:=(i - 1,());rw[Nat.add_sub_cancel]at hL;have oL':=oL i' ();refine(Q,Q,Q,pm,_,_,Q,V,SqT.of M4.tup,V,k,kax k n A C i',A,n,n,m,tl,ta,rl,ra,V,Z,hL,M4.a,oL'.ok,oM.a.ok,oM.a.len,n1,oL'.sz,oM.a.sz,m7,hsz,(),(by rw[oL'.len];omega),λt5 r5 H5 g5 n5=>?_);refine hN _ _ (t5,r5,V,g5,n5.tab,λe=>?_,λhm=>?_)
    ·have:=n5.ft;rw[e,hpt4]at this;cases this
    ·have:=n5.fr _ hm;rw[hpt4]at this;cases this
   ·have i0:i=0:=by
     have:¬(0:Int)<0 +(i:Int):=bH (uS.mpr cc);omega
    subst i0;exact hN _ _ (tl,rl,V,Same.refl _,hL,ntl,nrl)
  clear hL ntl nrl
  rintro E H5 ⟨tl,rl,rfl,g5,hL,ntl,nrl⟩
  have M5:=M4.mono g5;have hpt5:=g5 _ _ hpt4;have oL':=oL i hi;refine(Q,.inl (V,_,SqL.of hpt5),Q,Q,Q,pm,_,_,Q,V,SqT.of M5.tup,V,k,kax k n A C i,B,n,h,m,tl,tb,rl,rb,V,Z,hL,M5.b,oL'.ok,oM.b.ok,oM.b.len,n1,oL'.sz,oM.b.sz,m7,hsz,(),(by rw[oL'.len];omega),λt6 r6 H6 g6 n6=>?_);have hpt6:=g6 _ _ hpt5;have lts:=G.lt;rw[wr,xE]at lts;refine(pt,_,Q,V,hpt6,(by rw[wa];omega),?_);have nt6:pt≠t6:=λe=>by have:=n6.ft;rw[← e,hpt5]at this;cases this
  have nr6:pt∉r6:=λhm=>by have:=n6.fr _ hm;rw[hpt5]at this;cases this
  have nts:pt∉ts++[t6]:=λhm=>by
   rcases wp.mp hm with h|h
   ·exact nt4 h
   ·exact nt6 (wx.mp h)
  have nrs:∀ ras∈rs++[r6],pt∉ras:=λras hm=>by
   rcases wp.mp hm with h|h
   ·exact nr4 ras h
   ·rw[wx.mp h];exact nr6
  have G6:=(G.mono g5).push g6 n6;rw[← zh (jy hi)]at G6;refine(tl,rl,ts++[t6],rs++[r6],Q,(hL.mono g6).upd ntl nrl hpt6,ntl,nrl,G6.updAt hpt hpt6 nts nrs,?_,nts,nrs);rw[zd,wv];rfl
 ·rintro E H4 ⟨tl,rl,ts,rs,o5,rfl,hL,ntl,nrl,G,hpt4,nt4,nr4⟩
  rw[wm (by rw[xE];omega)]at G;exact(Q,q pt ts rs H4 G hpt4 hpt nt4 nr4)
inductive YW:Sp
 | mk:∀ bO t ras,vs=[.ref t]->H t=some (.lst (ras.map V.ref))->Paired (λus a=>H a=some (.lst us)) bO ras->(∀ us∈bO,us.length<=100)->bO.length<=100->(∀ p H',Same H H'->H p=none->H' p=some (.lst bO.flatten)->Q (.ref p) H')->YW vs H Q E_
def ZP:∀(bO:List (List V)),(∀ r∈bO,r.length<=100)->bO.flatten.length<=bO.length*100
 | [],_=>by simp
 | r::bO,h=>by
  have h1:=ZP bO (λr L=>h r (wt _ L));have h2:=h r wo;rw[vE,wy,vO,uW];omega
def qP:KnI pg 26 1 YW:=by
 exists 26,zo
 obtain⟨bO,t,ras,rfl,hT,pL,hn,m100,q⟩:=h;have szl:=se
 have lr:=zf pL;refine((),λpt hpt=>?_);have g0:=zc hpt (.lst []);refine(Q,t,V,(_,SqL.of (g0 _ _ hT)),?_)
 let Pv1_:Nat->L2.St->Hp->Prop:=λi E H'=>∃ o2,E=[some (.ref t),some (.ref pt),o2]/\Same H H'/\H' pt=some (.lst (bO.take i).flatten)
 refine yn (xs:=ras.map V.ref) Pv1_ (none,V,g0,zd) ?_ ?_ ?_
 ·rintro i E H' _ ⟨o2,rfl,g,_⟩
  exact SqL.of (g _ _ hT)
 ·rintro i v E H' hv ⟨o2,rfl,g,hp⟩
  rw[wg]at hv;obtain⟨a,ha,rfl⟩:=wG.mp hv;obtain⟨us,hus,hz⟩:=zK pL ha;have il:=(wu.mp hus).1;have l1:=ZP (bO.take i) λr L=>hn r (vD L)
  rw[wr]at l1;have l2:=hn us (we hus);have b1:min i bO.length*100<=100*100:=wI _ ();refine(Q,.inl (V,_,SqL.of hp),Q,pt,a,_,us,V,V,hp,g _ _ hz,(),Q,yp g hpt,?_);rw[zd,zh hus,gd,vE,waj,vW]
 ·rintro E H' ⟨o2,rfl,g,hp⟩
  rw[wa,wm ()]at hp;exact(Q,q pt H' g hpt hp)
def zan X i q:∀ bN,sqR X i q bN =((wY bN).map λj=>(X (i+j)).getD q []).flatten
 | 0=>rfl
 | bN+1=>by
  rw[wa8,wv,gd,← zan X i q bN];simp[sqR]
def Xr:∀ {xs:List (List α)} {ys:List (List β)},Paired (Paired R) xs ys->Paired R xs.flatten ys.flatten
 | _,_,.nil=>.nil
 | _,_,.cons r t=>by
  rw[vE,vE];exact xV r (Xr t)
def ZK:∀ {rows:Tb} {bs:List Addr},Paired (kaq H) rows bs->∃ bO:List (List V),Paired (λus a=>H a=some (.lst us)) bO bs/\Paired (Paired (RN H)) rows bO
 | _,_,.nil=>([],.nil,.nil)
 | _,_,.cons ⟨us,hu,pu⟩ t=>by
  obtain⟨bO,p1,p2⟩:=ZK t;exact(us::bO,.cons hu p1,.cons pu p2)
structure TsAt(H:Hp)(k:Int)(Ps:Nat->Tb)(N q m:Nat)(pm:Addr)(ts:List Addr):Prop where
 lst:H pm=some (.lst (ts.map V.ref))
 len:ts.length=N
 tab:∀ t,t<N->∃ a rs,ts[t]?=some a/\kac H (Ps t) a rs
 ok:∀ t,t<N->OkM k m (Ps t)/\(Ps t).length=q
def TsAt.mono(h:TsAt H k Ps N q m pm ts)(g:Same H H'):TsAt H' k Ps N q m pm ts :=
 (g _ _ h.lst,h.len,λt ht=>by obtain⟨a,rs,e,T⟩:=h.tab t ht;exact(a,rs,e,T.mono g),h.ok)
inductive YM:Sp
 | mk:∀(k:Int)(Ps X:Nat->Tb)(N q m st many:Nat)(sI mI:Int)(pm:Addr)(ts:List Addr),vs=[.ref pm,.int sI,.int mI]->sI =(st:Int)->mI =(many:Int)->TsAt H k Ps N q m pm ts->((∀ t,t<N->kaa m (Ps t)=X t))->st+many<=N->1<=many->N<=20->m<=10->1<=q->q<=10->(∀ t ras H',Same H H'->NewT H H' (sqI X many st m) t ras->Q (.ref t) H')->YM vs H Q E_
def Xk:KnI pg 59 2 YM:=by
 exists 59,[],zo,yK,yh,yb,[3],zj,qP,[0],zo,zj
 obtain⟨k,Ps,X,N,q',m,st,many,sI,mI,pm,ts,rfl,rfl,rfl,hT,hX,sN,my,N20,m10,q1,q10,q⟩:=h;have szl:=se
 have lts:=hT.len;have oX:∀ t,t<N->OkM k q' (X t)/\(X t).length=m:=λt ht=>by
  have o:=hT.ok t ht;have:=zg o.1;rw[o.2]at this;rw[← hX t ht];exact(this,ze m _)
 refine(Q,Q,Q,Q,Q,_,Q,V,Q,pm,Q,SqL.of hT.lst,λps hps=>?_);rw[cutAB st many (by rw[wa];omega),← Gc,← gQ]at *;have g0:=zc hps (.lst (((ts.drop st).take many).map V.ref));have h0:upd H ps (.lst (((ts.drop st).take many).map V.ref)) ps=some (.lst (((ts.drop st).take many).map V.ref)):=zd;generalize upd H ps (.lst (((ts.drop st).take many).map V.ref))=H0 at *;have hT0:=hT.mono g0;have ll:((ts.drop st).take many).length=many:=by rw[wr,ue];omega
 refine(ps,V,(_,SqL.of h0),?_)
 let Pv1_:Nat->List V->Hp->Prop:=λi ys H'=>∃ as:List Addr,ys=as.map V.ref/\as.length=i/\Same H0 H'/\∀ j,j<i->∃ a rs,as[j]?=some a/\kac H' (X (st+j)) a rs
 refine zq (xs:=((ts.drop st).take many).map V.ref) Pv1_ ([],V,V,Same.refl _,λ_ h=>bK h (vN _)) ?_ ?_ ?_
 ·rintro i ys H' hi ⟨as,rfl,la,g,_⟩
  rw[wa,ll]at hi;exact(SqL.of (g _ _ h0),by rw[wa];omega)
 ·rintro i v ys H' hv hi ⟨as,rfl,la,g,tabs⟩
  have hi':=hi;rw[wa,ll]at hi';obtain⟨a,rs,ea,T⟩:=(hT0.mono g).tab (st+i) ();have ev:v=.ref a:=by
   rw[wg,gM,bw hi',gk,ea]at hv;exact(Option.some.inj hv).symm
  subst ev;have o:=hT.ok (st+i) ()
  symm
  refine(Q,Ps (st+i),m,a,rs,V,T,(λe=>by rw[e]at o;have:=o.2;simp at this;omega),(λr L=>(o.1 r L).1),(),(),λt1 r1 H1 g1 N1=>?_);refine nxt hi (as++[t1],by rw[wv];rfl,by rw[wy,la];rfl,g.trans g1,λj hj=>?_)
  rcases uv (ux hj)with h'|h'
  ·obtain⟨a',rs',e',T'⟩:=tabs j h';exact(a',rs',by rw[vk ()];exact e',T'.mono g1)
  ·subst h';refine(t1,r1,by rw[← la,wW (ww _),uE];rfl,?_);have:=N1.tab;rw[hX (st+j) ()]at this;exact this
 rintro ys H1 ⟨as,rfl,la,g1,tabs⟩ pc hpc
 rw[wa,ll]at la tabs;have g2:=zc hpc (.lst (as.map V.ref));have h2:upd H1 pc (.lst (as.map V.ref)) pc=some (.lst (as.map V.ref)):=zd;have tabs2:∀ j,j<many->∃ a rs,as[j]?=some a/\kac (upd H1 pc (.lst (as.map V.ref))) (X (st+j)) a rs:=λj hj=>by
  obtain⟨a,rs,e,T⟩:=tabs j hj;exact(a,rs,e,T.mono g2)
 have g02:=(g0.trans g1).trans g2;generalize upd H1 pc (.lst (as.map V.ref))=H2 at *;obtain⟨a0,rs0,e0,T0⟩:=tabs2 0 ();have l0:=zf T0.2;rw[(oX (st+0) ()).2]at l0;refine(Q,pc,_,_,.ref a0,V,V,SqL.of h2,zt (j:=0) (by rw[wg,e0];rfl),a0,Q,.inl (SqL.of T0.1),m,(by rw[wa,← l0]),(),(),?_);rw[vn]
 let Pv2_:Nat->List V->Hp->Prop:=λi ys H'=>∃ ras2,ys=ras2.map V.ref/\Grow H2 H' ((sqI X many st m).take i) ras2
 refine zZ (lo:=0) (n:=m) Pv2_ ([],V,Grow.nil H2 (Same.refl H2)) ?_ ?_ ?_
 ·rintro i ys H' hi ⟨ras2,rfl,G⟩
  have:=zf G.rows;rw[wr,yi]at this;rw[wa];omega
 ·rintro i ys H' hi ⟨ras2,rfl,G⟩
  symm
  refine(Q,pc,V,(_,SqL.of (G.same _ _ h2)),?_)
  let Pv3_:Nat->List V->Hp->Prop:=λj ys' H3=>H3=H'/\∃ bs:List Addr,ys'=bs.map V.ref/\Paired (kaq H') ((wY j).map λj=>(X (st+j)).getD i []) bs
  refine zq (xs:=as.map V.ref) Pv3_ (V,[],V,.nil) ?_ ?_ ?_
  ·rintro j ys' H3 hj ⟨rfl,bs,rfl,pb⟩
   have:=zf pb;rw[wa,vx]at this;rw[wa]at hj;exact(SqL.of (G.same _ _ h2),by rw[wa];omega)
  ·rintro j v ys' H3 hv hj ⟨rfl,bs,rfl,pb⟩
   have hj':=hj;rw[wa,la]at hj';obtain⟨a,rs,ea,T⟩:=tabs2 j hj';have ev:v=.ref a:=by
    rw[wg,ea]at hv;exact(Option.some.inj hv).symm
   subst ev;have T3:=T.mono G.same;obtain⟨ei,li,oi⟩:=Jh oX (t:=st+j) (q:=i) () hi;obtain⟨b,eb,rb⟩:=yj T3.2 ei
   symm
   refine(Q,Q,a,_,_,.ref b,V,V,SqL.of T3.1,(by rw[vQ];exact zt (by rw[wg,eb];rfl)),nxt hj (V,bs++[b],by rw[wv];rfl,?_));rw[wa8,wv];exact zJ pb rb
  ·rintro ys' H3 ⟨rfl,bs,rfl,pb⟩ pn hpn
   rw[wa,la]at pb;have lb:=zf pb;rw[wa,vx]at lb;have g4:=zc hpn (.lst (bs.map V.ref));have h4:upd H3 pn (.lst (bs.map V.ref)) pn=some (.lst (bs.map V.ref)):=zd;have pb4:Paired (kaq (upd H3 pn (.lst (bs.map V.ref)))) ((wY many).map λj=>(X (st+j)).getD i []) bs:=yC (λ_ _ r=>r.mono g4) pb;have G4:=G.mono g4;generalize upd H3 pn (.lst (bs.map V.ref))=H4 at *;obtain⟨bO,pL,pF⟩:=ZK pb4;have lL:=zf pF;rw[wa,vx]at lL;refine(bO,pn,bs,V,h4,pL,(λus hu=>?_),(),λp H5 g5 hp h5=>?_)
   ·obtain⟨xs,J,px⟩:=xS pF hu;obtain⟨j,hj,rfl⟩:=wj.mp J;have hj':=wP.mp hj;obtain⟨_,li,_⟩:=Jh oX (t:=st+j) (q:=i) () hi;rw[← zf px,li];omega
   refine nxt hi (ras2++[p],by rw[wv];rfl,?_);have ei:(sqI X many st m)[i]?=some (sqR X st i many):=by
    clear G G4 pL pF;have:∀ M,i<M->(sqI X many st M)[i]?=some (sqR X st i many):=by
     intro M
     induction M with
     | zero=>intro h;exact bK h (vN _)
     | succ M ih =>
      intro h;show(sqI X many st M++[sqR X st M many])[i]?=_
      rcases uv (ux h)with h'|h'
      ·rw[vk (by rw[yi];exact h')];exact ih h'
      ·subst h';rw[wW (by rw[yi];exact ww _),yi,uE];rfl
    exact this m hi
   rw[zh ei];refine G4.snocR g5 (bO.flatten,h5,?_) hp;rw[zan];exact xT g5 (Xr pF)
 ·rintro ys H' ⟨ras2,rfl,G⟩ t ht
  rw[wm (by rw[yi];exact ww _)]at G;have Nt:=G.done ht;exact q t ras2 _ (g02.trans (G.same.trans (zc ht _))) (Nt.tab,g02.none Nt.ft,λr L=>g02.none (Nt.fr r L),Nt.nd,Nt.nt)
structure MkIn(k:Int)(Ps X:Nat->Tb)(h q m:Nat):Prop where
 h1:1<=h
 h4:h<=4
 q1:1<=q
 q2:q<=2
 m1:1<=m
 m2:m<=2
 tr:∀ t,t<h+h->kaa m (Ps t)=X t
 wh:∀ t,t<h+h->∀ r∈Ps t,∀ x∈r,whk k 190 x
 h3:k=0->h<=3
def MkIn.oX(I:MkIn k Ps X h q m)(ok:∀ t,t<h+h->OkM k m (Ps t)/\(Ps t).length=q):∀ t,t<h+h->OkM k q (X t)/\(X t).length=m:=λt ht=>by
 have o:=ok t ht;have:=zg o.1;rw[o.2]at this;rw[← I.tr t ht];exact(this,ze m _)
def MkIn.wX(I:MkIn k Ps X h q m)(ok:∀ t,t<h+h->OkM k m (Ps t)/\(Ps t).length=q):∀ t,t<h+h->∀ r∈X t,∀ x∈r,whk k 190 x:=λt ht=>by
 rw[← I.tr t ht];exact ye (ok t ht).1 (I.wh t ht)
def MkIn.rows(I:MkIn k Ps X h q m)(ok:∀ t,t<h+h->OkM k m (Ps t)/\(Ps t).length=q)(ab:a+b<=h+h+1):kad 190 (sqT X a m b):=λr L =>
 Yt () (xc (I.oX ok) ab r L).2 (zdJ (I.oX ok) (I.wX ok) ab r L)
def MkIn.small(Z:kab k)(I:MkIn k Ps X h q m)(ok:∀ t,t<h+h->OkM k m (Ps t)/\(Ps t).length=q)(iR:IsRa k ((h+1)*q) R ls)(hs:s<=h)(e:kau k R (sqT X (h+1) m s))(l:R.length<=h):kad 1528 R:=by
 have h4:=I.h4
 by_cases k0:k=0
 rotate_left
 ·exact zV k0 (zE Z iR).1 ()
 have h3:=I.h3 k0;have:=Zq Z iR (g:=190) () (_,xc (I.oX ok) (),I.rows ok (),e);refine this.mono (wE (wS _ (pow2 (show R.length<=3 by omega))) ())
inductive za6:Sp
 | mk:∀(k:Int)(Ps X:Nat->Tb)(h q m:Nat)(hI:Int)(pm:Addr)(ts:List Addr),vs=[.int k,.ref pm,.int hI]->hI =(h:Int)->kab k->TsAt H k Ps (h+h) q m pm ts->MkIn k Ps X h q m->(∀ R ls s t rs H',Same H H'->kac H' R t rs->IsRa k ((h+1)*q) R ls->s<=h->kau k R (sqT X (h+1) m s)->(s=h\/h<R.length\/∃ s',s=s'+1/\∀ F [bu F] (O:Kf k F) v,Rm O (sqT X (h+1) m s) v->Rm O (sqT X (h+1) m s') v)->Q (.ref t) H')->za6 vs H Q E_
def zeX:KnI pg 60 47 za6:=by
 exists 60,xZ,Xk,yh,yF
 obtain⟨k,Ps,X,h,q',m,hI,pm,ts,rfl,rfl,Z,hT,I,q⟩:=h;have szl:=se
 obtain⟨h1,h4,q1,q2,m1,m2⟩:=((I.h1,I.h4,I.q1,I.q2,I.m1,I.m2) : 1<=h/\h<=4/\1<=q'/\q'<=2/\1<=m/\m<=2);have oX:=I.oX hT.ok;have w10:(h+1)*q'<=10:=wE (vm (show h+1<=5 by omega) q2) ();have big:(1528+1)*2^((h+1)*q')<=60000000:=wE (wS _ (pow2 w10)) ();refine((),λpt hpt=>?_);have g0:=zc hpt (.lst []);have h0:upd H pt (.lst []) pt=some (.lst []):=zd;generalize upd H pt (.lst [])=H0 at *;refine(Q,h,V,(),(),?_);rw[vn]
 let Pv1_:Nat->L2.St->Hp->Prop:=λi E H'=>∃(R:Tb)(ls:List Nat)(pr:Addr)(rr:List Addr)(o4 o5:Option V),E=[some (.int k),some (.ref pm),some (.int (h:Int)),some (.ref pr),o4,o5]/\Same H H'/\kac H' R pr rr/\IsRa k ((h+1)*q') R ls/\kau k R (sqT X (h+1) m i)/\R.length<=h
 refine yu (lo:=0) (n:=h) Pv1_ ([],[],pt,[],none,none,V,g0,(h0,.nil),XM,(λF _ O v=>Iff.rfl),vI _) ?_ ?_
 ·rintro i E H1 hi ⟨R,ls,pr,rr,o4,o5,rfl,g1,hR,iR,eR,lR⟩
  have hT1:=hT.mono g1;refine(Q,Q,Q,Q,Q,_,Q,V,k,Ps,X,h+h,q',m,i,h+1,_,_,pm,ts,V,(),(),hT1,I.tr,(),(),(),(),q1,(),λt1 r1 H2 g2 N1=>?_);have oI:OkM k ((h+1)*q') (sqI X (h+1) i m):=λr L=>xc oX (a:=h+1) (b:=i+1) () r (wF _ L)
  have bI:kad 190 (sqI X (h+1) i m):=λr L=>I.rows hT.ok (a:=h+1) (b:=i+1) () r (wF _ L)
  have sR:=I.small Z hT.ok iR () eR lR;refine(k,R,sqI X (h+1) i m,(h+1)*q',1528,pr,t1,rr,r1,V,Z,hR.mono g2,N1.tab,(zE Z iR).1,oI,sR,bI.mono (),(),big,(),(),(by rw[yi];omega),λW lw tw rw' H3 g3 NW red=>?_);have iW:=yc red;have eW:kau k W (sqT X (h+1) m (i+1)):=λF _ O v=>by
   have h1:Rm O W v↔Rm O (R++sqI X (h+1) i m) v:=((red F O).fro v,(red F O).to v);exact h1.trans (XH eR F O v)
  have g13:=(g1.trans g2).trans g3;have hR3:=hR.mono (g2.trans g3);have lw1:=zf NW.tab.2;have lr1:=zf hR3.2;refine(Q,tw,Q,.inl (SqL.of NW.tab.1),Q,pr,Q,.inl (SqL.of hR3.1),V,Q,?_);rw[wa,wa,← lw1,← lr1];have fin:(h<W.length\/W.length=R.length)->Q (.ref tw) H3:=λc=>by
   refine q W lw (i+1) tw rw' H3 g13 NW.tab iW () eW ?_
   rcases c with c|c
   ·exact .inr (.inl c)
   ·refine .inr (.inr (i,V,λF _ O v hv=>?_));have sub:=(iR F O).sub_len (iW F O) λv hv=>(eW F O v).mpr (xu (λr L=>wO _ L) ((eR F O v).mp hv))
    exact(eR F O v).mp (sub.2 () v ((eW F O v).mpr hv))
  refine ite2 (λd=>?_) (λd=>?_)
  ·exact iteT (Q,fin (.inr (by have:=V.int.inj (bG d);omega)))
  have d1:W.length≠R.length:=λe=>d (bF (by rw[e]))
  refine(Q,tw,Q,.inl (SqL.of NW.tab.1),Q,_,Q,V,Q,?_);rw[wa,← lw1];refine ite2 (λd=>?_) (λd=>?_)
  ·exact(Q,fin (.inl (by have:=bG d;omega)))
  ·have d2:W.length<=h:=by
    rcases wH h W.length with z|z
    ·exact bK (bF ()) d
    ·exact z
   exact(Q,W,lw,tw,rw',_,Q,g13,NW.tab,iW,eW,d2)
 ·rintro E H1 ⟨R,ls,pr,rr,o4,o5,rfl,g1,hR,iR,eR,lR⟩
  exact(Q,q R ls h pr rr H1 g1 hR iR (ww h) eR (.inl rfl))
def Xs{K:bv}{te:TE}{σb:L2.St}{t:Addr}{ras:List Addr}{M:Tb}{H:Hp}{R:List V->Hp->Prop}(f:List Nb->List Nb)(hT:kac H M t ras)(hz:M.length<sizeLine)
  (hte:∀(r:List Nb)(a:Addr)(H':Hp)(Q:VK),r∈M->Same H H'->kaq H' r a->(∀(p:Addr)(us:List V)(H2:Hp),Same H' H2->H2 p=none->Paired (RN H2) (f r) us->Q (.ref p) (upd H2 p (.lst us)))->te (σb.set 0 (some (.ref a))) H' Q)
  (hd:∀(ras2:List Addr)(H':Hp),Grow H H' (M.map f) ras2->R (ras2.map V.ref) H') :
  ∃ W:Nat->Nat->List V->Hp->Prop,(∃ m,W 0 m [] H)/\∀ i m ys H,W i m ys H ->
   ((Itl K t).stop i H/\ys.length<=sizeLine/\R ys H) \/
   ((Itl K t).go i H/\ys.length<sizeLine/\∀ x H',(Itl K t).yld i H x H'->gName 0 x σb H' λσ2 H2=>tTrue σ2 H2 λb H3=>if b=true then te σ2 H3 λy H4=>∃ m',m'<m/\W (i+1) m' (ys++[y]) H4 else ∃ m',m'<m/\W (i+1) m' ys H3):=by
 have hl:=zf hT.2;refine zq (xs:=ras.map V.ref) (λi ys H'=>∃ ras2,ys=ras2.map V.ref/\Grow H H' ((M.map f).take i) ras2) ([],V,Grow.nil H (Same.refl H)) ?_ ?_ ?_
 ·rintro i ys H' hi ⟨ras2,rfl,G⟩
  refine(SqL.of (G.same _ _ hT.1),?_);have:=zf G.rows;rw[wr,wa]at this;rw[wa];omega
 ·rintro i v ys H' hv hi ⟨ras2,rfl,G⟩
  obtain⟨row,a,hrow,ha,rfl,hR⟩:=(hT.mono G.same).row hv;refine gyes (hte row a H' _ (we hrow) G.same hR λp us H2 g2 hp pu=>?_);refine nxt hi (ras2++[p],by rw[wv];rfl,?_);have e:(M.map f)[i]?=some (f row):=by rw[wg,hrow];rfl
  rw[zh e];exact(G.mono g2).snoc hp pu
 ·rintro ys H' ⟨ras2,rfl,G⟩
  rw[wa,← hl,wm (by rw[wa];exact ww _)]at G;exact hd ras2 H' G
def cut0(q:Nat)(h:q<=xs.length):cutV xs none (some (q:Int))=xs.take q:=by
 unfold cutV;rw[HT.Zp,wbo,waC,HT.jh,gv h]
def Qc{K:bv}{te:TE}{σb:L2.St}{pl a:Addr}{ls:List Nat}{o n:Nat}{row:List Nb}{H:Hp}{R:List V->Hp->Prop}(hL:H pl=some (.lst (natV ls)))(hR:kaq H row a)(lr:row.length=n)(ld:∀ l∈ls,o+l<n)(l10:ls.length<=1000)
  (hte:∀(l:Nat)(v:V)(Q:VK),l∈ls->(∃ us,H a=some (.lst us)/\us[o+l]?=some v)->Q v H->te (σb.set 0 (some (.int (l:Int)))) H Q)
  (hd:∀ us,Paired (RN H) (pkR ls o row) us->R us H) :
  ∃ W:Nat->Nat->List V->Hp->Prop,(∃ m,W 0 m [] H)/\∀ i m ys H,W i m ys H ->
   ((Itl K pl).stop i H/\ys.length<=sizeLine/\R ys H) \/
   ((Itl K pl).go i H/\ys.length<sizeLine/\∀ x H',(Itl K pl).yld i H x H'->gName 0 x σb H' λσ2 H2=>tTrue σ2 H2 λb H3=>if b=true then te σ2 H3 λy H4=>∃ m',m'<m/\W (i+1) m' (ys++[y]) H4 else ∃ m',m'<m/\W (i+1) m' ys H3):=by
 have szl:=se
 have ln:(natV ls).length=ls.length:=wa _;obtain⟨us,hu,pu,lu⟩:=hR.len;refine zq (xs:=natV ls) (λi ys H'=>H'=H/\Paired (RN H) ((pkR ls o row).take i) ys) (V,.nil) ?_ ?_ ?_
 ·rintro i ys H' hi ⟨rfl,pr⟩
  refine(SqL.of hL,?_);have:=zf pr;rw[wr]at this;rw[ln]at hi;omega
 ·rintro i v ys H' hv hi ⟨rfl,pr⟩
  unfold natV at hv;rw[wg]at hv;obtain⟨l,hl,rfl⟩:=wG.mp hv;have g:=(Zg (k:=0) lr (ld l (we hl)) (.z 0)).1;obtain⟨u,eu,ru⟩:=yj pu g;refine gyes (hte l u _ (we hl) (us,hu,eu) (nxt hi (V,?_)));have e:(pkR ls o row)[i]?=some (row.getD (o+l) (.z 0)):=by unfold pkR;rw[wg,hl];rfl
  rw[zh e];exact zJ pr ru
 ·rintro ys H' ⟨rfl,pr⟩
  rw[ln,wm (by unfold pkR;rw[wa];exact ww _)]at pr;exact hd ys pr
inductive Jt:Sp
 | mk:∀ k Ps X h q m R ls pm t pl ts rs,vs=[.ref pm,.ref t,.ref pl]->TsAt H k Ps (h+h) q m pm ts->MkIn k Ps X h q m->kac H R t rs->H pl=some (.lst (natV ls))->OkM k ((h+1)*q) R->ls.length=R.length->1<=R.length->R.length<=10->(∀ l∈ls,l<h*q)->(∀ p ta tb tc ra rb rc H',Same H H'->kaj H' (mA q R ls) (mB X (h+h) m ls) (mC q R) p ta tb tc ra rb rc->Q (.ref p) H')->Jt vs H Q E_
def zcd:KnI pg 61 3 Jt:=by
 exists 61,zj,Xk,yb,[2,3],zo,[0,2],zo,zj,yh,yb,[2],zo,[0],zo,zj,yb,[3],zo,yK
 obtain⟨k,Ps,X,h,q',m,R,ls,pm,t,pl,ts,rs,rfl,hT,I,hR,hL,oR,ll,r1,r10,ld,q⟩:=h;have szl:=se
 obtain⟨h1,h4,q1,q2,m1,m2⟩:=((I.h1,I.h4,I.q1,I.q2,I.m1,I.m2) : 1<=h/\h<=4/\1<=q'/\q'<=2/\1<=m/\m<=2);have oX:=I.oX hT.ok;have w10:(h+1)*q'<=10:=wE (vm (show h+1<=5 by omega) q2) ();have wq:(h+1)*q'=h*q'+q':=by rw[vG,vL]
 have ldA:∀ l∈ls,q'+l <(h+1)*q':=λl hl=>by have:=ld l hl;omega
 have ld2:∀ l∈ls,l <(h+h)*q':=λl hl=>by have:=ld l hl;rw[vG];omega
 obtain⟨a0,rs0,e0,T0⟩:=hT.tab 0 ();have l0:=zf T0.2;rw[(hT.ok 0 ()).2]at l0;refine(Q,pm,_,_,.ref a0,V,V,SqL.of hT.lst,zt (j:=0) (by rw[wg,e0];rfl),a0,Q,.inl (SqL.of T0.1),?_);rw[wa,← l0];refine(Q,Q,pm,Q,.inl (SqL.of hT.lst),?_);rw[wa,hT.len];refine(k,Ps,X,h+h,q',m,0,h+h,_,_,pm,ts,V,V,V,hT,I.tr,(),(),(),(),q1,(),λtf rf H1 g1 NF=>?_);have hR1:=hR.mono g1;have hL1:=g1 _ _ hL;have oI:OkM k ((h+h)*q') (sqI X (h+h) 0 m):=λr L=>by
  obtain⟨l,hl,rfl⟩:=(jM m).mp L;exact qX oX hl (h+h) ()
 refine(Q,t,V,(_,SqL.of hR1.1),?_);refine Xs (pkR ls q') hR1 () (λr a H2 Q2 hr2 g2 ha hq=>?_) ?_
 ·refine(Q,pl,V,(_,SqL.of (g2 _ _ hL1)),?_);exact Qc (g2 _ _ hL1) ha (oR r hr2).1 ldA () (λl v Q3 hl ⟨us,hu,eu⟩ h3=>(Q,Q,Q,_,Q,V,a,_,_,v,V,V,SqL.of hu,(by rw[show(q':Int) +(l:Int) =((q'+l:Nat):Int) by omega];exact zt eu),h3)) λus pu p hp=>hq p us H2 (Same.refl _) hp pu
 intro ras2 H2 G2 pn hpn;have N2:=G2.done hpn;have g2:=G2.same.trans (zc hpn (.lst (ras2.map V.ref)));generalize upd H2 pn (.lst (ras2.map V.ref))=H3 at *;have oA0:=XS oR ldA;refine(R.map (pkR ls q'),ls.length,pn,ras2,V,N2.tab,(λe=>by have:=congrArg uV e;rw[wa]at this;simp at this;rw[this]at r1;simp at r1),(λr L=>(oA0 r L).1),(),(by rw[wa];omega),λtA rA H4 g4 NA=>?_);have g14:=g2.trans g4;have hF4:=NF.tab.mono g14;have hL4:=g14 _ _ hL1;refine(Q,tf,V,(_,SqL.of hF4.1),?_);refine Xs (pkR ls 0) hF4 (by rw[yi];omega) (λr a H5 Q2 hr2 g5 ha hq=>?_) ?_
 ·refine(Q,pl,V,(_,SqL.of (g5 _ _ hL4)),?_);exact Qc (g5 _ _ hL4) ha (oI r hr2).1 (λl hl=>by rw[uk];exact ld2 l hl) () (λl v Q3 hl ⟨us,hu,eu⟩ h3=>(Q,Q,a,_,_,v,V,V,SqL.of hu,zt (by rw[uk]at eu;exact eu),h3)) λus pu p hp=>hq p us H5 (Same.refl _) hp pu
 intro ras5 H5 G5 pn5 hpn5;have N5:=G5.done hpn5;have g5:=G5.same.trans (zc hpn5 (.lst (ras5.map V.ref)));generalize upd H5 pn5 (.lst (ras5.map V.ref))=H6 at *;have oB0:=XS oI (o:=0) (ls:=ls) λl hl=>by rw[uk];exact ld2 l hl
 refine((sqI X (h+h) 0 m).map (pkR ls 0),ls.length,pn5,ras5,V,N5.tab,(λe=>by have:=congrArg uV e;rw[wa,yi]at this;simp at this;omega),(λr L=>(oB0 r L).1),(),(by rw[wa,yi];omega),λtB rB H7 g7 NB=>?_);have g47:=g5.trans g7;have hR7:=(hR1.mono g14).mono g47;refine(Q,Q,Q,t,V,(_,SqL.of hR7.1),?_);refine Xs (vS q') hR7 () (λr a H8 Q2 hr2 g8 ha hq=>?_) ?_
 ·obtain⟨us,hu,pu,lu⟩:=ha.len;refine(Q,Q,Q,a,Q,SqL.of hu,λp hp=>?_);have lr:=(oR r hr2).1;rw[cut0 q' ()];exact hq p _ H8 (Same.refl _) hp (Zh pu q')
 intro ras8 H8 G8 pn8 hpn8;have N8:=G8.done hpn8;have g8:=G8.same.trans (zc hpn8 (.lst (ras8.map V.ref)));generalize upd H8 pn8 (.lst (ras8.map V.ref))=H9 at *;have oC0:∀ r∈R.map (vS q'),r.length=q':=λr L=>by
  obtain⟨x,J,rfl⟩:=wj.mp L;rw[wr,(oR x J).1];omega
 refine(R.map (vS q'),q',pn8,ras8,V,N8.tab,(λe=>by have:=congrArg uV e;rw[wa]at this;simp at this;rw[this]at r1;simp at r1),oC0,(),(by rw[wa];omega),λtC rC H10 g10 NC=>?_);refine((),λp hp=>?_);have g11:=zc hp (.tup [.ref tA,.ref tB,.ref tC]);have g710:=g8.trans g10;exact q p tA tB tC rA rB rC _ (((((g1.trans g14).trans g47).trans g710).trans g11)) (zd,((NA.tab.mono g47).mono g710).mono g11,(NB.tab.mono g710).mono g11,NC.tab.mono g11)
def zgL{ts:List Addr}(h:H p=some (.lst (ts.map V.ref)))(l:ts.length=N)(tabs:∀ t,t<N->∃ a rs,ts[t]?=some a/\kac H (Ms t) a rs):Rp H (tabsD ((wY N).map Ms)) (.ref p):=by
 refine zd6 h (zda tabD _ _ (by rw[wa,wa,vx,l]) λi M v h1 h2=>?_);rw[wg]at h1 h2;obtain⟨t,ht,rfl⟩:=wG.mp h2;have hi:i<N:=by rw[← l];exact(wu.mp ht).1
 rw[vw hi]at h1;obtain⟨a,rs,e,T⟩:=tabs i hi;rw[ht]at e;cases e;cases h1;exact T.rp
inductive zcx:Sp
 | mk:∀ k Ps N q m r A B C pm p ta tb tc ts ra rb rc,vs=[.int k,.ref p,.ref pm]->kab k->TsAt H k Ps N q m pm ts->N<=8->kaj H A B C p ta tb tc ra rb rc->(OkM k r A/\A.length=r)->(OkM k m B/\B.length=r)->(OkM k r C/\C.length=q)->SzM k m A B C->1<=r->r<=4->m<=10->q<=10->(∀ H',Same H H'->Q (.bl (decide (marksM k r m A B C N =(wY N).map Ps))) H')->zcx vs H Q E_
def zg7:KnI pg 39 47 zcx:=by
 exists 39,XU,zeW
 obtain⟨k,Ps,N,q',m,r,A,B,C,pm,p,ta,tb,tc,ts,ra,rb,rc,rfl,Z,hT,N8,hM,oA,oB,oC,S,r1,r4,m10,q10,q⟩:=h;refine(Q,Q,Q,pm,Q,.inl (SqL.of hT.lst),?_);rw[wa,hT.len];have big:(r+2)*120000<=20000000:=wE (wI _ (show r+2<=6 by omega)) ();refine(k,A,B,C,r,m,q',120000,N,p,ta,tb,tc,ra,rb,rc,V,Z,hM,qE Z oA oB oC S,(λi hi=>zeM Z r4 oA oB oC S ()),r1,(),(),big,(),(),λpt ts' rs' H1 G h1 _ _ _=>?_);refine(Q,tabsD (marksM k r m A B C N),tabsD ((wY N).map Ps),G.rp h1,zgL (G.same _ _ hT.lst) hT.len (hT.mono G.same).tab,JN _,JN _,wE (vX _ _) (wE (QJ _) ()),?_);have e:=q H1 G.same;rw[← zfc]at e;exact e
inductive Jl:Sp
 | mk:∀ k q m r A B C p ta tb tc ra rb rc,vs=[.ref p]->kaj H A B C p ta tb tc ra rb rc->(OkM k r A/\A.length=r)->(OkM k m B/\B.length=r)->(OkM k r C/\C.length=q)->1<=r->r<=10->m<=10->1<=q->q<=10->(∀ p ta tb tc ra rb rc H',Same H H'->kaj H' (kaa r A) (kaa r C) (kaa m B) p ta tb tc ra rb rc->Q (.ref p) H')->Jl vs H Q E_
def zcU:KnI pg 40 2 Jl:=by
 exists 40,yb,zi,yb,zi,yb,zi
 obtain⟨k,q',m,r,A,B,C,p,ta,tb,tc,ra,rb,rc,rfl,hM,oA,oB,oC,r1,r10,m10,q1,q10,q⟩:=h;have szl:=se
 have ne:∀ {M:Tb} {n:Nat},M.length=n->1<=n->M≠[]:=λl h e=>by rw[e]at l;simp at l;omega
 refine(Q,p,_,_,.ref ta,V,V,SqT.of hM.tup,V,A,r,ta,ra,V,hM.a,ne oA.2 r1,(λx J=>(oA.1 x J).1),(),(by rw[oA.2];omega),λt1 r1' H1 g1 N1=>?_);have hM1:=hM.mono g1;refine(Q,p,_,_,.ref tc,V,V,SqT.of hM1.tup,V,C,r,tc,rc,V,hM1.c,ne oC.2 q1,(λx J=>(oC.1 x J).1),(),(by rw[oC.2];omega),λt2 r2' H2 g2 N2=>?_);have hM2:=hM1.mono g2;refine(Q,p,_,_,.ref tb,V,V,SqT.of hM2.tup,V,B,m,tb,rb,V,hM2.b,ne oB.2 r1,(λx J=>(oB.1 x J).1),(),(by rw[oB.2];omega),λt3 r3' H3 g3 N3=>?_);refine((),λp' hp=>?_);have g4:=zc hp (.tup [.ref t1,.ref t2,.ref t3]);exact q p' t1 t2 t3 r1' r2' r3' _ (((g1.trans g2).trans g3).trans g4) (zd,((N1.tab.mono g2).mono g3).mono g4,(N2.tab.mono g3).mono g4,N3.tab.mono g4)
def half2 h:(((h+h:Nat):Int)).fdiv 2 =(h:Int):=by
 rw[GS _ ()];omega
def MachP(k:Int)(X:Nat->Tb)(h q m r:Nat)(A B C:Tb):Prop:=1<=r/\r<=h/\(OkM k r A/\A.length=r)/\(OkM k m B/\B.length=r)/\(OkM k r C/\C.length=q)/\SzM k m A B C/\∀ F [bu F] (O:Kf k F),RkX O X h q m r/\MkV O X (h+h) m q r A (kaa m B) (λs=>nv O (C.getD s []))
inductive YO:Sp
 | mk:∀(k:Int)(Ps X:Nat->Tb)(h q m:Nat)(pm:Addr)(ts:List Addr),vs=[.int k,.ref pm]->kab k->TsAt H k Ps (h+h) q m pm ts->MkIn k Ps X h q m->((∀ H',Same H H'->(∀ F [bu F] (O:Kf k F) r,1<=r->r<=h->¬ RkX O X h q m r)->Q .non H'))->(∀ r A B C p ta tb tc ra rb rc H',Same H H'->kaj H' A B C p ta tb tc ra rb rc->MachP k X h q m r A B C->Q (.ref p) H')->YO vs H Q E_
def zbU:KnI pg 62 48 YO:=by
 exists 62,zeX,[0],zo,QM,yF,zj,zG,zj,zcd,zg7
 obtain⟨k,Ps,X,h,q',m,pm,ts,rfl,Z,hT,I,qN,qM⟩:=h;have szl:=se
 obtain⟨h1,h4,q1,q2,m1,m2⟩:=((I.h1,I.h4,I.q1,I.q2,I.m1,I.m2) : 1<=h/\h<=4/\1<=q'/\q'<=2/\1<=m/\m<=2);have oX:=I.oX hT.ok;refine(Q,pm,Q,.inl (SqL.of hT.lst),_,Q,V,(),?_);rw[wa,hT.len,half2];refine(Q,Q,Q,k,Ps,X,h,q',m,_,pm,ts,V,V,Z,hT,I,λR ls s t rs H1 g1 hR iR sh eR st=>?_);obtain⟨oR,lls,inc,llt⟩:=zE Z iR;obtain⟨F0,i0,d0,⟨φ0⟩⟩:=zw Z;have lrs:=zf hR.2;have w10:(h+1)*q'<=10:=wE (vm (show h+1<=5 by omega) q2) ();have wq:(h+1)*q'=h*q'+q':=by rw[vG,vL]
 have lR10:=yf Z iR;have hT1:=hT.mono g1;have full:∀(F:Type) [bu F] (O:Kf k F) (r:Nat),r<=h->RkX O X h q' m r->R.length=r/\(∀ l∈ls,l<h*q')/\MkV O X (h+h) m q' R.length (mA q' R ls) (kaa m (mB X (h+h) m ls)) (λs=>nv O ((mC q' R).getD s [])):=λF _ O r rh K=>by
  have st':s=h\/h<R.length\/∃ s',s=s'+1/\∀ v,Rm O (sqT X (h+1) m s) v->Rm O (sqT X (h+1) m s') v:=by
   rcases st with e|e|⟨s',e,z⟩
   ·exact .inl e
   ·exact .inr (.inl e)
   ·exact .inr (.inr (s',e,λv=>z F O v))
  have a:=Jf Z oX q1 h1 (iR F O) sh (eR F O) st' K rh;exact(a.2.1,a.2.2,zbD Z oX q1 h1 (iR F O) sh (eR F O) st' K rh)
 refine(Q,t,V,(_,SqL.of hR.1),?_);refine zq (xs:=rs.map V.ref) (λi ys H'=>Same H1 H'/\ys=natV (ls.take i)) (Same.refl _,V) ?_ ?_ ?_
 ·rintro i ys H' hi ⟨g,rfl⟩
  refine(SqL.of (g _ _ hR.1),?_);unfold natV;rw[wa,wr];omega
 ·rintro i v ys H' hv hi ⟨g,rfl⟩
  obtain⟨row,a,hrow,ha,rfl,hRr⟩:=(hR.mono g).row hv;have iR':i<R.length:=(wu.mp hrow).1;obtain⟨l,hl⟩ : ∃ l,ls[i]?=some l:=(ls[i]'(),wb ());obtain⟨ln,lz,l1⟩:=QH Z (iR F0 φ0) hrow hl
  symm
  refine(Q,Q,k,row,a,l,Q,hRr,lz,l1,num01 Z,λH2 g2=>nxt hi (g.trans g2,?_));rw[zh hl];unfold natV;rw[wv];rfl
 rintro ys H2 ⟨g2,rfl⟩ pL hpL
 rw[wa,wm ()];have g3:=(g1.trans g2).trans (zc hpL (.lst (natV ls)));have hR3:=(hR.mono g2).mono (zc hpL (.lst (natV ls)));have hL3:upd H2 pL (.lst (natV ls)) pL=some (.lst (natV ls)):=zd;generalize upd H2 pL (.lst (natV ls))=H3 at *;have hT3:=hT.mono g3;refine(Q,t,Q,.inl (SqL.of hR3.1),V,Q,?_);rw[wa,← lrs];refine ite2 (λd=>?_) (λd=>?_)
 ·have e0:R.length=0:=by have:=V.int.inj (bG d);omega
  exact iteT (qN H3 g3 λF _ O r r1 rh K=>by have:=(full F O r rh K).1;omega)
 have r1:1<=R.length:=by
  rcases gm R.length with e|e
  ·exact bK (bF (by rw[e];rfl)) d
  ·exact e
 refine(Q,t,Q,.inl (SqL.of hR3.1),Q,_,Q,V,Q,?_);rw[wa,← lrs];refine ite2 (λd=>?_) (λd=>?_)
 ·have e0:h<R.length:=by have:=bG d;omega
  exact iteT (qN H3 g3 λF _ O r r1 rh K=>by have:=(full F O r rh K).1;omega)
 have rh:R.length<=h:=by
  rcases wH h R.length with z|z
  ·exact bK (bF ()) d
  ·exact z
 obtain⟨ls',y,ey⟩ : ∃ ls' y,ls=ls'++[y]:=by
  rcases Gz ls with e|⟨ls',y,e⟩
  ·rw[e]at lls;simp at lls;omega
  ·exact(ls',y,by rw[e,waB])
 obtain⟨a0,rs0,e0,T0⟩:=hT3.tab 0 ();have l0:=zf T0.2;rw[(hT.ok 0 ()).2]at l0;refine(Q,Q,pL,_,_,.int (y:Int),V,V,SqL.of hL3,(by rw[ey];unfold natV;rw[wv];exact zff _ _),Q,Q,pm,_,_,.ref a0,V,V,SqL.of hT3.lst,zt (j:=0) (by rw[wg,e0];rfl),a0,Q,.inl (SqL.of T0.1),_,Q,V,yG () (),_,Q,V,Q,?_);rw[wa,← l0,show(h:Int) *(q':Int) =((h*q':Nat):Int) by rw[gu]];refine ite2 (λd=>?_) (λd=>?_)
 ·have e1:h*q'<=y:=by have:=bG d;omega
  exact qN H3 g3 λF _ O r r1 rh K=>by have:=(full F O r rh K).2.1 y (by rw[ey];exact wF _ wo);omega
 have hy:y<h*q':=by
  rcases wH y (h*q')with z|z
  ·exact z
  ·exact bK (bF ()) d
 have ld:∀ l∈ls,l<h*q':=λl hl=>by
  rw[ey]at hl inc
  rcases wp.mp hl with g|g
  ·exact waO ((GA.mp inc).2.2 l g y (wx.mpr rfl)) hy
  ·rw[wx.mp g];exact hy
 have ldA:∀ l∈ls,q'+l <(h+1)*q':=λl hl=>by have:=ld l hl;omega
 have ld2:∀ l∈ls,l <(h+h)*q':=λl hl=>by have:=ld l hl;rw[vG];omega
 have bR:=I.small Z hT.ok iR sh eR rh;have oA:=zh4 oR ldA lls;have oB:=ziT oX ld2;rw[lls]at oB;have oC:=zjo oR (q:=q') ();have S:=zhQ Z oR ldA () lls () bR oX ld2 (I.wX hT.ok);refine(Q,Q,Q,k,Ps,X,h,q',m,R,ls,pm,t,pL,ts,rs,V,hT3,I,hR3,hL3,oR,lls,r1,(),ld,λp ta tb tc ra rb rc H4 g4 hM=>?_);refine(Q,Q,Q,k,Ps,h+h,q',m,R.length,mA q' R ls,mB X (h+h) m ls,mC q' R,pm,p,ta,tb,tc,ts,ra,rb,rc,V,Z,hT3.mono g4,(),hM,oA,oB,oC,S,r1,(),(),(),λH5 g5=>(Q,?_));have g35:=(g3.trans g4).trans g5;refine ite2 (λd=>?_) (λd=>?_)
 ·have e:=bG d;refine(Q,qM R.length _ _ _ p ta tb tc ra rb rc H5 g35 (hM.mono g5) (r1,rh,oA,oB,oC,S,λF _ O=>?_));have mk:=(JK Z () oA oB oC S O hT.ok I.tr).mp e;have oBt:=zg oB.1;rw[oB.2]at oBt;exact(zbL Z oX q1 rfl h1 (iR F O) (λv hv=>xQ Z oX q1 sh ((eR F O v).mp hv)) ld oA.1 oA.2 oBt (ze m _) mk,mk)
 ·exact qN H5 g35 λF _ O r r1 rh K=>d (bF ((JK Z () oA oB oC S O hT.ok I.tr).mpr (full F O r rh K).2.2))
def zdW(h:TsAt H k Ps N q m pm ts):∃ Rs:List (List Addr),Paired (λus a=>H a=some (.lst us)) (Rs.map (Gr V.ref)) ts/\Paired (Paired (kaq H)) ((wY N).map Ps) Rs:=by
 have:∀ t,∃ rs:List Addr,t<N->∃ a,ts[t]?=some a/\kac H (Ps t) a rs:=λt=>by
  by_cases ht:t<N
  ·obtain⟨a,rs,e,T⟩:=h.tab t ht;exact(rs,λ_=>(a,e,T))
  ·exact([],λz=>bK z ht)
 obtain⟨f,hf⟩:=wak this;have len:=h.len;refine((wY N).map f,jN (by rw[wa,wa,vx,len]) λi us a h1 h2=>?_,jN (by rw[wa,wa]) λi M rs h1 h2=>?_)
 ·have hi:i<N:=by rw[← len];exact(wu.mp h2).1
  rw[wg,wg,vw hi]at h1;obtain⟨a',e,T⟩:=hf i hi;rw[h2]at e;cases e;cases h1;exact T.1
 ·rw[wg]at h1 h2;obtain⟨j,hj,rfl⟩:=wG.mp h1;rw[hj]at h2;cases h2;have:j<N:=by have:=we hj;rwa [wP]at this
  obtain⟨a',e,T⟩:=hf j this;exact T.2
def JA{α:Type} n:∀(bO:List (List α)),(∀ r∈bO,r.length=n)->bO.flatten.length=bO.length*n
 | [],_=>by simp
 | r::bO,h=>by
  rw[vE,wy,JA n bO (λr L=>h r (wt _ L)),h r wo,vO,uW];omega
def Zer(k:Int)(Ms:Nat->Tb)(N:Nat):Prop:=∀ t,t<N->∀ r∈Ms t,∀ x∈r,x=nnum k 0
def RkM{F:Type}[bu F](O:Kf k F)(Ms:Nat->Tb)(h q m r:Nat):Prop:=RkL O Ms h q m h h r/\RkL O Ms h q m (h+1) h r/\RkL O Ms h q m h (h+1) r
def MachL(k:Int)(Ms:Nat->Tb)(h q m r:Nat)(A B C:Tb):Prop:=1<=r/\r<=h/\(OkM k r A/\A.length=r)/\(OkM k m B/\B.length=r)/\(OkM k r C/\C.length=q)/\SzM k m A B C/\∀ F [bu F] (O:Kf k F),RkM O Ms h q m r/\∀ t s l,t<h+h->s<q->l<m->nv O ((Ms t).getD s []) l=dot r (nv O (C.getD s [])) (nv O (powX k A ((kaa m B).getD l []) t))
inductive qv:Sp
 | mk:∀(k:Int)(Ms:Nat->Tb)(h q m:Nat)(pm:Addr)(ts:List Addr),vs=[.int k,.ref pm]->kab k->TsAt H k Ms (h+h) q m pm ts->((1<=h/\h<=4/\1<=q/\q<=2/\1<=m/\m<=2/\(k=0->h<=3)))->((∀ t,t<h+h->∀ r∈Ms t,∀ x∈r,whk k 190 x))->((∀ p H',Same H H'->H' p=some (.tup [.str "nought"])->Zer k Ms (h+h)->Q (.ref p) H'))->((∀ p H',Same H H'->H' p=some (.tup [.str "none"])->¬ Zer k Ms (h+h)->(∀ F [bu F] (O:Kf k F) r,1<=r->r<=h->¬ RkM O Ms h q m r)->Q (.ref p) H'))->(∀ r A B C p ta tb tc ra rb rc H',Same H H'->H' p=some (.tup [.str "machine",.ref ta,.ref tb,.ref tc])->(kac H' A ta ra/\kac H' B tb rb/\kac H' C tc rc)->MachL k Ms h q m r A B C->Q (.ref p) H')->qv vs H Q E_
def zb0:KnI pg 63 49 qv:=by
 exists 63,[0],zo,qP,qP,XU,yk,zj,zj,zj,zbU,[],zo,yb,zcU,zi,zi,zi
 obtain⟨k,Ms,h,q',m,pm,ts,rfl,Z,hT,⟨h1,h4,q1,q2,m1,m2,h3⟩,wM,qZ,qN,qM⟩:=h;have szl:=se
 obtain⟨Rs,p1,p2⟩:=zdW hT;have lRs:=zf p2;rw[wa,vx]at lRs;have row2:∀ rs∈Rs,rs.length=q':=λrs hrs=>by
  obtain⟨M,hM,pr⟩:=xS p2 hrs;obtain⟨t,ht,rfl⟩:=wj.mp hM;rw[← zf pr,(hT.ok t (wP.mp ht)).2]
 refine(Q,Rs.map (Gr V.ref),pm,ts,V,hT.lst,p1,(λus hu=>?_),(by rw[wa];omega),λps H1 g1 _ h1'=>?_)
 ·obtain⟨rs,hrs,rfl⟩:=wj.mp hu;rw[wa,row2 rs hrs];omega
 have eF:(Rs.map (Gr V.ref)).flatten=Rs.flatten.map V.ref:=by rw[List.map_flatten]
 rw[eF]at h1';have pr1:Paired (kaq H1) ((wY (h+h)).map Ms).flatten Rs.flatten:=yC (λ_ _ r=>r.mono g1) (Xr p2);obtain⟨bO,pL,pF⟩:=ZK pr1;have lF:∀ r∈((wY (h+h)).map Ms).flatten,r.length=m:=λr L=>by
  obtain⟨M,hM,hr'⟩:=wU.mp L;obtain⟨t,ht,rfl⟩:=wj.mp hM;exact((hT.ok t (wP.mp ht)).1 r hr').1
 have lL:=zf pL;have lR8:Rs.flatten.length<=16:=by
  have h0:=JA q' Rs row2;rw[h0,← lRs];exact wE (vm (show h+h<=8 by omega) q2) ()
 refine(bO,ps,Rs.flatten,V,h1',pL,(λus hu=>?_),(),λpp H2 g2 _ h2'=>?_)
 ·obtain⟨xs,J,px⟩:=xS pF hu;rw[← zf px,lF xs J];omega
 have pP:Paired (RN H2) ((wY (h+h)).map Ms).flatten.flatten bO.flatten:=xT g2 (Xr pF);have zIff:(∀ x∈((wY (h+h)).map Ms).flatten.flatten,x=nnum k 0)↔Zer k Ms (h+h):=by
  constructor
  ·intro z t ht r L x J;exact z x (wU.mpr (r,wU.mpr (Ms t,uJ (wP.mpr ht),L),J))
  ·intro z x J;obtain⟨r,L,hx'⟩:=wU.mp J;obtain⟨M,hM,hr'⟩:=wU.mp L;obtain⟨t,ht,rfl⟩:=wj.mp hM;exact z t (wP.mp ht) r hr' x hx'
 have lP:=zf pP;have lV:=ZP bO λus hu=>by
  obtain⟨xs,J,px⟩:=xS pF hu;rw[← zf px,lF xs J];omega
 generalize ((wY (h+h)).map Ms).flatten.flatten=parts at *;generalize bO.flatten=vs at *;clear pF pL pr1 p1 p2 eF lF row2;refine(pp,V,(_,SqL.of h2'),?_)
 let Pv1_:Nat->List V->Hp->Prop:=λi ys H'=>Same H2 H'/\ys =((parts.take i).map λx=>decide (nnum k 0=x)).map V.bl
 refine zq (xs:=vs) Pv1_ (Same.refl _,V) ?_ ?_ ?_
 ·rintro i ys H' hi ⟨g,rfl⟩
  refine(SqL.of (g _ _ h2'),?_);rw[wa,wa,wr];omega
 ·rintro i v ys H' hv hi ⟨g,rfl⟩
  obtain⟨x,J,rx⟩:=zK pP hv
  symm
  refine(Q,k,0,V,λv0 H3 g3 r3=>?_);refine(Q,toD (nnum k 0),toD x,r3,(rx.mono g).mono g3,yV _,yV _,wE (vX _ _) (wE (xA _) ()),nxt hi (g.trans g3,?_));rw[zh J,wv,wv,jQ];rfl
 rintro ys H3 ⟨g3,rfl⟩ pb hpb
 rw[wm (gI lP)]at *;have g4:=zc hpb (.lst ((parts.map λx=>decide (nnum k 0=x)).map V.bl));refine(pb,Q,zd,?_);have g04:=((g1.trans g2).trans g3).trans g4;generalize upd H3 pb (.lst ((parts.map λx=>decide (nnum k 0=x)).map V.bl))=H4 at *;refine(Q,?_);refine ite2 (λd=>?_) (λd=>?_)
 ·refine((),λp hp=>?_);refine qZ p _ (g04.trans (zc hp _)) zd (zIff.mp λx J=>?_);rw[ul]at d;exact(bG (d _ (uJ J))).symm
 have nz:¬ Zer k Ms (h+h):=λz=>d (by
  rw[ul];intro b hb;obtain⟨x,J,rfl⟩:=wj.mp hb;exact bF (zIff.mpr z x J).symm)
 clear d pP zIff lP lV;have hT4:=hT.mono g04;obtain⟨a0,rs0,e0,T0⟩:=hT4.tab 0 ();have l0:=zf T0.2;have o0:=hT.ok 0 ();rw[o0.2]at l0;obtain⟨ei,li,oi⟩:=Jh hT.ok (t:=0) (q:=0) () ();obtain⟨b0,eb0,rb0⟩:=yj T0.2 ei;obtain⟨us0,hu0,pu0,lu0⟩:=rb0.len;refine(Q,pm,_,_,.ref a0,V,V,SqL.of hT4.lst,zt (j:=0) (by rw[wg,e0];rfl),a0,Q,.inl (SqL.of T0.1),Q,pm,_,_,.ref a0,V,V,SqL.of hT4.lst,zt (j:=0) (by rw[wg,e0];rfl),a0,_,_,.ref b0,V,V,SqL.of T0.1,zt (j:=0) (by rw[wg,eb0];rfl),b0,Q,.inl (SqL.of hu0),_,Q,V,?_);rw[wa,← l0,lu0,li];refine(Q,Q,Q,?_);refine ite2 (λd=>?_) (λd=>?_)
 ·have mq:m<q':=by have:=bG d;omega
  rw[d];have ll:=hT.len;refine(Q,pm,V,(_,SqL.of hT4.lst),?_)
  let Pv2_:Nat->List V->Hp->Prop:=λi ys H'=>∃ as:List Addr,ys=as.map V.ref/\as.length=i/\Same H4 H'/\∀ j,j<i->∃ a rs,as[j]?=some a/\kac H' (kaa m (Ms j)) a rs
  refine zq (xs:=ts.map V.ref) Pv2_ ([],V,V,Same.refl _,λ_ h=>bK h (vN _)) ?_ ?_ ?_
  ·rintro i ys H' hi ⟨as,rfl,la,g,_⟩
   rw[wa,ll]at hi;exact(SqL.of (g _ _ hT4.lst),by rw[wa];omega)
  ·rintro i v ys H' hv hi ⟨as,rfl,la,g,tabs⟩
   have hi':=hi;rw[wa,ll]at hi';obtain⟨a,rs,ea,T⟩:=(hT4.mono g).tab i hi';have ev:v=.ref a:=by
    rw[wg,ea]at hv;exact(Option.some.inj hv).symm
   subst ev;have o:=hT.ok i hi'
   symm
   refine(Q,Ms i,m,a,rs,V,T,(λe=>by rw[e]at o;have:=o.2;simp at this;omega),(λr L=>(o.1 r L).1),(),(),λt1 r1 H5 g5 N1=>?_);refine nxt hi (as++[t1],by rw[wv];rfl,by rw[wy,la];rfl,g.trans g5,λj hj=>?_)
   rcases uv (ux hj)with h'|h'
   ·obtain⟨a',rs',e',T'⟩:=tabs j h';exact(a',rs',by rw[vk ()];exact e',T'.mono g5)
   ·subst h';exact(t1,r1,by rw[← la,wW (ww _),uE];rfl,N1.tab)
  rintro ys H5 ⟨as,rfl,la,g5,tabs⟩ pc hpc
  rw[wa,ll]at la tabs;have g6:=zc hpc (.lst (as.map V.ref));have oT:∀ t,t<h+h->OkM k q' (kaa m (Ms t))/\(kaa m (Ms t)).length=m:=λt ht=>by
   have o:=zg (hT.ok t ht).1;rw[(hT.ok t ht).2]at o;exact(o,ze m _)
  have hT6:TsAt (upd H5 pc (.lst (as.map V.ref))) k (λt=>kaa m (Ms t)) (h+h) m q' pc as:=(zd,la,(λt ht=>by
   obtain⟨a,rs,e,T⟩:=tabs t ht;exact(a,rs,e,T.mono g6)),oT)
  have g46:=g5.trans g6;generalize upd H5 pc (.lst (as.map V.ref))=H6 at *;have I:MkIn k (λt=>kaa m (Ms t)) Ms h m q':=(h1,h4,m1,m2,q1,q2,(λt ht=>by
   have:=zQ (hT.ok t ht).1;rw[(hT.ok t ht).2]at this;exact this),(λt ht=>ye (hT.ok t ht).1 (wM t ht)),h3)
  refine(k,_,Ms,h,m,q',pc,as,V,Z,hT6,I,λH7 g7 no=>?_,λr A B C p ta tb tc ra rb rc H7 g7 hM MP=>?_)
  ·refine(Q,V,Q,iteT ?_);refine((),λp hp=>?_);exact qN p _ (((g04.trans g46).trans g7).trans (zc hp _)) zd nz λF _ O r r1 rh K=>no F O r r1 rh (K.1,K.2.2,K.2.1)
  ·obtain⟨r1,rh,oA,oB,oC,S,mk⟩:=MP;refine(Q,V,Q,iteF ?_)
   dsimp only
   refine(Q,Q,iteT ?_);refine(Q,k,m,q',r,A,B,C,p,ta,tb,tc,ra,rb,rc,V,hM,oA,oB,oC,r1,(),(),m1,(),λp2 ua ub uc va vb vc H8 g8 hM8=>?_);refine(Q,p2,_,_,.ref ua,V,V,SqT.of hM8.tup,V,Q,p2,_,_,.ref ub,V,V,SqT.of hM8.tup,V,Q,p2,_,_,.ref uc,V,V,SqT.of hM8.tup,V,(),λp3 hp3=>?_);have g9:=zc hp3 (.tup [.str "machine",.ref ua,.ref ub,.ref uc]);have oA':OkM k r (kaa r A)/\(kaa r A).length=r:=(by have:=zg oA.1;rw[oA.2]at this;exact this,ze r A);have oB':OkM k m (kaa r C)/\(kaa r C).length=r:=(by have:=zg oC.1;rw[oC.2]at this;exact this,ze r C);have oC':OkM k r (kaa q' B)/\(kaa q' B).length=q':=(by have:=zg oB.1;rw[oB.2]at this;exact this,ze q' B);refine qM r _ _ _ p3 ua ub uc va vb vc _ ((((g04.trans g46).trans g7).trans g8).trans g9) zd (hM8.a.mono g9,hM8.b.mono g9,hM8.c.mono g9) (r1,rh,oA',oB',oC',zgO oA oC S,λF _ O=>?_);obtain⟨K,mk⟩:=mk F O;refine((K.1,K.2.2,K.2.1),λt s l ht hs hl=>?_);rw[mk t s l ht hs hl];exact ziU Z O oA oB oC hs hl
 ·have mq:q'<=m:=by
   rcases wH m q' with z|z
   ·exact bK (bF ()) d
   ·exact z
  have d':decide ((m:Int) <(q':Int))=false:=bE ();rw[d'];have I:MkIn k Ms (λt=>kaa m (Ms t)) h q' m:=(h1,h4,q1,q2,m1,m2,(λt ht=>rfl),wM,h3);have law:∀(F:Type) [bu F] (O:Kf k F) (r:Nat),RkX O (λt=>kaa m (Ms t)) h q' m r↔RkM O Ms h q' m r:=λF _ O r=>by
   have e0:=JV (O:=O) (r:=r) Z hT.ok (λt ht=>rfl) q1 m1 (a:=h) (b:=h) ();have e1:=JV (O:=O) (r:=r) Z hT.ok (λt ht=>rfl) q1 m1 (a:=h+1) (b:=h) ();have e2:=JV (O:=O) (r:=r) Z hT.ok (λt ht=>rfl) q1 m1 (a:=h) (b:=h+1) ();exact(λK=>(e0.mp K.1,e1.mp K.2.1,e2.mp K.2.2),λK=>(e0.mpr K.1,e1.mpr K.2.1,e2.mpr K.2.2))
  refine(Q,k,Ms,_,h,q',m,pm,ts,V,Z,hT4,I,λH7 g7 no=>?_,λr A B C p ta tb tc ra rb rc H7 g7 hM MP=>?_)
  ·refine(Q,V,Q,iteT ?_);refine((),λp hp=>?_);exact qN p _ ((g04.trans g7).trans (zc hp _)) zd nz λF _ O r r1 rh K=>no F O r r1 rh ((law F O r).mpr K)
  ·obtain⟨r1,rh,oA,oB,oC,S,mk⟩:=MP;refine(Q,V,Q,iteF ?_)
   dsimp only
   refine(Q,Q,iteF ?_);refine(Q,p,_,_,.ref ta,V,V,SqT.of hM.tup,V,Q,p,_,_,.ref tb,V,V,SqT.of hM.tup,V,Q,p,_,_,.ref tc,V,V,SqT.of hM.tup,V,(),λp3 hp3=>?_);have g9:=zc hp3 (.tup [.str "machine",.ref ta,.ref tb,.ref tc]);refine qM r A B C p3 ta tb tc ra rb rc _ ((g04.trans g7).trans g9) zd (hM.a.mono g9,hM.b.mono g9,hM.c.mono g9) (r1,rh,oA,oB,oC,S,λF _ O=>?_);obtain⟨K,mk⟩:=mk F O;refine((law F O r).mp K,λt s l ht hs hl=>?_);rw[← mk t l s ht hl hs];exact(ya (hT.ok t ht).1 hl).symm
def Outc (k:Int) (Ms:Nat->Tb) (h q m:Nat) (H':Hp) (p:Addr):Prop:=(H' p=some (.tup [.str "nought"])/\Zer k Ms (h+h))\/(H' p=some (.tup [.str "none"])/\¬ Zer k Ms (h+h)/\∀ F [bu F] (O:Kf k F) r,1<=r->r<=h->¬ RkM O Ms h q m r)\/∃ r A B C ta tb tc ra rb rc,H' p=some (.tup [.str "machine",.ref ta,.ref tb,.ref tc])/\(kac H' A ta ra/\kac H' B tb rb/\kac H' C tc rc)/\MachL k Ms h q m r A B C
inductive zbu:Sp
 | mk:∀ k Ms h q m pm ts,vs=[.int k,.ref pm]->kab k->TsAt H k Ms (h+h) q m pm ts->((1<=h/\h<=4/\1<=q/\q<=2/\1<=m/\m<=2/\(k=0->h<=3)))->((∀ t,t<h+h->∀ r∈Ms t,∀ x∈r,whk k 190 x))->(∀ p H',Same H H'->Outc k Ms h q m H' p->Q (.ref p) H')->zbu vs H Q E_
def zbW(d:KnI pg 63 49 qv):KnI pg 63 49 zbu:=Yk d λvs H Q bP h=>by
 obtain⟨k,Ms,h,q',m,pm,ts,rfl,Z,hT,b,w,q⟩:=h;exact(k,Ms,h,q',m,pm,ts,V,Z,hT,b,w,λp H' g e z=>q p H' g (.inl (e,z)),λp H' g e z n=>q p H' g (.inr (.inl (e,z,n))),λr A B C p ta tb tc ra rb rc H' g e T z=>q p H' g (.inr (.inr (r,A,B,C,ta,tb,tc,ra,rb,rc,e,T,z))))
def wordD(s:Str):PyData:=.tuple [.str s]
def zdy(h:H p=some (.tup [.str s])):Rp H (wordD s) (.ref p):=by
 show Rp H (.tuple [.str s]) _;simp only[Rp,Rps];exact(p,Q,h,_,Q,V,V)
def zhG(a b c d:V):¬(HT.sIx [a,b,c,d].length 0 (some 1)=0/\HT.sIx [a,b,c,d].length [a,b,c,d].length none=[a,b,c,d].length):=λz=>bK z.1 (show ¬ HT.sIx 4 0 (some 1)=0 by decide)
def zaJ a b c d:cutV [a,b,c,d] (some 1) none=[b,c,d]:=rfl
def jL(h0 : -(2^64)<b)(h1:b<2^64):IntMulOk a b:=IntMulOk.of_right (bp h0 h1)
def xB(h0 : -(2^64)<a)(h1:a<2^64):IntMulOk a b:=IntMulOk.of_left (bp h0 h1)
inductive Qh:Sp
 | mk:∀ t b,vs=[.int t,.int b]->0<b->(∀ p H',Same H H'->H' p=some (.tup [.int (uf t b).num,.int ((uf t b).den:Int)])->Q (.ref p) H')->Qh vs H Q E_
def xX:KnI pg 78 41 Qh:=by
 exists 78,zhN
 obtain⟨t,b,rfl,b0,q⟩:=h;have e:sg t b =((vC t b:Nat):Int):=by unfold sg;rw[bx ()]
 have ne:((vC t b:Nat):Int)≠0:=by rw[← e];exact zfk ()
 obtain⟨e1,e2⟩:=Zo (t:=t) (b:=b) ();rw[e]at e1 e2;refine(Q,Q,t,b,V,Q,Q,_,Q,V,ne,Q,Q,_,Q,V,ne,(),λp hp=>?_);show Q (.ref p) (upd H p (.tup [.int (t.fdiv ((vC t b:Nat):Int)),.int (b.fdiv ((vC t b:Nat):Int))]));rw[e1,e2];exact q p _ (zc hp _) zd
inductive zao:Sp
 | mk:∀ c j,vs=[.int c,.int j]->0<=j->j<=1000->(∀ m:Int,0<=m->m<2147483648->Q (.int m) H)->zao vs H Q E_
def ten7:(10:Int)^(7:Int).toNat=10000000:=by decide
def cpow10(h0:0<=j)(h1:j<=100):CPow 10 j:=(h0,(),())
def zbp:KnI pg 76 41 zao:=by
 exists 76,zdF,zdF,zdF,zG,yh,yh,zG,zG,zG,zG,yh,yh,zG
 obtain⟨c,j,rfl,j0,j1,q⟩:=h;have n1:(2147483647:Int)≠0:=by decide
 have n2:(2147483629:Int)≠0:=by decide
 have n3:(65537:Int)≠0:=by decide
 have n4:(1000:Int)≠0:=by decide
 have n5:(10:Int)^(7:Int).toNat≠0:=by decide
 refine(Q,_,Q,V,cpow10 () (),_,Q,V,Q,?_);refine ite2 (λcc=>?_) (λcc=>?_)
 ·refine(Q,_,Q,V,n4,?_);refine(Q,j,V,(),(),?_)
  let Pv1_:Nat->L2.St->Hp->Prop:=λi E H'=>∃ lf o3 o4,E=[some (.int c),some (.int j),some (.int lf),o3,o4]/\H'=H
  refine yu (lo:=0) (n:=j.toNat) Pv1_ (_,none,none,V,V) ?_ ?_
  ·rintro i E H' hi ⟨lf,o3,o4,rfl,rfl⟩
   exact(Q,_,Q,V,cpow10 () (),_,Q,V,n5,_,_,Q,V)
  ·rintro E H' ⟨lf,o3,o4,rfl,rfl⟩
   refine(Q,_,Q,V,cpow10 () (),_,Q,V,n5,?_)
   dsimp only
   rw[ten7];have h0:=wJ lf (show(0:Int)<10000000 by decide);have h1:=wR lf (show(0:Int)<10000000 by decide);exact q _ h0 ()
 ·have f0:=wJ c (show(0:Int)<2147483647 by decide);have f1:=wR c (show(0:Int)<2147483647 by decide);refine(Q,_,Q,V,n1,Q,_,Q,V,xB () (),Q,_,Q,V,jL () (),_,Q,V,Q,_,Q,V,xB () (),_,Q,V,_,Q,V,jL () (),_,Q,V,n1,?_)
  dsimp only
  generalize ((c.fmod 2147483647+40503*j*j+17*j)*48271).fmod 2147483647=o at *;refine(Q,Q,_,Q,V,n3,Q,_,Q,V,xB () (),_,Q,V,_,Q,V,_,Q,V,jL ?_ ?_,_,Q,V,n2,?_)
  ·have h0:=wJ o (show(0:Int)<65537 by decide);show -(2^64)<o.fmod 65537+3*j+1;omega
  ·have h1:=wR o (show(0:Int)<65537 by decide);show o.fmod 65537+3*j+1<2^64;omega
  dsimp only
  generalize o *(o.fmod 65537+3*j+1)=x;have h0:=wJ x (show(0:Int)<2147483629 by decide);have h1:=wR x (show(0:Int)<2147483629 by decide);exact q _ h0 ()
inductive JE:Sp
 | mk:∀ k c,vs=[.int k,.int c]->kab k->(∀ x v H',Same H H'->RN H' x v->x.ok k->Q v H')->JE vs H Q E_
def zeZ(Z:1<k)(h0:0<=m)(h1:m<4)(c0:0<=c)(c1:c<k):∃ w:Int,atI [V.int 0,V.int 1,V.int (k - 1),V.int c] m=some (.int w)/\0<=w/\w<k:=by
 rcases (show m=0\/m=1\/m=2\/m=3 by omega)with rfl|rfl|rfl|rfl
 ·exact(0,V,(),())
 ·exact(1,V,(),())
 ·exact(k - 1,V,(),())
 ·exact(c,V,c0,c1)
def Jk:KnI pg 77 42 JE:=by
 exists 77,zj,yF,xX,yh
 obtain⟨k,c,rfl,Z,q⟩:=h;have kl:=Z.lt;have n4:(4:Int)≠0:=by decide
 have n3:(3:Int)≠0:=by decide
 refine(Q,_,Q,V,Q,?_);refine ite2 (λck=>?_) (λck=>?_)
 ·have k0:0<k:=bG ck;have k1:1<k:=by
   rcases Z with h|h
   ·omega
   ·exact h.1
  refine(Q,_,Q,V,Q,_,Q,V,n4,Q,_,Q,V,(show k≠0 by omega),(),λp hp=>?_);obtain⟨w,ew,w0,w1⟩:=zeZ k1 (wJ c (show(0:Int)<4 by decide)) (wR c (show(0:Int)<4 by decide)) (wJ (c.fdiv 4) k0) (wR (c.fdiv 4) k0);exact(Q,_,Q,V,n4,p,_,_,Q,V,SqL.of zd,ew,q (.z w) _ _ (zc hp _) RN.of_z ((),w0,w1))
 ·have k0:k=0:=by
   have:¬ 0<k:=bH (uS.mpr ck);omega
  refine(Q,_,Q,V,n3,V,Q,?_);refine ite2 (λc3=>?_) (λc3=>?_)
  ·refine(Q,_,Q,V,n3,_,Q,V,n3,_,Q,V,(),λp hp=>?_);exact q (.q ((((c.fdiv 3).fmod 3 - 1:Int)):Rat)) _ _ (zc hp _) (RN.of_q (r:=(((c.fdiv 3).fmod 3 - 1:Int):Rat)) zd) k0
  ·have b0:=wJ (c.fdiv 57) (show(0:Int)<4 by decide);exact(Q,_,Q,V,n3,_,Q,V,(by show(19:Int)≠0;decide),_,Q,V,Q,_,Q,V,(by show(57:Int)≠0;decide),_,Q,V,n4,_,Q,V,_,Q,(),λp H' g hp=>q (.q _) _ H' g (RN.of_q hp) k0)
inductive zah:Sp
 | mk:∀ k w,vs=[.int k,.int w]->kab k->(∀ v H',Same H H'->RN H' (nnum k w) v->Q v H')->zah vs H Q E_
def Ze:KnI pg 79 1 zah:=by
 exists 79,yF
 obtain⟨k,x,rfl,Z,q⟩:=h;have kl:=Z.lt;refine(Q,V,Q,?_);refine ite2 (λc=>?_) (λc=>?_)
 ·have k0:k=0:=V.int.inj (bG c);subst k0;exact(Q,(),λp hp=>q _ _ (zc hp _) (RN.of_q (r:=(x:Rat)) zd))
 ·have k0:k≠0:=λe=>c (by show decide (V.int k=V.int 0)=true;rw[e];decide)
  refine(Q,Q,_,Q,V,k0,q _ _ (Same.refl H) ?_);unfold nnum;rw[bx k0];exact RN.of_z
def Xp:KnI pg 80 42 (zaM nadd):=by
 exists 80,yF,xX,yh,zG,zi,zi,zG,zi,zi,zG,zi,zi,yh
 obtain⟨k,x,y,a,b,rfl,T,q⟩:=h;have kl:=T.kd.lt
 rcases jV T with⟨rfl,r,s,pa,pb,rfl,rfl,rfl,rfl,ha,hb,rn,rd,sn,sd⟩|⟨k0,hp,i,j,rfl,rfl,rfl,rfl,i0,ik,j0,jk⟩
 ·refine(Q,V,Q,iteT ?_);refine(Q,pa,_,_,Q,V,SqT.of ha,V,Q,pb,_,_,Q,V,SqT.of hb,V,_,Q,V,yL rn sd,Q,pb,_,_,Q,V,SqT.of hb,V,Q,pa,_,_,Q,V,SqT.of ha,V,_,Q,V,yL sn rd,_,Q,V,Q,pa,_,_,Q,V,SqT.of ha,V,Q,pb,_,_,Q,V,SqT.of hb,V,_,Q,V,yL rd sd,_,Q,way (den_pos r) (den_pos s),λp H' g h=>?_);rw[zcm]at h;exact q _ H' g (RN.of_q h)
 ·refine(Q,V,Q,?_);rw[bE (λe=>k0 (V.int.inj e))];refine iteF ?_;refine(Q,Q,_,Q,V,Q,_,Q,V,k0,?_);exact q _ _ (Same.refl H) RN.of_z
def qk:KnI pg 81 42 (zaM nmul):=by
 exists 81,yF,xX,zG,zi,zi,zG,zi,zi,zG
 obtain⟨k,x,y,a,b,rfl,T,q⟩:=h;have kl:=T.kd.lt
 rcases jV T with⟨rfl,r,s,pa,pb,rfl,rfl,rfl,rfl,ha,hb,rn,rd,sn,sd⟩|⟨k0,hp,i,j,rfl,rfl,rfl,rfl,i0,ik,j0,jk⟩
 ·refine(Q,V,Q,iteT ?_);refine(Q,pa,_,_,Q,V,SqT.of ha,V,Q,pb,_,_,Q,V,SqT.of hb,V,_,Q,V,yL rn sn,Q,pa,_,_,Q,V,SqT.of ha,V,Q,pb,_,_,Q,V,SqT.of hb,V,_,Q,V,yL rd sd,_,Q,way (den_pos r) (den_pos s),λp H' g h=>?_);rw[QG]at h;exact q _ H' g (RN.of_q h)
 ·refine(Q,V,Q,?_);rw[bE (λe=>k0 (V.int.inj e))];refine iteF ?_;refine(Q,Q,_,Q,V,yG i0 (by have:=hp.hi;omega),Q,_,Q,V,k0,?_);exact q _ _ (Same.refl H) RN.of_z
def ziw(Z:kab k)(ox:x.ok k)(oy:y.ok k):nadd k x (nmul k (nnum k (-1)) y)=nsub k x y:=by
 obtain⟨F,_,_,⟨O⟩⟩:=zw Z;have o1:=zD Z (-1);have om:=yD Z o1 oy;refine O.inj (yt Z ox om) (Zx (by have:=Z.lt;omega) ox oy) ?_;rw[O.add ox om,O.mul o1 oy,O.sub ox oy,O.num];have:(La.ι (-1):F) = -1:=by
  have h1:(La.ι (-1):F)+La.ι 1=0:=by rw[← La.ι_add];exact La.ι_zero
  rw[La.ι_one]at h1
  grind
 rw[this]
 grind
inductive JP:Sp
 | mk:∀ k x y a b,vs=[.int k,a,b]->kab k->x.ok k->y.ok k->nsm 30000000 x->nsm 30000000 y->RN H x a->RN H y b->(∀ v H',Same H H'->RN H' (nsub k x y) v->Q v H')->JP vs H Q E_
def zcI:KnI pg 82 43 JP:=by
 exists 82,Xp,qk,Ze
 obtain⟨k,x,y,a,b,rfl,Z,ox,oy,sx,sy,rx,ry,q⟩:=h;have o1:=zD Z (-1);have s1:nsm 30000000 (nnum k (-1)):=xq Z (sm_one.neg.mono ()) ();refine(Q,Q,Q,Q,Q,k,-1,V,Z,λv1 H1 g1 r1=>?_);refine(Q,k,nnum k (-1),y,_,Q,(Z,o1,oy,nsm.mono s1 (),nsm.mono sy (),r1,ry.mono g1),λv2 H2 g2 r2=>?_);refine(k,x,_,_,Q,(Z,ox,yD Z o1 oy,sx.mono (),(zhj Z o1 oy s1 sy ()).mono (),(rx.mono g1).mono g2,r2),λv3 H3 g3 r3=>?_);rw[ziw Z ox oy]at r3;exact q v3 H3 ((g1.trans g2).trans g3) r3
def primesN:List Nat:=[2,3,5,7,11,13,17,19,23,29,31,37,41,43,47,53,59,61,67,71,73,79,83,89,97]
def zdn:∀ w∈primesN,primeB w=true/\1<w/\w<99:=by decide
def zew(h:i<25):∃ k:Int,(([2,3,5,7,11,13,17,19,23,29,31,37,41,43,47,53,59,61,67,71,73,79,83,89,97]:List Int).map V.int)[i]?=some (.int k)/\KindS k:=by
 rw[show(([2,3,5,7,11,13,17,19,23,29,31,37,41,43,47,53,59,61,67,71,73,79,83,89,97]:List Int).map V.int)=primesN.map λ(w:Nat)=>V.int (w:Int)from rfl];have hi:= h;refine((primesN[i]:Int),by rw[wg,wb hi];rfl,.inr ?_);obtain⟨h1,h2,h3⟩:=zdn primesN[i] (wk hi);exact((),(),by rw[vn];exact h1)
inductive Je:Sp
 | mk:∀ c,vs=[.int c]->(∀ k H',Same H H'->KindS k->(c.fmod 3=0->k=0)->Q (.int k) H')->Je vs H Q E_
def zel:KnI pg 87 41 Je:=by
 exists 87,yF,zj,zj
 obtain⟨c,rfl,q⟩:=h;have n3:(3:Int)≠0:=by decide
 refine((),λp hp=>?_);have hpp:upd H p (.lst (([2,3,5,7,11,13,17,19,23,29,31,37,41,43,47,53,59,61,67,71,73,79,83,89,97]:List Int).map V.int)) p=some (.lst (([2,3,5,7,11,13,17,19,23,29,31,37,41,43,47,53,59,61,67,71,73,79,83,89,97]:List Int).map V.int)):=zd;have g1:=zc hp (.lst (([2,3,5,7,11,13,17,19,23,29,31,37,41,43,47,53,59,61,67,71,73,79,83,89,97]:List Int).map V.int));generalize upd H p (.lst (([2,3,5,7,11,13,17,19,23,29,31,37,41,43,47,53,59,61,67,71,73,79,83,89,97]:List Int).map V.int))=H1 at *;refine(Q,_,Q,V,n3,V,Q,?_);refine ite2 (λcc=>?_) (λcc=>?_)
 ·exact q 0 _ g1 (.inl rfl) (λ_=>rfl)
 ·have c3:c.fmod 3≠0:=λe=>cc (by show decide (V.int (c.fmod 3)=V.int 0)=true;rw[e];decide)
  have f0:=wJ c (show(0:Int)<3 by decide);have f1:=wR c (show(0:Int)<3 by decide);have a0:=wJ (c.fdiv 3) (show(0:Int)<4 by decide);have a1:=wR (c.fdiv 3) (show(0:Int)<4 by decide);have b0:=wJ (c.fdiv 3) (show(0:Int)<25 by decide);have b1:=wR (c.fdiv 3) (show(0:Int)<25 by decide);refine(Q,Q,_,Q,V,n3,_,Q,V,(by show(4:Int)≠0;decide),Q,_,Q,V,n3,_,Q,V,(by show(25:Int)≠0;decide),(),λp2 hp2=>?_);have g2:=zc hp2 (.lst [V.int ((c.fdiv 3).fmod 4),V.int ((c.fdiv 3).fmod 25)]);obtain⟨i,ei,hi⟩ : ∃ i:Nat,atI [V.int ((c.fdiv 3).fmod 4),V.int ((c.fdiv 3).fmod 25)] (c.fmod 3 - 1)=some (.int (i:Int))/\i<25:=by
   rcases (show c.fmod 3=1\/c.fmod 3=2 by omega)with e|e
   ·refine(((c.fdiv 3).fmod 4).toNat,?_,());rw[e,show((((c.fdiv 3).fmod 4).toNat:Nat):Int) =(c.fdiv 3).fmod 4 by omega]
    rfl
   ·refine(((c.fdiv 3).fmod 25).toNat,?_,());rw[e,show((((c.fdiv 3).fmod 25).toNat:Nat):Int) =(c.fdiv 3).fmod 25 by omega]
    rfl
  obtain⟨k,ek,Z⟩:=zew hi;exact(Q,_,Q,V,n3,_,Q,V,p2,_,_,Q,V,SqL.of zd,ei,p,_,_,Q,V,SqL.of (g2 _ _ hpp),zt ek,q k _ (g1.trans g2) Z (λe=>bK e c3))
inductive zgc:Sp
 | mk:∀(k:Int)(pc:Addr)(cs:List Int)(i:Nat)(iI:Int),vs=[.int k,.ref pc,.int iI]->iI =(i:Int)->kab k->H pc=some (.lst (cs.map V.int))->cs≠[]->(∀ x v H',Same H H'->RN H' x v->x.ok k->Q v H')->zgc vs H Q E_
def ziK:KnI pg 88 43 zgc:=by
 exists 88,Jk,zj,Jk,zbp,yh,zj
 obtain⟨k,pc,cs,i,iI,rfl,rfl,Z,hc,ne,q⟩:=h;refine(Q,Q,pc,Q,.inl (SqL.of hc),_,Q,V,Q,?_);refine ite2 (λcc=>?_) (λcc=>?_)
 ·have c':(i:Int) <(((cs.map V.int).length:Nat):Int):=bG cc;rw[wa]at c';have e:(cs.map V.int)[i]?=some (.int cs[i]):=by rw[wg,wb ()];rfl
  exact(Q,Q,Q,pc,_,_,Q,V,SqL.of hc,zt e,k,Q,Z,q)
 ·obtain⟨c0,cs',rfl⟩:=gr ne;have f0:=wJ (i:Int) (show(0:Int)<30 by decide);have f1:=wR (i:Int) (show(0:Int)<30 by decide);exact(Q,Q,pc,_,_,Q,V,SqL.of hc,zt (j:=0) rfl,Q,_,Q,V,Q,_,Q,V,(by show(30:Int)≠0;decide),_,Q,(),(),λm _ _=>(k,m,V,Z,q))
inductive Ql:Sp
 | mk:∀(k:Int)(pc:Addr)(cs:List Int)(i:Nat)(iI:Int),vs=[.int k,.ref pc,.int iI]->iI =(i:Int)->kab k->H pc=some (.lst (cs.map V.int))->cs≠[]->(∀ x v H',Same H H'->RN H' x v->x.ok k->whk k 2 x->Q v H')->Ql vs H Q E_
def zcQ:KnI pg 89 44 Ql:=by
 exists 89,ziK,yF,zi
 obtain⟨k,pc,cs,i,iI,rfl,rfl,Z,hc,ne,q⟩:=h;refine(Q,Q,Q,k,pc,cs,i,Q,V,Z,hc,ne,λx v H1 g1 rx ox=>?_);refine(Q,V,Q,?_);refine ite2 (λcc=>?_) (λcc=>?_)
 ·have k0:k=0:=V.int.inj (bG cc);subst k0;cases x with
  | z j=>exact bK rfl ox.1
  | q r =>
   obtain⟨p,rfl,hp⟩:=rx.q;have f0:=wJ r.num (show(0:Int)<5 by decide);have f1:=wR r.num (show(0:Int)<5 by decide);refine(Q,p,_,_,Q,V,SqT.of hp,V,_,Q,V,(by show(5:Int)≠0;decide),_,Q,V,(),λp2 hp2=>?_);refine q (.q ((r.num.fmod 5 - 2:Int):Rat)) _ _ (g1.trans (zc hp2 _)) (RN.of_q (r:=((r.num.fmod 5 - 2:Int):Rat)) zd) rfl λ_=>(r.num.fmod 5 - 2,V,?_)
   have:(2:Nat)^2=4:=by decide
   omega
 ·have k0:k≠0:=λe=>cc (by show decide (V.int k=V.int 0)=true;rw[e];decide)
  exact(Q,q x v H1 g1 rx ox λe=>bK e k0)
inductive Qp:Sp
 | mk:∀(h:Int)(n:Nat)(b:Bool),vs=[.int h,.int (n:Int),.bl b]->n<=60->(∀(ss:List Int) l H',Same H H'->H' l=some (.lst (ss.map V.int))->ss.length=n->Q (.ref l) H')->Qp vs H Q E_
def zde:KnI pg 90 42 Qp:=by
 exists 90,[],[0],zbp,yh
 obtain⟨h,n,b,rfl,n60,q⟩:=h;have szl:=se
 refine(Q,Q,?_);refine ite2 (λcc=>?_) (λcc=>?_)
 ·refine(Q,n,V,(),(),?_);rw[vn]
  let Pv1_:Nat->List V->Hp->Prop:=λi ys H'=>H'=H/\ys =(wL i (1:Int)).map V.int
  refine zZ (lo:=0) (n:=n) Pv1_ (V,V) ?_ ?_ ?_
  ·rintro i ys H' hi ⟨rfl,rfl⟩
   rw[wa,wQ];omega
  ·rintro i ys H' hi ⟨rfl,rfl⟩
   symm
   refine nxt hi (V,?_);rw[waF,wv];rfl
  ·rintro ys H' ⟨rfl,rfl⟩ p hp
   exact q _ p _ (zc hp _) zd (by rw[wQ])
 ·refine(Q,n,V,(),(),?_);rw[vn]
  let Pv2_:Nat->List V->Hp->Prop:=λi ys H'=>H'=H/\∃ ss:List Int,ys=ss.map V.int/\ss.length=i
  refine zZ (lo:=0) (n:=n) Pv2_ (V,[],V,V) ?_ ?_ ?_
  ·rintro i ys H' hi ⟨rfl,ss,rfl,l⟩
   rw[wa];omega
  ·rintro i ys H' hi ⟨rfl,ss,rfl,l⟩
   symm
   refine(Q,Q,_,Q,V,_,Q,(),(),λm _ _=>(_,Q,V,(by show(4:Int)≠0;decide),nxt hi (V,ss++[m.fmod 4],?_,by rw[wy,l];rfl)));rw[wv];rfl
  ·rintro ys H' ⟨rfl,ss,rfl,l⟩ p hp
   refine(p,ss,V,SqL.of zd,(),λl2 ss' hl2 pm _=>?_);exact q ss' l2 _ ((zc hp _).trans (zc hl2 _)) zd (by rw[pm.length_eq,l])
inductive zaC:Sp
 | mk:∀ a b,vs=[.int a,.int b]->(∀ c,Q (.bl c) H)->zaC vs H Q E_
def zfd:KnI pg 91 1 zaC:=by
 exists 91,yF,yF,yF,yF,yF,yF
 obtain⟨a,b,rfl,q⟩:=h;refine(Q,V,Q,?_);refine ite2 (λc1=>?_) (λc1=>?_)
 ·refine(Q,V,Q,?_);refine ite2 (λc2=>?_) (λc2=>?_)
  ·exact q _
  ·exact(Q,V,q _)
 ·refine(Q,V,Q,?_);refine ite2 (λc2=>?_) (λc2=>?_)
  ·exact(Q,_,Q,V,q _)
  ·refine(Q,V,Q,?_);refine ite2 (λc3=>?_) (λc3=>?_)
   ·exact q _
   ·exact(Q,V,q _)
def JX{K:bv}{g:TG}{tb:TS}{D:Ends}(Pv:Nat->L2.St->Hp->Prop)(h0:Pv 0 E H)(hl:∀ i E H,i<=xs.length->Pv i E H->SqL K H a xs)
  (hs:∀ N B i x E H,(∀ σ' H',Pv (i+1) σ' H'->N σ' H')->xs[i]?=some x->Pv i E H->g x E H λσ2 H2=>tb { D with nx:=N,ct:=N,bk:=B } σ2 H2) (hd:∀ E H,Pv xs.length E H->D.nx E H) :
  ∃ W:Nat->Nat->L2.St->Hp->Prop,(∃ m,W 0 m E H)/\∀ i m E H,W i m E H ->
   ((Itl K a).stop i H/\D.nx E H)\/((Itl K a).go i H/\∃ N:L2.St->Hp->Prop,(∀ σ' H',N σ' H'->∃ m',m'<m/\W (i+1) m' σ' H')/\∀ x H',(Itl K a).yld i H x H'->g x E H' λσ2 H2=>tb { D with nx:=N,ct:=N,bk:=D.nx } σ2 H2) :=
 yn Pv h0 hl (λi x E H J p=>hs (Pv (i+1)) D.nx i x E H (λ_ _ h=>h) J p) hd
def qO{lo:Int}{g:TG}{tb:TS}{D:Ends}(Pv:Nat->L2.St->Hp->Prop)(h0:Pv 0 E H)
  (hs:∀ N B i E H,(∀ σ' H',Pv (i+1) σ' H'->N σ' H')->i<n->Pv i E H->g (.int (lo+i)) E H λσ2 H2=>tb { D with nx:=N,ct:=N,bk:=B } σ2 H2) (hd:∀ E H,Pv n E H->D.nx E H) :
  ∃ W:Nat->Nat->L2.St->Hp->Prop,(∃ m,W 0 m E H)/\∀ i m E H,W i m E H ->
   ((Itr lo n).stop i H/\D.nx E H)\/((Itr lo n).go i H/\∃ N:L2.St->Hp->Prop,(∀ σ' H',N σ' H'->∃ m',m'<m/\W (i+1) m' σ' H')/\∀ x H',(Itr lo n).yld i H x H'->g x E H' λσ2 H2=>tb { D with nx:=N,ct:=N,bk:=D.nx } σ2 H2) :=
 yu Pv h0 (λi E H hi p=>hs (Pv (i+1)) D.nx i E H (λ_ _ h=>h) hi p) hd
inductive ZM:Sp
 | mk:∀(k:Int)(pc pz ps:Addr)(cs ss:List Int)(n m q:Nat),vs=[.int k,.ref pc,.ref pz,.ref ps]->kab k->H pc=some (.lst (cs.map V.int))->cs≠[]->H pz=some (.tup [.int (n:Int),.int (m:Int),.int (q:Int)])->H ps=some (.lst (ss.map V.int))->ss.length=n->n<=10->m<=10->q<=10->(∀ A B C pt pr ts rs (at':Nat) H',kai H H' [A,B,C] ts rs->TW k n n 2 A->TW k n m 2 B->TW k q n 2 C->H' pt=some (.lst (ts.map V.ref))->H pt=none->pt∉ts->(∀ ras∈rs,pt∉ras)->H' pr=some (.tup [.ref pt,.int (at':Int)])->Q (.ref pr) H')->ZM vs H Q E_
def dimR(n m q j:Nat):Nat:=if j=2 then q else n
def dimC(n m q j:Nat):Nat:=if j=1 then m else n
def Qv:KnI pg 92 45 ZM:=by
 exists 92,Yh 3 rfl,Ze,zo,Yh 2 rfl,[0,1,9,13,11],zcQ,yh,yh,zG,yh,zG,zfd,zj,zj,zj,zj,zj,[7],zj,yF,zj,zo,zj
 obtain⟨k,pc,pz,ps,cs,ss,n,m,qn,rfl,Z,hc,ne,hz,hs,ls,n10,m10,q10,q⟩:=h;have szl:=se
 refine(Q,pz,Q,SqT.of hz,V,_,Q,_,Q,_,Q,V,?_);refine(Q,k,0,V,Z,λv0 H1 g1 r1=>?_);refine((),λpt hpt=>?_);have ptH:H pt=none:=g1.none hpt;have g2:=zc hpt (.lst []);have hpt2:upd H1 pt (.lst []) pt=some (.lst []):=zd;have r2:=r1.mono g2;have gH2:=g1.trans g2;generalize upd H1 pt (.lst [])=H2 at *;clear hpt r1;refine(Q,Q,(),λq1 hq1=>?_);have g3:=zc hq1 (.tup [.int (n:Int),.int (n:Int)]);have e1:upd H2 q1 (.tup [.int (n:Int),.int (n:Int)]) q1=some (.tup [.int (n:Int),.int (n:Int)]):=zd;generalize upd H2 q1 (.tup [.int (n:Int),.int (n:Int)])=H3 at *;refine(Q,Q,(),λq2 hq2=>?_);have g4:=zc hq2 (.tup [.int (n:Int),.int (m:Int)]);have e2:upd H3 q2 (.tup [.int (n:Int),.int (m:Int)]) q2=some (.tup [.int (n:Int),.int (m:Int)]):=zd;generalize upd H3 q2 (.tup [.int (n:Int),.int (m:Int)])=H4 at *;refine(Q,Q,(),λq3 hq3=>?_);have g5:=zc hq3 (.tup [.int (qn:Int),.int (n:Int)]);have e3:upd H4 q3 (.tup [.int (qn:Int),.int (n:Int)]) q3=some (.tup [.int (qn:Int),.int (n:Int)]):=zd;generalize upd H4 q3 (.tup [.int (qn:Int),.int (n:Int)])=H5 at *;refine((),λpl hpl=>?_);have g6:=zc hpl (.lst [.ref q1,.ref q2,.ref q3]);have e4:upd H5 pl (.lst [.ref q1,.ref q2,.ref q3]) pl=some (.lst [.ref q1,.ref q2,.ref q3]):=zd;generalize upd H5 pl (.lst [.ref q1,.ref q2,.ref q3])=H6 at *;have hpt6:=g6 _ _ (g5 _ _ (g4 _ _ (g3 _ _ hpt2)));have npl:pl≠pt:=λe=>by rw[e,g5 _ _ (g4 _ _ (g3 _ _ hpt2))]at hpl;cases hpl
 have nq1:q1≠pt:=λe=>by rw[e,hpt2]at hq1;cases hq1
 have nq2:q2≠pt:=λe=>by rw[e,g3 _ _ hpt2]at hq2;cases hq2
 have nq3:q3≠pt:=λe=>by rw[e,g4 _ _ (g3 _ _ hpt2)]at hq3;cases hq3
 have gH6:=(((gH2.trans g3).trans g4).trans g5).trans g6;have r6:=(((r2.mono g3).mono g4).mono g5).mono g6;have f1:=g6 _ _ (g5 _ _ (g4 _ _ e1));have f2:=g6 _ _ (g5 _ _ e2);have f3:=g6 _ _ e3;clear g1 g2 g3 g4 g5 g6 hq1 hq2 hq3 hpl e1 e2 e3 hpt2 gH2 r2;refine(pl,V,(_,SqL.of e4),?_)
 let Pv1_:Nat->L2.St->Hp->Prop:=λi E H'=>∃ Ms ts rs,∃ at':Nat,∃ o10 o11 o12 o13 o14 o15,E=[some (.int k),some (.ref pc),some (.ref pz),some (.ref ps),some (.int (n:Int)),some (.int (m:Int)),some (.int (qn:Int)),some v0,some (.ref pt),some (.int (at':Int)),o10,o11,o12,o13,o14,o15]/\kai H H' Ms ts rs/\Ms.length=i/\(∀ j M,Ms[j]?=some M->TW k (dimR n m qn j) (dimC n m qn j) 2 M)/\H' pt=some (.lst (ts.map V.ref))/\pt∉ts/\(∀ ras∈rs,pt∉ras)/\RN H' (nnum k 0) v0/\H' pl=some (.lst [.ref q1,.ref q2,.ref q3])/\H' q1=some (.tup [.int (n:Int),.int (n:Int)])/\H' q2=some (.tup [.int (n:Int),.int (m:Int)])/\H' q3=some (.tup [.int (qn:Int),.int (n:Int)])
 refine JX (xs:=[.ref q1,.ref q2,.ref q3]) Pv1_
  ([],[],[],1,none,none,none,none,none,none,V,kai.nil gH6,V,λj M h=>by simp at h,hpt6,by simp,λras L=>(nomatch L),r6,e4,f1,f2,f3) ?_ ?_ ?_
 ·rintro i E H' _ ⟨Ms,ts,rs,at',o10,o11,o12,o13,o14,o15,rfl,G,lM,dM,hpt,nt,nr,r0,hl,_⟩
  exact SqL.of hl
 ·intro N1 B1 i v E H7 hN1 hv
  rintro ⟨Ms,ts,rs,at',o10,o11,o12,o13,o14,o15,rfl,G,lM,dM,hpt7,nt,nr,r0,hl,h1,h2,h3⟩
  obtain⟨qa,rows,cols,rfl,hqa,er,ec,rb,cb⟩ : ∃ qa rows cols,v=.ref qa/\H7 qa=some (.tup [.int ((rows:Nat):Int),.int ((cols:Nat):Int)])/\rows=dimR n m qn i/\cols=dimC n m qn i/\rows<=10/\cols<=10:=by
   match i,hv with
   | 0,hv=>cases hv;exact(q1,n,n,V,h1,V,V,n10,n10)
   | 1,hv=>cases hv;exact(q2,n,m,V,h2,V,V,n10,m10)
   | 2,hv=>cases hv;exact(q3,qn,n,V,h3,V,V,q10,n10)
  refine(qa,Q,SqT.of hqa,V,_,Q,_,Q,V,?_);refine((),λpto hpto=>?_);have hc7:=G.same _ _ hc;refine(Q,rows,V,(),(),?_);rw[vn]
  let Pv2_:Nat->L2.St->Hp->Prop:=λj E H'=>∃ M ras o13 o14 o15,E=[some (.int k),some (.ref pc),some (.ref pz),some (.ref ps),some (.int (n:Int)),some (.int (m:Int)),some (.int (qn:Int)),some v0,some (.ref pt),some (.int (at':Int)),some (.int (rows:Int)),some (.int (cols:Int)),some (.ref pto),o13,o14,o15]/\Grow H7 H' M ras/\H' pto=some (.lst (ras.map V.ref))/\pto∉ras/\M.length=j/\OkM k cols M/\(∀ r∈M,∀ x∈r,whk k 2 x)
  refine qO (lo:=0) (n:=rows) Pv2_ ([],[],_,_,Q,Grow.nil H7 (zc hpto _),zd,by simp,V,λr L=>(nomatch L),λr L=>(nomatch L)) ?_ ?_
  ·intro N2 B2 j E H8 hN2 hj
   rintro ⟨M,ras,o13,o14,o15,rfl,G8,hpt8,npt8,l8,o8,s8⟩
   refine(Q,.inl (V,_,SqL.of hpt8),Q,cols,V,(),(),?_);rw[vn];have ci0:0<=(0 +(j:Int)) *(cols:Int):=Int.mul_nonneg () ()
   let Pv3_:Nat->List V->Hp->Prop:=λl ys' H9=>∃ xs,Same H8 H9/\Paired (RN H9) xs ys'/\xs.length=l/\OkR k xs/\∀ x∈xs,whk k 2 x
   refine zZ (lo:=0) (n:=cols) Pv3_ ([],Same.refl _,.nil,V,λx J=>(nomatch J),λx J=>(nomatch J)) ?_ ?_ ?_
   ·rintro l ys' H9 hl' ⟨xs,g9,pr9,lx,_⟩
    have:=zf pr9;omega
   ·rintro l ys' H9 hl' ⟨xs,g9,pr9,lx,ox,sx⟩
    have hc9:H9 pc=some (.lst (cs.map V.int)):=g9 _ _ (G8.same _ _ hc7)
    symm
    refine(Q,Q,Q,Q,Q,_,Q,V,xB () (),_,Q,V,Q,_,Q,V,k,pc,cs,((at':Int) +(0 +(j:Int)) *(cols:Int) +(0 +(l:Int))).toNat,Q,(),Z,hc9,ne,λx v' H10 g10 xr xo xs2=>?_);refine nxt hl' (xs++[x],g9.trans g10,zJ (xT g10 pr9) xr,by rw[wy,lx];rfl,λy hy=>?_,λy hy=>?_)
    ·rcases wp.mp hy with h|h
     ·exact ox y h
     ·rw[wx.mp h];exact xo
    ·rcases wp.mp hy with h|h
     ·exact sx y h
     ·rw[wx.mp h];exact xs2
   ·rintro ys' H9 ⟨xs,g9,pr9,lx,ox,sx⟩ pn hpn
    have npn:pto≠pn:=λe=>by rw[← e,g9 _ _ hpt8]at hpn;cases hpn
    refine(pto,_,Q,V,(by rw[zy npn];exact g9 _ _ hpt8),?_,?_)
    ·have:=zf G8.rows;rw[wa];omega
    obtain⟨G9,nm9⟩:=G8.push (zs':=(ras.map V.ref)++[.ref pn]) hpto hpt8 npt8 g9 hpn pr9;refine hN2 _ _ (M++[xs],ras++[pn],_,_,Q,G9,?_,nm9,by rw[wy,l8];rfl,λy hy=>?_,λy hy=>?_)
    ·rw[zd,wv];rfl
    ·rcases wp.mp hy with h|h
     ·exact o8 y h
     ·rw[wx.mp h];exact(lx,ox)
    ·rcases wp.mp hy with h|h
     ·exact s8 y h
     ·rw[wx.mp h];exact sx
  ·rintro E H8 ⟨M,ras,o13,o14,o15,rfl,G8,hpt8,npt8,l8,o8,s8⟩
   have g8:=G8.same;have hptb:H8 pt=some (.lst (ts.map V.ref)):=g8 _ _ hpt7;have N8:NewT H7 H8 M pto ras:=((hpt8,G8.rows),hpto,G8.fr,G8.nd,npt8);have lts:=G.lt;have hi3:i<3:=(wu.mp hv).1;refine(Q,.inl (V,_,SqL.of hptb),Q,pt,_,Q,V,hptb,(by rw[wa];omega),?_);have nt8:pt≠pto:=λe=>by have:=hpto;rw[← e,hpt7]at this;cases this
   have nr8:pt∉ras:=λhm=>by have:=G8.fr _ hm;rw[hpt7]at this;cases this
   have nts:pt∉ts++[pto]:=λhm=>by
    rcases wp.mp hm with h|h
    ·exact nt h
    ·exact nt8 (wx.mp h)
   have nrs:∀ x∈rs++[ras],pt∉x:=λx hm=>by
    rcases wp.mp hm with h|h
    ·exact nr x h
    ·rw[wx.mp h];exact nr8
   have G9:=(G.push g8 N8).updAt (zs':=(ts.map V.ref)++[.ref pto]) ptH hptb nts nrs;refine(Q,Q,Q,_,Q,V,xB () (),_,Q,V,hN1 _ _ (Ms++[M],ts++[pto],rs++[ras],at'+rows*cols,some (.int (rows:Int)),some (.int (cols:Int)),some (.ref pto),o13,o14,o15,?_,G9,by rw[wy,lM];rfl,λj M' hj=>?_,by rw[zd,wv];rfl,nts,nrs,(r0.mono g8).upd hptb,by rw[zy npl];exact g8 _ _ hl,by rw[zy nq1];exact g8 _ _ h1,by rw[zy nq2];exact g8 _ _ h2,by rw[zy nq3];exact g8 _ _ h3))
   ·rw[show((at'+rows*cols:Nat):Int) =(at':Int) +(rows:Int) *(cols:Int) by rw[Int.natCast_add,gu]]
    rfl
   ·rcases wH j Ms.length with h|h
    ·rw[vk h]at hj;exact dM j M' hj
    ·have e:j=Ms.length:=by
      have:=(wu.mp hj).1;simp at this;omega
     subst e;rw[wW (ww _),uE]at hj;cases hj;rw[lM,← er,← ec];exact(l8,o8,s8)
 rintro E H7 ⟨Ms,ts,rs,at',o10,o11,o12,o13,o14,o15,rfl,G,lM,dM,hpt7,nt,nr,r0,_⟩
 obtain⟨A,B,C,rfl⟩ : ∃ A B C,Ms=[A,B,C]:=by
  match Ms,lM with
  | [A,B,C],_=>exact(A,B,C,V)
 have tA:TW k n n 2 A:=dM 0 A rfl;have tB:TW k n m 2 B:=dM 1 B rfl;have tC:TW k qn n 2 C:=dM 2 C rfl;obtain⟨ta,tb,tc,rfl⟩ : ∃ ta tb tc,ts=[ta,tb,tc]:=by
  match ts,G.lt with
  | [ta,tb,tc],_=>exact(ta,tb,tc,V)
 clear dM lM e4 f1 f2 f3 hpt6 npl nq1 nq2 nq3 r6 gH6;have z0:(nnum k 0).ok k:=zD Z 0;have zs:whk k 2 (nnum k 0):=λ_=>(0,V,())
 refine(Q,n,V,(),(),?_);rw[vn]
 let Pv4_:Nat->L2.St->Hp->Prop:=λi E H'=>∃ A B C rs o10 o11 o12 o13 o14 o15,E=[some (.int k),some (.ref pc),some (.ref pz),some (.ref ps),some (.int (n:Int)),some (.int (m:Int)),some (.int (qn:Int)),some v0,some (.ref pt),some (.int (at':Int)),o10,o11,o12,o13,o14,o15]/\kai H H' [A,B,C] [ta,tb,tc] rs/\TW k n n 2 A/\TW k n m 2 B/\TW k qn n 2 C/\H' pt=some (.lst [.ref ta,.ref tb,.ref tc])/\(∀ ras∈rs,pt∉ras)/\RN H' (nnum k 0) v0
 refine qO (lo:=0) (n:=n) Pv4_ (A,B,C,rs,_,_,_,_,_,Q,G,tA,tB,tC,hpt7,nr,r0) ?_ ?_
 ·clear G tA tB tC hpt7 nr r0;intro N4 B4 i E H8 hN4 hi
  rintro ⟨A,B,C,rs,o10,o11,o12,o13,o14,o15,rfl,G,tA,tB,tC,hpt8,nr,r0⟩
  have hss:(ss.map V.int)[i]?=some (.int ss[i]):=by rw[wg,wb ()];rfl
  refine(Q,n,V,(),(),?_);rw[vn]
  let Pv5_:Nat->L2.St->Hp->Prop:=λj E H'=>∃ A o14 o15,E=[some (.int k),some (.ref pc),some (.ref pz),some (.ref ps),some (.int (n:Int)),some (.int (m:Int)),some (.int (qn:Int)),some v0,some (.ref pt),some (.int (at':Int)),o10,o11,o12,some (.int (0 +(i:Int))),o14,o15]/\kai H H' [A,B,C] [ta,tb,tc] rs/\TW k n n 2 A/\H' pt=some (.lst [.ref ta,.ref tb,.ref tc])/\RN H' (nnum k 0) v0
  refine qO (lo:=0) (n:=n) Pv5_ (A,_,Q,G,tA,hpt8,r0) ?_ ?_
  ·clear G tA hpt8 r0;intro N5 B5 j E H9 hN5 hj
   rintro ⟨A,o14,o15,rfl,G,tA,hpt9,r0⟩
   have hs9:=G.same _ _ hs;have hsj:(ss.map V.int)[j]?=some (.int ss[j]):=by rw[wg,wb ()];rfl
   refine(Q,Q,ps,_,_,Q,V,SqL.of hs9,(by rw[vQ];exact zt hss),Q,Q,ps,_,_,Q,V,SqL.of hs9,(by rw[vQ];exact zt hsj),_,Q,λcb=>(Q,?_));refine ite2 (λcc=>?_) (λcc=>?_)
   ·obtain⟨M',t',ras,e1,e2,e3,hT⟩:=G.get (i:=0) (by simp);cases e1;cases e2;have lra:=zf hT.2;rw[tA.len]at lra;have hi':ras[i]?=some ras[i]:=wb ();obtain⟨row,hrow,hR⟩:=zK hT.2 hi';obtain⟨us,hu,pu,lu⟩:=hR.len;have orow:=tA.ok row (we hrow);have nra:ras[i]≠pt:=λe=>nr ras (we e3) (by rw[← e];exact wk _)
    refine(Q,Q,pt,_,_,Q,V,SqL.of hpt9,zt (j:=0) rfl,Q,ta,_,_,Q,V,SqL.of hT.1,(by rw[vQ];exact zt (by rw[wg,hi'];rfl)),Q,ras[i],us,_,j,V,V,hu,(by rw[vQ];exact jD (by rw[lu,orow.1];exact hj)),?_);refine hN5 _ _ (A.set i (row.set j (nnum k 0)),_,Q,G.setRow (i:=0) rfl e3 hi' hu (Jr pu j r0),tA.set (by rw[vv];exact orow.1) (λx J=>?_) (λx J=>?_),by rw[zy (Ne.symm nra)];exact hpt9,r0.upd hu)
    ·rcases zO J with e|e
     ·rw[e];exact z0
     ·exact orow.2 x e
    ·rcases zO J with e|e
     ·rw[e];exact zs
     ·exact tA.sz row (we hrow) x e
   ·exact hN5 _ _ (A,_,Q,G,tA,hpt9,r0)
  clear G tA hpt8 r0
  rintro E H9 ⟨A,o14,o15,rfl,G,tA,hpt9,r0⟩
  have hs9:=G.same _ _ hs
  try dsimp only
  let Pv6_:L2.St->Hp->Prop:=λE H'=>∃ B rs o14,E=[some (.int k),some (.ref pc),some (.ref pz),some (.ref ps),some (.int (n:Int)),some (.int (m:Int)),some (.int (qn:Int)),some v0,some (.ref pt),some (.int (at':Int)),o10,o11,o12,some (.int (0 +(i:Int))),o14,o15]/\kai H H' [A,B,C] [ta,tb,tc] rs/\TW k n m 2 B/\H' pt=some (.lst [.ref ta,.ref tb,.ref tc])/\(∀ ras∈rs,pt∉ras)/\RN H' (nnum k 0) v0
  refine ZN Pv6_ ?_ ?_
  rotate_left
  ·intro hN;refine(Q,Q,ps,_,_,Q,V,SqL.of hs9,(by rw[vQ];exact zt hss),_,Q,V,Q,?_);refine ite2 (λcc=>?_) (λcc=>?_)
   ·refine(Q,m,V,(),(),?_);rw[vn];refine zZ (lo:=0) (n:=m) (λl ys' H'=>H'=H9/\ys'=wL l v0) (V,V) ?_ ?_ ?_
    ·rintro l ys' H' hl' ⟨rfl,rfl⟩
     rw[wQ];omega
    ·rintro l ys' H' hl' ⟨rfl,rfl⟩
     symm
     exact(Q,nxt hl' (V,by rw[waF]))
    ·rintro ys' H' ⟨rfl,rfl⟩ pn hpn
     have g10:=zc hpn (.lst (wL m v0));have R10:kaq (upd H' pn (.lst (wL m v0))) (wL m (nnum k 0)) pn:=(_,zd,Jy (r0.mono g10) m);have G10:=G.mono g10;have hpt10:=g10 _ _ hpt9;have npn:pn∉[ta,tb,tc]:=λhm=>by obtain⟨o,ho⟩:=G.tsome hm;rw[hpn]at ho;cases ho
     have nrn:∀ ras∈rs,pn∉ras:=λras L hm=>by obtain⟨o,ho⟩:=G.rsome L hm;rw[hpn]at ho;cases ho
     have fpn:H pn=none:=G.same.none hpn;have r10:=r0.mono g10;have ptn:pt≠pn:=λe=>by rw[← e,hpt9]at hpn;cases hpn
     generalize upd H' pn (.lst (wL m v0))=H10 at *;obtain⟨M',t',ras,e1,e2,e3,hT⟩:=G10.get (i:=1) (by simp);cases e1;cases e2;have lra:=zf hT.2;rw[tB.len]at lra;have hi':i<ras.length:=by omega
     refine(Q,pt,_,_,Q,V,SqL.of hpt10,zt (j:=1) rfl,Q,tb,_,_,i,V,V,hT.1,(by rw[vQ];exact jD (by rw[wa];exact hi')),?_);have G11:=G10.setSlot (i:=1) (j:=i) rfl rfl e3 hi' R10 fpn npn nrn;rw[wbp]at G11;have ntb:pt≠tb:=λe=>nt (by rw[e];simp)
     refine hN _ _ (B.set i (wL m (nnum k 0)),rs.set 1 (ras.set i pn),Q,G11,tB.set (by rw[wQ]) (λx J=>by rw[vF J];exact z0) (λx J=>by rw[vF J];exact zs),by rw[zy ntb];exact hpt10,λx J hm=>?_,r10.upd hT.1)
     rcases zO J with e|e
     ·rw[e]at hm
      rcases zO hm with e'|e'
      ·exact ptn e'
      ·exact nr ras (we e3) e'
     ·exact nr x e hm
   ·exact hN _ _ (B,rs,Q,G,tB,hpt9,nr,r0)
  clear G tB hpt9 nr r0 hs9
  rintro E H10 ⟨B,rs,o14,rfl,G,tB,hpt10,nr,r0⟩
  have hs10:=G.same _ _ hs;refine(Q,Q,ps,_,_,Q,V,SqL.of hs10,(by rw[vQ];exact zt hss),_,Q,V,(by show(2:Int)≠0;decide),V,Q,?_);refine ite2 (λcc=>?_) (λcc=>?_)
  ·obtain⟨M',t',ras,e1,e2,e3,hT⟩:=G.get (i:=2) (by simp);cases e1;cases e2;have lra:=zf hT.2;rw[tC.len]at lra;refine(Q,pt,_,_,Q,V,SqL.of hpt10,zt (j:=2) rfl,tc,V,(_,SqL.of hT.1),?_)
   let Pv7_:Nat->L2.St->Hp->Prop:=λl E H'=>∃ C o15,E=[some (.int k),some (.ref pc),some (.ref pz),some (.ref ps),some (.int (n:Int)),some (.int (m:Int)),some (.int (qn:Int)),some v0,some (.ref pt),some (.int (at':Int)),o10,o11,o12,some (.int (0 +(i:Int))),o14,o15]/\kai H H' [A,B,C] [ta,tb,tc] rs/\TW k qn n 2 C/\H' pt=some (.lst [.ref ta,.ref tb,.ref tc])/\RN H' (nnum k 0) v0
   refine JX (xs:=ras.map V.ref) Pv7_ (C,Q,G,tC,hpt10,r0) ?_ ?_ ?_
   ·rintro l E H' _ ⟨C,o15,rfl,G,_⟩
    exact SqL.of (G.tabs 2 C tc ras rfl rfl e3).1
   ·clear G tC hpt10 r0 hT;intro N6 B6 l v E H' hN6 hv
    rintro ⟨C,o15,rfl,G,tC,hptl,r0⟩
    have hT:=G.tabs 2 C tc ras rfl rfl e3;obtain⟨row,ar,hrow,har,rfl,hR⟩:=hT.row hv;obtain⟨us,hu,pu,lu⟩:=hR.len;have orow:=tC.ok row (we hrow);have nra:ar≠pt:=λe=>nr ras (we e3) (by rw[← e];exact we har)
    refine(Q,Q,Q,ar,us,_,i,V,V,hu,(by rw[vQ];exact jD (by rw[lu,orow.1];exact hi)),?_);refine hN6 _ _ (C.set l (row.set i (nnum k 0)),Q,G.setRow (i:=2) rfl e3 har hu (Jr pu i r0),tC.set (by rw[vv];exact orow.1) (λx J=>?_) (λx J=>?_),by rw[zy (Ne.symm nra)];exact hptl,r0.upd hu)
    ·rcases zO J with e|e
     ·rw[e];exact z0
     ·exact orow.2 x e
    ·rcases zO J with e|e
     ·rw[e];exact zs
     ·exact tC.sz row (we hrow) x e
   ·rintro E H' ⟨C,o15,rfl,G,tC,hptl,r0⟩
    exact hN4 _ _ (A,B,C,rs,_,_,_,_,_,Q,G,tA,tB,tC,hptl,nr,r0)
  ·exact hN4 _ _ (A,B,C,rs,_,_,_,_,_,Q,G,tA,tB,tC,hpt10,nr,r0)
 ·rintro E H8 ⟨A,B,C,rs,o10,o11,o12,o13,o14,o15,rfl,G,tA,tB,tC,hpt8,nr,r0⟩
  refine(Q,Q,(),λpr hpr=>?_);have g9:=zc hpr (.tup [.ref pt,.int (at':Int)]);exact q A B C pt pr [ta,tb,tc] rs at' _ (G.mono g9) tA tB tC (g9 _ _ hpt8) ptH nt nr zd
def zeT{α:Type}{l:List α}{x:α}(h:l[i]?=some x):l.set i x=l:=by
 refine uR λj=>?_
 rw[vA]
 by_cases e:i=j
 ·subst e;rw[bw rfl,bw (wu.mp h).1,h]
 ·rw[bx e]
def TWs(k:Int)(n m q:Nat)(f:Nat->Nat)(Ms:List (Tb)):Prop:=Ms.length=3/\∀ I M,Ms[I]?=some M->TW k (dimR n m q I) (dimC n m q I) (f I) M
def TWs.up(h:TWs k n m q f Ms)(hf:∀ I,f I<=g I):TWs k n m q g Ms:=(h.1,λI M hM=>(h.2 I M hM).up (hf I))
def TWs.set(h:TWs k n m q f Ms)(hM:TW k (dimR n m q bN) (dimC n m q bN) (g bN) M')(hf:∀ I,I≠bN->f I<=g I):TWs k n m q g (Ms.set bN M'):=by
 refine(by rw[vv];exact h.1,λI M e=>?_)
 by_cases c:I=bN
 ·subst c;have hl:I<Ms.length:=by have:=(wu.mp e).1;rw[vv]at this;exact this
  rw[vA,bw rfl,bw hl]at e;cases e;exact hM
 ·rw[vA,bx (Ne.symm c)]at e;exact(h.2 I M e).up (hf I c)
inductive zaq:Sp
 | mk:∀ k c Ms H0 ts pt rs n m q z,vs=[.int k,.ref pt,.int c]->kab k->kai H0 H Ms ts rs->TWs k n m q (λ_=>z) Ms->H pt=some (.lst (ts.map V.ref))->(∀ ras∈rs,pt∉ras)->pt∉ts->1<=n->n<=10->m<=10->q<=10->z<=1000->(∀ Ms' rs' H',kai H0 H' Ms' ts rs'->TWs k n m q (λ_=>z+6) Ms'->H' pt=some (.lst (ts.map V.ref))->(∀ ras∈rs',pt∉ras)->Q .non H')->zaq vs H Q E_
def pick3(h0:0<=m)(h1:m<3):∃ w:Int,atI [V.int 1,V.int (-1),V.int 2] m=some (.int w)/\(w=1\/w = -1\/w=2):=by
 rcases (show m=0\/m=1\/m=2 by omega)with rfl|rfl|rfl
 ·exact(1,V,by simp)
 ·exact(-1,V,by simp)
 ·exact(2,V,by simp)
def zeN:KnI pg 93 44 zaq:=by
 exists 93,zj,yh,yh,Ze,zj,zhe 3 rfl,zo,[0,6],zj,zj,Xp,qk,zo,zo,zcI,zj,qk,zj
 obtain⟨k,c,Ms,H0,ts,pt,rs,n,m,qn,z,rfl,Z,G,tM,hpt,nr,nt,n1,n10,m10,q10,z1000,q⟩:=h;have szl:=se
 have kl:=Z.lt;have lM3:=tM.1;obtain⟨ta,tb,tc,rfl⟩ : ∃ ta tb tc,ts=[ta,tb,tc]:=by
  match ts,(G.lt.trans lM3)with
  | [ta,tb,tc],_=>exact(ta,tb,tc,V)
 obtain⟨M0,t0,ra,e1,e2,ea,hTa⟩:=G.get (i:=0) ();cases e2;have lra:=zf hTa.2;rw[(tM.2 0 M0 e1).len]at lra;replace lra:n=ra.length:=lra;refine(Q,pt,_,_,.ref ta,V,V,SqL.of hpt,zt (j:=0) rfl,ta,Q,.inl (SqL.of hTa.1),?_);rw[wa,← lra];refine(Q,Q,_,Q,V,(by show(n:Int)≠0;omega),?_);have i0:=wJ c (show(0:Int) <(n:Int) by omega);have i1:=wR c (show(0:Int) <(n:Int) by omega)
 try dsimp only
 generalize c.fmod (n:Int)=iI at *;obtain⟨i,rfl⟩:=wal i0;have hi:i<n:=by omega
 clear hTa ea lra e1;refine(Q,_,Q,V,Q,?_);refine ite2 (λcn=>?_) (λcn=>?_)
 rotate_left
 ·exact q Ms rs H G (tM.up λ_=>by omega) hpt nr
 have n2:(1:Int) <(n:Int):=bG cn;refine(Q,_,Q,V,Q,_,Q,V,(by show(5:Int)≠0;decide),Q,_,Q,V,_,Q,V,(by show(n:Int) - 1≠0;omega),_,Q,V,Q,_,Q,V,(by show(n:Int)≠0;omega),?_)
 try dsimp only
 have j0:=wJ ((i:Int)+1 +(c.fdiv 5).fmod ((n:Int) - 1)) (show(0:Int) <(n:Int) by omega);have j1:=wR ((i:Int)+1 +(c.fdiv 5).fmod ((n:Int) - 1)) (show(0:Int) <(n:Int) by omega);generalize ((i:Int)+1 +(c.fdiv 5).fmod ((n:Int) - 1)).fmod (n:Int)=jI at *;obtain⟨j,rfl⟩:=wal j0;have hj:j<n:=by omega
 refine(Q,Q,(),λp3 hp3=>?_);obtain⟨w3,ew,hw⟩:=pick3 (wJ (c.fdiv 20) (show(0:Int)<3 by decide)) (wR (c.fdiv 20) (show(0:Int)<3 by decide));have g3:=zc hp3 (.lst [V.int 1,V.int (-1),V.int 2]);refine(Q,_,Q,V,(by show(20:Int)≠0;decide),_,Q,V,(by show(3:Int)≠0;decide),p3,_,_,.int w3,V,V,SqL.of zd,ew,k,w3,V,Z,λvc H4 g4 rc=>?_);have g34:=g3.trans g4;generalize upd H p3 (.lst [V.int 1,V.int (-1),V.int 2])=H3 at *;clear hp3 g3 g4 ew;have sw:whk k 2 (nnum k w3):=λk0=>(w3,V,by
  have:(2:Nat)^2=4:=by decide
  omega)
 try dsimp only
 let Pv1_:L2.St->Hp->Prop:=λE H'=>∃ x v o7 o8 o9 o10 o11,E=[some (.int k),some (.ref pt),some (.int c),some (.int (n:Int)),some (.int (i:Int)),some (.int (j:Int)),some v,o7,o8,o9,o10,o11]/\x.ok k/\whk k 2 x/\RN H' x v/\H'=H4
 refine ZN Pv1_ ?_ ?_
 rotate_left
 ·intro hN;refine(Q,_,Q,V,Q,?_);refine ite2 (λck=>?_) (λck=>?_)
  ·have k0:0<k:=bG ck;exact(Q,_,Q,V,(by show(20:Int)≠0;decide),Q,_,Q,V,(show k≠0 by omega),hN _ _ (.z _,_,_,_,_,_,Q,((),wJ _ k0,wR _ k0),λe=>by omega,RN.of_z,V))
  ·exact hN _ _ (nnum k w3,vc,_,_,_,_,Q,zD Z w3,sw,rc,V)
 clear rc sw hw
 rintro E H4' ⟨x,vc,o7,o8,o9,o10,o11,rfl,ox,sx,rc,rfl⟩
 replace G:=G.mono g34;replace hpt:=g34 _ _ hpt;clear g34;refine(Q,pt,Q,SqL.of hpt,V,_,Q,_,Q,_,Q,V,?_);refine(Q,Q,(),λpl hpl=>?_);have g5:=zc hpl (.lst [.ref ta,.ref tb]);have hl5:upd H4' pl (.lst [.ref ta,.ref tb]) pl=some (.lst [.ref ta,.ref tb]):=zd;have nlt:pl∉[ta,tb,tc]:=λhm=>by obtain⟨o,ho⟩:=G.tsome hm;rw[hpl]at ho;cases ho
 have nlr:∀ ras∈rs,pl∉ras:=λras L hm=>by obtain⟨o,ho⟩:=G.rsome L hm;rw[hpl]at ho;cases ho
 replace G:=G.mono g5;replace hpt:=g5 _ _ hpt;replace rc:=rc.mono g5;generalize upd H4' pl (.lst [.ref ta,.ref tb])=H5 at *;clear g5 hpl;refine(pl,V,(_,SqL.of hl5),?_)
 let Pv2_:Nat->L2.St->Hp->Prop:=λl E H'=>∃ Ms rs o10 o11,E=[some (.int k),some (.ref pt),some (.int c),some (.int (n:Int)),some (.int (i:Int)),some (.int (j:Int)),some vc,some (.ref ta),some (.ref tb),some (.ref tc),o10,o11]/\kai H0 H' Ms [ta,tb,tc] rs/\TWs k n m qn (λI=>if I<l then z+3 else z) Ms/\H' pt=some (.lst [.ref ta,.ref tb,.ref tc])/\(∀ ras∈rs,pt∉ras)/\H' pl=some (.lst [.ref ta,.ref tb])/\(∀ ras∈rs,pl∉ras)/\RN H' x vc
 refine yn (xs:=[.ref ta,.ref tb]) Pv2_ (Ms,rs,_,Q,G,tM.up λI=>by rw[bx (vN I)];exact ww _,hpt,nr,hl5,nlr,rc) ?_ ?_ ?_
 ·rintro l E H' _ ⟨Ms,rs,o10,o11,rfl,_,_,_,_,hl',_⟩
  exact SqL.of hl'
 ·clear G tM hpt nr hl5 nlr rc lM3
  rintro l v E H6 hv ⟨Ms,rs,o10,o11,rfl,G,tM,hpt,nr,hl6,nlr,rc⟩
  have l2:l<2:=(wu.mp hv).1;obtain⟨t,rfl,ht⟩ : ∃ t,v=.ref t/\[ta,tb,tc][l]?=some t:=by
   match l,hv with
   | 0,hv=>cases hv;exact(ta,V,V)
   | 1,hv=>cases hv;exact(tb,V,V)
  obtain⟨M,t',ras,eM,e2,er,hT⟩:=G.get (i:=l) (by rw[tM.1];omega);rw[ht]at e2;cases e2;have tk:TW k (dimR n m qn l) (dimC n m qn l) z M:=by
   have h:=tM.2 l M eM
   dsimp only at h
   rw[bx (ur l)]at h;exact h
  have dn:dimR n m qn l=n:=by unfold dimR;rw[bx ()]
  have cc10:dimC n m qn l<=10:=by unfold dimC;split <;> omega
  have lras:=zf hT.2;rw[tk.len,dn]at lras;have ei:ras[i]?=some ras[i]:=wb ();have ej:ras[j]?=some ras[j]:=wb ();obtain⟨xi,hxi,ri⟩:=zK hT.2 ei;obtain⟨xj,hxj,rj⟩:=zK hT.2 ej;obtain⟨ui,hui,pui,lui⟩:=ri.len;obtain⟨uj,huj,puj,luj⟩:=rj.len;have oi:=tk.ok xi (we hxi);have oj:=tk.ok xj (we hxj);have si:=tk.sz xi (we hxi);have sj:=tk.sz xj (we hxj);have ll:xi.length=xj.length:=by rw[oi.1,oj.1]
  refine(Q,Q,t,_,_,.ref ras[i],V,V,SqL.of hT.1,zt (by rw[wg,ei];rfl),Q,Q,t,_,_,.ref ras[j],V,V,SqL.of hT.1,zt (by rw[wg,ej];rfl),ras[i],ras[j],ui,uj,V,SqL.of hui,SqL.of huj,?_)
  let Pv3_:Nat->List V->Hp->Prop:=λe ys H'=>Same H6 H'/\Paired (RN H') ((vP (λa b=>nadd k a (nmul k x b)) xi xj).take e) ys
  refine Zs (xs:=ui) (zs:=uj) (by rw[lui,luj];exact ll) Pv3_ (Same.refl _,.nil) ?_ ?_ ?_
  ·rintro e ys H' he ⟨g,pr⟩
   refine(SqL.of (g _ _ hui),SqL.of (g _ _ huj),?_);have:=zf pr;rw[wr]at this;rw[lui,oi.1]at he;omega
  ·rintro e a b T ys H' ha hb he hTn ⟨g,pr⟩
   have g':=g.trans (zc hTn (.tup [a,b]));obtain⟨na,ena,rna⟩:=zK pui ha;obtain⟨nb,enb,rnb⟩:=zK puj hb;have oa:=oi.2 na (we ena);have ob:=oj.2 nb (we enb);have sa:=si na (we ena);have sb:=sj nb (we enb);have om:=yD Z ox ob;have sm:=XV ox ob sx sb;have pr':=xT (zc hTn (.tup [a,b])) pr;refine(T,Q,SqT.of zd,V,_,Q,_,Q,V,?_);generalize upd H' T (.tup [a,b])=H7 at *
   symm
   refine(Q,Q,Q,Q,Q,k,x,nb,_,Q,(Z,ox,ob,sx.nsm Z ox () (),sb.nsm Z ob () (),rc.mono g',rnb.mono g'),λv8 H8 g8 r8=>?_);refine(k,na,_,_,Q,(Z,oa,om,sa.nsm Z oa () (),sm.nsm Z om () (),(rna.mono g').mono g8,r8),λv9 H9 g9 r9=>nxt he ((g'.trans g8).trans g9,?_));have ez:(vP (λa b=>nadd k a (nmul k x b)) xi xj)[e]?=some (nadd k na (nmul k x nb)):=by rw[uq,ena,enb]
   rw[zh ez];exact zJ (xT (g8.trans g9) pr') r9
  rintro ys H7 ⟨g7,pr⟩ pn hpn
  rw[lui,wm (by rw[vd];omega)]at pr;generalize ez:vP (λa b=>nadd k a (nmul k x b)) xi xj=xz at *;have memz:∀ y∈xz,y.ok k/\whk k (z+3) y:=λy hy=>by
   rw[← ez]at hy;obtain⟨e,he,rfl⟩:=wD hy;rw[uD];rw[vd]at he;have oa:=oi.2 _ (wk (show e<xi.length by omega));have ob:=oj.2 _ (wk (show e<xj.length by omega));have sa:=si _ (wk (show e<xi.length by omega));have sb:=sj _ (wk (show e<xj.length by omega));exact(yt Z oa (yD Z ox ob),(zfi oa (yD Z ox ob) sa (XV ox ob sx sb)).mono ())
  have lz:xz.length=dimC n m qn l:=by rw[← ez,vd,← ll,oi.1];omega
  have g8:=zc hpn (.lst ys);have R8:kaq (upd H7 pn (.lst ys)) xz pn:=(ys,zd,xT g8 pr);have G7:=G.mono g7;have npn:pn∉[ta,tb,tc]:=λhm=>by obtain⟨o,ho⟩:=G7.tsome hm;rw[hpn]at ho;cases ho
  have nrn:∀ ras∈rs,pn∉ras:=λras L hm=>by obtain⟨o,ho⟩:=G7.rsome L hm;rw[hpn]at ho;cases ho
  have fpn:H0 pn=none:=G7.same.none hpn;have ptn:pt≠pn:=λe=>by rw[← e,g7 _ _ hpt]at hpn;cases hpn
  have pln:pl≠pn:=λe=>by rw[← e,g7 _ _ hl6]at hpn;cases hpn
  have G8:=G7.mono g8;have g78:=g7.trans g8;generalize upd H7 pn (.lst ys)=H8 at *;have hT8:=hT.mono g78;have tm:=we ht;have ptt:pt≠t:=λe=>nt (by rw[e];exact tm)
  have plt:pl≠t:=λe=>nlt (by rw[e];exact tm)
  refine(Q,Q,t,_,_,i,V,V,hT8.1,jD (by rw[wa];omega),?_);have G9:=G8.setSlot (i:=l) (j:=i) eM ht er () R8 fpn npn nrn;rw[wbp]at G9;have away:∀ p,p≠pn->(∀ ras∈rs,p∉ras)->∀ x'∈rs.set l (ras.set i pn),p∉x':=λp hp L x' hx' hm=>by
   rcases zO hx' with e|e
   ·rw[e]at hm
    rcases zO hm with e'|e'
    ·exact hp e'
    ·exact L ras (we er) e'
   ·exact L x' e hm
  refine(Ms.set l (M.set i xz),rs.set l (ras.set i pn),_,Q,G9,tM.set (g:=λI=>if I<l+1 then z+3 else z) ?_ (λI hI=>?_),by rw[zy ptt];exact g78 _ _ hpt,away pt ptn nr,by rw[zy plt];exact g78 _ _ hl6,away pl pln nlr,(rc.mono g78).upd hT8.1)
  ·rw[bw (gf l)];exact(tk.up (show z<=z+3 by omega)).set lz (λy hy=>(memz y hy).1) (λy hy=>(memz y hy).2)
  ·by_cases c1:I<l
   ·rw[bw c1,bw ()];exact ww _
   ·rw[bx c1,bx ()];exact ww _
 clear G tM hpt nr hl5 nlr rc nlt
 rintro E H6 ⟨Ms,rs,o10,o11,rfl,G,tM0,hpt,nr,_,_,rc⟩
 have tM:TWs k n m qn (λ_=>z+3) Ms:=tM0.up λI=>by split <;> omega
 clear tM0;refine(Q,Q,(),λpl hpl=>?_);have g5:=zc hpl (.lst [.ref ta,.ref tc]);have hl5:upd H6 pl (.lst [.ref ta,.ref tc]) pl=some (.lst [.ref ta,.ref tc]):=zd;have nlr:∀ ras∈rs,pl∉ras:=λras L hm=>by obtain⟨o,ho⟩:=G.rsome L hm;rw[hpl]at ho;cases ho
 replace G:=G.mono g5;replace hpt:=g5 _ _ hpt;replace rc:=rc.mono g5;generalize upd H6 pl (.lst [.ref ta,.ref tc])=H7 at *;clear g5 hpl;refine(pl,V,(_,SqL.of hl5),?_)
 let Pv4_:Nat->L2.St->Hp->Prop:=λl E H'=>∃ Ms o10 o11,E=[some (.int k),some (.ref pt),some (.int c),some (.int (n:Int)),some (.int (i:Int)),some (.int (j:Int)),some vc,some (.ref ta),some (.ref tb),some (.ref tc),o10,o11]/\kai H0 H' Ms [ta,tb,tc] rs/\TWs k n m qn (λI=>if I<2*l then z+6 else z+3) Ms/\H' pt=some (.lst [.ref ta,.ref tb,.ref tc])/\H' pl=some (.lst [.ref ta,.ref tc])/\RN H' x vc
 refine yn (xs:=[.ref ta,.ref tc]) Pv4_ (Ms,_,Q,G,tM.up λI=>by rw[bx ()];exact ww _,hpt,hl5,rc) ?_ ?_ ?_
 ·rintro l E H' _ ⟨Ms,o10,o11,rfl,_,_,_,hl',_⟩
  exact SqL.of hl'
 ·clear G tM hpt hl5 rc
  rintro l v E H8 hv ⟨Ms,o10,o11,rfl,G,tM,hpt,hl8,rc⟩
  have l2:l<2:=(wu.mp hv).1;obtain⟨t,rfl,ht⟩ : ∃ t,v=.ref t/\[ta,tb,tc][2*l]?=some t:=by
   match l,hv with
   | 0,hv=>cases hv;exact(ta,V,V)
   | 1,hv=>cases hv;exact(tc,V,V)
  obtain⟨M,t',ras,eM,e2,er,hT⟩:=G.get (i:=2*l) (by rw[tM.1];omega);rw[ht]at e2;cases e2;have tk:TW k (dimR n m qn (2*l)) (dimC n m qn (2*l)) (z+3) M:=by
   have h:=tM.2 (2*l) M eM
   dsimp only at h
   rw[bx (ur (2*l))]at h;exact h
  have cn':dimC n m qn (2*l)=n:=by unfold dimC;rw[bx ()]
  rw[cn']at tk;have lras:=zf hT.2;have rm:=we er;have lMs:=tM.1;refine(Q,t,V,(_,SqL.of hT.1),?_)
  let Pv5_:Nat->L2.St->Hp->Prop:=λe E H'=>∃ Mc o11,E=[some (.int k),some (.ref pt),some (.int c),some (.int (n:Int)),some (.int (i:Int)),some (.int (j:Int)),some vc,some (.ref ta),some (.ref tb),some (.ref tc),some (.ref t),o11]/\kai H0 H' (Ms.set (2*l) Mc) [ta,tb,tc] rs/\TW k (dimR n m qn (2*l)) n (z+6) Mc/\(∀ e' r,e<=e'->Mc[e']?=some r->∀ y∈r,whk k (z+3) y)/\H' pt=some (.lst [.ref ta,.ref tb,.ref tc])/\H' pl=some (.lst [.ref ta,.ref tc])/\RN H' x vc
  refine yn (xs:=ras.map V.ref) Pv5_ (M,Q,by rw[zeT eM];exact G,tk.up (),λe' r _ L=>tk.sz r (we L),hpt,hl8,rc) ?_ ?_ ?_
  ·rintro e E H' _ ⟨Mc,o11,rfl,G',_⟩
   exact SqL.of (G'.tabs (2*l) Mc t ras (by rw[vA,bw rfl,bw ()]) ht er).1
  ·rintro e v E H' hv ⟨Mc,o11,rfl,G',tkc,low,hpt',hl',rc'⟩
   have eMc:(Ms.set (2*l) Mc)[2*l]?=some Mc:=by rw[vA,bw rfl,bw ()]
   have hT':=G'.tabs (2*l) Mc t ras eMc ht er;obtain⟨row,ar,hrow,har,rfl,hR⟩:=hT'.row hv;obtain⟨us,hu,pu,lu⟩:=hR.len;have orow:=tkc.ok row (we hrow);have srow:=low e row (ww _) hrow;have ei:row[i]?=some row[i]:=wb (by rw[orow.1];exact hi);have ej:row[j]?=some row[j]:=wb (by rw[orow.1];exact hj);obtain⟨vi,hvi,rvi⟩:=yj pu ei;obtain⟨vj,hvj,rvj⟩:=yj pu ej;have oi:=orow.2 _ (we ei);have oj:=orow.2 _ (we ej);have si:=srow _ (we ei);have sj:=srow _ (we ej);have om:=yD Z ox oi;have sm:=XV ox oi sx si;have nap:ar≠pt:=λe=>nr ras rm (by rw[← e];exact we har)
   have nal:ar≠pl:=λe=>nlr ras rm (by rw[← e];exact we har)
   refine(Q,Q,Q,ar,_,_,vj,V,V,SqL.of hu,zt hvj,Q,Q,Q,Q,ar,_,_,vi,V,V,SqL.of hu,zt hvi,k,x,row[i],_,Q,(Z,ox,oi,sx.nsm Z ox () (),si.nsm Z oi () (),rc',rvi),λv9 H9 g9 r9=>?_);refine(k,row[j],_,_,Q,Z,oj,om,sj.nsm Z oj () (),sm.nsm Z om () (),rvj.mono g9,r9,λv10 H10 g10 r10=>?_);have g':=g9.trans g10;have hu':=g' _ _ hu;refine(Q,Q,ar,us,_,j,V,V,hu',jD (by rw[lu,orow.1];exact hj),?_);have G10:=(G'.mono g').setRow eMc er har hu' (Jr (xT g' pu) j r10);rw[List.set_set]at G10;have lset:∀ y∈row.set j (nsub k row[j] (nmul k x row[i])),y.ok k/\whk k (z+6) y:=λy hy=>by
    rcases zO hy with e|e
    ·rw[e];exact(Zx () oj om,(zfh oj om sj sm).mono ())
    ·exact(orow.2 y e,(srow y e).mono ())
   refine(Mc.set e (row.set j (nsub k row[j] (nmul k x row[i]))),Q,G10,tkc.set (by rw[vv];exact orow.1) (λy hy=>(lset y hy).1) (λy hy=>(lset y hy).2),λe' r he' L=>?_,by rw[zy (Ne.symm nap)];exact g' _ _ hpt',by rw[zy (Ne.symm nal)];exact g' _ _ hl',(rc'.mono g').upd hu');rw[vA,bx ()]at L;exact low e' r () L
  ·rintro E H' ⟨Mc,o11,rfl,G',tkc,low,hpt',hl',rc'⟩
   refine(Ms.set (2*l) Mc,_,Q,G',tM.set (g:=λI=>if I<2 *(l+1)then z+6 else z+3) ?_ (λI hI=>?_),hpt',hl',rc')
   ·rw[bw (),cn'];exact tkc
   ·split <;> split <;> omega
 ·rintro E H8 ⟨Ms,o10,o11,rfl,G,tM,hpt,hl8,rc⟩
  exact q Ms rs H8 G (tM.up λI=>by split <;> omega) hpt nr
def ze6(cs:List Int) lo hi:∃ zs:List Int,cutV (cs.map V.int) lo hi=zs.map V.int:=(_,by unfold cutV;rw[wa,← Gc,← gQ])
inductive ZO:Sp
 | mk:∀(pc pq:Addr)(cs:List Int)(a b:Nat),vs=[.ref pc,.ref pq]->H pc=some (.lst (cs.map V.int))->cs≠[]->cs.length<=1000->H pq=some (.lst [.int (a:Int),.int (b:Int)])->1<=a->a<=3->1<=b->b<=10->(∀ k (n m q at':Nat) A B C p3 pm ta tb tc ra rb rc H',Same H H'->H' p3=some (.tup [.int k,.ref pm,.int (at':Int)])->kaj H' A B C pm ta tb tc ra rb rc->KindS k->Fit k n->MOk k n m q 80 A B C->(TW k n n 14 A/\TW k n m 14 B/\TW k q n 14 C/\((cs.headD 1).fmod 3=0->k=0))->1<=m->m<=2->1<=q->q<=2->n<=a\/n<=b->Q (.ref p3) H')->ZO vs H Q E_
def zab:KnI pg 94 46 ZO:=by
 exists 94,zj,zel,yh,zj,yh,yh,yF,Qv,zde,zi,Yh 2 rfl,zeN,yh,zj,qh,yK,zj,zj,zj,yh
 obtain⟨pc,pq,cs,a,b,rfl,hc,ne,c1000,hq,a1,a3,b1,b10,q⟩:=h;have szl:=se
 obtain⟨c0,cs',rfl⟩:=gr ne;refine(Q,pc,_,_,Q,V,SqL.of hc,zt (j:=0) rfl,?_);refine(Q,c0,V,λk H1 g1 hs hk0=>?_);have Z:=hs.ok;have kl:=Z.lt;have hq1:=g1 _ _ hq;obtain⟨mo,emo,mo1,mob⟩ : ∃ mo:Nat,atI [V.int (a:Int),V.int (b:Int)] (if decide (0<k)=true then 1 else 0)=some (.int (mo:Int))/\1<=mo/\((k=0/\mo=a)\/(k≠0/\mo=b)):=by
  by_cases h:0<k
  ·rw[bF h];exact(b,V,b1,.inr ((),V))
  ·rw[bE h];exact(a,V,a1,.inl ((),V))
 have n75:(75:Int)≠0:=by decide
 refine(Q,_,Q,V,n75,Q,Q,_,Q,V,.inr (Q,pq,_,_,.int (mo:Int),V,V,SqL.of hq1,emo,_,Q,V,(by show(mo:Int)≠0;omega),_,Q,V,Q,_,Q,V,(by show(375:Int)≠0;decide),_,Q,V,(by show(2:Int)≠0;decide),_,Q,V,Q,_,Q,V,(by show(750:Int)≠0;decide),_,Q,V,(by show(2:Int)≠0;decide),_,Q,V,(),λpz hpz=>?_))
 try dsimp only
 obtain⟨n,en,n1,nm⟩ : ∃ n:Nat,1 +(c0.fdiv 75).fmod (mo:Int) =(n:Int)/\1<=n/\n<=mo:=by
  have f0:=wJ (c0.fdiv 75) (show(0:Int) <(mo:Int) by omega);have f1:=wR (c0.fdiv 75) (show(0:Int) <(mo:Int) by omega);exact((1 +(c0.fdiv 75).fmod (mo:Int)).toNat,(),(),())
 obtain⟨m,em,m1,m2⟩ : ∃ m:Nat,1 +(c0.fdiv 375).fmod 2 =(m:Int)/\1<=m/\m<=2:=by
  have f0:=wJ (c0.fdiv 375) (show(0:Int)<2 by decide);have f1:=wR (c0.fdiv 375) (show(0:Int)<2 by decide);exact((1 +(c0.fdiv 375).fmod 2).toNat,(),(),())
 obtain⟨qn,eq,q1,q2⟩ : ∃ qn:Nat,1 +(c0.fdiv 750).fmod 2 =(qn:Int)/\1<=qn/\qn<=2:=by
  have f0:=wJ (c0.fdiv 750) (show(0:Int)<2 by decide);have f1:=wR (c0.fdiv 750) (show(0:Int)<2 by decide);exact((1 +(c0.fdiv 750).fmod 2).toNat,(),(),())
 rw[en,em,eq]at *;have g2:=zc hpz (.tup [.int (n:Int),.int (m:Int),.int (qn:Int)]);have hz2:upd H1 pz (.tup [.int (n:Int),.int (m:Int),.int (qn:Int)]) pz=some (.tup [.int (n:Int),.int (m:Int),.int (qn:Int)]):=zd;generalize upd H1 pz (.tup [.int (n:Int),.int (m:Int),.int (qn:Int)])=H2 at *;have n10:n<=10:=by rcases mob with⟨_,h⟩|⟨_,h⟩ <;> omega
 refine(Q,_,Q,V,(by show(1500:Int)≠0;decide),_,Q,V,(by show(3:Int)≠0;decide),V,?_)
 try dsimp only
 generalize decide (V.int ((c0.fdiv 1500).fmod 3)=V.int 0)=pb;refine(Q,Q,Q,Q,Q,pz,_,_,.int (n:Int),V,V,SqT.of hz2,V,Q,c0,n,pb,V,(),λss ps H3 g3 hs3 lss=>?_);have g13:=(g1.trans g2).trans g3;refine(k,pc,pz,ps,c0::cs',ss,n,m,qn,V,Z,g13 _ _ hc,ne,g3 _ _ hz2,hs3,lss,n10,(),(),λA B C pt pr ts rs at' H4 G tA tB tC hpt ptn nt nr hpr=>?_);refine(pr,Q,SqT.of hpr,V,_,Q,_,Q,V,?_);have T0:TWs k n m qn (λ_=>2) [A,B,C]:=(V,λI M hM=>by
  match I,hM with
  | 0,hM=>cases hM;exact tA
  | 1,hM=>cases hM;exact tB
  | 2,hM=>cases hM;exact tC)
 clear tA tB tC hpr;refine(2,V,(),(),?_)
 let Pv1_:Nat->L2.St->Hp->Prop:=λl E H'=>∃ Ms rs o8,E=[some (.ref pc),some (.ref pq),some (.int c0),some (.int k),some (.ref pz),some (.bl pb),some (.ref pt),some (.int (at':Int)),o8]/\kai H3 H' Ms ts rs/\TWs k n m qn (λ_=>if l=0 then 2 else if l=1 then 8 else 14) Ms/\H' pt=some (.lst (ts.map V.ref))/\(∀ ras∈rs,pt∉ras)
 refine yu (lo:=0) (n:=2) Pv1_ (_,rs,none,V,G,T0,hpt,nr) ?_ ?_
 ·clear G T0 hpt nr
  rintro l E H5 hl ⟨Ms,rs,o8,rfl,G,T,hpt,nr⟩
  refine(Q,Q,?_);refine ite2 (λcb=>?_) (λcb=>?_)
  ·have hc5:H5 pc=some (.lst ((c0::cs').map V.int)):=G.same _ _ (g13 _ _ hc);refine(Q,Q,Q,Q,Q,pc,Q,SqL.of hc5,λp1 hp1=>?_);obtain⟨zs,ez⟩:=ze6 (c0::cs') (some (at':Int)) none;have lzs:zs.length<=1000:=by
    have:(zs.map V.int).length<=((c0::cs').map V.int).length:=by rw[← ez];unfold cutV;rw[wr,ue];omega
    rw[wa,wa]at this;omega
   rw[ez];refine((),λp2 hp2=>?_);have n12:p1≠p2:=λe=>by rw[e,zd]at hp2;cases hp2
   refine(p1,p2,_,Q,V,(by rw[zy n12];exact zd),zd,(by rw[wa];show zs.length+3<=sizeLine;omega),λp3 hp3=>?_);have e3:zs.map V.int++[V.int 0,V.int 0,V.int 0] =(zs++[0,0,0]).map V.int:=by simp
   rw[e3]at *;have g6:=((zc hp1 (.lst (zs.map V.int))).trans (zc hp2 (.lst [V.int 0,V.int 0,V.int 0]))).trans (zc hp3 (.lst ((zs++[0,0,0]).map V.int)));have h3':upd (upd (upd H5 p1 (.lst (zs.map V.int))) p2 (.lst [V.int 0,V.int 0,V.int 0])) p3 (.lst ((zs++[0,0,0]).map V.int)) p3=some (.lst ((zs++[0,0,0]).map V.int)):=zd;generalize upd (upd (upd H5 p1 (.lst (zs.map V.int))) p2 (.lst [V.int 0,V.int 0,V.int 0])) p3 (.lst ((zs++[0,0,0]).map V.int))=H6 at *;have ll:l <(zs++[(0:Int),0,0]).length:=by rw[wy];show l<zs.length+3;omega
   have el:((zs++[(0:Int),0,0]).map V.int)[l]?=some (.int (zs++[(0:Int),0,0])[l]):=by rw[wg,wb ll];rfl
   refine(Q,p3,_,_,.int (zs++[(0:Int),0,0])[l],V,V,SqL.of h3',(by rw[vQ];exact zt el),Q,_,Q,V,(by show(4500:Int)≠0;decide),_,Q,V,k,_,Ms,H3,ts,pt,rs,n,m,qn,Q,Z,G.mono g6,T,g6 _ _ hpt,nr,nt,n1,n10,(),(),(by split <;>(try split) <;> omega),λMs' rs' H7 G7 T7 hpt7 nr7=>?_);refine(Ms',rs',Q,G7,T7.up λ_=>?_,hpt7,nr7)
   rcases (show l=0\/l=1 by omega)with e|e
   ·subst e;decide
   ·subst e;decide
  ·refine(Ms,rs,Q,G,T.up λ_=>?_,hpt,nr)
   rcases (show l=0\/l=1 by omega)with e|e
   ·subst e;decide
   ·subst e;decide
 ·rintro E H5 ⟨Ms,rs,o8,rfl,G,T,hpt,nr⟩
  obtain⟨A,B,C,rfl⟩ : ∃ A B C,Ms=[A,B,C]:=by
   match Ms,T.1 with
   | [A,B,C],_=>exact(A,B,C,V)
  obtain⟨ta,tb,tc,rfl⟩ : ∃ ta tb tc,ts=[ta,tb,tc]:=by
   match ts,G.lt with
   | [ta,tb,tc],_=>exact(ta,tb,tc,V)
  obtain⟨ra,rb,rc,rfl⟩ : ∃ ra rb rc,rs=[ra,rb,rc]:=by
   match rs,G.lr with
   | [ra,rb,rc],_=>exact(ra,rb,rc,V)
  refine(Q,Q,pt,_,_,.ref ta,V,V,SqL.of hpt,zt (j:=0) rfl,Q,pt,_,_,.ref tb,V,V,SqL.of hpt,zt (j:=1) rfl,Q,pt,_,_,.ref tc,V,V,SqL.of hpt,zt (j:=2) rfl,(),λpm hpm=>?_);have g6:=zc hpm (.tup [.ref ta,.ref tb,.ref tc]);have hm6:upd H5 pm (.tup [.ref ta,.ref tb,.ref tc]) pm=some (.tup [.ref ta,.ref tb,.ref tc]):=zd;generalize upd H5 pm (.tup [.ref ta,.ref tb,.ref tc])=H6 at *;refine(Q,_,Q,V,(),λp3 hp3=>?_);have g7:=zc hp3 (.tup [.int k,.ref pm,.int ((at':Int)+2)]);have G7:=(G.mono g6).mono g7;have ft:Fit k n:=(n1,by
   rcases mob with⟨_,h⟩|⟨k0,h⟩
   ·exact .inl ()
   ·exact .inr (k0,()))
  refine q k n m qn (at'+2) A B C p3 pm ta tb tc ra rb rc _ (((g13.trans G.same).trans g6).trans g7) ?_ (g7 _ _ hm6,G7.tabs 0 A ta ra rfl rfl rfl,G7.tabs 1 B tb rb rfl rfl rfl,G7.tabs 2 C tc rc rfl rfl rfl) hs ft ((T.2 0 A rfl).tok Z () (),(T.2 1 B rfl).tok Z () (),(T.2 2 C rfl).tok Z () ()) (T.2 0 A rfl,T.2 1 B rfl,T.2 2 C rfl,hk0) m1 m2 q1 q2 (by rcases mob with⟨_,h⟩|⟨_,h⟩ <;> omega);rw[zd]
  rfl
def JL:KnI pg 85 1 ZJ:=by
 exists 85,[0],zj,[0],zo,zj
 obtain⟨M,n,top,ras,rfl,hT,hM,hn,nz,mz,q⟩:=h;obtain⟨M0,M',rfl⟩:=gr hM;have hras:=zf hT.2;obtain⟨r0,ras',e0⟩ : ∃ r0 ras',ras=r0::ras':=by
  cases ras with
  | nil=>simp at hras
  | cons a b=>exact(a,b,V)
 obtain⟨vs0,h0,p0,l0⟩:=(xw hT.2 (i:=0) rfl (by rw[e0];rfl)).len;have n0:=hn M0 wo;have szl:=se
 refine(Q,top,_,_,Q,V,SqL.of hT.1,(by rw[e0];exact zt (j:=0) rfl),r0,Q,.inl (SqL.of h0),Q,(),(),?_);have en:(vs0.length:Int).toNat=n:=by omega
 rw[en]
 let Pv1_:Nat->List V->Hp->Prop:=λi ys H'=>∃ ras2,ys=ras2.map V.ref/\Grow H H' ((kaa n (M0::M')).take i) ras2
 refine zZ (lo:=0) (n:=n) Pv1_ ([],V,Grow.nil H (Same.refl H)) ?_ ?_ ?_
 ·rintro i ys H' hi ⟨ras2,rfl,G⟩
  have:=zf G.rows;rw[wr,ze]at this;rw[wa];omega
 ·rintro i ys H' hi ⟨ras2,rfl,G⟩
  symm
  refine(Q,top,V,(_,SqL.of (G.same _ _ hT.1)),?_)
  let Pv2_:Nat->List V->Hp->Prop:=λj ys' H2=>H2=H'/\Paired (RN H') (((M0::M').map λr=>r.getD i (.z 0)).take j) ys'
  refine zq (xs:=ras.map V.ref) Pv2_ (V,.nil) ?_ ?_ ?_
  ·rintro j ys' H2 hj ⟨rfl,pr⟩
   refine(SqL.of (G.same _ _ hT.1),?_);have:=zf pr;rw[wr,wa]at this;omega
  ·rintro j v ys' H2 hv hj ⟨rfl,pr⟩
   obtain⟨xs,a,J,ha,rfl,hrow⟩:=(hT.mono G.same).row hv;obtain⟨us,hu,pu,lu⟩:=hrow.len;have nx:=hn xs (we J);have hi':i<xs.length:=by omega
   obtain⟨u,eu,ru⟩:=yj pu (wb hi')
   symm
   refine(Q,Q,a,_,_,Q,V,SqL.of hu,(by rw[vQ];exact zt eu),nxt hj (V,?_));have e:((M0::M').map λr=>r.getD i (.z 0))[j]?=some (xs.getD i (.z 0)):=by rw[wg,J];rfl
   rw[zh e];refine zJ pr ?_;rw[wc,wb hi'];exact ru
  ·rintro ys' H2 ⟨rfl,pr⟩ p hp
   rw[wm (by rw[wa,wa];omega)]at pr;refine nxt hi (ras2++[p],by rw[wv];rfl,?_);rw[zh (yz hi)];exact G.snoc hp pr
 ·rintro ys H' ⟨ras2,rfl,G⟩ t ht
  rw[wm (by rw[ze];exact ww _)]at G;exact q t ras2 _ (G.same.trans (zc ht _)) (G.done ht)
def zgM(hp:H1 pt=some (.lst us))(pu:Paired (RN H1) xs us)(rx:RN H1 x v):Paired (RN (upd H1 pt (.lst (us++[v])))) (xs++[x]) (us++[v]) :=
 zJ (yC (λ_ _ r=>r.upd hp) pu) (rx.upd hp)
def zcu(Z:kab k)(l:List (Nb×Nb))(h:∀ p∈l,p.1.ok k/\p.2.ok k/\szk k a p.1/\szk k b p.2):∀ i,i<=l.length->szk k (i *(a+b+1)+1) (ndotF k (l.take i)):=by
 intro i
 induction i with
 | zero =>
  intro _ k0;subst k0;exact((xp _),sm_one.mono ())
 | succ i ih =>
  intro hi;have hg:= wb hi;have hp:=h l[i] (wk hi);have hl:∀ q∈l.take i,_:=λq hq=>h q (vD hq)
  rw[zh hg,qC];have o1:=jv Z (l.take i) λq hq=>((hl q hq).1,(hl q hq).2.1)
  refine(zey o1 (yD Z hp.1 hp.2.1) (ih ()) (zbo hp.1 hp.2.1 hp.2.2.1 hp.2.2.2)).mono ?_;rw[vG];omega
inductive JW:Sp
 | mk:∀ k A x n a0 b ta ax ra,vs=[.int k,.ref ta,.ref ax]->kab k->kac H A ta ra->kaq H x ax->OkM k n A->x.length=n->OkR k x->(∀ r∈A,∀ y∈r,szk k a0 y)->(∀ y∈x,szk k b y)->a0+b<=5000000->n<=10->A.length<=10->(∀ p H',Same H H'->NewR H H' (imgM k A x) p->(∀ y∈imgM k A x,szk k (n *(a0+b+1)+1) y)->Q (.ref p) H')->JW vs H Q E_
def zcF:KnI pg 84 43 JW:=by
 exists 84,zo,Ze,Xp,qk,zj,zj
 obtain⟨k,A,x,n,a0,b,ta,ax,ra,rfl,Z,hT,hX,oA,lx,ox,sA,sx,hb,n10,a10,q⟩:=h;have szl:=se
 have la:=zf hT.2;have szf:∀ r∈A,∀ i,szk k (n *(a0+b+1)+1) (ndotF k ((r.zip x).take i)):=λr L i=>by
  have lz:(r.zip x).length=n:=by rw[uy,(oA r L).1,lx,wbn]
  have hz:∀ p∈r.zip x,p.1.ok k/\p.2.ok k/\szk k a0 p.1/\szk k b p.2:=λp hp=>((oA r L).2 _ (vt hp).1,ox _ (vt hp).2,sA r L _ (vt hp).1,sx _ (vt hp).2)
  have up:∀ i,i<=n->i *(a0+b+1)+1<=n *(a0+b+1)+1:=λi hi=>by
   have:=wI (a0+b+1) hi;omega
  rcases waP i n with h|h
  ·exact(zcu Z _ hz i ()).mono (up i h)
  ·have:=zcu Z _ hz n ();rw[wm ()]at this ⊢;exact this.mono (up n (ww _))
 have big:n *(a0+b+1)+1<=60000000:=by
  have:n *(a0+b+1)<=10 *(a0+b+1):=wI _ n10;omega
 refine((),λpt hpt=>?_);have g0:=zc hpt (.lst []);have h0:upd H pt (.lst []) pt=some (.lst []):=zd;replace hT:=hT;refine(Q,ta,V,(_,SqL.of (g0 _ _ hT.1)),?_)
 let Pv1_:Nat->L2.St->Hp->Prop:=λi E H'=>∃ us o4 o5 o6,E=[some (.int k),some (.ref ta),some (.ref ax),some (.ref pt),o4,o5,o6]/\Same H H'/\H' pt=some (.lst us)/\Paired (RN H') ((imgM k A x).take i) us
 refine yn (xs:=ra.map V.ref) Pv1_ ([],none,none,none,V,g0,h0,.nil) ?_ ?_ ?_
 ·rintro i E H' _ ⟨us,o4,o5,o6,rfl,g,_⟩
  exact SqL.of (g _ _ hT.1)
 ·rintro i v E H' hv ⟨us,o4,o5,o6,rfl,g,hp,pu⟩
  obtain⟨row,a,hrow,ha,rfl,hR⟩:=(hT.mono g).row hv;obtain⟨rs,hrs,prs,lrs⟩:=hR.len;obtain⟨xs,hxs,pxs,lxs⟩:=(hX.mono g).len;have hr':=we hrow;have orow:=oA row hr';refine(Q,k,0,V,Z,λv0 H1 g1 r1=>?_);refine(Q,ax,Q,.inl (SqL.of (g1 _ _ hxs)),Q,(),(),?_);have en:((xs.length:Int)).toNat=n:=by omega
  rw[en]
  let Pv2_:Nat->L2.St->Hp->Prop:=λj E H2=>∃ w o6,E=[some (.int k),some (.ref ta),some (.ref ax),some (.ref pt),some (.ref a),some w,o6]/\Same H' H2/\RN H2 (ndotF k ((row.zip x).take j)) w
  refine yu (lo:=0) (n:=n) Pv2_ (v0,Q,g1,r1) ?_ ?_
  ·rintro j E H2 hj ⟨w,o6,rfl,g2,rw2⟩
   have hj1:j<row.length:=by rw[orow.1];exact hj
   have hj2:j<x.length:=by omega
   obtain⟨u1,e1,ru1⟩:=yj prs (wb hj1);obtain⟨u2,e2,ru2⟩:=yj pxs (wb hj2);have m1:=wk hj1;have m2:=wk hj2;have oo1:=orow.2 _ m1;have oo2:=ox _ m2;have on:=jv Z ((row.zip x).take j) λp hp=>by
    have hz:=vD hp;exact(orow.2 _ (vt hz).1,ox _ (vt hz).2)
   refine(Q,Q,Q,Q,Q,a,_,_,Q,V,SqL.of (g2 _ _ hrs),(by rw[vQ];exact zt e1),Q,Q,ax,_,_,Q,V,SqL.of (g2 _ _ hxs),(by rw[vQ];exact zt e2),k,row[j],x[j],u1,u2,V,(Z,oo1,oo2,(sA row hr' _ m1).nsm Z oo1 () (),(sx _ m2).nsm Z oo2 () (),ru1.mono g2,ru2.mono g2),λv1 H3 g3 r3=>?_);refine(k,_,_,w,v1,V,(Z,on,yD Z oo1 oo2,(szf row hr' j).nsm Z on () (),(zbo oo1 oo2 (sA row hr' _ m1) (sx _ m2)).nsm Z (yD Z oo1 oo2) () (),rw2.mono g3,r3),λv2 H4 g4 r4=>?_);refine(v2,Q,(g2.trans g3).trans g4,?_);have ez:(row.zip x)[j]?=some (row[j],x[j]):=by rw[gx];exact(wb hj1,wb hj2)
   rw[zh ez,qC];exact r4
  ·rintro E H2 ⟨w,o6,rfl,g2,rw2⟩
   have el:(row.zip x).take n=row.zip x:=wm (by rw[uy,orow.1,lx];omega);rw[el]at rw2;have hp2:=g2 _ _ hp;have lus:=zf pu;rw[wr]at lus;have lim:(imgM k A x).length=A.length:=by unfold imgM;exact wa _
   refine(Q,.inl (V,_,SqL.of hp2),Q,pt,us,w,V,V,hp2,(),?_);have ei:(imgM k A x)[i]?=some (ndot k row x):=by unfold imgM;rw[wg,hrow];rfl
   refine(us++[w],_,_,Q,yp (g.trans g2) hpt,zd,?_);rw[zh ei];exact zgM hp2 (xT g2 pu) rw2
 ·rintro E H' ⟨us,o4,o5,o6,rfl,g,hp,pu⟩
  rw[wa,← la,wm (by unfold imgM;rw[wa];exact ww _)]at pu;refine(Q,q pt H' g ((us,hp,pu),hpt) λy hy=>?_);unfold imgM at hy;obtain⟨r,L,rfl⟩:=wj.mp hy;have:=szf r L n;rw[wm (by rw[uy,(oA r L).1,lx];omega)]at this;exact this
def zcK{K:bv}{te:TE}{R:List V->Hp->Prop} f (hT:kac H M t ras) (hz:M.length<sizeLine)
  (hte:∀ r a H' Q,r∈M->Same H H'->kaq H' r a->(∀ p H2,Same H' H2->NewR H' H2 (f r) p->Q (.ref p) H2)->te (σb.set 0 (some (.ref a))) H' Q)
  (hd:∀ ras2 H',Grow H H' (M.map f) ras2->R (ras2.map V.ref) H') :
  ∃ W:Nat->Nat->List V->Hp->Prop,(∃ m,W 0 m [] H)/\∀ i m ys H,W i m ys H ->
   ((Itl K t).stop i H/\ys.length<=sizeLine/\R ys H) \/
   ((Itl K t).go i H/\ys.length<sizeLine/\∀ x H',(Itl K t).yld i H x H'->gName 0 x σb H' λσ2 H2=>tTrue σ2 H2 λb H3=>if b=true then te σ2 H3 λy H4=>∃ m',m'<m/\W (i+1) m' (ys++[y]) H4 else ∃ m',m'<m/\W (i+1) m' ys H3):=by
 have hl:=zf hT.2;refine zq (xs:=ras.map V.ref) (λi ys H'=>∃ ras2,ys=ras2.map V.ref/\Grow H H' ((M.map f).take i) ras2) ([],V,Grow.nil H (Same.refl H)) ?_ ?_ ?_
 ·rintro i ys H' hi ⟨ras2,rfl,G⟩
  refine(SqL.of (G.same _ _ hT.1),?_);have:=zf G.rows;rw[wr,wa]at this;rw[wa];omega
 ·rintro i v ys H' hv hi ⟨ras2,rfl,G⟩
  obtain⟨row,a,hrow,ha,rfl,hR⟩:=(hT.mono G.same).row hv;refine gyes (hte row a H' _ (we hrow) G.same hR λp H2 g2 nr=>?_);refine nxt hi (ras2++[p],by rw[wv];rfl,?_);have e:(M.map f)[i]?=some (f row):=by rw[wg,hrow];rfl
  rw[zh e];exact G.snocR g2 nr.row nr.fa
 ·rintro ys H' ⟨ras2,rfl,G⟩
  rw[wa,← hl,wm (by rw[wa];exact ww _)]at G;exact hd ras2 H' G
def zh8:kaa M.length ((kaa c N).map (imgM k M))=kaf k c M N:=by
 refine uB (by rw[ze];unfold kaf;rw[wa]) λj h1 h2=>?_
 rw[ze]at h1;have e1:=yz (M:=(kaa c N).map (imgM k M)) h1;have e2:(kaf k c M N)[j]?=some ((kaa c N).map λcol=>ndot k M[j] col):=by unfold kaf;rw[wg,wb h1];rfl
 rw[wb (by rw[ze];exact h1)]at e1;rw[wb h2]at e2;rw[Option.some.inj e1,Option.some.inj e2,vV];refine vM λcol _=>?_
 show(imgM k M col).getD j (.z 0)=_;rw[wc];unfold imgM;rw[wg,wb h1];rfl
inductive Zw:Sp
 | mk:∀ k M N b c a0 b0 tM tN rM rN,vs=[.int k,.ref tM,.ref tN]->kab k->kac H M tM rM->kac H N tN rN->OkM k b M->OkM k c N->N.length=b->(∀ r∈M,∀ y∈r,szk k a0 y)->(∀ r∈N,∀ y∈r,szk k b0 y)->a0+b0<=5000000->1<=b->b<=10->1<=c->c<=10->M.length<=10->(∀ t rs H',Same H H'->NewT H H' (kaf k c M N) t rs->Q (.ref t) H')->Zw vs H Q E_
def Ym:KnI pg 86 44 Zw:=by
 exists 86,JL,[0,1],zo,JL,zcF
 obtain⟨k,M,N,b,c,a0,b0,tM,tN,rM,rN,rfl,Z,hM,hN,oM,oN,lN,sM,sN,ab,b1,b10,c1,c10,r10,q⟩:=h;have szl:=se
 have nN:N≠[]:=λe=>by rw[e]at lN;simp at lN;omega
 refine(Q,N,c,tN,rN,V,hN,nN,(λr L=>(oN r L).1),(),(),λt1 r1 H1 g1 n1=>?_);have oT:=zg oN;have sT:∀ r∈kaa c N,∀ y∈r,szk k b0 y:=λr L y hy=>by
  unfold kaa at L;obtain⟨j,hj,rfl⟩:=wj.mp L;obtain⟨x,J,rfl⟩:=wj.mp hy;have hl:=(oN x J).1;rw[wP]at hj;rw[wc,wb ()];exact sN x J _ (wk _)
 refine(t1,V,(_,SqL.of n1.tab.1),?_);refine zcK (imgM k M) n1.tab (by rw[ze];omega) ?_ ?_
 ·intro r a H4 Q4 hr4 g4 hR4 hq4;have orr:=oT r hr4;exact(Q,Q,Q,k,M,r,b,a0,b0,tM,a,rM,V,Z,(hM.mono g1).mono g4,hR4,oM,orr.1.trans lN,orr.2,sM,sT r hr4,wE ab (),b10,r10,λp H5 g5 nr _=>hq4 p H5 g5 nr)
 intro rt2 H4 G4 p4 hp4;have N4:=G4.done hp4;have g4:=G4.same.trans (zc hp4 (.lst (rt2.map V.ref)));generalize upd H4 p4 (.lst (rt2.map V.ref))=H5 at *;have len:∀ r∈(kaa c N).map (imgM k M),r.length=M.length:=λr L=>by
  obtain⟨x,_,rfl⟩:=wj.mp L;unfold imgM;exact wa _
 refine((kaa c N).map (imgM k M),M.length,p4,rt2,V,N4.tab,(λe=>by have:=congrArg uV e;rw[wa,ze]at this;simp at this;omega),len,(),by rw[wa,ze];omega,λt rs H6 g6 n6=>?_);rw[zh8]at n6;have g:=g1.trans g4;exact q t rs H6 (g.trans g6) (n6.tab,g.none n6.ft,λr L=>g.none (n6.fr r L),n6.nd,n6.nt)
inductive Jg:Sp
 | mk:∀(k:Int)(A B C:Tb)(n h s many zA zB zC:Nat)(mI:Int)(pm ta tb tc:Addr)(ra rb rc:List Addr),vs=[.int k,.ref pm,.int mI]->mI =(many:Int)->kab k->kaj H A B C pm ta tb tc ra rb rc->(OkM k n A/\A.length=n)->(OkM k h B/\B.length=n)->(OkM k n C/\C.length=s)->1<=n->n<=10->1<=h->h<=10->s<=10->many<=20->(∀ r∈A,∀ x∈r,szk k zA x)->(∀ r∈C,∀ x∈r,szk k zC x)->((∀ t,t<=many->∀ r∈blkT k h A B t,∀ x∈r,szk k zB x))->zA+zB<=5000000->zC+zB<=5000000->(∀(ts:List Addr) p H',Same H H'->H' p=some (.lst (ts.map V.ref))->ts.length=many->(∀ t,t<many->∃ a rs,ts[t]?=some a/\kac H' (kaf k h C (blkT k h A B t)) a rs)->Q (.ref p) H')->Jg vs H Q E_
def QN(Z:kab k){A B:Tb}(oA:OkM k n A)(lA:A.length=n)(oB:OkM k h B)(lB:B.length=n):∀ t,OkM k h (blkT k h A B t)/\(blkT k h A B t).length=n
 | 0=>(oB,lB)
 | t+1=>by
  have ih:=QN Z oA lA oB lB t;have o:=xm Z (c:=h) oA ih.1;exact(o.2,o.1.trans lA)
def zdM:KnI pg 95 45 Jg:=by
 exists 95,zi,Ym,zi,Ym,zi
 obtain⟨k,A,B,C,n,h,s,many,zA,zB,zC,mI,pm,ta,tb,tc,ra,rb,rc,rfl,rfl,Z,hM,⟨oA,lA⟩,⟨oB,lB⟩,⟨oC,lC⟩,n1,n10,h1,h10,s10,m20,sA,sC,sB,ab,cb,q⟩:=h;have szl:=se
 have ok:=QN Z oA lA oB lB;refine((),λpt hpt=>?_);have g0:=zc hpt (.lst []);have h0:upd H pt (.lst []) pt=some (.lst []):=zd;have nb:tb≠pt:=λe=>by rw[← e,hM.b.1]at hpt;cases hpt
 have mb:=xF hM.b hpt;generalize upd H pt (.lst [])=H0 at *;have hM0:=hM.mono g0;refine(Q,pm,_,_,.ref tb,V,V,SqT.of hM0.tup,V,?_);refine(Q,many,V,(),(),?_);rw[vn]
 let Pv1_:Nat->L2.St->Hp->Prop:=λi E H'=>∃(ts:List Addr)(pth:Addr)(rth:List Addr)(o5:Option V),E=[some (.int k),some (.ref pm),some (.int (many:Int)),some (.ref pt),some (.ref pth),o5]/\Same H H'/\H' pt=some (.lst (ts.map V.ref))/\ts.length=i/\(∀ t,t<i->∃ a rs,ts[t]?=some a/\kac H' (kaf k h C (blkT k h A B t)) a rs/\a≠pt/\pt∉rs)/\kac H' (blkT k h A B i) pth rth/\pth≠pt/\pt∉rth
 refine yu (lo:=0) (n:=many) Pv1_ ([],tb,rb,none,V,g0,h0,V,(λ_ h=>bK h (vN _)),hM0.b,nb,mb) ?_ ?_
 ·rintro i E H1 hi ⟨ts,pth,rth,o5,rfl,g1,hp1,lts,tabs,hth,nth,mth⟩
  have hM1:=hM.mono g1;refine(Q,.inl (V,_,SqL.of hp1),Q,Q,pm,_,_,.ref tc,V,V,SqT.of hM1.tup,V,Q,k,C,blkT k h A B i,n,h,zC,zB,tc,pth,rc,rth,V,Z,hM1.c,hth,oC,(ok i).1,(ok i).2,sC,sB i (),cb,n1,n10,h1,h10,(),λt1 r1 H2 g2 N1=>?_);have hp2:=g2 _ _ hp1;have n1':t1≠pt:=λe=>by have:=N1.ft;rw[e,hp1]at this;cases this
  have m1':pt∉r1:=λh=>by have:=N1.fr pt h;rw[hp1]at this;cases this
  refine(pt,_,Q,V,hp2,(by rw[wa];omega),?_);have hpt3:upd H2 pt (.lst (ts.map V.ref++[.ref t1])) pt=some (.lst ((ts++[t1]).map V.ref)):=by rw[zd,wv];rfl
  have g13:Same H (upd H2 pt (.lst (ts.map V.ref++[.ref t1]))):=yp (g1.trans g2) hpt;have hth3:=(hth.mono g2).upd (zs':=ts.map V.ref++[.ref t1]) nth mth hp2;have tabs3:∀ t,t<i+1->∃ a rs,(ts++[t1])[t]?=some a/\kac (upd H2 pt (.lst (ts.map V.ref++[.ref t1]))) (kaf k h C (blkT k h A B t)) a rs/\a≠pt/\pt∉rs:=λt ht=>by
   rcases uv (ux ht)with h'|h'
   ·obtain⟨a,rs,e,T,na,ma⟩:=tabs t h';exact(a,rs,by rw[vk ()];exact e,(T.mono g2).upd na ma hp2,na,ma)
   ·subst h';exact(t1,r1,by rw[← lts,wW (ww _),uE];rfl,N1.tab.upd n1' m1' hp2,n1',m1')
  generalize upd H2 pt (.lst (ts.map V.ref++[.ref t1]))=H3 at *;have hM3:=hM.mono g13;refine(Q,Q,pm,_,_,.ref ta,V,V,SqT.of hM3.tup,V,Q,k,A,blkT k h A B i,n,h,zA,zB,ta,pth,ra,rth,V,Z,hM3.a,hth3,oA,(ok i).1,(ok i).2,sA,sB i (),ab,n1,n10,h1,h10,(),λt2 r2 H4 g4 N2=>?_);have n2':t2≠pt:=λe=>by have:=N2.ft;rw[e,hpt3]at this;cases this
  have m2':pt∉r2:=λh=>by have:=N2.fr pt h;rw[hpt3]at this;cases this
  exact(ts++[t1],t2,r2,Q,g13.trans g4,g4 _ _ hpt3,by rw[wy];show ts.length+1=i+1;omega,λt ht=>by
   obtain⟨a,rs,e,T,na,ma⟩:=tabs3 t ht;exact(a,rs,e,T.mono g4,na,ma),N2.tab,n2',m2')
 ·rintro E H1 ⟨ts,pth,rth,o5,rfl,g1,hp1,lts,tabs,hth,nth,mth⟩
  exact(Q,q ts pt H1 g1 hp1 lts λt ht=>by
   obtain⟨a,rs,e,T,_,_⟩:=tabs t ht;exact(a,rs,e,T))
def ToldP(k:Int)(n n2 h s g:Nat)(A B C A2 B2 C2:Tb)(H':Hp)(p:Addr):Prop :=
 (∃ j:Nat,H' p=some (.tup [.str "apart",.int (j:Int)])/\j<n+n2/\(∀ t,t<j->MkE k h A B C A2 B2 C2 t)/\¬ MkE k h A B C A2 B2 C2 j) \/
 (H' p=some (.tup [.str "alike"])/\(∀ t,t<n+n2->MkE k h A B C A2 B2 C2 t)/\¬(LstM k n h A B C/\LstM k n2 h A2 B2 C2)) \/
 ∃ W X ls tx ts rx rs,H' p=some (.tup [.str "turn",.ref tx,.ref ts])/\kac H' (X.map (vz n)) tx rx/\kac H' (kaa n (W.map (vz n))) ts rs/\TwoM k n n2 h s A B C A2 B2 C2 W/\kad g W/\∀(F:Type) [bu F] (O:Kf k F),kap O (n+n) (kao k n (kaa n (W.map (vz n)))) X ls
inductive jO:Sp
 | mk:∀ k A B C A2 B2 C2 n n2 h s m z g pm ta tb tc pm2 ta2 tb2 tc2 ra rb rc ra2 rb2 rc2,vs=[.int k,.ref pm,.ref pm2]->kab k->kaj H A B C pm ta tb tc ra rb rc->kaj H A2 B2 C2 pm2 ta2 tb2 tc2 ra2 rb2 rc2->MOk k n h s m A B C->MOk k n2 h s m A2 B2 C2->(1<=n/\1<=n2/\n+n2<=8)->(1<=h/\h<=10)->(1<=s/\s<=100)->(61<=m/\m<=60000000)->(rowB z A.flatten/\rowB z B.flatten/\rowB z C.flatten)->(rowB z A2.flatten/\rowB z B2.flatten/\rowB z C2.flatten)->61<=z->(n+n2+1) *(z+z+8)<=30000000->(((∀ t,t<n+n2->MkE k h A B C A2 B2 C2 t)->IslZ k n h A B C/\(LstM k n h A B C->IslZ k n2 h A2 B2 C2/\(LstM k n2 h A2 B2 C2->∃ c,KrZ k (n+n2) (kas k n n2 A A2) (kaa h (B++B2)) c g/\(n*g+62)*2^(n+n)<=60000000))))->(∀ p H',Same H H'->ToldP k n n2 h s g A B C A2 B2 C2 H' p->Q (.ref p) H')->jO vs H Q E_
def zf0(d:KnI pg 67 52 zdV):KnI pg 67 52 jO:=Yk d λvs H Q bP h=>by
 obtain⟨k,A,B,C,A2,B2,C2,n,n2,h,s,m,z,g,pm,ta,tb,tc,pm2,ta2,tb2,tc2,ra,rb,rc,ra2,rb2,rc2,rfl,Z,hM,hN,oM,oN,a1,a2,a3,a4,a5,a6,a7,a8,a9,q⟩:=h;exact(k,A,B,C,A2,B2,C2,n,n2,h,s,m,z,g,pm,ta,tb,tc,pm2,ta2,tb2,tc2,ra,rb,rc,ra2,rb2,rc2,V,Z,hM,hN,oM,oN,a1,a2,a3,a4,a5,a6,a7,a8,a9,(λj p H' g e b1 b2 b3=>q p H' g (.inl (j,e,b1,b2,b3))),(λp H' g e b1 b2=>q p H' g (.inr (.inl (e,b1,b2)))),λW X ls p tx ts rx rs H' g e b1 b2 b3 b4 b5=>q p H' g (.inr (.inr (W,X,ls,tx,ts,rx,rs,e,b1,b2,b3,b4,b5))))
def twB(h:TW k r c m M)(m1:1<=m):rowB m M.flatten:=Yt m1 (λx J=>by
 obtain⟨q,hq,J⟩:=wU.1 J;exact(h.ok q hq).2 x J) λx J=>by
 obtain⟨q,hq,J⟩:=wU.1 J;exact h.sz q hq x J
def jW(Z:kab k)(n8:n<=8)(oM:OkM k n M)(hM:rowB T M.flatten)(oN:OkM k n N)(hN:rowB C N.flatten)(hz:∀ z∈zs,∃ m∈M,∃ y∈N,z=ndot k m y):rowB (T+C+3) zs:=by
 obtain⟨D,d0,dl,dA⟩:=hM;obtain⟨d,e0,el,hd⟩:=hN;have p1:=ud T;have p2:=ud C;have e:2^(T+C+3)=2^T*2^C*8:=by rw[vY,vY]
 have pm:0<2^T*2^C:=waz p1 p2;refine(D*d,gO d0 e0,?_,λz hz'=>?_)
 ·rw[e];have:D*d<=2^T*2^C:=vm (vT dl) (vT el);omega
 ·obtain⟨r,L,y,hy,rfl⟩:=hz z hz';refine(XI Z (oM r L).2 (oN y hy).2 (oM r L).1 (λx J=>dA x (wU.2 (r,L,J))) λx J=>hd x (wU.2 (y,hy,J))).mono ?_;rw[e];have h1:(2^T - 1) *(2^C - 1)<=(2^T - 1)*2^C:=wS _ ();have h2:(2^T - 1)*2^C=2^T*2^C - 2^C:=by rw[waA,vL]
  have h3:n *((2^T - 1) *(2^C - 1))<=8 *(2^T*2^C - 2^C):=vm n8 ();omega
section
variable(Z:kab k){A B C R bO U X S:Tb}(I:kal k n h a b A B C R bO U X S)(n3:k=0->n<=3)(oM:MOk k n h s 80 A B C)(wA:TW k n n 14 A)(wB:TW k n h 14 B)(wC:TW k s n 14 C)(cX:k=0->kad zx X)(cS:k=0->kad zs S)(zz:(b+2<=n/\zx=36512/\zs=1168392)\/(b+1=n/\zx=1520/\zs=48648)\/(b=n/\zx=61/\zs=496))
include Z I n3 oM wA wB wC cX cS zz
theorem jU(k0:k=0):rowB (b*zs+b*zx+22) (cA k n a b A X S).flatten/\rowB (b*zs+18) (cB k h a b B S).flatten/\rowB (b*zx+18) (cC k n a b C X).flatten:=by
 have n3':=n3 k0;have lS:=I.oS' Z;have lX:=I.oX' Z;have fS:rowB (b*zs+1) (cutR a b S).flatten:=by
  have:=yN Z (M:=cutR a b S) (z:=zs) λr L=>cS k0 r (yW L)
  rwa [lS.2]at this
 have fX:rowB (b*zx+1) (cutR a b X).flatten:=by
  have:=yN Z (M:=cutR a b X) (z:=zx) λr L=>cX k0 r (yW L)
  rwa [lX.2]at this
 have oI:OkM k n ((cutR a b X).map (imgM k A)):=λr L=>by
  obtain⟨y,hy,rfl⟩:=wj.1 L;have:=jJ Z oM.a.ok (lX.1 y hy).2;exact(this.1.trans oM.a.len,this.2)
 have fI:rowB (14 +(b*zx+1)+3) ((cutR a b X).map (imgM k A)).flatten:=jW Z () oM.a.ok (twB wA ()) lX.1 fX λz hz=>by
  obtain⟨r,L,hz⟩:=wU.1 hz;obtain⟨y,hy,rfl⟩:=wj.1 L;obtain⟨m,hm,rfl⟩:=wj.1 hz;exact(m,hm,y,hy,V)
 refine(?_,?_,?_)
 ·refine(jW Z () lS.1 fS oI fI λz hz=>?_).mono ();obtain⟨r,L,hz⟩:=wU.1 hz;obtain⟨s0,hs0,y,hy,rfl⟩:=I.entA Z L hz;exact(s0,hs0,_,uJ hy,V)
 ·have wT:TW k h n 14 (kaa h B):=(ze h B,by have:=zg wB.ok;rwa [wB.len]at this,ye wB.ok wB.sz);refine(jW Z () lS.1 fS wT.ok (twB wT ()) λz hz=>?_).mono ();obtain⟨r,L,hz⟩:=wU.1 hz;unfold cB kaf at L;obtain⟨s0,hs0,rfl⟩:=wj.1 L;obtain⟨c,hc,rfl⟩:=wj.1 hz;exact(s0,hs0,c,hc,V)
 ·refine(jW Z () oM.c.ok (twB wC ()) lX.1 fX λz hz=>?_).mono ();obtain⟨r,L,hz⟩:=wU.1 hz;obtain⟨c0,hc0,y,hy,rfl⟩:=I.entC Z L hz;exact(c0,hc0,y,hy,V)
theorem Jd(k0:k=0){c0:List Nb}(hc:c0∈kaa h (cB k h a b B S)){t:Nat}(ht:t<=10):rowB (b*zs+180) (powX k (cA k n a b A X S) c0 t):=by
 have n3':=n3 k0;have n4:k=0->n<=4:=λ_=>by omega
 have lS:=I.oS' Z;have fS:rowB (b*zs+1) (cutR a b S).flatten:=by
  have:=yN Z (M:=cutR a b S) (z:=zs) λr L=>cS k0 r (yW L)
  rwa [lS.2]at this
 obtain⟨l,hl,el⟩:=wD hc;rw[ze]at hl;have ec:(kaa h (cB k h a b B S)).getD l []=c0:=by rw[wc,wb (by rw[ze];exact hl),el];rfl
 rw[← ec,I.powL Z hl t];have gl:=we (getT B hl);have oc:=I.tBn Z _ gl;have op:=zF Z oM.a.ok oM.a.len oc.2 oc.1 t;have rw':=Qx (m:=174) () op.1 (λy hy=>(Yi Z n4 wA oc.2 oc.1 (ye wB.ok wB.sz _ gl) t y hy).mono ()) k0;exact(QO Z () lS.1 (.of fS) op.1 rw').mono ()
theorem zcY(k0:k=0)(bn:b<=n)(hc:c0∈cC k n a b C X)(ht:t<=b):rowB (b*zx+180) (powX k (kaa b (cA k n a b A X S)) c0 t):=by
 have n3':=n3 k0;have n4:k=0->n<=4:=λ_=>by omega
 have lX:=I.oX' Z;have fX:rowB (b*zx+1) (cutR a b X).flatten:=by
  have:=yN Z (M:=cutR a b X) (z:=zx) λr L=>cX k0 r (yW L)
  rwa [lX.2]at this
 have okC:=I.okC Z;obtain⟨q,hq,rfl⟩:=wD hc;have hqC:q<C.length:=by rw[← okC.1];exact hq
 have ec:(cC k n a b C X).getD q [] =(cC k n a b C X)[q]:=by rw[wc,wb hq];rfl
 have oT:TW k n n 14 (kaa n A):=(ze n A,by have:=zg wA.ok;rwa [wA.len]at this,ye wA.ok wA.sz);have oc:=oM.c.ok _ (wk hqC);have eC:C.getD q []=C[q]:=by rw[wc,wb hqC];rfl
 have op:=zF Z oT.ok oT.len oc.2 oc.1 t;rw[← ec,I.powD Z hqC (),eC];have rw':=Qx (m:=174) () op.1 (λu hu=>(Yi Z n4 oT oc.2 oc.1 (wC.sz _ (wk hqC)) t u hu).mono ()) k0;refine(jW (M:=[powX k (kaa n A) C[q] t]) Z (show n<=8 by omega) (λr L=>by rw[wx.1 L];exact(op.2,op.1)) (by rw[vE,waj,vW];exact rw') lX.1 fX λz hz=>?_).mono ();obtain⟨y,hy,rfl⟩:=wj.1 hz;exact(_,wx.2 rfl,y,hy,V)
omit Z I oM wA wB wC cX cS in
theorem zeR(k0:k=0)(b1:1<=b)(bn:b<=n):2 *((b*zs+180+1)*2^b +(b*zs+b*zx+22))+b<=60000000/\((b*zs+180+1)*2^b +(b*zs+b*zx+22)+4)*2^b<=60000000/\2 *((b*zx+180+1)*2^b +(b*zs+b*zx+22))+b<=60000000/\((b*zx+180+1)*2^b +(b*zs+b*zx+22)+4)*2^b<=60000000/\(b *((b*zx+180+1)*2^b +(b*zs+b*zx+22))+1)*2^b<=60000000/\61<=b*zs+b*zx+22/\b*zs+b*zx+22<=60000000:=by
 have n3':=n3 k0
 rcases zz with⟨ne,rfl,rfl⟩|⟨ne,rfl,rfl⟩|⟨e,rfl,rfl⟩
 ·rcases (show b=1 by omega)with rfl;decide
 ·rcases (show b=1\/b=2 by omega)with rfl|rfl <;> decide
 ·rcases (show b=1\/b=2\/b=3 by omega)with rfl|rfl|rfl <;> decide
theorem zfe(n4:n<=4)(b1:1<=b)(bn:b<=n):IslZ k b h (cA k n a b A X S) (cB k h a b B S) (cC k n a b C X):=by
 have okA:=I.okA Z;have okB:=I.okB Z;have okC:=I.okC Z;have tB:=I.tB Z;have tA:=I.tA Z;have rk:∀ {A B:Tb} (t:Nat) (W:Tb),RdR k b W->kau k W (kry k A B t)->W.length<=b:=λt W hW _=>rk_n Z hW
 by_cases k0:k=0
 ·obtain⟨u1,u2,u3,u4,u5,u6,u7⟩:=zeR n3 zz k0 b1 bn;obtain⟨fA,fB,fC⟩:=jU Z I n3 oM wA wB wC cX cS zz k0;have Z1:=ZU Z (T:=b*zs+b*zx+22) (g:=b*zs+180) (r:=b) (show b<=8 by omega) okA.2 okA.1 tB (λ_=>.of fA) (λ_ c hc i hi=>Jd Z I n3 oM wA wB wC cX cS zz k0 hc ()) () rk u1 u2;have Z2:=ZU Z (T:=b*zs+b*zx+22) (g:=b*zx+180) (r:=b) (show b<=8 by omega) tA (ze _ _) okC.2 (λ_=>tabB.tr (.of fA) λr L=>(okA.2 r L).1) (λ_ c hc i hi=>zcY Z I n3 oM wA wB wC cX cS zz k0 bn hc hi) () rk u3 u4;exact(_,_,_,_,b*zs+b*zx+22,Z1,Z2,u5,λ_=>(.of fA,(tabB.of fB).mono (),(tabB.of fC).mono ()),u6,u7)
 ·refine(_,_,_,_,61,xf Z k0 (show b<=8 by omega) okA.2 okA.1 tB,xf Z k0 (show b<=8 by omega) tA (ze _ _) okC.2,?_,λe=>bK e k0,(),())
  rcases (show b=1\/b=2\/b=3\/b=4 by omega)with rfl|rfl|rfl|rfl <;> decide
end
def zcC(Z:kab k)(l:M.length=r)(oM:OkM k c M)(h:k=0->rowB z M.flatten)(zm:k=0->z<=m)(m7:61<=m):TOk k r c m M:=(l,oM,λq hq x J=>by
 have o:=(oM q hq).2 x J;refine szk.nsm Z o (m:=m) (λk0=>?_) (ww m) m7;obtain⟨D,d0,d1,hd⟩:=(h k0).mono (zm k0);exact zfB Z (hd x (wU.2 (q,hq,J))) o d0 d1 (by have:=ud m;omega) m7)
def zaR (Z:kab k) {A B C A2 B2 C2:Tb} (hM:kaj H A B C pm ta tb tc ra rb rc) (hN:kaj H A2 B2 C2 pm2 ta2 tb2 tc2 ra2 rb2 rc2) (oM:MOk k n h s M A B C) (oN:MOk k n h s M A2 B2 C2) (b1:1<=n) (n4:n<=4) (h1:1<=h/\h<=2) (s1:1<=s/\s<=2) (mm:61<=M/\M<=60000000) (z1:rowB z A.flatten/\rowB z B.flatten/\rowB z C.flatten) (z2:rowB z A2.flatten/\rowB z B2.flatten/\rowB z C2.flatten) (z7:61<=z) (zn:(n+n+1) *(z+z+8)<=30000000) (i1:IslZ k n h A B C) (i2:IslZ k n h A2 B2 C2) (mk:∀ t,t<n+n->MkE k h A B C A2 B2 C2 t) (l1:LstM k n h A B C) (l2:LstM k n h A2 B2 C2) (bs:∃ c,KrZ k (n+n) (kas k n n A A2) (kaa h (B++B2)) c g/\(n*g+62)*2^(n+n)<=60000000) (q:∀ p xs H',Same H H'->H' p=some (.tup (.str "turn" :: xs))->Q (.ref p) H'):jO [.int k,.ref pm,.ref pm2] H Q bP:=by
 refine(k,A,B,C,A2,B2,C2,n,n,h,s,M,z,g,pm,ta,tb,tc,pm2,ta2,tb2,tc2,ra,rb,rc,ra2,rb2,rc2,V,Z,hM,hN,oM,oN,(b1,b1,()),(h1.1,()),(s1.1,()),mm,z1,z2,z7,zn,λ_=>(i1,λ_=>(i2,λ_=>bs)),λp H' g' t=>?_)
 rcases t with⟨j,e,hj,_,ne⟩|⟨e,_,no⟩|⟨W,X,l,tx,ts,rx,rs,e,_⟩
 ·exact bK (mk j hj) ne
 ·exact bK (l1,l2) no
 ·exact q p _ H' g' e
section
variable(Z:kab k)(b1:1<=b)(b4:b<=4)(b3:k=0->b<=3)(m2:m<=2)(s2:s<=2)(oA:OkM k b A1/\A1.length=b)(oB:OkM k m B1/\B1.length=b)(oC:OkM k b C1/\C1.length=s)(bM:SzM k m A1 B1 C1)
include Z b1 b4 b3 m2 s2 oA oB oC bM
theorem QT(k0:k=0):rowB 6113 A1.flatten/\rowB 12227 B1.flatten/\rowB 12227 C1.flatten:=by
 have oT:=zg oB.1;have e:=zQ oB.1;refine((show tabB 6113 A1 from bM.a k0).flat,?_,?_)
 ·have f:=yN Z (M:=kaa m B1) (z:=6113) bM.b;rw[ze]at f;have t:=tabB.tr (tabB.of (f.mono (show m*6113+1<=12227 by omega))) λr L=>(oT r L).1
  rw[e]at t;exact t.flat
 ·have f:=yN Z (M:=C1) (z:=6113) bM.c;rw[oC.2]at f;exact f.mono ()
theorem ziE:IslZ k b m A1 B1 C1:=by
 have oBt:OkM k b (kaa m B1):=by have:=zg oB.1;rw[oB.2]at this;exact this
 have oT:OkM k b (kaa b A1):=by have:=zg oA.1;rw[oA.2]at this;exact this
 have rk:∀ {A B:Tb} (t:Nat) (W:Tb),RdR k b W->kau k W (kry k A B t)->W.length<=b:=λt W hW _=>rk_n Z hW
 by_cases k0:k=0
 ·have b3:=b3 k0;obtain⟨fA,fB,fC⟩:=QT Z b1 b4 (λ_=>b3) m2 s2 oA oB oC bM k0;obtain⟨u1,u2,u3⟩ : 2 *((6113+b *(6113+3)+1)*2^b+6113)+b<=60000000/\((6113+b *(6113+3)+1)*2^b+6113+4)*2^b<=60000000/\(b *((6113+b *(6113+3)+1)*2^b+6113)+1)*2^b<=60000000:=by
   rcases (show b=1\/b=2\/b=3 by omega)with rfl|rfl|rfl <;> decide
  have Z1:=zfP Z (T:=6113) (z:=6113) (r:=b) (show b<=8 by omega) oA.1 oA.2 oBt (λ_=>.of fA) (λ_=>bM.b) () rk u1 u2;have Z2:=zfP Z (T:=6113) (z:=6113) (r:=b) (show b<=8 by omega) oT (ze _ _) oC.1 (λ_=>tabB.tr (.of fA) λr L=>(oA.1 r L).1) (λ_=>bM.c) () rk u1 u2;exact(_,_,_,_,12227,Z1,Z2,u3,λ_=>((tabB.of fA).mono (),.of fB,.of fC),(),())
 ·refine(_,_,_,_,61,xf Z k0 (show b<=8 by omega) oA.1 oA.2 oBt,xf Z k0 (show b<=8 by omega) oT (ze _ _) oC.1,?_,λe=>bK e k0,(),())
  rcases (show b=1\/b=2\/b=3\/b=4 by omega)with rfl|rfl|rfl|rfl <;> decide
theorem zhD(k0:k=0)(hl:l<m)(ht:t<=b):rowB 24461 (powX k A1 (colX l B1) t):=by
 have b3:=b3 k0;have oBt:OkM k b (kaa m B1):=by have:=zg oB.1;rw[oB.2]at this;exact this
 have mem:=we (getT B1 hl);rw[Yg hl]at mem;have o:=oBt _ mem;exact(Qy Z (show b<=8 by omega) oA.1 oA.2 (show tabB 6113 A1 from bM.a k0) o.2 o.1 (bM.b _ mem) t).mono ()
end
def zfZ{B B2:Tb}(J:x∈kaa h (B++B2)):∃ l,l<h/\x=colX l B++colX l B2:=by
 unfold kaa at J;obtain⟨l,hl,rfl⟩:=wj.mp J;exact(l,wP.mp hl,wv)
def gR(k:Int)(b zs zx:Nat):Nat:=if k=0 then(24461 +(b*zs+180)+1)*2^b +(6113 +(b*zs+b*zx+22))else 61
def zco{k:Int}(n3:k=0->n<=3)(zz:(b+2<=n/\zx=36512/\zs=1168392)\/(b+1=n/\zx=1520/\zs=48648)\/(b=n/\zx=61/\zs=496))(b1:1<=b)(bn:b<=n)(k0:k=0):2 *((24461 +(b*zs+180)+1)*2^b +(6113 +(b*zs+b*zx+22))) +(b+b)<=60000000/\((24461 +(b*zs+180)+1)*2^b +(6113 +(b*zs+b*zx+22))+4)*2^(b+b)<=60000000/\(b *((24461 +(b*zs+180)+1)*2^b +(6113 +(b*zs+b*zx+22)))+62)*2^(b+b)<=60000000/\(b+b+1) *(12227 +(b*zs+b*zx+22) +(12227 +(b*zs+b*zx+22))+8)<=30000000/\b*zs+b*zx+22<=2500000:=by
 have n3':=n3 k0
 rcases zz with⟨ne,rfl,rfl⟩|⟨ne,rfl,rfl⟩|⟨e,rfl,rfl⟩
 ·rcases (show b=1 by omega)with rfl;decide
 ·rcases (show b=1\/b=2 by omega)with rfl|rfl <;> decide
 ·rcases (show b=1\/b=2\/b=3 by omega)with rfl|rfl|rfl <;> decide
def zax(Z:kab k){A B C R bO U X S:Tb}(I:kal k n h a b A B C R bO U X S)(n3:k=0->n<=3)(oM:MOk k n h s 80 A B C)(wA:TW k n n 14 A)(wB:TW k n h 14 B)(wC:TW k s n 14 C)(cX:k=0->kad zx X)(cS:k=0->kad zs S)(zz:(b+2<=n/\zx=36512/\zs=1168392)\/(b+1=n/\zx=1520/\zs=48648)\/(b=n/\zx=61/\zs=496))(b1:1<=b)(bn:b<=n):MOk k b h s 2500000 (cA k n a b A X S) (cB k h a b B S) (cC k n a b C X):=by
 have okA:=I.okA Z;have okB:=I.okB Z;have okC:=I.okC Z;have lC:(cC k n a b C X).length=s:=okC.1.trans oM.c.len;have fl:=λk0=>jU Z I n3 oM wA wB wC cX cS zz k0
 have nu:=λk0=>zco n3 zz b1 bn k0
 exact(zcC Z okA.1 okA.2 (λk0=>(fl k0).1) (λk0=>(nu k0).2.2.2.2) (),zcC Z okB.1 okB.2 (λk0=>(fl k0).2.1) (λk0=>by have:=(nu k0).2.2.2.2;omega) (),zcC Z lC okC.2 (λk0=>(fl k0).2.2) (λk0=>by have:=(nu k0).2.2.2.2;omega) ())
def zjd{k:Int}(Z:kab k){n p h s M:Nat}{A B C A2 B2 C2:Tb}(oM:MOk k n h s M A B C)(oN:MOk k p h s M A2 B2 C2)(m7:61<=M)(n1:1<=n)(p1:1<=p)(mk:∀ t,t<n+p->MkE k h A B C A2 B2 C2 t)(l1:LstM k n h A B C)(l2:LstM k p h A2 B2 C2):n=p:=by
 have ok:=xC Z m7 oM oN;have oT:=zg ok.b.ok;rw[ok.b.len]at oT;obtain⟨W,LW⟩:=ju Z ok.a.ok ok.a.len oT;exact TwoM.np (W:=W) (n1,p1,oM.a.ok,oM.a.len,oM.b.ok,oM.b.len,oM.c.ok,oM.c.len,oN.a.ok,oN.a.len,oN.b.ok,oN.b.len,oN.c.ok,oN.c.len,mk,LW,l1,l2) Z
section
variable(Z:kab k){A B C R bO U X S:Tb}(I:kal k n h a b A B C R bO U X S)(n4:n<=4)(n3:k=0->n<=3)(oM:MOk k n h s 80 A B C)(wA:TW k n n 14 A)(wB:TW k n h 14 B)(wC:TW k s n 14 C)(cX:k=0->kad zx X)(cS:k=0->kad zs S)(zz:(b+2<=n/\zx=36512/\zs=1168392)\/(b+1=n/\zx=1520/\zs=48648)\/(b=n/\zx=61/\zs=496))(b1:1<=b)(bn:b<=n)(h2:1<=h/\h<=2)(s2:1<=s/\s<=2)(oA:OkM k b A1/\A1.length=b)(oB:OkM k h B1/\B1.length=b)(oC:OkM k b C1/\C1.length=s)(bM:SzM k h A1 B1 C1)(mk:∀ t,t<b+b->MkE k h A1 B1 C1 (cA k n a b A X S) (cB k h a b B S) (cC k n a b C X) t)(l1:LstM k b h A1 B1 C1)
include Z I n4 n3 oM wA wB wC cX cS zz b1 bn h2 s2 oA oB oC bM mk l1
theorem zh3(LW:kan k (b+b) (kas k b b A1 (cA k n a b A X S)) (kaa h (B1++cB k h a b B S)) W):TwoM k b b h s A1 B1 C1 (cA k n a b A X S) (cB k h a b B S) (cC k n a b C X) W:=by
 have okA:=I.okA Z;have okB:=I.okB Z;have okC:=I.okC Z;exact(b1,b1,oA.1,oA.2,oB.1,oB.2,oC.1,oC.2,okA.2,okA.1,okB.2,okB.1,okC.2,okC.1.trans oM.c.len,mk,LW,l1,I.lst Z)
theorem zhp(LW:kan k (b+b) (kas k b b (cA k n a b A X S) A1) (kaa h (cB k h a b B S++B1)) W):TwoM k b b h s (cA k n a b A X S) (cB k h a b B S) (cC k n a b C X) A1 B1 C1 W:=by
 have okA:=I.okA Z;have okB:=I.okB Z;have okC:=I.okC Z;exact(b1,b1,okA.2,okA.1,okB.2,okB.1,okC.2,okC.1.trans oM.c.len,oA.1,oA.2,oB.1,oB.2,oC.1,oC.2,λt ht i hi=>(mk t ht i hi).symm,LW,I.lst Z,l1)
theorem zfK:MOk k b h s 2500000 A1 B1 C1/\MOk k b h s 2500000 (cA k n a b A X S) (cB k h a b B S) (cC k n a b C X):=((qE Z oA oB oC bM).up (),zax Z I n3 oM wA wB wC cX cS zz b1 bn)
theorem ziO:(∃ c,KrZ k (b+b) (kas k b b A1 (cA k n a b A X S)) (kaa h (B1++cB k h a b B S)) c (gR k b zs zx)/\(b*gR k b zs zx+62)*2^(b+b)<=60000000)/\∃ c,KrZ k (b+b) (kas k b b (cA k n a b A X S) A1) (kaa h (cB k h a b B S++B1)) c (gR k b zs zx)/\(b*gR k b zs zx+62)*2^(b+b)<=60000000:=by
 have okA:=I.okA Z;have okB:=I.okB Z;have okC:=I.okC Z;have b3:k=0->b<=3:=λe=>by have:=n3 e;omega
 obtain⟨M2,N2⟩:=zfK Z I n4 n3 oM wA wB wC cX cS zz b1 bn h2 s2 oA oB oC bM mk l1;have k1:=xC Z () M2 N2;have k2:=xC Z () N2 M2;have t1:=zg k1.b.ok;rw[k1.b.len]at t1;have t2:=zg k2.b.ok;rw[k2.b.len]at t2;have q1:(OkM k (b+b) (kas k b b A1 (cA k n a b A X S))/\(kas k b b A1 (cA k n a b A X S)).length=b+b)/\OkM k (b+b) (kaa h (B1++cB k h a b B S)):=((k1.a.ok,k1.a.len),t1);have q2:(OkM k (b+b) (kas k b b (cA k n a b A X S) A1)/\(kas k b b (cA k n a b A X S) A1).length=b+b)/\OkM k (b+b) (kaa h (cB k h a b B S++B1)):=((k2.a.ok,k2.a.len),t2);unfold gR
 by_cases k0:k=0
 ·rw[bw k0];have n3':=n3 k0;obtain⟨u1,u2,u3,_,_⟩:=zco n3 zz b1 bn k0;obtain⟨fA,fB,fC⟩:=jU Z I n3 oM wA wB wC cX cS zz k0;obtain⟨gA,gB,gC⟩:=QT Z b1 () b3 h2.2 s2.2 oA oB oC bM k0;have colB:∀ {l:Nat},l<h->OkR k (colX l B1)/\(colX l B1).length=b:=λhl=>yO oB.1 oB.2 hl
  have colC:∀ {l:Nat},l<h->OkR k (colX l (cB k h a b B S))/\(colX l (cB k h a b B S)).length=b:=λhl=>yO okB.2 okB.1 hl
  have pC:∀ {l t:Nat},l<h->t<=b->rowB (b*zs+180) (powX k (cA k n a b A X S) (colX l (cB k h a b B S)) t):=λhl ht=>Jd Z I n3 oM wA wB wC cX cS zz k0 (Zm hl _) ()
  have pB:∀ {l t:Nat},l<h->t<=b->rowB 24461 (powX k A1 (colX l B1) t):=λhl ht=>zhD Z b1 () b3 h2.2 s2.2 oA oB oC bM k0 hl ht
  obtain⟨W,LW⟩:=ju Z q1.1.1 q1.1.2 q1.2;obtain⟨W',LW'⟩:=ju Z q2.1.1 q2.1.2 q2.2;have T:=zh3 Z I n4 n3 oM wA wB wC cX cS zz b1 bn h2 s2 oA oB oC bM mk l1 LW;have T':=zhp Z I n4 n3 oM wA wB wC cX cS zz b1 bn h2 s2 oA oB oC bM mk l1 LW';refine((_,ZU Z (T:=6113 +(b*zs+b*zx+22)) (g:=24461 +(b*zs+180)) (r:=b) (show b+b<=8 by omega) q1.1.1 q1.1.2 q1.2 (λ_=>.of (qm gA fA)) (λ_ c hc i hi=>?_) () (λt V hV e=>T.rank Z hV e) u1 u2,u3),(_,ZU Z (T:=6113 +(b*zs+b*zx+22)) (g:=24461 +(b*zs+180)) (r:=b) (show b+b<=8 by omega) q2.1.1 q2.1.2 q2.2 (λ_=>.of ((qm fA gA).mono ())) (λ_ c hc i hi=>?_) () (λt V hV e=>T'.rank Z hV e) u1 u2,u3))
  ·obtain⟨l,hl,rfl⟩:=zfZ hc;rw[jq Z oA.1 oA.2 okA.2 okA.1 (colB hl).1 (colB hl).2 (colC hl).1 (colC hl).2 i];exact xG (pB hl hi) (pC hl hi)
  ·obtain⟨l,hl,rfl⟩:=zfZ hc;rw[jq Z okA.2 okA.1 oA.1 oA.2 (colC hl).1 (colC hl).2 (colB hl).1 (colB hl).2 i];exact(xG (pC hl hi) (pB hl hi)).mono ()
 ·rw[bx k0];have u:(b*61+62)*2^(b+b)<=60000000:=by
   rcases (show b=1\/b=2\/b=3\/b=4 by omega)with rfl|rfl|rfl|rfl <;> decide
  exact((_,xf Z k0 (show b+b<=8 by omega) q1.1.1 q1.1.2 q1.2,u),(_,xf Z k0 (show b+b<=8 by omega) q2.1.1 q2.1.2 q2.2,u))
theorem ziV {H:Hp} {bP:XK} {Q:VK} {pm ta tb tc pi ua ub uc:Addr} {ra rb rc va vb vc:List Addr} (hM:kaj H A1 B1 C1 pm ta tb tc ra rb rc) (hN:kaj H (cA k n a b A X S) (cB k h a b B S) (cC k n a b C X) pi ua ub uc va vb vc) (q:∀ p xs H',Same H H'->H' p=some (.tup (.str "turn" :: xs))->Q (.ref p) H'):jO [.int k,.ref pm,.ref pi] H Q bP/\jO [.int k,.ref pi,.ref pm] H Q bP:=by
 have okA:=I.okA Z;have okB:=I.okB Z;have okC:=I.okC Z;have lC:(cC k n a b C X).length=s:=okC.1.trans oM.c.len;have b3:k=0->b<=3:=λe=>by have:=n3 e;omega
 have fl:=λk0=>jU Z I n3 oM wA wB wC cX cS zz k0
 have nu:=λk0=>zco n3 zz b1 bn k0
 obtain⟨M2,N2⟩:=zfK Z I n4 n3 oM wA wB wC cX cS zz b1 bn h2 s2 oA oB oC bM mk l1;obtain⟨z,z7,za,zb,zn⟩ : ∃ z,61<=z/\(rowB z A1.flatten/\rowB z B1.flatten/\rowB z C1.flatten)/\(rowB z (cA k n a b A X S).flatten/\rowB z (cB k h a b B S).flatten/\rowB z (cC k n a b C X).flatten)/\(b+b+1) *(z+z+8)<=30000000:=by
  by_cases k0:k=0
  ·obtain⟨f1,f2,f3⟩:=fl k0;obtain⟨r1,r2,r3⟩:=QT Z b1 () b3 h2.2 s2.2 oA oB oC bM k0;exact(12227 +(b*zs+b*zx+22),(),(r1.mono (),r2.mono (),r3.mono ()),(f1.mono (),f2.mono (),f3.mono ()),(nu k0).2.2.2.1)
  ·have fr:∀ {c:Nat} {M:Tb},OkM k c M->rowB 61 M.flatten:=λo=>(zeq k0 o ()).flat
   exact(61,(),(fr oA.1,fr oB.1,fr oC.1),(fr okA.2,fr okB.2,fr okC.2),())
 obtain⟨bs1,bs2⟩:=ziO Z I n4 n3 oM wA wB wC cX cS zz b1 bn h2 s2 oA oB oC bM mk l1;have i1:=ziE Z b1 () b3 h2.2 s2.2 oA oB oC bM;have i2:=zfe Z I n3 oM wA wB wC cX cS zz n4 b1 bn;exact(zaR Z hM hN M2 N2 b1 () h2 s2 ((),()) za zb z7 zn i1 i2 mk l1 (I.lst Z) bs1 q,zaR Z hN hM N2 M2 b1 () h2 s2 ((),()) zb za z7 zn i2 i1 (λt ht i hi=>(mk t ht i hi).symm) (I.lst Z) l1 bs2 q)
end
def zh2 (F:Fun B.K "law" "law" (nthS pg 96) f fd):FnOk pg B.w B.K B.mg B.base CX0 54 f fd ["_law_script"] (spLaw B.K):=by
 refine lawI F rfl (by exists qh,(zfo rfl),zab,Yh 3 rfl,zgT,(zbW zb0),zdM,zG,zi,XU,zi,XU,zhg,zi,JM,zi,zi,zi,XU,zi,(zf0 zgf),zdT,zi,XU,zi,(zf0 zgf),zi,zdT) λvs H Q bP h=>?_
 obtain⟨asc,ns,rfl,hS,h63,q⟩:=h;have szl:=se
 refine(Q,Q,asc,Q,hS,λp1 hp1=>?_);refine((),λp2 hp2=>?_);have n12:p1≠p2:=λe=>by rw[e,zd]at hp2;cases hp2
 rw[show((63:Int)) =((63:Nat):Int)from rfl,cutToF 63,← gQ]at *;refine(p1,p2,_,Q,V,(by rw[zy n12];exact zd),zd,?_,λp3 hp3=>?_)
 ·rw[wa,wr];show min 63 ns.length+1<=sizeLine;omega
 have e3:(ns.take 63).map V.int++[V.int 0] =(ns.take 63++[0]).map V.int:=by simp
 rw[e3];have hc0:upd (upd (upd H p1 (.lst ((ns.take 63).map V.int))) p2 (.lst [V.int 0])) p3 (.lst ((ns.take 63++[0]).map V.int)) p3=some (.lst ((ns.take 63++[0]).map V.int)):=zd;have lcs:(ns.take 63++[(0:Int)]).length<=1000:=by rw[wy,wr];show min 63 ns.length+1<=1000;omega
 have ncs:ns.take 63++[(0:Int)]≠[]:=by simp
 generalize upd (upd (upd H p1 (.lst ((ns.take 63).map V.int))) p2 (.lst [V.int 0])) p3 (.lst ((ns.take 63++[0]).map V.int))=H0 at *;generalize ns.take 63++[(0:Int)]=cs at *;refine(Q,(),λpq hpq=>?_);have g1:=zc hpq (.lst [V.int 3,V.int 4]);refine(p3,pq,cs,3,4,V,g1 _ _ hc0,ncs,lcs,zd,(),(),(),(),λk n m s at' A B C pr pm ta tb tc ra rb rc H2 g2 hpr hM hs ft oM wM m1 m2 s1 s2 nab=>?_);have Z:=hs.ok;clear g1 hc0;refine(pr,Q,SqT.of hpr,V,_,Q,_,Q,_,Q,V,?_);have n1:=ft.1;have lA:=oM.a.len;have lB:=oM.b.len;have lC:=oM.c.len;have n4:n<=4:=by rcases nab with h|h <;> omega
 have n3:k=0->n<=3:=λe=>by rcases fit3 ft with h|h;exact h;exact bK e h
 obtain⟨wA,wB,wC,_⟩:=wM;refine(Q,Q,k,A,B,C,n,m,s,pm,ta,tb,tc,ra,rb,rc,V,Z,hM,ft,(),oM,(wA,wB,wC),m1,(),s1,(),λR bO U X S a b pt H3 g3 ⟨ys,hpt⟩ I cAt=>?_);have hM3:=hM.mono g3;have lra:=zf hM3.a.2;rw[lA]at lra;have ew:∀ t,t<=10->∀ r∈blkT k m A B t,∀ x∈r,whk k 174 x:=λt ht r L x J=>(zgY Z oM (λe=>by have:=n3 e;omega) wA wB t r L x J).mono ()
 refine(Q,Q,Q,Q,pm,_,_,.ref ta,V,V,SqT.of hM3.tup,V,ta,Q,.inl (SqL.of hM3.a.1),_,Q,V,yG () (),k,A,B,C,n,m,s,n+n,80,174,80,_,pm,ta,tb,tc,ra,rb,rc,V,(by rw[wa,← lra];omega),Z,hM3,(oM.a.ok,oM.a.len),(oM.b.ok,oM.b.len),(oM.c.ok,oM.c.len),n1,(),m1,(),(),(),(λr L x J _=>oM.a.sz r L x J),(λr L x J _=>oM.c.sz r L x J),(λt ht r L x J=>(ew t () r L x J).szk ()),(),(),λts ps H4 g4 hps lts tabs=>?_);have okb:=QN Z oM.a.ok oM.a.len oM.b.ok oM.b.len;have okM:∀ t,t<n+n->OkM k m (kaf k m C (blkT k m A B t))/\(kaf k m C (blkT k m A B t)).length=s:=λt _=>by
  have o:=xm Z (c:=m) oM.c.ok (okb t).1;exact(o.2,o.1.trans oM.c.len)
 have whM:∀ t,t<n+n->∀ r∈kaf k m C (blkT k m A B t),∀ x∈r,whk k 190 x:=λt ht r L x J=>by
  unfold kaf at L;obtain⟨c,hc,rfl⟩:=wj.mp L;obtain⟨d,hd,rfl⟩:=wj.mp J;have oc:=oM.c.ok c hc;have od:=zg (okb t).1 d hd;rw[(okb t).2]at od;intro k0;exact(zaX Z oc.2 od.2 oc.1 (show n<=2^2 by have:=n3 k0;omega) (wC.sz c hc) (ye (okb t).1 (ew t ()) d hd)) k0
 have hT4:TsAt H4 k (λt=>kaf k m C (blkT k m A B t)) (n+n) s m ps ts:=(hps,lts,tabs,okM);refine(k,_,n,s,m,ps,ts,V,Z,hT4,(n1,n4,s1,s2,m1,m2,n3),whM,λpd H5 g5 oc=>?_);have g35:=g4.trans g5;have ab:=I.ab;obtain⟨F0,i0,d0,⟨φ0⟩⟩:=zw Z
 rcases cAt with⟨b0,hn⟩|⟨b1,zx,zs,pi,ua,ub,uc,va,vb,vc,hco,MC,GC,cX,cS,zz⟩
 ·have zer:Zer k (λt=>kaf k m C (blkT k m A B t)) (n+n):=λt ht=>I.nought Z b0 m1 t (by rw[lC];exact okM t ht)
  have hno:H5 pd=some (.tup [.str "nought"]):=by
   rcases oc with⟨e,_⟩|⟨_,nz,_⟩|⟨r,A1,B1,C1,ta1,tb1,tc1,ra1,rb1,rc1,e,_,M⟩
   ·exact e
   ·exact bK zer nz
   ·obtain⟨c1,c2,oA,oB,oC,bM,mk⟩:=M;have:=zaw Z okM s1 m1 zer () (mk F0 φ0).1.1;omega
  refine(Q,pt,_,_,.str "none",V,V,SqT.of (g35 _ _ hn),V,.str "none",.str "none",(by simp only[Rp]),(by simp only[Rp]),(by decide +kernel),(by decide +kernel),wE (vX _ _) (),Q,?_);rw[show PyData.eqv (.str "none") (.str "none")=true by decide];refine iteT ?_;refine(Q,(),λpn hpn=>?_);refine(wordD "nought",wordD "nought",zdy (zc hpn _ _ _ hno),zdy zd,(by decide +kernel),(by decide +kernel),wE (GZ _ _) (),?_);rw[show PyData.eqv (wordD "nought") (wordD "nought")=true by decide];exact q _
 have hco5:=g35 _ _ hco;have MC5:=MC.mono g35;have bn:b<=n:=by omega
 have okM':∀ t,t<n+n->OkM k m (kaf k m C (blkT k m A B t))/\(kaf k m C (blkT k m A B t)).length=C.length:=λt ht=>by rw[lC];exact okM t ht
 have lst2:=I.lst Z;have rk0:RkL φ0 (λt=>kaf k m C (blkT k m A B t)) n s m n n b:=by
  have:=I.rank Z okM' () m1 b1 bn φ0;rw[lC]at this;exact this
 obtain⟨r,A1,B1,C1,ta1,tb1,tc1,ra1,rb1,rc1,e,⟨TA,TB,TC⟩,M⟩ : ∃ r A1 B1 C1 ta1 tb1 tc1 ra1 rb1 rc1,H5 pd=some (.tup [.str "machine",.ref ta1,.ref tb1,.ref tc1])/\(kac H5 A1 ta1 ra1/\kac H5 B1 tb1 rb1/\kac H5 C1 tc1 rc1)/\MachL k (λt=>kaf k m C (blkT k m A B t)) n s m r A1 B1 C1:=by
  rcases oc with⟨_,z⟩|⟨_,_,no⟩|M
  ·exfalso
   have:=zaw Z okM s1 m1 z () rk0;omega
  ·exfalso
   obtain⟨r1,k1⟩:=QZ (O:=φ0) Z (xc okM (a:=n) (b:=n+1) ());obtain⟨r2,k2⟩:=QZ (O:=φ0) Z (xc okM (a:=n+1) (b:=n) ());have okA:=I.okA Z;have okB:=I.okB Z;have okC:=I.okC Z;have mk:∀ t s' l,t<n+n->s'<s->l<m->nv φ0 ((kaf k m C (blkT k m A B t)).getD s' []) l=dot n (nv φ0 (C.getD s' [])) (nv φ0 (powX k A ((kaa m B).getD l []) t)):=λt s' l ht hs' hl=>by
    have gB:=I.tBn Z _ (we (getT B hl));have oP:=zF Z I.pt.oA I.pt.lA gB.2 gB.1 t;have oc':=I.pt.oC _ (gdmemX (M:=C) (i:=s') ());rw[zI φ0 (XB t () hl),zP φ0 Z oc'.2 oP.1 (by rw[oc'.1,oP.2]),oc'.1]
   have sr:=zdl Z okM s1 m1 n1 (ww n) (oM.a.ok,oM.a.len) (oM.b.ok,oM.b.len) (oM.c.ok,oM.c.len) mk rk0 k1 k2;obtain⟨_,e1,e2⟩:=sr;rw[e1]at k1;rw[e2]at k2;exact no F0 φ0 b b1 bn (rk0,k1,k2)
  ·exact M
 obtain⟨c1,c2,oA,oB,oC,bM,mk⟩:=M;have l1:LstM k r m A1 B1 C1:=zhT Z okM m1 oA oB oC c1 (λF _ O=>(mk F O).2) λF _ O=>(mk F O).1.1
 have mkE:∀ t,t<n+n->MkE k m A1 B1 C1 (cA k n a b A X S) (cB k m a b B S) (cC k n a b C X) t:=λt ht=>I.mkE Z oA oB (oC.1,by rw[lC];exact oC.2) t λF _ O s' l hs' hl=>(mk F O).2 t s' l ht () hl
 have er:r=b:=zjd Z ((qE Z oA oB oC bM).up ()) (zax Z I n3 oM wA wB wC cX cS zz b1 bn) () c1 b1 (λt ht=>mkE t ()) l1 lst2;subst er;have cmp:∀ {H:Hp} {bP:XK} {Q:VK} {pj:Addr},kaj H A1 B1 C1 pj ta1 tb1 tc1 ra1 rb1 rc1->kaj H (cA k n a r A X S) (cB k m a r B S) (cC k n a r C X) pi ua ub uc va vb vc->(∀ p xs H',Same H H'->H' p=some (.tup (.str "turn" :: xs))->Q (.ref p) H')->jO [.int k,.ref pj,.ref pi] H Q bP/\jO [.int k,.ref pi,.ref pj] H Q bP:=λh1 h2 h3=>ziV Z I n4 n3 oM wA wB wC cX cS zz b1 bn (m1,m2) (s1,s2) oA oB oC bM (λt ht=>mkE t ()) l1 h1 h2 h3
 have lt1:=zf TA.2;rw[oA.2]at lt1;have lt2:=zf MC5.a.2;rw[(I.okA Z).1]at lt2;refine(Q,pt,_,_,.str "core",V,V,SqT.of hco5,V,.str "core",.str "none",(by simp only[Rp]),(by simp only[Rp]),(by decide +kernel),(by decide +kernel),wE (vX _ _) (),Q,?_);rw[show PyData.eqv (.str "core") (.str "none")=false by decide];refine iteF ?_;refine(Q,pd,_,_,.str "machine",V,V,SqT.of e,V,.str "machine",.str "machine",(by simp only[Rp]),(by simp only[Rp]),(by decide +kernel),(by decide +kernel),wE (vX _ _) (),Q,?_);rw[show PyData.eqv (.str "machine") (.str "machine")=true by decide];refine iteF ?_;refine(Q,pd,_,_,.ref ta1,V,V,SqT.of e,V,ta1,Q,.inl (SqL.of TA.1),Q,pt,_,_,.ref pi,V,V,SqT.of hco5,V,pi,_,_,.ref ua,V,V,SqT.of MC5.tup,V,ua,Q,.inl (SqL.of MC5.a.1),V,Q,?_);rw[wa,wa,← lt1,← lt2,bF rfl];refine iteF ?_;refine(Q,Q,Q,pd,Q,SqT.of e,zhG _ _ _ _,λpj hpj=>?_);rw[zaJ];have g6:=zc hpj (.tup [.ref ta1,.ref tb1,.ref tc1]);have MJ:kaj (upd H5 pj (.tup [.ref ta1,.ref tb1,.ref tc1])) A1 B1 C1 pj ta1 tb1 tc1 ra1 rb1 rc1:=(zd,TA.mono g6,TB.mono g6,TC.mono g6);have e6:=g6 _ _ e;have hco6:=g6 _ _ hco5;have MC6:=MC5.mono g6;generalize upd H5 pj (.tup [.ref ta1,.ref tb1,.ref tc1])=H6 at *;refine(Q,pt,_,_,.ref pi,V,V,SqT.of hco6,V,?_)
 dsimp only [tNil]
 refine(cmp MJ MC6 λp7 xs7 H7 g7 e7=>?_).1;refine(p7,_,_,.str "turn",V,V,SqT.of e7,(zt (j:=0) rfl),.str "turn",.str "turn",(by simp only[Rp]),(by simp only[Rp]),(by decide +kernel),(by decide +kernel),wE (vX _ _) (),Q,?_);rw[show PyData.eqv (.str "turn") (.str "turn")=true by decide];refine iteT ?_;have e7':=g7 _ _ e6;have hco7:=g7 _ _ hco6;have MC7:=MC6.mono g7;have MJ7:=MJ.mono g7;refine(Q,Q,pt,_,_,.ref pi,V,V,SqT.of hco7,V,Q,Q,pd,Q,SqT.of e7',zhG _ _ _ _,λp8 hp8=>?_);rw[zaJ];have g8:=zc hp8 (.tup [.ref ta1,.ref tb1,.ref tc1]);have MJ8:kaj (upd H7 p8 (.tup [.ref ta1,.ref tb1,.ref tc1])) A1 B1 C1 p8 ta1 tb1 tc1 ra1 rb1 rc1:=(zd,MJ7.a.mono g8,MJ7.b.mono g8,MJ7.c.mono g8);have MC8:=MC7.mono g8;generalize upd H7 p8 (.tup [.ref ta1,.ref tb1,.ref tc1])=H8 at *
 dsimp only [tNil]
 refine(cmp MJ8 MC8 λp9 xs9 H9 g9 e9=>?_).2;refine(p9,_,_,.str "turn",V,V,SqT.of e9,(zt (j:=0) rfl),.str "turn",.str "turn",(by simp only[Rp]),(by simp only[Rp]),(by decide +kernel),(by decide +kernel),wE (vX _ _) (),?_);rw[show PyData.eqv (.str "turn") (.str "turn")=true by decide];exact q _
end
end KL
open PySem PySem.W PyProof.Rows
set_option maxRecDepth 100000 in
set_option maxHeartbeats 0 in
theorem PySem.Challenge.cw_steermill_k73_whole_least_machines_holds : PySem.Challenge.rw_steermill_k73_whole_least_machines.Holds := by
 refine L2.zbF (l:=PySem.Challenge.rw_steermill_k73_whole_least_machines) 54 3300 (L2.lkP KL.pg) (L2.lvP KL.pg) KL.h_ws rfl rfl rfl (by kernel_rfl) () (λs=>by kernel_rfl) (KL.h_st,KL.h_sn,KL.h_lk) (by kernel_rfl) (by kernel_rfl) (by kernel_rfl) (by kernel_rfl) (by kernel_rfl) (by kernel_rfl) (V,V,V,V,V,by decide +kernel) (by w_witness2) (by decide +kernel) (V,(),()) ?F
 case F =>
  intro w mg fa h K KX hq G hmg
  obtain⟨fd,FL,hb⟩:=L2.zii (st:=L2.nthS KL.pg 96) KX G hmg (L2.zg9 hq 96 rfl) (λ_ _ _ _ _ _ _=>rfl)
  exact(fd,hb,λbase _ _ hS=>KL.zh2 (B:=(w,K,mg,base,h,KX,G,hS,hq,KL.h_ck)) FL)
