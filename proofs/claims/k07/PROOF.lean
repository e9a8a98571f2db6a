import PyProof.Rows.All
import Wide.All
import OpenK.AllK
import Wide.FinOn
import Lean
import PyProof.EqAt
import PyProof.EqKinds
import PyProof.TupleCall
import PySem.Challenge.RW_dampfield_k07_chances
set_option maxHeartbeats 4000000
set_option Elab.async false
set_option linter.all false
set_option maxRecDepth 100000
def aJ:=@if_neg
def aK:=@if_pos
def bQ:=@decide_eq_true
def cD:=@decide_eq_false
def cT:=@of_decide_eq_true
def iW:=@of_decide_eq_false
def jx:=@decide_eq_true_iff
def qO:=@beq_eq_false_iff_ne
def lG:=@beq_iff_eq
def tK:=@decide_eq_decide
def lB:=@if_false
def nF:=@if_true
def Lq:=@bne_self_eq_false
def Lr:=@beq_self_eq_true
def RW:=@decide_eq_true_eq
def Sv:=@and_congr_right
open Array renaming length_toList->fu,getElem?_eq_getElem->jc,getD_eq_getD_getElem?->qN,toList_append->nP,getElem?_toList->wM,toList_push->Ca,getElem?_eq_none->La,toList_reverse->Lf,getElem_toList->Lg,getElem_mem_toList->Ro,eq_empty_of_size_eq_zero->a0P,toList_setIfInBounds->a0V,toList_inj->S9,toList_extract->a1q,append_assoc->a1x,size_extract->a1B
open Bool renaming false_ne_true->gC,and_eq_true->mK,not_eq_true'->qQ,false_eq_true->wO,not_eq_false'->vd,eq_iff_iff->vq,true_and->vA,and_false->yq,false_and->Cq,beq_eq_decide_eq->Ru,and_eq_true_iff->Ry,and_true->LK,eq_false_iff->RZ,false_or->SQ,true_or->T3
def GD:=@Classical.byContradiction
open Int renaming toNat_natCast->gD,zero_add->nR,eq_ofNat_of_zero_le->Dh,toNat_of_nonneg->BR,emod_lt_of_pos->BX,emod_nonneg->Cp,le_refl->yt,natCast_nonneg->Ln,add_zero->Cy,one_mul->Ht,fdiv_eq_ediv_of_nonneg->a0U,natCast_mul->Sw,le_trans->T6,mul_one->T7
open List renaming length_map->aL,getD_eq_getElem?_getD->fM,getElem?_eq_getElem->fY,mem_singleton->dH,length_append->cH,getElem?_map->cP,mem_filter->cG,mem_of_getElem?->eX,getElem?_eq_some_iff->gO,mem_cons_self->eF,size_toArray->dX,map_append->d9,mem_append->dw,mem_cons_of_mem->gk,length_filter_le->gW,mem_cons->dj,mem_map->cW,mem_range->fP,take_length->gP,length_cons->gY,length_singleton->jC,map_cons->gq,mem_append_right->lD,length_take->jd,take_succ->iB,length_range->jD,mem_append_left->mJ,getElem_mem->mL,all_eq_true->nQ,getElem?_of_mem->tU,filter_append->qP,map_map->lF,drop_eq_getElem_cons->zF,pairwise_append->wN,pairwise_iff_getElem->Dg,pairwise_cons->vD,append_nil->qT,getElem?_append_right->Hu,take_of_length_le->Di,getElem?_eq_none->Dk,foldl_cons->vG,mem_of_mem_take->Dp,append_assoc->zG,nodup_append->zH,filter_congr->tE,replicate_succ->uZ,getElem?_append_left->Bx,range_succ->pZ,take_append_drop->yc,foldl_map->qb,length_drop->vh,lookup_cons->vm,filter_cons->vp,length_replicate->BJ,getElem?_toArray->BK,filter_eq_self->BL,map_congr_left->BP,length_nil->yp,perm_ext_iff_of_nodup->KQ,flatten_cons->BZ,ext_getElem?->Cd,getElem?_take_of_lt->KR,getElem_map->Ce,flatMap_append->GK,any_cons->yr,mem_filterMap->GP,nodup_cons->Cj,find?_cons->Cm,drop_of_length_le->Lb,foldl_append->GX,nodup_nil->Cu,mem_of_mem_drop->Ld,all_cons->Cv,getElem_of_mem->Li,drop_zero->Hh,take_zero->Hj,getElem?_replicate->Rp,length_eq_zero_iff->Rq,flatMap_cons->Lp,getElem?_set_self->Rr,filter_eq_nil_iff->Rt,mem_reverse->Lw,perm_append_comm->Rv,pairwise_reverse->Rw,map_nil->Hq,length_set->Lx,mem_iff_getElem->Rx,eq_nil_of_length_eq_zero->a0Q,filterMap_cons->Rz,filter_sublist->RD,drop_drop->Lz,map_replicate->RN,length_eraseIdx_of_lt->a0W,sum_cons->LR,pairwise_map->RX,reverse_perm->S5,sublist_append_left->a1b,drop_length->Sg,any_eq_true->Sh,eraseIdx_cons_succ->a1e,pairwise_singleton->a1f,of_mem_zip->Sq,filter_nil->Ss,length_pos_of_mem->a1j,pairwise_lt_range->a1l,getElem?_set_ne->a1p,reverse_append->a1u,modify_toArray->a1v,map_eq_nil_iff->a1w,all_map->SX,ne_nil_of_mem->a1E,map_id->T8
def RL:=@List.Nodup.sublist
open List.Perm renaming eq_of_pairwise->a1c,refl->SJ
open Nat renaming le_refl->bK,le_trans->cU,ne_of_lt->dZ,lt_of_lt_of_le->jw,zero_le->jh,mul_le_mul->lK,lt_irrefl->oX,lt_succ_of_lt->tG,lt_succ_self->yd,le_of_ble_eq_true->GF,le_succ->tL,ne_of_gt->vB,min_eq_left->Ck,pow_le_pow_right->Lh,le_of_lt->Cw,lt_of_le_of_lt->Lj,zero_add->Hr,not_lt_zero->Ly,eq_zero_or_pos->RM,succ_mul->M4,gcd_pos_of_pos_right->a1d,mul_div_cancel_left->a1h,le_mul_of_pos_left->a1m,not_lt->M8,mod_lt->M9,add_le_add_left->a1t,add_sub_cancel->a1A,sub_self->T4,add_zero->T5,lt_or_eq_of_le->a1C
def iR:=@Ne.symm
open Option renaming map_eq_some_iff->gj,map_some->yh,isSome_map->S6,isSome_iff_exists->a0Y
open Option.some renaming inj->iD,injEq->GQ
def nD:=@Prod.ext
open PyProof.Rows renaming wpS_bind->aX,wpS_pure->bD,wpS_forRange->lM,wpS_mono->j7,wpS_modify->m9,callWith_type1->KN,wpS_get->nG,wpS_lift->yw,mirror_perm->Hs,assignInOrder_cons->RJ
open PyProof.Rows.F renaming plain_set_update_loop->Rm,entry_set_update_loop->a0N
def LC:=@PyProof.Rows.IntsAre.length
open PySem renaming wpAny_bind->aR,wpAny_pure->bN,wpAny_mono->jy,codeAny_builtin->tW,wpAny_truthy_bool->wQ,wpAny_holding->qU,plainId_quiet->tX,sizeLine_eq->pK,wpAny_eqBool_int->tH,wpAny_rule->lA,wpAny_newObj_type->vf,wpAny_call_entry->vo,codeAny_mono->qd,wpAny_Call_Name_kw->BW,wpAny_passesOwn->yg,wpAny_askSetting->Cg,mem_of_lookup->GJ,wpAny_callSpecial?_slot->KY,wpAny_setState_of->GR,wpAny_execs_nil->GZ,wpAny_ite_split->Hf,wpAny_updateSeq->Hg,tupleKind_room_in1->Lk,call_meets->yu,wpAny_standAt->Hl,wpAny_attempt->Ho,wpAny_newList->LQ,wpAny_assign_Name->RP,wpAny_pyIter_list->RQ,wpAny_pyIter_slot->S7,wpAny_execs_cons->S8,wpAny_comprehension_free->a0Z,wpAny_isInstance->Sd,wpAny_letGo->M6,wpAny_runValue->Sx,isSubtype_type->Sy,wpAny_tryCatch->SM,wpAny_call->M7
def vC:=@PySem.Around.under_plainId
def a1a:=@PySem.AutoSeq1.sub_tuple_tuple
open PySem.Calls renaming call_function_entry->Rn,Name_function_global->a0T
open PySem.F renaming plainAttrs_list->lC,slot_list_append->mG,type_list_append->mH,slot_dict_keyiterator_next->Pu,excBase_ValueError->GC,plain_max_loop->Ci,plain_list_iadd->KZ,args_dict_keyiterator_next_1->a0M,entry_dict_keyiterator_next->a0O,entry_proto_collect->a0R,plain_proto_collect->a0S,plain_extend_loop->a0X,entry_list_iadd->a1g,slot_dict_iter->a1k,plain_set_new->a1n,slot_set_iter->a1o,slot_list_lt->a1r
open PySem.Heap renaming get?_push_of_some->fj,lt_size->bO,get?_push_size->gn,get?_update_ne->tV,get?_update_self->Dj,get?_update_other->Hv,size_push->Cr
def dh:=@PySem.PassesOwn.never
def M5:=@PySem.SeqAt.EqAt.of_refs
def a1D:=@PySem.Txt.slice_le
open PySem.W renaming mg_none_of->pI,kia_one->qR,mg_of->pJ,callWith_K->RK,kitx_list->RV,cellsFrom_some->a1i,hideAll_get->a1s,of_hideAll->a1y,kitx_tuple->a1z
abbrev ao:=PySem.W.Frag
namespace L2
open PySem PySem.Spec PyProof.Rows
abbrev Key:=Sum Int Str
def J4:Key->Value->Bool
 |.inl k,v=>Value.isInt k v
 |.inr x,v=>Value.isStrOf x v
def a8C(w:World):Key->Int
 |.inl k=>hashInt k
 |.inr x=>hashStr w x
theorem gJ:∀ {k:Key} {v:Value},J4 k v=true->(∃ i t,k=Sum.inl i/\v=Value.int i t)\/(∃ x t,k=Sum.inr x/\v=Value.str x t)
 |.inl i,v,h=>by
  obtain⟨t,e⟩:=Value.isInt_shape (k:=i) (v:=v) h;exact .inl ⟨i,t,rfl,e⟩
 |.inr x,v,h=>by
  obtain⟨t,e⟩:=Value.isStrOf_shape (x:=x) (v:=v) h;exact .inr ⟨x,t,rfl,e⟩
theorem W9(i:Int)(t:Tok):J4 (.inl i) (.int i t)=true:=by simp[J4,Value.isInt]
theorem Wa(x:Str)(t:Tok):J4 (.inr x) (.str x t)=true:=by simp[J4,Value.isStrOf]
theorem a5t(a b:Int):decide ((Sum.inl a:Key)=Sum.inl b)=(a==b):=by
 by_cases e:a=b
 ·subst e;simp
 ·have h:¬(Sum.inl a:Key)=Sum.inl b:=fun q=>e (Sum.inl.inj q)
  rw[cD h];exact(qO.mpr e).symm
theorem a5w(a b:Str):decide ((Sum.inr a:Key)=Sum.inr b)=decide (a=b):=by
 by_cases e:a=b
 ·subst e;simp
 ·have h:¬(Sum.inr a:Key)=Sum.inr b:=fun q=>e (Sum.inr.inj q)
  rw[cD h,cD e]
theorem a5u(a:Int)(b:Str):decide ((Sum.inl a:Key)=Sum.inr b)=false:=cD (fun q=>nomatch q)
theorem a5v(a:Str)(b:Int):decide ((Sum.inr a:Key)=Sum.inl b)=false:=cD (fun q=>nomatch q)
def iK(prog:Program)(w:World):PySem.KeyKind prog w Key where
 is:=J4
 hash:=a8C w
 inj:=fun v a b ha hb=>by
  rcases gJ ha with⟨i,t,rfl,rfl⟩|⟨x,t,rfl,rfl⟩
  ·rcases gJ hb with⟨j,u,rfl,e⟩|⟨y,u,rfl,e⟩
   ·injection e with e1 _;rw[e1]
   ·exact nomatch e
  ·rcases gJ hb with⟨j,u,rfl,e⟩|⟨y,u,rfl,e⟩
   ·exact nomatch e
   ·injection e with e1 _;rw[e1]
 byValue:=fun k v h=>by
  rcases gJ h with⟨i,t,rfl,rfl⟩|⟨x,t,rfl,rfl⟩<;>rfl
 pyHash:=fun hv h=>by
  rcases gJ hv with⟨i,t,rfl,rfl⟩|⟨x,t,rfl,rfl⟩
  ·exact wpAny_pyHash_int h
  ·exact wpAny_pyHash_str h
 eqBool:=fun hu hv h=>by
  rcases gJ hu with⟨i,t,rfl,rfl⟩|⟨x,t,rfl,rfl⟩
  ·rcases gJ hv with⟨j,u,rfl,rfl⟩|⟨y,u,rfl,rfl⟩
   ·rw[a5t] at h;exact tH h
   ·rw[a5u] at h;exact SeqAt.EqAt.int_str i t y u _ _ _ _ h
  ·rcases gJ hv with⟨j,u,rfl,rfl⟩|⟨y,u,rfl,rfl⟩
   ·rw[a5v] at h;exact SeqAt.EqAt.str_int x t j u _ _ _ _ h
   ·rw[a5w] at h;exact wpAny_eqBool_str h
 «strs»:=fun k x t v h=>by
  rcases gJ h with⟨i,u,rfl,e⟩|⟨y,u,rfl,e⟩
  ·exact nomatch e
  ·injection e with e1 _;subst e1;cases v<;>rfl
theorem O1(prog:Program)(w:World)(i:Int)(t:Tok):(iK prog w).is (.inl i) (.int i t)=true:=W9 i t
theorem O2(prog:Program)(w:World)(x:Str)(t:Tok):(iK prog w).is (.inr x) (.str x t)=true:=Wa x t
inductive V where
 |non|bl (b:Bool)|int (i:Int)|str (x:Str)|byt (b:Array UInt8)|flt (b:UInt64)|ref (a:Addr)|ty (n:String)
 deriving DecidableEq
def RelV:V->Value->Prop
 |.non,u=>u=Value.none
 |.bl b,u=>u=Value.bool b
 |.int i,u=>∃ t,u=Value.int i t
 |.str x,u=>∃ t,u=Value.str x t
 |.byt b,u=>∃ t,u=Value.bytes b t
 |.flt b,u=>∃ t,u=Value.float b t
 |.ref a,u=>u=Value.ref a
 |.ty n,u=>u=Value.type n
abbrev Vals:List V->List Value->Prop:=Paired RelV
theorem Vals.length{xs:List V}{us:List Value}(r:Vals xs us):xs.length=us.length:=Paired.length r
theorem Vals.get:∀ {xs:List V} {us:List Value} {i:Nat} {x:V},Vals xs us->xs[i]?=some x->∃ u,us[i]?=some u/\RelV x u
 |_,_,_,_,.nil,e=>by simp at e
 |_,_,0,_,.cons r _,e=>by simp at e;subst e;exact⟨_,rfl,r⟩
 |_,_,i+1,x,.cons _ t,e=>by
  obtain⟨u,h1,h2⟩:=Vals.get (i:=i) (x:=x) t (by simpa using e);exact⟨u,by simpa using h1,h2⟩
theorem Vals.set{x:V}{u:Value}(r:RelV x u):∀ {xs:List V} {us:List Value} (i:Nat),Vals xs us->Vals (xs.set i x) (us.set i u)
 |_,_,_,.nil=>.nil
 |_,_,0,.cons _ t=>.cons r t
 |_,_,i+1,.cons q t=>.cons q (Vals.set r i t)
theorem Vals.append:∀ {xs a:List V} {us ws:List Value},Vals xs us->Vals a ws->Vals (xs++a) (us++ws)
 |_,_,_,_,.nil,s=>s
 |_,_,_,_,.cons r t,s=>.cons r (Vals.append t s)
theorem Vals.take:∀ {xs:List V} {us:List Value} (n:Nat),Vals xs us->Vals (xs.take n) (us.take n)
 |_,_,0,_=>.nil
 |_,_,_+1,.nil=>.nil
 |_,_,n+1,.cons r t=>.cons r (Vals.take n t)
theorem Vals.drop:∀ {xs:List V} {us:List Value} (n:Nat),Vals xs us->Vals (xs.drop n) (us.drop n)
 |_,_,0,r=>r
 |_,_,_+1,.nil=>.nil
 |_,_,n+1,.cons _ t=>Vals.drop n t
def zV:Option V->Option Value->Prop
 |some v,some u=>RelV v u
 |none,none=>True
 |_,_=>False
def KV{κ:Type}:List (κ×V)->List (κ×Value)->Prop:=Paired fun(p:κ×V)(q:κ×Value)=>p.1=q.1/\RelV p.2 q.2
def kV:Key->V
 |.inl i=>.int i
 |.inr x=>.str x
inductive HO where
 |lst (xs:List V)
 |tup (xs:List V)
 |dK (kvs:List (Key×V))|dT (kvs:List (List Key×V))
 |set (S:Int->Bool) (n:Nat)
 |ins (C dx:Addr) (fs:List (Str×V))
 |own (x:Addr)
 |xd (fs:List (Str×V))
 |met (f x:Addr)
 |rng (lo hi:Int)
 |frz (o:Obj) (u:HO)
 |tbl (ps:Array Value)
 |ext (φ:Heap->Prop)
abbrev Hp:=Addr->Option HO
def upd(H:Hp)(a:Addr)(o:HO):Hp:=fun b=>if b=a then some o else H b
theorem aA{H:Hp}{a:Addr}{o:HO}:upd H a o a=some o:=by unfold upd;rw[aK rfl]
theorem bG{H:Hp}{a b:Addr}{o:HO}(h:b≠a):upd H a o b=H b:=by unfold upd;rw[aJ h]
theorem qF{H:Hp}{a b:Addr}{o u:HO}(h:H a=some o)(h':H b=some u)(d:o≠u):a≠b:=by
 intro e;subst e;rw[h] at h';exact d (iD h')
theorem bL{H:Hp}{a b:Addr}{o:HO}(h:H a=some o)(h':H b=none):a≠b:=by
 intro e;subst e;rw[h] at h';cases h'
section
variable(P:Program)(w:World)
def g8(H:Hp)(h:Heap)(a:Addr):HO->Prop
 |.lst xs=>xs.length<=sizeLine/\∃(its:List Value)(n:Nat),Vals xs its/\h.get? a=some { cls:=.type "list",data:=.seq its.toArray n }
 |.tup xs=>xs.length<=sizeLine/\∃ its:List Value,Vals xs its/\IsTup h a its.toArray
 |.dK kvs=>kvs.length<=sizeLine/\(a==sysModules)=false/\∃ vs,KV kvs vs/\h.DictOf (iK P w) a vs
 |.dT kvs=>kvs.length<=sizeLine/\(a==sysModules)=false/\∃ xs:List (List Key×Addr×Value),
   Paired (fun(p:List Key×V)(q:List Key×Addr×Value)=>p.1=q.1/\H q.2.1=some (.tup (p.1.map kV))/\RelV p.2 q.2.2) kvs xs /\
   ∃ o es ep,h.get? a=some o/\o.ExactDict/\o.data=.dict es ep/\es.toList=xs.map (entryOfKey (tupleKind (iK P w)))/\(xs.map (·.1)).Nodup
 |.set S n=>h.SetOf (intKind P w) a S n
 |.ins C dx fs=>H dx=some (.own a)/\fs.length<=1000/\dx≠a/\h.get? a=some (PySem.W.instObj C dx) /\
   ∃ mA,h.Ns1 dx mA/\(∀ f,zV (fs.lookup f) (mA f))/\PySem.Within mA (fs.map (·.1))
 |.own _=>∃ o,h.get? a=some o
 |.xd fs=>∃ mA,h.Ns1 a mA/\∀ f,zV (fs.lookup f) (mA f)
 |.rng lo hi=>∃ t u v,h.get? a=some { cls:=.type "range",data:=.fields #[.int lo t,.int hi u,.int 1 v] }
 |.frz o u=>h.get? a=some o/\g8 H h a u
 |.tbl ps=>h.get? a=some { cls:=.none,data:=.fields ps }
 |.met f x=>h.get? a=some (PySem.W.methodObj (.ref f) (.ref x))
 |.ext φ=>φ h/\(∃ o,h.get? a=some o)/\∀ h1 h2:Heap,φ h1->(∀ o,h1.get? a=some o->h2.get? a=some o)->φ h2
def HOk(H:Hp)(h:Heap):Prop:=∀ a o,H a=some o->g8 P w H h a o
end
section
variable{P:Program}{w:World}{H H':Hp}{h h':Heap}{a:Addr}{o:HO}
theorem g8.lt(x:g8 P w H h a o):a<h.objs.size:=by
 cases o with
 |lst xs=>obtain⟨_,_,_,_,e⟩:=x;exact bO e
 |tup xs=>obtain⟨_,_,_,p⟩:=x;exact p.lt
 |dK b=>obtain⟨_,_,_,_,o,_,_,e,_⟩:=x;exact bO e
 |dT b=>obtain⟨_,_,_,_,o,_,_,e,_⟩:=x;exact bO e
 |set c n=>obtain⟨o,_,_,_,e,_⟩:=x;exact bO e
 |ins C dx fs=>obtain⟨_,_,_,e,_⟩:=x;exact bO e
 |own y=>obtain⟨_,e⟩:=x;exact bO e
 |xd fs=>obtain⟨_,⟨_,_,_,e,_⟩,_⟩:=x;exact bO e
 |rng lo hi=>obtain⟨_,_,_,e⟩:=x;exact bO e
 |frz d u=>obtain⟨e,_⟩:=x;exact bO e
 |tbl ps=>exact bO (show h.get? a=some _ from x)
 |met f y=>exact bO (show h.get? a=some _ from x)
 |ext g=>obtain⟨_,⟨_,e⟩,_⟩:=x;exact bO e
theorem Paired.a5A{d e:Type}{F c:d->e->Prop}:∀ {l₁:List d} {l₂:List e},Paired F l₁ l₂->(∀ a b,F a b->c a b)->Paired c l₁ l₂
 |_,_,.nil,_=>.nil
 |_,_,.cons r t,f=>.cons (f _ _ r) (Paired.a5A t f)
theorem g8.stay(x:g8 P w H h a o)(k:∀ b u,(b=a\/H b=some (.own a))->h.get? b=some u->h'.get? b=some u)
  (s:∀ b,H b=some (.own a)->H' b=some (.own a)) (z:∀ b xs,H b=some (.tup xs)->H' b=some (.tup xs)):g8 P w H' h' a o:=by
 induction o with
 |lst xs=>obtain⟨g,l,n,r,e⟩:=x;exact⟨g,l,n,r,k _ _ (.inl rfl) e⟩
 |tup xs=>obtain⟨g,l,r,i,e,c⟩:=x;exact⟨g,l,r,i,k _ _ (.inl rfl) e,c⟩
 |dK B=>obtain⟨g,y,E,r,i,es,j,e,c⟩:=x;exact⟨g,y,E,r,i,es,j,k _ _ (.inl rfl) e,c⟩
 |dT B=>
  obtain⟨g,y,xs,r,i,es,j,e,c⟩:=x;exact⟨g,y,xs,Paired.a5A r fun p q g=>⟨g.1,z _ _ g.2.1,g.2.2⟩,i,es,j,k _ _ (.inl rfl) e,c⟩
 |set F n=>obtain⟨i,es,j,t,e,c⟩:=x;exact⟨i,es,j,t,k _ _ (.inl rfl) e,c⟩
 |ins C dx fs=>
  obtain⟨d,g,D,e,mA,⟨od,es,j,m,c⟩,r⟩:=x;exact⟨s _ d,g,D,k _ _ (.inl rfl) e,mA,⟨od,es,j,k _ _ (.inr d) m,c⟩,r⟩
 |own y=>obtain⟨i,e⟩:=x;exact⟨i,k _ _ (.inl rfl) e⟩
 |xd fs=>obtain⟨mA,⟨od,es,j,e,c⟩,r⟩:=x;exact⟨mA,⟨od,es,j,k _ _ (.inl rfl) e,c⟩,r⟩
 |rng lo hi=>obtain⟨t,u,v,e⟩:=x;exact⟨t,u,v,k _ _ (.inl rfl) e⟩
 |frz i u A=>obtain⟨e,q⟩:=x;exact⟨k _ _ (.inl rfl) e,A q⟩
 |tbl ps=>
  have e:h.get? a=some { cls:=.none,data:=.fields ps }:=x;show h'.get? a=some { cls:=.none,data:=.fields ps };exact k a _ (.inl rfl) e
 |met f y=>
  have e:h.get? a=some (PySem.W.methodObj (.ref f) (.ref y)):=x;show h'.get? a=some (PySem.W.methodObj (.ref f) (.ref y));exact k a _ (.inl rfl) e
 |ext G=>obtain⟨p,⟨o,e⟩,st⟩:=x;exact⟨st _ _ p fun o q=>k _ _ (.inl rfl) q,⟨o,k _ _ (.inl rfl) e⟩,st⟩
theorem HOk.lt(x:HOk P w H h)(e:H a=some o):a<h.objs.size:=(x a o e).lt
theorem HOk.fresh(x:HOk P w H h)(e:h.objs.size<=a):H a=none:=by
 cases q:H a with
 |none=>rfl
 |some u=>exact absurd (jw (x.lt q) e) (oX _)
theorem HOk.kept(x:HOk P w H h)(k:∀ b u,h.get? b=some u->h'.get? b=some u):HOk P w H h':=fun a o e=>
 (x a o e).stay (fun b u _ q=>k b u q) (fun _ q=>q) fun _ _ q=>q
theorem HOk.laid(x:HOk P w H h)(k:∀ b u,h.get? b=some u->h'.get? b=some u)(g:h.objs.size<=a)(new:g8 P w (upd H a o) h' a o):HOk P w (upd H a o) h':=fun b u e=>by
 have f:=x.fresh g;by_cases d:b=a
 ·subst d;rw[aA] at e;cases e;exact new
 ·rw[bG d] at e;exact(x b u e).stay (fun c v _ q=>k c v q) (fun c q=>by rw[bG (bL q f)];exact q) fun c xs q=>by rw[bG (bL q f)];exact q
end
def Rd(H:Hp)(a:Addr)(u:HO):Prop:=H a=some u\/∃ o,H a=some (.frz o u)
theorem Rd.ok{P:Program}{w:World}{H:Hp}{h:Heap}{a:Addr}{u:HO}(r:Rd H a u)(x:HOk P w H h):g8 P w H h a u:=by
 rcases r with r|⟨o,r⟩
 ·exact x a u r
 ·obtain⟨_,q⟩:=x a _ r;exact q
def Mut:Option HO->Prop
 |some (.lst _)=>True
 |some (.dK _)=>True
 |some (.dT _)=>True
 |some (.set _ _)=>True
 |some (.ins _ _ _)=>True
 |some (.ext _)=>True
 |_=>False
section
variable{P:Program}{w:World}{H:Hp}{h h':Heap}{x e:Addr}{o':HO}
theorem HOk.write(ok:HOk P w H h)(i:Mut (H x))(l:e=x\/H e=some (.own x))(k:∀ b u,b≠e->h.get? b=some u->h'.get? b=some u)(o:∃ u,h'.get? e=some u)
  (new:g8 P w (upd H x o') h' x o'):HOk P w (upd H x o') h':=fun b u q=>by
 have j:∀ c y,H c=some (.own y)->c≠x:=fun c y r a=>by subst a;rw[r] at i;exact i
 have n:∀ c xs,H c=some (.tup xs)->c≠x:=fun c xs r a=>by subst a;rw[r] at i;exact i
 by_cases d:b=x
 ·subst d;rw[aA] at q;cases q;exact new
 ·rw[bG d] at q;by_cases f:b=e
  ·have m:H b=some (.own x):=by
    rcases l with a|a
    ·exact absurd (f.trans a) d
    ·rw[f];exact a
   rw[q] at m;cases m;obtain⟨v,p⟩:=o;exact⟨v,by rw[f];exact p⟩
  ·refine(ok b u q).stay (fun c v g r=>k c v ?_ r) (fun c r=>by rw[bG (j c b r)];exact r) fun c xs r=>by rw[bG (n c xs r)];exact r
   rcases g with rfl|g
   ·exact f
   ·rintro rfl;rcases l with a|a
    ·exact j c b g a
    ·rw[g] at a;cases a;exact d rfl
end
structure Un(fs ex:List Addr)(H H':Hp)(h h':Heap):Prop where
 keep:∀ b o,h.get? b=some o->H b=none->b∉fs->b∉ex->h'.get? b=some o
 slot:∀ b o,h.get? b=some o->H b=none->b∈fs->b∉ex->∃ sl,h'.get? b=some { o with slots:=sl }
 free:∀ b o,h.get? b=some o->H b=none->b∉ex->H' b=none
 there:∀ b o,h.get? b=some o->b∉ex->∃ o',h'.get? b=some o'
 tups:∀ b xs,H b=some (.tup xs)->H' b=some (.tup xs)
 rK:∀ b o u,H b=some (.frz o u)->H' b=some (.frz o u)
 tZ:∀ b ps,H b=some (.tbl ps)->∃ more,H' b=some (.tbl (ps++more))
section
variable{fs fs' ex ex':List Addr}{H H1 H2:Hp}{h h1 h2 h':Heap}{a x e:Addr}{o:HO}
theorem Un.any(u:Un fs ex H H1 h h1){b:Addr}{ob:Obj}(q:h.get? b=some ob)(n:H b=none)(c:b∉ex):∃ d,h1.get? b=some { ob with slots:=d }:=by
 by_cases a:b∈fs
 ·exact u.slot b ob q n a c
 ·exact⟨ob.slots,u.keep b ob q n a c⟩
theorem Un.trans(a:Un fs ex H H1 h h1)(b:Un fs ex H1 H2 h1 h2):Un fs ex H H2 h h2 where
 keep:=fun c e q n g d=>b.keep c e (a.keep c e q n g d) (a.free c e q n d) g d
 slot:=fun c e q n g d=>by
  obtain⟨m,f⟩:=a.slot c e q n g d;obtain⟨l,i⟩:=b.slot c _ f (a.free c e q n d) g d;exact⟨l,i⟩
 free:=fun c e q n d=>by
  obtain⟨o',f⟩:=a.there c e q d;exact b.free c o' f (a.free c e q n d) d
 there:=fun c e q d=>by
  obtain⟨o',f⟩:=a.there c e q d;exact b.there c o' f d
 tups:=fun c xs q=>b.tups c xs (a.tups c xs q)
 rK:=fun c e xs q=>b.rK c e xs (a.rK c e xs q)
 tZ:=fun c ps q=>by
  obtain⟨j,f⟩:=a.tZ c ps q;obtain⟨k,i⟩:=b.tZ c _ f;exact⟨j++k,by rw[i,a1x]⟩
theorem Un.kept(k:∀ b u,h.get? b=some u->h'.get? b=some u):Un fs ex H H h h':=
 ⟨fun b a q _ _ _=>k b a q,fun b a q _ _ _=>⟨a.slots,k b a q⟩,fun _ _ _ n _=>n,fun b a q _=>⟨a,k b a q⟩,fun _ _ q=>q,fun _ _ _ q=>q,fun _ ps q=>⟨#[],by rw[q];simp⟩⟩
theorem Un.refl:Un fs ex H H h h:=Un.kept fun _ _ q=>q
theorem Un.laid(k:∀ b u,h.get? b=some u->h'.get? b=some u)(d:h.objs.size<=a)(c:H a=none):Un fs ex H (upd H a o) h h' where
 keep:=fun b u q _ _ _=>k b u q
 slot:=fun b u q _ _ _=>⟨u.slots,k b u q⟩
 free:=fun b u q n _=>by rw[bG (dZ (jw (bO q) d))];exact n
 there:=fun b u q _=>⟨u,k b u q⟩
 tups:=fun b xs q=>by rw[bG (bL q c)];exact q
 rK:=fun b u xs q=>by rw[bG (bL q c)];exact q
 tZ:=fun b ps q=>⟨#[],by rw[bG (bL q c),q];simp⟩
theorem Un.write(c:Mut (H x))(j:e=x\/H e=some (.own x))(k:∀ b u,b≠e->h.get? b=some u->h'.get? b=some u)(l:∃ u,h'.get? e=some u):Un fs ex H (upd H x o) h h':=by
 have i:∀ b,H b=none->b≠x:=fun b n a=>by subst a;rw[n] at c;exact c
 have f:∀ b,H b=none->b≠e:=fun b n a=>by
  subst a;rcases j with r|r
  ·exact i b n r
  ·rw[n] at r;cases r
 have d:∀ b u,H b=some u->¬Mut (some u)->b≠x:=fun b u q nm a=>by subst a;rw[q] at c;exact nm c
 refine⟨fun b u q n _ _=>k b u (f b n) q,fun b u q n _ _=>⟨u.slots,k b u (f b n) q⟩,fun b u q n _=>by rw[bG (i b n)];exact n,fun b u q _=>?_,
  fun b xs q=>by rw[bG (d b _ q fun a=>a)];exact q,fun b u xs q=>by rw[bG (d b _ q fun a=>a)];exact q,fun b ps q=>⟨#[],by rw[bG (d b _ q fun a=>a),q];simp⟩⟩
 by_cases g:b=e
 ·subst g;exact l
 ·exact⟨u,k b u g q⟩
theorem Un.mono(u:Un fs ex H H1 h h1)(g:∀ b∈fs,b∈fs')(e:∀ b∈ex,b∈ex'):Un fs' ex' H H1 h h1:=
 ⟨fun b d q n f c=>u.keep b d q n (fun a=>f (g b a)) fun a=>c (e b a),fun _ _ q n _ c=>u.any q n fun a=>c (e _ a),fun b d q n c=>u.free b d q n fun a=>c (e b a),fun b d q c=>u.there b d q fun a=>c (e b a),u.tups,u.rK,u.tZ⟩
end
def trk(h:Heap)(H:Hp):List Addr:=(List.range h.objs.size).filter fun a=>(H a).isSome
def K8(h:Heap)(H:Hp):Heap:=PySem.W.hideAll h (trk h H)
theorem W6(h:Heap)(H:Hp):(K8 h H).objs.size=h.objs.size:=PySem.W.hideAll_size _ _
theorem Yq{h:Heap}{H:Hp}{b:Addr}{o:Obj}(e:h.get? b=some o)(n:H b=none):(K8 h H).get? b=some o:=
 a1s _ e fun a=>by
  have q:(H b).isSome=true:=(cG.mp a).2;rw[n] at q;simp at q
theorem a2w{h:Heap}{H:Hp}{b:Addr}{o:Obj}(e:(K8 h H).get? b=some o):h.get? b=some o/\H b=none:=by
 have a:h.get? b=some o:=a1y (trk h H) e;refine⟨a,?_⟩;cases q:H b with
 |none=>rfl
 |some x=>
  have c:b∈trk h H:=cG.mpr ⟨fP.mpr (bO a),by simp[q]⟩;have d:(K8 h H).get? b=none:=PySem.W.hideAll_none (trk h H) c;rw[d] at e;cases e
structure Mod(K:ao)(mg:Str->Option Value)(base:Heap):Prop where
 kin:K.In base
 glob:base.Ns mainGlobals mg
 blt:∃ mb,base.Ns builtinsNs mb/\∀ x:Str,x ≠ "__name__" -> mb x=bootBuiltins x
 nolimit:base.NoLimit
structure Cx where
 prog:Program
 w:World
 K:ao
 mg:Str->Option Value
 base:Heap
 A:Around
 N:List Str
 s₀:Shared
 H₀:Hp
 env:Env
 outer:List Env
 stack:List Env
 ex:List Addr
 fn:Str->Bool
 calm:Bool
 pn:List (Addr×Obj)
 xe:Value->Shared->Prop
def frs(l:List Env):List Addr:=l.filterMap (·.frame)
abbrev Cx.fs(X:Cx):List Addr:=frs X.outer
def Vis(sc:Scope)(x:Str):Prop:=sc.names.lookup x=some .local\/sc.names.lookup x=some .cell\/sc.names.lookup x=some .free
def Loc(sc:Scope)(x:Str):Prop:=sc.names.lookup x=some .local\/sc.names.lookup x=some .cell
def Look(env:Env)(h:Heap)(m:Str->Option Value)(x:Str)(u:Value):Prop:=
 (env.kindOf x=some .local/\m x=some u)\/((env.kindOf x=some .cell\/env.kindOf x=some .free)/\∃ c,env.cells.lookup x=some c/\h.IsCell c (some u))
structure Cx.Ok(X:Cx):Prop where
 mod:Mod X.K X.mg X.base
 kind:X.env.scope.kind=.function
 glob:X.env.globals=mainGlobals
 blt:X.env.builtins=builtinsNs
 above:X.s₀.heap.objs.size<=X.env.locals
 inj:∀ x y c,X.env.cells.lookup x=some c->X.env.cells.lookup y=some c->x=y
 has:∀ x,(X.env.kindOf x=some .cell\/X.env.kindOf x=some .free)->∃ c,X.env.cells.lookup x=some c
 cab:∀ x c,X.fn x=true->X.env.cells.lookup x=some c->X.s₀.heap.objs.size<=c
 hd:X.calm=true->X.A.handled=none
 frames:X.A.frames=some X.stack
 stk:X.stack=X.outer\/(X.stack=X.env::X.outer/\X.env.frame=some X.env.locals)
 exf:∀ b∈X.ex,b≠X.env.locals/\∀ x c,X.env.cells.lookup x=some c->c≠b
 bs:∀ b o,X.base.get? b=some o->X.s₀.heap.get? b=some o/\X.H₀ b=none
 bsz:X.base.objs.size<=X.s₀.heap.objs.size
 Wk:∀ b o,X.base.get? b=some o->b∉X.ex
 Yj:∀ b∈X.ex,b∉X.fs
 yK:X.s₀.heap.FunFrames X.base X.outer
 frf:∀ b∈X.fs,X.H₀ b=none
structure Inv(X:Cx)(pins:List (Addr×Obj))(zzs:List (Option V))(H:Hp)(s:Shared):Prop where
 ok:X.Ok
 os:s.os=X.s₀.os
 bare:AllBare s.gens
 base:Un X.fs X.ex X.H₀ H X.s₀.heap s.heap
 loc:∃ m,s.heap.Ns X.env.locals m/\∀(i:Nat)(x:Str)(v:V),X.N[i]?=some x->zzs[i]?=some (some v)->Vis X.env.scope x->∃ u,RelV v u/\Look X.env s.heap m x u
 cell:∀ x c,X.env.cells.lookup x=some c->∃ v,s.heap.IsCell c v
 free:H X.env.locals=none
 nJ:∀ x c,X.env.cells.lookup x=some c->H c=none
 pin:∀ p∈X.pn++pins,s.heap.get? p.1=some p.2/\H p.1=none/\p.1≠X.env.locals/\p.1∉X.fs/\∀ v,p.2.data≠.cell v
 hok:HOk X.prog X.w H s.heap
 len:zzs.length=X.N.length
section
variable{X:Cx}{pins:List (Addr×Obj)}{zzs:List (Option V)}{H H':Hp}{s:Shared}{h':Heap}
theorem Cx.Ok.a8J(ok:X.Ok){b:Addr}{o:Obj}(e:X.base.get? b=some o):b∉X.fs:=fun a=>by
 have:=(ok.yK.mem a).1;rw[e] at this;cases this
theorem Inv.bs(I:Inv X pins zzs H s):∀ b o,X.base.get? b=some o->s.heap.get? b=some o/\H b=none:=fun b o e=>
 ⟨I.base.keep b o (I.ok.bs b o e).1 (I.ok.bs b o e).2 (I.ok.a8J e) (I.ok.Wk b o e),I.base.free b o (I.ok.bs b o e).1 (I.ok.bs b o e).2 (I.ok.Wk b o e)⟩
theorem Inv.bk(I:Inv X pins zzs H s):∀ b o,X.base.get? b=some o->s.heap.get? b=some o:=fun b o e=>(I.bs b o e).1
theorem Inv.mod(I:Inv X pins zzs H s):Mod X.K X.mg X.base:=I.ok.mod
theorem Inv.kIn(I:Inv X pins zzs H s):X.K.In s.heap:=I.ok.mod.kin.keeps I.bk
theorem Inv.lt(I:Inv X pins zzs H s):X.env.locals<s.heap.objs.size:=let ⟨_,hn,_⟩:=I.loc;hn.lt
theorem Inv.sz(I:Inv X pins zzs H s):X.s₀.heap.objs.size<=s.heap.objs.size:=cU I.ok.above (Cw I.lt)
theorem Inv.a8K(I:Inv X pins zzs H s){a:Addr}(h:s.heap.objs.size<=a):a∉X.fs:=fun b=>by
 obtain⟨_,o,c,_⟩:=I.ok.yK.mem b;exact absurd (jw (bO c) (cU I.sz h)) (oX _)
theorem Inv.cne(I:Inv X pins zzs H s):∀ x c,X.env.cells.lookup x=some c->c≠X.env.locals:=fun x c e g=>by
 obtain⟨v,o,b,a⟩:=I.cell x c e;obtain⟨m,⟨o',es,h,f,d,_⟩,_⟩:=I.loc;rw[g,f] at b;cases b;rw[d] at a;cases a
theorem Inv.yK(I:Inv X pins zzs H s):s.heap.FunFrames X.base X.outer:=by
 have all:∀(l:List Env),(∀ b∈frs l,b∈X.fs)->X.s₀.heap.FunFrames X.base l->s.heap.FunFrames X.base l:=by
  intro l
  induction l with
  |nil=>intro _ _;trivial
  |cons t r p=>
   intro g j;obtain⟨i,⟨a,o,f,k,m,h⟩,n⟩:=j;have c:a∈X.fs:=g a (by unfold frs;rw[Rz,f];exact eF);obtain⟨u,e⟩:=I.base.slot a o m (I.ok.frf a c) c fun q=>I.ok.Yj a q c
   exact⟨i,⟨a,_,f,k,e,h⟩,p (fun b d=>g b (by unfold frs;rw[Rz,f];exact gk _ d)) n⟩
 exact all X.outer (fun _ d=>d) I.ok.yK
theorem Inv.stack(I:Inv X pins zzs H s):s.heap.FunFrames X.base X.stack:=by
 rcases I.ok.stk with e|⟨e,a⟩
 ·rw[e];exact I.yK
 ·rw[e];obtain⟨m,b,_⟩:=I.loc;refine .cons (by rw[I.ok.kind];decide) a b ?_ I.yK;exact Heap.get?_none_of_le (cU I.ok.bsz I.ok.above)
theorem Inv.xZ(I:Inv X pins zzs H s):∀ b∈frs X.stack,b∈X.env.locals::X.fs:=fun b a=>by
 rcases I.ok.stk with e|⟨e,c⟩
 ·rw[e] at a;exact gk _ a
 ·rw[e] at a;unfold frs at a;rw[Rz,c] at a;exact a
theorem Inv.zA(I:Inv X pins zzs H s):∀ b∈frs X.stack,H b=none:=fun b a=>by
 rcases dj.mp (I.xZ b a) with e|a
 ·rw[e];exact I.free
 ·obtain⟨_,o,c,_⟩:=I.ok.yK.mem a;exact I.base.free b o c (I.ok.frf b a) fun d=>I.ok.Yj b d a
theorem Inv.step{g':Array GenState}{t':Nat}{d':Drawn}{ch:List Addr}(I:Inv X pins zzs H s)
  (y:∀ b∈ch,(b∈X.ex\/X.s₀.heap.objs.size<=b)/\b≠X.env.locals/\(∀ x c,X.env.cells.lookup x=some c->c≠b)/\∀ p∈X.pn++pins,p.1≠b)
  (keep:∀ b o,b≠X.env.locals->b∉X.fs->b∉ch->s.heap.get? b=some o->H b=none->h'.get? b=some o)
  (N:∀ b o,b≠X.env.locals->b∈X.fs->b∉ch->s.heap.get? b=some o->H b=none->∃ E,h'.get? b=some { o with slots:=E }) (free:∀ b o,b∉ch->s.heap.get? b=some o->H b=none->H' b=none)
  (there:∀ b o,b∉ch->s.heap.get? b=some o->∃ A,h'.get? b=some A)
  (aa:∀ b xs,H b=some (.tup xs)->H' b=some (.tup xs)) (W:∀ b o u,H b=some (.frz o u)->H' b=some (.frz o u)) (Z:∀ b C,H b=some (.tbl C)->∃ more,H' b=some (.tbl (C++more)))
  (ns:∀ m,s.heap.Ns X.env.locals m->h'.Ns X.env.locals m) (S:HOk X.prog X.w H' h') (P:AllBare g') :
  Inv X pins zzs H' { s with heap:=h',gens:=g',drawn:=d',toks:=t' }:=by
 have L:∀ b o,X.s₀.heap.get? b=some o->b≠X.env.locals:=fun b o e=>dZ (jw (bO e) I.ok.above)
 have B:∀ b o,X.s₀.heap.get? b=some o->b∉X.ex->b∉ch:=fun b o e a h=>by
  rcases(y b h).1 with f|f
  ·exact a f
  ·exact absurd (jw (bO e) f) (oX _)
 have F:∀ x c,X.env.cells.lookup x=some c->∀ v,s.heap.IsCell c v->h'.IsCell c v:=fun x c e v ⟨o,j,D⟩=>by
  have z:c∉ch:=fun f=>(y c f).2.2.1 x c e rfl
  by_cases G:c∈X.fs
  ·obtain⟨E,q⟩:=N c o (I.cne x c e) G z j (I.nJ x c e);exact⟨_,q,D⟩
  ·exact⟨o,keep c o (I.cne x c e) G z j (I.nJ x c e),D⟩
 refine⟨I.ok,I.os,P,⟨fun b o e n h a=>?_,fun b o e n h a=>?_,fun b o e n a=>?_,fun b o e a=>?_,fun b xs e=>aa b xs (I.base.tups b xs e),fun b o xs e=>W b o xs (I.base.rK b o xs e),fun b C e=>?_⟩,?_,fun x c e=>?_,?_,fun x c e=>?_,fun p J=>?_,S,I.len⟩
 ·exact keep b o (L b o e) h (B b o e a) (I.base.keep b o e n h a) (I.base.free b o e n a)
 ·obtain⟨E,g⟩:=I.base.slot b o e n h a;obtain⟨Y,t⟩:=N b _ (L b o e) h (B b o e a) g (I.base.free b o e n a);exact⟨Y,t⟩
 ·obtain⟨A,g⟩:=I.base.there b o e a;exact free b A (B b o e a) g (I.base.free b o e n a)
 ·obtain⟨A,g⟩:=I.base.there b o e a;exact there b A (B b o e a) g
 ·obtain⟨T,g⟩:=I.base.tZ b C e;obtain⟨U,t⟩:=Z b _ g;exact⟨T++U,by rw[t,a1x]⟩
 ·obtain⟨m,R,Q⟩:=I.loc;refine⟨m,ns m R,fun i x v g t O=>?_⟩;obtain⟨u,r,l⟩:=Q i x v g t O;refine⟨u,r,?_⟩;rcases l with l|⟨k,c,e,f⟩
  ·exact .inl l
  ·exact .inr ⟨k,c,e,F x c e _ f⟩
 ·obtain⟨v,f⟩:=I.cell x c e;exact⟨v,F x c e v f⟩
 ·obtain⟨m,⟨o,_,_,j,_⟩,_⟩:=I.loc;exact free _ o (fun f=>(y _ f).2.1 rfl) j I.free
 ·obtain⟨v,o,j,D⟩:=I.cell x c e;exact free c o (fun f=>(y c f).2.2.1 x c e rfl) j (I.nJ x c e)
 ·obtain⟨e,n,K,M,d⟩:=I.pin p J;have z:p.1∉ch:=fun f=>(y p.1 f).2.2.2 p J rfl
  exact⟨keep p.1 p.2 K M z e n,free p.1 p.2 z e n,K,M,d⟩
theorem Inv.un{t':Nat}(I:Inv X pins zzs H s)(u:Un X.fs [] H H' s.heap h')(j:HOk X.prog X.w H' h'):Inv X pins zzs H' { s with heap:=h',toks:=t' }:=by
 obtain⟨m,⟨o,es,p,c,r⟩,_⟩:=id I.loc;obtain⟨t,h⟩:=u.any c I.free (by simp);exact I.step (g':=s.gens) (d':=s.drawn) (ch:=[]) (fun _ l=>nomatch l) (fun b o _ a _ e n=>u.keep b o e n a (by simp)) (fun b o _ a _ e n=>u.slot b o e n a (by simp)) (fun b o _ e n=>u.free b o e n (by simp)) (fun b o _ e=>u.there b o e (by simp)) u.tups u.rK u.tZ (fun q i=>by
  obtain⟨o',g,f,d,k⟩:=i;rw[c] at d;cases d;exact⟨_,g,f,h,k⟩) j I.bare
theorem Inv.call{g':Array GenState}{t':Nat}{d':Drawn}{ch:List Addr}(I:Inv X pins zzs H s)(u:Un (frs X.stack) ch H H' s.heap h')(v:HOk X.prog X.w H' h')(q:AllBare g')
  (g:∀ b∈ch,(b∈X.ex\/X.s₀.heap.objs.size<=b)/\b≠X.env.locals/\(∀ x c,X.env.cells.lookup x=some c->c≠b)/\∀ p∈X.pn++pins,p.1≠b) :
  Inv X pins zzs H' { s with heap:=h',gens:=g',drawn:=d',toks:=t' }:=by
 obtain⟨m,⟨o,es,z,h,r⟩,_⟩:=id I.loc;obtain⟨B,d⟩:=u.any h I.free fun f=>(g _ f).2.1 rfl
 exact I.step (ch:=ch) g (fun b o d l a e n=>u.keep b o e n (fun f=>(dj.mp (I.xZ b f)).elim d l) a) (fun b o _ _ a e n=>u.any e n a) (fun b o a e n=>u.free b o e n a) (fun b o a e=>u.there b o e a) u.tups u.rK u.tZ (fun A t=>by
  obtain⟨o',k,j,i,y⟩:=t;rw[h] at i;cases i;exact⟨_,k,j,d,y⟩) v q
theorem Inv.turned{t':Nat}{d:Addr}(I:Inv X pins zzs H s)(k:∀ b o,b≠d->s.heap.get? b=some o->h'.get? b=some o)(z:H d=none)(g:d≠X.env.locals)
  (j:d∈X.ex\/X.s₀.heap.objs.size<=d) (l:∀ x c,X.env.cells.lookup x=some c->c≠d) (t:∀ p∈X.pn++pins,p.1≠d):Inv X pins zzs H { s with heap:=h',toks:=t' }:=by
 have h:∀ b u,H b=some u->b≠d:=fun b u e a=>by rw[a,z] at e;cases e
 refine I.step (g':=s.gens) (d':=s.drawn) (ch:=[d]) (fun b w=>?_) (fun b o _ _ f e _=>k b o (fun a=>f (by simp[a])) e) (fun b o _ _ f e _=>⟨o.slots,k b o (fun a=>f (by simp[a])) e⟩) (fun _ _ _ _ n=>n)
  (fun b o f e=>⟨o,k b o (fun a=>f (by simp[a])) e⟩) (fun _ _ e=>e) (fun _ _ _ e=>e) (fun b ps e=>⟨#[],by rw[e];simp⟩) (fun m y=>?_) (fun b u e=>?_) I.bare
 ·have e:b=d:=by simpa using w
  subst e;exact⟨j,g,l,t⟩
 ·obtain⟨o,es,i,A,r⟩:=y;exact⟨o,es,i,k _ o (iR g) A,r⟩
 ·refine(I.hok b u e).stay (fun c v f q=>k c v ?_ q) (fun _ q=>q) fun _ _ q=>q
  rcases f with a|a
  ·rw[a];exact h b u e
  ·exact h c _ a
theorem Inv.tok(I:Inv X pins zzs H s)(t:Nat):Inv X pins zzs H { s with toks:=t }:=I.un (h':=s.heap) (t':=t) Un.refl I.hok
theorem Inv.kept{t':Nat}(I:Inv X pins zzs H s)(k:∀ b u,s.heap.get? b=some u->h'.get? b=some u):Inv X pins zzs H { s with heap:=h',toks:=t' }:=I.un (Un.kept k) (I.hok.kept k)
theorem Inv.laid{a:Addr}{o:HO}{t':Nat}(I:Inv X pins zzs H s)(k:∀ b u,s.heap.get? b=some u->h'.get? b=some u)(c:s.heap.objs.size<=a)(new:g8 X.prog X.w (upd H a o) h' a o) :
  Inv X pins zzs (upd H a o) { s with heap:=h',toks:=t' }:=I.un (Un.laid k c (I.hok.fresh c)) (I.hok.laid k c new)
theorem Inv.write{x e:Addr}{o:HO}{t':Nat}(I:Inv X pins zzs H s)(d:Mut (H x))(a:e=x\/H e=some (.own x))(k:∀ b u,b≠e->s.heap.get? b=some u->h'.get? b=some u)(c:∃ u,h'.get? e=some u)
  (new:g8 X.prog X.w (upd H x o) h' x o):Inv X pins zzs (upd H x o) { s with heap:=h',toks:=t' }:=I.un (Un.write d a k c) (I.hok.write d a k c new)
theorem Inv.yZ{a:List (Addr×Obj)}(I:Inv X pins zzs H s)(h:∀ p∈a,s.heap.get? p.1=some p.2/\H p.1=none/\p.1≠X.env.locals/\p.1∉X.fs/\∀ v,p.2.data≠.cell v):Inv X a zzs H s:=
 ⟨I.ok,I.os,I.bare,I.base,I.loc,I.cell,I.free,I.nJ,fun p b=>(dw.mp b).elim (fun c=>I.pin p (mJ _ c)) (h p),I.hok,I.len⟩
theorem O5{N:List Str}(e:N.Nodup){i j:Nat}{x:Str}(a:N[i]?=some x)(b:N[j]?=some x):i=j:=by
 obtain⟨h1,c⟩:=gO.mp a;obtain⟨h2,d⟩:=gO.mp b;exact(List.getElem_inj e).mp (c.trans d.symm)
theorem Jr{M:Model}{A:Around}{E:Value->Shared->Prop}{i:Nat}{x:Str}{v:V}{u:Value}{Q:Unit->Shared->Prop}(I:Inv X pins zzs H s)(ac:X.N.Nodup)(G:X.N[i]?=some x)(t:Loc X.env.scope x)(r:RelV v u)
  (h:∀ W,Inv X pins (zzs.set i (some v)) H W->(∃ a,Heap.SameBut a s.heap W.heap/\(a=X.env.locals\/X.env.cells.lookup x=some a))->Q () W) (am:X.fn x=true\/X.env.scope.names.lookup x=some .local:=by first|exact .inl rfl|exact .inr rfl|assumption):wpAny M A (storeName X.env x u) Q E s:=by
 obtain⟨m,R,ag⟩:=id I.loc;have al:(X.env.scope.kind==.class||(X.env.scope.kind==.module&&X.env.locals != X.env.globals))=false:=by rw[I.ok.kind];rfl
 have ab:i<zzs.length:=by rw[I.len];exact(gO.mp G).1
 have cne:=I.cne;have ai:∀ {a:Addr} {h':Heap},(∃ o,s.heap.get? a=some o/\H a=none)->Heap.SameBut a s.heap h'->HOk X.prog X.w H h':=fun {a h'} ak f b aq e=>by
  obtain⟨_,_,af⟩:=ak;refine(I.hok b aq e).stay (fun c L l q=>(f.2 c ?_).trans q) (fun _ q=>q) fun _ _ q=>q
  rintro rfl;rcases l with rfl|l
  ·rw[af] at e;cases e
  ·rw[af] at l;cases l
 rcases t with C|C
 ·refine wpAny_storeName_local C R (fun h' an f=>?_) al;obtain⟨ap,_,_,ao,_⟩:=id R;refine h _ ⟨I.ok,I.os,I.bare,⟨fun b o e n D t=>?_,fun b o e n D t=>?_,I.base.free,fun b o e t=>?_,I.base.tups,I.base.rK,I.base.tZ⟩,⟨_,an,fun j y aa g B O=>?_⟩,fun y c e=>?_,I.free,I.nJ,fun p S=>?_,ai ⟨ap,ao,I.free⟩ f,by simpa using I.len⟩ ⟨_,f,.inl rfl⟩
  ·exact(f.2 b (dZ (jw (bO e) I.ok.above))).trans (I.base.keep b o e n D t)
  ·obtain⟨Y,g⟩:=I.base.slot b o e n D t;exact⟨Y,(f.2 b (dZ (jw (bO e) I.ok.above))).trans g⟩
  ·obtain⟨o',g⟩:=I.base.there b o e t;exact⟨o',(f.2 b (dZ (jw (bO e) I.ok.above))).trans g⟩
  ·by_cases F:j=i
   ·subst F;rw[G] at g;cases g;rw[Rr ab] at B;cases B;exact⟨u,r,.inl ⟨C,by simp⟩⟩
   ·rw[a1p (iR F)] at B;obtain⟨Z,U,q⟩:=ag j y aa g B O;refine⟨Z,U,?_⟩;rcases q with⟨k,e⟩|⟨k,c,e,z⟩
    ·refine .inl ⟨k,?_⟩;have:y≠x:=fun e=>F (O5 ac g (e▸G))
     simp[this,e]
    ·exact .inr ⟨k,c,e,z.sameBut f (cne y c e)⟩
  ·obtain⟨L,z⟩:=I.cell y c e;exact⟨L,z.sameBut f (cne y c e)⟩
  ·obtain⟨e,n,K,T,d⟩:=I.pin p S;exact⟨(f.2 p.1 K).trans e,n,K,T,d⟩
 ·have P:X.fn x=true:=by
   rcases am with z|z
   ·exact z
   ·rw[z] at C;cases C
  obtain⟨c,l⟩:=I.ok.has x (.inl C);obtain⟨L,z⟩:=I.cell x c l;refine wpAny_storeName_cell I.ok.kind C l z (fun h' ad f=>?_);obtain⟨oc,ah,aj⟩:=id z;refine h { s with heap:=h' } ⟨I.ok,I.os,I.bare,⟨fun b o e n D t=>?_,fun b o e n D t=>?_,I.base.free,fun b o e t=>?_,I.base.tups,I.base.rK,I.base.tZ⟩,⟨m,R.sameBut f (iR (cne x c l)),fun j y aa g B O=>?_⟩,fun y J e=>?_,I.free,I.nJ,fun p S=>?_,ai ⟨oc,ah,I.nJ x c l⟩ f,by simpa using I.len⟩ ⟨c,f,.inr l⟩
  ·exact(f.2 b (dZ (jw (bO e) (I.ok.cab x c P l)))).trans (I.base.keep b o e n D t)
  ·obtain⟨Y,g⟩:=I.base.slot b o e n D t;exact⟨Y,(f.2 b (dZ (jw (bO e) (I.ok.cab x c P l)))).trans g⟩
  ·obtain⟨o',g⟩:=I.base.there b o e t;exact⟨o',(f.2 b (dZ (jw (bO e) (I.ok.cab x c P l)))).trans g⟩
  ·by_cases F:j=i
   ·subst F;rw[G] at g;cases g;rw[Rr ab] at B;cases B;exact⟨u,r,.inr ⟨.inl C,c,l,ad⟩⟩
   ·rw[a1p (iR F)] at B;obtain⟨Z,U,q⟩:=ag j y aa g B O;refine⟨Z,U,?_⟩;rcases q with q|⟨k,J,e,au⟩
    ·exact .inl q
    ·refine .inr ⟨k,J,e,au.sameBut f ?_⟩;rintro rfl;exact F (O5 ac g (I.ok.inj _ _ _ e l▸G))
  ·by_cases ae:J=c
   ·subst ae;exact⟨_,ad⟩
   ·obtain⟨as,av⟩:=I.cell y J e;exact⟨as,av.sameBut f ae⟩
  ·obtain⟨e,n,K,T,d⟩:=I.pin p S;refine⟨(f.2 p.1 ?_).trans e,n,K,T,d⟩;intro q;rw[q,ah] at e;have ar:oc=p.2:=iD e;exact d L (by rw[<- ar];exact aj)
theorem qM{M:Model}{A:Around}{E:Value->Shared->Prop}{i:Nat}{x:Str}{v:V}{u:Value}{Q:Unit->Shared->Prop}(I:Inv X pins zzs H s)(c:X.N.Nodup)(e:X.N[i]?=some x)(f:Loc X.env.scope x)(r:RelV v u)
  (h:∀ a,Inv X pins (zzs.set i (some v)) H a->Q () a) (d:X.fn x=true\/X.env.scope.names.lookup x=some .local:=by first|exact .inl rfl|exact .inr rfl|assumption):wpAny M A (storeName X.env x u) Q E s:=
 Jr I c e f r (fun a b _=>h a b) d
theorem Inv.call'{a:Shared}{ch:List Addr}(I:Inv X pins zzs H s)(i:a.os=s.os)(u:Un (frs X.stack) ch H H' s.heap a.heap)(j:HOk X.prog X.w H' a.heap)(h:AllBare a.gens)
  (g:∀ b∈ch,(b∈X.ex\/X.s₀.heap.objs.size<=b)/\b≠X.env.locals/\(∀ x c,X.env.cells.lookup x=some c->c≠b)/\∀ p∈X.pn++pins,p.1≠b):Inv X pins zzs H' a:=by
 obtain⟨h',f,d,k,o'⟩:=a;have e:o'=s.os:=i;subst e;exact I.call (g':=f) (t':=k) (d':=d) u j h g
end
abbrev XK:=Value->Option Addr->Hp->Prop
abbrev St:=List (Option V)
abbrev VK:=V->Hp->Prop
abbrev TE:=St->Hp->VK->Prop
abbrev TT:=St->Hp->(Bool->Hp->Prop)->Prop
abbrev TA:=St->Hp->(List V->Hp->Prop)->Prop
structure Ends where
 nx:St->Hp->Prop
 rt:VK
 bk:St->Hp->Prop:=fun _ _=>False
 ct:St->Hp->Prop:=fun _ _=>False
abbrev TS:=Ends->St->Hp->Prop
def EP(X:Cx)(pins:List (Addr×Obj))(zzs:St)(Q:VK)(u:Value)(s':Shared):Prop:=∃ v H',Inv X pins zzs H' s'/\RelV v u/\Q v H'
def TP(X:Cx)(pins:List (Addr×Obj))(zzs:St)(Q:Bool->Hp->Prop)(b:Bool)(s':Shared):Prop:=∃ H',Inv X pins zzs H' s'/\Q b H'
def AP(X:Cx)(pins:List (Addr×Obj))(zzs:St)(Q:List V->Hp->Prop)(us:List Value)(s':Shared):Prop:=∃ vs H',Inv X pins zzs H' s'/\Vals vs us/\Q vs H'
def SP(X:Cx)(pins:List (Addr×Obj))(D:Ends)(f:Flow)(s':Shared):Prop:=
 match f with
 |.next=>∃ bT H',Inv X pins bT H' s'/\D.nx bT H'
 |.brk=>∃ bT H',Inv X pins bT H' s'/\D.bk bT H'
 |.cont=>∃ bT H',Inv X pins bT H' s'/\D.ct bT H'
 |.ret u=>∃ v bT H',Inv X pins bT H' s'/\RelV v u/\D.rt v H'
def PE(X:Cx)(e:Expr)(t:TE):Prop:=
 ∀(pins:List (Addr×Obj))(s:Shared)(zzs:St)(H:Hp)(Q:VK),Inv X pins zzs H s->t zzs H Q->wpAny (model X.prog X.w) X.A (eval e X.env) (EP X pins zzs Q) X.xe s
def PT(X:Cx)(e:Expr)(t:TT):Prop:=
 ∀(pins:List (Addr×Obj))(s:Shared)(zzs:St)(H:Hp)(Q:Bool->Hp->Prop),Inv X pins zzs H s->t zzs H Q->wpAny (model X.prog X.w) X.A (isTrue e X.env (eval e X.env)) (TP X pins zzs Q) X.xe s
def PW(X:Cx)(e:Expr)(t:TT):Prop:=
 ∀(whole:Sem Value)(pins:List (Addr×Obj))(s:Shared)(zzs:St)(H:Hp)(Q:Bool->Hp->Prop),Inv X pins zzs H s->t zzs H Q->wpAny (model X.prog X.w) X.A (isTrue e X.env whole) (TP X pins zzs Q) X.xe s
theorem PW.pt{X:Cx}{e:Expr}{t:TT}(h:PW X e t):PT X e t:=h _
def PA(X:Cx)(es:List Expr)(t:TA):Prop:=
 ∀(pos:Pos)(pins:List (Addr×Obj))(s:Shared)(zzs:St)(H:Hp)(Q:List V->Hp->Prop),Inv X pins zzs H s->t zzs H Q->wpAny (model X.prog X.w) X.A (spliced (backTo pos (starEach es X.env))) (AP X pins zzs Q) X.xe s
def PS(X:Cx)(st:Stmt)(t:TS):Prop:=
 ∀(pins:List (Addr×Obj))(s:Shared)(zzs:St)(H:Hp)(D:Ends),Inv X pins zzs H s->t D zzs H->wpAny (model X.prog X.w) X.A (exec st X.env) (SP X pins D) X.xe s
def PSs(X:Cx)(st:List Stmt)(t:TS):Prop:=
 ∀(pins:List (Addr×Obj))(s:Shared)(zzs:St)(H:Hp)(D:Ends),Inv X pins zzs H s->t D zzs H->wpAny (model X.prog X.w) X.A (execs st X.env) (SP X pins D) X.xe s
theorem thn{c:Type}{t:Sem c}{Q b:c->Shared->Prop}{M:Model}{A:Around}{E:Value->Shared->Prop}{s:Shared}(h:wpAny M A t Q E s)(d:∀ a s,Q a s->b a s):wpAny M A t b E s:=jy h d fun _ _ x=>x
section
variable{X:Cx}
def a8b(i:Nat):TE:=fun zzs H Q=>∃ v,zzs[i]?=some (some v)/\Q v H
def tC(v:V):TE:=fun _ H Q=>Q v H
theorem a6d{i:Nat}{x:Str}{pos:Pos}(g:X.N[i]?=some x)(p:Vis X.env.scope x) (b:(x==("__debug__" : Str))=false:=by decide) (j:(x==("__classdict__" : Str))=false:=by decide):PE X (.Name x pos) (a8b i):=by
 intro pins s zzs H Q I h;obtain⟨v,e,h⟩:=h;obtain⟨m,o,k⟩:=I.loc;obtain⟨u,r,l⟩:=k i x v g e p;have fin:EP X pins zzs Q u s:=⟨v,H,I,r,h⟩
 rcases l with⟨a,n⟩|⟨a,c,d,f⟩
 ·exact wpAny_Name (wpAny_loadName_local I.ok.kind a o n fin) b
 ·rcases a with a|a
  ·exact wpAny_Name (wpAny_loadName_cell I.ok.kind a d f fin) b
  ·exact wpAny_Name (wpAny_loadName_free I.ok.kind a d f fin j) b
theorem a66 {i j pos}:PE X (.Constant (.int i) j pos) (tC (.int i)):=fun _ _ _ H _ I h=>wpAny_Constant_int ⟨.int i,H,I.tok _,⟨_,rfl⟩,h⟩
theorem a7B {b j pos}:PE X (.Constant (.bool b) j pos) (tC (.bl b)):=fun _ _ _ H _ I h=>Constant_bool ⟨.bl b,H,I,rfl,h⟩
theorem a68 {j pos}:PE X (.Constant .none j pos) (tC .non):=fun _ _ _ H _ I h=>Constant_none ⟨.non,H,I,rfl,h⟩
theorem a6b {x j pos}:PE X (.Constant (.str x) j pos) (tC (.str x)):=fun _ _ _ H _ I h=>Calls.Constant_str ⟨.str x,H,I.tok _,⟨_,rfl⟩,h⟩
def Gl(X:Cx)(x:Str):Prop:=X.env.kindOf x=some .globalImplicit
theorem vU{E:Value->Shared->Prop}{d:List (Addr×Obj)}{s:Shared}{zzs:St}{H:Hp}{x:Str}{u:Value}{pos:Pos}{Q:Value->Shared->Prop}(I:Inv X d zzs H s)(b:Gl X x)(c:X.mg x=some u)(h:Q u s)
  (a:(x==("__debug__" : Str))=false:=by decide):wpAny (model X.prog X.w) X.A (eval (.Name x pos) X.env) Q E s:=
 a0T I.ok.kind b (Calls.loadGlobal_global (by rw[I.ok.glob];exact I.mod.glob.keeps I.bk) c h) a
theorem xG{E:Value->Shared->Prop}{f:List (Addr×Obj)}{s:Shared}{zzs:St}{H:Hp}{x:Str}{u:Value}{pos:Pos}{Q:Value->Shared->Prop}(I:Inv X f zzs H s)(b:Gl X x)(c:X.mg x=none)(e:bootBuiltins x=some u)(h:Q u s)
  (d:x ≠ "__name__":=by decide) (a:(x==("__debug__" : Str))=false:=by decide):wpAny (model X.prog X.w) X.A (eval (.Name x pos) X.env) Q E s:=by
 obtain⟨g,h1,h2⟩:=I.mod.blt;exact a0T I.ok.kind b (Calls.loadGlobal_builtin (by rw[I.ok.glob];exact I.mod.glob.keeps I.bk) c (by rw[I.ok.blt];exact h1.keeps I.bk) ((h2 x d).trans e) h) a
theorem Kg{x:Str}{v:V}{u:Value}{pos:Pos}(b:Gl X x)(c:X.mg x=some u)(r:RelV v u) (a:(x==("__debug__" : Str))=false:=by decide):PE X (.Name x pos) (tC v):=
 fun _ _ _ H _ I h=>vU I b c ⟨v,H,I,r,h⟩ a
theorem a2H{x:Str}{v:V}{u:Value}{pos:Pos}(b:Gl X x)(c:X.mg x=none)(e:bootBuiltins x=some u)(r:RelV v u) (d:x ≠ "__name__":=by decide) (a:(x==("__debug__" : Str))=false:=by decide):PE X (.Name x pos) (tC v):=
 fun _ _ _ H _ I h=>xG I b c e ⟨v,H,I,r,h⟩ d a
variable{a b:Expr}{ta tb:TE}{pos:Pos}
def tB(t:TE):TT:=fun zzs H Q=>t zzs H fun x H1=>∃ c,x=.bl c/\Q c H1
theorem a6q{e:Expr}{t:TE}(h:PE X e t)(c:∀ a,isTrue e X.env a=(do let v <- a;standAt e.pos;holding [v] (truthy v)):=by intro _;rfl):PT X e (tB t):=by
 intro pins s zzs H Q I hw;refine isTrue_plain (thn (h pins s zzs H _ I hw) fun v s1 i=>?_) (c _);obtain⟨x,H1,b,g,f⟩:=i;obtain⟨d,rfl,q⟩:=f;cases g;exact wQ ⟨H1,b,q⟩
variable{tA tB':TT}{rest:List Expr}
def a84(t u:TT):TT:=fun zzs H Q=>t zzs H fun c H1=>if c=true then u zzs H1 Q else Q false H1
def tOr(t u:TT):TT:=fun zzs H Q=>t zzs H fun c H1=>if c=true then Q true H1 else u zzs H1 Q
def a87(t:TT):TT:=fun zzs H Q=>t zzs H fun c H1=>Q (!c) H1
theorem pw_and1(b:PT X a tA):PW X (.BoolOp .And [a] pos) tA:=by
 intro d pins s zzs H Q I h;refine isTrue_and (thn (b pins s zzs H Q I h) fun c s1 e=>?_);cases c with
 |true=>exact isTrue_and_nil e
 |false=>exact e
theorem pw_or1(b:PT X a tA):PW X (.BoolOp .Or [a] pos) tA:=by
 intro d pins s zzs H Q I h;refine isTrue_or (thn (b pins s zzs H Q I h) fun c s1 e=>?_);cases c with
 |false=>exact isTrue_or_nil e
 |true=>exact e
theorem pw_and(f:PT X a tA)(g:PW X (.BoolOp .And (b::rest) pos) tB'):PW X (.BoolOp .And (a::b::rest) pos) (a84 tA tB'):=by
 intro i pins s zzs H Q I h;refine isTrue_and (thn (f pins s zzs H _ I h) fun c s1 j=>?_);obtain⟨H1,d,e⟩:=j;cases c with
 |true=>exact g i pins s1 zzs H1 Q d e
 |false=>exact⟨H1,d,e⟩
theorem pw_or(f:PT X a tA)(g:PW X (.BoolOp .Or (b::rest) pos) tB'):PW X (.BoolOp .Or (a::b::rest) pos) (tOr tA tB'):=by
 intro i pins s zzs H Q I h;refine isTrue_or (thn (f pins s zzs H _ I h) fun c s1 j=>?_);obtain⟨H1,d,e⟩:=j;cases c with
 |true=>exact⟨H1,d,e⟩
 |false=>exact g i pins s1 zzs H1 Q d e
theorem a6p(b:PT X a tA):PT X (.UnaryOp .Not a pos) (a87 tA):=by
 intro pins s zzs H Q I h;exact isTrue_not (b pins s zzs H (fun c H1=>Q (!c) H1) I h)
def a4y(ta tb:TE):TE:=fun zzs H Q=>ta zzs H fun x H1=>∃ c,x=.bl c/\if c=true then tb zzs H1 Q else Q (.bl false) H1
def a4D(ta:TE):TE:=fun zzs H Q=>ta zzs H fun x H1=>∃ c,x=.bl c/\Q (.bl (!c)) H1
theorem a6a {op} {t:TE} (h:PE X a t):PE X (.BoolOp op [a] pos) t:=fun pins s zzs H Q I hw=>BoolOp_one (h pins s zzs H Q I hw)
theorem a5X(f:PE X a ta)(g:PE X (.BoolOp .And (b::rest) pos) tb):PE X (.BoolOp .And (a::b::rest) pos) (a4y ta tb):=by
 intro pins s zzs H Q I h;refine BoolOp_and (thn (f pins s zzs H _ I h) fun v s1 j=>?_);obtain⟨x,H1,e,i,d⟩:=j;obtain⟨c,rfl,d⟩:=d;cases i;refine wQ ?_;cases c with
 |true=>exact g pins s1 zzs H1 Q e d
 |false=>exact⟨.bl false,H1,e,rfl,d⟩
theorem a69(e:PE X a ta):PE X (.UnaryOp .Not a pos) (a4D ta):=by
 intro pins s zzs H Q I h;refine UnaryOp_ (thn (e pins s zzs H _ I h) fun v s1 g=>?_);obtain⟨x,H1,d,f,b⟩:=g;obtain⟨c,rfl,b⟩:=b;cases f;exact not_of (wQ ⟨.bl (!c),H1,d,rfl,b⟩)
end
def SqL(K:ao)(H:Hp)(a:Addr)(xs:List V):Prop:=
 Rd H a (.lst xs) \/
  ∃(o:Obj)(its:Array Value)(n:Nat),K.lookup a=some o/\o.cls=.type "list" /\ o.dict=none/\o.data=.seq its n/\its.size<=sizeLine/\Vals xs its.toList
def SqT(K:ao)(H:Hp)(a:Addr)(xs:List V):Prop:=
 Rd H a (.tup xs) \/
  ∃(o:Obj)(its:Array Value)(n:Nat),K.lookup a=some o/\o.cls=.type "tuple" /\ o.data=.seq its n/\its.size<=sizeLine/\Vals xs its.toList
def a8p:Value->Option V
 |.none=>some .non
 |.bool b=>some (.bl b)
 |.int i _=>some (.int i)
 |.str x _=>some (.str x)
 |.bytes b _=>some (.byt b)
 |.float b _=>some (.flt b)
 |.ref a=>some (.ref a)
 |.type n=>some (.ty n)
 |_=>none
theorem RelV.abs{x:V}{u:Value}(r:RelV x u):a8p u=some x:=by
 cases x with
 |non=>cases r;rfl
 |bl _=>cases r;rfl
 |int _=>obtain⟨t,rfl⟩:=r;rfl
 |str _=>obtain⟨t,rfl⟩:=r;rfl
 |byt _=>obtain⟨t,rfl⟩:=r;rfl
 |flt _=>obtain⟨t,rfl⟩:=r;rfl
 |ref _=>cases r;rfl
 |ty _=>cases r;rfl
theorem RelV.inj{x y:V}{u:Value}(r:RelV x u)(q:RelV y u):x=y:=iD (r.abs.symm.trans q.abs)
theorem Vals.inj:∀ {xs a:List V} {us:List Value},Vals xs us->Vals a us->xs=a:=by
 intro xs a us h
 induction h generalizing a with
 |nil=>intro h;cases h;rfl
 |cons r _ b=>intro h;cases h with|cons c d=>rw[r.inj c,b d]
section
variable{X:Cx}{pins:List (Addr×Obj)}{zzs:St}{H:Hp}{s:Shared}{a:Addr}{xs ys:List V}
theorem SqL.of{K:ao}(h:H a=some (.lst xs)):SqL K H a xs:=.inl (.inl h)
theorem SqT.of{K:ao}(h:H a=some (.tup xs)):SqT K H a xs:=.inl (.inl h)
theorem Inv.list(I:Inv X pins zzs H s)(h:SqL X.K H a xs):∃ b:List Value,Vals xs b/\PlainL s.heap a b.toArray/\xs.length<=sizeLine:=by
 rcases h with h|⟨o,b,n,f,c,d,g,j,r⟩
 ·obtain⟨i,b,n,r,e⟩:=h.ok I.hok;exact⟨b,r,⟨_,n,e,rfl,rfl,rfl⟩,i⟩
 ·refine⟨b.toList,r,⟨o,n,I.kIn a o f,c,d,by simpa using g⟩,?_⟩;have e:=r.length;simp only[fu] at e;lia
theorem Inv.tuple(I:Inv X pins zzs H s)(h:SqT X.K H a xs):∃ b:List Value,Vals xs b/\IsTup s.heap a b.toArray/\xs.length<=sizeLine:=by
 rcases h with h|⟨o,b,n,d,c,f,i,r⟩
 ·obtain⟨g,b,r,p⟩:=h.ok I.hok;exact⟨b,r,p,g⟩
 ·refine⟨b.toList,r,⟨o,I.kIn a o d,c,n,by simpa using f⟩,?_⟩;have e:=r.length;simp only[fu] at e;lia
theorem Inv.Fz(I:Inv X pins zzs H s)(h:SqL X.K H a xs)(h':SqL X.K H a ys):xs=ys:=by
 obtain⟨f,r,⟨o,n,e,_,_,d⟩,_⟩:=I.list h;obtain⟨g,i,⟨o',j,c,_,_,b⟩,_⟩:=I.list h';rw[e] at c;cases c;rw[d] at b;injection b with d1 _;have:f=g:=by simpa using congrArg Array.toList d1
 subst this;exact r.inj i
theorem Inv.Xh(I:Inv X pins zzs H s)(h:SqT X.K H a xs)(h':SqT X.K H a ys):xs=ys:=by
 obtain⟨f,r,⟨o,e,_,n,d⟩,_⟩:=I.tuple h;obtain⟨g,i,⟨o',c,_,j,b⟩,_⟩:=I.tuple h';rw[e] at c;cases c;rw[d] at b;injection b with d1 _;have:f=g:=by simpa using congrArg Array.toList d1
 subst this;exact r.inj i
end
abbrev Cx.wish(X:Cx)(E:Value->Shared->Prop):Cx:={ X with xe:=E }
abbrev Cx.nox(X:Cx):Cx:=X.wish fun _ _=>False
theorem Cx.Ok.wish{X:Cx}(ok:X.Ok)(E:Value->Shared->Prop):(X.wish E).Ok:=
 ⟨ok.mod,ok.kind,ok.glob,ok.blt,ok.above,ok.inj,ok.has,ok.cab,ok.hd,ok.frames,ok.stk,ok.exf,ok.bs,ok.bsz,ok.Wk,ok.Yj,ok.yK,ok.frf⟩
theorem Cx.Ok.nC{X:Cx}{E:Value->Shared->Prop}(ok:(X.wish E).Ok):X.Ok:=
 ⟨ok.mod,ok.kind,ok.glob,ok.blt,ok.above,ok.inj,ok.has,ok.cab,ok.hd,ok.frames,ok.stk,ok.exf,ok.bs,ok.bsz,ok.Wk,ok.Yj,ok.yK,ok.frf⟩
section
variable{X:Cx}{pins:List (Addr×Obj)}{zzs:St}{H:Hp}{s:Shared}{E:Value->Shared->Prop}
theorem Inv.wish(I:Inv X pins zzs H s)(E:Value->Shared->Prop):Inv (X.wish E) pins zzs H s:=⟨I.ok.wish E,I.os,I.bare,I.base,I.loc,I.cell,I.free,I.nJ,I.pin,I.hok,I.len⟩
theorem Inv.nC(I:Inv (X.wish E) pins zzs H s):Inv X pins zzs H s:=⟨I.ok.nC,I.os,I.bare,I.base,I.loc,I.cell,I.free,I.nJ,I.pin,I.hok,I.len⟩
theorem SP.nC{b:Ends}{f:Flow}{c:Shared}(h:SP (X.wish E) pins b f c):SP X pins b f c:=by
 cases f with
 |next=>obtain⟨a,H',I,q⟩:=h;exact⟨a,H',I.nC,q⟩
 |brk=>obtain⟨a,H',I,q⟩:=h;exact⟨a,H',I.nC,q⟩
 |cont=>obtain⟨a,H',I,q⟩:=h;exact⟨a,H',I.nC,q⟩
 |ret u=>obtain⟨v,a,H',I,r,q⟩:=h;exact⟨v,a,H',I.nC,r,q⟩
theorem PT.nox{e:Expr}{t:TT}(h:PT X.nox e t):PT X e t:=fun pins s zzs H Q I hw=>
 jy (h pins s zzs H Q (I.wish _) hw) (fun _ _ ⟨H',a,q⟩=>⟨H',a.nC,q⟩) fun _ _ b=>False.elim b
theorem PSs.nox{st:List Stmt}{t:TS}(h:PSs X.nox st t):PSs X st t:=fun pins s zzs H a I hw=>
 jy (h pins s zzs H a (I.wish _) hw) (fun _ _ q=>q.nC) fun _ _ b=>False.elim b
end
section
variable{X:Cx}{st:Stmt}{rest:List Stmt}{t u:TS}{e:Expr}{te:TE}{pos:Pos}
def a4C:TS:=fun D zzs H=>D.nx zzs H
def a6O(t u:TS):TS:=fun D zzs H=>t { D with nx:=u D } zzs H
theorem a3d:PSs X [] a4C:=fun _ _ zzs H _ I h=>GZ ⟨zzs,H,I,h⟩
theorem Zx(d:PS X st t)(e:PSs X rest u):PSs X (st::rest) (a6O t u):=by
 intro pins s zzs H a I h;refine S8 (thn (d pins s zzs H { a with nx:=u a } I h) fun f s1 q=>?_);cases f with
 |next=>
  obtain⟨c,H',b,q⟩:=q;exact e pins s1 c H' a b q
 |ret v=>exact q
 |brk=>exact q
 |cont=>exact q
theorem a3e(b:PS X st t):PSs X [st] t:=by
 intro pins s zzs H a I h;refine S8 (thn (b pins s zzs H a I h) fun f s1 q=>?_);cases f with
 |next=>exact GZ q
 |ret v=>exact q
 |brk=>exact q
 |cont=>exact q
theorem Inv.quiet{a:List (Addr×Obj)}{zzs:St}{H:Hp}{s:Shared}(I:Inv X a zzs H s):interactive X.env=false:=by simp[interactive,I.ok.kind]
def a4B(te:TE):TS:=fun D zzs H=>te zzs H fun _ H1=>D.nx zzs H1
theorem a3c(b:PE X e te)(c:swapsWith e none pos.line X.env=pure false:=by rfl):PS X (.Expr e pos) (a4B te):=by
 intro pins s zzs H f I h;exact wpAny_Expr_any (thn (b pins s zzs H _ I h) fun v s1 ⟨x,H1,a,g,d⟩=>⟨zzs,H1,a,d⟩) I.quiet c
def a89(te:TE):TS:=fun D zzs H=>te zzs H D.rt
theorem a6n(b:PE X e te):PS X (.Return (some e) pos) (a89 te):=by
 intro pins s zzs H f I h;exact wpAny_Return_some (thn (b pins s zzs H _ I h) fun v s1 ⟨x,H1,a,d,c⟩=>⟨x,zzs,H1,a,d,c⟩)
def a85(c:TT)(t u:TS):TS:=fun D zzs H=>c zzs H fun b H1=>if b=true then t D zzs H1 else u D zzs H1
theorem a7K{c:Expr}{a b:List Stmt}{i:TT}(l:PT X c i)(j:PSs X a t)(k:PSs X b u):PS X (.If c a b pos) (a85 i t u):=by
 intro pins s zzs H e I h;refine wpAny_If (thn (l pins s zzs H _ I h) fun d s1 m=>?_);obtain⟨H1,f,g⟩:=m;cases d with
 |true=>exact j pins s1 zzs H1 e f g
 |false=>exact k pins s1 zzs H1 e f g
end
abbrev TG:=V->St->Hp->(St->Hp->Prop)->Prop
abbrev TGs:=List V->St->Hp->(St->Hp->Prop)->Prop
def PG(X:Cx)(target:Expr)(t:TG):Prop:=
 ∀(pins:List (Addr×Obj))(s:Shared)(zzs:St)(H:Hp)(v:V)(u:Value)(Q:St->Hp->Prop),Inv X pins zzs H s->RelV v u->t v zzs H Q ->
  wpAny (model X.prog X.w) X.A (assign target X.env u) (fun _ s'=>∃ bT H',Inv X pins bT H' s'/\Q bT H') X.xe s
def PGs(X:Cx)(ts:List Expr)(t:TGs):Prop:=
 ∀(pins:List (Addr×Obj))(s:Shared)(zzs:St)(H:Hp)(vs:List V)(us:List Value)(Q:St->Hp->Prop),Inv X pins zzs H s->Vals vs us->t vs zzs H Q ->
  wpAny (model X.prog X.w) X.A (assignInOrder ((assignEach ts X.env).map (·.2)) us) (fun _ s'=>∃ bT H',Inv X pins bT H' s'/\Q bT H') X.xe s
abbrev Vi:=V->V->V->Hp->(Hp->Prop)->Prop
def Xo(X:Cx)(t:Vi):Prop:=
 ∀(pins:List (Addr×Obj))(s:Shared)(zzs:St)(H:Hp)(o i v:V)(ov iv u:Value)(Q:Hp->Prop),Inv X pins zzs H s->RelV o ov->RelV i iv->RelV v u->t o i v H Q ->
  wpAny (model X.prog X.w) X.A (setItem ov iv u) (fun _ s'=>∃ H',Inv X pins zzs H' s'/\Q H') X.xe s
abbrev TIp:=V->V->Hp->VK->Prop
def PIp(X:Cx)(op:Operator)(t:TIp):Prop:=
 ∀(pins:List (Addr×Obj))(s:Shared)(zzs:St)(H:Hp)(x y:V)(v u:Value)(Q:VK),Inv X pins zzs H s->RelV x v->RelV y u->t x y H Q ->
  wpAny (model X.prog X.w) X.A (inplaceOp op v u) (EP X pins zzs Q) X.xe s
section
variable{X:Cx}{pos:Pos}
def Fv(i:Nat):TG:=fun v zzs H Q=>Q (zzs.set i (some v)) H
theorem a2P{i:Nat}{x:Str}(b:X.N.Nodup)(d:X.N[i]?=some x)(e:Loc X.env.scope x)(c:X.fn x=true\/X.env.scope.names.lookup x=some .local:=by first|exact .inl rfl|exact .inr rfl|assumption):PG X (.Name x pos) (Fv i):=by
 intro pins s zzs H v u Q I r h;exact RP (qM I b d e r (fun s' a=>⟨_,H,a,h⟩) c)
def a5h:TGs:=fun vs zzs H Q=>vs=[]/\Q zzs H
def U3(t:TG)(u:TGs):TGs:=fun vs zzs H Q=>∃ v r,vs=v::r/\t v zzs H fun bT H'=>u r bT H' Q
theorem a2Q:PGs X [] a5h:=by
 intro pins s zzs H b a Q I r h;obtain⟨e,h⟩:=h;subst e;cases r;exact assignInOrder_nil ⟨zzs,H,I,h⟩
theorem Zo{e:Expr}{a:List Expr}{t:TG}{u:TGs}(f:PG X e t)(g:PGs X a u)
  (i:(assignEach (e::a) X.env).map (·.2)=assign e X.env::(assignEach a X.env).map (·.2):=by rfl):PGs X (e::a) (U3 t u):=by
 intro pins s zzs H o m Q I r h;obtain⟨v,n,d,h⟩:=h;subst d;cases r with
 |cons r k=>
  rw[i];refine RJ (thn (f pins s zzs H _ _ _ I r h) fun _ s1 l=>?_);obtain⟨c,H1,b,j⟩:=l;exact g pins s1 c H1 _ _ Q b k j
def a5i(K:ao)(n:Nat)(t:TGs):TG:=fun v zzs H Q=>∃ a xs,v=.ref a/\SqT K H a xs/\xs.length=n/\t xs zzs H Q
theorem a6f{c:List Expr}{k:Nat}{t:TGs}{n:Nat}(g:X.calm=true)(h:PGs X c t)
  (j:(assignEach c X.env).length=n:=by rfl) (m:(assignEach c X.env).findIdx? (·.1)=none:=by rfl):PG X (.Tuple c k pos) (a5i X.K n t):=by
 intro pins s zzs H v u Q I r hw;obtain⟨a,xs,f,l,i,hw⟩:=hw;subst f;cases r;obtain⟨x,rv,p,w⟩:=I.tuple l;refine assign_Tuple_tuple (I.ok.hd g) p (by simp[j,<- i,rv.length]) m fun h' q=>?_
 have d:Inv X pins zzs H { s with heap:=h' }:=I.kept (t':=s.toks) fun b o e=>q b o (dZ (bO e)) e
 exact h pins _ zzs H xs _ Q d (by simpa using rv) hw
def a7j(to ti:TE)(t:Vi):TG:=fun v zzs H Q=>to zzs H fun o H1=>ti zzs H1 fun i H2=>t o i v H2 fun H3=>Q zzs H3
theorem a6e{o i:Expr}{to d:TE}{t:Vi}(m:PE X o to)(l:PE X i d)(n:Xo X t)
  (k:∀ v,assign (.Subscript o i pos) X.env v=(do
   let a <- holding [v] (eval o X.env)
   let b <- holding [v,a] (eval i X.env)
   standAt pos
   holding [v,a,b] (setItem a b v)
   release [v,a,b] []):=by intro _;rfl):PG X (.Subscript o i pos) (a7j to d t):=by
 intro pins s zzs H v u Q I r h;rw[k];refine aR (qU (thn (m pins s zzs H _ I h) fun a s1 c=>?_));obtain⟨x,H1,f,z,p⟩:=c;refine aR (qU (thn (l pins s1 zzs H1 _ f p) fun b s2 c=>?_));obtain⟨y,H2,g,A,q⟩:=c;refine aR (Hl (aR (qU (thn (n pins s2 zzs H2 x y v a b u _ g z A r q) fun _ B c=>?_))));obtain⟨e,j,w⟩:=c;exact wpAny_release ⟨zzs,e,j,w⟩
def a0r(te:TE)(g:TG):TS:=fun D zzs H=>te zzs H fun x H1=>g x zzs H1 D.nx
theorem a6j{a e:Expr}{b:TE}{g:TG}(f:PE X e b)(i:PG X a g)(j:swapsWithSole [a] e pos.line X.env=pure false:=by rfl)(hw:swappedStores [a] e X.env=pure none:=by rfl)
  (d:(assignEach [a] X.env).map (·.2)=[assign a X.env]:=by rfl):PS X (.Assign [a] e pos) (a0r b g):=by
 intro pins s zzs H n I h;refine wpAny_Assign_stores (thn (f pins s zzs H _ I h) fun v s1 m=>?_) j hw;obtain⟨x,H1,c,l,k⟩:=m;rw[d];exact thn (i pins s1 zzs H1 x v _ c l k) fun _ s2 q=>q
theorem Zu{i:Nat}{x:Str}{e:Expr}{b:TE}{a:Pos}(f:X.N.Nodup)(k:X.N[i]?=some x)(m:Loc X.env.scope x)(g:PE X e b)(l:swapsWith e (some (.Name x a)) pos.line X.env=pure false:=by rfl)(j:X.fn x=true\/X.env.scope.names.lookup x=some .local:=by first|exact .inl rfl|exact .inr rfl|assumption) :
  PS X (.Assign [.Name x a] e pos) (a0r b (Fv i)):=by
 intro pins s zzs H q I h;refine wpAny_Assign_Name (thn (g pins s zzs H _ I h) fun v s1 p=>?_) l;obtain⟨y,H1,c,o,n⟩:=p;exact qM c f k m o (fun s2 d=>⟨_,H1,d,n⟩) j
def a88(i j:Nat)(ta:TA):TS:=fun D zzs H=>ta zzs H fun vs H1=>∃ v w,vs=[v,w]/\D.nx ((zzs.set i (some v)).set j (some w)) H1
theorem a6m{i j:Nat}{x y:Str}{a b:Expr}{t:TA}{f g pt:Pos} {kt k2 pt2} (F:X.calm=true) (m:X.N.Nodup) (G:X.N[i]?=some x) (K:X.N[j]?=some y) (J:i≠j)
  (n:X.env.scope.names.lookup x=some .local) (r:X.env.scope.names.lookup y=some .local) (E:PA X [a,b] t)
  (hw:swappedStores [.Tuple [.Name x f,.Name y g] kt pt] (.Tuple [a,b] k2 pt2) X.env=pure (some [x,y]))
  (L:swapsWithSole [.Tuple [.Name x f,.Name y g] kt pt] (.Tuple [a,b] k2 pt2) pos.line X.env=pure false:=by rfl) :
  PS X (.Assign [.Tuple [.Name x f,.Name y g] kt pt] (.Tuple [a,b] k2 pt2) pos) (a88 i j t):=by
 intro pins s zzs H W I h;rw[exec_Assign_arm];refine aR (Hl ?_);rw[L];refine aR (bN ?_);rw[aJ (by decide)];refine aR (Tuple_ (thn (E _ pins s zzs H _ I h) fun T s1 U=>?_));obtain⟨Z,H1,u,R,k⟩:=U;obtain⟨v,w,D,k⟩:=k;subst D;obtain⟨c,d,rfl,rv,S⟩:∃ c d,T=[c,d]/\RelV v c/\RelV w d:=by
  cases R with
  |cons p q=>
   cases q with
   |cons P Q=>
    cases Q;exact⟨_,_,rfl,p,P⟩
 refine vf ?_ (by show 2<=sizeLine;decide);have z:Inv X pins zzs H1 { s1 with heap:=s1.heap.push { cls:=.type "tuple",data:=.seq [c,d].toArray } }:=u.kept (t':=s1.toks) fun b o e=>fj _ e
 rw[hw];refine aR (bN ?_);show wpAny (model X.prog X.w) X.A (do rule "assign.swapped-stores";let O <- unpackItems (.ref s1.heap.objs.size) 2 none;assignInOrder [fun v=>bindName X.env y v,fun v=>bindName X.env x v] O.reverse;pure Flow.next) _ _ _;refine aR (lA (aR (unpackItems_tuple (items:=#[c,d]) (I.ok.hd F) (IsTup.new s1.heap _) fun h' M=>?_)));have B:=z.kept (h':=h') (t':=s1.toks) fun b o e=>M b o (dZ (bO e)) e
 show wpAny _ _ (assignInOrder [fun v=>bindName X.env y v,fun v=>bindName X.env x v] [d,c] >>= fun _=>pure Flow.next) _ _ _;refine aR (RJ (wpAny_bindName (qM B m K (.inl r) S (fun s2 C=>?_) (.inr r))));refine RJ (wpAny_bindName (qM C m G (.inl n) rv (fun Y l=>assignInOrder_nil (bN ?_)) (.inr n)));rw[List.set_comm _ _ (iR J)] at l;exact⟨_,H1,l,k⟩
def a4z(to ti te:TE)(a3M:V->V->Hp->VK->Prop)(tip:TIp)(a3O:Vi):TS:=fun D zzs H=>to zzs H fun o H1=>ti zzs H1 fun i H2=>a3M o i H2 fun x H3=>te zzs H3 fun y H4=>tip x y H4 fun z H5=>a3O o i z H5 fun H6=>D.nx zzs H6
def a72(X:Cx)(t:V->V->Hp->VK->Prop):Prop:=
 ∀(pins:List (Addr×Obj))(s:Shared)(zzs:St)(H:Hp)(o i:V)(ov iv:Value)(Q:VK),Inv X pins zzs H s->RelV o ov->RelV i iv->t o i H Q ->
  wpAny (model X.prog X.w) X.A (getItem ov iv) (EP X pins zzs Q) X.xe s
theorem a3a{o i e:Expr}{to l k:TE}{d:V->V->Hp->VK->Prop}{m:TIp}{f:Vi}{op:Operator}{aa:Pos}(G:PE X o to)(F:PE X i l)(E:a72 X d)(D:PE X e k)(J:PIp X op m)(K:Xo X f)
  (C:∀ c b new,augStore i c b new=(do holding [new,c,b] (setItem c b new);release [new,c,b] [];pure .next):=by intros;rfl):PS X (.AugAssign (.Subscript o i aa) op e pos) (a4z to l k d m f):=by
 intro pins s zzs H ae I h;refine wpAny_AugAssign_SubscriptAny (thn (G pins s zzs H _ I h) fun c s1 a=>?_) C;obtain⟨n,H1,w,g,M⟩:=a;refine thn (F pins s1 zzs H1 _ w M) fun b s2 a=>?_
 obtain⟨p,H2,x,j,N⟩:=a;refine thn (E pins s2 zzs H2 n p c b _ x g j N) fun L W a=>?_
 obtain⟨ab,q,y,S,O⟩:=a;refine thn (D pins W zzs q _ y O) fun v Y a=>?_
 obtain⟨ac,r,z,T,P⟩:=a;refine thn (J pins Y zzs r ab ac L v _ z S T P) fun new Z a=>?_
 obtain⟨ad,t,A,U,Q⟩:=a;exact thn (K pins Z zzs t n p ad c b new _ A g j U Q) fun _ af ⟨u,B,R⟩=>⟨zzs,u,B,R⟩
def ipI(f:Int->Int->Int):TIp:=fun x y H Q=>∃ i j,x=.int i/\y=.int j/\Q (.int (f i j)) H
theorem a5o:PIp X .Add (ipI fun i j=>i+j):=by
 intro pins s zzs H x y v u Q I c d h;obtain⟨i,j,a,b,q⟩:=h;subst a;subst b;obtain⟨t,rfl⟩:=c;obtain⟨e,rfl⟩:=d;exact iadd_int ⟨.int _,H,I.tok _,⟨_,rfl⟩,q⟩
end
section
variable{X:Cx}{pos:Pos}
def a0y(c:TT)(tb:TS):TS:=fun D zzs H=>∃ W:Nat->St->Hp->Prop,(∃ m,W m zzs H)/\∀ m zzs H,W m zzs H ->
 c zzs H fun b H1=>if b=true then ∃ N:St->Hp->Prop,(∀ bT H',N bT H'->∃ m',m'<m/\W m' bT H')/\tb { D with nx:=N,ct:=N,bk:=D.nx } zzs H1 else D.nx zzs H1
theorem Zv{c:Expr}{r:List Stmt}{y:TT}{x:TS}(u:PassesOwn (model X.prog X.w) X.A X.env X.xe)(D:PT X c y)(C:PSs X r x):PS X (.While c r [] pos) (a0y y x):=by
 intro pins s zzs H L I h;obtain⟨B,⟨E,G⟩,F⟩:=h;refine wpAny_While (codeAny_whileLoop (fun n s'=>∃ q H',Inv X pins q H' s'/\B n q H') ?_ E ⟨zzs,H,I,G⟩);rintro n s1 ⟨e,H1,z,J⟩;refine yg u (thn (D pins s1 e H1 _ z (F n e H1 J)) fun b s2 K=>?_);obtain⟨H2,p,g⟩:=K;cases b with
 |true=>
  obtain⟨N,t,g⟩:=g;rw[aK rfl];refine yg u (thn (C pins s2 e H2 _ p g) fun f M i=>?_);cases f with
  |next=>
   obtain⟨d,a,j,m⟩:=i;obtain⟨l,k,o⟩:=t d a m;exact⟨l,k,d,a,j,o⟩
  |cont=>
   obtain⟨d,a,j,m⟩:=i;obtain⟨l,k,o⟩:=t d a m;exact⟨l,k,d,a,j,o⟩
  |brk=>exact i
  |ret v=>exact i
 |false=>
  rw[aJ gC];exact GZ ⟨e,H2,p,g⟩
end
structure It where
 go:Nat->Hp->Prop
 yld:Nat->Hp->V->Hp->Prop
 stop:Nat->Hp->Prop
def wz(X:Cx)(pins:List (Addr×Obj))(H:Hp)(b:Addr):Prop:=
 H b=none/\b≠X.env.locals/\b∉X.fs/\(b∈X.ex\/X.s₀.heap.objs.size<=b)/\(∀ x c,X.env.cells.lookup x=some c->c≠b)/\∀ p∈X.pn++pins,p.1≠b
theorem Inv.Nv{X:Cx}{f:List (Addr×Obj)}{zzs:St}{H H':Hp}{s:Shared}{b:Addr}(I:Inv X f zzs H s)(a:s.heap.objs.size<=b)(g:H' b=none):wz X f H' b:=by
 refine⟨g,vB (jw I.lt a),I.a8K a,.inr (cU I.sz a),fun x c e d=>?_,fun p h d=>?_⟩
 ·obtain⟨v,q⟩:=I.cell x c e;exact absurd (jw q.lt (by rw[d];exact a)) (oX _)
 ·exact absurd (jw (bO (I.pin p h).1) (by rw[d];exact a)) (oX _)
structure Turn(P:Program)(w:World)(K:ao)(tg:Expr)(J:It)(fp:List Addr)(it:Addr)(tn:Nat->Heap->Prop):Prop where
 mem:it∈fp
 obj:∀ i h,tn i h->∀ b∈fp,∃ o,h.get? b=some o/\∀ v,o.data≠.cell v
 keep:∀ i h h',tn i h->(∀ b∈fp,∀ o,h.get? b=some o->h'.get? b=some o)->tn i h'
 item:∀(X:Cx),X.prog=P->X.w=w->X.K=K->X.calm=true->∀(i:Nat)(pins:List (Addr×Obj))(s:Shared)(zzs:St)(H:Hp)(E:Value->Shared->Prop),Inv X pins zzs H s->(∀ b∈fp,wz X pins H b)->tn i s.heap->J.go i H ->
  wpAny (model P w) X.A (pyNext (.ref it)) (fun r s1=>∃ u,r=some u /\
   wpAny (model P w) X.A (letOwnedTupleGo tg (.ref it) u) (fun _ s2=>∃ x H',Inv X pins zzs H' s2/\RelV x u/\J.yld i H x H'/\tn (i+1) s2.heap/\∀ b∈fp,H' b=none) E s1) E s
 done:∀(X:Cx),X.prog=P->X.w=w->X.K=K->X.calm=true->∀(i:Nat)(pins:List (Addr×Obj))(s:Shared)(zzs:St)(H:Hp)(E:Value->Shared->Prop),Inv X pins zzs H s->(∀ b∈fp,wz X pins H b)->tn i s.heap->J.stop i H ->
  wpAny (model P w) X.A (pyNext (.ref it)) (fun r s1=>r=none/\Inv X pins zzs H s1) E s
 self:∀(A:Around)(i:Nat)(s:Shared)(Q:Value->Shared->Prop)(E:Value->Shared->Prop),tn i s.heap->Q (.ref it) s->wpAny (model P w) A (pyIter (.ref it)) Q E s
abbrev TI:=St->Hp->(It->Hp->Prop)->Prop
def PIE(X:Cx)(pins:List (Addr×Obj))(zzs:St)(tg:Expr)(R:It->Hp->Prop)(itv:Value)(s2:Shared):Prop:=
 ∃(it:Addr)(fp:List Addr)(tn:Nat->Heap->Prop)(J:It)(H':Hp),itv=.ref it/\Inv X pins zzs H' s2/\Turn X.prog X.w X.K tg J fp it tn/\tn 0 s2.heap/\(∀ b∈fp,wz X pins H' b)/\R J H'
def PI(X:Cx)(tg iter:Expr)(wi:TI):Prop:=
 ∀(pins:List (Addr×Obj))(s:Shared)(zzs:St)(H:Hp)(R:It->Hp->Prop),Inv X pins zzs H s->wi zzs H R ->
  wpAny (model X.prog X.w) X.A (eval iter X.env) (fun v s1=>wpAny (model X.prog X.w) X.A (pyIter v) (PIE X pins zzs tg R) X.xe s1) X.xe s
theorem U4{M:Model}{A:Around}{E:Value->Shared->Prop}{s:Shared}{c:Expr}{b:Addr}{u:Value}{o:Obj}{n:String}{vs:Array Value}{Q:Unit->Shared->Prop}(g:s.heap.get? b=some o)(d:o.cls=.type n)(e:o.data=.fields vs)
  (f:["enumerate","zip","dict_itemiterator","dict_reverseitemiterator","odict_iterator","itertools.zip_longest","itertools.pairwise"].contains n=false) (a:Q () s):wpAny M A (letOwnedTupleGo c (.ref b) u) Q E s:=by
 unfold letOwnedTupleGo;cases c<;>first
  |exact bN a
  |(cases u<;>first
    |exact bN a
    |(refine aR (wpAny_load g ?_)
      rw[d,e];show wpAny M A (if(["enumerate","zip","dict_itemiterator","dict_reverseitemiterator","odict_iterator","itertools.zip_longest","itertools.pairwise"].contains n&&vs[0]?==some (rawInt _))=true then _ else _) Q E s;rw[aJ (by intro h;rw[f,Cq] at h;cases h)];exact bN a))
def Itl(K:ao)(a:Addr):It:=
 ⟨fun i H=>∃ xs x,SqL K H a xs/\xs[i]?=some x,fun i H x H'=>H'=H/\∀ xs,SqL K H a xs->xs[i]?=some x,fun i H=>∃ xs,SqL K H a xs/\xs.length<=i⟩
def Itr(lo:Int)(n:Nat):It:=⟨fun i _=>i<n,fun i H x H'=>H'=H/\x=.int (lo+i),fun i _=>n<=i⟩
theorem Xj{P:Program}{w:World}{K:ao}{R:Expr}(a g:Addr):Turn P w K R (Itl K a) [g] g (fun i h=>h.IsListIter g a i) where
 mem:=by simp
 obj:=fun i h st b f=>by
  have e:b=g:=by simpa using f
  subst e;obtain⟨o,e,c,d⟩:=st;exact⟨o,e,fun v D=>by rw[d] at D;cases D⟩
 keep:=fun i h h' st k=>st.at fun o e=>k g (by simp) o e
 item:=by
  intro X y hw t B i pins s zzs H E I j st z;subst y hw t;obtain⟨xs,x,l,A⟩:=z;obtain⟨N,rv,p,M⟩:=I.list l;obtain⟨u,J,O⟩:=rv.get A;obtain⟨m,f1,f2,n,q,r⟩:=j g (by simp);refine wpAny_pyNext_list_item st p.isList (x:=u) (by simpa using J) fun h' C Q=>?_
  have F:Inv X pins zzs H { s with heap:=h' }:=I.turned (t':=s.toks) (fun b o f e=>(Q.2 b f).trans e) m f1 n q r;obtain⟨o,e,c,d⟩:=id C;exact⟨u,rfl,U4 (s:={ s with heap:=h' }) e c d (by decide) ⟨x,H,F,O,⟨rfl,fun ys L=>by rw[I.Fz L l];exact A⟩,C,fun b f=>(j b f).1⟩⟩
 done:=by
  intro X y hw t B i pins s zzs H E I j st z;subst y hw t;obtain⟨xs,l,A⟩:=z;obtain⟨N,rv,p,M⟩:=I.list l;obtain⟨m,f1,f2,n,q,r⟩:=j g (by simp);have S:=rv.length;exact wpAny_pyNext_list_end (I.ok.hd B) st p.isList (by simp;lia) fun h' G=>⟨rfl,I.turned (t':=s.toks) (fun b o f e=>G b o f e) m f1 n q r⟩
 self:=fun _ _ _ _ _ st h=>wpAny_pyIter_listiter st h
theorem Rh{P:Program}{w:World}{K:ao}{C:Expr}(a:Addr)(lo:Int)(n:Nat):Turn P w K C (Itr lo n) [a] a (fun i h=>IsRangeIter h a (lo+(i:Nat)*1) ((n:Int)-(i:Nat)) 1) where
 mem:=by simp
 obj:=fun i h st b c=>by
  have e:b=a:=by simpa using c
  subst e;exact⟨_,st,fun v D=>by
   have F:Data.fields _=Data.cell v:=D;cases F⟩
 keep:=fun i h h' st k=>k a (by simp) _ st
 item:=by
  intro X p hw m q i pins s zzs H E I d st r;subst p hw m;obtain⟨f,f1,f2,g,j,l⟩:=d a (by simp);have y:=Walks.range (prog:=X.prog) (w:=X.w) (I.ok.hd q) a lo 1 n;refine y.item i s _ _ r st fun v h' tk A u B=>?_
  obtain⟨t,rfl⟩:=A;have x:Inv X pins zzs H { s with heap:=h',toks:=tk }:=I.turned (fun b o c e=>B b o (by simpa using c) e) f f1 g j l;refine⟨_,rfl,U4 (s:={ s with heap:=h',toks:=tk }) (n:="range_iterator") u rfl rfl (by decide) ⟨.int (lo+i),H,x,⟨t,?_⟩,⟨rfl,rfl⟩,u,fun b c=>(d b c).1⟩⟩;rw[T7]
 done:=by
  intro X p hw m q i pins s zzs H E I d st r;subst p hw m;obtain⟨f,f1,f2,g,j,l⟩:=d a (by simp);exact wpAny_pyNext_range_end (I.ok.hd q) st (by have:n<=i:=r;lia) fun h' z=>⟨rfl,I.turned (t':=s.toks) (fun b o c e=>z b o c e) f f1 g j l⟩
 self:=fun _ _ _ _ _ st h=>wpAny_pyIter_rangeiter st h
section
variable{X:Cx}{tg:Expr}
def U7(K:ao)(tl:TE):TI:=fun zzs H R=>tl zzs H fun x H1=>∃ a,x=.ref a/\(∃ xs,SqL K H1 a xs)/\R (Itl K a) H1
theorem a2T{l:Expr}{d:TE}(g:PE X l d):PI X tg l (U7 X.K d):=by
 intro pins s zzs H R I h;refine thn (g pins s zzs H _ I h) fun v s1 m=>?_
 obtain⟨x,H1,c,k,j⟩:=m;obtain⟨a,e,⟨xs,i⟩,q⟩:=j;subst e;cases k;obtain⟨r,rv,p,n⟩:=c.list i;refine RQ p.isList ?_;refine⟨s1.heap.objs.size,[s1.heap.objs.size],_,_,H1,rfl,c.kept (t':=s1.toks) fun b o e=>fj _ e,Xj a _,⟨_,gn _ rfl,rfl,rfl⟩,fun b f=>?_,q⟩;have e:b=s1.heap.objs.size:=by simpa using f
 subst e;exact c.Nv (bK _) (c.hok.fresh (bK _))
theorem Oj{d:List (Addr×Obj)}{zzs:St}{H:Hp}{s:Shared}{R:It->Hp->Prop}{E:Value->Shared->Prop}{lo a:Int}{t u v:Tok}{tk:Nat}(I:Inv X d zzs H s)(h : -(2^62)<=lo)(i:lo<2^62)(j : -(2^62)<=a)(k:a<2^62)
  (q:R (Itr lo (a-lo).toNat) H):wpAny (model X.prog X.w) X.A (pyIter (.ref s.heap.objs.size)) (PIE X d zzs tg R) E { s with heap:=s.heap.push { cls:=.type "range",data:=.fields #[.int lo t,.int a u,.int 1 v] },toks:=tk }:=by
 refine wpAny_pyIter_range (IsRange.new ..) (small_one h i j k) ?_;have c:Inv X d zzs H { s with heap:=s.heap.push { cls:=.type "range",data:=.fields #[.int lo t,.int a u,.int 1 v] },toks:=tk }:=I.kept fun b o e=>fj _ e
 refine⟨(s.heap.push { cls:=.type "range",data:=.fields #[.int lo t,.int a u,.int 1 v] }).objs.size,[(s.heap.push { cls:=.type "range",data:=.fields #[.int lo t,.int a u,.int 1 v] }).objs.size],_,_,H,rfl,
  c.kept (t':=tk) fun b o e=>fj _ e,Rh _ lo (a-lo).toNat,?_,fun b l=>?_,q⟩
 ·have f:lo+((0:Nat):Int)*1=lo:=by simp
  have g:(((a-lo).toNat:Nat):Int)-((0:Nat):Int)=Builtin.Range.rangeSize lo a 1:=by rw[rangeSize_one];split<;>lia
  show IsRangeIter _ _ (lo+((0:Nat):Int)*1) ((((a-lo).toNat:Nat):Int)-((0:Nat):Int)) 1;rw[f,g];exact gn _ rfl
 ·have e:b=(s.heap.push { cls:=.type "range",data:=.fields #[.int lo t,.int a u,.int 1 v] }).objs.size:=by simpa using l
  subst e;exact c.Nv (bK _) (c.hok.fresh (bK _))
def a4c(ta:TA):TI:=fun zzs H R=>ta zzs H fun vs H1=>∃ j:Int,vs=[.int j] /\ -(2^62)<=j/\j<2^62/\R (Itr 0 j.toNat) H1
def a4d(ta:TA):TI:=fun zzs H R=>ta zzs H fun vs H1=>∃ i j:Int,vs=[.int i,.int j]/\(-(2^62)<=i/\i<2^62 /\ -(2^62)<=j/\j<2^62)/\R (Itr i (j-i).toNat) H1
theorem WW{a:Expr}{c:TA}{p pos:Pos} (g:Gl X "range") (i:X.mg "range" = none) (f:PA X [a] c) (k:starEach [a] X.env=[(false,eval a X.env)]:=by rfl):PI X tg (.Call (.Name "range" p) [a] [] pos) (a4c c):=by
 intro pins s zzs H R I h;refine Call_ (xG I g i boot_range (KN (thn (f pos pins s zzs H _ I h) fun u s1 o=>?_) k rfl));obtain⟨v,H1,d,m,b⟩:=o;obtain⟨j,e,b,l,q⟩:=b;subst e;cases m with
 |cons r n=>
  cases n;obtain⟨t,rfl⟩:=r;exact call_range_1 (Oj d (by lia) (by lia) b l (by simpa using q))
theorem WX{a b:Expr}{g:TA}{p pos:Pos} (m:Gl X "range") (n:X.mg "range" = none) (l:PA X [a,b] g) (o:starEach [a,b] X.env=[(false,eval a X.env),(false,eval b X.env)]:=by rfl) (f:starEach [b] X.env=[(false,eval b X.env)]:=by rfl) :
  PI X tg (.Call (.Name "range" p) [a,b] [] pos) (a4d g):=by
 intro pins s zzs H R I h;refine Call_ (xG I m n boot_range (KN (thn (l pos pins s zzs H _ I h) fun B s1 z=>?_) (by rw[o,f]) (by rw[f];rfl)));obtain⟨C,H1,k,y,c⟩:=z;obtain⟨i,j,e,⟨c,u,v,w⟩,q⟩:=c;subst e;cases y with
 |cons r d=>
  cases d with
  |cons x d=>
   cases d;obtain⟨t,rfl⟩:=r;obtain⟨A,rfl⟩:=x;exact call_range_2 (Oj k c u v w q)
def a6M(wi:TI)(g:TG)(tb:TS):TS:=fun D zzs H=>wi zzs H fun J H1=>∃ W:Nat->Nat->St->Hp->Prop,(∃ m,W 0 m zzs H1)/\∀ i m zzs H,W i m zzs H ->
 (J.stop i H/\D.nx zzs H)\/(J.go i H/\∃ N:St->Hp->Prop,(∀ bT H',N bT H'->∃ m',m'<m/\W (i+1) m' bT H')/\∀ x H',J.yld i H x H'->g x zzs H' fun yx H2=>tb { D with nx:=N,ct:=N,bk:=D.nx } yx H2)
def xP(fp:List Addr)(h:Heap):List (Addr×Obj):=fp.filterMap fun b=>(h.get? b).map fun o=>(b,o)
theorem xM{fp:List Addr}{h:Heap}{b:Addr}{o:Obj}(a:b∈fp)(e:h.get? b=some o):(b,o)∈xP fp h:=GP.mpr ⟨b,a,by rw[e];rfl⟩
theorem Wo{fp:List Addr}{h:Heap}{p:Addr×Obj}(d:p∈xP fp h):p.1∈fp/\h.get? p.1=some p.2:=by
 obtain⟨b,c,e⟩:=GP.mp d;cases q:h.get? b with
 |none=>rw[q] at e;cases e
 |some o=>
  rw[q] at e;have a:(b,o)=p:=iD e;subst a;exact⟨c,q⟩
theorem Inv.pinned{a:List (Addr×Obj)}{zzs:St}{H:Hp}{s:Shared}{fp:List Addr}(I:Inv X a zzs H s)(i:∀ b∈fp,wz X a H b)(j:∀ b∈fp,∃ o,s.heap.get? b=some o/\∀ v,o.data≠.cell v):Inv X (a++xP fp s.heap) zzs H s:=
 I.yZ fun p k=>(dw.mp k).elim (fun c=>I.pin p (lD _ c)) fun c=>by
  obtain⟨g,e⟩:=Wo c;obtain⟨h,f1,f2,_⟩:=i p.1 g;obtain⟨o,f,d⟩:=j p.1 g;rw[e] at f;cases f;exact⟨e,h,f1,f2,d⟩
theorem Inv.Gy{a pl:List (Addr×Obj)}{zzs:St}{H:Hp}{s:Shared}(I:Inv X (a++pl) zzs H s):Inv X a zzs H s:=I.yZ fun p b=>I.pin p (lD _ (mJ _ b))
theorem a6l{iter:Expr}{L:List Stmt}{W:TI}{g:TG}{S:TS}{pos:Pos}(y:PassesOwn (model X.prog X.w) X.A X.env X.xe)(O:X.calm=true)(ak:PI X tg iter W)(aj:PG X tg g)(k:PSs X L S)
  (an:∀ x,foldedSetIterable iter X.env x=pure x:=by intro _;rfl):PS X (.For tg iter L [] pos) (a6M W g S):=by
 intro pins s zzs H aE I h;refine wpAny_For (thn (ak pins s zzs H _ I h) fun v s1 h1=>thn h1 fun aH s2 h2=>?_) an;obtain⟨aG,fp,U,aF,H2,e,Z,T,st2,f2,K,⟨ap,az⟩,ay⟩:=h2;subst e;have F:∀ {H':Hp},(∀ b∈fp,H' b=none)->∀ b∈fp,wz X pins H' b:=fun am b k=>⟨am b k,(f2 b k).2⟩
 refine codeAny_forLoop_any (fun n s'=>∃ i t H',Inv X pins t H' s'/\U i s'.heap/\(∀ b∈fp,H' b=none)/\K i n t H') ?_ ap ⟨0,zzs,H2,Z,st2,fun b k=>(f2 b k).1,az⟩;rintro n P ⟨i,q,B,J,R,M,aA⟩;rcases ay i n q B aA with⟨ax,ar⟩|⟨ag,N,ai,step⟩
 ·refine yg y (thn (T.done X rfl rfl rfl O i pins P q B X.xe J (F M) R ax) fun r av p=>?_);obtain⟨C,aa⟩:=p;subst C;exact GZ ⟨q,B,aa,ar⟩
 ·refine yg y (thn (T.item X rfl rfl rfl O i pins P q B X.xe J (F M) R ag) fun r av p=>?_);obtain⟨u,C,ah⟩:=p;subst C;refine yg y (thn ah fun _ Q p=>?_);obtain⟨x,G,ab,as,aD,E,af⟩:=p;have ac:=ab.pinned (F af) (T.obj _ _ E);refine yg y (thn (aj _ Q q G x u _ ac as (step x G aD)) fun _ aw p=>?_);obtain⟨ae,Y,ad,aq⟩:=p;refine yg y (thn (k _ aw ae Y _ ad aq) fun f D l=>?_);have again:∀ {c:St} {a:Hp},Inv X (pins++xP fp Q.heap) c a D->N c a->∃ m,m<n/\∃ i t H',Inv X pins t H' D/\U i D.heap/\(∀ b∈fp,H' b=none)/\K i m t H':=fun {c a} j z=>by
   obtain⟨ao,al,aB⟩:=ai c a z;refine⟨ao,al,i+1,c,a,j.Gy,T.keep _ _ _ E fun b k o e=>(j.pin (b,o) (lD _ (lD _ (xM k e)))).1,fun b k=>?_,aB⟩;obtain⟨o,e,d⟩:=T.obj _ _ E b k;exact(j.pin (b,o) (lD _ (lD _ (xM k e)))).2.1
  cases f with
  |next=>obtain⟨c,a,j,z⟩:=l;exact again j z
  |cont=>obtain⟨c,a,j,z⟩:=l;exact again j z
  |brk=>obtain⟨c,a,j,l⟩:=l;exact⟨c,a,j.Gy,l⟩
  |ret v=>obtain⟨aC,c,a,j,au,l⟩:=l;exact⟨aC,c,a,j.Gy,au,l⟩
end
theorem cN{K:ao}{a:Addr}{xs:List V}{g:TG}{n:TS}{c:Ends}{zzs:St}{H:Hp}(b:Nat->St->Hp->Prop)(h0:b 0 zzs H)(r:∀ i zzs H,i<=xs.length->b i zzs H->SqL K H a xs)
  (s:∀ i x zzs H,xs[i]?=some x->b i zzs H->g x zzs H fun j d=>n { c with nx:=b (i+1),ct:=b (i+1),bk:=c.nx } j d) (o:∀ zzs H,b xs.length zzs H->c.nx zzs H) :
  ∃ f:Nat->Nat->St->Hp->Prop,(∃ m,f 0 m zzs H)/\∀ i m zzs H,f i m zzs H ->
   ((Itl K a).stop i H/\c.nx zzs H)\/((Itl K a).go i H/\∃ N:St->Hp->Prop,(∀ h H',N h H'->∃ l,l<m/\f (i+1) l h H')/\∀ x H',(Itl K a).yld i H x H'->g x zzs H' fun j d=>n { c with nx:=N,ct:=N,bk:=c.nx } j d):=by
 refine⟨fun i m zzs H=>m=xs.length-i/\i<=xs.length/\b i zzs H,⟨xs.length,by simp,jh _,h0⟩,?_⟩;rintro i m zzs H ⟨rfl,hi,p⟩;have q:=r i zzs H hi p;by_cases k:i<xs.length
 ·refine .inr ⟨⟨xs,xs[i],q,by simp[k]⟩,b (i+1),fun h H' t=>⟨xs.length-(i+1),by omega,rfl,k,t⟩,fun x H' y=>?_⟩;obtain⟨e,y⟩:=y;subst e;exact s i x zzs _ (y xs q) p
 ·have e:i=xs.length:=by lia
  subst e;exact .inl ⟨⟨xs,q,bK _⟩,o zzs H p⟩
theorem eY{lo:Int}{n:Nat}{g:TG}{l:TS}{b:Ends}{zzs:St}{H:Hp}(a:Nat->St->Hp->Prop)(h0:a 0 zzs H)
  (q:∀ i zzs H,i<n->a i zzs H->g (.int (lo+i)) zzs H fun j c=>l { b with nx:=a (i+1),ct:=a (i+1),bk:=b.nx } j c) (o:∀ zzs H,a n zzs H->b.nx zzs H) :
  ∃ d:Nat->Nat->St->Hp->Prop,(∃ m,d 0 m zzs H)/\∀ i m zzs H,d i m zzs H ->
   ((Itr lo n).stop i H/\b.nx zzs H)\/((Itr lo n).go i H/\∃ N:St->Hp->Prop,(∀ f H',N f H'->∃ k,k<m/\d (i+1) k f H')/\∀ x H',(Itr lo n).yld i H x H'->g x zzs H' fun j c=>l { b with nx:=N,ct:=N,bk:=b.nx } j c):=by
 refine⟨fun i m zzs H=>m=n-i/\i<=n/\a i zzs H,⟨n,by simp,jh _,h0⟩,?_⟩;rintro i m zzs H ⟨rfl,hi,p⟩;by_cases h:i<n
 ·refine .inr ⟨h,a (i+1),fun f H' r=>⟨n-(i+1),by lia,rfl,h,r⟩,fun x H' y=>?_⟩;obtain⟨e,y⟩:=y;subst e y;exact q i zzs _ h p
 ·have e:i=n:=by lia
  subst e;exact .inl ⟨bK _,o zzs H p⟩
abbrev R2:=V->V->Hp->VK->Prop
def OpR(X:Cx)(f:Value->Value->Sem Value)(r:R2):Prop:=
 ∀(pins:List (Addr×Obj))(s:Shared)(zzs:St)(H:Hp)(x y:V)(v u:Value)(Q:VK),Inv X pins zzs H s->RelV x v->RelV y u->r x y H Q ->
  wpAny (model X.prog X.w) X.A (f v u) (EP X pins zzs Q) X.xe s
def UnR(X:Cx)(f:Value->Sem Value)(r:V->Hp->VK->Prop):Prop:=
 ∀(pins:List (Addr×Obj))(s:Shared)(zzs:St)(H:Hp)(x:V)(v:Value)(Q:VK),Inv X pins zzs H s->RelV x v->r x H Q ->
  wpAny (model X.prog X.w) X.A (f v) (EP X pins zzs Q) X.xe s
def fH(X:Cx)(f:Value)(r:List V->Hp->VK->Prop):Prop:=
 ∀(pins:List (Addr×Obj))(s:Shared)(zzs:St)(H:Hp)(xs:List V)(us:List Value)(Q:VK),Inv X pins zzs H s->Vals xs us->r xs H Q ->
  wpAny (model X.prog X.w) X.A (call f us) (EP X pins zzs Q) X.xe s
def tOp(r:R2)(ta tb:TE):TE:=fun zzs H Q=>ta zzs H fun x H1=>tb zzs H1 fun y H2=>r x y H2 Q
def tUn(r:V->Hp->VK->Prop)(ta:TE):TE:=fun zzs H Q=>ta zzs H fun x H1=>r x H1 Q
def rI(C:Int->Int->Prop)(g:Int->Int->V):R2:=fun x y H Q=>∃ i j,x=.int i/\y=.int j/\C i j/\Q (g i j) H
def rI0(g:Int->Int->V):R2:=fun x y H Q=>∃ i j,x=.int i/\y=.int j/\Q (g i j) H
def rU(g:Int->V):V->Hp->VK->Prop:=fun x H Q=>∃ i,x=.int i/\Q (g i) H
section
variable{X:Cx}{a b c:Expr}{ta tb tc:TE}{pos:Pos}
theorem a4J(k:PE X a ta)(l:PE X b tb){d:List (Addr×Obj)}{s:Shared}{zzs:St}{H:Hp}{R:V->V->Hp->Prop}(I:Inv X d zzs H s)
  (h:ta zzs H fun x e=>tb zzs e fun y c=>R x y c) {Q:Value->Shared->Prop} {f:Value->Value->Sem Value}
  (m:∀ v u s2 x y c,Inv X d zzs c s2->RelV x v->RelV y u->R x y c->wpAny (model X.prog X.w) X.A (f v u) Q X.xe s2) :
  wpAny (model X.prog X.w) X.A (eval a X.env) (fun v r=>wpAny (model X.prog X.w) X.A (eval b X.env) (fun u t=>wpAny (model X.prog X.w) X.A (f v u) Q X.xe t) X.xe r) X.xe s:=by
 refine thn (k d s zzs H _ I h) fun v s1 g=>?_
 obtain⟨x,e,i,p,n⟩:=g;refine thn (l d s1 zzs e _ i n) fun u s2 g=>?_
 obtain⟨y,c,j,q,o⟩:=g;exact m v u s2 x y c j p q o
theorem a7E{op:Operator}{r:R2}(f:OpR X (binaryOp op) r)(d:PE X a ta)(e:PE X b tb):PE X (.BinOp a op b pos) (tOp r ta tb):=by
 intro pins s zzs H Q I h;exact wpAny_BinOp (a4J d e I h fun v u s2 x y H2 c g i q=>f pins s2 zzs H2 x y v u Q c g i q)
theorem a7F{op:UnaryOp}{r:V->Hp->VK->Prop}(d:UnR X (unaryOp op) r)(c:PE X a ta):PE X (.UnaryOp op a pos) (tUn r ta):=by
 intro pins s zzs H Q I h;exact UnaryOp_ (thn (c pins s zzs H _ I h) fun v s1 ⟨x,H1,b,f,e⟩=>d pins s1 zzs H1 x v Q b f e)
theorem opI{f:Value->Value->Sem Value}{C:Int->Int->Prop}{g:Int->Int->Int}
  (b:∀(i j:Int)(t u:Tok)(s:Shared)(Q:Value->Shared->Prop)(E:Value->Shared->Prop),C i j->Q (.int (g i j) s.toks) { s with toks:=s.toks+1 }->wpAny (model X.prog X.w) X.A (f (.int i t) (.int j u)) Q E s) :
  OpR X f (rI C fun i j=>.int (g i j)):=by
 intro pins s zzs H x y v u Q I c d h;obtain⟨i,j,rfl,rfl,a,q⟩:=h;obtain⟨t,rfl⟩:=c;obtain⟨e,rfl⟩:=d;exact b i j t e s _ _ a ⟨.int (g i j),H,I.tok _,⟨_,rfl⟩,q⟩
theorem a7A{f:Value->Value->Sem Value}{g:Int->Int->Int}
  (a:∀(i j:Int)(t u:Tok)(s:Shared)(Q:Value->Shared->Prop)(E:Value->Shared->Prop),Q (.int (g i j) s.toks) { s with toks:=s.toks+1 }->wpAny (model X.prog X.w) X.A (f (.int i t) (.int j u)) Q E s) :
  OpR X f (rI0 fun i j=>.int (g i j)):=by
 intro pins s zzs H x y v u Q I b c h;obtain⟨i,j,rfl,rfl,q⟩:=h;obtain⟨t,rfl⟩:=b;obtain⟨d,rfl⟩:=c;exact a i j t d s _ _ ⟨.int (g i j),H,I.tok _,⟨_,rfl⟩,q⟩
theorem a5O{f:Value->Value->Sem Value}{g:Int->Int->Bool}
  (a:∀(i j:Int)(t u:Tok)(s:Shared)(Q:Value->Shared->Prop)(E:Value->Shared->Prop),Q (.bool (g i j)) s->wpAny (model X.prog X.w) X.A (f (.int i t) (.int j u)) Q E s) :
  OpR X f (rI0 fun i j=>.bl (g i j)):=by
 intro pins s zzs H x y v u Q I b c h;obtain⟨i,j,rfl,rfl,q⟩:=h;obtain⟨t,rfl⟩:=b;obtain⟨d,rfl⟩:=c;exact a i j t d s _ _ ⟨.bl (g i j),H,I,rfl,q⟩
def a8o(i j:Int):Prop:=0<j/\j<1073741824
def a1G(i j:Int):Prop:=(-(2^64)<i/\i<2^64)\/(-(2^64)<j/\j<2^64)
theorem a1G.ok{i j:Int}(h:a1G i j):IntMulOk i j:=by
 rcases h with⟨h1,h2⟩|⟨h1,h2⟩
 ·exact .of_left (intBits_le_64 h1 h2)
 ·exact .of_right (intBits_le_64 h1 h2)
theorem a5P:OpR X (binaryOp .Add) (rI0 fun i j=>.int (i+j)):=a7A fun _ _ _ _ _ _ _ q=>add_int q
theorem FQ:OpR X (binaryOp .Sub) (rI0 fun i j=>.int (i-j)):=a7A fun _ _ _ _ _ _ _ q=>sub_int q
theorem a5U:OpR X (binaryOp .Mult) (rI a1G fun i j=>.int (i*j)):=opI fun _ _ _ _ _ _ _ a q=>mul_int q a.ok
theorem yR:OpR X (binaryOp .FloorDiv) (rI a8o fun i j=>.int (i / j)):=opI fun i j _ _ _ _ _ a q=>by
 have h1:(0:Int)<j:=a.1;have h2:j<1073741824:=a.2;exact floordiv_int (by lia) (by rw[a0U i (by lia)];exact q) (.inl (PyProof.noPylong_small (by omega)))
theorem jH:OpR X (binaryOp .Mod) (rI (fun _ j=>0<j) fun i j=>.int (i%j)):=opI fun i j _ _ _ _ _ a q=>by
 have h1:(0:Int)<j:=a;exact mod_int' (by lia) (by rw[Int.fmod_eq_emod_of_nonneg i (by lia)];exact q)
theorem unI{f:Value->Sem Value}{g:Int->Int}
  (a:∀(i:Int)(t:Tok)(s:Shared)(Q:Value->Shared->Prop)(E:Value->Shared->Prop),Q (.int (g i) s.toks) { s with toks:=s.toks+1 }->wpAny (model X.prog X.w) X.A (f (.int i t)) Q E s) :
  UnR X f (rU fun i=>.int (g i)):=by
 intro pins s zzs H x v Q I b h;obtain⟨i,rfl,q⟩:=h;obtain⟨t,rfl⟩:=b;exact a i t s _ _ ⟨.int (g i),H,I.tok _,⟨_,rfl⟩,q⟩
theorem Bv:UnR X (unaryOp .USub) (rU fun i=>.int (-i)):=unI fun _ _ _ _ _ q=>neg_int q
end
def a80:V->V->Bool
 |.non,.non=>true|.non,.int _=>true|.int _,.non=>true|.non,.bl _=>true|.bl _,.non=>true|.non,.str _=>true|.str _,.non=>true
 |.int _,.int _=>true|.bl _,.bl _=>true|.str _,.str _=>true|.byt _,.byt _=>true
 |.int _,.str _=>true|.str _,.int _=>true|.bl _,.str _=>true|.str _,.bl _=>true
 |_,_=>false
def rEq:R2:=fun x y H Q=>a80 x y=true/\Q (.bl (decide (x=y))) H
def rNe:R2:=fun x y H Q=>a80 x y=true/\Q (.bl (!decide (x=y))) H
theorem Tv{i j:Int}:decide (V.int i=V.int j)=(i==j):=by
 rw[vq];simp
theorem Y8{i j:Bool}:decide (V.bl i=V.bl j)=(i==j):=by
 rw[vq];simp
theorem Tw{i j:Str}:decide (V.str i=V.str j)=(i==j):=by
 rw[vq];simp
theorem Tt{i j:Array UInt8}:decide (V.byt i=V.byt j)=(i.toList==j.toList):=by
 rw[vq];cases i;cases j;simp
section
variable{X:Cx}{a b c:Expr}{ta tb tc:TE}{pos:Pos}
theorem dF{b:List (Addr×Obj)}{zzs:St}{H:Hp}{s:Shared}{Q:VK}{k a:Bool}(I:Inv X b zzs H s)(q:Q (.bl k) H)(e:k=a):EP X b zzs Q (.bool a) s:=by
 subst e;exact⟨.bl k,H,I,rfl,q⟩
theorem kj:OpR X (compareOp .Eq) rEq:=by
 intro pins s zzs H x y v u Q I d a h;obtain⟨c,q⟩:=h;cases x with
 |non=>
  cases d;cases y with
  |non=>cases a;exact PySem.EqNone.eq_none_none (dF I q (by simp))
  |bl j=>cases a;exact PySem.EqNone.eq_none_bool (dF I q (by simp))
  |int j=>obtain⟨b,rfl⟩:=a;exact PySem.EqNone.eq_none_int (dF I q (by simp))
  |str j=>obtain⟨b,rfl⟩:=a;exact PySem.EqNone.eq_none_str (dF I q (by simp))
  |_=>exact absurd (show false=true from c) gC
 |bl i=>
  cases d;cases y with
  |non=>cases a;exact PySem.EqNone.eq_bool_none (dF I q (by simp))
  |bl j=>cases a;exact eq_bool (dF I q Y8)
  |str j=>obtain⟨b,rfl⟩:=a;exact PySem.EqMixed.eq_bool_str (dF I q (by simp))
  |_=>exact absurd (show false=true from c) gC
 |int i=>
  obtain⟨t,rfl⟩:=d;cases y with
  |non=>cases a;exact PySem.EqNone.eq_int_none (dF I q (by simp))
  |int j=>obtain⟨b,rfl⟩:=a;exact eq_int (dF I q Tv)
  |str j=>obtain⟨b,rfl⟩:=a;exact PySem.EqMixed.eq_int_str (dF I q (by simp))
  |_=>exact absurd (show false=true from c) gC
 |str i=>
  obtain⟨t,rfl⟩:=d;cases y with
  |non=>cases a;exact PySem.EqNone.eq_str_none (dF I q (by simp))
  |bl j=>cases a;exact PySem.EqMixed.eq_str_bool (dF I q (by simp))
  |int j=>obtain⟨b,rfl⟩:=a;exact PySem.EqMixed.eq_str_int (dF I q (by simp))
  |str j=>obtain⟨b,rfl⟩:=a;exact eq_str (dF I q Tw)
  |_=>exact absurd (show false=true from c) gC
 |byt i=>
  obtain⟨t,rfl⟩:=d;cases y with
  |byt j=>obtain⟨b,rfl⟩:=a;exact PySem.W.eq_bytes (dF I q Tt)
  |_=>exact absurd (show false=true from c) gC
 |_=>cases y<;>exact absurd (show false=true from c) gC
theorem yV:OpR X (compareOp .NotEq) rNe:=by
 intro pins s zzs H x y v u Q I d a h;obtain⟨c,q⟩:=h;cases x with
 |non=>
  cases d;cases y with
  |non=>cases a;exact PySem.EqNone.ne_none_none (dF I q (by simp))
  |bl j=>cases a;exact PySem.EqNone.ne_none_bool (dF I q (by simp))
  |int j=>obtain⟨b,rfl⟩:=a;exact PySem.EqNone.ne_none_int (dF I q (by simp))
  |str j=>obtain⟨b,rfl⟩:=a;exact PySem.EqNone.ne_none_str (dF I q (by simp))
  |_=>exact absurd (show false=true from c) gC
 |bl i=>
  cases d;cases y with
  |non=>cases a;exact PySem.EqNone.ne_bool_none (dF I q (by simp))
  |bl j=>cases a;exact ne_bool (dF I q (congrArg not Y8))
  |str j=>obtain⟨b,rfl⟩:=a;exact PySem.EqMixed.ne_bool_str (dF I q (by simp))
  |_=>exact absurd (show false=true from c) gC
 |int i=>
  obtain⟨t,rfl⟩:=d;cases y with
  |non=>cases a;exact PySem.EqNone.ne_int_none (dF I q (by simp))
  |int j=>obtain⟨b,rfl⟩:=a;exact ne_int (dF I q (congrArg not Tv))
  |str j=>obtain⟨b,rfl⟩:=a;exact PySem.EqMixed.ne_int_str (dF I q (by simp))
  |_=>exact absurd (show false=true from c) gC
 |str i=>
  obtain⟨t,rfl⟩:=d;cases y with
  |non=>cases a;exact PySem.EqNone.ne_str_none (dF I q (by simp))
  |bl j=>cases a;exact PySem.EqMixed.ne_str_bool (dF I q (by simp))
  |int j=>obtain⟨b,rfl⟩:=a;exact PySem.EqMixed.ne_str_int (dF I q (by simp))
  |str j=>obtain⟨b,rfl⟩:=a;exact ne_str (dF I q (congrArg not Tw))
  |_=>exact absurd (show false=true from c) gC
 |byt i=>
  obtain⟨t,rfl⟩:=d;cases y with
  |byt j=>obtain⟨b,rfl⟩:=a;exact PySem.W.ne_bytes (dF I q (congrArg not Tt))
  |_=>exact absurd (show false=true from c) gC
 |_=>cases y<;>exact absurd (show false=true from c) gC
theorem yU:OpR X (compareOp .Lt) (rI0 fun i j=>.bl (decide (i<j))):=a5O fun _ _ _ _ _ _ _ q=>lt_int q
theorem pB:OpR X (compareOp .LtE) (rI0 fun i j=>.bl (decide (i<=j))):=a5O fun _ _ _ _ _ _ _ q=>le_int q
theorem yS:OpR X (compareOp .Gt) (rI0 fun i j=>.bl (decide (j<i))):=a5O fun _ _ _ _ _ _ _ q=>gt_int q
theorem gG:OpR X (compareOp .In) (fun x y H Q=>∃ i j,x=.str i/\y=.str j/\Q (.bl (!(Builtin.Str.occurrences j i 0 j.length 1).isEmpty)) H):=by
 intro pins s zzs H x y v u Q I a b h;obtain⟨i,j,rfl,rfl,q⟩:=h;obtain⟨t,rfl⟩:=a;obtain⟨c,rfl⟩:=b;exact in_str (dF I q rfl)
theorem fZ:OpR X (compareOp .NotIn) (fun x y H Q=>∃ i j,x=.str i/\y=.str j/\Q (.bl (!(!(Builtin.Str.occurrences j i 0 j.length 1).isEmpty))) H):=by
 intro pins s zzs H x y v u Q I a b h;obtain⟨i,j,rfl,rfl,q⟩:=h;obtain⟨t,rfl⟩:=a;obtain⟨c,rfl⟩:=b;exact notIn_str (dF I q rfl)
theorem OpR.or{f:Value->Value->Sem Value}{r a:R2}(h:OpR X f r)(h':OpR X f a):OpR X f (fun x y H Q=>r x y H Q\/a x y H Q):=by
 intro pins s zzs H x y v u Q I b c q;rcases q with q|q
 ·exact h pins s zzs H x y v u Q I b c q
 ·exact h' pins s zzs H x y v u Q I b c q
theorem cA(b:Expr){op:CmpOp}(h:op≠.In:=by decide)(d:op≠.NotIn:=by decide):behindInMarks op b=false:=by
 have a:(op==CmpOp.In)=false:=by cases op<;>first|rfl|exact absurd rfl h
 have c:(op==CmpOp.NotIn)=false:=by cases op<;>first|rfl|exact absurd rfl d
 cases b<;>simp[behindInMarks,a,c]
theorem a2J{op:CmpOp}{r:R2}(g:OpR X (compareOp op) r)(d:PE X a ta)(e:PE X b tb)(f:behindInMarks op b=false):PE X (.Compare a [op] [b] pos) (tOp r ta tb):=by
 intro pins s zzs H Q I h;exact wpAny_Compare1 (a4J d e I h fun v u s2 x y H2 c i j q=>g pins s2 zzs H2 x y v u Q c i j q) f
def Vb(t:TE):TT:=fun zzs H Q=>t zzs H fun x H'=>∃ k,x=.bl k/\Q k H'
theorem a3g{op:CmpOp}{r:R2}(n:OpR X (compareOp op) r)(j:PE X a ta)(l:PE X b tb)(m:behindInMarks op b=false):PT X (.Compare a [op] [b] pos) (Vb (tOp r ta tb)):=by
 intro pins s zzs H Q I h;refine wpAny_isTrue_Compare1 (thn (j pins s zzs H _ I h) fun v s1 ⟨x,H1,f,t,o⟩=>thn (l pins s1 zzs H1 _ f o) fun u s2 ⟨y,H2,g,w,p⟩=>
  thn (n pins s2 zzs H2 x y v u _ g t w p) fun c A ⟨B,d,i,z,k,e,q⟩=>?_) m
 subst e;cases z;exact wQ ⟨d,i,q⟩
def Kz(r r':R2)(ta tb tc:TE):TE:=fun zzs H Q=>ta zzs H fun x H1=>tb zzs H1 fun y H2=>r x y H2 fun z H3=>∃ k,z=.bl k /\
 (if k=true then tc zzs H3 fun w' H4=>r' y w' H4 Q else Q (.bl false) H3)
theorem Zi{op f:CmpOp}{r l:R2}(B:OpR X (compareOp op) r)(C:OpR X (compareOp f) l)(t:PE X a ta)(w:PE X b tb)(z:PE X c tc)
  (A:lastMarks [op,f] [b,c]=false:=by with_unfolding_all rfl):PE X (.Compare a [op,f] [b,c] pos) (Kz r l ta tb tc):=by
 intro pins s zzs H Q I h;refine Compare_chain (thn (t pins s zzs H _ I h) fun v s1 ⟨x,H1,o,G,D⟩=>chain_link (thn (w pins s1 zzs H1 _ o D) fun u s2 ⟨y,H2,p,m,E⟩=>
  thn (B pins s2 zzs H2 x y v u _ p G m E) fun d L ⟨P,g,i,J,k,e,j⟩=>?_)) A
 subst e;cases J;refine wQ ?_;cases k with
 |false=>exact ite_ff ⟨.bl false,g,i,rfl,j⟩
 |true=>exact ite_tt (chain_last (thn (z pins L zzs g _ i j) fun N M ⟨O,n,q,K,F⟩=>C pins M zzs n y O u N Q q m K F))
theorem Zy{op f:CmpOp}{r l:R2}(F:OpR X (compareOp op) r)(G:OpR X (compareOp f) l)(B:PE X a ta)(C:PE X b tb)(D:PE X c tc)
  (E:lastMarks [op,f] [b,c]=false:=by with_unfolding_all rfl):PT X (.Compare a [op,f] [b,c] pos) (Vb (Kz r l ta tb tc)):=by
 intro pins s zzs H Q I h;refine isTrue_chain (thn (B pins s zzs H _ I h) fun v s1 ⟨x,H1,p,O,K⟩=>test_link (thn (C pins s1 zzs H1 _ p K) fun u s2 ⟨y,H2,q,m,L⟩=>
  thn (F pins s2 zzs H2 x y v u _ q O m L) fun d T ⟨ae,g,i,P,k,e,j⟩=>?_)) E
 subst e;cases P;refine wQ ?_;cases k with
 |false=>
  obtain⟨ab,z,J⟩:=j;cases z;exact ite_ff ⟨g,i,J⟩
 |true=>
  refine ite_tt (test_last (thn (D pins T zzs g _ i j) fun W U ⟨Y,n,t,R,M⟩=>thn (G pins U zzs n y Y u W _ t m R M) fun aa ad Z=>?_));obtain⟨af,o,w,S,ac,A,N⟩:=Z;subst A;cases S;exact wQ ⟨o,w,N⟩
theorem xJ:(sizeLine:Nat)<2^63:=by rw[pK];decide
theorem QJ:OpR X (binaryOp .Add) (fun x y H Q=>∃ i j,x=.str i/\y=.str j/\i.length+j.length<=sizeLine/\Q (.str (i++j)) H):=by
 intro pins s zzs H x y v u Q I b c h;obtain⟨i,j,rfl,rfl,a,q⟩:=h;obtain⟨t,rfl⟩:=b;obtain⟨d,rfl⟩:=c;exact add_str (fun d tk=>⟨.str (i++j),H,I.tok _,⟨_,rfl⟩,q⟩) a
theorem vals1{x:V}{us:List Value}(r:Vals [x] us):∃ u,us=[u]/\RelV x u:=by
 cases r with
 |cons a b=>cases b;exact⟨_,rfl,a⟩
theorem vals2{x y:V}{us:List Value}(r:Vals [x,y] us):∃ u w',us=[u,w']/\RelV x u/\RelV y w':=by
 cases r with
 |cons a b=>
  cases b with
  |cons c d=>cases d;exact⟨_,_,rfl,a,c⟩
theorem Ik(b:X.calm=true):fH X (.builtin "max") (fun xs H Q=>∃ i j,xs=[.int i,.int j]/\Q (.int (if j>i then j else i)) H):=by
 intro pins s zzs H xs d Q I r h;obtain⟨i,j,rfl,q⟩:=h;obtain⟨u,e,rfl,⟨t,rfl⟩,⟨c,rfl⟩⟩:=vals2 r;refine max_two_ints (I.ok.hd b) fun h' tk k=>⟨_,H,I.kept k,?_,q⟩
 by_cases a:j>i
 ·rw[aK a,aK a];exact⟨_,rfl⟩
 ·rw[aJ a,aJ a];exact⟨_,rfl⟩
theorem Ac(b:X.calm=true):fH X (.builtin "min") (fun xs H Q=>∃ i j,xs=[.int i,.int j]/\Q (.int (if j<i then j else i)) H):=by
 intro pins s zzs H xs d Q I r h;obtain⟨i,j,rfl,q⟩:=h;obtain⟨u,e,rfl,⟨t,rfl⟩,⟨c,rfl⟩⟩:=vals2 r;refine min_two_ints (I.ok.hd b) fun h' tk k=>⟨_,H,I.kept k,?_,q⟩
 by_cases a:j<i
 ·rw[aK a,aK a];exact⟨_,rfl⟩
 ·rw[aJ a,aJ a];exact⟨_,rfl⟩
theorem Ab:fH X (.type "int") (fun xs H Q=>(∃ i,xs=[.int i]/\Q (.int i) H)\/∃ k,xs=[.bl k]/\Q (.int (if k then 1 else 0)) H):=by
 intro pins s zzs H xs b Q I r h;rcases h with⟨i,rfl,q⟩|⟨k,rfl,q⟩
 ·obtain⟨u,rfl,t,rfl⟩:=vals1 r;exact call_int_int ⟨.int i,H,I,⟨_,rfl⟩,q⟩
 ·obtain⟨u,rfl,a⟩:=vals1 r;cases a;exact call_int_bool ⟨.int (if k then 1 else 0),H,I.tok _,⟨_,rfl⟩,q⟩
theorem JK:fH X (.type "str") (fun xs H Q=>∃ i,xs=[.int i]/\i.natAbs.log2<1920/\Q (.str (toString i)) H):=by
 intro pins s zzs H xs b Q I r h;obtain⟨i,rfl,a,q⟩:=h;obtain⟨u,rfl,t,rfl⟩:=vals1 r;exact PySem.P.str_of_int a ⟨.str _,H,I.tok _,⟨_,rfl⟩,q⟩
end
structure Vh(h:Heap)(x dx C:Addr)(mA:Str->Option Value):Prop where
 obj:h.get? x=some (PySem.W.instObj C dx)
 ns:h.Ns1 dx mA
 ne:dx≠x
theorem Wf{h:Heap}{b:Addr}{c:Str->Option Value}(n:h.Ns1 b c):∃ d,h.get? b=some d/\∀ name,PySem.W.lookIn name d=some (c name):=by
 obtain⟨o,es,p,l,g,i,_,k⟩:=n;refine⟨o,l,fun name=>?_⟩;have e:=k name;unfold nsFind findBy at e;rw[<- Array.find?_toList] at e;unfold PySem.W.lookIn;rw[g];dsimp only;split
 ·rename_i y q;rw[q] at e;exact congrArg some e
 ·rename_i q;rw[q] at e;have a:es.toList.any (·.refKey)=false:=by
   rw[List.any_eq_false];intro y m;obtain⟨r,t,j⟩:=i y (Array.mem_toList_iff.mp m);simp[DictEntry.refKey,j]
  have f:¬es.toList.any (·.refKey)=true:=by rw[a];exact gC
  rw[aJ f];exact congrArg some e
theorem Vh.look{h:Heap}{x b C:Addr}{c:Str->Option Value}(I:Vh h x b C c):∃ a,PySem.W.InstAt h x (PySem.W.instObj C b) C (some a)/\∀ name,PySem.W.lookIn name a=some (c name):=
 let ⟨a,ho,hl⟩:=Wf I.ns
 ⟨a,⟨I.obj,rfl,rfl,ho⟩,hl⟩
section
variable{prog:Program}{w:World}{A:Around}{E:Value->Shared->Prop}{s:Shared}{K:ao}{x dx C f:Addr}{mA:Str->Option Value}{name:Str}{v:Value}
theorem get_map{b:Bool}{Q:Value->Shared->Prop}(X:K.In s.heap)(I:Vh s.heap x dx C mA)(d:PySem.W.plainGet K C name=true)(e:PySem.W.hasDictIn K C=true)
  (c:PySem.W.findIn K (.ref C) name=some none) (g:mA name=some v) (i:PySem.W.handedIn v=true) (h:Q v { s with toks:=s.toks+1 }) :
  wpAny (model prog w) A (getAttr (.ref x) name b) Q E s:=by
 obtain⟨od,a,f⟩:=I.look;exact PySem.W.get_value X a (PySem.W.plainGet_of d).1 (PySem.W.findObj_own e c rfl (by rw[f,g])) i h
theorem a3F{ns:List Str}{Q:Unit->Shared->Prop}(X:K.In s.heap)(I:Vh s.heap x dx C mA)
  (n:PySem.W.findIn K (.ref C) "__setattr__" = some (some (.builtin "object.__setattr__"))) (m:PySem.W.plainOver K C=true) (o:PySem.W.takerIn K C name=some none) (k:PySem.W.hasDictIn K C=true)
  (hw:PySem.Within mA ns) (hsz:ns.length<=sizeLine)
  (h:∀ h',Vh h' x dx C (fun y=>if y=name then some v else mA y)->Heap.SameBut dx s.heap h'->Q () { s with heap:=h',toks:=s.toks+2 }) :
  wpAny (model prog w) A (setAttr (.ref x) name v) Q E s:=by
 obtain⟨od,c,u⟩:=I.look;refine PySem.W.set_plain X c n (PySem.W.osa_open (s:={ s with toks:=s.toks+1 }) (r:=none) X c m o fun b=>?_);obtain⟨cd,f,i⟩:=PySem.W.any_some k;have p:s.heap.get? x=some ⟨.ref C,some dx,.plain,#[]⟩:=I.obj;refine aR (bN (aR (aR (wpAny_loadPart p (aR (PySem.W.Looks.here (s:={ s with toks:=s.toks+1 }) (PySem.W.looks_clsIn X f) ?_))))));rw[i];refine bN (a:=some dx) (aR (bN (aR ?_)));refine wpAny_nsSet1 (s:={ s with toks:=s.toks+1 }) I.ns fun h' d e=>?_
 obtain⟨z,t,q,l,j,g⟩:=d.count (PySem.Within.cons name v hw);refine aR (wpAny_lookBehind l (by rw[j];exact pastItsLine_dict (cU g (by rw[gY];lia))) ?_);exact bN (h _ ⟨(e.2 _ (iR I.ne)).trans I.obj,d,I.ne⟩ e)
theorem YM{R:Result->Shared->Prop}{vs:List Value}{a:List (Str×Value)}(X:K.In s.heap)(e:PySem.W.makesIn K C=true)
  (c:PySem.W.findIn K (.ref C) "__init__" = some (some (.ref f))) (b:PySem.W.typeIn K (.ref f)=some (.type "function"))
  (h:codeAny (model prog w) (A.under (.builtin "type.__call__" ⟨.ref C::vs,a⟩)) (.call (.ref f) ⟨.ref (s.heap.objs.size+1)::vs,a⟩) (PySem.W.InitBack (s.heap.objs.size+1) R)
   { s with heap:=(s.heap.push PySem.W.emptyDict).push (PySem.W.instObj C s.heap.objs.size) }) :
  codeAny (model prog w) A (.call (.ref C) ⟨vs,a⟩) R s:=by
 obtain⟨j,g,d,t,k⟩:=s;exact PySem.W.make_core (PySem.W.makes_of X e) (PySem.W.looks_findIn X c) (fun i=>PySem.W.bind_fn X i b) (.inl rfl) h
end
def mV(f:Str)(v:V):List (Str×V)->List (Str×V)
 |[]=>[(f,v)]
 |(g,x)::r=>if g=f then(g,v)::r else(g,x)::mV f v r
theorem iC(f g:Str)(v:V):∀ fs:List (Str×V),(mV f v fs).lookup g=if g=f then some v else fs.lookup g
 |[]=>by
  show List.lookup g [(f,v)]=_;by_cases h:g=f
  ·have a:(g==f)=true:=lG.mpr h;simp only[List.lookup,a,aK h]
  ·have a:(g==f)=false:=qO.mpr h;simp only[List.lookup,a,aJ h]
 |(k,x)::r=>by
  have c:=iC f g v r;rw[show mV f v ((k,x)::r)=(if k=f then(k,v)::r else(k,x)::mV f v r) from rfl];by_cases b:k=f
  ·rw[aK b];by_cases h:g=k
   ·have a:(g==k)=true:=lG.mpr h;simp only[List.lookup,a,aK (h.trans b)]
   ·have a:(g==k)=false:=qO.mpr h;simp only[List.lookup,a,aJ (fun e:g=f=>h (e.trans b.symm))]
  ·rw[aJ b];by_cases h:g=k
   ·have a:(g==k)=true:=lG.mpr h;simp only[List.lookup,a,aJ (fun e:g=f=>b (h.symm.trans e))]
   ·have a:(g==k)=false:=qO.mpr h;simp only[List.lookup,a];exact c
theorem Av(f:Str)(v:V):∀ fs:List (Str×V),f∈(mV f v fs).map (·.1)/\∀ g,g∈fs.map (·.1)->g∈(mV f v fs).map (·.1)
 |[]=>⟨by simp[mV],fun g h=>by simp at h⟩
 |(k,x)::r=>by
  obtain⟨i1,i2⟩:=Av f v r;rw[show mV f v ((k,x)::r)=(if k=f then(k,v)::r else(k,x)::mV f v r) from rfl];by_cases a:k=f
  ·rw[aK a];subst a;exact⟨by simp,fun g h=>by simpa using h⟩
  ·rw[aJ a];refine⟨?_,fun g h=>?_⟩
   ·rw[gq];exact gk _ i1
   ·rw[gq] at h ⊢;rcases dj.mp h with e|e
    ·exact dj.mpr (.inl e)
    ·exact gk _ (i2 g e)
theorem pA(f:Str)(v:V):∀ fs:List (Str×V),(mV f v fs).length<=fs.length+1
 |[]=>by simp[mV]
 |(k,x)::r=>by
  have b:=pA f v r;rw[show mV f v ((k,x)::r)=(if k=f then(k,v)::r else(k,x)::mV f v r) from rfl];by_cases a:k=f
  ·rw[aK a,gY,gY];lia
  ·rw[aJ a,gY,gY];lia
theorem zV.some_of{v:V}{o:Option Value}(r:zV (some v) o):∃ u,o=some u/\RelV v u:=by
 cases o with
 |none=>exact(show False from r).elim
 |some u=>exact⟨u,rfl,r⟩
theorem W5{v:V}{u:Value}(r:RelV v u):PySem.W.handedIn u=true:=by
 cases v with
 |non=>cases (show u=Value.none from r);rfl
 |bl b=>cases (show u=Value.bool b from r);rfl
 |int i=>obtain⟨t,e⟩:=(show ∃ t,u=Value.int i t from r);cases e;rfl
 |str x=>obtain⟨t,e⟩:=(show ∃ t,u=Value.str x t from r);cases e;rfl
 |byt b=>obtain⟨t,e⟩:=(show ∃ t,u=Value.bytes b t from r);cases e;rfl
 |flt b=>obtain⟨t,e⟩:=(show ∃ t,u=Value.float b t from r);cases e;rfl
 |ref a=>cases (show u=Value.ref a from r);rfl
 |ty n=>cases (show u=Value.type n from r);rfl
section
variable{P:Program}{w:World}{H H':Hp}{h h':Heap}{a C dx:Addr}{fs fs':List (Str×V)}
theorem Kc(c:HOk P w H h)(e:H a=some (.ins C dx fs)):∃ b,Vh h a dx C b/\(∀ f,zV (fs.lookup f) (b f))/\PySem.Within b (fs.map (·.1))/\fs.length<=1000/\H dx=some (.own a):=by
 obtain⟨d,j,g,i,b,n,r,q⟩:=(show g8 P w H h a (.ins C dx fs) from c a _ e)
 exact⟨b,⟨i,n,g⟩,r,q,j,d⟩
end
structure Cls(K:ao)(C:Addr):Prop where
 pg:PySem.W.plainGet K C Str.empty=true
 hd:PySem.W.hasDictIn K C=true
 po:PySem.W.plainOver K C=true
 sa:PySem.W.findIn K (.ref C) "__setattr__" = some (some (.builtin "object.__setattr__"))
theorem Cls.get{K:ao}{C:Addr}(c:Cls K C)(f:Str):PySem.W.plainGet K C f=true:=c.pg
def qZ(K:ao)(C:Addr)(f:Str):Prop:=PySem.W.findIn K (.ref C) f=some none
theorem qZ.taker{K:ao}{C:Addr}{f:Str}(n:qZ K C f):PySem.W.takerIn K C f=some none:=by
 unfold PySem.W.takerIn;rw[show PySem.W.findIn K (.ref C) f=some none from n];rfl
section
variable{X:Cx}{pins:List (Addr×Obj)}{zzs:St}{H:Hp}{s:Shared}{a C dx:Addr}{fs:List (Str×V)}{f:Str}{v:V}{A:Around}{E:Value->Shared->Prop}
theorem Qp{b:Bool}{Q:Value->Shared->Prop}(I:Inv X pins zzs H s)(e:H a=some (.ins C dx fs))(c:Cls X.K C)(n:qZ X.K C f)(l:fs.lookup f=some v)
  (h:∀ u g,Inv X pins zzs H g->RelV v u->Q u g):wpAny (model X.prog X.w) A (getAttr (.ref a) f b) Q E s:=by
 obtain⟨mA,i,r,_,_,_⟩:=Kc I.hok e;obtain⟨u,j,d⟩:=zV.some_of (v:=v) (o:=mA f) (by rw[<- l];exact r f);exact get_map I.kIn i (c.get f) c.hd n j (W5 d) (h u _ (I.tok _) d)
theorem Ra{y:V}{u:Value}{Q:Unit->Shared->Prop}(I:Inv X pins zzs H s)(e:H a=some (.ins C dx fs))(c:Cls X.K C)(n:qZ X.K C f)(F:fs.length<1000)(B:RelV y u)
  (h:∀ l,Inv X pins zzs (upd H a (.ins C dx (mV f y fs))) l->Q () l):wpAny (model X.prog X.w) A (setAttr (.ref a) f u) Q E s:=by
 obtain⟨mA,d,r,m,_,k⟩:=Kc I.hok e;have z:(fs.map (·.1)).length<=sizeLine:=by rw[aL,pK];lia
 refine a3F I.kIn d c.sa c.po n.taker c.hd m z fun h' i D=>h _ ?_
 have t:∃ o,h'.get? dx=some o:=let ⟨o,_,_,e',_⟩:=i.ns;⟨o,e'⟩;refine I.write (x:=a) (e:=dx) (by rw[e];exact True.intro) (.inr k) (fun b q p j=>(D.2 b p).trans j) t ?_;refine⟨by rw[bG d.ne];exact k,?_,d.ne,i.obj,_,i.ns,fun g=>?_,fun g v=>?_⟩
 ·have:=pA f y fs;lia
 ·show zV ((mV f y fs).lookup g) (if g=f then some u else mA g);rw[iC];by_cases q:g=f
  ·rw[aK q,aK q];exact B
  ·rw[aJ q,aJ q];exact r g
 ·by_cases q:g=f
  ·rw[q];exact(Av f y fs).1
  ·refine(Av f y fs).2 g (m g fun j=>v ?_);show(if g=f then some u else mA g)=none;rw[aJ q];exact j
theorem Inv.made(I:Inv X pins zzs H s):Inv X pins zzs (upd (upd H s.heap.objs.size (.own (s.heap.objs.size+1))) (s.heap.objs.size+1) (.ins C s.heap.objs.size []))
  { s with heap:=(s.heap.push PySem.W.emptyDict).push (PySem.W.instObj C s.heap.objs.size) }:=by
 have c:(s.heap.push PySem.W.emptyDict).get? s.heap.objs.size=some PySem.W.emptyDict:=gn s.heap rfl;have g:((s.heap.push PySem.W.emptyDict).push (PySem.W.instObj C s.heap.objs.size)).get? (s.heap.objs.size+1)=some (PySem.W.instObj C s.heap.objs.size):=by
  have:=gn (s.heap.push PySem.W.emptyDict) (o:=PySem.W.instObj C s.heap.objs.size) rfl;rwa[Cr] at this
 have h:(s.heap.push PySem.W.emptyDict).Ns s.heap.objs.size (fun _=>none):=⟨PySem.W.emptyDict,#[],_,c,rfl,(fun e i=>absurd i (by simp)),fun _=>rfl⟩
 have f:=I.laid (a:=s.heap.objs.size) (o:=.own (s.heap.objs.size+1)) (h':=s.heap.push PySem.W.emptyDict) (t':=s.toks) (fun b u q=>fj _ q) (bK _) ⟨_,c⟩;refine f.laid (a:=s.heap.objs.size+1) (o:=.ins C s.heap.objs.size []) (t':=s.toks) (fun b u q=>fj _ q) (Nat.le_of_eq (Cr _ _)) ?_;have d:s.heap.objs.size≠s.heap.objs.size+1:=dZ (yd _);refine⟨by rw[bG d,aA],jh _,d,g,fun _=>none,(Heap.Ns1.of_empty h).at fun o q=>fj _ q,fun _=>True.intro,fun y j=>absurd rfl j⟩
theorem a1M{prog:Program}{w:World}{a:Env}{e:Expr}{f:Str}{pos:Pos}{s:Shared}{Q:Value->Shared->Prop}(b:attributeBase e f a (eval e a)=eval e a)
  (h:wpAny (model prog w) A (eval e a) (fun o c=>wpAny (model prog w) A (getAttr o f true) Q E c) E s):wpAny (model prog w) A (eval (.Attribute e f pos) a) Q E s:=
 Attribute_any_ h (by rw[arm_eval_Attribute,b])
end
def a6L(K:ao)(ta:TE)(f:Str):TE:=fun zzs H Q=>ta zzs H fun x H1=>∃ a C dx fs v,x=.ref a/\H1 a=some (.ins C dx fs)/\Cls K C/\qZ K C f/\fs.lookup f=some v/\Q v H1
def a7Z(K:ao)(ta tv:TE)(f:Str):TS:=fun D zzs H=>tv zzs H fun y H1=>ta zzs H1 fun x H2=>∃ a C dx fs,x=.ref a/\H2 a=some (.ins C dx fs)/\Cls K C/\qZ K C f/\fs.length<1000 /\
 D.nx zzs (upd H2 a (.ins C dx (mV f y fs)))
section
variable{X:Cx}{o e value:Expr}{f:Str}{pos pos' tpos:Pos}{ta tv:TE}
theorem a65(j:PE X e ta)(i:attributeBase e f X.env (eval e X.env)=eval e X.env):PE X (.Attribute e f pos) (a6L X.K ta f):=by
 intro pins s zzs H Q I h;refine a1M i (thn (j pins s zzs H _ I h) fun u s1 o=>?_);obtain⟨x,H1,b,m,a,C,dx,fs,v,ex,g,c,n,l,q⟩:=o;subst ex;obtain rfl:u=Value.ref a:=m;exact Qp b g c n l fun p s2 d k=>⟨v,H1,d,k,q⟩
theorem a6k(i:PE X o ta)(k:PE X value tv)(j:swapsWith value (some (.Attribute o f pos')) pos.line X.env=pure false):PS X (.Assign [.Attribute o f pos'] value pos) (a7Z X.K ta tv f):=by
 intro pins s zzs H w I h;refine plainObj_wpAny_Assign_Attribute (thn (k pins s zzs H _ I h) fun u s1 ⟨y,H1,b,t,q⟩=>thn (i pins s1 zzs H1 _ b q) fun m s2 v=>?_) j;obtain⟨x,H2,d,r,a,C,dx,fs,ex,g,c,n,l,p⟩:=v;subst ex;obtain rfl:m=Value.ref a:=r;exact Ra d g c n l t fun z e=>⟨zzs,_,e,p⟩
end
section
variable{X:Cx}{pins:List (Addr×Obj)}{zzs:St}{H:Hp}{s:Shared}{A:Around}{E:Value->Shared->Prop}{Q:Value->Shared->Prop}{c:Value}{b:Bool}
inductive zX(K:ao)(H:Hp):V->Value->Prop where
 |non:zX K H .non (.type "NoneType")
 |bl (x:Bool):zX K H (.bl x) (.type "bool")
 |int (i:Int):zX K H (.int i) (.type "int")
 |str (x:Str):zX K H (.str x) (.type "str")
 |flt (x:UInt64):zX K H (.flt x) (.type "float")
 |lst {a:Addr} {xs:List V} (e:H a=some (.lst xs)):zX K H (.ref a) (.type "list")
 |frz {a:Addr} {o:Obj} {xs:List V} (e:H a=some (.frz o (.lst xs))):zX K H (.ref a) (.type "list")
 |tup {a:Addr} {xs:List V} (e:H a=some (.tup xs)):zX K H (.ref a) (.type "tuple")
 |dK {a:Addr} {kvs:List (Key×V)} (e:H a=some (.dK kvs)):zX K H (.ref a) (.type "dict")
 |dT {a:Addr} {kvs:List (List Key×V)} (e:H a=some (.dT kvs)):zX K H (.ref a) (.type "dict")
 |ins {a C dx:Addr} {fs:List (Str×V)} (e:H a=some (.ins C dx fs)) (cl:Cls K C) (ha:PySem.W.findIn K (.ref C) "__class__" = some (some (.builtin "object.__class__")))
   (hn:PySem.W.specialIn K (.builtin "object.__class__") "__get__" = some (some (.builtin "getset_descriptor.__get__"))) (htk:PySem.W.takesIn K (.builtin "object.__class__")=some true)
   (hm:PySem.W.mroIn K C (.type "object")=some true):zX K H (.ref a) (.ref C)
theorem W8{x:V}{u t:Value}(I:Inv X pins zzs H s)(g:RelV x u)(ty:zX X.K H x t)(e:PySem.W.kitOne X.K t c=some b)(h:∀ tk,Q (.bool b) { s with toks:=tk }) :
  wpAny (model X.prog X.w) A (call (.builtin "isinstance") [u,c]) Q E s:=by
 cases ty with
 |non=>cases (show u=Value.none from g);exact qR PySem.W.kitx_none I.kIn True.intro e (fun d=>nomatch d) h
 |bl y=>cases (show u=Value.bool y from g);exact qR PySem.W.kitx_bool I.kIn True.intro e (fun d=>nomatch d) h
 |int i=>obtain⟨t,q⟩:=(show ∃ t,u=Value.int i t from g);cases q;exact qR PySem.W.kitx_int I.kIn True.intro e (fun d=>nomatch d) h
 |str y=>obtain⟨t,q⟩:=(show ∃ t,u=Value.str y t from g);cases q;exact qR PySem.W.kitx_str I.kIn True.intro e (fun d=>nomatch d) h
 |flt y=>obtain⟨t,q⟩:=(show ∃ t,u=Value.float y t from g);cases q;exact qR PySem.W.kitx_float I.kIn True.intro e (fun d=>nomatch d) h
 |@lst a xs f=>
  cases (show u=Value.ref a from g);obtain⟨_,_,n,_,h1⟩:=(show g8 X.prog X.w H s.heap a (.lst xs) from I.hok a _ f)
  exact qR RV I.kIn ⟨_,h1,rfl⟩ e (fun d=>nomatch d) h
 |@frz a F xs f=>
  cases (show u=Value.ref a from g);obtain⟨_,_,_,n,_,h1⟩:=(show g8 X.prog X.w H s.heap a (.frz F (.lst xs)) from I.hok a _ f)
  exact qR RV I.kIn ⟨_,h1,rfl⟩ e (fun d=>nomatch d) h
 |@tup a xs f=>
  cases (show u=Value.ref a from g);obtain⟨_,_,_,p⟩:=(show g8 X.prog X.w H s.heap a (.tup xs) from I.hok a _ f)
  obtain⟨o,h1,h2,_⟩:=p;exact qR a1z I.kIn ⟨o,h1,h2⟩ e (fun d=>nomatch d) h
 |@dK a j f=>
  cases (show u=Value.ref a from g);obtain⟨_,_,G,_,p⟩:=(show g8 X.prog X.w H s.heap a (.dK j) from I.hok a _ f)
  obtain⟨o,es,r,h1,h2,_⟩:=p;exact qR PySem.W.kitx_dict I.kIn ⟨o,h1,h2.1⟩ e (fun d=>nomatch d) h
 |@dT a j f=>
  cases (show u=Value.ref a from g);obtain⟨_,_,xs,_,o,es,r,h1,h2,_⟩:=(show g8 X.prog X.w H s.heap a (.dT j) from I.hok a _ f)
  exact qR PySem.W.kitx_dict I.kIn ⟨o,h1,h2.1⟩ e (fun d=>nomatch d) h
 |@ins a C dx fs f k v B D z=>
  cases (show u=Value.ref a from g);obtain⟨mA,m,_⟩:=Kc I.hok f;obtain⟨od,l,_⟩:=m.look;exact qR (PySem.W.kitx_own (k.get _) k.hd v B D z) I.kIn l e (fun d=>nomatch d) h
end
structure iT(k:Nat)(A:Around):Prop where
 hd:A.handled=none
 dp:A.depth+3*k+5<recursionLimit
 un:A.units+16*k+200<cLine
theorem iT.mono{j k:Nat}{A:Around}(r:iT k A)(h:j<=k):iT j A:=⟨r.hd,by have:=r.dp;lia,by have:=r.un;lia⟩
theorem iT.deeper{k:Nat}{A:Around}(r:iT (k+1) A)(a:Env):iT k (A.deeper a):=
 ⟨r.hd,by have:=r.dp;show A.depth+1+3*k+5<_;lia,by have:=r.un;show A.units+3+16*k+200<_;lia⟩
theorem Qu{A:Around}{C:Addr}{us:List Value}{a:List (Str×Value)}:(A.under (.builtin "type.__call__" ⟨.ref C::us,a⟩)).depth=A.depth+1:=by
 first|rfl|simp[Around.under,Code.weight,Code.isCreation,Code.isGuard,Code.isCaller,Code.frames,Code.isFrame,guardIds]
theorem Qv{A:Around}{C:Addr}{us:List Value}{a:List (Str×Value)}:(A.under (.builtin "type.__call__" ⟨.ref C::us,a⟩)).units=A.units+1:=by
 first|rfl|simp[Around.under,Code.cUnits,Code.frames,Code.isFrame]
theorem iT.make{k:Nat}{A:Around}(r:iT (k+1) A)(C:Addr)(us:List Value)(a:List (Str×Value)):iT k (A.under (.builtin "type.__call__" ⟨.ref C::us,a⟩)):=
 ⟨r.hd,by have:=r.dp;rw[Qu];lia,by have:=r.un;rw[Qv];lia⟩
theorem iT.depth{k:Nat}{A:Around}(r:iT k A):A.depth<recursionLimit:=by have:=r.dp;lia
theorem iT.units{k:Nat}{A:Around}(r:iT k A):A.units+64<cLine:=by have:=r.un;lia
def jL:TA:=fun _ H Q=>Q [] H
def zB(ta:TE)(tr:TA):TA:=fun zzs H Q=>ta zzs H fun x H1=>tr zzs H1 fun xs H2=>Q (x::xs) H2
section
variable{X:Cx}{e:Expr}{es:List Expr}{te:TE}{t:TA}{pos:Pos}
theorem Zf:PA X [] jL:=fun _ _ _ _ H Q I h=>Calls.spliced_nil ⟨[],H,I,.nil,h⟩
theorem Uo(c:PE X e te)(d:PA X es t)(f:starEach (e::es) X.env=(false,eval e X.env)::starEach es X.env:=by rfl):PA X (e::es) (zB te t):=by
 intro pos pins s zzs H Q I h;rw[f];show wpAny _ _ (spliced ((false,eval e X.env)::backTo pos (starEach es X.env))) _ _ s;refine Calls.spliced_cons (thn (c pins s zzs H _ I h) fun u s1 l=>?_);obtain⟨x,H1,a,j,g⟩:=l;exact thn (d pos pins s1 zzs H1 _ a g) fun m s2 ⟨xs,H2,b,k,i⟩=>⟨x::xs,H2,b,.cons j k,i⟩
def a6P(t:TA):TE:=fun zzs H Q=>t zzs H fun xs H1=>xs.length<=sizeLine/\∀ p,H1 p=none->Q (.ref p) (upd H1 p (.tup xs))
def a6N(t:TA):TE:=fun zzs H Q=>t zzs H fun xs H1=>xs.length<=sizeLine/\∀ p,H1 p=none->Q (.ref p) (upd H1 p (.lst xs))
theorem a6c {x1} (h:PA X es t):PE X (.Tuple es x1 pos) (a6P t):=by
 intro pins s zzs H Q I f;refine wpAny_Tuple_spliced (thn (h pos pins s zzs H _ I f) fun g s1 ⟨xs,H1,a,r,c,q⟩=>⟨by rw[<- r.length];exact c,?_⟩);have d:H1 s1.heap.objs.size=none:=a.hok.fresh (bK _);refine⟨.ref s1.heap.objs.size,upd H1 s1.heap.objs.size (.tup xs),a.laid (t':=s1.toks) (fun b u e=>fj _ e) (bK _) ?_,rfl,q _ d⟩;exact⟨c,g,r,⟨_,gn _ rfl,rfl,_,rfl⟩⟩
theorem a67(h:PA X es t):PE X (.List es pos) (a6N t):=by
 intro pins s zzs H Q I f;refine wpAny_List_spliced (thn (h pos pins s zzs H _ I f) fun g s1 ⟨xs,H1,a,r,c,q⟩=>⟨by rw[<- r.length];exact c,?_⟩);have d:H1 s1.heap.objs.size=none:=a.hok.fresh (bK _);refine⟨.ref s1.heap.objs.size,upd H1 s1.heap.objs.size (.lst xs),a.laid (t':=s1.toks) (fun b u e=>fj _ e) (bK _) ?_,rfl,q _ d⟩;exact⟨c,g,0,r,gn _ rfl⟩
end
abbrev Sp:=List V->Hp->VK->XK->Prop
abbrev CXT:=List Env->Hp->Shared->XK->Value->Shared->Prop
structure Py(P:Program)(w:World)(K:ao)(mg:Str->Option Value)(base:Heap)(A:Around)(outer:List Env)(s:Shared)(H:Hp):Prop where
 frames:A.frames=some outer
 mod:Mod K mg base
 bs:∀ b o,base.get? b=some o->s.heap.get? b=some o/\H b=none
 bsz:base.objs.size<=s.heap.objs.size
 yK:s.heap.FunFrames base outer
 frf:∀ b∈frs outer,H b=none
 hok:HOk P w H s.heap
 bare:AllBare s.gens
def CE(outer:List Env)(P:Program)(w:World)(H:Hp)(s:Shared)(Q:VK)(u:Value)(s':Shared):Prop:=
 ∃ v H',s'.os=s.os/\AllBare s'.gens/\Un (frs outer) [] H H' s.heap s'.heap/\HOk P w H' s'.heap/\RelV v u/\Q v H'
def CR(CX:CXT)(outer:List Env)(P:Program)(w:World)(H:Hp)(s:Shared)(Q:VK)(E:XK)(r:Result)(s':Shared):Prop:=
 match r with
 |.ok (.ret u)=>CE outer P w H s Q u s'
 |.ok _=>False
 |.error e=>CX outer H s E e s'
structure cR(P:Program)(w:World)(K:ao)(mg:Str->Option Value)(base:Heap)(CX:CXT)(k:Nat)(f:Addr)(fd:FuncData)(ps:List Str)(sp:Sp):Prop where
 len:∀ vs H Q E,sp vs H Q E->vs.length=ps.length
 run:∀(A:Around)(outer:List Env)(s:Shared)(H:Hp)(args:Args)(us:List Value)(vs:List V)(Q:VK)(E:XK),iT k A->Py P w K mg base A outer s H->BindsTo s fd args (ps.zip us)->Vals vs us->sp vs H Q E ->
  codeAny (model P w) A (.call (.ref f) args) (CR CX outer P w H s Q E) s
theorem Py.make{P:Program}{w:World}{K:ao}{a:Str->Option Value}{base:Heap}{A:Around}{b:List Env}{s:Shared}{H:Hp}(e:Py P w K a base A b s H)(C:Addr)(us:List Value)(c:List (Str×Value)) :
  Py P w K a base (A.under (.builtin "type.__call__" ⟨.ref C::us,c⟩)) b s H:=⟨by first|exact e.frames|(simpa [Around.under,Code.envs,Code.isFrame,pushEnvs] using e.frames),e.mod,e.bs,e.bsz,e.yK,e.frf,e.hok,e.bare⟩
section
variable{X:Cx}{pins:List (Addr×Obj)}{zzs:St}{H:Hp}{s s':Shared}
theorem Inv.env0(I:Inv X pins zzs H s):Py X.prog X.w X.K X.mg X.base X.A X.stack s H:=
 ⟨I.ok.frames,I.ok.mod,I.bs,cU I.ok.bsz I.sz,I.stack,I.zA,I.hok,I.bare⟩
theorem Inv.after{Q:VK}{u:Value}(I:Inv X pins zzs H s)(h:CE X.stack X.prog X.w H s Q u s'):EP X pins zzs Q u s':=by
 obtain⟨v,H',f,a,un,e,r,q⟩:=h;obtain⟨c,g,d,t,i⟩:=s';obtain rfl:i=s.os:=f;exact⟨v,H',I.call (h':=c) (g':=g) (d':=d) (t':=t) (ch:=[]) un e a (fun b j=>absurd j (by simp)),r,q⟩
end
def V9(sp:Sp)(dvs:List V)(E:XK)(t:TA):TE:=fun zzs H Q=>t zzs H fun vs H1=>sp (vs++dvs) H1 Q E
def a0v(C:Addr)(sp:Sp)(dvs:List V)(E:XK)(t:TA):TE:=fun zzs H Q=>t zzs H fun vs H1=>∀ x dx,H1 x=none->H1 dx=none->dx≠x ->
 sp (.ref x::(vs++dvs)) (upd (upd H1 dx (.own x)) x (.ins C dx [])) (fun v H2=>v=.non/\Q (.ref x) H2) E
def Binds(K:ao)(fd:FuncData)(ps:List Str)(ds:List Value):Prop:=
 ∀(s:Shared)(us:List Value),K.In s.heap->(us++ds).length=ps.length->BindsTo s fd ⟨us,[]⟩ (ps.zip (us++ds))
theorem Binds.all{K:ao}{b:FuncData}{a:List Str}(h:∀ us:List Value,us.length=a.length->bindArgs b ⟨us,[]⟩=pure (a.zip us)):Binds K b a []:=fun s us _ c=>by
 rw[qT] at c ⊢;exact .of_eq (h us c)
def Passes(CX:CXT)(X:Cx)(E:XK):Prop:=∀(pins:List (Addr×Obj))(zzs:St)(H:Hp)(s:Shared)(e:Value)(s':Shared),Inv X pins zzs H s->CX X.stack H s E e s'->X.xe e s'
section
variable{X:Cx}{CX:CXT}{k:Nat}{f C:Addr}{fd:FuncData}{ps:List Str}{sp:Sp}{dvs:List V}{ds:List Value}{E:XK}{x m:Str}{p pos apos:Pos}{e o:Expr}{es:List Expr}{ta:TE}{t:TA}
theorem a6F{b:List (Addr×Obj)}{zzs:St}{H:Hp}{s:Shared}{Q:VK}{us:List Value}{vs:List V}(F:cR X.prog X.w X.K X.mg X.base CX k f fd ps sp)(l:iT k X.A)(g:Binds X.K fd ps ds)(i:Vals dvs ds)(m:Passes CX X E)
  (I:Inv X b zzs H s) (r:Vals vs us) (h:sp (vs++dvs) H Q E):wpAny (model X.prog X.w) X.A (call (.ref f) us) (EP X b zzs Q) X.xe s:=by
 have c:Vals (vs++dvs) (us++ds):=r.append i;have j:(us++ds).length=ps.length:=by rw[<- c.length];exact F.len _ _ _ _ h
 refine M7 (qd (F.run X.A X.stack s H ⟨us,[]⟩ (us++ds) (vs++dvs) Q E l I.env0 (g s us I.kIn j) c h) fun r s' a=>?_);cases r with
 |error e=>exact m b zzs H s e s' I a
 |ok d=>
  cases d with
  |ret u=>exact I.after a
  |next=>exact False.elim a
  |brk=>exact False.elim a
  |cont=>exact False.elim a
theorem a2I(F:cR X.prog X.w X.K X.mg X.base CX k f fd ps sp)(o:iT k X.A)(j:Gl X x)(m:X.mg x=some (.ref f))(l:PySem.W.keepIn X.K (.ref f)=true)(c:Binds X.K fd ps ds)(d:Vals dvs ds)(u:Passes CX X E)
  (b:PA X (e::es) t) (g:(x==("__debug__" : Str))=false:=by decide) (i:starEach (e::es) X.env=(false,eval e X.env)::starEach es X.env:=by rfl) (n:(backTo pos (starEach es X.env)).any (·.1)=false:=by rfl) :
  PE X (.Call (.Name x p) (e::es) [] pos) (V9 sp dvs E t):=by
 intro pins s zzs H Q I h;refine BW (vU I j m ?_ g);refine RK (h₀:=X.base) I.ok.mod.kin l (thn (b pos pins s zzs H _ I h) fun v s1 ⟨y,H1,a,r,q⟩=>⟨a.kIn,?_⟩) i n;exact a6F F o c d u a r q
structure Mk(K:ao)(C f:Addr):Prop where
 makes:PySem.W.makesIn K C=true
 init:PySem.W.findIn K (.ref C) "__init__" = some (some (.ref f))
 fn:PySem.W.isFn K (.ref f)=true
 kp:PySem.W.keepIn K (.ref C)=true
theorem a00{d:List (Addr×Obj)}{zzs:St}{H:Hp}{s:Shared}{Q:VK}{us:List Value}{vs:List V}(M:Mk X.K C f)(F:cR X.prog X.w X.K X.mg X.base CX k f fd ps sp)(t:iT (k+1) X.A)(o:Binds X.K fd ps ds)(p:Vals dvs ds)
  (y:Passes CX X E) (I:Inv X d zzs H s) (r:Vals vs us)
  (h:∀ x c,H x=none->H c=none->c≠x->sp (.ref x::(vs++dvs)) (upd (upd H c (.own x)) x (.ins C c [])) (fun v j=>v=.non/\Q (.ref x) j) E) :
  wpAny (model X.prog X.w) X.A (call (.ref C) us) (EP X d zzs Q) X.xe s:=by
 have g:=h (s.heap.objs.size+1) s.heap.objs.size (I.hok.fresh (tL _)) (I.hok.fresh (bK _)) (dZ (yd _));have b:=Inv.made (C:=C) I;have i:Vals (V.ref (s.heap.objs.size+1)::(vs++dvs)) (Value.ref (s.heap.objs.size+1)::(us++ds)):=.cons rfl (r.append p);have q:(Value.ref (s.heap.objs.size+1)::us++ds).length=ps.length:=by
  have e:=i.length;rw[F.len _ _ _ _ g] at e;exact e.symm
 refine M7 (YM (f:=f) I.kIn M.makes M.init (lG.mp M.fn) (qd (F.run _ X.stack _ _ ⟨Value.ref (s.heap.objs.size+1)::us,[]⟩ (Value.ref (s.heap.objs.size+1)::(us++ds)) _ _ E (t.make C us [])
  (b.env0.make C us []) (o _ (Value.ref (s.heap.objs.size+1)::us) b.kIn q) i g) fun r s' a=>?_))
 cases r with
 |error e=>exact y d zzs _ _ e s' b a
 |ok n=>
  cases n with
  |ret u=>
   obtain⟨v,H',l,rv,m,z⟩:=b.after a;subst m;exact⟨rv,⟨V.ref (s.heap.objs.size+1),H',l,rfl,z⟩⟩
  |next=>exact False.elim a
  |brk=>exact False.elim a
  |cont=>exact False.elim a
theorem a2N(M:Mk X.K C f)(F:cR X.prog X.w X.K X.mg X.base CX k f fd ps sp)(n:iT (k+1) X.A)(j:Gl X x)(l:X.mg x=some (.ref C))(c:Binds X.K fd ps ds)(d:Vals dvs ds)(o:Passes CX X E)
  (b:PA X (e::es) t) (g:(x==("__debug__" : Str))=false:=by decide) (i:starEach (e::es) X.env=(false,eval e X.env)::starEach es X.env:=by rfl) (m:(backTo pos (starEach es X.env)).any (·.1)=false:=by rfl) :
  PE X (.Call (.Name x p) (e::es) [] pos) (a0v C sp dvs E t):=by
 intro pins s zzs H Q I h;refine BW (vU I j l ?_ g);refine RK (h₀:=X.base) I.ok.mod.kin M.kp (thn (b pos pins s zzs H _ I h) fun u s1 ⟨v,H1,a,r,q⟩=>⟨a.kIn,?_⟩) i m;exact a00 M F n c d o a r q
end
def PK(X:Cx)(kws:List Keyword)(t:TA):Prop:=
 ∀(pos:Pos)(pins:List (Addr×Obj))(s:Shared)(zzs:St)(H:Hp)(Q:List V->Hp->Prop),Inv X pins zzs H s->t zzs H Q->wpAny (model X.prog X.w) X.A (evalAll ((backToKw pos (keywordEach kws X.env)).map (·.2))) (AP X pins zzs Q) X.xe s
section
variable{X:Cx}{CX:CXT}{k:Nat}{f C:Addr}{fd:FuncData}{ps ks:List Str}{sp:Sp}{E:XK}{x m:Str}{p pos apos kpos:Pos}{e o:Expr}{es:List Expr}{kws:List Keyword}{te ta:TE}{t tk:TA}{nm:Option Str}
theorem a6i:PK X [] jL:=fun _ _ _ _ H Q I h=>wpAny_evalAll_nil ⟨[],H,I,.nil,h⟩
theorem a2W(c:PE X e te)(d:PK X kws t):PK X (⟨nm,e,kpos⟩::kws) (zB te t):=by
 intro pos pins s zzs H Q I h;show wpAny _ _ (evalAll ((do let v <- eval e X.env;standAt pos;pure v)::(backToKw pos (keywordEach kws X.env)).map (·.2))) _ _ s;refine wpAny_evalAll_cons (aR (thn (c pins s zzs H _ I h) fun u s1 ⟨x,H1,a,i,f⟩=>aR (Hl (bN ?_))));exact thn (d pos pins s1 zzs H1 _ a f) fun k s2 ⟨xs,H2,b,j,g⟩=>⟨x::xs,H2,b,.cons i j,g⟩
variable{g:List Value->List Value->List Value}{gV:List V->List V->List V}
end
structure aZ(N P:List Str)(sc:Scope):Prop where
 kind:sc.kind=.function
 co:sc.isCoroutine=false
 gen:sc.isGenerator=false
 nd:N.Nodup
 pre:N.take P.length=P
 par:∀ x∈P,sc.names.lookup x=some .local\/sc.names.lookup x=some .cell
 a5H:∀ y∈sc.names,y.2≠.free
theorem Ih{a:Str->Option NameKind}{x:Str}:∀ {binds:List (Str×Value)} {m:Str->Option Value},(∀ v,(x,v)∉binds)->bindL a binds m x=m x
 |[],_,_=>rfl
 |(n,v)::r,m,h=>by
  unfold bindL;rw[Ih fun w hw=>h w (gk _ hw)];split
  ·have:x≠n:=by rintro rfl;exact h v eF
   simp[this]
  ·rfl
theorem Ie{a:Str->Option NameKind}{x:Str}:∀ {binds:List (Str×Value)} {m:Str->Option Value},(∀ v,(x,v)∉binds)->bindC a binds m x=m x
 |[],_,_=>rfl
 |(n,v)::r,m,h=>by
  unfold bindC;rw[Ie fun w hw=>h w (gk _ hw)];split
  ·rfl
  ·have:x≠n:=by rintro rfl;exact h v eF
   simp[this]
theorem Ig{a:Str->Option NameKind}{x:Str}{v:Value}:∀ {P:List Str} {vs:List Value} {i:Nat} {m:Str->Option Value},P.Nodup->P[i]?=some x->vs[i]?=some v->a x=some .local ->
  bindL a (P.zip vs) m x=some v
 |[],_,_,_,_,h,_,_=>by simp at h
 |_::_,[],_,_,_,_,h,_=>by simp at h
 |p::P,w::vs,0,m,nd,h1,h2,hk=>by
  simp at h1 h2;subst h1;subst h2;show bindL a ((p,w)::P.zip vs) m p=_;unfold bindL;rw[Ih fun v b=>(Cj.mp nd).1 (Sq b).1,aK hk];simp
 |p::P,w::vs,i+1,m,nd,h1,h2,hk=>by
  show bindL a ((p,w)::P.zip vs) m x=_;unfold bindL;exact Ig (i:=i) (Cj.mp nd).2 (by simpa using h1) (by simpa using h2) hk
theorem Ib{a:Str->Option NameKind}{x:Str}{v:Value}:∀ {P:List Str} {vs:List Value} {i:Nat} {m:Str->Option Value},P.Nodup->P[i]?=some x->vs[i]?=some v->a x≠some .local ->
  bindC a (P.zip vs) m x=some v
 |[],_,_,_,_,h,_,_=>by simp at h
 |_::_,[],_,_,_,_,h,_=>by simp at h
 |p::P,w::vs,0,m,nd,h1,h2,hk=>by
  simp at h1 h2;subst h1;subst h2;show bindC a ((p,w)::P.zip vs) m p=_;unfold bindC;rw[Ie fun v b=>(Cj.mp nd).1 (Sq b).1,aJ hk];simp
 |p::P,w::vs,i+1,m,nd,h1,h2,hk=>by
  show bindC a ((p,w)::P.zip vs) m x=_;unfold bindC;exact Ib (i:=i) (Cj.mp nd).2 (by simpa using h1) (by simpa using h2) hk
def start(N:List Str)(vs:List V):St:=vs.map some++List.replicate (N.length-vs.length) none
def tY(CX:CXT)(P:Program)(w:World)(K:ao)(mg:Str->Option Value)(base:Heap)(N:List Str)(qual:Str)(scope:Scope)(f:Addr)(cd:Value)(A:Around)(outer:List Env)(s:Shared)(H:Hp)(E:XK):Cx where
 prog:=P
 w:=w
 K:=K
 mg:=mg
 base:=base
 A:=A.deeper (envOfC qual scope s.heap.objs.size f cd)
 N:=N
 s₀:=s
 H₀:=H
 env:=envOfC qual scope s.heap.objs.size f cd
 outer:=outer
 stack:=envOfC qual scope s.heap.objs.size f cd::outer
 ex:=[]
 calm:=true
 fn:=fun _=>true
 pn:=[]
 xe:=fun e s'=>wpAny (model P w) (A.deeper (envOfC qual scope s.heap.objs.size f cd)) (leaving (envOfC qual scope s.heap.objs.size f cd) e) (fun _ s''=>CX outer H s E e s'') (fun e' s''=>CX outer H s E e' s'') s'
theorem Mx{a:Scope}{n:Nat}{x:Str}(h:a.names.lookup x=some .cell):∃ c,(cellsFrom n a.names []).lookup x=some c:=by
 have q:=a1i a.names n [] (.inl h);exact a0Y.mp q
theorem W7{CX:CXT}{P:Program}{w:World}{K:ao}{z:Str->Option Value}{base:Heap}{N j:List Str}{t:Str}{scope:Scope}{f:Addr}{o:Value}{A:Around}{C:List Env}{s s1:Shared}{H:Hp}{E:XK}{us:List Value}{vs:List V}
  (S:aZ N j scope) (J:A.handled=none) (d:Py P w K z base A C s H) (M:vs.length=j.length) (r:Vals vs us)
  (x:InCallC s s.heap.objs.size (bindL (envOfC t scope s.heap.objs.size f o).kindOf (j.zip us) fun _=>none) (cellsFrom (s.heap.objs.size+1) scope.names []) (bindC (envOfC t scope s.heap.objs.size f o).kindOf (j.zip us) fun _=>none) s1) :
  Inv (tY CX P w K z base N t scope f o A C s H E) [] (start N vs) H s1:=by
 have O:j.length<=N.length:=by have:=congrArg List.length S.pre;rw[jd] at this;lia
 obtain⟨h1,tk,rfl,D⟩:=x.done;have B:∀ b:Addr,b∉(tY CX P w K z base N t scope f o A C s H E).ex:=fun b l=>absurd (show b∈([]:List Addr) from l) (by simp)
 refine⟨⟨d.mod,S.kind,rfl,rfl,bK _,fun y l c h1 h2=>?_,fun y g=>?_,fun y c _ h=>?_,fun _=>J,Around.frames_deeper d.frames,.inr ⟨rfl,rfl⟩,fun b l=>absurd l (B b),d.bs,d.bsz,fun b _ _=>B b,fun b l=>absurd l (B b),d.yK,d.frf⟩,
  rfl,d.bare,Un.kept D,⟨_,x.toInCall.ns,fun i y v h1 h2 L=>?_⟩,fun y c h=>⟨_,x.cell y c h⟩,d.hok.fresh (bK _),fun y c h=>?_,fun p m=>absurd (show p∈([]:List (Addr×Obj)) from m) (by simp),d.hok.kept D,?_⟩
 ·exact name_of_addr x.apart (GJ h1) (GJ h2)
 ·have g:scope.names.lookup y=some .cell\/scope.names.lookup y=some .free:=g;rcases g with g|g
  ·exact Mx g
  ·exact absurd rfl (S.a5H _ (GJ g))
 ·exact Cw (x.above y c (GJ h))
 ·have hi:i<vs.length:=by
   unfold start at h2;by_cases hi:i<vs.length
   ·exact hi
   ·rw[Hu (by simpa using hi)] at h2;rw[Rp] at h2;split at h2<;>cases h2
  have I:vs[i]?=some v:=by
   unfold start at h2;rw[Bx (by simpa using hi),cP] at h2;cases e:vs[i]? with
   |none=>rw[e] at h2;cases h2
   |some a=>rw[e] at h2;cases h2;rfl
  obtain⟨u,F,rv⟩:=r.get I;have m:j[i]?=some y:=by
   rw[<- S.pre,KR (by lia)];exact h1
  have G:j.Nodup:=by rw[<- S.pre];exact S.nd.sublist (List.take_sublist _ _)
  refine⟨u,rv,?_⟩;rcases S.par y (eX m) with k|k
  ·exact .inl ⟨k,Ig G m F k⟩
  ·obtain⟨c,e⟩:=Mx (n:=s.heap.objs.size+1) k;refine .inr ⟨.inl k,c,e,?_⟩;have q:=x.cell y c e;rw[Ib G m F (by show scope.names.lookup y≠_;rw[k];decide)] at q;exact q
 ·exact d.hok.fresh (Cw (x.above y c (GJ h)))
 ·unfold start;show _=N.length;rw[cH,aL,BJ];lia
theorem a7i{CX:CXT}{P:Program}{w:World}{K:ao}{l:Str->Option Value}{base:Heap}{k:Nat}{f:Addr}{name d:Str}{J:Arguments}{p:List Stmt}{scope:Scope}{D kV F L c ct ae:Value}{C af:Option Addr}
  {ag:Array (Option Value)} {N m:List Str} {sp:Sp} (ad:K.lookup f=some ⟨ae,af,.func (PySem.W.fnOf name d J p scope D kV F L C c ct),ag⟩) (T:PySem.W.codeIn K c d=true) (S:aZ N m scope)
  (len:∀ vs H Q E,sp vs H Q E->vs.length=m.length)
  (R:∀(A:Around)(h:List Env)(s:Shared)(H:Hp)(vs:List V)(Q:VK)(E:XK),iT k (A.deeper (envOfC d scope s.heap.objs.size f c))->sp vs H Q E ->
   ∃ t,PSs (tY CX P w K l base N d scope f c A h s H E) p t/\t { nx:=fun _ H'=>Q .non H',rt:=Q } (start N vs) H) :
  cR P w K l base CX (k+1) f (PySem.W.fnOf name d J p scope D kV F L C c ct) m sp:=by
 refine⟨len,fun A h s H ai ah vs Q E z i O r G=>?_⟩;have Y:=len _ _ _ _ G;have B:K.In s.heap:=i.mod.kin.keeps fun b o e=>(i.bs b o e).1
 have ac:s.heap.NoLimit:=i.mod.nolimit.keeps fun b o e=>(i.bs b o e).1
 have X:∀ y∈m.zip ah,scope.names.lookup y.1=some .local\/(scope.names.lookup y.1=some .cell/\((cellsFrom (s.heap.objs.size+1) scope.names []).lookup y.1).isSome=true):=fun⟨n,v⟩ ab=>by
  rcases S.par n (Sq ab).1 with q|q
  ·exact .inl q
  ·exact .inr ⟨q,a1i _ _ _ (.inl q)⟩
 refine codeAny_call_function z.depth (B _ _ ad) rfl S.co S.gen rfl (PySem.W.codeRec_of B T) (O _ _ _ _ ?_);refine wpAny_newFunctionEnv_cells S.kind X fun aj U s1 x=>?_
 subst U;refine⟨ac.keeps x.toInCall.keep,codeAny_func ?_⟩;obtain⟨t,aa,Z⟩:=R A h s H vs Q E (z.deeper _) G;have I:Inv (tY CX P w K l base N d scope f c A h s H E) [] (start N vs) H s1:=W7 S z.hd i Y r x;refine jy (aa [] s1 (start N vs) H _ I Z) (fun M s' g=>?_) fun e s' g=>g
 have fin:∀ {j:St} {H':Hp} {v:V} {u:Value},Inv (tY CX P w K l base N d scope f c A h s H E) [] j H' s'->RelV v u->Q v H'->CE h P w H s Q u s':=
  fun {j H' v u} a rv q=>⟨v,H',a.os,a.bare,a.base,a.hok,rv,q⟩
 cases M with
 |ret u=>
  obtain⟨v,j,H',a,rv,q⟩:=g;exact fin a rv q
 |next=>
  obtain⟨j,H',a,q⟩:=g;exact fin (v:=V.non) (u:=Value.none) a rfl q
 |brk=>
  obtain⟨_,_,_,q⟩:=g;exact False.elim q
 |cont=>
  obtain⟨_,_,_,q⟩:=g;exact False.elim q
section
variable{X:Cx}{x:Str}{p pos:Pos}{e:Expr}{es:List Expr}{t:TA}{id T:String}{r:List V->Hp->VK->Prop}
def tCB(r:List V->Hp->VK->Prop)(t:TA):TE:=fun zzs H Q=>t zzs H fun vs H1=>r vs H1 Q
theorem Zh(c:fH X (.builtin id) r)(g:Gl X x)(i:X.mg x=none)(l:bootBuiltins x=some (.builtin id))(b:PA X (e::es) t) (j:x ≠ "__name__":=by decide) (d:(x==("__debug__" : Str))=false:=by decide)
  (f:starEach (e::es) X.env=(false,eval e X.env)::starEach es X.env:=by rfl) (k:(backTo pos (starEach es X.env)).any (·.1)=false:=by rfl):PE X (.Call (.Name x p) (e::es) [] pos) (tCB r t):=by
 intro pins s zzs H Q I h;refine BW (xG I g i l ?_ j d);exact PyProof.Rows.callWith_builtin1 (thn (b pos pins s zzs H _ I h) fun o s1 ⟨q,H1,a,n,m⟩=>c pins s1 zzs H1 q o Q a n m) f k
theorem WR(c:fH X (.type T) r)(g:Gl X x)(i:X.mg x=none)(l:bootBuiltins x=some (.type T))(b:PA X (e::es) t) (j:x ≠ "__name__":=by decide) (d:(x==("__debug__" : Str))=false:=by decide)
  (f:starEach (e::es) X.env=(false,eval e X.env)::starEach es X.env:=by rfl) (k:(backTo pos (starEach es X.env)).any (·.1)=false:=by rfl):PE X (.Call (.Name x p) (e::es) [] pos) (tCB r t):=by
 intro pins s zzs H Q I h;refine BW (xG I g i l ?_ j d);exact KN (thn (b pos pins s zzs H _ I h) fun o s1 ⟨q,H1,a,n,m⟩=>c pins s1 zzs H1 q o Q a n m) f k
end
end L2
namespace HT
open PySem PyProof.Rows
section
open PySem.SeqAt
open PySem.AutoSeq1 (wpAny_loadPart')
open PySem.MeetsSeq PySem.MeetsSeq2 PySem.MeetsSeq3
end
section
variable{prog:Program}{w:World}{A:Around}{E:Value->Shared->Prop}{s:Shared}
def sIx(n d:Nat):Option Int->Nat
 |none=>d
 |some v=>if v<0 then(v+(n:Int)).toNat else min v.toNat n
theorem uK(n d:Nat):sIx n d none=d:=rfl
theorem zq(n d k:Nat):sIx n d (some (k:Int))=min k n:=by
 show(if(k:Int)<0 then((k:Int)+(n:Int)).toNat else min (k:Int).toNat n)=min k n;rw[aJ (by lia),gD]
theorem a01(n d:Nat)(b:d<=n)(o:Option Int):sIx n d o<=n:=by
 cases o with
 |none=>exact b
 |some v=>
  show(if v<0 then(v+(n:Int)).toNat else min v.toNat n)<=n;by_cases a:v<0
  ·rw[aK a];lia
  ·rw[aJ a];exact Nat.min_le_right _ _
end
end HT
namespace L2
open PySem PySem.Spec PyProof.Rows
abbrev TO:=St->Hp->(Option Int->Hp->Prop)->Prop
def PO(X:Cx)(e:Option Expr)(t:TO):Prop:=
 ∀(pins:List (Addr×Obj))(s:Shared)(zzs:St)(H:Hp)(Q:Option Int->Hp->Prop),Inv X pins zzs H s->t zzs H Q ->
  wpAny (model X.prog X.w) X.A (evalPart e X.env) (fun u s'=>∃ o H',Inv X pins zzs H' s'/\IsPart u o/\Q o H') X.xe s
def Va:TO:=fun _ H Q=>Q none H
def a4E(t:TE):TO:=fun zzs H Q=>t zzs H fun x H1=>∃ i,x=.int i/\Q (some i) H1
theorem intsAre_of{ns:List Int}:∀ {us:List Value},Vals (ns.map V.int) us->IntsAre us ns:=by
 induction ns with
 |nil=>intro us r;rw[Hq] at r;cases r;exact .nil
 |cons n ns a=>
  intro us r;rw[gq] at r;cases r with
  |cons b c=>
   obtain⟨t,e⟩:=b;subst e;exact .cons n t (a c)
section
variable{X:Cx}{e:Expr}{te:TE}{lo hi:Option Expr}{tl th:TO}{pos p2:Pos}
theorem a2X:PO X none Va:=by
 intro pins s zzs H Q I h;rw[evalPart_none];exact bN ⟨none,H,I,.none,h⟩
theorem a2Y(h:PE X e te):PO X (some e) (a4E te):=by
 intro pins s zzs H Q I hw;rw[evalPart_some];refine thn (h pins s zzs H _ I hw) fun u s1 d=>?_
 obtain⟨x,H1,a,c,b⟩:=d;obtain⟨i,rfl,q⟩:=b;obtain⟨t,rfl⟩:=c;exact⟨some i,H1,a,.int i t,q⟩
def SlR(X:Cx)(r:V->Option Int->Option Int->Hp->VK->Prop):Prop:=
 ∀(pins:List (Addr×Obj))(s:Shared)(zzs:St)(H:Hp)(x:V)(v vl vu:Value)(lo hi:Option Int)(sl:Addr)(Q:VK),Inv X pins zzs H s->RelV x v->s.heap.IsSliceOf sl vl vu .none->IsPart vl lo->IsPart vu hi->r x lo hi H Q ->
  ∃ T id,typeLookup (.type T) "__getitem__" = pure (some (.builtin id))/\s.TypeIs v T/\wpAny (model X.prog X.w) X.A (getItem v (.ref sl)) (EP X pins zzs Q) X.xe s
theorem SlR.or{r e:V->Option Int->Option Int->Hp->VK->Prop}(h:SlR X r)(h':SlR X e):SlR X (fun x lo a H Q=>r x lo a H Q\/e x lo a H Q):=by
 intro pins s zzs H x v i j lo a g Q I f b c d q;rcases q with q|q
 ·exact h pins s zzs H x v i j lo a g Q I f b c d q
 ·exact h' pins s zzs H x v i j lo a g Q I f b c d q
def tSl(r:V->Option Int->Option Int->Hp->VK->Prop)(te:TE)(tl th:TO):TE:=fun zzs H Q=>te zzs H fun x H1=>tl zzs H1 fun l H2=>th zzs H2 fun u H3=>r x l u H3 Q
theorem Zm{r:V->Option Int->Option Int->Hp->VK->Prop}(y:SlR X r)(o:PE X e te)(t:PO X lo tl)(B:PO X hi th):PE X (.Subscript e (.Slice lo hi none p2) pos) (tSl r te tl th):=by
 intro pins s zzs H Q I h;refine Subscript_ (thn (o pins s zzs H _ I h) fun v s1 f=>?_);obtain⟨x,H1,i,J,E⟩:=f;refine wpAny_Slice (thn (t pins s1 zzs H1 _ i E) fun c s2 ⟨l,H2,j,C,F⟩=>thn (B pins s2 zzs H2 _ j F) fun d a f=>?_);obtain⟨u,g,k,D,G⟩:=f;rw[evalPart_none];refine bN ?_;have m:Inv X pins zzs g { a with heap:=a.heap.push { cls:=.type "slice",data:=.fields #[c,d,.none] } }:=k.kept (t':=a.toks) fun b K q=>fj _ q
 obtain⟨T,id,n,z,p⟩:=y pins { a with heap:=a.heap.push { cls:=.type "slice",data:=.fields #[c,d,.none] } } zzs g x v c d l u a.heap.objs.size Q m J (Heap.IsSliceOf.new ..) C D G;show wpAny (model X.prog X.w) X.A (subscriptTail e (.Slice lo hi none p2) v (.ref a.heap.objs.size)) (EP X pins zzs Q) X.xe { a with heap:=a.heap.push { cls:=.type "slice",data:=.fields #[c,d,.none] } };exact tail_any (ops:=[.ref a.heap.objs.size,v]) z n p (by with_unfolding_all rfl)
def Ey(xs:List V)(lo hi:Option Int):List V:=(xs.drop (HT.sIx xs.length 0 lo)).take (HT.sIx xs.length xs.length hi-HT.sIx xs.length 0 lo)
theorem MJ(xs:List V)(lo a:Option Int):(Ey xs lo a).length<=xs.length:=by
 unfold Ey;rw[jd,vh];lia
end
def ixN(n:Nat)(i:Int):Option Nat:=if 0<=i then(if i<n then some i.toNat else none) else if -(n:Int)<=i then some (i+n).toNat else none
def atI{α:Type}(xs:List α)(i:Int):Option α:=(ixN xs.length i).bind fun j=>xs[j]?
theorem U9{n:Nat}{i:Int}{j:Nat}(h:ixN n i=some j):seqIndex? i n=some j/\j<n /\ -(n:Int)<=i/\i<n:=by
 unfold ixN at h;by_cases a:0<=i
 ·rw[aK a] at h;by_cases h1:i<n
  ·rw[aK h1] at h;have e:i.toNat=j:=iD h;exact⟨by rw[seqIndex_of a h1,e],by lia,by lia,h1⟩
  ·rw[aJ h1] at h;cases h
 ·rw[aJ a] at h;by_cases h1 : -(n:Int)<=i
  ·rw[aK h1] at h;have e:(i+n).toNat=j:=iD h;exact⟨by rw[seqIndex_neg (by lia) h1,e],by lia,h1,by lia⟩
  ·rw[aJ h1] at h;cases h
theorem JB{a:Type}{xs:List a}{i:Int}{v:a}(h:atI xs i=some v):∃ j,seqIndex? i xs.length=some j/\xs[j]?=some v/\j<xs.length /\ -(xs.length:Int)<=i/\i<xs.length:=by
 unfold atI at h;cases e:ixN xs.length i with
 |none=>rw[e] at h;cases h
 |some j=>
  rw[e] at h;obtain⟨h1,h2,b,c⟩:=U9 e;exact⟨j,h1,h,h2,b,c⟩
theorem dG{a:Type}{xs:List a}{j:Nat}{v:a}(h:xs[j]?=some v):atI xs (j:Int)=some v:=by
 have b:j<xs.length:=(gO.mp h).1;have e:ixN xs.length (j:Int)=some j:=by
  unfold ixN;rw[aK (by lia),aK (by lia)];simp
 unfold atI;rw[e];exact h
def Tc(b:Expr):Prop:=∀ o i,subscripted b false o i=operate [o,i] (getItem o i)
def IxR(X:Cx)(r:R2):Prop:=
 ∀(value slice:Expr)(pins:List (Addr×Obj))(s:Shared)(zzs:St)(H:Hp)(x y:V)(v u:Value)(Q:VK),Inv X pins zzs H s->RelV x v->RelV y u->r x y H Q ->
  subscripted slice false v u=operate [v,u] (getItem v u)->wpAny (model X.prog X.w) X.A (subscriptTail value slice v u) (EP X pins zzs Q) X.xe s
def MtR(X:Cx)(id:String)(r:V->List V->Hp->VK->Prop):Prop:=
 ∀(pins:List (Addr×Obj))(s:Shared)(zzs:St)(H:Hp)(x:V)(xs:List V)(v:Value)(us:List Value)(Q:VK),Inv X pins zzs H s->RelV x v->Vals xs us->r x xs H Q ->
  wpAny (model X.prog X.w) X.A (call (.builtin id) (v::us)) (EP X pins zzs Q) X.xe s
section
variable{X:Cx}{a b:Expr}{ta tb:TE}{pos:Pos}
theorem IxR.or{r b:R2}(h:IxR X r)(h':IxR X b):IxR X (fun x y H Q=>r x y H Q\/b x y H Q):=by
 intro value e pins s zzs H x y v u Q I c d q a;rcases q with q|q
 ·exact h value e pins s zzs H x y v u Q I c d q a
 ·exact h' value e pins s zzs H x y v u Q I c d q a
theorem a7D{r:R2}(f:IxR X r)(d:PE X a ta)(e:PE X b tb)(g:Tc b):PE X (.Subscript a b pos) (tOp r ta tb):=by
 intro pins s zzs H Q I h;exact Subscript_ (a4J d e I h fun v u s2 x y H2 c i j q=>f a b pins s2 zzs H2 x y v u Q c i j q (g _ _))
def a7P(K:ao):R2:=fun x y H Q=>∃ p xs i v,x=.ref p/\y=.int i/\SqL K H p xs/\atI xs i=some v/\Q v H
def a7R(K:ao):R2:=fun x y H Q=>∃ p xs i v,x=.ref p/\y=.int i/\SqT K H p xs/\atI xs i=some v/\Q v H
def a7Q:R2:=fun x y H Q=>∃ z i c,x=.str z/\y=.int i/\z.length<=sizeLine/\atI z.cps.toList i=some c/\Q (.str ⟨#[c]⟩) H
theorem a2h:IxR X (a7P X.K):=by
 intro value F pins s zzs H x y v u Q I z A h e;obtain⟨p,xs,i,B,rfl,rfl,m,k,q⟩:=h;cases z;obtain⟨t,rfl⟩:=A;obtain⟨n,r,b,E⟩:=I.list m;obtain⟨j,h1,h2,C,f,g⟩:=JB k;obtain⟨w,c,o⟩:=r.get h2;have l:=r.length;have D:=xJ;have fin:EP X pins zzs Q w s:=⟨B,H,I,o,q⟩
 by_cases d:0<=i
 ·have a:i.toNat=j:=by
   rw[seqIndex_of d g] at h1;exact iD h1
  exact item_listR b.isList d (by lia) (by rw[a];simpa using c) fin e
 ·have a:(i+(n.toArray.size:Int)).toNat=j:=by
   rw[seqIndex_neg (by lia) f] at h1;rw[dX,<- l];exact iD h1
  exact subscriptTail_builtinR (x:=w) b.isList.typeIs slot_list_getitem.lookup
   (wpAny_getItem_list_neg (Q:=fun r s'=>r=w/\EP X pins zzs Q r s') b.isList (by lia) (by rw[dX]<;>lia) (by lia) (by rw[a];simpa using c) ⟨rfl,fin⟩) e
theorem a5r:IxR X (a7R X.K):=by
 intro value D pins s zzs H x y v u Q I k l h f;obtain⟨p,xs,i,m,rfl,rfl,e,c,q⟩:=h;cases k;obtain⟨t,rfl⟩:=l;obtain⟨C,r,a,B⟩:=I.tuple e;obtain⟨j,h1,h2,n,o,z⟩:=JB c;obtain⟨w,b,g⟩:=r.get h2;have d:=r.length;have A:=xJ;have fin:EP X pins zzs Q w s:=⟨m,H,I,g,q⟩
 exact subscriptTail_builtinR (x:=w) a.typeIs slot_tuple_getitem.lookup
  (getItem_tuple (j:=j) (Q:=fun r s'=>r=w/\EP X pins zzs Q r s') a (by lia) (by lia) (by rw[dX,<- d];exact h1) (by simpa using b) ⟨rfl,fin⟩) f
theorem a5q:IxR X a7Q:=by
 intro value w pins s zzs H x y v u Q I m n h l;obtain⟨a,i,c,rfl,rfl,r,g,q⟩:=h;obtain⟨t,rfl⟩:=m;obtain⟨z,rfl⟩:=n;obtain⟨j,h1,h2,o,e,f⟩:=JB g;have k:a.cps.toList.length=a.length:=by simp[Str.length]
 rw[k] at h1 e f;have p:=xJ;exact tail_any (typeIs_str s a t) slot_str_getitem.lookup (getItem_str (c:=c) (by
  have b:decide (i < -(2^63:Int))=false:=cD (by lia);have d:decide (i>=2^63)=false:=cD (by lia);rw[b,d,Bool.or_false]) (by rw[h1];simpa using h2) ⟨.str ⟨#[c]⟩,H,I.tok _,⟨_,rfl⟩,q⟩) l
def rIx(K:ao):R2:=fun x y H Q=>a7P K x y H Q\/a7R K x y H Q\/a7Q x y H Q
theorem a5p:IxR X (rIx X.K):=a2h.or (a5r.or a5q)
theorem Qw(a:List Value)(n j:Nat)(u:Value):Obj.mapSeq (·.setIfInBounds j u) { cls:=.type "list",data:=.seq a.toArray n }={ cls:=.type "list",data:=.seq (a.set j u).toArray n }:=by
 simp[Obj.mapSeq]
theorem Inv.lst{b:List (Addr×Obj)}{zzs:St}{H:Hp}{s:Shared}{p:Addr}{xs:List V}(I:Inv X b zzs H s)(h:H p=some (.lst xs)) :
  ∃(a:List Value)(n:Nat),Vals xs a/\s.heap.get? p=some { cls:=.type "list",data:=.seq a.toArray n }/\xs.length<=sizeLine:=by
 obtain⟨c,a,n,r,e⟩:=I.hok p _ h;exact⟨a,n,r,e,c⟩
theorem Inv.a5z{i:List (Addr×Obj)}{zzs:St}{H:Hp}{s:Shared}{p:Addr}{xs c:List V}{g its':List Value}{n a:Nat}{f:Obj->Obj}(I:Inv X i zzs H s)(h:H p=some (.lst xs))
  (k:s.heap.get? p=some { cls:=.type "list",data:=.seq g.toArray n }) (d:f { cls:=.type "list",data:=.seq g.toArray n }={ cls:=.type "list",data:=.seq its'.toArray a }) (r:Vals c its') (hz:c.length<=sizeLine) (t:Nat) :
  Inv X i zzs (upd H p (.lst c)) { s with heap:=s.heap.update p f,toks:=t }:=by
 have e:(s.heap.update p f).get? p=some { cls:=.type "list",data:=.seq its'.toArray a }:=by
  rw[Dj f k (by rw[d]<;>rfl),d]
 refine I.write (x:=p) (e:=p) (by rw[h];trivial) (.inl rfl) (fun b u j q=>(Hv _ _ (iR j)).trans q) ⟨_,e⟩ ?_;exact⟨hz,its',a,r,e⟩
def a4m:V->V->V->Hp->(Hp->Prop)->Prop:=fun o i v H Q=>∃ p xs k j,o=.ref p/\i=.int k/\H p=some (.lst xs)/\ixN xs.length k=some j/\Q (upd H p (.lst (xs.set j v)))
theorem set_list:Xo X a4m:=by
 intro pins s zzs H o i v C B u Q I z y rv h;obtain⟨p,xs,k,j,rfl,rfl,l,w,q⟩:=h;cases z;obtain⟨t,rfl⟩:=y;obtain⟨m,n,r,c,x⟩:=I.lst l;obtain⟨h1,h2,f,g⟩:=U9 w;have b:=r.length;have A:=xJ;have d:Inv X pins zzs (upd H p (.lst (xs.set j v))) { s with heap:=s.heap.update p (Obj.mapSeq (·.setIfInBounds j u)) }:=
  I.a5z l c (Qw m n j u) (r.set rv j) (by rw[Lx];exact x) s.toks
 by_cases e:0<=k
 ·have a:k.toNat=j:=by
   rw[seqIndex_of e g] at h1;exact iD h1
  exact PySem.W.ki_setAt c e (by lia) (by rw[dX,<- b];exact g) (by rw[a];exact⟨_,d,q⟩)
 ·have a:(k+(m.toArray.size:Int)).toNat=j:=by
   rw[seqIndex_neg (by lia) f] at h1;rw[dX,<- b];exact iD h1
  exact PySem.W.ki_setBack c (by lia) (by rw[dX,<- b];exact f) (by lia) (by rw[a];exact⟨_,d,q⟩)
theorem zy(lo a:Option Int)(n:Nat):(sliceBounds lo a none n).1=((HT.sIx n 0 lo:Nat):Int)/\(sliceBounds lo a none n).2.1=((HT.sIx n n a:Nat):Int)/\(sliceBounds lo a none n).2.2=1:=by
 refine⟨?_,?_,rfl⟩
 ·cases lo with
  |none=>simp[sliceBounds,HT.sIx]
  |some i=>
   simp only[sliceBounds,HT.sIx,Option.getD_none,show(1:Int)>0 by decide,nF];by_cases h:i<0
   ·simp only[h,nF]<;>lia
   ·simp only[h,lB]<;>lia
 ·cases a with
  |none=>simp[sliceBounds,HT.sIx]
  |some i=>
   simp only[sliceBounds,HT.sIx,Option.getD_none,show(1:Int)>0 by decide,nF];by_cases h:i<0
   ·simp only[h,nF]<;>lia
   ·simp only[h,lB]<;>lia
theorem Ia(a:List Value)(lo b:Option Int):slicePick a.toArray lo b none=((a.drop (HT.sIx a.length 0 lo)).take (HT.sIx a.length a.length b-HT.sIx a.length 0 lo)).toArray:=by
 obtain⟨h1,h2,c⟩:=zy lo b a.toArray.size;unfold slicePick;rw[h1,h2,c];simp only[sliceRange_one,pick_run,dX]<;>rfl
def a7V(K:ao):V->Option Int->Option Int->Hp->VK->Prop:=fun x lo hi H Q=>∃ a xs,x=.ref a/\SqL K H a xs/\∀ p,H p=none->Q (.ref p) (upd H p (.lst (Ey xs lo hi)))
theorem a3K:SlR X (a7V X.K):=by
 intro pins s zzs H x v p t lo hi n Q I k e i j h;obtain⟨a,xs,rfl,f,q⟩:=h;cases k;obtain⟨l,r,c,g⟩:=I.list f;have d:=r.length;refine⟨"list",_,slot_list_getitem.lookup,c.isList.typeIs,?_⟩;refine wpAny_getItem_list_slice c.isList e i j .none (by simp) ?_ (by rw[dX]<;>lia);rw[Ia,<- d];refine⟨.ref s.heap.objs.size,_,I.laid (t':=s.toks) (o:=.lst (Ey xs lo hi)) (fun b m q=>fj _ q) (bK _) ?_,rfl,q _ (I.hok.fresh (bK _))⟩;exact⟨cU (MJ xs lo hi) g,_,0,(r.drop (HT.sIx xs.length 0 lo)).take (HT.sIx xs.length xs.length hi-HT.sIx xs.length 0 lo),gn _ rfl⟩
def U0:V->Bool
 |.non=>true
 |.bl _=>true
 |.int _=>true
 |.str _=>true
 |_=>false
def eqV:V->V->Bool
 |.non,.non=>true
 |.bl a,.bl b=>a==b
 |.bl a,.int b=>(if a then 1 else 0)==b
 |.int a,.bl b=>a==(if b then 1 else 0)
 |.int a,.int b=>a==b
 |.str a,.str b=>a==b
 |_,_=>false
theorem Yi{A:Around}{s:Shared}{y x:V}{u v:Value}(f:RelV y u)(c:RelV x v)(g:U0 y=true)(e:U0 x=true):SeqAt.EqAt A s u v (eqV y x):=by
 cases y with
 |non=>
  cases f;cases x with
  |non=>cases c;exact SeqAt.EqAt.same _
  |bl b=>cases c;exact SeqAt.EqAt.none_bool b
  |int b=>obtain⟨t,rfl⟩:=c;exact SeqAt.EqAt.none_int b t
  |str b=>obtain⟨t,rfl⟩:=c;exact SeqAt.EqAt.none_str b t
  |_=>exact absurd (show false=true from e) gC
 |bl a=>
  cases f;cases x with
  |non=>cases c;exact SeqAt.EqAt.bool_none a
  |bl b=>cases c;exact SeqAt.EqAt.bool_bool a b
  |int b=>obtain⟨t,rfl⟩:=c;exact SeqAt.EqAt.bool_int a b t
  |str b=>obtain⟨t,rfl⟩:=c;exact SeqAt.EqAt.bool_str a b t
  |_=>exact absurd (show false=true from e) gC
 |int a=>
  obtain⟨d,rfl⟩:=f;cases x with
  |non=>cases c;exact SeqAt.EqAt.int_none a d
  |bl b=>cases c;exact SeqAt.EqAt.int_bool a d b
  |int b=>obtain⟨t,rfl⟩:=c;exact SeqAt.EqAt.int_int a d b t
  |str b=>obtain⟨t,rfl⟩:=c;exact SeqAt.EqAt.int_str a d b t
  |_=>exact absurd (show false=true from e) gC
 |str a=>
  obtain⟨d,rfl⟩:=f;cases x with
  |non=>cases c;exact SeqAt.EqAt.str_none a d
  |bl b=>cases c;exact SeqAt.EqAt.str_bool a d b
  |int b=>obtain⟨t,rfl⟩:=c;exact SeqAt.EqAt.str_int a d b t
  |str b=>obtain⟨t,rfl⟩:=c;exact SeqAt.EqAt.str_str a d b t
  |_=>exact absurd (show false=true from e) gC
 |_=>exact absurd (show false=true from g) gC
theorem JF:fH X (.builtin "len") (fun xs H Q=>∃ p a,xs=[.ref p]/\(SqL X.K H p a\/SqT X.K H p a)/\Q (.int a.length) H):=by
 intro pins s zzs H xs k Q I r h;obtain⟨p,a,rfl,b,q⟩:=h;obtain⟨u,rfl,i⟩:=vals1 r;cases i;have j:=xJ;rcases b with b|b
 ·obtain⟨g,e,d,f⟩:=I.list b;have c:=e.length;exact Calls.call_len_list d.isList (by simp only[dX]<;>lia) ⟨.int a.length,H,I.tok _,⟨s.toks+1,by rw[dX,c]⟩,q⟩
 ·obtain⟨g,e,d,f⟩:=I.tuple b;have c:=e.length;exact len_tuple d (by simp only[dX]<;>lia) ⟨.int a.length,H,I.tok _,⟨s.toks+1,by rw[dX,c]⟩,q⟩
theorem JG:fH X (.builtin "len") (fun xs H Q=>∃ a,xs=[.str a]/\a.length<=sizeLine/\Q (.int a.length) H):=by
 intro pins s zzs H xs d Q I r h;obtain⟨a,rfl,c,q⟩:=h;obtain⟨u,rfl,t,rfl⟩:=vals1 r;have b:=xJ;exact len_str (by lia) ⟨.int a.length,H,I.tok _,⟨_,rfl⟩,q⟩
theorem fH.or{f:Value}{r a:List V->Hp->VK->Prop}(h:fH X f r)(h':fH X f a):fH X f (fun xs H Q=>r xs H Q\/a xs H Q):=by
 intro pins s zzs H xs c Q I b q;rcases q with q|q
 ·exact h pins s zzs H xs c Q I b q
 ·exact h' pins s zzs H xs c Q I b q
theorem JH:fH X (.type "list") (fun xs H Q=>∃ p f,xs=[.ref p]/\(SqL X.K H p f\/SqT X.K H p f)/\∀ l,H l=none->Q (.ref l) (upd H l (.lst f))):=by
 intro pins s zzs H xs y Q I r h;obtain⟨p,f,rfl,g,q⟩:=h;obtain⟨u,rfl,x⟩:=vals1 r;cases x;have fin:∀(a:List Value),Vals f a->f.length<=sizeLine->∀(h':Heap)(c:Nat),(∀ b o',s.heap.get? b=some o'->h'.get? b=some o') ->
   h'.get? s.heap.objs.size=some { cls:=.type "list",dict:=none,data:=.seq a.toArray c,slots:=#[] }->EP X pins zzs Q (.ref s.heap.objs.size) { s with heap:=h' }:=fun a d i h' c kp e=>
  ⟨.ref s.heap.objs.size,_,I.laid (t':=s.toks) kp (bK _) (show g8 X.prog X.w _ h' _ (.lst f) from⟨i,a,c,d,e⟩),rfl,q _ (I.hok.fresh (bK _))⟩
 rcases g with g|g
 ·obtain⟨a,d,t,i⟩:=I.list g;have v:=d.length;obtain⟨o,m,j,n,k⟩:=t.isList;exact call_list_seq p (.inl rfl) m j k (fun h' c kp e=>fin a d i h' c kp e) (by simp only[dX]<;>lia)
 ·obtain⟨a,d,t,i⟩:=I.tuple g;have v:=d.length;obtain⟨o,m,j,n,k⟩:=t;exact call_list_seq p (.inr rfl) m j k (fun h' c kp e=>fin a d i h' c kp e) (by simp only[dX]<;>lia)
def tyV(K:ao)(T:String)(x:V)(H:Hp):Prop:=match x with
 |.str _=>T = "str"
 |.int _=>T = "int"
 |.ref p=>(T = "list" /\ ∃ xs,SqL K H p xs)\/(T = "tuple" /\ ∃ o,K.lookup p=some o/\o.cls=.type "tuple" /\ o.dict=none) \/
   (T = "dict" /\ ((∃ kvs,H p=some (.dK kvs))\/∃ kvs,H p=some (.dT kvs)))\/(T = "set" /\ ∃ S n,H p=some (.set S n))
 |_=>False
theorem a0B{m:List (Addr×Obj)}{zzs:St}{H:Hp}{s:Shared}{T:String}{x:V}{v:Value}(I:Inv X m zzs H s)(r:RelV x v)(ty:tyV X.K T x H) :
  s.TypeIs v T/\∀ a,v=.ref a->∃ ob,s.heap.get? a=some ob/\ob.dict=none:=by
 cases x with
 |str g=>
  obtain⟨t,rfl⟩:=r;cases (show T = "str" from ty);exact⟨typeIs_str s g t,fun _ e=>nomatch e⟩
 |int i=>
  obtain⟨t,rfl⟩:=r;cases (show T = "int" from ty);exact⟨typeIs_int s i t,fun _ e=>nomatch e⟩
 |ref p=>
  cases r;rcases ty with⟨rfl,xs,k⟩|⟨rfl,o,b,j,f⟩|⟨rfl,b⟩|⟨rfl,q,n,b⟩
  ·obtain⟨u,_,h,_⟩:=I.list k;refine⟨h.isList.typeIs,fun a e=>?_⟩;cases e;obtain⟨o,n,e,c,f,_⟩:=h;exact⟨o,e,f⟩
  ·refine⟨⟨o,I.kIn p o b,j⟩,fun a e=>?_⟩;cases e;exact⟨o,I.kIn _ o b,f⟩
  ·have g:∃ o,s.heap.get? p=some o/\o.ExactDict:=by
    rcases b with⟨l,b⟩|⟨l,b⟩
    ·obtain⟨_,_,_,_,o,_,_,e,ex,_⟩:=I.hok p _ b;exact⟨o,e,ex⟩
    ·obtain⟨_,_,_,_,o,_,_,e,ex,_⟩:=I.hok p _ b;exact⟨o,e,ex⟩
   obtain⟨o,e,ex⟩:=g;refine⟨⟨o,e,ex.1⟩,fun a d=>?_⟩;cases d;exact⟨o,e,ex.2.1⟩
  ·obtain⟨o,_,_,_,e,ex,_⟩:=I.hok p _ b;refine⟨⟨o,e,ex.1⟩,fun a d=>?_⟩;cases d;exact⟨o,e,ex.2.1⟩
 |_=>exact False.elim ty
def a6K(K:ao)(T:String)(r:V->List V->Hp->VK->Prop)(to:TE):TE:=fun zzs H Q=>to zzs H fun x H1=>tyV K T x H1/\r x [] H1 Q
def tBM(K:ao)(T:String)(r:V->List V->Hp->VK->Prop)(to:TE)(t:TA):TE:=fun zzs H Q=>to zzs H fun x H1=>tyV K T x H1/\t zzs H1 fun xs H2=>r x xs H2 Q
variable{o e:Expr}{es:List Expr}{to:TE}{t:TA}{name:Str}{apos cpos:Pos}{T id:String}{r:V->List V->Hp->VK->Prop}
theorem a5Y(i:PlainAttrs T)(k:Slot T name id) (g:typeOf (.builtin id)=pure (.type "method_descriptor")) (e:MtR X id r) (f:PE X o to)
  (c:attributeBase o name X.env (eval o X.env)=eval o X.env:=by rfl) (d:(apos.endLine==cpos.line)=true:=by rfl):PE X (.Call (.Attribute o name apos) [] [] cpos) (a6K X.K T r to):=by
 intro pins s zzs H Q I h;refine wpAny_Call_method0_late c d (thn (f pins s zzs H _ I h) fun v s1 l=>?_);obtain⟨x,H1,a,b,ty,j⟩:=l;obtain⟨h1,h2⟩:=a0B a b ty;exact⟨T,id,i,k,g,h1,h2,Calls.callWith_builtin rfl (PySem.evalArgs_none (e pins s1 zzs H1 x [] v [] Q a b .nil j))⟩
theorem a7C(q:PlainAttrs T)(z:Slot T name id) (p:typeOf (.builtin id)=pure (.type "method_descriptor")) (k:MtR X id r) (l:PE X o to) (f:PA X (e::es) t)
  (g:attributeBase o name X.env (eval o X.env)=eval o X.env:=by rfl)
  (i:((backTo cpos (starEach (e::es) X.env)).all (fun x=>!x.1)&&(backToKw cpos (keywordEach [] X.env)).all (fun x=>x.1.isSome)
   && decide ((e::es).length+([]:List Keyword).length+(if([]:List Keyword).isEmpty then 0 else 1)<30))=true:=by rfl)
  (j:(apos.endLine==cpos.line)=true:=by rfl) (n:starEach (e::es) X.env=(false,eval e X.env)::starEach es X.env:=by rfl) (m:(backTo cpos (starEach es X.env)).any (·.1)=false:=by rfl) :
  PE X (.Call (.Attribute o name apos) (e::es) [] cpos) (tBM X.K T r to t):=by
 intro pins s zzs H Q I h;refine wpAny_Call_method_late g i j rfl (thn (l pins s zzs H _ I h) fun v s1 C=>?_);obtain⟨x,H1,a,c,ty,u⟩:=C;obtain⟨h1,h2⟩:=a0B a c ty;refine⟨T,id,q,z,p,h1,h2,?_⟩;have b:=f cpos pins s1 zzs H1 _ a u;rw[n] at b ⊢;refine Calls.callWith_builtin (by show(false||(backTo cpos (starEach es X.env)).any (·.1))=false;rw[m]<;>rfl) (Calls.evalArgs_plain ?_);exact thn b fun A s2 ⟨B,H2,d,y,w⟩=>k pins s2 zzs H2 x B v A Q d c y w
end
def MtM(X:Cx)(id:String)(r:V->List V->Hp->VK->Prop):Prop:=
 ∀(pins:List (Addr×Obj))(s:Shared)(zzs:St)(H:Hp)(x:V)(xs:List V)(v:Value)(us:List Value)(Q:VK),Inv X pins zzs H s->RelV x v->Vals xs us->r x xs H Q ->
  wpAny (model X.prog X.w) X.A (call (.builtin id) (v::us)) (EP X pins zzs Q) X.xe s
theorem Vals.one{x:V}{us:List Value}(h:Vals [x] us):∃ u,us=[u]/\RelV x u:=by
 cases h with
 |cons r t=>cases t;exact⟨_,rfl,r⟩
theorem Vals.zero:∀ {us:List Value},Vals [] us->us=[]
 |_,.nil=>rfl
theorem Vals.dropLast{xs:List V}{us:List Value}(h:Vals xs us):Vals xs.dropLast us.dropLast:=by
 induction h with
 |nil=>exact .nil
 |cons r t a=>
  cases t with
  |nil=>exact .nil
  |cons q b=>exact .cons r a
theorem Vals.rep{xs:List V}{us:List Value}(h:Vals xs us):∀ k:Nat,Vals (List.replicate k xs).flatten (List.replicate k us).flatten
 |0=>.nil
 |k+1=>by
  rw[uZ,uZ,BZ,BZ];exact Vals.append h (Vals.rep h k)
theorem Qm{d:Type}(l:List d):l.eraseIdx (l.length-1)=l.dropLast:=by
 induction l with
 |nil=>rfl
 |cons a r c=>
  cases r with
  |nil=>rfl
  |cons b r=>
   have e:(a::b::r).length-1=((b::r).length-1)+1:=by
    have h1:(a::b::r).length=r.length+2:=rfl;have h2:(b::r).length=r.length+1:=rfl;lia
   rw[e,a1e,c]
   all_goals rfl
theorem foldl_rep(a:List Value):∀(k:Nat)(acc:List Value),
  List.foldl (fun c d=>c++d) acc.toArray (List.replicate k a.toArray)=(acc++(List.replicate k a).flatten).toArray
 |0,acc=>by simp
 |k+1,acc=>by
  have e:acc.toArray++a.toArray=(acc++a).toArray:=by simp
  have b:(acc++a)++(List.replicate k a).flatten=acc++(List.replicate (k+1) a).flatten:=by
   rw[uZ,BZ,zG]
  rw[<- b,<- foldl_rep a k (acc++a),<- e,uZ,vG]
section
variable{X:Cx}{pins:List (Addr×Obj)}{zzs:St}{H:Hp}{s:Shared}{l b:Addr}{xs ys zs:List V}
theorem Inv.a7w{a its':List Value}{n:Nat}{f:Array Value->Array Value}{t':Nat}(I:Inv X pins zzs H s)(b:H l=some (.lst xs))
  (e:s.heap.get? l=some { cls:=.type "list",data:=.seq a.toArray n }) (d:f a.toArray=its'.toArray) (h:Vals ys its') (hz:ys.length<=sizeLine) :
  Inv X pins zzs (upd H l (.lst ys)) { s with heap:=s.heap.update l (Obj.mapSeq f),toks:=t' }:=by
 have q:=PySem.IsL.update e f;rw[d] at q;refine I.write (x:=l) (e:=l) (by rw[b];exact trivial) (.inl rfl) (fun i u c g=>(Hv s.heap (Obj.mapSeq f) (iR c)).trans g) ⟨_,q⟩ ?_;exact⟨hz,its',_,h,q⟩
theorem Inv.a7v{a:List Value}{t':Nat}(I:Inv X pins zzs H s)(b:Vals ys a)(hz:ys.length<=sizeLine) :
  Inv X pins zzs (upd H s.heap.objs.size (.lst ys)) { s with heap:=s.heap.push { cls:=.type "list",data:=.seq a.toArray },toks:=t' }:=
 I.laid (fun _ _ q=>fj _ q) (bK _) ⟨hz,a,0,b,gn _ rfl⟩
theorem Inv.fresh(I:Inv X pins zzs H s):H s.heap.objs.size=none:=I.hok.fresh (bK _)
theorem Inv.YJ(I:Inv X pins zzs H s)(b:H l=some (.lst xs)):xs.length<=sizeLine/\∃(a:List Value)(n:Nat),Vals xs a/\xs.length=a.length/\s.heap.get? l=some { cls:=.type "list",data:=.seq a.toArray n }:=by
 obtain⟨c,a,n,r,e⟩:=I.hok l _ b;exact⟨c,a,n,r,r.length,e⟩
theorem YZ{n:Nat}(h:n<=sizeLine):Builtin.List.listTooLong n=false:=by
 unfold Builtin.List.listTooLong;exact cD (by lia)
end
section
variable{X:Cx}
def Ut:V->List V->Hp->VK->Prop:=fun x vs H Q=>∃ l xs y,x=.ref l/\vs=[y]/\H l=some (.lst xs)/\xs.length<sizeLine/\Q .non (upd H l (.lst (xs++[y])))
theorem dO:MtM X "list.append" Ut:=by
 intro pins s zzs H x j v i Q I d rv h;obtain⟨l,xs,y,rfl,rfl,a,g,q⟩:=h;cases d;obtain⟨u,rfl,c⟩:=rv.one;obtain⟨k,b,n,r,f,e⟩:=I.YJ a;refine yu F.slot_list_append ⟨_,e,rfl⟩ F.entry_list_append (F.args_list_append_2 _ _) (PySem.list_append l b.toArray n u (by rw[dX];lia)) ⟨e,?_⟩;refine⟨.non,_,I.a7w (its':=b++[u]) a e (by simp) (r.append (.cons c .nil)) ?_,rfl,q⟩;rw[cH,jC];lia
def a8V:V->List V->Hp->VK->Prop:=fun x vs H Q=>∃ l xs y,x=.ref l/\vs=[]/\H l=some (.lst xs)/\xs[xs.length-1]?=some y/\Q y (upd H l (.lst xs.dropLast))
theorem a5G:MtM X "list.pop" a8V:=by
 intro pins s zzs H x o v m Q I k rv h;obtain⟨l,xs,y,rfl,rfl,b,g,q⟩:=h;cases k;have f:=rv.zero;subst f;obtain⟨p,a,n,r,c,e⟩:=I.YJ b;obtain⟨u,d,j⟩:=r.get g;have i:a.toArray[a.toArray.size-1]?=some u:=by
  show a.toArray[a.length-1]?=some u;rw[<- wM,<- c];exact d
 refine yu F.slot_list_pop ⟨_,e,rfl⟩ F.entry_list_pop (F.args_list_pop_1 _) (MeetsSeq.list_pop_last l a.toArray n u i (by rw[dX];lia)) ⟨e,?_⟩;refine⟨y,_,I.a7w (its':=a.dropLast) b e ?_ r.dropLast ?_,j,q⟩
 ·show a.toArray.eraseIdxIfInBounds (a.toArray.size-1)=a.dropLast.toArray;rw[dX,List.eraseIdxIfInBounds_toArray,Qm]
 ·rw[List.length_dropLast];lia
def a8S:R2:=fun x y H Q=>∃ l b xs zs,x=.ref l/\y=.ref b/\H l=some (.lst xs)/\H b=some (.lst zs)/\xs.length+zs.length<=sizeLine/\∀ p,H p=none->Q (.ref p) (upd H p (.lst (xs++zs)))
theorem a5Q:OpR X (binaryOp .Add) a8S:=by
 intro pins s zzs H x y v u Q I k m h;obtain⟨l,b,xs,zs,rfl,rfl,i,g,t,q⟩:=h;cases k;cases m;obtain⟨z,a,n,r,o,e⟩:=I.YJ i;obtain⟨A,c,w,j,p,d⟩:=I.YJ g;refine PySem.P.add_list e d ?_ (by rw[dX,dX];lia);have f:a.toArray++c.toArray=(a++c).toArray:=by simp
 rw[f];exact⟨.ref _,_,I.a7v (t':=s.toks) (r.append j) (by rw[cH];omega),rfl,q _ I.fresh⟩
def a8W:R2:=fun x y H Q=>∃ l k xs,x=.ref l/\y=.int k/\H l=some (.lst xs) /\ -(2^63)<=k/\k<2^63/\xs.length*k.toNat<=sizeLine /\
 ∀ p,H p=none->Q (.ref p) (upd H p (.lst (List.replicate k.toNat xs).flatten))
theorem len_rep{b:Type}(xs:List b)(k:Nat):(List.replicate k xs).flatten.length=k*xs.length:=by
 induction k with
 |zero=>simp
 |succ k a=>rw[uZ,BZ,cH,a,M4,Nat.add_comm]
theorem a5W:OpR X (binaryOp .Mult) a8W:=by
 intro pins s zzs H x y v u Q I B C h;obtain⟨l,k,xs,rfl,rfl,j,h1,h2,f,q⟩:=h;cases B;obtain⟨t,rfl⟩:=C;obtain⟨E,b,n,r,w,e⟩:=I.YJ j;have z:b.toArray.size*k.toNat<=sizeLine:=by rw[dX,<- w];exact f
 have o:¬b.toArray.size*k.toNat>(2^63-1) / 8:=by
  have:(sizeLine:Nat)<=(2^63-1) / 8:=by decide
  lia
 have p:¬(!Builtin.List.listFitsIndex k)=true:=by
  rw[fitsIndex_both h1 h2];exact gC
 have g:¬Builtin.List.listTooLong (b.toArray.size*k.toNat)=true:=by
  rw[YZ z];exact gC
 have A:List.foldl (fun c d=>c++d) #[] (List.replicate (if b.toArray.isEmpty=true then 0 else k.toNat) b.toArray)=(List.replicate k.toNat b).flatten.toArray:=by
  have i:∀ m:Nat,List.foldl (fun c d=>c++d) #[] (List.replicate m b.toArray)=(List.replicate m b).flatten.toArray:=fun m=>by
   have:=foldl_rep b m [];rw[List.nil_append] at this;exact this
  rw[i];cases b with
  |nil=>simp
  |cons a D=>rw[aJ (by simp)]
 refine wpAny_binaryOp_repeat_ref (T:="list") (U:="int") (by decide) ⟨_,e,rfl⟩ (fun s'=>typeIs_int s' k t) noFill_list_mul F.fills_int_mul F.slot_int_rmul repeat_list F.slot_int_index.lookup
  (yu F.slot_int_rmul (typeIs_int s k t) F.entry_int_rmul (F.args_int_rmul_2 _ _) (int___rmul___int_list k t l b.toArray n)
   ⟨e,rfl,⟨_,e,rfl⟩,yu F.slot_list_mul ⟨_,e,rfl⟩ F.entry_list_mul (F.args_list_mul_2 _ _) (AutoListH.list___mul___list_int_3 l b.toArray n k t p o g) ⟨e,?_⟩⟩)
 rw[A];exact⟨.ref _,_,I.a7v (t':=s.toks) (r.rep k.toNat) (by rw[len_rep,Nat.mul_comm];exact f),rfl,q _ I.fresh⟩
end
end L2
namespace Att
open PySem PySem.W PySem.Calls PyProof.Rows
theorem Dz{P:Params}{h:Heap}:∀(ns:List Int)(vs:List Value),WellAll P h vs (ns.map WData.int)->IntsAre vs ns:=by
 intro ns
 induction ns with
 |nil=>
  intro vs w;rw[Hq] at w;cases w;exact .nil
 |cons n ns c=>
  intro vs w;rw[gq] at w;cases w with
  |cons a b=>
   cases a;exact .cons _ _ (c _ b)
theorem Xc{l:OpenLaw}{n:Nat}(m:l.most=some n){P:Params}{h:Heap}{args:List WData}{g:List Value}
  (f:l.row.toRowW.claim.pre args=true) (s:WellAll P h g args) :
  ∃ a vs ns,g=[Value.ref a]/\args=[WData.list (ns.map WData.int)]/\h.get? a=some { cls:=.type "list",data:=.seq vs.toArray }/\IntsAre vs ns/\ns.length<=n:=by
 have p:WShape.hasAll [] args [.list .int]=true:=(pre_splitW f).1;have e:l.pre.holds [] { args:=args }=true:=(pre_splitW f).2;obtain⟨d,r,rfl,h1,h2⟩:=hasAllW_cons p;obtain rfl:=hasAllW_nil h2;obtain⟨xs,rfl,i⟩:=hasW_list h1;obtain⟨ns,rfl⟩:=items_int i;have k:ns.length<=n:=by
  unfold OpenLaw.pre at e;have b:(WTm.not (.lt (.lit (.int (n:Int))) (.len (.arg 0)))).holds [] { args:=[.list (ns.map .int)] }=true:=by
   have b:=(holds_andW e).1;rw[m] at b;exact b
  have c:=condW_of b (w_not (w_lt w_lit (w_len_list (w_arg rfl))));rw[aL] at c;refine Nat.le_of_not_lt fun q=>?_
  have t:(n:Int)<((ns.length:Nat):Int):=by omega
  first
   |(rw[bQ t] at c;exact absurd c (by decide))
   |(simp at c;omega)
 cases s with
 |cons u v=>
  cases v;cases u with
  |list o j=>exact⟨_,_,ns,rfl,rfl,o,Dz ns _ j,k⟩
theorem X4(l:OpenLaw)(args:List WData):l.row.toRowW.claim.post args (.bool true) args=true:=
 postW_of (r:=l.row.toRowW) (X:=(true==true))
  (show WShape.has [] (.bool true) .bool=true by first|rfl|decide|simp[WShape.has,WShape.arms,WShape.armsAll])
  (show(WTm.eq .res (.lit (.bool true))).value [] { args:=args,res:=some (.bool true),after:=args }=some (.bool (true==true)) from w_eq_bool (w_res rfl) w_lit) rfl
theorem Mu{l:OpenLaw}{n:Nat}{q:Program}{t:List Str}{XP:(Str->Option Value)->Heap->Prop}{p:World->Heap->Prop}{d:DefRec}
  (H:l.most=some n) (B:d.params.defaults=[])
  (call:∀(w:World)(m b:Shared)(g j:Str->Option Value)(c:Addr)(o:Obj)(k e i:Value)(a:Addr)(vs:List Value)(ns:List Int),
   Ground q t [] XP w m g j b.heap->p w b.heap ->
   b.heap.get? c=some o->o.data=.func (docDef d.name d.params d.body d.scope k e i)->b.heap.CodeRec e d.name->g d.name=some (.ref c) ->
   b.heap.get? a=some { cls:=.type "list",data:=.seq vs.toArray }->IntsAre vs ns->ns.length<=n->b.gens=#[] ->
   codeAny (model l.prog w) callerA (.call (.ref c) ⟨[.ref a],[]⟩) (fun r h=>r=.ok (.ret (.bool true))/\OldK b.heap h.heap/\h.os=b.os/\AllBare h.gens) b) :
  WalkO q t XP p l.row.toRowW d [] (fun f vs=>PySem.call f vs):=by
 intro w m b g j u Y c o k e i v kV I A z s G C N S O K P R M Q;obtain rfl:v=.none:=Dflts.none s B;obtain rfl:kV=.none:=Dflts.noKw s;obtain⟨a,vs,ns,rfl,rfl,J,D,E⟩:=Xc H K M;refine enter_call (qd (call w m b g j c o k e i a vs ns u Y I (fd_plain A) z G J D E C) fun r h L=>?_);obtain⟨rfl,h2,x,y⟩:=L;exact⟨.inl ⟨.bool true,.bool true,[],rfl,fun _=>rfl,.bool true,X4 l _,fun _=>⟨List.Pairwise.nil,fun _ F=>(nomatch F)⟩⟩,h2,x,y⟩
end Att
namespace L2
open PySem PySem.Spec PyProof.Rows
theorem Jt:∀ {vs:List Value} {ns:List Int},IntsAre vs ns->Vals (ns.map V.int) vs
 |_,_,.nil=>.nil
 |_,_,.cons n t h=>.cons ⟨t,rfl⟩ (Jt h)
def Only(H:Hp):Prop:=∀ b,H b=none\/∃ o xs,H b=some (.frz o (.lst xs))
theorem YD{P:Program}{w:World}{K:ao}{l C:Str->Option Value}{CX:CXT}{k:Nat}{A a:Addr}{J:FuncData}{x:Str}{sp:Sp}{c:Shared}{vs:List Value}{ns:List Int}
  (D:K.In c.heap) (R:c.heap.Ns mainGlobals l) (g:c.heap.Ns builtinsNs C) (ad:∀ x:Str,x ≠ "__name__" -> C x=bootBuiltins x) (ag:c.heap.NoLimit) (af:c.gens=#[])
  (t:c.heap.get? a=some { cls:=.type "list",data:=.seq vs.toArray }) (O:IntsAre vs ns) (Q:ns.length<=sizeLine) (ai:iT k callerA)
  (F:∀ base:Heap,K.In base->base.Ns mainGlobals l->cR P w K l base CX k A J [x] sp) (ae:∀(s:Shared)(u:Value),BindsTo s J ⟨[u],[]⟩ [(x,u)])
  (aj:∀ H:Hp,Only H->SqL K H a (ns.map V.int)->sp [.ref a] H (fun v _=>v=.bl true) fun _ _ _=>False)
  (Z:∀ H e i,CX [] H c (fun _ _ _=>False) e i->False) :
  codeAny (model P w) callerA (.call (.ref A) ⟨[.ref a],[]⟩) (fun r i=>r=.ok (.ret (.bool true))/\OldK c.heap i.heap/\i.os=c.os/\AllBare i.gens) c:=by
 have rv:=Jt O;have ak:=O.length;have G:∀ H:Hp,Only H->SqL K H a (ns.map V.int)->HOk P w H c.heap->(∀ b,H b≠none->b=a)->(H a≠none->K.lookup a=none) ->
   codeAny (model P w) callerA (.call (.ref A) ⟨[.ref a],[]⟩) (fun r i=>r=.ok (.ret (.bool true))/\OldK c.heap i.heap/\i.os=c.os/\AllBare i.gens) c:=by
  intro H N ac S L aa;have E:∀ {b:Addr} {o:Obj},c.heap.get? b=some o->H b=none->(K8 c.heap H).get? b=some o:=fun e n=>Yq e n
  have al:∀ {b:Addr} {o:Obj} {es:Array DictEntry} {j:Nat},c.heap.get? b=some o->o.data=.dict es j->H b=none:=fun {b o es j} e d=>by
   cases q:H b with
   |none=>rfl
   |some u=>
    have z:b=a:=L b (by rw[q];simp);subst z;rw[t] at e;cases e;have U:Data.seq vs.toArray _=Data.dict es j:=d;cases U
  have y:∀ {b:Addr} {m:Str->Option Value},c.heap.Ns b m->(K8 c.heap H).Ns b m:=fun {b m} ⟨o,es,j,e,d,r⟩=>⟨o,es,j,E e (al e d),d,r⟩
  have M:K.In (K8 c.heap H):=fun b o e=>E (D b o e) (by
   cases q:H b with
   |none=>rfl
   |some u=>
    have z:b=a:=L b (by rw[q];simp);subst z;rw[aa (by rw[q];simp)] at e;cases e)
  have ab:Mod K l (K8 c.heap H):=⟨M,y R,⟨C,y g,ad⟩,let ⟨mc,h1,h2⟩:=ag;⟨mc,y h1,h2⟩⟩
  have W:Py P w K l (K8 c.heap H) callerA [] c H:=⟨rfl,ab,fun b o e=>a2w e,Nat.le_of_eq (W6 _ _),trivial,fun b g=>absurd (show b∈([]:List Addr) from g) (by simp),S,.of_eq af⟩
  refine qd ((F _ M (y R)).run callerA [] c H ⟨[.ref a],[]⟩ [.ref a] [.ref a] _ _ ai W (ae c (.ref a)) (.cons rfl .nil) (aj H N ac)) fun r i h=>?_
  cases r with
  |error e=>exact(Z H e i h).elim
  |ok Y=>
   cases Y with
   |next=>exact False.elim h
   |brk=>exact False.elim h
   |cont=>exact False.elim h
   |ret u=>
    obtain⟨v,H',an,T,un,ah,aq,q⟩:=h;have ap:v=.bl true:=q;subst ap;obtain rfl:u=Value.bool true:=aq;refine⟨rfl,OldK.of_keep fun b o e=>?_,an,T⟩;cases q:H b with
    |none=>exact un.keep b o e q (by intro f;exact absurd (show b∈([]:List Addr) from f) (by simp)) (by simp)
    |some u=>
     rcases N b with f|⟨am,xs,f⟩
     ·rw[q] at f;cases f
     ·have ar:=un.rK b am _ f;obtain⟨I,_⟩:=S b _ f;obtain⟨X,_⟩:=ah b _ ar;rw[e] at I;cases I;exact X
 cases B:K.lookup a with
 |some o=>
  have e:=D a o B;rw[t] at e;cases e;refine G (fun _=>none) (fun _=>.inl rfl) (.inr ⟨_,vs.toArray,_,B,rfl,rfl,rfl,by rw[dX,ak];exact Q,by simpa using rv⟩) (fun b u f=>by have p:(none:Option HO)=some u:=f;cases p) (fun b f=>absurd rfl f) fun f=>absurd rfl f
 |none=>
  refine G (fun b=>if b=a then some (.frz { cls:=.type "list",data:=.seq vs.toArray } (.lst (ns.map V.int))) else none) (fun b=>?_) (.inl (.inr ⟨{ cls:=.type "list",data:=.seq vs.toArray },aK rfl⟩)) (fun b u f=>?_) (fun b f=>?_) fun _=>B
  ·by_cases g:b=a
   ·exact .inr ⟨_,_,aK g⟩
   ·exact .inl (aJ g)
  ·by_cases g:b=a
   ·have p:=(aK g).symm.trans f;cases p;subst g;exact⟨t,by rw[aL];exact Q,vs,_,rv,t⟩
   ·have p:=(aJ g).symm.trans f;cases p
  ·by_cases g:b=a
   ·exact g
   ·exact absurd (aJ g) f
theorem a3R{l:PySem.W.OpenLaw}{n k:Nat}{q:Program}{R:List Str}{XP:(Str->Option Value)->Heap->Prop}{t:World->Heap->Prop}{d:DefRec}{K:Params->ao}{CX:World->CXT}{sp:World->Sp}{x:Str}
  (M:l.most=some n) (N:n<=sizeLine) (G:d.params.defaults=[]) (P:iT k callerA)
  (D:∀(w:World)(h:Heap),t w h->(K w.params).In h)
  (F:∀(w:World)(c:Str->Option Value)(j:Addr)(h:Heap),(K w.params).In h->h.Ns mainGlobals c->c d.name=some (.ref j) ->
   ∃ m:FuncData,(∀(s:Shared)(u:Value),BindsTo s m ⟨[u],[]⟩ [(x,u)]) /\
    ∀ base:Heap,(K w.params).In base->base.Ns mainGlobals c->cR l.prog w (K w.params) c base (CX w) k j m [x] (sp w))
  (Q:∀(w:World)(H:Hp)(a:Addr)(ns:List Int),ns.length<=n->Only H->SqL (K w.params) H a (ns.map V.int)->sp w [.ref a] H (fun v _=>v=.bl true) fun _ _ _=>False)
  (z:∀(w:World)(H:Hp)(s:Shared)(e:Value)(p:Shared),CX w [] H s (fun _ _ _=>False) e p->False) :
  PySem.W.WalkO q R XP t l.row.toRowW d [] (fun f vs=>PySem.call f vs):=by
 refine Att.Mu M G fun w ab S c aa j o pm cd doc a vs ns i Y Z X U L O J y I=>?_
 have r:=D w _ Y;obtain⟨m,E,A⟩:=F w c j _ r i.T.g L;exact YD r i.T.g i.T.b i.T.builtins i.T.nolimit I O J (cU y N) P A E (fun H B C=>Q w H a ns y B C) fun H e p=>z w H S e p
def inClass(s:Stmt)(j:Nat):Stmt:=match s with
 |.ClassDef _ _ _ body _ _ _ _ _ _ _=>body.getD j (.Pass ⟨0,0,0,0⟩)
 |_=>.Pass ⟨0,0,0,0⟩
def jF(s:Stmt):Arguments:=match s with
 |.FunctionDef _ a _ _ _ _ _ _ _ _=>a
 |_=>{ posonlyargs:=[],args:=[],vararg:=none,kwonlyargs:=[],kw_defaults:=[],kwarg:=none,defaults:=[] }
def gZ(s:Stmt):List Stmt:=match s with
 |.FunctionDef _ _ b _ _ _ _ _ _ _=>b
 |_=>[]
def aH(s:Stmt):Scope:=match s with
 |.FunctionDef _ _ _ _ _ _ sc _ _ _=>sc
 |_=>{ kind:=.function,names:=[],isGenerator:=false,isCoroutine:=false }
abbrev E0:XK:=fun _ _ _=>False
structure Fun(K:ao)(x qual:Str)(st:Stmt)(f:Addr)(fd:FuncData):Prop where
 ex:∃(oc:Value)(od:Option Addr)(kV doc pm:Value)(an:Option Addr)(cdv ct:Value)(osl:Array (Option Value)),
  fd=PySem.W.fnOf x qual (jF st) (gZ st) (aH st) .none kV doc pm an cdv ct/\K.lookup f=some ⟨oc,od,.func fd,osl⟩/\PySem.W.codeIn K cdv qual=true
 kp:PySem.W.keepIn K (.ref f)=true
section
variable{P:Program}{w:World}{K:ao}{mg:Str->Option Value}{base:Heap}
theorem Fun.binds{x i:Str}{st:Stmt}{f:Addr}{g:FuncData}{e:List Str}(F:Fun K x i st f g)
  (h:∀(kV c d:Value)(a:Option Addr)(b ct:Value)(us:List Value),us.length=e.length->bindArgs (PySem.W.fnOf x i (jF st) (gZ st) (aH st) .none kV c d a b ct) ⟨us,[]⟩=pure (e.zip us)):Binds K g e []:=by
 obtain⟨oc,od,kV,c,d,a,b,ct,osl,rfl,k,j⟩:=F.ex;exact .all (h kV c d a b ct)
theorem Yn{x b:Str}{st:Stmt}{f:Addr}{h:Value}{i d:Option Addr}{j:Array (Option Value)}{kV e g a ct:Value}(l:K.lookup f=some ⟨h,i,.func (PySem.W.fnOf x b (jF st) (gZ st) (aH st) .none kV e g d a ct),j⟩)
  (c:PySem.W.codeIn K a b=true) (k:PySem.W.keepIn K (.ref f)=true):Fun K x b st f (PySem.W.fnOf x b (jF st) (gZ st) (aH st) .none kV e g d a ct):=⟨⟨h,i,kV,e,g,d,a,ct,j,rfl,l,c⟩,k⟩
end
theorem uG{A a:Prop}(h:a):if false=true then A else a:=by
 rw[aJ gC];exact h
theorem Fx{A a:Prop}(h:A):if true=true then A else a:=by
 rw[aK rfl];exact h
theorem HW{c A a:Prop} [Decidable c] (b:c->A) (d:¬c->a):if c then A else a:=by
 by_cases h:c
 ·rw[aK h];exact b h
 ·rw[aJ h];exact d h
def Same(H H':Hp):Prop:=∀ b o,H b=some o->H' b=some o
theorem Same.refl(H:Hp):Same H H:=fun _ _ h=>h
theorem Same.trans{H d e:Hp}(a:Same H d)(b:Same d e):Same H e:=fun c o h=>b c o (a c o h)
theorem Same.free{H H':Hp}(e:Same H H'){l:Addr}(h:H' l=Option.none):H l=Option.none:=by
 cases q:H l with
 |none=>rfl
 |some o=>
  rw[e l o q] at h;cases h
theorem Same.seq{K:ao}{H H':Hp}{a:Addr}{xs:List V}(e:Same H H')(h:SqL K H a xs):SqL K H' a xs:=by
 rcases h with(h|⟨o,h⟩)|h
 ·exact .inl (.inl (e _ _ h))
 ·exact .inl (.inr ⟨o,e _ _ h⟩)
 ·exact .inr h
theorem Vals.a76{x:V}{u:Value}(r:RelV x u):Vals [x] [u]:=.cons r .nil
theorem Inv.track{X:Cx}{g:List (Addr×Obj)}{zzs:St}{H:Hp}{s:Shared}{a:Addr}{o:HO}(I:Inv X g zzs H s)(y:H a=none)(h0:X.s₀.heap.objs.size<=a)(r:a≠X.env.locals)
  (t:∀ x c,X.env.cells.lookup x=some c->c≠a) (z:∀ p∈X.pn++g,p.1≠a) (new:g8 X.prog X.w (upd H a o) s.heap a o):Inv X g zzs (upd H a o) s:=by
 have f:∀ b u,H b=some u->b≠a:=fun b u e=>bL e y
 refine⟨I.ok,I.os,I.bare,⟨I.base.keep,I.base.slot,fun b u e n A=>?_,I.base.there,fun b xs e=>?_,fun b u xs e=>?_,fun b ps e=>?_⟩,I.loc,I.cell,?_,fun x c e=>?_,fun p q=>?_,fun b u e=>?_,I.len⟩
 ·rw[bG (dZ (jw (bO e) h0))];exact I.base.free b u e n A
 ·have d:=I.base.tups b xs e;rw[bG (f b _ d)];exact d
 ·have d:=I.base.rK b u xs e;rw[bG (f b _ d)];exact d
 ·obtain⟨more,d⟩:=I.base.tZ b ps e;exact⟨more,by rw[bG (f b _ d)];exact d⟩
 ·rw[bG (iR r)];exact I.free
 ·rw[bG (t x c e)];exact I.nJ x c e
 ·obtain⟨i,j,k,l,m⟩:=I.pin p q;exact⟨i,by rw[bG (z p q)];exact j,k,l,m⟩
 ·by_cases h:b=a
  ·subst h;rw[aA] at e;cases e;exact new
  ·rw[bG h] at e;exact(I.hok b u e).stay (fun c v _ q=>q) (fun c q=>by rw[bG (f c _ q)];exact q) fun c xs q=>by rw[bG (f c _ q)];exact q
def fW:List (Str×NameKind)->List (Str×Addr)->List (Str×Addr)->List (Str×Addr)
 |[],_,acc=>acc
 |(n,k)::r,cells,acc=>if k==.free then fW r cells ((n,(cells.lookup n).getD 0)::acc) else fW r cells acc
theorem Qd{b:Env}:∀(names:List (Str×NameKind))(acc:List (Str×Addr)),(∀ y∈names,y.2=.free->∃ c,b.cells.lookup y.1=some c) ->
  (forIn names acc fun x cs=>(if x.2==NameKind.free then do let a <- cellOf b x.1;pure (ForInStep.yield ((x.1,a)::cs)) else pure (ForInStep.yield cs):Sem (ForInStep (List (Str×Addr)))))=pure (fW names b.cells acc):=by
 intro names
 induction names with
 |nil=>intro acc _;rfl
 |cons p r j=>
  intro acc h;obtain⟨n,k⟩:=p;rw[List.forIn_cons];have i:∀ y∈r,y.2=.free->∃ c,b.cells.lookup y.1=some c:=fun y o=>h y (gk _ o)
  by_cases g:k=.free
  ·subst g;obtain⟨c,m⟩:=h (n,.free) eF rfl;have f:b.cells.lookup n=some c:=m;have l:cellOf b n=pure c:=by unfold cellOf;rw[f]
   have d:fW ((n,NameKind.free)::r) b.cells acc=fW r b.cells ((n,c)::acc):=by
    show(if(NameKind.free==NameKind.free)=true then _ else _)=_;rw[aK (by decide),f];rfl
   rw[d,<- j ((n,c)::acc) i];simp only[Lr,nF,l,pure_bind]
  ·have e:(k==NameKind.free)=false:=by simpa using g
   have d:fW ((n,k)::r) b.cells acc=fW r b.cells acc:=by
    show(if(k==NameKind.free)=true then _ else _)=_;rw[e];rfl
   rw[d,<- j acc i];simp only[e,wO,lB,pure_bind]
theorem Es{a:Env}{scope:Scope}(h:∀ y∈scope.names,y.2=.free->∃ c,a.cells.lookup y.1=some c):closureFor scope a=pure (fW scope.names a.cells []):=by
 rw[<- Qd scope.names [] h];unfold closureFor;simp only[bind_pure]
theorem rF:∀(names:List (Str×NameKind)){cells acc:List (Str×Addr)}{x:Str}{c:Addr},(∀ y∈names,y.2=.free->∃ c,cells.lookup y.1=some c)->(∀ y d,acc.lookup y=some d->cells.lookup y=some d) ->
  (fW names cells acc).lookup x=some c->cells.lookup x=some c:=by
 intro names
 induction names with
 |nil=>intro cells acc x c _ h e;exact h x c e
 |cons p r m=>
  intro cells acc x c h g e;obtain⟨n,k⟩:=p;have l:∀ y∈r,y.2=.free->∃ c,cells.lookup y.1=some c:=fun y f=>h y (gk _ f)
  by_cases j:k=.free
  ·subst j;obtain⟨d,s⟩:=h (n,.free) eF rfl;have i:cells.lookup n=some d:=s;have b:fW ((n,NameKind.free)::r) cells acc=fW r cells ((n,d)::acc):=by
    show(if(NameKind.free==NameKind.free)=true then _ else _)=_;rw[aK (by decide),i];rfl
   rw[b] at e;refine m l (fun y q a=>?_) e;rw[vm] at a;split at a
   ·rename_i f;have t:y=n:=by simpa using f
    subst t;cases a;exact i
   ·exact g y q a
  ·have o:(k==NameKind.free)=false:=by simpa using j
   have b:fW ((n,k)::r) cells acc=fW r cells acc:=by
    show(if(k==NameKind.free)=true then _ else _)=_;rw[o];rfl
   rw[b] at e;exact m l g e
theorem Io:∀(names:List (Str×NameKind)){cells acc:List (Str×Addr)}{x:Str},((x,NameKind.free)∈names\/∃ d,acc.lookup x=some d)->∃ c,(fW names cells acc).lookup x=some c:=by
 intro names
 induction names with
 |nil=>
  intro cells acc x h;rcases h with h|h
  ·exact absurd h (by simp)
  ·exact h
 |cons p r f=>
  intro cells acc x h;obtain⟨n,k⟩:=p;by_cases b:k=.free
  ·subst b;have a:fW ((n,NameKind.free)::r) cells acc=fW r cells ((n,(cells.lookup n).getD 0)::acc):=by
    show(if(NameKind.free==NameKind.free)=true then _ else _)=_;rw[aK (by decide)]
   rw[a];refine f ?_;by_cases e:x=n
   ·exact .inr ⟨(cells.lookup n).getD 0,by subst e;simp[vm]⟩
   ·rcases h with h|⟨d,h⟩
    ·rcases dj.mp h with q|q
     ·exact absurd (congrArg Prod.fst q) e
     ·exact .inl q
    ·refine .inr ⟨d,?_⟩;rw[vm];have:(x==n)=false:=by simpa using e
     rw[this];exact h
  ·have g:(k==NameKind.free)=false:=by simpa using b
   have a:fW ((n,k)::r) cells acc=fW r cells acc:=by
    show(if(k==NameKind.free)=true then _ else _)=_;rw[g];rfl
   rw[a];refine f ?_;rcases h with h|h
   ·rcases dj.mp h with q|q
    ·exact absurd (congrArg Prod.snd q).symm b
    ·exact .inl q
   ·exact .inr h
theorem uI{a:Env}:∀(names:List (Str×NameKind))(x:Str),
  (names.map fun(n,k)=>if(k==NameKind.free&&a.scope.kind==.function&&a.kindOf n==some .cell) then(n,NameKind.cell) else(n,k)).lookup x =
   (names.lookup x).map fun k=>if(k==NameKind.free&&a.scope.kind==.function&&a.kindOf x==some .cell) then NameKind.cell else k
 |[],_=>rfl
 |(n,k)::r,x=>by
  have e:=@uI a r x;show List.lookup x ((if(k==NameKind.free&&a.scope.kind==.function&&a.kindOf n==some .cell)=true then(n,NameKind.cell) else(n,k))::_)=_;by_cases d:x=n
  ·subst d;by_cases b:(k==NameKind.free&&a.scope.kind==.function&&a.kindOf x==some .cell)=true
   ·rw[aK b];simp only[vm,Lr,yh];rw[aK b]
   ·rw[aJ b];simp only[vm,Lr,yh];rw[aJ b]
  ·have c:(x==n)=false:=by simpa using d
   by_cases b:(k==NameKind.free&&a.scope.kind==.function&&a.kindOf n==some .cell)=true
   ·rw[aK b];simp only[vm,c];exact e
   ·rw[aJ b];simp only[vm,c];exact e
def Af(scope outer:Scope)(N:List Str)(x:Str):Bool:=
 (scope.kind==.function)&&scope.names.all (fun y=>!(y.2==.cell))&&scope.names.all (fun y=>!(y.2==.local)||(y.1==x||y.1 == ".0")) &&
  scope.names.all (fun y=>!(y.2==.local)||scope.names.lookup y.1==some .local)&&(scope.names.lookup x==some .local) &&
  scope.names.all (fun y=>!(y.2==.free)||(outer.names.lookup y.1==some .cell||outer.names.lookup y.1==some .free)) &&
  !(N.contains ".0")&&(scope.names.lookup (x ++ "'")==none)&&decide (x::N.map fun y=>if y=x then x ++ "'" else y).Nodup
def Ip(N:List Str)(x:Str):List Str:=x::N.map fun y=>if y=x then x ++ "'" else y
structure Ju(scope outer:Scope)(N:List Str)(x:Str):Prop where
 kind:scope.kind=.function
 YX:∀ y∈scope.names,y.2≠.cell
 loc:∀ y∈scope.names,y.2=.local->y.1=x\/y.1 = ".0"
 names:∀ y∈scope.names,y.2=.local->scope.names.lookup y.1=some .local
 own:scope.names.lookup x=some .local
 free:∀ y∈scope.names,y.2=.free->outer.names.lookup y.1=some .cell\/outer.names.lookup y.1=some .free
 dot:(".0" : Str)∉N
 prime:scope.names.lookup (x ++ "'")=none
 nd:(Ip N x).Nodup
theorem Eu{scope d:Scope}{N:List Str}{x:Str}(h:Af scope d N x=true):Ju scope d N x:=by
 unfold Af at h;simp only[mK,nQ,Bool.or_eq_true,qQ,lG,qO,RW] at h;obtain⟨⟨⟨⟨⟨⟨⟨⟨h1,h2⟩,f⟩,g⟩,i⟩,j⟩,c⟩,k⟩,l⟩:=h;refine⟨h1,h2,fun y b e=>?_,fun y b e=>?_,i,fun y b e=>?_,?_,k,l⟩
 ·rcases f y b with a|a
  ·exact absurd e a
  ·exact a
 ·rcases g y b with a|a
  ·exact absurd e a
  ·exact a
 ·rcases j y b with a|a
  ·exact absurd e a
  ·exact a
 ·intro a;have:N.contains ".0" = true:=List.contains_iff_mem.mpr a;rw[this] at c;cases c
theorem JM{prog:Program}{w:World}{A:Around}{R:Result->Shared->Prop}{s:Shared}{g f iter:Expr}{i:List Expr}{scope:Scope}{pos:Pos}{e acc:Value}{a:Env}(I:Nat->Shared->Prop)
  (y:∀ n s,I n s->wpAny (model prog w) A (pyNext e) (fun r b=>match r with
   |none=>R (.ok .next) b
   |some v=>wpAny (model prog w) A (letOwnedTupleGo f e v) (fun _ b=>wpAny (model prog w) A (assign f a v) (fun _ k=>
     wpAny (model prog w) A (forIn i true fun c r=>if r=true then do let ok <- isTrue c a (eval c a);pure (ForInStep.yield ok) else pure (ForInStep.yield r)) (fun ok s₃=>
      if ok=true then wpAny (model prog w) A (eval g a) (fun x l=>
       wpAny (model prog w) A (call (.builtin "list.append") [acc,x]) (fun _ o=>∃ m,m<n/\I m o) (fun _ _=>False) l) (fun _ _=>False) s₃
      else ∃ m,m<n/\I m s₃) (fun _ _=>False) k) (fun _ _=>False) b) (fun _ _=>False) b) (fun _ _=>False) s)
  (n:Nat) (h:I n s) :
  codeAny (model prog w) A (.compLoop (.ListComp g [⟨f,iter,i,0⟩] scope pos) 0 e acc a) R s:=by
 refine codeAny_loop rfl I (fun n s p=>?_) n h;show wpAny _ A ((compTurn (.ListComp g [⟨f,iter,i,0⟩] scope pos) 0 e acc a).onRaise (fun x=>do noteFrame x a;theTreesLotGoes x)) _ _ s;refine wpAny_noted ?_;rw[compTurn_list];refine aR (Hl (aR (jy (y n s p) (fun r b d=>?_) fun _ _ h'=>h'.elim)));cases r with
 |none=>exact bN d
 |some v=>
  refine aR (jy d (fun _ b d=>?_) fun _ _ h'=>h'.elim);refine aR (jy d (fun _ k q=>aR (jy q (fun ok s₃ j=>?_) fun _ _ h'=>h'.elim)) fun _ _ h'=>h'.elim);cases ok with
  |false=>exact bN ⟨rfl,j⟩
  |true=>
   exact aR (aR (jy j (fun x l t=>aR (jy t (fun _ o u=>bN (bN ⟨rfl,u⟩)) fun _ _ h'=>h'.elim)) fun _ _ h'=>h'.elim))
section
variable{X:Cx}
def Mq(X:Cx)(ifs:List Expr)(t:TT):Prop:=
 ∀(pins:List (Addr×Obj))(s:Shared)(zzs:St)(H:Hp)(Q:Bool->Hp->Prop),Inv X pins zzs H s->t zzs H Q ->
  wpAny (model X.prog X.w) X.A (forIn ifs true fun c r=>if r=true then do let ok <- isTrue c X.env (eval c X.env);pure (ForInStep.yield ok) else pure (ForInStep.yield r)) (TP X pins zzs Q) X.xe s
def Xf:TT:=fun _ H Q=>Q true H
theorem a2U:Mq X [] Xf:=fun _ _ _ H _ I h=>wpAny_tests_nil ⟨H,I,h⟩
theorem a2V{c:Expr}{t:TT}(h:PT X c t):Mq X [c] t:=fun pins s zzs H Q I hw=>wpAny_tests_one (h pins s zzs H Q I hw)
def jV(X:Cx)(x:Str)(scope:Scope)(s:Shared)(H:Hp)(ex:List Addr):Cx:=
 { X with
  N:=Ip X.N x
  s₀:=s
  H₀:=H
  env:=compEnvC scope (fW scope.names X.env.cells []) s.heap.objs.size X.env
  outer:=X.stack
  stack:=X.stack
  ex:=ex
  fn:=fun _=>false
  pn:=[]
  xe:=fun _ _=>False }
def uc(J:It)(tc:TT)(te:TE)(zzs:St)(fin:List V->Hp->Prop)(W:Nat->Nat->List V->Hp->Prop):Prop:=
 ∀ i m ys H,W i m ys H->ys.length<=sizeLine/\((J.stop i H/\fin ys H) \/
  (J.go i H/\∀ v H',J.yld i H v H'->tc (some v::zzs) H' fun b H2=>if b=true then te (some v::zzs) H2 fun y H3=>∃ m',m'<m/\W (i+1) m' (ys++[y]) H3 else ∃ m',m'<m/\W (i+1) m' ys H2))
theorem lookup_mem{a:Type}:∀ {l:List (Str×a)} {x:Str} {k:a},l.lookup x=some k->(x,k)∈l
 |[],_,_,h=>by simp at h
 |(n,c)::r,x,k,h=>by
  rw[vm] at h;split at h
  ·rename_i b;have:x=n:=by simpa using b
   subst this;cases h;exact eF
  ·exact gk _ (lookup_mem h)
theorem Vu{N:List Str}{x y:Str}{i:Nat}(h:(Ip N x)[i+1]?=some y):(N[i]?=some y/\y≠x)\/y=x ++ "'":=by
 unfold Ip at h;rw[List.getElem?_cons_succ,cP] at h;cases e:N[i]? with
 |none=>rw[e] at h;cases h
 |some b=>
  rw[e] at h;have h':(if b=x then x ++ "'" else b)=y:=by simpa using h
  by_cases a:b=x
  ·rw[aK a] at h';exact .inr h'.symm
  ·rw[aJ a] at h';subst h';exact .inl ⟨rfl,a⟩
theorem Qg{x:Str}{scope:Scope}{ak:List (Addr×Obj)}{zzs:St}{H:Hp}{s:Shared}{h₁:Heap}{ex:List Addr}(ok:Ju scope X.env.scope X.N x)(ac:X.calm=true)(I:Inv X ak zzs H s)
  (ag:h₁.Ns s.heap.objs.size fun _=>none) (n:∀ b o,s.heap.get? b=some o->h₁.get? b=some o)
  (w:∀ b∈ex,b<s.heap.objs.size/\b≠X.env.locals/\b∉X.fs/\H b=none/\(b∈X.ex\/X.s₀.heap.objs.size<=b)/\(∀ y c,X.env.cells.lookup y=some c->c≠b)) {tk:Nat} :
  Inv (jV X x scope s H ex) [] (none::zzs) H { s with heap:=h₁,toks:=tk }:=by
 have ae:∀ y∈scope.names,y.2=.free->∃ c,X.env.cells.lookup y.1=some c:=fun y M e=>I.ok.has y.1 (ok.free y M e)
 have j:∀ y c,(fW scope.names X.env.cells []).lookup y=some c->X.env.cells.lookup y=some c:=fun y c e=>rF scope.names ae (fun _ _ a=>by simp at a) e
 have am:∀ y c,X.env.cells.lookup y=some c->c<s.heap.objs.size:=fun y c e=>by
  obtain⟨v,q⟩:=I.cell y c e;exact q.lt
 have A:∀ y,(compEnvC scope (fW scope.names X.env.cells []) s.heap.objs.size X.env).kindOf y=(scope.names.lookup y).map fun k=>if(k==NameKind.free&&X.env.scope.kind==.function&&X.env.kindOf y==some .cell) then NameKind.cell else k:=fun y=>uI scope.names y
 have D:∀ y,(∃ k,(compEnvC scope (fW scope.names X.env.cells []) s.heap.objs.size X.env).kindOf y=some k/\(k=.cell\/k=.free))->(y,NameKind.free)∈scope.names:=fun y ⟨k,e,n⟩=>by
  rw[A] at e;cases q:scope.names.lookup y with
  |none=>rw[q] at e;cases e
  |some h=>
   have mem:=lookup_mem q;by_cases z:h=.free
   ·subst z;exact mem
   ·rw[q] at e;have f:(h==NameKind.free)=false:=by simpa using z
    simp only[yh,f,Cq,wO,lB,GQ] at e;subst e;rcases n with a|a
    ·exact absurd a (ok.YX _ mem)
    ·exact absurd a z
 have W:∀ b∈frs X.stack,b=X.env.locals\/b∈X.fs:=fun b f=>dj.mp (I.xZ b f)
 refine⟨⟨I.ok.mod,?_,I.ok.glob,I.ok.blt,bK _,fun y a c t l=>?_,fun y M=>?_,fun y c a _=>?_,fun _=>I.ok.hd ac,I.ok.frames,.inl rfl,fun b f=>⟨?_,fun y c e=>?_⟩,fun b o e=>?_,?_,fun b o e f=>?_,fun b f z=>?_,?_,fun b f=>?_⟩,
  rfl,I.bare,Un.kept n,⟨_,ag,fun i y v t l aa=>?_⟩,fun y c e=>?_,I.hok.fresh (bK _),fun y c e=>I.nJ y c (j y c e),fun p L=>?_,I.hok.kept n,?_⟩
 ·exact ok.kind
 ·exact I.ok.inj y a c (j y c t) (j a c l)
 ·have af:(y,NameKind.free)∈scope.names:=by
   rcases M with a|a
   ·exact D y ⟨_,a,.inl rfl⟩
   ·exact D y ⟨_,a,.inr rfl⟩
  exact Io scope.names (.inl af)
 ·exact absurd (show false=true from a) (by decide)
 ·exact dZ (w b f).1
 ·exact(w b f).2.2.2.2.2 y c (j y c e)
 ·obtain⟨t,l⟩:=I.bs b o e;exact⟨t,l⟩
 ·exact cU I.ok.bsz I.sz
 ·rcases(w b f).2.2.2.2.1 with a|a
  ·exact I.ok.Wk b o e a
  ·exact absurd (jw (bO (I.ok.bs b o e).1) a) (oX _)
 ·rcases W b z with a|a
  ·exact(w b f).2.1 a
  ·exact(w b f).2.2.1 a
 ·exact I.stack
 ·exact I.zA b f
 ·cases i with
  |zero=>
   have:(none::zzs)[0]?=some (some v):=l;simp at this
  |succ i=>
   have Z:zzs[i]?=some (some v):=by simpa using l
   have Q:Vis (relabel scope X.env) y:=aa;rcases Vu t with⟨C,T⟩|L
   ·
    have U:(y,NameKind.free)∈scope.names:=by
     have ah:∃ k,(compEnvC scope (fW scope.names X.env.cells []) s.heap.objs.size X.env).kindOf y=some k/\(k=.local\/k=.cell\/k=.free):=by
      rcases Q with a|a|a
      ·exact⟨_,a,.inl rfl⟩
      ·exact⟨_,a,.inr (.inl rfl)⟩
      ·exact⟨_,a,.inr (.inr rfl)⟩
     obtain⟨k,e,G⟩:=ah;rcases G with J|G
     ·subst J;have g:=e;rw[A] at g;cases q:scope.names.lookup y with
      |none=>rw[q] at g;cases g
      |some h=>
       have mem:=lookup_mem q;rw[q] at g;have F:h=.local:=by
        by_cases r:(h==NameKind.free&&X.env.scope.kind==.function&&X.env.kindOf y==some .cell)=true
        ·simp only[yh,r,nF,GQ] at g;cases g
        ·simp only[yh,r,wO,lB,GQ] at g;exact g
       subst F;rcases ok.loc _ mem rfl with a|a
       ·exact absurd a T
       ·have:y = ".0":=a;subst this;exact absurd (eX C) ok.dot
     ·exact D y ⟨k,e,G⟩
    have S:=ok.free _ U rfl;have Y:Vis X.env.scope y:=by
     rcases S with a|a
     ·exact .inr (.inl a)
     ·exact .inr (.inr a)
    obtain⟨m,an,J⟩:=I.loc;obtain⟨u,al,P⟩:=J i y v C Z Y;refine⟨u,al,?_⟩;rcases P with⟨P,_⟩|⟨_,c,ab,ad⟩
    ·have aj:X.env.scope.names.lookup y=some .local:=P;rcases S with a|a<;>(have d:X.env.scope.names.lookup y=_:=a;rw[aj] at d;cases d)
    ·obtain⟨B,R⟩:=Io (cells:=X.env.cells) (acc:=[]) scope.names (.inl U);have:B=c:=by
      have:=j y B R;rw[ab] at this;cases this;rfl
     subst this;have ai:(compEnvC scope (fW scope.names X.env.cells []) s.heap.objs.size X.env).kindOf y=some .cell\/(compEnvC scope (fW scope.names X.env.cells []) s.heap.objs.size X.env).kindOf y=some .free:=by
      rcases Q with a|a|a
      ·
       have d:(compEnvC scope (fW scope.names X.env.cells []) s.heap.objs.size X.env).kindOf y=some .local:=a;rw[A] at d;cases q:scope.names.lookup y with
       |none=>rw[q] at d;cases d
       |some h=>
        have mem:=lookup_mem q;rw[q] at d;have F:h=.local:=by
         by_cases r:(h==NameKind.free&&X.env.scope.kind==.function&&X.env.kindOf y==some .cell)=true
         ·simp only[yh,r,nF,GQ] at d;cases d
         ·simp only[yh,r,wO,lB,GQ] at d;exact d
        subst F;rcases ok.loc _ mem rfl with zz|zz
        ·exact absurd zz T
        ·have:y = ".0":=zz;subst this;exact absurd (eX C) ok.dot
      ·exact .inl a
      ·exact .inr a
     refine .inr ⟨ai,B,R,?_⟩;obtain⟨oc,K,E⟩:=ad;exact⟨oc,n _ _ K,E⟩
   ·subst L;exfalso;have O:(compEnvC scope (fW scope.names X.env.cells []) s.heap.objs.size X.env).kindOf (x ++ "'")=none:=by rw[A,ok.prime];rfl
    rcases Q with a|a|a
    ·have d:(compEnvC scope (fW scope.names X.env.cells []) s.heap.objs.size X.env).kindOf (x ++ "'")=some .local:=a;rw[O] at d;cases d
    ·have d:(compEnvC scope (fW scope.names X.env.cells []) s.heap.objs.size X.env).kindOf (x ++ "'")=some .cell:=a;rw[O] at d;cases d
    ·have d:(compEnvC scope (fW scope.names X.env.cells []) s.heap.objs.size X.env).kindOf (x ++ "'")=some .free:=a;rw[O] at d;cases d
 ·obtain⟨v,oc,K,E⟩:=I.cell y c (j y c e);exact⟨v,oc,n _ _ K,E⟩
 ·exact absurd (show p∈([]:List (Addr×Obj)) from L) (by simp)
 ·show(none::zzs).length=(Ip X.N x).length;unfold Ip;rw[gY,gY,aL,I.len]
end
section
variable{X:Cx}
theorem Heap.SameBut.keeps{a:Addr}{h h':Heap}(k:Heap.SameBut a h h'){b:Addr}{o:Obj}(c:b≠a)(e:h.get? b=some o):h'.get? b=some o:=(k.2 b c).trans e
theorem Vv{x:Str}{bg pos:Pos}{scope:Scope}{aD iter:Expr}{aJ:List Expr}{aN:TT}{ar:TE}{Z:List (Addr×Obj)}{zzs:St}{D:Hp}{s₃:Shared}{h₁:Heap}{tk:Nat}{be a:Addr}{fp:List Addr}{as:Nat->Heap->Prop}{aT:It}{fin:List V->Hp->Prop}
  {S:Nat->Nat->List V->Hp->Prop} {RR:Value->Addr->Result->Shared->Prop}
  (ok:Ju scope X.env.scope X.N x) (bb:X.calm=true) (bT:∀ s H ex,Mq (jV X x scope s H ex) aJ aN) (bQ:∀ s H ex,PE (jV X x scope s H ex) aD ar)
  (O:Inv X Z zzs D s₃) (T:Turn X.prog X.w X.K (.Name x bg) aT fp be as) (st:as 0 s₃.heap) (f2:∀ b∈fp,wz X Z D b) (aO:∃ m,S 0 m [] D) (bN:uc aT aN ar zzs fin S)
  (bj:D a=none) (B:wz X Z D a) (bF:X.s₀.heap.objs.size<=a) (al:s₃.heap.get? a=some { cls:=.type "list",dict:=none,data:=.seq ([]:List Value).toArray }) (aP:a∉fp)
  (bZ:h₁.Ns s₃.heap.objs.size fun _=>none) (av:∀ b o,s₃.heap.get? b=some o->h₁.get? b=some o)
  (bM:∀ a C t H' z,H' a=none->fin t H'->Inv X Z zzs (upd H' a (.lst t)) z->wz X Z (upd H' a (.lst t)) C->(∃ m,z.heap.Ns C m)->RR (.ref a) C (.ok .next) z) :
  codeAny (model X.prog X.w) X.A (.compLoop (.ListComp aD [⟨.Name x bg,iter,aJ,0⟩] scope pos) 0 (.ref be) (.ref a) (compEnvC scope (fW scope.names X.env.cells []) s₃.heap.objs.size X.env)) (RR (.ref a) s₃.heap.objs.size) { s₃ with heap:=h₁,toks:=tk }:=by
 have bv:∀ b∈fp,∃ o,s₃.heap.get? b=some o/\∀ v,o.data≠.cell v:=T.obj 0 s₃.heap st;have bc:∀ b∈a::fp,b<s₃.heap.objs.size/\b≠X.env.locals/\b∉X.fs/\D b=none/\(b∈X.ex\/X.s₀.heap.objs.size<=b)/\(∀ y c,X.env.cells.lookup y=some c->c≠b):=fun b d=>by
  rcases dj.mp d with e|d
  ·subst e;obtain⟨U,F,W,L,G,aa⟩:=B;exact⟨bO al,F,W,U,L,G⟩
  ·obtain⟨U,F,W,L,G,aa⟩:=f2 b d;obtain⟨o,an,_⟩:=bv b d;exact⟨bO an,F,W,U,L,G⟩
 have aS:=Qg (ex:=a::fp) (tk:=tk) ok bb O bZ av bc;generalize k:jV X x scope s₃ D (a::fp)=Y at aS;have ae:Y.prog=X.prog:=by rw[<- k];rfl
 have af:Y.w=X.w:=by rw[<- k];rfl
 have aV:Y.K=X.K:=by rw[<- k];rfl
 have am:Y.A=X.A:=by rw[<- k];rfl
 have aW:Y.calm=true:=by rw[<- k];exact bb
 have bt:Y.N.Nodup:=by rw[<- k];exact ok.nd
 have br:Y.N[0]?=some x:=by rw[<- k];rfl
 have Q:Y.env=compEnvC scope (fW scope.names X.env.cells []) s₃.heap.objs.size X.env:=by rw[<- k];rfl
 have aZ:Y.env.scope.names.lookup x=some .local:=by rw[Q];exact lookup_relabel_local ok.own
 have aA:Y.fs=frs X.stack:=by rw[<- k];rfl
 have az:Y.ex=a::fp:=by rw[<- k];rfl
 have aY:Y.s₀=s₃:=by rw[<- k];rfl
 have bs:Y.H₀=D:=by rw[<- k];rfl
 have aX:Y.pn=[]:=by rw[<- k];rfl
 have a0:Y.xe=fun _ _=>False:=by rw[<- k];rfl
 have bx:Mq Y aJ aN:=by rw[<- k];exact bT _ _ _
 have bR:PE Y aD ar:=by rw[<- k];exact bQ _ _ _
 have aR:a≠Y.env.locals:=by rw[Q];exact dZ (bO al)
 have aQ:a∉Y.fs:=by
  rw[aA];intro d;rcases dj.mp (O.xZ a d) with g|g
  ·exact B.2.1 g
  ·exact B.2.2.1 g
 have bu:∀ y c,Y.env.cells.lookup y=some c->c≠a:=fun y c e=>by
  have aG:∀ y∈scope.names,y.2=.free->∃ c,X.env.cells.lookup y.1=some c:=fun y aI e=>O.ok.has y.1 (ok.free y aI e)
  rw[Q] at e;exact B.2.2.2.2.1 y c (rF scope.names aG (fun _ _ g=>by simp at g) e)
 have aE:∀ {H':Hp} {aK:List (Addr×Obj)},(∀ b∈fp,H' b=none)->(∀ p∈aK,p.1∉fp)->∀ b∈fp,wz Y aK H' b:=fun {H' aK} ai I b d=>by
  obtain⟨U,F,W,L,G,aa⟩:=f2 b d;have bW:=(bc b (gk _ d)).1;refine⟨ai b d,?_,?_,.inl (by rw[az];exact gk _ d),fun y c e=>?_,fun p q g=>?_⟩
  ·rw[Q];exact dZ bW
  ·rw[aA];intro g;rcases dj.mp (O.xZ b g) with g|g
   ·exact F g
   ·exact W g
  ·have aG:∀ y∈scope.names,y.2=.free->∃ c,X.env.cells.lookup y.1=some c:=fun y aI e=>O.ok.has y.1 (ok.free y aI e)
   rw[Q] at e;exact G y c (rF scope.names aG (fun _ _ g=>by simp at g) e)
  ·rw[aX,List.nil_append] at q;exact I p q (by rw[g];exact d)
 have bk:∀ {H':Hp},H' a=none->wz Y [] H' a:=fun {H'} ai=>⟨ai,aR,aQ,.inl (by rw[az];exact eF),bu,fun p q=>absurd (show p∈([]:List (Addr×Obj)) by rw[aX] at q;exact q) (by simp)⟩
 have a1:∀ {aB:St} {H':Hp} {z:Shared} {f:Array Value} {n:Nat},Inv Y [] aB H' z->H' a=none->z.heap.get? a=some { cls:=.type "list",data:=.seq f n }->Inv Y [(a,{ cls:=.type "list",data:=.seq f n })] aB H' z:=fun {aB H' z f n} ad ai e=>by
  refine ad.yZ fun p I=>?_
  have:p=(a,{ cls:=.type "list",data:=.seq f n }):=by simpa using I
  subst this;exact⟨e,ai,aR,aQ,fun v g=>by
   have cf:Data.seq f n=Data.cell v:=g;cases cf⟩
 rw[<- Q];obtain⟨b3,aO⟩:=aO;refine JM (fun m z=>∃ i t R H' f n,Inv Y [(a,{ cls:=.type "list",data:=.seq f n })] (R::zzs) H' z/\as i z.heap/\(∀ b∈fp,H' b=none)/\Vals t f.toList/\S i m t H') ?_ b3
  ⟨0,[],none,D,_,_,a1 aS bj (av a _ al),T.keep 0 _ _ st (fun b _ o e=>av b o e),fun b d=>(f2 b d).1,.nil,aO⟩
 rintro m z ⟨i,t,R,H',f,n,ad,bi,a7,rv,cc⟩;obtain⟨bV,bP⟩:=bN i m t H' cc;have ba:H' a=none:=(ad.pin (a,{ cls:=.type "list",data:=.seq f n }) (by simp)).2.1;have aF:∀ p∈[((a,{ cls:=.type "list",data:=.seq f n }):Addr×Obj)],p.1∉fp:=fun p I=>by
  have:p=(a,{ cls:=.type "list",data:=.seq f n }):=by simpa using I
  subst this;exact aP
 rcases bP with⟨cb,bS⟩|⟨bE,step⟩
 ·
  have ah:=T.done Y ae af aV aW i _ z (R::zzs) H' (fun _ _=>False) ad (aE a7 aF) bi cb;rw[am] at ah;refine thn ah fun r M J=>?_
  obtain⟨aH,P⟩:=J;subst aH;show RR (.ref a) s₃.heap.objs.size (.ok .next) M;have bA:=(P.pin (a,{ cls:=.type "list",data:=.seq f n }) (by simp)).1;have un:Un (frs X.stack) (a::fp) D H' s₃.heap M.heap:=by
   have:=P.base;rw[aA,az,bs,aY] at this;exact this
  have bz:HOk X.prog X.w H' M.heap:=by
   have:=P.hok;rw[ae,af] at this;exact this
  have b5:M.os=s₃.os:=by have:=P.os;rw[aY] at this;exact this
  have bm:Inv X Z zzs H' M:=O.call' b5 un bz P.bare fun b d=>by
   rcases dj.mp d with e|d
   ·subst e;exact⟨B.2.2.2.1,B.2.1,B.2.2.2.2.1,B.2.2.2.2.2⟩
   ·obtain⟨U,F,W,L,G,aa⟩:=f2 b d;exact⟨L,F,G,aa⟩
  have bn:Inv X Z zzs (upd H' a (.lst t)) M:=bm.track ba bF B.2.1 B.2.2.2.2.1 B.2.2.2.2.2 ⟨bV,f.toList,n,rv,by simpa using bA⟩;obtain⟨b4,bY,_⟩:=P.loc;have a6:Y.env.locals=s₃.heap.objs.size:=by rw[Q];rfl
  have bI:H' s₃.heap.objs.size=none:=by have:=P.free;rw[a6] at this;exact this
  refine bM a s₃.heap.objs.size t H' M ba bS bn ?_ ⟨b4,by rw[<- a6];exact bY⟩;exact O.Nv (bK _) (by rw[bG (vB (bO al))];exact bI)
 ·
  have ah:=T.item Y ae af aV aW i _ z (R::zzs) H' (fun _ _=>False) ad (aE a7 aF) bi bE;rw[am] at ah;refine thn ah fun r M J=>?_
  obtain⟨u,aH,bH⟩:=J;subst aH;refine thn bH fun _ ab J=>?_
  obtain⟨v,aj,aU,b7,ce,aM,bD⟩:=J;have cg:aj a=none:=(aU.pin (a,{ cls:=.type "list",data:=.seq f n }) (by simp)).2.1;have bp:=aU.pinned (fp:=fp) (aE bD aF) (T.obj _ _ aM);have b0:=step v aj ce;refine RP ?_;have bw:∀ ay,(∀ ac,Inv Y ([(a,{ cls:=.type "list",data:=.seq f n })]++xP fp ab.heap) (some v::zzs) aj ac->ay () ac)->wpAny (model X.prog X.w) X.A (storeName Y.env x u) ay (fun _ _=>False) ab:=fun ay bL=>
   qM (i:=0) (zzs:=R::zzs) bp bt br (.inl aZ) b7 (fun ac ax=>bL ac ax) (.inr aZ)
  refine bw _ fun ac ax=>?_
  have a8:=bx _ ac (some v::zzs) aj _ ax b0;rw[ae,af,am,a0] at a8;refine thn a8 fun b ca J=>?_
  obtain⟨aw,ak,bh⟩:=J;have again:∀ {h:Shared} {j:Hp} {au:List V} {ap:Array Value} {aq:Nat},Inv Y [] (some v::zzs) j h->(∀ b∈fp,j b=none/\∀ o,ab.heap.get? b=some o->h.heap.get? b=some o)->j a=none ->
    h.heap.get? a=some { cls:=.type "list",data:=.seq ap aq }->Vals au ap.toList->(∃ l,l<m/\S (i+1) l au j) ->
    ∃ l,l<m/\∃ i t R H' f n,Inv Y [(a,{ cls:=.type "list",data:=.seq f n })] (R::zzs) H' h/\as i h.heap/\(∀ b∈fp,H' b=none)/\Vals t f.toList/\S i l t H':=fun {h j au ap aq} E a4 ao aC b8 b1=>by
   obtain⟨l,bX,cd⟩:=b1;exact⟨l,bX,i+1,au,some v,j,ap,aq,a1 E ao aC,T.keep _ _ _ aM (fun b d o e=>(a4 b d).2 o e),fun b d=>(a4 b d).1,b8,cd⟩
  have a2:∀ {ag:St} {j:Hp} {h:Shared},Inv Y ([(a,{ cls:=.type "list",data:=.seq f n })]++xP fp ab.heap) ag j h->∀ b∈fp,j b=none/\∀ o,ab.heap.get? b=some o->h.heap.get? b=some o:=fun {ag j h} E b d=>by
   obtain⟨o,an,_⟩:=T.obj _ _ aM b d;have p:=E.pin (b,o) (lD _ (lD _ (xM d an)));exact⟨p.2.1,fun o' a5=>by rw[an] at a5;cases a5;exact p.1⟩
  have a3:∀ {ag:St} {j:Hp} {h:Shared},Inv Y ([(a,{ cls:=.type "list",data:=.seq f n })]++xP fp ab.heap) ag j h->h.heap.get? a=some { cls:=.type "list",data:=.seq f n }/\j a=none:=fun {ag j h} E=>by
   have p:=E.pin (a,{ cls:=.type "list",data:=.seq f n }) (lD _ (mJ _ (by simp)));exact⟨p.1,p.2.1⟩
  cases b with
  |false=>
   show ∃ l,l<m/\_;have aL:∃ l,l<m/\S (i+1) l t aw:=bh;obtain⟨bC,bJ⟩:=a3 ak;exact again (ak.yZ fun p I=>absurd I (by simp)) (a2 ak) bJ bC rv aL
  |true=>
   show wpAny _ _ _ _ _ _;have aL:ar (some v::zzs) aw fun y bl=>∃ l,l<m/\S (i+1) l (t++[y]) bl:=bh
   have a9:=bR _ ca (some v::zzs) aw _ ak aL;rw[ae,af,am,a0] at a9;refine thn a9 fun ch h J=>?_
   obtain⟨y,j,E,b9,b6⟩:=J;obtain⟨aC,ao⟩:=a3 E;have b2:f.size<=sizeLine:=by have:=rv.length;simp only[fu] at this;lia
   refine wpAny_list_append_plain (hsz:=b2) ⟨n,aC⟩ fun h' bU bd=>?_
   obtain⟨aq,bB⟩:=bU;have bq:Inv Y [] (some v::zzs) j h:=E.yZ fun p I=>absurd I (by simp)
   obtain⟨U,F,W,L,G,aa⟩:=bk ao;have bo:Inv Y [] (some v::zzs) j { h with heap:=h' }:=bq.turned (t':=h.toks) (fun b o d e=>Heap.SameBut.keeps bd d e) U F L G aa;refine again bo (fun b d=>?_) ao bB (by simpa using rv.append (Vals.a76 b9)) b6;have bf:=a2 E b d;exact⟨bf.1,fun o e=>Heap.SameBut.keeps bd (fun g=>aP (g▸d)) (bf.2 o e)⟩
theorem Ir{x:Str}{B pos:Pos}{scope:Scope}{r iter:Expr}{u:List Expr}{D:TT}{F:TE}{d:List (Addr×Obj)}{zzs:St}{c:Hp}{a:Shared}{v:Addr}{fp:List Addr}{G:Nat->Heap->Prop}{l:It}{fin:List V->Hp->Prop}
  {n:Nat->Nat->List V->Hp->Prop} {RR:Value->Addr->Result->Shared->Prop} {E:Value->Shared->Prop}
  (ok:Ju scope X.env.scope X.N x) (O:X.calm=true) (Q:∀ s H ex,Mq (jV X x scope s H ex) u D) (P:∀ s H ex,PE (jV X x scope s H ex) r F)
  (g:Inv X d zzs c a) (T:Turn X.prog X.w X.K (.Name x B) l fp v G) (st:G 0 a.heap) (f2:∀ b∈fp,wz X d c b) (Y:∃ m,n 0 m [] c) (L:uc l D F zzs fin n)
  (J:∀ f C i H' h,H' f=none->fin i H'->Inv X d zzs (upd H' f (.lst i)) h->wz X d (upd H' f (.lst i)) C->(∃ m,h.heap.Ns C m)->RR (.ref f) C (.ok .next) h) :
  wpAny (model X.prog X.w) X.A (newList []) (fun acc s₃=>wpAny (model X.prog X.w) X.A (newFunctionEnv scope X.env.globals (fW scope.names X.env.cells []) [] X.env.qual none .none (some X.env)) (fun q W=>
   codeAny (model X.prog X.w) X.A (.compStart (.ListComp r [⟨.Name x B,iter,u,0⟩] scope pos) 0 (.ref v) acc { q with scope:=relabel scope X.env }) (RR acc q.locals) W) E s₃) E a:=by
 refine vf (wpAny_newFunctionEnv ok.YX (by intro y U;simp at U) (fun t R S=>?_) ok.kind);have I:Inv X d zzs c { a with heap:=a.heap.push { cls:=.type "list",dict:=none,data:=.seq ([]:List Value).toArray } }:=g.kept (t':=a.toks) fun b o e=>fj _ e
 have j:∀ b o,(a.heap.push { cls:=.type "list",dict:=none,data:=.seq ([]:List Value).toArray }).get? b=some o->t.get? b=some o:=fun b o e=>Heap.SameBut.keeps S (dZ (bO e)) (fj _ e)
 have p:∀ b o,a.heap.get? b=some o->(a.heap.push { cls:=.type "list",dict:=none,data:=.seq ([]:List Value).toArray }).get? b=some o:=fun b o e=>fj _ e
 have k:c a.heap.objs.size=none:=g.hok.fresh (bK _);have z:=Vv (RR:=RR) (s₃:={ a with heap:=a.heap.push { cls:=.type "list",dict:=none,data:=.seq ([]:List Value).toArray } }) (h₁:=t) (tk:=a.toks+([]:List (Str×Value)).length) (iter:=iter) (pos:=pos)
  ok O Q P I T (T.keep 0 _ _ st fun b _ o e=>p b o e) f2 Y L k (g.Nv (bK _) k) g.sz (gn _ rfl) (fun M=>by
   obtain⟨o,e,_⟩:=T.obj 0 _ st _ M;exact oX _ (bO e)) (by simpa using R) j J
 exact codeAny_compStart_list z (T.self _ 0 _ _ _ (T.keep 0 _ _ st fun b _ o e=>j b o (p b o e)) z)
def a4A(wi:TI)(tc:TT)(te:TE):TE:=fun zzs H Q=>wi zzs H fun J H1=>∃ W:Nat->Nat->List V->Hp->Prop,(∃ m,W 0 m [] H1)/\uc J tc te zzs (fun ys H2=>∀ p,H2 p=none->Q (.ref p) (upd H2 p (.lst ys))) W
theorem a2K{x:Str}{j pos:Pos}{scope:Scope}{g iter:Expr}{i:List Expr}{n:TI}{k:TT}{l:TE}(ok:Af scope X.env.scope X.N x=true)(K:X.calm=true)(O:PI X (.Name x j) iter n)
  (P:∀ s H ex,Mq (jV X x scope s H ex) i k) (L:∀ s H ex,PE (jV X x scope s H ex) g l) (R:∀ v,foldedSetIterable iter X.env v=pure v:=by intro _;rfl) :
  PE X (.ListComp g [⟨.Name x j,iter,i,0⟩] scope pos) (a4A n k l):=by
 intro pins s zzs H Q I h;have a:=Eu ok;have M:∀ y∈scope.names,y.2=.free->∃ c,X.env.cells.lookup y.1=some c:=fun y U e=>I.ok.has y.1 (a.free y U e)
 rw[eval_ListComp];refine a0Z (use:=none) rfl R (Es M) a.kind a.names (thn (O pins s zzs H _ I h) fun v s1 h1=>thn h1 fun ac s2 h2=>?_);obtain⟨ab,fp,ad,Y,H2,e,q,T,st2,f2,Z,W,G⟩:=h2;subst e;refine Ir (RR:=fun r C=>compPost (model X.prog X.w) X.A X.xe none (EP X pins zzs Q) r C) a K P L q T st2 f2 W G fun f C ys H' s' F fin p t d=>?_
 obtain⟨m,d⟩:=d;refine⟨m,d,fun h' S=>?_⟩;obtain⟨u,z,aa,B,D,E⟩:=t;exact⟨.ref f,_,p.turned (t':=s'.toks) (fun b o J e=>Heap.SameBut.keeps S J e) u z B D E,rfl,fin f F⟩
def a0s(i:Nat)(wi:TI)(tc:TT)(te:TE):TS:=fun D zzs H=>wi zzs H fun J H1=>∃ W:Nat->Nat->List V->Hp->Prop,(∃ m,W 0 m [] H1)/\uc J tc te zzs (fun ys H2=>∀ p,H2 p=none->D.nx (zzs.set i (some (.ref p))) (upd H2 p (.lst ys))) W
theorem a3b{i:Nat}{y x:Str}{d l pos z:Pos}{scope:Scope}{f iter:Expr}{j:List Expr}{E:TI}{B:TT}{D:TE}(U:X.N.Nodup)(ag:X.N[i]?=some y)(g:X.env.scope.names.lookup y=some .local)
  (ok:Af scope X.env.scope X.N x=true) (aa:X.calm=true) (ae:PI X (.Name x l) iter E)
  (af:∀ s H ex,Mq (jV X x scope s H ex) j B) (ac:∀ s H ex,PE (jV X x scope s H ex) f D)
  (al:swapsWith (.ListComp f [⟨.Name x l,iter,j,0⟩] scope pos) (some (.Name y d)) z.line X.env=pure true:=by rfl) (ai:∀ v,foldedSetIterable iter X.env v=pure v:=by intro _;rfl) :
  PS X (.Assign [.Name y d] (.ListComp f [⟨.Name x l,iter,j,0⟩] scope pos) z) (a0s i E B D):=by
 intro pins s zzs H r I h;have k:=Eu ok;have ad:∀ y∈scope.names,y.2=.free->∃ c,X.env.cells.lookup y.1=some c:=fun y g e=>I.ok.has y.1 (k.free y g e)
 rw[exec_Assign_Name_used _ _ _ _ al];refine aR (Hl (aR ?_));show wpAny _ X.A (do let _ <- comprehension (.ListComp f [⟨.Name x l,iter,j,0⟩] scope pos) scope X.env _ (newList []) false (eval iter X.env) (some (assign (.Name y d) X.env))) _ _ s;refine aR (jy (a0Z (use:=some (assign (.Name y d) X.env)) (Q:=fun _ s'=>SP X pins r .next s') rfl ai (Es ad) k.kind k.names
  (thn (ae pins s zzs H _ I h) fun v s1 h1=>thn h1 fun au s2 h2=>?_)) (fun _ s' ah=>bN (bN ah)) fun _ _ e=>e)
 obtain⟨as,fp,av,ap,H2,e,J,T,st2,f2,aq,an,W⟩:=h2;subst e;refine Ir (RR:=fun K C=>compPost (model X.prog X.w) X.A X.xe (some (assign (.Name y d) X.env)) (fun _ s'=>SP X pins r .next s') K C) k aa af ac J T st2 f2 an W fun n C ys H' s' S fin F L p=>?_
 obtain⟨m,p⟩:=p;show wpAny _ X.A (assign (.Name y d) X.env (.ref n)) _ _ _;obtain⟨M,t,ar,O,u,P⟩:=L;refine RP (Jr (i:=i) (v:=.ref n) F U ag (.inl g) rfl (fun am G ab=>?_) (.inr g));obtain⟨a,aj,Y⟩:=ab;have R:C≠a:=by
  rcases Y with q|q
  ·rw[q];exact t
  ·exact fun ao=>u _ _ q ao.symm
 refine⟨m,p.sameBut aj R,fun h' ak=>?_⟩;exact⟨_,_,G.turned (t':=am.toks) (fun b o Z e=>Heap.SameBut.keeps ak Z e) M t O u P,fin n S⟩
end
theorem g8.there{P:Program}{w:World}{H:Hp}{h:Heap}{a:Addr}{o:HO}(x:g8 P w H h a o):∃ ob,h.get? a=some ob:=by
 cases o with
 |lst xs=>obtain⟨_,_,_,_,e⟩:=x;exact⟨_,e⟩
 |tup xs=>obtain⟨_,_,_,ob,e,_⟩:=x;exact⟨_,e⟩
 |dK b=>obtain⟨_,_,_,_,o,_,_,e,_⟩:=x;exact⟨_,e⟩
 |dT b=>obtain⟨_,_,_,_,o,_,_,e,_⟩:=x;exact⟨_,e⟩
 |set c n=>obtain⟨o,_,_,_,e,_⟩:=x;exact⟨_,e⟩
 |ins C dx fs=>obtain⟨_,_,_,e,_⟩:=x;exact⟨_,e⟩
 |own y=>obtain⟨_,e⟩:=x;exact⟨_,e⟩
 |xd fs=>obtain⟨_,⟨_,_,_,e,_⟩,_⟩:=x;exact⟨_,e⟩
 |rng lo hi=>obtain⟨_,_,_,e⟩:=x;exact⟨_,e⟩
 |frz ob u=>obtain⟨e,_⟩:=x;exact⟨_,e⟩
 |tbl ps=>exact⟨_,show h.get? a=some _ from x⟩
 |met f y=>exact⟨_,show h.get? a=some _ from x⟩
 |ext d=>obtain⟨_,e,_⟩:=x;exact e
structure Fly(outer:List Env)(H':Hp)(h0:Heap)(ea C:Addr)(h:Heap):Prop where
 free:H' ea=none
 new:h0.get? ea=none
 fl:∃(B:Heap)(t:Addr),Heap.FlyingW B outer ea (.ref C) (.ref t) h/\∀ b o,h.get? b=some o->(H' b≠none\/∃ o',h0.get? b=some o')->b∉frs outer->B.get? b=some o
def CXE(P:Program)(w:World):CXT:=fun outer H s E e s'=>∃ ea C H',e=.ref ea/\s'.os=s.os/\AllBare s'.gens/\Un (frs outer) [] H H' s.heap s'.heap/\HOk P w H' s'.heap/\Fly outer H' s.heap ea C s'.heap/\E (.ref C) none H'
section
variable{P:Program}{w:World}{K:ao}{mg:Str->Option Value}{base:Heap}{N:List Str}{qual:Str}{scope:Scope}{f:Addr}{cd:Value}{A:Around}{outer:List Env}{s0:Shared}{H0:Hp}{E:XK}
theorem ZM{Y:List (Addr×Obj)}{zzs:St}{H:Hp}{s:Shared}{h':Heap}{e C:Addr}{vs:List Value}(I:Inv (tY (CXE P w) P w K mg base N qual scope f cd A outer s0 H0 E) Y zzs H s)
  (m:Heap.MadeExcOf s.heap h' e (.ref C) vs) (S:E (.ref C) none H):(tY (CXE P w) P w K mg base N qual scope f cd A outer s0 H0 E).xe (.ref e) { s with heap:=h' }:=by
 have O:∀ b,b∈frs (envOfC qual scope s0.heap.objs.size f cd::outer)->b=s0.heap.objs.size\/b∈frs outer:=fun b c=>dj.mp (I.xZ b c)
 have D:∀ b o,s.heap.get? b=some o->b∉frs (envOfC qual scope s0.heap.objs.size f cd::outer)->(PySem.W.hideAll s.heap (frs (envOfC qual scope s0.heap.objs.size f cd::outer))).get? b=some o:=fun b o e n=>a1s _ e n
 show wpAny (model P w) (A.deeper (envOfC qual scope s0.heap.objs.size f cd)) (leaving (envOfC qual scope s0.heap.objs.size f cd) (.ref e)) (fun _ v=>CXE P w outer H0 s0 E (.ref e) v) (fun Q v=>CXE P w outer H0 s0 E Q v) { s with heap:=h' };refine wpAny_leaves_madeW (base:=PySem.W.hideAll s.heap (frs (envOfC qual scope s0.heap.objs.size f cd::outer))) (h:=s.heap) I.ok.frames rfl (fun b o q=>a1y _ q)
  (PySem.W.funFrames_hide I.stack fun R U a T=>GP.mpr ⟨R,U,T⟩) m fun B t z _ _ sm=>?_
 have new:s.heap.get? e=none:=m.new;have M:s.heap.UpToSlots B:=(Heap.UpToSlots.of_keeps m.keeps).trans sm;have stays:=z.1;have i:∀ b o,s.heap.get? b=some o->b∉frs (envOfC qual scope s0.heap.objs.size f cd::outer)->B.get? b=some o:=fun b o q n=>stays b o (D b o q n)
 have x:∀ b o,s0.heap.get? b=some o->b∉frs outer->b∉frs (envOfC qual scope s0.heap.objs.size f cd::outer):=fun b o q n c=>by
  rcases O b c with d|d
  ·exact dZ (bO q) d
  ·exact n d
 have trk:∀ b u,H b=some u->b∉frs (envOfC qual scope s0.heap.objs.size f cd::outer):=fun b u q c=>by
  have:=I.zA b c;rw[q] at this;cases this
 have j:∀ b o,s0.heap.get? b=some o->∃ o',s.heap.get? b=some o':=fun b o q=>I.base.there b o q (by show b∉[];simp)
 refine⟨e,C,H,rfl,I.os,I.bare,⟨fun b o q n c _=>?_,fun b o q n c _=>?_,fun b o q n Z=>I.base.free b o q n (by show b∉[];simp),fun b o q _=>?_,I.base.tups,I.base.rK,I.base.tZ⟩,fun a o q=>?_,⟨?_,?_,?_⟩,S⟩
 ·exact i b o (I.base.keep b o q n c (by show b∉[];simp)) (x b o q c)
 ·obtain⟨aa,g⟩:=I.base.slot b o q n c (by show b∉[];simp);obtain⟨_,o',F,l⟩:=I.yK.mem c;rw[g] at F;cases F;obtain⟨L,k⟩:=M b _ g l;exact⟨L,k⟩
 ·obtain⟨o',g⟩:=j b o q;by_cases c:b∈frs (envOfC qual scope s0.heap.objs.size f cd::outer)
  ·obtain⟨_,J,X,l⟩:=I.stack.mem c;obtain⟨L,k⟩:=M b _ X l;exact⟨_,k⟩
  ·exact⟨o',i b o' g c⟩
 ·refine(I.hok a o q).stay (fun b u c d=>i b u d ?_) (fun _ d=>d) fun _ _ d=>d
  rcases c with rfl|c
  ·exact trk b o q
  ·exact trk b _ c
 ·cases q:H e with
  |none=>rfl
  |some o=>
   obtain⟨p,d⟩:=(I.hok e o q).there;rw[new] at d;cases d
 ·cases q:s0.heap.get? e with
  |none=>rfl
  |some o=>
   obtain⟨p,d⟩:=j e o q;rw[new] at d;cases d
 ·refine⟨_,t,z,fun b o q c n=>?_⟩;have key:∃ o',s.heap.get? b=some o'/\b∉frs (envOfC qual scope s0.heap.objs.size f cd::outer):=by
   rcases c with d|⟨o',d⟩
   ·cases r:H b with
    |none=>exact absurd r d
    |some u=>
     obtain⟨p,y⟩:=(I.hok b u r).there;exact⟨p,y,trk b u r⟩
   ·obtain⟨J,y⟩:=j b o' d;exact⟨J,y,x b o' d n⟩
  obtain⟨o',y,G⟩:=key;have:=i b o' y G;rw[q] at this;cases this;exact D b o y G
end
structure jU(K:ao)(C:Addr):Prop where
 ex:PySem.W.excIn K C [.type "ValueError",.type "Exception",.type "BaseException",.type "object"] "ValueError.__new__" = true
theorem jU.obj{K:ao}{C:Addr}(c:jU K C){h:Heap}(X:K.In h):∃ i N nm q bs hdct sn sub ab col dd k0 k1 k2 k3 k5 mN,h.get? C=some (excClassObj nm q C N bs i hdct sn sub ab col dd k0 k1 k2 k3 k5 "ValueError.__new__")/\h.Ns N mN/\mN "__init__" = none /\
  OwnTail h [.type "ValueError",.type "Exception",.type "BaseException",.type "object"] i:=by
 have q:=c.ex;unfold PySem.W.excIn at q;split at q
 ·rename_i dd cd g m;split at q
  ·rename_i t j k0 k1 k2 k3 n k5 d f;simp only[mK,lG,qQ] at q;obtain⟨⟨⟨⟨⟨rfl,rfl⟩,b⟩,p⟩,a⟩,e⟩:=q;obtain⟨nm,bs,u,r,s,k,sn,sub,ab,col,del⟩:=cd;dsimp only at d b a e;subst d b;have o:g=#[k0,k1,k2,k3,some (.builtin "ValueError.__new__"),k5]:=by
    obtain⟨l⟩:=g;simp only at f;rw[f]
   subst o;exact⟨j,r,nm,s,bs,k,sn,sub,ab,col,dd,k0,k1,k2,k3,k5,_,X _ _ m,.of_isNs (PySem.W.isNs_of_in X a),PySem.W.nsMap_none_of_in X a e,PySem.W.tail_of_in X p⟩
  ·cases q
 ·cases q
def a0x(t:TA)(C:Addr)(E:XK):TS:=fun _ zzs H=>t zzs H fun vs H1=>vs.length<=sizeLine/\E (.ref C) none H1
section
variable{P:Program}{w:World}{K:ao}{mg:Str->Option Value}{base:Heap}{N:List Str}{qual:Str}{scope:Scope}{f:Addr}{cd:Value}{A:Around}{outer:List Env}{s0:Shared}{H0:Hp}{E:XK}
theorem Zt{x:Str}{aa d pos:Pos}{g:Expr}{a:List Expr}{t:TA}{C:Addr}(c:jU K C)(F:Gl (tY (CXE P w) P w K mg base N qual scope f cd A outer s0 H0 E) x)(J:mg x=some (.ref C))(G:A.handled=none)
  (z:PA (tY (CXE P w) P w K mg base N qual scope f cd A outer s0 H0 E) (g::a) t) (B:(x==("__debug__" : Str))=false:=by decide)
  (k:starEach (g::a) (envOfC qual scope s0.heap.objs.size f cd)=(false,eval g (envOfC qual scope s0.heap.objs.size f cd))::starEach a (envOfC qual scope s0.heap.objs.size f cd):=by rfl)
  (M:(backTo d (starEach a (envOfC qual scope s0.heap.objs.size f cd))).any (·.1)=false:=by rfl) :
  PS (tY (CXE P w) P w K mg base N qual scope f cd A outer s0 H0 E) (.Raise (some (.Call (.Name x aa) (g::a) [] d)) none pos) (a0x t C E):=by
 intro pins s zzs H af I h;obtain⟨tl,l,nm,q,bs,D,ac,ad,m,n,dd,S,U,W,X,Y,Z,p,v,L,T⟩:=c.obj I.mod.kin;refine wpAny_Raise_call_subU (C:=C) (nm:=nm) (q:=q) (N:=l) (bs:=bs) (bm:=tl) (hdct:=D) (sn:=ac) (sub:=ad) (ab:=m) (col:=n) (dd:=dd) (k0:=S) (k1:=U) (k2:=W) (k3:=X) (k5:=Y)
  GC (by decide) GC (mN:=Z) (T.hasType GC.hasBase) G (by
   show(backTo d (starEach (g::a) (envOfC qual scope s0.heap.objs.size f cd))).any (·.1)=false;rw[k];show(false||(backTo d (starEach a (envOfC qual scope s0.heap.objs.size f cd))).any (·.1))=false;rw[M];rfl) L (vU I F J ⟨rfl,?_⟩ B)
 have h2:=z d pins s zzs H _ I h;show wpAny (model P w) _ (evalArgs (.ref C) true (backTo d (starEach (g::a) (envOfC qual scope s0.heap.objs.size f cd))) []) _ _ s;have j:wpAny (model P w) (A.deeper (envOfC qual scope s0.heap.objs.size f cd)) (spliced (backTo d (starEach (g::a) (envOfC qual scope s0.heap.objs.size f cd)))) _ _ s:=h2;rw[k] at j ⊢;refine Calls.evalArgs_plain (jy j (fun ag ae R=>?_) fun _ _ y=>y);obtain⟨xs,H1,i,r,Q,u⟩:=R;have keep:∀ b o,base.get? b=some o->ae.heap.get? b=some o:=i.bk;exact⟨rfl,by rw[<- r.length];exact Q,keep _ _ p,v.keeps keep,T.keeps keep,fun h' e O=>ZM i O u⟩
end
section
variable{X:Cx}
def XP(X:Cx)(pins:List (Addr×Obj))(Ex:St->Value->Hp->Prop)(ev:Value)(s':Shared):Prop:=∃ zzs H s,Inv X pins zzs H s/\CXE X.prog X.w X.stack H s (fun c _ H'=>Ex zzs c H') ev s'
abbrev TEX:=St->Hp->VK->(Value->Hp->Prop)->Prop
def PEX(X:Cx)(e:Expr)(t:TEX):Prop:=
 ∀(pins:List (Addr×Obj))(s:Shared)(zzs:St)(H:Hp)(Q:VK)(E:Value->Hp->Prop),Inv X pins zzs H s->t zzs H Q E->wpAny (model X.prog X.w) X.A (eval e X.env) (EP X pins zzs Q) (XP X pins fun bT c H'=>bT=zzs/\E c H') s
abbrev TSX:=Ends->(St->Value->Hp->Prop)->St->Hp->Prop
def PSX(X:Cx)(st:List Stmt)(t:TSX):Prop:=
 ∀(pins:List (Addr×Obj))(s:Shared)(zzs:St)(H:Hp)(D:Ends)(Ex:St->Value->Hp->Prop),Inv X pins zzs H s->t D Ex zzs H->wpAny (model X.prog X.w) X.A (execs st X.env) (SP X pins D) (XP X pins Ex) s
variable{k:Nat}{f C:Addr}{fd:FuncData}{ps:List Str}{sp:Sp}{dvs:List V}{ds:List Value}{x:Str}{p pos:Pos}{e:Expr}{es:List Expr}{t:TA}{CX:CXT}{E:XK}
theorem a3C{d:List (Addr×Obj)}{zzs:St}{H:Hp}{s:Shared}{Q:VK}{us:List Value}{vs:List V}{c:Value->Shared->Prop}(F:cR X.prog X.w X.K X.mg X.base CX k f fd ps sp)(n:iT k X.A)(j:Binds X.K fd ps ds)(l:Vals dvs ds)
  (I:Inv X d zzs H s) (r:Vals vs us) (h:sp (vs++dvs) H Q E) (o:∀ e b,CX X.stack H s E e b->c e b):wpAny (model X.prog X.w) X.A (call (.ref f) us) (EP X d zzs Q) c s:=by
 have g:Vals (vs++dvs) (us++ds):=r.append l;have m:(us++ds).length=ps.length:=by rw[<- g.length];exact F.len _ _ _ _ h
 refine M7 (qd (F.run X.A X.stack s H ⟨us,[]⟩ (us++ds) (vs++dvs) Q E n I.env0 (j s us I.kIn m) g h) fun r b a=>?_);cases r with
 |error e=>exact o e b a
 |ok i=>
  cases i with
  |ret u=>exact I.after a
  |next=>exact False.elim a
  |brk=>exact False.elim a
  |cont=>exact False.elim a
def Kw(sp:Sp)(dvs:List V)(t:TA):TEX:=fun zzs H Q E=>t zzs H fun vs H1=>sp (vs++dvs) H1 Q fun c _ H'=>E c H'
theorem Zn(F:cR X.prog X.w X.K X.mg X.base (CXE X.prog X.w) k f fd ps sp)(G:iT k X.A)(v:Gl X x)(z:X.mg x=some (.ref f))(y:PySem.W.keepIn X.K (.ref f)=true)(m:Binds X.K fd ps ds)(n:Vals dvs ds)
  (l:PA X.nox (e::es) t) (o:(x==("__debug__" : Str))=false:=by decide) (u:starEach (e::es) X.env=(false,eval e X.env)::starEach es X.env:=by rfl) (B:(backTo pos (starEach es X.env)).any (·.1)=false:=by rfl) :
  PEX X (.Call (.Name x p) (e::es) [] pos) (Kw sp dvs t):=by
 intro pins s zzs H Q E I h;refine BW (vU I v z ?_ o);refine RK (h₀:=X.base) I.ok.mod.kin y (jy (l pos pins s zzs H _ (I.wish _) h) (fun M s1 ⟨N,H1,a,r,q⟩=>⟨a.kIn,?_⟩) fun _ _ J=>False.elim J) u B;exact a3C F G m n a.nC r q fun L s' D=>⟨zzs,H1,s1,a.nC,by
  obtain⟨b,C,H',h1,h2,c,d,g,i,j⟩:=D;exact⟨b,C,H',h1,h2,c,d,g,i,rfl,j⟩⟩
def a4F(te:TEX):TSX:=fun D Ex zzs H=>te zzs H D.rt (Ex zzs)
theorem a3f{e:Expr}{a:TEX}{pos:Pos}(o:PEX X e a):PSX X [.Return (some e) pos] (a4F a):=by
 intro pins s zzs H t u I h;refine S8 (wpAny_Return_some (jy (o pins s zzs H _ _ I h) (fun v s1 ⟨y,H1,c,r,q⟩=>⟨y,zzs,H1,c,r,q⟩) fun w s' p=>?_));obtain⟨f,H',s2,d,i,C,b,h1,h2,j,k,l,m,g,n⟩:=p;subst g;exact⟨f,H',s2,d,i,C,b,h1,h2,j,k,l,m,n⟩
end
section
variable{X:Cx}
def wZ(X:Cx)(ea:Addr):Cx:={ X with A:=X.A.mark (some (.ref ea)),calm:=false,xe:=fun _ _=>False }
theorem Inv.hand{a:List (Addr×Obj)}{zzs:St}{H:Hp}{s:Shared}(I:Inv X a zzs H s)(b:Addr):Inv (wZ X b) a zzs H s:=
 ⟨⟨I.ok.mod,I.ok.kind,I.ok.glob,I.ok.blt,I.ok.above,I.ok.inj,I.ok.has,I.ok.cab,fun c=>absurd (show false=true from c) (by decide),I.ok.frames,I.ok.stk,I.ok.exf,I.ok.bs,I.ok.bsz,I.ok.Wk,I.ok.Yj,I.ok.yK,I.ok.frf⟩,
  I.os,I.bare,I.base,I.loc,I.cell,I.free,I.nJ,I.pin,I.hok,I.len⟩
theorem Inv.a6R{b:Addr}{a:List (Addr×Obj)}{zzs:St}{H:Hp}{s:Shared}(ok:X.Ok)(I:Inv (wZ X b) a zzs H s):Inv X a zzs H s:=
 ⟨ok,I.os,I.bare,I.base,I.loc,I.cell,I.free,I.nJ,I.pin,I.hok,I.len⟩
theorem Inv.Wj{w:List (Addr×Obj)}{zzs:St}{H:Hp}{s:Shared}{h':Heap}{r:Str->Option Value}{tk:Nat}(I:Inv X w zzs H s)(x:h'.Ns X.env.locals r)(a:Heap.SameBut X.env.locals s.heap h') :
  Inv X w (zzs.map fun _=>none) H { s with heap:=h',toks:=tk }:=by
 have m:∀ b o,X.s₀.heap.get? b=some o->b≠X.env.locals:=fun b o e=>dZ (jw (bO e) I.ok.above)
 refine⟨I.ok,I.os,I.bare,⟨fun b o e n l g=>?_,fun b o e n l g=>?_,I.base.free,fun b o e g=>?_,I.base.tups,I.base.rK,I.base.tZ⟩,⟨r,x,fun j y v h f C=>?_⟩,fun y c e=>?_,I.free,I.nJ,fun p z=>?_,fun b u e=>?_,?_⟩
 ·exact(a.2 b (m b o e)).trans (I.base.keep b o e n l g)
 ·obtain⟨B,h⟩:=I.base.slot b o e n l g;exact⟨B,(a.2 b (m b o e)).trans h⟩
 ·obtain⟨o',h⟩:=I.base.there b o e g;exact⟨o',(a.2 b (m b o e)).trans h⟩
 ·exfalso;rw[cP] at f;cases q:zzs[j]? with
  |none=>rw[q] at f;cases f
  |some k=>rw[q] at f;cases f
 ·obtain⟨v,k⟩:=I.cell y c e;exact⟨v,k.sameBut a (I.cne y c e)⟩
 ·obtain⟨e,n,t,A,d⟩:=I.pin p z;exact⟨(a.2 p.1 t).trans e,n,t,A,d⟩
 ·refine(I.hok b u e).stay (fun c v i q=>(a.2 c ?_).trans q) (fun _ q=>q) fun _ _ q=>q
  rintro rfl;rcases i with k|i
  ·rw[<- k,I.free] at e;cases e
  ·rw[I.free] at i;cases i
 ·rw[aL];exact I.len
theorem land{z:List (Addr×Obj)}{zzs:St}{H H':Hp}{s d i:Shared}{x:Heap}(I:Inv X z zzs H s)(os:d.os=s.os)(un:Un (frs X.stack) [] H H' s.heap d.heap)(E:HOk X.prog X.w H' d.heap)
  (k:∀ b o,d.heap.get? b=some o->(H' b≠none\/∃ h,s.heap.get? b=some h)->b∉frs X.stack->x.get? b=some o) (st:x.StaysIn i.heap) (sm:d.heap.UpToSlots i.heap) (C:i.os=d.os) (D:AllBare i.gens):Inv X z zzs H' i:=by
 have r:∀ b∈frs X.stack,∃ o j,s.heap.get? b=some o/\(∀ G,o.data≠.fields G)/\H b=none/\d.heap.get? b=some { o with slots:=j }/\H' b=none:=fun b c=>by
  obtain⟨_,o,v,g⟩:=I.stack.mem c;have t:=I.zA b c;obtain⟨j,e⟩:=un.slot b o v t c (by simp);exact⟨o,j,v,g,t,e,un.free b o v t (by simp)⟩
 refine I.call' (C.trans os) (ch:=[]) ⟨fun b o e n c l=>?_,fun b o e n c l=>?_,un.free,fun b o e l=>?_,un.tups,un.rK,un.tZ⟩ (fun a o e=>?_) D (fun b c=>absurd c (by simp))
 ·exact st b o (k b o (un.keep b o e n c l) (.inr ⟨o,e⟩) c)
 ·obtain⟨F,j,f,g,_,m,_⟩:=r b c;rw[e] at f;cases f;obtain⟨A,p⟩:=sm b _ m g;exact⟨A,p⟩
 ·by_cases c:b∈frs X.stack
  ·obtain⟨F,j,f,g,_,m,_⟩:=r b c;obtain⟨A,p⟩:=sm b _ m g;exact⟨_,p⟩
  ·obtain⟨h,f⟩:=un.there b o e l;exact⟨h,st b h (k b h f (.inr ⟨o,e⟩) c)⟩
 ·have y:∀ b u,H' b=some u->b∉frs X.stack:=fun b u q c=>by
   obtain⟨_,_,_,_,_,_,B⟩:=r b c;rw[q] at B;cases B
  refine(E a o e).stay (fun b u c q=>?_) (fun _ q=>q) fun _ _ q=>q
  rcases c with rfl|c
  ·exact st b u (k b u q (.inl (by rw[e];simp)) (y b o e))
  ·exact st b u (k b u q (.inl (by rw[c];simp)) (y b _ c))
structure Air(X:Cx)(pins:List (Addr×Obj))(zzs:St)(H':Hp)(ea C:Addr)(s'':Shared):Prop where
 ex:∃(H:Hp)(s s':Shared)(B:Heap)(t:Addr),Inv X pins zzs H s/\s'.os=s.os/\Un (frs X.stack) [] H H' s.heap s'.heap/\HOk X.prog X.w H' s'.heap /\
  (∀ b o,s'.heap.get? b=some o->(H' b≠none\/∃ o',s.heap.get? b=some o')->b∉frs X.stack->B.get? b=some o)/\Heap.FlyingW B X.stack ea (.ref C) (.ref t) s''.heap/\s'.heap.UpToSlots s''.heap/\s''.os=s'.os/\AllBare s''.gens/\s.heap.get? ea=none/\H' ea=none
theorem Air.inv{b:List (Addr×Obj)}{zzs:St}{H':Hp}{g C:Addr}{c:Shared}(a:Air X b zzs H' g C c):Inv X b zzs H' c:=by
 obtain⟨H,s,s',k,t,I,j,un,i,d,h,sm,e,f,_,_⟩:=a.ex;exact land I j un i d h.1 sm e f
theorem Air.obj{e:List (Addr×Obj)}{zzs:St}{H':Hp}{b C:Addr}{c:Shared}(a:Air X e zzs H' b C c):∃ ob,c.heap.get? b=some ob/\ob.cls=.ref C:=by
 obtain⟨H,s,s',f,t,I,k,un,j,g,d,sm,h,i,_,_⟩:=a.ex;exact d.there
theorem Air.free{c:List (Addr×Obj)}{zzs:St}{H':Hp}{b C:Addr}{d:Shared}(a:Air X c zzs H' b C d):H' b=none:=by
 obtain⟨H,s,s',f,t,I,l,un,k,g,j,sm,h,i,_,e⟩:=a.ex;exact e
theorem Air.again{d:List (Addr×Obj)}{zzs:St}{H':Hp}{c C:Addr}{b:Shared}{M:Model}{A:Around}{E:Value->Shared->Prop}{Q:Unit->Shared->Prop}(a:Air X d zzs H' c C b)
  (k:∀ h',Air X d zzs H' c C { b with heap:=h' }->Q () { b with heap:=h' }):wpAny M A (setFlight (.ref c) none) Q E b:=by
 obtain⟨H,s,s',e,t,I,o,un,l,f,i,sm,g,h,m,n⟩:=a.ex;exact lands_againW i fun h' j p=>k h' ⟨H,s,s',e,t,I,o,un,l,f,j,sm.trans p,g,h,m,n⟩
def Mp(ea C:Addr):HO:=.ext fun h=>∃ ob,h.get? ea=some ob/\ob.cls=.ref C
theorem a2b{P:Program}{w:World}{H:Hp}{h:Heap}{a C:Addr}(e:∃ ob,h.get? a=some ob/\ob.cls=.ref C):g8 P w H h a (Mp a C):=by
 obtain⟨ob,b,c⟩:=e;exact⟨⟨ob,b,c⟩,⟨ob,b⟩,fun h1 h2 ⟨o,d,f⟩ k=>⟨o,k o d,f⟩⟩
theorem Inv.a6Q{g:List (Addr×Obj)}{zzs:St}{H:Hp}{s:Shared}{a:Addr}{o:HO}(I:Inv X g zzs H s)(y:H a=none)(h0:X.s₀.heap.get? a=none)(r:a≠X.env.locals)
  (t:∀ x c,X.env.cells.lookup x=some c->c≠a) (z:∀ p∈X.pn++g,p.1≠a) (new:g8 X.prog X.w (upd H a o) s.heap a o):Inv X g zzs (upd H a o) s:=by
 have f:∀ b u,H b=some u->b≠a:=fun b u e=>bL e y
 refine⟨I.ok,I.os,I.bare,⟨I.base.keep,I.base.slot,fun b u e n A=>?_,I.base.there,fun b xs e=>?_,fun b u xs e=>?_,fun b ps e=>?_⟩,I.loc,I.cell,?_,fun x c e=>?_,fun p q=>?_,fun b u e=>?_,I.len⟩
 ·rw[bG (fun B=>by rw[B,h0] at e;cases e)];exact I.base.free b u e n A
 ·have d:=I.base.tups b xs e;rw[bG (f b _ d)];exact d
 ·have d:=I.base.rK b u xs e;rw[bG (f b _ d)];exact d
 ·obtain⟨more,d⟩:=I.base.tZ b ps e;exact⟨more,by rw[bG (f b _ d)];exact d⟩
 ·rw[bG (iR r)];exact I.free
 ·rw[bG (t x c e)];exact I.nJ x c e
 ·obtain⟨i,j,k,l,m⟩:=I.pin p q;exact⟨i,by rw[bG (z p q)];exact j,k,l,m⟩
 ·by_cases h:b=a
  ·subst h;rw[aA] at e;cases e;exact new
  ·rw[bG h] at e;exact(I.hok b u e).stay (fun c v _ q=>q) (fun c q=>by rw[bG (f c _ q)];exact q) fun c xs q=>by rw[bG (f c _ q)];exact q
theorem Air.track{h:List (Addr×Obj)}{zzs:St}{H':Hp}{b C:Addr}{i:Shared}(a:Air X h zzs H' b C i)(k:X.ex=[]):Inv X h zzs (upd H' b (Mp b C)) i:=by
 have j:=a.inv;have r:=a.obj;obtain⟨H,s,s',u,t,I,D,un,B,w,A,sm,y,z,g,n⟩:=a.ex;refine j.a6Q n ?_ (fun f=>?_) (fun x c e f=>?_) (fun p l f=>?_) (a2b r)
 ·cases q:X.s₀.heap.get? b with
  |none=>rfl
  |some o=>
   obtain⟨o',e⟩:=I.base.there b o q (by rw[k];simp);rw[g] at e;cases e
 ·obtain⟨m,⟨o,_,_,d,_⟩,_⟩:=I.loc;rw[<- f,g] at d;cases d
 ·obtain⟨v,o,d,_⟩:=I.cell x c e;rw[f,g] at d;cases d
 ·have e:=(I.pin p l).1;rw[f,g] at e;cases e
def PH(X:Cx)(hs:List ExceptHandler)(th:Addr->TS):Prop:=
 ∀(pins:List (Addr×Obj))(zzs:St)(H:Hp)(ea C:Addr)(s:Shared)(D:Ends),Air X pins zzs H ea C s->th C D zzs H->wpAny (model X.prog X.w) X.A (handleBy (.ref ea) X.env hs) (SP X pins D) X.xe s
def DQ(K:ao)(C C':Addr):Bool:=match K.lookup C with
 |some ⟨.type "type",_,.cls cd,_⟩=>!(cd.mro.contains (.ref C'))
 |_=>false
def a0z(K:ao)(C':Addr)(i:Nat)(ts:TS)(th:Addr->TS):Addr->TS:=fun C D zzs H=>
 (C=C'/\∀ ea,H ea=none->ts { nx:=fun _ _=>False,rt:=D.rt } (zzs.set i (some (.ref ea))) (upd H ea (Mp ea C)))\/(C≠C'/\jU K C/\DQ K C C'=true/\th C D zzs H)
theorem a6g:PH X [] (fun _ _ _ _=>False):=fun _ _ _ _ _ _ _ _ h=>h.elim
theorem a2R{x n:Str}{aG au:Pos}{F:Stmt}{P:List Stmt}{O:List ExceptHandler}{k:Addr}{i:Nat}{S:TS}{R:Addr->TS}(al:X.ex=[])(ag:X.N.Nodup)(an:X.N[i]?=some n)(y:X.env.scope.names.lookup n=some .local)
  (am:Gl X x) (ao:X.mg x=some (.ref k)) (G:jU X.K k) (ax:∀ b,PSs (wZ X b) (F::P) S) (aw:PH X O R) (aj:(x==("__debug__" : Str))=false:=by decide) :
  PH X (.ExceptHandler (some (.Name x aG)) (some n) (F::P) au::O) (a0z X.K k i S R):=by
 intro pins zzs H b C s B a h;have I:=a.inv;refine wpAny_handleBy_cons (codeAny_handlers_test ?_) (by intro q;cases q);refine vU (X:=wZ X b) (I.hand b) am ao ?_ aj;obtain⟨a4,M,L⟩:=a.obj;rcases h with⟨rfl,h⟩|⟨aV,c,o,h⟩
 ·obtain⟨tl,aa,nm,q,bs,ak,aI,aJ,ac,ae,dd,az,aA,aB,aC,aD,aE,l,ah,aq,T⟩:=G.obj I.kIn;obtain⟨p,g,d,tk,z⟩:=s;refine wpAny_excMatches_sub_self l M L (T.hasType GC.hasBase) ?_;show codeAny _ _ _ _ _;refine codeAny_handlers_suite_as (a.again fun h' E=>?_);have W:=(E.track al).hand b;refine qM (i:=i) (v:=.ref b) (X:=wZ X b) W ag an (.inl y) rfl (fun s2 Y=>?_) (.inr y);refine jy (ax b pins s2 _ _ { nx:=fun _ _=>False,rt:=B.rt } Y (h b E.free)) (fun f a6 r=>?_) fun _ _ j=>False.elim j
  cases f with
  |next=>obtain⟨_,_,_,j⟩:=r;exact False.elim j
  |brk=>obtain⟨_,_,_,j⟩:=r;exact False.elim j
  |cont=>obtain⟨_,_,_,j⟩:=r;exact False.elim j
  |ret u=>
   obtain⟨v,aP,U,D,rv,q⟩:=r;obtain⟨m,ar,_⟩:=D.loc;have Z:=D.a6R I.ok;show wpAny _ _ _ _ _ _;refine wpAny_nameGoes y ar (by rw[I.ok.kind];rfl) fun aT a1 ap ay=>?_
   exact⟨v,_,U,Z.Wj ap ay,rv,q⟩
 ·obtain⟨tl,aa,nm,q,bs,ak,aI,aJ,ac,ae,dd,az,aA,aB,aC,aD,aE,l,ah,aq,T⟩:=c.obj I.kIn;obtain⟨aK,aL,a3,a5,aQ,aM,a7,a8,aO,aR,aS,aW,aX,aY,aZ,a0,a2,J,aU,aN,ab⟩:=G.obj I.kIn;obtain⟨p,g,d,tk,z⟩:=s;have aF:(Value.ref C::tl).contains (.ref k)=false:=by
   unfold DQ at o;split at o
   ·rename_i af ad aH as;have e:=I.kIn _ _ as;have t:p.get? C=some ⟨.type "type",af,.cls ad,aH⟩:=e;rw[l] at t;unfold excClassObj at t;cases t;simpa using o
   ·cases o
  have ai:(Value.ref k::aK).contains (.type "BaseException")=true:=by rw[List.contains_cons,ab.hasType GC.hasBase,Bool.or_true]
  have f:=tc_notTuple;have key:∀ Q:Bool->Shared->Prop,Q false ⟨p,g,d,tk,z⟩->wpAny (model X.prog X.w) (wZ X b).A (excMatches (.ref b) (.ref k)) Q (notedBy (model X.prog X.w) (X.A.mark (some (.ref b))) X.env (cameBackBy (model X.prog X.w) X.A X.env X.xe)) ⟨p,g,d,tk,z⟩:=fun Q av=>by
   unfold excMatches
   repeat (first|(with_reducible refine wpAny_loadPart_at M ?_;rw[L])|with_reducible refine wpAny_loadPart_at J ?_|(with_reducible refine wpAny_isSubtype_exc J ?_;rw[ai])|(with_reducible refine wpAny_isSubtype_exc l ?_;rw[aF])|wp_step)
   exact av
  refine key _ ?_;exact aw pins zzs H b C _ B a h
def a8a(tb:TSX)(th:Addr->TS):TS:=fun D zzs H=>tb D (fun bT c H'=>∃ C,c=.ref C/\th C D bT H') zzs H
theorem a6o{g:List Stmt}{h₀:ExceptHandler}{k:List ExceptHandler}{pos:Pos}{l:TSX}{m:Addr->TS}(b:X.stack=X.env::X.outer)(z:X.env.frame=some X.env.locals)(x:PSX X g l)(A:PH X (h₀::k) m) :
  PS X (.Try g (h₀::k) [] [] pos) (a8a l m):=by
 intro pins s zzs H c I h;refine wpAny_Try_except (jy (x pins s zzs H c _ I h) (fun f s1 q=>?_) fun K s1 q=>?_)
 ·cases f with
  |next=>exact GZ q
  |ret v=>exact q
  |brk=>exact q
  |cont=>exact q
 ·obtain⟨p,H1,s2,d,u,C,H',rfl,D,r,un,B,a,J,e,G⟩:=q;cases e;obtain⟨n,t,w,o⟩:=a.fl;have i:=w;rw[b] at i;refine wpAny_looks_onW (by rw[<- b];exact d.ok.frames) z i fun L y E=>?_
  refine wpAny_landsW y fun M j F=>?_
  rw[<- b] at j;exact A pins p H' u C _ c ⟨H1,s2,s1,n,t,d,D,un,B,o,j,E.trans F,rfl,r,a.new,a.free⟩ G
end
def Its(z:Str):It:=⟨fun i _=>i<z.cps.size,fun i H x H'=>H'=H/\∃ c,z.cps[i]?=some c/\x=.str ⟨#[c]⟩,fun i _=>z.cps.size<=i⟩
theorem Xk{P:Program}{w:World}{K:ao}{F:Expr}(g:Str)(t:Tok)(f:Addr):Turn P w K F (Its g) [f] f (fun i h=>h.IsStrIter f "str_ascii_iterator" g t i) where
 mem:=by simp
 obj:=fun i h st b a=>by
  have e:b=f:=by simpa using a
  subst e;obtain⟨o,e,c,d⟩:=st;exact⟨o,e,fun v q=>by rw[d] at q;cases q⟩
 keep:=fun i h h' st k=>by
  obtain⟨o,e,c,d⟩:=st;exact⟨o,k f (by simp) o e,c,d⟩
 item:=by
  intro X x hw u z i pins s zzs H E I j st y;subst x hw u;obtain⟨m,f1,f2,n,p,r⟩:=j f (by simp);have l:i<g.cps.size:=y;refine wpAny_pyNext_ascii_item st (c:=g.cps[i]) (by simp[l]) fun h' A D=>?_
  have B:Inv X pins zzs H { s with heap:=h',toks:=s.toks+1 }:=I.turned (fun b o a e=>(D.2 b a).trans e) m f1 n p r;obtain⟨o,e,c,d⟩:=id A;exact⟨_,rfl,U4 (s:={ s with heap:=h',toks:=s.toks+1 }) e c d (by decide) ⟨.str ⟨#[g.cps[i]]⟩,H,B,⟨_,rfl⟩,⟨rfl,g.cps[i],by simp[l],rfl⟩,A,fun b a=>(j b a).1⟩⟩
 done:=by
  intro X x hw u z i pins s zzs H E I j st y;subst x hw u;obtain⟨m,f1,f2,n,p,r⟩:=j f (by simp);have l:g.cps.size<=i:=y;exact wpAny_pyNext_ascii_end (I.ok.hd z) st (by simp[l]) fun h' C=>⟨rfl,I.turned (t':=s.toks) (fun b o a e=>C b o a e) m f1 n p r⟩
 self:=fun _ _ _ _ _ st h=>wpAny_pyIter_striter_ascii st h
theorem Xl{P:Program}{w:World}{K:ao}{F:Expr}(g:Str)(t:Tok)(f:Addr):Turn P w K F (Its g) [f] f (fun i h=>h.IsStrIter f "str_iterator" g t i) where
 mem:=by simp
 obj:=fun i h st b a=>by
  have e:b=f:=by simpa using a
  subst e;obtain⟨o,e,c,d⟩:=st;exact⟨o,e,fun v q=>by rw[d] at q;cases q⟩
 keep:=fun i h h' st k=>by
  obtain⟨o,e,c,d⟩:=st;exact⟨o,k f (by simp) o e,c,d⟩
 item:=by
  intro X x hw u z i pins s zzs H E I j st y;subst x hw u;obtain⟨m,f1,f2,n,p,r⟩:=j f (by simp);have l:i<g.cps.size:=y;refine wpAny_pyNext_wide_item st (c:=g.cps[i]) (by simp[l]) fun h' A D=>?_
  have B:Inv X pins zzs H { s with heap:=h',toks:=s.toks+1 }:=I.turned (fun b o a e=>(D.2 b a).trans e) m f1 n p r;obtain⟨o,e,c,d⟩:=id A;exact⟨_,rfl,U4 (s:={ s with heap:=h',toks:=s.toks+1 }) e c d (by decide) ⟨.str ⟨#[g.cps[i]]⟩,H,B,⟨_,rfl⟩,⟨rfl,g.cps[i],by simp[l],rfl⟩,A,fun b a=>(j b a).1⟩⟩
 done:=by
  intro X x hw u z i pins s zzs H E I j st y;subst x hw u;obtain⟨m,f1,f2,n,p,r⟩:=j f (by simp);have l:g.cps.size<=i:=y;exact wpAny_pyNext_wide_end (I.ok.hd z) st (by simp[l]) fun h' C=>⟨rfl,I.turned (t':=s.toks) (fun b o a e=>C b o a e) m f1 n p r⟩
 self:=fun _ _ _ _ _ st h=>wpAny_pyIter_striter_wide st h
section
variable{X:Cx}{tg:Expr}
def a7n(te:TE):TI:=fun zzs H R=>te zzs H fun x H1=>∃ z,x=.str z/\R (Its z) H1
theorem a6h{l:Expr}{f:TE}(i:PE X l f):PI X tg l (a7n f):=by
 intro pins s zzs H R I h;refine thn (i pins s zzs H _ I h) fun v s1 m=>?_
 obtain⟨x,H1,a,k,j⟩:=m;obtain⟨c,e,q⟩:=j;subst e;obtain⟨t,rfl⟩:=k;have fp:∀ b∈[s1.heap.objs.size],wz X pins H1 b:=fun b g=>by
  have e:b=s1.heap.objs.size:=by simpa using g
  subst e;exact a.Nv (bK _) (a.hok.fresh (bK _))
 cases d:c.cps.all (·<128)
 ·exact wpAny_pyIter_wide d ⟨s1.heap.objs.size,[s1.heap.objs.size],_,_,H1,rfl,a.kept (t':=s1.toks) fun b o e=>fj _ e,Xl c t _,⟨_,gn _ rfl,rfl,rfl⟩,fp,q⟩
 ·exact wpAny_pyIter_ascii d ⟨s1.heap.objs.size,[s1.heap.objs.size],_,_,H1,rfl,a.kept (t':=s1.toks) fun b o e=>fj _ e,Xk c t _,⟨_,gn _ rfl,rfl,rfl⟩,fp,q⟩
def a7W:V->Option Int->Option Int->Hp->VK->Prop:=fun x lo hi H Q=>∃ z,x=.str z/\z.length<=sizeLine/\Q (.str (Txt.slice z lo hi)) H
theorem Fw{u:Value}{o:Option Int}(p:IsPart u o):∃ l:Option (Int×Tok),u=partValue l/\o=l.map (·.1):=by
 cases p with
 |none=>exact⟨none,rfl,rfl⟩
 |int i t=>exact⟨some (i,t),rfl,rfl⟩
theorem a6J:SlR X a7W:=by
 intro pins s zzs H x v j m lo hi g Q I e a c d h;obtain⟨f,rfl,b,q⟩:=h;obtain⟨t,rfl⟩:=e;obtain⟨l,rfl,rfl⟩:=Fw c;obtain⟨u,rfl,rfl⟩:=Fw d;refine⟨"str",_,F.slot_str_getitem.lookup,typeIs_str _ _ _,wpAny_getItem_str_slice (l:=l) (u:=u) (st:=none) a rfl ?_⟩;exact post_val_or_str ⟨cU (Txt.slice_le f _ _) b,fun i k=>⟨.str _,H,I.tok _,⟨_,rfl⟩,q⟩⟩
def a6B(z:Str)(n:Int):Str:=if n<1 then Str.empty else if(n==1||z.length==0)=true then z else⟨(List.replicate n.toNat z.cps).foldl (·++·) #[]⟩
theorem QK:OpR X (binaryOp .Mult) (fun x y H Q=>∃ a n,x=.str a/\y=.int n/\a.length<=1000 /\ -1000<=n/\n<=1000/\Q (.str (a6B a n)) H):=by
 intro pins s zzs H x y v u Q I m o h;obtain⟨a,n,rfl,rfl,f,h1,h2,q⟩:=h;obtain⟨t,rfl⟩:=m;obtain⟨p,rfl⟩:=o;refine P.mul_str (by rw[cD (by lia),cD (by lia)];rfl) (fun i _=>?_) (fun i _=>?_) ?_
 ·have:(1000:Int)<=(2^63-1) / n:=by
   rw[Int.le_ediv_iff_mul_le (by lia)];lia
  lia
 ·have:a.length*n.toNat<=1000*1000:=lK f (by lia);show decide (a.length*n.toNat>sizeLine)=false;rw[pK];exact cD (by lia)
 ·unfold a6B at q;by_cases c:n<1
  ·rw[aK c] at q ⊢;exact⟨by decide,⟨.str _,H,I.tok _,⟨_,rfl⟩,q⟩⟩
  ·rw[aJ c] at q ⊢;by_cases d:(n==1||a.length==0)=true
   ·rw[aK d] at q ⊢;exact⟨.str _,H,I,⟨_,rfl⟩,q⟩
   ·rw[aJ d] at q ⊢;refine⟨?_,⟨.str _,H,I.tok _,⟨_,rfl⟩,q⟩⟩;have e:∀(k:Nat)(b:Array Nat),((List.replicate k a.cps).foldl (·++·) b).size=b.size+k*a.cps.size:=by
     intro k
     induction k with
     |zero=>intro b;simp
     |succ k l=>
      intro b;rw[uZ,vG,l,Array.size_append,Nat.add_mul,Nat.one_mul];lia
    have g:=e n.toNat #[];have j:a.cps.size<=1000:=f;have:n.toNat*a.cps.size<=1000*1000:=lK (by lia) j;show((List.replicate n.toNat a.cps).foldl (·++·) #[]).size<=sizeLine;rw[g,pK];simp only[dX,yp];lia
theorem Xx(w:X.calm=true):fH X (.builtin "all") (fun xs H Q=>∃(p:Addr)(bs:List Bool),xs=[.ref p]/\SqL X.K H p (bs.map V.bl)/\Q (.bl (bs.all id)) H):=by
 intro pins s zzs H xs M Q I r h;obtain⟨p,bs,rfl,z,q⟩:=h;obtain⟨u,rfl,D⟩:=vals1 r;cases D;obtain⟨a,rv,d,L⟩:=I.list z;have j:a.length=bs.length:=by have:=rv.length;simpa using this.symm
 have B:∀(i:Nat)(v:Value),a[i]?=some v->v=.bool (bs.getD i true):=fun i v e=>by
  have hi:i<bs.length:=by rw[<- j];exact(gO.mp e).1
  have c:(bs.map V.bl)[i]?=some (V.bl bs[i]):=by simp[hi]
  obtain⟨N,g,E⟩:=rv.get c;rw[e] at g;cases g;have:bs.getD i true=bs[i]:=by simp[fM,hi]
  rw[this];exact E
 have y:p≠s.heap.objs.size:=fun f=>by
  obtain⟨o,n,e,_⟩:=d;exact oX _ (f▸bO e)
 refine call_all_walk (RQ d.isList ?_);refine⟨s.heap.objs.size,[s.heap.objs.size,p],[s.heap.objs.size],a.toArray.size,fun i v=>a.toArray[i]?=some v,fun i h=>h.IsListIter s.heap.objs.size p i/\h.IsList p a.toArray,fun i=>bs.getD i true,rfl,
  Walks.list (A:=X.A.in1) (I.ok.hd w) _ p y a.toArray,⟨⟨_,gn _ rfl,rfl,rfl⟩,d.isList.at fun o e=>fj _ e⟩,fun i v s' J G l m=>?_,fun h' tk C=>?_⟩
 ·have:=B i v (by simpa using l);subst this;exact wQ m
 ·have t:(List.range a.toArray.size).all (fun i=>bs.getD i true)=bs.all id:=by
   rw[dX,j];apply vq.mpr;simp only[nQ,fP,id];constructor
   ·intro h x c;obtain⟨i,hi,rfl⟩:=Li c;have:=h i hi;simpa [fM,hi] using this
   ·intro h i hi;have:=h bs[i] (mL hi);simpa [fM,hi] using this
  rw[t];have k:Inv X pins zzs H { s with heap:=h',toks:=tk }:=I.kept fun b o e=>C b o (fun f=>by
   have F:b=s.heap.objs.size:=by simpa using f
   exact oX _ (F▸bO e)) (fj _ e)
  exact⟨.bl _,H,k,rfl,q⟩
end
open PySem.SeqAt
inductive Dt where
 |non|bl (b:Bool)|int (i:Int)|str (x:Str)|tup (ds:List Dt)|lst (ds:List Dt)
mutual
inductive Den(K:ao)(H:Hp):V->Dt->Prop
 |non:Den K H .non .non
 |bl (b:Bool):Den K H (.bl b) (.bl b)
 |int (i:Int):Den K H (.int i) (.int i)
 |str (x:Str):Den K H (.str x) (.str x)
 |tup {a:Addr} {xs:List V} {ds:List Dt} (h:H a=some (.tup xs)) (hs:bf K H xs ds):Den K H (.ref a) (.tup ds)
 |lst {a:Addr} {xs:List V} {ds:List Dt} (h:SqL K H a xs) (hs:bf K H xs ds):Den K H (.ref a) (.lst ds)
inductive bf(K:ao)(H:Hp):List V->List Dt->Prop
 |nil:bf K H [] []
 |cons {x:V} {d:Dt} {xs:List V} {ds:List Dt} (h:Den K H x d) (t:bf K H xs ds):bf K H (x::xs) (d::ds)
end
def nH:Dt->Option V
 |.non=>some .non
 |.bl b=>some (.bl b)
 |.int i=>some (.int i)
 |.str x=>some (.str x)
 |_=>none
mutual
def eqD:Dt->Dt->Bool
 |.tup a,.tup b=>yF a b
 |.lst a,.lst b=>yF a b
 |.non,e=>match nH e with|some y=>eqV .non y|none=>false
 |.bl x,e=>match nH e with|some y=>eqV (.bl x) y|none=>false
 |.int x,e=>match nH e with|some y=>eqV (.int x) y|none=>false
 |.str x,e=>match nH e with|some y=>eqV (.str x) y|none=>false
 |.tup _,_=>false
 |.lst _,_=>false
def yF:List Dt->List Dt->Bool
 |[],[]=>true
 |a::as,b::bs=>eqD a b&&yF as bs
 |[],_::_=>false
 |_::_,[]=>false
end
def a5E:Dt->Dt->Bool
 |.tup _,e=>(nH e).isSome
 |_,_=>false
mutual
def shD:Dt->Dt->Bool
 |.tup a,.tup b=>Bo a b
 |.lst a,.lst b=>Bo a b
 |.non,e=>(nH e).isSome
 |.bl _,e=>(nH e).isSome
 |.int _,e=>(nH e).isSome
 |.str _,e=>(nH e).isSome
 |.tup _,_=>false
 |.lst _,_=>false
def Bo:List Dt->List Dt->Bool
 |a::as,b::bs=>(shD a b||a5E a b)&&Bo as bs
 |_,_=>true
end
mutual
def wA:Dt->Nat
 |.tup a=>wH a+1
 |.lst a=>wH a+1
 |_=>0
def wH:List Dt->Nat
 |[]=>0
 |a::as=>max (wA a) (wH as)
end
theorem bf.length{K:ao}{H:Hp}:∀ {xs:List V} {a:List Dt},bf K H xs a->xs.length=a.length
 |_,_,.nil=>rfl
 |_,_,.cons _ t=>by rw[gY,gY,t.length]
theorem bf.get{K:ao}{H:Hp}:∀ {xs:List V} {a:List Dt} {i:Nat} {x:V},bf K H xs a->xs[i]?=some x->∃ d,a[i]?=some d/\Den K H x d
 |_,_,_,_,.nil,e=>by simp at e
 |_,_,0,_,.cons h _,e=>by simp at e;subst e;exact⟨_,rfl,h⟩
 |_,_,i+1,x,.cons _ t,e=>by
  obtain⟨d,h1,h2⟩:=bf.get (i:=i) (x:=x) t (by simpa using e);exact⟨d,by simpa using h1,h2⟩
theorem bf.get'{K:ao}{H:Hp}:∀ {xs:List V} {a:List Dt} {i:Nat} {d:Dt},bf K H xs a->a[i]?=some d->∃ x,xs[i]?=some x/\Den K H x d
 |_,_,_,_,.nil,e=>by simp at e
 |_,_,0,_,.cons h _,e=>by simp at e;subst e;exact⟨_,rfl,h⟩
 |_,_,i+1,d,.cons _ t,e=>by
  obtain⟨x,h1,h2⟩:=bf.get' (i:=i) (d:=d) t (by simpa using e);exact⟨x,by simpa using h1,h2⟩
theorem bf.append{K:ao}{H:Hp}:∀ {xs c:List V} {a b:List Dt},bf K H xs a->bf K H c b->bf K H (xs++c) (a++b)
 |_,_,_,_,.nil,s=>s
 |_,_,_,_,.cons h t,s=>.cons h (t.append s)
theorem vN:∀ {b:List Dt} {d:Dt},d∈b->wA d<=wH b
 |a::as,d,h=>by
  unfold wH;rcases dj.mp h with e|e
  ·rw[e];exact Nat.le_max_left _ _
  ·exact cU (vN e) (Nat.le_max_right _ _)
theorem zx:∀ {as bs:List Dt} {i:Nat} {a b:Dt},Bo as bs=true->as[i]?=some a->bs[i]?=some b->shD a b=true\/a5E a b=true
 |x::as,y::bs,0,a,b,h,c,e2=>by
  simp at c e2;subst c;subst e2;unfold Bo at h;simp only[mK,Bool.or_eq_true] at h;exact h.1
 |x::as,y::bs,i+1,a,b,h,c,e2=>by
  unfold Bo at h;simp only[mK] at h;exact zx (i:=i) h.2 (by simpa using c) (by simpa using e2)
 |[],_,_,_,_,_,c,_=>by simp at c
 |_::_,[],_,_,_,_,_,e2=>by simp at e2
def atD(as bs:List Dt)(j:Nat):Bool:=eqD (as.getD j .non) (bs.getD j .non)
theorem Ga(n:Nat)(p:Nat->Bool):(List.range (n+1)).all p=(p 0&&(List.range n).all fun j=>p (j+1)):=by
 rw[List.range_succ_eq_map,Cv,SX];rfl
theorem yG:∀ {as bs:List Dt},as.length=bs.length->(List.range as.length).all (atD as bs)=yF as bs
 |[],[],_=>rfl
 |a::as,b::bs,h=>by
  have c:=@yG as bs (by simpa using h);rw[gY,Ga];unfold yF;rw[<- c];rfl
 |[],_::_,h=>by simp at h
 |_::_,[],h=>by simp at h
theorem yH:∀ {as bs:List Dt},as.length≠bs.length->yF as bs=false
 |[],[],h=>absurd rfl h
 |a::as,b::bs,h=>by
  unfold yF;rw[yH (as:=as) (bs:=bs) (fun c=>h (by rw[gY,gY,c])),yq]
 |[],_::_,_=>rfl
 |_::_,[],_=>rfl
theorem Nt:∀ {as bs:List Dt},((List.range (min as.length bs.length)).all (atD as bs)&&as.length==bs.length)=yF as bs:=by
 intro as bs;by_cases h:as.length=bs.length
 ·rw[<- h,Nat.min_self,yG h];simp
 ·rw[yH h];simp[h]
theorem Fo:∀ {x:V},U0 x=true->eqV x x=true
 |.non,_=>rfl
 |.bl b,_=>by simp[eqV]
 |.int i,_=>by simp[eqV]
 |.str x,_=>by simp[eqV]
mutual
theorem uE:∀ d:Dt,eqD d d=true
 |.non=>rfl
 |.bl b=>by show eqV (.bl b) (.bl b)=true;exact Fo rfl
 |.int i=>by show eqV (.int i) (.int i)=true;exact Fo rfl
 |.str x=>by show eqV (.str x) (.str x)=true;exact Fo rfl
 |.tup ds=>by unfold eqD;exact Ak ds
 |.lst ds=>by unfold eqD;exact Ak ds
theorem Ak:∀ b:List Dt,yF b b=true
 |[]=>rfl
 |a::as=>by unfold yF;rw[uE a,Ak as];rfl
end
mutual
theorem Gn:∀ d:Dt,shD d d=true
 |.non=>rfl
 |.bl _=>rfl
 |.int _=>rfl
 |.str _=>rfl
 |.tup ds=>by unfold shD;exact Bp ds
 |.lst ds=>by unfold shD;exact Bp ds
theorem Bp:∀ b:List Dt,Bo b b=true
 |[]=>rfl
 |a::as=>by unfold Bo;rw[Gn a,Bp as,T3];rfl
end
theorem Uj{X:Cx}{f:List (Addr×Obj)}{zzs:St}{H:Hp}{s:Shared}{a:Addr}{xs g:List V}(I:Inv X f zzs H s)(h:SqT X.K H a xs)(h':SqL X.K H a g):False:=by
 obtain⟨_,_,⟨o,e,c,_⟩,_⟩:=I.tuple h;obtain⟨_,_,⟨o',_,d,b,_⟩,_⟩:=I.list h';rw[e] at d;cases d;rw[c] at b;exact absurd b (by decide)
mutual
theorem Den.inj{X:Cx}{f:List (Addr×Obj)}{zzs:St}{H:Hp}{s:Shared}(I:Inv X f zzs H s):∀ {d:Dt} {e:Dt} {x:V},Den X.K H x d->Den X.K H x e->d=e
 |.tup ds,_,_,.tup h c,a=>by
  cases a with
  |tup h' b=>
   have e:=I.Xh (SqT.of h) (SqT.of h');subst e;rw[bf.inj I c b]
  |lst h' b=>exact(Uj I (SqT.of h) h').elim
 |.lst ds,_,_,.lst h c,a=>by
  cases a with
  |lst h' b=>
   have e:=I.Fz h h';subst e;rw[bf.inj I c b]
  |tup h' b=>exact(Uj I (SqT.of h') h).elim
 |.non,_,_,.non,a=>by cases a;rfl
 |.bl _,_,_,.bl _,a=>by cases a;rfl
 |.int _,_,_,.int _,a=>by cases a;rfl
 |.str _,_,_,.str _,a=>by cases a;rfl
theorem bf.inj{X:Cx}{e:List (Addr×Obj)}{zzs:St}{H:Hp}{s:Shared}(I:Inv X e zzs H s):∀ {a c:List Dt} {xs:List V},bf X.K H xs a->bf X.K H xs c->a=c
 |[],_,_,.nil,b=>by cases b;rfl
 |d::a,_,_,.cons h t,b=>by
  cases b with
  |cons h' f=>rw[Den.inj I h h',bf.inj I t f]
end
theorem bf.getD{K:ao}{H:Hp}{xs:List V}{a:List Dt}{us:List Value}{j:Nat}(f:bf K H xs a)(r:Vals xs us)(h:j<us.length):∃ x,RelV x us[j]/\Den K H x (a.getD j .non)/\a[j]?=some (a.getD j .non):=by
 have k:=r.length;have e:xs[j]?=some xs[j]:=by simp[k,h]
 obtain⟨u,c,l⟩:=r.get e;obtain⟨d,b,dd⟩:=f.get e;have i:us[j]=u:=by
  rw[fY h] at c;exact iD c
 have g:a.getD j .non=d:=by rw[fM,b];rfl
 rw[i,g];exact⟨_,l,dd,b⟩
theorem Den.flat{K:ao}{H:Hp}{x:V}{d:Dt}{y:V}(h:Den K H x d)(e:nH d=some y):x=y/\U0 x=true:=by
 cases h with
 |non=>cases e;exact⟨rfl,rfl⟩
 |bl b=>cases e;exact⟨rfl,rfl⟩
 |int i=>cases e;exact⟨rfl,rfl⟩
 |str a=>cases e;exact⟨rfl,rfl⟩
 |tup _ _=>cases e
 |lst _ _=>cases e
theorem uD{d e:Dt}{x y:V}(a:nH d=some x)(b:nH e=some y):eqD d e=eqV x y:=by
 cases d<;>first
  |(cases a;simp only[eqD,b])
  |cases a
theorem Ov{d e:Dt}{x:V}(a:nH d=some x)(h:shD d e=true):∃ y,nH e=some y:=by
 cases d<;>first
  |(cases a;unfold shD at h;exact a0Y.mp h)
  |cases a
theorem Fj{X:Cx}{m:List (Addr×Obj)}{zzs:St}{H:Hp}{s:Shared}(I:Inv X m zzs H s){d e:Dt}{x y:V}{u v:Value}{A:Around}(f:A.units<cLine)(k:Den X.K H x d)(l:Den X.K H y e)(n:RelV x u)(g:RelV y v)(j:a5E d e=true):EqAt A s u v (eqD d e):=by
 cases k with
 |@tup a xs ds h p=>
  cases n;obtain⟨q,r,c,_⟩:=I.tuple (SqT.of h);cases l with
  |non=>cases g;exact EqAt.tuple_none c f
  |bl b=>cases g;exact EqAt.tuple_bool b c f
  |int i=>obtain⟨t,rfl⟩:=g;exact EqAt.tuple_int i t c f
  |str o=>obtain⟨t,rfl⟩:=g;exact EqAt.tuple_str o t c f
  |tup _ _=>cases j
  |lst _ _=>cases j
 |_=>cases j
theorem Nr{X:Cx}{Y:List (Addr×Obj)}{zzs:St}{H:Hp}{s:Shared}(I:Inv X Y zzs H s):∀(n:Nat){d e:Dt}{x y:V}{u v:Value}{A:Around},wA d<=n->A.units+n<cLine->Den X.K H x d->Den X.K H y e->RelV x u->RelV y v->shD d e=true->EqAt A s u v (eqD d e):=by
 intro n
 induction n with
 |zero=>
  intro d e x y u v A f W z B G J c;cases fd:nH d with
  |some Z=>
   obtain⟨aa,w⟩:=Ov fd c;obtain⟨rfl,f1⟩:=z.flat fd;obtain⟨rfl,f2⟩:=B.flat w;rw[uD fd w];exact Yi G J f1 f2
  |none=>
   cases d with
   |tup ds=>unfold wA at f;exact absurd f (by lia)
   |lst ds=>unfold wA at f;exact absurd f (by lia)
   |_=>cases fd
 |succ n T=>
  intro d e x y u v A f W z B G J c;cases fd:nH d with
  |some Z=>
   obtain⟨aa,w⟩:=Ov fd c;obtain⟨rfl,f1⟩:=z.flat fd;obtain⟨rfl,f2⟩:=B.flat w;rw[uD fd w];exact Yi G J f1 f2
  |none=>
   cases d with
   |tup ds=>
    cases e with
    |tup es=>
     cases z with
     |@tup a xs _ h g=>
      cases B with
      |@tup b ys _ h' i=>
       cases G;cases J;by_cases l:a=b
       ·subst l;have e:=Den.inj I (.tup h g) (.tup h' i);rw[e,uE];exact EqAt.same _
       ·obtain⟨R,r,M,_⟩:=I.tuple (SqT.of h);obtain⟨S,D,N,_⟩:=I.tuple (SqT.of h');have Q:Bo ds es=true:=by unfold shD at c;exact c
        rw[show eqD (.tup ds) (.tup es)=yF ds es from by unfold eqD;rfl];rw[<- Nt];have C:R.toArray.size=ds.length:=by rw[dX,<- r.length,g.length]
        have O:S.toArray.size=es.length:=by rw[dX,<- D.length,i.length]
        rw[<- C,<- O];refine M5 l (RcAt.tuples M N (by lia) fun j h1 h2=>?_);obtain⟨p,E,m,t⟩:=g.getD r (j:=j) (by simpa using h1);obtain⟨q,F,o,P⟩:=i.getD D (j:=j) (by simpa using h2);unfold wA at f;have U:=vN (eX t);exact(zx Q t P).elim (fun k=>T (A:=A.in1) (by lia) (by show A.units+1+n<cLine;lia) m o (by simpa using E) (by simpa using F) k) (fun k=>Fj (A:=A.in1) I (by show A.units+1<cLine;lia) m o (by simpa using E) (by simpa using F) k)
    |_=>unfold shD at c;cases c
   |lst ds=>
    cases e with
    |lst es=>
     cases z with
     |@lst a xs _ h g=>
      cases B with
      |@lst b ys _ h' i=>
       cases G;cases J;by_cases l:a=b
       ·subst l;have e:=Den.inj I (.lst h g) (.lst h' i);rw[e,uE];exact EqAt.same _
       ·obtain⟨R,r,M,_⟩:=I.list h;obtain⟨S,D,N,_⟩:=I.list h';have Q:Bo ds es=true:=by unfold shD at c;exact c
        rw[show eqD (.lst ds) (.lst es)=yF ds es from by unfold eqD;rfl];have C:R.toArray.size=ds.length:=by rw[dX,<- r.length,g.length]
        have O:S.toArray.size=es.length:=by rw[dX,<- D.length,i.length]
        by_cases L:ds.length=es.length
        ·rw[<- yG L,<- C];refine M5 l (RcAt.lists M.isList N.isList (by rw[C,O];exact L) (by lia) fun j h1 h2=>?_);obtain⟨p,E,m,t⟩:=g.getD r (j:=j) (by simpa using h1);obtain⟨q,F,o,P⟩:=i.getD D (j:=j) (by simpa using h2);unfold wA at f;have U:=vN (eX t);exact(zx Q t P).elim (fun k=>T (A:=A.in1) (by lia) (by show A.units+1+n<cLine;lia) m o (by simpa using E) (by simpa using F) k) (fun k=>Fj (A:=A.in1) I (by show A.units+1<cLine;lia) m o (by simpa using E) (by simpa using F) k)
        ·rw[yH L];exact M5 l (RcAt.lists_lengths M.isList N.isList (by rw[C,O];simpa using L) (by lia))
    |_=>unfold shD at c;cases c
   |_=>cases fd
section
variable{X:Cx}{pins:List (Addr×Obj)}{zzs:St}{H:Hp}{s:Shared}
def a6I:Dt->Option (List Dt)
 |.tup ds=>some ds
 |.lst ds=>some ds
 |_=>none
theorem vQ{n:Nat}{A:Around}(I:Inv X pins zzs H s){xs i:List V}{a b:List Dt}{us ws:List Value}(x:wH a<=n)(y:A.units+(n+1)<cLine)(o:bf X.K H xs a)(t:bf X.K H i b)(r:Vals xs us)(u:Vals i ws)
  (v:Bo a b=true) (j:Nat) (l:j<us.toArray.size) (m:j<ws.toArray.size):EqAt A.in1 s us.toArray[j] ws.toArray[j] (atD a b j):=by
 obtain⟨p,g,d,f⟩:=o.getD r (j:=j) (by simpa using l);obtain⟨q,h,e,k⟩:=t.getD u (j:=j) (by simpa using m);have w:=vN (eX f);exact(zx v f k).elim (fun c=>Nr I n (A:=A.in1) (by lia) (by show A.units+1+n<cLine;lia) d e (by simpa using g) (by simpa using h) c) (fun c=>Fj (A:=A.in1) I (by show A.units+1<cLine;lia) d e (by simpa using g) (by simpa using h) c)
theorem Ol{A:Around}(I:Inv X pins zzs H s){d e:Dt}{a b:Addr}(x:(a6I d).isSome=true)(y:A.units+60<cLine)(u:wA d<=50)(v:Den X.K H (.ref a) d)(w:Den X.K H (.ref b) e)(c:shD d e=true):RcAt A s (.ref a) (.ref b) (eqD d e)/\RcNeAt A s (.ref a) (.ref b) (!eqD d e):=by
 cases d with
 |tup ds=>
  cases e with
  |tup es=>
   cases v with
   |tup h f=>
    cases w with
    |tup h' g=>
     obtain⟨q,r,i,_⟩:=I.tuple (SqT.of h);obtain⟨t,l,j,_⟩:=I.tuple (SqT.of h');have p:Bo ds es=true:=by unfold shD at c;exact c
     have o:wH ds<=49:=by unfold wA at u;lia
     rw[show eqD (.tup ds) (.tup es)=yF ds es from by unfold eqD;rfl,<- Nt];have k:q.toArray.size=ds.length:=by rw[dX,<- r.length,f.length]
     have n:t.toArray.size=es.length:=by rw[dX,<- l.length,g.length]
     rw[<- k,<- n];exact⟨RcAt.tuples i j (by lia) (vQ I o (by lia) f g r l p),RcNeAt.tuples i j (by lia) (vQ I o (by lia) f g r l p)⟩
  |_=>unfold shD at c;cases c
 |lst ds=>
  cases e with
  |lst es=>
   cases v with
   |lst h f=>
    cases w with
    |lst h' g=>
     obtain⟨q,r,i,_⟩:=I.list h;obtain⟨t,l,j,_⟩:=I.list h';have p:Bo ds es=true:=by unfold shD at c;exact c
     have o:wH ds<=49:=by unfold wA at u;lia
     rw[show eqD (.lst ds) (.lst es)=yF ds es from by unfold eqD;rfl];have k:q.toArray.size=ds.length:=by rw[dX,<- r.length,f.length]
     have n:t.toArray.size=es.length:=by rw[dX,<- l.length,g.length]
     by_cases m:ds.length=es.length
     ·rw[<- yG m,<- k];exact⟨RcAt.lists i.isList j.isList (by rw[k,n];exact m) (by lia) (vQ I o (by lia) f g r l p),RcNeAt.lists i.isList j.isList (by rw[k,n];exact m) (by lia) (vQ I o (by lia) f g r l p)⟩
     ·rw[yH m];exact⟨RcAt.lists_lengths i.isList j.isList (by rw[k,n];simpa using m) (by lia),RcNeAt.lists_lengths i.isList j.isList (by rw[k,n];simpa using m) (by lia)⟩
  |_=>unfold shD at c;cases c
 |_=>cases x
def ZD(K:ao)(neg:Bool):R2:=fun x y H Q=>∃ d e,(a6I d).isSome=true/\Den K H x d/\Den K H y e/\shD d e=true/\wA d<=50/\Q (.bl (if neg then !eqD d e else eqD d e)) H
theorem Den.ZP{K:ao}{x:V}{d e:Dt}{y:V}(g:(a6I d).isSome=true)(h:Den K H x d)(f:Den K H y e)(c:shD d e=true):∃ a b,x=.ref a/\y=.ref b:=by
 cases h with
 |@tup a _ _ _ _=>
  cases f with
  |@tup b _ _ _ _=>exact⟨a,b,rfl,rfl⟩
  |_=>unfold shD at c;cases c
 |@lst a _ _ _ _=>
  cases f with
  |@lst b _ _ _ _=>exact⟨a,b,rfl,rfl⟩
  |_=>unfold shD at c;cases c
 |_=>cases g
theorem a5R(k:X.A.units+60<cLine):OpR X (compareOp .Eq) (ZD X.K false):=by
 intro pins s zzs H x y v u Q I l m h;obtain⟨d,e,c,f,g,i,j,q⟩:=h;obtain⟨a,b,rfl,rfl⟩:=Den.ZP c f g i;cases l;cases m;exact(Ol I c k j f g i).1 _ _ _ _ ⟨.bl _,H,I,rfl,q⟩
theorem a5V(k:X.A.units+60<cLine):OpR X (compareOp .NotEq) (ZD X.K true):=by
 intro pins s zzs H x y v u Q I l m h;obtain⟨d,e,c,f,g,i,j,q⟩:=h;obtain⟨a,b,rfl,rfl⟩:=Den.ZP c f g i;cases l;cases m;exact(Ol I c k j f g i).2 _ _ _ _ ⟨.bl _,H,I,rfl,q⟩
def QS(K:ao)(neg:Bool):R2:=fun x y H Q=>∃ d es p,y=.ref p/\Den K H x d/\(Den K H y (.lst es)\/Den K H y (.tup es))/\(∀ e∈es,shD e d=true/\wA e<=50)/\Q (.bl (if neg then !(es.any fun e=>eqD e d) else es.any fun e=>eqD e d)) H
theorem a1K{K:ao}{d:Dt}{P:Value->Bool}:∀ {xs:List V} {a:List Dt} {us:List Value},bf K H xs a->Vals xs us->(∀(j:Nat)(u:Value)(e:Dt),us[j]?=some u->a[j]?=some e->P u=eqD e d)->us.any P=a.any fun e=>eqD e d:=by
 intro xs a us b r
 induction r generalizing a with
 |nil=>intro h;cases b;rfl
 |cons _ r c=>
  intro h;cases b with
  |cons _ t=>rw[yr,yr,h 0 _ _ rfl rfl,c t fun j u e h1 h2=>h (j+1) u e (by simpa using h1) (by simpa using h2)]
open Classical in
theorem Ka(I:Inv X pins zzs H s){x:V}{v:Value}{d:Dt}{l:List V}{a:List Dt}{us:List Value}{A:Around}(J:A.units+60<cLine)(D:RelV x v)(C:Den X.K H x d)(g:bf X.K H l a)(r:Vals l us)(z:∀ e∈a,shD e d=true/\wA e<=50) :
  ∃ P:Value->Bool,(∀ u∈us,EqAt A s u v (P u))/\us.any P=a.any fun e=>eqD e d:=by
 have key:∀(j:Nat)(u:Value)(e:Dt),us[j]?=some u->a[j]?=some e->EqAt A s u v (eqD e d)/\∃ y,RelV y u/\Den X.K H y e:=fun j u e h1 h2=>by
  obtain⟨y,w,b⟩:=g.get' h2;obtain⟨L,h,c⟩:=r.get w;rw[h1] at h;cases h;obtain⟨m,n⟩:=z e (eX h2);exact⟨Nr I 50 n (by lia) b C c D m,y,c,b⟩
 have one:∀(j:Nat)(u:Value)(e:Dt),us[j]?=some u->a[j]?=some e->decide (∃ y e,RelV y u/\Den X.K H y e/\eqD e d=true)=eqD e d:=fun j u e h1 h2=>by
  obtain⟨_,y,c,b⟩:=key j u e h1 h2;cases q:eqD e d with
  |true=>exact bQ ⟨y,_,c,b,q⟩
  |false=>
   refine cD fun F=>?_
   obtain⟨M,G,E,o,k⟩:=F;have t:=c.inj E;subst t;rw[Den.inj I o b,q] at k;cases k
 refine⟨fun u=>decide (∃ y e,RelV y u/\Den X.K H y e/\eqD e d=true),fun u B=>?_,a1K g r one⟩;obtain⟨j,f⟩:=tU B;have i:j<a.length:=by rw[<- g.length,r.length];exact(gO.mp f).1
 have p:=(key j u a[j] f (by simp[i])).1;show EqAt A s u v (decide _);rw[one j u a[j] f (by simp[i])];exact p
theorem a5T(o:X.A.units+61<cLine):OpR X (compareOp .In) (QS X.K false):=by
 intro pins s zzs H x y v u Q I l m h;obtain⟨d,es,p,rfl,k,a,j,q⟩:=h;cases m;rcases a with a|a
 ·cases a with
  |lst h' c=>
   obtain⟨n,r,f,_⟩:=I.list h';obtain⟨P,b,e⟩:=Ka (A:=X.A.in1) I (by show X.A.units+1+60<cLine;omega) l k c r j;exact in_listAt P f.isList (fun i g=>b i (by simpa using g)) ⟨.bl _,H,I,by rw[<- e];simp<;>rfl,q⟩
 ·cases a with
  |tup h' c=>
   obtain⟨n,r,f,_⟩:=I.tuple (SqT.of h');obtain⟨P,b,e⟩:=Ka (A:=X.A.in1) I (by show X.A.units+1+60<cLine;omega) l k c r j;exact in_tupleAt P f (fun i g=>b i (by simpa using g)) ⟨.bl _,H,I,by rw[<- e];simp<;>rfl,q⟩
theorem WM(o:X.A.units+61<cLine):OpR X (compareOp .NotIn) (QS X.K true):=by
 intro pins s zzs H x y v u Q I l m h;obtain⟨d,es,p,rfl,k,a,j,q⟩:=h;cases m;rcases a with a|a
 ·cases a with
  |lst h' c=>
   obtain⟨n,r,f,_⟩:=I.list h';obtain⟨P,b,e⟩:=Ka (A:=X.A.in1) I (by show X.A.units+1+60<cLine;omega) l k c r j;exact notIn_listAt P f.isList (fun i g=>b i (by simpa using g)) ⟨.bl _,H,I,by rw[<- e];simp<;>rfl,q⟩
 ·cases a with
  |tup h' c=>
   obtain⟨n,r,f,_⟩:=I.tuple (SqT.of h');obtain⟨P,b,e⟩:=Ka (A:=X.A.in1) I (by show X.A.units+1+60<cLine;omega) l k c r j;exact notIn_tupleAt P f (fun i g=>b i (by simpa using g)) ⟨.bl _,H,I,by rw[<- e];simp<;>rfl,q⟩
end
structure Df(P:Program)(w:World)(K:ao)(mg:Str->Option Value)(base:Heap)(k:Nat)(x:Str)(ps:List Str)(sp:Sp):Prop where
 ex:∃ f fd,cR P w K mg base (CXE P w) k f fd ps sp/\mg x=some (.ref f)/\PySem.W.keepIn K (.ref f)=true/\Binds K fd ps []
theorem aW{X:Cx}:Passes (CXE X.prog X.w) X E0:=by
 intro pins zzs H s e s' I h;obtain⟨b,C,H',_,_,_,_,_,_,a⟩:=h;exact a.elim
section
variable{P:Program}{w:World}{K:ao}{mg:Str->Option Value}{base:Heap}
theorem Fun.okE{x d:Str}{st:Stmt}{f:Addr}{e:FuncData}{N c:List Str}{k:Nat}{sp:Sp}(F:Fun K x d st f e)(S:aZ N c (aH st))(len:∀ vs H Q E,sp vs H Q E->vs.length=c.length)
  (g:∀(a:Value)(A:Around)(b:List Env)(s:Shared)(H:Hp)(vs:List V)(Q:VK)(E:XK),iT k (A.deeper (envOfC d (aH st) s.heap.objs.size f a))->sp vs H Q E ->
   ∃ t,PSs (tY (CXE P w) P w K mg base N d (aH st) f a A b s H E) (gZ st) t/\t { nx:=fun _ H'=>Q .non H',rt:=Q } (start N vs) H):cR P w K mg base (CXE P w) (k+1) f e c sp:=by
 obtain⟨oc,od,kV,doc,pm,an,a,ct,osl,rfl,l,h⟩:=F.ex;exact a7i l h S len fun A b s H vs Q E i j=>g a A b s H vs Q E i j
theorem Fun.ok0{x d:Str}{st:Stmt}{f:Addr}{e:FuncData}{N c:List Str}{k:Nat}{sp:Sp}(F:Fun K x d st f e)(S:aZ N c (aH st))(len:∀ vs H Q E,sp vs H Q E->vs.length=c.length)
  (g:∀(a:Value)(A:Around)(b:List Env)(s:Shared)(H:Hp)(vs:List V)(Q:VK)(E:XK),iT k (A.deeper (envOfC d (aH st) s.heap.objs.size f a))->sp vs H Q E ->
   ∃ t,PSs (tY (CXE P w) P w K mg base N d (aH st) f a A b s H E).nox (gZ st) t/\t { nx:=fun _ H'=>Q .non H',rt:=Q } (start N vs) H):cR P w K mg base (CXE P w) (k+1) f e c sp:=
 F.okE S len fun a A b s H vs Q E i j=>let ⟨t,h,q⟩:=g a A b s H vs Q E i j;⟨t,h.nox,q⟩
end
theorem PS.nox{X:Cx}{st:Stmt}{t:TS}(h:PS X.nox st t):PS X st t:=fun pins s zzs H a I hw=>
 jy (h pins s zzs H a (I.wish _) hw) (fun _ _ q=>SP.nC q) fun _ _ b=>False.elim b
section
variable{X:Cx}{k j:Nat}{ps:List Str}{sp:Sp}{E:XK}{x:Str}{p pos:Pos}{e:Expr}{es:List Expr}{t:TA}
theorem a5Z(a:Df X.prog X.w X.K X.mg X.base k x ps sp)(n:iT j X.A)(h:Gl X x)(o:Passes (CXE X.prog X.w) X E)(b:PA X (e::es) t)(i:k<=j:=by decide)
  (d:(x==("__debug__" : Str))=false:=by decide) (g:starEach (e::es) X.env=(false,eval e X.env)::starEach es X.env:=by rfl) (m:(backTo pos (starEach es X.env)).any (·.1)=false:=by rfl) :
  PE X (.Call (.Name x p) (e::es) [] pos) (V9 sp [] E t):=by
 obtain⟨f,fd,F,l,kp,c⟩:=a.ex;exact a2I F (n.mono i) h l kp c .nil o b d g m
theorem a2O(a:Df X.prog X.w X.K X.mg X.base k x ps sp)(n:iT j X.A)(h:Gl X x)(b:PA X.nox (e::es) t)(i:k<=j:=by decide)
  (d:(x==("__debug__" : Str))=false:=by decide) (g:starEach (e::es) X.env=(false,eval e X.env)::starEach es X.env:=by rfl) (m:(backTo pos (starEach es X.env)).any (·.1)=false:=by rfl) :
  PEX X (.Call (.Name x p) (e::es) [] pos) (Kw sp [] t):=by
 obtain⟨f,fd,F,l,kp,c⟩:=a.ex;exact Zn F (n.mono i) h l kp c .nil b d g m
end
section
variable{X:Cx}{x:Str}{pos:Pos}
theorem a2L{i:Int}(h:∃ t,X.mg x=some (.int i t))(b:Gl X x) (a:(x==("__debug__" : Str))=false:=by decide):PE X (.Name x pos) (tC (.int i)):=by
 obtain⟨t,h⟩:=h;exact Kg b h ⟨t,rfl⟩ a
theorem a2M{a:Str}(h:∃ t,X.mg x=some (.str a t))(c:Gl X x) (b:(x==("__debug__" : Str))=false:=by decide):PE X (.Name x pos) (tC (.str a)):=by
 obtain⟨t,h⟩:=h;exact Kg c h ⟨t,rfl⟩ b
end
section
variable{X:Cx}
def CW:R2:=fun x y H Q=>match x,y with
 |.int i,.int j=>Q (.int (i+j)) H
 |.str i,.str j=>i.length+j.length<=sizeLine/\Q (.str (i++j)) H
 |.ref l,.ref b=>∃ xs zs,H l=some (.lst xs)/\H b=some (.lst zs)/\xs.length+zs.length<=sizeLine/\∀ p,H p=none->Q (.ref p) (upd H p (.lst (xs++zs)))
 |_,_=>False
theorem bC:OpR X (binaryOp .Add) CW:=by
 intro pins s zzs H x y v u Q I a b h;unfold CW at h;split at h
 ·exact a5P pins s zzs H _ _ v u Q I a b ⟨_,_,rfl,rfl,h⟩
 ·exact QJ pins s zzs H _ _ v u Q I a b ⟨_,_,rfl,rfl,h.1,h.2⟩
 ·obtain⟨xs,zs,h1,h2,c,d⟩:=h;exact a5Q pins s zzs H _ _ v u Q I a b ⟨_,_,xs,zs,rfl,rfl,h1,h2,c,d⟩
 ·exact h.elim
def a4l:R2:=fun x y H Q=>match x,y with
 |.int i,.int j=>a1G i j/\Q (.int (i*j)) H
 |.str z,.int n=>z.length<=1000 /\ -1000<=n/\n<=1000/\Q (.str (a6B z n)) H
 |.ref l,.int k=>∃ xs,H l=some (.lst xs) /\ -(2^63)<=k/\k<2^63/\xs.length*k.toNat<=sizeLine/\∀ p,H p=none->Q (.ref p) (upd H p (.lst (List.replicate k.toNat xs).flatten))
 |_,_=>False
theorem jG:OpR X (binaryOp .Mult) a4l:=by
 intro pins s zzs H x y v u Q I a b h;unfold a4l at h;split at h
 ·exact a5U pins s zzs H _ _ v u Q I a b ⟨_,_,rfl,rfl,h.1,h.2⟩
 ·exact QK pins s zzs H _ _ v u Q I a b ⟨_,_,rfl,rfl,h.1,h.2.1,h.2.2.1,h.2.2.2⟩
 ·obtain⟨xs,h1,h2,c,d,e⟩:=h;exact a5W pins s zzs H _ _ v u Q I a b ⟨_,_,xs,rfl,rfl,h1,h2,c,d,e⟩
 ·exact h.elim
end
theorem a3T{K:ao}{x t c:Value}{Hp':Heap->Prop}(ty:∀(M:Model) (h:Heap),Hp' h->PySem.W.Looks M h (typeOf x) t)(e:PySem.W.kitOne K t c=some true):Answers (fun s=>K.In s.heap/\Hp' s.heap) x c true:=by
 intro o tk prog w A R s i;obtain⟨a,g,d,f,r⟩:=s;obtain⟨⟨j,p⟩,b⟩:=i;have look:=ty (model prog w) a p;unfold PySem.W.kitOne at e;unfold Builtin.«isinstance.nested»;refine aR (PySem.W.Looks.at look ?_);cases q:(t==c) with
 |true=>
  rw[aK rfl];exact aR (lA (bN (b f)))
 |false=>
  rw[q,aJ gC] at e;rw[aJ gC];obtain⟨k,l,m⟩:=PySem.W.kit_cls (M:=model prog w) j e;have n:PySem.W.Looks (model prog w) a (isInstance x c) true:=PySem.W.Looks.andThen look m;refine aR (PySem.W.Looks.at k ?_);rw[aK (by decide)]
  k_delta "plainIsInstance"
  refine aR (aR (PySem.W.Looks.at l ?_));simp only[Bool.not_true,wO,lB];exact aR (PySem.W.Looks.at n (bN (bN (b f))))
def a4N:V->Option Value
 |.ty n=>some (.type n)
 |.ref a=>some (.ref a)
 |_=>none
theorem Tq{c:V}{cv u:Value}(h:a4N c=some cv)(r:RelV c u):u=cv:=by
 cases c with
 |ty n=>cases h;exact r
 |ref a=>cases h;exact r
 |_=>cases h
section
variable{X:Cx}
def a7O(K:ao):List V->Hp->VK->Prop:=fun xs H Q=>∃ x c cv,xs=[x,c]/\a4N c=some cv /\
 ((∃ t b,zX K H x t/\PySem.W.kitOne K t cv=some b/\Q (.bl b) H)\/(∃ ea C,x=.ref ea/\H ea=some (Mp ea C)/\PySem.W.kitOne K (.ref C) cv=some true/\Q (.bl true) H))
theorem Xy:fH X (.builtin "isinstance") (a7O X.K):=by
 intro pins s zzs H xs z Q I r h;obtain⟨x,c,cv,rfl,k,h⟩:=h;obtain⟨u,y,rfl,f,n⟩:=vals2 r;have e:=Tq k n;subst e;rcases h with⟨t,b,ty,d,q⟩|⟨a,C,rfl,j,d,q⟩
 ·exact W8 I f ty d fun tk=>⟨.bl b,H,I.tok tk,rfl,q⟩
 ·cases f;obtain⟨⟨m,g,i⟩,_,_⟩:=(show g8 X.prog X.w H s.heap a (Mp a C) from I.hok a _ j)
  refine call_isinstance (S:=fun _ R s'=>(X.K.In s'.heap/\(fun h:Heap=>∃ o,h.get? a=some o/\o.cls=.ref C) s'.heap)/\∀ tk,R (.ok (.ret (.bool true))) { s' with toks:=tk })
   (fun prog w A R s' l=>isinstance_outer (a3T (K:=X.K) (t:=.ref C) (Hp':=fun h=>∃ o,h.get? a=some o/\o.cls=.ref C) (fun M h p=>?_) d 0 _ prog w A R s' l) (by intro v;cases v)) ⟨⟨I.kIn,⟨m,g,i⟩⟩,fun tk=>⟨.bl true,H,I.tok tk,rfl,q⟩⟩
  obtain⟨o,h1,h2⟩:=p;exact h2▸(PySem.W.Looks.ld h1).andThen .now
end
theorem Tr{f:It}{n:Nat}{item:Nat->V}{l:TT}{o:TE}{zzs:St}{fin:List V->Hp->Prop}{H:Hp}(R:Nat->List V->Hp->Prop)(u:n<=sizeLine)
  (s:∀ i a H,i<n->R i a H->f.go i H) (z:∀ i a H v H',i<n->R i a H->f.yld i H v H'->v=item i/\H'=H) (x:∀ a H,R n a H->f.stop n H)
  (t:∀ i a H,i<=n->R i a H->a.length<=i) (h0:R 0 [] H)
  (w:∀ i a H,i<n->R i a H->∀ h:List V->Hp->Prop,(∀ d H',R (i+1) d H'->h d H')->l (some (item i)::zzs) H fun b c=>if b=true then o (some (item i)::zzs) c fun y p=>h (a++[y]) p else h a c)
  (q:∀ a H,R n a H->fin a H):∃ j:Nat->Nat->List V->Hp->Prop,(∃ m,j 0 m [] H)/\uc f l o zzs fin j:=by
 refine⟨fun i m a H=>m=n-i/\i<=n/\R i a H,⟨n,by lia,jh _,h0⟩,?_⟩;rintro i m a H ⟨rfl,hi,r⟩;refine⟨cU (t i a H hi r) (cU hi u),?_⟩;by_cases g:i<n
 ·refine .inr ⟨s i a H g r,fun v H' y=>?_⟩;obtain⟨rfl,rfl⟩:=z i a H v H' g r y;exact w i a _ g r (fun d c=>∃ k,k<n-i/\(k=n-(i+1)/\i+1<=n/\R (i+1) d c)) fun d c A=>⟨n-(i+1),by lia,rfl,g,A⟩
 ·have e:i=n:=by lia
  subst e;exact .inl ⟨x a H r,q a H r⟩
theorem Same.put{H:Hp}{p:Addr}{o:HO}(h:H p=none):Same H (upd H p o):=fun b u e=>by
 rw[bG (bL e h)];exact e
theorem Same.and{H H':Hp}{p:Addr}{o:HO}(s:Same H H')(h:H' p=none):Same H (L2.upd H' p o):=s.trans (Same.put h)
theorem small{n:Nat}(h:n<=10000):n<=sizeLine:=cU h (by rw[pK];decide)
theorem Tf{ns:List Int}{i:Int}(h0:0<=i)(b:i<ns.length):∃ v,atI (ns.map V.int) i=some (V.int v):=by
 obtain⟨k,rfl⟩:=Dh h0;have a:k<ns.length:=by lia
 exact⟨ns[k],dG (by simp[a])⟩
theorem uo{b:Type}{xs:List b}{i:Int}(h0:0<=i)(c:i<xs.length):∃ v,v∈xs/\atI xs i=some v:=by
 obtain⟨k,rfl⟩:=Dh h0;have a:k<xs.length:=by lia
 exact⟨xs[k],mL a,dG (by simp[a])⟩
theorem mU{A:Around}{k:Nat}(a:iT k A):A.units+60<cLine:=Lj (a1t (by decide:60<=64) _) a.units
theorem xq{A:Around}{k:Nat}(a:iT k A):A.units+61<cLine:=Lj (a1t (by decide:61<=64) _) a.units
def notStar:Expr->Bool
 |.Starred _ _=>false
 |_=>true
theorem mF{a:Env}{e:Expr}{b:List Expr}(h:notStar e=true):starEach (e::b) a=(false,eval e a)::starEach b a:=by
 cases e<;>first|rfl|cases h
theorem CQ{b:Env}{pos:Pos}:∀ {a:List Expr},a.all notStar=true->(backTo pos (starEach a b)).any (·.1)=false
 |[],_=>rfl
 |e::a,h=>by
  rw[Cv,mK] at h;rw[mF h.1];show(false||(backTo pos (starEach a b)).any (·.1))=false;rw[CQ h.2];rfl
section
variable{X:Cx}{k j:Nat}{ps:List Str}{sp:Sp}{E:XK}{x:Str}{p pos:Pos}{e:Expr}{es:List Expr}{te:TE}{t:TA}{id T:String}{r:List V->Hp->VK->Prop}{C f:Addr}{fd:FuncData}
theorem a3q(a:PE X e te)(b:PA X es t)(c:notStar e=true:=by rfl):PA X (e::es) (zB te t):=Uo a b (mF c)
theorem a6v(a:Df X.prog X.w X.K X.mg X.base k x ps sp)(i:iT j X.A)(g:Gl X x)(l:Passes (CXE X.prog X.w) X E)(d:PA X (e::es) t)(h:k<=j:=by decide)(b:notStar e=true:=by rfl)(c:es.all notStar=true:=by rfl)
  (f:(x==("__debug__" : Str))=false:=by decide):PE X (.Call (.Name x p) (e::es) [] pos) (V9 sp [] E t):=a5Z a i g l d h f (mF b) (CQ c)
theorem a3s(a:Df X.prog X.w X.K X.mg X.base k x ps sp)(i:iT j X.A)(g:Gl X x)(d:PA X.nox (e::es) t)(h:k<=j:=by decide)(b:notStar e=true:=by rfl)(c:es.all notStar=true:=by rfl)
  (f:(x==("__debug__" : Str))=false:=by decide):PEX X (.Call (.Name x p) (e::es) [] pos) (Kw sp [] t):=a2O a i g d h f (mF b) (CQ c)
theorem Zz(d:fH X (.builtin id) r)(g:Gl X x)(h:X.mg x=none)(j:bootBuiltins x=some (.builtin id))(c:PA X (e::es) t)(a:notStar e=true:=by rfl)(b:es.all notStar=true:=by rfl) (i:x ≠ "__name__":=by decide)
  (f:(x==("__debug__" : Str))=false:=by decide):PE X (.Call (.Name x p) (e::es) [] pos) (tCB r t):=Zh d g h j c i f (mF a) (CQ b)
theorem X5(d:fH X (.type T) r)(g:Gl X x)(h:X.mg x=none)(j:bootBuiltins x=some (.type T))(c:PA X (e::es) t)(a:notStar e=true:=by rfl)(b:es.all notStar=true:=by rfl) (i:x ≠ "__name__":=by decide)
  (f:(x==("__debug__" : Str))=false:=by decide):PE X (.Call (.Name x p) (e::es) [] pos) (tCB r t):=WR d g h j c i f (mF a) (CQ b)
end
structure Md(P:Program)(w:World)(K:ao)(mg:Str->Option Value)(base:Heap)(k:Nat)(x:Str)(ps:List Str)(C:Addr)(sp:Sp):Prop where
 ex:∃ f fd,Mk K C f/\cR P w K mg base (CXE P w) k f fd ps sp/\mg x=some (.ref C)/\Binds K fd ps []
section
variable{X:Cx}{k j:Nat}{ps:List Str}{sp:Sp}{E:XK}{x:Str}{p pos:Pos}{e:Expr}{es:List Expr}{te:TE}{t:TA}{C:Addr}
theorem a3r(a:Md X.prog X.w X.K X.mg X.base k x ps C sp)(n:iT j X.A)(i:Gl X x)(o:Passes (CXE X.prog X.w) X E)(d:PA X (e::es) t)(l:k+1<=j:=by decide)(b:notStar e=true:=by rfl)(c:es.all notStar=true:=by rfl)
  (h:(x==("__debug__" : Str))=false:=by decide):PE X (.Call (.Name x p) (e::es) [] pos) (a0v C sp [] E t):=by
 obtain⟨f,fd,M,F,m,g⟩:=a.ex;exact a2N M F (n.mono l) i m g .nil o d h (mF b) (CQ c)
end
structure RE(X:Cx)(e:Expr)(t:TE):Prop where ok:PE X e t
structure RT(X:Cx)(e:Expr)(t:TT):Prop where ok:PT X e t
structure RB(X:Cx)(e:Expr)(t:TT):Prop where ok:PW X e t
structure RA(X:Cx)(es:List Expr)(t:TA):Prop where ok:PA X es t
structure RS(X:Cx)(st:Stmt)(t:TS):Prop where ok:PS X st t
structure RSs(X:Cx)(st:List Stmt)(t:TS):Prop where ok:PSs X st t
structure RI(X:Cx)(tg iter:Expr)(t:TI):Prop where ok:PI X tg iter t
structure RG(X:Cx)(tg:Expr)(t:TG):Prop where ok:PG X tg t
structure RGs(X:Cx)(ts:List Expr)(t:TGs):Prop where ok:PGs X ts t
structure RO(X:Cx)(e:Option Expr)(t:TO):Prop where ok:PO X e t
structure RIf(X:Cx)(ifs:List Expr)(t:TT):Prop where ok:Mq X ifs t
structure REX(X:Cx)(e:Expr)(t:TEX):Prop where ok:PEX X e t
structure RSX(X:Cx)(st:List Stmt)(t:TSX):Prop where ok:PSX X st t
structure RH(X:Cx)(hs:List ExceptHandler)(th:Addr->TS):Prop where ok:PH X hs th
def Eb:Expr->Bool
 |.ListComp _ _ _ _=>false
 |.SetComp _ _ _ _=>false
 |.DictComp _ _ _ _ _=>false
 |_=>true
theorem a0p{e:Expr}{t:Option Expr}{n:Nat}{a:Env}(h:Eb e=true):swapsWith e t n a=pure false:=by
 cases e<;>first|rfl|cases h
def plainT:Expr->Bool
 |.Call _ _ _ _=>true
 |.Name _ _=>true
 |.Constant _ _ _=>true
 |.Attribute _ _ _=>true
 |.Subscript _ _ _=>true
 |_=>false
theorem a7J{e:Expr}{b:Env}(h:plainT e=true):∀ a,isTrue e b a=(do let v <- a;standAt e.pos;holding [v] (truthy v)):=by
 intro a;cases e<;>first|rfl|cases h
def Uh:Expr->Bool
 |.Name _ _=>true
 |.Constant _ _ _=>true
 |.BinOp _ _ _ _=>true
 |.UnaryOp _ _ _=>true
 |.Call _ _ _ _=>true
 |.Subscript _ _ _=>true
 |.Attribute _ _ _=>true
 |_=>false
theorem a7o{b:Expr}(h:Uh b=true):Tc b:=by
 intro o i;cases b<;>first|rfl|cases h
section
variable{X:Cx}{a b c e o:Expr}{es rest:List Expr}{ta tb tc te to:TE}{t:TA}{tA tB':TT}{pos p:Pos}{i:Nat}{x:Str}
theorem rv(i:Nat)(a:X.N[i]?=some x:=by rfl)(d:Vis X.env.scope x:=by first|exact Or.inl rfl|exact Or.inr (Or.inl rfl)|exact Or.inr (Or.inr rfl)) (c:(x==("__debug__" : Str))=false:=by decide)
  (b:(x==("__classdict__" : Str))=false:=by decide):RE X (.Name x pos) (a8b i):=⟨a6d a d c b⟩
theorem aF {i j pos}:RE X (.Constant (.int i) j pos) (tC (.int i)):=⟨a66⟩
theorem qH {b j pos}:RE X (.Constant (.bool b) j pos) (tC (.bl b)):=⟨a7B⟩
theorem a4n {j pos}:RE X (.Constant .none j pos) (tC .non):=⟨a68⟩
theorem iy {z j pos}:RE X (.Constant (.str z) j pos) (tC (.str z)):=⟨a6b⟩
theorem QT{i:Int}(h:∃ t,X.mg x=some (.int i t))(b:Gl X x) (a:(x==("__debug__" : Str))=false:=by decide):RE X (.Name x pos) (tC (.int i)):=⟨a2L h b a⟩
theorem ZL{a:Str}(h:∃ t,X.mg x=some (.str a t))(c:Gl X x) (b:(x==("__debug__" : Str))=false:=by decide):RE X (.Name x pos) (tC (.str a)):=⟨a2M h c b⟩
theorem ZK{C:Addr}(c:X.mg x=some (.ref C))(b:Gl X x) (a:(x==("__debug__" : Str))=false:=by decide):RE X (.Name x pos) (tC (.ref C)):=⟨Kg b c rfl a⟩
theorem a6y{n:String}(c:X.mg x=none)(b:Gl X x)(e:bootBuiltins x=some (.type n)) (d:x ≠ "__name__":=by decide) (a:(x==("__debug__" : Str))=false:=by decide):RE X (.Name x pos) (tC (.ty n)):=⟨a2H b c e rfl d a⟩
theorem bY{op:Operator}{r:R2}(e:OpR X (binaryOp op) r)(c:RE X a ta)(d:RE X b tb):RE X (.BinOp a op b pos) (tOp r ta tb):=⟨a7E e c.ok d.ok⟩
theorem X6{op:UnaryOp}{r:V->Hp->VK->Prop}(c:UnR X (unaryOp op) r)(b:RE X a ta):RE X (.UnaryOp op a pos) (tUn r ta):=⟨a7F c b.ok⟩
theorem wJ{op:CmpOp}{r:R2}(f:OpR X (compareOp op) r)(c:RE X a ta)(d:RE X b tb)(e:behindInMarks op b=false):RE X (.Compare a [op] [b] pos) (tOp r ta tb):=⟨a2J f c.ok d.ok e⟩
theorem bI{op:CmpOp}{r:R2}(f:OpR X (compareOp op) r)(c:RE X a ta)(d:RE X b tb)(e:behindInMarks op b=false):RT X (.Compare a [op] [b] pos) (Vb (tOp r ta tb)):=⟨a3g f c.ok d.ok e⟩
theorem Ec{op d:CmpOp}{r e:R2}(j:OpR X (compareOp op) r)(k:OpR X (compareOp d) e)(f:RE X a ta)(g:RE X b tb)(h:RE X c tc)
  (i:lastMarks [op,d] [b,c]=false:=by with_unfolding_all rfl):RE X (.Compare a [op,d] [b,c] pos) (Kz r e ta tb tc):=⟨Zi j k f.ok g.ok h.ok i⟩
theorem qJ{op d:CmpOp}{r e:R2}(j:OpR X (compareOp op) r)(k:OpR X (compareOp d) e)(f:RE X a ta)(g:RE X b tb)(h:RE X c tc)
  (i:lastMarks [op,d] [b,c]=false:=by with_unfolding_all rfl):RT X (.Compare a [op,d] [b,c] pos) (Vb (Kz r e ta tb tc)):=⟨Zy j k f.ok g.ok h.ok i⟩
theorem jJ(h:RE X e te)(a:plainT e=true:=by rfl):RT X e (L2.tB te):=⟨a6q h.ok (a7J a)⟩
theorem Kh(b:RT X a tA):RB X (.BoolOp .And [a] pos) tA:=⟨pw_and1 b.ok⟩
theorem Kl(b:RT X a tA):RB X (.BoolOp .Or [a] pos) tA:=⟨pw_or1 b.ok⟩
theorem QV(c:RT X a tA)(d:RB X (.BoolOp .And (b::rest) pos) tB'):RB X (.BoolOp .And (a::b::rest) pos) (a84 tA tB'):=⟨pw_and c.ok d.ok⟩
theorem Jh(c:RT X a tA)(d:RB X (.BoolOp .Or (b::rest) pos) tB'):RB X (.BoolOp .Or (a::b::rest) pos) (tOr tA tB'):=⟨pw_or c.ok d.ok⟩
theorem R0(h:RB X e tA):RT X e tA:=⟨h.ok.pt⟩
theorem mX(b:RT X a tA):RT X (.UnaryOp .Not a pos) (a87 tA):=⟨a6p b.ok⟩
theorem Jg {op} {t:TE} (h:RE X a t):RE X (.BoolOp op [a] pos) t:=⟨a6a h.ok⟩
theorem Jf(c:RE X a ta)(d:RE X (.BoolOp .And (b::rest) pos) tb):RE X (.BoolOp .And (a::b::rest) pos) (a4y ta tb):=⟨a5X c.ok d.ok⟩
theorem a4o(b:RE X a ta):RE X (.UnaryOp .Not a pos) (a4D ta):=⟨a69 b.ok⟩
theorem ak:RA X [] jL:=⟨Zf⟩
theorem aj(a:RE X e te)(b:RA X es t)(c:notStar e=true:=by rfl):RA X (e::es) (zB te t):=⟨Uo a.ok b.ok (mF c)⟩
theorem fX {x1} (h:RA X es t):RE X (.Tuple es x1 pos) (a6P t):=⟨a6c h.ok⟩
theorem bZ(h:RA X es t):RE X (.List es pos) (a6N t):=⟨a67 h.ok⟩
theorem cB{r:R2}(e:IxR X r)(c:RE X a ta)(d:RE X b tb)(f:Uh b=true:=by rfl):RE X (.Subscript a b pos) (tOp r ta tb):=⟨a7D e c.ok d.ok (a7o f)⟩
theorem zf:RO X none Va:=⟨a2X⟩
theorem zj(h:RE X e te):RO X (some e) (a4E te):=⟨a2Y h.ok⟩
theorem z7{lo a:Option Expr}{c b:TO}{p2:Pos}{r:V->Option Int->Option Int->Hp->VK->Prop}(g:SlR X r)(d:RE X e te)(f:RO X lo c)(h:RO X a b):RE X (.Subscript e (.Slice lo a none p2) pos) (tSl r te c b):=⟨Zm g d.ok f.ok h.ok⟩
theorem a7Y{f:Str}(b:RE X e ta)(a:attributeBase e f X.env (eval e X.env)=eval e X.env:=by rfl):RE X (.Attribute e f pos) (a6L X.K ta f):=⟨a65 b.ok a⟩
variable{k j:Nat}{ps:List Str}{sp:Sp}{E:XK}{id T:String}{r:List V->Hp->VK->Prop}{C:Addr}
theorem aV(a:Df X.prog X.w X.K X.mg X.base k x ps sp)(i:iT j X.A)(g:Gl X x)(l:Passes (CXE X.prog X.w) X E)(d:RA X (e::es) t)(h:k<=j:=by decide)(b:notStar e=true:=by rfl)(c:es.all notStar=true:=by rfl)
  (f:(x==("__debug__" : Str))=false:=by decide):RE X (.Call (.Name x p) (e::es) [] pos) (V9 sp [] E t):=⟨a6v a i g l d.ok h b c f⟩
theorem a6G(a:Df X.prog X.w X.K X.mg X.base k x ps sp)(i:iT j X.A)(g:Gl X x)(d:RA X.nox (e::es) t)(h:k<=j:=by decide)(b:notStar e=true:=by rfl)(c:es.all notStar=true:=by rfl)
  (f:(x==("__debug__" : Str))=false:=by decide):REX X (.Call (.Name x p) (e::es) [] pos) (Kw sp [] t):=⟨a3s a i g d.ok h b c f⟩
theorem a6w(a:Md X.prog X.w X.K X.mg X.base k x ps C sp)(i:iT j X.A)(g:Gl X x)(l:Passes (CXE X.prog X.w) X E)(d:RA X (e::es) t)(h:k+1<=j:=by decide)(b:notStar e=true:=by rfl)(c:es.all notStar=true:=by rfl)
  (f:(x==("__debug__" : Str))=false:=by decide):RE X (.Call (.Name x p) (e::es) [] pos) (a0v C sp [] E t):=⟨a3r a i g l d.ok h b c f⟩
theorem aN(d:fH X (.builtin id) r)(g:Gl X x)(h:X.mg x=none)(j:bootBuiltins x=some (.builtin id))(c:RA X (e::es) t)(a:notStar e=true:=by rfl)(b:es.all notStar=true:=by rfl) (i:x ≠ "__name__":=by decide)
  (f:(x==("__debug__" : Str))=false:=by decide):RE X (.Call (.Name x p) (e::es) [] pos) (tCB r t):=⟨Zz d g h j c.ok a b i f⟩
theorem kE(d:fH X (.type T) r)(g:Gl X x)(h:X.mg x=none)(j:bootBuiltins x=some (.type T))(c:RA X (e::es) t)(a:notStar e=true:=by rfl)(b:es.all notStar=true:=by rfl) (i:x ≠ "__name__":=by decide)
  (f:(x==("__debug__" : Str))=false:=by decide):RE X (.Call (.Name x p) (e::es) [] pos) (tCB r t):=⟨X5 d g h j c.ok a b i f⟩
theorem Yk{c:Env}{b:Pos}:∀ {a:List Expr},a.all notStar=true->(backTo b (starEach a c)).all (fun x=>!x.1)=true
 |[],_=>rfl
 |e::a,h=>by
  rw[Cv,mK] at h;rw[mF h.1];show((!false)&&(backTo b (starEach a c)).all (fun x=>!x.1))=true;rw[Yk h.2];rfl
variable{name:Str}{apos cpos:Pos}{rm:V->List V->Hp->VK->Prop}
theorem a8Y(k:PlainAttrs T)(l:Slot T name id) (j:typeOf (.builtin id)=pure (.type "method_descriptor")) (h:MtR X id rm) (i:RE X o to) (c:RA X (e::es) t) (b:(e::es).all notStar=true:=by rfl)
  (d:attributeBase o name X.env (eval o X.env)=eval o X.env:=by rfl) (f:decide ((e::es).length<30)=true:=by rfl) (g:(apos.endLine==cpos.line)=true:=by rfl):RE X (.Call (.Attribute o name apos) (e::es) [] cpos) (tBM X.K T rm to t):=by
 have a:=b;rw[Cv,mK] at a;refine⟨a7C k l j h i.ok c.ok d ?_ g (mF a.1) (CQ a.2)⟩;rw[Yk b];have:decide ((e::es).length+([]:List Keyword).length+(if([]:List Keyword).isEmpty then 0 else 1)<30)=true:=by simpa using f
 rw[this];rfl
theorem a7X(f:PlainAttrs T)(g:Slot T name id) (e:typeOf (.builtin id)=pure (.type "method_descriptor")) (c:MtR X id rm) (d:RE X o to)
  (a:attributeBase o name X.env (eval o X.env)=eval o X.env:=by rfl) (b:(apos.endLine==cpos.line)=true:=by rfl):RE X (.Call (.Attribute o name apos) [] [] cpos) (a6K X.K T rm to):=⟨a5Y f g e c d.ok a b⟩
end
section
variable{X:Cx}{tg l:Expr}{te:TE}{ta:TA}{p pos:Pos}
theorem a3y(a:RE X l te):RI X tg l (U7 X.K te):=⟨a2T a.ok⟩
theorem a6D(a:RE X l te):RI X tg l (a7n te):=⟨a6h a.ok⟩
theorem dB{a:Expr} (c:Gl X "range") (d:X.mg "range" = none) (b:RA X [a] ta) (e:notStar a=true:=by rfl):RI X tg (.Call (.Name "range" p) [a] [] pos) (a4c ta):=⟨WW c d b.ok (mF e)⟩
theorem Ji{a b:Expr} (e:Gl X "range") (f:X.mg "range" = none) (d:RA X [a,b] ta) (g:notStar a=true:=by rfl) (c:notStar b=true:=by rfl):RI X tg (.Call (.Name "range" p) [a,b] [] pos) (a4d ta):=
 ⟨WX e f d.ok (by rw[mF g,mF c];rfl) (mF c)⟩
theorem kJ:RIf X [] Xf:=⟨a2U⟩
theorem eO{c:Expr}{t:TT}(h:RT X c t):RIf X [c] t:=⟨a2V h.ok⟩
theorem fU{x:Str}{c:Pos}{scope:Scope}{a iter:Expr}{b:List Expr}{e:TI}{d:TT}(ok:Af scope X.env.scope X.N x=true)(f:X.calm=true)(h:RI X (.Name x c) iter e)
  (i:∀ s H ex,RIf (jV X x scope s H ex) b d) (g:∀ s H ex,RE (jV X x scope s H ex) a te) (j:∀ v,foldedSetIterable iter X.env v=pure v:=by intro _;rfl) :
  RE X (.ListComp a [⟨.Name x c,iter,b,0⟩] scope pos) (a4A e d te):=⟨a2K ok f h.ok (fun s H ex=>(i s H ex).ok) (fun s H ex=>(g s H ex).ok) j⟩
end
section
variable{X:Cx}{st:Stmt}{rest body:List Stmt}{t u tb:TS}{e tg iter:Expr}{te:TE}{pos:Pos}{i:Nat}{x:Str}
theorem bV:RSs X [] a4C:=⟨a3d⟩
theorem au(a:RS X st t)(b:RSs X rest u):RSs X (st::rest) (a6O t u):=⟨Zx a.ok b.ok⟩
theorem aB(a:RS X st t):RSs X [st] t:=⟨a3e a.ok⟩
theorem gM(a:RE X e te)(b:Eb e=true:=by rfl):RS X (.Expr e pos) (a4B te):=⟨a3c a.ok (a0p b)⟩
theorem bA(a:RE X e te):RS X (.Return (some e) pos) (a89 te):=⟨a6n a.ok⟩
theorem dR{c:Expr}{a b:List Stmt}{d:TT}(g:RT X c d)(e:RSs X a t)(f:RSs X b u):RS X (.If c a b pos) (a85 d t u):=⟨a7K g.ok e.ok f.ok⟩
theorem aQ(a:X.N.Nodup)(c:X.N[i]?=some x)(d:Loc X.env.scope x)(b:X.fn x=true\/X.env.scope.names.lookup x=some .local:=by first|exact .inl rfl|exact .inr rfl|assumption):RG X (.Name x pos) (Fv i):=⟨a2P a c d b⟩
theorem jq:RGs X [] a5h:=⟨a2Q⟩
def Ui:Expr->Bool
 |.Name _ _=>true
 |.Subscript _ _ _=>true
 |_=>false
theorem a74{b:List Expr}{a:Env}(h:Ui e=true):(assignEach (e::b) a).map (·.2)=assign e a::(assignEach b a).map (·.2):=by
 cases e<;>first|rfl|cases h
theorem cC{a:List Expr}{t:TG}{u:TGs}(b:RG X e t)(c:RGs X a u)(d:Ui e=true:=by rfl):RGs X (e::a) (U3 t u):=⟨Zo b.ok c.ok (a74 d)⟩
theorem lW{a:List Expr}{k:Nat}{t:TGs}{n:Nat}(b:X.calm=true)(h:RGs X a t)(c:(assignEach a X.env).length=n:=by rfl)(d:(assignEach a X.env).findIdx? (·.1)=none:=by rfl):RG X (.Tuple a k pos) (a5i X.K n t):=⟨a6f b h.ok c d⟩
theorem Ba{o i:Expr}{to c:TE}{t:Vi}(f:RE X o to)(e:RE X i c)(g:Xo X t) (d:∀ v,assign (.Subscript o i pos) X.env v=(do
   let a <- holding [v] (eval o X.env)
   let b <- holding [v,a] (eval i X.env)
   standAt pos
   holding [v,a,b] (setItem a b v)
   release [v,a,b] []):=by intro _;rfl):RG X (.Subscript o i pos) (a7j to c t):=⟨a6e f.ok e.ok g d⟩
theorem kO{g:TG}(b:RE X e te)(c:RG X tg g)(d:swapsWithSole [tg] e pos.line X.env=pure false:=by rfl)(hw:swappedStores [tg] e X.env=pure none:=by rfl)(a:(assignEach [tg] X.env).map (·.2)=[assign tg X.env]:=by rfl):RS X (.Assign [tg] e pos) (a0r te g):=⟨a6j b.ok c.ok d hw a⟩
theorem aO{h:Pos}(a:X.N.Nodup)(d:X.N[i]?=some x)(g:Loc X.env.scope x)(b:RE X e te)(f:Eb e=true:=by rfl)(c:X.fn x=true\/X.env.scope.names.lookup x=some .local:=by first|exact .inl rfl|exact .inr rfl|assumption) :
  RS X (.Assign [.Name x h] e pos) (a0r te (Fv i)):=⟨Zu a d g b.ok (a0p f) c⟩
theorem Kp{j:Nat}{y:Str}{a b:Expr}{e:TA}{c d pt:Pos} {kt k2 pt2} (h:X.calm=true) (f:X.N.Nodup) (k:X.N[i]?=some x) (m:X.N[j]?=some y) (l:i≠j)
  (n:X.env.scope.names.lookup x=some .local) (o:X.env.scope.names.lookup y=some .local) (g:RA X [a,b] e) (hw:swappedStores [.Tuple [.Name x c,.Name y d] kt pt] (.Tuple [a,b] k2 pt2) X.env=pure (some [x,y])) :
  RS X (.Assign [.Tuple [.Name x c,.Name y d] kt pt] (.Tuple [a,b] k2 pt2) pos) (a88 i j e):=⟨a6m h f k m l n o g.ok hw⟩
theorem c7{a:TI}{g:TG}(f:PassesOwn (model X.prog X.w) X.A X.env X.xe)(c:X.calm=true)(e:RI X tg iter a)(d:RG X tg g)(b:RSs X body tb)(h:∀ x,foldedSetIterable iter X.env x=pure x:=by intro _;rfl) :
  RS X (.For tg iter body [] pos) (a6M a g tb):=⟨a6l f c e.ok d.ok b.ok h⟩
theorem zm{c:Expr}{a:TT}(e:PassesOwn (model X.prog X.w) X.A X.env X.xe)(d:RT X c a)(b:RSs X body tb):RS X (.While c body [] pos) (a0y a tb):=⟨Zv e d.ok b.ok⟩
theorem QZ{o a:Expr}{f:Str}{b c:TE}{h:Pos}(d:RE X o b)(g:RE X a c)(e:Eb a=true:=by rfl):RS X (.Assign [.Attribute o f h] a pos) (a7Z X.K b c f):=⟨a6k d.ok g.ok (a0p e)⟩
theorem pD{y:Str}{d c e:Pos}{scope:Scope}{a:Expr}{b:List Expr}{g:TI}{f:TT}(h:X.N.Nodup)(n:X.N[i]?=some y)(q:X.env.scope.names.lookup y=some .local)
  (ok:Af scope X.env.scope X.N x=true) (j:X.calm=true) (l:RI X (.Name x c) iter g) (m:∀ s H ex,RIf (jV X x scope s H ex) b f) (k:∀ s H ex,RE (jV X x scope s H ex) a te)
  (p:swapsWith (.ListComp a [⟨.Name x c,iter,b,0⟩] scope pos) (some (.Name y d)) e.line X.env=pure true:=by rfl) (o:∀ v,foldedSetIterable iter X.env v=pure v:=by intro _;rfl) :
  RS X (.Assign [.Name y d] (.ListComp a [⟨.Name x c,iter,b,0⟩] scope pos) e) (a0s i g f te):=⟨a3b h n q ok j l.ok (fun s H ex=>(m s H ex).ok) (fun s H ex=>(k s H ex).ok) p o⟩
theorem RS.nox(h:RS X.nox st t):RS X st t:=⟨PS.nox h.ok⟩
theorem RT.nox{a:TT}(h:RT X.nox e a):RT X e a:=⟨PT.nox h.ok⟩
theorem a3B{a:TEX}(b:REX X e a):RSX X [.Return (some e) pos] (a4F a):=⟨a3f b.ok⟩
theorem a6C:RH X [] (fun _ _ _ _=>False):=⟨a6g⟩
theorem Ko{n:Str}{u r:Pos}{c:Stmt}{e:List Stmt}{d:List ExceptHandler}{a:Addr}{g:TS}{f:Addr->TS}(l:X.ex=[])(j:X.N.Nodup)(o:X.N[i]?=some n)(q:X.env.scope.names.lookup n=some .local)
  (m:Gl X x) (p:X.mg x=some (.ref a)) (h:jU X.K a) (t:∀ b,RSs (wZ X b) (c::e) g) (s:RH X d f) (k:(x==("__debug__" : Str))=false:=by decide) :
  RH X (.ExceptHandler (some (.Name x u)) (some n) (c::e) r::d) (a0z X.K a i g f):=⟨a2R l j o q m p h (fun b=>(t b).ok) s.ok k⟩
theorem a6E{h₀:ExceptHandler}{a:List ExceptHandler}{b:TSX}{c:Addr->TS}(g:X.stack=X.env::X.outer)(e:X.env.frame=some X.env.locals)(d:RSX X body b)(f:RH X (h₀::a) c) :
  RS X (.Try body (h₀::a) [] [] pos) (a8a b c):=⟨a6o g e d.ok f.ok⟩
end
section
variable{P:Program}{w:World}{K:ao}{mg:Str->Option Value}{base:Heap}{N:List Str}{qual:Str}{scope:Scope}{f:Addr}{cd:Value}{A:Around}{outer:List Env}{s0:Shared}{H0:Hp}{E:XK}
theorem qI{x:Str}{m d pos:Pos}{a:Expr}{b:List Expr}{t:TA}{C:Addr}(c:jU K C)(j:Gl (tY (CXE P w) P w K mg base N qual scope f cd A outer s0 H0 E) x)(l:mg x=some (.ref C))(k:A.handled=none)
  (h:RA (tY (CXE P w) P w K mg base N qual scope f cd A outer s0 H0 E) (a::b) t) (e:notStar a=true:=by rfl) (g:b.all notStar=true:=by rfl) (i:(x==("__debug__" : Str))=false:=by decide) :
  RS (tY (CXE P w) P w K mg base N qual scope f cd A outer s0 H0 E) (.Raise (some (.Call (.Name x m) (a::b) [] d)) none pos) (a0x t C E):=⟨Zt c j l k h.ok i (mF e) (CQ g)⟩
theorem Fun.ZV{x d:Str}{st:Stmt}{f:Addr}{e:FuncData}{N c:List Str}{k:Nat}{sp:Sp}(F:Fun K x d st f e)(S:aZ N c (aH st))(len:∀ vs H Q E,sp vs H Q E->vs.length=c.length)
  (g:∀(a:Value)(A:Around)(b:List Env)(s:Shared)(H:Hp)(vs:List V)(Q:VK)(E:XK),iT k (A.deeper (envOfC d (aH st) s.heap.objs.size f a))->sp vs H Q E ->
   ∃ t,RSs (tY (CXE P w) P w K mg base N d (aH st) f a A b s H E) (gZ st) t/\t { nx:=fun _ H'=>Q .non H',rt:=Q } (start N vs) H):cR P w K mg base (CXE P w) (k+1) f e c sp:=
 F.okE S len fun a A b s H vs Q E i j=>let ⟨t,h,q⟩:=g a A b s H vs Q E i j;⟨t,h.ok,q⟩
theorem Fun.rok{x d:Str}{st:Stmt}{f:Addr}{e:FuncData}{N c:List Str}{k:Nat}{sp:Sp}(F:Fun K x d st f e)(S:aZ N c (aH st))(len:∀ vs H Q E,sp vs H Q E->vs.length=c.length)
  (g:∀(a:Value)(A:Around)(b:List Env)(s:Shared)(H:Hp)(vs:List V)(Q:VK)(E:XK),iT k (A.deeper (envOfC d (aH st) s.heap.objs.size f a))->sp vs H Q E ->
   ∃ t,RSs (tY (CXE P w) P w K mg base N d (aH st) f a A b s H E).nox (gZ st) t/\t { nx:=fun _ H'=>Q .non H',rt:=Q } (start N vs) H):cR P w K mg base (CXE P w) (k+1) f e c sp:=
 F.ok0 S len fun a A b s H vs Q E i j=>let ⟨t,h,q⟩:=g a A b s H vs Q E i j;⟨t,h.ok,q⟩
end
mutual
theorem Den.mono{K:ao}{H H':Hp}(s:Same H H'):∀ {v:V} {d:Dt},Den K H v d->Den K H' v d
 |_,_,.non=>.non
 |_,_,.bl b=>.bl b
 |_,_,.int i=>.int i
 |_,_,.str x=>.str x
 |_,_,.tup h a=>.tup (s _ _ h) (bf.mono s a)
 |_,_,.lst h a=>.lst (s.seq h) (bf.mono s a)
theorem bf.mono{K:ao}{H H':Hp}(s:Same H H'):∀ {vs:List V} {a:List Dt},bf K H vs a->bf K H' vs a
 |_,_,.nil=>.nil
 |_,_,.cons h t=>.cons (Den.mono s h) (bf.mono s t)
end
theorem bf.ints{K:ao}{H:Hp}:∀ ns:List Int,bf K H (ns.map V.int) (ns.map Dt.int)
 |[]=>.nil
 |n::ns=>.cons (.int n) (bf.ints ns)
theorem bf.strs{K:ao}{H:Hp}:∀ zs:List Str,bf K H (zs.map V.str) (zs.map Dt.str)
 |[]=>.nil
 |z::zs=>.cons (.str z) (bf.strs zs)
theorem bf.Kf{K:ao}{H:Hp}:∀ {ns:List Int} {vs:List V},bf K H vs (ns.map Dt.int)->vs=ns.map V.int
 |[],_,.nil=>rfl
 |n::ns,_,.cons h t=>by cases h;rw[bf.Kf t];rfl
theorem bf.Qz{K:ao}{H:Hp}:∀ {bs:List Bool} {vs:List V},bf K H vs (bs.map Dt.bl)->vs=bs.map V.bl
 |[],_,.nil=>rfl
 |n::ns,_,.cons h t=>by cases h;rw[bf.Qz t];rfl
structure ug(J:It)(H:Hp)(vs:List V):Prop where
 go:∀ H' i,Same H H'->i<vs.length->J.go i H'
 yld:∀ H' i v H'',Same H H'->i<vs.length->J.yld i H' v H''->vs[i]?=some v/\H''=H'
 stop:∀ H',Same H H'->J.stop vs.length H'
theorem bJ{K:ao}{H:Hp}{a:Addr}{vs:List V}(h:SqL K H a vs):ug (Itl K a) H vs:=
 ⟨fun H' i s hi=>⟨vs,vs[i],s.seq h,by simp[hi]⟩,fun H' i v b s hi y=>⟨y.2 vs (s.seq h),y.1⟩,fun H' s=>⟨vs,s.seq h,bK _⟩⟩
theorem FT{H:Hp}(lo:Int)(n:Nat):ug (Itr lo n) H (((List.range n).map fun i:Nat=>lo+(i:Int)).map V.int):=by
 have a:(((List.range n).map fun i:Nat=>lo+(i:Int)).map V.int).length=n:=by simp
 refine⟨fun H' i _ hi=>?_,fun H' i v b _ hi y=>⟨?_,y.1⟩,fun H' _=>?_⟩
 ·rw[a] at hi;exact hi
 ·rw[a] at hi;rw[y.2];simp[hi]
 ·rw[a];exact bK _
theorem Ze{H:Hp}(a:Str):ug (Its a) H ((a.cps.toList.map fun c=>(⟨#[c]⟩:Str)).map V.str):=by
 have b:((a.cps.toList.map fun c=>(⟨#[c]⟩:Str)).map V.str).length=a.cps.size:=by simp
 refine⟨fun H' i _ hi=>?_,fun H' i v f _ hi y=>?_,fun H' _=>?_⟩
 ·rw[b] at hi;exact hi
 ·rw[b] at hi;obtain⟨e,c,d,y⟩:=y;have:a.cps.toList[i]?=some c:=by simpa using d
  exact⟨by rw[y];simp[this],e⟩
 ·rw[b];exact bK _
theorem dD{j:Type}{K:ao}{q:It}{H:Hp}{vs:List V}{xs:List j}{enc:j->Dt}{B:TT}{C:TE}{zzs:St}{fin:List V->Hp->Prop}(k:ug q H vs)(z:bf K H vs (xs.map enc))(L:xs.length<=sizeLine)(p:j->Bool)(f:j->Dt)
  (M:∀ a∈xs,∀ v H',Same H H'->Den K H' v (enc a)->∀ g:Bool->Hp->Prop,(∀ c,Same H' c->g (p a) c)->B (some v::zzs) H' g)
  (J:∀ a∈xs,p a=true->∀ v H',Same H H'->Den K H' v (enc a)->∀ g:VK,(∀ y c,Same H' c->Den K c y (f a)->g y c)->C (some v::zzs) H' g)
  (I:∀ b H',Same H H'->bf K H' b ((xs.filter p).map f)->fin b H'):∃ s:Nat->Nat->List V->Hp->Prop,(∃ m,s 0 m [] H)/\uc q B C zzs fin s:=by
 have x:vs.length=xs.length:=by rw[z.length,aL]
 refine Tr (n:=vs.length) (item:=fun i=>vs.getD i .non) (fun i b H'=>Same H H'/\bf K H' b (((xs.take i).filter p).map f)) (by rw[x];exact L) (fun i b H' hi r=>k.go H' i r.1 hi) (fun i b H' v c hi r y=>?_) (fun b H' r=>k.stop H' r.1)
  (fun i b H' hi r=>?_) ⟨Same.refl _,.nil⟩ (fun i b H' hi r g w=>?_) (fun b H' r=>?_)
 ·obtain⟨e,E⟩:=k.yld H' i v c r.1 hi y;exact⟨by rw[fM,e];rfl,E⟩
 ·rw[r.2.length,aL];exact cU (gW _ _) (by rw[jd];exact Nat.min_le_left _ _)
 ·obtain⟨s1,o⟩:=r;have h:i<xs.length:=by lia
  have G:vs[i]?=some (vs.getD i .non):=by simp[fM,hi]
  obtain⟨d,u,t⟩:=z.get G;have F:d=enc xs[i]:=by
   rw[cP,fY h] at u;exact(iD u).symm
  subst F;have tk:xs.take (i+1)=xs.take i++[xs[i]]:=by rw[iB,fY h];rfl
  refine M xs[i] (mL h) _ H' s1 (t.mono s1) _ fun H2 s2=>?_
  cases l:p xs[i] with
  |false=>
   refine uG (w _ _ ⟨s1.trans s2,?_⟩);rw[tk,qP,show List.filter p [xs[i]]=[] by simp[l],qT];exact o.mono s2
  |true=>
   refine Fx (J xs[i] (mL h) l _ H2 (s1.trans s2) (t.mono (s1.trans s2)) _ fun y N A D=>w _ _ ⟨(s1.trans s2).trans A,?_⟩);rw[tk,qP,show List.filter p [xs[i]]=[xs[i]] by simp[l],d9];exact(o.mono (s2.trans A)).append (.cons D .nil)
 ·rw[x,gP] at r;exact I b H' r.1 r.2
theorem comp_map{e:Type}{K:ao}{h:It}{H:Hp}{vs:List V}{xs:List e}{enc:e->Dt}{j:TE}{zzs:St}{fin:List V->Hp->Prop}(l:ug h H vs)(r:bf K H vs (xs.map enc))(q:xs.length<=sizeLine)(f:e->Dt)
  (p:∀ a∈xs,∀ v H',Same H H'->Den K H' v (enc a)->∀ c:VK,(∀ y d,Same H' d->Den K d y (f a)->c y d)->j (some v::zzs) H' c)
  (o:∀ b H',Same H H'->bf K H' b (xs.map f)->fin b H'):∃ i:Nat->Nat->List V->Hp->Prop,(∃ m,i 0 m [] H)/\uc h Xf j zzs fin i:=
 dD l r q (fun _=>true) f (fun a _ v H' _ _ c k=>k H' (Same.refl _)) (fun a n _=>p a n) fun b H' s g=>o b H' s (by rw[BL.mpr (fun _ _=>rfl)] at g;exact g)
section
variable{X:Cx}{K:ao}
theorem jY(b:X.A.units+60<cLine)(a:X.K=K:=by rfl):OpR X (compareOp .Eq) (ZD K false):=by subst a;exact a5R b
theorem yL(b:X.A.units+60<cLine)(a:X.K=K:=by rfl):OpR X (compareOp .NotEq) (ZD K true):=by subst a;exact a5V b
theorem tQ(b:X.A.units+61<cLine)(a:X.K=K:=by rfl):OpR X (compareOp .In) (QS K false):=by subst a;exact a5T b
theorem jZ(b:X.A.units+61<cLine)(a:X.K=K:=by rfl):OpR X (compareOp .NotIn) (QS K true):=by subst a;exact WM b
theorem cL(a:X.K=K:=by rfl):IxR X (rIx K):=by subst a;exact a5p
def a4k(K:ao):List V->Hp->VK->Prop:=fun xs H Q=>(∃ p ys,xs=[.ref p]/\(SqL K H p ys\/SqT K H p ys)/\Q (.int ys.length) H)\/(∃ z,xs=[.str z]/\z.length<=sizeLine/\Q (.int z.length) H)
theorem cQ(a:X.K=K:=by rfl):fH X (.builtin "len") (a4k K):=by subst a;exact JF.or JG
def a8X(K:ao):V->Option Int->Option Int->Hp->VK->Prop:=fun x lo hi H Q=>a7V K x lo hi H Q\/a7W x lo hi H Q
theorem Yy(a:X.K=K:=by rfl):SlR X (a8X K):=by subst a;exact a3K.or a6J
def a3t(K:ao):List V->Hp->VK->Prop:=fun xs H Q=>∃ p ys,xs=[.ref p]/\(SqL K H p ys\/SqT K H p ys)/\∀ l,H l=none->Q (.ref l) (upd H l (.lst ys))
theorem Yu(a:X.K=K:=by rfl):fH X (.type "list") (a3t K):=by subst a;exact JH
def a7L(K:ao):List V->Hp->VK->Prop:=fun xs H Q=>∃(p:Addr)(bs:List Bool),xs=[.ref p]/\SqL K H p (bs.map V.bl)/\Q (.bl (bs.all id)) H
theorem k_all(b:X.calm=true)(a:X.K=K:=by rfl):fH X (.builtin "all") (a7L K):=by subst a;exact Xx b
end
section
variable{X:Cx}{K:ao}{tg l e o:Expr}{es:List Expr}{te ta to:TE}{t:TA}{pos apos cpos:Pos}{f name:Str}{T id:String}{rm:V->List V->Hp->VK->Prop}
theorem aU(b:RE X l te)(a:X.K=K:=by rfl):RI X tg l (U7 K te):=by subst a;exact a3y b
theorem rN(c:RE X e ta)(a:X.K=K:=by rfl)(b:attributeBase e f X.env (eval e X.env)=eval e X.env:=by rfl):RE X (.Attribute e f pos) (a6L K ta f):=by subst a;exact a7Y c b
theorem lH(k:PlainAttrs T)(l:Slot T name id) (j:typeOf (.builtin id)=pure (.type "method_descriptor")) (h:MtR X id rm) (i:RE X o to) (c:RA X (e::es) t) (b:X.K=K:=by rfl) (a:(e::es).all notStar=true:=by rfl)
  (d:attributeBase o name X.env (eval o X.env)=eval o X.env:=by rfl) (f:decide ((e::es).length<30)=true:=by rfl) (g:(apos.endLine==cpos.line)=true:=by rfl):RE X (.Call (.Attribute o name apos) (e::es) [] cpos) (tBM K T rm to t):=by
 subst b;exact a8Y k l j h i c a d f g
theorem a5x(g:PlainAttrs T)(h:Slot T name id) (f:typeOf (.builtin id)=pure (.type "method_descriptor")) (d:MtR X id rm) (e:RE X o to) (a:X.K=K:=by rfl)
  (b:attributeBase o name X.env (eval o X.env)=eval o X.env:=by rfl) (c:(apos.endLine==cpos.line)=true:=by rfl):RE X (.Call (.Attribute o name apos) [] [] cpos) (a6K K T rm to):=by
 subst a;exact a7X g h f d e b c
end
theorem bM:bootBuiltins "len" = some (.builtin "len"):=by decide +kernel
theorem Xv:bootBuiltins "all" = some (.builtin "all"):=by decide +kernel
theorem iZ:bootBuiltins "isinstance" = some (.builtin "isinstance"):=by decide +kernel
theorem vI:bootBuiltins "sorted" = some (.builtin "sorted"):=by decide +kernel
theorem JD:bootBuiltins "min" = some (.builtin "min"):=by decide +kernel
theorem Q5:bootBuiltins "max" = some (.builtin "max"):=by decide +kernel
theorem Aa:bootBuiltins "int" = some (.type "int"):=by decide +kernel
theorem a4L:bootBuiltins "str" = some (.type "str"):=by decide +kernel
theorem Tn:bootBuiltins "list" = some (.type "list"):=by decide +kernel
theorem Xw:bootBuiltins "tuple" = some (.type "tuple"):=by decide +kernel
theorem a1O:bootBuiltins "bool" = some (.type "bool"):=by decide +kernel
theorem a4K:bootBuiltins "set" = some (.type "set"):=by decide +kernel
theorem JC:bootBuiltins "enumerate" = some (.type "enumerate"):=by decide +kernel
theorem aD{t u:TS}{b:Ends}{zzs:L2.St}{H:Hp}(c:L2.St->Hp->Prop)(h:∀ R:L2.St->Hp->Prop,(∀ a H',c a H'->R a H')->t { b with nx:=R } zzs H)(k:∀ a H',c a H'->u b a H'):a6O t u b zzs H:=h (u b) k
theorem sz{n:Nat}(h:Nat.ble n 10000=true):n<=sizeLine:=small (GF h)
theorem wG{i j:Int}:decide (V.int i=V.int j)=decide (i=j):=by simp
theorem fV{a:Type}{x:a}{xs:List a}:atI (x::xs) 0=some x:=dG (j:=0) rfl
theorem U5{A:Around}{k:Nat}{a:Env}(b:iT k (A.deeper a)):A.handled=none:=b.hd
theorem dW{b:Bool}{A a:Prop}(c:b=true->A)(d:b=false->a):if b=true then A else a:=by
 cases b with
 |true=>exact Fx (c rfl)
 |false=>exact uG (d rfl)
theorem yC{l n m:Int}{d:TE}{zzs:L2.St}{H:Hp}{a:Bool->Hp->Prop}(o:∀ b:VK,b (.int m) H->d zzs H b)(c:a (decide (l<=n/\n<m)) H) :
  if decide (l<=n)=true then d zzs H (fun w' f=>rI0 (fun i j=>.bl (decide (i<j))) (.int n) w' f fun x H'=>∃ k,x=.bl k/\a k H') else ∃ k,V.bl false=.bl k/\a k H:=by
 refine HW (fun h1=>o _ ⟨_,_,rfl,rfl,_,rfl,?_⟩) (fun h1=>⟨_,rfl,?_⟩)
 ·have g:=cT h1;have e:decide (l<=n/\n<m)=decide (n<m):=by simp[g]
  rw[<- e];exact c
 ·have e:decide (l<=n/\n<m)=false:=cD fun h=>h1 (bQ h.1)
  rw[<- e];exact c
theorem Im{l n m:Int}{d:TE}{zzs:L2.St}{H:Hp}{a:VK}(k:∀ b:VK,b (.int m) H->d zzs H b)(c:a (.bl (decide (l<=n/\n<m))) H) :
  if decide (l<=n)=true then d zzs H (fun w' f=>rI0 (fun i j=>.bl (decide (i<j))) (.int n) w' f a) else a (.bl false) H:=by
 refine HW (fun h1=>k _ ⟨_,_,rfl,rfl,?_⟩) (fun h1=>?_)
 ·have g:=cT h1;have e:decide (l<=n/\n<m)=decide (n<m):=by simp[g]
  show a (.bl (decide (n<m))) H;rw[<- e];exact c
 ·have e:decide (l<=n/\n<m)=false:=cD fun h=>h1 (bQ h.1)
  rw[<- e];exact c
abbrev Cell:=Int×Int
def aC(x:Cell):Dt:=.tup [.int x.1,.int x.2]
theorem Fl(a b:Cell):eqD (aC a) (aC b)=decide (a=b):=by
 have c:eqD (.int a.1) (.int b.1)=decide (a.1=b.1):=by rw[uD rfl rfl];exact(Ru _ _)
 have d:eqD (.int a.2) (.int b.2)=decide (a.2=b.2):=by rw[uD rfl rfl];exact(Ru _ _)
 show(eqD (.int a.1) (.int b.1)&&(eqD (.int a.2) (.int b.2)&&true))=_;rw[c,d,LK];by_cases h1:a.1=b.1<;>by_cases h2:a.2=b.2<;>simp[h1,h2,Prod.ext_iff]
theorem yD(a:Cell):wA (aC a)<=50:=GF rfl
theorem Em(x:Cell):∀ cs:List Cell,((cs.map aC).any fun e=>eqD e (aC x))=decide (x∈cs)
 |[]=>by simp
 |c::cs=>by
  rw[gq,yr,Fl,Em x cs];by_cases h:c=x<;>by_cases h2:x∈cs<;>simp[h,h2,eq_comm]
  intro e;exact absurd e.symm h
def Ls(K:ao)(H:Hp)(p:Addr)(ds:List Dt):Prop:=∃ xs,H p=some (.lst xs)/\bf K H xs ds
theorem Ls.den{K:ao}{H:Hp}{p:Addr}{a:List Dt}(h:Ls K H p a):Den K H (.ref p) (.lst a):=let ⟨_,e,D⟩:=h;.lst (SqL.of e) D
theorem Ls.mono{K:ao}{H H':Hp}{p:Addr}{a:List Dt}(h:Ls K H p a)(s:Same H H'):Ls K H' p a:=let ⟨xs,e,D⟩:=h;⟨xs,s _ _ e,D.mono s⟩
theorem Ls.new{K:ao}{H:Hp}{p:Addr}{xs:List V}{a:List Dt}(c:H p=none)(b:bf K H xs a):Ls K (upd H p (.lst xs)) p a:=⟨xs,aA,b.mono (Same.put c)⟩
structure Fr(K:ao)(H H':Hp)(p:Addr)(ds:List Dt):Prop where
 same:Same H H'
 new:H p=none
 ls:Ls K H' p ds
theorem fJ{K:ao}{H:Hp}{v:V}{x:Cell}(h:Den K H v (aC x)):∃ a,v=.ref a/\SqT K H a [.int x.1,.int x.2]/\H a=some (.tup [.int x.1,.int x.2]):=by
 cases h with
 |tup c b=>
  cases b with
  |cons h1 b=>
   cases b with
   |cons h2 b=>
    cases b;cases h1;cases h2;exact⟨_,rfl,SqT.of c,c⟩
theorem iU{K:ao}{H:Hp}{p:Addr}{a b:Int}:Den K (upd H p (.tup [.int a,.int b])) (.ref p) (aC (a,b)):=.tup aA (.cons (.int _) (.cons (.int _) .nil))
section
variable{K:ao}{H:Hp}{v:V}{x:Cell}{p:Addr}{cs:List Cell}{Q:VK}
theorem rW(d:Den K H v (aC x))(q:Q (.int x.1) H):rIx K v (.int 0) H Q:=by
 obtain⟨a,rfl,h,_⟩:=fJ d;exact .inr (.inl ⟨a,_,_,_,rfl,rfl,h,fV,q⟩)
theorem rY(d:Den K H v (aC x))(q:Q (.int x.2) H):rIx K v (.int 1) H Q:=by
 obtain⟨a,rfl,h,_⟩:=fJ d;exact .inr (.inl ⟨a,_,_,_,rfl,rfl,h,dG (j:=1) rfl,q⟩)
theorem z8(d:Den K H v (aC x))(h:Den K H (.ref p) (.lst (cs.map aC)))(q:Q (.bl (decide (x∈cs))) H):QS K false v (.ref p) H Q:=by
 refine⟨aC x,cs.map aC,p,rfl,d,.inl h,fun e a=>?_,?_⟩
 ·obtain⟨c,_,rfl⟩:=cW.mp a;exact⟨rfl,yD c⟩
 ·show Q (.bl ((cs.map aC).any fun e=>eqD e (aC x))) H;rw[Em];exact q
theorem kI(d:Den K H v (aC x))(h:Den K H (.ref p) (.lst (cs.map aC)))(q:Q (.bl (!decide (x∈cs))) H):QS K true v (.ref p) H Q:=by
 refine⟨aC x,cs.map aC,p,rfl,d,.inl h,fun e a=>?_,?_⟩
 ·obtain⟨c,_,rfl⟩:=cW.mp a;exact⟨rfl,yD c⟩
 ·show Q (.bl (!(cs.map aC).any fun e=>eqD e (aC x))) H;rw[Em];exact q
theorem mW{a:List Dt}(h:Den K H (.ref p) (.lst a))(q:Q (.int a.length) H):a4k K [.ref p] H Q:=by
 cases h with
 |lst c b=>exact .inl ⟨p,_,rfl,.inl c,by rw[b.length];exact q⟩
theorem a6A{zzs:L2.St}{i j:Nat}{N:L2.St->Hp->Prop}(d:Den K H v (aC x))(q:N ((zzs.set i (some (.int x.1))).set j (some (.int x.2))) H):a5i K 2 (U3 (Fv i) (U3 (Fv j) a5h)) v zzs H N:=by
 obtain⟨a,rfl,h,_⟩:=fJ d;exact⟨a,_,rfl,h,rfl,_,_,rfl,_,_,rfl,rfl,q⟩
theorem xQ{g:Addr}{a b:List Dt}(h:Ls K H p a)(j:Ls K H g b)(hz:a.length+b.length<=10000)(q:∀ r H',Fr K H H' r (a++b)->Q (.ref r) H'):CW (.ref p) (.ref g) H Q:=by
 obtain⟨xs,e,d⟩:=h;obtain⟨ys,i,f⟩:=j;exact⟨xs,ys,e,i,by rw[d.length,f.length];exact small hz,fun r c=>q r _ ⟨Same.put c,c,.new c (d.append f)⟩⟩
end
def inF(h w:Int)(x:Cell):Prop:=(0<=x.1/\x.1<h)/\(0<=x.2/\x.2<w)
instance(h w:Int)(x:Cell):Decidable (inF h w x):=by unfold inF;infer_instance
def offs:List Cell:=[(-1,-1),(-1,0),(-1,1),(0,-1),(0,1),(1,-1),(1,0),(1,1)]
def bU(h w:Int)(x:Cell):List Cell:=(offs.map fun d=>(x.1+d.1,x.2+d.2)).filter fun y=>decide (inF h w y)
def cJ(h w:Nat):List Cell:=(List.range h).flatMap fun r:Nat=>(List.range w).map fun c:Nat=>((r:Int),(c:Int))
def yI(h w:Int)(st:List Cell)(x:Cell):Nat:=((bU h w x).filter fun y=>decide (y∈st)).length
def inS(sg:Str)(c:Nat):Bool:=!(Builtin.Str.occurrences sg ⟨#[c]⟩ 0 sg.length 1).isEmpty
def codeAt(zs:List Str)(x:Nat×Nat):Nat:=(zs.getD x.1 Str.empty).cps.getD x.2 0
def bB(zs:List Str)(w:Nat)(sg:Str):List Cell:=(List.range zs.length).flatMap fun r:Nat=>((List.range w).filter fun c=>inS sg (codeAt zs (r,c))).map fun c:Nat=>((r:Int),(c:Int))
structure Rect(zs:List Str)(w:Nat):Prop where
 ne:1<=zs.length
 le:zs.length<=6
 w1:1<=w
 w6:w<=6
 len:∀ z∈zs,z.length=w
theorem Rect.head{zs:List Str}{w:Nat}(h:Rect zs w):∃ a b,zs=a::b/\a.length=w:=by
 cases zs with
 |nil=>exact absurd h.ne (by decide)
 |cons a b=>exact⟨a,b,rfl,h.len a eF⟩
def SameBut(p:Addr)(H H':Hp):Prop:=∀ b o,H b=some o->b≠p->H' b=some o
theorem SameBut.refl(p:Addr)(H:Hp):SameBut p H H:=fun _ _ e _=>e
theorem SameBut.trans{p:Addr}{H d f:Hp}(a:SameBut p H d)(b:SameBut p d f):SameBut p H f:=fun c o e n=>b c o (a c o e n) n
theorem Same.but{H H':Hp}(s:Same H H')(p:Addr):SameBut p H H':=fun b o e _=>s b o e
theorem SameBut.put{p:Addr}{H H':Hp}{o:HO}(s:SameBut p H H'):SameBut p H (upd H' p o):=fun b u e n=>by rw[bG n];exact s b u e n
theorem SameBut.and{p q:Addr}{H H':Hp}{o:HO}(s:SameBut p H H')(a:H' q=none):SameBut p H (upd H' q o):=fun b u e n=>(Same.put a) b u (s b u e n)
theorem SameBut.of{p:Addr}{H H0 H':Hp}(s:SameBut p H0 H')(a:Same H H0)(c:H p=none):Same H H':=fun b o e=>s b o (a b o e) (bL e c)
section
variable{K:ao}{p:Addr}{H H':Hp}{l:List V}
theorem SameBut.seq{a:Addr}{xs:List V}(s:SameBut p H H')(b:H a=some (.lst xs))(n:a≠p):SqL K H' a xs:=SqL.of (s _ _ b n)
theorem SameBut.cell{v:V}{x:Cell}(s:SameBut p H H')(c:H p=some (.lst l))(h:Den K H v (aC x)):Den K H' v (aC x):=by
 obtain⟨a,rfl,_,b⟩:=fJ h;exact .tup (s _ _ b (qF b c (by intro d;cases d))) (.cons (.int _) (.cons (.int _) .nil))
theorem SameBut.cells(s:SameBut p H H')(b:H p=some (.lst l)):∀ {vs:List V} {cs:List Cell},bf K H vs (cs.map aC)->bf K H' vs (cs.map aC):=by
 intro vs cs a
 induction cs generalizing vs with
 |nil=>cases a;exact .nil
 |cons c cs d=>cases a with|cons h t=>exact .cons (s.cell b h) (d t)
theorem SameBut.ls{q:Addr}{cs:List Cell}(s:SameBut p H H')(a:H p=some (.lst l))(n:q≠p)(h:Ls K H q (cs.map aC)):Ls K H' q (cs.map aC):=let ⟨xs,e,D⟩:=h;⟨xs,s _ _ e n,s.cells a D⟩
end
theorem jN{K:ao}{d e:TE}{f:TA}{zzs:L2.St}{H:Hp}{Q:List V->Hp->Prop}(a b:Int)(i:∀ c:VK,c (.int a) H->d zzs H c)(j:∀ c:VK,c (.int b) H->e zzs H c)
  (h:∀ v H',Same H H'->Den K H' v (aC (a,b))->f zzs H' fun xs g=>Q (v::xs) g):zB (a6P (zB d (zB e jL))) f zzs H Q:=
 i _ (j _ ⟨sz rfl,fun p k=>h _ _ (Same.put k) iU⟩)
theorem Ym{K:ao}{j:TA}{g:TG}{k:TS}{b:Ends}{zzs:L2.St}{H:Hp}
  (h:j zzs H fun xs c=>xs.length<=sizeLine/\∀ p,c p=none->∃ a,V.ref p=.ref a/\(∃ n,SqL K (upd c p (.lst xs)) a n)/\∃ d:Nat->Nat->L2.St->Hp->Prop,(∃ m,d 0 m zzs (upd c p (.lst xs)))/\∀ i m zzs H,d i m zzs H ->
   ((Itl K a).stop i H/\b.nx zzs H)\/((Itl K a).go i H/\∃ N:L2.St->Hp->Prop,(∀ e H',N e H'->∃ f,f<m/\d (i+1) f e H')/\∀ x H',(Itl K a).yld i H x H'->g x zzs H' fun o l=>k { b with nx:=N,ct:=N,bk:=b.nx } o l)) :
  a6M (U7 K (a6N j)) g k b zzs H:=h
theorem ltl{n:Nat}(h:n<10000):n<sizeLine:=jw h (by rw[pK];decide)
theorem jQ{K:ao}{p:Addr}{H:Hp}{l:List V}{v:V}{Q:VK}(a:H p=some (.lst l))(hz:l.length<10000)(q:Q .non (upd H p (.lst (l++[v])))):Ut (.ref p) [v] H Q:=
 ⟨p,l,v,rfl,rfl,a,jw hz (by rw[pK];decide),q⟩
theorem PX{zs:List Str}{r:Nat}(h:r<zs.length):atI (zs.map V.str) (r:Int)=some (.str (zs.getD r Str.empty)):=dG (by simp[fM,h])
theorem a1L{a:Str}{c:Nat}(h:c<a.length):atI a.cps.toList (c:Int)=some (a.cps.getD c 0):=by
 have h':c<a.cps.size:=h;exact dG (by simp[qN,h'])
theorem Rect.row{zs:List Str}{w r:Nat}(h:Rect zs w)(a:r<zs.length):(zs.getD r Str.empty).length=w:=by
 have e:zs.getD r Str.empty=zs[r]:=by simp[fM,a]
 rw[e];exact h.len _ (mL a)
theorem z9{K:ao}{H:Hp}{p:Addr}{zs:List Str}{w r c:Nat}{Q:VK}(d:SqL K H p (zs.map V.str))(a:Rect zs w)(b:r<zs.length)(f:c<w)(q:Q (.str ⟨#[codeAt zs (r,c)]⟩) H):rIx K (.str (zs.getD r Str.empty)) (.int (c:Int)) H Q:=by
 have e:=a.row b;exact .inr (.inr ⟨_,_,_,rfl,rfl,small (by have:=a.w6;lia),a1L (by lia),q⟩)
theorem Gb{K:ao}{H:Hp}{p:Addr}{zs:List Str}{r:Nat}{Q:VK}(a:SqL K H p (zs.map V.str))(b:r<zs.length)(q:Q (.str (zs.getD r Str.empty)) H):rIx K (.ref p) (.int (r:Int)) H Q:=
 .inl ⟨p,_,_,_,rfl,rfl,a,PX b,q⟩
theorem pC{H:Hp}(n:Nat):ug (Itr 0 n) H ((List.range n).map fun i:Nat=>V.int (i:Int)):=by
 have h:=FT (H:=H) 0 n;have e:(((List.range n).map fun i:Nat=>(0:Int)+(i:Int)).map V.int)=(List.range n).map fun i:Nat=>V.int (i:Int):=by
  rw[lF];refine BP fun i _=>?_
  simp
 rw[e] at h;exact h
theorem bf.nats{K:ao}{H:Hp}:∀ l:List Nat,bf K H (l.map fun i:Nat=>V.int (i:Int)) (l.map fun i:Nat=>Dt.int (i:Int))
 |[]=>.nil
 |_::l=>.cons (.int _) (bf.nats l)
theorem dM{h w:Nat}{x:Cell}:x∈cJ h w↔inF h w x:=by
 unfold cJ inF;rw[List.mem_flatMap];constructor
 ·rintro⟨r,f,g⟩;obtain⟨c,e,rfl⟩:=cW.mp g;rw[fP] at f e;exact⟨⟨by show(0:Int)<=(r:Int);lia,by show(r:Int)<h;lia⟩,⟨by show(0:Int)<=(c:Int);lia,by show(c:Int)<w;lia⟩⟩
 ·rintro⟨⟨a,b⟩,⟨c,d⟩⟩;refine⟨x.1.toNat,fP.mpr (by lia),cW.mpr ⟨x.2.toNat,fP.mpr (by lia),?_⟩⟩;exact nD (by show((x.1.toNat:Nat):Int)=x.1;lia) (by show((x.2.toNat:Nat):Int)=x.2;lia)
theorem rJ(h w:Nat):cJ (h+1) w=cJ h w++(List.range w).map fun c:Nat=>((h:Int),(c:Int)):=by
 unfold cJ;rw[pZ,GK];simp
theorem gF(h w:Nat):(cJ h w).length=h*w:=by
 induction h with
 |zero=>simp[cJ]
 |succ h a=>rw[rJ,cH,a,aL,jD,M4]
theorem gA(h w:Int)(x:Cell):(bU h w x).length<=8:=by
 unfold bU;exact cU (gW _ _) (by rw[aL];decide)
theorem TX(h w:Int)(st:List Cell)(x:Cell):yI h w st x<=8:=cU (gW _ _) (gA h w x)
theorem uH{h w:Int}{x y:Cell}(a:y∈bU h w x):inF h w y:=by
 unfold bU at a;exact cT (cG.mp a).2
theorem Ae(zs:List Str)(w:Nat)(a:Str):(bB zs w a).length<=zs.length*w:=by
 unfold bB;have b:∀ n,((List.range n).flatMap fun r:Nat=>((List.range w).filter fun c=>inS a (codeAt zs (r,c))).map fun c:Nat=>((r:Int),(c:Int))).length<=n*w:=by
  intro n
  induction n with
  |zero=>simp
  |succ n d=>
   rw[pZ,GK,cH,M4];refine Nat.add_le_add d ?_;simp only[Lp,List.flatMap_nil,qT,aL];exact cU (gW _ _) (by rw[jD];exact bK _)
 exact b _
def Ad(zs:List Str)(w:Nat)(sg:Str)(n:Nat):List Cell:=(List.range n).flatMap fun r:Nat=>((List.range w).filter fun c=>inS sg (codeAt zs (r,c))).map fun c:Nat=>((r:Int),(c:Int))
theorem CJ(zs:List Str)(w:Nat)(a:Str)(n:Nat):Ad zs w a (n+1)=Ad zs w a n++((List.range w).filter fun c=>inS a (codeAt zs (n,c))).map fun c:Nat=>((n:Int),(c:Int)):=by
 unfold Ad;rw[pZ,GK];simp
theorem Q9(zs:List Str)(w:Nat)(b:Str):∀ n,(Ad zs w b n).length<=n*w:=by
 intro n
 induction n with
 |zero=>simp[Ad]
 |succ n a=>
  rw[CJ,cH,M4,aL];exact Nat.add_le_add a (cU (gW _ _) (by rw[jD];exact bK _))
def Rb(h w:Int)(st kn:List Cell)(x:Cell):Nat:=if x∈kn then 48+yI h w st x else 35
def wB(h w:Int)(st kn:List Cell)(r:Int)(n:Nat):Str:=⟨((List.range n).map fun c:Nat=>Rb h w st kn (r,(c:Int))).toArray⟩
def Br(h w:Nat)(st kn:List Cell):List Str:=(List.range h).map fun r:Nat=>wB h w st kn (r:Int) w
theorem ZW(h w:Int)(st a:List Cell)(r:Int)(n:Nat):wB h w st a r (n+1)=wB h w st a r n++⟨#[Rb h w st a (r,(n:Int))]⟩:=by
 unfold wB;rw[pZ,d9];show(⟨_⟩:Str)=⟨_++_⟩;simp
theorem Uz(h w:Int)(st a:List Cell)(r:Int)(n:Nat):(wB h w st a r n).length=n:=by
 show(((List.range n).map fun c:Nat=>Rb h w st a (r,(c:Int))).toArray).size=n;simp
theorem dig:∀ n,n<=8->(Str.ofString (toString ((n:Nat):Int)):Str)=⟨#[48+n]⟩:=by
 intro n a;have:=(by decide +kernel:∀ k∈List.range 9,(Str.ofString (toString ((k:Nat):Int)):Str)=⟨#[48+k]⟩)
 exact this n (fP.mpr (by lia))
theorem a1X(n:Nat)(h:n<=8):((n:Nat):Int).natAbs.log2<1920:=by
 have e:((n:Nat):Int).natAbs=n:=Int.natAbs_natCast n;rw[e];have:=(by decide:∀ k∈List.range 9,k.log2<1920)
 exact this n (fP.mpr (by lia))
inductive Reach(h w:Int)(st kn:List Cell)(x0:Cell):Cell->Prop
 |base:Reach h w st kn x0 x0
 |step {x y:Cell}:Reach h w st kn x0 x->yI h w st x=0->y∈bU h w x->y∉kn->Reach h w st kn x0 y
theorem Yl{h w:Int}{st:List Cell}{x y:Cell}(e:yI h w st x=0)(b:y∈bU h w x):y∉st:=by
 unfold yI at e;intro a;have:=Rq.mp e;have m:y∈(bU h w x).filter fun y=>decide (y∈st):=cG.mpr ⟨b,bQ a⟩
 rw[this] at m;cases m
theorem Reach.inF{h w:Int}{st c:List Cell}{a y:Cell}(h0:inF h w a)(r:Reach h w st c a y):L2.inF h w y:=by
 induction r with
 |base=>exact h0
 |step _ _ b _ _=>exact uH b
theorem Reach.free{h w:Int}{st c:List Cell}{a y:Cell}(h0:a∉st)(r:Reach h w st c a y):y∉st:=by
 induction r with
 |base=>exact h0
 |step _ e b _ _=>exact Yl e b
theorem Reach.new{h w:Int}{st a:List Cell}{b y:Cell}(h0:b∉a)(r:Reach h w st a b y):y∉a:=by
 cases r with
 |base=>exact h0
 |step _ _ _ c=>exact c
theorem NQ(h w:Int)(x:Cell):(bU h w x).Nodup:=by
 unfold bU;refine RL RD ?_;unfold List.Nodup;rw[RX];have o:offs.Pairwise (·≠·):=by decide
 refine o.imp fun {a b} f e=>f ?_
 have c:=congrArg Prod.fst e;have d:=congrArg Prod.snd e;simp only at c d;exact nD (by lia) (by lia)
theorem mD{f:Type} [DecidableEq f]:∀ {l1 l2:List f},l1.Nodup->(∀ x∈l1,x∈l2)->l1.length<=l2.length
 |[],_,_,_=>jh _
 |a::l1,l2,hn,hs=>by
  have b:=hs a eF;have c:=Cj.mp hn;have g:=mD (l1:=l1) (l2:=l2.erase a) c.2 fun x d=>(List.mem_erase_of_ne (fun e:x=a=>c.1 (by rw[<- e];exact d))).mpr (hs x (gk _ d))
  rw[List.length_erase_of_mem b] at g;have:0<l2.length:=a1j b;rw[gY];lia
structure oZ(h w:Int)(st kn:List Cell)(x0:Cell)(cs:List Cell)(at_:Nat):Prop where
 nd:cs.Nodup
 has:x0∈cs
 rch:∀ y∈cs,Reach h w st kn x0 y
 le:at_<=cs.length
 cl:∀ i y,i<at_->cs[i]?=some y->yI h w st y=0->∀ z∈bU h w y,z∈kn\/z∈cs
theorem oZ.done{h w:Int}{st b:List Cell}{c:Cell}{cs:List Cell}(o:oZ h w st b c cs cs.length)(y:Cell):y∈cs↔Reach h w st b c y:=by
 refine⟨o.rch y,fun r=>?_⟩
 induction r with
 |base=>exact o.has
 |step _ e g d j=>
  obtain⟨i,hi⟩:=tU j;have f:i<cs.length:=(gO.mp hi).1;rcases o.cl i _ f hi e _ g with a|a
  ·exact absurd a d
  ·exact a
theorem oZ.grow{h w:Int}{st f:List Cell}{l x:Cell}{cs:List Cell}{n:Nat}(o:oZ h w st f l cs n)(g:cs[n]?=some x)(e:yI h w st x=0) :
  oZ h w st f l (cs++(bU h w x).filter fun y=>!decide (y∈f)&&!decide (y∈cs)) (n+1):=by
 have B:n<cs.length:=(gO.mp g).1;have mem:∀ y,y∈((bU h w x).filter fun y=>!decide (y∈f)&&!decide (y∈cs))↔y∈bU h w x/\y∉f/\y∉cs:=fun y=>by
  rw[cG];simp
 refine⟨?_,mJ _ o.has,fun y d=>?_,by rw[cH];lia,fun i y hi d r c k=>?_⟩
 ·refine zH.mpr ⟨o.nd,RL RD (NQ h w x),fun a s b j t=>?_⟩;rw[<- t] at j;exact((mem a).mp j).2.2 s
 ·rcases dw.mp d with c|c
  ·exact o.rch y c
  ·obtain⟨z,A,C⟩:=(mem y).mp c;exact .step (o.rch x (eX g)) e z A
 ·have u:i<cs.length:=by lia
  rw[Bx u] at d;by_cases v:i=n
  ·subst v;rw[g] at d;cases d;by_cases p:c∈f
   ·exact .inl p
   ·by_cases m:c∈cs
    ·exact .inr (mJ _ m)
    ·exact .inr (lD _ ((mem c).mpr ⟨k,p,m⟩))
  ·rcases o.cl i y (by lia) d r c k with q|q
   ·exact .inl q
   ·exact .inr (mJ _ q)
theorem oZ.skip{h w:Int}{st d:List Cell}{f x:Cell}{cs:List Cell}{n:Nat}(o:oZ h w st d f cs n)(c:cs[n]?=some x)(e:yI h w st x≠0):oZ h w st d f cs (n+1):=by
 have j:n<cs.length:=(gO.mp c).1;refine⟨o.nd,o.has,o.rch,j,fun i y hi a b l k=>?_⟩;by_cases g:i=n
 ·subst g;rw[c] at a;cases a;exact absurd b e
 ·exact o.cl i y (by lia) a b l k
theorem oZ.len{h w:Nat}{st d:List Cell}{a:Cell}{cs:List Cell}{n:Nat}(o:oZ h w st d a cs n)(h0:inF h w a)(b:h<=6)(e:w<=6):cs.length<=36:=by
 have:=mD (l2:=cJ h w) o.nd fun y c=>dM.mpr ((o.rch y c).inF h0)
 rw[gF] at this;have:h*w<=6*6:=lK b e;lia
theorem a5n{a:Str}{c:Nat}(h:c∉a.cps.toList):inS a c=false:=by
 unfold inS;rw[PySem.W.occ_nil_of_no a ⟨#[c]⟩ 1 fun i hi=>?_]
 ·rfl
 ·cases e:Builtin.Str.subAt a ⟨#[c]⟩ i with
  |false=>rfl
  |true=>
   refine absurd ?_ h;have b:a.cps.extract i (i+1)=#[c]:=lG.mp e;have f:c∈a.cps.extract i (i+1):=by rw[b];simp
   obtain⟨k,g,d⟩:=Array.mem_extract_iff_getElem.mp f;rw[<- d];exact Ro _
theorem K9{a:Str}(h:a.cps.toList.all (inS a)=true)(c:Nat):inS a c=decide (c∈a.cps.toList):=by
 by_cases b:c∈a.cps.toList
 ·rw[bQ b];exact nQ.mp h c b
 ·rw[cD b];exact a5n b
def uU(c:Nat):Bool:=decide (c=35\/(48<=c/\c<=56))
theorem a2f(c:Nat):inS "#012345678" c=uU c:=by
 rw[K9 (by decide +kernel)];have e:("#012345678" : Str).cps.toList=[35,48,49,50,51,52,53,54,55,56]:=by decide +kernel
 rw[e];by_cases h:c<57
 ·exact(by decide +kernel:∀ k∈List.range 57,decide (k∈[35,48,49,50,51,52,53,54,55,56])=uU k) c (fP.mpr h)
 ·have a:¬c∈[35,48,49,50,51,52,53,54,55,56]:=fun d=>h ((by decide:∀ k∈[35,48,49,50,51,52,53,54,55,56],k<57) c d)
  have b:uU c=false:=by unfold uU;exact cD (by lia)
  rw[cD a,b]
theorem Yr(c:Nat):inS "#" c=decide (c=35):=by
 rw[K9 (by decide +kernel)];have e:("#" : Str).cps.toList=[35]:=by decide +kernel
 rw[e];simp
theorem CZ(x:Str)(lo a:Option Int):(Txt.slice x lo a).cps.toList=(x.cps.toList.drop (HT.sIx x.length 0 lo)).take (HT.sIx x.length x.length a-HT.sIx x.length 0 lo):=by
 have e:Builtin.Str.strSliceIndices lo a 1 x.length=(List.range (HT.sIx x.length x.length a-HT.sIx x.length 0 lo)).map (HT.sIx x.length 0 lo+·):=by
  obtain⟨h1,h2,_⟩:=zy lo a x.length;rw[<- sliceRange_one,<- h1,<- h2];rfl
 unfold Txt.slice;rw[e];have i:HT.sIx x.length x.length a<=x.length:=HT.a01 _ _ (bK _) a;have h:HT.sIx x.length 0 lo<=x.length:=HT.a01 _ _ (jh _) lo;have c:x.cps.toList.length=x.length:=fu;split
 ·rename_i b;simp only[aL,jD,mK,lG] at b;have f:HT.sIx x.length x.length a-HT.sIx x.length 0 lo=x.length:=b.2;by_cases g:x.length=0
  ·have:x.cps.toList=[]:=Rq.mp (by rw[c,g]);rw[this];simp
  ·have d:HT.sIx x.length 0 lo=0:=by lia
   rw[f,d,Hh,<- c,gP]
 ·show(((List.range _).map _).filterMap (x.cps[·]?)).toArray.toList=_;rw[pick_run]
theorem a0d(x:Str)(n:Nat)(h:n<=x.length):(Txt.slice x none (some (n:Int))).cps.toList=x.cps.toList.take n:=by
 rw[CZ,HT.uK,HT.zq,Ck h,Hh,Nat.sub_zero]
theorem Rc(x:Str)(n:Nat)(h:n<=x.length):(Txt.slice x (some (n:Int)) none).cps.toList=x.cps.toList.drop n:=by
 rw[CZ,HT.uK,HT.zq,Ck h];refine Di ?_;rw[vh,fu];exact bK _
theorem zZ(a b:Str):(a++b).cps.toList=a.cps.toList++b.cps.toList:=by
 show(a.cps++b.cps).toList=_;simp
theorem str_len(a:Str):a.length=a.cps.toList.length:=fu.symm
structure Vw(zs:List Str)(w:Nat):Prop extends Rect zs w where
 sg:∀ z∈zs,∀ c∈z.cps.toList,uU c=true
theorem a0a{h w:Nat}{st d:List Cell}(i:1<=h)(j:h<=6)(e:1<=w)(f:w<=6):Vw (Br h w st d) w:=by
 have l:(Br h w st d).length=h:=by unfold Br;rw[aL,jD]
 refine⟨⟨by lia,by lia,e,f,fun g b=>?_⟩,fun g b c a=>?_⟩
 ·obtain⟨r,_,rfl⟩:=cW.mp b;exact Uz _ _ _ _ _ _
 ·obtain⟨r,_,rfl⟩:=cW.mp b;unfold wB at a;simp only[cW] at a;obtain⟨k,_,rfl⟩:=a;unfold Rb uU;have:=TX h w st ((r:Int),(k:Int));split
  ·exact bQ (.inr ⟨by lia,by lia⟩)
  ·exact bQ (.inl rfl)
def wg(zs:List Str)(r c:Nat)(s:Str):List Str:=zs.take r++[Txt.slice (zs.getD r Str.empty) none (some (c:Int))++s++Txt.slice (zs.getD r Str.empty) (some ((c:Int)+1)) none]++zs.drop (r+1)
theorem a6r{zs:List Str}{w r c:Nat}{s:Str}(v:Vw zs w)(g:r<zs.length)(n:c<w)(l:s.length=1)(j:∀ k∈s.cps.toList,uU k=true):Vw (wg zs r c s) w/\(wg zs r c s).length=zs.length:=by
 have i:=v.toRect.row g;have mem:zs.getD r Str.empty∈zs:=by
  have e:zs.getD r Str.empty=zs[r]:=by simp[fM,g]
  rw[e];exact mL g
 have s1:=a0d (zs.getD r Str.empty) c (by lia);have s2:(Txt.slice (zs.getD r Str.empty) (some ((c:Int)+1)) none).cps.toList=(zs.getD r Str.empty).cps.toList.drop (c+1):=Rc (zs.getD r Str.empty) (c+1) (by lia);have h:(Txt.slice (zs.getD r Str.empty) none (some (c:Int))++s++Txt.slice (zs.getD r Str.empty) (some ((c:Int)+1)) none).cps.toList=(zs.getD r Str.empty).cps.toList.take c++s.cps.toList++(zs.getD r Str.empty).cps.toList.drop (c+1):=by
  rw[zZ,zZ,s1,s2]
 have f:(wg zs r c s).length=zs.length:=by
  unfold wg;rw[cH,cH,jd,vh,jC];lia
 have m:(zs.getD r Str.empty).cps.toList.length=w:=by rw[<- str_len];exact i
 refine⟨⟨⟨by rw[f];exact v.ne,by rw[f];exact v.le,v.w1,v.w6,fun b a=>?_⟩,fun b a k d=>?_⟩,f⟩
 ·unfold wg at a;rcases dw.mp a with a|a
  ·rcases dw.mp a with a|a
   ·exact v.len b (Dp a)
   ·rw[dH.mp a,str_len,h,cH,cH,jd,vh,m,<- str_len,l];lia
  ·exact v.len b (Ld a)
 ·unfold wg at a;rcases dw.mp a with a|a
  ·rcases dw.mp a with a|a
   ·exact v.sg b (Dp a) k d
   ·rw[dH.mp a,h] at d;rcases dw.mp d with q|q
    ·rcases dw.mp q with q|q
     ·exact v.sg _ mem k (Dp q)
     ·exact j k q
    ·exact v.sg _ mem k (Ld q)
  ·exact v.sg b (Ld a) k d
def Gd(z:Str)(n:Int):Bool:=decide ((z.length:Int)=n)&&z.cps.toList.all (inS "#012345678")
def Dd:List Str->Bool
 |[]=>false
 |z::zs=>decide ((z::zs).length<=6)&&decide (1<=z.length/\z.length<=6)&&(z::zs).all fun r=>Gd r z.length
theorem Gz{a:Str}{zs:List Str}(b:(a::zs).length<=6)(c:1<=a.length)(d:a.length<=6):Dd (a::zs)=(a::zs).all fun r=>Gd r a.length:=by
 show(decide ((a::zs).length<=6)&&decide (1<=a.length/\a.length<=6)&&_)=_;rw[bQ b,bQ (And.intro c d)];rfl
theorem Ri{a:Str}{zs:List Str}(b:¬(a::zs).length<=6):Dd (a::zs)=false:=by
 show(decide ((a::zs).length<=6)&&_&&_)=_;rw[cD b];rfl
theorem Rj{a:Str}{zs:List Str}(b:¬(1<=a.length/\a.length<=6)):Dd (a::zs)=false:=by
 show(_&&decide (1<=a.length/\a.length<=6)&&_)=_;rw[cD b,yq];rfl
theorem Vw.ok{zs:List Str}{w:Nat}(v:Vw zs w):Dd zs=true:=by
 obtain⟨e,f,rfl,d⟩:=v.toRect.head;rw[Gz v.le (by have:=v.w1;lia) (by have:=v.w6;lia),nQ];intro r a;unfold Gd;rw[bQ (by rw[v.len r a,d]),vA,nQ];intro c b;rw[a2f];exact v.sg r a c b
def CK(l:Addr)(h w:Int):List (Str×V):=mV "width" (.int w) (mV "height" (.int h) (mV "rows" (.ref l) []))
theorem Qn(l:Addr)(h w:Int):(CK l h w).lookup ("rows" : Str)=some (.ref l):=by
 unfold CK;rw[iC,aJ (by decide +kernel),iC,aJ (by decide +kernel),iC,aK rfl]
theorem Fp(l:Addr)(h w:Int):(CK l h w).lookup ("height" : Str)=some (.int h):=by
 unfold CK;rw[iC,aJ (by decide +kernel),iC,aK rfl]
theorem K6(l:Addr)(h w:Int):(CK l h w).lookup ("width" : Str)=some (.int w):=by
 unfold CK;rw[iC,aK rfl]
structure ig(C:Addr)(H:Hp)(x:Addr)(zs:List Str)(w:Nat):Prop where
 ob:∃ dx l,H x=some (.ins C dx (CK l zs.length w))/\H l=some (.lst (zs.map V.str))
 vw:Vw zs w
theorem ig.mono{C:Addr}{H H':Hp}{x:Addr}{zs:List Str}{w:Nat}(v:ig C H x zs w)(s:Same H H'):ig C H' x zs w:=let ⟨dx,l,a,b⟩:=v.ob;⟨⟨dx,l,s _ _ a,s _ _ b⟩,v.vw⟩
def aP(zs:List Str)(w:Nat)(x:Cell):Bool:=decide (inF zs.length w x)&&decide (codeAt zs (x.1.toNat,x.2.toNat)=35)
def eG(zs:List Str)(w:Nat):List Cell:=(cJ zs.length w).filter (aP zs w)
theorem gH(zs:List Str)(w:Nat):eG zs w=bB zs w "#":=by
 unfold eG bB cJ;rw[List.filter_flatMap];have key:∀ r∈List.range zs.length,((List.range w).map fun c:Nat=>((r:Int),(c:Int))).filter (aP zs w)=((List.range w).filter fun c=>inS "#" (codeAt zs (r,c))).map fun c:Nat=>((r:Int),(c:Int)):=by
  intro r b;rw[List.filter_map];congr 1;refine tE fun c e=>?_
  rw[fP] at b e;show aP zs w ((r:Int),(c:Int))=_;unfold aP;rw[Yr,bQ (show inF zs.length w ((r:Int),(c:Int)) from⟨⟨by show(0:Int)<=(r:Int);lia,by show(r:Int)<zs.length;lia⟩,⟨by show(0:Int)<=(c:Int);lia,by show(c:Int)<w;lia⟩⟩),vA];rfl
 have d:∀ l:List Nat,(∀ r∈l,r∈List.range zs.length)->l.flatMap (fun r:Nat=>((List.range w).map fun c:Nat=>((r:Int),(c:Int))).filter (aP zs w))=l.flatMap (fun r:Nat=>((List.range w).filter fun c=>inS "#" (codeAt zs (r,c))).map fun c:Nat=>((r:Int),(c:Int))):=by
  intro l
  induction l with
  |nil=>intro _;rfl
  |cons a l f=>intro h;rw[Lp,Lp,key a (h a eF),f fun r b=>h r (gk _ b)]
 exact d _ fun r b=>b
theorem FJ{zs:List Str}{w:Nat}{x:Cell}:x∈eG zs w↔aP zs w x=true:=by
 unfold eG;rw[cG,dM];constructor
 ·exact fun h=>h.2
 ·intro h;refine⟨?_,h⟩;unfold aP at h;rw[mK] at h;exact cT h.1
def Ea(w:Nat)(x:Cell)(r:Int):List Cell:=((List.range ((min (x.2+2) w)-(max (x.2-1) 0)).toNat).map fun k:Nat=>(r,max (x.2-1) 0+(k:Int))).filter fun y=>!decide (y=x)
def rT(w:Nat)(x:Cell)(lo:Int)(n:Nat):List Cell:=(List.range n).flatMap fun k:Nat=>Ea w x (lo+(k:Int))
def QM(h w:Nat)(x:Cell):List Cell:=rT w x (max (x.1-1) 0) ((min (x.1+2) h)-(max (x.1-1) 0)).toNat
theorem X3:∀ h∈List.range 7,∀ w∈List.range 7,∀ r∈List.range h,∀ c∈List.range w,QM h w ((r:Int),(c:Int))=bU h w ((r:Int),(c:Int)):=by decide +kernel
theorem Zq{h w:Nat}{x:Cell}(g:h<=6)(i:w<=6)(f:inF h w x):QM h w x=bU h w x:=by
 obtain⟨⟨a,b⟩,⟨c,d⟩⟩:=f;have:=X3 h (fP.mpr (by lia)) w (fP.mpr (by lia)) x.1.toNat (fP.mpr (by lia)) x.2.toNat (fP.mpr (by lia));have e:(((x.1.toNat:Nat):Int),((x.2.toNat:Nat):Int))=x:=nD (by show((x.1.toNat:Nat):Int)=x.1;lia) (by show((x.2.toNat:Nat):Int)=x.2;lia);rw[e] at this;exact this
def aM(zs:List Str)(w:Nat)(x:Cell):List Cell:=(bU zs.length w x).filter fun y=>!aP zs w y
def aG(zs:List Str)(w:Nat)(x:Cell):List Cell:=(bU zs.length w x).filter fun y=>aP zs w y
theorem TQ(zs:List Str)(w:Nat):((eG zs w).filter fun x=>decide (0<(aM zs w x).length))=(bB zs w "#").filter fun x=>decide (0<((bU zs.length w x).filter fun y=>!decide (y∈bB zs w "#")).length):=by
 rw[gH];refine tE fun x _=>?_
 unfold aM;have:((bU zs.length w x).filter fun y=>!aP zs w y)=(bU zs.length w x).filter fun y=>!decide (y∈bB zs w "#"):=by
  refine tE fun y _=>?_
  rw[<- gH];congr 1;by_cases h:aP zs w y=true
  ·rw[h,bQ (FJ.mpr h)]
  ·rw[RZ.mpr h,cD fun a=>h (FJ.mp a)]
 rw[this]
open PySem.W
section
variable{prog:Program}{w:World}{A:Around}{E:Value->Shared->Prop}{s:Shared}
abbrev Keeps(h h':Heap):Prop:=∀ b o,h.get? b=some o->h'.get? b=some o
end
def cM(a b:Cell):Prop:=a.1<b.1\/(a.1=b.1/\a.2<b.2)
instance(a b:Cell):Decidable (cM a b):=by unfold cM;infer_instance
section
variable{X:Cx}
theorem ux{h:List (Addr×Obj)}{zzs:L2.St}{H:Hp}{s:Shared}{v:V}{u:Value}{c:Cell}(I:Inv X h zzs H s)(d:Den X.K H v (aC c))(r:RelV v u):∃(a:Addr)(o:Obj)(t t':Tok)(n:Nat),u=.ref a/\s.heap.get? a=some o/\o.cls=.type "tuple" /\ o.data=.seq #[.int c.1 t,.int c.2 t'] n:=by
 obtain⟨a,rfl,g,_⟩:=fJ d;cases r;obtain⟨i,rv,⟨o,e,b,n,f⟩,_⟩:=I.tuple g;obtain⟨j,k,rfl,⟨t,rfl⟩,⟨t',rfl⟩⟩:=vals2 rv;exact⟨a,o,t,t',n,rfl,e,b,f⟩
end
section
variable{X:Cx}{K:ao}
def a4j(K:ao):List V->Hp->VK->Prop:=fun xs H Q=>∃ x c cv,xs=[x,c]/\a4N c=some cv/\∃(a:Addr)(ys:List V)(b:Bool),x=.ref a /\
 ((SqT K H a ys/\PySem.W.kitOne K (.type "tuple") cv=some b)\/(SqL K H a ys/\PySem.W.kitOne K (.type "list") cv=some b))/\Q (.bl b) H
theorem Vl:fH X (.builtin "isinstance") (a4j X.K):=by
 intro pins s zzs H xs v Q I r h;obtain⟨x,c,cv,rfl,k,a,ys,b,rfl,h,q⟩:=h;obtain⟨u,t,rfl,p,m⟩:=vals2 r;have e:=Tq k m;subst e;cases p;rcases h with⟨i,g⟩|⟨i,g⟩
 ·obtain⟨l,_,⟨o,d,f,_⟩,_⟩:=I.tuple i;exact qR a1z I.kIn ⟨o,d,f⟩ g (by intro j;cases j) fun tk=>⟨.bl b,H,I.tok tk,rfl,q⟩
 ·obtain⟨l,_,⟨o,n,d,f,_⟩,_⟩:=I.list i;exact qR RV I.kIn ⟨o,d,f⟩ g (by intro j;cases j) fun tk=>⟨.bl b,H,I.tok tk,rfl,q⟩
theorem Ao(a:X.K=K:=by rfl):fH X (.builtin "isinstance") (fun xs H Q=>a7O K xs H Q\/a4j K xs H Q):=by subst a;exact Xy.or Vl
end
structure lQ{α:Type}(lt:α->α->Bool):Prop where
 Mt:∀ a b,lt a b=true->lt b a=false
 tr:∀ a b c,lt b a=false->lt c b=false->lt c a=false
 anti:∀ a b,lt a b=false->lt b a=false->a=b
theorem lQ.refl{b:Type}{lt:b->b->Bool}(o:lQ lt)(a:b):lt a a=false:=by
 cases h:lt a a
 ·rfl
 ·rw[<- h];exact o.Mt a a h▸rfl
structure Good(N:Nat)(p:Array Nat):Prop where
 perm:p.toList.Perm (List.range N)
theorem Good.size{N:Nat}{p:Array Nat}(g:Good N p):p.size=N:=by
 have:=g.perm.length_eq;simpa using this
section
variable{α:Type}{lt:α->α->Bool}{f:Nat->α}{N:Nat}{s:Shared}{cmp:Nat->Nat->(Bool->Shared->Prop)->Shared->Prop}
def Ky(f:Nat->α)(p:Array Nat)(i:Nat):α:=f (p.getD i 0)
def Jw(lt:α->α->Bool)(f:Nat->α)(p:Array Nat)(n:Nat):Prop:=∀ i,i+1<n->lt (Ky f p (i+1)) (Ky f p i)=false
theorem Jw.le(o:lQ lt){p:Array Nat}{n:Nat}(u:Jw lt f p n):∀ d i,i+d<n->lt (Ky f p (i+d)) (Ky f p i)=false:=by
 intro d
 induction d with
 |zero=>intro i _;exact o.refl _
 |succ d a=>intro i h;exact o.tr _ _ _ (a i (by lia)) (u (i+d) (by omega))
end
namespace TS
def el(xs:Array Keyed)(i:Nat):Keyed:=xs.getD i (Value.none,Value.none)
theorem jX{xs:Array Keyed}{i:Nat}(h:i<xs.size):el xs i∈xs.toList:=by
 unfold el;rw[qN,jc h];exact Ro h
theorem rH{xs:Array Keyed}{i:Nat}(h:i<xs.size):xs[i]?=some (el xs i):=by
 unfold el;rw[qN,jc h];rfl
section
variable{α:Type}{lt:α->α->Bool}{M:Model}{A:Around}{E:Value->Shared->Prop}{s:Shared}{κ:SortKind}{key:Keyed->α}{a₀:Array Keyed}
structure Env(M:Model)(A:Around)(s:Shared)(κ:SortKind)(key:Keyed->α)(lt:α->α->Bool)(a₀:Array Keyed):Prop where
 o:lQ lt
 ask:∀ x y,x∈a₀.toList->y∈a₀.toList->∀ C:Bool->Shared->Prop,C (lt (key x) (key y)) s->wpAny M A (keyLt' κ x.1 y.1) C (fun _ _=>False) s
def Srt(lt:α->α->Bool)(key:Keyed->α)(xs:Array Keyed)(i j:Nat):Prop:=∀ p q,i<=p->p<=q->q<j->lt (key (el xs q)) (key (el xs p))=false
def Fal(lt:α->α->Bool)(key:Keyed->α)(xs:Array Keyed)(i j:Nat):Prop:=∀ p q,i<=p->p<=q->q<j->lt (key (el xs p)) (key (el xs q))=false
theorem Pq(e:Env M A s κ key lt a₀){x y:Keyed}(c:x∈a₀.toList)(d:y∈a₀.toList){st:SortSt}(a:kindOf st=κ){Q:Option Bool->SortSt->Prop}(h:Q (some (lt (key x) (key y))) st):wpS M A E s (lt' x y) Q st:=by
 rw[lt'_eq];refine aX (nG ?_);rw[a];refine aX (yw (Ho (jy (e.ask x y c d (fun b s'=>s'=s/\b=lt (key x) (key y)) ⟨rfl,rfl⟩) ?_ fun _ _ f=>f.elim)));rintro b s' ⟨rfl,rfl⟩;exact⟨rfl,bD h⟩
theorem jg{xs:Array Keyed}{i:Nat}(h:i<xs.size){st:SortSt}{Q:Keyed->SortSt->Prop}(q:Q (el xs i) st):wpS M A E s (elem' xs i) Q st:=by
 rw[elem'_eq,rH h];exact bD q
theorem G9{xs:Array Keyed}(a:xs.Perm a₀){i:Nat}(h:i<a₀.size):el xs i∈a₀.toList:=
 a.toList.mem_iff.mp (jX (by rw[a.size_eq];exact h))
theorem wk(e:Env M A s κ key lt a₀){st:SortSt}(d:kindOf st=κ)(a:(arrOf st).Perm a₀){i j:Nat}(b:i<a₀.size)(c:j<a₀.size){Q:Option Bool->SortSt->Prop}(h:Q (some (lt (key (el (arrOf st) i)) (key (el (arrOf st) j)))) st):wpS M A E s (ltAt' i j) Q st:=by
 rw[ltAt'_eq];refine aX (nG ?_);exact aX (jg (by rw[a.size_eq];exact b) (aX (jg (by rw[a.size_eq];exact c) (Pq e (G9 a b) (G9 a c) d h))))
theorem qw{xs a:Array Keyed}{i j:Nat}(h:xs[i]?=a[j]?):el xs i=el a j:=by
 unfold el;rw[qN,qN,h]
theorem vO{xs:Array Keyed}{i j:Nat}(a:j<=xs.size)(k:Nat):el (mirror xs i j ((j-i) / 2)) k=if i<=k/\k<j then el xs (i+j-1-k) else el xs k:=by
 have e:=getElem?_mirror_all (i:=i) a k;by_cases h1:i<=k/\k<j
 ·rw[aK h1] at e ⊢;exact qw e
 ·rw[aJ h1] at e ⊢;exact qw e
theorem Ai{xs:Array Keyed}{a d:Nat}(c:a<xs.size)(b:d<=a)(k:Nat):el (bubble xs a d) k=if k=a-d then el xs a else if a-d<k/\k<=a then el xs (k-1) else el xs k:=by
 have e:=getElem?_bubble c d b k;by_cases h1:k=a-d
 ·rw[aK h1] at e ⊢;exact qw e
 ·rw[aJ h1] at e ⊢;by_cases h2:a-d<k/\k<=a
  ·rw[aK h2] at e ⊢;exact qw e
  ·rw[aJ h2] at e ⊢;exact qw e
def Low(xs ys:Array Keyed)(lo:Nat):Prop:=∀ i,i<lo->el xs i=el ys i
theorem Low.refl{xs:Array Keyed}{lo:Nat}:Low xs xs lo:=fun _ _=>rfl
theorem Low.trans{xs a zs:Array Keyed}{lo:Nat}(h:Low xs a lo)(g:Low a zs lo):Low xs zs lo:=fun i hi=>(h i hi).trans (g i hi)
theorem rO{xs:Array Keyed}{i j lo:Nat}(a:j<=xs.size)(h:lo<=i):Low (mirror xs i j ((j-i) / 2)) xs lo:=fun k b=>by
 rw[vO a,aJ (by lia)]
def asl(lo m z:Nat):StateT SortSt Sem (Option Nat):=do
 let mut m:=m
 for _ in [m:z] do
  let some u <- ltAt' (lo+m) (lo+m-1)|return none
  if u then break
  m:=m+1
 return some m
def dsl(lo m z:Nat):StateT SortSt Sem (Option Nat):=do
 (rule "list.sort.descending-run" : Sem Unit)
 let mut m:=m+1
 let mut q:=0
 for _ in [m:z] do
  let some u <- ltAt' (lo+m) (lo+m-1)|return none
  if u then
   if q>0 then reverseSlice' (lo+m-(q+1)) (lo+m)
   q:=0
  else
   let some v <- ltAt' (lo+m-1) (lo+m)|return none
   if v then break
   q:=q+1
  m:=m+1
 if q>0 then
  reverseSlice' (lo+m-(q+1)) (lo+m)
  reverseSlice' lo (lo+m)
  asl lo m z
 else
  reverseSlice' lo (lo+m)
  asl lo m z
theorem Srt.one{xs:Array Keyed}{i:Nat}(o:lQ lt):Srt lt key xs i (i+1):=fun p q a b c=>by
 have:p=q:=by lia
 subst this;exact o.refl _
theorem Srt.more{xs:Array Keyed}{lo x:Nat}(o:lQ lt)(h:1<=x)(d:Srt lt key xs lo (lo+x))(e:lt (key (el xs (lo+x))) (key (el xs (lo+x-1)))=false):Srt lt key xs lo (lo+(x+1)):=fun p q a b c=>by
 by_cases g:q<lo+x
 ·exact d p q a b g
 ·have:q=lo+x:=by lia
  subst this;by_cases f:p=lo+x
  ·subst f;exact o.refl _
  ·exact o.tr _ _ _ (d p (lo+x-1) a (by lia) (by lia)) e
theorem Fal.more{xs:Array Keyed}{lo x:Nat}(o:lQ lt)(h:1<=x)(d:Fal lt key xs lo (lo+x))(e:lt (key (el xs (lo+x-1))) (key (el xs (lo+x)))=false):Fal lt key xs lo (lo+(x+1)):=fun p q a b c=>by
 by_cases g:q<lo+x
 ·exact d p q a b g
 ·have:q=lo+x:=by lia
  subst this;by_cases f:p=lo+x
  ·subst f;exact o.refl _
  ·exact o.tr _ _ _ e (d p (lo+x-1) a (by lia) (by lia))
theorem HB{b:Bool}(h:¬b=true):b=false:=by cases b<;>simp_all
theorem a6T(e:Env M A s κ key lt a₀){st:SortSt}(k:kindOf st=κ)(l:(arrOf st).Perm a₀){lo m b:Nat}(p:1<=m)(q:m<=b)(hz:lo+b<=a₀.size){Q:Option Nat->SortSt->Prop}(d:Srt lt key (arrOf st) lo (lo+m))
  (h:∀ n,1<=n->n<=b->Srt lt key (arrOf st) lo (lo+n)->Q (some n) st):wpS M A E s (asl lo m b) Q st:=by
 unfold asl;refine aX (j7 (lM (I:=fun x c a=>a=st/\c=(none,x)/\Srt lt key (arrOf st) lo (lo+x))
  (Q:=fun c a=>a=st/\∃ x,c=(none,x)/\1<=x/\x<=b/\Srt lt key (arrOf st) lo (lo+x)) ?step ?fin ?init) ?post)
 case init=>exact⟨rfl,rfl,d⟩
 case fin=>
  rintro c a ⟨rfl,rfl,g⟩;rw[show max m b=b by lia] at g ⊢;exact⟨rfl,b,rfl,by lia,bK _,g⟩
 case step=>
  rintro x c a r t ⟨rfl,rfl,d⟩;dsimp only;refine aX (wk e k l (by lia) (by lia) ?_);dsimp only;by_cases f:lt (key (el (arrOf a) (lo+x))) (key (el (arrOf a) (lo+x-1)))=true
  ·rw[aK f];exact bD ⟨rfl,x,rfl,by lia,by lia,d⟩
  ·rw[aJ f];exact bD ⟨rfl,rfl,d.more e.o (by lia) (HB f)⟩
 case post=>
  rintro c a ⟨rfl,x,rfl,i,j,d⟩;exact bD (h x i j d)
theorem KH{st:SortSt}{i j:Nat}{Q:Unit->SortSt->Prop}(h:Q () (setArr st (mirror (arrOf st) i j ((j-i) / 2)))):wpS M A E s (reverseSlice' i j) Q st:=by
 rw[reverseSlice'_eq];exact m9 h
theorem Aj{xs:Array Keyed}{i j:Nat}(b:j<=xs.size)(a:∀ k,i<=k->k<j->key (el xs k)=key (el xs (j-1)))(k:Nat):key (el (mirror xs i j ((j-i) / 2)) k)=key (el xs k):=by
 rw[vO b];by_cases h:i<=k/\k<j
 ·rw[aK h,a _ (by lia) (by lia),a k h.1 h.2]
 ·rw[aJ h]
theorem a0E(e:Env M A s κ key lt a₀){st:SortSt}(C:kindOf st=κ)(K:(arrOf st).Perm a₀){lo m g:Nat}(T:m+1<=g)(hz:lo+g<=a₀.size){Q:Option Nat->SortSt->Prop}(L:Fal lt key (arrOf st) lo (lo+(m+1)))
  (h:∀ n xs,xs.Perm a₀->Low xs (arrOf st) lo->1<=n->n<=g->Srt lt key xs lo (lo+n)->Q (some n) (setArr st xs)):wpS M A E s (dsl lo m g) Q st:=by
 unfold dsl;refine aX (yw (lA ⟨rfl,?_⟩))
 let Eq:Array Keyed->Nat->Nat->Prop:=fun xs x q=>∀ i,lo+x-(q+1)<=i->i<lo+x->key (el xs i)=key (el xs (lo+x-1))
 refine aX (j7 (lM (I:=fun x c u=>∃ xs q,u=setArr st xs/\c=(none,x,q)/\xs.Perm a₀/\Low xs (arrOf st) lo/\Fal lt key xs lo (lo+x)/\q+1<=x/\Eq xs x q)
  (Q:=fun c u=>∃ xs x q,u=setArr st xs/\c=(none,x,q)/\xs.Perm a₀/\Low xs (arrOf st) lo/\1<=x/\x<=g/\Fal lt key xs lo (lo+x)/\q+1<=x/\Eq xs x q) ?step ?fin ?init) ?post)
 case init=>
  refine⟨arrOf st,0,rfl,rfl,K,Low.refl,L,by lia,fun i a b=>?_⟩;have:i=lo+(m+1)-1:=by lia
  rw[this]
 case fin=>
  rintro c u ⟨xs,q,rfl,rfl,d,f,j,r,l⟩;rw[show max (m+1) g=g by lia] at j r l ⊢;exact⟨xs,g,q,rfl,rfl,d,f,by lia,bK _,j,r,l⟩
 case step=>
  rintro x c u U W ⟨xs,q,rfl,rfl,d,f,j,r,l⟩;have sz:xs.size=a₀.size:=d.size_eq;dsimp only;refine aX (wk e (st:=setArr st xs) C d (by lia) (by lia) ?_);dsimp only;show wpS M A E s _ _ (setArr st xs);by_cases w:lt (key (el xs (lo+x))) (key (el xs (lo+x-1)))=true
  ·rw[aK w];have one:∀ ys:Array Keyed,Eq ys (x+1) 0:=fun ys i a b=>by
    have:i=lo+(x+1)-1:=by lia
    rw[this]
   have F:∀ ys:Array Keyed,(∀ k,key (el ys k)=key (el xs k))->Fal lt key ys lo (lo+(x+1)):=fun ys t=>by
    have:=j.more e.o (by lia) (e.o.Mt _ _ w);intro p q z B D;rw[t,t];exact this p q z B D
   by_cases v:q>0
   ·rw[aK v];refine aX (KH (bD ⟨_,0,rfl,rfl,(Hs _ _ _ _).trans d,(rO (by show _<=xs.size;lia) (by lia)).trans f,F _ (Aj (by show _<=xs.size;lia) l),by lia,one _⟩))
   ·rw[aJ v];exact bD ⟨xs,0,rfl,rfl,d,f,F _ fun _=>rfl,by lia,one _⟩
  ·rw[aJ w];refine aX (wk e (st:=setArr st xs) C d (by lia) (by lia) ?_);dsimp only;show wpS M A E s _ _ (setArr st xs);by_cases y:lt (key (el xs (lo+x-1))) (key (el xs (lo+x)))=true
   ·rw[aK y];exact bD ⟨xs,x,q,rfl,rfl,d,f,by lia,by lia,j,r,l⟩
   ·rw[aJ y];have J:key (el xs (lo+x))=key (el xs (lo+x-1)):=e.o.anti _ _ (HB w) (HB y);refine bD ⟨xs,q+1,rfl,rfl,d,f,j.more e.o (by lia) (HB y),by lia,fun i z B=>?_⟩;rw[show lo+(x+1)-1=lo+x by lia];by_cases hi:i=lo+x
    ·rw[hi]
    ·rw[J];exact l i (by lia) (by lia)
 case post=>
  rintro c u ⟨xs,x,q,rfl,rfl,d,f,j,r,l,S,H⟩;have sz:xs.size=a₀.size:=d.size_eq;dsimp only;have fin:∀ ys:Array Keyed,ys.Perm a₀->Low ys (arrOf st) lo->(∀ k,key (el ys k)=key (el xs k))->wpS M A E s (reverseSlice' lo (lo+x) >>= fun _=>asl lo x g) Q (setArr st ys):=fun ys t N G=>by
   have X:ys.size=a₀.size:=t.size_eq;refine aX (KH ?_);show wpS M A E s _ _ (setArr st (mirror ys lo (lo+x) ((lo+x-lo) / 2)));refine a6T e (st:=setArr st (mirror ys lo (lo+x) ((lo+x-lo) / 2))) C (show(mirror ys lo (lo+x) ((lo+x-lo) / 2)).Perm a₀ from(Hs _ _ _ _).trans t) j r hz ?_ fun n O P R=>h n _ ((Hs _ _ _ _).trans t) ((rO (by lia) (bK _)).trans N) O P R
   intro p q z B D;show lt (key (el (mirror ys lo (lo+x) ((lo+x-lo) / 2)) q)) (key (el (mirror ys lo (lo+x) ((lo+x-lo) / 2)) p))=false;rw[vO (by lia),vO (by lia),aK (by lia),aK (by lia),G,G];exact l _ _ (by lia) (by lia) (by lia)
  by_cases v:q>0
  ·rw[aK v];refine aX (KH (fin _ ((Hs _ _ _ _).trans d) ((rO (by show _<=xs.size;lia) (by lia)).trans f) (Aj (by show _<=xs.size;lia) H)))
  ·rw[aJ v];exact fin xs d f fun _=>rfl
theorem a0D(e:Env M A s κ key lt a₀){st:SortSt}(r:kindOf st=κ)(j:(arrOf st).Perm a₀){lo d:Nat}(O:1<=d)(hz:lo+d<=a₀.size){Q:Option Nat->SortSt->Prop}
  (h:∀ m xs,xs.Perm a₀->Low xs (arrOf st) lo->1<=m->m<=d->Srt lt key xs lo (lo+m)->Q (some m) (setArr st xs)):wpS M A E s (countRun' lo d) Q st:=by
 rw[countRun'_eq];have sz:(arrOf st).size=a₀.size:=j.size_eq;refine aX (j7 (lM (I:=fun x c b=>b=st/\c=(none,x)/\Srt lt key (arrOf st) lo (lo+x))
  (Q:=fun c b=>b=st/\∃ x,c=(none,x)/\1<=x/\x<=d/\Srt lt key (arrOf st) lo (lo+x)/\(x<d->lt (key (el (arrOf st) (lo+x))) (key (el (arrOf st) (lo+x-1)))=true)) ?step ?fin ?init) ?post)
 case init=>exact⟨rfl,rfl,Srt.one e.o⟩
 case fin=>
  rintro c b ⟨rfl,rfl,g⟩;rw[show max 1 d=d by lia] at g ⊢;exact⟨rfl,d,rfl,by omega,bK _,g,fun a=>absurd a (oX _)⟩
 case step=>
  rintro x c b P R ⟨rfl,rfl,l⟩;dsimp only;refine aX (wk e r j (by lia) (by lia) ?_);dsimp only;by_cases f:lt (key (el (arrOf b) (lo+x))) (key (el (arrOf b) (lo+x-1)))=true
  ·rw[aK f];exact bD ⟨rfl,x,rfl,by omega,by lia,l,fun _=>f⟩
  ·rw[aJ f];exact bD ⟨rfl,rfl,l.more e.o (by omega) (HB f)⟩
 case post=>
  rintro c b ⟨rfl,x,rfl,D,F,l,K⟩;dsimp only;have C:Q (some x) b:=h x (arrOf b) j Low.refl D F l;by_cases B:x=d
  ·rw[aK (by simpa using B)];exact bD C
  ·rw[aJ (by simpa using B)];have z:=K (by lia);by_cases y:x>1
   ·rw[aK y];refine aX (wk e r j (by lia) (by lia) ?_);dsimp only;by_cases f:lt (key (el (arrOf b) lo)) (key (el (arrOf b) (lo+x-1)))=true
    ·rw[aK f];exact bD C
    ·rw[aJ f];have i:∀ k,lo<=k->k<lo+x->key (el (arrOf b) k)=key (el (arrOf b) (lo+x-1)):=fun k w J=>
      e.o.anti _ _ (e.o.tr _ _ _ (HB f) (l lo k (bK _) w J)) (l k (lo+x-1) w (by lia) (by lia))
     refine aX (KH ?_);have L:(mirror (arrOf b) lo (lo+x) ((lo+x-lo) / 2)).Perm a₀:=(Hs _ _ _ _).trans j;have N:Low (mirror (arrOf b) lo (lo+x) ((lo+x-lo) / 2)) (arrOf b) lo:=rO (by lia) (bK _);change wpS M A E s (dsl lo x d) Q _;refine a0E e (st:=setArr b (mirror (arrOf b) lo (lo+x) ((lo+x-lo) / 2))) r (show(mirror (arrOf b) lo (lo+x) ((lo+x-lo) / 2)).Perm a₀ from L) (by lia) hz ?_ fun n xs t u v G H=>h n xs t (u.trans N) v G H
     show Fal lt key (mirror (arrOf b) lo (lo+x) ((lo+x-lo) / 2)) lo (lo+(x+1));refine Fal.more e.o (by omega) (fun p q t u v=>?_) ?_
     ·rw[Aj (by lia) i,Aj (by lia) i,i p (by omega) (by lia),i q (by lia) (by omega)];exact e.o.refl _
     ·rw[Aj (by lia) i,Aj (by lia) i];exact e.o.Mt _ _ z
   ·rw[aJ y];change wpS M A E s (dsl lo x d) Q _;refine a0E e r j (by lia) hz ?_ h;have:x=1:=by lia
    subst this;refine Fal.more e.o (by omega) (fun p q t u v=>?_) (e.o.Mt _ _ z);have:p=q:=by lia
    subst this;exact e.o.refl _
theorem a6U(e:Env M A s κ key lt a₀){st:SortSt}(J:kindOf st=κ)(K:(arrOf st).Perm a₀){lo n m:Nat}(R:1<=m)(S:m<=n)(hz:lo+n<=a₀.size){Q:Bool->SortSt->Prop}(L:Srt lt key (arrOf st) lo (lo+m))
  (h:∀ xs,xs.Perm a₀->Low xs (arrOf st) lo->Srt lt key xs lo (lo+n)->Q true (setArr st xs)):wpS M A E s (binarySort' lo n m) Q st:=by
 rw[binarySort'_eq];rw[show max m 1=m by lia];refine aX (j7 (lM (I:=fun k c a=>∃ xs,a=setArr st xs/\c=(none,())/\xs.Perm a₀/\Low xs (arrOf st) lo/\Srt lt key xs lo (lo+k))
  (Q:=fun c a=>∃ xs,a=setArr st xs/\c=(none,())/\xs.Perm a₀/\Low xs (arrOf st) lo/\Srt lt key xs lo (lo+n)) ?step ?fin ?init) ?post)
 case init=>exact⟨arrOf st,rfl,rfl,K,Low.refl,L⟩
 case fin=>
  rintro c a ⟨xs,rfl,rfl,f,t,d⟩;rw[show max m n=n by lia] at d;exact⟨xs,rfl,rfl,f,t,d⟩
 case post=>
  rintro c a ⟨xs,rfl,rfl,f,t,d⟩;exact bD (h xs f t d)
 case step=>
  rintro k c a O P ⟨xs,rfl,rfl,f,t,d⟩;have sz:xs.size=a₀.size:=f.size_eq;refine aX (j7 (lM (I:=fun x c a=>a=setArr st xs/\∃ l r,c=(none,l,r)/\l<=r/\r<=k/\r-l<=k-x /\
    (∀ i,i<l->lt (key (el xs (lo+k))) (key (el xs (lo+i)))=false)/\(∀ i,r<=i->i<k->lt (key (el xs (lo+i))) (key (el xs (lo+k)))=false))
   (Q:=fun c a=>a=setArr st xs/\∃ l r,c=(none,l,r)/\l<=k /\
    (∀ i,i<l->lt (key (el xs (lo+k))) (key (el xs (lo+i)))=false)/\(∀ i,l<=i->i<k->lt (key (el xs (lo+i))) (key (el xs (lo+k)))=false)) ?is ?ie ?ii) ?ip)
  case ii=>exact⟨rfl,0,k,rfl,by lia,by lia,by lia,fun i hi=>by lia,fun i b c=>by lia⟩
  case ie=>
   rintro c a ⟨rfl,l,r,rfl,z,u,B,g,j⟩;have:l=r:=by lia
   subst this;exact⟨rfl,l,l,rfl,u,g,j⟩
  case is=>
   rintro x c a _ T ⟨rfl,l,r,rfl,z,u,B,g,j⟩;dsimp only;by_cases y:l>=r
   ·rw[aK y];have:l=r:=by lia
    subst this;exact bD ⟨rfl,l,l,rfl,u,g,j⟩
   ·rw[aJ y];refine aX (wk e (st:=setArr st xs) J f (by lia) (by lia) ?_);dsimp only;show wpS M A E s _ _ (setArr st xs);by_cases v:lt (key (el xs (lo+k))) (key (el xs (lo+(l+r) / 2)))=true
    ·rw[aK v];refine bD ⟨rfl,l,(l+r) / 2,rfl,by lia,by lia,by lia,g,fun i w F=>?_⟩;exact e.o.tr _ _ _ (e.o.Mt _ _ v) (d (lo+(l+r) / 2) (lo+i) (by lia) (by lia) (by lia))
    ·rw[aJ v];refine bD ⟨rfl,(l+r) / 2+1,r,rfl,by lia,by omega,by lia,fun i w=>?_,j⟩;exact e.o.tr _ _ _ (d (lo+i) (lo+(l+r) / 2) (by lia) (by lia) (by lia)) (HB v)
  case ip=>
   rintro c a ⟨rfl,l,r,rfl,u,g,j⟩;dsimp only;rw[moveDown'_eq];refine aX (m9 (bD ⟨_,rfl,rfl,(bubble_perm _ _ _).trans f,fun i hi=>?_,?_⟩))
   ·show el (bubble xs (lo+k) (lo+k-(lo+l))) i=_;rw[Ai (by lia) (by lia),aJ (by lia),aJ (by lia)];exact t i hi
   ·intro p q w F N;show lt (key (el (bubble xs (lo+k) (lo+k-(lo+l))) q)) (key (el (bubble xs (lo+k) (lo+k-(lo+l))) p))=false;rw[Ai (by lia) (by lia),Ai (by lia) (by lia),show lo+k-(lo+k-(lo+l))=lo+l by lia];have C:∀ i,lo<=i->i<lo+l->lt (key (el xs (lo+k))) (key (el xs i))=false:=fun i G H=>by
     have:=g (i-lo) (by lia);rwa[show lo+(i-lo)=i by lia] at this
    have D:∀ i,lo+l<=i->i<lo+k->lt (key (el xs i)) (key (el xs (lo+k)))=false:=fun i G H=>by
     have:=j (i-lo) (by lia) (by lia);rwa[show lo+(i-lo)=i by lia] at this
    repeat' split
    all_goals first
     |(exfalso;lia)
     |exact e.o.refl _
     |exact C _ (by omega) (by lia)
     |exact D _ (by lia) (by lia)
     |exact d _ _ (by lia) (by lia) (by lia)
end
end TS
end L2
namespace L2
open PySem PySem.Spec PyProof.Rows PySem.W
namespace TS
def gal:Bool->Keyed->Array Keyed->Nat->Nat->Nat->StateT SortSt Sem (Option Nat):=sortPriv% PySem.Builtin.gallop
def bey(l:Bool)(y:Keyed)(xs:Array Keyed)(i:Nat):StateT SortSt Sem (Option Bool):=do
 let x <- elem' xs i
 if l then lt' x y else return (<- lt' y x).map (!·)
theorem a5j(l:Bool)(y:Keyed)(xs:Array Keyed)(b n t:Nat):gal l y xs b n t=(do
 let mut o':=0
 let mut o:=1
 let mut p:=0
 let mut q:=0
 let some r <- bey l y xs (b+t)|return none
 if r then
  let a:=n-t
  for _ in [0:n] do
   if o>=a then break
   let some g <- bey l y xs (b+(t+o))|return none
   if !g then break
   o':=o
   o:=2*o+1
  p:=t+o'+1
  q:=t+min o a
 else
  let a:=t+1
  for _ in [0:n] do
   if o>=a then break
   let some g <- bey l y xs (b+(t-o))|return none
   if g then break
   o':=o
   o:=2*o+1
  p:=t+1-min o a
  q:=t-o'
 for _ in [0:n] do
  if p>=q then break
  let m:=p+(q-p) / 2
  let some g <- bey l y xs (b+m)|return none
  if g then p:=m+1 else q:=m
 return some q):=rfl
section
variable{α:Type}{lt:α->α->Bool}{M:Model}{A:Around}{E:Value->Shared->Prop}{s:Shared}{κ:SortKind}{key:Keyed->α}{a₀:Array Keyed}
def bv(lt:α->α->Bool)(key:Keyed->α)(l:Bool)(y x:Keyed):Bool:=if l then lt (key x) (key y) else !lt (key y) (key x)
theorem KD(e:Env M A s κ key lt a₀){st:SortSt}(a:kindOf st=κ){l:Bool}{y:Keyed}{xs:Array Keyed}{i:Nat}(c:y∈a₀.toList)(d:i<xs.size)(b:el xs i∈a₀.toList){Q:Option Bool->SortSt->Prop}(h:Q (some (bv lt key l y (el xs i))) st):wpS M A E s (bey l y xs i) Q st:=by
 unfold bey;refine aX (jg d ?_);cases l
 ·refine aX (Pq e c b a (bD ?_));exact h
 ·exact Pq e b c a h
def bsr(l:Bool)(y:Keyed)(xs:Array Keyed)(b n p q:Nat):StateT SortSt Sem (Option Nat):=do
 let mut p:=p
 let mut q:=q
 for _ in [0:n] do
  if p>=q then break
  let m:=p+(q-p) / 2
  let some g <- bey l y xs (b+m)|return none
  if g then p:=m+1 else q:=m
 return some q
theorem a0C(e:Env M A s κ key lt a₀){st:SortSt}(B:kindOf st=κ){l:Bool}{y:Keyed}{xs:Array Keyed}{b n p q:Nat}(K:y∈a₀.toList)(hz:b+n<=xs.size)(C:∀ i,i<n->el xs (b+i)∈a₀.toList)
  (mono:∀ i j,i<=j->j<n->bv lt key l y (el xs (b+j))=true->bv lt key l y (el xs (b+i))=true) {Q:Option Nat->SortSt->Prop} (G:p<=q) (H:q<=n)
  (F:∀ i,i<p->bv lt key l y (el xs (b+i))=true) (J:∀ i,q<=i->i<n->bv lt key l y (el xs (b+i))=false)
  (h:∀ k,k<=n->(∀ i,i<k->bv lt key l y (el xs (b+i))=true)->(∀ i,k<=i->i<n->bv lt key l y (el xs (b+i))=false)->Q (some k) st):wpS M A E s (bsr l y xs b n p q) Q st:=by
 unfold bsr;refine aX (j7 (lM (I:=fun x c f=>f=st/\∃ p q,c=(none,p,q)/\p<=q/\q<=n/\q-p<=n-x/\(∀ i,i<p->bv lt key l y (el xs (b+i))=true)/\(∀ i,q<=i->i<n->bv lt key l y (el xs (b+i))=false))
  (Q:=fun c f=>f=st/\∃ p q,c=(none,p,q)/\q<=n/\(∀ i,i<q->bv lt key l y (el xs (b+i))=true)/\(∀ i,q<=i->i<n->bv lt key l y (el xs (b+i))=false)) ?step ?fin ?init) ?post)
 case init=>exact⟨rfl,p,q,rfl,G,H,by lia,F,J⟩
 case fin=>
  rintro c f ⟨rfl,p,q,rfl,r,g,u,a,d⟩;have:p=q:=by lia
  subst this;exact⟨rfl,p,p,rfl,g,a,d⟩
 case post=>
  rintro c f ⟨rfl,p,q,rfl,r,a,d⟩;exact bD (h q r a d)
 case step=>
  rintro x c f _ L ⟨rfl,p,q,rfl,r,g,u,a,d⟩;dsimp only;by_cases t:p>=q
  ·rw[aK t];have:p=q:=by lia
   subst this;exact bD ⟨rfl,p,p,rfl,g,a,d⟩
  ·rw[aJ t];have v:p<=p+(q-p) / 2:=by lia
   have w:p+(q-p) / 2<q:=by lia
   generalize p+(q-p) / 2=m at v w;refine aX (KD e B K (by lia) (C _ (by lia)) ?_);dsimp only;by_cases o:bv lt key l y (el xs (b+m))=true
   ·rw[aK o];exact bD ⟨rfl,m+1,q,rfl,by lia,g,by lia,fun i hi=>mono i m (by lia) (by lia) o,d⟩
   ·rw[aJ o];refine bD ⟨rfl,p,m,rfl,by omega,by lia,by lia,a,fun i hi D=>?_⟩;cases z:bv lt key l y (el xs (b+i))
    ·rfl
    ·exact absurd (mono m i hi D z) o
theorem Bw(e:Env M A s κ key lt a₀){st:SortSt}(q:kindOf st=κ){l:Bool}{y:Keyed}{xs:Array Keyed}{b n t:Nat}(u:y∈a₀.toList)(hz:b+n<=xs.size)(r:∀ i,i<n->el xs (b+i)∈a₀.toList)(F:t<n)
  (mono:∀ i j,i<=j->j<n->bv lt key l y (el xs (b+j))=true->bv lt key l y (el xs (b+i))=true) {Q:Option Nat->SortSt->Prop}
  (h:∀ k,k<=n->(∀ i,i<k->bv lt key l y (el xs (b+i))=true)->(∀ i,k<=i->i<n->bv lt key l y (el xs (b+i))=false)->Q (some k) st):wpS M A E s (gal l y xs b n t) Q st:=by
 rw[a5j];refine aX (KD e q u (by lia) (r t F) ?_);dsimp only;have C:∀ i j,i<=j->j<n->bv lt key l y (el xs (b+i))=false->bv lt key l y (el xs (b+j))=false:=fun i j h1 h2 D=>by
  cases m:bv lt key l y (el xs (b+j))
  ·rfl
  ·rw[mono i j h1 h2 m] at D;cases D
 by_cases v:bv lt key l y (el xs (b+t))=true
 ·rw[aK v];refine aX (j7 (lM (I:=fun x c d=>d=st/\∃ o' o,c=(none,o',o)/\o'<o/\t+o'<n/\x+1<=o/\bv lt key l y (el xs (b+(t+o')))=true)
   (Q:=fun c d=>d=st/\∃ o' o,c=(none,o',o)/\o'<o/\t+o'<n/\bv lt key l y (el xs (b+(t+o')))=true/\(o<n-t->bv lt key l y (el xs (b+(t+o)))=false)) ?step ?fin ?init) ?post)
  case init=>exact⟨rfl,0,1,rfl,by lia,by omega,by lia,v⟩
  case fin=>
   rintro c d ⟨rfl,o',o,rfl,g,f,w,a⟩;exact⟨rfl,o',o,rfl,g,f,a,fun B=>by lia⟩
  case step=>
   rintro x c d _ G ⟨rfl,o',o,rfl,g,f,w,a⟩;dsimp only;by_cases p:o>=n-t
   ·rw[aK p];exact bD ⟨rfl,o',o,rfl,g,f,a,fun B=>by lia⟩
   ·rw[aJ p];refine aX (KD e q u (by lia) (r _ (by lia)) ?_);dsimp only;cases m:bv lt key l y (el xs (b+(t+o)))
    ·rw[aK (by rfl)];exact bD ⟨rfl,o',o,rfl,g,f,a,fun _=>m⟩
    ·rw[aJ (by decide)];exact bD ⟨rfl,o,2*o+1,rfl,by lia,by lia,by lia,m⟩
  case post=>
   rintro c d ⟨rfl,o',o,rfl,g,f,a,z⟩;dsimp only;change wpS M A E s (bsr l y xs b n (t+o'+1) (t+min o (n-t))) Q _;refine a0C e q u hz r mono (by lia) (by lia) (fun i hi=>mono i (t+o') (by lia) f a) (fun i h1 h2=>?_) h;exact C (t+o) i (by lia) h2 (z (by lia))
 ·rw[aJ v];refine aX (j7 (lM (I:=fun x c d=>d=st/\∃ o' o,c=(none,o',o)/\o'<o/\o'<=t/\x+1<=o/\bv lt key l y (el xs (b+(t-o')))=false)
   (Q:=fun c d=>d=st/\∃ o' o,c=(none,o',o)/\o'<o/\o'<=t/\bv lt key l y (el xs (b+(t-o')))=false/\(o<t+1->bv lt key l y (el xs (b+(t-o)))=true)) ?step ?fin ?init) ?post)
  case init=>exact⟨rfl,0,1,rfl,by lia,by lia,by lia,HB v⟩
  case fin=>
   rintro c d ⟨rfl,o',o,rfl,g,f,w,a⟩;exact⟨rfl,o',o,rfl,g,f,a,fun B=>by lia⟩
  case step=>
   rintro x c d _ G ⟨rfl,o',o,rfl,g,f,w,a⟩;dsimp only;by_cases p:o>=t+1
   ·rw[aK p];exact bD ⟨rfl,o',o,rfl,g,f,a,fun B=>by lia⟩
   ·rw[aJ p];refine aX (KD e q u (by lia) (r _ (by lia)) ?_);dsimp only;cases m:bv lt key l y (el xs (b+(t-o)))
    ·rw[aJ (by decide)];exact bD ⟨rfl,o,2*o+1,rfl,by lia,by lia,by lia,m⟩
    ·rw[aK (by rfl)];exact bD ⟨rfl,o',o,rfl,g,f,a,fun _=>m⟩
  case post=>
   rintro c d ⟨rfl,o',o,rfl,g,f,a,z⟩;dsimp only;change wpS M A E s (bsr l y xs b n (t+1-min o (t+1)) (t-o')) Q _;refine a0C e q u hz r mono (by omega) (by lia) (fun i hi=>?_) (fun i h1 h2=>C (t-o') i h1 h2 a) h;exact mono i (t-o) (by lia) (by lia) (z (by lia))
end
end TS
end L2
namespace L2
open PySem PySem.Spec PyProof.Rows PySem.W
namespace TS
abbrev cZ(st:SortSt)(g:Nat):SortSt:=SortSt.mk' (kindOf st) (arrOf st) (pendingOf st) g (failedOf st)
def mlo:Array Keyed->Array Keyed->StateT SortSt Sem (Array Keyed):=sortPriv% PySem.Builtin.mergeLo
def mhi:Array Keyed->Array Keyed->StateT SortSt Sem (Array Keyed):=sortPriv% PySem.Builtin.mergeHi
abbrev Ml:=Option (Array Keyed)×Array Keyed×Nat×Nat×Nat×Nat×Nat
def loU(a b:Array Keyed)(g c d:Nat)(o:Array Keyed)(i j:Nat):StateT SortSt Sem (ForInStep Ml):=do
 let w <- elem' a i
 if(i+1+1==a.size)=true then pure (.done (some (o.push w++b.extract j b.size++a.extract (i+1) a.size),o.push w,i+1,j,g,c,d))
 else if(decide (c<7)&&decide (d<7))=true then pure (.done (none,o.push w,i+1,j,g,c,d))
 else pure (.yield (none,o.push w,i+1,j,g,c,d))
def loT(a b:Array Keyed)(g c v:Nat)(o:Array Keyed)(i j:Nat):StateT SortSt Sem (ForInStep Ml):=do
 let w <- elem' b j
 if(j+1==b.size)=true then pure (.done (some (o.push w++a.extract i a.size++b.extract (j+1) b.size),o.push w,i,j+1,g,c,v))
 else do
  let w1 <- elem' a i
  let x <- gal true w1 b (j+1) (b.size-(j+1)) 0
  match x with
  |some d=>(if d>0 then
    (if(j+1+d==b.size)=true then pure (.done (some (o.push w++b.extract (j+1) (j+1+d)++a.extract i a.size++b.extract (j+1+d) b.size),o.push w++b.extract (j+1) (j+1+d),i,j+1+d,g,c,d))
    else loU a b g c d (o.push w++b.extract (j+1) (j+1+d)) i (j+1+d))
   else loU a b g c d (o.push w) i (j+1))
  |_=>pure (.done (some (o.push w++a.extract i a.size++b.extract (j+1) b.size),o.push w,i,j+1,g,c,v))
def loS(a b:Array Keyed)(g u v:Nat)(o:Array Keyed)(i j:Nat):StateT SortSt Sem (ForInStep Ml):=do
 modify fun s=>cZ s g
 let w <- elem' b j
 let x <- gal false w a i (a.size-i) 0
 match x with
 |some k=>(if k>0 then
   (if(i+k+1==a.size)=true then pure (.done (some (o++a.extract i (i+k)++b.extract j b.size++a.extract (i+k) a.size),o++a.extract i (i+k),i+k,j,g,k,v))
   else if(i+k==a.size)=true then pure (.done (some (o++a.extract i (i+k)++a.extract (i+k) a.size++b.extract j b.size),o++a.extract i (i+k),i+k,j,g,k,v))
   else loT a b g k v (o++a.extract i (i+k)) (i+k) j)
  else loT a b g k v o i j)
 |_=>pure (.done (some (o++a.extract i a.size++b.extract j b.size),o,i,j,g,u,v))
def loG(a b:Array Keyed)(_:Nat)(s:Ml):StateT SortSt Sem (ForInStep Ml):=
 if s.2.2.2.2.1>1 then loS a b (s.2.2.2.2.1-1) s.2.2.2.2.2.1 s.2.2.2.2.2.2 s.2.1 s.2.2.1 s.2.2.2.1 else loS a b s.2.2.2.2.1 s.2.2.2.2.2.1 s.2.2.2.2.2.2 s.2.1 s.2.2.1 s.2.2.2.1
abbrev Mk:=Option (Array Keyed)×Array Keyed×Nat×Nat×Nat×Nat
def loF(a b:Array Keyed)(g:Nat)(_:Nat)(s:Mk):StateT SortSt Sem (ForInStep Mk):=do
 let x <- lt' (<- elem' b s.2.2.2.1) (<- elem' a s.2.2.1)
 match x with
 |some w=>(if w=true then do
   let e <- elem' b s.2.2.2.1
   if(s.2.2.2.1+1==b.size)=true then pure (.done (some (s.2.1.push e++a.extract s.2.2.1 a.size++b.extract (s.2.2.2.1+1) b.size),s.2.1.push e,s.2.2.1,s.2.2.2.1+1,0,s.2.2.2.2.2+1))
   else if s.2.2.2.2.2+1>=g then pure (.done (none,s.2.1.push e,s.2.2.1,s.2.2.2.1+1,0,s.2.2.2.2.2+1))
   else pure (.yield (none,s.2.1.push e,s.2.2.1,s.2.2.2.1+1,0,s.2.2.2.2.2+1))
  else do
   let e <- elem' a s.2.2.1
   if(s.2.2.1+1+1==a.size)=true then pure (.done (some (s.2.1.push e++b.extract s.2.2.2.1 b.size++a.extract (s.2.2.1+1) a.size),s.2.1.push e,s.2.2.1+1,s.2.2.2.1,s.2.2.2.2.1+1,0))
   else if s.2.2.2.2.1+1>=g then pure (.done (none,s.2.1.push e,s.2.2.1+1,s.2.2.2.1,s.2.2.2.2.1+1,0))
   else pure (.yield (none,s.2.1.push e,s.2.2.1+1,s.2.2.2.1,s.2.2.2.2.1+1,0)))
 |_=>pure (.done (some (s.2.1++a.extract s.2.2.1 a.size++b.extract s.2.2.2.1 b.size),s.2.1,s.2.2.1,s.2.2.2.1,s.2.2.2.2.1,s.2.2.2.2.2))
abbrev Mn:=Option (Array Keyed)×Array Keyed×Nat×Nat×Nat
def loM(a b:Array Keyed)(_:Nat)(s:Mn):StateT SortSt Sem (ForInStep Mn):=do
 let c <- forIn [0:a.size+b.size] (none,s.2.1,s.2.2.1,s.2.2.2.1,0,0) (loF a b s.2.2.2.2)
 match c.1 with
 |some r=>pure (.done (some r,c.2.1,c.2.2.1,c.2.2.2.1,s.2.2.2.2))
 |none=>do
  (rule "list.sort.gallop" : Sem Unit)
  let z <- forIn [0:a.size+b.size] (none,c.2.1,c.2.2.1,c.2.2.2.1,s.2.2.2.2+1,c.2.2.2.2.1,c.2.2.2.2.2) (loG a b)
  match z.1 with
  |some r=>pure (.done (some r,z.2.1,z.2.2.1,z.2.2.2.1,z.2.2.2.2.1))
  |none=>do
   modify fun s=>cZ s (z.2.2.2.2.1+1)
   pure (.yield (none,z.2.1,z.2.2.1,z.2.2.2.1,z.2.2.2.2.1+1))
theorem a5F(a b:Array Keyed):mlo a b=(do
 (rule "list.sort.merge-lo" : Sem Unit)
 let w <- elem' b 0
 if(1==b.size)=true then pure (#[w]++a.extract 0 a.size++b.extract 1 b.size)
 else if(0+1==a.size)=true then pure (#[w]++b.extract 1 b.size++a.extract 0 a.size)
 else do
  let st <- get
  let c <- forIn [0:a.size+b.size] (none,#[w],0,1,gallopOf st) (loM a b)
  match c.1 with
  |some r=>pure r
  |none=>unsupported "internal:list.sort.merge-bound"):=by kernel_rfl
section
variable{α:Type}{lt:α->α->Bool}{M:Model}{A:Around}{E:Value->Shared->Prop}{s:Shared}{κ:SortKind}{key:Keyed->α}{a₀:Array Keyed}
structure Mg(R:Keyed->Keyed->Prop)(X Y out x y:List Keyed):Prop where
 perm:(out++(x++y)).Perm (X++Y)
 up:out.Pairwise R
 ab:∀ p∈out,∀ q∈x++y,R p q
 sx:x.Pairwise R
 sy:y.Pairwise R
variable{R:Keyed->Keyed->Prop}{X Y out x y:List Keyed}{p q:Keyed}
theorem Mg.tx(m:Mg R X Y out (p::x) y)(h:∀ q∈y,R p q):Mg R X Y (out++[p]) x y:=by
 obtain⟨h1,h2,g,d,i⟩:=m;rw[vD] at d;refine⟨by simpa using h1,?_,?_,d.2,i⟩
 ·rw[wN];refine⟨h2,a1f _ _,fun a e b c=>?_⟩;rw[dH.mp c];exact g a e p (by simp)
 ·intro a e b c;rcases dw.mp e with f|f
  ·exact g a f b (by rcases dw.mp c with w|w<;>simp[w])
  ·rw[dH.mp f];rcases dw.mp c with w|w
   ·exact d.1 b w
   ·exact h b w
theorem Mg.swap(m:Mg R X Y out x y):Mg R Y X out y x:=
 ⟨((Rv (l₁:=y) (l₂:=x)).append_left out).trans (m.perm.trans Rv),m.up,fun a c b d=>m.ab a c b (dw.mpr (dw.mp d).symm),m.sy,m.sx⟩
theorem Mg.ty(m:Mg R X Y out x (q::y))(h:∀ p∈x,R q p):Mg R X Y (out++[q]) x y:=(m.swap.tx h).swap
theorem Mg.cx:∀(c:List Keyed){out:List Keyed},Mg R X Y out (c++x) y->(∀ p∈c,∀ q∈y,R p q)->Mg R X Y (out++c) x y
 |[],out,m,_=>by simpa using m
 |p::c,out,m,h=>by
  have:=Mg.cx c (m.tx (h p eF)) fun a b=>h a (gk _ b)
  simpa using this
theorem Mg.cy(c:List Keyed)(m:Mg R X Y out x (c++y))(h:∀ p∈c,∀ q∈x,R p q):Mg R X Y (out++c) x y:=(Mg.cx c m.swap h).swap
theorem Mg.a7f(m:Mg R X Y out [] y):(out++y).Perm (X++Y)/\(out++y).Pairwise R:=
 ⟨by simpa using m.perm,wN.mpr ⟨m.up,m.sy,fun a c b d=>m.ab a c b (by simpa using d)⟩⟩
theorem Mg.a5f(m:Mg R X Y out x []):(out++x).Perm (X++Y)/\(out++x).Pairwise R:=
 ⟨by simpa using m.perm,wN.mpr ⟨m.up,m.sx,fun a c b d=>m.ab a c b (by simpa using d)⟩⟩
theorem Mg.last(m:Mg R X Y out [p] y)(h:∀ q∈y,R q p):(out++y++[p]).Perm (X++Y)/\(out++y++[p]).Pairwise R:=by
 have:=Mg.a5f (Mg.cy (y:=[]) y (by simpa using m) (fun a c b d=>by rw[dH.mp d];exact h a c));exact this
def Le(lt:α->α->Bool)(key:Keyed->α)(p q:Keyed):Prop:=lt (key q) (key p)=false
theorem Le.trans(o:lQ lt){p q r:Keyed}(h:Le lt key p q)(g:Le lt key q r):Le lt key p r:=o.tr _ _ _ h g
theorem Le.of(o:lQ lt){p q:Keyed}(h:lt (key p) (key q)=true):Le lt key p q:=o.Mt _ _ h
theorem rG{a:Array Keyed}{i:Nat}(h:i<a.size):a.toList.drop i=el a i::a.toList.drop (i+1):=by
 rw[zF (by simpa using h)];congr 1;have:=rH h;rw[jc h] at this;simpa using iD this
theorem qx{a:Array Keyed}{i:Nat}:(a.extract i a.size).toList=a.toList.drop i:=by
 rw[a1q];refine Di ?_;simp
theorem mq{a:Array Keyed}{i k:Nat}:(a.extract i (i+k)).toList=(a.toList.drop i).take k:=by
 rw[a1q,List.extract_eq_take_drop,Nat.add_sub_cancel_left]
theorem vV{a:Array Keyed}{i k:Nat}(h:i+k<=a.size){x:Keyed}(c:x∈(a.toList.drop i).take k):∃ t,t<k/\x=el a (i+t):=by
 obtain⟨t,b,e⟩:=Rx.mp c;rw[jd,vh,fu] at b;refine⟨t,by lia,?_⟩;rw[List.getElem_take,List.getElem_drop] at e;have:=rH (xs:=a) (i:=i+t) (by lia);rw[jc (by lia)] at this;rw[<- e];simpa using iD this
theorem Bt{a:Array Keyed}(h:a.toList.Pairwise (Le lt key))(o:lQ lt){i j:Nat}(f:i<=j)(d:j<a.size):Le lt key (el a i) (el a j):=by
 by_cases e:i=j
 ·subst e;exact o.refl _
 ·have:=Dg.mp h i j (by simp;lia) (by simpa using d) (by lia);have b:=rH (xs:=a) (i:=i) (by lia);have c:=rH d;rw[jc (by omega)] at b c;rw[<- iD b,<- iD c];simpa using this
theorem vJ(o:lQ lt){l:Bool}{y:Keyed}{xs:Array Keyed}{b n:Nat}(h:∀ p q,p<=q->q<n->Le lt key (el xs (b+p)) (el xs (b+q))):∀ i j,i<=j->j<n->bv lt key l y (el xs (b+j))=true->bv lt key l y (el xs (b+i))=true:=by
 intro i j e f a;have d:=h i j e f;cases l
 ·unfold bv at a ⊢;rw[aJ gC] at a ⊢;have h1:Le lt key (el xs (b+j)) y:=by
   unfold Le;cases c:lt (key y) (key (el xs (b+j)))
   ·rfl
   ·rw[c] at a;cases a
  have h2:lt (key y) (key (el xs (b+i)))=false:=d.trans o h1;rw[h2];rfl
 ·unfold bv at a ⊢;rw[aK rfl] at a ⊢;cases c:lt (key (el xs (b+i))) (key y)
  ·have h1:Le lt key y (el xs (b+i)):=c;have h2:lt (key (el xs (b+j))) (key y)=false:=h1.trans o d;rw[h2] at a;cases a
  ·rfl
theorem bvF{y x:Keyed}:bv lt key false y x=!lt (key y) (key x):=rfl
theorem bvT{y x:Keyed}:bv lt key true y x=lt (key x) (key y):=rfl
structure Two(lt:α->α->Bool)(key:Keyed->α)(a₀ a b:Array Keyed):Prop where
 ma:∀ x∈a.toList,x∈a₀.toList
 mb:∀ x∈b.toList,x∈a₀.toList
 sa:a.toList.Pairwise (Le lt key)
 sb:b.toList.Pairwise (Le lt key)
 za:1<=a.size
 zb:1<=b.size
 first:lt (key (el b 0)) (key (el a 0))=true
 last:∀ y∈b.toList,Le lt key y (el a (a.size-1))
def Res(lt:α->α->Bool)(key:Keyed->α)(a b r:Array Keyed):Prop:=r.toList.Perm (a.toList++b.toList)/\r.toList.Pairwise (Le lt key)
section lo
variable{a b o:Array Keyed}{i j k:Nat}
abbrev Lo(lt:α->α->Bool)(key:Keyed->α)(a b o:Array Keyed)(i j:Nat):Prop:=Mg (Le lt key) a.toList b.toList o.toList (a.toList.drop i) (b.toList.drop j)
theorem Lo.Jq(c:lQ lt)(m:Lo lt key a b o i j)(f:i<a.size)(g:j<b.size)(h:lt (key (el b j)) (key (el a i))=true):Lo lt key a b (o.push (el b j)) i (j+1):=by
 unfold Lo at m ⊢;rw[rG g] at m;rw[Ca];refine m.ty fun p d=>?_
 have e:=m.sx;rw[rG f] at d e;rcases dj.mp d with rfl|k
 ·exact Le.of c h
 ·exact(Le.of c h).trans c ((vD.mp e).1 p k)
theorem Lo.Ph(g:lQ lt)(m:Lo lt key a b o i j)(e:i<a.size)(f:j<b.size)(h:lt (key (el b j)) (key (el a i))=false):Lo lt key a b (o.push (el a i)) (i+1) j:=by
 unfold Lo at m ⊢;rw[rG e] at m;rw[Ca];refine m.tx fun p c=>?_
 have d:=m.sy;rw[rG f] at c d;have h':Le lt key (el a i) (el b j):=h;rcases dj.mp c with rfl|k
 ·exact h'
 ·exact h'.trans g ((vD.mp d).1 p k)
theorem Lo.Qa(r:lQ lt)(m:Lo lt key a b o i j)(f:i+k<=a.size)(g:j<b.size)(h:∀ t,t<k->bv lt key false (el b j) (el a (i+t))=true):Lo lt key a b (o++a.extract i (i+k)) (i+k) j:=by
 unfold Lo at m ⊢;rw[nP,mq];rw[<- yc k (a.toList.drop i),Lz] at m;refine m.cx _ fun p l q c=>?_
 have d:=m.sy;rw[rG g] at c d;obtain⟨t,n,rfl⟩:=vV f l;have h1:=h t n;have h':Le lt key (el a (i+t)) (el b j):=by
  unfold Le;rw[bvF] at h1;cases e:lt (key (el b j)) (key (el a (i+t)))
  ·rfl
  ·rw[e] at h1;cases h1
 rcases dj.mp c with rfl|s
 ·exact h'
 ·exact h'.trans r ((vD.mp d).1 q s)
theorem Lo.Qc(d:lQ lt)(m:Lo lt key a b o i j)(f:i<a.size)(g:j+k<=b.size)(h:∀ t,t<k->bv lt key true (el a i) (el b (j+t))=true):Lo lt key a b (o++b.extract j (j+k)) i (j+k):=by
 unfold Lo at m ⊢;rw[nP,mq];rw[<- yc k (b.toList.drop j),Lz] at m;refine m.cy _ fun p l q c=>?_
 have e:=m.sx;rw[rG f] at c e;obtain⟨t,n,rfl⟩:=vV g l;have h':Le lt key (el b (j+t)) (el a i):=Le.of d (by have:=h t n;rwa[bvT] at this);rcases dj.mp c with rfl|r
 ·exact h'
 ·exact h'.trans d ((vD.mp e).1 q r)
theorem Lo.W3(m:Lo lt key a b o i j)(c:j=b.size):Res lt key a b (o++a.extract i a.size++b.extract j b.size):=by
 unfold Lo at m;unfold Res;rw[nP,nP,qx,qx];have e:b.toList.drop j=[]:=by rw[c];simp
 rw[e] at m ⊢;rw[qT];exact m.a5f
theorem Lo.W2(m:Lo lt key a b o i j)(c:i=a.size):Res lt key a b (o++a.extract i a.size++b.extract j b.size):=by
 unfold Lo at m;unfold Res;rw[nP,nP,qx,qx];have e:a.toList.drop i=[]:=by rw[c];simp
 rw[e] at m ⊢;rw[qT];exact m.a7f
theorem Lo.nif(t:Two lt key a₀ a b)(m:Lo lt key a b o i j)(c:i+1=a.size):Res lt key a b (o++b.extract j b.size++a.extract i a.size):=by
 unfold Lo at m;unfold Res;rw[nP,nP,qx,qx];have e:a.toList.drop i=[el a i]:=by
  rw[rG (by lia),c];have:a.toList.drop a.size=[]:=by simp
  rw[this]
 rw[e] at m ⊢;refine m.last fun q d=>?_
 have:=t.last q (Ld d);rwa[show a.size-1=i by lia] at this
end lo
section
variable{a b o:Array Keyed}{st:SortSt}{i j g c d u v n:Nat}{P:ForInStep Ml->SortSt->Prop}
theorem a0K(e:Env M A s κ key lt a₀)(t:Two lt key a₀ a b)(m:Lo lt key a b o i j)(w:i+1<a.size)(h:j<b.size)(u:lt (key (el b j)) (key (el a i))=false)(x:n<=i+j)(p:∀ r v,Res lt key a b r->P (.done (some r,v)) st)
  (l:∀ o i j c d,Lo lt key a b o i j->i+1<a.size->j<b.size->n<i+j->P (.done (none,o,i,j,g,c,d)) st/\P (.yield (none,o,i,j,g,c,d)) st):wpS M A E s (loU a b g c d o i j) P st:=by
 refine aX (jg (by lia) ?_);have k:=m.Ph e.o (by lia) h u;by_cases f:i+1+1=a.size
 ·rw[aK (by simpa using f)];exact bD (p _ _ (k.nif t f))
 rw[aJ (by simpa using f)];have q:=l _ _ _ c d k (by lia) h (by lia);split
 ·exact bD q.1
 ·exact bD q.2
theorem a0J(e:Env M A s κ key lt a₀)(G:kindOf st=κ)(t:Two lt key a₀ a b)(m:Lo lt key a b o i j)(y:i+1<a.size)(z:j<b.size)(I:lt (key (el b j)) (key (el a i))=true)(K:n<=i+j)(h:∀ r J,Res lt key a b r->P (.done (some r,J)) st)
  (B:∀ o i j c d,Lo lt key a b o i j->i+1<a.size->j<b.size->n<i+j->P (.done (none,o,i,j,g,c,d)) st/\P (.yield (none,o,i,j,g,c,d)) st):wpS M A E s (loT a b g c v o i j) P st:=by
 refine aX (jg z ?_);have x:=m.Jq e.o (by lia) z I;by_cases u:j+1=b.size
 ·rw[aK (by simpa using u)];exact bD (h _ _ (x.W3 u))
 rw[aJ (by simpa using u)];refine aX (jg (by lia) (aX (Bw e (st:=st) (b:=j+1) (n:=b.size-(j+1)) (t:=0) G (t.ma _ (jX (by lia))) (by lia) (fun q L=>t.mb _ (jX (by lia))) (by lia) (vJ e.o fun p q O Q=>Bt t.sb e.o (by lia) (by lia)) ?_)));intro l N H D;dsimp only;by_cases C:l>0
 ·rw[aK C];have F:=x.Qc (k:=l) e.o (by lia) (by lia) H;by_cases w:j+1+l=b.size
  ·rw[aK (by simpa using w)];exact bD (h _ _ (F.W3 w))
  rw[aJ (by simpa using w)];have f:=D l (bK _) (by lia);rw[bvT] at f;exact a0K e t F y (by lia) f (by lia) h B
 ·rw[aJ C];have f:=D 0 (by lia) (by lia);rw[bvT] at f;exact a0K e t x y (by lia) f (by lia) h B
theorem a0I(e:Env M A s κ key lt a₀)(l:kindOf st=κ)(t:Two lt key a₀ a b)(m:Lo lt key a b o i j)(D:i+1<a.size)(f:j<b.size)(G:n<=i+j)(h:∀ r C,Res lt key a b r->P (.done (some r,C)) (cZ st g))
  (x:∀ o i j c d,Lo lt key a b o i j->i+1<a.size->j<b.size->n<i+j->P (.done (none,o,i,j,g,c,d)) (cZ st g)/\P (.yield (none,o,i,j,g,c,d)) (cZ st g)):wpS M A E s (loS a b g u v o i j) P st:=by
 refine aX (m9 (aX (jg f (aX (Bw e (st:=cZ st g) (b:=i) (n:=a.size-i) (t:=0) l (t.mb _ (jX f)) (by lia) (fun q J=>t.ma _ (jX (by lia))) (by lia) (vJ e.o fun p q L N=>Bt t.sa e.o (by lia) (by lia)) ?_)))));intro k K H I;dsimp only;have z:i+k<a.size->lt (key (el b j)) (key (el a (i+k)))=true:=fun C=>by
  have:=I k (bK _) (by lia);rw[bvF] at this;cases F:lt (key (el b j)) (key (el a (i+k)))
  ·rw[F] at this;cases this
  ·rfl
 by_cases y:k>0
 ·rw[aK y];have w:Lo lt key a b (o++a.extract i (i+k)) (i+k) j:=m.Qa e.o (by lia) (by omega) H;by_cases f1:i+k+1=a.size
  ·rw[aK (by simpa using f1)];exact bD (h _ _ (w.nif t f1))
  rw[aJ (by simpa using f1)];by_cases f2:i+k=a.size
  ·rw[aK (by simpa using f2)];exact bD (h _ _ (w.W2 f2))
  rw[aJ (by simpa using f2)];exact a0J e l t w (by lia) f (z (by lia)) (by lia) h x
 ·rw[aJ y];have B:=z (by lia);rw[show i+k=i by lia] at B;exact a0J e l t m D f B G h x
end
theorem a6W(e:Env M A s κ key lt a₀){st:SortSt}(L:kindOf st=κ){a b:Array Keyed}(t:Two lt key a₀ a b){Q:Array Keyed->SortSt->Prop}
  (h:∀ r g,Res lt key a b r->Q r (cZ st g)):wpS M A E s (mlo a b) Q st:=by
 rw[a5F];have T:∀ i,i<a.size->el a i∈a₀.toList:=fun i hi=>t.ma _ (jX hi)
 have U:∀ i,i<b.size->el b i∈a₀.toList:=fun i hi=>t.mb _ (jX hi)
 have ac:=t.za;have ad:=t.zb;have aa:∀ g,kindOf (cZ st g)=κ:=fun _=>L
 refine aX (yw (lA ⟨rfl,?_⟩));refine aX (jg (by lia) ?_);have R:Lo lt key a b #[el b 0] 0 1:=by
  have:Lo lt key a b #[] 0 0:=⟨by simp,List.Pairwise.nil,(fun p W=>by cases W),by simpa using t.sa,by simpa using t.sb⟩
  exact this.Jq e.o (by lia) (by lia) t.first
 by_cases O:1=b.size
 ·rw[aK (by simpa using O)];exact bD (h _ (gallopOf st) (R.W3 O))
 rw[aJ (by simpa using O)];by_cases P:0+1=a.size
 ·rw[aK (by simpa using P)];exact bD (h _ (gallopOf st) (R.nif t P))
 rw[aJ (by simpa using P)];refine aX (nG ?_);refine aX (j7 (lM (I:=fun x c k=>(∃ f,k=cZ st f)/\∃ o i j g,c=(none,o,i,j,g)/\Lo lt key a b o i j/\i+1<a.size/\j<b.size/\x+1<=i+j)
  (Q:=fun c k=>(∃ f,k=cZ st f)/\∃ r l,c=(some r,l)/\Res lt key a b r) ?step ?fin ?init) ?post)
 case init=>exact⟨⟨gallopOf st,rfl⟩,_,0,1,_,rfl,R,by lia,by lia,by lia⟩
 case fin=>
  rintro c k ⟨_,o,i,j,g,rfl,_,H,J,N⟩;exfalso;lia
 case post=>
  rintro c k ⟨⟨f,rfl⟩,r,l,rfl,z⟩;exact bD (h r f z)
 case step=>
  rintro x c k _ ab ⟨⟨f,rfl⟩,o,i,j,g,rfl,Y,H,J,N⟩;dsimp only[loM];refine aX (j7 (lM (I:=fun y c k=>(∃ f,k=cZ st f)/\∃ o i j u v,c=(none,o,i,j,u,v)/\Lo lt key a b o i j/\i+1<a.size/\j<b.size/\x+1+y<=i+j)
   (Q:=fun c k=>(∃ f,k=cZ st f)/\((∃ r l,c=(some r,l)/\Res lt key a b r)\/∃ o i j u v,c=(none,o,i,j,u,v)/\Lo lt key a b o i j/\i+1<a.size/\j<b.size/\x+2<=i+j)) ?s1 ?f1 ?i1) ?p1)
  case i1=>exact⟨⟨f,rfl⟩,o,i,j,0,0,rfl,Y,H,J,by omega⟩
  case f1=>
   rintro c k ⟨_,o,i,j,u,v,rfl,_,H,J,N⟩;exfalso;lia
  case s1=>
   rintro y c k _ X ⟨⟨f,rfl⟩,o,i,j,u,v,rfl,C,w,B,D⟩;dsimp only[loF];refine aX (jg (by omega) (aX (jg (by lia) (aX (Pq e (st:=cZ st f) (U j (by omega)) (T i (by lia)) L ?_)))));dsimp only;by_cases K:lt (key (el b j)) (key (el a i))=true
   ·rw[aK K];refine aX (jg (by omega) ?_);have q:=C.Jq e.o (by lia) (by omega) K;by_cases f1:j+1=b.size
    ·rw[aK (by simpa using f1)];exact bD ⟨⟨f,rfl⟩,.inl ⟨_,_,rfl,q.W3 f1⟩⟩
    ·rw[aJ (by simpa using f1)];by_cases f2:v+1>=g
     ·rw[aK f2];exact bD ⟨⟨f,rfl⟩,.inr ⟨_,_,_,_,_,rfl,q,w,by lia,by lia⟩⟩
     ·rw[aJ f2];exact bD ⟨⟨f,rfl⟩,_,_,_,_,_,rfl,q,w,by lia,by lia⟩
   ·rw[aJ K];refine aX (jg (by lia) ?_);have q:=C.Ph e.o (by lia) (by omega) (HB K);by_cases f1:i+1+1=a.size
    ·rw[aK (by simpa using f1)];exact bD ⟨⟨f,rfl⟩,.inl ⟨_,_,rfl,q.nif t f1⟩⟩
    ·rw[aJ (by simpa using f1)];by_cases f2:u+1>=g
     ·rw[aK f2];exact bD ⟨⟨f,rfl⟩,.inr ⟨_,_,_,_,_,rfl,q,by lia,by omega,by lia⟩⟩
     ·rw[aJ f2];exact bD ⟨⟨f,rfl⟩,_,_,_,_,_,rfl,q,by lia,by omega,by lia⟩
  case p1=>
   rintro c k ⟨⟨f,rfl⟩,⟨r,l,rfl,z⟩|⟨o,i,j,u,v,rfl,C,w,B,D⟩⟩
   ·exact bD ⟨⟨f,rfl⟩,r,_,rfl,z⟩
   dsimp only;refine aX (yw (lA ⟨rfl,?_⟩));refine aX (j7 (lM (I:=fun y c k=>(∃ f,k=cZ st f)/\∃ o i j g u v,c=(none,o,i,j,g,u,v)/\Lo lt key a b o i j/\i+1<a.size/\j<b.size/\x+2+y<=i+j)
    (Q:=fun c k=>(∃ f,k=cZ st f)/\((∃ r l,c=(some r,l)/\Res lt key a b r)\/∃ o i j g u v,c=(none,o,i,j,g,u,v)/\Lo lt key a b o i j/\i+1<a.size/\j<b.size/\x+2<=i+j)) ?s2 ?f2 ?i2) ?p2)
   case i2=>exact⟨⟨f,rfl⟩,o,i,j,_,u,v,rfl,C,w,B,by omega⟩
   case f2=>
    rintro c k ⟨_,o,i,j,g,u,v,rfl,_,H,J,N⟩;exfalso;lia
   case p2=>
    rintro c k ⟨⟨f,rfl⟩,⟨r,l,rfl,z⟩|⟨o,i,j,g,u,v,rfl,C,w,B,D⟩⟩
    ·exact bD ⟨⟨f,rfl⟩,r,_,rfl,z⟩
    ·exact aX (m9 (bD ⟨⟨_,rfl⟩,o,i,j,_,rfl,C,w,B,by omega⟩))
   case s2=>
    rintro y c k _ X ⟨⟨f,rfl⟩,o,i,j,g,u,v,rfl,q,w,B,D⟩;dsimp only[loG];by_cases S:g>1
    ·rw[aK S];exact a0I (n:=x+2+y) e L t q w B D (fun r l z=>⟨⟨_,rfl⟩,.inl ⟨r,l,rfl,z⟩⟩) fun o i j c d m F G Z=>⟨⟨⟨_,rfl⟩,.inr ⟨o,i,j,_,c,d,rfl,m,F,G,by lia⟩⟩,⟨_,rfl⟩,o,i,j,_,c,d,rfl,m,F,G,by lia⟩
    ·rw[aJ S];exact a0I (n:=x+2+y) e L t q w B D (fun r l z=>⟨⟨_,rfl⟩,.inl ⟨r,l,rfl,z⟩⟩) fun o i j c d m F G Z=>⟨⟨⟨_,rfl⟩,.inr ⟨o,i,j,_,c,d,rfl,m,F,G,by lia⟩⟩,⟨_,rfl⟩,o,i,j,_,c,d,rfl,m,F,G,by lia⟩
end
end TS
end L2
namespace L2
open PySem PySem.Spec PyProof.Rows PySem.W
namespace TS
section
variable{α:Type}{lt:α->α->Bool}{M:Model}{A:Around}{E:Value->Shared->Prop}{s:Shared}{κ:SortKind}{key:Keyed->α}{a₀:Array Keyed}
section hi
variable{a b o:Array Keyed}{i j k p:Nat}
theorem pH(b:1<=i)(h:i<=a.size):(a.toList.take i).reverse=el a (i-1)::(a.toList.take (i-1)).reverse:=by
 obtain⟨n,rfl⟩:∃ n,i=n+1:=⟨i-1,by lia⟩
 rw[a1A,List.take_add_one,a1u];have:=rH (xs:=a) (i:=n) (by lia);have e:a.toList[n]?=some (el a n):=by simpa using this
 rw[e];rfl
abbrev Ge(lt:α->α->Bool)(key:Keyed->α)(p q:Keyed):Prop:=Le lt key q p
abbrev Hi(lt:α->α->Bool)(key:Keyed->α)(a b o:Array Keyed)(i j:Nat):Prop:=Mg (Ge lt key) a.toList.reverse b.toList.reverse o.toList (a.toList.take i).reverse (b.toList.take j).reverse
theorem Hi.Ph(c:lQ lt)(m:Hi lt key a b o i j)(f:1<=i)(k:i<=a.size)(g:1<=j)(l:j<=b.size)(h:lt (key (el b (j-1))) (key (el a (i-1)))=true):Hi lt key a b (o.push (el a (i-1))) (i-1) j:=by
 unfold Hi at m ⊢;rw[pH f k] at m;rw[Ca];refine m.tx fun q d=>?_
 have e:=m.sy;rw[pH g l] at d e;rcases dj.mp d with rfl|n
 ·exact Le.of c h
 ·exact Le.trans c ((vD.mp e).1 q n) (Le.of c h)
theorem Hi.Jq(l:lQ lt)(m:Hi lt key a b o i j)(e:1<=i)(g:i<=a.size)(f:1<=j)(k:j<=b.size)(h:lt (key (el b (j-1))) (key (el a (i-1)))=false):Hi lt key a b (o.push (el b (j-1))) i (j-1):=by
 unfold Hi at m ⊢;rw[pH f k] at m;rw[Ca];refine m.ty fun q c=>?_
 have d:=m.sx;rw[pH e g] at c d;have h':Le lt key (el a (i-1)) (el b (j-1)):=h;rcases dj.mp c with rfl|n
 ·exact h'
 ·exact Le.trans l ((vD.mp d).1 q n) h'
theorem UJ(b:p<=i):(a.toList.take i).reverse=((a.toList.drop p).take (i-p)).reverse++(a.toList.take p).reverse:=by
 rw[<- a1u];congr 1;have:=List.take_add (l:=a.toList) (i:=p) (j:=i-p);rwa[show p+(i-p)=i by lia] at this
theorem TV(b:p<=i):((a.extract p i).reverse).toList=((a.toList.drop p).take (i-p)).reverse:=by
 rw[Lf];congr 1;have:=mq (a:=a) (i:=p) (k:=i-p);rwa[show p+(i-p)=i by lia] at this
theorem Hi.Qa(f:lQ lt)(m:Hi lt key a b o i j)(d:p<=i)(s:i<=a.size)(k:1<=j)(l:j<=b.size)(h:∀ t,p<=t->t<i->bv lt key false (el b (j-1)) (el a t)=false):Hi lt key a b (o++(a.extract p i).reverse) p j:=by
 unfold Hi at m ⊢;rw[nP,TV d];rw[UJ d] at m;refine m.cx _ fun u n q e=>?_
 have g:=m.sy;rw[pH k l] at e g;obtain⟨t,v,rfl⟩:=vV (by lia) (Lw.mp n);have h1:=h (p+t) (by lia) (by lia);have h':Le lt key (el b (j-1)) (el a (p+t)):=by
  rw[bvF] at h1;cases c:lt (key (el b (j-1))) (key (el a (p+t)))
  ·rw[c] at h1;cases h1
  ·exact Le.of f c
 rcases dj.mp e with rfl|r
 ·exact h'
 ·exact Le.trans f ((vD.mp g).1 q r) h'
theorem Hi.Qc(l:lQ lt)(m:Hi lt key a b o i j)(c:p<=j)(r:j<=b.size)(f:1<=i)(g:i<=a.size)(h:∀ t,p<=t->t<j->bv lt key true (el a (i-1)) (el b t)=false):Hi lt key a b (o++(b.extract p j).reverse) i p:=by
 unfold Hi at m ⊢;rw[nP,TV c];rw[UJ c] at m;refine m.cy _ fun u k q d=>?_
 have e:=m.sx;rw[pH f g] at d e;obtain⟨t,s,rfl⟩:=vV (by lia) (Lw.mp k);have h':Le lt key (el a (i-1)) (el b (p+t)):=by
  have:=h (p+t) (by lia) (by lia);rwa[bvT] at this
 rcases dj.mp d with rfl|n
 ·exact h'
 ·exact Le.trans l ((vD.mp e).1 q n) h'
theorem Km{l:List Keyed}{r:Array Keyed}(e:r.toList=l.reverse)(h:l.Perm (a.toList.reverse++b.toList.reverse)/\l.Pairwise (Ge lt key)):Res lt key a b r:=by
 unfold Res;rw[e];refine⟨(S5 l).trans (h.1.trans ((S5 _).append (S5 _))),Rw.mpr h.2⟩
theorem VR:(a.extract 0 i).toList=a.toList.take i:=by
 have:=mq (a:=a) (i:=0) (k:=i);rwa[Hr,Hh] at this
theorem Hi.W2(m:Hi lt key a b o i j)(c:i=0):Res lt key a b (a.extract 0 i++b.extract 0 j++o.reverse):=by
 unfold Hi at m;have e:(a.toList.take i).reverse=[]:=by rw[c];rfl
 rw[e] at m;refine Km ?_ m.a7f;rw[nP,nP,VR,VR,Lf,c];simp
theorem Hi.W3(m:Hi lt key a b o i j)(c:j=0):Res lt key a b (a.extract 0 i++b.extract 0 j++o.reverse):=by
 unfold Hi at m;have e:(b.toList.take j).reverse=[]:=by rw[c];rfl
 rw[e] at m;refine Km ?_ m.a5f;rw[nP,nP,VR,VR,Lf,c];simp
theorem Hi.nif(d:lQ lt)(t:Two lt key a₀ a b)(m:Hi lt key a b o i j)(h:j=1):Res lt key a b (b.extract 0 j++a.extract 0 i++o.reverse):=by
 unfold Hi at m;have p:=t.zb;have e:(b.toList.take j).reverse=[el b 0]:=by rw[h,pH (bK _) p];simp
 rw[e] at m;have:=m.swap.last fun q l=>show Le lt key (el b 0) q from by
  obtain⟨n,k,rfl⟩:=Rx.mp (Dp (Lw.mp l));have c:n<a.size:=by simpa using k
  have f:=rH c;rw[jc c] at f;rw[Lg,iD f];exact Le.trans d (Le.of d t.first) (Bt t.sa d (jh _) c)
 refine Km ?_ ⟨this.1.trans Rv,this.2⟩;rw[nP,nP,VR,VR,Lf];have g:b.toList.take j=[el b 0]:=by
  have:=congrArg List.reverse e;simpa using this
 rw[g];simp
end hi
abbrev Mh:=Option (Array Keyed)×Nat×Nat×Array Keyed×Nat×Nat×Nat
def hiU(a b:Array Keyed)(g c d:Nat)(o:Array Keyed)(i j:Nat):StateT SortSt Sem (ForInStep Mh):=do
 let w <- elem' a (i-1)
 if(i-1==0)=true then pure (.done (some (a.extract 0 (i-1)++b.extract 0 j++(o.push w).reverse),i-1,j,o.push w,g,c,d))
 else if(decide (c<7)&&decide (d<7))=true then pure (.done (none,i-1,j,o.push w,g,c,d))
 else pure (.yield (none,i-1,j,o.push w,g,c,d))
def hiT(a b:Array Keyed)(g c v:Nat)(o:Array Keyed)(i j:Nat):StateT SortSt Sem (ForInStep Mh):=do
 let w <- elem' b (j-1)
 if(j-1==1)=true then pure (.done (some (b.extract 0 (j-1)++a.extract 0 i++(o.push w).reverse),i,j-1,o.push w,g,c,v))
 else do
  let w1 <- elem' a (i-1)
  let x <- gal true w1 b 0 (j-1) (j-1-1)
  match x with
  |some p=>(if j-1-p>0 then
    (if(p==1)=true then pure (.done (some (b.extract 0 p++a.extract 0 i++(o.push w++(b.extract p (j-1)).reverse).reverse),i,p,o.push w++(b.extract p (j-1)).reverse,g,c,j-1-p))
    else if(p==0)=true then pure (.done (some (a.extract 0 i++b.extract 0 p++(o.push w++(b.extract p (j-1)).reverse).reverse),i,p,o.push w++(b.extract p (j-1)).reverse,g,c,j-1-p))
    else hiU a b g c (j-1-p) (o.push w++(b.extract p (j-1)).reverse) i p)
   else hiU a b g c (j-1-p) (o.push w) i (j-1))
  |_=>pure (.done (some (a.extract 0 i++b.extract 0 (j-1)++(o.push w).reverse),i,j-1,o.push w,g,c,v))
def hiS(a b:Array Keyed)(g u v:Nat)(o:Array Keyed)(i j:Nat):StateT SortSt Sem (ForInStep Mh):=do
 modify fun s=>cZ s g
 let w <- elem' b (j-1)
 let x <- gal false w a 0 i (i-1)
 match x with
 |some p=>(if i-p>0 then
   (if(p==0)=true then pure (.done (some (a.extract 0 p++b.extract 0 j++(o++(a.extract p i).reverse).reverse),p,j,o++(a.extract p i).reverse,g,i-p,v))
   else hiT a b g (i-p) v (o++(a.extract p i).reverse) p j)
  else hiT a b g (i-p) v o i j)
 |_=>pure (.done (some (a.extract 0 i++b.extract 0 j++o.reverse),i,j,o,g,u,v))
def hiG(a b:Array Keyed)(_:Nat)(s:Mh):StateT SortSt Sem (ForInStep Mh):=
 if s.2.2.2.2.1>1 then hiS a b (s.2.2.2.2.1-1) s.2.2.2.2.2.1 s.2.2.2.2.2.2 s.2.2.2.1 s.2.1 s.2.2.1 else hiS a b s.2.2.2.2.1 s.2.2.2.2.2.1 s.2.2.2.2.2.2 s.2.2.2.1 s.2.1 s.2.2.1
abbrev Mi:=Option (Array Keyed)×Nat×Nat×Array Keyed×Nat×Nat
def hiF(a b:Array Keyed)(g:Nat)(_:Nat)(s:Mi):StateT SortSt Sem (ForInStep Mi):=do
 let x <- lt' (<- elem' b (s.2.2.1-1)) (<- elem' a (s.2.1-1))
 match x with
 |some w=>(if w=true then do
   let e <- elem' a (s.2.1-1)
   if(s.2.1-1==0)=true then pure (.done (some (a.extract 0 (s.2.1-1)++b.extract 0 s.2.2.1++(s.2.2.2.1.push e).reverse),s.2.1-1,s.2.2.1,s.2.2.2.1.push e,s.2.2.2.2.1+1,0))
   else if s.2.2.2.2.1+1>=g then pure (.done (none,s.2.1-1,s.2.2.1,s.2.2.2.1.push e,s.2.2.2.2.1+1,0))
   else pure (.yield (none,s.2.1-1,s.2.2.1,s.2.2.2.1.push e,s.2.2.2.2.1+1,0))
  else do
   let e <- elem' b (s.2.2.1-1)
   if(s.2.2.1-1==1)=true then pure (.done (some (b.extract 0 (s.2.2.1-1)++a.extract 0 s.2.1++(s.2.2.2.1.push e).reverse),s.2.1,s.2.2.1-1,s.2.2.2.1.push e,0,s.2.2.2.2.2+1))
   else if s.2.2.2.2.2+1>=g then pure (.done (none,s.2.1,s.2.2.1-1,s.2.2.2.1.push e,0,s.2.2.2.2.2+1))
   else pure (.yield (none,s.2.1,s.2.2.1-1,s.2.2.2.1.push e,0,s.2.2.2.2.2+1)))
 |_=>pure (.done (some (a.extract 0 s.2.1++b.extract 0 s.2.2.1++s.2.2.2.1.reverse),s.2.1,s.2.2.1,s.2.2.2.1,s.2.2.2.2.1,s.2.2.2.2.2))
abbrev Mj:=Option (Array Keyed)×Nat×Nat×Array Keyed×Nat
def hiM(a b:Array Keyed)(_:Nat)(s:Mj):StateT SortSt Sem (ForInStep Mj):=do
 let c <- forIn [0:a.size+b.size] (none,s.2.1,s.2.2.1,s.2.2.2.1,0,0) (hiF a b s.2.2.2.2)
 match c.1 with
 |some r=>pure (.done (some r,c.2.1,c.2.2.1,c.2.2.2.1,s.2.2.2.2))
 |none=>do
  (rule "list.sort.gallop" : Sem Unit)
  let z <- forIn [0:a.size+b.size] (none,c.2.1,c.2.2.1,c.2.2.2.1,s.2.2.2.2+1,c.2.2.2.2.1,c.2.2.2.2.2) (hiG a b)
  match z.1 with
  |some r=>pure (.done (some r,z.2.1,z.2.2.1,z.2.2.2.1,z.2.2.2.2.1))
  |none=>do
   modify fun s=>cZ s (z.2.2.2.2.1+1)
   pure (.yield (none,z.2.1,z.2.2.1,z.2.2.2.1,z.2.2.2.2.1+1))
theorem a5D(a b:Array Keyed):mhi a b=(do
 (rule "list.sort.merge-hi" : Sem Unit)
 let w <- elem' a (a.size-1)
 if(a.size-1==0)=true then pure (a.extract 0 (a.size-1)++b.extract 0 b.size++#[w].reverse)
 else if(b.size==1)=true then pure (b.extract 0 b.size++a.extract 0 (a.size-1)++#[w].reverse)
 else do
  let st <- get
  let c <- forIn [0:a.size+b.size] (none,a.size-1,b.size,#[w],gallopOf st) (hiM a b)
  match c.1 with
  |some r=>pure r
  |none=>unsupported "internal:list.sort.merge-bound"):=by kernel_rfl
section
variable{a b o:Array Keyed}{st:SortSt}{i j g c d u v n:Nat}{P:ForInStep Mh->SortSt->Prop}
theorem a0H(e:Env M A s κ key lt a₀)(t:Two lt key a₀ a b)(m:Hi lt key a b o i j)(v:1<=i/\i<=a.size/\2<=j/\j<=b.size)(p:lt (key (el b (j-1))) (key (el a (i-1)))=true)(w:i+j<=n)(l:∀ r u,Res lt key a b r->P (.done (some r,u)) st)
  (k:∀ o i j c d,Hi lt key a b o i j->(1<=i/\i<=a.size/\2<=j/\j<=b.size)->i+j<n->P (.done (none,i,j,o,g,c,d)) st/\P (.yield (none,i,j,o,g,c,d)) st):wpS M A E s (hiU a b g c d o i j) P st:=by
 refine aX (jg (by lia) ?_);have h:=m.Ph e.o (by lia) (by lia) (by lia) (by lia) p;by_cases f:i-1=0
 ·rw[aK (by simpa using f)];exact bD (l _ _ (h.W2 f))
 rw[aJ (by simpa using f)];have q:=k _ _ _ c d h (by lia) (by lia);split
 ·exact bD q.1
 ·exact bD q.2
theorem a0G(e:Env M A s κ key lt a₀)(F:kindOf st=κ)(t:Two lt key a₀ a b)(m:Hi lt key a b o i j)(L:1<=i/\i<=a.size/\2<=j/\j<=b.size)(I:lt (key (el b (j-1))) (key (el a (i-1)))=false)(N:i+j<=n)(f:∀ r D,Res lt key a b r->P (.done (some r,D)) st)
  (y:∀ o i j c d,Hi lt key a b o i j->(1<=i/\i<=a.size/\2<=j/\j<=b.size)->i+j<n->P (.done (none,i,j,o,g,c,d)) st/\P (.yield (none,i,j,o,g,c,d)) st):wpS M A E s (hiT a b g c v o i j) P st:=by
 refine aX (jg (by lia) ?_);have w:=m.Jq e.o (by lia) (by lia) (by lia) (by lia) I;by_cases h:j-1=1
 ·rw[aK (by simpa using h)];exact bD (f _ _ (w.nif e.o t h))
 rw[aJ (by simpa using h)];refine aX (jg (by lia) (aX (Bw e (st:=st) (b:=0) (n:=j-1) (t:=j-1-1) F (t.ma _ (jX (by lia))) (by lia) (fun q O=>t.mb _ (jX (by lia))) (by lia) (vJ e.o fun p q R S=>Bt t.sb e.o (by lia) (by lia)) ?_)));intro l Q G H;dsimp only;have B:1<=l->lt (key (el b (l-1))) (key (el a (i-1)))=true:=fun D=>by
  have:=G (l-1) (by lia);rw[bvT,Hr] at this;exact this
 by_cases z:j-1-l>0
 ·rw[aK z];have x:=w.Qc (p:=l) e.o (by omega) (by lia) (by lia) (by lia) (fun t J K=>by have:=H t J K;rwa[Hr] at this);by_cases k:l=1
  ·rw[aK (by simpa using k)];exact bD (f _ _ (x.nif e.o t k))
  rw[aJ (by simpa using k)];by_cases u:l=0
  ·rw[aK (by simpa using u)];exact bD (f _ _ (x.W3 u))
  rw[aJ (by simpa using u)];exact a0H e t x (by lia) (B (by lia)) (by lia) f y
 ·rw[aJ z];have C:=B (by lia);rw[show l=j-1 by lia] at C;exact a0H e t w (by lia) C (by lia) f y
theorem a0F(e:Env M A s κ key lt a₀)(f:kindOf st=κ)(t:Two lt key a₀ a b)(m:Hi lt key a b o i j)(C:1<=i/\i<=a.size/\2<=j/\j<=b.size)(F:i+j<=n)(h:∀ r B,Res lt key a b r->P (.done (some r,B)) (cZ st g))
  (l:∀ o i j c d,Hi lt key a b o i j->(1<=i/\i<=a.size/\2<=j/\j<=b.size)->i+j<n->P (.done (none,i,j,o,g,c,d)) (cZ st g)/\P (.yield (none,i,j,o,g,c,d)) (cZ st g)):wpS M A E s (hiS a b g u v o i j) P st:=by
 refine aX (m9 (aX (jg (by lia) (aX (Bw e (st:=cZ st g) (b:=0) (n:=i) (t:=i-1) f (t.mb _ (jX (by lia))) (by lia) (fun q L=>t.ma _ (jX (by lia))) (by lia) (vJ e.o fun p q N O=>Bt t.sa e.o (by lia) (by lia)) ?_)))));intro k G H I;dsimp only;have x:1<=k->lt (key (el b (j-1))) (key (el a (k-1)))=false:=fun B=>by
  have:=H (k-1) (by lia);rw[bvF,Hr] at this;cases D:lt (key (el b (j-1))) (key (el a (k-1)))
  ·rfl
  ·rw[D] at this;cases this
 by_cases w:i-k>0
 ·rw[aK w];have z:=m.Qa (p:=k) e.o G (by lia) (by lia) (by lia) (fun t J K=>by have:=I t J K;rwa[Hr] at this);by_cases f1:k=0
  ·rw[aK (by simpa using f1)];exact bD (h _ _ (z.W2 f1))
  rw[aJ (by simpa using f1)];exact a0G e f t z (by lia) (x (by lia)) (by lia) h l
 ·rw[aJ w];have y:=x (by lia);rw[show k=i by lia] at y;exact a0G e f t m C y F h l
end
theorem a6V(e:Env M A s κ key lt a₀){st:SortSt}(H:kindOf st=κ){a b:Array Keyed}(t:Two lt key a₀ a b){Q:Array Keyed->SortSt->Prop}
  (h:∀ r g,Res lt key a b r->Q r (cZ st g)):wpS M A E s (mhi a b) Q st:=by
 rw[a5D];have R:∀ i,i<a.size->el a i∈a₀.toList:=fun i hi=>t.ma _ (jX hi)
 have S:∀ i,i<b.size->el b i∈a₀.toList:=fun i hi=>t.mb _ (jX hi)
 have Z:=t.za;have ac:=t.zb;have aa:∀ g,kindOf (cZ st g)=κ:=fun _=>H
 refine aX (yw (lA ⟨rfl,?_⟩));refine aX (jg (by omega) ?_);have O:Hi lt key a b #[el a (a.size-1)] (a.size-1) b.size:=by
  have:Hi lt key a b #[] a.size b.size:=by
   refine⟨?_,List.Pairwise.nil,(fun p T=>by cases T),?_,?_⟩
   ·rw[Di (by simp),Di (by simp)];exact .refl _
   ·rw[Di (by simp)];exact Rw.mpr t.sa
   ·rw[Di (by simp)];exact Rw.mpr t.sb
  unfold Hi at this ⊢;rw[pH Z (bK _)] at this;refine this.tx fun q U=>t.last q ?_
  exact Dp (Lw.mp U)
 by_cases K:a.size-1=0
 ·rw[aK (by simpa using K)];exact bD (h _ (gallopOf st) (O.W2 K))
 rw[aJ (by simpa using K)];by_cases L:b.size=1
 ·rw[aK (by simpa using L)];exact bD (h _ (gallopOf st) (O.nif e.o t L))
 rw[aJ (by simpa using L)];refine aX (nG ?_);refine aX (j7 (lM (I:=fun x c k=>(∃ f,k=cZ st f)/\∃ o i j g,c=(none,i,j,o,g)/\Hi lt key a b o i j/\(1<=i/\i<=a.size/\2<=j/\j<=b.size)/\i+j+x+1<=a.size+b.size)
  (Q:=fun c k=>(∃ f,k=cZ st f)/\∃ r l,c=(some r,l)/\Res lt key a b r) ?step ?fin ?init) ?post)
 case init=>exact⟨⟨gallopOf st,rfl⟩,_,_,_,_,rfl,O,by lia,by lia⟩
 case fin=>
  rintro c k ⟨_,o,i,j,g,rfl,_,F,J⟩;exfalso;lia
 case post=>
  rintro c k ⟨⟨f,rfl⟩,r,l,rfl,z⟩;exact bD (h r f z)
 case step=>
  rintro x c k _ ab ⟨⟨f,rfl⟩,o,i,j,g,rfl,X,F,J⟩;dsimp only[hiM];refine aX (j7 (lM (I:=fun y c k=>(∃ f,k=cZ st f)/\∃ o i j u v,c=(none,i,j,o,u,v)/\Hi lt key a b o i j/\(1<=i/\i<=a.size/\2<=j/\j<=b.size)/\i+j+x+1+y<=a.size+b.size)
   (Q:=fun c k=>(∃ f,k=cZ st f)/\((∃ r l,c=(some r,l)/\Res lt key a b r)\/∃ o i j u v,c=(none,i,j,o,u,v)/\Hi lt key a b o i j/\(1<=i/\i<=a.size/\2<=j/\j<=b.size)/\i+j+x+2<=a.size+b.size)) ?s1 ?f1 ?i1) ?p1)
  case i1=>exact⟨⟨f,rfl⟩,o,i,j,0,0,rfl,X,F,by omega⟩
  case f1=>
   rintro c k ⟨_,o,i,j,u,v,rfl,_,F,J⟩;exfalso;lia
  case s1=>
   rintro y c k _ W ⟨⟨f,rfl⟩,o,i,j,u,v,rfl,C,B,N⟩;dsimp only[hiF];refine aX (jg (by lia) (aX (jg (by lia) (aX (Pq e (st:=cZ st f) (S (j-1) (by lia)) (R (i-1) (by lia)) H ?_)))));dsimp only;by_cases G:lt (key (el b (j-1))) (key (el a (i-1)))=true
   ·rw[aK G];refine aX (jg (by lia) ?_);have w:=C.Ph e.o (by lia) (by lia) (by lia) (by lia) G;by_cases f1:i-1=0
    ·rw[aK (by simpa using f1)];exact bD ⟨⟨f,rfl⟩,.inl ⟨_,_,rfl,w.W2 f1⟩⟩
    ·rw[aJ (by simpa using f1)];by_cases f2:u+1>=g
     ·rw[aK f2];exact bD ⟨⟨f,rfl⟩,.inr ⟨_,_,_,_,_,rfl,w,by lia,by lia⟩⟩
     ·rw[aJ f2];exact bD ⟨⟨f,rfl⟩,_,_,_,_,_,rfl,w,by lia,by lia⟩
   ·rw[aJ G];refine aX (jg (by lia) ?_);have w:=C.Jq e.o (by lia) (by lia) (by lia) (by lia) (HB G);by_cases f1:j-1=1
    ·rw[aK (by simpa using f1)];exact bD ⟨⟨f,rfl⟩,.inl ⟨_,_,rfl,w.nif e.o t f1⟩⟩
    ·rw[aJ (by simpa using f1)];by_cases f2:v+1>=g
     ·rw[aK f2];exact bD ⟨⟨f,rfl⟩,.inr ⟨_,_,_,_,_,rfl,w,by lia,by lia⟩⟩
     ·rw[aJ f2];exact bD ⟨⟨f,rfl⟩,_,_,_,_,_,rfl,w,by lia,by lia⟩
  case p1=>
   rintro c k ⟨⟨f,rfl⟩,⟨r,l,rfl,z⟩|⟨o,i,j,u,v,rfl,C,B,N⟩⟩
   ·exact bD ⟨⟨f,rfl⟩,r,_,rfl,z⟩
   dsimp only;refine aX (yw (lA ⟨rfl,?_⟩));refine aX (j7 (lM (I:=fun y c k=>(∃ f,k=cZ st f)/\∃ o i j g u v,c=(none,i,j,o,g,u,v)/\Hi lt key a b o i j/\(1<=i/\i<=a.size/\2<=j/\j<=b.size)/\i+j+x+2+y<=a.size+b.size)
    (Q:=fun c k=>(∃ f,k=cZ st f)/\((∃ r l,c=(some r,l)/\Res lt key a b r)\/∃ o i j g u v,c=(none,i,j,o,g,u,v)/\Hi lt key a b o i j/\(1<=i/\i<=a.size/\2<=j/\j<=b.size)/\i+j+x+2<=a.size+b.size)) ?s2 ?f2 ?i2) ?p2)
   case i2=>exact⟨⟨f,rfl⟩,o,i,j,_,u,v,rfl,C,B,by omega⟩
   case f2=>
    rintro c k ⟨_,o,i,j,g,u,v,rfl,_,F,J⟩;exfalso;lia
   case p2=>
    rintro c k ⟨⟨f,rfl⟩,⟨r,l,rfl,z⟩|⟨o,i,j,g,u,v,rfl,C,B,N⟩⟩
    ·exact bD ⟨⟨f,rfl⟩,r,_,rfl,z⟩
    ·exact aX (m9 (bD ⟨⟨_,rfl⟩,o,i,j,_,rfl,C,B,by omega⟩))
   case s2=>
    rintro y c k _ W ⟨⟨f,rfl⟩,o,i,j,g,u,v,rfl,w,B,N⟩;dsimp only[hiG];by_cases P:g>1
    ·rw[aK P];exact a0F (n:=a.size+b.size-(x+2+y)) e H t w B (by lia) (fun r l z=>⟨⟨_,rfl⟩,.inl ⟨r,l,rfl,z⟩⟩) fun o i j c d m D Y=>⟨⟨⟨_,rfl⟩,.inr ⟨o,i,j,_,c,d,rfl,m,D,by lia⟩⟩,⟨_,rfl⟩,o,i,j,_,c,d,rfl,m,D,by lia⟩
    ·rw[aJ P];exact a0F (n:=a.size+b.size-(x+2+y)) e H t w B (by lia) (fun r l z=>⟨⟨_,rfl⟩,.inl ⟨r,l,rfl,z⟩⟩) fun o i j c d m D Y=>⟨⟨⟨_,rfl⟩,.inr ⟨o,i,j,_,c,d,rfl,m,D,by lia⟩⟩,⟨_,rfl⟩,o,i,j,_,c,d,rfl,m,D,by lia⟩
end
end TS
end L2
namespace L2
open PySem PySem.Spec PyProof.Rows PySem.W
namespace TS
theorem Qx(i:Nat):mergeAt' i=(do
 let c <- get
 let (some (p,n,w),some (q,m,_)):=((pendingOf c)[i]?,(pendingOf c)[i+1]?)|unsupported "internal:list.sort.pending"
 set (setPending c (((pendingOf c).setIfInBounds i (p,n+m,w)).eraseIdxIfInBounds (i+1)))
 let some k <- gal false (<- elem' (arrOf c) q) (arrOf c) p n 0|return false
 let (p,n):=(p+k,n-k)
 if n==0 then return true
 let some m <- gal true (<- elem' (arrOf c) (p+n-1)) (arrOf c) q m (m-1)|return false
 if m==0 then return true
 let x:=(arrOf c).extract p q
 let y:=(arrOf c).extract q (q+m)
 let r <- if n<=m then mlo x y else mhi x y
 modify fun c=>setArr c (r.toList.zipIdx.foldl (fun a (v,j)=>a.setIfInBounds (p+j) v) (arrOf c))
 return (failedOf (<- get)).isNone):=rfl
theorem bJ{b:Type}(p:Nat):∀(l:List b)(n:Nat)(xs:Array b),p+n+l.length<=xs.size ->
  ((l.zipIdx n).foldl (fun a (x:b×Nat)=>a.setIfInBounds (p+x.2) x.1) xs).toList=xs.toList.take (p+n)++l++xs.toList.drop (p+n+l.length)
 |[],n,xs,h=>by simp
 |v::l,n,xs,h=>by
  rw[List.zipIdx_cons,vG];have e:p+n+(l.length+1)<=xs.size:=h;rw[bJ p l (n+1) _ (by rw[Array.size_setIfInBounds];lia)];dsimp only;rw[a0V];have c:(xs.toList.set (p+n) v).take (p+(n+1))=xs.toList.take (p+n)++[v]:=by
   rw[<- Nat.add_assoc,List.take_add_one,List.take_set_of_le (bK _),Rr (by simp;lia)];rfl
  have d:(xs.toList.set (p+n) v).drop (p+(n+1)+l.length)=xs.toList.drop (p+n+(v::l).length):=by
   rw[List.drop_set_of_lt (by lia)];congr 1;simp;lia
  rw[c,d];simp
def over(xs:Array Keyed)(p:Nat)(r:Array Keyed):Array Keyed:=r.toList.zipIdx.foldl (fun a (x:Keyed×Nat)=>a.setIfInBounds (p+x.2) x.1) xs
theorem CT{xs r:Array Keyed}{p:Nat}(h:p+r.size<=xs.size):(over xs p r).toList=xs.toList.take p++r.toList++xs.toList.drop (p+r.size):=by
 have:=bJ p r.toList 0 xs (by simpa using h);simpa [over] using this
theorem DP{xs:Array Keyed}{i:Nat}:el xs i=xs.toList.getD i (Value.none,Value.none):=by
 unfold el;rw[qN,fM,wM]
theorem K5{xs r:Array Keyed}{p k:Nat}(h:p+r.size<=xs.size):el (over xs p r) k=if p<=k/\k<p+r.size then el r (k-p) else el xs k:=by
 rw[DP,CT h,DP,DP];simp only[fM];have a:(xs.toList.take p).length=p:=by simp;lia
 by_cases h1:k<p
 ·rw[aJ (by lia),zG,Bx (by lia),KR h1]
 ·by_cases h2:k<p+r.size
  ·rw[aK (by lia),zG,Hu (by lia),a,Bx (by simp;lia)]
  ·rw[aJ (by lia),Hu (by simp;lia)];congr 1;rw[cH,a,List.getElem?_drop,fu];congr 1;lia
theorem WQ{xs r:Array Keyed}{p:Nat}(h:p+r.size<=xs.size)(a:r.toList.Perm ((xs.toList.drop p).take r.size)):(over xs p r).Perm xs:=by
 rw[Array.perm_iff_toList_perm,CT h];have e:xs.toList=xs.toList.take p++(xs.toList.drop p).take r.size++xs.toList.drop (p+r.size):=by
  rw[<- Lz,zG,yc,yc]
 conv=>rhs;rw[e]
 exact((a.append_left _).append_right _)
theorem Yh{xs:Array Keyed}{i j t:Nat}(a:j<=xs.size)(b:t<j-i):el (xs.extract i j) t=el xs (i+t):=by
 refine qw ?_;rw[Array.getElem?_extract,aK (by lia)]
section
variable{α:Type}{lt:α->α->Bool}{M:Model}{A:Around}{E:Value->Shared->Prop}{s:Shared}{κ:SortKind}{key:Keyed->α}{a₀:Array Keyed}
theorem pw_of{a:Array Keyed}(h:∀ i j,i<j->j<a.size->Le lt key (el a i) (el a j)):a.toList.Pairwise (Le lt key):=by
 rw[Dg];intro i j hi f e;have d:j<a.size:=by simpa using f
 have b:=rH (xs:=a) (i:=i) (by omega);have c:=rH d;rw[jc (by omega)] at b c;rw[Lg,Lg,iD b,iD c];exact h i j e d
theorem a6X{zzs:Type}{x:zzs}{Q:PUnit->zzs->Prop}{st:zzs}(h:Q ⟨⟩ x):wpS M A E s (set x:StateT zzs Sem PUnit) Q st:=by
 unfold wpS;rw[StateT.run_set];exact bN ⟨rfl,h⟩
theorem a8g(e:Env M A s κ key lt a₀){st:SortSt}(ap:kindOf st=κ)(ao:failedOf st=none)(K:(arrOf st).Perm a₀){i p n w q m w':Nat}{L1 L2:List (Nat×Nat×Nat)}
  (X:(pendingOf st).toList=L1++(p,n,w)::(q,m,w')::L2) (O:L1.length=i) (aC:q=p+n) (aB:1<=n) (aA:1<=m) (hz:q+m<=a₀.size) (s1:Srt lt key (arrOf st) p (p+n)) (s2:Srt lt key (arrOf st) q (q+m)) {Q:Bool->SortSt->Prop}
  (h:∀ xs g,xs.Perm a₀->(∀ k,k<p\/q+m<=k->el xs k=el (arrOf st) k)->Srt lt key xs p (q+m)->Q true (SortSt.mk' (kindOf st) xs (L1++(p,n+m,w)::L2).toArray g (failedOf st))):wpS M A E s (mergeAt' i) Q st:=by
 rw[Qx];have sz:(arrOf st).size=a₀.size:=K.size_eq;have am:(pendingOf st)[i]?=some (p,n,w):=by
  rw[<- wM,X,Hu (by lia),O,T4];rfl
 have an:(pendingOf st)[i+1]?=some (q,m,w'):=by
  rw[<- wM,X,Hu (by lia),O,show i+1-i=1 by lia];rfl
 refine aX (nG ?_);rw[am,an];have al:((pendingOf st).setIfInBounds i (p,n+m,w)).eraseIdxIfInBounds (i+1)=(L1++(p,n+m,w)::L2).toArray:=by
  apply S9.mp;rw[Array.toList_eraseIdxIfInBounds,a0V,X];rw[List.set_append_right _ _ (by lia),O,T4,List.eraseIdx_append_of_length_le (by lia),O,show i+1-i=1 by lia];rfl
 refine aX (a6X ?_);rw[al];have R:∀ P,kindOf (setPending st P)=κ:=fun _=>ap
 have G:∀ t,t<a₀.size->el (arrOf st) t∈a₀.toList:=fun t f=>G9 K f
 refine aX (jg (by lia) (aX (Bw e (st:=setPending st _) (b:=p) (n:=n) (t:=0) (R _) (G q (by lia)) (by lia) (fun t f=>G _ (by lia)) (by lia) (vJ e.o fun u v h1 h2=>s1 _ _ (by lia) (by lia) (by lia)) ?_)));intro k aF ar as;dsimp only;have T:∀ t,p<=t->t<p+k->Le lt key (el (arrOf st) t) (el (arrOf st) q):=fun t ax ay=>by
  have:=ar (t-p) (by lia);rw[bvF,show p+(t-p)=t by lia] at this;unfold Le;cases Y:lt (key (el (arrOf st) q)) (key (el (arrOf st) t))
  ·rfl
  ·rw[Y] at this;cases this
 by_cases ac:n-k=0
 ·rw[aK (by simpa using ac)];refine bD (h (arrOf st) (gallopOf st) K (fun _ _=>rfl) fun u v h1 h2 z=>?_);by_cases B:v<p+n
  ·exact s1 u v h1 h2 B
  ·by_cases H:u<q
   ·exact Le.trans e.o (T u h1 (by lia)) (s2 q v (bK _) (by lia) z)
   ·exact s2 u v (by lia) h2 z
 rw[aJ (by simpa using ac)];have ak:p+k+(n-k)-1=q-1:=by lia
 rw[ak];refine aX (jg (by omega) (aX (Bw e (st:=setPending st _) (b:=q) (n:=m) (t:=m-1) (R _) (G (q-1) (by omega)) (by lia) (fun t f=>G _ (by lia)) (by lia) (vJ e.o fun u v h1 h2=>s2 _ _ (by lia) (by lia) (by lia)) ?_)));intro l aG au av;dsimp only;have ab:∀ t,q+l<=t->t<q+m->Le lt key (el (arrOf st) (q-1)) (el (arrOf st) t):=fun t ax ay=>by
  have:=av (t-q) (by lia) (by lia);rw[bvT,show q+(t-q)=t by lia] at this;exact this
 by_cases ad:l=0
 ·rw[aK (by simpa using ad)];refine bD (h (arrOf st) (gallopOf st) K (fun _ _=>rfl) fun u v h1 h2 z=>?_);by_cases B:v<p+n
  ·exact s1 u v h1 h2 B
  ·by_cases H:u<q
   ·exact Le.trans e.o (s1 u (q-1) h1 (by omega) (by omega)) (ab v (by lia) z)
   ·exact s2 u v (by lia) h2 z
 rw[aJ (by simpa using ad)];have ai:((arrOf st).extract (p+k) q).size=n-k:=by rw[a1B];lia
 have az:((arrOf st).extract q (q+l)).size=l:=by rw[a1B];lia
 have L:∀ t,t<n-k->el ((arrOf st).extract (p+k) q) t=el (arrOf st) (p+k+t):=fun t f=>Yh (by lia) (by lia)
 have U:∀ t,t<l->el ((arrOf st).extract q (q+l)) t=el (arrOf st) (q+t):=fun t f=>Yh (by lia) (by lia)
 have af:∀ x∈((arrOf st).extract (p+k) q).toList,∃ t,t<n-k/\x=el (arrOf st) (p+k+t):=fun x C=>by
  have J:=mq (a:=arrOf st) (i:=p+k) (k:=n-k);rw[show p+k+(n-k)=q by lia] at J;rw[J] at C;exact vV (by omega) C
 have Z:∀ x∈((arrOf st).extract q (q+l)).toList,∃ t,t<l/\x=el (arrOf st) (q+t):=fun x C=>by
  rw[mq] at C;exact vV (by lia) C
 have ah:Two lt key a₀ ((arrOf st).extract (p+k) q) ((arrOf st).extract q (q+l)):=by
  refine⟨fun x C=>?_,fun x C=>?_,pw_of fun u v h1 h2=>?_,pw_of fun u v h1 h2=>?_,by lia,by lia,?_,fun y aq=>?_⟩
  ·obtain⟨t,f,rfl⟩:=af x C;exact G _ (by lia)
  ·obtain⟨t,f,rfl⟩:=Z x C;exact G _ (by lia)
  ·rw[L u (by lia),L v (by lia)];exact s1 _ _ (by lia) (by lia) (by omega)
  ·rw[U u (by lia),U v (by lia)];exact s2 _ _ (by lia) (by lia) (by lia)
  ·rw[L 0 (by lia),U 0 (by lia)];have:=as k (bK _) (by lia);rw[bvF] at this;rw[T5,T5];cases Y:lt (key (el (arrOf st) q)) (key (el (arrOf st) (p+k)))
   ·rw[Y] at this;cases this
   ·rfl
  ·obtain⟨t,f,rfl⟩:=Z y aq;rw[ai,L _ (by lia),show p+k+(n-k-1)=q-1 by lia];have:=au t (by omega);rw[bvT] at this;exact Le.of e.o this
 have done:∀ r g,Res lt key ((arrOf st).extract (p+k) q) ((arrOf st).extract q (q+l)) r->wpS M A E s (do modify fun c=>setArr c (r.toList.zipIdx.foldl (fun a (v,j)=>a.setIfInBounds (p+k+j) v) (arrOf c));return (failedOf (<- get)).isNone) Q (cZ (setPending st (L1++(p,n+m,w)::L2).toArray) g):=fun r g D=>by
  refine aX (m9 (aX (nG ?_)));have aj:(failedOf (setArr (cZ (setPending st (L1++(p,n+m,w)::L2).toArray) g) (over (arrOf st) (p+k) r))).isNone=true:=by
   show(failedOf st).isNone=true;rw[ao];rfl
  change wpS M A E s (pure (failedOf (setArr (cZ (setPending st (L1++(p,n+m,w)::L2).toArray) g) (over (arrOf st) (p+k) r))).isNone) Q (setArr (cZ (setPending st (L1++(p,n+m,w)::L2).toArray) g) (over (arrOf st) (p+k) r));rw[aj];have aw:r.size=n-k+l:=by
   have:=D.1.length_eq;rw[cH,fu,fu,fu,ai,az] at this;exact this
  have N:p+k+r.size<=(arrOf st).size:=by lia
  have pm:(over (arrOf st) (p+k) r).Perm a₀:=by
   refine(WQ N (D.1.trans ?_)).trans K;have J:=mq (a:=arrOf st) (i:=p+k) (k:=n-k);rw[show p+k+(n-k)=q by lia] at J;rw[J,mq,aw,List.take_add,Lz,show p+k+(n-k)=q by lia]
  have ag:∀ t,t<r.size->(∃ d,p+k<=d/\d<q/\el r t=el (arrOf st) d)\/(∃ d,q<=d/\d<q+l/\el r t=el (arrOf st) d):=fun t f=>by
   rcases dw.mp (D.1.mem_iff.mp (jX f)) with aa|aa
   ·obtain⟨u,H,W⟩:=af _ aa;exact .inl ⟨p+k+u,by lia,by lia,W⟩
   ·obtain⟨u,H,W⟩:=Z _ aa;exact .inr ⟨q+u,by lia,by lia,W⟩
  refine bD (h (over (arrOf st) (p+k) r) g pm (fun t f=>?_) fun u v h1 h2 z=>?_)
  ·rw[K5 N,aJ (by lia)]
  ·show Le lt key (el (over (arrOf st) (p+k) r) u) (el (over (arrOf st) (p+k) r) v);rw[K5 N,K5 N];by_cases H:u<p+k
   ·rw[aJ (by lia)];by_cases B:p+k<=v/\v<p+k+r.size
    ·rw[aK B];rcases ag (v-(p+k)) (by lia) with⟨d,I,S,F⟩|⟨d,I,S,F⟩
     ·rw[F];exact s1 _ _ h1 (by lia) (by lia)
     ·rw[F];exact Le.trans e.o (T u h1 H) (s2 _ _ (bK _) I (by lia))
    ·rw[aJ B];by_cases aE:v<p+k
     ·exact s1 _ _ h1 h2 (by lia)
     ·exact Le.trans e.o (T u h1 H) (s2 _ _ (bK _) (by lia) z)
   ·by_cases aD:u<p+k+r.size
    ·rw[aK (by lia)];by_cases B:p+k<=v/\v<p+k+r.size
     ·rw[aK B];exact Bt D.2 e.o (by lia) (by lia)
     ·rw[aJ B];rcases ag (u-(p+k)) (by lia) with⟨d,I,S,F⟩|⟨d,I,S,F⟩
      ·rw[F];exact Le.trans e.o (s1 d (q-1) (by lia) (by lia) (by lia)) (ab v (by lia) z)
      ·rw[F];exact s2 _ _ I (by lia) z
    ·rw[aJ (by lia),aJ (by lia)];exact s2 _ _ (by lia) h2 z
 by_cases ae:n-k<=l
 ·rw[aK ae];exact aX (a6W e (st:=setPending st _) (R _) ah fun r g D=>done r g D)
 ·rw[aJ ae];exact aX (a6V e (st:=setPending st _) (R _) ah fun r g D=>done r g D)
end
end TS
end L2
namespace L2
open PySem PySem.Spec PyProof.Rows PySem.W
namespace TS
section
variable{α:Type}{lt:α->α->Bool}{M:Model}{A:Around}{E:Value->Shared->Prop}{s:Shared}{κ:SortKind}{key:Keyed->α}{a₀:Array Keyed}
def Runs(lt:α->α->Bool)(key:Keyed->α)(xs:Array Keyed):Nat->List (Nat×Nat×Nat)->Nat->Prop
 |a,[],b=>a=b
 |a,r::l,b=>r.1=a/\1<=r.2.1/\Srt lt key xs a (a+r.2.1)/\Runs lt key xs (a+r.2.1) l b
theorem Runs.le{xs:Array Keyed}:∀ {l:List (Nat×Nat×Nat)} {a b:Nat},Runs lt key xs a l b->a+l.length<=b
 |[],a,b,h=>by cases h;simp
 |r::l,a,b,h=>by
  have:=Runs.le h.2.2.2;have:=h.2.1;simp;lia
theorem Runs.congr{xs c:Array Keyed}:∀ {l:List (Nat×Nat×Nat)} {a b:Nat},Runs lt key xs a l b->(∀ k,a<=k->k<b->el c k=el xs k)->Runs lt key c a l b
 |[],a,b,h,_=>h
 |r::l,a,b,h,e=>by
  have f:=h.2.2.2.le;refine⟨h.1,h.2.1,fun p q h1 h2 d=>?_,Runs.congr h.2.2.2 fun k h1 h2=>e k (by lia) h2⟩;rw[e p (by omega) (by lia),e q (by lia) (by lia)];exact h.2.2.1 p q h1 h2 d
theorem Runs.app{xs:Array Keyed}:∀ {l d:List (Nat×Nat×Nat)} {a b:Nat},Runs lt key xs a (l++d) b↔∃ c,Runs lt key xs a l c/\Runs lt key xs c d b
 |[],d,a,b=>⟨fun h=>⟨a,rfl,h⟩,fun⟨c,h1,h2⟩=>by cases h1;exact h2⟩
 |r::l,d,a,b=>by
  constructor
  ·intro h;obtain⟨c,h1,h2⟩:=Runs.app.mp h.2.2.2;exact⟨c,⟨h.1,h.2.1,h.2.2.1,h1⟩,h2⟩
  ·rintro⟨c,⟨h1,h2,e,f⟩,g⟩;exact⟨h1,h2,e,Runs.app.mpr ⟨c,f,g⟩⟩
abbrev mkS(st:SortSt)(xs:Array Keyed)(L:List (Nat×Nat×Nat))(g:Nat):SortSt:=SortSt.mk' (kindOf st) xs L.toArray g (failedOf st)
theorem Rk(e:Env M A s κ key lt a₀){st:SortSt}(d:kindOf st=κ)(F:failedOf st=none){xs:Array Keyed}(H:xs.Perm a₀){a:List (Nat×Nat×Nat)}{g i lo:Nat}(O:i+1<a.length)(C:Runs lt key xs 0 a lo)(hz:lo<=a₀.size){Q:Bool->SortSt->Prop}
  (h:∀ f j g',f.Perm a₀->Runs lt key f 0 j lo->j.length+1=a.length->(∀ k,lo<=k->el f k=el xs k)->Q true (mkS st f j g')):wpS M A E s (mergeAt' i) Q (mkS st xs a g):=by
 have b:a=a.take i++(a[i]::a[i+1]::a.drop (i+2)):=by
  rw[<- zF,<- zF,yc]
 generalize P:a[i]=x at b;generalize R:a[i+1]=y at b;generalize h1:a.take i=L1 at b;generalize h2:a.drop (i+2)=L2 at b;obtain⟨p,n,w⟩:=x;obtain⟨q,m,N⟩:=y;have G:L1.length=i:=by rw[<- h1,jd];lia
 rw[b] at C;obtain⟨c,D,L⟩:=Runs.app.mp C;obtain⟨r,t,u,v,z,B,o⟩:=L;dsimp only at r t u v z B o;subst r;subst v;have S:=D.le;have T:=o.le;refine a8g e (st:=mkS st xs a g) (L1:=L1) (L2:=L2) (p:=p) (n:=n) (w:=w) (q:=p+n) (m:=m) (w':=N) d F H (by show a.toArray.toList=_;rw[List.toList_toArray];exact b) G rfl t z (by lia) u B ?_;intro ys g' I J K;have l:∀ k,k<p\/p+n+m<=k->el ys k=el xs k:=J;refine h ys _ g' I (Runs.app.mpr ⟨p,D.congr fun k _ d=>l k (.inl d),rfl,(show 1<=n+m by lia),?_,?_⟩) ?_ fun k d=>l k (.inr (by lia))
 ·have:p+(n+m)=p+n+m:=by lia
  show Srt lt key ys p (p+(n+m));rw[this];exact K
 ·show Runs lt key ys (p+(n+m)) L2 lo;have:p+(n+m)=p+n+m:=by lia
  rw[this];exact o.congr fun k d _=>l k (.inr d)
 ·rw[b];simp;lia
theorem Runs.modify{xs:Array Keyed}{f:Nat×Nat×Nat->Nat×Nat×Nat}(c:∀ x,(f x).1=x.1)(d:∀ x,(f x).2.1=x.2.1):∀ {l:List (Nat×Nat×Nat)} {k a b:Nat},Runs lt key xs a l b->Runs lt key xs a (l.modify k f) b
 |[],k,a,b,h=>by simpa using h
 |r::l,0,a,b,h=>by
  rw[List.modify_zero_cons];unfold Runs at h ⊢;rw[c,d];exact h
 |r::l,k+1,a,b,h=>by
  rw[List.modify_succ_cons];exact⟨h.1,h.2.1,h.2.2.1,Runs.modify c d h.2.2.2⟩
theorem a3S(e:Env M A s κ key lt a₀){st:SortSt}(m:kindOf st=κ)(X:failedOf st=none)(ai:arrOf st=a₀)(ao:pendingOf st=#[]){Q:Unit->SortSt->Prop}
  (h:∀ i,(arrOf i).Perm a₀->failedOf i=none->Srt lt key (arrOf i) 0 a₀.size->Q () i):wpS M A E s sortRuns' Q st:=by
 rw[sortRuns'_eq];refine aX (nG ?_);rw[ai];dsimp only;generalize minRun' a₀.size a₀.size 0=mr;refine aX (j7 (lM (I:=fun x c i=>∃ xs b g lo,i=mkS st xs b g/\c=(none,lo)/\xs.Perm a₀/\Runs lt key xs 0 b lo/\lo<=a₀.size/\(x<=lo\/lo=a₀.size))
  (Q:=fun c i=>∃ xs b g,i=mkS st xs b g/\c=(none,a₀.size)/\xs.Perm a₀/\Runs lt key xs 0 b a₀.size) ?step ?fin ?init) ?post)
 case init=>
  refine⟨a₀,[],gallopOf st,0,?_,rfl,.refl _,rfl,by lia,.inl (bK _)⟩;show st=SortSt.mk' (kindOf st) a₀ #[] (gallopOf st) (failedOf st);rw[<- ai,<- ao]
 case fin=>
  rintro c i ⟨xs,b,g,lo,rfl,rfl,o,j,O,al⟩;have:lo=a₀.size:=by lia
  subst this;exact⟨xs,b,g,rfl,rfl,o,j⟩
 case step=>
  rintro x c i _ aq ⟨xs,b,g,lo,rfl,rfl,o,j,O,al⟩;dsimp only;by_cases aj:lo>=a₀.size
  ·rw[aK aj];have:lo=a₀.size:=by lia
   subst this;exact bD ⟨xs,b,g,rfl,rfl,o,j⟩
  rw[aJ aj];refine aX (a0D e (st:=mkS st xs b g) m o (by lia) (by lia) ?_);intro n ys p1 p2 af ar ag;dsimp only;have F:Low ys xs lo:=p2;by_cases Y:n<mr
  ·rw[aK Y];refine aX (yw (lA ⟨rfl,?_⟩));refine aX (a6U e (st:=mkS st ys b g) m p1 af (by lia) (by lia) ag fun zs J ak W=>?_);rw[aJ (by decide)];have U:1<=min (a₀.size-lo) mr:=by lia
   have K:lo+min (a₀.size-lo) mr<=a₀.size:=by lia
   have L:Runs lt key zs 0 b lo:=j.congr fun k _ m=>(ak.trans F) k m
   show wpS M A E s _ _ (mkS st zs b g);clear p2 F ag ak Y af ar p1;generalize min (a₀.size-lo) mr=n at U K W ⊢;have snoc:∀(ys:Array Keyed)(a:List (Nat×Nat×Nat)),Runs lt key ys 0 a lo->(∀ k,lo<=k->el ys k=el zs k)->Runs lt key ys 0 (a++[(lo,n,0)]) (lo+n):=fun ys a F R=>
    Runs.app.mpr ⟨lo,F,rfl,U,fun p q h1 h2 ad=>by rw[R p h1,R q (by lia)];exact W p q h1 h2 ad,rfl⟩
   have T:∀(ys:Array Keyed)(a:List (Nat×Nat×Nat))(d:Nat),setPending (mkS st ys a d) ((pendingOf (mkS st ys a d)).push (lo,n,0))=mkS st ys (a++[(lo,n,0)]) d:=fun ys a d=>by
    show SortSt.mk' _ _ (a.toArray.push (lo,n,0)) _ _=_;rw[List.push_toArray]
   refine aX (nG ?_);have G:∀(ys:Array Keyed)(a:List (Nat×Nat×Nat))(d:Nat),pendingOf (mkS st ys a d)=a.toArray:=fun _ _ _=>rfl
   rw[G];cases ap:b.toArray.back? with
   |none=>
    dsimp only;refine aX (m9 (bD ?_));rw[T];exact⟨zs,_,g,lo+n,rfl,rfl,J,snoc zs b L (fun _ _=>rfl),K,.inl (by lia)⟩
   |some H=>
    obtain⟨u,v,w⟩:=H;dsimp only;refine aX (j7 (lM (I:=fun x c i=>∃ ys a d,i=mkS st ys a d/\c=(none,())/\ys.Perm a₀/\Runs lt key ys 0 a lo/\(∀ k,lo<=k->el ys k=el zs k))
     (Q:=fun c i=>∃ ys a d,i=mkS st ys a d/\c=(none,())/\ys.Perm a₀/\Runs lt key ys 0 a lo/\(∀ k,lo<=k->el ys k=el zs k)) ?sti (fun _ _ H=>H) ⟨zs,b,g,rfl,rfl,J,L,fun _ _=>rfl⟩) ?poi)
    case sti=>
     rintro y c i _ F ⟨ys,a,d,rfl,rfl,z,B,C⟩;refine aX (nG ?_);rw[G,dX];by_cases D:a.length>1
     ·rw[aK D,BK,fY (by lia)];generalize a[a.length-2]=t;obtain⟨as,au,ah⟩:=t;dsimp only;by_cases S:ah<=power' a₀.size (2*u+v) (2*u+v+v+n) a₀.size
      ·rw[aK S];exact bD ⟨ys,a,d,rfl,rfl,z,B,C⟩
      ·rw[aJ S];refine aX (Rk e m X z (by lia) B (by omega) fun zs N P Z aa am ab=>?_);exact bD ⟨zs,N,P,rfl,rfl,Z,aa,fun k m=>(ab k m).trans (C k m)⟩
     ·rw[aJ D];exact bD ⟨ys,a,d,rfl,rfl,z,B,C⟩
    case poi=>
     rintro c i ⟨ys,a,d,rfl,rfl,z,B,C⟩;dsimp only;refine aX (m9 (aX (m9 (bD ?_))));generalize power' a₀.size (2*u+v) (2*u+v+v+n) a₀.size=pw;have ac:setPending (mkS st ys a d) ((pendingOf (mkS st ys a d)).modify ((pendingOf (mkS st ys a d)).size-1) fun x=>(x.1,x.2.1,pw))=mkS st ys (a.modify (a.length-1) fun x=>(x.1,x.2.1,pw)) d:=by
      show SortSt.mk' _ _ (a.toArray.modify (a.toArray.size-1) fun x=>(x.1,x.2.1,pw)) _ _=_;rw[a1v,dX]
     rw[ac,T];exact⟨ys,_,d,lo+n,rfl,rfl,z,snoc ys _ (Runs.modify (f:=fun x=>(x.1,x.2.1,pw)) (fun _=>rfl) (fun _=>rfl) B) C,K,.inl (by lia)⟩
  ·rw[aJ Y];have L:Runs lt key ys 0 b lo:=j.congr fun k _ m=>F k m
   have K:lo+n<=a₀.size:=by lia
   show wpS M A E s _ _ (mkS st ys b g);clear Y F p2;have W:=ag;have U:=af;have J:=p1;generalize ys=zs at J U W L ⊢;have snoc:∀(ys:Array Keyed)(a:List (Nat×Nat×Nat)),Runs lt key ys 0 a lo->(∀ k,lo<=k->el ys k=el zs k)->Runs lt key ys 0 (a++[(lo,n,0)]) (lo+n):=fun ys a F R=>
    Runs.app.mpr ⟨lo,F,rfl,U,fun p q h1 h2 ad=>by rw[R p h1,R q (by lia)];exact W p q h1 h2 ad,rfl⟩
   have T:∀(ys:Array Keyed)(a:List (Nat×Nat×Nat))(d:Nat),setPending (mkS st ys a d) ((pendingOf (mkS st ys a d)).push (lo,n,0))=mkS st ys (a++[(lo,n,0)]) d:=fun ys a d=>by
    show SortSt.mk' _ _ (a.toArray.push (lo,n,0)) _ _=_;rw[List.push_toArray]
   refine aX (nG ?_);have G:∀(ys:Array Keyed)(a:List (Nat×Nat×Nat))(d:Nat),pendingOf (mkS st ys a d)=a.toArray:=fun _ _ _=>rfl
   rw[G];cases ap:b.toArray.back? with
   |none=>
    dsimp only;refine aX (m9 (bD ?_));rw[T];exact⟨zs,_,g,lo+n,rfl,rfl,J,snoc zs b L (fun _ _=>rfl),K,.inl (by lia)⟩
   |some H=>
    obtain⟨u,v,w⟩:=H;dsimp only;refine aX (j7 (lM (I:=fun x c i=>∃ ys a d,i=mkS st ys a d/\c=(none,())/\ys.Perm a₀/\Runs lt key ys 0 a lo/\(∀ k,lo<=k->el ys k=el zs k))
     (Q:=fun c i=>∃ ys a d,i=mkS st ys a d/\c=(none,())/\ys.Perm a₀/\Runs lt key ys 0 a lo/\(∀ k,lo<=k->el ys k=el zs k)) ?sti (fun _ _ H=>H) ⟨zs,b,g,rfl,rfl,J,L,fun _ _=>rfl⟩) ?poi)
    case sti=>
     rintro y c i _ F ⟨ys,a,d,rfl,rfl,z,B,C⟩;refine aX (nG ?_);rw[G,dX];by_cases D:a.length>1
     ·rw[aK D,BK,fY (by lia)];generalize a[a.length-2]=t;obtain⟨as,au,ah⟩:=t;dsimp only;by_cases S:ah<=power' a₀.size (2*u+v) (2*u+v+v+n) a₀.size
      ·rw[aK S];exact bD ⟨ys,a,d,rfl,rfl,z,B,C⟩
      ·rw[aJ S];refine aX (Rk e m X z (by lia) B (by omega) fun zs N P Z aa am ab=>?_);exact bD ⟨zs,N,P,rfl,rfl,Z,aa,fun k m=>(ab k m).trans (C k m)⟩
     ·rw[aJ D];exact bD ⟨ys,a,d,rfl,rfl,z,B,C⟩
    case poi=>
     rintro c i ⟨ys,a,d,rfl,rfl,z,B,C⟩;dsimp only;refine aX (m9 (aX (m9 (bD ?_))));generalize power' a₀.size (2*u+v) (2*u+v+v+n) a₀.size=pw;have ac:setPending (mkS st ys a d) ((pendingOf (mkS st ys a d)).modify ((pendingOf (mkS st ys a d)).size-1) fun x=>(x.1,x.2.1,pw))=mkS st ys (a.modify (a.length-1) fun x=>(x.1,x.2.1,pw)) d:=by
      show SortSt.mk' _ _ (a.toArray.modify (a.toArray.size-1) fun x=>(x.1,x.2.1,pw)) _ _=_;rw[a1v,dX]
     rw[ac,T];exact⟨ys,_,d,lo+n,rfl,rfl,z,snoc ys _ (Runs.modify (f:=fun x=>(x.1,x.2.1,pw)) (fun _=>rfl) (fun _=>rfl) B) C,K,.inl (by lia)⟩
 case post=>
  rintro c i ⟨xs,b,g,rfl,rfl,o,j⟩;dsimp only;have one:∀(xs:Array Keyed)(b:List (Nat×Nat×Nat)),b.length<=1->Runs lt key xs 0 b a₀.size->Srt lt key xs 0 a₀.size:=fun xs b D ae=>by
   cases b with
   |nil=>
    have:0=a₀.size:=ae;intro p q _ _ aw;lia
   |cons r l=>
    cases l with
    |nil=>
     have an:0+r.2.1=a₀.size:=ae.2.2.2;have:=ae.2.2.1;rwa[an] at this
    |cons _ _=>simp at D
  refine aX (j7 (lM (I:=fun x c i=>∃ xs b g,i=mkS st xs b g/\c=(none,())/\xs.Perm a₀/\Runs lt key xs 0 b a₀.size/\b.length+x<=a₀.size)
   (Q:=fun c i=>∃ xs b g,i=mkS st xs b g/\c=(none,())/\xs.Perm a₀/\Runs lt key xs 0 b a₀.size/\b.length<=1) ?st2 ?fi2 ?in2) ?po2)
  case in2=>
   have:=j.le;exact⟨xs,b,g,rfl,rfl,o,j,by lia⟩
  case fi2=>
   rintro c i ⟨xs,b,g,rfl,rfl,o,j,O⟩;exact⟨xs,b,g,rfl,rfl,o,j,by lia⟩
  case po2=>
   rintro c i ⟨xs,b,g,rfl,rfl,o,j,O⟩;exact bD (h _ o X (one xs b O j))
  case st2=>
   rintro x c i _ aq ⟨xs,b,g,rfl,rfl,o,j,O⟩;refine aX (nG ?_);have G:pendingOf (mkS st xs b g)=b.toArray:=rfl;rw[G,dX];by_cases D:b.length<=1
   ·rw[aK D];exact bD ⟨xs,b,g,rfl,rfl,o,j,D⟩
   ·rw[aJ D];have hi:∀ c:Prop,[Decidable c]->(if c then b.length-2-1 else b.length-2)+1<b.length:=fun c _=>by split<;>lia
    refine aX (Rk e m X o (hi _) j (bK _) fun zs N P z B C av=>?_);exact bD ⟨zs,N,P,rfl,rfl,z,B,by lia⟩
end
end TS
end L2
namespace L2
open PySem PySem.Spec PyProof.Rows PySem.W
theorem WT{j k:Type}{g:j->k}{l m:List k}(h:l.Perm m):∀ r:List j,m=r.map g->∃ f:List j,f.Perm r/\l=f.map g:=by
 induction h with
 |nil=>intro r e;exact⟨[],by cases r<;>simp_all,rfl⟩
 |@cons x l m _ n=>
  intro r e;cases r with
  |nil=>simp at e
  |cons a r=>
   rw[gq] at e;injection e with d c;obtain⟨f,p,i⟩:=n r c;exact⟨a::f,p.cons a,by rw[gq,<- d,<- i]⟩
 |swap x y l=>
  intro r e
  match r,e with
  |a::b::r,e=>
   rw[gq,gq] at e;injection e with d c;injection c with c i;exact⟨b::a::r,.swap _ _ _,by rw[gq,gq,<- d,<- c,<- i]⟩
 |trans _ _ o q=>
  intro r e;obtain⟨t,p2,c⟩:=q r e;obtain⟨s,p1,d⟩:=o t c;exact⟨s,p1.trans p2,d⟩
section
variable{prog:Program}{w:World}{A:Around}{E:Value->Shared->Prop}{s:Shared}{α:Type}
structure Ma(prog:Program)(w:World)(h:Heap)(vs:List Value)(lt:α->α->Bool)(f:Nat->α):Prop where
 ex:2<=vs.length->∃ κ:SortKind,(∀(A':Around)(E':Value->Shared->Prop)(s':Shared)(Q':SortKind->Shared->Prop),Keeps h s'.heap->Q' κ s'->wpAny (model prog w) A' (keyKind' vs.toArray) Q' E' s') /\
  ∀(A':Around)(s':Shared)(i j:Nat)(C:Bool->Shared->Prop),A'.units+2<cLine->Keeps h s'.heap->i<vs.length->j<vs.length->C (lt (f i) (f j)) s'->wpAny (model prog w) A' (keyLt' κ (vs.getD i Value.none) (vs.getD j Value.none)) C (fun _ _=>False) s'
def byP(vs:List Value)(p:Array Nat):List Value:=p.toList.map fun i=>vs.getD i Value.none
def wV(vs:List Value)(f:Nat->α):Prop:=∀ i j,i<vs.length->j<vs.length->vs.getD i Value.none=vs.getD j Value.none->f i=f j
open Classical in
noncomputable def a5s(vs:List Value)(f:Nat->α)(x:Keyed):α:=f (Classical.epsilon fun i=>i<vs.length/\vs.getD i Value.none=x.1)
theorem DX{vs:List Value}{f:Nat->α}(b:wV vs f){i:Nat}(a:i<vs.length){v:Value}:a5s vs f (vs.getD i Value.none,v)=f i:=by
 unfold a5s;have h:=Classical.epsilon_spec (p:=fun j=>j<vs.length/\vs.getD j Value.none=vs.getD i Value.none) ⟨i,a,rfl⟩;exact b _ _ h.1 a h.2
theorem a1N{vs:List Value}{κ:SortKind}{lt:α->α->Bool}{f:Nat->α}(o:lQ lt)(a:wV vs f)
  (v:∀ i j (C:Bool->Shared->Prop),i<vs.length->j<vs.length->C (lt (f i) (f j)) s->wpAny (model prog w) A (keyLt' κ (vs.getD i Value.none) (vs.getD j Value.none)) C (fun _ _=>False) s) :
  wpAny (model prog w) A (sortRuns'.run (SortSt.mk' κ (vs.toArray.zip vs.toArray) #[] 7 none)) (fun r K=>K=s/\∃ p,Good vs.length p/\Jw lt f p vs.length/\(arrOf r.2).map (·.2)=(byP vs p).toArray/\failedOf r.2=none) E s:=by
 have g:(vs.toArray.zip vs.toArray).toList=(List.range vs.length).map fun i=>(vs.getD i Value.none,vs.getD i Value.none):=by
  refine Cd fun i=>?_
  by_cases hi:i<vs.length
  ·simp[hi,fM,List.getElem?_zip_eq_some]
  ·simp[hi]
 have H:(vs.toArray.zip vs.toArray).size=vs.length:=by simp
 have e:TS.Env (model prog w) A s κ (a5s vs f) lt (vs.toArray.zip vs.toArray):=by
  refine⟨o,fun x y n q C h=>?_⟩;rw[g] at n q;obtain⟨i,hi,rfl⟩:=cW.mp n;obtain⟨j,D,rfl⟩:=cW.mp q;have k:=fP.mp hi;have l:=fP.mp D;rw[DX a k,DX a l] at h;exact v i j C k l h
 refine TS.a3S (Q:=fun _ st=>∃ p,Good vs.length p/\Jw lt f p vs.length/\(arrOf st).map (·.2)=(byP vs p).toArray/\failedOf st=none) e rfl rfl rfl rfl fun L F B G=>?_
 have m:=F.toList;rw[g] at m;obtain⟨r,b,d⟩:=WT m _ rfl;have z:Good vs.length r.toArray:=⟨by simpa using b⟩
 have c:∀ i,(hi:i<r.length)->TS.el (arrOf L) i=(vs.getD r[i] Value.none,vs.getD r[i] Value.none):=fun i hi=>by
  rw[TS.DP,d,fM,cP,fY hi];rfl
 have M:r.length=vs.length:=by simpa using b.length_eq
 refine⟨r.toArray,z,fun i hi=>?_,?_,B⟩
 ·have h2:=G i (i+1) (jh _) (tL _) (by rw[H];exact hi);rw[c i (by lia),c (i+1) (by lia)] at h2;have I:r[i]<vs.length:=fP.mp (b.mem_iff.mp (mL _));have J:r[i+1]<vs.length:=fP.mp (b.mem_iff.mp (mL _));rw[DX a I,DX a J] at h2;unfold Ky;have t:r.toArray.getD i 0=r[i]:=by
   rw[qN,BK,fY (by lia)];rfl
  have u:r.toArray.getD (i+1) 0=r[i+1]:=by
   rw[qN,BK,fY (by lia)];rfl
  rw[t,u];exact h2
 ·apply S9.mp;rw[Array.toList_map,d];unfold byP;simp
theorem En{a:Addr}{vs:List Value}{n:Nat}{h0:Heap}{lt:α->α->Bool}{f:Nat->α}{P:PySem.Fin->Shared->Prop}(o:lQ lt)(y:wV vs f)(I:A.units+2<cLine)(H:Ma prog w h0 vs lt f)(hz:vs.length<=sizeLine) (d:s.heap.get? a=some (seqObj "list" vs.toArray n)) (D:∀ b o,h0.get? b=some o->s.heap.get? b=some o/\b≠a)
  (h:∀ p,Good vs.length p->Jw lt f p vs.length->P (.done (.ret .none)) { s with heap:=sortedHeap s.heap a vs (byP vs p).toArray }):wpAny (model prog w) A (Builtin.«list.sort» ⟨[.ref a],[]⟩) P E s:=by
 rw[list_sort_plain];have K:a<s.heap.objs.size:=bO d;refine aR (listItems_at d rfl (aR (listUpdate_at d rfl ?_ (by show vs.toArray.size<=_;rw[dX];omega) (by show(#[]:Array Value).size<=_;simp))));have q:=get?_update_seq d (fun _=>#[]);refine aR (seqEpoch_at q rfl (aR (wpAny_newTuple (aR (LQ (qU ?_) (by simp))) (by simpa using hz))));show wpAny (model prog w) A _ P E { s with heap:=((s.heap.update a (Obj.mapSeq fun _=>#[])).push (seqObj "tuple" vs.toArray 0)).push (seqObj "list" #[] 0) };have k:(((s.heap.update a (Obj.mapSeq fun _=>#[])).push (seqObj "tuple" vs.toArray 0)).push (seqObj "list" #[] 0)).get? a=some _:=fj _ (fj _ q);have kp:Keeps h0 (((s.heap.update a (Obj.mapSeq fun _=>#[])).push (seqObj "tuple" vs.toArray 0)).push (seqObj "list" #[] 0)):=fun b o e=>by
  obtain⟨r,t⟩:=D b o e;refine fj _ (fj _ ?_);rw[tV _ _ _ _ t];exact r
 dsimp only;by_cases h2:vs.toArray.size<2
 ·rw[aK h2,aK h2];refine aR (bN ?_);rw[StateT.run_pure];refine aR (bN ?_);dsimp only;have l:vs.length<2:=by simpa using h2
  have x:Good vs.length (List.range vs.length).toArray:=⟨.refl _⟩
  have J:Jw lt f (List.range vs.length).toArray vs.length:=fun i hi=>by lia
  have v:byP vs (List.range vs.length).toArray=vs:=by
   unfold byP;refine Cd fun i=>?_
   simp only[cP];by_cases hi:i<vs.length
   ·simp[hi,fM]
   ·simp[hi]
  have h':=h _ x J;rw[v] at h';have c:(arrOf (SortSt.mk' general' (vs.toArray.zip vs.toArray) #[] 7 none)).map (·.2)=vs.toArray:=by
   show(vs.toArray.zip vs.toArray).map (·.2)=_;apply S9.mp;simp[List.map_snd_zip]
  refine aR (seqEpoch_at k rfl ?_);rw[c];refine aR (listUpdate_at k rfl ?_ (by simp) (by rw[dX];lia));simp only[Lq,wO,lB];exact bN h'
 ·rw[aJ h2,aJ h2];have l:2<=vs.length:=by simpa using h2
  obtain⟨κ,F,G⟩:=H.ex l;refine aR (F _ _ _ _ kp ?_);refine aR (jy (a1N (κ:=κ) (f:=f) o y fun i j C hi B z=>G A _ i j C I kp hi B z) ?_ fun _ _ e=>e);rintro⟨⟨⟩,L⟩ s' ⟨rfl,p,g,u,c,m⟩;dsimp only;dsimp only at c m;refine aR (seqEpoch_at k rfl ?_);rw[c];refine aR (listUpdate_at k rfl ?_ (by simp) ?_)
  ·rw[m];simp only[Lq,wO,lB];exact bN (h p g u)
  ·unfold byP;rw[dX,aL,fu,g.size];lia
theorem PL{l:Addr}{vs:List Value}{lt:α->α->Bool}{f:Nat->α}{Q:Value->Shared->Prop}(o:lQ lt)(d:wV vs f)(n:A.units+10<cLine)(k:Ma prog w s.heap vs lt f)(hz:vs.length<=sizeLine)(i:s.heap.IsList l vs.toArray)
  (h:∀ p,Good vs.length p->Jw lt f p vs.length->Q (.ref (s.heap.objs.size+1)) { s with heap:=sortedAll s.heap vs (byP vs p).toArray }):wpAny (model prog w) A (call (.builtin "sorted") [.ref l]) Q E s:=by
 refine Rn kind_sorted plain_sorted entry_sorted (args_sorted1 _) ?_;unfold Builtin.«sorted»;refine aR (m:=checkCount "sorted" 1 1 _) (bN (aR (collect_list i ?_ hz)));refine aR (LQ ?_ (by simpa using hz));have a:((s.heap.push (seqObj "list" #[] 0)).update s.heap.objs.size (Obj.mapSeq (·++vs.toArray))).objs.size=s.heap.objs.size+1:=by rw[Heap.size_update,size_push']
 have c:(((s.heap.push (seqObj "list" #[] 0)).update s.heap.objs.size (Obj.mapSeq (·++vs.toArray))).push (seqObj "list" vs.toArray 0)).get? (s.heap.objs.size+1)=some (seqObj "list" vs.toArray 0):=by
  rw[<- a];exact gn _ rfl
 show wpAny _ _ _ _ _ { s with heap:=((s.heap.push (seqObj "list" #[] 0)).update s.heap.objs.size (Obj.mapSeq (·++vs.toArray))).push (seqObj "list" vs.toArray 0) };rw[a];refine aR (qU (vo slot_list_sort ⟨_,c,rfl⟩ entry_list_sort (En (h0:=s.heap) o d (by show A.units+1+1+2<cLine;lia) k hz c (fun b o e=>⟨?_,dZ (tG (bO e))⟩) fun p g u=>⟨_,rfl,bN ⟨_,rfl,h p g u⟩⟩) (args_list_sort _)));have j:b<s.heap.objs.size:=bO e;refine fj _ ?_;rw[tV _ _ _ _ (dZ j)];exact fj _ e
end
def jz(a b:Cell):Bool:=decide (cM a b)
theorem vK:lQ jz:=by
 refine⟨fun a b h=>?_,fun a b c h1 h2=>?_,fun a b h1 h2=>?_⟩
 ·have:=cT h;refine cD ?_;unfold cM at *;lia
 ·have d:=iW h1;have e:=iW h2;refine cD ?_;unfold cM at *;lia
 ·have d:=iW h1;have e:=iW h2;unfold cM at *;exact nD (by omega) (by lia)
section
variable{X:Cx}
theorem Mz{ad:List (Addr×Obj)}{zzs:L2.St}{H:Hp}{s:Shared}{vs:List V}{us:List Value}{cs:List Cell}(I:Inv X ad zzs H s)(G:bf X.K H vs (cs.map aC))(r:Vals vs us):Ma X.prog X.w s.heap us jz fun i=>cs.getD i (0,0):=by
 have E:us.length=cs.length:=by rw[<- r.length,G.length,aL]
 have l:∀ i,(hi:i<cs.length)->∃(a:Addr)(o:Obj)(t k:Tok)(n:Nat),us.getD i Value.none=.ref a/\s.heap.get? a=some o/\o.cls=.type "tuple" /\ o.data=.seq #[.int cs[i].1 t,.int cs[i].2 k] n:=fun i hi=>by
  have F:i<vs.length:=by rw[r.length,E];exact hi
  have M:vs[i]?=some vs[i]:=by simp[F]
  obtain⟨u,z,ae⟩:=r.get M;obtain⟨d,L,dd⟩:=G.get M;rw[cP,fY hi] at L;cases L;obtain⟨a,o,t,k,n,rfl,h1,h2,aa⟩:=ux I dd ae;exact⟨a,o,t,k,n,by rw[fM,z];rfl,h1,h2,aa⟩
 refine⟨fun h2=>⟨tuples' true,fun R af s' ag kp q=>?_,fun R s' i j C ai kp hi D N=>?_⟩⟩
 ·have ac:∀(cs:List Cell)(us:List Value),us.length=cs.length->(∀ i,(hi:i<cs.length)->∃(a:Addr)(o:Obj)(t k:Tok)(n:Nat),us.getD i Value.none=.ref a/\s.heap.get? a=some o/\o.cls=.type "tuple" /\ o.data=.seq #[.int cs[i].1 t,.int cs[i].2 k] n) ->
    ∃ fs:List Value,fs.length=us.length/\(∀ f∈fs,∃ i t,f=Value.int i t)/\KatTups s'.heap us fs:=by
   intro cs
   induction cs with
   |nil=>
    intro us e _;cases us with
    |nil=>exact⟨[],rfl,(fun f B=>by cases B),.nil⟩
    |cons a b=>simp at e
   |cons c cs ab=>
    intro us e h;cases us with
    |nil=>simp at e
    |cons u us=>
     obtain⟨a,o,t,k,n,m,p,J,y⟩:=h 0 (by simp);have z:u=.ref a:=m;subst z;obtain⟨fs,f1,f2,A⟩:=ab us (by simpa using e) fun i hi=>by
      have:=h (i+1) (by simpa using hi);simpa using this
     refine⟨.int c.1 t::fs,by simp[f1],fun f B=>?_,KatTups.cons (kp _ _ p) J y rfl A⟩;rcases dj.mp B with g|g
     ·exact⟨_,_,g⟩
     ·exact f2 f g
  obtain⟨fs,f1,f2,A⟩:=ac cs us E l;refine kat_kind (T:=.type "int") A (by lia) (fun v F=>?_) (by decide) ?_
  ·obtain⟨i,t,rfl⟩:=f2 v F;exact Looks.of_pure rfl
  ·exact q
 ·rw[E] at hi D;obtain⟨a,o,t,k,n,m,p,J,y⟩:=l i hi;obtain⟨b,ak,al,am,aj,W,Y,ah,Z⟩:=l j D;rw[m,W];have S:cs.getD i (0,0)=cs[i]:=by rw[fM,fY hi];rfl
  have U:cs.getD j (0,0)=cs[j]:=by rw[fM,fY D];rfl
  rw[S,U] at N;refine kat_lt (kp _ _ p) y (kp _ _ Y) Z ?_;have out:∀ x:Bool,(x=true↔cM cs[i] cs[j])->C x s':=fun x O=>by
   have:x=jz cs[i] cs[j]:=by
    unfold jz;cases x
    ·exact(cD fun g=>by have:=O.mpr g;cases this).symm
    ·exact(bQ (O.mp rfl)).symm
   rw[this];exact N
  refine kat_cons (tH ?_);by_cases P:cs[i].1=cs[j].1
  ·rw[show(cs[i].1==cs[j].1)=true from lG.mpr P];refine kat_yes (kat_cons (tH ?_));by_cases Q:cs[i].2=cs[j].2
   ·rw[show(cs[i].2==cs[j].2)=true from lG.mpr Q];refine kat_yes (kat_nil (out _ ⟨fun g=>?_,fun g=>?_⟩))
    ·have:=cT g;simp at this
    ·unfold cM at g;lia
   ·rw[show(cs[i].2==cs[j].2)=false from qO.mpr Q];refine kat_no (kat_one _ _ (lt_int (out _ ?_)));rw[jx];unfold cM;lia
  ·rw[show(cs[i].1==cs[j].1)=false from qO.mpr P];refine kat_no (oneLt_int (out _ ?_));rw[jx];unfold cM;lia
theorem Vq{F:List (Addr×Obj)}{zzs:L2.St}{H:Hp}{s:Shared}{vs:List V}{us:List Value}{cs:List Cell}(I:Inv X F zzs H s)(f:bf X.K H vs (cs.map aC))(r:Vals vs us):wV us fun i=>cs.getD i (0,0):=by
 have J:us.length=cs.length:=by rw[<- r.length,f.length,aL]
 have g:∀ i,i<us.length->∃(a:Addr)(o:Obj)(t c:Tok)(n:Nat),us.getD i Value.none=.ref a/\s.heap.get? a=some o/\o.data=.seq #[.int (cs.getD i (0,0)).1 t,.int (cs.getD i (0,0)).2 c] n:=fun i hi=>by
  have E:i<vs.length:=by rw[r.length];exact hi
  have q:i<cs.length:=by lia
  have k:vs[i]?=some vs[i]:=by simp[E]
  obtain⟨u,z,G⟩:=r.get k;obtain⟨d,h,dd⟩:=f.get k;rw[cP,fY q] at h;cases h;obtain⟨a,o,t,c,n,rfl,h1,_,C⟩:=ux I dd G;refine⟨a,o,t,c,n,by rw[fM,z];rfl,h1,?_⟩;rw[fM,fY q];exact C
 intro i j hi D e;obtain⟨a,o,t,c,n,w,x,y⟩:=g i hi;obtain⟨b,o',v,L,m,A,l,p⟩:=g j D;rw[w,A] at e;cases e;rw[x] at l;cases l;rw[y] at p;injection p with g5 _;have B:=congrArg Array.toList g5;injection B with a1 a2;injection a2 with a2 _;injection a1 with a1 _;injection a2 with a2 _;exact nD a1 a2
theorem Ei{vs:List V}{us:List Value}(r:Vals vs us):∀(a:List Nat),(∀ i∈a,i<vs.length)->Vals (a.map fun i=>vs.getD i .non) (a.map fun i=>us.getD i Value.none)
 |[],_=>.nil
 |i::a,h=>by
  have hi:=h i eF;obtain⟨u,d,f⟩:=r.get (show vs[i]?=some vs[i] from by simp[hi]);have b:vs.getD i .non=vs[i]:=by simp[fM,hi]
  have c:us.getD i Value.none=u:=by rw[fM,d];rfl
  rw[gq,gq,b,c];exact .cons f (Ei r a fun j e=>h j (gk _ e))
theorem TF{K:ao}{H:Hp}{vs:List V}{b:List Dt}{d0:Dt}(c:bf K H vs b):∀(a:List Nat),(∀ i∈a,i<vs.length)->bf K H (a.map fun i=>vs.getD i .non) (a.map fun i=>b.getD i d0)
 |[],_=>.nil
 |i::a,h=>by
  have hi:=h i eF;obtain⟨d,g,dd⟩:=c.get (show vs[i]?=some vs[i] from by simp[hi]);have e:vs.getD i .non=vs[i]:=by simp[fM,hi]
  have f:b.getD i d0=d:=by rw[fM,g];rfl
  rw[gq,gq,e,f];exact .cons dd (TF c a fun j k=>h j (gk _ k))
theorem vY{b:Type}{xs:List b}{d:b}{a:List Nat}(h:a.Perm (List.range xs.length)):(a.map fun i=>xs.getD i d).Perm xs:=by
 have e:(List.range xs.length).map (fun i=>xs.getD i d)=xs:=by
  refine Cd fun i=>?_
  simp only[cP];by_cases hi:i<xs.length
  ·simp[hi,fM]
  ·simp[hi]
 exact(h.map _).trans (by rw[e])
def Asc(cs:List Cell):Prop:=cs.Pairwise fun a b=>¬cM b a
end
end L2
namespace L2
open PySem PySem.Spec PyProof.Rows PySem.SeqAt PySem.MeetsSeq PySem.MeetsSeq2 PySem.MeetsSeq3
open PySem.AutoSeq1 (wpAny_loadPart')
end L2
namespace L2
open PySem PySem.Spec PyProof.Rows
section
variable{X:Cx}
def a7N:List V->Hp->VK->Prop:=fun xs H Q=>∃ c:Nat,xs=[.str ⟨#[c]⟩]/\48<=c/\c<=57/\Q (.int ((c:Int)-48)) H
theorem Ql:∀ c∈List.range 58,48<=c->intText? ⟨#[c]⟩=some ((c:Int)-48):=by decide +kernel
theorem Ij:fH X (.type "int") a7N:=by
 intro pins s zzs H xs a Q I r h;obtain⟨c,rfl,h1,h2,q⟩:=h;obtain⟨u,rfl,t,rfl⟩:=vals1 r;exact PySem.W.KIN.call_text (Ql c (fP.mpr (by lia)) h1) (by show(1:Nat)<=640;decide) ⟨.int _,H,I.tok _,⟨_,rfl⟩,q⟩
end
def dU(zs:List Str)(c:Cell):Int:=(codeAt zs (c.1.toNat,c.2.toNat):Int)-48
theorem Iz:∀ h∈List.range 7,∀ w∈List.range 7,(cJ h w).Pairwise cM:=by decide +kernel
theorem xr(c:Nat):inS "012345678" c=decide (48<=c/\c<=56):=by
 rw[K9 (by decide +kernel)];have e:("012345678" : Str).cps.toList=[48,49,50,51,52,53,54,55,56]:=by decide +kernel
 rw[e];have:(c∈[48,49,50,51,52,53,54,55,56])↔(48<=c/\c<=56):=by simp;lia
 rw[tK];exact this
theorem rP{zs:List Str}{w:Nat}{f:Str}{x:Cell}:x∈bB zs w f↔inF zs.length w x/\inS f (codeAt zs (x.1.toNat,x.2.toNat))=true:=by
 unfold bB;rw[List.mem_flatMap];constructor
 ·rintro⟨r,g,i⟩;obtain⟨c,e,rfl⟩:=cW.mp i;rw[cG,fP] at e;rw[fP] at g;exact⟨⟨⟨by show(0:Int)<=(r:Int);lia,by show(r:Int)<zs.length;lia⟩,⟨by show(0:Int)<=(c:Int);lia,by show(c:Int)<w;lia⟩⟩,e.2⟩
 ·rintro⟨⟨⟨a,b⟩,⟨c,d⟩⟩,h⟩;refine⟨x.1.toNat,fP.mpr (by lia),cW.mpr ⟨x.2.toNat,cG.mpr ⟨fP.mpr (by lia),h⟩,?_⟩⟩;exact nD (by show((x.1.toNat:Nat):Int)=x.1;lia) (by show((x.2.toNat:Nat):Int)=x.2;lia)
theorem Vw.code{zs:List Str}{w:Nat}{x:Cell}(v:Vw zs w)(h:inF zs.length w x):uU (codeAt zs (x.1.toNat,x.2.toNat))=true:=by
 obtain⟨⟨a,b⟩,⟨c,d⟩⟩:=h;have f:x.1.toNat<zs.length:=by lia
 have e:zs.getD x.1.toNat Str.empty=zs[x.1.toNat]:=by simp[fM,f]
 have g:(zs[x.1.toNat]).cps.size=w:=v.len _ (mL f);refine v.sg _ (mL f) _ ?_;unfold codeAt;dsimp only;rw[e,qN,jc (by lia)];exact Ro _
theorem lV{zs:List Str}{w:Nat}{x:Cell}(v:Vw zs w):x∈bB zs w "012345678" ↔ inF zs.length w x/\aP zs w x=false:=by
 rw[rP,xr];constructor
 ·rintro⟨h,a⟩;have:=cT a;refine⟨h,?_⟩;unfold aP;rw[cD (show ¬codeAt zs (x.1.toNat,x.2.toNat)=35 by lia),yq]
 ·rintro⟨h,a⟩;have b:=cT (v.code h);unfold aP at a;rw[bQ h,vA] at a;have:=iW a;exact⟨h,bQ (by lia)⟩
theorem Vw.digit{zs:List Str}{w:Nat}{x:Cell}(v:Vw zs w)(h:inF zs.length w x)(a:aP zs w x=false):48<=codeAt zs (x.1.toNat,x.2.toNat)/\codeAt zs (x.1.toNat,x.2.toNat)<=56:=by
 have:=(rP.mp ((lV v).mpr ⟨h,a⟩)).2;rw[xr] at this;exact cT this
theorem Vs{zs:List Str}{w:Nat}{x:Cell}:x∈bB zs w "#" ↔ aP zs w x=true:=by
 rw[<- gH];unfold eG;rw[cG,dM];constructor
 ·exact fun h=>h.2
 ·intro h;refine⟨?_,h⟩;unfold aP at h;rw[mK] at h;exact cT h.1
theorem PN{cs:List Cell}(h:Asc cs)(nd:cs.Nodup):cs.Pairwise cM:=by
 unfold Asc at h;have:cs.Pairwise fun a b=>¬cM b a/\a≠b:=h.and nd
 exact this.imp fun {a b} d=>by
  obtain⟨h1,h2⟩:=d;have e:¬(a.1=b.1/\a.2=b.2):=fun c=>h2 (nD c.1 c.2)
  unfold cM at *;lia
theorem kZ{cs:List Cell}(h:cs.Pairwise cM):cs.Nodup:=h.imp fun {a b} c e=>by
 subst e;unfold cM at c;lia
section
variable{κ:Type} [DecidableEq κ]
def wC(kvs:List (κ×V))(k:κ):Option V:=(kvs.find? fun kv=>decide (kv.1=k)).map (·.2)
def putK(kvs:List (κ×V))(k:κ)(v:V):List (κ×V):=
 if(kvs.any fun kv=>decide (kv.1=k))=true then kvs.map (fun kv=>if kv.1=k then(kv.1,v) else kv) else kvs++[(k,v)]
theorem uY{p:κ×V}{r:List (κ×V)}{k:κ}(e:p.1=k):wC (p::r) k=some p.2:=by simp[wC,Cm,e]
theorem uX{p:κ×V}{r:List (κ×V)}{k:κ}(e:¬p.1=k):wC (p::r) k=wC r k:=by simp[wC,Cm,e]
theorem uW(k:κ):∀ kvs:List (κ×V),(kvs.any fun a=>decide (a.1=k))=(wC kvs k).isSome
 |[]=>rfl
 |p::r=>by
  rw[yr];by_cases e:p.1=k
  ·simp only[uY e,bQ e,T3,Option.isSome_some]
  ·rw[uX e,cD e,SQ];exact uW k r
theorem CN(kvs:List (κ×V))(k:κ)(v:V):(putK kvs k v).length<=kvs.length+1:=by
 unfold putK;split
 ·rw[aL];lia
 ·rw[cH,gY,yp];lia
theorem Oi{kvs:List (κ×V)}{k:κ}(v:V)(h:wC kvs k=none):putK kvs k v=kvs++[(k,v)]:=by
 unfold putK;rw[uW,h];exact aJ (by decide)
theorem zV.qy{o:Option V}{u:Option Value}(r:zV o u):o.isSome=u.isSome:=by
 cases o with
 |none=>cases u with
  |none=>rfl
  |some _=>exact(show False from r).elim
 |some _=>cases u with
  |none=>exact(show False from r).elim
  |some _=>rfl
theorem KV.val{kvs:List (κ×V)}{vs:List (κ×Value)}(r:KV kvs vs)(k:κ):zV (wC kvs k) (valueAt vs k):=by
 unfold KV at r
 induction r with
 |nil=>exact True.intro
 |@cons p q ps c h t d=>
  obtain⟨h1,h2⟩:=h;by_cases e:p.1=k
  ·have a:q.1=k:=h1.symm.trans e;have b:valueAt (q::c) k=some q.2:=by simp[valueAt,Cm,a]
   rw[uY e,b];exact h2
  ·have a:¬q.1=k:=fun f=>e (h1.trans f)
   have b:valueAt (q::c) k=valueAt c k:=by simp[valueAt,Cm,a]
   rw[uX e,b];exact d
theorem KV.any{kvs:List (κ×V)}{vs:List (κ×Value)}(r:KV kvs vs)(k:κ):(kvs.any fun a=>decide (a.1=k))=vs.any fun a=>decide (a.1=k):=by
 unfold KV at r
 induction r with
 |nil=>rfl
 |cons h t b=>rw[yr,yr,b,h.1]
theorem KV.repl{kvs:List (κ×V)}{vs:List (κ×Value)}(r:KV kvs vs)(k:κ){y:V}{u:Value}(c:RelV y u) :
  KV (kvs.map fun a=>if a.1=k then(a.1,y) else a) (vs.map fun a=>if a.1=k then(a.1,u) else a):=by
 unfold KV at r ⊢
 induction r with
 |nil=>exact .nil
 |@cons p q ps f h t b=>
  rw[gq,gq];refine .cons ?_ b;obtain⟨h1,h2⟩:=h;by_cases e:p.1=k
  ·rw[aK e,aK (h1.symm.trans e)];exact⟨h1,c⟩
  ·rw[aJ e,aJ (fun d=>e (h1.trans d))];exact⟨h1,h2⟩
theorem KV.put{kvs:List (κ×V)}{vs:List (κ×Value)}(r:KV kvs vs)(k:κ){y:V}{u:Value}(a:RelV y u):KV (putK kvs k y) (stored vs k u):=by
 unfold putK stored;rw[r.any k];by_cases e:(vs.any fun b=>decide (b.1=k))=true
 ·rw[aK e,aK e];exact r.repl k a
 ·rw[aJ e,aJ e];exact Paired.snoc r ⟨rfl,a⟩
theorem KV.length{kvs:List (κ×V)}{vs:List (κ×Value)}(r:KV kvs vs):kvs.length=vs.length:=Paired.length r
end
theorem Nx{P:Program}{w:World}{k:Key}{u:Value}(r:RelV (kV k) u):(iK P w).is k u=true:=by
 cases k with
 |inl i=>obtain⟨t,e⟩:=(show ∃ t,u=Value.int i t from r);subst e;exact O1 P w i t
 |inr x=>obtain⟨t,e⟩:=(show ∃ t,u=Value.str x t from r);subst e;exact O2 P w x t
theorem J1{P:Program}{w:World}:∀ {a:List Key} {us:List Value},Vals (a.map kV) us->ItemsAre (iK P w) a us
 |[],_,r=>by rw[Hq] at r;cases r;exact .nil
 |k::a,_,r=>by
  rw[gq] at r;cases r with
  |cons h t=>exact .cons (Nx h) (J1 t)
abbrev KT(H:Hp):List (List Key×V)->List (List Key×Addr×Value)->Prop:=Paired fun p q=>p.1=q.1/\H q.2.1=some (.tup (p.1.map kV))/\RelV p.2 q.2.2
theorem KT.val{H:Hp}{kvs:List (List Key×V)}{xs:List (List Key×Addr×Value)}(r:KT H kvs xs)(k:List Key):zV (wC kvs k) ((atKey xs k).map (·.2)):=by
 induction r with
 |nil=>exact True.intro
 |@cons p q ps c h t d=>
  obtain⟨h1,_,h2⟩:=h;by_cases e:p.1=k
  ·have a:q.1=k:=h1.symm.trans e;have b:atKey (q::c) k=some q.2:=by simp[atKey,Cm,a]
   rw[uY e,b];exact h2
  ·have a:¬q.1=k:=fun f=>e (h1.trans f)
   have b:atKey (q::c) k=atKey c k:=by simp[atKey,Cm,a]
   rw[uX e,b];exact d
theorem KT.repl{H:Hp}{kvs:List (List Key×V)}{xs:List (List Key×Addr×Value)}(r:KT H kvs xs)(k:List Key){y:V}{u:Value}(d:RelV y u) :
  KT H (kvs.map fun a=>if a.1=k then(a.1,y) else a) (xs.map (putAt k u)):=by
 induction r with
 |nil=>exact .nil
 |@cons p q ps g h t c=>
  rw[gq,gq];refine .cons ?_ c;obtain⟨h1,h2,b⟩:=h;unfold putAt;by_cases e:p.1=k
  ·rw[aK e,aK (h1.symm.trans e)];exact⟨h1,h2,d⟩
  ·rw[aJ e,aJ (fun f=>e (h1.trans f))];exact⟨h1,h2,b⟩
theorem KT.put{H:Hp}{kvs:List (List Key×V)}{xs:List (List Key×Addr×Value)}(r:KT H kvs xs)(k:List Key){b:Addr}{y:V}{u:Value}(c:H b=some (.tup (k.map kV)))(a:RelV y u) :
  KT H (putK kvs k y) (storedH xs k b u):=by
 have e:(kvs.any fun d=>decide (d.1=k))=(atKey xs k).isSome:=by
  rw[uW,(r.val k).qy,S6]
 unfold putK storedH;rw[e];by_cases q:(atKey xs k).isSome=true
 ·rw[aK q,aK q];exact r.repl k a
 ·rw[aJ q,aJ q];exact Paired.snoc r ⟨rfl,c,a⟩
theorem KT.keeps{H H':Hp}{kvs:List (List Key×V)}{xs:List (List Key×Addr×Value)}(r:KT H kvs xs)(d:∀ b c,H b=some (.tup c)->H' b=some (.tup c)):KT H' kvs xs:=
 Paired.a5A r fun _ _ a=>⟨a.1,d _ _ a.2.1,a.2.2⟩
section
variable{P:Program}{w:World}{H:Hp}{h:Heap}{a:Addr}
theorem a4p{u:HO}(ok:HOk P w H h)(e:Rd H a u):g8 P w H h a u:=e.ok ok
theorem Nm{kvs:List (Key×V)}(ok:HOk P w H h)(e:Rd H a (.dK kvs)):kvs.length<=sizeLine/\(a==sysModules)=false/\∃ vs,KV kvs vs/\h.DictOf (iK P w) a vs:=
 show g8 P w H h a (.dK kvs) from a4p ok e
theorem a7d{kvs:List (Key×V)}(ok:HOk P w H h)(e:H a=some (.dK kvs)):kvs.length<=sizeLine/\(a==sysModules)=false/\∃ vs,KV kvs vs/\h.DictOf (iK P w) a vs:=Nm ok (.inl e)
theorem Ar{b:List Key}(ok:HOk P w H h)(e:H a=some (.tup (b.map kV))):(tupleKind (iK P w)).is h b a:=by
 obtain⟨_,d,r,o,h1,h2,n,c⟩:=(show g8 P w H h a (.tup (b.map kV)) from ok a _ e)
 exact⟨o,d.toArray,n,h1,h2,c,by simpa using J1 r⟩
theorem Nq{kvs:List (List Key×V)}(ok:HOk P w H h)(e:Rd H a (.dT kvs)):kvs.length<=sizeLine/\(a==sysModules)=false /\
  ∃ xs,KT H kvs xs/\h.DictOfH (tupleKind (iK P w)) a xs:=by
 obtain⟨k,y,xs,r,o,es,d,h1,h2,f,g,i⟩:=(show g8 P w H h a (.dT kvs) from a4p ok e)
 refine⟨k,y,xs,r,o,es,d,h1,h2,f,g,fun x b=>?_,i⟩;have all:∀ {l:List (List Key×V)} {m:List (List Key×Addr×Value)},KT H l m->∀ x∈m,(tupleKind (iK P w)).is h x.1 x.2.1:=by
  intro l m q
  induction q with
  |nil=>intro x b;exact nomatch b
  |@cons p q ps n c t j=>
   intro x b;rcases dj.mp b with e|b
   ·subst e;exact Ar ok (by rw[<- c.1];exact c.2.1)
   ·exact j x b
 exact all r x b
theorem Yg{kvs:List (List Key×V)}(ok:HOk P w H h)(e:H a=some (.dT kvs)):kvs.length<=sizeLine/\(a==sysModules)=false /\
  ∃ xs,KT H kvs xs/\h.DictOfH (tupleKind (iK P w)) a xs:=Nq ok (.inl e)
end
def zJ(H:Hp)(a:Addr)(y:V)(r:Option V):Prop:=
 (∃ kvs k,Rd H a (.dK kvs)/\y=kV k/\r=wC kvs k)\/∃ kvs k b,Rd H a (.dT kvs)/\y=.ref b/\H b=some (.tup (k.map kV))/\r=wC kvs k
def Mf(H:Hp)(a:Addr)(y v:V)(H':Hp):Prop:=
 (∃ kvs k,H a=some (.dK kvs)/\y=kV k/\kvs.length<sizeLine/\H'=upd H a (.dK (putK kvs k v))) \/
 ∃ kvs k b,H a=some (.dT kvs)/\y=.ref b/\H b=some (.tup (k.map kV))/\kvs.length<sizeLine/\H'=upd H a (.dT (putK kvs k v))
theorem zJ.t{H:Hp}{a b:Addr}{kvs:List (List Key×V)}{k:List Key}(e:H a=some (.dT kvs))(c:H b=some (.tup (k.map kV))):zJ H a (.ref b) (wC kvs k):=.inr ⟨kvs,k,b,.inl e,rfl,c,rfl⟩
theorem Mf.t{H:Hp}{a b:Addr}{kvs:List (List Key×V)}{k:List Key}{v:V}(e:H a=some (.dT kvs))(c:H b=some (.tup (k.map kV)))(d:kvs.length<sizeLine) :
  Mf H a (.ref b) v (upd H a (.dT (putK kvs k v))):=.inr ⟨kvs,k,b,e,rfl,c,d,rfl⟩
section
variable{X:Cx}{pins:List (Addr×Obj)}{zzs:St}{H:Hp}{s:Shared}{a:Addr}{y v:V}{u r:Value}{o:Option V}{A:Around}{E:Value->Shared->Prop}
theorem Inv.big(I:Inv X pins zzs H s):sysModules<s.heap.objs.size:=by
 have h:mainGlobals<s.heap.objs.size:=(I.mod.glob.keeps I.bk).lt;exact Nat.lt_trans (by decide) h
theorem VB{Q:Value->Shared->Prop}(t:A.units+1<cLine)(I:Inv X pins zzs H s)(g:zJ H a y (some v))(i:RelV y u)(h:∀ w' j,Inv X pins zzs H j->RelV v w'->Q w' j) :
  wpAny (model X.prog X.w) A (getItem (.ref a) u) Q E s:=by
 rcases g with⟨x,k,e,c,l⟩|⟨x,k,b,e,c,m,l⟩
 ·subst c;obtain⟨B,n,z,d,dd⟩:=Nm I.hok e;obtain⟨w',hw,f⟩:=zV.some_of (v:=v) (o:=valueAt z k) (by rw[l];exact d.val k);exact wpAny_getItem_of (Nx i) dd.mapOf hw (h w' _ (I.tok _) f)
 ·subst c;cases (show u=Value.ref b from i);obtain⟨B,n,xs,d,dd⟩:=Nq I.hok e;obtain⟨w',hw,f⟩:=zV.some_of (v:=v) (o:=(atKey xs k).map (·.2)) (by rw[l];exact d.val k);obtain⟨p,q,r⟩:=gj.mp hw;refine wpAny_getItem_heap (Lk t) (Ar I.hok m) dd q ?_;rw[r];exact h w' _ (I.tok _) f
theorem a8s{Q:Value->Shared->Prop}(n:A.units+1<cLine)(I:Inv X pins zzs H s)(g:zJ H a y o)(i:RelV y u)(h:∀ j,Inv X pins zzs H j->Q (.bool o.isSome) j) :
  wpAny (model X.prog X.w) A (compareOp .In u (.ref a)) Q E s:=by
 rcases g with⟨p,k,e,c,l⟩|⟨p,k,b,e,c,m,l⟩
 ·subst c;obtain⟨r,d,t,f,dd⟩:=Nm I.hok e;refine wpAny_in_of (Nx i) d dd.mapOf ?_;rw[<- (f.val k).qy,<- l];exact h _ (I.tok _)
 ·subst c;cases (show u=Value.ref b from i);obtain⟨r,d,xs,f,dd⟩:=Nq I.hok e;refine wpAny_in_heap (Lk n) (Ar I.hok m) d dd ?_;have q:=(f.val k).qy;rw[S6] at q;rw[<- q,<- l];exact h _ (I.tok _)
theorem a1S{Q:Value->Shared->Prop}(n:A.units+1<cLine)(I:Inv X pins zzs H s)(g:zJ H a y o)(i:RelV y u)(h:∀ j,Inv X pins zzs H j->Q (.bool (!o.isSome)) j) :
  wpAny (model X.prog X.w) A (compareOp .NotIn u (.ref a)) Q E s:=by
 rcases g with⟨p,k,e,c,l⟩|⟨p,k,b,e,c,m,l⟩
 ·subst c;obtain⟨r,d,t,f,dd⟩:=Nm I.hok e;refine wpAny_notIn_of (Nx i) d dd.mapOf ?_;rw[<- (f.val k).qy,<- l];exact h _ (I.tok _)
 ·subst c;cases (show u=Value.ref b from i);obtain⟨r,d,xs,f,dd⟩:=Nq I.hok e;refine wpAny_notIn_heap (Lk n) (Ar I.hok m) d dd ?_;have q:=(f.val k).qy;rw[S6] at q;rw[<- q,<- l];exact h _ (I.tok _)
theorem K4{h':Heap}{t':Nat}{ob:HO}(I:Inv X pins zzs H s)(g:Mut (H a))(f:Heap.SameBut a s.heap h')(d:∃ q,h'.get? a=some q)(new:g8 X.prog X.w (upd H a ob) h' a ob) :
  Inv X pins zzs (upd H a ob) { s with heap:=h',toks:=t' }:=
 I.write (x:=a) (e:=a) g (.inl rfl) (fun b q c h=>(f.2 b c).trans h) d new
theorem a5a{P:Program}{w:World}{H':Hp}{h':Heap}{kvs:List (Key×V)}{vs:List (Key×Value)}(d:kvs.length<=sizeLine)(b:(a==sysModules)=false)(c:KV kvs vs)(dd:h'.DictOf (iK P w) a vs) :
  g8 P w H' h' a (.dK kvs):=⟨d,b,vs,c,dd⟩
theorem VL{H':Hp}{Q:Unit->Shared->Prop}(N:A.units+1<cLine)(I:Inv X pins zzs H s)(g:Mf H a y v H')(D:RelV y u)(rv:RelV v r)(h:∀ F,Inv X pins zzs H' F->Q () F) :
  wpAny (model X.prog X.w) A (setItem (.ref a) u r) Q E s:=by
 rcases g with⟨d,k,e,o,l,n⟩|⟨d,k,b,e,o,B,l,n⟩
 ·subst o n;obtain⟨i,p,O,f,dd⟩:=a7d I.hok e;have z:O.length<=sizeLine:=by rw[<- f.length];exact i
  have t:(putK d k v).length<=sizeLine:=by have:=CN d k v;lia
  refine wpAny_setItem_pairs (hsz:=z) (Nx D) dd fun h' j x=>h _ ?_
  have M:∃ q,h'.get? a=some q:=let ⟨q,_,_,m,_⟩:=j;⟨q,m⟩;exact K4 I (by rw[e];exact True.intro) x M (a5a t p (f.put k rv) j)
 ·subst o n;cases (show u=Value.ref b from D);obtain⟨i,p,xs,f,dd⟩:=Yg I.hok e;have z:xs.length<=sizeLine:=by rw[<- Paired.length f];exact i
  have t:(putK d k v).length<=sizeLine:=by have:=CN d k v;lia
  refine wpAny_setItem_heap (hsz:=z) (Lk N) (Ar I.hok B) dd fun h' j x=>h _ ?_
  obtain⟨q,es,G,m,h2,J,K,_,L⟩:=j;refine K4 I (by rw[e];exact True.intro) x ⟨q,m⟩ ⟨t,p,_,(f.put k B rv).keeps fun c ys C=>?_,q,es,G,m,h2,J,K,L⟩;rw[bG (qF C e (fun i=>nomatch i))];exact C
end
theorem Nk{X:Cx}{d:List (Addr×Obj)}{zzs:St}{H:Hp}{s:Shared}{a:Addr}{y:V}{o:Option V}(I:Inv X d zzs H s)(g:zJ H a y o):s.TypeIs (.ref a) "dict":=by
 rcases g with⟨c,k,e,_,_⟩|⟨c,k,b,e,_,_,_⟩
 ·obtain⟨_,_,f,_,dd⟩:=Nm I.hok e;exact dd.typeIs
 ·obtain⟨_,_,xs,_,dd⟩:=Nq I.hok e;exact dd.typeIs
theorem Np{P:Program}{w:World}{H:Hp}(h:Heap)(a:sysModules<h.objs.size):g8 P w H (h.push { cls:=.type "dict",data:=.dict #[] }) h.objs.size (.dT []):=
 ⟨jh _,qO.mpr (iR (dZ a)),[],.nil,_,#[],0,gn _ rfl,⟨rfl,rfl,rfl⟩,rfl,rfl,Cu⟩
def a0t:TE:=fun _ H Q=>∀ p,H p=none->Q (.ref p) (upd H p (.dT []))
section
variable{X:Cx}{pos:Pos}
theorem Zk:PE X (.Dict [] [] pos) a0t:=fun pins s zzs H Q I h=>
 wpAny_Dict_empty ⟨.ref s.heap.objs.size,_,I.laid (a:=s.heap.objs.size) (o:=.dT []) (t':=s.toks) (fun _ _ q=>fj _ q) (bK _) (Np s.heap I.big),rfl,h _ (I.hok.fresh (bK _))⟩
end
def a0w:List (TE×TE)->St->Hp->(List (V×V)->Hp->Prop)->Prop
 |[],_,H,Q=>Q [] H
 |(tk,tv)::r,zzs,H,Q=>tk zzs H fun x H1=>tv zzs H1 fun y H2=>a0w r zzs H2 fun ps H3=>Q ((x,y)::ps) H3
abbrev VV:List (V×V)->List (Value×Value)->Prop:=Paired fun p q=>RelV p.1 q.1/\RelV p.2 q.2
def PPs(X:Cx)(pos:Pos)(keys:List (Option Expr))(values:List Expr)(trs:List (TE×TE)):Prop:=
 ∀(pins:List (Addr×Obj))(s:Shared)(zzs:St)(H:Hp)(Q:List (V×V)->Hp->Prop),Inv X pins zzs H s->a0w trs zzs H Q ->
  wpAny (model X.prog X.w) X.A (evalPairs (pairTrees keys values X.env pos)) (fun vs s'=>∃ ps H',Inv X pins zzs H' s'/\VV ps vs/\Q ps H') X.xe s
theorem a2Z{X:Cx}{pos:Pos}:PPs X pos [] [] []:=fun pins s zzs H Q I h=>pairTrees_nil_walk ⟨[],H,I,.nil,h⟩
theorem Zr{X:Cx}{pos:Pos}{k v:Expr}{a:List (Option Expr)}{vs:List Expr}{tk c:TE}{b:List (TE×TE)}(i:PE X k tk)(l:PE X v c)(j:PPs X pos a vs b) :
  PPs X pos (some k::a) (v::vs) ((tk,c)::b):=fun pins s zzs H Q I h=>
 pairTrees_cons_walk (thn (i pins s zzs H _ I h) fun u s1 ⟨x,H1,e,q,m⟩=>thn (l pins s1 zzs H1 _ e m) fun w s2 ⟨y,H2,f,r,n⟩=>
  thn (j pins s2 zzs H2 _ f n) fun z t ⟨ps,d,g,p,o⟩=>⟨(x,y)::ps,d,g,.cons ⟨q,r⟩ p,o⟩)
section
variable{X:Cx}
def a8T:R2:=fun x y H Q=>∃ a v,x=.ref a/\zJ H a y (some v)/\Q v H
theorem DW(j:X.A.units+60<cLine):IxR X a8T:=by
 intro value l pins s zzs H x y v u Q I e f h c;obtain⟨a,i,rfl,g,q⟩:=h;cases e;exact tail_any (ops:=[.ref a,u]) (Nk I g) PySem.F.slot_dict_getitem.lookup (VB (by lia) I g f fun m k b d=>⟨i,H,b,d,q⟩) c
def Uu(neg:Bool):R2:=fun y x H Q=>∃ a o,x=.ref a/\zJ H a y o/\Q (.bl (if neg then !o.isSome else o.isSome)) H
theorem WL(e:X.A.units+60<cLine):OpR X (compareOp .In) (Uu false):=by
 intro pins s zzs H y x u v Q I d c h;obtain⟨a,o,rfl,g,q⟩:=h;cases c;exact a8s (by lia) I g d fun f b=>⟨.bl o.isSome,H,b,rfl,q⟩
theorem yW(e:X.A.units+60<cLine):OpR X (compareOp .NotIn) (Uu true):=by
 intro pins s zzs H y x u v Q I d c h;obtain⟨a,o,rfl,g,q⟩:=h;cases c;exact a1S (by lia) I g d fun f b=>⟨.bl (!o.isSome),H,b,rfl,q⟩
def a7U:V->V->V->Hp->(Hp->Prop)->Prop:=fun o i v H Q=>∃ a H',o=.ref a/\Mf H a i v H'/\Q H'
theorem set_dict(e:X.A.units+60<cLine):Xo X a7U:=by
 intro pins s zzs H o i v j f u Q I d c rv h;obtain⟨a,H',rfl,g,q⟩:=h;cases d;exact VL (by lia) I g c rv fun k b=>⟨H',b,q⟩
end
section
variable{X:Cx}{pos:Pos}{k v:Expr}{tk tv:TE}
def a0u(tk tv:TE):TE:=fun zzs H Q=>∀ p,H p=none->tk zzs (upd H p (.dT [])) fun x H1=>tv zzs H1 fun y H2=>∃ ks b,H2 p=some (.dT [])/\x=.ref b/\H2 b=some (.tup (ks.map kV))/\Q (.ref p) (upd H2 p (.dT [(ks,y)]))
theorem Zj(R:X.A.units+60<cLine)(E:PE X k tk)(J:PE X v tv):PE X (.Dict [some k] [v] pos) (a0u tk tv):=by
 intro pins s zzs H Q I q;have F:=I.hok.fresh (bK s.heap.objs.size);have m:=I.laid (a:=s.heap.objs.size) (o:=.dT []) (h':=s.heap.push { cls:=.type "dict",data:=.dict #[] }) (t':=s.toks) (fun _ _ d=>fj _ d) (bK _) (Np s.heap I.big);refine wpAny_Dict_any rfl rfl (by intro d;cases d) (by show 1<=15;decide) ?_;have K:PPs X pos [some k] [v] [(tk,tv)]:=Zr E J a2Z;refine thn (K pins _ zzs _ (fun ps H2=>match ps with
  |[(x,y)]=>∃ ks b,H2 s.heap.objs.size=some (.dT [])/\x=.ref b/\H2 b=some (.tup (ks.map kV))/\Q (.ref s.heap.objs.size) (upd H2 s.heap.objs.size (.dT [(ks,y)]))
  |_=>False) m (q _ F)) fun T s2 h=>?_
 obtain⟨ps,H2,f,g,h⟩:=h;cases g with
 |nil=>exact h.elim
 |@cons p1 P S U M n=>
  cases n with
  |cons _ _=>exact h.elim
  |nil=>
   obtain⟨x,y⟩:=p1;obtain⟨u,r⟩:=P;obtain⟨ks,b,e,ex,i,L⟩:=h;subst ex;obtain⟨N,O⟩:=M;cases (show u=Value.ref b from N);obtain⟨d,D,xs,g,dd⟩:=Yg f.hok e;cases g;show wpAny (model X.prog X.w) X.A (storeAll s.heap.objs.size [(.ref b,r)]) _ _ s2;unfold storeAll;rw[List.forIn_cons];refine aR (aR (wpAny_dictSet_heap (knd:=tupleKind (iK X.prog X.w)) (show X.A.units<cLine by lia) (Ar f.hok i) dd fun h' p G=>bN ?_));dsimp only;rw[List.forIn_nil];refine bN ?_;obtain⟨o,es,t,l,h2,z,B,_,C⟩:=p;refine⟨.ref s.heap.objs.size,_,K4 (ob:=.dT [(ks,y)]) f (by rw[e];exact True.intro) G ⟨o,l⟩ ⟨by show 1<=sizeLine;rw[pK];decide,D,_,(KT.put (kvs:=[]) (xs:=[]) .nil ks i O).keeps fun c ys j=>?_,o,es,t,l,h2,z,B,C⟩,rfl,L⟩;rw[bG (qF j e (fun d=>nomatch d))];exact j
theorem a3v(b:X.A.units+60<cLine)(a:RE X k tk)(c:RE X v tv):RE X (.Dict [some k] [v] pos) (a0u tk tv):=⟨Zj b a.ok c.ok⟩
theorem Uv:RE X (.Dict [] [] pos) a0t:=⟨Zk⟩
end
end L2
namespace L2
open PySem PySem.Spec PyProof.Rows PySem.SeqAt PySem.MeetsSeq PySem.MeetsSeq2 PySem.MeetsSeq3
open PySem.AutoSeq1 (wpAny_loadPart')
theorem YW(I d:Addr)(i n ep:Nat)(a:Array DictEntry)(dd r:Option Addr)(k z:Array (Option Value))(c:Value)(p:i<a.size)(u:n=a.size):Meets (Builtin.«dict_keyiterator.__next__» ⟨[.ref I],[]⟩)
  (fun _ R s=>s.heap.get? I=some { cls:=.type "dict_keyiterator",dict:=dd,data:=.fields #[.ref d,.int i 0,.int n 0,.int ep 0],slots:=k }/\s.heap.get? d=some { cls:=.type "dict",dict:=none,data:=.dict a ep,slots:=#[] } /\
   ∀ h' q,h'.get? I=some { cls:=.type "dict_keyiterator",dict:=dd,data:=.fields #[.ref d,.int ((i+1:Nat):Int) 0,.int n 0,.int ep 0],slots:=k }->(∀ b o,b≠I->s.heap.get? b=some o->h'.get? b=some o)->R (.ok (.ret a[i].key)) { s with heap:=h',toks:=q }):=
 .of_wp fun prog w A R s h=>by
  obtain⟨v,g,t,tk,y⟩:=s;obtain⟨f,j,h⟩:=h
  wp_walk using wpAny_loadPart' f,wpAny_loadPart' j
  have e:(if(i:Int)<0 then none else a[((i:Nat):Int).toNat]?)=some a[i]:=by
   rw[aJ (by lia),gD,jc p]
  rw[e];dsimp only
  wp_walk using wpAny_loadPart' f,wpAny_loadPart' j
  refine⟨_,rfl,h _ tk ?_ fun b o m l=>?_⟩
  ·have:=Dj (Obj.mapFields fun x=>x.setIfInBounds 1 (rawInt ((i:Int)+1))) f rfl;exact this
  ·rw[tV _ _ _ _ m];exact l
end L2
namespace L2
open PySem PySem.Spec PyProof.Rows
theorem Ke{K:ao}{C a:Addr}(c:jU K C)(e:PySem.W.kitOne K (.ref C) (.ref a)=some false):C≠a/\jU K C/\DQ K C a=true:=by
 unfold PySem.W.kitOne at e;by_cases q:(Value.ref C==Value.ref a)=true
 ·rw[aK q] at e;cases e
 rw[aJ q] at e;refine⟨fun i=>q (by rw[i];exact Lr _),c,?_⟩;have g:=c.ex;unfold PySem.W.excIn at g;split at g
 ·rename_i dd cd j h;have f:PySem.W.mroIn K C (.ref a)=some false:=by
   have d:(if((PySem.W.clsIn K a).isSome&&PySem.W.typeIn K (.ref a)==some (.type "type"))=true then PySem.W.mroIn K C (.ref a) else none)=some false:=e;split at d
   ·exact d
   ·cases d
  unfold PySem.W.mroIn PySem.W.clsIn at f;rw[h] at f;unfold DQ;rw[h];have b:(if cd.mro.isEmpty then none else some (cd.mro.contains (.ref a)))=some false:=f;split at b
  ·cases b
  ·injection b with b;show(!cd.mro.contains (.ref a))=true;rw[b];rfl
 ·cases g
def Hy(H H':Hp):Prop:=∀ b xs,H b=some (.tup xs)->H' b=some (.tup xs)
theorem Hy.put{H:Hp}{x:Addr}{o u:HO}(a:H x=some o)(c:∀ xs,o≠.tup xs):Hy H (upd H x u):=fun b xs e=>by
 rw[bG (fun d=>by rw[d,a] at e;exact c xs (iD e))];exact e
section
variable{K:ao}{H H':Hp}
theorem Hy.cell{v:V}{x:Cell}(s:Hy H H')(h:Den K H v (aC x)):Den K H' v (aC x):=by
 obtain⟨a,rfl,_,b⟩:=fJ h;exact .tup (s _ _ b) (.cons (.int _) (.cons (.int _) .nil))
theorem Hy.cells(s:Hy H H'):∀ {vs:List V} {cs:List Cell},bf K H vs (cs.map aC)->bf K H' vs (cs.map aC)
 |[],[],_=>.nil
 |v::vs,c::cs,.cons h t=>.cons (s.cell h) (s.cells t)
end
def iJ(c:Cell):List Key:=[.inl c.1,.inl c.2]
theorem Fy{a b:Cell}(e:iJ a=iJ b):a=b:=by
 unfold iJ at e;injection e with e1 e2;injection e2 with e2 _;injection e1 with e1;injection e2 with e2;exact nD e1 e2
end L2
namespace L2
open PySem PySem.Spec PyProof.Rows PySem.SeqAt PySem.MeetsSeq PySem.MeetsSeq2 PySem.MeetsSeq3
open PySem.AutoSeq1 (wpAny_loadPart')
theorem a1Z(I d:Addr)(n ep:Nat)(a:Array DictEntry)(m:Array (Option Value))(q:n=a.size):Meets (Builtin.«dict_keyiterator.__next__» ⟨[.ref I],[]⟩)
  (fun A R s=>A.handled=none/\s.heap.get? I=some { cls:=.type "dict_keyiterator",dict:=none,data:=.fields #[.ref d,.int n 0,.int n 0,.int ep 0],slots:=m }/\s.heap.get? d=some { cls:=.type "dict",dict:=none,data:=.dict a ep,slots:=#[] } /\
   ∀(h':Heap)(e:Addr),(∃ o,h'.get? e=some o/\o.cls=.type "StopIteration")->(∀ b o,b≠I->s.heap.get? b=some o->h'.get? b=some o)->R (.error (.ref e)) { s with heap:=h' }):=
 .of_wp fun prog w A R s h=>by
  obtain⟨r,g,p,tk,t⟩:=s;obtain⟨k,c,f,h⟩:=h
  wp_walk using wpAny_loadPart' c,wpAny_loadPart' f
  have e:(if(n:Int)<0 then none else a[((n:Nat):Int).toNat]?)=none:=by
   rw[aJ (by lia),gD];exact La (by lia)
  rw[e];dsimp only
  wp_walk using wpAny_loadPart' c,wpAny_loadPart' f
  unfold raiseNew;refine aR (wpAny_handled ?_);have l:A.in1.handled=none:=k;rw[l];refine aR (bN (wpAny_throw (h _ _ ⟨_,gn _ rfl,rfl⟩ fun b o j i=>fj _ (fj _ ?_))));rw[tV _ _ _ _ j];exact i
section
variable{P:Program}{w:World}{A:Around}{E:Value->Shared->Prop}{s:Shared}
def KIt(I d:Addr)(es:Array DictEntry)(ep i:Nat)(h:Heap):Prop:=
 (∃ z1,h.get? I=some { cls:=.type "dict_keyiterator",dict:=none,data:=.fields #[.ref d,.int i 0,.int es.size 0,.int ep 0],slots:=z1 })/\h.get? d=some { cls:=.type "dict",dict:=none,data:=.dict es ep,slots:=#[] }
theorem KIt.ty{I d:Addr}{a:Array DictEntry}{ep i:Nat}(k:KIt I d a ep i s.heap):s.TypeIs (.ref I) "dict_keyiterator":=let ⟨_,e⟩:=k.1;⟨_,e,rfl⟩
theorem YC{I d:Addr}{a:Array DictEntry}{ep i:Nat}{Q:Option Value->Shared->Prop}(k:KIt I d a ep i s.heap)(n:d≠I)(m:i<a.size)
  (l:∀ h' c,KIt I d a ep (i+1) h'->(∀ b o,b≠I->s.heap.get? b=some o->h'.get? b=some o)->Q (some a[i].key) { s with heap:=h',toks:=c }):wpAny (model P w) A (pyNext (.ref I)) Q E s:=by
 obtain⟨⟨g,h⟩,e⟩:=id k;unfold pyNext;refine aR (Ho (KY (name:=Str.ofString "__next__") k.ty Pu
  (yu Pu k.ty a0O (a0M _) (YW I d i a.size ep a none none g #[] .none m rfl) ⟨h,e,fun h' c j f=>?_⟩)))
 exact bN (l h' c ⟨⟨g,j⟩,f d _ n e⟩ f)
theorem a2m{I d:Addr}{a:Array DictEntry}{ep:Nat}{Q:Option Value->Shared->Prop}(i:A.handled=none)(k:KIt I d a ep a.size s.heap)
  (h:∀ h',(∀ b o,b≠I->s.heap.get? b=some o->h'.get? b=some o)->Q none { s with heap:=h' }):wpAny (model P w) A (pyNext (.ref I)) Q E s:=by
 obtain⟨⟨l,c⟩,f⟩:=id k;unfold pyNext;refine aR (Ho (KY (name:=Str.ofString "__next__") k.ty Pu
  (yu Pu k.ty a0O (a0M _) (a1Z I d a.size ep a l rfl) ⟨i,c,f,fun h' e j g=>?_⟩)))
 obtain⟨o,h1,h2⟩:=j;refine aR (Sd (T:="StopIteration") (b:=true) ⟨o,h1,h2⟩ isSubtype_stop ?_);exact bN (h h' g)
theorem YB{d:Addr}{a:Array DictEntry}{ep:Nat}{Q:Value->Shared->Prop}(lo:(d==sysModules)=false) (e:s.heap.get? d=some { cls:=.type "dict",dict:=none,data:=.dict a ep,slots:=#[] })
  (b:Q (.ref s.heap.objs.size) { s with heap:=s.heap.push { cls:=.type "dict_keyiterator",dict:=none,data:=.fields #[.ref d,.int 0 0,.int a.size 0,.int ep 0],slots:=#[] } }):wpAny (model P w) A (pyIter (.ref d)) Q E s:=by
 have ty:s.TypeIs (.ref d) "dict":=⟨_,e,rfl⟩
 refine S7 ty a1k (vo a1k ty PySem.F.entry_dict_iter ?_ (PySem.F.args_dict_iter_1 _));unfold Builtin.«dict.__iter__»;refine aR ?_;unfold Builtin.Dict.dictSlotNone;refine aR (wpAny_notOrdered_dict ty ?_);refine bN ?_;show wpAny _ _ (Builtin.Dict.showsAll d >>= _) _ _ s;unfold Builtin.Dict.showsAll;rw[lo,aJ (by decide)];refine aR (bN (aR (wpAny_dictEntries e rfl (aR (wpAny_dictEpoch e rfl ?_)))));exact aR (vf (bN ⟨_,rfl,"dict_keyiterator",_,⟨_,gn _ rfl,rfl⟩,Pu.lookup,b⟩))
theorem Wb(l:A.handled=none)(I d:Addr)(n:d≠I)(g:Array DictEntry)(ep:Nat):Walks P w A I [I,d] [I] g.size (fun i v=>∃ h:i<g.size,v=g[i].key) (KIt I d g ep) where
 sub:=fun b c=>by rw[dH.mp c];exact eF
 frame:=fun i h h' st k=>⟨let ⟨f,e⟩:=st.1;⟨f,k I eF _ e⟩,k d (gk _ eF) _ st.2⟩
 item:=fun i s Q E hi st a=>YC st n hi fun h' p m keep=>a _ h' p ⟨hi,rfl⟩ m fun b o c j=>keep b o (fun f=>c (by rw[f];exact dH.mpr rfl)) j
 done:=fun s Q E st a=>a2m l st fun h' keep=>a h' s.toks fun b o c j=>keep b o (fun f=>c (by rw[f];exact dH.mpr rfl)) j
 self:=fun i s Q E st a=>let ⟨_,e⟩:=st.1;wpAny_pyIter_keyiter ⟨_,e,rfl,rfl⟩ a
theorem a2n(d:Addr)(lo:(d==sysModules)=false)(a:Array DictEntry)(ep:Nat):PySem.W.KdlSrc P w "dict" d d a.size (fun i v=>∃ h:i<a.size,v=a[i].key) (fun h=>h.get? d=some { cls:=.type "dict",dict:=none,data:=.dict a ep,slots:=#[] }) where
 type:=fun s e=>⟨_,e,rfl⟩
 there:=fun h e=>⟨bO e,bO e⟩
 keep:=fun h h' e f=>f d (.inl rfl) _ e
 notList:=by decide
 notTuple:=by decide
 hint:=fun A E s Q e b=>PySem.W.kdl_hint_dict ⟨_,e,rfl⟩ b
 iter:=fun A s c e=>⟨_,_,fun E Q b=>YB lo e b,Wb c _ d (dZ (bO e)) a ep,⟨⟨_,gn _ rfl⟩,fj _ e⟩⟩
theorem Nz{T:String}{r d:Addr}{n:Nat}{j:Nat->Value->Prop}{m:Heap->Prop}{C:List Value->Shared->Prop}(S:PySem.W.KdlSrc P w T r d n j m)(t:A.handled=none)(ok:m s.heap)(hz:n<=sizeLine)
  (fin:∀(a:Heap)(tk:Nat)(g:Array Value),(∀ b o,s.heap.get? b=some o->a.get? b=some o)->s.heap.objs.size<=a.objs.size->ItemsOf j g n->C g.toList { s with heap:=a,toks:=tk }):wpAny (model P w) A (collect (.ref r)) C E s:=by
 obtain⟨v,u⟩:=S.there _ ok;unfold collect;refine aR (Sx (tW a0R ?_));rw[vC a0S _];show wpAny _ A.in1 (newList [] >>= fun q=>again (.builtin "list.__iadd__" ⟨[q,.ref r],[]⟩)) _ _ s;refine aR (vf (bN ⟨tX KZ _,tW a1g ?_⟩));rw[vC KZ _];have new:(s.heap.push { cls:=.type "list",data:=.seq ([]:List Value).toArray }).get? s.heap.objs.size=some { cls:=.type "list",data:=.seq #[] }:=gn _ rfl;have done:∀(a:Heap)(tk:Nat)(g:Array Value)(c:Nat),(∀ b o,b≠s.heap.objs.size->(s.heap.push { cls:=.type "list",data:=.seq ([]:List Value).toArray }).get? b=some o->a.get? b=some o)->a.get? s.heap.objs.size=some { cls:=.type "list",dict:=none,data:=.seq g c,slots:=#[] }->ItemsOf j g n ->
   wpAny (model P w) A (load s.heap.objs.size >>= fun o=>match o.data with|.seq xs _=>pure xs.toList|_=>unsupported "internal:collect") C E { s with heap:=a,toks:=tk }:=fun a tk g c k i l=>by
  refine aR (wpAny_load i (bN (fin a tk g (fun b o e=>k b o (dZ (bO e)) (fj _ e)) (Cw (bO i)) l)))
 have p:=PySem.W.kdl_extend (A:=A) (s:={ s with heap:=s.heap.push { cls:=.type "list",data:=.seq ([]:List Value).toArray } })
  (R:=fun(x:Result)(s2:Shared)=>x=.ok (.ret (.ref s.heap.objs.size))/\wpAny (model P w) A (load s.heap.objs.size >>= fun o=>match o.data with|.seq xs _=>pure xs.toList|_=>unsupported "internal:collect") C E s2)
  S t (S.keep _ _ ok fun b _ o e=>fj _ e) s.heap.objs.size (vB v) (vB u) (.ref s.heap.objs.size) 0 new (fun a tk g c k i l=>⟨rfl,done a tk g c k i l⟩) hz
 refine jy p (fun x s2 y=>?_) fun e s2 y=>?_
 ·cases x with
  |done f=>
   obtain⟨e,y⟩:=y;cases e;exact y
  |again c=>
   refine⟨y.1,qd y.2 fun q z h=>?_⟩;obtain⟨e,h⟩:=h;subst e;exact h
 ·exact absurd y.1 (by intro h;cases h)
end
open PySem.W
section
variable{X:Cx}
theorem a4I{cs:List Cell}{n:Nat}{o:Array Nat}(l:n=cs.length)(g:Good n o)(f:Jw jz (fun i=>cs.getD i (0,0)) o n):Asc (o.toList.map fun i=>cs.getD i (0,0)):=by
 unfold Asc;rw[Dg];intro i j hi a h;rw[aL,fu,g.size] at hi a;have c:=f.le vK (j-i) i (by lia);have d:i+(j-i)=j:=by lia
 rw[d] at c;have e:=iW c;have sz:=g.size;have key:∀ k,(b:k<n)->Ky (fun i=>cs.getD i (0,0)) o k=(o.toList.map fun i=>cs.getD i (0,0))[k]'(by rw[aL,fu,sz];exact b):=fun k b=>by
  unfold Ky;rw[Ce,qN,jc (by lia)];rfl
 rw[<- key i hi,<- key j a];exact e
theorem Ny{K:ao}{H:Hp}{f:Cell->V}:∀ {cs:List Cell} {ws:List (List Key×Addr×Value)},KT H (cs.map fun c=>(iJ c,f c)) ws->bf K H (ws.map fun x=>V.ref x.2.1) (cs.map aC)
 |[],ws,h=>by cases h;exact .nil
 |c::cs,ws,h=>by
  cases h with
  |@cons p q ps b a t=>exact .cons (.tup (show H q.2.1=some (.tup [.int c.1,.int c.2]) from a.2.1) (.cons (.int _) (.cons (.int _) .nil))) (Ny t)
theorem Ja:∀(ws:List (List Key×Addr×Value)),Vals (ws.map fun x=>V.ref x.2.1) (ws.map fun x=>Value.ref x.2.1)
 |[]=>.nil
 |x::ws=>.cons rfl (Ja ws)
def ZF(K:ao):List V->Hp->VK->Prop:=fun xs H Q=>∃(d:Addr)(cs:List Cell)(f:Cell->V),xs=[.ref d]/\H d=some (.dT (cs.map fun c=>(iJ c,f c)))/\cs.length<64/\∀ l ws ds,H l=none->bf K H ws (ds.map aC)->ds.Perm cs->Asc ds->Q (.ref l) (upd H l (.lst ws))
theorem Q6(ae:X.calm=true)(aw:X.A.units+60<cLine):fH X (.builtin "sorted") (ZF X.K):=by
 intro pins s zzs H xs aA Q I r h;obtain⟨d,cs,f,rfl,e,av,q⟩:=h;obtain⟨u,rfl,am⟩:=vals1 r;cases am;obtain⟨aB,lo,c,al,aj,es,J,ab,ad,L,M,au⟩:=Yg I.hok e;have ac:s.heap.get? d=some { cls:=.type "dict",dict:=none,data:=.dict es J,slots:=#[] }:=by
  obtain⟨ap,aq,ar,as⟩:=aj;obtain⟨D,E,F⟩:=ad;dsimp only at D E F L;subst D E F L;exact ab
 have l:=Ny (K:=X.K) al;have rv:=Ja c;have az:es.size=c.length:=size_of_entries M;have P:c.length=cs.length:=by have:=l.length;rwa[aL,aL] at this
 have ah:es.size<=sizeLine:=by rw[pK];lia
 refine Rn kind_sorted plain_sorted entry_sorted (args_sorted1 _) ?_;unfold Builtin.«sorted»;refine aR (m:=checkCount "sorted" 1 1 _) (bN (aR (Nz (a2n d lo es J) (I.ok.hd ae) ac ah fun k tk v keep C z=>?_)));have Y:v.toList=c.map fun x=>Value.ref x.2.1:=by
  refine Cd fun j=>?_
  rw[wM,cP];by_cases O:j<es.size
  ·have N:j<v.size:=by rw[z.1];exact O
   obtain⟨_,aa⟩:=z.2 j v[j] (jc N);rw[jc N,aa];have hw:j<c.length:=by lia
   have:es.toList[j]?=(c.map (entryOfKey (tupleKind (iK X.prog X.w))))[j]? :=by rw[M]
   rw[wM,jc O,cP,fY hw] at this;rw[fY hw];have W:=iD this;rw[W];rfl
  ·rw[La (by rw[z.1];lia),Dk (by lia)];rfl
 rw[Y];have B:(c.map fun x=>Value.ref x.2.1).length=cs.length:=by rw[aL,P]
 have R:(c.map fun x=>V.ref x.2.1).length=cs.length:=by rw[aL,P]
 generalize ay:(c.map fun x=>V.ref x.2.1)=vs at l rv R;generalize ax:(c.map fun x=>Value.ref x.2.1)=its at rv B;have y:its.length<=sizeLine:=by rw[pK];lia
 refine aR (LQ ?_ (by simpa using y));have p:(k.push (seqObj "list" its.toArray 0)).get? k.objs.size=some (seqObj "list" its.toArray 0):=gn _ rfl;show wpAny _ _ _ _ _ { s with heap:=k.push (seqObj "list" its.toArray 0),toks:=tk };refine aR (qU (vo slot_list_sort ⟨_,p,rfl⟩ entry_list_sort (En (h0:=s.heap) vK (Vq I l rv) (by show X.A.units+1+1+2<cLine;lia) (Mz I l rv) y p (fun b o n=>⟨fj _ (keep b o n),dZ (bO (keep b o n))⟩) fun o g ao=>⟨_,rfl,bN ⟨_,rfl,?_⟩⟩) (args_list_sort _)));obtain⟨Z,af⟩:=sortedHeap_at (vs:=its) (out:=(byP its o).toArray) p;have ag:H k.objs.size=none:=I.hok.fresh C;have G:∀ i∈o.toList,i<vs.length:=fun i hi=>by rw[R,<- B];exact fP.mp (g.perm.mem_iff.mp hi)
 have an:Vals (o.toList.map fun i=>vs.getD i .non) (byP its o):=Ei rv o.toList G;have T:bf X.K H (o.toList.map fun i=>vs.getD i .non) ((o.toList.map fun i=>cs.getD i (0,0)).map aC):=by
  have:=TF (d0:=aC (0,0)) l o.toList G;have U:(o.toList.map fun i=>(cs.map aC).getD i (aC (0,0)))=((o.toList.map fun i=>cs.getD i (0,0)).map aC):=by
   rw[lF];refine BP fun i hi=>?_
   simp only[fM,cP,Function.comp];cases cs[i]?<;>rfl
  rw[<- U];exact this
 have ak:(o.toList.map fun i=>cs.getD i (0,0)).Perm cs:=vY (by rw[<- B];exact g.perm);have S:Asc (o.toList.map fun i=>cs.getD i (0,0)):=a4I (by omega) g ao;have ai:(o.toList.map fun i=>vs.getD i .non).length<=sizeLine:=by
  rw[aL,fu,g.size];exact y
 refine⟨.ref k.objs.size,upd H k.objs.size (.lst (o.toList.map fun i=>vs.getD i .non)),I.laid (a:=k.objs.size) (o:=.lst (o.toList.map fun i=>vs.getD i .non)) (t':=tk) (fun b o n=>?_) C ⟨ai,byP its o,Z,an,af⟩,rfl,q _ _ _ ag T ak S⟩;have t:=keep b o n;rw[sortedHeap_old (dZ (bO t)) (by rw[size_push'];exact tG (bO t))];exact fj _ t
theorem a2j{K:ao}(b:X.calm=true)(c:X.A.units+60<cLine)(a:X.K=K:=by rfl):fH X (.builtin "sorted") (ZF K):=by subst a;exact Q6 b c
end
end L2
namespace L2
open PySem PySem.Spec PyProof.Rows
section
variable{X:Cx}{pins:List (Addr×Obj)}{zzs:L2.St}{H:Hp}{s:Shared}{h':Heap}
theorem Inv.a3P{t':Nat}{e f:Addr}(I:Inv X pins zzs H s)(k:∀ b o,b≠e->b≠f->s.heap.get? b=some o->h'.get? b=some o)(A:wz X pins H e)(B:wz X pins H f)(le:∃ o,h'.get? e=some o)(L:∃ o,h'.get? f=some o):Inv X pins zzs H { s with heap:=h',toks:=t' }:=by
 obtain⟨p,i,K,t,x,y⟩:=A;obtain⟨E,i1,i2,F,G,J⟩:=B;have j:∀ b u,H b=some u->b≠e:=fun b u q a=>by rw[a,p] at q;cases q
 have l:∀ b u,H b=some u->b≠f:=fun b u q a=>by rw[a,E] at q;cases q
 have h:∀ b o,b∉[e,f]->s.heap.get? b=some o->h'.get? b=some o:=fun b o g q=>k b o (fun a=>g (by simp[a])) (fun a=>g (by simp[a])) q
 refine I.step (g':=s.gens) (d':=s.drawn) (ch:=[e,f]) (fun b g=>?_) (fun b o _ _ d q _=>h b o d q) (fun b o _ _ d q _=>⟨o.slots,h b o d q⟩) (fun _ _ _ _ n=>n)
  (fun b o d q=>⟨o,h b o d q⟩) (fun _ _ q=>q) (fun _ _ _ q=>q) (fun b ps q=>⟨#[],by rw[q];simp⟩) (fun m C=>?_) (fun b u q=>?_) I.bare
 ·rcases dj.mp g with a|a
  ·subst a;exact⟨t,i,x,y⟩
  ·rw[dH.mp a];exact⟨F,i1,G,J⟩
 ·obtain⟨o,es,z,D,r⟩:=C;exact⟨o,es,z,k _ o (iR i) (iR i1) D,r⟩
 ·refine(I.hok b u q).stay (fun c v d w=>?_) (fun _ w=>w) fun _ _ w=>w
  rcases d with a|a
  ·rw[a] at w ⊢;exact k b v (j b u q) (l b u q) w
  ·exact k c v (j c _ a) (l c _ a) w
end
def Ite(K:ao)(a:Addr):It:=
 ⟨fun i H=>∃ xs x,SqL K H a xs/\xs[i]?=some x,fun i H v H'=>∃ t x,(∀ xs,SqL K H a xs->xs[i]?=some x)/\H t=none/\v=.ref t/\H'=upd H t (.tup [.int i,x]),fun i H=>∃ xs,SqL K H a xs/\xs.length<=i⟩
theorem Xi{P:Program}{w:World}{K:ao}{U:List Expr}{k:Nat}{pos:Pos}(a e g:Addr)(D:e≠g) :
  Turn P w K (.Tuple U k pos) (Ite K a) [e,g] e (fun i h=>(∃ j,IsEnum h e g i j)/\h.IsListIter g a i) where
 mem:=by simp
 obj:=fun i h st b l=>by
  obtain⟨⟨j,h1⟩,o,h2,c,d⟩:=st;rcases dj.mp l with f|f
  ·subst f;exact⟨_,h1,fun v f=>by cases f⟩
  ·rw[dH.mp f];exact⟨o,h2,fun v f=>by rw[d] at f;cases f⟩
 keep:=fun i h h' st kp=>⟨let ⟨j,h1⟩:=st.1;⟨j,kp e (by simp) _ h1⟩,st.2.at fun o q=>kp g (by simp) o q⟩
 item:=by
  intro X z hw y L i pins s zzs H E I m st A;subst z hw y;obtain⟨xs,x,n,C⟩:=A;obtain⟨ai,rv,p,ah⟩:=I.list n;obtain⟨u,af,ak⟩:=rv.get C;obtain⟨⟨j,h1⟩,h2⟩:=id st;have G:=m e (by simp);have J:=m g (by simp);refine wpAny_pyNext_enum_item h1 h2 p.isList (x:=u) (by simpa using af) D fun h' ae N ab aq ad=>?_
  refine⟨_,rfl,wpAny_letOwnedTupleGo_enum ae fun t M r=>?_⟩;have O:e<s.heap.objs.size:=bO h1;have aj:g<s.heap.objs.size:=let ⟨_,q,_⟩:=h2;bO q;have Q:Inv X pins zzs H { s with heap:=t,toks:=s.toks+1 }:=I.a3P (fun b o F S q=>(r.2 b F).trans (ad b o F S q)) G J ⟨_,M⟩ (let ⟨o,q,_⟩:=N;⟨o,(r.2 g D.symm).trans q⟩);have B:H s.heap.objs.size=none:=I.hok.fresh (bK _);obtain⟨ar,al,as,au,am,an⟩:=I.Nv (H':=H) (bK _) B;have ac:t.get? s.heap.objs.size=some { cls:=.type "tuple",data:=.seq #[.int i s.toks,u] }:=(r.2 _ (vB O)).trans ab;have R:Inv X pins zzs (upd H s.heap.objs.size (.tup [.int i,x])) { s with heap:=t,toks:=s.toks+1 }:=Q.track B I.sz al am an ⟨by show 2<=sizeLine;rw[pK];decide,[.int i s.toks,u],.cons ⟨_,rfl⟩ (.cons ak .nil),?_⟩
  ·refine⟨.ref s.heap.objs.size,_,R,rfl,⟨_,x,fun ys ag=>by rw[I.Fz ag n];exact C,B,rfl,rfl⟩,⟨⟨u,by simpa using M⟩,N.at fun o q=>(r.2 g D.symm).trans q⟩,fun b l=>?_⟩;rcases dj.mp l with f|f
   ·rw[f,bG (dZ O)];exact G.1
   ·rw[dH.mp f,bG (dZ aj)];exact J.1
  ·exact⟨_,ac,rfl,0,rfl⟩
 done:=by
  intro X z hw y L i pins s zzs H E I m st A;subst z hw y;obtain⟨xs,n,C⟩:=A;obtain⟨ai,rv,p,ah⟩:=I.list n;obtain⟨⟨j,h1⟩,h2⟩:=id st;obtain⟨W,f1,f2,Y,Z,aa⟩:=m g (by simp);have ap:=rv.length;exact wpAny_pyNext_enum_end (I.ok.hd L) h1 h2 p.isList (by simp;lia) fun h' T=>⟨rfl,I.turned (t':=s.toks) (fun b o l q=>T b o l q) W f1 Y Z aa⟩
 self:=fun _ _ _ _ _ st h=>let ⟨_,h1⟩:=st.1;wpAny_pyIter_enum h1 h
section
variable{X:Cx}{elts:List Expr}{k:Nat}{tpos p pos:Pos}{l:Expr}{ta:TA}
def a4b(K:ao)(ta:TA):TI:=fun zzs H R=>ta zzs H fun vs H1=>∃ a,vs=[.ref a]/\(∃ xs,SqL K H1 a xs)/\R (Ite K a) H1
theorem a2S (j:Gl X "enumerate") (n:X.mg "enumerate" = none) (g:PA X [l] ta) (t:starEach [l] X.env=[(false,eval l X.env)]:=by rfl):PI X (.Tuple elts k tpos) (.Call (.Name "enumerate" p) [l] [] pos) (a4b X.K ta):=by
 intro pins s zzs H R I h;refine Call_ (xG I j n JC (KN (thn (g pos pins s zzs H _ I h) fun D s1 z=>?_) t rfl));obtain⟨E,H1,c,x,w⟩:=z;obtain⟨a,e,⟨xs,o⟩,q⟩:=w;subst e;cases x with
 |cons r y=>
   cases y;cases r;obtain⟨C,rv,v,B⟩:=c.list o;refine call_enumerate_list v.isList fun h' f m A keep=>wpAny_pyIter_enum f ?_
   have u:s1.heap.objs.size+1≠s1.heap.objs.size:=Nat.succ_ne_self _;refine⟨s1.heap.objs.size+1,[s1.heap.objs.size+1,s1.heap.objs.size],_,_,H1,rfl,c.kept (t':=s1.toks) keep,Xi a _ _ u,⟨⟨_,f⟩,m⟩,fun b i=>?_,q⟩;rcases dj.mp i with d|d
   ·rw[d];exact c.Nv (tL _) (c.hok.fresh (tL _))
   ·rw[dH.mp d];exact c.Nv (bK _) (c.hok.fresh (bK _))
theorem NK{K:ao} (c:Gl X "enumerate") (d:X.mg "enumerate" = none) (b:RA X [l] ta) (a:X.K=K:=by rfl) (e:notStar l=true:=by rfl):RI X (.Tuple elts k tpos) (.Call (.Name "enumerate" p) [l] [] pos) (a4b K ta):=by
 subst a;exact⟨a2S c d b.ok (mF e)⟩
end
theorem Nu{K:ao}{a:Addr}{xs:List V}{g:TG}{n:TS}{b:Ends}{zzs:L2.St}{H:Hp}(R:Nat->L2.St->Hp->Prop)(h0:R 0 zzs H)(h:∀ i zzs H,i<=xs.length->R i zzs H->SqL K H a xs)
  (p:∀ i x zzs H t,xs[i]?=some x->R i zzs H->H t=none->g (.ref t) zzs (upd H t (.tup [.int i,x])) fun j c=>n { b with nx:=R (i+1),ct:=R (i+1),bk:=b.nx } j c)
  (o:∀ zzs H,R xs.length zzs H->b.nx zzs H) :
  ∃ d:Nat->Nat->L2.St->Hp->Prop,(∃ m,d 0 m zzs H)/\∀ i m zzs H,d i m zzs H->((Ite K a).stop i H/\b.nx zzs H)\/((Ite K a).go i H/\∃ N:L2.St->Hp->Prop,(∀ f H',N f H'->∃ l,l<m/\d (i+1) l f H')/\∀ x H',(Ite K a).yld i H x H'->g x zzs H' fun j c=>n { b with nx:=N,ct:=N,bk:=b.nx } j c):=by
 refine⟨fun i m zzs H=>m=xs.length-i/\i<=xs.length/\R i zzs H,⟨xs.length,by lia,jh _,h0⟩,?_⟩;rintro i m zzs H ⟨rfl,hi,r⟩;by_cases k:i<xs.length
 ·refine .inr ⟨⟨xs,xs[i],h i zzs H hi r,by simp[k]⟩,R (i+1),fun f H' u=>⟨xs.length-(i+1),by omega,rfl,k,u⟩,?_⟩;rintro v H' ⟨t,x,q,s,rfl,rfl⟩;exact p i x zzs H t (q xs (h i zzs H hi r)) r s
 ·have e:i=xs.length:=by lia
  subst e;exact .inl ⟨⟨xs,h _ zzs H (bK _) r,bK _⟩,o zzs H r⟩
def Ris(xs:Array Nat):Prop:=xs.toList.Pairwise (· < ·)
theorem Ris.lt{xs:Array Nat}(r:Ris xs){i j:Nat}(a:i<j)(b:j<xs.size):xs[i]'(by lia)<xs[j]:=by
 have:=Dg.mp r i j (by rw[fu];lia) (by rw[fu];omega) a;simpa using this
theorem Ris.le{xs:Array Nat}(r:Ris xs){i j:Nat}(a:i<=j)(b:j<xs.size):xs[i]'(by lia)<=xs[j]:=by
 rcases a1C a with h|h
 ·exact Cw (r.lt h b)
 ·subst h;exact bK _
structure Cut(xs:Array Nat)(j b:Nat):Prop where
 le:b<=xs.size
 lo:∀ k,(hk:k<xs.size)->k<b->xs[k]<j
 hi:∀ k,(hk:k<xs.size)->b<=k->j<=xs[k]
theorem Er{xs:Array Nat}(r:Ris xs)(j:Nat):∀(d lo c:Nat),c<=xs.size->lo<=c->c-lo<=d->(∀ k,(f:k<xs.size)->k<lo->xs[k]<j)->(∀ k,(f:k<xs.size)->c<=k->j<=xs[k])->Cut xs j (SetTable.below.go xs j d lo c)
 |0,lo,c,h1,h2,n,a,b=>by
  have e:lo=c:=by lia
  subst e;exact⟨h1,a,b⟩
 |d+1,lo,c,h1,h2,n,a,b=>by
  unfold SetTable.below.go;by_cases h:lo<c
  ·rw[aK h];have l:(lo+c) / 2<xs.size:=by lia
   have m:xs.getD ((lo+c) / 2) j=xs[(lo+c) / 2]:=by simp[Array.getD,l]
   dsimp only;rw[m];by_cases g:xs[(lo+c) / 2]<j
   ·rw[aK g];exact Er r j d _ c h1 (by lia) (by lia) (fun k f i=>Lj (r.le (by lia) l) g) b
   ·rw[aJ g];exact Er r j d lo _ (by lia) (by lia) (by lia) a (fun k f i=>cU (M8.mp g) (r.le i f))
  ·rw[aJ h];have e:lo=c:=by lia
   subst e;exact⟨h1,a,b⟩
theorem Ag{xs:Array Nat}(r:Ris xs)(j:Nat):Cut xs j (SetTable.below xs j):=
 Er r j _ _ _ (bK _) (jh _) (by lia) (fun _ _ h=>absurd h (Ly _)) (fun k a h=>absurd a (M8.mpr h))
theorem Cut.uniq{xs:Array Nat}{j b c:Nat}(x:Cut xs j b)(y:Cut xs j c):b=c:=by
 rcases Nat.lt_trichotomy b c with h|h|h
 ·have a:b<xs.size:=jw h y.le;have:=x.hi b a (bK _);have:=y.lo b a h;lia
 ·exact h
 ·have d:c<xs.size:=jw h x.le;have:=y.hi c d (bK _);have:=x.lo c d h;lia
structure Tab(b:Bool)(t:SetTable):Prop where
 led:t.led=b
 ris:Ris t.place
 dum:t.dummies=#[]
theorem X7(n:Nat):Ris (Array.range n):=by
 unfold Ris;rw[Array.toList_range];exact a1l
theorem Tab.fresh(f m:Nat)(b:Bool):Tab b (SetTable.fresh f m b):=⟨rfl,List.Pairwise.nil,rfl⟩
theorem Tab.standIn{b:Bool}{t:SetTable}(x:Tab b t)(n:Nat):Tab b (t.standIn n):=⟨x.led,X7 n,rfl⟩
theorem Tab.orStandIn{b:Bool}{t:SetTable}(x:Tab b t)(n:Nat):Tab b (t.orStandIn n):=by
 unfold SetTable.orStandIn;split
 ·exact x
 ·exact x.standIn n
theorem has_none(j:Nat):SetTable.has #[] j=false:=by
 unfold SetTable.has;simp
theorem QW{xs:Array Nat}(r:Ris xs){j:Nat}(h:xs[SetTable.below xs j]?≠some j):Ris (SetTable.insertAt xs (SetTable.below xs j) j):=by
 have c:=Ag r j;generalize SetTable.below xs j=b at c h;unfold Ris;rw[SetTable.toList_insertAt];have e:xs.toList=xs.toList.take b++xs.toList.drop b:=(yc b xs.toList).symm;have l:=r;unfold Ris at l;rw[e] at l;obtain⟨p1,p2,t⟩:=wN.mp l;have lo:∀ a∈xs.toList.take b,a<j:=fun a f=>by
  obtain⟨k,g,e⟩:=Li f;rw[jd,fu] at g;rw[List.getElem_take] at e;have:=c.lo k (by lia) (by lia);rw[<- e];simpa using this
 have hi:∀ a∈xs.toList.drop b,j<a:=fun a f=>by
  obtain⟨k,g,e⟩:=Li f;rw[vh,fu] at g;rw[List.getElem_drop] at e;have n:b+k<xs.size:=by lia
  have h1:=c.hi (b+k) n (by lia);have m:xs[b+k]=a:=by simpa using e
  rw[m] at h1;rcases a1C h1 with d|d
  ·exact d
  ·exfalso;by_cases s:k=0
   ·subst s;refine h ?_;rw[jc (by omega)];congr 1;simpa [d] using m
   ·have p:b<xs.size:=by lia
    have:=r.lt (i:=b) (j:=b+k) (by lia) n;have:=c.hi b p (bK _);lia
 refine wN.mpr ⟨p1,vD.mpr ⟨hi,p2⟩,fun a f o q=>?_⟩;rcases dj.mp q with d|d
 ·rw[d];exact lo a f
 ·exact t a f o d
theorem Jj{t:SetTable}(b:t.dummies=#[])(j:Nat):t.slot j≠.dummy/\(t.slot j=.empty->t.place[SetTable.below t.place j]?≠some j):=by
 unfold SetTable.slot;dsimp only;rw[b,has_none];by_cases h:(t.place[SetTable.below t.place j]?==some j)=true
 ·rw[aK h];exact⟨(by intro a;cases a),(by intro a;cases a)⟩
 ·rw[aJ h];refine⟨by simp,fun _ a=>h (by rw[a];simp)⟩
theorem CV{t:SetTable}(c:t.dummies=#[])(f:Nat->Int)(h:Int):∀(a:Nat)(p:SetTable.Probe)(j:Nat)(d:Option Nat),p.dummy=none->SetTable.probe.go t f h a p=some (.empty j d)->d=none/\t.slot j=.empty
 |0,p,j,d,_,e=>by cases e
 |a+1,p,j,d,b,e=>by
  unfold SetTable.probe.go at e;have g:(t.advance p).dummy=none:=by
   unfold SetTable.advance;split
   ·exact b
   ·exact b
  split at e
  ·rename_i q;have e:=iD e;injection e with e1 e2;subst e1 e2;exact⟨b,q⟩
  ·rename_i q;exact absurd q (Jj c _).1
  ·split at e
   ·cases e
   ·exact CV c f h a _ j d g e
theorem Tab.layNew{b:Bool}{t:SetTable}(x:Tab b t)(c:Array (Int×Value))(h:Int)(v:Value):Tab b (layNew t c h v).2.1:=by
 unfold PySem.layNew;split
 ·rename_i g k e;refine Tab.orStandIn ?_ _;unfold SetTable.freeSlot at e;split at e
  ·rename_i j d q;obtain⟨a,i⟩:=Prod.mk.inj (iD e);unfold SetTable.probe at q;obtain⟨rfl,f⟩:=CV x.dum _ _ _ _ _ _ rfl q;have a:j=g:=a;subst a;unfold SetTable.put;dsimp only;refine⟨x.led,QW x.ris ((Jj x.dum j).2 f),?_⟩;show(if SetTable.has t.dummies j=true then _ else t.dummies)=#[];rw[x.dum,has_none];rfl
  ·cases e
 ·exact x.standIn _
theorem ZR{n:Nat}{g:Nat->Option Nat}:Ris ((((List.range n).filterMap fun j=>(g j).map (j,·)).map (·.1)).toArray):=by
 unfold Ris;simp only[RX,List.pairwise_filterMap];refine a1l.imp fun d a c b e=>?_
 obtain⟨_,_,rfl⟩:=gj.mp c;obtain⟨_,_,rfl⟩:=gj.mp e;exact d
theorem Tab.relayAll{b:Bool}{t:SetTable}(x:Tab b t)(a:Array (Int×Value))(n:Nat):Tab b (relayAll t a n).2.1:=by
 unfold PySem.relayAll;split
 ·rename_i g o e;dsimp only;split
  ·unfold SetTable.relaid SetTable.laid at e;cases c:SetTable.layClean (SetTable.sizeAbove n-1) (a.map (·.1)) with
   |none=>rw[c] at e;cases e
   |some f=>
    rw[c] at e;obtain⟨d,_⟩:=Prod.mk.inj (iD e);rw[<- d];exact⟨x.led,ZR,rfl⟩
  ·exact x.standIn _
 ·exact x.standIn _
abbrev fL(es:Array (Int×Value))(ep:Nat)(t:SetTable):Obj:={ cls:=.type "set",dict:=none,data:=.set es ep t,slots:=#[] }
def xO:Int×Value->Int
 |(_,.int n _)=>n
 |_=>0
def a4G(e:Int×Value):Prop:=∃ d t,e=(hashInt d,.int d t)
structure zW(b:Bool)(es:Array (Int×Value))(t:SetTable)(ds:List Int):Prop where
 tab:Tab b t
 fit:t.fits es.size=true
 els:∀ e∈es.toList,a4G e
 ids:es.toList.map xO=ds
 nd:ds.Nodup
 sm:ds.length<4000
def rA(b:Bool)(h:Heap)(a:Addr)(ds:List Int):Prop:=∃ es ep t,h.get? a=some (fL es ep t)/\zW b es t ds
section
variable{P:Program}{w:World}{A:Around}{E:Value->Shared->Prop}{s:Shared}{b:Bool}{a:Addr}{ds:List Int}
theorem zW.len{a:Array (Int×Value)}{t:SetTable}(x:zW b a t ds):a.size=ds.length:=by
 rw[<- x.ids,aL,fu]
theorem zW.elems{a:Array (Int×Value)}{t:SetTable}(x:zW b a t ds):ElemsOf (intKind P w) a.toList:=fun e c=>by
 obtain⟨d,t,rfl⟩:=x.els e c;exact⟨⟨d,by simp[intKind,Value.isInt],rfl⟩,rfl⟩
theorem zW.mem{f:Array (Int×Value)}{t:SetTable}(x:zW b f t ds)(d:Int):d∈ds↔∃ e∈f.toList,(intKind P w).is d e.2=true:=by
 rw[<- x.ids];constructor
 ·intro h;obtain⟨e,a,q⟩:=cW.mp h;obtain⟨c,t,rfl⟩:=x.els e a;have q:c=d:=q;exact⟨_,a,by subst q;simp[intKind,Value.isInt]⟩
 ·rintro⟨e,a,q⟩;obtain⟨c,t,rfl⟩:=x.els e a;refine cW.mpr ⟨_,a,?_⟩;have q:Value.isInt d (.int c t)=true:=q;obtain⟨i,g⟩:=Value.isInt_shape q;injection g
theorem rA.kept{h h':Heap}(S:rA b h a ds)(k:∀ o,h.get? a=some o->h'.get? a=some o):rA b h' a ds:=let ⟨es,ep,t,e,x⟩:=S;⟨es,ep,t,k _ e,x⟩
theorem rA.put{f c:Array (Int×Value)}{ep:Nat}{t t':SetTable}{h:Heap}{d:List Int}(e:h.get? a=some (fL f ep t))(x:zW b c t' d):(h.update a (Obj.putSet c t')).get? a=some (fL c (ep+1) t')/\rA b (h.update a (Obj.putSet c t')) a d:=by
 have g:(h.update a (Obj.putSet c t')).get? a=some (fL c (ep+1) t'):=Dj (Obj.putSet c t') e rfl;exact⟨g,c,ep+1,t',g,x⟩
theorem FP{d:Int}(nd:ds.Nodup)(n:d∉ds):(ds++[d]).Nodup:=zH.mpr ⟨nd,by simp,fun a b c f e=>n (by rw[<- dH.mp f,<- e];exact b)⟩
theorem a1I{d:Int}{tk:Tok}{Q:Bool->Shared->Prop}(S:rA b s.heap a ds)(U:ds.length+1<4000)
  (T:∀ h' g r,Heap.SameBut a s.heap h'->rA b h' a g->(∀ n,n∈g↔(n∈ds\/n=d))->g.length<=ds.length+1->Q r { s with heap:=h' }) :
  wpAny (model P w) A (setAddHashed a (.int d tk) (hashInt d)) Q E s:=by
 obtain⟨es,H,t,e,x⟩:=id S;have el:=x.elems (P:=P) (w:=w);have sz:=x.len;have big:∀ n:Nat,n<4000->n<scanBound:=fun n h=>Nat.lt_trans h (by decide)
 have X:∀ n:Nat,n<4000->n<=sizeLine:=fun n h=>fits_of_scanBound (big n h)
 have ag:(intKind P w).is d (.int d tk)=true:=by simp[intKind,Value.isInt]
 unfold setAddHashed setAddHashedIn;refine qU (aR (GR (o:=fL es H t) e rfl x.fit ?_));dsimp only;rw[byScan_of (knd:=intKind P w) rfl (big _ (by lia)) el,aK rfl];unfold setAddByScan;refine aR (aR (lA (aR (wpAny_setScan_of (knd:=intKind P w) (k:=d) ag e rfl x.fit el ?_))));have ad:∀(c:Bool){s1:Shared}{m:Unit->Shared->Prop},m () s1->wpAny (model P w) A (match c with|true=>rule "set.scan.the-table-gave-way" | false=>pure ()) m E s1:=fun c s1 m q=>by
  cases c
  ·exact bN q
  ·exact lA q
 cases W:List.findIdx? (fun e=>(intKind P w).is d e.2) es.toList with
 |some j=>
  obtain⟨ae,ai,_⟩:=List.findIdx?_eq_some_iff_getElem.mp W;have B:d∈ds:=(x.mem (P:=P) (w:=w) d).mpr ⟨_,mL ae,ai⟩;dsimp only;refine bN (bN ?_);have:=T s.heap ds false (Heap.SameBut.refl a s.heap) S (fun n=>⟨.inl,fun i=>i.elim id (fun i=>by rw[i];exact B)⟩) (tL _);exact this
 |none=>
  have B:d∉ds:=fun i=>by
   obtain⟨u,v,q⟩:=(x.mem (P:=P) (w:=w) d).mp i;have:=List.findIdx?_eq_none_iff.mp W u v;rw[q] at this;cases this
  dsimp only;have pm:=layNew_perm t es (hashInt d) (.int d tk);have J:=layNew_fits t es (hashInt d) (.int d tk);have tb:=x.tab.layNew es (hashInt d) (.int d tk);generalize layNew t es (hashInt d) (.int d tk)=L at pm J tb ⊢;obtain⟨f,M,ak,am⟩:=L;dsimp only at pm J tb ⊢;rw[Ca] at pm;have y:(f.toList.map xO).Perm (ds++[d]):=by
   have:=pm.map xO;rw[d9,x.ids] at this;exact this
  have D:zW b f M (f.toList.map xO):=by
   refine⟨tb,J,fun u v=>?_,rfl,y.nodup_iff.mpr (FP x.nd B),?_⟩
   ·rcases dw.mp (pm.mem_iff.mp v) with i|i
    ·exact x.els u i
    ·exact⟨d,tk,dH.mp i⟩
   ·rw[y.length_eq,cH,jC];exact U
  have an:f.size=ds.length+1:=by rw[D.len,y.length_eq,cH,jC]
  have fin:∀ h' (g:List Int),Heap.SameBut a s.heap h'->rA b h' a g->g.Perm (ds++[d])->Q true { s with heap:=h' }:=fun h' g K F p=>
   T h' g true K F (fun n=>by rw[p.mem_iff,dw,dH]) (by rw[p.length_eq,cH,jC];exact bK _)
  have Z:∀ l:SetTable,zW b f l (f.toList.map xO)->∀ {k:Bool->Sem Unit},(∀(c:Bool){s1:Shared}{m:Unit->Shared->Prop},m () s1->wpAny (model P w) A (k c) m E s1)->wpAny (model P w) A (do
    storeSet a f l
    if(!ak&&l.tooFull)=true then
     k (relayAll l f (SetTable.grown f.size)).2.2
     storeSet a (relayAll l f (SetTable.grown f.size)).1 (relayAll l f (SetTable.grown f.size)).2.1
     pure (some true)
    else pure (some true)) (fun r s2=>∃ h' g,r=some true/\s2={ s with heap:=h' }/\Heap.SameBut a s.heap h'/\rA b h' a g/\g.Perm (ds++[d])) E s:=fun l aa k af=>by
   refine aR (wpAny_storeSet_of (o:=fL es H t) e rfl ?_ (X _ (by lia)));obtain⟨R,ab⟩:=rA.put e aa;have Y:=Heap.SameBut.update s.heap a (Obj.putSet f l);split
   ·have C:=relayAll_perm l f (SetTable.grown f.size);have I:=relayAll_fits l f (SetTable.grown f.size);have N:=aa.tab.relayAll f (SetTable.grown f.size);generalize relayAll l f (SetTable.grown f.size)=G at C I N ⊢;obtain⟨z,aj,al⟩:=G;dsimp only at C I N ⊢;have p2:(z.toList.map xO).Perm (ds++[d]):=(C.map xO).trans y;have O:zW b z aj (z.toList.map xO):=⟨N,I,fun u v=>D.els u (C.mem_iff.mp v),rfl,p2.nodup_iff.mpr (FP x.nd B),by rw[p2.length_eq,cH,jC];exact U⟩
    have ah:z.size<4000:=by rw[O.len];exact O.sm
    refine aR (af _ (aR (wpAny_storeSet_of (o:=fL f (H+1) l) R rfl (bN ?_) (X _ ah))));exact⟨_,_,rfl,rfl,Y.trans (Heap.SameBut.update _ a _),(rA.put R O).2,p2⟩
   ·exact bN ⟨_,_,rfl,rfl,Y,ab,y⟩
  refine aR (ad _ ?_);have last:∀(r:Option Bool)(s2:Shared),(∃ h' g,r=some true/\s2={ s with heap:=h' }/\Heap.SameBut a s.heap h'/\rA b h' a g/\g.Perm (ds++[d]))->wpAny (model P w) A (match r with|some ac=>pure ac|none=>setAddHashedIn a (.int d tk) (hashInt d) 99999) Q E s2:=by
   rintro r s2 ⟨h',g,rfl,rfl,K,F,p⟩;exact bN (fin h' g K F p)
  split
  ·refine aR ?_;rw[hashByValue_scannable 8 rfl];refine bN ?_;simp only[plainKind,↓reduceIte];exact jy (Z M D (fun c s1 m q=>by cases c<;>first|exact bN q|exact lA q)) last fun _ _ i=>i
  ·refine aR (bN ?_);simp only[↓reduceIte];exact jy (Z M D (fun c s1 m q=>by cases c<;>first|exact bN q|exact lA q)) last fun _ _ i=>i
end
section
variable{P:Program}{w:World}{A:Around}{E:Value->Shared->Prop}{s:Shared}
abbrev kh(b:Bool):Obj:=fL #[] 0 (.fresh 0 0 b)
theorem a05(h:Heap)(b:Bool):rA b (h.push (kh b)) h.objs.size []:=
 ⟨#[],0,_,gn _ rfl,Tab.fresh _ _ _,rfl,(fun e a=>by cases a),rfl,Cu,by decide⟩
theorem a3G(x:Value){Q:Value->Shared->Prop} (h:Q (.ref s.heap.objs.size) { s with heap:=s.heap.push (kh (!w.params.followText "set-order")) }) :
  codeAny (model P w) A (.call (.builtin "set.__new__") ⟨[.type "set",x],[]⟩) (wants Q E) s:=by
 refine codeAny_of_tree (show wpAny _ A.in1 (do checkBuiltinCall "set.__new__" ⟨[.type "set",x],[]⟩;again (.builtin "set.__new__" ⟨[.type "set",x],[]⟩)) _ _ s from ?_);refine aR (wpAny_of_eq (PySem.F.newCall_set_1 x) (bN ⟨tX a1n _,tW PySem.F.entry_set_new ?_⟩));rw[vC a1n _];unfold Builtin.«set.__new__» Builtin.Frozenset.newClass;have c:=sub_set_self;obtain⟨a,g,d,tk,b⟩:=s;dsimp only
 wp_walk
 refine Cg (bN ?_);dsimp only;simp only[newObj];exact aR (wpAny_alloc (bN (bN h)))
theorem YH{R:Result->Shared->Prop}{b:Bool}{I:Addr}{fp y:List Addr}{n:Nat}{V:Nat->Value->Prop}{St:Nat->Heap->Prop}(g:Walks P w A.in1 I fp y n V St)(S:Addr)(z:S∉fp)(val:Nat->Int)(L:∀ i v,V i v->∃ t,v=.int (val i) t)(u:n<3000) :
  ∀(k i:Nat)(s:Shared)(a:List Int),n-i=k->i<=n->St i s.heap->rA b s.heap S a->a.length<=i->(∀ m,m∈a↔∃ j,j<i/\val j=m) ->
   (∀ h' tk h,rA b h' S h->h.length<=n->(∀ m,m∈h↔∃ j,j<n/\val j=m)->(∀ c o,c∉y->c≠S->s.heap.get? c=some o->h'.get? c=some o)->R (.ok (.ret .none)) { s with heap:=h',toks:=tk }) ->
   codeAny (model P w) A (.builtin "set.update.loop" ⟨[.ref S,.ref I],[]⟩) R s:=by
 have C:S∉y:=fun f=>z (g.sub _ f)
 intro k
 induction k with
 |zero=>
  intro i s a K hi st x B p l;have e:i=n:=by lia
  subst e;refine tW a0N ?_;rw[vC Rm _];refine(show wpAny _ A.in1 (pyNext (.ref I) >>= _) _ _ s from aR (g.done s _ _ st fun h' tk keep=>?_));exact bN (l h' tk a (x.kept fun o q=>keep S o C q) B p fun c o d _ q=>keep c o d q)
 |succ k M=>
  intro i s a K hi st x B p l;have lt:i<n:=by lia
  refine tW a0N ?_;rw[vC Rm _];refine(show wpAny _ A.in1 (pyNext (.ref I) >>= _) _ _ s from aR (g.item i s _ _ lt st fun v h' tk H X keep=>?_));obtain⟨t,rfl⟩:=L i v H;have W:rA b h' S a:=x.kept fun o q=>keep S o C q
  refine(show wpAny _ A.in1 (holding [Value.int (val i) t] (setAdd S (.int (val i) t)) >>= _) _ _ _ from aR (qU ?_));unfold setAdd;refine qU (aR ((intKind P w).pyHash (k:=val i) (by simp[intKind,Value.isInt]) ?_));refine a1I (s:={ s with heap:=h',toks:=tk+1 }) W (by lia) fun h2 E r D s2 Q Z=>?_
  refine bN ⟨tX Rm _,M (i+1) _ E (by lia) lt (g.frame _ _ _ X fun c d o q=>?_) s2 (by lia) (fun m=>?_) fun G Y F U O T N=>?_⟩
  ·rw[D.2 c (fun f:c=S=>z (by rw[<- f];exact d))];exact q
  ·rw[Q m,p m];constructor
   ·rintro(⟨j,J,q⟩|q)
    ·exact⟨j,by lia,q⟩
    ·exact⟨i,by lia,q.symm⟩
   ·rintro⟨j,J,q⟩;by_cases f:j=i
    ·subst f;exact .inr q.symm
    ·exact .inl ⟨j,by lia,q⟩
  ·refine l G Y F U O T fun c o d u q=>N c o d u ?_
   rw[D.2 c u];exact keep c o d q
set_option maxHeartbeats 3200000 in
theorem Vn{l:Addr}{items:Array Value}{ns:List Int}{Q:Value->Shared->Prop}(U:A.handled=none)(W:s.heap.IsList l items)(y:IntsAre items.toList ns)(S:items.size<3000)
  (h:∀ h' tk a,rA (!w.params.followText "set-order") h' s.heap.objs.size a->(∀ m,m∈a↔m∈ns)->a.length<=ns.length->(∀ c o,s.heap.get? c=some o->h'.get? c=some o)->Q (.ref s.heap.objs.size) { s with heap:=h',toks:=tk }) :
  wpAny (model P w) A (call (.type "set") [.ref l]) Q E s:=by
 generalize T:(!w.params.followText "set-order")=b at h;have tc:=PySem.F.called_set;obtain⟨c,tl,ao⟩:=tc.mro;have an:=tc.made;have ap:=tc.sub;have h1:=tc.notType;have h2:=tc.canCreate;have al:=PySem.F.typeCall_set_1 (.ref l);refine M7 (codeAny_of_tree (show wpAny _ _ (callAny (.type "set") _) _ _ _ from bN ⟨Code.quiet_builtin _ (by decide +kernel),tW PySem.F.entry_type_call ?_⟩));rw[Around.under_plain (weight_type_call_type "set" [.ref l] []) rfl]
 repeat (any_goals (first|assumption|wp_step))
 refine qd (a3G (.ref l) (E:=E) (Q:=fun obj s1=>obj=.ref s.heap.objs.size/\s1={ s with heap:=s.heap.push (kh b) }) (by subst T;exact⟨rfl,rfl⟩)) fun r s1 f=>?_
 cases r with
 |error e=>exact f
 |ok M=>
  cases M with
  |ret obj=>
   obtain⟨rfl,rfl⟩:=f;have I:(s.heap.push (kh b)).get? s.heap.objs.size=some (kh b):=gn _ rfl;have ty:Shared.TypeIs { s with heap:=s.heap.push (kh b) } (.ref s.heap.objs.size) "set":=⟨_,I,rfl⟩
   have am:=tc.init.lookup;have ak:=tc.init.bind (.ref s.heap.objs.size)
   repeat (any_goals (first|assumption|wp_step))
   refine qd (codeAny_call_builtin (R:=wants (fun r s2=>r=.none/\∃ h' tk a,s2={ s with heap:=h',toks:=tk }/\rA b h' s.heap.objs.size a/\(∀ m,m∈a↔m∈ns)/\a.length<=ns.length/\∀ c o,s.heap.get? c=some o->h'.get? c=some o) E) tc.init.plain PySem.F.entry_set_init (check_set_init_1 ty ?_)) fun ad s2 g=>?_
   ·obtain⟨ac,B,u,H,x⟩:=W;obtain⟨af,J,ag,K⟩:=ac;simp only at u x;subst u x;have z:l<s.heap.objs.size:=bO B;have Y:(s.heap.push (kh b)).get? l=some { cls:=.type "list",dict:=J,data:=.seq items H,slots:=K }:=fj _ B;have C:(s.heap.push (kh b)).IsList l items:=⟨_,Y,rfl,H,rfl⟩
    have ah:=PySem.F.sub_list_set;have ai:=PySem.F.sub_list_frozenset;have aj:(Value.type "list" == Value.type "dict")=false:=by decide
    unfold Builtin.«set.__init__» noKeywords Builtin.Frozenset.updateFrom;generalize O:pyIter=PI
    wp_walk
    subst O;refine RQ C (aR (Sx ?_));have p:(s.heap.push (kh b)).objs.size=s.heap.objs.size+1:=Cr _ _;have ab:l≠(s.heap.push (kh b)).objs.size:=by rw[p];exact dZ (tG z)
    have aa:s.heap.objs.size∉[(s.heap.push (kh b)).objs.size,l]:=by
     rw[p];simp only[dj,List.not_mem_nil,or_false,not_or];exact⟨dZ (yd _),vB z⟩
    have val:∀(i:Nat)(v:Value),items[i]?=some v->∃ t,v=.int (ns.getD i 0) t:=fun i v q=>IntsAre.int_at y i v (by rw[wM];exact q)
    have Z:items.size=ns.length:=by rw[<- fu];exact LC y
    refine YH (b:=b) (Walks.list (show A.in1.in1.in1.handled=none by simp[U]) _ l ab items) s.heap.objs.size aa (fun i=>ns.getD i 0) val S (items.size-0) 0 _ [] (by lia) (jh _) ⟨⟨_,gn _ rfl,rfl,rfl⟩,C.push _⟩
     ((a05 s.heap b).kept fun o q=>fj _ q) (bK _) (fun m=>⟨(fun ae=>by cases ae),fun⟨j,d,_⟩=>absurd d (Ly _)⟩) fun h' tk L n G k keep=>?_
    refine bN (bN ⟨rfl,h',tk,L,rfl,n,fun m=>?_,by lia,fun c o q=>?_⟩)
    ·rw[k m,Z];constructor
     ·rintro⟨j,d,e⟩;rw[<- e,fM,fY d];exact mL d
     ·intro X;obtain⟨j,d,e⟩:=Li X;exact⟨j,d,by rw[fM,fY d];exact e⟩
    ·have D:=bO q;exact keep c o (by rw[p];simp only[dH];exact dZ (tG D)) (dZ D) (fj _ (fj _ q))
   ·cases ad with
    |error e=>exact g
    |ok N=>
     cases N with
     |ret r=>
      obtain⟨rfl,h',tk,a,rfl,n,k,G,keep⟩:=g
      repeat (any_goals (first|assumption|wp_step))
      exact h _ _ _ n k G keep
     |_=>exact g.elim
  |_=>exact f.elim
end
end L2
namespace L2
open PySem PySem.Spec PyProof.Rows PySem.SeqAt PySem.MeetsSeq PySem.MeetsSeq2 PySem.MeetsSeq3
open PySem.AutoSeq1 (wpAny_loadPart')
namespace SF
theorem Je:Manifest.owners.lookup (String.ofList ['r','o','t','a','r','e','t','i','_','t','e','s'].reverse)=some Manifest.sig_set_iterator:=by kernel_rfl
theorem gU:Slot "set_iterator" "__next__" "set_iterator.__next__":=.of (owner:="set_iterator") (n:="__next__") (by rw[typeLookup_type,builtinLookup_eq_fast];kernel_rfl) (by decide +kernel) (by decide +kernel) (by decide +kernel) (by first|exact .inl (by decide +kernel)|exact .inr (by decide +kernel)) (by rw[Sy];kernel_rfl)
theorem wL:Slot "set_iterator" "__iter__" "set_iterator.__iter__":=.of (owner:="set_iterator") (n:="__iter__") (by rw[typeLookup_type,builtinLookup_eq_fast];kernel_rfl) (by decide +kernel) (by decide +kernel) (by decide +kernel) (by first|exact .inl (by decide +kernel)|exact .inr (by decide +kernel)) (by rw[Sy];kernel_rfl)
theorem uz:entryFor table "set_iterator.__next__" = some Builtin.«set_iterator.__next__»:=entryFor_of_tree (by kernel_rfl)
theorem wD(a:Value):argsOk "set_iterator.__next__" ⟨[a],[]⟩:=by
 unfold argsOk;rw[signature?_of (id:="set_iterator.__next__") (n:=['_','_','t','x','e','n','_','_']) (o:=['r','o','t','a','r','e','t','i','_','t','e','s']) (by kernel_rfl) Je];kernel_rfl
theorem Fg:entryFor table "set.__iter__" = some Builtin.«frozenset.__iter__»:=entryFor_alias (id':="frozenset.__iter__") (by kernel_rfl) rfl (by decide +kernel) (by kernel_rfl)
theorem Fi:entryFor table "set_iterator.__iter__" = some Builtin.«dict_keyiterator.__iter__»:=entryFor_alias (id':="dict_keyiterator.__iter__") (by kernel_rfl) rfl (by decide +kernel) (by kernel_rfl)
theorem Hz(a:Value):argsOk "set_iterator.__iter__" ⟨[a],[]⟩:=by
 unfold argsOk;rw[signature?_of (id:="set_iterator.__iter__") (n:=['_','_','r','e','t','i','_','_']) (o:=['r','o','t','a','r','e','t','i','_','t','e','s']) (by kernel_rfl) Je];kernel_rfl
end SF
section
variable{P:Program}{w:World}{A:Around}{E:Value->Shared->Prop}{s:Shared}
abbrev oR(first:Value)(i:Nat)(a:Addr)(n ep:Nat)(z:Array (Option Value)):Obj:={ cls:=.type "set_iterator",dict:=none,data:=.fields #[first,.int i 0,.ref a,.int n 0,.int ep 0],slots:=z }
theorem Ft{t:SetTable}{n:Nat}(h:t.fits n=true):(t.place.size != n||decide (t.fill>t.mask))=false:=by
 simp only[SetTable.fits,mK,lG,RW] at h;obtain⟨h1,h2⟩:=h;rw[h1,cD (M8.mpr h2)];simp
theorem KC{h:Heap}{I:Addr}{o o2:Obj}{f:Obj->Obj}(e:h.get? I=some o)(q:f o=o2)(a:o2.isFreed=false:=by rfl):(h.update I f).get? I=some o2:=by
 subst q;exact Dj f e a
theorem Ow{I a:Addr}{k i n ep nxt:Nat}{c:Array (Int×Value)}{t:SetTable}{e:Array (Option Value)}{v:Value}{Q:Value->Shared->Prop}(u:n=c.size)(p:t.fits c.size=true)
  (d:s.heap.get? I=some (oR (.int k 0) i a n ep e)) (z:s.heap.get? a=some (fL c ep t))
  (j:∀(f:Option (Value×Nat)->Shared->Prop)(l:Value->Shared->Prop),f (some (v,nxt)) s->wpAny (model P w) A (setNext a k i ep) f l s)
  (m:∀ h',h'.get? I=some (oR (.int nxt 0) (i+1) a n ep e)->(∀ b o,b≠I->s.heap.get? b=some o->h'.get? b=some o)->Q v { s with heap:=h' }) :
  wpAny (model P w) A (Builtin.«set_iterator.__next__» ⟨[.ref I],[]⟩) (fun fin x=>∃ r,fin=.done (.ret r)/\Q r x) E s:=by
 obtain⟨D,g,y,tk,G⟩:=s;have C:=Ft p;have F:(((c.size:Nat):Int) != (n:Int))=false:=by rw[u];simp
 unfold Builtin.«set_iterator.__next__»;generalize B:@setNext=SN at j ⊢
 wp_walk using wpAny_loadPart' d
 simp only[gD];refine j _ _ ?_;dsimp only
 wp_walk using wpAny_loadPart' d
 refine⟨v,rfl,m _ ?_ fun b o h q=>?_⟩
 ·exact KC (KC (o2:=oR (.int nxt 0) i a n ep e) d rfl) rfl
 ·rw[tV _ _ _ _ h,tV _ _ _ _ h];exact q
theorem UL{I a:Addr}{j i n ep:Nat}{c:Array (Int×Value)}{t:SetTable}{x:Array (Option Value)}(r:A.handled=none)(v:n=c.size)(p:t.fits c.size=true)
  (f:s.heap.get? I=some (oR (.int j 0) i a n ep x)) (z:s.heap.get? a=some (fL c ep t))
  (h:∀(d:Option (Value×Nat)->Shared->Prop)(k:Value->Shared->Prop),d none s->wpAny (model P w) A (setNext a j i ep) d k s) {C:Fin->Shared->Prop}
  (l:∀(h':Heap)(e:Addr),(∃ o,h'.get? e=some o/\o.cls=.type "StopIteration")->(∀ b o,b≠I->s.heap.get? b=some o->h'.get? b=some o)->E (.ref e) { s with heap:=h' }) :
  wpAny (model P w) A (Builtin.«set_iterator.__next__» ⟨[.ref I],[]⟩) C E s:=by
 obtain⟨F,g,y,tk,H⟩:=s;have D:=Ft p;have G:(((c.size:Nat):Int) != (n:Int))=false:=by rw[v];simp
 unfold Builtin.«set_iterator.__next__»;generalize B:@setNext=SN at h ⊢
 wp_walk using wpAny_loadPart' f
 simp only[gD];refine h _ _ ?_;dsimp only
 wp_walk using wpAny_loadPart' f
 unfold raiseNew;have u:A.handled=none:=r;refine aR (wpAny_handled ?_);rw[u];refine aR (bN (wpAny_throw (l _ _ ⟨_,gn _ rfl,rfl⟩ fun b o m q=>fj _ (fj _ ?_))));rw[tV _ _ _ _ m];exact q
theorem Ye{I a T:Addr}{i n ep pl:Nat}{c:Array (Int×Value)}{t:SetTable}{j:Array (Option Value)}{v:Value}{f:List Nat}{Q:Value->Shared->Prop}(B:n=c.size)(h:t.fits c.size=true)
  (d:s.heap.get? I=some (oR (.ref T) i a n ep j)) (l:s.heap.get? a=some (fL c ep t)) (m:s.heap.get? T=some { cls:=.type "tuple",data:=.seq (f.map fun(k:Nat)=>rawInt k).toArray }) (C:f[i]?=some pl) (D:c[pl]?.map (·.2)=some v)
  (u:∀ h',h'.get? I=some (oR (.ref T) (i+1) a n ep j)->(∀ b o,b≠I->s.heap.get? b=some o->h'.get? b=some o)->Q v { s with heap:=h' }) :
  wpAny (model P w) A (Builtin.«set_iterator.__next__» ⟨[.ref I],[]⟩) (fun fin F=>∃ r,fin=.done (.ret r)/\Q r F) E s:=by
 obtain⟨K,g,G,tk,M⟩:=s;have H:=Ft h;have L:(((c.size:Nat):Int) != (n:Int))=false:=by rw[B];simp
 obtain⟨⟨J,x⟩,ex,e⟩:=gj.mp D;have e:x=v:=e;subst e;have p:((f.map fun(k:Nat)=>rawInt k).toArray)[((i:Nat):Int).toNat]?=some (.int pl 0):=by
  rw[gD,BK,cP,C];rfl
 unfold Builtin.«set_iterator.__next__»;generalize y:@setNextDrawn=SN
 wp_walk using wpAny_loadPart' d,wpAny_loadPart' m
 rw[p];dsimp only;subst y;unfold setNextDrawn;simp only[gD];refine aR (aR (GR (o:=fL c ep t) l rfl h ?_));dsimp only;rw[Lq,aJ (by decide),ex];dsimp only;refine bN ?_
 wp_walk using wpAny_loadPart' d
 refine⟨x,rfl,u _ ?_ fun b o z q=>?_⟩
 ·exact KC d rfl
 ·rw[tV _ _ _ _ z];exact q
theorem a1Y{I a T:Addr}{i n ep:Nat}{c:Array (Int×Value)}{t:SetTable}{y:Array (Option Value)}{d:List Nat}{C:Fin->Shared->Prop}(r:A.handled=none)(v:n=c.size)(p:t.fits c.size=true)
  (f:s.heap.get? I=some (oR (.ref T) i a n ep y)) (B:s.heap.get? a=some (fL c ep t)) (j:s.heap.get? T=some { cls:=.type "tuple",data:=.seq (d.map fun(k:Nat)=>rawInt k).toArray }) (x:d[i]?=none)
  (m:∀(h':Heap)(e:Addr),(∃ o,h'.get? e=some o/\o.cls=.type "StopIteration")->(∀ b o,b≠I->s.heap.get? b=some o->h'.get? b=some o)->E (.ref e) { s with heap:=h' }) :
  wpAny (model P w) A (Builtin.«set_iterator.__next__» ⟨[.ref I],[]⟩) C E s:=by
 obtain⟨G,g,z,tk,J⟩:=s;have F:=Ft p;have H:(((c.size:Nat):Int) != (n:Int))=false:=by rw[v];simp
 have l:((d.map fun(k:Nat)=>rawInt k).toArray)[((i:Nat):Int).toNat]?=none:=by
  rw[gD,BK,cP,x];rfl
 unfold Builtin.«set_iterator.__next__»;generalize D:@setNextDrawn=SN
 wp_walk using wpAny_loadPart' f,wpAny_loadPart' j
 rw[l];dsimp only
 wp_walk using wpAny_loadPart' f
 unfold raiseNew;have u:A.handled=none:=r;refine aR (wpAny_handled ?_);rw[u];refine aR (bN (wpAny_throw (m _ _ ⟨_,gn _ rfl,rfl⟩ fun b o h q=>fj _ (fj _ ?_))));rw[tV _ _ _ _ h,tV _ _ _ _ h];exact q
theorem Jd{a:Addr}{g i ep:Nat}{b:Array (Int×Value)}{t:SetTable}{Q:Option (Value×Nat)->Shared->Prop} (j:w.params.followText "set-order" = true) (c:s.heap.get? a=some (fL b ep t)) (f:t.fits b.size=true)
  (h:Q ((pickOrder (w.params.setOrder a ep) b)[i]?.map fun e=>(e.2,g)) s):wpAny (model P w) A (setNext a g i ep) Q E s:=by
 have d:(model P w).w.params.followText "set-order" = true:=j;unfold setNext setsByText;refine aR (GR (o:=fL b ep t) c rfl f ?_);dsimp only;refine aR (aR (Cg (bN ?_)));dsimp only;rw[aK d,Lq,aJ (by decide)];unfold setWalk setsByText;refine aR (aR (GR (o:=fL b ep t) c rfl f ?_));dsimp only;refine aR (aR (Cg (bN ?_)));dsimp only;rw[aK d];exact aR (Cg (bN (bN h)))
def Qy(es:Array (Int×Value))(t:SetTable)(slot:Nat):Option (Value×Nat):=match es[SetTable.below t.place slot]?,t.place[SetTable.below t.place slot]? with
 |some (_,x),some j=>some (x,j+1)
 |_,_=>none
theorem FN{a:Addr}{d i ep:Nat}{b:Array (Int×Value)}{t:SetTable}{Q:Option (Value×Nat)->Shared->Prop} (g:w.params.followText "set-order" = false) (f:s.heap.get? a=some (fL b ep t)) (l:t.fits b.size=true) (k:(!t.plain&&decide (b.size>1))=false) (m:t.led=true)
  (h:Q (Qy b t d) s):wpAny (model P w) A (setNext a d i ep) Q E s:=by
 unfold setNext setsByText;refine aR (GR (o:=fL b ep t) f rfl l ?_);dsimp only;refine aR (aR (Cg (bN ?_)));dsimp only;have j:¬(model P w).w.params.followText "set-order" = true:=by
  intro c;rw[show(model P w).w.params.followText "set-order" = w.params.followText "set-order" from rfl,g] at c;cases c
 rw[aJ j];refine Hf (fun c=>?_) (fun _=>?_)
 ·have e:(!t.plain&&decide (b.size>1))=true:=c;rw[k] at e;cases e
 refine aR (show wpAny _ _ (if(!t.led&&!b.isEmpty)=true then unsupported "set:maker-not-led" else pure ()) _ _ _ from ?_);rw[m,aJ (by simp)];exact bN (bN h)
end
end L2
namespace L2
open PySem PySem.Spec PyProof.Rows PySem.SeqAt PySem.MeetsSeq PySem.MeetsSeq2 PySem.MeetsSeq3
open PySem.AutoSeq1 (wpAny_loadPart')
theorem xg{a:Type}:∀ {xs:List a} {k:Nat} (h:k<xs.length),(xs[k]::xs.eraseIdx k).Perm xs
 |x::xs,0,h=>SJ _
 |x::xs,k+1,h=>by
  have:=xg (xs:=xs) (k:=k) (by simpa using h);rw[a1e];exact(List.Perm.swap _ _ _).trans (this.cons x)
theorem Ur{b:Type}(next:Nat->Nat):∀(n k:Nat)(xs:List b)(out:Array b),xs.length=n->((pickOrder.go next n k xs out).toList).Perm (out.toList++xs)
 |0,k,xs,out,h=>by
  have:xs=[]:=a0Q h;subst this;unfold pickOrder.go;rw[qT]
 |n+1,k,xs,out,h=>by
  unfold pickOrder.go;have a:next k%xs.length<xs.length:=M9 _ (by lia);rw[fY a];dsimp only;have p:=Ur next n (k+1) (xs.eraseIdx (next k%xs.length)) (out.push xs[next k%xs.length]) (by rw[a0W a];lia);refine p.trans ?_;rw[Ca,zG];refine List.Perm.append_left _ ?_;exact xg a
theorem WY{a:Type}(next:Nat->Nat)(xs:Array a):(pickOrder next xs).toList.Perm xs.toList:=by
 have:=Ur next xs.size 0 xs.toList #[] (fu);simpa [pickOrder] using this
section
variable{P:Program}{w:World}{A:Around}{E:Value->Shared->Prop}
theorem Vr{s:Shared}{b:Source}{n:Nat}{Q:Nat->Shared->Prop}(a:n≠0)(h:∀ k d',k<n->Q k { s with drawn:=d' }):wpAny (model P w) A (choose b n) Q E s:=fun d p c=>by
 unfold choose;rw[Sem.wp_choose];exact⟨a,by rw[Sem.wp_pure];exact h _ _ (M9 _ (Nat.pos_of_ne_zero a))⟩
theorem TJ{d:Type}:∀(n:Nat)(xs:List d){s:Shared}{Q:List d->Shared->Prop},xs.length=n->(∀ c d',c.Perm xs->Q c { s with drawn:=d' })->wpAny (model P w) A (drawOrder n xs) Q E s
 |0,xs,s,Q,a,h=>by
  have:xs=[]:=a0Q a;subst this;unfold drawOrder;exact bN (h [] s.drawn (SJ _))
 |n+1,[],s,Q,a,h=>by cases a
 |n+1,x::xs,s,Q,a,h=>by
  unfold drawOrder;refine aR (Vr (by simp) fun k d' b=>?_);rw[fY b];dsimp only;refine aR (TJ n _ (by rw[a0W b];rw[gY] at a ⊢;lia) fun c e p=>bN (h _ e ?_));exact(p.cons _).trans (xg b)
end
section
variable{P:Program}{w:World}{A:Around}{E:Value->Shared->Prop}{s:Shared}
inductive tM(w:World)(I a:Addr)(T:Option Addr)(es:Array (Int×Value))(ep:Nat)(t:SetTable)(L:List (Int×Value))(i:Nat)(h:Heap):Prop
 |text (slot:Nat) (z:Array (Option Value)) (hb:w.params.followText "set-order" = true) (hT:T=none) (hL:L=(pickOrder (w.params.setOrder a ep) es).toList) (e1:h.get? I=some (oR (.int slot 0) i a es.size ep z)) (e2:h.get? a=some (fL es ep t))
 |place (slot:Nat) (z:Array (Option Value)) (hb:w.params.followText "set-order" = false) (hT:T=none) (hL:L=es.toList) (hd:(!t.plain&&decide (es.size>1))=false) (hs:SetTable.below t.place slot=i) (e1:h.get? I=some (oR (.int slot 0) i a es.size ep z)) (e2:h.get? a=some (fL es ep t))
 |drawn (tp:Addr) (ps:List Nat) (z:Array (Option Value)) (hT:T=some tp) (hp:ps.length=es.size) (hL:∀(j pl:Nat),ps[j]?=some pl->L[j]?=es[pl]?) (e1:h.get? I=some (oR (.ref tp) i a es.size ep z)) (e2:h.get? a=some (fL es ep t)) (e3:h.get? tp=some { cls:=.type "tuple",data:=.seq (ps.map fun(k:Nat)=>rawInt k).toArray })
def fpS(I a:Addr):Option Addr->List Addr
 |none=>[I,a]
 |some tp=>[I,a,tp]
theorem tM.ty{I a:Addr}{T:Option Addr}{d:Array (Int×Value)}{ep i:Nat}{t:SetTable}{c:List (Int×Value)}(k:tM w I a T d ep t c i s.heap):s.TypeIs (.ref I) "set_iterator":=by
 cases k with
 |text _ _ _ _ _ b _=>exact⟨_,b,rfl⟩
 |place _ _ _ _ _ _ _ b _=>exact⟨_,b,rfl⟩
 |drawn _ _ _ _ _ _ b _ _=>exact⟨_,b,rfl⟩
theorem tM.frame{I a:Addr}{T:Option Addr}{p:Array (Int×Value)}{ep i:Nat}{t:SetTable}{n:List (Int×Value)}{h h':Heap}(k:tM w I a T p ep t n i h)(c:∀ b∈fpS I a T,∀ o,h.get? b=some o->h'.get? b=some o):tM w I a T p ep t n i h':=by
 cases k with
 |text m j l g f d e=>subst g;exact .text m j l rfl f (c I (by simp[fpS]) _ d) (c a (by simp[fpS]) _ e)
 |place m j l g f s v d e=>subst g;exact .place m j l rfl f s v (c I (by simp[fpS]) _ d) (c a (by simp[fpS]) _ e)
 |drawn q ps j g u f d e r=>subst g;exact .drawn q ps j rfl u f (c I (by simp[fpS]) _ d) (c a (by simp[fpS]) _ e) (c q (by simp[fpS]) _ r)
structure Mr(b:Bool)(I a:Addr)(T:Option Addr)(es:Array (Int×Value))(t:SetTable)(L:List (Int×Value)):Prop where
 fit:t.fits es.size=true
 tab:Tab b t
 perm:L.Perm es.toList
 ne:a≠I
 nt:∀ tp,T=some tp->tp≠I
theorem Mw{t:SetTable}{b:Bool}(x:Tab b t){i f:Nat}(g:SetTable.below t.place f=i)(d:i<t.place.size):SetTable.below t.place (t.place[i]+1)=i+1:=by
 have c:=Ag x.ris (t.place[i]+1);refine c.uniq ⟨d,fun k e a=>?_,fun k e a=>?_⟩
 ·exact Nat.lt_succ_of_le (x.ris.le (Nat.le_of_lt_succ a) d)
 ·exact x.ris.lt a e
theorem a0b{I a:Addr}{T:Option Addr}{h:Array (Int×Value)}{ep i:Nat}{t:SetTable}{d:List (Int×Value)}{Q:Option Value->Shared->Prop} (ok:Mr (!w.params.followText "set-order") I a T h t d) (k:tM w I a T h ep t d i s.heap) (C:i<d.length)
  (u:∀ h',tM w I a T h ep t d (i+1) h'->(∀ b o,b≠I->s.heap.get? b=some o->h'.get? b=some o)->Q (some d[i].2) { s with heap:=h' }):wpAny (model P w) A (pyNext (.ref I)) Q E s:=by
 have len:d.length=h.size:=by rw[ok.perm.length_eq,fu]
 have ty:=k.ty;unfold pyNext;refine aR (Ho (KY (name:=Str.ofString "__next__") ty SF.gU (vo SF.gU ty SF.uz ?_ (SF.wD _))));cases k with
 |text x p l j g m c=>
  refine Ow (nxt:=x) (v:=d[i].2) rfl ok.fit m c (fun H G q=>Jd l c ok.fit ?_) fun h' n e=>bN (u h' (.text x p l j g n (e a _ ok.ne c)) e)
  have:(pickOrder (w.params.setOrder a ep) h)[i]?=some d[i]:=by
   rw[<- wM,<- g];exact fY C
  rw[this];exact q
 |place x p l j g B F m c=>
  subst g;have f:=ok.fit;simp only[SetTable.fits,mK,lG,RW] at f;have r:i<t.place.size:=by rw[f.1];omega
  refine Ow (nxt:=t.place[i]+1) (v:=h.toList[i].2) rfl ok.fit m c (fun H G q=>FN l c ok.fit B (by rw[ok.tab.led,l];rfl) ?_) fun h' n e=>bN (u h' (.place _ p l j rfl B (Mw ok.tab F r) n (e a _ ok.ne c)) e)
  unfold Qy;rw[F,jc (by omega),jc r];simpa using q
 |drawn y ps p j r g m c z=>
  have D:i<ps.length:=by lia
  have J:=g i ps[i] (fY D);refine Ye (pl:=ps[i]) (v:=d[i].2) rfl ok.fit m c z (fY D) ?_ fun h' n e=>bN (u h' (.drawn y ps p j r g n (e a _ ok.ne c) (e y _ (ok.nt y j) z)) e)
  rw[<- J,fY C];rfl
theorem a0c{I a:Addr}{T:Option Addr}{j:Array (Int×Value)}{ep:Nat}{t:SetTable}{f:List (Int×Value)}{Q:Option Value->Shared->Prop}(n:A.handled=none) (ok:Mr (!w.params.followText "set-order") I a T j t f) (k:tM w I a T j ep t f f.length s.heap)
  (y:∀ h',(∀ b o,b≠I->s.heap.get? b=some o->h'.get? b=some o)->Q none { s with heap:=h' }):wpAny (model P w) A (pyNext (.ref I)) Q E s:=by
 have len:f.length=j.size:=by rw[ok.perm.length_eq,fu]
 have ty:=k.ty;unfold pyNext;refine aR (Ho (KY (name:=Str.ofString "__next__") ty SF.gU (vo SF.gU ty SF.uz ?_ (SF.wD _))));have fin:∀(h':Heap)(e:Addr),(∃ o,h'.get? e=some o/\o.cls=.type "StopIteration")->(∀ b o,b≠I->s.heap.get? b=some o->h'.get? b=some o)->wpAny (model P w) A (isInstance (.ref e) (.type "StopIteration") >>= fun c=>if c=true then pure none else throw (.ref e)) Q E { s with heap:=h' }:=fun h' e ⟨o,h1,h2⟩ g=>by
  refine aR (Sd (T:="StopIteration") (b:=true) ⟨o,h1,h2⟩ isSubtype_stop ?_);exact bN (y h' g)
 cases k with
 |text C r l p m h d=>
  refine UL (show A.in1.handled=none from n) rfl ok.fit h d (fun v u q=>Jd l d ok.fit ?_) fun h' e i g=>?_
  rotate_left
  ·exact fin h' e i g
  have:(pickOrder (w.params.setOrder a ep) j)[f.length]?=none:=by
   rw[<- wM,<- m];exact Dk (bK _)
  rw[this];exact q
 |place C r l p m z B h d=>
  refine UL (show A.in1.handled=none from n) rfl ok.fit h d (fun v u q=>FN l d ok.fit z (by rw[ok.tab.led,l];rfl) ?_) fun h' e i g=>?_
  rotate_left
  ·exact fin h' e i g
  unfold Qy;rw[B,La (by lia)];exact q
 |drawn F ps r p D m h d x=>
  exact a1Y (show A.in1.handled=none from n) rfl ok.fit h d x (Dk (by lia)) fun h' e i g=>fin h' e i g
theorem Xe{I a:Addr}{T:Option Addr}{j:Array (Int×Value)}{ep:Nat}{t:SetTable}{c:List (Int×Value)}(k:A.handled=none) (ok:Mr (!w.params.followText "set-order") I a T j t c):Walks P w A I (fpS I a T) [I] c.length (fun i v=>∃ h:i<c.length,v=c[i].2) (tM w I a T j ep t c) where
 sub:=fun b e=>by rw[dH.mp e];cases T<;>simp[fpS]
 frame:=fun i h h' st l=>st.frame l
 item:=fun i s Q E hi st d=>a0b ok st hi fun h' m keep=>d _ h' s.toks ⟨hi,rfl⟩ m fun b o e f=>keep b o (fun g=>e (by rw[g];exact dH.mpr rfl)) f
 done:=fun s Q E st d=>a0c k ok st fun h' keep=>d h' s.toks fun b o e f=>keep b o (fun g=>e (by rw[g];exact dH.mpr rfl)) f
 self:=fun i s Q E st d=>by
  have ty:=st.ty;refine S7 ty SF.wL (vo SF.wL ty SF.Fi ?_ (SF.Hz _));exact bN ⟨_,rfl,"set_iterator",_,ty,SF.gU.lookup,d⟩
theorem a09{a:Addr}{c:Array (Int×Value)}{ep:Nat}{t:SetTable}{O:List Int}{Q:Value->Shared->Prop}(e:s.heap.get? a=some (fL c ep t)) (x:zW (!w.params.followText "set-order") c t O)
  (H:∀(I:Addr)(T:Option Addr)(d:List (Int×Value))(h':Heap)(d':Drawn),Mr (!w.params.followText "set-order") I a T c t d->tM w I a T c ep t d 0 h'->s.heap.objs.size<=I->(∀ l,T=some l->s.heap.objs.size<=l)->(∀ b o,s.heap.get? b=some o->h'.get? b=some o)->Q (.ref I) { s with heap:=h',drawn:=d' }):wpAny (model P w) A (pyIter (.ref a)) Q E s:=by
 have ty:s.TypeIs (.ref a) "set":=⟨_,e,rfl⟩
 have aa:=bO e;have af:=Ft x.fit;refine S7 ty a1o (vo a1o ty SF.Fg ?_ (PySem.F.args_set_iter_1 _));unfold Builtin.«frozenset.__iter__» Builtin.Frozenset.slot0 Builtin.Frozenset.addrOf Builtin.Frozenset.sizeOf setDrawn setsByText;generalize R:@drawOrder=DO;obtain⟨f,g,G,tk,ac⟩:=s
 wp_walk
 subst R;refine Cg (bN (bN ?_));dsimp only;have ok0:∀(I:Addr)(T:Option Addr)(d:List (Int×Value)),f.objs.size<=I->(∀ l,T=some l->l≠I)->d.Perm c.toList->Mr (!w.params.followText "set-order") I a T c t d:=fun I T d S U n=>⟨x.fit,x.tab,n,dZ (jw aa S),U⟩
 have D:∀(d:List (Int×Value)),d.Perm c.toList->(∀ h:Heap,h.get? f.objs.size=some (oR (.int (0:Nat) 0) 0 a c.size ep #[])->h.get? a=some (fL c ep t)->tM w f.objs.size a none c ep t d 0 h) ->
   wpAny (model P w) A.in1 (do
    let first <- pure (rawInt 0)
    let ep <- setEpoch a
    let Z <- newFields "set_iterator" [first,rawInt 0,.ref a,rawInt c.size,rawInt ep]
    ret Z) (fun fin s'=>∃ v,fin=.done (.ret v)/\∃ C r,s'.TypeIs v C/\typeLookup (.type C) (Str.ofString "__next__")=pure (some r)/\Q v s') E { heap:=f,gens:=g,drawn:=G,toks:=tk,os:=ac }:=fun d n st=>by
  refine aR (bN (aR (wpAny_setEpoch_of (o:=fL c ep t) e rfl x.fit (aR (vf (bN ⟨_,rfl,"set_iterator",_,⟨_,gn _ rfl,rfl⟩,SF.gU.lookup,?_⟩))))));exact H f.objs.size none d _ G (ok0 _ _ _ (bK _) (fun _ m=>by cases m) n) (st _ (gn _ rfl) (fj _ e)) (bK _) (fun _ m=>by cases m) fun b o q=>fj _ q
 refine Hf (fun J=>?_) (fun J=>?_)
 ·refine aR (TJ c.size (List.range c.size) (jD) fun ps d' y=>?_);have L:ps.length=c.size:=by rw[y.length_eq,jD]
  have ae:(ps.map fun(i:Nat)=>rawInt i).length<=sizeLine:=by
   rw[aL,L,x.len,pK];have:=x.sm;lia
  refine aR (wpAny_newTuple ?_ ae);refine aR (wpAny_setEpoch_of (o:=fL c ep t) (fj _ e) rfl x.fit (aR (vf (bN ⟨_,rfl,"set_iterator",_,⟨_,gn _ rfl,rfl⟩,SF.gU.lookup,?_⟩))));have lt:∀ k∈ps,k<c.size:=fun k u=>fP.mp (y.mem_iff.mp u)
  have X:(ps.map fun k=>c.getD k (0,.none)).Perm c.toList:=by
   refine(y.map _).trans (List.Perm.of_eq ?_);refine List.ext_getElem (by rw[aL,jD,fu]) fun k h1 h2=>?_
   rw[fu] at h2;rw[Ce,List.getElem_range,Lg];simp[Array.getD,h2]
  have M:f.objs.size<=(f.push { cls:=.type "tuple",data:=.seq (ps.map fun(i:Nat)=>rawInt i).toArray }).objs.size:=by rw[Cr];exact tL _
  have ab:f.objs.size<(f.push { cls:=.type "tuple",data:=.seq (ps.map fun(i:Nat)=>rawInt i).toArray }).objs.size:=by rw[Cr];exact yd _
  refine H _ (some f.objs.size) (ps.map fun k=>c.getD k (0,.none)) _ d' (ok0 _ _ _ M (fun l m=>by cases m;exact dZ ab) X) (.drawn f.objs.size ps #[] rfl L (fun j ad q=>?_) (gn _ rfl) (fj _ (fj _ e)) (fj _ (gn _ rfl))) M (fun l m=>by cases m;exact bK _) fun b o q=>fj _ (fj _ q)
  have K:=lt ad (eX q);rw[cP,q,jc K];simp[Array.getD,K]
 ·cases p:w.params.followText "set-order" with
  |true=>exact D _ (WY (w.params.setOrder a ep) c) fun h z B=>.text 0 #[] p rfl rfl z B
  |false=>
   have W:(!t.plain&&decide (c.size>1))=false:=by
    cases Y:(!t.plain&&decide (c.size>1)) with
    |false=>rfl
    |true=>exact absurd (show(!w.params.followText "set-order" && (!t.plain&&decide (c.size>1)))=true by rw[p,Y];rfl) J
   have N:SetTable.below t.place 0=0:=(Ag x.tab.ris 0).uniq ⟨jh _,fun k u h=>absurd h (Ly _),fun k u h=>jh _⟩;exact D _ (SJ _) fun h z B=>.place 0 #[] p rfl rfl W N z B
end
end L2
namespace L2
open PySem PySem.Spec PyProof.Rows PySem.W
section
variable{P:Program}{w:World}{A:Around}{E:Value->Shared->Prop}{s:Shared}
theorem a07{r:Addr}{Q:Bool->Shared->Prop} (ty:s.TypeIs (.ref r) "set") (h:Q false s):wpAny (model P w) A (Builtin.List.listLengthHint (.ref r)) Q E s:=by
 unfold Builtin.List.listLengthHint;refine aR (wpAny_specialOf ty PySem.F.slot_set_len.lookup ?_);generalize c:("set.__len__" : String)=id0
 wp_delta
 rw[show splitId id0=some ("set","__len__") from by subst c;decide +kernel];subst c;refine aR (Sd (T:="set") (b:=true) ty (by rw[Sy];kernel_rfl) ?_);refine Hf (fun a=>absurd a (by decide)) (fun _=>Hf (fun _=>?_) (fun a=>absurd (by decide +kernel) a));exact aR (wpAny_typeOf ty (bN h))
theorem Ou{a:Addr}{i:Array (Int×Value)}{ep:Nat}{t:SetTable}{R:List Int}{C:List Value->Shared->Prop}(X:A.handled=none)(e:s.heap.get? a=some (fL i ep t)) (x:zW (!w.params.followText "set-order") i t R)
  (fin:∀(p:Heap)(tk:Nat)(d':Drawn)(d:List (Int×Value))(z:Array Value),(∀ b o,s.heap.get? b=some o->p.get? b=some o)->s.heap.objs.size<=p.objs.size->d.Perm i.toList->z.toList=d.map (·.2)->C z.toList { s with heap:=p,toks:=tk,drawn:=d' }):wpAny (model P w) A (collect (.ref a)) C E s:=by
 have H:=bO e;unfold collect;refine aR (Sx (tW a0R ?_));rw[vC a0S _];refine(show wpAny _ A.in1 (newList [] >>= fun q=>again (.builtin "list.__iadd__" ⟨[q,.ref a],[]⟩)) _ _ s from aR (vf (bN ⟨tX KZ _,tW a1g ?_⟩)));rw[vC KZ _];generalize n:s.heap.push { cls:=.type "list",data:=.seq ([]:List Value).toArray }=H0;have new:H0.get? s.heap.objs.size=some { cls:=.type "list",data:=.seq #[] }:=by subst n;exact gn _ rfl
 have h:∀ b o,s.heap.get? b=some o->H0.get? b=some o:=by subst n;exact fun b o q=>fj _ q
 have big:H0.objs.size=s.heap.objs.size+1:=by subst n;exact Cr _ _
 have ty:({ s with heap:=H0 }:Shared).TypeIs (.ref a) "set":=⟨_,h _ _ e,rfl⟩
 refine(show wpAny (model P w) A.in1 (Builtin.List.listExtendWith (.ref s.heap.objs.size) (.ref a) (.ref s.heap.objs.size)) _ _ _ from ?_);unfold Builtin.List.listExtendWith;refine aR (wpAny_typeOf (T:="set") ty ?_);have h1:Builtin.List.listSameRef (.ref s.heap.objs.size) (.ref a)=false:=by simp[Builtin.List.listSameRef,vB H]
 have h2:(Value.type "set" == Value.type "list")=false:=by decide
 have U:(Value.type "set" == Value.type "tuple")=false:=by decide
 rw[h1,h2,U];simp only[Bool.or_false,wO,lB];refine aR (a09 (s:={ s with heap:=H0 }) (h _ _ e) x fun I T d h' d' ok st D W keep=>?_);have M:s.heap.objs.size∉fpS I a T:=by
  have K:s.heap.objs.size≠I:=fun c=>by have:H0.objs.size<=I:=D;rw[big,<- c] at this;exact oX _ this
  have L:s.heap.objs.size≠a:=vB H;cases T with
  |none=>simp[fpS,K,L]
  |some v=>
   have Z:s.heap.objs.size≠v:=fun c=>by have:H0.objs.size<=v:=W v rfl;rw[big,<- c] at this;exact oX _ this
   simp[fpS,K,L,Z]
 have len:d.length<=sizeLine:=by rw[ok.perm.length_eq,fu,x.len,pK];have:=x.sm;lia
 have O:=Xe (P:=P) (A:=A.in1) (ep:=ep) (show A.in1.handled=none from X) ok;have y:∀(h1:Heap)(m tk:Nat),tM w I a T i ep t d 0 h1->(∀ b o,s.heap.get? b=some o->h1.get? b=some o)->h1.get? s.heap.objs.size=some { cls:=.type "list",data:=.seq #[] m } ->
   codeAny (model P w) A (.builtin "list.extend.loop" ⟨[.ref s.heap.objs.size,.ref I,.ref s.heap.objs.size],[]⟩) (fun r s2=>r=.ok (.ret (.ref s.heap.objs.size))/\wpAny (model P w) A (load s.heap.objs.size >>= fun o=>match o.data with|.seq xs _=>pure xs.toList|_=>unsupported "internal:collect") C E s2) { s with heap:=h1,drawn:=d',toks:=tk }:=fun h1 m tk ab Y f=>by
  refine codeAny_extend_loopS O.toS len s.heap.objs.size M _ d.length 0 _ #[] m rfl (jh _) ab f (ItemsOf.nil _) fun s2 l ac J g u=>?_
  rw[Moved.eq_with J];refine⟨rfl,aR (wpAny_load g (bN ?_))⟩;refine fin s2.heap s2.toks d' d l (fun b o q=>J.heap b o (fun c=>?_) (Y b o q)) (Cw (bO g)) ok.perm ?_
  ·rcases dj.mp c with c|c
   ·exact absurd (bO q) (by rw[c];exact oX _)
   ·rw[dH.mp c] at q;have B:H0.objs.size<=I:=D;rw[big] at B;exact absurd (bO q) (M8.mpr (Nat.le_of_succ_le B))
  ·refine Cd fun j=>?_
   rw[wM,cP];by_cases G:j<d.length
   ·have F:j<l.size:=by rw[u.1];exact G
    obtain⟨_,S⟩:=u.2 j l[j] (jc F);rw[jc F,S,fY G];rfl
   ·rw[La (by rw[u.1];lia),Dk (by lia)];rfl
 have f:=keep _ _ new;refine aR (qU (a07 ⟨_,keep _ _ (h _ _ e),rfl⟩ ?_));refine Hf (fun _=>?_) (fun _=>bN ⟨tX a0X _,qd (y h' 0 s.toks st (fun b o q=>keep b o (h b o q)) f) fun q aa c=>?_⟩)
 ·refine aR (lA (aR (show wpAny _ _ (updateSeq s.heap.objs.size (·.push .none) >>= fun _=>updateSeq s.heap.objs.size (·.pop)) _ _ _ from aR (Hg f rfl ?_))));have g:=Dj (Obj.mapSeq (·.push Value.none)) f rfl;refine Hg (hz:=by seq_fits) g rfl ?_;have Q:=Dj (Obj.mapSeq (·.pop)) g rfl;have N:∀ b o,b≠s.heap.objs.size->h'.get? b=some o->((h'.update s.heap.objs.size (Obj.mapSeq (·.push Value.none))).update s.heap.objs.size (Obj.mapSeq (·.pop))).get? b=some o:=fun b o k q=>by
   rw[tV _ _ _ _ k,tV _ _ _ _ k];exact q
  refine bN ⟨tX a0X _,qd (y _ _ s.toks (st.frame fun b k o q=>N b o (fun c=>M (by rw[<- c];exact k)) q) (fun b o q=>N b o (dZ (bO q)) (keep b o (h b o q))) Q) fun q aa c=>?_⟩;obtain⟨rfl,c⟩:=c;exact c
 ·obtain⟨rfl,c⟩:=c;exact c
end
def a5m(a b:Int):Bool:=decide (a<b)
theorem U8:lQ a5m:=by
 refine⟨fun a b h=>?_,fun a b c h1 h2=>?_,fun a b h1 h2=>?_⟩
 ·have:=cT h;exact cD (by lia)
 ·have d:=iW h1;have e:=iW h2;exact cD (by omega)
 ·have d:=iW h1;have e:=iW h2;lia
theorem Qs{P:Program}{w:World}{h:Heap}{us:List Value}{ns:List Int}(r:IntsAre us ns):Ma P w h us a5m fun i=>ns.getD i 0:=by
 have l:us.length=ns.length:=LC r;have a:∀ i,i<us.length->∃ t,us.getD i Value.none=.int (ns.getD i 0) t:=fun i hi=>by
  obtain⟨t,e⟩:=IntsAre.int_at r i us[i] (fY hi);exact⟨t,by rw[fM,fY hi];exact e⟩
 refine⟨fun h2=>⟨oneType',fun b g s' k kp q=>?_,fun b s' i j C m kp hi f d=>?_⟩⟩
 ·rw[ksk_kind (keys:=us.toArray) (kz:=ns) (by simpa using r) (by simpa using h2)];exact bN q
 ·obtain⟨t,e⟩:=a i hi;obtain⟨u,c⟩:=a j f;rw[e,c];exact kat_lt_int d
theorem Yt{us:List Value}{ns:List Int}(r:IntsAre us ns):wV us fun i=>ns.getD i 0:=by
 have a:∀ i,i<us.length->∃ t,us.getD i Value.none=.int (ns.getD i 0) t:=fun i hi=>by
  obtain⟨t,e⟩:=IntsAre.int_at r i us[i] (fY hi);exact⟨t,by rw[fM,fY hi];exact e⟩
 intro i j hi d e;obtain⟨t,b⟩:=a i hi;obtain⟨f,c⟩:=a j d;rw[b,c] at e;injection e
theorem zE:∀ {us:List Value} {ns:List Int},IntsAre us ns->Vals (ns.map V.int) us
 |_,_,.nil=>.nil
 |_,_,.cons n t h=>.cons ⟨t,rfl⟩ (zE h)
def R9(w:World)(a:Addr)(ns:List Int):HO:=.ext fun h=>∃ ds,rA (!w.params.followText "set-order") h a ds/\(∀ m,m∈ds↔m∈ns)/\ds.length<=ns.length
section
variable{X:Cx}
def a7T(K:ao)(w:World):List V->Hp->VK->Prop:=fun xs H Q=>∃(p:Addr)(ns:List Int),xs=[.ref p]/\SqL K H p (ns.map V.int)/\ns.length<3000/\∀ a,H a=none->Q (.ref a) (upd H a (R9 w a ns))
theorem Vo(f:X.calm=true):fH X (.type "set") (a7T X.K X.w):=by
 intro pins s zzs H xs z Q I r h;obtain⟨p,d,rfl,j,b,q⟩:=h;obtain⟨u,rfl,o⟩:=vals1 r;cases o;obtain⟨k,rv,n,y⟩:=I.list j;have c:=intsAre_of rv;have x:k.length=d.length:=LC c;refine Vn (I.ok.hd f) n.isList (by simpa using c) (by rw[dX];lia) fun h' tk ds a m l keep=>?_
 have b:H s.heap.objs.size=none:=I.hok.fresh (bK _);refine⟨.ref s.heap.objs.size,upd H s.heap.objs.size (R9 X.w s.heap.objs.size d),I.laid (t':=tk) keep (bK _) ⟨⟨ds,a,m,l⟩,?_,fun h1 h2 i g=>?_⟩,rfl,q _ b⟩
 ·obtain⟨es,v,t,e,_⟩:=a;exact⟨_,e⟩
 ·obtain⟨ds,a,r⟩:=i;exact⟨ds,a.kept g,r⟩
theorem a7s{K:ao}{w:World}(b:X.calm=true)(a:X.K=K:=by rfl)(hw:X.w=w:=by rfl):fH X (.type "set") (a7T K w):=by subst a hw;exact Vo b
theorem Inv.draws{a:List (Addr×Obj)}{zzs:L2.St}{H:Hp}{s:Shared}(I:Inv X a zzs H s)(d':Drawn):Inv X a zzs H { s with drawn:=d' }:=
 ⟨I.ok,I.os,I.bare,I.base,I.loc,I.cell,I.free,I.nJ,I.pin,I.hok,I.len⟩
theorem Xp{ns:List Int}{n:Nat}{o:Array Nat}(f:n=ns.length)(g:Good n o)(p:Jw a5m (fun i=>ns.getD i 0) o n)(nd:ns.Nodup):(o.toList.map fun i=>ns.getD i 0).Pairwise (· < ·):=by
 have m:(o.toList.map fun i=>ns.getD i 0).Perm ns:=vY (by rw[<- f];exact g.perm);have l:(o.toList.map fun i=>ns.getD i 0).Nodup:=m.nodup_iff.mpr nd;rw[Dg];intro i j hi a e;have q:=Dg.mp l i j hi a e;rw[aL,fu,g.size] at hi a;have c:=p.le U8 (j-i) i (by lia);have d:i+(j-i)=j:=by lia
 rw[d] at c;have h:=iW c;have sz:=g.size;have key:∀ k,(b:k<n)->Ky (fun i=>ns.getD i 0) o k=(o.toList.map fun i=>ns.getD i 0)[k]'(by rw[aL,fu,sz];exact b):=fun k b=>by
  unfold Ky;rw[Ce,qN,jc (by lia)];rfl
 rw[key i hi,key j a] at h;lia
def ZJ(w:World):List V->Hp->VK->Prop:=fun xs H Q=>∃(a:Addr)(ns:List Int),xs=[.ref a]/\H a=some (R9 w a ns)/\ns.length<64/\∀(l:Addr)(ms:List Int),H l=none->(∀ m,m∈ms↔m∈ns)->ms.Pairwise (· < ·)->Q (.ref l) (upd H l (.lst (ms.map V.int)))
theorem a08{a c:List (Int×Value)}(p:a.Perm c)(f:∀ e∈c,a4G e):IntsAre (a.map (·.2)) (a.map xO):=by
 have g:∀ e∈a,a4G e:=fun e b=>f e (p.mem_iff.mp b)
 clear p f
 induction a with
 |nil=>exact .nil
 |cons e a h=>
  obtain⟨d,t,rfl⟩:=g e eF;exact .cons d t (h fun e b=>g e (gk _ b))
theorem Q8(L:X.calm=true)(ac:X.A.units+60<cLine):fH X (.builtin "sorted") (ZJ X.w):=by
 intro pins s zzs H xs af Q I r h;obtain⟨a,ae,rfl,e,Z,q⟩:=h;obtain⟨u,rfl,T⟩:=vals1 r;cases T;obtain⟨⟨ds,⟨es,Y,t,F,x⟩,R,ad⟩,_,_⟩:=I.hok a _ e;refine Rn kind_sorted plain_sorted entry_sorted (args_sorted1 _) ?_;unfold Builtin.«sorted»;refine aR (m:=checkCount "sorted" 1 1 _) (bN (aR (Ou (show X.A.in1.handled=none from I.ok.hd L) F x fun c tk C f v keep z pm G=>?_)));have d:IntsAre v.toList (f.map xO):=by rw[G];exact a08 pm x.els
 have l:(f.map xO).Perm ds:=by have:=pm.map xO;rw[x.ids] at this;exact this
 have j:v.toList.length=(f.map xO).length:=LC d;have O:(f.map xO).length=ds.length:=l.length_eq;generalize aa:v.toList=its at d j;generalize ab:f.map xO=cs at l d j O;have y:its.length<=sizeLine:=by rw[pK];lia
 refine aR (LQ ?_ (by simpa using y));have n:(c.push (seqObj "list" its.toArray 0)).get? c.objs.size=some (seqObj "list" its.toArray 0):=gn _ rfl;show wpAny _ _ _ _ _ { s with heap:=c.push (seqObj "list" its.toArray 0),toks:=tk,drawn:=C };refine aR (qU (vo slot_list_sort ⟨_,n,rfl⟩ entry_list_sort (En (h0:=s.heap) U8 (Yt d) (by show X.A.units+1+1+2<cLine;lia) (Qs d) y n (fun b o k=>⟨fj _ (keep b o k),dZ (bO (keep b o k))⟩) fun o g W=>⟨_,rfl,bN ⟨_,rfl,?_⟩⟩) (args_list_sort _)));obtain⟨J,M⟩:=sortedHeap_at (vs:=its) (out:=(byP its o).toArray) n;have N:H c.objs.size=none:=I.hok.fresh z;have rv:Vals (cs.map V.int) its:=zE d;have B:∀ i∈o.toList,i<(cs.map V.int).length:=fun i hi=>by rw[aL,<- j];exact fP.mp (g.perm.mem_iff.mp hi)
 have K:(o.toList.map fun i=>(cs.map V.int).getD i .non)=(o.toList.map fun i=>cs.getD i 0).map V.int:=by
  rw[lF];refine BP fun i hi=>?_
  have:=B i hi;rw[aL] at this;simp[fM,this]
 have U:Vals ((o.toList.map fun i=>cs.getD i 0).map V.int) (byP its o):=by rw[<- K];exact Ei rv o.toList B
 have S:(o.toList.map fun i=>cs.getD i 0).Perm cs:=vY (by rw[<- j];exact g.perm);have E:=Xp j g W (l.nodup_iff.mpr x.nd);have P:((o.toList.map fun i=>cs.getD i 0).map V.int).length<=sizeLine:=by
  rw[aL,aL,fu,g.size];exact y
 have D:=I.draws C;refine⟨.ref c.objs.size,upd H c.objs.size (.lst ((o.toList.map fun i=>cs.getD i 0).map V.int)),D.laid (a:=c.objs.size) (o:=.lst ((o.toList.map fun i=>cs.getD i 0).map V.int)) (t':=tk) (fun b o k=>?_) z ⟨P,byP its o,J,U,M⟩,rfl,q _ _ N (fun m=>by rw[S.mem_iff,l.mem_iff,R]) E⟩;have p:=keep b o k;rw[sortedHeap_old (dZ (bO p)) (by rw[size_push'];exact tG (bO p))];exact fj _ p
theorem a2k{w:World}(a:X.calm=true)(b:X.A.units+60<cLine)(hw:X.w=w:=by rfl):fH X (.builtin "sorted") (ZJ w):=by subst hw;exact Q8 a b
def a7S(K:ao):List V->Hp->VK->Prop:=fun xs H Q=>∃(p:Addr)(ns:List Int),xs=[.ref p]/\SqL K H p (ns.map V.int)/\ns≠[]/\∀ m,m∈ns->(∀ a∈ns,m<=a)->Q (.int m) H
theorem Vm(i:X.calm=true):fH X (.builtin "min") (a7S X.K):=by
 intro pins s zzs H xs C Q I r h;obtain⟨p,x,rfl,n,m,q⟩:=h;obtain⟨u,rfl,z⟩:=vals1 r;cases z;obtain⟨B,rv,y,A⟩:=I.list n;have f:=intsAre_of rv;obtain⟨ys,e⟩:=f.allInts.items;have b:x=ys.toList.map (·.1):=by rw[<- f.numsOf,<- nums_intItems,<- e]
 have o:0<ys.size:=by
  rcases RM ys.size with c|c
  ·exfalso;apply m;rw[b,a1w];exact Array.toList_eq_nil_iff.mpr (a0P c)
  ·exact c
 have g:=y.isList;rw[e] at g;refine min_intList (I.ok.hd i) g o fun v h' tk w l=>?_
 obtain⟨t,rfl⟩:=intItems_at w;obtain⟨h1,h2⟩:=argBest_lt (numAt ys) (ys.size-1);refine⟨.int _,H,I.kept (t':=tk) l,⟨t,rfl⟩,q _ ?_ fun a d=>?_⟩
 ·rw[b,numAt_eq];exact getD_mem (by rw[aL,fu];lia)
 ·rw[b] at d;obtain⟨j,k,rfl⟩:=mem_getD d;rw[aL,fu] at k;rw[<- numAt_eq];exact h2 j (by lia)
theorem a7q{K:ao}(b:X.calm=true)(a:X.K=K:=by rfl):fH X (.builtin "min") (a7S K):=by subst a;exact Vm b
end
end L2
namespace L2
open PySem PySem.Spec PyProof.Rows PySem.SeqAt PySem.MeetsSeq PySem.MeetsSeq2 PySem.MeetsSeq3
open PySem.AutoSeq1 (wpAny_loadPart')
theorem Oo(A:Around)(s:Shared)(a:Int)(t:Tok)(c:Int)(u:Tok)(prog:Program)(w:World)(E:Value->Shared->Prop)(Q:Value->Shared->Prop)(h:Q (.bool (decide (a<c))) s):wpAny (model prog w) A (richCompare .Lt (.int a t) (.int c u)) Q E s:=
 (lt_int h:wpAny (model prog w) A (compareOp .Lt (.int a t) (.int c u)) Q E s)
theorem Om(A:Around)(s:Shared)(a:Int)(t:Tok)(c:Int)(u:Tok)(prog:Program)(w:World)(E:Value->Shared->Prop)(Q:Value->Shared->Prop)(h:Q (.bool (decide (c<a))) s):wpAny (model prog w) A (richCompare .Gt (.int a t) (.int c u)) Q E s:=
 (gt_int h:wpAny (model prog w) A (compareOp .Gt (.int a t) (.int c u)) Q E s)
theorem a2s(p q:Addr)(a c e f:Int)(l o r v:Tok)(n m:Nat)(C D:Option Addr)(K L:Array (Option Value)):Meets (Builtin.«tuple.__lt__» ⟨[.ref p,.ref q],[]⟩)
  (fun _ R s=>s.heap.get? p=some { cls:=.type "tuple",dict:=C,data:=.seq #[.int a l,.int c o] n,slots:=K }/\s.heap.get? q=some { cls:=.type "tuple",dict:=D,data:=.seq #[.int e r,.int f v] m,slots:=L }/\R (.ok (.ret (.bool (jz (a,c) (e,f))))) s):=
 .of_wp fun prog w A R s h=>by
  obtain⟨i,g,d,tk,j⟩:=s;obtain⟨F,G,h⟩:=h;have f2:=a1a;have H:=fun(Q:Bool->Shared->Prop)(E:Value->Shared->Prop)(h:Q (a==e) ⟨i,g,d,tk,j⟩)=>(tH (t:=l) (u:=r) h:wpAny (model prog w) A.in1 (eqBool (.int a l) (.int e r)) Q E ⟨i,g,d,tk,j⟩)
  have B:=fun(Q:Bool->Shared->Prop)(E:Value->Shared->Prop)(h:Q (c==f) ⟨i,g,d,tk,j⟩)=>(tH (t:=o) (u:=v) h:wpAny (model prog w) A.in1 (eqBool (.int c o) (.int f v)) Q E ⟨i,g,d,tk,j⟩)
  have I:=Oo A.in1 ⟨i,g,d,tk,j⟩ a l e r prog w;have J:=Oo A.in1 ⟨i,g,d,tk,j⟩ c o f v prog w;have out:∀ b:Bool,(b=true↔cM (a,c) (e,f))->R (.ok (.ret (.bool b))) ⟨i,g,d,tk,j⟩:=fun b z=>by
   have:b=jz (a,c) (e,f):=by
    unfold jz;by_cases k:cM (a,c) (e,f)
    ·rw[bQ k];exact z.mpr k
    ·rw[cD k];cases b
     ·rfl
     ·exact absurd (z.mp rfl) k
   rw[this];exact h
  wp_walk using wpAny_loadPart' F,wpAny_loadPart' G,H,B
  by_cases x:a=e
  ·rw[show(a==e)=true from lG.mpr x]
   wp_walk using B
   by_cases y:c=f
   ·rw[show(c==f)=true from lG.mpr y]
    wp_walk
    refine⟨_,rfl,out _ ?_⟩;simp[Builtin.Tuple.tupleCompareSizes,cM,x,y]
   ·rw[show(c==f)=false from qO.mpr y]
    wp_walk using J
    refine⟨_,rfl,out _ ?_⟩;rw[jx];unfold cM;dsimp only;lia
  ·rw[show(a==e)=false from qO.mpr x]
   wp_walk using I
   refine⟨_,rfl,out _ ?_⟩;rw[jx];unfold cM;dsimp only;lia
theorem a2d(p q:Addr)(a c e f:Int)(l o r v:Tok)(n m:Nat)(C D:Option Addr)(K L:Array (Option Value)):Meets (Builtin.«tuple.__gt__» ⟨[.ref p,.ref q],[]⟩)
  (fun _ R s=>s.heap.get? p=some { cls:=.type "tuple",dict:=C,data:=.seq #[.int a l,.int c o] n,slots:=K }/\s.heap.get? q=some { cls:=.type "tuple",dict:=D,data:=.seq #[.int e r,.int f v] m,slots:=L }/\R (.ok (.ret (.bool (jz (e,f) (a,c))))) s):=
 .of_wp fun prog w A R s h=>by
  obtain⟨i,g,d,tk,j⟩:=s;obtain⟨F,G,h⟩:=h;have f2:=a1a;have H:=fun(Q:Bool->Shared->Prop)(E:Value->Shared->Prop)(h:Q (a==e) ⟨i,g,d,tk,j⟩)=>(tH (t:=l) (u:=r) h:wpAny (model prog w) A.in1 (eqBool (.int a l) (.int e r)) Q E ⟨i,g,d,tk,j⟩)
  have B:=fun(Q:Bool->Shared->Prop)(E:Value->Shared->Prop)(h:Q (c==f) ⟨i,g,d,tk,j⟩)=>(tH (t:=o) (u:=v) h:wpAny (model prog w) A.in1 (eqBool (.int c o) (.int f v)) Q E ⟨i,g,d,tk,j⟩)
  have I:=Om A.in1 ⟨i,g,d,tk,j⟩ a l e r prog w;have J:=Om A.in1 ⟨i,g,d,tk,j⟩ c o f v prog w;have out:∀ b:Bool,(b=true↔cM (e,f) (a,c))->R (.ok (.ret (.bool b))) ⟨i,g,d,tk,j⟩:=fun b z=>by
   have:b=jz (e,f) (a,c):=by
    unfold jz;by_cases k:cM (e,f) (a,c)
    ·rw[bQ k];exact z.mpr k
    ·rw[cD k];cases b
     ·rfl
     ·exact absurd (z.mp rfl) k
   rw[this];exact h
  wp_walk using wpAny_loadPart' F,wpAny_loadPart' G,H,B
  by_cases x:a=e
  ·rw[show(a==e)=true from lG.mpr x]
   wp_walk using B
   by_cases y:c=f
   ·rw[show(c==f)=true from lG.mpr y]
    wp_walk
    refine⟨_,rfl,out _ ?_⟩;simp[Builtin.Tuple.tupleCompareSizes,cM,x,y]
   ·rw[show(c==f)=false from qO.mpr y]
    wp_walk using J
    refine⟨_,rfl,out _ ?_⟩;rw[jx];unfold cM;dsimp only;lia
  ·rw[show(a==e)=false from qO.mpr x]
   wp_walk using I
   refine⟨_,rfl,out _ ?_⟩;rw[jx];unfold cM;dsimp only;lia
section
variable{X:Cx}{K:ao}
def a7M(K:ao):R2:=fun x y H Q=>∃(a b:Cell),Den K H x (aC a)/\Den K H y (aC b)/\Q (.bl (jz b a)) H
theorem a5S(G:X.A.units+60<cLine):OpR X (compareOp .Gt) (a7M X.K):=by
 intro pins s zzs H x y v u Q I t w h;obtain⟨a,b,g,i,q⟩:=h;obtain⟨p,o,z,B,n,rfl,e,c,f1⟩:=ux I g t;obtain⟨r,o',C,D,m,rfl,f,d,f2⟩:=ux I i w;obtain⟨oc,od,of,k⟩:=o;obtain⟨J,j,L,l⟩:=o';dsimp only at c f1 d f2;subst c f1 d f2;refine richCompare_meets_room (op:=.Gt) ⟨_,e,rfl⟩ ⟨_,f,rfl⟩ PySem.F.slot_tuple_gt PySem.F.entry_tuple_gt (PySem.F.args_tuple_gt_2 _ _) (a2d p r a.1 a.2 b.1 b.2 z B C D n m od j k l) ⟨e,f,?_⟩ (by lia);exact(show Value.bool (jz b a)≠Value.notImplemented/\EP X pins zzs Q (.bool (jz b a)) s from⟨(fun E=>nomatch E),⟨.bl (jz b a),H,I,rfl,q⟩⟩)
theorem a7p(b:X.A.units+60<cLine)(a:X.K=K:=by rfl):OpR X (compareOp .Gt) (a7M K):=by subst a;exact a5S b
end
def llt:List Cell->List Cell->Bool
 |[],[]=>false
 |[],_::_=>true
 |_::_,[]=>false
 |a::x,b::y=>if a=b then llt x y else jz a b
theorem yO:lQ llt:=by
 refine⟨?_,?_,?_⟩
 ·intro a
  induction a with
  |nil=>intro b h;cases b<;>first|rfl|(cases h)
  |cons x a f=>
   intro b h;cases b with
   |nil=>cases h
   |cons y b=>
    unfold llt at h ⊢;by_cases e:x=y
    ·rw[aK e] at h;rw[aK e.symm];exact f b h
    ·rw[aJ e] at h;rw[aJ (iR e)];exact vK.Mt _ _ h
 ·intro a
  induction a with
  |nil=>intro b c _ h;cases c<;>first|rfl|skip;cases b<;>simp_all[llt]
  |cons x a f=>
   intro b c h1 h2;cases b with
   |nil=>simp[llt] at h1
   |cons y b=>
    cases c with
    |nil=>simp[llt] at h2
    |cons i c=>
     unfold llt at h1 h2 ⊢;by_cases g:y=x
     ·subst g;rw[aK rfl] at h1;by_cases d:i=y
      ·rw[aK d] at h2 ⊢;exact f b c h1 h2
      ·rw[aJ d] at h2 ⊢;exact h2
     ·rw[aJ g] at h1;by_cases d:i=y
      ·subst d;rw[aJ g];exact h1
      ·rw[aJ d] at h2;by_cases j:i=x
       ·subst j;exact absurd (vK.anti _ _ h1 h2) (by simpa using g)
       ·rw[aJ j];exact vK.tr _ _ _ h1 h2
 ·intro a
  induction a with
  |nil=>intro b h1 h2;cases b<;>simp_all[llt]
  |cons x a f=>
   intro b h1 h2;cases b with
   |nil=>simp[llt] at h2
   |cons y b=>
    unfold llt at h1 h2;by_cases e:x=y
    ·rw[aK e] at h1;rw[aK e.symm] at h2;rw[e,f b h1 h2]
    ·rw[aJ e] at h1;rw[aJ (iR e)] at h2;exact absurd (vK.anti _ _ h1 h2) e
def a4H(A:Around)(s:Shared)(y x:Value)(b:Bool):Prop:=
 ∀(prog:Program)(w:World)(E:Value->Shared->Prop)(Q:Value->Shared->Prop),Q (.bool b) s->wpAny (model prog w) A (richCompare .Lt y x) Q E s
theorem a2r(l b:Addr)(xs c:Array Value)(n m:Nat)(u v:Option Addr)(H I:Array (Option Value))(cs a:List Cell)(D:xs.size=cs.length)(E:c.size=a.length)(k:Nat) :
  ∀ i:Nat,cs.length-i=k->i<=cs.length->i<=a.length->Meets (Builtin.«list.__eq__.loop» ⟨[.ref l,.ref b,rawInt i,rawInt 0],[]⟩)
   (fun A R s=>s.heap.get? l=some { cls:=.type "list",dict:=u,data:=.seq xs n,slots:=H }/\s.heap.get? b=some { cls:=.type "list",dict:=v,data:=.seq c m,slots:=I } /\
    (∀ j (K:j<xs.size) (L:j<c.size) (M:j<cs.length) (N:j<a.length),EqAt A.in1 s xs[j] c[j] (decide (cs[j]=a[j]))/\a4H A.in1 s xs[j] c[j] (jz cs[j] a[j])) /\
    R (.ok (.ret (.bool (llt (cs.drop i) (a.drop i))))) s):=by
 have fin:∀ i,i<=cs.length->i<=a.length->(i=cs.length\/i=a.length)->llt (cs.drop i) (a.drop i)=decide (xs.size<c.size):=fun i i1 i2 O=>by
  rw[D,E];by_cases J:i=cs.length
  ·rw[Lb (by lia)];by_cases r:i=a.length
   ·rw[Lb (by lia),cD (by lia)];rfl
   ·rw[zF (by lia),bQ (by lia)];rfl
  ·have r:i=a.length:=by lia
   rw[zF (by lia),Lb (l:=a) (by lia),cD (by lia)];rfl
 induction k with
 |zero=>
  intro i B i1 i2 prog w A R s h;obtain⟨C,g,d,tk,G⟩:=s;obtain⟨f,e,t,h⟩:=h
  wp_walk using wpAny_loadPart' f,wpAny_loadPart' e
  have o:xs[((i:Nat):Int).toNat]?=none:=by simp;lia
  rw[o];rw[fin i i1 i2 (.inl (by lia))] at h;cases c[((i:Nat):Int).toNat]?
  all_goals
   wp_walk using wpAny_loadPart' f,wpAny_loadPart' e
   exact h
 |succ k F=>
  intro i B i1 i2 prog w A R s h;obtain⟨C,g,d,tk,G⟩:=s;obtain⟨f,e,t,h⟩:=h
  wp_walk using wpAny_loadPart' f,wpAny_loadPart' e
  have o:xs[((i:Nat):Int).toNat]?=some xs[i]:=by
   rw[gD];exact jc (by lia)
  by_cases r:i=a.length
  ·have q:c[((i:Nat):Int).toNat]?=none:=by simp;lia
   rw[o,q];rw[fin i i1 i2 (.inr r)] at h
   wp_walk using wpAny_loadPart' f,wpAny_loadPart' e
   exact h
  ·have q:c[((i:Nat):Int).toNat]?=some c[i]:=by
    rw[gD];exact jc (by lia)
   have z:((i:Int)+1)=((i+1:Nat):Int):=by push_cast;rfl
   obtain⟨x,y⟩:=t i (by lia) (by lia) (by lia) (by lia);rw[o,q];rw[zF (by lia),zF (l:=a) (by lia)] at h;unfold llt at h;refine aR (x prog w _ _ ?_);by_cases p:cs[i]=a[i]
   ·rw[aK p] at h;rw[bQ p]
    wp_walk
    rw[z];exact⟨tX plain_eq_loop _,tW entry_eq_loop (by
     rw[vC plain_eq_loop _];exact F (i+1) (by lia) (by lia) (by lia) prog w A R _ ⟨f,e,t,h⟩)⟩
   ·rw[aJ p] at h;rw[cD p]
    wp_walk using wpAny_loadPart' f,wpAny_loadPart' e
    rw[o,q];refine aR (y prog w _ _ ?_)
    wp_walk
    exact h
theorem YG(l b:Addr)(xs c:Array Value)(n m:Nat)(e f:Option Addr)(o p:Array (Option Value))(cs a:List Cell)(r:xs.size=cs.length)(t:c.size=a.length):Meets (Builtin.«list.__lt__» ⟨[.ref l,.ref b],[]⟩)
   (fun A R s=>s.heap.get? l=some { cls:=.type "list",dict:=e,data:=.seq xs n,slots:=o }/\s.heap.get? b=some { cls:=.type "list",dict:=f,data:=.seq c m,slots:=p } /\
    (∀ j (v:j<xs.size) (x:j<c.size) (y:j<cs.length) (z:j<a.length),EqAt A.in1 s xs[j] c[j] (decide (cs[j]=a[j]))/\a4H A.in1 s xs[j] c[j] (jz cs[j] a[j])) /\
    R (.ok (.ret (.bool (llt cs a)))) s):=by
 intro prog w A R s h;obtain⟨B,g,d,tk,C⟩:=s;obtain⟨k,i,q,h⟩:=h;have u:=AutoSeq1.sub_list_list
 wp_walk using wpAny_loadPart' k,wpAny_loadPart' i
 exact⟨tX plain_eq_loop _,tW entry_eq_loop (by
  rw[vC plain_eq_loop _];exact a2r l b xs c n m e f o p cs a r t _ 0 rfl (jh _) (jh _) prog w A R _ ⟨k,i,q,h⟩)⟩
end L2
namespace L2
open PySem PySem.Spec PyProof.Rows PySem.W PySem.SeqAt
structure oh(h:Heap)(u:Value)(c:Cell):Prop where
 ex:∃(a:Addr)(o:Obj)(t t':Tok)(n:Nat),u=.ref a/\h.get? a=some o/\o.cls=.type "tuple" /\ o.data=.seq #[.int c.1 t,.int c.2 t'] n
theorem oh.keep{h h':Heap}{u:Value}{c:Cell}(e:oh h u c)(k:Keeps h h'):oh h' u c:=by
 obtain⟨a,o,t,f,n,h1,h2,b,d⟩:=e.ex;exact⟨a,o,t,f,n,h1,k _ _ h2,b,d⟩
structure um(h:Heap)(u:Value)(cs:List Cell):Prop where
 ex:∃(a:Addr)(o:Obj)(us:Array Value)(n:Nat),u=.ref a/\h.get? a=some o/\o.cls=.type "list" /\ o.data=.seq us n/\us.size=cs.length/\∀ j (h1:j<us.size) (h2:j<cs.length),oh h us[j] cs[j]
theorem um.keep{h h':Heap}{u:Value}{cs:List Cell}(e:um h u cs)(k:Keeps h h'):um h' u cs:=by
 obtain⟨a,o,l,n,h1,h2,d,f,g,i⟩:=e.ex;exact⟨a,o,l,n,h1,k _ _ h2,d,f,g,fun j b c=>(i j b c).keep k⟩
section
variable{A:Around}{s:Shared}
theorem VP{x y:Value}{c d:Cell}(C:oh s.heap x c)(D:oh s.heap y d)(B:A.units<cLine):EqAt A s x y (decide (c=d)):=by
 obtain⟨a,o,t,k,n,rfl,h2,z,p⟩:=C.ex;obtain⟨b,o',u,l,m,rfl,f,r,g⟩:=D.ex;by_cases e:a=b
 ·subst e;rw[h2] at f;cases f;rw[p] at g;have q:c=d:=by
   injection g with g5 _;have v:[Value.int c.1 t,Value.int c.2 k]=[Value.int d.1 u,Value.int d.2 l]:=congrArg Array.toList g5;injection v with a1 a2;injection a2 with a2 _;injection a1 with a1 _;injection a2 with a2 _;exact nD a1 a2
  rw[bQ q];exact EqAt.same _
 ·have key:=M5 e (RcAt.tuples (e:=fun j=>if j=0 then c.1==d.1 else c.2==d.2) ⟨o,h2,z,n,p⟩ ⟨o',f,r,m,g⟩ B fun j i F=>?_)
  ·have:((List.range (min (#[Value.int c.1 t,Value.int c.2 k]:Array Value).size (#[Value.int d.1 u,Value.int d.2 l]:Array Value).size)).all (fun j=>if j=0 then c.1==d.1 else c.2==d.2)&&(#[Value.int c.1 t,Value.int c.2 k]:Array Value).size==(#[Value.int d.1 u,Value.int d.2 l]:Array Value).size)=decide (c=d):=by
    show((List.range 2).all (fun j=>if j=0 then c.1==d.1 else c.2==d.2)&&true)=_;have:List.range 2=[0,1]:=rfl;rw[this];simp only[Cv,List.all_nil,aK,LK];rw[vq];simp[Prod.ext_iff]
   rw[this] at key;exact key
  ·match j,i,F with
   |0,_,_=>exact fun prog w E Q h=>tH h
   |1,_,_=>exact fun prog w E Q h=>tH h
   |j+2,i,_=>exact absurd i (by simp)
theorem Wg{x y:Value}{c d:Cell}(k:oh s.heap x c)(l:oh s.heap y d)(j:A.units<cLine):a4H A s x y (jz c d):=by
 obtain⟨a,o,t,z,n,rfl,h2,h,i⟩:=k.ex;obtain⟨b,o',u,B,m,rfl,e,f,g⟩:=l.ex;obtain⟨oc,od,of,r⟩:=o;obtain⟨D,p,G,v⟩:=o';dsimp only at h i f g;subst h i f g;intro prog w E Q q;refine richCompare_meets_room (op:=.Lt) ⟨_,h2,rfl⟩ ⟨_,e,rfl⟩ PySem.F.slot_tuple_lt PySem.F.entry_tuple_lt (PySem.F.args_tuple_lt_2 _ _) (a2s a b c.1 c.2 d.1 d.2 t z u B n m od p r v) ⟨h2,e,?_⟩ j;exact(show Value.bool (jz c d)≠Value.notImplemented/\Q (.bool (jz c d)) s from⟨(fun C=>nomatch C),q⟩)
theorem YL{prog:Program}{w:World}{E:Value->Shared->Prop}{x y:Value}{cs c:List Cell}(z:um s.heap x cs)(B:um s.heap y c)(J:A.units+2<cLine){Q:Bool->Shared->Prop}(q:Q (llt cs c) s):wpAny (model prog w) A (keyLt' oneType' x y) Q E s:=by
 obtain⟨a,o,H,n,rfl,h2,g,h,v,i⟩:=z.ex;obtain⟨b,o',I,m,rfl,t,d,e,u,f⟩:=B.ex;obtain⟨oc,od,of,D⟩:=o;obtain⟨K,C,L,G⟩:=o';dsimp only at g h d e;subst g h d e;rw[keyLt'_oneType,oneLt'_eq];simp only[nF];refine aR (wpAny_cRoomFor (by lia) ?_);refine aR (wpAny_callSpecialIfBound?_slot (T:="list") ⟨_,h2,rfl⟩ a1r (yu a1r ⟨_,h2,rfl⟩ PySem.F.entry_list_lt (PySem.F.args_list_lt_2 _ _) (YG a b H I n m od C D G cs c v u) ⟨h2,t,fun j k l p r=>⟨VP (i j k p) (f j l r) (by show A.units+1<cLine;lia),Wg (i j k p) (f j l r) (by show A.units+1<cLine;lia)⟩,?_⟩));exact wQ q
end
theorem QX{P:Program}{w:World}{h:Heap}{us:List Value}{b:List (List Cell)}(x:us.length=b.length)(c:∀ i,i<b.length->um h (us.getD i Value.none) (b.getD i [])):Ma P w h us llt fun i=>b.getD i []:=by
 refine⟨fun h2=>⟨oneType',fun d r s' t kp q=>?_,fun d s' i j C m kp hi u l=>?_⟩⟩
 ·refine kas_kind (T:=.type "list") h2 (fun v p=>?_) (by decide) (by decide) q;obtain⟨i,hi,rfl⟩:=Rx.mp p;have:=c i (by lia);rw[fM,fY hi] at this;obtain⟨a,o,y,n,e,h2,g,_⟩:=this.ex;have f:us[i]=.ref a:=e;rw[f];refine Looks.keeps ?_ kp;exact fun A Q E s k q=>wpAny_typeOf ⟨o,k _ _ h2,g⟩ q
 ·exact YL ((c i (by lia)).keep kp) ((c j (by lia)).keep kp) m l
abbrev uJ(cs:List Cell):Dt:=.lst (cs.map aC)
theorem oh.det{h:Heap}{u:Value}{c d:Cell}(x:oh h u c)(y:oh h u d):c=d:=by
 obtain⟨a,o,t,k,n,rfl,h2,q,j⟩:=x.ex;obtain⟨b,o',v,l,m,e,f,p,g⟩:=y.ex;cases e;rw[h2] at f;cases f;rw[j] at g;injection g with g5 _;have i:[Value.int c.1 t,Value.int c.2 k]=[Value.int d.1 v,Value.int d.2 l]:=congrArg Array.toList g5;injection i with a1 a2;injection a2 with a2 _;injection a1 with a1 _;injection a2 with a2 _;exact nD a1 a2
theorem um.det{h:Heap}{u:Value}{cs c:List Cell}(x:um h u cs)(y:um h u c):cs=c:=by
 obtain⟨a,o,s,n,rfl,h2,q,j,r,k⟩:=x.ex;obtain⟨b,o',t,m,e,d,l,f,p,g⟩:=y.ex;cases e;rw[h2] at d;cases d;rw[j] at f;injection f with g5' _;subst g5';refine List.ext_getElem (by lia) fun i i1 i2=>?_
 exact(k i (by lia) i1).det (g i (by lia) i2)
section
variable{X:Cx}
theorem a3z{t:List (Addr×Obj)}{zzs:L2.St}{H:Hp}{s:Shared}{v:V}{u:Value}{cs:List Cell}(I:Inv X t zzs H s)(d:Den X.K H v (uJ cs))(r:RelV v u):um s.heap u cs:=by
 cases d with
 |@lst a xs _ h g=>
  cases r;obtain⟨b,rv,⟨o,n,l,m,_,p⟩,_⟩:=I.list h;have f:b.length=cs.length:=by rw[<- rv.length,g.length,aL]
  refine⟨a,o,b.toArray,n,rfl,l,m,p,by simpa using f,fun j z i=>?_⟩;have k:j<xs.length:=by rw[rv.length,f];exact i
  obtain⟨x,e,w⟩:=rv.get (show xs[j]?=some xs[j] from by simp[k]);obtain⟨y,c,dd⟩:=g.get (show xs[j]?=some xs[j] from by simp[k]);rw[cP,fY i] at c;cases c;have q:b.toArray[j]=x:=by
   rw[fY (by omega)] at e;simpa using iD e
  rw[q];exact⟨ux I dd w⟩
def Vg(rs:List (List Cell)):Prop:=rs.Pairwise fun a b=>llt b a=false
def ZG(K:ao):List V->Hp->VK->Prop:=fun xs H Q=>∃(p:Addr)(vs:List V)(rs:List (List Cell)),xs=[.ref p]/\SqL K H p vs/\bf K H vs (rs.map uJ)/\∀(l:Addr)(o:List Nat),H l=none->o.Perm (List.range vs.length)->Vg (o.map fun i=>rs.getD i [])->Q (.ref l) (upd H l (.lst (o.map fun i=>vs.getD i .non)))
theorem Q7(U:X.A.units+60<cLine):fH X (.builtin "sorted") (ZG X.K):=by
 intro pins s zzs H xs Y Q I r h;obtain⟨p,c,d,rfl,E,v,q⟩:=h;obtain⟨u,rfl,t⟩:=vals1 r;cases t;obtain⟨f,rv,N,L⟩:=I.list E;have G:f.length=d.length:=by rw[<- rv.length,v.length,aL]
 have n:c.length=f.length:=rv.length;have m:∀ i,i<d.length->um s.heap (f.getD i Value.none) (d.getD i []):=fun i hi=>by
  have y:i<c.length:=by lia
  obtain⟨W,D,t⟩:=rv.get (show c[i]?=some c[i] from by simp[y]);obtain⟨S,w,dd⟩:=v.get (show c[i]?=some c[i] from by simp[y]);rw[cP,fY hi] at w;cases w;rw[fM,D,fM,fY hi];exact a3z I dd t
 have one:wV f fun i=>d.getD i []:=fun i j hi x e=>by
  have k:=m i (by lia);have l:=m j (by lia);rw[e] at k;exact k.det l
 refine PL yO one (by lia) (QX G m) (by lia) N.isList fun o g R=>?_
 obtain⟨e,F⟩:=sortedAll_at s.heap f (byP f o).toArray;have J:H (s.heap.objs.size+1)=none:=I.hok.fresh (tL _);have B:∀ i∈o.toList,i<c.length:=fun i hi=>by rw[n];exact fP.mp (g.perm.mem_iff.mp hi)
 have P:Vals (o.toList.map fun i=>c.getD i .non) (byP f o):=Ei rv o.toList B;have O:(o.toList.map fun i=>c.getD i .non).Perm c:=vY (by rw[n];exact g.perm);have z:Vg (o.toList.map fun i=>d.getD i []):=by
  unfold Vg;rw[Dg];intro i j hi x T;rw[aL,fu,g.size] at hi x;have:=R.le yO (j-i) i (by lia);have C:i+(j-i)=j:=by lia
  rw[C] at this;have sz:=g.size;have k:Ky (fun i=>d.getD i []) o i=(o.toList.map fun i=>d.getD i [])[i]:=by
   unfold Ky;rw[Ce,qN,jc (by lia)];rfl
  have l:Ky (fun i=>d.getD i []) o j=(o.toList.map fun i=>d.getD i [])[j]:=by
   unfold Ky;rw[Ce,qN,jc (by lia)];rfl
  rw[<- k,<- l];exact this
 have M:(o.toList.map fun i=>c.getD i .non).length<=sizeLine:=by rw[O.length_eq];exact L
 exact⟨.ref (s.heap.objs.size+1),upd H (s.heap.objs.size+1) (.lst (o.toList.map fun i=>c.getD i .non)),I.laid (a:=s.heap.objs.size+1) (o:=.lst (o.toList.map fun i=>c.getD i .non)) (t':=s.toks) (fun b o q=>sortedAll_old q) (tL _) ⟨M,byP f o,e,P,F⟩,rfl,q _ _ J (by rw[n];exact g.perm) z⟩
theorem Ua{K:ao}(b:X.A.units+60<cLine)(a:X.K=K:=by rfl):fH X (.builtin "sorted") (ZG K):=by subst a;exact Q7 b
theorem Te{f:Type}{lt:f->f->Bool}(o:lQ lt):∀ {xs c:List f},xs.Perm c->xs.Pairwise (fun a b=>lt b a=false)->c.Pairwise (fun a b=>lt b a=false)->xs=c
 |[],c,p,_,_=>by rw[List.nil_perm.mp p]
 |x::xs,[],p,_,_=>absurd p.length_eq (by simp)
 |x::xs,y::c,p,hx,hy=>by
  rw[vD] at hx hy;have e:x=y:=by
   have h1:x∈y::c:=p.mem_iff.mp eF;have h2:y∈x::xs:=p.mem_iff.mpr eF;rcases dj.mp h1 with d|d
   ·exact d
   ·rcases dj.mp h2 with w|w
    ·exact w.symm
    ·exact o.anti _ _ (hy.1 x d) (hx.1 y w)
  subst e;rw[Te o ((List.perm_cons x).mp p) hx.2 hy.2]
end
inductive fQ{α:Type}(R:α->V->Hp->Prop)(H:Hp):List V->List α->Prop
 |nil:fQ R H [] []
 |cons {v:V} {a:α} {vs:List V} {xs:List α} (h:R a v H) (t:fQ R H vs xs):fQ R H (v::vs) (a::xs)
section
variable{α β:Type}{R:α->V->Hp->Prop}{R2:β->V->Hp->Prop}{H H':Hp}
def Cz(R:α->V->Hp->Prop):Prop:=∀ a v H H',Same H H'->R a v H->R a v H'
theorem fQ.mono(a:Cz R)(s:Same H H'):∀ {vs:List V} {xs:List α},fQ R H vs xs->fQ R H' vs xs:=by
 intro vs xs h
 induction h with
 |nil=>exact .nil
 |cons h _ b=>exact .cons (a _ _ _ _ s h) b
theorem fQ.length:∀ {vs:List V} {xs:List α},fQ R H vs xs->vs.length=xs.length
 |_,_,.nil=>rfl
 |_,_,.cons _ t=>by rw[gY,gY,t.length]
theorem fQ.append:∀ {vs ws:List V} {xs a:List α},fQ R H vs xs->fQ R H ws a->fQ R H (vs++ws) (xs++a):=by
 intro vs ws xs a h h2
 induction h with
 |nil=>exact h2
 |cons h _ b=>exact .cons h b
theorem fQ.get:∀ {vs:List V} {xs:List α} {i:Nat} {v:V},fQ R H vs xs->vs[i]?=some v->∃ a,xs[i]?=some a/\R a v H
 |_,_,i,v,.nil,h=>by simp at h
 |_,_,0,v,.cons h t,e=>by simp at e;exact⟨_,rfl,by rw[<- e];exact h⟩
 |_,_,i+1,v,.cons h t,e=>by simp at e;obtain⟨a,b,r⟩:=t.get e;exact⟨a,by simpa using b,r⟩
theorem fQ.imp{R':α->V->Hp->Prop}(f:∀ a v,R a v H->R' a v H'):∀ {vs:List V} {xs:List α},fQ R H vs xs->fQ R' H' vs xs:=by
 intro vs xs h
 induction h with
 |nil=>exact .nil
 |cons h _ b=>exact .cons (f _ _ h) b
theorem fQ.a4Z{K:ao}{enc:α->Dt}(f:∀ a v,R a v H->Den K H v (enc a)):∀ {vs:List V} {xs:List α},fQ R H vs xs->bf K H vs (xs.map enc):=by
 intro vs xs h
 induction h with
 |nil=>exact .nil
 |cons h _ b=>exact .cons (f _ _ h) b
theorem fQ.by{d0:α}:∀ {vs:List V} {xs:List α} (o:List Nat),fQ R H vs xs->(∀ i∈o,i<vs.length)->fQ R H (o.map fun i=>vs.getD i .non) (o.map fun i=>xs.getD i d0)
 |vs,xs,[],_,_=>.nil
 |vs,xs,i::o,h,hb=>by
  have hi:=hb i eF;obtain⟨a,b,r⟩:=h.get (fY hi);rw[gq,gq];refine .cons ?_ (h.by o fun j c=>hb j (gk _ c));rw[fM,fM,fY hi,b];exact r
theorem Ew{o:It}{vs:List V}{xs:List α}{C:TT}{D:TE}{zzs:St}{fin:List V->Hp->Prop}(w:Cz R)(x:Cz R2)(j:ug o H vs)(A:fQ R H vs xs)(L:xs.length<=sizeLine)(p:α->Bool)(f:α->β)
  (M:∀ a∈xs,∀ v H',Same H H'->R a v H'->∀ g:Bool->Hp->Prop,(∀ c,Same H' c->g (p a) c)->C (some v::zzs) H' g)
  (K:∀ a∈xs,p a=true->∀ v H',Same H H'->R a v H'->∀ g:VK,(∀ y c,Same H' c->R2 (f a) y c->g y c)->D (some v::zzs) H' g)
  (J:∀ b H',Same H H'->fQ R2 H' b ((xs.filter p).map f)->fin b H'):∃ q:Nat->Nat->List V->Hp->Prop,(∃ m,q 0 m [] H)/\uc o C D zzs fin q:=by
 have z:vs.length=xs.length:=A.length;refine Tr (n:=vs.length) (item:=fun i=>vs.getD i .non) (fun i b H'=>Same H H'/\fQ R2 H' b (((xs.take i).filter p).map f)) (by rw[z];exact L) (fun i b H' hi r=>j.go H' i r.1 hi) (fun i b H' v c hi r y=>?_) (fun b H' r=>j.stop H' r.1)
  (fun i b H' hi r=>?_) ⟨Same.refl _,.nil⟩ (fun i b H' hi r g u=>?_) (fun b H' r=>?_)
 ·obtain⟨e,F⟩:=j.yld H' i v c r.1 hi y;exact⟨by rw[fM,e];rfl,F⟩
 ·rw[r.2.length,aL];exact cU (gW _ _) (by rw[jd];exact Nat.min_le_left _ _)
 ·obtain⟨s1,l⟩:=r;have h:i<xs.length:=by lia
  have I:vs[i]?=some (vs.getD i .non):=by simp[fM,hi]
  obtain⟨d,t,s⟩:=A.get I;have G:d=xs[i]:=by
   rw[fY h] at t;exact(iD t).symm
  subst G;have tk:xs.take (i+1)=xs.take i++[xs[i]]:=by rw[iB,fY h];rfl
  refine M xs[i] (mL h) _ H' s1 (w _ _ _ _ s1 s) _ fun H2 s2=>?_
  cases k:p xs[i] with
  |false=>
   refine uG (u _ _ ⟨s1.trans s2,?_⟩);rw[tk,qP,show List.filter p [xs[i]]=[] by simp[k],qT];exact l.mono x s2
  |true=>
   refine Fx (K xs[i] (mL h) k _ H2 (s1.trans s2) (w _ _ _ _ (s1.trans s2) s) _ fun y N B E=>u _ _ ⟨(s1.trans s2).trans B,?_⟩);rw[tk,qP,show List.filter p [xs[i]]=[xs[i]] by simp[k],d9];exact(l.mono x (s2.trans B)).append (.cons E .nil)
 ·rw[z,gP] at r;exact J b H' r.1 r.2
theorem vL{g:It}{vs:List V}{xs:List α}{i:TE}{zzs:St}{fin:List V->Hp->Prop}(l:Cz R)(n:Cz R2)(k:ug g H vs)(t:fQ R H vs xs)(r:xs.length<=sizeLine)(f:α->β)
  (q:∀ a∈xs,∀ v H',Same H H'->R a v H'->∀ c:VK,(∀ y d,Same H' d->R2 (f a) y d->c y d)->i (some v::zzs) H' c)
  (p:∀ b H',Same H H'->fQ R2 H' b (xs.map f)->fin b H'):∃ h:Nat->Nat->List V->Hp->Prop,(∃ m,h 0 m [] H)/\uc g Xf i zzs fin h:=
 Ew l n k t r (fun _=>true) f (fun a _ v H' _ _ c j=>j H' (Same.refl _)) (fun a o _=>q a o) fun b H' s e=>p b H' s (by rw[BL.mpr (fun _ _=>rfl)] at e;exact e)
end
def del(q:Addr)(H:Hp):Hp:=fun b=>if b=q then none else H b
theorem mR{q b:Addr}{H:Hp}(n:b≠q):del q H b=H b:=aJ n
theorem jW{q:Addr}{H:Hp}:Same (del q H) H:=fun b o e=>by
 unfold del at e;by_cases h:b=q
 ·rw[aK h] at e;cases e
 ·rwa[aJ h] at e
theorem SameBut.del{q:Addr}{H H':Hp}(s:SameBut q H H'):Same (L2.del q H) (L2.del q H'):=fun b o e=>by
 by_cases h:b=q
 ·subst h;unfold L2.del at e;rw[aK rfl] at e;cases e
 ·rw[mR h] at e ⊢;exact s _ _ e h
theorem Same.del{q:Addr}{H H':Hp}(s:Same H H'):Same (L2.del q H) (L2.del q H'):=(s.but q).del
theorem Same.into{q:Addr}{H H':Hp}(s:Same H H')(n:H q=none):Same H (L2.del q H'):=fun b o e=>by
 rw[mR (bL e n)];exact s _ _ e
section
variable{K:ao}{q:Addr}{H:Hp}{l:List V}
theorem a1P:SameBut q H (del q H):=fun b o e n=>by rw[mR n];exact e
theorem uy{p:Addr}{cs:List Cell}(a:H q=some (.lst l))(n:p≠q)(h:Ls K H p (cs.map aC)):Ls K (del q H) p (cs.map aC):=a1P.ls a n h
end
def jl(K:ao)(H0:Hp)(r:List Cell)(v:V)(H:Hp):Prop:=∃ a,v=.ref a/\H0 a=none/\Ls K H a (r.map aC)
theorem jl.stays{K:ao}{H0:Hp}:Cz (jl K H0):=fun r v H H' s h=>by
 obtain⟨a,e,n,l⟩:=h;exact⟨a,e,n,l.mono s⟩
theorem jl.den{K:ao}{H0 H:Hp}{r:List Cell}{v:V}(h:jl K H0 r v H):Den K H v (uJ r):=by
 obtain⟨a,rfl,n,l⟩:=h;exact l.den
theorem Vp{K:ao}{H:Hp}:∀ {vs:List V} {cs f:List Cell},bf K H vs (cs.map aC)->bf K H vs (f.map aC)->cs=f:=by
 intro vs cs f j k
 induction cs generalizing vs f with
 |nil=>cases j;cases f with|nil=>rfl|cons _ _=>cases k
 |cons c cs l=>
  cases f with
  |nil=>cases k;cases j
  |cons d f=>
  cases j with
  |cons h t=>
  cases k with
  |cons h' m=>
  obtain⟨a,rfl,_,e⟩:=fJ h;obtain⟨b,i,_,g⟩:=fJ h';cases i;rw[e] at g;injection g with g;injection g with g;injection g with i e2;injection e2 with e2 _;injection i with i;injection e2 with e2;rw[l t m,show c=d from nD i e2]
theorem jl.det{K:ao}{H0 H:Hp}{r d:List Cell}{v:V}(h:jl K H0 r v H)(h':jl K H0 d v H):r=d:=by
 obtain⟨a,rfl,n,xs,e,f⟩:=h;obtain⟨b,i,j,k,c,g⟩:=h';cases i;rw[e] at c;cases c;exact Vp f g
section
variable{P:Program}{w:World}{K:ao}{mg:Str->Option Value}{base:Heap}{N:List Str}{qual:Str}{scope:Scope}{f:Addr}{cd:Value}{A:Around}{outer:List Env}{s0:Shared}{H0:Hp}{E:XK}
theorem Uq:Passes (CXE P w) (tY (CXE P w) P w K mg base N qual scope f cd A outer s0 H0 E) E:=by
 rintro pins zzs H s e s' I ⟨i,C,H',rfl,ae,ad,O,U,J,ac⟩;obtain⟨Y,t,ab,Q⟩:=J.fl;have Z:∀ b,b∈frs (envOfC qual scope s0.heap.objs.size f cd::outer)->b=s0.heap.objs.size\/b∈frs outer:=fun b c=>dj.mp (I.xZ b c)
 have M:∀ b∈frs outer,b∈frs (envOfC qual scope s0.heap.objs.size f cd::outer):=fun b c=>by
  obtain⟨x,af,e⟩:=GP.mp c;exact GP.mpr ⟨x,gk _ af,e⟩
 show wpAny (model P w) (A.deeper (envOfC qual scope s0.heap.objs.size f cd)) (leaving (envOfC qual scope s0.heap.objs.size f cd) (.ref i)) (fun _ L=>CXE P w outer H0 s0 E (.ref i) L) (fun aa L=>CXE P w outer H0 s0 E aa L) s';refine wpAny_leaves_onW I.ok.frames rfl ab fun h' R sm=>?_
 have p:Un (frs outer) [] H0 H s0.heap s.heap:=I.base;have u:Un (frs (envOfC qual scope s0.heap.objs.size f cd::outer)) [] H0 H' s0.heap s'.heap:=(p.mono M fun _ d=>d).trans O;have g:∀ b:Addr,b∉([]:List Addr):=fun b=>by simp
 have F:∀ b o,s0.heap.get? b=some o->b∉frs outer->b∉frs (envOfC qual scope s0.heap.objs.size f cd::outer):=fun b o q n c=>by
  rcases Z b c with d|d
  ·exact dZ (bO q) d
  ·exact n d
 have D:∀ b o,s'.heap.get? b=some o->(H' b≠none\/∃ o',s.heap.get? b=some o')->b∉frs (envOfC qual scope s0.heap.objs.size f cd::outer)->h'.get? b=some o:=fun b o q c n=>R.1 b o (Q b o q c n)
 have B:∀ b,b∈frs (envOfC qual scope s0.heap.objs.size f cd::outer)->H' b=none/\∃ o,s'.heap.get? b=some o/\∀ ah,o.data≠.fields ah:=fun b c=>by
  obtain⟨_,o,T,l⟩:=I.stack.mem c;have S:=I.zA b c;obtain⟨ag,h⟩:=O.slot b o T S c (g b);exact⟨O.free b o T S (g b),_,h,l⟩
 refine⟨i,C,H',rfl,ae.trans I.os,ad,⟨fun b o q n c _=>?_,fun b o q n c _=>?_,fun b o q n _=>u.free b o q n (g b),fun b o q _=>?_,u.tups,u.rK,u.tZ⟩,fun a o q=>?_,⟨J.free,?_,Y,t,R,fun b o q c n=>?_⟩,ac⟩
 ·obtain⟨m,k⟩:=p.there b o q (g b);exact D b o (u.keep b o q n (F b o q c) (g b)) (.inr ⟨m,k⟩) (F b o q c)
 ·obtain⟨ag,h⟩:=u.slot b o q n (M b c) (g b);obtain⟨_,j,z,l⟩:=B b (M b c);rw[h] at z;cases z;obtain⟨X,G⟩:=sm b _ h l;exact⟨X,G⟩
 ·by_cases c:b∈frs (envOfC qual scope s0.heap.objs.size f cd::outer)
  ·obtain⟨_,j,z,l⟩:=B b c;obtain⟨X,G⟩:=sm b _ z l;exact⟨_,G⟩
  ·obtain⟨m,k⟩:=p.there b o q (g b);obtain⟨j,h⟩:=u.there b o q (g b);exact⟨j,D b j h (.inr ⟨m,k⟩) c⟩
 ·refine(U a o q).stay (fun b v c d=>D b v d (.inl ?_) ?_) (fun _ d=>d) fun _ _ d=>d
  ·rcases c with rfl|c
   ·rw[q];exact fun d=>by cases d
   ·rw[c];exact fun d=>by cases d
  ·intro y;have:=(B b y).1;rcases c with rfl|c
   ·rw[q] at this;cases this
   ·rw[c] at this;cases this
 ·cases q:s0.heap.get? i with
  |none=>rfl
  |some o=>
   obtain⟨W,d⟩:=p.there i o q (g i);rw[J.new] at d;cases d
 ·have key:∃ o',s'.heap.get? b=some o'/\(H' b≠none\/∃ o',s.heap.get? b=some o')/\b∉frs (envOfC qual scope s0.heap.objs.size f cd::outer):=by
   rcases c with d|⟨o',d⟩
   ·cases r:H' b with
    |none=>exact absurd r d
    |some v=>
     obtain⟨W,y⟩:=(U b v r).there;exact⟨W,y,.inl (fun d=>by cases d),fun c=>by have:=(B b c).1;rw[r] at this;cases this⟩
   ·obtain⟨m,k⟩:=p.there b o' d (g b);obtain⟨j,h⟩:=u.there b o' d (g b);exact⟨j,h,.inr ⟨m,k⟩,F b o' d n⟩
  obtain⟨o',y,h1,h2⟩:=key;have:=D b o' y h1 h2;rw[q] at this;cases this;exact Q b _ y h1 h2
end
section
variable{X:Cx}{e o i:Expr}{te to ti:TE}{pos tpos:Pos}
def a4i(K:ao):V->V->Hp->VK->Prop:=fun x y H Q=>∃ p xs,∃ j:Nat,∃ v,x=.ref p/\y=.int j/\SqL K H p xs/\xs[j]?=some v/\Q v H
theorem W4:a72 X (a4i X.K):=by
 intro pins s zzs H o i y x Q I f e h;obtain⟨p,xs,j,v,rfl,rfl,c,a,q⟩:=h;cases f;obtain⟨t,rfl⟩:=e;obtain⟨u,r,d,n⟩:=I.list c;obtain⟨w,b,g⟩:=r.get a;have l:=r.length;have m:=xJ;have k:j<xs.length:=(gO.mp a).1;exact wpAny_getItem_list d.isList (Ln j) (by lia) (by simpa using b) ⟨v,H,I,g,q⟩
theorem UG{K:ao}(h:RE X o to)(g:RE X i ti)(f:RE X e te)(d:∀ b a new,augStore i b a new=(do holding [new,b,a] (setItem b a new);release [new,b,a] [];pure .next):=by intros;rfl)(c:X.K=K:=by rfl) :
  RS X (.AugAssign (.Subscript o i tpos) .Add e pos) (a4z to ti te (a4i K) (ipI fun i j=>i+j) a4m):=by subst c;exact⟨a3a h.ok g.ok W4 f.ok a5o set_list d⟩
def ZC(K:ao):V->List V->Hp->VK->Prop:=fun x xs H Q=>∃(p:Addr)(ns:List Int)(k:Int),x=.ref p/\xs=[.int k]/\SqL K H p (ns.map V.int)/\Q (.int (ns.count k)) H
theorem Wi:MtR X "list.count" (ZC X.K):=by
 intro pins s zzs H x xs v j Q I e c h;obtain⟨p,i,k,rfl,rfl,a,q⟩:=h;cases e;obtain⟨u,rfl,d⟩:=vals1 c;obtain⟨t,rfl⟩:=d;obtain⟨g,rv,b,f⟩:=I.list a;exact count_list_ints b.isList (intsAre_of rv) ⟨.int _,H,I.tok _,⟨_,rfl⟩,q⟩
theorem a2i{K:ao}(a:X.K=K:=by rfl):MtR X "list.count" (ZC K):=by subst a;exact Wi
end
section
variable{prog:Program}{w:World}{A:Around}{R:Result->Shared->Prop}{I:Addr}{fp wr:List Addr}{n:Nat}{P:Nat->Value->Prop}{St:Nat->Heap->Prop}
theorem Wh(r:Walks prog w A.in1 I fp wr n P St)(i:Nat->Nat->Bool)(W:CmpOf prog w A.in1 .Gt P i)(S:Addr)(H:S∉fp)(nm:Str)(d:Value) :
  ∀(k j:Nat)(s:Shared)(t:Array Value)(c:Nat),n-j=k->j<=n->St j s.heap->(j=0/\t=#[])\/(∃ f,0<j/\P (argBest i (j-1)) f/\t=#[f,f]) ->
  s.heap.get? S=some { cls:=.type "list",dict:=none,data:=.seq t c,slots:=#[] } ->
  (∀ v h' tk,(n=0/\v=d)\/(0<n/\P (argBest i (n-1)) v)->(∀ b o,b∉wr->b≠S->s.heap.get? b=some o->h'.get? b=some o)->R (.ok (.ret v)) { s with heap:=h',toks:=tk }) ->
  codeAny (model prog w) A (.builtin "max.loop" ⟨[.ref I,.none,.ref S],[(nm,d)]⟩) R s:=by
 have Q:S∉wr:=fun h=>H (r.sub _ h)
 have L:(toString "max" ++ toString ".loop" : String) = "max.loop":=by decide
 intro k
 induction k with
 |zero=>
  intro j s t c Y X M J z q;have U:j=n:=by omega
  refine tW F.entry_max_loop ?_;rw[vC Ci _];show wpAny _ A.in1 (seqItems? (.ref S) >>= _) _ _ s;refine aR (wpAny_seqItems z rfl ?_);show wpAny _ A.in1 (tryCatch (pyNext (.ref I)) _ >>= _) _ _ s;refine aR (SM (r.done s _ _ (U▸M) fun h' tk l=>?_));rcases J with⟨E,rfl⟩|⟨f,E,y,rfl⟩
  ·exact aR (lA (bN (q d h' tk (.inl ⟨by lia,rfl⟩) fun b o a _ e=>l b o a e)))
  ·have p:=l S _ Q z;show wpAny _ A.in1 (updateSeq S (fun _=>#[]) >>= _) _ _ _;refine aR ?_;refine Hg p rfl (aR (M6 (bN ?_)));exact q f _ tk (.inr ⟨by lia,by rw[<- U];exact y⟩) fun b o a g e=>(Hv _ _ (iR g)).trans (l b o a e)
 |succ k O=>
  intro j s t c Y X M J z q;have Z:j<n:=by omega
  refine tW F.entry_max_loop ?_;rw[vC Ci _];show wpAny _ A.in1 (seqItems? (.ref S) >>= _) _ _ s;refine aR (wpAny_seqItems z rfl ?_);show wpAny _ A.in1 (tryCatch (pyNext (.ref I)) _ >>= _) _ _ s;refine aR (SM (r.item j s _ _ Z M fun v h' tk G N l=>?_));have p:=l S _ Q z;rcases J with⟨E,rfl⟩|⟨f,E,y,rfl⟩
  ·subst E;show wpAny _ A.in1 (updateSeq S (fun _=>#[v,v]) >>= _) _ _ _;refine aR ?_;refine Hg p rfl ?_;rw[L];refine bN ⟨tX Ci _,O 1 _ _ _ (by lia) (by lia) (r.frame _ _ _ N fun b K o e=>?_) (.inr ⟨v,by lia,G,rfl⟩) (Dj _ p rfl) fun D u C x B=>?_⟩
   ·exact(Hv _ _ (fun h:S=b=>H (by rw[h];exact K))).trans e
   ·exact q D u C x fun b o a g e=>B b o a g ((Hv _ _ (iR g)).trans (l b o a e))
  ·obtain⟨j,rfl⟩:∃ m,j=m+1:=⟨j-1,by lia⟩
   rw[a1A] at y;show wpAny _ A.in1 (tryCatch (holding [v,v] (richCompare .Gt v f >>= _)) _ >>= _) _ _ _;refine aR (SM (qU (aR (W (j+1) (argBest i j) v f _ _ _ G y ?_))));refine aR (qU (wQ ?_));refine aR (M6 (bN ?_));cases T:i (j+1) (argBest i j) with
   |true=>
    simp only[nF];refine aR ?_;refine Hg p rfl (aR (M6 ?_));rw[L];refine bN ⟨tX Ci _,O (j+2) _ _ _ (by omega) (by lia) (r.frame _ _ _ N fun b K o e=>?_) (.inr ⟨v,by lia,by show P (argBest i (j+1)) v;simp only[argBest,T,nF];exact G,rfl⟩) (Dj _ p rfl) fun D u C x B=>?_⟩
    ·exact(Hv _ _ (fun h:S=b=>H (by rw[h];exact K))).trans e
    ·exact q D u C x fun b o a g e=>B b o a g ((Hv _ _ (iR g)).trans (l b o a e))
   |false=>
    simp only[wO,lB];refine aR (M6 ?_);rw[L];refine bN ⟨tX Ci _,O (j+2) _ _ c (by omega) (by lia) N (.inr ⟨f,by lia,by show P (argBest i (j+1)) f;simp only[argBest,T,wO,lB];exact y,rfl⟩) p fun D u C x B=>?_⟩;exact q D u C x fun b o a g e=>B b o a g (l b o a e)
end
theorem Vj(a v:Value):argsOk "max" ⟨[a],[(Str.ofString "default",v)]⟩:=by unfold argsOk;kernel_rfl
theorem Kd{prog:Program}{w:World}{A:Around}{E:Value->Shared->Prop}{s:Shared}{l:Addr}{xs:Array (Int×Tok)}{d:Value}{Q:Value->Shared->Prop}(n:A.handled=none)(q:s.heap.IsList l (intItems xs))
  (h:∀ v h' tk,(xs.size=0/\v=d)\/(0<xs.size/\(intItems xs)[argBest (fun i j=>decide (numAt xs i>numAt xs j)) (xs.size-1)]?=some v)->(∀ b o,s.heap.get? b=some o->h'.get? b=some o)->Q v { s with heap:=h',toks:=tk }) :
  wpAny (model prog w) A (call (.builtin "max") [.ref l] [(Str.ofString "default",d)]) Q E s:=by
 have u:(toString "max" ++ toString ".loop" : String) = "max.loop":=by decide
 refine kmk_tree F.kind_max F.plain_max F.entry_max (Vj _ _) ?_;show wpAny _ A.in1 (Builtin.Builtins.bindParams "max" ["key","default"] 0 ⟨[],[(Str.ofString "default",d)]⟩ >>= _) _ _ s;refine aR (wpAny_of_eq (show Builtin.Builtins.bindParams "max" ["key","default"] 0 ⟨[],[(Str.ofString "default",d)]⟩=pure [none,some d] from rfl) ?_);refine aR (bN ?_);refine aR (iter_intList q fun f e st m r=>?_);refine aR (vf ?_);have g:f.heap.objs.size∉[s.heap.objs.size,l]:=fun t=>oX _ (m _ t)
 rw[u];have a:=Walks.list (prog:=prog) (w:=w) (A:=A.in1) n s.heap.objs.size l r (intItems xs);have x:(intItems xs).size=xs.size:=by simp[intItems]
 refine bN ⟨tX Ci _,Wh a _ (CmpOf.ints_gt (numAt xs) fun _ _=>intItems_at) f.heap.objs.size g _ d _ 0 _ #[] _ rfl (jh _) (a.frame _ _ _ st fun b _ o e=>fj _ e) (.inl ⟨rfl,rfl⟩) (gn _ rfl) fun v h' tk c p=>?_⟩;subst e;refine h v h' tk (by rw[x] at c;exact c) (old_kept fun b o k e=>p b o k (dZ (bO e)) (fj _ e))
theorem argBest_gt(f:Nat->Int):∀ k,argBest (fun i j=>decide (f i>f j)) k<=k/\∀ j,j<=k->f j<=f (argBest (fun i j=>decide (f i>f j)) k)
 |0=>⟨bK _,fun j b=>by rw[Nat.le_zero.mp b];exact yt _⟩
 |k+1=>by
  obtain⟨h1,h2⟩:=argBest_gt f k;unfold argBest;by_cases h:f (k+1)>f (argBest (fun i j=>decide (f i>f j)) k)
  ·rw[aK (bQ h)];refine⟨bK _,fun j b=>?_⟩;rcases Nat.lt_or_ge j (k+1) with a|a
   ·have:=h2 j (by lia);lia
   ·rw[Nat.le_antisymm b a];exact yt _
  ·rw[aJ fun a=>h (cT a)];refine⟨by lia,fun j b=>?_⟩;rcases Nat.lt_or_ge j (k+1) with a|a
   ·exact h2 j (by lia)
   ·rw[Nat.le_antisymm b a];omega
section
variable{X:Cx}{e:Expr}{p pos kp:Pos}{te:TE}{n:Int}{c:Expr}
def a86(K:ao)(te tc:TE):TE:=fun zzs H Q=>zB te jL zzs H fun xs H1=>zB tc jL zzs H1 fun ys H2=>∃(p:Addr)(ns:List Int)(d:Int),xs=[.ref p]/\ys=[.int d]/\SqL K H2 p (ns.map V.int)/\∀ m,(ns=[]/\m=d)\/(m∈ns/\∀ a∈ns,a<=m)->Q (.int m) H2
theorem a6x{K:ao}{w:TE}(z:X.calm=true) (C:Gl X "max") (E:X.mg "max" = none) (b:bootBuiltins "max" = some (.builtin "max")) (B:RE X e te) (A:RE X c w) (g:notStar e=true:=by rfl) (y:X.K=K:=by rfl) :
  RE X (.Call (.Name "max" p) [e] [⟨some "default",c,kp⟩] pos) (a86 K te w):=by
 subst y;refine⟨fun pins s zzs H Q I h=>?_⟩;refine BW (xG I C E b ?_ (by decide) (by decide));have n:starEach [e] X.env=(false,eval e X.env)::starEach [] X.env:=mF g;refine callWith_kw (thn ((a3q B.ok Zf g) pos pins s zzs H _ I h) fun W s1 ⟨Y,H1,x,N,L⟩=>thn ((a2W A.ok a6i) pos pins s1 zzs H1 _ x L) fun Z s2 S=>?_) (by rw[n];rfl) (by rw[n];rfl);obtain⟨zs,H2,f,P,M⟩:=S;obtain⟨a,G,d,rfl,rfl,F,q⟩:=M;obtain⟨u,rfl,O⟩:=vals1 N;cases O;obtain⟨v,rfl,rv⟩:=vals1 P;obtain⟨t,rfl⟩:=rv;obtain⟨U,rv,J,T⟩:=f.list F;have o:=intsAre_of rv;obtain⟨ys,e⟩:=o.allInts.items;have i:G=ys.toList.map (·.1):=by rw[<- o.numsOf,<- nums_intItems,<- e]
 have r:=J.isList;rw[e] at r;refine Kd (f.ok.hd z) r fun v h' tk b m=>?_
 rcases b with⟨k,rfl⟩|⟨k,b⟩
 ·exact⟨.int d,H2,f.kept (t':=tk) m,⟨t,rfl⟩,q d (.inl ⟨by rw[i,a0P k];rfl,rfl⟩)⟩
 ·obtain⟨R,rfl⟩:=intItems_at b;obtain⟨g,h2⟩:=argBest_gt (numAt ys) (ys.size-1);refine⟨.int _,H2,f.kept (t':=tk) m,⟨R,rfl⟩,q _ (.inr ⟨?_,fun a l=>?_⟩)⟩
  ·rw[i,numAt_eq];exact getD_mem (by rw[aL,fu];lia)
  ·rw[i] at l;obtain⟨j,D,rfl⟩:=mem_getD l;rw[aL,fu] at D;rw[<- numAt_eq];exact h2 j (by lia)
end
section
variable{X:Cx}{K:ao}
def a3u(K:ao):R2:=fun x y H Q=>∃(p:Addr)(cs:List Cell),x=.non/\y=.ref p/\Den K H y (.lst (cs.map aC))/\Q (.bl true) H
theorem Yv(C:X.A.units+61<cLine)(k:X.K=K:=by rfl):OpR X (compareOp .NotIn) (a3u K):=by
 subst k;intro pins s zzs H x y v u Q I z b h;obtain⟨p,cs,rfl,rfl,t,q⟩:=h;cases b;cases z;cases t with
 |lst h' f=>
  obtain⟨g,r,n,_⟩:=I.list h';refine notIn_listAt (fun _=>false) n.isList (fun B w=>?_) ⟨.bl true,H,I,by simp;rw[show(g.any fun _=>false)=false from List.any_eq_false.mpr fun _ _=>by simp];rfl,q⟩;obtain⟨j,e⟩:=tU (show B∈g by simpa using w);have m:j<(cs.map aC).length:=by rw[<- f.length,r.length];exact(gO.mp e).1
  obtain⟨y,i,c⟩:=f.get' (fY m);obtain⟨D,d,b⟩:=r.get i;rw[e] at d;cases d;rw[Ce] at c;obtain⟨a,rfl,l,_⟩:=fJ c;cases b;obtain⟨E,_,o,_⟩:=I.tuple l;exact EqAt.tuple_none o (by show X.A.units+1<cLine;lia)
def a8U(K:ao):R2:=fun x y H Q=>∃ c:Cell,Den K H x (aC c)/\y=.non/\Q (.bl true) H
theorem a7r(i:X.A.units+61<cLine)(b:X.K=K:=by rfl):OpR X (compareOp .NotEq) (a8U K):=by
 subst b;intro pins s zzs H x y v u Q I f g h;obtain⟨c,dx,rfl,q⟩:=h;cases g;obtain⟨a,rfl,d,_⟩:=fJ dx;cases f;obtain⟨j,_,e,_⟩:=I.tuple d;exact RcNeAt.tuple_none e (by lia) _ _ _ _ ⟨.bl true,H,I,rfl,q⟩
theorem a3A{i:Nat}{x:Str}{e:Expr}{b:TE}{pos a:Pos}(c:X.N.Nodup)(g:X.N[i]?=some x)(j:Loc X.env.scope x)(d:RE X e b)(h:swapsWith e (some (.Name x a)) pos.line X.env=pure false:=by rfl)(f:X.fn x=true\/X.env.scope.names.lookup x=some .local:=by first|exact .inl rfl|exact .inr rfl|assumption) :
  RS X (.Assign [.Name x a] e pos) (a0r b (Fv i)):=⟨Zu c g j d.ok h f⟩
end
def a70(i j:Int):Prop:=0<j/\j<2^64
section
variable{X:Cx}
theorem Od:OpR X (binaryOp .FloorDiv) (rI a70 fun i j=>.int (i / j)):=opI fun i j _ _ _ _ _ a q=>by
 have h1:(0:Int)<j:=a.1;have h2:j<2^64:=a.2;refine floordiv_int (by lia) (by rw[a0U i (by lia)];exact q) (.inl (PyProof.noPylong_of_log2 ?_));have b:j.natAbs<2^64:=by omega
 have c:j.natAbs≠0:=by lia
 have:=(Nat.log2_lt c).mpr b;lia
end
end L2
namespace L2
open PySem PySem.Spec PyProof.Rows PySem.SeqAt
open PySem.AutoSeq1 (wpAny_loadPart')
end L2
namespace L2
open PySem PySem.Spec PyProof.Rows
end L2
namespace My
abbrev zzR(a:PySem.Addr):Option L2.V:=some (.ref a)
abbrev zzI(n:Int):Option L2.V:=some (.int n)
abbrev zzN:Option L2.V:=none
open PySem L2
def top(i:Nat):Stmt:=PySem.Challenge.pw_dampfield_k07_chances.main.body.getD i (.Pass ⟨0,0,0,0⟩)
abbrev Gi:Stmt:=top 11
theorem Xb:aZ ["row","width"] ["row","width"] (aH Gi):=⟨rfl,rfl,rfl,by decide +kernel,rfl,by decide +kernel,by decide +kernel⟩
abbrev Bf:Stmt:=top 12
theorem R7:aZ ["height","width"] ["height","width"] (aH Bf):=⟨rfl,rfl,rfl,by decide +kernel,rfl,by decide +kernel,by decide +kernel⟩
abbrev Bg:Stmt:=top 13
theorem R8:aZ ["rows"] ["rows"] (aH Bg):=⟨rfl,rfl,rfl,by decide +kernel,rfl,by decide +kernel,by decide +kernel⟩
abbrev mY:Stmt:=inClass (top 14) 0
theorem Bm:aZ ["self","rows"] ["self","rows"] (aH mY):=⟨rfl,rfl,rfl,by decide +kernel,rfl,by decide +kernel,by decide +kernel⟩
abbrev xU:Stmt:=top 15
theorem Ot:aZ ["view","cell"] ["view","cell"] (aH xU):=⟨rfl,rfl,rfl,by decide +kernel,rfl,by decide +kernel,by decide +kernel⟩
abbrev uP:Stmt:=top 16
theorem Ks:aZ ["view","cell"] ["view","cell"] (aH uP):=⟨rfl,rfl,rfl,by decide +kernel,rfl,by decide +kernel,by decide +kernel⟩
abbrev Gh:Stmt:=top 17
theorem Xa:aZ ["view","cell"] ["view","cell"] (aH Gh):=⟨rfl,rfl,rfl,by decide +kernel,rfl,by decide +kernel,by decide +kernel⟩
abbrev Kq:Stmt:=top 18
theorem zu:aZ ["view","found","row","column"] ["view"] (aH Kq):=⟨rfl,rfl,rfl,by decide +kernel,rfl,by decide +kernel,by decide +kernel⟩
abbrev R5:Stmt:=top 19
theorem Ef:aZ ["view","cell","found","row","column"] ["view","cell"] (aH R5):=⟨rfl,rfl,rfl,by decide +kernel,rfl,by decide +kernel,by decide +kernel⟩
abbrev pX:Stmt:=top 20
theorem Gm:aZ ["view","cell"] ["view","cell"] (aH pX):=⟨rfl,rfl,rfl,by decide +kernel,rfl,by decide +kernel,by decide +kernel⟩
abbrev uR:Stmt:=top 21
theorem Ku:aZ ["view","cell"] ["view","cell"] (aH uR):=⟨rfl,rfl,rfl,by decide +kernel,rfl,by decide +kernel,by decide +kernel⟩
abbrev Gg:Stmt:=top 22
theorem X8:aZ ["view"] ["view"] (aH Gg):=⟨rfl,rfl,rfl,by decide +kernel,rfl,by decide +kernel,by decide +kernel⟩
abbrev R4:Stmt:=top 23
theorem a3D:aZ ["view"] ["view"] (aH R4):=⟨rfl,rfl,rfl,by decide +kernel,rfl,by decide +kernel,by decide +kernel⟩
abbrev a02:Stmt:=top 24
theorem a6H:aZ ["view"] ["view"] (aH a02):=⟨rfl,rfl,rfl,by decide +kernel,rfl,by decide +kernel,by decide +kernel⟩
abbrev Gj:Stmt:=top 27
theorem o9:aZ ["view","cell","found","waiting","member","teller","other"] ["view","cell"] (aH Gj):=⟨rfl,rfl,rfl,by decide +kernel,rfl,by decide +kernel,by decide +kernel⟩
abbrev Kr:Stmt:=top 28
theorem qL:aZ ["view","found","placed","cell","part","member"] ["view"] (aH Kr):=⟨rfl,rfl,rfl,by decide +kernel,rfl,by decide +kernel,by decide +kernel⟩
abbrev Bc:Stmt:=top 29
theorem oO:aZ ["view","last","found","teller","around","behind"] ["view","last"] (aH Bc):=⟨rfl,rfl,rfl,by decide +kernel,rfl,by decide +kernel,by decide +kernel⟩
abbrev xV:Stmt:=top 30
theorem uT:aZ ["laying","asked","demand","stones"] ["laying","asked"] (aH xV):=⟨rfl,rfl,rfl,by decide +kernel,rfl,by decide +kernel,by decide +kernel⟩
abbrev Bh:Stmt:=top 31
theorem jK:aZ ["view","cell","part","begun","member","asked","both"] ["view","cell"] (aH Bh):=⟨rfl,rfl,rfl,by decide +kernel,rfl,by decide +kernel,by decide +kernel⟩
abbrev Bd:Stmt:=top 32
theorem R6:aZ ["view","cell"] ["view","cell"] (aH Bd):=⟨rfl,rfl,rfl,by decide +kernel,rfl,by decide +kernel,by decide +kernel⟩
abbrev oN:Stmt:=top 33
theorem tR:aZ ["view","cell"] ["view"] (aH oN):=⟨rfl,rfl,rfl,by decide +kernel,rfl,by decide +kernel,by decide +kernel⟩
abbrev Bb:Stmt:=top 34
theorem sX:aZ ["view","found","part","cell"] ["view"] (aH Bb):=⟨rfl,rfl,rfl,by decide +kernel,rfl,by decide +kernel,by decide +kernel⟩
abbrev Bl:Stmt:=top 35
theorem xW:aZ ["found","cell","stone","left","choice"] ["found","cell","stone"] (aH Bl):=⟨rfl,rfl,rfl,by decide +kernel,rfl,by decide +kernel,by decide +kernel⟩
abbrev uO:Stmt:=top 37
theorem sW:aZ ["choice","numbers","laying"] ["choice"] (aH uO):=⟨rfl,rfl,rfl,by decide +kernel,rfl,by decide +kernel,by decide +kernel⟩
abbrev Bj:Stmt:=top 38
theorem sY:aZ ["one","other","found","place","further"] ["one","other"] (aH Bj):=⟨rfl,rfl,rfl,by decide +kernel,rfl,by decide +kernel,by decide +kernel⟩
abbrev uQ:Stmt:=top 39
theorem nZ:aZ ["found","stones","numbers","choice"] ["found","stones"] (aH uQ):=⟨rfl,rfl,rfl,by decide +kernel,rfl,by decide +kernel,by decide +kernel⟩
abbrev lX:Stmt:=top 40
theorem j9:aZ ["one","other","rest"] ["one","other"] (aH lX):=⟨rfl,rfl,rfl,by decide +kernel,rfl,by decide +kernel,by decide +kernel⟩
abbrev Gf:Stmt:=top 41
theorem qK:aZ ["view","stones","cell","found","under","top","shared"] ["view","stones","cell"] (aH Gf):=⟨rfl,rfl,rfl,by decide +kernel,rfl,by decide +kernel,by decide +kernel⟩
abbrev oH:Stmt:=top 43
theorem DK:aZ ["script","k"] ["script","k"] (aH oH):=⟨rfl,rfl,rfl,by decide +kernel,rfl,by decide +kernel,by decide +kernel⟩
abbrev xT:Stmt:=top 44
theorem pG:aZ ["cell","k","many","some","stir"] ["cell","k","many"] (aH xT):=⟨rfl,rfl,rfl,by decide +kernel,rfl,by decide +kernel,by decide +kernel⟩
abbrev sV:Stmt:=top 45
theorem I9:aZ ["found"] ["found"] (aH sV):=⟨rfl,rfl,rfl,by decide +kernel,rfl,by decide +kernel,by decide +kernel⟩
abbrev uN:Stmt:=top 46
theorem kW:aZ ["height","width","cell","found","dr","dc","one"] ["height","width","cell"] (aH uN):=⟨rfl,rfl,rfl,by decide +kernel,rfl,by decide +kernel,by decide +kernel⟩
abbrev sU:Stmt:=top 47
theorem I8:aZ ["rows"] ["rows"] (aH sU):=⟨rfl,rfl,rfl,by decide +kernel,rfl,by decide +kernel,by decide +kernel⟩
abbrev rZ:Stmt:=top 48
theorem mj:aZ ["rows","signs","found","r"] ["rows","signs"] (aH rZ):=⟨rfl,rfl,rfl,by decide +kernel,rfl,by decide +kernel,by decide +kernel⟩
abbrev mZ:Stmt:=top 49
theorem eZ:aZ ["script","most","cell","height","width","thin","stones","r","c"] ["script","most"] (aH mZ):=⟨rfl,rfl,rfl,by decide +kernel,rfl,by decide +kernel,by decide +kernel⟩
abbrev pU:Stmt:=top 50
theorem Gk:aZ ["height","width","stones","cell"] ["height","width","stones","cell"] (aH pU):=⟨rfl,rfl,rfl,by decide +kernel,rfl,by decide +kernel,by decide +kernel⟩
abbrev sS:Stmt:=top 51
theorem j6:aZ ["height","width","stones","known","rows","r","row","c"] ["height","width","stones","known"] (aH sS):=⟨rfl,rfl,rfl,by decide +kernel,rfl,by decide +kernel,by decide +kernel⟩
abbrev pW:Stmt:=top 52
theorem jf:aZ ["height","width","stones","known","cell","found","at"] ["height","width","stones","known","cell"] (aH pW):=⟨rfl,rfl,rfl,by decide +kernel,rfl,by decide +kernel,by decide +kernel⟩
abbrev oM:Stmt:=top 53
theorem cu:aZ ["script","most","steps","height","width","stones","known","free","r","k","left","cell"] ["script","most","steps"] (aH oM):=⟨rfl,rfl,rfl,by decide +kernel,rfl,by decide +kernel,by decide +kernel⟩
abbrev nA:Stmt:=top 54
theorem iz:aZ ["script","rows","cell","r","c","sign","line"] ["script","rows"] (aH nA):=⟨rfl,rfl,rfl,by decide +kernel,rfl,by decide +kernel,by decide +kernel⟩
abbrev uL:Stmt:=top 55
theorem jr:aZ ["rows","height","width","hidden","found","cell"] ["rows"] (aH uL):=⟨rfl,rfl,rfl,by decide +kernel,rfl,by decide +kernel,by decide +kernel⟩
abbrev sJ:Stmt:=top 56
theorem cX:aZ ["rows","height","width","verge","name","k","cell","one","some","found"] ["rows"] (aH sJ):=⟨rfl,rfl,rfl,by decide +kernel,rfl,by decide +kernel,by decide +kernel⟩
abbrev oJ:Stmt:=top 57
theorem bF:aZ ["rows","part","height","width","told","one","some","found","k","cell","longer","row","good","figure_v","many","rest"] ["rows","part"] (aH oJ):=⟨rfl,rfl,rfl,by decide +kernel,rfl,by decide +kernel,by decide +kernel⟩
abbrev uM:Stmt:=top 58
theorem nY:aZ ["rows","height","width","one"] ["rows"] (aH uM):=⟨rfl,rfl,rfl,by decide +kernel,rfl,by decide +kernel,by decide +kernel⟩
abbrev nu:Stmt:=top 59
theorem jt:aZ ["one","other","found","j","k"] ["one","other"] (aH nu):=⟨rfl,rfl,rfl,by decide +kernel,rfl,by decide +kernel,by decide +kernel⟩
abbrev pR:Stmt:=top 60
theorem dY:aZ ["rows","wanted","found","part","some","sizes","verge","cell"] ["rows","wanted"] (aH pR):=⟨rfl,rfl,rfl,by decide +kernel,rfl,by decide +kernel,by decide +kernel⟩
abbrev sG:Stmt:=top 61
theorem wK:aZ ["rows","wanted","stones","found"] ["rows","wanted","stones"] (aH sG):=⟨rfl,rfl,rfl,by decide +kernel,rfl,by decide +kernel,by decide +kernel⟩
abbrev sI:Stmt:=top 62
theorem HY:aZ ["rows"] ["rows"] (aH sI):=⟨rfl,rfl,rfl,by decide +kernel,rfl,by decide +kernel,by decide +kernel⟩
abbrev oK:Stmt:=top 63
theorem cY:aZ ["script","way","rows","stones","cell","signs"] ["script"] (aH oK):=⟨rfl,rfl,rfl,by decide +kernel,rfl,by decide +kernel,by decide +kernel⟩
abbrev xR:Stmt:=top 64
theorem pF:aZ ["view","stones","cell","e"] ["view","stones","cell"] (aH xR):=⟨rfl,rfl,rfl,by decide +kernel,rfl,by decide +kernel,by decide +kernel⟩
abbrev sO:Stmt:=top 65
theorem pY:aZ ["found","top","under","one","two"] ["found","top","under"] (aH sO):=⟨rfl,rfl,rfl,by decide +kernel,rfl,by decide +kernel,by decide +kernel⟩
abbrev a03:Stmt:=top 66
theorem kY:aZ ["script","rows","many","view","height","width","cell","hidden","some","asked","place","stones","found"] ["script"] (aH a03):=⟨rfl,rfl,rfl,by decide +kernel,rfl,by decide +kernel,by decide +kernel⟩
structure Adr where
 FieldError:Addr
 BadView:Addr
 NoCell:Addr
 TooGreat:Addr
 Impossible:Addr
 View:Addr
structure Txt(K:ao)(mg:Str->Option Value)(Z:Adr):Prop where
 Xr:mg "all" = none
 Xu:mg "bool" = none
 uq:mg "enumerate" = none
 Eo:mg "int" = none
 iH:mg "isinstance" = none
 cO:mg "len" = none
 Q0:mg "list" = none
 Tg:mg "max" = none
 Mv:mg "min" = none
 fG:mg "range" = none
 a3X:mg "set" = none
 ur:mg "sorted" = none
 a3Y:mg "str" = none
 Ti:mg "tuple" = none
 jO:∃ t,mg "MOST_ROWS" = some (.int 6 t)
 iw:∃ t,mg "MOST_COLUMNS" = some (.int 6 t)
 j5:∃ t,mg "CLOSED_SIGN" = some (.str "#" t)
 vP:∃ t,mg "SIGNS" = some (.str "#012345678" t)
 jo:∃ t,mg "MOST_CELLS" = some (.int 12 t)
 nU:mg "FieldError" = some (.ref Z.FieldError)
 tD:jU K Z.FieldError
 Ii:mg "BadView" = some (.ref Z.BadView)
 wu:jU K Z.BadView
 uw:mg "NoCell" = some (.ref Z.NoCell)
 oW:jU K Z.NoCell
 wY:mg "TooGreat" = some (.ref Z.TooGreat)
 m8:jU K Z.TooGreat
 rE:mg "Impossible" = some (.ref Z.Impossible)
 iQ:jU K Z.Impossible
 a4M:mg "View" = some (.ref Z.View)
 iI:Cls K Z.View
 je:qZ K Z.View "rows"
 gQ:qZ K Z.View "height"
 iM:qZ K Z.View "width"
 a3j:PySem.W.kitOne K (.type "int") (.type "int")=some true
 a3h:PySem.W.kitOne K (.type "int") (.type "bool")=some false
 a6s:PySem.W.kitOne K (.ref Z.BadView) (.ref Z.FieldError)=some true
 a6t:PySem.W.kitOne K (.ref Z.BadView) (.type "ValueError")=some true
 a6u:PySem.W.kitOne K (.type "list") (.type "list")=some true
 a3m:PySem.W.kitOne K (.ref Z.NoCell) (.ref Z.FieldError)=some true
 a3n:PySem.W.kitOne K (.ref Z.TooGreat) (.ref Z.FieldError)=some true
 a3i:PySem.W.kitOne K (.ref Z.Impossible) (.ref Z.FieldError)=some true
 a3o:PySem.W.kitOne K (.ref Z.TooGreat) (.ref Z.NoCell)=some false
 a3k:PySem.W.kitOne K (.ref Z.Impossible) (.ref Z.NoCell)=some false
 a3l:PySem.W.kitOne K (.ref Z.Impossible) (.ref Z.TooGreat)=some false
 a3p:PySem.W.kitOne K (.type "tuple") (.type "tuple")=some true
def Bs(K:ao):Sp:=fun vs H Q _=>∃(a:Addr)(ns:List Int)(k:Int),vs=[.ref a,.int k]/\0<=k/\SqL K H a (ns.map V.int)/\∀ r:Int,Q (.int r) H
def Jo:Sp:=fun vs H Q _=>∃(c k m:Int),vs=[.int c,.int k,.int m]/\0<m/\∀(r:Int)(H':Hp),0<=r->r<m->Same H H'->Q (.int r) H'
def V7:Sp:=fun vs H Q _=>∃ i:Int,vs=[.int i]/\Q (.bl true) H
def xY(K:ao):Sp:=fun vs H Q _=>∃(h w:Int)(v:V)(x:Cell),vs=[.int h,.int w,v]/\Den K H v (aC x)/\∀ p H',Fr K H H' p ((bU h w x).map aC)->Q (.ref p) H'
def wj(K:ao):Sp:=fun vs H Q _=>∃(p:Addr)(zs:List Str)(w:Nat),vs=[.ref p]/\SqL K H p (zs.map V.str)/\Rect zs w/\∀ t H',Same H H'->SqT K H' t [.int zs.length,.int w]->Q (.ref t) H'
def sZ(K:ao):Sp:=fun vs H Q _=>∃(p:Addr)(zs:List Str)(w:Nat)(sg:Str),vs=[.ref p,.str sg]/\SqL K H p (zs.map V.str)/\Rect zs w/\∀ q H',Fr K H H' q ((bB zs w sg).map aC)->Q (.ref q) H'
section
variable{P:Program}{w:World}{K:ao}{mg:Str->Option Value}{base:Heap}{Z:Adr}
theorem a2x{f:Addr}{b:FuncData} (F:Fun K "_law_cell_at" "_law_cell_at" oH f b) (T:Txt K mg Z):cR P w K mg base (CXE P w) 1 f b ["script","k"] (Bs K):=by
 refine F.rok DK (fun m H Q E h=>?_) (fun cdv A outer s H m Q E n h=>?_)
 ·obtain⟨a,g,k,rfl,_⟩:=h;rfl
 ·obtain⟨a,g,k,rfl,i,c,d⟩:=h;refine⟨_,(au (dR (bI yU (rv 1) (aN (cQ (K:=K)) rfl T.cO bM (aj (rv 0) ak)) (cA _)) (aB (bA (cB (cL (K:=K)) (rv 0) (rv 1)))) bV) (aB (bA aF))),?_⟩;refine⟨_,rfl,_,rfl,.inl ⟨a,_,rfl,.inl c,_,_,rfl,rfl,_,rfl,?_⟩⟩;refine HW (fun j=>?_) (fun _=>?_)
  ·have l:k<g.length:=by have:=cT j;simp only[aL] at this;exact this
   obtain⟨v,e⟩:=Tf i l;exact⟨_,rfl,_,rfl,.inl ⟨a,_,_,_,rfl,rfl,c,e,d _⟩⟩
  ·exact d 0
theorem a5M{f:Addr}{a:FuncData} (F:Fun K "_law_mix" "_law_mix" xT f a) (T:Txt K mg Z):cR P w K mg base (CXE P w) 1 f a ["cell","k","many"] Jo:=by
 refine F.rok pG (fun j H Q E h=>?_) (fun cdv A outer s H j Q E o h=>?_)
 ·obtain⟨c,k,m,rfl,_⟩:=h;rfl
 ·obtain⟨c,k,m,rfl,b,g⟩:=h;refine⟨_,(au (aO (i:=3) pG.nd rfl (Or.inl rfl) (bZ (aj aF (aj aF (aj aF (aj aF (aj aF (aj aF (aj aF (aj aF (aj aF (aj aF (aj aF (aj aF (aj aF ak))))))))))))))) (au (aO (i:=4) pG.nd rfl (Or.inl rfl) (bY bC (bY bC (bY jG (bY bC (bY jH (rv 0) aF) aF) (cB (cL (K:=K)) (rv 3) (bY jH (rv 1) aF))) (bY jG aF (rv 1))) (bY jG aF (bY yR (rv 1) aF)))) (au (aO (i:=4) pG.nd rfl (Or.inl rfl) (bY jH (rv 4) aF)) (aB (bA (bY jH (bY yR (bY jH (bY bC (bY jG (rv 4) (rv 4)) (bY jG aF (rv 1))) aF) aF) (rv 2))))))),?_⟩;refine⟨by decide,fun p d=>?_⟩;have l:0<=c%2147483647:=Cp _ (by decide);have n:c%2147483647<2147483647:=BX _ (by decide);obtain⟨v,e⟩:=Tf (ns:=[48271,69621,16807,39373,30269,40014,40692,50021,61687,71993,83869,95561,30307]) (i:=k%13) (Cp _ (by decide)) (BX _ (by decide));refine⟨_,rfl,_,_,rfl,rfl,(by show(0:Int)<2147483647;decide),_,rfl,_,rfl,_,_,rfl,rfl,(by show(0:Int)<13;decide),.inl ⟨p,_,_,_,rfl,rfl,.of aA,e,.inl ⟨by lia,by lia⟩,?_⟩⟩;refine⟨_,rfl,.inl ⟨by lia,by lia⟩,?_⟩;refine⟨_,rfl,_,_,rfl,rfl,⟨by decide,by decide⟩,.inl ⟨by lia,by lia⟩,?_⟩;refine⟨_,rfl,_,_,rfl,rfl,(by show(0:Int)<1000000007;decide),?_⟩;refine⟨_,rfl,_,rfl,.inl ⟨by omega,by omega⟩,?_⟩;refine⟨_,rfl,.inl ⟨by lia,by lia⟩,?_⟩;refine⟨_,_,rfl,rfl,(by show(0:Int)<1000000007;decide),?_⟩;refine⟨_,_,rfl,rfl,⟨by decide,by decide⟩,?_⟩;refine⟨_,rfl,_,_,rfl,rfl,b,?_⟩;exact g _ _ (Cp _ (by lia)) (BX _ b) (Same.put d)
theorem Zc{f:Addr}{a:FuncData} (F:Fun K "_law_whole" "_law_whole" sV f a) (T:Txt K mg Z):cR P w K mg base (CXE P w) 1 f a ["found"] V7:=by
 refine F.rok I9 (fun c H Q E h=>?_) (fun cdv A outer s H c Q E d h=>?_)
 ·obtain⟨i,rfl,_⟩:=h;rfl
 ·obtain⟨i,rfl,b⟩:=h;refine⟨_,(aB (bA (Jf (aN (Ao (K:=K)) rfl T.iH iZ (aj (rv 0) (aj (a6y T.Eo rfl Aa) ak))) (Jg (a4o (aN (Ao (K:=K)) rfl T.iH iZ (aj (rv 0) (aj (a6y T.Xu rfl a1O) ak)))))))),?_⟩;refine⟨_,rfl,.inl ⟨_,_,_,rfl,rfl,.inl ⟨_,_,.int i,T.a3j,_,rfl,Fx ?_⟩⟩⟩;exact⟨_,rfl,.inl ⟨_,_,_,rfl,rfl,.inl ⟨_,_,.int i,T.a3h,_,rfl,b⟩⟩⟩
theorem a2D{f:Addr}{an:FuncData} (F:Fun K "_law_near" "_law_near" uN f an) (T:Txt K mg Z):cR P w K mg base (CXE P w) 1 f an ["height","width","cell"] (xY K):=by
 refine F.rok kW (fun a1 H Q E h=>?_) (fun cdv A outer s H a1 Q E ba h=>?_)
 ·obtain⟨h,w,v,x,rfl,_⟩:=h;rfl
 ·obtain⟨h,w,v,x,rfl,aR,aX⟩:=h;refine⟨_,(au (aO (i:=3) kW.nd rfl (Or.inl rfl) (bZ ak)) (au (c7 dh rfl (aU (K:=K) (bZ (aj (fX (aj (X6 Bv aF) (aj (X6 Bv aF) ak))) (aj (fX (aj (X6 Bv aF) (aj aF ak))) (aj (fX (aj (X6 Bv aF) (aj aF ak))) (aj (fX (aj aF (aj (X6 Bv aF) ak))) (aj (fX (aj aF (aj aF ak))) (aj (fX (aj aF (aj (X6 Bv aF) ak))) (aj (fX (aj aF (aj aF ak))) (aj (fX (aj aF (aj aF ak))) ak)))))))))) (lW rfl (cC (aQ (i:=4) kW.nd rfl (Or.inl rfl)) (cC (aQ (i:=5) kW.nd rfl (Or.inl rfl)) jq))) (au (aO (i:=6) kW.nd rfl (Or.inl rfl) (fX (aj (bY bC (cB (cL (K:=K)) (rv 2) aF) (rv 4)) (aj (bY bC (cB (cL (K:=K)) (rv 2) aF) (rv 5)) ak)))) (aB (dR (R0 (QV (qJ pB yU aF (cB (cL (K:=K)) (rv 6) aF) (rv 0)) (Kh (qJ pB yU aF (cB (cL (K:=K)) (rv 6) aF) (rv 1))))) (aB (gM (lH (K:=K) lC mG mH dO (rv 3) (aj (rv 6) ak)))) bV)))) (aB (bA (rv 3))))),?_⟩;refine aD (fun zzs H1=>∃ p,H p=none/\Same H H1/\H1 p=some (.lst [])/\zzs=[zzI h,zzI w,some v,zzR p,zzN,zzN,zzN]) (fun R ad=>?_) ?_
  ·exact⟨by decide,fun p M=>ad _ _ ⟨p,M,Same.put M,aA,rfl⟩⟩
  rintro zzs H1 ⟨p,ap,s1,M,rfl⟩;refine aD (fun zzs ab=>∃ a c e,Fr K H ab p ((bU h w x).map aC)/\zzs=[zzI h,zzI w,some v,zzR p,a,c,e]) (fun R ad=>?_) ?_
  ·refine Ym ?_;refine jN (K:=K) (-1) (-1) (fun _ q=>⟨_,rfl,q⟩) (fun _ q=>⟨_,rfl,q⟩) fun k a2 ag aE=>?_
   refine jN (K:=K) (-1) 0 (fun _ q=>⟨_,rfl,q⟩) (fun _ q=>q) fun n a3 N aG=>?_
   refine jN (K:=K) (-1) 1 (fun _ q=>⟨_,rfl,q⟩) (fun _ q=>q) fun r a4 O aH=>?_
   refine jN (K:=K) 0 (-1) (fun _ q=>q) (fun _ q=>⟨_,rfl,q⟩) fun z a5 S aI=>?_
   refine jN (K:=K) 0 1 (fun _ q=>q) (fun _ q=>q) fun B a6 U aJ=>?_
   refine jN (K:=K) 1 (-1) (fun _ q=>q) (fun _ q=>⟨_,rfl,q⟩) fun C a7 W aK=>?_
   refine jN (K:=K) 1 0 (fun _ q=>q) (fun _ q=>q) fun D a8 X aM=>?_
   refine jN (K:=K) 1 1 (fun _ q=>q) (fun _ q=>q) fun G aa Y aN=>?_
   refine⟨sz rfl,fun q ao=>?_⟩;have ah:=Same.put (o:=.lst [k,n,r,z,B,C,D,G]) ao;have az:bf K (upd aa q (.lst [k,n,r,z,B,C,D,G])) [k,n,r,z,B,C,D,G] (offs.map aC):=by
    have ay:=ah;have ax:=Y.trans ay;have aw:=X.trans ax;have av:=W.trans aw;have as:=U.trans av;have ar:=S.trans as;have aq:=O.trans ar;have a0:=N.trans aq;exact .cons (aE.mono a0) (.cons (aG.mono aq) (.cons (aH.mono ar) (.cons (aI.mono as) (.cons (aJ.mono av) (.cons (aK.mono aw) (.cons (aM.mono ax) (.cons (aN.mono ay) .nil)))))))
   have tA:=s1.trans (ag.trans (N.trans (O.trans (S.trans (U.trans (W.trans (X.trans (Y.trans ah))))))));have ae:=(ag.trans (N.trans (O.trans (S.trans (U.trans (W.trans (X.trans (Y.trans ah)))))))) _ _ M;have aZ:q≠p:=(bL ((ag.trans (N.trans (O.trans (S.trans (U.trans (W.trans (X.trans Y))))))) _ _ M) ao).symm;refine⟨q,rfl,⟨_,SqL.of aA⟩,?_⟩;refine cN (K:=K) (xs:=[k,n,r,z,B,C,D,G]) (fun i zzs H'=>∃ l a c e,SameBut p (upd aa q (.lst [k,n,r,z,B,C,D,G])) H'/\H' p=some (.lst l)/\bf K H' l ((((offs.take i).map fun d=>(x.1+d.1,x.2+d.2)).filter fun y=>decide (inF h w y)).map aC) /\
    zzs=[zzI h,zzI w,some v,zzR p,a,c,e]) ⟨[],none,none,none,.refl _ _,ae,.nil,rfl⟩ (fun i zzs H' _ J=>?_) (fun i u zzs H' aY J=>?_) (fun zzs H' J=>?_)
   ·obtain⟨l,_,_,_,g,_⟩:=J;exact g.seq aA aZ
   ·obtain⟨l,a,c,e,g,j,I,rfl⟩:=J;obtain⟨d,am,aP⟩:=az.get aY;rw[cP] at am;obtain⟨o,aS,rfl⟩:=gj.mp am;have al:Den K H' v (aC x):=g.cell ae (aR.mono tA);refine a6A (g.cell ae aP) ?_;refine⟨_,rfl,rW al ⟨_,rfl,_,rfl,rY al ⟨_,rfl,sz rfl,fun t af=>?_⟩⟩⟩;have st:=Same.put (o:=.tup [V.int (x.1+o.1),V.int (x.2+o.2)]) af;have ac:Den K (upd H' t (.tup [V.int (x.1+o.1),V.int (x.2+o.2)])) (.ref t) (aC (x.1+o.1,x.2+o.2)):=iU;have tk:offs.take (i+1)=offs.take i++[o]:=by rw[iB,aS];rfl
    have a9:l.length<=8:=by
     rw[I.length,aL];refine cU (gW _ _) ?_;rw[aL,jd];exact Nat.min_le_right _ _
    have out:∀ b:Bool,b=decide (inF h w (x.1+o.1,x.2+o.2))->(((offs.take (i+1)).map fun d=>(x.1+d.1,x.2+d.2)).filter fun y=>decide (inF h w y))=(((offs.take i).map fun d=>(x.1+d.1,x.2+d.2)).filter fun y=>decide (inF h w y))++(if b=true then [(x.1+o.1,x.2+o.2)] else []):=by
     intro b aV;rw[tk,d9,qP,aV];congr 1;by_cases L:inF h w (x.1+o.1,x.2+o.2)<;>simp[L]
    refine⟨_,rfl,rW ac ⟨_,_,rfl,rfl,_,rfl,yC (m:=h) (fun _ q=>⟨_,rfl,q⟩) ?_⟩⟩;have ai:¬inF h w (x.1+o.1,x.2+o.2)->∃ l a c e,SameBut p (upd aa q (.lst [k,n,r,z,B,C,D,G])) (upd H' t (.tup [V.int (x.1+o.1),V.int (x.2+o.2)]))/\(upd H' t (.tup [V.int (x.1+o.1),V.int (x.2+o.2)])) p=some (.lst l)/\bf K (upd H' t (.tup [V.int (x.1+o.1),V.int (x.2+o.2)])) l ((((offs.take (i+1)).map fun d=>(x.1+d.1,x.2+d.2)).filter fun y=>decide (inF h w y)).map aC) /\
      [zzI h,zzI w,some v,zzR p,zzI o.1,zzI o.2,zzR t]=[zzI h,zzI w,some v,zzR p,a,c,e]:=fun aW=>by
     refine⟨l,_,_,_,g.and af,st _ _ j,?_,rfl⟩;rw[out false (cD aW).symm];simpa using I.mono st
    refine dW (fun h1=>?_) (fun h1=>ai fun L=>by rw[bQ L.1] at h1;cases h1);refine⟨_,rfl,rY ac ⟨_,_,rfl,rfl,_,rfl,yC (m:=w) (fun _ q=>⟨_,rfl,q⟩) ?_⟩⟩;refine dW (fun h2=>?_) (fun h2=>ai fun L=>by rw[bQ L.2] at h2;cases h2);refine⟨_,rfl,.inl ⟨rfl,_,SqL.of (st _ _ j)⟩,_,rfl,p,l,_,rfl,rfl,st _ _ j,ltl (by lia),?_⟩;refine⟨l++[.ref t],_,_,_,(g.and af).put,aA,?_,rfl⟩;rw[out true (bQ ⟨cT h1,cT h2⟩).symm,d9];exact((SameBut.refl p _).put.cells (st _ _ j) (I.mono st)).append (.cons ((SameBut.refl p _).put.cell (st _ _ j) ac) .nil)
   ·obtain⟨l,a,c,e,g,j,I,rfl⟩:=J;exact ad _ _ ⟨a,c,e,⟨g.of tA ap,ap,⟨l,j,I⟩⟩,rfl⟩
  rintro zzs ab ⟨a,c,e,aT,rfl⟩;exact⟨_,rfl,aX p ab aT⟩
theorem Zb{f:Addr}{a:FuncData} (F:Fun K "_law_sizes" "_law_sizes" sU f a) (T:Txt K mg Z):cR P w K mg base (CXE P w) 1 f a ["rows"] (wj K):=by
 refine F.rok I8 (fun i H Q E h=>?_) (fun cdv A outer s H i Q E k h=>?_)
 ·obtain⟨p,zs,w,rfl,_⟩:=h;rfl
 ·obtain⟨p,zs,w,rfl,b,c,d⟩:=h;obtain⟨j,l,rfl,g⟩:=c.head;refine⟨_,(aB (bA (fX (aj (aN (cQ (K:=K)) rfl T.cO bM (aj (rv 0) ak)) (aj (aN (cQ (K:=K)) rfl T.cO bM (aj (cB (cL (K:=K)) (rv 0) aF) ak)) ak))))),?_⟩;have:=c.w6;refine⟨_,rfl,.inl ⟨p,_,rfl,.inl b,_,rfl,.inl ⟨p,_,_,_,rfl,rfl,b,fV,.inr ⟨j,rfl,small (by lia),sz rfl,fun t e=>?_⟩⟩⟩⟩;refine d t _ (Same.put e) (SqT.of ?_);rw[aA,aL,g]
end
def a0g(K:ao):Sp:=fun vs H Q _=>∃(h w:Int)(p:Addr)(v:V)(st:List Cell)(x:Cell),vs=[.int h,.int w,.ref p,v]/\Den K H (.ref p) (.lst (st.map aC))/\Den K H v (aC x)/\∀ H',Same H H'->Q (.int (yI h w st x)) H'
def V1(K:ao):Sp:=fun vs H Q _=>∃(a:Addr)(ns:List Int)(m:Int),vs=[.ref a,.int m]/\SqL K H a (ns.map V.int)/\1<=m/\m<=6/\∀(t p:Addr)(H':Hp)(h w:Nat)(st:List Cell),Same H H'->H p=none->SqT K H' t [.int h,.int w,.ref p]->Ls K H' p (st.map aC) ->
 1<=h->(h:Int)<=m->1<=w->(w:Int)<=m->st.Sublist (cJ h w)->Q (.ref t) H'
section
variable{P:Program}{w:World}{K:ao}{mg:Str->Option Value}{base:Heap}{Z:Adr}
theorem Z2{f:Addr}{D:FuncData} (F:Fun K "_law_cells" "_law_cells" rZ f D) (T:Txt K mg Z):cR P w K mg base (CXE P w) 1 f D ["rows","signs"] (sZ K):=by
 refine F.rok mj (fun Y H Q E h=>?_) (fun cdv A outer s H Y Q E S h=>?_)
 ·obtain⟨p,zs,w,b,rfl,_⟩:=h;rfl
 ·obtain⟨p,zs,w,b,rfl,G,g,O⟩:=h;have W:=xq S;have ac:=g.le;have M:=g.w6;refine⟨_,(au (aO (i:=2) mj.nd rfl (Or.inl rfl) (bZ ak)) (au (c7 dh rfl (dB rfl T.fG (aj (aN (cQ (K:=K)) rfl T.cO bM (aj (rv 0) ak)) ak)) (aQ (i:=3) mj.nd rfl (Or.inr rfl)) (aB (aO (i:=2) mj.nd rfl (Or.inl rfl) (bY bC (rv 2) (fU (by rfl) rfl (dB rfl T.fG (aj (aN (cQ (K:=K)) rfl T.cO bM (aj (cB (cL (K:=K)) (rv 0) aF) ak)) ak)) (fun _ _ _=>(eO (bI (gG.or (tQ (K:=K) W)) (cB (cL (K:=K)) (cB (cL (K:=K)) (rv 1) (rv 4)) (rv 0)) (rv 2) (by rfl)))) (fun _ _ _=>(fX (aj (rv 4) (aj (rv 0) ak))))))))) (aB (bA (rv 2))))),?_⟩;refine aD (fun zzs H1=>∃ q,Fr K H H1 q []/\zzs=[zzR p,some (.str b),zzR q,zzN]) (fun R m=>?_) ?_
  ·exact⟨by decide,fun q y=>m _ _ ⟨q,⟨Same.put y,y,.new y .nil⟩,rfl⟩⟩
  rintro zzs H1 ⟨q,a,rfl⟩;refine aD (fun zzs j=>∃ q d,Fr K H j q ((bB zs w b).map aC)/\zzs=[zzR p,some (.str b),zzR q,d]) (fun R m=>?_) ?_
  ·refine⟨_,rfl,.inl ⟨p,_,rfl,.inl (a.same.seq G),_,rfl,?_⟩⟩;rw[aL];refine⟨by lia,by lia,?_⟩;refine eY (lo:=0) (n:=((zs.length:Nat):Int).toNat) (fun i zzs H'=>∃ q d,Fr K H H' q ((Ad zs w b i).map aC)/\zzs=[zzR p,some (.str b),zzR q,d]) ⟨q,none,a,rfl⟩ (fun i zzs H' hi x=>?_) (fun zzs H' x=>?_)
   ·obtain⟨q,d,a,rfl⟩:=x;have I:i<zs.length:=by lia
    have B:=a.same.seq G;obtain⟨aa,ah,N,X⟩:=g.head;refine⟨_,rfl,_,rfl,.inl ⟨p,_,_,_,rfl,rfl,B,(by rw[N];exact fV),.inr ⟨aa,rfl,small (by lia),_,rfl,by lia,by lia,?_⟩⟩⟩;rw[X,gD];refine dD (K:=K) (xs:=List.range w) (enc:=fun c:Nat=>Dt.int (c:Int)) (pC w) (bf.nats _) (by rw[jD];exact small (by lia)) (fun c=>inS b (codeAt zs (i,c))) (fun c:Nat=>aC ((i:Int),(c:Int))) (fun c u v H2 s2 e L l=>?_) (fun c u _ v H2 s2 e L l=>?_) (fun ys H2 s2 e ag J=>?_)
    ·cases e;rw[fP] at u;have C:=s2.seq B;refine⟨_,rfl,_,rfl,?_⟩;rw[nR];exact Gb C I ⟨_,rfl,z9 C g I u ⟨_,rfl,.inl ⟨_,_,rfl,rfl,_,rfl,l _ (Same.refl _)⟩⟩⟩
    ·cases e;refine⟨_,rfl,_,rfl,sz rfl,fun t U=>l _ _ (Same.put U) ?_⟩;rw[nR];exact iU
    ·have ad:=Q9 zs w b i;have ae:((List.range w).filter fun c=>inS b (codeAt zs (i,c))).length<=w:=cU (gW _ _) (by rw[jD];exact bK _);have af:i*w<=6*6:=lK (by lia) M;have z:=Same.put (o:=.lst ys) J;refine xQ (a.ls.mono (s2.trans z)) (Ls.new J e) (by rw[aL,aL];lia) fun r ab k=>?_
     refine⟨r,_,⟨a.same.trans (s2.trans (z.trans k.same)),(a.same.trans (s2.trans z)).free k.new,?_⟩,rfl⟩;rw[CJ,d9,lF];exact k.ls
   ·obtain⟨q,d,a,rfl⟩:=x;rw[gD] at a;exact m _ _ ⟨q,d,a,rfl⟩
  rintro zzs j ⟨q,d,a,rfl⟩;exact⟨_,rfl,O q j a⟩
theorem Wt{f:Addr}{g:FuncData} (F:Fun K "_law_figure" "_law_figure" pU f g) (T:Txt K mg Z) (m:Df P w K mg base 1 "_law_near" ["height","width","cell"] (xY K)):cR P w K mg base (CXE P w) 2 f g ["height","width","stones","cell"] (a0g K):=by
 refine F.rok Gk (fun C H Q E h=>?_) (fun cdv A outer s H C Q E i h=>?_)
 ·obtain⟨h,w,p,v,st,x,rfl,_⟩:=h;rfl
 ·obtain⟨h,w,p,v,st,x,rfl,n,o,r⟩:=h;have u:=xq i;refine⟨_,(aB (bA (aN (cQ (K:=K)) rfl T.cO bM (aj (fU (by rfl) rfl (aU (K:=K) (aV m i rfl aW (aj (rv 0) (aj (rv 1) (aj (rv 3) ak))))) (fun _ _ _=>(eO (bI (gG.or (tQ (K:=K) u)) (rv 0) (rv 3) (by rfl)))) (fun _ _ _=>(rv 0))) ak)))),?_⟩;refine⟨_,rfl,_,rfl,_,rfl,h,w,v,x,rfl,o,fun q H1 a=>?_⟩;obtain⟨xs,c,j⟩:=a.ls;refine⟨q,rfl,⟨_,SqL.of c⟩,dD (K:=K) (xs:=bU h w x) (enc:=aC) (bJ (SqL.of c)) j (small (by have:=gA h w x;lia)) (fun y=>decide (y∈st)) aC (fun y z v H2 s2 d l b=>?_) (fun y z _ v H2 s2 d l b=>⟨_,rfl,b _ _ (Same.refl _) d⟩) (fun ys H2 s2 k B t=>?_)⟩
  ·exact⟨_,rfl,_,rfl,.inr (z8 d (n.mono (a.same.trans s2)) ⟨_,rfl,b _ (Same.refl _)⟩)⟩
  ·refine .inl ⟨B,_,rfl,.inl (SqL.of aA),?_⟩;have e:ys.length=yI h w st x:=by rw[k.length,aL];rfl
   rw[e];exact r _ (a.same.trans (s2.and t))
end
section
variable{P:Program}{w:World}{K:ao}{mg:Str->Option Value}{base:Heap}{Z:Adr}
theorem Z4{f:Addr}{ab:FuncData} (F:Fun K "_law_field_by" "_law_field_by" mZ f ab) (T:Txt K mg Z) (X:Df P w K mg base 1 "_law_cell_at" ["script","k"] (Bs K)) (I:Df P w K mg base 1 "_law_mix" ["cell","k","many"] Jo) :
  cR P w K mg base (CXE P w) 2 f ab ["script","most"] (V1 K):=by
 refine F.rok eZ (fun as H Q E h=>?_) (fun cdv A outer s H as Q E B h=>?_)
 ·obtain⟨a,S,m,rfl,_⟩:=h;rfl
 ·obtain⟨a,S,m,rfl,ac,aM,aN,am⟩:=h;have C:=mU B;refine⟨_,(au (aO (i:=2) eZ.nd rfl (Or.inl rfl) (aV X B rfl aW (aj (rv 0) (aj aF ak)))) (au (Kp (i:=3) (j:=4) rfl eZ.nd rfl rfl (by decide) rfl rfl (aj (bY bC aF (aV I B rfl aW (aj (rv 2) (aj aF (aj (rv 1) ak))))) (aj (bY bC aF (aV I B rfl aW (aj (rv 2) (aj aF (aj (rv 1) ak))))) ak)) rfl) (au (aO (i:=5) eZ.nd rfl (Or.inl rfl) (cB (cL (K:=K)) (bZ (aj aF (aj aF (aj aF ak)))) (aV I B rfl aW (aj (rv 2) (aj aF (aj aF ak)))))) (au (aO (i:=6) eZ.nd rfl (Or.inl rfl) (bZ ak)) (au (c7 dh rfl (dB rfl T.fG (aj (rv 3) ak)) (aQ (i:=7) eZ.nd rfl (Or.inl rfl)) (aB (c7 dh rfl (dB rfl T.fG (aj (rv 4) ak)) (aQ (i:=8) eZ.nd rfl (Or.inl rfl)) (aB (dR (bI (kj.or (jY (K:=K) C)) (aV I B rfl aW (aj (aV X B rfl aW (aj (rv 0) (aj (bY bC aF (rv 7)) ak))) (aj (rv 8) (aj (rv 5) ak)))) aF (cA _)) (aB (gM (lH (K:=K) lC mG mH dO (rv 6) (aj (fX (aj (rv 7) (aj (rv 8) ak))) ak)))) bV))))) (aB (bA (fX (aj (rv 3) (aj (rv 4) (aj (rv 6) ak))))))))))),?_⟩;refine aD (fun zzs H1=>∃ c:Int,Same H H1/\zzs=[zzR a,zzI m,zzI c,zzN,zzN,zzN,zzN,zzN,zzN]) (fun R q=>?_) ?_
  ·exact⟨_,rfl,a,S,0,rfl,by decide,ac,fun r=>q _ _ ⟨r,Same.refl _,rfl⟩⟩
  rintro zzs H1 ⟨c,s1,rfl⟩;refine aD (fun zzs H2=>∃ h w:Nat,Same H H2/\(1<=h/\(h:Int)<=m)/\(1<=w/\(w:Int)<=m)/\zzs=[zzR a,zzI m,zzI c,zzI h,zzI w,zzN,zzN,zzN,zzN]) (fun R q=>?_) ?_
  ·refine⟨_,rfl,_,rfl,_,1,_,rfl,by lia,fun ap H1 ax aE U=>?_⟩;refine⟨_,rfl,_,rfl,_,2,_,rfl,by lia,fun ae H2 ay aG ar=>?_⟩;refine⟨_,_,rfl,q _ _ ⟨(1+ap).toNat,(1+ae).toNat,s1.trans (U.trans ar),by lia,by lia,?_⟩⟩;rw[BR (by lia),BR (by lia)];rfl
  rintro zzs H2 ⟨h,w,s2,Y,aa,rfl⟩;refine aD (fun zzs L=>∃ t:Int,0<t/\Same H L/\zzs=[zzR a,zzI m,zzI c,zzI h,zzI w,zzI t,zzN,zzN,zzN]) (fun R q=>?_) ?_
  ·refine⟨sz rfl,fun l O=>?_⟩;have U:=Same.put (o:=.lst [V.int 3,V.int 5,V.int 9]) O;refine⟨_,rfl,_,3,3,rfl,by decide,fun r L ah ai ag=>?_⟩;obtain⟨v,ao,e⟩:=uo (xs:=([3,5,9]:List Int).map V.int) (i:=r) ah (by simpa using ai);obtain⟨n,al,rfl⟩:=cW.mp ao;refine .inl ⟨l,_,_,_,rfl,rfl,SqL.of (ag _ _ aA),e,q _ _ ⟨n,?_,s2.trans (U.trans ag),rfl⟩⟩;exact(by decide:∀ x∈([3,5,9]:List Int),0<x) n al
  rintro zzs L ⟨t,an,af,rfl⟩;refine aD (fun zzs M=>∃ p,H p=none/\Same H M/\M p=some (.lst [])/\zzs=[zzR a,zzI m,zzI c,zzI h,zzI w,zzI t,zzR p,zzN,zzN]) (fun R q=>?_) ?_
  ·exact⟨by decide,fun p J=>q _ _ ⟨p,af.free J,af.and J,aA,rfl⟩⟩
  rintro zzs M ⟨p,ad,aq,J,rfl⟩;have aI:h<=6:=by lia
  have av:w<=6:=by lia
  refine aD (fun zzs N=>∃(st:List Cell)(G b:Option V),Same H N/\Ls K N p (st.map aC)/\st.Sublist (cJ h w)/\zzs=[zzR a,zzI m,zzI c,zzI h,zzI w,zzI t,zzR p,G,b]) (fun R q=>?_) ?_
  ·refine⟨_,rfl,_,rfl,by lia,by lia,?_⟩;rw[gD];refine eY (lo:=0) (n:=h) (fun i zzs H'=>∃(st:List Cell)(G b:Option V),Same H H'/\Ls K H' p (st.map aC)/\st.Sublist (cJ i w)/\zzs=[zzR a,zzI m,zzI c,zzI h,zzI w,zzI t,zzR p,G,b])
    ⟨[],none,none,aq,⟨[],J,.nil⟩,List.nil_sublist _,rfl⟩ (fun i zzs H' hi z=>?_) (fun zzs H' z=>q _ _ z)
   obtain⟨st,G,b,d,g,k,rfl⟩:=z;refine⟨_,rfl,_,rfl,by lia,by lia,?_⟩;rw[gD];refine eY (lo:=0) (n:=w) (fun j zzs H'=>∃(st:List Cell)(b:Option V),Same H H'/\Ls K H' p (st.map aC)/\st.Sublist (cJ i w++(List.range j).map fun c:Nat=>((i:Int),(c:Int)))/\zzs=[zzR a,zzI m,zzI c,zzI h,zzI w,zzI t,zzR p,zzI (0+i),b])
    ⟨st,b,d,g,by simpa using k,rfl⟩ (fun j zzs H' aJ z=>?_) (fun zzs H' z=>?_)
   ·obtain⟨st,b,d,g,k,rfl⟩:=z;have step:cJ i w++(List.range (j+1)).map (fun c:Nat=>((i:Int),(c:Int)))=(cJ i w++(List.range j).map fun c:Nat=>((i:Int),(c:Int)))++[((i:Int),(j:Int))]:=by
     rw[pZ,d9,<- zG];rfl
    have O:=k.length_le;rw[cH,gF,aL,jD] at O;have aK:i*w<=6*6:=lK (by lia) av;refine⟨_,rfl,_,rfl,a,S,_,rfl,by lia,d.seq ac,fun r=>?_⟩;refine⟨_,rfl,_,rfl,_,_,_,rfl,an,fun ae aw az aH y=>.inl ⟨rfl,_,rfl,?_⟩⟩;refine HW (fun _=>?_) (fun _=>?_)
    ·refine⟨_,rfl,.inl ⟨rfl,_,SqL.of (y _ _ g.choose_spec.1)⟩,?_⟩;obtain⟨xs,ex,W⟩:=g;refine⟨_,rfl,_,rfl,sz rfl,fun u C=>?_⟩;have D:=Same.put (o:=.tup [V.int (0+i),V.int (0+j)]) C;refine⟨p,xs,_,rfl,rfl,D _ _ (y _ _ ex),ltl (by rw[W.length,aL];lia),?_⟩;refine⟨st++[((i:Int),(j:Int))],_,?_,⟨xs++[.ref u],aA,?_⟩,?_,rfl⟩
     ·exact(SameBut.refl p _).put.of (d.trans (y.trans D)) ad
     ·rw[d9];refine((SameBut.refl p _).put.cells (D _ _ (y _ _ ex)) ((W.mono y).mono D)).append (.cons ((SameBut.refl p _).put.cell (D _ _ (y _ _ ex)) ?_) .nil);rw[nR,nR];exact iU
     ·rw[step];exact k.append (List.Sublist.refl _)
    ·refine⟨st,_,d.trans y,g.mono y,?_,rfl⟩;rw[step];exact k.trans (a1b _ _)
   ·obtain⟨st,b,d,g,k,rfl⟩:=z;exact⟨st,_,_,d,g,by rw[rJ];exact k,rfl⟩
  rintro zzs N ⟨st,G,b,d,g,k,rfl⟩;refine⟨_,rfl,_,rfl,_,rfl,sz rfl,fun u C=>?_⟩;exact am u p _ h w st (d.and C) ad (SqT.of aA) (g.mono (Same.put C)) Y.1 Y.2 aa.1 aa.2 k
end
def V6(K:ao):Sp:=fun vs H Q _=>∃(h w:Nat)(p q:Addr)(st kn:List Cell),vs=[.int h,.int w,.ref p,.ref q]/\h<=6/\w<=6/\Den K H (.ref p) (.lst (st.map aC))/\Den K H (.ref q) (.lst (kn.map aC)) /\
 ∀ r H',Same H H'->H r=none->H' r=some (.lst ((Br h w st kn).map V.str))->Q (.ref r) H'
def P0(K:ao):Sp:=fun vs H Q _=>∃(h w:Nat)(p q:Addr)(v:V)(st kn:List Cell)(x:Cell),vs=[.int h,.int w,.ref p,.ref q,v]/\h<=6/\w<=6/\Den K H (.ref p) (.lst (st.map aC))/\Den K H (.ref q) (.lst (kn.map aC))/\Den K H v (aC x)/\inF h w x /\
 ∀ r H' (cs:List Cell),Fr K H H' r (cs.map aC)->cs.Nodup->(∀ y,y∈cs↔Reach h w st kn x y)->Q (.ref r) H'
section
variable{P:Program}{w:World}{K:ao}{mg:Str->Option Value}{base:Heap}{Z:Adr}
theorem Za{f:Addr}{M:FuncData} (F:Fun K "_law_shown" "_law_shown" sS f M) (T:Txt K mg Z) (al:Df P w K mg base 2 "_law_figure" ["height","width","stones","cell"] (a0g K)):cR P w K mg base (CXE P w) 3 f M ["height","width","stones","known"] (V6 K):=by
 refine F.rok j6 (fun ar H Q E h=>?_) (fun cdv A outer s H ar Q E O h=>?_)
 ·obtain⟨h,w,p,q,st,b,rfl,_⟩:=h;rfl
 ·obtain⟨h,w,p,q,st,b,rfl,as,aw,Y,aa,ad⟩:=h;have ah:=xq O;refine⟨_,(au (aO (i:=4) j6.nd rfl (Or.inl rfl) (bZ ak)) (au (c7 dh rfl (dB rfl T.fG (aj (rv 0) ak)) (aQ (i:=5) j6.nd rfl (Or.inl rfl)) (au (aO (i:=6) j6.nd rfl (Or.inl rfl) iy) (au (c7 dh rfl (dB rfl T.fG (aj (rv 1) ak)) (aQ (i:=7) j6.nd rfl (Or.inl rfl)) (aB (aO (i:=6) j6.nd rfl (Or.inl rfl) (bY bC (rv 6) (cB (cL (K:=K)) (bZ (aj iy (aj (kE JK rfl T.a3Y a4L (aj (aV al O rfl aW (aj (rv 0) (aj (rv 1) (aj (rv 2) (aj (fX (aj (rv 5) (aj (rv 7) ak))) ak))))) ak)) ak))) (kE Ab rfl T.Eo Aa (aj (wJ (gG.or (tQ (K:=K) ah)) (fX (aj (rv 5) (aj (rv 7) ak))) (rv 3) (by rfl)) ak))))))) (aB (gM (lH (K:=K) lC mG mH dO (rv 4) (aj (rv 6) ak))))))) (aB (bA (rv 4))))),?_⟩;refine aD (fun zzs H1=>∃ l,H l=none/\Same H H1/\H1 l=some (.lst [])/\zzs=[zzI h,zzI w,zzR p,zzR q,zzR l,zzN,zzN,zzN]) (fun R D=>?_) ?_
  ·exact⟨by decide,fun l m=>D _ _ ⟨l,m,Same.put m,aA,rfl⟩⟩
  rintro zzs H1 ⟨l,S,s1,m,rfl⟩;refine aD (fun zzs H2=>∃(e g a:Option V),Same H H2/\H2 l=some (.lst ((Br h w st b).map V.str))/\zzs=[zzI h,zzI w,zzR p,zzR q,zzR l,e,g,a]) (fun R D=>?_) ?_
  ·refine⟨_,rfl,_,rfl,by lia,by lia,?_⟩;rw[gD];refine eY (lo:=0) (n:=h) (fun i zzs H'=>∃(e g a:Option V),Same H H'/\H' l=some (.lst (((List.range i).map fun r:Nat=>wB h w st b (r:Int) w).map V.str))/\zzs=[zzI h,zzI w,zzR p,zzR q,zzR l,e,g,a])
    ⟨none,none,none,s1,m,rfl⟩ (fun i zzs H' hi c=>?_) (fun zzs H' c=>D _ _ c)
   obtain⟨e,g,a,B,C,rfl⟩:=c;refine aD (fun zzs y=>Same H y/\y l=some (.lst (((List.range i).map fun r:Nat=>wB h w st b (r:Int) w).map V.str))/\zzs=[zzI h,zzI w,zzR p,zzR q,zzR l,zzI (0+i),some (.str ""),a]) (fun X G=>G _ _ ⟨B,C,rfl⟩) ?_;rintro zzs y ⟨am,an,rfl⟩;refine aD (fun zzs z=>∃ a:Option V,Same H z/\z l=some (.lst (((List.range i).map fun r:Nat=>wB h w st b (r:Int) w).map V.str))/\zzs=[zzI h,zzI w,zzR p,zzR q,zzR l,zzI (0+i),some (.str (wB h w st b i w)),a]) (fun X G=>?_) ?_
   ·refine⟨_,rfl,_,rfl,by lia,by lia,?_⟩;rw[gD];refine eY (lo:=0) (n:=w) (fun j zzs H'=>∃ a:Option V,Same H H'/\H' l=some (.lst (((List.range i).map fun r:Nat=>wB h w st b (r:Int) w).map V.str))/\zzs=[zzI h,zzI w,zzR p,zzR q,zzR l,zzI (0+i),some (.str (wB h w st b i j)),a])
     ⟨a,am,an,rfl⟩ (fun j zzs H' av c=>?_) (fun zzs H' c=>G _ _ c)
    obtain⟨a,d,v,rfl⟩:=c;have N:=TX h w st (0+(i:Int),0+(j:Int));refine⟨_,rfl,_,rfl,_,rfl,_,rfl,_,rfl,_,rfl,sz rfl,fun t ae=>?_⟩;have U:=Same.put (o:=.tup [V.int (0+i),V.int (0+j)]) ae;refine⟨h,w,p,_,st,(0+(i:Int),0+(j:Int)),rfl,Y.mono (d.trans U),iU,fun W ao=>?_⟩;refine⟨_,rfl,a1X _ N,sz rfl,fun u ag=>?_⟩;have ap:=Same.put (o:=.lst [V.str "#",V.str (Str.ofString (toString ((yI h w st (0+(i:Int),0+(j:Int)):Nat):Int)))]) ag;refine⟨_,rfl,_,rfl,sz rfl,fun aq af=>?_⟩;have I:=Same.put (o:=.tup [V.int (0+i),V.int (0+j)]) af;have J:=U.trans (ao.trans (ap.trans I));refine⟨_,rfl,.inr (z8 iU (aa.mono (d.trans J)) (.inr ⟨_,rfl,?_⟩))⟩;have ab:((0:Int)+(i:Int),(0:Int)+(j:Int))=((i:Int),(j:Int)):=by rw[nR,nR]
    have fin:∀ L:Str,L=⟨#[Rb h w st b (0+(i:Int),0+(j:Int))]⟩->CW (.str (wB h w st b i j)) (.str L) (upd (upd W u (.lst [V.str "#",V.str (Str.ofString (toString ((yI h w st (0+(i:Int),0+(j:Int)):Nat):Int)))])) aq (.tup [V.int (0+i),V.int (0+j)]))
      (fun x H1=>∃ a:Option V,Same H H1/\H1 l=some (.lst (((List.range i).map fun r:Nat=>wB h w st b (r:Int) w).map V.str))/\([zzI h,zzI w,zzR p,zzR q,zzR l,zzI (0+i),some (.str (wB h w st b i j)),zzI (0+j)]:L2.St).set 6 (some x)=[zzI h,zzI w,zzR p,zzR q,zzR l,zzI (0+i),some (.str (wB h w st b i (j+1))),a]):=by
     intro L ai;subst ai;refine⟨?_,some (.int (0+(j:Int))),d.trans J,J _ _ v,?_⟩
     ·rw[Uz];exact small (by show j+1<=10000;lia)
     ·rw[ZW,<- ab];rfl
    have ac:=dig _ N;by_cases k:(0+(i:Int),0+(j:Int))∈b
    ·rw[bQ k];exact .inl ⟨u,_,_,_,rfl,rfl,SqL.of (I _ _ aA),dG (j:=1) rfl,fin _ (by rw[ac];unfold Rb;rw[aK k])⟩
    ·rw[cD k];exact .inl ⟨u,_,_,_,rfl,rfl,SqL.of (I _ _ aA),fV,fin _ (by unfold Rb;rw[aJ k];decide)⟩
   rintro zzs z ⟨a,d,v,rfl⟩;refine⟨_,rfl,.inl ⟨rfl,_,SqL.of v⟩,_,rfl,l,_,_,rfl,rfl,v,ltl (by rw[aL,aL,jD];lia),?_⟩;refine⟨_,_,_,(SameBut.refl l _).put.of d S,?_,rfl⟩;rw[aA,pZ,d9,d9];rfl
  rintro zzs H2 ⟨e,g,a,B,C,rfl⟩;exact⟨_,rfl,ad l H2 B S C⟩
end
def Pg(K:ao):Sp:=fun vs H Q _=>∃(a:Addr)(ns:List Int)(m k:Int),vs=[.ref a,.int m,.int k]/\SqL K H a (ns.map V.int)/\1<=m/\m<=6/\1<=k/\k<=10 /\
 ∀(t r p:Addr)(H':Hp)(h w:Nat)(st kn:List Cell),Same H H'->H r=none->H p=none->SqT K H' t [.ref r,.ref p]->H' r=some (.lst ((Br h w st kn).map V.str))->Ls K H' p (st.map aC) ->
  1<=h->(h:Int)<=m->1<=w->(w:Int)<=m->st.Sublist (cJ h w)->kn.Nodup->(∀ x∈kn,inF h w x/\x∉st)->Q (.ref t) H'
section
variable{P:Program}{w:World}{K:ao}{mg:Str->Option Value}{base:Heap}{Z:Adr}
theorem Wy{f:Addr}{ae:FuncData} (F:Fun K "_law_opened" "_law_opened" pW f ae) (T:Txt K mg Z) (aq:Df P w K mg base 1 "_law_near" ["height","width","cell"] (xY K)) (aH:Df P w K mg base 2 "_law_figure" ["height","width","stones","cell"] (a0g K)) :
  cR P w K mg base (CXE P w) 3 f ae ["height","width","stones","known","cell"] (P0 K):=by
 refine F.rok jf (fun aK H Q E h=>?_) (fun cdv A outer s H aK Q E C h=>?_)
 ·obtain⟨h,w,p,q,v,st,b,x,rfl,_⟩:=h;rfl
 ·obtain⟨h,w,p,q,v,st,b,x,rfl,ay,aM,av,aw,ax,aG,aA⟩:=h;have aE:=mU C;have ai:=xq C;refine⟨_,(au (aO (i:=5) jf.nd rfl (Or.inr rfl) (bZ (aj (rv 4) ak))) (au (aO (i:=6) jf.nd rfl (Or.inl rfl) aF) (au (zm dh (bI yU (rv 6) (aN (cQ (K:=K)) rfl T.cO bM (aj (rv 5) ak)) (cA _)) (au (dR (bI (kj.or (jY (K:=K) aE)) (aV aH C rfl aW (aj (rv 0) (aj (rv 1) (aj (rv 2) (aj (cB (cL (K:=K)) (rv 5) (rv 6)) ak))))) aF (cA _)) (aB (aO (i:=5) jf.nd rfl (Or.inr rfl) (bY bC (rv 5) (fU (by rfl) rfl (aU (K:=K) (aV aq C rfl aW (aj (rv 0) (aj (rv 1) (aj (cB (cL (K:=K)) (rv 5) (rv 6)) ak))))) (fun _ _ _=>(eO (R0 (QV (bI (fZ.or (jZ (K:=K) ai)) (rv 0) (rv 4) (by rfl)) (Kh (bI (fZ.or (jZ (K:=K) ai)) (rv 0) (rv 6) (by rfl))))))) (fun _ _ _=>(rv 0)))))) bV) (aB (aO (i:=6) jf.nd rfl (Or.inl rfl) (bY bC (rv 6) aF))))) (aB (bA (rv 5)))))),?_⟩;refine aD (fun zzs H1=>∃ l,Fr K H H1 l ([x].map aC)/\zzs=[zzI h,zzI w,zzR p,zzR q,some v,zzR l,zzN]) (fun R k=>?_) ?_
  ·exact⟨_,rfl,sz rfl,fun l N=>k _ _ ⟨l,⟨Same.put N,N,.new N (.cons ax .nil)⟩,rfl⟩⟩
  rintro zzs H1 ⟨l,a,rfl⟩;refine aD (fun zzs H2=>Same H1 H2/\zzs=[zzI h,zzI w,zzR p,zzR q,some v,zzR l,zzI 0]) (fun R k=>k _ _ ⟨Same.refl _,rfl⟩) ?_;rintro zzs H2 ⟨s2,rfl⟩;refine aD (fun zzs c=>∃(l:Addr)(cs:List Cell)(am:Option V),Fr K H c l (cs.map aC)/\oZ h w st b x cs cs.length/\zzs=[zzI h,zzI w,zzR p,zzR q,some v,zzR l,am]) (fun R k=>?_) ?_
  ·refine⟨fun m zzs H'=>∃(l:Addr)(cs:List Cell)(n:Nat),Fr K H H' l (cs.map aC)/\oZ h w st b x cs n/\m=36-n/\zzs=[zzI h,zzI w,zzR p,zzR q,some v,zzR l,zzI n],
    ⟨36,l,[x],0,⟨a.same.trans s2,a.new,a.ls.mono s2⟩,⟨by simp,dH.mpr rfl,fun y S=>by rw[dH.mp S];exact .base,jh _,fun i y hi=>absurd hi (Ly _)⟩,rfl,rfl⟩,?_⟩
   rintro m zzs H' ⟨l,cs,n,a,o,rfl,rfl⟩;obtain⟨xs,ex,Y⟩:=id a.ls;have al:xs.length=cs.length:=by rw[Y.length,aL]
   have aT:=o.len aG ay aM;refine⟨_,rfl,_,rfl,.inl ⟨l,_,rfl,.inl (SqL.of ex),_,_,rfl,rfl,_,rfl,?_⟩⟩;rw[al];refine HW (fun O=>?_) (fun O=>?_)
   ·have B:n<cs.length:=by have:=cT O;lia
    have G:cs[n]?=some cs[n]:=by simp[B]
    have I:xs[n]?=some xs[n]:=by simp[B,al]
    have ab:Den K H' xs[n] (aC cs[n]):=by
     obtain⟨d,ac,dd⟩:=Y.get I;rw[cP,G] at ac;cases ac;exact dd
    refine⟨fun aa H2=>∃(l:Addr)(cs:List Cell),Fr K H H2 l (cs.map aC)/\oZ h w st b x cs (n+1)/\aa=[zzI h,zzI w,zzR p,zzR q,some v,zzR l,zzI ((n+1:Nat):Int)],fun aa H2 az=>?_,?_⟩
    ·obtain⟨l,cs,a,o,rfl⟩:=az;exact⟨36-(n+1),by lia,l,cs,n+1,a,o,rfl,rfl⟩
    refine aD (fun zzs c=>∃(l:Addr)(cs:List Cell),Fr K H c l (cs.map aC)/\oZ h w st b x cs (n+1)/\zzs=[zzI h,zzI w,zzR p,zzR q,some v,zzR l,zzI n]) (fun aS af=>?_) ?_
    ·refine⟨_,rfl,_,rfl,_,rfl,_,rfl,_,rfl,.inl ⟨l,_,_,_,rfl,rfl,SqL.of ex,dG I,?_⟩⟩;refine⟨h,w,p,_,st,cs[n],rfl,av.mono a.same,ab,fun c g=>.inl ⟨rfl,_,rfl,?_⟩⟩;rw[wG];refine HW (fun U=>?_) (fun U=>?_)
     ·have L:yI h w st cs[n]=0:=by have:=cT U;lia
      refine⟨_,rfl,_,rfl,_,rfl,_,rfl,_,rfl,.inl ⟨l,_,_,_,rfl,rfl,SqL.of (g _ _ ex),dG I,?_⟩⟩;refine⟨h,w,_,cs[n],rfl,ab.mono g,fun aI aQ t=>?_⟩;obtain⟨ys,ad,ao⟩:=t.ls;have X:=a.same.trans (g.trans t.same);refine⟨aI,rfl,⟨_,SqL.of ad⟩,dD (K:=K) (xs:=bU h w cs[n]) (enc:=aC) (bJ (SqL.of ad)) ao (small (by have:=gA h w cs[n];lia)) (fun y=>!decide (y∈b)&&!decide (y∈cs)) aC (fun y S u D j d ap M=>?_) (fun y S _ u D j d ap M=>⟨_,rfl,M _ _ (Same.refl _) d⟩) (fun aJ D j an aY ah=>?_)⟩
      ·have ar:=aw.mono (X.trans j);have as:=(a.ls.mono (g.trans (t.same.trans j))).den;have z:=M D (Same.refl _);refine⟨_,rfl,_,rfl,.inr (kI d ar ⟨_,rfl,?_⟩)⟩;by_cases ag:y∈b
       ·rw[bQ ag] at z ⊢;exact uG z
       ·rw[cD ag] at z ⊢;refine Fx ⟨_,rfl,_,rfl,.inr (kI d as ⟨_,rfl,?_⟩)⟩;exact z
      ·have W:=Same.put (o:=.lst aJ) ah;have aX:((bU h w cs[n]).filter fun y=>!decide (y∈b)&&!decide (y∈cs)).length<=8:=cU (gW _ _) (gA h w cs[n]);refine xQ (a.ls.mono (g.trans (t.same.trans (j.trans W)))) (Ls.new ah an) (by rw[aL,aL];lia) fun r aR J=>af _ _ ⟨r,_,⟨X.trans (j.trans (W.trans J.same)),(X.trans (j.trans W)).free J.new,?_⟩,o.grow G L,rfl⟩
       rw[d9];exact J.ls
     ·have L:yI h w st cs[n]≠0:=fun e=>U (bQ (by rw[e];rfl))
      exact af _ _ ⟨l,cs,⟨a.same.trans g,a.new,a.ls.mono g⟩,o.skip G L,rfl⟩
    rintro zzs c ⟨l,cs,a,o,rfl⟩;exact⟨_,rfl,l,cs,a,o,rfl⟩
   ·have B:n=cs.length:=by
     have h1:=o.le;have h2:¬((n:Int)<(cs.length:Int)):=fun aP=>O (bQ aP)
     lia
    subst B;exact k _ _ ⟨l,cs,_,a,o,rfl⟩
  rintro zzs c ⟨l,cs,am,a,o,rfl⟩;exact⟨_,rfl,aA l c cs a o.nd o.done⟩
end
section
variable{P:Program}{w:World}{K:ao}{mg:Str->Option Value}{base:Heap}{Z:Adr}
def uF(w:Nat)(st:List Cell)(n:Nat):List Cell:=(cJ n w).filter fun y=>!decide (y∈st)
theorem Qo(w:Nat)(st:List Cell)(n:Nat):uF w st (n+1)=uF w st n++((List.range w).filter fun c:Nat=>!decide (((n:Int),(c:Int))∈st)).map fun c:Nat=>((n:Int),(c:Int)):=by
 unfold uF;rw[rJ,qP,List.filter_map];rfl
theorem IW(w:Nat)(st:List Cell)(n:Nat):(uF w st n).length<=n*w:=by
 unfold uF;exact cU (gW _ _) (by rw[gF];exact bK _)
theorem WK{f:Addr}{aR:FuncData} (F:Fun K "_law_view_by" "_law_view_by" oM f aR) (T:Txt K mg Z) (aE:Df P w K mg base 1 "_law_cell_at" ["script","k"] (Bs K)) (bb:Df P w K mg base 1 "_law_mix" ["cell","k","many"] Jo)
  (bx:Df P w K mg base 2 "_law_field_by" ["script","most"] (V1 K)) (bB:Df P w K mg base 3 "_law_opened" ["height","width","stones","known","cell"] (P0 K)) (bE:Df P w K mg base 3 "_law_shown" ["height","width","stones","known"] (V6 K)) :
  cR P w K mg base (CXE P w) 4 f aR ["script","most","steps"] (Pg K):=by
 refine F.rok cu (fun bL H Q E h=>?_) (fun cdv A outer s H bL Q E N h=>?_)
 ·obtain⟨a,al,m,k,rfl,_⟩:=h;rfl
 ·obtain⟨a,al,m,k,rfl,av,bv,bw,bW,bX,bj⟩:=h;have bU:=mU N;have aY:=xq N;refine⟨_,(au (kO (aV bx N rfl aW (aj (rv 0) (aj (rv 1) ak))) (lW rfl (cC (aQ (i:=3) cu.nd rfl (Or.inl rfl)) (cC (aQ (i:=4) cu.nd rfl (Or.inl rfl)) (cC (aQ (i:=5) cu.nd rfl (Or.inr rfl)) jq))))) (au (aO (i:=6) cu.nd rfl (Or.inr rfl) (bZ ak)) (au (aO (i:=7) cu.nd rfl (Or.inl rfl) (bZ ak)) (au (c7 dh rfl (dB rfl T.fG (aj (rv 3) ak)) (aQ (i:=8) cu.nd rfl (Or.inr rfl)) (aB (aO (i:=7) cu.nd rfl (Or.inl rfl) (bY bC (rv 7) (fU (by rfl) rfl (dB rfl T.fG (aj (rv 4) ak)) (fun _ _ _=>(eO (bI (fZ.or (jZ (K:=K) aY)) (fX (aj (rv 9) (aj (rv 0) ak))) (rv 6) (by rfl)))) (fun _ _ _=>(fX (aj (rv 9) (aj (rv 0) ak))))))))) (au (c7 dh rfl (dB rfl T.fG (aj (bY jH (aV aE N rfl aW (aj (rv 0) (aj aF ak))) (rv 2)) ak)) (aQ (i:=9) cu.nd rfl (Or.inl rfl)) (au (pD (i:=10) cu.nd rfl rfl (by rfl) rfl (aU (K:=K) (rv 7)) (fun _ _ _=>(eO (bI (fZ.or (jZ (K:=K) aY)) (rv 0) (rv 7) (by rfl)))) (fun _ _ _=>(rv 0))) (aB (dR (bI yS (aN (cQ (K:=K)) rfl T.cO bM (aj (rv 10) ak)) aF (cA _)) (au (aO (i:=11) cu.nd rfl (Or.inl rfl) (cB (cL (K:=K)) (rv 10) (aV bb N rfl aW (aj (aV aE N rfl aW (aj (rv 0) (aj (bY bC aF (rv 9)) ak))) (aj (rv 9) (aj (aN (cQ (K:=K)) rfl T.cO bM (aj (rv 10) ak)) ak)))))) (aB (aO (i:=6) cu.nd rfl (Or.inr rfl) (bY bC (rv 6) (aV bB N rfl aW (aj (rv 3) (aj (rv 4) (aj (rv 5) (aj (rv 6) (aj (rv 11) ak)))))))))) bV)))) (aB (bA (fX (aj (aV bE N rfl aW (aj (rv 3) (aj (rv 4) (aj (rv 5) (aj (rv 6) ak))))) (aj (rv 5) ak)))))))))),?_⟩;refine aD (fun zzs H1=>∃(p:Addr)(h w:Nat)(st:List Cell),Same H H1/\H p=none/\Ls K H1 p (st.map aC)/\(1<=h/\(h:Int)<=m)/\(1<=w/\(w:Int)<=m)/\st.Sublist (cJ h w) /\
   zzs=[zzR a,zzI m,zzI k,zzI h,zzI w,zzR p,zzN,zzN,zzN,zzN,zzN,zzN]) (fun R I=>?_) ?_
  ·exact⟨_,rfl,_,rfl,a,al,m,rfl,av,bv,bw,fun t p H' h w st s' ay bd ab a5 a6 a7 a8 a9=>⟨t,_,rfl,bd,rfl,_,_,rfl,_,_,rfl,_,_,rfl,rfl,I _ _ ⟨p,h,w,st,s',ay,ab,⟨a5,a6⟩,⟨a7,a8⟩,a9,rfl⟩⟩⟩
  rintro zzs H1 ⟨p,h,w,st,s1,ay,ab,aG,aH,bH,rfl⟩;have ar:h<=6:=by lia
  have am:w<=6:=by lia
  have bQ:h*w<=6*6:=lK ar am;refine aD (fun zzs H2=>∃ l,Fr K H1 H2 l []/\zzs=[zzR a,zzI m,zzI k,zzI h,zzI w,zzR p,zzR l,zzN,zzN,zzN,zzN,zzN]) (fun R I=>?_) ?_
  ·exact⟨by decide,fun l aw=>I _ _ ⟨l,⟨Same.put aw,aw,.new aw .nil⟩,rfl⟩⟩
  rintro zzs H2 ⟨l,Y,rfl⟩;refine aD (fun zzs ao=>∃ e,Same H2 ao/\Ls K ao e []/\zzs=[zzR a,zzI m,zzI k,zzI h,zzI w,zzR p,zzR l,zzR e,zzN,zzN,zzN,zzN]) (fun R I=>?_) ?_
  ·exact⟨by decide,fun e aS=>I _ _ ⟨e,Same.put aS,.new aS .nil,rfl⟩⟩
  rintro zzs ao ⟨e,bG,le,rfl⟩;refine aD (fun zzs D=>∃(e:Addr)(L:Option V),Same H2 D/\Ls K D e ((uF w st h).map aC)/\zzs=[zzR a,zzI m,zzI k,zzI h,zzI w,zzR p,zzR l,zzR e,L,zzN,zzN,zzN]) (fun R I=>?_) ?_
  ·refine⟨_,rfl,_,rfl,by lia,by lia,?_⟩;rw[gD];refine eY (lo:=0) (n:=h) (fun i zzs D=>∃(e:Addr)(L:Option V),Same H2 D/\Ls K D e ((uF w st i).map aC)/\zzs=[zzR a,zzI m,zzI k,zzI h,zzI w,zzR p,zzR l,zzR e,L,zzN,zzN,zzN]) ⟨e,none,bG,le,rfl⟩ (fun i zzs D hi U=>?_) (fun zzs D U=>I _ _ U);obtain⟨e,L,B,M,rfl⟩:=U;refine⟨_,rfl,_,rfl,_,rfl,by lia,by lia,?_⟩;rw[gD];have aI:∀ c:Nat,((0:Int)+(i:Int),(c:Int))=((i:Int),(c:Int)):=fun c=>by rw[nR]
   refine dD (K:=K) (xs:=List.range w) (enc:=fun c:Nat=>Dt.int (c:Int)) (pC w) (bf.nats _) (by rw[jD];exact small (by lia)) (fun c:Nat=>!decide (((i:Int),(c:Int))∈st)) (fun c:Nat=>aC ((i:Int),(c:Int))) (fun c be v j C ac an S=>?_) (fun c be _ v j C ac an S=>?_) (fun ys j C ac b4 aT=>?_)
   ·cases ac;refine⟨_,rfl,_,rfl,sz rfl,fun t aa=>⟨_,rfl,.inr (kI iU (ab.mono (Y.same.trans (B.trans (C.and aa)))).den ⟨_,rfl,?_⟩)⟩⟩;rw[aI];exact S _ (Same.put aa)
   ·cases ac;refine⟨_,rfl,_,rfl,sz rfl,fun t aa=>S _ _ (Same.put aa) ?_⟩;rw[<- aI];exact iU
   ·have b0:=IW w st i;have b1:((List.range w).filter fun c:Nat=>!decide (((i:Int),(c:Int))∈st)).length<=w:=cU (gW _ _) (by rw[jD];exact bK _);have b2:i*w<=6*6:=lK (by lia) am;have a1:=Same.put (o:=.lst ys) aT;refine xQ (M.mono (C.trans a1)) (Ls.new aT ac) (by rw[aL,aL];lia) fun r G aM=>⟨r,_,B.trans (C.trans (a1.trans aM.same)),?_,rfl⟩
    rw[Qo,d9,lF];exact aM.ls
  rintro zzs D ⟨e,L,af,br,rfl⟩;refine aD (fun zzs j=>∃(l:Addr)(b:List Cell)(X W O:Option V),Same H1 j/\Ls K j l (b.map aC)/\b.Nodup/\(∀ x∈b,inF h w x/\x∉st)/\zzs=[zzR a,zzI m,zzI k,zzI h,zzI w,zzR p,zzR l,zzR e,L,X,W,O]) (fun R I=>?_) ?_
  ·refine⟨_,rfl,a,al,10,rfl,by decide,(s1.trans (Y.same.trans af)).seq av,fun r=>⟨_,rfl,_,_,rfl,rfl,(by lia),?_⟩⟩;have b5:0<=r%k:=Cp _ (by lia);have b6:r%k<k:=BX _ (by lia);refine⟨_,rfl,by lia,by lia,?_⟩;refine eY (lo:=0) (n:=(r%k).toNat) (fun i zzs j=>∃(l:Addr)(b:List Cell)(X W O:Option V),Same D j/\Ls K j l (b.map aC)/\b.Nodup/\(∀ x∈b,inF h w x/\x∉st)/\zzs=[zzR a,zzI m,zzI k,zzI h,zzI w,zzR p,zzR l,zzR e,L,X,W,O])
    ⟨l,[],none,none,none,Same.refl _,Y.ls.mono af,Cu,(by intro x ae;cases ae),rfl⟩ (fun i zzs j hi U=>?_) (fun zzs j U=>?_)
   ·obtain⟨l,b,X,W,O,B,M,nd,ad,rfl⟩:=U;have bR:b.length<=36:=by
     have:=mD (l2:=cJ h w) nd fun y J=>dM.mpr (ad y J).1
     rw[gF] at this;lia
    have bs:=br.mono B;obtain⟨xs,ex,a3⟩:=id bs;refine aD (fun zzs G=>∃ q,Same j G/\Ls K G q (((uF w st h).filter fun y=>!decide (y∈b)).map aC)/\zzs=[zzR a,zzI m,zzI k,zzI h,zzI w,zzR p,zzR l,zzR e,L,zzI (0+i),zzR q,O]) (fun a4 as=>?_) ?_
    ·refine⟨_,rfl,e,rfl,⟨_,SqL.of ex⟩,dD (K:=K) (xs:=uF w st h) (enc:=aC) (bJ (SqL.of ex)) a3 (small (by have:=IW w st h;lia)) (fun y=>!decide (y∈b)) aC (fun y J u G g d an S=>?_) (fun y J _ u G g d an S=>⟨_,rfl,S _ _ (Same.refl _) d⟩) (fun ca G g a2 bD aX=>?_)⟩
     ·exact⟨_,rfl,_,rfl,.inr (kI d (M.mono g).den ⟨_,rfl,S _ (Same.refl _)⟩)⟩
     ·exact as _ _ ⟨bD,g.and aX,.new aX a2,rfl⟩
    rintro zzs G ⟨q,g,bu,rfl⟩;obtain⟨ys,ap,az⟩:=id bu;have b3:ys.length=((uF w st h).filter fun y=>!decide (y∈b)).length:=by rw[az.length,aL]
    refine⟨_,rfl,.inl ⟨q,_,rfl,.inl (SqL.of ap),_,_,rfl,rfl,_,rfl,?_⟩⟩;refine HW (fun bi=>?_) (fun _=>?_)
    ·have bT:0<ys.length:=by have:=cT bi;lia
     refine aD (fun zzs ah=>∃(u:V)(x:Cell),Same G ah/\Den K ah u (aC x)/\x∈((uF w st h).filter fun y=>!decide (y∈b))/\zzs=[zzR a,zzI m,zzI k,zzI h,zzI w,zzR p,zzR l,zzR e,L,zzI (0+i),zzR q,some u]) (fun a4 as=>?_) ?_
     ·refine⟨_,rfl,_,rfl,_,rfl,a,al,_,rfl,by lia,(s1.trans (Y.same.trans (af.trans (B.trans g)))).seq av,fun b7=>?_⟩;refine⟨_,rfl,_,rfl,.inl ⟨q,_,rfl,.inl (SqL.of ap),_,_,_,rfl,by lia,fun b8 ah ba bS z=>?_⟩⟩;obtain⟨n,rfl⟩:=Dh ba;have bh:n<ys.length:=by lia
      have aK:ys[n]?=some ys[n]:=by simp[bh]
      obtain⟨d,aJ,dd⟩:=az.get aK;rw[cP] at aJ;obtain⟨x,ae,rfl⟩:=gj.mp aJ;exact .inl ⟨q,_,_,_,rfl,rfl,SqL.of (z _ _ ap),dG aK,as _ _ ⟨_,x,z,dd.mono z,eX ae,rfl⟩⟩
     rintro zzs ah ⟨u,x,z,bc,ae,rfl⟩;obtain⟨bl,bm⟩:=cG.mp ae;have bp:x∉b:=by simpa using bm
     obtain⟨bn,bo⟩:=cG.mp bl;have bq:x∉st:=by simpa using bo
     have ax:inF h w x:=dM.mp bn;refine⟨_,rfl,_,rfl,_,rfl,_,rfl,_,rfl,_,rfl,?_⟩;refine⟨h,w,p,l,u,st,b,x,rfl,ar,am,(ab.mono (Y.same.trans (af.trans (B.trans (g.trans z))))).den,(M.mono (g.trans z)).den,bc,ax,fun b9 bN cs aq a0 ai=>?_⟩;have bP:cs.length<=36:=by
      have:=mD (l2:=cJ h w) a0 fun y J=>dM.mpr (((ai y).mp J).inF ax)
      rw[gF] at this;lia
     refine xQ (M.mono (g.trans (z.trans aq.same))) aq.ls (by rw[aL,aL];lia) fun bF bO aP=>?_
     refine⟨bF,b++cs,_,_,_,B.trans (g.trans (z.trans (aq.same.trans aP.same))),by rw[d9];exact aP.ls,?_,fun y J=>?_,rfl⟩
     ·refine zH.mpr ⟨nd,a0,fun y J ag aZ e=>?_⟩;rw[<- e] at aZ;exact((ai y).mp aZ).new bp J
     ·rcases dw.mp J with ag|ag
      ·exact ad y ag
      ·exact⟨((ai y).mp ag).inF ax,((ai y).mp ag).free bq⟩
    ·exact⟨l,b,_,_,_,B.trans g,M.mono g,nd,ad,rfl⟩
   ·obtain⟨l,b,X,W,O,B,M,nd,ad,rfl⟩:=U;exact I _ _ ⟨l,b,X,W,O,Y.same.trans (af.trans B),M,nd,ad,rfl⟩
  rintro zzs j ⟨l,b,X,W,O,C,bt,nd,bg,rfl⟩;refine⟨_,rfl,_,rfl,_,rfl,_,rfl,?_⟩;refine⟨h,w,p,l,st,b,rfl,ar,am,(ab.mono C).den,bt.den,fun r G g bz bk=>⟨_,rfl,sz rfl,fun t aa=>?_⟩⟩;have z:=Same.put (o:=.tup [V.ref r,V.ref p]) aa;exact bj t r p _ h w st b (s1.trans (C.trans (g.trans z))) ((s1.trans C).free bz) ay (SqT.of aA) (z _ _ bk) (ab.mono (C.trans (g.trans z))) aG.1 aG.2 aH.1 aH.2 bH nd bg
end
theorem a1Q{zs:List Str}{r:Nat}(h:r<=zs.length):Ey (zs.map V.str) none (some (r:Int))=(zs.take r).map V.str:=by
 unfold Ey;rw[aL,HT.uK,HT.zq,Ck h,Hh,Nat.sub_zero,List.map_take]
theorem Vx{zs:List Str}{r:Nat}(h:r<=zs.length):Ey (zs.map V.str) (some (r:Int)) none=(zs.drop r).map V.str:=by
 unfold Ey;rw[aL,HT.uK,HT.zq,Ck h,List.map_drop];exact Di (by rw[vh,aL];exact bK _)
theorem Tp{H:Hp}{p l:Addr}{ws us:List Str}{Q:VK}(b:H p=some (.lst (ws.map V.str)))(a:H l=some (.lst (us.map V.str)))(hw:ws.length+us.length<=10000)(c:∀ q,H q=none->Q (.ref q) (upd H q (.lst ((ws++us).map V.str)))):CW (.ref p) (.ref l) H Q:=
 ⟨_,_,b,a,(by rw[aL,aL];exact small hw),fun q h=>by have:=c q h;rw[d9] at this;exact this⟩
def V8(K:ao):Sp:=fun vs H Q _=>∃(a p:Addr)(ns:List Int)(zs:List Str)(w:Nat),vs=[.ref a,.ref p]/\SqL K H a (ns.map V.int)/\H p=some (.lst (zs.map V.str))/\Vw zs w /\
 ∀ q zs' H',Same H H'->H' q=some (.lst (zs'.map V.str))->Vw zs' w->zs'.length=zs.length->Q (.ref q) H'
def pq(zs:List Str)(w:Nat):List Cell:=(bB zs w "#").filter fun x=>decide (0<((bU zs.length w x).filter fun y=>!decide (y∈bB zs w "#")).length)
def Rf(K:ao):Sp:=fun vs H Q _=>∃(p:Addr)(zs:List Str)(w:Nat),vs=[.ref p]/\SqL K H p (zs.map V.str)/\Vw zs w/\∀ q H',Fr K H H' q ((pq zs w).map aC)->Q (.ref q) H'
section
variable{P:Program}{w:World}{K:ao}{mg:Str->Option Value}{base:Heap}{Z:Adr}
theorem Zd{f:Addr}{I:FuncData} (F:Fun K "_law_wrong_by" "_law_wrong_by" nA f I) (T:Txt K mg Z) (Y:Df P w K mg base 1 "_law_cell_at" ["script","k"] (Bs K)) (u:Df P w K mg base 1 "_law_mix" ["cell","k","many"] Jo) :
  cR P w K mg base (CXE P w) 2 f I ["script","rows"] (V8 K):=by
 refine F.rok iz (fun as H Q E h=>?_) (fun cdv A outer s H as Q E g h=>?_)
 ·obtain⟨a,p,L,zs,w,rfl,_⟩:=h;rfl
 ·obtain⟨a,p,L,zs,w,rfl,ad,y,d,J⟩:=h;have am:=mU g;have aK:=d.le;have aJ:=d.ne;have aI:=d.w6;have aH:=d.w1;obtain⟨av,aM,ac,ay⟩:=d.toRect.head;refine⟨_,(au (aO (i:=2) iz.nd rfl (Or.inl rfl) (aV Y g rfl aW (aj (rv 0) (aj aF ak)))) (au (Kp (i:=3) (j:=4) rfl iz.nd rfl rfl (by decide) rfl rfl (aj (aV u g rfl aW (aj (rv 2) (aj aF (aj (aN (cQ (K:=K)) rfl T.cO bM (aj (rv 1) ak)) ak)))) (aj (aV u g rfl aW (aj (rv 2) (aj aF (aj (aN (cQ (K:=K)) rfl T.cO bM (aj (cB (cL (K:=K)) (rv 1) aF) ak)) ak)))) ak)) rfl) (au (aO (i:=5) iz.nd rfl (Or.inl rfl) (cB (cL (K:=K)) iy (aV u g rfl aW (aj (rv 2) (aj aF (aj aF ak)))))) (au (dR (bI (yV.or (yL (K:=K) am)) (bY jH (rv 2) aF) aF (cA _)) (aB (bA (rv 1))) bV) (au (aO (i:=6) iz.nd rfl (Or.inl rfl) (bY bC (bY bC (z7 (Yy (K:=K)) (cB (cL (K:=K)) (rv 1) (rv 3)) zf (zj (rv 4))) (rv 5)) (z7 (Yy (K:=K)) (cB (cL (K:=K)) (rv 1) (rv 3)) (zj (bY bC (rv 4) aF)) zf))) (aB (bA (bY bC (bY bC (z7 (Yy (K:=K)) (rv 1) zf (zj (rv 3))) (bZ (aj (rv 6) ak))) (z7 (Yy (K:=K)) (rv 1) (zj (bY bC (rv 3) aF)) zf))))))))),?_⟩;refine aD (fun zzs H1=>∃ c:Int,Same H H1/\zzs=[zzR a,zzR p,zzI c,zzN,zzN,zzN,zzN]) (fun R b=>?_) ?_
  ·exact⟨_,rfl,a,L,18,rfl,by decide,ad,fun r=>b _ _ ⟨r,Same.refl _,rfl⟩⟩
  rintro zzs H1 ⟨c,s1,rfl⟩;refine aD (fun zzs H2=>∃ i j:Nat,Same H H2/\i<zs.length/\j<w/\zzs=[zzR a,zzR p,zzI c,zzI i,zzI j,zzN,zzN]) (fun R b=>?_) ?_
  ·refine⟨_,rfl,_,rfl,.inl ⟨p,_,rfl,.inl (SqL.of (s1 _ _ y)),_,1,_,rfl,by rw[aL];lia,fun ap H2 X D l=>?_⟩⟩;rw[aL] at D;refine⟨_,rfl,_,rfl,.inl ⟨p,_,_,_,rfl,rfl,SqL.of (l _ _ (s1 _ _ y)),(by rw[ac];exact fV),.inr ⟨av,rfl,small (by lia),_,2,_,rfl,by lia,fun aq e t G m=>?_⟩⟩⟩;refine⟨_,_,rfl,b _ _ ⟨ap.toNat,aq.toNat,s1.trans (l.trans m),by lia,by lia,?_⟩⟩;rw[BR X,BR t];rfl
  rintro zzs H2 ⟨i,j,s2,hi,ae,rfl⟩;refine aD (fun zzs e=>∃ k:Nat,uU k=true/\Same H e/\zzs=[zzR a,zzR p,zzI c,zzI i,zzI j,some (.str ⟨#[k]⟩),zzN]) (fun R b=>?_) ?_
  ·refine⟨_,rfl,_,3,5,rfl,by decide,fun r e t G m=>?_⟩;have ao:("#0123" : Str).cps.toList.length=5:=by decide
   obtain⟨k,v,ab⟩:=uo (xs:=("#0123" : Str).cps.toList) (i:=r) t (by rw[ao];exact G);exact .inr (.inr ⟨_,r,k,rfl,rfl,by decide,ab,b _ _ ⟨k,(by decide:∀ x∈("#0123" : Str).cps.toList,uU x=true) k v,s2.trans m,rfl⟩⟩)
  rintro zzs e ⟨k,v,B,rfl⟩;have M:=B _ _ y;refine aD (fun zzs n=>Same e n/\zzs=[zzR a,zzR p,zzI c,zzI i,zzI j,some (.str ⟨#[k]⟩),zzN]) (fun R b=>?_) ?_
  ·refine⟨_,rfl,_,_,rfl,rfl,(by show(0:Int)<3;decide),.inl ⟨rfl,_,rfl,?_⟩⟩;refine HW (fun _=>⟨_,rfl,J p zs _ B M d rfl⟩) (fun _=>b _ _ ⟨Same.refl _,rfl⟩)
  rintro zzs n ⟨S,rfl⟩;have z:=S _ _ M;have ax:=d.toRect.row hi;have aw:=a1D (zs.getD i Str.empty) none (some (j:Int));have D:=a1D (zs.getD i Str.empty) (some ((j:Int)+1)) none;refine aD (fun zzs C=>Same n C/\zzs=[zzR a,zzR p,zzI c,zzI i,zzI j,some (.str ⟨#[k]⟩),some (.str (PySem.Txt.slice (zs.getD i Str.empty) none (some (j:Int))++⟨#[k]⟩++PySem.Txt.slice (zs.getD i Str.empty) (some ((j:Int)+1)) none))]) (fun R b=>?_) ?_
  ·refine⟨_,rfl,_,rfl,.inl ⟨p,_,_,_,rfl,rfl,SqL.of z,PX hi,_,rfl,_,rfl,.inr ⟨_,rfl,small (by lia),_,rfl,small (by show _+1<=10000;lia),?_⟩⟩⟩;refine⟨_,rfl,_,rfl,.inl ⟨p,_,_,_,rfl,rfl,SqL.of z,PX hi,_,rfl,_,rfl,.inr ⟨_,rfl,small (by lia),?_,b _ _ ⟨Same.refl _,rfl⟩⟩⟩⟩;rw[str_len,zZ,cH,<- str_len];exact small (by show _+1+_<=10000;lia)
  rintro zzs C ⟨U,rfl⟩;have N:=U _ _ z;refine⟨_,rfl,_,rfl,_,rfl,.inl ⟨p,_,rfl,SqL.of N,fun az af=>?_⟩⟩;rw[a1Q (by lia)];have ar:=Same.put (o:=.lst ((zs.take i).map V.str)) af;refine⟨_,rfl,sz rfl,fun aC ag=>?_⟩;have l:=Same.put (o:=.lst [V.str (PySem.Txt.slice (zs.getD i Str.empty) none (some (j:Int))++⟨#[k]⟩++PySem.Txt.slice (zs.getD i Str.empty) (some ((j:Int)+1)) none)]) ag;refine Tp (ws:=zs.take i) (us:=[PySem.Txt.slice (zs.getD i Str.empty) none (some (j:Int))++⟨#[k]⟩++PySem.Txt.slice (zs.getD i Str.empty) (some ((j:Int)+1)) none]) (l _ _ aA) aA (by rw[jd];show _+1<=10000;lia) fun aE ah=>?_
  have m:=Same.put (o:=.lst ((zs.take i++[PySem.Txt.slice (zs.getD i Str.empty) none (some (j:Int))++⟨#[k]⟩++PySem.Txt.slice (zs.getD i Str.empty) (some ((j:Int)+1)) none]).map V.str)) ah;have tA:=ar.trans (l.trans m);refine⟨_,rfl,_,rfl,_,rfl,.inl ⟨p,_,rfl,SqL.of (tA _ _ N),fun aG ai=>?_⟩⟩;have aa:Ey (zs.map V.str) (some ((i:Int)+1)) none=(zs.drop (i+1)).map V.str:=Vx (r:=i+1) (by lia);rw[aa];have W:=Same.put (o:=.lst ((zs.drop (i+1)).map V.str)) ai;refine Tp (ws:=zs.take i++[PySem.Txt.slice (zs.getD i Str.empty) none (some (j:Int))++⟨#[k]⟩++PySem.Txt.slice (zs.getD i Str.empty) (some ((j:Int)+1)) none]) (us:=zs.drop (i+1)) (W _ _ aA) aA
   (by rw[cH,jd,vh];show _+1+_<=10000;lia) fun q al=>?_
  have O:=a6r (s:=⟨#[k]⟩) d hi ae rfl (fun x an=>by rw[show x=k by simpa using an];exact v);exact J q _ _ (B.trans (S.trans (U.trans (tA.trans (W.and al))))) aA O.1 O.2
theorem a2y{f:Addr}{U:FuncData} (F:Fun K "_law_edge" "_law_edge" uL f U) (T:Txt K mg Z) (ag:Df P w K mg base 1 "_law_near" ["height","width","cell"] (xY K)) (af:Df P w K mg base 1 "_law_sizes" ["rows"] (wj K)) (ae:Df P w K mg base 1 "_law_cells" ["rows","signs"] (sZ K)) :
  cR P w K mg base (CXE P w) 2 f U ["rows"] (Rf K):=by
 refine F.rok jr (fun aE H Q E h=>?_) (fun cdv A outer s H aE Q E z h=>?_)
 ·obtain⟨p,zs,w,rfl,_⟩:=h;rfl
 ·obtain⟨p,zs,w,rfl,W,C,al⟩:=h;have ap:=xq z;have aH:=C.le;have aG:=C.w6;have aJ:zs.length*w<=6*6:=lK aH aG;refine⟨_,(au (kO (aV af z rfl aW (aj (rv 0) ak)) (lW rfl (cC (aQ (i:=1) jr.nd rfl (Or.inl rfl)) (cC (aQ (i:=2) jr.nd rfl (Or.inl rfl)) jq)))) (au (aO (i:=3) jr.nd rfl (Or.inr rfl) (aV ae z rfl aW (aj (rv 0) (aj iy ak)))) (au (aO (i:=4) jr.nd rfl (Or.inl rfl) (bZ ak)) (au (c7 dh rfl (aU (K:=K) (rv 3)) (aQ (i:=5) jr.nd rfl (Or.inl rfl)) (aB (dR (bI yS (aN (cQ (K:=K)) rfl T.cO bM (aj (fU (by rfl) rfl (aU (K:=K) (aV ag z rfl aW (aj (rv 1) (aj (rv 2) (aj (rv 5) ak))))) (fun _ _ _=>(eO (bI (fZ.or (jZ (K:=K) ap)) (rv 0) (rv 4) (by rfl)))) (fun _ _ _=>(rv 0))) ak)) aF (cA _)) (aB (gM (lH (K:=K) lC mG mH dO (rv 4) (aj (rv 5) ak)))) bV))) (aB (bA (rv 4))))))),?_⟩;refine aD (fun zzs H1=>Same H H1/\zzs=[zzR p,zzI zs.length,zzI w,zzN,zzN,zzN]) (fun R j=>?_) ?_
  ·exact⟨_,rfl,p,zs,w,rfl,W,C.toRect,fun t H' s' ai=>⟨t,_,rfl,ai,rfl,_,_,rfl,_,_,rfl,rfl,j _ _ ⟨s',rfl⟩⟩⟩
  rintro zzs H1 ⟨s1,rfl⟩;refine aD (fun zzs H2=>∃ k,Same H H2/\Ls K H2 k ((bB zs w "#").map aC)/\zzs=[zzR p,zzI zs.length,zzI w,zzR k,zzN,zzN]) (fun R j=>?_) ?_
  ·exact⟨_,rfl,p,zs,w,"#",rfl,s1.seq W,C.toRect,fun q H' v=>j _ _ ⟨q,s1.trans v.same,v.ls,rfl⟩⟩
  rintro zzs H2 ⟨k,s2,X,rfl⟩;refine aD (fun zzs D=>∃ q,H q=none/\H2 q=none/\Same H2 D/\D q=some (.lst [])/\zzs=[zzR p,zzI zs.length,zzI w,zzR k,zzR q,zzN]) (fun R j=>?_) ?_
  ·exact⟨by decide,fun q J=>j _ _ ⟨q,s2.free J,J,Same.put J,aA,rfl⟩⟩
  rintro zzs D ⟨q,as,av,Y,am,rfl⟩;obtain⟨xs,ex,L⟩:=id X;have aK:=Ae zs w "#";refine aD (fun zzs a=>∃ e:Option V,Fr K H a q ((pq zs w).map aC)/\zzs=[zzR p,zzI zs.length,zzI w,zzR k,zzR q,e]) (fun R j=>?_) ?_
  ·refine⟨_,rfl,k,rfl,⟨_,SqL.of (Y _ _ ex)⟩,?_⟩;refine cN (K:=K) (xs:=xs) (fun i zzs a=>∃(l:List V)(e:Option V),Same H2 a/\a q=some (.lst l)/\bf K a l ((((bB zs w "#").take i).filter fun x=>decide (0<((bU zs.length w x).filter fun y=>!decide (y∈bB zs w "#")).length)).map aC)/\zzs=[zzR p,zzI zs.length,zzI w,zzR k,zzR q,e])
    ⟨[],none,Y,am,.nil,rfl⟩ (fun i zzs a _ r=>by obtain⟨l,e,c,_⟩:=r;exact SqL.of (c _ _ ex)) (fun i u zzs a ao r=>?_) (fun zzs a r=>?_)
   ·obtain⟨l,e,c,g,m,rfl⟩:=r;obtain⟨d,O,N⟩:=L.get ao;rw[cP] at O;obtain⟨x,ex',rfl⟩:=gj.mp O;have tk:(bB zs w "#").take (i+1)=(bB zs w "#").take i++[x]:=by rw[iB,ex'];rfl
    have aM:l.length<=36:=by
     rw[m.length,aL];refine cU (gW _ _) ?_;rw[jd];lia
    have out:∀ b:Bool,b=decide (0<((bU zs.length w x).filter fun y=>!decide (y∈bB zs w "#")).length)->(((bB zs w "#").take (i+1)).filter fun x=>decide (0<((bU zs.length w x).filter fun y=>!decide (y∈bB zs w "#")).length))=(((bB zs w "#").take i).filter fun x=>decide (0<((bU zs.length w x).filter fun y=>!decide (y∈bB zs w "#")).length))++(if b=true then [x] else []):=by
     intro b n;rw[tk,qP,vp,Ss,<- n]
    refine⟨_,rfl,_,rfl,_,rfl,zs.length,w,u,x,rfl,N.mono c,fun aw aI G=>?_⟩;obtain⟨ys,S,ac⟩:=G.ls;refine⟨aw,rfl,⟨_,SqL.of S⟩,dD (K:=K) (xs:=bU zs.length w x) (enc:=aC) (bJ (SqL.of S)) ac (small (by have:=gA zs.length w x;lia)) (fun y=>!decide (y∈bB zs w "#")) aC (fun y aq az M B d ad I=>?_) (fun y aq _ az M B d ad I=>⟨_,rfl,I _ _ (Same.refl _) d⟩) (fun aa M B ab ax an=>?_)⟩
    ·exact⟨_,rfl,_,rfl,.inr (kI d (X.mono (c.trans (G.same.trans B))).den ⟨_,rfl,I _ (Same.refl _)⟩)⟩
    ·have ay:=Same.put (o:=.lst aa) an;have tA:=G.same.trans (B.trans ay);refine .inl ⟨ax,_,rfl,.inl (SqL.of aA),_,_,rfl,rfl,_,rfl,?_⟩;have el:aa.length=((bU zs.length w x).filter fun y=>!decide (y∈bB zs w "#")).length:=by rw[ab.length,aL]
     rw[el];have ah:decide ((0:Int)<(((bU zs.length w x).filter fun y=>!decide (y∈bB zs w "#")).length:Nat))=decide (0<((bU zs.length w x).filter fun y=>!decide (y∈bB zs w "#")).length):=by
      congr 1;apply propext;lia
     rw[ah];refine dW (fun n=>?_) (fun n=>?_)
     ·refine⟨_,rfl,.inl ⟨rfl,_,SqL.of (tA _ _ g)⟩,_,rfl,q,l,_,rfl,rfl,tA _ _ g,ltl (by lia),?_⟩;refine⟨l++[u],_,(SameBut.refl q _).put.of (c.trans tA) av,aA,?_,rfl⟩;rw[out true n.symm,d9];exact((SameBut.refl q _).put.cells (tA _ _ g) (m.mono tA)).append (.cons ((SameBut.refl q _).put.cell (tA _ _ g) (N.mono (c.trans tA))) .nil)
     ·refine⟨l,_,c.trans tA,tA _ _ g,?_,rfl⟩;rw[out false n.symm];simpa using m.mono tA
   ·obtain⟨l,e,c,g,m,rfl⟩:=r;have ar:xs.length=(bB zs w "#").length:=by rw[L.length,aL]
    rw[ar,gP] at m;exact j _ _ ⟨e,⟨s2.trans c,as,⟨l,g,m⟩⟩,rfl⟩
  rintro zzs a ⟨e,v,rfl⟩;exact⟨_,rfl,al q a v⟩
end
theorem bf.a4x{K:ao}{H:Hp}{a:Type}{g:a->Str}:∀ xs:List a,bf K H (xs.map (V.str ∘ g)) (xs.map fun x=>Dt.str (g x))
 |[]=>.nil
 |x::xs=>.cons (.str _) (bf.a4x xs)
theorem Xd{K:ao}{H:Hp}{a:Str}{zzs:L2.St}{Q:VK}{i:TE}(hz:a.length<=sizeLine)
  (n:∀(c:Nat)(H':Hp),∀ b:VK,b (.bl (inS "#012345678" c)) H'->i (some (.str ⟨#[c]⟩)::zzs) H' b)
  (l:∀ H',Same H H'->Q (.bl (a.cps.toList.all (inS "#012345678"))) H') :
  ∃ h:Nat->Nat->List V->Hp->Prop,(∃ m,h 0 m [] H)/\uc (Its a) Xf i zzs (fun d g=>∀ p,g p=none->∃(q:Addr)(bs:List Bool),[V.ref p]=[.ref q]/\SqL K (upd g p (.lst d)) q (bs.map V.bl)/\Q (.bl (bs.all id)) (upd g p (.lst d))) h:=by
 refine comp_map (K:=K) (xs:=a.cps.toList) (enc:=fun c=>Dt.str ⟨#[c]⟩) (Ze a) (by rw[lF];exact bf.a4x _) (by rw[fu];exact hz) (fun c=>Dt.bl (inS "#012345678" c)) (fun c _ v H' s f b j=>?_) (fun d H' s f p k=>?_)
 ·cases f;exact n c H' b (j _ _ (Same.refl _) (.bl _))
 ·have e:d=(a.cps.toList.map (inS "#012345678")).map V.bl:=by
   refine bf.Qz (K:=K) (H:=H') ?_;rw[lF];exact f
  refine⟨p,a.cps.toList.map (inS "#012345678"),rfl,SqL.of (by rw[aA,e]),?_⟩;rw[SX];exact l _ (s.and k)
def a4w:Sp:=fun vs H Q _=>∃(z:Str)(n:Int),vs=[.str z,.int n]/\z.length<=1000/\∀ H',Same H H'->Q (.bl (Gd z n)) H'
theorem Il{l n m:Int}{d:TE}{zzs:L2.St}{H:Hp}{a:VK}(k:∀ b:VK,b (.int m) H->d zzs H b)(c:a (.bl (decide (l<=n/\n<=m))) H) :
  if decide (l<=n)=true then d zzs H (fun w' f=>rI0 (fun i j=>.bl (decide (i<=j))) (.int n) w' f a) else a (.bl false) H:=by
 refine HW (fun h1=>k _ ⟨_,_,rfl,rfl,?_⟩) (fun h1=>?_)
 ·have g:=cT h1;have e:decide (l<=n/\n<=m)=decide (n<=m):=by simp[g]
  show a (.bl (decide (n<=m))) H;rw[<- e];exact c
 ·have e:decide (l<=n/\n<=m)=false:=cD fun h=>h1 (bQ h.1)
  rw[<- e];exact c
def Gp(m n:Int):Bool:=decide (1<=m/\m<=6)&&decide (1<=n/\n<=6)
def a0m:Sp:=fun vs H Q _=>∃(m n:Int),vs=[.int m,.int n]/\Q (.bl (Gp m n)) H
def a0n(K:ao):Sp:=fun vs H Q _=>∃(p:Addr)(zs:List Str),vs=[.ref p]/\SqL K H p (zs.map V.str)/\zs.length<=1000/\(∀ z∈zs,z.length<=1000)/\∀ H',Same H H'->Q (.bl (Dd zs)) H'
theorem a4f{zs:List Str}:(((zs.map V.str).length:Nat):Int)=(zs.length:Int):=by rw[aL]
theorem ZX{K:ao}{H:Hp}{a:Addr}{zs:List Str}{n:Int}{zzs:L2.St}{Q:VK}{j:TE}(l:SqL K H a (zs.map V.str))(hz:zs.length<=1000)
  (t:∀ b∈zs,∀(H':Hp),Same H H'->∀ c:VK,(∀ f,Same H' f->c (.bl (Gd b n)) f)->j (some (.str b)::zzs) H' c)
  (q:∀ H',Same H H'->Q (.bl (zs.all fun r=>Gd r n)) H') :
  ∃ i:Nat->Nat->List V->Hp->Prop,(∃ m,i 0 m [] H)/\uc (Itl K a) Xf j zzs (fun g h=>∀ p,h p=none->a7L K [V.ref p] (upd h p (.lst g)) Q) i:=by
 refine comp_map (K:=K) (xs:=zs) (enc:=Dt.str) (bJ l) (bf.strs zs) (small (by lia)) (fun b=>Dt.bl (Gd b n)) (fun b hz v H' s d c k=>?_) (fun g H' s d p o=>?_)
 ·cases d;exact t b hz H' s c fun f u=>k _ _ u (.bl _)
 ·have e:g=(zs.map fun b=>Gd b n).map V.bl:=by
   refine bf.Qz (K:=K) (H:=H') ?_;rw[lF];exact d
  refine⟨p,zs.map fun b=>Gd b n,rfl,SqL.of (by rw[aA,e]),?_⟩;rw[SX];exact q _ (s.and o)
section
variable{P:Program}{w:World}{K:ao}{mg:Str->Option Value}{base:Heap}{Z:Adr}
theorem a5N{f:Addr}{b:FuncData} (F:Fun K "is_row" "is_row" Gi f b) (T:Txt K mg Z):cR P w K mg base (CXE P w) 1 f b ["row","width"] a4w:=by
 refine F.rok Xb (fun l H Q E h=>?_) (fun cdv A outer s H l Q E e h=>?_)
 ·obtain⟨a,n,rfl,_⟩:=h;rfl
 ·obtain⟨a,n,rfl,o,d⟩:=h;have j:=mU e;have k:=xq e;have g:a.length<=sizeLine:=small (by lia);refine⟨_,(aB (bA (Jf (wJ (kj.or (jY (K:=K) j)) (aN (cQ (K:=K)) rfl T.cO bM (aj (rv 0) ak)) (rv 1) (cA _)) (Jg (aN (k_all (K:=K) rfl) rfl T.Xr Xv (aj (fU (by rfl) rfl (a6D (rv 0)) (fun _ _ _=>kJ) (fun _ _ _=>(wJ (gG.or (tQ (K:=K) k)) (rv 0) (ZL T.vP rfl) (by rfl)))) ak)))))),?_⟩;refine⟨_,rfl,.inr ⟨a,rfl,g,_,rfl,.inl ⟨rfl,_,rfl,?_⟩⟩⟩;rw[wG];refine HW (fun h1=>?_) (fun h1=>?_)
  ·refine⟨_,rfl,a,rfl,Xd (K:=K) g (fun c H' m i=>⟨_,rfl,.inl ⟨_,_,rfl,rfl,i⟩⟩) fun H' s'=>?_⟩;have:=d H' s';unfold Gd at this;rw[h1,vA] at this;exact this
  ·have:=d H (Same.refl _);unfold Gd at this;rw[RZ.mpr h1,Cq] at this;exact this
theorem a2F{f:Addr}{c:FuncData} (F:Fun K "is_size" "is_size" Bf f c) (T:Txt K mg Z):cR P w K mg base (CXE P w) 1 f c ["height","width"] a0m:=by
 refine F.rok R7 (fun d H Q E h=>?_) (fun cdv A outer s H d Q E e h=>?_)
 ·obtain⟨m,n,rfl,_⟩:=h;rfl
 ·obtain⟨m,n,rfl,a⟩:=h;refine⟨_,(aB (bA (Jf (Ec pB pB aF (rv 0) (QT T.jO rfl)) (Jg (Ec pB pB aF (rv 1) (QT T.iw rfl)))))),?_⟩;refine⟨_,rfl,_,_,rfl,rfl,_,rfl,?_⟩;refine Il (m:=6) (fun _ q=>q) ⟨_,rfl,dW (fun b=>?_) (fun b=>?_)⟩
  ·unfold Gp at a;rw[b,vA] at a;refine⟨_,rfl,_,_,rfl,rfl,_,rfl,?_⟩;exact Il (m:=6) (fun _ q=>q) a
  ·unfold Gp at a;rw[b,Cq] at a;exact a
theorem Ox{m n:Int}:Gp m n=true↔((1<=m/\m<=6)/\(1<=n/\n<=6)):=by
 unfold Gp;rw[mK,jx,jx]
theorem a2G{f:Addr}{g:FuncData} (F:Fun K "is_view" "is_view" Bg f g) (T:Txt K mg Z) (j:Df P w K mg base 1 "is_row" ["row","width"] a4w) (t:Df P w K mg base 1 "is_size" ["height","width"] a0m):cR P w K mg base (CXE P w) 2 f g ["rows"] (a0n K):=by
 refine F.rok R8 (fun q H Q E h=>?_) (fun cdv A outer s H q Q E e h=>?_)
 ·obtain⟨p,zs,rfl,_⟩:=h;rfl
 ·obtain⟨p,zs,rfl,b,l,i,d⟩:=h;have o:=mU e;refine⟨_,(au (dR (R0 (Jh (bI (kj.or (jY (K:=K) o)) (aN (cQ (K:=K)) rfl T.cO bM (aj (rv 0) ak)) aF (cA _)) (Kl (mX (jJ (aV t e rfl aW (aj (aN (cQ (K:=K)) rfl T.cO bM (aj (rv 0) ak)) (aj (aN (cQ (K:=K)) rfl T.cO bM (aj (cB (cL (K:=K)) (rv 0) aF) ak)) ak)))))))) (aB (bA qH)) bV) (aB (bA (aN (k_all (K:=K) rfl) rfl T.Xr Xv (aj (fU (by rfl) rfl (aU (K:=K) (rv 0)) (fun _ _ _=>kJ) (fun _ _ _=>(aV j e rfl aW (aj (rv 0) (aj (aN (cQ (K:=K)) rfl T.cO bM (aj (cB (cL (K:=K)) (rv 1) aF) ak)) ak))))) ak))))),?_⟩;refine⟨_,rfl,.inl ⟨p,_,rfl,.inl b,.inl ⟨rfl,_,rfl,?_⟩⟩⟩;rw[a4f,wG];refine dW (fun c=>?_) (fun c=>?_)
  ·cases zs with
   |nil=>exact d H (Same.refl _)
   |cons a zs=>have:=cT c;simp only[gY] at this;lia
  cases zs with
  |nil=>cases c
  |cons a zs=>
   have B:=i a eF;refine⟨_,rfl,.inl ⟨p,_,rfl,.inl b,_,rfl,.inl ⟨p,_,_,_,rfl,rfl,b,fV,.inr ⟨a,rfl,small (by lia),?_⟩⟩⟩⟩;refine⟨_,_,rfl,?_⟩;rw[a4f];refine⟨_,rfl,dW (fun h1=>?_) (fun h1=>?_)⟩
   ·have:=d H (Same.refl _);have h1:¬Gp ((a::zs).length:Nat) a.length=true:=by simpa using h1
    rw[Ox] at h1;by_cases h2:(a::zs).length<=6
    ·rw[Rj (by simp only[gY] at h1 h2 ⊢;lia)] at this;exact this
    ·rw[Ri h2] at this;exact this
   ·have h1:Gp ((a::zs).length:Nat) a.length=true:=by simpa using h1
    rw[Ox] at h1;obtain⟨⟨v,x⟩,y,z⟩:=h1;refine⟨_,rfl,p,rfl,⟨_,b⟩,ZX b l (n:=a.length) (fun r m H' s' u k=>?_) fun H' s'=>?_⟩
    ·refine⟨_,rfl,_,rfl,.inl ⟨p,_,_,_,rfl,rfl,s'.seq b,fV,.inr ⟨a,rfl,small (by lia),?_⟩⟩⟩;exact⟨r,_,rfl,i r m,k⟩
    ·rw[<- Gz (by lia) (by lia) (by lia)];exact d H' s'
def a0j(K:ao)(C B:Addr):Sp:=fun vs H Q E=>∃(x dx p:Addr)(z:List Str),vs=[.ref x,.ref p]/\H x=some (.ins C dx [])/\SqL K H p (z.map V.str)/\z.length<=1000/\(∀ r∈z,r.length<=1000) /\
 (Dd z=false->∀ H',Same H H'->E (.ref B) none H')/\(Dd z=true->∀ H' (l:Addr) (z0:Str) (zs:List Str),z=z0::zs->H l=none->l≠x->H' l=some (.lst (z.map V.str))->H' x=some (.ins C dx (CK l z.length z0.length))->(∀ b o,H b=some o->b≠x->H' b=some o)->Q .non H')
theorem a0o{K:ao}{H:Hp}{p x C c:Addr}{xs:List V}{fs:List (Str×V)}{o:HO}(h:SqL K H p xs)(b:H x=some (.ins C c fs)):SqL K (upd H x o) p xs:=by
 rcases h with(h|⟨d,h⟩)|h
 ·exact .inl (.inl (by rw[bG (qF h b (by intro a;cases a))];exact h))
 ·exact .inl (.inr ⟨d,by rw[bG (qF h b (by intro a;cases a))];exact h⟩)
 ·exact .inr h
theorem a8v{a b:Str}{u v:V}:(mV a v (mV b u [])).length<1000:=by
 have h1:=pA a v (mV b u []);have h2:=pA b u [];simp only[yp] at h2;lia
theorem a2A{f:Addr}{n:FuncData} (F:Fun K "__init__" "View.__init__" mY f n) (T:Txt K mg Z) (G:Df P w K mg base 2 "is_view" ["rows"] (a0n K)):cR P w K mg base (CXE P w) 3 f n ["self","rows"] (a0j K Z.View Z.BadView):=by
 refine F.ZV Bm (fun D H Q E h=>?_) (fun cdv A outer s H D Q E q h=>?_)
 ·obtain⟨x,dx,p,g,rfl,_⟩:=h;rfl
 ·obtain⟨x,dx,p,g,rfl,r,i,B,t,y,C⟩:=h;have z:=U5 q;refine⟨_,(au (dR (RT.nox (mX (jJ (aV G q rfl aW (aj (rv 1) ak))))) (aB (qI T.wu rfl T.Ii z (aj iy ak))) bV) (au (RS.nox (QZ (rv 0) (kE (Yu (K:=K)) rfl T.Q0 Tn (aj (rv 1) ak)))) (au (RS.nox (QZ (rv 0) (aN (cQ (K:=K)) rfl T.cO bM (aj (rv 1) ak)))) (aB (RS.nox (QZ (rv 0) (aN (cQ (K:=K)) rfl T.cO bM (aj (cB (cL (K:=K)) (rv 1) aF) ak)))))))),?_⟩;refine⟨_,rfl,p,g,rfl,i,B,t,fun H1 s1=>⟨_,rfl,?_⟩⟩;cases k:Dd g with
  |false=>exact Fx ⟨by decide,y k H1 s1⟩
  |true=>
   refine uG ?_;cases g with
   |nil=>exact absurd (show false=true from k) (by decide)
   |cons a zs=>
    have I:=t a eF;refine⟨_,rfl,p,_,rfl,.inl (s1.seq i),fun l d=>?_⟩;have c:l≠x:=(bL (s1 x _ r) d).symm;have h1:(upd H1 l (.lst ((a::zs).map V.str))) x=some (.ins Z.View dx []):=by rw[bG c.symm];exact s1 x _ r
    have u:SqL K (upd H1 l (.lst ((a::zs).map V.str))) p ((a::zs).map V.str):=(s1.and d).seq i;refine⟨_,rfl,x,Z.View,dx,_,rfl,h1,T.iI,T.je,(by show 0<1000;decide),?_⟩;have m:=a0o (o:=.ins Z.View dx (mV "rows" (.ref l) [])) u h1;refine⟨_,rfl,.inl ⟨p,_,rfl,.inl m,_,rfl,x,Z.View,dx,_,rfl,aA,T.iI,T.gQ,(by show 1<1000;decide),?_⟩⟩;have v:=a0o (o:=.ins Z.View dx (mV "height" (.int ((a::zs).map V.str).length) (mV "rows" (.ref l) []))) m aA;refine⟨_,rfl,.inl ⟨p,_,_,_,rfl,rfl,v,fV,.inr ⟨a,rfl,small (by lia),_,rfl,x,Z.View,dx,_,rfl,aA,T.iI,T.iM,a8v,?_⟩⟩⟩;refine C k _ l a zs rfl (s1.free d) c ?_ ?_ (fun b o e j=>?_)
    ·rw[bG c,bG c,bG c,aA]
    ·rw[aA];rw[aL];rfl
    ·rw[bG j,bG j,bG j];exact(s1.and d) b o e
end
def a0h(K:ao)(C:Addr):Sp:=fun vs H Q _=>∃(x:Addr)(v:V)(zs:List Str)(w:Nat)(c:Cell),vs=[.ref x,v]/\ig C H x zs w/\Den K H v (aC c)/\Q (.bl (decide (inF zs.length w c))) H
def lY(K:ao)(C:Addr):Sp:=fun vs H Q _=>∃(x:Addr)(v:V)(zs:List Str)(w:Nat)(c:Cell),vs=[.ref x,v]/\ig C H x zs w/\Den K H v (aC c)/\Q (.bl (aP zs w c)) H
def xX(K:ao)(C:Addr):Sp:=fun vs H Q _=>∃(x:Addr)(zs:List Str)(w:Nat),vs=[.ref x]/\ig C H x zs w/\∀ q H',Fr K H H' q ((cJ zs.length w).map aC)->Q (.ref q) H'
def Kv(K:ao)(C NC:Addr):Sp:=fun vs H Q E=>∃(x:Addr)(v:V)(zs:List Str)(w:Nat)(c:Cell),vs=[.ref x,v]/\ig C H x zs w/\Den K H v (aC c)/\(inF zs.length w c->∀ q H',Fr K H H' q ((bU zs.length w c).map aC)->Q (.ref q) H')/\(¬inF zs.length w c->∀ H',Same H H'->E (.ref NC) none H')
section
variable{P:Program}{w:World}{K:ao}{mg:Str->Option Value}{base:Heap}{Z:Adr}
theorem a5J{f:Addr}{g:FuncData} (F:Fun K "has_cell" "has_cell" xU f g) (T:Txt K mg Z):cR P w K mg base (CXE P w) 1 f g ["view","cell"] (a0h K Z.View):=by
 refine F.rok Ot (fun o H Q E h=>?_) (fun cdv A outer s H o Q E t h=>?_)
 ·obtain⟨x,v,zs,w,c,rfl,_⟩:=h;rfl
 ·obtain⟨x,v,zs,w,c,rfl,p,d,n⟩:=h;obtain⟨dx,l,i,r⟩:=p.ob;refine⟨_,(aB (bA (Jf (Ec pB yU aF (cB (cL (K:=K)) (rv 1) aF) (rN (K:=K) (rv 0))) (Jg (Ec pB yU aF (cB (cL (K:=K)) (rv 1) aF) (rN (K:=K) (rv 0))))))),?_⟩;refine⟨_,rfl,rW d ⟨_,_,rfl,rfl,_,rfl,?_⟩⟩;refine Im (m:=(zs.length:Int)) (fun j q=>⟨_,rfl,x,Z.View,dx,_,_,rfl,i,T.iI,T.gQ,Fp _ _ _,q⟩) ⟨_,rfl,?_⟩;have fin:∀ b:Bool,b=decide (inF zs.length w c)->Q (.bl b) H:=fun b e=>by rw[e];exact n
  refine dW (fun h1=>?_) (fun h1=>fin _ (cD fun a=>by rw[bQ a.1] at h1;cases h1).symm);refine⟨_,rfl,rY d ⟨_,_,rfl,rfl,_,rfl,?_⟩⟩;refine Im (m:=(w:Int)) (fun j q=>⟨_,rfl,x,Z.View,dx,_,_,rfl,i,T.iI,T.iM,K6 _ _ _,q⟩) (fin _ ?_);have k:=cT h1;by_cases h2:0<=c.2/\c.2<(w:Int)
  ·rw[bQ h2,bQ (show inF zs.length w c from⟨k,h2⟩)]
  ·rw[cD h2,cD (fun a:inF zs.length w c=>h2 a.2)]
theorem O9{f:Addr}{g:FuncData} (F:Fun K "is_closed" "is_closed" uP f g) (T:Txt K mg Z) (q:Df P w K mg base 1 "has_cell" ["view","cell"] (a0h K Z.View)):cR P w K mg base (CXE P w) 2 f g ["view","cell"] (lY K Z.View):=by
 refine F.rok Ks (fun r H Q E h=>?_) (fun cdv A outer s H r Q E j h=>?_)
 ·obtain⟨x,v,zs,w,c,rfl,_⟩:=h;rfl
 ·obtain⟨x,v,zs,w,c,rfl,d,b,a⟩:=h;obtain⟨dx,l,p,i⟩:=d.ob;have o:=mU j;refine⟨_,(aB (bA (Jf (aV q j rfl aW (aj (rv 0) (aj (rv 1) ak))) (Jg (wJ (kj.or (jY (K:=K) o)) (cB (cL (K:=K)) (cB (cL (K:=K)) (rN (K:=K) (rv 0)) (cB (cL (K:=K)) (rv 1) aF)) (cB (cL (K:=K)) (rv 1) aF)) (ZL T.j5 rfl) (cA _)))))),?_⟩;refine⟨_,rfl,_,rfl,x,v,zs,w,c,rfl,d,b,_,rfl,?_⟩;unfold aP at a;refine dW (fun h1=>?_) (fun h1=>?_)
  ·rw[h1,vA] at a;obtain⟨⟨t,u⟩,⟨y,z⟩⟩:=cT h1;have k:c.1=((c.1.toNat:Nat):Int):=by lia
   have m:c.2=((c.2.toNat:Nat):Int):=by lia
   have i1:c.1.toNat<zs.length:=by lia
   refine⟨_,rfl,x,Z.View,dx,_,_,rfl,p,T.iI,T.je,Qn _ _ _,_,rfl,rW b ?_⟩;rw[k];refine Gb (SqL.of i) i1 ⟨_,rfl,rY b ?_⟩;rw[m];refine z9 (SqL.of i) d.vw.toRect i1 (by lia) (.inl ⟨rfl,?_⟩);have es:decide (V.str ⟨#[codeAt zs (c.1.toNat,c.2.toNat)]⟩=V.str "#")=decide (codeAt zs (c.1.toNat,c.2.toNat)=35):=by
    congr 1;apply propext;have n:("#" : Str)=⟨#[35]⟩:=by decide +kernel
    rw[n];constructor
    ·intro e;simpa using e
    ·intro e;rw[e]
   rw[es];exact a
  ·rw[h1,Cq] at a;exact a
theorem O7{f:Addr}{u:FuncData} (F:Fun K "cells" "cells" Kq f u) (T:Txt K mg Z):cR P w K mg base (CXE P w) 1 f u ["view"] (xX K Z.View):=by
 refine F.rok zu (fun L H Q E h=>?_) (fun cdv A outer s H L Q E S h=>?_)
 ·obtain⟨x,zs,w,rfl,_⟩:=h;rfl
 ·obtain⟨x,zs,w,rfl,k,D⟩:=h;have M:=k.vw.le;have z:=k.vw.w6;have U:zs.length*w<=6*6:=lK M z;refine⟨_,(au (aO (i:=1) zu.nd rfl (Or.inl rfl) (bZ ak)) (au (c7 dh rfl (dB rfl T.fG (aj (rN (K:=K) (rv 0)) ak)) (aQ (i:=2) zu.nd rfl (Or.inl rfl)) (aB (c7 dh rfl (dB rfl T.fG (aj (rN (K:=K) (rv 0)) ak)) (aQ (i:=3) zu.nd rfl (Or.inl rfl)) (aB (gM (lH (K:=K) lC mG mH dO (rv 1) (aj (fX (aj (rv 2) (aj (rv 3) ak))) ak))))))) (aB (bA (rv 1))))),?_⟩;refine aD (fun zzs H1=>∃ q,H q=none/\Same H H1/\H1 q=some (.lst [])/\zzs=[zzR x,zzR q,zzN,zzN]) (fun R m=>?_) ?_
  ·exact⟨by decide,fun q v=>m _ _ ⟨q,v,Same.put v,aA,rfl⟩⟩
  rintro zzs H1 ⟨q,y,s1,G,rfl⟩;refine aD (fun zzs H2=>∃(e a:Option V),Fr K H H2 q ((cJ zs.length w).map aC)/\zzs=[zzR x,zzR q,e,a]) (fun R m=>?_) ?_
  ·obtain⟨dx,l,p,C⟩:=(k.mono s1).ob;refine⟨_,rfl,x,Z.View,dx,_,_,rfl,p,T.iI,T.gQ,Fp _ _ _,_,rfl,by lia,by lia,?_⟩;rw[gD];refine eY (lo:=0) (n:=zs.length) (fun i zzs H2=>∃(e a:Option V),Same H H2/\Ls K H2 q ((cJ i w).map aC)/\zzs=[zzR x,zzR q,e,a]) ⟨none,none,s1,⟨[],G,.nil⟩,rfl⟩ (fun i zzs H2 hi d=>?_) (fun zzs H2 d=>?_)
   ·obtain⟨e,a,b,g,rfl⟩:=d;obtain⟨dx,l,p,C⟩:=(k.mono b).ob;refine⟨_,rfl,x,Z.View,dx,_,_,rfl,p,T.iI,T.iM,K6 _ _ _,_,rfl,by lia,by lia,?_⟩;rw[gD];refine eY (lo:=0) (n:=w) (fun j zzs H2=>∃ a:Option V,Same H H2/\Ls K H2 q ((cJ i w++(List.range j).map fun c:Nat=>((i:Int),(c:Int))).map aC)/\zzs=[zzR x,zzR q,zzI (0+i),a]) ⟨a,b,by simpa using g,rfl⟩ (fun j zzs H2 N d=>?_) (fun zzs H2 d=>?_)
    ·obtain⟨a,b,⟨xs,ex,r⟩,rfl⟩:=d;have step:cJ i w++(List.range (j+1)).map (fun c:Nat=>((i:Int),(c:Int)))=(cJ i w++(List.range j).map fun c:Nat=>((i:Int),(c:Int)))++[((i:Int),(j:Int))]:=by
      rw[pZ,d9,<- zG];rfl
     have J:=r.length;rw[aL,cH,gF,aL,jD] at J;have O:i*w<=6*6:=lK (by lia) z;refine⟨_,rfl,.inl ⟨rfl,_,SqL.of ex⟩,_,rfl,_,rfl,sz rfl,fun t I=>?_⟩;have st:=Same.put (o:=.tup [V.int (0+i),V.int (0+j)]) I;refine⟨q,xs,_,rfl,rfl,st _ _ ex,ltl (by lia),?_⟩;refine⟨_,(SameBut.refl q _).put.of (b.trans st) y,⟨xs++[.ref t],aA,?_⟩,rfl⟩;rw[step,d9];refine((SameBut.refl q _).put.cells (st _ _ ex) (r.mono st)).append (.cons ((SameBut.refl q _).put.cell (st _ _ ex) ?_) .nil);rw[nR,nR];exact iU
    ·obtain⟨a,b,g,rfl⟩:=d;exact⟨_,_,b,by rw[rJ];exact g,rfl⟩
   ·obtain⟨e,a,b,g,rfl⟩:=d;exact m _ _ ⟨e,a,⟨b,y,g⟩,rfl⟩
  rintro zzs H2 ⟨e,a,B,rfl⟩;exact⟨_,rfl,D q H2 B⟩
end
def tu(K:ao)(C:Addr)(g:List Str->Nat->Cell->List Cell):Sp:=fun vs H Q _=>∃(x:Addr)(v:V)(zs:List Str)(w:Nat)(c:Cell),vs=[.ref x,v]/\ig C H x zs w/\Den K H v (aC c)/\inF zs.length w c/\∀ q H',Fr K H H' q ((g zs w c).map aC)->Q (.ref q) H'
def uV(K:ao)(C:Addr)(g:List Str->Nat->List Cell):Sp:=fun vs H Q _=>∃(x:Addr)(zs:List Str)(w:Nat),vs=[.ref x]/\ig C H x zs w/\∀ q H',Fr K H H' q ((g zs w).map aC)->Q (.ref q) H'
def aY(zs:List Str)(w:Nat):List Cell:=(eG zs w).filter fun x=>decide (0<(aM zs w x).length)
def nO(zs:List Str)(w:Nat):List Cell:=(eG zs w).filter fun x=>decide ((aM zs w x).length=0)
theorem gb{zs:List Str}{w:Nat}(v:Vw zs w):(eG zs w).length<=36:=by
 have h1:(eG zs w).length<=(cJ zs.length w).length:=gW _ _;rw[gF] at h1;have h2:zs.length*w<=6*6:=lK v.le v.w6;lia
theorem yX(zs:List Str)(w:Nat)(x:Cell):(aM zs w x).length<=8:=cU (gW _ _) (gA _ _ _)
theorem a4Y(a b:Cell):(!eqD (aC a) (aC b))=!decide (a=b):=by rw[Fl]
theorem Ud(a:Int):(if(0:Int)>a then(0:Int) else a)=max a 0:=by by_cases h:(0:Int)>a<;>simp only[h,nF,lB]<;>lia
theorem Ug(a b:Int):(if b<a then b else a)=min a b:=by by_cases h:b<a<;>simp only[h,nF,lB]<;>lia
theorem YQ{a:Int}(h:a<=6):0<=max a 0/\max a 0<=6:=⟨Int.le_max_right _ _,Int.max_le.mpr ⟨h,by decide⟩⟩
theorem YT{a b:Int}(h:0<=a)(h0:0<=b)(c:b<=6):0<=min a b/\min a b<=6:=⟨Int.le_min.mpr ⟨h,h0⟩,T6 (Int.min_le_right _ _) c⟩
theorem ZS{i j:Int}(a:0<=i/\i<=6)(b:0<=j/\j<=6) : -(2^62)<=i/\i<2^62 /\ -(2^62)<=j/\j<2^62:=⟨by lia,by omega,by lia,by omega⟩
theorem XJ{a b:Int}{i:Nat}(c:0<=a)(d:b<=6)(h:i<(b-a).toNat):i<6:=by lia
theorem a4O{a b:Int}(c:0<=a)(d:b<=6):(b-a).toNat<=6:=by lia
theorem a82{a b n:Nat}(c:a<=n*6)(d:b<=6):a+b<=(n+1)*6:=by lia
theorem a7u{a b i j:Nat}(c:a<=i*6)(d:b<=j)(e:i<6)(f:j<6):a+b<=100:=by lia
section
variable{P:Program}{w:World}{K:ao}{mg:Str->Option Value}{base:Heap}{Z:Adr}
theorem Z9{f:Addr}{W:FuncData} (F:Fun K "near" "near" R5 f W) (T:Txt K mg Z) (an:Df P w K mg base 1 "has_cell" ["view","cell"] (a0h K Z.View)):cR P w K mg base (CXE P w) 2 f W ["view","cell"] (Kv K Z.View Z.NoCell):=by
 refine F.ZV Ef (fun ax H Q E h=>?_) (fun cdv A outer s H ax Q E N h=>?_)
 ·obtain⟨x,v,zs,w,c,rfl,_⟩:=h;rfl
 ·obtain⟨x,v,zs,w,c,rfl,D,r,ag,ac⟩:=h;have am:=mU N;have ad:=U5 N;have az:=D.vw.le;have ay:=D.vw.w6;refine⟨_,(au (dR (RT.nox (mX (jJ (aV an N rfl aW (aj (rv 0) (aj (rv 1) ak)))))) (aB (qI T.oW rfl T.uw ad (aj iy ak))) bV) (au (RS.nox (aO (i:=2) Ef.nd rfl (Or.inl rfl) (bZ ak))) (au (RS.nox (c7 dh rfl (Ji rfl T.fG (aj (aN (Ik rfl) rfl T.Tg Q5 (aj (bY FQ (cB (cL (K:=K)) (rv 1) aF) aF) (aj aF ak))) (aj (aN (Ac rfl) rfl T.Mv JD (aj (bY bC (cB (cL (K:=K)) (rv 1) aF) aF) (aj (rN (K:=K) (rv 0)) ak))) ak))) (aQ (i:=3) Ef.nd rfl (Or.inl rfl)) (aB (c7 dh rfl (Ji rfl T.fG (aj (aN (Ik rfl) rfl T.Tg Q5 (aj (bY FQ (cB (cL (K:=K)) (rv 1) aF) aF) (aj aF ak))) (aj (aN (Ac rfl) rfl T.Mv JD (aj (bY bC (cB (cL (K:=K)) (rv 1) aF) aF) (aj (rN (K:=K) (rv 0)) ak))) ak))) (aQ (i:=4) Ef.nd rfl (Or.inl rfl)) (aB (dR (bI (yV.or (yL (K:=K) am)) (fX (aj (rv 3) (aj (rv 4) ak))) (rv 1) (cA _)) (aB (gM (lH (K:=K) lC mG mH dO (rv 2) (aj (fX (aj (rv 3) (aj (rv 4) ak))) ak)))) bV)))))) (aB (RS.nox (bA (rv 2))))))),?_⟩;refine aD (fun zzs H1=>inF zs.length w c/\Same H H1/\zzs=[zzR x,some v,zzN,zzN,zzN]) (fun R z=>?_) ?_
  ·refine⟨_,rfl,_,rfl,x,v,zs,w,c,rfl,D,r,_,rfl,?_⟩;refine dW (fun h1=>⟨by decide,ac (iW (by simpa only[qQ] using h1)) H (Same.refl _)⟩) (fun h1=>z _ _ ⟨cT (by simpa only[vd] using h1),Same.refl _,rfl⟩)
  rintro zzs H1 ⟨M,s1,rfl⟩;have C:=ag M;rw[<- Zq az ay M] at C;obtain⟨⟨aE,aG⟩,⟨aH,aI⟩⟩:=id M;refine aD (fun zzs H2=>∃ q,H q=none/\Same H H2/\H2 q=some (.lst [])/\zzs=[zzR x,some v,zzR q,zzN,zzN]) (fun R z=>?_) ?_
  ·exact⟨by decide,fun q C=>z _ _ ⟨q,s1.free C,s1.and C,aA,rfl⟩⟩
  rintro zzs H2 ⟨q,Y,s2,ah,rfl⟩;have ap:(if(0:Int)>c.1-1 then(0:Int) else c.1-1)=max (c.1-1) 0:=Ud _;have aq:(if(zs.length:Int)<c.1+2 then(zs.length:Int) else c.1+2)=min (c.1+2) zs.length:=Ug _ _;have ar:(if(0:Int)>c.2-1 then(0:Int) else c.2-1)=max (c.2-1) 0:=Ud _;have as:(if(w:Int)<c.2+2 then(w:Int) else c.2+2)=min (c.2+2) w:=Ug _ _;have U:=YQ (a:=c.1-1) (by lia);have J:=YQ (a:=c.2-1) (by lia);have S:=YT (a:=c.1+2) (b:=(zs.length:Int)) (by lia) (by lia) (by lia);have I:=YT (a:=c.2+2) (b:=(w:Int)) (by lia) (by lia) (by lia);refine aD (fun zzs d=>∃(p g:Option V),Fr K H d q ((QM zs.length w c).map aC)/\zzs=[zzR x,some v,zzR q,p,g]) (fun R z=>?_) ?_
  ·obtain⟨dx,l,O,af⟩:=(D.mono s2).ob;refine⟨_,rfl,rW (r.mono s2) ⟨_,_,rfl,rfl,_,_,rfl,?_⟩⟩;refine⟨_,rfl,rW (r.mono s2) ⟨_,rfl,x,Z.View,dx,_,_,rfl,O,T.iI,T.gQ,Fp _ _ _,_,_,rfl,_,_,rfl,?_⟩⟩;rw[ap,aq];refine⟨ZS U S,?_⟩;refine eY (lo:=max (c.1-1) 0) (n:=(min (c.1+2) (zs.length:Int)-max (c.1-1) 0).toNat) (fun i zzs d=>∃(p g:Option V),Same H d/\Ls K d q ((rT w c (max (c.1-1) 0) i).map aC)/\zzs=[zzR x,some v,zzR q,p,g]) ⟨none,none,s2,⟨[],ah,.nil⟩,rfl⟩ (fun i zzs d hi m=>?_) (fun zzs d m=>?_)
   ·obtain⟨p,g,e,u,rfl⟩:=m;obtain⟨dx,l,O,af⟩:=(D.mono e).ob;refine⟨_,rfl,rY (r.mono e) ⟨_,_,rfl,rfl,_,_,rfl,?_⟩⟩;refine⟨_,rfl,rY (r.mono e) ⟨_,rfl,x,Z.View,dx,_,_,rfl,O,T.iI,T.iM,K6 _ _ _,_,_,rfl,_,_,rfl,?_⟩⟩;rw[ar,as];refine⟨ZS J I,?_⟩;have aa:rT w c (max (c.1-1) 0) (i+1)=rT w c (max (c.1-1) 0) i++Ea w c (max (c.1-1) 0+(i:Int)):=by
     unfold rT;rw[pZ,GK];simp
    have av:∀ n,(rT w c (max (c.1-1) 0) n).length<=n*6:=by
     intro n
     induction n with
     |zero=>simp[rT]
     |succ n X=>
      unfold rT at X ⊢;rw[pZ,GK,cH];have:([n].flatMap fun k:Nat=>Ea w c (max (c.1-1) 0+(k:Int))).length<=6:=by
       simp only[Lp,List.flatMap_nil,qT];unfold Ea;refine cU (gW _ _) ?_;rw[aL,jD];exact a4O J.1 I.2
      exact a82 X this
    refine eY (lo:=max (c.2-1) 0) (n:=(min (c.2+2) (w:Int)-max (c.2-1) 0).toNat) (fun j zzs d=>∃ g:Option V,Same H d/\Ls K d q ((rT w c (max (c.1-1) 0) i++((List.range j).map fun k:Nat=>(max (c.1-1) 0+(i:Int),max (c.2-1) 0+(k:Int))).filter fun y=>!decide (y=c)).map aC)/\zzs=[zzR x,some v,zzR q,zzI (max (c.1-1) 0+(i:Int)),g])
     ⟨g,e,by simpa using u,rfl⟩ (fun j zzs d ae m=>?_) (fun zzs d m=>?_)
    ·obtain⟨g,e,⟨xs,ex,G⟩,rfl⟩:=m;have step:∀ b:Bool,b=!decide ((max (c.1-1) 0+(i:Int),max (c.2-1) 0+(j:Int))=c)->(((List.range (j+1)).map fun k:Nat=>(max (c.1-1) 0+(i:Int),max (c.2-1) 0+(k:Int))).filter fun y=>!decide (y=c))=(((List.range j).map fun k:Nat=>(max (c.1-1) 0+(i:Int),max (c.2-1) 0+(k:Int))).filter fun y=>!decide (y=c))++(if b=true then [(max (c.1-1) 0+(i:Int),max (c.2-1) 0+(j:Int))] else []):=by
      intro b B;rw[pZ,d9,qP,gq,Hq,vp,Ss,<- B]
     have ao:xs.length<=100:=by
      rw[G.length,aL,cH];have:=av i;have h2:(((List.range j).map fun k:Nat=>(max (c.1-1) 0+(i:Int),max (c.2-1) 0+(k:Int))).filter fun y=>!decide (y=c)).length<=j:=cU (gW _ _) (by rw[aL,jD];exact bK _);exact a7u this h2 (XJ U.1 S.2 hi) (XJ J.1 I.2 ae)
     refine⟨_,rfl,_,rfl,sz rfl,fun t ai=>?_⟩;have st:=Same.put (o:=.tup [V.int (max (c.1-1) 0+(i:Int)),V.int (max (c.2-1) 0+(j:Int))]) ai;refine⟨_,rfl,.inr ⟨aC (max (c.1-1) 0+(i:Int),max (c.2-1) 0+(j:Int)),aC c,rfl,iU,r.mono (e.trans st),rfl,yD _,?_⟩⟩;refine⟨_,rfl,?_⟩;show if(!eqD _ _)=true then _ else _
     rw[a4Y];refine dW (fun B=>?_) (fun B=>?_)
     ·refine⟨_,rfl,.inl ⟨rfl,_,SqL.of (st _ _ ex)⟩,_,rfl,_,rfl,sz rfl,fun aw al=>?_⟩;have st2:=Same.put (o:=.tup [V.int (max (c.1-1) 0+(i:Int)),V.int (max (c.2-1) 0+(j:Int))]) al;have L:=st2 _ _ (st _ _ ex);refine⟨q,xs,_,rfl,rfl,L,ltl (Lj ao (by decide)),?_⟩;refine⟨_,(SameBut.refl q _).put.of (e.trans (st.trans st2)) Y,⟨xs++[.ref aw],aA,?_⟩,rfl⟩;rw[step true B.symm,<- zG,d9];exact((SameBut.refl q _).put.cells L (G.mono (st.trans st2))).append (.cons ((SameBut.refl q _).put.cell L iU) .nil)
     ·refine⟨_,e.trans st,⟨xs,st _ _ ex,?_⟩,rfl⟩;rw[step false B.symm];simpa using G.mono st
    ·obtain⟨g,e,u,rfl⟩:=m;exact⟨_,_,e,by rw[aa];exact u,rfl⟩
   ·obtain⟨p,g,e,u,rfl⟩:=m;exact z _ _ ⟨p,g,⟨e,Y,u⟩,rfl⟩
  rintro zzs d ⟨p,g,ab,rfl⟩;exact⟨_,rfl,C q d ab⟩
theorem Ob{f:Addr}{g:FuncData} (F:Fun K "open_near" "open_near" uR f g) (T:Txt K mg Z) (D:Df P w K mg base 2 "near" ["view","cell"] (Kv K Z.View Z.NoCell)) (n:Df P w K mg base 2 "is_closed" ["view","cell"] (lY K Z.View)) :
  cR P w K mg base (CXE P w) 3 f g ["view","cell"] (tu K Z.View aM):=by
 refine F.rok Ku (fun B H Q E h=>?_) (fun cdv A outer s H B Q E i h=>?_)
 ·obtain⟨x,v,zs,w,c,rfl,_⟩:=h;rfl
 ·obtain⟨x,v,zs,w,c,rfl,j,o,p,r⟩:=h;refine⟨_,(aB (bA (fU (by rfl) rfl (aU (K:=K) (aV D i rfl aW (aj (rv 0) (aj (rv 1) ak)))) (fun _ _ _=>(eO (mX (jJ (aV n i rfl aW (aj (rv 1) (aj (rv 0) ak))))))) (fun _ _ _=>(rv 0))))),?_⟩;refine⟨_,rfl,_,rfl,x,v,zs,w,c,rfl,j,o,fun _ q H1 a=>?_,fun C=>absurd p C⟩;obtain⟨xs,ex,k⟩:=a.ls;refine⟨q,rfl,⟨_,SqL.of ex⟩,dD (K:=K) (xs:=bU zs.length w c) (enc:=aC) (bJ (SqL.of ex)) k (small (by have:=gA zs.length w c;lia)) (fun y=>!aP zs w y) aC (fun y t u H2 s2 d m b=>?_) (fun y t _ u H2 s2 d m b=>⟨_,rfl,b _ _ (Same.refl _) d⟩) (fun ys H2 s2 l z e=>?_)⟩
  ·exact⟨_,rfl,_,rfl,x,u,zs,w,y,rfl,j.mono (a.same.trans s2),d,_,rfl,b _ (Same.refl _)⟩
  ·exact r z _ ⟨a.same.trans (s2.and e),(a.same.trans s2).free e,.new e l⟩
theorem HX{f:Addr}{g:FuncData} (F:Fun K "closed_near" "closed_near" pX f g) (T:Txt K mg Z) (D:Df P w K mg base 2 "near" ["view","cell"] (Kv K Z.View Z.NoCell)) (n:Df P w K mg base 2 "is_closed" ["view","cell"] (lY K Z.View)) :
  cR P w K mg base (CXE P w) 3 f g ["view","cell"] (tu K Z.View aG):=by
 refine F.rok Gm (fun B H Q E h=>?_) (fun cdv A outer s H B Q E i h=>?_)
 ·obtain⟨x,v,zs,w,c,rfl,_⟩:=h;rfl
 ·obtain⟨x,v,zs,w,c,rfl,j,o,p,r⟩:=h;refine⟨_,(aB (bA (fU (by rfl) rfl (aU (K:=K) (aV D i rfl aW (aj (rv 0) (aj (rv 1) ak)))) (fun _ _ _=>(eO (jJ (aV n i rfl aW (aj (rv 1) (aj (rv 0) ak)))))) (fun _ _ _=>(rv 0))))),?_⟩;refine⟨_,rfl,_,rfl,x,v,zs,w,c,rfl,j,o,fun _ q H1 a=>?_,fun C=>absurd p C⟩;obtain⟨xs,ex,k⟩:=a.ls;refine⟨q,rfl,⟨_,SqL.of ex⟩,dD (K:=K) (xs:=bU zs.length w c) (enc:=aC) (bJ (SqL.of ex)) k (small (by have:=gA zs.length w c;lia)) (fun y=>aP zs w y) aC (fun y t u H2 s2 d m b=>?_) (fun y t _ u H2 s2 d m b=>⟨_,rfl,b _ _ (Same.refl _) d⟩) (fun ys H2 s2 l z e=>?_)⟩
  ·exact⟨_,rfl,_,rfl,x,u,zs,w,y,rfl,j.mono (a.same.trans s2),d,_,rfl,b _ (Same.refl _)⟩
  ·exact r z _ ⟨a.same.trans (s2.and e),(a.same.trans s2).free e,.new e l⟩
theorem Wr{f:Addr}{g:FuncData} (F:Fun K "closed" "closed" Gg f g) (T:Txt K mg Z) (r:Df P w K mg base 1 "cells" ["view"] (xX K Z.View)) (m:Df P w K mg base 2 "is_closed" ["view","cell"] (lY K Z.View)) :
  cR P w K mg base (CXE P w) 3 f g ["view"] (uV K Z.View eG):=by
 refine F.rok X8 (fun t H Q E h=>?_) (fun cdv A outer s H t Q E i h=>?_)
 ·obtain⟨x,zs,w,rfl,_⟩:=h;rfl
 ·obtain⟨x,zs,w,rfl,b,n⟩:=h;have v:zs.length*w<=6*6:=lK b.vw.le b.vw.w6;refine⟨_,(aB (bA (fU (by rfl) rfl (aU (K:=K) (aV r i rfl aW (aj (rv 0) ak))) (fun _ _ _=>(eO (jJ (aV m i rfl aW (aj (rv 1) (aj (rv 0) ak)))))) (fun _ _ _=>(rv 0))))),?_⟩;refine⟨_,rfl,x,zs,w,rfl,b,fun q H1 a=>?_⟩;obtain⟨xs,ex,j⟩:=a.ls;refine⟨q,rfl,⟨_,SqL.of ex⟩,dD (K:=K) (xs:=cJ zs.length w) (enc:=aC) (bJ (SqL.of ex)) j (small (by rw[gF];lia)) (aP zs w) aC (fun y o u H2 s2 d l c=>?_) (fun y o _ u H2 s2 d l c=>⟨_,rfl,c _ _ (Same.refl _) d⟩) (fun ys H2 s2 k p e=>?_)⟩
  ·exact⟨_,rfl,_,rfl,x,u,zs,w,y,rfl,b.mono (a.same.trans s2),d,_,rfl,c _ (Same.refl _)⟩
  ·exact n p _ ⟨a.same.trans (s2.and e),(a.same.trans s2).free e,.new e k⟩
theorem Z8{f:Addr}{j:FuncData} (F:Fun K "edge" "edge" R4 f j) (T:Txt K mg Z) (C:Df P w K mg base 3 "closed" ["view"] (uV K Z.View eG)) (t:Df P w K mg base 3 "open_near" ["view","cell"] (tu K Z.View aM)) :
  cR P w K mg base (CXE P w) 4 f j ["view"] (uV K Z.View aY):=by
 refine F.rok a3D (fun D H Q E h=>?_) (fun cdv A outer s H D Q E k h=>?_)
 ·obtain⟨x,zs,w,rfl,_⟩:=h;rfl
 ·obtain⟨x,zs,w,rfl,g,v⟩:=h;have I:=gb g.vw;refine⟨_,(aB (bA (fU (by rfl) rfl (aU (K:=K) (aV C k rfl aW (aj (rv 0) ak))) (fun _ _ _=>(eO (bI yS (aN (cQ (K:=K)) rfl T.cO bM (aj (aV t k rfl aW (aj (rv 1) (aj (rv 0) ak))) ak)) aF (cA _)))) (fun _ _ _=>(rv 0))))),?_⟩;refine⟨_,rfl,x,zs,w,rfl,g,fun q H1 a=>?_⟩;obtain⟨xs,ex,m⟩:=a.ls;refine⟨q,rfl,⟨_,SqL.of ex⟩,dD (K:=K) (xs:=eG zs w) (enc:=aC) (bJ (SqL.of ex)) m (small (by lia)) (fun y=>decide (0<(aM zs w y).length)) aC (fun y l u H2 s2 d p b=>?_) (fun y l _ u H2 s2 d p b=>⟨_,rfl,b _ _ (Same.refl _) d⟩) (fun ys H2 s2 n z c=>?_)⟩
  ·refine⟨_,rfl,_,rfl,x,u,zs,w,y,rfl,g.mono (a.same.trans s2),d,dM.mp (cG.mp l).1,fun B G i=>?_⟩;obtain⟨J,r,o⟩:=i.ls;refine .inl ⟨B,_,rfl,.inl (SqL.of r),_,_,rfl,rfl,_,rfl,?_⟩;rw[o.length,aL];have e:decide ((0:Int)<((aM zs w y).length:Nat))=decide (0<(aM zs w y).length):=by congr 1;apply propext;omega
   rw[e];exact b _ i.same
  ·exact v z _ ⟨a.same.trans (s2.and c),(a.same.trans s2).free c,.new c n⟩
theorem a2E{f:Addr}{k:FuncData} (F:Fun K "far" "far" a02 f k) (T:Txt K mg Z) (D:Df P w K mg base 3 "closed" ["view"] (uV K Z.View eG)) (t:Df P w K mg base 3 "open_near" ["view","cell"] (tu K Z.View aM)) :
  cR P w K mg base (CXE P w) 4 f k ["view"] (uV K Z.View nO):=by
 refine F.rok a6H (fun G H Q E h=>?_) (fun cdv A outer s H G Q E g h=>?_)
 ·obtain⟨x,zs,w,rfl,_⟩:=h;rfl
 ·obtain⟨x,zs,w,rfl,i,v⟩:=h;have J:=gb i.vw;have z:=mU g;refine⟨_,(aB (bA (fU (by rfl) rfl (aU (K:=K) (aV D g rfl aW (aj (rv 0) ak))) (fun _ _ _=>(eO (bI (kj.or (jY (K:=K) z)) (aN (cQ (K:=K)) rfl T.cO bM (aj (aV t g rfl aW (aj (rv 1) (aj (rv 0) ak))) ak)) aF (cA _)))) (fun _ _ _=>(rv 0))))),?_⟩;refine⟨_,rfl,x,zs,w,rfl,i,fun q H1 a=>?_⟩;obtain⟨xs,ex,m⟩:=a.ls;refine⟨q,rfl,⟨_,SqL.of ex⟩,dD (K:=K) (xs:=eG zs w) (enc:=aC) (bJ (SqL.of ex)) m (small (by lia)) (fun y=>decide ((aM zs w y).length=0)) aC (fun y l u H2 s2 d p b=>?_) (fun y l _ u H2 s2 d p b=>⟨_,rfl,b _ _ (Same.refl _) d⟩) (fun ys H2 s2 n B c=>?_)⟩
  ·refine⟨_,rfl,_,rfl,x,u,zs,w,y,rfl,i.mono (a.same.trans s2),d,dM.mp (cG.mp l).1,fun C I j=>?_⟩;obtain⟨L,r,o⟩:=j.ls;refine .inl ⟨C,_,rfl,.inl (SqL.of r),.inl ⟨rfl,_,rfl,?_⟩⟩;rw[o.length,aL,wG];have e:decide (((aM zs w y).length:Int)=0)=decide ((aM zs w y).length=0):=by congr 1;apply propext;lia
   rw[e];exact b _ j.same
  ·exact v B _ ⟨a.same.trans (s2.and c),(a.same.trans s2).free c,.new c n⟩
end
theorem Ni:∀ ws:List Str,wH (ws.map Dt.str)=0
 |[]=>rfl
 |w::ws=>by rw[gq];unfold wH;rw[Ni ws];rfl
theorem a1W(ws:List Str):wA (.lst (ws.map Dt.str))<=50:=by unfold wA;rw[Ni];decide
theorem Tz{K:ao}{H:Hp}{p:Addr}{ws:List Str}(h:H p=some (.lst (ws.map V.str))):Den K H (.ref p) (.lst (ws.map Dt.str)):=.lst (SqL.of h) (bf.strs ws)
theorem a5g(zs:List Str)(w:Nat):(bB zs w "#").filter (fun x=>!decide (x∈pq zs w))=nO zs w:=by
 unfold nO;rw[gH];refine tE fun x b=>?_
 have e:pq zs w=aY zs w:=(TQ zs w).symm;rw[e];have m:x∈aY zs w↔0<(aM zs w x).length:=by
  unfold aY;rw[gH,cG,jx];exact⟨fun a=>a.2,fun a=>⟨b,a⟩⟩
 by_cases h:(aM zs w x).length=0
 ·rw[bQ h,cD (fun a=>by have:=m.mp a;lia)];rfl
 ·rw[cD h,bQ (m.mpr (by lia))];rfl
theorem a5c(zs:List Str)(w:Nat):pq zs w=aY zs w:=(TQ zs w).symm
theorem Yd{K:ao}{H:Hp}{xs:List V}{cs:List Cell}{v:V}(b:bf K H xs (cs.map aC))(h:v∈xs):∃ c∈cs,Den K H v (aC c):=by
 obtain⟨i,hi⟩:=List.mem_iff_getElem?.mp h;obtain⟨d,a,dd⟩:=b.get hi;rw[cP] at a;obtain⟨c,e,rfl⟩:=gj.mp a;exact⟨c,eX e,dd⟩
theorem Iv{K:ao}{H:Hp}{m:Cell}:∀ {wt:List Cell} {xs:List V},bf K H xs ((wt++[m]).map aC)->∃ d u,xs=d++[u]/\bf K H d (wt.map aC)/\Den K H u (aC m)
 |[],xs,e=>by
  cases e with
  |cons h t=>
   cases t;exact⟨[],_,rfl,.nil,h⟩
 |c::wt,xs,e=>by
  cases e with
  |cons h t=>
   obtain⟨d,u,rfl,a,b⟩:=Iv (wt:=wt) t;exact⟨_::d,u,rfl,.cons h a,b⟩
theorem Jz{a b:List Cell}(c:a.Pairwise cM)(d:b.Pairwise cM)(e:∀ y,y∈a↔y∈b):a=b:=by
 have pm:a.Perm b:=(KQ (kZ c) (kZ d)).mpr e;refine a1c (le:=cM) (fun x y _ _ c d=>?_) c d pm;unfold cM at c d;lia
def Gq(K:ao)(C:Addr):Sp:=fun vs H Q _=>∃(x:Addr)(v:V)(zs:List Str)(w:Nat)(c:Cell),vs=[.ref x,v]/\ig C H x zs w/\Den K H v (aC c)/\inF zs.length w c/\aP zs w c=false/\Q (.int (dU zs c)) H
section
variable{P:Program}{w:World}{K:ao}{mg:Str->Option Value}{base:Heap}{Z:Adr}
theorem QF{f:Addr}{d:FuncData} (F:Fun K "figure" "figure" Gh f d) (T:Txt K mg Z):cR P w K mg base (CXE P w) 1 f d ["view","cell"] (Gq K Z.View):=by
 refine F.rok Xa (fun p H Q E h=>?_) (fun cdv A outer s H p Q E y h=>?_)
 ·obtain⟨x,v,zs,w,c,rfl,_⟩:=h;rfl
 ·obtain⟨x,v,zs,w,c,rfl,a,b,e,m,n⟩:=h;obtain⟨dx,l,o,g⟩:=a.ob;have i:=a.vw.digit e m;refine⟨_,(aB (bA (kE Ij rfl T.Eo Aa (aj (cB (cL (K:=K)) (cB (cL (K:=K)) (rN (K:=K) (rv 0)) (cB (cL (K:=K)) (rv 1) aF)) (cB (cL (K:=K)) (rv 1) aF)) ak)))),?_⟩;obtain⟨⟨q,r⟩,⟨t,u⟩⟩:=id e;have j:c.1=((c.1.toNat:Nat):Int):=by lia
  have k:c.2=((c.2.toNat:Nat):Int):=by lia
  have i1:c.1.toNat<zs.length:=by lia
  refine⟨_,rfl,x,Z.View,dx,_,_,rfl,o,T.iI,T.je,Qn _ _ _,_,rfl,rW b ?_⟩;rw[j];refine Gb (SqL.of g) i1 ⟨_,rfl,rY b ?_⟩;rw[k];exact z9 (SqL.of g) a.vw.toRect i1 (by lia) ⟨_,rfl,i.1,by lia,n⟩
end
inductive jj(zs:List Str)(w:Nat)(c:Cell):Cell->Prop
 |base:jj zs w c c
 |step {x t y:Cell}:jj zs w c x->t∈aM zs w x->y∈aG zs w t->jj zs w c y
theorem wF{zs:List Str}{w:Nat}{t y:Cell}(h:y∈aG zs w t):inF zs.length w y/\aP zs w y=true:=by
 unfold aG at h;obtain⟨h1,h2⟩:=cG.mp h;exact⟨uH h1,h2⟩
theorem Oe{zs:List Str}{w:Nat}{t y:Cell}(h:y∈aM zs w t):inF zs.length w y:=by
 unfold aM at h;exact uH (cG.mp h).1
theorem jj.inF{zs:List Str}{w:Nat}{c y:Cell}(h0:L2.inF zs.length w c)(r:jj zs w c y):L2.inF zs.length w y:=by
 cases r with
 |base=>exact h0
 |step _ _ h=>exact(wF h).1
def fK(cs:List Cell):List (List Key×V):=cs.map fun c=>(iJ c,V.bl true)
theorem qu(c:Cell):∀ cs:List Cell,wC (fK cs) (iJ c)=if c∈cs then some (.bl true) else none
 |[]=>rfl
 |a::cs=>by
  show wC ((iJ a,V.bl true)::fK cs) (iJ c)=_;by_cases e:a=c
  ·subst e;rw[uY rfl,aK eF]
  ·rw[uX (fun b=>e (Fy b)),qu c cs];by_cases m:c∈cs
   ·rw[aK m,aK (gk _ m)]
   ·rw[aJ m,aJ (fun b=>(dj.mp b).elim (fun q=>e q.symm) m)]
theorem Iw(cs:List Cell)(c:Cell)(a:c∉cs):putK (fK cs) (iJ c) (.bl true)=fK (cs++[c]):=by
 rw[Oi _ (by rw[qu,aJ a])];unfold fK;rw[d9];rfl
structure uh(zs:List Str)(w:Nat)(c:Cell)(fd wt:List Cell):Prop where
 nd:fd.Nodup
 has:c∈fd
 rch:∀ y∈fd,jj zs w c y
 sub:∀ y∈wt,y∈fd
 cl:∀ x∈fd,x∉wt->∀ t∈aM zs w x,∀ y∈aG zs w t,y∈fd
 ln:wt.length<=fd.length
theorem uh.len{zs:List Str}{w:Nat}{c:Cell}{a wt:List Cell}(j:uh zs w c a wt)(h0:inF zs.length w c)(b:zs.length<=6)(e:w<=6):a.length<=36:=by
 have:=mD (l2:=cJ zs.length w) j.nd fun y d=>dM.mpr ((j.rch y d).inF h0)
 rw[gF] at this;have:zs.length*w<=6*6:=lK b e;lia
theorem uh.done{zs:List Str}{w:Nat}{c:Cell}{a:List Cell}(j:uh zs w c a [])(y:Cell):y∈a↔jj zs w c y:=by
 refine⟨j.rch y,fun r=>?_⟩
 induction r with
 |base=>exact j.has
 |step _ b d e=>exact j.cl _ e (by intro f;cases f) _ b _ d
structure JoP(zs:List Str)(w:Nat)(c m:Cell)(fd wt:List Cell)(Dn:Cell->Prop):Prop where
 nd:fd.Nodup
 has:c∈fd
 rch:∀ y∈fd,jj zs w c y
 sub:∀ y∈wt,y∈fd
 hm:m∈fd
 cl:∀ x∈fd,x∉wt->x≠m->∀ t∈aM zs w x,∀ y∈aG zs w t,y∈fd
 ln:wt.length+1<=fd.length
 dn:∀ y,Dn y->y∈fd
theorem JoP.imp{zs:List Str}{w:Nat}{c m:Cell}{a wt:List Cell}{d b:Cell->Prop}(j:JoP zs w c m a wt d)(h:∀ y,b y->y∈a):JoP zs w c m a wt b:=⟨j.nd,j.has,j.rch,j.sub,j.hm,j.cl,j.ln,h⟩
theorem JoP.add{zs:List Str}{w:Nat}{c m y:Cell}{f wt:List Cell}{g:Cell->Prop}(j:JoP zs w c m f wt g)(o:y∉f)(r:jj zs w c y):JoP zs w c m (f++[y]) (wt++[y]) g:=by
 refine⟨zH.mpr ⟨j.nd,by simp,fun a i b k e=>o (by rw[<- dH.mp k,<- e];exact i)⟩,mJ _ j.has,fun x d=>?_,fun x d=>?_,mJ _ j.hm,fun x d h s t l u n=>?_,?_,fun x d=>mJ _ (j.dn x d)⟩
 ·rcases dw.mp d with q|q
  ·exact j.rch x q
  ·rw[dH.mp q];exact r
 ·rcases dw.mp d with q|q
  ·exact mJ _ (j.sub x q)
  ·exact lD _ q
 ·rcases dw.mp d with q|q
  ·exact mJ _ (j.cl x q (fun p=>h (mJ _ p)) s t l u n)
  ·exact absurd (lD _ q) h
 ·have:=j.ln;rw[cH,cH,jC];lia
theorem uh.pop{zs:List Str}{w:Nat}{c m:Cell}{b wt:List Cell}(j:uh zs w c b (wt++[m])):JoP zs w c m b wt (fun _=>False):=by
 refine⟨j.nd,j.has,j.rch,fun y a=>j.sub y (mJ _ a),j.sub m (lD _ (dH.mpr rfl)),fun x d e f=>j.cl x d fun g=>?_,?_,fun y a=>a.elim⟩
 ·rcases dw.mp g with q|q
  ·exact e q
  ·exact f (dH.mp q)
 ·have:=j.ln;rw[cH,jC] at this;exact this
theorem JoP.inv{zs:List Str}{w:Nat}{c m:Cell}{b wt:List Cell}{a:Cell->Prop}(j:JoP zs w c m b wt a)(h:∀ t∈aM zs w m,∀ y∈aG zs w t,a y):uh zs w c b wt:=by
 refine⟨j.nd,j.has,j.rch,j.sub,fun x g i t d y f=>?_,cU (tL _) j.ln⟩;by_cases e:x=m
 ·subst e;exact j.dn y (h t d y f)
 ·exact j.cl x g i e t d y f
theorem JoP.len{zs:List Str}{w:Nat}{c m:Cell}{a wt:List Cell}{b:Cell->Prop}(j:JoP zs w c m a wt b)(h0:inF zs.length w c)(d:zs.length<=6)(f:w<=6):a.length<=36:=by
 have:=mD (l2:=cJ zs.length w) j.nd fun y e=>dM.mpr ((j.rch y e).inF h0)
 rw[gF] at this;have:zs.length*w<=6*6:=lK d f;lia
def Gs(K:ao)(C:Addr):Sp:=fun vs H Q _=>∃(x:Addr)(v:V)(zs:List Str)(w:Nat)(c:Cell),vs=[.ref x,v]/\ig C H x zs w/\Den K H v (aC c)/\inF zs.length w c /\
 ∀(q:Addr)(H':Hp)(ds:List Cell),H q=none->Same H H'->Ls K H' q (ds.map aC)->ds.Pairwise cM->(∀ y,y∈ds↔jj zs w c y)->Q (.ref q) H'
section
variable{P:Program}{w:World}{K:ao}{mg:Str->Option Value}{base:Heap}{Z:Adr}
theorem Wu{f:Addr}{k:FuncData} (F:Fun K "joined" "joined" Gj f k) (T:Txt K mg Z) (b7:Df P w K mg base 3 "open_near" ["view","cell"] (tu K Z.View aM)) (cf:Df P w K mg base 3 "closed_near" ["view","cell"] (tu K Z.View aG)) :
  cR P w K mg base (CXE P w) 4 f k ["view","cell"] (Gs K Z.View):=by
 refine F.rok o9 (fun cs H Q E h=>?_) (fun cdv A outer s H cs Q E a5 h=>?_)
 ·obtain⟨x,v,zs,w,c,rfl,_⟩:=h;rfl
 ·obtain⟨x,v,zs,w,c,rfl,aS,bm,an,ch⟩:=h;have aw:=mU a5;have aX:=aS.vw.le;have aT:=aS.vw.w6;obtain⟨tv,rfl,_,bx⟩:=fJ bm;refine⟨_,(au (aO (i:=2) o9.nd rfl (Or.inl rfl) (a3v aw (rv 1) qH)) (au (aO (i:=3) o9.nd rfl (Or.inl rfl) (bZ (aj (rv 1) ak))) (au (zm dh (bI yS (aN (cQ (K:=K)) rfl T.cO bM (aj (rv 3) ak)) aF (cA _)) (au (aO (i:=4) o9.nd rfl (Or.inl rfl) (a5x (K:=K) lC PySem.F.slot_list_pop PySem.F.type_list_pop a5G (rv 3))) (aB (c7 dh rfl (aU (K:=K) (aV b7 a5 rfl aW (aj (rv 0) (aj (rv 4) ak)))) (aQ (i:=5) o9.nd rfl (Or.inl rfl)) (aB (c7 dh rfl (aU (K:=K) (aV cf a5 rfl aW (aj (rv 0) (aj (rv 5) ak)))) (aQ (i:=6) o9.nd rfl (Or.inl rfl)) (aB (dR (bI (yW aw) (rv 6) (rv 2) (by rfl)) (au (kO qH (Ba (rv 2) (rv 6) (set_dict aw))) (aB (gM (lH (K:=K) lC mG mH dO (rv 3) (aj (rv 6) ak))))) bV)))))))) (aB (bA (aN (a2j (K:=K) rfl aw) rfl T.ur vI (aj (rv 2) ak))))))),?_⟩;refine aD (fun zzs H1=>∃ dd:Addr,H dd=none/\Same H H1/\H1 dd=some (.dT (fK [c]))/\zzs=[zzR x,zzR tv,zzR dd,zzN,zzN,zzN,zzN]) (fun R al=>?_) ?_
  ·refine fun dd nd=>⟨_,rfl,iJ c,tv,aA,rfl,?_,al _ _ ⟨dd,nd,(SameBut.refl dd _).put.of (Same.put nd) nd,aA,rfl⟩⟩
   rw[bG (bL bx nd)];exact bx
  rintro zzs H1 ⟨dd,nd,s1,bn,rfl⟩;refine aD (fun zzs H2=>∃ a:Addr,H a=none/\a≠dd/\Same H1 H2/\H2 a=some (.lst [.ref tv])/\zzs=[zzR x,zzR tv,zzR dd,zzR a,zzN,zzN,zzN]) (fun R al=>?_) ?_
  ·exact⟨_,rfl,sz rfl,fun a ac=>al _ _ ⟨a,s1.free ac,(bL bn ac).symm,Same.put ac,aA,rfl⟩⟩
  rintro zzs H2 ⟨a,ac,ba,s2,cd,rfl⟩;have start:uh zs w c [c] [c]:=⟨by simp,dH.mpr rfl,fun y J=>by rw[dH.mp J];exact .base,fun y J=>J,fun x a7 cp=>absurd a7 cp,bK _⟩
  refine aD (fun zzs aZ=>∃(k:List Cell)(M n g:Option V),Same H aZ/\aZ dd=some (.dT (fK k))/\uh zs w c k []/\zzs=[zzR x,zzR tv,zzR dd,zzR a,M,n,g]) (fun R al=>?_) ?_
  ·refine⟨fun m zzs H'=>∃(k p:List Cell)(M n g:Option V),Same H H'/\H' dd=some (.dT (fK k))/\Ls K H' a (p.map aC)/\uh zs w c k p/\m=(36-k.length)*2+p.length/\zzs=[zzR x,zzR tv,zzR dd,zzR a,M,n,g],
    ⟨_,[c],[c],none,none,none,s1.trans s2,s2 _ _ bn,⟨_,cd,.cons (bm.mono (s1.trans s2)) .nil⟩,start,rfl,rfl⟩,?_⟩
   rintro m zzs H' ⟨k,p,M,n,g,bF,bo,cm,O,rfl,rfl⟩;obtain⟨xs,ex,bd⟩:=id cm;have cn:xs.length=p.length:=by rw[bd.length,aL]
   have ce:=O.len an aX aT;refine⟨_,rfl,.inl ⟨a,_,rfl,.inl (SqL.of ex),_,_,rfl,rfl,_,rfl,?_⟩⟩;refine dW (fun ao=>?_) (fun ao=>?_)
   ·have ao:(0:Int)<(xs.length:Int):=cT ao;obtain⟨p,m,rfl⟩:∃ z m,p=z++[m]:=by
     rcases List.eq_nil_or_concat p with d|⟨l,b,d⟩
     ·rw[d,yp] at cn;lia
     ·exact⟨l,b,by rw[d];simp⟩
    obtain⟨xs,u,rfl,bO,bk⟩:=Iv bd;obtain⟨af,rfl,_,cy⟩:=fJ bk;have co:=O.sub m (lD _ (dH.mpr rfl));have bX:=(O.rch m co).inF an;refine⟨fun bi L=>∃(B z:List Cell)(M n g:Option V),Same H L/\L dd=some (.dT (fK B))/\Ls K L a (z.map aC)/\uh zs w c B z/\(36-B.length)*2+z.length<(36-k.length)*2+(p++[m]).length/\bi=[zzR x,zzR tv,zzR dd,zzR a,M,n,g],fun bi L a7=>?_,?_⟩
    ·obtain⟨B,z,M,n,g,bQ,bR,bS,bT,bU,rfl⟩:=a7;exact⟨_,bU,B,z,M,n,g,bQ,bR,bS,bT,rfl,rfl⟩
    refine aD (fun zzs L=>Same H L/\L dd=some (.dT (fK k))/\Ls K L a (p.map aC)/\Den K L (.ref af) (aC m)/\zzs=[zzR x,zzR tv,zzR dd,zzR a,zzR af,n,g]) (fun bP a3=>?_) ?_
    ·refine⟨_,rfl,.inl ⟨rfl,_,SqL.of ex⟩,a,_,V.ref af,rfl,rfl,ex,(by simp),?_⟩;rw[List.dropLast_concat];have C:SameBut a H' (upd H' a (.lst xs)):=(SameBut.refl a _).put;exact a3 _ _ ⟨C.of bF ac,C _ _ bo ba.symm,⟨xs,aA,C.cells ex bO⟩,C.cell ex bk,rfl⟩
    rintro zzs L ⟨bb,b9,bB,b4,rfl⟩;have b1:(p++[m]).length=p.length+1:=by rw[cH,jC]
    refine⟨_,rfl,_,rfl,x,_,zs,w,m,rfl,aS.mono bb,b4,bX,fun ae ct ab=>?_⟩;obtain⟨X,bs,bg⟩:=ab.ls;have cB:=yX zs w m;refine⟨ae,rfl,⟨_,SqL.of bs⟩,?_⟩;have cD:H ae=none:=bb.free ab.new;refine cN (K:=K) (xs:=X) (fun i zzs S=>∃(B z:List Cell)(n g:Option V),Same H S/\S ae=some (.lst X)/\bf K S X ((aM zs w m).map aC)/\S dd=some (.dT (fK B))/\Ls K S a (z.map aC)/\JoP zs w c m B z (fun y=>∃ t∈(aM zs w m).take i,y∈aG zs w t)/\(36-B.length)*2+z.length<=(36-k.length)*2+p.length/\zzs=[zzR x,zzR tv,zzR dd,zzR a,zzR af,n,g])
     ⟨k,p,n,g,bb.trans ab.same,bs,bg,ab.same _ _ b9,bB.mono ab.same,O.pop.imp (fun y J=>by obtain⟨t,a6,_⟩:=J;cases a6),bK _,rfl⟩ (fun i zzs S _ I=>by obtain⟨_,_,_,_,_,e,_⟩:=I;exact SqL.of e) (fun i u zzs S cj I=>?_) (fun zzs S I=>?_)
    ·obtain⟨a2,bc,n,g,aI,bt,aY,a1,ay,ax,bC,rfl⟩:=I;obtain⟨cw,bp,b5⟩:=aY.get cj;rw[cP] at bp;obtain⟨t,bu,rfl⟩:=gj.mp bp;have bh:t∈aM zs w m:=eX bu;refine⟨_,rfl,_,rfl,x,_,zs,w,t,rfl,aS.mono aI,b5,Oe bh,fun aE cu aa=>?_⟩;obtain⟨ad,br,be⟩:=aa.ls;refine⟨aE,rfl,⟨_,SqL.of br⟩,?_⟩;have ck:ad.length=(aG zs w t).length:=by rw[be.length,aL]
     refine cN (K:=K) (xs:=ad) (fun j zzs r=>∃(B z:List Cell)(g:Option V),Same H r/\r ae=some (.lst X)/\bf K r X ((aM zs w m).map aC)/\r aE=some (.lst ad)/\bf K r ad ((aG zs w t).map aC)/\r dd=some (.dT (fK B))/\Ls K r a (z.map aC)/\JoP zs w c m B z (fun y=>(∃ t∈(aM zs w m).take i,y∈aG zs w t)\/y∈(aG zs w t).take j)/\(36-B.length)*2+z.length<=(36-k.length)*2+p.length/\zzs=[zzR x,zzR tv,zzR dd,zzR a,zzR af,some u,g])
      ⟨a2,bc,g,aI.trans aa.same,aa.same _ _ bt,aY.mono aa.same,br,be,aa.same _ _ a1,ay.mono aa.same,ax.imp (fun y J=>J.elim (ax.dn y) (fun d=>by cases d)),bC,rfl⟩ (fun j zzs r _ I=>by obtain⟨_,_,_,_,_,_,e,_⟩:=I;exact SqL.of e) (fun j o zzs r cg I=>?_) (fun zzs r I=>?_)
     ·obtain⟨N,ah,g,aP,ai,ar,av,aq,U,az,D,a9,rfl⟩:=I;obtain⟨cx,bq,bj⟩:=aq.get cg;rw[cP] at bq;obtain⟨y,bv,rfl⟩:=gj.mp bq;have b2:y∈aG zs w t:=eX bv;obtain⟨ty,rfl,_,ci⟩:=fJ bj;have key:r ty=some (.tup ((iJ y).map kV)):=ci;have cv:=D.len an aX aT;have step:∀ d,(∃ t∈(aM zs w m).take i,d∈aG zs w t)\/d∈(aG zs w t).take (j+1)->((∃ t∈(aM zs w m).take i,d∈aG zs w t)\/d∈(aG zs w t).take j)\/d=y:=fun d ap=>by
       rcases ap with q|q
       ·exact .inl (.inl q)
       ·rw[iB,bv] at q;rcases dw.mp q with q|q
        ·exact .inl (.inr q)
        ·exact .inr (dH.mp q)
      refine⟨_,rfl,_,rfl,dd,_,rfl,zJ.t U key,_,rfl,?_⟩;rw[qu];by_cases am:y∈N
      ·rw[aK am];exact uG ⟨N,ah,_,aP,ai,ar,av,aq,U,az,D.imp (fun d ap=>(step d ap).elim (D.dn d) (fun e=>by rw[e];exact am)),a9,rfl⟩
      ·rw[aJ am];refine Fx ?_;have bz:=D.add am (.step (D.rch m D.hm) bh b2);have bW:=bz.len an aX aT;rw[cH,jC] at bW;refine aD (fun zzs G=>Same H G/\G ae=some (.lst X)/\bf K G X ((aM zs w m).map aC)/\G aE=some (.lst ad)/\bf K G ad ((aG zs w t).map aC)/\G dd=some (.dT (fK (N++[y])))/\Ls K G a (ah.map aC)/\Den K G (.ref ty) (aC y)/\zzs=[zzR x,zzR tv,zzR dd,zzR a,zzR af,some u,zzR ty]) (fun bP a3=>?_) ?_
       ·refine⟨_,rfl,_,rfl,dd,_,rfl,Mf.t U key (ltl (by unfold fK;rw[aL];lia)),?_⟩;rw[Iw N y am];have aH:SameBut dd r (upd r dd (.dT (fK (N++[y])))):=(SameBut.refl dd _).put;have aR:Hy r (upd r dd (.dT (fK (N++[y])))):=.put U (by intro xs d;cases d);obtain⟨ag,W,as⟩:=az;exact a3 _ _ ⟨aH.of aP nd,aH _ _ ai (qF ai U (by intro d;cases d)),aR.cells ar,aH _ _ av (qF av U (by intro d;cases d)),aR.cells aq,aA,⟨ag,aH _ _ W ba,aR.cells as⟩,aR.cell bj,rfl⟩
       rintro zzs G ⟨cq,cc,bN,cb,bJ,ca,⟨ag,W,as⟩,b6,rfl⟩;have cC:ag.length=ah.length:=by rw[as.length,aL]
       have cz:=D.ln;have bY:ae≠a:=fun d=>by
        have Y:=ab.new;rw[d] at Y;obtain⟨_,a0,_⟩:=bB;rw[a0] at Y;cases Y
       have b0:aE≠a:=fun d=>by
        have Y:=aa.new;rw[d] at Y;obtain⟨_,a0,_⟩:=ay;rw[a0] at Y;cases Y
       refine⟨_,rfl,.inl ⟨rfl,_,SqL.of W⟩,_,rfl,a,ag,_,rfl,rfl,W,ltl (by lia),?_⟩;have C:SameBut a G (upd G a (.lst (ag++[V.ref ty]))):=(SameBut.refl a _).put;refine⟨N++[y],ah++[y],_,C.of cq ac,C _ _ cc bY,C.cells W bN,C _ _ cb b0,C.cells W bJ,C _ _ ca ba.symm,⟨_,aA,?_⟩,bz.imp (fun d ap=>(step d ap).elim (fun q=>mJ _ (D.dn d q)) (fun e=>lD _ (dH.mpr e))),?_,rfl⟩
       ·rw[d9];exact(C.cells W as).append (.cons (C.cell W b6) .nil)
       ·rw[cH,cH,jC];lia
     ·obtain⟨N,ah,g,aP,ai,ar,av,aq,U,az,D,a9,rfl⟩:=I;refine⟨N,ah,_,g,aP,ai,ar,U,az,D.imp (fun y J=>?_),a9,rfl⟩;obtain⟨cr,bw,a8⟩:=J;rw[iB,bu] at bw;rcases dw.mp bw with q|q
      ·exact D.dn y (.inl ⟨cr,q,a8⟩)
      ·rw[dH.mp q] at a8;exact D.dn y (.inr (by rw[ck,gP];exact a8))
    ·obtain⟨a2,bc,n,g,aI,bt,aY,a1,ay,ax,bC,rfl⟩:=I;have cl:X.length=(aM zs w m).length:=by rw[bg.length,aL]
     refine⟨a2,bc,_,n,g,aI,a1,ay,ax.inv fun t a6 y J=>⟨t,by rw[cl,gP];exact a6,J⟩,by rw[b1];lia,rfl⟩
   ·have ao:¬(0:Int)<(xs.length:Int):=iW ao;have:p=[]:=Rq.mp (by lia);subst this;exact al _ _ ⟨k,M,n,g,bF,bo,O,rfl⟩
  rintro zzs aZ ⟨k,M,n,g,bE,b8,O,rfl⟩;have ce:=O.len an aX aT;refine⟨_,rfl,dd,k,fun _=>.bl true,rfl,b8,by lia,fun l ag ds a4 bH bD b3=>?_⟩;exact ch l _ ds (bE.free a4) (bE.and a4) (.new a4 bH) (PN b3 (bD.nodup_iff.mpr O.nd)) fun y=>by rw[bD.mem_iff];exact O.done y
end
open Classical in
noncomputable def dJ(zs:List Str)(w:Nat)(c:Cell):List Cell:=(cJ zs.length w).filter fun y=>decide (jj zs w c y)
open Classical in
theorem fO{zs:List Str}{w:Nat}{c y:Cell}(h0:inF zs.length w c):y∈dJ zs w c↔jj zs w c y:=by
 unfold dJ;rw[cG,dM,jx];exact⟨fun h=>h.2,fun h=>⟨h.inF h0,h⟩⟩
open Classical in
theorem o7{zs:List Str}{w:Nat}{c:Cell}(a:zs.length<=6)(b:w<=6):(dJ zs w c).Pairwise cM:=by
 unfold dJ;exact(Iz zs.length (fP.mpr (by lia)) w (fP.mpr (by lia))).filter _
open Classical in
noncomputable def gK(zs:List Str)(w:Nat):List Cell->List (List Cell)->List (List Cell)
 |[],ps=>ps
 |c::cs,ps=>if ∃ p∈ps,c∈p then gK zs w cs ps else gK zs w cs (ps++[dJ zs w c])
noncomputable def bx(zs:List Str)(w:Nat):List (List Cell):=gK zs w (aY zs w) []
theorem Nj(cs:List Cell)(c:Cell)(b:c∈cs):putK (fK cs) (iJ c) (.bl true)=fK cs:=by
 unfold putK;have h1:((fK cs).any fun d=>decide (d.1=iJ c))=true:=by
  rw[uW,qu,aK b];rfl
 rw[aK h1];unfold fK;rw[lF];refine BP fun a _=>?_
 show(if iJ a=iJ c then(iJ a,V.bl true) else(iJ a,V.bl true))=(iJ a,V.bl true);by_cases e:iJ a=iJ c
 ·rw[aK e]
 ·rw[aJ e]
structure pQ(K:ao)(H0 H:Hp)(q:Addr)(qs:List Addr)(ps:List (List Cell)):Prop where
 at_:H q=some (.lst (qs.map V.ref))
 len:qs.length=ps.length
 ls:∀(i:Nat)(a:Addr)(p:List Cell),qs[i]?=some a->ps[i]?=some p->Ls K H a (p.map aC)
 new:∀ a∈qs,H0 a=none
 nd:qs.Nodup
 nq:q∉qs
theorem pQ.mono{K:ao}{H0 H H':Hp}{q:Addr}{d:List Addr}{b:List (List Cell)}(p:pQ K H0 H q d b)(s:Same H H'):pQ K H0 H' q d b:=⟨s _ _ p.at_,p.len,fun i a c h1 h2=>(p.ls i a c h1 h2).mono s,p.new,p.nd,p.nq⟩
theorem pQ.snoc{K:ao}{H0 H:Hp}{q a:Addr}{f:List Addr}{k:List (List Cell)}{g:List Cell}(p:pQ K H0 H q f k)(r:Ls K H a (g.map aC))(t:H0 a=none)(s:a∉f)(j:a≠q):pQ K H0 (upd H q (.lst (f.map V.ref++[.ref a]))) q (f++[a]) (k++[g]):=by
 have l:SameBut q H (upd H q (.lst (f.map V.ref++[.ref a]))):=(SameBut.refl q _).put;refine⟨by rw[aA,d9];rfl,by rw[cH,cH,p.len];rfl,fun i b c h1 h2=>?_,fun b m=>?_,?_,fun d=>?_⟩
 ·by_cases hi:i<f.length
  ·rw[Bx hi] at h1;rw[Bx (by rw[<- p.len];exact hi)] at h2;exact l.ls p.at_ (fun d=>p.nq (by rw[<- d];exact eX h1)) (p.ls i b c h1 h2)
  ·rw[Hu (by lia)] at h1;rw[Hu (by rw[<- p.len];lia)] at h2;have h:i-f.length=0:=by
    by_cases d:i-f.length=0
    ·exact d
    ·rw[Dk (by rw[jC];lia)] at h1;cases h1
   rw[h] at h1;rw[<- p.len,h] at h2;cases h1;cases h2;exact l.ls p.at_ j r
 ·rcases dw.mp m with d|d
  ·exact p.new b d
  ·rw[dH.mp d];exact t
 ·exact zH.mpr ⟨p.nd,by simp,fun x n y o e=>s (by rw[<- dH.mp o,<- e];exact n)⟩
 ·rcases dw.mp d with y|y
  ·exact p.nq y
  ·exact j (dH.mp y).symm
def V5(K:ao)(C:Addr):Sp:=fun vs H Q _=>∃(x:Addr)(zs:List Str)(w:Nat),vs=[.ref x]/\ig C H x zs w /\
 ∀(q:Addr)(qs:List Addr)(H':Hp),H q=none->Same H H'->pQ K H H' q qs (bx zs w)->Q (.ref q) H'
section
variable{P:Program}{w:World}{K:ao}{mg:Str->Option Value}{base:Heap}{Z:Adr}
theorem Z7{f:Addr}{a5:FuncData} (F:Fun K "parts" "parts" Kr f a5) (T:Txt K mg Z) (bT:Df P w K mg base 4 "edge" ["view"] (uV K Z.View aY)) (bM:Df P w K mg base 4 "joined" ["view","cell"] (Gs K Z.View)) :
  cR P w K mg base (CXE P w) 5 f a5 ["view"] (V5 K Z.View):=by
 refine F.rok qL (fun bP H Q E h=>?_) (fun cdv A outer s H bP Q E aI h=>?_)
 ·obtain⟨x,zs,w,rfl,_⟩:=h;rfl
 ·obtain⟨x,zs,w,rfl,al,bt⟩:=h;have a7:=mU aI;have bc:=al.vw.le;have bb:=al.vw.w6;refine⟨_,(au (aO (i:=1) qL.nd rfl (Or.inl rfl) (bZ ak)) (au (aO (i:=2) qL.nd rfl (Or.inl rfl) Uv) (au (c7 dh rfl (aU (K:=K) (aV bT aI rfl aW (aj (rv 0) ak))) (aQ (i:=3) qL.nd rfl (Or.inl rfl)) (aB (dR (bI (yW a7) (rv 3) (rv 2) (by rfl)) (au (aO (i:=4) qL.nd rfl (Or.inl rfl) (aV bM aI rfl aW (aj (rv 0) (aj (rv 3) ak)))) (au (gM (lH (K:=K) lC mG mH dO (rv 1) (aj (rv 4) ak))) (aB (c7 dh rfl (aU (K:=K) (rv 4)) (aQ (i:=5) qL.nd rfl (Or.inl rfl)) (aB (kO qH (Ba (rv 2) (rv 5) (set_dict a7)))))))) bV))) (aB (bA (rv 1)))))),?_⟩;refine aD (fun zzs H1=>∃ q:Addr,H q=none/\Same H H1/\H1 q=some (.lst [])/\zzs=[zzR x,zzR q,zzN,zzN,zzN,zzN]) (fun R ac=>?_) ?_
  ·exact⟨by decide,fun q af=>ac _ _ ⟨q,af,Same.put af,aA,rfl⟩⟩
  rintro zzs H1 ⟨q,af,s1,aF,rfl⟩;refine aD (fun zzs H2=>∃ dd:Addr,H dd=none/\dd≠q/\Same H1 H2/\H2 dd=some (.dT (fK []))/\zzs=[zzR x,zzR q,zzR dd,zzN,zzN,zzN]) (fun R ac=>?_) ?_
  ·exact fun dd nd=>ac _ _ ⟨dd,s1.free nd,(bL aF nd).symm,Same.put nd,aA,rfl⟩
  rintro zzs H2 ⟨dd,nd,ba,s2,bo,rfl⟩;refine aD (fun zzs an=>∃(n:List Addr)(U M l:Option V),Same H an/\pQ K H an q n (bx zs w)/\zzs=[zzR x,zzR q,zzR dd,U,M,l]) (fun R ac=>?_) ?_
  ·refine⟨_,rfl,x,zs,w,rfl,al.mono (s1.trans s2),fun O an X=>?_⟩;obtain⟨cs,aZ,aS⟩:=X.ls;have bC:cs.length=(aY zs w).length:=by rw[aS.length,aL]
   refine⟨O,rfl,⟨_,SqL.of aZ⟩,?_⟩;have b3:H O=none:=(s1.trans s2).free X.new;refine cN (K:=K) (xs:=cs) (fun i zzs z=>∃(n:List Addr)(ps:List (List Cell))(v:List Cell)(U M l:Option V),Same H z/\z O=some (.lst cs)/\bf K z cs ((aY zs w).map aC)/\pQ K H z q n ps/\z dd=some (.dT (fK v))/\v.Nodup/\(∀ y,y∈v↔∃ p∈ps,y∈p)/\(∀ y∈v,inF zs.length w y)/\gK zs w ((aY zs w).drop i) ps=bx zs w/\O≠q/\ps.length<=i/\zzs=[zzR x,zzR q,zzR dd,U,M,l])
    ⟨[],[],[],none,none,none,s1.trans (s2.trans X.same),aZ,aS,⟨X.same _ _ (s2 _ _ aF),rfl,fun i a p h=>(by cases h),fun a aH=>(by cases aH),Cu,fun d=>(by cases d)⟩,X.same _ _ bo,Cu,fun y=>⟨fun d=>(by cases d),fun⟨p,D,_⟩=>(by cases D)⟩,fun y m=>(by cases m),rfl,fun d=>(by have:=X.new;rw[d,s2 _ _ aF] at this;cases this),bK _,rfl⟩
    (fun i zzs z _ B=>by obtain⟨_,_,_,_,_,_,_,e,_⟩:=B;exact SqL.of e) (fun i u zzs z bw B=>?_) (fun zzs z B=>?_)
   ·obtain⟨n,ps,v,U,M,l,aa,ay,am,G,ar,aN,ab,aM,C,ao,bE,rfl⟩:=B;obtain⟨bW,a0,aX⟩:=am.get bw;rw[cP] at a0;obtain⟨c,az,rfl⟩:=gj.mp a0;have bj:c∈aY zs w:=eX az;have ap:inF zs.length w c:=dM.mp (cG.mp (cG.mp bj).1).1;obtain⟨tc,rfl,_,bu⟩:=fJ aX;have key:z tc=some (.tup ((iJ c).map kV)):=bu;have b0:i<36:=by
     have h1:=(gO.mp az).1;have h2:(aY zs w).length<=(eG zs w).length:=gW _ _;have bY:=gb al.vw;lia
    have bm:(aY zs w).drop i=c::(aY zs w).drop (i+1):=by
     have h1:=(gO.mp az)
     rw[zF h1.1,h1.2]
    rw[bm] at C;refine⟨_,rfl,_,rfl,dd,_,rfl,zJ.t ar key,_,rfl,?_⟩;rw[qu];by_cases D:c∈v
    ·rw[aK D];unfold gK at C;rw[aK ((ab c).mp D)] at C;exact uG ⟨n,ps,v,_,M,l,aa,ay,am,G,ar,aN,ab,aM,C,ao,by lia,rfl⟩
    rw[aJ D];unfold gK at C;rw[aJ (fun d=>D ((ab c).mpr d))] at C;refine Fx ?_;refine aD (fun zzs W=>∃ a:Addr,z a=none/\Same z W/\Ls K W a ((dJ zs w c).map aC)/\zzs=[zzR x,zzR q,zzR dd,zzR tc,zzR a,l]) (fun bg aG=>?_) ?_
    ·refine⟨_,rfl,_,rfl,x,_,zs,w,c,rfl,al.mono aa,aX,ap,fun a W ds L S ad bk bF=>?_⟩;have e:ds=dJ zs w c:=Jz bk (o7 bc bb) fun y=>by rw[bF y,fO ap]
     rw[e] at ad;exact aG _ _ ⟨a,L,S,ad,rfl⟩
    rintro zzs W ⟨a,L,S,ad,rfl⟩;have ag:=G.mono S;have bH:H a=none:=aa.free L;have a9:a≠q:=fun d=>by rw[d] at L;rw[G.at_] at L;cases L
    have bi:a∉n:=fun d=>by
     obtain⟨j,a6⟩:=tU d;have br:j<ps.length:=by rw[<- G.len];exact(gO.mp a6).1
     obtain⟨_,e,_⟩:=G.ls j a ps[j] a6 (by simp[br]);rw[e] at L;cases L
    have bU:dd≠q:=ba;have b2:n.length<=36:=by rw[G.len];lia
    refine aD (fun zzs N=>Same H N/\N O=some (.lst cs)/\bf K N cs ((aY zs w).map aC)/\pQ K H N q (n++[a]) (ps++[dJ zs w c])/\Ls K N a ((dJ zs w c).map aC)/\N dd=some (.dT (fK v))/\zzs=[zzR x,zzR q,zzR dd,zzR tc,zzR a,l]) (fun bg aG=>?_) ?_
    ·refine⟨_,rfl,.inl ⟨rfl,_,SqL.of ag.at_⟩,_,rfl,q,_,_,rfl,rfl,ag.at_,ltl (by rw[aL];lia),?_⟩;have ah:SameBut q W (upd W q (.lst (n.map V.ref++[V.ref a]))):=(SameBut.refl q _).put;exact aG _ _ ⟨ah.of (aa.trans S) af,ah _ _ (S _ _ ay) ao,ah.cells ag.at_ (am.mono S),ag.snoc ad bH bi a9,ah.ls ag.at_ a9 ad,ah _ _ (S _ _ ar) ba,rfl⟩
    rintro zzs N ⟨bO,bn,bd,bJ,bB,bp,rfl⟩;obtain⟨Y,a2,aT⟩:=id bB;have bD:Y.length=(dJ zs w c).length:=by rw[aT.length,aL]
    refine⟨_,rfl,a,rfl,⟨_,SqL.of a2⟩,?_⟩;refine cN (K:=K) (xs:=Y) (fun j zzs g=>∃(k:List Cell)(l:Option V),Same H g/\g O=some (.lst cs)/\bf K g cs ((aY zs w).map aC)/\pQ K H g q (n++[a]) (ps++[dJ zs w c])/\g a=some (.lst Y)/\bf K g Y ((dJ zs w c).map aC)/\g dd=some (.dT (fK k))/\k.Nodup/\(∀ y,y∈k↔(y∈v\/y∈(dJ zs w c).take j))/\(∀ y∈k,inF zs.length w y)/\zzs=[zzR x,zzR q,zzR dd,zzR tc,zzR a,l])
     ⟨v,l,bO,bn,bd,bJ,a2,aT,bp,aN,fun y=>⟨.inl,fun d=>d.elim id (fun d=>by cases d)⟩,aM,rfl⟩ (fun j zzs g _ B=>by obtain⟨_,_,_,_,_,_,e,_⟩:=B;exact SqL.of e) (fun j o zzs g bs B=>?_) (fun zzs g B=>?_)
    ·obtain⟨k,l,aP,aq,av,I,aE,aw,J,ae,ax,as,rfl⟩:=B;obtain⟨bX,a1,bl⟩:=aw.get bs;rw[cP] at a1;obtain⟨y,a4,rfl⟩:=gj.mp a1;obtain⟨ty,rfl,_,bv⟩:=fJ bl;have bh:g ty=some (.tup ((iJ y).map kV)):=bv;have bS:y∈dJ zs w c:=eX a4;have bR:inF zs.length w y:=((fO ap).mp bS).inF ap;have b1:k.length<=36:=by
      have:=mD (l2:=cJ zs.length w) ae fun y m=>dM.mpr (as y m)
      rw[gF] at this;have:zs.length*w<=6*6:=lK bc bb;lia
     have tk:∀ d,d∈(dJ zs w c).take (j+1)↔(d∈(dJ zs w c).take j\/d=y):=fun d=>by
      rw[iB,a4,dw];simp
     refine⟨_,rfl,_,rfl,dd,_,rfl,Mf.t J bh (ltl (by unfold fK;rw[aL];lia)),?_⟩;have mk:∀ r:List Cell,r.Nodup->(∀ d,d∈r↔(d∈k\/d=y))->∃(k:List Cell)(l:Option V),Same H (upd g dd (.dT (fK r)))/\(upd g dd (.dT (fK r))) O=some (.lst cs)/\bf K (upd g dd (.dT (fK r))) cs ((aY zs w).map aC)/\pQ K H (upd g dd (.dT (fK r))) q (n++[a]) (ps++[dJ zs w c])/\(upd g dd (.dT (fK r))) a=some (.lst Y)/\bf K (upd g dd (.dT (fK r))) Y ((dJ zs w c).map aC)/\(upd g dd (.dT (fK r))) dd=some (.dT (fK k))/\k.Nodup/\(∀ y,y∈k↔(y∈v\/y∈(dJ zs w c).take (j+1)))/\(∀ y∈k,inF zs.length w y)/\[some (V.ref x),some (.ref q),some (.ref dd),some (.ref tc),some (.ref a),some (.ref ty)]=[zzR x,zzR q,zzR dd,zzR tc,zzR a,l]:=fun r bG a8=>by
      have ai:SameBut dd g (upd g dd (.dT (fK r))):=(SameBut.refl dd _).put;have aR:Hy g (upd g dd (.dT (fK r))):=.put J (by intro xs d;cases d);refine⟨r,_,ai.of aP nd,ai _ _ aq (qF aq J (by intro d;cases d)),aR.cells av,⟨ai _ _ I.at_ (qF I.at_ J (by intro d;cases d)),I.len,fun i b p h1 h2=>?_,I.new,I.nd,I.nq⟩,ai _ _ aE (qF aE J (by intro d;cases d)),aR.cells aw,aA,bG,fun d=>?_,fun d bz=>?_,rfl⟩
      ·obtain⟨bQ,a3,be⟩:=I.ls i b p h1 h2;exact⟨bQ,ai _ _ a3 (qF a3 J (by intro d;cases d)),aR.cells be⟩
      ·rw[a8 d,ax d,tk d,or_assoc]
      ·rcases(a8 d).mp bz with q|q
       ·exact as d q
       ·rw[q];exact bR
     by_cases m:y∈k
     ·rw[Nj k y m];exact mk k ae fun d=>⟨.inl,fun q=>q.elim id (fun e=>by rw[e];exact m)⟩
     ·rw[Iw k y m];refine mk (k++[y]) (zH.mpr ⟨ae,by simp,fun a aH b bq e=>m (by rw[<- dH.mp bq,<- e];exact aH)⟩) fun d=>?_
      rw[dw,dH]
    ·obtain⟨k,l,aP,aq,av,I,aE,aw,J,ae,ax,as,rfl⟩:=B;refine⟨n++[a],ps++[dJ zs w c],k,_,_,l,aP,aq,av,I,J,ae,fun y=>?_,as,C,ao,by rw[cH,jC];lia,rfl⟩;rw[ax y,bD,gP,ab y];constructor
     ·rintro(⟨p,D,m⟩|m)
      ·exact⟨p,mJ _ D,m⟩
      ·exact⟨_,lD _ (dH.mpr rfl),m⟩
     ·rintro⟨p,D,m⟩;rcases dw.mp D with d|d
      ·exact .inl ⟨p,d,m⟩
      ·rw[dH.mp d] at m;exact .inr m
   ·obtain⟨n,ps,v,U,M,l,aa,ay,am,G,ar,aN,ab,aM,C,ao,bE,rfl⟩:=B;rw[bC,Sg] at C;have e:ps=bx zs w:=C;exact ac _ _ ⟨n,U,M,l,aa,by rw[<- e];exact G,rfl⟩
  rintro zzs an ⟨n,U,M,l,bN,G,rfl⟩;exact⟨_,rfl,bt q n _ af bN G⟩
end
theorem Z1:∀ d∈offs,(-d.1,-d.2)∈offs:=by decide
theorem o8{h w:Int}{x y:Cell}(a:y∈bU h w x)(c:inF h w x):x∈bU h w y:=by
 unfold bU at a ⊢;obtain⟨h1,_⟩:=cG.mp a;obtain⟨d,b,rfl⟩:=cW.mp h1;refine cG.mpr ⟨cW.mpr ⟨_,Z1 d b,?_⟩,bQ c⟩;exact nD (by show x.1+d.1 + -d.1=x.1;lia) (by show x.2+d.2 + -d.2=x.2;lia)
theorem qG{zs:List Str}{w:Nat}{x:Cell}:x∈aY zs w↔aP zs w x=true/\∃ t,t∈aM zs w x:=by
 unfold aY;rw[cG,gH,Vs,jx];refine Sv fun _=>?_
 constructor
 ·intro h;cases e:aM zs w x with
  |nil=>rw[e] at h;exact absurd h (oX _)
  |cons t b=>exact⟨t,eF⟩
 ·rintro⟨t,a⟩;exact a1j a
theorem jB{zs:List Str}{w:Nat}{x:Cell}(h:x∈aY zs w):inF zs.length w x:=by
 have:=(qG.mp h).1;unfold aP at this;rw[mK] at this;exact cT this.1
theorem Ay{zs:List Str}{w:Nat}(a:zs.length<=6)(b:w<=6):(aY zs w).Pairwise cM:=by
 unfold aY eG;exact((Iz zs.length (fP.mpr (by lia)) w (fP.mpr (by lia))).filter _).filter _
theorem tO{zs:List Str}{w:Nat}{t y:Cell}(b:inF zs.length w t)(c:aP zs w t=false)(a:y∈aG zs w t):y∈aY zs w:=by
 unfold aG at a;obtain⟨h1,h2⟩:=cG.mp a;refine qG.mpr ⟨h2,t,?_⟩;unfold aM;exact cG.mpr ⟨o8 h1 b,by rw[c];rfl⟩
theorem gR{zs:List Str}{w:Nat}{x t:Cell}(h:t∈aM zs w x):inF zs.length w t/\aP zs w t=false/\t∈bU zs.length w x:=by
 unfold aM at h;obtain⟨h1,h2⟩:=cG.mp h;exact⟨uH h1,by simpa using h2,h1⟩
theorem jj.trans{zs:List Str}{w:Nat}{a b c:Cell}(e:jj zs w a b)(f:jj zs w b c):jj zs w a c:=by
 induction f with
 |base=>exact e
 |step _ h1 h2 d=>exact .step d h1 h2
theorem jj.Um{zs:List Str}{w:Nat}{t x y:Cell}(a:L2.inF zs.length w t)(b:aP zs w t=false)(c:x∈bU zs.length w t)(d:y∈bU zs.length w t)(cy:aP zs w y=true):jj zs w x y:=by
 refine .step .base (t:=t) ?_ ?_
 ·unfold aM;exact cG.mpr ⟨o8 c a,by rw[b];rfl⟩
 ·unfold aG;exact cG.mpr ⟨d,cy⟩
theorem jj.symm{zs:List Str}{w:Nat}{a b:Cell}(f:aP zs w a=true)(i:L2.inF zs.length w a)(r:jj zs w a b):jj zs w b a:=by
 induction r with
 |base=>exact .base
 |@step x t y d g c j=>
  obtain⟨k,e,tx⟩:=gR g;have l:=d.inF i;have cx:aP zs w x=true:=by
   cases d with
   |base=>exact f
   |step _ _ h=>exact(wF h).2
  unfold aG at c;obtain⟨h1,h2⟩:=cG.mp c;exact(jj.Um k e h1 (o8 tx l) cx).trans j
theorem jj.edge{zs:List Str}{w:Nat}{a b:Cell}(d:a∈aY zs w)(r:jj zs w a b):b∈aY zs w:=by
 cases r with
 |base=>exact d
 |step _ e f=>
  obtain⟨g,c,_⟩:=gR e;exact tO g c f
def nmS(E:List Cell)(nm:Cell->Int)(ns:List Cell):List Int:=(ns.filter fun c=>decide (c∈E)).map nm
theorem a2v{E:List Cell}{nm:Cell->Int}{ns:List Cell}{m:Int}:m∈nmS E nm ns↔∃ c∈E,c∈ns/\nm c=m:=by
 unfold nmS;rw[cW];constructor
 ·rintro⟨c,a,e⟩;obtain⟨h1,h2⟩:=cG.mp a;exact⟨c,cT h2,h1,e⟩
 ·rintro⟨c,h1,h2,e⟩;exact⟨c,cG.mpr ⟨h2,bQ h1⟩,e⟩
structure Names(zs:List Str)(w:Nat)(E:List Cell)(dn:Cell->Prop)(nm:Cell->Int):Prop where
 snd:∀ c∈E,∀ d∈E,nm c=nm d->jj zs w c d
 cpl:∀ t,dn t->∀ c∈E,∀ d∈E,c∈bU zs.length w t->d∈bU zs.length w t->nm c=nm d
 ldr:∀ c∈E,∃(i:Nat)(d:Cell),E[i]?=some d/\nm c=i/\nm d=i
 low:∀(i:Nat)(d:Cell),E[i]?=some d->nm d<=i
def mrg(S:List Int)(M:Int)(nm:Cell->Int):Cell->Int:=fun c=>if nm c∈S then M else nm c
theorem Names.step{zs:List Str}{w:Nat}{p:Cell->Prop}{nm:Cell->Int}{t:Cell}{M:Int}(N:Names zs w (aY zs w) p nm)(C:inF zs.length w t)(to:aP zs w t=false)
  (q:nmS (aY zs w) nm (bU zs.length w t)≠[]->M∈nmS (aY zs w) nm (bU zs.length w t)/\∀ a∈nmS (aY zs w) nm (bU zs.length w t),M<=a) :
  Names zs w (aY zs w) (fun u=>p u\/u=t) (mrg (nmS (aY zs w) nm (bU zs.length w t)) M nm):=by
 generalize z:nmS (aY zs w) nm (bU zs.length w t)=S at q;have mem:∀ m,m∈S↔∃ c∈aY zs w,c∈bU zs.length w t/\nm c=m:=fun m=>by rw[<- z];exact a2v
 have k:∀ m,m∈S->M∈S/\∀ a∈S,M<=a:=fun m j=>q (a1E j)
 refine⟨fun c f d b e=>?_,fun u n c f d b h1 h2=>?_,fun c f=>?_,fun i d b=>?_⟩
 ·unfold mrg at e;by_cases h1:nm c∈S
  ·rw[aK h1] at e;by_cases h2:nm d∈S
   ·obtain⟨x,o,r,ex⟩:=(mem _).mp h1;obtain⟨y,s,D,v⟩:=(mem _).mp h2;have A:=N.snd c f x o ex.symm;have B:=N.snd y s d b v;exact(A.trans (jj.Um C to r D (qG.mp s).1)).trans B
   ·rw[aJ h2] at e;rw[<- e] at h2;exact absurd (k _ h1).1 h2
  ·rw[aJ h1] at e;by_cases h2:nm d∈S
   ·rw[aK h2] at e;rw[e] at h1;exact absurd (k _ h2).1 h1
   ·rw[aJ h2] at e;exact N.snd c f d b e
 ·unfold mrg;rcases n with n|rfl
  ·rw[N.cpl u n c f d b h1 h2]
  ·rw[aK ((mem _).mpr ⟨c,f,h1,rfl⟩),aK ((mem _).mpr ⟨d,b,h2,rfl⟩)]
 ·unfold mrg;by_cases h1:nm c∈S
  ·rw[aK h1];have j:=(k _ h1).1;obtain⟨x,o,r,ex⟩:=(mem _).mp j;obtain⟨i,d,l,g,h⟩:=N.ldr x o;refine⟨i,d,l,by rw[<- ex,g],?_⟩;have:nm d=M:=by rw[h,<- g,ex]
   rw[aK (by rw[this];exact j),<- ex,g]
  ·rw[aJ h1];obtain⟨i,d,l,g,h⟩:=N.ldr c f;refine⟨i,d,l,g,?_⟩;rw[aJ (by rw[h,<- g];exact h1)];exact h
 ·unfold mrg;by_cases h1:nm d∈S
  ·rw[aK h1];exact T6 ((k _ h1).2 _ h1) (N.low i d b)
  ·rw[aJ h1];exact N.low i d b
theorem Names.imp{zs:List Str}{w:Nat}{E:List Cell}{a b:Cell->Prop}{nm:Cell->Int}(N:Names zs w E a nm)(h:∀ u,b u->a u):Names zs w E b nm:=⟨N.snd,fun t c=>N.cpl t (h t c),N.ldr,N.low⟩
theorem Names.congr{zs:List Str}{w:Nat}{E:List Cell}{f:Cell->Prop}{nm j:Cell->Int}(N:Names zs w E f nm)(h:∀ c∈E,j c=nm c):Names zs w E f j:=by
 refine⟨fun c a d b e=>N.snd c a d b (by rw[<- h c a,<- h d b];exact e),fun t m c a d b h1 h2=>by rw[h c a,h d b];exact N.cpl t m c a d b h1 h2,fun c a=>?_,fun i d e=>by rw[h d (eX e)];exact N.low i d e⟩;obtain⟨i,d,g,k,l⟩:=N.ldr c a;exact⟨i,d,g,by rw[h c a];exact k,by rw[h d (eX g)];exact l⟩
theorem Names.start{zs:List Str}{w:Nat}{E:List Cell}{nm:Cell->Int}(h:∀(i:Nat) (d:Cell),E[i]?=some d->nm d=i):Names zs w E (fun _=>False) nm:=by
 refine⟨fun c f d g e=>?_,fun t k=>k.elim,fun c f=>?_,fun i d e=>by rw[h i d e];exact yt _⟩
 ·obtain⟨i,a⟩:=tU f;obtain⟨j,b⟩:=tU g;rw[h i c a,h j d b] at e;have:i=j:=by lia
  subst this;rw[a] at b;cases b;exact .base
 ·obtain⟨i,a⟩:=tU f;exact⟨i,c,a,h i c a,h i c a⟩
theorem Names.iff{zs:List Str}{w:Nat}{e:Cell->Prop}{nm:Cell->Int}(N:Names zs w (aY zs w) e nm)(all:∀ t,inF zs.length w t->aP zs w t=false->e t){c d:Cell}(f:c∈aY zs w)(g:d∈aY zs w):nm c=nm d↔jj zs w c d:=by
 refine⟨N.snd c f d g,fun r=>?_⟩;clear g
 induction r with
 |base=>rfl
 |@step x t y l j a k=>
  obtain⟨h,b,tx⟩:=gR j;have i:=jj.edge f l;rw[k];refine N.cpl t (all t h b) x i y (tO h b a) (o8 tx (jB i)) ?_;unfold aG at a;exact(cG.mp a).1
theorem a2g{a b:List Int}(d:a.Pairwise (· < ·))(f:b.Pairwise (· < ·))(g:∀ y,y∈a↔y∈b):a=b:=by
 have nd:∀ {c:List Int},c.Pairwise (· < ·)->c.Nodup:=fun h=>h.imp fun {x y} i e=>by subst e;lia
 have pm:a.Perm b:=(KQ (nd d) (nd f)).mpr g;refine a1c (le:=(· < ·)) (fun x y _ _ d f=>?_) d f pm;lia
def named(E:List Cell)(nm:Cell->Int)(k:Int):List Cell:=E.filter fun c=>decide (nm c=k)
theorem FW{zs:List Str}{w:Nat}{C:Cell->Prop}{nm:Cell->Int}{ms:List Int}(v:zs.length<=6)(s:w<=6)(N:Names zs w (aY zs w) C nm)(all:∀ t,inF zs.length w t->aP zs w t=false->C t)
  (g:∀ m,m∈ms↔m∈(aY zs w).map nm) (as:ms.Pairwise (· < ·)):∀(k i:Nat),(aY zs w).length-i=k->i<=(aY zs w).length ->
   gK zs w ((aY zs w).drop i) ((ms.filter fun m=>decide (m<(i:Int))).map (named (aY zs w) nm))=ms.map (named (aY zs w) nm)
 |0,i,O,hi=>by
  have e:i=(aY zs w).length:=by lia
  rw[e,Sg];unfold gK;rw[BL.mpr fun m h=>?_];obtain⟨c,K,rfl⟩:=cW.mp ((g m).mp h);obtain⟨j,d,n,D,_⟩:=N.ldr c K;have:=(gO.mp n).1;exact bQ (by rw[D];lia)
 |k+1,i,O,hi=>by
  have q:i<(aY zs w).length:=by lia
  have o:(aY zs w)[i]?=some (aY zs w)[i]:=fY q;generalize L:(aY zs w)[i]=c at o;have F:(aY zs w).drop i=c::(aY zs w).drop (i+1):=by
   rw[zF q,L]
  have f:c∈aY zs w:=eX o;have U:=N.low i c o;rw[F];unfold gK;have B:∀ m,c∈named (aY zs w) nm m↔nm c=m:=fun m=>by
   unfold named;rw[cG,jx];exact⟨fun h=>h.2,fun h=>⟨f,h⟩⟩
  by_cases A:nm c=(i:Int)
  ·have R:¬∃ p∈(ms.filter fun m=>decide (m<(i:Int))).map (named (aY zs w) nm),c∈p:=by
    rintro⟨p,Q,M⟩;obtain⟨m,z,rfl⟩:=cW.mp Q;have h1:=(B m).mp M;have h2:=cT (cG.mp z).2;lia
   rw[aJ R];have H:dJ zs w c=named (aY zs w) nm i:=by
    refine Jz (o7 v s) ((Ay v s).filter _) fun y=>?_
    rw[fO (jB f)];unfold named;rw[cG,jx,<- A];constructor
    ·intro r;have u:=jj.edge f r;exact⟨u,((N.iff all f u).mpr r).symm⟩
    ·rintro⟨u,e⟩;exact(N.iff all f u).mp e.symm
   have es:(ms.filter fun m=>decide (m<((i+1:Nat):Int)))=(ms.filter fun m=>decide (m<(i:Int)))++[(i:Int)]:=by
    refine a2g (as.filter _) (wN.mpr ⟨as.filter _,by simp,fun a I b J=>?_⟩) fun y=>?_
    ·rw[dH.mp J];exact cT (cG.mp I).2
    ·rw[dw,dH,cG,cG,jx,jx];constructor
     ·rintro⟨h1,h2⟩;by_cases E:y=i
      ·exact .inr E
      ·exact .inl ⟨h1,by lia⟩
     ·rintro(⟨h1,h2⟩|rfl)
      ·exact⟨h1,by lia⟩
      ·exact⟨(g _).mpr (cW.mpr ⟨c,f,A⟩),by lia⟩
   have l:=FW v s N all g as k (i+1) (by lia) q;rw[es,d9] at l;rw[H];exact l
  ·have P:nm c<(i:Int):=by lia
   have T:∃ p∈(ms.filter fun m=>decide (m<(i:Int))).map (named (aY zs w) nm),c∈p:=
    ⟨_,cW.mpr ⟨nm c,cG.mpr ⟨(g _).mpr (cW.mpr ⟨c,f,rfl⟩),bQ P⟩,rfl⟩,(B _).mpr rfl⟩
   rw[aK T];have es:(ms.filter fun m=>decide (m<((i+1:Nat):Int)))=ms.filter fun m=>decide (m<(i:Int)):=by
    refine tE fun m z=>?_
    rw[tK];refine⟨fun h=>?_,fun h=>by lia⟩;by_cases E:m=i
    ·exfalso;obtain⟨x,S,ex⟩:=cW.mp ((g m).mp z);obtain⟨j,d,n,D,G⟩:=N.ldr x S;have:j=i:=by lia
     subst this;rw[o] at n;cases n;exact A G
    ·lia
   have l:=FW v s N all g as k (i+1) (by lia) q;rw[es] at l;exact l
theorem Oh{zs:List Str}{w:Nat}{b:Cell->Prop}{nm:Cell->Int}{ms:List Int}(v:Vw zs w)(N:Names zs w (aY zs w) b nm)(all:∀ t,inF zs.length w t->aP zs w t=false->b t)
  (f:∀ m,m∈ms↔m∈(aY zs w).map nm) (as:ms.Pairwise (· < ·)):ms.map (named (aY zs w) nm)=bx zs w:=by
 have a:=FW v.le v.w6 N all f as _ 0 rfl (jh _);rw[Hh] at a;have e:(ms.filter fun m=>decide (m<((0:Nat):Int)))=[]:=Rt.mpr fun m h=>by
  obtain⟨c,i,rfl⟩:=cW.mp ((f m).mp h);obtain⟨j,d,_,g,_⟩:=N.ldr c i;rw[g];simp
 rw[e] at a;exact a.symm
def dN(E:List Cell)(nm:Cell->Int):List (List Key×V):=E.map fun c=>(iJ c,V.int (nm c))
theorem JN(nm:Cell->Int)(c:Cell):∀ E:List Cell,wC (dN E nm) (iJ c)=if c∈E then some (.int (nm c)) else none
 |[]=>rfl
 |a::E=>by
  show wC ((iJ a,V.int (nm a))::dN E nm) (iJ c)=_;by_cases e:a=c
  ·subst e;rw[uY rfl,aK eF]
  ·rw[uX (fun b=>e (Fy b)),JN nm c E];by_cases m:c∈E
   ·rw[aK m,aK (gk _ m)]
   ·rw[aJ m,aJ (fun b=>(dj.mp b).elim (fun q=>e q.symm) m)]
theorem a4U(E:List Cell)(nm:Cell->Int)(c:Cell)(a:c∉E):putK (dN E nm) (iJ c) (.int (nm c))=dN (E++[c]) nm:=by
 rw[Oi _ (by rw[JN,aJ a])];unfold dN;rw[d9];rfl
def a06(nm:Cell->Int)(c:Cell)(m:Int):Cell->Int:=fun d=>if d=c then m else nm d
theorem a4V(E:List Cell)(nm:Cell->Int)(c:Cell)(m:Int)(b:c∈E):putK (dN E nm) (iJ c) (.int m)=dN E (a06 nm c m):=by
 unfold putK;have h1:((dN E nm).any fun d=>decide (d.1=iJ c))=true:=by
  rw[uW,JN,aK b];rfl
 rw[aK h1];unfold dN;rw[lF];refine BP fun a _=>?_
 show(if iJ a=iJ c then(iJ a,V.int m) else(iJ a,V.int (nm a)))=(iJ a,V.int (a06 nm c m a));unfold a06;by_cases e:a=c
 ·subst e;rw[aK rfl,aK rfl]
 ·rw[aJ (fun f=>e (Fy f)),aJ e]
theorem a4T(E:List Cell)(nm:Cell->Int):(dN E nm).length=E.length:=aL _
section
variable{K:ao}{H:Hp}{dd:Addr}{v:V}{c:Cell}{E:List Cell}{nm:Cell->Int}
theorem Uw(a:H dd=some (.dT (dN E nm)))(d:Den K H v (aC c)):zJ H dd v (if c∈E then some (.int (nm c)) else none):=by
 obtain⟨t,rfl,_,b⟩:=fJ d;have key:H t=some (.tup ((iJ c).map kV)):=b;rw[<- JN];exact zJ.t a key
theorem Ed(a:H dd=some (.dT (dN E nm)))(d:Den K H v (aC c))(b:c∈E):zJ H dd v (some (.int (nm c))):=by
 have:=Uw a d;rwa[aK b] at this
theorem Ux{m:Int}(a:H dd=some (.dT (dN E nm)))(d:Den K H v (aC c))(hz:E.length<1000):Mf H dd v (.int m) (upd H dd (.dT (putK (dN E nm) (iJ c) (.int m)))):=by
 obtain⟨t,rfl,_,b⟩:=fJ d;have key:H t=some (.tup ((iJ c).map kV)):=b;exact Mf.t a key (ltl (by rw[a4T];lia))
theorem a2a(a b:Int):eqD (Dt.int a) (Dt.int b)=decide (a=b):=by rw[uD rfl rfl];exact(Ru _ _)
theorem Td(x:Int):∀ ns:List Int,((ns.map Dt.int).any fun e=>eqD e (Dt.int x))=decide (x∈ns)
 |[]=>by simp
 |a::ns=>by
  rw[gq,yr,a2a,Td x ns];by_cases h:a=x
  ·rw[bQ h,T3,bQ (by rw[h];exact eF)]
  ·rw[cD h,SQ,tK,dj];exact⟨.inr,fun b=>b.elim (fun e=>absurd e.symm h) id⟩
theorem a6z{p:Addr}{ns:List Int}{x:Int}{Q:VK}(h:H p=some (.lst (ns.map V.int)))(q:Q (.bl (decide (x∈ns))) H):QS K false (.int x) (.ref p) H Q:=by
 refine⟨Dt.int x,ns.map Dt.int,p,rfl,.int x,.inl (.lst (SqL.of h) (bf.ints ns)),fun e a=>?_,?_⟩
 ·obtain⟨c,_,rfl⟩:=cW.mp a;exact⟨rfl,GF rfl⟩
 ·show Q (.bl ((ns.map Dt.int).any fun e=>eqD e (Dt.int x))) H;rw[Td];exact q
end
structure PSt(K:ao)(H0 H:Hp)(vg dd:Addr)(cs:List V)(E ks:List Cell)(nm:Cell->Int):Prop where
 same:Same H0 H
 ev:H vg=some (.lst cs)
 Dc:bf K H cs (E.map aC)
 ed:H dd=some (.dT (dN ks nm))
 nd:H0 dd=none
theorem PSt.mono{K:ao}{H0 H H':Hp}{b dd:Addr}{cs:List V}{E a:List Cell}{nm:Cell->Int}(p:PSt K H0 H b dd cs E a nm)(s:Same H H'):PSt K H0 H' b dd cs E a nm:=⟨p.same.trans s,s _ _ p.ev,p.Dc.mono s,s _ _ p.ed,p.nd⟩
theorem PSt.put{K:ao}{H0 H:Hp}{e dd:Addr}{cs:List V}{E f a:List Cell}{nm b:Cell->Int}(p:PSt K H0 H e dd cs E f nm):PSt K H0 (upd H dd (.dT (dN a b))) e dd cs E a b:=by
 have d:SameBut dd H (upd H dd (.dT (dN a b))):=(SameBut.refl dd _).put;have g:Hy H (upd H dd (.dT (dN a b))):=.put p.ed (by intro xs c;cases c);exact⟨d.of p.same p.nd,d _ _ p.ev (qF p.ev p.ed (by intro c;cases c)),g.cells p.Dc,aA,p.nd⟩
theorem PSt.a8q{K:ao}{H0 H:Hp}{b dd q:Addr}{cs d l1:List V}{E c:List Cell}{nm:Cell->Int}(p:PSt K H0 H b dd cs E c nm)(e:H q=some (.lst d))(h:H0 q=none)(f:b≠q)(g:dd≠q):PSt K H0 (upd H q (.lst l1)) b dd cs E c nm:=by
 have a:SameBut q H (upd H q (.lst l1)):=(SameBut.refl q _).put;exact⟨a.of p.same h,a _ _ p.ev f,a.cells e p.Dc,a _ _ p.ed g,p.nd⟩
theorem PSt.a4e{K:ao}{H0 H:Hp}{d dd l:Addr}{cs:List V}{E a b:List Cell}{nm c:Cell->Int}{xs:List V}(p:PSt K H0 H d dd cs E a nm)(h:H l=some (.lst xs)):(upd H dd (.dT (dN b c))) l=some (.lst xs):=by
 rw[bG (qF h p.ed (by intro e;cases e))];exact h
theorem PSt.a7t{K:ao}{H0 H:Hp}{f dd:Addr}{cs a:List V}{E c d F:List Cell}{nm e:Cell->Int}(p:PSt K H0 H f dd cs E c nm)(b:bf K H a (F.map aC)):bf K (upd H dd (.dT (dN d e))) a (F.map aC):=(Hy.put p.ed (by intro xs g;cases g)).cells b
theorem Am{c:Cell}:∀ {E:List Cell} {i:Nat},E.Nodup->E[i]?=some c->E.idxOf c=i
 |[],i,_,h=>by cases h
 |a::E,0,nd,h=>by
  cases h;simp
 |a::E,i+1,nd,h=>by
  obtain⟨d,e⟩:=Cj.mp nd;have h:E[i]?=some c:=by simpa using h
  have f:a≠c:=fun g=>d (by rw[g];exact eX h)
  have b:(a==c)=false:=qO.mpr f;rw[List.idxOf_cons,Am e h,b];rfl
theorem NP:∀ S:List Int,∃ M,S≠[]->M∈S/\∀ a∈S,M<=a
 |[]=>⟨0,fun h=>absurd rfl h⟩
 |x::S=>by
  obtain⟨M,d⟩:=NP S;by_cases e:S=[]
  ·subst e;exact⟨x,fun _=>⟨eF,fun a c=>by rw[dH.mp c];exact yt _⟩⟩
  ·obtain⟨h1,h2⟩:=d e;by_cases f:x<=M
   ·refine⟨x,fun _=>⟨eF,fun a c=>?_⟩⟩;rcases dj.mp c with b|b
    ·rw[b];exact yt _
    ·exact T6 f (h2 a b)
   ·refine⟨M,fun _=>⟨gk _ h1,fun a c=>?_⟩⟩;rcases dj.mp c with b|b
    ·rw[b];lia
    ·exact h2 a b
def Gv(K:ao):Sp:=fun vs H Q _=>∃(p:Addr)(zs:List Str)(w:Nat),vs=[.ref p]/\SqL K H p (zs.map V.str)/\Vw zs w /\
 ∀(q:Addr)(qs:List Addr)(H':Hp),H q=none->Same H H'->pQ K H H' q qs (bx zs w)->Q (.ref q) H'
section
variable{P:Program}{w:World}{K:ao}{mg:Str->Option Value}{base:Heap}{Z:Adr}
theorem Ww{f:Addr}{bt:FuncData} (F:Fun K "_law_parts" "_law_parts" sJ f bt) (T:Txt K mg Z) (bR:Df P w K mg base 1 "_law_sizes" ["rows"] (wj K)) (cf:Df P w K mg base 2 "_law_edge" ["rows"] (Rf K)) (bP:Df P w K mg base 1 "_law_cells" ["rows","signs"] (sZ K)) (bS:Df P w K mg base 1 "_law_near" ["height","width","cell"] (xY K)) :
  cR P w K mg base (CXE P w) 3 f bt ["rows"] (Gv K):=by
 refine F.rok cX (fun ct H Q E h=>?_) (fun cdv A outer s H ct Q E aq h=>?_)
 ·obtain⟨p,zs,w,rfl,_⟩:=h;rfl
 ·obtain⟨p,zs,b,rfl,a5,ae,b9⟩:=h;have N:=mU aq;have ca:=xq aq;have cv:=ae.le;have cu:=ae.w6;refine⟨_,(au (kO (aV bR aq rfl aW (aj (rv 0) ak)) (lW rfl (cC (aQ (i:=1) cX.nd rfl (Or.inl rfl)) (cC (aQ (i:=2) cX.nd rfl (Or.inl rfl)) jq)))) (au (aO (i:=3) cX.nd rfl (Or.inl rfl) (aV cf aq rfl aW (aj (rv 0) ak))) (au (aO (i:=4) cX.nd rfl (Or.inr rfl) Uv) (au (c7 dh rfl (NK (K:=K) rfl T.uq (aj (rv 3) ak)) (lW rfl (cC (aQ (i:=5) cX.nd rfl (Or.inr rfl)) (cC (aQ (i:=6) cX.nd rfl (Or.inl rfl)) jq))) (aB (kO (rv 5) (Ba (rv 4) (rv 6) (set_dict N))))) (au (c7 dh rfl (aU (K:=K) (aV bP aq rfl aW (aj (rv 0) (aj iy ak)))) (aQ (i:=7) cX.nd rfl (Or.inl rfl)) (au (pD (i:=8) cX.nd rfl rfl (by rfl) rfl (aU (K:=K) (aV bS aq rfl aW (aj (rv 1) (aj (rv 2) (aj (rv 7) ak))))) (fun _ _ _=>(eO (bI (WL N) (rv 0) (rv 5) (by rfl)))) (fun _ _ _=>(cB (DW N) (rv 5) (rv 0)))) (aB (c7 dh rfl (aU (K:=K) (rv 3)) (aQ (i:=6) cX.nd rfl (Or.inl rfl)) (aB (dR (bI (gG.or (tQ (K:=K) ca)) (cB (DW N) (rv 4) (rv 6)) (rv 8) (by rfl)) (aB (kO (aN (a7q (K:=K) rfl) rfl T.Mv JD (aj (rv 8) ak)) (Ba (rv 4) (rv 6) (set_dict N)))) bV)))))) (au (aO (i:=9) cX.nd rfl (Or.inl rfl) (bZ ak)) (au (c7 dh rfl (aU (K:=K) (aN (a2k (w:=w) rfl N) rfl T.ur vI (aj (kE (a7s (K:=K) (w:=w) rfl) rfl T.a3X a4K (aj (fU (by rfl) rfl (aU (K:=K) (rv 3)) (fun _ _ _=>kJ) (fun _ _ _=>(cB (DW N) (rv 5) (rv 0)))) ak)) ak))) (aQ (i:=5) cX.nd rfl (Or.inr rfl)) (aB (gM (lH (K:=K) lC mG mH dO (rv 9) (aj (fU (by rfl) rfl (aU (K:=K) (rv 3)) (fun _ _ _=>(eO (bI (kj.or (jY (K:=K) N)) (cB (DW N) (rv 5) (rv 0)) (rv 6) (cA _)))) (fun _ _ _=>(rv 0))) ak))))) (aB (bA (rv 9)))))))))),?_⟩;refine aD (fun zzs H1=>Same H H1/\zzs=[zzR p,zzI zs.length,zzI b,zzN,zzN,zzN,zzN,zzN,zzN,zzN]) (fun R D=>?_) ?_
  ·exact⟨_,rfl,p,zs,b,rfl,a5,ae.toRect,fun t H' s' b4=>⟨t,_,rfl,b4,rfl,_,_,rfl,_,_,rfl,rfl,D _ _ ⟨s',rfl⟩⟩⟩
  rintro zzs H1 ⟨s1,rfl⟩;refine aD (fun zzs H2=>∃(n:Addr)(cs:List V),Same H H2/\H2 n=some (.lst cs)/\bf K H2 cs ((aY zs b).map aC)/\zzs=[zzR p,zzI zs.length,zzI b,zzR n,zzN,zzN,zzN,zzN,zzN,zzN]) (fun R D=>?_) ?_
  ·refine⟨_,rfl,p,zs,b,rfl,s1.seq a5,ae,fun q H' aE=>?_⟩;obtain⟨cs,aP,be⟩:=aE.ls;rw[a5c] at be;exact D _ _ ⟨q,cs,s1.trans aE.same,aP,be,rfl⟩
  rintro zzs H2 ⟨n,cs,s2,b2,a1,rfl⟩;generalize ag:aY zs b=E at a1;have bO:E.Pairwise cM:=by rw[<- ag];exact Ay cv cu
  have ax:E.Nodup:=kZ bO;have cE:E.length<=36:=by
   rw[<- ag];exact cU (gW _ _) (gb ae)
  have bw:cs.length=E.length:=by rw[a1.length,aL]
  refine aD (fun zzs bh=>∃ dd:Addr,PSt K H bh n dd cs E [] (fun _=>0)/\zzs=[zzR p,zzI zs.length,zzI b,zzR n,zzR dd,zzN,zzN,zzN,zzN,zzN]) (fun R D=>?_) ?_
  ·exact fun dd nd=>D _ _ ⟨dd,⟨s2.and nd,(Same.put nd) _ _ b2,a1.mono (Same.put nd),aA,s2.free nd⟩,rfl⟩
  rintro zzs bh ⟨dd,as,rfl⟩;refine aD (fun zzs am=>∃(g r:Option V),PSt K H am n dd cs E E (fun c=>(E.idxOf c:Int))/\zzs=[zzR p,zzI zs.length,zzI b,zzR n,zzR dd,g,r,zzN,zzN,zzN]) (fun R D=>?_) ?_
  ·refine⟨_,rfl,n,rfl,⟨_,SqL.of as.ev⟩,?_⟩;refine Nu (K:=K) (xs:=cs) (fun i zzs am=>∃(g r:Option V),PSt K H am n dd cs E (E.take i) (fun c=>(E.idxOf c:Int))/\zzs=[zzR p,zzI zs.length,zzI b,zzR n,zzR dd,g,r,zzN,zzN,zzN])
    ⟨none,none,⟨as.same,as.ev,as.Dc,as.ed,as.nd⟩,rfl⟩ (fun i zzs am _ B=>by obtain⟨_,_,a,_⟩:=B;exact SqL.of a.ev) (fun i u zzs am t cb B cn=>?_) (fun zzs am B=>?_)
   ·obtain⟨g,r,ao,rfl⟩:=B;have ah:=ao.mono (Same.put (o:=.tup [.int i,u]) cn);obtain⟨bT,ay,bW⟩:=ah.Dc.get cb;rw[cP] at ay;obtain⟨c,an,rfl⟩:=gj.mp ay;have ce:=Am ax an;have hi:i<E.length:=(gO.mp an).1;have ba:c∉E.take i:=fun z=>by
     obtain⟨j,G⟩:=tU z;have a7:j<i:=by have:=(gO.mp G).1;rw[jd] at this;lia
     rw[KR a7] at G;have:=Am ax G;lia
    refine⟨t,_,rfl,SqT.of aA,rfl,_,_,rfl,_,_,rfl,rfl,?_⟩;refine⟨_,rfl,_,rfl,_,rfl,dd,_,rfl,Ux ah.ed bW (by rw[jd];lia),?_⟩;have bY:putK (dN (E.take i) fun c=>(E.idxOf c:Int)) (iJ c) (.int i)=dN (E.take (i+1)) fun c=>(E.idxOf c:Int):=by
     have:=a4U (E.take i) (fun c=>(E.idxOf c:Int)) c ba;rw[ce] at this;rw[this,iB,an];rfl
    rw[bY];exact⟨_,_,ah.put,rfl⟩
   ·obtain⟨g,r,ao,rfl⟩:=B;rw[bw,gP] at ao;exact D _ _ ⟨g,r,ao,rfl⟩
  rintro zzs am ⟨g,r,ao,rfl⟩;have bF:Names zs b E (fun _=>False) (fun c=>(E.idxOf c:Int)):=Names.start fun i d e=>by
   show((E.idxOf d:Nat):Int)=i;rw[Am ax e]
  refine aD (fun zzs aI=>∃(nm:Cell->Int)(g r Y aa:Option V),PSt K H aI n dd cs E E nm/\Names zs b E (fun t=>t∈bB zs b "012345678") nm/\zzs=[zzR p,zzI zs.length,zzI b,zzR n,zzR dd,g,r,Y,aa,zzN]) (fun R D=>?_) ?_
  ·refine⟨_,rfl,p,zs,b,"012345678",rfl,ao.same.seq a5,ae.toRect,fun a0 aI aE=>?_⟩;obtain⟨al,bq,bg⟩:=aE.ls;have ci:al.length=(bB zs b "012345678").length:=by rw[bg.length,aL]
   refine⟨a0,rfl,⟨_,SqL.of bq⟩,?_⟩;refine cN (K:=K) (xs:=al) (fun i zzs L=>∃(nm:Cell->Int)(g r Y aa:Option V),PSt K H L n dd cs E E nm/\L a0=some (.lst al)/\bf K L al ((bB zs b "012345678").map aC)/\Names zs b E (fun t=>t∈(bB zs b "012345678").take i) nm/\zzs=[zzR p,zzI zs.length,zzI b,zzR n,zzR dd,g,r,Y,aa,zzN])
    ⟨_,g,r,none,none,ao.mono aE.same,bq,bg,bF.imp (fun u N=>by cases N),rfl⟩ (fun i zzs L _ B=>by obtain⟨_,_,_,_,_,_,e,_⟩:=B;exact SqL.of e) (fun i u zzs L cc B=>?_) (fun zzs L B=>?_)
   ·obtain⟨nm,g,r,Y,aa,ad,br,a2,aM,rfl⟩:=B;obtain⟨cx,bl,bX⟩:=a2.get cc;rw[cP] at bl;obtain⟨t,bs,rfl⟩:=gj.mp bl;obtain⟨cr,to⟩:=(lV ae).mp (eX bs);obtain⟨M,a4⟩:=NP (nmS E nm (bU zs.length b t));refine aD (fun zzs U=>∃ av:Addr,PSt K H U n dd cs E E nm/\U a0=some (.lst al)/\bf K U al ((bB zs b "012345678").map aC)/\U av=some (.lst ((nmS E nm (bU zs.length b t)).map V.int))/\zzs=[zzR p,zzI zs.length,zzI b,zzR n,zzR dd,g,r,some u,zzR av,zzN]) (fun cw b3=>?_) ?_
    ·refine⟨_,rfl,_,rfl,_,rfl,zs.length,b,u,t,rfl,bX,fun aZ U aT=>?_⟩;obtain⟨cH,bn,bD⟩:=aT.ls;have ar:=ad.mono aT.same;have cG:=gA zs.length b t;refine⟨aZ,rfl,⟨_,SqL.of bn⟩,?_⟩;refine dD (K:=K) (xs:=bU zs.length b t) (enc:=aC) (bJ (SqL.of bn)) bD (small (by lia)) (fun c=>decide (c∈E)) (fun c=>Dt.int (nm c)) (fun c W v H' s' d aH ab=>?_) (fun c W bC v H' s' d aH ab=>?_) (fun ys H' s' aw J X=>?_)
     ·refine⟨_,rfl,_,rfl,dd,_,rfl,Uw (ar.mono s').ed d,_,rfl,?_⟩;have:=ab H' (Same.refl _);by_cases h:c∈E
      ·rw[aK h];rw[bQ h] at this;exact this
      ·rw[aJ h];rw[cD h] at this;exact this
     ·exact⟨_,rfl,_,rfl,dd,_,rfl,Ed (ar.mono s').ed d (cT bC),ab _ _ (Same.refl _) (.int _)⟩
     ·have e:ys=(nmS E nm (bU zs.length b t)).map V.int:=by
       refine bf.Kf (K:=K) (H:=H') ?_;unfold nmS;rw[lF];exact aw
      have sp:=s'.and (o:=.lst ys) X;refine b3 _ _ ⟨J,ar.mono sp,sp _ _ (aT.same _ _ br),(a2.mono aT.same).mono sp,by rw[aA,e],rfl⟩
    rintro zzs U ⟨av,ar,b1,bE,b0,rfl⟩;refine⟨_,rfl,n,rfl,⟨_,SqL.of ar.ev⟩,?_⟩;refine cN (K:=K) (xs:=cs) (fun j zzs af=>∃(ac:Cell->Int)(r:Option V),PSt K H af n dd cs E E ac/\af a0=some (.lst al)/\bf K af al ((bB zs b "012345678").map aC)/\af av=some (.lst ((nmS E nm (bU zs.length b t)).map V.int))/\(∀ c∈E,ac c=if c∈E.take j then mrg (nmS E nm (bU zs.length b t)) M nm c else nm c)/\zzs=[zzR p,zzI zs.length,zzI b,zzR n,zzR dd,g,r,some u,zzR av,zzN])
     ⟨nm,r,ar,b1,bE,b0,fun c W=>by rw[Hj,aJ (by intro z;cases z)],rfl⟩ (fun j zzs af _ B=>by obtain⟨_,_,a,_⟩:=B;exact SqL.of a.ev) (fun j o zzs af b8 B=>?_) (fun zzs af B=>?_)
    ·obtain⟨ac,r,I,aS,aG,az,G,rfl⟩:=B;obtain⟨bT,ay,bk⟩:=I.Dc.get b8;rw[cP] at ay;obtain⟨c,an,rfl⟩:=gj.mp ay;have a3:c∈E:=eX an;have ba:c∉E.take j:=fun z=>by
      obtain⟨k,a8⟩:=tU z;have b6:k<j:=by have:=(gO.mp a8).1;rw[jd] at this;lia
      rw[KR b6] at a8;have h1:=Am ax a8;have h2:=Am ax an;lia
     have aP:ac c=nm c:=by rw[G c a3,aJ ba]
     have tk:∀ d,d∈E.take (j+1)↔(d∈E.take j\/d=c):=fun d=>by
      rw[iB,an,dw];simp
     refine⟨_,rfl,_,rfl,dd,_,rfl,Ed I.ed bk a3,_,rfl,.inr (a6z az ⟨_,rfl,?_⟩)⟩;refine dW (fun h=>?_) (fun h=>?_)
     ·have h:=cT h;rw[aP] at h;have a9:=a1E h;refine⟨_,rfl,av,_,rfl,SqL.of az,a9,fun m aX b7=>?_⟩;have aR:m=M:=by
       have h1:=b7 M (a4 a9).1;have h2:=(a4 a9).2 m aX;lia
      subst aR;refine⟨_,rfl,_,rfl,dd,_,rfl,Ux I.ed bk (by lia),?_⟩;rw[a4V E ac c m a3];refine⟨a06 ac c m,_,I.put,I.a4e aS,I.a7t aG,I.a4e az,fun d a6=>?_,rfl⟩;unfold a06;by_cases z:d=c
      ·subst z;rw[aK rfl,aK ((tk d).mpr (.inr rfl))];unfold mrg;rw[aK h]
      ·rw[aJ z,G d a6];by_cases y:d∈E.take j
       ·rw[aK y,aK ((tk d).mpr (.inl y))]
       ·rw[aJ y,aJ (fun q=>((tk d).mp q).elim y z)]
     ·have h:=iW h;rw[aP] at h;refine⟨ac,_,I,aS,aG,az,fun d a6=>?_,rfl⟩;rw[G d a6];by_cases y:d∈E.take j
      ·rw[aK y,aK ((tk d).mpr (.inl y))]
      ·rw[aJ y];by_cases z:d=c
       ·subst z;rw[aK ((tk d).mpr (.inr rfl))];unfold mrg;rw[aJ h]
       ·rw[aJ (fun q=>((tk d).mp q).elim y z)]
    ·obtain⟨ac,r,I,aS,aG,az,G,rfl⟩:=B;rw[bw,gP] at G;have bi:=Names.step (M:=M) (t:=t) (by rw[ag];exact aM) cr to (by rw[ag];exact a4);rw[ag] at bi;refine⟨ac,g,r,_,_,I,aS,aG,(bi.congr fun c W=>?_).imp (fun z bv=>?_),rfl⟩
     ·rw[G c W,aK W]
     ·rw[iB,bs] at bv;rcases dw.mp bv with q|q
      ·exact .inl q
      ·exact .inr (dH.mp q)
   ·obtain⟨nm,g,r,Y,aa,ad,br,a2,aM,rfl⟩:=B;rw[ci,gP] at aM;exact D _ _ ⟨nm,g,r,Y,aa,ad,aM,rfl⟩
  rintro zzs aI ⟨nm,g,r,Y,aa,ah,bH,rfl⟩;refine aD (fun zzs L=>∃ q:Addr,aI q=none/\PSt K H L n dd cs E E nm/\L q=some (.lst [])/\zzs=[zzR p,zzI zs.length,zzI b,zzR n,zzR dd,g,r,Y,aa,zzR q]) (fun R D=>?_) ?_
  ·exact⟨by decide,fun q aF=>D _ _ ⟨q,aF,ah.mono (Same.put aF),aA,rfl⟩⟩
  rintro zzs L ⟨q,bb,ad,bo,rfl⟩;have aF:H q=none:=ah.same.free bb;have cm:n≠q:=bL ah.ev bb;have cl:dd≠q:=bL ah.ed bb;refine aD (fun zzs U=>∃(S:List Addr)(g:Option V),Same H U/\pQ K H U q S (bx zs b)/\zzs=[zzR p,zzI zs.length,zzI b,zzR n,zzR dd,g,r,Y,aa,zzR q]) (fun R D=>?_) ?_
  ·refine⟨_,rfl,n,rfl,⟨_,SqL.of ad.ev⟩,?_⟩;refine comp_map (K:=K) (xs:=E) (enc:=aC) (bJ (SqL.of ad.ev)) ad.Dc (small (by lia)) (fun c=>Dt.int (nm c)) (fun c W v H' s' d aH ab=>?_) (fun ys H' s' aw J X=>?_)
   ·exact⟨_,rfl,_,rfl,dd,_,rfl,Ed (ad.mono s').ed d W,ab _ _ (Same.refl _) (.int _)⟩
   ·have e:ys=(E.map nm).map V.int:=by
     refine bf.Kf (K:=K) (H:=H') ?_;rw[lF];exact aw
    subst e;refine⟨J,_,rfl,SqL.of aA,by rw[aL];lia,fun a bz=>⟨a,_,rfl,aA,by rw[aL];lia,fun l C aZ aX bj=>⟨l,rfl,⟨_,SqL.of aA⟩,?_⟩⟩⟩;have bd:=((s'.and (o:=.lst ((E.map nm).map V.int)) X).and (o:=R9 w a (E.map nm)) bz).and (o:=.lst (C.map V.int)) aZ;have I:=ad.mono bd;have el:=aA (H:=(upd (upd H' J (.lst ((E.map nm).map V.int))) a (R9 w a (E.map nm)))) (a:=l) (o:=.lst (C.map V.int));have bp:=bd _ _ bo;have cj:l≠q:=fun z=>by
     have:L l=none:=((s'.and (o:=.lst ((E.map nm).map V.int)) X).and (o:=R9 w a (E.map nm)) bz).free aZ;rw[z,bo] at this;cases this
    generalize (upd (upd (upd H' J (.lst ((E.map nm).map V.int))) a (R9 w a (E.map nm))) l (.lst (C.map V.int)))=af at bd I el bp;have bK:C.Nodup:=bj.imp fun {x y} cy e=>by subst e;lia
    have cz:C.length<=36:=by
     have:=mD (l2:=E.map nm) bK fun y cd=>(aX y).mp cd
     rw[aL] at this;lia
    have fin:C.map (named E nm)=bx zs b:=by
     have:=Oh (ms:=C) ae (by rw[ag];exact bH) (fun t h1 h2=>(lV ae).mpr ⟨h1,h2⟩) (by rw[ag];exact aX) bj;rwa[ag] at this
    have cg:(C.map V.int).length=C.length:=aL _;refine cN (K:=K) (xs:=C.map V.int) (fun i zzs ap=>∃(S:List Addr)(g:Option V),PSt K H ap n dd cs E E nm/\ap l=some (.lst (C.map V.int))/\pQ K H ap q S ((C.take i).map (named E nm))/\zzs=[zzR p,zzI zs.length,zzI b,zzR n,zzR dd,g,r,Y,aa,zzR q])
     ⟨[],g,I,el,⟨bp,rfl,fun i a p h=>(by cases h),fun a b5=>(by cases b5),Cu,fun z=>(by cases z)⟩,rfl⟩ (fun i zzs ap _ B=>by obtain⟨_,_,_,e,_⟩:=B;exact SqL.of e) (fun i u zzs ap bu B=>?_) (fun zzs ap B=>?_)
    ·obtain⟨S,g,ai,bm,O,rfl⟩:=B;rw[cP] at bu;obtain⟨m,aR,rfl⟩:=gj.mp bu;have hi:i<C.length:=(gO.mp aR).1;have cF:S.length<=36:=by rw[O.len,aL,jd];lia
     refine⟨_,rfl,.inl ⟨rfl,_,SqL.of O.at_⟩,_,rfl,n,rfl,⟨_,SqL.of ai.ev⟩,?_⟩;refine dD (K:=K) (xs:=E) (enc:=aC) (bJ (SqL.of ai.ev)) ai.Dc (small (by lia)) (fun c=>decide (nm c=m)) aC (fun c W v H' s' d aH ab=>?_) (fun c W bC v H' s' d aH ab=>?_) (fun ys H' s' aw J X=>?_)
     ·refine⟨_,rfl,_,rfl,dd,_,rfl,Ed (ai.mono s').ed d W,_,rfl,.inl ⟨rfl,_,rfl,?_⟩⟩;have e:decide (V.int (nm c)=V.int m)=decide (nm c=m):=by rw[tK];exact⟨fun z=>by cases z;rfl,fun z=>by rw[z]⟩
      rw[e];exact ab H' (Same.refl _)
     ·exact⟨_,rfl,ab _ _ (Same.refl _) d⟩
     ·have sp:=s'.and (o:=.lst ys) X;have bc:=O.mono sp;have co:=ai.mono sp;have ck:H J=none:=(ai.same.trans s').free X;have bM:J≠q:=fun z=>by have:=s'.free X;rw[z,O.at_] at this;cases this
      have bN:J∉S:=fun z=>by
       obtain⟨j,G⟩:=tU z;have a7:j<((C.take i).map (named E nm)).length:=by rw[<- O.len];exact(gO.mp G).1
       obtain⟨_,e,_⟩:=O.ls j J _ G (fY a7);have:=s'.free X;rw[e] at this;cases this
      refine⟨q,_,_,rfl,rfl,bc.at_,ltl (by rw[aL];lia),?_⟩;have ch:Ls K (upd H' J (.lst ys)) J ((named E nm m).map aC):=.new X aw;have cp:=bc.snoc ch ck bN bM;have tk:(C.take (i+1)).map (named E nm)=(C.take i).map (named E nm)++[named E nm m]:=by rw[iB,aR,d9];rfl
      refine⟨S++[J],_,co.a8q bc.at_ aF cm cl,?_,by rw[tk];exact cp,rfl⟩;rw[bG cj];exact sp _ _ bm
    ·obtain⟨S,g,ai,bm,O,rfl⟩:=B;rw[cg,gP,fin] at O;exact D _ _ ⟨S,g,ai.same,O,rfl⟩
  rintro zzs U ⟨S,cI,cq,O,rfl⟩;exact⟨_,rfl,b9 q S _ aF cq O⟩
end
def layAt(p:Nat->List Cell->Bool)(ps:List Cell):Nat->List (List Cell)
 |0=>[[]]
 |k+1=>(layAt p ps k++(layAt p ps k).map (·++[ps.getD k (0,0)])).filter (p k)
def upto(ps:List Cell)(k:Nat)(l:List Cell):List Cell:=l.filter fun y=>decide (y∈ps.take k)
theorem Pn{a l:List Cell}{k:Nat}(h:∀ y∈l,y∈a.take k):upto a k l=l:=by
 unfold upto;exact BL.mpr fun y b=>bQ (h y b)
theorem getD_at{a:List Cell}{k:Nat}(b:k<a.length):a.getD k (0,0)=a[k]:=by
 rw[fM,fY b];rfl
theorem lZ{a:List Cell}{k:Nat}(b:k<a.length):a.take (k+1)=a.take k++[a.getD k (0,0)]:=by
 rw[iB,fY b,getD_at b];rfl
theorem CP{a:List Cell}(nd:a.Nodup){k:Nat}(b:k<a.length):a.getD k (0,0)∉a.take k:=by
 intro h;have h2:(a.take k++[a.getD k (0,0)]).Nodup:=by rw[<- lZ b];exact nd.sublist (List.take_sublist _ _)
 exact(zH.mp h2).2.2 _ h _ (dH.mpr rfl) rfl
theorem Xg{a:List Cell}{i j:Nat}(h:i<=j){y:Cell}(b:y∈a.take i):y∈a.take j:=by
 have e:a.take i=(a.take j).take i:=by rw[List.take_take,Ck h]
 rw[e] at b;exact Dp b
theorem vR{p:Nat->List Cell->Bool}{b:List Cell}(nd:b.Nodup):∀ k,k<=b.length->∀ l,l∈layAt p b k↔(l.Sublist (b.take k)/\∀ j,j<k->p j (upto b (j+1) l)=true)
 |0,_,l=>by
  unfold layAt;rw[dH,Hj,List.sublist_nil];exact⟨fun h=>⟨h,fun j f=>absurd f (by lia)⟩,fun h=>h.1⟩
 |k+1,x,l=>by
  have n:=vR (p:=p) nd k (by lia);unfold layAt;have m:k<b.length:=by lia
  have w:=CP nd m;rw[cG,lZ m];have s:∀ c:List Cell,c.Sublist (b.take k)->∀ j,j<k->upto b (j+1) (c++[b.getD k (0,0)])=upto b (j+1) c:=fun c _ j f=>by
   unfold upto;rw[qP];have:[b.getD k (0,0)].filter (fun y=>decide (y∈b.take (j+1)))=[]:=by
    rw[vp,aJ (by rw[cD (fun i=>w (Xg (by lia) i))];exact gC)];rfl
   rw[this,qT]
  constructor
  ·rintro⟨u,g⟩;have all:∀ c:List Cell,c.Sublist (b.take k++[b.getD k (0,0)])->upto b (k+1) c=c:=fun c h'=>Pn fun y q=>by rw[lZ m];exact h'.subset q
   rcases dw.mp u with i|i
   ·obtain⟨h1,h2⟩:=(n l).mp i;have d:l.Sublist (b.take k++[b.getD k (0,0)]):=h1.trans (a1b _ _);refine⟨d,fun j f=>?_⟩;by_cases e:j=k
    ·subst e;rw[all l d];exact g
    ·exact h2 j (by lia)
   ·obtain⟨c,v,rfl⟩:=cW.mp i;obtain⟨h1,h2⟩:=(n c).mp v;have d:(c++[b.getD k (0,0)]).Sublist (b.take k++[b.getD k (0,0)]):=h1.append (List.Sublist.refl _);refine⟨d,fun j f=>?_⟩;by_cases e:j=k
    ·subst e;rw[all _ d];exact g
    ·rw[s c h1 j (by lia)];exact h2 j (by lia)
  ·rintro⟨d,g⟩;have t:=g k (by lia);rw[Pn (fun y q=>by rw[lZ m];exact d.subset q)] at t;refine⟨?_,t⟩;obtain⟨r,o,e,s1,s2⟩:=List.sublist_append_iff.mp d;subst e;have:o=[]\/o=[b.getD k (0,0)]:=by
    cases o with
    |nil=>exact .inl rfl
    |cons a o=>
     right;exact s2.eq_of_length_le (by simp)
   rcases this with rfl|rfl
   ·refine mJ _ ((n _).mpr ⟨by simpa using s1,fun j f=>g j (by lia)⟩)
   ·refine lD _ (cW.mpr ⟨r,(n r).mpr ⟨s1,fun j f=>?_⟩,rfl⟩);have:=g j (by lia);rwa[s r s1 j f] at this
theorem jP{p:Nat->List Cell->Bool}{c:List Cell}(nd:c.Nodup):∀ k,k<=c.length->(layAt p c k).Nodup
 |0,_=>by unfold layAt;simp
 |k+1,j=>by
  have d:=jP (p:=p) nd k (by lia);unfold layAt;refine RL RD (zH.mpr ⟨d,?_,fun a f b g e=>?_⟩)
  ·exact RX.mpr (d.imp fun h e=>h (List.append_cancel_right e))
  ·obtain⟨i,_,rfl⟩:=cW.mp g;subst e;have:=((vR nd k (by lia) _).mp f).1;exact CP nd (by lia) (this.subset (by simp))
theorem qz(p:Nat->List Cell->Bool)(a:List Cell):∀ k,(layAt p a k).length<=2^k
 |0=>bK _
 |k+1=>by
  unfold layAt;refine cU (gW _ _) ?_;rw[cH,aL,Nat.pow_succ];have:=qz p a k;lia
theorem qC{p:Nat->List Cell->Bool}{d:List Cell}:∀ k,∀ l∈layAt p d k,l.length<=k
 |0,l,h=>by unfold layAt at h;rw[dH.mp h];exact bK _
 |k+1,l,h=>by
  unfold layAt at h;rcases dw.mp (cG.mp h).1 with a|a
  ·have:=qC k l a;lia
  ·obtain⟨b,c,rfl⟩:=cW.mp a;have:=qC k b c;rw[cH,jC];lia
def qt(N l:List Cell):Nat:=(N.filter fun y=>decide (y∈l)).length
def iV(N:List Cell)(f:Int)(rest:Nat)(l:List Cell):Bool:=decide ((qt N l:Int)<=f)&&decide (f<=(qt N l:Int)+rest)
def Ep(N:List Cell)(c:Cell):Nat:=(N.filter fun y=>jz c y).length
def pP(zs:List Str)(w:Nat)(ps:List Cell)(k:Nat)(l:List Cell):Bool:=
 (aM zs w (ps.getD k (0,0))).all fun t=>iV (aG zs w t) (dU zs t) (Ep (aG zs w t) (ps.getD k (0,0))) l
def dI(zs:List Str)(w:Nat)(ps:List Cell)(t:Cell):List Cell:=(bU zs.length w t).filter fun y=>decide (y∈ps)
def oV(zs:List Str)(w:Nat)(ps:List Cell):List Cell:=(bB zs w "012345678").filter fun t=>decide (0<(dI zs w ps t).length)
def lJ(N ps:List Cell)(k:Nat):Nat:=(N.filter fun y=>decide (y∈ps.drop (k+1))).length
def pL(zs:List Str)(w:Nat)(ps:List Cell)(k:Nat)(l:List Cell):Bool:=
 (oV zs w ps).all fun t=>iV (dI zs w ps t) (dU zs t) (lJ (dI zs w ps t) ps k) l
theorem TY{N:List Cell}{a b c:Cell->Bool}(h:∀ y∈N,a y=true->b y=true\/c y=true):(N.filter a).length<=(N.filter b).length+(N.filter c).length:=by
 induction N with
 |nil=>simp
 |cons y N e=>
  have l:=e fun f d=>h f (gk _ d)
  have k:=h y eF;simp only[vp];cases g:a y<;>cases i:b y<;>cases j:c y<;>simp_all<;>lia
theorem W0{N:List Cell}{a b:Cell->Bool}(h:∀ y∈N,a y=true->b y=true):(N.filter a).length<=(N.filter b).length:=by
 have:=TY (N:=N) (a:=a) (b:=b) (c:=fun _=>false) fun y d f=>.inl (h y d f)
 have e:N.filter (fun _=>false)=[]:=Rt.mpr fun _ _=>gC
 rw[e] at this;simpa using this
theorem IK{N:List Cell}{a:Cell->Bool}(h:∀ y∈N,a y=false):(N.filter a).length=0:=by
 rw[Rt.mpr fun y b=>by rw[h y b];exact gC];rfl
theorem IV{N:List Cell}{a b:Cell->Bool}(h:∀ y∈N,a y=b y):(N.filter a).length=(N.filter b).length:=by rw[tE h]
section
variable{zs:List Str}{w:Nat}{ps:List Cell}
structure Part(zs:List Str)(w:Nat)(ps:List Cell):Prop where
 asc:ps.Pairwise cM
 ne:ps≠[]
 cl:∀ x∈ps,aP zs w x=true/\inF zs.length w x
 all:∀ x∈ps,∀ t∈aM zs w x,∀ y∈aG zs w t,y∈ps
theorem Part.join{c:Cell}(e:zs.length<=6)(h:w<=6)(d:c∈aY zs w):Part zs w (dJ zs w c):=by
 have a:=jB d;refine⟨o7 e h,fun i=>?_,fun x b=>?_,fun x b t f y g=>?_⟩
 ·have:c∈dJ zs w c:=(fO a).mpr .base;rw[i] at this;cases this
 ·have:=jj.edge d ((fO a).mp b);exact⟨(qG.mp this).1,jB this⟩
 ·exact(fO a).mpr (.step ((fO a).mp b) f g)
theorem Part.nd(p:Part zs w ps):ps.Nodup:=kZ p.asc
theorem Part.near(p:Part zs w ps){x t:Cell}(a:x∈ps)(c:t∈aM zs w x):x∈aG zs w t:=by
 obtain⟨h1,h2,b⟩:=gR c;exact cG.mpr ⟨o8 b (p.cl x a).2,(p.cl x a).1⟩
theorem Jc{x t:Cell}(a:x∈aG zs w t)(b:inF zs.length w t)(to:aP zs w t=false):t∈aM zs w x:=by
 obtain⟨h1,h2⟩:=cG.mp a;exact cG.mpr ⟨o8 h1 b,by rw[to];rfl⟩
theorem Part.some(p:Part zs w ps){x t:Cell}(c:x∈ps)(b:t∈aM zs w x):dI zs w ps t=aG zs w t:=by
 unfold dI aG;refine tE fun y d=>?_
 cases a:aP zs w y
 ·exact cD fun e=>by rw[(p.cl y e).1] at a;cases a
 ·exact bQ (p.all x c t b y (cG.mpr ⟨d,a⟩))
theorem Part.told(v:Vw zs w)(p:Part zs w ps)(t:Cell):t∈oV zs w ps↔∃ x∈ps,t∈aM zs w x:=by
 unfold oV;rw[cG,lV v,jx,List.length_pos_iff_exists_mem];constructor
 ·rintro⟨⟨h1,h2⟩,x,b⟩;obtain⟨d,a⟩:=cG.mp b;have a:=cT a;exact⟨x,a,Jc (cG.mpr ⟨d,(p.cl x a).1⟩) h1 h2⟩
 ·rintro⟨x,b,c⟩;obtain⟨h1,h2,_⟩:=gR c;refine⟨⟨h1,h2⟩,x,?_⟩;rw[p.some b c];exact p.near b c
theorem Part.split(p:Part zs w ps){j:Nat}(d:j<ps.length){y:Cell}(f:y∈ps):(y∈ps.take (j+1)/\y∉ps.drop (j+1)/\jz (ps.getD j (0,0)) y=false)\/(y∉ps.take (j+1)/\y∈ps.drop (j+1)/\jz (ps.getD j (0,0)) y=true):=by
 have b:=p.asc;have e:=yc (j+1) ps;have nd:=p.nd;rw[<- e] at b nd;have g:=(zH.mp nd).2.2;have i:ps.getD j (0,0)∈ps.take (j+1):=by rw[lZ d];exact lD _ (dH.mpr rfl)
 by_cases h:y∈ps.take (j+1)
 ·left;refine⟨h,fun a=>g y h y a rfl,?_⟩;rw[lZ d] at h b;rcases dw.mp h with a|a
  ·have h1:=(wN.mp (wN.mp b).1).2.2 y a _ (dH.mpr rfl);exact cD (by unfold cM at *;lia)
  ·rw[dH.mp a];exact cD (by unfold cM;lia)
 ·right;rw[<- e] at f;have c:y∈ps.drop (j+1):=(dw.mp f).resolve_left h;exact⟨h,c,bQ ((wN.mp b).2.2 _ i y c)⟩
theorem Part.beh(p:Part zs w ps){j:Nat}(c:j<ps.length){N:List Cell}(b:∀ y∈N,y∈ps):Ep N (ps.getD j (0,0))=lJ N ps j:=by
 refine IV fun y d=>?_
 rcases p.split c (b y d) with⟨_,h2,a⟩|⟨_,h2,a⟩
 ·rw[a,cD h2]
 ·rw[a,bQ h2]
theorem J0{N l:List Cell}{f:Int}{r:Nat}:iV N f r l=true↔((qt N l:Int)<=f/\f<=(qt N l:Int)+r):=by
 unfold iV;rw[mK,jx,jx]
theorem Part.before(p:Part zs w ps){j:Nat}(g:j<ps.length){N l:List Cell}(e:∀ y∈N,y∈ps){f:Int}(h:(qt N l:Int)=f):iV N f (lJ N ps j) (upto ps (j+1) l)=true:=by
 rw[J0,<- h];constructor
 ·have:=W0 (N:=N) (a:=fun y=>decide (y∈upto ps (j+1) l)) (b:=fun y=>decide (y∈l)) fun y _ d=>bQ (cG.mp (cT d)).1
  unfold qt;lia
 ·have:=TY (N:=N) (a:=fun y=>decide (y∈l)) (b:=fun y=>decide (y∈upto ps (j+1) l)) (c:=fun y=>decide (y∈ps.drop (j+1))) fun y i d=>by
   rcases p.split g (e y i) with⟨h1,_,_⟩|⟨_,h2,_⟩
   ·exact .inl (bQ (cG.mpr ⟨cT d,bQ h1⟩))
   ·exact .inr (bQ h2)
  unfold qt lJ;lia
theorem Xq{j:Nat}{N l:List Cell}{f:Int}(b:∀ y∈N,y∈ps.take (j+1))(h0:lJ N ps j=0)(h:iV N f (lJ N ps j) (upto ps (j+1) l)=true):(qt N l:Int)=f:=by
 rw[J0,h0] at h;have e:qt N (upto ps (j+1) l)=qt N l:=IV fun y c=>by
  rw[tK];exact⟨fun a=>(cG.mp a).1,fun a=>cG.mpr ⟨a,bQ (b y c)⟩⟩
 rw[e] at h;lia
theorem a2o{N:List Cell}(h0:N≠[])(g:∀ y∈N,y∈ps):∃ j,j<ps.length/\ps.getD j (0,0)∈N/\∀ y∈N,y∈ps.take (j+1):=by
 have f:∀ k,k<=ps.length->(∀ y∈N,y∈ps.take k)->∃ j,j<ps.length/\ps.getD j (0,0)∈N/\∀ y∈N,y∈ps.take (j+1):=by
  intro k
  induction k with
  |zero=>
   intro _ h;cases N with
   |nil=>exact absurd rfl h0
   |cons a N=>have:=h a eF;rw[Hj] at this;cases this
  |succ k l=>
   intro m h;by_cases d:∀ y∈N,y∈ps.take k
   ·exact l (by lia) d
   ·have ⟨y,b,c⟩:∃ y,y∈N/\y∉ps.take k:=GD fun i=>d fun y b=>GD fun c=>i ⟨y,b,c⟩
    have:=h y b;rw[lZ (by lia)] at this;have e:y=ps.getD k (0,0):=dH.mp ((dw.mp this).resolve_left c);exact⟨k,by lia,by rw[<- e];exact b,h⟩
 exact f ps.length (bK _) (fun y b=>by rw[gP];exact g y b)
def a3W(zs:List Str)(w:Nat)(ps l:List Cell):Prop:=∀ x∈ps,∀ t∈aM zs w x,(qt (aG zs w t) l:Int)=dU zs t
theorem Part.a8G(p:Part zs w ps)(l:List Cell):l∈layAt (pP zs w ps) ps ps.length↔(l.Sublist ps/\a3W zs w ps l):=by
 rw[vR p.nd _ (bK _),gP];refine Sv fun n=>⟨fun h x d t c=>?_,fun h j a=>?_⟩
 ·have b:∀ y∈aG zs w t,y∈ps:=p.all x d t c;have f:=p.near d c;obtain⟨j,a,i,e⟩:=a2o (fun m=>by rw[m] at f;cases f) b;obtain⟨k,to,_⟩:=gR c;have:=nQ.mp (h j a) t (Jc i k to);rw[p.beh a b] at this;refine Xq e (IK fun y g=>?_) this;rcases p.split a (b y g) with⟨_,h2,_⟩|⟨h2,_,_⟩
  ·exact cD h2
  ·exact absurd (e y g) h2
 ·refine nQ.mpr fun t c=>?_
  have d:ps.getD j (0,0)∈ps:=by rw[getD_at a];exact mL _
  have b:∀ y∈aG zs w t,y∈ps:=p.all _ d t c;rw[p.beh a b];exact p.before a b (h _ d t c)
theorem Part.a8F(v:Vw zs w)(p:Part zs w ps)(l:List Cell):l∈layAt (pL zs w ps) ps ps.length↔(l.Sublist ps/\a3W zs w ps l):=by
 rw[vR p.nd _ (bK _),gP];have n:1<=ps.length:=by
  cases k:ps with
  |nil=>exact absurd k p.ne
  |cons a b=>simp
 refine Sv fun m=>⟨fun h x d t c=>?_,fun h j i=>?_⟩
 ·have f:∀ y∈aG zs w t,y∈ps:=p.all x d t c;have:=nQ.mp (h (ps.length-1) (by omega)) t ((p.told v t).mpr ⟨x,d,c⟩);rw[p.some d c] at this;have e:ps.length-1+1=ps.length:=by lia
  refine Xq (fun y g=>?_) (IK fun y g=>?_) this
  ·rw[e,gP];exact f y g
  ·rw[e,Sg];exact cD (by simp)
 ·refine nQ.mpr fun t c=>?_
  obtain⟨x,d,c⟩:=(p.told v t).mp c;have f:∀ y∈aG zs w t,y∈ps:=p.all _ d t c;rw[p.some d c];exact p.before i f (h _ d t c)
def eV(zs:List Str)(w:Nat)(ps:List Cell):List (List Cell):=(layAt (pP zs w ps) ps ps.length).mergeSort fun a b=>!llt b a
theorem lU:(eV zs w ps).Perm (layAt (pP zs w ps) ps ps.length):=List.mergeSort_perm _ _
theorem Wc:Vg (eV zs w ps):=by
 have h:(eV zs w ps).Pairwise fun a b=>(!llt b a)=true:=by
  refine List.pairwise_mergeSort (fun a b c h1 h2=>?_) (fun a b=>?_) _
  ·have h1:llt b a=false:=by simpa using h1
   have h2:llt c b=false:=by simpa using h2
   rw[yO.tr _ _ _ h1 h2];rfl
  ·cases h:llt b a
   ·rfl
   ·rw[yO.Mt _ _ h];rfl
 exact h.imp fun h=>by simpa using h
theorem Part.lays(p:Part zs w ps){a:List (List Cell)}(b:a.Perm (layAt (pP zs w ps) ps ps.length))(c:Vg a):a=eV zs w ps:=Te yO (b.trans lU.symm) c Wc
theorem Part.a2q(v:Vw zs w)(p:Part zs w ps){a:List (List Cell)}(b:a.Perm (layAt (pL zs w ps) ps ps.length))(c:Vg a):a=eV zs w ps:=by
 refine p.lays (b.trans ?_) c;refine(KQ (jP p.nd _ (bK _)) (jP p.nd _ (bK _))).mpr fun l=>?_
 rw[p.a8F v,p.a8G]
theorem Aw(h:ps.length<=12):(eV zs w ps).length<=4096:=by
 rw[lU.length_eq];exact cU (qz _ _ _) (Lh (by decide) h)
theorem Wd{l:List Cell}(a:l∈eV zs w ps):l.length<=ps.length:=qC _ l (lU.mem_iff.mp a)
theorem xu{x y:Cell}(e:zs.length<=6)(f:w<=6)(b:x∈aY zs w)(i:y∈dJ zs w x):dJ zs w y=dJ zs w x:=by
 have d:=jB b;have a:=(fO d).mp i;have h:=jj.edge b a;have g:=jj.symm (qG.mp b).1 d a;refine Jz (o7 e f) (o7 e f) fun j=>?_
 rw[fO (jB h),fO d];exact⟨fun c=>a.trans c,fun c=>g.trans c⟩
structure a1H(zs:List Str)(w:Nat)(ps:List (List Cell)):Prop where
 of:∀ p∈ps,∃ x∈aY zs w,p=dJ zs w x
 dis:ps.Pairwise fun a b=>∀ y∈a,y∉b
theorem FZ(l:zs.length<=6)(m:w<=6):∀(cs:List Cell)(e:List (List Cell)),(∀ c∈cs,c∈aY zs w)->a1H zs w e->a1H zs w (gK zs w cs e)/\(∀ c∈cs,∃ p∈gK zs w cs e,c∈p)/\(∀ p∈e,p∈gK zs w cs e)
 |[],e,_,ok=>by unfold gK;exact⟨ok,(fun c k=>by cases k),fun p i=>i⟩
 |c::cs,e,hcs,ok=>by
  have k:=hcs c eF;have A:=jB k;have s:c∈dJ zs w c:=(fO A).mpr .base;unfold gK;by_cases h:∃ p∈e,c∈p
  ·rw[aK h];obtain⟨n,o,j⟩:=FZ l m cs e (fun d g=>hcs d (gk _ g)) ok;refine⟨n,fun d g=>?_,j⟩;rcases dj.mp g with f|f
   ·obtain⟨p,i,u⟩:=h;exact⟨p,j p i,by rw[f];exact u⟩
   ·exact o d f
  ·rw[aJ h];have B:a1H zs w (e++[dJ zs w c]):=by
    refine⟨fun p i=>?_,wN.mpr ⟨ok.dis,a1f _ _,fun a q b t y z r=>?_⟩⟩
    ·rcases dw.mp i with f|f
     ·exact ok.of p f
     ·exact⟨c,k,dH.mp f⟩
    ·rw[dH.mp t] at r;obtain⟨x,v,rfl⟩:=ok.of a q;refine h ⟨_,q,?_⟩;rw[<- xu l m v z,xu l m k r];exact s
   obtain⟨n,o,j⟩:=FZ l m cs (e++[dJ zs w c]) (fun d g=>hcs d (gk _ g)) B;refine⟨n,fun d g=>?_,fun p i=>j p (mJ _ i)⟩;rcases dj.mp g with f|f
   ·exact⟨_,j _ (lD _ (dH.mpr rfl)),by rw[f];exact s⟩
   ·exact o d f
theorem vW(d:zs.length<=6)(g:w<=6):a1H zs w (bx zs w)/\∀ c∈aY zs w,∃ p∈bx zs w,c∈p:=by
 obtain⟨a,b,_⟩:=FZ (zs:=zs) (w:=w) d g (aY zs w) [] (fun c e=>e) ⟨(fun p f=>by cases f),.nil⟩;exact⟨a,b⟩
end
theorem oG(zs:List Str)(w:Nat)(x:Cell):(aG zs w x).length<=8:=cU (gW _ _) (gA _ _ _)
def Nh(zs:List Str)(w:Nat)(c t:Cell):Dt:=.tup [.int (dU zs t),.lst ((aG zs w t).map aC),.int (Ep (aG zs w t) c)]
def Jl(K:ao)(C:Addr):Sp:=fun vs H Q _=>∃(x:Addr)(v:V)(zs:List Str)(w:Nat)(c:Cell),vs=[.ref x,v]/\ig C H x zs w/\Den K H v (aC c)/\inF zs.length w c/\∀ q H',Fr K H H' q ((aM zs w c).map (Nh zs w c))->Q (.ref q) H'
section
variable{P:Program}{w:World}{K:ao}{mg:Str->Option Value}{base:Heap}{Z:Adr}
theorem QC{f:Addr}{aq:FuncData} (F:Fun K "demands" "demands" Bc f aq) (T:Txt K mg Z) (aJ:Df P w K mg base 3 "open_near" ["view","cell"] (tu K Z.View aM)) (aP:Df P w K mg base 3 "closed_near" ["view","cell"] (tu K Z.View aG)) (a3:Df P w K mg base 1 "figure" ["view","cell"] (Gq K Z.View)) :
  cR P w K mg base (CXE P w) 4 f aq ["view","last"] (Jl K Z.View):=by
 refine F.rok oO (fun a5 H Q E h=>?_) (fun cdv A outer s H a5 Q E S h=>?_)
 ·obtain⟨x,v,zs,w,c,rfl,_⟩:=h;rfl
 ·obtain⟨x,v,zs,w,c,rfl,af,ai,aR,aS⟩:=h;have aT:=mU S;refine⟨_,(au (aO (i:=2) oO.nd rfl (Or.inl rfl) (bZ ak)) (au (c7 dh rfl (aU (K:=K) (aV aJ S rfl aW (aj (rv 0) (aj (rv 1) ak)))) (aQ (i:=3) oO.nd rfl (Or.inl rfl)) (au (aO (i:=4) oO.nd rfl (Or.inl rfl) (aV aP S rfl aW (aj (rv 0) (aj (rv 3) ak)))) (au (pD (i:=5) oO.nd rfl rfl (by rfl) rfl (aU (K:=K) (rv 4)) (fun _ _ _=>(eO (bI (a7p (K:=K) aT) (rv 0) (rv 2) (cA _)))) (fun _ _ _=>(rv 0))) (aB (gM (lH (K:=K) lC mG mH dO (rv 2) (aj (fX (aj (aV a3 S rfl aW (aj (rv 0) (aj (rv 3) ak))) (aj (rv 4) (aj (aN (cQ (K:=K)) rfl T.cO bM (aj (rv 5) ak)) ak)))) ak))))))) (aB (bA (rv 2))))),?_⟩;refine aD (fun zzs H1=>∃ q:Addr,H q=none/\Same H H1/\H1 q=some (.lst [])/\zzs=[zzR x,some v,zzR q,zzN,zzN,zzN]) (fun R ac=>?_) ?_
  ·exact⟨by decide,fun q I=>ac _ _ ⟨q,I,Same.put I,aA,rfl⟩⟩
  rintro zzs H1 ⟨q,I,s1,an,rfl⟩;refine aD (fun zzs H2=>∃(g:List V)(p r n:Option V),Same H H2/\H2 q=some (.lst g)/\bf K (del q H2) g ((aM zs w c).map (Nh zs w c))/\zzs=[zzR x,some v,zzR q,p,r,n]) (fun R ac=>?_) ?_
  ·refine⟨_,rfl,_,rfl,x,_,zs,w,c,rfl,af.mono s1,ai.mono s1,aR,fun tl H2 f2=>?_⟩;obtain⟨W,ao,ag⟩:=f2.ls;have a0:W.length=(aM zs w c).length:=by rw[ag.length,aL]
   have a9:=yX zs w c;have a2:tl≠q:=fun N=>by have:=f2.new;rw[N,an] at this;cases this
   refine⟨tl,rfl,⟨_,SqL.of ao⟩,?_⟩;refine cN (K:=K) (xs:=W) (fun i zzs j=>∃(g:List V)(p r n:Option V),Same H j/\j tl=some (.lst W)/\bf K j W ((aM zs w c).map aC)/\j q=some (.lst g)/\bf K (del q j) g (((aM zs w c).take i).map (Nh zs w c))/\zzs=[zzR x,some v,zzR q,p,r,n])
    ⟨[],none,none,none,s1.trans f2.same,ao,ag,f2.same _ _ an,.nil,rfl⟩ (fun i zzs j _ G=>by obtain⟨_,_,_,_,_,e,_⟩:=G;exact SqL.of e) (fun i u zzs j aX G=>?_) (fun zzs j G=>?_)
   ·obtain⟨g,p,r,n,z,ap,X,O,B,rfl⟩:=G;obtain⟨a7,am,ah⟩:=X.get aX;rw[cP] at am;obtain⟨t,Y,rfl⟩:=gj.mp am;have hi:i<(aM zs w c).length:=(gO.mp Y).1;obtain⟨aw,to,_⟩:=gR (eX Y);refine aD (fun zzs C=>∃ a:Addr,Same j C/\j a=none/\Ls K C a ((aG zs w t).map aC)/\zzs=[zzR x,some v,zzR q,some u,zzR a,n]) (fun aF ad=>?_) ?_
    ·exact⟨_,rfl,_,rfl,x,_,zs,w,t,rfl,af.mono z,ah,aw,fun a C aa=>ad _ _ ⟨a,aa.same,aa.new,aa.ls,rfl⟩⟩
    rintro zzs C ⟨a,J,av,as,rfl⟩;obtain⟨a6,al,az⟩:=id as;have a8:=oG zs w t;refine aD (fun zzs k=>∃ b:Addr,Same C k/\Ls K k b (((aG zs w t).filter fun y=>jz c y).map aC)/\zzs=[zzR x,some v,zzR q,some u,zzR a,zzR b]) (fun aF ad=>?_) ?_
    ·refine⟨_,rfl,a,rfl,⟨_,SqL.of al⟩,dD (K:=K) (xs:=aG zs w t) (enc:=aC) (bJ (SqL.of al)) az (small (by lia)) (fun y=>jz c y) aC (fun y aY a4 k l d aE ab=>?_) (fun y aY _ a4 k l d aE ab=>⟨_,rfl,ab _ _ (Same.refl _) d⟩) (fun ys k l ay b ar=>?_)⟩
     ·exact⟨_,rfl,_,rfl,y,c,d,ai.mono (z.trans (J.trans l)),_,rfl,ab _ (Same.refl _)⟩
     ·exact ad _ _ ⟨b,l.and ar,.new ar ay,rfl⟩
    rintro zzs k ⟨b,l,aZ,rfl⟩;have D:=l _ _ (J _ _ O);have ba:g.length<=8:=by rw[B.length,aL,jd];lia
    refine⟨_,rfl,.inl ⟨rfl,_,SqL.of D⟩,?_⟩;refine⟨_,rfl,_,rfl,x,_,zs,w,t,rfl,af.mono (z.trans (J.trans l)),ah.mono (J.trans l),aw,to,?_⟩;refine⟨_,rfl,_,rfl,?_⟩;dsimp only[jL];refine mW aZ.den ?_;refine⟨sz rfl,fun m ae=>?_⟩;have L:=Same.put (o:=.tup [.int (dU zs t),.ref a,.int ((((aG zs w t).filter fun y=>jz c y).map aC).length:Int)]) ae;refine jQ (K:=K) (L _ _ D) (by lia) ?_;have M:SameBut q (upd k m (.tup [.int (dU zs t),.ref a,.int ((((aG zs w t).filter fun y=>jz c y).map aC).length:Int)])) (upd (upd k m (.tup [.int (dU zs t),.ref a,.int ((((aG zs w t).filter fun y=>jz c y).map aC).length:Int)])) q (.lst (g++[.ref m]))):=(SameBut.refl q _).put;have a1:a≠q:=fun N=>by rw[N,O] at av;cases av
    have aH:m≠q:=fun N=>by rw[N,D] at ae;cases ae
    have U:Same j (upd k m (.tup [.int (dU zs t),.ref a,.int ((((aG zs w t).filter fun y=>jz c y).map aC).length:Int)])):=(J.trans l).trans L;refine⟨g++[.ref m],_,_,_,M.of (z.trans U) I,M _ _ (U _ _ ap) a2,M.cells (L _ _ D) (X.mono U),aA,?_,rfl⟩;rw[iB,Y,d9];refine(B.mono ((U.but q).trans M).del).append (.cons ?_ .nil);have aI:Same (del q (upd k m (.tup [.int (dU zs t),.ref a,.int ((((aG zs w t).filter fun y=>jz c y).map aC).length:Int)]))) (del q (upd (upd k m (.tup [.int (dU zs t),.ref a,.int ((((aG zs w t).filter fun y=>jz c y).map aC).length:Int)])) q (.lst (g++[.ref m])))):=M.del;refine Den.mono aI ?_;unfold Nh;refine Den.tup (by rw[mR aH];exact aA) (.cons (.int _) (.cons (uy (L _ _ D) a1 (as.mono (l.trans L))).den (.cons ?_ .nil)));rw[aL];exact .int _
   ·obtain⟨g,p,r,n,z,ap,X,O,B,rfl⟩:=G;rw[a0,gP] at B;exact ac _ _ ⟨g,p,r,n,z,O,B,rfl⟩
  rintro zzs H2 ⟨g,p,r,n,s2,aK,ax,rfl⟩;exact⟨_,rfl,aS q _ ⟨s2,I,g,aK,ax.mono jW⟩⟩
theorem a1V{H:Hp}{v:V}{zs:List Str}{d:Nat}{c t:Cell}(h:Den K H v (Nh zs d c t)):∃(b:Addr)(y:V),v=.ref b/\H b=some (.tup [.int (dU zs t),y,.int (Ep (aG zs d t) c)])/\Den K H y (.lst ((aG zs d t).map aC)):=by
 unfold Nh at h;cases h with
 |tup f a=>
  cases a with
  |cons h1 a=>
   cases a with
   |cons h2 a=>
    cases a with
    |cons e a=>
     cases a;cases h1;cases e;exact⟨_,_,rfl,f,h2⟩
def rM(zs:List Str)(wd:Nat)(c:Cell)(ts l:List Cell):Bool:=ts.all fun t=>iV (aG zs wd t) (dU zs t) (Ep (aG zs wd t) c) l
def a4u(K:ao):Sp:=fun vs H Q _=>∃(v:V)(q:Addr)(zs:List Str)(wd:Nat)(c:Cell)(ts l:List Cell),vs=[v,.ref q]/\Den K H v (uJ l)/\Ls K H q (ts.map (Nh zs wd c))/\∀ H',Same H H'->Q (.bl (rM zs wd c ts l)) H'
theorem a5L{f:Addr}{ab:FuncData} (F:Fun K "may_hold" "may_hold" xV f ab) (T:Txt K mg Z):cR P w K mg base (CXE P w) 1 f ab ["laying","asked"] (a4u K):=by
 refine F.rok uT (fun ax H Q E h=>?_) (fun cdv A outer s H ax Q E ad h=>?_)
 ·obtain⟨v,q,zs,w,c,p,l,rfl,_⟩:=h;rfl
 ·obtain⟨v,q,zs,k,c,p,l,rfl,S,aq,J⟩:=h;have aA:=mU ad;have ap:=xq ad;refine⟨_,(au (c7 dh rfl (aU (K:=K) (rv 1)) (aQ (i:=2) uT.nd rfl (Or.inl rfl)) (au (aO (i:=3) uT.nd rfl (Or.inl rfl) (aN (cQ (K:=K)) rfl T.cO bM (aj (fU (by rfl) rfl (aU (K:=K) (cB (cL (K:=K)) (rv 2) aF)) (fun _ _ _=>(eO (bI (gG.or (tQ (K:=K) ap)) (rv 0) (rv 1) (by rfl)))) (fun _ _ _=>(rv 0))) ak))) (aB (dR (mX (qJ pB pB (rv 3) (cB (cL (K:=K)) (rv 2) aF) (bY bC (rv 3) (cB (cL (K:=K)) (rv 2) aF)))) (aB (bA qH)) bV)))) (aB (bA qH))),?_⟩;obtain⟨z,rfl⟩:∃ a,v=.ref a:=by cases S;exact⟨_,rfl⟩
  obtain⟨xs,ex,M⟩:=aq;have ar:xs.length=p.length:=by rw[M.length,aL]
  refine aD (fun zzs H1=>∃(m o:Option V),Same H H1/\rM zs k c p l=true/\zzs=[zzR z,zzR q,m,o]) (fun R al=>?_) ?_
  ·refine⟨_,rfl,q,rfl,⟨_,SqL.of ex⟩,?_⟩;refine cN (K:=K) (xs:=xs) (fun i zzs H1=>∃(m o:Option V),Same H H1/\(∀ t∈p.take i,iV (aG zs k t) (dU zs t) (Ep (aG zs k t) c) l=true)/\zzs=[zzR z,zzR q,m,o])
    ⟨none,none,Same.refl _,(fun t ao=>by cases ao),rfl⟩ (fun i zzs H1 _ x=>by obtain⟨_,_,g,_⟩:=x;exact SqL.of (g _ _ ex)) (fun i u zzs H1 hi x=>?_) (fun zzs H1 x=>?_)
   ·obtain⟨m,o,r,B,rfl⟩:=x;obtain⟨d,Y,ai⟩:=M.get hi;rw[cP] at Y;obtain⟨t,aa,rfl⟩:=gj.mp Y;obtain⟨b,y,rfl,W,U⟩:=a1V (ai.mono r);obtain⟨ay,rfl⟩:∃ a,y=.ref a:=by cases U;exact⟨_,rfl⟩
    have aE:=oG zs k t;refine aD (fun zzs H2=>Same H1 H2/\zzs=[zzR z,zzR q,zzR b,zzI (qt (aG zs k t) l)]) (fun az am=>?_) ?_
    ·refine⟨_,rfl,.inr (.inl ⟨b,_,_,_,rfl,rfl,SqT.of W,dG (j:=1) rfl,?_⟩)⟩;cases U with
     |lst C ag=>
      refine⟨ay,rfl,⟨_,C⟩,dD (K:=K) (xs:=aG zs k t) (enc:=aC) (bJ C) ag (small (by lia)) (fun y=>decide (y∈l)) aC (fun y C aw N D d ah G=>?_) (fun y C _ aw N D d ah G=>⟨_,rfl,G _ _ (Same.refl _) d⟩) (fun ys N D af n ac=>?_)⟩
      ·exact⟨_,rfl,_,rfl,.inr (z8 d (S.mono (r.trans D)) ⟨_,rfl,G _ (Same.refl _)⟩)⟩
      ·dsimp only[jL];refine mW (Ls.new ac af).den ?_;rw[aL];exact am _ _ ⟨D.and ac,rfl⟩
    rintro zzs H2 ⟨s2,rfl⟩;have X:=s2 _ _ W;have as:iV (aG zs k t) (dU zs t) (Ep (aG zs k t) c) l=true->∃(m o:Option V),Same H H2/\(∀ t∈p.take (i+1),iV (aG zs k t) (dU zs t) (Ep (aG zs k t) c) l=true)/\[zzR z,zzR q,zzR b,zzI (qt (aG zs k t) l)]=[some (V.ref z),some (.ref q),m,o]:=fun I=>⟨_,_,r.trans s2,fun av ae=>by
     rw[iB,aa] at ae;rcases dw.mp ae with L|L
     ·exact B av L
     ·rw[dH.mp L];exact I,rfl⟩
    have O:iV (aG zs k t) (dU zs t) (Ep (aG zs k t) c) l=false->Q (.bl false) H2:=fun I=>by
     have:rM zs k c p l=false:=by
      cases e:rM zs k c p l
      ·rfl
      ·have:=nQ.mp e t (eX aa);rw[I] at this;cases this
     rw[<- this];exact J _ (r.trans s2)
    refine⟨_,rfl,_,rfl,.inr (.inl ⟨b,_,_,_,rfl,rfl,SqT.of X,fV,?_⟩)⟩;refine⟨_,_,rfl,rfl,_,rfl,?_⟩;refine dW (fun h1=>?_) (fun h1=>?_)
    ·refine⟨_,rfl,_,rfl,.inr (.inl ⟨b,_,_,_,rfl,rfl,SqT.of X,dG (j:=2) rfl,?_⟩)⟩;refine⟨_,_,rfl,rfl,_,rfl,?_⟩;refine dW (fun h2=>?_) (fun h2=>?_)
     ·refine O ?_;unfold iV;rw[show decide (dU zs t<=(qt (aG zs k t) l:Int)+(Ep (aG zs k t) c:Int))=false by simpa only[qQ] using h2,yq]
     ·refine as ?_;unfold iV;rw[h1,show decide (dU zs t<=(qt (aG zs k t) l:Int)+(Ep (aG zs k t) c:Int))=true by simpa only[vd] using h2];rfl
    ·refine⟨_,rfl,Fx ?_⟩;refine O ?_;unfold iV;rw[h1];rfl
   ·obtain⟨m,o,r,B,rfl⟩:=x;rw[ar,gP] at B;exact al _ _ ⟨m,o,r,nQ.mpr B,rfl⟩
  rintro zzs H1 ⟨m,o,s1,an,rfl⟩;rw[an] at J;exact J _ s1
theorem Az{K:ao}{H0 H:Hp}:∀ {vs:List V} {c:List (List Cell)},fQ (jl K H0) H vs c->∃ b:List Addr,vs=b.map V.ref
 |_,_,.nil=>⟨[],rfl⟩
 |_,_,.cons h t=>by
  obtain⟨a,rfl,_⟩:=h;obtain⟨b,e⟩:=Az t;exact⟨a::b,by rw[e];rfl⟩
theorem a4h{K:ao}{H0 H:Hp}{q:Addr}{c:List Addr}{g:List (List Cell)}(r:fQ (jl K H0) H (c.map V.ref) g)(nd:g.Nodup)(h:H q=none):pQ K H0 (upd H q (.lst (c.map V.ref))) q c g:=by
 have s1:=Same.put (o:=.lst (c.map V.ref)) h;have d:∀(i:Nat)(a:Addr),c[i]?=some a->∃ p,g[i]?=some p/\jl K H0 p (.ref a) H:=fun i a e=>r.get (by rw[cP,e];rfl)
 have len:c.length=g.length:=by have:=r.length;rwa[aL] at this
 refine⟨aA,len,fun i a p h1 h2=>?_,fun a u=>?_,?_,fun x=>?_⟩
 ·obtain⟨k,e,b,f,_,l⟩:=d i a h1;rw[h2] at e;cases e;cases f;exact l.mono s1
 ·obtain⟨i,hi⟩:=tU u;obtain⟨k,e,b,f,n,l⟩:=d i a hi;cases f;exact n
 ·rw[List.nodup_iff_pairwise_ne,Dg];intro i j hi v y e;obtain⟨p,s,m⟩:=d i _ (fY hi);obtain⟨k,t,w⟩:=d j _ (fY v);rw[e] at m;have:=m.det w;subst this;have h1:=(gO.mp s)
  have h2:=(gO.mp t)
  have:i=j:=(List.getElem_inj nd).mp (h1.2.trans h2.2.symm);lia
 ·obtain⟨i,hi⟩:=tU x;obtain⟨k,e,b,f,n,xs,ex,_⟩:=d i q hi;cases f;rw[ex] at h;cases h
def Jm(K:ao)(C NC TG:Addr):Sp:=fun vs H Q E=>∃(x:Addr)(v:V)(zs:List Str)(w:Nat)(c:Cell),vs=[.ref x,v]/\ig C H x zs w/\Den K H v (aC c) /\
 (c∉aY zs w->∀ H',Same H H'->E (.ref NC) none H')/\(c∈aY zs w->12<(dJ zs w c).length->∀ H',Same H H'->E (.ref TG) none H') /\
 (c∈aY zs w->(dJ zs w c).length<=12->∀(q:Addr)(qs:List Addr)(H':Hp),H q=none->Same H H'->pQ K H H' q qs (eV zs w (dJ zs w c))->Q (.ref q) H')
theorem QD{f:Addr}{aT:FuncData} (F:Fun K "layings" "layings" Bh f aT) (T:Txt K mg Z) (bF:Df P w K mg base 4 "edge" ["view"] (uV K Z.View aY)) (bu:Df P w K mg base 4 "joined" ["view","cell"] (Gs K Z.View)) (bE:Df P w K mg base 4 "demands" ["view","last"] (Jl K Z.View)) (bD:Df P w K mg base 1 "may_hold" ["laying","asked"] (a4u K)) :
  cR P w K mg base (CXE P w) 5 f aT ["view","cell"] (Jm K Z.View Z.NoCell Z.TooGreat):=by
 refine F.ZV jK (fun bB H Q E h=>?_) (fun cdv A outer s H bB Q E N h=>?_)
 ·obtain⟨x,v,zs,w,c,rfl,_⟩:=h;rfl
 ·obtain⟨x,v,zs,w,c,rfl,ae,aH,aX,aZ,a2⟩:=h;have bh:=mU N;have bi:=xq N;have a0:=U5 N;have a7:=ae.vw.le;have a6:=ae.vw.w6;refine⟨_,(au (dR (RT.nox (bI (fZ.or (jZ (K:=K) bi)) (rv 1) (aV bF N rfl aW (aj (rv 0) ak)) (by rfl))) (aB (qI T.oW rfl T.uw a0 (aj iy ak))) bV) (au (RS.nox (aO (i:=2) jK.nd rfl (Or.inl rfl) (aV bu N rfl aW (aj (rv 0) (aj (rv 1) ak))))) (au (dR (RT.nox (bI yS (aN (cQ (K:=K)) rfl T.cO bM (aj (rv 2) ak)) (QT T.jo rfl) (cA _))) (aB (qI T.m8 rfl T.wY a0 (aj iy ak))) bV) (au (RS.nox (aO (i:=3) jK.nd rfl (Or.inl rfl) (bZ (aj (bZ ak) ak)))) (au (RS.nox (c7 dh rfl (aU (K:=K) (rv 2)) (aQ (i:=4) jK.nd rfl (Or.inr rfl)) (au (aO (i:=5) jK.nd rfl (Or.inr rfl) (aV bE N rfl aW (aj (rv 0) (aj (rv 4) ak)))) (au (aO (i:=6) jK.nd rfl (Or.inl rfl) (bY bC (rv 3) (fU (by rfl) rfl (aU (K:=K) (rv 3)) (fun _ _ _=>kJ) (fun _ _ _=>(bY bC (rv 0) (bZ (aj (rv 5) ak))))))) (aB (pD (i:=3) jK.nd rfl rfl (by rfl) rfl (aU (K:=K) (rv 6)) (fun _ _ _=>(eO (jJ (aV bD N rfl aW (aj (rv 0) (aj (rv 6) ak)))))) (fun _ _ _=>(rv 0)))))))) (aB (RS.nox (bA (aN (Ua (K:=K) bh) rfl T.ur vI (aj (rv 3) ak)))))))))),?_⟩;refine aD (fun zzs H1=>c∈aY zs w/\Same H H1/\zzs=[zzR x,some v,zzN,zzN,zzN,zzN,zzN]) (fun R z=>?_) ?_
  ·refine⟨_,rfl,_,rfl,x,zs,w,rfl,ae,fun bL H1 C=>.inr (kI (aH.mono C.same) C.ls.den ⟨_,rfl,?_⟩)⟩;refine dW (fun h1=>⟨by decide,aX (iW (by simpa only[qQ] using h1)) H1 C.same⟩) (fun h1=>z _ _ ⟨cT (by simpa only[vd] using h1),C.same,rfl⟩)
  rintro zzs H1 ⟨ag,s1,rfl⟩;have a1:=jB ag;have pt:=Part.join a7 a6 ag;refine aD (fun zzs H2=>∃(g:Addr)(k:List V),Same H H2/\H2 g=some (.lst k)/\bf K H2 k ((dJ zs w c).map aC)/\zzs=[zzR x,some v,zzR g,zzN,zzN,zzN,zzN]) (fun R z=>?_) ?_
  ·refine⟨_,rfl,_,rfl,x,_,zs,w,c,rfl,ae.mono s1,aH.mono s1,a1,fun a H2 ds bp s2 ah ao bm=>?_⟩;have e:ds=dJ zs w c:=Jz ao (o7 a7 a6) fun y=>by rw[bm y,fO a1]
   rw[e] at ah;obtain⟨k,af,Y⟩:=ah;exact z _ _ ⟨a,k,s1.trans s2,af,Y,rfl⟩
  rintro zzs H2 ⟨g,k,s2,af,Y,rfl⟩;have bl:k.length=(dJ zs w c).length:=by rw[Y.length,aL]
  refine aD (fun zzs aF=>(dJ zs w c).length<=12/\aF=H2/\zzs=[zzR x,some v,zzR g,zzN,zzN,zzN,zzN]) (fun R z=>?_) ?_
  ·refine⟨_,rfl,?_⟩;dsimp only[jL];refine mW (Den.lst (SqL.of af) Y) ⟨_,_,rfl,rfl,_,rfl,?_⟩;rw[aL];refine dW (fun h1=>⟨by decide,aZ ag (by have:=cT h1;lia) H2 s2⟩) (fun h1=>z _ _ ⟨by have:=iW h1;lia,rfl,rfl⟩)
  rintro zzs aF ⟨be,rfl,rfl⟩;have bg:=a2 ag be;clear aX aZ a2;generalize bO:dJ zs w c=ps at *;refine aD (fun zzs W=>∃(b:Addr)(bs:List V),Same H W/\W g=some (.lst k)/\bf K W k (ps.map aC)/\W b=some (.lst bs)/\fQ (jl K H) W bs (layAt (pP zs w ps) ps 0)/\zzs=[zzR x,some v,zzR g,zzR b,zzN,zzN,zzN]) (fun R z=>?_) ?_
  ·refine⟨by decide,fun aI a3=>?_⟩;dsimp only[jL];refine⟨sz rfl,fun b a4=>?_⟩;have j:=Same.put (o:=.lst []) a3;have O:=j.and (o:=.lst [.ref aI]) a4;refine z _ _ ⟨b,_,s2.trans O,O _ _ af,Y.mono O,aA,.cons ⟨aI,rfl,s2.free a3,[],?_,.nil⟩ .nil,rfl⟩;exact(Same.put a4) _ _ aA
  rintro zzs W ⟨b,bs,bx,aP,a9,bc,bv,rfl⟩;refine aD (fun zzs d=>∃(b:Addr)(bs:List V)(S U I:Option V),Same H d/\d b=some (.lst bs)/\fQ (jl K H) d bs (layAt (pP zs w ps) ps ps.length)/\zzs=[zzR x,some v,zzR g,zzR b,S,U,I]) (fun R z=>?_) ?_
  ·refine⟨_,rfl,g,rfl,⟨_,SqL.of aP⟩,?_⟩;refine cN (K:=K) (xs:=k) (fun i zzs d=>∃(b:Addr)(bs:List V)(S U I:Option V),Same H d/\d g=some (.lst k)/\bf K d k (ps.map aC)/\d b=some (.lst bs)/\fQ (jl K H) d bs (layAt (pP zs w ps) ps i)/\zzs=[zzR x,some v,zzR g,zzR b,S,U,I])
    ⟨b,bs,none,none,none,bx,aP,a9,bc,bv,rfl⟩ (fun i zzs d _ ac=>by obtain⟨_,_,_,_,_,_,e,_⟩:=ac;exact SqL.of e) (fun i u zzs d hi ac=>?_) (fun zzs d ac=>?_)
   ·obtain⟨b,bs,S,U,I,D,aR,am,M,t,rfl⟩:=ac;obtain⟨bH,aK,aG⟩:=am.get hi;rw[cP] at aK;obtain⟨m,ap,rfl⟩:=gj.mp aK;have bN:i<ps.length:=(gO.mp ap).1;have bb:ps.getD i (0,0)=m:=by rw[fM,ap];rfl
    have bn:m∈ps:=eX ap;have bk:bs.length<=2048:=by
     rw[t.length];exact cU (qz _ _ _) (Lh (by decide) (show i<=11 by lia))
    have bP:(layAt (pP zs w ps) ps i).length<=2048:=by rw[<- t.length];exact bk
    refine aD (fun zzs aa=>∃ L:Addr,Same d aa/\Ls K aa L ((aM zs w m).map (Nh zs w m))/\zzs=[zzR x,some v,zzR g,zzR b,some u,zzR L,I]) (fun ba aq=>?_) ?_
    ·exact⟨_,rfl,_,rfl,x,_,zs,w,m,rfl,ae.mono D,aG,(pt.cl m bn).2,fun L aa aS=>aq _ _ ⟨L,aS.same,aS.ls,rfl⟩⟩
    rintro zzs aa ⟨L,G,ah,rfl⟩;refine aD (fun zzs J=>∃(X:Addr)(ay:List V),Same aa J/\J X=some (.lst ay)/\fQ (jl K H) J ay (layAt (pP zs w ps) ps i++(layAt (pP zs w ps) ps i).map (·++[m]))/\zzs=[zzR x,some v,zzR g,zzR b,some u,zzR L,zzR X]) (fun ba aq=>?_) ?_
    ·refine⟨_,rfl,_,rfl,b,rfl,⟨_,SqL.of (G _ _ M)⟩,?_⟩;refine vL (jl.stays) (jl.stays (K:=K) (H0:=H)) (bJ (SqL.of (G _ _ M))) (t.mono jl.stays G) (small (by lia)) (fun l=>l++[m]) (fun l ar y J B ad aE ab=>?_) (fun ys J B az n as=>?_)
     ·obtain⟨a,rfl,bp,bj⟩:=ad;have bQ:=qC _ l ar;refine⟨_,rfl,_,rfl,?_⟩;dsimp only[jL];refine⟨sz rfl,fun p1 bo=>?_⟩;have j:=Same.put (o:=.lst [u]) bo;refine xQ (K:=K) (bj.mono j) (show Ls K (upd J p1 (.lst [u])) p1 ([m].map aC) from⟨[u],aA,.cons (aG.mono ((G.trans B).trans j)) .nil⟩) (by rw[aL,aL,jC];lia) fun r an C=>?_
      refine ab _ _ (j.trans C.same) ⟨r,rfl,(D.trans ((G.trans B).trans j)).free C.new,?_⟩;rw[d9];exact C.ls
     ·have j:=Same.put (o:=.lst ys) as;refine⟨bs,ys,j _ _ (B _ _ (G _ _ M)),aA,small (by have:=az.length;rw[aL] at this;lia),fun X bq=>?_⟩;have O:=j.and (o:=.lst (bs++ys)) bq;exact aq _ _ ⟨X,_,B.trans O,aA,(t.mono jl.stays (G.trans (B.trans O))).append (az.mono jl.stays O),rfl⟩
    rintro zzs J ⟨X,ay,B,aJ,bw,rfl⟩;have bR:(layAt (pP zs w ps) ps i++(layAt (pP zs w ps) ps i).map (·++[m])).length<=4096:=by rw[cH,aL];lia
    refine⟨_,rfl,X,rfl,⟨_,SqL.of aJ⟩,?_⟩;refine Ew (jl.stays) (jl.stays (K:=K) (H0:=H)) (bJ (SqL.of aJ)) bw (small (by lia)) (fun l=>rM zs w m (aM zs w m) l) id (fun l ar y an al ad aE ab=>?_) (fun l ar _ y an al ad aE ab=>⟨_,rfl,ab _ _ (Same.refl _) ad⟩) (fun ys an al a8 n as=>?_)
    ·refine⟨_,rfl,_,rfl,y,L,zs,w,m,aM zs w m,l,rfl,ad.den,ah.mono (B.trans al),fun bG bz=>⟨_,rfl,ab _ bz⟩⟩
    ·have j:=Same.put (o:=.lst ys) as;have ax:=(G.trans B).trans (al.trans j);refine⟨n,ys,_,_,_,D.trans ax,ax _ _ aR,am.mono ax,aA,?_,rfl⟩;have e:layAt (pP zs w ps) ps (i+1)=((layAt (pP zs w ps) ps i++(layAt (pP zs w ps) ps i).map (·++[m])).filter (fun l=>rM zs w m (aM zs w m) l)).map id:=by
      rw[T8];show(layAt (pP zs w ps) ps i++(layAt (pP zs w ps) ps i).map (·++[ps.getD i (0,0)])).filter (pP zs w ps i)=_;unfold pP rM;rw[bb]
     rw[e];exact a8.mono jl.stays j
   ·obtain⟨b,bs,S,U,I,D,aR,am,M,t,rfl⟩:=ac;rw[bl] at t;exact z _ _ ⟨b,bs,S,U,I,D,M,t,rfl⟩
  rintro zzs d ⟨b,bs,S,U,I,D,M,t,rfl⟩;have nd:=jP (p:=pP zs w ps) pt.nd _ (bK ps.length);refine⟨_,rfl,b,bs,layAt (pP zs w ps) ps ps.length,rfl,SqL.of M,t.a4Z fun a v h=>h.den,fun q o av a5 ao=>?_⟩;have lo:∀ i∈o,i<bs.length:=fun i hi=>fP.mp (a5.mem_iff.mp hi)
  have ai:=fQ.by (d0:=[]) o t lo;have bt:(o.map fun i=>(layAt (pP zs w ps) ps ps.length).getD i []).Perm (layAt (pP zs w ps) ps ps.length):=vY (by rw[<- t.length];exact a5);rw[pt.lays bt ao] at ai;have br:(eV zs w ps).Nodup:=lU.nodup_iff.mpr nd;obtain⟨aw,bd⟩:∃ aw:List Addr,(o.map fun i=>bs.getD i .non)=aw.map V.ref:=Az ai;rw[bd] at ai ⊢;exact bg q aw _ (D.free av) (D.and av) (a4h ai br av)
end
def Gx(zs:List Str)(w:Nat)(ps:List Cell)(t:Cell):Dt:=.tup [.int (dU zs t),.lst ((dI zs w ps t).map aC)]
theorem Yb{K:ao}{H:Hp}{v:V}{zs:List Str}{d:Nat}{c:List Cell}{t:Cell}(h:Den K H v (Gx zs d c t)):∃(b:Addr)(y:V),v=.ref b/\H b=some (.tup [.int (dU zs t),y])/\Den K H y (.lst ((dI zs d c t).map aC)):=by
 unfold Gx at h;cases h with
 |tup e a=>
  cases a with
  |cons h1 a=>
   cases a with
   |cons h2 a=>
    cases a;cases h1;exact⟨_,_,rfl,e,h2⟩
theorem XR(xs:List V)(n:Nat):Ey xs (some (n:Int)) none=xs.drop n:=by
 unfold Ey;rw[HT.uK];have e:HT.sIx xs.length 0 (some (n:Int))=min n xs.length:=HT.zq ..;rw[e];by_cases h:n<=xs.length
 ·rw[Ck h];exact Di (by simp)
 ·rw[Nat.min_eq_right (by lia),T4,Hj,Lb (by lia)]
theorem Iu{K:ao}{H:Hp}:∀(n:Nat){vs:List V}{a:List Dt},bf K H vs a->bf K H (vs.drop n) (a.drop n)
 |0,_,_,h=>h
 |n+1,_,_,.nil=>.nil
 |n+1,_,_,.cons h t=>Iu n t
def wW(K:ao)(H0:Hp)(lg:Addr)(r:List Cell)(v:V)(H:Hp):Prop:=jl K H0 r v (del lg H)
theorem wW.stays{K:ao}{H0:Hp}{a:Addr}:Cz (wW K H0 a):=fun r v H H' s h=>jl.stays _ _ _ _ s.del h
def Gu(K:ao):Sp:=fun vs H Q _=>∃(p pl:Addr)(zs:List Str)(w:Nat)(ps:List Cell),vs=[.ref p,.ref pl]/\SqL K H p (zs.map V.str)/\Vw zs w/\Ls K H pl (ps.map aC)/\Part zs w ps/\ps.length<=12 /\
 ∀(q:Addr)(qs:List Addr)(H':Hp),H q=none->Same H H'->pQ K H H' q qs (eV zs w ps)->Q (.ref q) H'
section
variable{P:Program}{w:World}{K:ao}{mg:Str->Option Value}{base:Heap}{Z:Adr}
theorem Oa{f:Addr}{cr:FuncData} (F:Fun K "_law_layings" "_law_layings" oJ f cr) (T:Txt K mg Z) (da:Df P w K mg base 1 "_law_sizes" ["rows"] (wj K)) (c8:Df P w K mg base 1 "_law_cells" ["rows","signs"] (sZ K)) (db:Df P w K mg base 1 "_law_near" ["height","width","cell"] (xY K)) :
  cR P w K mg base (CXE P w) 2 f cr ["rows","part"] (Gu K):=by
 refine F.rok bF (fun bs H Q E h=>?_) (fun cdv A outer s H bs Q E a8 h=>?_)
 ·obtain⟨p,J,zs,w,ps,rfl,_⟩:=h;rfl
 ·obtain⟨p,J,zs,c,ps,rfl,bT,ay,b0,pt,ed,dx⟩:=h;have dz:=mU a8;have bX:=xq a8;have d3:=ay.le;have d2:=ay.w6;refine⟨_,(au (kO (aV da a8 rfl aW (aj (rv 0) ak)) (lW rfl (cC (aQ (i:=2) bF.nd rfl (Or.inl rfl)) (cC (aQ (i:=3) bF.nd rfl (Or.inl rfl)) jq)))) (au (aO (i:=4) bF.nd rfl (Or.inl rfl) (bZ ak)) (au (c7 dh rfl (aU (K:=K) (aV c8 a8 rfl aW (aj (rv 0) (aj iy ak)))) (aQ (i:=5) bF.nd rfl (Or.inl rfl)) (au (pD (i:=6) bF.nd rfl rfl (by rfl) rfl (aU (K:=K) (aV db a8 rfl aW (aj (rv 2) (aj (rv 3) (aj (rv 5) ak))))) (fun _ _ _=>(eO (bI (gG.or (tQ (K:=K) bX)) (rv 0) (rv 2) (by rfl)))) (fun _ _ _=>(rv 0))) (aB (dR (bI yS (aN (cQ (K:=K)) rfl T.cO bM (aj (rv 6) ak)) aF (cA _)) (aB (gM (lH (K:=K) lC mG mH dO (rv 4) (aj (fX (aj (kE Ij rfl T.Eo Aa (aj (cB (cL (K:=K)) (cB (cL (K:=K)) (rv 0) (cB (cL (K:=K)) (rv 5) aF)) (cB (cL (K:=K)) (rv 5) aF)) ak)) (aj (rv 6) ak))) ak)))) bV)))) (au (aO (i:=7) bF.nd rfl (Or.inl rfl) (bZ (aj (bZ ak) ak))) (au (c7 dh rfl (NK (K:=K) rfl T.uq (aj (rv 1) ak)) (lW rfl (cC (aQ (i:=8) bF.nd rfl (Or.inr rfl)) (cC (aQ (i:=9) bF.nd rfl (Or.inr rfl)) jq))) (au (aO (i:=10) bF.nd rfl (Or.inl rfl) (bZ ak)) (au (c7 dh rfl (aU (K:=K) (bY bC (rv 7) (fU (by rfl) rfl (aU (K:=K) (rv 7)) (fun _ _ _=>kJ) (fun _ _ _=>(bY bC (rv 0) (bZ (aj (rv 10) ak))))))) (aQ (i:=11) bF.nd rfl (Or.inr rfl)) (au (aO (i:=12) bF.nd rfl (Or.inl rfl) qH) (au (c7 dh rfl (aU (K:=K) (rv 4)) (lW rfl (cC (aQ (i:=13) bF.nd rfl (Or.inl rfl)) (cC (aQ (i:=6) bF.nd rfl (Or.inl rfl)) jq))) (au (aO (i:=14) bF.nd rfl (Or.inl rfl) (aN (cQ (K:=K)) rfl T.cO bM (aj (fU (by rfl) rfl (aU (K:=K) (rv 6)) (fun _ _ _=>(eO (bI (gG.or (tQ (K:=K) bX)) (rv 0) (rv 12) (by rfl)))) (fun _ _ _=>(rv 0))) ak))) (au (aO (i:=15) bF.nd rfl (Or.inl rfl) (aN (cQ (K:=K)) rfl T.cO bM (aj (fU (by rfl) rfl (aU (K:=K) (rv 6)) (fun _ _ _=>(eO (bI (gG.or (tQ (K:=K) bX)) (rv 0) (z7 (Yy (K:=K)) (rv 2) (zj (bY bC (rv 9) aF)) zf) (by rfl)))) (fun _ _ _=>(rv 0))) ak))) (aB (dR (mX (qJ pB pB (rv 14) (rv 13) (bY bC (rv 14) (rv 15)))) (aB (aO (i:=12) bF.nd rfl (Or.inl rfl) qH)) bV))))) (aB (dR (jJ (rv 12)) (aB (gM (lH (K:=K) lC mG mH dO (rv 10) (aj (rv 11) ak)))) bV))))) (aB (aO (i:=7) bF.nd rfl (Or.inl rfl) (rv 10)))))) (aB (bA (aN (Ua (K:=K) dz) rfl T.ur vI (aj (rv 7) ak))))))))),?_⟩;obtain⟨cy,cl,cb⟩:=id b0;have dC:cy.length=ps.length:=by rw[cb.length,aL]
  refine aD (fun zzs H1=>Same H H1/\zzs=[zzR p,zzR J,zzI zs.length,zzI c,zzN,zzN,zzN,zzN,zzN,zzN,zzN,zzN,zzN,zzN,zzN,zzN]) (fun R ar=>?_) ?_
  ·exact⟨_,rfl,p,zs,c,rfl,bT,ay.toRect,fun t H' s' du=>⟨t,_,rfl,du,rfl,_,_,rfl,_,_,rfl,rfl,ar _ _ ⟨s',rfl⟩⟩⟩
  rintro zzs H1 ⟨s1,rfl⟩;refine aD (fun zzs H2=>∃ z:Addr,H z=none/\Same H H2/\H2 z=some (.lst [])/\zzs=[zzR p,zzR J,zzI zs.length,zzI c,zzR z,zzN,zzN,zzN,zzN,zzN,zzN,zzN,zzN,zzN,zzN,zzN]) (fun R ar=>?_) ?_
  ·exact⟨by decide,fun z n=>ar _ _ ⟨z,s1.free n,s1.and n,aA,rfl⟩⟩
  rintro zzs H2 ⟨z,dS,s2,cp,rfl⟩;refine aD (fun zzs an=>∃(ab:List V)(N x:Option V),Same H an/\an z=some (.lst ab)/\bf K an ab ((oV zs c ps).map (Gx zs c ps))/\zzs=[zzR p,zzR J,zzI zs.length,zzI c,zzR z,N,x,zzN,zzN,zzN,zzN,zzN,zzN,zzN,zzN,zzN]) (fun R ar=>?_) ?_
  ·refine⟨_,rfl,p,zs,c,"012345678",rfl,s2.seq bT,ay.toRect,fun b3 an ao=>?_⟩;obtain⟨bm,co,cc⟩:=ao.ls;have dE:bm.length=(bB zs c "012345678").length:=by rw[cc.length,aL]
   have eh:(bB zs c "012345678").length<=36:=cU (Ae _ _ _) (lK d3 d2);have not:b3≠z:=fun az=>by have:=ao.new;rw[az,cp] at this;cases this
   refine⟨b3,rfl,⟨_,SqL.of co⟩,?_⟩;refine cN (K:=K) (xs:=bm) (fun i zzs W=>∃(ab:List V)(N x:Option V),Same H W/\W b3=some (.lst bm)/\bf K W bm ((bB zs c "012345678").map aC)/\W z=some (.lst ab)/\bf K (del z W) ab ((((bB zs c "012345678").take i).filter fun t=>decide (0<(dI zs c ps t).length)).map (Gx zs c ps))/\ab.length<=i/\zzs=[zzR p,zzR J,zzI zs.length,zzI c,zzR z,N,x,zzN,zzN,zzN,zzN,zzN,zzN,zzN,zzN,zzN])
    ⟨[],none,none,s2.trans ao.same,co,cc,ao.same _ _ cp,.nil,bK _,rfl⟩ (fun i zzs W _ I=>by obtain⟨_,_,_,_,e,_⟩:=I;exact SqL.of e) (fun i u zzs W hi I=>?_) (fun zzs W I=>?_)
   ·obtain⟨ab,N,x,av,bN,be,a4,a0,cx,rfl⟩:=I;obtain⟨dd,a3,cg⟩:=be.get hi;rw[cP] at a3;obtain⟨t,bO,rfl⟩:=gj.mp a3;have ee:i<(bB zs c "012345678").length:=(gO.mp bO).1;obtain⟨cS,to⟩:=(lV ay).mp (eX bO);have el:=gA zs.length c t;have tk:∀ b:Bool,decide (0<(dI zs c ps t).length)=b->((bB zs c "012345678").take (i+1)).filter (fun t=>decide (0<(dI zs c ps t).length))=((bB zs c "012345678").take i).filter (fun t=>decide (0<(dI zs c ps t).length))++(if b=true then [t] else []):=fun b a7=>by
     rw[iB,bO,qP];congr 1;show List.filter _ [t]=_;rw[vp,a7];cases b<;>rfl
    refine aD (fun zzs L=>∃ aI:Addr,Same W L/\W aI=none/\Ls K L aI ((dI zs c ps t).map aC)/\zzs=[zzR p,zzR J,zzI zs.length,zzI c,zzR z,some u,zzR aI,zzN,zzN,zzN,zzN,zzN,zzN,zzN,zzN,zzN]) (fun cf a6=>?_) ?_
    ·refine⟨_,rfl,_,rfl,_,rfl,zs.length,c,u,t,rfl,cg,fun dN L bj=>?_⟩;obtain⟨eo,cn,cY⟩:=bj.ls;refine⟨dN,rfl,⟨_,SqL.of cn⟩,dD (K:=K) (xs:=bU zs.length c t) (enc:=aC) (bJ (SqL.of cn)) cY (small (by lia)) (fun y=>decide (y∈ps)) aC (fun y aE bd af aa d aS ad=>?_) (fun y aE _ bd af aa d aS ad=>⟨_,rfl,ad _ _ (Same.refl _) d⟩) (fun ys af aa cW n ah=>?_)⟩
     ·exact⟨_,rfl,_,rfl,.inr (z8 d (b0.mono (av.trans (bj.same.trans aa))).den ⟨_,rfl,ad _ (Same.refl _)⟩)⟩
     ·exact a6 _ _ ⟨n,(bj.same.trans aa).and ah,(bj.same.trans aa).free ah,.new ah cW,rfl⟩
    rintro zzs L ⟨aI,M,cG,cw,rfl⟩;refine⟨_,rfl,?_⟩;dsimp only[jL];refine mW cw.den ⟨_,_,rfl,rfl,_,rfl,?_⟩;rw[aL];refine dW (fun h1=>?_) (fun h1=>?_)
    ·have bP:decide (0<(dI zs c ps t).length)=true:=bQ (by have:=cT h1;lia);have a5:=M _ _ a4;refine⟨_,rfl,.inl ⟨rfl,_,SqL.of a5⟩,?_⟩;obtain⟨⟨d4,d5⟩,⟨d6,d7⟩⟩:=id cS;have dg:t.1=((t.1.toNat:Nat):Int):=by lia
     have di:t.2=((t.2.toNat:Nat):Int):=by lia
     have i1:t.1.toNat<zs.length:=by lia
     have dc:=ay.digit cS to;have ch:=cg.mono M;have cu:=(av.trans M).seq bT;refine⟨_,rfl,_,rfl,rW ch ?_⟩;rw[dg];refine Gb cu i1 ⟨_,rfl,rY ch ?_⟩;rw[di];refine z9 cu ay.toRect i1 (by lia) ?_;dsimp only[jL];refine⟨_,rfl,dc.1,by lia,?_⟩;refine⟨_,rfl,sz rfl,fun aZ a9=>?_⟩;have ec:((codeAt zs (t.1.toNat,t.2.toNat):Nat):Int)-48=dU zs t:=rfl;generalize dt:(HO.tup [V.int ((codeAt zs (t.1.toNat,t.2.toNat):Nat)-48:Int),V.ref aI])=O;have aa:=Same.put (o:=O) a9;refine jQ (K:=K) (aa _ _ a5) (by lia) ?_;have ax:SameBut z (upd L aZ O) (upd (upd L aZ O) z (.lst (ab++[.ref aZ]))):=(SameBut.refl z _).put;have br:Same W (upd L aZ O):=M.trans aa;have dT:aZ≠z:=fun az=>by rw[az,a5] at a9;cases a9
     have dQ:aI≠z:=fun az=>by rw[az,a4] at cG;cases cG
     refine⟨ab++[.ref aZ],_,_,ax.of (av.trans br) dS,ax _ _ (br _ _ bN) not,ax.cells (aa _ _ a5) (be.mono br),aA,?_,by rw[cH,jC];lia,rfl⟩;rw[tk true bP,aK rfl,d9];refine(a0.mono ((br.but z).trans ax).del).append (.cons ?_ .nil);refine Den.mono ax.del ?_;unfold Gx;refine Den.tup (xs:=[.int (dU zs t),.ref aI]) (by rw[mR dT,aA,<- dt];rfl) (.cons (.int _) (.cons (uy (aa _ _ a5) dQ (cw.mono aa)).den .nil))
    ·have bP:decide (0<(dI zs c ps t).length)=false:=cD (by have:=iW h1;lia);refine⟨ab,_,_,av.trans M,M _ _ bN,be.mono M,M _ _ a4,?_,by lia,rfl⟩;rw[tk false bP,aJ gC,qT];exact a0.mono M.del
   ·obtain⟨ab,N,x,av,bN,be,a4,a0,cx,rfl⟩:=I;rw[dE,gP] at a0;exact ar _ _ ⟨ab,N,x,av,a4,a0.mono jW,rfl⟩
  rintro zzs an ⟨ab,N,x,aG,dr,cd,rfl⟩;have c3:Ls K an z ((oV zs c ps).map (Gx zs c ps)):=⟨ab,dr,cd⟩
  have cx:ab.length=(oV zs c ps).length:=by rw[cd.length,aL]
  refine aD (fun zzs W=>∃(G:Addr)(fs:List V),Same an W/\W G=some (.lst fs)/\fQ (jl K H) W fs (layAt (pL zs c ps) ps 0)/\zzs=[zzR p,zzR J,zzI zs.length,zzI c,zzR z,N,x,zzR G,zzN,zzN,zzN,zzN,zzN,zzN,zzN,zzN]) (fun R ar=>?_) ?_
  ·refine⟨by decide,fun ci cE=>?_⟩;dsimp only[jL];refine⟨sz rfl,fun c9 bk=>?_⟩;have Y:=Same.put (o:=.lst []) cE;have bc:=Y.and (o:=.lst [.ref ci]) bk;refine ar _ _ ⟨c9,_,bc,aA,.cons ⟨ci,rfl,aG.free cE,[],?_,.nil⟩ .nil,rfl⟩;exact(Same.put bk) _ _ aA
  rintro zzs W ⟨G,fs,av,dl,dX,rfl⟩;refine aD (fun zzs L=>∃(G:Addr)(fs:List V)(x aP aR aM S U C D B:Option V),Same an L/\L G=some (.lst fs)/\fQ (jl K H) L fs (layAt (pL zs c ps) ps ps.length)/\zzs=[zzR p,zzR J,zzI zs.length,zzI c,zzR z,N,x,zzR G,aP,aR,aM,S,U,C,D,B]) (fun R ar=>?_) ?_
  ·refine⟨_,rfl,J,rfl,⟨_,SqL.of (av _ _ (aG _ _ cl))⟩,?_⟩;refine Nu (K:=K) (xs:=cy) (fun i zzs L=>∃(G:Addr)(fs:List V)(x aP aR aM S U C D B:Option V),Same an L/\L G=some (.lst fs)/\fQ (jl K H) L fs (layAt (pL zs c ps) ps i)/\zzs=[zzR p,zzR J,zzI zs.length,zzI c,zzR z,N,x,zzR G,aP,aR,aM,S,U,C,D,B])
    ⟨G,fs,x,none,none,none,none,none,none,none,none,av,dl,dX,rfl⟩ (fun i zzs L _ I=>by obtain⟨_,_,_,_,_,_,_,_,_,_,_,g,_⟩:=I;exact SqL.of (g _ _ (aG _ _ cl))) (fun i u zzs L t hi I a9=>?_) (fun zzs L I=>?_)
   ·obtain⟨G,fs,x,aP,aR,aM,S,U,C,D,B,M,aX,as,rfl⟩:=I;have aw:=Same.put (o:=.tup [.int i,u]) a9;refine⟨t,_,rfl,SqT.of aA,rfl,_,_,rfl,_,_,rfl,rfl,?_⟩;generalize upd L t (.tup [.int i,u])=af at aw;obtain⟨eb,cj,de⟩:=(cb.mono (aG.trans (M.trans aw))).get hi;rw[cP] at cj;obtain⟨m,cm,rfl⟩:=gj.mp cj;have ef:i<ps.length:=(gO.mp cm).1;have dj:ps.getD i (0,0)=m:=by rw[fM,cm];rfl
    have aa:Same H af:=aG.trans (M.trans aw);have c4:Ls K af z ((oV zs c ps).map (Gx zs c ps)):=c3.mono (M.trans aw);have dF:=b0.mono aa;have bG:=aw _ _ aX;have b5:=as.mono jl.stays aw;have d1:Same an af:=M.trans aw;clear M aw aX as;have dB:fs.length<=2048:=by
     rw[b5.length];exact cU (qz _ _ _) (Lh (by decide) (show i<=11 by lia))
    have ei:(layAt (pL zs c ps) ps i).length<=2048:=by rw[<- b5.length];exact dB
    refine aD (fun zzs aT=>∃ k:Addr,af k=none/\Same af aT/\aT k=some (.lst [])/\zzs=[zzR p,zzR J,zzI zs.length,zzI c,zzR z,N,x,zzR G,zzI i,some u,zzR k,S,U,C,D,B]) (fun cf a6=>?_) ?_
    ·exact⟨by decide,fun k n=>a6 _ _ ⟨k,n,Same.put n,aA,rfl⟩⟩
    rintro zzs aT ⟨k,b1,aH,bi,rfl⟩;have d8:H k=none:=aa.free b1;have aY:Cz (wW K H k):=wW.stays;refine aD (fun zzs ag=>∃(X:List V)(x S U C D B:Option V),Same af (del k ag)/\ag k=some (.lst X)/\fQ (wW K H k) ag X (layAt (pL zs c ps) ps (i+1))/\zzs=[zzR p,zzR J,zzI zs.length,zzI c,zzR z,N,x,zzR G,zzI i,some u,zzR k,S,U,C,D,B]) (fun cf a6=>?_) ?_
    ·refine⟨_,rfl,_,rfl,G,rfl,⟨_,SqL.of (aH _ _ bG)⟩,?_⟩;have cJ:fQ (wW K H k) aT fs (layAt (pL zs c ps) ps i):=fQ.imp (R:=jl K H) (R':=wW K H k) (H:=af) (H':=aT) (fun a v h=>jl.stays _ _ _ _ (aH.into b1) h) b5;refine vL aY aY (bJ (SqL.of (aH _ _ bG))) cJ (small (by lia)) (fun l=>l++[m]) (fun l dw y ag ap bq aS ad=>?_) (fun ys ag ap ca n ah=>?_)
     ·obtain⟨a,rfl,en,dA⟩:=bq;have ek:=qC _ l dw;refine⟨_,rfl,_,rfl,?_⟩;dsimp only[jL];refine⟨sz rfl,fun p1 dK=>?_⟩;have Y:=Same.put (o:=.lst [u]) dK;refine xQ (K:=K) ((dA.mono jW).mono Y) (show Ls K (upd ag p1 (.lst [u])) p1 ([m].map aC) from⟨[u],aA,.cons (de.mono ((aH.trans ap).trans Y)) .nil⟩) (by rw[aL,aL,jC];lia) fun r bg ao=>?_
      have bH:=ao.same _ _ (Y _ _ (ap _ _ bi));have dP:r≠k:=fun az=>by have:=ao.new;rw[az,Y _ _ (ap _ _ bi)] at this;cases this
      refine ad _ _ (Y.trans ao.same) ⟨r,rfl,(aa.trans ((aH.trans ap).trans Y)).free ao.new,uy bH dP ?_⟩;have:=ao.ls;rwa[<- d9] at this
     ·have Y:=Same.put (o:=.lst ys) ah;refine⟨fs,ys,Y _ _ (ap _ _ (aH _ _ bG)),aA,small (by have:=ca.length;rw[aL] at this;lia),fun a2 cF=>?_⟩;have bc:=Y.and (o:=.lst (fs++ys)) cF;generalize ct:upd (upd ag n (.lst ys)) a2 (.lst (fs++ys))=bg at bc;have bE:bg a2=some (.lst (fs++ys)):=by rw[<- ct];exact aA
      have b7:Same aT bg:=ap.trans bc;have bH:=b7 _ _ bi;have bn:fQ (wW K H k) bg (fs++ys) (layAt (pL zs c ps) ps i++(layAt (pL zs c ps) ps i).map (·++[m])):=(cJ.mono aY b7).append (ca.mono aY bc);clear ct;have bk:a2≠k:=bL (H:=upd ag n (.lst ys)) (Y _ _ (ap _ _ bi)) cF |>.symm;generalize fs++ys=ws at bE bn;generalize cv:layAt (pL zs c ps) ps i++(layAt (pL zs c ps) ps i).map (·++[m])=bo at bn;have ej:bo.length<=4096:=by rw[<- cv,cH,aL];lia
      have dH:ws.length=bo.length:=bn.length;have c5:layAt (pL zs c ps) ps (i+1)=bo.filter (pL zs c ps i):=by
       rw[<- cv];show(layAt (pL zs c ps) ps i++(layAt (pL zs c ps) ps i).map (·++[ps.getD i (0,0)])).filter (pL zs c ps i)=_;rw[dj]
      refine⟨a2,rfl,⟨_,SqL.of bE⟩,?_⟩;refine cN (K:=K) (xs:=ws) (fun j zzs al=>∃(X:List V)(x S U C D B:Option V),Same af (del k al)/\al k=some (.lst X)/\al a2=some (.lst ws)/\fQ (wW K H k) al ws bo/\fQ (wW K H k) al X ((bo.take j).filter (pL zs c ps i))/\X.length<=j/\zzs=[zzR p,zzR J,zzI zs.length,zzI c,zzR z,N,x,zzR G,zzI i,some u,zzR k,S,U,C,D,B])
       ⟨[],x,S,U,C,D,B,(aH.trans b7).into b1,bH,bE,bn,.nil,bK _,rfl⟩ (fun j zzs al _ I=>by obtain⟨_,_,_,_,_,_,_,_,_,e,_⟩:=I;exact SqL.of e) (fun j y zzs al dv I=>?_) (fun zzs al I=>?_)
      ·obtain⟨X,x,S,U,C,D,B,ba,bx,bw,bh,a1,c1,rfl⟩:=I;obtain⟨l,ck,bq⟩:=bh.get dv;have eg:j<bo.length:=(gO.mp ck).1;have tk:∀ b:Bool,pL zs c ps i l=b->(bo.take (j+1)).filter (pL zs c ps i)=(bo.take j).filter (pL zs c ps i)++(if b=true then [l] else []):=fun b a7=>by
        rw[iB,ck,qP];congr 1;show List.filter _ [l]=_;rw[vp,a7];cases b<;>rfl
       have cM:Same af al:=ba.trans jW;refine aD (fun zzs aq=>aq=al/\zzs=[zzR p,zzR J,zzI zs.length,zzI c,zzR z,N,x,zzR G,zzI i,some u,zzR k,some y,some (.bl true),C,D,B]) (fun R2 bR=>bR _ _ ⟨rfl,rfl⟩) ?_;rintro zzs aq ⟨rfl,rfl⟩;refine aD (fun zzs ae=>∃ x C D B:Option V,Same aq ae/\zzs=[zzR p,zzR J,zzI zs.length,zzI c,zzR z,N,x,zzR G,zzI i,some u,zzR k,some y,some (.bl (pL zs c ps i l)),C,D,B]) (fun R2 bR=>?_) ?_
       ·obtain⟨cV,cq,ce⟩:=c4.mono cM;have c2:cV.length=(oV zs c ps).length:=by rw[ce.length,aL]
        refine⟨_,rfl,z,rfl,⟨_,SqL.of cq⟩,?_⟩;refine cN (K:=K) (xs:=cV) (fun q zzs ae=>∃ x C D B:Option V,Same aq ae/\zzs=[zzR p,zzR J,zzI zs.length,zzI c,zzR z,N,x,zzR G,zzI i,some u,zzR k,some y,some (.bl (((oV zs c ps).take q).all fun t=>iV (dI zs c ps t) (dU zs t) (lJ (dI zs c ps t) ps i) l)),C,D,B])
         ⟨x,C,D,B,Same.refl _,rfl⟩ (fun q zzs ae _ I=>by obtain⟨_,_,_,_,g,_⟩:=I;exact SqL.of (g _ _ cq)) (fun q az zzs ae dy I=>?_) (fun zzs ae I=>?_)
        ·obtain⟨x,C,D,B,ac,rfl⟩:=I;obtain⟨dd,a3,df⟩:=ce.get dy;rw[cP] at a3;obtain⟨tc,ds,rfl⟩:=gj.mp a3;obtain⟨b,sm,rfl,dk,bD⟩:=Yb (df.mono ac);have b9:(((oV zs c ps).take (q+1)).all fun t=>iV (dI zs c ps t) (dU zs t) (lJ (dI zs c ps t) ps i) l)=((((oV zs c ps).take q).all fun t=>iV (dI zs c ps t) (dU zs t) (lJ (dI zs c ps t) ps i) l)&&iV (dI zs c ps tc) (dU zs tc) (lJ (dI zs c ps tc) ps i) l):=by
          rw[iB,ds,List.all_append];congr 1;show List.all [tc] _=_;rw[Cv,List.all_nil,LK]
         obtain⟨bb,rfl⟩:∃ a,sm=.ref a:=by cases bD;exact⟨_,rfl⟩
         have em:(dI zs c ps tc).length<=8:=cU (gW _ _) (gA _ _ _);refine⟨b,_,rfl,SqT.of dk,rfl,_,_,rfl,_,_,rfl,rfl,?_⟩;refine aD (fun zzs bv=>Same ae bv/\zzs=[zzR p,zzR J,zzI zs.length,zzI c,zzR z,N,zzR bb,zzR G,zzI i,some u,zzR k,some y,some (.bl (((oV zs c ps).take q).all fun t=>iV (dI zs c ps t) (dU zs t) (lJ (dI zs c ps t) ps i) l)),zzI (dU zs tc),zzI (qt (dI zs c ps tc) l),B]) (fun cZ bS=>?_) ?_
         ·cases bD with
          |lst aE bu=>
           refine⟨_,rfl,bb,rfl,⟨_,aE⟩,dD (K:=K) (xs:=dI zs c ps tc) (enc:=aC) (bJ aE) bu (small (by lia)) (fun y=>decide (y∈l)) aC (fun o bW bd am ai d aS ad=>?_) (fun o bW _ bd am ai d aS ad=>⟨_,rfl,ad _ _ (Same.refl _) d⟩) (fun ys am ai bt n ah=>?_)⟩
           ·obtain⟨ep,rfl,_,dG⟩:=bq;exact⟨_,rfl,_,rfl,.inr (z8 d ((dG.mono jW).mono (ac.trans ai)).den ⟨_,rfl,ad _ (Same.refl _)⟩)⟩
           ·dsimp only[jL];refine mW (Ls.new ah bt).den ?_;rw[aL];exact bS _ _ ⟨ai.and ah,rfl⟩
         rintro zzs bv ⟨b6,rfl⟩;refine aD (fun zzs am=>Same bv am/\zzs=[zzR p,zzR J,zzI zs.length,zzI c,zzR z,N,zzR bb,zzR G,zzI i,some u,zzR k,some y,some (.bl (((oV zs c ps).take q).all fun t=>iV (dI zs c ps t) (dU zs t) (lJ (dI zs c ps t) ps i) l)),zzI (dU zs tc),zzI (qt (dI zs c ps tc) l),zzI (lJ (dI zs c ps tc) ps i)]) (fun cZ bS=>?_) ?_
         ·have c0:=bD.mono b6;cases c0 with
          |lst aE bu=>
           refine⟨_,rfl,bb,rfl,⟨_,aE⟩,dD (K:=K) (xs:=dI zs c ps tc) (enc:=aC) (bJ aE) bu (small (by lia)) (fun y=>decide (y∈ps.drop (i+1))) aC (fun o bW bd am ai d aS ad=>?_) (fun o bW _ bd am ai d aS ad=>⟨_,rfl,ad _ _ (Same.refl _) d⟩) (fun ys am ai bt n ah=>?_)⟩
           ·obtain⟨dJ,dp,cX⟩:=dF.mono (cM.trans (ac.trans (b6.trans ai)));refine⟨_,rfl,_,rfl,_,rfl,_,rfl,.inl ⟨J,_,rfl,SqL.of dp,fun ea dL=>?_⟩⟩;have dm:((i:Int)+1)=((i+1:Nat):Int):=by lia
            rw[dm,XR];have Y:=Same.put (o:=.lst (dJ.drop (i+1))) dL;refine .inr (z8 (d.mono Y) (cs:=ps.drop (i+1)) ?_ ⟨_,rfl,ad _ Y⟩);refine Den.lst (SqL.of aA) (bf.mono Y ?_);rw[List.map_drop];exact Iu (i+1) cX
           ·dsimp only[jL];refine mW (Ls.new ah bt).den ?_;rw[aL];exact bS _ _ ⟨ai.and ah,rfl⟩
         rintro zzs am ⟨ai,rfl⟩;have dZ:Same aq am:=ac.trans (b6.trans ai);have fin:∀ b:Bool,b=(((oV zs c ps).take (q+1)).all fun t=>iV (dI zs c ps t) (dU zs t) (lJ (dI zs c ps t) ps i) l)->∃ x C D B:Option V,Same aq am/\[zzR p,zzR J,zzI zs.length,zzI c,zzR z,N,zzR bb,zzR G,zzI i,some u,zzR k,some y,some (.bl b),zzI (dU zs tc),zzI (qt (dI zs c ps tc) l),zzI (lJ (dI zs c ps tc) ps i)]=[zzR p,zzR J,zzI zs.length,zzI c,zzR z,N,x,zzR G,zzI i,some u,zzR k,some y,some (V.bl (((oV zs c ps).take (q+1)).all fun t=>iV (dI zs c ps t) (dU zs t) (lJ (dI zs c ps t) ps i) l)),C,D,B]:=fun b a7=>by subst a7;exact⟨_,_,_,_,dZ,rfl⟩
         refine⟨_,rfl,_,rfl,_,_,rfl,rfl,_,rfl,?_⟩;refine dW (fun h1=>?_) (fun h1=>?_)
         ·refine⟨_,rfl,_,rfl,_,_,rfl,rfl,_,rfl,?_⟩;refine dW (fun h2=>?_) (fun h2=>?_)
          ·refine fin false ?_;rw[b9];unfold iV;rw[show decide (dU zs tc<=(qt (dI zs c ps tc) l:Int)+(lJ (dI zs c ps tc) ps i:Int))=false by simpa only[qQ] using h2,yq,yq]
          ·refine fin _ ?_;rw[b9];unfold iV;rw[h1,show decide (dU zs tc<=(qt (dI zs c ps tc) l:Int)+(lJ (dI zs c ps tc) ps i:Int))=true by simpa only[vd] using h2];exact(LK _).symm
         ·refine⟨_,rfl,Fx ?_⟩;refine fin false ?_;rw[b9];unfold iV;rw[h1,Cq,yq]
        ·obtain⟨x,C,D,B,ac,rfl⟩:=I;rw[c2,gP];exact bR _ _ ⟨x,C,D,B,ac,rfl⟩
       rintro zzs ae ⟨x,C,D,B,ac,rfl⟩;have bz:=ac _ _ bx;refine⟨_,rfl,_,rfl,?_⟩;refine dW (fun h1=>?_) (fun h1=>?_)
       ·refine⟨_,rfl,.inl ⟨rfl,_,SqL.of bz⟩,_,rfl,?_⟩;dsimp only[jL];refine jQ (K:=K) bz (by lia) ?_;have ax:SameBut k ae (upd ae k (.lst (X++[y]))):=(SameBut.refl k _).put;have b8:Same (del k aq) (del k (upd ae k (.lst (X++[y])))):=(ac.del).trans ax.del;have cz:∀ {bs:List V} {cK:List (List Cell)},fQ (wW K H k) aq bs cK->fQ (wW K H k) (upd ae k (.lst (X++[y]))) bs cK:=fun r=>fQ.imp (R:=wW K H k) (R':=wW K H k) (H:=aq) (fun a v h=>jl.stays _ _ _ _ b8 h) r
        refine⟨X++[y],_,_,_,_,_,_,ba.trans b8,aA,ax _ _ (ac _ _ bw) bk,cz bh,?_,by rw[cH,jC];lia,rfl⟩;rw[tk true h1,aK rfl];exact(cz a1).append (.cons (jl.stays _ _ _ _ b8 bq) .nil)
       ·refine⟨X,_,_,_,_,_,_,ba.trans ac.del,bz,ac _ _ bw,bh.mono aY ac,?_,by lia,rfl⟩;rw[tk false h1,aJ gC,qT];exact a1.mono aY ac
      ·obtain⟨X,x,S,U,C,D,B,ba,bx,bw,bh,a1,c1,rfl⟩:=I;rw[dH,gP,<- c5] at a1;exact a6 _ _ ⟨X,x,S,U,C,D,B,ba,bx,a1,rfl⟩
    rintro zzs ag ⟨X,x,S,U,C,D,B,ap,dn,dY,rfl⟩;refine⟨_,rfl,?_⟩;exact⟨k,X,_,_,_,_,_,_,_,_,_,d1.trans (ap.trans jW),dn,fQ.imp (R:=wW K H k) (R':=jl K H) (H:=ag) (H':=ag) (fun a v h=>jl.stays _ _ _ _ jW h) dY,rfl⟩
   ·obtain⟨G,fs,x,aP,aR,aM,S,U,C,D,B,M,aX,as,rfl⟩:=I;rw[dC] at as;exact ar _ _ ⟨G,fs,x,aP,aR,aM,S,U,C,D,B,M,aX,as,rfl⟩
  rintro zzs L ⟨G,fs,x,aP,aR,aM,S,U,C,D,B,M,aX,as,rfl⟩;have nd:=jP (p:=pL zs c ps) pt.nd _ (bK ps.length);refine⟨_,rfl,G,fs,layAt (pL zs c ps) ps ps.length,rfl,SqL.of aX,as.a4Z fun a v h=>h.den,fun q o b2 cI c6=>?_⟩;have lo:∀ i∈o,i<fs.length:=fun i hi=>fP.mp (cI.mem_iff.mp hi)
  have bp:=fQ.by (d0:=[]) o as lo;have dV:(o.map fun i=>(layAt (pL zs c ps) ps ps.length).getD i []).Perm (layAt (pL zs c ps) ps ps.length):=vY (by rw[<- as.length];exact cI);rw[pt.a2q ay dV c6] at bp;have dM:(eV zs c ps).Nodup:=lU.nodup_iff.mpr (jP pt.nd _ (bK _));obtain⟨b4,dq⟩:∃ b4:List Addr,(o.map fun i=>fs.getD i .non)=b4.map V.ref:=Az bp;rw[dq] at bp ⊢;exact dx q b4 _ ((aG.trans M).free b2) ((aG.trans M).and b2) (a4h bp dM b2)
end
def yP(zs:List Str)(w:Nat)(c:Cell):Bool:=!aP zs w c&&decide ((aG zs w c).length=0)
def HD(zs:List Str)(w:Nat)(c:Cell):Bool:=yP zs w c&&decide (0<dU zs c)
def ju(zs:List Str)(w:Nat):List (List Cell):=if(cJ zs.length w).any (HD zs w)=true then [] else [[]]
def chD(p:List Cell×List (List Cell)):Dt:=.tup [uJ p.1,.lst (p.2.map uJ)]
noncomputable def chL(zs:List Str)(w:Nat):List (List Cell×List (List Cell)):=([],ju zs w)::((bx zs w).map (fun p=>(p,eV zs w p))++(nO zs w).map fun c=>([c],[[],[c]]))
def a0k(K:ao)(C:Addr):Sp:=fun vs H Q _=>∃(x:Addr)(v:V)(zs:List Str)(w:Nat)(c:Cell),vs=[.ref x,v]/\ig C H x zs w/\Den K H v (aC c)/\inF zs.length w c/\∀ H',Same H H'->Q (.bl (yP zs w c)) H'
def V4(K:ao)(C:Addr):Sp:=fun vs H Q _=>∃(x:Addr)(zs:List Str)(w:Nat),vs=[.ref x]/\ig C H x zs w/\∀ q H',Same H H'->Ls K H' q ((ju zs w).map uJ)->Q (.ref q) H'
def Jk(K:ao)(C TG:Addr):Sp:=fun vs H Q E=>∃(x:Addr)(zs:List Str)(w:Nat),vs=[.ref x]/\ig C H x zs w /\
 ((∃ p∈bx zs w,12<p.length)->∀ H',Same H H'->E (.ref TG) none H')/\((∀ p∈bx zs w,p.length<=12)->∀ q H',Fr K H H' q ((chL zs w).map chD)->Q (.ref q) H')
section
variable{P:Program}{w:World}{K:ao}{mg:Str->Option Value}{base:Heap}{Z:Adr}
theorem a2B{f:Addr}{d:FuncData} (F:Fun K "is_lone" "is_lone" Bd f d) (T:Txt K mg Z) (k:Df P w K mg base 2 "is_closed" ["view","cell"] (lY K Z.View)) (l:Df P w K mg base 3 "closed_near" ["view","cell"] (tu K Z.View aG)) :
  cR P w K mg base (CXE P w) 4 f d ["view","cell"] (a0k K Z.View):=by
 refine F.rok R6 (fun o H Q E h=>?_) (fun cdv A outer s H o Q E a h=>?_)
 ·obtain⟨x,v,zs,w,c,rfl,_⟩:=h;rfl
 ·obtain⟨x,v,zs,w,c,rfl,j,b,m,i⟩:=h;have n:=mU a;refine⟨_,(aB (bA (Jf (a4o (aV k a rfl aW (aj (rv 0) (aj (rv 1) ak)))) (Jg (wJ (kj.or (jY (K:=K) n)) (aN (cQ (K:=K)) rfl T.cO bM (aj (aV l a rfl aW (aj (rv 0) (aj (rv 1) ak))) ak)) aF (cA _)))))),?_⟩;refine⟨_,rfl,_,rfl,x,v,zs,w,c,rfl,j,b,_,rfl,_,rfl,?_⟩;refine dW (fun h1=>?_) (fun h1=>?_)
  ·refine⟨_,rfl,_,rfl,x,v,zs,w,c,rfl,j,b,m,fun q H' g=>?_⟩;dsimp only[jL];refine mW g.ls.den ?_;refine Or.inl ⟨rfl,?_⟩;rw[wG,aL];have e:decide ((((aG zs w c).length:Nat):Int)=0)=yP zs w c:=by
    unfold yP;rw[h1,vA,tK];lia
   rw[e];exact i _ g.same
  ·have e:false=yP zs w c:=by unfold yP;rw[h1];rfl
   rw[e];exact i _ (Same.refl _)
theorem Z6{f:Addr}{L:FuncData} (F:Fun K "lone_layings" "lone_layings" oN f L) (T:Txt K mg Z) (ag:Df P w K mg base 1 "cells" ["view"] (xX K Z.View)) (ai:Df P w K mg base 4 "is_lone" ["view","cell"] (a0k K Z.View)) (ae:Df P w K mg base 1 "figure" ["view","cell"] (Gq K Z.View)) :
  cR P w K mg base (CXE P w) 5 f L ["view"] (V4 K Z.View):=by
 refine F.rok tR (fun ah H Q E h=>?_) (fun cdv A outer s H ah Q E t h=>?_)
 ·obtain⟨x,zs,w,rfl,_⟩:=h;rfl
 ·obtain⟨x,zs,w,rfl,z,N⟩:=h;refine⟨_,(au (c7 dh rfl (aU (K:=K) (aV ag t rfl aW (aj (rv 0) ak))) (aQ (i:=1) tR.nd rfl (Or.inl rfl)) (aB (dR (R0 (QV (jJ (aV ai t rfl aW (aj (rv 0) (aj (rv 1) ak)))) (Kh (bI yS (aV ae t rfl aW (aj (rv 0) (aj (rv 1) ak))) aF (cA _))))) (aB (bA (bZ ak))) bV))) (aB (bA (bZ (aj (bZ ak) ak))))),?_⟩;refine aD (fun zzs H1=>Same H H1/\ju zs w=[[]]) (fun R ab=>?_) ?_
  ·refine⟨_,rfl,x,zs,w,rfl,z,fun q H1 f1=>?_⟩;obtain⟨Y,J,B⟩:=f1.ls;have ad:Y.length=(cJ zs.length w).length:=by rw[B.length,aL]
   refine⟨q,rfl,⟨_,SqL.of J⟩,?_⟩;refine cN (K:=K) (xs:=Y) (fun i zzs H2=>∃ l:Option V,Same H1 H2/\(∀ c∈(cJ zs.length w).take i,HD zs w c=false)/\zzs=[zzR x,l])
    ⟨none,Same.refl _,(fun c r=>by cases r),rfl⟩ (fun i zzs H2 _ k=>by obtain⟨_,g,_⟩:=k;exact SqL.of (g _ _ J)) (fun i u zzs H2 hi k=>?_) (fun zzs H2 k=>?_)
   ·obtain⟨l,j,n,rfl⟩:=k;obtain⟨d,I,D⟩:=B.get hi;rw[cP] at I;obtain⟨c,G,rfl⟩:=gj.mp I;have C:=eX G;have M:=dM.mp C;have v:=f1.same.trans j;have X:∀ b,Same H2 b->HD zs w c=false->∃ l:Option V,Same H1 b/\(∀ c∈(cJ zs.length w).take (i+1),HD zs w c=false)/\[some (V.ref x),some u]=[zzR x,l]:=fun b a p=>⟨_,j.trans a,fun y O=>by
     rw[iB,G] at O;rcases dw.mp O with m|m
     ·exact n y m
     ·rw[dH.mp m];exact p,rfl⟩
    refine⟨_,rfl,_,rfl,x,u,zs,w,c,rfl,z.mono v,D.mono j,M,fun b a=>⟨_,rfl,?_⟩⟩;refine dW (fun h1=>?_) (fun h1=>?_)
    ·have ac:aP zs w c=false:=by
      unfold yP at h1;rw[mK,qQ] at h1;exact h1.1
     refine⟨_,rfl,_,rfl,x,u,zs,w,c,rfl,z.mono (v.trans a),D.mono (j.trans a),M,ac,?_⟩;refine⟨_,_,rfl,rfl,_,rfl,?_⟩;have e:HD zs w c=decide (0<dU zs c):=by unfold HD;rw[h1];rfl
     refine dW (fun h2=>?_) (fun h2=>X b a (by rw[e];exact h2));refine⟨by decide,fun an W=>N _ _ ((v.trans a).and W) ?_⟩;have:ju zs w=[]:=aK (Sh.mpr ⟨c,C,by rw[e];exact h2⟩);rw[this];exact Ls.new W .nil
    ·exact X b a (by unfold HD;rw[h1];rfl)
   ·obtain⟨l,j,n,rfl⟩:=k;rw[ad,gP] at n;refine ab _ _ ⟨f1.same.trans j,aJ fun m=>?_⟩;obtain⟨c,r,p⟩:=Sh.mp m;rw[n c r] at p;cases p
  rintro zzs H1 ⟨s1,aa⟩;refine⟨by decide,fun al S=>⟨sz rfl,fun am U=>?_⟩⟩;have af:=Same.put (o:=.lst []) S;refine N _ _ (s1.trans (af.and U)) ?_;rw[aa];exact Ls.new U (.cons (Ls.new S .nil).den .nil)
theorem w5{H0 H:Hp}{q:Addr}:∀ {e:List Addr} {d:List (List Cell)},e.length=d.length->(∀(i:Nat)(a:Addr)(p:List Cell),e[i]?=some a->d[i]?=some p->Ls K H a (p.map aC))->bf K H (e.map V.ref) (d.map uJ)
 |[],[],_,_=>.nil
 |a::e,p::d,hl,h=>.cons (h 0 a p rfl rfl).den (w5 (H0:=H0) (q:=q) (Nat.succ.inj hl) fun i b c h1 h2=>h (i+1) b c h1 h2)
theorem Zw{H0 H H':Hp}{q d:Addr}{f:List Addr}{b:List (List Cell)}{us:List V}{o:HO}(p:pQ K H0 H q f b)(s:SameBut d H H')(e:H d=some (.lst us))(g:H0 d=some o)(n:q≠d):pQ K H0 H' q f b:=
 ⟨s _ _ p.at_ n,p.len,fun i a c h1 h2=>s.ls e (fun h=>by have:=p.new a (eX h1);rw[h,g] at this;cases this) (p.ls i a c h1 h2),p.new,p.nd,p.nq⟩
theorem Ax{zs:List Str}{w:Nat}:∀(cs:List Cell)(a:List (List Cell)),(gK zs w cs a).length<=a.length+cs.length
 |[],a=>by unfold gK;exact bK _
 |c::cs,a=>by
  unfold gK;by_cases h:∃ p∈a,c∈p
  ·rw[aK h];have:=Ax (zs:=zs) (w:=w) cs a;rw[gY];lia
  ·rw[aJ h];have:=Ax (zs:=zs) (w:=w) cs (a++[dJ zs w c]);rw[cH,jC] at this;rw[gY];lia
theorem vX{zs:List Str}{w:Nat}(v:Vw zs w):(bx zs w).length<=36:=by
 have h1:=Ax (zs:=zs) (w:=w) (aY zs w) [];have h2:(aY zs w).length<=36:=cU (gW _ _) (gb v);unfold bx;rw[yp] at h1;lia
theorem Jy{H a:Hp}{q:Addr}{us:List V}{b:List Dt}{v:V}{d:Dt}(e:bf K (del q H) us b)(s:Same H a)(f:Den K (del q a) v d):bf K (del q (upd a q (.lst (us++[v])))) (us++[v]) (b++[d]):=by
 have c:SameBut q a (upd a q (.lst (us++[v]))):=(SameBut.refl q _).put;exact(e.mono ((s.but q).trans c).del).append (.cons (f.mono c.del) .nil)
theorem QB{f:Addr}{a9:FuncData} (F:Fun K "choices" "choices" Bb f a9) (T:Txt K mg Z) (bl:Df P w K mg base 5 "parts" ["view"] (V5 K Z.View)) (bX:Df P w K mg base 5 "layings" ["view","cell"] (Jm K Z.View Z.NoCell Z.TooGreat)) (bm:Df P w K mg base 4 "far" ["view"] (uV K Z.View nO)) (bQ:Df P w K mg base 5 "lone_layings" ["view"] (V4 K Z.View)) :
  cR P w K mg base (CXE P w) 6 f a9 ["view"] (Jk K Z.View Z.TooGreat):=by
 refine F.ZV sX (fun bW H Q E h=>?_) (fun cdv A outer s H bW Q E aq h=>?_)
 ·obtain⟨x,zs,w,rfl,_⟩:=h;rfl
 ·obtain⟨x,zs,w,rfl,U,bt,bu⟩:=h;refine⟨_,(au (RS.nox (aO (i:=1) sX.nd rfl (Or.inl rfl) (bZ (aj (fX (aj (bZ ak) (aj (aV bQ aq rfl aW (aj (rv 0) ak)) ak))) ak)))) (au (c7 PassesOwn.leaving rfl (aU (K:=K) (aV bl aq rfl aW (aj (rv 0) ak))) (aQ (i:=2) sX.nd rfl (Or.inl rfl)) (aB (gM (lH (K:=K) lC mG mH dO (rv 1) (aj (fX (aj (rv 2) (aj (aV bX aq rfl Uq (aj (rv 0) (aj (cB (cL (K:=K)) (rv 2) aF) ak))) ak))) ak))))) (au (RS.nox (c7 dh rfl (aU (K:=K) (aV bm aq rfl aW (aj (rv 0) ak))) (aQ (i:=3) sX.nd rfl (Or.inl rfl)) (aB (gM (lH (K:=K) lC mG mH dO (rv 1) (aj (fX (aj (bZ (aj (rv 3) ak)) (aj (bZ (aj (bZ ak) (aj (bZ (aj (rv 3) ak)) ak))) ak))) ak)))))) (aB (RS.nox (bA (rv 1))))))),?_⟩;have aM:=U.vw.le;have aX:=U.vw.w6;obtain⟨bS,_⟩:=vW (zs:=zs) (w:=w) aM aX;refine aD (fun zzs H1=>∃(q:Addr)(k:List V),H q=none/\Same H H1/\H1 q=some (.lst k)/\bf K (del q H1) k [chD ([],ju zs w)]/\zzs=[zzR x,zzR q,zzN,zzN]) (fun R ag=>?_) ?_
  ·refine⟨by decide,fun D ab=>?_⟩;have M:=Same.put (o:=.lst []) ab;refine⟨_,rfl,x,zs,w,rfl,U.mono M,fun G H1 s1 bD=>⟨sz rfl,fun t O=>⟨sz rfl,fun q X=>?_⟩⟩⟩;have J:=Same.put (o:=.tup [V.ref D,V.ref G]) O;refine ag _ _ ⟨q,_,(M.trans (s1.trans J)).free X,(M.trans (s1.trans J)).and X,aA,?_,rfl⟩;have bV:Same (upd H1 t (.tup [V.ref D,V.ref G])) (del q (upd (upd H1 t (.tup [V.ref D,V.ref G])) q (.lst [.ref t]))):=fun b o aH=>by
    have as:b≠q:=fun n=>by rw[n,X] at aH;cases aH
    rw[mR as,bG as];exact aH
   refine .cons (Den.mono bV ?_) .nil;exact Den.tup aA (.cons (((Ls.new ab .nil:Ls K _ D []).mono (s1.trans J)).den) (.cons (bD.mono J).den .nil))
  rintro zzs H1 ⟨q,k,X,s1,an,bj,rfl⟩;refine aD (fun zzs H2=>∃(k:List V)(z:Option V),Same H H2/\H2 q=some (.lst k)/\bf K (del q H2) k (([],ju zs w)::(bx zs w).map (fun p=>(p,eV zs w p)) |>.map chD)/\(∀ p∈bx zs w,p.length<=12)/\(bx zs w).length<=36/\zzs=[zzR x,zzR q,z,zzN]) (fun R ag=>?_) ?_
  ·refine⟨_,rfl,x,zs,w,rfl,U.mono s1,fun aR aT H2 bM s2 ps=>⟨aR,rfl,⟨_,SqL.of ps.at_⟩,?_⟩⟩;have bN:aR≠q:=(bL an bM).symm;have bE:=vX U.vw;refine cN (K:=K) (xs:=aT.map V.ref) (fun i zzs l=>∃(k:List V)(z:Option V),Same H l/\pQ K H1 l aR aT (bx zs w)/\l q=some (.lst k)/\bf K (del q l) k (([],ju zs w)::((bx zs w).take i).map (fun p=>(p,eV zs w p)) |>.map chD)/\(∀ p∈(bx zs w).take i,p.length<=12)/\zzs=[zzR x,zzR q,z,zzN])
    ⟨k,none,s1.trans s2,ps,s2 _ _ an,bj.mono (s2.but q).del,(fun p ap=>by cases ap),rfl⟩ (fun i zzs l _ C=>by obtain⟨_,_,_,bR,_⟩:=C;exact SqL.of bR.at_) (fun i u zzs l hi C=>?_) (fun zzs l C=>?_)
   ·obtain⟨k,z,L,av,N,W,am,rfl⟩:=C;rw[cP] at hi;obtain⟨a,aG,rfl⟩:=gj.mp hi;have bv:i<aT.length:=(gO.mp aG).1;have ip:i<(bx zs w).length:=by rw[<- ps.len];exact bv
    have ad:(bx zs w)[i]?=some (bx zs w)[i]:=fY ip;generalize (bx zs w)[i]=p at ad;have ba:=av.ls i a p aG ad;have pm:p∈bx zs w:=eX ad;obtain⟨y,ar,aJ⟩:=bS.of p pm;have bT:Part zs w p:=by rw[aJ];exact Part.join aM aX ar
    obtain⟨v,S,rfl⟩:∃ v S,p=v::S:=by
     cases p with
     |nil=>exact absurd rfl bT.ne
     |cons v S=>exact⟨v,S,rfl⟩
    have a2:v∈dJ zs w y:=by rw[<- aJ];exact eF
    have a7:dJ zs w v=v::S:=by rw[xu aM aX ar a2,<- aJ]
    have bp:v∈aY zs w:=jj.edge ar ((fO (jB ar)).mp a2);obtain⟨xs,ex,a0⟩:=id ba;obtain⟨az,bi,rfl⟩:∃ az bi,xs=az::bi:=by cases a0;exact⟨_,_,rfl⟩
    have bq:Den K l az (aC v):=by cases a0 with|cons h _=>exact h
    have bF:k.length<=37:=by rw[W.length,aL,gY,aL,jd];lia
    refine⟨_,rfl,.inl ⟨rfl,_,SqL.of N⟩,?_⟩;refine⟨_,rfl,_,rfl,_,rfl,.inl ⟨a,_,_,_,rfl,rfl,SqL.of ex,fV,?_⟩⟩;refine⟨x,az,zs,w,v,rfl,U.mono L,bq,fun bs=>absurd bp bs,fun _ ao H' s'=>bt ⟨v::S,pm,by rw[<- a7];exact ao⟩ _ (L.trans s'),fun _ ao G b1 m bc bg ai=>?_⟩;rw[a7] at ao ai;have B:=bg _ _ N;refine⟨sz rfl,fun t O=>?_⟩;have Y:=Same.put (o:=.tup [V.ref a,V.ref G]) O;dsimp only[jL];refine jQ (K:=K) (Y _ _ B) (by lia) ?_;have I:=bg.trans Y;have bh:SameBut q (upd m t (.tup [V.ref a,V.ref G])) (upd (upd m t (.tup [V.ref a,V.ref G])) q (.lst (k++[.ref t]))):=(SameBut.refl q _).put;have bI:a≠q:=fun n=>by have:=av.new a (eX aG);rw[n,an] at this;cases this
    have bP:t≠q:=fun n=>by rw[n,B] at O;cases O
    have bo:G≠q:=fun n=>by rw[n,N] at bc;cases bc
    refine⟨k++[.ref t],_,bh.of (L.trans I) X,Zw (av.mono I) bh (Y _ _ B) an bN,aA,?_,fun p ap=>?_,rfl⟩
    ·have aI:((bx zs w).take (i+1)).map (fun p=>(p,eV zs w p))=((bx zs w).take i).map (fun p=>(p,eV zs w p))++[(v::S,eV zs w (v::S))]:=by
      rw[iB,ad,d9];rfl
     rw[aI,<- List.cons_append,d9];refine Jy W I ?_;refine Den.tup (by rw[mR bP];exact aA) (.cons (uy (Y _ _ B) bI (ba.mono I)).den (.cons ?_ .nil));refine Den.lst (SqL.of (show del q _ G=_ by rw[mR bo];exact Y _ _ ai.at_)) (w5 (H0:=l) (q:=G) ai.len fun j b r h1 h2=>uy (Y _ _ B) (fun n=>by have:=ai.new b (eX h1);rw[n,N] at this;cases this) ((ai.ls j b r h1 h2).mono Y))
    ·rw[iB,ad] at ap;rcases dw.mp ap with n|n
     ·exact am p n
     ·rw[dH.mp n];exact ao
   ·obtain⟨k,z,L,av,N,W,am,rfl⟩:=C;rw[aL,ps.len,gP] at W am;exact ag _ _ ⟨k,z,L,N,W,am,bE,rfl⟩
  rintro zzs H2 ⟨k,z,s2,a8,bk,bn,b0,rfl⟩;refine aD (fun zzs l=>∃(k:List V)(z aa:Option V),Same H l/\l q=some (.lst k)/\bf K (del q l) k ((chL zs w).map chD)/\zzs=[zzR x,zzR q,z,aa]) (fun R ag=>?_) ?_
  ·refine⟨_,rfl,x,zs,w,rfl,U.mono s2,fun aK l af=>?_⟩;obtain⟨fs,a5,aZ⟩:=af.ls;have bC:fs.length=(nO zs w).length:=by rw[aZ.length,aL]
   have bY:(nO zs w).length<=36:=cU (gW _ _) (gb U.vw);have bK:aK≠q:=(bL a8 af.new).symm;refine⟨aK,rfl,⟨_,SqL.of a5⟩,?_⟩;refine cN (K:=K) (xs:=fs) (fun i zzs m=>∃(k:List V)(aa:Option V),Same H m/\m aK=some (.lst fs)/\bf K m fs ((nO zs w).map aC)/\m q=some (.lst k)/\bf K (del q m) k ((([],ju zs w)::((bx zs w).map (fun p=>(p,eV zs w p))++((nO zs w).take i).map fun c=>([c],[[],[c]]))).map chD)/\zzs=[zzR x,zzR q,z,aa])
    ⟨k,none,s2.trans af.same,a5,aZ,af.same _ _ a8,by rw[Hj,Hq,qT];exact bk.mono (af.same.but q).del,rfl⟩ (fun i zzs m _ C=>by obtain⟨_,_,_,e,_⟩:=C;exact SqL.of e) (fun i u zzs m hi C=>?_) (fun zzs m C=>?_)
   ·obtain⟨k,aa,L,a6,aE,B,ac,rfl⟩:=C;obtain⟨d,a4,a3⟩:=aE.get hi;rw[cP] at a4;obtain⟨c,br,rfl⟩:=gj.mp a4;have bF:k.length<=100:=by rw[ac.length,aL,gY,cH,aL,aL,jd];lia
    refine⟨_,rfl,.inl ⟨rfl,_,SqL.of B⟩,_,rfl,sz rfl,fun D ab=>⟨by decide,fun aw aN=>⟨_,rfl,sz rfl,fun aS aP=>⟨sz rfl,fun bd bb=>⟨sz rfl,fun t O=>?_⟩⟩⟩⟩⟩;have M:=Same.put (o:=.lst [u]) ab;have J:=Same.put (o:=.lst []) aN;have ax:=Same.put (o:=.lst [u]) aP;have ay:=Same.put (o:=.lst [V.ref aw,V.ref aS]) bb;have al:=Same.put (o:=.tup [V.ref D,V.ref bd]) O;have be:=M.trans (J.trans (ax.trans ay));have I:=be.trans al;have ae:=I _ _ B;dsimp only[jL];refine jQ (K:=K) ae (by lia) ?_;refine⟨_,_,(SameBut.refl q _).put.of (L.trans I) X,(SameBut.refl q _).put _ _ (I _ _ a6) bK,(SameBut.refl q _).put.cells ae (aE.mono I),aA,?_,rfl⟩;have aI:(([],ju zs w)::((bx zs w).map (fun p=>(p,eV zs w p))++((nO zs w).take (i+1)).map fun c=>([c],[[],[c]])))=(([],ju zs w)::((bx zs w).map (fun p=>(p,eV zs w p))++((nO zs w).take i).map fun c=>([c],[[],[c]])))++[([c],[[],[c]])]:=by
     rw[iB,br,d9,List.cons_append,zG];rfl
    rw[aI,d9];have ah:∀ {b:Addr} {a1:Hp},Same m a1->a1 b=none->b≠q:=fun g e n=>by rw[n,g _ _ B] at e;cases e
    have bH:=ah (Same.refl _) ab;have as:=ah M aN;have bJ:=ah (M.trans J) aP;have nd:=ah (M.trans (J.trans ax)) bb;have bO:=ah be O;have bw:Ls K (upd m D (.lst [u])) D ([c].map aC):=.new ab (.cons a3 .nil);have bz:Ls K (upd (upd m D (.lst [u])) aw (.lst [])) aw (([]:List Cell).map aC):=.new aN .nil;have bB:Ls K (upd (upd (upd m D (.lst [u])) aw (.lst [])) aS (.lst [u])) aS ([c].map aC):=.new aP (.cons (a3.mono (M.trans J)) .nil);refine Jy ac I ?_;refine Den.tup (by rw[mR bO];exact aA) (.cons (uy ae bH (bw.mono (J.trans (ax.trans (ay.trans al))))).den (.cons ?_ .nil));exact Den.lst (SqL.of (show del q _ bd=_ by rw[mR nd];exact al _ _ aA)) (.cons (uy ae as (bz.mono (ax.trans (ay.trans al)))).den (.cons (uy ae bJ (bB.mono (ay.trans al))).den .nil))
   ·obtain⟨k,aa,L,a6,aE,B,ac,rfl⟩:=C;rw[bC,gP] at ac;exact ag _ _ ⟨k,z,aa,L,B,ac,rfl⟩
  rintro zzs l ⟨k,z,aa,bU,N,W,rfl⟩;exact⟨_,rfl,bu bn q _ ⟨bU,X,k,N,W.mono jW⟩⟩
end
def iu(n:Nat)(ls:List (List Cell)):List Int:=(List.range (n+1)).map fun k:Nat=>(((ls.map fun r=>(r.length:Int)).count (k:Int):Nat):Int)
theorem jA(n:Nat)(ls:List (List Cell)):(iu n ls).length=n+1:=by unfold iu;rw[aL,jD]
theorem DN{n:Nat}{ls:List (List Cell)}{k:Nat}(a:k<=n):(iu n ls)[k]?=some (((ls.map fun r=>(r.length:Int)).count (k:Int):Nat):Int):=by
 unfold iu;rw[cP,List.getElem?_range (by lia)];rfl
theorem XH(n:Nat):iu n []=List.replicate (n+1) 0:=by
 refine List.eq_replicate_iff.mpr ⟨jA _ _,fun x a=>?_⟩;obtain⟨k,_,rfl⟩:=cW.mp a;rfl
theorem Vt{n:Nat}{ls:List (List Cell)}{l:List Cell}(b:l.length<=n):iu n (ls++[l])=(iu n ls).set l.length ((((ls.map fun r=>(r.length:Int)).count (l.length:Int):Nat):Int)+1):=by
 refine Cd fun k=>?_
 by_cases a:k<=n
 ·rw[DN a,List.getElem?_set,d9,List.count_append];by_cases e:l.length=k
  ·rw[aK e,aK (by rw[jA];lia),<- e];simp
  ·rw[aJ e,DN a];have:List.count (k:Int) (List.map (fun r:List Cell=>(r.length:Int)) [l])=0:=List.count_eq_zero.mpr (by simp;lia);rw[this,T5]
 ·rw[Dk (by rw[jA];lia),Dk (by rw[Lx,jA];lia)]
theorem Et{n:Nat}{ls:List (List Cell)}(h:ls.length<=5000):∀ x∈iu n ls,0<=x/\x<2^64:=fun x b=>by
 obtain⟨k,_,rfl⟩:=cW.mp b;have:=List.count_le_length (a:=(k:Int)) (l:=ls.map fun r:List Cell=>(r.length:Int));rw[aL] at this;lia
def Uc(a b:List Int)(j k:Nat)(c:List Int):List Int:=c.set (j+k) (c.getD (j+k) 0+a.getD j 0*b.getD k 0)
def xK(a b:List Int)(j:Nat):Nat->List Int->List Int
 |0,c=>c
 |k+1,c=>Uc a b j k (xK a b j k c)
def yQ(a b:List Int):Nat->List Int->List Int
 |0,c=>c
 |j+1,c=>xK a b j b.length (yQ a b j c)
def mulL(a b:List Int):List Int:=yQ a b a.length (List.replicate (a.length+b.length-1) 0)
theorem mz(a b:List Int)(j:Nat):∀(k:Nat)(c:List Int),(xK a b j k c).length=c.length
 |0,_=>rfl
 |k+1,c=>by unfold xK Uc;rw[Lx,mz]
theorem qD(a b:List Int):∀(j:Nat)(c:List Int),(yQ a b j c).length=c.length
 |0,_=>rfl
 |j+1,c=>by unfold yQ;rw[mz,qD]
theorem O4(a b:List Int):(mulL a b).length=a.length+b.length-1:=by unfold mulL;rw[qD,BJ]
def jR(a:List Int)(chs:List (List Cell×List (List Cell))):List Int:=chs.foldl (fun a ch=>mulL a (iu ch.1.length ch.2)) a
def rQ(a:List Int)(n:Int):Int:=if 0<=n/\n<a.length then a.getD n.toNat 0 else 0
theorem Qt{n j:Nat}(h:j<n):ixN n (j:Int)=some j:=by
 unfold ixN;rw[aK (by lia),aK (by lia)];simp
theorem ints_set(ns:List Int)(j:Nat)(x:Int):(ns.map V.int).set j (.int x)=(ns.set j x).map V.int:=List.map_set.symm
theorem nW{ns:List Int}{j:Nat}(h:j<ns.length):(ns.map V.int)[j]?=some (.int (ns.getD j 0)):=by
 rw[cP,fY h,fM,fY h];rfl
theorem K7(a:V):∀ k:Nat,(List.replicate k [a]).flatten=List.replicate k a
 |0=>rfl
 |k+1=>by rw[uZ,BZ,K7 a k,uZ];rfl
def Px(ch:List Cell×List (List Cell)):Prop:=ch.1.length<=36/\(∀ l∈ch.2,l.length<=ch.1.length)/\ch.2.length<=5000
def a81(K:ao):Sp:=fun vs H Q _=>∃(v:V)(ch:List Cell×List (List Cell)),vs=[v]/\Den K H v (chD ch)/\Px ch/\∀ q H',Same H H'->H q=none->H' q=some (.lst ((iu ch.1.length ch.2).map V.int))->Q (.ref q) H'
def Gw(K:ao):Sp:=fun vs H Q _=>∃(p q:Addr)(a b:List Int),vs=[.ref p,.ref q]/\H p=some (.lst (a.map V.int))/\H q=some (.lst (b.map V.int))/\1<=a.length/\a.length<=5000/\b.length<=40/\(∀ x∈b,0<=x/\x<2^64)/\∀ r H',Same H H'->H r=none->H' r=some (.lst ((mulL a b).map V.int))->Q (.ref r) H'
def a4v(K:ao):Sp:=fun vs H Q _=>∃(p:Addr)(n:Int)(chs:List (List Cell×List (List Cell))),vs=[.ref p,.int n]/\Ls K H p (chs.map chD)/\(∀ ch∈chs,Px ch)/\chs.length<=100/\∀ H',Same H H'->Q (.int (rQ (jR [1] chs) n)) H'
section
variable{P:Program}{w:World}{K:ao}{mg:Str->Option Value}{base:Heap}{Z:Adr}
theorem Y9{H:Hp}{v:V}{ch:List Cell×List (List Cell)}(h:Den K H v (chD ch)):∃(t a b:Addr)(xs d:List V),v=.ref t/\H t=some (.tup [.ref a,.ref b])/\SqL K H a xs/\bf K H xs (ch.1.map aC)/\SqL K H b d/\bf K H d (ch.2.map uJ):=by
 unfold chD at h;cases h with
 |tup j c=>
  cases c with
  |cons h1 c=>
   cases c with
   |cons h2 c=>
    cases c;cases h1 with
    |lst g e=>
     cases h2 with
     |lst i f=>exact⟨_,_,_,_,_,rfl,j,g,e,i,f⟩
theorem O8{f:Addr}{L:FuncData} (F:Fun K "by_stones" "by_stones" uO f L) (T:Txt K mg Z) :
  cR P w K mg base (CXE P w) 1 f L ["choice"] (a81 K):=by
 refine F.rok sW (fun ad H Q E h=>?_) (fun cdv A outer s H ad Q E ag h=>?_)
 ·obtain⟨v,c,rfl,_⟩:=h;rfl
 ·obtain⟨v,c,rfl,S,⟨ae,aa,af⟩,Y⟩:=h;refine⟨_,(au (aO (i:=1) sW.nd rfl (Or.inl rfl) (bY jG (bZ (aj aF ak)) (bY bC (aN (cQ (K:=K)) rfl T.cO bM (aj (cB (cL (K:=K)) (rv 0) aF) ak)) aF))) (au (c7 dh rfl (aU (K:=K) (cB (cL (K:=K)) (rv 0) aF)) (aQ (i:=2) sW.nd rfl (Or.inl rfl)) (aB (UG (K:=K) (rv 1) (aN (cQ (K:=K)) rfl T.cO bM (aj (rv 2) ak)) aF))) (aB (bA (rv 1))))),?_⟩;obtain⟨t,a,b,xs,ys,rfl,J,W,O,G,C⟩:=Y9 S;have ai:xs.length=c.1.length:=by rw[O.length,aL]
  have ab:ys.length=c.2.length:=by rw[C.length,aL]
  refine aD (fun zzs H1=>∃ q:Addr,H q=none/\Same H H1/\H1 q=some (.lst ((iu c.1.length []).map V.int))/\zzs=[zzR t,zzR q,zzN]) (fun R B=>?_) ?_
  ·refine⟨sz rfl,fun al ac=>?_⟩;have z:=Same.put (o:=.lst [V.int 0]) ac;refine⟨_,rfl,.inr (.inl ⟨t,_,_,_,rfl,rfl,SqT.of (z _ _ J),dG (j:=0) rfl,?_⟩)⟩;refine .inl ⟨a,_,rfl,.inl (z.seq W),?_⟩;refine⟨_,aA,?_,?_,?_,fun q p=>?_⟩
   ·lia
   ·lia
   ·exact small (by show 1*(_:Nat)<=10000;lia)
   ·refine B _ _ ⟨q,z.free p,z.and p,?_,rfl⟩;rw[aA,XH,RN];have e:((xs.length:Int)+1).toNat=c.1.length+1:=by lia
    rw[e,K7]
  rintro zzs H1 ⟨q,p,s1,X,rfl⟩;refine aD (fun zzs H2=>∃ k:Option V,Same H H2/\H2 q=some (.lst ((iu c.1.length c.2).map V.int))/\zzs=[zzR t,zzR q,k]) (fun R B=>?_) ?_
  ·refine⟨_,rfl,.inr (.inl ⟨t,_,_,_,rfl,rfl,SqT.of (s1 _ _ J),dG (j:=1) rfl,?_⟩)⟩;refine⟨b,rfl,⟨_,s1.seq G⟩,?_⟩;refine cN (K:=K) (xs:=ys) (fun i zzs H2=>∃ k:Option V,Same H H2/\H2 q=some (.lst ((iu c.1.length (c.2.take i)).map V.int))/\zzs=[zzR t,zzR q,k])
    ⟨none,s1,X,rfl⟩ (fun i zzs H2 _ n=>by obtain⟨_,g,_⟩:=n;exact g.seq G) (fun i u zzs H2 hi n=>?_) (fun zzs H2 n=>?_)
   ·obtain⟨k,y,m,rfl⟩:=n;obtain⟨d,I,D⟩:=C.get hi;rw[cP] at I;obtain⟨l,el,rfl⟩:=gj.mp I;have N:=aa l (eX el);obtain⟨ah,rfl⟩:∃ a,u=.ref a:=by cases D;exact⟨_,rfl⟩
    refine⟨_,rfl,_,rfl,?_⟩;dsimp only[jL];refine mW (D.mono y) ?_;rw[aL];have M:l.length<(iu c.1.length (c.2.take i)).length:=by rw[jA];lia
    refine⟨q,_,l.length,_,rfl,rfl,SqL.of m,nW M,_,_,rfl,rfl,q,_,_,l.length,rfl,rfl,m,Qt (by rw[aL];exact M),?_⟩;refine⟨_,(SameBut.refl q _).put.of y p,?_,rfl⟩;have e:(iu c.1.length (c.2.take i)).getD l.length 0=((((c.2.take i).map fun r=>(r.length:Int)).count (l.length:Int):Nat):Int):=by
     rw[fM,DN N];rfl
    rw[aA,ints_set,iB,el,e];exact congrArg (fun x=>some (HO.lst (x.map V.int))) (Vt N).symm
   ·obtain⟨k,y,m,rfl⟩:=n;rw[ab,gP] at m;exact B _ _ ⟨k,y,m,rfl⟩
  rintro zzs H2 ⟨k,s2,U,rfl⟩;exact⟨_,rfl,Y q _ s2 p U⟩
theorem QG{f:Addr}{C:FuncData} (F:Fun K "product" "product" Bj f C) (T:Txt K mg Z) :
  cR P w K mg base (CXE P w) 1 f C ["one","other"] (Gw K):=by
 refine F.rok sY (fun Y H Q E h=>?_) (fun cdv A outer s H Y Q E ad h=>?_)
 ·obtain⟨p,q,a,b,rfl,_⟩:=h;rfl
 ·obtain⟨p,q,a,b,rfl,v,x,aa,ab,ac,bs,U⟩:=h;refine⟨_,(au (aO (i:=2) sY.nd rfl (Or.inl rfl) (bY jG (bZ (aj aF ak)) (bY FQ (bY bC (aN (cQ (K:=K)) rfl T.cO bM (aj (rv 0) ak)) (aN (cQ (K:=K)) rfl T.cO bM (aj (rv 1) ak))) aF))) (au (c7 dh rfl (dB rfl T.fG (aj (aN (cQ (K:=K)) rfl T.cO bM (aj (rv 0) ak)) ak)) (aQ (i:=3) sY.nd rfl (Or.inl rfl)) (aB (c7 dh rfl (dB rfl T.fG (aj (aN (cQ (K:=K)) rfl T.cO bM (aj (rv 1) ak)) ak)) (aQ (i:=4) sY.nd rfl (Or.inl rfl)) (aB (UG (K:=K) (rv 2) (bY bC (rv 3) (rv 4)) (bY jG (cB (cL (K:=K)) (rv 0) (rv 3)) (cB (cL (K:=K)) (rv 1) (rv 4)))))))) (aB (bA (rv 2))))),?_⟩;refine aD (fun zzs H1=>∃ r:Addr,H r=none/\Same H H1/\H1 r=some (.lst ((List.replicate (a.length+b.length-1) 0).map V.int))/\zzs=[zzR p,zzR q,zzR r,zzN,zzN]) (fun R B=>?_) ?_
  ·refine⟨sz rfl,fun ag W=>?_⟩;have z:=Same.put (o:=.lst [V.int 0]) W;refine⟨_,rfl,.inl ⟨p,_,rfl,.inl (SqL.of (z _ _ v)),?_⟩⟩;refine⟨_,rfl,.inl ⟨q,_,rfl,.inl (SqL.of (z _ _ x)),?_⟩⟩;refine⟨_,_,rfl,rfl,?_⟩;rw[aL,aL];have e:((a.length:Int)+(b.length:Int)-1).toNat=a.length+b.length-1:=by lia
   refine⟨_,aA,?_,?_,?_,fun r l=>?_⟩
   ·lia
   ·lia
   ·exact small (by show 1*(_:Nat)<=10000;lia)
   ·refine B _ _ ⟨r,z.free l,z.and l,?_,rfl⟩;rw[aA,e,K7,RN]
  rintro zzs H1 ⟨r,l,s1,M,rfl⟩;have ae:p≠r:=bL v l;have af:q≠r:=bL x l;have keep:∀ {H2:Hp} {X:List V},Same H H2->Same H (upd H2 r (.lst X)):=fun g=>(SameBut.refl r _).put.of g l
  refine aD (fun zzs H2=>∃ t c:Option V,Same H H2/\H2 r=some (.lst ((mulL a b).map V.int))/\zzs=[zzR p,zzR q,zzR r,t,c]) (fun R B=>?_) ?_
  ·refine⟨_,rfl,.inl ⟨p,_,rfl,.inl (SqL.of (s1 _ _ v)),_,rfl,?_,?_,?_⟩⟩
   ·rw[aL];lia
   ·rw[aL];lia
   rw[aL,gD];refine eY (lo:=0) (n:=a.length) (fun j zzs H2=>∃ t c:Option V,Same H H2/\H2 r=some (.lst ((yQ a b j (List.replicate (a.length+b.length-1) 0)).map V.int))/\zzs=[zzR p,zzR q,zzR r,t,c])
    ⟨none,none,s1,M,rfl⟩ (fun j zzs H2 S d=>?_) (fun zzs H2 d=>B _ _ d)
   obtain⟨t,c,D,N,rfl⟩:=d;refine⟨_,rfl,.inl ⟨q,_,rfl,.inl (SqL.of (D _ _ x)),_,rfl,?_,?_,?_⟩⟩
   ·rw[aL];lia
   ·rw[aL];lia
   rw[aL,gD];refine eY (lo:=0) (n:=b.length) (fun k zzs u=>∃ c:Option V,Same H u/\u r=some (.lst ((xK a b j k (yQ a b j (List.replicate (a.length+b.length-1) 0))).map V.int))/\zzs=[zzR p,zzR q,zzR r,zzI (0+j),c])
    ⟨c,D,N,rfl⟩ (fun k zzs u I d=>?_) (fun zzs u d=>by obtain⟨c,m,y,rfl⟩:=d;exact⟨_,c,m,y,rfl⟩)
   obtain⟨c,m,y,rfl⟩:=d;have G:j+k<(xK a b j k (yQ a b j (List.replicate (a.length+b.length-1) 0))).length:=by rw[mz,qD,BJ];lia
   have J:(0:Int)+(j:Int)+(0+(k:Int))=((j+k:Nat):Int):=by lia
   refine⟨_,rfl,_,rfl,_,rfl,?_⟩;dsimp only[CW];rw[J];refine⟨r,_,j+k,_,rfl,rfl,SqL.of y,nW G,?_⟩;refine⟨_,rfl,_,rfl,.inl ⟨p,_,_,.int (a.getD j 0),rfl,rfl,SqL.of (m _ _ v),?_,?_⟩⟩
   ·rw[nR];exact dG (nW S)
   refine⟨_,rfl,_,rfl,.inl ⟨q,_,_,.int (b.getD k 0),rfl,rfl,SqL.of (m _ _ x),?_,?_⟩⟩
   ·rw[nR];exact dG (nW I)
   refine⟨.inr ?_,_,_,rfl,rfl,r,_,_,j+k,rfl,rfl,y,Qt (by rw[aL];exact G),?_⟩
   ·have O:b.getD k 0∈b:=by rw[fM,fY I];exact mL _
    have:=bs _ O;lia
   ·refine⟨_,keep m,?_,rfl⟩;rw[aA,ints_set];rfl
  rintro zzs H2 ⟨t,c,s2,L,rfl⟩;exact⟨_,rfl,U r _ s2 l L⟩
theorem Wn(a:List Int)(chs:List (List Cell×List (List Cell)))(ch:List Cell×List (List Cell)):jR a (chs++[ch])=mulL (jR a chs) (iu ch.1.length ch.2):=by unfold jR;rw[GX];rfl
theorem O6:∀(chs:List (List Cell×List (List Cell)))(a:List Int)(m:Nat),1<=a.length->a.length<=m->(∀ ch∈chs,Px ch)->1<=(jR a chs).length/\(jR a chs).length<=m+chs.length*36
 |[],a,m,h1,h2,_=>⟨h1,by rw[yp];unfold jR;rw[List.foldl_nil];omega⟩
 |ch::chs,a,m,h1,h2,h=>by
  have c:=(h ch eF).1;have e:(mulL a (iu ch.1.length ch.2)).length=a.length+ch.1.length:=by rw[O4,jA];lia
  have d:=O6 chs (mulL a (iu ch.1.length ch.2)) (m+36) (by rw[e];lia) (by rw[e];lia) fun x b=>h x (gk _ b)
  rw[gY];unfold jR at *;rw[vG];lia
theorem Wx{f:Addr}{L:FuncData} (F:Fun K "number_of" "number_of" uQ f L) (T:Txt K mg Z) (an:Df P w K mg base 1 "product" ["one","other"] (Gw K)) (al:Df P w K mg base 1 "by_stones" ["choice"] (a81 K)) :
  cR P w K mg base (CXE P w) 2 f L ["found","stones"] (a4v K):=by
 refine F.rok nZ (fun am H Q E h=>?_) (fun cdv A outer s H am Q E N h=>?_)
 ·obtain⟨p,n,a,rfl,_⟩:=h;rfl
 ·obtain⟨p,n,a,rfl,ad,ok,ao,M⟩:=h;refine⟨_,(au (aO (i:=2) nZ.nd rfl (Or.inl rfl) (bZ (aj aF ak))) (au (c7 dh rfl (aU (K:=K) (rv 0)) (aQ (i:=3) nZ.nd rfl (Or.inl rfl)) (aB (aO (i:=2) nZ.nd rfl (Or.inl rfl) (aV an N rfl aW (aj (rv 2) (aj (aV al N rfl aW (aj (rv 3) ak)) ak)))))) (au (dR (mX (qJ pB yU aF (rv 1) (aN (cQ (K:=K)) rfl T.cO bM (aj (rv 2) ak)))) (aB (bA aF)) bV) (aB (bA (cB (cL (K:=K)) (rv 2) (rv 1))))))),?_⟩;obtain⟨S,J,C⟩:=ad;have ae:S.length=a.length:=by rw[C.length,aL]
  refine aD (fun zzs H1=>∃ q:Addr,Same H H1/\H1 q=some (.lst (([1]:List Int).map V.int))/\zzs=[zzR p,zzI n,zzR q,zzN]) (fun R l=>?_) ?_
  ·exact⟨sz rfl,fun q af=>l _ _ ⟨q,Same.put af,aA,rfl⟩⟩
  rintro zzs H1 ⟨q,s1,aa,rfl⟩;refine aD (fun zzs H2=>∃(q:Addr)(b:Option V),Same H H2/\H2 q=some (.lst ((jR [1] a).map V.int))/\zzs=[zzR p,zzI n,zzR q,b]) (fun R l=>?_) ?_
  ·refine⟨_,rfl,p,rfl,⟨_,SqL.of (s1 _ _ J)⟩,?_⟩;refine cN (K:=K) (xs:=S) (fun i zzs H2=>∃(q:Addr)(b:Option V),Same H H2/\H2 q=some (.lst ((jR [1] (a.take i)).map V.int))/\zzs=[zzR p,zzI n,zzR q,b])
    ⟨q,none,s1,aa,rfl⟩ (fun i zzs H2 _ o=>by obtain⟨_,_,g,_⟩:=o;exact SqL.of (g _ _ J)) (fun i u zzs H2 hi o=>?_) (fun zzs H2 o=>?_)
   ·obtain⟨q,b,t,v,rfl⟩:=o;obtain⟨d,I,W⟩:=C.get hi;rw[cP] at I;obtain⟨c,G,rfl⟩:=gj.mp I;have co:=ok c (eX G);have ap:(a.take i).length<=100:=by rw[jd];lia
    have ab:=O6 (a.take i) [1] 1 (bK _) (bK _) fun x ac=>ok x (Dp ac)
    refine⟨_,rfl,_,rfl,u,c,rfl,W.mono t,co,fun ah z O aq X=>?_⟩;refine⟨q,ah,jR [1] (a.take i),iu c.1.length c.2,rfl,O _ _ v,X,ab.1,by lia,by rw[jA];have:=co.1;lia,Et co.2.2,fun r U ai ar Y=>?_⟩;refine⟨r,_,(t.trans O).trans ai,?_,rfl⟩;rw[iB,G];show U r=some (.lst ((jR [1] (a.take i++[c])).map V.int));rw[Wn];exact Y
   ·obtain⟨q,b,t,v,rfl⟩:=o;rw[ae,gP] at v;exact l _ _ ⟨q,b,t,v,rfl⟩
  rintro zzs H2 ⟨q,b,s2,D,rfl⟩;refine aD (fun zzs z=>z=H2/\(0<=n/\n<(jR [1] a).length)/\zzs=[zzR p,zzI n,zzR q,b]) (fun R l=>?_) ?_
  ·refine⟨_,rfl,_,_,rfl,rfl,_,rfl,yC (m:=((jR [1] a).length:Int)) (fun _ ag=>⟨_,rfl,.inl ⟨q,_,rfl,.inl (SqL.of D),by rw[aL];exact ag⟩⟩) (dW (fun B=>?_) (fun B=>l _ _ ⟨rfl,cT (by simpa only[vd] using B),rfl⟩))⟩;have y:=iW (by simpa only[qQ] using B);have e:rQ (jR [1] a) n=0:=by unfold rQ;rw[aJ y]
   rw[<- e];exact M _ s2
  rintro zzs z ⟨rfl,y,rfl⟩;obtain⟨k,rfl⟩:=Dh y.1;refine⟨_,rfl,_,rfl,.inl ⟨q,_,_,_,rfl,rfl,SqL.of D,dG (nW (j:=k) (by lia)),?_⟩⟩;have e:rQ (jR [1] a) (k:Int)=(jR [1] a).getD k 0:=by unfold rQ;rw[aK y,gD]
  rw[<- e];exact M _ s2
theorem Xz{zs:List Str}{w:Nat}(v:Vw zs w)(h:∀ p∈bx zs w,p.length<=12):(∀ ch∈chL zs w,Px ch)/\(chL zs w).length<=100:=by
 have h1:=vX v;have h2:(nO zs w).length<=36:=cU (gW _ _) (gb v);constructor
 ·intro ch b;unfold chL at b;rcases dj.mp b with rfl|b
  ·refine⟨jh _,fun l a=>?_,?_⟩
   ·unfold ju at a;split at a
    ·cases a
    ·rw[dH.mp a];exact bK _
   ·show(ju zs w).length<=5000;unfold ju;split
    ·exact jh _
    ·show 1<=5000;decide
  rcases dw.mp b with b|b
  ·obtain⟨p,d,rfl⟩:=cW.mp b;have:=h p d;exact⟨by show p.length<=36;lia,fun l a=>Wd a,cU (Aw this) (by decide)⟩
  ·obtain⟨c,_,rfl⟩:=cW.mp b;refine⟨by show 1<=36;decide,fun l a=>?_,by show 2<=5000;decide⟩;rcases dj.mp a with rfl|a
   ·exact jh _
   ·rw[dH.mp a];exact bK _
 ·unfold chL;rw[gY,cH,aL,aL];lia
end
theorem Ys(c:Nat):inS "12345678" c=decide (49<=c/\c<=56):=by
 rw[K9 (by decide +kernel)];have e:("12345678" : Str).cps.toList=[49,50,51,52,53,54,55,56]:=by decide +kernel
 rw[e];have:(c∈[49,50,51,52,53,54,55,56])↔(49<=c/\c<=56):=by simp;lia
 rw[tK];exact this
def nM(zs:List Str)(w:Nat):Bool:=(bB zs w "12345678").all fun t=>decide (0<(aG zs w t).length)
theorem NZ{zs:List Str}{w:Nat}{x:Cell}(v:Vw zs w):x∈bB zs w "12345678" ↔ inF zs.length w x/\aP zs w x=false/\0<dU zs x:=by
 rw[rP,Ys,jx];unfold dU;constructor
 ·rintro⟨h,a⟩;exact⟨h,((lV v).mp (rP.mpr ⟨h,by rw[xr];exact bQ (by lia)⟩)).2,by lia⟩
 ·rintro⟨h,a,b⟩;have:=v.digit h a;exact⟨h,by lia⟩
theorem Jb{zs:List Str}{w:Nat}(v:Vw zs w):ju zs w=if nM zs w=true then [[]] else []:=by
 unfold ju;have:(cJ zs.length w).any (HD zs w)=!nM zs w:=by
  rw[vq,qQ,Sh];unfold nM;rw[RZ,ne_eq,nQ];constructor
  ·rintro⟨c,b,a⟩ h;unfold HD yP at a;simp only[mK,qQ,jx] at a;have:=cT (h c ((NZ v).mpr ⟨dM.mp b,a.1.1,a.2⟩));lia
  ·intro h;refine GD fun n=>h fun c b=>bQ (GD fun e=>n ⟨c,?_⟩)
   obtain⟨h1,h2,d⟩:=(NZ v).mp b;refine⟨dM.mpr h1,?_⟩;unfold HD yP;rw[h2,bQ d,bQ (by lia:(aG zs w c).length=0)];rfl
 rw[this];cases nM zs w<;>rfl
def wtD:Option Cell->Dt
 |none=>.non
 |some c=>aC c
def wtB(wt:Option Cell)(ps row:List Cell):Bool:=match wt with
 |none=>true
 |some c=>!decide (c∈ps)||decide (c∈row)
def Fq(wt:Option Cell)(c:Cell):List Int:=[if some c=wt then 0 else 1,1]
noncomputable def yN(zs:List Str)(w:Nat)(wt:Option Cell):List Int:=
 ((nO zs w).map (Fq wt)).foldl mulL (((bx zs w).map fun p=>iu p.length ((eV zs w p).filter (wtB wt p))).foldl mulL [if nM zs w=true then 1 else 0])
theorem one_mul(x:Int):mulL [1] [x]=[x]:=by
 show [(0:Int)+1*x]=[x];rw[nR,Ht]
theorem a2p{zs:List Str}{w:Nat}(v:Vw zs w):yN zs w none=jR [1] (chL zs w):=by
 unfold yN jR chL;rw[vG,GX,qb,qb,qb,qb];have e:mulL [1] (iu 0 (ju zs w))=[if nM zs w=true then 1 else 0]:=by
  rw[Jb v];cases nM zs w
  ·exact one_mul 0
  ·exact one_mul 1
 have a:∀ p:List Cell,(eV zs w p).filter (wtB none p)=eV zs w p:=fun p=>BL.mpr fun _ _=>rfl
 show _=List.foldl _ (List.foldl _ (mulL [1] (iu 0 (ju zs w))) _) _;rw[e];simp only[a];rfl
def a0i(K:ao):Sp:=fun vs H Q _=>∃(p:Addr)(zs:List Str)(w:Nat),vs=[.ref p]/\SqL K H p (zs.map V.str)/\Vw zs w/\∀ H',Same H H'->Q (.bl (nM zs w)) H'
def OD(K:ao):Sp:=fun vs H Q _=>∃(p:Addr)(v:V)(zs:List Str)(w:Nat)(wt:Option Cell),vs=[.ref p,v]/\SqL K H p (zs.map V.str)/\Vw zs w/\Den K H v (wtD wt)/\(∀ p∈bx zs w,p.length<=12)/\∀ q H',Same H H'->H' q=some (.lst ((yN zs w wt).map V.int))->Q (.ref q) H'
def OJ(K:ao):Sp:=fun vs H Q _=>∃(p:Addr)(v:V)(n:Int)(zs:List Str)(w:Nat)(wt:Option Cell),vs=[.ref p,v,.int n]/\SqL K H p (zs.map V.str)/\Vw zs w/\Den K H v (wtD wt)/\(∀ p∈bx zs w,p.length<=12)/\∀ H',Same H H'->Q (.int (rQ (yN zs w wt) n)) H'
def V2(K:ao):Sp:=fun vs H Q _=>∃(p:Addr)(zs:List Str)(w:Nat),vs=[.ref p]/\SqL K H p (zs.map V.str)/\Vw zs w/\∀(b:Bool) H',Same H H'->(b=true↔∃ p∈bx zs w,12<p.length)->Q (.bl b) H'
theorem vM{K:ao}{H:Hp}{a:Type}{g:a->Int}:∀ {us:List V} {xs:List a},bf K H us (xs.map fun x=>Dt.int (g x))->us=xs.map (V.int ∘ g)
 |[],[],_=>rfl
 |_::_,_::_,.cons h t=>by
  cases h;rw[gq,vM t];rfl
section
variable{P:Program}{w:World}{K:ao}{mg:Str->Option Value}{base:Heap}{Z:Adr}
theorem a2z{f:Addr}{U:FuncData} (F:Fun K "_law_idle" "_law_idle" uM f U) (T:Txt K mg Z) (al:Df P w K mg base 1 "_law_sizes" ["rows"] (wj K)) (ai:Df P w K mg base 1 "_law_cells" ["rows","signs"] (sZ K)) (am:Df P w K mg base 1 "_law_near" ["height","width","cell"] (xY K)) :
  cR P w K mg base (CXE P w) 2 f U ["rows"] (a0i K):=by
 refine F.rok nY (fun aE H Q E h=>?_) (fun cdv A outer s H aE Q E o h=>?_)
 ·obtain⟨p,zs,w,rfl,_⟩:=h;rfl
 ·obtain⟨p,zs,w,rfl,z,I,Y⟩:=h;have ab:=mU o;refine⟨_,(au (kO (aV al o rfl aW (aj (rv 0) ak)) (lW rfl (cC (aQ (i:=1) nY.nd rfl (Or.inl rfl)) (cC (aQ (i:=2) nY.nd rfl (Or.inl rfl)) jq)))) (au (c7 dh rfl (aU (K:=K) (aV ai o rfl aW (aj (rv 0) (aj iy ak)))) (aQ (i:=3) nY.nd rfl (Or.inl rfl)) (aB (dR (bI (kj.or (jY (K:=K) ab)) (aN (cQ (K:=K)) rfl T.cO bM (aj (fU (by rfl) rfl (aU (K:=K) (aV am o rfl aW (aj (rv 1) (aj (rv 2) (aj (rv 3) ak))))) (fun _ _ _=>(eO (bI (kj.or (jY (K:=K) ab)) (cB (cL (K:=K)) (cB (cL (K:=K)) (rv 1) (cB (cL (K:=K)) (rv 0) aF)) (cB (cL (K:=K)) (rv 0) aF)) iy (cA _)))) (fun _ _ _=>(rv 0))) ak)) aF (cA _)) (aB (bA qH)) bV))) (aB (bA qH)))),?_⟩;refine aD (fun zzs H1=>Same H H1/\zzs=[zzR p,zzI zs.length,zzI w,zzN]) (fun R x=>?_) ?_
  ·exact⟨_,rfl,p,zs,w,rfl,z,I.toRect,fun t H' s' as=>⟨t,_,rfl,as,rfl,_,_,rfl,_,_,rfl,rfl,x _ _ ⟨s',rfl⟩⟩⟩
  rintro zzs H1 ⟨s1,rfl⟩;refine aD (fun zzs H2=>Same H H2/\nM zs w=true) (fun R x=>?_) ?_
  ·refine⟨_,rfl,p,zs,w,"12345678",rfl,s1.seq z,I.toRect,fun ax H2 W=>?_⟩;obtain⟨ad,O,J⟩:=W.ls;have av:ad.length=(bB zs w "12345678").length:=by rw[J.length,aL]
   have D:=s1.trans W.same;refine⟨ax,rfl,⟨_,SqL.of O⟩,?_⟩;refine cN (K:=K) (xs:=ad) (fun i zzs l=>∃ G:Option V,Same H2 l/\(∀ t∈(bB zs w "12345678").take i,0<(aG zs w t).length)/\zzs=[zzR p,zzI zs.length,zzI w,G])
    ⟨none,Same.refl _,(fun t C=>by cases C),rfl⟩ (fun i zzs l _ j=>by obtain⟨_,g,_⟩:=j;exact SqL.of (g _ _ O)) (fun i u zzs l hi j=>?_) (fun zzs l j=>?_)
   ·obtain⟨G,c,n,rfl⟩:=j;obtain⟨aO,M,an⟩:=J.get hi;rw[cP] at M;obtain⟨t,S,rfl⟩:=gj.mp M;have az:=eX S;have aR:=oG zs w t;refine⟨_,rfl,_,rfl,_,rfl,zs.length,w,u,t,rfl,an.mono c,fun aw aH m=>?_⟩;obtain⟨aS,N,ag⟩:=m.ls;refine⟨aw,rfl,⟨_,SqL.of N⟩,dD (K:=K) (xs:=bU zs.length w t) (enc:=aC) (bJ (SqL.of N)) ag (small (by have:=gA zs.length w t;lia)) (fun y=>aP zs w y) aC (fun y ac aA L k d ah v=>?_) (fun y ac _ aA L k d ah v=>⟨_,rfl,v _ _ (Same.refl _) d⟩) (fun ys L k af b B=>?_)⟩
    ·have ae:=uH ac;obtain⟨⟨aI,aJ⟩,⟨aK,aM⟩⟩:=id ae;have ao:y.1=((y.1.toNat:Nat):Int):=by lia
     have r:y.2=((y.2.toNat:Nat):Int):=by lia
     have i1:y.1.toNat<zs.length:=by lia
     have X:=(D.trans (c.trans (m.same.trans k))).seq z;refine⟨_,rfl,_,rfl,rW d ?_⟩;rw[ao];refine Gb X i1 ⟨_,rfl,rY d ?_⟩;rw[r];refine z9 X I.toRect i1 (by lia) ?_;refine Or.inl ⟨rfl,_,rfl,?_⟩;have ap:decide (V.str ⟨#[codeAt zs (y.1.toNat,y.2.toNat)]⟩=V.str "#")=aP zs w y:=by
      unfold aP;rw[bQ ae,vA,tK];constructor
      ·intro a;injection a with a;have:=congrArg (fun q:Str=>q.cps.getD 0 0) a;exact this
      ·intro a;rw[a];rfl
     rw[ap];exact v _ (Same.refl _)
    ·dsimp only[jL];refine mW (Ls.new B af).den ?_;refine Or.inl ⟨rfl,_,rfl,?_⟩;rw[wG,aL];have aq:((bU zs.length w t).filter fun y=>aP zs w y)=aG zs w t:=rfl;rw[aq];refine dW (fun h1=>?_) (fun h1=>?_)
     ·have ar:=cT h1;have:nM zs w=false:=by
       cases e:nM zs w
       ·rfl
       ·have:=cT (nQ.mp e t az);lia
      rw[<- this];exact Y _ (D.trans (c.trans (m.same.trans (k.and B))))
     ·have ar:=iW h1;refine⟨_,c.trans (m.same.trans (k.and B)),fun ay aa=>?_,rfl⟩;rw[iB,S] at aa;rcases dw.mp aa with a|a
      ·exact n ay a
      ·rw[dH.mp a];lia
   ·obtain⟨G,c,n,rfl⟩:=j;rw[av,gP] at n;exact x _ _ ⟨D.trans c,nQ.mpr fun t C=>bQ (n t C)⟩
  rintro zzs H2 ⟨s2,r⟩;have:=Y _ s2;rw[r] at this;exact this
theorem Oc{f:Addr}{D:FuncData} (F:Fun K "_law_together" "_law_together" nu f D) (T:Txt K mg Z) :
  cR P w K mg base (CXE P w) 1 f D ["one","other"] (Gw K):=by
 refine F.rok jt (fun Y H Q E h=>?_) (fun cdv A outer s H Y Q E ad h=>?_)
 ·obtain⟨p,q,a,b,rfl,_⟩:=h;rfl
 ·obtain⟨p,q,a,b,rfl,v,x,aa,ab,ac,bs,U⟩:=h;refine⟨_,(au (aO (i:=2) jt.nd rfl (Or.inl rfl) (bY jG (bZ (aj aF ak)) (bY FQ (bY bC (aN (cQ (K:=K)) rfl T.cO bM (aj (rv 0) ak)) (aN (cQ (K:=K)) rfl T.cO bM (aj (rv 1) ak))) aF))) (au (c7 dh rfl (dB rfl T.fG (aj (aN (cQ (K:=K)) rfl T.cO bM (aj (rv 0) ak)) ak)) (aQ (i:=3) jt.nd rfl (Or.inl rfl)) (aB (c7 dh rfl (dB rfl T.fG (aj (aN (cQ (K:=K)) rfl T.cO bM (aj (rv 1) ak)) ak)) (aQ (i:=4) jt.nd rfl (Or.inl rfl)) (aB (kO (bY bC (cB (cL (K:=K)) (rv 2) (bY bC (rv 3) (rv 4))) (bY jG (cB (cL (K:=K)) (rv 0) (rv 3)) (cB (cL (K:=K)) (rv 1) (rv 4)))) (Ba (rv 2) (bY bC (rv 3) (rv 4)) set_list)))))) (aB (bA (rv 2))))),?_⟩;refine aD (fun zzs H1=>∃ r:Addr,H r=none/\Same H H1/\H1 r=some (.lst ((List.replicate (a.length+b.length-1) 0).map V.int))/\zzs=[zzR p,zzR q,zzR r,zzN,zzN]) (fun R B=>?_) ?_
  ·refine⟨sz rfl,fun ag W=>?_⟩;have z:=Same.put (o:=.lst [V.int 0]) W;refine⟨_,rfl,.inl ⟨p,_,rfl,.inl (SqL.of (z _ _ v)),?_⟩⟩;refine⟨_,rfl,.inl ⟨q,_,rfl,.inl (SqL.of (z _ _ x)),?_⟩⟩;refine⟨_,_,rfl,rfl,?_⟩;rw[aL,aL];have e:((a.length:Int)+(b.length:Int)-1).toNat=a.length+b.length-1:=by lia
   refine⟨_,aA,?_,?_,?_,fun r l=>?_⟩
   ·lia
   ·lia
   ·exact small (by show 1*(_:Nat)<=10000;lia)
   ·refine B _ _ ⟨r,z.free l,z.and l,?_,rfl⟩;rw[aA,e,K7,RN]
  rintro zzs H1 ⟨r,l,s1,M,rfl⟩;have ae:p≠r:=bL v l;have af:q≠r:=bL x l;have keep:∀ {H2:Hp} {X:List V},Same H H2->Same H (upd H2 r (.lst X)):=fun g=>(SameBut.refl r _).put.of g l
  refine aD (fun zzs H2=>∃ t c:Option V,Same H H2/\H2 r=some (.lst ((mulL a b).map V.int))/\zzs=[zzR p,zzR q,zzR r,t,c]) (fun R B=>?_) ?_
  ·refine⟨_,rfl,.inl ⟨p,_,rfl,.inl (SqL.of (s1 _ _ v)),_,rfl,?_,?_,?_⟩⟩
   ·rw[aL];lia
   ·rw[aL];lia
   rw[aL,gD];refine eY (lo:=0) (n:=a.length) (fun j zzs H2=>∃ t c:Option V,Same H H2/\H2 r=some (.lst ((yQ a b j (List.replicate (a.length+b.length-1) 0)).map V.int))/\zzs=[zzR p,zzR q,zzR r,t,c])
    ⟨none,none,s1,M,rfl⟩ (fun j zzs H2 S d=>?_) (fun zzs H2 d=>B _ _ d)
   obtain⟨t,c,G,N,rfl⟩:=d;refine⟨_,rfl,.inl ⟨q,_,rfl,.inl (SqL.of (G _ _ x)),_,rfl,?_,?_,?_⟩⟩
   ·rw[aL];lia
   ·rw[aL];lia
   rw[aL,gD];refine eY (lo:=0) (n:=b.length) (fun k zzs u=>∃ c:Option V,Same H u/\u r=some (.lst ((xK a b j k (yQ a b j (List.replicate (a.length+b.length-1) 0))).map V.int))/\zzs=[zzR p,zzR q,zzR r,zzI (0+j),c])
    ⟨c,G,N,rfl⟩ (fun k zzs u J d=>?_) (fun zzs u d=>by obtain⟨c,m,y,rfl⟩:=d;exact⟨_,c,m,y,rfl⟩)
   obtain⟨c,m,y,rfl⟩:=d;have I:j+k<(xK a b j k (yQ a b j (List.replicate (a.length+b.length-1) 0))).length:=by rw[mz,qD,BJ];lia
   have C:(0:Int)+(j:Int)+(0+(k:Int))=((j+k:Nat):Int):=by lia
   refine⟨_,rfl,_,rfl,_,rfl,?_⟩;dsimp only[CW];rw[C];refine .inl ⟨r,_,_,_,rfl,rfl,SqL.of y,dG (nW I),?_⟩;refine⟨_,rfl,_,rfl,.inl ⟨p,_,_,.int (a.getD j 0),rfl,rfl,SqL.of (m _ _ v),?_,?_⟩⟩
   ·rw[nR];exact dG (nW S)
   refine⟨_,rfl,_,rfl,.inl ⟨q,_,_,.int (b.getD k 0),rfl,rfl,SqL.of (m _ _ x),?_,?_⟩⟩
   ·rw[nR];exact dG (nW J)
   refine⟨.inr ?_,?_⟩
   ·have O:b.getD k 0∈b:=by rw[fM,fY J];exact mL _
    have:=bs _ O;lia
   ·refine⟨_,rfl,_,rfl,_,rfl,?_⟩;dsimp only[CW];rw[C];refine⟨r,_,_,j+k,rfl,rfl,y,Qt (by rw[aL];exact I),?_⟩;refine⟨_,keep m,?_,rfl⟩;rw[aA,ints_set];rfl
  rintro zzs H2 ⟨t,c,s2,L,rfl⟩;exact⟨_,rfl,U r _ s2 l L⟩
theorem Z5{f:Addr}{e:FuncData} (F:Fun K "_law_great" "_law_great" sI f e) (T:Txt K mg Z) (B:Df P w K mg base 3 "_law_parts" ["rows"] (Gv K)) :
  cR P w K mg base (CXE P w) 4 f e ["rows"] (V2 K):=by
 refine F.rok HY (fun I H Q E h=>?_) (fun cdv A outer s H I Q E y h=>?_)
 ·obtain⟨p,zs,w,rfl,_⟩:=h;rfl
 ·obtain⟨p,zs,w,rfl,v,j,x⟩:=h;refine⟨_,(aB (bA (wJ yS (a6x (K:=K) rfl rfl T.Tg Q5 (fU (by rfl) rfl (aU (K:=K) (aV B y rfl aW (aj (rv 0) ak))) (fun _ _ _=>kJ) (fun _ _ _=>(aN (cQ (K:=K)) rfl T.cO bM (aj (rv 0) ak)))) aF) aF (cA _)))),?_⟩;refine⟨_,rfl,p,zs,w,rfl,v,j,fun i N H1 M s1 ps=>?_⟩;have L:=vX j;have k:=w5 (H0:=H) (q:=i) ps.len ps.ls;refine⟨i,rfl,⟨_,SqL.of ps.at_⟩,comp_map (K:=K) (xs:=bx zs w) (enc:=uJ) (bJ (SqL.of ps.at_)) k (small (by lia)) (fun r=>Dt.int (r.length:Int)) (fun r g u H2 s2 d J t=>?_) (fun G H2 s2 l q C=>?_)⟩
  ·obtain⟨a,rfl⟩:∃ a,u=.ref a:=by cases d;exact⟨_,rfl⟩
   refine⟨_,rfl,?_⟩;dsimp only[jL];refine mW d ?_;rw[aL];exact t _ _ (Same.refl _) (.int _)
  ·have n:G=((bx zs w).map fun r=>(r.length:Int)).map V.int:=by
    rw[lF];exact vM l
   refine⟨q,(bx zs w).map fun r=>(r.length:Int),0,rfl,rfl,SqL.of (by rw[aA,n]),fun m c=>?_⟩;refine⟨_,_,rfl,rfl,?_⟩;refine x _ _ (s1.trans (s2.and C)) ?_;rw[jx];rcases c with⟨o,rfl⟩|⟨c,z⟩
   ·have:bx zs w=[]:=a1w.mp o;rw[this];exact⟨fun b=>absurd b (by decide),fun⟨_,b,_⟩=>by cases b⟩
   ·obtain⟨r,g,rfl⟩:=cW.mp c;constructor
    ·intro b;exact⟨r,g,by lia⟩
    ·rintro⟨D,h1,h2⟩;have:=z _ (cW.mpr ⟨D,h1,rfl⟩);lia
theorem yJ:∀(bs:List (List Int))(a:List Int)(m:Nat),1<=a.length->a.length<=m->(∀ b∈bs,1<=b.length/\b.length<=37)->1<=(bs.foldl mulL a).length/\(bs.foldl mulL a).length<=m+bs.length*36
 |[],a,m,h1,h2,_=>⟨h1,by rw[yp,List.foldl_nil];omega⟩
 |b::bs,a,m,h1,h2,h=>by
  have c:=h b eF;have e:=O4 a b;have f:=yJ bs (mulL a b) (m+36) (by lia) (by lia) fun x d=>h x (gk _ d)
  rw[gY,vG];lia
theorem Ws{f:Addr}{a7:FuncData} (F:Fun K "_law_counts" "_law_counts" pR f a7) (T:Txt K mg Z) (b4:Df P w K mg base 2 "_law_idle" ["rows"] (a0i K)) (bS:Df P w K mg base 3 "_law_parts" ["rows"] (Gv K)) (b0:Df P w K mg base 2 "_law_layings" ["rows","part"] (Gu K)) (be:Df P w K mg base 1 "_law_together" ["one","other"] (Gw K)) (bR:Df P w K mg base 2 "_law_edge" ["rows"] (Rf K)) (bs:Df P w K mg base 1 "_law_cells" ["rows","signs"] (sZ K)) :
  cR P w K mg base (CXE P w) 4 f a7 ["rows","wanted"] (OD K):=by
 refine F.rok dY (fun b5 H Q E h=>?_) (fun cdv A outer s H b5 Q E N h=>?_)
 ·obtain⟨p,v,zs,w,m,rfl,_⟩:=h;rfl
 ·obtain⟨p,v,zs,w,m,rfl,ag,aa,aZ,a9,bK⟩:=h;have bL:=mU N;have ai:=xq N;refine⟨_,(au (aO (i:=2) dY.nd rfl (Or.inl rfl) (bZ (aj (kE Ab rfl T.Eo Aa (aj (aV b4 N rfl aW (aj (rv 0) ak)) ak)) ak))) (au (c7 dh rfl (aU (K:=K) (aV bS N rfl aW (aj (rv 0) ak))) (aQ (i:=3) dY.nd rfl (Or.inr rfl)) (au (pD (i:=4) dY.nd rfl rfl (by rfl) rfl (aU (K:=K) (aV b0 N rfl aW (aj (rv 0) (aj (rv 3) ak)))) (fun _ _ _=>(eO (R0 (Jh (bI ((fZ.or (jZ (K:=K) ai)).or (Yv (K:=K) ai)) (rv 2) (rv 4) (by rfl)) (Kl (bI (gG.or (tQ (K:=K) ai)) (rv 2) (rv 0) (by rfl))))))) (fun _ _ _=>(rv 0))) (au (a3A (i:=5) dY.nd rfl (Or.inr rfl) (fU (by rfl) rfl (aU (K:=K) (rv 4)) (fun _ _ _=>kJ) (fun _ _ _=>(aN (cQ (K:=K)) rfl T.cO bM (aj (rv 0) ak))))) (aB (aO (i:=2) dY.nd rfl (Or.inl rfl) (aV be N rfl aW (aj (rv 2) (aj (fU (by rfl) rfl (dB rfl T.fG (aj (bY bC (aN (cQ (K:=K)) rfl T.cO bM (aj (rv 3) ak)) aF) ak)) (fun _ _ _=>kJ) (fun _ _ _=>(lH (K:=K) lC PySem.F.slot_list_count PySem.F.type_list_count (a2i (K:=K)) (rv 6) (aj (rv 0) ak)))) ak)))))))) (au (aO (i:=6) dY.nd rfl (Or.inl rfl) (aV bR N rfl aW (aj (rv 0) ak))) (au (c7 dh rfl (aU (K:=K) (aV bs N rfl aW (aj (rv 0) (aj iy ak)))) (aQ (i:=7) dY.nd rfl (Or.inl rfl)) (aB (dR (bI (fZ.or (jZ (K:=K) ai)) (rv 7) (rv 6) (by rfl)) (aB (aO (i:=2) dY.nd rfl (Or.inl rfl) (aV be N rfl aW (aj (rv 2) (aj (bZ (aj (kE Ab rfl T.Eo Aa (aj (wJ ((yV.or (yL (K:=K) bL)).or (a7r (K:=K) ai)) (rv 7) (rv 1) (cA _)) ak)) (aj aF ak))) ak))))) bV))) (aB (bA (rv 2))))))),?_⟩;have az:=aa.le;have aX:=aa.w6;obtain⟨b2,_⟩:=vW (zs:=zs) (w:=w) az aX;have cc:=vX aa;generalize ao:(fun p:List Cell=>iu p.length ((eV zs w p).filter (wtB m p)))=g;have ay:∀ p∈bx zs w,1<=(g p).length/\(g p).length<=37:=fun p bH=>by
   have:=a9 p bH;rw[<- ao,jA];lia
  refine aD (fun zzs H1=>∃ q:Addr,Same H H1/\H1 q=some (.lst (([if nM zs w=true then 1 else 0]:List Int).map V.int))/\zzs=[zzR p,some v,zzR q,zzN,zzN,zzN,zzN,zzN]) (fun R ab=>?_) ?_
  ·refine⟨_,rfl,p,zs,w,rfl,ag,aa,fun H1 s1=>.inr ⟨_,rfl,sz rfl,fun q al=>ab _ _ ⟨q,s1.and al,?_,rfl⟩⟩⟩;rw[aA];cases nM zs w<;>rfl
  rintro zzs H1 ⟨q,s1,a0,rfl⟩;generalize bc:([if nM zs w=true then 1 else 0]:List Int)=x0 at a0;have cd:x0.length=1:=by rw[<- bc];rfl
  refine aD (fun zzs H2=>∃(q:Addr)(G I B:Option V),Same H H2/\H2 q=some (.lst ((((bx zs w).map g).foldl mulL x0).map V.int))/\zzs=[zzR p,some v,zzR q,G,I,B,zzN,zzN]) (fun R ab=>?_) ?_
  ·refine⟨_,rfl,p,zs,w,rfl,s1.seq ag,aa,fun b1 bj H2 ce s2 ps=>⟨b1,rfl,⟨_,SqL.of ps.at_⟩,?_⟩⟩;refine cN (K:=K) (xs:=bj.map V.ref) (fun i zzs C=>∃(q:Addr)(G I B:Option V),Same H2 C/\C q=some (.lst (((((bx zs w).take i).map g).foldl mulL x0).map V.int))/\zzs=[zzR p,some v,zzR q,G,I,B,zzN,zzN])
    ⟨q,none,none,none,Same.refl _,s2 _ _ a0,rfl⟩ (fun i zzs C _ M=>by obtain⟨_,_,_,_,j,_⟩:=M;exact SqL.of (j _ _ ps.at_)) (fun i u zzs C hi M=>?_) (fun zzs C M=>?_)
   ·obtain⟨q,G,I,B,j,J,rfl⟩:=M;rw[cP] at hi;obtain⟨a,a2,rfl⟩:=gj.mp hi;have bP:i<bj.length:=(gO.mp a2).1;have ip:i<(bx zs w).length:=by rw[<- ps.len];exact bP
    have an:(bx zs w)[i]?=some (bx zs w)[i]:=fY ip;generalize (bx zs w)[i]=r at an;have aH:=(ps.ls i a r a2 an).mono j;have rm:r∈bx zs w:=eX an;have aM:=a9 r rm;obtain⟨y,bN,bF⟩:=b2.of r rm;have b3:Part zs w r:=by rw[bF];exact Part.join az aX bN
    have ar:=s1.trans (s2.trans j);refine aD (fun zzs z=>∃ b:Addr,Same C z/\(∃ ys,z b=some (.lst ys)/\bf K z ys (((eV zs w r).filter (wtB m r)).map uJ))/\zzs=[zzR p,some v,zzR q,zzR a,zzR b,B,zzN,zzN]) (fun bq aE=>?_) ?_
    ·refine⟨_,rfl,_,rfl,p,a,zs,w,r,rfl,ar.seq ag,aa,aH,b3,aM,fun bi cg z cf O aq=>?_⟩;have bm:=w5 (H0:=C) (q:=bi) aq.len aq.ls;have cb:=Aw (zs:=zs) (w:=w) aM;refine⟨bi,rfl,⟨_,SqL.of aq.at_⟩,dD (K:=K) (xs:=eV zs w r) (enc:=uJ) (bJ (SqL.of aq.at_)) bm (small (by lia)) (wtB m r) uJ (fun l ba am n D d av L=>?_) (fun l ba _ am n D d av L=>⟨_,rfl,L _ _ (Same.refl _) d⟩) (fun ys n D as b X=>?_)⟩
     ·have ae:=aZ.mono (ar.trans (O.trans D));have ap:=aH.mono (O.trans D);cases m with
      |none=>
       cases ae;exact⟨_,rfl,_,rfl,.inr ⟨a,r,rfl,rfl,ap.den,_,rfl,Fx (L _ (Same.refl _))⟩⟩
      |some c=>
       refine⟨_,rfl,_,rfl,.inl (.inr (kI ae ap.den ⟨_,rfl,?_⟩))⟩;refine dW (fun h1=>?_) (fun h1=>?_)
       ·have e:wtB (some c) r l=true:=by show(!decide (c∈r)||decide (c∈l))=true;rw[h1];rfl
        rw[e] at L;exact L _ (Same.refl _)
       ·obtain⟨br,rfl⟩:∃ a,am=.ref a:=by cases d;exact⟨_,rfl⟩
        refine⟨_,rfl,_,rfl,.inr (z8 ae d ⟨_,rfl,?_⟩)⟩;have e:wtB (some c) r l=decide (c∈l):=by show(!decide (c∈r)||decide (c∈l))=_;rw[h1,SQ]
        rw[e] at L;exact L _ (Same.refl _)
     ·exact aE _ _ ⟨b,O.trans (D.and X),⟨ys,aA,as.mono (Same.put X)⟩,rfl⟩
    rintro zzs z ⟨b,O,⟨ys,a3,bo⟩,rfl⟩;have ca:((eV zs w r).filter (wtB m r)).length<=4096:=cU (gW _ _) (Aw aM);refine aD (fun zzs n=>∃ t:Addr,Same z n/\n t=some (.lst ((((eV zs w r).filter (wtB m r)).map fun l=>(l.length:Int)).map V.int))/\zzs=[zzR p,some v,zzR q,zzR a,zzR b,zzR t,zzN,zzN]) (fun bq aE=>?_) ?_
    ·refine⟨_,rfl,b,rfl,⟨_,SqL.of a3⟩,comp_map (K:=K) (xs:=(eV zs w r).filter (wtB m r)) (enc:=uJ) (bJ (SqL.of a3)) bo (small (by lia)) (fun l=>Dt.int (l.length:Int)) (fun l ba am n D d av L=>?_) (fun aT n D as t bO=>?_)⟩
     ·obtain⟨br,rfl⟩:∃ a,am=.ref a:=by cases d;exact⟨_,rfl⟩
      refine⟨_,rfl,?_⟩;dsimp only[jL];refine mW d ?_;rw[aL];exact L _ _ (Same.refl _) (.int _)
     ·exact aE _ _ ⟨t,D.and bO,by rw[aA,vM as,lF],rfl⟩
    rintro zzs n ⟨t,D,a6,rfl⟩;have ap:=aH.mono (O.trans D);refine⟨_,rfl,_,rfl,?_⟩;dsimp only[jL];refine mW ap.den ?_;rw[aL];have bD:((r.length:Int)+1).toNat=r.length+1:=by lia
    refine⟨_,rfl,by lia,by lia,?_⟩;rw[bD];refine comp_map (K:=K) (xs:=List.range (r.length+1)) (enc:=fun c:Nat=>Dt.int (c:Int)) (pC (r.length+1)) (bf.nats _) (by rw[jD];exact small (by lia)) (fun k:Nat=>Dt.int (((((eV zs w r).filter (wtB m r)).map fun l=>(l.length:Int)).count (k:Int):Nat):Int)) (fun k ah am ad ac d av L=>?_) (fun aT ad ac bn c bG=>?_)
    ·cases d;refine⟨_,rfl,.inl ⟨rfl,_,SqL.of (ac _ _ a6)⟩,_,rfl,t,_,_,rfl,rfl,SqL.of (ac _ _ a6),?_⟩;exact L _ _ (Same.refl _) (.int _)
    ·have bE:aT=(g r).map V.int:=by
      rw[vM bn,<- ao];show _=(iu r.length _).map V.int;unfold iu;rw[lF]
     have af:=yJ (((bx zs w).take i).map g) x0 1 (by lia) (by lia) fun b X=>by
      obtain⟨aI,aG,rfl⟩:=cW.mp X;exact ay aI (Dp aG)
     rw[aL,jd] at af;have sm:∀ x∈g r,0<=x/\x<2^64:=by rw[<- ao];exact Et (by lia)
     have bl:=ac.and (o:=.lst aT) bG;refine⟨q,c,_,g r,rfl,(O.trans (D.trans bl)) _ _ J,by rw[aA,bE],af.1,by lia,by have:=ay r rm;lia,sm,fun aP bp aS bW ax=>?_⟩;refine⟨aP,_,_,_,j.trans (O.trans (D.trans (bl.trans aS))),?_,rfl⟩;rw[iB,an,d9,GX];exact ax
   ·obtain⟨q,G,I,B,j,J,rfl⟩:=M;rw[aL,ps.len,gP] at J;exact ab _ _ ⟨q,G,I,B,s1.trans (s2.trans j),J,rfl⟩
  rintro zzs H2 ⟨q,G,I,B,s2,a1,rfl⟩;generalize bd:((bx zs w).map g).foldl mulL x0=x1 at a1;have bg:=yJ ((bx zs w).map g) x0 1 (by lia) (by lia) fun b X=>by
   obtain⟨aI,aG,rfl⟩:=cW.mp X;exact ay aI aG
  rw[bd,aL] at bg;refine aD (fun zzs C=>∃ U:Addr,Same H2 C/\Ls K C U ((pq zs w).map aC)/\zzs=[zzR p,some v,zzR q,G,I,B,zzR U,zzN]) (fun R ab=>?_) ?_
  ·exact⟨_,rfl,p,zs,w,rfl,s2.seq ag,aa,fun U C W=>ab _ _ ⟨U,W.same,W.ls,rfl⟩⟩
  rintro zzs C ⟨U,bk,bU,rfl⟩;refine aD (fun zzs z=>∃(q:Addr)(S:Option V),Same H z/\z q=some (.lst ((((nO zs w).map (Fq m)).foldl mulL x1).map V.int))/\zzs=[zzR p,some v,zzR q,G,I,B,zzR U,S]) (fun R ab=>?_) ?_
  ·have aR:=s2.trans bk;refine⟨_,rfl,p,zs,w,"#",rfl,aR.seq ag,aa.toRect,fun bX z W=>?_⟩;obtain⟨bh,a5,aY⟩:=W.ls;have bT:bh.length=(bB zs w "#").length:=by rw[aY.length,aL]
   have b9:(bB zs w "#").length<=36:=cU (Ae _ _ _) (lK az aX);refine⟨bX,rfl,⟨_,SqL.of a5⟩,?_⟩;refine cN (K:=K) (xs:=bh) (fun i zzs n=>∃(q:Addr)(S:Option V),Same z n/\n q=some (.lst ((((((bB zs w "#").take i).filter fun x=>!decide (x∈pq zs w)).map (Fq m)).foldl mulL x1).map V.int))/\zzs=[zzR p,some v,zzR q,G,I,B,zzR U,S])
    ⟨q,none,Same.refl _,(bk.trans W.same) _ _ a1,rfl⟩ (fun i zzs n _ M=>by obtain⟨_,_,j,_⟩:=M;exact SqL.of (j _ _ a5)) (fun i u zzs n hi M=>?_) (fun zzs n M=>?_)
   ·obtain⟨q,S,j,J,rfl⟩:=M;obtain⟨b7,a4,aw⟩:=aY.get hi;rw[cP] at a4;obtain⟨c,bv,rfl⟩:=gj.mp a4;have ar:=aR.trans (W.same.trans j);have tk:(bB zs w "#").take (i+1)=(bB zs w "#").take i++[c]:=by rw[iB,bv];rfl
    refine⟨_,rfl,_,rfl,.inr (kI (aw.mono j) (bU.mono (W.same.trans j)).den ⟨_,rfl,?_⟩)⟩;refine dW (fun h1=>?_) (fun h1=>?_)
    ·have e:(((bB zs w "#").take (i+1)).filter fun x=>!decide (x∈pq zs w))=(((bB zs w "#").take i).filter fun x=>!decide (x∈pq zs w))++[c]:=by
      rw[tk,qP];congr 1;rw[vp,aK h1];rfl
     have af:=yJ ((((bB zs w "#").take i).filter fun x=>!decide (x∈pq zs w)).map (Fq m)) x1 2000 bg.1 (by lia) fun b X=>by
      obtain⟨b6,_,rfl⟩:=cW.mp X;exact⟨by show 1<=2;decide,by show 2<=37;decide⟩
     have b8:(((bB zs w "#").take i).filter fun x=>!decide (x∈pq zs w)).length<=36:=cU (gW _ _) (by rw[jd];lia);rw[aL] at af;have a8:∀(k:Bool),k=!decide (some c=m)->∀ ad,Same n ad->∀ Y,ad Y=some (.lst [.int (if k=true then 1 else 0),.int 1])->Gw K [.ref q,.ref Y] ad (fun x H'=>(fun y=>∃(q:Addr)(S:Option V),Same z H'/\H' q=some (.lst ((((((bB zs w "#").take (i+1)).filter fun x=>!decide (x∈pq zs w)).map (Fq m)).foldl mulL x1).map V.int))/\[some (V.ref p),some v,some y,G,I,B,some (.ref U),some u]=[zzR p,some v,zzR q,G,I,B,zzR U,S]) x) E0:=fun k ah ad ac Y bz=>by
      have bw:([.int (if k=true then 1 else 0),.int 1]:List V)=(Fq m c).map V.int:=by
       unfold Fq;by_cases t:some c=m
       ·rw[bQ t] at ah;rw[ah,aK t];rfl
       ·rw[cD t] at ah;rw[ah,aJ t];rfl
      refine⟨q,Y,_,Fq m c,rfl,ac _ _ J,by rw[bz,bw],af.1,by lia,by show 2<=40;decide,fun x bb=>?_,fun aP bp aS bW ax=>⟨aP,_,j.trans (ac.trans aS),?_,rfl⟩⟩
      ·unfold Fq at bb;rcases dj.mp bb with t|t
       ·rw[t];split<;>decide
       ·rw[dH.mp t];decide
      ·rw[e,d9,GX];exact ax
     have ae:=aZ.mono ar;cases m with
     |none=>
      cases ae;refine⟨_,rfl,_,rfl,_,rfl,.inr ⟨c,aw.mono j,rfl,.inr ⟨_,rfl,sz rfl,fun Y al=>?_⟩⟩⟩;dsimp only[jL];exact a8 true rfl _ (Same.put al) Y aA
     |some bt=>
      refine⟨_,rfl,_,rfl,_,rfl,.inl (.inr ⟨_,_,rfl,aw.mono j,ae,rfl,yD c,.inr ⟨_,rfl,sz rfl,fun Y al=>?_⟩⟩)⟩;dsimp only[jL];refine a8 _ ?_ _ (Same.put al) Y aA;show(!eqD (aC c) (aC bt))=_;rw[Fl];simp
    ·have e:(((bB zs w "#").take (i+1)).filter fun x=>!decide (x∈pq zs w))=(((bB zs w "#").take i).filter fun x=>!decide (x∈pq zs w)):=by
      rw[tk,qP,vp,aJ (by rw[h1];exact gC),Ss,qT]
     rw[<- e] at J;exact⟨q,_,j,J,rfl⟩
   ·obtain⟨q,S,j,J,rfl⟩:=M;rw[bT,gP,a5g] at J;exact ab _ _ ⟨q,S,aR.trans (W.same.trans j),J,rfl⟩
  rintro zzs z ⟨q,S,O,bu,rfl⟩;refine⟨_,rfl,bK q _ O ?_⟩;rw[bu,<- bd,<- bc,<- ao];rfl
theorem Wv{f:Addr}{l:FuncData} (F:Fun K "_law_count" "_law_count" sG f l) (T:Txt K mg Z) (y:Df P w K mg base 4 "_law_counts" ["rows","wanted"] (OD K)) :
  cR P w K mg base (CXE P w) 5 f l ["rows","wanted","stones"] (OJ K):=by
 refine F.rok wK (fun B H Q E h=>?_) (fun cdv A outer s H B Q E x h=>?_)
 ·obtain⟨p,v,n,zs,w,a,rfl,_⟩:=h;rfl
 ·obtain⟨p,v,n,zs,w,a,rfl,u,C,r,t,o⟩:=h;refine⟨_,(au (aO (i:=3) wK.nd rfl (Or.inl rfl) (aV y x rfl aW (aj (rv 0) (aj (rv 1) ak)))) (au (dR (qJ pB yU aF (rv 2) (aN (cQ (K:=K)) rfl T.cO bM (aj (rv 3) ak))) (aB (bA (cB (cL (K:=K)) (rv 3) (rv 2)))) bV) (aB (bA aF)))),?_⟩;refine aD (fun zzs H1=>∃ q:Addr,Same H H1/\H1 q=some (.lst ((yN zs w a).map V.int))/\zzs=[zzR p,some v,zzI n,zzR q]) (fun R d=>?_) ?_
  ·exact⟨_,rfl,_,rfl,p,v,zs,w,a,rfl,u,C,r,t,fun q H1 s1 b=>d _ _ ⟨q,s1,b,rfl⟩⟩
  rintro zzs H1 ⟨q,s1,b,rfl⟩;refine aD (fun zzs H2=>H2=H1/\¬(0<=n/\n<(yN zs w a).length)) (fun R d=>?_) ?_
  ·refine⟨_,rfl,_,_,rfl,rfl,_,rfl,yC (m:=((yN zs w a).length:Int)) (fun _ z=>⟨_,rfl,.inl ⟨q,_,rfl,.inl (SqL.of b),by rw[aL];exact z⟩⟩) (dW (fun g=>?_) (fun g=>d _ _ ⟨rfl,iW g⟩))⟩;have c:=cT g;obtain⟨k,rfl⟩:=Dh c.1;refine⟨_,rfl,_,rfl,.inl ⟨q,_,_,_,rfl,rfl,SqL.of b,dG (nW (j:=k) (by omega)),?_⟩⟩;have e:rQ (yN zs w a) (k:Int)=(yN zs w a).getD k 0:=by unfold rQ;rw[aK c,gD]
   rw[<- e];exact o _ s1
  rintro zzs H2 ⟨rfl,c⟩;have e:rQ (yN zs w a) n=0:=by unfold rQ;rw[aJ c]
  have:=o _ s1;rw[e] at this;exact this
end
def co(a:List Int)(n:Nat):Int:=a.getD n 0
def sm(f:Nat->Int):Nat->Int
 |0=>0
 |n+1=>sm f n+f n
theorem oU{f g:Nat->Int}:∀ {n:Nat},(∀ i,i<n->f i=g i)->sm f n=sm g n
 |0,_=>rfl
 |n+1,h=>by
  show sm f n+f n=sm g n+g n;rw[oU fun i hi=>h i (tG hi),h n (yd n)]
theorem Eh:∀ n,sm (fun _=>0) n=0
 |0=>rfl
 |n+1=>by show sm (fun _=>0) n+0=0;rw[Eh n];rfl
theorem UW{f:Nat->Int}{n:Nat}:∀ {d:Nat},(∀ i,n<=i->f i=0)->sm f (n+d)=sm f n
 |0,_=>rfl
 |d+1,h=>by show sm f (n+d)+f (n+d)=sm f n;rw[UW h,h _ (Nat.le_add_right _ _),Cy]
theorem a4s{f:Nat->Int}{n m:Nat}(a:n<=m)(h:∀ i,n<=i->f i=0):sm f m=sm f n:=by
 obtain⟨d,rfl⟩:=Nat.exists_eq_add_of_le a;exact UW h
theorem a0e{f g:Nat->Int}:∀ n,sm (fun i=>f i+g i) n=sm f n+sm g n
 |0=>rfl
 |n+1=>by show sm (fun i=>f i+g i) n+(f n+g n)=(sm f n+f n)+(sm g n+g n);rw[a0e n];lia
theorem XQ{c:List Int}{i n:Nat}{x:Int}(a:i<c.length):co (c.set i x) n=if n=i then x else co c n:=by
 unfold co;rw[fM,List.getElem?_set];by_cases h:i=n
 ·rw[aK h,aK (by omega),aK h.symm];rfl
 ·rw[aJ h,aJ (iR h),<- fM]
theorem Qf{a b:List Int}{j:Nat}:∀ {k:Nat} {c:List Int} (n:Nat),j+k<=c.length->co (xK a b j k c) n=co c n+if j<=n/\n<j+k then co a j*co b (n-j) else 0
 |0,c,n,_=>by
  rw[aJ (by lia),Cy];rfl
 |k+1,c,n,h=>by
  unfold xK Uc;rw[XQ (by rw[mz];lia)];by_cases e:n=j+k
  ·rw[aK e,aK (by lia)];have:=Qf (a:=a) (b:=b) (j:=j) (k:=k) (c:=c) (j+k) (by lia);rw[aJ (by lia),Cy] at this;show co (xK a b j k c) (j+k)+co a j*co b k=_;rw[this,e,show j+k-j=k from by lia]
  ·rw[aJ e,Qf n (by lia)];by_cases h2:j<=n/\n<j+k
   ·rw[aK h2,aK (by lia)]
   ·rw[aJ h2,aJ (by lia)]
theorem XM{a b:List Int}:∀ {j:Nat} {c:List Int} (n:Nat),j<=a.length->a.length+b.length-1<=c.length->co (yQ a b j c) n=co c n+sm (fun i=>if i<=n/\n<i+b.length then co a i*co b (n-i) else 0) j
 |0,c,n,_,_=>by show co c n=co c n+0;rw[Cy]
 |j+1,c,n,h,d=>by
  unfold yQ;rw[Qf n (by rw[qD];lia),XM n (by lia) d];show _=_+(sm _ j+_);rw[Int.add_assoc]
theorem JL{a:List Int}{n:Nat}(h:a.length<=n):co a n=0:=by
 unfold co;rw[fM,Dk h];rfl
def cv(f g:Nat->Int)(n:Nat):Int:=sm (fun i=>f i*g (n-i)) (n+1)
theorem a4Q(a b:List Int)(n:Nat):co (mulL a b) n=cv (co a) (co b) n:=by
 unfold mulL;rw[XM n (bK _) (by rw[BJ];lia)];have c:co (List.replicate (a.length+b.length-1) 0) n=0:=by
  unfold co;rw[fM,Rp];split<;>rfl
 rw[c,nR];have d:sm (fun i=>if i<=n/\n<i+b.length then co a i*co b (n-i) else 0) a.length=sm (fun i=>if i<=n then co a i*co b (n-i) else 0) a.length:=oU fun i _=>by
  by_cases h:i<=n
  ·by_cases h2:n<i+b.length
   ·rw[aK ⟨h,h2⟩,aK h]
   ·rw[aJ (by lia),aK h,JL (a:=b) (by lia),Int.mul_zero]
  ·rw[aJ (by lia),aJ h]
 rw[d];have e:sm (fun i=>if i<=n then co a i*co b (n-i) else 0) (n+1)=cv (co a) (co b) n:=oU fun i hi=>aK (by lia)
 rw[<- e];rcases Nat.le_total a.length (n+1) with h|h
 ·refine(a4s h fun i hi=>?_).symm;rw[JL (a:=a) hi];split
  ·exact Int.zero_mul _
  ·rfl
 ·refine a4s h fun i hi=>aJ (by lia)
def tot(a:List Int):Int:=sm (co a) a.length
theorem a0f{c:List Int}{i:Nat}{y:Int}(a:i<c.length):∀ n,sm (co (c.set i y)) n=sm (co c) n+if i<n then y-co c i else 0
 |0=>rfl
 |n+1=>by
  show sm (co (c.set i y)) n+co (c.set i y) n=sm (co c) n+co c n+_;rw[a0f a n,XQ a];by_cases e:n=i
  ·rw[aK e,aJ (by lia),aK (by lia),e];lia
  ·rw[aJ e];by_cases h:i<n
   ·rw[aK h,aK (by lia)];lia
   ·rw[aJ h,aJ (by lia)];lia
theorem Ve{a b:List Int}{j:Nat}:∀ {k:Nat} {c:List Int},j+k<=c.length->tot (xK a b j k c)=tot c+co a j*sm (co b) k
 |0,c,_=>by
  show tot c=tot c+co a j*0;rw[Int.mul_zero,Cy]
 |k+1,c,h=>by
  unfold xK Uc;have d:=Ve (a:=a) (b:=b) (j:=j) (k:=k) (c:=c) (by lia);unfold tot at d ⊢;rw[mz] at d;rw[Lx,mz,a0f (by rw[mz];lia),aK (by lia),d];show _+(co (xK a b j k c) (j+k)+co a j*co b k-co (xK a b j k c) (j+k))=_+co a j*(sm (co b) k+co b k);rw[Int.mul_add];lia
theorem Vd{a b:List Int}:∀ {j:Nat} {c:List Int},j<=a.length->a.length+b.length-1<=c.length->tot (yQ a b j c)=tot c+sm (co a) j*tot b
 |0,c,_,_=>by
  show tot c=tot c+0*tot b;rw[Int.zero_mul,Cy]
 |j+1,c,h,d=>by
  unfold yQ;rw[Ve (by rw[qD];lia),Vd (by lia) d];show _+co a j*tot b=_+(sm (co a) j+co a j)*tot b;rw[Int.add_mul];lia
theorem a3N(a b:List Int):tot (mulL a b)=tot a*tot b:=by
 unfold mulL;rw[Vd (bK _) (by rw[BJ];lia)];have e:tot (List.replicate (a.length+b.length-1) 0)=0:=by
  unfold tot;have:sm (co (List.replicate (a.length+b.length-1) 0)) (List.replicate (a.length+b.length-1) (0:Int)).length=sm (fun _=>0) (List.replicate (a.length+b.length-1) (0:Int)).length:=oU fun i _=>by
   unfold co;rw[fM,Rp];split<;>rfl
  rw[this,Eh]
 rw[e,nR];rfl
theorem V0{f:Nat->Int}:∀ {n:Nat},(∀ i,i<n->0<=f i)->0<=sm f n
 |0,_=>yt 0
 |n+1,h=>by
  have:=V0 fun i hi=>h i (tG hi)
  have:=h n (yd n);show 0<=sm f n+f n;lia
theorem a4r{f:Nat->Int}:∀ {n i:Nat},(∀ i,i<n->0<=f i)->i<n->f i<=sm f n
 |n+1,i,h,hi=>by
  show f i<=sm f n+f n;have h1:=V0 fun i hi=>h i (tG hi)
  have h2:=h n (yd n);by_cases e:i=n
  ·subst e;lia
  ·have:=a4r (n:=n) (i:=i) (fun i hi=>h i (tG hi)) (by lia);lia
def Nn(a:List Int):Prop:=∀ n,0<=co a n
theorem Nn.mul{a b:List Int}(c:Nn a)(d:Nn b):Nn (mulL a b):=fun n=>by
 rw[a4Q];exact V0 fun i _=>Int.mul_nonneg (c i) (d _)
theorem Nn.of{a:List Int}(h:∀ x∈a,0<=x):Nn a:=fun n=>by
 unfold co;rw[fM];cases e:a[n]? with
 |none=>exact yt 0
 |some x=>exact h x (eX e)
theorem a4S{a:List Int}(b:Nn a)(n:Nat):co a n<=tot a:=by
 by_cases h:n<a.length
 ·exact a4r (fun i _=>b i) h
 ·rw[JL (by lia)];exact V0 fun i _=>b i
theorem Qe{n:Nat}{ls:List (List Cell)}{k:Nat}(a:k<=n):co (iu n ls) k=(((ls.map fun r=>(r.length:Int)).count (k:Int):Nat):Int):=by
 unfold co;rw[fM,DN a];rfl
theorem a4P(n:Nat)(ls:List (List Cell)):Nn (iu n ls):=Nn.of fun x a=>by
 obtain⟨k,_,rfl⟩:=cW.mp a;exact Ln _
theorem Vc{n:Nat}:∀ {ls:List (List Cell)},(∀ l∈ls,l.length<=n)->tot (iu n ls)=ls.length
 |[],_=>by
  unfold tot;rw[oU (g:=fun _=>0) fun i hi=>?_,Eh];rfl;rw[jA] at hi;rw[Qe (by lia)];rfl
 |l::ls,h=>by
  have a:=Vc (ls:=ls) fun x b=>h x (gk _ b)
  unfold tot at a ⊢;rw[jA] at a ⊢;have c:=h l eF;have e:sm (co (iu n (l::ls))) (n+1)=sm (fun i=>co (iu n ls) i+(if i=l.length then 1 else 0)) (n+1):=oU fun i hi=>by
   rw[Qe (by lia),Qe (by lia),gq,List.count_cons];by_cases q:i=l.length
   ·rw[aK q,aK (by rw[lG];lia)];rfl
   ·rw[aJ q,aJ (by rw[lG];lia)];rfl
  have one:∀ m,l.length<m->sm (fun i=>if i=l.length then 1 else 0) m=1:=fun m d=>by
   induction m with
   |zero=>lia
   |succ m a=>
    show sm (fun i=>if i=l.length then 1 else 0) m+(if m=l.length then 1 else 0)=1;by_cases q:l.length<m
    ·rw[a q,aJ (by lia)];rfl
    ·rw[aK (by lia),oU (g:=fun _=>0) fun i hi=>aJ (by lia),Eh];rfl
  rw[e,a0e,a,one _ (by lia),gY];lia
theorem Z0:∀ {chs:List (List Cell×List (List Cell))} {a:List Int},Nn a->Nn (jR a chs)
 |[],_,h=>h
 |b::chs,a,h=>Z0 (chs:=chs) (h.mul (a4P _ _))
def wI(chs:List (List Cell×List (List Cell))):Int:=chs.foldl (fun a ch=>a*(ch.2.length:Int)) 1
theorem vZ:∀(chs:List (List Cell×List (List Cell)))(a:Int),chs.foldl (fun a ch=>a*(ch.2.length:Int)) a=a*wI chs
 |[],a=>(T7 a).symm
 |ch::chs,a=>by
  unfold wI;rw[vG,vG,vZ chs,vZ chs (1*_),Ht,Int.mul_assoc]
theorem Ul:∀ {chs:List (List Cell×List (List Cell))} {a:List Int},(∀ ch∈chs,∀ l∈ch.2,l.length<=ch.1.length)->tot (jR a chs)=tot a*wI chs
 |[],a,_=>(T7 _).symm
 |ch::chs,a,h=>by
  show tot (jR (mulL a (iu ch.1.length ch.2)) chs)=_;rw[Ul fun c b=>h c (gk _ b),a3N,Vc (h ch eF)];unfold wI;rw[vG,vZ chs (1*_),Ht,Int.mul_assoc];rfl
theorem a4R{a:List Int}(n:Nat):rQ a n=co a n:=by
 unfold rQ;by_cases h:n<a.length
 ·rw[aK (by lia),gD];rfl
 ·rw[aJ (by lia),JL (by lia)]
section
variable{zs:List Str}{w:Nat}
theorem Zg(b:zs.length<=6)(c:w<=6):(bx zs w).flatten.Nodup:=by
 obtain⟨ok,_⟩:=vW (zs:=zs) (w:=w) b c;unfold List.Nodup;rw[List.pairwise_flatten];refine⟨fun p d=>?_,ok.dis.imp fun h x a y f e=>h x a (by rw[e];exact f)⟩;obtain⟨x,a,rfl⟩:=ok.of p d;exact(Part.join b c a).nd
theorem QL(a:zs.length<=6)(d:w<=6):(bx zs w).flatten.Perm (aY zs w):=by
 obtain⟨ok,f⟩:=vW (zs:=zs) (w:=w) a d;refine(KQ (Zg a d) (kZ (Ay a d))).mpr fun y=>?_
 rw[List.mem_flatten];constructor
 ·rintro⟨p,b,c⟩;obtain⟨x,e,rfl⟩:=ok.of p b;exact jj.edge e ((fO (jB e)).mp c)
 ·intro c;obtain⟨p,b,h⟩:=f y c;exact⟨p,b,h⟩
theorem MF(a:zs.length<=6)(b:w<=6):((bx zs w).flatten++nO zs w).Perm (eG zs w):=by
 refine((QL a b).append_right _).trans ?_;unfold aY nO;have e:(eG zs w).filter (fun x=>decide ((aM zs w x).length=0))=(eG zs w).filter (fun x=>!decide (0<(aM zs w x).length)):=tE fun x _=>by
  rw[vq,jx,qQ,decide_eq_false_iff_not];lia
 rw[e];exact List.filter_append_perm _ _
theorem Pj{a:Type}:∀ ls:List (List a),(ls.map fun l=>l.length).sum=ls.flatten.length
 |[]=>rfl
 |l::ls=>by rw[gq,LR,BZ,cH,Pj ls]
theorem XF(e:zs.length<=6)(g:w<=6):((chL zs w).map fun ch=>ch.1.length).sum=(eG zs w).length:=by
 unfold chL;rw[gq,LR,d9,List.sum_append,lF,lF];have b:(bx zs w).map ((fun ch:List Cell×List (List Cell)=>ch.1.length) ∘ fun p=>(p,eV zs w p))=(bx zs w).map fun p=>p.length:=rfl
 have d:∀ l:List Cell,(l.map ((fun ch:List Cell×List (List Cell)=>ch.1.length) ∘ fun c=>([c],[[],[c]]))).sum=l.length:=fun l=>by
  induction l with
  |nil=>rfl
  |cons a l f=>rw[gq,LR,f,gY];show 1+_=_;lia
 rw[b,Pj,d,<- (MF e g).length_eq,cH];show 0+_=_;lia
theorem Us:∀ {chs:List (List Cell×List (List Cell))},(∀ ch∈chs,ch.2.length<=2^ch.1.length)->0<=wI chs/\wI chs<=((2^(chs.map fun ch=>ch.1.length).sum:Nat):Int)
 |[],_=>⟨by decide,by decide⟩
 |ch::chs,h=>by
  obtain⟨a,i1⟩:=Us (chs:=chs) fun c b=>h c (gk _ b)
  have h1:=h ch eF;have e:wI (ch::chs)=(ch.2.length:Int)*wI chs:=by
   unfold wI;rw[vG,vZ chs (1*_),Ht];rfl
  rw[e,gq,LR,Nat.pow_add,Sw];exact⟨Int.mul_nonneg (Ln _) a,Int.mul_le_mul (by lia) i1 a (Ln _)⟩
theorem XC(v:Vw zs w)(b:∀ p∈bx zs w,p.length<=12):∀ ch∈chL zs w,ch.2.length<=2^ch.1.length:=fun ch a=>by
 unfold chL at a;rcases dj.mp a with rfl|a
 ·unfold ju;split<;>exact GF rfl
 rcases dw.mp a with a|a
 ·obtain⟨p,d,rfl⟩:=cW.mp a;show(eV zs w p).length<=2^p.length;rw[lU.length_eq];exact qz _ _ _
 ·obtain⟨c,_,rfl⟩:=cW.mp a;exact GF rfl
theorem Uk{chs:List (List Cell×List (List Cell))}(c:∀ ch∈chs,∀ l∈ch.2,l.length<=ch.1.length)(b:∀ ch∈chs,ch.2.length<=2^ch.1.length)(d:(chs.map fun ch=>ch.1.length).sum<=36)(n:Int):0<=rQ (jR [1] chs) n/\rQ (jR [1] chs) n<2^64:=by
 have a:Nn (jR [1] chs):=Z0 (Nn.of fun x e=>by rw[dH.mp e];decide);have f:tot (jR [1] chs)=wI chs:=by rw[Ul c];exact Ht _
 obtain⟨_,p1⟩:=Us b;have p2:2^(chs.map fun ch=>ch.1.length).sum<=2^36:=Lh (by decide) d;by_cases h:0<=n
 ·obtain⟨k,rfl⟩:=Dh h;rw[a4R];have:=a4S a k;have:=a k;lia
 ·unfold rQ;rw[aJ (by lia)];exact⟨by decide,by decide⟩
end
def setC(c:Cell)(b:Bool)(ch:List Cell×List (List Cell)):List Cell×List (List Cell):=if c∈ch.1 then(ch.1,ch.2.filter fun l=>decide (decide (c∈l)=b)) else ch
theorem a3E{c:Cell}{b:Bool}{ch:List Cell×List (List Cell)}(h:Px ch):Px (setC c b ch):=by
 unfold setC;by_cases a:c∈ch.1
 ·rw[aK a];exact⟨h.1,fun l d=>h.2.1 l (cG.mp d).1,cU (gW _ _) h.2.2⟩
 ·rw[aJ a];exact h
theorem a3I{c:Cell}{b:Bool}{chs:List (List Cell×List (List Cell))}(h:∀ ch∈chs,∀ l∈ch.2,l.length<=ch.1.length):∀ ch∈chs.map (setC c b),∀ l∈ch.2,l.length<=ch.1.length:=fun ch g l a=>by
 obtain⟨d,e,rfl⟩:=cW.mp g;unfold setC at a ⊢;by_cases f:c∈d.1
 ·rw[aK f] at a ⊢;exact h d e l (cG.mp a).1
 ·rw[aJ f] at a ⊢;exact h d e l a
theorem a3H{c:Cell}{b:Bool}{chs:List (List Cell×List (List Cell))}(h:∀ ch∈chs,ch.2.length<=2^ch.1.length):∀ ch∈chs.map (setC c b),ch.2.length<=2^ch.1.length:=fun ch f=>by
 obtain⟨d,a,rfl⟩:=cW.mp f;unfold setC;by_cases e:c∈d.1
 ·rw[aK e];exact cU (gW _ _) (h d a)
 ·rw[aJ e];exact h d a
theorem a3J{c:Cell}{b:Bool}{chs:List (List Cell×List (List Cell))}:((chs.map (setC c b)).map fun ch=>ch.1.length)=chs.map fun ch=>ch.1.length:=by
 rw[lF];refine BP fun d _=>?_
 show(setC c b d).1.length=_;unfold setC;split<;>rfl
theorem XD{zs:List Str}{w:Nat}(v:Vw zs w)(a:∀ p∈bx zs w,p.length<=12):∀ ch∈chL zs w,∀ l∈ch.2,l.length<=ch.1.length:=fun ch b=>((Xz v a).1 ch b).2.1
def Jp(K:ao):Sp:=fun vs H Q _=>∃(p:Addr)(v:V)(b:Bool)(c:Cell)(chs:List (List Cell×List (List Cell))),vs=[.ref p,v,.bl b]/\Ls K H p (chs.map chD)/\Den K H v (aC c)/\(∀ ch∈chs,Px ch)/\chs.length<=100/\∀ q H',Fr K H H' q ((chs.map (setC c b)).map chD)->Q (.ref q) H'
section
variable{P:Program}{w:World}{K:ao}{mg:Str->Option Value}{base:Heap}{Z:Adr}
theorem a3x{K:ao}{H e:Hp}{d:Type}{enc:d->Dt}:∀ {vs:List V} {xs:List d},bf K H vs (xs.map enc)->fQ (fun a v _=>Den K H v (enc a)) e vs xs:=by
 intro vs xs b
 induction xs generalizing vs with
 |nil=>cases b;exact .nil
 |cons c cs f=>cases b with|cons h t=>exact .cons h (f t)
theorem QH{f:Addr}{ai:FuncData} (F:Fun K "settled" "settled" Bl f ai) (T:Txt K mg Z):cR P w K mg base (CXE P w) 1 f ai ["found","cell","stone"] (Jp K):=by
 refine F.rok xW (fun aX H Q E h=>?_) (fun cdv A outer s H aX Q E an h=>?_)
 ·obtain⟨p,v,b,c,C,rfl,_⟩:=h;rfl
 ·obtain⟨p,v,b,c,C,rfl,aP,ae,aN,aY,aR⟩:=h;have aS:=mU an;have ao:=xq an;refine⟨_,(au (aO (i:=3) xW.nd rfl (Or.inl rfl) (bZ ak)) (au (c7 dh rfl (aU (K:=K) (rv 0)) (aQ (i:=4) xW.nd rfl (Or.inl rfl)) (aB (dR (bI (gG.or (tQ (K:=K) ao)) (rv 1) (cB (cL (K:=K)) (rv 4) aF) (by rfl)) (aB (gM (lH (K:=K) lC mG mH dO (rv 3) (aj (fX (aj (cB (cL (K:=K)) (rv 4) aF) (aj (fU (by rfl) rfl (aU (K:=K) (cB (cL (K:=K)) (rv 4) aF)) (fun _ _ _=>(eO (bI (kj.or (jY (K:=K) aS)) (wJ (gG.or (tQ (K:=K) ao)) (rv 2) (rv 0) (by rfl)) (rv 3) (cA _)))) (fun _ _ _=>(rv 0))) ak))) ak)))) (aB (gM (lH (K:=K) lC mG mH dO (rv 3) (aj (rv 4) ak))))))) (aB (bA (rv 3))))),?_⟩;refine aD (fun zzs H1=>∃ q:Addr,H q=none/\Same H H1/\H1 q=some (.lst [])/\zzs=[zzR p,some v,some (.bl b),zzR q,zzN]) (fun R O=>?_) ?_
  ·exact⟨by decide,fun q L=>O _ _ ⟨q,L,Same.put L,aA,rfl⟩⟩
  rintro zzs H1 ⟨q,L,s1,aH,rfl⟩;obtain⟨ap,ah,ac⟩:=aP;have aT:ap.length=C.length:=by rw[ac.length,aL]
  refine aD (fun zzs H2=>∃(k:List V)(B:Option V),Same H H2/\H2 q=some (.lst k)/\bf K (del q H2) k ((C.map (setC c b)).map chD)/\zzs=[zzR p,some v,some (.bl b),zzR q,B]) (fun R O=>?_) ?_
  ·refine⟨_,rfl,p,rfl,⟨_,SqL.of (s1 _ _ ah)⟩,?_⟩;refine cN (K:=K) (xs:=ap) (fun i zzs H2=>∃(k:List V)(B:Option V),Same H H2/\H2 q=some (.lst k)/\bf K (del q H2) k (((C.take i).map (setC c b)).map chD)/\zzs=[zzR p,some v,some (.bl b),zzR q,B])
    ⟨[],none,s1,aH,.nil,rfl⟩ (fun i zzs H2 _ M=>by obtain⟨_,_,g,_⟩:=M;exact SqL.of (g _ _ ah)) (fun i u zzs H2 hi M=>?_) (fun zzs H2 M=>?_)
   ·obtain⟨k,B,m,D,G,rfl⟩:=M;obtain⟨d,ag,I⟩:=ac.get hi;rw[cP] at ag;obtain⟨z,af,rfl⟩:=gj.mp ag;have aC:=eX af;obtain⟨aZ,a1,a0⟩:=aN z aC;obtain⟨t,a,e,xs,ys,rfl,W,al,ab,am,az⟩:=Y9 I;have a2:k.length<=100:=by
     have:k.length=(C.take i).length:=by rw[G.length,aL,aL]
     rw[this,jd];lia
    have tk:C.take (i+1)=C.take i++[z]:=by rw[iB,af];rfl
    have fin:∀(r:V)(x:Hp),Same H2 x->Den K (del q x) r (chD (setC c b z))->∃(ax:List V)(B:Option V),Same H (upd x q (.lst (k++[r])))/\(upd x q (.lst (k++[r]))) q=some (.lst ax)/\bf K (del q (upd x q (.lst (k++[r])))) ax (((C.take (i+1)).map (setC c b)).map chD)/\([zzR p,some v,some (.bl b),zzR q,zzR t]:L2.St)=[zzR p,some v,some (.bl b),zzR q,B]:=fun r x y aE=>by
     refine⟨k++[r],_,(SameBut.refl q _).put.of (m.trans y) L,aA,?_,rfl⟩;rw[tk,d9,d9];exact Jy G y aE
    have av:∀ {J:Hp},Same H J->Same H (del q J):=fun g=>g.into L
    refine⟨_,rfl,_,rfl,.inr (.inl ⟨t,_,_,_,rfl,rfl,SqT.of (m _ _ W),fV,.inr (z8 (ae.mono m) (Den.mono m (.lst al ab)) ⟨_,rfl,?_⟩)⟩)⟩;refine dW (fun h1=>?_) (fun h1=>?_)
    ·have S:=cT h1;have es:setC c b z=(z.1,z.2.filter fun l=>decide (decide (c∈l)=b)):=aK S;refine⟨_,rfl,.inl ⟨rfl,_,SqL.of D⟩,_,rfl,.inr (.inl ⟨t,_,_,_,rfl,rfl,SqT.of (m _ _ W),fV,?_⟩)⟩;refine⟨_,rfl,.inr (.inl ⟨t,_,_,_,rfl,rfl,SqT.of (m _ _ W),dG (j:=1) rfl,?_⟩)⟩;refine⟨e,rfl,⟨_,m.seq am⟩,Ew (R:=fun(l:List Cell) v _=>Den K H v (uJ l)) (R2:=fun(l:List Cell) v _=>Den K H v (uJ l)) (xs:=z.2) (fun _ _ _ _ _ h=>h) (fun _ _ _ _ _ h=>h) (bJ (m.seq am)) (a3x az) (small (by lia)) (fun l=>decide (decide (c∈l)=b)) id (fun l aM u x y I J N=>?_) (fun l aM _ u x y I J N=>⟨_,rfl,N _ _ (Same.refl _) I⟩) (fun ay x y aa n U=>?_)⟩
     ·obtain⟨ad,rfl⟩:∃ ad,u=.ref ad:=by cases I;exact⟨_,rfl⟩
      refine⟨_,rfl,_,rfl,.inr (z8 (ae.mono (m.trans y)) (I.mono (m.trans y)) ⟨_,rfl,.inl ⟨rfl,_,rfl,?_⟩⟩)⟩;have aG:decide (V.bl (decide (c∈l))=V.bl b)=decide (decide (c∈l)=b):=by
       rw[tK];exact⟨fun r=>by injection r,fun r=>by rw[r]⟩
      rw[aG];exact N _ (Same.refl _)
     ·rw[T8] at aa;refine⟨sz rfl,fun aw X=>?_⟩;have aq:=Same.put (o:=.lst ay) U;have ar:=Same.put (o:=.tup [V.ref a,V.ref n]) X;have Y:=y.trans (aq.trans ar);dsimp only[jL];refine jQ (K:=K) (Y _ _ D) (by lia) ?_;refine fin _ _ Y ?_;rw[es];have aV:aw≠q:=fun r=>by rw[r,(y.trans aq) _ _ D] at X;cases X
      have aW:n≠q:=fun r=>by rw[r,y _ _ D] at U;cases U
      have as:Same H (del q (upd (upd x n (.lst ay)) aw (.tup [V.ref a,V.ref n]))):=av (m.trans Y);refine Den.tup (by rw[mR aV];exact aA) (.cons (Den.mono as (.lst al ab)) (.cons (.lst (SqL.of (show del q _ n=_ by rw[mR aW];exact ar _ _ aA)) ?_) .nil));exact(aa.imp (R':=fun(l:List Cell) v J=>Den K J v (uJ l)) fun l v h=>h.mono as).a4Z fun l v h=>h
    ·have S:=iW h1;have es:setC c b z=z:=aJ S;refine⟨_,rfl,.inl ⟨rfl,_,SqL.of D⟩,_,rfl,?_⟩;dsimp only[jL];refine jQ (K:=K) D (by lia) ?_;exact fin _ _ (Same.refl _) (by rw[es];exact I.mono (av m))
   ·obtain⟨k,B,m,D,G,rfl⟩:=M;rw[aT,gP] at G;exact O _ _ ⟨k,B,m,D,G,rfl⟩
  rintro zzs H2 ⟨k,B,s2,aI,G,rfl⟩;exact⟨_,rfl,aR q _ ⟨s2,L,k,aI,G.mono jW⟩⟩
end
noncomputable def gB(zs:List Str)(w:Nat)(n:Int):Int:=rQ (jR [1] (chL zs w)) n
noncomputable def Bu(zs:List Str)(w:Nat)(c:Cell)(n:Int):Int:=rQ (jR [1] ((chL zs w).map (setC c true))) n
noncomputable def Al(zs:List Str)(w:Nat)(c:Cell)(n:Int):Int:=(Nat.gcd (Bu zs w c n).toNat (gB zs w n).toNat:Int)
def a4t:Sp:=fun vs H Q _=>∃ a b:Nat,vs=[.int a,.int b]/\Q (.int (Nat.gcd a b)) H
def Oz(K:ao)(C NC TG IM:Addr):Sp:=fun vs H Q E=>∃(x:Addr)(n:Int)(v:V)(zs:List Str)(w:Nat)(c:Cell),vs=[.ref x,.int n,v]/\ig C H x zs w/\Den K H v (aC c) /\
 (aP zs w c=false->∀ H',Same H H'->E (.ref NC) none H')/\(aP zs w c=true->(∃ p∈bx zs w,12<p.length)->∀ H',Same H H'->E (.ref TG) none H') /\
 (aP zs w c=true->(∀ p∈bx zs w,p.length<=12)->gB zs w n=0->∀ H',Same H H'->E (.ref IM) none H') /\
 (aP zs w c=true->(∀ p∈bx zs w,p.length<=12)->gB zs w n≠0->∀ t H',Same H H'->H' t=some (.tup [.int (Bu zs w c n / Al zs w c n),.int (gB zs w n / Al zs w c n)])->Q (.ref t) H')
theorem a2c{t u g:Int}(o:0<=t)(p:0<u)(f:g=(Nat.gcd t.toNat u.toNat:Int)):∃ a b c:Nat,t / g=a/\u / g=b/\g=c/\t=((c*a:Nat):Int)/\u=((c*b:Nat):Int)/\1<=b/\Nat.gcd a b=1:=by
 obtain⟨T,rfl⟩:=Dh o;obtain⟨d,rfl⟩:=Dh (Int.le_of_lt p);rw[gD,gD] at f;have i:0<Nat.gcd T d:=a1d _ (by lia);obtain⟨a,j⟩:=Nat.gcd_dvd_left T d;obtain⟨b,e⟩:=Nat.gcd_dvd_right T d;generalize n:Nat.gcd T d=c at *;have l:T / c=a:=by rw[j,a1h _ i]
 have m:d / c=b:=by rw[e,a1h _ i]
 refine⟨a,b,c,by rw[f,<- Int.natCast_ediv,l],by rw[f,<- Int.natCast_ediv,m],f,by rw[j],by rw[e],?_,?_⟩
 ·rcases RM b with k|k
  ·rw[k,Nat.mul_zero] at e;lia
  ·exact k
 ·have h:=Nat.gcd_mul_left c a b;rw[<- j,<- e,n] at h;exact Nat.eq_of_mul_eq_mul_left i (h.symm.trans (Nat.mul_one c).symm)
theorem Pk{zs:List Str}{w:Nat}(v:Vw zs w)(a:∀ p∈bx zs w,p.length<=12)(n:Int):0<=gB zs w n/\gB zs w n<2^64:=
 Uk (XD v a) (XC v a) (by rw[XF v.le v.w6];exact gb v) n
theorem a0A{zs:List Str}{w:Nat}(v:Vw zs w)(a:∀ p∈bx zs w,p.length<=12)(c:Cell)(n:Int):0<=Bu zs w c n/\Bu zs w c n<2^64:=
 Uk (a3I (XD v a)) (a3H (XC v a)) (by rw[a3J,XF v.le v.w6];exact gb v) n
section
variable{P:Program}{w:World}{K:ao}{mg:Str->Option Value}{base:Heap}{Z:Adr}
theorem a5I{f:Addr}{j:FuncData} (F:Fun K "common_divisor" "common_divisor" lX f j) (T:Txt K mg Z):cR P w K mg base (CXE P w) 1 f j ["one","other"] a4t:=by
 refine F.rok j9 (fun t H Q E h=>?_) (fun cdv A outer s H t Q E p h=>?_)
 ·obtain⟨a,b,rfl,_⟩:=h;rfl
 ·obtain⟨a,b,rfl,o⟩:=h;have q:=mU p;refine⟨_,(au (zm dh (bI (yV.or (yL (K:=K) q)) (rv 1) aF (cA _)) (au (aO (i:=2) j9.nd rfl (Or.inl rfl) (bY jH (rv 0) (rv 1))) (au (aO (i:=0) j9.nd rfl (Or.inl rfl) (rv 1)) (aB (aO (i:=1) j9.nd rfl (Or.inl rfl) (rv 2)))))) (aB (bA (rv 0)))),?_⟩;refine aD (fun zzs H1=>∃ k c:Option V,H1=H/\zzs=[zzI (Nat.gcd a b),k,c]) (fun R n=>?_) ?_
  ·refine⟨fun m zzs H'=>H'=H/\∃(x y:Nat)(c:Option V),m=y/\Nat.gcd x y=Nat.gcd a b/\zzs=[zzI x,zzI y,c],⟨b,rfl,a,b,none,rfl,rfl,rfl⟩,?_⟩;rintro m zzs H' ⟨rfl,x,y,c,l,d,rfl⟩;refine⟨_,rfl,.inl ⟨rfl,_,rfl,?_⟩⟩;rw[wG];refine dW (fun h1=>?_) (fun h1=>?_)
   ·have r:¬((y:Int)=0):=iW (by simpa only[qQ] using h1);refine⟨fun g e=>e=H'/\∃ c:Option V,g=[zzI y,zzI ((x%y:Nat):Int),c],fun g e h=>?_,?_⟩
    ·obtain⟨rfl,c,rfl⟩:=h;refine⟨x%y,by rw[l];exact M9 _ (by lia),rfl,y,x%y,c,rfl,?_,rfl⟩;rw[<- d,Nat.gcd_comm x y,Nat.gcd_rec y x,Nat.gcd_comm]
    ·refine⟨_,rfl,_,rfl,_,_,rfl,rfl,(by show(0:Int)<y;lia),?_⟩;refine⟨_,rfl,_,rfl,?_⟩;exact⟨rfl,_,by rw[Int.natCast_emod];rfl⟩
   ·have r:(y:Int)=0:=cT (by simpa only[vd] using h1);have:y=0:=by lia
    subst this;rw[Nat.gcd_zero_right] at d;exact n _ _ ⟨_,_,rfl,by rw[<- d]⟩
  rintro zzs H1 ⟨k,c,rfl,rfl⟩;exact⟨_,rfl,o⟩
theorem Wq{f:Addr}{C:FuncData} (F:Fun K "chance" "chance" Gf f C) (T:Txt K mg Z) (L:Df P w K mg base 2 "is_closed" ["view","cell"] (lY K Z.View)) (al:Df P w K mg base 6 "choices" ["view"] (Jk K Z.View Z.TooGreat)) (J:Df P w K mg base 2 "number_of" ["found","stones"] (a4v K)) (am:Df P w K mg base 1 "settled" ["found","cell","stone"] (Jp K)) (ab:Df P w K mg base 1 "common_divisor" ["one","other"] a4t) :
  cR P w K mg base (CXE P w) 7 f C ["view","stones","cell"] (Oz K Z.View Z.NoCell Z.TooGreat Z.Impossible):=by
 refine F.ZV qK (fun ai H Q E h=>?_) (fun cdv A outer s H ai Q E b h=>?_)
 ·obtain⟨x,n,v,zs,w,c,rfl,_⟩:=h;rfl
 ·obtain⟨x,n,v,zs,w,c,rfl,j,B,M,N,O,Y⟩:=h;have G:=U5 b;have aa:=mU b;refine⟨_,(au (dR (RT.nox (mX (jJ (aV L b rfl aW (aj (rv 0) (aj (rv 2) ak)))))) (aB (qI T.oW rfl T.uw G (aj iy ak))) bV) (au (aO (i:=3) qK.nd rfl (Or.inl rfl) (aV al b rfl Uq (aj (rv 0) ak))) (au (RS.nox (aO (i:=4) qK.nd rfl (Or.inl rfl) (aV J b rfl aW (aj (rv 3) (aj (rv 1) ak))))) (au (dR (RT.nox (bI (kj.or (jY (K:=K) aa)) (rv 4) aF (cA _))) (aB (qI T.iQ rfl T.rE G (aj iy ak))) bV) (au (RS.nox (aO (i:=5) qK.nd rfl (Or.inl rfl) (aV J b rfl aW (aj (aV am b rfl aW (aj (rv 3) (aj (rv 2) (aj qH ak)))) (aj (rv 1) ak))))) (au (RS.nox (aO (i:=6) qK.nd rfl (Or.inl rfl) (aV ab b rfl aW (aj (rv 5) (aj (rv 4) ak))))) (aB (RS.nox (bA (fX (aj (bY Od (rv 5) (rv 6)) (aj (bY Od (rv 4) (rv 6)) ak)))))))))))),?_⟩;refine aD (fun zzs H1=>aP zs w c=true/\Same H H1/\zzs=[zzR x,zzI n,some v,zzN,zzN,zzN,zzN]) (fun R a=>?_) ?_
  ·refine⟨_,rfl,_,rfl,x,v,zs,w,c,rfl,j,B,?_⟩;refine⟨_,rfl,?_⟩;exact dW (fun h1=>⟨by decide,M (by simpa only[qQ] using h1) _ (Same.refl _)⟩) (fun h1=>a _ _ ⟨by simpa only[vd] using h1,Same.refl _,rfl⟩)
  rintro zzs H1 ⟨r,s1,rfl⟩;refine aD (fun zzs H2=>∃ q:Addr,(∀ p∈bx zs w,p.length<=12)/\Same H H2/\Ls K H2 q ((chL zs w).map chD)/\zzs=[zzR x,zzI n,some v,zzR q,zzN,zzN,zzN]) (fun R a=>?_) ?_
  ·exact⟨_,rfl,x,zs,w,rfl,j.mono s1,fun W H' s'=>N r W _ (s1.trans s'),fun e q H2 g=>a _ _ ⟨q,e,s1.trans g.same,g.ls,rfl⟩⟩
  rintro zzs H2 ⟨q,e,s2,I,rfl⟩;obtain⟨m,o⟩:=Xz j.vw e;refine aD (fun zzs k=>Same H k/\Ls K k q ((chL zs w).map chD)/\zzs=[zzR x,zzI n,some v,zzR q,zzI (gB zs w n),zzN,zzN]) (fun R a=>?_) ?_
  ·exact⟨_,rfl,_,rfl,q,n,chL zs w,rfl,I,m,o,fun H' s'=>a _ _ ⟨s2.trans s',I.mono s',rfl⟩⟩
  rintro zzs k ⟨u,ac,rfl⟩;refine aD (fun zzs y=>y=k/\gB zs w n≠0/\zzs=[zzR x,zzI n,some v,zzR q,zzI (gB zs w n),zzN,zzN]) (fun R a=>?_) ?_
  ·refine⟨_,rfl,.inl ⟨rfl,_,rfl,?_⟩⟩;rw[wG];refine dW (fun h1=>⟨by decide,O r e (cT h1) _ u⟩) (fun h1=>a _ _ ⟨rfl,iW h1,rfl⟩)
  rintro zzs y ⟨rfl,X,rfl⟩;obtain⟨ah,ap⟩:=Pk j.vw e n;obtain⟨ag,ao⟩:=a0A j.vw e c n;refine aD (fun zzs l=>Same H l/\zzs=[zzR x,zzI n,some v,zzR q,zzI (gB zs w n),zzI (Bu zs w c n),zzN]) (fun R a=>?_) ?_
  ·refine⟨_,rfl,_,rfl,q,v,true,c,chL zs w,rfl,ac,B.mono u,m,o,fun ae l g=>?_⟩;refine⟨_,rfl,ae,n,_,rfl,g.ls,fun an S=>?_,by rw[aL];exact o,fun H' s'=>a _ _ ⟨u.trans (g.same.trans s'),rfl⟩⟩;obtain⟨d,U,rfl⟩:=cW.mp S;exact a3E (m d U)
  rintro zzs l ⟨af,rfl⟩;refine aD (fun zzs z=>z=l/\zzs=[zzR x,zzI n,some v,zzR q,zzI (gB zs w n),zzI (Bu zs w c n),zzI (Al zs w c n)]) (fun R a=>?_) ?_
  ·refine⟨_,rfl,_,rfl,(Bu zs w c n).toNat,(gB zs w n).toNat,?_,a _ _ ⟨rfl,rfl⟩⟩;rw[BR ag,BR ah];rfl
  rintro zzs z ⟨rfl,rfl⟩;have D:0<Al zs w c n/\Al zs w c n<2^64:=by
   unfold Al;have h1:=a1d (Bu zs w c n).toNat (n:=(gB zs w n).toNat) (by lia);have h2:=Nat.gcd_le_right (Bu zs w c n).toNat (n:=(gB zs w n).toNat) (by lia);lia
  refine⟨_,rfl,_,rfl,_,_,rfl,rfl,D,_,rfl,_,rfl,_,_,rfl,rfl,D,sz rfl,fun t ad=>?_⟩;exact Y r e X t _ (af.and ad) aA
end
def Pb(K:ao):Sp:=fun vs H Q _=>∃(a:Addr)(ns:List Int),vs=[.ref a]/\SqL K H a (ns.map V.int)/\∀(t p:Addr)(zs:List Str)(w:Nat)(n:Nat)(H':Hp),Same H H'->SqT K H' t [.ref p,.int n]->H' p=some (.lst (zs.map V.str))->Vw zs w->n<=36->Q (.ref t) H'
def vwB(zs:List Str):Bool:=zs.all fun z=>z.length==5&&z.cps.toList.all uU
theorem a3Q:∀ d0∈[35,48,49,50,51],∀ a∈[48,49,50,51],∀ b∈[48,49,50,51],vwB [("####" : Str)++⟨#[d0]⟩,((("#" : Str)++⟨#[a]⟩) ++ "#" ++ ⟨#[b]⟩) ++ "#","#####"]=true:=by decide +kernel
theorem a6S{zs:List Str}(d:1<=zs.length)(e:zs.length<=6)(h:vwB zs=true):Vw zs 5:=by
 have h:=nQ.mp h;refine⟨⟨d,e,by decide,by decide,fun b a=>?_⟩,fun b a c f=>?_⟩
 ·exact lG.mp (Ry.mp (h b a)).1
 ·exact nQ.mp (Ry.mp (h b a)).2 c f
theorem Vf{a b:List Str}(c:vwB a=true)(d:vwB b=true):vwB (a++b)=true:=by
 unfold vwB at *;rw[List.all_append,c,d];rfl
section
variable{P:Program}{w:World}{K:ao}{mg:Str->Option Value}{base:Heap}{Z:Adr}
theorem WD{f:Addr}{aH:FuncData} (F:Fun K "_law_rows_by" "_law_rows_by" oK f aH) (T:Txt K mg Z) (az:Df P w K mg base 1 "_law_cell_at" ["script","k"] (Bs K)) (a7:Df P w K mg base 1 "_law_mix" ["cell","k","many"] Jo)
  (bu:Df P w K mg base 4 "_law_view_by" ["script","most","steps"] (Pg K)) (bp:Df P w K mg base 2 "_law_wrong_by" ["script","rows"] (V8 K)) :
  cR P w K mg base (CXE P w) 5 f aH ["script"] (Pb K):=by
 refine F.rok cY (fun bF H Q E h=>?_) (fun cdv A outer s H bF Q E W h=>?_)
 ·obtain⟨a,aa,rfl,_⟩:=h;rfl
 ·obtain⟨a,aa,rfl,af,bj⟩:=h;have aq:=mU W;refine⟨_,(au (aO (i:=1) cY.nd rfl (Or.inl rfl) (bY jH (aV az W rfl aW (aj (rv 0) (aj aF ak))) aF)) (au (kO (aV bu W rfl aW (aj (rv 0) (aj (cB (cL (K:=K)) (bZ (aj aF (aj aF (aj aF (aj aF (aj aF (aj aF ak))))))) (rv 1)) (aj (cB (cL (K:=K)) (bZ (aj aF (aj aF (aj aF (aj aF (aj aF (aj aF ak))))))) (rv 1)) ak)))) (lW rfl (cC (aQ (i:=2) cY.nd rfl (Or.inl rfl)) (cC (aQ (i:=3) cY.nd rfl (Or.inl rfl)) jq)))) (au (aO (i:=2) cY.nd rfl (Or.inl rfl) (aV bp W rfl aW (aj (rv 0) (aj (rv 2) ak)))) (au (dR (bI (kj.or (jY (K:=K) aq)) (rv 1) aF (cA _)) (au (aO (i:=4) cY.nd rfl (Or.inr rfl) (aV az W rfl aW (aj (rv 0) (aj aF ak)))) (au (pD (i:=5) cY.nd rfl rfl (by rfl) rfl (dB rfl T.fG (aj aF ak)) (fun _ _ _=>kJ) (fun _ _ _=>(cB (cL (K:=K)) iy (aV a7 W rfl aW (aj (rv 5) (aj (rv 0) (aj (cB (cL (K:=K)) (bZ (aj aF (aj aF (aj aF ak)))) (rv 0)) ak))))))) (au (kO (cB (cL (K:=K)) (bZ (aj (cB (cL (K:=K)) (rv 5) aF) (aj iy ak))) (bY jH (rv 4) aF)) (Ba (rv 5) aF set_list)) (au (aO (i:=2) cY.nd rfl (Or.inl rfl) (bZ (aj (bY bC iy (cB (cL (K:=K)) (rv 5) aF)) (aj (bY bC (bY bC (bY bC (bY bC iy (cB (cL (K:=K)) (rv 5) aF)) iy) (cB (cL (K:=K)) (rv 5) aF)) iy) (aj iy ak))))) (aB (dR (bI (kj.or (jY (K:=K) aq)) (bY jH (bY yR (rv 4) aF) aF) aF (cA _)) (aB (aO (i:=2) cY.nd rfl (Or.inl rfl) (bY bC (rv 2) (bZ (aj iy (aj iy ak)))))) (aB (dR (bI (kj.or (jY (K:=K) aq)) (bY jH (bY yR (rv 4) aF) aF) aF (cA _)) (aB (aO (i:=2) cY.nd rfl (Or.inl rfl) (bY bC (bZ (aj iy (aj iy ak))) (rv 2)))) bV)))))))) bV) (aB (bA (fX (aj (rv 2) (aj (aN (cQ (K:=K)) rfl T.cO bM (aj (rv 3) ak)) ak))))))))),?_⟩;refine aD (fun zzs H1=>∃ y:Int,0<=y/\y<6/\H1=H/\zzs=[zzR a,zzI y,zzN,zzN,zzN,zzN]) (fun R J=>?_) ?_
  ·exact⟨_,rfl,a,aa,20,rfl,by decide,af,fun g=>⟨_,_,rfl,rfl,(by show(0:Int)<6;decide),J _ _ ⟨g%6,Cp _ (by decide),BX _ (by decide),rfl,rfl⟩⟩⟩
  rintro zzs H1 ⟨y,aX,aY,rfl,rfl⟩;refine aD (fun zzs H2=>∃(p q:Addr)(zs:List Str)(w:Nat)(st:List Cell),Same H1 H2/\H2 p=some (.lst (zs.map V.str))/\Vw zs w/\Ls K H2 q (st.map aC)/\st.length<=36/\zzs=[zzR a,zzI y,zzR p,zzR q,zzN,zzN]) (fun R J=>?_) ?_
  ·refine⟨_,rfl,sz rfl,fun l G=>?_⟩;have S:=Same.put (o:=.lst [V.int 4,V.int 4,V.int 4,V.int 4,V.int 4,V.int 6]) G;obtain⟨v,N,e⟩:=uo (xs:=([4,4,4,4,4,6]:List Int).map V.int) (i:=y) aX (by simpa using aY);obtain⟨n,U,rfl⟩:=cW.mp N;have aK:1<=n/\n<=6:=(by decide:∀ x∈([4,4,4,4,4,6]:List Int),1<=x/\x<=6) n U;refine⟨_,rfl,.inl ⟨l,_,_,_,rfl,rfl,SqL.of aA,e,?_⟩⟩;refine⟨sz rfl,fun bn bg=>?_⟩;have aR:=Same.put (o:=.lst [V.int 4,V.int 4,V.int 4,V.int 4,V.int 4,V.int 2]) bg;obtain⟨v,N,a8⟩:=uo (xs:=([4,4,4,4,4,2]:List Int).map V.int) (i:=y) aX (by simpa using aY);obtain⟨k,bf,rfl⟩:=cW.mp N;have aJ:1<=k/\k<=10:=(by decide:∀ x∈([4,4,4,4,4,2]:List Int),1<=x/\x<=10) k bf;refine⟨_,rfl,.inl ⟨bn,_,_,_,rfl,rfl,SqL.of aA,a8,?_⟩⟩;refine⟨a,aa,n,k,rfl,(S.trans aR).seq af,aK.1,aK.2,aJ.1,aJ.2,fun t r p H2 h w st bT s1 ah bX bm bl bh h1 bR bJ b0 bD nd bS=>?_⟩;obtain⟨tv,bP,_⟩:∃ tv,H2 t=tv/\True:=⟨_,rfl,trivial⟩
   refine⟨t,_,rfl,bm,rfl,_,_,rfl,_,_,rfl,rfl,J _ _ ⟨r,p,_,w,st,S.trans (aR.trans s1),bl,a0a h1 (by lia) bJ (by lia),bh,?_,rfl⟩⟩;have:=bD.length_le;rw[gF] at this;have bQ:h*w<=6*6:=lK (by lia) (by lia);lia
  rintro zzs H2 ⟨p,q,zs,w,st,s2,ao,ay,ag,bU,rfl⟩;refine aD (fun zzs u=>∃(p:Addr)(zs:List Str),Same H1 u/\u p=some (.lst (zs.map V.str))/\Vw zs w/\Ls K u q (st.map aC)/\zzs=[zzR a,zzI y,zzR p,zzR q,zzN,zzN]) (fun R J=>?_) ?_
  ·exact⟨_,rfl,_,rfl,a,p,aa,zs,w,rfl,s2.seq af,ao,ay,fun bv L u Y bk bG e=>J _ _ ⟨bv,L,s2.trans Y,bk,bG,ag.mono Y,rfl⟩⟩
  rintro zzs u ⟨p,zs,Y,ao,ay,ag,rfl⟩;refine aD (fun zzs d=>∃(p:Addr)(zs:List Str)(w:Nat)(aT aU:Option V),Same H1 d/\d p=some (.lst (zs.map V.str))/\Vw zs w/\Ls K d q (st.map aC)/\zzs=[zzR a,zzI y,zzR p,zzR q,aT,aU]) (fun R J=>?_) ?_
  ·refine⟨_,rfl,.inl ⟨rfl,_,rfl,?_⟩⟩;refine dW (fun _=>?_) (fun _=>J _ _ ⟨p,zs,w,none,none,Y,ao,ay,ag,rfl⟩);refine aD (fun zzs d=>∃ g:Int,u=d/\zzs=[zzR a,zzI y,zzR p,zzR q,zzI g,zzN]) (fun am M=>?_) ?_
   ·exact⟨_,rfl,a,aa,21,rfl,by decide,Y.seq af,fun g=>M _ _ ⟨g,rfl,rfl⟩⟩
   rintro zzs d ⟨g,rfl,rfl⟩;refine aD (fun zzs d=>∃(b:Addr)(B C D:Nat),u b=none/\Same u d/\B∈[48,49,50,51]/\C∈[48,49,50,51]/\D∈[48,49,50,51]/\d b=some (.lst [.str ⟨#[B]⟩,.str ⟨#[C]⟩,.str ⟨#[D]⟩])/\zzs=[zzR a,zzI y,zzR p,zzR q,zzI g,zzR b]) (fun am M=>?_) ?_
   ·refine⟨3,rfl,by decide,by decide,?_⟩;refine vL (R:=fun(i:Int) v _=>v=.int i) (R2:=fun(_:Int) v _=>∃ c∈[48,49,50,51],v=.str ⟨#[c]⟩) (xs:=[0,1,2]) (fun _ _ _ _ _ h=>h) (fun _ _ _ _ _ h=>h) (FT 0 3) (.cons rfl (.cons rfl (.cons rfl .nil))) (small (by decide)) id (fun i hi al d O bw bN bc=>?_) (fun ys d O I n U=>?_)
    ·subst bw;refine⟨_,rfl,_,rfl,sz rfl,fun l G=>?_⟩;have S:=Same.put (o:=.lst [V.int 3,V.int 4,V.int 4]) G;have aI:0<=i/\i<3:=(by decide:∀ x∈([0,1,2]:List Int),0<=x/\x<3) i hi;obtain⟨v,N,e⟩:=uo (xs:=([3,4,4]:List Int).map V.int) (i:=i) aI.1 (by simpa using aI.2);obtain⟨n,U,rfl⟩:=cW.mp N;have bq:0<n/\n<=4:=(by decide:∀ x∈([3,4,4]:List Int),0<x/\x<=4) n U;refine⟨_,rfl,.inl ⟨l,_,_,_,rfl,rfl,SqL.of aA,e,?_⟩⟩;refine⟨g,i,n,rfl,bq.1,fun ab z a0 bO bE=>?_⟩;have aG:("0123" : Str).cps.toList=[48,49,50,51]:=by decide +kernel
     obtain⟨aE,bd,ba⟩:=uo (xs:=("0123" : Str).cps.toList) (i:=ab) a0 (by rw[aG];show ab<4;lia);refine .inr (.inr ⟨_,ab,aE,rfl,rfl,by decide,ba,bc _ _ (S.trans bE) ⟨aE,by rw[<- aG];exact bd,rfl⟩⟩)
    ·rw[T8] at I;cases I with
     |cons bb I=>
      cases I with
      |cons h1 I=>
       cases I with
       |cons h2 I=>
        cases I;obtain⟨B,ar,rfl⟩:=bb;obtain⟨C,as,rfl⟩:=h1;obtain⟨D,av,rfl⟩:=h2;exact M _ _ ⟨n,B,C,D,O.free U,O.and U,ar,as,av,aA,rfl⟩
   rintro zzs d ⟨b,B,C,D,bs,O,ar,as,av,es,rfl⟩;refine aD (fun zzs z=>∃ m:Nat,Same u z/\m∈[35,48,49,50,51]/\z b=some (.lst [.str ⟨#[m]⟩,.str ⟨#[C]⟩,.str ⟨#[D]⟩])/\zzs=[zzR a,zzI y,zzR p,zzR q,zzI g,zzR b]) (fun am M=>?_) ?_
   ·refine⟨_,rfl,.inl ⟨b,_,_,_,rfl,rfl,SqL.of es,fV,?_⟩⟩;refine⟨sz rfl,fun l G=>?_⟩;have S:=Same.put (o:=.lst [V.str ⟨#[B]⟩,V.str "#"]) G;refine⟨_,rfl,_,_,rfl,rfl,(by show(0:Int)<2;decide),?_⟩;have a4:0<=g%2:=Cp _ (by decide);have a5:g%2<2:=BX _ (by decide);obtain⟨v,N,e⟩:=uo (xs:=[V.str ⟨#[B]⟩,V.str "#"]) (i:=g%2) a4 (by simpa using a5);refine .inl ⟨l,_,_,_,rfl,rfl,SqL.of aA,e,?_⟩;have be:∃ m∈[35,48,49,50,51],v=.str ⟨#[m]⟩:=by
     rcases dj.mp N with al|al
     ·exact⟨B,gk _ ar,al⟩
     ·rw[dH.mp al];exact⟨35,by simp,rfl⟩
    obtain⟨m,aw,rfl⟩:=be;refine⟨_,rfl,b,_,_,0,rfl,rfl,S _ _ es,rfl,?_⟩;have bB:SameBut b (upd d l (.lst [V.str ⟨#[B]⟩,V.str "#"])) (upd (upd d l (.lst [V.str ⟨#[B]⟩,V.str "#"])) b (.lst [.str ⟨#[m]⟩,.str ⟨#[C]⟩,.str ⟨#[D]⟩])):=(SameBut.refl b _).put;exact M _ _ ⟨m,bB.of (O.trans S) bs,aw,aA,rfl⟩
   rintro zzs z ⟨m,bx,aw,an,rfl⟩;have a1:∀ {Q:VK},Q (.str ⟨#[m]⟩) z->rIx K (.ref b) (.int 0) z Q:=fun q=>.inl ⟨b,_,_,_,rfl,rfl,SqL.of an,fV,q⟩
   have a2:∀ {Q:VK},Q (.str ⟨#[C]⟩) z->rIx K (.ref b) (.int 1) z Q:=fun q=>.inl ⟨b,_,_,_,rfl,rfl,SqL.of an,dG (j:=1) rfl,q⟩
   have a3:∀ {Q:VK},Q (.str ⟨#[D]⟩) z->rIx K (.ref b) (.int 2) z Q:=fun q=>.inl ⟨b,_,_,_,rfl,rfl,SqL.of an,dG (j:=2) rfl,q⟩
   refine aD (fun zzs ad=>∃(p:Addr)(zs:List Str),Same u ad/\ad p=some (.lst (zs.map V.str))/\zs.length=3/\vwB zs=true/\zzs=[zzR a,zzI y,zzR p,zzR q,zzI g,zzR b]) (fun am M=>?_) ?_
   ·refine⟨_,rfl,a1 ⟨small (by show 4+1<=10000;decide),?_⟩⟩;refine⟨_,rfl,a2 ⟨small (by show 1+1<=10000;decide),small (by show 2+1<=10000;decide),?_⟩⟩;refine⟨_,rfl,a3 ⟨small (by show 3+1<=10000;decide),small (by show 4+1<=10000;decide),?_⟩⟩;refine⟨sz rfl,fun q br=>?_⟩;have key:=a3Q m aw C as D av;generalize ("####" : Str)++⟨#[m]⟩=r1 at key ⊢;generalize ((("#" : Str)++⟨#[C]⟩) ++ "#" ++ ⟨#[D]⟩) ++ "#" = ab at key ⊢;generalize ("#####" : Str)=r3 at key ⊢;exact M _ _ ⟨q,[r1,ab,r3],bx.and br,aA,rfl,key,rfl⟩
   rintro zzs ad ⟨p,zs,aM,ap,X,ax,rfl⟩;have bz:=Y.trans aM;have out:∀(ai:Addr)(L:List Str)(ae:Hp),Same ad ae->ae ai=some (.lst (L.map V.str))->1<=L.length->L.length<=6->vwB L=true->R [zzR a,zzI y,zzR ai,zzR q,zzI g,zzR b] ae:=fun ai L ae aP a9 bK bL a6=>J _ _ ⟨ai,L,5,_,_,bz.trans aP,a9,a6S bK bL a6,ag.mono (aM.trans aP),rfl⟩
   refine⟨_,rfl,_,_,rfl,rfl,⟨by decide,by decide⟩,_,_,rfl,rfl,(by show(0:Int)<3;decide),.inl ⟨rfl,_,rfl,dW (fun _=>?_) (fun _=>?_)⟩⟩
   ·refine⟨_,rfl,sz rfl,fun l G=>?_⟩;have ac:=Same.put (o:=.lst [V.str "00000",V.str "00100"]) G;refine⟨_,_,ac _ _ ap,aA,small (by rw[aL,X];decide),fun r ah=>?_⟩;refine out r (zs++(["00000","00100"]:List Str)) _ (ac.and ah) (by rw[aA,d9];rfl) ?_ ?_ (Vf ax (by decide +kernel))
    ·rw[cH,X];decide
    ·rw[cH,X];decide
   ·refine⟨_,rfl,_,_,rfl,rfl,⟨by decide,by decide⟩,_,_,rfl,rfl,(by show(0:Int)<2;decide),.inl ⟨rfl,_,rfl,dW (fun _=>?_) (fun _=>out p zs _ (Same.refl _) ap (by lia) (by lia) ax)⟩⟩;refine⟨sz rfl,fun l G=>?_⟩;have ac:=Same.put (o:=.lst [V.str "4####",V.str "#####"]) G;refine⟨_,rfl,_,_,aA,ac _ _ ap,small (by rw[aL,X];decide),fun r ah=>?_⟩;refine out r ((["4####","#####"]:List Str)++zs) _ (ac.and ah) (by rw[aA,d9];rfl) ?_ ?_ (Vf (by decide +kernel) ax)
    ·rw[cH,X];decide
    ·rw[cH,X];decide
  rintro zzs d ⟨p,zs,w,aT,aU,O,bi,bH,bo,rfl⟩;obtain⟨xs,ex,aZ⟩:=bo;have bW:xs.length=st.length:=by rw[aZ.length,aL]
  refine⟨_,rfl,_,rfl,.inl ⟨q,_,rfl,.inl (SqL.of ex),sz rfl,fun t bt=>?_⟩⟩;have aS:=Same.put (o:=.tup [V.ref p,V.int xs.length]) bt;exact bj t p zs w xs.length _ (O.trans aS) (SqT.of aA) (aS _ _ bi) bH (by lia)
end
theorem YF{zs:List Str}{w:Nat}(v:Vw zs w)(c:Cell):yN zs w (some c)=jR [1] ((chL zs w).map (setC c true)):=by
 unfold yN jR chL;rw[gq,d9,vG,GX,qb,qb,qb,qb,qb,qb];have b:setC c true (([]:List Cell),ju zs w)=([],ju zs w):=aJ (by simp);have e:mulL [1] (iu 0 (ju zs w))=[if nM zs w=true then 1 else 0]:=by
  rw[Jb v];cases nM zs w
  ·exact one_mul 0
  ·exact one_mul 1
 rw[b];show _=List.foldl _ (List.foldl _ (mulL [1] (iu 0 (ju zs w))) _) _;rw[e];have d:∀ p:List Cell,iu p.length ((eV zs w p).filter (wtB (some c) p))=iu (setC c true (p,eV zs w p)).1.length (setC c true (p,eV zs w p)).2:=fun p=>by
  unfold setC;by_cases h:c∈p
  ·rw[aK (show c∈(p,eV zs w p).1 from h)];show iu p.length _=iu p.length _;congr 1;refine tE fun l _=>?_
   show(!decide (c∈p)||decide (c∈l))=decide (decide (c∈l)=true);rw[bQ h];cases decide (c∈l)<;>rfl
  ·rw[aJ (show ¬c∈(p,eV zs w p).1 from h)];show iu p.length _=iu p.length _;congr 1;refine BL.mpr fun l _=>?_
   show(!decide (c∈p)||decide (c∈l))=true;rw[cD h];rfl
 have f:∀ x:Cell,Fq (some c) x=iu (setC c true ([x],[[],[x]])).1.length (setC c true ([x],[[],[x]])).2:=fun x=>by
  unfold setC Fq;by_cases h:x=c
  ·subst h;rw[aK rfl,aK (show x∈[x] from dH.mpr rfl)];have:([[],[x]]:List (List Cell)).filter (fun l=>decide (decide (x∈l)=true))=[[x]]:=by simp
   show _=iu 1 (([[],[x]]:List (List Cell)).filter fun l=>decide (decide (x∈l)=true));rw[this];rfl
  ·rw[aJ (fun a=>h (by injection a)),aJ (show ¬c∈[x] from fun a=>h (dH.mp a).symm)];rfl
 simp only[d,f]
def a0l(K:ao)(C:Addr):Sp:=fun vs H Q _=>∃(x:Addr)(n:Int)(v:V)(zs:List Str)(w:Nat)(c:Cell),vs=[.ref x,.int n,v]/\ig C H x zs w/\Den K H v (aC c) /\
 (aP zs w c=false->∀ t H',Same H H'->H' t=some (.lst [.int 1,.bl true])->Q (.ref t) H')/\(aP zs w c=true->(∃ p∈bx zs w,12<p.length)->∀ t H',Same H H'->H' t=some (.lst [.int 2,.bl true])->Q (.ref t) H') /\
 (aP zs w c=true->(∀ p∈bx zs w,p.length<=12)->gB zs w n=0->∀ t H',Same H H'->H' t=some (.lst [.int 3,.bl true])->Q (.ref t) H') /\
 (aP zs w c=true->(∀ p∈bx zs w,p.length<=12)->gB zs w n≠0->∀ t H',Same H H'->H' t=some (.tup [.int (Bu zs w c n / Al zs w c n),.int (gB zs w n / Al zs w c n)])->Q (.ref t) H')
def Pa(K:ao):Sp:=fun vs H Q _=>∃(t:Addr)(a b g:Nat),vs=[.ref t,.int ((g*a:Nat):Int),.int ((g*b:Nat):Int)]/\H t=some (.tup [.int a,.int b])/\1<=b/\Nat.gcd a b=1/\a<2^64/\b<2^64/\∀ H',Same H H'->Q (.bl true) H'
section
variable{P:Program}{w:World}{K:ao}{mg:Str->Option Value}{base:Heap}{Z:Adr}
theorem a2C{f:Addr}{p:FuncData} (F:Fun K "_law_met" "_law_met" xR f p) (T:Txt K mg Z) (r:Df P w K mg base 7 "chance" ["view","stones","cell"] (Oz K Z.View Z.NoCell Z.TooGreat Z.Impossible)):cR P w K mg base (CXE P w) 8 f p ["view","stones","cell"] (a0l K Z.View):=by
 refine F.rok pF (fun L H Q E h=>?_) (fun cdv A outer s H L Q E y h=>?_)
 ·obtain⟨x,n,v,zs,w,c,rfl,_⟩:=h;rfl
 ·obtain⟨x,n,v,zs,w,c,rfl,M,t,D,G,I,J⟩:=h;refine⟨_,(aB (a6E rfl rfl (a3B (a6G r y rfl (aj (rv 0) (aj (rv 1) (aj (rv 2) ak))))) (Ko (i:=3) rfl pF.nd rfl rfl rfl T.uw T.oW (fun _=>(aB (bA (bZ (aj aF (aj (aN (Ao (K:=K)) rfl T.iH iZ (aj (rv 3) (aj (ZK T.nU rfl) ak))) ak)))))) (Ko (i:=3) rfl pF.nd rfl rfl rfl T.wY T.m8 (fun _=>(aB (bA (bZ (aj aF (aj (aN (Ao (K:=K)) rfl T.iH iZ (aj (rv 3) (aj (ZK T.nU rfl) ak))) ak)))))) (Ko (i:=3) rfl pF.nd rfl rfl rfl T.rE T.iQ (fun _=>(aB (bA (bZ (aj aF (aj (aN (Ao (K:=K)) rfl T.iH iZ (aj (rv 3) (aj (ZK T.nU rfl) ak))) ak)))))) a6C))))),?_⟩;refine⟨_,rfl,_,rfl,_,rfl,x,n,v,zs,w,c,rfl,M,t,fun b H' s'=>?_,fun b j H' s'=>?_,fun b j u H' s'=>?_,J⟩
  ·refine⟨Z.NoCell,rfl,.inl ⟨rfl,fun a d=>?_⟩⟩;have g:=Same.put (o:=Mp a Z.NoCell) d;refine⟨_,rfl,.inl ⟨_,_,_,rfl,rfl,.inr ⟨a,Z.NoCell,rfl,aA,T.a3m,?_⟩⟩⟩;exact⟨sz rfl,fun q e=>D b q _ (s'.trans (g.and e)) aA⟩
  ·obtain⟨k,l,m⟩:=Ke T.m8 T.a3o;refine⟨Z.TooGreat,rfl,.inr ⟨k,l,m,.inl ⟨rfl,fun a d=>?_⟩⟩⟩;have g:=Same.put (o:=Mp a Z.TooGreat) d;refine⟨_,rfl,.inl ⟨_,_,_,rfl,rfl,.inr ⟨a,Z.TooGreat,rfl,aA,T.a3n,?_⟩⟩⟩;exact⟨sz rfl,fun q e=>G b j q _ (s'.trans (g.and e)) aA⟩
  ·obtain⟨k,l,m⟩:=Ke T.iQ T.a3k;obtain⟨z,B,C⟩:=Ke T.iQ T.a3l;refine⟨Z.Impossible,rfl,.inr ⟨k,l,m,.inr ⟨z,B,C,.inl ⟨rfl,fun a d=>?_⟩⟩⟩⟩;have g:=Same.put (o:=Mp a Z.Impossible) d;refine⟨_,rfl,.inl ⟨_,_,_,rfl,rfl,.inr ⟨a,Z.Impossible,rfl,aA,T.a3i,?_⟩⟩⟩;exact⟨sz rfl,fun q e=>I b j u q _ (s'.trans (g.and e)) aA⟩
theorem Wz{f:Addr}{v:FuncData} (F:Fun K "_law_right" "_law_right" sO f v) (T:Txt K mg Z) (B:Df P w K mg base 1 "_law_whole" ["found"] V7):cR P w K mg base (CXE P w) 2 f v ["found","top","under"] (Pa K):=by
 refine F.rok pY (fun I H Q E h=>?_) (fun cdv A outer s H I Q E l h=>?_)
 ·obtain⟨t,a,b,g,rfl,_⟩:=h;rfl
 ·obtain⟨t,a,b,g,rfl,k,L,D,J,M,G⟩:=h;have o:=mU l;have N:=xq l;refine⟨_,(au (dR (R0 (Jh (mX (jJ (aN (Ao (K:=K)) rfl T.iH iZ (aj (rv 0) (aj (a6y T.Ti rfl Xw) ak))))) (Jh (bI (yV.or (yL (K:=K) o)) (aN (cQ (K:=K)) rfl T.cO bM (aj (rv 0) ak)) aF (cA _)) (Jh (mX (jJ (aV B l rfl aW (aj (cB (cL (K:=K)) (rv 0) aF) ak)))) (Kl (mX (jJ (aV B l rfl aW (aj (cB (cL (K:=K)) (rv 0) aF) ak))))))))) (aB (bA qH)) bV) (au (dR (R0 (Jh (bI yU (cB (cL (K:=K)) (rv 0) aF) aF (cA _)) (Kl (bI (yV.or (yL (K:=K) o)) (bY jG (cB (cL (K:=K)) (rv 0) aF) (rv 2)) (bY jG (cB (cL (K:=K)) (rv 0) aF) (rv 1)) (cA _))))) (aB (bA qH)) bV) (au (Kp (i:=3) (j:=4) rfl pY.nd rfl rfl (by decide) rfl rfl (aj (cB (cL (K:=K)) (rv 0) aF) (aj (cB (cL (K:=K)) (rv 0) aF) ak)) rfl) (au (zm dh (bI yS (rv 3) aF (cA _)) (aB (Kp (i:=3) (j:=4) rfl pY.nd rfl rfl (by decide) rfl rfl (aj (bY jH (rv 4) (rv 3)) (aj (rv 3) ak)) rfl))) (aB (bA (wJ (kj.or (jY (K:=K) o)) (rv 4) aF (cA _)))))))),?_⟩;have n:∀ {Q:VK},Q (.int a) H->rIx K (.ref t) (.int 0) H Q:=fun q=>.inr (.inl ⟨t,_,_,_,rfl,rfl,SqT.of k,fV,q⟩)
  have d:∀ {Q:VK},Q (.int b) H->rIx K (.ref t) (.int 1) H Q:=fun q=>.inr (.inl ⟨t,_,_,_,rfl,rfl,SqT.of k,dG (j:=1) rfl,q⟩)
  refine aD (fun zzs H1=>H=H1/\zzs=[zzR t,zzI ((g*a:Nat):Int),zzI ((g*b:Nat):Int),zzN,zzN]) (fun R c=>?_) ?_
  ·refine⟨_,rfl,.inr ⟨_,_,_,rfl,rfl,t,_,true,rfl,.inl ⟨SqT.of k,T.a3p⟩,_,rfl,?_⟩⟩;refine uG ⟨_,rfl,.inl ⟨t,_,rfl,.inr (SqT.of k),.inl ⟨rfl,_,rfl,uG ?_⟩⟩⟩;refine⟨_,rfl,n ⟨_,rfl,true,rfl,uG ⟨_,rfl,d ⟨_,rfl,true,rfl,uG (c _ _ ⟨rfl,rfl⟩)⟩⟩⟩⟩
  rintro zzs H1 ⟨rfl,rfl⟩;refine aD (fun zzs H1=>H=H1/\zzs=[zzR t,zzI ((g*a:Nat):Int),zzI ((g*b:Nat):Int),zzN,zzN]) (fun R c=>?_) ?_
  ·refine⟨_,rfl,d ⟨_,_,rfl,rfl,_,rfl,?_⟩⟩;rw[cD (by lia:¬((b:Int)<1))];refine uG ⟨_,rfl,n ⟨_,rfl,.inl ⟨by lia,by lia⟩,_,rfl,d ⟨_,rfl,.inl ⟨by lia,by lia⟩,.inl ⟨rfl,_,rfl,?_⟩⟩⟩⟩;have e:(a:Int)*((g*b:Nat):Int)=(b:Int)*((g*a:Nat):Int):=by
    rw[<- Sw,<- Sw,Nat.mul_left_comm a g b,Nat.mul_left_comm b g a,Nat.mul_comm a b]
   rw[wG,bQ e];exact uG (c _ _ ⟨rfl,rfl⟩)
  rintro zzs H1 ⟨rfl,rfl⟩;refine aD (fun zzs H1=>H=H1/\zzs=[zzR t,zzI ((g*a:Nat):Int),zzI ((g*b:Nat):Int),zzI a,zzI b]) (fun R c=>?_) ?_
  ·exact⟨_,rfl,n ⟨_,rfl,d ⟨_,_,rfl,c _ _ ⟨rfl,rfl⟩⟩⟩⟩
  rintro zzs H1 ⟨rfl,rfl⟩;refine aD (fun zzs H1=>H=H1/\zzs=[zzR t,zzI ((g*a:Nat):Int),zzI ((g*b:Nat):Int),zzI 0,zzI 1]) (fun R c=>?_) ?_
  ·refine⟨fun m zzs H'=>H=H'/\∃(x y:Nat),m=x/\Nat.gcd x y=1/\zzs=[zzR t,zzI ((g*a:Nat):Int),zzI ((g*b:Nat):Int),zzI x,zzI y],⟨a,rfl,a,b,rfl,D,rfl⟩,?_⟩;rintro m zzs H' ⟨rfl,x,y,C,p,rfl⟩;refine⟨_,rfl,_,_,rfl,rfl,_,rfl,?_⟩;refine dW (fun h1=>?_) (fun h1=>?_)
   ·have z:=cT h1;refine⟨fun u r=>H=r/\u=[zzR t,zzI ((g*a:Nat):Int),zzI ((g*b:Nat):Int),zzI ((y%x:Nat):Int),zzI x],fun u r h=>?_,?_⟩
    ·obtain⟨rfl,rfl⟩:=h;refine⟨y%x,by rw[C];exact M9 _ (by lia),rfl,y%x,x,rfl,?_,rfl⟩;rw[<- Nat.gcd_rec,p]
    ·refine⟨_,rfl,_,rfl,_,_,rfl,rfl,z,_,rfl,?_⟩;exact⟨_,_,rfl,rfl,by rw[Int.natCast_emod];rfl⟩
   ·have z:=iW h1;have:x=0:=by lia
    subst this;rw[Nat.gcd_zero_left] at p;subst p;exact c _ _ ⟨rfl,rfl⟩
  rintro zzs H1 ⟨rfl,rfl⟩;exact⟨_,rfl,.inl ⟨rfl,G _ (Same.refl _)⟩⟩
end
def V3(K:ao):Sp:=fun vs H Q _=>∃(a:Addr)(ns:List Int),vs=[.ref a]/\SqL K H a (ns.map V.int)/\∀ H',Q (.bl true) H'
def Vk(x:Cell×Int):Dt:=.tup [aC x.1,.int x.2]
theorem a1U{K:ao}{H:Hp}{v:V}{x:Cell×Int}(h:Den K H v (Vk x)):∃(b:Addr)(y:V),v=.ref b/\H b=some (.tup [y,.int x.2])/\Den K H y (aC x.1):=by
 cases h with
 |tup h a=>
  cases a with
  |cons h1 a=>
   cases a with
   |cons h2 a=>
    cases a;cases h2;exact⟨_,_,rfl,h,h1⟩
theorem Uy{K:ao}{H:Hp}{c:Type}{R:c->V->Hp->Prop}(f:∀ a v,R a v H->∃ y,Den K H v (aC y)):∀ {us:List V} {xs:List c},fQ R H us xs->∃ b:List Cell,bf K H us (b.map aC)
 |_,_,.nil=>⟨[],.nil⟩
 |_,_,.cons h t=>by
  obtain⟨y,e⟩:=f _ _ h;obtain⟨b,d⟩:=Uy f t;exact⟨y::b,.cons e d⟩
theorem Oq{H:Hp}:∀ l:List Nat,fQ (fun(i:Nat) v _=>v=V.int (i:Int)) H (l.map fun i:Nat=>V.int (i:Int)) l
 |[]=>.nil
 |_::l=>.cons rfl (Oq l)
theorem Ue{zs:List Str}{w:Nat}{y:Cell}:y∈bB zs w "#" ↔ aP zs w y=true:=by
 rw[<- gH];unfold eG;rw[cG,dM];refine⟨fun h=>h.2,fun h=>⟨?_,h⟩⟩;unfold aP at h;exact cT (Ry.mp h).1
section
variable{P:Program}{w:World}{K:ao}{mg:Str->Option Value}{base:Heap}{Z:Adr}
theorem a5K{f:Addr}{bF:FuncData} (F:Fun K "law" "law" a03 f bF) (T:Txt K mg Z) (cd:Df P w K mg base 1 "_law_cell_at" ["script","k"] (Bs K)) (bb:Df P w K mg base 1 "_law_mix" ["cell","k","many"] Jo) (cK:Df P w K mg base 5 "_law_rows_by" ["script"] (Pb K))
  (b9:Md P w K mg base 3 "View" ["self","rows"] Z.View (a0j K Z.View Z.BadView)) (cf:Df P w K mg base 1 "_law_sizes" ["rows"] (wj K)) (ce:Df P w K mg base 1 "_law_cells" ["rows","signs"] (sZ K)) (cM:Df P w K mg base 4 "_law_great" ["rows"] (V2 K))
  (be:Df P w K mg base 5 "_law_count" ["rows","wanted","stones"] (OJ K)) (c3:Df P w K mg base 8 "_law_met" ["view","stones","cell"] (a0l K Z.View)) (cS:Df P w K mg base 2 "_law_right" ["found","top","under"] (Pa K)) :
  cR P w K mg base (CXE P w) 9 f bF ["script"] (V3 K):=by
 refine F.rok kY (fun c0 H Q E h=>?_) (fun cdv A outer s H c0 Q E L h=>?_)
 ·obtain⟨a,bk,rfl,_⟩:=h;rfl
 ·obtain⟨a,bk,rfl,bH,cv⟩:=h;have ar:=mU L;have bd:=xq L;refine⟨_,(au (kO (aV cK L rfl aW (aj (rv 0) ak)) (lW rfl (cC (aQ (i:=1) kY.nd rfl (Or.inl rfl)) (cC (aQ (i:=2) kY.nd rfl (Or.inr rfl)) jq)))) (au (aO (i:=3) kY.nd rfl (Or.inl rfl) (a6w b9 L rfl aW (aj (kE (Yu (K:=K)) rfl T.Q0 Tn (aj (rv 1) ak)) ak))) (au (kO (aV cf L rfl aW (aj (rv 1) ak)) (lW rfl (cC (aQ (i:=4) kY.nd rfl (Or.inl rfl)) (cC (aQ (i:=5) kY.nd rfl (Or.inl rfl)) jq)))) (au (aO (i:=6) kY.nd rfl (Or.inr rfl) (aV cd L rfl aW (aj (rv 0) (aj aF ak)))) (au (dR (bI (kj.or (jY (K:=K) ar)) (bY jH (rv 6) aF) aF (cA _)) (aB (aO (i:=2) kY.nd rfl (Or.inr rfl) (bY FQ (bY jH (bY yR (rv 6) aF) aF) aF))) bV) (au (aO (i:=7) kY.nd rfl (Or.inr rfl) (aV ce L rfl aW (aj (rv 1) (aj iy ak)))) (au (pD (i:=8) kY.nd rfl rfl (by rfl) rfl (dB rfl T.fG (aj (aN (Ac rfl) rfl T.Mv JD (aj aF (aj (aN (cQ (K:=K)) rfl T.cO bM (aj (rv 7) ak)) ak))) ak)) (fun _ _ _=>kJ) (fun _ _ _=>(cB (cL (K:=K)) (rv 8) (aV bb L rfl aW (aj (rv 7) (aj (bY bC aF (rv 0)) (aj (aN (cQ (K:=K)) rfl T.cO bM (aj (rv 8) ak)) ak))))))) (au (gM (lH (K:=K) lC mG mH dO (rv 8) (aj (fX (aj (aV bb L rfl aW (aj (rv 6) (aj aF (aj (bY bC (rv 4) aF) ak)))) (aj (aV bb L rfl aW (aj (rv 6) (aj aF (aj (rv 5) ak)))) ak))) ak))) (au (aO (i:=9) kY.nd rfl (Or.inl rfl) (bY bC (fU (by rfl) rfl (aU (K:=K) (rv 8)) (fun _ _ _=>kJ) (fun _ _ _=>(fX (aj (rv 0) (aj (rv 3) ak))))) (bZ (aj (fX (aj (cB (cL (K:=K)) (rv 8) aF) (aj (bY bC (rv 2) aF) ak))) (aj (fX (aj (cB (cL (K:=K)) (rv 8) aF) (aj (rv 2) ak))) ak))))) (au (c7 dh rfl (aU (K:=K) (rv 9)) (lW rfl (cC (aQ (i:=10) kY.nd rfl (Or.inl rfl)) (cC (aQ (i:=11) kY.nd rfl (Or.inl rfl)) jq))) (au (aO (i:=12) kY.nd rfl (Or.inl rfl) (aV c3 L rfl aW (aj (rv 3) (aj (rv 11) (aj (rv 10) ak))))) (aB (dR (bI (fZ.or (jZ (K:=K) bd)) (rv 10) (rv 7) (by rfl)) (aB (dR (bI (yV.or (yL (K:=K) ar)) (rv 12) (bZ (aj aF (aj qH ak))) (cA _)) (aB (bA qH)) bV)) (aB (dR (jJ (aV cM L rfl aW (aj (rv 1) ak))) (aB (dR (bI (yV.or (yL (K:=K) ar)) (rv 12) (bZ (aj aF (aj qH ak))) (cA _)) (aB (bA qH)) bV)) (aB (dR (bI (kj.or (jY (K:=K) ar)) (aV be L rfl aW (aj (rv 1) (aj a4n (aj (rv 11) ak)))) aF (cA _)) (aB (dR (bI (yV.or (yL (K:=K) ar)) (rv 12) (bZ (aj aF (aj qH ak))) (cA _)) (aB (bA qH)) bV)) (aB (dR (mX (jJ (aV cS L rfl aW (aj (rv 12) (aj (aV be L rfl aW (aj (rv 1) (aj (rv 10) (aj (rv 11) ak)))) (aj (aV be L rfl aW (aj (rv 1) (aj a4n (aj (rv 11) ak)))) ak)))))) (aB (bA qH)) bV)))))))))) (aB (bA (wJ (kj.or (jY (K:=K) ar)) (rN (K:=K) (rv 3)) (rv 1) (cA _)))))))))))))),?_⟩;refine aD (fun zzs H1=>∃(p:Addr)(zs:List Str)(w:Nat)(m:Int),Same H H1/\H1 p=some (.lst (zs.map V.str))/\Vw zs w/\zzs=[zzR a,zzR p,zzI m,zzN,zzN,zzN,zzN,zzN,zzN,zzN,zzN,zzN,zzN]) (fun R C=>?_) ?_
  ·exact⟨_,rfl,a,bk,rfl,bH,fun t p zs w n H1 s1 cw aZ B _=>⟨t,_,rfl,cw,rfl,_,_,rfl,_,_,rfl,rfl,C _ _ ⟨p,zs,w,n,s1,aZ,B,rfl⟩⟩⟩
  rintro zzs H1 ⟨p,zs,w,m,s1,aZ,B,rfl⟩;refine aD (fun zzs H2=>∃(x:Addr),Same H1 H2/\ig Z.View H2 x zs w/\zzs=[zzR a,zzR p,zzI m,zzR x,zzN,zzN,zzN,zzN,zzN,zzN,zzN,zzN,zzN]) (fun R C=>?_) ?_
  ·refine⟨_,rfl,p,_,rfl,.inl (SqL.of aZ),fun l ac=>?_⟩;intro x dx bm cG cI;have bi:(upd (upd H1 l (.lst (zs.map V.str))) dx (.own x)) x=none:=by rw[bG cI.symm];exact bm
   have a4:Same (upd H1 l (.lst (zs.map V.str))) (upd (upd (upd H1 l (.lst (zs.map V.str))) dx (.own x)) x (.ins Z.View dx [])):=(Same.put cG).and bi;have dz:=B.le;have dy:=B.w6;refine⟨x,dx,l,zs,rfl,aA,SqL.of (a4 _ _ aA),by lia,fun r ad=>by have:=B.len r ad;lia,fun bS=>(by rw[B.ok] at bS;cases bS),fun _ H' cF b5 dA e dt du cu cx keep=>⟨rfl,?_⟩⟩;have ci:b5.length=w:=B.len b5 (by rw[e];exact eF);have bh:H1 x=none:=by
    have:(upd H1 l (.lst (zs.map V.str))) x=none:=bm;by_cases a0:x=l
    ·subst a0;rw[aA] at this;cases this
    ·rwa[bG a0] at this
   refine C _ _ ⟨x,fun b o bN=>keep b o (a4 _ _ ((Same.put ac) _ _ bN)) (bL bN bh),⟨⟨dx,cF,?_,cu⟩,B⟩,rfl⟩;rw[<- ci];exact cx
  rintro zzs H2 ⟨x,s2,c1,rfl⟩;have bP:=s2 _ _ aZ;refine aD (fun zzs ay=>Same H2 ay/\zzs=[zzR a,zzR p,zzI m,zzR x,zzI zs.length,zzI w,zzN,zzN,zzN,zzN,zzN,zzN,zzN]) (fun R C=>?_) ?_
  ·exact⟨_,rfl,p,zs,w,rfl,SqL.of bP,B.toRect,fun t H' s' cr=>⟨t,_,rfl,cr,rfl,_,_,rfl,_,_,rfl,rfl,C _ _ ⟨s',rfl⟩⟩⟩
  rintro zzs ay ⟨bp,rfl⟩;have cX:=s1.trans (s2.trans bp);refine aD (fun zzs N=>∃ c:Int,ay=N/\zzs=[zzR a,zzR p,zzI m,zzR x,zzI zs.length,zzI w,zzI c,zzN,zzN,zzN,zzN,zzN,zzN]) (fun R C=>?_) ?_
  ·exact⟨_,rfl,a,bk,19,rfl,by decide,cX.seq bH,fun r=>C _ _ ⟨r,rfl,rfl⟩⟩
  rintro zzs N ⟨c,rfl,rfl⟩;refine aD (fun zzs N=>∃ m:Int,ay=N/\zzs=[zzR a,zzR p,zzI m,zzR x,zzI zs.length,zzI w,zzI c,zzN,zzN,zzN,zzN,zzN,zzN]) (fun R C=>?_) ?_
  ·refine⟨_,rfl,_,_,rfl,rfl,(by show(0:Int)<4;decide),.inl ⟨rfl,_,rfl,dW (fun _=>?_) (fun _=>C _ _ ⟨m,rfl,rfl⟩)⟩⟩;exact⟨_,rfl,_,_,rfl,rfl,⟨by decide,by decide⟩,_,_,rfl,rfl,(by show(0:Int)<19;decide),_,_,rfl,rfl,C _ _ ⟨_,rfl,rfl⟩⟩
  clear m;rintro zzs N ⟨m,rfl,rfl⟩;have bR:=bp _ _ bP;have c2:=c1.mono bp;refine aD (fun zzs N=>∃(q:Addr),Same ay N/\Ls K N q ((bB zs w "#").map aC)/\zzs=[zzR a,zzR p,zzI m,zzR x,zzI zs.length,zzI w,zzI c,zzR q,zzN,zzN,zzN,zzN,zzN]) (fun R C=>?_) ?_
  ·exact⟨_,rfl,p,zs,w,"#",rfl,SqL.of bR,B.toRect,fun q N aG=>C _ _ ⟨q,aG.same,aG.ls,rfl⟩⟩
  rintro zzs N ⟨q,b2,bW,rfl⟩;have dp:(bB zs w "#").length<=36:=by rw[<- gH];exact gb B
  refine aD (fun zzs ap=>∃(sm:Addr)(I:List V)(ys:List Cell),N sm=none/\Same N ap/\ap sm=some (.lst I)/\bf K ap I (ys.map aC)/\I.length<=3/\zzs=[zzR a,zzR p,zzI m,zzR x,zzI zs.length,zzI w,zzI c,zzR q,zzR sm,zzN,zzN,zzN,zzN]) (fun R C=>?_) ?_
  ·obtain⟨xs,ex,bs⟩:=bW;have dq:xs.length=(bB zs w "#").length:=by rw[bs.length,aL]
   obtain⟨n,cp,ds,bm⟩:∃ n:Nat,(if((xs.length:Nat):Int)<3 then((xs.length:Nat):Int) else 3)=(n:Int)/\n<=3/\n<=xs.length:=by
    by_cases h:((xs.length:Nat):Int)<3
    ·exact⟨xs.length,aK h,by lia,bK _⟩
    ·exact⟨3,aJ h,by lia,by lia⟩
   refine⟨_,rfl,.inl ⟨q,_,rfl,.inl (SqL.of ex),3,_,rfl,?_⟩⟩;rw[cp];refine⟨n,rfl,by lia,by lia,?_⟩;rw[gD];refine vL (R:=fun(i:Nat) v _=>v=V.int (i:Int)) (R2:=fun(_:Nat) v H=>∃ y,Den K H v (aC y)) (xs:=List.range n) (fun _ _ _ _ _ h=>h) (fun _ _ _ _ s h=>by obtain⟨y,h⟩:=h;exact⟨y,h.mono s⟩) (pC n) (Oq _) (by rw[jD];exact small (by lia)) id (fun i hi u ap ae cV D bc=>?_) (fun I ap ae ax r bj=>?_)
   ·subst cV;have i1:=fP.mp hi;refine⟨_,rfl,_,rfl,_,rfl,_,rfl,.inl ⟨q,_,rfl,.inl (SqL.of (ae _ _ ex)),c,_,(xs.length:Int),rfl,by lia,fun r ag cU a3 bq=>?_⟩⟩;obtain⟨u,bd,e⟩:=uo (xs:=xs) (i:=r) cU a3;obtain⟨y,_,az⟩:=Yd bs bd;exact .inl ⟨q,_,_,_,rfl,rfl,SqL.of ((ae.trans bq) _ _ ex),e,bc _ _ bq ⟨y,az.mono (ae.trans bq)⟩⟩
   ·have bU:I.length=n:=by rw[ax.length,aL,jD]
    obtain⟨ys,b8⟩:=Uy (fun _ _ h=>h) ax;exact C _ _ ⟨r,I,ys,ae.free bj,ae.and bj,aA,b8.mono (Same.put bj),by lia,rfl⟩
  rintro zzs ap ⟨sm,I,ys,cJ,ae,aE,ax,bU,rfl⟩;refine aD (fun zzs ag=>∃(I:List V)(ys:List Cell),Same N ag/\ag sm=some (.lst I)/\bf K ag I (ys.map aC)/\I.length<=4/\1<=I.length/\zzs=[zzR a,zzR p,zzI m,zzR x,zzI zs.length,zzI w,zzI c,zzR q,zzR sm,zzN,zzN,zzN,zzN]) (fun R C=>?_) ?_
  ·have dl:=B.ne;have dw:=B.w1;refine⟨_,rfl,.inl ⟨rfl,_,SqL.of aE⟩,_,rfl,_,rfl,c,1,(zs.length:Int)+1,rfl,by lia,fun a3 c5 de dg aw=>?_⟩;refine⟨_,rfl,_,rfl,c,2,(w:Int),rfl,by lia,fun b0 c6 df di aR=>⟨sz rfl,fun t a1=>?_⟩⟩;have cZ:=Same.put (o:=.tup [V.int a3,V.int b0]) a1;have tA:=aw.trans (aR.trans cZ);dsimp only[jL];refine jQ (K:=K) (tA _ _ aE) (by lia) ?_;refine C _ _ ⟨I++[.ref t],ys++[(a3,b0)],(SameBut.refl sm _).put.of (ae.trans tA) cJ,aA,?_,by rw[cH,jC];lia,by rw[cH,jC];lia,rfl⟩;rw[d9];exact((SameBut.refl sm _).put.cells (tA _ _ aE) (ax.mono tA)).append (.cons ((SameBut.refl sm _).put.cell (tA _ _ aE) iU) .nil)
  clear aE ax bU ae I ys;rintro zzs ag ⟨I,ys,a4,es,aS,cz,cy,rfl⟩;refine aD (fun zzs X=>∃(ab:Addr)(ba:List (Cell×Int)),Same N X/\Ls K X ab (ba.map Vk)/\ba.length<=10/\zzs=[zzR a,zzR p,zzI m,zzR x,zzI zs.length,zzI w,zzI c,zzR q,zzR sm,zzR ab,zzN,zzN,zzN]) (fun R C=>?_) ?_
  ·obtain⟨aa,b3,rfl⟩:∃ aa b3,I=aa::b3:=by
    cases I with
    |nil=>exact absurd cy (by decide)
    |cons a b=>exact⟨a,b,rfl⟩
   obtain⟨O,ai,rfl⟩:∃ O ai,ys=O::ai:=by
    cases ys with
    |nil=>cases aS
    |cons a b=>exact⟨a,b,rfl⟩
   have cg:Den K ag aa (aC O):=by cases aS with|cons h _=>exact h
   have dr:(O::ai).length<=4:=by rw[<- aL (f:=aC),<- aS.length];exact cz
   refine⟨_,rfl,sm,rfl,⟨_,SqL.of es⟩,comp_map (K:=K) (xs:=O::ai) (enc:=aC) (bJ (SqL.of es)) aS (small (by lia)) (fun y=>Vk (y,m)) (fun y dm u X av d D bc=>⟨_,rfl,_,rfl,sz rfl,fun t a1=>bc _ _ (Same.put a1) (.tup aA (.cons (d.mono (Same.put a1)) (.cons (.int m) .nil)))⟩) (fun br X av b6 n aq=>?_)⟩;have af:=Same.put (o:=.lst br) aq;have W:=av.trans af;have bT:∀ {D:Hp} {Q:VK},Same ag D->Q aa D->rIx K (.ref sm) (.int 0) D Q:=fun g q=>.inl ⟨sm,_,_,_,rfl,rfl,SqL.of (g _ _ es),fV,q⟩
   refine⟨_,rfl,bT W ⟨_,rfl,sz rfl,fun aw bh=>?_⟩⟩;have p1:=Same.put (o:=.tup [aa,V.int (m+1)]) bh;refine⟨_,rfl,bT (W.trans p1) ⟨_,rfl,sz rfl,fun aR bi=>⟨sz rfl,fun l U=>?_⟩⟩⟩;have p2:=Same.put (o:=.tup [aa,V.int m]) bi;have bX:=Same.put (o:=.lst [V.ref aw,V.ref aR]) U;have bg:Ls K (upd X n (.lst br)) n ((O::ai).map fun y=>Vk (y,m)):=.new aq b6;have bv:∀ {D:Hp},Same ag D->Den K D aa (aC O):=fun g=>cg.mono g
   have cD:Ls K (upd (upd (upd (upd X n (.lst br)) aw (.tup [aa,V.int (m+1)])) aR (.tup [aa,V.int m])) l (.lst [V.ref aw,V.ref aR])) l [Vk (O,m+1),Vk (O,m)]:=
    .new U (.cons (.tup (p2 _ _ aA) (.cons (bv (W.trans (p1.trans p2))) (.cons (.int _) .nil))) (.cons (.tup aA (.cons (bv (W.trans (p1.trans p2))) (.cons (.int _) .nil))) .nil))
   refine xQ (K:=K) (bg.mono (p1.trans (p2.trans bX))) cD (by rw[aL];show(O::ai).length+2<=10000;lia) fun r Y aG=>?_
   refine C _ _ ⟨r,(O::ai).map (fun y=>(y,m))++[(O,m+1),(O,m)],a4.trans (W.trans (p1.trans (p2.trans (bX.trans aG.same)))),?_,?_,rfl⟩
   ·have:=aG.ls;rw[d9,lF];exact this
   ·rw[cH,aL];show(O::ai).length+2<=10;lia
  rintro zzs X ⟨ab,ba,av,bg,dn,rfl⟩;have b4:=c2.mono (b2.trans av);have aI:=(b2.trans av) _ _ bR;have cE:=bW.mono av;refine aD (fun zzs Y=>∃ am an ao:Option V,Same X Y/\zzs=[zzR a,zzR p,zzI m,zzR x,zzI zs.length,zzI w,zzI c,zzR q,zzR sm,zzR ab,am,an,ao]) (fun R C=>?_) ?_
  ·obtain⟨c4,bE,b7⟩:=bg;refine⟨_,rfl,ab,rfl,⟨_,SqL.of bE⟩,?_⟩;refine cN (K:=K) (xs:=c4) (fun i zzs Y=>∃ am an ao:Option V,Same X Y/\zzs=[zzR a,zzR p,zzI m,zzR x,zzI zs.length,zzI w,zzI c,zzR q,zzR sm,zzR ab,am,an,ao])
    ⟨none,none,none,Same.refl _,rfl⟩ (fun i zzs Y _ aH=>by obtain⟨_,_,_,g,_⟩:=aH;exact SqL.of (g _ _ bE)) (fun i u zzs Y hi aH=>?_) (fun zzs Y aH=>C _ _ aH)
   obtain⟨am,an,ao,af,rfl⟩:=aH;obtain⟨d,bz,ch⟩:=b7.get hi;rw[cP] at bz;obtain⟨⟨y,k⟩,dk,rfl⟩:=gj.mp bz;obtain⟨b,a5,rfl,cn,az⟩:=a1U (ch.mono af);refine⟨b,_,rfl,SqT.of cn,rfl,_,_,rfl,_,_,rfl,rfl,?_⟩;have a2:∀ {G:Hp} {ao:Option V},Same Y G->∃ am an cb:Option V,Same X G/\([zzR a,zzR p,zzI m,zzR x,zzI zs.length,zzI w,zzI c,zzR q,zzR sm,zzR ab,some a5,zzI k,ao]:L2.St)=[zzR a,zzR p,zzI m,zzR x,zzI zs.length,zzI w,zzI c,zzR q,zzR sm,zzR ab,am,an,cb]:=fun g=>⟨_,_,_,af.trans g,rfl⟩
   refine aD (fun zzs G=>∃ t:Addr,Same Y G/\((aP zs w y=false/\G t=some (.lst [.int 1,.bl true]))\/(aP zs w y=true/\(∃ p∈bx zs w,12<p.length)/\G t=some (.lst [.int 2,.bl true]))\/(aP zs w y=true/\(∀ p∈bx zs w,p.length<=12)/\gB zs w k=0/\G t=some (.lst [.int 3,.bl true]))\/(aP zs w y=true/\(∀ p∈bx zs w,p.length<=12)/\gB zs w k≠0/\G t=some (.tup [.int (Bu zs w y k / Al zs w y k),.int (gB zs w k / Al zs w y k)]))) /\
    zzs=[zzR a,zzR p,zzI m,zzR x,zzI zs.length,zzI w,zzI c,zzR q,zzR sm,zzR ab,some a5,zzI k,zzR t]) (fun dd aX=>?_) ?_
   ·refine⟨_,rfl,_,rfl,_,rfl,x,k,a5,zs,w,y,rfl,b4.mono af,az,fun S t G M J=>?_,fun S ac t G M J=>?_,fun S ac aq t G M J=>?_,fun S ac aq t G M J=>?_⟩
    ·exact aX _ _ ⟨t,M,.inl ⟨S,J⟩,rfl⟩
    ·exact aX _ _ ⟨t,M,.inr (.inl ⟨S,ac,J⟩),rfl⟩
    ·exact aX _ _ ⟨t,M,.inr (.inr (.inl ⟨S,ac,aq,J⟩)),rfl⟩
    ·exact aX _ _ ⟨t,M,.inr (.inr (.inr ⟨S,ac,aq,J⟩)),rfl⟩
   rintro zzs G ⟨t,M,aY,rfl⟩;have W:=af.trans M;have bt:∀ {D:Hp} {r:Addr} {j:Int},D r=some (.lst [.int j,.bl true])->Den K D (.ref r) (.lst [.int j,.bl true]):=fun e=>.lst (SqL.of e) (.cons (.int _) (.cons (.bl true) .nil))
   have a9:∀ {D:Hp} {j:Int} {l:Addr} {aT:VK},D t=some (.lst [.int j,.bl true])->D l=some (.lst [.int j,.bl true])->aT (.bl false) D->ZD K true (.ref t) (.ref l) D aT:=fun {D j l aT} cj ck q=>by
    refine⟨_,_,rfl,bt cj,bt ck,Gn _,(by show max 0 (max 0 0)+1<=50;decide),?_⟩;show aT (.bl (!eqD _ _)) _;rw[uE];exact q
   refine⟨_,rfl,_,rfl,.inr (kI (az.mono M) (cE.mono W).den ⟨_,rfl,?_⟩)⟩;refine dW (fun h1=>?_) (fun h1=>?_)
   ·have S:aP zs w y=false:=by
     cases z:aP zs w y
     ·rfl
     ·rw[bQ (Ue.mpr z)] at h1;cases h1
    have J:G t=some (.lst [.int 1,.bl true]):=by
     rcases aY with⟨_,e⟩|⟨z,_⟩|⟨z,_⟩|⟨z,_⟩
     ·exact e
     all_goals rw[S] at z;cases z
    refine⟨_,rfl,sz rfl,fun l U=>.inr (a9 ((Same.put U) _ _ J) aA ⟨_,rfl,uG (a2 (M.and U))⟩)⟩
   ·have S:aP zs w y=true:=Ue.mp (cT (by simpa only[vd] using h1));refine⟨_,rfl,p,zs,w,rfl,SqL.of (W _ _ aI),B,fun g c8 as bO=>⟨_,rfl,dW (fun h2=>?_) (fun h2=>?_)⟩⟩
    ·obtain⟨r,ad,ah⟩:=bO.mp h2;have J:G t=some (.lst [.int 2,.bl true]):=by
      rcases aY with⟨z,_⟩|⟨_,_,e⟩|⟨_,z,_⟩|⟨_,z,_⟩
      ·rw[S] at z;cases z
      ·exact e
      all_goals have:=z r ad;lia
     refine⟨_,rfl,sz rfl,fun l U=>.inr (a9 ((as.and U) _ _ J) aA ⟨_,rfl,uG (a2 (M.trans (as.and U)))⟩)⟩
    ·have ah:∀ p∈bx zs w,p.length<=12:=fun r ad=>GD fun z=>by
      have:=bO.mpr ⟨r,ad,by lia⟩;rw[this] at h2;cases h2
     refine⟨_,rfl,_,rfl,p,.non,k,zs,w,none,rfl,SqL.of ((W.trans as) _ _ aI),B,.non,ah,fun c9 bn=>.inl ⟨rfl,_,rfl,?_⟩⟩;have bD:rQ (yN zs w none) k=gB zs w k:=by rw[a2p B];rfl
     rw[wG,bD];refine dW (fun al=>?_) (fun al=>?_)
     ·have al:=cT al;have J:G t=some (.lst [.int 3,.bl true]):=by
       rcases aY with⟨z,_⟩|⟨_,⟨r,ad,z⟩,_⟩|⟨_,_,_,e⟩|⟨_,_,z,_⟩
       ·rw[S] at z;cases z
       ·have:=ah r ad;lia
       ·exact e
       ·exact absurd al z
      refine⟨_,rfl,sz rfl,fun l U=>.inr (a9 ((as.trans (bn.and U)) _ _ J) aA ⟨_,rfl,uG (a2 (M.trans (as.trans (bn.and U))))⟩)⟩
     ·have al:=iW al;have J:G t=some (.tup [.int (Bu zs w y k / Al zs w y k),.int (gB zs w k / Al zs w y k)]):=by
       rcases aY with⟨z,_⟩|⟨_,⟨r,ad,z⟩,_⟩|⟨_,_,z,_⟩|⟨_,_,_,e⟩
       ·rw[S] at z;cases z
       ·have:=ah r ad;lia
       ·exact absurd z al
       ·exact e
      have aM:=as.trans bn;obtain⟨aa,dv⟩:=Pk B ah k;obtain⟨cY,aw⟩:=a0A B ah y k;obtain⟨a6,a7,a8,cm,co,dj,cl,bw,cs,ct⟩:=a2c (g:=Al zs w y k) cY (by lia:0<gB zs w k) rfl;have bu:1<=a8:=by
       rcases RM a8 with z|z
       ·rw[z,Nat.zero_mul] at bw;lia
       ·exact z
      have ca:a6<2^64:=by
       have:=a1m a6 bu;lia
      have cc:a7<2^64:=by
       have:=a1m a7 bu;lia
      have cq:rQ (yN zs w (some y)) k=Bu zs w y k:=by rw[YF B];rfl
      rw[cm,co] at J;refine⟨_,rfl,_,rfl,_,rfl,_,rfl,p,a5,k,zs,w,some y,rfl,SqL.of ((W.trans aM) _ _ aI),B,az.mono (M.trans aM),ah,fun da bo=>?_⟩;refine⟨_,rfl,_,rfl,p,.non,k,zs,w,none,rfl,SqL.of ((W.trans (aM.trans bo)) _ _ aI),B,.non,ah,fun db b1=>?_⟩;rw[cq,bD,cl,bw];refine⟨t,a6,a7,a8,rfl,(aM.trans (bo.trans b1)) _ _ J,cs,ct,ca,cc,fun dc cW=>⟨true,rfl,uG (a2 (M.trans (aM.trans (bo.trans (b1.trans cW)))))⟩⟩
  rintro zzs Y ⟨am,an,ao,af,rfl⟩;obtain⟨dx,l,a0,ac⟩:=(b4.mono af).ob;refine⟨_,rfl,x,Z.View,dx,_,_,rfl,a0,T.iI,T.je,Qn _ _ _,_,rfl,.inr ⟨_,_,rfl,Tz ac,Tz (af _ _ aI),Gn _,a1W zs,?_⟩⟩;show Q (.bl (eqD _ _)) _;rw[uE];exact cv _
end
def u9(x q:Str)(st:Stmt)(ps:List Str):Prop:=∀(kV doc pm:Value)(an:Option Addr)(cdv ct:Value)(us:List Value),us.length=ps.length->bindArgs (PySem.W.fnOf x q (jF st) (gZ st) (aH st) .none kV doc pm an cdv ct) ⟨us,[]⟩=pure (ps.zip us)
theorem xH{us:List Value}{n:Nat}(h:us.length=n+1):∃ u a,us=u::a/\a.length=n:=by
 cases us with
 |nil=>cases h
 |cons u t=>exact⟨u,t,rfl,Nat.succ.inj h⟩
theorem bind1{x q:Str}{st:Stmt}{f:Str}(h:∀(kV d e:Value) (b:Option Addr) (c ct a:Value),bindArgs (PySem.W.fnOf x q (jF st) (gZ st) (aH st) .none kV d e b c ct) ⟨[a],[]⟩=pure [(f,a)]):u9 x q st [f]:=fun kV d e b c ct k i=>by
 obtain⟨a,j,rfl,g⟩:=xH (n:=0) i;cases j with
 |nil=>exact h kV d e b c ct a
 |cons _ _=>cases g
theorem j8{x q:Str}{st:Stmt}{g p1:Str}(h:∀(kV e f:Value) (c:Option Addr) (d ct a b:Value),bindArgs (PySem.W.fnOf x q (jF st) (gZ st) (aH st) .none kV e f c d ct) ⟨[a,b],[]⟩=pure [(g,a),(p1,b)]):u9 x q st [g,p1]:=fun kV e f c d ct o k=>by
 obtain⟨a,m,rfl,i⟩:=xH (n:=1) k;obtain⟨b,l,rfl,j⟩:=xH (n:=0) i;cases l with
 |nil=>exact h kV e f c d ct a b
 |cons _ _=>cases j
theorem CG{x q:Str}{st:Stmt}{i p1 p2:Str}(h:∀(kV f g:Value) (d:Option Addr) (e ct a b c:Value),bindArgs (PySem.W.fnOf x q (jF st) (gZ st) (aH st) .none kV f g d e ct) ⟨[a,b,c],[]⟩=pure [(i,a),(p1,b),(p2,c)]):u9 x q st [i,p1,p2]:=fun kV f g d e ct s m=>by
 obtain⟨a,p,rfl,j⟩:=xH (n:=2) m;obtain⟨b,r,rfl,k⟩:=xH (n:=1) j;obtain⟨c,o,rfl,l⟩:=xH (n:=0) k;cases o with
 |nil=>exact h kV f g d e ct a b c
 |cons _ _=>cases l
theorem a3Z{x q:Str}{st:Stmt}{j p1 p2 k:Str}(h:∀(kV g i:Value) (e:Option Addr) (f ct a b c d:Value),bindArgs (PySem.W.fnOf x q (jF st) (gZ st) (aH st) .none kV g i e f ct) ⟨[a,b,c,d],[]⟩=pure [(j,a),(p1,b),(p2,c),(k,d)]):u9 x q st [j,p1,p2,k]:=fun kV g i e f ct w r=>by
 obtain⟨a,t,rfl,l⟩:=xH (n:=3) r;obtain⟨b,u,rfl,m⟩:=xH (n:=2) l;obtain⟨c,v,rfl,o⟩:=xH (n:=1) m;obtain⟨d,s,rfl,p⟩:=xH (n:=0) o;cases s with
 |nil=>exact h kV g i e f ct a b c d
 |cons _ _=>cases p
theorem a75{x q:Str}{st:Stmt}{k p1 p2 l m:Str}(h:∀(kV i j:Value) (f:Option Addr) (g ct a b c d e:Value),bindArgs (PySem.W.fnOf x q (jF st) (gZ st) (aH st) .none kV i j f g ct) ⟨[a,b,c,d,e],[]⟩=pure [(k,a),(p1,b),(p2,c),(l,d),(m,e)]):u9 x q st [k,p1,p2,l,m]:=fun kV i j f g ct B u=>by
 obtain⟨a,w,rfl,o⟩:=xH (n:=4) u;obtain⟨b,y,rfl,p⟩:=xH (n:=3) o;obtain⟨c,z,rfl,r⟩:=xH (n:=2) p;obtain⟨d,A,rfl,s⟩:=xH (n:=1) r;obtain⟨e,v,rfl,t⟩:=xH (n:=0) s;cases v with
 |nil=>exact h kV i j f g ct a b c d e
 |cons _ _=>cases t
section
variable{P:Program}{w:World}{K:ao}{mg:Str->Option Value}{base h:Heap}
def cF(K:ao)(x:Str)(st:Stmt):Prop:=∃ f,PySem.W.nsIn K mainGlobals x=some (some (.ref f))/\∃ fd,Fun K x x st f fd
def PB(K:ao)(C:Addr)(m q:Str)(st:Stmt):Prop:=∃ f,(PySem.W.findIn K (.ref C) m=some (some (.ref f))/\PySem.W.isFn K (.ref f)=true)/\∃ fd,Fun K m q st f fd
section
variable{x q:Str}{st:Stmt}{f C:Addr}{oc:Value}{od an:Option Addr}{osl:Array (Option Value)}{kV doc pm cdv ct:Value}
theorem a7a(a:PySem.W.nsIn K mainGlobals x=some (some (.ref f)))(l:K.lookup f=some ⟨oc,od,.func (PySem.W.fnOf x x (jF st) (gZ st) (aH st) .none kV doc pm an cdv ct),osl⟩)(c:PySem.W.codeIn K cdv x=true)(k:PySem.W.keepIn K (.ref f)=true):cF K x st:=⟨f,a,_,Yn l c k⟩
theorem a5C(a:PySem.W.findIn K (.ref C) x=some (some (.ref f)))(i:PySem.W.isFn K (.ref f)=true)(l:K.lookup f=some ⟨oc,od,.func (PySem.W.fnOf x q (jF st) (gZ st) (aH st) .none kV doc pm an cdv ct),osl⟩)(c:PySem.W.codeIn K cdv q=true)(k:PySem.W.keepIn K (.ref f)=true):PB K C x q st:=⟨f,⟨a,i⟩,_,Yn l c k⟩
end
theorem a8d{x:Str}{v:Int}{t:Tok}(h:PySem.W.nsIn K mainGlobals x=some (some (.int v t))):∃ t,PySem.W.nsIn K mainGlobals x=some (some (.int v t)):=⟨t,h⟩
theorem a90{x v:Str}{t:Tok}(h:PySem.W.nsIn K mainGlobals x=some (some (.str v t))):∃ t,PySem.W.nsIn K mainGlobals x=some (some (.str v t)):=⟨t,h⟩
theorem a7c(X:K.In h)(e:h.Ns mainGlobals mg){x:Str}{st:Stmt}{k:Nat}{c:List Str}{sp:Sp}(d:cF K x st)(g:u9 x x st c)(ok:∀ f b,Fun K x x st f b->cR P w K mg base (CXE P w) k f b c sp):Df P w K mg base k x c sp:=by
 obtain⟨f,a,b,F⟩:=d;exact⟨⟨f,b,ok f b F,pJ X e a,F.kp,F.binds g⟩⟩
theorem a5y(X:K.In h)(g:h.Ns mainGlobals mg){c:Addr}{st:Stmt}{k:Nat}{sp:Sp} (j:mg "law" = some (.ref c)) (d:cF K "law" st) (i:u9 "law" "law" st ["script"]) (ok:∀ base f b,Fun K "law" "law" st f b->cR P w K mg base (CXE P w) k f b ["script"] sp) :
  ∃ b:FuncData,(∀(s:Shared)(v:Value),BindsTo s b ⟨[v],[]⟩ [("script",v)])/\∀ base:Heap,K.In base->base.Ns mainGlobals mg->cR P w K mg base (CXE P w) k c b ["script"] sp:=by
 obtain⟨f,a,b,F⟩:=d;have e:=j.symm.trans (pJ X g a);cases e;refine⟨b,fun s v=>?_,fun base _ _=>ok base _ _ F⟩;obtain⟨oc,od,kV,doc,pm,an,cdv,ct,osl,rfl,m,l⟩:=F.ex;exact .of_eq (i kV doc pm an cdv ct [v] rfl)
theorem a7x(X:K.In h)(e:h.Ns mainGlobals mg){x q:Str}{st:Stmt}{C:Addr}{k:Nat}{d:List Str}{sp:Sp}(a:PySem.W.nsIn K mainGlobals x=some (some (.ref C)))(mk:PySem.W.makesIn K C=true)(j:PySem.W.keepIn K (.ref C)=true) (m:PB K C "__init__" q st) (g:u9 "__init__" q st d) (ok:∀ f c,Fun K "__init__" q st f c->cR P w K mg base (CXE P w) k f c d sp):Md P w K mg base k x d C sp:=by
 obtain⟨f,⟨b,i⟩,c,F⟩:=m;exact⟨⟨f,c,⟨mk,b,i,j⟩,ok f c F,pJ X e a,F.binds g⟩⟩
end
theorem all_mk{l:PySem.W.OpenLaw}{w:World}{K:ao}{h:Heap}{e:Str->Option Value}{x:Addr}(X:K.In h)(b:h.Ns mainGlobals e) (bd:e "law" = some (.ref x))
  {d:Addr}
  {q:Addr}
  {k:Addr}
  {j:Addr}
  {i:Addr}
  {c:Addr}
  (rC:PySem.W.nsIn K mainGlobals "FieldError" = some (some (.ref d)))
  (zY:PySem.W.nsIn K mainGlobals "BadView" = some (some (.ref q)))
  (El:PySem.W.nsIn K mainGlobals "NoCell" = some (some (.ref k)))
  (wX:PySem.W.nsIn K mainGlobals "TooGreat" = some (some (.ref j)))
  (rD:PySem.W.nsIn K mainGlobals "Impossible" = some (some (.ref i)))
  (Jx:PySem.W.nsIn K mainGlobals "View" = some (some (.ref c)))
  (tD:PySem.W.excIn K d [.type "ValueError",.type "Exception",.type "BaseException",.type "object"] "ValueError.__new__" = true)
  (wu:PySem.W.excIn K q [.type "ValueError",.type "Exception",.type "BaseException",.type "object"] "ValueError.__new__" = true)
  (oW:PySem.W.excIn K k [.type "ValueError",.type "Exception",.type "BaseException",.type "object"] "ValueError.__new__" = true)
  (m8:PySem.W.excIn K j [.type "ValueError",.type "Exception",.type "BaseException",.type "object"] "ValueError.__new__" = true)
  (iQ:PySem.W.excIn K i [.type "ValueError",.type "Exception",.type "BaseException",.type "object"] "ValueError.__new__" = true)
  (M:PB K c "__init__" "View.__init__" mY)
  (iI:Cls K c)
  (aW:PySem.W.makesIn K c=true)
  (aV:PySem.W.keepIn K (.ref c)=true)
  (je:PySem.W.findIn K (.ref c) "rows" = some none)
  (gQ:PySem.W.findIn K (.ref c) "height" = some none)
  (iM:PySem.W.findIn K (.ref c) "width" = some none)
  (jO:∃ t,PySem.W.nsIn K mainGlobals "MOST_ROWS" = some (some (.int 6 t)))
  (iw:∃ t,PySem.W.nsIn K mainGlobals "MOST_COLUMNS" = some (some (.int 6 t)))
  (j5:∃ t,PySem.W.nsIn K mainGlobals "CLOSED_SIGN" = some (some (.str "#" t)))
  (vP:∃ t,PySem.W.nsIn K mainGlobals "SIGNS" = some (some (.str "#012345678" t)))
  (jo:∃ t,PySem.W.nsIn K mainGlobals "MOST_CELLS" = some (some (.int 12 t)))
  (a5:PySem.W.nsIn K mainGlobals "all" = some none)
  (a1:PySem.W.nsIn K mainGlobals "bool" = some none)
  (ay:PySem.W.nsIn K mainGlobals "enumerate" = some none)
  (a6:PySem.W.nsIn K mainGlobals "int" = some none)
  (ap:PySem.W.nsIn K mainGlobals "isinstance" = some none)
  (a7:PySem.W.nsIn K mainGlobals "len" = some none)
  (a2:PySem.W.nsIn K mainGlobals "list" = some none)
  (a8:PySem.W.nsIn K mainGlobals "max" = some none)
  (a9:PySem.W.nsIn K mainGlobals "min" = some none)
  (aX:PySem.W.nsIn K mainGlobals "range" = some none)
  (ba:PySem.W.nsIn K mainGlobals "set" = some none)
  (aS:PySem.W.nsIn K mainGlobals "sorted" = some none)
  (bb:PySem.W.nsIn K mainGlobals "str" = some none)
  (aY:PySem.W.nsIn K mainGlobals "tuple" = some none)
  (a3j:PySem.W.kitOne K (.type "int") (.type "int")=some true)
  (a3h:PySem.W.kitOne K (.type "int") (.type "bool")=some false)
  (a6s:PySem.W.kitOne K (.ref q) (.ref d)=some true)
  (a6t:PySem.W.kitOne K (.ref q) (.type "ValueError")=some true)
  (a6u:PySem.W.kitOne K (.type "list") (.type "list")=some true)
  (a3m:PySem.W.kitOne K (.ref k) (.ref d)=some true)
  (a3n:PySem.W.kitOne K (.ref j) (.ref d)=some true)
  (a3i:PySem.W.kitOne K (.ref i) (.ref d)=some true)
  (a3o:PySem.W.kitOne K (.ref j) (.ref k)=some false)
  (a3k:PySem.W.kitOne K (.ref i) (.ref k)=some false)
  (a3l:PySem.W.kitOne K (.ref i) (.ref j)=some false)
  (a3p:PySem.W.kitOne K (.type "tuple") (.type "tuple")=some true)
  (U:cF K "_law_cell_at" oH)
  (aB:cF K "_law_mix" xT)
  (an:cF K "_law_whole" sV)
  (as:cF K "_law_near" uN)
  (al:cF K "_law_sizes" sU)
  (af:cF K "_law_cells" rZ)
  (ac:cF K "_law_figure" pU)
  (N:cF K "_law_field_by" mZ)
  (ak:cF K "_law_shown" sS)
  (ad:cF K "_law_opened" pW)
  (Z:cF K "_law_view_by" oM)
  (P:cF K "_law_wrong_by" nA)
  (aq:cF K "_law_edge" uL)
  (aQ:cF K "is_row" Gi)
  (aF:cF K "is_size" Bf)
  (aG:cF K "is_view" Bg)
  (aC:cF K "has_cell" xU)
  (av:cF K "is_closed" uP)
  (aT:cF K "cells" Kq)
  (a0:cF K "near" R5)
  (ax:cF K "open_near" uR)
  (ae:cF K "closed_near" pX)
  (aO:cF K "closed" Gg)
  (aZ:cF K "edge" R4)
  (a3:cF K "far" a02)
  (aP:cF K "figure" Gh)
  (aR:cF K "joined" Gj)
  (aU:cF K "parts" Kr)
  (ai:cF K "_law_parts" sJ)
  (aL:cF K "demands" Bc)
  (aD:cF K "may_hold" xV)
  (aH:cF K "layings" Bh)
  (Q:cF K "_law_layings" oJ)
  (aE:cF K "is_lone" Bd)
  (aa:cF K "lone_layings" oN)
  (aK:cF K "choices" Bb)
  (au:cF K "by_stones" uO)
  (aI:cF K "product" Bj)
  (aw:cF K "number_of" uQ)
  (ar:cF K "_law_idle" uM)
  (O:cF K "_law_together" nu)
  (ah:cF K "_law_great" sI)
  (ab:cF K "_law_counts" pR)
  (ag:cF K "_law_count" sG)
  (aJ:cF K "settled" Bl)
  (L:cF K "common_divisor" lX)
  (aM:cF K "chance" Gf)
  (Y:cF K "_law_rows_by" oK)
  (aA:cF K "_law_met" xR)
  (aj:cF K "_law_right" sO)
  (a4:cF K "law" a03) :
  ∃ y:FuncData,(∀(s:Shared)(v:Value),BindsTo s y ⟨[v],[]⟩ [("script",v)])/\∀ base:Heap,K.In base->base.Ns mainGlobals e->cR l.prog w K e base (CXE l.prog w) 9 x y ["script"] (V3 K):=by
 obtain⟨_,jO⟩:=jO;obtain⟨_,iw⟩:=iw;obtain⟨_,j5⟩:=j5;obtain⟨_,vP⟩:=vP;obtain⟨_,jo⟩:=jo;have T:Txt K e ⟨d,q,k,j,i,c⟩:={ Xr:=pI X b a5,Xu:=pI X b a1,uq:=pI X b ay,Eo:=pI X b a6,iH:=pI X b ap,cO:=pI X b a7,Q0:=pI X b a2,Tg:=pI X b a8,Mv:=pI X b a9,fG:=pI X b aX,a3X:=pI X b ba,ur:=pI X b aS,a3Y:=pI X b bb,Ti:=pI X b aY,jO:=⟨_,pJ X b jO⟩,iw:=⟨_,pJ X b iw⟩,j5:=⟨_,pJ X b j5⟩,vP:=⟨_,pJ X b vP⟩,jo:=⟨_,pJ X b jo⟩,nU:=pJ X b rC,tD:=⟨tD⟩,Ii:=pJ X b zY,wu:=⟨wu⟩,uw:=pJ X b El,oW:=⟨oW⟩,wY:=pJ X b wX,m8:=⟨m8⟩,rE:=pJ X b rD,iQ:=⟨iQ⟩,a4M:=pJ X b Jx,iI:=iI,je:=je,gQ:=gQ,iM:=iM,a3j:=a3j,a3h:=a3h,a6s:=a6s,a6t:=a6t,a6u:=a6u,a3m:=a3m,a3n:=a3n,a3i:=a3i,a3o:=a3o,a3k:=a3k,a3l:=a3l,a3p:=a3p }
 refine a5y X b bd a4 (bind1 fun _ _ _ _ _ _ _=>rfl) fun base _ _ F=>?_
 have a:=@a7c l.prog w K e base h X b;have bc:=@a7x l.prog w K e base h X b;have m:=a U (j8 fun _ _ _ _ _ _ _ _=>rfl) fun _ _ F=>a2x F T
 have n:=a aB (CG fun _ _ _ _ _ _ _ _ _=>rfl) fun _ _ F=>a5M F T
 have bj:=a an (bind1 fun _ _ _ _ _ _ _=>rfl) fun _ _ F=>Zc F T
 have g:=a as (CG fun _ _ _ _ _ _ _ _ _=>rfl) fun _ _ F=>a2D F T
 have o:=a al (bind1 fun _ _ _ _ _ _ _=>rfl) fun _ _ F=>Zb F T
 have f:=a af (j8 fun _ _ _ _ _ _ _ _=>rfl) fun _ _ F=>Z2 F T
 have z:=a ac (a3Z fun _ _ _ _ _ _ _ _ _ _=>rfl) fun _ _ F=>Wt F T g
 have bh:=a N (j8 fun _ _ _ _ _ _ _ _=>rfl) fun _ _ F=>Z4 F T m n
 have bt:=a ak (a3Z fun _ _ _ _ _ _ _ _ _ _=>rfl) fun _ _ F=>Za F T z
 have bq:=a ad (a75 fun _ _ _ _ _ _ _ _ _ _ _=>rfl) fun _ _ F=>Wy F T g z
 have bl:=a Z (CG fun _ _ _ _ _ _ _ _ _=>rfl) fun _ _ F=>WK F T m n bh bq bt
 have bi:=a P (j8 fun _ _ _ _ _ _ _ _=>rfl) fun _ _ F=>Zd F T m n
 have A:=a aq (bind1 fun _ _ _ _ _ _ _=>rfl) fun _ _ F=>a2y F T g o f
 have S:=a aQ (j8 fun _ _ _ _ _ _ _ _=>rfl) fun _ _ F=>a5N F T
 have bC:=a aF (j8 fun _ _ _ _ _ _ _ _=>rfl) fun _ _ F=>a2F F T
 have bD:=a aG (bind1 fun _ _ _ _ _ _ _=>rfl) fun _ _ F=>a2G F T S bC
 have az:=bc Jx aW aV M (j8 fun _ _ _ _ _ _ _ _=>rfl) fun _ _ F=>a2A F T bD
 have C:=a aC (j8 fun _ _ _ _ _ _ _ _=>rfl) fun _ _ F=>a5J F T
 have p:=a av (j8 fun _ _ _ _ _ _ _ _=>rfl) fun _ _ F=>O9 F T C
 have H:=a aT (bind1 fun _ _ _ _ _ _ _=>rfl) fun _ _ F=>O7 F T
 have J:=a a0 (j8 fun _ _ _ _ _ _ _ _=>rfl) fun _ _ F=>Z9 F T C
 have r:=a ax (j8 fun _ _ _ _ _ _ _ _=>rfl) fun _ _ F=>Ob F T J p
 have u:=a ae (j8 fun _ _ _ _ _ _ _ _=>rfl) fun _ _ F=>HX F T J p
 have D:=a aO (bind1 fun _ _ _ _ _ _ _=>rfl) fun _ _ F=>Wr F T H p
 have I:=a aZ (bind1 fun _ _ _ _ _ _ _=>rfl) fun _ _ F=>Z8 F T D r
 have aN:=a a3 (bind1 fun _ _ _ _ _ _ _=>rfl) fun _ _ F=>a2E F T D r
 have E:=a aP (j8 fun _ _ _ _ _ _ _ _=>rfl) fun _ _ F=>QF F T
 have G:=a aR (j8 fun _ _ _ _ _ _ _ _=>rfl) fun _ _ F=>Wu F T r u
 have am:=a aU (bind1 fun _ _ _ _ _ _ _=>rfl) fun _ _ F=>Z7 F T I G
 have B:=a ai (bind1 fun _ _ _ _ _ _ _=>rfl) fun _ _ F=>Ww F T o A f g
 have bA:=a aL (j8 fun _ _ _ _ _ _ _ _=>rfl) fun _ _ F=>QC F T r u E
 have bx:=a aD (j8 fun _ _ _ _ _ _ _ _=>rfl) fun _ _ F=>a5L F T
 have bE:=a aH (j8 fun _ _ _ _ _ _ _ _=>rfl) fun _ _ F=>QD F T I G bA bx
 have bo:=a Q (j8 fun _ _ _ _ _ _ _ _=>rfl) fun _ _ F=>Oa F T o f g
 have bB:=a aE (j8 fun _ _ _ _ _ _ _ _=>rfl) fun _ _ F=>a2B F T p u
 have bm:=a aa (bind1 fun _ _ _ _ _ _ _=>rfl) fun _ _ F=>Z6 F T H bB E
 have bz:=a aK (bind1 fun _ _ _ _ _ _ _=>rfl) fun _ _ F=>QB F T am bE aN bm
 have bv:=a au (bind1 fun _ _ _ _ _ _ _=>rfl) fun _ _ F=>O8 F T
 have bF:=a aI (j8 fun _ _ _ _ _ _ _ _=>rfl) fun _ _ F=>QG F T
 have bn:=a aw (j8 fun _ _ _ _ _ _ _ _=>rfl) fun _ _ F=>Wx F T bF bv
 have bu:=a ar (bind1 fun _ _ _ _ _ _ _=>rfl) fun _ _ F=>a2z F T o f g
 have be:=a O (j8 fun _ _ _ _ _ _ _ _=>rfl) fun _ _ F=>Oc F T
 have br:=a ah (bind1 fun _ _ _ _ _ _ _=>rfl) fun _ _ F=>Z5 F T B
 have bp:=a ab (j8 fun _ _ _ _ _ _ _ _=>rfl) fun _ _ F=>Ws F T bu B bo be A f
 have bf:=a ag (CG fun _ _ _ _ _ _ _ _ _=>rfl) fun _ _ F=>Wv F T bp
 have bG:=a aJ (CG fun _ _ _ _ _ _ _ _ _=>rfl) fun _ _ F=>QH F T
 have bg:=a L (j8 fun _ _ _ _ _ _ _ _=>rfl) fun _ _ F=>a5I F T
 have R:=a aM (CG fun _ _ _ _ _ _ _ _ _=>rfl) fun _ _ F=>Wq F T p bz bn bG bg
 have bk:=a Y (bind1 fun _ _ _ _ _ _ _=>rfl) fun _ _ F=>WD F T m n bl bi
 have bw:=a aA (CG fun _ _ _ _ _ _ _ _ _=>rfl) fun _ _ F=>a2C F T R
 have bs:=a aj (CG fun _ _ _ _ _ _ _ _ _=>rfl) fun _ _ F=>Wz F T bj
 exact a5K F T m n bk az o f br bf bw bs
theorem walk{l:PySem.W.OpenLaw}{q:Program}{r:List Str}{XP:(Str->Option Value)->Heap->Prop}{e:World->Heap->Prop}{d:DefRec}{K:Params->ao}(p:l.most=some 63)(o:d.params.defaults=[])
  (m:∀(w:World)(h:Heap),e w h->(K w.params).In h)
  (F:∀(w:World)(b:Str->Option Value)(g:Addr)(h:Heap),(K w.params).In h->h.Ns mainGlobals b->b d.name=some (.ref g) ->
   ∃ i:FuncData,(∀(s:Shared)(u:Value),BindsTo s i ⟨[u],[]⟩ [("script",u)])/\∀ base:Heap,(K w.params).In base->base.Ns mainGlobals b->cR l.prog w (K w.params) b base (CXE l.prog w) 9 g i ["script"] (V3 (K w.params))) :
  PySem.W.WalkO q r XP e l.row.toRowW d [] (fun f vs=>PySem.call f vs):=
 L2.a3R (n:=63) (k:=9) (x:="script") (CX:=fun w=>CXE l.prog w) (sp:=fun w=>V3 (K w.params)) p (by decide) o ⟨rfl,by decide,by decide⟩ m F (fun _ _ a t v _ j=>⟨a,t,rfl,j,fun _=>rfl⟩) fun _ _ _ _ _ c=>by
  obtain⟨_,_,_,_,_,_,_,_,_,c⟩:=c;exact c
end My
namespace PySem.W.Fast
def tw16420004404021845554:=0
def tw12959502486709233319:=0
def tw14129752510033591298:=0
def tw11173082842426163491:=0
def tw18021291415814493691:=0
def tw12063391733813402184:=0
def tw11709349664077065308:=0
def tw2792796723007185096:=0
def tw13316600095281413551:=0
def tw15390904813560463309:=0
def tw10755049006134416321:=0
def tw1816260094967080160:=0
def tw12992397182892197463:=0
def tw629813849422519692:=0
def tw16393344810858119218:=0
def tw4364828622173066144:=0
def tw13729809369577984028:=0
def tw9257132093278982050:=0
def tw2977122883068807245:=0
def tw15810057473992259955:=0
def tw6232984142030304890:=0
def tw2945679239930684834:=0
def tw10448631760430608991:=0
def tw9584429749651926332:=0
def tw16749799353035200662:=0
def tw15352165583376402258:=0
def tw17495064418987195388:=0
def tw4367737368597651013:=0
def tw8813490647759685675:=0
def tw14635897180766381360:=0
def tw4092236761548356761:=0
def tw13938952449928595103:=0
def tw16763103263110442617:=0
def tw18232256164043734138:=0
def tw10370558321448175160:=0
def tw18004278777004070863:=0
def tw12538006356640420924:=0
def tw1323949867225664487:=0
def tw5830997493986576447:=0
def tw6223006984336854253:=0
def tw10928261911011334372:=0
def tw15363507023253429095:=0
def tw5110981974836731615:=0
def tw1988315099848997902:=0
def tw8263196794001502376:=0
def tw12637949844735553798:=0
def tw9075097395282831580:=0
def tw3547772941972236688:=0
def tw6867152412487237054:=0
def tw8769979681591001627:=0
def tw2542093807499904934:=0
def tw14615874925064450116:=0
def tw4365524637425248203:=0
def tw2827818289871642576:=0
def tw12848865328091607724:=0
def tw3473975333691269685:=0
def tw13963609750040218797:=0
def tw10213421309574702359:=0
def tw7786219052466832350:=0
def tw13226096712673041389:=0
def tw11064136166775108518:=0
def tw12059578601101778771:=0
def tw15370026237555271842:=0
def tw13564348820997172243:=0
def tw9028114375789178933:=0
def tw9156078258049261011:=0
def tw13149398491876427379:=0
def tw5497876864686556385:=0
def tw1186471064960957802:=0
def tw16911762258662108090:=0
def tw6698431531690111602:=0
def tw17595079786896529539:=0
def tw13838626267391505581:=0
def tw3523538288721252100:=0
def tw13731435332052269107:=0
def tw10597747051880139338:=0
def tw10253163817679795290:=0
def tw11056357760914293030:=0
def tw957411975908035254:=0
def tw8423968609916062015:=0
def tw17774994402281029637:=0
def tw15922366539023613082:=0
def tw9178716747081040965:=0
def tw9268531726166721685:=0
def tw11435716268505587826:=0
def tw4005464274742173222:=0
def tw17705721740366414886:=0
def tw8644044619936507281:=0
def tw7767145729953577962:=0
def tw8518456267457649973:=0
def tw12835890006596000816:=0
def tw3908591267235945977:=0
def tw11703042531262855760:=0
def tw1296528335809005132:=0
def tw10289676545502120394:=0
def tw11135255054597373085:=0
def tw249684298150636081:=0
def tw808959219365616792:=0
def tw17339513405074901340:=0
def tw2557222008888401996:=0
def tw3840461711372102549:=0
def tw6547252493069037458:=0
def tw14302350375780232140:=0
def tw7004870676041776962:=0
def tw11536052953708870349:=0
def tw13968368548338671949:=0
def tw15992540568364161652:=0
def tw16470996612448790600:=0
def tw16621506656675967538:=0
def tw16025558080253460247:=0
def tw4231608520115210699:=0
def tw16004377141181514149:=0
def tw3570666753973213831:=0
def tw1147134268103156661:=0
def tw5196049223682815209:=0
def tw10214661491277081312:=0
def tw9775515035848046700:=0
def tw1431800613281601461:=0
def tw15227718108256753767:=0
def tw13552540288230557893:=0
def tw15909004180140988311:=0
def tw6510314712272139026:=0
def tw1470940866935119846:=0
def tw18311074585010433126:=0
def tw15798646325024046604:=0
def tw5445723561435540494:=0
def tw15523077083735410729:=0
def tw312999216951676712:=0
def tw10224069101767990433:=0
def tw9755521164092065568:=0
def tw15116089722202863845:=0
def tw16746445556277801514:=0
def tw10115018731849816649:=0
def tw1415534051036258583:=0
def tw333253059868481100:=0
def tw18141366235071717284:=0
def tw7729078942561312938:=0
def tw16491743304715948667:=0
def tw1062415581686553145:=0
def tw526453195735374423:=0
def tw7336986937072000747:=0
def tw5084083462925896767:=0
def tw6361789187546921851:=0
def tw8054142316359830096:=0
def tw9363110536251197796:=0
def tw5136343929554905299:=0
def tw16753381626009196947:=0
def tw11293075293803810572:=0
def tw7653139347003743564:=0
def tw7155071472596303563:=0
def tw14669909265714896707:=0
def tw1727426503179615599:=0
def tw348478490016876785:=0
def tw704739134105791806:=0
def tw31982893827721678:=0
def tw1346419350588398002:=0
def tw16014303859033589346:=0
def tw7580481147503498103:=0
def tw12894664397176086454:=0
def tw15065874132796734972:=0
def tw3512643599391991699:=0
def tw11411942958391065112:=0
def tw9653358045616186470:=0
def tw7633041064217882695:=0
def tw2987515565067485521:=0
def tw9572821522269058916:=0
def tw14117678455689124293:=0
def tw7763963200219888455:=0
def tw9676409793259506695:=0
def tw8247593736151191570:=0
def tw199420886813079954:=0
def tw12571863228053906651:=0
def tw939451636539175257:=0
def tw17919006450897036272:=0
def tw4614316105242931415:=0
def tw12779173917556648816:=0
def tw17345866984352993531:=0
def tw135667663798101934:=0
def tw15665997800618077388:=0
def tw11177769674603709760:=0
def tw11168197131587473014:=0
def tw8036520721159828331:=0
def tw8476943079119555492:=0
def tw9336329740879392741:=0
def tw10377556507123346948:=0
def tw9818888150817226227:=0
def tw9134553267679186577:=0
def tw3288846912247774257:=0
def tw3288505830527806827:=0
def tw4670760098285574994:=0
def tw2958831698266873945:=0
def tw1478384183424603856:=0
def tw13309645996982009834:=0
def tw15604274352643947157:=0
def tw16857707114762051344:=0
def tw17769828795403536158:=0
def tw16256460230446851414:=0
def tw13383277614902561483:=0
def tw18120120745198121320:=0
def tw7101328201828286507:=0
def tw5281593815422133306:=0
def tw5060091905951030215:=0
def tw10983805497296918156:=0
def tw13828152251616623106:=0
def tw5051084955306949678:=0
def tw7285603176716571701:=0
def tw12578865965960768698:=0
def tw9469388606646277633:=0
def tw5474765496728915895:=0
def tw63172833163961039:=0
def tw5679345516903599634:=0
def tw14949337201324186666:=0
def tw13310973015176469696:=0
def tw2389745196373692904:=0
def tw12600722755487417234:=0
def tw17370406372889375220:=0
def tw14887989881277420838:=0
def tw17123715714929118108:=0
def tw3180121890272161041:=0
def tw4023452906475077671:=0
def tw17363728052629287856:=0
def tw1804379518672613897:=0
def tw6726181240651911612:=0
def tw6774180741801328247:=0
def tw7507236479369109424:=0
def tw15636105171136740723:=0
def tw4900570451121947424:=0
def tw1268155494313694939:=0
def tw10295919707487378300:=0
def tw17362000569157655985:=0
def tw17465266588910304730:=0
def tw15510876068756317091:=0
def tw11927037407818354924:=0
def tw14663796894121702042:=0
def tw6920052453222331326:=0
def tw12731405314367131087:=0
def tw10068062705423050830:=0
def tw5917474238847088855:=0
def tw4436880972595618831:=0
def tw18035301193054951636:=0
def tw4437204991262852383:=0
def tw13806913140946613988:=0
def tw8011238166019294930:=0
def tw7696698117680311957:=0
def tw211468081954866111:=0
def tw5525641678803039994:=0
def tw4851301672233737615:=0
def tw3897547658753773984:=0
def tw6127392037657495187:=0
def tw3251278432224224487:=0
def tw792280651752041359:=0
def tw13478909089198521627:=0
def tw3449545444072769764:=0
def tw7173824231775491650:=0
def tw17471614498729288966:=0
def tw12407171606269607429:=0
def tw16598017669541356941:=0
def tw14824921888868345420:=0
def tw5896303524800715943:=0
def tw18260857054989061981:=0
def tw2393548640071830993:=0
def tw1426042032344593232:=0
def tw7428122761933274825:=0
def tw8372733055715597659:=0
def tw4859074156796961531:=0
def tw12457527730662119937:=0
def tw13476087600175707632:=0
def tw4025197422857425833:=0
def tw7351084212104642786:=0
def tw5389002935929537586:=0
def tw8660568241631333159:=0
def tw6433616983227289441:=0
def tw12325901344793704604:=0
def tw11287008435734609933:=0
def tw9381945336860646491:=0
def tw17260128578439882399:=0
end PySem.W.Fast
open PySem PySem.W PyProof.Rows
set_option maxRecDepth 100000 in
set_option maxHeartbeats 0 in
theorem PySem.Challenge.cw_dampfield_k07_chances_holds : PySem.Challenge.rw_dampfield_k07_chances.Holds := by
 w_on;o_law;k_head;(case hw=>w_witness2)
 k_fill
 refine My.walk (l:=PySem.Challenge.rw_dampfield_k07_chances) rfl rfl (fun w h Y=>PySem.W.kIn_of Y) ?F
 case F=>
  intro w mg j h f e g
  refine' My.all_mk f e g ?rC ?zY ?El ?wX ?rD ?Jx ?_ ?_ ?_ ?_ ?_ ?_ ?_ ?_ ?_ ?_ ?_ ?_ ?_ ?_ ?_ ?_ ?_ ?_ ?_ ?_ ?_ ?_ ?_ ?_ ?_ ?_ ?_ ?_ ?_ ?_ ?_ ?_ ?_ ?_ ?_ ?_ ?_ ?_ ?_ ?_ ?_ ?_ ?_ ?_ ?_ ?_ ?_ ?_ ?_ ?_ ?_ ?_ ?_ ?_ ?_ ?_ ?_ ?_ ?_ ?_ ?_ ?_ ?_ ?_ ?_ ?_ ?_ ?_ ?_ ?_ ?_ ?_ ?_ ?_ ?_ ?_ ?_ ?_ ?_ ?_ ?_ ?_ ?_ ?_ ?_ ?_ ?_ ?_ ?_ ?_ ?_ ?_ ?_ ?_
  (case rC=>k_is)
  (case zY=>k_is)
  (case El=>k_is)
  (case wX=>k_is)
  (case rD=>k_is)
  (case Jx=>k_is)
  iterate 5 k_exc
  iterate 1 (refine' My.a5C ?a ?i ?b ?c ?d;(case a=>k_is);(case i=>k_is);(case b=>k_is);(case c=>k_is);(case d=>k_is))
  iterate 1 (refine' ⟨?_,?_,?_,?_⟩<;>k_is)
  iterate 5 k_is
  iterate 2 (refine' My.a8d ?a;(case a=>k_is))
  iterate 2 (refine' My.a90 ?a;(case a=>k_is))
  iterate 1 (refine' My.a8d ?a;(case a=>k_is))
  iterate 14 k_is
  iterate 12 kit_is
  iterate 51 (refine' My.a7a ?a ?b ?c ?d;(case a=>k_is);(case b=>k_is);(case c=>k_is);(case d=>k_is))
