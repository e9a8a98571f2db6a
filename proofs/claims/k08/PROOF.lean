import PyProof.Rows.All
import Wide.All
import OpenK.AllK
import Wide.FinOn
import Lean
import PyProof.EqAt
import PyProof.EqKinds
import PyProof.TupleCall
import PySem.Challenge.RW_dampfield_k08_sure_cells
set_option maxHeartbeats 4000000
set_option Elab.async false
set_option linter.all false
set_option maxRecDepth 100000
def aH:=@if_neg
def aK:=@if_pos
def bR:=@decide_eq_true
def cI:=@of_decide_eq_true
def cG:=@decide_eq_false
def j6:=@of_decide_eq_false
def jo:=@decide_eq_true_iff
def qg:=@beq_eq_false_iff_ne
def lZ:=@beq_iff_eq
def rG:=@decide_eq_decide
def jU:=@if_false
def mK:=@if_true
def K6:=@bne_self_eq_false
def K9:=@beq_self_eq_true
def QL:=@decide_eq_true_eq
def R6:=@and_congr_right
open Array renaming length_toList->eO,getElem?_eq_getElem->ig,getD_eq_getD_getElem?->oF,toList_append->mQ,getElem?_toList->vL,toList_push->Af,getElem?_eq_none->JQ,toList_reverse->JV,getElem_toList->JW,getElem_mem_toList->Qn,eq_empty_of_size_eq_zero->Z4,toList_setIfInBounds->Z9,toList_inj->QX,toList_extract->Zu,append_assoc->ZD,size_extract->ZK
open Bool renaming false_ne_true->g8,and_eq_true->lW,not_eq_true'->qm,false_eq_true->vN,not_eq_false'->wN,eq_iff_iff->uE,and_false->uF,true_and->uG,false_and->Aq,beq_eq_decide_eq->Qt,and_eq_true_iff->Qy,and_true->Kl,eq_false_iff->QS,true_or->Rb
def Fd:=@Classical.byContradiction
open Int renaming toNat_natCast->jq,emod_lt_of_pos->Ad,zero_add->rH,emod_nonneg->Ao,toNat_of_nonneg->K1,eq_ofNat_of_zero_le->Qo,le_refl->FT,le_trans->Rf
open List renaming length_map->aR,mem_singleton->dB,getElem?_eq_getElem->gj,getD_eq_getElem?_getD->gO,length_append->c7,getElem?_map->cQ,mem_filter->cC,size_toArray->dj,mem_append->cR,getElem?_eq_some_iff->gM,mem_of_getElem?->fJ,mem_cons_self->dY,mem_cons_of_mem->fU,mem_map->cu,map_append->dM,mem_cons->cW,length_filter_le->iQ,mem_range->fK,length_singleton->jm,take_length->gY,mem_append_left->jE,length_cons->iR,mem_append_right->jW,map_cons->gq,take_succ->iT,length_take->jr,length_range->jX,all_eq_true->lX,getElem_mem->oG,getElem?_of_mem->rP,map_map->jY,drop_eq_getElem_cons->yp,pairwise_iff_getElem->yq,pairwise_append->vM,filter_append->uK,pairwise_cons->uL,getElem?_append_right->FZ,append_nil->rT,take_of_length_le->Bs,take_append_drop->Bu,filter_eq_nil_iff->Ga,append_assoc->yr,nodup_append->yt,getElem?_append_left->Ib,range_succ->vP,mem_of_mem_take->wL,map_congr_left->wM,length_drop->ux,lookup_cons->uy,getElem_map->uD,getElem?_toArray->zZ,filter_congr->wO,length_eq_zero_iff->Fe,replicate_succ->Aa,flatMap_append->Ab,filter_cons->wQ,getElem?_eq_none->Fg,perm_ext_iff_of_nodup->JK,flatMap_cons->Ae,getElem?_take_of_lt->JL,any_cons->wV,mem_filterMap->Fj,nodup_cons->Aj,find?_cons->Al,drop_of_length_le->JR,flatten_cons->Fl,ext_getElem?->Fp,nodup_nil->Av,mem_of_mem_drop->JT,all_cons->Aw,getElem_of_mem->JX,filter_eq_self->JZ,length_nil->Fv,drop_zero->Fx,take_zero->Fy,getElem?_set_self->Qp,mem_reverse->Ka,any_eq_true->Kc,cons_append->Kd,perm_append_comm->Qu,pairwise_reverse->Qv,map_nil->FN,nil_append->Ke,mem_iff_getElem->Qw,eq_nil_of_length_eq_zero->Z5,filterMap_cons->Qz,filter_sublist->QB,drop_drop->Kg,length_eraseIdx_of_lt->Za,sum_cons->Ko,any_eq_false->QJ,pairwise_map->QM,reverse_perm->QT,all_map->Kq,sublist_append_left->Zf,drop_length->R0,eraseIdx_cons_succ->Zh,pairwise_singleton->Zi,of_mem_zip->R4,foldl_cons->R5,length_pos_of_mem->Zm,pairwise_lt_range->Zo,map_id->Ku,getElem?_set_ne->Zt,reverse_append->Zy,modify_toArray->Zz,map_eq_nil_iff->ZC,ne_nil_of_mem->ZP
def QF:=@List.Nodup.sublist
open List.Perm renaming eq_of_pairwise->Zg,refl->R9
open Nat renaming le_refl->bK,le_trans->cX,ne_of_lt->dU,lt_of_lt_of_le->jj,zero_le->j7,mul_le_mul->lY,lt_irrefl->oH,le_succ->oE,ne_of_gt->uH,min_eq_left->Ak,lt_succ_of_lt->Fq,zero_add->wW,le_of_lt->Ax,lt_of_le_of_lt->K4,lt_succ_self->K8,le_of_ble_eq_true->Qs,add_zero->FP,not_lt_zero->Kf,pow_le_pow_right->Qx,not_lt->FW,succ_mul->Kp,add_le_add_left->Zx,add_sub_cancel->ZJ,sub_self->Rc,lt_or_eq_of_le->ZL
def j5:=@Ne.symm
open Option renaming map_eq_some_iff->gn,map_some->wU,isSome_map->QV,isSome_iff_exists->Zc
open Option.some renaming inj->iu,injEq->Fo
def mJ:=@Prod.ext
open PyProof.Rows renaming wpS_bind->aM,wpS_pure->aQ,wpS_forRange->kI,wpS_mono->iZ,wpS_modify->lD,callWith_type1->JH,wpS_get->mL,wpS_lift->wX,mirror_perm->FQ,assignInOrder_cons->QC
open PyProof.Rows.F renaming plain_set_update_loop->Ql,entry_set_update_loop->Z1
def Kh:=@PyProof.Rows.IntsAre.length
open PySem renaming wpAny_bind->aP,wpAny_pure->bL,wpAny_mono->j8,codeAny_builtin->rW,wpAny_truthy_bool->vO,wpAny_holding->qt,plainId_quiet->rY,sizeLine_eq->oX,wpAny_eqBool_int->yu,wpAny_rule->jT,wpAny_newObj_type->uw,wpAny_call_entry->uz,codeAny_mono->pB,wpAny_Call_Name_kw->Ac,wpAny_passesOwn->wR,wpAny_askSetting->Ag,mem_of_lookup->Fi,wpAny_callSpecial?_slot->JM,wpAny_execs_nil->Ai,wpAny_updateSeq->Am,wpAny_setState_of->Ft,call_meets->uI,wpAny_ite_split->Fw,tupleKind_room_in1->K5,wpAny_standAt->Fz,wpAny_attempt->FJ,wpAny_execs_cons->K7,wpAny_newList->Km,wpAny_assign_Name->QG,wpAny_pyIter_list->QH,wpAny_pyIter_slot->QW,wpAny_comprehension_free->Zd,wpAny_isInstance->QZ,wpAny_letGo->Ks,wpAny_runValue->R7,isSubtype_type->R8,wpAny_tryCatch->Ra,wpAny_call->Kv
def uJ:=@PySem.Around.under_plainId
def Ze:=@PySem.AutoSeq1.sub_tuple_tuple
open PySem.Calls renaming call_function_entry->Qm,Name_function_global->Z8
open PySem.F renaming plainAttrs_list->jV,slot_list_append->lU,type_list_append->lV,slot_dict_keyiterator_next->NQ,excBase_ValueError->Fb,plain_max_loop->Ah,plain_list_iadd->JN,args_dict_keyiterator_next_1->Z0,entry_dict_keyiterator_next->Z2,entry_proto_collect->Z6,plain_proto_collect->Z7,plain_extend_loop->Zb,entry_list_iadd->Zj,slot_dict_iter->Zn,plain_set_new->Zq,slot_set_iter->Zr,slot_list_lt->Zv
open PySem.Heap renaming get?_push_of_some->eY,lt_size->bM,get?_push_size->fV,get?_update_ne->rQ,get?_update_self->Bt,get?_update_other->G9,size_push->Ar
def eU:=@PySem.PassesOwn.never
def Kr:=@PySem.SeqAt.EqAt.of_refs
def ZM:=@PySem.Txt.slice_le
open PySem.W renaming mg_none_of->qj,kia_one->qp,mg_of->oJ,callWith_K->QD,kitx_list->QK,cellsFrom_some->Zk,hideAll_get->Zw,of_hideAll->ZF,kitx_tuple->ZG
abbrev ao:=PySem.W.Frag
namespace L2
open PySem PySem.Spec PyProof.Rows
abbrev Key:=Sum Int Str
def Hu:Key->Value->Bool
 |.inl k,v=>Value.isInt k v
 |.inr x,v=>Value.isStrOf x v
def a6O(w:World):Key->Int
 |.inl k=>hashInt k
 |.inr x=>hashStr w x
theorem gD:∀ {k:Key} {v:Value},Hu k v=true->(∃ i t,k=Sum.inl i/\v=Value.int i t)\/(∃ x t,k=Sum.inr x/\v=Value.str x t)
 |.inl i,v,h=>by
  obtain⟨t,e⟩:=Value.isInt_shape (k:=i) (v:=v) h;exact .inl ⟨i,t,rfl,e⟩
 |.inr x,v,h=>by
  obtain⟨t,e⟩:=Value.isStrOf_shape (x:=x) (v:=v) h;exact .inr ⟨x,t,rfl,e⟩
theorem Uj(i:Int)(t:Tok):Hu (.inl i) (.int i t)=true:=by simp[Hu,Value.isInt]
theorem Uk(x:Str)(t:Tok):Hu (.inr x) (.str x t)=true:=by simp[Hu,Value.isStrOf]
theorem a3m(a b:Int):decide ((Sum.inl a:Key)=Sum.inl b)=(a==b):=by
 by_cases e:a=b
 ·subst e;simp
 ·have h:¬(Sum.inl a:Key)=Sum.inl b:=fun q=>e (Sum.inl.inj q)
  rw[cG h];exact(qg.mpr e).symm
theorem a3p(a b:Str):decide ((Sum.inr a:Key)=Sum.inr b)=decide (a=b):=by
 by_cases e:a=b
 ·subst e;simp
 ·have h:¬(Sum.inr a:Key)=Sum.inr b:=fun q=>e (Sum.inr.inj q)
  rw[cG h,cG e]
theorem a3n(a:Int)(b:Str):decide ((Sum.inl a:Key)=Sum.inr b)=false:=cG (fun q=>nomatch q)
theorem a3o(a:Str)(b:Int):decide ((Sum.inr a:Key)=Sum.inl b)=false:=cG (fun q=>nomatch q)
def iD(prog:Program)(w:World):PySem.KeyKind prog w Key where
 is:=Hu
 hash:=a6O w
 inj:=fun v a b ha hb=>by
  rcases gD ha with⟨i,t,rfl,rfl⟩|⟨x,t,rfl,rfl⟩
  ·rcases gD hb with⟨j,u,rfl,e⟩|⟨y,u,rfl,e⟩
   ·injection e with e1 _;rw[e1]
   ·exact nomatch e
  ·rcases gD hb with⟨j,u,rfl,e⟩|⟨y,u,rfl,e⟩
   ·exact nomatch e
   ·injection e with e1 _;rw[e1]
 byValue:=fun k v h=>by
  rcases gD h with⟨i,t,rfl,rfl⟩|⟨x,t,rfl,rfl⟩<;>rfl
 pyHash:=fun hv h=>by
  rcases gD hv with⟨i,t,rfl,rfl⟩|⟨x,t,rfl,rfl⟩
  ·exact wpAny_pyHash_int h
  ·exact wpAny_pyHash_str h
 eqBool:=fun hu hv h=>by
  rcases gD hu with⟨i,t,rfl,rfl⟩|⟨x,t,rfl,rfl⟩
  ·rcases gD hv with⟨j,u,rfl,rfl⟩|⟨y,u,rfl,rfl⟩
   ·rw[a3m] at h;exact yu h
   ·rw[a3n] at h;exact SeqAt.EqAt.int_str i t y u _ _ _ _ h
  ·rcases gD hv with⟨j,u,rfl,rfl⟩|⟨y,u,rfl,rfl⟩
   ·rw[a3o] at h;exact SeqAt.EqAt.str_int x t j u _ _ _ _ h
   ·rw[a3p] at h;exact wpAny_eqBool_str h
 «strs»:=fun k x t v h=>by
  rcases gD h with⟨i,u,rfl,e⟩|⟨y,u,rfl,e⟩
  ·exact nomatch e
  ·injection e with e1 _;subst e1;cases v<;>rfl
theorem Ml(prog:Program)(w:World)(i:Int)(t:Tok):(iD prog w).is (.inl i) (.int i t)=true:=Uj i t
theorem Mp(prog:Program)(w:World)(x:Str)(t:Tok):(iD prog w).is (.inr x) (.str x t)=true:=Uk x t
inductive V where
 |non|bl (b:Bool)|int (i:Int)|str (x:Str)|byt (b:Array UInt8)|flt (b:UInt64)|ref (a:Addr)|ty (n:String)
 deriving DecidableEq
def RelV:V->Value->Prop
 |.non,u=>u=Value.none
 |.bl b,u=>u=Value.bool b
 |.int i,u=>∃ t,u=Value.int i t
 |.str x,u=>∃ t,u=Value.str x t
 |.byt b,u=>∃ t,u=Value.bytes b t
 |.flt b,u=>∃ t,u=Value.float b t
 |.ref a,u=>u=Value.ref a
 |.ty n,u=>u=Value.type n
abbrev Vals:List V->List Value->Prop:=Paired RelV
theorem Vals.length{xs:List V}{us:List Value}(r:Vals xs us):xs.length=us.length:=Paired.length r
theorem Vals.get:∀ {xs:List V} {us:List Value} {i:Nat} {x:V},Vals xs us->xs[i]?=some x->∃ u,us[i]?=some u/\RelV x u
 |_,_,_,_,.nil,e=>by simp at e
 |_,_,0,_,.cons r _,e=>by simp at e;subst e;exact⟨_,rfl,r⟩
 |_,_,i+1,x,.cons _ t,e=>by
  obtain⟨u,h1,h2⟩:=Vals.get (i:=i) (x:=x) t (by simpa using e);exact⟨u,by simpa using h1,h2⟩
theorem Vals.set{x:V}{u:Value}(r:RelV x u):∀ {xs:List V} {us:List Value} (i:Nat),Vals xs us->Vals (xs.set i x) (us.set i u)
 |_,_,_,.nil=>.nil
 |_,_,0,.cons _ t=>.cons r t
 |_,_,i+1,.cons q t=>.cons q (Vals.set r i t)
theorem Vals.append:∀ {xs ys:List V} {us ws:List Value},Vals xs us->Vals ys ws->Vals (xs++ys) (us++ws)
 |_,_,_,_,.nil,s=>s
 |_,_,_,_,.cons r t,s=>.cons r (Vals.append t s)
theorem Vals.take:∀ {xs:List V} {us:List Value} (n:Nat),Vals xs us->Vals (xs.take n) (us.take n)
 |_,_,0,_=>.nil
 |_,_,_+1,.nil=>.nil
 |_,_,n+1,.cons r t=>.cons r (Vals.take n t)
theorem Vals.drop:∀ {xs:List V} {us:List Value} (n:Nat),Vals xs us->Vals (xs.drop n) (us.drop n)
 |_,_,0,r=>r
 |_,_,_+1,.nil=>.nil
 |_,_,n+1,.cons _ t=>Vals.drop n t
def yK:Option V->Option Value->Prop
 |some v,some u=>RelV v u
 |none,none=>True
 |_,_=>False
def KV{κ:Type}:List (κ×V)->List (κ×Value)->Prop:=Paired fun(p:κ×V)(q:κ×Value)=>p.1=q.1/\RelV p.2 q.2
def kV:Key->V
 |.inl i=>.int i
 |.inr x=>.str x
inductive HO where
 |lst (xs:List V)
 |tup (xs:List V)
 |dK (kvs:List (Key×V))|dT (kvs:List (List Key×V))
 |set (S:Int->Bool) (n:Nat)
 |ins (C dx:Addr) (fs:List (Str×V))
 |own (x:Addr)
 |xd (fs:List (Str×V))
 |met (f x:Addr)
 |rng (lo hi:Int)
 |frz (o:Obj) (u:HO)
 |tbl (ps:Array Value)
 |ext (φ:Heap->Prop)
abbrev Hp:=Addr->Option HO
def upd(H:Hp)(a:Addr)(o:HO):Hp:=fun b=>if b=a then some o else H b
theorem au{H:Hp}{a:Addr}{o:HO}:upd H a o a=some o:=by unfold upd;rw[aK rfl]
theorem bD{H:Hp}{a b:Addr}{o:HO}(h:b≠a):upd H a o b=H b:=by unfold upd;rw[aH h]
theorem pW{H:Hp}{a b:Addr}{o u:HO}(h:H a=some o)(h':H b=some u)(d:o≠u):a≠b:=by
 intro e;subst e;rw[h] at h';exact d (iu h')
theorem bV{H:Hp}{a b:Addr}{o:HO}(h:H a=some o)(h':H b=none):a≠b:=by
 intro e;subst e;rw[h] at h';cases h'
section
variable(P:Program)(w:World)
def fQ(H:Hp)(h:Heap)(a:Addr):HO->Prop
 |.lst xs=>xs.length<=sizeLine/\∃(its:List Value)(n:Nat),Vals xs its/\h.get? a=some { cls:=.type "list",data:=.seq its.toArray n }
 |.tup xs=>xs.length<=sizeLine/\∃ its:List Value,Vals xs its/\IsTup h a its.toArray
 |.dK kvs=>kvs.length<=sizeLine/\(a==sysModules)=false/\∃ vs,KV kvs vs/\h.DictOf (iD P w) a vs
 |.dT kvs=>kvs.length<=sizeLine/\(a==sysModules)=false/\∃ xs:List (List Key×Addr×Value),
   Paired (fun(p:List Key×V)(q:List Key×Addr×Value)=>p.1=q.1/\H q.2.1=some (.tup (p.1.map kV))/\RelV p.2 q.2.2) kvs xs /\
   ∃ o es ep,h.get? a=some o/\o.ExactDict/\o.data=.dict es ep/\es.toList=xs.map (entryOfKey (tupleKind (iD P w)))/\(xs.map (·.1)).Nodup
 |.set S n=>h.SetOf (intKind P w) a S n
 |.ins C dx fs=>H dx=some (.own a)/\fs.length<=1000/\dx≠a/\h.get? a=some (PySem.W.instObj C dx) /\
   ∃ mA,h.Ns1 dx mA/\(∀ f,yK (fs.lookup f) (mA f))/\PySem.Within mA (fs.map (·.1))
 |.own _=>∃ o,h.get? a=some o
 |.xd fs=>∃ mA,h.Ns1 a mA/\∀ f,yK (fs.lookup f) (mA f)
 |.rng lo hi=>∃ t u v,h.get? a=some { cls:=.type "range",data:=.fields #[.int lo t,.int hi u,.int 1 v] }
 |.frz o u=>h.get? a=some o/\fQ H h a u
 |.tbl ps=>h.get? a=some { cls:=.none,data:=.fields ps }
 |.met f x=>h.get? a=some (PySem.W.methodObj (.ref f) (.ref x))
 |.ext φ=>φ h/\(∃ o,h.get? a=some o)/\∀ h1 h2:Heap,φ h1->(∀ o,h1.get? a=some o->h2.get? a=some o)->φ h2
def HOk(H:Hp)(h:Heap):Prop:=∀ a o,H a=some o->fQ P w H h a o
end
section
variable{P:Program}{w:World}{H H':Hp}{h h':Heap}{a:Addr}{o:HO}
theorem fQ.lt(x:fQ P w H h a o):a<h.objs.size:=by
 cases o with
 |lst xs=>obtain⟨_,_,_,_,e⟩:=x;exact bM e
 |tup xs=>obtain⟨_,_,_,p⟩:=x;exact p.lt
 |dK kvs=>obtain⟨_,_,_,_,o,_,_,e,_⟩:=x;exact bM e
 |dT kvs=>obtain⟨_,_,_,_,o,_,_,e,_⟩:=x;exact bM e
 |set S n=>obtain⟨o,_,_,_,e,_⟩:=x;exact bM e
 |ins C dx fs=>obtain⟨_,_,_,e,_⟩:=x;exact bM e
 |own y=>obtain⟨_,e⟩:=x;exact bM e
 |xd fs=>obtain⟨_,⟨_,_,_,e,_⟩,_⟩:=x;exact bM e
 |rng lo hi=>obtain⟨_,_,_,e⟩:=x;exact bM e
 |frz ob u=>obtain⟨e,_⟩:=x;exact bM e
 |tbl ps=>exact bM (show h.get? a=some _ from x)
 |met f y=>exact bM (show h.get? a=some _ from x)
 |ext φ=>obtain⟨_,⟨_,e⟩,_⟩:=x;exact bM e
theorem Paired.a3u{α β:Type}{F G:α->β->Prop}:∀ {l₁:List α} {l₂:List β},Paired F l₁ l₂->(∀ a b,F a b->G a b)->Paired G l₁ l₂
 |_,_,.nil,_=>.nil
 |_,_,.cons r t,f=>.cons (f _ _ r) (Paired.a3u t f)
theorem fQ.stay(x:fQ P w H h a o)(k:∀ b u,(b=a\/H b=some (.own a))->h.get? b=some u->h'.get? b=some u)
  (ho:∀ b,H b=some (.own a)->H' b=some (.own a)) (ht:∀ b xs,H b=some (.tup xs)->H' b=some (.tup xs)):fQ P w H' h' a o:=by
 induction o with
 |lst xs=>obtain⟨z,its,n,r,e⟩:=x;exact⟨z,its,n,r,k _ _ (.inl rfl) e⟩
 |tup xs=>obtain⟨z,its,r,ob,e,c⟩:=x;exact⟨z,its,r,ob,k _ _ (.inl rfl) e,c⟩
 |dK kvs=>obtain⟨z,y,vs,r,ob,es,ep,e,c⟩:=x;exact⟨z,y,vs,r,ob,es,ep,k _ _ (.inl rfl) e,c⟩
 |dT kvs=>
  obtain⟨z,y,xs,r,ob,es,ep,e,c⟩:=x;exact⟨z,y,xs,Paired.a3u r fun p q z=>⟨z.1,ht _ _ z.2.1,z.2.2⟩,ob,es,ep,k _ _ (.inl rfl) e,c⟩
 |set S n=>obtain⟨ob,es,ep,t,e,c⟩:=x;exact⟨ob,es,ep,t,k _ _ (.inl rfl) e,c⟩
 |ins C dx fs=>
  obtain⟨d,z,ne,e,mA,⟨od,es,ep,e2,c⟩,r⟩:=x;exact⟨ho _ d,z,ne,k _ _ (.inl rfl) e,mA,⟨od,es,ep,k _ _ (.inr d) e2,c⟩,r⟩
 |own y=>obtain⟨ob,e⟩:=x;exact⟨ob,k _ _ (.inl rfl) e⟩
 |xd fs=>obtain⟨mA,⟨od,es,ep,e,c⟩,r⟩:=x;exact⟨mA,⟨od,es,ep,k _ _ (.inl rfl) e,c⟩,r⟩
 |rng lo hi=>obtain⟨t,u,v,e⟩:=x;exact⟨t,u,v,k _ _ (.inl rfl) e⟩
 |frz ob u ih=>obtain⟨e,q⟩:=x;exact⟨k _ _ (.inl rfl) e,ih q⟩
 |tbl ps=>
  have e:h.get? a=some { cls:=.none,data:=.fields ps }:=x;show h'.get? a=some { cls:=.none,data:=.fields ps };exact k a _ (.inl rfl) e
 |met f y=>
  have e:h.get? a=some (PySem.W.methodObj (.ref f) (.ref y)):=x;show h'.get? a=some (PySem.W.methodObj (.ref f) (.ref y));exact k a _ (.inl rfl) e
 |ext φ=>obtain⟨p,⟨o,e⟩,st⟩:=x;exact⟨st _ _ p fun o q=>k _ _ (.inl rfl) q,⟨o,k _ _ (.inl rfl) e⟩,st⟩
theorem HOk.lt(x:HOk P w H h)(e:H a=some o):a<h.objs.size:=(x a o e).lt
theorem HOk.fresh(x:HOk P w H h)(e:h.objs.size<=a):H a=none:=by
 cases q:H a with
 |none=>rfl
 |some u=>exact absurd (jj (x.lt q) e) (oH _)
theorem HOk.kept(x:HOk P w H h)(k:∀ b u,h.get? b=some u->h'.get? b=some u):HOk P w H h':=fun a o e=>
 (x a o e).stay (fun b u _ q=>k b u q) (fun _ q=>q) fun _ _ q=>q
theorem HOk.laid(x:HOk P w H h)(k:∀ b u,h.get? b=some u->h'.get? b=some u)(hp:h.objs.size<=a)(new:fQ P w (upd H a o) h' a o):HOk P w (upd H a o) h':=fun b u e=>by
 have hn:=x.fresh hp;by_cases hb:b=a
 ·subst hb;rw[au] at e;cases e;exact new
 ·rw[bD hb] at e;exact(x b u e).stay (fun c v _ q=>k c v q) (fun c q=>by rw[bD (bV q hn)];exact q) fun c xs q=>by rw[bD (bV q hn)];exact q
end
def Rd(H:Hp)(a:Addr)(u:HO):Prop:=H a=some u\/∃ o,H a=some (.frz o u)
theorem Rd.ok{P:Program}{w:World}{H:Hp}{h:Heap}{a:Addr}{u:HO}(r:Rd H a u)(x:HOk P w H h):fQ P w H h a u:=by
 rcases r with r|⟨o,r⟩
 ·exact x a u r
 ·obtain⟨_,q⟩:=x a _ r;exact q
def Mut:Option HO->Prop
 |some (.lst _)=>True
 |some (.dK _)=>True
 |some (.dT _)=>True
 |some (.set _ _)=>True
 |some (.ins _ _ _)=>True
 |some (.ext _)=>True
 |_=>False
section
variable{P:Program}{w:World}{H:Hp}{h h':Heap}{x e:Addr}{o':HO}
theorem HOk.write(ok:HOk P w H h)(mu:Mut (H x))(he:e=x\/H e=some (.own x))(k:∀ b u,b≠e->h.get? b=some u->h'.get? b=some u)(heo:∃ u,h'.get? e=some u)
  (new:fQ P w (upd H x o') h' x o'):HOk P w (upd H x o') h':=fun b u q=>by
 have a5A:∀ c y,H c=some (.own y)->c≠x:=fun c y r z=>by subst z;rw[r] at mu;exact mu
 have a73:∀ c xs,H c=some (.tup xs)->c≠x:=fun c xs r z=>by subst z;rw[r] at mu;exact mu
 by_cases hb:b=x
 ·subst hb;rw[au] at q;cases q;exact new
 ·rw[bD hb] at q;by_cases hbe:b=e
  ·have q':H b=some (.own x):=by
    rcases he with z|z
    ·exact absurd (hbe.trans z) hb
    ·rw[hbe];exact z
   rw[q] at q';cases q';obtain⟨v,hv⟩:=heo;exact⟨v,by rw[hbe];exact hv⟩
  ·refine(ok b u q).stay (fun c v hc r=>k c v ?_ r) (fun c r=>by rw[bD (a5A c b r)];exact r) fun c xs r=>by rw[bD (a73 c xs r)];exact r
   rcases hc with rfl|hc
   ·exact hbe
   ·rintro rfl;rcases he with z|z
    ·exact a5A c b hc z
    ·rw[hc] at z;cases z;exact hb rfl
end
structure Un(fs ex:List Addr)(H H':Hp)(h h':Heap):Prop where
 keep:∀ b o,h.get? b=some o->H b=none->b∉fs->b∉ex->h'.get? b=some o
 slot:∀ b o,h.get? b=some o->H b=none->b∈fs->b∉ex->∃ sl,h'.get? b=some { o with slots:=sl }
 free:∀ b o,h.get? b=some o->H b=none->b∉ex->H' b=none
 there:∀ b o,h.get? b=some o->b∉ex->∃ o',h'.get? b=some o'
 tups:∀ b xs,H b=some (.tup xs)->H' b=some (.tup xs)
 qL:∀ b o u,H b=some (.frz o u)->H' b=some (.frz o u)
 sG:∀ b ps,H b=some (.tbl ps)->∃ more,H' b=some (.tbl (ps++more))
section
variable{fs fs' ex ex':List Addr}{H H1 H2:Hp}{h h1 h2 h':Heap}{a x e:Addr}{o:HO}
theorem Un.any(u:Un fs ex H H1 h h1){b:Addr}{ob:Obj}(q:h.get? b=some ob)(n:H b=none)(hx:b∉ex):∃ sl,h1.get? b=some { ob with slots:=sl }:=by
 by_cases hb:b∈fs
 ·exact u.slot b ob q n hb hx
 ·exact⟨ob.slots,u.keep b ob q n hb hx⟩
theorem Un.trans(a:Un fs ex H H1 h h1)(b:Un fs ex H1 H2 h1 h2):Un fs ex H H2 h h2 where
 keep:=fun c ob q n hc hx=>b.keep c ob (a.keep c ob q n hc hx) (a.free c ob q n hx) hc hx
 slot:=fun c ob q n hc hx=>by
  obtain⟨sl,e1⟩:=a.slot c ob q n hc hx;obtain⟨sl',e2⟩:=b.slot c _ e1 (a.free c ob q n hx) hc hx;exact⟨sl',e2⟩
 free:=fun c ob q n hx=>by
  obtain⟨o',e1⟩:=a.there c ob q hx;exact b.free c o' e1 (a.free c ob q n hx) hx
 there:=fun c ob q hx=>by
  obtain⟨o',e1⟩:=a.there c ob q hx;exact b.there c o' e1 hx
 tups:=fun c xs q=>b.tups c xs (a.tups c xs q)
 qL:=fun c ob xs q=>b.qL c ob xs (a.qL c ob xs q)
 sG:=fun c ps q=>by
  obtain⟨m1,e1⟩:=a.sG c ps q;obtain⟨m2,e2⟩:=b.sG c _ e1;exact⟨m1++m2,by rw[e2,ZD]⟩
theorem Un.kept(k:∀ b u,h.get? b=some u->h'.get? b=some u):Un fs ex H H h h':=
 ⟨fun b ob q _ _ _=>k b ob q,fun b ob q _ _ _=>⟨ob.slots,k b ob q⟩,fun _ _ _ n _=>n,fun b ob q _=>⟨ob,k b ob q⟩,fun _ _ q=>q,fun _ _ _ q=>q,fun _ ps q=>⟨#[],by rw[q];simp⟩⟩
theorem Un.refl:Un fs ex H H h h:=Un.kept fun _ _ q=>q
theorem Un.laid(k:∀ b u,h.get? b=some u->h'.get? b=some u)(hp:h.objs.size<=a)(hn:H a=none):Un fs ex H (upd H a o) h h' where
 keep:=fun b u q _ _ _=>k b u q
 slot:=fun b u q _ _ _=>⟨u.slots,k b u q⟩
 free:=fun b u q n _=>by rw[bD (dU (jj (bM q) hp))];exact n
 there:=fun b u q _=>⟨u,k b u q⟩
 tups:=fun b xs q=>by rw[bD (bV q hn)];exact q
 qL:=fun b u xs q=>by rw[bD (bV q hn)];exact q
 sG:=fun b ps q=>⟨#[],by rw[bD (bV q hn),q];simp⟩
theorem Un.write(mu:Mut (H x))(he:e=x\/H e=some (.own x))(k:∀ b u,b≠e->h.get? b=some u->h'.get? b=some u)(heo:∃ u,h'.get? e=some u):Un fs ex H (upd H x o) h h':=by
 have hx:∀ b,H b=none->b≠x:=fun b n z=>by subst z;rw[n] at mu;exact mu
 have hb:∀ b,H b=none->b≠e:=fun b n z=>by
  subst z;rcases he with r|r
  ·exact hx b n r
  ·rw[n] at r;cases r
 have hm:∀ b u,H b=some u->¬Mut (some u)->b≠x:=fun b u q nm z=>by subst z;rw[q] at mu;exact nm mu
 refine⟨fun b u q n _ _=>k b u (hb b n) q,fun b u q n _ _=>⟨u.slots,k b u (hb b n) q⟩,fun b u q n _=>by rw[bD (hx b n)];exact n,fun b u q _=>?_,
  fun b xs q=>by rw[bD (hm b _ q fun z=>z)];exact q,fun b u xs q=>by rw[bD (hm b _ q fun z=>z)];exact q,fun b ps q=>⟨#[],by rw[bD (hm b _ q fun z=>z),q];simp⟩⟩
 by_cases hbe:b=e
 ·subst hbe;exact heo
 ·exact⟨u,k b u hbe q⟩
theorem Un.mono(u:Un fs ex H H1 h h1)(hs:∀ b∈fs,b∈fs')(hx:∀ b∈ex,b∈ex'):Un fs' ex' H H1 h h1:=
 ⟨fun b ob q n hb he=>u.keep b ob q n (fun z=>hb (hs b z)) fun z=>he (hx b z),fun _ _ q n _ he=>u.any q n fun z=>he (hx _ z),fun b ob q n he=>u.free b ob q n fun z=>he (hx b z),fun b ob q he=>u.there b ob q fun z=>he (hx b z),u.tups,u.qL,u.sG⟩
end
def trk(h:Heap)(H:Hp):List Addr:=(List.range h.objs.size).filter fun a=>(H a).isSome
def Ji(h:Heap)(H:Hp):Heap:=PySem.W.hideAll h (trk h H)
theorem Ug(h:Heap)(H:Hp):(Ji h H).objs.size=h.objs.size:=PySem.W.hideAll_size _ _
theorem Wf{h:Heap}{H:Hp}{b:Addr}{o:Obj}(e:h.get? b=some o)(n:H b=none):(Ji h H).get? b=some o:=
 Zw _ e fun hm=>by
  have q:(H b).isSome=true:=(cC.mp hm).2;rw[n] at q;simp at q
theorem a0C{h:Heap}{H:Hp}{b:Addr}{o:Obj}(e:(Ji h H).get? b=some o):h.get? b=some o/\H b=none:=by
 have e':h.get? b=some o:=ZF (trk h H) e;refine⟨e',?_⟩;cases q:H b with
 |none=>rfl
 |some x=>
  have hm:b∈trk h H:=cC.mpr ⟨fK.mpr (bM e'),by simp[q]⟩;have z:(Ji h H).get? b=none:=PySem.W.hideAll_none (trk h H) hm;rw[z] at e;cases e
structure Mod(K:ao)(mg:Str->Option Value)(base:Heap):Prop where
 kin:K.In base
 glob:base.Ns mainGlobals mg
 blt:∃ mb,base.Ns builtinsNs mb/\∀ x:Str,x ≠ "__name__" -> mb x=bootBuiltins x
 nolimit:base.NoLimit
structure Cx where
 prog:Program
 w:World
 K:ao
 mg:Str->Option Value
 base:Heap
 A:Around
 N:List Str
 s₀:Shared
 H₀:Hp
 env:Env
 outer:List Env
 stack:List Env
 ex:List Addr
 fn:Str->Bool
 calm:Bool
 pn:List (Addr×Obj)
 xe:Value->Shared->Prop
def frs(l:List Env):List Addr:=l.filterMap (·.frame)
abbrev Cx.fs(X:Cx):List Addr:=frs X.outer
def Vis(sc:Scope)(x:Str):Prop:=sc.names.lookup x=some .local\/sc.names.lookup x=some .cell\/sc.names.lookup x=some .free
def Loc(sc:Scope)(x:Str):Prop:=sc.names.lookup x=some .local\/sc.names.lookup x=some .cell
def Look(env:Env)(h:Heap)(m:Str->Option Value)(x:Str)(u:Value):Prop:=
 (env.kindOf x=some .local/\m x=some u)\/((env.kindOf x=some .cell\/env.kindOf x=some .free)/\∃ c,env.cells.lookup x=some c/\h.IsCell c (some u))
structure Cx.Ok(X:Cx):Prop where
 mod:Mod X.K X.mg X.base
 kind:X.env.scope.kind=.function
 glob:X.env.globals=mainGlobals
 blt:X.env.builtins=builtinsNs
 above:X.s₀.heap.objs.size<=X.env.locals
 inj:∀ x y c,X.env.cells.lookup x=some c->X.env.cells.lookup y=some c->x=y
 has:∀ x,(X.env.kindOf x=some .cell\/X.env.kindOf x=some .free)->∃ c,X.env.cells.lookup x=some c
 cab:∀ x c,X.fn x=true->X.env.cells.lookup x=some c->X.s₀.heap.objs.size<=c
 hd:X.calm=true->X.A.handled=none
 frames:X.A.frames=some X.stack
 stk:X.stack=X.outer\/(X.stack=X.env::X.outer/\X.env.frame=some X.env.locals)
 exf:∀ b∈X.ex,b≠X.env.locals/\∀ x c,X.env.cells.lookup x=some c->c≠b
 bs:∀ b o,X.base.get? b=some o->X.s₀.heap.get? b=some o/\X.H₀ b=none
 bsz:X.base.objs.size<=X.s₀.heap.objs.size
 Uv:∀ b o,X.base.get? b=some o->b∉X.ex
 W7:∀ b∈X.ex,b∉X.fs
 xu:X.s₀.heap.FunFrames X.base X.outer
 frf:∀ b∈X.fs,X.H₀ b=none
structure Inv(X:Cx)(pins:List (Addr×Obj))(zzs:List (Option V))(H:Hp)(s:Shared):Prop where
 ok:X.Ok
 os:s.os=X.s₀.os
 bare:AllBare s.gens
 base:Un X.fs X.ex X.H₀ H X.s₀.heap s.heap
 loc:∃ m,s.heap.Ns X.env.locals m/\∀(i:Nat)(x:Str)(v:V),X.N[i]?=some x->zzs[i]?=some (some v)->Vis X.env.scope x->∃ u,RelV v u/\Look X.env s.heap m x u
 cell:∀ x c,X.env.cells.lookup x=some c->∃ v,s.heap.IsCell c v
 free:H X.env.locals=none
 mO:∀ x c,X.env.cells.lookup x=some c->H c=none
 pin:∀ p∈X.pn++pins,s.heap.get? p.1=some p.2/\H p.1=none/\p.1≠X.env.locals/\p.1∉X.fs/\∀ v,p.2.data≠.cell v
 hok:HOk X.prog X.w H s.heap
 len:zzs.length=X.N.length
section
variable{X:Cx}{pins:List (Addr×Obj)}{zzs:List (Option V)}{H H':Hp}{s:Shared}{h':Heap}
theorem Cx.Ok.a6V(ok:X.Ok){b:Addr}{o:Obj}(e:X.base.get? b=some o):b∉X.fs:=fun hb=>by
 have:=(ok.xu.mem hb).1;rw[e] at this;cases this
theorem Inv.bs(I:Inv X pins zzs H s):∀ b o,X.base.get? b=some o->s.heap.get? b=some o/\H b=none:=fun b o e=>
 ⟨I.base.keep b o (I.ok.bs b o e).1 (I.ok.bs b o e).2 (I.ok.a6V e) (I.ok.Uv b o e),I.base.free b o (I.ok.bs b o e).1 (I.ok.bs b o e).2 (I.ok.Uv b o e)⟩
theorem Inv.bk(I:Inv X pins zzs H s):∀ b o,X.base.get? b=some o->s.heap.get? b=some o:=fun b o e=>(I.bs b o e).1
theorem Inv.mod(I:Inv X pins zzs H s):Mod X.K X.mg X.base:=I.ok.mod
theorem Inv.kIn(I:Inv X pins zzs H s):X.K.In s.heap:=I.ok.mod.kin.keeps I.bk
theorem Inv.lt(I:Inv X pins zzs H s):X.env.locals<s.heap.objs.size:=let ⟨_,hn,_⟩:=I.loc;hn.lt
theorem Inv.sz(I:Inv X pins zzs H s):X.s₀.heap.objs.size<=s.heap.objs.size:=cX I.ok.above (Ax I.lt)
theorem Inv.a6W(I:Inv X pins zzs H s){a:Addr}(h:s.heap.objs.size<=a):a∉X.fs:=fun hb=>by
 obtain⟨_,o,ho,_⟩:=I.ok.xu.mem hb;exact absurd (jj (bM ho) (cX I.sz h)) (oH _)
theorem Inv.cne(I:Inv X pins zzs H s):∀ x c,X.env.cells.lookup x=some c->c≠X.env.locals:=fun x c e z=>by
 obtain⟨v,o,ho,hd⟩:=I.cell x c e;obtain⟨m,⟨o',es,ep,ho',hd',_⟩,_⟩:=I.loc;rw[z,ho'] at ho;cases ho;rw[hd'] at hd;cases hd
theorem Inv.xu(I:Inv X pins zzs H s):s.heap.FunFrames X.base X.outer:=by
 have all:∀(l:List Env),(∀ b∈frs l,b∈X.fs)->X.s₀.heap.FunFrames X.base l->s.heap.FunFrames X.base l:=by
  intro l
  induction l with
  |nil=>intro _ _;trivial
  |cons env r ih=>
   intro hs hl;obtain⟨hk,⟨L,o,hf,hn,ho,hd⟩,hr⟩:=hl;have hL:L∈X.fs:=hs L (by unfold frs;rw[Qz,hf];exact dY);obtain⟨sl,e⟩:=I.base.slot L o ho (I.ok.frf L hL) hL fun z=>I.ok.W7 L z hL
   exact⟨hk,⟨L,_,hf,hn,e,hd⟩,ih (fun b hb=>hs b (by unfold frs;rw[Qz,hf];exact fU _ hb)) hr⟩
 exact all X.outer (fun _ hb=>hb) I.ok.xu
theorem Inv.stack(I:Inv X pins zzs H s):s.heap.FunFrames X.base X.stack:=by
 rcases I.ok.stk with e|⟨e,hf⟩
 ·rw[e];exact I.xu
 ·rw[e];obtain⟨m,hn,_⟩:=I.loc;refine .cons (by rw[I.ok.kind];decide) hf hn ?_ I.xu;exact Heap.get?_none_of_le (cX I.ok.bsz I.ok.above)
theorem Inv.wK(I:Inv X pins zzs H s):∀ b∈frs X.stack,b∈X.env.locals::X.fs:=fun b hb=>by
 rcases I.ok.stk with e|⟨e,hf⟩
 ·rw[e] at hb;exact fU _ hb
 ·rw[e] at hb;unfold frs at hb;rw[Qz,hf] at hb;exact hb
theorem Inv.yd(I:Inv X pins zzs H s):∀ b∈frs X.stack,H b=none:=fun b hb=>by
 rcases cW.mp (I.wK b hb) with e|hb
 ·rw[e];exact I.free
 ·obtain⟨_,o,ho,_⟩:=I.ok.xu.mem hb;exact I.base.free b o ho (I.ok.frf b hb) fun z=>I.ok.W7 b z hb
theorem Inv.step{g':Array GenState}{t':Nat}{d':Drawn}{ch:List Addr}(I:Inv X pins zzs H s)
  (hch:∀ b∈ch,(b∈X.ex\/X.s₀.heap.objs.size<=b)/\b≠X.env.locals/\(∀ x c,X.env.cells.lookup x=some c->c≠b)/\∀ p∈X.pn++pins,p.1≠b)
  (keep:∀ b o,b≠X.env.locals->b∉X.fs->b∉ch->s.heap.get? b=some o->H b=none->h'.get? b=some o)
  (slot:∀ b o,b≠X.env.locals->b∈X.fs->b∉ch->s.heap.get? b=some o->H b=none->∃ sl,h'.get? b=some { o with slots:=sl }) (free:∀ b o,b∉ch->s.heap.get? b=some o->H b=none->H' b=none)
  (there:∀ b o,b∉ch->s.heap.get? b=some o->∃ o',h'.get? b=some o')
  (tups:∀ b xs,H b=some (.tup xs)->H' b=some (.tup xs)) (qL:∀ b o u,H b=some (.frz o u)->H' b=some (.frz o u)) (sG:∀ b ps,H b=some (.tbl ps)->∃ more,H' b=some (.tbl (ps++more)))
  (ns:∀ m,s.heap.Ns X.env.locals m->h'.Ns X.env.locals m) (hok:HOk X.prog X.w H' h') (hg:AllBare g') :
  Inv X pins zzs H' { s with heap:=h',gens:=g',drawn:=d',toks:=t' }:=by
 have neL:∀ b o,X.s₀.heap.get? b=some o->b≠X.env.locals:=fun b o e=>dU (jj (bM e) I.ok.above)
 have neC:∀ b o,X.s₀.heap.get? b=some o->b∉X.ex->b∉ch:=fun b o e hx hb=>by
  rcases(hch b hb).1 with z|z
  ·exact hx z
  ·exact absurd (jj (bM e) z) (oH _)
 have cellK:∀ x c,X.env.cells.lookup x=some c->∀ v,s.heap.IsCell c v->h'.IsCell c v:=fun x c e v ⟨o,ho,hd⟩=>by
  have nch:c∉ch:=fun z=>(hch c z).2.2.1 x c e rfl
  by_cases hc:c∈X.fs
  ·obtain⟨sl,q⟩:=slot c o (I.cne x c e) hc nch ho (I.mO x c e);exact⟨_,q,hd⟩
  ·exact⟨o,keep c o (I.cne x c e) hc nch ho (I.mO x c e),hd⟩
 refine⟨I.ok,I.os,hg,⟨fun b o e n hb hx=>?_,fun b o e n hb hx=>?_,fun b o e n hx=>?_,fun b o e hx=>?_,fun b xs e=>tups b xs (I.base.tups b xs e),fun b o xs e=>qL b o xs (I.base.qL b o xs e),fun b ps e=>?_⟩,?_,fun x c e=>?_,?_,fun x c e=>?_,fun p hp=>?_,hok,I.len⟩
 ·exact keep b o (neL b o e) hb (neC b o e hx) (I.base.keep b o e n hb hx) (I.base.free b o e n hx)
 ·obtain⟨sl,e1⟩:=I.base.slot b o e n hb hx;obtain⟨sl',e2⟩:=slot b _ (neL b o e) hb (neC b o e hx) e1 (I.base.free b o e n hx);exact⟨sl',e2⟩
 ·obtain⟨o',e1⟩:=I.base.there b o e hx;exact free b o' (neC b o e hx) e1 (I.base.free b o e n hx)
 ·obtain⟨o',e1⟩:=I.base.there b o e hx;exact there b o' (neC b o e hx) e1
 ·obtain⟨m1,e1⟩:=I.base.sG b ps e;obtain⟨m2,e2⟩:=sG b _ e1;exact⟨m1++m2,by rw[e2,ZD]⟩
 ·obtain⟨m,hn,hl⟩:=I.loc;refine⟨m,ns m hn,fun i x v e1 e2 e3=>?_⟩;obtain⟨u,r,l⟩:=hl i x v e1 e2 e3;refine⟨u,r,?_⟩;rcases l with l|⟨k,c,e,z⟩
  ·exact .inl l
  ·exact .inr ⟨k,c,e,cellK x c e _ z⟩
 ·obtain⟨v,z⟩:=I.cell x c e;exact⟨v,cellK x c e v z⟩
 ·obtain⟨m,⟨o,_,_,ho,_⟩,_⟩:=I.loc;exact free _ o (fun z=>(hch _ z).2.1 rfl) ho I.free
 ·obtain⟨v,o,ho,hd⟩:=I.cell x c e;exact free c o (fun z=>(hch c z).2.2.1 x c e rfl) ho (I.mO x c e)
 ·obtain⟨e,n,ne,nf,d⟩:=I.pin p hp;have nch:p.1∉ch:=fun z=>(hch p.1 z).2.2.2 p hp rfl
  exact⟨keep p.1 p.2 ne nf nch e n,free p.1 p.2 nch e n,ne,nf,d⟩
theorem Inv.un{t':Nat}(I:Inv X pins zzs H s)(u:Un X.fs [] H H' s.heap h')(hok:HOk X.prog X.w H' h'):Inv X pins zzs H' { s with heap:=h',toks:=t' }:=by
 obtain⟨m,⟨o,es,ep,ho,r⟩,_⟩:=id I.loc;obtain⟨sl,hL⟩:=u.any ho I.free (by simp);exact I.step (g':=s.gens) (d':=s.drawn) (ch:=[]) (fun _ z=>nomatch z) (fun b o _ hb _ e n=>u.keep b o e n hb (by simp)) (fun b o _ hb _ e n=>u.slot b o e n hb (by simp)) (fun b o _ e n=>u.free b o e n (by simp)) (fun b o _ e=>u.there b o e (by simp)) u.tups u.qL u.sG (fun m' hm=>by
  obtain⟨o',es',ep',ho',r'⟩:=hm;rw[ho] at ho';cases ho';exact⟨_,es',ep',hL,r'⟩) hok I.bare
theorem Inv.call{g':Array GenState}{t':Nat}{d':Drawn}{ch:List Addr}(I:Inv X pins zzs H s)(u:Un (frs X.stack) ch H H' s.heap h')(hok:HOk X.prog X.w H' h')(hg:AllBare g')
  (hch:∀ b∈ch,(b∈X.ex\/X.s₀.heap.objs.size<=b)/\b≠X.env.locals/\(∀ x c,X.env.cells.lookup x=some c->c≠b)/\∀ p∈X.pn++pins,p.1≠b) :
  Inv X pins zzs H' { s with heap:=h',gens:=g',drawn:=d',toks:=t' }:=by
 obtain⟨m,⟨o,es,ep,ho,r⟩,_⟩:=id I.loc;obtain⟨sl,hL⟩:=u.any ho I.free fun z=>(hch _ z).2.1 rfl
 exact I.step (ch:=ch) hch (fun b o hL hb hc e n=>u.keep b o e n (fun z=>(cW.mp (I.wK b z)).elim hL hb) hc) (fun b o _ _ hc e n=>u.any e n hc) (fun b o hc e n=>u.free b o e n hc) (fun b o hc e=>u.there b o e hc) u.tups u.qL u.sG (fun m' hm=>by
  obtain⟨o',es',ep',ho',r'⟩:=hm;rw[ho] at ho';cases ho';exact⟨_,es',ep',hL,r'⟩) hok hg
theorem Inv.turned{t':Nat}{it:Addr}(I:Inv X pins zzs H s)(k:∀ b o,b≠it->s.heap.get? b=some o->h'.get? b=some o)(hn:H it=none)(hL:it≠X.env.locals)
  (h1:it∈X.ex\/X.s₀.heap.objs.size<=it) (h2:∀ x c,X.env.cells.lookup x=some c->c≠it) (h3:∀ p∈X.pn++pins,p.1≠it):Inv X pins zzs H { s with heap:=h',toks:=t' }:=by
 have nit:∀ b u,H b=some u->b≠it:=fun b u e z=>by rw[z,hn] at e;cases e
 refine I.step (g':=s.gens) (d':=s.drawn) (ch:=[it]) (fun b hb=>?_) (fun b o _ _ hc e _=>k b o (fun z=>hc (by simp[z])) e) (fun b o _ _ hc e _=>⟨o.slots,k b o (fun z=>hc (by simp[z])) e⟩) (fun _ _ _ _ n=>n)
  (fun b o hc e=>⟨o,k b o (fun z=>hc (by simp[z])) e⟩) (fun _ _ e=>e) (fun _ _ _ e=>e) (fun b ps e=>⟨#[],by rw[e];simp⟩) (fun m hm=>?_) (fun b u e=>?_) I.bare
 ·have e:b=it:=by simpa using hb
  subst e;exact⟨h1,hL,h2,h3⟩
 ·obtain⟨o,es,ep,ho,r⟩:=hm;exact⟨o,es,ep,k _ o (j5 hL) ho,r⟩
 ·refine(I.hok b u e).stay (fun c v hc q=>k c v ?_ q) (fun _ q=>q) fun _ _ q=>q
  rcases hc with z|z
  ·rw[z];exact nit b u e
  ·exact nit c _ z
theorem Inv.tok(I:Inv X pins zzs H s)(t:Nat):Inv X pins zzs H { s with toks:=t }:=I.un (h':=s.heap) (t':=t) Un.refl I.hok
theorem Inv.kept{t':Nat}(I:Inv X pins zzs H s)(k:∀ b u,s.heap.get? b=some u->h'.get? b=some u):Inv X pins zzs H { s with heap:=h',toks:=t' }:=I.un (Un.kept k) (I.hok.kept k)
theorem Inv.laid{a:Addr}{o:HO}{t':Nat}(I:Inv X pins zzs H s)(k:∀ b u,s.heap.get? b=some u->h'.get? b=some u)(hp:s.heap.objs.size<=a)(new:fQ X.prog X.w (upd H a o) h' a o) :
  Inv X pins zzs (upd H a o) { s with heap:=h',toks:=t' }:=I.un (Un.laid k hp (I.hok.fresh hp)) (I.hok.laid k hp new)
theorem Inv.write{x e:Addr}{o:HO}{t':Nat}(I:Inv X pins zzs H s)(mu:Mut (H x))(he:e=x\/H e=some (.own x))(k:∀ b u,b≠e->s.heap.get? b=some u->h'.get? b=some u)(heo:∃ u,h'.get? e=some u)
  (new:fQ X.prog X.w (upd H x o) h' x o):Inv X pins zzs (upd H x o) { s with heap:=h',toks:=t' }:=I.un (Un.write mu he k heo) (I.hok.write mu he k heo new)
theorem Inv.xP{a2j:List (Addr×Obj)}(I:Inv X pins zzs H s)(h:∀ p∈a2j,s.heap.get? p.1=some p.2/\H p.1=none/\p.1≠X.env.locals/\p.1∉X.fs/\∀ v,p.2.data≠.cell v):Inv X a2j zzs H s:=
 ⟨I.ok,I.os,I.bare,I.base,I.loc,I.cell,I.free,I.mO,fun p hp=>(cR.mp hp).elim (fun z=>I.pin p (jE _ z)) (h p),I.hok,I.len⟩
theorem Mq{N:List Str}(hN:N.Nodup){i j:Nat}{x:Str}(a:N[i]?=some x)(b:N[j]?=some x):i=j:=by
 obtain⟨h1,e1⟩:=gM.mp a;obtain⟨h2,e2⟩:=gM.mp b;exact(List.getElem_inj hN).mp (e1.trans e2.symm)
theorem I8{M:Model}{A:Around}{E:Value->Shared->Prop}{i:Nat}{x:Str}{v:V}{u:Value}{Q:Unit->Shared->Prop}(I:Inv X pins zzs H s)(hN:X.N.Nodup)(hi:X.N[i]?=some x)(hx:Loc X.env.scope x)(r:RelV v u)
  (h:∀ s',Inv X pins (zzs.set i (some v)) H s'->(∃ a,Heap.SameBut a s.heap s'.heap/\(a=X.env.locals\/X.env.cells.lookup x=some a))->Q () s') (hf:X.fn x=true\/X.env.scope.names.lookup x=some .local:=by first|exact .inl rfl|exact .inr rfl|assumption):wpAny M A (storeName X.env x u) Q E s:=by
 obtain⟨m,hn,hl⟩:=id I.loc;have hcls:(X.env.scope.kind==.class||(X.env.scope.kind==.module&&X.env.locals != X.env.globals))=false:=by rw[I.ok.kind];rfl
 have a2d:i<zzs.length:=by rw[I.len];exact(gM.mp hi).1
 have cne:=I.cne;have tracked:∀ {a:Addr} {h':Heap},(∃ o,s.heap.get? a=some o/\H a=none)->Heap.SameBut a s.heap h'->HOk X.prog X.w H h':=fun {a h'} ha hs b ob e=>by
  obtain⟨_,_,hfree⟩:=ha;refine(I.hok b ob e).stay (fun c w' hc q=>(hs.2 c ?_).trans q) (fun _ q=>q) fun _ _ q=>q
  rintro rfl;rcases hc with rfl|hc
  ·rw[hfree] at e;cases e
  ·rw[hfree] at hc;cases hc
 rcases hx with hk|hk
 ·refine wpAny_storeName_local hk hn (fun h' hn' hs=>?_) hcls;obtain⟨oL,_,_,hoL,_⟩:=id hn;refine h _ ⟨I.ok,I.os,I.bare,⟨fun b o e n hb hx=>?_,fun b o e n hb hx=>?_,I.base.free,fun b o e hx=>?_,I.base.tups,I.base.qL,I.base.sG⟩,⟨_,hn',fun j y v' e1 e2 e3=>?_⟩,fun y c e=>?_,I.free,I.mO,fun p hp=>?_,tracked ⟨oL,hoL,I.free⟩ hs,by simpa using I.len⟩ ⟨_,hs,.inl rfl⟩
  ·exact(hs.2 b (dU (jj (bM e) I.ok.above))).trans (I.base.keep b o e n hb hx)
  ·obtain⟨sl,e1⟩:=I.base.slot b o e n hb hx;exact⟨sl,(hs.2 b (dU (jj (bM e) I.ok.above))).trans e1⟩
  ·obtain⟨o',e1⟩:=I.base.there b o e hx;exact⟨o',(hs.2 b (dU (jj (bM e) I.ok.above))).trans e1⟩
  ·by_cases hj:j=i
   ·subst hj;rw[hi] at e1;cases e1;rw[Qp a2d] at e2;cases e2;exact⟨u,r,.inl ⟨hk,by simp⟩⟩
   ·rw[Zt (j5 hj)] at e2;obtain⟨u',r',q⟩:=hl j y v' e1 e2 e3;refine⟨u',r',?_⟩;rcases q with⟨k,e⟩|⟨k,c,e,z⟩
    ·refine .inl ⟨k,?_⟩;have:y≠x:=fun e=>hj (Mq hN e1 (e▸hi))
     simp[this,e]
    ·exact .inr ⟨k,c,e,z.sameBut hs (cne y c e)⟩
  ·obtain⟨w',z⟩:=I.cell y c e;exact⟨w',z.sameBut hs (cne y c e)⟩
  ·obtain⟨e,n,ne,nf,d⟩:=I.pin p hp;exact⟨(hs.2 p.1 ne).trans e,n,ne,nf,d⟩
 ·have hfn:X.fn x=true:=by
   rcases hf with z|z
   ·exact z
   ·rw[z] at hk;cases hk
  obtain⟨c,hc⟩:=I.ok.has x (.inl hk);obtain⟨w',z⟩:=I.cell x c hc;refine wpAny_storeName_cell I.ok.kind hk hc z (fun h' hc' hs=>?_);obtain⟨oc,hoc,a6K⟩:=id z;refine h { s with heap:=h' } ⟨I.ok,I.os,I.bare,⟨fun b o e n hb hx=>?_,fun b o e n hb hx=>?_,I.base.free,fun b o e hx=>?_,I.base.tups,I.base.qL,I.base.sG⟩,⟨m,hn.sameBut hs (j5 (cne x c hc)),fun j y v' e1 e2 e3=>?_⟩,fun y c' e=>?_,I.free,I.mO,fun p hp=>?_,tracked ⟨oc,hoc,I.mO x c hc⟩ hs,by simpa using I.len⟩ ⟨c,hs,.inr hc⟩
  ·exact(hs.2 b (dU (jj (bM e) (I.ok.cab x c hfn hc)))).trans (I.base.keep b o e n hb hx)
  ·obtain⟨sl,e1⟩:=I.base.slot b o e n hb hx;exact⟨sl,(hs.2 b (dU (jj (bM e) (I.ok.cab x c hfn hc)))).trans e1⟩
  ·obtain⟨o',e1⟩:=I.base.there b o e hx;exact⟨o',(hs.2 b (dU (jj (bM e) (I.ok.cab x c hfn hc)))).trans e1⟩
  ·by_cases hj:j=i
   ·subst hj;rw[hi] at e1;cases e1;rw[Qp a2d] at e2;cases e2;exact⟨u,r,.inr ⟨.inl hk,c,hc,hc'⟩⟩
   ·rw[Zt (j5 hj)] at e2;obtain⟨u',r',q⟩:=hl j y v' e1 e2 e3;refine⟨u',r',?_⟩;rcases q with q|⟨k,c',e,z'⟩
    ·exact .inl q
    ·refine .inr ⟨k,c',e,z'.sameBut hs ?_⟩;rintro rfl;exact hj (Mq hN e1 (I.ok.inj _ _ _ e hc▸hi))
  ·by_cases hcc:c'=c
   ·subst hcc;exact⟨_,hc'⟩
   ·obtain⟨w2,z2⟩:=I.cell y c' e;exact⟨w2,z2.sameBut hs hcc⟩
  ·obtain⟨e,n,ne,nf,d⟩:=I.pin p hp;refine⟨(hs.2 p.1 ?_).trans e,n,ne,nf,d⟩;intro q;rw[q,hoc] at e;have q':oc=p.2:=iu e;exact d w' (by rw[<- q'];exact a6K)
theorem qe{M:Model}{A:Around}{E:Value->Shared->Prop}{i:Nat}{x:Str}{v:V}{u:Value}{Q:Unit->Shared->Prop}(I:Inv X pins zzs H s)(hN:X.N.Nodup)(hi:X.N[i]?=some x)(hx:Loc X.env.scope x)(r:RelV v u)
  (h:∀ s',Inv X pins (zzs.set i (some v)) H s'->Q () s') (hf:X.fn x=true\/X.env.scope.names.lookup x=some .local:=by first|exact .inl rfl|exact .inr rfl|assumption):wpAny M A (storeName X.env x u) Q E s:=
 I8 I hN hi hx r (fun s' I' _=>h s' I') hf
theorem Inv.call'{s':Shared}{ch:List Addr}(I:Inv X pins zzs H s)(ho:s'.os=s.os)(u:Un (frs X.stack) ch H H' s.heap s'.heap)(hok:HOk X.prog X.w H' s'.heap)(hg:AllBare s'.gens)
  (hch:∀ b∈ch,(b∈X.ex\/X.s₀.heap.objs.size<=b)/\b≠X.env.locals/\(∀ x c,X.env.cells.lookup x=some c->c≠b)/\∀ p∈X.pn++pins,p.1≠b):Inv X pins zzs H' s':=by
 obtain⟨h',g',d',t',o'⟩:=s';have e:o'=s.os:=ho;subst e;exact I.call (g':=g') (t':=t') (d':=d') u hok hg hch
end
abbrev XK:=Value->Option Addr->Hp->Prop
abbrev St:=List (Option V)
abbrev VK:=V->Hp->Prop
abbrev TE:=St->Hp->VK->Prop
abbrev TT:=St->Hp->(Bool->Hp->Prop)->Prop
abbrev TA:=St->Hp->(List V->Hp->Prop)->Prop
structure Ends where
 nx:St->Hp->Prop
 rt:VK
 bk:St->Hp->Prop:=fun _ _=>False
 ct:St->Hp->Prop:=fun _ _=>False
abbrev TS:=Ends->St->Hp->Prop
def EP(X:Cx)(pins:List (Addr×Obj))(zzs:St)(Q:VK)(u:Value)(s':Shared):Prop:=∃ v H',Inv X pins zzs H' s'/\RelV v u/\Q v H'
def TP(X:Cx)(pins:List (Addr×Obj))(zzs:St)(Q:Bool->Hp->Prop)(b:Bool)(s':Shared):Prop:=∃ H',Inv X pins zzs H' s'/\Q b H'
def AP(X:Cx)(pins:List (Addr×Obj))(zzs:St)(Q:List V->Hp->Prop)(us:List Value)(s':Shared):Prop:=∃ vs H',Inv X pins zzs H' s'/\Vals vs us/\Q vs H'
def SP(X:Cx)(pins:List (Addr×Obj))(D:Ends)(f:Flow)(s':Shared):Prop:=
 match f with
 |.next=>∃ bT H',Inv X pins bT H' s'/\D.nx bT H'
 |.brk=>∃ bT H',Inv X pins bT H' s'/\D.bk bT H'
 |.cont=>∃ bT H',Inv X pins bT H' s'/\D.ct bT H'
 |.ret u=>∃ v bT H',Inv X pins bT H' s'/\RelV v u/\D.rt v H'
def PE(X:Cx)(e:Expr)(t:TE):Prop:=
 ∀(pins:List (Addr×Obj))(s:Shared)(zzs:St)(H:Hp)(Q:VK),Inv X pins zzs H s->t zzs H Q->wpAny (model X.prog X.w) X.A (eval e X.env) (EP X pins zzs Q) X.xe s
def PT(X:Cx)(e:Expr)(t:TT):Prop:=
 ∀(pins:List (Addr×Obj))(s:Shared)(zzs:St)(H:Hp)(Q:Bool->Hp->Prop),Inv X pins zzs H s->t zzs H Q->wpAny (model X.prog X.w) X.A (isTrue e X.env (eval e X.env)) (TP X pins zzs Q) X.xe s
def PW(X:Cx)(e:Expr)(t:TT):Prop:=
 ∀(whole:Sem Value)(pins:List (Addr×Obj))(s:Shared)(zzs:St)(H:Hp)(Q:Bool->Hp->Prop),Inv X pins zzs H s->t zzs H Q->wpAny (model X.prog X.w) X.A (isTrue e X.env whole) (TP X pins zzs Q) X.xe s
theorem PW.pt{X:Cx}{e:Expr}{t:TT}(h:PW X e t):PT X e t:=h _
def PA(X:Cx)(es:List Expr)(t:TA):Prop:=
 ∀(pos:Pos)(pins:List (Addr×Obj))(s:Shared)(zzs:St)(H:Hp)(Q:List V->Hp->Prop),Inv X pins zzs H s->t zzs H Q->wpAny (model X.prog X.w) X.A (spliced (backTo pos (starEach es X.env))) (AP X pins zzs Q) X.xe s
def PS(X:Cx)(st:Stmt)(t:TS):Prop:=
 ∀(pins:List (Addr×Obj))(s:Shared)(zzs:St)(H:Hp)(D:Ends),Inv X pins zzs H s->t D zzs H->wpAny (model X.prog X.w) X.A (exec st X.env) (SP X pins D) X.xe s
def PSs(X:Cx)(st:List Stmt)(t:TS):Prop:=
 ∀(pins:List (Addr×Obj))(s:Shared)(zzs:St)(H:Hp)(D:Ends),Inv X pins zzs H s->t D zzs H->wpAny (model X.prog X.w) X.A (execs st X.env) (SP X pins D) X.xe s
theorem thn{α:Type}{t:Sem α}{Q Q':α->Shared->Prop}{M:Model}{A:Around}{E:Value->Shared->Prop}{s:Shared}(h:wpAny M A t Q E s)(hQ:∀ a s,Q a s->Q' a s):wpAny M A t Q' E s:=j8 h hQ fun _ _ x=>x
section
variable{X:Cx}
def a6m(i:Nat):TE:=fun zzs H Q=>∃ v,zzs[i]?=some (some v)/\Q v H
def tC(v:V):TE:=fun _ H Q=>Q v H
theorem a4b{i:Nat}{x:Str}{pos:Pos}(hN:X.N[i]?=some x)(hv:Vis X.env.scope x) (hd:(x==("__debug__" : Str))=false:=by decide) (hcd:(x==("__classdict__" : Str))=false:=by decide):PE X (.Name x pos) (a6m i):=by
 intro pins s zzs H Q I h;obtain⟨v,e,h⟩:=h;obtain⟨m,hn,hl⟩:=I.loc;obtain⟨u,r,l⟩:=hl i x v hN e hv;have fin:EP X pins zzs Q u s:=⟨v,H,I,r,h⟩
 rcases l with⟨hk,hm⟩|⟨hk,c,hc,hcell⟩
 ·exact wpAny_Name (wpAny_loadName_local I.ok.kind hk hn hm fin) hd
 ·rcases hk with hk|hk
  ·exact wpAny_Name (wpAny_loadName_cell I.ok.kind hk hc hcell fin) hd
  ·exact wpAny_Name (wpAny_loadName_free I.ok.kind hk hc hcell fin hcd) hd
theorem a3U {i j pos}:PE X (.Constant (.int i) j pos) (tC (.int i)):=fun _ _ _ H _ I h=>wpAny_Constant_int ⟨.int i,H,I.tok _,⟨_,rfl⟩,h⟩
theorem a5C {b j pos}:PE X (.Constant (.bool b) j pos) (tC (.bl b)):=fun _ _ _ H _ I h=>Constant_bool ⟨.bl b,H,I,rfl,h⟩
theorem a3W {j pos}:PE X (.Constant .none j pos) (tC .non):=fun _ _ _ H _ I h=>Constant_none ⟨.non,H,I,rfl,h⟩
theorem a3Z {x j pos}:PE X (.Constant (.str x) j pos) (tC (.str x)):=fun _ _ _ H _ I h=>Calls.Constant_str ⟨.str x,H,I.tok _,⟨_,rfl⟩,h⟩
def Gl(X:Cx)(x:Str):Prop:=X.env.kindOf x=some .globalImplicit
theorem uW{E:Value->Shared->Prop}{pins:List (Addr×Obj)}{s:Shared}{zzs:St}{H:Hp}{x:Str}{u:Value}{pos:Pos}{Q:Value->Shared->Prop}(I:Inv X pins zzs H s)(hg:Gl X x)(hm:X.mg x=some u)(h:Q u s)
  (hd:(x==("__debug__" : Str))=false:=by decide):wpAny (model X.prog X.w) X.A (eval (.Name x pos) X.env) Q E s:=
 Z8 I.ok.kind hg (Calls.loadGlobal_global (by rw[I.ok.glob];exact I.mod.glob.keeps I.bk) hm h) hd
theorem wg{E:Value->Shared->Prop}{pins:List (Addr×Obj)}{s:Shared}{zzs:St}{H:Hp}{x:Str}{u:Value}{pos:Pos}{Q:Value->Shared->Prop}(I:Inv X pins zzs H s)(hg:Gl X x)(hm:X.mg x=none)(hv:bootBuiltins x=some u)(h:Q u s)
  (hn:x ≠ "__name__":=by decide) (hd:(x==("__debug__" : Str))=false:=by decide):wpAny (model X.prog X.w) X.A (eval (.Name x pos) X.env) Q E s:=by
 obtain⟨mb,h1,h2⟩:=I.mod.blt;exact Z8 I.ok.kind hg (Calls.loadGlobal_builtin (by rw[I.ok.glob];exact I.mod.glob.keeps I.bk) hm (by rw[I.ok.blt];exact h1.keeps I.bk) ((h2 x hn).trans hv) h) hd
theorem Jq{x:Str}{v:V}{u:Value}{pos:Pos}(hg:Gl X x)(hm:X.mg x=some u)(r:RelV v u) (hd:(x==("__debug__" : Str))=false:=by decide):PE X (.Name x pos) (tC v):=
 fun _ _ _ H _ I h=>uW I hg hm ⟨v,H,I,r,h⟩ hd
theorem a0R{x:Str}{v:V}{u:Value}{pos:Pos}(hg:Gl X x)(hm:X.mg x=none)(hv:bootBuiltins x=some u)(r:RelV v u) (hn:x ≠ "__name__":=by decide) (hd:(x==("__debug__" : Str))=false:=by decide):PE X (.Name x pos) (tC v):=
 fun _ _ _ H _ I h=>wg I hg hm hv ⟨v,H,I,r,h⟩ hn hd
variable{a b:Expr}{ta tb:TE}{pos:Pos}
def tB(t:TE):TT:=fun zzs H Q=>t zzs H fun x H1=>∃ c,x=.bl c/\Q c H1
theorem a4q{e:Expr}{t:TE}(h:PE X e t)(he:∀ whole,isTrue e X.env whole=(do let v <- whole;standAt e.pos;holding [v] (truthy v)):=by intro _;rfl):PT X e (tB t):=by
 intro pins s zzs H Q I hw;refine isTrue_plain (thn (h pins s zzs H _ I hw) fun v s1 zzy=>?_) (he _);obtain⟨x,H1,I1,r1,q1⟩:=zzy;obtain⟨d,rfl,q⟩:=q1;cases r1;exact vO ⟨H1,I1,q⟩
variable{tA tB':TT}{rest:List Expr}
def a6e(t u:TT):TT:=fun zzs H Q=>t zzs H fun c H1=>if c=true then u zzs H1 Q else Q false H1
def tOr(t u:TT):TT:=fun zzs H Q=>t zzs H fun c H1=>if c=true then Q true H1 else u zzs H1 Q
def a6i(t:TT):TT:=fun zzs H Q=>t zzs H fun c H1=>Q (!c) H1
theorem pw_and1(ha:PT X a tA):PW X (.BoolOp .And [a] pos) tA:=by
 intro wh pins s zzs H Q I h;refine isTrue_and (thn (ha pins s zzs H Q I h) fun c s1 e=>?_);cases c with
 |true=>exact isTrue_and_nil e
 |false=>exact e
theorem pw_or1(ha:PT X a tA):PW X (.BoolOp .Or [a] pos) tA:=by
 intro wh pins s zzs H Q I h;refine isTrue_or (thn (ha pins s zzs H Q I h) fun c s1 e=>?_);cases c with
 |false=>exact isTrue_or_nil e
 |true=>exact e
theorem pw_and(ha:PT X a tA)(hb:PW X (.BoolOp .And (b::rest) pos) tB'):PW X (.BoolOp .And (a::b::rest) pos) (a6e tA tB'):=by
 intro wh pins s zzs H Q I h;refine isTrue_and (thn (ha pins s zzs H _ I h) fun c s1 zzy=>?_);obtain⟨H1,I1,q1⟩:=zzy;cases c with
 |true=>exact hb wh pins s1 zzs H1 Q I1 q1
 |false=>exact⟨H1,I1,q1⟩
theorem pw_or(ha:PT X a tA)(hb:PW X (.BoolOp .Or (b::rest) pos) tB'):PW X (.BoolOp .Or (a::b::rest) pos) (tOr tA tB'):=by
 intro wh pins s zzs H Q I h;refine isTrue_or (thn (ha pins s zzs H _ I h) fun c s1 zzy=>?_);obtain⟨H1,I1,q1⟩:=zzy;cases c with
 |true=>exact⟨H1,I1,q1⟩
 |false=>exact hb wh pins s1 zzs H1 Q I1 q1
theorem a4p(ha:PT X a tA):PT X (.UnaryOp .Not a pos) (a6i tA):=by
 intro pins s zzs H Q I h;exact isTrue_not (ha pins s zzs H (fun c H1=>Q (!c) H1) I h)
def a2t(ta tb:TE):TE:=fun zzs H Q=>ta zzs H fun x H1=>∃ c,x=.bl c/\if c=true then tb zzs H1 Q else Q (.bl false) H1
def a2x(ta:TE):TE:=fun zzs H Q=>ta zzs H fun x H1=>∃ c,x=.bl c/\Q (.bl (!c)) H1
theorem a3Y {op} {t:TE} (h:PE X a t):PE X (.BoolOp op [a] pos) t:=fun pins s zzs H Q I hw=>BoolOp_one (h pins s zzs H Q I hw)
theorem a3Q(ha:PE X a ta)(hb:PE X (.BoolOp .And (b::rest) pos) tb):PE X (.BoolOp .And (a::b::rest) pos) (a2t ta tb):=by
 intro pins s zzs H Q I h;refine BoolOp_and (thn (ha pins s zzs H _ I h) fun v s1 zzy=>?_);obtain⟨x,H1,I1,r1,q1⟩:=zzy;obtain⟨c,rfl,q1⟩:=q1;cases r1;refine vO ?_;cases c with
 |true=>exact hb pins s1 zzs H1 Q I1 q1
 |false=>exact⟨.bl false,H1,I1,rfl,q1⟩
theorem a3X(ha:PE X a ta):PE X (.UnaryOp .Not a pos) (a2x ta):=by
 intro pins s zzs H Q I h;refine UnaryOp_ (thn (ha pins s zzs H _ I h) fun v s1 zzy=>?_);obtain⟨x,H1,I1,r1,q1⟩:=zzy;obtain⟨c,rfl,q1⟩:=q1;cases r1;exact not_of (vO ⟨.bl (!c),H1,I1,rfl,q1⟩)
end
def SqL(K:ao)(H:Hp)(a:Addr)(xs:List V):Prop:=
 Rd H a (.lst xs) \/
  ∃(o:Obj)(its:Array Value)(n:Nat),K.lookup a=some o/\o.cls=.type "list" /\ o.dict=none/\o.data=.seq its n/\its.size<=sizeLine/\Vals xs its.toList
def SqT(K:ao)(H:Hp)(a:Addr)(xs:List V):Prop:=
 Rd H a (.tup xs) \/
  ∃(o:Obj)(its:Array Value)(n:Nat),K.lookup a=some o/\o.cls=.type "tuple" /\ o.data=.seq its n/\its.size<=sizeLine/\Vals xs its.toList
def a6A:Value->Option V
 |.none=>some .non
 |.bool b=>some (.bl b)
 |.int i _=>some (.int i)
 |.str x _=>some (.str x)
 |.bytes b _=>some (.byt b)
 |.float b _=>some (.flt b)
 |.ref a=>some (.ref a)
 |.type n=>some (.ty n)
 |_=>none
theorem RelV.abs{x:V}{u:Value}(r:RelV x u):a6A u=some x:=by
 cases x with
 |non=>cases r;rfl
 |bl _=>cases r;rfl
 |int _=>obtain⟨t,rfl⟩:=r;rfl
 |str _=>obtain⟨t,rfl⟩:=r;rfl
 |byt _=>obtain⟨t,rfl⟩:=r;rfl
 |flt _=>obtain⟨t,rfl⟩:=r;rfl
 |ref _=>cases r;rfl
 |ty _=>cases r;rfl
theorem RelV.inj{x y:V}{u:Value}(r:RelV x u)(q:RelV y u):x=y:=iu (r.abs.symm.trans q.abs)
theorem Vals.inj:∀ {xs ys:List V} {us:List Value},Vals xs us->Vals ys us->xs=ys:=by
 intro xs ys us h
 induction h generalizing ys with
 |nil=>intro h;cases h;rfl
 |cons r _ ih=>intro h;cases h with|cons r' t'=>rw[r.inj r',ih t']
section
variable{X:Cx}{pins:List (Addr×Obj)}{zzs:St}{H:Hp}{s:Shared}{a:Addr}{xs ys:List V}
theorem SqL.of{K:ao}(h:H a=some (.lst xs)):SqL K H a xs:=.inl (.inl h)
theorem SqT.of{K:ao}(h:H a=some (.tup xs)):SqT K H a xs:=.inl (.inl h)
theorem Inv.list(I:Inv X pins zzs H s)(h:SqL X.K H a xs):∃ its:List Value,Vals xs its/\PlainL s.heap a its.toArray/\xs.length<=sizeLine:=by
 rcases h with h|⟨o,its,n,hk,hc,hd,hs,hz,r⟩
 ·obtain⟨z,its,n,r,e⟩:=h.ok I.hok;exact⟨its,r,⟨_,n,e,rfl,rfl,rfl⟩,z⟩
 ·refine⟨its.toList,r,⟨o,n,I.kIn a o hk,hc,hd,by simpa using hs⟩,?_⟩;have e:=r.length;simp only[eO] at e;lia
theorem Inv.tuple(I:Inv X pins zzs H s)(h:SqT X.K H a xs):∃ its:List Value,Vals xs its/\IsTup s.heap a its.toArray/\xs.length<=sizeLine:=by
 rcases h with h|⟨o,its,n,hk,hc,hs,hz,r⟩
 ·obtain⟨z,its,r,p⟩:=h.ok I.hok;exact⟨its,r,p,z⟩
 ·refine⟨its.toList,r,⟨o,I.kIn a o hk,hc,n,by simpa using hs⟩,?_⟩;have e:=r.length;simp only[eO] at e;lia
theorem Inv.DK(I:Inv X pins zzs H s)(h:SqL X.K H a xs)(h':SqL X.K H a ys):xs=ys:=by
 obtain⟨its,r,⟨o,n,e,_,_,d⟩,_⟩:=I.list h;obtain⟨its',r',⟨o',n',e',_,_,d'⟩,_⟩:=I.list h';rw[e] at e';cases e';rw[d] at d';injection d' with d1 _;have:its=its':=by simpa using congrArg Array.toList d1
 subst this;exact r.inj r'
theorem Inv.Vo(I:Inv X pins zzs H s)(h:SqT X.K H a xs)(h':SqT X.K H a ys):xs=ys:=by
 obtain⟨its,r,⟨o,e,_,n,d⟩,_⟩:=I.tuple h;obtain⟨its',r',⟨o',e',_,n',d'⟩,_⟩:=I.tuple h';rw[e] at e';cases e';rw[d] at d';injection d' with d1 _;have:its=its':=by simpa using congrArg Array.toList d1
 subst this;exact r.inj r'
end
abbrev Cx.wish(X:Cx)(E:Value->Shared->Prop):Cx:={ X with xe:=E }
abbrev Cx.nox(X:Cx):Cx:=X.wish fun _ _=>False
theorem Cx.Ok.wish{X:Cx}(ok:X.Ok)(E:Value->Shared->Prop):(X.wish E).Ok:=
 ⟨ok.mod,ok.kind,ok.glob,ok.blt,ok.above,ok.inj,ok.has,ok.cab,ok.hd,ok.frames,ok.stk,ok.exf,ok.bs,ok.bsz,ok.Uv,ok.W7,ok.xu,ok.frf⟩
theorem Cx.Ok.jR{X:Cx}{E:Value->Shared->Prop}(ok:(X.wish E).Ok):X.Ok:=
 ⟨ok.mod,ok.kind,ok.glob,ok.blt,ok.above,ok.inj,ok.has,ok.cab,ok.hd,ok.frames,ok.stk,ok.exf,ok.bs,ok.bsz,ok.Uv,ok.W7,ok.xu,ok.frf⟩
section
variable{X:Cx}{pins:List (Addr×Obj)}{zzs:St}{H:Hp}{s:Shared}{E:Value->Shared->Prop}
theorem Inv.wish(I:Inv X pins zzs H s)(E:Value->Shared->Prop):Inv (X.wish E) pins zzs H s:=⟨I.ok.wish E,I.os,I.bare,I.base,I.loc,I.cell,I.free,I.mO,I.pin,I.hok,I.len⟩
theorem Inv.jR(I:Inv (X.wish E) pins zzs H s):Inv X pins zzs H s:=⟨I.ok.jR,I.os,I.bare,I.base,I.loc,I.cell,I.free,I.mO,I.pin,I.hok,I.len⟩
theorem SP.jR{D:Ends}{f:Flow}{s':Shared}(h:SP (X.wish E) pins D f s'):SP X pins D f s':=by
 cases f with
 |next=>obtain⟨bT,H',I,q⟩:=h;exact⟨bT,H',I.jR,q⟩
 |brk=>obtain⟨bT,H',I,q⟩:=h;exact⟨bT,H',I.jR,q⟩
 |cont=>obtain⟨bT,H',I,q⟩:=h;exact⟨bT,H',I.jR,q⟩
 |ret u=>obtain⟨v,bT,H',I,r,q⟩:=h;exact⟨v,bT,H',I.jR,r,q⟩
theorem PT.nox{e:Expr}{t:TT}(h:PT X.nox e t):PT X e t:=fun pins s zzs H Q I hw=>
 j8 (h pins s zzs H Q (I.wish _) hw) (fun _ _ ⟨H',I',q⟩=>⟨H',I'.jR,q⟩) fun _ _ z=>False.elim z
theorem PSs.nox{st:List Stmt}{t:TS}(h:PSs X.nox st t):PSs X st t:=fun pins s zzs H D I hw=>
 j8 (h pins s zzs H D (I.wish _) hw) (fun _ _ q=>q.jR) fun _ _ z=>False.elim z
end
section
variable{X:Cx}{st:Stmt}{rest:List Stmt}{t u:TS}{e:Expr}{te:TE}{pos:Pos}
def a2w:TS:=fun D zzs H=>D.nx zzs H
def a4K(t u:TS):TS:=fun D zzs H=>t { D with nx:=u D } zzs H
theorem a1m:PSs X [] a2w:=fun _ _ zzs H _ I h=>Ai ⟨zzs,H,I,h⟩
theorem Xn(h1:PS X st t)(h2:PSs X rest u):PSs X (st::rest) (a4K t u):=by
 intro pins s zzs H D I h;refine K7 (thn (h1 pins s zzs H { D with nx:=u D } I h) fun f s1 q=>?_);cases f with
 |next=>
  obtain⟨bT,H',I',q⟩:=q;exact h2 pins s1 bT H' D I' q
 |ret v=>exact q
 |brk=>exact q
 |cont=>exact q
theorem a1n(h1:PS X st t):PSs X [st] t:=by
 intro pins s zzs H D I h;refine K7 (thn (h1 pins s zzs H D I h) fun f s1 q=>?_);cases f with
 |next=>exact Ai q
 |ret v=>exact q
 |brk=>exact q
 |cont=>exact q
theorem Inv.quiet{pins:List (Addr×Obj)}{zzs:St}{H:Hp}{s:Shared}(I:Inv X pins zzs H s):interactive X.env=false:=by simp[interactive,I.ok.kind]
def a2v(te:TE):TS:=fun D zzs H=>te zzs H fun _ H1=>D.nx zzs H1
theorem a1l(he:PE X e te)(hs:swapsWith e none pos.line X.env=pure false:=by rfl):PS X (.Expr e pos) (a2v te):=by
 intro pins s zzs H D I h;exact wpAny_Expr_any (thn (he pins s zzs H _ I h) fun v s1 ⟨x,H1,I1,r1,q1⟩=>⟨zzs,H1,I1,q1⟩) I.quiet hs
def a6k(te:TE):TS:=fun D zzs H=>te zzs H D.rt
theorem a4l(he:PE X e te):PS X (.Return (some e) pos) (a6k te):=by
 intro pins s zzs H D I h;exact wpAny_Return_some (thn (he pins s zzs H _ I h) fun v s1 ⟨x,H1,I1,r1,q1⟩=>⟨x,zzs,H1,I1,r1,q1⟩)
def a6f(c:TT)(t u:TS):TS:=fun D zzs H=>c zzs H fun b H1=>if b=true then t D zzs H1 else u D zzs H1
theorem a5L{c:Expr}{a b:List Stmt}{tc:TT}(hc:PT X c tc)(ha:PSs X a t)(hb:PSs X b u):PS X (.If c a b pos) (a6f tc t u):=by
 intro pins s zzs H D I h;refine wpAny_If (thn (hc pins s zzs H _ I h) fun d s1 zzy=>?_);obtain⟨H1,I1,q1⟩:=zzy;cases d with
 |true=>exact ha pins s1 zzs H1 D I1 q1
 |false=>exact hb pins s1 zzs H1 D I1 q1
end
abbrev TG:=V->St->Hp->(St->Hp->Prop)->Prop
abbrev TGs:=List V->St->Hp->(St->Hp->Prop)->Prop
def PG(X:Cx)(target:Expr)(t:TG):Prop:=
 ∀(pins:List (Addr×Obj))(s:Shared)(zzs:St)(H:Hp)(v:V)(u:Value)(Q:St->Hp->Prop),Inv X pins zzs H s->RelV v u->t v zzs H Q ->
  wpAny (model X.prog X.w) X.A (assign target X.env u) (fun _ s'=>∃ bT H',Inv X pins bT H' s'/\Q bT H') X.xe s
def PGs(X:Cx)(ts:List Expr)(t:TGs):Prop:=
 ∀(pins:List (Addr×Obj))(s:Shared)(zzs:St)(H:Hp)(vs:List V)(us:List Value)(Q:St->Hp->Prop),Inv X pins zzs H s->Vals vs us->t vs zzs H Q ->
  wpAny (model X.prog X.w) X.A (assignInOrder ((assignEach ts X.env).map (·.2)) us) (fun _ s'=>∃ bT H',Inv X pins bT H' s'/\Q bT H') X.xe s
abbrev ZW:=V->V->V->Hp->(Hp->Prop)->Prop
def ZS(X:Cx)(t:ZW):Prop:=
 ∀(pins:List (Addr×Obj))(s:Shared)(zzs:St)(H:Hp)(o i v:V)(ov iv u:Value)(Q:Hp->Prop),Inv X pins zzs H s->RelV o ov->RelV i iv->RelV v u->t o i v H Q ->
  wpAny (model X.prog X.w) X.A (setItem ov iv u) (fun _ s'=>∃ H',Inv X pins zzs H' s'/\Q H') X.xe s
section
variable{X:Cx}{pos:Pos}
def Hr(i:Nat):TG:=fun v zzs H Q=>Q (zzs.set i (some v)) H
theorem a0Z{i:Nat}{x:Str}(hN:X.N.Nodup)(hi:X.N[i]?=some x)(hx:Loc X.env.scope x)(hf:X.fn x=true\/X.env.scope.names.lookup x=some .local:=by first|exact .inl rfl|exact .inr rfl|assumption):PG X (.Name x pos) (Hr i):=by
 intro pins s zzs H v u Q I r h;exact QG (qe I hN hi hx r (fun s' I'=>⟨_,H,I',h⟩) hf)
def a2Z:TGs:=fun vs zzs H Q=>vs=[]/\Q zzs H
def RL(t:TG)(u:TGs):TGs:=fun vs zzs H Q=>∃ v r,vs=v::r/\t v zzs H fun bT H'=>u r bT H' Q
theorem a1a:PGs X [] a2Z:=by
 intro pins s zzs H vs us Q I r h;obtain⟨e,h⟩:=h;subst e;cases r;exact assignInOrder_nil ⟨zzs,H,I,h⟩
theorem Xh{e:Expr}{es:List Expr}{t:TG}{u:TGs}(h1:PG X e t)(h2:PGs X es u)
  (hs:(assignEach (e::es) X.env).map (·.2)=assign e X.env::(assignEach es X.env).map (·.2):=by rfl):PGs X (e::es) (RL t u):=by
 intro pins s zzs H vs us Q I r h;obtain⟨v,vr,e1,h⟩:=h;subst e1;cases r with
 |cons r rr=>
  rw[hs];refine QC (thn (h1 pins s zzs H _ _ _ I r h) fun _ s1 zzy=>?_);obtain⟨Vt,H1,I1,q1⟩:=zzy;exact h2 pins s1 Vt H1 _ _ Q I1 rr q1
def a3a(K:ao)(n:Nat)(t:TGs):TG:=fun v zzs H Q=>∃ a xs,v=.ref a/\SqT K H a xs/\xs.length=n/\t xs zzs H Q
theorem a4d{es:List Expr}{k:Nat}{t:TGs}{n:Nat}(hc:X.calm=true)(h:PGs X es t)
  (hn:(assignEach es X.env).length=n:=by rfl) (hst:(assignEach es X.env).findIdx? (·.1)=none:=by rfl):PG X (.Tuple es k pos) (a3a X.K n t):=by
 intro pins s zzs H v u Q I r hw;obtain⟨a,xs,e1,hq,hl,hw⟩:=hw;subst e1;cases r;obtain⟨its,rv,ht,hz⟩:=I.tuple hq;refine assign_Tuple_tuple (I.ok.hd hc) ht (by simp[hn,<- hl,rv.length]) hst fun h' hx=>?_
 have I1:Inv X pins zzs H { s with heap:=h' }:=I.kept (t':=s.toks) fun b o e=>hx b o (dU (bM e)) e
 exact h pins _ zzs H xs _ Q I1 (by simpa using rv) hw
def a5m(to ti:TE)(t:ZW):TG:=fun v zzs H Q=>to zzs H fun o H1=>ti zzs H1 fun i H2=>t o i v H2 fun H3=>Q zzs H3
theorem a4c{o i:Expr}{to ti:TE}{t:ZW}(ho:PE X o to)(hi:PE X i ti)(hs:ZS X t)
  (ha:∀ v,assign (.Subscript o i pos) X.env v=(do
   let ov <- holding [v] (eval o X.env)
   let iv <- holding [v,ov] (eval i X.env)
   standAt pos
   holding [v,ov,iv] (setItem ov iv v)
   release [v,ov,iv] []):=by intro _;rfl):PG X (.Subscript o i pos) (a5m to ti t):=by
 intro pins s zzs H v u Q I r h;rw[ha];refine aP (qt (thn (ho pins s zzs H _ I h) fun ov s1 zzy=>?_));obtain⟨x,H1,I1,r1,q1⟩:=zzy;refine aP (qt (thn (hi pins s1 zzs H1 _ I1 q1) fun iv s2 zzy=>?_));obtain⟨y,H2,I2,r2,q2⟩:=zzy;refine aP (Fz (aP (qt (thn (hs pins s2 zzs H2 x y v ov iv u _ I2 r1 r2 r q2) fun _ s3 zzy=>?_))));obtain⟨H3,I3,q3⟩:=zzy;exact wpAny_release ⟨zzs,H3,I3,q3⟩
def a1R(te:TE)(g:TG):TS:=fun D zzs H=>te zzs H fun x H1=>g x zzs H1 D.nx
theorem a4h{tg e:Expr}{te:TE}{g:TG}(he:PE X e te)(hg:PG X tg g)(hs:swapsWithSole [tg] e pos.line X.env=pure false:=by rfl)(hw:swappedStores [tg] e X.env=pure none:=by rfl)
  (h1:(assignEach [tg] X.env).map (·.2)=[assign tg X.env]:=by rfl):PS X (.Assign [tg] e pos) (a1R te g):=by
 intro pins s zzs H D I h;refine wpAny_Assign_stores (thn (he pins s zzs H _ I h) fun v s1 zzy=>?_) hs hw;obtain⟨x,H1,I1,r1,q1⟩:=zzy;rw[h1];exact thn (hg pins s1 zzs H1 x v _ I1 r1 q1) fun _ s2 q=>q
theorem a4m{i:Nat}{x:Str}{e:Expr}{te:TE}{pos':Pos}(hN:X.N.Nodup)(hi:X.N[i]?=some x)(hx:Loc X.env.scope x)(he:PE X e te)(hs:swapsWith e (some (.Name x pos')) pos.line X.env=pure false:=by rfl)(hf:X.fn x=true\/X.env.scope.names.lookup x=some .local:=by first|exact .inl rfl|exact .inr rfl|assumption) :
  PS X (.Assign [.Name x pos'] e pos) (a1R te (Hr i)):=by
 intro pins s zzs H D I h;refine wpAny_Assign_Name (thn (he pins s zzs H _ I h) fun v s1 zzy=>?_) hs;obtain⟨y,H1,I1,r1,q1⟩:=zzy;exact qe I1 hN hi hx r1 (fun s2 I2=>⟨_,H1,I2,q1⟩) hf
def a6j(i j:Nat)(ta:TA):TS:=fun D zzs H=>ta zzs H fun vs H1=>∃ v w,vs=[v,w]/\D.nx ((zzs.set i (some v)).set j (some w)) H1
theorem a4k{i j:Nat}{x y:Str}{a b:Expr}{ta:TA}{px py pt:Pos} {kt k2 pt2} (hc:X.calm=true) (hN:X.N.Nodup) (hi:X.N[i]?=some x) (hj:X.N[j]?=some y) (hij:i≠j)
  (hx:X.env.scope.names.lookup x=some .local) (hy:X.env.scope.names.lookup y=some .local) (ha:PA X [a,b] ta)
  (hw:swappedStores [.Tuple [.Name x px,.Name y py] kt pt] (.Tuple [a,b] k2 pt2) X.env=pure (some [x,y]))
  (hs:swapsWithSole [.Tuple [.Name x px,.Name y py] kt pt] (.Tuple [a,b] k2 pt2) pos.line X.env=pure false:=by rfl) :
  PS X (.Assign [.Tuple [.Name x px,.Name y py] kt pt] (.Tuple [a,b] k2 pt2) pos) (a6j i j ta):=by
 intro pins s zzs H D I h;rw[exec_Assign_arm];refine aP (Fz ?_);rw[hs];refine aP (bL ?_);rw[aH (by decide)];refine aP (Tuple_ (thn (ha _ pins s zzs H _ I h) fun us s1 zzy=>?_));obtain⟨vs,H1,I1,r1,q1⟩:=zzy;obtain⟨v,w,e1,q1⟩:=q1;subst e1;obtain⟨u1,u2,rfl,rv,rw'⟩:∃ u1 u2,us=[u1,u2]/\RelV v u1/\RelV w u2:=by
  cases r1 with
  |cons p q=>
   cases q with
   |cons p' q'=>
    cases q';exact⟨_,_,rfl,p,p'⟩
 refine uw ?_ (by show 2<=sizeLine;decide);have I2:Inv X pins zzs H1 { s1 with heap:=s1.heap.push { cls:=.type "tuple",data:=.seq [u1,u2].toArray } }:=I1.kept (t':=s1.toks) fun b o e=>eY _ e
 rw[hw];refine aP (bL ?_);show wpAny (model X.prog X.w) X.A (do rule "assign.swapped-stores";let items <- unpackItems (.ref s1.heap.objs.size) 2 none;assignInOrder [fun v=>bindName X.env y v,fun v=>bindName X.env x v] items.reverse;pure Flow.next) _ _ _;refine aP (jT (aP (unpackItems_tuple (items:=#[u1,u2]) (I.ok.hd hc) (IsTup.new s1.heap _) fun h' hx'=>?_)));have I3:=I2.kept (h':=h') (t':=s1.toks) fun b o e=>hx' b o (dU (bM e)) e
 show wpAny _ _ (assignInOrder [fun v=>bindName X.env y v,fun v=>bindName X.env x v] [u2,u1] >>= fun _=>pure Flow.next) _ _ _;refine aP (QC (wpAny_bindName (qe I3 hN hj (.inl hy) rw' (fun s2 I4=>?_) (.inr hy))));refine QC (wpAny_bindName (qe I4 hN hi (.inl hx) rv (fun s3 I5=>assignInOrder_nil (bL ?_)) (.inr hx)));rw[List.set_comm _ _ (j5 hij)] at I5;exact⟨_,H1,I5,q1⟩
end
section
variable{X:Cx}{pos:Pos}
def YM(c:TT)(tb:TS):TS:=fun D zzs H=>∃ W:Nat->St->Hp->Prop,(∃ m,W m zzs H)/\∀ m zzs H,W m zzs H ->
 c zzs H fun b H1=>if b=true then ∃ N:St->Hp->Prop,(∀ bT H',N bT H'->∃ m',m'<m/\W m' bT H')/\tb { D with nx:=N,ct:=N,bk:=D.nx } zzs H1 else D.nx zzs H1
theorem Xl{c:Expr}{body:List Stmt}{tc:TT}{tb:TS}(hp:PassesOwn (model X.prog X.w) X.A X.env X.xe)(hc:PT X c tc)(hb:PSs X body tb):PS X (.While c body [] pos) (YM tc tb):=by
 intro pins s zzs H D I h;obtain⟨W,⟨m0,w0⟩,turn⟩:=h;refine wpAny_While (codeAny_whileLoop (fun n s'=>∃ bT H',Inv X pins bT H' s'/\W n bT H') ?_ m0 ⟨zzs,H,I,w0⟩);rintro n s1 ⟨Vt,H1,I1,w1⟩;refine wR hp (thn (hc pins s1 Vt H1 _ I1 (turn n Vt H1 w1)) fun b s2 zzy=>?_);obtain⟨H2,I2,q2⟩:=zzy;cases b with
 |true=>
  obtain⟨N,hN,q2⟩:=q2;rw[aK rfl];refine wR hp (thn (hb pins s2 Vt H2 _ I2 q2) fun f s3 q3=>?_);cases f with
  |next=>
   obtain⟨Gb,H3,I3,n3⟩:=q3;obtain⟨m',hm,w3⟩:=hN Gb H3 n3;exact⟨m',hm,Gb,H3,I3,w3⟩
  |cont=>
   obtain⟨Gb,H3,I3,n3⟩:=q3;obtain⟨m',hm,w3⟩:=hN Gb H3 n3;exact⟨m',hm,Gb,H3,I3,w3⟩
  |brk=>exact q3
  |ret v=>exact q3
 |false=>
  rw[aH g8];exact Ai ⟨Vt,H2,I2,q2⟩
end
structure It where
 go:Nat->Hp->Prop
 yld:Nat->Hp->V->Hp->Prop
 stop:Nat->Hp->Prop
def vp(X:Cx)(pins:List (Addr×Obj))(H:Hp)(b:Addr):Prop:=
 H b=none/\b≠X.env.locals/\b∉X.fs/\(b∈X.ex\/X.s₀.heap.objs.size<=b)/\(∀ x c,X.env.cells.lookup x=some c->c≠b)/\∀ p∈X.pn++pins,p.1≠b
theorem Inv.M4{X:Cx}{pins:List (Addr×Obj)}{zzs:St}{H H':Hp}{s:Shared}{b:Addr}(I:Inv X pins zzs H s)(hb:s.heap.objs.size<=b)(hn:H' b=none):vp X pins H' b:=by
 refine⟨hn,uH (jj I.lt hb),I.a6W hb,.inr (cX I.sz hb),fun x c e z=>?_,fun p hp z=>?_⟩
 ·obtain⟨v,q⟩:=I.cell x c e;exact absurd (jj q.lt (by rw[z];exact hb)) (oH _)
 ·exact absurd (jj (bM (I.pin p hp).1) (by rw[z];exact hb)) (oH _)
structure Turn(P:Program)(w:World)(K:ao)(tg:Expr)(J:It)(fp:List Addr)(it:Addr)(tn:Nat->Heap->Prop):Prop where
 mem:it∈fp
 obj:∀ i h,tn i h->∀ b∈fp,∃ o,h.get? b=some o/\∀ v,o.data≠.cell v
 keep:∀ i h h',tn i h->(∀ b∈fp,∀ o,h.get? b=some o->h'.get? b=some o)->tn i h'
 item:∀(X:Cx),X.prog=P->X.w=w->X.K=K->X.calm=true->∀(i:Nat)(pins:List (Addr×Obj))(s:Shared)(zzs:St)(H:Hp)(E:Value->Shared->Prop),Inv X pins zzs H s->(∀ b∈fp,vp X pins H b)->tn i s.heap->J.go i H ->
  wpAny (model P w) X.A (pyNext (.ref it)) (fun r s1=>∃ u,r=some u /\
   wpAny (model P w) X.A (letOwnedTupleGo tg (.ref it) u) (fun _ s2=>∃ x H',Inv X pins zzs H' s2/\RelV x u/\J.yld i H x H'/\tn (i+1) s2.heap/\∀ b∈fp,H' b=none) E s1) E s
 done:∀(X:Cx),X.prog=P->X.w=w->X.K=K->X.calm=true->∀(i:Nat)(pins:List (Addr×Obj))(s:Shared)(zzs:St)(H:Hp)(E:Value->Shared->Prop),Inv X pins zzs H s->(∀ b∈fp,vp X pins H b)->tn i s.heap->J.stop i H ->
  wpAny (model P w) X.A (pyNext (.ref it)) (fun r s1=>r=none/\Inv X pins zzs H s1) E s
 self:∀(A:Around)(i:Nat)(s:Shared)(Q:Value->Shared->Prop)(E:Value->Shared->Prop),tn i s.heap->Q (.ref it) s->wpAny (model P w) A (pyIter (.ref it)) Q E s
abbrev TI:=St->Hp->(It->Hp->Prop)->Prop
def PIE(X:Cx)(pins:List (Addr×Obj))(zzs:St)(tg:Expr)(R:It->Hp->Prop)(itv:Value)(s2:Shared):Prop:=
 ∃(it:Addr)(fp:List Addr)(tn:Nat->Heap->Prop)(J:It)(H':Hp),itv=.ref it/\Inv X pins zzs H' s2/\Turn X.prog X.w X.K tg J fp it tn/\tn 0 s2.heap/\(∀ b∈fp,vp X pins H' b)/\R J H'
def PI(X:Cx)(tg iter:Expr)(wi:TI):Prop:=
 ∀(pins:List (Addr×Obj))(s:Shared)(zzs:St)(H:Hp)(R:It->Hp->Prop),Inv X pins zzs H s->wi zzs H R ->
  wpAny (model X.prog X.w) X.A (eval iter X.env) (fun v s1=>wpAny (model X.prog X.w) X.A (pyIter v) (PIE X pins zzs tg R) X.xe s1) X.xe s
theorem RM{M:Model}{A:Around}{E:Value->Shared->Prop}{s:Shared}{tg:Expr}{it:Addr}{u:Value}{o:Obj}{n:String}{vs:Array Value}{Q:Unit->Shared->Prop}(ho:s.heap.get? it=some o)(hc:o.cls=.type n)(hd:o.data=.fields vs)
  (hn:["enumerate","zip","dict_itemiterator","dict_reverseitemiterator","odict_iterator","itertools.zip_longest","itertools.pairwise"].contains n=false) (hQ:Q () s):wpAny M A (letOwnedTupleGo tg (.ref it) u) Q E s:=by
 unfold letOwnedTupleGo;cases tg<;>first
  |exact bL hQ
  |(cases u<;>first
    |exact bL hQ
    |(refine aP (wpAny_load ho ?_)
      rw[hc,hd];show wpAny M A (if(["enumerate","zip","dict_itemiterator","dict_reverseitemiterator","odict_iterator","itertools.zip_longest","itertools.pairwise"].contains n&&vs[0]?==some (rawInt _))=true then _ else _) Q E s;rw[aH (by intro h;rw[hn,Aq] at h;cases h)];exact bL hQ))
def Itl(K:ao)(a:Addr):It:=
 ⟨fun i H=>∃ xs x,SqL K H a xs/\xs[i]?=some x,fun i H x H'=>H'=H/\∀ xs,SqL K H a xs->xs[i]?=some x,fun i H=>∃ xs,SqL K H a xs/\xs.length<=i⟩
def Itr(lo:Int)(n:Nat):It:=⟨fun i _=>i<n,fun i H x H'=>H'=H/\x=.int (lo+i),fun i _=>n<=i⟩
theorem Vq{P:Program}{w:World}{K:ao}{tg:Expr}(a it:Addr):Turn P w K tg (Itl K a) [it] it (fun i h=>h.IsListIter it a i) where
 mem:=by simp
 obj:=fun i h st b hb=>by
  have e:b=it:=by simpa using hb
  subst e;obtain⟨o,e,c,d⟩:=st;exact⟨o,e,fun v z=>by rw[d] at z;cases z⟩
 keep:=fun i h h' st k=>st.at fun o e=>k it (by simp) o e
 item:=by
  intro X hP hw hK hc i pins s zzs H E I hf st hg;subst hP hw hK;obtain⟨xs,x,hq,hx⟩:=hg;obtain⟨its,rv,p,hz⟩:=I.list hq;obtain⟨u,hu,ru⟩:=rv.get hx;obtain⟨f0,f1,f2,f3,f4,f5⟩:=hf it (by simp);refine wpAny_pyNext_list_item st p.isList (x:=u) (by simpa using hu) fun h' st' sb=>?_
  have I1:Inv X pins zzs H { s with heap:=h' }:=I.turned (t':=s.toks) (fun b o hb e=>(sb.2 b hb).trans e) f0 f1 f3 f4 f5;obtain⟨o,e,c,d⟩:=id st';exact⟨u,rfl,RM (s:={ s with heap:=h' }) e c d (by decide) ⟨x,H,I1,ru,⟨rfl,fun ys hy=>by rw[I.DK hy hq];exact hx⟩,st',fun b hb=>(hf b hb).1⟩⟩
 done:=by
  intro X hP hw hK hc i pins s zzs H E I hf st hg;subst hP hw hK;obtain⟨xs,hq,hx⟩:=hg;obtain⟨its,rv,p,hz⟩:=I.list hq;obtain⟨f0,f1,f2,f3,f4,f5⟩:=hf it (by simp);have hl:=rv.length;exact wpAny_pyNext_list_end (I.ok.hd hc) st p.isList (by simp;lia) fun h' eb=>⟨rfl,I.turned (t':=s.toks) (fun b o hb e=>eb b o hb e) f0 f1 f3 f4 f5⟩
 self:=fun _ _ _ _ _ st h=>wpAny_pyIter_listiter st h
theorem Qh{P:Program}{w:World}{K:ao}{tg:Expr}(it:Addr)(lo:Int)(n:Nat):Turn P w K tg (Itr lo n) [it] it (fun i h=>IsRangeIter h it (lo+(i:Nat)*1) ((n:Int)-(i:Nat)) 1) where
 mem:=by simp
 obj:=fun i h st b hb=>by
  have e:b=it:=by simpa using hb
  subst e;exact⟨_,st,fun v z=>by
   have z':Data.fields _=Data.cell v:=z;cases z'⟩
 keep:=fun i h h' st k=>k it (by simp) _ st
 item:=by
  intro X hP hw hK hc i pins s zzs H E I hf st hg;subst hP hw hK;obtain⟨f0,f1,f2,f3,f4,f5⟩:=hf it (by simp);have W:=Walks.range (prog:=X.prog) (w:=X.w) (I.ok.hd hc) it lo 1 n;refine W.item i s _ _ hg st fun v h' tk hv st' kk=>?_
  obtain⟨t,rfl⟩:=hv;have I1:Inv X pins zzs H { s with heap:=h',toks:=tk }:=I.turned (fun b o hb e=>kk b o (by simpa using hb) e) f0 f1 f3 f4 f5;refine⟨_,rfl,RM (s:={ s with heap:=h',toks:=tk }) (n:="range_iterator") st' rfl rfl (by decide) ⟨.int (lo+i),H,I1,⟨t,?_⟩,⟨rfl,rfl⟩,st',fun b hb=>(hf b hb).1⟩⟩;rw[Int.mul_one]
 done:=by
  intro X hP hw hK hc i pins s zzs H E I hf st hg;subst hP hw hK;obtain⟨f0,f1,f2,f3,f4,f5⟩:=hf it (by simp);exact wpAny_pyNext_range_end (I.ok.hd hc) st (by have:n<=i:=hg;lia) fun h' eb=>⟨rfl,I.turned (t':=s.toks) (fun b o hb e=>eb b o hb e) f0 f1 f3 f4 f5⟩
 self:=fun _ _ _ _ _ st h=>wpAny_pyIter_rangeiter st h
section
variable{X:Cx}{tg:Expr}
def RP(K:ao)(tl:TE):TI:=fun zzs H R=>tl zzs H fun x H1=>∃ a,x=.ref a/\(∃ xs,SqL K H1 a xs)/\R (Itl K a) H1
theorem a1d{l:Expr}{tl:TE}(hl:PE X l tl):PI X tg l (RP X.K tl):=by
 intro pins s zzs H R I h;refine thn (hl pins s zzs H _ I h) fun v s1 zzy=>?_
 obtain⟨x,H1,I1,r1,q1⟩:=zzy;obtain⟨a,e,⟨xs,hq⟩,q⟩:=q1;subst e;cases r1;obtain⟨its,rv,p,hz⟩:=I1.list hq;refine QH p.isList ?_;refine⟨s1.heap.objs.size,[s1.heap.objs.size],_,_,H1,rfl,I1.kept (t':=s1.toks) fun b o e=>eY _ e,Vq a _,⟨_,fV _ rfl,rfl,rfl⟩,fun b hb=>?_,q⟩;have e:b=s1.heap.objs.size:=by simpa using hb
 subst e;exact I1.M4 (bK _) (I1.hok.fresh (bK _))
theorem N7{pins:List (Addr×Obj)}{zzs:St}{H:Hp}{s:Shared}{R:It->Hp->Prop}{E:Value->Shared->Prop}{lo hi:Int}{t u v:Tok}{tk:Nat}(I:Inv X pins zzs H s)(h1 : -(2^62)<=lo)(h2:lo<2^62)(h3 : -(2^62)<=hi)(h4:hi<2^62)
  (q:R (Itr lo (hi-lo).toNat) H):wpAny (model X.prog X.w) X.A (pyIter (.ref s.heap.objs.size)) (PIE X pins zzs tg R) E { s with heap:=s.heap.push { cls:=.type "range",data:=.fields #[.int lo t,.int hi u,.int 1 v] },toks:=tk }:=by
 refine wpAny_pyIter_range (IsRange.new ..) (small_one h1 h2 h3 h4) ?_;have I1:Inv X pins zzs H { s with heap:=s.heap.push { cls:=.type "range",data:=.fields #[.int lo t,.int hi u,.int 1 v] },toks:=tk }:=I.kept fun b o e=>eY _ e
 refine⟨(s.heap.push { cls:=.type "range",data:=.fields #[.int lo t,.int hi u,.int 1 v] }).objs.size,[(s.heap.push { cls:=.type "range",data:=.fields #[.int lo t,.int hi u,.int 1 v] }).objs.size],_,_,H,rfl,
  I1.kept (t':=tk) fun b o e=>eY _ e,Qh _ lo (hi-lo).toNat,?_,fun b hb=>?_,q⟩
 ·have e1:lo+((0:Nat):Int)*1=lo:=by simp
  have e2:(((hi-lo).toNat:Nat):Int)-((0:Nat):Int)=Builtin.Range.rangeSize lo hi 1:=by rw[rangeSize_one];split<;>lia
  show IsRangeIter _ _ (lo+((0:Nat):Int)*1) ((((hi-lo).toNat:Nat):Int)-((0:Nat):Int)) 1;rw[e1,e2];exact fV _ rfl
 ·have e:b=(s.heap.push { cls:=.type "range",data:=.fields #[.int lo t,.int hi u,.int 1 v] }).objs.size:=by simpa using hb
  subst e;exact I1.M4 (bK _) (I1.hok.fresh (bK _))
def a2f(ta:TA):TI:=fun zzs H R=>ta zzs H fun vs H1=>∃ j:Int,vs=[.int j] /\ -(2^62)<=j/\j<2^62/\R (Itr 0 j.toNat) H1
def a2g(ta:TA):TI:=fun zzs H R=>ta zzs H fun vs H1=>∃ i j:Int,vs=[.int i,.int j]/\(-(2^62)<=i/\i<2^62 /\ -(2^62)<=j/\j<2^62)/\R (Itr i (j-i).toNat) H1
theorem V6{a:Expr}{ta:TA}{p pos:Pos} (hg:Gl X "range") (hm:X.mg "range" = none) (ha:PA X [a] ta) (hs:starEach [a] X.env=[(false,eval a X.env)]:=by rfl):PI X tg (.Call (.Name "range" p) [a] [] pos) (a2f ta):=by
 intro pins s zzs H R I h;refine Call_ (wg I hg hm boot_range (JH (thn (ha pos pins s zzs H _ I h) fun us s1 zzy=>?_) hs rfl));obtain⟨vs,H1,I1,r1,q1⟩:=zzy;obtain⟨j,e,q1,q2,q⟩:=q1;subst e;cases r1 with
 |cons r rr=>
  cases rr;obtain⟨t,rfl⟩:=r;exact call_range_1 (N7 I1 (by lia) (by lia) q1 q2 (by simpa using q))
theorem V7{a b:Expr}{ta:TA}{p pos:Pos} (hg:Gl X "range") (hm:X.mg "range" = none) (ha:PA X [a,b] ta) (hs:starEach [a,b] X.env=[(false,eval a X.env),(false,eval b X.env)]:=by rfl) (hs2:starEach [b] X.env=[(false,eval b X.env)]:=by rfl) :
  PI X tg (.Call (.Name "range" p) [a,b] [] pos) (a2g ta):=by
 intro pins s zzs H R I h;refine Call_ (wg I hg hm boot_range (JH (thn (ha pos pins s zzs H _ I h) fun us s1 zzy=>?_) (by rw[hs,hs2]) (by rw[hs2];rfl)));obtain⟨vs,H1,I1,r1,q1⟩:=zzy;obtain⟨i,j,e,⟨q1,q2,q3,q4⟩,q⟩:=q1;subst e;cases r1 with
 |cons r rr=>
  cases rr with
  |cons r' rr=>
   cases rr;obtain⟨t,rfl⟩:=r;obtain⟨t',rfl⟩:=r';exact call_range_2 (N7 I1 q1 q2 q3 q4 q)
def a4I(wi:TI)(g:TG)(tb:TS):TS:=fun D zzs H=>wi zzs H fun J H1=>∃ W:Nat->Nat->St->Hp->Prop,(∃ m,W 0 m zzs H1)/\∀ i m zzs H,W i m zzs H ->
 (J.stop i H/\D.nx zzs H)\/(J.go i H/\∃ N:St->Hp->Prop,(∀ bT H',N bT H'->∃ m',m'<m/\W (i+1) m' bT H')/\∀ x H',J.yld i H x H'->g x zzs H' fun wY H2=>tb { D with nx:=N,ct:=N,bk:=D.nx } wY H2)
def wz(fp:List Addr)(h:Heap):List (Addr×Obj):=fp.filterMap fun b=>(h.get? b).map fun o=>(b,o)
theorem wk{fp:List Addr}{h:Heap}{b:Addr}{o:Obj}(hb:b∈fp)(e:h.get? b=some o):(b,o)∈wz fp h:=Fj.mpr ⟨b,hb,by rw[e];rfl⟩
theorem Ux{fp:List Addr}{h:Heap}{p:Addr×Obj}(hp:p∈wz fp h):p.1∈fp/\h.get? p.1=some p.2:=by
 obtain⟨b,hb,e⟩:=Fj.mp hp;cases q:h.get? b with
 |none=>rw[q] at e;cases e
 |some o=>
  rw[q] at e;have e':(b,o)=p:=iu e;subst e';exact⟨hb,q⟩
theorem Inv.pinned{pins:List (Addr×Obj)}{zzs:St}{H:Hp}{s:Shared}{fp:List Addr}(I:Inv X pins zzs H s)(hf:∀ b∈fp,vp X pins H b)(ho:∀ b∈fp,∃ o,s.heap.get? b=some o/\∀ v,o.data≠.cell v):Inv X (pins++wz fp s.heap) zzs H s:=
 I.xP fun p hp=>(cR.mp hp).elim (fun z=>I.pin p (jW _ z)) fun z=>by
  obtain⟨hb,e⟩:=Ux z;obtain⟨f0,f1,f2,_⟩:=hf p.1 hb;obtain⟨o,e',d⟩:=ho p.1 hb;rw[e] at e';cases e';exact⟨e,f0,f1,f2,d⟩
theorem Inv.Ez{pins pl:List (Addr×Obj)}{zzs:St}{H:Hp}{s:Shared}(I:Inv X (pins++pl) zzs H s):Inv X pins zzs H s:=I.xP fun p hp=>I.pin p (jW _ (jE _ hp))
theorem a4j{iter:Expr}{body:List Stmt}{wi:TI}{g:TG}{tb:TS}{pos:Pos}(hp:PassesOwn (model X.prog X.w) X.A X.env X.xe)(hc:X.calm=true)(hi:PI X tg iter wi)(hg:PG X tg g)(hb:PSs X body tb)
  (hs:∀ x,foldedSetIterable iter X.env x=pure x:=by intro _;rfl):PS X (.For tg iter body [] pos) (a4I wi g tb):=by
 intro pins s zzs H D I h;refine wpAny_For (thn (hi pins s zzs H _ I h) fun v s1 h1=>thn h1 fun itv s2 h2=>?_) hs;obtain⟨it,fp,tn,J,H2,e,I2,T,st2,f2,W,⟨m0,w0⟩,turn⟩:=h2;subst e;have stat:∀ {H':Hp},(∀ b∈fp,H' b=none)->∀ b∈fp,vp X pins H' b:=fun hn b hb=>⟨hn b hb,(f2 b hb).2⟩
 refine codeAny_forLoop_any (fun n s'=>∃ i bT H',Inv X pins bT H' s'/\tn i s'.heap/\(∀ b∈fp,H' b=none)/\W i n bT H') ?_ m0 ⟨0,zzs,H2,I2,st2,fun b hb=>(f2 b hb).1,w0⟩;rintro n s3 ⟨i,Gb,H3,I3,st3,fr3,w3⟩;rcases turn i n Gb H3 w3 with⟨stop,qn⟩|⟨go,N,hN,step⟩
 ·refine wR hp (thn (T.done X rfl rfl rfl hc i pins s3 Gb H3 X.xe I3 (stat fr3) st3 stop) fun r s4 zzy=>?_);obtain⟨hr,I4⟩:=zzy;subst hr;exact Ai ⟨Gb,H3,I4,qn⟩
 ·refine wR hp (thn (T.item X rfl rfl rfl hc i pins s3 Gb H3 X.xe I3 (stat fr3) st3 go) fun r s4 zzy=>?_);obtain⟨u,hr,h4⟩:=zzy;subst hr;refine wR hp (thn h4 fun _ s5 zzy=>?_);obtain⟨x,H5,I5,r5,y5,st5,fr5⟩:=zzy;have I5':=I5.pinned (stat fr5) (T.obj _ _ st5);refine wR hp (thn (hg _ s5 Gb H5 x u _ I5' r5 (step x H5 y5)) fun _ s6 zzy=>?_);obtain⟨a7f,H6,I6,q6⟩:=zzy;refine wR hp (thn (hb _ s6 a7f H6 _ I6 q6) fun f s7 q7=>?_);have again:∀ {Gd:St} {H7:Hp},Inv X (pins++wz fp s5.heap) Gd H7 s7->N Gd H7->∃ m,m<n/\∃ i bT H',Inv X pins bT H' s7/\tn i s7.heap/\(∀ b∈fp,H' b=none)/\W i m bT H':=fun {Gd H7} I7 n7=>by
   obtain⟨m',hm,w7⟩:=hN Gd H7 n7;refine⟨m',hm,i+1,Gd,H7,I7.Ez,T.keep _ _ _ st5 fun b hb o e=>(I7.pin (b,o) (jW _ (jW _ (wk hb e)))).1,fun b hb=>?_,w7⟩;obtain⟨o,e,d⟩:=T.obj _ _ st5 b hb;exact(I7.pin (b,o) (jW _ (jW _ (wk hb e)))).2.1
  cases f with
  |next=>obtain⟨Gd,H7,I7,n7⟩:=q7;exact again I7 n7
  |cont=>obtain⟨Gd,H7,I7,n7⟩:=q7;exact again I7 n7
  |brk=>obtain⟨Gd,H7,I7,q7⟩:=q7;exact⟨Gd,H7,I7.Ez,q7⟩
  |ret v=>obtain⟨x7,Gd,H7,I7,r7,q7⟩:=q7;exact⟨x7,Gd,H7,I7.Ez,r7,q7⟩
end
theorem cO{K:ao}{a:Addr}{xs:List V}{g:TG}{tb:TS}{D:Ends}{zzs:St}{H:Hp}(Pv:Nat->St->Hp->Prop)(h0:Pv 0 zzs H)(hl:∀ i zzs H,i<=xs.length->Pv i zzs H->SqL K H a xs)
  (hs:∀ i x zzs H,xs[i]?=some x->Pv i zzs H->g x zzs H fun wY H2=>tb { D with nx:=Pv (i+1),ct:=Pv (i+1),bk:=D.nx } wY H2) (hd:∀ zzs H,Pv xs.length zzs H->D.nx zzs H) :
  ∃ W:Nat->Nat->St->Hp->Prop,(∃ m,W 0 m zzs H)/\∀ i m zzs H,W i m zzs H ->
   ((Itl K a).stop i H/\D.nx zzs H)\/((Itl K a).go i H/\∃ N:St->Hp->Prop,(∀ bT H',N bT H'->∃ m',m'<m/\W (i+1) m' bT H')/\∀ x H',(Itl K a).yld i H x H'->g x zzs H' fun wY H2=>tb { D with nx:=N,ct:=N,bk:=D.nx } wY H2):=by
 refine⟨fun i m zzs H=>m=xs.length-i/\i<=xs.length/\Pv i zzs H,⟨xs.length,by simp,j7 _,h0⟩,?_⟩;rintro i m zzs H ⟨rfl,hi,p⟩;have q:=hl i zzs H hi p;by_cases hlt:i<xs.length
 ·refine .inr ⟨⟨xs,xs[i],q,by simp[hlt]⟩,Pv (i+1),fun bT H' p'=>⟨xs.length-(i+1),by omega,rfl,hlt,p'⟩,fun x H' y=>?_⟩;obtain⟨e,y⟩:=y;subst e;exact hs i x zzs _ (y xs q) p
 ·have e:i=xs.length:=by lia
  subst e;exact .inl ⟨⟨xs,q,bK _⟩,hd zzs H p⟩
theorem gR{lo:Int}{n:Nat}{g:TG}{tb:TS}{D:Ends}{zzs:St}{H:Hp}(Pv:Nat->St->Hp->Prop)(h0:Pv 0 zzs H)
  (hs:∀ i zzs H,i<n->Pv i zzs H->g (.int (lo+i)) zzs H fun wY H2=>tb { D with nx:=Pv (i+1),ct:=Pv (i+1),bk:=D.nx } wY H2) (hd:∀ zzs H,Pv n zzs H->D.nx zzs H) :
  ∃ W:Nat->Nat->St->Hp->Prop,(∃ m,W 0 m zzs H)/\∀ i m zzs H,W i m zzs H ->
   ((Itr lo n).stop i H/\D.nx zzs H)\/((Itr lo n).go i H/\∃ N:St->Hp->Prop,(∀ bT H',N bT H'->∃ m',m'<m/\W (i+1) m' bT H')/\∀ x H',(Itr lo n).yld i H x H'->g x zzs H' fun wY H2=>tb { D with nx:=N,ct:=N,bk:=D.nx } wY H2):=by
 refine⟨fun i m zzs H=>m=n-i/\i<=n/\Pv i zzs H,⟨n,by simp,j7 _,h0⟩,?_⟩;rintro i m zzs H ⟨rfl,hi,p⟩;by_cases hlt:i<n
 ·refine .inr ⟨hlt,Pv (i+1),fun bT H' p'=>⟨n-(i+1),by lia,rfl,hlt,p'⟩,fun x H' y=>?_⟩;obtain⟨e,y⟩:=y;subst e y;exact hs i zzs _ hlt p
 ·have e:i=n:=by lia
  subst e;exact .inl ⟨bK _,hd zzs H p⟩
abbrev R2:=V->V->Hp->VK->Prop
def OpR(X:Cx)(f:Value->Value->Sem Value)(r:R2):Prop:=
 ∀(pins:List (Addr×Obj))(s:Shared)(zzs:St)(H:Hp)(x y:V)(v u:Value)(Q:VK),Inv X pins zzs H s->RelV x v->RelV y u->r x y H Q ->
  wpAny (model X.prog X.w) X.A (f v u) (EP X pins zzs Q) X.xe s
def UnR(X:Cx)(f:Value->Sem Value)(r:V->Hp->VK->Prop):Prop:=
 ∀(pins:List (Addr×Obj))(s:Shared)(zzs:St)(H:Hp)(x:V)(v:Value)(Q:VK),Inv X pins zzs H s->RelV x v->r x H Q ->
  wpAny (model X.prog X.w) X.A (f v) (EP X pins zzs Q) X.xe s
def eE(X:Cx)(f:Value)(r:List V->Hp->VK->Prop):Prop:=
 ∀(pins:List (Addr×Obj))(s:Shared)(zzs:St)(H:Hp)(xs:List V)(us:List Value)(Q:VK),Inv X pins zzs H s->Vals xs us->r xs H Q ->
  wpAny (model X.prog X.w) X.A (call f us) (EP X pins zzs Q) X.xe s
def tOp(r:R2)(ta tb:TE):TE:=fun zzs H Q=>ta zzs H fun x H1=>tb zzs H1 fun y H2=>r x y H2 Q
def tUn(r:V->Hp->VK->Prop)(ta:TE):TE:=fun zzs H Q=>ta zzs H fun x H1=>r x H1 Q
def rI(C:Int->Int->Prop)(g:Int->Int->V):R2:=fun x y H Q=>∃ i j,x=.int i/\y=.int j/\C i j/\Q (g i j) H
def rI0(g:Int->Int->V):R2:=fun x y H Q=>∃ i j,x=.int i/\y=.int j/\Q (g i j) H
def rU(g:Int->V):V->Hp->VK->Prop:=fun x H Q=>∃ i,x=.int i/\Q (g i) H
section
variable{X:Cx}{a b c:Expr}{ta tb tc:TE}{pos:Pos}
theorem a2D(ha:PE X a ta)(hb:PE X b tb){pins:List (Addr×Obj)}{s:Shared}{zzs:St}{H:Hp}{R:V->V->Hp->Prop}(I:Inv X pins zzs H s)
  (h:ta zzs H fun x H1=>tb zzs H1 fun y H2=>R x y H2) {Q:Value->Shared->Prop} {f:Value->Value->Sem Value}
  (hf:∀ v u s2 x y H2,Inv X pins zzs H2 s2->RelV x v->RelV y u->R x y H2->wpAny (model X.prog X.w) X.A (f v u) Q X.xe s2) :
  wpAny (model X.prog X.w) X.A (eval a X.env) (fun v s₁=>wpAny (model X.prog X.w) X.A (eval b X.env) (fun u s₂=>wpAny (model X.prog X.w) X.A (f v u) Q X.xe s₂) X.xe s₁) X.xe s:=by
 refine thn (ha pins s zzs H _ I h) fun v s1 zzy=>?_
 obtain⟨x,H1,I1,r1,q1⟩:=zzy;refine thn (hb pins s1 zzs H1 _ I1 q1) fun u s2 zzy=>?_
 obtain⟨y,H2,I2,r2,q2⟩:=zzy;exact hf v u s2 x y H2 I2 r1 r2 q2
theorem a5F{op:Operator}{r:R2}(ho:OpR X (binaryOp op) r)(ha:PE X a ta)(hb:PE X b tb):PE X (.BinOp a op b pos) (tOp r ta tb):=by
 intro pins s zzs H Q I h;exact wpAny_BinOp (a2D ha hb I h fun v u s2 x y H2 I2 rx ry q=>ho pins s2 zzs H2 x y v u Q I2 rx ry q)
theorem a5G{op:UnaryOp}{r:V->Hp->VK->Prop}(ho:UnR X (unaryOp op) r)(ha:PE X a ta):PE X (.UnaryOp op a pos) (tUn r ta):=by
 intro pins s zzs H Q I h;exact UnaryOp_ (thn (ha pins s zzs H _ I h) fun v s1 ⟨x,H1,I1,r1,q1⟩=>ho pins s1 zzs H1 x v Q I1 r1 q1)
theorem opI{f:Value->Value->Sem Value}{C:Int->Int->Prop}{g:Int->Int->Int}
  (rule:∀(i j:Int)(t u:Tok)(s:Shared)(Q:Value->Shared->Prop)(E:Value->Shared->Prop),C i j->Q (.int (g i j) s.toks) { s with toks:=s.toks+1 }->wpAny (model X.prog X.w) X.A (f (.int i t) (.int j u)) Q E s) :
  OpR X f (rI C fun i j=>.int (g i j)):=by
 intro pins s zzs H x y v u Q I rx ry h;obtain⟨i,j,rfl,rfl,hc,q⟩:=h;obtain⟨t,rfl⟩:=rx;obtain⟨t',rfl⟩:=ry;exact rule i j t t' s _ _ hc ⟨.int (g i j),H,I.tok _,⟨_,rfl⟩,q⟩
theorem a5B{f:Value->Value->Sem Value}{g:Int->Int->Int}
  (rule:∀(i j:Int)(t u:Tok)(s:Shared)(Q:Value->Shared->Prop)(E:Value->Shared->Prop),Q (.int (g i j) s.toks) { s with toks:=s.toks+1 }->wpAny (model X.prog X.w) X.A (f (.int i t) (.int j u)) Q E s) :
  OpR X f (rI0 fun i j=>.int (g i j)):=by
 intro pins s zzs H x y v u Q I rx ry h;obtain⟨i,j,rfl,rfl,q⟩:=h;obtain⟨t,rfl⟩:=rx;obtain⟨t',rfl⟩:=ry;exact rule i j t t' s _ _ ⟨.int (g i j),H,I.tok _,⟨_,rfl⟩,q⟩
theorem a3H{f:Value->Value->Sem Value}{g:Int->Int->Bool}
  (rule:∀(i j:Int)(t u:Tok)(s:Shared)(Q:Value->Shared->Prop)(E:Value->Shared->Prop),Q (.bool (g i j)) s->wpAny (model X.prog X.w) X.A (f (.int i t) (.int j u)) Q E s) :
  OpR X f (rI0 fun i j=>.bl (g i j)):=by
 intro pins s zzs H x y v u Q I rx ry h;obtain⟨i,j,rfl,rfl,q⟩:=h;obtain⟨t,rfl⟩:=rx;obtain⟨t',rfl⟩:=ry;exact rule i j t t' s _ _ ⟨.bl (g i j),H,I,rfl,q⟩
def a6z(i j:Int):Prop:=0<j/\j<1073741824
def ZR(i j:Int):Prop:=(-(2^64)<i/\i<2^64)\/(-(2^64)<j/\j<2^64)
theorem ZR.ok{i j:Int}(h:ZR i j):IntMulOk i j:=by
 rcases h with⟨h1,h2⟩|⟨h1,h2⟩
 ·exact .of_left (intBits_le_64 h1 h2)
 ·exact .of_right (intBits_le_64 h1 h2)
theorem a3I:OpR X (binaryOp .Add) (rI0 fun i j=>.int (i+j)):=a5B fun _ _ _ _ _ _ _ q=>add_int q
theorem X6:OpR X (binaryOp .Sub) (rI0 fun i j=>.int (i-j)):=a5B fun _ _ _ _ _ _ _ q=>sub_int q
theorem a3N:OpR X (binaryOp .Mult) (rI ZR fun i j=>.int (i*j)):=opI fun _ _ _ _ _ _ _ hc q=>mul_int q hc.ok
theorem Ce:OpR X (binaryOp .FloorDiv) (rI a6z fun i j=>.int (i / j)):=opI fun i j _ _ _ _ _ hc q=>by
 have h1:(0:Int)<j:=hc.1;have h2:j<1073741824:=hc.2;exact floordiv_int (by lia) (by rw[Int.fdiv_eq_ediv_of_nonneg i (by lia)];exact q) (.inl (PyProof.noPylong_small (by omega)))
theorem nM:OpR X (binaryOp .Mod) (rI (fun _ j=>0<j) fun i j=>.int (i%j)):=opI fun i j _ _ _ _ _ hc q=>by
 have h1:(0:Int)<j:=hc;exact mod_int' (by lia) (by rw[Int.fmod_eq_emod_of_nonneg i (by lia)];exact q)
theorem unI{f:Value->Sem Value}{g:Int->Int}
  (rule:∀(i:Int)(t:Tok)(s:Shared)(Q:Value->Shared->Prop)(E:Value->Shared->Prop),Q (.int (g i) s.toks) { s with toks:=s.toks+1 }->wpAny (model X.prog X.w) X.A (f (.int i t)) Q E s) :
  UnR X f (rU fun i=>.int (g i)):=by
 intro pins s zzs H x v Q I rx h;obtain⟨i,rfl,q⟩:=h;obtain⟨t,rfl⟩:=rx;exact rule i t s _ _ ⟨.int (g i),H,I.tok _,⟨_,rfl⟩,q⟩
theorem zY:UnR X (unaryOp .USub) (rU fun i=>.int (-i)):=unI fun _ _ _ _ _ q=>neg_int q
end
def a6b:V->V->Bool
 |.non,.non=>true|.non,.int _=>true|.int _,.non=>true|.non,.bl _=>true|.bl _,.non=>true|.non,.str _=>true|.str _,.non=>true
 |.int _,.int _=>true|.bl _,.bl _=>true|.str _,.str _=>true|.byt _,.byt _=>true
 |.int _,.str _=>true|.str _,.int _=>true|.bl _,.str _=>true|.str _,.bl _=>true
 |_,_=>false
def rEq:R2:=fun x y H Q=>a6b x y=true/\Q (.bl (decide (x=y))) H
def rNe:R2:=fun x y H Q=>a6b x y=true/\Q (.bl (!decide (x=y))) H
theorem Rv{i j:Int}:decide (V.int i=V.int j)=(i==j):=by
 rw[uE];simp
theorem VN{i j:Bool}:decide (V.bl i=V.bl j)=(i==j):=by
 rw[uE];simp
theorem Rw{i j:Str}:decide (V.str i=V.str j)=(i==j):=by
 rw[uE];simp
theorem Ru{i j:Array UInt8}:decide (V.byt i=V.byt j)=(i.toList==j.toList):=by
 rw[uE];cases i;cases j;simp
section
variable{X:Cx}{a b c:Expr}{ta tb tc:TE}{pos:Pos}
theorem cZ{pins:List (Addr×Obj)}{zzs:St}{H:Hp}{s:Shared}{Q:VK}{k k':Bool}(I:Inv X pins zzs H s)(q:Q (.bl k) H)(e:k=k'):EP X pins zzs Q (.bool k') s:=by
 subst e;exact⟨.bl k,H,I,rfl,q⟩
theorem kE:OpR X (compareOp .Eq) rEq:=by
 intro pins s zzs H x y v u Q I rx ry h;obtain⟨hs,q⟩:=h;cases x with
 |non=>
  cases rx;cases y with
  |non=>cases ry;exact PySem.EqNone.eq_none_none (cZ I q (by simp))
  |bl j=>cases ry;exact PySem.EqNone.eq_none_bool (cZ I q (by simp))
  |int j=>obtain⟨t',rfl⟩:=ry;exact PySem.EqNone.eq_none_int (cZ I q (by simp))
  |str j=>obtain⟨t',rfl⟩:=ry;exact PySem.EqNone.eq_none_str (cZ I q (by simp))
  |_=>exact absurd (show false=true from hs) g8
 |bl i=>
  cases rx;cases y with
  |non=>cases ry;exact PySem.EqNone.eq_bool_none (cZ I q (by simp))
  |bl j=>cases ry;exact eq_bool (cZ I q VN)
  |str j=>obtain⟨t',rfl⟩:=ry;exact PySem.EqMixed.eq_bool_str (cZ I q (by simp))
  |_=>exact absurd (show false=true from hs) g8
 |int i=>
  obtain⟨t,rfl⟩:=rx;cases y with
  |non=>cases ry;exact PySem.EqNone.eq_int_none (cZ I q (by simp))
  |int j=>obtain⟨t',rfl⟩:=ry;exact eq_int (cZ I q Rv)
  |str j=>obtain⟨t',rfl⟩:=ry;exact PySem.EqMixed.eq_int_str (cZ I q (by simp))
  |_=>exact absurd (show false=true from hs) g8
 |str i=>
  obtain⟨t,rfl⟩:=rx;cases y with
  |non=>cases ry;exact PySem.EqNone.eq_str_none (cZ I q (by simp))
  |bl j=>cases ry;exact PySem.EqMixed.eq_str_bool (cZ I q (by simp))
  |int j=>obtain⟨t',rfl⟩:=ry;exact PySem.EqMixed.eq_str_int (cZ I q (by simp))
  |str j=>obtain⟨t',rfl⟩:=ry;exact eq_str (cZ I q Rw)
  |_=>exact absurd (show false=true from hs) g8
 |byt i=>
  obtain⟨t,rfl⟩:=rx;cases y with
  |byt j=>obtain⟨t',rfl⟩:=ry;exact PySem.W.eq_bytes (cZ I q Ru)
  |_=>exact absurd (show false=true from hs) g8
 |_=>cases y<;>exact absurd (show false=true from hs) g8
theorem Mw:OpR X (compareOp .NotEq) rNe:=by
 intro pins s zzs H x y v u Q I rx ry h;obtain⟨hs,q⟩:=h;cases x with
 |non=>
  cases rx;cases y with
  |non=>cases ry;exact PySem.EqNone.ne_none_none (cZ I q (by simp))
  |bl j=>cases ry;exact PySem.EqNone.ne_none_bool (cZ I q (by simp))
  |int j=>obtain⟨t',rfl⟩:=ry;exact PySem.EqNone.ne_none_int (cZ I q (by simp))
  |str j=>obtain⟨t',rfl⟩:=ry;exact PySem.EqNone.ne_none_str (cZ I q (by simp))
  |_=>exact absurd (show false=true from hs) g8
 |bl i=>
  cases rx;cases y with
  |non=>cases ry;exact PySem.EqNone.ne_bool_none (cZ I q (by simp))
  |bl j=>cases ry;exact ne_bool (cZ I q (congrArg not VN))
  |str j=>obtain⟨t',rfl⟩:=ry;exact PySem.EqMixed.ne_bool_str (cZ I q (by simp))
  |_=>exact absurd (show false=true from hs) g8
 |int i=>
  obtain⟨t,rfl⟩:=rx;cases y with
  |non=>cases ry;exact PySem.EqNone.ne_int_none (cZ I q (by simp))
  |int j=>obtain⟨t',rfl⟩:=ry;exact ne_int (cZ I q (congrArg not Rv))
  |str j=>obtain⟨t',rfl⟩:=ry;exact PySem.EqMixed.ne_int_str (cZ I q (by simp))
  |_=>exact absurd (show false=true from hs) g8
 |str i=>
  obtain⟨t,rfl⟩:=rx;cases y with
  |non=>cases ry;exact PySem.EqNone.ne_str_none (cZ I q (by simp))
  |bl j=>cases ry;exact PySem.EqMixed.ne_str_bool (cZ I q (by simp))
  |int j=>obtain⟨t',rfl⟩:=ry;exact PySem.EqMixed.ne_str_int (cZ I q (by simp))
  |str j=>obtain⟨t',rfl⟩:=ry;exact ne_str (cZ I q (congrArg not Rw))
  |_=>exact absurd (show false=true from hs) g8
 |byt i=>
  obtain⟨t,rfl⟩:=rx;cases y with
  |byt j=>obtain⟨t',rfl⟩:=ry;exact PySem.W.ne_bytes (cZ I q (congrArg not Ru))
  |_=>exact absurd (show false=true from hs) g8
 |_=>cases y<;>exact absurd (show false=true from hs) g8
theorem HB:OpR X (compareOp .Lt) (rI0 fun i j=>.bl (decide (i<j))):=a3H fun _ _ _ _ _ _ _ q=>lt_int q
theorem rM:OpR X (compareOp .LtE) (rI0 fun i j=>.bl (decide (i<=j))):=a3H fun _ _ _ _ _ _ _ q=>le_int q
theorem Bj:OpR X (compareOp .Gt) (rI0 fun i j=>.bl (decide (j<i))):=a3H fun _ _ _ _ _ _ _ q=>gt_int q
theorem eV:OpR X (compareOp .In) (fun x y H Q=>∃ i j,x=.str i/\y=.str j/\Q (.bl (!(Builtin.Str.occurrences j i 0 j.length 1).isEmpty)) H):=by
 intro pins s zzs H x y v u Q I rx ry h;obtain⟨i,j,rfl,rfl,q⟩:=h;obtain⟨t,rfl⟩:=rx;obtain⟨t',rfl⟩:=ry;exact in_str (cZ I q rfl)
theorem zB:OpR X (compareOp .Is) (fun x y H Q=>y=.non/\Q (.bl (decide (x=.non))) H):=by
 intro pins s zzs H x y v u Q I rx ry h;obtain⟨rfl,q⟩:=h;cases ry;refine is_none_gen (cZ I q ?_);cases x<;>first
  |(cases rx;rfl)
  |(obtain⟨t,rfl⟩:=rx;rfl)
theorem gF:OpR X (compareOp .NotIn) (fun x y H Q=>∃ i j,x=.str i/\y=.str j/\Q (.bl (!(!(Builtin.Str.occurrences j i 0 j.length 1).isEmpty))) H):=by
 intro pins s zzs H x y v u Q I rx ry h;obtain⟨i,j,rfl,rfl,q⟩:=h;obtain⟨t,rfl⟩:=rx;obtain⟨t',rfl⟩:=ry;exact notIn_str (cZ I q rfl)
theorem OpR.or{f:Value->Value->Sem Value}{r r':R2}(h:OpR X f r)(h':OpR X f r'):OpR X f (fun x y H Q=>r x y H Q\/r' x y H Q):=by
 intro pins s zzs H x y v u Q I rx ry q;rcases q with q|q
 ·exact h pins s zzs H x y v u Q I rx ry q
 ·exact h' pins s zzs H x y v u Q I rx ry q
theorem cg(b:Expr){op:CmpOp}(h:op≠.In:=by decide)(h2:op≠.NotIn:=by decide):behindInMarks op b=false:=by
 have e1:(op==CmpOp.In)=false:=by cases op<;>first|rfl|exact absurd rfl h
 have e2:(op==CmpOp.NotIn)=false:=by cases op<;>first|rfl|exact absurd rfl h2
 cases b<;>simp[behindInMarks,e1,e2]
theorem a0T{op:CmpOp}{r:R2}(ho:OpR X (compareOp op) r)(ha:PE X a ta)(hb:PE X b tb)(hm:behindInMarks op b=false):PE X (.Compare a [op] [b] pos) (tOp r ta tb):=by
 intro pins s zzs H Q I h;exact wpAny_Compare1 (a2D ha hb I h fun v u s2 x y H2 I2 rx ry q=>ho pins s2 zzs H2 x y v u Q I2 rx ry q) hm
def Ti(t:TE):TT:=fun zzs H Q=>t zzs H fun x H'=>∃ k,x=.bl k/\Q k H'
theorem a1p{op:CmpOp}{r:R2}(ho:OpR X (compareOp op) r)(ha:PE X a ta)(hb:PE X b tb)(hm:behindInMarks op b=false):PT X (.Compare a [op] [b] pos) (Ti (tOp r ta tb)):=by
 intro pins s zzs H Q I h;refine wpAny_isTrue_Compare1 (thn (ha pins s zzs H _ I h) fun v s1 ⟨x,H1,I1,r1,q1⟩=>thn (hb pins s1 zzs H1 _ I1 q1) fun u s2 ⟨y,H2,I2,r2,q2⟩=>
  thn (ho pins s2 zzs H2 x y v u _ I2 r1 r2 q2) fun c s3 ⟨z,H3,I3,r3,k,e,q3⟩=>?_) hm
 subst e;cases r3;exact vO ⟨H3,I3,q3⟩
def JB(r r':R2)(ta tb tc:TE):TE:=fun zzs H Q=>ta zzs H fun x H1=>tb zzs H1 fun y H2=>r x y H2 fun z H3=>∃ k,z=.bl k /\
 (if k=true then tc zzs H3 fun w' H4=>r' y w' H4 Q else Q (.bl false) H3)
theorem Xc{op op':CmpOp}{r r':R2}(ho:OpR X (compareOp op) r)(ho':OpR X (compareOp op') r')(ha:PE X a ta)(hb:PE X b tb)(hc:PE X c tc)
  (hm:lastMarks [op,op'] [b,c]=false:=by with_unfolding_all rfl):PE X (.Compare a [op,op'] [b,c] pos) (JB r r' ta tb tc):=by
 intro pins s zzs H Q I h;refine Compare_chain (thn (ha pins s zzs H _ I h) fun v s1 ⟨x,H1,I1,r1,q1⟩=>chain_link (thn (hb pins s1 zzs H1 _ I1 q1) fun u s2 ⟨y,H2,I2,r2,q2⟩=>
  thn (ho pins s2 zzs H2 x y v u _ I2 r1 r2 q2) fun d s3 ⟨z,H3,I3,r3,k,e,q3⟩=>?_)) hm
 subst e;cases r3;refine vO ?_;cases k with
 |false=>exact ite_ff ⟨.bl false,H3,I3,rfl,q3⟩
 |true=>exact ite_tt (chain_last (thn (hc pins s3 zzs H3 _ I3 q3) fun w' s4 ⟨z',H4,I4,r4,q4⟩=>ho' pins s4 zzs H4 y z' u w' Q I4 r2 r4 q4))
theorem Xo{op op':CmpOp}{r r':R2}(ho:OpR X (compareOp op) r)(ho':OpR X (compareOp op') r')(ha:PE X a ta)(hb:PE X b tb)(hc:PE X c tc)
  (hm:lastMarks [op,op'] [b,c]=false:=by with_unfolding_all rfl):PT X (.Compare a [op,op'] [b,c] pos) (Ti (JB r r' ta tb tc)):=by
 intro pins s zzs H Q I h;refine isTrue_chain (thn (ha pins s zzs H _ I h) fun v s1 ⟨x,H1,I1,r1,q1⟩=>test_link (thn (hb pins s1 zzs H1 _ I1 q1) fun u s2 ⟨y,H2,I2,r2,q2⟩=>
  thn (ho pins s2 zzs H2 x y v u _ I2 r1 r2 q2) fun d s3 ⟨z,H3,I3,r3,k,e,q3⟩=>?_)) hm
 subst e;cases r3;refine vO ?_;cases k with
 |false=>
  obtain⟨k',e',q'⟩:=q3;cases e';exact ite_ff ⟨H3,I3,q'⟩
 |true=>
  refine ite_tt (test_last (thn (hc pins s3 zzs H3 _ I3 q3) fun w' s4 ⟨z',H4,I4,r4,q4⟩=>thn (ho' pins s4 zzs H4 y z' u w' _ I4 r2 r4 q4) fun d' s5 zzy=>?_));obtain⟨z2,H5,I5,r5,k2,e2,q5⟩:=zzy;subst e2;cases r5;exact vO ⟨H5,I5,q5⟩
theorem zA:(sizeLine:Nat)<2^63:=by rw[oX];decide
theorem Pq:OpR X (binaryOp .Add) (fun x y H Q=>∃ i j,x=.str i/\y=.str j/\i.length+j.length<=sizeLine/\Q (.str (i++j)) H):=by
 intro pins s zzs H x y v u Q I rx ry h;obtain⟨i,j,rfl,rfl,hz,q⟩:=h;obtain⟨t,rfl⟩:=rx;obtain⟨t',rfl⟩:=ry;exact add_str (fun t' tk=>⟨.str (i++j),H,I.tok _,⟨_,rfl⟩,q⟩) hz
theorem vals1{x:V}{us:List Value}(r:Vals [x] us):∃ u,us=[u]/\RelV x u:=by
 cases r with
 |cons r1 r2=>cases r2;exact⟨_,rfl,r1⟩
theorem vals2{x y:V}{us:List Value}(r:Vals [x,y] us):∃ u w',us=[u,w']/\RelV x u/\RelV y w':=by
 cases r with
 |cons r1 r2=>
  cases r2 with
  |cons r3 r4=>cases r4;exact⟨_,_,rfl,r1,r3⟩
theorem GD(hc:X.calm=true):eE X (.builtin "max") (fun xs H Q=>∃ i j,xs=[.int i,.int j]/\Q (.int (if j>i then j else i)) H):=by
 intro pins s zzs H xs us Q I r h;obtain⟨i,j,rfl,q⟩:=h;obtain⟨u,w',rfl,⟨t,rfl⟩,⟨t',rfl⟩⟩:=vals2 r;refine max_two_ints (I.ok.hd hc) fun h' tk k=>⟨_,H,I.kept k,?_,q⟩
 by_cases hj:j>i
 ·rw[aK hj,aK hj];exact⟨_,rfl⟩
 ·rw[aH hj,aH hj];exact⟨_,rfl⟩
theorem yU(hc:X.calm=true):eE X (.builtin "min") (fun xs H Q=>∃ i j,xs=[.int i,.int j]/\Q (.int (if j<i then j else i)) H):=by
 intro pins s zzs H xs us Q I r h;obtain⟨i,j,rfl,q⟩:=h;obtain⟨u,w',rfl,⟨t,rfl⟩,⟨t',rfl⟩⟩:=vals2 r;refine min_two_ints (I.ok.hd hc) fun h' tk k=>⟨_,H,I.kept k,?_,q⟩
 by_cases hj:j<i
 ·rw[aK hj,aK hj];exact⟨_,rfl⟩
 ·rw[aH hj,aH hj];exact⟨_,rfl⟩
theorem yS:eE X (.type "int") (fun xs H Q=>(∃ i,xs=[.int i]/\Q (.int i) H)\/∃ k,xs=[.bl k]/\Q (.int (if k then 1 else 0)) H):=by
 intro pins s zzs H xs us Q I r h;rcases h with⟨i,rfl,q⟩|⟨k,rfl,q⟩
 ·obtain⟨u,rfl,t,rfl⟩:=vals1 r;exact call_int_int ⟨.int i,H,I,⟨_,rfl⟩,q⟩
 ·obtain⟨u,rfl,r1⟩:=vals1 r;cases r1;exact call_int_bool ⟨.int (if k then 1 else 0),H,I.tok _,⟨_,rfl⟩,q⟩
theorem IV:eE X (.type "str") (fun xs H Q=>∃ i,xs=[.int i]/\i.natAbs.log2<1920/\Q (.str (toString i)) H):=by
 intro pins s zzs H xs us Q I r h;obtain⟨i,rfl,hz,q⟩:=h;obtain⟨u,rfl,t,rfl⟩:=vals1 r;exact PySem.P.str_of_int hz ⟨.str _,H,I.tok _,⟨_,rfl⟩,q⟩
end
structure Tp(h:Heap)(x dx C:Addr)(mA:Str->Option Value):Prop where
 obj:h.get? x=some (PySem.W.instObj C dx)
 ns:h.Ns1 dx mA
 ne:dx≠x
theorem Uq{h:Heap}{dx:Addr}{mA:Str->Option Value}(n:h.Ns1 dx mA):∃ od,h.get? dx=some od/\∀ name,PySem.W.lookIn name od=some (mA name):=by
 obtain⟨o,es,ep,ho,hd,hk,_,hm⟩:=n;refine⟨o,ho,fun name=>?_⟩;have e:=hm name;unfold nsFind findBy at e;rw[<- Array.find?_toList] at e;unfold PySem.W.lookIn;rw[hd];dsimp only;split
 ·rename_i y q;rw[q] at e;exact congrArg some e
 ·rename_i q;rw[q] at e;have a:es.toList.any (·.refKey)=false:=by
   rw[QJ];intro y hy;obtain⟨z,t,hkey⟩:=hk y (Array.mem_toList_iff.mp hy);simp[DictEntry.refKey,hkey]
  have a':¬es.toList.any (·.refKey)=true:=by rw[a];exact g8
  rw[aH a'];exact congrArg some e
theorem Tp.look{h:Heap}{x dx C:Addr}{mA:Str->Option Value}(I:Tp h x dx C mA):∃ od,PySem.W.InstAt h x (PySem.W.instObj C dx) C (some od)/\∀ name,PySem.W.lookIn name od=some (mA name):=
 let ⟨od,ho,hl⟩:=Uq I.ns
 ⟨od,⟨I.obj,rfl,rfl,ho⟩,hl⟩
section
variable{prog:Program}{w:World}{A:Around}{E:Value->Shared->Prop}{s:Shared}{K:ao}{x dx C f:Addr}{mA:Str->Option Value}{name:Str}{v:Value}
theorem get_map{expr:Bool}{Q:Value->Shared->Prop}(X:K.In s.heap)(I:Tp s.heap x dx C mA)(hg:PySem.W.plainGet K C name=true)(hh:PySem.W.hasDictIn K C=true)
  (ha:PySem.W.findIn K (.ref C) name=some none) (hv:mA name=some v) (hv':PySem.W.handedIn v=true) (h:Q v { s with toks:=s.toks+1 }) :
  wpAny (model prog w) A (getAttr (.ref x) name expr) Q E s:=by
 obtain⟨od,J,hl⟩:=I.look;exact PySem.W.get_value X J (PySem.W.plainGet_of hg).1 (PySem.W.findObj_own hh ha rfl (by rw[hl,hv])) hv' h
theorem a1M{ns:List Str}{Q:Unit->Shared->Prop}(X:K.In s.heap)(I:Tp s.heap x dx C mA)
  (hs:PySem.W.findIn K (.ref C) "__setattr__" = some (some (.builtin "object.__setattr__"))) (hp:PySem.W.plainOver K C=true) (ht:PySem.W.takerIn K C name=some none) (hh:PySem.W.hasDictIn K C=true)
  (hw:PySem.Within mA ns) (hsz:ns.length<=sizeLine)
  (h:∀ h',Tp h' x dx C (fun y=>if y=name then some v else mA y)->Heap.SameBut dx s.heap h'->Q () { s with heap:=h',toks:=s.toks+2 }) :
  wpAny (model prog w) A (setAttr (.ref x) name v) Q E s:=by
 obtain⟨od,J,hl⟩:=I.look;refine PySem.W.set_plain X J hs (PySem.W.osa_open (s:={ s with toks:=s.toks+1 }) (r:=none) X J hp ht fun b=>?_);obtain⟨cd,hc,hd'⟩:=PySem.W.any_some hh;have hx:s.heap.get? x=some ⟨.ref C,some dx,.plain,#[]⟩:=I.obj;refine aP (bL (aP (aP (wpAny_loadPart hx (aP (PySem.W.Looks.here (s:={ s with toks:=s.toks+1 }) (PySem.W.looks_clsIn X hc) ?_))))));rw[hd'];refine bL (a:=some dx) (aP (bL (aP ?_)));refine wpAny_nsSet1 (s:={ s with toks:=s.toks+1 }) I.ns fun h' hn2 hs2=>?_
 obtain⟨oD,esD,epD,hoD,hdD,hcD⟩:=hn2.count (PySem.Within.cons name v hw);refine aP (wpAny_lookBehind hoD (by rw[hdD];exact pastItsLine_dict (cX hcD (by rw[iR];lia))) ?_);exact bL (h _ ⟨(hs2.2 _ (j5 I.ne)).trans I.obj,hn2,I.ne⟩ hs2)
theorem Ww{R:Result->Shared->Prop}{vs:List Value}{kw:List (Str×Value)}(X:K.In s.heap)(hm:PySem.W.makesIn K C=true)
  (hi:PySem.W.findIn K (.ref C) "__init__" = some (some (.ref f))) (hf:PySem.W.typeIn K (.ref f)=some (.type "function"))
  (h:codeAny (model prog w) (A.under (.builtin "type.__call__" ⟨.ref C::vs,kw⟩)) (.call (.ref f) ⟨.ref (s.heap.objs.size+1)::vs,kw⟩) (PySem.W.InitBack (s.heap.objs.size+1) R)
   { s with heap:=(s.heap.push PySem.W.emptyDict).push (PySem.W.instObj C s.heap.objs.size) }) :
  codeAny (model prog w) A (.call (.ref C) ⟨vs,kw⟩) R s:=by
 obtain⟨hh,g,d,t,os⟩:=s;exact PySem.W.make_core (PySem.W.makes_of X hm) (PySem.W.looks_findIn X hi) (fun self=>PySem.W.bind_fn X self hf) (.inl rfl) h
end
def mq(f:Str)(v:V):List (Str×V)->List (Str×V)
 |[]=>[(f,v)]
 |(g,x)::r=>if g=f then(g,v)::r else(g,x)::mq f v r
theorem gZ(f g:Str)(v:V):∀ fs:List (Str×V),(mq f v fs).lookup g=if g=f then some v else fs.lookup g
 |[]=>by
  show List.lookup g [(f,v)]=_;by_cases h:g=f
  ·have hb:(g==f)=true:=lZ.mpr h;simp only[List.lookup,hb,aK h]
  ·have hb:(g==f)=false:=qg.mpr h;simp only[List.lookup,hb,aH h]
 |(k,x)::r=>by
  have ih:=gZ f g v r;rw[show mq f v ((k,x)::r)=(if k=f then(k,v)::r else(k,x)::mq f v r) from rfl];by_cases hk:k=f
  ·rw[aK hk];by_cases h:g=k
   ·have hb:(g==k)=true:=lZ.mpr h;simp only[List.lookup,hb,aK (h.trans hk)]
   ·have hb:(g==k)=false:=qg.mpr h;simp only[List.lookup,hb,aH (fun e:g=f=>h (e.trans hk.symm))]
  ·rw[aH hk];by_cases h:g=k
   ·have hb:(g==k)=true:=lZ.mpr h;simp only[List.lookup,hb,aH (fun e:g=f=>hk (h.symm.trans e))]
   ·have hb:(g==k)=false:=qg.mpr h;simp only[List.lookup,hb];exact ih
theorem zy(f:Str)(v:V):∀ fs:List (Str×V),f∈(mq f v fs).map (·.1)/\∀ g,g∈fs.map (·.1)->g∈(mq f v fs).map (·.1)
 |[]=>⟨by simp[mq],fun g h=>by simp at h⟩
 |(k,x)::r=>by
  obtain⟨i1,i2⟩:=zy f v r;rw[show mq f v ((k,x)::r)=(if k=f then(k,v)::r else(k,x)::mq f v r) from rfl];by_cases hk:k=f
  ·rw[aK hk];subst hk;exact⟨by simp,fun g h=>by simpa using h⟩
  ·rw[aH hk];refine⟨?_,fun g h=>?_⟩
   ·rw[gq];exact fU _ i1
   ·rw[gq] at h ⊢;rcases cW.mp h with e|e
    ·exact cW.mpr (.inl e)
    ·exact fU _ (i2 g e)
theorem oN(f:Str)(v:V):∀ fs:List (Str×V),(mq f v fs).length<=fs.length+1
 |[]=>by simp[mq]
 |(k,x)::r=>by
  have ih:=oN f v r;rw[show mq f v ((k,x)::r)=(if k=f then(k,v)::r else(k,x)::mq f v r) from rfl];by_cases hk:k=f
  ·rw[aK hk,iR,iR];lia
  ·rw[aH hk,iR,iR];lia
theorem yK.some_of{v:V}{o:Option Value}(r:yK (some v) o):∃ u,o=some u/\RelV v u:=by
 cases o with
 |none=>exact(show False from r).elim
 |some u=>exact⟨u,rfl,r⟩
theorem Ue{v:V}{u:Value}(r:RelV v u):PySem.W.handedIn u=true:=by
 cases v with
 |non=>cases (show u=Value.none from r);rfl
 |bl b=>cases (show u=Value.bool b from r);rfl
 |int i=>obtain⟨t,e⟩:=(show ∃ t,u=Value.int i t from r);cases e;rfl
 |str x=>obtain⟨t,e⟩:=(show ∃ t,u=Value.str x t from r);cases e;rfl
 |byt b=>obtain⟨t,e⟩:=(show ∃ t,u=Value.bytes b t from r);cases e;rfl
 |flt b=>obtain⟨t,e⟩:=(show ∃ t,u=Value.float b t from r);cases e;rfl
 |ref a=>cases (show u=Value.ref a from r);rfl
 |ty n=>cases (show u=Value.type n from r);rfl
section
variable{P:Program}{w:World}{H H':Hp}{h h':Heap}{a C dx:Addr}{fs fs':List (Str×V)}
theorem Jl(hok:HOk P w H h)(e:H a=some (.ins C dx fs)):∃ mA,Tp h a dx C mA/\(∀ f,yK (fs.lookup f) (mA f))/\PySem.Within mA (fs.map (·.1))/\fs.length<=1000/\H dx=some (.own a):=by
 obtain⟨d,z,ne,ob,mA,n,r,q⟩:=(show fQ P w H h a (.ins C dx fs) from hok a _ e)
 exact⟨mA,⟨ob,n,ne⟩,r,q,z,d⟩
end
structure Cls(K:ao)(C:Addr):Prop where
 pg:PySem.W.plainGet K C Str.empty=true
 hd:PySem.W.hasDictIn K C=true
 po:PySem.W.plainOver K C=true
 sa:PySem.W.findIn K (.ref C) "__setattr__" = some (some (.builtin "object.__setattr__"))
theorem Cls.get{K:ao}{C:Addr}(c:Cls K C)(f:Str):PySem.W.plainGet K C f=true:=c.pg
def qy(K:ao)(C:Addr)(f:Str):Prop:=PySem.W.findIn K (.ref C) f=some none
theorem qy.taker{K:ao}{C:Addr}{f:Str}(n:qy K C f):PySem.W.takerIn K C f=some none:=by
 unfold PySem.W.takerIn;rw[show PySem.W.findIn K (.ref C) f=some none from n];rfl
section
variable{X:Cx}{pins:List (Addr×Obj)}{zzs:St}{H:Hp}{s:Shared}{a C dx:Addr}{fs:List (Str×V)}{f:Str}{v:V}{A:Around}{E:Value->Shared->Prop}
theorem Ox{b:Bool}{Q:Value->Shared->Prop}(I:Inv X pins zzs H s)(e:H a=some (.ins C dx fs))(c:Cls X.K C)(n:qy X.K C f)(l:fs.lookup f=some v)
  (h:∀ u s',Inv X pins zzs H s'->RelV v u->Q u s'):wpAny (model X.prog X.w) A (getAttr (.ref a) f b) Q E s:=by
 obtain⟨mA,O,r,_,_,_⟩:=Jl I.hok e;obtain⟨u,hu,ru⟩:=yK.some_of (v:=v) (o:=mA f) (by rw[<- l];exact r f);exact get_map I.kIn O (c.get f) c.hd n hu (Ue ru) (h u _ (I.tok _) ru)
theorem Qa{y:V}{u:Value}{Q:Unit->Shared->Prop}(I:Inv X pins zzs H s)(e:H a=some (.ins C dx fs))(c:Cls X.K C)(n:qy X.K C f)(hl:fs.length<1000)(ry:RelV y u)
  (h:∀ s',Inv X pins zzs (upd H a (.ins C dx (mq f y fs))) s'->Q () s'):wpAny (model X.prog X.w) A (setAttr (.ref a) f u) Q E s:=by
 obtain⟨mA,O,r,wi,_,ho⟩:=Jl I.hok e;have hz:(fs.map (·.1)).length<=sizeLine:=by rw[aR,oX];lia
 refine a1M I.kIn O c.sa c.po n.taker c.hd wi hz fun h' O' sb=>h _ ?_
 have hd:∃ o,h'.get? dx=some o:=let ⟨o,_,_,e',_⟩:=O'.ns;⟨o,e'⟩;refine I.write (x:=a) (e:=dx) (by rw[e];exact True.intro) (.inr ho) (fun b q hb z=>(sb.2 b hb).trans z) hd ?_;refine⟨by rw[bD O.ne];exact ho,?_,O.ne,O'.obj,_,O'.ns,fun g=>?_,fun g hg=>?_⟩
 ·have:=oN f y fs;lia
 ·show yK ((mq f y fs).lookup g) (if g=f then some u else mA g);rw[gZ];by_cases q:g=f
  ·rw[aK q,aK q];exact ry
  ·rw[aH q,aH q];exact r g
 ·by_cases q:g=f
  ·rw[q];exact(zy f y fs).1
  ·refine(zy f y fs).2 g (wi g fun z=>hg ?_);show(if g=f then some u else mA g)=none;rw[aH q];exact z
theorem Inv.made(I:Inv X pins zzs H s):Inv X pins zzs (upd (upd H s.heap.objs.size (.own (s.heap.objs.size+1))) (s.heap.objs.size+1) (.ins C s.heap.objs.size []))
  { s with heap:=(s.heap.push PySem.W.emptyDict).push (PySem.W.instObj C s.heap.objs.size) }:=by
 have e1:(s.heap.push PySem.W.emptyDict).get? s.heap.objs.size=some PySem.W.emptyDict:=fV s.heap rfl;have e2:((s.heap.push PySem.W.emptyDict).push (PySem.W.instObj C s.heap.objs.size)).get? (s.heap.objs.size+1)=some (PySem.W.instObj C s.heap.objs.size):=by
  have:=fV (s.heap.push PySem.W.emptyDict) (o:=PySem.W.instObj C s.heap.objs.size) rfl;rwa[Ar] at this
 have e3:(s.heap.push PySem.W.emptyDict).Ns s.heap.objs.size (fun _=>none):=⟨PySem.W.emptyDict,#[],_,e1,rfl,(fun e he=>absurd he (by simp)),fun _=>rfl⟩
 have I1:=I.laid (a:=s.heap.objs.size) (o:=.own (s.heap.objs.size+1)) (h':=s.heap.push PySem.W.emptyDict) (t':=s.toks) (fun b u q=>eY _ q) (bK _) ⟨_,e1⟩;refine I1.laid (a:=s.heap.objs.size+1) (o:=.ins C s.heap.objs.size []) (t':=s.toks) (fun b u q=>eY _ q) (Nat.le_of_eq (Ar _ _)) ?_;have ne:s.heap.objs.size≠s.heap.objs.size+1:=dU (K8 _);refine⟨by rw[bD ne,au],j7 _,ne,e2,fun _=>none,(Heap.Ns1.of_empty e3).at fun o q=>eY _ q,fun _=>True.intro,fun y hy=>absurd rfl hy⟩
theorem a03{prog:Program}{w:World}{env:Env}{e:Expr}{f:Str}{pos:Pos}{s:Shared}{Q:Value->Shared->Prop}(hb:attributeBase e f env (eval e env)=eval e env)
  (h:wpAny (model prog w) A (eval e env) (fun o s₁=>wpAny (model prog w) A (getAttr o f true) Q E s₁) E s):wpAny (model prog w) A (eval (.Attribute e f pos) env) Q E s:=
 Attribute_any_ h (by rw[arm_eval_Attribute,hb])
end
def a4H(K:ao)(ta:TE)(f:Str):TE:=fun zzs H Q=>ta zzs H fun x H1=>∃ a C dx fs v,x=.ref a/\H1 a=some (.ins C dx fs)/\Cls K C/\qy K C f/\fs.lookup f=some v/\Q v H1
def a6a(K:ao)(ta tv:TE)(f:Str):TS:=fun D zzs H=>tv zzs H fun y H1=>ta zzs H1 fun x H2=>∃ a C dx fs,x=.ref a/\H2 a=some (.ins C dx fs)/\Cls K C/\qy K C f/\fs.length<1000 /\
 D.nx zzs (upd H2 a (.ins C dx (mq f y fs)))
section
variable{X:Cx}{o e value:Expr}{f:Str}{pos pos' tpos:Pos}{ta tv:TE}
theorem a3T(he:PE X e ta)(hb:attributeBase e f X.env (eval e X.env)=eval e X.env):PE X (.Attribute e f pos) (a4H X.K ta f):=by
 intro pins s zzs H Q I h;refine a03 hb (thn (he pins s zzs H _ I h) fun u s1 zzy=>?_);obtain⟨x,H1,I1,rx,a,C,dx,fs,v,ex,ea,c,n,l,q⟩:=zzy;subst ex;obtain rfl:u=Value.ref a:=rx;exact Ox I1 ea c n l fun u' s2 I2 ru=>⟨v,H1,I2,ru,q⟩
theorem a4i(ha:PE X o ta)(hv:PE X value tv)(hs:swapsWith value (some (.Attribute o f pos')) pos.line X.env=pure false):PS X (.Assign [.Attribute o f pos'] value pos) (a6a X.K ta tv f):=by
 intro pins s zzs H D I h;refine plainObj_wpAny_Assign_Attribute (thn (hv pins s zzs H _ I h) fun u s1 ⟨y,H1,I1,ry,q⟩=>thn (ha pins s1 zzs H1 _ I1 q) fun ov s2 zzy=>?_) hs;obtain⟨x,H2,I2,rx,a,C,dx,fs,ex,ea,c,n,l,q2⟩:=zzy;subst ex;obtain rfl:ov=Value.ref a:=rx;exact Qa I2 ea c n l ry fun s3 I3=>⟨zzs,_,I3,q2⟩
end
section
variable{X:Cx}{pins:List (Addr×Obj)}{zzs:St}{H:Hp}{s:Shared}{A:Around}{E:Value->Shared->Prop}{Q:Value->Shared->Prop}{c:Value}{b:Bool}
inductive yM(K:ao)(H:Hp):V->Value->Prop where
 |non:yM K H .non (.type "NoneType")
 |bl (x:Bool):yM K H (.bl x) (.type "bool")
 |int (i:Int):yM K H (.int i) (.type "int")
 |str (x:Str):yM K H (.str x) (.type "str")
 |flt (x:UInt64):yM K H (.flt x) (.type "float")
 |lst {a:Addr} {xs:List V} (e:H a=some (.lst xs)):yM K H (.ref a) (.type "list")
 |frz {a:Addr} {o:Obj} {xs:List V} (e:H a=some (.frz o (.lst xs))):yM K H (.ref a) (.type "list")
 |tup {a:Addr} {xs:List V} (e:H a=some (.tup xs)):yM K H (.ref a) (.type "tuple")
 |dK {a:Addr} {kvs:List (Key×V)} (e:H a=some (.dK kvs)):yM K H (.ref a) (.type "dict")
 |dT {a:Addr} {kvs:List (List Key×V)} (e:H a=some (.dT kvs)):yM K H (.ref a) (.type "dict")
 |ins {a C dx:Addr} {fs:List (Str×V)} (e:H a=some (.ins C dx fs)) (cl:Cls K C) (ha:PySem.W.findIn K (.ref C) "__class__" = some (some (.builtin "object.__class__")))
   (hn:PySem.W.specialIn K (.builtin "object.__class__") "__get__" = some (some (.builtin "getset_descriptor.__get__"))) (htk:PySem.W.takesIn K (.builtin "object.__class__")=some true)
   (hm:PySem.W.mroIn K C (.type "object")=some true):yM K H (.ref a) (.ref C)
theorem Ui{x:V}{u t:Value}(I:Inv X pins zzs H s)(rx:RelV x u)(ty:yM X.K H x t)(e:PySem.W.kitOne X.K t c=some b)(h:∀ tk,Q (.bool b) { s with toks:=tk }) :
  wpAny (model X.prog X.w) A (call (.builtin "isinstance") [u,c]) Q E s:=by
 cases ty with
 |non=>cases (show u=Value.none from rx);exact qp PySem.W.kitx_none I.kIn True.intro e (fun z=>nomatch z) h
 |bl y=>cases (show u=Value.bool y from rx);exact qp PySem.W.kitx_bool I.kIn True.intro e (fun z=>nomatch z) h
 |int i=>obtain⟨t,q⟩:=(show ∃ t,u=Value.int i t from rx);cases q;exact qp PySem.W.kitx_int I.kIn True.intro e (fun z=>nomatch z) h
 |str y=>obtain⟨t,q⟩:=(show ∃ t,u=Value.str y t from rx);cases q;exact qp PySem.W.kitx_str I.kIn True.intro e (fun z=>nomatch z) h
 |flt y=>obtain⟨t,q⟩:=(show ∃ t,u=Value.float y t from rx);cases q;exact qp PySem.W.kitx_float I.kIn True.intro e (fun z=>nomatch z) h
 |@lst a xs ea=>
  cases (show u=Value.ref a from rx);obtain⟨_,_,n,_,h1⟩:=(show fQ X.prog X.w H s.heap a (.lst xs) from I.hok a _ ea)
  exact qp QK I.kIn ⟨_,h1,rfl⟩ e (fun z=>nomatch z) h
 |@frz a ob xs ea=>
  cases (show u=Value.ref a from rx);obtain⟨_,_,_,n,_,h1⟩:=(show fQ X.prog X.w H s.heap a (.frz ob (.lst xs)) from I.hok a _ ea)
  exact qp QK I.kIn ⟨_,h1,rfl⟩ e (fun z=>nomatch z) h
 |@tup a xs ea=>
  cases (show u=Value.ref a from rx);obtain⟨_,_,_,p⟩:=(show fQ X.prog X.w H s.heap a (.tup xs) from I.hok a _ ea)
  obtain⟨o,h1,h2,_⟩:=p;exact qp ZG I.kIn ⟨o,h1,h2⟩ e (fun z=>nomatch z) h
 |@dK a kvs ea=>
  cases (show u=Value.ref a from rx);obtain⟨_,_,vs,_,p⟩:=(show fQ X.prog X.w H s.heap a (.dK kvs) from I.hok a _ ea)
  obtain⟨o,es,ep,h1,h2,_⟩:=p;exact qp PySem.W.kitx_dict I.kIn ⟨o,h1,h2.1⟩ e (fun z=>nomatch z) h
 |@dT a kvs ea=>
  cases (show u=Value.ref a from rx);obtain⟨_,_,xs,_,o,es,ep,h1,h2,_⟩:=(show fQ X.prog X.w H s.heap a (.dT kvs) from I.hok a _ ea)
  exact qp PySem.W.kitx_dict I.kIn ⟨o,h1,h2.1⟩ e (fun z=>nomatch z) h
 |@ins a C dx fs ea cl ha hn htk hm=>
  cases (show u=Value.ref a from rx);obtain⟨mA,O,_⟩:=Jl I.hok ea;obtain⟨od,J,_⟩:=O.look;exact qp (PySem.W.kitx_own (cl.get _) cl.hd ha hn htk hm) I.kIn J e (fun z=>nomatch z) h
end
structure iI(k:Nat)(A:Around):Prop where
 hd:A.handled=none
 dp:A.depth+3*k+5<recursionLimit
 un:A.units+16*k+200<cLine
theorem iI.mono{j k:Nat}{A:Around}(r:iI k A)(h:j<=k):iI j A:=⟨r.hd,by have:=r.dp;lia,by have:=r.un;lia⟩
theorem iI.deeper{k:Nat}{A:Around}(r:iI (k+1) A)(env:Env):iI k (A.deeper env):=
 ⟨r.hd,by have:=r.dp;show A.depth+1+3*k+5<_;lia,by have:=r.un;show A.units+3+16*k+200<_;lia⟩
theorem OD{A:Around}{C:Addr}{us:List Value}{kw:List (Str×Value)}:(A.under (.builtin "type.__call__" ⟨.ref C::us,kw⟩)).depth=A.depth+1:=by
 first|rfl|simp[Around.under,Code.weight,Code.isCreation,Code.isGuard,Code.isCaller,Code.frames,Code.isFrame,guardIds]
theorem OJ{A:Around}{C:Addr}{us:List Value}{kw:List (Str×Value)}:(A.under (.builtin "type.__call__" ⟨.ref C::us,kw⟩)).units=A.units+1:=by
 first|rfl|simp[Around.under,Code.cUnits,Code.frames,Code.isFrame]
theorem iI.make{k:Nat}{A:Around}(r:iI (k+1) A)(C:Addr)(us:List Value)(kw:List (Str×Value)):iI k (A.under (.builtin "type.__call__" ⟨.ref C::us,kw⟩)):=
 ⟨r.hd,by have:=r.dp;rw[OD];lia,by have:=r.un;rw[OJ];lia⟩
theorem iI.depth{k:Nat}{A:Around}(r:iI k A):A.depth<recursionLimit:=by have:=r.dp;lia
theorem iI.units{k:Nat}{A:Around}(r:iI k A):A.units+64<cLine:=by have:=r.un;lia
def jF:TA:=fun _ H Q=>Q [] H
def uh(ta:TE)(tr:TA):TA:=fun zzs H Q=>ta zzs H fun x H1=>tr zzs H1 fun xs H2=>Q (x::xs) H2
section
variable{X:Cx}{e:Expr}{es:List Expr}{te:TE}{t:TA}{pos:Pos}
theorem X8:PA X [] jF:=fun _ _ _ _ H Q I h=>Calls.spliced_nil ⟨[],H,I,.nil,h⟩
theorem Sg(ha:PE X e te)(hr:PA X es t)(hs:starEach (e::es) X.env=(false,eval e X.env)::starEach es X.env:=by rfl):PA X (e::es) (uh te t):=by
 intro pos pins s zzs H Q I h;rw[hs];show wpAny _ _ (spliced ((false,eval e X.env)::backTo pos (starEach es X.env))) _ _ s;refine Calls.spliced_cons (thn (ha pins s zzs H _ I h) fun u s1 zzy=>?_);obtain⟨x,H1,I1,r1,q1⟩:=zzy;exact thn (hr pos pins s1 zzs H1 _ I1 q1) fun us s2 ⟨xs,H2,I2,r2,q2⟩=>⟨x::xs,H2,I2,.cons r1 r2,q2⟩
def a4L(t:TA):TE:=fun zzs H Q=>t zzs H fun xs H1=>xs.length<=sizeLine/\∀ p,H1 p=none->Q (.ref p) (upd H1 p (.tup xs))
def a4J(t:TA):TE:=fun zzs H Q=>t zzs H fun xs H1=>xs.length<=sizeLine/\∀ p,H1 p=none->Q (.ref p) (upd H1 p (.lst xs))
theorem a4a {x1} (h:PA X es t):PE X (.Tuple es x1 pos) (a4L t):=by
 intro pins s zzs H Q I hq;refine wpAny_Tuple_spliced (thn (h pos pins s zzs H _ I hq) fun us s1 ⟨xs,H1,I1,r,z,q⟩=>⟨by rw[<- r.length];exact z,?_⟩);have hf:H1 s1.heap.objs.size=none:=I1.hok.fresh (bK _);refine⟨.ref s1.heap.objs.size,upd H1 s1.heap.objs.size (.tup xs),I1.laid (t':=s1.toks) (fun b u e=>eY _ e) (bK _) ?_,rfl,q _ hf⟩;exact⟨z,us,r,⟨_,fV _ rfl,rfl,_,rfl⟩⟩
theorem a3V(h:PA X es t):PE X (.List es pos) (a4J t):=by
 intro pins s zzs H Q I hq;refine wpAny_List_spliced (thn (h pos pins s zzs H _ I hq) fun us s1 ⟨xs,H1,I1,r,z,q⟩=>⟨by rw[<- r.length];exact z,?_⟩);have hf:H1 s1.heap.objs.size=none:=I1.hok.fresh (bK _);refine⟨.ref s1.heap.objs.size,upd H1 s1.heap.objs.size (.lst xs),I1.laid (t':=s1.toks) (fun b u e=>eY _ e) (bK _) ?_,rfl,q _ hf⟩;exact⟨z,us,0,r,fV _ rfl⟩
end
abbrev Sp:=List V->Hp->VK->XK->Prop
abbrev CXT:=List Env->Hp->Shared->XK->Value->Shared->Prop
structure O1(P:Program)(w:World)(K:ao)(mg:Str->Option Value)(base:Heap)(A:Around)(outer:List Env)(s:Shared)(H:Hp):Prop where
 frames:A.frames=some outer
 mod:Mod K mg base
 bs:∀ b o,base.get? b=some o->s.heap.get? b=some o/\H b=none
 bsz:base.objs.size<=s.heap.objs.size
 xu:s.heap.FunFrames base outer
 frf:∀ b∈frs outer,H b=none
 hok:HOk P w H s.heap
 bare:AllBare s.gens
def CE(outer:List Env)(P:Program)(w:World)(H:Hp)(s:Shared)(Q:VK)(u:Value)(s':Shared):Prop:=
 ∃ v H',s'.os=s.os/\AllBare s'.gens/\Un (frs outer) [] H H' s.heap s'.heap/\HOk P w H' s'.heap/\RelV v u/\Q v H'
def CR(CX:CXT)(outer:List Env)(P:Program)(w:World)(H:Hp)(s:Shared)(Q:VK)(E:XK)(r:Result)(s':Shared):Prop:=
 match r with
 |.ok (.ret u)=>CE outer P w H s Q u s'
 |.ok _=>False
 |.error e=>CX outer H s E e s'
structure cY(P:Program)(w:World)(K:ao)(mg:Str->Option Value)(base:Heap)(CX:CXT)(k:Nat)(f:Addr)(fd:FuncData)(ps:List Str)(sp:Sp):Prop where
 len:∀ vs H Q E,sp vs H Q E->vs.length=ps.length
 run:∀(A:Around)(outer:List Env)(s:Shared)(H:Hp)(args:Args)(us:List Value)(vs:List V)(Q:VK)(E:XK),iI k A->O1 P w K mg base A outer s H->BindsTo s fd args (ps.zip us)->Vals vs us->sp vs H Q E ->
  codeAny (model P w) A (.call (.ref f) args) (CR CX outer P w H s Q E) s
theorem O1.make{P:Program}{w:World}{K:ao}{mg:Str->Option Value}{base:Heap}{A:Around}{outer:List Env}{s:Shared}{H:Hp}(e:O1 P w K mg base A outer s H)(C:Addr)(us:List Value)(kw:List (Str×Value)) :
  O1 P w K mg base (A.under (.builtin "type.__call__" ⟨.ref C::us,kw⟩)) outer s H:=⟨by first|exact e.frames|(simpa [Around.under,Code.envs,Code.isFrame,pushEnvs] using e.frames),e.mod,e.bs,e.bsz,e.xu,e.frf,e.hok,e.bare⟩
section
variable{X:Cx}{pins:List (Addr×Obj)}{zzs:St}{H:Hp}{s s':Shared}
theorem Inv.env0(I:Inv X pins zzs H s):O1 X.prog X.w X.K X.mg X.base X.A X.stack s H:=
 ⟨I.ok.frames,I.ok.mod,I.bs,cX I.ok.bsz I.sz,I.stack,I.yd,I.hok,I.bare⟩
theorem Inv.after{Q:VK}{u:Value}(I:Inv X pins zzs H s)(h:CE X.stack X.prog X.w H s Q u s'):EP X pins zzs Q u s':=by
 obtain⟨v,H',os,bare,un,hok,r,q⟩:=h;obtain⟨hh,g,d,t,os'⟩:=s';obtain rfl:os'=s.os:=os;exact⟨v,H',I.call (h':=hh) (g':=g) (d':=d) (t':=t) (ch:=[]) un hok bare (fun b z=>absurd z (by simp)),r,q⟩
end
def Tf(sp:Sp)(dvs:List V)(E:XK)(t:TA):TE:=fun zzs H Q=>t zzs H fun vs H1=>sp (vs++dvs) H1 Q E
def YH(C:Addr)(sp:Sp)(dvs:List V)(E:XK)(t:TA):TE:=fun zzs H Q=>t zzs H fun vs H1=>∀ x dx,H1 x=none->H1 dx=none->dx≠x ->
 sp (.ref x::(vs++dvs)) (upd (upd H1 dx (.own x)) x (.ins C dx [])) (fun v H2=>v=.non/\Q (.ref x) H2) E
def Binds(K:ao)(fd:FuncData)(ps:List Str)(ds:List Value):Prop:=
 ∀(s:Shared)(us:List Value),K.In s.heap->(us++ds).length=ps.length->BindsTo s fd ⟨us,[]⟩ (ps.zip (us++ds))
theorem Binds.all{K:ao}{fd:FuncData}{ps:List Str}(h:∀ us:List Value,us.length=ps.length->bindArgs fd ⟨us,[]⟩=pure (ps.zip us)):Binds K fd ps []:=fun s us _ hl=>by
 rw[rT] at hl ⊢;exact .of_eq (h us hl)
def Passes(CX:CXT)(X:Cx)(E:XK):Prop:=∀(pins:List (Addr×Obj))(zzs:St)(H:Hp)(s:Shared)(e:Value)(s':Shared),Inv X pins zzs H s->CX X.stack H s E e s'->X.xe e s'
section
variable{X:Cx}{CX:CXT}{k:Nat}{f C:Addr}{fd:FuncData}{ps:List Str}{sp:Sp}{dvs:List V}{ds:List Value}{E:XK}{x m:Str}{p pos apos:Pos}{e o:Expr}{es:List Expr}{ta:TE}{t:TA}
theorem a4C{pins:List (Addr×Obj)}{zzs:St}{H:Hp}{s:Shared}{Q:VK}{us:List Value}{vs:List V}(F:cY X.prog X.w X.K X.mg X.base CX k f fd ps sp)(hr:iI k X.A)(hb:Binds X.K fd ps ds)(hd:Vals dvs ds)(hx:Passes CX X E)
  (I:Inv X pins zzs H s) (r:Vals vs us) (h:sp (vs++dvs) H Q E):wpAny (model X.prog X.w) X.A (call (.ref f) us) (EP X pins zzs Q) X.xe s:=by
 have r2:Vals (vs++dvs) (us++ds):=r.append hd;have hl:(us++ds).length=ps.length:=by rw[<- r2.length];exact F.len _ _ _ _ h
 refine Kv (pB (F.run X.A X.stack s H ⟨us,[]⟩ (us++ds) (vs++dvs) Q E hr I.env0 (hb s us I.kIn hl) r2 h) fun r s' hq=>?_);cases r with
 |error e=>exact hx pins zzs H s e s' I hq
 |ok fl=>
  cases fl with
  |ret u=>exact I.after hq
  |next=>exact False.elim hq
  |brk=>exact False.elim hq
  |cont=>exact False.elim hq
theorem a0S(F:cY X.prog X.w X.K X.mg X.base CX k f fd ps sp)(hr:iI k X.A)(hg:Gl X x)(hm:X.mg x=some (.ref f))(hk:PySem.W.keepIn X.K (.ref f)=true)(hb:Binds X.K fd ps ds)(hd:Vals dvs ds)(hx:Passes CX X E)
  (ha:PA X (e::es) t) (hdb:(x==("__debug__" : Str))=false:=by decide) (he:starEach (e::es) X.env=(false,eval e X.env)::starEach es X.env:=by rfl) (hpl:(backTo pos (starEach es X.env)).any (·.1)=false:=by rfl) :
  PE X (.Call (.Name x p) (e::es) [] pos) (Tf sp dvs E t):=by
 intro pins s zzs H Q I h;refine Ac (uW I hg hm ?_ hdb);refine QD (h₀:=X.base) I.ok.mod.kin hk (thn (ha pos pins s zzs H _ I h) fun us s1 ⟨vs,H1,I1,r,q⟩=>⟨I1.kIn,?_⟩) he hpl;exact a4C F hr hb hd hx I1 r q
structure Mk(K:ao)(C f:Addr):Prop where
 makes:PySem.W.makesIn K C=true
 init:PySem.W.findIn K (.ref C) "__init__" = some (some (.ref f))
 fn:PySem.W.isFn K (.ref f)=true
 kp:PySem.W.keepIn K (.ref C)=true
theorem Y4{pins:List (Addr×Obj)}{zzs:St}{H:Hp}{s:Shared}{Q:VK}{us:List Value}{vs:List V}(M:Mk X.K C f)(F:cY X.prog X.w X.K X.mg X.base CX k f fd ps sp)(hr:iI (k+1) X.A)(hb:Binds X.K fd ps ds)(hd:Vals dvs ds)
  (hx:Passes CX X E) (I:Inv X pins zzs H s) (r:Vals vs us)
  (h:∀ x dx,H x=none->H dx=none->dx≠x->sp (.ref x::(vs++dvs)) (upd (upd H dx (.own x)) x (.ins C dx [])) (fun v H2=>v=.non/\Q (.ref x) H2) E) :
  wpAny (model X.prog X.w) X.A (call (.ref C) us) (EP X pins zzs Q) X.xe s:=by
 have hq:=h (s.heap.objs.size+1) s.heap.objs.size (I.hok.fresh (oE _)) (I.hok.fresh (bK _)) (dU (K8 _));have I2:=Inv.made (C:=C) I;have r2:Vals (V.ref (s.heap.objs.size+1)::(vs++dvs)) (Value.ref (s.heap.objs.size+1)::(us++ds)):=.cons rfl (r.append hd);have hl:(Value.ref (s.heap.objs.size+1)::us++ds).length=ps.length:=by
  have e:=r2.length;rw[F.len _ _ _ _ hq] at e;exact e.symm
 refine Kv (Ww (f:=f) I.kIn M.makes M.init (lZ.mp M.fn) (pB (F.run _ X.stack _ _ ⟨Value.ref (s.heap.objs.size+1)::us,[]⟩ (Value.ref (s.heap.objs.size+1)::(us++ds)) _ _ E (hr.make C us [])
  (I2.env0.make C us []) (hb _ (Value.ref (s.heap.objs.size+1)::us) I2.kIn hl) r2 hq) fun r s' hq'=>?_))
 cases r with
 |error e=>exact hx pins zzs _ _ e s' I2 hq'
 |ok fl=>
  cases fl with
  |ret u=>
   obtain⟨v,H',I3,rv,ev,q3⟩:=I2.after hq';subst ev;exact⟨rv,⟨V.ref (s.heap.objs.size+1),H',I3,rfl,q3⟩⟩
  |next=>exact False.elim hq'
  |brk=>exact False.elim hq'
  |cont=>exact False.elim hq'
theorem a0X(M:Mk X.K C f)(F:cY X.prog X.w X.K X.mg X.base CX k f fd ps sp)(hr:iI (k+1) X.A)(hg:Gl X x)(hm:X.mg x=some (.ref C))(hb:Binds X.K fd ps ds)(hd:Vals dvs ds)(hx:Passes CX X E)
  (ha:PA X (e::es) t) (hdb:(x==("__debug__" : Str))=false:=by decide) (he:starEach (e::es) X.env=(false,eval e X.env)::starEach es X.env:=by rfl) (hpl:(backTo pos (starEach es X.env)).any (·.1)=false:=by rfl) :
  PE X (.Call (.Name x p) (e::es) [] pos) (YH C sp dvs E t):=by
 intro pins s zzs H Q I h;refine Ac (uW I hg hm ?_ hdb);refine QD (h₀:=X.base) I.ok.mod.kin M.kp (thn (ha pos pins s zzs H _ I h) fun us s1 ⟨vs,H1,I1,r,q⟩=>⟨I1.kIn,?_⟩) he hpl;exact Y4 M F hr hb hd hx I1 r q
end
def PK(X:Cx)(kws:List Keyword)(t:TA):Prop:=
 ∀(pos:Pos)(pins:List (Addr×Obj))(s:Shared)(zzs:St)(H:Hp)(Q:List V->Hp->Prop),Inv X pins zzs H s->t zzs H Q->wpAny (model X.prog X.w) X.A (evalAll ((backToKw pos (keywordEach kws X.env)).map (·.2))) (AP X pins zzs Q) X.xe s
section
variable{X:Cx}{CX:CXT}{k:Nat}{f C:Addr}{fd:FuncData}{ps ks:List Str}{sp:Sp}{E:XK}{x m:Str}{p pos apos kpos:Pos}{e o:Expr}{es:List Expr}{kws:List Keyword}{te ta:TE}{t tk:TA}{nm:Option Str}
theorem a4g:PK X [] jF:=fun _ _ _ _ H Q I h=>wpAny_evalAll_nil ⟨[],H,I,.nil,h⟩
theorem a1g(ha:PE X e te)(hr:PK X kws t):PK X (⟨nm,e,kpos⟩::kws) (uh te t):=by
 intro pos pins s zzs H Q I h;show wpAny _ _ (evalAll ((do let v <- eval e X.env;standAt pos;pure v)::(backToKw pos (keywordEach kws X.env)).map (·.2))) _ _ s;refine wpAny_evalAll_cons (aP (thn (ha pins s zzs H _ I h) fun u s1 ⟨x,H1,I1,r1,q1⟩=>aP (Fz (bL ?_))));exact thn (hr pos pins s1 zzs H1 _ I1 q1) fun us s2 ⟨xs,H2,I2,r2,q2⟩=>⟨x::xs,H2,I2,.cons r1 r2,q2⟩
variable{g:List Value->List Value->List Value}{gV:List V->List V->List V}
end
structure bA(N P:List Str)(sc:Scope):Prop where
 kind:sc.kind=.function
 co:sc.isCoroutine=false
 gen:sc.isGenerator=false
 nd:N.Nodup
 pre:N.take P.length=P
 par:∀ x∈P,sc.names.lookup x=some .local\/sc.names.lookup x=some .cell
 a3B:∀ y∈sc.names,y.2≠.free
theorem Gy{kindOf:Str->Option NameKind}{x:Str}:∀ {binds:List (Str×Value)} {m:Str->Option Value},(∀ v,(x,v)∉binds)->bindL kindOf binds m x=m x
 |[],_,_=>rfl
 |(n,v)::r,m,h=>by
  unfold bindL;rw[Gy fun w hw=>h w (fU _ hw)];split
  ·have:x≠n:=by rintro rfl;exact h v dY
   simp[this]
  ·rfl
theorem Gw{kindOf:Str->Option NameKind}{x:Str}:∀ {binds:List (Str×Value)} {m:Str->Option Value},(∀ v,(x,v)∉binds)->bindC kindOf binds m x=m x
 |[],_,_=>rfl
 |(n,v)::r,m,h=>by
  unfold bindC;rw[Gw fun w hw=>h w (fU _ hw)];split
  ·rfl
  ·have:x≠n:=by rintro rfl;exact h v dY
   simp[this]
theorem Gx{kindOf:Str->Option NameKind}{x:Str}{v:Value}:∀ {P:List Str} {vs:List Value} {i:Nat} {m:Str->Option Value},P.Nodup->P[i]?=some x->vs[i]?=some v->kindOf x=some .local ->
  bindL kindOf (P.zip vs) m x=some v
 |[],_,_,_,_,h,_,_=>by simp at h
 |_::_,[],_,_,_,_,h,_=>by simp at h
 |p::P,w::vs,0,m,nd,h1,h2,hk=>by
  simp at h1 h2;subst h1;subst h2;show bindL kindOf ((p,w)::P.zip vs) m p=_;unfold bindL;rw[Gy fun v hv=>(Aj.mp nd).1 (R4 hv).1,aK hk];simp
 |p::P,w::vs,i+1,m,nd,h1,h2,hk=>by
  show bindL kindOf ((p,w)::P.zip vs) m x=_;unfold bindL;exact Gx (i:=i) (Aj.mp nd).2 (by simpa using h1) (by simpa using h2) hk
theorem Gv{kindOf:Str->Option NameKind}{x:Str}{v:Value}:∀ {P:List Str} {vs:List Value} {i:Nat} {m:Str->Option Value},P.Nodup->P[i]?=some x->vs[i]?=some v->kindOf x≠some .local ->
  bindC kindOf (P.zip vs) m x=some v
 |[],_,_,_,_,h,_,_=>by simp at h
 |_::_,[],_,_,_,_,h,_=>by simp at h
 |p::P,w::vs,0,m,nd,h1,h2,hk=>by
  simp at h1 h2;subst h1;subst h2;show bindC kindOf ((p,w)::P.zip vs) m p=_;unfold bindC;rw[Gw fun v hv=>(Aj.mp nd).1 (R4 hv).1,aH hk];simp
 |p::P,w::vs,i+1,m,nd,h1,h2,hk=>by
  show bindC kindOf ((p,w)::P.zip vs) m x=_;unfold bindC;exact Gv (i:=i) (Aj.mp nd).2 (by simpa using h1) (by simpa using h2) hk
def start(N:List Str)(vs:List V):St:=vs.map some++List.replicate (N.length-vs.length) none
def rZ(CX:CXT)(P:Program)(w:World)(K:ao)(mg:Str->Option Value)(base:Heap)(N:List Str)(qual:Str)(scope:Scope)(f:Addr)(cd:Value)(A:Around)(outer:List Env)(s:Shared)(H:Hp)(E:XK):Cx where
 prog:=P
 w:=w
 K:=K
 mg:=mg
 base:=base
 A:=A.deeper (envOfC qual scope s.heap.objs.size f cd)
 N:=N
 s₀:=s
 H₀:=H
 env:=envOfC qual scope s.heap.objs.size f cd
 outer:=outer
 stack:=envOfC qual scope s.heap.objs.size f cd::outer
 ex:=[]
 calm:=true
 fn:=fun _=>true
 pn:=[]
 xe:=fun e s'=>wpAny (model P w) (A.deeper (envOfC qual scope s.heap.objs.size f cd)) (leaving (envOfC qual scope s.heap.objs.size f cd) e) (fun _ s''=>CX outer H s E e s'') (fun e' s''=>CX outer H s E e' s'') s'
theorem KZ{sc:Scope}{n:Nat}{x:Str}(h:sc.names.lookup x=some .cell):∃ c,(cellsFrom n sc.names []).lookup x=some c:=by
 have q:=Zk sc.names n [] (.inl h);exact Zc.mp q
theorem Uh{CX:CXT}{P:Program}{w:World}{K:ao}{mg:Str->Option Value}{base:Heap}{N ps:List Str}{qual:Str}{scope:Scope}{f:Addr}{cd:Value}{A:Around}{outer:List Env}{s s1:Shared}{H:Hp}{E:XK}{us:List Value}{vs:List V}
  (S:bA N ps scope) (hd:A.handled=none) (e0:O1 P w K mg base A outer s H) (hl:vs.length=ps.length) (r:Vals vs us)
  (x:InCallC s s.heap.objs.size (bindL (envOfC qual scope s.heap.objs.size f cd).kindOf (ps.zip us) fun _=>none) (cellsFrom (s.heap.objs.size+1) scope.names []) (bindC (envOfC qual scope s.heap.objs.size f cd).kindOf (ps.zip us) fun _=>none) s1) :
  Inv (rZ CX P w K mg base N qual scope f cd A outer s H E) [] (start N vs) H s1:=by
 have hpl:ps.length<=N.length:=by have:=congrArg List.length S.pre;rw[jr] at this;lia
 obtain⟨h1,tk,rfl,hk⟩:=x.done;have noA:∀ b:Addr,b∉(rZ CX P w K mg base N qual scope f cd A outer s H E).ex:=fun b z=>absurd (show b∈([]:List Addr) from z) (by simp)
 refine⟨⟨e0.mod,S.kind,rfl,rfl,bK _,fun y z c h1 h2=>?_,fun y hy=>?_,fun y c _ h=>?_,fun _=>hd,Around.frames_deeper e0.frames,.inr ⟨rfl,rfl⟩,fun b z=>absurd z (noA b),e0.bs,e0.bsz,fun b _ _=>noA b,fun b z=>absurd z (noA b),e0.xu,e0.frf⟩,
  rfl,e0.bare,Un.kept hk,⟨_,x.toInCall.ns,fun i y v h1 h2 h3=>?_⟩,fun y c h=>⟨_,x.cell y c h⟩,e0.hok.fresh (bK _),fun y c h=>?_,fun p hp=>absurd (show p∈([]:List (Addr×Obj)) from hp) (by simp),e0.hok.kept hk,?_⟩
 ·exact name_of_addr x.apart (Fi h1) (Fi h2)
 ·have hy:scope.names.lookup y=some .cell\/scope.names.lookup y=some .free:=hy;rcases hy with hy|hy
  ·exact KZ hy
  ·exact absurd rfl (S.a3B _ (Fi hy))
 ·exact Ax (x.above y c (Fi h))
 ·have hi:i<vs.length:=by
   unfold start at h2;by_cases hi:i<vs.length
   ·exact hi
   ·rw[FZ (by simpa using hi)] at h2;rw[List.getElem?_replicate] at h2;split at h2<;>cases h2
  have ha:vs[i]?=some v:=by
   unfold start at h2;rw[Ib (by simpa using hi),cQ] at h2;cases e:vs[i]? with
   |none=>rw[e] at h2;cases h2
   |some a=>rw[e] at h2;cases h2;rfl
  obtain⟨u,hu,rv⟩:=r.get ha;have hp:ps[i]?=some y:=by
   rw[<- S.pre,JL (by lia)];exact h1
  have ndP:ps.Nodup:=by rw[<- S.pre];exact S.nd.sublist (List.take_sublist _ _)
  refine⟨u,rv,?_⟩;rcases S.par y (fJ hp) with k|k
  ·exact .inl ⟨k,Gx ndP hp hu k⟩
  ·obtain⟨c,e⟩:=KZ (n:=s.heap.objs.size+1) k;refine .inr ⟨.inl k,c,e,?_⟩;have q:=x.cell y c e;rw[Gv ndP hp hu (by show scope.names.lookup y≠_;rw[k];decide)] at q;exact q
 ·exact e0.hok.fresh (Ax (x.above y c (Fi h)))
 ·unfold start;show _=N.length;rw[c7,aR,List.length_replicate];lia
theorem a5l{CX:CXT}{P:Program}{w:World}{K:ao}{mg:Str->Option Value}{base:Heap}{k:Nat}{f:Addr}{name qual:Str}{params:Arguments}{body:List Stmt}{scope:Scope}{dV kV doc pm cdv ct oc:Value}{an od:Option Addr}
  {osl:Array (Option Value)} {N ps:List Str} {sp:Sp} (lk:K.lookup f=some ⟨oc,od,.func (PySem.W.fnOf name qual params body scope dV kV doc pm an cdv ct),osl⟩) (hcd:PySem.W.codeIn K cdv qual=true) (S:bA N ps scope)
  (len:∀ vs H Q E,sp vs H Q E->vs.length=ps.length)
  (hbody:∀(A:Around)(outer:List Env)(s:Shared)(H:Hp)(vs:List V)(Q:VK)(E:XK),iI k (A.deeper (envOfC qual scope s.heap.objs.size f cdv))->sp vs H Q E ->
   ∃ t,PSs (rZ CX P w K mg base N qual scope f cdv A outer s H E) body t/\t { nx:=fun _ H'=>Q .non H',rt:=Q } (start N vs) H) :
  cY P w K mg base CX (k+1) f (PySem.W.fnOf name qual params body scope dV kV doc pm an cdv ct) ps sp:=by
 refine⟨len,fun A outer s H args us vs Q E hr e0 hb r hsp=>?_⟩;have hl:=len _ _ _ _ hsp;have KX:K.In s.heap:=e0.mod.kin.keeps fun b o e=>(e0.bs b o e).1
 have lim:s.heap.NoLimit:=e0.mod.nolimit.keeps fun b o e=>(e0.bs b o e).1
 have hkind:∀ y∈ps.zip us,scope.names.lookup y.1=some .local\/(scope.names.lookup y.1=some .cell/\((cellsFrom (s.heap.objs.size+1) scope.names []).lookup y.1).isSome=true):=fun⟨n,v⟩ hy=>by
  rcases S.par n (R4 hy).1 with q|q
  ·exact .inl q
  ·exact .inr ⟨q,Zk _ _ _ (.inl q)⟩
 refine codeAny_call_function hr.depth (KX _ _ lk) rfl S.co S.gen rfl (PySem.W.codeRec_of KX hcd) (hb _ _ _ _ ?_);refine wpAny_newFunctionEnv_cells S.kind hkind fun env he s1 x=>?_
 subst he;refine⟨lim.keeps x.toInCall.keep,codeAny_func ?_⟩;obtain⟨t,ht,hq⟩:=hbody A outer s H vs Q E (hr.deeper _) hsp;have I:Inv (rZ CX P w K mg base N qual scope f cdv A outer s H E) [] (start N vs) H s1:=Uh S hr.hd e0 hl r x;refine j8 (ht [] s1 (start N vs) H _ I hq) (fun fl s' hs=>?_) fun e s' hs=>hs
 have fin:∀ {bT:St} {H':Hp} {v:V} {u:Value},Inv (rZ CX P w K mg base N qual scope f cdv A outer s H E) [] bT H' s'->RelV v u->Q v H'->CE outer P w H s Q u s':=
  fun {bT H' v u} J rv q=>⟨v,H',J.os,J.bare,J.base,J.hok,rv,q⟩
 cases fl with
 |ret u=>
  obtain⟨v,bT,H',J,rv,q⟩:=hs;exact fin J rv q
 |next=>
  obtain⟨bT,H',J,q⟩:=hs;exact fin (v:=V.non) (u:=Value.none) J rfl q
 |brk=>
  obtain⟨_,_,_,q⟩:=hs;exact False.elim q
 |cont=>
  obtain⟨_,_,_,q⟩:=hs;exact False.elim q
section
variable{X:Cx}{x:Str}{p pos:Pos}{e:Expr}{es:List Expr}{t:TA}{id T:String}{r:List V->Hp->VK->Prop}
def tCB(r:List V->Hp->VK->Prop)(t:TA):TE:=fun zzs H Q=>t zzs H fun vs H1=>r vs H1 Q
theorem Xb(hc:eE X (.builtin id) r)(hg:Gl X x)(hm:X.mg x=none)(hv:bootBuiltins x=some (.builtin id))(ha:PA X (e::es) t) (hn:x ≠ "__name__":=by decide) (hdb:(x==("__debug__" : Str))=false:=by decide)
  (he:starEach (e::es) X.env=(false,eval e X.env)::starEach es X.env:=by rfl) (hpl:(backTo pos (starEach es X.env)).any (·.1)=false:=by rfl):PE X (.Call (.Name x p) (e::es) [] pos) (tCB r t):=by
 intro pins s zzs H Q I h;refine Ac (wg I hg hm hv ?_ hn hdb);exact PyProof.Rows.callWith_builtin1 (thn (ha pos pins s zzs H _ I h) fun us s1 ⟨vs,H1,I1,r1,q1⟩=>hc pins s1 zzs H1 vs us Q I1 r1 q1) he hpl
theorem V4(hc:eE X (.type T) r)(hg:Gl X x)(hm:X.mg x=none)(hv:bootBuiltins x=some (.type T))(ha:PA X (e::es) t) (hn:x ≠ "__name__":=by decide) (hdb:(x==("__debug__" : Str))=false:=by decide)
  (he:starEach (e::es) X.env=(false,eval e X.env)::starEach es X.env:=by rfl) (hpl:(backTo pos (starEach es X.env)).any (·.1)=false:=by rfl):PE X (.Call (.Name x p) (e::es) [] pos) (tCB r t):=by
 intro pins s zzs H Q I h;refine Ac (wg I hg hm hv ?_ hn hdb);exact JH (thn (ha pos pins s zzs H _ I h) fun us s1 ⟨vs,H1,I1,r1,q1⟩=>hc pins s1 zzs H1 vs us Q I1 r1 q1) he hpl
end
end L2
namespace HT
open PySem PyProof.Rows
section
open PySem.SeqAt
open PySem.AutoSeq1 (wpAny_loadPart')
open PySem.MeetsSeq PySem.MeetsSeq2 PySem.MeetsSeq3
end
section
variable{prog:Program}{w:World}{A:Around}{E:Value->Shared->Prop}{s:Shared}
def sIx(n d:Nat):Option Int->Nat
 |none=>d
 |some v=>if v<0 then(v+(n:Int)).toNat else min v.toNat n
theorem tU(n d:Nat):sIx n d none=d:=rfl
theorem xX(n d k:Nat):sIx n d (some (k:Int))=min k n:=by
 show(if(k:Int)<0 then((k:Int)+(n:Int)).toNat else min (k:Int).toNat n)=min k n;rw[aH (by lia),jq]
theorem Y6(n d:Nat)(hd:d<=n)(o:Option Int):sIx n d o<=n:=by
 cases o with
 |none=>exact hd
 |some v=>
  show(if v<0 then(v+(n:Int)).toNat else min v.toNat n)<=n;by_cases hv:v<0
  ·rw[aK hv];lia
  ·rw[aH hv];exact Nat.min_le_right _ _
end
end HT
namespace L2
open PySem PySem.Spec PyProof.Rows
abbrev TO:=St->Hp->(Option Int->Hp->Prop)->Prop
def PO(X:Cx)(e:Option Expr)(t:TO):Prop:=
 ∀(pins:List (Addr×Obj))(s:Shared)(zzs:St)(H:Hp)(Q:Option Int->Hp->Prop),Inv X pins zzs H s->t zzs H Q ->
  wpAny (model X.prog X.w) X.A (evalPart e X.env) (fun u s'=>∃ o H',Inv X pins zzs H' s'/\IsPart u o/\Q o H') X.xe s
def Tg:TO:=fun _ H Q=>Q none H
def a2y(t:TE):TO:=fun zzs H Q=>t zzs H fun x H1=>∃ i,x=.int i/\Q (some i) H1
theorem intsAre_of{ns:List Int}:∀ {us:List Value},Vals (ns.map V.int) us->IntsAre us ns:=by
 induction ns with
 |nil=>intro us r;rw[FN] at r;cases r;exact .nil
 |cons n ns ih=>
  intro us r;rw[gq] at r;cases r with
  |cons r1 r2=>
   obtain⟨t,e⟩:=r1;subst e;exact .cons n t (ih r2)
section
variable{X:Cx}{e:Expr}{te:TE}{lo hi:Option Expr}{tl th:TO}{pos p2:Pos}
theorem a1h:PO X none Tg:=by
 intro pins s zzs H Q I h;rw[evalPart_none];exact bL ⟨none,H,I,.none,h⟩
theorem a1i(h:PE X e te):PO X (some e) (a2y te):=by
 intro pins s zzs H Q I hw;rw[evalPart_some];refine thn (h pins s zzs H _ I hw) fun u s1 zzy=>?_
 obtain⟨x,H1,I1,r1,q1⟩:=zzy;obtain⟨i,rfl,q⟩:=q1;obtain⟨t,rfl⟩:=r1;exact⟨some i,H1,I1,.int i t,q⟩
def SlR(X:Cx)(r:V->Option Int->Option Int->Hp->VK->Prop):Prop:=
 ∀(pins:List (Addr×Obj))(s:Shared)(zzs:St)(H:Hp)(x:V)(v vl vu:Value)(lo hi:Option Int)(sl:Addr)(Q:VK),Inv X pins zzs H s->RelV x v->s.heap.IsSliceOf sl vl vu .none->IsPart vl lo->IsPart vu hi->r x lo hi H Q ->
  ∃ T id,typeLookup (.type T) "__getitem__" = pure (some (.builtin id))/\s.TypeIs v T/\wpAny (model X.prog X.w) X.A (getItem v (.ref sl)) (EP X pins zzs Q) X.xe s
theorem SlR.or{r r':V->Option Int->Option Int->Hp->VK->Prop}(h:SlR X r)(h':SlR X r'):SlR X (fun x lo hi H Q=>r x lo hi H Q\/r' x lo hi H Q):=by
 intro pins s zzs H x v vl vu lo hi sl Q I rx hs pl pu q;rcases q with q|q
 ·exact h pins s zzs H x v vl vu lo hi sl Q I rx hs pl pu q
 ·exact h' pins s zzs H x v vl vu lo hi sl Q I rx hs pl pu q
def tSl(r:V->Option Int->Option Int->Hp->VK->Prop)(te:TE)(tl th:TO):TE:=fun zzs H Q=>te zzs H fun x H1=>tl zzs H1 fun l H2=>th zzs H2 fun u H3=>r x l u H3 Q
theorem Xf{r:V->Option Int->Option Int->Hp->VK->Prop}(hr:SlR X r)(he:PE X e te)(hl:PO X lo tl)(hu:PO X hi th):PE X (.Subscript e (.Slice lo hi none p2) pos) (tSl r te tl th):=by
 intro pins s zzs H Q I h;refine Subscript_ (thn (he pins s zzs H _ I h) fun v s1 zzy=>?_);obtain⟨x,H1,I1,r1,q1⟩:=zzy;refine wpAny_Slice (thn (hl pins s1 zzs H1 _ I1 q1) fun vl s2 ⟨l,H2,I2,pl,q2⟩=>thn (hu pins s2 zzs H2 _ I2 q2) fun vu s3 zzy=>?_);obtain⟨u,H3,I3,pu,q3⟩:=zzy;rw[evalPart_none];refine bL ?_;have I4:Inv X pins zzs H3 { s3 with heap:=s3.heap.push { cls:=.type "slice",data:=.fields #[vl,vu,.none] } }:=I3.kept (t':=s3.toks) fun b ob q=>eY _ q
 obtain⟨T,id,hT,ht,hg⟩:=hr pins { s3 with heap:=s3.heap.push { cls:=.type "slice",data:=.fields #[vl,vu,.none] } } zzs H3 x v vl vu l u s3.heap.objs.size Q I4 r1 (Heap.IsSliceOf.new ..) pl pu q3;show wpAny (model X.prog X.w) X.A (subscriptTail e (.Slice lo hi none p2) v (.ref s3.heap.objs.size)) (EP X pins zzs Q) X.xe { s3 with heap:=s3.heap.push { cls:=.type "slice",data:=.fields #[vl,vu,.none] } };exact tail_any (ops:=[.ref s3.heap.objs.size,v]) ht hT hg (by with_unfolding_all rfl)
def CQ(xs:List V)(lo hi:Option Int):List V:=(xs.drop (HT.sIx xs.length 0 lo)).take (HT.sIx xs.length xs.length hi-HT.sIx xs.length 0 lo)
theorem Ld(xs:List V)(lo hi:Option Int):(CQ xs lo hi).length<=xs.length:=by
 unfold CQ;rw[jr,ux];lia
end
def ixN(n:Nat)(i:Int):Option Nat:=if 0<=i then(if i<n then some i.toNat else none) else if -(n:Int)<=i then some (i+n).toNat else none
def atI{α:Type}(xs:List α)(i:Int):Option α:=(ixN xs.length i).bind fun j=>xs[j]?
theorem RV{n:Nat}{i:Int}{j:Nat}(h:ixN n i=some j):seqIndex? i n=some j/\j<n /\ -(n:Int)<=i/\i<n:=by
 unfold ixN at h;by_cases h0:0<=i
 ·rw[aK h0] at h;by_cases h1:i<n
  ·rw[aK h1] at h;have e:i.toNat=j:=iu h;exact⟨by rw[seqIndex_of h0 h1,e],by lia,by lia,h1⟩
  ·rw[aH h1] at h;cases h
 ·rw[aH h0] at h;by_cases h1 : -(n:Int)<=i
  ·rw[aK h1] at h;have e:(i+n).toNat=j:=iu h;exact⟨by rw[seqIndex_neg (by lia) h1,e],by lia,h1,by lia⟩
  ·rw[aH h1] at h;cases h
theorem Io{α:Type}{xs:List α}{i:Int}{v:α}(h:atI xs i=some v):∃ j,seqIndex? i xs.length=some j/\xs[j]?=some v/\j<xs.length /\ -(xs.length:Int)<=i/\i<xs.length:=by
 unfold atI at h;cases e:ixN xs.length i with
 |none=>rw[e] at h;cases h
 |some j=>
  rw[e] at h;obtain⟨h1,h2,h3,h4⟩:=RV e;exact⟨j,h1,h,h2,h3,h4⟩
theorem fP{α:Type}{xs:List α}{j:Nat}{v:α}(h:xs[j]?=some v):atI xs (j:Int)=some v:=by
 have hj:j<xs.length:=(gM.mp h).1;have e:ixN xs.length (j:Int)=some j:=by
  unfold ixN;rw[aK (by lia),aK (by lia)];simp
 unfold atI;rw[e];exact h
def Rh(b:Expr):Prop:=∀ o i,subscripted b false o i=operate [o,i] (getItem o i)
def IxR(X:Cx)(r:R2):Prop:=
 ∀(value slice:Expr)(pins:List (Addr×Obj))(s:Shared)(zzs:St)(H:Hp)(x y:V)(v u:Value)(Q:VK),Inv X pins zzs H s->RelV x v->RelV y u->r x y H Q ->
  subscripted slice false v u=operate [v,u] (getItem v u)->wpAny (model X.prog X.w) X.A (subscriptTail value slice v u) (EP X pins zzs Q) X.xe s
def MtR(X:Cx)(id:String)(r:V->List V->Hp->VK->Prop):Prop:=
 ∀(pins:List (Addr×Obj))(s:Shared)(zzs:St)(H:Hp)(x:V)(xs:List V)(v:Value)(us:List Value)(Q:VK),Inv X pins zzs H s->RelV x v->Vals xs us->r x xs H Q ->
  wpAny (model X.prog X.w) X.A (call (.builtin id) (v::us)) (EP X pins zzs Q) X.xe s
section
variable{X:Cx}{a b:Expr}{ta tb:TE}{pos:Pos}
theorem IxR.or{r r':R2}(h:IxR X r)(h':IxR X r'):IxR X (fun x y H Q=>r x y H Q\/r' x y H Q):=by
 intro value slice pins s zzs H x y v u Q I rx ry q hs;rcases q with q|q
 ·exact h value slice pins s zzs H x y v u Q I rx ry q hs
 ·exact h' value slice pins s zzs H x y v u Q I rx ry q hs
theorem a5E{r:R2}(hr:IxR X r)(ha:PE X a ta)(hb:PE X b tb)(hs:Rh b):PE X (.Subscript a b pos) (tOp r ta tb):=by
 intro pins s zzs H Q I h;exact Subscript_ (a2D ha hb I h fun v u s2 x y H2 I2 rx ry q=>hr a b pins s2 zzs H2 x y v u Q I2 rx ry q (hs _ _))
def a5S(K:ao):R2:=fun x y H Q=>∃ p xs i v,x=.ref p/\y=.int i/\SqL K H p xs/\atI xs i=some v/\Q v H
def a5U(K:ao):R2:=fun x y H Q=>∃ p xs i v,x=.ref p/\y=.int i/\SqT K H p xs/\atI xs i=some v/\Q v H
def a5T:R2:=fun x y H Q=>∃ z i c,x=.str z/\y=.int i/\z.length<=sizeLine/\atI z.cps.toList i=some c/\Q (.str ⟨#[c]⟩) H
theorem a0o:IxR X (a5S X.K):=by
 intro value slice pins s zzs H x y v u Q I rx ry h hs;obtain⟨p,xs,i,z,rfl,rfl,hq,he,q⟩:=h;cases rx;obtain⟨t,rfl⟩:=ry;obtain⟨its,r,pl,hz⟩:=I.list hq;obtain⟨j,h1,h2,h3,h4,h5⟩:=Io he;obtain⟨w,ew,rw'⟩:=r.get h2;have hl:=r.length;have hn:=zA;have fin:EP X pins zzs Q w s:=⟨z,H,I,rw',q⟩
 by_cases h0:0<=i
 ·have hj:i.toNat=j:=by
   rw[seqIndex_of h0 h5] at h1;exact iu h1
  exact item_listR pl.isList h0 (by lia) (by rw[hj];simpa using ew) fin hs
 ·have hj:(i+(its.toArray.size:Int)).toNat=j:=by
   rw[seqIndex_neg (by lia) h4] at h1;rw[dj,<- hl];exact iu h1
  exact subscriptTail_builtinR (x:=w) pl.isList.typeIs slot_list_getitem.lookup
   (wpAny_getItem_list_neg (Q:=fun r s'=>r=w/\EP X pins zzs Q r s') pl.isList (by lia) (by rw[dj]<;>lia) (by lia) (by rw[hj];simpa using ew) ⟨rfl,fin⟩) hs
theorem a3i:IxR X (a5U X.K):=by
 intro value slice pins s zzs H x y v u Q I rx ry h hs;obtain⟨p,xs,i,z,rfl,rfl,hq,he,q⟩:=h;cases rx;obtain⟨t,rfl⟩:=ry;obtain⟨its,r,pl,hz⟩:=I.tuple hq;obtain⟨j,h1,h2,h3,h4,h5⟩:=Io he;obtain⟨w,ew,rw'⟩:=r.get h2;have hl:=r.length;have hn:=zA;have fin:EP X pins zzs Q w s:=⟨z,H,I,rw',q⟩
 exact subscriptTail_builtinR (x:=w) pl.typeIs slot_tuple_getitem.lookup
  (getItem_tuple (j:=j) (Q:=fun r s'=>r=w/\EP X pins zzs Q r s') pl (by lia) (by lia) (by rw[dj,<- hl];exact h1) (by simpa using ew) ⟨rfl,fin⟩) hs
theorem a3h:IxR X a5T:=by
 intro value slice pins s zzs H x y v u Q I rx ry h hs;obtain⟨z,i,c,rfl,rfl,hz,he,q⟩:=h;obtain⟨t,rfl⟩:=rx;obtain⟨t',rfl⟩:=ry;obtain⟨j,h1,h2,h3,h4,h5⟩:=Io he;have hl:z.cps.toList.length=z.length:=by simp[Str.length]
 rw[hl] at h1 h4 h5;have hn:=zA;exact tail_any (typeIs_str s z t) slot_str_getitem.lookup (getItem_str (c:=c) (by
  have e1:decide (i < -(2^63:Int))=false:=cG (by lia);have e2:decide (i>=2^63)=false:=cG (by lia);rw[e1,e2,Bool.or_false]) (by rw[h1];simpa using h2) ⟨.str ⟨#[c]⟩,H,I.tok _,⟨_,rfl⟩,q⟩) hs
def rIx(K:ao):R2:=fun x y H Q=>a5S K x y H Q\/a5U K x y H Q\/a5T x y H Q
theorem a3g:IxR X (rIx X.K):=a0o.or (a3i.or a3h)
theorem P0(its:List Value)(n j:Nat)(u:Value):Obj.mapSeq (·.setIfInBounds j u) { cls:=.type "list",data:=.seq its.toArray n }={ cls:=.type "list",data:=.seq (its.set j u).toArray n }:=by
 simp[Obj.mapSeq]
theorem Inv.lst{pins:List (Addr×Obj)}{zzs:St}{H:Hp}{s:Shared}{p:Addr}{xs:List V}(I:Inv X pins zzs H s)(h:H p=some (.lst xs)) :
  ∃(its:List Value)(n:Nat),Vals xs its/\s.heap.get? p=some { cls:=.type "list",data:=.seq its.toArray n }/\xs.length<=sizeLine:=by
 obtain⟨z,its,n,r,e⟩:=I.hok p _ h;exact⟨its,n,r,e,z⟩
theorem Inv.a3t{pins:List (Addr×Obj)}{zzs:St}{H:Hp}{s:Shared}{p:Addr}{xs ys:List V}{its its':List Value}{n n':Nat}{f:Obj->Obj}(I:Inv X pins zzs H s)(h:H p=some (.lst xs))
  (ho:s.heap.get? p=some { cls:=.type "list",data:=.seq its.toArray n }) (hf:f { cls:=.type "list",data:=.seq its.toArray n }={ cls:=.type "list",data:=.seq its'.toArray n' }) (r:Vals ys its') (hz:ys.length<=sizeLine) (t:Nat) :
  Inv X pins zzs (upd H p (.lst ys)) { s with heap:=s.heap.update p f,toks:=t }:=by
 have e:(s.heap.update p f).get? p=some { cls:=.type "list",data:=.seq its'.toArray n' }:=by
  rw[Bt f ho (by rw[hf]<;>rfl),hf]
 refine I.write (x:=p) (e:=p) (by rw[h];trivial) (.inl rfl) (fun b u hb q=>(G9 _ _ (j5 hb)).trans q) ⟨_,e⟩ ?_;exact⟨hz,its',n',r,e⟩
def a5Y:V->V->V->Hp->(Hp->Prop)->Prop:=fun o i v H Q=>∃ p xs k j,o=.ref p/\i=.int k/\H p=some (.lst xs)/\ixN xs.length k=some j/\Q (upd H p (.lst (xs.set j v)))
theorem set_list:ZS X a5Y:=by
 intro pins s zzs H o i v ov iv u Q I ro ri rv h;obtain⟨p,xs,k,j,rfl,rfl,hp,hj,q⟩:=h;cases ro;obtain⟨t,rfl⟩:=ri;obtain⟨its,n,r,ho,hz⟩:=I.lst hp;obtain⟨h1,h2,h3,h4⟩:=RV hj;have hl:=r.length;have hn:=zA;have I':Inv X pins zzs (upd H p (.lst (xs.set j v))) { s with heap:=s.heap.update p (Obj.mapSeq (·.setIfInBounds j u)) }:=
  I.a3t hp ho (P0 its n j u) (r.set rv j) (by rw[List.length_set];exact hz) s.toks
 by_cases h0:0<=k
 ·have hk:k.toNat=j:=by
   rw[seqIndex_of h0 h4] at h1;exact iu h1
  exact PySem.W.ki_setAt ho h0 (by lia) (by rw[dj,<- hl];exact h4) (by rw[hk];exact⟨_,I',q⟩)
 ·have hk:(k+(its.toArray.size:Int)).toNat=j:=by
   rw[seqIndex_neg (by lia) h3] at h1;rw[dj,<- hl];exact iu h1
  exact PySem.W.ki_setBack ho (by lia) (by rw[dj,<- hl];exact h3) (by lia) (by rw[hk];exact⟨_,I',q⟩)
theorem yc(lo hi:Option Int)(n:Nat):(sliceBounds lo hi none n).1=((HT.sIx n 0 lo:Nat):Int)/\(sliceBounds lo hi none n).2.1=((HT.sIx n n hi:Nat):Int)/\(sliceBounds lo hi none n).2.2=1:=by
 refine⟨?_,?_,rfl⟩
 ·cases lo with
  |none=>simp[sliceBounds,HT.sIx]
  |some i=>
   simp only[sliceBounds,HT.sIx,Option.getD_none,show(1:Int)>0 by decide,mK];by_cases h:i<0
   ·simp only[h,mK]<;>lia
   ·simp only[h,jU]<;>lia
 ·cases hi with
  |none=>simp[sliceBounds,HT.sIx]
  |some i=>
   simp only[sliceBounds,HT.sIx,Option.getD_none,show(1:Int)>0 by decide,mK];by_cases h:i<0
   ·simp only[h,mK]<;>lia
   ·simp only[h,jU]<;>lia
theorem Gs(its:List Value)(lo hi:Option Int):slicePick its.toArray lo hi none=((its.drop (HT.sIx its.length 0 lo)).take (HT.sIx its.length its.length hi-HT.sIx its.length 0 lo)).toArray:=by
 obtain⟨h1,h2,h3⟩:=yc lo hi its.toArray.size;unfold slicePick;rw[h1,h2,h3];simp only[sliceRange_one,pick_run,dj]<;>rfl
def a5Z(K:ao):V->Option Int->Option Int->Hp->VK->Prop:=fun x lo hi H Q=>∃ a xs,x=.ref a/\SqL K H a xs/\∀ p,H p=none->Q (.ref p) (upd H p (.lst (CQ xs lo hi)))
theorem a1P:SlR X (a5Z X.K):=by
 intro pins s zzs H x v vl vu lo hi sl Q I rx hs pl pu h;obtain⟨a,xs,rfl,hx,q⟩:=h;cases rx;obtain⟨its,r,ht,hz⟩:=I.list hx;have hlen:=r.length;refine⟨"list",_,slot_list_getitem.lookup,ht.isList.typeIs,?_⟩;refine wpAny_getItem_list_slice ht.isList hs pl pu .none (by simp) ?_ (by rw[dj]<;>lia);rw[Gs,<- hlen];refine⟨.ref s.heap.objs.size,_,I.laid (t':=s.toks) (o:=.lst (CQ xs lo hi)) (fun b ob q=>eY _ q) (bK _) ?_,rfl,q _ (I.hok.fresh (bK _))⟩;exact⟨cX (Ld xs lo hi) hz,_,0,(r.drop (HT.sIx xs.length 0 lo)).take (HT.sIx xs.length xs.length hi-HT.sIx xs.length 0 lo),fV _ rfl⟩
def RK:V->Bool
 |.non=>true
 |.bl _=>true
 |.int _=>true
 |.str _=>true
 |_=>false
def eqV:V->V->Bool
 |.non,.non=>true
 |.bl a,.bl b=>a==b
 |.bl a,.int b=>(if a then 1 else 0)==b
 |.int a,.bl b=>a==(if b then 1 else 0)
 |.int a,.int b=>a==b
 |.str a,.str b=>a==b
 |_,_=>false
theorem W6{A:Around}{s:Shared}{y x:V}{u v:Value}(ry:RelV y u)(rx:RelV x v)(fy:RK y=true)(fx:RK x=true):SeqAt.EqAt A s u v (eqV y x):=by
 cases y with
 |non=>
  cases ry;cases x with
  |non=>cases rx;exact SeqAt.EqAt.same _
  |bl b=>cases rx;exact SeqAt.EqAt.none_bool b
  |int b=>obtain⟨t,rfl⟩:=rx;exact SeqAt.EqAt.none_int b t
  |str b=>obtain⟨t,rfl⟩:=rx;exact SeqAt.EqAt.none_str b t
  |_=>exact absurd (show false=true from fx) g8
 |bl a=>
  cases ry;cases x with
  |non=>cases rx;exact SeqAt.EqAt.bool_none a
  |bl b=>cases rx;exact SeqAt.EqAt.bool_bool a b
  |int b=>obtain⟨t,rfl⟩:=rx;exact SeqAt.EqAt.bool_int a b t
  |str b=>obtain⟨t,rfl⟩:=rx;exact SeqAt.EqAt.bool_str a b t
  |_=>exact absurd (show false=true from fx) g8
 |int a=>
  obtain⟨t',rfl⟩:=ry;cases x with
  |non=>cases rx;exact SeqAt.EqAt.int_none a t'
  |bl b=>cases rx;exact SeqAt.EqAt.int_bool a t' b
  |int b=>obtain⟨t,rfl⟩:=rx;exact SeqAt.EqAt.int_int a t' b t
  |str b=>obtain⟨t,rfl⟩:=rx;exact SeqAt.EqAt.int_str a t' b t
  |_=>exact absurd (show false=true from fx) g8
 |str a=>
  obtain⟨t',rfl⟩:=ry;cases x with
  |non=>cases rx;exact SeqAt.EqAt.str_none a t'
  |bl b=>cases rx;exact SeqAt.EqAt.str_bool a t' b
  |int b=>obtain⟨t,rfl⟩:=rx;exact SeqAt.EqAt.str_int a t' b t
  |str b=>obtain⟨t,rfl⟩:=rx;exact SeqAt.EqAt.str_str a t' b t
  |_=>exact absurd (show false=true from fx) g8
 |_=>exact absurd (show false=true from fy) g8
theorem Iw:eE X (.builtin "len") (fun xs H Q=>∃ p ys,xs=[.ref p]/\(SqL X.K H p ys\/SqT X.K H p ys)/\Q (.int ys.length) H):=by
 intro pins s zzs H xs us Q I r h;obtain⟨p,ys,rfl,hq,q⟩:=h;obtain⟨u,rfl,rx⟩:=vals1 r;cases rx;have hn:=zA;rcases hq with hq|hq
 ·obtain⟨its,r',pl,hz⟩:=I.list hq;have hlen:=r'.length;exact Calls.call_len_list pl.isList (by simp only[dj]<;>lia) ⟨.int ys.length,H,I.tok _,⟨s.toks+1,by rw[dj,hlen]⟩,q⟩
 ·obtain⟨its,r',pl,hz⟩:=I.tuple hq;have hlen:=r'.length;exact len_tuple pl (by simp only[dj]<;>lia) ⟨.int ys.length,H,I.tok _,⟨s.toks+1,by rw[dj,hlen]⟩,q⟩
theorem Iz:eE X (.builtin "len") (fun xs H Q=>∃ z,xs=[.str z]/\z.length<=sizeLine/\Q (.int z.length) H):=by
 intro pins s zzs H xs us Q I r h;obtain⟨z,rfl,hz,q⟩:=h;obtain⟨u,rfl,t,rfl⟩:=vals1 r;have hn:=zA;exact len_str (by lia) ⟨.int z.length,H,I.tok _,⟨_,rfl⟩,q⟩
theorem eE.or{f:Value}{r r':List V->Hp->VK->Prop}(h:eE X f r)(h':eE X f r'):eE X f (fun xs H Q=>r xs H Q\/r' xs H Q):=by
 intro pins s zzs H xs us Q I rs q;rcases q with q|q
 ·exact h pins s zzs H xs us Q I rs q
 ·exact h' pins s zzs H xs us Q I rs q
theorem IK:eE X (.type "list") (fun xs H Q=>∃ p ys,xs=[.ref p]/\(SqL X.K H p ys\/SqT X.K H p ys)/\∀ l,H l=none->Q (.ref l) (upd H l (.lst ys))):=by
 intro pins s zzs H xs us Q I r h;obtain⟨p,ys,rfl,hq,q⟩:=h;obtain⟨u,rfl,rx⟩:=vals1 r;cases rx;have fin:∀(its:List Value),Vals ys its->ys.length<=sizeLine->∀(h':Heap)(c':Nat),(∀ b o',s.heap.get? b=some o'->h'.get? b=some o') ->
   h'.get? s.heap.objs.size=some { cls:=.type "list",dict:=none,data:=.seq its.toArray c',slots:=#[] }->EP X pins zzs Q (.ref s.heap.objs.size) { s with heap:=h' }:=fun its r' hz h' c' kp e=>
  ⟨.ref s.heap.objs.size,_,I.laid (t':=s.toks) kp (bK _) (show fQ X.prog X.w _ h' _ (.lst ys) from⟨hz,its,c',r',e⟩),rfl,q _ (I.hok.fresh (bK _))⟩
 rcases hq with hq|hq
 ·obtain⟨its,r',pl,hz⟩:=I.list hq;have hlen:=r'.length;obtain⟨o,ho,hc,n,hd⟩:=pl.isList;exact call_list_seq p (.inl rfl) ho hc hd (fun h' c' kp e=>fin its r' hz h' c' kp e) (by simp only[dj]<;>lia)
 ·obtain⟨its,r',pl,hz⟩:=I.tuple hq;have hlen:=r'.length;obtain⟨o,ho,hc,n,hd⟩:=pl;exact call_list_seq p (.inr rfl) ho hc hd (fun h' c' kp e=>fin its r' hz h' c' kp e) (by simp only[dj]<;>lia)
def tyV(K:ao)(T:String)(x:V)(H:Hp):Prop:=match x with
 |.str _=>T = "str"
 |.int _=>T = "int"
 |.ref p=>(T = "list" /\ ∃ xs,SqL K H p xs)\/(T = "tuple" /\ ∃ o,K.lookup p=some o/\o.cls=.type "tuple" /\ o.dict=none) \/
   (T = "dict" /\ ((∃ kvs,H p=some (.dK kvs))\/∃ kvs,H p=some (.dT kvs)))\/(T = "set" /\ ∃ S n,H p=some (.set S n))
 |_=>False
theorem YS{pins:List (Addr×Obj)}{zzs:St}{H:Hp}{s:Shared}{T:String}{x:V}{v:Value}(I:Inv X pins zzs H s)(r:RelV x v)(ty:tyV X.K T x H) :
  s.TypeIs v T/\∀ a,v=.ref a->∃ ob,s.heap.get? a=some ob/\ob.dict=none:=by
 cases x with
 |str z=>
  obtain⟨t,rfl⟩:=r;cases (show T = "str" from ty);exact⟨typeIs_str s z t,fun _ e=>nomatch e⟩
 |int i=>
  obtain⟨t,rfl⟩:=r;cases (show T = "int" from ty);exact⟨typeIs_int s i t,fun _ e=>nomatch e⟩
 |ref p=>
  cases r;rcases ty with⟨rfl,xs,hq⟩|⟨rfl,o,hk,hc,hd⟩|⟨rfl,hk⟩|⟨rfl,S,n,hk⟩
  ·obtain⟨its,_,pl,_⟩:=I.list hq;refine⟨pl.isList.typeIs,fun a e=>?_⟩;cases e;obtain⟨o,n,e,c,hd,_⟩:=pl;exact⟨o,e,hd⟩
  ·refine⟨⟨o,I.kIn p o hk,hc⟩,fun a e=>?_⟩;cases e;exact⟨o,I.kIn _ o hk,hd⟩
  ·have z:∃ o,s.heap.get? p=some o/\o.ExactDict:=by
    rcases hk with⟨kvs,hk⟩|⟨kvs,hk⟩
    ·obtain⟨_,_,_,_,o,_,_,e,ex,_⟩:=I.hok p _ hk;exact⟨o,e,ex⟩
    ·obtain⟨_,_,_,_,o,_,_,e,ex,_⟩:=I.hok p _ hk;exact⟨o,e,ex⟩
   obtain⟨o,e,ex⟩:=z;refine⟨⟨o,e,ex.1⟩,fun a e2=>?_⟩;cases e2;exact⟨o,e,ex.2.1⟩
  ·obtain⟨o,_,_,_,e,ex,_⟩:=I.hok p _ hk;refine⟨⟨o,e,ex.1⟩,fun a e2=>?_⟩;cases e2;exact⟨o,e,ex.2.1⟩
 |_=>exact False.elim ty
def a4G(K:ao)(T:String)(r:V->List V->Hp->VK->Prop)(to:TE):TE:=fun zzs H Q=>to zzs H fun x H1=>tyV K T x H1/\r x [] H1 Q
def tBM(K:ao)(T:String)(r:V->List V->Hp->VK->Prop)(to:TE)(t:TA):TE:=fun zzs H Q=>to zzs H fun x H1=>tyV K T x H1/\t zzs H1 fun xs H2=>r x xs H2 Q
variable{o e:Expr}{es:List Expr}{to:TE}{t:TA}{name:Str}{apos cpos:Pos}{T id:String}{r:V->List V->Hp->VK->Prop}
theorem a3R(pa:PlainAttrs T)(slot:Slot T name id) (hty:typeOf (.builtin id)=pure (.type "method_descriptor")) (hm:MtR X id r) (ho:PE X o to)
  (hbase:attributeBase o name X.env (eval o X.env)=eval o X.env:=by rfl) (hline:(apos.endLine==cpos.line)=true:=by rfl):PE X (.Call (.Attribute o name apos) [] [] cpos) (a4G X.K T r to):=by
 intro pins s zzs H Q I h;refine wpAny_Call_method0_late hbase hline (thn (ho pins s zzs H _ I h) fun v s1 zzy=>?_);obtain⟨x,H1,I1,r1,ty,q1⟩:=zzy;obtain⟨h1,h2⟩:=YS I1 r1 ty;exact⟨T,id,pa,slot,hty,h1,h2,Calls.callWith_builtin rfl (PySem.evalArgs_none (hm pins s1 zzs H1 x [] v [] Q I1 r1 .nil q1))⟩
theorem a5D(pa:PlainAttrs T)(slot:Slot T name id) (hty:typeOf (.builtin id)=pure (.type "method_descriptor")) (hm:MtR X id r) (ho:PE X o to) (ha:PA X (e::es) t)
  (hbase:attributeBase o name X.env (eval o X.env)=eval o X.env:=by rfl)
  (hfew:((backTo cpos (starEach (e::es) X.env)).all (fun x=>!x.1)&&(backToKw cpos (keywordEach [] X.env)).all (fun x=>x.1.isSome)
   && decide ((e::es).length+([]:List Keyword).length+(if([]:List Keyword).isEmpty then 0 else 1)<30))=true:=by rfl)
  (hline:(apos.endLine==cpos.line)=true:=by rfl) (hs:starEach (e::es) X.env=(false,eval e X.env)::starEach es X.env:=by rfl) (hplain:(backTo cpos (starEach es X.env)).any (·.1)=false:=by rfl) :
  PE X (.Call (.Attribute o name apos) (e::es) [] cpos) (tBM X.K T r to t):=by
 intro pins s zzs H Q I h;refine wpAny_Call_method_late hbase hfew hline rfl (thn (ho pins s zzs H _ I h) fun v s1 zzy=>?_);obtain⟨x,H1,I1,r1,ty,q1⟩:=zzy;obtain⟨h1,h2⟩:=YS I1 r1 ty;refine⟨T,id,pa,slot,hty,h1,h2,?_⟩;have hA:=ha cpos pins s1 zzs H1 _ I1 q1;rw[hs] at hA ⊢;refine Calls.callWith_builtin (by show(false||(backTo cpos (starEach es X.env)).any (·.1))=false;rw[hplain]<;>rfl) (Calls.evalArgs_plain ?_);exact thn hA fun us s2 ⟨vs,H2,I2,r2,q2⟩=>hm pins s2 zzs H2 x vs v us Q I2 r1 r2 q2
end
def MtM(X:Cx)(id:String)(r:V->List V->Hp->VK->Prop):Prop:=
 ∀(pins:List (Addr×Obj))(s:Shared)(zzs:St)(H:Hp)(x:V)(xs:List V)(v:Value)(us:List Value)(Q:VK),Inv X pins zzs H s->RelV x v->Vals xs us->r x xs H Q ->
  wpAny (model X.prog X.w) X.A (call (.builtin id) (v::us)) (EP X pins zzs Q) X.xe s
theorem Vals.one{x:V}{us:List Value}(h:Vals [x] us):∃ u,us=[u]/\RelV x u:=by
 cases h with
 |cons r t=>cases t;exact⟨_,rfl,r⟩
theorem Vals.zero:∀ {us:List Value},Vals [] us->us=[]
 |_,.nil=>rfl
theorem Vals.dropLast{xs:List V}{us:List Value}(h:Vals xs us):Vals xs.dropLast us.dropLast:=by
 induction h with
 |nil=>exact .nil
 |cons r t ih=>
  cases t with
  |nil=>exact .nil
  |cons q t'=>exact .cons r ih
theorem Vals.rep{xs:List V}{us:List Value}(h:Vals xs us):∀ k:Nat,Vals (List.replicate k xs).flatten (List.replicate k us).flatten
 |0=>.nil
 |k+1=>by
  rw[Aa,Aa,Fl,Fl];exact Vals.append h (Vals.rep h k)
theorem Ou{α:Type}(l:List α):l.eraseIdx (l.length-1)=l.dropLast:=by
 induction l with
 |nil=>rfl
 |cons a r ih=>
  cases r with
  |nil=>rfl
  |cons b r=>
   have e:(a::b::r).length-1=((b::r).length-1)+1:=by
    have h1:(a::b::r).length=r.length+2:=rfl;have h2:(b::r).length=r.length+1:=rfl;lia
   rw[e,Zh,ih]
   all_goals rfl
theorem foldl_rep(its:List Value):∀(k:Nat)(acc:List Value),
  List.foldl (fun x1 x2=>x1++x2) acc.toArray (List.replicate k its.toArray)=(acc++(List.replicate k its).flatten).toArray
 |0,acc=>by simp
 |k+1,acc=>by
  have e:acc.toArray++its.toArray=(acc++its).toArray:=by simp
  have e2:(acc++its)++(List.replicate k its).flatten=acc++(List.replicate (k+1) its).flatten:=by
   rw[Aa,Fl,yr]
  rw[<- e2,<- foldl_rep its k (acc++its),<- e,Aa,R5]
section
variable{X:Cx}{pins:List (Addr×Obj)}{zzs:St}{H:Hp}{s:Shared}{l b:Addr}{xs ys zs:List V}
theorem Inv.a3s{its its':List Value}{n:Nat}{f:Array Value->Array Value}{t':Nat}(I:Inv X pins zzs H s)(hH:H l=some (.lst xs))
  (e:s.heap.get? l=some { cls:=.type "list",data:=.seq its.toArray n }) (hf:f its.toArray=its'.toArray) (hv:Vals ys its') (hz:ys.length<=sizeLine) :
  Inv X pins zzs (upd H l (.lst ys)) { s with heap:=s.heap.update l (Obj.mapSeq f),toks:=t' }:=by
 have q:=PySem.IsL.update e f;rw[hf] at q;refine I.write (x:=l) (e:=l) (by rw[hH];exact trivial) (.inl rfl) (fun b' u hb hu=>(G9 s.heap (Obj.mapSeq f) (j5 hb)).trans hu) ⟨_,q⟩ ?_;exact⟨hz,its',_,hv,q⟩
theorem Inv.a5w{its:List Value}{t':Nat}(I:Inv X pins zzs H s)(hv:Vals ys its)(hz:ys.length<=sizeLine) :
  Inv X pins zzs (upd H s.heap.objs.size (.lst ys)) { s with heap:=s.heap.push { cls:=.type "list",data:=.seq its.toArray },toks:=t' }:=
 I.laid (fun _ _ q=>eY _ q) (bK _) ⟨hz,its,0,hv,fV _ rfl⟩
theorem Inv.fresh(I:Inv X pins zzs H s):H s.heap.objs.size=none:=I.hok.fresh (bK _)
theorem Inv.Ur(I:Inv X pins zzs H s)(hH:H l=some (.lst xs)):xs.length<=sizeLine/\∃(its:List Value)(n:Nat),Vals xs its/\xs.length=its.length/\s.heap.get? l=some { cls:=.type "list",data:=.seq its.toArray n }:=by
 obtain⟨z,its,n,r,e⟩:=I.hok l _ hH;exact⟨z,its,n,r,r.length,e⟩
theorem Mr{n:Nat}(h:n<=sizeLine):Builtin.List.listTooLong n=false:=by
 unfold Builtin.List.listTooLong;exact cG (by lia)
end
section
variable{X:Cx}
def Sq:V->List V->Hp->VK->Prop:=fun x vs H Q=>∃ l xs y,x=.ref l/\vs=[y]/\H l=some (.lst xs)/\xs.length<sizeLine/\Q .non (upd H l (.lst (xs++[y])))
theorem dJ:MtM X "list.append" Sq:=by
 intro pins s zzs H x vs v us Q I rx rv h;obtain⟨l,xs,y,rfl,rfl,hH,hz,q⟩:=h;cases rx;obtain⟨u,rfl,ru⟩:=rv.one;obtain⟨z,its,n,r,hl,e⟩:=I.Ur hH;refine uI F.slot_list_append ⟨_,e,rfl⟩ F.entry_list_append (F.args_list_append_2 _ _) (PySem.list_append l its.toArray n u (by rw[dj];lia)) ⟨e,?_⟩;refine⟨.non,_,I.a3s (its':=its++[u]) hH e (by simp) (r.append (.cons ru .nil)) ?_,rfl,q⟩;rw[c7,jm];lia
def a76:V->List V->Hp->VK->Prop:=fun x vs H Q=>∃ l xs y,x=.ref l/\vs=[]/\H l=some (.lst xs)/\xs[xs.length-1]?=some y/\Q y (upd H l (.lst xs.dropLast))
theorem a3A:MtM X "list.pop" a76:=by
 intro pins s zzs H x vs v us Q I rx rv h;obtain⟨l,xs,y,rfl,rfl,hH,hy,q⟩:=h;cases rx;have hus:=rv.zero;subst hus;obtain⟨z,its,n,r,hl,e⟩:=I.Ur hH;obtain⟨u,hu,ru⟩:=r.get hy;have hy':its.toArray[its.toArray.size-1]?=some u:=by
  show its.toArray[its.length-1]?=some u;rw[<- vL,<- hl];exact hu
 refine uI F.slot_list_pop ⟨_,e,rfl⟩ F.entry_list_pop (F.args_list_pop_1 _) (MeetsSeq.list_pop_last l its.toArray n u hy' (by rw[dj];lia)) ⟨e,?_⟩;refine⟨y,_,I.a3s (its':=its.dropLast) hH e ?_ r.dropLast ?_,ru,q⟩
 ·show its.toArray.eraseIdxIfInBounds (its.toArray.size-1)=its.dropLast.toArray;rw[dj,List.eraseIdxIfInBounds_toArray,Ou]
 ·rw[List.length_dropLast];lia
def a74:R2:=fun x y H Q=>∃ l b xs zs,x=.ref l/\y=.ref b/\H l=some (.lst xs)/\H b=some (.lst zs)/\xs.length+zs.length<=sizeLine/\∀ p,H p=none->Q (.ref p) (upd H p (.lst (xs++zs)))
theorem a3J:OpR X (binaryOp .Add) a74:=by
 intro pins s zzs H x y v u Q I rx ry h;obtain⟨l,b,xs,zs,rfl,rfl,hH,hB,hz,q⟩:=h;cases rx;cases ry;obtain⟨z,its,n,r,hl,e⟩:=I.Ur hH;obtain⟨z2,its2,n2,r2,hl2,e2⟩:=I.Ur hB;refine PySem.P.add_list e e2 ?_ (by rw[dj,dj];lia);have ea:its.toArray++its2.toArray=(its++its2).toArray:=by simp
 rw[ea];exact⟨.ref _,_,I.a5w (t':=s.toks) (r.append r2) (by rw[c7];omega),rfl,q _ I.fresh⟩
def a77:R2:=fun x y H Q=>∃ l k xs,x=.ref l/\y=.int k/\H l=some (.lst xs) /\ -(2^63)<=k/\k<2^63/\xs.length*k.toNat<=sizeLine /\
 ∀ p,H p=none->Q (.ref p) (upd H p (.lst (List.replicate k.toNat xs).flatten))
theorem len_rep{α:Type}(xs:List α)(k:Nat):(List.replicate k xs).flatten.length=k*xs.length:=by
 induction k with
 |zero=>simp
 |succ k ih=>rw[Aa,Fl,c7,ih,Kp,Nat.add_comm]
theorem a3P:OpR X (binaryOp .Mult) a77:=by
 intro pins s zzs H x y v u Q I rx ry h;obtain⟨l,k,xs,rfl,rfl,hH,h1,h2,hz,q⟩:=h;cases rx;obtain⟨t,rfl⟩:=ry;obtain⟨z,its,n,r,hl,e⟩:=I.Ur hH;have hlen:its.toArray.size*k.toNat<=sizeLine:=by rw[dj,<- hl];exact hz
 have hcap:¬its.toArray.size*k.toNat>(2^63-1) / 8:=by
  have:(sizeLine:Nat)<=(2^63-1) / 8:=by decide
  lia
 have hfit:¬(!Builtin.List.listFitsIndex k)=true:=by
  rw[fitsIndex_both h1 h2];exact g8
 have Wg:¬Builtin.List.listTooLong (its.toArray.size*k.toNat)=true:=by
  rw[Mr hlen];exact g8
 have hnew:List.foldl (fun x1 x2=>x1++x2) #[] (List.replicate (if its.toArray.isEmpty=true then 0 else k.toNat) its.toArray)=(List.replicate k.toNat its).flatten.toArray:=by
  have f0:∀ m:Nat,List.foldl (fun x1 x2=>x1++x2) #[] (List.replicate m its.toArray)=(List.replicate m its).flatten.toArray:=fun m=>by
   have:=foldl_rep its m [];rw[Ke] at this;exact this
  rw[f0];cases its with
  |nil=>simp
  |cons a r'=>rw[aH (by simp)]
 refine wpAny_binaryOp_repeat_ref (T:="list") (U:="int") (by decide) ⟨_,e,rfl⟩ (fun s'=>typeIs_int s' k t) noFill_list_mul F.fills_int_mul F.slot_int_rmul repeat_list F.slot_int_index.lookup
  (uI F.slot_int_rmul (typeIs_int s k t) F.entry_int_rmul (F.args_int_rmul_2 _ _) (int___rmul___int_list k t l its.toArray n)
   ⟨e,rfl,⟨_,e,rfl⟩,uI F.slot_list_mul ⟨_,e,rfl⟩ F.entry_list_mul (F.args_list_mul_2 _ _) (AutoListH.list___mul___list_int_3 l its.toArray n k t hfit hcap Wg) ⟨e,?_⟩⟩)
 rw[hnew];exact⟨.ref _,_,I.a5w (t':=s.toks) (r.rep k.toNat) (by rw[len_rep,Nat.mul_comm];exact hz),rfl,q _ I.fresh⟩
end
end L2
namespace Att
open PySem PySem.W PySem.Calls PyProof.Rows
theorem BJ{P:Params}{h:Heap}:∀(ns:List Int)(vs:List Value),WellAll P h vs (ns.map WData.int)->IntsAre vs ns:=by
 intro ns
 induction ns with
 |nil=>
  intro vs w;rw[FN] at w;cases w;exact .nil
 |cons n ns ih=>
  intro vs w;rw[gq] at w;cases w with
  |cons a b=>
   cases a;exact .cons _ _ (ih _ b)
theorem Vj{l:OpenLaw}{n:Nat}(hn:l.most=some n){P:Params}{h:Heap}{args:List WData}{vals:List Value}
  (hpre:l.row.toRowW.claim.pre args=true) (hwl:WellAll P h vals args) :
  ∃ a vs ns,vals=[Value.ref a]/\args=[WData.list (ns.map WData.int)]/\h.get? a=some { cls:=.type "list",data:=.seq vs.toArray }/\IntsAre vs ns/\ns.length<=n:=by
 have hsh:WShape.hasAll [] args [.list .int]=true:=(pre_splitW hpre).1;have hc:l.pre.holds [] { args:=args }=true:=(pre_splitW hpre).2;obtain⟨d,r,rfl,h1,h2⟩:=hasAllW_cons hsh;obtain rfl:=hasAllW_nil h2;obtain⟨xs,rfl,h3⟩:=hasW_list h1;obtain⟨ns,rfl⟩:=items_int h3;have hlen:ns.length<=n:=by
  unfold OpenLaw.pre at hc;have h4:(WTm.not (.lt (.lit (.int (n:Int))) (.len (.arg 0)))).holds [] { args:=[.list (ns.map .int)] }=true:=by
   have h4:=(holds_andW hc).1;rw[hn] at h4;exact h4
  have h5:=condW_of h4 (w_not (w_lt w_lit (w_len_list (w_arg rfl))));rw[aR] at h5;refine Nat.le_of_not_lt fun q=>?_
  have q':(n:Int)<((ns.length:Nat):Int):=by omega
  first
   |(rw[bR q'] at h5;exact absurd h5 (by decide))
   |(simp at h5;omega)
 cases hwl with
 |cons w1 w2=>
  cases w2;cases w1 with
  |list ho hall=>exact⟨_,_,ns,rfl,rfl,ho,BJ ns _ hall,hlen⟩
theorem Va(l:OpenLaw)(args:List WData):l.row.toRowW.claim.post args (.bool true) args=true:=
 postW_of (r:=l.row.toRowW) (X:=(true==true))
  (show WShape.has [] (.bool true) .bool=true by first|rfl|decide|simp[WShape.has,WShape.arms,WShape.armsAll])
  (show(WTm.eq .res (.lit (.bool true))).value [] { args:=args,res:=some (.bool true),after:=args }=some (.bool (true==true)) from w_eq_bool (w_res rfl) w_lit) rfl
theorem KN{l:OpenLaw}{n:Nat}{q:Program}{loose:List Str}{XP:(Str->Option Value)->Heap->Prop}{YP:World->Heap->Prop}{d:DefRec}
  (hn:l.most=some n) (hdf:d.params.defaults=[])
  (call:∀(w:World)(s₀ s₁:Shared)(mg mb:Str->Option Value)(fa:Addr)(o:Obj)(pm cd doc:Value)(a:Addr)(vs:List Value)(ns:List Int),
   Ground q loose [] XP w s₀ mg mb s₁.heap->YP w s₁.heap ->
   s₁.heap.get? fa=some o->o.data=.func (docDef d.name d.params d.body d.scope pm cd doc)->s₁.heap.CodeRec cd d.name->mg d.name=some (.ref fa) ->
   s₁.heap.get? a=some { cls:=.type "list",data:=.seq vs.toArray }->IntsAre vs ns->ns.length<=n->s₁.gens=#[] ->
   codeAny (model l.prog w) callerA (.call (.ref fa) ⟨[.ref a],[]⟩) (fun r s'=>r=.ok (.ret (.bool true))/\OldK s₁.heap s'.heap/\s'.os=s₁.os/\AllBare s'.gens) s₁) :
  WalkO q loose XP YP l.row.toRowW d [] (fun f vs=>PySem.call f vs):=by
 intro w s₀ s₁ mg mb G Y fa o pm cd doc dV kV ho hd hcd hD hmg hg args vals as hpre hlay hrd hwl hlo;obtain rfl:dV=.none:=Dflts.none hD hdf;obtain rfl:kV=.none:=Dflts.noKw hD;obtain⟨a,vs,ns,rfl,rfl,hobj,hints,hlen⟩:=Vj hn hpre hwl;refine enter_call (pB (call w s₀ s₁ mg mb fa o pm cd doc a vs ns G Y ho (fd_plain hd) hcd hmg hobj hints hlen hg) fun r s' hq=>?_);obtain⟨rfl,h2,h3,h4⟩:=hq;exact⟨.inl ⟨.bool true,.bool true,[],rfl,fun _=>rfl,.bool true,Va l _,fun _=>⟨List.Pairwise.nil,fun _ hm=>(nomatch hm)⟩⟩,h2,h3,h4⟩
end Att
namespace L2
open PySem PySem.Spec PyProof.Rows
theorem Ia:∀ {vs:List Value} {ns:List Int},IntsAre vs ns->Vals (ns.map V.int) vs
 |_,_,.nil=>.nil
 |_,_,.cons n t h=>.cons ⟨t,rfl⟩ (Ia h)
def Only(H:Hp):Prop:=∀ b,H b=none\/∃ o xs,H b=some (.frz o (.lst xs))
theorem Ws{P:Program}{w:World}{K:ao}{mg mb:Str->Option Value}{CX:CXT}{k:Nat}{fa a:Addr}{fd:FuncData}{x:Str}{sp:Sp}{s₁:Shared}{vs:List Value}{ns:List Int}
  (KX:K.In s₁.heap) (hns:s₁.heap.Ns mainGlobals mg) (hb:s₁.heap.Ns builtinsNs mb) (hbb:∀ x:Str,x ≠ "__name__" -> mb x=bootBuiltins x) (hlim:s₁.heap.NoLimit) (hg:s₁.gens=#[])
  (ha:s₁.heap.get? a=some { cls:=.type "list",data:=.seq vs.toArray }) (hi:IntsAre vs ns) (hl:ns.length<=sizeLine) (hr:iI k callerA)
  (F:∀ base:Heap,K.In base->base.Ns mainGlobals mg->cY P w K mg base CX k fa fd [x] sp) (hbind:∀(s:Shared)(u:Value),BindsTo s fd ⟨[u],[]⟩ [(x,u)])
  (hsp:∀ H:Hp,Only H->SqL K H a (ns.map V.int)->sp [.ref a] H (fun v _=>v=.bl true) fun _ _ _=>False)
  (hCX:∀ H e s',CX [] H s₁ (fun _ _ _=>False) e s'->False) :
  codeAny (model P w) callerA (.call (.ref fa) ⟨[.ref a],[]⟩) (fun r s'=>r=.ok (.ret (.bool true))/\OldK s₁.heap s'.heap/\s'.os=s₁.os/\AllBare s'.gens) s₁:=by
 have rv:=Ia hi;have lenV:=hi.length;have core:∀ H:Hp,Only H->SqL K H a (ns.map V.int)->HOk P w H s₁.heap->(∀ b,H b≠none->b=a)->(H a≠none->K.lookup a=none) ->
   codeAny (model P w) callerA (.call (.ref fa) ⟨[.ref a],[]⟩) (fun r s'=>r=.ok (.ret (.bool true))/\OldK s₁.heap s'.heap/\s'.os=s₁.os/\AllBare s'.gens) s₁:=by
  intro H hO hS hok hA hK;have Rp:∀ {b:Addr} {o:Obj},s₁.heap.get? b=some o->H b=none->(Ji s₁.heap H).get? b=some o:=fun e n=>Wf e n
  have noA:∀ {b:Addr} {o:Obj} {es:Array DictEntry} {ep:Nat},s₁.heap.get? b=some o->o.data=.dict es ep->H b=none:=fun {b o es ep} e d=>by
   cases q:H b with
   |none=>rfl
   |some u=>
    have e':b=a:=hA b (by rw[q];simp);subst e';rw[ha] at e;cases e;have d':Data.seq vs.toArray _=Data.dict es ep:=d;cases d'
  have nsK:∀ {b:Addr} {m:Str->Option Value},s₁.heap.Ns b m->(Ji s₁.heap H).Ns b m:=fun {b m} ⟨o,es,ep,e,d,r⟩=>⟨o,es,ep,Rp e (noA e d),d,r⟩
  have hKb:K.In (Ji s₁.heap H):=fun b o e=>Rp (KX b o e) (by
   cases q:H b with
   |none=>rfl
   |some u=>
    have e':b=a:=hA b (by rw[q];simp);subst e';rw[hK (by rw[q];simp)] at e;cases e)
  have hM:Mod K mg (Ji s₁.heap H):=⟨hKb,nsK hns,⟨mb,nsK hb,hbb⟩,let ⟨mc,h1,h2⟩:=hlim;⟨mc,nsK h1,h2⟩⟩
  have e0:O1 P w K mg (Ji s₁.heap H) callerA [] s₁ H:=⟨rfl,hM,fun b o e=>a0C e,Nat.le_of_eq (Ug _ _),trivial,fun b hb=>absurd (show b∈([]:List Addr) from hb) (by simp),hok,.of_eq hg⟩
  refine pB ((F _ hKb (nsK hns)).run callerA [] s₁ H ⟨[.ref a],[]⟩ [.ref a] [.ref a] _ _ hr e0 (hbind s₁ (.ref a)) (.cons rfl .nil) (hsp H hO hS)) fun r s' h=>?_
  cases r with
  |error e=>exact(hCX H e s' h).elim
  |ok fl=>
   cases fl with
   |next=>exact False.elim h
   |brk=>exact False.elim h
   |cont=>exact False.elim h
   |ret u=>
    obtain⟨v,H',os,bare,un,hok',r',q⟩:=h;have q':v=.bl true:=q;subst q';obtain rfl:u=Value.bool true:=r';refine⟨rfl,OldK.of_keep fun b o e=>?_,os,bare⟩;cases q:H b with
    |none=>exact un.keep b o e q (by intro z;exact absurd (show b∈([]:List Addr) from z) (by simp)) (by simp)
    |some u=>
     rcases hO b with z|⟨ob,xs,z⟩
     ·rw[q] at z;cases z
     ·have z2:=un.qL b ob _ z;obtain⟨e1,_⟩:=hok b _ z;obtain⟨e2,_⟩:=hok' b _ z2;rw[e] at e1;cases e1;exact e2
 cases hk:K.lookup a with
 |some o=>
  have e:=KX a o hk;rw[ha] at e;cases e;refine core (fun _=>none) (fun _=>.inl rfl) (.inr ⟨_,vs.toArray,_,hk,rfl,rfl,rfl,by rw[dj,lenV];exact hl,by simpa using rv⟩) (fun b u z=>by have z':(none:Option HO)=some u:=z;cases z') (fun b z=>absurd rfl z) fun z=>absurd rfl z
 |none=>
  refine core (fun b=>if b=a then some (.frz { cls:=.type "list",data:=.seq vs.toArray } (.lst (ns.map V.int))) else none) (fun b=>?_) (.inl (.inr ⟨{ cls:=.type "list",data:=.seq vs.toArray },aK rfl⟩)) (fun b u z=>?_) (fun b z=>?_) fun _=>hk
  ·by_cases hb:b=a
   ·exact .inr ⟨_,_,aK hb⟩
   ·exact .inl (aH hb)
  ·by_cases hb:b=a
   ·have z':=(aK hb).symm.trans z;cases z';subst hb;exact⟨ha,by rw[aR];exact hl,vs,_,rv,ha⟩
   ·have z':=(aH hb).symm.trans z;cases z'
  ·by_cases hb:b=a
   ·exact hb
   ·exact absurd (aH hb) z
theorem a1U{l:PySem.W.OpenLaw}{n k:Nat}{q:Program}{loose:List Str}{XP:(Str->Option Value)->Heap->Prop}{YP:World->Heap->Prop}{d:DefRec}{K:Params->ao}{CX:World->CXT}{sp:World->Sp}{x:Str}
  (hn:l.most=some n) (hn2:n<=sizeLine) (hdf:d.params.defaults=[]) (hr:iI k callerA)
  (hY:∀(w:World)(h:Heap),YP w h->(K w.params).In h)
  (F:∀(w:World)(mg:Str->Option Value)(fa:Addr)(h:Heap),(K w.params).In h->h.Ns mainGlobals mg->mg d.name=some (.ref fa) ->
   ∃ fd:FuncData,(∀(s:Shared)(u:Value),BindsTo s fd ⟨[u],[]⟩ [(x,u)]) /\
    ∀ base:Heap,(K w.params).In base->base.Ns mainGlobals mg->cY l.prog w (K w.params) mg base (CX w) k fa fd [x] (sp w))
  (hsp:∀(w:World)(H:Hp)(a:Addr)(ns:List Int),ns.length<=n->Only H->SqL (K w.params) H a (ns.map V.int)->sp w [.ref a] H (fun v _=>v=.bl true) fun _ _ _=>False)
  (hCX:∀(w:World)(H:Hp)(s:Shared)(e:Value)(s':Shared),CX w [] H s (fun _ _ _=>False) e s'->False) :
  PySem.W.WalkO q loose XP YP l.row.toRowW d [] (fun f vs=>PySem.call f vs):=by
 refine Att.KN hn hdf fun w s₀ s₁ mg mb fa o pm cd doc a vs ns G Y ho hd hcd hmg hobj hints hlen hg=>?_
 have KX:=hY w _ Y;obtain⟨fd,hb,hF⟩:=F w mg fa _ KX G.T.g hmg;exact Ws KX G.T.g G.T.b G.T.builtins G.T.nolimit hg hobj hints (cX hlen hn2) hr hF hb (fun H hO hS=>hsp w H a ns hlen hO hS) fun H e s'=>hCX w H s₁ e s'
def inClass(s:Stmt)(j:Nat):Stmt:=match s with
 |.ClassDef _ _ _ body _ _ _ _ _ _ _=>body.getD j (.Pass ⟨0,0,0,0⟩)
 |_=>.Pass ⟨0,0,0,0⟩
def jt(s:Stmt):Arguments:=match s with
 |.FunctionDef _ a _ _ _ _ _ _ _ _=>a
 |_=>{ posonlyargs:=[],args:=[],vararg:=none,kwonlyargs:=[],kw_defaults:=[],kwarg:=none,defaults:=[] }
def gQ(s:Stmt):List Stmt:=match s with
 |.FunctionDef _ _ b _ _ _ _ _ _ _=>b
 |_=>[]
def aJ(s:Stmt):Scope:=match s with
 |.FunctionDef _ _ _ _ _ _ sc _ _ _=>sc
 |_=>{ kind:=.function,names:=[],isGenerator:=false,isCoroutine:=false }
abbrev E0:XK:=fun _ _ _=>False
structure Fun(K:ao)(x qual:Str)(st:Stmt)(f:Addr)(fd:FuncData):Prop where
 ex:∃(oc:Value)(od:Option Addr)(kV doc pm:Value)(an:Option Addr)(cdv ct:Value)(osl:Array (Option Value)),
  fd=PySem.W.fnOf x qual (jt st) (gQ st) (aJ st) .none kV doc pm an cdv ct/\K.lookup f=some ⟨oc,od,.func fd,osl⟩/\PySem.W.codeIn K cdv qual=true
 kp:PySem.W.keepIn K (.ref f)=true
section
variable{P:Program}{w:World}{K:ao}{mg:Str->Option Value}{base:Heap}
theorem Fun.binds{x qual:Str}{st:Stmt}{f:Addr}{fd:FuncData}{ps:List Str}(F:Fun K x qual st f fd)
  (h:∀(kV doc pm:Value)(an:Option Addr)(cdv ct:Value)(us:List Value),us.length=ps.length->bindArgs (PySem.W.fnOf x qual (jt st) (gQ st) (aJ st) .none kV doc pm an cdv ct) ⟨us,[]⟩=pure (ps.zip us)):Binds K fd ps []:=by
 obtain⟨oc,od,kV,doc,pm,an,cdv,ct,osl,rfl,lk,hcd⟩:=F.ex;exact .all (h kV doc pm an cdv ct)
theorem Wb{x qual:Str}{st:Stmt}{f:Addr}{oc:Value}{od an:Option Addr}{osl:Array (Option Value)}{kV doc pm cdv ct:Value}(l:K.lookup f=some ⟨oc,od,.func (PySem.W.fnOf x qual (jt st) (gQ st) (aJ st) .none kV doc pm an cdv ct),osl⟩)
  (c:PySem.W.codeIn K cdv qual=true) (k:PySem.W.keepIn K (.ref f)=true):Fun K x qual st f (PySem.W.fnOf x qual (jt st) (gQ st) (aJ st) .none kV doc pm an cdv ct):=⟨⟨oc,od,kV,doc,pm,an,cdv,ct,osl,rfl,l,c⟩,k⟩
end
theorem qN{A B:Prop}(h:B):if false=true then A else B:=by
 rw[aH g8];exact h
theorem zj{A B:Prop}(h:A):if true=true then A else B:=by
 rw[aK rfl];exact h
theorem Gn{c A B:Prop} [Decidable c] (h1:c->A) (h2:¬c->B):if c then A else B:=by
 by_cases h:c
 ·rw[aK h];exact h1 h
 ·rw[aH h];exact h2 h
def Same(H H':Hp):Prop:=∀ b o,H b=some o->H' b=some o
theorem Same.refl(H:Hp):Same H H:=fun _ _ h=>h
theorem Same.trans{H H1 H2:Hp}(a:Same H H1)(b:Same H1 H2):Same H H2:=fun c o h=>b c o (a c o h)
theorem Same.free{H H':Hp}(e:Same H H'){l:Addr}(h:H' l=Option.none):H l=Option.none:=by
 cases q:H l with
 |none=>rfl
 |some o=>
  rw[e l o q] at h;cases h
theorem Same.seq{K:ao}{H H':Hp}{a:Addr}{xs:List V}(e:Same H H')(h:SqL K H a xs):SqL K H' a xs:=by
 rcases h with(h|⟨o,h⟩)|h
 ·exact .inl (.inl (e _ _ h))
 ·exact .inl (.inr ⟨o,e _ _ h⟩)
 ·exact .inr h
theorem Vals.a4Z{x:V}{u:Value}(r:RelV x u):Vals [x] [u]:=.cons r .nil
theorem Inv.track{X:Cx}{pins:List (Addr×Obj)}{zzs:St}{H:Hp}{s:Shared}{D:Addr}{o:HO}(I:Inv X pins zzs H s)(hn:H D=none)(h0:X.s₀.heap.objs.size<=D)(hL:D≠X.env.locals)
  (hc:∀ x c,X.env.cells.lookup x=some c->c≠D) (hp:∀ p∈X.pn++pins,p.1≠D) (new:fQ X.prog X.w (upd H D o) s.heap D o):Inv X pins zzs (upd H D o) s:=by
 have ne:∀ b u,H b=some u->b≠D:=fun b u e=>bV e hn
 refine⟨I.ok,I.os,I.bare,⟨I.base.keep,I.base.slot,fun b u e n hx=>?_,I.base.there,fun b xs e=>?_,fun b u xs e=>?_,fun b ps e=>?_⟩,I.loc,I.cell,?_,fun x c e=>?_,fun p q=>?_,fun b u e=>?_,I.len⟩
 ·rw[bD (dU (jj (bM e) h0))];exact I.base.free b u e n hx
 ·have e':=I.base.tups b xs e;rw[bD (ne b _ e')];exact e'
 ·have e':=I.base.qL b u xs e;rw[bD (ne b _ e')];exact e'
 ·obtain⟨more,e'⟩:=I.base.sG b ps e;exact⟨more,by rw[bD (ne b _ e')];exact e'⟩
 ·rw[bD (j5 hL)];exact I.free
 ·rw[bD (hc x c e)];exact I.mO x c e
 ·obtain⟨a1,a2,a3,a4,a5⟩:=I.pin p q;exact⟨a1,by rw[bD (hp p q)];exact a2,a3,a4,a5⟩
 ·by_cases hb:b=D
  ·subst hb;rw[au] at e;cases e;exact new
  ·rw[bD hb] at e;exact(I.hok b u e).stay (fun c v _ q=>q) (fun c q=>by rw[bD (ne c _ q)];exact q) fun c xs q=>by rw[bD (ne c _ q)];exact q
def fM:List (Str×NameKind)->List (Str×Addr)->List (Str×Addr)->List (Str×Addr)
 |[],_,acc=>acc
 |(n,k)::r,cells,acc=>if k==.free then fM r cells ((n,(cells.lookup n).getD 0)::acc) else fM r cells acc
theorem Oh{env:Env}:∀(names:List (Str×NameKind))(acc:List (Str×Addr)),(∀ y∈names,y.2=.free->∃ c,env.cells.lookup y.1=some c) ->
  (forIn names acc fun x cs=>(if x.2==NameKind.free then do let a <- cellOf env x.1;pure (ForInStep.yield ((x.1,a)::cs)) else pure (ForInStep.yield cs):Sem (ForInStep (List (Str×Addr)))))=pure (fM names env.cells acc):=by
 intro names
 induction names with
 |nil=>intro acc _;rfl
 |cons p r ih=>
  intro acc h;obtain⟨n,k⟩:=p;rw[List.forIn_cons];have hr:∀ y∈r,y.2=.free->∃ c,env.cells.lookup y.1=some c:=fun y hy=>h y (fU _ hy)
  by_cases hk:k=.free
  ·subst hk;obtain⟨c,hc⟩:=h (n,.free) dY rfl;have hc':env.cells.lookup n=some c:=hc;have e1:cellOf env n=pure c:=by unfold cellOf;rw[hc']
   have e2:fM ((n,NameKind.free)::r) env.cells acc=fM r env.cells ((n,c)::acc):=by
    show(if(NameKind.free==NameKind.free)=true then _ else _)=_;rw[aK (by decide),hc'];rfl
   rw[e2,<- ih ((n,c)::acc) hr];simp only[K9,mK,e1,pure_bind]
  ·have hb:(k==NameKind.free)=false:=by simpa using hk
   have e2:fM ((n,k)::r) env.cells acc=fM r env.cells acc:=by
    show(if(k==NameKind.free)=true then _ else _)=_;rw[hb];rfl
   rw[e2,<- ih acc hr];simp only[hb,vN,jU,pure_bind]
theorem CK{env:Env}{scope:Scope}(h:∀ y∈scope.names,y.2=.free->∃ c,env.cells.lookup y.1=some c):closureFor scope env=pure (fM scope.names env.cells []):=by
 rw[<- Oh scope.names [] h];unfold closureFor;simp only[bind_pure]
theorem qH:∀(names:List (Str×NameKind)){cells acc:List (Str×Addr)}{x:Str}{c:Addr},(∀ y∈names,y.2=.free->∃ c,cells.lookup y.1=some c)->(∀ y d,acc.lookup y=some d->cells.lookup y=some d) ->
  (fM names cells acc).lookup x=some c->cells.lookup x=some c:=by
 intro names
 induction names with
 |nil=>intro cells acc x c _ h e;exact h x c e
 |cons p r ih=>
  intro cells acc x c h ha e;obtain⟨n,k⟩:=p;have hr:∀ y∈r,y.2=.free->∃ c,cells.lookup y.1=some c:=fun y hy=>h y (fU _ hy)
  by_cases hk:k=.free
  ·subst hk;obtain⟨d,hd⟩:=h (n,.free) dY rfl;have hd':cells.lookup n=some d:=hd;have e2:fM ((n,NameKind.free)::r) cells acc=fM r cells ((n,d)::acc):=by
    show(if(NameKind.free==NameKind.free)=true then _ else _)=_;rw[aK (by decide),hd'];rfl
   rw[e2] at e;refine ih hr (fun y q z=>?_) e;rw[uy] at z;split at z
   ·rename_i hy;have hy':y=n:=by simpa using hy
    subst hy';cases z;exact hd'
   ·exact ha y q z
  ·have hb:(k==NameKind.free)=false:=by simpa using hk
   have e2:fM ((n,k)::r) cells acc=fM r cells acc:=by
    show(if(k==NameKind.free)=true then _ else _)=_;rw[hb];rfl
   rw[e2] at e;exact ih hr ha e
theorem GQ:∀(names:List (Str×NameKind)){cells acc:List (Str×Addr)}{x:Str},((x,NameKind.free)∈names\/∃ d,acc.lookup x=some d)->∃ c,(fM names cells acc).lookup x=some c:=by
 intro names
 induction names with
 |nil=>
  intro cells acc x h;rcases h with h|h
  ·exact absurd h (by simp)
  ·exact h
 |cons p r ih=>
  intro cells acc x h;obtain⟨n,k⟩:=p;by_cases hk:k=.free
  ·subst hk;have e2:fM ((n,NameKind.free)::r) cells acc=fM r cells ((n,(cells.lookup n).getD 0)::acc):=by
    show(if(NameKind.free==NameKind.free)=true then _ else _)=_;rw[aK (by decide)]
   rw[e2];refine ih ?_;by_cases hx:x=n
   ·exact .inr ⟨(cells.lookup n).getD 0,by subst hx;simp[uy]⟩
   ·rcases h with h|⟨d,h⟩
    ·rcases cW.mp h with q|q
     ·exact absurd (congrArg Prod.fst q) hx
     ·exact .inl q
    ·refine .inr ⟨d,?_⟩;rw[uy];have:(x==n)=false:=by simpa using hx
     rw[this];exact h
  ·have hb:(k==NameKind.free)=false:=by simpa using hk
   have e2:fM ((n,k)::r) cells acc=fM r cells acc:=by
    show(if(k==NameKind.free)=true then _ else _)=_;rw[hb];rfl
   rw[e2];refine ih ?_;rcases h with h|h
   ·rcases cW.mp h with q|q
    ·exact absurd (congrArg Prod.snd q).symm hk
    ·exact .inl q
   ·exact .inr h
theorem tR{env:Env}:∀(names:List (Str×NameKind))(x:Str),
  (names.map fun(n,k)=>if(k==NameKind.free&&env.scope.kind==.function&&env.kindOf n==some .cell) then(n,NameKind.cell) else(n,k)).lookup x =
   (names.lookup x).map fun k=>if(k==NameKind.free&&env.scope.kind==.function&&env.kindOf x==some .cell) then NameKind.cell else k
 |[],_=>rfl
 |(n,k)::r,x=>by
  have ih:=@tR env r x;show List.lookup x ((if(k==NameKind.free&&env.scope.kind==.function&&env.kindOf n==some .cell)=true then(n,NameKind.cell) else(n,k))::_)=_;by_cases hx:x=n
  ·subst hx;by_cases hc:(k==NameKind.free&&env.scope.kind==.function&&env.kindOf x==some .cell)=true
   ·rw[aK hc];simp only[uy,K9,wU];rw[aK hc]
   ·rw[aH hc];simp only[uy,K9,wU];rw[aH hc]
  ·have hb:(x==n)=false:=by simpa using hx
   by_cases hc:(k==NameKind.free&&env.scope.kind==.function&&env.kindOf n==some .cell)=true
   ·rw[aK hc];simp only[uy,hb];exact ih
   ·rw[aH hc];simp only[uy,hb];exact ih
def yW(scope outer:Scope)(N:List Str)(x:Str):Bool:=
 (scope.kind==.function)&&scope.names.all (fun y=>!(y.2==.cell))&&scope.names.all (fun y=>!(y.2==.local)||(y.1==x||y.1 == ".0")) &&
  scope.names.all (fun y=>!(y.2==.local)||scope.names.lookup y.1==some .local)&&(scope.names.lookup x==some .local) &&
  scope.names.all (fun y=>!(y.2==.free)||(outer.names.lookup y.1==some .cell||outer.names.lookup y.1==some .free)) &&
  !(N.contains ".0")&&(scope.names.lookup (x ++ "'")==none)&&decide (x::N.map fun y=>if y=x then x ++ "'" else y).Nodup
def GR(N:List Str)(x:Str):List Str:=x::N.map fun y=>if y=x then x ++ "'" else y
structure Ie(scope outer:Scope)(N:List Str)(x:Str):Prop where
 kind:scope.kind=.function
 WK:∀ y∈scope.names,y.2≠.cell
 loc:∀ y∈scope.names,y.2=.local->y.1=x\/y.1 = ".0"
 names:∀ y∈scope.names,y.2=.local->scope.names.lookup y.1=some .local
 own:scope.names.lookup x=some .local
 free:∀ y∈scope.names,y.2=.free->outer.names.lookup y.1=some .cell\/outer.names.lookup y.1=some .free
 dot:(".0" : Str)∉N
 prime:scope.names.lookup (x ++ "'")=none
 nd:(GR N x).Nodup
theorem CN{scope outer:Scope}{N:List Str}{x:Str}(h:yW scope outer N x=true):Ie scope outer N x:=by
 unfold yW at h;simp only[lW,lX,Bool.or_eq_true,qm,lZ,qg,QL] at h;obtain⟨⟨⟨⟨⟨⟨⟨⟨h1,h2⟩,h3⟩,h4⟩,h5⟩,h6⟩,h7⟩,h8⟩,h9⟩:=h;refine⟨h1,h2,fun y hy e=>?_,fun y hy e=>?_,h5,fun y hy e=>?_,?_,h8,h9⟩
 ·rcases h3 y hy with z|z
  ·exact absurd e z
  ·exact z
 ·rcases h4 y hy with z|z
  ·exact absurd e z
  ·exact z
 ·rcases h6 y hy with z|z
  ·exact absurd e z
  ·exact z
 ·intro z;have:N.contains ".0" = true:=List.contains_iff_mem.mpr z;rw[this] at h7;cases h7
theorem IW{prog:Program}{w:World}{A:Around}{R:Result->Shared->Prop}{s:Shared}{elt target iter:Expr}{ifs:List Expr}{scope:Scope}{pos:Pos}{it acc:Value}{env:Env}(I:Nat->Shared->Prop)
  (turn:∀ n s,I n s->wpAny (model prog w) A (pyNext it) (fun r s₁=>match r with
   |none=>R (.ok .next) s₁
   |some v=>wpAny (model prog w) A (letOwnedTupleGo target it v) (fun _ s₁=>wpAny (model prog w) A (assign target env v) (fun _ s₂=>
     wpAny (model prog w) A (forIn ifs true fun c r=>if r=true then do let ok <- isTrue c env (eval c env);pure (ForInStep.yield ok) else pure (ForInStep.yield r)) (fun ok s₃=>
      if ok=true then wpAny (model prog w) A (eval elt env) (fun x s₄=>
       wpAny (model prog w) A (call (.builtin "list.append") [acc,x]) (fun _ s₅=>∃ m,m<n/\I m s₅) (fun _ _=>False) s₄) (fun _ _=>False) s₃
      else ∃ m,m<n/\I m s₃) (fun _ _=>False) s₂) (fun _ _=>False) s₁) (fun _ _=>False) s₁) (fun _ _=>False) s)
  (n:Nat) (h:I n s) :
  codeAny (model prog w) A (.compLoop (.ListComp elt [⟨target,iter,ifs,0⟩] scope pos) 0 it acc env) R s:=by
 refine codeAny_loop rfl I (fun n s hI=>?_) n h;show wpAny _ A ((compTurn (.ListComp elt [⟨target,iter,ifs,0⟩] scope pos) 0 it acc env).onRaise (fun x=>do noteFrame x env;theTreesLotGoes x)) _ _ s;refine wpAny_noted ?_;rw[compTurn_list];refine aP (Fz (aP (j8 (turn n s hI) (fun r s₁ h₁=>?_) fun _ _ h'=>h'.elim)));cases r with
 |none=>exact bL h₁
 |some v=>
  refine aP (j8 h₁ (fun _ s₁ h₁=>?_) fun _ _ h'=>h'.elim);refine aP (j8 h₁ (fun _ s₂ h₂=>aP (j8 h₂ (fun ok s₃ h₃=>?_) fun _ _ h'=>h'.elim)) fun _ _ h'=>h'.elim);cases ok with
  |false=>exact bL ⟨rfl,h₃⟩
  |true=>
   exact aP (aP (j8 h₃ (fun x s₄ h₄=>aP (j8 h₄ (fun _ s₅ h₅=>bL (bL ⟨rfl,h₅⟩)) fun _ _ h'=>h'.elim)) fun _ _ h'=>h'.elim))
section
variable{X:Cx}
def KC(X:Cx)(ifs:List Expr)(t:TT):Prop:=
 ∀(pins:List (Addr×Obj))(s:Shared)(zzs:St)(H:Hp)(Q:Bool->Hp->Prop),Inv X pins zzs H s->t zzs H Q ->
  wpAny (model X.prog X.w) X.A (forIn ifs true fun c r=>if r=true then do let ok <- isTrue c X.env (eval c X.env);pure (ForInStep.yield ok) else pure (ForInStep.yield r)) (TP X pins zzs Q) X.xe s
def Vm:TT:=fun _ H Q=>Q true H
theorem a1e:KC X [] Vm:=fun _ _ _ H _ I h=>wpAny_tests_nil ⟨H,I,h⟩
theorem a1f{c:Expr}{t:TT}(h:PT X c t):KC X [c] t:=fun pins s zzs H Q I hw=>wpAny_tests_one (h pins s zzs H Q I hw)
def jK(X:Cx)(x:Str)(scope:Scope)(s:Shared)(H:Hp)(ex:List Addr):Cx:=
 { X with
  N:=GR X.N x
  s₀:=s
  H₀:=H
  env:=compEnvC scope (fM scope.names X.env.cells []) s.heap.objs.size X.env
  outer:=X.stack
  stack:=X.stack
  ex:=ex
  fn:=fun _=>false
  pn:=[]
  xe:=fun _ _=>False }
def sJ(J:It)(tc:TT)(te:TE)(zzs:St)(fin:List V->Hp->Prop)(W:Nat->Nat->List V->Hp->Prop):Prop:=
 ∀ i m ys H,W i m ys H->ys.length<=sizeLine/\((J.stop i H/\fin ys H) \/
  (J.go i H/\∀ v H',J.yld i H v H'->tc (some v::zzs) H' fun b H2=>if b=true then te (some v::zzs) H2 fun y H3=>∃ m',m'<m/\W (i+1) m' (ys++[y]) H3 else ∃ m',m'<m/\W (i+1) m' ys H2))
theorem lookup_mem{α:Type}:∀ {l:List (Str×α)} {x:Str} {k:α},l.lookup x=some k->(x,k)∈l
 |[],_,_,h=>by simp at h
 |(n,k')::r,x,k,h=>by
  rw[uy] at h;split at h
  ·rename_i hx;have:x=n:=by simpa using hx
   subst this;cases h;exact dY
  ·exact fU _ (lookup_mem h)
theorem TQ{N:List Str}{x y:Str}{i:Nat}(h:(GR N x)[i+1]?=some y):(N[i]?=some y/\y≠x)\/y=x ++ "'":=by
 unfold GR at h;rw[List.getElem?_cons_succ,cQ] at h;cases e:N[i]? with
 |none=>rw[e] at h;cases h
 |some z=>
  rw[e] at h;have h':(if z=x then x ++ "'" else z)=y:=by simpa using h
  by_cases hz:z=x
  ·rw[aK hz] at h';exact .inr h'.symm
  ·rw[aH hz] at h';subst h';exact .inl ⟨rfl,hz⟩
theorem Oi{x:Str}{scope:Scope}{pins:List (Addr×Obj)}{zzs:St}{H:Hp}{s:Shared}{h₁:Heap}{ex:List Addr}(ok:Ie scope X.env.scope X.N x)(hc:X.calm=true)(I:Inv X pins zzs H s)
  (hns:h₁.Ns s.heap.objs.size fun _=>none) (hk:∀ b o,s.heap.get? b=some o->h₁.get? b=some o)
  (hex:∀ b∈ex,b<s.heap.objs.size/\b≠X.env.locals/\b∉X.fs/\H b=none/\(b∈X.ex\/X.s₀.heap.objs.size<=b)/\(∀ y c,X.env.cells.lookup y=some c->c≠b)) {tk:Nat} :
  Inv (jK X x scope s H ex) [] (none::zzs) H { s with heap:=h₁,toks:=tk }:=by
 have hfree:∀ y∈scope.names,y.2=.free->∃ c,X.env.cells.lookup y.1=some c:=fun y hy e=>I.ok.has y.1 (ok.free y hy e)
 have cl:∀ y c,(fM scope.names X.env.cells []).lookup y=some c->X.env.cells.lookup y=some c:=fun y c e=>qH scope.names hfree (fun _ _ z=>by simp at z) e
 have clt:∀ y c,X.env.cells.lookup y=some c->c<s.heap.objs.size:=fun y c e=>by
  obtain⟨v,q⟩:=I.cell y c e;exact q.lt
 have RX:∀ y,(compEnvC scope (fM scope.names X.env.cells []) s.heap.objs.size X.env).kindOf y=(scope.names.lookup y).map fun k=>if(k==NameKind.free&&X.env.scope.kind==.function&&X.env.kindOf y==some .cell) then NameKind.cell else k:=fun y=>tR scope.names y
 have freeOf:∀ y,(∃ k,(compEnvC scope (fM scope.names X.env.cells []) s.heap.objs.size X.env).kindOf y=some k/\(k=.cell\/k=.free))->(y,NameKind.free)∈scope.names:=fun y ⟨k,e,hk⟩=>by
  rw[RX] at e;cases q:scope.names.lookup y with
  |none=>rw[q] at e;cases e
  |some k'=>
   have mem:=lookup_mem q;by_cases hf:k'=.free
   ·subst hf;exact mem
   ·rw[q] at e;have hb:(k'==NameKind.free)=false:=by simpa using hf
    simp only[wU,hb,Aq,vN,jU,Fo] at e;subst e;rcases hk with z|z
    ·exact absurd z (ok.WK _ mem)
    ·exact absurd z hf
 have a1Q:∀ b∈frs X.stack,b=X.env.locals\/b∈X.fs:=fun b hb=>cW.mp (I.wK b hb)
 refine⟨⟨I.ok.mod,?_,I.ok.glob,I.ok.blt,bK _,fun y z c e1 e2=>?_,fun y hy=>?_,fun y c z _=>?_,fun _=>I.ok.hd hc,I.ok.frames,.inl rfl,fun b hb=>⟨?_,fun y c e=>?_⟩,fun b o e=>?_,?_,fun b o e hb=>?_,fun b hb hf=>?_,?_,fun b hb=>?_⟩,
  rfl,I.bare,Un.kept hk,⟨_,hns,fun i y v e1 e2 e3=>?_⟩,fun y c e=>?_,I.hok.fresh (bK _),fun y c e=>I.mO y c (cl y c e),fun p hp=>?_,I.hok.kept hk,?_⟩
 ·exact ok.kind
 ·exact I.ok.inj y z c (cl y c e1) (cl z c e2)
 ·have hm:(y,NameKind.free)∈scope.names:=by
   rcases hy with z|z
   ·exact freeOf y ⟨_,z,.inl rfl⟩
   ·exact freeOf y ⟨_,z,.inr rfl⟩
  exact GQ scope.names (.inl hm)
 ·exact absurd (show false=true from z) (by decide)
 ·exact dU (hex b hb).1
 ·exact(hex b hb).2.2.2.2.2 y c (cl y c e)
 ·obtain⟨e1,e2⟩:=I.bs b o e;exact⟨e1,e2⟩
 ·exact cX I.ok.bsz I.sz
 ·rcases(hex b hb).2.2.2.2.1 with z|z
  ·exact I.ok.Uv b o e z
  ·exact absurd (jj (bM (I.ok.bs b o e).1) z) (oH _)
 ·rcases a1Q b hf with z|z
  ·exact(hex b hb).2.1 z
  ·exact(hex b hb).2.2.1 z
 ·exact I.stack
 ·exact I.yd b hb
 ·cases i with
  |zero=>
   have:(none::zzs)[0]?=some (some v):=e2;simp at this
  |succ i=>
   have e2':zzs[i]?=some (some v):=by simpa using e2
   have vis:Vis (relabel scope X.env) y:=e3;rcases TQ e1 with⟨eN,hyx⟩|hp
   ·
    have kf:(y,NameKind.free)∈scope.names:=by
     have k3:∃ k,(compEnvC scope (fM scope.names X.env.cells []) s.heap.objs.size X.env).kindOf y=some k/\(k=.local\/k=.cell\/k=.free):=by
      rcases vis with z|z|z
      ·exact⟨_,z,.inl rfl⟩
      ·exact⟨_,z,.inr (.inl rfl)⟩
      ·exact⟨_,z,.inr (.inr rfl)⟩
     obtain⟨k,e,hk3⟩:=k3;rcases hk3 with hl|hk3
     ·subst hl;have e':=e;rw[RX] at e';cases q:scope.names.lookup y with
      |none=>rw[q] at e';cases e'
      |some k'=>
       have mem:=lookup_mem q;rw[q] at e';have hk':k'=.local:=by
        by_cases Wc:(k'==NameKind.free&&X.env.scope.kind==.function&&X.env.kindOf y==some .cell)=true
        ·simp only[wU,Wc,mK,Fo] at e';cases e'
        ·simp only[wU,Wc,vN,jU,Fo] at e';exact e'
       subst hk';rcases ok.loc _ mem rfl with z|z
       ·exact absurd z hyx
       ·have:y = ".0":=z;subst this;exact absurd (fJ eN) ok.dot
     ·exact freeOf y ⟨k,e,hk3⟩
    have hout:=ok.free _ kf rfl;have a7c:Vis X.env.scope y:=by
     rcases hout with z|z
     ·exact .inr (.inl z)
     ·exact .inr (.inr z)
    obtain⟨m,hn,hl⟩:=I.loc;obtain⟨u,ru,lk⟩:=hl i y v eN e2' a7c;refine⟨u,ru,?_⟩;rcases lk with⟨lk,_⟩|⟨_,c,ec,hcell⟩
    ·have lk':X.env.scope.names.lookup y=some .local:=lk;rcases hout with z|z<;>(have z':X.env.scope.names.lookup y=_:=z;rw[lk'] at z';cases z')
    ·obtain⟨c',ec'⟩:=GQ (cells:=X.env.cells) (acc:=[]) scope.names (.inl kf);have:c'=c:=by
      have:=cl y c' ec';rw[ec] at this;cases this;rfl
     subst this;have kk:(compEnvC scope (fM scope.names X.env.cells []) s.heap.objs.size X.env).kindOf y=some .cell\/(compEnvC scope (fM scope.names X.env.cells []) s.heap.objs.size X.env).kindOf y=some .free:=by
      rcases vis with z|z|z
      ·
       have z':(compEnvC scope (fM scope.names X.env.cells []) s.heap.objs.size X.env).kindOf y=some .local:=z;rw[RX] at z';cases q:scope.names.lookup y with
       |none=>rw[q] at z';cases z'
       |some k'=>
        have mem:=lookup_mem q;rw[q] at z';have hk':k'=.local:=by
         by_cases Wc:(k'==NameKind.free&&X.env.scope.kind==.function&&X.env.kindOf y==some .cell)=true
         ·simp only[wU,Wc,mK,Fo] at z';cases z'
         ·simp only[wU,Wc,vN,jU,Fo] at z';exact z'
        subst hk';rcases ok.loc _ mem rfl with zz|zz
        ·exact absurd zz hyx
        ·have:y = ".0":=zz;subst this;exact absurd (fJ eN) ok.dot
      ·exact .inl z
      ·exact .inr z
     refine .inr ⟨kk,c',ec',?_⟩;obtain⟨oc,hoc,hd⟩:=hcell;exact⟨oc,hk _ _ hoc,hd⟩
   ·subst hp;exfalso;have kn:(compEnvC scope (fM scope.names X.env.cells []) s.heap.objs.size X.env).kindOf (x ++ "'")=none:=by rw[RX,ok.prime];rfl
    rcases vis with z|z|z
    ·have z':(compEnvC scope (fM scope.names X.env.cells []) s.heap.objs.size X.env).kindOf (x ++ "'")=some .local:=z;rw[kn] at z';cases z'
    ·have z':(compEnvC scope (fM scope.names X.env.cells []) s.heap.objs.size X.env).kindOf (x ++ "'")=some .cell:=z;rw[kn] at z';cases z'
    ·have z':(compEnvC scope (fM scope.names X.env.cells []) s.heap.objs.size X.env).kindOf (x ++ "'")=some .free:=z;rw[kn] at z';cases z'
 ·obtain⟨v,oc,hoc,hd⟩:=I.cell y c (cl y c e);exact⟨v,oc,hk _ _ hoc,hd⟩
 ·exact absurd (show p∈([]:List (Addr×Obj)) from hp) (by simp)
 ·show(none::zzs).length=(GR X.N x).length;unfold GR;rw[iR,iR,aR,I.len]
end
section
variable{X:Cx}
theorem Heap.SameBut.keeps{a:Addr}{h h':Heap}(k:Heap.SameBut a h h'){b:Addr}{o:Obj}(hb:b≠a)(e:h.get? b=some o):h'.get? b=some o:=(k.2 b hb).trans e
theorem TV{x:Str}{px pos:Pos}{scope:Scope}{elt iter:Expr}{ifs:List Expr}{tc:TT}{te:TE}{pins:List (Addr×Obj)}{zzs:St}{H₂:Hp}{s₃:Shared}{h₁:Heap}{tk:Nat}{it D:Addr}{fp:List Addr}{tn:Nat->Heap->Prop}{J:It}{fin:List V->Hp->Prop}
  {W:Nat->Nat->List V->Hp->Prop} {RR:Value->Addr->Result->Shared->Prop}
  (ok:Ie scope X.env.scope X.N x) (hc:X.calm=true) (hif:∀ s H ex,KC (jK X x scope s H ex) ifs tc) (he:∀ s H ex,PE (jK X x scope s H ex) elt te)
  (I3:Inv X pins zzs H₂ s₃) (T:Turn X.prog X.w X.K (.Name x px) J fp it tn) (st:tn 0 s₃.heap) (f2:∀ b∈fp,vp X pins H₂ b) (w0:∃ m,W 0 m [] H₂) (hW:sJ J tc te zzs fin W)
  (BW:H₂ D=none) (fD:vp X pins H₂ D) (h0D:X.s₀.heap.objs.size<=D) (RN:s₃.heap.get? D=some { cls:=.type "list",dict:=none,data:=.seq ([]:List Value).toArray }) (Dfp:D∉fp)
  (hns₁:h₁.Ns s₃.heap.objs.size fun _=>none) (zq:∀ b o,s₃.heap.get? b=some o->h₁.get? b=some o)
  (hRR:∀ D C ys H' s',H' D=none->fin ys H'->Inv X pins zzs (upd H' D (.lst ys)) s'->vp X pins (upd H' D (.lst ys)) C->(∃ m,s'.heap.Ns C m)->RR (.ref D) C (.ok .next) s') :
  codeAny (model X.prog X.w) X.A (.compLoop (.ListComp elt [⟨.Name x px,iter,ifs,0⟩] scope pos) 0 (.ref it) (.ref D) (compEnvC scope (fM scope.names X.env.cells []) s₃.heap.objs.size X.env)) (RR (.ref D) s₃.heap.objs.size) { s₃ with heap:=h₁,toks:=tk }:=by
 have a5o:∀ b∈fp,∃ o,s₃.heap.get? b=some o/\∀ v,o.data≠.cell v:=T.obj 0 s₃.heap st;have hex:∀ b∈D::fp,b<s₃.heap.objs.size/\b≠X.env.locals/\b∉X.fs/\H₂ b=none/\(b∈X.ex\/X.s₀.heap.objs.size<=b)/\(∀ y c,X.env.cells.lookup y=some c->c≠b):=fun b hb=>by
  rcases cW.mp hb with e|hb
  ·subst e;obtain⟨g0,g1,g2,g3,g4,g5⟩:=fD;exact⟨bM RN,g1,g2,g0,g3,g4⟩
  ·obtain⟨g0,g1,g2,g3,g4,g5⟩:=f2 b hb;obtain⟨o,eo,_⟩:=a5o b hb;exact⟨bM eo,g1,g2,g0,g3,g4⟩
 have I4:=Oi (ex:=D::fp) (tk:=tk) ok hc I3 hns₁ zq hex;generalize hY:jK X x scope s₃ H₂ (D::fp)=Y at I4;have KH:Y.prog=X.prog:=by rw[<- hY];rfl
 have Yw:Y.w=X.w:=by rw[<- hY];rfl
 have YK:Y.K=X.K:=by rw[<- hY];rfl
 have YA:Y.A=X.A:=by rw[<- hY];rfl
 have Yc:Y.calm=true:=by rw[<- hY];exact hc
 have YN:Y.N.Nodup:=by rw[<- hY];exact ok.nd
 have Y0:Y.N[0]?=some x:=by rw[<- hY];rfl
 have O5:Y.env=compEnvC scope (fM scope.names X.env.cells []) s₃.heap.objs.size X.env:=by rw[<- hY];rfl
 have Yx:Y.env.scope.names.lookup x=some .local:=by rw[O5];exact lookup_relabel_local ok.own
 have Yfs:Y.fs=frs X.stack:=by rw[<- hY];rfl
 have Yex:Y.ex=D::fp:=by rw[<- hY];rfl
 have Ys0:Y.s₀=s₃:=by rw[<- hY];rfl
 have YH0:Y.H₀=H₂:=by rw[<- hY];rfl
 have Ypn:Y.pn=[]:=by rw[<- hY];rfl
 have Yxe:Y.xe=fun _ _=>False:=by rw[<- hY];rfl
 have a6J:KC Y ifs tc:=by rw[<- hY];exact hif _ _ _
 have he':PE Y elt te:=by rw[<- hY];exact he _ _ _
 have Dne:D≠Y.env.locals:=by rw[O5];exact dU (bM RN)
 have Dfs:D∉Y.fs:=by
  rw[Yfs];intro hb;rcases cW.mp (I3.wK D hb) with z|z
  ·exact fD.2.1 z
  ·exact fD.2.2.1 z
 have a4V:∀ y c,Y.env.cells.lookup y=some c->c≠D:=fun y c e=>by
  have hfree:∀ y∈scope.names,y.2=.free->∃ c,X.env.cells.lookup y.1=some c:=fun y hy e=>I3.ok.has y.1 (ok.free y hy e)
  rw[O5] at e;exact fD.2.2.2.2.1 y c (qH scope.names hfree (fun _ _ z=>by simp at z) e)
 have fpY:∀ {H':Hp} {pl:List (Addr×Obj)},(∀ b∈fp,H' b=none)->(∀ p∈pl,p.1∉fp)->∀ b∈fp,vp Y pl H' b:=fun {H' pl} hn hp b hb=>by
  obtain⟨g0,g1,g2,g3,g4,g5⟩:=f2 b hb;have hlt:=(hex b (fU _ hb)).1;refine⟨hn b hb,?_,?_,.inl (by rw[Yex];exact fU _ hb),fun y c e=>?_,fun p q z=>?_⟩
  ·rw[O5];exact dU hlt
  ·rw[Yfs];intro z;rcases cW.mp (I3.wK b z) with z|z
   ·exact g1 z
   ·exact g2 z
  ·have hfree:∀ y∈scope.names,y.2=.free->∃ c,X.env.cells.lookup y.1=some c:=fun y hy e=>I3.ok.has y.1 (ok.free y hy e)
   rw[O5] at e;exact g4 y c (qH scope.names hfree (fun _ _ z=>by simp at z) e)
  ·rw[Ypn,Ke] at q;exact hp p q (by rw[z];exact hb)
 have DY:∀ {H':Hp},H' D=none->vp Y [] H' D:=fun {H'} hn=>⟨hn,Dne,Dfs,.inl (by rw[Yex];exact dY),a4V,fun p q=>absurd (show p∈([]:List (Addr×Obj)) by rw[Ypn] at q;exact q) (by simp)⟩
 have a5H:∀ {bT:St} {H':Hp} {s':Shared} {its:Array Value} {n:Nat},Inv Y [] bT H' s'->H' D=none->s'.heap.get? D=some { cls:=.type "list",data:=.seq its n }->Inv Y [(D,{ cls:=.type "list",data:=.seq its n })] bT H' s':=fun {bT H' s' its n} J' hn e=>by
  refine J'.xP fun p hp=>?_
  have:p=(D,{ cls:=.type "list",data:=.seq its n }):=by simpa using hp
  subst this;exact⟨e,hn,Dne,Dfs,fun v z=>by
   have z':Data.seq its n=Data.cell v:=z;cases z'⟩
 rw[<- O5];obtain⟨m0,w0⟩:=w0;refine IW (fun m s'=>∃ i ys Rg H' its n,Inv Y [(D,{ cls:=.type "list",data:=.seq its n })] (Rg::zzs) H' s'/\tn i s'.heap/\(∀ b∈fp,H' b=none)/\Vals ys its.toList/\W i m ys H') ?_ m0
  ⟨0,[],none,H₂,_,_,a5H I4 BW (zq D _ RN),T.keep 0 _ _ st (fun b _ o e=>zq b o e),fun b hb=>(f2 b hb).1,.nil,w0⟩
 rintro m s' ⟨i,ys,Rg,H',its,n,J',st',fr',rv,w'⟩;obtain⟨hle,hW'⟩:=hW i m ys H' w';have hDn:H' D=none:=(J'.pin (D,{ cls:=.type "list",data:=.seq its n }) (by simp)).2.1;have fpn:∀ p∈[((D,{ cls:=.type "list",data:=.seq its n }):Addr×Obj)],p.1∉fp:=fun p hp=>by
  have:p=(D,{ cls:=.type "list",data:=.seq its n }):=by simpa using hp
  subst this;exact Dfp
 rcases hW' with⟨stop,hf⟩|⟨go,step⟩
 ·
  have h9:=T.done Y KH Yw YK Yc i _ s' (Rg::zzs) H' (fun _ _=>False) J' (fpY fr' fpn) st' stop;rw[YA] at h9;refine thn h9 fun r s5 zzy=>?_
  obtain⟨hr,J5⟩:=zzy;subst hr;show RR (.ref D) s₃.heap.objs.size (.ok .next) s5;have eD:=(J5.pin (D,{ cls:=.type "list",data:=.seq its n }) (by simp)).1;have un:Un (frs X.stack) (D::fp) H₂ H' s₃.heap s5.heap:=by
   have:=J5.base;rw[Yfs,Yex,YH0,Ys0] at this;exact this
  have a6L:HOk X.prog X.w H' s5.heap:=by
   have:=J5.hok;rw[KH,Yw] at this;exact this
  have os5:s5.os=s₃.os:=by have:=J5.os;rw[Ys0] at this;exact this
  have I5:Inv X pins zzs H' s5:=I3.call' os5 un a6L J5.bare fun b hb=>by
   rcases cW.mp hb with e|hb
   ·subst e;exact⟨fD.2.2.2.1,fD.2.1,fD.2.2.2.2.1,fD.2.2.2.2.2⟩
   ·obtain⟨g0,g1,g2,g3,g4,g5⟩:=f2 b hb;exact⟨g3,g1,g4,g5⟩
  have I6:Inv X pins zzs (upd H' D (.lst ys)) s5:=I5.track hDn h0D fD.2.1 fD.2.2.2.2.1 fD.2.2.2.2.2 ⟨hle,its.toList,n,rv,by simpa using eD⟩;obtain⟨mC,hnC,_⟩:=J5.loc;have eL:Y.env.locals=s₃.heap.objs.size:=by rw[O5];rfl
  have hCn:H' s₃.heap.objs.size=none:=by have:=J5.free;rw[eL] at this;exact this
  refine hRR D s₃.heap.objs.size ys H' s5 hDn hf I6 ?_ ⟨mC,by rw[<- eL];exact hnC⟩;exact I3.M4 (bK _) (by rw[bD (uH (bM RN))];exact hCn)
 ·
  have h9:=T.item Y KH Yw YK Yc i _ s' (Rg::zzs) H' (fun _ _=>False) J' (fpY fr' fpn) st' go;rw[YA] at h9;refine thn h9 fun r s5 zzy=>?_
  obtain⟨u,hr,h5⟩:=zzy;subst hr;refine thn h5 fun _ s6 zzy=>?_
  obtain⟨v,H6,J6,rv6,y6,st6,fr6⟩:=zzy;have a7k:H6 D=none:=(J6.pin (D,{ cls:=.type "list",data:=.seq its n }) (by simp)).2.1;have J6':=J6.pinned (fp:=fp) (fpY fr6 fpn) (T.obj _ _ st6);have hst:=step v H6 y6;refine QG ?_;have a6M:∀ Q',(∀ s7,Inv Y ([(D,{ cls:=.type "list",data:=.seq its n })]++wz fp s6.heap) (some v::zzs) H6 s7->Q' () s7)->wpAny (model X.prog X.w) X.A (storeName Y.env x u) Q' (fun _ _=>False) s6:=fun Q' hQ'=>
   qe (i:=0) (zzs:=Rg::zzs) J6' YN Y0 (.inl Yx) rv6 (fun s7 J7=>hQ' s7 J7) (.inr Yx)
  refine a6M _ fun s7 J7=>?_
  have h10:=a6J _ s7 (some v::zzs) H6 _ J7 hst;rw[KH,Yw,YA,Yxe] at h10;refine thn h10 fun b s8 zzy=>?_
  obtain⟨H8,J8,q8⟩:=zzy;have again:∀ {s9:Shared} {H9:Hp} {ys':List V} {its':Array Value} {n':Nat},Inv Y [] (some v::zzs) H9 s9->(∀ b∈fp,H9 b=none/\∀ o,s6.heap.get? b=some o->s9.heap.get? b=some o)->H9 D=none ->
    s9.heap.get? D=some { cls:=.type "list",data:=.seq its' n' }->Vals ys' its'.toList->(∃ m',m'<m/\W (i+1) m' ys' H9) ->
    ∃ m',m'<m/\∃ i ys Rg H' its n,Inv Y [(D,{ cls:=.type "list",data:=.seq its n })] (Rg::zzs) H' s9/\tn i s9.heap/\(∀ b∈fp,H' b=none)/\Vals ys its.toList/\W i m' ys H':=fun {s9 H9 ys' its' n'} J9 a5n hD9 eD9 rv9 hw9=>by
   obtain⟨m',hm,w9⟩:=hw9;exact⟨m',hm,i+1,ys',some v,H9,its',n',a5H J9 hD9 eD9,T.keep _ _ _ st6 (fun b hb o e=>(a5n b hb).2 o e),fun b hb=>(a5n b hb).1,rv9,w9⟩
  have a5I:∀ {ZQ:St} {H9:Hp} {s9:Shared},Inv Y ([(D,{ cls:=.type "list",data:=.seq its n })]++wz fp s6.heap) ZQ H9 s9->∀ b∈fp,H9 b=none/\∀ o,s6.heap.get? b=some o->s9.heap.get? b=some o:=fun {ZQ H9 s9} J9 b hb=>by
   obtain⟨o,eo,_⟩:=T.obj _ _ st6 b hb;have p:=J9.pin (b,o) (jW _ (jW _ (wk hb eo)));exact⟨p.2.1,fun o' e'=>by rw[eo] at e';cases e';exact p.1⟩
  have a5J:∀ {ZQ:St} {H9:Hp} {s9:Shared},Inv Y ([(D,{ cls:=.type "list",data:=.seq its n })]++wz fp s6.heap) ZQ H9 s9->s9.heap.get? D=some { cls:=.type "list",data:=.seq its n }/\H9 D=none:=fun {ZQ H9 s9} J9=>by
   have p:=J9.pin (D,{ cls:=.type "list",data:=.seq its n }) (jW _ (jE _ (by simp)));exact⟨p.1,p.2.1⟩
  cases b with
  |false=>
   show ∃ m',m'<m/\_;have q8':∃ m',m'<m/\W (i+1) m' ys H8:=q8;obtain⟨eD8,hD8⟩:=a5J J8;exact again (J8.xP fun p hp=>absurd hp (by simp)) (a5I J8) hD8 eD8 rv q8'
  |true=>
   show wpAny _ _ _ _ _ _;have q8':te (some v::zzs) H8 fun y H3=>∃ m',m'<m/\W (i+1) m' (ys++[y]) H3:=q8
   have h11:=he' _ s8 (some v::zzs) H8 _ J8 q8';rw[KH,Yw,YA,Yxe] at h11;refine thn h11 fun yv s9 zzy=>?_
   obtain⟨y,H9,J9,ry,q9⟩:=zzy;obtain⟨eD9,hD9⟩:=a5J J9;have hz:its.size<=sizeLine:=by have:=rv.length;simp only[eO] at this;lia
   refine wpAny_list_append_plain (hsz:=hz) ⟨n,eD9⟩ fun h' hl' hsb'=>?_
   obtain⟨n',eD'⟩:=hl';have J9':Inv Y [] (some v::zzs) H9 s9:=J9.xP fun p hp=>absurd hp (by simp)
   obtain⟨g0,g1,g2,g3,g4,g5⟩:=DY hD9;have J10:Inv Y [] (some v::zzs) H9 { s9 with heap:=h' }:=J9'.turned (t':=s9.toks) (fun b o hb e=>Heap.SameBut.keeps hsb' hb e) g0 g1 g3 g4 g5;refine again J10 (fun b hb=>?_) hD9 eD' (by simpa using rv.append (Vals.a4Z ry)) q9;have p9:=a5I J9 b hb;exact⟨p9.1,fun o e=>Heap.SameBut.keeps hsb' (fun z=>Dfp (z▸hb)) (p9.2 o e)⟩
theorem GX{x:Str}{px pos:Pos}{scope:Scope}{elt iter:Expr}{ifs:List Expr}{tc:TT}{te:TE}{pins:List (Addr×Obj)}{zzs:St}{H₂:Hp}{s₂:Shared}{it:Addr}{fp:List Addr}{tn:Nat->Heap->Prop}{J:It}{fin:List V->Hp->Prop}
  {W:Nat->Nat->List V->Hp->Prop} {RR:Value->Addr->Result->Shared->Prop} {E:Value->Shared->Prop}
  (ok:Ie scope X.env.scope X.N x) (hc:X.calm=true) (hif:∀ s H ex,KC (jK X x scope s H ex) ifs tc) (he:∀ s H ex,PE (jK X x scope s H ex) elt te)
  (I2:Inv X pins zzs H₂ s₂) (T:Turn X.prog X.w X.K (.Name x px) J fp it tn) (st:tn 0 s₂.heap) (f2:∀ b∈fp,vp X pins H₂ b) (w0:∃ m,W 0 m [] H₂) (hW:sJ J tc te zzs fin W)
  (hRR:∀ D C ys H' s',H' D=none->fin ys H'->Inv X pins zzs (upd H' D (.lst ys)) s'->vp X pins (upd H' D (.lst ys)) C->(∃ m,s'.heap.Ns C m)->RR (.ref D) C (.ok .next) s') :
  wpAny (model X.prog X.w) X.A (newList []) (fun acc s₃=>wpAny (model X.prog X.w) X.A (newFunctionEnv scope X.env.globals (fM scope.names X.env.cells []) [] X.env.qual none .none (some X.env)) (fun cenv s₄=>
   codeAny (model X.prog X.w) X.A (.compStart (.ListComp elt [⟨.Name x px,iter,ifs,0⟩] scope pos) 0 (.ref it) acc { cenv with scope:=relabel scope X.env }) (RR acc cenv.locals) s₄) E s₃) E s₂:=by
 refine uw (wpAny_newFunctionEnv ok.WK (by intro y hy;simp at hy) (fun h₁ hns₁ hsb₁=>?_) ok.kind);have I3:Inv X pins zzs H₂ { s₂ with heap:=s₂.heap.push { cls:=.type "list",dict:=none,data:=.seq ([]:List Value).toArray } }:=I2.kept (t':=s₂.toks) fun b o e=>eY _ e
 have zq:∀ b o,(s₂.heap.push { cls:=.type "list",dict:=none,data:=.seq ([]:List Value).toArray }).get? b=some o->h₁.get? b=some o:=fun b o e=>Heap.SameBut.keeps hsb₁ (dU (bM e)) (eY _ e)
 have Wo:∀ b o,s₂.heap.get? b=some o->(s₂.heap.push { cls:=.type "list",dict:=none,data:=.seq ([]:List Value).toArray }).get? b=some o:=fun b o e=>eY _ e
 have BW:H₂ s₂.heap.objs.size=none:=I2.hok.fresh (bK _);have loop:=TV (RR:=RR) (s₃:={ s₂ with heap:=s₂.heap.push { cls:=.type "list",dict:=none,data:=.seq ([]:List Value).toArray } }) (h₁:=h₁) (tk:=s₂.toks+([]:List (Str×Value)).length) (iter:=iter) (pos:=pos)
  ok hc hif he I3 T (T.keep 0 _ _ st fun b _ o e=>Wo b o e) f2 w0 hW BW (I2.M4 (bK _) BW) I2.sz (fV _ rfl) (fun hb=>by
   obtain⟨o,e,_⟩:=T.obj 0 _ st _ hb;exact oH _ (bM e)) (by simpa using hns₁) zq hRR
 exact codeAny_compStart_list loop (T.self _ 0 _ _ _ (T.keep 0 _ _ st fun b _ o e=>zq b o (Wo b o e)) loop)
def a2u(wi:TI)(tc:TT)(te:TE):TE:=fun zzs H Q=>wi zzs H fun J H1=>∃ W:Nat->Nat->List V->Hp->Prop,(∃ m,W 0 m [] H1)/\sJ J tc te zzs (fun ys H2=>∀ p,H2 p=none->Q (.ref p) (upd H2 p (.lst ys))) W
theorem a0U{x:Str}{px pos:Pos}{scope:Scope}{elt iter:Expr}{ifs:List Expr}{wi:TI}{tc:TT}{te:TE}(ok:yW scope X.env.scope X.N x=true)(hc:X.calm=true)(hi:PI X (.Name x px) iter wi)
  (hif:∀ s H ex,KC (jK X x scope s H ex) ifs tc) (he:∀ s H ex,PE (jK X x scope s H ex) elt te) (hs:∀ v,foldedSetIterable iter X.env v=pure v:=by intro _;rfl) :
  PE X (.ListComp elt [⟨.Name x px,iter,ifs,0⟩] scope pos) (a2u wi tc te):=by
 intro pins s zzs H Q I h;have ok':=CN ok;have hfree:∀ y∈scope.names,y.2=.free->∃ c,X.env.cells.lookup y.1=some c:=fun y hy e=>I.ok.has y.1 (ok'.free y hy e)
 rw[eval_ListComp];refine Zd (use:=none) rfl hs (CK hfree) ok'.kind ok'.names (thn (hi pins s zzs H _ I h) fun v s1 h1=>thn h1 fun itv s2 h2=>?_);obtain⟨it,fp,tn,J,H2,e,I2,T,st2,f2,W,w0,hW⟩:=h2;subst e;refine GX (RR:=fun acc C=>compPost (model X.prog X.w) X.A X.xe none (EP X pins zzs Q) acc C) ok' hc hif he I2 T st2 f2 w0 hW fun D C ys H' s' hD fin I' fC hm=>?_
 obtain⟨m,hm⟩:=hm;refine⟨m,hm,fun h' hsb=>?_⟩;obtain⟨g0,g1,g2,g3,g4,g5⟩:=fC;exact⟨.ref D,_,I'.turned (t':=s'.toks) (fun b o hb e=>Heap.SameBut.keeps hsb hb e) g0 g1 g3 g4 g5,rfl,fin D hD⟩
def YD(i:Nat)(wi:TI)(tc:TT)(te:TE):TS:=fun D zzs H=>wi zzs H fun J H1=>∃ W:Nat->Nat->List V->Hp->Prop,(∃ m,W 0 m [] H1)/\sJ J tc te zzs (fun ys H2=>∀ p,H2 p=none->D.nx (zzs.set i (some (.ref p))) (upd H2 p (.lst ys))) W
theorem a1k{i:Nat}{y x:Str}{py px pos spos:Pos}{scope:Scope}{elt iter:Expr}{ifs:List Expr}{wi:TI}{tc:TT}{te:TE}(hN:X.N.Nodup)(hiy:X.N[i]?=some y)(hy:X.env.scope.names.lookup y=some .local)
  (ok:yW scope X.env.scope X.N x=true) (hc:X.calm=true) (hi:PI X (.Name x px) iter wi)
  (hif:∀ s H ex,KC (jK X x scope s H ex) ifs tc) (he:∀ s H ex,PE (jK X x scope s H ex) elt te)
  (hsw:swapsWith (.ListComp elt [⟨.Name x px,iter,ifs,0⟩] scope pos) (some (.Name y py)) spos.line X.env=pure true:=by rfl) (hs:∀ v,foldedSetIterable iter X.env v=pure v:=by intro _;rfl) :
  PS X (.Assign [.Name y py] (.ListComp elt [⟨.Name x px,iter,ifs,0⟩] scope pos) spos) (YD i wi tc te):=by
 intro pins s zzs H Dn I h;have ok':=CN ok;have hfree:∀ y∈scope.names,y.2=.free->∃ c,X.env.cells.lookup y.1=some c:=fun y hy e=>I.ok.has y.1 (ok'.free y hy e)
 rw[exec_Assign_Name_used _ _ _ _ hsw];refine aP (Fz (aP ?_));show wpAny _ X.A (do let _ <- comprehension (.ListComp elt [⟨.Name x px,iter,ifs,0⟩] scope pos) scope X.env _ (newList []) false (eval iter X.env) (some (assign (.Name y py) X.env))) _ _ s;refine aP (j8 (Zd (use:=some (assign (.Name y py) X.env)) (Q:=fun _ s'=>SP X pins Dn .next s') rfl hs (CK hfree) ok'.kind ok'.names
  (thn (hi pins s zzs H _ I h) fun v s1 h1=>thn h1 fun itv s2 h2=>?_)) (fun _ s' hq=>bL (bL hq)) fun _ _ e=>e)
 obtain⟨it,fp,tn,J,H2,e,I2,T,st2,f2,W,w0,hW⟩:=h2;subst e;refine GX (RR:=fun acc C=>compPost (model X.prog X.w) X.A X.xe (some (assign (.Name y py) X.env)) (fun _ s'=>SP X pins Dn .next s') acc C) ok' hc hif he I2 T st2 f2 w0 hW fun D C ys H' s' hD fin I' fC hm=>?_
 obtain⟨m,hm⟩:=hm;show wpAny _ X.A (assign (.Name y py) X.env (.ref D)) _ _ _;obtain⟨g0,g1,g2,g3,g4,g5⟩:=fC;refine QG (I8 (i:=i) (v:=.ref D) I' hN hiy (.inl hy) rfl (fun s'' I'' hch=>?_) (.inr hy));obtain⟨a,hsb,ha⟩:=hch;have hCa:C≠a:=by
  rcases ha with z|z
  ·rw[z];exact g1
  ·exact fun z'=>g4 _ _ z z'.symm
 refine⟨m,hm.sameBut hsb hCa,fun h' hsb'=>?_⟩;exact⟨_,_,I''.turned (t':=s''.toks) (fun b o hb e=>Heap.SameBut.keeps hsb' hb e) g0 g1 g3 g4 g5,fin D hD⟩
end
theorem fQ.there{P:Program}{w:World}{H:Hp}{h:Heap}{a:Addr}{o:HO}(x:fQ P w H h a o):∃ ob,h.get? a=some ob:=by
 cases o with
 |lst xs=>obtain⟨_,_,_,_,e⟩:=x;exact⟨_,e⟩
 |tup xs=>obtain⟨_,_,_,ob,e,_⟩:=x;exact⟨_,e⟩
 |dK kvs=>obtain⟨_,_,_,_,o,_,_,e,_⟩:=x;exact⟨_,e⟩
 |dT kvs=>obtain⟨_,_,_,_,o,_,_,e,_⟩:=x;exact⟨_,e⟩
 |set S n=>obtain⟨o,_,_,_,e,_⟩:=x;exact⟨_,e⟩
 |ins C dx fs=>obtain⟨_,_,_,e,_⟩:=x;exact⟨_,e⟩
 |own y=>obtain⟨_,e⟩:=x;exact⟨_,e⟩
 |xd fs=>obtain⟨_,⟨_,_,_,e,_⟩,_⟩:=x;exact⟨_,e⟩
 |rng lo hi=>obtain⟨_,_,_,e⟩:=x;exact⟨_,e⟩
 |frz ob u=>obtain⟨e,_⟩:=x;exact⟨_,e⟩
 |tbl ps=>exact⟨_,show h.get? a=some _ from x⟩
 |met f y=>exact⟨_,show h.get? a=some _ from x⟩
 |ext φ=>obtain⟨_,e,_⟩:=x;exact e
structure Fly(outer:List Env)(H':Hp)(h0:Heap)(ea C:Addr)(h:Heap):Prop where
 free:H' ea=none
 new:h0.get? ea=none
 fl:∃(B:Heap)(t:Addr),Heap.FlyingW B outer ea (.ref C) (.ref t) h/\∀ b o,h.get? b=some o->(H' b≠none\/∃ o',h0.get? b=some o')->b∉frs outer->B.get? b=some o
def CXE(P:Program)(w:World):CXT:=fun outer H s E e s'=>∃ ea C H',e=.ref ea/\s'.os=s.os/\AllBare s'.gens/\Un (frs outer) [] H H' s.heap s'.heap/\HOk P w H' s'.heap/\Fly outer H' s.heap ea C s'.heap/\E (.ref C) none H'
section
variable{P:Program}{w:World}{K:ao}{mg:Str->Option Value}{base:Heap}{N:List Str}{qual:Str}{scope:Scope}{f:Addr}{cd:Value}{A:Around}{outer:List Env}{s0:Shared}{H0:Hp}{E:XK}
theorem XD{pins:List (Addr×Obj)}{zzs:St}{H:Hp}{s:Shared}{h':Heap}{e C:Addr}{vs:List Value}(I:Inv (rZ (CXE P w) P w K mg base N qual scope f cd A outer s0 H0 E) pins zzs H s)
  (hx:Heap.MadeExcOf s.heap h' e (.ref C) vs) (hE:E (.ref C) none H):(rZ (CXE P w) P w K mg base N qual scope f cd A outer s0 H0 E).xe (.ref e) { s with heap:=h' }:=by
 have a3c:∀ b,b∈frs (envOfC qual scope s0.heap.objs.size f cd::outer)->b=s0.heap.objs.size\/b∈frs outer:=fun b hb=>cW.mp (I.wK b hb)
 have hB:∀ b o,s.heap.get? b=some o->b∉frs (envOfC qual scope s0.heap.objs.size f cd::outer)->(PySem.W.hideAll s.heap (frs (envOfC qual scope s0.heap.objs.size f cd::outer))).get? b=some o:=fun b o e n=>Zw _ e n
 show wpAny (model P w) (A.deeper (envOfC qual scope s0.heap.objs.size f cd)) (leaving (envOfC qual scope s0.heap.objs.size f cd) (.ref e)) (fun _ s''=>CXE P w outer H0 s0 E (.ref e) s'') (fun e' s''=>CXE P w outer H0 s0 E e' s'') { s with heap:=h' };refine wpAny_leaves_madeW (base:=PySem.W.hideAll s.heap (frs (envOfC qual scope s0.heap.objs.size f cd::outer))) (h:=s.heap) I.ok.frames rfl (fun b o q=>ZF _ q)
  (PySem.W.funFrames_hide I.stack fun env he a ha=>Fj.mpr ⟨env,he,ha⟩) hx fun h'' t fl _ _ sm=>?_
 have new:s.heap.get? e=none:=hx.new;have sm':s.heap.UpToSlots h'':=(Heap.UpToSlots.of_keeps hx.keeps).trans sm;have stays:=fl.1;have xH:∀ b o,s.heap.get? b=some o->b∉frs (envOfC qual scope s0.heap.objs.size f cd::outer)->h''.get? b=some o:=fun b o q n=>stays b o (hB b o q n)
 have Uw:∀ b o,s0.heap.get? b=some o->b∉frs outer->b∉frs (envOfC qual scope s0.heap.objs.size f cd::outer):=fun b o q n hb=>by
  rcases a3c b hb with z|z
  ·exact dU (bM q) z
  ·exact n z
 have trk:∀ b u,H b=some u->b∉frs (envOfC qual scope s0.heap.objs.size f cd::outer):=fun b u q hb=>by
  have:=I.yd b hb;rw[q] at this;cases this
 have Qg:∀ b o,s0.heap.get? b=some o->∃ o',s.heap.get? b=some o':=fun b o q=>I.base.there b o q (by show b∉[];simp)
 refine⟨e,C,H,rfl,I.os,I.bare,⟨fun b o q n hb _=>?_,fun b o q n hb _=>?_,fun b o q n hx'=>I.base.free b o q n (by show b∉[];simp),fun b o q _=>?_,I.base.tups,I.base.qL,I.base.sG⟩,fun a o q=>?_,⟨?_,?_,?_⟩,hE⟩
 ·exact xH b o (I.base.keep b o q n hb (by show b∉[];simp)) (Uw b o q hb)
 ·obtain⟨sl,e1⟩:=I.base.slot b o q n hb (by show b∉[];simp);obtain⟨_,o',ho',hd⟩:=I.xu.mem hb;rw[e1] at ho';cases ho';obtain⟨sl',e2⟩:=sm' b _ e1 hd;exact⟨sl',e2⟩
 ·obtain⟨o',e1⟩:=Qg b o q;by_cases hb:b∈frs (envOfC qual scope s0.heap.objs.size f cd::outer)
  ·obtain⟨_,o2,ho2,hd⟩:=I.stack.mem hb;obtain⟨sl',e2⟩:=sm' b _ ho2 hd;exact⟨_,e2⟩
  ·exact⟨o',xH b o' e1 hb⟩
 ·refine(I.hok a o q).stay (fun b u hb z=>xH b u z ?_) (fun _ z=>z) fun _ _ z=>z
  rcases hb with rfl|hb
  ·exact trk b o q
  ·exact trk b _ hb
 ·cases q:H e with
  |none=>rfl
  |some o=>
   obtain⟨ob,z⟩:=(I.hok e o q).there;rw[new] at z;cases z
 ·cases q:s0.heap.get? e with
  |none=>rfl
  |some o=>
   obtain⟨ob,z⟩:=Qg e o q;rw[new] at z;cases z
 ·refine⟨_,t,fl,fun b o q hb n=>?_⟩;have key:∃ o',s.heap.get? b=some o'/\b∉frs (envOfC qual scope s0.heap.objs.size f cd::outer):=by
   rcases hb with z|⟨o',z⟩
   ·cases r:H b with
    |none=>exact absurd r z
    |some u=>
     obtain⟨ob,y⟩:=(I.hok b u r).there;exact⟨ob,y,trk b u r⟩
   ·obtain⟨o2,y⟩:=Qg b o' z;exact⟨o2,y,Uw b o' z n⟩
  obtain⟨o',y,n'⟩:=key;have:=xH b o' y n';rw[q] at this;cases this;exact hB b o y n'
end
structure ju(K:ao)(C:Addr):Prop where
 ex:PySem.W.excIn K C [.type "ValueError",.type "Exception",.type "BaseException",.type "object"] "ValueError.__new__" = true
theorem ju.obj{K:ao}{C:Addr}(c:ju K C){h:Heap}(X:K.In h):∃ tl N nm q bs hdct sn sub ab col dd k0 k1 k2 k3 k5 mN,h.get? C=some (excClassObj nm q C N bs tl hdct sn sub ab col dd k0 k1 k2 k3 k5 "ValueError.__new__")/\h.Ns N mN/\mN "__init__" = none /\
  OwnTail h [.type "ValueError",.type "Exception",.type "BaseException",.type "object"] tl:=by
 have q:=c.ex;unfold PySem.W.excIn at q;split at q
 ·rename_i dd cd sl ho;split at q
  ·rename_i C' bm k0 k1 k2 k3 n k5 hm hs;simp only[lW,lZ,qm] at q;obtain⟨⟨⟨⟨⟨rfl,rfl⟩,hdel⟩,ht⟩,hok⟩,hni⟩:=q;obtain⟨nm,bs,mro,ns,qn,hd,sn,sub,ab,col,del⟩:=cd;dsimp only at hm hdel hok hni;subst hm hdel;have hsl:sl=#[k0,k1,k2,k3,some (.builtin "ValueError.__new__"),k5]:=by
    obtain⟨l⟩:=sl;simp only at hs;rw[hs]
   subst hsl;exact⟨bm,ns,nm,qn,bs,hd,sn,sub,ab,col,dd,k0,k1,k2,k3,k5,_,X _ _ ho,.of_isNs (PySem.W.isNs_of_in X hok),PySem.W.nsMap_none_of_in X hok hni,PySem.W.tail_of_in X ht⟩
  ·cases q
 ·cases q
def YL(t:TA)(C:Addr)(E:XK):TS:=fun _ zzs H=>t zzs H fun vs H1=>vs.length<=sizeLine/\E (.ref C) none H1
section
variable{P:Program}{w:World}{K:ao}{mg:Str->Option Value}{base:Heap}{N:List Str}{qual:Str}{scope:Scope}{f:Addr}{cd:Value}{A:Around}{outer:List Env}{s0:Shared}{H0:Hp}{E:XK}
theorem Xk{x:Str}{np cpos pos:Pos}{e₀:Expr}{rest:List Expr}{t:TA}{C:Addr}(c:ju K C)(hg:Gl (rZ (CXE P w) P w K mg base N qual scope f cd A outer s0 H0 E) x)(hm:mg x=some (.ref C))(hh:A.handled=none)
  (ha:PA (rZ (CXE P w) P w K mg base N qual scope f cd A outer s0 H0 E) (e₀::rest) t) (hd:(x==("__debug__" : Str))=false:=by decide)
  (he:starEach (e₀::rest) (envOfC qual scope s0.heap.objs.size f cd)=(false,eval e₀ (envOfC qual scope s0.heap.objs.size f cd))::starEach rest (envOfC qual scope s0.heap.objs.size f cd):=by rfl)
  (hplain:(backTo cpos (starEach rest (envOfC qual scope s0.heap.objs.size f cd))).any (·.1)=false:=by rfl) :
  PS (rZ (CXE P w) P w K mg base N qual scope f cd A outer s0 H0 E) (.Raise (some (.Call (.Name x np) (e₀::rest) [] cpos)) none pos) (YL t C E):=by
 intro pins s zzs H D I h;obtain⟨tl,Na,nm,q,bs,hdct,sn,sub,ab,col,dd,k0,k1,k2,k3,k5,mN,hC,hN,hni,T⟩:=c.obj I.mod.kin;refine wpAny_Raise_call_subU (C:=C) (nm:=nm) (q:=q) (N:=Na) (bs:=bs) (bm:=tl) (hdct:=hdct) (sn:=sn) (sub:=sub) (ab:=ab) (col:=col) (dd:=dd) (k0:=k0) (k1:=k1) (k2:=k2) (k3:=k3) (k5:=k5)
  Fb (by decide) Fb (mN:=mN) (T.hasType Fb.hasBase) hh (by
   show(backTo cpos (starEach (e₀::rest) (envOfC qual scope s0.heap.objs.size f cd))).any (·.1)=false;rw[he];show(false||(backTo cpos (starEach rest (envOfC qual scope s0.heap.objs.size f cd))).any (·.1))=false;rw[hplain];rfl) hni (uW I hg hm ⟨rfl,?_⟩ hd)
 have h2:=ha cpos pins s zzs H _ I h;show wpAny (model P w) _ (evalArgs (.ref C) true (backTo cpos (starEach (e₀::rest) (envOfC qual scope s0.heap.objs.size f cd))) []) _ _ s;have h3:wpAny (model P w) (A.deeper (envOfC qual scope s0.heap.objs.size f cd)) (spliced (backTo cpos (starEach (e₀::rest) (envOfC qual scope s0.heap.objs.size f cd)))) _ _ s:=h2;rw[he] at h3 ⊢;refine Calls.evalArgs_plain (j8 h3 (fun vs s₂ h₂=>?_) fun _ _ y=>y);obtain⟨xs,H1,I1,r,hz,hE⟩:=h₂;have keep:∀ b o,base.get? b=some o->s₂.heap.get? b=some o:=I1.bk;exact⟨rfl,by rw[<- r.length];exact hz,keep _ _ hC,hN.keeps keep,T.keeps keep,fun h' e hx=>XD I1 hx hE⟩
end
section
variable{X:Cx}
def XP(X:Cx)(pins:List (Addr×Obj))(Ex:St->Value->Hp->Prop)(ev:Value)(s':Shared):Prop:=∃ zzs H s,Inv X pins zzs H s/\CXE X.prog X.w X.stack H s (fun c _ H'=>Ex zzs c H') ev s'
abbrev TEX:=St->Hp->VK->(Value->Hp->Prop)->Prop
def PEX(X:Cx)(e:Expr)(t:TEX):Prop:=
 ∀(pins:List (Addr×Obj))(s:Shared)(zzs:St)(H:Hp)(Q:VK)(E:Value->Hp->Prop),Inv X pins zzs H s->t zzs H Q E->wpAny (model X.prog X.w) X.A (eval e X.env) (EP X pins zzs Q) (XP X pins fun bT c H'=>bT=zzs/\E c H') s
abbrev TSX:=Ends->(St->Value->Hp->Prop)->St->Hp->Prop
def PSX(X:Cx)(st:List Stmt)(t:TSX):Prop:=
 ∀(pins:List (Addr×Obj))(s:Shared)(zzs:St)(H:Hp)(D:Ends)(Ex:St->Value->Hp->Prop),Inv X pins zzs H s->t D Ex zzs H->wpAny (model X.prog X.w) X.A (execs st X.env) (SP X pins D) (XP X pins Ex) s
variable{k:Nat}{f C:Addr}{fd:FuncData}{ps:List Str}{sp:Sp}{dvs:List V}{ds:List Value}{x:Str}{p pos:Pos}{e:Expr}{es:List Expr}{t:TA}{CX:CXT}{E:XK}
theorem a1J{pins:List (Addr×Obj)}{zzs:St}{H:Hp}{s:Shared}{Q:VK}{us:List Value}{vs:List V}{E':Value->Shared->Prop}(F:cY X.prog X.w X.K X.mg X.base CX k f fd ps sp)(hr:iI k X.A)(hb:Binds X.K fd ps ds)(hd:Vals dvs ds)
  (I:Inv X pins zzs H s) (r:Vals vs us) (h:sp (vs++dvs) H Q E) (hx:∀ e s',CX X.stack H s E e s'->E' e s'):wpAny (model X.prog X.w) X.A (call (.ref f) us) (EP X pins zzs Q) E' s:=by
 have r2:Vals (vs++dvs) (us++ds):=r.append hd;have hl:(us++ds).length=ps.length:=by rw[<- r2.length];exact F.len _ _ _ _ h
 refine Kv (pB (F.run X.A X.stack s H ⟨us,[]⟩ (us++ds) (vs++dvs) Q E hr I.env0 (hb s us I.kIn hl) r2 h) fun r s' hq=>?_);cases r with
 |error e=>exact hx e s' hq
 |ok fl=>
  cases fl with
  |ret u=>exact I.after hq
  |next=>exact False.elim hq
  |brk=>exact False.elim hq
  |cont=>exact False.elim hq
def Jz(sp:Sp)(dvs:List V)(t:TA):TEX:=fun zzs H Q E=>t zzs H fun vs H1=>sp (vs++dvs) H1 Q fun c _ H'=>E c H'
theorem Xg(F:cY X.prog X.w X.K X.mg X.base (CXE X.prog X.w) k f fd ps sp)(hr:iI k X.A)(hg:Gl X x)(hm:X.mg x=some (.ref f))(hk:PySem.W.keepIn X.K (.ref f)=true)(hb:Binds X.K fd ps ds)(hd:Vals dvs ds)
  (ha:PA X.nox (e::es) t) (hdb:(x==("__debug__" : Str))=false:=by decide) (he:starEach (e::es) X.env=(false,eval e X.env)::starEach es X.env:=by rfl) (hpl:(backTo pos (starEach es X.env)).any (·.1)=false:=by rfl) :
  PEX X (.Call (.Name x p) (e::es) [] pos) (Jz sp dvs t):=by
 intro pins s zzs H Q E I h;refine Ac (uW I hg hm ?_ hdb);refine QD (h₀:=X.base) I.ok.mod.kin hk (j8 (ha pos pins s zzs H _ (I.wish _) h) (fun us s1 ⟨vs,H1,I1,r,q⟩=>⟨I1.kIn,?_⟩) fun _ _ z=>False.elim z) he hpl;exact a1J F hr hb hd I1.jR r q fun ev s' hq=>⟨zzs,H1,s1,I1.jR,by
  obtain⟨ea,C,H',h1,h2,h3,h4,h5,h6,h7⟩:=hq;exact⟨ea,C,H',h1,h2,h3,h4,h5,h6,rfl,h7⟩⟩
def a2z(te:TEX):TSX:=fun D Ex zzs H=>te zzs H D.rt (Ex zzs)
theorem a1o{e:Expr}{te:TEX}{pos:Pos}(he:PEX X e te):PSX X [.Return (some e) pos] (a2z te):=by
 intro pins s zzs H D Ex I h;refine K7 (wpAny_Return_some (j8 (he pins s zzs H _ _ I h) (fun v s1 ⟨y,H1,I1,r1,q1⟩=>⟨y,zzs,H1,I1,r1,q1⟩) fun ev s' hq=>?_));obtain⟨bT,H',s2,I2,ea,C,H3,h1,h2,h3,h4,h5,h6,e1,h7⟩:=hq;subst e1;exact⟨bT,H',s2,I2,ea,C,H3,h1,h2,h3,h4,h5,h6,h7⟩
end
section
variable{X:Cx}
def vY(X:Cx)(ea:Addr):Cx:={ X with A:=X.A.mark (some (.ref ea)),calm:=false,xe:=fun _ _=>False }
theorem Inv.hand{pins:List (Addr×Obj)}{zzs:St}{H:Hp}{s:Shared}(I:Inv X pins zzs H s)(ea:Addr):Inv (vY X ea) pins zzs H s:=
 ⟨⟨I.ok.mod,I.ok.kind,I.ok.glob,I.ok.blt,I.ok.above,I.ok.inj,I.ok.has,I.ok.cab,fun z=>absurd (show false=true from z) (by decide),I.ok.frames,I.ok.stk,I.ok.exf,I.ok.bs,I.ok.bsz,I.ok.Uv,I.ok.W7,I.ok.xu,I.ok.frf⟩,
  I.os,I.bare,I.base,I.loc,I.cell,I.free,I.mO,I.pin,I.hok,I.len⟩
theorem Inv.a4N{ea:Addr}{pins:List (Addr×Obj)}{zzs:St}{H:Hp}{s:Shared}(ok:X.Ok)(I:Inv (vY X ea) pins zzs H s):Inv X pins zzs H s:=
 ⟨ok,I.os,I.bare,I.base,I.loc,I.cell,I.free,I.mO,I.pin,I.hok,I.len⟩
theorem Inv.Uu{pins:List (Addr×Obj)}{zzs:St}{H:Hp}{s:Shared}{h':Heap}{m':Str->Option Value}{tk:Nat}(I:Inv X pins zzs H s)(hn:h'.Ns X.env.locals m')(hs:Heap.SameBut X.env.locals s.heap h') :
  Inv X pins (zzs.map fun _=>none) H { s with heap:=h',toks:=tk }:=by
 have neL:∀ b o,X.s₀.heap.get? b=some o->b≠X.env.locals:=fun b o e=>dU (jj (bM e) I.ok.above)
 refine⟨I.ok,I.os,I.bare,⟨fun b o e n hb hx=>?_,fun b o e n hb hx=>?_,I.base.free,fun b o e hx=>?_,I.base.tups,I.base.qL,I.base.sG⟩,⟨m',hn,fun j y v e1 e2 e3=>?_⟩,fun y c e=>?_,I.free,I.mO,fun p hp=>?_,fun b u e=>?_,?_⟩
 ·exact(hs.2 b (neL b o e)).trans (I.base.keep b o e n hb hx)
 ·obtain⟨sl,e1⟩:=I.base.slot b o e n hb hx;exact⟨sl,(hs.2 b (neL b o e)).trans e1⟩
 ·obtain⟨o',e1⟩:=I.base.there b o e hx;exact⟨o',(hs.2 b (neL b o e)).trans e1⟩
 ·exfalso;rw[cQ] at e2;cases q:zzs[j]? with
  |none=>rw[q] at e2;cases e2
  |some z=>rw[q] at e2;cases e2
 ·obtain⟨v,z⟩:=I.cell y c e;exact⟨v,z.sameBut hs (I.cne y c e)⟩
 ·obtain⟨e,n,ne,nf,d⟩:=I.pin p hp;exact⟨(hs.2 p.1 ne).trans e,n,ne,nf,d⟩
 ·refine(I.hok b u e).stay (fun c v hc q=>(hs.2 c ?_).trans q) (fun _ q=>q) fun _ _ q=>q
  rintro rfl;rcases hc with z|hc
  ·rw[<- z,I.free] at e;cases e
  ·rw[I.free] at hc;cases hc
 ·rw[aR];exact I.len
theorem land{pins:List (Addr×Obj)}{zzs:St}{H H':Hp}{s s' s'':Shared}{B:Heap}(I:Inv X pins zzs H s)(os:s'.os=s.os)(un:Un (frs X.stack) [] H H' s.heap s'.heap)(hok:HOk X.prog X.w H' s'.heap)
  (KB:∀ b o,s'.heap.get? b=some o->(H' b≠none\/∃ o',s.heap.get? b=some o')->b∉frs X.stack->B.get? b=some o) (st:B.StaysIn s''.heap) (sm:s'.heap.UpToSlots s''.heap) (Mz:s''.os=s'.os) (bare:AllBare s''.gens):Inv X pins zzs H' s'':=by
 have fr:∀ b∈frs X.stack,∃ o sl,s.heap.get? b=some o/\(∀ vs,o.data≠.fields vs)/\H b=none/\s'.heap.get? b=some { o with slots:=sl }/\H' b=none:=fun b hb=>by
  obtain⟨_,o,ho,hd⟩:=I.stack.mem hb;have hn:=I.yd b hb;obtain⟨sl,e⟩:=un.slot b o ho hn hb (by simp);exact⟨o,sl,ho,hd,hn,e,un.free b o ho hn (by simp)⟩
 refine I.call' (Mz.trans os) (ch:=[]) ⟨fun b o e n hb hx=>?_,fun b o e n hb hx=>?_,un.free,fun b o e hx=>?_,un.tups,un.qL,un.sG⟩ (fun a o e=>?_) bare (fun b hb=>absurd hb (by simp))
 ·exact st b o (KB b o (un.keep b o e n hb hx) (.inr ⟨o,e⟩) hb)
 ·obtain⟨o1,sl,e1,hd,_,e2,_⟩:=fr b hb;rw[e] at e1;cases e1;obtain⟨sl',e3⟩:=sm b _ e2 hd;exact⟨sl',e3⟩
 ·by_cases hb:b∈frs X.stack
  ·obtain⟨o1,sl,e1,hd,_,e2,_⟩:=fr b hb;obtain⟨sl',e3⟩:=sm b _ e2 hd;exact⟨_,e3⟩
  ·obtain⟨o',e1⟩:=un.there b o e hx;exact⟨o',st b o' (KB b o' e1 (.inr ⟨o,e⟩) hb)⟩
 ·have nf:∀ b u,H' b=some u->b∉frs X.stack:=fun b u q hb=>by
   obtain⟨_,_,_,_,_,_,z⟩:=fr b hb;rw[q] at z;cases z
  refine(hok a o e).stay (fun b u hb q=>?_) (fun _ q=>q) fun _ _ q=>q
  rcases hb with rfl|hb
  ·exact st b u (KB b u q (.inl (by rw[e];simp)) (nf b o e))
  ·exact st b u (KB b u q (.inl (by rw[hb];simp)) (nf b _ hb))
structure Air(X:Cx)(pins:List (Addr×Obj))(zzs:St)(H':Hp)(ea C:Addr)(s'':Shared):Prop where
 ex:∃(H:Hp)(s s':Shared)(B:Heap)(t:Addr),Inv X pins zzs H s/\s'.os=s.os/\Un (frs X.stack) [] H H' s.heap s'.heap/\HOk X.prog X.w H' s'.heap /\
  (∀ b o,s'.heap.get? b=some o->(H' b≠none\/∃ o',s.heap.get? b=some o')->b∉frs X.stack->B.get? b=some o)/\Heap.FlyingW B X.stack ea (.ref C) (.ref t) s''.heap/\s'.heap.UpToSlots s''.heap/\s''.os=s'.os/\AllBare s''.gens/\s.heap.get? ea=none/\H' ea=none
theorem Air.inv{pins:List (Addr×Obj)}{zzs:St}{H':Hp}{ea C:Addr}{s'':Shared}(a:Air X pins zzs H' ea C s''):Inv X pins zzs H' s'':=by
 obtain⟨H,s,s',B,t,I,os,un,hok,KB,fl,sm,Mz,bare,_,_⟩:=a.ex;exact land I os un hok KB fl.1 sm Mz bare
theorem Air.obj{pins:List (Addr×Obj)}{zzs:St}{H':Hp}{ea C:Addr}{s'':Shared}(a:Air X pins zzs H' ea C s''):∃ ob,s''.heap.get? ea=some ob/\ob.cls=.ref C:=by
 obtain⟨H,s,s',B,t,I,os,un,hok,KB,fl,sm,Mz,bare,_,_⟩:=a.ex;exact fl.there
theorem Air.free{pins:List (Addr×Obj)}{zzs:St}{H':Hp}{ea C:Addr}{s'':Shared}(a:Air X pins zzs H' ea C s''):H' ea=none:=by
 obtain⟨H,s,s',B,t,I,os,un,hok,KB,fl,sm,Mz,bare,_,z⟩:=a.ex;exact z
theorem Air.again{pins:List (Addr×Obj)}{zzs:St}{H':Hp}{ea C:Addr}{s'':Shared}{M:Model}{A:Around}{E:Value->Shared->Prop}{Q:Unit->Shared->Prop}(a:Air X pins zzs H' ea C s'')
  (hQ:∀ h',Air X pins zzs H' ea C { s'' with heap:=h' }->Q () { s'' with heap:=h' }):wpAny M A (setFlight (.ref ea) none) Q E s'':=by
 obtain⟨H,s,s',B,t,I,os,un,hok,KB,fl,sm,Mz,bare,n1,n2⟩:=a.ex;exact lands_againW fl fun h' fl' sm'=>hQ h' ⟨H,s,s',B,t,I,os,un,hok,KB,fl',sm.trans sm',Mz,bare,n1,n2⟩
def Bv(ea C:Addr):HO:=.ext fun h=>∃ ob,h.get? ea=some ob/\ob.cls=.ref C
theorem a0j{P:Program}{w:World}{H:Hp}{h:Heap}{ea C:Addr}(e:∃ ob,h.get? ea=some ob/\ob.cls=.ref C):fQ P w H h ea (Bv ea C):=by
 obtain⟨ob,e1,e2⟩:=e;exact⟨⟨ob,e1,e2⟩,⟨ob,e1⟩,fun h1 h2 ⟨o,q1,q2⟩ k=>⟨o,k o q1,q2⟩⟩
theorem Inv.a4M{pins:List (Addr×Obj)}{zzs:St}{H:Hp}{s:Shared}{D:Addr}{o:HO}(I:Inv X pins zzs H s)(hn:H D=none)(h0:X.s₀.heap.get? D=none)(hL:D≠X.env.locals)
  (hc:∀ x c,X.env.cells.lookup x=some c->c≠D) (hp:∀ p∈X.pn++pins,p.1≠D) (new:fQ X.prog X.w (upd H D o) s.heap D o):Inv X pins zzs (upd H D o) s:=by
 have ne:∀ b u,H b=some u->b≠D:=fun b u e=>bV e hn
 refine⟨I.ok,I.os,I.bare,⟨I.base.keep,I.base.slot,fun b u e n hx=>?_,I.base.there,fun b xs e=>?_,fun b u xs e=>?_,fun b ps e=>?_⟩,I.loc,I.cell,?_,fun x c e=>?_,fun p q=>?_,fun b u e=>?_,I.len⟩
 ·rw[bD (fun z=>by rw[z,h0] at e;cases e)];exact I.base.free b u e n hx
 ·have e':=I.base.tups b xs e;rw[bD (ne b _ e')];exact e'
 ·have e':=I.base.qL b u xs e;rw[bD (ne b _ e')];exact e'
 ·obtain⟨more,e'⟩:=I.base.sG b ps e;exact⟨more,by rw[bD (ne b _ e')];exact e'⟩
 ·rw[bD (j5 hL)];exact I.free
 ·rw[bD (hc x c e)];exact I.mO x c e
 ·obtain⟨a1,a2,a3,a4,a5⟩:=I.pin p q;exact⟨a1,by rw[bD (hp p q)];exact a2,a3,a4,a5⟩
 ·by_cases hb:b=D
  ·subst hb;rw[au] at e;cases e;exact new
  ·rw[bD hb] at e;exact(I.hok b u e).stay (fun c v _ q=>q) (fun c q=>by rw[bD (ne c _ q)];exact q) fun c xs q=>by rw[bD (ne c _ q)];exact q
theorem Air.track{pins:List (Addr×Obj)}{zzs:St}{H':Hp}{ea C:Addr}{s'':Shared}(a:Air X pins zzs H' ea C s'')(hex:X.ex=[]):Inv X pins zzs (upd H' ea (Bv ea C)) s'':=by
 have J:=a.inv;have ob:=a.obj;obtain⟨H,s,s',B,t,I,os,un,hok,KB,fl,sm,Mz,bare,n1,n2⟩:=a.ex;refine J.a4M n2 ?_ (fun z=>?_) (fun x c e z=>?_) (fun p hp z=>?_) (a0j ob)
 ·cases q:X.s₀.heap.get? ea with
  |none=>rfl
  |some o=>
   obtain⟨o',e⟩:=I.base.there ea o q (by rw[hex];simp);rw[n1] at e;cases e
 ·obtain⟨m,⟨o,_,_,ho,_⟩,_⟩:=I.loc;rw[<- z,n1] at ho;cases ho
 ·obtain⟨v,o,ho,_⟩:=I.cell x c e;rw[z,n1] at ho;cases ho
 ·have e:=(I.pin p hp).1;rw[z,n1] at e;cases e
def PH(X:Cx)(hs:List ExceptHandler)(th:Addr->TS):Prop:=
 ∀(pins:List (Addr×Obj))(zzs:St)(H:Hp)(ea C:Addr)(s:Shared)(D:Ends),Air X pins zzs H ea C s->th C D zzs H->wpAny (model X.prog X.w) X.A (handleBy (.ref ea) X.env hs) (SP X pins D) X.xe s
def BR(K:ao)(C C':Addr):Bool:=match K.lookup C with
 |some ⟨.type "type",_,.cls cd,_⟩=>!(cd.mro.contains (.ref C'))
 |_=>false
def YQ(K:ao)(C':Addr)(i:Nat)(ts:TS)(th:Addr->TS):Addr->TS:=fun C D zzs H=>
 (C=C'/\∀ ea,H ea=none->ts { nx:=fun _ _=>False,rt:=D.rt } (zzs.set i (some (.ref ea))) (upd H ea (Bv ea C)))\/(C≠C'/\ju K C/\BR K C C'=true/\th C D zzs H)
theorem a4e:PH X [] (fun _ _ _ _=>False):=fun _ _ _ _ _ _ _ _ h=>h.elim
theorem a1b{x n:Str}{np hpos:Pos}{b₀:Stmt}{suite:List Stmt}{rest:List ExceptHandler}{C':Addr}{i:Nat}{ts:TS}{th:Addr->TS}(hex:X.ex=[])(hN:X.N.Nodup)(hi:X.N[i]?=some n)(hn:X.env.scope.names.lookup n=some .local)
  (hg:Gl X x) (hm:X.mg x=some (.ref C')) (c':ju X.K C') (hs:∀ ea,PSs (vY X ea) (b₀::suite) ts) (hr:PH X rest th) (hd:(x==("__debug__" : Str))=false:=by decide) :
  PH X (.ExceptHandler (some (.Name x np)) (some n) (b₀::suite) hpos::rest) (YQ X.K C' i ts th):=by
 intro pins zzs H ea C s D a h;have I:=a.inv;refine wpAny_handleBy_cons (codeAny_handlers_test ?_) (by intro q;cases q);refine uW (X:=vY X ea) (I.hand ea) hg hm ?_ hd;obtain⟨ob,hob,hcls⟩:=a.obj;rcases h with⟨rfl,h⟩|⟨hne,c,hmiss,h⟩
 ·obtain⟨tl,Na,nm,q,bs,hdct,sn,sub,ab,col,dd,k0,k1,k2,k3,k5,mN,hC,hN',hni,T⟩:=c'.obj I.kIn;obtain⟨hp,g,d,tk,os⟩:=s;refine wpAny_excMatches_sub_self hC hob hcls (T.hasType Fb.hasBase) ?_;show codeAny _ _ _ _ _;refine codeAny_handlers_suite_as (a.again fun h' a'=>?_);have J:=(a'.track hex).hand ea;refine qe (i:=i) (v:=.ref ea) (X:=vY X ea) J hN hi (.inl hn) rfl (fun s2 J2=>?_) (.inr hn);refine j8 (hs ea pins s2 _ _ { nx:=fun _ _=>False,rt:=D.rt } J2 (h ea a'.free)) (fun f s3 q3=>?_) fun _ _ z=>False.elim z
  cases f with
  |next=>obtain⟨_,_,_,z⟩:=q3;exact False.elim z
  |brk=>obtain⟨_,_,_,z⟩:=q3;exact False.elim z
  |cont=>obtain⟨_,_,_,z⟩:=q3;exact False.elim z
  |ret u=>
   obtain⟨v,bT,H'',J3,rv,q⟩:=q3;obtain⟨m,hnm,_⟩:=J3.loc;have K3:=J3.a4N I.ok;show wpAny _ _ _ _ _ _;refine wpAny_nameGoes hn hnm (by rw[I.ok.kind];rfl) fun h4 m4 hn4 hs4=>?_
   exact⟨v,_,H'',K3.Uu hn4 hs4,rv,q⟩
 ·obtain⟨tl,Na,nm,q,bs,hdct,sn,sub,ab,col,dd,k0,k1,k2,k3,k5,mN,hC,hN',hni,T⟩:=c.obj I.kIn;obtain⟨tl',Na',nm',q',bs',a7g,sn',sub',ab',col',dd',k0',k1',k2',k3',k5',mN',hC',hN2,a7l,T'⟩:=c'.obj I.kIn;obtain⟨hp,g,d,tk,os⟩:=s;have miss:(Value.ref C::tl).contains (.ref C')=false:=by
   unfold BR at hmiss;split at hmiss
   ·rename_i dd2 cd2 sl2 ho;have e:=I.kIn _ _ ho;have e2:hp.get? C=some ⟨.type "type",dd2,.cls cd2,sl2⟩:=e;rw[hC] at e2;unfold excClassObj at e2;cases e2;simpa using hmiss
   ·cases hmiss
  have hcB:(Value.ref C'::tl').contains (.type "BaseException")=true:=by rw[List.contains_cons,T'.hasType Fb.hasBase,Bool.or_true]
  have f:=tc_notTuple;have key:∀ Q:Bool->Shared->Prop,Q false ⟨hp,g,d,tk,os⟩->wpAny (model X.prog X.w) (vY X ea).A (excMatches (.ref ea) (.ref C')) Q (notedBy (model X.prog X.w) (X.A.mark (some (.ref ea))) X.env (cameBackBy (model X.prog X.w) X.A X.env X.xe)) ⟨hp,g,d,tk,os⟩:=fun Q hq=>by
   unfold excMatches
   repeat (first|(with_reducible refine wpAny_loadPart_at hob ?_;rw[hcls])|with_reducible refine wpAny_loadPart_at hC' ?_|(with_reducible refine wpAny_isSubtype_exc hC' ?_;rw[hcB])|(with_reducible refine wpAny_isSubtype_exc hC ?_;rw[miss])|wp_step)
   exact hq
  refine key _ ?_;exact hr pins zzs H ea C _ D a h
def a6l(tb:TSX)(th:Addr->TS):TS:=fun D zzs H=>tb D (fun bT c H'=>∃ C,c=.ref C/\th C D bT H') zzs H
theorem a4n{body:List Stmt}{h₀:ExceptHandler}{hs:List ExceptHandler}{pos:Pos}{tb:TSX}{th:Addr->TS}(hst:X.stack=X.env::X.outer)(hfr:X.env.frame=some X.env.locals)(hb:PSX X body tb)(hh:PH X (h₀::hs) th) :
  PS X (.Try body (h₀::hs) [] [] pos) (a6l tb th):=by
 intro pins s zzs H D I h;refine wpAny_Try_except (j8 (hb pins s zzs H D _ I h) (fun f s1 q=>?_) fun ev s1 q=>?_)
 ·cases f with
  |next=>exact Ai q
  |ret v=>exact q
  |brk=>exact q
  |cont=>exact q
 ·obtain⟨bT,H1,s2,I2,ea,C,H',rfl,os,bare,un,hok,fly,C',e,th'⟩:=q;cases e;obtain⟨B,t,fl,KB⟩:=fly.fl;have fl0:=fl;rw[hst] at fl0;refine wpAny_looks_onW (by rw[<- hst];exact I2.ok.frames) hfr fl0 fun h4 held sm4=>?_
  refine wpAny_landsW held fun h5 fl5 sm5=>?_
  rw[<- hst] at fl5;exact hh pins bT H' ea C _ D ⟨H1,s2,s1,B,t,I2,os,un,hok,KB,fl5,sm4.trans sm5,rfl,bare,fly.new,fly.free⟩ th'
end
def Its(z:Str):It:=⟨fun i _=>i<z.cps.size,fun i H x H'=>H'=H/\∃ c,z.cps[i]?=some c/\x=.str ⟨#[c]⟩,fun i _=>z.cps.size<=i⟩
theorem Vr{P:Program}{w:World}{K:ao}{tg:Expr}(z:Str)(t:Tok)(it:Addr):Turn P w K tg (Its z) [it] it (fun i h=>h.IsStrIter it "str_ascii_iterator" z t i) where
 mem:=by simp
 obj:=fun i h st b hb=>by
  have e:b=it:=by simpa using hb
  subst e;obtain⟨o,e,c,d⟩:=st;exact⟨o,e,fun v q=>by rw[d] at q;cases q⟩
 keep:=fun i h h' st k=>by
  obtain⟨o,e,c,d⟩:=st;exact⟨o,k it (by simp) o e,c,d⟩
 item:=by
  intro X hP hw hK hc i pins s zzs H E I hf st hg;subst hP hw hK;obtain⟨f0,f1,f2,f3,f4,f5⟩:=hf it (by simp);have hgi:i<z.cps.size:=hg;refine wpAny_pyNext_ascii_item st (c:=z.cps[i]) (by simp[hgi]) fun h' st' sb=>?_
  have I1:Inv X pins zzs H { s with heap:=h',toks:=s.toks+1 }:=I.turned (fun b o hb e=>(sb.2 b hb).trans e) f0 f1 f3 f4 f5;obtain⟨o,e,c,d⟩:=id st';exact⟨_,rfl,RM (s:={ s with heap:=h',toks:=s.toks+1 }) e c d (by decide) ⟨.str ⟨#[z.cps[i]]⟩,H,I1,⟨_,rfl⟩,⟨rfl,z.cps[i],by simp[hgi],rfl⟩,st',fun b hb=>(hf b hb).1⟩⟩
 done:=by
  intro X hP hw hK hc i pins s zzs H E I hf st hg;subst hP hw hK;obtain⟨f0,f1,f2,f3,f4,f5⟩:=hf it (by simp);have hgi:z.cps.size<=i:=hg;exact wpAny_pyNext_ascii_end (I.ok.hd hc) st (by simp[hgi]) fun h' eb=>⟨rfl,I.turned (t':=s.toks) (fun b o hb e=>eb b o hb e) f0 f1 f3 f4 f5⟩
 self:=fun _ _ _ _ _ st h=>wpAny_pyIter_striter_ascii st h
theorem Vs{P:Program}{w:World}{K:ao}{tg:Expr}(z:Str)(t:Tok)(it:Addr):Turn P w K tg (Its z) [it] it (fun i h=>h.IsStrIter it "str_iterator" z t i) where
 mem:=by simp
 obj:=fun i h st b hb=>by
  have e:b=it:=by simpa using hb
  subst e;obtain⟨o,e,c,d⟩:=st;exact⟨o,e,fun v q=>by rw[d] at q;cases q⟩
 keep:=fun i h h' st k=>by
  obtain⟨o,e,c,d⟩:=st;exact⟨o,k it (by simp) o e,c,d⟩
 item:=by
  intro X hP hw hK hc i pins s zzs H E I hf st hg;subst hP hw hK;obtain⟨f0,f1,f2,f3,f4,f5⟩:=hf it (by simp);have hgi:i<z.cps.size:=hg;refine wpAny_pyNext_wide_item st (c:=z.cps[i]) (by simp[hgi]) fun h' st' sb=>?_
  have I1:Inv X pins zzs H { s with heap:=h',toks:=s.toks+1 }:=I.turned (fun b o hb e=>(sb.2 b hb).trans e) f0 f1 f3 f4 f5;obtain⟨o,e,c,d⟩:=id st';exact⟨_,rfl,RM (s:={ s with heap:=h',toks:=s.toks+1 }) e c d (by decide) ⟨.str ⟨#[z.cps[i]]⟩,H,I1,⟨_,rfl⟩,⟨rfl,z.cps[i],by simp[hgi],rfl⟩,st',fun b hb=>(hf b hb).1⟩⟩
 done:=by
  intro X hP hw hK hc i pins s zzs H E I hf st hg;subst hP hw hK;obtain⟨f0,f1,f2,f3,f4,f5⟩:=hf it (by simp);have hgi:z.cps.size<=i:=hg;exact wpAny_pyNext_wide_end (I.ok.hd hc) st (by simp[hgi]) fun h' eb=>⟨rfl,I.turned (t':=s.toks) (fun b o hb e=>eb b o hb e) f0 f1 f3 f4 f5⟩
 self:=fun _ _ _ _ _ st h=>wpAny_pyIter_striter_wide st h
section
variable{X:Cx}{tg:Expr}
def a5p(te:TE):TI:=fun zzs H R=>te zzs H fun x H1=>∃ z,x=.str z/\R (Its z) H1
theorem a4f{l:Expr}{te:TE}(hl:PE X l te):PI X tg l (a5p te):=by
 intro pins s zzs H R I h;refine thn (hl pins s zzs H _ I h) fun v s1 zzy=>?_
 obtain⟨x,H1,I1,r1,q1⟩:=zzy;obtain⟨z,e,q⟩:=q1;subst e;obtain⟨t,rfl⟩:=r1;have fp:∀ b∈[s1.heap.objs.size],vp X pins H1 b:=fun b hb=>by
  have e:b=s1.heap.objs.size:=by simpa using hb
  subst e;exact I1.M4 (bK _) (I1.hok.fresh (bK _))
 cases ha:z.cps.all (·<128)
 ·exact wpAny_pyIter_wide ha ⟨s1.heap.objs.size,[s1.heap.objs.size],_,_,H1,rfl,I1.kept (t':=s1.toks) fun b o e=>eY _ e,Vs z t _,⟨_,fV _ rfl,rfl,rfl⟩,fp,q⟩
 ·exact wpAny_pyIter_ascii ha ⟨s1.heap.objs.size,[s1.heap.objs.size],_,_,H1,rfl,I1.kept (t':=s1.toks) fun b o e=>eY _ e,Vr z t _,⟨_,fV _ rfl,rfl,rfl⟩,fp,q⟩
def a65:V->Option Int->Option Int->Hp->VK->Prop:=fun x lo hi H Q=>∃ z,x=.str z/\z.length<=sizeLine/\Q (.str (Txt.slice z lo hi)) H
theorem Dv{u:Value}{o:Option Int}(p:IsPart u o):∃ l:Option (Int×Tok),u=partValue l/\o=l.map (·.1):=by
 cases p with
 |none=>exact⟨none,rfl,rfl⟩
 |int i t=>exact⟨some (i,t),rfl,rfl⟩
theorem a4F:SlR X a65:=by
 intro pins s zzs H x v vl vu lo hi sl Q I rx hs pl pu h;obtain⟨z,rfl,hz,q⟩:=h;obtain⟨t,rfl⟩:=rx;obtain⟨l,rfl,rfl⟩:=Dv pl;obtain⟨u,rfl,rfl⟩:=Dv pu;refine⟨"str",_,F.slot_str_getitem.lookup,typeIs_str _ _ _,wpAny_getItem_str_slice (l:=l) (u:=u) (st:=none) hs rfl ?_⟩;exact post_val_or_str ⟨cX (Txt.slice_le z _ _) hz,fun t' k=>⟨.str _,H,I.tok _,⟨_,rfl⟩,q⟩⟩
def a4x(z:Str)(n:Int):Str:=if n<1 then Str.empty else if(n==1||z.length==0)=true then z else⟨(List.replicate n.toNat z.cps).foldl (·++·) #[]⟩
theorem Pr:OpR X (binaryOp .Mult) (fun x y H Q=>∃ z n,x=.str z/\y=.int n/\z.length<=1000 /\ -1000<=n/\n<=1000/\Q (.str (a4x z n)) H):=by
 intro pins s zzs H x y v u Q I rx ry h;obtain⟨z,n,rfl,rfl,hz,h1,h2,q⟩:=h;obtain⟨t,rfl⟩:=rx;obtain⟨t',rfl⟩:=ry;refine P.mul_str (by rw[cG (by lia),cG (by lia)];rfl) (fun hn _=>?_) (fun hn _=>?_) ?_
 ·have:(1000:Int)<=(2^63-1) / n:=by
   rw[Int.le_ediv_iff_mul_le (by lia)];lia
  lia
 ·have:z.length*n.toNat<=1000*1000:=lY hz (by lia);show decide (z.length*n.toNat>sizeLine)=false;rw[oX];exact cG (by lia)
 ·unfold a4x at q;by_cases h3:n<1
  ·rw[aK h3] at q ⊢;exact⟨by decide,⟨.str _,H,I.tok _,⟨_,rfl⟩,q⟩⟩
  ·rw[aH h3] at q ⊢;by_cases h4:(n==1||z.length==0)=true
   ·rw[aK h4] at q ⊢;exact⟨.str _,H,I,⟨_,rfl⟩,q⟩
   ·rw[aH h4] at q ⊢;refine⟨?_,⟨.str _,H,I.tok _,⟨_,rfl⟩,q⟩⟩;have e:∀(k:Nat)(acc:Array Nat),((List.replicate k z.cps).foldl (·++·) acc).size=acc.size+k*z.cps.size:=by
     intro k
     induction k with
     |zero=>intro acc;simp
     |succ k ih=>
      intro acc;rw[Aa,R5,ih,Array.size_append,Nat.add_mul,Nat.one_mul];lia
    have e2:=e n.toNat #[];have hz':z.cps.size<=1000:=hz;have:n.toNat*z.cps.size<=1000*1000:=lY (by lia) hz';show((List.replicate n.toNat z.cps).foldl (·++·) #[]).size<=sizeLine;rw[e2,oX];simp only[dj,Fv];lia
theorem Vz(hc:X.calm=true):eE X (.builtin "all") (fun xs H Q=>∃(p:Addr)(bs:List Bool),xs=[.ref p]/\SqL X.K H p (bs.map V.bl)/\Q (.bl (bs.all id)) H):=by
 intro pins s zzs H xs us Q I r h;obtain⟨p,bs,rfl,hq,q⟩:=h;obtain⟨u,rfl,ru⟩:=vals1 r;cases ru;obtain⟨its,rv,pl,hz⟩:=I.list hq;have hl:its.length=bs.length:=by have:=rv.length;simpa using this.symm
 have item:∀(i:Nat)(v:Value),its[i]?=some v->v=.bool (bs.getD i true):=fun i v e=>by
  have hi:i<bs.length:=by rw[<- hl];exact(gM.mp e).1
  have hx:(bs.map V.bl)[i]?=some (V.bl bs[i]):=by simp[hi]
  obtain⟨w',e',rw'⟩:=rv.get hx;rw[e] at e';cases e';have:bs.getD i true=bs[i]:=by simp[gO,hi]
  rw[this];exact rw'
 have hne:p≠s.heap.objs.size:=fun z=>by
  obtain⟨o,n,e,_⟩:=pl;exact oH _ (z▸bM e)
 refine call_all_walk (QH pl.isList ?_);refine⟨s.heap.objs.size,[s.heap.objs.size,p],[s.heap.objs.size],its.toArray.size,fun i v=>its.toArray[i]?=some v,fun i h=>h.IsListIter s.heap.objs.size p i/\h.IsList p its.toArray,fun i=>bs.getD i true,rfl,
  Walks.list (A:=X.A.in1) (I.ok.hd hc) _ p hne its.toArray,⟨⟨_,fV _ rfl,rfl,rfl⟩,pl.isList.at fun o e=>eY _ e⟩,fun i v s' Q' E' hP hQ=>?_,fun h' tk kk=>?_⟩
 ·have:=item i v (by simpa using hP);subst this;exact vO hQ
 ·have hb:(List.range its.toArray.size).all (fun i=>bs.getD i true)=bs.all id:=by
   rw[dj,hl];apply uE.mpr;simp only[lX,fK,id];constructor
   ·intro h x hx;obtain⟨i,hi,rfl⟩:=JX hx;have:=h i hi;simpa [gO,hi] using this
   ·intro h i hi;have:=h bs[i] (oG hi);simpa [gO,hi] using this
  rw[hb];have I1:Inv X pins zzs H { s with heap:=h',toks:=tk }:=I.kept fun b o e=>kk b o (fun z=>by
   have z':b=s.heap.objs.size:=by simpa using z
   exact oH _ (z'▸bM e)) (eY _ e)
  exact⟨.bl _,H,I1,rfl,q⟩
end
open PySem.SeqAt
inductive Dt where
 |non|bl (b:Bool)|int (i:Int)|str (x:Str)|tup (ds:List Dt)|lst (ds:List Dt)
mutual
inductive Den(K:ao)(H:Hp):V->Dt->Prop
 |non:Den K H .non .non
 |bl (b:Bool):Den K H (.bl b) (.bl b)
 |int (i:Int):Den K H (.int i) (.int i)
 |str (x:Str):Den K H (.str x) (.str x)
 |tup {a:Addr} {xs:List V} {ds:List Dt} (h:H a=some (.tup xs)) (hs:aU K H xs ds):Den K H (.ref a) (.tup ds)
 |lst {a:Addr} {xs:List V} {ds:List Dt} (h:SqL K H a xs) (hs:aU K H xs ds):Den K H (.ref a) (.lst ds)
inductive aU(K:ao)(H:Hp):List V->List Dt->Prop
 |nil:aU K H [] []
 |cons {x:V} {d:Dt} {xs:List V} {ds:List Dt} (h:Den K H x d) (t:aU K H xs ds):aU K H (x::xs) (d::ds)
end
def lJ:Dt->Option V
 |.non=>some .non
 |.bl b=>some (.bl b)
 |.int i=>some (.int i)
 |.str x=>some (.str x)
 |_=>none
mutual
def eqD:Dt->Dt->Bool
 |.tup a,.tup b=>wZ a b
 |.lst a,.lst b=>wZ a b
 |.non,e=>match lJ e with|some y=>eqV .non y|none=>false
 |.bl x,e=>match lJ e with|some y=>eqV (.bl x) y|none=>false
 |.int x,e=>match lJ e with|some y=>eqV (.int x) y|none=>false
 |.str x,e=>match lJ e with|some y=>eqV (.str x) y|none=>false
 |.tup _,_=>false
 |.lst _,_=>false
def wZ:List Dt->List Dt->Bool
 |[],[]=>true
 |a::as,b::bs=>eqD a b&&wZ as bs
 |[],_::_=>false
 |_::_,[]=>false
end
def a3y:Dt->Dt->Bool
 |.tup _,e=>(lJ e).isSome
 |_,_=>false
mutual
def shD:Dt->Dt->Bool
 |.tup a,.tup b=>zT a b
 |.lst a,.lst b=>zT a b
 |.non,e=>(lJ e).isSome
 |.bl _,e=>(lJ e).isSome
 |.int _,e=>(lJ e).isSome
 |.str _,e=>(lJ e).isSome
 |.tup _,_=>false
 |.lst _,_=>false
def zT:List Dt->List Dt->Bool
 |a::as,b::bs=>(shD a b||a3y a b)&&zT as bs
 |_,_=>true
end
mutual
def vq:Dt->Nat
 |.tup a=>vH a+1
 |.lst a=>vH a+1
 |_=>0
def vH:List Dt->Nat
 |[]=>0
 |a::as=>max (vq a) (vH as)
end
theorem aU.length{K:ao}{H:Hp}:∀ {xs:List V} {ds:List Dt},aU K H xs ds->xs.length=ds.length
 |_,_,.nil=>rfl
 |_,_,.cons _ t=>by rw[iR,iR,t.length]
theorem aU.get{K:ao}{H:Hp}:∀ {xs:List V} {ds:List Dt} {i:Nat} {x:V},aU K H xs ds->xs[i]?=some x->∃ d,ds[i]?=some d/\Den K H x d
 |_,_,_,_,.nil,e=>by simp at e
 |_,_,0,_,.cons h _,e=>by simp at e;subst e;exact⟨_,rfl,h⟩
 |_,_,i+1,x,.cons _ t,e=>by
  obtain⟨d,h1,h2⟩:=aU.get (i:=i) (x:=x) t (by simpa using e);exact⟨d,by simpa using h1,h2⟩
theorem aU.get'{K:ao}{H:Hp}:∀ {xs:List V} {ds:List Dt} {i:Nat} {d:Dt},aU K H xs ds->ds[i]?=some d->∃ x,xs[i]?=some x/\Den K H x d
 |_,_,_,_,.nil,e=>by simp at e
 |_,_,0,_,.cons h _,e=>by simp at e;subst e;exact⟨_,rfl,h⟩
 |_,_,i+1,d,.cons _ t,e=>by
  obtain⟨x,h1,h2⟩:=aU.get' (i:=i) (d:=d) t (by simpa using e);exact⟨x,by simpa using h1,h2⟩
theorem aU.append{K:ao}{H:Hp}:∀ {xs ys:List V} {ds es:List Dt},aU K H xs ds->aU K H ys es->aU K H (xs++ys) (ds++es)
 |_,_,_,_,.nil,s=>s
 |_,_,_,_,.cons h t,s=>.cons h (t.append s)
theorem uP:∀ {ds:List Dt} {d:Dt},d∈ds->vq d<=vH ds
 |a::as,d,h=>by
  unfold vH;rcases cW.mp h with e|e
  ·rw[e];exact Nat.le_max_left _ _
  ·exact cX (uP e) (Nat.le_max_right _ _)
theorem xZ:∀ {as bs:List Dt} {i:Nat} {a b:Dt},zT as bs=true->as[i]?=some a->bs[i]?=some b->shD a b=true\/a3y a b=true
 |x::as,y::bs,0,a,b,h,e1,e2=>by
  simp at e1 e2;subst e1;subst e2;unfold zT at h;simp only[lW,Bool.or_eq_true] at h;exact h.1
 |x::as,y::bs,i+1,a,b,h,e1,e2=>by
  unfold zT at h;simp only[lW] at h;exact xZ (i:=i) h.2 (by simpa using e1) (by simpa using e2)
 |[],_,_,_,_,_,e1,_=>by simp at e1
 |_::_,[],_,_,_,_,_,e2=>by simp at e2
def atD(as bs:List Dt)(j:Nat):Bool:=eqD (as.getD j .non) (bs.getD j .non)
theorem Ed(n:Nat)(p:Nat->Bool):(List.range (n+1)).all p=(p 0&&(List.range n).all fun j=>p (j+1)):=by
 rw[List.range_succ_eq_map,Aw,Kq];rfl
theorem xg:∀ {as bs:List Dt},as.length=bs.length->(List.range as.length).all (atD as bs)=wZ as bs
 |[],[],_=>rfl
 |a::as,b::bs,h=>by
  have ih:=@xg as bs (by simpa using h);rw[iR,Ed];unfold wZ;rw[<- ih];rfl
 |[],_::_,h=>by simp at h
 |_::_,[],h=>by simp at h
theorem xq:∀ {as bs:List Dt},as.length≠bs.length->wZ as bs=false
 |[],[],h=>absurd rfl h
 |a::as,b::bs,h=>by
  unfold wZ;rw[xq (as:=as) (bs:=bs) (fun z=>h (by rw[iR,iR,z])),uF]
 |[],_::_,_=>rfl
 |_::_,[],_=>rfl
theorem LK:∀ {as bs:List Dt},((List.range (min as.length bs.length)).all (atD as bs)&&as.length==bs.length)=wZ as bs:=by
 intro as bs;by_cases h:as.length=bs.length
 ·rw[<- h,Nat.min_self,xg h];simp
 ·rw[xq h];simp[h]
theorem Dp:∀ {x:V},RK x=true->eqV x x=true
 |.non,_=>rfl
 |.bl b,_=>by simp[eqV]
 |.int i,_=>by simp[eqV]
 |.str x,_=>by simp[eqV]
mutual
theorem tH:∀ d:Dt,eqD d d=true
 |.non=>rfl
 |.bl b=>by show eqV (.bl b) (.bl b)=true;exact Dp rfl
 |.int i=>by show eqV (.int i) (.int i)=true;exact Dp rfl
 |.str x=>by show eqV (.str x) (.str x)=true;exact Dp rfl
 |.tup ds=>by unfold eqD;exact z9 ds
 |.lst ds=>by unfold eqD;exact z9 ds
theorem z9:∀ ds:List Dt,wZ ds ds=true
 |[]=>rfl
 |a::as=>by unfold wZ;rw[tH a,z9 as];rfl
end
mutual
theorem Er:∀ d:Dt,shD d d=true
 |.non=>rfl
 |.bl _=>rfl
 |.int _=>rfl
 |.str _=>rfl
 |.tup ds=>by unfold shD;exact zU ds
 |.lst ds=>by unfold shD;exact zU ds
theorem zU:∀ ds:List Dt,zT ds ds=true
 |[]=>rfl
 |a::as=>by unfold zT;rw[Er a,zU as,Rb];rfl
end
theorem S9{X:Cx}{pins:List (Addr×Obj)}{zzs:St}{H:Hp}{s:Shared}{a:Addr}{xs ys:List V}(I:Inv X pins zzs H s)(h:SqT X.K H a xs)(h':SqL X.K H a ys):False:=by
 obtain⟨_,_,⟨o,e,c,_⟩,_⟩:=I.tuple h;obtain⟨_,_,⟨o',_,e',c',_⟩,_⟩:=I.list h';rw[e] at e';cases e';rw[c] at c';exact absurd c' (by decide)
mutual
theorem Den.inj{X:Cx}{pins:List (Addr×Obj)}{zzs:St}{H:Hp}{s:Shared}(I:Inv X pins zzs H s):∀ {d:Dt} {e:Dt} {x:V},Den X.K H x d->Den X.K H x e->d=e
 |.tup ds,_,_,.tup h hs,he=>by
  cases he with
  |tup h' hs'=>
   have e:=I.Vo (SqT.of h) (SqT.of h');subst e;rw[aU.inj I hs hs']
  |lst h' hs'=>exact(S9 I (SqT.of h) h').elim
 |.lst ds,_,_,.lst h hs,he=>by
  cases he with
  |lst h' hs'=>
   have e:=I.DK h h';subst e;rw[aU.inj I hs hs']
  |tup h' hs'=>exact(S9 I (SqT.of h') h).elim
 |.non,_,_,.non,he=>by cases he;rfl
 |.bl _,_,_,.bl _,he=>by cases he;rfl
 |.int _,_,_,.int _,he=>by cases he;rfl
 |.str _,_,_,.str _,he=>by cases he;rfl
theorem aU.inj{X:Cx}{pins:List (Addr×Obj)}{zzs:St}{H:Hp}{s:Shared}(I:Inv X pins zzs H s):∀ {ds es:List Dt} {xs:List V},aU X.K H xs ds->aU X.K H xs es->ds=es
 |[],_,_,.nil,he=>by cases he;rfl
 |d::ds,_,_,.cons h t,he=>by
  cases he with
  |cons h' t'=>rw[Den.inj I h h',aU.inj I t t']
end
theorem aU.getD{K:ao}{H:Hp}{xs:List V}{ds:List Dt}{us:List Value}{j:Nat}(D:aU K H xs ds)(r:Vals xs us)(h:j<us.length):∃ x,RelV x us[j]/\Den K H x (ds.getD j .non)/\ds[j]?=some (ds.getD j .non):=by
 have hl:=r.length;have hx:xs[j]?=some xs[j]:=by simp[hl,h]
 obtain⟨u,hu,ru⟩:=r.get hx;obtain⟨d,hd,dd⟩:=D.get hx;have eu:us[j]=u:=by
  rw[gj h] at hu;exact iu hu
 have ed:ds.getD j .non=d:=by rw[gO,hd];rfl
 rw[eu,ed];exact⟨_,ru,dd,hd⟩
theorem Den.flat{K:ao}{H:Hp}{x:V}{d:Dt}{y:V}(h:Den K H x d)(e:lJ d=some y):x=y/\RK x=true:=by
 cases h with
 |non=>cases e;exact⟨rfl,rfl⟩
 |bl b=>cases e;exact⟨rfl,rfl⟩
 |int i=>cases e;exact⟨rfl,rfl⟩
 |str z=>cases e;exact⟨rfl,rfl⟩
 |tup _ _=>cases e
 |lst _ _=>cases e
theorem tG{d e:Dt}{x y:V}(h1:lJ d=some x)(h2:lJ e=some y):eqD d e=eqV x y:=by
 cases d<;>first
  |(cases h1;simp only[eqD,h2])
  |cases h1
theorem Np{d e:Dt}{x:V}(h1:lJ d=some x)(h:shD d e=true):∃ y,lJ e=some y:=by
 cases d<;>first
  |(cases h1;unfold shD at h;exact Zc.mp h)
  |cases h1
theorem Dk{X:Cx}{pins:List (Addr×Obj)}{zzs:St}{H:Hp}{s:Shared}(I:Inv X pins zzs H s){d e:Dt}{x y:V}{u v:Value}{A:Around}(hu:A.units<cLine)(hx:Den X.K H x d)(hy:Den X.K H y e)(rx:RelV x u)(ry:RelV y v)(mx:a3y d e=true):EqAt A s u v (eqD d e):=by
 cases hx with
 |@tup a xs ds h hs=>
  cases rx;obtain⟨us,r,ht,_⟩:=I.tuple (SqT.of h);cases hy with
  |non=>cases ry;exact EqAt.tuple_none ht hu
  |bl b=>cases ry;exact EqAt.tuple_bool b ht hu
  |int i=>obtain⟨t,rfl⟩:=ry;exact EqAt.tuple_int i t ht hu
  |str z=>obtain⟨t,rfl⟩:=ry;exact EqAt.tuple_str z t ht hu
  |tup _ _=>cases mx
  |lst _ _=>cases mx
 |_=>cases mx
theorem Lz{X:Cx}{pins:List (Addr×Obj)}{zzs:St}{H:Hp}{s:Shared}(I:Inv X pins zzs H s):∀(n:Nat){d e:Dt}{x y:V}{u v:Value}{A:Around},vq d<=n->A.units+n<cLine->Den X.K H x d->Den X.K H y e->RelV x u->RelV y v->shD d e=true->EqAt A s u v (eqD d e):=by
 intro n
 induction n with
 |zero=>
  intro d e x y u v A hn hu hx hy rx ry sh;cases fd:lJ d with
  |some x'=>
   obtain⟨y',fe⟩:=Np fd sh;obtain⟨rfl,f1⟩:=hx.flat fd;obtain⟨rfl,f2⟩:=hy.flat fe;rw[tG fd fe];exact W6 rx ry f1 f2
  |none=>
   cases d with
   |tup ds=>unfold vq at hn;exact absurd hn (by lia)
   |lst ds=>unfold vq at hn;exact absurd hn (by lia)
   |_=>cases fd
 |succ n ih=>
  intro d e x y u v A hn hu hx hy rx ry sh;cases fd:lJ d with
  |some x'=>
   obtain⟨y',fe⟩:=Np fd sh;obtain⟨rfl,f1⟩:=hx.flat fd;obtain⟨rfl,f2⟩:=hy.flat fe;rw[tG fd fe];exact W6 rx ry f1 f2
  |none=>
   cases d with
   |tup ds=>
    cases e with
    |tup es=>
     cases hx with
     |@tup a xs _ h hs=>
      cases hy with
      |@tup b ys _ h' hs'=>
       cases rx;cases ry;by_cases hab:a=b
       ·subst hab;have e:=Den.inj I (.tup h hs) (.tup h' hs');rw[e,tH];exact EqAt.same _
       ·obtain⟨us,r,ht,_⟩:=I.tuple (SqT.of h);obtain⟨ws,r',ht',_⟩:=I.tuple (SqT.of h');have sh':zT ds es=true:=by unfold shD at sh;exact sh
        rw[show eqD (.tup ds) (.tup es)=wZ ds es from by unfold eqD;rfl];rw[<- LK];have l1:us.toArray.size=ds.length:=by rw[dj,<- r.length,hs.length]
        have l2:ws.toArray.size=es.length:=by rw[dj,<- r'.length,hs'.length]
        rw[<- l1,<- l2];refine Kr hab (RcAt.tuples ht ht' (by lia) fun j h1 h2=>?_);obtain⟨p,rp,dp,ep⟩:=hs.getD r (j:=j) (by simpa using h1);obtain⟨q,rq,dq,eq⟩:=hs'.getD r' (j:=j) (by simpa using h2);unfold vq at hn;have hd:=uP (fJ ep);exact(xZ sh' ep eq).elim (fun z=>ih (A:=A.in1) (by lia) (by show A.units+1+n<cLine;lia) dp dq (by simpa using rp) (by simpa using rq) z) (fun z=>Dk (A:=A.in1) I (by show A.units+1<cLine;lia) dp dq (by simpa using rp) (by simpa using rq) z)
    |_=>unfold shD at sh;cases sh
   |lst ds=>
    cases e with
    |lst es=>
     cases hx with
     |@lst a xs _ h hs=>
      cases hy with
      |@lst b ys _ h' hs'=>
       cases rx;cases ry;by_cases hab:a=b
       ·subst hab;have e:=Den.inj I (.lst h hs) (.lst h' hs');rw[e,tH];exact EqAt.same _
       ·obtain⟨us,r,ht,_⟩:=I.list h;obtain⟨ws,r',ht',_⟩:=I.list h';have sh':zT ds es=true:=by unfold shD at sh;exact sh
        rw[show eqD (.lst ds) (.lst es)=wZ ds es from by unfold eqD;rfl];have l1:us.toArray.size=ds.length:=by rw[dj,<- r.length,hs.length]
        have l2:ws.toArray.size=es.length:=by rw[dj,<- r'.length,hs'.length]
        by_cases hl:ds.length=es.length
        ·rw[<- xg hl,<- l1];refine Kr hab (RcAt.lists ht.isList ht'.isList (by rw[l1,l2];exact hl) (by lia) fun j h1 h2=>?_);obtain⟨p,rp,dp,ep⟩:=hs.getD r (j:=j) (by simpa using h1);obtain⟨q,rq,dq,eq⟩:=hs'.getD r' (j:=j) (by simpa using h2);unfold vq at hn;have hd:=uP (fJ ep);exact(xZ sh' ep eq).elim (fun z=>ih (A:=A.in1) (by lia) (by show A.units+1+n<cLine;lia) dp dq (by simpa using rp) (by simpa using rq) z) (fun z=>Dk (A:=A.in1) I (by show A.units+1<cLine;lia) dp dq (by simpa using rp) (by simpa using rq) z)
        ·rw[xq hl];exact Kr hab (RcAt.lists_lengths ht.isList ht'.isList (by rw[l1,l2];simpa using hl) (by lia))
    |_=>unfold shD at sh;cases sh
   |_=>cases fd
section
variable{X:Cx}{pins:List (Addr×Obj)}{zzs:St}{H:Hp}{s:Shared}
def a4E:Dt->Option (List Dt)
 |.tup ds=>some ds
 |.lst ds=>some ds
 |_=>none
theorem uT{n:Nat}{A:Around}(I:Inv X pins zzs H s){xs ys:List V}{ds es:List Dt}{us ws:List Value}(hn:vH ds<=n)(hu:A.units+(n+1)<cLine)(hs:aU X.K H xs ds)(hs':aU X.K H ys es)(r:Vals xs us)(r':Vals ys ws)
  (sh:zT ds es=true) (j:Nat) (h1:j<us.toArray.size) (h2:j<ws.toArray.size):EqAt A.in1 s us.toArray[j] ws.toArray[j] (atD ds es j):=by
 obtain⟨p,rp,dp,ep⟩:=hs.getD r (j:=j) (by simpa using h1);obtain⟨q,rq,dq,eq⟩:=hs'.getD r' (j:=j) (by simpa using h2);have hd:=uP (fJ ep);exact(xZ sh ep eq).elim (fun z=>Lz I n (A:=A.in1) (by lia) (by show A.units+1+n<cLine;lia) dp dq (by simpa using rp) (by simpa using rq) z) (fun z=>Dk (A:=A.in1) I (by show A.units+1<cLine;lia) dp dq (by simpa using rp) (by simpa using rq) z)
theorem Nb{A:Around}(I:Inv X pins zzs H s){d e:Dt}{a b:Addr}(hq:(a4E d).isSome=true)(hu:A.units+60<cLine)(hn:vq d<=50)(hx:Den X.K H (.ref a) d)(hy:Den X.K H (.ref b) e)(sh:shD d e=true):RcAt A s (.ref a) (.ref b) (eqD d e)/\RcNeAt A s (.ref a) (.ref b) (!eqD d e):=by
 cases d with
 |tup ds=>
  cases e with
  |tup es=>
   cases hx with
   |tup h hs=>
    cases hy with
    |tup h' hs'=>
     obtain⟨us,r,ht,_⟩:=I.tuple (SqT.of h);obtain⟨ws,r',ht',_⟩:=I.tuple (SqT.of h');have sh':zT ds es=true:=by unfold shD at sh;exact sh
     have hn':vH ds<=49:=by unfold vq at hn;lia
     rw[show eqD (.tup ds) (.tup es)=wZ ds es from by unfold eqD;rfl,<- LK];have l1:us.toArray.size=ds.length:=by rw[dj,<- r.length,hs.length]
     have l2:ws.toArray.size=es.length:=by rw[dj,<- r'.length,hs'.length]
     rw[<- l1,<- l2];exact⟨RcAt.tuples ht ht' (by lia) (uT I hn' (by lia) hs hs' r r' sh'),RcNeAt.tuples ht ht' (by lia) (uT I hn' (by lia) hs hs' r r' sh')⟩
  |_=>unfold shD at sh;cases sh
 |lst ds=>
  cases e with
  |lst es=>
   cases hx with
   |lst h hs=>
    cases hy with
    |lst h' hs'=>
     obtain⟨us,r,ht,_⟩:=I.list h;obtain⟨ws,r',ht',_⟩:=I.list h';have sh':zT ds es=true:=by unfold shD at sh;exact sh
     have hn':vH ds<=49:=by unfold vq at hn;lia
     rw[show eqD (.lst ds) (.lst es)=wZ ds es from by unfold eqD;rfl];have l1:us.toArray.size=ds.length:=by rw[dj,<- r.length,hs.length]
     have l2:ws.toArray.size=es.length:=by rw[dj,<- r'.length,hs'.length]
     by_cases hl:ds.length=es.length
     ·rw[<- xg hl,<- l1];exact⟨RcAt.lists ht.isList ht'.isList (by rw[l1,l2];exact hl) (by lia) (uT I hn' (by lia) hs hs' r r' sh'),RcNeAt.lists ht.isList ht'.isList (by rw[l1,l2];exact hl) (by lia) (uT I hn' (by lia) hs hs' r r' sh')⟩
     ·rw[xq hl];exact⟨RcAt.lists_lengths ht.isList ht'.isList (by rw[l1,l2];simpa using hl) (by lia),RcNeAt.lists_lengths ht.isList ht'.isList (by rw[l1,l2];simpa using hl) (by lia)⟩
  |_=>unfold shD at sh;cases sh
 |_=>cases hq
def Vd(K:ao)(neg:Bool):R2:=fun x y H Q=>∃ d e,(a4E d).isSome=true/\Den K H x d/\Den K H y e/\shD d e=true/\vq d<=50/\Q (.bl (if neg then !eqD d e else eqD d e)) H
theorem Den.XF{K:ao}{x:V}{d e:Dt}{y:V}(hq:(a4E d).isSome=true)(hx:Den K H x d)(hy:Den K H y e)(sh:shD d e=true):∃ a b,x=.ref a/\y=.ref b:=by
 cases hx with
 |@tup a _ _ _ _=>
  cases hy with
  |@tup b _ _ _ _=>exact⟨a,b,rfl,rfl⟩
  |_=>unfold shD at sh;cases sh
 |@lst a _ _ _ _=>
  cases hy with
  |@lst b _ _ _ _=>exact⟨a,b,rfl,rfl⟩
  |_=>unfold shD at sh;cases sh
 |_=>cases hq
theorem a3K(hu:X.A.units+60<cLine):OpR X (compareOp .Eq) (Vd X.K false):=by
 intro pins s zzs H x y v u Q I rx ry h;obtain⟨d,e,hq,hx,hy,sh,hn,q⟩:=h;obtain⟨a,b,rfl,rfl⟩:=Den.XF hq hx hy sh;cases rx;cases ry;exact(Nb I hq hu hn hx hy sh).1 _ _ _ _ ⟨.bl _,H,I,rfl,q⟩
theorem a3O(hu:X.A.units+60<cLine):OpR X (compareOp .NotEq) (Vd X.K true):=by
 intro pins s zzs H x y v u Q I rx ry h;obtain⟨d,e,hq,hx,hy,sh,hn,q⟩:=h;obtain⟨a,b,rfl,rfl⟩:=Den.XF hq hx hy sh;cases rx;cases ry;exact(Nb I hq hu hn hx hy sh).2 _ _ _ _ ⟨.bl _,H,I,rfl,q⟩
def Py(K:ao)(neg:Bool):R2:=fun x y H Q=>∃ d es p,y=.ref p/\Den K H x d/\(Den K H y (.lst es)\/Den K H y (.tup es))/\(∀ e∈es,shD e d=true/\vq e<=50)/\Q (.bl (if neg then !(es.any fun e=>eqD e d) else es.any fun e=>eqD e d)) H
theorem a01{K:ao}{d:Dt}{P:Value->Bool}:∀ {xs:List V} {es:List Dt} {us:List Value},aU K H xs es->Vals xs us->(∀(j:Nat)(u:Value)(e:Dt),us[j]?=some u->es[j]?=some e->P u=eqD e d)->us.any P=es.any fun e=>eqD e d:=by
 intro xs es us D r
 induction r generalizing es with
 |nil=>intro h;cases D;rfl
 |cons _ r ih=>
  intro h;cases D with
  |cons _ t=>rw[wV,wV,h 0 _ _ rfl rfl,ih t fun j u e h1 h2=>h (j+1) u e (by simpa using h1) (by simpa using h2)]
open Classical in
theorem Jk(I:Inv X pins zzs H s){x:V}{v:Value}{d:Dt}{ys:List V}{es:List Dt}{us:List Value}{A:Around}(hu:A.units+60<cLine)(rx:RelV x v)(hx:Den X.K H x d)(hs:aU X.K H ys es)(r:Vals ys us)(hsh:∀ e∈es,shD e d=true/\vq e<=50) :
  ∃ P:Value->Bool,(∀ u∈us,EqAt A s u v (P u))/\us.any P=es.any fun e=>eqD e d:=by
 have key:∀(j:Nat)(u:Value)(e:Dt),us[j]?=some u->es[j]?=some e->EqAt A s u v (eqD e d)/\∃ y,RelV y u/\Den X.K H y e:=fun j u e h1 h2=>by
  obtain⟨y,h3,dy⟩:=hs.get' h2;obtain⟨u',h4,ry⟩:=r.get h3;rw[h1] at h4;cases h4;obtain⟨a1,a2⟩:=hsh e (fJ h2);exact⟨Lz I 50 a2 (by lia) dy hx ry rx a1,y,ry,dy⟩
 have one:∀(j:Nat)(u:Value)(e:Dt),us[j]?=some u->es[j]?=some e->decide (∃ y e,RelV y u/\Den X.K H y e/\eqD e d=true)=eqD e d:=fun j u e h1 h2=>by
  obtain⟨_,y,ry,dy⟩:=key j u e h1 h2;cases q:eqD e d with
  |true=>exact bR ⟨y,_,ry,dy,q⟩
  |false=>
   refine cG fun zzy=>?_
   obtain⟨y',e',ry',dy',q'⟩:=zzy;have ey:=ry.inj ry';subst ey;rw[Den.inj I dy' dy,q] at q';cases q'
 refine⟨fun u=>decide (∃ y e,RelV y u/\Den X.K H y e/\eqD e d=true),fun u hu'=>?_,a01 hs r one⟩;obtain⟨j,hj⟩:=rP hu';have hl:j<es.length:=by rw[<- hs.length,r.length];exact(gM.mp hj).1
 have e1:=(key j u es[j] hj (by simp[hl])).1;show EqAt A s u v (decide _);rw[one j u es[j] hj (by simp[hl])];exact e1
theorem a3M(hu:X.A.units+61<cLine):OpR X (compareOp .In) (Py X.K false):=by
 intro pins s zzs H x y v u Q I rx ry h;obtain⟨d,es,p,rfl,hx,hy,hsh,q⟩:=h;cases ry;rcases hy with hy|hy
 ·cases hy with
  |lst h' hs=>
   obtain⟨us,r,ht,_⟩:=I.list h';obtain⟨P,hP,e⟩:=Jk (A:=X.A.in1) I (by show X.A.units+1+60<cLine;omega) rx hx hs r hsh;exact in_listAt P ht.isList (fun z hz=>hP z (by simpa using hz)) ⟨.bl _,H,I,by rw[<- e];simp<;>rfl,q⟩
 ·cases hy with
  |tup h' hs=>
   obtain⟨us,r,ht,_⟩:=I.tuple (SqT.of h');obtain⟨P,hP,e⟩:=Jk (A:=X.A.in1) I (by show X.A.units+1+60<cLine;omega) rx hx hs r hsh;exact in_tupleAt P ht (fun z hz=>hP z (by simpa using hz)) ⟨.bl _,H,I,by rw[<- e];simp<;>rfl,q⟩
theorem V2(hu:X.A.units+61<cLine):OpR X (compareOp .NotIn) (Py X.K true):=by
 intro pins s zzs H x y v u Q I rx ry h;obtain⟨d,es,p,rfl,hx,hy,hsh,q⟩:=h;cases ry;rcases hy with hy|hy
 ·cases hy with
  |lst h' hs=>
   obtain⟨us,r,ht,_⟩:=I.list h';obtain⟨P,hP,e⟩:=Jk (A:=X.A.in1) I (by show X.A.units+1+60<cLine;omega) rx hx hs r hsh;exact notIn_listAt P ht.isList (fun z hz=>hP z (by simpa using hz)) ⟨.bl _,H,I,by rw[<- e];simp<;>rfl,q⟩
 ·cases hy with
  |tup h' hs=>
   obtain⟨us,r,ht,_⟩:=I.tuple (SqT.of h');obtain⟨P,hP,e⟩:=Jk (A:=X.A.in1) I (by show X.A.units+1+60<cLine;omega) rx hx hs r hsh;exact notIn_tupleAt P ht (fun z hz=>hP z (by simpa using hz)) ⟨.bl _,H,I,by rw[<- e];simp<;>rfl,q⟩
end
structure Df(P:Program)(w:World)(K:ao)(mg:Str->Option Value)(base:Heap)(k:Nat)(x:Str)(ps:List Str)(sp:Sp):Prop where
 ex:∃ f fd,cY P w K mg base (CXE P w) k f fd ps sp/\mg x=some (.ref f)/\PySem.W.keepIn K (.ref f)=true/\Binds K fd ps []
theorem bf{X:Cx}:Passes (CXE X.prog X.w) X E0:=by
 intro pins zzs H s e s' I h;obtain⟨ea,C,H',_,_,_,_,_,_,z⟩:=h;exact z.elim
section
variable{P:Program}{w:World}{K:ao}{mg:Str->Option Value}{base:Heap}
theorem Fun.okE{x qual:Str}{st:Stmt}{f:Addr}{fd:FuncData}{N ps:List Str}{k:Nat}{sp:Sp}(F:Fun K x qual st f fd)(S:bA N ps (aJ st))(len:∀ vs H Q E,sp vs H Q E->vs.length=ps.length)
  (hbody:∀(cdv:Value)(A:Around)(outer:List Env)(s:Shared)(H:Hp)(vs:List V)(Q:VK)(E:XK),iI k (A.deeper (envOfC qual (aJ st) s.heap.objs.size f cdv))->sp vs H Q E ->
   ∃ t,PSs (rZ (CXE P w) P w K mg base N qual (aJ st) f cdv A outer s H E) (gQ st) t/\t { nx:=fun _ H'=>Q .non H',rt:=Q } (start N vs) H):cY P w K mg base (CXE P w) (k+1) f fd ps sp:=by
 obtain⟨oc,od,kV,doc,pm,an,cdv,ct,osl,rfl,lk,hcd⟩:=F.ex;exact a5l lk hcd S len fun A outer s H vs Q E hr hsp=>hbody cdv A outer s H vs Q E hr hsp
theorem Fun.ok0{x qual:Str}{st:Stmt}{f:Addr}{fd:FuncData}{N ps:List Str}{k:Nat}{sp:Sp}(F:Fun K x qual st f fd)(S:bA N ps (aJ st))(len:∀ vs H Q E,sp vs H Q E->vs.length=ps.length)
  (hbody:∀(cdv:Value)(A:Around)(outer:List Env)(s:Shared)(H:Hp)(vs:List V)(Q:VK)(E:XK),iI k (A.deeper (envOfC qual (aJ st) s.heap.objs.size f cdv))->sp vs H Q E ->
   ∃ t,PSs (rZ (CXE P w) P w K mg base N qual (aJ st) f cdv A outer s H E).nox (gQ st) t/\t { nx:=fun _ H'=>Q .non H',rt:=Q } (start N vs) H):cY P w K mg base (CXE P w) (k+1) f fd ps sp:=
 F.okE S len fun cdv A outer s H vs Q E hr hsp=>let ⟨t,h,q⟩:=hbody cdv A outer s H vs Q E hr hsp;⟨t,h.nox,q⟩
end
theorem PS.nox{X:Cx}{st:Stmt}{t:TS}(h:PS X.nox st t):PS X st t:=fun pins s zzs H D I hw=>
 j8 (h pins s zzs H D (I.wish _) hw) (fun _ _ q=>SP.jR q) fun _ _ z=>False.elim z
section
variable{X:Cx}{k j:Nat}{ps:List Str}{sp:Sp}{E:XK}{x:Str}{p pos:Pos}{e:Expr}{es:List Expr}{t:TA}
theorem a3S(D:Df X.prog X.w X.K X.mg X.base k x ps sp)(hr:iI j X.A)(hg:Gl X x)(hx:Passes (CXE X.prog X.w) X E)(ha:PA X (e::es) t)(hk:k<=j:=by decide)
  (hdb:(x==("__debug__" : Str))=false:=by decide) (he:starEach (e::es) X.env=(false,eval e X.env)::starEach es X.env:=by rfl) (hpl:(backTo pos (starEach es X.env)).any (·.1)=false:=by rfl) :
  PE X (.Call (.Name x p) (e::es) [] pos) (Tf sp [] E t):=by
 obtain⟨f,fd,F,hm,kp,hb⟩:=D.ex;exact a0S F (hr.mono hk) hg hm kp hb .nil hx ha hdb he hpl
theorem a0Y(D:Df X.prog X.w X.K X.mg X.base k x ps sp)(hr:iI j X.A)(hg:Gl X x)(ha:PA X.nox (e::es) t)(hk:k<=j:=by decide)
  (hdb:(x==("__debug__" : Str))=false:=by decide) (he:starEach (e::es) X.env=(false,eval e X.env)::starEach es X.env:=by rfl) (hpl:(backTo pos (starEach es X.env)).any (·.1)=false:=by rfl) :
  PEX X (.Call (.Name x p) (e::es) [] pos) (Jz sp [] t):=by
 obtain⟨f,fd,F,hm,kp,hb⟩:=D.ex;exact Xg F (hr.mono hk) hg hm kp hb .nil ha hdb he hpl
end
section
variable{X:Cx}{x:Str}{pos:Pos}
theorem a0V{i:Int}(h:∃ t,X.mg x=some (.int i t))(hg:Gl X x) (hd:(x==("__debug__" : Str))=false:=by decide):PE X (.Name x pos) (tC (.int i)):=by
 obtain⟨t,h⟩:=h;exact Jq hg h ⟨t,rfl⟩ hd
theorem a0W{z:Str}(h:∃ t,X.mg x=some (.str z t))(hg:Gl X x) (hd:(x==("__debug__" : Str))=false:=by decide):PE X (.Name x pos) (tC (.str z)):=by
 obtain⟨t,h⟩:=h;exact Jq hg h ⟨t,rfl⟩ hd
end
section
variable{X:Cx}
def MK:R2:=fun x y H Q=>match x,y with
 |.int i,.int j=>Q (.int (i+j)) H
 |.str i,.str j=>i.length+j.length<=sizeLine/\Q (.str (i++j)) H
 |.ref l,.ref b=>∃ xs zs,H l=some (.lst xs)/\H b=some (.lst zs)/\xs.length+zs.length<=sizeLine/\∀ p,H p=none->Q (.ref p) (upd H p (.lst (xs++zs)))
 |_,_=>False
theorem bI:OpR X (binaryOp .Add) MK:=by
 intro pins s zzs H x y v u Q I rx ry h;unfold MK at h;split at h
 ·exact a3I pins s zzs H _ _ v u Q I rx ry ⟨_,_,rfl,rfl,h⟩
 ·exact Pq pins s zzs H _ _ v u Q I rx ry ⟨_,_,rfl,rfl,h.1,h.2⟩
 ·obtain⟨xs,zs,h1,h2,h3,h4⟩:=h;exact a3J pins s zzs H _ _ v u Q I rx ry ⟨_,_,xs,zs,rfl,rfl,h1,h2,h3,h4⟩
 ·exact h.elim
def a2n:R2:=fun x y H Q=>match x,y with
 |.int i,.int j=>ZR i j/\Q (.int (i*j)) H
 |.str z,.int n=>z.length<=1000 /\ -1000<=n/\n<=1000/\Q (.str (a4x z n)) H
 |.ref l,.int k=>∃ xs,H l=some (.lst xs) /\ -(2^63)<=k/\k<2^63/\xs.length*k.toNat<=sizeLine/\∀ p,H p=none->Q (.ref p) (upd H p (.lst (List.replicate k.toNat xs).flatten))
 |_,_=>False
theorem vd:OpR X (binaryOp .Mult) a2n:=by
 intro pins s zzs H x y v u Q I rx ry h;unfold a2n at h;split at h
 ·exact a3N pins s zzs H _ _ v u Q I rx ry ⟨_,_,rfl,rfl,h.1,h.2⟩
 ·exact Pr pins s zzs H _ _ v u Q I rx ry ⟨_,_,rfl,rfl,h.1,h.2.1,h.2.2.1,h.2.2.2⟩
 ·obtain⟨xs,h1,h2,h3,h4,h5⟩:=h;exact a3P pins s zzs H _ _ v u Q I rx ry ⟨_,_,xs,rfl,rfl,h1,h2,h3,h4,h5⟩
 ·exact h.elim
end
theorem a1W{K:ao}{x t c:Value}{Hp':Heap->Prop}(ty:∀(M:Model) (h:Heap),Hp' h->PySem.W.Looks M h (typeOf x) t)(e:PySem.W.kitOne K t c=some true):Answers (fun s=>K.In s.heap/\Hp' s.heap) x c true:=by
 intro dep tk prog w A R s hs;obtain⟨hh,g,d,tt,os⟩:=s;obtain⟨⟨kin,p⟩,hq⟩:=hs;have look:=ty (model prog w) hh p;unfold PySem.W.kitOne at e;unfold Builtin.«isinstance.nested»;refine aP (PySem.W.Looks.at look ?_);cases q:(t==c) with
 |true=>
  rw[aK rfl];exact aP (jT (bL (hq tt)))
 |false=>
  rw[q,aH g8] at e;rw[aH g8];obtain⟨l1,l2,l3⟩:=PySem.W.kit_cls (M:=model prog w) kin e;have l4:PySem.W.Looks (model prog w) hh (isInstance x c) true:=PySem.W.Looks.andThen look l3;refine aP (PySem.W.Looks.at l1 ?_);rw[aK (by decide)]
  k_delta "plainIsInstance"
  refine aP (aP (PySem.W.Looks.at l2 ?_));simp only[Bool.not_true,vN,jU];exact aP (PySem.W.Looks.at l4 (bL (bL (hq tt))))
def a2J:V->Option Value
 |.ty n=>some (.type n)
 |.ref a=>some (.ref a)
 |_=>none
theorem Rr{c:V}{cv u:Value}(h:a2J c=some cv)(r:RelV c u):u=cv:=by
 cases c with
 |ty n=>cases h;exact r
 |ref a=>cases h;exact r
 |_=>cases h
section
variable{X:Cx}
def a5R(K:ao):List V->Hp->VK->Prop:=fun xs H Q=>∃ x c cv,xs=[x,c]/\a2J c=some cv /\
 ((∃ t b,yM K H x t/\PySem.W.kitOne K t cv=some b/\Q (.bl b) H)\/(∃ ea C,x=.ref ea/\H ea=some (Bv ea C)/\PySem.W.kitOne K (.ref C) cv=some true/\Q (.bl true) H))
theorem VB:eE X (.builtin "isinstance") (a5R X.K):=by
 intro pins s zzs H xs us Q I r h;obtain⟨x,c,cv,rfl,hc,h⟩:=h;obtain⟨u,u',rfl,ru,rc⟩:=vals2 r;have e:=Rr hc rc;subst e;rcases h with⟨t,b,ty,hk,q⟩|⟨ea,C,rfl,hE,hk,q⟩
 ·exact Ui I ru ty hk fun tk=>⟨.bl b,H,I.tok tk,rfl,q⟩
 ·cases ru;obtain⟨⟨ob,e1,e2⟩,_,_⟩:=(show fQ X.prog X.w H s.heap ea (Bv ea C) from I.hok ea _ hE)
  refine call_isinstance (S:=fun _ R s'=>(X.K.In s'.heap/\(fun h:Heap=>∃ o,h.get? ea=some o/\o.cls=.ref C) s'.heap)/\∀ tk,R (.ok (.ret (.bool true))) { s' with toks:=tk })
   (fun prog w A R s' hs=>isinstance_outer (a1W (K:=X.K) (t:=.ref C) (Hp':=fun h=>∃ o,h.get? ea=some o/\o.cls=.ref C) (fun M h p=>?_) hk 0 _ prog w A R s' hs) (by intro z;cases z)) ⟨⟨I.kIn,⟨ob,e1,e2⟩⟩,fun tk=>⟨.bl true,H,I.tok tk,rfl,q⟩⟩
  obtain⟨o,h1,h2⟩:=p;exact h2▸(PySem.W.Looks.ld h1).andThen .now
end
theorem Rt{J:It}{n:Nat}{item:Nat->V}{tc:TT}{te:TE}{zzs:St}{fin:List V->Hp->Prop}{H:Hp}(R:Nat->List V->Hp->Prop)(hn:n<=sizeLine)
  (hgo:∀ i ys H,i<n->R i ys H->J.go i H) (hy:∀ i ys H v H',i<n->R i ys H->J.yld i H v H'->v=item i/\H'=H) (hstop:∀ ys H,R n ys H->J.stop n H)
  (hl:∀ i ys H,i<=n->R i ys H->ys.length<=i) (h0:R 0 [] H)
  (hs:∀ i ys H,i<n->R i ys H->∀ G:List V->Hp->Prop,(∀ ys' H',R (i+1) ys' H'->G ys' H')->tc (some (item i)::zzs) H fun b H2=>if b=true then te (some (item i)::zzs) H2 fun y H3=>G (ys++[y]) H3 else G ys H2)
  (hd:∀ ys H,R n ys H->fin ys H):∃ W:Nat->Nat->List V->Hp->Prop,(∃ m,W 0 m [] H)/\sJ J tc te zzs fin W:=by
 refine⟨fun i m ys H=>m=n-i/\i<=n/\R i ys H,⟨n,by lia,j7 _,h0⟩,?_⟩;rintro i m ys H ⟨rfl,hi,r⟩;refine⟨cX (hl i ys H hi r) (cX hi hn),?_⟩;by_cases hlt:i<n
 ·refine .inr ⟨hgo i ys H hlt r,fun v H' y=>?_⟩;obtain⟨rfl,rfl⟩:=hy i ys H v H' hlt r y;exact hs i ys _ hlt r (fun ys' H2=>∃ m',m'<n-i/\(m'=n-(i+1)/\i+1<=n/\R (i+1) ys' H2)) fun ys' H2 r'=>⟨n-(i+1),by lia,rfl,hlt,r'⟩
 ·have e:i=n:=by lia
  subst e;exact .inl ⟨hstop ys H r,hd ys H r⟩
theorem Same.put{H:Hp}{p:Addr}{o:HO}(h:H p=none):Same H (upd H p o):=fun b u e=>by
 rw[bD (bV e h)];exact e
theorem Same.and{H H':Hp}{p:Addr}{o:HO}(s:Same H H')(h:H' p=none):Same H (L2.upd H' p o):=s.trans (Same.put h)
theorem small{n:Nat}(h:n<=10000):n<=sizeLine:=cX h (by rw[oX];decide)
theorem Rk{ns:List Int}{i:Int}(h0:0<=i)(h1:i<ns.length):∃ v,atI (ns.map V.int) i=some (V.int v):=by
 obtain⟨k,rfl⟩:=Qo h0;have hk:k<ns.length:=by lia
 exact⟨ns[k],fP (by simp[hk])⟩
theorem sX{α:Type}{xs:List α}{i:Int}(h0:0<=i)(h1:i<xs.length):∃ v,v∈xs/\atI xs i=some v:=by
 obtain⟨k,rfl⟩:=Qo h0;have hk:k<xs.length:=by lia
 exact⟨xs[k],oG hk,fP (by simp[hk])⟩
theorem lK{A:Around}{k:Nat}(hr:iI k A):A.units+60<cLine:=K4 (Zx (by decide:60<=64) _) hr.units
theorem xG{A:Around}{k:Nat}(hr:iI k A):A.units+61<cLine:=K4 (Zx (by decide:61<=64) _) hr.units
def notStar:Expr->Bool
 |.Starred _ _=>false
 |_=>true
theorem lR{env:Env}{e:Expr}{es:List Expr}(h:notStar e=true):starEach (e::es) env=(false,eval e env)::starEach es env:=by
 cases e<;>first|rfl|cases h
theorem Bh{env:Env}{pos:Pos}:∀ {es:List Expr},es.all notStar=true->(backTo pos (starEach es env)).any (·.1)=false
 |[],_=>rfl
 |e::es,h=>by
  rw[Aw,lW] at h;rw[lR h.1];show(false||(backTo pos (starEach es env)).any (·.1))=false;rw[Bh h.2];rfl
section
variable{X:Cx}{k j:Nat}{ps:List Str}{sp:Sp}{E:XK}{x:Str}{p pos:Pos}{e:Expr}{es:List Expr}{te:TE}{t:TA}{id T:String}{r:List V->Hp->VK->Prop}{C f:Addr}{fd:FuncData}
theorem a1A(ha:PE X e te)(hr:PA X es t)(hs:notStar e=true:=by rfl):PA X (e::es) (uh te t):=Sg ha hr (lR hs)
theorem a4s(D:Df X.prog X.w X.K X.mg X.base k x ps sp)(hr:iI j X.A)(hg:Gl X x)(hx:Passes (CXE X.prog X.w) X E)(ha:PA X (e::es) t)(hk:k<=j:=by decide)(h1:notStar e=true:=by rfl)(h2:es.all notStar=true:=by rfl)
  (hdb:(x==("__debug__" : Str))=false:=by decide):PE X (.Call (.Name x p) (e::es) [] pos) (Tf sp [] E t):=a3S D hr hg hx ha hk hdb (lR h1) (Bh h2)
theorem a1C(D:Df X.prog X.w X.K X.mg X.base k x ps sp)(hr:iI j X.A)(hg:Gl X x)(ha:PA X.nox (e::es) t)(hk:k<=j:=by decide)(h1:notStar e=true:=by rfl)(h2:es.all notStar=true:=by rfl)
  (hdb:(x==("__debug__" : Str))=false:=by decide):PEX X (.Call (.Name x p) (e::es) [] pos) (Jz sp [] t):=a0Y D hr hg ha hk hdb (lR h1) (Bh h2)
theorem Xu(hc:eE X (.builtin id) r)(hg:Gl X x)(hm:X.mg x=none)(hv:bootBuiltins x=some (.builtin id))(ha:PA X (e::es) t)(h1:notStar e=true:=by rfl)(h2:es.all notStar=true:=by rfl) (hn:x ≠ "__name__":=by decide)
  (hdb:(x==("__debug__" : Str))=false:=by decide):PE X (.Call (.Name x p) (e::es) [] pos) (tCB r t):=Xb hc hg hm hv ha hn hdb (lR h1) (Bh h2)
theorem Vc(hc:eE X (.type T) r)(hg:Gl X x)(hm:X.mg x=none)(hv:bootBuiltins x=some (.type T))(ha:PA X (e::es) t)(h1:notStar e=true:=by rfl)(h2:es.all notStar=true:=by rfl) (hn:x ≠ "__name__":=by decide)
  (hdb:(x==("__debug__" : Str))=false:=by decide):PE X (.Call (.Name x p) (e::es) [] pos) (tCB r t):=V4 hc hg hm hv ha hn hdb (lR h1) (Bh h2)
end
structure Md(P:Program)(w:World)(K:ao)(mg:Str->Option Value)(base:Heap)(k:Nat)(x:Str)(ps:List Str)(C:Addr)(sp:Sp):Prop where
 ex:∃ f fd,Mk K C f/\cY P w K mg base (CXE P w) k f fd ps sp/\mg x=some (.ref C)/\Binds K fd ps []
section
variable{X:Cx}{k j:Nat}{ps:List Str}{sp:Sp}{E:XK}{x:Str}{p pos:Pos}{e:Expr}{es:List Expr}{te:TE}{t:TA}{C:Addr}
theorem a1B(D:Md X.prog X.w X.K X.mg X.base k x ps C sp)(hr:iI j X.A)(hg:Gl X x)(hx:Passes (CXE X.prog X.w) X E)(ha:PA X (e::es) t)(hk:k+1<=j:=by decide)(h1:notStar e=true:=by rfl)(h2:es.all notStar=true:=by rfl)
  (hdb:(x==("__debug__" : Str))=false:=by decide):PE X (.Call (.Name x p) (e::es) [] pos) (YH C sp [] E t):=by
 obtain⟨f,fd,M,F,hm,hb⟩:=D.ex;exact a0X M F (hr.mono hk) hg hm hb .nil hx ha hdb (lR h1) (Bh h2)
end
structure RE(X:Cx)(e:Expr)(t:TE):Prop where ok:PE X e t
structure RT(X:Cx)(e:Expr)(t:TT):Prop where ok:PT X e t
structure RB(X:Cx)(e:Expr)(t:TT):Prop where ok:PW X e t
structure RA(X:Cx)(es:List Expr)(t:TA):Prop where ok:PA X es t
structure RS(X:Cx)(st:Stmt)(t:TS):Prop where ok:PS X st t
structure RSs(X:Cx)(st:List Stmt)(t:TS):Prop where ok:PSs X st t
structure RI(X:Cx)(tg iter:Expr)(t:TI):Prop where ok:PI X tg iter t
structure RG(X:Cx)(tg:Expr)(t:TG):Prop where ok:PG X tg t
structure RGs(X:Cx)(ts:List Expr)(t:TGs):Prop where ok:PGs X ts t
structure RO(X:Cx)(e:Option Expr)(t:TO):Prop where ok:PO X e t
structure RIf(X:Cx)(ifs:List Expr)(t:TT):Prop where ok:KC X ifs t
structure REX(X:Cx)(e:Expr)(t:TEX):Prop where ok:PEX X e t
structure RSX(X:Cx)(st:List Stmt)(t:TSX):Prop where ok:PSX X st t
structure RH(X:Cx)(hs:List ExceptHandler)(th:Addr->TS):Prop where ok:PH X hs th
def Cd:Expr->Bool
 |.ListComp _ _ _ _=>false
 |.SetComp _ _ _ _=>false
 |.DictComp _ _ _ _ _=>false
 |_=>true
theorem YB{e:Expr}{t:Option Expr}{n:Nat}{env:Env}(h:Cd e=true):swapsWith e t n env=pure false:=by
 cases e<;>first|rfl|cases h
def plainT:Expr->Bool
 |.Call _ _ _ _=>true
 |.Name _ _=>true
 |.Constant _ _ _=>true
 |.Attribute _ _ _=>true
 |.Subscript _ _ _=>true
 |_=>false
theorem a5K{e:Expr}{env:Env}(h:plainT e=true):∀ whole,isTrue e env whole=(do let v <- whole;standAt e.pos;holding [v] (truthy v)):=by
 intro whole;cases e<;>first|rfl|cases h
def S7:Expr->Bool
 |.Name _ _=>true
 |.Constant _ _ _=>true
 |.BinOp _ _ _ _=>true
 |.UnaryOp _ _ _=>true
 |.Call _ _ _ _=>true
 |.Subscript _ _ _=>true
 |.Attribute _ _ _=>true
 |_=>false
theorem a5q{b:Expr}(h:S7 b=true):Rh b:=by
 intro o i;cases b<;>first|rfl|cases h
section
variable{X:Cx}{a b c e o:Expr}{es rest:List Expr}{ta tb tc te to:TE}{t:TA}{tA tB':TT}{pos p:Pos}{i:Nat}{x:Str}
theorem rv(i:Nat)(hN:X.N[i]?=some x:=by rfl)(hv:Vis X.env.scope x:=by first|exact Or.inl rfl|exact Or.inr (Or.inl rfl)|exact Or.inr (Or.inr rfl)) (hd:(x==("__debug__" : Str))=false:=by decide)
  (hcd:(x==("__classdict__" : Str))=false:=by decide):RE X (.Name x pos) (a6m i):=⟨a4b hN hv hd hcd⟩
theorem aG {i j pos}:RE X (.Constant (.int i) j pos) (tC (.int i)):=⟨a3U⟩
theorem qb {b j pos}:RE X (.Constant (.bool b) j pos) (tC (.bl b)):=⟨a5C⟩
theorem Ec {j pos}:RE X (.Constant .none j pos) (tC .non):=⟨a3W⟩
theorem dX {z j pos}:RE X (.Constant (.str z) j pos) (tC (.str z)):=⟨a3Z⟩
theorem Pz{i:Int}(h:∃ t,X.mg x=some (.int i t))(hg:Gl X x) (hd:(x==("__debug__" : Str))=false:=by decide):RE X (.Name x pos) (tC (.int i)):=⟨a0V h hg hd⟩
theorem XC{z:Str}(h:∃ t,X.mg x=some (.str z t))(hg:Gl X x) (hd:(x==("__debug__" : Str))=false:=by decide):RE X (.Name x pos) (tC (.str z)):=⟨a0W h hg hd⟩
theorem Sv{C:Addr}(hm:X.mg x=some (.ref C))(hg:Gl X x) (hd:(x==("__debug__" : Str))=false:=by decide):RE X (.Name x pos) (tC (.ref C)):=⟨Jq hg hm rfl hd⟩
theorem a69{n:String}(hm:X.mg x=none)(hg:Gl X x)(hv:bootBuiltins x=some (.type n)) (hn:x ≠ "__name__":=by decide) (hd:(x==("__debug__" : Str))=false:=by decide):RE X (.Name x pos) (tC (.ty n)):=⟨a0R hg hm hv rfl hn hd⟩
theorem dw{op:Operator}{r:R2}(ho:OpR X (binaryOp op) r)(ha:RE X a ta)(hb:RE X b tb):RE X (.BinOp a op b pos) (tOp r ta tb):=⟨a5F ho ha.ok hb.ok⟩
theorem Ve{op:UnaryOp}{r:V->Hp->VK->Prop}(ho:UnR X (unaryOp op) r)(ha:RE X a ta):RE X (.UnaryOp op a pos) (tUn r ta):=⟨a5G ho ha.ok⟩
theorem xQ{op:CmpOp}{r:R2}(ho:OpR X (compareOp op) r)(ha:RE X a ta)(hb:RE X b tb)(hm:behindInMarks op b=false):RE X (.Compare a [op] [b] pos) (tOp r ta tb):=⟨a0T ho ha.ok hb.ok hm⟩
theorem bF{op:CmpOp}{r:R2}(ho:OpR X (compareOp op) r)(ha:RE X a ta)(hb:RE X b tb)(hm:behindInMarks op b=false):RT X (.Compare a [op] [b] pos) (Ti (tOp r ta tb)):=⟨a1p ho ha.ok hb.ok hm⟩
theorem Ci{op op':CmpOp}{r r':R2}(ho:OpR X (compareOp op) r)(ho':OpR X (compareOp op') r')(ha:RE X a ta)(hb:RE X b tb)(hc:RE X c tc)
  (hm:lastMarks [op,op'] [b,c]=false:=by with_unfolding_all rfl):RE X (.Compare a [op,op'] [b,c] pos) (JB r r' ta tb tc):=⟨Xc ho ho' ha.ok hb.ok hc.ok hm⟩
theorem xW{op op':CmpOp}{r r':R2}(ho:OpR X (compareOp op) r)(ho':OpR X (compareOp op') r')(ha:RE X a ta)(hb:RE X b tb)(hc:RE X c tc)
  (hm:lastMarks [op,op'] [b,c]=false:=by with_unfolding_all rfl):RT X (.Compare a [op,op'] [b,c] pos) (Ti (JB r r' ta tb tc)):=⟨Xo ho ho' ha.ok hb.ok hc.ok hm⟩
theorem kZ(h:RE X e te)(he:plainT e=true:=by rfl):RT X e (L2.tB te):=⟨a4q h.ok (a5K he)⟩
theorem qT(ha:RT X a tA):RB X (.BoolOp .And [a] pos) tA:=⟨pw_and1 ha.ok⟩
theorem Jr(ha:RT X a tA):RB X (.BoolOp .Or [a] pos) tA:=⟨pw_or1 ha.ok⟩
theorem wA(ha:RT X a tA)(hb:RB X (.BoolOp .And (b::rest) pos) tB'):RB X (.BoolOp .And (a::b::rest) pos) (a6e tA tB'):=⟨pw_and ha.ok hb.ok⟩
theorem Sx(ha:RT X a tA)(hb:RB X (.BoolOp .Or (b::rest) pos) tB'):RB X (.BoolOp .Or (a::b::rest) pos) (tOr tA tB'):=⟨pw_or ha.ok hb.ok⟩
theorem Ej(h:RB X e tA):RT X e tA:=⟨h.ok.pt⟩
theorem qX(ha:RT X a tA):RT X (.UnaryOp .Not a pos) (a6i tA):=⟨a4p ha.ok⟩
theorem MP {op} {t:TE} (h:RE X a t):RE X (.BoolOp op [a] pos) t:=⟨a3Y h.ok⟩
theorem MN(ha:RE X a ta)(hb:RE X (.BoolOp .And (b::rest) pos) tb):RE X (.BoolOp .And (a::b::rest) pos) (a2t ta tb):=⟨a3Q ha.ok hb.ok⟩
theorem a68(ha:RE X a ta):RE X (.UnaryOp .Not a pos) (a2x ta):=⟨a3X ha.ok⟩
theorem ak:RA X [] jF:=⟨X8⟩
theorem aj(ha:RE X e te)(hr:RA X es t)(hs:notStar e=true:=by rfl):RA X (e::es) (uh te t):=⟨Sg ha.ok hr.ok (lR hs)⟩
theorem gk {x1} (h:RA X es t):RE X (.Tuple es x1 pos) (a4L t):=⟨a4a h.ok⟩
theorem bZ(h:RA X es t):RE X (.List es pos) (a4J t):=⟨a3V h.ok⟩
theorem cH{r:R2}(hr:IxR X r)(ha:RE X a ta)(hb:RE X b tb)(hs:S7 b=true:=by rfl):RE X (.Subscript a b pos) (tOp r ta tb):=⟨a5E hr ha.ok hb.ok (a5q hs)⟩
theorem xU:RO X none Tg:=⟨a1h⟩
theorem xV(h:RE X e te):RO X (some e) (a2y te):=⟨a1i h.ok⟩
theorem xR{lo hi:Option Expr}{tl th:TO}{p2:Pos}{r:V->Option Int->Option Int->Hp->VK->Prop}(hr:SlR X r)(he:RE X e te)(hl:RO X lo tl)(hu:RO X hi th):RE X (.Subscript e (.Slice lo hi none p2) pos) (tSl r te tl th):=⟨Xf hr he.ok hl.ok hu.ok⟩
theorem a67{f:Str}(he:RE X e ta)(hb:attributeBase e f X.env (eval e X.env)=eval e X.env:=by rfl):RE X (.Attribute e f pos) (a4H X.K ta f):=⟨a3T he.ok hb⟩
variable{k j:Nat}{ps:List Str}{sp:Sp}{E:XK}{id T:String}{r:List V->Hp->VK->Prop}{C:Addr}
theorem aY(D:Df X.prog X.w X.K X.mg X.base k x ps sp)(hr:iI j X.A)(hg:Gl X x)(hx:Passes (CXE X.prog X.w) X E)(ha:RA X (e::es) t)(hk:k<=j:=by decide)(h1:notStar e=true:=by rfl)(h2:es.all notStar=true:=by rfl)
  (hdb:(x==("__debug__" : Str))=false:=by decide):RE X (.Call (.Name x p) (e::es) [] pos) (Tf sp [] E t):=⟨a4s D hr hg hx ha.ok hk h1 h2 hdb⟩
theorem Y5(D:Df X.prog X.w X.K X.mg X.base k x ps sp)(hr:iI j X.A)(hg:Gl X x)(ha:RA X.nox (e::es) t)(hk:k<=j:=by decide)(h1:notStar e=true:=by rfl)(h2:es.all notStar=true:=by rfl)
  (hdb:(x==("__debug__" : Str))=false:=by decide):REX X (.Call (.Name x p) (e::es) [] pos) (Jz sp [] t):=⟨a1C D hr hg ha.ok hk h1 h2 hdb⟩
theorem a4t(D:Md X.prog X.w X.K X.mg X.base k x ps C sp)(hr:iI j X.A)(hg:Gl X x)(hx:Passes (CXE X.prog X.w) X E)(ha:RA X (e::es) t)(hk:k+1<=j:=by decide)(h1:notStar e=true:=by rfl)(h2:es.all notStar=true:=by rfl)
  (hdb:(x==("__debug__" : Str))=false:=by decide):RE X (.Call (.Name x p) (e::es) [] pos) (YH C sp [] E t):=⟨a1B D hr hg hx ha.ok hk h1 h2 hdb⟩
theorem aZ(hc:eE X (.builtin id) r)(hg:Gl X x)(hm:X.mg x=none)(hv:bootBuiltins x=some (.builtin id))(ha:RA X (e::es) t)(h1:notStar e=true:=by rfl)(h2:es.all notStar=true:=by rfl) (hn:x ≠ "__name__":=by decide)
  (hdb:(x==("__debug__" : Str))=false:=by decide):RE X (.Call (.Name x p) (e::es) [] pos) (tCB r t):=⟨Xu hc hg hm hv ha.ok h1 h2 hn hdb⟩
theorem jN(hc:eE X (.type T) r)(hg:Gl X x)(hm:X.mg x=none)(hv:bootBuiltins x=some (.type T))(ha:RA X (e::es) t)(h1:notStar e=true:=by rfl)(h2:es.all notStar=true:=by rfl) (hn:x ≠ "__name__":=by decide)
  (hdb:(x==("__debug__" : Str))=false:=by decide):RE X (.Call (.Name x p) (e::es) [] pos) (tCB r t):=⟨Vc hc hg hm hv ha.ok h1 h2 hn hdb⟩
theorem W8{env:Env}{cpos:Pos}:∀ {es:List Expr},es.all notStar=true->(backTo cpos (starEach es env)).all (fun x=>!x.1)=true
 |[],_=>rfl
 |e::es,h=>by
  rw[Aw,lW] at h;rw[lR h.1];show((!false)&&(backTo cpos (starEach es env)).all (fun x=>!x.1))=true;rw[W8 h.2];rfl
variable{name:Str}{apos cpos:Pos}{rm:V->List V->Hp->VK->Prop}
theorem a79(pa:PlainAttrs T)(slot:Slot T name id) (hty:typeOf (.builtin id)=pure (.type "method_descriptor")) (hm:MtR X id rm) (ho:RE X o to) (ha:RA X (e::es) t) (h1:(e::es).all notStar=true:=by rfl)
  (hbase:attributeBase o name X.env (eval o X.env)=eval o X.env:=by rfl) (hlen:decide ((e::es).length<30)=true:=by rfl) (hline:(apos.endLine==cpos.line)=true:=by rfl):RE X (.Call (.Attribute o name apos) (e::es) [] cpos) (tBM X.K T rm to t):=by
 have h1':=h1;rw[Aw,lW] at h1';refine⟨a5D pa slot hty hm ho.ok ha.ok hbase ?_ hline (lR h1'.1) (Bh h1'.2)⟩;rw[W8 h1];have:decide ((e::es).length+([]:List Keyword).length+(if([]:List Keyword).isEmpty then 0 else 1)<30)=true:=by simpa using hlen
 rw[this];rfl
theorem a66(pa:PlainAttrs T)(slot:Slot T name id) (hty:typeOf (.builtin id)=pure (.type "method_descriptor")) (hm:MtR X id rm) (ho:RE X o to)
  (hbase:attributeBase o name X.env (eval o X.env)=eval o X.env:=by rfl) (hline:(apos.endLine==cpos.line)=true:=by rfl):RE X (.Call (.Attribute o name apos) [] [] cpos) (a4G X.K T rm to):=⟨a3R pa slot hty hm ho.ok hbase hline⟩
end
section
variable{X:Cx}{tg l:Expr}{te:TE}{ta:TA}{p pos:Pos}
theorem a1H(hl:RE X l te):RI X tg l (RP X.K te):=⟨a1d hl.ok⟩
theorem a4z(hl:RE X l te):RI X tg l (a5p te):=⟨a4f hl.ok⟩
theorem fX{a:Expr} (hg:Gl X "range") (hm:X.mg "range" = none) (ha:RA X [a] ta) (hs:notStar a=true:=by rfl):RI X tg (.Call (.Name "range" p) [a] [] pos) (a2f ta):=⟨V6 hg hm ha.ok (lR hs)⟩
theorem HF{a b:Expr} (hg:Gl X "range") (hm:X.mg "range" = none) (ha:RA X [a,b] ta) (hs:notStar a=true:=by rfl) (hs2:notStar b=true:=by rfl):RI X tg (.Call (.Name "range" p) [a,b] [] pos) (a2g ta):=
 ⟨V7 hg hm ha.ok (by rw[lR hs,lR hs2];rfl) (lR hs2)⟩
theorem lF:RIf X [] Vm:=⟨a1e⟩
theorem fB{c:Expr}{t:TT}(h:RT X c t):RIf X [c] t:=⟨a1f h.ok⟩
theorem fZ{x:Str}{px:Pos}{scope:Scope}{elt iter:Expr}{ifs:List Expr}{wi:TI}{tc:TT}(ok:yW scope X.env.scope X.N x=true)(hc:X.calm=true)(hi:RI X (.Name x px) iter wi)
  (hif:∀ s H ex,RIf (jK X x scope s H ex) ifs tc) (he:∀ s H ex,RE (jK X x scope s H ex) elt te) (hs:∀ v,foldedSetIterable iter X.env v=pure v:=by intro _;rfl) :
  RE X (.ListComp elt [⟨.Name x px,iter,ifs,0⟩] scope pos) (a2u wi tc te):=⟨a0U ok hc hi.ok (fun s H ex=>(hif s H ex).ok) (fun s H ex=>(he s H ex).ok) hs⟩
end
section
variable{X:Cx}{st:Stmt}{rest body:List Stmt}{t u tb:TS}{e tg iter:Expr}{te:TE}{pos:Pos}{i:Nat}{x:Str}
theorem bO:RSs X [] a2w:=⟨a1m⟩
theorem aA(h1:RS X st t)(h2:RSs X rest u):RSs X (st::rest) (a4K t u):=⟨Xn h1.ok h2.ok⟩
theorem aD(h1:RS X st t):RSs X [st] t:=⟨a1n h1.ok⟩
theorem gb(he:RE X e te)(hs:Cd e=true:=by rfl):RS X (.Expr e pos) (a2v te):=⟨a1l he.ok (YB hs)⟩
theorem bB(he:RE X e te):RS X (.Return (some e) pos) (a6k te):=⟨a4l he.ok⟩
theorem dR{c:Expr}{a b:List Stmt}{tc:TT}(hc:RT X c tc)(ha:RSs X a t)(hb:RSs X b u):RS X (.If c a b pos) (a6f tc t u):=⟨a5L hc.ok ha.ok hb.ok⟩
theorem bx(hN:X.N.Nodup)(hi:X.N[i]?=some x)(hx:Loc X.env.scope x)(hf:X.fn x=true\/X.env.scope.names.lookup x=some .local:=by first|exact .inl rfl|exact .inr rfl|assumption):RG X (.Name x pos) (Hr i):=⟨a0Z hN hi hx hf⟩
theorem jO:RGs X [] a2Z:=⟨a1a⟩
def S8:Expr->Bool
 |.Name _ _=>true
 |.Subscript _ _ _=>true
 |_=>false
theorem a4X{es:List Expr}{env:Env}(h:S8 e=true):(assignEach (e::es) env).map (·.2)=assign e env::(assignEach es env).map (·.2):=by
 cases e<;>first|rfl|cases h
theorem cP{es:List Expr}{t:TG}{u:TGs}(h1:RG X e t)(h2:RGs X es u)(hs:S8 e=true:=by rfl):RGs X (e::es) (RL t u):=⟨Xh h1.ok h2.ok (a4X hs)⟩
theorem nQ{es:List Expr}{k:Nat}{t:TGs}{n:Nat}(hc:X.calm=true)(h:RGs X es t)(hn:(assignEach es X.env).length=n:=by rfl)(hst:(assignEach es X.env).findIdx? (·.1)=none:=by rfl):RG X (.Tuple es k pos) (a3a X.K n t):=⟨a4d hc h.ok hn hst⟩
theorem Eh{o i:Expr}{to ti:TE}{t:ZW}(ho:RE X o to)(hi:RE X i ti)(hs:ZS X t) (ha:∀ v,assign (.Subscript o i pos) X.env v=(do
   let ov <- holding [v] (eval o X.env)
   let iv <- holding [v,ov] (eval i X.env)
   standAt pos
   holding [v,ov,iv] (setItem ov iv v)
   release [v,ov,iv] []):=by intro _;rfl):RG X (.Subscript o i pos) (a5m to ti t):=⟨a4c ho.ok hi.ok hs ha⟩
theorem mz{g:TG}(he:RE X e te)(hg:RG X tg g)(hs:swapsWithSole [tg] e pos.line X.env=pure false:=by rfl)(hw:swappedStores [tg] e X.env=pure none:=by rfl)(h1:(assignEach [tg] X.env).map (·.2)=[assign tg X.env]:=by rfl):RS X (.Assign [tg] e pos) (a1R te g):=⟨a4h he.ok hg.ok hs hw h1⟩
theorem aW{pos':Pos}(hN:X.N.Nodup)(hi:X.N[i]?=some x)(hx:Loc X.env.scope x)(he:RE X e te)(hs:Cd e=true:=by rfl)(hf:X.fn x=true\/X.env.scope.names.lookup x=some .local:=by first|exact .inl rfl|exact .inr rfl|assumption) :
  RS X (.Assign [.Name x pos'] e pos) (a1R te (Hr i)):=⟨a4m hN hi hx he.ok (YB hs) hf⟩
theorem XS{j:Nat}{y:Str}{a b:Expr}{ta:TA}{px py pt:Pos} {kt k2 pt2} (hc:X.calm=true) (hN:X.N.Nodup) (hi:X.N[i]?=some x) (hj:X.N[j]?=some y) (hij:i≠j)
  (hx:X.env.scope.names.lookup x=some .local) (hy:X.env.scope.names.lookup y=some .local) (ha:RA X [a,b] ta) (hw:swappedStores [.Tuple [.Name x px,.Name y py] kt pt] (.Tuple [a,b] k2 pt2) X.env=pure (some [x,y])) :
  RS X (.Assign [.Tuple [.Name x px,.Name y py] kt pt] (.Tuple [a,b] k2 pt2) pos) (a6j i j ta):=⟨a4k hc hN hi hj hij hx hy ha.ok hw⟩
theorem cL{wi:TI}{g:TG}(hp:PassesOwn (model X.prog X.w) X.A X.env X.xe)(hc:X.calm=true)(hi:RI X tg iter wi)(hg:RG X tg g)(hb:RSs X body tb)(hs:∀ x,foldedSetIterable iter X.env x=pure x:=by intro _;rfl) :
  RS X (.For tg iter body [] pos) (a4I wi g tb):=⟨a4j hp hc hi.ok hg.ok hb.ok hs⟩
theorem Ni{c:Expr}{tc:TT}(hp:PassesOwn (model X.prog X.w) X.A X.env X.xe)(hc:RT X c tc)(hb:RSs X body tb):RS X (.While c body [] pos) (YM tc tb):=⟨Xl hp hc.ok hb.ok⟩
theorem PN{o value:Expr}{f:Str}{ta tv:TE}{pos':Pos}(ha:RE X o ta)(hv:RE X value tv)(hs:Cd value=true:=by rfl):RS X (.Assign [.Attribute o f pos'] value pos) (a6a X.K ta tv f):=⟨a4i ha.ok hv.ok (YB hs)⟩
theorem oR{y:Str}{py px spos:Pos}{scope:Scope}{elt:Expr}{ifs:List Expr}{wi:TI}{tc:TT}(hN:X.N.Nodup)(hiy:X.N[i]?=some y)(hy:X.env.scope.names.lookup y=some .local)
  (ok:yW scope X.env.scope X.N x=true) (hc:X.calm=true) (hi:RI X (.Name x px) iter wi) (hif:∀ s H ex,RIf (jK X x scope s H ex) ifs tc) (he:∀ s H ex,RE (jK X x scope s H ex) elt te)
  (hsw:swapsWith (.ListComp elt [⟨.Name x px,iter,ifs,0⟩] scope pos) (some (.Name y py)) spos.line X.env=pure true:=by rfl) (hs:∀ v,foldedSetIterable iter X.env v=pure v:=by intro _;rfl) :
  RS X (.Assign [.Name y py] (.ListComp elt [⟨.Name x px,iter,ifs,0⟩] scope pos) spos) (YD i wi tc te):=⟨a1k hN hiy hy ok hc hi.ok (fun s H ex=>(hif s H ex).ok) (fun s H ex=>(he s H ex).ok) hsw hs⟩
theorem RS.nox(h:RS X.nox st t):RS X st t:=⟨PS.nox h.ok⟩
theorem RT.nox{tt:TT}(h:RT X.nox e tt):RT X e tt:=⟨PT.nox h.ok⟩
theorem SX{te:TEX}(he:REX X e te):RSX X [.Return (some e) pos] (a2z te):=⟨a1o he.ok⟩
theorem a4y:RH X [] (fun _ _ _ _=>False):=⟨a4e⟩
theorem Ck{n:Str}{np hpos:Pos}{b₀:Stmt}{suite:List Stmt}{hrest:List ExceptHandler}{C':Addr}{ts:TS}{th:Addr->TS}(hex:X.ex=[])(hN:X.N.Nodup)(hi:X.N[i]?=some n)(hn:X.env.scope.names.lookup n=some .local)
  (hg:Gl X x) (hm:X.mg x=some (.ref C')) (c':ju X.K C') (hs:∀ ea,RSs (vY X ea) (b₀::suite) ts) (hr:RH X hrest th) (hd:(x==("__debug__" : Str))=false:=by decide) :
  RH X (.ExceptHandler (some (.Name x np)) (some n) (b₀::suite) hpos::hrest) (YQ X.K C' i ts th):=⟨a1b hex hN hi hn hg hm c' (fun ea=>(hs ea).ok) hr.ok hd⟩
theorem a4A{h₀:ExceptHandler}{hs:List ExceptHandler}{tb:TSX}{th:Addr->TS}(hst:X.stack=X.env::X.outer)(hfr:X.env.frame=some X.env.locals)(hb:RSX X body tb)(hh:RH X (h₀::hs) th) :
  RS X (.Try body (h₀::hs) [] [] pos) (a6l tb th):=⟨a4n hst hfr hb.ok hh.ok⟩
end
section
variable{P:Program}{w:World}{K:ao}{mg:Str->Option Value}{base:Heap}{N:List Str}{qual:Str}{scope:Scope}{f:Addr}{cd:Value}{A:Around}{outer:List Env}{s0:Shared}{H0:Hp}{E:XK}
theorem nR{x:Str}{np cpos pos:Pos}{e₀:Expr}{rest:List Expr}{t:TA}{C:Addr}(c:ju K C)(hg:Gl (rZ (CXE P w) P w K mg base N qual scope f cd A outer s0 H0 E) x)(hm:mg x=some (.ref C))(hh:A.handled=none)
  (ha:RA (rZ (CXE P w) P w K mg base N qual scope f cd A outer s0 H0 E) (e₀::rest) t) (h1:notStar e₀=true:=by rfl) (h2:rest.all notStar=true:=by rfl) (hd:(x==("__debug__" : Str))=false:=by decide) :
  RS (rZ (CXE P w) P w K mg base N qual scope f cd A outer s0 H0 E) (.Raise (some (.Call (.Name x np) (e₀::rest) [] cpos)) none pos) (YL t C E):=⟨Xk c hg hm hh ha.ok hd (lR h1) (Bh h2)⟩
theorem Fun.PJ{x qual:Str}{st:Stmt}{f:Addr}{fd:FuncData}{N ps:List Str}{k:Nat}{sp:Sp}(F:Fun K x qual st f fd)(S:bA N ps (aJ st))(len:∀ vs H Q E,sp vs H Q E->vs.length=ps.length)
  (hbody:∀(cdv:Value)(A:Around)(outer:List Env)(s:Shared)(H:Hp)(vs:List V)(Q:VK)(E:XK),iI k (A.deeper (envOfC qual (aJ st) s.heap.objs.size f cdv))->sp vs H Q E ->
   ∃ t,RSs (rZ (CXE P w) P w K mg base N qual (aJ st) f cdv A outer s H E) (gQ st) t/\t { nx:=fun _ H'=>Q .non H',rt:=Q } (start N vs) H):cY P w K mg base (CXE P w) (k+1) f fd ps sp:=
 F.okE S len fun cdv A outer s H vs Q E hr hsp=>let ⟨t,h,q⟩:=hbody cdv A outer s H vs Q E hr hsp;⟨t,h.ok,q⟩
theorem Fun.rok{x qual:Str}{st:Stmt}{f:Addr}{fd:FuncData}{N ps:List Str}{k:Nat}{sp:Sp}(F:Fun K x qual st f fd)(S:bA N ps (aJ st))(len:∀ vs H Q E,sp vs H Q E->vs.length=ps.length)
  (hbody:∀(cdv:Value)(A:Around)(outer:List Env)(s:Shared)(H:Hp)(vs:List V)(Q:VK)(E:XK),iI k (A.deeper (envOfC qual (aJ st) s.heap.objs.size f cdv))->sp vs H Q E ->
   ∃ t,RSs (rZ (CXE P w) P w K mg base N qual (aJ st) f cdv A outer s H E).nox (gQ st) t/\t { nx:=fun _ H'=>Q .non H',rt:=Q } (start N vs) H):cY P w K mg base (CXE P w) (k+1) f fd ps sp:=
 F.ok0 S len fun cdv A outer s H vs Q E hr hsp=>let ⟨t,h,q⟩:=hbody cdv A outer s H vs Q E hr hsp;⟨t,h.ok,q⟩
end
mutual
theorem Den.mono{K:ao}{H H':Hp}(s:Same H H'):∀ {v:V} {d:Dt},Den K H v d->Den K H' v d
 |_,_,.non=>.non
 |_,_,.bl b=>.bl b
 |_,_,.int i=>.int i
 |_,_,.str x=>.str x
 |_,_,.tup h hs=>.tup (s _ _ h) (aU.mono s hs)
 |_,_,.lst h hs=>.lst (s.seq h) (aU.mono s hs)
theorem aU.mono{K:ao}{H H':Hp}(s:Same H H'):∀ {vs:List V} {ds:List Dt},aU K H vs ds->aU K H' vs ds
 |_,_,.nil=>.nil
 |_,_,.cons h t=>.cons (Den.mono s h) (aU.mono s t)
end
theorem aU.ints{K:ao}{H:Hp}:∀ ns:List Int,aU K H (ns.map V.int) (ns.map Dt.int)
 |[]=>.nil
 |n::ns=>.cons (.int n) (aU.ints ns)
theorem aU.strs{K:ao}{H:Hp}:∀ zs:List Str,aU K H (zs.map V.str) (zs.map Dt.str)
 |[]=>.nil
 |z::zs=>.cons (.str z) (aU.strs zs)
theorem aU.Jp{K:ao}{H:Hp}:∀ {ns:List Int} {vs:List V},aU K H vs (ns.map Dt.int)->vs=ns.map V.int
 |[],_,.nil=>rfl
 |n::ns,_,.cons h t=>by cases h;rw[aU.Jp t];rfl
theorem aU.Jo{K:ao}{H:Hp}:∀ {bs:List Bool} {vs:List V},aU K H vs (bs.map Dt.bl)->vs=bs.map V.bl
 |[],_,.nil=>rfl
 |n::ns,_,.cons h t=>by cases h;rw[aU.Jo t];rfl
structure sU(J:It)(H:Hp)(vs:List V):Prop where
 go:∀ H' i,Same H H'->i<vs.length->J.go i H'
 yld:∀ H' i v H'',Same H H'->i<vs.length->J.yld i H' v H''->vs[i]?=some v/\H''=H'
 stop:∀ H',Same H H'->J.stop vs.length H'
theorem bJ{K:ao}{H:Hp}{a:Addr}{vs:List V}(h:SqL K H a vs):sU (Itl K a) H vs:=
 ⟨fun H' i s hi=>⟨vs,vs[i],s.seq h,by simp[hi]⟩,fun H' i v H'' s hi y=>⟨y.2 vs (s.seq h),y.1⟩,fun H' s=>⟨vs,s.seq h,bK _⟩⟩
theorem DW{H:Hp}(lo:Int)(n:Nat):sU (Itr lo n) H (((List.range n).map fun i:Nat=>lo+(i:Int)).map V.int):=by
 have hl:(((List.range n).map fun i:Nat=>lo+(i:Int)).map V.int).length=n:=by simp
 refine⟨fun H' i _ hi=>?_,fun H' i v H'' _ hi y=>⟨?_,y.1⟩,fun H' _=>?_⟩
 ·rw[hl] at hi;exact hi
 ·rw[hl] at hi;rw[y.2];simp[hi]
 ·rw[hl];exact bK _
theorem X7{H:Hp}(z:Str):sU (Its z) H ((z.cps.toList.map fun c=>(⟨#[c]⟩:Str)).map V.str):=by
 have hl:((z.cps.toList.map fun c=>(⟨#[c]⟩:Str)).map V.str).length=z.cps.size:=by simp
 refine⟨fun H' i _ hi=>?_,fun H' i v H'' _ hi y=>?_,fun H' _=>?_⟩
 ·rw[hl] at hi;exact hi
 ·rw[hl] at hi;obtain⟨e,c,ec,y⟩:=y;have:z.cps.toList[i]?=some c:=by simpa using ec
  exact⟨by rw[y];simp[this],e⟩
 ·rw[hl];exact bK _
theorem dG{α:Type}{K:ao}{J:It}{H:Hp}{vs:List V}{xs:List α}{enc:α->Dt}{tc:TT}{te:TE}{zzs:St}{fin:List V->Hp->Prop}(hJ:sU J H vs)(hx:aU K H vs (xs.map enc))(hn:xs.length<=sizeLine)(p:α->Bool)(f:α->Dt)
  (ht:∀ a∈xs,∀ v H',Same H H'->Den K H' v (enc a)->∀ G:Bool->Hp->Prop,(∀ H'',Same H' H''->G (p a) H'')->tc (some v::zzs) H' G)
  (hf:∀ a∈xs,p a=true->∀ v H',Same H H'->Den K H' v (enc a)->∀ G:VK,(∀ y H'',Same H' H''->Den K H'' y (f a)->G y H'')->te (some v::zzs) H' G)
  (hd:∀ ys H',Same H H'->aU K H' ys ((xs.filter p).map f)->fin ys H'):∃ W:Nat->Nat->List V->Hp->Prop,(∃ m,W 0 m [] H)/\sJ J tc te zzs fin W:=by
 have hlv:vs.length=xs.length:=by rw[hx.length,aR]
 refine Rt (n:=vs.length) (item:=fun i=>vs.getD i .non) (fun i ys H'=>Same H H'/\aU K H' ys (((xs.take i).filter p).map f)) (by rw[hlv];exact hn) (fun i ys H' hi r=>hJ.go H' i r.1 hi) (fun i ys H' v H'' hi r y=>?_) (fun ys H' r=>hJ.stop H' r.1)
  (fun i ys H' hi r=>?_) ⟨Same.refl _,.nil⟩ (fun i ys H' hi r G hG=>?_) (fun ys H' r=>?_)
 ·obtain⟨e,e'⟩:=hJ.yld H' i v H'' r.1 hi y;exact⟨by rw[gO,e];rfl,e'⟩
 ·rw[r.2.length,aR];exact cX (iQ _ _) (by rw[jr];exact Nat.min_le_left _ _)
 ·obtain⟨s1,D⟩:=r;have hi':i<xs.length:=by lia
  have ev:vs[i]?=some (vs.getD i .non):=by simp[gO,hi]
  obtain⟨d,ed,dv⟩:=hx.get ev;have ea:d=enc xs[i]:=by
   rw[cQ,gj hi'] at ed;exact(iu ed).symm
  subst ea;have tk:xs.take (i+1)=xs.take i++[xs[i]]:=by rw[iT,gj hi'];rfl
  refine ht xs[i] (oG hi') _ H' s1 (dv.mono s1) _ fun H2 s2=>?_
  cases hp:p xs[i] with
  |false=>
   refine qN (hG _ _ ⟨s1.trans s2,?_⟩);rw[tk,uK,show List.filter p [xs[i]]=[] by simp[hp],rT];exact D.mono s2
  |true=>
   refine zj (hf xs[i] (oG hi') hp _ H2 (s1.trans s2) (dv.mono (s1.trans s2)) _ fun y H3 s3 dy=>hG _ _ ⟨(s1.trans s2).trans s3,?_⟩);rw[tk,uK,show List.filter p [xs[i]]=[xs[i]] by simp[hp],dM];exact(D.mono (s2.trans s3)).append (.cons dy .nil)
 ·rw[hlv,gY] at r;exact hd ys H' r.1 r.2
theorem comp_map{α:Type}{K:ao}{J:It}{H:Hp}{vs:List V}{xs:List α}{enc:α->Dt}{te:TE}{zzs:St}{fin:List V->Hp->Prop}(hJ:sU J H vs)(hx:aU K H vs (xs.map enc))(hn:xs.length<=sizeLine)(f:α->Dt)
  (hf:∀ a∈xs,∀ v H',Same H H'->Den K H' v (enc a)->∀ G:VK,(∀ y H'',Same H' H''->Den K H'' y (f a)->G y H'')->te (some v::zzs) H' G)
  (hd:∀ ys H',Same H H'->aU K H' ys (xs.map f)->fin ys H'):∃ W:Nat->Nat->List V->Hp->Prop,(∃ m,W 0 m [] H)/\sJ J Vm te zzs fin W:=
 dG hJ hx hn (fun _=>true) f (fun a _ v H' _ _ G hG=>hG H' (Same.refl _)) (fun a ha _=>hf a ha) fun ys H' s D=>hd ys H' s (by rw[JZ.mpr (fun _ _=>rfl)] at D;exact D)
section
variable{X:Cx}{K:ao}
theorem jZ(hu:X.A.units+60<cLine)(hK:X.K=K:=by rfl):OpR X (compareOp .Eq) (Vd K false):=by subst hK;exact a3K hu
theorem M7(hu:X.A.units+60<cLine)(hK:X.K=K:=by rfl):OpR X (compareOp .NotEq) (Vd K true):=by subst hK;exact a3O hu
theorem nH(hu:X.A.units+61<cLine)(hK:X.K=K:=by rfl):OpR X (compareOp .In) (Py K false):=by subst hK;exact a3M hu
theorem lM(hu:X.A.units+61<cLine)(hK:X.K=K:=by rfl):OpR X (compareOp .NotIn) (Py K true):=by subst hK;exact V2 hu
theorem cV(hK:X.K=K:=by rfl):IxR X (rIx K):=by subst hK;exact a3g
def a2m(K:ao):List V->Hp->VK->Prop:=fun xs H Q=>(∃ p ys,xs=[.ref p]/\(SqL K H p ys\/SqT K H p ys)/\Q (.int ys.length) H)\/(∃ z,xs=[.str z]/\z.length<=sizeLine/\Q (.int z.length) H)
theorem eZ(hK:X.K=K:=by rfl):eE X (.builtin "len") (a2m K):=by subst hK;exact Iw.or Iz
def a78(K:ao):V->Option Int->Option Int->Hp->VK->Prop:=fun x lo hi H Q=>a5Z K x lo hi H Q\/a65 x lo hi H Q
theorem Wn(hK:X.K=K:=by rfl):SlR X (a78 K):=by subst hK;exact a1P.or a4F
def a1D(K:ao):List V->Hp->VK->Prop:=fun xs H Q=>∃ p ys,xs=[.ref p]/\(SqL K H p ys\/SqT K H p ys)/\∀ l,H l=none->Q (.ref l) (upd H l (.lst ys))
theorem Wm(hK:X.K=K:=by rfl):eE X (.type "list") (a1D K):=by subst hK;exact IK
def a5M(K:ao):List V->Hp->VK->Prop:=fun xs H Q=>∃(p:Addr)(bs:List Bool),xs=[.ref p]/\SqL K H p (bs.map V.bl)/\Q (.bl (bs.all id)) H
theorem k_all(hc:X.calm=true)(hK:X.K=K:=by rfl):eE X (.builtin "all") (a5M K):=by subst hK;exact Vz hc
end
section
variable{X:Cx}{K:ao}{tg l e o:Expr}{es:List Expr}{te ta to:TE}{t:TA}{pos apos cpos:Pos}{f name:Str}{T id:String}{rm:V->List V->Hp->VK->Prop}
theorem aV(hl:RE X l te)(hK:X.K=K:=by rfl):RI X tg l (RP K te):=by subst hK;exact a1H hl
theorem qO(he:RE X e ta)(hK:X.K=K:=by rfl)(hb:attributeBase e f X.env (eval e X.env)=eval e X.env:=by rfl):RE X (.Attribute e f pos) (a4H K ta f):=by subst hK;exact a67 he hb
theorem kh(pa:PlainAttrs T)(slot:Slot T name id) (hty:typeOf (.builtin id)=pure (.type "method_descriptor")) (hm:MtR X id rm) (ho:RE X o to) (ha:RA X (e::es) t) (hK:X.K=K:=by rfl) (h1:(e::es).all notStar=true:=by rfl)
  (hbase:attributeBase o name X.env (eval o X.env)=eval o X.env:=by rfl) (hlen:decide ((e::es).length<30)=true:=by rfl) (hline:(apos.endLine==cpos.line)=true:=by rfl):RE X (.Call (.Attribute o name apos) (e::es) [] cpos) (tBM K T rm to t):=by
 subst hK;exact a79 pa slot hty hm ho ha h1 hbase hlen hline
theorem a3q(pa:PlainAttrs T)(slot:Slot T name id) (hty:typeOf (.builtin id)=pure (.type "method_descriptor")) (hm:MtR X id rm) (ho:RE X o to) (hK:X.K=K:=by rfl)
  (hbase:attributeBase o name X.env (eval o X.env)=eval o X.env:=by rfl) (hline:(apos.endLine==cpos.line)=true:=by rfl):RE X (.Call (.Attribute o name apos) [] [] cpos) (a4G K T rm to):=by
 subst hK;exact a66 pa slot hty hm ho hbase hline
end
theorem cJ:bootBuiltins "len" = some (.builtin "len"):=by decide +kernel
theorem O8:bootBuiltins "all" = some (.builtin "all"):=by decide +kernel
theorem iV:bootBuiltins "isinstance" = some (.builtin "isinstance"):=by decide +kernel
theorem pI:bootBuiltins "sorted" = some (.builtin "sorted"):=by decide +kernel
theorem Iv:bootBuiltins "min" = some (.builtin "min"):=by decide +kernel
theorem O9:bootBuiltins "max" = some (.builtin "max"):=by decide +kernel
theorem CG:bootBuiltins "int" = some (.type "int"):=by decide +kernel
theorem a2F:bootBuiltins "str" = some (.type "str"):=by decide +kernel
theorem Iu:bootBuiltins "list" = some (.type "list"):=by decide +kernel
theorem Vy:bootBuiltins "tuple" = some (.type "tuple"):=by decide +kernel
theorem a2E:bootBuiltins "set" = some (.type "set"):=by decide +kernel
theorem Ir:bootBuiltins "enumerate" = some (.type "enumerate"):=by decide +kernel
theorem aC{t u:TS}{D:Ends}{zzs:L2.St}{H:Hp}(Mid:L2.St->Hp->Prop)(h:∀ R:L2.St->Hp->Prop,(∀ bT H',Mid bT H'->R bT H')->t { D with nx:=R } zzs H)(k:∀ bT H',Mid bT H'->u D bT H'):a4K t u D zzs H:=h (u D) k
theorem sz{n:Nat}(h:Nat.ble n 10000=true):n<=sizeLine:=small (Qs h)
theorem Bc{i j:Int}:decide (V.int i=V.int j)=decide (i=j):=by simp
theorem eF{α:Type}{x:α}{xs:List α}:atI (x::xs) 0=some x:=fP (j:=0) rfl
theorem M5{A:Around}{k:Nat}{env:Env}(hr:iI k (A.deeper env)):A.handled=none:=hr.hd
theorem dD{b:Bool}{A Bq:Prop}(h1:b=true->A)(h2:b=false->Bq):if b=true then A else Bq:=by
 cases b with
 |true=>exact zj (h1 rfl)
 |false=>exact qN (h2 rfl)
theorem La{l n m:Int}{te:TE}{zzs:L2.St}{H:Hp}{G:Bool->Hp->Prop}(he:∀ Q':VK,Q' (.int m) H->te zzs H Q')(hg:G (decide (l<=n/\n<m)) H) :
  if decide (l<=n)=true then te zzs H (fun w' H4=>rI0 (fun i j=>.bl (decide (i<j))) (.int n) w' H4 fun x H'=>∃ k,x=.bl k/\G k H') else ∃ k,V.bl false=.bl k/\G k H:=by
 refine Gn (fun h1=>he _ ⟨_,_,rfl,rfl,_,rfl,?_⟩) (fun h1=>⟨_,rfl,?_⟩)
 ·have h1':=cI h1;have e:decide (l<=n/\n<m)=decide (n<m):=by simp[h1']
  rw[<- e];exact hg
 ·have e:decide (l<=n/\n<m)=false:=cG fun h=>h1 (bR h.1)
  rw[<- e];exact hg
theorem GP{l n m:Int}{te:TE}{zzs:L2.St}{H:Hp}{G:VK}(he:∀ Q':VK,Q' (.int m) H->te zzs H Q')(hg:G (.bl (decide (l<=n/\n<m))) H) :
  if decide (l<=n)=true then te zzs H (fun w' H4=>rI0 (fun i j=>.bl (decide (i<j))) (.int n) w' H4 G) else G (.bl false) H:=by
 refine Gn (fun h1=>he _ ⟨_,_,rfl,rfl,?_⟩) (fun h1=>?_)
 ·have h1':=cI h1;have e:decide (l<=n/\n<m)=decide (n<m):=by simp[h1']
  show G (.bl (decide (n<m))) H;rw[<- e];exact hg
 ·have e:decide (l<=n/\n<m)=false:=cG fun h=>h1 (bR h.1)
  rw[<- e];exact hg
abbrev Cell:=Int×Int
def aB(x:Cell):Dt:=.tup [.int x.1,.int x.2]
theorem LC(a b:Cell):eqD (aB a) (aB b)=decide (a=b):=by
 have e1:eqD (.int a.1) (.int b.1)=decide (a.1=b.1):=by rw[tG rfl rfl];exact(Qt _ _)
 have e2:eqD (.int a.2) (.int b.2)=decide (a.2=b.2):=by rw[tG rfl rfl];exact(Qt _ _)
 show(eqD (.int a.1) (.int b.1)&&(eqD (.int a.2) (.int b.2)&&true))=_;rw[e1,e2,Kl];by_cases h1:a.1=b.1<;>by_cases h2:a.2=b.2<;>simp[h1,h2,Prod.ext_iff]
theorem Dh(a:Cell):vq (aB a)<=50:=Qs rfl
theorem Cr(x:Cell):∀ cs:List Cell,((cs.map aB).any fun e=>eqD e (aB x))=decide (x∈cs)
 |[]=>by simp
 |c::cs=>by
  rw[gq,wV,LC,Cr x cs];by_cases h:c=x<;>by_cases h2:x∈cs<;>simp[h,h2,eq_comm]
  intro e;exact absurd e.symm h
def Ls(K:ao)(H:Hp)(p:Addr)(ds:List Dt):Prop:=∃ xs,H p=some (.lst xs)/\aU K H xs ds
theorem Ls.den{K:ao}{H:Hp}{p:Addr}{ds:List Dt}(h:Ls K H p ds):Den K H (.ref p) (.lst ds):=let ⟨_,e,D⟩:=h;.lst (SqL.of e) D
theorem Ls.mono{K:ao}{H H':Hp}{p:Addr}{ds:List Dt}(h:Ls K H p ds)(s:Same H H'):Ls K H' p ds:=let ⟨xs,e,D⟩:=h;⟨xs,s _ _ e,D.mono s⟩
theorem Ls.new{K:ao}{H:Hp}{p:Addr}{xs:List V}{ds:List Dt}(hp:H p=none)(D:aU K H xs ds):Ls K (upd H p (.lst xs)) p ds:=⟨xs,au,D.mono (Same.put hp)⟩
structure Fr(K:ao)(H H':Hp)(p:Addr)(ds:List Dt):Prop where
 same:Same H H'
 new:H p=none
 ls:Ls K H' p ds
theorem fY{K:ao}{H:Hp}{v:V}{x:Cell}(h:Den K H v (aB x)):∃ a,v=.ref a/\SqT K H a [.int x.1,.int x.2]/\H a=some (.tup [.int x.1,.int x.2]):=by
 cases h with
 |tup ht hs=>
  cases hs with
  |cons h1 hs=>
   cases hs with
   |cons h2 hs=>
    cases hs;cases h1;cases h2;exact⟨_,rfl,SqT.of ht,ht⟩
theorem iK{K:ao}{H:Hp}{p:Addr}{a b:Int}:Den K (upd H p (.tup [.int a,.int b])) (.ref p) (aB (a,b)):=.tup au (.cons (.int _) (.cons (.int _) .nil))
section
variable{K:ao}{H:Hp}{v:V}{x:Cell}{p:Addr}{cs:List Cell}{Q:VK}
theorem qU(d:Den K H v (aB x))(q:Q (.int x.1) H):rIx K v (.int 0) H Q:=by
 obtain⟨a,rfl,h,_⟩:=fY d;exact .inr (.inl ⟨a,_,_,_,rfl,rfl,h,eF,q⟩)
theorem qW(d:Den K H v (aB x))(q:Q (.int x.2) H):rIx K v (.int 1) H Q:=by
 obtain⟨a,rfl,h,_⟩:=fY d;exact .inr (.inl ⟨a,_,_,_,rfl,rfl,h,fP (j:=1) rfl,q⟩)
theorem vI(d:Den K H v (aB x))(h:Den K H (.ref p) (.lst (cs.map aB)))(q:Q (.bl (decide (x∈cs))) H):Py K false v (.ref p) H Q:=by
 refine⟨aB x,cs.map aB,p,rfl,d,.inl h,fun e he=>?_,?_⟩
 ·obtain⟨c,_,rfl⟩:=cu.mp he;exact⟨rfl,Dh c⟩
 ·show Q (.bl ((cs.map aB).any fun e=>eqD e (aB x))) H;rw[Cr];exact q
theorem nP(d:Den K H v (aB x))(h:Den K H (.ref p) (.lst (cs.map aB)))(q:Q (.bl (!decide (x∈cs))) H):Py K true v (.ref p) H Q:=by
 refine⟨aB x,cs.map aB,p,rfl,d,.inl h,fun e he=>?_,?_⟩
 ·obtain⟨c,_,rfl⟩:=cu.mp he;exact⟨rfl,Dh c⟩
 ·show Q (.bl (!(cs.map aB).any fun e=>eqD e (aB x))) H;rw[Cr];exact q
theorem nO{ds:List Dt}(h:Den K H (.ref p) (.lst ds))(q:Q (.int ds.length) H):a2m K [.ref p] H Q:=by
 cases h with
 |lst hl D=>exact .inl ⟨p,_,rfl,.inl hl,by rw[D.length];exact q⟩
theorem a4w{zzs:L2.St}{i j:Nat}{N:L2.St->Hp->Prop}(d:Den K H v (aB x))(q:N ((zzs.set i (some (.int x.1))).set j (some (.int x.2))) H):a3a K 2 (RL (Hr i) (RL (Hr j) a2Z)) v zzs H N:=by
 obtain⟨a,rfl,h,_⟩:=fY d;exact⟨a,_,rfl,h,rfl,_,_,rfl,_,_,rfl,rfl,q⟩
theorem zH{q':Addr}{ds es:List Dt}(h:Ls K H p ds)(h2:Ls K H q' es)(hz:ds.length+es.length<=10000)(q:∀ r H',Fr K H H' r (ds++es)->Q (.ref r) H'):MK (.ref p) (.ref q') H Q:=by
 obtain⟨xs,e,D⟩:=h;obtain⟨ys,e2,D2⟩:=h2;exact⟨xs,ys,e,e2,by rw[D.length,D2.length];exact small hz,fun r hr=>q r _ ⟨Same.put hr,hr,.new hr (D.append D2)⟩⟩
end
def inF(h w:Int)(x:Cell):Prop:=(0<=x.1/\x.1<h)/\(0<=x.2/\x.2<w)
instance(h w:Int)(x:Cell):Decidable (inF h w x):=by unfold inF;infer_instance
def offs:List Cell:=[(-1,-1),(-1,0),(-1,1),(0,-1),(0,1),(1,-1),(1,0),(1,1)]
def bQ(h w:Int)(x:Cell):List Cell:=(offs.map fun d=>(x.1+d.1,x.2+d.2)).filter fun y=>decide (inF h w y)
def cB(h w:Nat):List Cell:=(List.range h).flatMap fun r:Nat=>(List.range w).map fun c:Nat=>((r:Int),(c:Int))
def xr(h w:Int)(st:List Cell)(x:Cell):Nat:=((bQ h w x).filter fun y=>decide (y∈st)).length
def inS(sg:Str)(c:Nat):Bool:=!(Builtin.Str.occurrences sg ⟨#[c]⟩ 0 sg.length 1).isEmpty
def codeAt(zs:List Str)(x:Nat×Nat):Nat:=(zs.getD x.1 Str.empty).cps.getD x.2 0
def bH(zs:List Str)(w:Nat)(sg:Str):List Cell:=(List.range zs.length).flatMap fun r:Nat=>((List.range w).filter fun c=>inS sg (codeAt zs (r,c))).map fun c:Nat=>((r:Int),(c:Int))
structure Rect(zs:List Str)(w:Nat):Prop where
 ne:1<=zs.length
 le:zs.length<=6
 w1:1<=w
 w6:w<=6
 len:∀ z∈zs,z.length=w
theorem Rect.head{zs:List Str}{w:Nat}(h:Rect zs w):∃ z zt,zs=z::zt/\z.length=w:=by
 cases zs with
 |nil=>exact absurd h.ne (by decide)
 |cons z zt=>exact⟨z,zt,rfl,h.len z dY⟩
def SameBut(p:Addr)(H H':Hp):Prop:=∀ b o,H b=some o->b≠p->H' b=some o
theorem SameBut.refl(p:Addr)(H:Hp):SameBut p H H:=fun _ _ e _=>e
theorem SameBut.trans{p:Addr}{H H1 H2:Hp}(a:SameBut p H H1)(b:SameBut p H1 H2):SameBut p H H2:=fun c o e n=>b c o (a c o e n) n
theorem Same.but{H H':Hp}(s:Same H H')(p:Addr):SameBut p H H':=fun b o e _=>s b o e
theorem SameBut.put{p:Addr}{H H':Hp}{o:HO}(s:SameBut p H H'):SameBut p H (upd H' p o):=fun b u e n=>by rw[bD n];exact s b u e n
theorem SameBut.and{p q:Addr}{H H':Hp}{o:HO}(s:SameBut p H H')(hq:H' q=none):SameBut p H (upd H' q o):=fun b u e n=>(Same.put hq) b u (s b u e n)
theorem SameBut.of{p:Addr}{H H0 H':Hp}(s:SameBut p H0 H')(a:Same H H0)(np:H p=none):Same H H':=fun b o e=>s b o (a b o e) (bV e np)
section
variable{K:ao}{p:Addr}{H H':Hp}{l:List V}
theorem SameBut.seq{a:Addr}{xs:List V}(s:SameBut p H H')(ha:H a=some (.lst xs))(n:a≠p):SqL K H' a xs:=SqL.of (s _ _ ha n)
theorem SameBut.cell{v:V}{x:Cell}(s:SameBut p H H')(hp:H p=some (.lst l))(h:Den K H v (aB x)):Den K H' v (aB x):=by
 obtain⟨a,rfl,_,ht⟩:=fY h;exact .tup (s _ _ ht (pW ht hp (by intro z;cases z))) (.cons (.int _) (.cons (.int _) .nil))
theorem SameBut.cells(s:SameBut p H H')(hp:H p=some (.lst l)):∀ {vs:List V} {cs:List Cell},aU K H vs (cs.map aB)->aU K H' vs (cs.map aB):=by
 intro vs cs D
 induction cs generalizing vs with
 |nil=>cases D;exact .nil
 |cons c cs ih=>cases D with|cons h t=>exact .cons (s.cell hp h) (ih t)
theorem SameBut.ls{q:Addr}{cs:List Cell}(s:SameBut p H H')(hp:H p=some (.lst l))(n:q≠p)(h:Ls K H q (cs.map aB)):Ls K H' q (cs.map aB):=let ⟨xs,e,D⟩:=h;⟨xs,s _ _ e n,s.cells hp D⟩
end
theorem jz{K:ao}{ta tb:TE}{tr:TA}{zzs:L2.St}{H:Hp}{Q:List V->Hp->Prop}(a b:Int)(ha:∀ Q':VK,Q' (.int a) H->ta zzs H Q')(hb:∀ Q':VK,Q' (.int b) H->tb zzs H Q')
  (h:∀ v H',Same H H'->Den K H' v (aB (a,b))->tr zzs H' fun xs H2=>Q (v::xs) H2):uh (a4L (uh ta (uh tb jF))) tr zzs H Q:=
 ha _ (hb _ ⟨sz rfl,fun p hp=>h _ _ (Same.put hp) iK⟩)
theorem Wa{K:ao}{ta:TA}{g:TG}{tb:TS}{D:Ends}{zzs:L2.St}{H:Hp}
  (h:ta zzs H fun xs H1=>xs.length<=sizeLine/\∀ p,H1 p=none->∃ a,V.ref p=.ref a/\(∃ ys,SqL K (upd H1 p (.lst xs)) a ys)/\∃ W:Nat->Nat->L2.St->Hp->Prop,(∃ m,W 0 m zzs (upd H1 p (.lst xs)))/\∀ i m zzs H,W i m zzs H ->
   ((Itl K a).stop i H/\D.nx zzs H)\/((Itl K a).go i H/\∃ N:L2.St->Hp->Prop,(∀ bT H',N bT H'->∃ m',m'<m/\W (i+1) m' bT H')/\∀ x H',(Itl K a).yld i H x H'->g x zzs H' fun wY H2=>tb { D with nx:=N,ct:=N,bk:=D.nx } wY H2)) :
  a4I (RP K (a4J ta)) g tb D zzs H:=h
theorem ltl{n:Nat}(h:n<10000):n<sizeLine:=jj h (by rw[oX];decide)
theorem jC{K:ao}{p:Addr}{H:Hp}{l:List V}{v:V}{Q:VK}(hp:H p=some (.lst l))(hz:l.length<10000)(q:Q .non (upd H p (.lst (l++[v])))):Sq (.ref p) [v] H Q:=
 ⟨p,l,v,rfl,rfl,hp,jj hz (by rw[oX];decide),q⟩
theorem O7{zs:List Str}{r:Nat}(h:r<zs.length):atI (zs.map V.str) (r:Int)=some (.str (zs.getD r Str.empty)):=fP (by simp[gO,h])
theorem a02{z:Str}{c:Nat}(h:c<z.length):atI z.cps.toList (c:Int)=some (z.cps.getD c 0):=by
 have h':c<z.cps.size:=h;exact fP (by simp[oF,h'])
theorem Rect.row{zs:List Str}{w r:Nat}(h:Rect zs w)(hr:r<zs.length):(zs.getD r Str.empty).length=w:=by
 have e:zs.getD r Str.empty=zs[r]:=by simp[gO,hr]
 rw[e];exact h.len _ (oG hr)
theorem xT{K:ao}{H:Hp}{p:Addr}{zs:List Str}{w r c:Nat}{Q:VK}(hS:SqL K H p (zs.map V.str))(rc:Rect zs w)(hr:r<zs.length)(hc:c<w)(q:Q (.str ⟨#[codeAt zs (r,c)]⟩) H):rIx K (.str (zs.getD r Str.empty)) (.int (c:Int)) H Q:=by
 have e:=rc.row hr;exact .inr (.inr ⟨_,_,_,rfl,rfl,small (by have:=rc.w6;lia),a02 (by lia),q⟩)
theorem Ef{K:ao}{H:Hp}{p:Addr}{zs:List Str}{r:Nat}{Q:VK}(hS:SqL K H p (zs.map V.str))(hr:r<zs.length)(q:Q (.str (zs.getD r Str.empty)) H):rIx K (.ref p) (.int (r:Int)) H Q:=
 .inl ⟨p,_,_,_,rfl,rfl,hS,O7 hr,q⟩
theorem tQ{H:Hp}(n:Nat):sU (Itr 0 n) H ((List.range n).map fun i:Nat=>V.int (i:Int)):=by
 have h:=DW (H:=H) 0 n;have e:(((List.range n).map fun i:Nat=>(0:Int)+(i:Int)).map V.int)=(List.range n).map fun i:Nat=>V.int (i:Int):=by
  rw[jY];refine wM fun i _=>?_
  simp
 rw[e] at h;exact h
theorem aU.nats{K:ao}{H:Hp}:∀ l:List Nat,aU K H (l.map fun i:Nat=>V.int (i:Int)) (l.map fun i:Nat=>Dt.int (i:Int))
 |[]=>.nil
 |_::l=>.cons (.int _) (aU.nats l)
theorem dI{h w:Nat}{x:Cell}:x∈cB h w↔inF h w x:=by
 unfold cB inF;rw[List.mem_flatMap];constructor
 ·rintro⟨r,hr,hx⟩;obtain⟨c,hc,rfl⟩:=cu.mp hx;rw[fK] at hr hc;exact⟨⟨by show(0:Int)<=(r:Int);lia,by show(r:Int)<h;lia⟩,⟨by show(0:Int)<=(c:Int);lia,by show(c:Int)<w;lia⟩⟩
 ·rintro⟨⟨a,b⟩,⟨c,d⟩⟩;refine⟨x.1.toNat,fK.mpr (by lia),cu.mpr ⟨x.2.toNat,fK.mpr (by lia),?_⟩⟩;exact mJ (by show((x.1.toNat:Nat):Int)=x.1;lia) (by show((x.2.toNat:Nat):Int)=x.2;lia)
theorem qK(h w:Nat):cB (h+1) w=cB h w++(List.range w).map fun c:Nat=>((h:Int),(c:Int)):=by
 unfold cB;rw[vP,Ab];simp
theorem gB(h w:Nat):(cB h w).length=h*w:=by
 induction h with
 |zero=>simp[cB]
 |succ h ih=>rw[qK,c7,ih,aR,jX,Kp]
theorem fW(h w:Int)(x:Cell):(bQ h w x).length<=8:=by
 unfold bQ;exact cX (iQ _ _) (by rw[aR];decide)
theorem RD(h w:Int)(st:List Cell)(x:Cell):xr h w st x<=8:=cX (iQ _ _) (fW h w x)
theorem tM{h w:Int}{x y:Cell}(hy:y∈bQ h w x):inF h w y:=by
 unfold bQ at hy;exact cI (cC.mp hy).2
theorem GJ(zs:List Str)(w:Nat)(sg:Str):(bH zs w sg).length<=zs.length*w:=by
 unfold bH;have go:∀ n,((List.range n).flatMap fun r:Nat=>((List.range w).filter fun c=>inS sg (codeAt zs (r,c))).map fun c:Nat=>((r:Int),(c:Int))).length<=n*w:=by
  intro n
  induction n with
  |zero=>simp
  |succ n ih=>
   rw[vP,Ab,c7,Kp];refine Nat.add_le_add ih ?_;simp only[Ae,List.flatMap_nil,rT,aR];exact cX (iQ _ _) (by rw[jX];exact bK _)
 exact go _
def yV(zs:List Str)(w:Nat)(sg:Str)(n:Nat):List Cell:=(List.range n).flatMap fun r:Nat=>((List.range w).filter fun c=>inS sg (codeAt zs (r,c))).map fun c:Nat=>((r:Int),(c:Int))
theorem Ba(zs:List Str)(w:Nat)(sg:Str)(n:Nat):yV zs w sg (n+1)=yV zs w sg n++((List.range w).filter fun c=>inS sg (codeAt zs (n,c))).map fun c:Nat=>((n:Int),(c:Int)):=by
 unfold yV;rw[vP,Ab];simp
theorem Oe(zs:List Str)(w:Nat)(sg:Str):∀ n,(yV zs w sg n).length<=n*w:=by
 intro n
 induction n with
 |zero=>simp[yV]
 |succ n ih=>
  rw[Ba,c7,Kp,aR];exact Nat.add_le_add ih (cX (iQ _ _) (by rw[jX];exact bK _))
def Qc(h w:Int)(st kn:List Cell)(x:Cell):Nat:=if x∈kn then 48+xr h w st x else 35
def vB(h w:Int)(st kn:List Cell)(r:Int)(n:Nat):Str:=⟨((List.range n).map fun c:Nat=>Qc h w st kn (r,(c:Int))).toArray⟩
def zV(h w:Nat)(st kn:List Cell):List Str:=(List.range h).map fun r:Nat=>vB h w st kn (r:Int) w
theorem XQ(h w:Int)(st kn:List Cell)(r:Int)(n:Nat):vB h w st kn r (n+1)=vB h w st kn r n++⟨#[Qc h w st kn (r,(n:Int))]⟩:=by
 unfold vB;rw[vP,dM];show(⟨_⟩:Str)=⟨_++_⟩;simp
theorem SQ(h w:Int)(st kn:List Cell)(r:Int)(n:Nat):(vB h w st kn r n).length=n:=by
 show(((List.range n).map fun c:Nat=>Qc h w st kn (r,(c:Int))).toArray).size=n;simp
theorem dig:∀ n,n<=8->(Str.ofString (toString ((n:Nat):Int)):Str)=⟨#[48+n]⟩:=by
 intro n hn;have:=(by decide +kernel:∀ k∈List.range 9,(Str.ofString (toString ((k:Nat):Int)):Str)=⟨#[48+k]⟩)
 exact this n (fK.mpr (by lia))
theorem a0d(n:Nat)(h:n<=8):((n:Nat):Int).natAbs.log2<1920:=by
 have e:((n:Nat):Int).natAbs=n:=Int.natAbs_natCast n;rw[e];have:=(by decide:∀ k∈List.range 9,k.log2<1920)
 exact this n (fK.mpr (by lia))
inductive Reach(h w:Int)(st kn:List Cell)(x0:Cell):Cell->Prop
 |base:Reach h w st kn x0 x0
 |step {x y:Cell}:Reach h w st kn x0 x->xr h w st x=0->y∈bQ h w x->y∉kn->Reach h w st kn x0 y
theorem W9{h w:Int}{st:List Cell}{x y:Cell}(e:xr h w st x=0)(hy:y∈bQ h w x):y∉st:=by
 unfold xr at e;intro hs;have:=Fe.mp e;have m:y∈(bQ h w x).filter fun y=>decide (y∈st):=cC.mpr ⟨hy,bR hs⟩
 rw[this] at m;cases m
theorem Reach.inF{h w:Int}{st kn:List Cell}{x0 y:Cell}(h0:inF h w x0)(r:Reach h w st kn x0 y):L2.inF h w y:=by
 induction r with
 |base=>exact h0
 |step _ _ hy _ _=>exact tM hy
theorem Reach.free{h w:Int}{st kn:List Cell}{x0 y:Cell}(h0:x0∉st)(r:Reach h w st kn x0 y):y∉st:=by
 induction r with
 |base=>exact h0
 |step _ e hy _ _=>exact W9 e hy
theorem Reach.new{h w:Int}{st kn:List Cell}{x0 y:Cell}(h0:x0∉kn)(r:Reach h w st kn x0 y):y∉kn:=by
 cases r with
 |base=>exact h0
 |step _ _ _ hk=>exact hk
theorem Mh(h w:Int)(x:Cell):(bQ h w x).Nodup:=by
 unfold bQ;refine QF QB ?_;unfold List.Nodup;rw[QM];have o:offs.Pairwise (·≠·):=by decide
 refine o.imp fun {a b} hab e=>hab ?_
 have e1:=congrArg Prod.fst e;have e2:=congrArg Prod.snd e;simp only at e1 e2;exact mJ (by lia) (by lia)
theorem lO{α:Type} [DecidableEq α]:∀ {l1 l2:List α},l1.Nodup->(∀ x∈l1,x∈l2)->l1.length<=l2.length
 |[],_,_,_=>j7 _
 |a::l1,l2,hn,hs=>by
  have ha:=hs a dY;have hn':=Aj.mp hn;have ih:=lO (l1:=l1) (l2:=l2.erase a) hn'.2 fun x hx=>(List.mem_erase_of_ne (fun e:x=a=>hn'.1 (by rw[<- e];exact hx))).mpr (hs x (fU _ hx))
  rw[List.length_erase_of_mem ha] at ih;have:0<l2.length:=Zm ha;rw[iR];lia
structure oK(h w:Int)(st kn:List Cell)(x0:Cell)(cs:List Cell)(at_:Nat):Prop where
 nd:cs.Nodup
 has:x0∈cs
 rch:∀ y∈cs,Reach h w st kn x0 y
 le:at_<=cs.length
 cl:∀ i y,i<at_->cs[i]?=some y->xr h w st y=0->∀ z∈bQ h w y,z∈kn\/z∈cs
theorem oK.done{h w:Int}{st kn:List Cell}{x0:Cell}{cs:List Cell}(o:oK h w st kn x0 cs cs.length)(y:Cell):y∈cs↔Reach h w st kn x0 y:=by
 refine⟨o.rch y,fun r=>?_⟩
 induction r with
 |base=>exact o.has
 |step _ e hy hk ih=>
  obtain⟨i,hi⟩:=rP ih;have hlt:i<cs.length:=(gM.mp hi).1;rcases o.cl i _ hlt hi e _ hy with z|z
  ·exact absurd z hk
  ·exact z
theorem oK.grow{h w:Int}{st kn:List Cell}{x0 x:Cell}{cs:List Cell}{n:Nat}(o:oK h w st kn x0 cs n)(hx:cs[n]?=some x)(e:xr h w st x=0) :
  oK h w st kn x0 (cs++(bQ h w x).filter fun y=>!decide (y∈kn)&&!decide (y∈cs)) (n+1):=by
 have hn:n<cs.length:=(gM.mp hx).1;have mem:∀ y,y∈((bQ h w x).filter fun y=>!decide (y∈kn)&&!decide (y∈cs))↔y∈bQ h w x/\y∉kn/\y∉cs:=fun y=>by
  rw[cC];simp
 refine⟨?_,jE _ o.has,fun y hy=>?_,by rw[c7];lia,fun i y hi hy e' z hz=>?_⟩
 ·refine yt.mpr ⟨o.nd,QF QB (Mh h w x),fun a ha b hb hab=>?_⟩;rw[<- hab] at hb;exact((mem a).mp hb).2.2 ha
 ·rcases cR.mp hy with z|z
  ·exact o.rch y z
  ·obtain⟨z1,z2,z3⟩:=(mem y).mp z;exact .step (o.rch x (fJ hx)) e z1 z2
 ·have hi':i<cs.length:=by lia
  rw[Ib hi'] at hy;by_cases hin:i=n
  ·subst hin;rw[hx] at hy;cases hy;by_cases zk:z∈kn
   ·exact .inl zk
   ·by_cases zc:z∈cs
    ·exact .inr (jE _ zc)
    ·exact .inr (jW _ ((mem z).mpr ⟨hz,zk,zc⟩))
  ·rcases o.cl i y (by lia) hy e' z hz with q|q
   ·exact .inl q
   ·exact .inr (jE _ q)
theorem oK.skip{h w:Int}{st kn:List Cell}{x0 x:Cell}{cs:List Cell}{n:Nat}(o:oK h w st kn x0 cs n)(hx:cs[n]?=some x)(e:xr h w st x≠0):oK h w st kn x0 cs (n+1):=by
 have hn:n<cs.length:=(gM.mp hx).1;refine⟨o.nd,o.has,o.rch,hn,fun i y hi hy e' z hz=>?_⟩;by_cases hin:i=n
 ·subst hin;rw[hx] at hy;cases hy;exact absurd e' e
 ·exact o.cl i y (by lia) hy e' z hz
theorem oK.len{h w:Nat}{st kn:List Cell}{x0:Cell}{cs:List Cell}{n:Nat}(o:oK h w st kn x0 cs n)(h0:inF h w x0)(h6:h<=6)(w6:w<=6):cs.length<=36:=by
 have:=lO (l2:=cB h w) o.nd fun y hy=>dI.mpr ((o.rch y hy).inF h0)
 rw[gB] at this;have:h*w<=6*6:=lY h6 w6;lia
theorem a3f{sg:Str}{c:Nat}(h:c∉sg.cps.toList):inS sg c=false:=by
 unfold inS;rw[PySem.W.occ_nil_of_no sg ⟨#[c]⟩ 1 fun i hi=>?_]
 ·rfl
 ·cases e:Builtin.Str.subAt sg ⟨#[c]⟩ i with
  |false=>rfl
  |true=>
   refine absurd ?_ h;have e':sg.cps.extract i (i+1)=#[c]:=lZ.mp e;have hm:c∈sg.cps.extract i (i+1):=by rw[e'];simp
   obtain⟨k,hk,e2⟩:=Array.mem_extract_iff_getElem.mp hm;rw[<- e2];exact Qn _
theorem Jj{sg:Str}(h:sg.cps.toList.all (inS sg)=true)(c:Nat):inS sg c=decide (c∈sg.cps.toList):=by
 by_cases hc:c∈sg.cps.toList
 ·rw[bR hc];exact lX.mp h c hc
 ·rw[cG hc];exact a3f hc
def ud(c:Nat):Bool:=decide (c=35\/(48<=c/\c<=56))
theorem a0m(c:Nat):inS "#012345678" c=ud c:=by
 rw[Jj (by decide +kernel)];have e:("#012345678" : Str).cps.toList=[35,48,49,50,51,52,53,54,55,56]:=by decide +kernel
 rw[e];by_cases h:c<57
 ·exact(by decide +kernel:∀ k∈List.range 57,decide (k∈[35,48,49,50,51,52,53,54,55,56])=ud k) c (fK.mpr h)
 ·have n1:¬c∈[35,48,49,50,51,52,53,54,55,56]:=fun z=>h ((by decide:∀ k∈[35,48,49,50,51,52,53,54,55,56],k<57) c z)
  have n2:ud c=false:=by unfold ud;exact cG (by lia)
  rw[cG n1,n2]
theorem Wh(c:Nat):inS "#" c=decide (c=35):=by
 rw[Jj (by decide +kernel)];have e:("#" : Str).cps.toList=[35]:=by decide +kernel
 rw[e];simp
theorem Bo(x:Str)(lo hi:Option Int):(Txt.slice x lo hi).cps.toList=(x.cps.toList.drop (HT.sIx x.length 0 lo)).take (HT.sIx x.length x.length hi-HT.sIx x.length 0 lo):=by
 have e:Builtin.Str.strSliceIndices lo hi 1 x.length=(List.range (HT.sIx x.length x.length hi-HT.sIx x.length 0 lo)).map (HT.sIx x.length 0 lo+·):=by
  obtain⟨h1,h2,_⟩:=yc lo hi x.length;rw[<- sliceRange_one,<- h1,<- h2];rfl
 unfold Txt.slice;rw[e];have hb:HT.sIx x.length x.length hi<=x.length:=HT.Y6 _ _ (bK _) hi;have ha:HT.sIx x.length 0 lo<=x.length:=HT.Y6 _ _ (j7 _) lo;have hx:x.cps.toList.length=x.length:=eO;split
 ·rename_i hc;simp only[aR,jX,lW,lZ] at hc;have h0:HT.sIx x.length x.length hi-HT.sIx x.length 0 lo=x.length:=hc.2;by_cases hz:x.length=0
  ·have:x.cps.toList=[]:=Fe.mp (by rw[hx,hz]);rw[this];simp
  ·have e1:HT.sIx x.length 0 lo=0:=by lia
   rw[h0,e1,Fx,<- hx,gY]
 ·show(((List.range _).map _).filterMap (x.cps[·]?)).toArray.toList=_;rw[pick_run]
theorem Yl(x:Str)(n:Nat)(h:n<=x.length):(Txt.slice x none (some (n:Int))).cps.toList=x.cps.toList.take n:=by
 rw[Bo,HT.tU,HT.xX,Ak h,Fx,Nat.sub_zero]
theorem Qd(x:Str)(n:Nat)(h:n<=x.length):(Txt.slice x (some (n:Int)) none).cps.toList=x.cps.toList.drop n:=by
 rw[Bo,HT.tU,HT.xX,Ak h];refine Bs ?_;rw[ux,eO];exact bK _
theorem yQ(a b:Str):(a++b).cps.toList=a.cps.toList++b.cps.toList:=by
 show(a.cps++b.cps).toList=_;simp
theorem str_len(z:Str):z.length=z.cps.toList.length:=eO.symm
structure Vw(zs:List Str)(w:Nat):Prop extends Rect zs w where
 sg:∀ z∈zs,∀ c∈z.cps.toList,ud c=true
theorem Yi{h w:Nat}{st kn:List Cell}(h1:1<=h)(h6:h<=6)(w1:1<=w)(w6:w<=6):Vw (zV h w st kn) w:=by
 have hl:(zV h w st kn).length=h:=by unfold zV;rw[aR,jX]
 refine⟨⟨by lia,by lia,w1,w6,fun z hz=>?_⟩,fun z hz c hc=>?_⟩
 ·obtain⟨r,_,rfl⟩:=cu.mp hz;exact SQ _ _ _ _ _ _
 ·obtain⟨r,_,rfl⟩:=cu.mp hz;unfold vB at hc;simp only[cu] at hc;obtain⟨k,_,rfl⟩:=hc;unfold Qc ud;have:=RD h w st ((r:Int),(k:Int));split
  ·exact bR (.inr ⟨by lia,by lia⟩)
  ·exact bR (.inl rfl)
def vf(zs:List Str)(r c:Nat)(s:Str):List Str:=zs.take r++[Txt.slice (zs.getD r Str.empty) none (some (c:Int))++s++Txt.slice (zs.getD r Str.empty) (some ((c:Int)+1)) none]++zs.drop (r+1)
theorem a4r{zs:List Str}{w r c:Nat}{s:Str}(v:Vw zs w)(hr:r<zs.length)(hc:c<w)(hs:s.length=1)(hk:∀ k∈s.cps.toList,ud k=true):Vw (vf zs r c s) w/\(vf zs r c s).length=zs.length:=by
 have er:=v.toRect.row hr;have mem:zs.getD r Str.empty∈zs:=by
  have e:zs.getD r Str.empty=zs[r]:=by simp[gO,hr]
  rw[e];exact oG hr
 have s1:=Yl (zs.getD r Str.empty) c (by lia);have s2:(Txt.slice (zs.getD r Str.empty) (some ((c:Int)+1)) none).cps.toList=(zs.getD r Str.empty).cps.toList.drop (c+1):=Qd (zs.getD r Str.empty) (c+1) (by lia);have Wd:(Txt.slice (zs.getD r Str.empty) none (some (c:Int))++s++Txt.slice (zs.getD r Str.empty) (some ((c:Int)+1)) none).cps.toList=(zs.getD r Str.empty).cps.toList.take c++s.cps.toList++(zs.getD r Str.empty).cps.toList.drop (c+1):=by
  rw[yQ,yQ,s1,s2]
 have hll:(vf zs r c s).length=zs.length:=by
  unfold vf;rw[c7,c7,jr,ux,jm];lia
 have ln:(zs.getD r Str.empty).cps.toList.length=w:=by rw[<- str_len];exact er
 refine⟨⟨⟨by rw[hll];exact v.ne,by rw[hll];exact v.le,v.w1,v.w6,fun z hz=>?_⟩,fun z hz k hk'=>?_⟩,hll⟩
 ·unfold vf at hz;rcases cR.mp hz with hz|hz
  ·rcases cR.mp hz with hz|hz
   ·exact v.len z (wL hz)
   ·rw[dB.mp hz,str_len,Wd,c7,c7,jr,ux,ln,<- str_len,hs];lia
  ·exact v.len z (JT hz)
 ·unfold vf at hz;rcases cR.mp hz with hz|hz
  ·rcases cR.mp hz with hz|hz
   ·exact v.sg z (wL hz) k hk'
   ·rw[dB.mp hz,Wd] at hk';rcases cR.mp hk' with q|q
    ·rcases cR.mp q with q|q
     ·exact v.sg _ mem k (wL q)
     ·exact hk k q
    ·exact v.sg _ mem k (JT q)
  ·exact v.sg z (JT hz) k hk'
def Ei(z:Str)(n:Int):Bool:=decide ((z.length:Int)=n)&&z.cps.toList.all (inS "#012345678")
def Br:List Str->Bool
 |[]=>false
 |z::zs=>decide ((z::zs).length<=6)&&decide (1<=z.length/\z.length<=6)&&(z::zs).all fun r=>Ei r z.length
theorem EY{z:Str}{zs:List Str}(h1:(z::zs).length<=6)(h2:1<=z.length)(h3:z.length<=6):Br (z::zs)=(z::zs).all fun r=>Ei r z.length:=by
 show(decide ((z::zs).length<=6)&&decide (1<=z.length/\z.length<=6)&&_)=_;rw[bR h1,bR (And.intro h2 h3)];rfl
theorem Qi{z:Str}{zs:List Str}(h1:¬(z::zs).length<=6):Br (z::zs)=false:=by
 show(decide ((z::zs).length<=6)&&_&&_)=_;rw[cG h1];rfl
theorem Qj{z:Str}{zs:List Str}(h1:¬(1<=z.length/\z.length<=6)):Br (z::zs)=false:=by
 show(_&&decide (1<=z.length/\z.length<=6)&&_)=_;rw[cG h1,uF];rfl
theorem Vw.ok{zs:List Str}{w:Nat}(v:Vw zs w):Br zs=true:=by
 obtain⟨z,zt,rfl,hz⟩:=v.toRect.head;rw[EY v.le (by have:=v.w1;lia) (by have:=v.w6;lia),lX];intro r hr;unfold Ei;rw[bR (by rw[v.len r hr,hz]),uG,lX];intro c hc;rw[a0m];exact v.sg r hr c hc
def Bd(l:Addr)(h w:Int):List (Str×V):=mq "width" (.int w) (mq "height" (.int h) (mq "rows" (.ref l) []))
theorem Ov(l:Addr)(h w:Int):(Bd l h w).lookup ("rows" : Str)=some (.ref l):=by
 unfold Bd;rw[gZ,aH (by decide +kernel),gZ,aH (by decide +kernel),gZ,aK rfl]
theorem Dq(l:Addr)(h w:Int):(Bd l h w).lookup ("height" : Str)=some (.int h):=by
 unfold Bd;rw[gZ,aH (by decide +kernel),gZ,aK rfl]
theorem Jf(l:Addr)(h w:Int):(Bd l h w).lookup ("width" : Str)=some (.int w):=by
 unfold Bd;rw[gZ,aK rfl]
structure gA(C:Addr)(H:Hp)(x:Addr)(zs:List Str)(w:Nat):Prop where
 ob:∃ dx l,H x=some (.ins C dx (Bd l zs.length w))/\H l=some (.lst (zs.map V.str))
 vw:Vw zs w
theorem gA.mono{C:Addr}{H H':Hp}{x:Addr}{zs:List Str}{w:Nat}(v:gA C H x zs w)(s:Same H H'):gA C H' x zs w:=let ⟨dx,l,a,b⟩:=v.ob;⟨⟨dx,l,s _ _ a,s _ _ b⟩,v.vw⟩
def aL(zs:List Str)(w:Nat)(x:Cell):Bool:=decide (inF zs.length w x)&&decide (codeAt zs (x.1.toNat,x.2.toNat)=35)
def dZ(zs:List Str)(w:Nat):List Cell:=(cB zs.length w).filter (aL zs w)
theorem jf(zs:List Str)(w:Nat):dZ zs w=bH zs w "#":=by
 unfold dZ bH cB;rw[List.filter_flatMap];have key:∀ r∈List.range zs.length,((List.range w).map fun c:Nat=>((r:Int),(c:Int))).filter (aL zs w)=((List.range w).filter fun c=>inS "#" (codeAt zs (r,c))).map fun c:Nat=>((r:Int),(c:Int)):=by
  intro r hr;rw[List.filter_map];congr 1;refine wO fun c hc=>?_
  rw[fK] at hr hc;show aL zs w ((r:Int),(c:Int))=_;unfold aL;rw[Wh,bR (show inF zs.length w ((r:Int),(c:Int)) from⟨⟨by show(0:Int)<=(r:Int);lia,by show(r:Int)<zs.length;lia⟩,⟨by show(0:Int)<=(c:Int);lia,by show(c:Int)<w;lia⟩⟩),uG];rfl
 have go:∀ l:List Nat,(∀ r∈l,r∈List.range zs.length)->l.flatMap (fun r:Nat=>((List.range w).map fun c:Nat=>((r:Int),(c:Int))).filter (aL zs w))=l.flatMap (fun r:Nat=>((List.range w).filter fun c=>inS "#" (codeAt zs (r,c))).map fun c:Nat=>((r:Int),(c:Int))):=by
  intro l
  induction l with
  |nil=>intro _;rfl
  |cons a l ih=>intro h;rw[Ae,Ae,key a (h a dY),ih fun r hr=>h r (fU _ hr)]
 exact go _ fun r hr=>hr
theorem DN{zs:List Str}{w:Nat}{x:Cell}:x∈dZ zs w↔aL zs w x=true:=by
 unfold dZ;rw[cC,dI];constructor
 ·exact fun h=>h.2
 ·intro h;refine⟨?_,h⟩;unfold aL at h;rw[lW] at h;exact cI h.1
def Ca(w:Nat)(x:Cell)(r:Int):List Cell:=((List.range ((min (x.2+2) w)-(max (x.2-1) 0)).toNat).map fun k:Nat=>(r,max (x.2-1) 0+(k:Int))).filter fun y=>!decide (y=x)
def qR(w:Nat)(x:Cell)(lo:Int)(n:Nat):List Cell:=(List.range n).flatMap fun k:Nat=>Ca w x (lo+(k:Int))
def Px(h w:Nat)(x:Cell):List Cell:=qR w x (max (x.1-1) 0) ((min (x.1+2) h)-(max (x.1-1) 0)).toNat
theorem V9:∀ h∈List.range 7,∀ w∈List.range 7,∀ r∈List.range h,∀ c∈List.range w,Px h w ((r:Int),(c:Int))=bQ h w ((r:Int),(c:Int)):=by decide +kernel
theorem Xi{h w:Nat}{x:Cell}(h6:h<=6)(w6:w<=6)(hx:inF h w x):Px h w x=bQ h w x:=by
 obtain⟨⟨a,b⟩,⟨c,d⟩⟩:=hx;have:=V9 h (fK.mpr (by lia)) w (fK.mpr (by lia)) x.1.toNat (fK.mpr (by lia)) x.2.toNat (fK.mpr (by lia));have e:(((x.1.toNat:Nat):Int),((x.2.toNat:Nat):Int))=x:=mJ (by show((x.1.toNat:Nat):Int)=x.1;lia) (by show((x.2.toNat:Nat):Int)=x.2;lia);rw[e] at this;exact this
def aN(zs:List Str)(w:Nat)(x:Cell):List Cell:=(bQ zs.length w x).filter fun y=>!aL zs w y
def aF(zs:List Str)(w:Nat)(x:Cell):List Cell:=(bQ zs.length w x).filter fun y=>aL zs w y
theorem a0g(zs:List Str)(w:Nat):((dZ zs w).filter fun x=>decide (0<(aN zs w x).length))=(bH zs w "#").filter fun x=>decide (0<((bQ zs.length w x).filter fun y=>!decide (y∈bH zs w "#")).length):=by
 rw[jf];refine wO fun x _=>?_
 unfold aN;have:((bQ zs.length w x).filter fun y=>!aL zs w y)=(bQ zs.length w x).filter fun y=>!decide (y∈bH zs w "#"):=by
  refine wO fun y _=>?_
  rw[<- jf];congr 1;by_cases h:aL zs w y=true
  ·rw[h,bR (DN.mpr h)]
  ·rw[QS.mpr h,cG fun z=>h (DN.mp z)]
 rw[this]
open PySem.W
section
variable{prog:Program}{w:World}{A:Around}{E:Value->Shared->Prop}{s:Shared}
abbrev Keeps(h h':Heap):Prop:=∀ b o,h.get? b=some o->h'.get? b=some o
end
def cF(a b:Cell):Prop:=a.1<b.1\/(a.1=b.1/\a.2<b.2)
instance(a b:Cell):Decidable (cF a b):=by unfold cF;infer_instance
section
variable{X:Cx}
theorem tu{pins:List (Addr×Obj)}{zzs:L2.St}{H:Hp}{s:Shared}{v:V}{u:Value}{c:Cell}(I:Inv X pins zzs H s)(d:Den X.K H v (aB c))(r:RelV v u):∃(a:Addr)(o:Obj)(t t':Tok)(n:Nat),u=.ref a/\s.heap.get? a=some o/\o.cls=.type "tuple" /\ o.data=.seq #[.int c.1 t,.int c.2 t'] n:=by
 obtain⟨a,rfl,ht,_⟩:=fY d;cases r;obtain⟨its,rv,⟨o,e,hc,n,hd⟩,_⟩:=I.tuple ht;obtain⟨u1,u2,rfl,⟨t,rfl⟩,⟨t',rfl⟩⟩:=vals2 rv;exact⟨a,o,t,t',n,rfl,e,hc,hd⟩
end
section
variable{X:Cx}{K:ao}
def a2l(K:ao):List V->Hp->VK->Prop:=fun xs H Q=>∃ x c cv,xs=[x,c]/\a2J c=some cv/\∃(a:Addr)(ys:List V)(b:Bool),x=.ref a /\
 ((SqT K H a ys/\PySem.W.kitOne K (.type "tuple") cv=some b)\/(SqL K H a ys/\PySem.W.kitOne K (.type "list") cv=some b))/\Q (.bl b) H
theorem Tr:eE X (.builtin "isinstance") (a2l X.K):=by
 intro pins s zzs H xs us Q I r h;obtain⟨x,c,cv,rfl,hc,a,ys,b,rfl,h,q⟩:=h;obtain⟨u,u',rfl,ru,rc⟩:=vals2 r;have e:=Rr hc rc;subst e;cases ru;rcases h with⟨ht,hk⟩|⟨ht,hk⟩
 ·obtain⟨its,_,⟨o,e1,e2,_⟩,_⟩:=I.tuple ht;exact qp ZG I.kIn ⟨o,e1,e2⟩ hk (by intro z;cases z) fun tk=>⟨.bl b,H,I.tok tk,rfl,q⟩
 ·obtain⟨its,_,⟨o,n,e1,e2,_⟩,_⟩:=I.list ht;exact qp QK I.kIn ⟨o,e1,e2⟩ hk (by intro z;cases z) fun tk=>⟨.bl b,H,I.tok tk,rfl,q⟩
theorem zm(hK:X.K=K:=by rfl):eE X (.builtin "isinstance") (fun xs H Q=>a5R K xs H Q\/a2l K xs H Q):=by subst hK;exact VB.or Tr
end
structure kO{α:Type}(lt:α->α->Bool):Prop where
 KJ:∀ a b,lt a b=true->lt b a=false
 tr:∀ a b c,lt b a=false->lt c b=false->lt c a=false
 anti:∀ a b,lt a b=false->lt b a=false->a=b
theorem kO.refl{α:Type}{lt:α->α->Bool}(o:kO lt)(a:α):lt a a=false:=by
 cases h:lt a a
 ·rfl
 ·rw[<- h];exact o.KJ a a h▸rfl
structure Good(N:Nat)(p:Array Nat):Prop where
 perm:p.toList.Perm (List.range N)
theorem Good.size{N:Nat}{p:Array Nat}(g:Good N p):p.size=N:=by
 have:=g.perm.length_eq;simpa using this
section
variable{α:Type}{lt:α->α->Bool}{f:Nat->α}{N:Nat}{s:Shared}{cmp:Nat->Nat->(Bool->Shared->Prop)->Shared->Prop}
def Ky(f:Nat->α)(p:Array Nat)(i:Nat):α:=f (p.getD i 0)
def Ij(lt:α->α->Bool)(f:Nat->α)(p:Array Nat)(n:Nat):Prop:=∀ i,i+1<n->lt (Ky f p (i+1)) (Ky f p i)=false
theorem Ij.le(o:kO lt){p:Array Nat}{n:Nat}(u:Ij lt f p n):∀ d i,i+d<n->lt (Ky f p (i+d)) (Ky f p i)=false:=by
 intro d
 induction d with
 |zero=>intro i _;exact o.refl _
 |succ d ih=>intro i h;exact o.tr _ _ _ (ih i (by lia)) (u (i+d) (by omega))
end
namespace TS
def el(xs:Array Keyed)(i:Nat):Keyed:=xs.getD i (Value.none,Value.none)
theorem z8{xs:Array Keyed}{i:Nat}(h:i<xs.size):el xs i∈xs.toList:=by
 unfold el;rw[oF,ig h];exact Qn h
theorem qJ{xs:Array Keyed}{i:Nat}(h:i<xs.size):xs[i]?=some (el xs i):=by
 unfold el;rw[oF,ig h];rfl
section
variable{α:Type}{lt:α->α->Bool}{M:Model}{A:Around}{E:Value->Shared->Prop}{s:Shared}{κ:SortKind}{key:Keyed->α}{a₀:Array Keyed}
structure Env(M:Model)(A:Around)(s:Shared)(κ:SortKind)(key:Keyed->α)(lt:α->α->Bool)(a₀:Array Keyed):Prop where
 o:kO lt
 ask:∀ x y,x∈a₀.toList->y∈a₀.toList->∀ C:Bool->Shared->Prop,C (lt (key x) (key y)) s->wpAny M A (keyLt' κ x.1 y.1) C (fun _ _=>False) s
def Srt(lt:α->α->Bool)(key:Keyed->α)(xs:Array Keyed)(i j:Nat):Prop:=∀ p q,i<=p->p<=q->q<j->lt (key (el xs q)) (key (el xs p))=false
def Fal(lt:α->α->Bool)(key:Keyed->α)(xs:Array Keyed)(i j:Nat):Prop:=∀ p q,i<=p->p<=q->q<j->lt (key (el xs p)) (key (el xs q))=false
theorem NK(e:Env M A s κ key lt a₀){x y:Keyed}(hx:x∈a₀.toList)(hy:y∈a₀.toList){st:SortSt}(hk:kindOf st=κ){Q:Option Bool->SortSt->Prop}(h:Q (some (lt (key x) (key y))) st):wpS M A E s (lt' x y) Q st:=by
 rw[lt'_eq];refine aM (mL ?_);rw[hk];refine aM (wX (FJ (j8 (e.ask x y hx hy (fun b s'=>s'=s/\b=lt (key x) (key y)) ⟨rfl,rfl⟩) ?_ fun _ _ z=>z.elim)));rintro b s' ⟨rfl,rfl⟩;exact⟨rfl,aQ h⟩
theorem fO{xs:Array Keyed}{i:Nat}(h:i<xs.size){st:SortSt}{Q:Keyed->SortSt->Prop}(q:Q (el xs i) st):wpS M A E s (elem' xs i) Q st:=by
 rw[elem'_eq,qJ h];exact aQ q
theorem Eb{xs:Array Keyed}(hp:xs.Perm a₀){i:Nat}(h:i<a₀.size):el xs i∈a₀.toList:=
 hp.toList.mem_iff.mp (z8 (by rw[hp.size_eq];exact h))
theorem vm(e:Env M A s κ key lt a₀){st:SortSt}(hk:kindOf st=κ)(hp:(arrOf st).Perm a₀){i j:Nat}(hi:i<a₀.size)(hj:j<a₀.size){Q:Option Bool->SortSt->Prop}(h:Q (some (lt (key (el (arrOf st) i)) (key (el (arrOf st) j)))) st):wpS M A E s (ltAt' i j) Q st:=by
 rw[ltAt'_eq];refine aM (mL ?_);exact aM (fO (by rw[hp.size_eq];exact hi) (aM (fO (by rw[hp.size_eq];exact hj) (NK e (Eb hp hi) (Eb hp hj) hk h))))
theorem pO{xs ys:Array Keyed}{i j:Nat}(h:xs[i]?=ys[j]?):el xs i=el ys j:=by
 unfold el;rw[oF,oF,h]
theorem uQ{xs:Array Keyed}{i j:Nat}(hj:j<=xs.size)(k:Nat):el (mirror xs i j ((j-i) / 2)) k=if i<=k/\k<j then el xs (i+j-1-k) else el xs k:=by
 have e:=getElem?_mirror_all (i:=i) hj k;by_cases h1:i<=k/\k<j
 ·rw[aK h1] at e ⊢;exact pO e
 ·rw[aH h1] at e ⊢;exact pO e
theorem yZ{xs:Array Keyed}{a d:Nat}(hs:a<xs.size)(hd:d<=a)(k:Nat):el (bubble xs a d) k=if k=a-d then el xs a else if a-d<k/\k<=a then el xs (k-1) else el xs k:=by
 have e:=getElem?_bubble hs d hd k;by_cases h1:k=a-d
 ·rw[aK h1] at e ⊢;exact pO e
 ·rw[aH h1] at e ⊢;by_cases h2:a-d<k/\k<=a
  ·rw[aK h2] at e ⊢;exact pO e
  ·rw[aH h2] at e ⊢;exact pO e
def Low(xs ys:Array Keyed)(lo:Nat):Prop:=∀ i,i<lo->el xs i=el ys i
theorem Low.refl{xs:Array Keyed}{lo:Nat}:Low xs xs lo:=fun _ _=>rfl
theorem Low.trans{xs ys zs:Array Keyed}{lo:Nat}(h:Low xs ys lo)(g:Low ys zs lo):Low xs zs lo:=fun i hi=>(h i hi).trans (g i hi)
theorem qP{xs:Array Keyed}{i j lo:Nat}(hj:j<=xs.size)(h:lo<=i):Low (mirror xs i j ((j-i) / 2)) xs lo:=fun k hk=>by
 rw[uQ hj,aH (by lia)]
def asl(lo m z:Nat):StateT SortSt Sem (Option Nat):=do
 let mut m:=m
 for _ in [m:z] do
  let some u <- ltAt' (lo+m) (lo+m-1)|return none
  if u then break
  m:=m+1
 return some m
def dsl(lo m z:Nat):StateT SortSt Sem (Option Nat):=do
 (rule "list.sort.descending-run" : Sem Unit)
 let mut m:=m+1
 let mut q:=0
 for _ in [m:z] do
  let some u <- ltAt' (lo+m) (lo+m-1)|return none
  if u then
   if q>0 then reverseSlice' (lo+m-(q+1)) (lo+m)
   q:=0
  else
   let some v <- ltAt' (lo+m-1) (lo+m)|return none
   if v then break
   q:=q+1
  m:=m+1
 if q>0 then
  reverseSlice' (lo+m-(q+1)) (lo+m)
  reverseSlice' lo (lo+m)
  asl lo m z
 else
  reverseSlice' lo (lo+m)
  asl lo m z
theorem Srt.one{xs:Array Keyed}{i:Nat}(o:kO lt):Srt lt key xs i (i+1):=fun p q a b c=>by
 have:p=q:=by lia
 subst this;exact o.refl _
theorem Srt.more{xs:Array Keyed}{lo x:Nat}(o:kO lt)(h1:1<=x)(hs:Srt lt key xs lo (lo+x))(hl:lt (key (el xs (lo+x))) (key (el xs (lo+x-1)))=false):Srt lt key xs lo (lo+(x+1)):=fun p q a b c=>by
 by_cases hq:q<lo+x
 ·exact hs p q a b hq
 ·have:q=lo+x:=by lia
  subst this;by_cases hp:p=lo+x
  ·subst hp;exact o.refl _
  ·exact o.tr _ _ _ (hs p (lo+x-1) a (by lia) (by lia)) hl
theorem Fal.more{xs:Array Keyed}{lo x:Nat}(o:kO lt)(h1:1<=x)(hs:Fal lt key xs lo (lo+x))(hl:lt (key (el xs (lo+x-1))) (key (el xs (lo+x)))=false):Fal lt key xs lo (lo+(x+1)):=fun p q a b c=>by
 by_cases hq:q<lo+x
 ·exact hs p q a b hq
 ·have:q=lo+x:=by lia
  subst this;by_cases hp:p=lo+x
  ·subst hp;exact o.refl _
  ·exact o.tr _ _ _ hl (hs p (lo+x-1) a (by lia) (by lia))
theorem Gh{b:Bool}(h:¬b=true):b=false:=by cases b<;>simp_all
theorem a4P(e:Env M A s κ key lt a₀){st:SortSt}(hk:kindOf st=κ)(hp:(arrOf st).Perm a₀){lo m z:Nat}(h1:1<=m)(h2:m<=z)(hz:lo+z<=a₀.size){Q:Option Nat->SortSt->Prop}(hs:Srt lt key (arrOf st) lo (lo+m))
  (h:∀ n,1<=n->n<=z->Srt lt key (arrOf st) lo (lo+n)->Q (some n) st):wpS M A E s (asl lo m z) Q st:=by
 unfold asl;refine aM (iZ (kI (I:=fun x c st'=>st'=st/\c=(none,x)/\Srt lt key (arrOf st) lo (lo+x))
  (Q:=fun c st'=>st'=st/\∃ x,c=(none,x)/\1<=x/\x<=z/\Srt lt key (arrOf st) lo (lo+x)) ?step ?fin ?init) ?post)
 case init=>exact⟨rfl,rfl,hs⟩
 case fin=>
  rintro c st' ⟨rfl,rfl,g⟩;rw[show max m z=z by lia] at g ⊢;exact⟨rfl,z,rfl,by lia,bK _,g⟩
 case step=>
  rintro x c st' hax hxn ⟨rfl,rfl,hs⟩;dsimp only;refine aM (vm e hk hp (by lia) (by lia) ?_);dsimp only;by_cases hb:lt (key (el (arrOf st') (lo+x))) (key (el (arrOf st') (lo+x-1)))=true
  ·rw[aK hb];exact aQ ⟨rfl,x,rfl,by lia,by lia,hs⟩
  ·rw[aH hb];exact aQ ⟨rfl,rfl,hs.more e.o (by lia) (Gh hb)⟩
 case post=>
  rintro c st' ⟨rfl,x,rfl,a1,a2,hs⟩;exact aQ (h x a1 a2 hs)
theorem JF{st:SortSt}{i j:Nat}{Q:Unit->SortSt->Prop}(h:Q () (setArr st (mirror (arrOf st) i j ((j-i) / 2)))):wpS M A E s (reverseSlice' i j) Q st:=by
 rw[reverseSlice'_eq];exact lD h
theorem z7{xs:Array Keyed}{i j:Nat}(hj:j<=xs.size)(he:∀ k,i<=k->k<j->key (el xs k)=key (el xs (j-1)))(k:Nat):key (el (mirror xs i j ((j-i) / 2)) k)=key (el xs k):=by
 rw[uQ hj];by_cases h:i<=k/\k<j
 ·rw[aK h,he _ (by lia) (by lia),he k h.1 h.2]
 ·rw[aH h]
theorem YX(e:Env M A s κ key lt a₀){st:SortSt}(hk:kindOf st=κ)(hp:(arrOf st).Perm a₀){lo m z:Nat}(h2:m+1<=z)(hz:lo+z<=a₀.size){Q:Option Nat->SortSt->Prop}(hs:Fal lt key (arrOf st) lo (lo+(m+1)))
  (h:∀ n xs,xs.Perm a₀->Low xs (arrOf st) lo->1<=n->n<=z->Srt lt key xs lo (lo+n)->Q (some n) (setArr st xs)):wpS M A E s (dsl lo m z) Q st:=by
 unfold dsl;refine aM (wX (jT ⟨rfl,?_⟩))
 let Eq:Array Keyed->Nat->Nat->Prop:=fun xs x q=>∀ i,lo+x-(q+1)<=i->i<lo+x->key (el xs i)=key (el xs (lo+x-1))
 refine aM (iZ (kI (I:=fun x c st'=>∃ xs q,st'=setArr st xs/\c=(none,x,q)/\xs.Perm a₀/\Low xs (arrOf st) lo/\Fal lt key xs lo (lo+x)/\q+1<=x/\Eq xs x q)
  (Q:=fun c st'=>∃ xs x q,st'=setArr st xs/\c=(none,x,q)/\xs.Perm a₀/\Low xs (arrOf st) lo/\1<=x/\x<=z/\Fal lt key xs lo (lo+x)/\q+1<=x/\Eq xs x q) ?step ?fin ?init) ?post)
 case init=>
  refine⟨arrOf st,0,rfl,rfl,hp,Low.refl,hs,by lia,fun i a b=>?_⟩;have:i=lo+(m+1)-1:=by lia
  rw[this]
 case fin=>
  rintro c st' ⟨xs,q,rfl,rfl,a1,a2,a3,a4,a5⟩;rw[show max (m+1) z=z by lia] at a3 a4 a5 ⊢;exact⟨xs,z,q,rfl,rfl,a1,a2,by lia,bK _,a3,a4,a5⟩
 case step=>
  rintro x c st' hax hxn ⟨xs,q,rfl,rfl,a1,a2,a3,a4,a5⟩;have sz:xs.size=a₀.size:=a1.size_eq;dsimp only;refine aM (vm e (st:=setArr st xs) hk a1 (by lia) (by lia) ?_);dsimp only;show wpS M A E s _ _ (setArr st xs);by_cases hb:lt (key (el xs (lo+x))) (key (el xs (lo+x-1)))=true
  ·rw[aK hb];have one:∀ ys:Array Keyed,Eq ys (x+1) 0:=fun ys i a b=>by
    have:i=lo+(x+1)-1:=by lia
    rw[this]
   have fm:∀ ys:Array Keyed,(∀ k,key (el ys k)=key (el xs k))->Fal lt key ys lo (lo+(x+1)):=fun ys hy=>by
    have:=a3.more e.o (by lia) (e.o.KJ _ _ hb);intro p q b1 b2 b3;rw[hy,hy];exact this p q b1 b2 b3
   by_cases hq:q>0
   ·rw[aK hq];refine aM (JF (aQ ⟨_,0,rfl,rfl,(FQ _ _ _ _).trans a1,(qP (by show _<=xs.size;lia) (by lia)).trans a2,fm _ (z7 (by show _<=xs.size;lia) a5),by lia,one _⟩))
   ·rw[aH hq];exact aQ ⟨xs,0,rfl,rfl,a1,a2,fm _ fun _=>rfl,by lia,one _⟩
  ·rw[aH hb];refine aM (vm e (st:=setArr st xs) hk a1 (by lia) (by lia) ?_);dsimp only;show wpS M A E s _ _ (setArr st xs);by_cases hd:lt (key (el xs (lo+x-1))) (key (el xs (lo+x)))=true
   ·rw[aK hd];exact aQ ⟨xs,x,q,rfl,rfl,a1,a2,by lia,by lia,a3,a4,a5⟩
   ·rw[aH hd];have ek:key (el xs (lo+x))=key (el xs (lo+x-1)):=e.o.anti _ _ (Gh hb) (Gh hd);refine aQ ⟨xs,q+1,rfl,rfl,a1,a2,a3.more e.o (by lia) (Gh hd),by lia,fun i b1 b2=>?_⟩;rw[show lo+(x+1)-1=lo+x by lia];by_cases hi:i=lo+x
    ·rw[hi]
    ·rw[ek];exact a5 i (by lia) (by lia)
 case post=>
  rintro c st' ⟨xs,x,q,rfl,rfl,a1,a2,a3,a4,a5,a6,a7⟩;have sz:xs.size=a₀.size:=a1.size_eq;dsimp only;have fin:∀ ys:Array Keyed,ys.Perm a₀->Low ys (arrOf st) lo->(∀ k,key (el ys k)=key (el xs k))->wpS M A E s (reverseSlice' lo (lo+x) >>= fun _=>asl lo x z) Q (setArr st ys):=fun ys hy ly ky=>by
   have sy:ys.size=a₀.size:=hy.size_eq;refine aM (JF ?_);show wpS M A E s _ _ (setArr st (mirror ys lo (lo+x) ((lo+x-lo) / 2)));refine a4P e (st:=setArr st (mirror ys lo (lo+x) ((lo+x-lo) / 2))) hk (show(mirror ys lo (lo+x) ((lo+x-lo) / 2)).Perm a₀ from(FQ _ _ _ _).trans hy) a3 a4 hz ?_ fun n n1 n2 n3=>h n _ ((FQ _ _ _ _).trans hy) ((qP (by lia) (bK _)).trans ly) n1 n2 n3
   intro p q b1 b2 b3;show lt (key (el (mirror ys lo (lo+x) ((lo+x-lo) / 2)) q)) (key (el (mirror ys lo (lo+x) ((lo+x-lo) / 2)) p))=false;rw[uQ (by lia),uQ (by lia),aK (by lia),aK (by lia),ky,ky];exact a5 _ _ (by lia) (by lia) (by lia)
  by_cases hq:q>0
  ·rw[aK hq];refine aM (JF (fin _ ((FQ _ _ _ _).trans a1) ((qP (by show _<=xs.size;lia) (by lia)).trans a2) (z7 (by show _<=xs.size;lia) a7)))
  ·rw[aH hq];exact fin xs a1 a2 fun _=>rfl
theorem YW(e:Env M A s κ key lt a₀){st:SortSt}(hk:kindOf st=κ)(hp:(arrOf st).Perm a₀){lo z:Nat}(h1:1<=z)(hz:lo+z<=a₀.size){Q:Option Nat->SortSt->Prop}
  (h:∀ m xs,xs.Perm a₀->Low xs (arrOf st) lo->1<=m->m<=z->Srt lt key xs lo (lo+m)->Q (some m) (setArr st xs)):wpS M A E s (countRun' lo z) Q st:=by
 rw[countRun'_eq];have sz:(arrOf st).size=a₀.size:=hp.size_eq;refine aM (iZ (kI (I:=fun x c st'=>st'=st/\c=(none,x)/\Srt lt key (arrOf st) lo (lo+x))
  (Q:=fun c st'=>st'=st/\∃ x,c=(none,x)/\1<=x/\x<=z/\Srt lt key (arrOf st) lo (lo+x)/\(x<z->lt (key (el (arrOf st) (lo+x))) (key (el (arrOf st) (lo+x-1)))=true)) ?step ?fin ?init) ?post)
 case init=>exact⟨rfl,rfl,Srt.one e.o⟩
 case fin=>
  rintro c st' ⟨rfl,rfl,g⟩;rw[show max 1 z=z by lia] at g ⊢;exact⟨rfl,z,rfl,by omega,bK _,g,fun a=>absurd a (oH _)⟩
 case step=>
  rintro x c st' hax hxn ⟨rfl,rfl,hs⟩;dsimp only;refine aM (vm e hk hp (by lia) (by lia) ?_);dsimp only;by_cases hb:lt (key (el (arrOf st') (lo+x))) (key (el (arrOf st') (lo+x-1)))=true
  ·rw[aK hb];exact aQ ⟨rfl,x,rfl,by omega,by lia,hs,fun _=>hb⟩
  ·rw[aH hb];exact aQ ⟨rfl,rfl,hs.more e.o (by omega) (Gh hb)⟩
 case post=>
  rintro c st' ⟨rfl,x,rfl,a1,a2,hs,hl⟩;dsimp only;have own:Q (some x) st':=h x (arrOf st') hp Low.refl a1 a2 hs;by_cases hx:x=z
  ·rw[aK (by simpa using hx)];exact aQ own
  ·rw[aH (by simpa using hx)];have hl':=hl (by lia);by_cases hg:x>1
   ·rw[aK hg];refine aM (vm e hk hp (by lia) (by lia) ?_);dsimp only;by_cases hb:lt (key (el (arrOf st') lo)) (key (el (arrOf st') (lo+x-1)))=true
    ·rw[aK hb];exact aQ own
    ·rw[aH hb];have hall:∀ k,lo<=k->k<lo+x->key (el (arrOf st') k)=key (el (arrOf st') (lo+x-1)):=fun k c1 c2=>
      e.o.anti _ _ (e.o.tr _ _ _ (Gh hb) (hs lo k (bK _) c1 c2)) (hs k (lo+x-1) c1 (by lia) (by lia))
     refine aM (JF ?_);have hm:(mirror (arrOf st') lo (lo+x) ((lo+x-lo) / 2)).Perm a₀:=(FQ _ _ _ _).trans hp;have lm:Low (mirror (arrOf st') lo (lo+x) ((lo+x-lo) / 2)) (arrOf st') lo:=qP (by lia) (bK _);change wpS M A E s (dsl lo x z) Q _;refine YX e (st:=setArr st' (mirror (arrOf st') lo (lo+x) ((lo+x-lo) / 2))) hk (show(mirror (arrOf st') lo (lo+x) ((lo+x-lo) / 2)).Perm a₀ from hm) (by lia) hz ?_ fun n xs b1 b2 b3 b4 b5=>h n xs b1 (b2.trans lm) b3 b4 b5
     show Fal lt key (mirror (arrOf st') lo (lo+x) ((lo+x-lo) / 2)) lo (lo+(x+1));refine Fal.more e.o (by omega) (fun p q b1 b2 b3=>?_) ?_
     ·rw[z7 (by lia) hall,z7 (by lia) hall,hall p (by omega) (by lia),hall q (by lia) (by omega)];exact e.o.refl _
     ·rw[z7 (by lia) hall,z7 (by lia) hall];exact e.o.KJ _ _ hl'
   ·rw[aH hg];change wpS M A E s (dsl lo x z) Q _;refine YX e hk hp (by lia) hz ?_ h;have:x=1:=by lia
    subst this;refine Fal.more e.o (by omega) (fun p q b1 b2 b3=>?_) (e.o.KJ _ _ hl');have:p=q:=by lia
    subst this;exact e.o.refl _
theorem a4Q(e:Env M A s κ key lt a₀){st:SortSt}(hk:kindOf st=κ)(hp:(arrOf st).Perm a₀){lo n m:Nat}(hm:1<=m)(hmn:m<=n)(hz:lo+n<=a₀.size){Q:Bool->SortSt->Prop}(hs:Srt lt key (arrOf st) lo (lo+m))
  (h:∀ xs,xs.Perm a₀->Low xs (arrOf st) lo->Srt lt key xs lo (lo+n)->Q true (setArr st xs)):wpS M A E s (binarySort' lo n m) Q st:=by
 rw[binarySort'_eq];rw[show max m 1=m by lia];refine aM (iZ (kI (I:=fun k c st'=>∃ xs,st'=setArr st xs/\c=(none,())/\xs.Perm a₀/\Low xs (arrOf st) lo/\Srt lt key xs lo (lo+k))
  (Q:=fun c st'=>∃ xs,st'=setArr st xs/\c=(none,())/\xs.Perm a₀/\Low xs (arrOf st) lo/\Srt lt key xs lo (lo+n)) ?step ?fin ?init) ?post)
 case init=>exact⟨arrOf st,rfl,rfl,hp,Low.refl,hs⟩
 case fin=>
  rintro c st' ⟨xs,rfl,rfl,a1,a2,a3⟩;rw[show max m n=n by lia] at a3;exact⟨xs,rfl,rfl,a1,a2,a3⟩
 case post=>
  rintro c st' ⟨xs,rfl,rfl,a1,a2,a3⟩;exact aQ (h xs a1 a2 a3)
 case step=>
  rintro k c st' hk1 hk2 ⟨xs,rfl,rfl,a1,a2,a3⟩;have sz:xs.size=a₀.size:=a1.size_eq;refine aM (iZ (kI (I:=fun x c st'=>st'=setArr st xs/\∃ l r,c=(none,l,r)/\l<=r/\r<=k/\r-l<=k-x /\
    (∀ i,i<l->lt (key (el xs (lo+k))) (key (el xs (lo+i)))=false)/\(∀ i,r<=i->i<k->lt (key (el xs (lo+i))) (key (el xs (lo+k)))=false))
   (Q:=fun c st'=>st'=setArr st xs/\∃ l r,c=(none,l,r)/\l<=k /\
    (∀ i,i<l->lt (key (el xs (lo+k))) (key (el xs (lo+i)))=false)/\(∀ i,l<=i->i<k->lt (key (el xs (lo+i))) (key (el xs (lo+k)))=false)) ?is ?ie ?ii) ?ip)
  case ii=>exact⟨rfl,0,k,rfl,by lia,by lia,by lia,fun i hi=>by lia,fun i b c=>by lia⟩
  case ie=>
   rintro c st' ⟨rfl,l,r,rfl,b1,b2,b3,b4,b5⟩;have:l=r:=by lia
   subst this;exact⟨rfl,l,l,rfl,b2,b4,b5⟩
  case is=>
   rintro x c st' _ hx ⟨rfl,l,r,rfl,b1,b2,b3,b4,b5⟩;dsimp only;by_cases hge:l>=r
   ·rw[aK hge];have:l=r:=by lia
    subst this;exact aQ ⟨rfl,l,l,rfl,b2,b4,b5⟩
   ·rw[aH hge];refine aM (vm e (st:=setArr st xs) hk a1 (by lia) (by lia) ?_);dsimp only;show wpS M A E s _ _ (setArr st xs);by_cases hb:lt (key (el xs (lo+k))) (key (el xs (lo+(l+r) / 2)))=true
    ·rw[aK hb];refine aQ ⟨rfl,l,(l+r) / 2,rfl,by lia,by lia,by lia,b4,fun i c1 c2=>?_⟩;exact e.o.tr _ _ _ (e.o.KJ _ _ hb) (a3 (lo+(l+r) / 2) (lo+i) (by lia) (by lia) (by lia))
    ·rw[aH hb];refine aQ ⟨rfl,(l+r) / 2+1,r,rfl,by lia,by omega,by lia,fun i c1=>?_,b5⟩;exact e.o.tr _ _ _ (a3 (lo+i) (lo+(l+r) / 2) (by lia) (by lia) (by lia)) (Gh hb)
  case ip=>
   rintro c st' ⟨rfl,l,r,rfl,b2,b4,b5⟩;dsimp only;rw[moveDown'_eq];refine aM (lD (aQ ⟨_,rfl,rfl,(bubble_perm _ _ _).trans a1,fun i hi=>?_,?_⟩))
   ·show el (bubble xs (lo+k) (lo+k-(lo+l))) i=_;rw[yZ (by lia) (by lia),aH (by lia),aH (by lia)];exact a2 i hi
   ·intro p q c1 c2 c3;show lt (key (el (bubble xs (lo+k) (lo+k-(lo+l))) q)) (key (el (bubble xs (lo+k) (lo+k-(lo+l))) p))=false;rw[yZ (by lia) (by lia),yZ (by lia) (by lia),show lo+k-(lo+k-(lo+l))=lo+l by lia];have b4':∀ i,lo<=i->i<lo+l->lt (key (el xs (lo+k))) (key (el xs i))=false:=fun i d1 d2=>by
     have:=b4 (i-lo) (by lia);rwa[show lo+(i-lo)=i by lia] at this
    have b5':∀ i,lo+l<=i->i<lo+k->lt (key (el xs i)) (key (el xs (lo+k)))=false:=fun i d1 d2=>by
     have:=b5 (i-lo) (by lia) (by lia);rwa[show lo+(i-lo)=i by lia] at this
    repeat' split
    all_goals first
     |(exfalso;lia)
     |exact e.o.refl _
     |exact b4' _ (by omega) (by lia)
     |exact b5' _ (by lia) (by lia)
     |exact a3 _ _ (by lia) (by lia) (by lia)
end
end TS
end L2
namespace L2
open PySem PySem.Spec PyProof.Rows PySem.W
namespace TS
def gal:Bool->Keyed->Array Keyed->Nat->Nat->Nat->StateT SortSt Sem (Option Nat):=sortPriv% PySem.Builtin.gallop
def bey(l:Bool)(y:Keyed)(xs:Array Keyed)(i:Nat):StateT SortSt Sem (Option Bool):=do
 let x <- elem' xs i
 if l then lt' x y else return (<- lt' y x).map (!·)
theorem a3b(l:Bool)(y:Keyed)(xs:Array Keyed)(b n t:Nat):gal l y xs b n t=(do
 let mut o':=0
 let mut o:=1
 let mut p:=0
 let mut q:=0
 let some r <- bey l y xs (b+t)|return none
 if r then
  let z:=n-t
  for _ in [0:n] do
   if o>=z then break
   let some g <- bey l y xs (b+(t+o))|return none
   if !g then break
   o':=o
   o:=2*o+1
  p:=t+o'+1
  q:=t+min o z
 else
  let z:=t+1
  for _ in [0:n] do
   if o>=z then break
   let some g <- bey l y xs (b+(t-o))|return none
   if g then break
   o':=o
   o:=2*o+1
  p:=t+1-min o z
  q:=t-o'
 for _ in [0:n] do
  if p>=q then break
  let m:=p+(q-p) / 2
  let some g <- bey l y xs (b+m)|return none
  if g then p:=m+1 else q:=m
 return some q):=rfl
section
variable{α:Type}{lt:α->α->Bool}{M:Model}{A:Around}{E:Value->Shared->Prop}{s:Shared}{κ:SortKind}{key:Keyed->α}{a₀:Array Keyed}
def bv(lt:α->α->Bool)(key:Keyed->α)(l:Bool)(y x:Keyed):Bool:=if l then lt (key x) (key y) else !lt (key y) (key x)
theorem JD(e:Env M A s κ key lt a₀){st:SortSt}(hk:kindOf st=κ){l:Bool}{y:Keyed}{xs:Array Keyed}{i:Nat}(hy:y∈a₀.toList)(hi:i<xs.size)(hx:el xs i∈a₀.toList){Q:Option Bool->SortSt->Prop}(h:Q (some (bv lt key l y (el xs i))) st):wpS M A E s (bey l y xs i) Q st:=by
 unfold bey;refine aM (fO hi ?_);cases l
 ·refine aM (NK e hy hx hk (aQ ?_));exact h
 ·exact NK e hx hy hk h
def bsr(l:Bool)(y:Keyed)(xs:Array Keyed)(b n p q:Nat):StateT SortSt Sem (Option Nat):=do
 let mut p:=p
 let mut q:=q
 for _ in [0:n] do
  if p>=q then break
  let m:=p+(q-p) / 2
  let some g <- bey l y xs (b+m)|return none
  if g then p:=m+1 else q:=m
 return some q
theorem YT(e:Env M A s κ key lt a₀){st:SortSt}(hk:kindOf st=κ){l:Bool}{y:Keyed}{xs:Array Keyed}{b n p q:Nat}(hy:y∈a₀.toList)(hz:b+n<=xs.size)(hm:∀ i,i<n->el xs (b+i)∈a₀.toList)
  (mono:∀ i j,i<=j->j<n->bv lt key l y (el xs (b+j))=true->bv lt key l y (el xs (b+i))=true) {Q:Option Nat->SortSt->Prop} (hpq:p<=q) (hq:q<=n)
  (hp':∀ i,i<p->bv lt key l y (el xs (b+i))=true) (hq':∀ i,q<=i->i<n->bv lt key l y (el xs (b+i))=false)
  (h:∀ k,k<=n->(∀ i,i<k->bv lt key l y (el xs (b+i))=true)->(∀ i,k<=i->i<n->bv lt key l y (el xs (b+i))=false)->Q (some k) st):wpS M A E s (bsr l y xs b n p q) Q st:=by
 unfold bsr;refine aM (iZ (kI (I:=fun x c st'=>st'=st/\∃ p q,c=(none,p,q)/\p<=q/\q<=n/\q-p<=n-x/\(∀ i,i<p->bv lt key l y (el xs (b+i))=true)/\(∀ i,q<=i->i<n->bv lt key l y (el xs (b+i))=false))
  (Q:=fun c st'=>st'=st/\∃ p q,c=(none,p,q)/\q<=n/\(∀ i,i<q->bv lt key l y (el xs (b+i))=true)/\(∀ i,q<=i->i<n->bv lt key l y (el xs (b+i))=false)) ?step ?fin ?init) ?post)
 case init=>exact⟨rfl,p,q,rfl,hpq,hq,by lia,hp',hq'⟩
 case fin=>
  rintro c st' ⟨rfl,p,q,rfl,a1,a2,a3,a4,a5⟩;have:p=q:=by lia
  subst this;exact⟨rfl,p,p,rfl,a2,a4,a5⟩
 case post=>
  rintro c st' ⟨rfl,p,q,rfl,a1,a4,a5⟩;exact aQ (h q a1 a4 a5)
 case step=>
  rintro x c st' _ hx ⟨rfl,p,q,rfl,a1,a2,a3,a4,a5⟩;dsimp only;by_cases hge:p>=q
  ·rw[aK hge];have:p=q:=by lia
   subst this;exact aQ ⟨rfl,p,p,rfl,a2,a4,a5⟩
  ·rw[aH hge];have c1:p<=p+(q-p) / 2:=by lia
   have c2:p+(q-p) / 2<q:=by lia
   generalize p+(q-p) / 2=m at c1 c2;refine aM (JD e hk hy (by lia) (hm _ (by lia)) ?_);dsimp only;by_cases hb:bv lt key l y (el xs (b+m))=true
   ·rw[aK hb];exact aQ ⟨rfl,m+1,q,rfl,by lia,a2,by lia,fun i hi=>mono i m (by lia) (by lia) hb,a5⟩
   ·rw[aH hb];refine aQ ⟨rfl,p,m,rfl,by omega,by lia,by lia,a4,fun i hi hn=>?_⟩;cases hc:bv lt key l y (el xs (b+i))
    ·rfl
    ·exact absurd (mono m i hi hn hc) hb
theorem ur(e:Env M A s κ key lt a₀){st:SortSt}(hk:kindOf st=κ){l:Bool}{y:Keyed}{xs:Array Keyed}{b n t:Nat}(hy:y∈a₀.toList)(hz:b+n<=xs.size)(hm:∀ i,i<n->el xs (b+i)∈a₀.toList)(ht:t<n)
  (mono:∀ i j,i<=j->j<n->bv lt key l y (el xs (b+j))=true->bv lt key l y (el xs (b+i))=true) {Q:Option Nat->SortSt->Prop}
  (h:∀ k,k<=n->(∀ i,i<k->bv lt key l y (el xs (b+i))=true)->(∀ i,k<=i->i<n->bv lt key l y (el xs (b+i))=false)->Q (some k) st):wpS M A E s (gal l y xs b n t) Q st:=by
 rw[a3b];refine aM (JD e hk hy (by lia) (hm t ht) ?_);dsimp only;have dn:∀ i j,i<=j->j<n->bv lt key l y (el xs (b+i))=false->bv lt key l y (el xs (b+j))=false:=fun i j h1 h2 h3=>by
  cases hc:bv lt key l y (el xs (b+j))
  ·rfl
  ·rw[mono i j h1 h2 hc] at h3;cases h3
 by_cases hb:bv lt key l y (el xs (b+t))=true
 ·rw[aK hb];refine aM (iZ (kI (I:=fun x c st'=>st'=st/\∃ o' o,c=(none,o',o)/\o'<o/\t+o'<n/\x+1<=o/\bv lt key l y (el xs (b+(t+o')))=true)
   (Q:=fun c st'=>st'=st/\∃ o' o,c=(none,o',o)/\o'<o/\t+o'<n/\bv lt key l y (el xs (b+(t+o')))=true/\(o<n-t->bv lt key l y (el xs (b+(t+o)))=false)) ?step ?fin ?init) ?post)
  case init=>exact⟨rfl,0,1,rfl,by lia,by omega,by lia,hb⟩
  case fin=>
   rintro c st' ⟨rfl,o',o,rfl,a1,a2,a3,a4⟩;exact⟨rfl,o',o,rfl,a1,a2,a4,fun z=>by lia⟩
  case step=>
   rintro x c st' _ hx ⟨rfl,o',o,rfl,a1,a2,a3,a4⟩;dsimp only;by_cases hge:o>=n-t
   ·rw[aK hge];exact aQ ⟨rfl,o',o,rfl,a1,a2,a4,fun z=>by lia⟩
   ·rw[aH hge];refine aM (JD e hk hy (by lia) (hm _ (by lia)) ?_);dsimp only;cases hc:bv lt key l y (el xs (b+(t+o)))
    ·rw[aK (by rfl)];exact aQ ⟨rfl,o',o,rfl,a1,a2,a4,fun _=>hc⟩
    ·rw[aH (by decide)];exact aQ ⟨rfl,o,2*o+1,rfl,by lia,by lia,by lia,hc⟩
  case post=>
   rintro c st' ⟨rfl,o',o,rfl,a1,a2,a4,a5⟩;dsimp only;change wpS M A E s (bsr l y xs b n (t+o'+1) (t+min o (n-t))) Q _;refine YT e hk hy hz hm mono (by lia) (by lia) (fun i hi=>mono i (t+o') (by lia) a2 a4) (fun i h1 h2=>?_) h;exact dn (t+o) i (by lia) h2 (a5 (by lia))
 ·rw[aH hb];refine aM (iZ (kI (I:=fun x c st'=>st'=st/\∃ o' o,c=(none,o',o)/\o'<o/\o'<=t/\x+1<=o/\bv lt key l y (el xs (b+(t-o')))=false)
   (Q:=fun c st'=>st'=st/\∃ o' o,c=(none,o',o)/\o'<o/\o'<=t/\bv lt key l y (el xs (b+(t-o')))=false/\(o<t+1->bv lt key l y (el xs (b+(t-o)))=true)) ?step ?fin ?init) ?post)
  case init=>exact⟨rfl,0,1,rfl,by lia,by lia,by lia,Gh hb⟩
  case fin=>
   rintro c st' ⟨rfl,o',o,rfl,a1,a2,a3,a4⟩;exact⟨rfl,o',o,rfl,a1,a2,a4,fun z=>by lia⟩
  case step=>
   rintro x c st' _ hx ⟨rfl,o',o,rfl,a1,a2,a3,a4⟩;dsimp only;by_cases hge:o>=t+1
   ·rw[aK hge];exact aQ ⟨rfl,o',o,rfl,a1,a2,a4,fun z=>by lia⟩
   ·rw[aH hge];refine aM (JD e hk hy (by lia) (hm _ (by lia)) ?_);dsimp only;cases hc:bv lt key l y (el xs (b+(t-o)))
    ·rw[aH (by decide)];exact aQ ⟨rfl,o,2*o+1,rfl,by lia,by lia,by lia,hc⟩
    ·rw[aK (by rfl)];exact aQ ⟨rfl,o',o,rfl,a1,a2,a4,fun _=>hc⟩
  case post=>
   rintro c st' ⟨rfl,o',o,rfl,a1,a2,a4,a5⟩;dsimp only;change wpS M A E s (bsr l y xs b n (t+1-min o (t+1)) (t-o')) Q _;refine YT e hk hy hz hm mono (by omega) (by lia) (fun i hi=>?_) (fun i h1 h2=>dn (t-o') i h1 h2 a4) h;exact mono i (t-o) (by lia) (by lia) (a5 (by lia))
end
end TS
end L2
namespace L2
open PySem PySem.Spec PyProof.Rows PySem.W
namespace TS
abbrev dh(st:SortSt)(g:Nat):SortSt:=SortSt.mk' (kindOf st) (arrOf st) (pendingOf st) g (failedOf st)
def mlo:Array Keyed->Array Keyed->StateT SortSt Sem (Array Keyed):=sortPriv% PySem.Builtin.mergeLo
def mhi:Array Keyed->Array Keyed->StateT SortSt Sem (Array Keyed):=sortPriv% PySem.Builtin.mergeHi
theorem a3z(a b:Array Keyed):mlo a b=(do
 (rule "list.sort.merge-lo" : Sem Unit)
 let t:=a.size+b.size
 let fin (o:Array Keyed) (i j:Nat):=o++a.extract i a.size++b.extract j b.size
 let nif (o:Array Keyed) (i j:Nat):=o++b.extract j b.size++a.extract i a.size
 let mut o:Array Keyed:=#[<- elem' b 0]
 let mut i:=0
 let mut j:=1
 if j==b.size then return fin o i j
 if i+1==a.size then return nif o i j
 let mut g:=gallopOf (<- get)
 for _ in [0:t] do
  let mut c:=0
  let mut d:=0
  for _ in [0:t] do
   let some w <- lt' (<- elem' b j) (<- elem' a i)|return fin o i j
   if w then
    o:=o.push (<- elem' b j);j:=j+1;d:=d+1;c:=0
    if j==b.size then return fin o i j
    if d>=g then break
   else
    o:=o.push (<- elem' a i);i:=i+1;c:=c+1;d:=0
    if i+1==a.size then return nif o i j
    if c>=g then break
  (rule "list.sort.gallop" : Sem Unit)
  g:=g+1
  for _ in [0:t] do
   if g>1 then g:=g-1
   modify fun s=>dh s g
   let some k <- gal false (<- elem' b j) a i (a.size-i) 0|return fin o i j
   c:=k
   if k>0 then
    o:=o++a.extract i (i+k);i:=i+k
    if i+1==a.size then return nif o i j
    if i==a.size then return fin o i j
   o:=o.push (<- elem' b j);j:=j+1
   if j==b.size then return fin o i j
   let some k <- gal true (<- elem' a i) b j (b.size-j) 0|return fin o i j
   d:=k
   if k>0 then
    o:=o++b.extract j (j+k);j:=j+k
    if j==b.size then return fin o i j
   o:=o.push (<- elem' a i);i:=i+1
   if i+1==a.size then return nif o i j
   if c<7&&d<7 then break
  g:=g+1
  modify fun s=>dh s g
 unsupported "internal:list.sort.merge-bound"):=rfl
theorem a3x(a b:Array Keyed):mhi a b=(do
 (rule "list.sort.merge-hi" : Sem Unit)
 let t:=a.size+b.size
 let fin (o:Array Keyed) (i j:Nat):=a.extract 0 i++b.extract 0 j++o.reverse
 let nif (o:Array Keyed) (i j:Nat):=b.extract 0 j++a.extract 0 i++o.reverse
 let mut i:=a.size-1
 let mut j:=b.size
 let mut o:Array Keyed:=#[<- elem' a i]
 if i==0 then return fin o i j
 if j==1 then return nif o i j
 let mut g:=gallopOf (<- get)
 for _ in [0:t] do
  let mut c:=0
  let mut d:=0
  for _ in [0:t] do
   let some w <- lt' (<- elem' b (j-1)) (<- elem' a (i-1))|return fin o i j
   if w then
    i:=i-1;o:=o.push (<- elem' a i);c:=c+1;d:=0
    if i==0 then return fin o i j
    if c>=g then break
   else
    j:=j-1;o:=o.push (<- elem' b j);d:=d+1;c:=0
    if j==1 then return nif o i j
    if d>=g then break
  (rule "list.sort.gallop" : Sem Unit)
  g:=g+1
  for _ in [0:t] do
   if g>1 then g:=g-1
   modify fun s=>dh s g
   let some p <- gal false (<- elem' b (j-1)) a 0 i (i-1)|return fin o i j
   let k:=i-p
   c:=k
   if k>0 then
    o:=o++(a.extract p i).reverse;i:=p
    if i==0 then return fin o i j
   j:=j-1;o:=o.push (<- elem' b j)
   if j==1 then return nif o i j
   let some p <- gal true (<- elem' a (i-1)) b 0 j (j-1)|return fin o i j
   let k:=j-p
   d:=k
   if k>0 then
    o:=o++(b.extract p j).reverse;j:=p
    if j==1 then return nif o i j
    if j==0 then return fin o i j
   i:=i-1;o:=o.push (<- elem' a i)
   if i==0 then return fin o i j
   if c<7&&d<7 then break
  g:=g+1
  modify fun s=>dh s g
 unsupported "internal:list.sort.merge-bound"):=rfl
section
variable{α:Type}{lt:α->α->Bool}{M:Model}{A:Around}{E:Value->Shared->Prop}{s:Shared}{κ:SortKind}{key:Keyed->α}{a₀:Array Keyed}
structure Mg(R:Keyed->Keyed->Prop)(X Y out x y:List Keyed):Prop where
 perm:(out++(x++y)).Perm (X++Y)
 up:out.Pairwise R
 ab:∀ p∈out,∀ q∈x++y,R p q
 sx:x.Pairwise R
 sy:y.Pairwise R
variable{R:Keyed->Keyed->Prop}{X Y out x y:List Keyed}{p q:Keyed}
theorem Mg.tx(m:Mg R X Y out (p::x) y)(h:∀ q∈y,R p q):Mg R X Y (out++[p]) x y:=by
 obtain⟨h1,h2,h3,h4,h5⟩:=m;rw[uL] at h4;refine⟨by simpa using h1,?_,?_,h4.2,h5⟩
 ·rw[vM];refine⟨h2,Zi _ _,fun a ha b hb=>?_⟩;rw[dB.mp hb];exact h3 a ha p (by simp)
 ·intro a ha b hb;rcases cR.mp ha with z|z
  ·exact h3 a z b (by rcases cR.mp hb with w|w<;>simp[w])
  ·rw[dB.mp z];rcases cR.mp hb with w|w
   ·exact h4.1 b w
   ·exact h b w
theorem Mg.swap(m:Mg R X Y out x y):Mg R Y X out y x:=
 ⟨((Qu (l₁:=y) (l₂:=x)).append_left out).trans (m.perm.trans Qu),m.up,fun a ha b hb=>m.ab a ha b (cR.mpr (cR.mp hb).symm),m.sy,m.sx⟩
theorem Mg.ty(m:Mg R X Y out x (q::y))(h:∀ p∈x,R q p):Mg R X Y (out++[q]) x y:=(m.swap.tx h).swap
theorem Mg.cx:∀(c:List Keyed){out:List Keyed},Mg R X Y out (c++x) y->(∀ p∈c,∀ q∈y,R p q)->Mg R X Y (out++c) x y
 |[],out,m,_=>by simpa using m
 |p::c,out,m,h=>by
  have:=Mg.cx c (m.tx (h p dY)) fun a ha=>h a (fU _ ha)
  simpa using this
theorem Mg.cy(c:List Keyed)(m:Mg R X Y out x (c++y))(h:∀ p∈c,∀ q∈x,R p q):Mg R X Y (out++c) x y:=(Mg.cx c m.swap h).swap
theorem Mg.a5i(m:Mg R X Y out [] y):(out++y).Perm (X++Y)/\(out++y).Pairwise R:=
 ⟨by simpa using m.perm,vM.mpr ⟨m.up,m.sy,fun a ha b hb=>m.ab a ha b (by simpa using hb)⟩⟩
theorem Mg.a2Y(m:Mg R X Y out x []):(out++x).Perm (X++Y)/\(out++x).Pairwise R:=
 ⟨by simpa using m.perm,vM.mpr ⟨m.up,m.sx,fun a ha b hb=>m.ab a ha b (by simpa using hb)⟩⟩
theorem Mg.last(m:Mg R X Y out [p] y)(h:∀ q∈y,R q p):(out++y++[p]).Perm (X++Y)/\(out++y++[p]).Pairwise R:=by
 have:=Mg.a2Y (Mg.cy (y:=[]) y (by simpa using m) (fun a ha b hb=>by rw[dB.mp hb];exact h a ha));exact this
def Le(lt:α->α->Bool)(key:Keyed->α)(p q:Keyed):Prop:=lt (key q) (key p)=false
theorem Le.trans(o:kO lt){p q r:Keyed}(h:Le lt key p q)(g:Le lt key q r):Le lt key p r:=o.tr _ _ _ h g
theorem Le.of(o:kO lt){p q:Keyed}(h:lt (key p) (key q)=true):Le lt key p q:=o.KJ _ _ h
theorem qI{a:Array Keyed}{i:Nat}(h:i<a.size):a.toList.drop i=el a i::a.toList.drop (i+1):=by
 rw[yp (by simpa using h)];congr 1;have:=qJ h;rw[ig h] at this;simpa using iu this
theorem pQ{a:Array Keyed}{i:Nat}:(a.extract i a.size).toList=a.toList.drop i:=by
 rw[Zu];refine Bs ?_;simp
theorem lH{a:Array Keyed}{i k:Nat}:(a.extract i (i+k)).toList=(a.toList.drop i).take k:=by
 rw[Zu,List.extract_eq_take_drop,Nat.add_sub_cancel_left]
theorem uX{a:Array Keyed}{i k:Nat}(h:i+k<=a.size){x:Keyed}(hx:x∈(a.toList.drop i).take k):∃ t,t<k/\x=el a (i+t):=by
 obtain⟨t,ht,e⟩:=Qw.mp hx;rw[jr,ux,eO] at ht;refine⟨t,by lia,?_⟩;rw[List.getElem_take,List.getElem_drop] at e;have:=qJ (xs:=a) (i:=i+t) (by lia);rw[ig (by lia)] at this;rw[<- e];simpa using iu this
theorem zX{a:Array Keyed}(h:a.toList.Pairwise (Le lt key))(o:kO lt){i j:Nat}(hij:i<=j)(hj:j<a.size):Le lt key (el a i) (el a j):=by
 by_cases e:i=j
 ·subst e;exact o.refl _
 ·have:=yq.mp h i j (by simp;lia) (by simpa using hj) (by lia);have e1:=qJ (xs:=a) (i:=i) (by lia);have e2:=qJ hj;rw[ig (by omega)] at e1 e2;rw[<- iu e1,<- iu e2];simpa using this
theorem uO(o:kO lt){l:Bool}{y:Keyed}{xs:Array Keyed}{b n:Nat}(h:∀ p q,p<=q->q<n->Le lt key (el xs (b+p)) (el xs (b+q))):∀ i j,i<=j->j<n->bv lt key l y (el xs (b+j))=true->bv lt key l y (el xs (b+i))=true:=by
 intro i j hij hj hb;have hl:=h i j hij hj;cases l
 ·unfold bv at hb ⊢;rw[aH g8] at hb ⊢;have h1:Le lt key (el xs (b+j)) y:=by
   unfold Le;cases hc:lt (key y) (key (el xs (b+j)))
   ·rfl
   ·rw[hc] at hb;cases hb
  have h2:lt (key y) (key (el xs (b+i)))=false:=hl.trans o h1;rw[h2];rfl
 ·unfold bv at hb ⊢;rw[aK rfl] at hb ⊢;cases hc:lt (key (el xs (b+i))) (key y)
  ·have h1:Le lt key y (el xs (b+i)):=hc;have h2:lt (key (el xs (b+j))) (key y)=false:=h1.trans o hl;rw[h2] at hb;cases hb
  ·rfl
theorem bvF{y x:Keyed}:bv lt key false y x=!lt (key y) (key x):=rfl
theorem bvT{y x:Keyed}:bv lt key true y x=lt (key x) (key y):=rfl
structure Two(lt:α->α->Bool)(key:Keyed->α)(a₀ a b:Array Keyed):Prop where
 ma:∀ x∈a.toList,x∈a₀.toList
 mb:∀ x∈b.toList,x∈a₀.toList
 sa:a.toList.Pairwise (Le lt key)
 sb:b.toList.Pairwise (Le lt key)
 za:1<=a.size
 zb:1<=b.size
 first:lt (key (el b 0)) (key (el a 0))=true
 last:∀ y∈b.toList,Le lt key y (el a (a.size-1))
def Res(lt:α->α->Bool)(key:Keyed->α)(a b r:Array Keyed):Prop:=r.toList.Perm (a.toList++b.toList)/\r.toList.Pairwise (Le lt key)
section lo
variable{a b o:Array Keyed}{i j k:Nat}
abbrev Lo(lt:α->α->Bool)(key:Keyed->α)(a b o:Array Keyed)(i j:Nat):Prop:=Mg (Le lt key) a.toList b.toList o.toList (a.toList.drop i) (b.toList.drop j)
theorem Lo.Bp(od:kO lt)(m:Lo lt key a b o i j)(hi:i<a.size)(hj:j<b.size)(h:lt (key (el b j)) (key (el a i))=true):Lo lt key a b (o.push (el b j)) i (j+1):=by
 unfold Lo at m ⊢;rw[qI hj] at m;rw[Af];refine m.ty fun p hp=>?_
 have sx:=m.sx;rw[qI hi] at hp sx;rcases cW.mp hp with rfl|z
 ·exact Le.of od h
 ·exact(Le.of od h).trans od ((uL.mp sx).1 p z)
theorem Lo.ug(od:kO lt)(m:Lo lt key a b o i j)(hi:i<a.size)(hj:j<b.size)(h:lt (key (el b j)) (key (el a i))=false):Lo lt key a b (o.push (el a i)) (i+1) j:=by
 unfold Lo at m ⊢;rw[qI hi] at m;rw[Af];refine m.tx fun p hp=>?_
 have sy:=m.sy;rw[qI hj] at hp sy;have h':Le lt key (el a i) (el b j):=h;rcases cW.mp hp with rfl|z
 ·exact h'
 ·exact h'.trans od ((uL.mp sy).1 p z)
theorem Lo.Og(od:kO lt)(m:Lo lt key a b o i j)(hi:i+k<=a.size)(hj:j<b.size)(h:∀ t,t<k->bv lt key false (el b j) (el a (i+t))=true):Lo lt key a b (o++a.extract i (i+k)) (i+k) j:=by
 unfold Lo at m ⊢;rw[mQ,lH];rw[<- Bu k (a.toList.drop i),Kg] at m;refine m.cx _ fun p hp q hq=>?_
 have sy:=m.sy;rw[qI hj] at hq sy;obtain⟨t,ht,rfl⟩:=uX hi hp;have h1:=h t ht;have h':Le lt key (el a (i+t)) (el b j):=by
  unfold Le;rw[bvF] at h1;cases hc:lt (key (el b j)) (key (el a (i+t)))
  ·rfl
  ·rw[hc] at h1;cases h1
 rcases cW.mp hq with rfl|z
 ·exact h'
 ·exact h'.trans od ((uL.mp sy).1 q z)
theorem Lo.CJ(od:kO lt)(m:Lo lt key a b o i j)(hi:i<a.size)(hj:j+k<=b.size)(h:∀ t,t<k->bv lt key true (el a i) (el b (j+t))=true):Lo lt key a b (o++b.extract j (j+k)) i (j+k):=by
 unfold Lo at m ⊢;rw[mQ,lH];rw[<- Bu k (b.toList.drop j),Kg] at m;refine m.cy _ fun p hp q hq=>?_
 have sx:=m.sx;rw[qI hi] at hq sx;obtain⟨t,ht,rfl⟩:=uX hj hp;have h':Le lt key (el b (j+t)) (el a i):=Le.of od (by have:=h t ht;rwa[bvT] at this);rcases cW.mp hq with rfl|z
 ·exact h'
 ·exact h'.trans od ((uL.mp sx).1 q z)
theorem Lo.Jh(m:Lo lt key a b o i j)(hj:j=b.size):Res lt key a b (o++a.extract i a.size++b.extract j b.size):=by
 unfold Lo at m;unfold Res;rw[mQ,mQ,pQ,pQ];have e:b.toList.drop j=[]:=by rw[hj];simp
 rw[e] at m ⊢;rw[rT];exact m.a2Y
theorem Lo.Jg(m:Lo lt key a b o i j)(hi:i=a.size):Res lt key a b (o++a.extract i a.size++b.extract j b.size):=by
 unfold Lo at m;unfold Res;rw[mQ,mQ,pQ,pQ];have e:a.toList.drop i=[]:=by rw[hi];simp
 rw[e] at m ⊢;rw[rT];exact m.a5i
theorem Lo.nif(t:Two lt key a₀ a b)(m:Lo lt key a b o i j)(hi:i+1=a.size):Res lt key a b (o++b.extract j b.size++a.extract i a.size):=by
 unfold Lo at m;unfold Res;rw[mQ,mQ,pQ,pQ];have e:a.toList.drop i=[el a i]:=by
  rw[qI (by lia),hi];have:a.toList.drop a.size=[]:=by simp
  rw[this]
 rw[e] at m ⊢;refine m.last fun q hq=>?_
 have:=t.last q (JT hq);rwa[show a.size-1=i by lia] at this
end lo
theorem a4S(e:Env M A s κ key lt a₀){st:SortSt}(hk:kindOf st=κ){a b:Array Keyed}(t:Two lt key a₀ a b){Q:Array Keyed->SortSt->Prop}
  (h:∀ r g,Res lt key a b r->Q r (dh st g)):wpS M A E s (mlo a b) Q st:=by
 rw[a3z];have ea:∀ i,i<a.size->el a i∈a₀.toList:=fun i hi=>t.ma _ (z8 hi)
 have eb:∀ i,i<b.size->el b i∈a₀.toList:=fun i hi=>t.mb _ (z8 hi)
 have ma:∀(l:Bool)(y:Keyed)(i:Nat),∀ p q,p<=q->q<a.size-i->bv lt key l y (el a (i+q))=true->bv lt key l y (el a (i+p))=true:=fun l y i=>uO e.o fun p q h1 h2=>zX t.sa e.o (by lia) (by lia)
 have mb:∀(l:Bool)(y:Keyed)(i:Nat),∀ p q,p<=q->q<b.size-i->bv lt key l y (el b (i+q))=true->bv lt key l y (el b (i+p))=true:=fun l y i=>uO e.o fun p q h1 h2=>zX t.sb e.o (by lia) (by lia)
 have za:=t.za;have zb:=t.zb;have hkg:∀ g,kindOf (dh st g)=κ:=fun _=>hk
 refine aM (wX (jT ⟨rfl,?_⟩));refine aM (fO (by lia) ?_);have m0:Lo lt key a b #[el b 0] 0 1:=by
  have:Lo lt key a b #[] 0 0:=⟨by simp,List.Pairwise.nil,(fun p hp=>by cases hp),by simpa using t.sa,by simpa using t.sb⟩
  exact this.Bp e.o (by lia) (by lia) t.first
 by_cases c1:1=b.size
 ·rw[aK (by simpa using c1)];exact aQ (h _ (gallopOf st) (m0.Jh c1))
 rw[aH (by simpa using c1)];by_cases c2:0+1=a.size
 ·rw[aK (by simpa using c2)];exact aQ (h _ (gallopOf st) (m0.nif t c2))
 rw[aH (by simpa using c2)];refine aM (mL ?_);dsimp only;refine aM (iZ (kI (I:=fun x c st'=>(∃ g',st'=dh st g')/\∃ o i j g,c=(none,o,i,j,g)/\Lo lt key a b o i j/\i+1<a.size/\j<b.size/\x+1<=i+j)
  (Q:=fun c st'=>(∃ g',st'=dh st g')/\∃ r z,c=(some r,z)/\Res lt key a b r) ?step ?fin ?init) ?post)
 case init=>exact⟨⟨gallopOf st,rfl⟩,_,0,1,_,rfl,m0,by lia,by lia,by lia⟩
 case fin=>
  rintro c st' ⟨_,o,i,j,g,rfl,_,b1,b2,b3⟩;exfalso;lia
 case post=>
  rintro c st' ⟨⟨g',rfl⟩,r,z,rfl,hr⟩;exact aQ (h r g' hr)
 case step=>
  rintro x c st' _ hx ⟨⟨g',rfl⟩,o,i,j,g,rfl,m1,b1,b2,b3⟩;dsimp only;refine aM (iZ (kI (I:=fun y c st'=>(∃ g',st'=dh st g')/\∃ o i j u v,c=(none,o,i,j,u,v)/\Lo lt key a b o i j/\i+1<a.size/\j<b.size/\x+1+y<=i+j)
   (Q:=fun c st'=>(∃ g',st'=dh st g')/\((∃ r z,c=(some r,z)/\Res lt key a b r)\/∃ o i j u v,c=(none,o,i,j,u,v)/\Lo lt key a b o i j/\i+1<a.size/\j<b.size/\x+2<=i+j)) ?s1 ?f1 ?i1) ?p1)
  case i1=>exact⟨⟨g',rfl⟩,o,i,j,0,0,rfl,m1,b1,b2,by omega⟩
  case f1=>
   rintro c st' ⟨_,o,i,j,u,v,rfl,_,b1,b2,b3⟩;exfalso;lia
  case s1=>
   rintro y c st' _ hy ⟨⟨g',rfl⟩,o,i,j,u,v,rfl,m2,d1,d2,d3⟩;dsimp only;refine aM (fO (by omega) (aM (fO (by lia) (aM (NK e (st:=dh st g') (eb j (by omega)) (ea i (by lia)) hk ?_)))));dsimp only;by_cases hb:lt (key (el b j)) (key (el a i))=true
   ·rw[aK hb];refine aM (fO (by omega) ?_);have m3:=m2.Bp e.o (by lia) (by omega) hb;by_cases f1:j+1=b.size
    ·rw[aK (by simpa using f1)];exact aQ ⟨⟨g',rfl⟩,.inl ⟨_,_,rfl,m3.Jh f1⟩⟩
    ·rw[aH (by simpa using f1)];by_cases f2:v+1>=g
     ·rw[aK f2];exact aQ ⟨⟨g',rfl⟩,.inr ⟨_,_,_,_,_,rfl,m3,d1,by lia,by lia⟩⟩
     ·rw[aH f2];exact aQ ⟨⟨g',rfl⟩,_,_,_,_,_,rfl,m3,d1,by lia,by lia⟩
   ·rw[aH hb];refine aM (fO (by lia) ?_);have m3:=m2.ug e.o (by lia) (by omega) (Gh hb);by_cases f1:i+1+1=a.size
    ·rw[aK (by simpa using f1)];exact aQ ⟨⟨g',rfl⟩,.inl ⟨_,_,rfl,m3.nif t f1⟩⟩
    ·rw[aH (by simpa using f1)];by_cases f2:u+1>=g
     ·rw[aK f2];exact aQ ⟨⟨g',rfl⟩,.inr ⟨_,_,_,_,_,rfl,m3,by lia,by omega,by lia⟩⟩
     ·rw[aH f2];exact aQ ⟨⟨g',rfl⟩,_,_,_,_,_,rfl,m3,by lia,by omega,by lia⟩
  case p1=>
   rintro c st' ⟨⟨g',rfl⟩,⟨r,z,rfl,hr⟩|⟨o,i,j,u,v,rfl,m2,d1,d2,d3⟩⟩
   ·exact aQ ⟨⟨g',rfl⟩,r,_,rfl,hr⟩
   dsimp only;refine aM (wX (jT ⟨rfl,?_⟩));refine aM (iZ (kI (I:=fun y c st'=>(∃ g',st'=dh st g')/\∃ o i j g u v,c=(none,o,i,j,g,u,v)/\Lo lt key a b o i j/\i+1<a.size/\j<b.size/\x+2+y<=i+j)
    (Q:=fun c st'=>(∃ g',st'=dh st g')/\((∃ r z,c=(some r,z)/\Res lt key a b r)\/∃ o i j g u v,c=(none,o,i,j,g,u,v)/\Lo lt key a b o i j/\i+1<a.size/\j<b.size/\x+2<=i+j)) ?s2 ?f2 ?i2) ?p2)
   case i2=>exact⟨⟨g',rfl⟩,o,i,j,_,u,v,rfl,m2,d1,d2,by omega⟩
   case f2=>
    rintro c st' ⟨_,o,i,j,g,u,v,rfl,_,b1,b2,b3⟩;exfalso;lia
   case p2=>
    rintro c st' ⟨⟨g',rfl⟩,⟨r,z,rfl,hr⟩|⟨o,i,j,g,u,v,rfl,m2,d1,d2,d3⟩⟩
    ·exact aQ ⟨⟨g',rfl⟩,r,_,rfl,hr⟩
    ·exact aM (lD (aQ ⟨⟨_,rfl⟩,o,i,j,_,rfl,m2,d1,d2,by omega⟩))
   case s2=>
    rintro y c st' _ hy ⟨⟨g',rfl⟩,o,i,j,g,u,v,rfl,m3,d1,d2,d3⟩;dsimp only;by_cases hg:g>1
    all_goals first|rw[aK hg]|rw[aH hg]
    all_goals
     refine aM (lD (aM (fO (by omega) (aM (ur e (st:=dh st _) (b:=i) (n:=a.size-i) (t:=0) (hkg _) (eb j (by omega)) (by lia) (fun t ht=>ea _ (by lia)) (by lia) (ma _ _ _) ?_)))));intro k k1 k2 k3;dsimp only;have m4:Lo lt key a b (o++a.extract i (i+k)) (i+k) j:=m3.Og e.o (by lia) (by omega) k2;have lb:i+k<a.size->lt (key (el b j)) (key (el a (i+k)))=true:=fun z=>by
      have:=k3 k (bK _) (by lia);rw[bvF] at this;cases hc:lt (key (el b j)) (key (el a (i+k)))
      ·rw[hc] at this;cases this
      ·rfl
     by_cases hk0:k>0
     ·rw[aK hk0];by_cases f1:i+k+1=a.size
      ·rw[aK (by simpa using f1)];exact aQ ⟨⟨_,rfl⟩,.inl ⟨_,_,rfl,m4.nif t f1⟩⟩
      rw[aH (by simpa using f1)];by_cases f2:i+k=a.size
      ·rw[aK (by simpa using f2)];exact aQ ⟨⟨_,rfl⟩,.inl ⟨_,_,rfl,m4.Jg f2⟩⟩
      rw[aH (by simpa using f2)];have lb':=lb (by lia);have d1':i+k+1<a.size:=by lia
      have d3':x+2+y<=i+k+j:=by lia
      clear lb k2 k3;generalize o++a.extract i (i+k)=o1 at m4 ⊢;generalize i+k=i1 at m4 lb' d1' d3' ⊢;clear m3 d1 d3 k1 f1 f2;refine aM (fO (by omega) ?_);have m5:=m4.Bp e.o (by lia) (by omega) lb';by_cases f3:j+1=b.size
      ·rw[aK (by simpa using f3)];exact aQ ⟨⟨_,rfl⟩,.inl ⟨_,_,rfl,m5.Jh f3⟩⟩
      rw[aH (by simpa using f3)];refine aM (fO (by lia) (aM (ur e (st:=dh st _) (b:=j+1) (n:=b.size-(j+1)) (t:=0) (hkg _) (ea i1 (by lia)) (by lia) (fun t ht=>eb _ (by lia)) (by lia) (mb _ _ _) ?_)));intro l l1 l2 l3;dsimp only;have m6:=m5.CJ (k:=l) e.o (by lia) (by lia) l2;have la:j+1+l<b.size->lt (key (el b (j+1+l))) (key (el a i1))=false:=fun z=>by
       have:=l3 l (bK _) (by lia);rwa[bvT] at this
      by_cases hl0:l>0
      ·rw[aK hl0];by_cases f4:j+1+l=b.size
       ·rw[aK (by simpa using f4)];exact aQ ⟨⟨_,rfl⟩,.inl ⟨_,_,rfl,m6.Jh f4⟩⟩
       rw[aH (by simpa using f4)];refine aM (fO (by lia) ?_);have m7:=m6.ug e.o (by lia) (by lia) (la (by lia));by_cases f5:i1+1+1=a.size
       ·rw[aK (by simpa using f5)];exact aQ ⟨⟨_,rfl⟩,.inl ⟨_,_,rfl,m7.nif t f5⟩⟩
       rw[aH (by simpa using f5)];split
       ·exact aQ ⟨⟨_,rfl⟩,.inr ⟨_,_,_,_,_,_,rfl,m7,by lia,by lia,by lia⟩⟩
       ·exact aQ ⟨⟨_,rfl⟩,_,_,_,_,_,_,rfl,m7,by lia,by lia,by lia⟩
      ·rw[aH hl0];have:l=0:=by lia
       subst this;have la':=la (by lia);rw[FP] at la';refine aM (fO (by lia) ?_);have m7:=m5.ug e.o (by lia) (by lia) la';by_cases f5:i1+1+1=a.size
       ·rw[aK (by simpa using f5)];exact aQ ⟨⟨_,rfl⟩,.inl ⟨_,_,rfl,m7.nif t f5⟩⟩
       rw[aH (by simpa using f5)];split
       ·exact aQ ⟨⟨_,rfl⟩,.inr ⟨_,_,_,_,_,_,rfl,m7,by lia,by lia,by lia⟩⟩
       ·exact aQ ⟨⟨_,rfl⟩,_,_,_,_,_,_,rfl,m7,by lia,by lia,by lia⟩
     ·rw[aH hk0];have:k=0:=by lia
      subst this;have lb':=lb (by lia);rw[FP] at lb';refine aM (fO (by omega) ?_);have m5:=m3.Bp e.o (by lia) (by omega) lb';by_cases f3:j+1=b.size
      ·rw[aK (by simpa using f3)];exact aQ ⟨⟨_,rfl⟩,.inl ⟨_,_,rfl,m5.Jh f3⟩⟩
      rw[aH (by simpa using f3)];refine aM (fO (by lia) (aM (ur e (st:=dh st _) (b:=j+1) (n:=b.size-(j+1)) (t:=0) (hkg _) (ea i (by lia)) (by lia) (fun t ht=>eb _ (by lia)) (by lia) (mb _ _ _) ?_)));intro l l1 l2 l3;dsimp only;have m6:=m5.CJ (k:=l) e.o (by lia) (by lia) l2;have la:j+1+l<b.size->lt (key (el b (j+1+l))) (key (el a i))=false:=fun z=>by
       have:=l3 l (bK _) (by lia);rwa[bvT] at this
      by_cases hl0:l>0
      ·rw[aK hl0];by_cases f4:j+1+l=b.size
       ·rw[aK (by simpa using f4)];exact aQ ⟨⟨_,rfl⟩,.inl ⟨_,_,rfl,m6.Jh f4⟩⟩
       rw[aH (by simpa using f4)];refine aM (fO (by lia) ?_);have m7:=m6.ug e.o (by lia) (by lia) (la (by lia));by_cases f5:i+1+1=a.size
       ·rw[aK (by simpa using f5)];exact aQ ⟨⟨_,rfl⟩,.inl ⟨_,_,rfl,m7.nif t f5⟩⟩
       rw[aH (by simpa using f5)];split
       ·exact aQ ⟨⟨_,rfl⟩,.inr ⟨_,_,_,_,_,_,rfl,m7,by lia,by lia,by lia⟩⟩
       ·exact aQ ⟨⟨_,rfl⟩,_,_,_,_,_,_,rfl,m7,by lia,by lia,by lia⟩
      ·rw[aH hl0];have:l=0:=by lia
       subst this;have la':=la (by lia);rw[FP] at la';refine aM (fO (by lia) ?_);have m7:=m5.ug e.o (by lia) (by lia) la';by_cases f5:i+1+1=a.size
       ·rw[aK (by simpa using f5)];exact aQ ⟨⟨_,rfl⟩,.inl ⟨_,_,rfl,m7.nif t f5⟩⟩
       rw[aH (by simpa using f5)];split
       ·exact aQ ⟨⟨_,rfl⟩,.inr ⟨_,_,_,_,_,_,rfl,m7,by lia,by lia,by lia⟩⟩
       ·exact aQ ⟨⟨_,rfl⟩,_,_,_,_,_,_,rfl,m7,by lia,by lia,by lia⟩
end
end TS
end L2
namespace L2
open PySem PySem.Spec PyProof.Rows PySem.W
namespace TS
section
variable{α:Type}{lt:α->α->Bool}{M:Model}{A:Around}{E:Value->Shared->Prop}{s:Shared}{κ:SortKind}{key:Keyed->α}{a₀:Array Keyed}
section hi
variable{a b o:Array Keyed}{i j k p:Nat}
theorem oW(h1:1<=i)(h:i<=a.size):(a.toList.take i).reverse=el a (i-1)::(a.toList.take (i-1)).reverse:=by
 obtain⟨n,rfl⟩:∃ n,i=n+1:=⟨i-1,by lia⟩
 rw[ZJ,List.take_add_one,Zy];have:=qJ (xs:=a) (i:=n) (by lia);have e:a.toList[n]?=some (el a n):=by simpa using this
 rw[e];rfl
abbrev Ge(lt:α->α->Bool)(key:Keyed->α)(p q:Keyed):Prop:=Le lt key q p
abbrev Hi(lt:α->α->Bool)(key:Keyed->α)(a b o:Array Keyed)(i j:Nat):Prop:=Mg (Ge lt key) a.toList.reverse b.toList.reverse o.toList (a.toList.take i).reverse (b.toList.take j).reverse
theorem Hi.ug(od:kO lt)(m:Hi lt key a b o i j)(h1:1<=i)(hi:i<=a.size)(h2:1<=j)(hj:j<=b.size)(h:lt (key (el b (j-1))) (key (el a (i-1)))=true):Hi lt key a b (o.push (el a (i-1))) (i-1) j:=by
 unfold Hi at m ⊢;rw[oW h1 hi] at m;rw[Af];refine m.tx fun q hq=>?_
 have sy:=m.sy;rw[oW h2 hj] at hq sy;rcases cW.mp hq with rfl|z
 ·exact Le.of od h
 ·exact Le.trans od ((uL.mp sy).1 q z) (Le.of od h)
theorem Hi.Bp(od:kO lt)(m:Hi lt key a b o i j)(h1:1<=i)(hi:i<=a.size)(h2:1<=j)(hj:j<=b.size)(h:lt (key (el b (j-1))) (key (el a (i-1)))=false):Hi lt key a b (o.push (el b (j-1))) i (j-1):=by
 unfold Hi at m ⊢;rw[oW h2 hj] at m;rw[Af];refine m.ty fun q hq=>?_
 have sx:=m.sx;rw[oW h1 hi] at hq sx;have h':Le lt key (el a (i-1)) (el b (j-1)):=h;rcases cW.mp hq with rfl|z
 ·exact h'
 ·exact Le.trans od ((uL.mp sx).1 q z) h'
theorem T4(hp:p<=i):(a.toList.take i).reverse=((a.toList.drop p).take (i-p)).reverse++(a.toList.take p).reverse:=by
 rw[<- Zy];congr 1;have:=List.take_add (l:=a.toList) (i:=p) (j:=i-p);rwa[show p+(i-p)=i by lia] at this
theorem Rz(hp:p<=i):((a.extract p i).reverse).toList=((a.toList.drop p).take (i-p)).reverse:=by
 rw[JV];congr 1;have:=lH (a:=a) (i:=p) (k:=i-p);rwa[show p+(i-p)=i by lia] at this
theorem Hi.Og(od:kO lt)(m:Hi lt key a b o i j)(hp:p<=i)(hi:i<=a.size)(h2:1<=j)(hj:j<=b.size)(h:∀ t,p<=t->t<i->bv lt key false (el b (j-1)) (el a t)=false):Hi lt key a b (o++(a.extract p i).reverse) p j:=by
 unfold Hi at m ⊢;rw[mQ,Rz hp];rw[T4 hp] at m;refine m.cx _ fun u hu q hq=>?_
 have sy:=m.sy;rw[oW h2 hj] at hq sy;obtain⟨t,ht,rfl⟩:=uX (by lia) (Ka.mp hu);have h1:=h (p+t) (by lia) (by lia);have h':Le lt key (el b (j-1)) (el a (p+t)):=by
  rw[bvF] at h1;cases hc:lt (key (el b (j-1))) (key (el a (p+t)))
  ·rw[hc] at h1;cases h1
  ·exact Le.of od hc
 rcases cW.mp hq with rfl|z
 ·exact h'
 ·exact Le.trans od ((uL.mp sy).1 q z) h'
theorem Hi.CJ(od:kO lt)(m:Hi lt key a b o i j)(hp:p<=j)(hj:j<=b.size)(h1:1<=i)(hi:i<=a.size)(h:∀ t,p<=t->t<j->bv lt key true (el a (i-1)) (el b t)=false):Hi lt key a b (o++(b.extract p j).reverse) i p:=by
 unfold Hi at m ⊢;rw[mQ,Rz hp];rw[T4 hp] at m;refine m.cy _ fun u hu q hq=>?_
 have sx:=m.sx;rw[oW h1 hi] at hq sx;obtain⟨t,ht,rfl⟩:=uX (by lia) (Ka.mp hu);have h':Le lt key (el a (i-1)) (el b (p+t)):=by
  have:=h (p+t) (by lia) (by lia);rwa[bvT] at this
 rcases cW.mp hq with rfl|z
 ·exact h'
 ·exact Le.trans od ((uL.mp sx).1 q z) h'
theorem Js{l:List Keyed}{r:Array Keyed}(e:r.toList=l.reverse)(h:l.Perm (a.toList.reverse++b.toList.reverse)/\l.Pairwise (Ge lt key)):Res lt key a b r:=by
 unfold Res;rw[e];refine⟨(QT l).trans (h.1.trans ((QT _).append (QT _))),Qv.mpr h.2⟩
theorem Ub:(a.extract 0 i).toList=a.toList.take i:=by
 have:=lH (a:=a) (i:=0) (k:=i);rwa[wW,Fx] at this
theorem Hi.Jg(m:Hi lt key a b o i j)(hi:i=0):Res lt key a b (a.extract 0 i++b.extract 0 j++o.reverse):=by
 unfold Hi at m;have e:(a.toList.take i).reverse=[]:=by rw[hi];rfl
 rw[e] at m;refine Js ?_ m.a5i;rw[mQ,mQ,Ub,Ub,JV,hi];simp
theorem Hi.Jh(m:Hi lt key a b o i j)(hj:j=0):Res lt key a b (a.extract 0 i++b.extract 0 j++o.reverse):=by
 unfold Hi at m;have e:(b.toList.take j).reverse=[]:=by rw[hj];rfl
 rw[e] at m;refine Js ?_ m.a2Y;rw[mQ,mQ,Ub,Ub,JV,hj];simp
theorem Hi.nif(od:kO lt)(t:Two lt key a₀ a b)(m:Hi lt key a b o i j)(hj:j=1):Res lt key a b (b.extract 0 j++a.extract 0 i++o.reverse):=by
 unfold Hi at m;have zb:=t.zb;have e:(b.toList.take j).reverse=[el b 0]:=by rw[hj,oW (bK _) zb];simp
 rw[e] at m;have:=m.swap.last fun q hq=>show Le lt key (el b 0) q from by
  obtain⟨n,hn,rfl⟩:=Qw.mp (wL (Ka.mp hq));have hn':n<a.size:=by simpa using hn
  have e1:=qJ hn';rw[ig hn'] at e1;rw[JW,iu e1];exact Le.trans od (Le.of od t.first) (zX t.sa od (j7 _) hn')
 refine Js ?_ ⟨this.1.trans Qu,this.2⟩;rw[mQ,mQ,Ub,Ub,JV];have e2:b.toList.take j=[el b 0]:=by
  have:=congrArg List.reverse e;simpa using this
 rw[e2];simp
end hi
theorem a4R(e:Env M A s κ key lt a₀){st:SortSt}(hk:kindOf st=κ){a b:Array Keyed}(t:Two lt key a₀ a b){Q:Array Keyed->SortSt->Prop}
  (h:∀ r g,Res lt key a b r->Q r (dh st g)):wpS M A E s (mhi a b) Q st:=by
 rw[a3x];have ea:∀ i,i<a.size->el a i∈a₀.toList:=fun i hi=>t.ma _ (z8 hi)
 have eb:∀ i,i<b.size->el b i∈a₀.toList:=fun i hi=>t.mb _ (z8 hi)
 have ma:∀(l:Bool)(y:Keyed)(n:Nat),n<=a.size->∀ p q,p<=q->q<n->bv lt key l y (el a (0+q))=true->bv lt key l y (el a (0+p))=true:=fun l y n hn=>uO e.o fun p q h1 h2=>zX t.sa e.o (by lia) (by lia)
 have mb:∀(l:Bool)(y:Keyed)(n:Nat),n<=b.size->∀ p q,p<=q->q<n->bv lt key l y (el b (0+q))=true->bv lt key l y (el b (0+p))=true:=fun l y n hn=>uO e.o fun p q h1 h2=>zX t.sb e.o (by lia) (by lia)
 have za:=t.za;have zb:=t.zb;have hkg:∀ g,kindOf (dh st g)=κ:=fun _=>hk
 refine aM (wX (jT ⟨rfl,?_⟩));refine aM (fO (by omega) ?_);have m0:Hi lt key a b #[el a (a.size-1)] (a.size-1) b.size:=by
  have:Hi lt key a b #[] a.size b.size:=by
   refine⟨?_,List.Pairwise.nil,(fun p hp=>by cases hp),?_,?_⟩
   ·rw[Bs (by simp),Bs (by simp)];exact .refl _
   ·rw[Bs (by simp)];exact Qv.mpr t.sa
   ·rw[Bs (by simp)];exact Qv.mpr t.sb
  unfold Hi at this ⊢;rw[oW za (bK _)] at this;refine this.tx fun q hq=>t.last q ?_
  exact wL (Ka.mp hq)
 by_cases c1:a.size-1=0
 ·rw[aK (by simpa using c1)];exact aQ (h _ (gallopOf st) (m0.Jg c1))
 rw[aH (by simpa using c1)];by_cases c2:b.size=1
 ·rw[aK (by simpa using c2)];exact aQ (h _ (gallopOf st) (m0.nif e.o t c2))
 rw[aH (by simpa using c2)];refine aM (mL ?_);dsimp only;refine aM (iZ (kI (I:=fun x c st'=>(∃ g',st'=dh st g')/\∃ o i j g,c=(none,i,j,o,g)/\Hi lt key a b o i j/\(1<=i/\i<=a.size/\2<=j/\j<=b.size)/\i+j+x+1<=a.size+b.size)
  (Q:=fun c st'=>(∃ g',st'=dh st g')/\∃ r z,c=(some r,z)/\Res lt key a b r) ?step ?fin ?init) ?post)
 case init=>exact⟨⟨gallopOf st,rfl⟩,_,_,_,_,rfl,m0,by lia,by lia⟩
 case fin=>
  rintro c st' ⟨_,o,i,j,g,rfl,_,b1,b3⟩;exfalso;lia
 case post=>
  rintro c st' ⟨⟨g',rfl⟩,r,z,rfl,hr⟩;exact aQ (h r g' hr)
 case step=>
  rintro x c st' _ hx ⟨⟨g',rfl⟩,o,i,j,g,rfl,m1,b1,b3⟩;dsimp only;refine aM (iZ (kI (I:=fun y c st'=>(∃ g',st'=dh st g')/\∃ o i j u v,c=(none,i,j,o,u,v)/\Hi lt key a b o i j/\(1<=i/\i<=a.size/\2<=j/\j<=b.size)/\i+j+x+1+y<=a.size+b.size)
   (Q:=fun c st'=>(∃ g',st'=dh st g')/\((∃ r z,c=(some r,z)/\Res lt key a b r)\/∃ o i j u v,c=(none,i,j,o,u,v)/\Hi lt key a b o i j/\(1<=i/\i<=a.size/\2<=j/\j<=b.size)/\i+j+x+2<=a.size+b.size)) ?s1 ?f1 ?i1) ?p1)
  case i1=>exact⟨⟨g',rfl⟩,o,i,j,0,0,rfl,m1,b1,by omega⟩
  case f1=>
   rintro c st' ⟨_,o,i,j,u,v,rfl,_,b1,b3⟩;exfalso;lia
  case s1=>
   rintro y c st' _ hy ⟨⟨g',rfl⟩,o,i,j,u,v,rfl,m2,d1,d3⟩;dsimp only;refine aM (fO (by lia) (aM (fO (by lia) (aM (NK e (st:=dh st g') (eb (j-1) (by lia)) (ea (i-1) (by lia)) hk ?_)))));dsimp only;by_cases hb:lt (key (el b (j-1))) (key (el a (i-1)))=true
   ·rw[aK hb];refine aM (fO (by lia) ?_);have m3:=m2.ug e.o (by lia) (by lia) (by lia) (by lia) hb;by_cases f1:i-1=0
    ·rw[aK (by simpa using f1)];exact aQ ⟨⟨g',rfl⟩,.inl ⟨_,_,rfl,m3.Jg f1⟩⟩
    ·rw[aH (by simpa using f1)];by_cases f2:u+1>=g
     ·rw[aK f2];exact aQ ⟨⟨g',rfl⟩,.inr ⟨_,_,_,_,_,rfl,m3,by lia,by lia⟩⟩
     ·rw[aH f2];exact aQ ⟨⟨g',rfl⟩,_,_,_,_,_,rfl,m3,by lia,by lia⟩
   ·rw[aH hb];refine aM (fO (by lia) ?_);have m3:=m2.Bp e.o (by lia) (by lia) (by lia) (by lia) (Gh hb);by_cases f1:j-1=1
    ·rw[aK (by simpa using f1)];exact aQ ⟨⟨g',rfl⟩,.inl ⟨_,_,rfl,m3.nif e.o t f1⟩⟩
    ·rw[aH (by simpa using f1)];by_cases f2:v+1>=g
     ·rw[aK f2];exact aQ ⟨⟨g',rfl⟩,.inr ⟨_,_,_,_,_,rfl,m3,by lia,by lia⟩⟩
     ·rw[aH f2];exact aQ ⟨⟨g',rfl⟩,_,_,_,_,_,rfl,m3,by lia,by lia⟩
  case p1=>
   rintro c st' ⟨⟨g',rfl⟩,⟨r,z,rfl,hr⟩|⟨o,i,j,u,v,rfl,m2,d1,d3⟩⟩
   ·exact aQ ⟨⟨g',rfl⟩,r,_,rfl,hr⟩
   dsimp only;refine aM (wX (jT ⟨rfl,?_⟩));refine aM (iZ (kI (I:=fun y c st'=>(∃ g',st'=dh st g')/\∃ o i j g u v,c=(none,i,j,o,g,u,v)/\Hi lt key a b o i j/\(1<=i/\i<=a.size/\2<=j/\j<=b.size)/\i+j+x+2+y<=a.size+b.size)
    (Q:=fun c st'=>(∃ g',st'=dh st g')/\((∃ r z,c=(some r,z)/\Res lt key a b r)\/∃ o i j g u v,c=(none,i,j,o,g,u,v)/\Hi lt key a b o i j/\(1<=i/\i<=a.size/\2<=j/\j<=b.size)/\i+j+x+2<=a.size+b.size)) ?s2 ?f2 ?i2) ?p2)
   case i2=>exact⟨⟨g',rfl⟩,o,i,j,_,u,v,rfl,m2,d1,by omega⟩
   case f2=>
    rintro c st' ⟨_,o,i,j,g,u,v,rfl,_,b1,b3⟩;exfalso;lia
   case p2=>
    rintro c st' ⟨⟨g',rfl⟩,⟨r,z,rfl,hr⟩|⟨o,i,j,g,u,v,rfl,m2,d1,d3⟩⟩
    ·exact aQ ⟨⟨g',rfl⟩,r,_,rfl,hr⟩
    ·exact aM (lD (aQ ⟨⟨_,rfl⟩,o,i,j,_,rfl,m2,d1,by omega⟩))
   case s2=>
    rintro y c st' _ hy ⟨⟨g',rfl⟩,o,i,j,g,u,v,rfl,m3,d1,d3⟩;dsimp only;by_cases hg:g>1
    all_goals first|rw[aK hg]|rw[aH hg]
    all_goals
     refine aM (lD (aM (fO (by lia) (aM (ur e (st:=dh st _) (b:=0) (n:=i) (t:=i-1) (hkg _) (eb (j-1) (by lia)) (by lia) (fun t ht=>ea _ (by lia)) (by lia) (ma _ _ _ (by lia)) ?_)))));intro k k1 k2 k3;dsimp only;have m4:=m3.Og (p:=k) e.o k1 (by lia) (by lia) (by lia) (fun t t1 t2=>by have:=k3 t t1 t2;rwa[wW] at this);have lb:1<=k->lt (key (el b (j-1))) (key (el a (k-1)))=false:=fun z=>by
      have:=k2 (k-1) (by lia);rw[bvF,wW] at this;cases hc:lt (key (el b (j-1))) (key (el a (k-1)))
      ·rfl
      ·rw[hc] at this;cases this
     by_cases hk0:i-k>0
     ·rw[aK hk0];by_cases f1:k=0
      ·rw[aK (by simpa using f1)];exact aQ ⟨⟨_,rfl⟩,.inl ⟨_,_,rfl,m4.Jg f1⟩⟩
      rw[aH (by simpa using f1)];have lb':=lb (by lia);generalize o++(a.extract k i).reverse=o1 at m4 ⊢;refine aM (fO (by lia) ?_);have m5:=m4.Bp e.o (by lia) (by lia) (by lia) (by lia) lb';by_cases f3:j-1=1
      ·rw[aK (by simpa using f3)];exact aQ ⟨⟨_,rfl⟩,.inl ⟨_,_,rfl,m5.nif e.o t f3⟩⟩
      rw[aH (by simpa using f3)];refine aM (fO (by lia) (aM (ur e (st:=dh st _) (b:=0) (n:=j-1) (t:=j-1-1) (hkg _) (ea (k-1) (by lia)) (by lia) (fun t ht=>eb _ (by lia)) (by lia) (mb _ _ _ (by lia)) ?_)));intro l l1 l2 l3;dsimp only;have m6:=m5.CJ (p:=l) e.o (by omega) (by lia) (by lia) (by lia) (fun t t1 t2=>by have:=l3 t t1 t2;rwa[wW] at this);have la:1<=l->lt (key (el b (l-1))) (key (el a (k-1)))=true:=fun z=>by
       have:=l2 (l-1) (by lia);rw[bvT,wW] at this;exact this
      by_cases hl0:j-1-l>0
      ·rw[aK hl0];by_cases f4:l=1
       ·rw[aK (by simpa using f4)];exact aQ ⟨⟨_,rfl⟩,.inl ⟨_,_,rfl,m6.nif e.o t f4⟩⟩
       rw[aH (by simpa using f4)];by_cases f7:l=0
       ·rw[aK (by simpa using f7)];exact aQ ⟨⟨_,rfl⟩,.inl ⟨_,_,rfl,m6.Jh f7⟩⟩
       rw[aH (by simpa using f7)];refine aM (fO (by lia) ?_);have m7:=m6.ug e.o (by lia) (by lia) (by lia) (by lia) (la (by lia));by_cases f5:k-1=0
       ·rw[aK (by simpa using f5)];exact aQ ⟨⟨_,rfl⟩,.inl ⟨_,_,rfl,m7.Jg f5⟩⟩
       rw[aH (by simpa using f5)];split
       ·exact aQ ⟨⟨_,rfl⟩,.inr ⟨_,_,_,_,_,_,rfl,m7,by lia,by lia⟩⟩
       ·exact aQ ⟨⟨_,rfl⟩,_,_,_,_,_,_,rfl,m7,by lia,by lia⟩
      ·rw[aH hl0];have:l=j-1:=by lia
       subst this;have la':=la (by lia);refine aM (fO (by lia) ?_);have m7:=m5.ug e.o (by lia) (by lia) (by lia) (by lia) la';by_cases f5:k-1=0
       ·rw[aK (by simpa using f5)];exact aQ ⟨⟨_,rfl⟩,.inl ⟨_,_,rfl,m7.Jg f5⟩⟩
       rw[aH (by simpa using f5)];split
       ·exact aQ ⟨⟨_,rfl⟩,.inr ⟨_,_,_,_,_,_,rfl,m7,by lia,by lia⟩⟩
       ·exact aQ ⟨⟨_,rfl⟩,_,_,_,_,_,_,rfl,m7,by lia,by lia⟩
     ·rw[aH hk0];have:k=i:=by lia
      subst this;have lb':=lb (by lia);refine aM (fO (by lia) ?_);have m5:=m3.Bp e.o (by lia) (by lia) (by lia) (by lia) lb';by_cases f3:j-1=1
      ·rw[aK (by simpa using f3)];exact aQ ⟨⟨_,rfl⟩,.inl ⟨_,_,rfl,m5.nif e.o t f3⟩⟩
      rw[aH (by simpa using f3)];refine aM (fO (by lia) (aM (ur e (st:=dh st _) (b:=0) (n:=j-1) (t:=j-1-1) (hkg _) (ea (k-1) (by lia)) (by lia) (fun t ht=>eb _ (by lia)) (by lia) (mb _ _ _ (by lia)) ?_)));intro l l1 l2 l3;dsimp only;have m6:=m5.CJ (p:=l) e.o (by omega) (by lia) (by lia) (by lia) (fun t t1 t2=>by have:=l3 t t1 t2;rwa[wW] at this);have la:1<=l->lt (key (el b (l-1))) (key (el a (k-1)))=true:=fun z=>by
       have:=l2 (l-1) (by lia);rw[bvT,wW] at this;exact this
      by_cases hl0:j-1-l>0
      ·rw[aK hl0];by_cases f4:l=1
       ·rw[aK (by simpa using f4)];exact aQ ⟨⟨_,rfl⟩,.inl ⟨_,_,rfl,m6.nif e.o t f4⟩⟩
       rw[aH (by simpa using f4)];by_cases f7:l=0
       ·rw[aK (by simpa using f7)];exact aQ ⟨⟨_,rfl⟩,.inl ⟨_,_,rfl,m6.Jh f7⟩⟩
       rw[aH (by simpa using f7)];refine aM (fO (by lia) ?_);have m7:=m6.ug e.o (by lia) (by lia) (by lia) (by lia) (la (by lia));by_cases f5:k-1=0
       ·rw[aK (by simpa using f5)];exact aQ ⟨⟨_,rfl⟩,.inl ⟨_,_,rfl,m7.Jg f5⟩⟩
       rw[aH (by simpa using f5)];split
       ·exact aQ ⟨⟨_,rfl⟩,.inr ⟨_,_,_,_,_,_,rfl,m7,by lia,by lia⟩⟩
       ·exact aQ ⟨⟨_,rfl⟩,_,_,_,_,_,_,rfl,m7,by lia,by lia⟩
      ·rw[aH hl0];have:l=j-1:=by lia
       subst this;have la':=la (by lia);refine aM (fO (by lia) ?_);have m7:=m5.ug e.o (by lia) (by lia) (by lia) (by lia) la';by_cases f5:k-1=0
       ·rw[aK (by simpa using f5)];exact aQ ⟨⟨_,rfl⟩,.inl ⟨_,_,rfl,m7.Jg f5⟩⟩
       rw[aH (by simpa using f5)];split
       ·exact aQ ⟨⟨_,rfl⟩,.inr ⟨_,_,_,_,_,_,rfl,m7,by lia,by lia⟩⟩
       ·exact aQ ⟨⟨_,rfl⟩,_,_,_,_,_,_,rfl,m7,by lia,by lia⟩
end
end TS
end L2
namespace L2
open PySem PySem.Spec PyProof.Rows PySem.W
namespace TS
theorem Pa(i:Nat):mergeAt' i=(do
 let c <- get
 let (some (p,n,w),some (q,m,_)):=((pendingOf c)[i]?,(pendingOf c)[i+1]?)|unsupported "internal:list.sort.pending"
 set (setPending c (((pendingOf c).setIfInBounds i (p,n+m,w)).eraseIdxIfInBounds (i+1)))
 let some k <- gal false (<- elem' (arrOf c) q) (arrOf c) p n 0|return false
 let (p,n):=(p+k,n-k)
 if n==0 then return true
 let some m <- gal true (<- elem' (arrOf c) (p+n-1)) (arrOf c) q m (m-1)|return false
 if m==0 then return true
 let x:=(arrOf c).extract p q
 let y:=(arrOf c).extract q (q+m)
 let r <- if n<=m then mlo x y else mhi x y
 modify fun c=>setArr c (r.toList.zipIdx.foldl (fun a (v,j)=>a.setIfInBounds (p+j) v) (arrOf c))
 return (failedOf (<- get)).isNone):=rfl
theorem bJ{β:Type}(p:Nat):∀(l:List β)(n:Nat)(xs:Array β),p+n+l.length<=xs.size ->
  ((l.zipIdx n).foldl (fun a (x:β×Nat)=>a.setIfInBounds (p+x.2) x.1) xs).toList=xs.toList.take (p+n)++l++xs.toList.drop (p+n+l.length)
 |[],n,xs,h=>by simp
 |v::l,n,xs,h=>by
  rw[List.zipIdx_cons,R5];have hl:p+n+(l.length+1)<=xs.size:=h;rw[bJ p l (n+1) _ (by rw[Array.size_setIfInBounds];lia)];dsimp only;rw[Z9];have e1:(xs.toList.set (p+n) v).take (p+(n+1))=xs.toList.take (p+n)++[v]:=by
   rw[<- Nat.add_assoc,List.take_add_one,List.take_set_of_le (bK _),Qp (by simp;lia)];rfl
  have e2:(xs.toList.set (p+n) v).drop (p+(n+1)+l.length)=xs.toList.drop (p+n+(v::l).length):=by
   rw[List.drop_set_of_lt (by lia)];congr 1;simp;lia
  rw[e1,e2];simp
def over(xs:Array Keyed)(p:Nat)(r:Array Keyed):Array Keyed:=r.toList.zipIdx.foldl (fun a (x:Keyed×Nat)=>a.setIfInBounds (p+x.2) x.1) xs
theorem Bl{xs r:Array Keyed}{p:Nat}(h:p+r.size<=xs.size):(over xs p r).toList=xs.toList.take p++r.toList++xs.toList.drop (p+r.size):=by
 have:=bJ p r.toList 0 xs (by simpa using h);simpa [over] using this
theorem BP{xs:Array Keyed}{i:Nat}:el xs i=xs.toList.getD i (Value.none,Value.none):=by
 unfold el;rw[oF,gO,vL]
theorem Je{xs r:Array Keyed}{p k:Nat}(h:p+r.size<=xs.size):el (over xs p r) k=if p<=k/\k<p+r.size then el r (k-p) else el xs k:=by
 rw[BP,Bl h,BP,BP];simp only[gO];have lt1:(xs.toList.take p).length=p:=by simp;lia
 by_cases h1:k<p
 ·rw[aH (by lia),yr,Ib (by lia),JL h1]
 ·by_cases h2:k<p+r.size
  ·rw[aK (by lia),yr,FZ (by lia),lt1,Ib (by simp;lia)]
  ·rw[aH (by lia),FZ (by simp;lia)];congr 1;rw[c7,lt1,List.getElem?_drop,eO];congr 1;lia
theorem V3{xs r:Array Keyed}{p:Nat}(h:p+r.size<=xs.size)(hr:r.toList.Perm ((xs.toList.drop p).take r.size)):(over xs p r).Perm xs:=by
 rw[Array.perm_iff_toList_perm,Bl h];have e:xs.toList=xs.toList.take p++(xs.toList.drop p).take r.size++xs.toList.drop (p+r.size):=by
  rw[<- Kg,yr,Bu,Bu]
 conv=>rhs;rw[e]
 exact((hr.append_left _).append_right _)
theorem W5{xs:Array Keyed}{i j t:Nat}(hj:j<=xs.size)(ht:t<j-i):el (xs.extract i j) t=el xs (i+t):=by
 refine pO ?_;rw[Array.getElem?_extract,aK (by lia)]
section
variable{α:Type}{lt:α->α->Bool}{M:Model}{A:Around}{E:Value->Shared->Prop}{s:Shared}{κ:SortKind}{key:Keyed->α}{a₀:Array Keyed}
theorem pw_of{a:Array Keyed}(h:∀ i j,i<j->j<a.size->Le lt key (el a i) (el a j)):a.toList.Pairwise (Le lt key):=by
 rw[yq];intro i j hi hj hij;have hj':j<a.size:=by simpa using hj
 have e1:=qJ (xs:=a) (i:=i) (by omega);have e2:=qJ hj';rw[ig (by omega)] at e1 e2;rw[JW,JW,iu e1,iu e2];exact h i j hij hj'
theorem a4T{zzs:Type}{x:zzs}{Q:PUnit->zzs->Prop}{st:zzs}(h:Q ⟨⟩ x):wpS M A E s (set x:StateT zzs Sem PUnit) Q st:=by
 unfold wpS;rw[StateT.run_set];exact bL ⟨rfl,h⟩
theorem a6r(e:Env M A s κ key lt a₀){st:SortSt}(hk:kindOf st=κ)(hf:failedOf st=none)(hp:(arrOf st).Perm a₀){i p n w q m w':Nat}{L1 L2:List (Nat×Nat×Nat)}
  (hL:(pendingOf st).toList=L1++(p,n,w)::(q,m,w')::L2) (hi:L1.length=i) (hq:q=p+n) (hn:1<=n) (hm:1<=m) (hz:q+m<=a₀.size) (s1:Srt lt key (arrOf st) p (p+n)) (s2:Srt lt key (arrOf st) q (q+m)) {Q:Bool->SortSt->Prop}
  (h:∀ xs g,xs.Perm a₀->(∀ k,k<p\/q+m<=k->el xs k=el (arrOf st) k)->Srt lt key xs p (q+m)->Q true (SortSt.mk' (kindOf st) xs (L1++(p,n+m,w)::L2).toArray g (failedOf st))):wpS M A E s (mergeAt' i) Q st:=by
 rw[Pa];have sz:(arrOf st).size=a₀.size:=hp.size_eq;have g1:(pendingOf st)[i]?=some (p,n,w):=by
  rw[<- vL,hL,FZ (by lia),hi,Rc];rfl
 have g2:(pendingOf st)[i+1]?=some (q,m,w'):=by
  rw[<- vL,hL,FZ (by lia),hi,show i+1-i=1 by lia];rfl
 refine aM (mL ?_);rw[g1,g2];have ep:((pendingOf st).setIfInBounds i (p,n+m,w)).eraseIdxIfInBounds (i+1)=(L1++(p,n+m,w)::L2).toArray:=by
  apply QX.mp;rw[Array.toList_eraseIdxIfInBounds,Z9,hL];rw[List.set_append_right _ _ (by lia),hi,Rc,List.eraseIdx_append_of_length_le (by lia),hi,show i+1-i=1 by lia];rfl
 refine aM (a4T ?_);rw[ep];have hkp:∀ P,kindOf (setPending st P)=κ:=fun _=>hk
 have ea:∀ t,t<a₀.size->el (arrOf st) t∈a₀.toList:=fun t ht=>Eb hp ht
 refine aM (fO (by lia) (aM (ur e (st:=setPending st _) (b:=p) (n:=n) (t:=0) (hkp _) (ea q (by lia)) (by lia) (fun t ht=>ea _ (by lia)) (by lia) (uO e.o fun u v h1 h2=>s1 _ _ (by lia) (by lia) (by lia)) ?_)));intro k k1 k2 k3;dsimp only;have cut:∀ t,p<=t->t<p+k->Le lt key (el (arrOf st) t) (el (arrOf st) q):=fun t t1 t2=>by
  have:=k2 (t-p) (by lia);rw[bvF,show p+(t-p)=t by lia] at this;unfold Le;cases hc:lt (key (el (arrOf st) q)) (key (el (arrOf st) t))
  ·rfl
  ·rw[hc] at this;cases this
 by_cases c1:n-k=0
 ·rw[aK (by simpa using c1)];refine aQ (h (arrOf st) (gallopOf st) hp (fun _ _=>rfl) fun u v h1 h2 h3=>?_);by_cases hv:v<p+n
  ·exact s1 u v h1 h2 hv
  ·by_cases hu:u<q
   ·exact Le.trans e.o (cut u h1 (by lia)) (s2 q v (bK _) (by lia) h3)
   ·exact s2 u v (by lia) h2 h3
 rw[aH (by simpa using c1)];have el1:p+k+(n-k)-1=q-1:=by lia
 rw[el1];refine aM (fO (by omega) (aM (ur e (st:=setPending st _) (b:=q) (n:=m) (t:=m-1) (hkp _) (ea (q-1) (by omega)) (by lia) (fun t ht=>ea _ (by lia)) (by lia) (uO e.o fun u v h1 h2=>s2 _ _ (by lia) (by lia) (by lia)) ?_)));intro l l1 l2 l3;dsimp only;have a5a:∀ t,q+l<=t->t<q+m->Le lt key (el (arrOf st) (q-1)) (el (arrOf st) t):=fun t t1 t2=>by
  have:=l3 (t-q) (by lia) (by lia);rw[bvT,show q+(t-q)=t by lia] at this;exact this
 by_cases c2:l=0
 ·rw[aK (by simpa using c2)];refine aQ (h (arrOf st) (gallopOf st) hp (fun _ _=>rfl) fun u v h1 h2 h3=>?_);by_cases hv:v<p+n
  ·exact s1 u v h1 h2 hv
  ·by_cases hu:u<q
   ·exact Le.trans e.o (s1 u (q-1) h1 (by omega) (by omega)) (a5a v (by lia) h3)
   ·exact s2 u v (by lia) h2 h3
 rw[aH (by simpa using c2)];have za:((arrOf st).extract (p+k) q).size=n-k:=by rw[ZK];lia
 have zb:((arrOf st).extract q (q+l)).size=l:=by rw[ZK];lia
 have ela:∀ t,t<n-k->el ((arrOf st).extract (p+k) q) t=el (arrOf st) (p+k+t):=fun t ht=>W5 (by lia) (by lia)
 have elb:∀ t,t<l->el ((arrOf st).extract q (q+l)) t=el (arrOf st) (q+t):=fun t ht=>W5 (by lia) (by lia)
 have ina:∀ x∈((arrOf st).extract (p+k) q).toList,∃ t,t<n-k/\x=el (arrOf st) (p+k+t):=fun x hx=>by
  have e1:=lH (a:=arrOf st) (i:=p+k) (k:=n-k);rw[show p+k+(n-k)=q by lia] at e1;rw[e1] at hx;exact uX (by omega) hx
 have inb:∀ x∈((arrOf st).extract q (q+l)).toList,∃ t,t<l/\x=el (arrOf st) (q+t):=fun x hx=>by
  rw[lH] at hx;exact uX (by lia) hx
 have two:Two lt key a₀ ((arrOf st).extract (p+k) q) ((arrOf st).extract q (q+l)):=by
  refine⟨fun x hx=>?_,fun x hx=>?_,pw_of fun u v h1 h2=>?_,pw_of fun u v h1 h2=>?_,by lia,by lia,?_,fun y hy=>?_⟩
  ·obtain⟨t,ht,rfl⟩:=ina x hx;exact ea _ (by lia)
  ·obtain⟨t,ht,rfl⟩:=inb x hx;exact ea _ (by lia)
  ·rw[ela u (by lia),ela v (by lia)];exact s1 _ _ (by lia) (by lia) (by omega)
  ·rw[elb u (by lia),elb v (by lia)];exact s2 _ _ (by lia) (by lia) (by lia)
  ·rw[ela 0 (by lia),elb 0 (by lia)];have:=k3 k (bK _) (by lia);rw[bvF] at this;rw[FP,FP];cases hc:lt (key (el (arrOf st) q)) (key (el (arrOf st) (p+k)))
   ·rw[hc] at this;cases this
   ·rfl
  ·obtain⟨t,ht,rfl⟩:=inb y hy;rw[za,ela _ (by lia),show p+k+(n-k-1)=q-1 by lia];have:=l2 t (by omega);rw[bvT] at this;exact Le.of e.o this
 have done:∀ r g,Res lt key ((arrOf st).extract (p+k) q) ((arrOf st).extract q (q+l)) r->wpS M A E s (do modify fun c=>setArr c (r.toList.zipIdx.foldl (fun a (v,j)=>a.setIfInBounds (p+k+j) v) (arrOf c));return (failedOf (<- get)).isNone) Q (dh (setPending st (L1++(p,n+m,w)::L2).toArray) g):=fun r g hr=>by
  refine aM (lD (aM (mL ?_)));have e0:(failedOf (setArr (dh (setPending st (L1++(p,n+m,w)::L2).toArray) g) (over (arrOf st) (p+k) r))).isNone=true:=by
   show(failedOf st).isNone=true;rw[hf];rfl
  change wpS M A E s (pure (failedOf (setArr (dh (setPending st (L1++(p,n+m,w)::L2).toArray) g) (over (arrOf st) (p+k) r))).isNone) Q (setArr (dh (setPending st (L1++(p,n+m,w)::L2).toArray) g) (over (arrOf st) (p+k) r));rw[e0];have rs:r.size=n-k+l:=by
   have:=hr.1.length_eq;rw[c7,eO,eO,eO,za,zb] at this;exact this
  have hb:p+k+r.size<=(arrOf st).size:=by lia
  have pm:(over (arrOf st) (p+k) r).Perm a₀:=by
   refine(V3 hb (hr.1.trans ?_)).trans hp;have e1:=lH (a:=arrOf st) (i:=p+k) (k:=n-k);rw[show p+k+(n-k)=q by lia] at e1;rw[e1,lH,rs,List.take_add,Kg,show p+k+(n-k)=q by lia]
  have mid:∀ t,t<r.size->(∃ t',p+k<=t'/\t'<q/\el r t=el (arrOf st) t')\/(∃ t',q<=t'/\t'<q+l/\el r t=el (arrOf st) t'):=fun t ht=>by
   rcases cR.mp (hr.1.mem_iff.mp (z8 ht)) with z|z
   ·obtain⟨u,hu,eu⟩:=ina _ z;exact .inl ⟨p+k+u,by lia,by lia,eu⟩
   ·obtain⟨u,hu,eu⟩:=inb _ z;exact .inr ⟨q+u,by lia,by lia,eu⟩
  refine aQ (h (over (arrOf st) (p+k) r) g pm (fun t ht=>?_) fun u v h1 h2 h3=>?_)
  ·rw[Je hb,aH (by lia)]
  ·show Le lt key (el (over (arrOf st) (p+k) r) u) (el (over (arrOf st) (p+k) r) v);rw[Je hb,Je hb];by_cases hu:u<p+k
   ·rw[aH (by lia)];by_cases hv:p+k<=v/\v<p+k+r.size
    ·rw[aK hv];rcases mid (v-(p+k)) (by lia) with⟨t',a1,a2,a3⟩|⟨t',a1,a2,a3⟩
     ·rw[a3];exact s1 _ _ h1 (by lia) (by lia)
     ·rw[a3];exact Le.trans e.o (cut u h1 hu) (s2 _ _ (bK _) a1 (by lia))
    ·rw[aH hv];by_cases hv2:v<p+k
     ·exact s1 _ _ h1 h2 (by lia)
     ·exact Le.trans e.o (cut u h1 hu) (s2 _ _ (bK _) (by lia) h3)
   ·by_cases hu2:u<p+k+r.size
    ·rw[aK (by lia)];by_cases hv:p+k<=v/\v<p+k+r.size
     ·rw[aK hv];exact zX hr.2 e.o (by lia) (by lia)
     ·rw[aH hv];rcases mid (u-(p+k)) (by lia) with⟨t',a1,a2,a3⟩|⟨t',a1,a2,a3⟩
      ·rw[a3];exact Le.trans e.o (s1 t' (q-1) (by lia) (by lia) (by lia)) (a5a v (by lia) h3)
      ·rw[a3];exact s2 _ _ a1 (by lia) h3
    ·rw[aH (by lia),aH (by lia)];exact s2 _ _ (by lia) h2 h3
 by_cases c3:n-k<=l
 ·rw[aK c3];exact aM (a4S e (st:=setPending st _) (hkp _) two fun r g hr=>done r g hr)
 ·rw[aH c3];exact aM (a4R e (st:=setPending st _) (hkp _) two fun r g hr=>done r g hr)
end
end TS
end L2
namespace L2
open PySem PySem.Spec PyProof.Rows PySem.W
namespace TS
section
variable{α:Type}{lt:α->α->Bool}{M:Model}{A:Around}{E:Value->Shared->Prop}{s:Shared}{κ:SortKind}{key:Keyed->α}{a₀:Array Keyed}
def Runs(lt:α->α->Bool)(key:Keyed->α)(xs:Array Keyed):Nat->List (Nat×Nat×Nat)->Nat->Prop
 |a,[],b=>a=b
 |a,r::l,b=>r.1=a/\1<=r.2.1/\Srt lt key xs a (a+r.2.1)/\Runs lt key xs (a+r.2.1) l b
theorem Runs.le{xs:Array Keyed}:∀ {l:List (Nat×Nat×Nat)} {a b:Nat},Runs lt key xs a l b->a+l.length<=b
 |[],a,b,h=>by cases h;simp
 |r::l,a,b,h=>by
  have:=Runs.le h.2.2.2;have:=h.2.1;simp;lia
theorem Runs.congr{xs ys:Array Keyed}:∀ {l:List (Nat×Nat×Nat)} {a b:Nat},Runs lt key xs a l b->(∀ k,a<=k->k<b->el ys k=el xs k)->Runs lt key ys a l b
 |[],a,b,h,_=>h
 |r::l,a,b,h,e=>by
  have hl:=h.2.2.2.le;refine⟨h.1,h.2.1,fun p q h1 h2 h3=>?_,Runs.congr h.2.2.2 fun k h1 h2=>e k (by lia) h2⟩;rw[e p (by omega) (by lia),e q (by lia) (by lia)];exact h.2.2.1 p q h1 h2 h3
theorem Runs.app{xs:Array Keyed}:∀ {l l':List (Nat×Nat×Nat)} {a b:Nat},Runs lt key xs a (l++l') b↔∃ c,Runs lt key xs a l c/\Runs lt key xs c l' b
 |[],l',a,b=>⟨fun h=>⟨a,rfl,h⟩,fun⟨c,h1,h2⟩=>by cases h1;exact h2⟩
 |r::l,l',a,b=>by
  constructor
  ·intro h;obtain⟨c,h1,h2⟩:=Runs.app.mp h.2.2.2;exact⟨c,⟨h.1,h.2.1,h.2.2.1,h1⟩,h2⟩
  ·rintro⟨c,⟨h1,h2,h3,h4⟩,h5⟩;exact⟨h1,h2,h3,Runs.app.mpr ⟨c,h4,h5⟩⟩
abbrev mkS(st:SortSt)(xs:Array Keyed)(L:List (Nat×Nat×Nat))(g:Nat):SortSt:=SortSt.mk' (kindOf st) xs L.toArray g (failedOf st)
theorem Qk(e:Env M A s κ key lt a₀){st:SortSt}(hk:kindOf st=κ)(hf:failedOf st=none){xs:Array Keyed}(hp:xs.Perm a₀){L:List (Nat×Nat×Nat)}{g i lo:Nat}(hi:i+1<L.length)(hR:Runs lt key xs 0 L lo)(hz:lo<=a₀.size){Q:Bool->SortSt->Prop}
  (h:∀ xs' L' g',xs'.Perm a₀->Runs lt key xs' 0 L' lo->L'.length+1=L.length->(∀ k,lo<=k->el xs' k=el xs k)->Q true (mkS st xs' L' g')):wpS M A E s (mergeAt' i) Q (mkS st xs L g):=by
 have e0:L=L.take i++(L[i]::L[i+1]::L.drop (i+2)):=by
  rw[<- yp,<- yp,Bu]
 generalize hx:L[i]=x at e0;generalize hy:L[i+1]=y at e0;generalize h1:L.take i=L1 at e0;generalize h2:L.drop (i+2)=L2 at e0;obtain⟨p,n,w⟩:=x;obtain⟨q,m,w'⟩:=y;have hl1:L1.length=i:=by rw[<- h1,jr];lia
 rw[e0] at hR;obtain⟨c,r1,r2⟩:=Runs.app.mp hR;obtain⟨a1,a2,a3,b1,b2,b3,b4⟩:=r2;dsimp only at a1 a2 a3 b1 b2 b3 b4;subst a1;subst b1;have le1:=r1.le;have le2:=b4.le;refine a6r e (st:=mkS st xs L g) (L1:=L1) (L2:=L2) (p:=p) (n:=n) (w:=w) (q:=p+n) (m:=m) (w':=w') hk hf hp (by show L.toArray.toList=_;rw[List.toList_toArray];exact e0) hl1 rfl a2 b2 (by lia) a3 b3 ?_;intro ys g' hy1 hy2 hy3;have a3d:∀ k,k<p\/p+n+m<=k->el ys k=el xs k:=hy2;refine h ys _ g' hy1 (Runs.app.mpr ⟨p,r1.congr fun k _ hk=>a3d k (.inl hk),rfl,(show 1<=n+m by lia),?_,?_⟩) ?_ fun k hk=>a3d k (.inr (by lia))
 ·have:p+(n+m)=p+n+m:=by lia
  show Srt lt key ys p (p+(n+m));rw[this];exact hy3
 ·show Runs lt key ys (p+(n+m)) L2 lo;have:p+(n+m)=p+n+m:=by lia
  rw[this];exact b4.congr fun k hk _=>a3d k (.inr hk)
 ·rw[e0];simp;lia
theorem Runs.modify{xs:Array Keyed}{f:Nat×Nat×Nat->Nat×Nat×Nat}(h1:∀ x,(f x).1=x.1)(h2:∀ x,(f x).2.1=x.2.1):∀ {l:List (Nat×Nat×Nat)} {k a b:Nat},Runs lt key xs a l b->Runs lt key xs a (l.modify k f) b
 |[],k,a,b,h=>by simpa using h
 |r::l,0,a,b,h=>by
  rw[List.modify_zero_cons];unfold Runs at h ⊢;rw[h1,h2];exact h
 |r::l,k+1,a,b,h=>by
  rw[List.modify_succ_cons];exact⟨h.1,h.2.1,h.2.2.1,Runs.modify h1 h2 h.2.2.2⟩
theorem a1V(e:Env M A s κ key lt a₀){st:SortSt}(hk:kindOf st=κ)(hf:failedOf st=none)(ha:arrOf st=a₀)(hP:pendingOf st=#[]){Q:Unit->SortSt->Prop}
  (h:∀ st',(arrOf st').Perm a₀->failedOf st'=none->Srt lt key (arrOf st') 0 a₀.size->Q () st'):wpS M A E s sortRuns' Q st:=by
 rw[sortRuns'_eq];refine aM (mL ?_);rw[ha];dsimp only;generalize minRun' a₀.size a₀.size 0=mr;refine aM (iZ (kI (I:=fun x c st'=>∃ xs L g lo,st'=mkS st xs L g/\c=(none,lo)/\xs.Perm a₀/\Runs lt key xs 0 L lo/\lo<=a₀.size/\(x<=lo\/lo=a₀.size))
  (Q:=fun c st'=>∃ xs L g,st'=mkS st xs L g/\c=(none,a₀.size)/\xs.Perm a₀/\Runs lt key xs 0 L a₀.size) ?step ?fin ?init) ?post)
 case init=>
  refine⟨a₀,[],gallopOf st,0,?_,rfl,.refl _,rfl,by lia,.inl (bK _)⟩;show st=SortSt.mk' (kindOf st) a₀ #[] (gallopOf st) (failedOf st);rw[<- ha,<- hP]
 case fin=>
  rintro c st' ⟨xs,L,g,lo,rfl,rfl,a1,a2,a3,a4⟩;have:lo=a₀.size:=by lia
  subst this;exact⟨xs,L,g,rfl,rfl,a1,a2⟩
 case step=>
  rintro x c st' _ hx ⟨xs,L,g,lo,rfl,rfl,a1,a2,a3,a4⟩;dsimp only;by_cases hge:lo>=a₀.size
  ·rw[aK hge];have:lo=a₀.size:=by lia
   subst this;exact aQ ⟨xs,L,g,rfl,rfl,a1,a2⟩
  rw[aH hge];refine aM (YW e (st:=mkS st xs L g) hk a1 (by lia) (by lia) ?_);intro n ys p1 p2 p3 p4 p5;dsimp only;have hy:Low ys xs lo:=p2;by_cases hm:n<mr
  ·rw[aK hm];refine aM (wX (jT ⟨rfl,?_⟩));refine aM (a4Q e (st:=mkS st ys L g) hk p1 p3 (by lia) (by lia) p5 fun zs r1 r2 r5=>?_);rw[aH (by decide)];have r3:1<=min (a₀.size-lo) mr:=by lia
   have r4:lo+min (a₀.size-lo) mr<=a₀.size:=by lia
   have rR:Runs lt key zs 0 L lo:=a2.congr fun k _ hk=>(r2.trans hy) k hk
   show wpS M A E s _ _ (mkS st zs L g);clear p2 hy p5 r2 hm p3 p4 p1;generalize min (a₀.size-lo) mr=n at r3 r4 r5 ⊢;have snoc:∀(ys:Array Keyed)(L':List (Nat×Nat×Nat)),Runs lt key ys 0 L' lo->(∀ k,lo<=k->el ys k=el zs k)->Runs lt key ys 0 (L'++[(lo,n,0)]) (lo+n):=fun ys L' hy he=>
    Runs.app.mpr ⟨lo,hy,rfl,r3,fun p q h1 h2 h3=>by rw[he p h1,he q (by lia)];exact r5 p q h1 h2 h3,rfl⟩
   have push:∀(ys:Array Keyed)(L':List (Nat×Nat×Nat))(g':Nat),setPending (mkS st ys L' g') ((pendingOf (mkS st ys L' g')).push (lo,n,0))=mkS st ys (L'++[(lo,n,0)]) g':=fun ys L' g'=>by
    show SortSt.mk' _ _ (L'.toArray.push (lo,n,0)) _ _=_;rw[List.push_toArray]
   refine aM (mL ?_);have ep:∀(ys:Array Keyed)(L':List (Nat×Nat×Nat))(g':Nat),pendingOf (mkS st ys L' g')=L'.toArray:=fun _ _ _=>rfl
   rw[ep];cases hb:L.toArray.back? with
   |none=>
    dsimp only;refine aM (lD (aQ ?_));rw[push];exact⟨zs,_,g,lo+n,rfl,rfl,r1,snoc zs L rR (fun _ _=>rfl),r4,.inl (by lia)⟩
   |some z=>
    obtain⟨u,v,w⟩:=z;dsimp only;refine aM (iZ (kI (I:=fun x c st'=>∃ ys L' g',st'=mkS st ys L' g'/\c=(none,())/\ys.Perm a₀/\Runs lt key ys 0 L' lo/\(∀ k,lo<=k->el ys k=el zs k))
     (Q:=fun c st'=>∃ ys L' g',st'=mkS st ys L' g'/\c=(none,())/\ys.Perm a₀/\Runs lt key ys 0 L' lo/\(∀ k,lo<=k->el ys k=el zs k)) ?sti (fun _ _ z=>z) ⟨zs,L,g,rfl,rfl,r1,rR,fun _ _=>rfl⟩) ?poi)
    case sti=>
     rintro y c st' _ hy ⟨ys,L',g',rfl,rfl,b1,b2,b3⟩;refine aM (mL ?_);rw[ep,dj];by_cases hl:L'.length>1
     ·rw[aK hl,zZ,gj (by lia)];generalize L'[L'.length-2]=t;obtain⟨t1,t2,t3⟩:=t;dsimp only;by_cases ho:t3<=power' a₀.size (2*u+v) (2*u+v+v+n) a₀.size
      ·rw[aK ho];exact aQ ⟨ys,L',g',rfl,rfl,b1,b2,b3⟩
      ·rw[aH ho];refine aM (Qk e hk hf b1 (by lia) b2 (by omega) fun zs L2 g2 c1 c2 c3 c4=>?_);exact aQ ⟨zs,L2,g2,rfl,rfl,c1,c2,fun k hk=>(c4 k hk).trans (b3 k hk)⟩
     ·rw[aH hl];exact aQ ⟨ys,L',g',rfl,rfl,b1,b2,b3⟩
    case poi=>
     rintro c st' ⟨ys,L',g',rfl,rfl,b1,b2,b3⟩;dsimp only;refine aM (lD (aM (lD (aQ ?_))));generalize power' a₀.size (2*u+v) (2*u+v+v+n) a₀.size=pw;have em:setPending (mkS st ys L' g') ((pendingOf (mkS st ys L' g')).modify ((pendingOf (mkS st ys L' g')).size-1) fun x=>(x.1,x.2.1,pw))=mkS st ys (L'.modify (L'.length-1) fun x=>(x.1,x.2.1,pw)) g':=by
      show SortSt.mk' _ _ (L'.toArray.modify (L'.toArray.size-1) fun x=>(x.1,x.2.1,pw)) _ _=_;rw[Zz,dj]
     rw[em,push];exact⟨ys,_,g',lo+n,rfl,rfl,b1,snoc ys _ (Runs.modify (f:=fun x=>(x.1,x.2.1,pw)) (fun _=>rfl) (fun _=>rfl) b2) b3,r4,.inl (by lia)⟩
  ·rw[aH hm];have rR:Runs lt key ys 0 L lo:=a2.congr fun k _ hk=>hy k hk
   have r4:lo+n<=a₀.size:=by lia
   show wpS M A E s _ _ (mkS st ys L g);clear hm hy p2;have r5:=p5;have r3:=p3;have r1:=p1;generalize ys=zs at r1 r3 r5 rR ⊢;have snoc:∀(ys:Array Keyed)(L':List (Nat×Nat×Nat)),Runs lt key ys 0 L' lo->(∀ k,lo<=k->el ys k=el zs k)->Runs lt key ys 0 (L'++[(lo,n,0)]) (lo+n):=fun ys L' hy he=>
    Runs.app.mpr ⟨lo,hy,rfl,r3,fun p q h1 h2 h3=>by rw[he p h1,he q (by lia)];exact r5 p q h1 h2 h3,rfl⟩
   have push:∀(ys:Array Keyed)(L':List (Nat×Nat×Nat))(g':Nat),setPending (mkS st ys L' g') ((pendingOf (mkS st ys L' g')).push (lo,n,0))=mkS st ys (L'++[(lo,n,0)]) g':=fun ys L' g'=>by
    show SortSt.mk' _ _ (L'.toArray.push (lo,n,0)) _ _=_;rw[List.push_toArray]
   refine aM (mL ?_);have ep:∀(ys:Array Keyed)(L':List (Nat×Nat×Nat))(g':Nat),pendingOf (mkS st ys L' g')=L'.toArray:=fun _ _ _=>rfl
   rw[ep];cases hb:L.toArray.back? with
   |none=>
    dsimp only;refine aM (lD (aQ ?_));rw[push];exact⟨zs,_,g,lo+n,rfl,rfl,r1,snoc zs L rR (fun _ _=>rfl),r4,.inl (by lia)⟩
   |some z=>
    obtain⟨u,v,w⟩:=z;dsimp only;refine aM (iZ (kI (I:=fun x c st'=>∃ ys L' g',st'=mkS st ys L' g'/\c=(none,())/\ys.Perm a₀/\Runs lt key ys 0 L' lo/\(∀ k,lo<=k->el ys k=el zs k))
     (Q:=fun c st'=>∃ ys L' g',st'=mkS st ys L' g'/\c=(none,())/\ys.Perm a₀/\Runs lt key ys 0 L' lo/\(∀ k,lo<=k->el ys k=el zs k)) ?sti (fun _ _ z=>z) ⟨zs,L,g,rfl,rfl,r1,rR,fun _ _=>rfl⟩) ?poi)
    case sti=>
     rintro y c st' _ hy ⟨ys,L',g',rfl,rfl,b1,b2,b3⟩;refine aM (mL ?_);rw[ep,dj];by_cases hl:L'.length>1
     ·rw[aK hl,zZ,gj (by lia)];generalize L'[L'.length-2]=t;obtain⟨t1,t2,t3⟩:=t;dsimp only;by_cases ho:t3<=power' a₀.size (2*u+v) (2*u+v+v+n) a₀.size
      ·rw[aK ho];exact aQ ⟨ys,L',g',rfl,rfl,b1,b2,b3⟩
      ·rw[aH ho];refine aM (Qk e hk hf b1 (by lia) b2 (by omega) fun zs L2 g2 c1 c2 c3 c4=>?_);exact aQ ⟨zs,L2,g2,rfl,rfl,c1,c2,fun k hk=>(c4 k hk).trans (b3 k hk)⟩
     ·rw[aH hl];exact aQ ⟨ys,L',g',rfl,rfl,b1,b2,b3⟩
    case poi=>
     rintro c st' ⟨ys,L',g',rfl,rfl,b1,b2,b3⟩;dsimp only;refine aM (lD (aM (lD (aQ ?_))));generalize power' a₀.size (2*u+v) (2*u+v+v+n) a₀.size=pw;have em:setPending (mkS st ys L' g') ((pendingOf (mkS st ys L' g')).modify ((pendingOf (mkS st ys L' g')).size-1) fun x=>(x.1,x.2.1,pw))=mkS st ys (L'.modify (L'.length-1) fun x=>(x.1,x.2.1,pw)) g':=by
      show SortSt.mk' _ _ (L'.toArray.modify (L'.toArray.size-1) fun x=>(x.1,x.2.1,pw)) _ _=_;rw[Zz,dj]
     rw[em,push];exact⟨ys,_,g',lo+n,rfl,rfl,b1,snoc ys _ (Runs.modify (f:=fun x=>(x.1,x.2.1,pw)) (fun _=>rfl) (fun _=>rfl) b2) b3,r4,.inl (by lia)⟩
 case post=>
  rintro c st' ⟨xs,L,g,rfl,rfl,a1,a2⟩;dsimp only;have one:∀(xs:Array Keyed)(L:List (Nat×Nat×Nat)),L.length<=1->Runs lt key xs 0 L a₀.size->Srt lt key xs 0 a₀.size:=fun xs L hl hR=>by
   cases L with
   |nil=>
    have:0=a₀.size:=hR;intro p q _ _ hq;lia
   |cons r l=>
    cases l with
    |nil=>
     have h4:0+r.2.1=a₀.size:=hR.2.2.2;have:=hR.2.2.1;rwa[h4] at this
    |cons _ _=>simp at hl
  refine aM (iZ (kI (I:=fun x c st'=>∃ xs L g,st'=mkS st xs L g/\c=(none,())/\xs.Perm a₀/\Runs lt key xs 0 L a₀.size/\L.length+x<=a₀.size)
   (Q:=fun c st'=>∃ xs L g,st'=mkS st xs L g/\c=(none,())/\xs.Perm a₀/\Runs lt key xs 0 L a₀.size/\L.length<=1) ?st2 ?fi2 ?in2) ?po2)
  case in2=>
   have:=a2.le;exact⟨xs,L,g,rfl,rfl,a1,a2,by lia⟩
  case fi2=>
   rintro c st' ⟨xs,L,g,rfl,rfl,a1,a2,a3⟩;exact⟨xs,L,g,rfl,rfl,a1,a2,by lia⟩
  case po2=>
   rintro c st' ⟨xs,L,g,rfl,rfl,a1,a2,a3⟩;exact aQ (h _ a1 hf (one xs L a3 a2))
  case st2=>
   rintro x c st' _ hx ⟨xs,L,g,rfl,rfl,a1,a2,a3⟩;refine aM (mL ?_);have ep:pendingOf (mkS st xs L g)=L.toArray:=rfl;rw[ep,dj];by_cases hl:L.length<=1
   ·rw[aK hl];exact aQ ⟨xs,L,g,rfl,rfl,a1,a2,hl⟩
   ·rw[aH hl];have hi:∀ c:Prop,[Decidable c]->(if c then L.length-2-1 else L.length-2)+1<L.length:=fun c _=>by split<;>lia
    refine aM (Qk e hk hf a1 (hi _) a2 (bK _) fun zs L2 g2 b1 b2 b3 b4=>?_);exact aQ ⟨zs,L2,g2,rfl,rfl,b1,b2,by lia⟩
end
end TS
end L2
namespace L2
open PySem PySem.Spec PyProof.Rows PySem.W
theorem V5{α β:Type}{g:α->β}{l m:List β}(h:l.Perm m):∀ r:List α,m=r.map g->∃ r':List α,r'.Perm r/\l=r'.map g:=by
 induction h with
 |nil=>intro r e;exact⟨[],by cases r<;>simp_all,rfl⟩
 |@cons x l m _ ih=>
  intro r e;cases r with
  |nil=>simp at e
  |cons a r=>
   rw[gq] at e;injection e with e1 e2;obtain⟨r',p,e3⟩:=ih r e2;exact⟨a::r',p.cons a,by rw[gq,<- e1,<- e3]⟩
 |swap x y l=>
  intro r e
  match r,e with
  |a::b::r,e=>
   rw[gq,gq] at e;injection e with e1 e2;injection e2 with e2 e3;exact⟨b::a::r,.swap _ _ _,by rw[gq,gq,<- e1,<- e2,<- e3]⟩
 |trans _ _ ih1 ih2=>
  intro r e;obtain⟨r2,p2,e2⟩:=ih2 r e;obtain⟨r1,p1,e1⟩:=ih1 r2 e2;exact⟨r1,p1.trans p2,e1⟩
section
variable{prog:Program}{w:World}{A:Around}{E:Value->Shared->Prop}{s:Shared}{α:Type}
structure Kw(prog:Program)(w:World)(h:Heap)(vs:List Value)(lt:α->α->Bool)(f:Nat->α):Prop where
 ex:2<=vs.length->∃ κ:SortKind,(∀(A':Around)(E':Value->Shared->Prop)(s':Shared)(Q':SortKind->Shared->Prop),Keeps h s'.heap->Q' κ s'->wpAny (model prog w) A' (keyKind' vs.toArray) Q' E' s') /\
  ∀(A':Around)(s':Shared)(i j:Nat)(C:Bool->Shared->Prop),A'.units+2<cLine->Keeps h s'.heap->i<vs.length->j<vs.length->C (lt (f i) (f j)) s'->wpAny (model prog w) A' (keyLt' κ (vs.getD i Value.none) (vs.getD j Value.none)) C (fun _ _=>False) s'
def byP(vs:List Value)(p:Array Nat):List Value:=p.toList.map fun i=>vs.getD i Value.none
def vU(vs:List Value)(f:Nat->α):Prop:=∀ i j,i<vs.length->j<vs.length->vs.getD i Value.none=vs.getD j Value.none->f i=f j
open Classical in
noncomputable def a3l(vs:List Value)(f:Nat->α)(x:Keyed):α:=f (Classical.epsilon fun i=>i<vs.length/\vs.getD i Value.none=x.1)
theorem BZ{vs:List Value}{f:Nat->α}(h1:vU vs f){i:Nat}(hi:i<vs.length){v:Value}:a3l vs f (vs.getD i Value.none,v)=f i:=by
 unfold a3l;have h:=Classical.epsilon_spec (p:=fun j=>j<vs.length/\vs.getD j Value.none=vs.getD i Value.none) ⟨i,hi,rfl⟩;exact h1 _ _ h.1 hi h.2
theorem a04{vs:List Value}{κ:SortKind}{lt:α->α->Bool}{f:Nat->α}(o:kO lt)(h1:vU vs f)
  (a6H:∀ i j (C:Bool->Shared->Prop),i<vs.length->j<vs.length->C (lt (f i) (f j)) s->wpAny (model prog w) A (keyLt' κ (vs.getD i Value.none) (vs.getD j Value.none)) C (fun _ _=>False) s) :
  wpAny (model prog w) A (sortRuns'.run (SortSt.mk' κ (vs.toArray.zip vs.toArray) #[] 7 none)) (fun r s'=>s'=s/\∃ p,Good vs.length p/\Ij lt f p vs.length/\(arrOf r.2).map (·.2)=(byP vs p).toArray/\failedOf r.2=none) E s:=by
 have ez:(vs.toArray.zip vs.toArray).toList=(List.range vs.length).map fun i=>(vs.getD i Value.none,vs.getD i Value.none):=by
  refine Fp fun i=>?_
  by_cases hi:i<vs.length
  ·simp[hi,gO,List.getElem?_zip_eq_some]
  ·simp[hi]
 have hz:(vs.toArray.zip vs.toArray).size=vs.length:=by simp
 have e:TS.Env (model prog w) A s κ (a3l vs f) lt (vs.toArray.zip vs.toArray):=by
  refine⟨o,fun x y hx hy C hC=>?_⟩;rw[ez] at hx hy;obtain⟨i,hi,rfl⟩:=cu.mp hx;obtain⟨j,hj,rfl⟩:=cu.mp hy;have hi':=fK.mp hi;have hj':=fK.mp hj;rw[BZ h1 hi',BZ h1 hj'] at hC;exact a6H i j C hi' hj' hC
 refine TS.a1V (Q:=fun _ st=>∃ p,Good vs.length p/\Ij lt f p vs.length/\(arrOf st).map (·.2)=(byP vs p).toArray/\failedOf st=none) e rfl rfl rfl rfl fun st' hp hf hs=>?_
 have hp':=hp.toList;rw[ez] at hp';obtain⟨r,pr,er⟩:=V5 hp' _ rfl;have gd:Good vs.length r.toArray:=⟨by simpa using pr⟩
 have elr:∀ i,(hi:i<r.length)->TS.el (arrOf st') i=(vs.getD r[i] Value.none,vs.getD r[i] Value.none):=fun i hi=>by
  rw[TS.BP,er,gO,cQ,gj hi];rfl
 have hr:r.length=vs.length:=by simpa using pr.length_eq
 refine⟨r.toArray,gd,fun i hi=>?_,?_,hf⟩
 ·have h2:=hs i (i+1) (j7 _) (oE _) (by rw[hz];exact hi);rw[elr i (by lia),elr (i+1) (by lia)] at h2;have lt1:r[i]<vs.length:=fK.mp (pr.mem_iff.mp (oG _));have lt2:r[i+1]<vs.length:=fK.mp (pr.mem_iff.mp (oG _));rw[BZ h1 lt1,BZ h1 lt2] at h2;unfold Ky;have a1:r.toArray.getD i 0=r[i]:=by
   rw[oF,zZ,gj (by lia)];rfl
  have a2:r.toArray.getD (i+1) 0=r[i+1]:=by
   rw[oF,zZ,gj (by lia)];rfl
  rw[a1,a2];exact h2
 ·apply QX.mp;rw[Array.toList_map,er];unfold byP;simp
theorem Cu{a:Addr}{vs:List Value}{n:Nat}{h0:Heap}{lt:α->α->Bool}{f:Nat->α}{P:PySem.Fin->Shared->Prop}(o:kO lt)(h1:vU vs f)(hu:A.units+2<cLine)(hr:Kw prog w h0 vs lt f)(hz:vs.length<=sizeLine) (ho:s.heap.get? a=some (seqObj "list" vs.toArray n)) (hk:∀ b o,h0.get? b=some o->s.heap.get? b=some o/\b≠a)
  (h:∀ p,Good vs.length p->Ij lt f p vs.length->P (.done (.ret .none)) { s with heap:=sortedHeap s.heap a vs (byP vs p).toArray }):wpAny (model prog w) A (Builtin.«list.sort» ⟨[.ref a],[]⟩) P E s:=by
 rw[list_sort_plain];have ha:a<s.heap.objs.size:=bM ho;refine aP (listItems_at ho rfl (aP (listUpdate_at ho rfl ?_ (by show vs.toArray.size<=_;rw[dj];omega) (by show(#[]:Array Value).size<=_;simp))));have ho1:=get?_update_seq ho (fun _=>#[]);refine aP (seqEpoch_at ho1 rfl (aP (wpAny_newTuple (aP (Km (qt ?_) (by simp))) (by simpa using hz))));show wpAny (model prog w) A _ P E { s with heap:=((s.heap.update a (Obj.mapSeq fun _=>#[])).push (seqObj "tuple" vs.toArray 0)).push (seqObj "list" #[] 0) };have ho6:(((s.heap.update a (Obj.mapSeq fun _=>#[])).push (seqObj "tuple" vs.toArray 0)).push (seqObj "list" #[] 0)).get? a=some _:=eY _ (eY _ ho1);have kp:Keeps h0 (((s.heap.update a (Obj.mapSeq fun _=>#[])).push (seqObj "tuple" vs.toArray 0)).push (seqObj "list" #[] 0)):=fun b o e=>by
  obtain⟨e1,e2⟩:=hk b o e;refine eY _ (eY _ ?_);rw[rQ _ _ _ _ e2];exact e1
 dsimp only;by_cases h2:vs.toArray.size<2
 ·rw[aK h2,aK h2];refine aP (bL ?_);rw[StateT.run_pure];refine aP (bL ?_);dsimp only;have h2':vs.length<2:=by simpa using h2
  have gd:Good vs.length (List.range vs.length).toArray:=⟨.refl _⟩
  have up:Ij lt f (List.range vs.length).toArray vs.length:=fun i hi=>by lia
  have eb:byP vs (List.range vs.length).toArray=vs:=by
   unfold byP;refine Fp fun i=>?_
   simp only[cQ];by_cases hi:i<vs.length
   ·simp[hi,gO]
   ·simp[hi]
  have h':=h _ gd up;rw[eb] at h';have eo:(arrOf (SortSt.mk' general' (vs.toArray.zip vs.toArray) #[] 7 none)).map (·.2)=vs.toArray:=by
   show(vs.toArray.zip vs.toArray).map (·.2)=_;apply QX.mp;simp[List.map_snd_zip]
  refine aP (seqEpoch_at ho6 rfl ?_);rw[eo];refine aP (listUpdate_at ho6 rfl ?_ (by simp) (by rw[dj];lia));simp only[K6,vN,jU];exact bL h'
 ·rw[aH h2,aH h2];have h2':2<=vs.length:=by simpa using h2
  obtain⟨κ,hkind,hless⟩:=hr.ex h2';refine aP (hkind _ _ _ _ kp ?_);refine aP (j8 (a04 (κ:=κ) (f:=f) o h1 fun i j C hi hj hC=>hless A _ i j C hu kp hi hj hC) ?_ fun _ _ e=>e);rintro⟨⟨⟩,st'⟩ s' ⟨rfl,p,g,u,eo,hf⟩;dsimp only;dsimp only at eo hf;refine aP (seqEpoch_at ho6 rfl ?_);rw[eo];refine aP (listUpdate_at ho6 rfl ?_ (by simp) ?_)
  ·rw[hf];simp only[K6,vN,jU];exact bL (h p g u)
  ·unfold byP;rw[dj,aR,eO,g.size];lia
theorem Cv{l:Addr}{vs:List Value}{lt:α->α->Bool}{f:Nat->α}{Q:Value->Shared->Prop}(o:kO lt)(h1:vU vs f)(hu:A.units+10<cLine)(hr:Kw prog w s.heap vs lt f)(hz:vs.length<=sizeLine)(hl:s.heap.IsList l vs.toArray)
  (h:∀ p,Good vs.length p->Ij lt f p vs.length->Q (.ref (s.heap.objs.size+1)) { s with heap:=sortedAll s.heap vs (byP vs p).toArray }):wpAny (model prog w) A (call (.builtin "sorted") [.ref l]) Q E s:=by
 refine Qm kind_sorted plain_sorted entry_sorted (args_sorted1 _) ?_;unfold Builtin.«sorted»;refine aP (m:=checkCount "sorted" 1 1 _) (bL (aP (collect_list hl ?_ hz)));refine aP (Km ?_ (by simpa using hz));have e1:((s.heap.push (seqObj "list" #[] 0)).update s.heap.objs.size (Obj.mapSeq (·++vs.toArray))).objs.size=s.heap.objs.size+1:=by rw[Heap.size_update,size_push']
 have e2:(((s.heap.push (seqObj "list" #[] 0)).update s.heap.objs.size (Obj.mapSeq (·++vs.toArray))).push (seqObj "list" vs.toArray 0)).get? (s.heap.objs.size+1)=some (seqObj "list" vs.toArray 0):=by
  rw[<- e1];exact fV _ rfl
 show wpAny _ _ _ _ _ { s with heap:=((s.heap.push (seqObj "list" #[] 0)).update s.heap.objs.size (Obj.mapSeq (·++vs.toArray))).push (seqObj "list" vs.toArray 0) };rw[e1];refine aP (qt (uz slot_list_sort ⟨_,e2,rfl⟩ entry_list_sort (Cu (h0:=s.heap) o h1 (by show A.units+1+1+2<cLine;lia) hr hz e2 (fun b o e=>⟨?_,dU (Fq (bM e))⟩) fun p g u=>⟨_,rfl,bL ⟨_,rfl,h p g u⟩⟩) (args_list_sort _)));have hlt:b<s.heap.objs.size:=bM e;refine eY _ ?_;rw[rQ _ _ _ _ (dU hlt)];exact eY _ e
end
def jk(a b:Cell):Bool:=decide (cF a b)
theorem oM:kO jk:=by
 refine⟨fun a b h=>?_,fun a b c h1 h2=>?_,fun a b h1 h2=>?_⟩
 ·have:=cI h;refine cG ?_;unfold cF at *;lia
 ·have h1':=j6 h1;have h2':=j6 h2;refine cG ?_;unfold cF at *;lia
 ·have h1':=j6 h1;have h2':=j6 h2;unfold cF at *;exact mJ (by omega) (by lia)
section
variable{X:Cx}
theorem Bb{pins:List (Addr×Obj)}{zzs:L2.St}{H:Hp}{s:Shared}{vs:List V}{us:List Value}{cs:List Cell}(I:Inv X pins zzs H s)(D:aU X.K H vs (cs.map aB))(r:Vals vs us):Kw X.prog X.w s.heap us jk fun i=>cs.getD i (0,0):=by
 have hl:us.length=cs.length:=by rw[<- r.length,D.length,aR]
 have at_:∀ i,(hi:i<cs.length)->∃(a:Addr)(o:Obj)(t t':Tok)(n:Nat),us.getD i Value.none=.ref a/\s.heap.get? a=some o/\o.cls=.type "tuple" /\ o.data=.seq #[.int cs[i].1 t,.int cs[i].2 t'] n:=fun i hi=>by
  have hv:i<vs.length:=by rw[r.length,hl];exact hi
  have ev:vs[i]?=some vs[i]:=by simp[hv]
  obtain⟨u,eu,ru⟩:=r.get ev;obtain⟨d,ed,dd⟩:=D.get ev;rw[cQ,gj hi] at ed;cases ed;obtain⟨a,o,t,t',n,rfl,h1,h2,h3⟩:=tu I dd ru;exact⟨a,o,t,t',n,by rw[gO,eu];rfl,h1,h2,h3⟩
 refine⟨fun h2=>⟨tuples' true,fun A' E' s' Q' kp q=>?_,fun A' s' i j C hu kp hi hj hC=>?_⟩⟩
 ·have kt:∀(cs:List Cell)(us:List Value),us.length=cs.length->(∀ i,(hi:i<cs.length)->∃(a:Addr)(o:Obj)(t t':Tok)(n:Nat),us.getD i Value.none=.ref a/\s.heap.get? a=some o/\o.cls=.type "tuple" /\ o.data=.seq #[.int cs[i].1 t,.int cs[i].2 t'] n) ->
    ∃ fs:List Value,fs.length=us.length/\(∀ f∈fs,∃ i t,f=Value.int i t)/\KatTups s'.heap us fs:=by
   intro cs
   induction cs with
   |nil=>
    intro us e _;cases us with
    |nil=>exact⟨[],rfl,(fun f hf=>by cases hf),.nil⟩
    |cons a b=>simp at e
   |cons c cs ih=>
    intro us e h;cases us with
    |nil=>simp at e
    |cons u us=>
     obtain⟨a,o,t,t',n,e1,e2,e3,e4⟩:=h 0 (by simp);have eu:u=.ref a:=e1;subst eu;obtain⟨fs,f1,f2,f3⟩:=ih us (by simpa using e) fun i hi=>by
      have:=h (i+1) (by simpa using hi);simpa using this
     refine⟨.int c.1 t::fs,by simp[f1],fun f hf=>?_,KatTups.cons (kp _ _ e2) e3 e4 rfl f3⟩;rcases cW.mp hf with z|z
     ·exact⟨_,_,z⟩
     ·exact f2 f z
  obtain⟨fs,f1,f2,f3⟩:=kt cs us hl at_;refine kat_kind (T:=.type "int") f3 (by lia) (fun v hv=>?_) (by decide) ?_
  ·obtain⟨i,t,rfl⟩:=f2 v hv;exact Looks.of_pure rfl
  ·exact q
 ·rw[hl] at hi hj;obtain⟨a,o,t,t',n,e1,e2,e3,e4⟩:=at_ i hi;obtain⟨b,o2,t2,t2',n2,g1,g2,g3,g4⟩:=at_ j hj;rw[e1,g1];have ci:cs.getD i (0,0)=cs[i]:=by rw[gO,gj hi];rfl
  have cj:cs.getD j (0,0)=cs[j]:=by rw[gO,gj hj];rfl
  rw[ci,cj] at hC;refine kat_lt (kp _ _ e2) e4 (kp _ _ g2) g4 ?_;have out:∀ x:Bool,(x=true↔cF cs[i] cs[j])->C x s':=fun x hx=>by
   have:x=jk cs[i] cs[j]:=by
    unfold jk;cases x
    ·exact(cG fun z=>by have:=hx.mpr z;cases this).symm
    ·exact(bR (hx.mp rfl)).symm
   rw[this];exact hC
  refine kat_cons (yu ?_);by_cases q1:cs[i].1=cs[j].1
  ·rw[show(cs[i].1==cs[j].1)=true from lZ.mpr q1];refine kat_yes (kat_cons (yu ?_));by_cases q2:cs[i].2=cs[j].2
   ·rw[show(cs[i].2==cs[j].2)=true from lZ.mpr q2];refine kat_yes (kat_nil (out _ ⟨fun z=>?_,fun z=>?_⟩))
    ·have:=cI z;simp at this
    ·unfold cF at z;lia
   ·rw[show(cs[i].2==cs[j].2)=false from qg.mpr q2];refine kat_no (kat_one _ _ (lt_int (out _ ?_)));rw[jo];unfold cF;lia
  ·rw[show(cs[i].1==cs[j].1)=false from qg.mpr q1];refine kat_no (oneLt_int (out _ ?_));rw[jo];unfold cF;lia
theorem GF{pins:List (Addr×Obj)}{zzs:L2.St}{H:Hp}{s:Shared}{vs:List V}{us:List Value}{cs:List Cell}(I:Inv X pins zzs H s)(D:aU X.K H vs (cs.map aB))(r:Vals vs us):vU us fun i=>cs.getD i (0,0):=by
 have hl:us.length=cs.length:=by rw[<- r.length,D.length,aR]
 have at_:∀ i,i<us.length->∃(a:Addr)(o:Obj)(t t':Tok)(n:Nat),us.getD i Value.none=.ref a/\s.heap.get? a=some o/\o.data=.seq #[.int (cs.getD i (0,0)).1 t,.int (cs.getD i (0,0)).2 t'] n:=fun i hi=>by
  have hv:i<vs.length:=by rw[r.length];exact hi
  have hi':i<cs.length:=by lia
  have ev:vs[i]?=some vs[i]:=by simp[hv]
  obtain⟨u,eu,ru⟩:=r.get ev;obtain⟨d,ed,dd⟩:=D.get ev;rw[cQ,gj hi'] at ed;cases ed;obtain⟨a,o,t,t',n,rfl,h1,_,h3⟩:=tu I dd ru;refine⟨a,o,t,t',n,by rw[gO,eu];rfl,h1,?_⟩;rw[gO,gj hi'];exact h3
 intro i j hi hj e;obtain⟨a,o,t,t',n,e1,e2,e3⟩:=at_ i hi;obtain⟨b,o',v,v',m,g1,g2,g3⟩:=at_ j hj;rw[e1,g1] at e;cases e;rw[e2] at g2;cases g2;rw[e3] at g3;injection g3 with g5 _;have g6:=congrArg Array.toList g5;injection g6 with a1 a2;injection a2 with a2 _;injection a1 with a1 _;injection a2 with a2 _;exact mJ a1 a2
theorem yg{vs:List V}{us:List Value}(r:Vals vs us):∀(ps:List Nat),(∀ i∈ps,i<vs.length)->Vals (ps.map fun i=>vs.getD i .non) (ps.map fun i=>us.getD i Value.none)
 |[],_=>.nil
 |i::ps,h=>by
  have hi:=h i dY;obtain⟨u,eu,ru⟩:=r.get (show vs[i]?=some vs[i] from by simp[hi]);have e1:vs.getD i .non=vs[i]:=by simp[gO,hi]
  have e2:us.getD i Value.none=u:=by rw[gO,eu];rfl
  rw[gq,gq,e1,e2];exact .cons ru (yg r ps fun j hj=>h j (fU _ hj))
theorem Jd{K:ao}{H:Hp}{vs:List V}{ds:List Dt}{d0:Dt}(D:aU K H vs ds):∀(ps:List Nat),(∀ i∈ps,i<vs.length)->aU K H (ps.map fun i=>vs.getD i .non) (ps.map fun i=>ds.getD i d0)
 |[],_=>.nil
 |i::ps,h=>by
  have hi:=h i dY;obtain⟨d,ed,dd⟩:=D.get (show vs[i]?=some vs[i] from by simp[hi]);have e1:vs.getD i .non=vs[i]:=by simp[gO,hi]
  have e2:ds.getD i d0=d:=by rw[gO,ed];rfl
  rw[gq,gq,e1,e2];exact .cons dd (Jd D ps fun j hj=>h j (fU _ hj))
theorem oO{β:Type}{xs:List β}{d:β}{ps:List Nat}(h:ps.Perm (List.range xs.length)):(ps.map fun i=>xs.getD i d).Perm xs:=by
 have e:(List.range xs.length).map (fun i=>xs.getD i d)=xs:=by
  refine Fp fun i=>?_
  simp only[cQ];by_cases hi:i<xs.length
  ·simp[hi,gO]
  ·simp[hi]
 exact(h.map _).trans (by rw[e])
def Asc(cs:List Cell):Prop:=cs.Pairwise fun a b=>¬cF b a
def Xw(K:ao):List V->Hp->VK->Prop:=fun xs H Q=>∃(p:Addr)(vs:List V)(cs:List Cell),xs=[.ref p]/\SqL K H p vs/\aU K H vs (cs.map aB)/\cs.length<64/\∀ l ws ds,H l=none->ws.Perm vs->aU K H ws (ds.map aB)->ds.Perm cs->Asc ds->Q (.ref l) (upd H l (.lst ws))
theorem Oa(hu:X.A.units+60<cLine):eE X (.builtin "sorted") (Xw X.K):=by
 intro pins s zzs H xs us Q I r h;obtain⟨p,vs,cs,rfl,hS,D,h64,q⟩:=h;obtain⟨u,rfl,ru⟩:=vals1 r;cases ru;obtain⟨its,rv,pl,hz⟩:=I.list hS;have hl:its.length=cs.length:=by rw[<- rv.length,D.length,aR]
 have hv:vs.length=its.length:=rv.length;refine Cv oM (GF I D rv) (by lia) (Bb I D rv) (by lia) pl.isList fun o g up=>?_
 obtain⟨e,he⟩:=sortedAll_at s.heap its (byP its o).toArray;have hn:H (s.heap.objs.size+1)=none:=I.hok.fresh (oE _);have bd:∀ i∈o.toList,i<vs.length:=fun i hi=>by rw[hv];exact fK.mp (g.perm.mem_iff.mp hi)
 have rv':Vals (o.toList.map fun i=>vs.getD i .non) (byP its o):=yg rv o.toList bd;have pv:(o.toList.map fun i=>vs.getD i .non).Perm vs:=oO (by rw[hv];exact g.perm);have dv:aU X.K H (o.toList.map fun i=>vs.getD i .non) ((o.toList.map fun i=>cs.getD i (0,0)).map aB):=by
  have:=Jd (d0:=aB (0,0)) D o.toList bd;have e1:(o.toList.map fun i=>(cs.map aB).getD i (aB (0,0)))=((o.toList.map fun i=>cs.getD i (0,0)).map aB):=by
   rw[jY];refine wM fun i hi=>?_
   simp only[gO,cQ,Function.comp];cases cs[i]?<;>rfl
  rw[<- e1];exact this
 have pc:(o.toList.map fun i=>cs.getD i (0,0)).Perm cs:=oO (by rw[<- hl];exact g.perm);have as:Asc (o.toList.map fun i=>cs.getD i (0,0)):=by
  unfold Asc;rw[yq];intro i j hi hj hij;rw[aR,eO,g.size] at hi hj;have:=up.le oM (j-i) i (by lia);have e1:i+(j-i)=j:=by lia
  rw[e1] at this;have:=j6 this;have sz:=g.size;have a1:Ky (fun i=>cs.getD i (0,0)) o i=(o.toList.map fun i=>cs.getD i (0,0))[i]:=by
   unfold Ky;rw[uD,oF,ig (by lia)];rfl
  have a2:Ky (fun i=>cs.getD i (0,0)) o j=(o.toList.map fun i=>cs.getD i (0,0))[j]:=by
   unfold Ky;rw[uD,oF,ig (by lia)];rfl
  rw[<- a1,<- a2];exact this
 have hz':(o.toList.map fun i=>vs.getD i .non).length<=sizeLine:=by rw[pv.length_eq];exact hz
 exact⟨.ref (s.heap.objs.size+1),upd H (s.heap.objs.size+1) (.lst (o.toList.map fun i=>vs.getD i .non)),I.laid (a:=s.heap.objs.size+1) (o:=.lst (o.toList.map fun i=>vs.getD i .non)) (t':=s.toks) (fun b o q=>sortedAll_old q) (oE _) ⟨hz',byP its o,e,rv',he⟩,rfl,q _ _ _ hn pv dv pc as⟩
theorem a0p{K:ao}(hu:X.A.units+60<cLine)(hK:X.K=K:=by rfl):eE X (.builtin "sorted") (Xw K):=by subst hK;exact Oa hu
end
end L2
namespace L2
open PySem PySem.Spec PyProof.Rows PySem.SeqAt PySem.MeetsSeq PySem.MeetsSeq2 PySem.MeetsSeq3
open PySem.AutoSeq1 (wpAny_loadPart')
end L2
namespace L2
open PySem PySem.Spec PyProof.Rows
section
variable{X:Cx}
def a5Q:List V->Hp->VK->Prop:=fun xs H Q=>∃ c:Nat,xs=[.str ⟨#[c]⟩]/\48<=c/\c<=57/\Q (.int ((c:Int)-48)) H
theorem Ot:∀ c∈List.range 58,48<=c->intText? ⟨#[c]⟩=some ((c:Int)-48):=by decide +kernel
theorem GC:eE X (.type "int") a5Q:=by
 intro pins s zzs H xs us Q I r h;obtain⟨c,rfl,h1,h2,q⟩:=h;obtain⟨u,rfl,t,rfl⟩:=vals1 r;exact PySem.W.KIN.call_text (Ot c (fK.mpr (by lia)) h1) (by show(1:Nat)<=640;decide) ⟨.int _,H,I.tok _,⟨_,rfl⟩,q⟩
end
def dO(zs:List Str)(c:Cell):Int:=(codeAt zs (c.1.toNat,c.2.toNat):Int)-48
theorem Hj:∀ h∈List.range 7,∀ w∈List.range 7,(cB h w).Pairwise cF:=by decide +kernel
theorem w5(c:Nat):inS "012345678" c=decide (48<=c/\c<=56):=by
 rw[Jj (by decide +kernel)];have e:("012345678" : Str).cps.toList=[48,49,50,51,52,53,54,55,56]:=by decide +kernel
 rw[e];have:(c∈[48,49,50,51,52,53,54,55,56])↔(48<=c/\c<=56):=by simp;lia
 rw[rG];exact this
theorem qQ{zs:List Str}{w:Nat}{sg:Str}{x:Cell}:x∈bH zs w sg↔inF zs.length w x/\inS sg (codeAt zs (x.1.toNat,x.2.toNat))=true:=by
 unfold bH;rw[List.mem_flatMap];constructor
 ·rintro⟨r,hr,hx⟩;obtain⟨c,hc,rfl⟩:=cu.mp hx;rw[cC,fK] at hc;rw[fK] at hr;exact⟨⟨⟨by show(0:Int)<=(r:Int);lia,by show(r:Int)<zs.length;lia⟩,⟨by show(0:Int)<=(c:Int);lia,by show(c:Int)<w;lia⟩⟩,hc.2⟩
 ·rintro⟨⟨⟨a,b⟩,⟨c,d⟩⟩,hs⟩;refine⟨x.1.toNat,fK.mpr (by lia),cu.mpr ⟨x.2.toNat,cC.mpr ⟨fK.mpr (by lia),hs⟩,?_⟩⟩;exact mJ (by show((x.1.toNat:Nat):Int)=x.1;lia) (by show((x.2.toNat:Nat):Int)=x.2;lia)
theorem Vw.code{zs:List Str}{w:Nat}{x:Cell}(v:Vw zs w)(h:inF zs.length w x):ud (codeAt zs (x.1.toNat,x.2.toNat))=true:=by
 obtain⟨⟨a,b⟩,⟨c,d⟩⟩:=h;have hr:x.1.toNat<zs.length:=by lia
 have e:zs.getD x.1.toNat Str.empty=zs[x.1.toNat]:=by simp[gO,hr]
 have hl:(zs[x.1.toNat]).cps.size=w:=v.len _ (oG hr);refine v.sg _ (oG hr) _ ?_;unfold codeAt;dsimp only;rw[e,oF,ig (by lia)];exact Qn _
theorem kY{zs:List Str}{w:Nat}{x:Cell}(v:Vw zs w):x∈bH zs w "012345678" ↔ inF zs.length w x/\aL zs w x=false:=by
 rw[qQ,w5];constructor
 ·rintro⟨h,hc⟩;have:=cI hc;refine⟨h,?_⟩;unfold aL;rw[cG (show ¬codeAt zs (x.1.toNat,x.2.toNat)=35 by lia),uF]
 ·rintro⟨h,hc⟩;have sg:=cI (v.code h);unfold aL at hc;rw[bR h,uG] at hc;have:=j6 hc;exact⟨h,bR (by lia)⟩
theorem Vw.digit{zs:List Str}{w:Nat}{x:Cell}(v:Vw zs w)(h:inF zs.length w x)(hc:aL zs w x=false):48<=codeAt zs (x.1.toNat,x.2.toNat)/\codeAt zs (x.1.toNat,x.2.toNat)<=56:=by
 have:=(qQ.mp ((kY v).mpr ⟨h,hc⟩)).2;rw[w5] at this;exact cI this
theorem TJ{zs:List Str}{w:Nat}{x:Cell}:x∈bH zs w "#" ↔ aL zs w x=true:=by
 rw[<- jf];unfold dZ;rw[cC,dI];constructor
 ·exact fun h=>h.2
 ·intro h;refine⟨?_,h⟩;unfold aL at h;rw[lW] at h;exact cI h.1
theorem O6{cs:List Cell}(h:Asc cs)(nd:cs.Nodup):cs.Pairwise cF:=by
 unfold Asc at h;have:cs.Pairwise fun a b=>¬cF b a/\a≠b:=h.and nd
 exact this.imp fun {a b} hab=>by
  obtain⟨h1,h2⟩:=hab;have h3:¬(a.1=b.1/\a.2=b.2):=fun z=>h2 (mJ z.1 z.2)
  unfold cF at *;lia
theorem jQ{cs:List Cell}(h:cs.Pairwise cF):cs.Nodup:=h.imp fun {a b} hab e=>by
 subst e;unfold cF at hab;lia
section
variable{κ:Type} [DecidableEq κ]
def vC(kvs:List (κ×V))(k:κ):Option V:=(kvs.find? fun kv=>decide (kv.1=k)).map (·.2)
def putK(kvs:List (κ×V))(k:κ)(v:V):List (κ×V):=
 if(kvs.any fun kv=>decide (kv.1=k))=true then kvs.map (fun kv=>if kv.1=k then(kv.1,v) else kv) else kvs++[(k,v)]
theorem uq{p:κ×V}{r:List (κ×V)}{k:κ}(e:p.1=k):vC (p::r) k=some p.2:=by simp[vC,Al,e]
theorem uo{p:κ×V}{r:List (κ×V)}{k:κ}(e:¬p.1=k):vC (p::r) k=vC r k:=by simp[vC,Al,e]
theorem um(k:κ):∀ kvs:List (κ×V),(kvs.any fun kv=>decide (kv.1=k))=(vC kvs k).isSome
 |[]=>rfl
 |p::r=>by
  rw[wV];by_cases e:p.1=k
  ·simp only[uq e,bR e,Rb,Option.isSome_some]
  ·rw[uo e,cG e,Bool.false_or];exact um k r
theorem Bf(kvs:List (κ×V))(k:κ)(v:V):(putK kvs k v).length<=kvs.length+1:=by
 unfold putK;split
 ·rw[aR];lia
 ·rw[c7,iR,Fv];lia
theorem MJ{kvs:List (κ×V)}{k:κ}(v:V)(h:vC kvs k=none):putK kvs k v=kvs++[(k,v)]:=by
 unfold putK;rw[um,h];exact aH (by decide)
theorem yK.pR{o:Option V}{u:Option Value}(r:yK o u):o.isSome=u.isSome:=by
 cases o with
 |none=>cases u with
  |none=>rfl
  |some _=>exact(show False from r).elim
 |some _=>cases u with
  |none=>exact(show False from r).elim
  |some _=>rfl
theorem KV.val{kvs:List (κ×V)}{vs:List (κ×Value)}(r:KV kvs vs)(k:κ):yK (vC kvs k) (valueAt vs k):=by
 unfold KV at r
 induction r with
 |nil=>exact True.intro
 |@cons p q ps qs h t ih=>
  obtain⟨h1,h2⟩:=h;by_cases e:p.1=k
  ·have e':q.1=k:=h1.symm.trans e;have b:valueAt (q::qs) k=some q.2:=by simp[valueAt,Al,e']
   rw[uq e,b];exact h2
  ·have e':¬q.1=k:=fun z=>e (h1.trans z)
   have b:valueAt (q::qs) k=valueAt qs k:=by simp[valueAt,Al,e']
   rw[uo e,b];exact ih
theorem KV.any{kvs:List (κ×V)}{vs:List (κ×Value)}(r:KV kvs vs)(k:κ):(kvs.any fun kv=>decide (kv.1=k))=vs.any fun kv=>decide (kv.1=k):=by
 unfold KV at r
 induction r with
 |nil=>rfl
 |cons h t ih=>rw[wV,wV,ih,h.1]
theorem KV.repl{kvs:List (κ×V)}{vs:List (κ×Value)}(r:KV kvs vs)(k:κ){y:V}{u:Value}(ry:RelV y u) :
  KV (kvs.map fun kv=>if kv.1=k then(kv.1,y) else kv) (vs.map fun kv=>if kv.1=k then(kv.1,u) else kv):=by
 unfold KV at r ⊢
 induction r with
 |nil=>exact .nil
 |@cons p q ps qs h t ih=>
  rw[gq,gq];refine .cons ?_ ih;obtain⟨h1,h2⟩:=h;by_cases e:p.1=k
  ·rw[aK e,aK (h1.symm.trans e)];exact⟨h1,ry⟩
  ·rw[aH e,aH (fun z=>e (h1.trans z))];exact⟨h1,h2⟩
theorem KV.put{kvs:List (κ×V)}{vs:List (κ×Value)}(r:KV kvs vs)(k:κ){y:V}{u:Value}(ry:RelV y u):KV (putK kvs k y) (stored vs k u):=by
 unfold putK stored;rw[r.any k];by_cases e:(vs.any fun kv=>decide (kv.1=k))=true
 ·rw[aK e,aK e];exact r.repl k ry
 ·rw[aH e,aH e];exact Paired.snoc r ⟨rfl,ry⟩
theorem KV.length{kvs:List (κ×V)}{vs:List (κ×Value)}(r:KV kvs vs):kvs.length=vs.length:=Paired.length r
end
theorem M6{P:Program}{w:World}{k:Key}{u:Value}(r:RelV (kV k) u):(iD P w).is k u=true:=by
 cases k with
 |inl i=>obtain⟨t,e⟩:=(show ∃ t,u=Value.int i t from r);subst e;exact Ml P w i t
 |inr x=>obtain⟨t,e⟩:=(show ∃ t,u=Value.str x t from r);subst e;exact Mp P w x t
theorem Ht{P:Program}{w:World}:∀ {ks:List Key} {us:List Value},Vals (ks.map kV) us->ItemsAre (iD P w) ks us
 |[],_,r=>by rw[FN] at r;cases r;exact .nil
 |k::ks,_,r=>by
  rw[gq] at r;cases r with
  |cons h t=>exact .cons (M6 h) (Ht t)
abbrev KT(H:Hp):List (List Key×V)->List (List Key×Addr×Value)->Prop:=Paired fun p q=>p.1=q.1/\H q.2.1=some (.tup (p.1.map kV))/\RelV p.2 q.2.2
theorem KT.val{H:Hp}{kvs:List (List Key×V)}{xs:List (List Key×Addr×Value)}(r:KT H kvs xs)(k:List Key):yK (vC kvs k) ((atKey xs k).map (·.2)):=by
 induction r with
 |nil=>exact True.intro
 |@cons p q ps qs h t ih=>
  obtain⟨h1,_,h2⟩:=h;by_cases e:p.1=k
  ·have e':q.1=k:=h1.symm.trans e;have b:atKey (q::qs) k=some q.2:=by simp[atKey,Al,e']
   rw[uq e,b];exact h2
  ·have e':¬q.1=k:=fun z=>e (h1.trans z)
   have b:atKey (q::qs) k=atKey qs k:=by simp[atKey,Al,e']
   rw[uo e,b];exact ih
theorem KT.repl{H:Hp}{kvs:List (List Key×V)}{xs:List (List Key×Addr×Value)}(r:KT H kvs xs)(k:List Key){y:V}{u:Value}(ry:RelV y u) :
  KT H (kvs.map fun kv=>if kv.1=k then(kv.1,y) else kv) (xs.map (putAt k u)):=by
 induction r with
 |nil=>exact .nil
 |@cons p q ps qs h t ih=>
  rw[gq,gq];refine .cons ?_ ih;obtain⟨h1,h2,h3⟩:=h;unfold putAt;by_cases e:p.1=k
  ·rw[aK e,aK (h1.symm.trans e)];exact⟨h1,h2,ry⟩
  ·rw[aH e,aH (fun z=>e (h1.trans z))];exact⟨h1,h2,h3⟩
theorem KT.put{H:Hp}{kvs:List (List Key×V)}{xs:List (List Key×Addr×Value)}(r:KT H kvs xs)(k:List Key){b:Addr}{y:V}{u:Value}(hb:H b=some (.tup (k.map kV)))(ry:RelV y u) :
  KT H (putK kvs k y) (storedH xs k b u):=by
 have e:(kvs.any fun kv=>decide (kv.1=k))=(atKey xs k).isSome:=by
  rw[um,(r.val k).pR,QV]
 unfold putK storedH;rw[e];by_cases q:(atKey xs k).isSome=true
 ·rw[aK q,aK q];exact r.repl k ry
 ·rw[aH q,aH q];exact Paired.snoc r ⟨rfl,hb,ry⟩
theorem KT.keeps{H H':Hp}{kvs:List (List Key×V)}{xs:List (List Key×Addr×Value)}(r:KT H kvs xs)(ht:∀ b ys,H b=some (.tup ys)->H' b=some (.tup ys)):KT H' kvs xs:=
 Paired.a3u r fun _ _ z=>⟨z.1,ht _ _ z.2.1,z.2.2⟩
section
variable{P:Program}{w:World}{H:Hp}{h:Heap}{a:Addr}
theorem a2o{u:HO}(ok:HOk P w H h)(e:Rd H a u):fQ P w H h a u:=e.ok ok
theorem Lw{kvs:List (Key×V)}(ok:HOk P w H h)(e:Rd H a (.dK kvs)):kvs.length<=sizeLine/\(a==sysModules)=false/\∃ vs,KV kvs vs/\h.DictOf (iD P w) a vs:=
 show fQ P w H h a (.dK kvs) from a2o ok e
theorem a5g{kvs:List (Key×V)}(ok:HOk P w H h)(e:H a=some (.dK kvs)):kvs.length<=sizeLine/\(a==sysModules)=false/\∃ vs,KV kvs vs/\h.DictOf (iD P w) a vs:=Lw ok (.inl e)
theorem zu{ks:List Key}(ok:HOk P w H h)(e:H a=some (.tup (ks.map kV))):(tupleKind (iD P w)).is h ks a:=by
 obtain⟨_,its,r,o,h1,h2,n,h3⟩:=(show fQ P w H h a (.tup (ks.map kV)) from ok a _ e)
 exact⟨o,its.toArray,n,h1,h2,h3,by simpa using Ht r⟩
theorem Ly{kvs:List (List Key×V)}(ok:HOk P w H h)(e:Rd H a (.dT kvs)):kvs.length<=sizeLine/\(a==sysModules)=false /\
  ∃ xs,KT H kvs xs/\h.DictOfH (tupleKind (iD P w)) a xs:=by
 obtain⟨z,y,xs,r,o,es,ep,h1,h2,h3,h4,h5⟩:=(show fQ P w H h a (.dT kvs) from a2o ok e)
 refine⟨z,y,xs,r,o,es,ep,h1,h2,h3,h4,fun x hx=>?_,h5⟩;have all:∀ {l:List (List Key×V)} {m:List (List Key×Addr×Value)},KT H l m->∀ x∈m,(tupleKind (iD P w)).is h x.1 x.2.1:=by
  intro l m q
  induction q with
  |nil=>intro x hx;exact nomatch hx
  |@cons p q ps qs hq t ih=>
   intro x hx;rcases cW.mp hx with e|hx
   ·subst e;exact zu ok (by rw[<- hq.1];exact hq.2.1)
   ·exact ih x hx
 exact all r x hx
theorem W3{kvs:List (List Key×V)}(ok:HOk P w H h)(e:H a=some (.dT kvs)):kvs.length<=sizeLine/\(a==sysModules)=false /\
  ∃ xs,KT H kvs xs/\h.DictOfH (tupleKind (iD P w)) a xs:=Ly ok (.inl e)
end
def yw(H:Hp)(a:Addr)(y:V)(r:Option V):Prop:=
 (∃ kvs k,Rd H a (.dK kvs)/\y=kV k/\r=vC kvs k)\/∃ kvs k b,Rd H a (.dT kvs)/\y=.ref b/\H b=some (.tup (k.map kV))/\r=vC kvs k
def Kz(H:Hp)(a:Addr)(y v:V)(H':Hp):Prop:=
 (∃ kvs k,H a=some (.dK kvs)/\y=kV k/\kvs.length<sizeLine/\H'=upd H a (.dK (putK kvs k v))) \/
 ∃ kvs k b,H a=some (.dT kvs)/\y=.ref b/\H b=some (.tup (k.map kV))/\kvs.length<sizeLine/\H'=upd H a (.dT (putK kvs k v))
theorem yw.t{H:Hp}{a b:Addr}{kvs:List (List Key×V)}{k:List Key}(e:H a=some (.dT kvs))(eb:H b=some (.tup (k.map kV))):yw H a (.ref b) (vC kvs k):=.inr ⟨kvs,k,b,.inl e,rfl,eb,rfl⟩
theorem Kz.t{H:Hp}{a b:Addr}{kvs:List (List Key×V)}{k:List Key}{v:V}(e:H a=some (.dT kvs))(eb:H b=some (.tup (k.map kV)))(hl:kvs.length<sizeLine) :
  Kz H a (.ref b) v (upd H a (.dT (putK kvs k v))):=.inr ⟨kvs,k,b,e,rfl,eb,hl,rfl⟩
section
variable{X:Cx}{pins:List (Addr×Obj)}{zzs:St}{H:Hp}{s:Shared}{a:Addr}{y v:V}{u r:Value}{o:Option V}{A:Around}{E:Value->Shared->Prop}
theorem Inv.big(I:Inv X pins zzs H s):sysModules<s.heap.objs.size:=by
 have h:mainGlobals<s.heap.objs.size:=(I.mod.glob.keeps I.bk).lt;exact Nat.lt_trans (by decide) h
theorem U3{Q:Value->Shared->Prop}(hu:A.units+1<cLine)(I:Inv X pins zzs H s)(g:yw H a y (some v))(ry:RelV y u)(h:∀ w' s',Inv X pins zzs H s'->RelV v w'->Q w' s') :
  wpAny (model X.prog X.w) A (getItem (.ref a) u) Q E s:=by
 rcases g with⟨kvs,k,e,ey,l⟩|⟨kvs,k,b,e,ey,eb,l⟩
 ·subst ey;obtain⟨z,hd,vs,rel,dd⟩:=Lw I.hok e;obtain⟨w',hw,rw'⟩:=yK.some_of (v:=v) (o:=valueAt vs k) (by rw[l];exact rel.val k);exact wpAny_getItem_of (M6 ry) dd.mapOf hw (h w' _ (I.tok _) rw')
 ·subst ey;cases (show u=Value.ref b from ry);obtain⟨z,hd,xs,rel,dd⟩:=Ly I.hok e;obtain⟨w',hw,rw'⟩:=yK.some_of (v:=v) (o:=(atKey xs k).map (·.2)) (by rw[l];exact rel.val k);obtain⟨p,hp,hp2⟩:=gn.mp hw;refine wpAny_getItem_heap (K5 hu) (zu I.hok eb) dd hp ?_;rw[hp2];exact h w' _ (I.tok _) rw'
theorem a6D{Q:Value->Shared->Prop}(hu:A.units+1<cLine)(I:Inv X pins zzs H s)(g:yw H a y o)(ry:RelV y u)(h:∀ s',Inv X pins zzs H s'->Q (.bool o.isSome) s') :
  wpAny (model X.prog X.w) A (compareOp .In u (.ref a)) Q E s:=by
 rcases g with⟨kvs,k,e,ey,l⟩|⟨kvs,k,b,e,ey,eb,l⟩
 ·subst ey;obtain⟨z,hd,vs,rel,dd⟩:=Lw I.hok e;refine wpAny_in_of (M6 ry) hd dd.mapOf ?_;rw[<- (rel.val k).pR,<- l];exact h _ (I.tok _)
 ·subst ey;cases (show u=Value.ref b from ry);obtain⟨z,hd,xs,rel,dd⟩:=Ly I.hok e;refine wpAny_in_heap (K5 hu) (zu I.hok eb) hd dd ?_;have q:=(rel.val k).pR;rw[QV] at q;rw[<- q,<- l];exact h _ (I.tok _)
theorem a08{Q:Value->Shared->Prop}(hu:A.units+1<cLine)(I:Inv X pins zzs H s)(g:yw H a y o)(ry:RelV y u)(h:∀ s',Inv X pins zzs H s'->Q (.bool (!o.isSome)) s') :
  wpAny (model X.prog X.w) A (compareOp .NotIn u (.ref a)) Q E s:=by
 rcases g with⟨kvs,k,e,ey,l⟩|⟨kvs,k,b,e,ey,eb,l⟩
 ·subst ey;obtain⟨z,hd,vs,rel,dd⟩:=Lw I.hok e;refine wpAny_notIn_of (M6 ry) hd dd.mapOf ?_;rw[<- (rel.val k).pR,<- l];exact h _ (I.tok _)
 ·subst ey;cases (show u=Value.ref b from ry);obtain⟨z,hd,xs,rel,dd⟩:=Ly I.hok e;refine wpAny_notIn_heap (K5 hu) (zu I.hok eb) hd dd ?_;have q:=(rel.val k).pR;rw[QV] at q;rw[<- q,<- l];exact h _ (I.tok _)
theorem Jc{h':Heap}{t':Nat}{ob:HO}(I:Inv X pins zzs H s)(mu:Mut (H a))(hs:Heap.SameBut a s.heap h')(he:∃ q,h'.get? a=some q)(new:fQ X.prog X.w (upd H a ob) h' a ob) :
  Inv X pins zzs (upd H a ob) { s with heap:=h',toks:=t' }:=
 I.write (x:=a) (e:=a) mu (.inl rfl) (fun b q hb z=>(hs.2 b hb).trans z) he new
theorem a2T{P:Program}{w:World}{H':Hp}{h':Heap}{kvs:List (Key×V)}{vs:List (Key×Value)}(z:kvs.length<=sizeLine)(hd:(a==sysModules)=false)(rel:KV kvs vs)(dd:h'.DictOf (iD P w) a vs) :
  fQ P w H' h' a (.dK kvs):=⟨z,hd,vs,rel,dd⟩
theorem U8{H':Hp}{Q:Unit->Shared->Prop}(hu:A.units+1<cLine)(I:Inv X pins zzs H s)(g:Kz H a y v H')(ry:RelV y u)(rv:RelV v r)(h:∀ s',Inv X pins zzs H' s'->Q () s') :
  wpAny (model X.prog X.w) A (setItem (.ref a) u r) Q E s:=by
 rcases g with⟨kvs,k,e,ey,l,eH⟩|⟨kvs,k,b,e,ey,eb,l,eH⟩
 ·subst ey eH;obtain⟨z,hd,vs,rel,dd⟩:=a5g I.hok e;have hz:vs.length<=sizeLine:=by rw[<- rel.length];exact z
  have hl:(putK kvs k v).length<=sizeLine:=by have:=Bf kvs k v;lia
  refine wpAny_setItem_pairs (hsz:=hz) (M6 ry) dd fun h' dd' hs=>h _ ?_
  have he:∃ q,h'.get? a=some q:=let ⟨q,_,_,hq,_⟩:=dd';⟨q,hq⟩;exact Jc I (by rw[e];exact True.intro) hs he (a2T hl hd (rel.put k rv) dd')
 ·subst ey eH;cases (show u=Value.ref b from ry);obtain⟨z,hd,xs,rel,dd⟩:=W3 I.hok e;have hz:xs.length<=sizeLine:=by rw[<- Paired.length rel];exact z
  have hl:(putK kvs k v).length<=sizeLine:=by have:=Bf kvs k v;lia
  refine wpAny_setItem_heap (hsz:=hz) (K5 hu) (zu I.hok eb) dd fun h' dd' hs=>h _ ?_
  obtain⟨q,es,ep,hq,h2,h3,h4,_,h5⟩:=dd';refine Jc I (by rw[e];exact True.intro) hs ⟨q,hq⟩ ⟨hl,hd,_,(rel.put k eb rv).keeps fun c ys ec=>?_,q,es,ep,hq,h2,h3,h4,h5⟩;rw[bD (pW ec e (fun z=>nomatch z))];exact ec
end
theorem Lr{X:Cx}{pins:List (Addr×Obj)}{zzs:St}{H:Hp}{s:Shared}{a:Addr}{y:V}{o:Option V}(I:Inv X pins zzs H s)(g:yw H a y o):s.TypeIs (.ref a) "dict":=by
 rcases g with⟨kvs,k,e,_,_⟩|⟨kvs,k,b,e,_,_,_⟩
 ·obtain⟨_,_,vs,_,dd⟩:=Lw I.hok e;exact dd.typeIs
 ·obtain⟨_,_,xs,_,dd⟩:=Ly I.hok e;exact dd.typeIs
theorem Lx{P:Program}{w:World}{H:Hp}(h:Heap)(hb:sysModules<h.objs.size):fQ P w H (h.push { cls:=.type "dict",data:=.dict #[] }) h.objs.size (.dT []):=
 ⟨j7 _,qg.mpr (j5 (dU hb)),[],.nil,_,#[],0,fV _ rfl,⟨rfl,rfl,rfl⟩,rfl,rfl,Av⟩
def YF:TE:=fun _ H Q=>∀ p,H p=none->Q (.ref p) (upd H p (.dT []))
section
variable{X:Cx}{pos:Pos}
theorem Xe:PE X (.Dict [] [] pos) YF:=fun pins s zzs H Q I h=>
 wpAny_Dict_empty ⟨.ref s.heap.objs.size,_,I.laid (a:=s.heap.objs.size) (o:=.dT []) (t':=s.toks) (fun _ _ q=>eY _ q) (bK _) (Lx s.heap I.big),rfl,h _ (I.hok.fresh (bK _))⟩
end
def YJ:List (TE×TE)->St->Hp->(List (V×V)->Hp->Prop)->Prop
 |[],_,H,Q=>Q [] H
 |(tk,tv)::r,zzs,H,Q=>tk zzs H fun x H1=>tv zzs H1 fun y H2=>YJ r zzs H2 fun ps H3=>Q ((x,y)::ps) H3
abbrev VV:List (V×V)->List (Value×Value)->Prop:=Paired fun p q=>RelV p.1 q.1/\RelV p.2 q.2
def PPs(X:Cx)(pos:Pos)(keys:List (Option Expr))(values:List Expr)(trs:List (TE×TE)):Prop:=
 ∀(pins:List (Addr×Obj))(s:Shared)(zzs:St)(H:Hp)(Q:List (V×V)->Hp->Prop),Inv X pins zzs H s->YJ trs zzs H Q ->
  wpAny (model X.prog X.w) X.A (evalPairs (pairTrees keys values X.env pos)) (fun vs s'=>∃ ps H',Inv X pins zzs H' s'/\VV ps vs/\Q ps H') X.xe s
theorem a1j{X:Cx}{pos:Pos}:PPs X pos [] [] []:=fun pins s zzs H Q I h=>pairTrees_nil_walk ⟨[],H,I,.nil,h⟩
theorem Xj{X:Cx}{pos:Pos}{k v:Expr}{ks:List (Option Expr)}{vs:List Expr}{tk tv:TE}{trs:List (TE×TE)}(hk:PE X k tk)(hv:PE X v tv)(hr:PPs X pos ks vs trs) :
  PPs X pos (some k::ks) (v::vs) ((tk,tv)::trs):=fun pins s zzs H Q I h=>
 pairTrees_cons_walk (thn (hk pins s zzs H _ I h) fun u s1 ⟨x,H1,I1,rx,q1⟩=>thn (hv pins s1 zzs H1 _ I1 q1) fun w2 s2 ⟨y,H2,I2,ry,q2⟩=>
  thn (hr pins s2 zzs H2 _ I2 q2) fun ws s3 ⟨ps,H3,I3,rel,q3⟩=>⟨(x,y)::ps,H3,I3,.cons ⟨rx,ry⟩ rel,q3⟩)
section
variable{X:Cx}
def a75:R2:=fun x y H Q=>∃ a v,x=.ref a/\yw H a y (some v)/\Q v H
theorem BX(hu:X.A.units+60<cLine):IxR X a75:=by
 intro value slice pins s zzs H x y v u Q I rx ry h hs;obtain⟨a,z,rfl,g,q⟩:=h;cases rx;exact tail_any (ops:=[.ref a,u]) (Lr I g) PySem.F.slot_dict_getitem.lookup (U3 (by lia) I g ry fun w' s3 I3 rw'=>⟨z,H,I3,rw',q⟩) hs
def Ss(neg:Bool):R2:=fun y x H Q=>∃ a o,x=.ref a/\yw H a y o/\Q (.bl (if neg then !o.isSome else o.isSome)) H
theorem V1(hu:X.A.units+60<cLine):OpR X (compareOp .In) (Ss false):=by
 intro pins s zzs H y x u v Q I ry rx h;obtain⟨a,o,rfl,g,q⟩:=h;cases rx;exact a6D (by lia) I g ry fun s3 I3=>⟨.bl o.isSome,H,I3,rfl,q⟩
theorem xM(hu:X.A.units+60<cLine):OpR X (compareOp .NotIn) (Ss true):=by
 intro pins s zzs H y x u v Q I ry rx h;obtain⟨a,o,rfl,g,q⟩:=h;cases rx;exact a08 (by lia) I g ry fun s3 I3=>⟨.bl (!o.isSome),H,I3,rfl,q⟩
def a5X:V->V->V->Hp->(Hp->Prop)->Prop:=fun o i v H Q=>∃ a H',o=.ref a/\Kz H a i v H'/\Q H'
theorem set_dict(hu:X.A.units+60<cLine):ZS X a5X:=by
 intro pins s zzs H o i v ov iv u Q I ro ri rv h;obtain⟨a,H',rfl,g,q⟩:=h;cases ro;exact U8 (by lia) I g ri rv fun s4 I4=>⟨H',I4,q⟩
end
section
variable{X:Cx}{pos:Pos}{k v:Expr}{tk tv:TE}
def YG(tk tv:TE):TE:=fun zzs H Q=>∀ p,H p=none->tk zzs (upd H p (.dT [])) fun x H1=>tv zzs H1 fun y H2=>∃ ks b,H2 p=some (.dT [])/\x=.ref b/\H2 b=some (.tup (ks.map kV))/\Q (.ref p) (upd H2 p (.dT [(ks,y)]))
theorem Xd(hu:X.A.units+60<cLine)(hk:PE X k tk)(hv:PE X v tv):PE X (.Dict [some k] [v] pos) (YG tk tv):=by
 intro pins s zzs H Q I q;have hn:=I.hok.fresh (bK s.heap.objs.size);have I1:=I.laid (a:=s.heap.objs.size) (o:=.dT []) (h':=s.heap.push { cls:=.type "dict",data:=.dict #[] }) (t':=s.toks) (fun _ _ z=>eY _ z) (bK _) (Lx s.heap I.big);refine wpAny_Dict_any rfl rfl (by intro z;cases z) (by show 1<=15;decide) ?_;have pp:PPs X pos [some k] [v] [(tk,tv)]:=Xj hk hv a1j;refine thn (pp pins _ zzs _ (fun ps H2=>match ps with
  |[(x,y)]=>∃ ks b,H2 s.heap.objs.size=some (.dT [])/\x=.ref b/\H2 b=some (.tup (ks.map kV))/\Q (.ref s.heap.objs.size) (upd H2 s.heap.objs.size (.dT [(ks,y)]))
  |_=>False) I1 (q _ hn)) fun ws s2 h=>?_
 obtain⟨ps,H2,I2,rel,h⟩:=h;cases rel with
 |nil=>exact h.elim
 |@cons p1 w1 ps' ws' r1 a7a=>
  cases a7a with
  |cons _ _=>exact h.elim
  |nil=>
   obtain⟨x,y⟩:=p1;obtain⟨u,r⟩:=w1;obtain⟨ks,b,e,ex,eb,q2⟩:=h;subst ex;obtain⟨ru,ry⟩:=r1;cases (show u=Value.ref b from ru);obtain⟨z,hd,xs,rel,dd⟩:=W3 I2.hok e;cases rel;show wpAny (model X.prog X.w) X.A (storeAll s.heap.objs.size [(.ref b,r)]) _ _ s2;unfold storeAll;rw[List.forIn_cons];refine aP (aP (wpAny_dictSet_heap (knd:=tupleKind (iD X.prog X.w)) (show X.A.units<cLine by lia) (zu I2.hok eb) dd fun h' dd' hs=>bL ?_));dsimp only;rw[List.forIn_nil];refine bL ?_;obtain⟨o,es,ep,ho,h2,h3,h4,_,h5⟩:=dd';refine⟨.ref s.heap.objs.size,_,Jc (ob:=.dT [(ks,y)]) I2 (by rw[e];exact True.intro) hs ⟨o,ho⟩ ⟨by show 1<=sizeLine;rw[oX];decide,hd,_,(KT.put (kvs:=[]) (xs:=[]) .nil ks eb ry).keeps fun c ys ec=>?_,o,es,ep,ho,h2,h3,h4,h5⟩,rfl,q2⟩;rw[bD (pW ec e (fun z=>nomatch z))];exact ec
theorem a1E(hu:X.A.units+60<cLine)(hk:RE X k tk)(hv:RE X v tv):RE X (.Dict [some k] [v] pos) (YG tk tv):=⟨Xd hu hk.ok hv.ok⟩
theorem Sw:RE X (.Dict [] [] pos) YF:=⟨Xe⟩
end
end L2
namespace L2
open PySem PySem.Spec PyProof.Rows PySem.SeqAt PySem.MeetsSeq PySem.MeetsSeq2 PySem.MeetsSeq3
open PySem.AutoSeq1 (wpAny_loadPart')
theorem WD(I d:Addr)(i n ep:Nat)(es:Array DictEntry)(dd d1:Option Addr)(z1 z2:Array (Option Value))(c:Value)(hi:i<es.size)(hn:n=es.size):Meets (Builtin.«dict_keyiterator.__next__» ⟨[.ref I],[]⟩)
  (fun _ R s=>s.heap.get? I=some { cls:=.type "dict_keyiterator",dict:=dd,data:=.fields #[.ref d,.int i 0,.int n 0,.int ep 0],slots:=z1 }/\s.heap.get? d=some { cls:=.type "dict",dict:=none,data:=.dict es ep,slots:=#[] } /\
   ∀ h' tk',h'.get? I=some { cls:=.type "dict_keyiterator",dict:=dd,data:=.fields #[.ref d,.int ((i+1:Nat):Int) 0,.int n 0,.int ep 0],slots:=z1 }->(∀ b o,b≠I->s.heap.get? b=some o->h'.get? b=some o)->R (.ok (.ret es[i].key)) { s with heap:=h',toks:=tk' }):=
 .of_wp fun prog w A R s h=>by
  obtain⟨hp,g,dr,tk,os⟩:=s;obtain⟨e1,e2,h⟩:=h
  wp_walk using wpAny_loadPart' e1,wpAny_loadPart' e2
  have e:(if(i:Int)<0 then none else es[((i:Nat):Int).toNat]?)=some es[i]:=by
   rw[aH (by lia),jq,ig hi]
  rw[e];dsimp only
  wp_walk using wpAny_loadPart' e1,wpAny_loadPart' e2
  refine⟨_,rfl,h _ tk ?_ fun b o hb eb=>?_⟩
  ·have:=Bt (Obj.mapFields fun x=>x.setIfInBounds 1 (rawInt ((i:Int)+1))) e1 rfl;exact this
  ·rw[rQ _ _ _ _ hb];exact eb
end L2
namespace L2
open PySem PySem.Spec PyProof.Rows
theorem uY{K:ao}{C C':Addr}(c:ju K C)(e:PySem.W.kitOne K (.ref C) (.ref C')=some false):C≠C'/\ju K C/\BR K C C'=true:=by
 unfold PySem.W.kitOne at e;by_cases q:(Value.ref C==Value.ref C')=true
 ·rw[aK q] at e;cases e
 rw[aH q] at e;refine⟨fun z=>q (by rw[z];exact K9 _),c,?_⟩;have hx:=c.ex;unfold PySem.W.excIn at hx;split at hx
 ·rename_i dd cd sl ho;have e2:PySem.W.mroIn K C (.ref C')=some false:=by
   have e':(if((PySem.W.clsIn K C').isSome&&PySem.W.typeIn K (.ref C')==some (.type "type"))=true then PySem.W.mroIn K C (.ref C') else none)=some false:=e;split at e'
   ·exact e'
   ·cases e'
  unfold PySem.W.mroIn PySem.W.clsIn at e2;rw[ho] at e2;unfold BR;rw[ho];have e3:(if cd.mro.isEmpty then none else some (cd.mro.contains (.ref C')))=some false:=e2;split at e3
  ·cases e3
  ·injection e3 with e3;show(!cd.mro.contains (.ref C'))=true;rw[e3];rfl
 ·cases hx
def Gf(H H':Hp):Prop:=∀ b xs,H b=some (.tup xs)->H' b=some (.tup xs)
theorem Gf.put{H:Hp}{x:Addr}{o u:HO}(hx:H x=some o)(no:∀ xs,o≠.tup xs):Gf H (upd H x u):=fun b xs e=>by
 rw[bD (fun z=>by rw[z,hx] at e;exact no xs (iu e))];exact e
section
variable{K:ao}{H H':Hp}
theorem Gf.cell{v:V}{x:Cell}(s:Gf H H')(h:Den K H v (aB x)):Den K H' v (aB x):=by
 obtain⟨a,rfl,_,ht⟩:=fY h;exact .tup (s _ _ ht) (.cons (.int _) (.cons (.int _) .nil))
theorem Gf.cells(s:Gf H H'):∀ {vs:List V} {cs:List Cell},aU K H vs (cs.map aB)->aU K H' vs (cs.map aB)
 |[],[],_=>.nil
 |v::vs,c::cs,.cons h t=>.cons (s.cell h) (s.cells t)
end
def iC(c:Cell):List Key:=[.inl c.1,.inl c.2]
theorem DG{a b:Cell}(e:iC a=iC b):a=b:=by
 unfold iC at e;injection e with e1 e2;injection e2 with e2 _;injection e1 with e1;injection e2 with e2;exact mJ e1 e2
end L2
namespace L2
open PySem PySem.Spec PyProof.Rows PySem.SeqAt PySem.MeetsSeq PySem.MeetsSeq2 PySem.MeetsSeq3
open PySem.AutoSeq1 (wpAny_loadPart')
theorem a0h(I d:Addr)(n ep:Nat)(es:Array DictEntry)(z1:Array (Option Value))(hn:n=es.size):Meets (Builtin.«dict_keyiterator.__next__» ⟨[.ref I],[]⟩)
  (fun A R s=>A.handled=none/\s.heap.get? I=some { cls:=.type "dict_keyiterator",dict:=none,data:=.fields #[.ref d,.int n 0,.int n 0,.int ep 0],slots:=z1 }/\s.heap.get? d=some { cls:=.type "dict",dict:=none,data:=.dict es ep,slots:=#[] } /\
   ∀(h':Heap)(e:Addr),(∃ o,h'.get? e=some o/\o.cls=.type "StopIteration")->(∀ b o,b≠I->s.heap.get? b=some o->h'.get? b=some o)->R (.error (.ref e)) { s with heap:=h' }):=
 .of_wp fun prog w A R s h=>by
  obtain⟨hp,g,dr,tk,os⟩:=s;obtain⟨hh,e1,e2,h⟩:=h
  wp_walk using wpAny_loadPart' e1,wpAny_loadPart' e2
  have e:(if(n:Int)<0 then none else es[((n:Nat):Int).toNat]?)=none:=by
   rw[aH (by lia),jq];exact JQ (by lia)
  rw[e];dsimp only
  wp_walk using wpAny_loadPart' e1,wpAny_loadPart' e2
  unfold raiseNew;refine aP (wpAny_handled ?_);have hh':A.in1.handled=none:=hh;rw[hh'];refine aP (bL (wpAny_throw (h _ _ ⟨_,fV _ rfl,rfl⟩ fun b o hb eb=>eY _ (eY _ ?_))));rw[rQ _ _ _ _ hb];exact eb
section
variable{P:Program}{w:World}{A:Around}{E:Value->Shared->Prop}{s:Shared}
def KIt(I d:Addr)(es:Array DictEntry)(ep i:Nat)(h:Heap):Prop:=
 (∃ z1,h.get? I=some { cls:=.type "dict_keyiterator",dict:=none,data:=.fields #[.ref d,.int i 0,.int es.size 0,.int ep 0],slots:=z1 })/\h.get? d=some { cls:=.type "dict",dict:=none,data:=.dict es ep,slots:=#[] }
theorem KIt.ty{I d:Addr}{es:Array DictEntry}{ep i:Nat}(k:KIt I d es ep i s.heap):s.TypeIs (.ref I) "dict_keyiterator":=let ⟨_,e⟩:=k.1;⟨_,e,rfl⟩
theorem Wr{I d:Addr}{es:Array DictEntry}{ep i:Nat}{Q:Option Value->Shared->Prop}(k:KIt I d es ep i s.heap)(ne:d≠I)(hi:i<es.size)
  (hQ:∀ h' tk',KIt I d es ep (i+1) h'->(∀ b o,b≠I->s.heap.get? b=some o->h'.get? b=some o)->Q (some es[i].key) { s with heap:=h',toks:=tk' }):wpAny (model P w) A (pyNext (.ref I)) Q E s:=by
 obtain⟨⟨z1,e1⟩,e2⟩:=id k;unfold pyNext;refine aP (FJ (JM (name:=Str.ofString "__next__") k.ty NQ
  (uI NQ k.ty Z2 (Z0 _) (WD I d i es.size ep es none none z1 #[] .none hi rfl) ⟨e1,e2,fun h' tk' g1 g2=>?_⟩)))
 exact bL (hQ h' tk' ⟨⟨z1,g1⟩,g2 d _ ne e2⟩ g2)
theorem a0t{I d:Addr}{es:Array DictEntry}{ep:Nat}{Q:Option Value->Shared->Prop}(hh:A.handled=none)(k:KIt I d es ep es.size s.heap)
  (hQ:∀ h',(∀ b o,b≠I->s.heap.get? b=some o->h'.get? b=some o)->Q none { s with heap:=h' }):wpAny (model P w) A (pyNext (.ref I)) Q E s:=by
 obtain⟨⟨z1,e1⟩,e2⟩:=id k;unfold pyNext;refine aP (FJ (JM (name:=Str.ofString "__next__") k.ty NQ
  (uI NQ k.ty Z2 (Z0 _) (a0h I d es.size ep es z1 rfl) ⟨hh,e1,e2,fun h' e ho g2=>?_⟩)))
 obtain⟨o,h1,h2⟩:=ho;refine aP (QZ (T:="StopIteration") (b:=true) ⟨o,h1,h2⟩ isSubtype_stop ?_);exact bL (hQ h' g2)
theorem Wq{d:Addr}{es:Array DictEntry}{ep:Nat}{Q:Value->Shared->Prop}(lo:(d==sysModules)=false) (e:s.heap.get? d=some { cls:=.type "dict",dict:=none,data:=.dict es ep,slots:=#[] })
  (hQ:Q (.ref s.heap.objs.size) { s with heap:=s.heap.push { cls:=.type "dict_keyiterator",dict:=none,data:=.fields #[.ref d,.int 0 0,.int es.size 0,.int ep 0],slots:=#[] } }):wpAny (model P w) A (pyIter (.ref d)) Q E s:=by
 have ty:s.TypeIs (.ref d) "dict":=⟨_,e,rfl⟩
 refine QW ty Zn (uz Zn ty PySem.F.entry_dict_iter ?_ (PySem.F.args_dict_iter_1 _));unfold Builtin.«dict.__iter__»;refine aP ?_;unfold Builtin.Dict.dictSlotNone;refine aP (wpAny_notOrdered_dict ty ?_);refine bL ?_;show wpAny _ _ (Builtin.Dict.showsAll d >>= _) _ _ s;unfold Builtin.Dict.showsAll;rw[lo,aH (by decide)];refine aP (bL (aP (wpAny_dictEntries e rfl (aP (wpAny_dictEpoch e rfl ?_)))));exact aP (uw (bL ⟨_,rfl,"dict_keyiterator",_,⟨_,fV _ rfl,rfl⟩,NQ.lookup,hQ⟩))
theorem Ul(hh:A.handled=none)(I d:Addr)(ne:d≠I)(es:Array DictEntry)(ep:Nat):Walks P w A I [I,d] [I] es.size (fun i v=>∃ h:i<es.size,v=es[i].key) (KIt I d es ep) where
 sub:=fun b hb=>by rw[dB.mp hb];exact dY
 frame:=fun i h h' st hk=>⟨let ⟨z,e⟩:=st.1;⟨z,hk I dY _ e⟩,hk d (fU _ dY) _ st.2⟩
 item:=fun i s Q E hi st hQ=>Wr st ne hi fun h' tk' k' keep=>hQ _ h' tk' ⟨hi,rfl⟩ k' fun b o hb eb=>keep b o (fun z=>hb (by rw[z];exact dB.mpr rfl)) eb
 done:=fun s Q E st hQ=>a0t hh st fun h' keep=>hQ h' s.toks fun b o hb eb=>keep b o (fun z=>hb (by rw[z];exact dB.mpr rfl)) eb
 self:=fun i s Q E st hQ=>let ⟨_,e⟩:=st.1;wpAny_pyIter_keyiter ⟨_,e,rfl,rfl⟩ hQ
theorem a0u(d:Addr)(lo:(d==sysModules)=false)(es:Array DictEntry)(ep:Nat):PySem.W.KdlSrc P w "dict" d d es.size (fun i v=>∃ h:i<es.size,v=es[i].key) (fun h=>h.get? d=some { cls:=.type "dict",dict:=none,data:=.dict es ep,slots:=#[] }) where
 type:=fun s e=>⟨_,e,rfl⟩
 there:=fun h e=>⟨bM e,bM e⟩
 keep:=fun h h' e hk=>hk d (.inl rfl) _ e
 notList:=by decide
 notTuple:=by decide
 hint:=fun A E s Q e hq=>PySem.W.kdl_hint_dict ⟨_,e,rfl⟩ hq
 iter:=fun A s hh e=>⟨_,_,fun E Q hq=>Wq lo e hq,Ul hh _ d (dU (bM e)) es ep,⟨⟨_,fV _ rfl⟩,eY _ e⟩⟩
theorem M9{T:String}{r d:Addr}{n:Nat}{G:Nat->Value->Prop}{OK:Heap->Prop}{C:List Value->Shared->Prop}(S:PySem.W.KdlSrc P w T r d n G OK)(hh:A.handled=none)(ok:OK s.heap)(hz:n<=sizeLine)
  (fin:∀(hp:Heap)(tk:Nat)(got:Array Value),(∀ b o,s.heap.get? b=some o->hp.get? b=some o)->s.heap.objs.size<=hp.objs.size->ItemsOf G got n->C got.toList { s with heap:=hp,toks:=tk }):wpAny (model P w) A (collect (.ref r)) C E s:=by
 obtain⟨lr,ld⟩:=S.there _ ok;unfold collect;refine aP (R7 (rW Z6 ?_));rw[uJ Z7 _];show wpAny _ A.in1 (newList [] >>= fun q=>again (.builtin "list.__iadd__" ⟨[q,.ref r],[]⟩)) _ _ s;refine aP (uw (bL ⟨rY JN _,rW Zj ?_⟩));rw[uJ JN _];have new:(s.heap.push { cls:=.type "list",data:=.seq ([]:List Value).toArray }).get? s.heap.objs.size=some { cls:=.type "list",data:=.seq #[] }:=fV _ rfl;have done:∀(hp:Heap)(tk:Nat)(got:Array Value)(c:Nat),(∀ b o,b≠s.heap.objs.size->(s.heap.push { cls:=.type "list",data:=.seq ([]:List Value).toArray }).get? b=some o->hp.get? b=some o)->hp.get? s.heap.objs.size=some { cls:=.type "list",dict:=none,data:=.seq got c,slots:=#[] }->ItemsOf G got n ->
   wpAny (model P w) A (load s.heap.objs.size >>= fun o=>match o.data with|.seq xs _=>pure xs.toList|_=>unsupported "internal:collect") C E { s with heap:=hp,toks:=tk }:=fun hp tk got c k1 k2 k3=>by
  refine aP (wpAny_load k2 (bL (fin hp tk got (fun b o e=>k1 b o (dU (bM e)) (eY _ e)) (Ax (bM k2)) k3)))
 have go:=PySem.W.kdl_extend (A:=A) (s:={ s with heap:=s.heap.push { cls:=.type "list",data:=.seq ([]:List Value).toArray } })
  (R:=fun(x:Result)(s2:Shared)=>x=.ok (.ret (.ref s.heap.objs.size))/\wpAny (model P w) A (load s.heap.objs.size >>= fun o=>match o.data with|.seq xs _=>pure xs.toList|_=>unsupported "internal:collect") C E s2)
  S hh (S.keep _ _ ok fun b _ o e=>eY _ e) s.heap.objs.size (uH lr) (uH ld) (.ref s.heap.objs.size) 0 new (fun hp tk got c k1 k2 k3=>⟨rfl,done hp tk got c k1 k2 k3⟩) hz
 refine j8 go (fun x s2 y=>?_) fun e s2 y=>?_
 ·cases x with
  |done f=>
   obtain⟨e,y⟩:=y;cases e;exact y
  |again c=>
   refine⟨y.1,pB y.2 fun q s3 z=>?_⟩;obtain⟨e,z⟩:=z;subst e;exact z
 ·exact absurd y.1 (by intro z;cases z)
end
open PySem.W
section
variable{X:Cx}
theorem a2C{cs:List Cell}{n:Nat}{o:Array Nat}(hn:n=cs.length)(g:Good n o)(up:Ij jk (fun i=>cs.getD i (0,0)) o n):Asc (o.toList.map fun i=>cs.getD i (0,0)):=by
 unfold Asc;rw[yq];intro i j hi hj hij;rw[aR,eO,g.size] at hi hj;have hle:=up.le oM (j-i) i (by lia);have e1:i+(j-i)=j:=by lia
 rw[e1] at hle;have hno:=j6 hle;have sz:=g.size;have key:∀ k,(hk:k<n)->Ky (fun i=>cs.getD i (0,0)) o k=(o.toList.map fun i=>cs.getD i (0,0))[k]'(by rw[aR,eO,sz];exact hk):=fun k hk=>by
  unfold Ky;rw[uD,oF,ig (by lia)];rfl
 rw[<- key i hi,<- key j hj];exact hno
theorem M8{K:ao}{H:Hp}{f:Cell->V}:∀ {cs:List Cell} {ws:List (List Key×Addr×Value)},KT H (cs.map fun c=>(iC c,f c)) ws->aU K H (ws.map fun x=>V.ref x.2.1) (cs.map aB)
 |[],ws,h=>by cases h;exact .nil
 |c::cs,ws,h=>by
  cases h with
  |@cons p q ps qs hq t=>exact .cons (.tup (show H q.2.1=some (.tup [.int c.1,.int c.2]) from hq.2.1) (.cons (.int _) (.cons (.int _) .nil))) (M8 t)
theorem Hv:∀(ws:List (List Key×Addr×Value)),Vals (ws.map fun x=>V.ref x.2.1) (ws.map fun x=>Value.ref x.2.1)
 |[]=>.nil
 |x::ws=>.cons rfl (Hv ws)
def Xx(K:ao):List V->Hp->VK->Prop:=fun xs H Q=>∃(d:Addr)(cs:List Cell)(f:Cell->V),xs=[.ref d]/\H d=some (.dT (cs.map fun c=>(iC c,f c)))/\cs.length<64/\∀ l ws ds,H l=none->aU K H ws (ds.map aB)->ds.Perm cs->Asc ds->Q (.ref l) (upd H l (.lst ws))
theorem Ob(hc:X.calm=true)(hu:X.A.units+60<cLine):eE X (.builtin "sorted") (Xx X.K):=by
 intro pins s zzs H xs us Q I r h;obtain⟨d,cs,f,rfl,e,h64,q⟩:=h;obtain⟨u,rfl,ru⟩:=vals1 r;cases ru;obtain⟨z,lo,ws,rel,ob,es,ep,g1,g2,g3,g4,g5⟩:=W3 I.hok e;have g1':s.heap.get? d=some { cls:=.type "dict",dict:=none,data:=.dict es ep,slots:=#[] }:=by
  obtain⟨c1,c2,c3,c4⟩:=ob;obtain⟨a1,a2,a3⟩:=g2;dsimp only at a1 a2 a3 g3;subst a1 a2 a3 g3;exact g1
 have D:=M8 (K:=X.K) rel;have rv:=Hv ws;have nw:es.size=ws.length:=size_of_entries g4;have hl:ws.length=cs.length:=by have:=D.length;rwa[aR,aR] at this
 have hz:es.size<=sizeLine:=by rw[oX];lia
 refine Qm kind_sorted plain_sorted entry_sorted (args_sorted1 _) ?_;unfold Builtin.«sorted»;refine aP (m:=checkCount "sorted" 1 1 _) (bL (aP (M9 (a0u d lo es ep) (I.ok.hd hc) g1' hz fun hp tk got keep YC items=>?_)));have eg:got.toList=ws.map fun x=>Value.ref x.2.1:=by
  refine Fp fun j=>?_
  rw[vL,cQ];by_cases hj:j<es.size
  ·have hg:j<got.size:=by rw[items.1];exact hj
   obtain⟨_,ev⟩:=items.2 j got[j] (ig hg);rw[ig hg,ev];have hw:j<ws.length:=by lia
   have:es.toList[j]?=(ws.map (entryOfKey (tupleKind (iD X.prog X.w))))[j]? :=by rw[g4]
   rw[vL,ig hj,cQ,gj hw] at this;rw[gj hw];have e2:=iu this;rw[e2];rfl
  ·rw[JQ (by rw[items.1];lia),Fg (by lia)];rfl
 rw[eg];have lus:(ws.map fun x=>Value.ref x.2.1).length=cs.length:=by rw[aR,hl]
 have lvs:(ws.map fun x=>V.ref x.2.1).length=cs.length:=by rw[aR,hl]
 generalize hvs:(ws.map fun x=>V.ref x.2.1)=vs at D rv lvs;generalize hus:(ws.map fun x=>Value.ref x.2.1)=its at rv lus;have hz2:its.length<=sizeLine:=by rw[oX];lia
 refine aP (Km ?_ (by simpa using hz2));have at0:(hp.push (seqObj "list" its.toArray 0)).get? hp.objs.size=some (seqObj "list" its.toArray 0):=fV _ rfl;show wpAny _ _ _ _ _ { s with heap:=hp.push (seqObj "list" its.toArray 0),toks:=tk };refine aP (qt (uz slot_list_sort ⟨_,at0,rfl⟩ entry_list_sort (Cu (h0:=s.heap) oM (GF I D rv) (by show X.A.units+1+1+2<cLine;lia) (Bb I D rv) hz2 at0 (fun b o eb=>⟨eY _ (keep b o eb),dU (bM (keep b o eb))⟩) fun o g up=>⟨_,rfl,bL ⟨_,rfl,?_⟩⟩) (args_list_sort _)));obtain⟨en,he⟩:=sortedHeap_at (vs:=its) (out:=(byP its o).toArray) at0;have hn:H hp.objs.size=none:=I.hok.fresh YC;have bd:∀ i∈o.toList,i<vs.length:=fun i hi=>by rw[lvs,<- lus];exact fK.mp (g.perm.mem_iff.mp hi)
 have rv':Vals (o.toList.map fun i=>vs.getD i .non) (byP its o):=yg rv o.toList bd;have dv:aU X.K H (o.toList.map fun i=>vs.getD i .non) ((o.toList.map fun i=>cs.getD i (0,0)).map aB):=by
  have:=Jd (d0:=aB (0,0)) D o.toList bd;have e1:(o.toList.map fun i=>(cs.map aB).getD i (aB (0,0)))=((o.toList.map fun i=>cs.getD i (0,0)).map aB):=by
   rw[jY];refine wM fun i hi=>?_
   simp only[gO,cQ,Function.comp];cases cs[i]?<;>rfl
  rw[<- e1];exact this
 have pc:(o.toList.map fun i=>cs.getD i (0,0)).Perm cs:=oO (by rw[<- lus];exact g.perm);have as:Asc (o.toList.map fun i=>cs.getD i (0,0)):=a2C (by omega) g up;have lo':(o.toList.map fun i=>vs.getD i .non).length<=sizeLine:=by
  rw[aR,eO,g.size];exact hz2
 refine⟨.ref hp.objs.size,upd H hp.objs.size (.lst (o.toList.map fun i=>vs.getD i .non)),I.laid (a:=hp.objs.size) (o:=.lst (o.toList.map fun i=>vs.getD i .non)) (t':=tk) (fun b o eb=>?_) YC ⟨lo',byP its o,en,rv',he⟩,rfl,q _ _ _ hn dv pc as⟩;have eb':=keep b o eb;rw[sortedHeap_old (dU (bM eb')) (by rw[size_push'];exact Fq (bM eb'))];exact eY _ eb'
theorem a0q{K:ao}(hc:X.calm=true)(hu:X.A.units+60<cLine)(hK:X.K=K:=by rfl):eE X (.builtin "sorted") (Xx K):=by subst hK;exact Ob hc hu
end
end L2
namespace L2
open PySem PySem.Spec PyProof.Rows
section
variable{X:Cx}{pins:List (Addr×Obj)}{zzs:L2.St}{H:Hp}{s:Shared}{h':Heap}
theorem Inv.a1S{t':Nat}{e it:Addr}(I:Inv X pins zzs H s)(k:∀ b o,b≠e->b≠it->s.heap.get? b=some o->h'.get? b=some o)(he:vp X pins H e)(hi:vp X pins H it)(le:∃ o,h'.get? e=some o)(li:∃ o,h'.get? it=some o):Inv X pins zzs H { s with heap:=h',toks:=t' }:=by
 obtain⟨e0,e1,e2,e3,e4,e5⟩:=he;obtain⟨i0,i1,i2,i3,i4,i5⟩:=hi;have ne:∀ b u,H b=some u->b≠e:=fun b u q z=>by rw[z,e0] at q;cases q
 have ni:∀ b u,H b=some u->b≠it:=fun b u q z=>by rw[z,i0] at q;cases q
 have kk:∀ b o,b∉[e,it]->s.heap.get? b=some o->h'.get? b=some o:=fun b o hb q=>k b o (fun z=>hb (by simp[z])) (fun z=>hb (by simp[z])) q
 refine I.step (g':=s.gens) (d':=s.drawn) (ch:=[e,it]) (fun b hb=>?_) (fun b o _ _ hc q _=>kk b o hc q) (fun b o _ _ hc q _=>⟨o.slots,kk b o hc q⟩) (fun _ _ _ _ n=>n)
  (fun b o hc q=>⟨o,kk b o hc q⟩) (fun _ _ q=>q) (fun _ _ _ q=>q) (fun b ps q=>⟨#[],by rw[q];simp⟩) (fun m hm=>?_) (fun b u q=>?_) I.bare
 ·rcases cW.mp hb with z|z
  ·subst z;exact⟨e3,e1,e4,e5⟩
  ·rw[dB.mp z];exact⟨i3,i1,i4,i5⟩
 ·obtain⟨o,es,ep,ho,r⟩:=hm;exact⟨o,es,ep,k _ o (j5 e1) (j5 i1) ho,r⟩
 ·refine(I.hok b u q).stay (fun c v hc w=>?_) (fun _ w=>w) fun _ _ w=>w
  rcases hc with z|z
  ·rw[z] at w ⊢;exact k b v (ne b u q) (ni b u q) w
  ·exact k c v (ne c _ z) (ni c _ z) w
end
def Ite(K:ao)(a:Addr):It:=
 ⟨fun i H=>∃ xs x,SqL K H a xs/\xs[i]?=some x,fun i H v H'=>∃ t x,(∀ xs,SqL K H a xs->xs[i]?=some x)/\H t=none/\v=.ref t/\H'=upd H t (.tup [.int i,x]),fun i H=>∃ xs,SqL K H a xs/\xs.length<=i⟩
theorem Vp{P:Program}{w:World}{K:ao}{elts:List Expr}{k:Nat}{pos:Pos}(a e it:Addr)(ne:e≠it) :
  Turn P w K (.Tuple elts k pos) (Ite K a) [e,it] e (fun i h=>(∃ old,IsEnum h e it i old)/\h.IsListIter it a i) where
 mem:=by simp
 obj:=fun i h st b hb=>by
  obtain⟨⟨old,h1⟩,o,h2,c,d⟩:=st;rcases cW.mp hb with z|z
  ·subst z;exact⟨_,h1,fun v z=>by cases z⟩
  ·rw[dB.mp z];exact⟨o,h2,fun v z=>by rw[d] at z;cases z⟩
 keep:=fun i h h' st kp=>⟨let ⟨old,h1⟩:=st.1;⟨old,kp e (by simp) _ h1⟩,st.2.at fun o q=>kp it (by simp) o q⟩
 item:=by
  intro X hP hw hK hc i pins s zzs H E I hf st hg;subst hP hw hK;obtain⟨xs,x,hq,hx⟩:=hg;obtain⟨its,rv,p,hz⟩:=I.list hq;obtain⟨u,hu,ru⟩:=rv.get hx;obtain⟨⟨old,h1⟩,h2⟩:=id st;have fe:=hf e (by simp);have fi:=hf it (by simp);refine wpAny_pyNext_enum_item h1 h2 p.isList (x:=u) (by simpa using hu) ne fun h' ho hit' hT hsz hk=>?_
  refine⟨_,rfl,wpAny_letOwnedTupleGo_enum ho fun h2' he2 hs2=>?_⟩;have lte:e<s.heap.objs.size:=bM h1;have lti:it<s.heap.objs.size:=let ⟨_,q,_⟩:=h2;bM q;have I1:Inv X pins zzs H { s with heap:=h2',toks:=s.toks+1 }:=I.a1S (fun b o b1 b2 q=>(hs2.2 b b1).trans (hk b o b1 b2 q)) fe fi ⟨_,he2⟩ (let ⟨o,q,_⟩:=hit';⟨o,(hs2.2 it ne.symm).trans q⟩);have hn:H s.heap.objs.size=none:=I.hok.fresh (bK _);obtain⟨t0,t1,t2,t3,t4,t5⟩:=I.M4 (H':=H) (bK _) hn;have hT2:h2'.get? s.heap.objs.size=some { cls:=.type "tuple",data:=.seq #[.int i s.toks,u] }:=(hs2.2 _ (uH lte)).trans hT;have I2:Inv X pins zzs (upd H s.heap.objs.size (.tup [.int i,x])) { s with heap:=h2',toks:=s.toks+1 }:=I1.track hn I.sz t1 t4 t5 ⟨by show 2<=sizeLine;rw[oX];decide,[.int i s.toks,u],.cons ⟨_,rfl⟩ (.cons ru .nil),?_⟩
  ·refine⟨.ref s.heap.objs.size,_,I2,rfl,⟨_,x,fun ys hy=>by rw[I.DK hy hq];exact hx,hn,rfl,rfl⟩,⟨⟨u,by simpa using he2⟩,hit'.at fun o q=>(hs2.2 it ne.symm).trans q⟩,fun b hb=>?_⟩;rcases cW.mp hb with z|z
   ·rw[z,bD (dU lte)];exact fe.1
   ·rw[dB.mp z,bD (dU lti)];exact fi.1
  ·exact⟨_,hT2,rfl,0,rfl⟩
 done:=by
  intro X hP hw hK hc i pins s zzs H E I hf st hg;subst hP hw hK;obtain⟨xs,hq,hx⟩:=hg;obtain⟨its,rv,p,hz⟩:=I.list hq;obtain⟨⟨old,h1⟩,h2⟩:=id st;obtain⟨f0,f1,f2,f3,f4,f5⟩:=hf it (by simp);have hl:=rv.length;exact wpAny_pyNext_enum_end (I.ok.hd hc) h1 h2 p.isList (by simp;lia) fun h' eb=>⟨rfl,I.turned (t':=s.toks) (fun b o hb q=>eb b o hb q) f0 f1 f3 f4 f5⟩
 self:=fun _ _ _ _ _ st h=>let ⟨_,h1⟩:=st.1;wpAny_pyIter_enum h1 h
section
variable{X:Cx}{elts:List Expr}{k:Nat}{tpos p pos:Pos}{l:Expr}{ta:TA}
def a2e(K:ao)(ta:TA):TI:=fun zzs H R=>ta zzs H fun vs H1=>∃ a,vs=[.ref a]/\(∃ xs,SqL K H1 a xs)/\R (Ite K a) H1
theorem a1c (hg:Gl X "enumerate") (hm:X.mg "enumerate" = none) (ha:PA X [l] ta) (hs:starEach [l] X.env=[(false,eval l X.env)]:=by rfl):PI X (.Tuple elts k tpos) (.Call (.Name "enumerate" p) [l] [] pos) (a2e X.K ta):=by
 intro pins s zzs H R I h;refine Call_ (wg I hg hm Ir (JH (thn (ha pos pins s zzs H _ I h) fun us s1 zzy=>?_) hs rfl));obtain⟨vs,H1,I1,r1,q1⟩:=zzy;obtain⟨a,e,⟨xs,hq⟩,q⟩:=q1;subst e;cases r1 with
 |cons r rr=>
   cases rr;cases r;obtain⟨its,rv,pl,hz⟩:=I1.list hq;refine call_enumerate_list pl.isList fun h' he hit hsz keep=>wpAny_pyIter_enum he ?_
   have ne:s1.heap.objs.size+1≠s1.heap.objs.size:=Nat.succ_ne_self _;refine⟨s1.heap.objs.size+1,[s1.heap.objs.size+1,s1.heap.objs.size],_,_,H1,rfl,I1.kept (t':=s1.toks) keep,Vp a _ _ ne,⟨⟨_,he⟩,hit⟩,fun b hb=>?_,q⟩;rcases cW.mp hb with z|z
   ·rw[z];exact I1.M4 (oE _) (I1.hok.fresh (oE _))
   ·rw[dB.mp z];exact I1.M4 (bK _) (I1.hok.fresh (bK _))
theorem Ma{K:ao} (hg:Gl X "enumerate") (hm:X.mg "enumerate" = none) (ha:RA X [l] ta) (hK:X.K=K:=by rfl) (hs:notStar l=true:=by rfl):RI X (.Tuple elts k tpos) (.Call (.Name "enumerate" p) [l] [] pos) (a2e K ta):=by
 subst hK;exact⟨a1c hg hm ha.ok (lR hs)⟩
end
theorem LR{K:ao}{a:Addr}{xs:List V}{g:TG}{tb:TS}{D:Ends}{zzs:L2.St}{H:Hp}(R:Nat->L2.St->Hp->Prop)(h0:R 0 zzs H)(hq:∀ i zzs H,i<=xs.length->R i zzs H->SqL K H a xs)
  (hs:∀ i x zzs H t,xs[i]?=some x->R i zzs H->H t=none->g (.ref t) zzs (upd H t (.tup [.int i,x])) fun wY H2=>tb { D with nx:=R (i+1),ct:=R (i+1),bk:=D.nx } wY H2)
  (hd:∀ zzs H,R xs.length zzs H->D.nx zzs H) :
  ∃ W:Nat->Nat->L2.St->Hp->Prop,(∃ m,W 0 m zzs H)/\∀ i m zzs H,W i m zzs H->((Ite K a).stop i H/\D.nx zzs H)\/((Ite K a).go i H/\∃ N:L2.St->Hp->Prop,(∀ bT H',N bT H'->∃ m',m'<m/\W (i+1) m' bT H')/\∀ x H',(Ite K a).yld i H x H'->g x zzs H' fun wY H2=>tb { D with nx:=N,ct:=N,bk:=D.nx } wY H2):=by
 refine⟨fun i m zzs H=>m=xs.length-i/\i<=xs.length/\R i zzs H,⟨xs.length,by lia,j7 _,h0⟩,?_⟩;rintro i m zzs H ⟨rfl,hi,r⟩;by_cases hlt:i<xs.length
 ·refine .inr ⟨⟨xs,xs[i],hq i zzs H hi r,by simp[hlt]⟩,R (i+1),fun bT H' r'=>⟨xs.length-(i+1),by omega,rfl,hlt,r'⟩,?_⟩;rintro v H' ⟨t,x,hx,nt,rfl,rfl⟩;exact hs i x zzs H t (hx xs (hq i zzs H hi r)) r nt
 ·have e:i=xs.length:=by lia
  subst e;exact .inl ⟨⟨xs,hq _ zzs H (bK _) r,bK _⟩,hd zzs H r⟩
def Ris(xs:Array Nat):Prop:=xs.toList.Pairwise (· < ·)
theorem Ris.lt{xs:Array Nat}(r:Ris xs){i j:Nat}(hij:i<j)(hj:j<xs.size):xs[i]'(by lia)<xs[j]:=by
 have:=yq.mp r i j (by rw[eO];lia) (by rw[eO];omega) hij;simpa using this
theorem Ris.le{xs:Array Nat}(r:Ris xs){i j:Nat}(hij:i<=j)(hj:j<xs.size):xs[i]'(by lia)<=xs[j]:=by
 rcases ZL hij with h|h
 ·exact Ax (r.lt h hj)
 ·subst h;exact bK _
structure Cut(xs:Array Nat)(j b:Nat):Prop where
 le:b<=xs.size
 lo:∀ k,(hk:k<xs.size)->k<b->xs[k]<j
 hi:∀ k,(hk:k<xs.size)->b<=k->j<=xs[k]
theorem Cy{xs:Array Nat}(r:Ris xs)(j:Nat):∀(fuel lo hi:Nat),hi<=xs.size->lo<=hi->hi-lo<=fuel->(∀ k,(hk:k<xs.size)->k<lo->xs[k]<j)->(∀ k,(hk:k<xs.size)->hi<=k->j<=xs[k])->Cut xs j (SetTable.below.go xs j fuel lo hi)
 |0,lo,hi,h1,h2,h3,a,b=>by
  have e:lo=hi:=by lia
  subst e;exact⟨h1,a,b⟩
 |fuel+1,lo,hi,h1,h2,h3,a,b=>by
  unfold SetTable.below.go;by_cases h:lo<hi
  ·rw[aK h];have hm:(lo+hi) / 2<xs.size:=by lia
   have eg:xs.getD ((lo+hi) / 2) j=xs[(lo+hi) / 2]:=by simp[Array.getD,hm]
   dsimp only;rw[eg];by_cases hv:xs[(lo+hi) / 2]<j
   ·rw[aK hv];exact Cy r j fuel _ hi h1 (by lia) (by lia) (fun k hk hl=>K4 (r.le (by lia) hm) hv) b
   ·rw[aH hv];exact Cy r j fuel lo _ (by lia) (by lia) (by lia) a (fun k hk hl=>cX (FW.mp hv) (r.le hl hk))
  ·rw[aH h];have e:lo=hi:=by lia
   subst e;exact⟨h1,a,b⟩
theorem yX{xs:Array Nat}(r:Ris xs)(j:Nat):Cut xs j (SetTable.below xs j):=
 Cy r j _ _ _ (bK _) (j7 _) (by lia) (fun _ _ h=>absurd h (Kf _)) (fun k hk h=>absurd hk (FW.mpr h))
theorem Cut.uniq{xs:Array Nat}{j b c:Nat}(x:Cut xs j b)(y:Cut xs j c):b=c:=by
 rcases Nat.lt_trichotomy b c with h|h|h
 ·have hb:b<xs.size:=jj h y.le;have:=x.hi b hb (bK _);have:=y.lo b hb h;lia
 ·exact h
 ·have hc:c<xs.size:=jj h x.le;have:=y.hi c hc (bK _);have:=x.lo c hc h;lia
structure Tab(b:Bool)(t:SetTable):Prop where
 led:t.led=b
 ris:Ris t.place
 dum:t.dummies=#[]
theorem Vf(n:Nat):Ris (Array.range n):=by
 unfold Ris;rw[Array.toList_range];exact Zo
theorem Tab.fresh(f m:Nat)(b:Bool):Tab b (SetTable.fresh f m b):=⟨rfl,List.Pairwise.nil,rfl⟩
theorem Tab.standIn{b:Bool}{t:SetTable}(x:Tab b t)(n:Nat):Tab b (t.standIn n):=⟨x.led,Vf n,rfl⟩
theorem Tab.orStandIn{b:Bool}{t:SetTable}(x:Tab b t)(n:Nat):Tab b (t.orStandIn n):=by
 unfold SetTable.orStandIn;split
 ·exact x
 ·exact x.standIn n
theorem has_none(j:Nat):SetTable.has #[] j=false:=by
 unfold SetTable.has;simp
theorem PB{xs:Array Nat}(r:Ris xs){j:Nat}(h:xs[SetTable.below xs j]?≠some j):Ris (SetTable.insertAt xs (SetTable.below xs j) j):=by
 have c:=yX r j;generalize SetTable.below xs j=b at c h;unfold Ris;rw[SetTable.toList_insertAt];have e:xs.toList=xs.toList.take b++xs.toList.drop b:=(Bu b xs.toList).symm;have r':=r;unfold Ris at r';rw[e] at r';obtain⟨p1,p2,p3⟩:=vM.mp r';have lo:∀ a∈xs.toList.take b,a<j:=fun a ha=>by
  obtain⟨k,hk,e⟩:=JX ha;rw[jr,eO] at hk;rw[List.getElem_take] at e;have:=c.lo k (by lia) (by lia);rw[<- e];simpa using this
 have hi:∀ a∈xs.toList.drop b,j<a:=fun a ha=>by
  obtain⟨k,hk,e⟩:=JX ha;rw[ux,eO] at hk;rw[List.getElem_drop] at e;have hk':b+k<xs.size:=by lia
  have h1:=c.hi (b+k) hk' (by lia);have e':xs[b+k]=a:=by simpa using e
  rw[e'] at h1;rcases ZL h1 with z|z
  ·exact z
  ·exfalso;by_cases hz:k=0
   ·subst hz;refine h ?_;rw[ig (by omega)];congr 1;simpa [z] using e'
   ·have hb:b<xs.size:=by lia
    have:=r.lt (i:=b) (j:=b+k) (by lia) hk';have:=c.hi b hb (bK _);lia
 refine vM.mpr ⟨p1,uL.mpr ⟨hi,p2⟩,fun a ha c' hc=>?_⟩;rcases cW.mp hc with z|z
 ·rw[z];exact lo a ha
 ·exact p3 a ha c' z
theorem HJ{t:SetTable}(hd:t.dummies=#[])(j:Nat):t.slot j≠.dummy/\(t.slot j=.empty->t.place[SetTable.below t.place j]?≠some j):=by
 unfold SetTable.slot;dsimp only;rw[hd,has_none];by_cases h:(t.place[SetTable.below t.place j]?==some j)=true
 ·rw[aK h];exact⟨(by intro z;cases z),(by intro z;cases z)⟩
 ·rw[aH h];refine⟨by simp,fun _ z=>h (by rw[z];simp)⟩
theorem Bm{t:SetTable}(hd:t.dummies=#[])(f:Nat->Int)(h:Int):∀(fuel:Nat)(p:SetTable.Probe)(j:Nat)(d:Option Nat),p.dummy=none->SetTable.probe.go t f h fuel p=some (.empty j d)->d=none/\t.slot j=.empty
 |0,p,j,d,_,e=>by cases e
 |fuel+1,p,j,d,hp,e=>by
  unfold SetTable.probe.go at e;have adv:(t.advance p).dummy=none:=by
   unfold SetTable.advance;split
   ·exact hp
   ·exact hp
  split at e
  ·rename_i q;have e:=iu e;injection e with e1 e2;subst e1 e2;exact⟨hp,q⟩
  ·rename_i q;exact absurd q (HJ hd _).1
  ·split at e
   ·cases e
   ·exact Bm hd f h fuel _ j d adv e
theorem Tab.layNew{b:Bool}{t:SetTable}(x:Tab b t)(es:Array (Int×Value))(h:Int)(v:Value):Tab b (layNew t es h v).2.1:=by
 unfold PySem.layNew;split
 ·rename_i slot was e;refine Tab.orStandIn ?_ _;unfold SetTable.freeSlot at e;split at e
  ·rename_i j d q;obtain⟨e1,e2⟩:=Prod.mk.inj (iu e);unfold SetTable.probe at q;obtain⟨rfl,hs⟩:=Bm x.dum _ _ _ _ _ _ rfl q;have e1:j=slot:=e1;subst e1;unfold SetTable.put;dsimp only;refine⟨x.led,PB x.ris ((HJ x.dum j).2 hs),?_⟩;show(if SetTable.has t.dummies j=true then _ else t.dummies)=#[];rw[x.dum,has_none];rfl
  ·cases e
 ·exact x.standIn _
theorem XJ{n:Nat}{g:Nat->Option Nat}:Ris ((((List.range n).filterMap fun j=>(g j).map (j,·)).map (·.1)).toArray):=by
 unfold Ris;simp only[QM,List.pairwise_filterMap];refine Zo.imp fun hab a ha b hb=>?_
 obtain⟨_,_,rfl⟩:=gn.mp ha;obtain⟨_,_,rfl⟩:=gn.mp hb;exact hab
theorem Tab.relayAll{b:Bool}{t:SetTable}(x:Tab b t)(es:Array (Int×Value))(n:Nat):Tab b (relayAll t es n).2.1:=by
 unfold PySem.relayAll;split
 ·rename_i t' o e;dsimp only;split
  ·unfold SetTable.relaid SetTable.laid at e;cases hl:SetTable.layClean (SetTable.sizeAbove n-1) (es.map (·.1)) with
   |none=>rw[hl] at e;cases e
   |some ow=>
    rw[hl] at e;obtain⟨e1,_⟩:=Prod.mk.inj (iu e);rw[<- e1];exact⟨x.led,XJ,rfl⟩
  ·exact x.standIn _
 ·exact x.standIn _
abbrev fH(es:Array (Int×Value))(ep:Nat)(t:SetTable):Obj:={ cls:=.type "set",dict:=none,data:=.set es ep t,slots:=#[] }
def wu:Int×Value->Int
 |(_,.int n _)=>n
 |_=>0
def a2A(e:Int×Value):Prop:=∃ d t,e=(hashInt d,.int d t)
structure yL(b:Bool)(es:Array (Int×Value))(t:SetTable)(ds:List Int):Prop where
 tab:Tab b t
 fit:t.fits es.size=true
 els:∀ e∈es.toList,a2A e
 ids:es.toList.map wu=ds
 nd:ds.Nodup
 sm:ds.length<4000
def qz(b:Bool)(h:Heap)(a:Addr)(ds:List Int):Prop:=∃ es ep t,h.get? a=some (fH es ep t)/\yL b es t ds
section
variable{P:Program}{w:World}{A:Around}{E:Value->Shared->Prop}{s:Shared}{b:Bool}{a:Addr}{ds:List Int}
theorem yL.len{es:Array (Int×Value)}{t:SetTable}(x:yL b es t ds):es.size=ds.length:=by
 rw[<- x.ids,aR,eO]
theorem yL.elems{es:Array (Int×Value)}{t:SetTable}(x:yL b es t ds):ElemsOf (intKind P w) es.toList:=fun e he=>by
 obtain⟨d,t,rfl⟩:=x.els e he;exact⟨⟨d,by simp[intKind,Value.isInt],rfl⟩,rfl⟩
theorem yL.mem{es:Array (Int×Value)}{t:SetTable}(x:yL b es t ds)(d:Int):d∈ds↔∃ e∈es.toList,(intKind P w).is d e.2=true:=by
 rw[<- x.ids];constructor
 ·intro h;obtain⟨e,he,q⟩:=cu.mp h;obtain⟨d',t,rfl⟩:=x.els e he;have q:d'=d:=q;exact⟨_,he,by subst q;simp[intKind,Value.isInt]⟩
 ·rintro⟨e,he,q⟩;obtain⟨d',t,rfl⟩:=x.els e he;refine cu.mpr ⟨_,he,?_⟩;have q:Value.isInt d (.int d' t)=true:=q;obtain⟨t',e'⟩:=Value.isInt_shape q;injection e'
theorem qz.kept{h h':Heap}(S:qz b h a ds)(k:∀ o,h.get? a=some o->h'.get? a=some o):qz b h' a ds:=let ⟨es,ep,t,e,x⟩:=S;⟨es,ep,t,k _ e,x⟩
theorem qz.put{es es':Array (Int×Value)}{ep:Nat}{t t':SetTable}{h:Heap}{ds':List Int}(e:h.get? a=some (fH es ep t))(x:yL b es' t' ds'):(h.update a (Obj.putSet es' t')).get? a=some (fH es' (ep+1) t')/\qz b (h.update a (Obj.putSet es' t')) a ds':=by
 have g:(h.update a (Obj.putSet es' t')).get? a=some (fH es' (ep+1) t'):=Bt (Obj.putSet es' t') e rfl;exact⟨g,es',ep+1,t',g,x⟩
theorem DQ{d:Int}(nd:ds.Nodup)(n:d∉ds):(ds++[d]).Nodup:=yt.mpr ⟨nd,by simp,fun a ha c hc e=>n (by rw[<- dB.mp hc,<- e];exact ha)⟩
theorem ZX{d:Int}{tk:Tok}{Q:Bool->Shared->Prop}(S:qz b s.heap a ds)(hl:ds.length+1<4000)
  (hQ:∀ h' ds' r,Heap.SameBut a s.heap h'->qz b h' a ds'->(∀ n,n∈ds'↔(n∈ds\/n=d))->ds'.length<=ds.length+1->Q r { s with heap:=h' }) :
  wpAny (model P w) A (setAddHashed a (.int d tk) (hashInt d)) Q E s:=by
 obtain⟨es,ep,t,e,x⟩:=id S;have el:=x.elems (P:=P) (w:=w);have sz:=x.len;have big:∀ n:Nat,n<4000->n<scanBound:=fun n h=>Nat.lt_trans h (by decide)
 have line:∀ n:Nat,n<4000->n<=sizeLine:=fun n h=>fits_of_scanBound (big n h)
 have isd:(intKind P w).is d (.int d tk)=true:=by simp[intKind,Value.isInt]
 unfold setAddHashed setAddHashedIn;refine qt (aP (Ft (o:=fH es ep t) e rfl x.fit ?_));dsimp only;rw[byScan_of (knd:=intKind P w) rfl (big _ (by lia)) el,aK rfl];unfold setAddByScan;refine aP (aP (jT (aP (wpAny_setScan_of (knd:=intKind P w) (k:=d) isd e rfl x.fit el ?_))));have gw:∀(c:Bool){s1:Shared}{Q':Unit->Shared->Prop},Q' () s1->wpAny (model P w) A (match c with|true=>rule "set.scan.the-table-gave-way" | false=>pure ()) Q' E s1:=fun c s1 Q' q=>by
  cases c
  ·exact bL q
  ·exact jT q
 cases hr:List.findIdx? (fun e=>(intKind P w).is d e.2) es.toList with
 |some j=>
  obtain⟨hj,pj,_⟩:=List.findIdx?_eq_some_iff_getElem.mp hr;have hd:d∈ds:=(x.mem (P:=P) (w:=w) d).mpr ⟨_,oG hj,pj⟩;dsimp only;refine bL (bL ?_);have:=hQ s.heap ds false (Heap.SameBut.refl a s.heap) S (fun n=>⟨.inl,fun z=>z.elim id (fun z=>by rw[z];exact hd)⟩) (oE _);exact this
 |none=>
  have hd:d∉ds:=fun z=>by
   obtain⟨e',he,q⟩:=(x.mem (P:=P) (w:=w) d).mp z;have:=List.findIdx?_eq_none_iff.mp hr e' he;rw[q] at this;cases this
  dsimp only;have pm:=layNew_perm t es (hashInt d) (.int d tk);have ft:=layNew_fits t es (hashInt d) (.int d tk);have tb:=x.tab.layNew es (hashInt d) (.int d tk);generalize layNew t es (hashInt d) (.int d tk)=L at pm ft tb ⊢;obtain⟨es1,t1,was,gave⟩:=L;dsimp only at pm ft tb ⊢;rw[Af] at pm;have pd:(es1.toList.map wu).Perm (ds++[d]):=by
   have:=pm.map wu;rw[dM,x.ids] at this;exact this
  have x1:yL b es1 t1 (es1.toList.map wu):=by
   refine⟨tb,ft,fun e' he=>?_,rfl,pd.nodup_iff.mpr (DQ x.nd hd),?_⟩
   ·rcases cR.mp (pm.mem_iff.mp he) with z|z
    ·exact x.els e' z
    ·exact⟨d,tk,dB.mp z⟩
   ·rw[pd.length_eq,c7,jm];exact hl
  have l1:es1.size=ds.length+1:=by rw[x1.len,pd.length_eq,c7,jm]
  have fin:∀ h' (ds':List Int),Heap.SameBut a s.heap h'->qz b h' a ds'->ds'.Perm (ds++[d])->Q true { s with heap:=h' }:=fun h' ds' sb S' p=>
   hQ h' ds' true sb S' (fun n=>by rw[p.mem_iff,cR,dB]) (by rw[p.length_eq,c7,jm];exact bK _)
  have tail:∀ t2:SetTable,yL b es1 t2 (es1.toList.map wu)->∀ {k:Bool->Sem Unit},(∀(c:Bool){s1:Shared}{Q':Unit->Shared->Prop},Q' () s1->wpAny (model P w) A (k c) Q' E s1)->wpAny (model P w) A (do
    storeSet a es1 t2
    if(!was&&t2.tooFull)=true then
     k (relayAll t2 es1 (SetTable.grown es1.size)).2.2
     storeSet a (relayAll t2 es1 (SetTable.grown es1.size)).1 (relayAll t2 es1 (SetTable.grown es1.size)).2.1
     pure (some true)
    else pure (some true)) (fun r s2=>∃ h' ds',r=some true/\s2={ s with heap:=h' }/\Heap.SameBut a s.heap h'/\qz b h' a ds'/\ds'.Perm (ds++[d])) E s:=fun t2 x2 k hk=>by
   refine aP (wpAny_storeSet_of (o:=fH es ep t) e rfl ?_ (line _ (by lia)));obtain⟨e1,S1⟩:=qz.put e x2;have sb1:=Heap.SameBut.update s.heap a (Obj.putSet es1 t2);split
   ·have pr:=relayAll_perm t2 es1 (SetTable.grown es1.size);have fr:=relayAll_fits t2 es1 (SetTable.grown es1.size);have tr:=x2.tab.relayAll es1 (SetTable.grown es1.size);generalize relayAll t2 es1 (SetTable.grown es1.size)=G at pr fr tr ⊢;obtain⟨es2,t3,g2⟩:=G;dsimp only at pr fr tr ⊢;have p2:(es2.toList.map wu).Perm (ds++[d]):=(pr.map wu).trans pd;have x3:yL b es2 t3 (es2.toList.map wu):=⟨tr,fr,fun e' he=>x1.els e' (pr.mem_iff.mp he),rfl,p2.nodup_iff.mpr (DQ x.nd hd),by rw[p2.length_eq,c7,jm];exact hl⟩
    have l2:es2.size<4000:=by rw[x3.len];exact x3.sm
    refine aP (hk _ (aP (wpAny_storeSet_of (o:=fH es1 (ep+1) t2) e1 rfl (bL ?_) (line _ l2))));exact⟨_,_,rfl,rfl,sb1.trans (Heap.SameBut.update _ a _),(qz.put e1 x3).2,p2⟩
   ·exact bL ⟨_,_,rfl,rfl,sb1,S1,pd⟩
  refine aP (gw _ ?_);have last:∀(r:Option Bool)(s2:Shared),(∃ h' ds',r=some true/\s2={ s with heap:=h' }/\Heap.SameBut a s.heap h'/\qz b h' a ds'/\ds'.Perm (ds++[d]))->wpAny (model P w) A (match r with|some added=>pure added|none=>setAddHashedIn a (.int d tk) (hashInt d) 99999) Q E s2:=by
   rintro r s2 ⟨h',ds',rfl,rfl,sb,S',p⟩;exact bL (fin h' ds' sb S' p)
  split
  ·refine aP ?_;rw[hashByValue_scannable 8 rfl];refine bL ?_;simp only[plainKind,↓reduceIte];exact j8 (tail t1 x1 (fun c s1 Q' q=>by cases c<;>first|exact bL q|exact jT q)) last fun _ _ z=>z
  ·refine aP (bL ?_);simp only[↓reduceIte];exact j8 (tail t1 x1 (fun c s1 Q' q=>by cases c<;>first|exact bL q|exact jT q)) last fun _ _ z=>z
end
section
variable{P:Program}{w:World}{A:Around}{E:Value->Shared->Prop}{s:Shared}
abbrev jM(b:Bool):Obj:=fH #[] 0 (.fresh 0 0 b)
theorem Yb(h:Heap)(b:Bool):qz b (h.push (jM b)) h.objs.size []:=
 ⟨#[],0,_,fV _ rfl,Tab.fresh _ _ _,rfl,(fun e he=>by cases he),rfl,Av,by decide⟩
theorem a1N(x:Value){Q:Value->Shared->Prop} (h:Q (.ref s.heap.objs.size) { s with heap:=s.heap.push (jM (!w.params.followText "set-order")) }) :
  codeAny (model P w) A (.call (.builtin "set.__new__") ⟨[.type "set",x],[]⟩) (wants Q E) s:=by
 refine codeAny_of_tree (show wpAny _ A.in1 (do checkBuiltinCall "set.__new__" ⟨[.type "set",x],[]⟩;again (.builtin "set.__new__" ⟨[.type "set",x],[]⟩)) _ _ s from ?_);refine aP (wpAny_of_eq (PySem.F.newCall_set_1 x) (bL ⟨rY Zq _,rW PySem.F.entry_set_new ?_⟩));rw[uJ Zq _];unfold Builtin.«set.__new__» Builtin.Frozenset.newClass;have sub:=sub_set_self;obtain⟨hp,g,d,tk,os⟩:=s;dsimp only
 wp_walk
 refine Ag (bL ?_);dsimp only;simp only[newObj];exact aP (wpAny_alloc (bL (bL h)))
theorem Wu{R:Result->Shared->Prop}{b:Bool}{I:Addr}{fp wr:List Addr}{n:Nat}{V:Nat->Value->Prop}{St:Nat->Heap->Prop}(W:Walks P w A.in1 I fp wr n V St)(S:Addr)(hS:S∉fp)(val:Nat->Int)(hv:∀ i v,V i v->∃ t,v=.int (val i) t)(hn:n<3000) :
  ∀(k i:Nat)(s:Shared)(ds:List Int),n-i=k->i<=n->St i s.heap->qz b s.heap S ds->ds.length<=i->(∀ m,m∈ds↔∃ j,j<i/\val j=m) ->
   (∀ h' tk ds',qz b h' S ds'->ds'.length<=n->(∀ m,m∈ds'↔∃ j,j<n/\val j=m)->(∀ c o,c∉wr->c≠S->s.heap.get? c=some o->h'.get? c=some o)->R (.ok (.ret .none)) { s with heap:=h',toks:=tk }) ->
   codeAny (model P w) A (.builtin "set.update.loop" ⟨[.ref S,.ref I],[]⟩) R s:=by
 have nw:S∉wr:=fun z=>hS (W.sub _ z)
 intro k
 induction k with
 |zero=>
  intro i s ds hk hi st sa hl hm hR;have e:i=n:=by lia
  subst e;refine rW Z1 ?_;rw[uJ Ql _];refine(show wpAny _ A.in1 (pyNext (.ref I) >>= _) _ _ s from aP (W.done s _ _ st fun h' tk keep=>?_));exact bL (hR h' tk ds (sa.kept fun o q=>keep S o nw q) hl hm fun c o hc _ q=>keep c o hc q)
 |succ k ih=>
  intro i s ds hk hi st sa hl hm hR;have lt:i<n:=by lia
  refine rW Z1 ?_;rw[uJ Ql _];refine(show wpAny _ A.in1 (pyNext (.ref I) >>= _) _ _ s from aP (W.item i s _ _ lt st fun v h' tk hP st' keep=>?_));obtain⟨t,rfl⟩:=hv i v hP;have sa':qz b h' S ds:=sa.kept fun o q=>keep S o nw q
  refine(show wpAny _ A.in1 (holding [Value.int (val i) t] (setAdd S (.int (val i) t)) >>= _) _ _ _ from aP (qt ?_));unfold setAdd;refine qt (aP ((intKind P w).pyHash (k:=val i) (by simp[intKind,Value.isInt]) ?_));refine ZX (s:={ s with heap:=h',toks:=tk+1 }) sa' (by lia) fun h2 ds2 r sb s2 m2 l2=>?_
  refine bL ⟨rY Ql _,ih (i+1) _ ds2 (by lia) lt (W.frame _ _ _ st' fun c hc o q=>?_) s2 (by lia) (fun m=>?_) fun h3 tk3 ds3 s3 l3 m3 k3=>?_⟩
  ·rw[sb.2 c (fun z:c=S=>hS (by rw[<- z];exact hc))];exact q
  ·rw[m2 m,hm m];constructor
   ·rintro(⟨j,hj,q⟩|q)
    ·exact⟨j,by lia,q⟩
    ·exact⟨i,by lia,q.symm⟩
   ·rintro⟨j,hj,q⟩;by_cases z:j=i
    ·subst z;exact .inr q.symm
    ·exact .inl ⟨j,by lia,q⟩
  ·refine hR h3 tk3 ds3 s3 l3 m3 fun c o hc hn q=>k3 c o hc hn ?_
   rw[sb.2 c hn];exact keep c o hc q
set_option maxHeartbeats 3200000 in
theorem Tv{l:Addr}{items:Array Value}{ns:List Int}{Q:Value->Shared->Prop}(hh:A.handled=none)(hl:s.heap.IsList l items)(hi:IntsAre items.toList ns)(hb:items.size<3000)
  (h:∀ h' tk ds,qz (!w.params.followText "set-order") h' s.heap.objs.size ds->(∀ m,m∈ds↔m∈ns)->ds.length<=ns.length->(∀ c o,s.heap.get? c=some o->h'.get? c=some o)->Q (.ref s.heap.objs.size) { s with heap:=h',toks:=tk }) :
  wpAny (model P w) A (call (.type "set") [.ref l]) Q E s:=by
 generalize hbb:(!w.params.followText "set-order")=b at h;have tc:=PySem.F.called_set;obtain⟨c,tl,hmro⟩:=tc.mro;have hmade:=tc.made;have hsub:=tc.sub;have h1:=tc.notType;have h2:=tc.canCreate;have hct:=PySem.F.typeCall_set_1 (.ref l);refine Kv (codeAny_of_tree (show wpAny _ _ (callAny (.type "set") _) _ _ _ from bL ⟨Code.quiet_builtin _ (by decide +kernel),rW PySem.F.entry_type_call ?_⟩));rw[Around.under_plain (weight_type_call_type "set" [.ref l] []) rfl]
 repeat (any_goals (first|assumption|wp_step))
 refine pB (a1N (.ref l) (E:=E) (Q:=fun obj s1=>obj=.ref s.heap.objs.size/\s1={ s with heap:=s.heap.push (jM b) }) (by subst hbb;exact⟨rfl,rfl⟩)) fun r s1 hr=>?_
 cases r with
 |error e=>exact hr
 |ok fl=>
  cases fl with
  |ret obj=>
   obtain⟨rfl,rfl⟩:=hr;have at0:(s.heap.push (jM b)).get? s.heap.objs.size=some (jM b):=fV _ rfl;have ty:Shared.TypeIs { s with heap:=s.heap.push (jM b) } (.ref s.heap.objs.size) "set":=⟨_,at0,rfl⟩
   have hli:=tc.init.lookup;have hbi:=tc.init.bind (.ref s.heap.objs.size)
   repeat (any_goals (first|assumption|wp_step))
   refine pB (codeAny_call_builtin (R:=wants (fun r s2=>r=.none/\∃ h' tk ds,s2={ s with heap:=h',toks:=tk }/\qz b h' s.heap.objs.size ds/\(∀ m,m∈ds↔m∈ns)/\ds.length<=ns.length/\∀ c o,s.heap.get? c=some o->h'.get? c=some o) E) tc.init.plain PySem.F.entry_set_init (check_set_init_1 ty ?_)) fun r2 s2 hr2=>?_
   ·obtain⟨ol,hol,hcl,nl,hdl⟩:=hl;obtain⟨c1,c2,c3,c4⟩:=ol;simp only at hcl hdl;subst hcl hdl;have hlS:l<s.heap.objs.size:=bM hol;have hol':(s.heap.push (jM b)).get? l=some { cls:=.type "list",dict:=c2,data:=.seq items nl,slots:=c4 }:=eY _ hol;have l1:(s.heap.push (jM b)).IsList l items:=⟨_,hol',rfl,nl,rfl⟩
    have g1:=PySem.F.sub_list_set;have g2:=PySem.F.sub_list_frozenset;have g3:(Value.type "list" == Value.type "dict")=false:=by decide
    unfold Builtin.«set.__init__» noKeywords Builtin.Frozenset.updateFrom;generalize hPI:pyIter=PI
    wp_walk
    subst hPI;refine QH l1 (aP (R7 ?_));have zp:(s.heap.push (jM b)).objs.size=s.heap.objs.size+1:=Ar _ _;have ne:l≠(s.heap.push (jM b)).objs.size:=by rw[zp];exact dU (Fq hlS)
    have nS:s.heap.objs.size∉[(s.heap.push (jM b)).objs.size,l]:=by
     rw[zp];simp only[cW,List.not_mem_nil,or_false,not_or];exact⟨dU (K8 _),uH hlS⟩
    have val:∀(i:Nat)(v:Value),items[i]?=some v->∃ t,v=.int (ns.getD i 0) t:=fun i v q=>IntsAre.int_at hi i v (by rw[vL];exact q)
    have ln:items.size=ns.length:=by rw[<- eO];exact Kh hi
    refine Wu (b:=b) (Walks.list (show A.in1.in1.in1.handled=none by simp[hh]) _ l ne items) s.heap.objs.size nS (fun i=>ns.getD i 0) val hb (items.size-0) 0 _ [] (by lia) (j7 _) ⟨⟨_,fV _ rfl,rfl,rfl⟩,l1.push _⟩
     ((Yb s.heap b).kept fun o q=>eY _ q) (bK _) (fun m=>⟨(fun z=>by cases z),fun⟨j,hj,_⟩=>absurd hj (Kf _)⟩) fun h' tk ds' sa ld md keep=>?_
    refine bL (bL ⟨rfl,h',tk,ds',rfl,sa,fun m=>?_,by lia,fun c o q=>?_⟩)
    ·rw[md m,ln];constructor
     ·rintro⟨j,hj,e⟩;rw[<- e,gO,gj hj];exact oG hj
     ·intro hm;obtain⟨j,hj,e⟩:=JX hm;exact⟨j,hj,by rw[gO,gj hj];exact e⟩
    ·have lc:=bM q;exact keep c o (by rw[zp];simp only[dB];exact dU (Fq lc)) (dU lc) (eY _ (eY _ q))
   ·cases r2 with
    |error e=>exact hr2
    |ok fl2=>
     cases fl2 with
     |ret r=>
      obtain⟨rfl,h',tk,ds,rfl,sa,md,ld,keep⟩:=hr2
      repeat (any_goals (first|assumption|wp_step))
      exact h _ _ _ sa md ld keep
     |_=>exact hr2.elim
  |_=>exact hr.elim
end
end L2
namespace L2
open PySem PySem.Spec PyProof.Rows PySem.SeqAt PySem.MeetsSeq PySem.MeetsSeq2 PySem.MeetsSeq3
open PySem.AutoSeq1 (wpAny_loadPart')
namespace SF
theorem HD:Manifest.owners.lookup (String.ofList ['r','o','t','a','r','e','t','i','_','t','e','s'].reverse)=some Manifest.sig_set_iterator:=by kernel_rfl
theorem gK:Slot "set_iterator" "__next__" "set_iterator.__next__":=.of (owner:="set_iterator") (n:="__next__") (by rw[typeLookup_type,builtinLookup_eq_fast];kernel_rfl) (by decide +kernel) (by decide +kernel) (by decide +kernel) (by first|exact .inl (by decide +kernel)|exact .inr (by decide +kernel)) (by rw[R8];kernel_rfl)
theorem vJ:Slot "set_iterator" "__iter__" "set_iterator.__iter__":=.of (owner:="set_iterator") (n:="__iter__") (by rw[typeLookup_type,builtinLookup_eq_fast];kernel_rfl) (by decide +kernel) (by decide +kernel) (by decide +kernel) (by first|exact .inl (by decide +kernel)|exact .inr (by decide +kernel)) (by rw[R8];kernel_rfl)
theorem tE:entryFor table "set_iterator.__next__" = some Builtin.«set_iterator.__next__»:=entryFor_of_tree (by kernel_rfl)
theorem vD(a:Value):argsOk "set_iterator.__next__" ⟨[a],[]⟩:=by
 unfold argsOk;rw[signature?_of (id:="set_iterator.__next__") (n:=['_','_','t','x','e','n','_','_']) (o:=['r','o','t','a','r','e','t','i','_','t','e','s']) (by kernel_rfl) HD];kernel_rfl
theorem Di:entryFor table "set.__iter__" = some Builtin.«frozenset.__iter__»:=entryFor_alias (id':="frozenset.__iter__") (by kernel_rfl) rfl (by decide +kernel) (by kernel_rfl)
theorem Dj:entryFor table "set_iterator.__iter__" = some Builtin.«dict_keyiterator.__iter__»:=entryFor_alias (id':="dict_keyiterator.__iter__") (by kernel_rfl) rfl (by decide +kernel) (by kernel_rfl)
theorem Gg(a:Value):argsOk "set_iterator.__iter__" ⟨[a],[]⟩:=by
 unfold argsOk;rw[signature?_of (id:="set_iterator.__iter__") (n:=['_','_','r','e','t','i','_','_']) (o:=['r','o','t','a','r','e','t','i','_','t','e','s']) (by kernel_rfl) HD];kernel_rfl
end SF
section
variable{P:Program}{w:World}{A:Around}{E:Value->Shared->Prop}{s:Shared}
abbrev oh(first:Value)(i:Nat)(a:Addr)(n ep:Nat)(z:Array (Option Value)):Obj:={ cls:=.type "set_iterator",dict:=none,data:=.fields #[first,.int i 0,.ref a,.int n 0,.int ep 0],slots:=z }
theorem Dr{t:SetTable}{n:Nat}(h:t.fits n=true):(t.place.size != n||decide (t.fill>t.mask))=false:=by
 simp only[SetTable.fits,lW,lZ,QL] at h;obtain⟨h1,h2⟩:=h;rw[h1,cG (FW.mpr h2)];simp
theorem JC{h:Heap}{I:Addr}{o o2:Obj}{f:Obj->Obj}(e:h.get? I=some o)(q:f o=o2)(z:o2.isFreed=false:=by rfl):(h.update I f).get? I=some o2:=by
 subst q;exact Bt f e z
theorem Nq{I a:Addr}{slot i n ep nxt:Nat}{es:Array (Int×Value)}{t:SetTable}{z1:Array (Option Value)}{v:Value}{Q:Value->Shared->Prop}(hn:n=es.size)(hf:t.fits es.size=true)
  (e1:s.heap.get? I=some (oh (.int slot 0) i a n ep z1)) (e2:s.heap.get? a=some (fH es ep t))
  (hsn:∀(Q':Option (Value×Nat)->Shared->Prop)(E':Value->Shared->Prop),Q' (some (v,nxt)) s->wpAny (model P w) A (setNext a slot i ep) Q' E' s)
  (hQ:∀ h',h'.get? I=some (oh (.int nxt 0) (i+1) a n ep z1)->(∀ b o,b≠I->s.heap.get? b=some o->h'.get? b=some o)->Q v { s with heap:=h' }) :
  wpAny (model P w) A (Builtin.«set_iterator.__next__» ⟨[.ref I],[]⟩) (fun fin s'=>∃ r,fin=.done (.ret r)/\Q r s') E s:=by
 obtain⟨hp,g,dr,tk,os⟩:=s;have hc:=Dr hf;have hz:(((es.size:Nat):Int) != (n:Int))=false:=by rw[hn];simp
 unfold Builtin.«set_iterator.__next__»;generalize hSN:@setNext=SN at hsn ⊢
 wp_walk using wpAny_loadPart' e1
 simp only[jq];refine hsn _ _ ?_;dsimp only
 wp_walk using wpAny_loadPart' e1
 refine⟨v,rfl,hQ _ ?_ fun b o hb q=>?_⟩
 ·exact JC (JC (o2:=oh (.int nxt 0) i a n ep z1) e1 rfl) rfl
 ·rw[rQ _ _ _ _ hb,rQ _ _ _ _ hb];exact q
theorem T5{I a:Addr}{slot i n ep:Nat}{es:Array (Int×Value)}{t:SetTable}{z1:Array (Option Value)}(hh:A.handled=none)(hn:n=es.size)(hf:t.fits es.size=true)
  (e1:s.heap.get? I=some (oh (.int slot 0) i a n ep z1)) (e2:s.heap.get? a=some (fH es ep t))
  (hsn:∀(Q':Option (Value×Nat)->Shared->Prop)(E':Value->Shared->Prop),Q' none s->wpAny (model P w) A (setNext a slot i ep) Q' E' s) {C:Fin->Shared->Prop}
  (hQ:∀(h':Heap)(e:Addr),(∃ o,h'.get? e=some o/\o.cls=.type "StopIteration")->(∀ b o,b≠I->s.heap.get? b=some o->h'.get? b=some o)->E (.ref e) { s with heap:=h' }) :
  wpAny (model P w) A (Builtin.«set_iterator.__next__» ⟨[.ref I],[]⟩) C E s:=by
 obtain⟨hp,g,dr,tk,os⟩:=s;have hc:=Dr hf;have hz:(((es.size:Nat):Int) != (n:Int))=false:=by rw[hn];simp
 unfold Builtin.«set_iterator.__next__»;generalize hSN:@setNext=SN at hsn ⊢
 wp_walk using wpAny_loadPart' e1
 simp only[jq];refine hsn _ _ ?_;dsimp only
 wp_walk using wpAny_loadPart' e1
 unfold raiseNew;have hh':A.handled=none:=hh;refine aP (wpAny_handled ?_);rw[hh'];refine aP (bL (wpAny_throw (hQ _ _ ⟨_,fV _ rfl,rfl⟩ fun b o hb q=>eY _ (eY _ ?_))));rw[rQ _ _ _ _ hb];exact q
theorem W2{I a T:Addr}{i n ep pl:Nat}{es:Array (Int×Value)}{t:SetTable}{z1:Array (Option Value)}{v:Value}{ps:List Nat}{Q:Value->Shared->Prop}(hn:n=es.size)(hf:t.fits es.size=true)
  (e1:s.heap.get? I=some (oh (.ref T) i a n ep z1)) (e2:s.heap.get? a=some (fH es ep t)) (e3:s.heap.get? T=some { cls:=.type "tuple",data:=.seq (ps.map fun(k:Nat)=>rawInt k).toArray }) (hp:ps[i]?=some pl) (hv:es[pl]?.map (·.2)=some v)
  (hQ:∀ h',h'.get? I=some (oh (.ref T) (i+1) a n ep z1)->(∀ b o,b≠I->s.heap.get? b=some o->h'.get? b=some o)->Q v { s with heap:=h' }) :
  wpAny (model P w) A (Builtin.«set_iterator.__next__» ⟨[.ref I],[]⟩) (fun fin s'=>∃ r,fin=.done (.ret r)/\Q r s') E s:=by
 obtain⟨hp',g,dr,tk,os⟩:=s;have hc:=Dr hf;have hz:(((es.size:Nat):Int) != (n:Int))=false:=by rw[hn];simp
 obtain⟨⟨hh,x⟩,ex,ev⟩:=gn.mp hv;have ev:x=v:=ev;subst ev;have ep':((ps.map fun(k:Nat)=>rawInt k).toArray)[((i:Nat):Int).toNat]?=some (.int pl 0):=by
  rw[jq,zZ,cQ,hp];rfl
 unfold Builtin.«set_iterator.__next__»;generalize hSN:@setNextDrawn=SN
 wp_walk using wpAny_loadPart' e1,wpAny_loadPart' e3
 rw[ep'];dsimp only;subst hSN;unfold setNextDrawn;simp only[jq];refine aP (aP (Ft (o:=fH es ep t) e2 rfl hf ?_));dsimp only;rw[K6,aH (by decide),ex];dsimp only;refine bL ?_
 wp_walk using wpAny_loadPart' e1
 refine⟨x,rfl,hQ _ ?_ fun b o hb q=>?_⟩
 ·exact JC e1 rfl
 ·rw[rQ _ _ _ _ hb];exact q
theorem a0e{I a T:Addr}{i n ep:Nat}{es:Array (Int×Value)}{t:SetTable}{z1:Array (Option Value)}{ps:List Nat}{C:Fin->Shared->Prop}(hh:A.handled=none)(hn:n=es.size)(hf:t.fits es.size=true)
  (e1:s.heap.get? I=some (oh (.ref T) i a n ep z1)) (e2:s.heap.get? a=some (fH es ep t)) (e3:s.heap.get? T=some { cls:=.type "tuple",data:=.seq (ps.map fun(k:Nat)=>rawInt k).toArray }) (hp:ps[i]?=none)
  (hQ:∀(h':Heap)(e:Addr),(∃ o,h'.get? e=some o/\o.cls=.type "StopIteration")->(∀ b o,b≠I->s.heap.get? b=some o->h'.get? b=some o)->E (.ref e) { s with heap:=h' }) :
  wpAny (model P w) A (Builtin.«set_iterator.__next__» ⟨[.ref I],[]⟩) C E s:=by
 obtain⟨hp',g,dr,tk,os⟩:=s;have hc:=Dr hf;have hz:(((es.size:Nat):Int) != (n:Int))=false:=by rw[hn];simp
 have ep':((ps.map fun(k:Nat)=>rawInt k).toArray)[((i:Nat):Int).toNat]?=none:=by
  rw[jq,zZ,cQ,hp];rfl
 unfold Builtin.«set_iterator.__next__»;generalize hSN:@setNextDrawn=SN
 wp_walk using wpAny_loadPart' e1,wpAny_loadPart' e3
 rw[ep'];dsimp only
 wp_walk using wpAny_loadPart' e1
 unfold raiseNew;have hh':A.handled=none:=hh;refine aP (wpAny_handled ?_);rw[hh'];refine aP (bL (wpAny_throw (hQ _ _ ⟨_,fV _ rfl,rfl⟩ fun b o hb q=>eY _ (eY _ ?_))));rw[rQ _ _ _ _ hb,rQ _ _ _ _ hb];exact q
theorem Hz{a:Addr}{slot i ep:Nat}{es:Array (Int×Value)}{t:SetTable}{Q:Option (Value×Nat)->Shared->Prop} (hb:w.params.followText "set-order" = true) (e2:s.heap.get? a=some (fH es ep t)) (hf:t.fits es.size=true)
  (h:Q ((pickOrder (w.params.setOrder a ep) es)[i]?.map fun e=>(e.2,slot)) s):wpAny (model P w) A (setNext a slot i ep) Q E s:=by
 have hb':(model P w).w.params.followText "set-order" = true:=hb;unfold setNext setsByText;refine aP (Ft (o:=fH es ep t) e2 rfl hf ?_);dsimp only;refine aP (aP (Ag (bL ?_)));dsimp only;rw[aK hb',K6,aH (by decide)];unfold setWalk setsByText;refine aP (aP (Ft (o:=fH es ep t) e2 rfl hf ?_));dsimp only;refine aP (aP (Ag (bL ?_)));dsimp only;rw[aK hb'];exact aP (Ag (bL (bL h)))
def Pb(es:Array (Int×Value))(t:SetTable)(slot:Nat):Option (Value×Nat):=match es[SetTable.below t.place slot]?,t.place[SetTable.below t.place slot]? with
 |some (_,x),some j=>some (x,j+1)
 |_,_=>none
theorem DP{a:Addr}{slot i ep:Nat}{es:Array (Int×Value)}{t:SetTable}{Q:Option (Value×Nat)->Shared->Prop} (hb:w.params.followText "set-order" = false) (e2:s.heap.get? a=some (fH es ep t)) (hf:t.fits es.size=true) (hd:(!t.plain&&decide (es.size>1))=false) (hl:t.led=true)
  (h:Q (Pb es t slot) s):wpAny (model P w) A (setNext a slot i ep) Q E s:=by
 unfold setNext setsByText;refine aP (Ft (o:=fH es ep t) e2 rfl hf ?_);dsimp only;refine aP (aP (Ag (bL ?_)));dsimp only;have hb':¬(model P w).w.params.followText "set-order" = true:=by
  intro z;rw[show(model P w).w.params.followText "set-order" = w.params.followText "set-order" from rfl,hb] at z;cases z
 rw[aH hb'];refine Fw (fun z=>?_) (fun _=>?_)
 ·have z':(!t.plain&&decide (es.size>1))=true:=z;rw[hd] at z';cases z'
 refine aP (show wpAny _ _ (if(!t.led&&!es.isEmpty)=true then unsupported "set:maker-not-led" else pure ()) _ _ _ from ?_);rw[hl,aH (by simp)];exact bL (bL h)
end
end L2
namespace L2
open PySem PySem.Spec PyProof.Rows PySem.SeqAt PySem.MeetsSeq PySem.MeetsSeq2 PySem.MeetsSeq3
open PySem.AutoSeq1 (wpAny_loadPart')
theorem vZ{α:Type}:∀ {xs:List α} {k:Nat} (h:k<xs.length),(xs[k]::xs.eraseIdx k).Perm xs
 |x::xs,0,h=>R9 _
 |x::xs,k+1,h=>by
  have:=vZ (xs:=xs) (k:=k) (by simpa using h);rw[Zh];exact(List.Perm.swap _ _ _).trans (this.cons x)
theorem Sh{α:Type}(next:Nat->Nat):∀(n k:Nat)(xs:List α)(out:Array α),xs.length=n->((pickOrder.go next n k xs out).toList).Perm (out.toList++xs)
 |0,k,xs,out,h=>by
  have:xs=[]:=Z5 h;subst this;unfold pickOrder.go;rw[rT]
 |n+1,k,xs,out,h=>by
  unfold pickOrder.go;have hm:next k%xs.length<xs.length:=Nat.mod_lt _ (by lia);rw[gj hm];dsimp only;have p:=Sh next n (k+1) (xs.eraseIdx (next k%xs.length)) (out.push xs[next k%xs.length]) (by rw[Za hm];lia);refine p.trans ?_;rw[Af,yr];refine List.Perm.append_left _ ?_;exact vZ hm
theorem V8{α:Type}(next:Nat->Nat)(xs:Array α):(pickOrder next xs).toList.Perm xs.toList:=by
 have:=Sh next xs.size 0 xs.toList #[] (eO);simpa [pickOrder] using this
section
variable{P:Program}{w:World}{A:Around}{E:Value->Shared->Prop}
theorem TF{s:Shared}{src:Source}{n:Nat}{Q:Nat->Shared->Prop}(hn:n≠0)(h:∀ k d',k<n->Q k { s with drawn:=d' }):wpAny (model P w) A (choose src n) Q E s:=fun Γ p hΓ=>by
 unfold choose;rw[Sem.wp_choose];exact⟨hn,by rw[Sem.wp_pure];exact h _ _ (Nat.mod_lt _ (Nat.pos_of_ne_zero hn))⟩
theorem Ry{α:Type}:∀(n:Nat)(xs:List α){s:Shared}{Q:List α->Shared->Prop},xs.length=n->(∀ ys d',ys.Perm xs->Q ys { s with drawn:=d' })->wpAny (model P w) A (drawOrder n xs) Q E s
 |0,xs,s,Q,hl,h=>by
  have:xs=[]:=Z5 hl;subst this;unfold drawOrder;exact bL (h [] s.drawn (R9 _))
 |n+1,[],s,Q,hl,h=>by cases hl
 |n+1,x::xs,s,Q,hl,h=>by
  unfold drawOrder;refine aP (TF (by simp) fun k d' hk=>?_);rw[gj hk];dsimp only;refine aP (Ry n _ (by rw[Za hk];rw[iR] at hl ⊢;lia) fun ys d2 p=>bL (h _ d2 ?_));exact(p.cons _).trans (vZ hk)
end
section
variable{P:Program}{w:World}{A:Around}{E:Value->Shared->Prop}{s:Shared}
inductive rJ(w:World)(I a:Addr)(T:Option Addr)(es:Array (Int×Value))(ep:Nat)(t:SetTable)(L:List (Int×Value))(i:Nat)(h:Heap):Prop
 |text (slot:Nat) (z:Array (Option Value)) (hb:w.params.followText "set-order" = true) (hT:T=none) (hL:L=(pickOrder (w.params.setOrder a ep) es).toList) (e1:h.get? I=some (oh (.int slot 0) i a es.size ep z)) (e2:h.get? a=some (fH es ep t))
 |place (slot:Nat) (z:Array (Option Value)) (hb:w.params.followText "set-order" = false) (hT:T=none) (hL:L=es.toList) (hd:(!t.plain&&decide (es.size>1))=false) (hs:SetTable.below t.place slot=i) (e1:h.get? I=some (oh (.int slot 0) i a es.size ep z)) (e2:h.get? a=some (fH es ep t))
 |drawn (tp:Addr) (ps:List Nat) (z:Array (Option Value)) (hT:T=some tp) (hp:ps.length=es.size) (hL:∀(j pl:Nat),ps[j]?=some pl->L[j]?=es[pl]?) (e1:h.get? I=some (oh (.ref tp) i a es.size ep z)) (e2:h.get? a=some (fH es ep t)) (e3:h.get? tp=some { cls:=.type "tuple",data:=.seq (ps.map fun(k:Nat)=>rawInt k).toArray })
def fpS(I a:Addr):Option Addr->List Addr
 |none=>[I,a]
 |some tp=>[I,a,tp]
theorem rJ.ty{I a:Addr}{T:Option Addr}{es:Array (Int×Value)}{ep i:Nat}{t:SetTable}{L:List (Int×Value)}(k:rJ w I a T es ep t L i s.heap):s.TypeIs (.ref I) "set_iterator":=by
 cases k with
 |text _ _ _ _ _ e1 _=>exact⟨_,e1,rfl⟩
 |place _ _ _ _ _ _ _ e1 _=>exact⟨_,e1,rfl⟩
 |drawn _ _ _ _ _ _ e1 _ _=>exact⟨_,e1,rfl⟩
theorem rJ.frame{I a:Addr}{T:Option Addr}{es:Array (Int×Value)}{ep i:Nat}{t:SetTable}{L:List (Int×Value)}{h h':Heap}(k:rJ w I a T es ep t L i h)(hk:∀ b∈fpS I a T,∀ o,h.get? b=some o->h'.get? b=some o):rJ w I a T es ep t L i h':=by
 cases k with
 |text slot z hb hT hL e1 e2=>subst hT;exact .text slot z hb rfl hL (hk I (by simp[fpS]) _ e1) (hk a (by simp[fpS]) _ e2)
 |place slot z hb hT hL hd hs e1 e2=>subst hT;exact .place slot z hb rfl hL hd hs (hk I (by simp[fpS]) _ e1) (hk a (by simp[fpS]) _ e2)
 |drawn tp ps z hT hp hL e1 e2 e3=>subst hT;exact .drawn tp ps z rfl hp hL (hk I (by simp[fpS]) _ e1) (hk a (by simp[fpS]) _ e2) (hk tp (by simp[fpS]) _ e3)
structure KD(b:Bool)(I a:Addr)(T:Option Addr)(es:Array (Int×Value))(t:SetTable)(L:List (Int×Value)):Prop where
 fit:t.fits es.size=true
 tab:Tab b t
 perm:L.Perm es.toList
 ne:a≠I
 nt:∀ tp,T=some tp->tp≠I
theorem KR{t:SetTable}{b:Bool}(x:Tab b t){i slot:Nat}(hs:SetTable.below t.place slot=i)(hi:i<t.place.size):SetTable.below t.place (t.place[i]+1)=i+1:=by
 have c:=yX x.ris (t.place[i]+1);refine c.uniq ⟨hi,fun k hk hl=>?_,fun k hk hl=>?_⟩
 ·exact Nat.lt_succ_of_le (x.ris.le (Nat.le_of_lt_succ hl) hi)
 ·exact x.ris.lt hl hk
theorem Yj{I a:Addr}{T:Option Addr}{es:Array (Int×Value)}{ep i:Nat}{t:SetTable}{L:List (Int×Value)}{Q:Option Value->Shared->Prop} (ok:KD (!w.params.followText "set-order") I a T es t L) (k:rJ w I a T es ep t L i s.heap) (hi:i<L.length)
  (hQ:∀ h',rJ w I a T es ep t L (i+1) h'->(∀ b o,b≠I->s.heap.get? b=some o->h'.get? b=some o)->Q (some L[i].2) { s with heap:=h' }):wpAny (model P w) A (pyNext (.ref I)) Q E s:=by
 have len:L.length=es.size:=by rw[ok.perm.length_eq,eO]
 have ty:=k.ty;unfold pyNext;refine aP (FJ (JM (name:=Str.ofString "__next__") ty SF.gK (uz SF.gK ty SF.tE ?_ (SF.vD _))));cases k with
 |text slot z hb hT hL e1 e2=>
  refine Nq (nxt:=slot) (v:=L[i].2) rfl ok.fit e1 e2 (fun Q' E' q=>Hz hb e2 ok.fit ?_) fun h' g1 g2=>bL (hQ h' (.text slot z hb hT hL g1 (g2 a _ ok.ne e2)) g2)
  have:(pickOrder (w.params.setOrder a ep) es)[i]?=some L[i]:=by
   rw[<- vL,<- hL];exact gj hi
  rw[this];exact q
 |place slot z hb hT hL hd hs e1 e2=>
  subst hL;have f:=ok.fit;simp only[SetTable.fits,lW,lZ,QL] at f;have hp:i<t.place.size:=by rw[f.1];omega
  refine Nq (nxt:=t.place[i]+1) (v:=es.toList[i].2) rfl ok.fit e1 e2 (fun Q' E' q=>DP hb e2 ok.fit hd (by rw[ok.tab.led,hb];rfl) ?_) fun h' g1 g2=>bL (hQ h' (.place _ z hb hT rfl hd (KR ok.tab hs hp) g1 (g2 a _ ok.ne e2)) g2)
  unfold Pb;rw[hs,ig (by omega),ig hp];simpa using q
 |drawn tp ps z hT hp hL e1 e2 e3=>
  have hpi:i<ps.length:=by lia
  have hl:=hL i ps[i] (gj hpi);refine W2 (pl:=ps[i]) (v:=L[i].2) rfl ok.fit e1 e2 e3 (gj hpi) ?_ fun h' g1 g2=>bL (hQ h' (.drawn tp ps z hT hp hL g1 (g2 a _ ok.ne e2) (g2 tp _ (ok.nt tp hT) e3)) g2)
  rw[<- hl,gj hi];rfl
theorem Yk{I a:Addr}{T:Option Addr}{es:Array (Int×Value)}{ep:Nat}{t:SetTable}{L:List (Int×Value)}{Q:Option Value->Shared->Prop}(hh:A.handled=none) (ok:KD (!w.params.followText "set-order") I a T es t L) (k:rJ w I a T es ep t L L.length s.heap)
  (hQ:∀ h',(∀ b o,b≠I->s.heap.get? b=some o->h'.get? b=some o)->Q none { s with heap:=h' }):wpAny (model P w) A (pyNext (.ref I)) Q E s:=by
 have len:L.length=es.size:=by rw[ok.perm.length_eq,eO]
 have ty:=k.ty;unfold pyNext;refine aP (FJ (JM (name:=Str.ofString "__next__") ty SF.gK (uz SF.gK ty SF.tE ?_ (SF.vD _))));have fin:∀(h':Heap)(e:Addr),(∃ o,h'.get? e=some o/\o.cls=.type "StopIteration")->(∀ b o,b≠I->s.heap.get? b=some o->h'.get? b=some o)->wpAny (model P w) A (isInstance (.ref e) (.type "StopIteration") >>= fun c=>if c=true then pure none else throw (.ref e)) Q E { s with heap:=h' }:=fun h' e ⟨o,h1,h2⟩ g=>by
  refine aP (QZ (T:="StopIteration") (b:=true) ⟨o,h1,h2⟩ isSubtype_stop ?_);exact bL (hQ h' g)
 cases k with
 |text slot z hb hT hL e1 e2=>
  refine T5 (show A.in1.handled=none from hh) rfl ok.fit e1 e2 (fun Q' E' q=>Hz hb e2 ok.fit ?_) fun h' e ho g=>?_
  rotate_left
  ·exact fin h' e ho g
  have:(pickOrder (w.params.setOrder a ep) es)[L.length]?=none:=by
   rw[<- vL,<- hL];exact Fg (bK _)
  rw[this];exact q
 |place slot z hb hT hL hd hs e1 e2=>
  refine T5 (show A.in1.handled=none from hh) rfl ok.fit e1 e2 (fun Q' E' q=>DP hb e2 ok.fit hd (by rw[ok.tab.led,hb];rfl) ?_) fun h' e ho g=>?_
  rotate_left
  ·exact fin h' e ho g
  unfold Pb;rw[hs,JQ (by lia)];exact q
 |drawn tp ps z hT hp hL e1 e2 e3=>
  exact a0e (show A.in1.handled=none from hh) rfl ok.fit e1 e2 e3 (Fg (by lia)) fun h' e ho g=>fin h' e ho g
theorem Vl{I a:Addr}{T:Option Addr}{es:Array (Int×Value)}{ep:Nat}{t:SetTable}{L:List (Int×Value)}(hh:A.handled=none) (ok:KD (!w.params.followText "set-order") I a T es t L):Walks P w A I (fpS I a T) [I] L.length (fun i v=>∃ h:i<L.length,v=L[i].2) (rJ w I a T es ep t L) where
 sub:=fun b hb=>by rw[dB.mp hb];cases T<;>simp[fpS]
 frame:=fun i h h' st hk=>st.frame hk
 item:=fun i s Q E hi st hQ=>Yj ok st hi fun h' k' keep=>hQ _ h' s.toks ⟨hi,rfl⟩ k' fun b o hb eb=>keep b o (fun z=>hb (by rw[z];exact dB.mpr rfl)) eb
 done:=fun s Q E st hQ=>Yk hh ok st fun h' keep=>hQ h' s.toks fun b o hb eb=>keep b o (fun z=>hb (by rw[z];exact dB.mpr rfl)) eb
 self:=fun i s Q E st hQ=>by
  have ty:=st.ty;refine QW ty SF.vJ (uz SF.vJ ty SF.Dj ?_ (SF.Gg _));exact bL ⟨_,rfl,"set_iterator",_,ty,SF.gK.lookup,hQ⟩
theorem Yh{a:Addr}{es:Array (Int×Value)}{ep:Nat}{t:SetTable}{ds:List Int}{Q:Value->Shared->Prop}(e:s.heap.get? a=some (fH es ep t)) (x:yL (!w.params.followText "set-order") es t ds)
  (hQ:∀(I:Addr)(T:Option Addr)(L:List (Int×Value))(h':Heap)(d':Drawn),KD (!w.params.followText "set-order") I a T es t L->rJ w I a T es ep t L 0 h'->s.heap.objs.size<=I->(∀ tp,T=some tp->s.heap.objs.size<=tp)->(∀ b o,s.heap.get? b=some o->h'.get? b=some o)->Q (.ref I) { s with heap:=h',drawn:=d' }):wpAny (model P w) A (pyIter (.ref a)) Q E s:=by
 have ty:s.TypeIs (.ref a) "set":=⟨_,e,rfl⟩
 have lta:=bM e;have hc:=Dr x.fit;refine QW ty Zr (uz Zr ty SF.Di ?_ (PySem.F.args_set_iter_1 _));unfold Builtin.«frozenset.__iter__» Builtin.Frozenset.slot0 Builtin.Frozenset.addrOf Builtin.Frozenset.sizeOf setDrawn setsByText;generalize hDO:@drawOrder=DO;obtain⟨hp,g,dr,tk,os⟩:=s
 wp_walk
 subst hDO;refine Ag (bL (bL ?_));dsimp only;have ok0:∀(I:Addr)(T:Option Addr)(L:List (Int×Value)),hp.objs.size<=I->(∀ tp,T=some tp->tp≠I)->L.Perm es.toList->KD (!w.params.followText "set-order") I a T es t L:=fun I T L hI hT hL=>⟨x.fit,x.tab,hL,dU (jj lta hI),hT⟩
 have a2p:∀(L:List (Int×Value)),L.Perm es.toList->(∀ h:Heap,h.get? hp.objs.size=some (oh (.int (0:Nat) 0) 0 a es.size ep #[])->h.get? a=some (fH es ep t)->rJ w hp.objs.size a none es ep t L 0 h) ->
   wpAny (model P w) A.in1 (do
    let first <- pure (rawInt 0)
    let ep <- setEpoch a
    let it <- newFields "set_iterator" [first,rawInt 0,.ref a,rawInt es.size,rawInt ep]
    ret it) (fun fin s'=>∃ v,fin=.done (.ret v)/\∃ T' r,s'.TypeIs v T'/\typeLookup (.type T') (Str.ofString "__next__")=pure (some r)/\Q v s') E { heap:=hp,gens:=g,drawn:=dr,toks:=tk,os:=os }:=fun L hL st=>by
  refine aP (bL (aP (wpAny_setEpoch_of (o:=fH es ep t) e rfl x.fit (aP (uw (bL ⟨_,rfl,"set_iterator",_,⟨_,fV _ rfl,rfl⟩,SF.gK.lookup,?_⟩))))));exact hQ hp.objs.size none L _ dr (ok0 _ _ _ (bK _) (fun _ z=>by cases z) hL) (st _ (fV _ rfl) (eY _ e)) (bK _) (fun _ z=>by cases z) fun b o q=>eY _ q
 refine Fw (fun hd=>?_) (fun hd=>?_)
 ·refine aP (Ry es.size (List.range es.size) (jX) fun ps d' pp=>?_);have lps:ps.length=es.size:=by rw[pp.length_eq,jX]
  have sz2:(ps.map fun(i:Nat)=>rawInt i).length<=sizeLine:=by
   rw[aR,lps,x.len,oX];have:=x.sm;lia
  refine aP (wpAny_newTuple ?_ sz2);refine aP (wpAny_setEpoch_of (o:=fH es ep t) (eY _ e) rfl x.fit (aP (uw (bL ⟨_,rfl,"set_iterator",_,⟨_,fV _ rfl,rfl⟩,SF.gK.lookup,?_⟩))));have lt:∀ k∈ps,k<es.size:=fun k hk=>fK.mp (pp.mem_iff.mp hk)
  have hlp:(ps.map fun k=>es.getD k (0,.none)).Perm es.toList:=by
   refine(pp.map _).trans (List.Perm.of_eq ?_);refine List.ext_getElem (by rw[aR,jX,eO]) fun k h1 h2=>?_
   rw[eO] at h2;rw[uD,List.getElem_range,JW];simp[Array.getD,h2]
  have nsz:hp.objs.size<=(hp.push { cls:=.type "tuple",data:=.seq (ps.map fun(i:Nat)=>rawInt i).toArray }).objs.size:=by rw[Ar];exact oE _
  have nlt:hp.objs.size<(hp.push { cls:=.type "tuple",data:=.seq (ps.map fun(i:Nat)=>rawInt i).toArray }).objs.size:=by rw[Ar];exact K8 _
  refine hQ _ (some hp.objs.size) (ps.map fun k=>es.getD k (0,.none)) _ d' (ok0 _ _ _ nsz (fun tp z=>by cases z;exact dU nlt) hlp) (.drawn hp.objs.size ps #[] rfl lps (fun j pl q=>?_) (fV _ rfl) (eY _ (eY _ e)) (eY _ (fV _ rfl))) nsz (fun tp z=>by cases z;exact bK _) fun b o q=>eY _ (eY _ q)
  have hpl:=lt pl (fJ q);rw[cQ,q,ig hpl];simp[Array.getD,hpl]
 ·cases hb:w.params.followText "set-order" with
  |true=>exact a2p _ (V8 (w.params.setOrder a ep) es) fun h q1 q2=>.text 0 #[] hb rfl rfl q1 q2
  |false=>
   have hd':(!t.plain&&decide (es.size>1))=false:=by
    cases hz:(!t.plain&&decide (es.size>1)) with
    |false=>rfl
    |true=>exact absurd (show(!w.params.followText "set-order" && (!t.plain&&decide (es.size>1)))=true by rw[hb,hz];rfl) hd
   have b0:SetTable.below t.place 0=0:=(yX x.tab.ris 0).uniq ⟨j7 _,fun k hk h=>absurd h (Kf _),fun k hk h=>j7 _⟩;exact a2p _ (R9 _) fun h q1 q2=>.place 0 #[] hb rfl rfl hd' b0 q1 q2
end
end L2
namespace L2
open PySem PySem.Spec PyProof.Rows PySem.W
section
variable{P:Program}{w:World}{A:Around}{E:Value->Shared->Prop}{s:Shared}
theorem Ye{r:Addr}{Q:Bool->Shared->Prop} (ty:s.TypeIs (.ref r) "set") (h:Q false s):wpAny (model P w) A (Builtin.List.listLengthHint (.ref r)) Q E s:=by
 unfold Builtin.List.listLengthHint;refine aP (wpAny_specialOf ty PySem.F.slot_set_len.lookup ?_);generalize hid:("set.__len__" : String)=id0
 wp_delta
 rw[show splitId id0=some ("set","__len__") from by subst hid;decide +kernel];subst hid;refine aP (QZ (T:="set") (b:=true) ty (by rw[R8];kernel_rfl) ?_);refine Fw (fun z=>absurd z (by decide)) (fun _=>Fw (fun _=>?_) (fun z=>absurd (by decide +kernel) z));exact aP (wpAny_typeOf ty (bL h))
theorem Nm{a:Addr}{es:Array (Int×Value)}{ep:Nat}{t:SetTable}{ds:List Int}{C:List Value->Shared->Prop}(hh:A.handled=none)(e:s.heap.get? a=some (fH es ep t)) (x:yL (!w.params.followText "set-order") es t ds)
  (fin:∀(hp:Heap)(tk:Nat)(d':Drawn)(L:List (Int×Value))(got:Array Value),(∀ b o,s.heap.get? b=some o->hp.get? b=some o)->s.heap.objs.size<=hp.objs.size->L.Perm es.toList->got.toList=L.map (·.2)->C got.toList { s with heap:=hp,toks:=tk,drawn:=d' }):wpAny (model P w) A (collect (.ref a)) C E s:=by
 have lta:=bM e;unfold collect;refine aP (R7 (rW Z6 ?_));rw[uJ Z7 _];refine(show wpAny _ A.in1 (newList [] >>= fun q=>again (.builtin "list.__iadd__" ⟨[q,.ref a],[]⟩)) _ _ s from aP (uw (bL ⟨rY JN _,rW Zj ?_⟩)));rw[uJ JN _];generalize hL0:s.heap.push { cls:=.type "list",data:=.seq ([]:List Value).toArray }=H0;have new:H0.get? s.heap.objs.size=some { cls:=.type "list",data:=.seq #[] }:=by subst hL0;exact fV _ rfl
 have old:∀ b o,s.heap.get? b=some o->H0.get? b=some o:=by subst hL0;exact fun b o q=>eY _ q
 have big:H0.objs.size=s.heap.objs.size+1:=by subst hL0;exact Ar _ _
 have ty:({ s with heap:=H0 }:Shared).TypeIs (.ref a) "set":=⟨_,old _ _ e,rfl⟩
 refine(show wpAny (model P w) A.in1 (Builtin.List.listExtendWith (.ref s.heap.objs.size) (.ref a) (.ref s.heap.objs.size)) _ _ _ from ?_);unfold Builtin.List.listExtendWith;refine aP (wpAny_typeOf (T:="set") ty ?_);have h1:Builtin.List.listSameRef (.ref s.heap.objs.size) (.ref a)=false:=by simp[Builtin.List.listSameRef,uH lta]
 have h2:(Value.type "set" == Value.type "list")=false:=by decide
 have h3:(Value.type "set" == Value.type "tuple")=false:=by decide
 rw[h1,h2,h3];simp only[Bool.or_false,vN,jU];refine aP (Yh (s:={ s with heap:=H0 }) (old _ _ e) x fun I T L h' d' ok st hI hT keep=>?_);have nS:s.heap.objs.size∉fpS I a T:=by
  have n1:s.heap.objs.size≠I:=fun z=>by have:H0.objs.size<=I:=hI;rw[big,<- z] at this;exact oH _ this
  have n2:s.heap.objs.size≠a:=uH lta;cases T with
  |none=>simp[fpS,n1,n2]
  |some tp=>
   have n3:s.heap.objs.size≠tp:=fun z=>by have:H0.objs.size<=tp:=hT tp rfl;rw[big,<- z] at this;exact oH _ this
   simp[fpS,n1,n2,n3]
 have len:L.length<=sizeLine:=by rw[ok.perm.length_eq,eO,x.len,oX];have:=x.sm;lia
 have W:=Vl (P:=P) (A:=A.in1) (ep:=ep) (show A.in1.handled=none from hh) ok;have go:∀(h1:Heap)(c1 tk:Nat),rJ w I a T es ep t L 0 h1->(∀ b o,s.heap.get? b=some o->h1.get? b=some o)->h1.get? s.heap.objs.size=some { cls:=.type "list",data:=.seq #[] c1 } ->
   codeAny (model P w) A (.builtin "list.extend.loop" ⟨[.ref s.heap.objs.size,.ref I,.ref s.heap.objs.size],[]⟩) (fun r s2=>r=.ok (.ret (.ref s.heap.objs.size))/\wpAny (model P w) A (load s.heap.objs.size >>= fun o=>match o.data with|.seq xs _=>pure xs.toList|_=>unsupported "internal:collect") C E s2) { s with heap:=h1,drawn:=d',toks:=tk }:=fun h1 c1 tk st1 k1 at1=>by
  refine codeAny_extend_loopS W.toS len s.heap.objs.size nS _ L.length 0 _ #[] c1 rfl (j7 _) st1 at1 (ItemsOf.nil _) fun s2 acc c2 mv at2 items=>?_
  rw[Moved.eq_with mv];refine⟨rfl,aP (wpAny_load at2 (bL ?_))⟩;refine fin s2.heap s2.toks d' L acc (fun b o q=>mv.heap b o (fun z=>?_) (k1 b o q)) (Ax (bM at2)) ok.perm ?_
  ·rcases cW.mp z with z|z
   ·exact absurd (bM q) (by rw[z];exact oH _)
   ·rw[dB.mp z] at q;have h5:H0.objs.size<=I:=hI;rw[big] at h5;exact absurd (bM q) (FW.mpr (Nat.le_of_succ_le h5))
  ·refine Fp fun j=>?_
   rw[vL,cQ];by_cases hj:j<L.length
   ·have hg:j<acc.size:=by rw[items.1];exact hj
    obtain⟨_,ev⟩:=items.2 j acc[j] (ig hg);rw[ig hg,ev,gj hj];rfl
   ·rw[JQ (by rw[items.1];lia),Fg (by lia)];rfl
 have at1:=keep _ _ new;refine aP (qt (Ye ⟨_,keep _ _ (old _ _ e),rfl⟩ ?_));refine Fw (fun _=>?_) (fun _=>bL ⟨rY Zb _,pB (go h' 0 s.toks st (fun b o q=>keep b o (old b o q)) at1) fun q s3 z=>?_⟩)
 ·refine aP (jT (aP (show wpAny _ _ (updateSeq s.heap.objs.size (·.push .none) >>= fun _=>updateSeq s.heap.objs.size (·.pop)) _ _ _ from aP (Am at1 rfl ?_))));have at2:=Bt (Obj.mapSeq (·.push Value.none)) at1 rfl;refine Am (hz:=by seq_fits) at2 rfl ?_;have at3:=Bt (Obj.mapSeq (·.pop)) at2 rfl;have oth:∀ b o,b≠s.heap.objs.size->h'.get? b=some o->((h'.update s.heap.objs.size (Obj.mapSeq (·.push Value.none))).update s.heap.objs.size (Obj.mapSeq (·.pop))).get? b=some o:=fun b o hb q=>by
   rw[rQ _ _ _ _ hb,rQ _ _ _ _ hb];exact q
  refine bL ⟨rY Zb _,pB (go _ _ s.toks (st.frame fun b hb o q=>oth b o (fun z=>nS (by rw[<- z];exact hb)) q) (fun b o q=>oth b o (dU (bM q)) (keep b o (old b o q))) at3) fun q s3 z=>?_⟩;obtain⟨rfl,z⟩:=z;exact z
 ·obtain⟨rfl,z⟩:=z;exact z
end
def a3e(a b:Int):Bool:=decide (a<b)
theorem RQ:kO a3e:=by
 refine⟨fun a b h=>?_,fun a b c h1 h2=>?_,fun a b h1 h2=>?_⟩
 ·have:=cI h;exact cG (by lia)
 ·have h1':=j6 h1;have h2':=j6 h2;exact cG (by omega)
 ·have h1':=j6 h1;have h2':=j6 h2;lia
theorem Oz{P:Program}{w:World}{h:Heap}{us:List Value}{ns:List Int}(r:IntsAre us ns):Kw P w h us a3e fun i=>ns.getD i 0:=by
 have hl:us.length=ns.length:=Kh r;have at_:∀ i,i<us.length->∃ t,us.getD i Value.none=.int (ns.getD i 0) t:=fun i hi=>by
  obtain⟨t,e⟩:=IntsAre.int_at r i us[i] (gj hi);exact⟨t,by rw[gO,gj hi];exact e⟩
 refine⟨fun h2=>⟨oneType',fun A' E' s' Q' kp q=>?_,fun A' s' i j C hu kp hi hj hC=>?_⟩⟩
 ·rw[ksk_kind (keys:=us.toArray) (kz:=ns) (by simpa using r) (by simpa using h2)];exact bL q
 ·obtain⟨t,e⟩:=at_ i hi;obtain⟨u,e'⟩:=at_ j hj;rw[e,e'];exact kat_lt_int hC
theorem Wj{us:List Value}{ns:List Int}(r:IntsAre us ns):vU us fun i=>ns.getD i 0:=by
 have at_:∀ i,i<us.length->∃ t,us.getD i Value.none=.int (ns.getD i 0) t:=fun i hi=>by
  obtain⟨t,e⟩:=IntsAre.int_at r i us[i] (gj hi);exact⟨t,by rw[gO,gj hi];exact e⟩
 intro i j hi hj e;obtain⟨t,e1⟩:=at_ i hi;obtain⟨t',e2⟩:=at_ j hj;rw[e1,e2] at e;injection e
theorem yh:∀ {us:List Value} {ns:List Int},IntsAre us ns->Vals (ns.map V.int) us
 |_,_,.nil=>.nil
 |_,_,.cons n t h=>.cons ⟨t,rfl⟩ (yh h)
def Q9(w:World)(a:Addr)(ns:List Int):HO:=.ext fun h=>∃ ds,qz (!w.params.followText "set-order") h a ds/\(∀ m,m∈ds↔m∈ns)/\ds.length<=ns.length
section
variable{X:Cx}
def a5W(K:ao)(w:World):List V->Hp->VK->Prop:=fun xs H Q=>∃(p:Addr)(ns:List Int),xs=[.ref p]/\SqL K H p (ns.map V.int)/\ns.length<3000/\∀ a,H a=none->Q (.ref a) (upd H a (Q9 w a ns))
theorem Tw(hc:X.calm=true):eE X (.type "set") (a5W X.K X.w):=by
 intro pins s zzs H xs us Q I r h;obtain⟨p,ns,rfl,hq,hn,q⟩:=h;obtain⟨u,rfl,ru⟩:=vals1 r;cases ru;obtain⟨its,rv,pl,hz⟩:=I.list hq;have ia:=intsAre_of rv;have hl:its.length=ns.length:=Kh ia;refine Tv (I.ok.hd hc) pl.isList (by simpa using ia) (by rw[dj];lia) fun h' tk ds sa md ld keep=>?_
 have hn:H s.heap.objs.size=none:=I.hok.fresh (bK _);refine⟨.ref s.heap.objs.size,upd H s.heap.objs.size (Q9 X.w s.heap.objs.size ns),I.laid (t':=tk) keep (bK _) ⟨⟨ds,sa,md,ld⟩,?_,fun h1 h2 hp hk=>?_⟩,rfl,q _ hn⟩
 ·obtain⟨es,ep,t,e,_⟩:=sa;exact⟨_,e⟩
 ·obtain⟨ds,sa,r⟩:=hp;exact⟨ds,sa.kept hk,r⟩
theorem a5t{K:ao}{w:World}(hc:X.calm=true)(hK:X.K=K:=by rfl)(hw:X.w=w:=by rfl):eE X (.type "set") (a5W K w):=by subst hK hw;exact Tw hc
theorem Inv.draws{pins:List (Addr×Obj)}{zzs:L2.St}{H:Hp}{s:Shared}(I:Inv X pins zzs H s)(d':Drawn):Inv X pins zzs H { s with drawn:=d' }:=
 ⟨I.ok,I.os,I.bare,I.base,I.loc,I.cell,I.free,I.mO,I.pin,I.hok,I.len⟩
theorem Vv{ns:List Int}{n:Nat}{o:Array Nat}(hn:n=ns.length)(g:Good n o)(up:Ij a3e (fun i=>ns.getD i 0) o n)(nd:ns.Nodup):(o.toList.map fun i=>ns.getD i 0).Pairwise (· < ·):=by
 have pc:(o.toList.map fun i=>ns.getD i 0).Perm ns:=oO (by rw[<- hn];exact g.perm);have nd':(o.toList.map fun i=>ns.getD i 0).Nodup:=pc.nodup_iff.mpr nd;rw[yq];intro i j hi hj hij;have hne:=yq.mp nd' i j hi hj hij;rw[aR,eO,g.size] at hi hj;have hle:=up.le RQ (j-i) i (by lia);have e1:i+(j-i)=j:=by lia
 rw[e1] at hle;have hno:=j6 hle;have sz:=g.size;have key:∀ k,(hk:k<n)->Ky (fun i=>ns.getD i 0) o k=(o.toList.map fun i=>ns.getD i 0)[k]'(by rw[aR,eO,sz];exact hk):=fun k hk=>by
  unfold Ky;rw[uD,oF,ig (by lia)];rfl
 rw[key i hi,key j hj] at hno;lia
def Xz(w:World):List V->Hp->VK->Prop:=fun xs H Q=>∃(a:Addr)(ns:List Int),xs=[.ref a]/\H a=some (Q9 w a ns)/\ns.length<64/\∀(l:Addr)(ms:List Int),H l=none->(∀ m,m∈ms↔m∈ns)->ms.Pairwise (· < ·)->Q (.ref l) (upd H l (.lst (ms.map V.int)))
theorem Yg{L es:List (Int×Value)}(p:L.Perm es)(hi:∀ e∈es,a2A e):IntsAre (L.map (·.2)) (L.map wu):=by
 have hi':∀ e∈L,a2A e:=fun e he=>hi e (p.mem_iff.mp he)
 clear p hi
 induction L with
 |nil=>exact .nil
 |cons e L ih=>
  obtain⟨d,t,rfl⟩:=hi' e dY;exact .cons d t (ih fun e he=>hi' e (fU _ he))
theorem Od(hc:X.calm=true)(hu:X.A.units+60<cLine):eE X (.builtin "sorted") (Xz X.w):=by
 intro pins s zzs H xs us Q I r h;obtain⟨a,ns,rfl,e,h64,q⟩:=h;obtain⟨u,rfl,ru⟩:=vals1 r;cases ru;obtain⟨⟨ds,⟨es,ep,t,ea,x⟩,md,ld⟩,_,_⟩:=I.hok a _ e;refine Qm kind_sorted plain_sorted entry_sorted (args_sorted1 _) ?_;unfold Builtin.«sorted»;refine aP (m:=checkCount "sorted" 1 1 _) (bL (aP (Nm (show X.A.in1.handled=none from I.ok.hd hc) ea x fun hp tk d' L got keep YC pm eg=>?_)));have ia:IntsAre got.toList (L.map wu):=by rw[eg];exact Yg pm x.els
 have pd:(L.map wu).Perm ds:=by have:=pm.map wu;rw[x.ids] at this;exact this
 have lg:got.toList.length=(L.map wu).length:=Kh ia;have ln:(L.map wu).length=ds.length:=pd.length_eq;generalize hits:got.toList=its at ia lg;generalize hms:L.map wu=cs at pd ia lg ln;have hz2:its.length<=sizeLine:=by rw[oX];lia
 refine aP (Km ?_ (by simpa using hz2));have at0:(hp.push (seqObj "list" its.toArray 0)).get? hp.objs.size=some (seqObj "list" its.toArray 0):=fV _ rfl;show wpAny _ _ _ _ _ { s with heap:=hp.push (seqObj "list" its.toArray 0),toks:=tk,drawn:=d' };refine aP (qt (uz slot_list_sort ⟨_,at0,rfl⟩ entry_list_sort (Cu (h0:=s.heap) RQ (Wj ia) (by show X.A.units+1+1+2<cLine;lia) (Oz ia) hz2 at0 (fun b o eb=>⟨eY _ (keep b o eb),dU (bM (keep b o eb))⟩) fun o g up=>⟨_,rfl,bL ⟨_,rfl,?_⟩⟩) (args_list_sort _)));obtain⟨en,he⟩:=sortedHeap_at (vs:=its) (out:=(byP its o).toArray) at0;have hn:H hp.objs.size=none:=I.hok.fresh YC;have rv:Vals (cs.map V.int) its:=yh ia;have bd:∀ i∈o.toList,i<(cs.map V.int).length:=fun i hi=>by rw[aR,<- lg];exact fK.mp (g.perm.mem_iff.mp hi)
 have ev:(o.toList.map fun i=>(cs.map V.int).getD i .non)=(o.toList.map fun i=>cs.getD i 0).map V.int:=by
  rw[jY];refine wM fun i hi=>?_
  have:=bd i hi;rw[aR] at this;simp[gO,this]
 have rv':Vals ((o.toList.map fun i=>cs.getD i 0).map V.int) (byP its o):=by rw[<- ev];exact yg rv o.toList bd
 have pc:(o.toList.map fun i=>cs.getD i 0).Perm cs:=oO (by rw[<- lg];exact g.perm);have as:=Vv lg g up (pd.nodup_iff.mpr x.nd);have lo':((o.toList.map fun i=>cs.getD i 0).map V.int).length<=sizeLine:=by
  rw[aR,aR,eO,g.size];exact hz2
 have I':=I.draws d';refine⟨.ref hp.objs.size,upd H hp.objs.size (.lst ((o.toList.map fun i=>cs.getD i 0).map V.int)),I'.laid (a:=hp.objs.size) (o:=.lst ((o.toList.map fun i=>cs.getD i 0).map V.int)) (t':=tk) (fun b o eb=>?_) YC ⟨lo',byP its o,en,rv',he⟩,rfl,q _ _ hn (fun m=>by rw[pc.mem_iff,pd.mem_iff,md]) as⟩;have eb':=keep b o eb;rw[sortedHeap_old (dU (bM eb')) (by rw[size_push'];exact Fq (bM eb'))];exact eY _ eb'
theorem a0r{w:World}(hc:X.calm=true)(hu:X.A.units+60<cLine)(hw:X.w=w:=by rfl):eE X (.builtin "sorted") (Xz w):=by subst hw;exact Od hc hu
def a5V(K:ao):List V->Hp->VK->Prop:=fun xs H Q=>∃(p:Addr)(ns:List Int),xs=[.ref p]/\SqL K H p (ns.map V.int)/\ns≠[]/\∀ m,m∈ns->(∀ a∈ns,m<=a)->Q (.int m) H
theorem Tt(hc:X.calm=true):eE X (.builtin "min") (a5V X.K):=by
 intro pins s zzs H xs us Q I r h;obtain⟨p,ns,rfl,hq,hn,q⟩:=h;obtain⟨u,rfl,ru⟩:=vals1 r;cases ru;obtain⟨its,rv,pl,hz⟩:=I.list hq;have ia:=intsAre_of rv;obtain⟨ys,e⟩:=ia.allInts.items;have hns:ns=ys.toList.map (·.1):=by rw[<- ia.numsOf,<- nums_intItems,<- e]
 have hsz:0<ys.size:=by
  rcases Nat.eq_zero_or_pos ys.size with z|z
  ·exfalso;apply hn;rw[hns,ZC];exact Array.toList_eq_nil_iff.mpr (Z4 z)
  ·exact z
 have pl':=pl.isList;rw[e] at pl';refine min_intList (I.ok.hd hc) pl' hsz fun v h' tk hv hk=>?_
 obtain⟨t,rfl⟩:=intItems_at hv;obtain⟨h1,h2⟩:=argBest_lt (numAt ys) (ys.size-1);refine⟨.int _,H,I.kept (t':=tk) hk,⟨t,rfl⟩,q _ ?_ fun a ha=>?_⟩
 ·rw[hns,numAt_eq];exact getD_mem (by rw[aR,eO];lia)
 ·rw[hns] at ha;obtain⟨j,hj,rfl⟩:=mem_getD ha;rw[aR,eO] at hj;rw[<- numAt_eq];exact h2 j (by lia)
theorem a5s{K:ao}(hc:X.calm=true)(hK:X.K=K:=by rfl):eE X (.builtin "min") (a5V K):=by subst hK;exact Tt hc
end
end L2
namespace L2
open PySem PySem.Spec PyProof.Rows PySem.SeqAt PySem.MeetsSeq PySem.MeetsSeq2 PySem.MeetsSeq3
open PySem.AutoSeq1 (wpAny_loadPart')
theorem Ng(A:Around)(s:Shared)(a:Int)(t:Tok)(c:Int)(u:Tok)(prog:Program)(w:World)(E:Value->Shared->Prop)(Q:Value->Shared->Prop)(h:Q (.bool (decide (a<c))) s):wpAny (model prog w) A (richCompare .Lt (.int a t) (.int c u)) Q E s:=
 (lt_int h:wpAny (model prog w) A (compareOp .Lt (.int a t) (.int c u)) Q E s)
theorem Nf(A:Around)(s:Shared)(a:Int)(t:Tok)(c:Int)(u:Tok)(prog:Program)(w:World)(E:Value->Shared->Prop)(Q:Value->Shared->Prop)(h:Q (.bool (decide (c<a))) s):wpAny (model prog w) A (richCompare .Gt (.int a t) (.int c u)) Q E s:=
 (gt_int h:wpAny (model prog w) A (compareOp .Gt (.int a t) (.int c u)) Q E s)
theorem a0y(p q:Addr)(x1 x2 y1 y2:Int)(t1 t2 u1 u2:Tok)(n m:Nat)(d1 d2:Option Addr)(z1 z2:Array (Option Value)):Meets (Builtin.«tuple.__lt__» ⟨[.ref p,.ref q],[]⟩)
  (fun _ R s=>s.heap.get? p=some { cls:=.type "tuple",dict:=d1,data:=.seq #[.int x1 t1,.int x2 t2] n,slots:=z1 }/\s.heap.get? q=some { cls:=.type "tuple",dict:=d2,data:=.seq #[.int y1 u1,.int y2 u2] m,slots:=z2 }/\R (.ok (.ret (.bool (jk (x1,x2) (y1,y2))))) s):=
 .of_wp fun prog w A R s h=>by
  obtain⟨hp,g,d,tk,os⟩:=s;obtain⟨e1,e2,h⟩:=h;have f2:=Ze;have k1:=fun(Q:Bool->Shared->Prop)(E:Value->Shared->Prop)(h:Q (x1==y1) ⟨hp,g,d,tk,os⟩)=>(yu (t:=t1) (u:=u1) h:wpAny (model prog w) A.in1 (eqBool (.int x1 t1) (.int y1 u1)) Q E ⟨hp,g,d,tk,os⟩)
  have k2:=fun(Q:Bool->Shared->Prop)(E:Value->Shared->Prop)(h:Q (x2==y2) ⟨hp,g,d,tk,os⟩)=>(yu (t:=t2) (u:=u2) h:wpAny (model prog w) A.in1 (eqBool (.int x2 t2) (.int y2 u2)) Q E ⟨hp,g,d,tk,os⟩)
  have r1:=Ng A.in1 ⟨hp,g,d,tk,os⟩ x1 t1 y1 u1 prog w;have r2:=Ng A.in1 ⟨hp,g,d,tk,os⟩ x2 t2 y2 u2 prog w;have out:∀ b:Bool,(b=true↔cF (x1,x2) (y1,y2))->R (.ok (.ret (.bool b))) ⟨hp,g,d,tk,os⟩:=fun b hb=>by
   have:b=jk (x1,x2) (y1,y2):=by
    unfold jk;by_cases hc:cF (x1,x2) (y1,y2)
    ·rw[bR hc];exact hb.mpr hc
    ·rw[cG hc];cases b
     ·rfl
     ·exact absurd (hb.mp rfl) hc
   rw[this];exact h
  wp_walk using wpAny_loadPart' e1,wpAny_loadPart' e2,k1,k2
  by_cases q1:x1=y1
  ·rw[show(x1==y1)=true from lZ.mpr q1]
   wp_walk using k2
   by_cases q2:x2=y2
   ·rw[show(x2==y2)=true from lZ.mpr q2]
    wp_walk
    refine⟨_,rfl,out _ ?_⟩;simp[Builtin.Tuple.tupleCompareSizes,cF,q1,q2]
   ·rw[show(x2==y2)=false from qg.mpr q2]
    wp_walk using r2
    refine⟨_,rfl,out _ ?_⟩;rw[jo];unfold cF;dsimp only;lia
  ·rw[show(x1==y1)=false from qg.mpr q1]
   wp_walk using r1
   refine⟨_,rfl,out _ ?_⟩;rw[jo];unfold cF;dsimp only;lia
theorem a0k(p q:Addr)(x1 x2 y1 y2:Int)(t1 t2 u1 u2:Tok)(n m:Nat)(d1 d2:Option Addr)(z1 z2:Array (Option Value)):Meets (Builtin.«tuple.__gt__» ⟨[.ref p,.ref q],[]⟩)
  (fun _ R s=>s.heap.get? p=some { cls:=.type "tuple",dict:=d1,data:=.seq #[.int x1 t1,.int x2 t2] n,slots:=z1 }/\s.heap.get? q=some { cls:=.type "tuple",dict:=d2,data:=.seq #[.int y1 u1,.int y2 u2] m,slots:=z2 }/\R (.ok (.ret (.bool (jk (y1,y2) (x1,x2))))) s):=
 .of_wp fun prog w A R s h=>by
  obtain⟨hp,g,d,tk,os⟩:=s;obtain⟨e1,e2,h⟩:=h;have f2:=Ze;have k1:=fun(Q:Bool->Shared->Prop)(E:Value->Shared->Prop)(h:Q (x1==y1) ⟨hp,g,d,tk,os⟩)=>(yu (t:=t1) (u:=u1) h:wpAny (model prog w) A.in1 (eqBool (.int x1 t1) (.int y1 u1)) Q E ⟨hp,g,d,tk,os⟩)
  have k2:=fun(Q:Bool->Shared->Prop)(E:Value->Shared->Prop)(h:Q (x2==y2) ⟨hp,g,d,tk,os⟩)=>(yu (t:=t2) (u:=u2) h:wpAny (model prog w) A.in1 (eqBool (.int x2 t2) (.int y2 u2)) Q E ⟨hp,g,d,tk,os⟩)
  have r1:=Nf A.in1 ⟨hp,g,d,tk,os⟩ x1 t1 y1 u1 prog w;have r2:=Nf A.in1 ⟨hp,g,d,tk,os⟩ x2 t2 y2 u2 prog w;have out:∀ b:Bool,(b=true↔cF (y1,y2) (x1,x2))->R (.ok (.ret (.bool b))) ⟨hp,g,d,tk,os⟩:=fun b hb=>by
   have:b=jk (y1,y2) (x1,x2):=by
    unfold jk;by_cases hc:cF (y1,y2) (x1,x2)
    ·rw[bR hc];exact hb.mpr hc
    ·rw[cG hc];cases b
     ·rfl
     ·exact absurd (hb.mp rfl) hc
   rw[this];exact h
  wp_walk using wpAny_loadPart' e1,wpAny_loadPart' e2,k1,k2
  by_cases q1:x1=y1
  ·rw[show(x1==y1)=true from lZ.mpr q1]
   wp_walk using k2
   by_cases q2:x2=y2
   ·rw[show(x2==y2)=true from lZ.mpr q2]
    wp_walk
    refine⟨_,rfl,out _ ?_⟩;simp[Builtin.Tuple.tupleCompareSizes,cF,q1,q2]
   ·rw[show(x2==y2)=false from qg.mpr q2]
    wp_walk using r2
    refine⟨_,rfl,out _ ?_⟩;rw[jo];unfold cF;dsimp only;lia
  ·rw[show(x1==y1)=false from qg.mpr q1]
   wp_walk using r1
   refine⟨_,rfl,out _ ?_⟩;rw[jo];unfold cF;dsimp only;lia
section
variable{X:Cx}{K:ao}
def a5O(K:ao):R2:=fun x y H Q=>∃(a b:Cell),Den K H x (aB a)/\Den K H y (aB b)/\Q (.bl (jk b a)) H
theorem a3L(hu:X.A.units+60<cLine):OpR X (compareOp .Gt) (a5O X.K):=by
 intro pins s zzs H x y v u Q I rx ry h;obtain⟨a,b,da,db,q⟩:=h;obtain⟨p,o,t1,t2,n,rfl,e1,c1,f1⟩:=tu I da rx;obtain⟨p',o',u1,u2,m,rfl,e2,c2,f2⟩:=tu I db ry;obtain⟨oc,od,of,os⟩:=o;obtain⟨oc',od',of',os'⟩:=o';dsimp only at c1 f1 c2 f2;subst c1 f1 c2 f2;refine richCompare_meets_room (op:=.Gt) ⟨_,e1,rfl⟩ ⟨_,e2,rfl⟩ PySem.F.slot_tuple_gt PySem.F.entry_tuple_gt (PySem.F.args_tuple_gt_2 _ _) (a0k p p' a.1 a.2 b.1 b.2 t1 t2 u1 u2 n m od od' os os') ⟨e1,e2,?_⟩ (by lia);exact(show Value.bool (jk b a)≠Value.notImplemented/\EP X pins zzs Q (.bool (jk b a)) s from⟨(fun z=>nomatch z),⟨.bl (jk b a),H,I,rfl,q⟩⟩)
theorem a5r(hu:X.A.units+60<cLine)(hK:X.K=K:=by rfl):OpR X (compareOp .Gt) (a5O K):=by subst hK;exact a3L hu
end
def llt:List Cell->List Cell->Bool
 |[],[]=>false
 |[],_::_=>true
 |_::_,[]=>false
 |a::x,b::y=>if a=b then llt x y else jk a b
theorem xJ:kO llt:=by
 refine⟨?_,?_,?_⟩
 ·intro a
  induction a with
  |nil=>intro b h;cases b<;>first|rfl|(cases h)
  |cons x a ih=>
   intro b h;cases b with
   |nil=>cases h
   |cons y b=>
    unfold llt at h ⊢;by_cases e:x=y
    ·rw[aK e] at h;rw[aK e.symm];exact ih b h
    ·rw[aH e] at h;rw[aH (j5 e)];exact oM.KJ _ _ h
 ·intro a
  induction a with
  |nil=>intro b c _ h;cases c<;>first|rfl|skip;cases b<;>simp_all[llt]
  |cons x a ih=>
   intro b c h1 h2;cases b with
   |nil=>simp[llt] at h1
   |cons y b=>
    cases c with
    |nil=>simp[llt] at h2
    |cons z c=>
     unfold llt at h1 h2 ⊢;by_cases e1:y=x
     ·subst e1;rw[aK rfl] at h1;by_cases e2:z=y
      ·rw[aK e2] at h2 ⊢;exact ih b c h1 h2
      ·rw[aH e2] at h2 ⊢;exact h2
     ·rw[aH e1] at h1;by_cases e2:z=y
      ·subst e2;rw[aH e1];exact h1
      ·rw[aH e2] at h2;by_cases e3:z=x
       ·subst e3;exact absurd (oM.anti _ _ h1 h2) (by simpa using e1)
       ·rw[aH e3];exact oM.tr _ _ _ h1 h2
 ·intro a
  induction a with
  |nil=>intro b h1 h2;cases b<;>simp_all[llt]
  |cons x a ih=>
   intro b h1 h2;cases b with
   |nil=>simp[llt] at h2
   |cons y b=>
    unfold llt at h1 h2;by_cases e:x=y
    ·rw[aK e] at h1;rw[aK e.symm] at h2;rw[e,ih b h1 h2]
    ·rw[aH e] at h1;rw[aH (j5 e)] at h2;exact absurd (oM.anti _ _ h1 h2) e
def a2B(A:Around)(s:Shared)(y x:Value)(b:Bool):Prop:=
 ∀(prog:Program)(w:World)(E:Value->Shared->Prop)(Q:Value->Shared->Prop),Q (.bool b) s->wpAny (model prog w) A (richCompare .Lt y x) Q E s
theorem a0x(l b:Addr)(xs ys:Array Value)(n m:Nat)(d1 d2:Option Addr)(z1 z2:Array (Option Value))(cs ds:List Cell)(hx:xs.size=cs.length)(hy:ys.size=ds.length)(k:Nat) :
  ∀ i:Nat,cs.length-i=k->i<=cs.length->i<=ds.length->Meets (Builtin.«list.__eq__.loop» ⟨[.ref l,.ref b,rawInt i,rawInt 0],[]⟩)
   (fun A R s=>s.heap.get? l=some { cls:=.type "list",dict:=d1,data:=.seq xs n,slots:=z1 }/\s.heap.get? b=some { cls:=.type "list",dict:=d2,data:=.seq ys m,slots:=z2 } /\
    (∀ j (h1:j<xs.size) (h2:j<ys.size) (h3:j<cs.length) (h4:j<ds.length),EqAt A.in1 s xs[j] ys[j] (decide (cs[j]=ds[j]))/\a2B A.in1 s xs[j] ys[j] (jk cs[j] ds[j])) /\
    R (.ok (.ret (.bool (llt (cs.drop i) (ds.drop i))))) s):=by
 have fin:∀ i,i<=cs.length->i<=ds.length->(i=cs.length\/i=ds.length)->llt (cs.drop i) (ds.drop i)=decide (xs.size<ys.size):=fun i i1 i2 ho=>by
  rw[hx,hy];by_cases e1:i=cs.length
  ·rw[JR (by lia)];by_cases e2:i=ds.length
   ·rw[JR (by lia),cG (by lia)];rfl
   ·rw[yp (by lia),bR (by lia)];rfl
  ·have e2:i=ds.length:=by lia
   rw[yp (by lia),JR (l:=ds) (by lia),cG (by lia)];rfl
 induction k with
 |zero=>
  intro i hk i1 i2 prog w A R s h;obtain⟨hp,g,d,tk,os⟩:=s;obtain⟨hl,hb,he,h⟩:=h
  wp_walk using wpAny_loadPart' hl,wpAny_loadPart' hb
  have hi1:xs[((i:Nat):Int).toNat]?=none:=by simp;lia
  rw[hi1];rw[fin i i1 i2 (.inl (by lia))] at h;cases ys[((i:Nat):Int).toNat]?
  all_goals
   wp_walk using wpAny_loadPart' hl,wpAny_loadPart' hb
   exact h
 |succ k ih=>
  intro i hk i1 i2 prog w A R s h;obtain⟨hp,g,d,tk,os⟩:=s;obtain⟨hl,hb,he,h⟩:=h
  wp_walk using wpAny_loadPart' hl,wpAny_loadPart' hb
  have hi1:xs[((i:Nat):Int).toNat]?=some xs[i]:=by
   rw[jq];exact ig (by lia)
  by_cases e2:i=ds.length
  ·have hi2:ys[((i:Nat):Int).toNat]?=none:=by simp;lia
   rw[hi1,hi2];rw[fin i i1 i2 (.inr e2)] at h
   wp_walk using wpAny_loadPart' hl,wpAny_loadPart' hb
   exact h
  ·have hi2:ys[((i:Nat):Int).toNat]?=some ys[i]:=by
    rw[jq];exact ig (by lia)
   have hc:((i:Int)+1)=((i+1:Nat):Int):=by push_cast;rfl
   obtain⟨g1,g2⟩:=he i (by lia) (by lia) (by lia) (by lia);rw[hi1,hi2];rw[yp (by lia),yp (l:=ds) (by lia)] at h;unfold llt at h;refine aP (g1 prog w _ _ ?_);by_cases e3:cs[i]=ds[i]
   ·rw[aK e3] at h;rw[bR e3]
    wp_walk
    rw[hc];exact⟨rY plain_eq_loop _,rW entry_eq_loop (by
     rw[uJ plain_eq_loop _];exact ih (i+1) (by lia) (by lia) (by lia) prog w A R _ ⟨hl,hb,he,h⟩)⟩
   ·rw[aH e3] at h;rw[cG e3]
    wp_walk using wpAny_loadPart' hl,wpAny_loadPart' hb
    rw[hi1,hi2];refine aP (g2 prog w _ _ ?_)
    wp_walk
    exact h
theorem Wt(l b:Addr)(xs ys:Array Value)(n m:Nat)(d1 d2:Option Addr)(z1 z2:Array (Option Value))(cs ds:List Cell)(hx:xs.size=cs.length)(hy:ys.size=ds.length):Meets (Builtin.«list.__lt__» ⟨[.ref l,.ref b],[]⟩)
   (fun A R s=>s.heap.get? l=some { cls:=.type "list",dict:=d1,data:=.seq xs n,slots:=z1 }/\s.heap.get? b=some { cls:=.type "list",dict:=d2,data:=.seq ys m,slots:=z2 } /\
    (∀ j (h1:j<xs.size) (h2:j<ys.size) (h3:j<cs.length) (h4:j<ds.length),EqAt A.in1 s xs[j] ys[j] (decide (cs[j]=ds[j]))/\a2B A.in1 s xs[j] ys[j] (jk cs[j] ds[j])) /\
    R (.ok (.ret (.bool (llt cs ds)))) s):=by
 intro prog w A R s h;obtain⟨hp,g,d,tk,os⟩:=s;obtain⟨hl,hb,he,h⟩:=h;have f3:=AutoSeq1.sub_list_list
 wp_walk using wpAny_loadPart' hl,wpAny_loadPart' hb
 exact⟨rY plain_eq_loop _,rW entry_eq_loop (by
  rw[uJ plain_eq_loop _];exact a0x l b xs ys n m d1 d2 z1 z2 cs ds hx hy _ 0 rfl (j7 _) (j7 _) prog w A R _ ⟨hl,hb,he,h⟩)⟩
end L2
namespace L2
open PySem PySem.Spec PyProof.Rows PySem.W PySem.SeqAt
structure mY(h:Heap)(u:Value)(c:Cell):Prop where
 ex:∃(a:Addr)(o:Obj)(t t':Tok)(n:Nat),u=.ref a/\h.get? a=some o/\o.cls=.type "tuple" /\ o.data=.seq #[.int c.1 t,.int c.2 t'] n
theorem mY.keep{h h':Heap}{u:Value}{c:Cell}(e:mY h u c)(k:Keeps h h'):mY h' u c:=by
 obtain⟨a,o,t,t',n,h1,h2,h3,h4⟩:=e.ex;exact⟨a,o,t,t',n,h1,k _ _ h2,h3,h4⟩
structure sW(h:Heap)(u:Value)(cs:List Cell):Prop where
 ex:∃(a:Addr)(o:Obj)(us:Array Value)(n:Nat),u=.ref a/\h.get? a=some o/\o.cls=.type "list" /\ o.data=.seq us n/\us.size=cs.length/\∀ j (h1:j<us.size) (h2:j<cs.length),mY h us[j] cs[j]
theorem sW.keep{h h':Heap}{u:Value}{cs:List Cell}(e:sW h u cs)(k:Keeps h h'):sW h' u cs:=by
 obtain⟨a,o,us,n,h1,h2,h3,h4,h5,h6⟩:=e.ex;exact⟨a,o,us,n,h1,k _ _ h2,h3,h4,h5,fun j g1 g2=>(h6 j g1 g2).keep k⟩
section
variable{A:Around}{s:Shared}
theorem Ua{x y:Value}{c d:Cell}(hx:mY s.heap x c)(hy:mY s.heap y d)(hu:A.units<cLine):EqAt A s x y (decide (c=d)):=by
 obtain⟨a,o,t,t',n,rfl,h2,h3,h4⟩:=hx.ex;obtain⟨b,o',u,u',m,rfl,g2,g3,g4⟩:=hy.ex;by_cases e:a=b
 ·subst e;rw[h2] at g2;cases g2;rw[h4] at g4;have e1:c=d:=by
   injection g4 with g5 _;have g6:[Value.int c.1 t,Value.int c.2 t']=[Value.int d.1 u,Value.int d.2 u']:=congrArg Array.toList g5;injection g6 with a1 a2;injection a2 with a2 _;injection a1 with a1 _;injection a2 with a2 _;exact mJ a1 a2
  rw[bR e1];exact EqAt.same _
 ·have key:=Kr e (RcAt.tuples (e:=fun j=>if j=0 then c.1==d.1 else c.2==d.2) ⟨o,h2,h3,n,h4⟩ ⟨o',g2,g3,m,g4⟩ hu fun j j1 j2=>?_)
  ·have:((List.range (min (#[Value.int c.1 t,Value.int c.2 t']:Array Value).size (#[Value.int d.1 u,Value.int d.2 u']:Array Value).size)).all (fun j=>if j=0 then c.1==d.1 else c.2==d.2)&&(#[Value.int c.1 t,Value.int c.2 t']:Array Value).size==(#[Value.int d.1 u,Value.int d.2 u']:Array Value).size)=decide (c=d):=by
    show((List.range 2).all (fun j=>if j=0 then c.1==d.1 else c.2==d.2)&&true)=_;have:List.range 2=[0,1]:=rfl;rw[this];simp only[Aw,List.all_nil,aK,Kl];rw[uE];simp[Prod.ext_iff]
   rw[this] at key;exact key
  ·match j,j1,j2 with
   |0,_,_=>exact fun prog w E Q h=>yu h
   |1,_,_=>exact fun prog w E Q h=>yu h
   |j+2,j1,_=>exact absurd j1 (by simp)
theorem Us{x y:Value}{c d:Cell}(hx:mY s.heap x c)(hy:mY s.heap y d)(hu:A.units<cLine):a2B A s x y (jk c d):=by
 obtain⟨a,o,t,t',n,rfl,h2,h3,h4⟩:=hx.ex;obtain⟨b,o',u,u',m,rfl,g2,g3,g4⟩:=hy.ex;obtain⟨oc,od,of,os⟩:=o;obtain⟨oc',od',of',os'⟩:=o';dsimp only at h3 h4 g3 g4;subst h3 h4 g3 g4;intro prog w E Q q;refine richCompare_meets_room (op:=.Lt) ⟨_,h2,rfl⟩ ⟨_,g2,rfl⟩ PySem.F.slot_tuple_lt PySem.F.entry_tuple_lt (PySem.F.args_tuple_lt_2 _ _) (a0y a b c.1 c.2 d.1 d.2 t t' u u' n m od od' os os') ⟨h2,g2,?_⟩ hu;exact(show Value.bool (jk c d)≠Value.notImplemented/\Q (.bool (jk c d)) s from⟨(fun z=>nomatch z),q⟩)
theorem Wv{prog:Program}{w:World}{E:Value->Shared->Prop}{x y:Value}{cs ds:List Cell}(hx:sW s.heap x cs)(hy:sW s.heap y ds)(hu:A.units+2<cLine){Q:Bool->Shared->Prop}(q:Q (llt cs ds) s):wpAny (model prog w) A (keyLt' oneType' x y) Q E s:=by
 obtain⟨a,o,us,n,rfl,h2,h3,h4,h5,h6⟩:=hx.ex;obtain⟨b,o',vs,m,rfl,g2,g3,g4,g5,g6⟩:=hy.ex;obtain⟨oc,od,of,os⟩:=o;obtain⟨oc',od',of',os'⟩:=o';dsimp only at h3 h4 g3 g4;subst h3 h4 g3 g4;rw[keyLt'_oneType,oneLt'_eq];simp only[mK];refine aP (wpAny_cRoomFor (by lia) ?_);refine aP (wpAny_callSpecialIfBound?_slot (T:="list") ⟨_,h2,rfl⟩ Zv (uI Zv ⟨_,h2,rfl⟩ PySem.F.entry_list_lt (PySem.F.args_list_lt_2 _ _) (Wt a b us vs n m od od' os os' cs ds h5 g5) ⟨h2,g2,fun j j1 j2 j3 j4=>⟨Ua (h6 j j1 j3) (g6 j j2 j4) (by show A.units+1<cLine;lia),Us (h6 j j1 j3) (g6 j j2 j4) (by show A.units+1<cLine;lia)⟩,?_⟩));exact vO q
end
theorem PL{P:Program}{w:World}{h:Heap}{us:List Value}{rs:List (List Cell)}(hl:us.length=rs.length)(at_:∀ i,i<rs.length->sW h (us.getD i Value.none) (rs.getD i [])):Kw P w h us llt fun i=>rs.getD i []:=by
 refine⟨fun h2=>⟨oneType',fun A' E' s' Q' kp q=>?_,fun A' s' i j C hu kp hi hj hC=>?_⟩⟩
 ·refine kas_kind (T:=.type "list") h2 (fun v hv=>?_) (by decide) (by decide) q;obtain⟨i,hi,rfl⟩:=Qw.mp hv;have:=at_ i (by lia);rw[gO,gj hi] at this;obtain⟨a,o,us',n,e,h2,h3,_⟩:=this.ex;have e':us[i]=.ref a:=e;rw[e'];refine Looks.keeps ?_ kp;exact fun A Q E s k q=>wpAny_typeOf ⟨o,k _ _ h2,h3⟩ q
 ·exact Wv ((at_ i (by lia)).keep kp) ((at_ j (by lia)).keep kp) hu hC
abbrev vA(cs:List Cell):Dt:=.lst (cs.map aB)
theorem mY.det{h:Heap}{u:Value}{c d:Cell}(x:mY h u c)(y:mY h u d):c=d:=by
 obtain⟨a,o,t,t',n,rfl,h2,h3,h4⟩:=x.ex;obtain⟨b,o',v,v',m,e,g2,g3,g4⟩:=y.ex;cases e;rw[h2] at g2;cases g2;rw[h4] at g4;injection g4 with g5 _;have g6:[Value.int c.1 t,Value.int c.2 t']=[Value.int d.1 v,Value.int d.2 v']:=congrArg Array.toList g5;injection g6 with a1 a2;injection a2 with a2 _;injection a1 with a1 _;injection a2 with a2 _;exact mJ a1 a2
theorem sW.det{h:Heap}{u:Value}{cs ds:List Cell}(x:sW h u cs)(y:sW h u ds):cs=ds:=by
 obtain⟨a,o,us,n,rfl,h2,h3,h4,h5,h6⟩:=x.ex;obtain⟨b,o',vs,m,e,g2,g3,g4,g5,g6⟩:=y.ex;cases e;rw[h2] at g2;cases g2;rw[h4] at g4;injection g4 with g5' _;subst g5';refine List.ext_getElem (by lia) fun i i1 i2=>?_
 exact(h6 i (by lia) i1).det (g6 i (by lia) i2)
section
variable{X:Cx}
theorem a1I{pins:List (Addr×Obj)}{zzs:L2.St}{H:Hp}{s:Shared}{v:V}{u:Value}{cs:List Cell}(I:Inv X pins zzs H s)(d:Den X.K H v (vA cs))(r:RelV v u):sW s.heap u cs:=by
 cases d with
 |@lst a xs _ h hs=>
  cases r;obtain⟨its,rv,⟨o,n,e1,e2,_,e3⟩,_⟩:=I.list h;have hl:its.length=cs.length:=by rw[<- rv.length,hs.length,aR]
  refine⟨a,o,its.toArray,n,rfl,e1,e2,e3,by simpa using hl,fun j j1 j2=>?_⟩;have jv:j<xs.length:=by rw[rv.length,hl];exact j2
  obtain⟨u',eu,ru⟩:=rv.get (show xs[j]?=some xs[j] from by simp[jv]);obtain⟨d',ed,dd⟩:=hs.get (show xs[j]?=some xs[j] from by simp[jv]);rw[cQ,gj j2] at ed;cases ed;have e4:its.toArray[j]=u':=by
   rw[gj (by omega)] at eu;simpa using iu eu
  rw[e4];exact⟨tu I dd ru⟩
def Tn(rs:List (List Cell)):Prop:=rs.Pairwise fun a b=>llt b a=false
def Xy(K:ao):List V->Hp->VK->Prop:=fun xs H Q=>∃(p:Addr)(vs:List V)(rs:List (List Cell)),xs=[.ref p]/\SqL K H p vs/\aU K H vs (rs.map vA)/\∀(l:Addr)(o:List Nat),H l=none->o.Perm (List.range vs.length)->Tn (o.map fun i=>rs.getD i [])->Q (.ref l) (upd H l (.lst (o.map fun i=>vs.getD i .non)))
theorem Oc(hu:X.A.units+60<cLine):eE X (.builtin "sorted") (Xy X.K):=by
 intro pins s zzs H xs us Q I r h;obtain⟨p,vs,rs,rfl,hS,D,q⟩:=h;obtain⟨u,rfl,ru⟩:=vals1 r;cases ru;obtain⟨its,rv,pl,hz⟩:=I.list hS;have hl:its.length=rs.length:=by rw[<- rv.length,D.length,aR]
 have hv:vs.length=its.length:=rv.length;have at_:∀ i,i<rs.length->sW s.heap (its.getD i Value.none) (rs.getD i []):=fun i hi=>by
  have hv':i<vs.length:=by lia
  obtain⟨u',eu,ru⟩:=rv.get (show vs[i]?=some vs[i] from by simp[hv']);obtain⟨d',ed,dd⟩:=D.get (show vs[i]?=some vs[i] from by simp[hv']);rw[cQ,gj hi] at ed;cases ed;rw[gO,eu,gO,gj hi];exact a1I I dd ru
 have one:vU its fun i=>rs.getD i []:=fun i j hi hj e=>by
  have a1:=at_ i (by lia);have a2:=at_ j (by lia);rw[e] at a1;exact a1.det a2
 refine Cv xJ one (by lia) (PL hl at_) (by lia) pl.isList fun o g up=>?_
 obtain⟨e,he⟩:=sortedAll_at s.heap its (byP its o).toArray;have hn:H (s.heap.objs.size+1)=none:=I.hok.fresh (oE _);have bd:∀ i∈o.toList,i<vs.length:=fun i hi=>by rw[hv];exact fK.mp (g.perm.mem_iff.mp hi)
 have rv':Vals (o.toList.map fun i=>vs.getD i .non) (byP its o):=yg rv o.toList bd;have pv:(o.toList.map fun i=>vs.getD i .non).Perm vs:=oO (by rw[hv];exact g.perm);have as:Tn (o.toList.map fun i=>rs.getD i []):=by
  unfold Tn;rw[yq];intro i j hi hj hij;rw[aR,eO,g.size] at hi hj;have:=up.le xJ (j-i) i (by lia);have e1:i+(j-i)=j:=by lia
  rw[e1] at this;have sz:=g.size;have a1:Ky (fun i=>rs.getD i []) o i=(o.toList.map fun i=>rs.getD i [])[i]:=by
   unfold Ky;rw[uD,oF,ig (by lia)];rfl
  have a2:Ky (fun i=>rs.getD i []) o j=(o.toList.map fun i=>rs.getD i [])[j]:=by
   unfold Ky;rw[uD,oF,ig (by lia)];rfl
  rw[<- a1,<- a2];exact this
 have hz':(o.toList.map fun i=>vs.getD i .non).length<=sizeLine:=by rw[pv.length_eq];exact hz
 exact⟨.ref (s.heap.objs.size+1),upd H (s.heap.objs.size+1) (.lst (o.toList.map fun i=>vs.getD i .non)),I.laid (a:=s.heap.objs.size+1) (o:=.lst (o.toList.map fun i=>vs.getD i .non)) (t':=s.toks) (fun b o q=>sortedAll_old q) (oE _) ⟨hz',byP its o,e,rv',he⟩,rfl,q _ _ hn (by rw[hv];exact g.perm) as⟩
theorem RW{K:ao}(hu:X.A.units+60<cLine)(hK:X.K=K:=by rfl):eE X (.builtin "sorted") (Xy K):=by subst hK;exact Oc hu
theorem Rj{α:Type}{lt:α->α->Bool}(o:kO lt):∀ {xs ys:List α},xs.Perm ys->xs.Pairwise (fun a b=>lt b a=false)->ys.Pairwise (fun a b=>lt b a=false)->xs=ys
 |[],ys,p,_,_=>by rw[List.nil_perm.mp p]
 |x::xs,[],p,_,_=>absurd p.length_eq (by simp)
 |x::xs,y::ys,p,hx,hy=>by
  rw[uL] at hx hy;have e:x=y:=by
   have h1:x∈y::ys:=p.mem_iff.mp dY;have h2:y∈x::xs:=p.mem_iff.mpr dY;rcases cW.mp h1 with z|z
   ·exact z
   ·rcases cW.mp h2 with w|w
    ·exact w.symm
    ·exact o.anti _ _ (hy.1 x z) (hx.1 y w)
  subst e;rw[Rj o ((List.perm_cons x).mp p) hx.2 hy.2]
end
inductive fu{α:Type}(R:α->V->Hp->Prop)(H:Hp):List V->List α->Prop
 |nil:fu R H [] []
 |cons {v:V} {a:α} {vs:List V} {xs:List α} (h:R a v H) (t:fu R H vs xs):fu R H (v::vs) (a::xs)
section
variable{α β:Type}{R:α->V->Hp->Prop}{R2:β->V->Hp->Prop}{H H':Hp}
def Az(R:α->V->Hp->Prop):Prop:=∀ a v H H',Same H H'->R a v H->R a v H'
theorem fu.mono(hR:Az R)(s:Same H H'):∀ {vs:List V} {xs:List α},fu R H vs xs->fu R H' vs xs:=by
 intro vs xs h
 induction h with
 |nil=>exact .nil
 |cons h _ ih=>exact .cons (hR _ _ _ _ s h) ih
theorem fu.length:∀ {vs:List V} {xs:List α},fu R H vs xs->vs.length=xs.length
 |_,_,.nil=>rfl
 |_,_,.cons _ t=>by rw[iR,iR,t.length]
theorem fu.append:∀ {vs ws:List V} {xs ys:List α},fu R H vs xs->fu R H ws ys->fu R H (vs++ws) (xs++ys):=by
 intro vs ws xs ys h h2
 induction h with
 |nil=>exact h2
 |cons h _ ih=>exact .cons h ih
theorem fu.get:∀ {vs:List V} {xs:List α} {i:Nat} {v:V},fu R H vs xs->vs[i]?=some v->∃ a,xs[i]?=some a/\R a v H
 |_,_,i,v,.nil,h=>by simp at h
 |_,_,0,v,.cons h t,e=>by simp at e;exact⟨_,rfl,by rw[<- e];exact h⟩
 |_,_,i+1,v,.cons h t,e=>by simp at e;obtain⟨a,ea,r⟩:=t.get e;exact⟨a,by simpa using ea,r⟩
theorem fu.imp{R':α->V->Hp->Prop}(f:∀ a v,R a v H->R' a v H'):∀ {vs:List V} {xs:List α},fu R H vs xs->fu R' H' vs xs:=by
 intro vs xs h
 induction h with
 |nil=>exact .nil
 |cons h _ ih=>exact .cons (f _ _ h) ih
theorem fu.a2S{K:ao}{enc:α->Dt}(f:∀ a v,R a v H->Den K H v (enc a)):∀ {vs:List V} {xs:List α},fu R H vs xs->aU K H vs (xs.map enc):=by
 intro vs xs h
 induction h with
 |nil=>exact .nil
 |cons h _ ih=>exact .cons (f _ _ h) ih
theorem fu.by{d0:α}:∀ {vs:List V} {xs:List α} (o:List Nat),fu R H vs xs->(∀ i∈o,i<vs.length)->fu R H (o.map fun i=>vs.getD i .non) (o.map fun i=>xs.getD i d0)
 |vs,xs,[],_,_=>.nil
 |vs,xs,i::o,h,hb=>by
  have hi:=hb i dY;obtain⟨a,ea,r⟩:=h.get (gj hi);rw[gq,gq];refine .cons ?_ (h.by o fun j hj=>hb j (fU _ hj));rw[gO,gO,gj hi,ea];exact r
theorem CP{J:It}{vs:List V}{xs:List α}{tc:TT}{te:TE}{zzs:St}{fin:List V->Hp->Prop}(hR:Az R)(hR2:Az R2)(hJ:sU J H vs)(hx:fu R H vs xs)(hn:xs.length<=sizeLine)(p:α->Bool)(f:α->β)
  (ht:∀ a∈xs,∀ v H',Same H H'->R a v H'->∀ G:Bool->Hp->Prop,(∀ H'',Same H' H''->G (p a) H'')->tc (some v::zzs) H' G)
  (hf:∀ a∈xs,p a=true->∀ v H',Same H H'->R a v H'->∀ G:VK,(∀ y H'',Same H' H''->R2 (f a) y H''->G y H'')->te (some v::zzs) H' G)
  (hd:∀ ys H',Same H H'->fu R2 H' ys ((xs.filter p).map f)->fin ys H'):∃ W:Nat->Nat->List V->Hp->Prop,(∃ m,W 0 m [] H)/\sJ J tc te zzs fin W:=by
 have hlv:vs.length=xs.length:=hx.length;refine Rt (n:=vs.length) (item:=fun i=>vs.getD i .non) (fun i ys H'=>Same H H'/\fu R2 H' ys (((xs.take i).filter p).map f)) (by rw[hlv];exact hn) (fun i ys H' hi r=>hJ.go H' i r.1 hi) (fun i ys H' v H'' hi r y=>?_) (fun ys H' r=>hJ.stop H' r.1)
  (fun i ys H' hi r=>?_) ⟨Same.refl _,.nil⟩ (fun i ys H' hi r G hG=>?_) (fun ys H' r=>?_)
 ·obtain⟨e,e'⟩:=hJ.yld H' i v H'' r.1 hi y;exact⟨by rw[gO,e];rfl,e'⟩
 ·rw[r.2.length,aR];exact cX (iQ _ _) (by rw[jr];exact Nat.min_le_left _ _)
 ·obtain⟨s1,D⟩:=r;have hi':i<xs.length:=by lia
  have ev:vs[i]?=some (vs.getD i .non):=by simp[gO,hi]
  obtain⟨d,ed,dv⟩:=hx.get ev;have ea:d=xs[i]:=by
   rw[gj hi'] at ed;exact(iu ed).symm
  subst ea;have tk:xs.take (i+1)=xs.take i++[xs[i]]:=by rw[iT,gj hi'];rfl
  refine ht xs[i] (oG hi') _ H' s1 (hR _ _ _ _ s1 dv) _ fun H2 s2=>?_
  cases hp:p xs[i] with
  |false=>
   refine qN (hG _ _ ⟨s1.trans s2,?_⟩);rw[tk,uK,show List.filter p [xs[i]]=[] by simp[hp],rT];exact D.mono hR2 s2
  |true=>
   refine zj (hf xs[i] (oG hi') hp _ H2 (s1.trans s2) (hR _ _ _ _ (s1.trans s2) dv) _ fun y H3 s3 dy=>hG _ _ ⟨(s1.trans s2).trans s3,?_⟩);rw[tk,uK,show List.filter p [xs[i]]=[xs[i]] by simp[hp],dM];exact(D.mono hR2 (s2.trans s3)).append (.cons dy .nil)
 ·rw[hlv,gY] at r;exact hd ys H' r.1 r.2
theorem pK{J:It}{vs:List V}{xs:List α}{te:TE}{zzs:St}{fin:List V->Hp->Prop}(hR:Az R)(hR2:Az R2)(hJ:sU J H vs)(hx:fu R H vs xs)(hn:xs.length<=sizeLine)(f:α->β)
  (hf:∀ a∈xs,∀ v H',Same H H'->R a v H'->∀ G:VK,(∀ y H'',Same H' H''->R2 (f a) y H''->G y H'')->te (some v::zzs) H' G)
  (hd:∀ ys H',Same H H'->fu R2 H' ys (xs.map f)->fin ys H'):∃ W:Nat->Nat->List V->Hp->Prop,(∃ m,W 0 m [] H)/\sJ J Vm te zzs fin W:=
 CP hR hR2 hJ hx hn (fun _=>true) f (fun a _ v H' _ _ G hG=>hG H' (Same.refl _)) (fun a ha _=>hf a ha) fun ys H' s D=>hd ys H' s (by rw[JZ.mpr (fun _ _=>rfl)] at D;exact D)
end
def del(q:Addr)(H:Hp):Hp:=fun b=>if b=q then none else H b
theorem mj{q b:Addr}{H:Hp}(n:b≠q):del q H b=H b:=aH n
theorem jL{q:Addr}{H:Hp}:Same (del q H) H:=fun b o e=>by
 unfold del at e;by_cases h:b=q
 ·rw[aK h] at e;cases e
 ·rwa[aH h] at e
theorem SameBut.del{q:Addr}{H H':Hp}(s:SameBut q H H'):Same (L2.del q H) (L2.del q H'):=fun b o e=>by
 by_cases h:b=q
 ·subst h;unfold L2.del at e;rw[aK rfl] at e;cases e
 ·rw[mj h] at e ⊢;exact s _ _ e h
theorem Same.del{q:Addr}{H H':Hp}(s:Same H H'):Same (L2.del q H) (L2.del q H'):=(s.but q).del
theorem Same.into{q:Addr}{H H':Hp}(s:Same H H')(n:H q=none):Same H (L2.del q H'):=fun b o e=>by
 rw[mj (bV e n)];exact s _ _ e
section
variable{K:ao}{q:Addr}{H:Hp}{l:List V}
theorem a05:SameBut q H (del q H):=fun b o e n=>by rw[mj n];exact e
theorem tD{p:Addr}{cs:List Cell}(hq:H q=some (.lst l))(n:p≠q)(h:Ls K H p (cs.map aB)):Ls K (del q H) p (cs.map aB):=a05.ls hq n h
end
def iJ(K:ao)(H0:Hp)(r:List Cell)(v:V)(H:Hp):Prop:=∃ a,v=.ref a/\H0 a=none/\Ls K H a (r.map aB)
theorem iJ.stays{K:ao}{H0:Hp}:Az (iJ K H0):=fun r v H H' s h=>by
 obtain⟨a,e,n,l⟩:=h;exact⟨a,e,n,l.mono s⟩
theorem iJ.den{K:ao}{H0 H:Hp}{r:List Cell}{v:V}(h:iJ K H0 r v H):Den K H v (vA r):=by
 obtain⟨a,rfl,n,l⟩:=h;exact l.den
theorem Tz{K:ao}{H:Hp}:∀ {vs:List V} {cs ds:List Cell},aU K H vs (cs.map aB)->aU K H vs (ds.map aB)->cs=ds:=by
 intro vs cs ds D D'
 induction cs generalizing vs ds with
 |nil=>cases D;cases ds with|nil=>rfl|cons _ _=>cases D'
 |cons c cs ih=>
  cases ds with
  |nil=>cases D';cases D
  |cons d ds=>
  cases D with
  |cons h t=>
  cases D' with
  |cons h' t'=>
  obtain⟨a,rfl,_,e⟩:=fY h;obtain⟨b,e1,_,e'⟩:=fY h';cases e1;rw[e] at e';injection e' with e';injection e' with e';injection e' with e1 e2;injection e2 with e2 _;injection e1 with e1;injection e2 with e2;rw[ih t t',show c=d from mJ e1 e2]
theorem iJ.det{K:ao}{H0 H:Hp}{r r':List Cell}{v:V}(h:iJ K H0 r v H)(h':iJ K H0 r' v H):r=r':=by
 obtain⟨a,rfl,n,xs,e,D⟩:=h;obtain⟨b,e1,n',xs',e',D'⟩:=h';cases e1;rw[e] at e';cases e';exact Tz D D'
section
variable{P:Program}{w:World}{K:ao}{mg:Str->Option Value}{base:Heap}{N:List Str}{qual:Str}{scope:Scope}{f:Addr}{cd:Value}{A:Around}{outer:List Env}{s0:Shared}{H0:Hp}{E:XK}
theorem Cg:Passes (CXE P w) (rZ (CXE P w) P w K mg base N qual scope f cd A outer s0 H0 E) E:=by
 rintro pins zzs H s e s' I ⟨ea,C,H',rfl,hos,hg,u2,hok,fly,hE⟩;obtain⟨B,t,fw,Bk⟩:=fly.fl;have a3c:∀ b,b∈frs (envOfC qual scope s0.heap.objs.size f cd::outer)->b=s0.heap.objs.size\/b∈frs outer:=fun b hb=>cW.mp (I.wK b hb)
 have sub:∀ b∈frs outer,b∈frs (envOfC qual scope s0.heap.objs.size f cd::outer):=fun b hb=>by
  obtain⟨x,hx,e⟩:=Fj.mp hb;exact Fj.mpr ⟨x,fU _ hx,e⟩
 show wpAny (model P w) (A.deeper (envOfC qual scope s0.heap.objs.size f cd)) (leaving (envOfC qual scope s0.heap.objs.size f cd) (.ref ea)) (fun _ s''=>CXE P w outer H0 s0 E (.ref ea) s'') (fun e' s''=>CXE P w outer H0 s0 E e' s'') s';refine wpAny_leaves_onW I.ok.frames rfl fw fun h' fw' sm=>?_
 have u1:Un (frs outer) [] H0 H s0.heap s.heap:=I.base;have u:Un (frs (envOfC qual scope s0.heap.objs.size f cd::outer)) [] H0 H' s0.heap s'.heap:=(u1.mono sub fun _ z=>z).trans u2;have nx:∀ b:Addr,b∉([]:List Addr):=fun b=>by simp
 have Uw:∀ b o,s0.heap.get? b=some o->b∉frs outer->b∉frs (envOfC qual scope s0.heap.objs.size f cd::outer):=fun b o q n hb=>by
  rcases a3c b hb with z|z
  ·exact dU (bM q) z
  ·exact n z
 have xH:∀ b o,s'.heap.get? b=some o->(H' b≠none\/∃ o',s.heap.get? b=some o')->b∉frs (envOfC qual scope s0.heap.objs.size f cd::outer)->h'.get? b=some o:=fun b o q hb n=>fw'.1 b o (Bk b o q hb n)
 have frm:∀ b,b∈frs (envOfC qual scope s0.heap.objs.size f cd::outer)->H' b=none/\∃ o,s'.heap.get? b=some o/\∀ ws,o.data≠.fields ws:=fun b hb=>by
  obtain⟨_,o,ho,hd⟩:=I.stack.mem hb;have hn:=I.yd b hb;obtain⟨sl,e2⟩:=u2.slot b o ho hn hb (nx b);exact⟨u2.free b o ho hn (nx b),_,e2,hd⟩
 refine⟨ea,C,H',rfl,hos.trans I.os,hg,⟨fun b o q n hb _=>?_,fun b o q n hb _=>?_,fun b o q n _=>u.free b o q n (nx b),fun b o q _=>?_,u.tups,u.qL,u.sG⟩,fun a o q=>?_,⟨fly.free,?_,B,t,fw',fun b o q hb n=>?_⟩,hE⟩
 ·obtain⟨o1,e1⟩:=u1.there b o q (nx b);exact xH b o (u.keep b o q n (Uw b o q hb) (nx b)) (.inr ⟨o1,e1⟩) (Uw b o q hb)
 ·obtain⟨sl,e2⟩:=u.slot b o q n (sub b hb) (nx b);obtain⟨_,o2,eo,hd⟩:=frm b (sub b hb);rw[e2] at eo;cases eo;obtain⟨sl',e3⟩:=sm b _ e2 hd;exact⟨sl',e3⟩
 ·by_cases hb:b∈frs (envOfC qual scope s0.heap.objs.size f cd::outer)
  ·obtain⟨_,o2,eo,hd⟩:=frm b hb;obtain⟨sl',e3⟩:=sm b _ eo hd;exact⟨_,e3⟩
  ·obtain⟨o1,e1⟩:=u1.there b o q (nx b);obtain⟨o2,e2⟩:=u.there b o q (nx b);exact⟨o2,xH b o2 e2 (.inr ⟨o1,e1⟩) hb⟩
 ·refine(hok a o q).stay (fun b v hb z=>xH b v z (.inl ?_) ?_) (fun _ z=>z) fun _ _ z=>z
  ·rcases hb with rfl|hb
   ·rw[q];exact fun z=>by cases z
   ·rw[hb];exact fun z=>by cases z
  ·intro y;have:=(frm b y).1;rcases hb with rfl|hb
   ·rw[q] at this;cases this
   ·rw[hb] at this;cases this
 ·cases q:s0.heap.get? ea with
  |none=>rfl
  |some o=>
   obtain⟨ob,z⟩:=u1.there ea o q (nx ea);rw[fly.new] at z;cases z
 ·have key:∃ o',s'.heap.get? b=some o'/\(H' b≠none\/∃ o',s.heap.get? b=some o')/\b∉frs (envOfC qual scope s0.heap.objs.size f cd::outer):=by
   rcases hb with z|⟨o',z⟩
   ·cases r:H' b with
    |none=>exact absurd r z
    |some v=>
     obtain⟨ob,y⟩:=(hok b v r).there;exact⟨ob,y,.inl (fun z=>by cases z),fun hb=>by have:=(frm b hb).1;rw[r] at this;cases this⟩
   ·obtain⟨o1,e1⟩:=u1.there b o' z (nx b);obtain⟨o2,e2⟩:=u.there b o' z (nx b);exact⟨o2,e2,.inr ⟨o1,e1⟩,Uw b o' z n⟩
  obtain⟨o',y,h1,h2⟩:=key;have:=xH b o' y h1 h2;rw[q] at this;cases this;exact Bk b _ y h1 h2
end
section
variable{prog:Program}{w:World}{A:Around}{R:Result->Shared->Prop}{I:Addr}{fp wr:List Addr}{n:Nat}{P:Nat->Value->Prop}{St:Nat->Heap->Prop}
theorem Ut(W:Walks prog w A.in1 I fp wr n P St)(bt:Nat->Nat->Bool)(hcmp:CmpOf prog w A.in1 .Gt P bt)(S:Addr)(hSf:S∉fp)(nm:Str)(d:Value) :
  ∀(k j:Nat)(s:Shared)(arr:Array Value)(c:Nat),n-j=k->j<=n->St j s.heap->(j=0/\arr=#[])\/(∃ vb,0<j/\P (argBest bt (j-1)) vb/\arr=#[vb,vb]) ->
  s.heap.get? S=some { cls:=.type "list",dict:=none,data:=.seq arr c,slots:=#[] } ->
  (∀ v h' tk,(n=0/\v=d)\/(0<n/\P (argBest bt (n-1)) v)->(∀ b o,b∉wr->b≠S->s.heap.get? b=some o->h'.get? b=some o)->R (.ok (.ret v)) { s with heap:=h',toks:=tk }) ->
  codeAny (model prog w) A (.builtin "max.loop" ⟨[.ref I,.none,.ref S],[(nm,d)]⟩) R s:=by
 have hSw:S∉wr:=fun h=>hSf (W.sub _ h)
 have hname:(toString "max" ++ toString ".loop" : String) = "max.loop":=by decide
 intro k
 induction k with
 |zero=>
  intro j s arr c hk hj hst ha hS hR;have hin:j=n:=by omega
  refine rW F.entry_max_loop ?_;rw[uJ Ah _];show wpAny _ A.in1 (seqItems? (.ref S) >>= _) _ _ s;refine aP (wpAny_seqItems hS rfl ?_);show wpAny _ A.in1 (tryCatch (pyNext (.ref I)) _ >>= _) _ _ s;refine aP (Ra (W.done s _ _ (hin▸hst) fun h' tk hk'=>?_));rcases ha with⟨h0,rfl⟩|⟨vb,h0,hPb,rfl⟩
  ·exact aP (jT (bL (hR d h' tk (.inl ⟨by lia,rfl⟩) fun b o hbw _ e=>hk' b o hbw e)))
  ·have hS':=hk' S _ hSw hS;show wpAny _ A.in1 (updateSeq S (fun _=>#[]) >>= _) _ _ _;refine aP ?_;refine Am hS' rfl (aP (Ks (bL ?_)));exact hR vb _ tk (.inr ⟨by lia,by rw[<- hin];exact hPb⟩) fun b o hbw hbS e=>(G9 _ _ (j5 hbS)).trans (hk' b o hbw e)
 |succ k ih=>
  intro j s arr c hk hj hst ha hS hR;have hlt:j<n:=by omega
  refine rW F.entry_max_loop ?_;rw[uJ Ah _];show wpAny _ A.in1 (seqItems? (.ref S) >>= _) _ _ s;refine aP (wpAny_seqItems hS rfl ?_);show wpAny _ A.in1 (tryCatch (pyNext (.ref I)) _ >>= _) _ _ s;refine aP (Ra (W.item j s _ _ hlt hst fun v h' tk hP hst' hk'=>?_));have hS':=hk' S _ hSw hS;rcases ha with⟨h0,rfl⟩|⟨vb,h0,hPb,rfl⟩
  ·subst h0;show wpAny _ A.in1 (updateSeq S (fun _=>#[v,v]) >>= _) _ _ _;refine aP ?_;refine Am hS' rfl ?_;rw[hname];refine bL ⟨rY Ah _,ih 1 _ _ _ (by lia) (by lia) (W.frame _ _ _ hst' fun b hbf o e=>?_) (.inr ⟨v,by lia,hP,rfl⟩) (Bt _ hS' rfl) fun v' h'' tk'' hP' hk''=>?_⟩
   ·exact(G9 _ _ (fun h:S=b=>hSf (by rw[h];exact hbf))).trans e
   ·exact hR v' h'' tk'' hP' fun b o hbw hbS e=>hk'' b o hbw hbS ((G9 _ _ (j5 hbS)).trans (hk' b o hbw e))
  ·obtain⟨j,rfl⟩:∃ m,j=m+1:=⟨j-1,by lia⟩
   rw[ZJ] at hPb;show wpAny _ A.in1 (tryCatch (holding [v,v] (richCompare .Gt v vb >>= _)) _ >>= _) _ _ _;refine aP (Ra (qt (aP (hcmp (j+1) (argBest bt j) v vb _ _ _ hP hPb ?_))));refine aP (qt (vO ?_));refine aP (Ks (bL ?_));cases hb:bt (j+1) (argBest bt j) with
   |true=>
    simp only[mK];refine aP ?_;refine Am hS' rfl (aP (Ks ?_));rw[hname];refine bL ⟨rY Ah _,ih (j+2) _ _ _ (by omega) (by lia) (W.frame _ _ _ hst' fun b hbf o e=>?_) (.inr ⟨v,by lia,by show P (argBest bt (j+1)) v;simp only[argBest,hb,mK];exact hP,rfl⟩) (Bt _ hS' rfl) fun v' h'' tk'' hP' hk''=>?_⟩
    ·exact(G9 _ _ (fun h:S=b=>hSf (by rw[h];exact hbf))).trans e
    ·exact hR v' h'' tk'' hP' fun b o hbw hbS e=>hk'' b o hbw hbS ((G9 _ _ (j5 hbS)).trans (hk' b o hbw e))
   |false=>
    simp only[vN,jU];refine aP (Ks ?_);rw[hname];refine bL ⟨rY Ah _,ih (j+2) _ _ c (by omega) (by lia) hst' (.inr ⟨vb,by lia,by show P (argBest bt (j+1)) vb;simp only[argBest,hb,vN,jU];exact hPb,rfl⟩) hS' fun v' h'' tk'' hP' hk''=>?_⟩;exact hR v' h'' tk'' hP' fun b o hbw hbS e=>hk'' b o hbw hbS (hk' b o hbw e)
end
theorem Tq(a v:Value):argsOk "max" ⟨[a],[(Str.ofString "default",v)]⟩:=by unfold argsOk;kernel_rfl
theorem Jm{prog:Program}{w:World}{A:Around}{E:Value->Shared->Prop}{s:Shared}{l:Addr}{xs:Array (Int×Tok)}{d:Value}{Q:Value->Shared->Prop}(hh:A.handled=none)(hl:s.heap.IsList l (intItems xs))
  (h:∀ v h' tk,(xs.size=0/\v=d)\/(0<xs.size/\(intItems xs)[argBest (fun i j=>decide (numAt xs i>numAt xs j)) (xs.size-1)]?=some v)->(∀ b o,s.heap.get? b=some o->h'.get? b=some o)->Q v { s with heap:=h',toks:=tk }) :
  wpAny (model prog w) A (call (.builtin "max") [.ref l] [(Str.ofString "default",d)]) Q E s:=by
 have hname:(toString "max" ++ toString ".loop" : String) = "max.loop":=by decide
 refine kmk_tree F.kind_max F.plain_max F.entry_max (Tq _ _) ?_;show wpAny _ A.in1 (Builtin.Builtins.bindParams "max" ["key","default"] 0 ⟨[],[(Str.ofString "default",d)]⟩ >>= _) _ _ s;refine aP (wpAny_of_eq (show Builtin.Builtins.bindParams "max" ["key","default"] 0 ⟨[],[(Str.ofString "default",d)]⟩=pure [none,some d] from rfl) ?_);refine aP (bL ?_);refine aP (iter_intList hl fun s₂ e st hfp hlI=>?_);refine aP (uw ?_);have hSf:s₂.heap.objs.size∉[s.heap.objs.size,l]:=fun hm=>oH _ (hfp _ hm)
 rw[hname];have W:=Walks.list (prog:=prog) (w:=w) (A:=A.in1) hh s.heap.objs.size l hlI (intItems xs);have hz:(intItems xs).size=xs.size:=by simp[intItems]
 refine bL ⟨rY Ah _,Ut W _ (CmpOf.ints_gt (numAt xs) fun _ _=>intItems_at) s₂.heap.objs.size hSf _ d _ 0 _ #[] _ rfl (j7 _) (W.frame _ _ _ st fun b _ o e=>eY _ e) (.inl ⟨rfl,rfl⟩) (fV _ rfl) fun v h' tk hP hk=>?_⟩;subst e;refine h v h' tk (by rw[hz] at hP;exact hP) (old_kept fun b o hbw e=>hk b o hbw (dU (bM e)) (eY _ e))
theorem argBest_gt(f:Nat->Int):∀ k,argBest (fun i j=>decide (f i>f j)) k<=k/\∀ j,j<=k->f j<=f (argBest (fun i j=>decide (f i>f j)) k)
 |0=>⟨bK _,fun j hj=>by rw[Nat.le_zero.mp hj];exact FT _⟩
 |k+1=>by
  obtain⟨h1,h2⟩:=argBest_gt f k;unfold argBest;by_cases h:f (k+1)>f (argBest (fun i j=>decide (f i>f j)) k)
  ·rw[aK (bR h)];refine⟨bK _,fun j hj=>?_⟩;rcases Nat.lt_or_ge j (k+1) with z|z
   ·have:=h2 j (by lia);lia
   ·rw[Nat.le_antisymm hj z];exact FT _
  ·rw[aH fun z=>h (cI z)];refine⟨by lia,fun j hj=>?_⟩;rcases Nat.lt_or_ge j (k+1) with z|z
   ·exact h2 j (by lia)
   ·rw[Nat.le_antisymm hj z];omega
section
variable{X:Cx}{e:Expr}{p pos kp:Pos}{te:TE}{n:Int}{c:Expr}
def a6h(K:ao)(te tc:TE):TE:=fun zzs H Q=>uh te jF zzs H fun xs H1=>uh tc jF zzs H1 fun ys H2=>∃(p:Addr)(ns:List Int)(d:Int),xs=[.ref p]/\ys=[.int d]/\SqL K H2 p (ns.map V.int)/\∀ m,(ns=[]/\m=d)\/(m∈ns/\∀ a∈ns,a<=m)->Q (.int m) H2
theorem a4u{K:ao}{tc:TE}(hc:X.calm=true) (hg:Gl X "max") (hm:X.mg "max" = none) (hv:bootBuiltins "max" = some (.builtin "max")) (he:RE X e te) (hd:RE X c tc) (h1:notStar e=true:=by rfl) (hK:X.K=K:=by rfl) :
  RE X (.Call (.Name "max" p) [e] [⟨some "default",c,kp⟩] pos) (a6h K te tc):=by
 subst hK;refine⟨fun pins s zzs H Q I h=>?_⟩;refine Ac (wg I hg hm hv ?_ (by decide) (by decide));have hs:starEach [e] X.env=(false,eval e X.env)::starEach [] X.env:=lR h1;refine callWith_kw (thn ((a1A he.ok X8 h1) pos pins s zzs H _ I h) fun us s1 ⟨vs,H1,I1,r1,q1⟩=>thn ((a1g hd.ok a4g) pos pins s1 zzs H1 _ I1 q1) fun ws s2 zzy=>?_) (by rw[hs];rfl) (by rw[hs];rfl);obtain⟨zs,H2,I2,rz,q2⟩:=zzy;obtain⟨a,ns,d,rfl,rfl,hq,q⟩:=q2;obtain⟨u,rfl,ru⟩:=vals1 r1;cases ru;obtain⟨v,rfl,rv⟩:=vals1 rz;obtain⟨t,rfl⟩:=rv;obtain⟨its,rv,pl,hz⟩:=I2.list hq;have ia:=intsAre_of rv;obtain⟨ys,e⟩:=ia.allInts.items;have hns:ns=ys.toList.map (·.1):=by rw[<- ia.numsOf,<- nums_intItems,<- e]
 have pl':=pl.isList;rw[e] at pl';refine Jm (I2.ok.hd hc) pl' fun v h' tk hv hk=>?_
 rcases hv with⟨h0,rfl⟩|⟨h0,hv⟩
 ·exact⟨.int d,H2,I2.kept (t':=tk) hk,⟨t,rfl⟩,q d (.inl ⟨by rw[hns,Z4 h0];rfl,rfl⟩)⟩
 ·obtain⟨t',rfl⟩:=intItems_at hv;obtain⟨h1,h2⟩:=argBest_gt (numAt ys) (ys.size-1);refine⟨.int _,H2,I2.kept (t':=tk) hk,⟨t',rfl⟩,q _ (.inr ⟨?_,fun a ha=>?_⟩)⟩
  ·rw[hns,numAt_eq];exact getD_mem (by rw[aR,eO];lia)
  ·rw[hns] at ha;obtain⟨j,hj,rfl⟩:=mem_getD ha;rw[aR,eO] at hj;rw[<- numAt_eq];exact h2 j (by lia)
end
end L2
namespace L2
open PySem PySem.Spec PyProof.Rows PySem.SeqAt
open PySem.AutoSeq1 (wpAny_loadPart')
section
variable{X:Cx}{K:ao}
def a5N(K:ao):R2:=fun x y H Q=>∃(p:Addr)(xs:List V)(z:Str),x=.ref p/\SqL K H p xs/\y=.str z/\Q (.bl false) H
theorem a3j(hu:X.A.units+60<cLine)(hK:X.K=K:=by rfl):OpR X (compareOp .Eq) (a5N K):=by
 subst hK;intro pins s zzs H x y v u Q I rx ry h;obtain⟨p,xs,z,rfl,hS,rfl,q⟩:=h;cases rx;obtain⟨t,rfl⟩:=ry;obtain⟨us,_,ht,_⟩:=I.list hS;exact RcAt.list_str z t ht.isList (by lia) _ _ _ _ ⟨.bl false,H,I,rfl,q⟩
def a5P(K:ao):R2:=fun x y H Q=>∃(p q:Addr)(xs:List V)(zs:List Str),x=.ref p/\SqL K H p xs/\y=.ref q/\SqL K H q (zs.map V.str)/\Q (.bl false) H
theorem a3k(hu:X.A.units+60<cLine)(hK:X.K=K:=by rfl):OpR X (compareOp .In) (a5P K):=by
 subst hK;intro pins s zzs H x y v u Q I rx ry h;obtain⟨p,b,xs,zs,rfl,hS,rfl,hB,q⟩:=h;cases rx;cases ry;obtain⟨us,_,ht,_⟩:=I.list hS;obtain⟨ws,r,hw,_⟩:=I.list hB;refine in_listAt (fun _=>false) hw.isList (fun z hz=>?_) ⟨.bl false,H,I,by simp;rw[show(ws.any fun _=>false)=false from QJ.mpr fun _ _=>by simp];rfl,q⟩;obtain⟨j,hj⟩:=rP (show z∈ws by simpa using hz);have hl:j<(zs.map V.str).length:=by rw[r.length];exact(gM.mp hj).1
 obtain⟨u',h4,ry⟩:=r.get (gj hl);rw[hj] at h4;cases h4;rw[uD] at ry;obtain⟨t,rfl⟩:=ry;exact EqAt.str_list _ t ht.isList (by show X.A.units+1<cLine;lia)
theorem Uc(l b:Addr)(us ws:Array Value)(n m:Nat)(sl:Array (Option Value))(h0:¬(!us.isEmpty&&Builtin.List.listTooLong (us.size+ws.size))=true)(h1:us.size<=sizeLine)(h2:us.size+ws.size<=sizeLine+1) :
  Meets (Builtin.«list.extend» ⟨[.ref l,.ref b],[]⟩) (fun _ R s=>s.heap.get? l=some { cls:=.type "list",dict:=none,data:=.seq us n,slots:=#[] }/\s.heap.get? b=some { cls:=.type "list",dict:=none,data:=.seq ws m,slots:=sl }/\R (.ok (.ret .none)) { s with heap:=s.heap.update l (Obj.mapSeq fun x=>x++ws),toks:=s.toks }):=by
 refine .of_wp fun prog w A R s h=>?_
 obtain⟨hp,g,d,tk,os⟩:=s;obtain⟨el,eb,h⟩:=h;have f1:=AutoSeq1.idx_int;have f3:=AutoSeq1.sub_list_list;have hz:(us++ws).size<=sizeLine+1:=by rw[Array.size_append];exact h2
 wp_walk using (Am el rfl (hz:=h1) (_hz':=hz)),wpAny_loadPart' el,wpAny_loadPart' eb
 exact⟨_,rfl,h⟩
def Xv(K:ao):V->List V->Hp->VK->Prop:=fun x vs H Q=>∃ l b xs zs,x=.ref l/\vs=[.ref b]/\H l=some (.lst xs)/\SqL K H b zs/\xs.length+zs.length<=sizeLine/\Q .non (upd H l (.lst (xs++zs)))
theorem Wk(hK:X.K=K:=by rfl):MtM X "list.extend" (Xv K):=by
 subst hK;intro pins s zzs H x vs v us Q I rx rv h;obtain⟨l,b,xs,zs,rfl,rfl,hH,hB,hz,q⟩:=h;cases rx;obtain⟨u,rfl,ru⟩:=rv.one;cases ru;obtain⟨z,its,n,r,hl,e⟩:=I.Ur hH;obtain⟨its2,r2,⟨o,n2,e2,c2,d2,s2⟩,_⟩:=I.list hB;have l1:=r.length;have l2:=r2.length;obtain⟨cls,dd,data,sl⟩:=o;dsimp only at c2 d2 s2;subst c2 d2 s2;have hsz:its.toArray.size+its2.toArray.size<=sizeLine:=by rw[dj,dj];lia
 have Wg:¬(!its.toArray.isEmpty&&Builtin.List.listTooLong (its.toArray.size+its2.toArray.size))=true:=by
  rw[Mr hsz,uF];exact g8
 refine uI F.slot_list_extend ⟨_,e,rfl⟩ F.entry_list_extend (F.args_list_extend_2 _ _) (Uc l b its.toArray its2.toArray n n2 sl Wg (by rw[dj];lia) (by lia)) ⟨e,e2,?_⟩;refine⟨.non,_,I.a3s (its':=its++its2) hH e (by simp) (r.append r2) ?_,rfl,q⟩;rw[c7];omega
end
end L2
namespace L2
open PySem PySem.Spec PyProof.Rows
section
variable{X:Cx}
def a6g(tc:TT)(ta tr:TSX):TSX:=fun D Ex zzs H=>tc zzs H fun b H1=>if b=true then ta { D with nx:=fun bT H'=>tr D Ex bT H' } Ex zzs H1 else tr D Ex zzs H1
theorem a4o{c:Expr}{a rest:List Stmt}{pos:Pos}{tc:TT}{ta tr:TSX}(hc:PT X.nox c tc)(ha:PSX X a ta)(hr:PSX X rest tr):PSX X (.If c a [] pos::rest) (a6g tc ta tr):=by
 intro pins s zzs H D Ex I h;refine K7 (wpAny_If (j8 (hc pins s zzs H _ (I.wish _) h) (fun d s1 y=>?_) fun ev s' hx=>hx.elim));obtain⟨H1,I1,q1⟩:=y;cases d with
 |true=>
  refine j8 (ha pins s1 zzs H1 _ Ex I1.jR q1) (fun fl s2 y=>?_) fun _ _ z=>z
  cases fl with
  |next=>
   obtain⟨bT,H',I',q'⟩:=y;exact hr pins s2 bT H' D Ex I' q'
  |_=>exact y
 |false=>
  refine Ai ?_;exact hr pins s1 zzs H1 D Ex I1.jR q1
theorem a4B{c:Expr}{a rest:List Stmt}{pos:Pos}{tc:TT}{ta tr:TSX}(hc:RT X.nox c tc)(ha:RSX X a ta)(hr:RSX X rest tr):RSX X (.If c a [] pos::rest) (a6g tc ta tr):=⟨a4o hc.ok ha.ok hr.ok⟩
end
end L2
namespace My
abbrev zzR(a:PySem.Addr):Option L2.V:=some (.ref a)
abbrev zzI(n:Int):Option L2.V:=some (.int n)
abbrev zzN:Option L2.V:=none
open PySem L2
def top(i:Nat):Stmt:=PySem.Challenge.pw_dampfield_k08_sure_cells.main.body.getD i (.Pass ⟨0,0,0,0⟩)
abbrev Em:Stmt:=top 12
theorem Vi:bA ["row","width"] ["row","width"] (aJ Em):=⟨rfl,rfl,rfl,by decide +kernel,rfl,by decide +kernel,by decide +kernel⟩
abbrev zN:Stmt:=top 13
theorem Q7:bA ["height","width"] ["height","width"] (aJ zN):=⟨rfl,rfl,rfl,by decide +kernel,rfl,by decide +kernel,by decide +kernel⟩
abbrev zO:Stmt:=top 14
theorem Q8:bA ["rows"] ["rows"] (aJ zO):=⟨rfl,rfl,rfl,by decide +kernel,rfl,by decide +kernel,by decide +kernel⟩
abbrev mD:Stmt:=inClass (top 15) 0
theorem zR:bA ["self","rows"] ["self","rows"] (aJ mD):=⟨rfl,rfl,rfl,by decide +kernel,rfl,by decide +kernel,by decide +kernel⟩
abbrev wF:Stmt:=top 16
theorem Nj:bA ["view","cell"] ["view","cell"] (aJ wF):=⟨rfl,rfl,rfl,by decide +kernel,rfl,by decide +kernel,by decide +kernel⟩
abbrev tZ:Stmt:=top 17
theorem Jw:bA ["view","cell"] ["view","cell"] (aJ tZ):=⟨rfl,rfl,rfl,by decide +kernel,rfl,by decide +kernel,by decide +kernel⟩
abbrev El:Stmt:=top 18
theorem Vh:bA ["view","cell"] ["view","cell"] (aJ El):=⟨rfl,rfl,rfl,by decide +kernel,rfl,by decide +kernel,by decide +kernel⟩
abbrev Jt:Stmt:=top 19
theorem xY:bA ["view","found","row","column"] ["view"] (aJ Jt):=⟨rfl,rfl,rfl,by decide +kernel,rfl,by decide +kernel,by decide +kernel⟩
abbrev Q0:Stmt:=top 20
theorem Cm:bA ["view","cell","found","row","column"] ["view","cell"] (aJ Q0):=⟨rfl,rfl,rfl,by decide +kernel,rfl,by decide +kernel,by decide +kernel⟩
abbrev pA:Stmt:=top 21
theorem Ep:bA ["view","cell"] ["view","cell"] (aJ pA):=⟨rfl,rfl,rfl,by decide +kernel,rfl,by decide +kernel,by decide +kernel⟩
abbrev u9:Stmt:=top 22
theorem Jx:bA ["view","cell"] ["view","cell"] (aJ u9):=⟨rfl,rfl,rfl,by decide +kernel,rfl,by decide +kernel,by decide +kernel⟩
abbrev Ek:Stmt:=top 23
theorem Vg:bA ["view"] ["view"] (aJ Ek):=⟨rfl,rfl,rfl,by decide +kernel,rfl,by decide +kernel,by decide +kernel⟩
abbrev PX:Stmt:=top 24
theorem a1K:bA ["view"] ["view"] (aJ PX):=⟨rfl,rfl,rfl,by decide +kernel,rfl,by decide +kernel,by decide +kernel⟩
abbrev Y7:Stmt:=top 25
theorem a4D:bA ["view"] ["view"] (aJ Y7):=⟨rfl,rfl,rfl,by decide +kernel,rfl,by decide +kernel,by decide +kernel⟩
abbrev En:Stmt:=top 28
theorem mX:bA ["view","cell","found","waiting","member","teller","other"] ["view","cell"] (aJ En):=⟨rfl,rfl,rfl,by decide +kernel,rfl,by decide +kernel,by decide +kernel⟩
abbrev Ju:Stmt:=top 29
theorem qd:bA ["view","found","placed","cell","part","member"] ["view"] (aJ Ju):=⟨rfl,rfl,rfl,by decide +kernel,rfl,by decide +kernel,by decide +kernel⟩
abbrev zL:Stmt:=top 30
theorem o8:bA ["view","last","found","teller","around","behind"] ["view","last"] (aJ zL):=⟨rfl,rfl,rfl,by decide +kernel,rfl,by decide +kernel,by decide +kernel⟩
abbrev wG:Stmt:=top 31
theorem uc:bA ["laying","asked","demand","stones"] ["laying","asked"] (aJ wG):=⟨rfl,rfl,rfl,by decide +kernel,rfl,by decide +kernel,by decide +kernel⟩
abbrev zP:Stmt:=top 32
theorem jx:bA ["view","cell","part","begun","member","asked","both"] ["view","cell"] (aJ zP):=⟨rfl,rfl,rfl,by decide +kernel,rfl,by decide +kernel,by decide +kernel⟩
abbrev zM:Stmt:=top 33
theorem Q6:bA ["view","cell"] ["view","cell"] (aJ zM):=⟨rfl,rfl,rfl,by decide +kernel,rfl,by decide +kernel,by decide +kernel⟩
abbrev o7:Stmt:=top 34
theorem rO:bA ["view","cell"] ["view"] (aJ o7):=⟨rfl,rfl,rfl,by decide +kernel,rfl,by decide +kernel,by decide +kernel⟩
abbrev zK:Stmt:=top 35
theorem rC:bA ["view","found","part","cell"] ["view"] (aJ zK):=⟨rfl,rfl,rfl,by decide +kernel,rfl,by decide +kernel,by decide +kernel⟩
abbrev zQ:Stmt:=top 36
theorem wH:bA ["found","cell","stone","left","choice"] ["found","cell","stone"] (aJ zQ):=⟨rfl,rfl,rfl,by decide +kernel,rfl,by decide +kernel,by decide +kernel⟩
abbrev nZ:Stmt:=top 38
theorem mH:bA ["found","chosen","choice"] ["found"] (aJ nZ):=⟨rfl,rfl,rfl,by decide +kernel,rfl,by decide +kernel,by decide +kernel⟩
abbrev tY:Stmt:=top 39
theorem mU:bA ["view","cell","found","without","having"] ["view","cell"] (aJ tY):=⟨rfl,rfl,rfl,by decide +kernel,rfl,by decide +kernel,by decide +kernel⟩
abbrev Q5:Stmt:=top 40
theorem T3:bA ["view","cell","found"] ["view","cell"] (aJ Q5):=⟨rfl,rfl,rfl,by decide +kernel,rfl,by decide +kernel,by decide +kernel⟩
abbrev Jv:Stmt:=top 41
theorem Nk:bA ["view","cell","found"] ["view","cell"] (aJ Jv):=⟨rfl,rfl,rfl,by decide +kernel,rfl,by decide +kernel,by decide +kernel⟩
abbrev nT:Stmt:=top 43
theorem BL:bA ["script","k"] ["script","k"] (aJ nT):=⟨rfl,rfl,rfl,by decide +kernel,rfl,by decide +kernel,by decide +kernel⟩
abbrev wD:Stmt:=top 44
theorem oV:bA ["cell","k","many","some","stir"] ["cell","k","many"] (aJ wD):=⟨rfl,rfl,rfl,by decide +kernel,rfl,by decide +kernel,by decide +kernel⟩
abbrev tX:Stmt:=top 45
theorem jP:bA ["height","width","cell","found","dr","dc","one"] ["height","width","cell"] (aJ tX):=⟨rfl,rfl,rfl,by decide +kernel,rfl,by decide +kernel,by decide +kernel⟩
abbrev rB:Stmt:=top 46
theorem Gq:bA ["rows"] ["rows"] (aJ rB):=⟨rfl,rfl,rfl,by decide +kernel,rfl,by decide +kernel,by decide +kernel⟩
abbrev qY:Stmt:=top 47
theorem lG:bA ["rows","signs","found","r"] ["rows","signs"] (aJ qY):=⟨rfl,rfl,rfl,by decide +kernel,rfl,by decide +kernel,by decide +kernel⟩
abbrev mF:Stmt:=top 48
theorem eX:bA ["script","most","cell","height","width","thin","stones","r","c"] ["script","most"] (aJ mF):=⟨rfl,rfl,rfl,by decide +kernel,rfl,by decide +kernel,by decide +kernel⟩
abbrev oZ:Stmt:=top 49
theorem Eo:bA ["height","width","stones","cell"] ["height","width","stones","cell"] (aJ oZ):=⟨rfl,rfl,rfl,by decide +kernel,rfl,by decide +kernel,by decide +kernel⟩
abbrev rA:Stmt:=top 50
theorem iY:bA ["height","width","stones","known","rows","r","row","c"] ["height","width","stones","known"] (aJ rA):=⟨rfl,rfl,rfl,by decide +kernel,rfl,by decide +kernel,by decide +kernel⟩
abbrev pq:Stmt:=top 51
theorem jd:bA ["height","width","stones","known","cell","found","at"] ["height","width","stones","known","cell"] (aJ pq):=⟨rfl,rfl,rfl,by decide +kernel,rfl,by decide +kernel,by decide +kernel⟩
abbrev nY:Stmt:=top 52
theorem bY:bA ["script","most","steps","height","width","stones","known","free","r","k","left","cell"] ["script","most","steps"] (aJ nY):=⟨rfl,rfl,rfl,by decide +kernel,rfl,by decide +kernel,by decide +kernel⟩
abbrev mG:Stmt:=top 53
theorem gW:bA ["script","rows","cell","r","c","sign","line"] ["script","rows"] (aJ mG):=⟨rfl,rfl,rfl,by decide +kernel,rfl,by decide +kernel,by decide +kernel⟩
abbrev tV:Stmt:=top 54
theorem jh:bA ["rows","height","width","hidden","found","cell"] ["rows"] (aJ tV):=⟨rfl,rfl,rfl,by decide +kernel,rfl,by decide +kernel,by decide +kernel⟩
abbrev qZ:Stmt:=top 55
theorem cT:bA ["rows","height","width","verge","name","k","cell","one","some","found"] ["rows"] (aJ qZ):=⟨rfl,rfl,rfl,by decide +kernel,rfl,by decide +kernel,by decide +kernel⟩
abbrev nU:Stmt:=top 56
theorem bC:bA ["rows","part","height","width","told","one","some","found","k","cell","longer","row","good","figure_v","many","rest"] ["rows","part"] (aJ nU):=⟨rfl,rfl,rfl,by decide +kernel,rfl,by decide +kernel,by decide +kernel⟩
abbrev tW:Stmt:=top 57
theorem mR:bA ["rows","height","width","one"] ["rows"] (aJ tW):=⟨rfl,rfl,rfl,by decide +kernel,rfl,by decide +kernel,by decide +kernel⟩
abbrev nW:Stmt:=top 58
theorem cU:bA ["script","way","rows","stones","cell","signs"] ["script"] (aJ nW):=⟨rfl,rfl,rfl,by decide +kernel,rfl,by decide +kernel,by decide +kernel⟩
abbrev wC:Stmt:=top 59
theorem lQ:bA ["view","cell","way","e"] ["view","cell","way"] (aJ wC):=⟨rfl,rfl,rfl,by decide +kernel,rfl,by decide +kernel,by decide +kernel⟩
abbrev wB:Stmt:=top 60
theorem oU:bA ["rows","cell","some","part","told"] ["rows","cell"] (aJ wB):=⟨rfl,rfl,rfl,by decide +kernel,rfl,by decide +kernel,by decide +kernel⟩
abbrev Y8:Stmt:=top 61
theorem o9:bA ["script","rows","view","height","width","cell","hidden","some","place","due","found"] ["script"] (aJ Y8):=⟨rfl,rfl,rfl,by decide +kernel,rfl,by decide +kernel,by decide +kernel⟩
structure Adr where
 FieldError:Addr
 BadView:Addr
 NoCell:Addr
 TooGreat:Addr
 Impossible:Addr
 NotOpen:Addr
 View:Addr
structure Txt(K:ao)(mg:Str->Option Value)(Z:Adr):Prop where
 Rm:mg "all" = none
 sY:mg "enumerate" = none
 Gu:mg "int" = none
 iz:mg "isinstance" = none
 eG:mg "len" = none
 Ip:mg "list" = none
 Rn:mg "max" = none
 KQ:mg "min" = none
 gP:mg "range" = none
 a2a:mg "set" = none
 pH:mg "sorted" = none
 a2b:mg "str" = none
 Ro:mg "tuple" = none
 jA:∃ t,mg "MOST_ROWS" = some (.int 6 t)
 gU:∃ t,mg "MOST_COLUMNS" = some (.int 6 t)
 iW:∃ t,mg "CLOSED_SIGN" = some (.str "#" t)
 uR:∃ t,mg "SIGNS" = some (.str "#012345678" t)
 jg:∃ t,mg "MOST_CELLS" = some (.int 12 t)
 jJ:mg "FieldError" = some (.ref Z.FieldError)
 rF:ju K Z.FieldError
 Gz:mg "BadView" = some (.ref Z.BadView)
 vo:ju K Z.BadView
 sZ:mg "NoCell" = some (.ref Z.NoCell)
 oA:ju K Z.NoCell
 vX:mg "TooGreat" = some (.ref Z.TooGreat)
 lC:ju K Z.TooGreat
 qG:mg "Impossible" = some (.ref Z.Impossible)
 iH:ju K Z.Impossible
 yR:mg "NotOpen" = some (.ref Z.NotOpen)
 jD:ju K Z.NotOpen
 a2G:mg "View" = some (.ref Z.View)
 iB:Cls K Z.View
 jc:qy K Z.View "rows"
 gH:qy K Z.View "height"
 iG:qy K Z.View "width"
 Xq:PySem.W.kitOne K (.ref Z.NoCell) (.ref Z.FieldError)=some true
 Xr:PySem.W.kitOne K (.ref Z.TooGreat) (.ref Z.FieldError)=some true
 Xp:PySem.W.kitOne K (.ref Z.Impossible) (.ref Z.FieldError)=some true
 a1y:PySem.W.kitOne K (.ref Z.TooGreat) (.ref Z.NoCell)=some false
 a1q:PySem.W.kitOne K (.ref Z.Impossible) (.ref Z.NoCell)=some false
 a1r:PySem.W.kitOne K (.ref Z.Impossible) (.ref Z.TooGreat)=some false
 a1z:PySem.W.kitOne K (.type "tuple") (.type "tuple")=some true
 a1s:PySem.W.kitOne K (.ref Z.NotOpen) (.ref Z.FieldError)=some true
 a1u:PySem.W.kitOne K (.ref Z.NotOpen) (.ref Z.NoCell)=some false
 a1v:PySem.W.kitOne K (.ref Z.NotOpen) (.ref Z.TooGreat)=some false
 a1t:PySem.W.kitOne K (.ref Z.NotOpen) (.ref Z.Impossible)=some false
 a1w:PySem.W.kitOne K (.type "list") (.type "list")=some true
 a1x:PySem.W.kitOne K (.type "str") (.type "list")=some false
def zW(K:ao):Sp:=fun vs H Q _=>∃(a:Addr)(ns:List Int)(k:Int),vs=[.ref a,.int k]/\0<=k/\SqL K H a (ns.map V.int)/\∀ r:Int,Q (.int r) H
def HX:Sp:=fun vs H Q _=>∃(c k m:Int),vs=[.int c,.int k,.int m]/\0<m/\∀(r:Int)(H':Hp),0<=r->r<m->Same H H'->Q (.int r) H'
def wJ(K:ao):Sp:=fun vs H Q _=>∃(h w:Int)(v:V)(x:Cell),vs=[.int h,.int w,v]/\Den K H v (aB x)/\∀ p H',Fr K H H' p ((bQ h w x).map aB)->Q (.ref p) H'
def vh(K:ao):Sp:=fun vs H Q _=>∃(p:Addr)(zs:List Str)(w:Nat),vs=[.ref p]/\SqL K H p (zs.map V.str)/\Rect zs w/\∀ t H',Same H H'->SqT K H' t [.int zs.length,.int w]->Q (.ref t) H'
def rD(K:ao):Sp:=fun vs H Q _=>∃(p:Addr)(zs:List Str)(w:Nat)(sg:Str),vs=[.ref p,.str sg]/\SqL K H p (zs.map V.str)/\Rect zs w/\∀ q H',Fr K H H' q ((bH zs w sg).map aB)->Q (.ref q) H'
section
variable{P:Program}{w:World}{K:ao}{mg:Str->Option Value}{base:Heap}{Z:Adr}
theorem a0E{f:Addr}{fd:FuncData} (F:Fun K "_law_cell_at" "_law_cell_at" nT f fd) (T:Txt K mg Z):cY P w K mg base (CXE P w) 1 f fd ["script","k"] (zW K):=by
 refine F.rok BL (fun vs H Q E h=>?_) (fun cdv A outer s H vs Q E hr h=>?_)
 ·obtain⟨a,ns,k,rfl,_⟩:=h;rfl
 ·obtain⟨a,ns,k,rfl,h0,hS,hq⟩:=h;refine⟨_,(aA (dR (bF HB (rv 1) (aZ (eZ (K:=K)) rfl T.eG cJ (aj (rv 0) ak)) (cg _)) (aD (bB (cH (cV (K:=K)) (rv 0) (rv 1)))) bO) (aD (bB aG))),?_⟩;refine⟨_,rfl,_,rfl,.inl ⟨a,_,rfl,.inl hS,_,_,rfl,rfl,_,rfl,?_⟩⟩;refine Gn (fun hk=>?_) (fun _=>?_)
  ·have hk':k<ns.length:=by have:=cI hk;simp only[aR] at this;exact this
   obtain⟨v,e⟩:=Rk h0 hk';exact⟨_,rfl,_,rfl,.inl ⟨a,_,_,_,rfl,rfl,hS,e,hq _⟩⟩
  ·exact hq 0
theorem a3F{f:Addr}{fd:FuncData} (F:Fun K "_law_mix" "_law_mix" wD f fd) (T:Txt K mg Z):cY P w K mg base (CXE P w) 1 f fd ["cell","k","many"] HX:=by
 refine F.rok oV (fun vs H Q E h=>?_) (fun cdv A outer s H vs Q E hr h=>?_)
 ·obtain⟨c,k,m,rfl,_⟩:=h;rfl
 ·obtain⟨c,k,m,rfl,hm,hq⟩:=h;refine⟨_,(aA (aW (i:=3) oV.nd rfl (Or.inl rfl) (bZ (aj aG (aj aG (aj aG (aj aG (aj aG (aj aG (aj aG (aj aG (aj aG (aj aG (aj aG (aj aG (aj aG ak))))))))))))))) (aA (aW (i:=4) oV.nd rfl (Or.inl rfl) (dw bI (dw bI (dw vd (dw bI (dw nM (rv 0) aG) aG) (cH (cV (K:=K)) (rv 3) (dw nM (rv 1) aG))) (dw vd aG (rv 1))) (dw vd aG (dw Ce (rv 1) aG)))) (aA (aW (i:=4) oV.nd rfl (Or.inl rfl) (dw nM (rv 4) aG)) (aD (bB (dw nM (dw Ce (dw nM (dw bI (dw vd (rv 4) (rv 4)) (dw vd aG (rv 1))) aG) aG) (rv 2))))))),?_⟩;refine⟨by decide,fun p hp=>?_⟩;have b0:0<=c%2147483647:=Ao _ (by decide);have b1:c%2147483647<2147483647:=Ad _ (by decide);obtain⟨v,e⟩:=Rk (ns:=[48271,69621,16807,39373,30269,40014,40692,50021,61687,71993,83869,95561,30307]) (i:=k%13) (Ao _ (by decide)) (Ad _ (by decide));refine⟨_,rfl,_,_,rfl,rfl,(by show(0:Int)<2147483647;decide),_,rfl,_,rfl,_,_,rfl,rfl,(by show(0:Int)<13;decide),.inl ⟨p,_,_,_,rfl,rfl,.of au,e,.inl ⟨by lia,by lia⟩,?_⟩⟩;refine⟨_,rfl,.inl ⟨by lia,by lia⟩,?_⟩;refine⟨_,rfl,_,_,rfl,rfl,⟨by decide,by decide⟩,.inl ⟨by lia,by lia⟩,?_⟩;refine⟨_,rfl,_,_,rfl,rfl,(by show(0:Int)<1000000007;decide),?_⟩;refine⟨_,rfl,_,rfl,.inl ⟨by omega,by omega⟩,?_⟩;refine⟨_,rfl,.inl ⟨by lia,by lia⟩,?_⟩;refine⟨_,_,rfl,rfl,(by show(0:Int)<1000000007;decide),?_⟩;refine⟨_,_,rfl,rfl,⟨by decide,by decide⟩,?_⟩;refine⟨_,rfl,_,_,rfl,rfl,hm,?_⟩;exact hq _ _ (Ao _ (by lia)) (Ad _ hm) (Same.put hp)
theorem a0L{f:Addr}{fd:FuncData} (F:Fun K "_law_near" "_law_near" tX f fd) (T:Txt K mg Z):cY P w K mg base (CXE P w) 1 f fd ["height","width","cell"] (wJ K):=by
 refine F.rok jP (fun vs H Q E h=>?_) (fun cdv A outer s H vs Q E hr h=>?_)
 ·obtain⟨h,w,v,x,rfl,_⟩:=h;rfl
 ·obtain⟨h,w,v,x,rfl,dv,hq⟩:=h;refine⟨_,(aA (aW (i:=3) jP.nd rfl (Or.inl rfl) (bZ ak)) (aA (cL eU rfl (aV (K:=K) (bZ (aj (gk (aj (Ve zY aG) (aj (Ve zY aG) ak))) (aj (gk (aj (Ve zY aG) (aj aG ak))) (aj (gk (aj (Ve zY aG) (aj aG ak))) (aj (gk (aj aG (aj (Ve zY aG) ak))) (aj (gk (aj aG (aj aG ak))) (aj (gk (aj aG (aj (Ve zY aG) ak))) (aj (gk (aj aG (aj aG ak))) (aj (gk (aj aG (aj aG ak))) ak)))))))))) (nQ rfl (cP (bx (i:=4) jP.nd rfl (Or.inl rfl)) (cP (bx (i:=5) jP.nd rfl (Or.inl rfl)) jO))) (aA (aW (i:=6) jP.nd rfl (Or.inl rfl) (gk (aj (dw bI (cH (cV (K:=K)) (rv 2) aG) (rv 4)) (aj (dw bI (cH (cV (K:=K)) (rv 2) aG) (rv 5)) ak)))) (aD (dR (Ej (wA (xW rM HB aG (cH (cV (K:=K)) (rv 6) aG) (rv 0)) (qT (xW rM HB aG (cH (cV (K:=K)) (rv 6) aG) (rv 1))))) (aD (gb (kh (K:=K) jV lU lV dJ (rv 3) (aj (rv 6) ak)))) bO)))) (aD (bB (rv 3))))),?_⟩;refine aC (fun zzs H1=>∃ p,H p=none/\Same H H1/\H1 p=some (.lst [])/\zzs=[zzI h,zzI w,some v,zzR p,zzN,zzN,zzN]) (fun R hR=>?_) ?_
  ·exact⟨by decide,fun p hp=>hR _ _ ⟨p,hp,Same.put hp,au,rfl⟩⟩
  rintro zzs H1 ⟨p,np,s1,hp,rfl⟩;refine aC (fun zzs H3=>∃ v4 v5 v6,Fr K H H3 p ((bQ h w x).map aB)/\zzs=[zzI h,zzI w,some v,zzR p,v4,v5,v6]) (fun R hR=>?_) ?_
  ·refine Wa ?_;refine jz (K:=K) (-1) (-1) (fun _ q=>⟨_,rfl,q⟩) (fun _ q=>⟨_,rfl,q⟩) fun u1 G1 t1 d1=>?_
   refine jz (K:=K) (-1) 0 (fun _ q=>⟨_,rfl,q⟩) (fun _ q=>q) fun u2 G2 t2 d2=>?_
   refine jz (K:=K) (-1) 1 (fun _ q=>⟨_,rfl,q⟩) (fun _ q=>q) fun u3 G3 t3 d3=>?_
   refine jz (K:=K) 0 (-1) (fun _ q=>q) (fun _ q=>⟨_,rfl,q⟩) fun u4 G4 t4 d4=>?_
   refine jz (K:=K) 0 1 (fun _ q=>q) (fun _ q=>q) fun u5 G5 t5 d5=>?_
   refine jz (K:=K) 1 (-1) (fun _ q=>q) (fun _ q=>⟨_,rfl,q⟩) fun u6 G6 t6 d6=>?_
   refine jz (K:=K) 1 0 (fun _ q=>q) (fun _ q=>q) fun u7 G7 t7 d7=>?_
   refine jz (K:=K) 1 1 (fun _ q=>q) (fun _ q=>q) fun u8 G8 t8 d8=>?_
   refine⟨sz rfl,fun q hq'=>?_⟩;have t9:=Same.put (o:=.lst [u1,u2,u3,u4,u5,u6,u7,u8]) hq';have D:aU K (upd G8 q (.lst [u1,u2,u3,u4,u5,u6,u7,u8])) [u1,u2,u3,u4,u5,u6,u7,u8] (offs.map aB):=by
    have r8:=t9;have r7:=t8.trans r8;have r6:=t7.trans r7;have r5:=t6.trans r6;have r4:=t5.trans r5;have r3:=t4.trans r4;have r2:=t3.trans r3;have r1:=t2.trans r2;exact .cons (d1.mono r1) (.cons (d2.mono r2) (.cons (d3.mono r3) (.cons (d4.mono r4) (.cons (d5.mono r5) (.cons (d6.mono r6) (.cons (d7.mono r7) (.cons (d8.mono r8) .nil)))))))
   have tA:=s1.trans (t1.trans (t2.trans (t3.trans (t4.trans (t5.trans (t6.trans (t7.trans (t8.trans t9))))))));have hp9:=(t1.trans (t2.trans (t3.trans (t4.trans (t5.trans (t6.trans (t7.trans (t8.trans t9)))))))) _ _ hp;have nqp:q≠p:=(bV ((t1.trans (t2.trans (t3.trans (t4.trans (t5.trans (t6.trans (t7.trans t8))))))) _ _ hp) hq').symm;refine⟨q,rfl,⟨_,SqL.of au⟩,?_⟩;refine cO (K:=K) (xs:=[u1,u2,u3,u4,u5,u6,u7,u8]) (fun i zzs H'=>∃ l v4 v5 v6,SameBut p (upd G8 q (.lst [u1,u2,u3,u4,u5,u6,u7,u8])) H'/\H' p=some (.lst l)/\aU K H' l ((((offs.take i).map fun d=>(x.1+d.1,x.2+d.2)).filter fun y=>decide (inF h w y)).map aB) /\
    zzs=[zzI h,zzI w,some v,zzR p,v4,v5,v6]) ⟨[],none,none,none,.refl _ _,hp9,.nil,rfl⟩ (fun i zzs H' _ hh=>?_) (fun i u zzs H' hu hh=>?_) (fun zzs H' hh=>?_)
   ·obtain⟨l,_,_,_,sb,_⟩:=hh;exact sb.seq au nqp
   ·obtain⟨l,v4,v5,v6,sb,hl,Dl,rfl⟩:=hh;obtain⟨d,ed,du⟩:=D.get hu;rw[cQ] at ed;obtain⟨o,eo,rfl⟩:=gn.mp ed;have dv':Den K H' v (aB x):=sb.cell hp9 (dv.mono tA);refine a4w (sb.cell hp9 du) ?_;refine⟨_,rfl,qU dv' ⟨_,rfl,_,rfl,qW dv' ⟨_,rfl,sz rfl,fun t ht=>?_⟩⟩⟩;have st:=Same.put (o:=.tup [V.int (x.1+o.1),V.int (x.2+o.2)]) ht;have d1':Den K (upd H' t (.tup [V.int (x.1+o.1),V.int (x.2+o.2)])) (.ref t) (aB (x.1+o.1,x.2+o.2)):=iK;have tk:offs.take (i+1)=offs.take i++[o]:=by rw[iT,eo];rfl
    have hll:l.length<=8:=by
     rw[Dl.length,aR];refine cX (iQ _ _) ?_;rw[aR,jr];exact Nat.min_le_right _ _
    have out:∀ b:Bool,b=decide (inF h w (x.1+o.1,x.2+o.2))->(((offs.take (i+1)).map fun d=>(x.1+d.1,x.2+d.2)).filter fun y=>decide (inF h w y))=(((offs.take i).map fun d=>(x.1+d.1,x.2+d.2)).filter fun y=>decide (inF h w y))++(if b=true then [(x.1+o.1,x.2+o.2)] else []):=by
     intro b hb;rw[tk,dM,uK,hb];congr 1;by_cases hin:inF h w (x.1+o.1,x.2+o.2)<;>simp[hin]
    refine⟨_,rfl,qU d1' ⟨_,_,rfl,rfl,_,rfl,La (m:=h) (fun _ q=>⟨_,rfl,q⟩) ?_⟩⟩;have a5k:¬inF h w (x.1+o.1,x.2+o.2)->∃ l v4 v5 v6,SameBut p (upd G8 q (.lst [u1,u2,u3,u4,u5,u6,u7,u8])) (upd H' t (.tup [V.int (x.1+o.1),V.int (x.2+o.2)]))/\(upd H' t (.tup [V.int (x.1+o.1),V.int (x.2+o.2)])) p=some (.lst l)/\aU K (upd H' t (.tup [V.int (x.1+o.1),V.int (x.2+o.2)])) l ((((offs.take (i+1)).map fun d=>(x.1+d.1,x.2+d.2)).filter fun y=>decide (inF h w y)).map aB) /\
      [zzI h,zzI w,some v,zzR p,zzI o.1,zzI o.2,zzR t]=[zzI h,zzI w,some v,zzR p,v4,v5,v6]:=fun hn=>by
     refine⟨l,_,_,_,sb.and ht,st _ _ hl,?_,rfl⟩;rw[out false (cG hn).symm];simpa using Dl.mono st
    refine dD (fun h1=>?_) (fun h1=>a5k fun hin=>by rw[bR hin.1] at h1;cases h1);refine⟨_,rfl,qW d1' ⟨_,_,rfl,rfl,_,rfl,La (m:=w) (fun _ q=>⟨_,rfl,q⟩) ?_⟩⟩;refine dD (fun h2=>?_) (fun h2=>a5k fun hin=>by rw[bR hin.2] at h2;cases h2);refine⟨_,rfl,.inl ⟨rfl,_,SqL.of (st _ _ hl)⟩,_,rfl,p,l,_,rfl,rfl,st _ _ hl,ltl (by lia),?_⟩;refine⟨l++[.ref t],_,_,_,(sb.and ht).put,au,?_,rfl⟩;rw[out true (bR ⟨cI h1,cI h2⟩).symm,dM];exact((SameBut.refl p _).put.cells (st _ _ hl) (Dl.mono st)).append (.cons ((SameBut.refl p _).put.cell (st _ _ hl) d1') .nil)
   ·obtain⟨l,v4,v5,v6,sb,hl,Dl,rfl⟩:=hh;exact hR _ _ ⟨v4,v5,v6,⟨sb.of tA np,np,⟨l,hl,Dl⟩⟩,rfl⟩
  rintro zzs H3 ⟨v4,v5,v6,fr,rfl⟩;exact⟨_,rfl,hq p H3 fr⟩
theorem X4{f:Addr}{fd:FuncData} (F:Fun K "_law_sizes" "_law_sizes" rB f fd) (T:Txt K mg Z):cY P w K mg base (CXE P w) 1 f fd ["rows"] (vh K):=by
 refine F.rok Gq (fun vs H Q E h=>?_) (fun cdv A outer s H vs Q E hr h=>?_)
 ·obtain⟨p,zs,w,rfl,_⟩:=h;rfl
 ·obtain⟨p,zs,w,rfl,hS,rc,hq⟩:=h;obtain⟨z,zt,rfl,hz⟩:=rc.head;refine⟨_,(aD (bB (gk (aj (aZ (eZ (K:=K)) rfl T.eG cJ (aj (rv 0) ak)) (aj (aZ (eZ (K:=K)) rfl T.eG cJ (aj (cH (cV (K:=K)) (rv 0) aG) ak)) ak))))),?_⟩;have:=rc.w6;refine⟨_,rfl,.inl ⟨p,_,rfl,.inl hS,_,rfl,.inl ⟨p,_,_,_,rfl,rfl,hS,eF,.inr ⟨z,rfl,small (by lia),sz rfl,fun t ht=>?_⟩⟩⟩⟩;refine hq t _ (Same.put ht) (SqT.of ?_);rw[au,aR,hz]
end
def Yo(K:ao):Sp:=fun vs H Q _=>∃(h w:Int)(p:Addr)(v:V)(st:List Cell)(x:Cell),vs=[.int h,.int w,.ref p,v]/\Den K H (.ref p) (.lst (st.map aB))/\Den K H v (aB x)/\∀ H',Same H H'->Q (.int (xr h w st x)) H'
def T6(K:ao):Sp:=fun vs H Q _=>∃(a:Addr)(ns:List Int)(m:Int),vs=[.ref a,.int m]/\SqL K H a (ns.map V.int)/\1<=m/\m<=6/\∀(t p:Addr)(H':Hp)(h w:Nat)(st:List Cell),Same H H'->H p=none->SqT K H' t [.int h,.int w,.ref p]->Ls K H' p (st.map aB) ->
 1<=h->(h:Int)<=m->1<=w->(w:Int)<=m->st.Sublist (cB h w)->Q (.ref t) H'
section
variable{P:Program}{w:World}{K:ao}{mg:Str->Option Value}{base:Heap}{Z:Adr}
theorem WM{f:Addr}{fd:FuncData} (F:Fun K "_law_cells" "_law_cells" qY f fd) (T:Txt K mg Z):cY P w K mg base (CXE P w) 1 f fd ["rows","signs"] (rD K):=by
 refine F.rok lG (fun vs H Q E h=>?_) (fun cdv A outer s H vs Q E hr h=>?_)
 ·obtain⟨p,zs,w,sg,rfl,_⟩:=h;rfl
 ·obtain⟨p,zs,w,sg,rfl,hS,rc,hq⟩:=h;have hu':=xG hr;have b1:=rc.le;have b2:=rc.w6;refine⟨_,(aA (aW (i:=2) lG.nd rfl (Or.inl rfl) (bZ ak)) (aA (cL eU rfl (fX rfl T.gP (aj (aZ (eZ (K:=K)) rfl T.eG cJ (aj (rv 0) ak)) ak)) (bx (i:=3) lG.nd rfl (Or.inr rfl)) (aD (aW (i:=2) lG.nd rfl (Or.inl rfl) (dw bI (rv 2) (fZ (by rfl) rfl (fX rfl T.gP (aj (aZ (eZ (K:=K)) rfl T.eG cJ (aj (cH (cV (K:=K)) (rv 0) aG) ak)) ak)) (fun _ _ _=>(fB (bF (eV.or (nH (K:=K) hu')) (cH (cV (K:=K)) (cH (cV (K:=K)) (rv 1) (rv 4)) (rv 0)) (rv 2) (by rfl)))) (fun _ _ _=>(gk (aj (rv 4) (aj (rv 0) ak))))))))) (aD (bB (rv 2))))),?_⟩;refine aC (fun zzs H1=>∃ q,Fr K H H1 q []/\zzs=[zzR p,some (.str sg),zzR q,zzN]) (fun R hR=>?_) ?_
  ·exact⟨by decide,fun q hq'=>hR _ _ ⟨q,⟨Same.put hq',hq',.new hq' .nil⟩,rfl⟩⟩
  rintro zzs H1 ⟨q,fr,rfl⟩;refine aC (fun zzs H3=>∃ q v3,Fr K H H3 q ((bH zs w sg).map aB)/\zzs=[zzR p,some (.str sg),zzR q,v3]) (fun R hR=>?_) ?_
  ·refine⟨_,rfl,.inl ⟨p,_,rfl,.inl (fr.same.seq hS),_,rfl,?_⟩⟩;rw[aR];refine⟨by lia,by lia,?_⟩;refine gR (lo:=0) (n:=((zs.length:Nat):Int).toNat) (fun i zzs H'=>∃ q v3,Fr K H H' q ((yV zs w sg i).map aB)/\zzs=[zzR p,some (.str sg),zzR q,v3]) ⟨q,none,fr,rfl⟩ (fun i zzs H' hi hh=>?_) (fun zzs H' hh=>?_)
   ·obtain⟨q,v3,fr,rfl⟩:=hh;have hi':i<zs.length:=by lia
    have S':=fr.same.seq hS;obtain⟨z,zt,ez,hz⟩:=rc.head;refine⟨_,rfl,_,rfl,.inl ⟨p,_,_,_,rfl,rfl,S',(by rw[ez];exact eF),.inr ⟨z,rfl,small (by lia),_,rfl,by lia,by lia,?_⟩⟩⟩;rw[hz,jq];refine dG (K:=K) (xs:=List.range w) (enc:=fun c:Nat=>Dt.int (c:Int)) (tQ w) (aU.nats _) (by rw[jX];exact small (by lia)) (fun c=>inS sg (codeAt zs (i,c))) (fun c:Nat=>aB ((i:Int),(c:Int))) (fun c hc v H2 s2 D G hG=>?_) (fun c hc _ v H2 s2 D G hG=>?_) (fun ys H2 s2 D q2 hq2=>?_)
    ·cases D;rw[fK] at hc;have S2:=s2.seq S';refine⟨_,rfl,_,rfl,?_⟩;rw[rH];exact Ef S2 hi' ⟨_,rfl,xT S2 rc hi' hc ⟨_,rfl,.inl ⟨_,_,rfl,rfl,_,rfl,hG _ (Same.refl _)⟩⟩⟩
    ·cases D;refine⟨_,rfl,_,rfl,sz rfl,fun t ht=>hG _ _ (Same.put ht) ?_⟩;rw[rH];exact iK
    ·have l1:=Oe zs w sg i;have l2:((List.range w).filter fun c=>inS sg (codeAt zs (i,c))).length<=w:=cX (iQ _ _) (by rw[jX];exact bK _);have l3:i*w<=6*6:=lY (by lia) b2;have sq:=Same.put (o:=.lst ys) hq2;refine zH (fr.ls.mono (s2.trans sq)) (Ls.new hq2 D) (by rw[aR,aR];lia) fun r H4 f4=>?_
     refine⟨r,_,⟨fr.same.trans (s2.trans (sq.trans f4.same)),(fr.same.trans (s2.trans sq)).free f4.new,?_⟩,rfl⟩;rw[Ba,dM,jY];exact f4.ls
   ·obtain⟨q,v3,fr,rfl⟩:=hh;rw[jq] at fr;exact hR _ _ ⟨q,v3,fr,rfl⟩
  rintro zzs H3 ⟨q,v3,fr,rfl⟩;exact⟨_,rfl,hq q H3 fr⟩
theorem Uz{f:Addr}{fd:FuncData} (F:Fun K "_law_figure" "_law_figure" oZ f fd) (T:Txt K mg Z) (bW:Df P w K mg base 1 "_law_near" ["height","width","cell"] (wJ K)):cY P w K mg base (CXE P w) 2 f fd ["height","width","stones","cell"] (Yo K):=by
 refine F.rok Eo (fun vs H Q E h=>?_) (fun cdv A outer s H vs Q E hr h=>?_)
 ·obtain⟨h,w,p,v,st,x,rfl,_⟩:=h;rfl
 ·obtain⟨h,w,p,v,st,x,rfl,dp,dv,hq⟩:=h;have hu':=xG hr;refine⟨_,(aD (bB (aZ (eZ (K:=K)) rfl T.eG cJ (aj (fZ (by rfl) rfl (aV (K:=K) (aY bW hr rfl bf (aj (rv 0) (aj (rv 1) (aj (rv 3) ak))))) (fun _ _ _=>(fB (bF (eV.or (nH (K:=K) hu')) (rv 0) (rv 3) (by rfl)))) (fun _ _ _=>(rv 0))) ak)))),?_⟩;refine⟨_,rfl,_,rfl,_,rfl,h,w,v,x,rfl,dv,fun q H1 fr=>?_⟩;obtain⟨xs,eq,D⟩:=fr.ls;refine⟨q,rfl,⟨_,SqL.of eq⟩,dG (K:=K) (xs:=bQ h w x) (enc:=aB) (bJ (SqL.of eq)) D (small (by have:=fW h w x;lia)) (fun y=>decide (y∈st)) aB (fun y hy v H2 s2 d G hG=>?_) (fun y hy _ v H2 s2 d G hG=>⟨_,rfl,hG _ _ (Same.refl _) d⟩) (fun ys H2 s2 D2 q2 hq2=>?_)⟩
  ·exact⟨_,rfl,_,rfl,.inr (vI d (dp.mono (fr.same.trans s2)) ⟨_,rfl,hG _ (Same.refl _)⟩)⟩
  ·refine .inl ⟨q2,_,rfl,.inl (SqL.of au),?_⟩;have e:ys.length=xr h w st x:=by rw[D2.length,aR];rfl
   rw[e];exact hq _ (fr.same.trans (s2.and hq2))
end
section
variable{P:Program}{w:World}{K:ao}{mg:Str->Option Value}{base:Heap}{Z:Adr}
theorem WQ{f:Addr}{fd:FuncData} (F:Fun K "_law_field_by" "_law_field_by" mF f fd) (T:Txt K mg Z) (bG:Df P w K mg base 1 "_law_cell_at" ["script","k"] (zW K)) (bU:Df P w K mg base 1 "_law_mix" ["cell","k","many"] HX) :
  cY P w K mg base (CXE P w) 2 f fd ["script","most"] (T6 K):=by
 refine F.rok eX (fun vs H Q E h=>?_) (fun cdv A outer s H vs Q E hr h=>?_)
 ·obtain⟨a,ns,m,rfl,_⟩:=h;rfl
 ·obtain⟨a,ns,m,rfl,hS,m1,m6,hq⟩:=h;have hu:=lK hr;refine⟨_,(aA (aW (i:=2) eX.nd rfl (Or.inl rfl) (aY bG hr rfl bf (aj (rv 0) (aj aG ak)))) (aA (XS (i:=3) (j:=4) rfl eX.nd rfl rfl (by decide) rfl rfl (aj (dw bI aG (aY bU hr rfl bf (aj (rv 2) (aj aG (aj (rv 1) ak))))) (aj (dw bI aG (aY bU hr rfl bf (aj (rv 2) (aj aG (aj (rv 1) ak))))) ak)) rfl) (aA (aW (i:=5) eX.nd rfl (Or.inl rfl) (cH (cV (K:=K)) (bZ (aj aG (aj aG (aj aG ak)))) (aY bU hr rfl bf (aj (rv 2) (aj aG (aj aG ak)))))) (aA (aW (i:=6) eX.nd rfl (Or.inl rfl) (bZ ak)) (aA (cL eU rfl (fX rfl T.gP (aj (rv 3) ak)) (bx (i:=7) eX.nd rfl (Or.inl rfl)) (aD (cL eU rfl (fX rfl T.gP (aj (rv 4) ak)) (bx (i:=8) eX.nd rfl (Or.inl rfl)) (aD (dR (bF (kE.or (jZ (K:=K) hu)) (aY bU hr rfl bf (aj (aY bG hr rfl bf (aj (rv 0) (aj (dw bI aG (rv 7)) ak))) (aj (rv 8) (aj (rv 5) ak)))) aG (cg _)) (aD (gb (kh (K:=K) jV lU lV dJ (rv 6) (aj (gk (aj (rv 7) (aj (rv 8) ak))) ak)))) bO))))) (aD (bB (gk (aj (rv 3) (aj (rv 4) (aj (rv 6) ak))))))))))),?_⟩;refine aC (fun zzs H1=>∃ c:Int,Same H H1/\zzs=[zzR a,zzI m,zzI c,zzN,zzN,zzN,zzN,zzN,zzN]) (fun R hR=>?_) ?_
  ·exact⟨_,rfl,a,ns,0,rfl,by decide,hS,fun r=>hR _ _ ⟨r,Same.refl _,rfl⟩⟩
  rintro zzs H1 ⟨c,s1,rfl⟩;refine aC (fun zzs H2=>∃ h w:Nat,Same H H2/\(1<=h/\(h:Int)<=m)/\(1<=w/\(w:Int)<=m)/\zzs=[zzR a,zzI m,zzI c,zzI h,zzI w,zzN,zzN,zzN,zzN]) (fun R hR=>?_) ?_
  ·refine⟨_,rfl,_,rfl,_,1,_,rfl,by lia,fun r1 H1 a1 b1 t1=>?_⟩;refine⟨_,rfl,_,rfl,_,2,_,rfl,by lia,fun r2 H2 a2 b2 t2=>?_⟩;refine⟨_,_,rfl,hR _ _ ⟨(1+r1).toNat,(1+r2).toNat,s1.trans (t1.trans t2),by lia,by lia,?_⟩⟩;rw[K1 (by lia),K1 (by lia)];rfl
  rintro zzs H2 ⟨h,w,s2,bh,bw,rfl⟩;refine aC (fun zzs H3=>∃ t:Int,0<t/\Same H H3/\zzs=[zzR a,zzI m,zzI c,zzI h,zzI w,zzI t,zzN,zzN,zzN]) (fun R hR=>?_) ?_
  ·refine⟨sz rfl,fun l hl=>?_⟩;have t1:=Same.put (o:=.lst [V.int 3,V.int 5,V.int 9]) hl;refine⟨_,rfl,_,3,3,rfl,by decide,fun r H3 a3 b3 t3=>?_⟩;obtain⟨v,hv,e⟩:=sX (xs:=([3,5,9]:List Int).map V.int) (i:=r) a3 (by simpa using b3);obtain⟨n,hn,rfl⟩:=cu.mp hv;refine .inl ⟨l,_,_,_,rfl,rfl,SqL.of (t3 _ _ au),e,hR _ _ ⟨n,?_,s2.trans (t1.trans t3),rfl⟩⟩;exact(by decide:∀ x∈([3,5,9]:List Int),0<x) n hn
  rintro zzs H3 ⟨t,ht,s3,rfl⟩;refine aC (fun zzs H4=>∃ p,H p=none/\Same H H4/\H4 p=some (.lst [])/\zzs=[zzR a,zzI m,zzI c,zzI h,zzI w,zzI t,zzR p,zzN,zzN]) (fun R hR=>?_) ?_
  ·exact⟨by decide,fun p hp=>hR _ _ ⟨p,s3.free hp,s3.and hp,au,rfl⟩⟩
  rintro zzs H4 ⟨p,np,s4,hp,rfl⟩;have h6:h<=6:=by lia
  have w6:w<=6:=by lia
  refine aC (fun zzs H5=>∃(st:List Cell)(v7 v8:Option V),Same H H5/\Ls K H5 p (st.map aB)/\st.Sublist (cB h w)/\zzs=[zzR a,zzI m,zzI c,zzI h,zzI w,zzI t,zzR p,v7,v8]) (fun R hR=>?_) ?_
  ·refine⟨_,rfl,_,rfl,by lia,by lia,?_⟩;rw[jq];refine gR (lo:=0) (n:=h) (fun i zzs H'=>∃(st:List Cell)(v7 v8:Option V),Same H H'/\Ls K H' p (st.map aB)/\st.Sublist (cB i w)/\zzs=[zzR a,zzI m,zzI c,zzI h,zzI w,zzI t,zzR p,v7,v8])
    ⟨[],none,none,s4,⟨[],hp,.nil⟩,List.nil_sublist _,rfl⟩ (fun i zzs H' hi hh=>?_) (fun zzs H' hh=>hR _ _ hh)
   obtain⟨st,v7,v8,g1,g2,g3,rfl⟩:=hh;refine⟨_,rfl,_,rfl,by lia,by lia,?_⟩;rw[jq];refine gR (lo:=0) (n:=w) (fun j zzs H'=>∃(st:List Cell)(v8:Option V),Same H H'/\Ls K H' p (st.map aB)/\st.Sublist (cB i w++(List.range j).map fun c:Nat=>((i:Int),(c:Int)))/\zzs=[zzR a,zzI m,zzI c,zzI h,zzI w,zzI t,zzR p,zzI (0+i),v8])
    ⟨st,v8,g1,g2,by simpa using g3,rfl⟩ (fun j zzs H' hj hh=>?_) (fun zzs H' hh=>?_)
   ·obtain⟨st,v8,g1,g2,g3,rfl⟩:=hh;have step:cB i w++(List.range (j+1)).map (fun c:Nat=>((i:Int),(c:Int)))=(cB i w++(List.range j).map fun c:Nat=>((i:Int),(c:Int)))++[((i:Int),(j:Int))]:=by
     rw[vP,dM,<- yr];rfl
    have hl:=g3.length_le;rw[c7,gB,aR,jX] at hl;have hl2:i*w<=6*6:=lY (by lia) w6;refine⟨_,rfl,_,rfl,a,ns,_,rfl,by lia,g1.seq hS,fun r=>?_⟩;refine⟨_,rfl,_,rfl,_,_,_,rfl,ht,fun r2 H6 a6 b6 t6=>.inl ⟨rfl,_,rfl,?_⟩⟩;refine Gn (fun _=>?_) (fun _=>?_)
    ·refine⟨_,rfl,.inl ⟨rfl,_,SqL.of (t6 _ _ g2.choose_spec.1)⟩,?_⟩;obtain⟨xs,ex,D⟩:=g2;refine⟨_,rfl,_,rfl,sz rfl,fun u hu=>?_⟩;have su:=Same.put (o:=.tup [V.int (0+i),V.int (0+j)]) hu;refine⟨p,xs,_,rfl,rfl,su _ _ (t6 _ _ ex),ltl (by rw[D.length,aR];lia),?_⟩;refine⟨st++[((i:Int),(j:Int))],_,?_,⟨xs++[.ref u],au,?_⟩,?_,rfl⟩
     ·exact(SameBut.refl p _).put.of (g1.trans (t6.trans su)) np
     ·rw[dM];refine((SameBut.refl p _).put.cells (su _ _ (t6 _ _ ex)) ((D.mono t6).mono su)).append (.cons ((SameBut.refl p _).put.cell (su _ _ (t6 _ _ ex)) ?_) .nil);rw[rH,rH];exact iK
     ·rw[step];exact g3.append (List.Sublist.refl _)
    ·refine⟨st,_,g1.trans t6,g2.mono t6,?_,rfl⟩;rw[step];exact g3.trans (Zf _ _)
   ·obtain⟨st,v8,g1,g2,g3,rfl⟩:=hh;exact⟨st,_,_,g1,g2,by rw[qK];exact g3,rfl⟩
  rintro zzs H5 ⟨st,v7,v8,g1,g2,g3,rfl⟩;refine⟨_,rfl,_,rfl,_,rfl,sz rfl,fun u hu=>?_⟩;exact hq u p _ h w st (g1.and hu) np (SqT.of au) (g2.mono (Same.put hu)) bh.1 bh.2 bw.1 bw.2 g3
end
def Td(K:ao):Sp:=fun vs H Q _=>∃(h w:Nat)(p q:Addr)(st kn:List Cell),vs=[.int h,.int w,.ref p,.ref q]/\h<=6/\w<=6/\Den K H (.ref p) (.lst (st.map aB))/\Den K H (.ref q) (.lst (kn.map aB)) /\
 ∀ r H',Same H H'->H r=none->H' r=some (.lst ((zV h w st kn).map V.str))->Q (.ref r) H'
def Nu(K:ao):Sp:=fun vs H Q _=>∃(h w:Nat)(p q:Addr)(v:V)(st kn:List Cell)(x:Cell),vs=[.int h,.int w,.ref p,.ref q,v]/\h<=6/\w<=6/\Den K H (.ref p) (.lst (st.map aB))/\Den K H (.ref q) (.lst (kn.map aB))/\Den K H v (aB x)/\inF h w x /\
 ∀ r H' (cs:List Cell),Fr K H H' r (cs.map aB)->cs.Nodup->(∀ y,y∈cs↔Reach h w st kn x y)->Q (.ref r) H'
section
variable{P:Program}{w:World}{K:ao}{mg:Str->Option Value}{base:Heap}{Z:Adr}
theorem X3{f:Addr}{fd:FuncData} (F:Fun K "_law_shown" "_law_shown" rA f fd) (T:Txt K mg Z) (iU:Df P w K mg base 2 "_law_figure" ["height","width","stones","cell"] (Yo K)):cY P w K mg base (CXE P w) 3 f fd ["height","width","stones","known"] (Td K):=by
 refine F.rok iY (fun vs H Q E h=>?_) (fun cdv A outer s H vs Q E hr h=>?_)
 ·obtain⟨h,w,p,q,st,kn,rfl,_⟩:=h;rfl
 ·obtain⟨h,w,p,q,st,kn,rfl,h6,w6,dp,dq,hq⟩:=h;have hu':=xG hr;refine⟨_,(aA (aW (i:=4) iY.nd rfl (Or.inl rfl) (bZ ak)) (aA (cL eU rfl (fX rfl T.gP (aj (rv 0) ak)) (bx (i:=5) iY.nd rfl (Or.inl rfl)) (aA (aW (i:=6) iY.nd rfl (Or.inl rfl) dX) (aA (cL eU rfl (fX rfl T.gP (aj (rv 1) ak)) (bx (i:=7) iY.nd rfl (Or.inl rfl)) (aD (aW (i:=6) iY.nd rfl (Or.inl rfl) (dw bI (rv 6) (cH (cV (K:=K)) (bZ (aj dX (aj (jN IV rfl T.a2b a2F (aj (aY iU hr rfl bf (aj (rv 0) (aj (rv 1) (aj (rv 2) (aj (gk (aj (rv 5) (aj (rv 7) ak))) ak))))) ak)) ak))) (jN yS rfl T.Gu CG (aj (xQ (eV.or (nH (K:=K) hu')) (gk (aj (rv 5) (aj (rv 7) ak))) (rv 3) (by rfl)) ak))))))) (aD (gb (kh (K:=K) jV lU lV dJ (rv 4) (aj (rv 6) ak))))))) (aD (bB (rv 4))))),?_⟩;refine aC (fun zzs H1=>∃ l,H l=none/\Same H H1/\H1 l=some (.lst [])/\zzs=[zzI h,zzI w,zzR p,zzR q,zzR l,zzN,zzN,zzN]) (fun R hR=>?_) ?_
  ·exact⟨by decide,fun l hl=>hR _ _ ⟨l,hl,Same.put hl,au,rfl⟩⟩
  rintro zzs H1 ⟨l,nl,s1,hl,rfl⟩;refine aC (fun zzs H2=>∃(v5 v6 v7:Option V),Same H H2/\H2 l=some (.lst ((zV h w st kn).map V.str))/\zzs=[zzI h,zzI w,zzR p,zzR q,zzR l,v5,v6,v7]) (fun R hR=>?_) ?_
  ·refine⟨_,rfl,_,rfl,by lia,by lia,?_⟩;rw[jq];refine gR (lo:=0) (n:=h) (fun i zzs H'=>∃(v5 v6 v7:Option V),Same H H'/\H' l=some (.lst (((List.range i).map fun r:Nat=>vB h w st kn (r:Int) w).map V.str))/\zzs=[zzI h,zzI w,zzR p,zzR q,zzR l,v5,v6,v7])
    ⟨none,none,none,s1,hl,rfl⟩ (fun i zzs H' hi hh=>?_) (fun zzs H' hh=>hR _ _ hh)
   obtain⟨v5,v6,v7,g1,g2,rfl⟩:=hh;refine aC (fun zzs H3=>Same H H3/\H3 l=some (.lst (((List.range i).map fun r:Nat=>vB h w st kn (r:Int) w).map V.str))/\zzs=[zzI h,zzI w,zzR p,zzR q,zzR l,zzI (0+i),some (.str ""),v7]) (fun R' hR'=>hR' _ _ ⟨g1,g2,rfl⟩) ?_;rintro zzs H3 ⟨k1,k2,rfl⟩;refine aC (fun zzs H4=>∃ v7:Option V,Same H H4/\H4 l=some (.lst (((List.range i).map fun r:Nat=>vB h w st kn (r:Int) w).map V.str))/\zzs=[zzI h,zzI w,zzR p,zzR q,zzR l,zzI (0+i),some (.str (vB h w st kn i w)),v7]) (fun R' hR'=>?_) ?_
   ·refine⟨_,rfl,_,rfl,by lia,by lia,?_⟩;rw[jq];refine gR (lo:=0) (n:=w) (fun j zzs H'=>∃ v7:Option V,Same H H'/\H' l=some (.lst (((List.range i).map fun r:Nat=>vB h w st kn (r:Int) w).map V.str))/\zzs=[zzI h,zzI w,zzR p,zzR q,zzR l,zzI (0+i),some (.str (vB h w st kn i j)),v7])
     ⟨v7,k1,k2,rfl⟩ (fun j zzs H' hj hh=>?_) (fun zzs H' hh=>hR' _ _ hh)
    obtain⟨v7,m1,m2,rfl⟩:=hh;have fl:=RD h w st (0+(i:Int),0+(j:Int));refine⟨_,rfl,_,rfl,_,rfl,_,rfl,_,rfl,_,rfl,sz rfl,fun t ht=>?_⟩;have st1:=Same.put (o:=.tup [V.int (0+i),V.int (0+j)]) ht;refine⟨h,w,p,_,st,(0+(i:Int),0+(j:Int)),rfl,dp.mono (m1.trans st1),iK,fun H5 s5=>?_⟩;refine⟨_,rfl,a0d _ fl,sz rfl,fun u hu=>?_⟩;have s6:=Same.put (o:=.lst [V.str "#",V.str (Str.ofString (toString ((xr h w st (0+(i:Int),0+(j:Int)):Nat):Int)))]) hu;refine⟨_,rfl,_,rfl,sz rfl,fun t2 ht2=>?_⟩;have s7:=Same.put (o:=.tup [V.int (0+i),V.int (0+j)]) ht2;have sA:=st1.trans (s5.trans (s6.trans s7));refine⟨_,rfl,.inr (vI iK (dq.mono (m1.trans sA)) (.inr ⟨_,rfl,?_⟩))⟩;have e0:((0:Int)+(i:Int),(0:Int)+(j:Int))=((i:Int),(j:Int)):=by rw[rH,rH]
    have fin:∀ z:Str,z=⟨#[Qc h w st kn (0+(i:Int),0+(j:Int))]⟩->MK (.str (vB h w st kn i j)) (.str z) (upd (upd H5 u (.lst [V.str "#",V.str (Str.ofString (toString ((xr h w st (0+(i:Int),0+(j:Int)):Nat):Int)))])) t2 (.tup [V.int (0+i),V.int (0+j)]))
      (fun x H1=>∃ v7:Option V,Same H H1/\H1 l=some (.lst (((List.range i).map fun r:Nat=>vB h w st kn (r:Int) w).map V.str))/\([zzI h,zzI w,zzR p,zzR q,zzR l,zzI (0+i),some (.str (vB h w st kn i j)),zzI (0+j)]:L2.St).set 6 (some x)=[zzI h,zzI w,zzR p,zzR q,zzR l,zzI (0+i),some (.str (vB h w st kn i (j+1))),v7]):=by
     intro z hz;subst hz;refine⟨?_,some (.int (0+(j:Int))),m1.trans sA,sA _ _ m2,?_⟩
     ·rw[SQ];exact small (by show j+1<=10000;lia)
     ·rw[XQ,<- e0];rfl
    have ed:=dig _ fl;by_cases hk:(0+(i:Int),0+(j:Int))∈kn
    ·rw[bR hk];exact .inl ⟨u,_,_,_,rfl,rfl,SqL.of (s7 _ _ au),fP (j:=1) rfl,fin _ (by rw[ed];unfold Qc;rw[aK hk])⟩
    ·rw[cG hk];exact .inl ⟨u,_,_,_,rfl,rfl,SqL.of (s7 _ _ au),eF,fin _ (by unfold Qc;rw[aH hk];decide)⟩
   rintro zzs H4 ⟨v7,m1,m2,rfl⟩;refine⟨_,rfl,.inl ⟨rfl,_,SqL.of m2⟩,_,rfl,l,_,_,rfl,rfl,m2,ltl (by rw[aR,aR,jX];lia),?_⟩;refine⟨_,_,_,(SameBut.refl l _).put.of m1 nl,?_,rfl⟩;rw[au,vP,dM,dM];rfl
  rintro zzs H2 ⟨v5,v6,v7,g1,g2,rfl⟩;exact⟨_,rfl,hq l H2 g1 nl g2⟩
end
def Nx(K:ao):Sp:=fun vs H Q _=>∃(a:Addr)(ns:List Int)(m k:Int),vs=[.ref a,.int m,.int k]/\SqL K H a (ns.map V.int)/\1<=m/\m<=6/\1<=k/\k<=10 /\
 ∀(t r p:Addr)(H':Hp)(h w:Nat)(st kn:List Cell),Same H H'->H r=none->H p=none->SqT K H' t [.ref r,.ref p]->H' r=some (.lst ((zV h w st kn).map V.str))->Ls K H' p (st.map aB) ->
  1<=h->(h:Int)<=m->1<=w->(w:Int)<=m->st.Sublist (cB h w)->kn.Nodup->(∀ x∈kn,inF h w x/\x∉st)->Q (.ref t) H'
section
variable{P:Program}{w:World}{K:ao}{mg:Str->Option Value}{base:Heap}{Z:Adr}
theorem UL{f:Addr}{fd:FuncData} (F:Fun K "_law_opened" "_law_opened" pq f fd) (T:Txt K mg Z) (bW:Df P w K mg base 1 "_law_near" ["height","width","cell"] (wJ K)) (iU:Df P w K mg base 2 "_law_figure" ["height","width","stones","cell"] (Yo K)) :
  cY P w K mg base (CXE P w) 3 f fd ["height","width","stones","known","cell"] (Nu K):=by
 refine F.rok jd (fun vs H Q E h=>?_) (fun cdv A outer s H vs Q E hr h=>?_)
 ·obtain⟨h,w,p,q,v,st,kn,x,rfl,_⟩:=h;rfl
 ·obtain⟨h,w,p,q,v,st,kn,x,rfl,h6,w6,dp,dq,dv,hx,hq⟩:=h;have hu:=lK hr;have hu':=xG hr;refine⟨_,(aA (aW (i:=5) jd.nd rfl (Or.inr rfl) (bZ (aj (rv 4) ak))) (aA (aW (i:=6) jd.nd rfl (Or.inl rfl) aG) (aA (Ni eU (bF HB (rv 6) (aZ (eZ (K:=K)) rfl T.eG cJ (aj (rv 5) ak)) (cg _)) (aA (dR (bF (kE.or (jZ (K:=K) hu)) (aY iU hr rfl bf (aj (rv 0) (aj (rv 1) (aj (rv 2) (aj (cH (cV (K:=K)) (rv 5) (rv 6)) ak))))) aG (cg _)) (aD (aW (i:=5) jd.nd rfl (Or.inr rfl) (dw bI (rv 5) (fZ (by rfl) rfl (aV (K:=K) (aY bW hr rfl bf (aj (rv 0) (aj (rv 1) (aj (cH (cV (K:=K)) (rv 5) (rv 6)) ak))))) (fun _ _ _=>(fB (Ej (wA (bF (gF.or (lM (K:=K) hu')) (rv 0) (rv 4) (by rfl)) (qT (bF (gF.or (lM (K:=K) hu')) (rv 0) (rv 6) (by rfl))))))) (fun _ _ _=>(rv 0)))))) bO) (aD (aW (i:=6) jd.nd rfl (Or.inl rfl) (dw bI (rv 6) aG))))) (aD (bB (rv 5)))))),?_⟩;refine aC (fun zzs H1=>∃ l,Fr K H H1 l ([x].map aB)/\zzs=[zzI h,zzI w,zzR p,zzR q,some v,zzR l,zzN]) (fun R hR=>?_) ?_
  ·exact⟨_,rfl,sz rfl,fun l hl=>hR _ _ ⟨l,⟨Same.put hl,hl,.new hl (.cons dv .nil)⟩,rfl⟩⟩
  rintro zzs H1 ⟨l,fr,rfl⟩;refine aC (fun zzs H2=>Same H1 H2/\zzs=[zzI h,zzI w,zzR p,zzR q,some v,zzR l,zzI 0]) (fun R hR=>hR _ _ ⟨Same.refl _,rfl⟩) ?_;rintro zzs H2 ⟨s2,rfl⟩;refine aC (fun zzs H3=>∃(l:Addr)(cs:List Cell)(v6:Option V),Fr K H H3 l (cs.map aB)/\oK h w st kn x cs cs.length/\zzs=[zzI h,zzI w,zzR p,zzR q,some v,zzR l,v6]) (fun R hR=>?_) ?_
  ·refine⟨fun m zzs H'=>∃(l:Addr)(cs:List Cell)(n:Nat),Fr K H H' l (cs.map aB)/\oK h w st kn x cs n/\m=36-n/\zzs=[zzI h,zzI w,zzR p,zzR q,some v,zzR l,zzI n],
    ⟨36,l,[x],0,⟨fr.same.trans s2,fr.new,fr.ls.mono s2⟩,⟨by simp,dB.mpr rfl,fun y hy=>by rw[dB.mp hy];exact .base,j7 _,fun i y hi=>absurd hi (Kf _)⟩,rfl,rfl⟩,?_⟩
   rintro m zzs H' ⟨l,cs,n,fr,o,rfl,rfl⟩;obtain⟨xs,ex,D⟩:=id fr.ls;have lx:xs.length=cs.length:=by rw[D.length,aR]
   have c36:=o.len hx h6 w6;refine⟨_,rfl,_,rfl,.inl ⟨l,_,rfl,.inl (SqL.of ex),_,_,rfl,rfl,_,rfl,?_⟩⟩;rw[lx];refine Gn (fun hlt=>?_) (fun hlt=>?_)
   ·have hn:n<cs.length:=by have:=cI hlt;lia
    have ec:cs[n]?=some cs[n]:=by simp[hn]
    have exn:xs[n]?=some xs[n]:=by simp[hn,lx]
    have dn:Den K H' xs[n] (aB cs[n]):=by
     obtain⟨d,ed,dd⟩:=D.get exn;rw[cQ,ec] at ed;cases ed;exact dd
    refine⟨fun bT H2=>∃(l:Addr)(cs:List Cell),Fr K H H2 l (cs.map aB)/\oK h w st kn x cs (n+1)/\bT=[zzI h,zzI w,zzR p,zzR q,some v,zzR l,zzI ((n+1:Nat):Int)],fun bT H2 hh=>?_,?_⟩
    ·obtain⟨l,cs,fr,o,rfl⟩:=hh;exact⟨36-(n+1),by lia,l,cs,n+1,fr,o,rfl,rfl⟩
    refine aC (fun zzs H3=>∃(l:Addr)(cs:List Cell),Fr K H H3 l (cs.map aB)/\oK h w st kn x cs (n+1)/\zzs=[zzI h,zzI w,zzR p,zzR q,some v,zzR l,zzI n]) (fun R' hR'=>?_) ?_
    ·refine⟨_,rfl,_,rfl,_,rfl,_,rfl,_,rfl,.inl ⟨l,_,_,_,rfl,rfl,SqL.of ex,fP exn,?_⟩⟩;refine⟨h,w,p,_,st,cs[n],rfl,dp.mono fr.same,dn,fun H3 s3=>.inl ⟨rfl,_,rfl,?_⟩⟩;rw[Bc];refine Gn (fun hz=>?_) (fun hz=>?_)
     ·have fz:xr h w st cs[n]=0:=by have:=cI hz;lia
      refine⟨_,rfl,_,rfl,_,rfl,_,rfl,_,rfl,.inl ⟨l,_,_,_,rfl,rfl,SqL.of (s3 _ _ ex),fP exn,?_⟩⟩;refine⟨h,w,_,cs[n],rfl,dn.mono s3,fun q4 H4 f4=>?_⟩;obtain⟨ys,ey,Dy⟩:=f4.ls;have sA:=fr.same.trans (s3.trans f4.same);refine⟨q4,rfl,⟨_,SqL.of ey⟩,dG (K:=K) (xs:=bQ h w cs[n]) (enc:=aB) (bJ (SqL.of ey)) Dy (small (by have:=fW h w cs[n];lia)) (fun y=>!decide (y∈kn)&&!decide (y∈cs)) aB (fun y hy u H5 s5 d G hG=>?_) (fun y hy _ u H5 s5 d G hG=>⟨_,rfl,hG _ _ (Same.refl _) d⟩) (fun us H5 s5 D5 q5 hq5=>?_)⟩
      ·have dk:=dq.mono (sA.trans s5);have dl:=(fr.ls.mono (s3.trans (f4.same.trans s5))).den;have hg:=hG H5 (Same.refl _);refine⟨_,rfl,_,rfl,.inr (nP d dk ⟨_,rfl,?_⟩)⟩;by_cases hk:y∈kn
       ·rw[bR hk] at hg ⊢;exact qN hg
       ·rw[cG hk] at hg ⊢;refine zj ⟨_,rfl,_,rfl,.inr (nP d dl ⟨_,rfl,?_⟩)⟩;exact hg
      ·have s6:=Same.put (o:=.lst us) hq5;have nl:((bQ h w cs[n]).filter fun y=>!decide (y∈kn)&&!decide (y∈cs)).length<=8:=cX (iQ _ _) (fW h w cs[n]);refine zH (fr.ls.mono (s3.trans (f4.same.trans (s5.trans s6)))) (Ls.new hq5 D5) (by rw[aR,aR];lia) fun r H6 f6=>hR' _ _ ⟨r,_,⟨sA.trans (s5.trans (s6.trans f6.same)),(sA.trans (s5.trans s6)).free f6.new,?_⟩,o.grow ec fz,rfl⟩
       rw[dM];exact f6.ls
     ·have fz:xr h w st cs[n]≠0:=fun e=>hz (bR (by rw[e];rfl))
      exact hR' _ _ ⟨l,cs,⟨fr.same.trans s3,fr.new,fr.ls.mono s3⟩,o.skip ec fz,rfl⟩
    rintro zzs H3 ⟨l,cs,fr,o,rfl⟩;exact⟨_,rfl,l,cs,fr,o,rfl⟩
   ·have hn:n=cs.length:=by
     have h1:=o.le;have h2:¬((n:Int)<(cs.length:Int)):=fun z=>hlt (bR z)
     lia
    subst hn;exact hR _ _ ⟨l,cs,_,fr,o,rfl⟩
  rintro zzs H3 ⟨l,cs,v6,fr,o,rfl⟩;exact⟨_,rfl,hq l H3 cs fr o.nd o.done⟩
end
section
variable{P:Program}{w:World}{K:ao}{mg:Str->Option Value}{base:Heap}{Z:Adr}
def tK(w:Nat)(st:List Cell)(n:Nat):List Cell:=(cB n w).filter fun y=>!decide (y∈st)
theorem Ow(w:Nat)(st:List Cell)(n:Nat):tK w st (n+1)=tK w st n++((List.range w).filter fun c:Nat=>!decide (((n:Int),(c:Int))∈st)).map fun c:Nat=>((n:Int),(c:Int)):=by
 unfold tK;rw[qK,uK,List.filter_map];rfl
theorem Hq(w:Nat)(st:List Cell)(n:Nat):(tK w st n).length<=n*w:=by
 unfold tK;exact cX (iQ _ _) (by rw[gB];exact bK _)
theorem V0{f:Addr}{fd:FuncData} (F:Fun K "_law_view_by" "_law_view_by" nY f fd) (T:Txt K mg Z) (bG:Df P w K mg base 1 "_law_cell_at" ["script","k"] (zW K)) (bU:Df P w K mg base 1 "_law_mix" ["cell","k","many"] HX)
  (m8:Df P w K mg base 2 "_law_field_by" ["script","most"] (T6 K)) (oY:Df P w K mg base 3 "_law_opened" ["height","width","stones","known","cell"] (Nu K)) (qx:Df P w K mg base 3 "_law_shown" ["height","width","stones","known"] (Td K)) :
  cY P w K mg base (CXE P w) 4 f fd ["script","most","steps"] (Nx K):=by
 refine F.rok bY (fun vs H Q E h=>?_) (fun cdv A outer s H vs Q E hr h=>?_)
 ·obtain⟨a,ns,m,k,rfl,_⟩:=h;rfl
 ·obtain⟨a,ns,m,k,rfl,hS,m1,m6,k1,k10,hq⟩:=h;have hu:=lK hr;have hu':=xG hr;refine⟨_,(aA (mz (aY m8 hr rfl bf (aj (rv 0) (aj (rv 1) ak))) (nQ rfl (cP (bx (i:=3) bY.nd rfl (Or.inl rfl)) (cP (bx (i:=4) bY.nd rfl (Or.inl rfl)) (cP (bx (i:=5) bY.nd rfl (Or.inr rfl)) jO))))) (aA (aW (i:=6) bY.nd rfl (Or.inr rfl) (bZ ak)) (aA (aW (i:=7) bY.nd rfl (Or.inl rfl) (bZ ak)) (aA (cL eU rfl (fX rfl T.gP (aj (rv 3) ak)) (bx (i:=8) bY.nd rfl (Or.inr rfl)) (aD (aW (i:=7) bY.nd rfl (Or.inl rfl) (dw bI (rv 7) (fZ (by rfl) rfl (fX rfl T.gP (aj (rv 4) ak)) (fun _ _ _=>(fB (bF (gF.or (lM (K:=K) hu')) (gk (aj (rv 9) (aj (rv 0) ak))) (rv 6) (by rfl)))) (fun _ _ _=>(gk (aj (rv 9) (aj (rv 0) ak))))))))) (aA (cL eU rfl (fX rfl T.gP (aj (dw nM (aY bG hr rfl bf (aj (rv 0) (aj aG ak))) (rv 2)) ak)) (bx (i:=9) bY.nd rfl (Or.inl rfl)) (aA (oR (i:=10) bY.nd rfl rfl (by rfl) rfl (aV (K:=K) (rv 7)) (fun _ _ _=>(fB (bF (gF.or (lM (K:=K) hu')) (rv 0) (rv 7) (by rfl)))) (fun _ _ _=>(rv 0))) (aD (dR (bF Bj (aZ (eZ (K:=K)) rfl T.eG cJ (aj (rv 10) ak)) aG (cg _)) (aA (aW (i:=11) bY.nd rfl (Or.inl rfl) (cH (cV (K:=K)) (rv 10) (aY bU hr rfl bf (aj (aY bG hr rfl bf (aj (rv 0) (aj (dw bI aG (rv 9)) ak))) (aj (rv 9) (aj (aZ (eZ (K:=K)) rfl T.eG cJ (aj (rv 10) ak)) ak)))))) (aD (aW (i:=6) bY.nd rfl (Or.inr rfl) (dw bI (rv 6) (aY oY hr rfl bf (aj (rv 3) (aj (rv 4) (aj (rv 5) (aj (rv 6) (aj (rv 11) ak)))))))))) bO)))) (aD (bB (gk (aj (aY qx hr rfl bf (aj (rv 3) (aj (rv 4) (aj (rv 5) (aj (rv 6) ak))))) (aj (rv 5) ak)))))))))),?_⟩;refine aC (fun zzs H1=>∃(p:Addr)(h w:Nat)(st:List Cell),Same H H1/\H p=none/\Ls K H1 p (st.map aB)/\(1<=h/\(h:Int)<=m)/\(1<=w/\(w:Int)<=m)/\st.Sublist (cB h w) /\
   zzs=[zzR a,zzI m,zzI k,zzI h,zzI w,zzR p,zzN,zzN,zzN,zzN,zzN,zzN]) (fun R hR=>?_) ?_
  ·exact⟨_,rfl,_,rfl,a,ns,m,rfl,hS,m1,m6,fun t p H' h w st s' np hT lp a1 a2 a3 a4 a5=>⟨t,_,rfl,hT,rfl,_,_,rfl,_,_,rfl,_,_,rfl,rfl,hR _ _ ⟨p,h,w,st,s',np,lp,⟨a1,a2⟩,⟨a3,a4⟩,a5,rfl⟩⟩⟩
  rintro zzs H1 ⟨p,h,w,st,s1,np,lp,bh,bw,sub,rfl⟩;have h6:h<=6:=by lia
  have w6:w<=6:=by lia
  have a7m:h*w<=6*6:=lY h6 w6;refine aC (fun zzs H2=>∃ l,Fr K H1 H2 l []/\zzs=[zzR a,zzI m,zzI k,zzI h,zzI w,zzR p,zzR l,zzN,zzN,zzN,zzN,zzN]) (fun R hR=>?_) ?_
  ·exact⟨by decide,fun l hl=>hR _ _ ⟨l,⟨Same.put hl,hl,.new hl .nil⟩,rfl⟩⟩
  rintro zzs H2 ⟨l,fl,rfl⟩;refine aC (fun zzs H3=>∃ e,Same H2 H3/\Ls K H3 e []/\zzs=[zzR a,zzI m,zzI k,zzI h,zzI w,zzR p,zzR l,zzR e,zzN,zzN,zzN,zzN]) (fun R hR=>?_) ?_
  ·exact⟨by decide,fun e he=>hR _ _ ⟨e,Same.put he,.new he .nil,rfl⟩⟩
  rintro zzs H3 ⟨e,s3,le,rfl⟩;refine aC (fun zzs H4=>∃(e:Addr)(v8:Option V),Same H2 H4/\Ls K H4 e ((tK w st h).map aB)/\zzs=[zzR a,zzI m,zzI k,zzI h,zzI w,zzR p,zzR l,zzR e,v8,zzN,zzN,zzN]) (fun R hR=>?_) ?_
  ·refine⟨_,rfl,_,rfl,by lia,by lia,?_⟩;rw[jq];refine gR (lo:=0) (n:=h) (fun i zzs H4=>∃(e:Addr)(v8:Option V),Same H2 H4/\Ls K H4 e ((tK w st i).map aB)/\zzs=[zzR a,zzI m,zzI k,zzI h,zzI w,zzR p,zzR l,zzR e,v8,zzN,zzN,zzN]) ⟨e,none,s3,le,rfl⟩ (fun i zzs H4 hi hh=>?_) (fun zzs H4 hh=>hR _ _ hh);obtain⟨e,v8,g1,g2,rfl⟩:=hh;refine⟨_,rfl,_,rfl,_,rfl,by lia,by lia,?_⟩;rw[jq];have e0:∀ c:Nat,((0:Int)+(i:Int),(c:Int))=((i:Int),(c:Int)):=fun c=>by rw[rH]
   refine dG (K:=K) (xs:=List.range w) (enc:=fun c:Nat=>Dt.int (c:Int)) (tQ w) (aU.nats _) (by rw[jX];exact small (by lia)) (fun c:Nat=>!decide (((i:Int),(c:Int))∈st)) (fun c:Nat=>aB ((i:Int),(c:Int))) (fun c hc v H5 s5 D G hG=>?_) (fun c hc _ v H5 s5 D G hG=>?_) (fun ys H5 s5 D q5 hq5=>?_)
   ·cases D;refine⟨_,rfl,_,rfl,sz rfl,fun t ht=>⟨_,rfl,.inr (nP iK (lp.mono (fl.same.trans (g1.trans (s5.and ht)))).den ⟨_,rfl,?_⟩)⟩⟩;rw[e0];exact hG _ (Same.put ht)
   ·cases D;refine⟨_,rfl,_,rfl,sz rfl,fun t ht=>hG _ _ (Same.put ht) ?_⟩;rw[<- e0];exact iK
   ·have l1:=Hq w st i;have l2:((List.range w).filter fun c:Nat=>!decide (((i:Int),(c:Int))∈st)).length<=w:=cX (iQ _ _) (by rw[jX];exact bK _);have l3:i*w<=6*6:=lY (by lia) w6;have sq:=Same.put (o:=.lst ys) hq5;refine zH (g2.mono (s5.trans sq)) (Ls.new hq5 D) (by rw[aR,aR];lia) fun r H6 f6=>⟨r,_,g1.trans (s5.trans (sq.trans f6.same)),?_,rfl⟩
    rw[Ow,dM,jY];exact f6.ls
  rintro zzs H4 ⟨e,v8,s4,le4,rfl⟩;refine aC (fun zzs H5=>∃(l:Addr)(kn:List Cell)(v9 v10 v11:Option V),Same H1 H5/\Ls K H5 l (kn.map aB)/\kn.Nodup/\(∀ x∈kn,inF h w x/\x∉st)/\zzs=[zzR a,zzI m,zzI k,zzI h,zzI w,zzR p,zzR l,zzR e,v8,v9,v10,v11]) (fun R hR=>?_) ?_
  ·refine⟨_,rfl,a,ns,10,rfl,by decide,(s1.trans (fl.same.trans s4)).seq hS,fun r=>⟨_,rfl,_,_,rfl,rfl,(by lia),?_⟩⟩;have r0:0<=r%k:=Ao _ (by lia);have r1:r%k<k:=Ad _ (by lia);refine⟨_,rfl,by lia,by lia,?_⟩;refine gR (lo:=0) (n:=(r%k).toNat) (fun i zzs H5=>∃(l:Addr)(kn:List Cell)(v9 v10 v11:Option V),Same H4 H5/\Ls K H5 l (kn.map aB)/\kn.Nodup/\(∀ x∈kn,inF h w x/\x∉st)/\zzs=[zzR a,zzI m,zzI k,zzI h,zzI w,zzR p,zzR l,zzR e,v8,v9,v10,v11])
    ⟨l,[],none,none,none,Same.refl _,fl.ls.mono s4,Av,(by intro x hx;cases hx),rfl⟩ (fun i zzs H5 hi hh=>?_) (fun zzs H5 hh=>?_)
   ·obtain⟨l,kn,v9,v10,v11,g1,g2,nd,g3,rfl⟩:=hh;have a7n:kn.length<=36:=by
     have:=lO (l2:=cB h w) nd fun y hy=>dI.mpr (g3 y hy).1
     rw[gB] at this;lia
    have le5:=le4.mono g1;obtain⟨xs,ex,De⟩:=id le5;refine aC (fun zzs H6=>∃ q,Same H5 H6/\Ls K H6 q (((tK w st h).filter fun y=>!decide (y∈kn)).map aB)/\zzs=[zzR a,zzI m,zzI k,zzI h,zzI w,zzR p,zzR l,zzR e,v8,zzI (0+i),zzR q,v11]) (fun R' hR'=>?_) ?_
    ·refine⟨_,rfl,e,rfl,⟨_,SqL.of ex⟩,dG (K:=K) (xs:=tK w st h) (enc:=aB) (bJ (SqL.of ex)) De (small (by have:=Hq w st h;lia)) (fun y=>!decide (y∈kn)) aB (fun y hy u H6 s6 d G hG=>?_) (fun y hy _ u H6 s6 d G hG=>⟨_,rfl,hG _ _ (Same.refl _) d⟩) (fun us H6 s6 D6 q6 hq6=>?_)⟩
     ·exact⟨_,rfl,_,rfl,.inr (nP d (g2.mono s6).den ⟨_,rfl,hG _ (Same.refl _)⟩)⟩
     ·exact hR' _ _ ⟨q6,s6.and hq6,.new hq6 D6,rfl⟩
    rintro zzs H6 ⟨q,s6,lq,rfl⟩;obtain⟨ys,ey,Dy⟩:=id lq;have ly:ys.length=((tK w st h).filter fun y=>!decide (y∈kn)).length:=by rw[Dy.length,aR]
    refine⟨_,rfl,.inl ⟨q,_,rfl,.inl (SqL.of ey),_,_,rfl,rfl,_,rfl,?_⟩⟩;refine Gn (fun hpos=>?_) (fun _=>?_)
    ·have hp':0<ys.length:=by have:=cI hpos;lia
     refine aC (fun zzs H7=>∃(u:V)(x:Cell),Same H6 H7/\Den K H7 u (aB x)/\x∈((tK w st h).filter fun y=>!decide (y∈kn))/\zzs=[zzR a,zzI m,zzI k,zzI h,zzI w,zzR p,zzR l,zzR e,v8,zzI (0+i),zzR q,some u]) (fun R' hR'=>?_) ?_
     ·refine⟨_,rfl,_,rfl,_,rfl,a,ns,_,rfl,by lia,(s1.trans (fl.same.trans (s4.trans (g1.trans s6)))).seq hS,fun r2=>?_⟩;refine⟨_,rfl,_,rfl,.inl ⟨q,_,rfl,.inl (SqL.of ey),_,_,_,rfl,by lia,fun r3 H7 a7 b7 s7=>?_⟩⟩;obtain⟨n,rfl⟩:=Qo a7;have hn:n<ys.length:=by lia
      have eyn:ys[n]?=some ys[n]:=by simp[hn]
      obtain⟨d,ed,dd⟩:=Dy.get eyn;rw[cQ] at ed;obtain⟨x,hx,rfl⟩:=gn.mp ed;exact .inl ⟨q,_,_,_,rfl,rfl,SqL.of (s7 _ _ ey),fP eyn,hR' _ _ ⟨_,x,s7,dd.mono s7,fJ hx,rfl⟩⟩
     rintro zzs H7 ⟨u,x,s7,du,hx,rfl⟩;obtain⟨hx1,hx2⟩:=cC.mp hx;have hxk:x∉kn:=by simpa using hx2
     obtain⟨hx3,hx4⟩:=cC.mp hx1;have hxs:x∉st:=by simpa using hx4
     have hxf:inF h w x:=dI.mp hx3;refine⟨_,rfl,_,rfl,_,rfl,_,rfl,_,rfl,_,rfl,?_⟩;refine⟨h,w,p,l,u,st,kn,x,rfl,h6,w6,(lp.mono (fl.same.trans (s4.trans (g1.trans (s6.trans s7))))).den,(g2.mono (s6.trans s7)).den,du,hxf,fun r8 H8 cs f8 nd8 a0l=>?_⟩;have a7h:cs.length<=36:=by
      have:=lO (l2:=cB h w) nd8 fun y hy=>dI.mpr (((a0l y).mp hy).inF hxf)
      rw[gB] at this;lia
     refine zH (g2.mono (s6.trans (s7.trans f8.same))) f8.ls (by rw[aR,aR];lia) fun r9 H9 f9=>?_
     refine⟨r9,kn++cs,_,_,_,g1.trans (s6.trans (s7.trans (f8.same.trans f9.same))),by rw[dM];exact f9.ls,?_,fun y hy=>?_,rfl⟩
     ·refine yt.mpr ⟨nd,nd8,fun y hy z hz e=>?_⟩;rw[<- e] at hz;exact((a0l y).mp hz).new hxk hy
     ·rcases cR.mp hy with z|z
      ·exact g3 y z
      ·exact⟨((a0l y).mp z).inF hxf,((a0l y).mp z).free hxs⟩
    ·exact⟨l,kn,_,_,_,g1.trans s6,g2.mono s6,nd,g3,rfl⟩
   ·obtain⟨l,kn,v9,v10,v11,g1,g2,nd,g3,rfl⟩:=hh;exact hR _ _ ⟨l,kn,v9,v10,v11,fl.same.trans (s4.trans g1),g2,nd,g3,rfl⟩
  rintro zzs H5 ⟨l,kn,v9,v10,v11,s5,lk,nd,hkn,rfl⟩;refine⟨_,rfl,_,rfl,_,rfl,_,rfl,?_⟩;refine⟨h,w,p,l,st,kn,rfl,h6,w6,(lp.mono s5).den,lk.den,fun r H6 s6 nr hr6=>⟨_,rfl,sz rfl,fun t ht=>?_⟩⟩;have s7:=Same.put (o:=.tup [V.ref r,V.ref p]) ht;exact hq t r p _ h w st kn (s1.trans (s5.trans (s6.trans s7))) ((s1.trans s5).free nr) np (SqT.of au) (s7 _ _ hr6) (lp.mono (s5.trans (s6.trans s7))) bh.1 bh.2 bw.1 bw.2 sub nd hkn
end
theorem a06{zs:List Str}{r:Nat}(h:r<=zs.length):CQ (zs.map V.str) none (some (r:Int))=(zs.take r).map V.str:=by
 unfold CQ;rw[aR,HT.tU,HT.xX,Ak h,Fx,Nat.sub_zero,List.map_take]
theorem TX{zs:List Str}{r:Nat}(h:r<=zs.length):CQ (zs.map V.str) (some (r:Int)) none=(zs.drop r).map V.str:=by
 unfold CQ;rw[aR,HT.tU,HT.xX,Ak h,List.map_drop];exact Bs (by rw[ux,aR];exact bK _)
theorem Rq{H:Hp}{p l:Addr}{ws us:List Str}{Q:VK}(hp:H p=some (.lst (ws.map V.str)))(hl:H l=some (.lst (us.map V.str)))(hw:ws.length+us.length<=10000)(hq:∀ q,H q=none->Q (.ref q) (upd H q (.lst ((ws++us).map V.str)))):MK (.ref p) (.ref l) H Q:=
 ⟨_,_,hp,hl,(by rw[aR,aR];exact small hw),fun q h=>by have:=hq q h;rw[dM] at this;exact this⟩
def Te(K:ao):Sp:=fun vs H Q _=>∃(a p:Addr)(ns:List Int)(zs:List Str)(w:Nat),vs=[.ref a,.ref p]/\SqL K H a (ns.map V.int)/\H p=some (.lst (zs.map V.str))/\Vw zs w /\
 ∀ q zs' H',Same H H'->H' q=some (.lst (zs'.map V.str))->Vw zs' w->zs'.length=zs.length->Q (.ref q) H'
def W4(zs:List Str)(w:Nat):List Cell:=(bH zs w "#").filter fun x=>decide (0<((bQ zs.length w x).filter fun y=>!decide (y∈bH zs w "#")).length)
def Yn(K:ao):Sp:=fun vs H Q _=>∃(p:Addr)(zs:List Str)(w:Nat),vs=[.ref p]/\SqL K H p (zs.map V.str)/\Vw zs w/\∀ q H',Fr K H H' q ((W4 zs w).map aB)->Q (.ref q) H'
section
variable{P:Program}{w:World}{K:ao}{mg:Str->Option Value}{base:Heap}{Z:Adr}
theorem X5{f:Addr}{fd:FuncData} (F:Fun K "_law_wrong_by" "_law_wrong_by" mG f fd) (T:Txt K mg Z) (bG:Df P w K mg base 1 "_law_cell_at" ["script","k"] (zW K)) (bU:Df P w K mg base 1 "_law_mix" ["cell","k","many"] HX) :
  cY P w K mg base (CXE P w) 2 f fd ["script","rows"] (Te K):=by
 refine F.rok gW (fun vs H Q E h=>?_) (fun cdv A outer s H vs Q E hr h=>?_)
 ·obtain⟨a,p,ns,zs,w,rfl,_⟩:=h;rfl
 ·obtain⟨a,p,ns,zs,w,rfl,hS,hp,vw,hq⟩:=h;have hu:=lK hr;have z6:=vw.le;have z1:=vw.ne;have w6:=vw.w6;have w1:=vw.w1;obtain⟨z0,zt,ez,hz0⟩:=vw.toRect.head;refine⟨_,(aA (aW (i:=2) gW.nd rfl (Or.inl rfl) (aY bG hr rfl bf (aj (rv 0) (aj aG ak)))) (aA (XS (i:=3) (j:=4) rfl gW.nd rfl rfl (by decide) rfl rfl (aj (aY bU hr rfl bf (aj (rv 2) (aj aG (aj (aZ (eZ (K:=K)) rfl T.eG cJ (aj (rv 1) ak)) ak)))) (aj (aY bU hr rfl bf (aj (rv 2) (aj aG (aj (aZ (eZ (K:=K)) rfl T.eG cJ (aj (cH (cV (K:=K)) (rv 1) aG) ak)) ak)))) ak)) rfl) (aA (aW (i:=5) gW.nd rfl (Or.inl rfl) (cH (cV (K:=K)) dX (aY bU hr rfl bf (aj (rv 2) (aj aG (aj aG ak)))))) (aA (dR (bF (Mw.or (M7 (K:=K) hu)) (dw nM (rv 2) aG) aG (cg _)) (aD (bB (rv 1))) bO) (aA (aW (i:=6) gW.nd rfl (Or.inl rfl) (dw bI (dw bI (xR (Wn (K:=K)) (cH (cV (K:=K)) (rv 1) (rv 3)) xU (xV (rv 4))) (rv 5)) (xR (Wn (K:=K)) (cH (cV (K:=K)) (rv 1) (rv 3)) (xV (dw bI (rv 4) aG)) xU))) (aD (bB (dw bI (dw bI (xR (Wn (K:=K)) (rv 1) xU (xV (rv 3))) (bZ (aj (rv 6) ak))) (xR (Wn (K:=K)) (rv 1) (xV (dw bI (rv 3) aG)) xU))))))))),?_⟩;refine aC (fun zzs H1=>∃ c:Int,Same H H1/\zzs=[zzR a,zzR p,zzI c,zzN,zzN,zzN,zzN]) (fun R hR=>?_) ?_
  ·exact⟨_,rfl,a,ns,18,rfl,by decide,hS,fun r=>hR _ _ ⟨r,Same.refl _,rfl⟩⟩
  rintro zzs H1 ⟨c,s1,rfl⟩;refine aC (fun zzs H2=>∃ i j:Nat,Same H H2/\i<zs.length/\j<w/\zzs=[zzR a,zzR p,zzI c,zzI i,zzI j,zzN,zzN]) (fun R hR=>?_) ?_
  ·refine⟨_,rfl,_,rfl,.inl ⟨p,_,rfl,.inl (SqL.of (s1 _ _ hp)),_,1,_,rfl,by rw[aR];lia,fun r1 H2 a2 b2 t2=>?_⟩⟩;rw[aR] at b2;refine⟨_,rfl,_,rfl,.inl ⟨p,_,_,_,rfl,rfl,SqL.of (t2 _ _ (s1 _ _ hp)),(by rw[ez];exact eF),.inr ⟨z0,rfl,small (by lia),_,2,_,rfl,by lia,fun r2 H3 a3 b3 t3=>?_⟩⟩⟩;refine⟨_,_,rfl,hR _ _ ⟨r1.toNat,r2.toNat,s1.trans (t2.trans t3),by lia,by lia,?_⟩⟩;rw[K1 a2,K1 a3];rfl
  rintro zzs H2 ⟨i,j,s2,hi,hj,rfl⟩;refine aC (fun zzs H3=>∃ k:Nat,ud k=true/\Same H H3/\zzs=[zzR a,zzR p,zzI c,zzI i,zzI j,some (.str ⟨#[k]⟩),zzN]) (fun R hR=>?_) ?_
  ·refine⟨_,rfl,_,3,5,rfl,by decide,fun r H3 a3 b3 t3=>?_⟩;have ml:("#0123" : Str).cps.toList.length=5:=by decide
   obtain⟨k,hk,ek⟩:=sX (xs:=("#0123" : Str).cps.toList) (i:=r) a3 (by rw[ml];exact b3);exact .inr (.inr ⟨_,r,k,rfl,rfl,by decide,ek,hR _ _ ⟨k,(by decide:∀ x∈("#0123" : Str).cps.toList,ud x=true) k hk,s2.trans t3,rfl⟩⟩)
  rintro zzs H3 ⟨k,hk,s3,rfl⟩;have p3:=s3 _ _ hp;refine aC (fun zzs H4=>Same H3 H4/\zzs=[zzR a,zzR p,zzI c,zzI i,zzI j,some (.str ⟨#[k]⟩),zzN]) (fun R hR=>?_) ?_
  ·refine⟨_,rfl,_,_,rfl,rfl,(by show(0:Int)<3;decide),.inl ⟨rfl,_,rfl,?_⟩⟩;refine Gn (fun _=>⟨_,rfl,hq p zs _ s3 p3 vw rfl⟩) (fun _=>hR _ _ ⟨Same.refl _,rfl⟩)
  rintro zzs H4 ⟨s4,rfl⟩;have p4:=s4 _ _ p3;have er:=vw.toRect.row hi;have b1:=ZM (zs.getD i Str.empty) none (some (j:Int));have b2:=ZM (zs.getD i Str.empty) (some ((j:Int)+1)) none;refine aC (fun zzs H5=>Same H4 H5/\zzs=[zzR a,zzR p,zzI c,zzI i,zzI j,some (.str ⟨#[k]⟩),some (.str (PySem.Txt.slice (zs.getD i Str.empty) none (some (j:Int))++⟨#[k]⟩++PySem.Txt.slice (zs.getD i Str.empty) (some ((j:Int)+1)) none))]) (fun R hR=>?_) ?_
  ·refine⟨_,rfl,_,rfl,.inl ⟨p,_,_,_,rfl,rfl,SqL.of p4,O7 hi,_,rfl,_,rfl,.inr ⟨_,rfl,small (by lia),_,rfl,small (by show _+1<=10000;lia),?_⟩⟩⟩;refine⟨_,rfl,_,rfl,.inl ⟨p,_,_,_,rfl,rfl,SqL.of p4,O7 hi,_,rfl,_,rfl,.inr ⟨_,rfl,small (by lia),?_,hR _ _ ⟨Same.refl _,rfl⟩⟩⟩⟩;rw[str_len,yQ,c7,<- str_len];exact small (by show _+1+_<=10000;lia)
  rintro zzs H5 ⟨s5,rfl⟩;have p5:=s5 _ _ p4;refine⟨_,rfl,_,rfl,_,rfl,.inl ⟨p,_,rfl,SqL.of p5,fun l1 hl1=>?_⟩⟩;rw[a06 (by lia)];have t1:=Same.put (o:=.lst ((zs.take i).map V.str)) hl1;refine⟨_,rfl,sz rfl,fun l2 hl2=>?_⟩;have t2:=Same.put (o:=.lst [V.str (PySem.Txt.slice (zs.getD i Str.empty) none (some (j:Int))++⟨#[k]⟩++PySem.Txt.slice (zs.getD i Str.empty) (some ((j:Int)+1)) none)]) hl2;refine Rq (ws:=zs.take i) (us:=[PySem.Txt.slice (zs.getD i Str.empty) none (some (j:Int))++⟨#[k]⟩++PySem.Txt.slice (zs.getD i Str.empty) (some ((j:Int)+1)) none]) (t2 _ _ au) au (by rw[jr];show _+1<=10000;lia) fun l3 hl3=>?_
  have t3:=Same.put (o:=.lst ((zs.take i++[PySem.Txt.slice (zs.getD i Str.empty) none (some (j:Int))++⟨#[k]⟩++PySem.Txt.slice (zs.getD i Str.empty) (some ((j:Int)+1)) none]).map V.str)) hl3;have tA:=t1.trans (t2.trans t3);refine⟨_,rfl,_,rfl,_,rfl,.inl ⟨p,_,rfl,SqL.of (tA _ _ p5),fun l4 hl4=>?_⟩⟩;have ec:CQ (zs.map V.str) (some ((i:Int)+1)) none=(zs.drop (i+1)).map V.str:=TX (r:=i+1) (by lia);rw[ec];have t4:=Same.put (o:=.lst ((zs.drop (i+1)).map V.str)) hl4;refine Rq (ws:=zs.take i++[PySem.Txt.slice (zs.getD i Str.empty) none (some (j:Int))++⟨#[k]⟩++PySem.Txt.slice (zs.getD i Str.empty) (some ((j:Int)+1)) none]) (us:=zs.drop (i+1)) (t4 _ _ au) au
   (by rw[c7,jr,ux];show _+1+_<=10000;lia) fun q hq'=>?_
  have pv:=a4r (s:=⟨#[k]⟩) vw hi hj rfl (fun x hx=>by rw[show x=k by simpa using hx];exact hk);exact hq q _ _ (s3.trans (s4.trans (s5.trans (tA.trans (t4.and hq'))))) au pv.1 pv.2
theorem a0G{f:Addr}{fd:FuncData} (F:Fun K "_law_edge" "_law_edge" tV f fd) (T:Txt K mg Z) (bW:Df P w K mg base 1 "_law_near" ["height","width","cell"] (wJ K)) (cA:Df P w K mg base 1 "_law_sizes" ["rows"] (vh K)) (bN:Df P w K mg base 1 "_law_cells" ["rows","signs"] (rD K)) :
  cY P w K mg base (CXE P w) 2 f fd ["rows"] (Yn K):=by
 refine F.rok jh (fun vs H Q E h=>?_) (fun cdv A outer s H vs Q E hr h=>?_)
 ·obtain⟨p,zs,w,rfl,_⟩:=h;rfl
 ·obtain⟨p,zs,w,rfl,hS,vw,hq⟩:=h;have hu':=xG hr;have z6:=vw.le;have w6:=vw.w6;have l36:zs.length*w<=6*6:=lY z6 w6;refine⟨_,(aA (mz (aY cA hr rfl bf (aj (rv 0) ak)) (nQ rfl (cP (bx (i:=1) jh.nd rfl (Or.inl rfl)) (cP (bx (i:=2) jh.nd rfl (Or.inl rfl)) jO)))) (aA (aW (i:=3) jh.nd rfl (Or.inr rfl) (aY bN hr rfl bf (aj (rv 0) (aj dX ak)))) (aA (aW (i:=4) jh.nd rfl (Or.inl rfl) (bZ ak)) (aA (cL eU rfl (aV (K:=K) (rv 3)) (bx (i:=5) jh.nd rfl (Or.inl rfl)) (aD (dR (bF Bj (aZ (eZ (K:=K)) rfl T.eG cJ (aj (fZ (by rfl) rfl (aV (K:=K) (aY bW hr rfl bf (aj (rv 1) (aj (rv 2) (aj (rv 5) ak))))) (fun _ _ _=>(fB (bF (gF.or (lM (K:=K) hu')) (rv 0) (rv 4) (by rfl)))) (fun _ _ _=>(rv 0))) ak)) aG (cg _)) (aD (gb (kh (K:=K) jV lU lV dJ (rv 4) (aj (rv 5) ak)))) bO))) (aD (bB (rv 4))))))),?_⟩;refine aC (fun zzs H1=>Same H H1/\zzs=[zzR p,zzI zs.length,zzI w,zzN,zzN,zzN]) (fun R hR=>?_) ?_
  ·exact⟨_,rfl,p,zs,w,rfl,hS,vw.toRect,fun t H' s' hT=>⟨t,_,rfl,hT,rfl,_,_,rfl,_,_,rfl,rfl,hR _ _ ⟨s',rfl⟩⟩⟩
  rintro zzs H1 ⟨s1,rfl⟩;refine aC (fun zzs H2=>∃ hd,Same H H2/\Ls K H2 hd ((bH zs w "#").map aB)/\zzs=[zzR p,zzI zs.length,zzI w,zzR hd,zzN,zzN]) (fun R hR=>?_) ?_
  ·exact⟨_,rfl,p,zs,w,"#",rfl,s1.seq hS,vw.toRect,fun q H' fr=>hR _ _ ⟨q,s1.trans fr.same,fr.ls,rfl⟩⟩
  rintro zzs H2 ⟨hd,s2,lh,rfl⟩;refine aC (fun zzs H3=>∃ q,H q=none/\H2 q=none/\Same H2 H3/\H3 q=some (.lst [])/\zzs=[zzR p,zzI zs.length,zzI w,zzR hd,zzR q,zzN]) (fun R hR=>?_) ?_
  ·exact⟨by decide,fun q hq'=>hR _ _ ⟨q,s2.free hq',hq',Same.put hq',au,rfl⟩⟩
  rintro zzs H3 ⟨q,nq,nq2,s3,hq3,rfl⟩;obtain⟨xs,ex,D⟩:=id lh;have lc:=GJ zs w "#";refine aC (fun zzs H4=>∃ v5:Option V,Fr K H H4 q ((W4 zs w).map aB)/\zzs=[zzR p,zzI zs.length,zzI w,zzR hd,zzR q,v5]) (fun R hR=>?_) ?_
  ·refine⟨_,rfl,hd,rfl,⟨_,SqL.of (s3 _ _ ex)⟩,?_⟩;refine cO (K:=K) (xs:=xs) (fun i zzs H4=>∃(l:List V)(v5:Option V),Same H2 H4/\H4 q=some (.lst l)/\aU K H4 l ((((bH zs w "#").take i).filter fun x=>decide (0<((bQ zs.length w x).filter fun y=>!decide (y∈bH zs w "#")).length)).map aB)/\zzs=[zzR p,zzI zs.length,zzI w,zzR hd,zzR q,v5])
    ⟨[],none,s3,hq3,.nil,rfl⟩ (fun i zzs H4 _ hh=>by obtain⟨l,v5,g1,_⟩:=hh;exact SqL.of (g1 _ _ ex)) (fun i u zzs H4 hu hh=>?_) (fun zzs H4 hh=>?_)
   ·obtain⟨l,v5,g1,g2,Dl,rfl⟩:=hh;obtain⟨d,ed,du⟩:=D.get hu;rw[cQ] at ed;obtain⟨x,ex',rfl⟩:=gn.mp ed;have tk:(bH zs w "#").take (i+1)=(bH zs w "#").take i++[x]:=by rw[iT,ex'];rfl
    have ll:l.length<=36:=by
     rw[Dl.length,aR];refine cX (iQ _ _) ?_;rw[jr];lia
    have out:∀ b:Bool,b=decide (0<((bQ zs.length w x).filter fun y=>!decide (y∈bH zs w "#")).length)->(((bH zs w "#").take (i+1)).filter fun x=>decide (0<((bQ zs.length w x).filter fun y=>!decide (y∈bH zs w "#")).length))=(((bH zs w "#").take i).filter fun x=>decide (0<((bQ zs.length w x).filter fun y=>!decide (y∈bH zs w "#")).length))++(if b=true then [x] else []):=by
     intro b hb;rw[tk,uK,wQ,List.filter_nil,<- hb]
    refine⟨_,rfl,_,rfl,_,rfl,zs.length,w,u,x,rfl,du.mono g1,fun q5 H5 f5=>?_⟩;obtain⟨ys,ey,Dy⟩:=f5.ls;refine⟨q5,rfl,⟨_,SqL.of ey⟩,dG (K:=K) (xs:=bQ zs.length w x) (enc:=aB) (bJ (SqL.of ey)) Dy (small (by have:=fW zs.length w x;lia)) (fun y=>!decide (y∈bH zs w "#")) aB (fun y hy u' H6 s6 d G hG=>?_) (fun y hy _ u' H6 s6 d G hG=>⟨_,rfl,hG _ _ (Same.refl _) d⟩) (fun us H6 s6 D6 q6 hq6=>?_)⟩
    ·exact⟨_,rfl,_,rfl,.inr (nP d (lh.mono (g1.trans (f5.same.trans s6))).den ⟨_,rfl,hG _ (Same.refl _)⟩)⟩
    ·have t6:=Same.put (o:=.lst us) hq6;have tA:=f5.same.trans (s6.trans t6);refine .inl ⟨q6,_,rfl,.inl (SqL.of au),_,_,rfl,rfl,_,rfl,?_⟩;have el:us.length=((bQ zs.length w x).filter fun y=>!decide (y∈bH zs w "#")).length:=by rw[D6.length,aR]
     rw[el];have ed0:decide ((0:Int)<(((bQ zs.length w x).filter fun y=>!decide (y∈bH zs w "#")).length:Nat))=decide (0<((bQ zs.length w x).filter fun y=>!decide (y∈bH zs w "#")).length):=by
      congr 1;apply propext;lia
     rw[ed0];refine dD (fun hb=>?_) (fun hb=>?_)
     ·refine⟨_,rfl,.inl ⟨rfl,_,SqL.of (tA _ _ g2)⟩,_,rfl,q,l,_,rfl,rfl,tA _ _ g2,ltl (by lia),?_⟩;refine⟨l++[u],_,(SameBut.refl q _).put.of (g1.trans tA) nq2,au,?_,rfl⟩;rw[out true hb.symm,dM];exact((SameBut.refl q _).put.cells (tA _ _ g2) (Dl.mono tA)).append (.cons ((SameBut.refl q _).put.cell (tA _ _ g2) (du.mono (g1.trans tA))) .nil)
     ·refine⟨l,_,g1.trans tA,tA _ _ g2,?_,rfl⟩;rw[out false hb.symm];simpa using Dl.mono tA
   ·obtain⟨l,v5,g1,g2,Dl,rfl⟩:=hh;have lx:xs.length=(bH zs w "#").length:=by rw[D.length,aR]
    rw[lx,gY] at Dl;exact hR _ _ ⟨v5,⟨s2.trans g1,nq,⟨l,g2,Dl⟩⟩,rfl⟩
  rintro zzs H4 ⟨v5,fr,rfl⟩;exact⟨_,rfl,hq q H4 fr⟩
end
theorem aU.a2s{K:ao}{H:Hp}{α:Type}{g:α->Str}:∀ xs:List α,aU K H (xs.map (V.str ∘ g)) (xs.map fun x=>Dt.str (g x))
 |[]=>.nil
 |x::xs=>.cons (.str _) (aU.a2s xs)
theorem Vk{K:ao}{H:Hp}{z:Str}{zzs:L2.St}{Q:VK}{te:TE}(hz:z.length<=sizeLine)
  (ht:∀(c:Nat)(H':Hp),∀ G:VK,G (.bl (inS "#012345678" c)) H'->te (some (.str ⟨#[c]⟩)::zzs) H' G)
  (hq:∀ H',Same H H'->Q (.bl (z.cps.toList.all (inS "#012345678"))) H') :
  ∃ W:Nat->Nat->List V->Hp->Prop,(∃ m,W 0 m [] H)/\sJ (Its z) Vm te zzs (fun ys H2=>∀ p,H2 p=none->∃(q:Addr)(bs:List Bool),[V.ref p]=[.ref q]/\SqL K (upd H2 p (.lst ys)) q (bs.map V.bl)/\Q (.bl (bs.all id)) (upd H2 p (.lst ys))) W:=by
 refine comp_map (K:=K) (xs:=z.cps.toList) (enc:=fun c=>Dt.str ⟨#[c]⟩) (X7 z) (by rw[jY];exact aU.a2s _) (by rw[eO];exact hz) (fun c=>Dt.bl (inS "#012345678" c)) (fun c _ v H' s D G hG=>?_) (fun ys H' s D p hp=>?_)
 ·cases D;exact ht c H' G (hG _ _ (Same.refl _) (.bl _))
 ·have e:ys=(z.cps.toList.map (inS "#012345678")).map V.bl:=by
   refine aU.Jo (K:=K) (H:=H') ?_;rw[jY];exact D
  refine⟨p,z.cps.toList.map (inS "#012345678"),rfl,SqL.of (by rw[au,e]),?_⟩;rw[Kq];exact hq _ (s.and hp)
def a2r:Sp:=fun vs H Q _=>∃(z:Str)(n:Int),vs=[.str z,.int n]/\z.length<=1000/\∀ H',Same H H'->Q (.bl (Ei z n)) H'
theorem GK{l n m:Int}{te:TE}{zzs:L2.St}{H:Hp}{G:VK}(he:∀ Q':VK,Q' (.int m) H->te zzs H Q')(hg:G (.bl (decide (l<=n/\n<=m))) H) :
  if decide (l<=n)=true then te zzs H (fun w' H4=>rI0 (fun i j=>.bl (decide (i<=j))) (.int n) w' H4 G) else G (.bl false) H:=by
 refine Gn (fun h1=>he _ ⟨_,_,rfl,rfl,?_⟩) (fun h1=>?_)
 ·have h1':=cI h1;have e:decide (l<=n/\n<=m)=decide (n<=m):=by simp[h1']
  show G (.bl (decide (n<=m))) H;rw[<- e];exact hg
 ·have e:decide (l<=n/\n<=m)=false:=cG fun h=>h1 (bR h.1)
  rw[<- e];exact hg
def Es(m n:Int):Bool:=decide (1<=m/\m<=6)&&decide (1<=n/\n<=6)
def Yu:Sp:=fun vs H Q _=>∃(m n:Int),vs=[.int m,.int n]/\Q (.bl (Es m n)) H
def Yy(K:ao):Sp:=fun vs H Q _=>∃(p:Addr)(zs:List Str),vs=[.ref p]/\SqL K H p (zs.map V.str)/\zs.length<=1000/\(∀ z∈zs,z.length<=1000)/\∀ H',Same H H'->Q (.bl (Br zs)) H'
theorem a2i{zs:List Str}:(((zs.map V.str).length:Nat):Int)=(zs.length:Int):=by rw[aR]
theorem XR{K:ao}{H:Hp}{a:Addr}{zs:List Str}{n:Int}{zzs:L2.St}{Q:VK}{te:TE}(hS:SqL K H a (zs.map V.str))(hz:zs.length<=1000)
  (ht:∀ z∈zs,∀(H':Hp),Same H H'->∀ G:VK,(∀ H'',Same H' H''->G (.bl (Ei z n)) H'')->te (some (.str z)::zzs) H' G)
  (hq:∀ H',Same H H'->Q (.bl (zs.all fun r=>Ei r n)) H') :
  ∃ W:Nat->Nat->List V->Hp->Prop,(∃ m,W 0 m [] H)/\sJ (Itl K a) Vm te zzs (fun ys H2=>∀ p,H2 p=none->a5M K [V.ref p] (upd H2 p (.lst ys)) Q) W:=by
 refine comp_map (K:=K) (xs:=zs) (enc:=Dt.str) (bJ hS) (aU.strs zs) (small (by lia)) (fun z=>Dt.bl (Ei z n)) (fun z hz v H' s D G hG=>?_) (fun ys H' s D p hp=>?_)
 ·cases D;exact ht z hz H' s G fun H'' s''=>hG _ _ s'' (.bl _)
 ·have e:ys=(zs.map fun z=>Ei z n).map V.bl:=by
   refine aU.Jo (K:=K) (H:=H') ?_;rw[jY];exact D
  refine⟨p,zs.map fun z=>Ei z n,rfl,SqL.of (by rw[au,e]),?_⟩;rw[Kq];exact hq _ (s.and hp)
section
variable{P:Program}{w:World}{K:ao}{mg:Str->Option Value}{base:Heap}{Z:Adr}
theorem a3G{f:Addr}{fd:FuncData} (F:Fun K "is_row" "is_row" Em f fd) (T:Txt K mg Z):cY P w K mg base (CXE P w) 1 f fd ["row","width"] a2r:=by
 refine F.rok Vi (fun vs H Q E h=>?_) (fun cdv A outer s H vs Q E hr h=>?_)
 ·obtain⟨z,n,rfl,_⟩:=h;rfl
 ·obtain⟨z,n,rfl,hz,hq⟩:=h;have hu:=lK hr;have hu':=xG hr;have hz':z.length<=sizeLine:=small (by lia);refine⟨_,(aD (bB (MN (xQ (kE.or (jZ (K:=K) hu)) (aZ (eZ (K:=K)) rfl T.eG cJ (aj (rv 0) ak)) (rv 1) (cg _)) (MP (aZ (k_all (K:=K) rfl) rfl T.Rm O8 (aj (fZ (by rfl) rfl (a4z (rv 0)) (fun _ _ _=>lF) (fun _ _ _=>(xQ (eV.or (nH (K:=K) hu')) (rv 0) (XC T.uR rfl) (by rfl)))) ak)))))),?_⟩;refine⟨_,rfl,.inr ⟨z,rfl,hz',_,rfl,.inl ⟨rfl,_,rfl,?_⟩⟩⟩;rw[Bc];refine Gn (fun h1=>?_) (fun h1=>?_)
  ·refine⟨_,rfl,z,rfl,Vk (K:=K) hz' (fun c H' G hG=>⟨_,rfl,.inl ⟨_,_,rfl,rfl,hG⟩⟩) fun H' s'=>?_⟩;have:=hq H' s';unfold Ei at this;rw[h1,uG] at this;exact this
  ·have:=hq H (Same.refl _);unfold Ei at this;rw[QS.mpr h1,Aq] at this;exact this
theorem a0O{f:Addr}{fd:FuncData} (F:Fun K "is_size" "is_size" zN f fd) (T:Txt K mg Z):cY P w K mg base (CXE P w) 1 f fd ["height","width"] Yu:=by
 refine F.rok Q7 (fun vs H Q E h=>?_) (fun cdv A outer s H vs Q E hr h=>?_)
 ·obtain⟨m,n,rfl,_⟩:=h;rfl
 ·obtain⟨m,n,rfl,hq⟩:=h;refine⟨_,(aD (bB (MN (Ci rM rM aG (rv 0) (Pz T.jA rfl)) (MP (Ci rM rM aG (rv 1) (Pz T.gU rfl)))))),?_⟩;refine⟨_,rfl,_,_,rfl,rfl,_,rfl,?_⟩;refine GK (m:=6) (fun _ q=>q) ⟨_,rfl,dD (fun hb=>?_) (fun hb=>?_)⟩
  ·unfold Es at hq;rw[hb,uG] at hq;refine⟨_,rfl,_,_,rfl,rfl,_,rfl,?_⟩;exact GK (m:=6) (fun _ q=>q) hq
  ·unfold Es at hq;rw[hb,Aq] at hq;exact hq
theorem Nr{m n:Int}:Es m n=true↔((1<=m/\m<=6)/\(1<=n/\n<=6)):=by
 unfold Es;rw[lW,jo,jo]
theorem a0Q{f:Addr}{fd:FuncData} (F:Fun K "is_view" "is_view" zO f fd) (T:Txt K mg Z) (Cp:Df P w K mg base 1 "is_row" ["row","width"] a2r) (yG:Df P w K mg base 1 "is_size" ["height","width"] Yu):cY P w K mg base (CXE P w) 2 f fd ["rows"] (Yy K):=by
 refine F.rok Q8 (fun vs H Q E h=>?_) (fun cdv A outer s H vs Q E hr h=>?_)
 ·obtain⟨p,zs,rfl,_⟩:=h;rfl
 ·obtain⟨p,zs,rfl,hS,hn,hz,hq⟩:=h;have hu:=lK hr;refine⟨_,(aA (dR (Ej (Sx (bF (kE.or (jZ (K:=K) hu)) (aZ (eZ (K:=K)) rfl T.eG cJ (aj (rv 0) ak)) aG (cg _)) (Jr (qX (kZ (aY yG hr rfl bf (aj (aZ (eZ (K:=K)) rfl T.eG cJ (aj (rv 0) ak)) (aj (aZ (eZ (K:=K)) rfl T.eG cJ (aj (cH (cV (K:=K)) (rv 0) aG) ak)) ak)))))))) (aD (bB qb)) bO) (aD (bB (aZ (k_all (K:=K) rfl) rfl T.Rm O8 (aj (fZ (by rfl) rfl (aV (K:=K) (rv 0)) (fun _ _ _=>lF) (fun _ _ _=>(aY Cp hr rfl bf (aj (rv 0) (aj (aZ (eZ (K:=K)) rfl T.eG cJ (aj (cH (cV (K:=K)) (rv 1) aG) ak)) ak))))) ak))))),?_⟩;refine⟨_,rfl,.inl ⟨p,_,rfl,.inl hS,.inl ⟨rfl,_,rfl,?_⟩⟩⟩;rw[a2i,Bc];refine dD (fun hb=>?_) (fun hb=>?_)
  ·cases zs with
   |nil=>exact hq H (Same.refl _)
   |cons z zs=>have:=cI hb;simp only[iR] at this;lia
  cases zs with
  |nil=>cases hb
  |cons z zs=>
   have z0:=hz z dY;refine⟨_,rfl,.inl ⟨p,_,rfl,.inl hS,_,rfl,.inl ⟨p,_,_,_,rfl,rfl,hS,eF,.inr ⟨z,rfl,small (by lia),?_⟩⟩⟩⟩;refine⟨_,_,rfl,?_⟩;rw[a2i];refine⟨_,rfl,dD (fun h1=>?_) (fun h1=>?_)⟩
   ·have:=hq H (Same.refl _);have h1:¬Es ((z::zs).length:Nat) z.length=true:=by simpa using h1
    rw[Nr] at h1;by_cases h2:(z::zs).length<=6
    ·rw[Qj (by simp only[iR] at h1 h2 ⊢;lia)] at this;exact this
    ·rw[Qi h2] at this;exact this
   ·have h1:Es ((z::zs).length:Nat) z.length=true:=by simpa using h1
    rw[Nr] at h1;obtain⟨⟨a1,a2⟩,a3,a4⟩:=h1;refine⟨_,rfl,p,rfl,⟨_,hS⟩,XR hS hn (n:=z.length) (fun r hr' H' s' G hG=>?_) fun H' s'=>?_⟩
    ·refine⟨_,rfl,_,rfl,.inl ⟨p,_,_,_,rfl,rfl,s'.seq hS,eF,.inr ⟨z,rfl,small (by lia),?_⟩⟩⟩;exact⟨r,_,rfl,hz r hr',hG⟩
    ·rw[<- EY (by lia) (by lia) (by lia)];exact hq H' s'
def Yr(K:ao)(C B:Addr):Sp:=fun vs H Q E=>∃(x dx p:Addr)(z:List Str),vs=[.ref x,.ref p]/\H x=some (.ins C dx [])/\SqL K H p (z.map V.str)/\z.length<=1000/\(∀ r∈z,r.length<=1000) /\
 (Br z=false->∀ H',Same H H'->E (.ref B) none H')/\(Br z=true->∀ H' (l:Addr) (z0:Str) (zs:List Str),z=z0::zs->H l=none->l≠x->H' l=some (.lst (z.map V.str))->H' x=some (.ins C dx (Bd l z.length z0.length))->(∀ b o,H b=some o->b≠x->H' b=some o)->Q .non H')
theorem Yz{K:ao}{H:Hp}{p x C dx:Addr}{xs:List V}{fs:List (Str×V)}{o:HO}(h:SqL K H p xs)(hx:H x=some (.ins C dx fs)):SqL K (upd H x o) p xs:=by
 rcases h with(h|⟨ob,h⟩)|h
 ·exact .inl (.inl (by rw[bD (pW h hx (by intro z;cases z))];exact h))
 ·exact .inl (.inr ⟨ob,by rw[bD (pW h hx (by intro z;cases z))];exact h⟩)
 ·exact .inr h
theorem a6G{a b:Str}{u v:V}:(mq a v (mq b u [])).length<1000:=by
 have h1:=oN a v (mq b u []);have h2:=oN b u [];simp only[Fv] at h2;lia
theorem a0I{f:Addr}{fd:FuncData} (F:Fun K "__init__" "View.__init__" mD f fd) (T:Txt K mg Z) (yH:Df P w K mg base 2 "is_view" ["rows"] (Yy K)):cY P w K mg base (CXE P w) 3 f fd ["self","rows"] (Yr K Z.View Z.BadView):=by
 refine F.PJ zR (fun vs H Q E h=>?_) (fun cdv A outer s H vs Q E hr h=>?_)
 ·obtain⟨x,dx,p,z,rfl,_⟩:=h;rfl
 ·obtain⟨x,dx,p,z,rfl,hx,hS,hn,hz,hE,hq⟩:=h;have hd:=M5 hr;refine⟨_,(aA (dR (RT.nox (qX (kZ (aY yH hr rfl bf (aj (rv 1) ak))))) (aD (nR T.vo rfl T.Gz hd (aj dX ak))) bO) (aA (RS.nox (PN (rv 0) (jN (Wm (K:=K)) rfl T.Ip Iu (aj (rv 1) ak)))) (aA (RS.nox (PN (rv 0) (aZ (eZ (K:=K)) rfl T.eG cJ (aj (rv 1) ak)))) (aD (RS.nox (PN (rv 0) (aZ (eZ (K:=K)) rfl T.eG cJ (aj (cH (cV (K:=K)) (rv 1) aG) ak)))))))),?_⟩;refine⟨_,rfl,p,z,rfl,hS,hn,hz,fun H1 s1=>⟨_,rfl,?_⟩⟩;cases hv:Br z with
  |false=>exact zj ⟨by decide,hE hv H1 s1⟩
  |true=>
   refine qN ?_;cases z with
   |nil=>exact absurd (show false=true from hv) (by decide)
   |cons z0 zs=>
    have z0':=hz z0 dY;refine⟨_,rfl,p,_,rfl,.inl (s1.seq hS),fun l hl=>?_⟩;have nlx:l≠x:=(bV (s1 x _ hx) hl).symm;have h1:(upd H1 l (.lst ((z0::zs).map V.str))) x=some (.ins Z.View dx []):=by rw[bD nlx.symm];exact s1 x _ hx
    have S1:SqL K (upd H1 l (.lst ((z0::zs).map V.str))) p ((z0::zs).map V.str):=(s1.and hl).seq hS;refine⟨_,rfl,x,Z.View,dx,_,rfl,h1,T.iB,T.jc,(by show 0<1000;decide),?_⟩;have S2:=Yz (o:=.ins Z.View dx (mq "rows" (.ref l) [])) S1 h1;refine⟨_,rfl,.inl ⟨p,_,rfl,.inl S2,_,rfl,x,Z.View,dx,_,rfl,au,T.iB,T.gH,(by show 1<1000;decide),?_⟩⟩;have S3:=Yz (o:=.ins Z.View dx (mq "height" (.int ((z0::zs).map V.str).length) (mq "rows" (.ref l) []))) S2 au;refine⟨_,rfl,.inl ⟨p,_,_,_,rfl,rfl,S3,eF,.inr ⟨z0,rfl,small (by lia),_,rfl,x,Z.View,dx,_,rfl,au,T.iB,T.iG,a6G,?_⟩⟩⟩;refine hq hv _ l z0 zs rfl (s1.free hl) nlx ?_ ?_ (fun b o e hb=>?_)
    ·rw[bD nlx,bD nlx,bD nlx,au]
    ·rw[au];rw[aR];rfl
    ·rw[bD hb,bD hb,bD hb];exact(s1.and hl) b o e
end
def Yp(K:ao)(C:Addr):Sp:=fun vs H Q _=>∃(x:Addr)(v:V)(zs:List Str)(w:Nat)(c:Cell),vs=[.ref x,v]/\gA C H x zs w/\Den K H v (aB c)/\Q (.bl (decide (inF zs.length w c))) H
def lA(K:ao)(C:Addr):Sp:=fun vs H Q _=>∃(x:Addr)(v:V)(zs:List Str)(w:Nat)(c:Cell),vs=[.ref x,v]/\gA C H x zs w/\Den K H v (aB c)/\Q (.bl (aL zs w c)) H
def wI(K:ao)(C:Addr):Sp:=fun vs H Q _=>∃(x:Addr)(zs:List Str)(w:Nat),vs=[.ref x]/\gA C H x zs w/\∀ q H',Fr K H H' q ((cB zs.length w).map aB)->Q (.ref q) H'
def Jy(K:ao)(C NC:Addr):Sp:=fun vs H Q E=>∃(x:Addr)(v:V)(zs:List Str)(w:Nat)(c:Cell),vs=[.ref x,v]/\gA C H x zs w/\Den K H v (aB c)/\(inF zs.length w c->∀ q H',Fr K H H' q ((bQ zs.length w c).map aB)->Q (.ref q) H')/\(¬inF zs.length w c->∀ H',Same H H'->E (.ref NC) none H')
section
variable{P:Program}{w:World}{K:ao}{mg:Str->Option Value}{base:Heap}{Z:Adr}
theorem a3C{f:Addr}{fd:FuncData} (F:Fun K "has_cell" "has_cell" wF f fd) (T:Txt K mg Z):cY P w K mg base (CXE P w) 1 f fd ["view","cell"] (Yp K Z.View):=by
 refine F.rok Nj (fun vs H Q E h=>?_) (fun cdv A outer s H vs Q E hr h=>?_)
 ·obtain⟨x,v,zs,w,c,rfl,_⟩:=h;rfl
 ·obtain⟨x,v,zs,w,c,rfl,vt,dv,hq⟩:=h;obtain⟨dx,l,hx,hl⟩:=vt.ob;refine⟨_,(aD (bB (MN (Ci rM HB aG (cH (cV (K:=K)) (rv 1) aG) (qO (K:=K) (rv 0))) (MP (Ci rM HB aG (cH (cV (K:=K)) (rv 1) aG) (qO (K:=K) (rv 0))))))),?_⟩;refine⟨_,rfl,qU dv ⟨_,_,rfl,rfl,_,rfl,?_⟩⟩;refine GP (m:=(zs.length:Int)) (fun Q' q=>⟨_,rfl,x,Z.View,dx,_,_,rfl,hx,T.iB,T.gH,Dq _ _ _,q⟩) ⟨_,rfl,?_⟩;have fin:∀ b:Bool,b=decide (inF zs.length w c)->Q (.bl b) H:=fun b e=>by rw[e];exact hq
  refine dD (fun h1=>?_) (fun h1=>fin _ (cG fun z=>by rw[bR z.1] at h1;cases h1).symm);refine⟨_,rfl,qW dv ⟨_,_,rfl,rfl,_,rfl,?_⟩⟩;refine GP (m:=(w:Int)) (fun Q' q=>⟨_,rfl,x,Z.View,dx,_,_,rfl,hx,T.iB,T.iG,Jf _ _ _,q⟩) (fin _ ?_);have h1':=cI h1;by_cases h2:0<=c.2/\c.2<(w:Int)
  ·rw[bR h2,bR (show inF zs.length w c from⟨h1',h2⟩)]
  ·rw[cG h2,cG (fun z:inF zs.length w c=>h2 z.2)]
theorem Mt{f:Addr}{fd:FuncData} (F:Fun K "is_closed" "is_closed" tZ f fd) (T:Txt K mg Z) (kJ:Df P w K mg base 1 "has_cell" ["view","cell"] (Yp K Z.View)):cY P w K mg base (CXE P w) 2 f fd ["view","cell"] (lA K Z.View):=by
 refine F.rok Jw (fun vs H Q E h=>?_) (fun cdv A outer s H vs Q E hr h=>?_)
 ·obtain⟨x,v,zs,w,c,rfl,_⟩:=h;rfl
 ·obtain⟨x,v,zs,w,c,rfl,vt,dv,hq⟩:=h;obtain⟨dx,l,hx,hl⟩:=vt.ob;have hu:=lK hr;refine⟨_,(aD (bB (MN (aY kJ hr rfl bf (aj (rv 0) (aj (rv 1) ak))) (MP (xQ (kE.or (jZ (K:=K) hu)) (cH (cV (K:=K)) (cH (cV (K:=K)) (qO (K:=K) (rv 0)) (cH (cV (K:=K)) (rv 1) aG)) (cH (cV (K:=K)) (rv 1) aG)) (XC T.iW rfl) (cg _)))))),?_⟩;refine⟨_,rfl,_,rfl,x,v,zs,w,c,rfl,vt,dv,_,rfl,?_⟩;unfold aL at hq;refine dD (fun h1=>?_) (fun h1=>?_)
  ·rw[h1,uG] at hq;obtain⟨⟨a1,a2⟩,⟨a3,a4⟩⟩:=cI h1;have e1:c.1=((c.1.toNat:Nat):Int):=by lia
   have e2:c.2=((c.2.toNat:Nat):Int):=by lia
   have i1:c.1.toNat<zs.length:=by lia
   refine⟨_,rfl,x,Z.View,dx,_,_,rfl,hx,T.iB,T.jc,Ov _ _ _,_,rfl,qU dv ?_⟩;rw[e1];refine Ef (SqL.of hl) i1 ⟨_,rfl,qW dv ?_⟩;rw[e2];refine xT (SqL.of hl) vt.vw.toRect i1 (by lia) (.inl ⟨rfl,?_⟩);have es:decide (V.str ⟨#[codeAt zs (c.1.toNat,c.2.toNat)]⟩=V.str "#")=decide (codeAt zs (c.1.toNat,c.2.toNat)=35):=by
    congr 1;apply propext;have eh:("#" : Str)=⟨#[35]⟩:=by decide +kernel
    rw[eh];constructor
    ·intro z;simpa using z
    ·intro z;rw[z]
   rw[es];exact hq
  ·rw[h1,Aq] at hq;exact hq
theorem Ms{f:Addr}{fd:FuncData} (F:Fun K "cells" "cells" Jt f fd) (T:Txt K mg Z):cY P w K mg base (CXE P w) 1 f fd ["view"] (wI K Z.View):=by
 refine F.rok xY (fun vs H Q E h=>?_) (fun cdv A outer s H vs Q E hr h=>?_)
 ·obtain⟨x,zs,w,rfl,_⟩:=h;rfl
 ·obtain⟨x,zs,w,rfl,vt,hq⟩:=h;have z6:=vt.vw.le;have w6:=vt.vw.w6;have l36:zs.length*w<=6*6:=lY z6 w6;refine⟨_,(aA (aW (i:=1) xY.nd rfl (Or.inl rfl) (bZ ak)) (aA (cL eU rfl (fX rfl T.gP (aj (qO (K:=K) (rv 0)) ak)) (bx (i:=2) xY.nd rfl (Or.inl rfl)) (aD (cL eU rfl (fX rfl T.gP (aj (qO (K:=K) (rv 0)) ak)) (bx (i:=3) xY.nd rfl (Or.inl rfl)) (aD (gb (kh (K:=K) jV lU lV dJ (rv 1) (aj (gk (aj (rv 2) (aj (rv 3) ak))) ak))))))) (aD (bB (rv 1))))),?_⟩;refine aC (fun zzs H1=>∃ q,H q=none/\Same H H1/\H1 q=some (.lst [])/\zzs=[zzR x,zzR q,zzN,zzN]) (fun R hR=>?_) ?_
  ·exact⟨by decide,fun q hq'=>hR _ _ ⟨q,hq',Same.put hq',au,rfl⟩⟩
  rintro zzs H1 ⟨q,nq,s1,hq1,rfl⟩;refine aC (fun zzs H2=>∃(v2 v3:Option V),Fr K H H2 q ((cB zs.length w).map aB)/\zzs=[zzR x,zzR q,v2,v3]) (fun R hR=>?_) ?_
  ·obtain⟨dx,l,hx,hl⟩:=(vt.mono s1).ob;refine⟨_,rfl,x,Z.View,dx,_,_,rfl,hx,T.iB,T.gH,Dq _ _ _,_,rfl,by lia,by lia,?_⟩;rw[jq];refine gR (lo:=0) (n:=zs.length) (fun i zzs H2=>∃(v2 v3:Option V),Same H H2/\Ls K H2 q ((cB i w).map aB)/\zzs=[zzR x,zzR q,v2,v3]) ⟨none,none,s1,⟨[],hq1,.nil⟩,rfl⟩ (fun i zzs H2 hi hh=>?_) (fun zzs H2 hh=>?_)
   ·obtain⟨v2,v3,g1,g2,rfl⟩:=hh;obtain⟨dx,l,hx,hl⟩:=(vt.mono g1).ob;refine⟨_,rfl,x,Z.View,dx,_,_,rfl,hx,T.iB,T.iG,Jf _ _ _,_,rfl,by lia,by lia,?_⟩;rw[jq];refine gR (lo:=0) (n:=w) (fun j zzs H2=>∃ v3:Option V,Same H H2/\Ls K H2 q ((cB i w++(List.range j).map fun c:Nat=>((i:Int),(c:Int))).map aB)/\zzs=[zzR x,zzR q,zzI (0+i),v3]) ⟨v3,g1,by simpa using g2,rfl⟩ (fun j zzs H2 hj hh=>?_) (fun zzs H2 hh=>?_)
    ·obtain⟨v3,g1,⟨xs,ex,D⟩,rfl⟩:=hh;have step:cB i w++(List.range (j+1)).map (fun c:Nat=>((i:Int),(c:Int)))=(cB i w++(List.range j).map fun c:Nat=>((i:Int),(c:Int)))++[((i:Int),(j:Int))]:=by
      rw[vP,dM,<- yr];rfl
     have ll:=D.length;rw[aR,c7,gB,aR,jX] at ll;have hl2:i*w<=6*6:=lY (by lia) w6;refine⟨_,rfl,.inl ⟨rfl,_,SqL.of ex⟩,_,rfl,_,rfl,sz rfl,fun t ht=>?_⟩;have st:=Same.put (o:=.tup [V.int (0+i),V.int (0+j)]) ht;refine⟨q,xs,_,rfl,rfl,st _ _ ex,ltl (by lia),?_⟩;refine⟨_,(SameBut.refl q _).put.of (g1.trans st) nq,⟨xs++[.ref t],au,?_⟩,rfl⟩;rw[step,dM];refine((SameBut.refl q _).put.cells (st _ _ ex) (D.mono st)).append (.cons ((SameBut.refl q _).put.cell (st _ _ ex) ?_) .nil);rw[rH,rH];exact iK
    ·obtain⟨v3,g1,g2,rfl⟩:=hh;exact⟨_,_,g1,by rw[qK];exact g2,rfl⟩
   ·obtain⟨v2,v3,g1,g2,rfl⟩:=hh;exact hR _ _ ⟨v2,v3,⟨g1,nq,g2⟩,rfl⟩
  rintro zzs H2 ⟨v2,v3,fr,rfl⟩;exact⟨_,rfl,hq q H2 fr⟩
end
def rE(K:ao)(C:Addr)(g:List Str->Nat->Cell->List Cell):Sp:=fun vs H Q _=>∃(x:Addr)(v:V)(zs:List Str)(w:Nat)(c:Cell),vs=[.ref x,v]/\gA C H x zs w/\Den K H v (aB c)/\inF zs.length w c/\∀ q H',Fr K H H' q ((g zs w c).map aB)->Q (.ref q) H'
def uf(K:ao)(C:Addr)(g:List Str->Nat->List Cell):Sp:=fun vs H Q _=>∃(x:Addr)(zs:List Str)(w:Nat),vs=[.ref x]/\gA C H x zs w/\∀ q H',Fr K H H' q ((g zs w).map aB)->Q (.ref q) H'
def aX(zs:List Str)(w:Nat):List Cell:=(dZ zs w).filter fun x=>decide (0<(aN zs w x).length)
def rN(zs:List Str)(w:Nat):List Cell:=(dZ zs w).filter fun x=>decide ((aN zs w x).length=0)
theorem gC{zs:List Str}{w:Nat}(v:Vw zs w):(dZ zs w).length<=36:=by
 have h1:(dZ zs w).length<=(cB zs.length w).length:=iQ _ _;rw[gB] at h1;have h2:zs.length*w<=6*6:=lY v.le v.w6;lia
theorem xO(zs:List Str)(w:Nat)(x:Cell):(aN zs w x).length<=8:=cX (iQ _ _) (fW _ _ _)
theorem a2R(a b:Cell):(!eqD (aB a) (aB b))=!decide (a=b):=by rw[LC]
theorem RZ(a:Int):(if(0:Int)>a then(0:Int) else a)=max a 0:=by by_cases h:(0:Int)>a<;>simp only[h,mK,jU]<;>lia
theorem S6(a b:Int):(if b<a then b else a)=min a b:=by by_cases h:b<a<;>simp only[h,mK,jU]<;>lia
theorem Wx{a:Int}(h:a<=6):0<=max a 0/\max a 0<=6:=⟨Int.le_max_right _ _,Int.max_le.mpr ⟨h,by decide⟩⟩
theorem Wz{a b:Int}(h:0<=a)(h0:0<=b)(h2:b<=6):0<=min a b/\min a b<=6:=⟨Int.le_min.mpr ⟨h,h0⟩,Rf (Int.min_le_right _ _) h2⟩
theorem XM{i j:Int}(a:0<=i/\i<=6)(b:0<=j/\j<=6) : -(2^62)<=i/\i<2^62 /\ -(2^62)<=j/\j<2^62:=⟨by lia,by omega,by lia,by omega⟩
theorem VD{a b:Int}{i:Nat}(ha:0<=a)(hb:b<=6)(h:i<(b-a).toNat):i<6:=by lia
theorem a2K{a b:Int}(ha:0<=a)(hb:b<=6):(b-a).toNat<=6:=by lia
theorem a6c{a b n:Nat}(h1:a<=n*6)(h2:b<=6):a+b<=(n+1)*6:=by lia
theorem a5v{a b i j:Nat}(h1:a<=i*6)(h2:b<=j)(hi:i<6)(hj:j<6):a+b<=100:=by lia
section
variable{P:Program}{w:World}{K:ao}{mg:Str->Option Value}{base:Heap}{Z:Adr}
theorem WY{f:Addr}{fd:FuncData} (F:Fun K "near" "near" Q0 f fd) (T:Txt K mg Z) (kJ:Df P w K mg base 1 "has_cell" ["view","cell"] (Yp K Z.View)):cY P w K mg base (CXE P w) 2 f fd ["view","cell"] (Jy K Z.View Z.NoCell):=by
 refine F.PJ Cm (fun vs H Q E h=>?_) (fun cdv A outer s H vs Q E hr h=>?_)
 ·obtain⟨x,v,zs,w,c,rfl,_⟩:=h;rfl
 ·obtain⟨x,v,zs,w,c,rfl,vt,dv,hq,hE⟩:=h;have hu:=lK hr;have hd:=M5 hr;have z6:=vt.vw.le;have w6:=vt.vw.w6;refine⟨_,(aA (dR (RT.nox (qX (kZ (aY kJ hr rfl bf (aj (rv 0) (aj (rv 1) ak)))))) (aD (nR T.oA rfl T.sZ hd (aj dX ak))) bO) (aA (RS.nox (aW (i:=2) Cm.nd rfl (Or.inl rfl) (bZ ak))) (aA (RS.nox (cL eU rfl (HF rfl T.gP (aj (aZ (GD rfl) rfl T.Rn O9 (aj (dw X6 (cH (cV (K:=K)) (rv 1) aG) aG) (aj aG ak))) (aj (aZ (yU rfl) rfl T.KQ Iv (aj (dw bI (cH (cV (K:=K)) (rv 1) aG) aG) (aj (qO (K:=K) (rv 0)) ak))) ak))) (bx (i:=3) Cm.nd rfl (Or.inl rfl)) (aD (cL eU rfl (HF rfl T.gP (aj (aZ (GD rfl) rfl T.Rn O9 (aj (dw X6 (cH (cV (K:=K)) (rv 1) aG) aG) (aj aG ak))) (aj (aZ (yU rfl) rfl T.KQ Iv (aj (dw bI (cH (cV (K:=K)) (rv 1) aG) aG) (aj (qO (K:=K) (rv 0)) ak))) ak))) (bx (i:=4) Cm.nd rfl (Or.inl rfl)) (aD (dR (bF (Mw.or (M7 (K:=K) hu)) (gk (aj (rv 3) (aj (rv 4) ak))) (rv 1) (cg _)) (aD (gb (kh (K:=K) jV lU lV dJ (rv 2) (aj (gk (aj (rv 3) (aj (rv 4) ak))) ak)))) bO)))))) (aD (RS.nox (bB (rv 2))))))),?_⟩;refine aC (fun zzs H1=>inF zs.length w c/\Same H H1/\zzs=[zzR x,some v,zzN,zzN,zzN]) (fun R hR=>?_) ?_
  ·refine⟨_,rfl,_,rfl,x,v,zs,w,c,rfl,vt,dv,_,rfl,?_⟩;refine dD (fun h1=>⟨by decide,hE (j6 (by simpa only[qm] using h1)) H (Same.refl _)⟩) (fun h1=>hR _ _ ⟨cI (by simpa only[wN] using h1),Same.refl _,rfl⟩)
  rintro zzs H1 ⟨hin,s1,rfl⟩;have hq':=hq hin;rw[<- Xi z6 w6 hin] at hq';obtain⟨⟨c1,c2⟩,⟨c3,c4⟩⟩:=id hin;refine aC (fun zzs H2=>∃ q,H q=none/\Same H H2/\H2 q=some (.lst [])/\zzs=[zzR x,some v,zzR q,zzN,zzN]) (fun R hR=>?_) ?_
  ·exact⟨by decide,fun q hq'=>hR _ _ ⟨q,s1.free hq',s1.and hq',au,rfl⟩⟩
  rintro zzs H2 ⟨q,nq,s2,hq2,rfl⟩;have m1:(if(0:Int)>c.1-1 then(0:Int) else c.1-1)=max (c.1-1) 0:=RZ _;have m2:(if(zs.length:Int)<c.1+2 then(zs.length:Int) else c.1+2)=min (c.1+2) zs.length:=S6 _ _;have m3:(if(0:Int)>c.2-1 then(0:Int) else c.2-1)=max (c.2-1) 0:=RZ _;have m4:(if(w:Int)<c.2+2 then(w:Int) else c.2+2)=min (c.2+2) w:=S6 _ _;have bx1:=Wx (a:=c.1-1) (by lia);have bx2:=Wx (a:=c.2-1) (by lia);have bn1:=Wz (a:=c.1+2) (b:=(zs.length:Int)) (by lia) (by lia) (by lia);have bn2:=Wz (a:=c.2+2) (b:=(w:Int)) (by lia) (by lia) (by lia);refine aC (fun zzs H3=>∃(v3 v4:Option V),Fr K H H3 q ((Px zs.length w c).map aB)/\zzs=[zzR x,some v,zzR q,v3,v4]) (fun R hR=>?_) ?_
  ·obtain⟨dx,l,hx,hl⟩:=(vt.mono s2).ob;refine⟨_,rfl,qU (dv.mono s2) ⟨_,_,rfl,rfl,_,_,rfl,?_⟩⟩;refine⟨_,rfl,qU (dv.mono s2) ⟨_,rfl,x,Z.View,dx,_,_,rfl,hx,T.iB,T.gH,Dq _ _ _,_,_,rfl,_,_,rfl,?_⟩⟩;rw[m1,m2];refine⟨XM bx1 bn1,?_⟩;refine gR (lo:=max (c.1-1) 0) (n:=(min (c.1+2) (zs.length:Int)-max (c.1-1) 0).toNat) (fun i zzs H3=>∃(v3 v4:Option V),Same H H3/\Ls K H3 q ((qR w c (max (c.1-1) 0) i).map aB)/\zzs=[zzR x,some v,zzR q,v3,v4]) ⟨none,none,s2,⟨[],hq2,.nil⟩,rfl⟩ (fun i zzs H3 hi hh=>?_) (fun zzs H3 hh=>?_)
   ·obtain⟨v3,v4,g1,g2,rfl⟩:=hh;obtain⟨dx,l,hx,hl⟩:=(vt.mono g1).ob;refine⟨_,rfl,qW (dv.mono g1) ⟨_,_,rfl,rfl,_,_,rfl,?_⟩⟩;refine⟨_,rfl,qW (dv.mono g1) ⟨_,rfl,x,Z.View,dx,_,_,rfl,hx,T.iB,T.iG,Jf _ _ _,_,_,rfl,_,_,rfl,?_⟩⟩;rw[m3,m4];refine⟨XM bx2 bn2,?_⟩;have base0:qR w c (max (c.1-1) 0) (i+1)=qR w c (max (c.1-1) 0) i++Ca w c (max (c.1-1) 0+(i:Int)):=by
     unfold qR;rw[vP,Ab];simp
    have pl:∀ n,(qR w c (max (c.1-1) 0) n).length<=n*6:=by
     intro n
     induction n with
     |zero=>simp[qR]
     |succ n ih=>
      unfold qR at ih ⊢;rw[vP,Ab,c7];have:([n].flatMap fun k:Nat=>Ca w c (max (c.1-1) 0+(k:Int))).length<=6:=by
       simp only[Ae,List.flatMap_nil,rT];unfold Ca;refine cX (iQ _ _) ?_;rw[aR,jX];exact a2K bx2.1 bn2.2
      exact a6c ih this
    refine gR (lo:=max (c.2-1) 0) (n:=(min (c.2+2) (w:Int)-max (c.2-1) 0).toNat) (fun j zzs H3=>∃ v4:Option V,Same H H3/\Ls K H3 q ((qR w c (max (c.1-1) 0) i++((List.range j).map fun k:Nat=>(max (c.1-1) 0+(i:Int),max (c.2-1) 0+(k:Int))).filter fun y=>!decide (y=c)).map aB)/\zzs=[zzR x,some v,zzR q,zzI (max (c.1-1) 0+(i:Int)),v4])
     ⟨v4,g1,by simpa using g2,rfl⟩ (fun j zzs H3 hj hh=>?_) (fun zzs H3 hh=>?_)
    ·obtain⟨v4,g1,⟨xs,ex,D⟩,rfl⟩:=hh;have step:∀ b:Bool,b=!decide ((max (c.1-1) 0+(i:Int),max (c.2-1) 0+(j:Int))=c)->(((List.range (j+1)).map fun k:Nat=>(max (c.1-1) 0+(i:Int),max (c.2-1) 0+(k:Int))).filter fun y=>!decide (y=c))=(((List.range j).map fun k:Nat=>(max (c.1-1) 0+(i:Int),max (c.2-1) 0+(k:Int))).filter fun y=>!decide (y=c))++(if b=true then [(max (c.1-1) 0+(i:Int),max (c.2-1) 0+(j:Int))] else []):=by
      intro b hb;rw[vP,dM,uK,gq,FN,wQ,List.filter_nil,<- hb]
     have ll:xs.length<=100:=by
      rw[D.length,aR,c7];have:=pl i;have h2:(((List.range j).map fun k:Nat=>(max (c.1-1) 0+(i:Int),max (c.2-1) 0+(k:Int))).filter fun y=>!decide (y=c)).length<=j:=cX (iQ _ _) (by rw[aR,jX];exact bK _);exact a5v this h2 (VD bx1.1 bn1.2 hi) (VD bx2.1 bn2.2 hj)
     refine⟨_,rfl,_,rfl,sz rfl,fun t ht=>?_⟩;have st:=Same.put (o:=.tup [V.int (max (c.1-1) 0+(i:Int)),V.int (max (c.2-1) 0+(j:Int))]) ht;refine⟨_,rfl,.inr ⟨aB (max (c.1-1) 0+(i:Int),max (c.2-1) 0+(j:Int)),aB c,rfl,iK,dv.mono (g1.trans st),rfl,Dh _,?_⟩⟩;refine⟨_,rfl,?_⟩;show if(!eqD _ _)=true then _ else _
     rw[a2R];refine dD (fun hb=>?_) (fun hb=>?_)
     ·refine⟨_,rfl,.inl ⟨rfl,_,SqL.of (st _ _ ex)⟩,_,rfl,_,rfl,sz rfl,fun t2 ht2=>?_⟩;have st2:=Same.put (o:=.tup [V.int (max (c.1-1) 0+(i:Int)),V.int (max (c.2-1) 0+(j:Int))]) ht2;have e2:=st2 _ _ (st _ _ ex);refine⟨q,xs,_,rfl,rfl,e2,ltl (K4 ll (by decide)),?_⟩;refine⟨_,(SameBut.refl q _).put.of (g1.trans (st.trans st2)) nq,⟨xs++[.ref t2],au,?_⟩,rfl⟩;rw[step true hb.symm,<- yr,dM];exact((SameBut.refl q _).put.cells e2 (D.mono (st.trans st2))).append (.cons ((SameBut.refl q _).put.cell e2 iK) .nil)
     ·refine⟨_,g1.trans st,⟨xs,st _ _ ex,?_⟩,rfl⟩;rw[step false hb.symm];simpa using D.mono st
    ·obtain⟨v4,g1,g2,rfl⟩:=hh;exact⟨_,_,g1,by rw[base0];exact g2,rfl⟩
   ·obtain⟨v3,v4,g1,g2,rfl⟩:=hh;exact hR _ _ ⟨v3,v4,⟨g1,nq,g2⟩,rfl⟩
  rintro zzs H3 ⟨v3,v4,fr,rfl⟩;exact⟨_,rfl,hq' q H3 fr⟩
theorem Mv{f:Addr}{fd:FuncData} (F:Fun K "open_near" "open_near" u9 f fd) (T:Txt K mg Z) (yJ:Df P w K mg base 2 "near" ["view","cell"] (Jy K Z.View Z.NoCell)) (cN:Df P w K mg base 2 "is_closed" ["view","cell"] (lA K Z.View)) :
  cY P w K mg base (CXE P w) 3 f fd ["view","cell"] (rE K Z.View aN):=by
 refine F.rok Jx (fun vs H Q E h=>?_) (fun cdv A outer s H vs Q E hr h=>?_)
 ·obtain⟨x,v,zs,w,c,rfl,_⟩:=h;rfl
 ·obtain⟨x,v,zs,w,c,rfl,vt,dv,hin,hq⟩:=h;refine⟨_,(aD (bB (fZ (by rfl) rfl (aV (K:=K) (aY yJ hr rfl bf (aj (rv 0) (aj (rv 1) ak)))) (fun _ _ _=>(fB (qX (kZ (aY cN hr rfl bf (aj (rv 1) (aj (rv 0) ak))))))) (fun _ _ _=>(rv 0))))),?_⟩;refine⟨_,rfl,_,rfl,x,v,zs,w,c,rfl,vt,dv,fun _ q H1 fr=>?_,fun z=>absurd hin z⟩;obtain⟨xs,ex,D⟩:=fr.ls;refine⟨q,rfl,⟨_,SqL.of ex⟩,dG (K:=K) (xs:=bQ zs.length w c) (enc:=aB) (bJ (SqL.of ex)) D (small (by have:=fW zs.length w c;lia)) (fun y=>!aL zs w y) aB (fun y hy u H2 s2 d G hG=>?_) (fun y hy _ u H2 s2 d G hG=>⟨_,rfl,hG _ _ (Same.refl _) d⟩) (fun ys H2 s2 D2 q2 hq2=>?_)⟩
  ·exact⟨_,rfl,_,rfl,x,u,zs,w,y,rfl,vt.mono (fr.same.trans s2),d,_,rfl,hG _ (Same.refl _)⟩
  ·exact hq q2 _ ⟨fr.same.trans (s2.and hq2),(fr.same.trans s2).free hq2,.new hq2 D2⟩
theorem Gp{f:Addr}{fd:FuncData} (F:Fun K "closed_near" "closed_near" pA f fd) (T:Txt K mg Z) (yJ:Df P w K mg base 2 "near" ["view","cell"] (Jy K Z.View Z.NoCell)) (cN:Df P w K mg base 2 "is_closed" ["view","cell"] (lA K Z.View)) :
  cY P w K mg base (CXE P w) 3 f fd ["view","cell"] (rE K Z.View aF):=by
 refine F.rok Ep (fun vs H Q E h=>?_) (fun cdv A outer s H vs Q E hr h=>?_)
 ·obtain⟨x,v,zs,w,c,rfl,_⟩:=h;rfl
 ·obtain⟨x,v,zs,w,c,rfl,vt,dv,hin,hq⟩:=h;refine⟨_,(aD (bB (fZ (by rfl) rfl (aV (K:=K) (aY yJ hr rfl bf (aj (rv 0) (aj (rv 1) ak)))) (fun _ _ _=>(fB (kZ (aY cN hr rfl bf (aj (rv 1) (aj (rv 0) ak)))))) (fun _ _ _=>(rv 0))))),?_⟩;refine⟨_,rfl,_,rfl,x,v,zs,w,c,rfl,vt,dv,fun _ q H1 fr=>?_,fun z=>absurd hin z⟩;obtain⟨xs,ex,D⟩:=fr.ls;refine⟨q,rfl,⟨_,SqL.of ex⟩,dG (K:=K) (xs:=bQ zs.length w c) (enc:=aB) (bJ (SqL.of ex)) D (small (by have:=fW zs.length w c;lia)) (fun y=>aL zs w y) aB (fun y hy u H2 s2 d G hG=>?_) (fun y hy _ u H2 s2 d G hG=>⟨_,rfl,hG _ _ (Same.refl _) d⟩) (fun ys H2 s2 D2 q2 hq2=>?_)⟩
  ·exact⟨_,rfl,_,rfl,x,u,zs,w,y,rfl,vt.mono (fr.same.trans s2),d,_,rfl,hG _ (Same.refl _)⟩
  ·exact hq q2 _ ⟨fr.same.trans (s2.and hq2),(fr.same.trans s2).free hq2,.new hq2 D2⟩
theorem Uy{f:Addr}{fd:FuncData} (F:Fun K "closed" "closed" Ek f fd) (T:Txt K mg Z) (uM:Df P w K mg base 1 "cells" ["view"] (wI K Z.View)) (cN:Df P w K mg base 2 "is_closed" ["view","cell"] (lA K Z.View)) :
  cY P w K mg base (CXE P w) 3 f fd ["view"] (uf K Z.View dZ):=by
 refine F.rok Vg (fun vs H Q E h=>?_) (fun cdv A outer s H vs Q E hr h=>?_)
 ·obtain⟨x,zs,w,rfl,_⟩:=h;rfl
 ·obtain⟨x,zs,w,rfl,vt,hq⟩:=h;have l36:zs.length*w<=6*6:=lY vt.vw.le vt.vw.w6;refine⟨_,(aD (bB (fZ (by rfl) rfl (aV (K:=K) (aY uM hr rfl bf (aj (rv 0) ak))) (fun _ _ _=>(fB (kZ (aY cN hr rfl bf (aj (rv 1) (aj (rv 0) ak)))))) (fun _ _ _=>(rv 0))))),?_⟩;refine⟨_,rfl,x,zs,w,rfl,vt,fun q H1 fr=>?_⟩;obtain⟨xs,ex,D⟩:=fr.ls;refine⟨q,rfl,⟨_,SqL.of ex⟩,dG (K:=K) (xs:=cB zs.length w) (enc:=aB) (bJ (SqL.of ex)) D (small (by rw[gB];lia)) (aL zs w) aB (fun y hy u H2 s2 d G hG=>?_) (fun y hy _ u H2 s2 d G hG=>⟨_,rfl,hG _ _ (Same.refl _) d⟩) (fun ys H2 s2 D2 q2 hq2=>?_)⟩
  ·exact⟨_,rfl,_,rfl,x,u,zs,w,y,rfl,vt.mono (fr.same.trans s2),d,_,rfl,hG _ (Same.refl _)⟩
  ·exact hq q2 _ ⟨fr.same.trans (s2.and hq2),(fr.same.trans s2).free hq2,.new hq2 D2⟩
theorem WX{f:Addr}{fd:FuncData} (F:Fun K "edge" "edge" PX f fd) (T:Txt K mg Z) (pC:Df P w K mg base 3 "closed" ["view"] (uf K Z.View dZ)) (dW:Df P w K mg base 3 "open_near" ["view","cell"] (rE K Z.View aN)) :
  cY P w K mg base (CXE P w) 4 f fd ["view"] (uf K Z.View aX):=by
 refine F.rok a1K (fun vs H Q E h=>?_) (fun cdv A outer s H vs Q E hr h=>?_)
 ·obtain⟨x,zs,w,rfl,_⟩:=h;rfl
 ·obtain⟨x,zs,w,rfl,vt,hq⟩:=h;have l36:=gC vt.vw;refine⟨_,(aD (bB (fZ (by rfl) rfl (aV (K:=K) (aY pC hr rfl bf (aj (rv 0) ak))) (fun _ _ _=>(fB (bF Bj (aZ (eZ (K:=K)) rfl T.eG cJ (aj (aY dW hr rfl bf (aj (rv 1) (aj (rv 0) ak))) ak)) aG (cg _)))) (fun _ _ _=>(rv 0))))),?_⟩;refine⟨_,rfl,x,zs,w,rfl,vt,fun q H1 fr=>?_⟩;obtain⟨xs,ex,D⟩:=fr.ls;refine⟨q,rfl,⟨_,SqL.of ex⟩,dG (K:=K) (xs:=dZ zs w) (enc:=aB) (bJ (SqL.of ex)) D (small (by lia)) (fun y=>decide (0<(aN zs w y).length)) aB (fun y hy u H2 s2 d G hG=>?_) (fun y hy _ u H2 s2 d G hG=>⟨_,rfl,hG _ _ (Same.refl _) d⟩) (fun ys H2 s2 D2 q2 hq2=>?_)⟩
  ·refine⟨_,rfl,_,rfl,x,u,zs,w,y,rfl,vt.mono (fr.same.trans s2),d,dI.mp (cC.mp hy).1,fun q3 H3 f3=>?_⟩;obtain⟨ws,e3,D3⟩:=f3.ls;refine .inl ⟨q3,_,rfl,.inl (SqL.of e3),_,_,rfl,rfl,_,rfl,?_⟩;rw[D3.length,aR];have e:decide ((0:Int)<((aN zs w y).length:Nat))=decide (0<(aN zs w y).length):=by congr 1;apply propext;omega
   rw[e];exact hG _ f3.same
  ·exact hq q2 _ ⟨fr.same.trans (s2.and hq2),(fr.same.trans s2).free hq2,.new hq2 D2⟩
theorem a0M{f:Addr}{fd:FuncData} (F:Fun K "far" "far" Y7 f fd) (T:Txt K mg Z) (pC:Df P w K mg base 3 "closed" ["view"] (uf K Z.View dZ)) (dW:Df P w K mg base 3 "open_near" ["view","cell"] (rE K Z.View aN)) :
  cY P w K mg base (CXE P w) 4 f fd ["view"] (uf K Z.View rN):=by
 refine F.rok a4D (fun vs H Q E h=>?_) (fun cdv A outer s H vs Q E hr h=>?_)
 ·obtain⟨x,zs,w,rfl,_⟩:=h;rfl
 ·obtain⟨x,zs,w,rfl,vt,hq⟩:=h;have l36:=gC vt.vw;have hu:=lK hr;refine⟨_,(aD (bB (fZ (by rfl) rfl (aV (K:=K) (aY pC hr rfl bf (aj (rv 0) ak))) (fun _ _ _=>(fB (bF (kE.or (jZ (K:=K) hu)) (aZ (eZ (K:=K)) rfl T.eG cJ (aj (aY dW hr rfl bf (aj (rv 1) (aj (rv 0) ak))) ak)) aG (cg _)))) (fun _ _ _=>(rv 0))))),?_⟩;refine⟨_,rfl,x,zs,w,rfl,vt,fun q H1 fr=>?_⟩;obtain⟨xs,ex,D⟩:=fr.ls;refine⟨q,rfl,⟨_,SqL.of ex⟩,dG (K:=K) (xs:=dZ zs w) (enc:=aB) (bJ (SqL.of ex)) D (small (by lia)) (fun y=>decide ((aN zs w y).length=0)) aB (fun y hy u H2 s2 d G hG=>?_) (fun y hy _ u H2 s2 d G hG=>⟨_,rfl,hG _ _ (Same.refl _) d⟩) (fun ys H2 s2 D2 q2 hq2=>?_)⟩
  ·refine⟨_,rfl,_,rfl,x,u,zs,w,y,rfl,vt.mono (fr.same.trans s2),d,dI.mp (cC.mp hy).1,fun q3 H3 f3=>?_⟩;obtain⟨ws,e3,D3⟩:=f3.ls;refine .inl ⟨q3,_,rfl,.inl (SqL.of e3),.inl ⟨rfl,_,rfl,?_⟩⟩;rw[D3.length,aR,Bc];have e:decide (((aN zs w y).length:Int)=0)=decide ((aN zs w y).length=0):=by congr 1;apply propext;lia
   rw[e];exact hG _ f3.same
  ·exact hq q2 _ ⟨fr.same.trans (s2.and hq2),(fr.same.trans s2).free hq2,.new hq2 D2⟩
end
theorem Lp:∀ ws:List Str,vH (ws.map Dt.str)=0
 |[]=>rfl
 |w::ws=>by rw[gq];unfold vH;rw[Lp ws];rfl
theorem a0c(ws:List Str):vq (.lst (ws.map Dt.str))<=50:=by unfold vq;rw[Lp];decide
theorem Rx{K:ao}{H:Hp}{p:Addr}{ws:List Str}(h:H p=some (.lst (ws.map V.str))):Den K H (.ref p) (.lst (ws.map Dt.str)):=.lst (SqL.of h) (aU.strs ws)
theorem a2V(zs:List Str)(w:Nat):W4 zs w=aX zs w:=(a0g zs w).symm
theorem W0{K:ao}{H:Hp}{xs:List V}{cs:List Cell}{v:V}(D:aU K H xs (cs.map aB))(h:v∈xs):∃ c∈cs,Den K H v (aB c):=by
 obtain⟨i,hi⟩:=List.mem_iff_getElem?.mp h;obtain⟨d,ed,dd⟩:=D.get hi;rw[cQ] at ed;obtain⟨c,ec,rfl⟩:=gn.mp ed;exact⟨c,fJ ec,dd⟩
theorem Hg{K:ao}{H:Hp}{m:Cell}:∀ {wt:List Cell} {xs:List V},aU K H xs ((wt++[m]).map aB)->∃ ys u,xs=ys++[u]/\aU K H ys (wt.map aB)/\Den K H u (aB m)
 |[],xs,D=>by
  cases D with
  |cons h t=>
   cases t;exact⟨[],_,rfl,.nil,h⟩
 |c::wt,xs,D=>by
  cases D with
  |cons h t=>
   obtain⟨ys,u,rfl,a,b⟩:=Hg (wt:=wt) t;exact⟨_::ys,u,rfl,.cons h a,b⟩
theorem Im{a b:List Cell}(h1:a.Pairwise cF)(h2:b.Pairwise cF)(hm:∀ y,y∈a↔y∈b):a=b:=by
 have pm:a.Perm b:=(JK (jQ h1) (jQ h2)).mpr hm;refine Zg (le:=cF) (fun x y _ _ h1 h2=>?_) h1 h2 pm;unfold cF at h1 h2;lia
def Et(K:ao)(C:Addr):Sp:=fun vs H Q _=>∃(x:Addr)(v:V)(zs:List Str)(w:Nat)(c:Cell),vs=[.ref x,v]/\gA C H x zs w/\Den K H v (aB c)/\inF zs.length w c/\aL zs w c=false/\Q (.int (dO zs c)) H
section
variable{P:Program}{w:World}{K:ao}{mg:Str->Option Value}{base:Heap}{Z:Adr}
theorem Pk{f:Addr}{fd:FuncData} (F:Fun K "figure" "figure" El f fd) (T:Txt K mg Z):cY P w K mg base (CXE P w) 1 f fd ["view","cell"] (Et K Z.View):=by
 refine F.rok Vh (fun vs H Q E h=>?_) (fun cdv A outer s H vs Q E hr h=>?_)
 ·obtain⟨x,v,zs,w,c,rfl,_⟩:=h;rfl
 ·obtain⟨x,v,zs,w,c,rfl,vt,dv,hin,hc,hq⟩:=h;obtain⟨dx,l,hx,hl⟩:=vt.ob;have dg:=vt.vw.digit hin hc;refine⟨_,(aD (bB (jN GC rfl T.Gu CG (aj (cH (cV (K:=K)) (cH (cV (K:=K)) (qO (K:=K) (rv 0)) (cH (cV (K:=K)) (rv 1) aG)) (cH (cV (K:=K)) (rv 1) aG)) ak)))),?_⟩;obtain⟨⟨a1,a2⟩,⟨a3,a4⟩⟩:=id hin;have e1:c.1=((c.1.toNat:Nat):Int):=by lia
  have e2:c.2=((c.2.toNat:Nat):Int):=by lia
  have i1:c.1.toNat<zs.length:=by lia
  refine⟨_,rfl,x,Z.View,dx,_,_,rfl,hx,T.iB,T.jc,Ov _ _ _,_,rfl,qU dv ?_⟩;rw[e1];refine Ef (SqL.of hl) i1 ⟨_,rfl,qW dv ?_⟩;rw[e2];exact xT (SqL.of hl) vt.vw.toRect i1 (by lia) ⟨_,rfl,dg.1,by lia,hq⟩
end
inductive je(zs:List Str)(w:Nat)(c:Cell):Cell->Prop
 |base:je zs w c c
 |step {x t y:Cell}:je zs w c x->t∈aN zs w x->y∈aF zs w t->je zs w c y
theorem vG{zs:List Str}{w:Nat}{t y:Cell}(h:y∈aF zs w t):inF zs.length w y/\aL zs w y=true:=by
 unfold aF at h;obtain⟨h1,h2⟩:=cC.mp h;exact⟨tM h1,h2⟩
theorem Mx{zs:List Str}{w:Nat}{t y:Cell}(h:y∈aN zs w t):inF zs.length w y:=by
 unfold aN at h;exact tM (cC.mp h).1
theorem je.inF{zs:List Str}{w:Nat}{c y:Cell}(h0:L2.inF zs.length w c)(r:je zs w c y):L2.inF zs.length w y:=by
 cases r with
 |base=>exact h0
 |step _ _ h=>exact(vG h).1
def fG(cs:List Cell):List (List Key×V):=cs.map fun c=>(iC c,V.bl true)
theorem pN(c:Cell):∀ cs:List Cell,vC (fG cs) (iC c)=if c∈cs then some (.bl true) else none
 |[]=>rfl
 |a::cs=>by
  show vC ((iC a,V.bl true)::fG cs) (iC c)=_;by_cases e:a=c
  ·subst e;rw[uq rfl,aK dY]
  ·rw[uo (fun z=>e (DG z)),pN c cs];by_cases m:c∈cs
   ·rw[aK m,aK (fU _ m)]
   ·rw[aH m,aH (fun z=>(cW.mp z).elim (fun q=>e q.symm) m)]
theorem Hh(cs:List Cell)(c:Cell)(nc:c∉cs):putK (fG cs) (iC c) (.bl true)=fG (cs++[c]):=by
 rw[MJ _ (by rw[pN,aH nc])];unfold fG;rw[dM];rfl
structure sV(zs:List Str)(w:Nat)(c:Cell)(fd wt:List Cell):Prop where
 nd:fd.Nodup
 has:c∈fd
 rch:∀ y∈fd,je zs w c y
 sub:∀ y∈wt,y∈fd
 cl:∀ x∈fd,x∉wt->∀ t∈aN zs w x,∀ y∈aF zs w t,y∈fd
 ln:wt.length<=fd.length
theorem sV.len{zs:List Str}{w:Nat}{c:Cell}{fd wt:List Cell}(j:sV zs w c fd wt)(h0:inF zs.length w c)(h6:zs.length<=6)(w6:w<=6):fd.length<=36:=by
 have:=lO (l2:=cB zs.length w) j.nd fun y hy=>dI.mpr ((j.rch y hy).inF h0)
 rw[gB] at this;have:zs.length*w<=6*6:=lY h6 w6;lia
theorem sV.done{zs:List Str}{w:Nat}{c:Cell}{fd:List Cell}(j:sV zs w c fd [])(y:Cell):y∈fd↔je zs w c y:=by
 refine⟨j.rch y,fun r=>?_⟩
 induction r with
 |base=>exact j.has
 |step _ ht hy ih=>exact j.cl _ ih (by intro z;cases z) _ ht _ hy
structure JoP(zs:List Str)(w:Nat)(c m:Cell)(fd wt:List Cell)(Dn:Cell->Prop):Prop where
 nd:fd.Nodup
 has:c∈fd
 rch:∀ y∈fd,je zs w c y
 sub:∀ y∈wt,y∈fd
 hm:m∈fd
 cl:∀ x∈fd,x∉wt->x≠m->∀ t∈aN zs w x,∀ y∈aF zs w t,y∈fd
 ln:wt.length+1<=fd.length
 dn:∀ y,Dn y->y∈fd
theorem JoP.imp{zs:List Str}{w:Nat}{c m:Cell}{fd wt:List Cell}{Dn Dn':Cell->Prop}(j:JoP zs w c m fd wt Dn)(h:∀ y,Dn' y->y∈fd):JoP zs w c m fd wt Dn':=⟨j.nd,j.has,j.rch,j.sub,j.hm,j.cl,j.ln,h⟩
theorem JoP.add{zs:List Str}{w:Nat}{c m y:Cell}{fd wt:List Cell}{Dn:Cell->Prop}(j:JoP zs w c m fd wt Dn)(ny:y∉fd)(ry:je zs w c y):JoP zs w c m (fd++[y]) (wt++[y]) Dn:=by
 refine⟨yt.mpr ⟨j.nd,by simp,fun a ha b hb e=>ny (by rw[<- dB.mp hb,<- e];exact ha)⟩,jE _ j.has,fun x hx=>?_,fun x hx=>?_,jE _ j.hm,fun x hx nx xm t ht z hz=>?_,?_,fun x hx=>jE _ (j.dn x hx)⟩
 ·rcases cR.mp hx with q|q
  ·exact j.rch x q
  ·rw[dB.mp q];exact ry
 ·rcases cR.mp hx with q|q
  ·exact jE _ (j.sub x q)
  ·exact jW _ q
 ·rcases cR.mp hx with q|q
  ·exact jE _ (j.cl x q (fun q2=>nx (jE _ q2)) xm t ht z hz)
  ·exact absurd (jW _ q) nx
 ·have:=j.ln;rw[c7,c7,jm];lia
theorem sV.pop{zs:List Str}{w:Nat}{c m:Cell}{fd wt:List Cell}(j:sV zs w c fd (wt++[m])):JoP zs w c m fd wt (fun _=>False):=by
 refine⟨j.nd,j.has,j.rch,fun y hy=>j.sub y (jE _ hy),j.sub m (jW _ (dB.mpr rfl)),fun x hx nx xm=>j.cl x hx fun z=>?_,?_,fun y hy=>hy.elim⟩
 ·rcases cR.mp z with q|q
  ·exact nx q
  ·exact xm (dB.mp q)
 ·have:=j.ln;rw[c7,jm] at this;exact this
theorem JoP.inv{zs:List Str}{w:Nat}{c m:Cell}{fd wt:List Cell}{Dn:Cell->Prop}(j:JoP zs w c m fd wt Dn)(h:∀ t∈aN zs w m,∀ y∈aF zs w t,Dn y):sV zs w c fd wt:=by
 refine⟨j.nd,j.has,j.rch,j.sub,fun x hx nx t ht y hy=>?_,cX (oE _) j.ln⟩;by_cases e:x=m
 ·subst e;exact j.dn y (h t ht y hy)
 ·exact j.cl x hx nx e t ht y hy
theorem JoP.len{zs:List Str}{w:Nat}{c m:Cell}{fd wt:List Cell}{Dn:Cell->Prop}(j:JoP zs w c m fd wt Dn)(h0:inF zs.length w c)(h6:zs.length<=6)(w6:w<=6):fd.length<=36:=by
 have:=lO (l2:=cB zs.length w) j.nd fun y hy=>dI.mpr ((j.rch y hy).inF h0)
 rw[gB] at this;have:zs.length*w<=6*6:=lY h6 w6;lia
def Eu(K:ao)(C:Addr):Sp:=fun vs H Q _=>∃(x:Addr)(v:V)(zs:List Str)(w:Nat)(c:Cell),vs=[.ref x,v]/\gA C H x zs w/\Den K H v (aB c)/\inF zs.length w c /\
 ∀(q:Addr)(H':Hp)(ds:List Cell),H q=none->Same H H'->Ls K H' q (ds.map aB)->ds.Pairwise cF->(∀ y,y∈ds↔je zs w c y)->Q (.ref q) H'
section
variable{P:Program}{w:World}{K:ao}{mg:Str->Option Value}{base:Heap}{Z:Adr}
theorem UG{f:Addr}{fd:FuncData} (F:Fun K "joined" "joined" En f fd) (T:Txt K mg Z) (dW:Df P w K mg base 3 "open_near" ["view","cell"] (rE K Z.View aN)) (fj:Df P w K mg base 3 "closed_near" ["view","cell"] (rE K Z.View aF)) :
  cY P w K mg base (CXE P w) 4 f fd ["view","cell"] (Eu K Z.View):=by
 refine F.rok mX (fun vs H Q E h=>?_) (fun cdv A outer s H vs Q E hr h=>?_)
 ·obtain⟨x,v,zs,w,c,rfl,_⟩:=h;rfl
 ·obtain⟨x,v,zs,w,c,rfl,vt,dv,hin,hq⟩:=h;have hu:=lK hr;have z6:=vt.vw.le;have w6:=vt.vw.w6;obtain⟨tv,rfl,_,htv⟩:=fY dv;refine⟨_,(aA (aW (i:=2) mX.nd rfl (Or.inl rfl) (a1E hu (rv 1) qb)) (aA (aW (i:=3) mX.nd rfl (Or.inl rfl) (bZ (aj (rv 1) ak))) (aA (Ni eU (bF Bj (aZ (eZ (K:=K)) rfl T.eG cJ (aj (rv 3) ak)) aG (cg _)) (aA (aW (i:=4) mX.nd rfl (Or.inl rfl) (a3q (K:=K) jV PySem.F.slot_list_pop PySem.F.type_list_pop a3A (rv 3))) (aD (cL eU rfl (aV (K:=K) (aY dW hr rfl bf (aj (rv 0) (aj (rv 4) ak)))) (bx (i:=5) mX.nd rfl (Or.inl rfl)) (aD (cL eU rfl (aV (K:=K) (aY fj hr rfl bf (aj (rv 0) (aj (rv 5) ak)))) (bx (i:=6) mX.nd rfl (Or.inl rfl)) (aD (dR (bF (xM hu) (rv 6) (rv 2) (by rfl)) (aA (mz qb (Eh (rv 2) (rv 6) (set_dict hu))) (aD (gb (kh (K:=K) jV lU lV dJ (rv 3) (aj (rv 6) ak))))) bO)))))))) (aD (bB (aZ (a0q (K:=K) rfl hu) rfl T.pH pI (aj (rv 2) ak))))))),?_⟩;refine aC (fun zzs H1=>∃ dd:Addr,H dd=none/\Same H H1/\H1 dd=some (.dT (fG [c]))/\zzs=[zzR x,zzR tv,zzR dd,zzN,zzN,zzN,zzN]) (fun R hR=>?_) ?_
  ·refine fun dd nd=>⟨_,rfl,iC c,tv,au,rfl,?_,hR _ _ ⟨dd,nd,(SameBut.refl dd _).put.of (Same.put nd) nd,au,rfl⟩⟩
   rw[bD (bV htv nd)];exact htv
  rintro zzs H1 ⟨dd,nd,s1,ed,rfl⟩;refine aC (fun zzs H2=>∃ wl:Addr,H wl=none/\wl≠dd/\Same H1 H2/\H2 wl=some (.lst [.ref tv])/\zzs=[zzR x,zzR tv,zzR dd,zzR wl,zzN,zzN,zzN]) (fun R hR=>?_) ?_
  ·exact⟨_,rfl,sz rfl,fun wl nwl=>hR _ _ ⟨wl,s1.free nwl,(bV ed nwl).symm,Same.put nwl,au,rfl⟩⟩
  rintro zzs H2 ⟨wl,nwl,nwd,s2,ewl,rfl⟩;have start:sV zs w c [c] [c]:=⟨by simp,dB.mpr rfl,fun y hy=>by rw[dB.mp hy];exact .base,fun y hy=>hy,fun x hx nx=>absurd hx nx,bK _⟩
  refine aC (fun zzs H3=>∃(fd:List Cell)(v4 v5 v6:Option V),Same H H3/\H3 dd=some (.dT (fG fd))/\sV zs w c fd []/\zzs=[zzR x,zzR tv,zzR dd,zzR wl,v4,v5,v6]) (fun R hR=>?_) ?_
  ·refine⟨fun m zzs H'=>∃(fd wt:List Cell)(v4 v5 v6:Option V),Same H H'/\H' dd=some (.dT (fG fd))/\Ls K H' wl (wt.map aB)/\sV zs w c fd wt/\m=(36-fd.length)*2+wt.length/\zzs=[zzR x,zzR tv,zzR dd,zzR wl,v4,v5,v6],
    ⟨_,[c],[c],none,none,none,s1.trans s2,s2 _ _ ed,⟨_,ewl,.cons (dv.mono (s1.trans s2)) .nil⟩,start,rfl,rfl⟩,?_⟩
   rintro m zzs H' ⟨fd,wt,v4,v5,v6,sh,ed',lw,ji,rfl,rfl⟩;obtain⟨xs,ex,D⟩:=id lw;have lx:xs.length=wt.length:=by rw[D.length,aR]
   have f36:=ji.len hin z6 w6;refine⟨_,rfl,.inl ⟨wl,_,rfl,.inl (SqL.of ex),_,_,rfl,rfl,_,rfl,?_⟩⟩;refine dD (fun hlt=>?_) (fun hlt=>?_)
   ·have hlt:(0:Int)<(xs.length:Int):=cI hlt;obtain⟨wt,m,rfl⟩:∃ wt' m,wt=wt'++[m]:=by
     rcases List.eq_nil_or_concat wt with z|⟨l,b,z⟩
     ·rw[z,Fv] at lx;lia
     ·exact⟨l,b,by rw[z];simp⟩
    obtain⟨xs,u,rfl,Dx,du⟩:=Hg D;obtain⟨tm,rfl,_,htm⟩:=fY du;have mfd:=ji.sub m (jW _ (dB.mpr rfl));have a6T:=(ji.rch m mfd).inF hin;refine⟨fun bT H4=>∃(fd' wt':List Cell)(v4 v5 v6:Option V),Same H H4/\H4 dd=some (.dT (fG fd'))/\Ls K H4 wl (wt'.map aB)/\sV zs w c fd' wt'/\(36-fd'.length)*2+wt'.length<(36-fd.length)*2+(wt++[m]).length/\bT=[zzR x,zzR tv,zzR dd,zzR wl,v4,v5,v6],fun bT H4 hx=>?_,?_⟩
    ·obtain⟨fd',wt',v4,v5,v6,a1,a2,a3,a4,a5,rfl⟩:=hx;exact⟨_,a5,fd',wt',v4,v5,v6,a1,a2,a3,a4,rfl,rfl⟩
    refine aC (fun zzs H4=>Same H H4/\H4 dd=some (.dT (fG fd))/\Ls K H4 wl (wt.map aB)/\Den K H4 (.ref tm) (aB m)/\zzs=[zzR x,zzR tv,zzR dd,zzR wl,zzR tm,v5,v6]) (fun R' hR'=>?_) ?_
    ·refine⟨_,rfl,.inl ⟨rfl,_,SqL.of ex⟩,wl,_,V.ref tm,rfl,rfl,ex,(by simp),?_⟩;rw[List.dropLast_concat];have sw:SameBut wl H' (upd H' wl (.lst xs)):=(SameBut.refl wl _).put;exact hR' _ _ ⟨sw.of sh nwl,sw _ _ ed' nwd.symm,⟨xs,au,sw.cells ex Dx⟩,sw.cell ex du,rfl⟩
    rintro zzs H4 ⟨sh4,ed4,lw4,dm4,rfl⟩;have a7d:(wt++[m]).length=wt.length+1:=by rw[c7,jm]
    refine⟨_,rfl,_,rfl,x,_,zs,w,m,rfl,vt.mono sh4,dm4,a6T,fun q1 H5 f5=>?_⟩;obtain⟨ts,et,Dt'⟩:=f5.ls;have lt8:=xO zs w m;refine⟨q1,rfl,⟨_,SqL.of et⟩,?_⟩;have nq1:H q1=none:=sh4.free f5.new;refine cO (K:=K) (xs:=ts) (fun i zzs H6=>∃(fd' wt':List Cell)(v5 v6:Option V),Same H H6/\H6 q1=some (.lst ts)/\aU K H6 ts ((aN zs w m).map aB)/\H6 dd=some (.dT (fG fd'))/\Ls K H6 wl (wt'.map aB)/\JoP zs w c m fd' wt' (fun y=>∃ t∈(aN zs w m).take i,y∈aF zs w t)/\(36-fd'.length)*2+wt'.length<=(36-fd.length)*2+wt.length/\zzs=[zzR x,zzR tv,zzR dd,zzR wl,zzR tm,v5,v6])
     ⟨fd,wt,v5,v6,sh4.trans f5.same,et,Dt',f5.same _ _ ed4,lw4.mono f5.same,ji.pop.imp (fun y hy=>by obtain⟨t,ht,_⟩:=hy;cases ht),bK _,rfl⟩ (fun i zzs H6 _ hh=>by obtain⟨_,_,_,_,_,e,_⟩:=hh;exact SqL.of e) (fun i u zzs H6 hu' hh=>?_) (fun zzs H6 hh=>?_)
    ·obtain⟨fd1,wt1,v5,v6,sh6,et6,Dt6,ed6,lw6,jp,me,rfl⟩:=hh;obtain⟨dt,edt,du6⟩:=Dt6.get hu';rw[cQ] at edt;obtain⟨t,etq,rfl⟩:=gn.mp edt;have a6n:t∈aN zs w m:=fJ etq;refine⟨_,rfl,_,rfl,x,_,zs,w,t,rfl,vt.mono sh6,du6,Mx a6n,fun q2 H7 f7=>?_⟩;obtain⟨os,eo,Do⟩:=f7.ls;refine⟨q2,rfl,⟨_,SqL.of eo⟩,?_⟩;have los:os.length=(aF zs w t).length:=by rw[Do.length,aR]
     refine cO (K:=K) (xs:=os) (fun j zzs H8=>∃(fd' wt':List Cell)(v6:Option V),Same H H8/\H8 q1=some (.lst ts)/\aU K H8 ts ((aN zs w m).map aB)/\H8 q2=some (.lst os)/\aU K H8 os ((aF zs w t).map aB)/\H8 dd=some (.dT (fG fd'))/\Ls K H8 wl (wt'.map aB)/\JoP zs w c m fd' wt' (fun y=>(∃ t∈(aN zs w m).take i,y∈aF zs w t)\/y∈(aF zs w t).take j)/\(36-fd'.length)*2+wt'.length<=(36-fd.length)*2+wt.length/\zzs=[zzR x,zzR tv,zzR dd,zzR wl,zzR tm,some u,v6])
      ⟨fd1,wt1,v6,sh6.trans f7.same,f7.same _ _ et6,Dt6.mono f7.same,eo,Do,f7.same _ _ ed6,lw6.mono f7.same,jp.imp (fun y hy=>hy.elim (jp.dn y) (fun z=>by cases z)),me,rfl⟩ (fun j zzs H8 _ hh=>by obtain⟨_,_,_,_,_,_,e,_⟩:=hh;exact SqL.of e) (fun j o zzs H8 ho hh=>?_) (fun zzs H8 hh=>?_)
     ·obtain⟨fd2,wt2,v6,sh8,et8,Dt8,eo8,Do8,ed8,lw8,jp2,me2,rfl⟩:=hh;obtain⟨dy,edy,do8⟩:=Do8.get ho;rw[cQ] at edy;obtain⟨y,ey,rfl⟩:=gn.mp edy;have a7e:y∈aF zs w t:=fJ ey;obtain⟨ty,rfl,_,hty⟩:=fY do8;have key:H8 ty=some (.tup ((iC y).map kV)):=hty;have a7i:=jp2.len hin z6 w6;have step:∀ z,(∃ t∈(aN zs w m).take i,z∈aF zs w t)\/z∈(aF zs w t).take (j+1)->((∃ t∈(aN zs w m).take i,z∈aF zs w t)\/z∈(aF zs w t).take j)\/z=y:=fun z hz=>by
       rcases hz with q|q
       ·exact .inl (.inl q)
       ·rw[iT,ey] at q;rcases cR.mp q with q|q
        ·exact .inl (.inr q)
        ·exact .inr (dB.mp q)
      refine⟨_,rfl,_,rfl,dd,_,rfl,yw.t ed8 key,_,rfl,?_⟩;rw[pN];by_cases hf:y∈fd2
      ·rw[aK hf];exact qN ⟨fd2,wt2,_,sh8,et8,Dt8,eo8,Do8,ed8,lw8,jp2.imp (fun z hz=>(step z hz).elim (jp2.dn z) (fun e=>by rw[e];exact hf)),me2,rfl⟩
      ·rw[aH hf];refine zj ?_;have jp3:=jp2.add hf (.step (jp2.rch m jp2.hm) a6n a7e);have a5j:=jp3.len hin z6 w6;rw[c7,jm] at a5j;refine aC (fun zzs H9=>Same H H9/\H9 q1=some (.lst ts)/\aU K H9 ts ((aN zs w m).map aB)/\H9 q2=some (.lst os)/\aU K H9 os ((aF zs w t).map aB)/\H9 dd=some (.dT (fG (fd2++[y])))/\Ls K H9 wl (wt2.map aB)/\Den K H9 (.ref ty) (aB y)/\zzs=[zzR x,zzR tv,zzR dd,zzR wl,zzR tm,some u,zzR ty]) (fun R' hR'=>?_) ?_
       ·refine⟨_,rfl,_,rfl,dd,_,rfl,Kz.t ed8 key (ltl (by unfold fG;rw[aR];lia)),?_⟩;rw[Hh fd2 y hf];have sd:SameBut dd H8 (upd H8 dd (.dT (fG (fd2++[y])))):=(SameBut.refl dd _).put;have tp:Gf H8 (upd H8 dd (.dT (fG (fd2++[y])))):=.put ed8 (by intro xs z;cases z);obtain⟨ws,ew,Dw⟩:=lw8;exact hR' _ _ ⟨sd.of sh8 nd,sd _ _ et8 (pW et8 ed8 (by intro z;cases z)),tp.cells Dt8,sd _ _ eo8 (pW eo8 ed8 (by intro z;cases z)),tp.cells Do8,au,⟨ws,sd _ _ ew nwd,tp.cells Dw⟩,tp.cell do8,rfl⟩
       rintro zzs H9 ⟨sh9,et9,Dt9,eo9,Do9,ed9,⟨ws,ew,Dw⟩,dy9,rfl⟩;have lws:ws.length=wt2.length:=by rw[Dw.length,aR]
       have ln2:=jp2.ln;have a6Z:q1≠wl:=fun z=>by
        have e1:=f5.new;rw[z] at e1;obtain⟨_,e2,_⟩:=lw4;rw[e2] at e1;cases e1
       have a70:q2≠wl:=fun z=>by
        have e1:=f7.new;rw[z] at e1;obtain⟨_,e2,_⟩:=lw6;rw[e2] at e1;cases e1
       refine⟨_,rfl,.inl ⟨rfl,_,SqL.of ew⟩,_,rfl,wl,ws,_,rfl,rfl,ew,ltl (by lia),?_⟩;have sw:SameBut wl H9 (upd H9 wl (.lst (ws++[V.ref ty]))):=(SameBut.refl wl _).put;refine⟨fd2++[y],wt2++[y],_,sw.of sh9 nwl,sw _ _ et9 a6Z,sw.cells ew Dt9,sw _ _ eo9 a70,sw.cells ew Do9,sw _ _ ed9 nwd.symm,⟨_,au,?_⟩,jp3.imp (fun z hz=>(step z hz).elim (fun q=>jE _ (jp2.dn z q)) (fun e=>jW _ (dB.mpr e))),?_,rfl⟩
       ·rw[dM];exact(sw.cells ew Dw).append (.cons (sw.cell ew dy9) .nil)
       ·rw[c7,c7,jm];lia
     ·obtain⟨fd2,wt2,v6,sh8,et8,Dt8,eo8,Do8,ed8,lw8,jp2,me2,rfl⟩:=hh;refine⟨fd2,wt2,_,v6,sh8,et8,Dt8,ed8,lw8,jp2.imp (fun y hy=>?_),me2,rfl⟩;obtain⟨t',ht',hy'⟩:=hy;rw[iT,etq] at ht';rcases cR.mp ht' with q|q
      ·exact jp2.dn y (.inl ⟨t',q,hy'⟩)
      ·rw[dB.mp q] at hy';exact jp2.dn y (.inr (by rw[los,gY];exact hy'))
    ·obtain⟨fd1,wt1,v5,v6,sh6,et6,Dt6,ed6,lw6,jp,me,rfl⟩:=hh;have lts:ts.length=(aN zs w m).length:=by rw[Dt'.length,aR]
     refine⟨fd1,wt1,_,v5,v6,sh6,ed6,lw6,jp.inv fun t ht y hy=>⟨t,by rw[lts,gY];exact ht,hy⟩,by rw[a7d];lia,rfl⟩
   ·have hlt:¬(0:Int)<(xs.length:Int):=j6 hlt;have:wt=[]:=Fe.mp (by lia);subst this;exact hR _ _ ⟨fd,v4,v5,v6,sh,ed',ji,rfl⟩
  rintro zzs H3 ⟨fd,v4,v5,v6,s3,ed3,ji,rfl⟩;have f36:=ji.len hin z6 w6;refine⟨_,rfl,dd,fd,fun _=>.bl true,rfl,ed3,by lia,fun l ws ds hn D' pc as=>?_⟩;exact hq l _ ds (s3.free hn) (s3.and hn) (.new hn D') (O6 as (pc.nodup_iff.mpr ji.nd)) fun y=>by rw[pc.mem_iff];exact ji.done y
end
open Classical in
noncomputable def dH(zs:List Str)(w:Nat)(c:Cell):List Cell:=(cB zs.length w).filter fun y=>decide (je zs w c y)
open Classical in
theorem fL{zs:List Str}{w:Nat}{c y:Cell}(h0:inF zs.length w c):y∈dH zs w c↔je zs w c y:=by
 unfold dH;rw[cC,dI,jo];exact⟨fun h=>h.2,fun h=>⟨h.inF h0,h⟩⟩
open Classical in
theorem mV{zs:List Str}{w:Nat}{c:Cell}(h6:zs.length<=6)(w6:w<=6):(dH zs w c).Pairwise cF:=by
 unfold dH;exact(Hj zs.length (fK.mpr (by lia)) w (fK.mpr (by lia))).filter _
open Classical in
noncomputable def gG(zs:List Str)(w:Nat):List Cell->List (List Cell)->List (List Cell)
 |[],ps=>ps
 |c::cs,ps=>if ∃ p∈ps,c∈p then gG zs w cs ps else gG zs w cs (ps++[dH zs w c])
noncomputable def aO(zs:List Str)(w:Nat):List (List Cell):=gG zs w (aX zs w) []
theorem Lq(cs:List Cell)(c:Cell)(hc:c∈cs):putK (fG cs) (iC c) (.bl true)=fG cs:=by
 unfold putK;have h1:((fG cs).any fun kv=>decide (kv.1=iC c))=true:=by
  rw[um,pN,aK hc];rfl
 rw[aK h1];unfold fG;rw[jY];refine wM fun a _=>?_
 show(if iC a=iC c then(iC a,V.bl true) else(iC a,V.bl true))=(iC a,V.bl true);by_cases e:iC a=iC c
 ·rw[aK e]
 ·rw[aH e]
structure nC(K:ao)(H0 H:Hp)(q:Addr)(qs:List Addr)(ps:List (List Cell)):Prop where
 at_:H q=some (.lst (qs.map V.ref))
 len:qs.length=ps.length
 ls:∀(i:Nat)(a:Addr)(p:List Cell),qs[i]?=some a->ps[i]?=some p->Ls K H a (p.map aB)
 new:∀ a∈qs,H0 a=none
 nd:qs.Nodup
 nq:q∉qs
theorem nC.mono{K:ao}{H0 H H':Hp}{q:Addr}{qs:List Addr}{ps:List (List Cell)}(p:nC K H0 H q qs ps)(s:Same H H'):nC K H0 H' q qs ps:=⟨s _ _ p.at_,p.len,fun i a c h1 h2=>(p.ls i a c h1 h2).mono s,p.new,p.nd,p.nq⟩
theorem nC.snoc{K:ao}{H0 H:Hp}{q a:Addr}{qs:List Addr}{ps:List (List Cell)}{ds:List Cell}(p:nC K H0 H q qs ps)(la:Ls K H a (ds.map aB))(na:H0 a=none)(n1:a∉qs)(n2:a≠q):nC K H0 (upd H q (.lst (qs.map V.ref++[.ref a]))) q (qs++[a]) (ps++[ds]):=by
 have sb:SameBut q H (upd H q (.lst (qs.map V.ref++[.ref a]))):=(SameBut.refl q _).put;refine⟨by rw[au,dM];rfl,by rw[c7,c7,p.len];rfl,fun i b c h1 h2=>?_,fun b hb=>?_,?_,fun z=>?_⟩
 ·by_cases hi:i<qs.length
  ·rw[Ib hi] at h1;rw[Ib (by rw[<- p.len];exact hi)] at h2;exact sb.ls p.at_ (fun z=>p.nq (by rw[<- z];exact fJ h1)) (p.ls i b c h1 h2)
  ·rw[FZ (by lia)] at h1;rw[FZ (by rw[<- p.len];lia)] at h2;have e1:i-qs.length=0:=by
    by_cases z:i-qs.length=0
    ·exact z
    ·rw[Fg (by rw[jm];lia)] at h1;cases h1
   rw[e1] at h1;rw[<- p.len,e1] at h2;cases h1;cases h2;exact sb.ls p.at_ n2 la
 ·rcases cR.mp hb with z|z
  ·exact p.new b z
  ·rw[dB.mp z];exact na
 ·exact yt.mpr ⟨p.nd,by simp,fun x hx y hy e=>n1 (by rw[<- dB.mp hy,<- e];exact hx)⟩
 ·rcases cR.mp z with y|y
  ·exact p.nq y
  ·exact n2 (dB.mp y).symm
def Tc(K:ao)(C:Addr):Sp:=fun vs H Q _=>∃(x:Addr)(zs:List Str)(w:Nat),vs=[.ref x]/\gA C H x zs w /\
 ∀(q:Addr)(qs:List Addr)(H':Hp),H q=none->Same H H'->nC K H H' q qs (aO zs w)->Q (.ref q) H'
section
variable{P:Program}{w:World}{K:ao}{mg:Str->Option Value}{base:Heap}{Z:Adr}
theorem WW{f:Addr}{fd:FuncData} (F:Fun K "parts" "parts" Ju f fd) (T:Txt K mg Z) (yD:Df P w K mg base 4 "edge" ["view"] (uf K Z.View aX)) (pF:Df P w K mg base 4 "joined" ["view","cell"] (Eu K Z.View)) :
  cY P w K mg base (CXE P w) 5 f fd ["view"] (Tc K Z.View):=by
 refine F.rok qd (fun vs H Q E h=>?_) (fun cdv A outer s H vs Q E hr h=>?_)
 ·obtain⟨x,zs,w,rfl,_⟩:=h;rfl
 ·obtain⟨x,zs,w,rfl,vt,hq⟩:=h;have hu:=lK hr;have z6:=vt.vw.le;have w6:=vt.vw.w6;refine⟨_,(aA (aW (i:=1) qd.nd rfl (Or.inl rfl) (bZ ak)) (aA (aW (i:=2) qd.nd rfl (Or.inl rfl) Sw) (aA (cL eU rfl (aV (K:=K) (aY yD hr rfl bf (aj (rv 0) ak))) (bx (i:=3) qd.nd rfl (Or.inl rfl)) (aD (dR (bF (xM hu) (rv 3) (rv 2) (by rfl)) (aA (aW (i:=4) qd.nd rfl (Or.inl rfl) (aY pF hr rfl bf (aj (rv 0) (aj (rv 3) ak)))) (aA (gb (kh (K:=K) jV lU lV dJ (rv 1) (aj (rv 4) ak))) (aD (cL eU rfl (aV (K:=K) (rv 4)) (bx (i:=5) qd.nd rfl (Or.inl rfl)) (aD (mz qb (Eh (rv 2) (rv 5) (set_dict hu)))))))) bO))) (aD (bB (rv 1)))))),?_⟩;refine aC (fun zzs H1=>∃ q:Addr,H q=none/\Same H H1/\H1 q=some (.lst [])/\zzs=[zzR x,zzR q,zzN,zzN,zzN,zzN]) (fun R hR=>?_) ?_
  ·exact⟨by decide,fun q nq=>hR _ _ ⟨q,nq,Same.put nq,au,rfl⟩⟩
  rintro zzs H1 ⟨q,nq,s1,eq1,rfl⟩;refine aC (fun zzs H2=>∃ dd:Addr,H dd=none/\dd≠q/\Same H1 H2/\H2 dd=some (.dT (fG []))/\zzs=[zzR x,zzR q,zzR dd,zzN,zzN,zzN]) (fun R hR=>?_) ?_
  ·exact fun dd nd=>hR _ _ ⟨dd,s1.free nd,(bV eq1 nd).symm,Same.put nd,au,rfl⟩
  rintro zzs H2 ⟨dd,nd,ndq,s2,ed,rfl⟩;refine aC (fun zzs H3=>∃(qs:List Addr)(v3 v4 v5:Option V),Same H H3/\nC K H H3 q qs (aO zs w)/\zzs=[zzR x,zzR q,zzR dd,v3,v4,v5]) (fun R hR=>?_) ?_
  ·refine⟨_,rfl,x,zs,w,rfl,vt.mono (s1.trans s2),fun eg H3 fr=>?_⟩;obtain⟨cs,ec,Dc⟩:=fr.ls;have lcs:cs.length=(aX zs w).length:=by rw[Dc.length,aR]
   refine⟨eg,rfl,⟨_,SqL.of ec⟩,?_⟩;have neg:H eg=none:=(s1.trans s2).free fr.new;refine cO (K:=K) (xs:=cs) (fun i zzs H4=>∃(qs:List Addr)(ps:List (List Cell))(pl:List Cell)(v3 v4 v5:Option V),Same H H4/\H4 eg=some (.lst cs)/\aU K H4 cs ((aX zs w).map aB)/\nC K H H4 q qs ps/\H4 dd=some (.dT (fG pl))/\pl.Nodup/\(∀ y,y∈pl↔∃ p∈ps,y∈p)/\(∀ y∈pl,inF zs.length w y)/\gG zs w ((aX zs w).drop i) ps=aO zs w/\eg≠q/\ps.length<=i/\zzs=[zzR x,zzR q,zzR dd,v3,v4,v5])
    ⟨[],[],[],none,none,none,s1.trans (s2.trans fr.same),ec,Dc,⟨fr.same _ _ (s2 _ _ eq1),rfl,fun i a p h=>(by cases h),fun a ha=>(by cases ha),Av,fun z=>(by cases z)⟩,fr.same _ _ ed,Av,fun y=>⟨fun z=>(by cases z),fun⟨p,hp,_⟩=>(by cases hp)⟩,fun y hy=>(by cases hy),rfl,fun z=>(by have:=fr.new;rw[z,s2 _ _ eq1] at this;cases this),bK _,rfl⟩
    (fun i zzs H4 _ hh=>by obtain⟨_,_,_,_,_,_,_,e,_⟩:=hh;exact SqL.of e) (fun i u zzs H4 hu' hh=>?_) (fun zzs H4 hh=>?_)
   ·obtain⟨qs,ps,pl,v3,v4,v5,sh,ec4,Dc4,pa,ed4,ndp,Wy,inp,go,a0A,lps,rfl⟩:=hh;obtain⟨dc,edc,du⟩:=Dc4.get hu';rw[cQ] at edc;obtain⟨c,ecq,rfl⟩:=gn.mp edc;have a6C:c∈aX zs w:=fJ ecq;have cin:inF zs.length w c:=dI.mp (cC.mp (cC.mp a6C).1).1;obtain⟨tc,rfl,_,htc⟩:=fY du;have key:H4 tc=some (.tup ((iC c).map kV)):=htc;have i36:i<36:=by
     have h1:=(gM.mp ecq).1;have h2:(aX zs w).length<=(dZ zs w).length:=iQ _ _;have h3:=gC vt.vw;lia
    have dr:(aX zs w).drop i=c::(aX zs w).drop (i+1):=by
     have h1:=(gM.mp ecq)
     rw[yp h1.1,h1.2]
    rw[dr] at go;refine⟨_,rfl,_,rfl,dd,_,rfl,yw.t ed4 key,_,rfl,?_⟩;rw[pN];by_cases hp:c∈pl
    ·rw[aK hp];unfold gG at go;rw[aK ((Wy c).mp hp)] at go;exact qN ⟨qs,ps,pl,_,v4,v5,sh,ec4,Dc4,pa,ed4,ndp,Wy,inp,go,a0A,by lia,rfl⟩
    rw[aH hp];unfold gG at go;rw[aH (fun z=>hp ((Wy c).mpr z))] at go;refine zj ?_;refine aC (fun zzs H5=>∃ a:Addr,H4 a=none/\Same H4 H5/\Ls K H5 a ((dH zs w c).map aB)/\zzs=[zzR x,zzR q,zzR dd,zzR tc,zzR a,v5]) (fun R' hR'=>?_) ?_
    ·refine⟨_,rfl,_,rfl,x,_,zs,w,c,rfl,vt.mono sh,du,cin,fun a H5 ds na s5 la as mm=>?_⟩;have e:ds=dH zs w c:=Im as (mV z6 w6) fun y=>by rw[mm y,fL cin]
     rw[e] at la;exact hR' _ _ ⟨a,na,s5,la,rfl⟩
    rintro zzs H5 ⟨a,na,s5,la,rfl⟩;have pa5:=pa.mono s5;have na0:H a=none:=sh.free na;have naq:a≠q:=fun z=>by rw[z] at na;rw[pa.at_] at na;cases na
    have a6U:a∉qs:=fun z=>by
     obtain⟨j,hj⟩:=rP z;have hj':j<ps.length:=by rw[<- pa.len];exact(gM.mp hj).1
     obtain⟨_,e,_⟩:=pa.ls j a ps[j] hj (by simp[hj']);rw[e] at na;cases na
    have a7p:dd≠q:=ndq;have lqs:qs.length<=36:=by rw[pa.len];lia
    refine aC (fun zzs H6=>Same H H6/\H6 eg=some (.lst cs)/\aU K H6 cs ((aX zs w).map aB)/\nC K H H6 q (qs++[a]) (ps++[dH zs w c])/\Ls K H6 a ((dH zs w c).map aB)/\H6 dd=some (.dT (fG pl))/\zzs=[zzR x,zzR q,zzR dd,zzR tc,zzR a,v5]) (fun R' hR'=>?_) ?_
    ·refine⟨_,rfl,.inl ⟨rfl,_,SqL.of pa5.at_⟩,_,rfl,q,_,_,rfl,rfl,pa5.at_,ltl (by rw[aR];lia),?_⟩;have sb:SameBut q H5 (upd H5 q (.lst (qs.map V.ref++[V.ref a]))):=(SameBut.refl q _).put;exact hR' _ _ ⟨sb.of (sh.trans s5) nq,sb _ _ (s5 _ _ ec4) a0A,sb.cells pa5.at_ (Dc4.mono s5),pa5.snoc la na0 a6U naq,sb.ls pa5.at_ naq la,sb _ _ (s5 _ _ ed4) ndq,rfl⟩
    rintro zzs H6 ⟨sh6,ec6,Dc6,pa6,la6,ed6,rfl⟩;obtain⟨ms,em,Dm⟩:=id la6;have lms:ms.length=(dH zs w c).length:=by rw[Dm.length,aR]
    refine⟨_,rfl,a,rfl,⟨_,SqL.of em⟩,?_⟩;refine cO (K:=K) (xs:=ms) (fun j zzs H7=>∃(pl':List Cell)(v5:Option V),Same H H7/\H7 eg=some (.lst cs)/\aU K H7 cs ((aX zs w).map aB)/\nC K H H7 q (qs++[a]) (ps++[dH zs w c])/\H7 a=some (.lst ms)/\aU K H7 ms ((dH zs w c).map aB)/\H7 dd=some (.dT (fG pl'))/\pl'.Nodup/\(∀ y,y∈pl'↔(y∈pl\/y∈(dH zs w c).take j))/\(∀ y∈pl',inF zs.length w y)/\zzs=[zzR x,zzR q,zzR dd,zzR tc,zzR a,v5])
     ⟨pl,v5,sh6,ec6,Dc6,pa6,em,Dm,ed6,ndp,fun y=>⟨.inl,fun z=>z.elim id (fun z=>by cases z)⟩,inp,rfl⟩ (fun j zzs H7 _ hh=>by obtain⟨_,_,_,_,_,_,e,_⟩:=hh;exact SqL.of e) (fun j o zzs H7 ho hh=>?_) (fun zzs H7 hh=>?_)
    ·obtain⟨pl',v5,sh7,ec7,Dc7,pa7,em7,Dm7,ed7,nd7,a3v,in7,rfl⟩:=hh;obtain⟨dy,edy,do7⟩:=Dm7.get ho;rw[cQ] at edy;obtain⟨y,ey,rfl⟩:=gn.mp edy;obtain⟨ty,rfl,_,hty⟩:=fY do7;have a6N:H7 ty=some (.tup ((iC y).map kV)):=hty;have yj:y∈dH zs w c:=fJ ey;have yin:inF zs.length w y:=((fL cin).mp yj).inF cin;have l36:pl'.length<=36:=by
      have:=lO (l2:=cB zs.length w) nd7 fun y hy=>dI.mpr (in7 y hy)
      rw[gB] at this;have:zs.length*w<=6*6:=lY z6 w6;lia
     have tk:∀ z,z∈(dH zs w c).take (j+1)↔(z∈(dH zs w c).take j\/z=y):=fun z=>by
      rw[iT,ey,cR];simp
     refine⟨_,rfl,_,rfl,dd,_,rfl,Kz.t ed7 a6N (ltl (by unfold fG;rw[aR];lia)),?_⟩;have mk:∀ pl2:List Cell,pl2.Nodup->(∀ z,z∈pl2↔(z∈pl'\/z=y))->∃(pl':List Cell)(v5:Option V),Same H (upd H7 dd (.dT (fG pl2)))/\(upd H7 dd (.dT (fG pl2))) eg=some (.lst cs)/\aU K (upd H7 dd (.dT (fG pl2))) cs ((aX zs w).map aB)/\nC K H (upd H7 dd (.dT (fG pl2))) q (qs++[a]) (ps++[dH zs w c])/\(upd H7 dd (.dT (fG pl2))) a=some (.lst ms)/\aU K (upd H7 dd (.dT (fG pl2))) ms ((dH zs w c).map aB)/\(upd H7 dd (.dT (fG pl2))) dd=some (.dT (fG pl'))/\pl'.Nodup/\(∀ y,y∈pl'↔(y∈pl\/y∈(dH zs w c).take (j+1)))/\(∀ y∈pl',inF zs.length w y)/\[some (V.ref x),some (.ref q),some (.ref dd),some (.ref tc),some (.ref a),some (.ref ty)]=[zzR x,zzR q,zzR dd,zzR tc,zzR a,v5]:=fun pl2 n2 m2=>by
      have sd:SameBut dd H7 (upd H7 dd (.dT (fG pl2))):=(SameBut.refl dd _).put;have tp:Gf H7 (upd H7 dd (.dT (fG pl2))):=.put ed7 (by intro xs z;cases z);refine⟨pl2,_,sd.of sh7 nd,sd _ _ ec7 (pW ec7 ed7 (by intro z;cases z)),tp.cells Dc7,⟨sd _ _ pa7.at_ (pW pa7.at_ ed7 (by intro z;cases z)),pa7.len,fun i b p h1 h2=>?_,pa7.new,pa7.nd,pa7.nq⟩,sd _ _ em7 (pW em7 ed7 (by intro z;cases z)),tp.cells Dm7,au,n2,fun z=>?_,fun z hz=>?_,rfl⟩
      ·obtain⟨ws,ew,Dw⟩:=pa7.ls i b p h1 h2;exact⟨ws,sd _ _ ew (pW ew ed7 (by intro z;cases z)),tp.cells Dw⟩
      ·rw[m2 z,a3v z,tk z,or_assoc]
      ·rcases(m2 z).mp hz with q|q
       ·exact in7 z q
       ·rw[q];exact yin
     by_cases hy:y∈pl'
     ·rw[Lq pl' y hy];exact mk pl' nd7 fun z=>⟨.inl,fun q=>q.elim id (fun e=>by rw[e];exact hy)⟩
     ·rw[Hh pl' y hy];refine mk (pl'++[y]) (yt.mpr ⟨nd7,by simp,fun a ha b hb e=>hy (by rw[<- dB.mp hb,<- e];exact ha)⟩) fun z=>?_
      rw[cR,dB]
    ·obtain⟨pl',v5,sh7,ec7,Dc7,pa7,em7,Dm7,ed7,nd7,a3v,in7,rfl⟩:=hh;refine⟨qs++[a],ps++[dH zs w c],pl',_,_,v5,sh7,ec7,Dc7,pa7,ed7,nd7,fun y=>?_,in7,go,a0A,by rw[c7,jm];lia,rfl⟩;rw[a3v y,lms,gY,Wy y];constructor
     ·rintro(⟨p,hp,hy⟩|hy)
      ·exact⟨p,jE _ hp,hy⟩
      ·exact⟨_,jW _ (dB.mpr rfl),hy⟩
     ·rintro⟨p,hp,hy⟩;rcases cR.mp hp with z|z
      ·exact .inl ⟨p,z,hy⟩
      ·rw[dB.mp z] at hy;exact .inr hy
   ·obtain⟨qs,ps,pl,v3,v4,v5,sh,ec4,Dc4,pa,ed4,ndp,Wy,inp,go,a0A,lps,rfl⟩:=hh;rw[lcs,R0] at go;have e:ps=aO zs w:=go;exact hR _ _ ⟨qs,v3,v4,v5,sh,by rw[<- e];exact pa,rfl⟩
  rintro zzs H3 ⟨qs,v3,v4,v5,s3,pa,rfl⟩;exact⟨_,rfl,hq q qs _ nq s3 pa⟩
end
theorem WL:∀ d∈offs,(-d.1,-d.2)∈offs:=by decide
theorem mW{h w:Int}{x y:Cell}(hy:y∈bQ h w x)(hx:inF h w x):x∈bQ h w y:=by
 unfold bQ at hy ⊢;obtain⟨h1,_⟩:=cC.mp hy;obtain⟨d,hd,rfl⟩:=cu.mp h1;refine cC.mpr ⟨cu.mpr ⟨_,WL d hd,?_⟩,bR hx⟩;exact mJ (by show x.1+d.1 + -d.1=x.1;lia) (by show x.2+d.2 + -d.2=x.2;lia)
theorem pY{zs:List Str}{w:Nat}{x:Cell}:x∈aX zs w↔aL zs w x=true/\∃ t,t∈aN zs w x:=by
 unfold aX;rw[cC,jf,TJ,jo];refine R6 fun _=>?_
 constructor
 ·intro h;cases e:aN zs w x with
  |nil=>rw[e] at h;exact absurd h (oH _)
  |cons t ts=>exact⟨t,dY⟩
 ·rintro⟨t,ht⟩;exact Zm ht
theorem jl{zs:List Str}{w:Nat}{x:Cell}(h:x∈aX zs w):inF zs.length w x:=by
 have:=(pY.mp h).1;unfold aL at this;rw[lW] at this;exact cI this.1
theorem zG{zs:List Str}{w:Nat}(h6:zs.length<=6)(w6:w<=6):(aX zs w).Pairwise cF:=by
 unfold aX dZ;exact((Hj zs.length (fK.mpr (by lia)) w (fK.mpr (by lia))).filter _).filter _
theorem rK{zs:List Str}{w:Nat}{t y:Cell}(hin:inF zs.length w t)(ho:aL zs w t=false)(hy:y∈aF zs w t):y∈aX zs w:=by
 unfold aF at hy;obtain⟨h1,h2⟩:=cC.mp hy;refine pY.mpr ⟨h2,t,?_⟩;unfold aN;exact cC.mpr ⟨mW h1 hin,by rw[ho];rfl⟩
theorem gJ{zs:List Str}{w:Nat}{x t:Cell}(h:t∈aN zs w x):inF zs.length w t/\aL zs w t=false/\t∈bQ zs.length w x:=by
 unfold aN at h;obtain⟨h1,h2⟩:=cC.mp h;exact⟨tM h1,by simpa using h2,h1⟩
theorem je.trans{zs:List Str}{w:Nat}{a b c:Cell}(r1:je zs w a b)(r2:je zs w b c):je zs w a c:=by
 induction r2 with
 |base=>exact r1
 |step _ h1 h2 ih=>exact .step ih h1 h2
theorem je.Sd{zs:List Str}{w:Nat}{t x y:Cell}(hin:L2.inF zs.length w t)(ho:aL zs w t=false)(hx:x∈bQ zs.length w t)(hy:y∈bQ zs.length w t)(cy:aL zs w y=true):je zs w x y:=by
 refine .step .base (t:=t) ?_ ?_
 ·unfold aN;exact cC.mpr ⟨mW hx hin,by rw[ho];rfl⟩
 ·unfold aF;exact cC.mpr ⟨hy,cy⟩
theorem je.symm{zs:List Str}{w:Nat}{a b:Cell}(ca:aL zs w a=true)(ia:L2.inF zs.length w a)(r:je zs w a b):je zs w b a:=by
 induction r with
 |base=>exact .base
 |@step x t y rx ht hy ih=>
  obtain⟨tin,I9,tx⟩:=gJ ht;have xin:=rx.inF ia;have cx:aL zs w x=true:=by
   cases rx with
   |base=>exact ca
   |step _ _ h=>exact(vG h).2
  unfold aF at hy;obtain⟨h1,h2⟩:=cC.mp hy;exact(je.Sd tin I9 h1 (mW tx xin) cx).trans ih
theorem je.edge{zs:List Str}{w:Nat}{a b:Cell}(ha:a∈aX zs w)(r:je zs w a b):b∈aX zs w:=by
 cases r with
 |base=>exact ha
 |step _ ht hy=>
  obtain⟨tin,I9,_⟩:=gJ ht;exact rK tin I9 hy
def nmS(E:List Cell)(nm:Cell->Int)(ns:List Cell):List Int:=(ns.filter fun c=>decide (c∈E)).map nm
theorem a0B{E:List Cell}{nm:Cell->Int}{ns:List Cell}{m:Int}:m∈nmS E nm ns↔∃ c∈E,c∈ns/\nm c=m:=by
 unfold nmS;rw[cu];constructor
 ·rintro⟨c,hc,e⟩;obtain⟨h1,h2⟩:=cC.mp hc;exact⟨c,cI h2,h1,e⟩
 ·rintro⟨c,h1,h2,e⟩;exact⟨c,cC.mpr ⟨h2,bR h1⟩,e⟩
structure Names(zs:List Str)(w:Nat)(E:List Cell)(dn:Cell->Prop)(nm:Cell->Int):Prop where
 snd:∀ c∈E,∀ d∈E,nm c=nm d->je zs w c d
 cpl:∀ t,dn t->∀ c∈E,∀ d∈E,c∈bQ zs.length w t->d∈bQ zs.length w t->nm c=nm d
 ldr:∀ c∈E,∃(i:Nat)(d:Cell),E[i]?=some d/\nm c=i/\nm d=i
 low:∀(i:Nat)(d:Cell),E[i]?=some d->nm d<=i
def mrg(S:List Int)(M:Int)(nm:Cell->Int):Cell->Int:=fun c=>if nm c∈S then M else nm c
theorem Names.step{zs:List Str}{w:Nat}{dn:Cell->Prop}{nm:Cell->Int}{t:Cell}{M:Int}(N:Names zs w (aX zs w) dn nm)(tin:inF zs.length w t)(to:aL zs w t=false)
  (hM:nmS (aX zs w) nm (bQ zs.length w t)≠[]->M∈nmS (aX zs w) nm (bQ zs.length w t)/\∀ a∈nmS (aX zs w) nm (bQ zs.length w t),M<=a) :
  Names zs w (aX zs w) (fun u=>dn u\/u=t) (mrg (nmS (aX zs w) nm (bQ zs.length w t)) M nm):=by
 generalize hS:nmS (aX zs w) nm (bQ zs.length w t)=S at hM;have mem:∀ m,m∈S↔∃ c∈aX zs w,c∈bQ zs.length w t/\nm c=m:=fun m=>by rw[<- hS];exact a0B
 have some_:∀ m,m∈S->M∈S/\∀ a∈S,M<=a:=fun m hm=>hM (ZP hm)
 refine⟨fun c hc d hd e=>?_,fun u hu c hc d hd h1 h2=>?_,fun c hc=>?_,fun i d hd=>?_⟩
 ·unfold mrg at e;by_cases h1:nm c∈S
  ·rw[aK h1] at e;by_cases h2:nm d∈S
   ·obtain⟨x,xE,xn,ex⟩:=(mem _).mp h1;obtain⟨y,yE,yn,ey⟩:=(mem _).mp h2;have r1:=N.snd c hc x xE ex.symm;have r2:=N.snd y yE d hd ey;exact(r1.trans (je.Sd tin to xn yn (pY.mp yE).1)).trans r2
   ·rw[aH h2] at e;rw[<- e] at h2;exact absurd (some_ _ h1).1 h2
  ·rw[aH h1] at e;by_cases h2:nm d∈S
   ·rw[aK h2] at e;rw[e] at h1;exact absurd (some_ _ h2).1 h1
   ·rw[aH h2] at e;exact N.snd c hc d hd e
 ·unfold mrg;rcases hu with hu|rfl
  ·rw[N.cpl u hu c hc d hd h1 h2]
  ·rw[aK ((mem _).mpr ⟨c,hc,h1,rfl⟩),aK ((mem _).mpr ⟨d,hd,h2,rfl⟩)]
 ·unfold mrg;by_cases h1:nm c∈S
  ·rw[aK h1];have hm:=(some_ _ h1).1;obtain⟨x,xE,xn,ex⟩:=(mem _).mp hm;obtain⟨i,d,ei,e1,e2⟩:=N.ldr x xE;refine⟨i,d,ei,by rw[<- ex,e1],?_⟩;have:nm d=M:=by rw[e2,<- e1,ex]
   rw[aK (by rw[this];exact hm),<- ex,e1]
  ·rw[aH h1];obtain⟨i,d,ei,e1,e2⟩:=N.ldr c hc;refine⟨i,d,ei,e1,?_⟩;rw[aH (by rw[e2,<- e1];exact h1)];exact e2
 ·unfold mrg;by_cases h1:nm d∈S
  ·rw[aK h1];exact Rf ((some_ _ h1).2 _ h1) (N.low i d hd)
  ·rw[aH h1];exact N.low i d hd
theorem Names.imp{zs:List Str}{w:Nat}{E:List Cell}{dn dn':Cell->Prop}{nm:Cell->Int}(N:Names zs w E dn nm)(h:∀ u,dn' u->dn u):Names zs w E dn' nm:=⟨N.snd,fun t ht=>N.cpl t (h t ht),N.ldr,N.low⟩
theorem Names.congr{zs:List Str}{w:Nat}{E:List Cell}{dn:Cell->Prop}{nm nm':Cell->Int}(N:Names zs w E dn nm)(h:∀ c∈E,nm' c=nm c):Names zs w E dn nm':=by
 refine⟨fun c hc d hd e=>N.snd c hc d hd (by rw[<- h c hc,<- h d hd];exact e),fun t ht c hc d hd h1 h2=>by rw[h c hc,h d hd];exact N.cpl t ht c hc d hd h1 h2,fun c hc=>?_,fun i d e=>by rw[h d (fJ e)];exact N.low i d e⟩;obtain⟨i,d,e1,e2,e3⟩:=N.ldr c hc;exact⟨i,d,e1,by rw[h c hc];exact e2,by rw[h d (fJ e1)];exact e3⟩
theorem Names.start{zs:List Str}{w:Nat}{E:List Cell}{nm:Cell->Int}(h:∀(i:Nat) (d:Cell),E[i]?=some d->nm d=i):Names zs w E (fun _=>False) nm:=by
 refine⟨fun c hc d hd e=>?_,fun t ht=>ht.elim,fun c hc=>?_,fun i d e=>by rw[h i d e];exact FT _⟩
 ·obtain⟨i,ei⟩:=rP hc;obtain⟨j,ej⟩:=rP hd;rw[h i c ei,h j d ej] at e;have:i=j:=by lia
  subst this;rw[ei] at ej;cases ej;exact .base
 ·obtain⟨i,ei⟩:=rP hc;exact⟨i,c,ei,h i c ei,h i c ei⟩
theorem Names.iff{zs:List Str}{w:Nat}{dn:Cell->Prop}{nm:Cell->Int}(N:Names zs w (aX zs w) dn nm)(all:∀ t,inF zs.length w t->aL zs w t=false->dn t){c d:Cell}(hc:c∈aX zs w)(hd:d∈aX zs w):nm c=nm d↔je zs w c d:=by
 refine⟨N.snd c hc d hd,fun r=>?_⟩;clear hd
 induction r with
 |base=>rfl
 |@step x t y rx ht hy ih=>
  obtain⟨tin,I9,tx⟩:=gJ ht;have xE:=je.edge hc rx;rw[ih];refine N.cpl t (all t tin I9) x xE y (rK tin I9 hy) (mW tx (jl xE)) ?_;unfold aF at hy;exact(cC.mp hy).1
theorem a0n{a b:List Int}(h1:a.Pairwise (· < ·))(h2:b.Pairwise (· < ·))(hm:∀ y,y∈a↔y∈b):a=b:=by
 have nd:∀ {c:List Int},c.Pairwise (· < ·)->c.Nodup:=fun h=>h.imp fun {x y} hab e=>by subst e;lia
 have pm:a.Perm b:=(JK (nd h1) (nd h2)).mpr hm;refine Zg (le:=(· < ·)) (fun x y _ _ h1 h2=>?_) h1 h2 pm;lia
def named(E:List Cell)(nm:Cell->Int)(k:Int):List Cell:=E.filter fun c=>decide (nm c=k)
theorem DX{zs:List Str}{w:Nat}{dn:Cell->Prop}{nm:Cell->Int}{ms:List Int}(z6:zs.length<=6)(w6:w<=6)(N:Names zs w (aX zs w) dn nm)(all:∀ t,inF zs.length w t->aL zs w t=false->dn t)
  (hm:∀ m,m∈ms↔m∈(aX zs w).map nm) (as:ms.Pairwise (· < ·)):∀(k i:Nat),(aX zs w).length-i=k->i<=(aX zs w).length ->
   gG zs w ((aX zs w).drop i) ((ms.filter fun m=>decide (m<(i:Int))).map (named (aX zs w) nm))=ms.map (named (aX zs w) nm)
 |0,i,hk,hi=>by
  have e:i=(aX zs w).length:=by lia
  rw[e,R0];unfold gG;rw[JZ.mpr fun m h=>?_];obtain⟨c,hc,rfl⟩:=cu.mp ((hm m).mp h);obtain⟨j,d,e1,e2,_⟩:=N.ldr c hc;have:=(gM.mp e1).1;exact bR (by rw[e2];lia)
 |k+1,i,hk,hi=>by
  have hlt:i<(aX zs w).length:=by lia
  have ec:(aX zs w)[i]?=some (aX zs w)[i]:=gj hlt;generalize hcc:(aX zs w)[i]=c at ec;have dr:(aX zs w).drop i=c::(aX zs w).drop (i+1):=by
   rw[yp hlt,hcc]
  have cE:c∈aX zs w:=fJ ec;have low:=N.low i c ec;rw[dr];unfold gG;have Mi:∀ m,c∈named (aX zs w) nm m↔nm c=m:=fun m=>by
   unfold named;rw[cC,jo];exact⟨fun h=>h.2,fun h=>⟨cE,h⟩⟩
  by_cases hn:nm c=(i:Int)
  ·have no:¬∃ p∈(ms.filter fun m=>decide (m<(i:Int))).map (named (aX zs w) nm),c∈p:=by
    rintro⟨p,hp,hcp⟩;obtain⟨m,hm',rfl⟩:=cu.mp hp;have h1:=(Mi m).mp hcp;have h2:=cI (cC.mp hm').2;lia
   rw[aH no];have ej:dH zs w c=named (aX zs w) nm i:=by
    refine Im (mV z6 w6) ((zG z6 w6).filter _) fun y=>?_
    rw[fL (jl cE)];unfold named;rw[cC,jo,<- hn];constructor
    ·intro r;have yE:=je.edge cE r;exact⟨yE,((N.iff all cE yE).mpr r).symm⟩
    ·rintro⟨yE,e⟩;exact(N.iff all cE yE).mp e.symm
   have es:(ms.filter fun m=>decide (m<((i+1:Nat):Int)))=(ms.filter fun m=>decide (m<(i:Int)))++[(i:Int)]:=by
    refine a0n (as.filter _) (vM.mpr ⟨as.filter _,by simp,fun a ha b hb=>?_⟩) fun y=>?_
    ·rw[dB.mp hb];exact cI (cC.mp ha).2
    ·rw[cR,dB,cC,cC,jo,jo];constructor
     ·rintro⟨h1,h2⟩;by_cases z:y=i
      ·exact .inr z
      ·exact .inl ⟨h1,by lia⟩
     ·rintro(⟨h1,h2⟩|rfl)
      ·exact⟨h1,by lia⟩
      ·exact⟨(hm _).mpr (cu.mpr ⟨c,cE,hn⟩),by lia⟩
   have go:=DX z6 w6 N all hm as k (i+1) (by lia) hlt;rw[es,dM] at go;rw[ej];exact go
  ·have hl:nm c<(i:Int):=by lia
   have yes:∃ p∈(ms.filter fun m=>decide (m<(i:Int))).map (named (aX zs w) nm),c∈p:=
    ⟨_,cu.mpr ⟨nm c,cC.mpr ⟨(hm _).mpr (cu.mpr ⟨c,cE,rfl⟩),bR hl⟩,rfl⟩,(Mi _).mpr rfl⟩
   rw[aK yes];have es:(ms.filter fun m=>decide (m<((i+1:Nat):Int)))=ms.filter fun m=>decide (m<(i:Int)):=by
    refine wO fun m hm'=>?_
    rw[rG];refine⟨fun h=>?_,fun h=>by lia⟩;by_cases z:m=i
    ·exfalso;obtain⟨x,xE,ex⟩:=cu.mp ((hm m).mp hm');obtain⟨j,d,e1,e2,e3⟩:=N.ldr x xE;have:j=i:=by lia
     subst this;rw[ec] at e1;cases e1;exact hn e3
    ·lia
   have go:=DX z6 w6 N all hm as k (i+1) (by lia) hlt;rw[es] at go;exact go
theorem MF{zs:List Str}{w:Nat}{dn:Cell->Prop}{nm:Cell->Int}{ms:List Int}(v:Vw zs w)(N:Names zs w (aX zs w) dn nm)(all:∀ t,inF zs.length w t->aL zs w t=false->dn t)
  (hm:∀ m,m∈ms↔m∈(aX zs w).map nm) (as:ms.Pairwise (· < ·)):ms.map (named (aX zs w) nm)=aO zs w:=by
 have go:=DX v.le v.w6 N all hm as _ 0 rfl (j7 _);rw[Fx] at go;have e:(ms.filter fun m=>decide (m<((0:Nat):Int)))=[]:=Ga.mpr fun m h=>by
  obtain⟨c,hc,rfl⟩:=cu.mp ((hm m).mp h);obtain⟨j,d,_,e2,_⟩:=N.ldr c hc;rw[e2];simp
 rw[e] at go;exact go.symm
def dN(E:List Cell)(nm:Cell->Int):List (List Key×V):=E.map fun c=>(iC c,V.int (nm c))
theorem J0(nm:Cell->Int)(c:Cell):∀ E:List Cell,vC (dN E nm) (iC c)=if c∈E then some (.int (nm c)) else none
 |[]=>rfl
 |a::E=>by
  show vC ((iC a,V.int (nm a))::dN E nm) (iC c)=_;by_cases e:a=c
  ·subst e;rw[uq rfl,aK dY]
  ·rw[uo (fun z=>e (DG z)),J0 nm c E];by_cases m:c∈E
   ·rw[aK m,aK (fU _ m)]
   ·rw[aH m,aH (fun z=>(cW.mp z).elim (fun q=>e q.symm) m)]
theorem a2M(E:List Cell)(nm:Cell->Int)(c:Cell)(nc:c∉E):putK (dN E nm) (iC c) (.int (nm c))=dN (E++[c]) nm:=by
 rw[MJ _ (by rw[J0,aH nc])];unfold dN;rw[dM];rfl
def Yd(nm:Cell->Int)(c:Cell)(m:Int):Cell->Int:=fun d=>if d=c then m else nm d
theorem a2N(E:List Cell)(nm:Cell->Int)(c:Cell)(m:Int)(hc:c∈E):putK (dN E nm) (iC c) (.int m)=dN E (Yd nm c m):=by
 unfold putK;have h1:((dN E nm).any fun kv=>decide (kv.1=iC c))=true:=by
  rw[um,J0,aK hc];rfl
 rw[aK h1];unfold dN;rw[jY];refine wM fun a _=>?_
 show(if iC a=iC c then(iC a,V.int m) else(iC a,V.int (nm a)))=(iC a,V.int (Yd nm c m a));unfold Yd;by_cases e:a=c
 ·subst e;rw[aK rfl,aK rfl]
 ·rw[aH (fun z=>e (DG z)),aH e]
theorem a2L(E:List Cell)(nm:Cell->Int):(dN E nm).length=E.length:=aR _
section
variable{K:ao}{H:Hp}{dd:Addr}{v:V}{c:Cell}{E:List Cell}{nm:Cell->Int}
theorem Sy(ed:H dd=some (.dT (dN E nm)))(d:Den K H v (aB c)):yw H dd v (if c∈E then some (.int (nm c)) else none):=by
 obtain⟨t,rfl,_,ht⟩:=fY d;have key:H t=some (.tup ((iC c).map kV)):=ht;rw[<- J0];exact yw.t ed key
theorem Cj(ed:H dd=some (.dT (dN E nm)))(d:Den K H v (aB c))(hc:c∈E):yw H dd v (some (.int (nm c))):=by
 have:=Sy ed d;rwa[aK hc] at this
theorem SJ{m:Int}(ed:H dd=some (.dT (dN E nm)))(d:Den K H v (aB c))(hz:E.length<1000):Kz H dd v (.int m) (upd H dd (.dT (putK (dN E nm) (iC c) (.int m)))):=by
 obtain⟨t,rfl,_,ht⟩:=fY d;have key:H t=some (.tup ((iC c).map kV)):=ht;exact Kz.t ed key (ltl (by rw[a2L];lia))
theorem a0i(a b:Int):eqD (Dt.int a) (Dt.int b)=decide (a=b):=by rw[tG rfl rfl];exact(Qt _ _)
theorem Ri(x:Int):∀ ns:List Int,((ns.map Dt.int).any fun e=>eqD e (Dt.int x))=decide (x∈ns)
 |[]=>by simp
 |a::ns=>by
  rw[gq,wV,a0i,Ri x ns];by_cases h:a=x
  ·rw[bR h,Rb,bR (by rw[h];exact dY)]
  ·rw[cG h,Bool.false_or,rG,cW];exact⟨.inr,fun z=>z.elim (fun e=>absurd e.symm h) id⟩
theorem a4v{p:Addr}{ns:List Int}{x:Int}{Q:VK}(h:H p=some (.lst (ns.map V.int)))(q:Q (.bl (decide (x∈ns))) H):Py K false (.int x) (.ref p) H Q:=by
 refine⟨Dt.int x,ns.map Dt.int,p,rfl,.int x,.inl (.lst (SqL.of h) (aU.ints ns)),fun e he=>?_,?_⟩
 ·obtain⟨c,_,rfl⟩:=cu.mp he;exact⟨rfl,Qs rfl⟩
 ·show Q (.bl ((ns.map Dt.int).any fun e=>eqD e (Dt.int x))) H;rw[Ri];exact q
end
structure PSt(K:ao)(H0 H:Hp)(vg dd:Addr)(cs:List V)(E ks:List Cell)(nm:Cell->Int):Prop where
 same:Same H0 H
 ev:H vg=some (.lst cs)
 Dc:aU K H cs (E.map aB)
 ed:H dd=some (.dT (dN ks nm))
 nd:H0 dd=none
theorem PSt.mono{K:ao}{H0 H H':Hp}{vg dd:Addr}{cs:List V}{E ks:List Cell}{nm:Cell->Int}(p:PSt K H0 H vg dd cs E ks nm)(s:Same H H'):PSt K H0 H' vg dd cs E ks nm:=⟨p.same.trans s,s _ _ p.ev,p.Dc.mono s,s _ _ p.ed,p.nd⟩
theorem PSt.put{K:ao}{H0 H:Hp}{vg dd:Addr}{cs:List V}{E ks ks':List Cell}{nm nm':Cell->Int}(p:PSt K H0 H vg dd cs E ks nm):PSt K H0 (upd H dd (.dT (dN ks' nm'))) vg dd cs E ks' nm':=by
 have sd:SameBut dd H (upd H dd (.dT (dN ks' nm'))):=(SameBut.refl dd _).put;have tp:Gf H (upd H dd (.dT (dN ks' nm'))):=.put p.ed (by intro xs z;cases z);exact⟨sd.of p.same p.nd,sd _ _ p.ev (pW p.ev p.ed (by intro z;cases z)),tp.cells p.Dc,au,p.nd⟩
theorem PSt.a6B{K:ao}{H0 H:Hp}{vg dd q:Addr}{cs l0 l1:List V}{E ks:List Cell}{nm:Cell->Int}(p:PSt K H0 H vg dd cs E ks nm)(e:H q=some (.lst l0))(nq:H0 q=none)(n1:vg≠q)(n2:dd≠q):PSt K H0 (upd H q (.lst l1)) vg dd cs E ks nm:=by
 have sb:SameBut q H (upd H q (.lst l1)):=(SameBut.refl q _).put;exact⟨sb.of p.same nq,sb _ _ p.ev n1,sb.cells e p.Dc,sb _ _ p.ed n2,p.nd⟩
theorem PSt.a2h{K:ao}{H0 H:Hp}{vg dd l:Addr}{cs:List V}{E ks ks':List Cell}{nm nm':Cell->Int}{xs:List V}(p:PSt K H0 H vg dd cs E ks nm)(h:H l=some (.lst xs)):(upd H dd (.dT (dN ks' nm'))) l=some (.lst xs):=by
 rw[bD (pW h p.ed (by intro z;cases z))];exact h
theorem PSt.a5u{K:ao}{H0 H:Hp}{vg dd:Addr}{cs ts:List V}{E ks ks' F:List Cell}{nm nm':Cell->Int}(p:PSt K H0 H vg dd cs E ks nm)(D:aU K H ts (F.map aB)):aU K (upd H dd (.dT (dN ks' nm'))) ts (F.map aB):=(Gf.put p.ed (by intro xs z;cases z)).cells D
theorem zf{c:Cell}:∀ {E:List Cell} {i:Nat},E.Nodup->E[i]?=some c->E.idxOf c=i
 |[],i,_,h=>by cases h
 |a::E,0,nd,h=>by
  cases h;simp
 |a::E,i+1,nd,h=>by
  obtain⟨n1,n2⟩:=Aj.mp nd;have h:E[i]?=some c:=by simpa using h
  have ne:a≠c:=fun z=>n1 (by rw[z];exact fJ h)
  have hb:(a==c)=false:=qg.mpr ne;rw[List.idxOf_cons,zf n2 h,hb];rfl
theorem Mf:∀ S:List Int,∃ M,S≠[]->M∈S/\∀ a∈S,M<=a
 |[]=>⟨0,fun h=>absurd rfl h⟩
 |x::S=>by
  obtain⟨M,hM⟩:=Mf S;by_cases e:S=[]
  ·subst e;exact⟨x,fun _=>⟨dY,fun a ha=>by rw[dB.mp ha];exact FT _⟩⟩
  ·obtain⟨h1,h2⟩:=hM e;by_cases hx:x<=M
   ·refine⟨x,fun _=>⟨dY,fun a ha=>?_⟩⟩;rcases cW.mp ha with z|z
    ·rw[z];exact FT _
    ·exact Rf hx (h2 a z)
   ·refine⟨M,fun _=>⟨fU _ h1,fun a ha=>?_⟩⟩;rcases cW.mp ha with z|z
    ·rw[z];lia
    ·exact h2 a z
def Nt(K:ao):Sp:=fun vs H Q _=>∃(p:Addr)(zs:List Str)(w:Nat),vs=[.ref p]/\SqL K H p (zs.map V.str)/\Vw zs w /\
 ∀(q:Addr)(qs:List Addr)(H':Hp),H q=none->Same H H'->nC K H H' q qs (aO zs w)->Q (.ref q) H'
section
variable{P:Program}{w:World}{K:ao}{mg:Str->Option Value}{base:Heap}{Z:Adr}
theorem UJ{f:Addr}{fd:FuncData} (F:Fun K "_law_parts" "_law_parts" qZ f fd) (T:Txt K mg Z) (cA:Df P w K mg base 1 "_law_sizes" ["rows"] (vh K)) (sO:Df P w K mg base 2 "_law_edge" ["rows"] (Yn K)) (bN:Df P w K mg base 1 "_law_cells" ["rows","signs"] (rD K)) (bW:Df P w K mg base 1 "_law_near" ["height","width","cell"] (wJ K)) :
  cY P w K mg base (CXE P w) 3 f fd ["rows"] (Nt K):=by
 refine F.rok cT (fun vs H Q E h=>?_) (fun cdv A outer s H vs Q E hr h=>?_)
 ·obtain⟨p,zs,w,rfl,_⟩:=h;rfl
 ·obtain⟨p,zs,wd,rfl,hS,vw,hq⟩:=h;have hu:=lK hr;have hu':=xG hr;have z6:=vw.le;have w6:=vw.w6;refine⟨_,(aA (mz (aY cA hr rfl bf (aj (rv 0) ak)) (nQ rfl (cP (bx (i:=1) cT.nd rfl (Or.inl rfl)) (cP (bx (i:=2) cT.nd rfl (Or.inl rfl)) jO)))) (aA (aW (i:=3) cT.nd rfl (Or.inl rfl) (aY sO hr rfl bf (aj (rv 0) ak))) (aA (aW (i:=4) cT.nd rfl (Or.inr rfl) Sw) (aA (cL eU rfl (Ma (K:=K) rfl T.sY (aj (rv 3) ak)) (nQ rfl (cP (bx (i:=5) cT.nd rfl (Or.inr rfl)) (cP (bx (i:=6) cT.nd rfl (Or.inl rfl)) jO))) (aD (mz (rv 5) (Eh (rv 4) (rv 6) (set_dict hu))))) (aA (cL eU rfl (aV (K:=K) (aY bN hr rfl bf (aj (rv 0) (aj dX ak)))) (bx (i:=7) cT.nd rfl (Or.inl rfl)) (aA (oR (i:=8) cT.nd rfl rfl (by rfl) rfl (aV (K:=K) (aY bW hr rfl bf (aj (rv 1) (aj (rv 2) (aj (rv 7) ak))))) (fun _ _ _=>(fB (bF (V1 hu) (rv 0) (rv 5) (by rfl)))) (fun _ _ _=>(cH (BX hu) (rv 5) (rv 0)))) (aD (cL eU rfl (aV (K:=K) (rv 3)) (bx (i:=6) cT.nd rfl (Or.inl rfl)) (aD (dR (bF (eV.or (nH (K:=K) hu')) (cH (BX hu) (rv 4) (rv 6)) (rv 8) (by rfl)) (aD (mz (aZ (a5s (K:=K) rfl) rfl T.KQ Iv (aj (rv 8) ak)) (Eh (rv 4) (rv 6) (set_dict hu)))) bO)))))) (aA (aW (i:=9) cT.nd rfl (Or.inl rfl) (bZ ak)) (aA (cL eU rfl (aV (K:=K) (aZ (a0r (w:=w) rfl hu) rfl T.pH pI (aj (jN (a5t (K:=K) (w:=w) rfl) rfl T.a2a a2E (aj (fZ (by rfl) rfl (aV (K:=K) (rv 3)) (fun _ _ _=>lF) (fun _ _ _=>(cH (BX hu) (rv 5) (rv 0)))) ak)) ak))) (bx (i:=5) cT.nd rfl (Or.inr rfl)) (aD (gb (kh (K:=K) jV lU lV dJ (rv 9) (aj (fZ (by rfl) rfl (aV (K:=K) (rv 3)) (fun _ _ _=>(fB (bF (kE.or (jZ (K:=K) hu)) (cH (BX hu) (rv 5) (rv 0)) (rv 6) (cg _)))) (fun _ _ _=>(rv 0))) ak))))) (aD (bB (rv 9)))))))))),?_⟩;refine aC (fun zzs H1=>Same H H1/\zzs=[zzR p,zzI zs.length,zzI wd,zzN,zzN,zzN,zzN,zzN,zzN,zzN]) (fun R hR=>?_) ?_
  ·exact⟨_,rfl,p,zs,wd,rfl,hS,vw.toRect,fun t H' s' hT=>⟨t,_,rfl,hT,rfl,_,_,rfl,_,_,rfl,rfl,hR _ _ ⟨s',rfl⟩⟩⟩
  rintro zzs H1 ⟨s1,rfl⟩;refine aC (fun zzs H2=>∃(vg:Addr)(cs:List V),Same H H2/\H2 vg=some (.lst cs)/\aU K H2 cs ((aX zs wd).map aB)/\zzs=[zzR p,zzI zs.length,zzI wd,zzR vg,zzN,zzN,zzN,zzN,zzN,zzN]) (fun R hR=>?_) ?_
  ·refine⟨_,rfl,p,zs,wd,rfl,s1.seq hS,vw,fun q H' fr=>?_⟩;obtain⟨cs,ec,Dc⟩:=fr.ls;rw[a2V] at Dc;exact hR _ _ ⟨q,cs,s1.trans fr.same,ec,Dc,rfl⟩
  rintro zzs H2 ⟨vg,cs,s2,ev2,Dc2,rfl⟩;generalize hE:aX zs wd=E at Dc2;have a6E:E.Pairwise cF:=by rw[<- hE];exact zG z6 w6
  have eNd:E.Nodup:=jQ a6E;have lE:E.length<=36:=by
   rw[<- hE];exact cX (iQ _ _) (gC vw)
  have lcs:cs.length=E.length:=by rw[Dc2.length,aR]
  refine aC (fun zzs H3=>∃ dd:Addr,PSt K H H3 vg dd cs E [] (fun _=>0)/\zzs=[zzR p,zzI zs.length,zzI wd,zzR vg,zzR dd,zzN,zzN,zzN,zzN,zzN]) (fun R hR=>?_) ?_
  ·exact fun dd nd=>hR _ _ ⟨dd,⟨s2.and nd,(Same.put nd) _ _ ev2,Dc2.mono (Same.put nd),au,s2.free nd⟩,rfl⟩
  rintro zzs H3 ⟨dd,ps3,rfl⟩;refine aC (fun zzs H4=>∃(v5 v6:Option V),PSt K H H4 vg dd cs E E (fun c=>(E.idxOf c:Int))/\zzs=[zzR p,zzI zs.length,zzI wd,zzR vg,zzR dd,v5,v6,zzN,zzN,zzN]) (fun R hR=>?_) ?_
  ·refine⟨_,rfl,vg,rfl,⟨_,SqL.of ps3.ev⟩,?_⟩;refine LR (K:=K) (xs:=cs) (fun i zzs H4=>∃(v5 v6:Option V),PSt K H H4 vg dd cs E (E.take i) (fun c=>(E.idxOf c:Int))/\zzs=[zzR p,zzI zs.length,zzI wd,zzR vg,zzR dd,v5,v6,zzN,zzN,zzN])
    ⟨none,none,⟨ps3.same,ps3.ev,ps3.Dc,ps3.ed,ps3.nd⟩,rfl⟩ (fun i zzs H4 _ hh=>by obtain⟨_,_,a,_⟩:=hh;exact SqL.of a.ev) (fun i u zzs H4 t hu4 hh nt=>?_) (fun zzs H4 hh=>?_)
   ·obtain⟨v5,v6,p4,rfl⟩:=hh;have p5:=p4.mono (Same.put (o:=.tup [.int i,u]) nt);obtain⟨dc,edc,du⟩:=p5.Dc.get hu4;rw[cQ] at edc;obtain⟨c,ecq,rfl⟩:=gn.mp edc;have ix:=zf eNd ecq;have hi:i<E.length:=(gM.mp ecq).1;have nc:c∉E.take i:=fun z=>by
     obtain⟨j,hj⟩:=rP z;have hj':j<i:=by have:=(gM.mp hj).1;rw[jr] at this;lia
     rw[JL hj'] at hj;have:=zf eNd hj;lia
    refine⟨t,_,rfl,SqT.of au,rfl,_,_,rfl,_,_,rfl,rfl,?_⟩;refine⟨_,rfl,_,rfl,_,rfl,dd,_,rfl,SJ p5.ed du (by rw[jr];lia),?_⟩;have e1:putK (dN (E.take i) fun c=>(E.idxOf c:Int)) (iC c) (.int i)=dN (E.take (i+1)) fun c=>(E.idxOf c:Int):=by
     have:=a2M (E.take i) (fun c=>(E.idxOf c:Int)) c nc;rw[ix] at this;rw[this,iT,ecq];rfl
    rw[e1];exact⟨_,_,p5.put,rfl⟩
   ·obtain⟨v5,v6,p4,rfl⟩:=hh;rw[lcs,gY] at p4;exact hR _ _ ⟨v5,v6,p4,rfl⟩
  rintro zzs H4 ⟨v5,v6,p4,rfl⟩;have N0:Names zs wd E (fun _=>False) (fun c=>(E.idxOf c:Int)):=Names.start fun i d e=>by
   show((E.idxOf d:Nat):Int)=i;rw[zf eNd e]
  refine aC (fun zzs H5=>∃(nm:Cell->Int)(v5 v6 v7 v8:Option V),PSt K H H5 vg dd cs E E nm/\Names zs wd E (fun t=>t∈bH zs wd "012345678") nm/\zzs=[zzR p,zzI zs.length,zzI wd,zzR vg,zzR dd,v5,v6,v7,v8,zzN]) (fun R hR=>?_) ?_
  ·refine⟨_,rfl,p,zs,wd,"012345678",rfl,p4.same.seq hS,vw.toRect,fun ol H5 fr=>?_⟩;obtain⟨ts,et,Dt'⟩:=fr.ls;have lts:ts.length=(bH zs wd "012345678").length:=by rw[Dt'.length,aR]
   refine⟨ol,rfl,⟨_,SqL.of et⟩,?_⟩;refine cO (K:=K) (xs:=ts) (fun i zzs H6=>∃(nm:Cell->Int)(v5 v6 v7 v8:Option V),PSt K H H6 vg dd cs E E nm/\H6 ol=some (.lst ts)/\aU K H6 ts ((bH zs wd "012345678").map aB)/\Names zs wd E (fun t=>t∈(bH zs wd "012345678").take i) nm/\zzs=[zzR p,zzI zs.length,zzI wd,zzR vg,zzR dd,v5,v6,v7,v8,zzN])
    ⟨_,v5,v6,none,none,p4.mono fr.same,et,Dt',N0.imp (fun u hu=>by cases hu),rfl⟩ (fun i zzs H6 _ hh=>by obtain⟨_,_,_,_,_,_,e,_⟩:=hh;exact SqL.of e) (fun i u zzs H6 hu6 hh=>?_) (fun zzs H6 hh=>?_)
   ·obtain⟨nm,v5,v6,v7,v8,p6,et6,Dt6,N6,rfl⟩:=hh;obtain⟨dt,edt,du6⟩:=Dt6.get hu6;rw[cQ] at edt;obtain⟨t,etq,rfl⟩:=gn.mp edt;obtain⟨tin,to⟩:=(kY vw).mp (fJ etq);obtain⟨M,hM⟩:=Mf (nmS E nm (bQ zs.length wd t));refine aC (fun zzs H7=>∃ sl:Addr,PSt K H H7 vg dd cs E E nm/\H7 ol=some (.lst ts)/\aU K H7 ts ((bH zs wd "012345678").map aB)/\H7 sl=some (.lst ((nmS E nm (bQ zs.length wd t)).map V.int))/\zzs=[zzR p,zzI zs.length,zzI wd,zzR vg,zzR dd,v5,v6,some u,zzR sl,zzN]) (fun R' hR'=>?_) ?_
    ·refine⟨_,rfl,_,rfl,_,rfl,zs.length,wd,u,t,rfl,du6,fun nl H7 fr7=>?_⟩;obtain⟨ns,en,Dn⟩:=fr7.ls;have p7:=p6.mono fr7.same;have n8:=fW zs.length wd t;refine⟨nl,rfl,⟨_,SqL.of en⟩,?_⟩;refine dG (K:=K) (xs:=bQ zs.length wd t) (enc:=aB) (bJ (SqL.of en)) Dn (small (by lia)) (fun c=>decide (c∈E)) (fun c=>Dt.int (nm c)) (fun c hc v H' s' d G hG=>?_) (fun c hc pc v H' s' d G hG=>?_) (fun ys H' s' D pl hpl=>?_)
     ·refine⟨_,rfl,_,rfl,dd,_,rfl,Sy (p7.mono s').ed d,_,rfl,?_⟩;have:=hG H' (Same.refl _);by_cases h:c∈E
      ·rw[aK h];rw[bR h] at this;exact this
      ·rw[aH h];rw[cG h] at this;exact this
     ·exact⟨_,rfl,_,rfl,dd,_,rfl,Cj (p7.mono s').ed d (cI pc),hG _ _ (Same.refl _) (.int _)⟩
     ·have e:ys=(nmS E nm (bQ zs.length wd t)).map V.int:=by
       refine aU.Jp (K:=K) (H:=H') ?_;unfold nmS;rw[jY];exact D
      have sp:=s'.and (o:=.lst ys) hpl;refine hR' _ _ ⟨pl,p7.mono sp,sp _ _ (fr7.same _ _ et6),(Dt6.mono fr7.same).mono sp,by rw[au,e],rfl⟩
    rintro zzs H7 ⟨sl,p7,et7,Dt7,es7,rfl⟩;refine⟨_,rfl,vg,rfl,⟨_,SqL.of p7.ev⟩,?_⟩;refine cO (K:=K) (xs:=cs) (fun j zzs H8=>∃(nj:Cell->Int)(v6:Option V),PSt K H H8 vg dd cs E E nj/\H8 ol=some (.lst ts)/\aU K H8 ts ((bH zs wd "012345678").map aB)/\H8 sl=some (.lst ((nmS E nm (bQ zs.length wd t)).map V.int))/\(∀ c∈E,nj c=if c∈E.take j then mrg (nmS E nm (bQ zs.length wd t)) M nm c else nm c)/\zzs=[zzR p,zzI zs.length,zzI wd,zzR vg,zzR dd,v5,v6,some u,zzR sl,zzN])
     ⟨nm,v6,p7,et7,Dt7,es7,fun c hc=>by rw[Fy,aH (by intro z;cases z)],rfl⟩ (fun j zzs H8 _ hh=>by obtain⟨_,_,a,_⟩:=hh;exact SqL.of a.ev) (fun j o zzs H8 ho hh=>?_) (fun zzs H8 hh=>?_)
    ·obtain⟨nj,v6,p8,et8,Dt8,es8,hj,rfl⟩:=hh;obtain⟨dc,edc,do8⟩:=p8.Dc.get ho;rw[cQ] at edc;obtain⟨c,ecq,rfl⟩:=gn.mp edc;have cE:c∈E:=fJ ecq;have nc:c∉E.take j:=fun z=>by
      obtain⟨k,hk⟩:=rP z;have hk':k<j:=by have:=(gM.mp hk).1;rw[jr] at this;lia
      rw[JL hk'] at hk;have h1:=zf eNd hk;have h2:=zf eNd ecq;lia
     have ec:nj c=nm c:=by rw[hj c cE,aH nc]
     have tk:∀ d,d∈E.take (j+1)↔(d∈E.take j\/d=c):=fun d=>by
      rw[iT,ecq,cR];simp
     refine⟨_,rfl,_,rfl,dd,_,rfl,Cj p8.ed do8 cE,_,rfl,.inr (a4v es8 ⟨_,rfl,?_⟩)⟩;refine dD (fun h=>?_) (fun h=>?_)
     ·have h:=cI h;rw[ec] at h;have hne:=ZP h;refine⟨_,rfl,sl,_,rfl,SqL.of es8,hne,fun m hm hle=>?_⟩;have em:m=M:=by
       have h1:=hle M (hM hne).1;have h2:=(hM hne).2 m hm;lia
      subst em;refine⟨_,rfl,_,rfl,dd,_,rfl,SJ p8.ed do8 (by lia),?_⟩;rw[a2N E nj c m cE];refine⟨Yd nj c m,_,p8.put,p8.a2h et8,p8.a5u Dt8,p8.a2h es8,fun d hd=>?_,rfl⟩;unfold Yd;by_cases z:d=c
      ·subst z;rw[aK rfl,aK ((tk d).mpr (.inr rfl))];unfold mrg;rw[aK h]
      ·rw[aH z,hj d hd];by_cases y:d∈E.take j
       ·rw[aK y,aK ((tk d).mpr (.inl y))]
       ·rw[aH y,aH (fun q=>((tk d).mp q).elim y z)]
     ·have h:=j6 h;rw[ec] at h;refine⟨nj,_,p8,et8,Dt8,es8,fun d hd=>?_,rfl⟩;rw[hj d hd];by_cases y:d∈E.take j
      ·rw[aK y,aK ((tk d).mpr (.inl y))]
      ·rw[aH y];by_cases z:d=c
       ·subst z;rw[aK ((tk d).mpr (.inr rfl))];unfold mrg;rw[aH h]
       ·rw[aH (fun q=>((tk d).mp q).elim y z)]
    ·obtain⟨nj,v6,p8,et8,Dt8,es8,hj,rfl⟩:=hh;rw[lcs,gY] at hj;have N8:=Names.step (M:=M) (t:=t) (by rw[hE];exact N6) tin to (by rw[hE];exact hM);rw[hE] at N8;refine⟨nj,v5,v6,_,_,p8,et8,Dt8,(N8.congr fun c hc=>?_).imp (fun z hz=>?_),rfl⟩
     ·rw[hj c hc,aK hc]
     ·rw[iT,etq] at hz;rcases cR.mp hz with q|q
      ·exact .inl q
      ·exact .inr (dB.mp q)
   ·obtain⟨nm,v5,v6,v7,v8,p6,et6,Dt6,N6,rfl⟩:=hh;rw[lts,gY] at N6;exact hR _ _ ⟨nm,v5,v6,v7,v8,p6,N6,rfl⟩
  rintro zzs H5 ⟨nm,v5,v6,v7,v8,p5,N5,rfl⟩;refine aC (fun zzs H6=>∃ q:Addr,H5 q=none/\PSt K H H6 vg dd cs E E nm/\H6 q=some (.lst [])/\zzs=[zzR p,zzI zs.length,zzI wd,zzR vg,zzR dd,v5,v6,v7,v8,zzR q]) (fun R hR=>?_) ?_
  ·exact⟨by decide,fun q nq=>hR _ _ ⟨q,nq,p5.mono (Same.put nq),au,rfl⟩⟩
  rintro zzs H6 ⟨q,nq5,p6,eq6,rfl⟩;have nq:H q=none:=p5.same.free nq5;have nqv:vg≠q:=bV p5.ev nq5;have nqd:dd≠q:=bV p5.ed nq5;refine aC (fun zzs H7=>∃(qs:List Addr)(v5:Option V),Same H H7/\nC K H H7 q qs (aO zs wd)/\zzs=[zzR p,zzI zs.length,zzI wd,zzR vg,zzR dd,v5,v6,v7,v8,zzR q]) (fun R hR=>?_) ?_
  ·refine⟨_,rfl,vg,rfl,⟨_,SqL.of p6.ev⟩,?_⟩;refine comp_map (K:=K) (xs:=E) (enc:=aB) (bJ (SqL.of p6.ev)) p6.Dc (small (by lia)) (fun c=>Dt.int (nm c)) (fun c hc v H' s' d G hG=>?_) (fun ys H' s' D pl hpl=>?_)
   ·exact⟨_,rfl,_,rfl,dd,_,rfl,Cj (p6.mono s').ed d hc,hG _ _ (Same.refl _) (.int _)⟩
   ·have e:ys=(E.map nm).map V.int:=by
     refine aU.Jp (K:=K) (H:=H') ?_;rw[jY];exact D
    subst e;refine⟨pl,_,rfl,SqL.of au,by rw[aR];lia,fun a na=>⟨a,_,rfl,au,by rw[aR];lia,fun l ms nl hm as=>⟨l,rfl,⟨_,SqL.of au⟩,?_⟩⟩⟩;have s8:=((s'.and (o:=.lst ((E.map nm).map V.int)) hpl).and (o:=Q9 w a (E.map nm)) na).and (o:=.lst (ms.map V.int)) nl;have p8:=p6.mono s8;have el:=au (H:=(upd (upd H' pl (.lst ((E.map nm).map V.int))) a (Q9 w a (E.map nm)))) (a:=l) (o:=.lst (ms.map V.int));have eq8:=s8 _ _ eq6;have nlq:l≠q:=fun z=>by
     have:H6 l=none:=((s'.and (o:=.lst ((E.map nm).map V.int)) hpl).and (o:=Q9 w a (E.map nm)) na).free nl;rw[z,eq6] at this;cases this
    generalize (upd (upd (upd H' pl (.lst ((E.map nm).map V.int))) a (Q9 w a (E.map nm))) l (.lst (ms.map V.int)))=H8 at s8 p8 el eq8;have a5z:ms.Nodup:=as.imp fun {x y} hab e=>by subst e;lia
    have l36:ms.length<=36:=by
     have:=lO (l2:=E.map nm) a5z fun y hy=>(hm y).mp hy
     rw[aR] at this;lia
    have fin:ms.map (named E nm)=aO zs wd:=by
     have:=MF (ms:=ms) vw (by rw[hE];exact N5) (fun t h1 h2=>(kY vw).mpr ⟨h1,h2⟩) (by rw[hE];exact hm) as;rwa[hE] at this
    have lms:(ms.map V.int).length=ms.length:=aR _;refine cO (K:=K) (xs:=ms.map V.int) (fun i zzs H9=>∃(qs:List Addr)(v5:Option V),PSt K H H9 vg dd cs E E nm/\H9 l=some (.lst (ms.map V.int))/\nC K H H9 q qs ((ms.take i).map (named E nm))/\zzs=[zzR p,zzI zs.length,zzI wd,zzR vg,zzR dd,v5,v6,v7,v8,zzR q])
     ⟨[],v5,p8,el,⟨eq8,rfl,fun i a p h=>(by cases h),fun a ha=>(by cases ha),Av,fun z=>(by cases z)⟩,rfl⟩ (fun i zzs H9 _ hh=>by obtain⟨_,_,_,e,_⟩:=hh;exact SqL.of e) (fun i u zzs H9 hu9 hh=>?_) (fun zzs H9 hh=>?_)
    ·obtain⟨qs,v5,p9,el9,pa,rfl⟩:=hh;rw[cQ] at hu9;obtain⟨m,em,rfl⟩:=gn.mp hu9;have hi:i<ms.length:=(gM.mp em).1;have lqs:qs.length<=36:=by rw[pa.len,aR,jr];lia
     refine⟨_,rfl,.inl ⟨rfl,_,SqL.of pa.at_⟩,_,rfl,vg,rfl,⟨_,SqL.of p9.ev⟩,?_⟩;refine dG (K:=K) (xs:=E) (enc:=aB) (bJ (SqL.of p9.ev)) p9.Dc (small (by lia)) (fun c=>decide (nm c=m)) aB (fun c hc v H' s' d G hG=>?_) (fun c hc pc v H' s' d G hG=>?_) (fun ys H' s' D pl hpl=>?_)
     ·refine⟨_,rfl,_,rfl,dd,_,rfl,Cj (p9.mono s').ed d hc,_,rfl,.inl ⟨rfl,_,rfl,?_⟩⟩;have e:decide (V.int (nm c)=V.int m)=decide (nm c=m):=by rw[rG];exact⟨fun z=>by cases z;rfl,fun z=>by rw[z]⟩
      rw[e];exact hG H' (Same.refl _)
     ·exact⟨_,rfl,hG _ _ (Same.refl _) d⟩
     ·have sp:=s'.and (o:=.lst ys) hpl;have pa2:=pa.mono sp;have p10:=p9.mono sp;have npl:H pl=none:=(p9.same.trans s').free hpl;have a6X:pl≠q:=fun z=>by have:=s'.free hpl;rw[z,pa.at_] at this;cases this
      have a6Y:pl∉qs:=fun z=>by
       obtain⟨j,hj⟩:=rP z;have hj':j<((ms.take i).map (named E nm)).length:=by rw[<- pa.len];exact(gM.mp hj).1
       obtain⟨_,e,_⟩:=pa.ls j pl _ hj (gj hj');have:=s'.free hpl;rw[e] at this;cases this
      refine⟨q,_,_,rfl,rfl,pa2.at_,ltl (by rw[aR];lia),?_⟩;have ln:Ls K (upd H' pl (.lst ys)) pl ((named E nm m).map aB):=.new hpl D;have pa3:=pa2.snoc ln npl a6Y a6X;have tk:(ms.take (i+1)).map (named E nm)=(ms.take i).map (named E nm)++[named E nm m]:=by rw[iT,em,dM];rfl
      refine⟨qs++[pl],_,p10.a6B pa2.at_ nq nqv nqd,?_,by rw[tk];exact pa3,rfl⟩;rw[bD nlq];exact sp _ _ el9
    ·obtain⟨qs,v5,p9,el9,pa,rfl⟩:=hh;rw[lms,gY,fin] at pa;exact hR _ _ ⟨qs,v5,p9.same,pa,rfl⟩
  rintro zzs H7 ⟨qs,v5',s7,pa,rfl⟩;exact⟨_,rfl,hq q qs _ nq s7 pa⟩
end
def layAt(p:Nat->List Cell->Bool)(ps:List Cell):Nat->List (List Cell)
 |0=>[[]]
 |k+1=>(layAt p ps k++(layAt p ps k).map (·++[ps.getD k (0,0)])).filter (p k)
def upto(ps:List Cell)(k:Nat)(l:List Cell):List Cell:=l.filter fun y=>decide (y∈ps.take k)
theorem Nz{ps l:List Cell}{k:Nat}(h:∀ y∈l,y∈ps.take k):upto ps k l=l:=by
 unfold upto;exact JZ.mpr fun y hy=>bR (h y hy)
theorem getD_at{ps:List Cell}{k:Nat}(hk:k<ps.length):ps.getD k (0,0)=ps[k]:=by
 rw[gO,gj hk];rfl
theorem lB{ps:List Cell}{k:Nat}(hk:k<ps.length):ps.take (k+1)=ps.take k++[ps.getD k (0,0)]:=by
 rw[iT,gj hk,getD_at hk];rfl
theorem Bg{ps:List Cell}(nd:ps.Nodup){k:Nat}(hk:k<ps.length):ps.getD k (0,0)∉ps.take k:=by
 intro h;have h2:(ps.take k++[ps.getD k (0,0)]).Nodup:=by rw[<- lB hk];exact nd.sublist (List.take_sublist _ _)
 exact(yt.mp h2).2.2 _ h _ (dB.mpr rfl) rfl
theorem Vn{ps:List Cell}{i j:Nat}(h:i<=j){y:Cell}(hy:y∈ps.take i):y∈ps.take j:=by
 have e:ps.take i=(ps.take j).take i:=by rw[List.take_take,Ak h]
 rw[e] at hy;exact wL hy
theorem uV{p:Nat->List Cell->Bool}{ps:List Cell}(nd:ps.Nodup):∀ k,k<=ps.length->∀ l,l∈layAt p ps k↔(l.Sublist (ps.take k)/\∀ j,j<k->p j (upto ps (j+1) l)=true)
 |0,_,l=>by
  unfold layAt;rw[dB,Fy,List.sublist_nil];exact⟨fun h=>⟨h,fun j hj=>absurd hj (by lia)⟩,fun h=>h.1⟩
 |k+1,hk,l=>by
  have ih:=uV (p:=p) nd k (by lia);unfold layAt;have hk':k<ps.length:=by lia
  have nin:=Bg nd hk';rw[cC,lB hk'];have a6d:∀ l':List Cell,l'.Sublist (ps.take k)->∀ j,j<k->upto ps (j+1) (l'++[ps.getD k (0,0)])=upto ps (j+1) l':=fun l' _ j hj=>by
   unfold upto;rw[uK];have:[ps.getD k (0,0)].filter (fun y=>decide (y∈ps.take (j+1)))=[]:=by
    rw[wQ,aH (by rw[cG (fun z=>nin (Vn (by lia) z))];exact g8)];rfl
   rw[this,rT]
  constructor
  ·rintro⟨hl,hp⟩;have all:∀ l':List Cell,l'.Sublist (ps.take k++[ps.getD k (0,0)])->upto ps (k+1) l'=l':=fun l' h'=>Nz fun y hy=>by rw[lB hk'];exact h'.subset hy
   rcases cR.mp hl with z|z
   ·obtain⟨h1,h2⟩:=(ih l).mp z;have hs:l.Sublist (ps.take k++[ps.getD k (0,0)]):=h1.trans (Zf _ _);refine⟨hs,fun j hj=>?_⟩;by_cases e:j=k
    ·subst e;rw[all l hs];exact hp
    ·exact h2 j (by lia)
   ·obtain⟨l',m',rfl⟩:=cu.mp z;obtain⟨h1,h2⟩:=(ih l').mp m';have hs:(l'++[ps.getD k (0,0)]).Sublist (ps.take k++[ps.getD k (0,0)]):=h1.append (List.Sublist.refl _);refine⟨hs,fun j hj=>?_⟩;by_cases e:j=k
    ·subst e;rw[all _ hs];exact hp
    ·rw[a6d l' h1 j (by lia)];exact h2 j (by lia)
  ·rintro⟨hs,hp⟩;have hpk:=hp k (by lia);rw[Nz (fun y hy=>by rw[lB hk'];exact hs.subset hy)] at hpk;refine⟨?_,hpk⟩;obtain⟨l1,l2,e,s1,s2⟩:=List.sublist_append_iff.mp hs;subst e;have:l2=[]\/l2=[ps.getD k (0,0)]:=by
    cases l2 with
    |nil=>exact .inl rfl
    |cons a l2=>
     right;exact s2.eq_of_length_le (by simp)
   rcases this with rfl|rfl
   ·refine jE _ ((ih _).mpr ⟨by simpa using s1,fun j hj=>hp j (by lia)⟩)
   ·refine jW _ (cu.mpr ⟨l1,(ih l1).mpr ⟨s1,fun j hj=>?_⟩,rfl⟩);have:=hp j (by lia);rwa[a6d l1 s1 j hj] at this
theorem jB{p:Nat->List Cell->Bool}{ps:List Cell}(nd:ps.Nodup):∀ k,k<=ps.length->(layAt p ps k).Nodup
 |0,_=>by unfold layAt;simp
 |k+1,hk=>by
  have ih:=jB (p:=p) nd k (by lia);unfold layAt;refine QF QB (yt.mpr ⟨ih,?_,fun a ha b hb e=>?_⟩)
  ·exact QM.mpr (ih.imp fun h e=>h (List.append_cancel_right e))
  ·obtain⟨b',_,rfl⟩:=cu.mp hb;subst e;have:=((uV nd k (by lia) _).mp ha).1;exact Bg nd (by lia) (this.subset (by simp))
theorem uU(p:Nat->List Cell->Bool)(ps:List Cell):∀ k,(layAt p ps k).length<=2^k
 |0=>bK _
 |k+1=>by
  unfold layAt;refine cX (iQ _ _) ?_;rw[c7,aR,Nat.pow_succ];have:=uU p ps k;lia
theorem pU{p:Nat->List Cell->Bool}{ps:List Cell}:∀ k,∀ l∈layAt p ps k,l.length<=k
 |0,l,h=>by unfold layAt at h;rw[dB.mp h];exact bK _
 |k+1,l,h=>by
  unfold layAt at h;rcases cR.mp (cC.mp h).1 with z|z
  ·have:=pU k l z;lia
  ·obtain⟨l',m',rfl⟩:=cu.mp z;have:=pU k l' m';rw[c7,jm];lia
def pJ(N l:List Cell):Nat:=(N.filter fun y=>decide (y∈l)).length
def iM(N:List Cell)(f:Int)(rest:Nat)(l:List Cell):Bool:=decide ((pJ N l:Int)<=f)&&decide (f<=(pJ N l:Int)+rest)
def Cw(N:List Cell)(c:Cell):Nat:=(N.filter fun y=>jk c y).length
def pP(zs:List Str)(w:Nat)(ps:List Cell)(k:Nat)(l:List Cell):Bool:=
 (aN zs w (ps.getD k (0,0))).all fun t=>iM (aF zs w t) (dO zs t) (Cw (aF zs w t) (ps.getD k (0,0))) l
def dF(zs:List Str)(w:Nat)(ps:List Cell)(t:Cell):List Cell:=(bQ zs.length w t).filter fun y=>decide (y∈ps)
def ou(zs:List Str)(w:Nat)(ps:List Cell):List Cell:=(bH zs w "012345678").filter fun t=>decide (0<(dF zs w ps t).length)
def kj(N ps:List Cell)(k:Nat):Nat:=(N.filter fun y=>decide (y∈ps.drop (k+1))).length
def pL(zs:List Str)(w:Nat)(ps:List Cell)(k:Nat)(l:List Cell):Bool:=
 (ou zs w ps).all fun t=>iM (dF zs w ps t) (dO zs t) (kj (dF zs w ps t) ps k) l
theorem RJ{N:List Cell}{a b c:Cell->Bool}(h:∀ y∈N,a y=true->b y=true\/c y=true):(N.filter a).length<=(N.filter b).length+(N.filter c).length:=by
 induction N with
 |nil=>simp
 |cons y N ih=>
  have ih':=ih fun z hz=>h z (fU _ hz)
  have hy:=h y dY;simp only[wQ];cases ha:a y<;>cases hb:b y<;>cases hc:c y<;>simp_all<;>lia
theorem Ud{N:List Cell}{a b:Cell->Bool}(h:∀ y∈N,a y=true->b y=true):(N.filter a).length<=(N.filter b).length:=by
 have:=RJ (N:=N) (a:=a) (b:=b) (c:=fun _=>false) fun y hy hz=>.inl (h y hy hz)
 have e:N.filter (fun _=>false)=[]:=Ga.mpr fun _ _=>g8
 rw[e] at this;simpa using this
theorem Hl{N:List Cell}{a:Cell->Bool}(h:∀ y∈N,a y=false):(N.filter a).length=0:=by
 rw[Ga.mpr fun y hy=>by rw[h y hy];exact g8];rfl
theorem Ho{N:List Cell}{a b:Cell->Bool}(h:∀ y∈N,a y=b y):(N.filter a).length=(N.filter b).length:=by rw[wO h]
section
variable{zs:List Str}{w:Nat}{ps:List Cell}
structure Part(zs:List Str)(w:Nat)(ps:List Cell):Prop where
 asc:ps.Pairwise cF
 ne:ps≠[]
 cl:∀ x∈ps,aL zs w x=true/\inF zs.length w x
 all:∀ x∈ps,∀ t∈aN zs w x,∀ y∈aF zs w t,y∈ps
theorem Part.join{c:Cell}(h6:zs.length<=6)(w6:w<=6)(hc:c∈aX zs w):Part zs w (dH zs w c):=by
 have hin:=jl hc;refine⟨mV h6 w6,fun z=>?_,fun x hx=>?_,fun x hx t ht y hy=>?_⟩
 ·have:c∈dH zs w c:=(fL hin).mpr .base;rw[z] at this;cases this
 ·have:=je.edge hc ((fL hin).mp hx);exact⟨(pY.mp this).1,jl this⟩
 ·exact(fL hin).mpr (.step ((fL hin).mp hx) ht hy)
theorem Part.nd(p:Part zs w ps):ps.Nodup:=jQ p.asc
theorem Part.near(p:Part zs w ps){x t:Cell}(hx:x∈ps)(ht:t∈aN zs w x):x∈aF zs w t:=by
 obtain⟨h1,h2,h3⟩:=gJ ht;exact cC.mpr ⟨mW h3 (p.cl x hx).2,(p.cl x hx).1⟩
theorem Hy{x t:Cell}(hx:x∈aF zs w t)(tin:inF zs.length w t)(to:aL zs w t=false):t∈aN zs w x:=by
 obtain⟨h1,h2⟩:=cC.mp hx;exact cC.mpr ⟨mW h1 tin,by rw[to];rfl⟩
theorem Part.some(p:Part zs w ps){x t:Cell}(hx:x∈ps)(ht:t∈aN zs w x):dF zs w ps t=aF zs w t:=by
 unfold dF aF;refine wO fun y hy=>?_
 cases hc:aL zs w y
 ·exact cG fun z=>by rw[(p.cl y z).1] at hc;cases hc
 ·exact bR (p.all x hx t ht y (cC.mpr ⟨hy,hc⟩))
theorem Part.told(v:Vw zs w)(p:Part zs w ps)(t:Cell):t∈ou zs w ps↔∃ x∈ps,t∈aN zs w x:=by
 unfold ou;rw[cC,kY v,jo,List.length_pos_iff_exists_mem];constructor
 ·rintro⟨⟨h1,h2⟩,x,hx⟩;obtain⟨h3,h4⟩:=cC.mp hx;have h4:=cI h4;exact⟨x,h4,Hy (cC.mpr ⟨h3,(p.cl x h4).1⟩) h1 h2⟩
 ·rintro⟨x,hx,ht⟩;obtain⟨h1,h2,_⟩:=gJ ht;refine⟨⟨h1,h2⟩,x,?_⟩;rw[p.some hx ht];exact p.near hx ht
theorem Part.split(p:Part zs w ps){j:Nat}(hj:j<ps.length){y:Cell}(hy:y∈ps):(y∈ps.take (j+1)/\y∉ps.drop (j+1)/\jk (ps.getD j (0,0)) y=false)\/(y∉ps.take (j+1)/\y∈ps.drop (j+1)/\jk (ps.getD j (0,0)) y=true):=by
 have as:=p.asc;have e:=Bu (j+1) ps;have nd:=p.nd;rw[<- e] at as nd;have dis:=(yt.mp nd).2.2;have hjm:ps.getD j (0,0)∈ps.take (j+1):=by rw[lB hj];exact jW _ (dB.mpr rfl)
 by_cases h:y∈ps.take (j+1)
 ·left;refine⟨h,fun z=>dis y h y z rfl,?_⟩;rw[lB hj] at h as;rcases cR.mp h with z|z
  ·have h1:=(vM.mp (vM.mp as).1).2.2 y z _ (dB.mpr rfl);exact cG (by unfold cF at *;lia)
  ·rw[dB.mp z];exact cG (by unfold cF;lia)
 ·right;rw[<- e] at hy;have hd:y∈ps.drop (j+1):=(cR.mp hy).resolve_left h;exact⟨h,hd,bR ((vM.mp as).2.2 _ hjm y hd)⟩
theorem Part.beh(p:Part zs w ps){j:Nat}(hj:j<ps.length){N:List Cell}(hN:∀ y∈N,y∈ps):Cw N (ps.getD j (0,0))=kj N ps j:=by
 refine Ho fun y hy=>?_
 rcases p.split hj (hN y hy) with⟨_,h2,h3⟩|⟨_,h2,h3⟩
 ·rw[h3,cG h2]
 ·rw[h3,bR h2]
theorem Hs{N l:List Cell}{f:Int}{r:Nat}:iM N f r l=true↔((pJ N l:Int)<=f/\f<=(pJ N l:Int)+r):=by
 unfold iM;rw[lW,jo,jo]
theorem Part.before(p:Part zs w ps){j:Nat}(hj:j<ps.length){N l:List Cell}(hN:∀ y∈N,y∈ps){f:Int}(h:(pJ N l:Int)=f):iM N f (kj N ps j) (upto ps (j+1) l)=true:=by
 rw[Hs,<- h];constructor
 ·have:=Ud (N:=N) (a:=fun y=>decide (y∈upto ps (j+1) l)) (b:=fun y=>decide (y∈l)) fun y _ hz=>bR (cC.mp (cI hz)).1
  unfold pJ;lia
 ·have:=RJ (N:=N) (a:=fun y=>decide (y∈l)) (b:=fun y=>decide (y∈upto ps (j+1) l)) (c:=fun y=>decide (y∈ps.drop (j+1))) fun y hy hz=>by
   rcases p.split hj (hN y hy) with⟨h1,_,_⟩|⟨_,h2,_⟩
   ·exact .inl (bR (cC.mpr ⟨cI hz,bR h1⟩))
   ·exact .inr (bR h2)
  unfold pJ kj;lia
theorem Vx{j:Nat}{N l:List Cell}{f:Int}(hN:∀ y∈N,y∈ps.take (j+1))(h0:kj N ps j=0)(h:iM N f (kj N ps j) (upto ps (j+1) l)=true):(pJ N l:Int)=f:=by
 rw[Hs,h0] at h;have e:pJ N (upto ps (j+1) l)=pJ N l:=Ho fun y hy=>by
  rw[rG];exact⟨fun z=>(cC.mp z).1,fun z=>cC.mpr ⟨z,bR (hN y hy)⟩⟩
 rw[e] at h;lia
theorem a0v{N:List Cell}(h0:N≠[])(hN:∀ y∈N,y∈ps):∃ j,j<ps.length/\ps.getD j (0,0)∈N/\∀ y∈N,y∈ps.take (j+1):=by
 have go:∀ k,k<=ps.length->(∀ y∈N,y∈ps.take k)->∃ j,j<ps.length/\ps.getD j (0,0)∈N/\∀ y∈N,y∈ps.take (j+1):=by
  intro k
  induction k with
  |zero=>
   intro _ h;cases N with
   |nil=>exact absurd rfl h0
   |cons a N=>have:=h a dY;rw[Fy] at this;cases this
  |succ k ih=>
   intro hk h;by_cases hh:∀ y∈N,y∈ps.take k
   ·exact ih (by lia) hh
   ·have ⟨y,hy,hn⟩:∃ y,y∈N/\y∉ps.take k:=Fd fun hc=>hh fun y hy=>Fd fun hn=>hc ⟨y,hy,hn⟩
    have:=h y hy;rw[lB (by lia)] at this;have e:y=ps.getD k (0,0):=dB.mp ((cR.mp this).resolve_left hn);exact⟨k,by lia,by rw[<- e];exact hy,h⟩
 exact go ps.length (bK _) (fun y hy=>by rw[gY];exact hN y hy)
def a1Z(zs:List Str)(w:Nat)(ps l:List Cell):Prop:=∀ x∈ps,∀ t∈aN zs w x,(pJ (aF zs w t) l:Int)=dO zs t
theorem Part.a6S(p:Part zs w ps)(l:List Cell):l∈layAt (pP zs w ps) ps ps.length↔(l.Sublist ps/\a1Z zs w ps l):=by
 rw[uV p.nd _ (bK _),gY];refine R6 fun hs=>⟨fun h x hx t ht=>?_,fun h j hj=>?_⟩
 ·have hN:∀ y∈aF zs w t,y∈ps:=p.all x hx t ht;have hx':=p.near hx ht;obtain⟨j,hj,hm,hl⟩:=a0v (fun z=>by rw[z] at hx';cases hx') hN;obtain⟨tin,to,_⟩:=gJ ht;have:=lX.mp (h j hj) t (Hy hm tin to);rw[p.beh hj hN] at this;refine Vx hl (Hl fun y hy=>?_) this;rcases p.split hj (hN y hy) with⟨_,h2,_⟩|⟨h2,_,_⟩
  ·exact cG h2
  ·exact absurd (hl y hy) h2
 ·refine lX.mpr fun t ht=>?_
  have hx:ps.getD j (0,0)∈ps:=by rw[getD_at hj];exact oG _
  have hN:∀ y∈aF zs w t,y∈ps:=p.all _ hx t ht;rw[p.beh hj hN];exact p.before hj hN (h _ hx t ht)
theorem Part.a6R(v:Vw zs w)(p:Part zs w ps)(l:List Cell):l∈layAt (pL zs w ps) ps ps.length↔(l.Sublist ps/\a1Z zs w ps l):=by
 rw[uV p.nd _ (bK _),gY];have n1:1<=ps.length:=by
  cases hp:ps with
  |nil=>exact absurd hp p.ne
  |cons a b=>simp
 refine R6 fun hs=>⟨fun h x hx t ht=>?_,fun h j hj=>?_⟩
 ·have hN:∀ y∈aF zs w t,y∈ps:=p.all x hx t ht;have:=lX.mp (h (ps.length-1) (by omega)) t ((p.told v t).mpr ⟨x,hx,ht⟩);rw[p.some hx ht] at this;have e:ps.length-1+1=ps.length:=by lia
  refine Vx (fun y hy=>?_) (Hl fun y hy=>?_) this
  ·rw[e,gY];exact hN y hy
  ·rw[e,R0];exact cG (by simp)
 ·refine lX.mpr fun t ht=>?_
  obtain⟨x,hx,ht⟩:=(p.told v t).mp ht;have hN:∀ y∈aF zs w t,y∈ps:=p.all _ hx t ht;rw[p.some hx ht];exact p.before hj hN (h _ hx t ht)
def d9(zs:List Str)(w:Nat)(ps:List Cell):List (List Cell):=(layAt (pP zs w ps) ps ps.length).mergeSort fun a b=>!llt b a
theorem nJ:(d9 zs w ps).Perm (layAt (pP zs w ps) ps ps.length):=List.mergeSort_perm _ _
theorem Um:Tn (d9 zs w ps):=by
 have h:(d9 zs w ps).Pairwise fun a b=>(!llt b a)=true:=by
  refine List.pairwise_mergeSort (fun a b c h1 h2=>?_) (fun a b=>?_) _
  ·have h1:llt b a=false:=by simpa using h1
   have h2:llt c b=false:=by simpa using h2
   rw[xJ.tr _ _ _ h1 h2];rfl
  ·cases h:llt b a
   ·rfl
   ·rw[xJ.KJ _ _ h];rfl
 exact h.imp fun h=>by simpa using h
theorem Part.lays(p:Part zs w ps){ds:List (List Cell)}(h1:ds.Perm (layAt (pP zs w ps) ps ps.length))(h2:Tn ds):ds=d9 zs w ps:=Rj xJ (h1.trans nJ.symm) h2 Um
theorem Part.a0w(v:Vw zs w)(p:Part zs w ps){ds:List (List Cell)}(h1:ds.Perm (layAt (pL zs w ps) ps ps.length))(h2:Tn ds):ds=d9 zs w ps:=by
 refine p.lays (h1.trans ?_) h2;refine(JK (jB p.nd _ (bK _)) (jB p.nd _ (bK _))).mpr fun l=>?_
 rw[p.a6R v,p.a6S]
theorem Hw(h:ps.length<=12):(d9 zs w ps).length<=4096:=by
 rw[nJ.length_eq];exact cX (uU _ _ _) (Qx (by decide) h)
theorem Uo{l:List Cell}(hl:l∈d9 zs w ps):l.length<=ps.length:=pU _ l (nJ.mem_iff.mp hl)
theorem nG{x y:Cell}(h6:zs.length<=6)(w6:w<=6)(hx:x∈aX zs w)(hy:y∈dH zs w x):dH zs w y=dH zs w x:=by
 have ix:=jl hx;have c1:=(fL ix).mp hy;have ey:=je.edge hx c1;have c2:=je.symm (pY.mp hx).1 ix c1;refine Im (mV h6 w6) (mV h6 w6) fun z=>?_
 rw[fL (jl ey),fL ix];exact⟨fun c=>c1.trans c,fun c=>c2.trans c⟩
structure ZV(zs:List Str)(w:Nat)(ps:List (List Cell)):Prop where
 of:∀ p∈ps,∃ x∈aX zs w,p=dH zs w x
 dis:ps.Pairwise fun a b=>∀ y∈a,y∉b
theorem Ea(h6:zs.length<=6)(w6:w<=6):∀(cs:List Cell)(ps:List (List Cell)),(∀ c∈cs,c∈aX zs w)->ZV zs w ps->ZV zs w (gG zs w cs ps)/\(∀ c∈cs,∃ p∈gG zs w cs ps,c∈p)/\(∀ p∈ps,p∈gG zs w cs ps)
 |[],ps,_,ok=>by unfold gG;exact⟨ok,(fun c hc=>by cases hc),fun p hp=>hp⟩
 |c::cs,ps,hcs,ok=>by
  have hc:=hcs c dY;have ic:=jl hc;have self:c∈dH zs w c:=(fL ic).mpr .base;unfold gG;by_cases h:∃ p∈ps,c∈p
  ·rw[aK h];obtain⟨a1,a2,a3⟩:=Ea h6 w6 cs ps (fun d hd=>hcs d (fU _ hd)) ok;refine⟨a1,fun d hd=>?_,a3⟩;rcases cW.mp hd with z|z
   ·obtain⟨p,hp,hcp⟩:=h;exact⟨p,a3 p hp,by rw[z];exact hcp⟩
   ·exact a2 d z
  ·rw[aH h];have ok2:ZV zs w (ps++[dH zs w c]):=by
    refine⟨fun p hp=>?_,vM.mpr ⟨ok.dis,Zi _ _,fun a ha b hb y hy hy2=>?_⟩⟩
    ·rcases cR.mp hp with z|z
     ·exact ok.of p z
     ·exact⟨c,hc,dB.mp z⟩
    ·rw[dB.mp hb] at hy2;obtain⟨x,hx,rfl⟩:=ok.of a ha;refine h ⟨_,ha,?_⟩;rw[<- nG h6 w6 hx hy,nG h6 w6 hc hy2];exact self
   obtain⟨a1,a2,a3⟩:=Ea h6 w6 cs (ps++[dH zs w c]) (fun d hd=>hcs d (fU _ hd)) ok2;refine⟨a1,fun d hd=>?_,fun p hp=>a3 p (jE _ hp)⟩;rcases cW.mp hd with z|z
   ·exact⟨_,a3 _ (jW _ (dB.mpr rfl)),by rw[z];exact self⟩
   ·exact a2 d z
theorem pX(h6:zs.length<=6)(w6:w<=6):ZV zs w (aO zs w)/\∀ c∈aX zs w,∃ p∈aO zs w,c∈p:=by
 obtain⟨a1,a2,_⟩:=Ea (zs:=zs) (w:=w) h6 w6 (aX zs w) [] (fun c hc=>hc) ⟨(fun p hp=>by cases hp),.nil⟩;exact⟨a1,a2⟩
theorem Vb{K:ao}{H0 H:Hp}{q:Addr}{qs:List Addr}{ps:List (List Cell)}(p:nC K H0 H q qs ps):fu (iJ K H0) H (qs.map V.ref) ps:=by
 have go:∀(qs:List Addr)(ps:List (List Cell)),qs.length=ps.length->(∀(i:Nat)(a:Addr)(p:List Cell),qs[i]?=some a->ps[i]?=some p->Ls K H a (p.map aB))->(∀ a∈qs,H0 a=none)->fu (iJ K H0) H (qs.map V.ref) ps:=by
  intro qs
  induction qs with
  |nil=>intro ps e _ _;cases ps with
   |nil=>exact .nil
   |cons _ _=>simp at e
  |cons a qs ih=>
   intro ps e h n;cases ps with
   |nil=>simp at e
   |cons p ps=>
    exact .cons ⟨a,rfl,n a dY,h 0 a p rfl rfl⟩ (ih ps (by simpa using e) (fun i b q h1 h2=>h (i+1) b q (by simpa using h1) (by simpa using h2)) fun b hb=>n b (fU _ hb))
 exact go qs ps p.len p.ls p.new
end
theorem nF(zs:List Str)(w:Nat)(x:Cell):(aF zs w x).length<=8:=cX (iQ _ _) (fW _ _ _)
def Ln(zs:List Str)(w:Nat)(c t:Cell):Dt:=.tup [.int (dO zs t),.lst ((aF zs w t).map aB),.int (Cw (aF zs w t) c)]
def HS(K:ao)(C:Addr):Sp:=fun vs H Q _=>∃(x:Addr)(v:V)(zs:List Str)(w:Nat)(c:Cell),vs=[.ref x,v]/\gA C H x zs w/\Den K H v (aB c)/\inF zs.length w c/\∀ q H',Fr K H H' q ((aN zs w c).map (Ln zs w c))->Q (.ref q) H'
section
variable{P:Program}{w:World}{K:ao}{mg:Str->Option Value}{base:Heap}{Z:Adr}
theorem Ph{f:Addr}{fd:FuncData} (F:Fun K "demands" "demands" zL f fd) (T:Txt K mg Z) (dW:Df P w K mg base 3 "open_near" ["view","cell"] (rE K Z.View aN)) (fj:Df P w K mg base 3 "closed_near" ["view","cell"] (rE K Z.View aF)) (pD:Df P w K mg base 1 "figure" ["view","cell"] (Et K Z.View)) :
  cY P w K mg base (CXE P w) 4 f fd ["view","last"] (HS K Z.View):=by
 refine F.rok o8 (fun vs H Q E h=>?_) (fun cdv A outer s H vs Q E hr h=>?_)
 ·obtain⟨x,v,zs,w,c,rfl,_⟩:=h;rfl
 ·obtain⟨x,v,zs,w,c,rfl,vt,dv,hin,hq⟩:=h;have hu:=lK hr;refine⟨_,(aA (aW (i:=2) o8.nd rfl (Or.inl rfl) (bZ ak)) (aA (cL eU rfl (aV (K:=K) (aY dW hr rfl bf (aj (rv 0) (aj (rv 1) ak)))) (bx (i:=3) o8.nd rfl (Or.inl rfl)) (aA (aW (i:=4) o8.nd rfl (Or.inl rfl) (aY fj hr rfl bf (aj (rv 0) (aj (rv 3) ak)))) (aA (oR (i:=5) o8.nd rfl rfl (by rfl) rfl (aV (K:=K) (rv 4)) (fun _ _ _=>(fB (bF (a5r (K:=K) hu) (rv 0) (rv 2) (cg _)))) (fun _ _ _=>(rv 0))) (aD (gb (kh (K:=K) jV lU lV dJ (rv 2) (aj (gk (aj (aY pD hr rfl bf (aj (rv 0) (aj (rv 3) ak))) (aj (rv 4) (aj (aZ (eZ (K:=K)) rfl T.eG cJ (aj (rv 5) ak)) ak)))) ak))))))) (aD (bB (rv 2))))),?_⟩;refine aC (fun zzs H1=>∃ q:Addr,H q=none/\Same H H1/\H1 q=some (.lst [])/\zzs=[zzR x,some v,zzR q,zzN,zzN,zzN]) (fun R hR=>?_) ?_
  ·exact⟨by decide,fun q nq=>hR _ _ ⟨q,nq,Same.put nq,au,rfl⟩⟩
  rintro zzs H1 ⟨q,nq,s1,eq1,rfl⟩;refine aC (fun zzs H2=>∃(us:List V)(v3 v4 v5:Option V),Same H H2/\H2 q=some (.lst us)/\aU K (del q H2) us ((aN zs w c).map (Ln zs w c))/\zzs=[zzR x,some v,zzR q,v3,v4,v5]) (fun R hR=>?_) ?_
  ·refine⟨_,rfl,_,rfl,x,_,zs,w,c,rfl,vt.mono s1,dv.mono s1,hin,fun tl H2 f2=>?_⟩;obtain⟨ts,et,Dt'⟩:=f2.ls;have lts:ts.length=(aN zs w c).length:=by rw[Dt'.length,aR]
   have lt8:=xO zs w c;have ntq:tl≠q:=fun z=>by have:=f2.new;rw[z,eq1] at this;cases this
   refine⟨tl,rfl,⟨_,SqL.of et⟩,?_⟩;refine cO (K:=K) (xs:=ts) (fun i zzs H3=>∃(us:List V)(v3 v4 v5:Option V),Same H H3/\H3 tl=some (.lst ts)/\aU K H3 ts ((aN zs w c).map aB)/\H3 q=some (.lst us)/\aU K (del q H3) us (((aN zs w c).take i).map (Ln zs w c))/\zzs=[zzR x,some v,zzR q,v3,v4,v5])
    ⟨[],none,none,none,s1.trans f2.same,et,Dt',f2.same _ _ eq1,.nil,rfl⟩ (fun i zzs H3 _ hh=>by obtain⟨_,_,_,_,_,e,_⟩:=hh;exact SqL.of e) (fun i u zzs H3 hu' hh=>?_) (fun zzs H3 hh=>?_)
   ·obtain⟨us,v3,v4,v5,sh,et3,Dt3,eq3,D3,rfl⟩:=hh;obtain⟨dt,edt,du⟩:=Dt3.get hu';rw[cQ] at edt;obtain⟨t,etq,rfl⟩:=gn.mp edt;have hi:i<(aN zs w c).length:=(gM.mp etq).1;obtain⟨tin,to,_⟩:=gJ (fJ etq);refine aC (fun zzs H4=>∃ a:Addr,Same H3 H4/\H3 a=none/\Ls K H4 a ((aF zs w t).map aB)/\zzs=[zzR x,some v,zzR q,some u,zzR a,v5]) (fun R' hR'=>?_) ?_
    ·exact⟨_,rfl,_,rfl,x,_,zs,w,t,rfl,vt.mono sh,du,tin,fun a H4 f4=>hR' _ _ ⟨a,f4.same,f4.new,f4.ls,rfl⟩⟩
    rintro zzs H4 ⟨a,s4,na,la,rfl⟩;obtain⟨as,ea,Da⟩:=id la;have lc8:=nF zs w t;refine aC (fun zzs H5=>∃ b:Addr,Same H4 H5/\Ls K H5 b (((aF zs w t).filter fun y=>jk c y).map aB)/\zzs=[zzR x,some v,zzR q,some u,zzR a,zzR b]) (fun R' hR'=>?_) ?_
    ·refine⟨_,rfl,a,rfl,⟨_,SqL.of ea⟩,dG (K:=K) (xs:=aF zs w t) (enc:=aB) (bJ (SqL.of ea)) Da (small (by lia)) (fun y=>jk c y) aB (fun y hy u' H5 s5 d G hG=>?_) (fun y hy _ u' H5 s5 d G hG=>⟨_,rfl,hG _ _ (Same.refl _) d⟩) (fun ys H5 s5 D5 b hb=>?_)⟩
     ·exact⟨_,rfl,_,rfl,y,c,d,dv.mono (sh.trans (s4.trans s5)),_,rfl,hG _ (Same.refl _)⟩
     ·exact hR' _ _ ⟨b,s5.and hb,.new hb D5,rfl⟩
    rintro zzs H5 ⟨b,s5,lb,rfl⟩;have eq5:=s5 _ _ (s4 _ _ eq3);have lus:us.length<=8:=by rw[D3.length,aR,jr];lia
    refine⟨_,rfl,.inl ⟨rfl,_,SqL.of eq5⟩,?_⟩;refine⟨_,rfl,_,rfl,x,_,zs,w,t,rfl,vt.mono (sh.trans (s4.trans s5)),du.mono (s4.trans s5),tin,to,?_⟩;refine⟨_,rfl,_,rfl,?_⟩;dsimp only[jF];refine nO lb.den ?_;refine⟨sz rfl,fun tt nt=>?_⟩;have s6:=Same.put (o:=.tup [.int (dO zs t),.ref a,.int ((((aF zs w t).filter fun y=>jk c y).map aB).length:Int)]) nt;refine jC (K:=K) (s6 _ _ eq5) (by lia) ?_;have sb:SameBut q (upd H5 tt (.tup [.int (dO zs t),.ref a,.int ((((aF zs w t).filter fun y=>jk c y).map aB).length:Int)])) (upd (upd H5 tt (.tup [.int (dO zs t),.ref a,.int ((((aF zs w t).filter fun y=>jk c y).map aB).length:Int)])) q (.lst (us++[.ref tt]))):=(SameBut.refl q _).put;have naq:a≠q:=fun z=>by rw[z,eq3] at na;cases na
    have a72:tt≠q:=fun z=>by rw[z,eq5] at nt;cases nt
    have sH:Same H3 (upd H5 tt (.tup [.int (dO zs t),.ref a,.int ((((aF zs w t).filter fun y=>jk c y).map aB).length:Int)])):=(s4.trans s5).trans s6;refine⟨us++[.ref tt],_,_,_,sb.of (sh.trans sH) nq,sb _ _ (sH _ _ et3) ntq,sb.cells (s6 _ _ eq5) (Dt3.mono sH),au,?_,rfl⟩;rw[iT,etq,dM];refine(D3.mono ((sH.but q).trans sb).del).append (.cons ?_ .nil);have dn:Same (del q (upd H5 tt (.tup [.int (dO zs t),.ref a,.int ((((aF zs w t).filter fun y=>jk c y).map aB).length:Int)]))) (del q (upd (upd H5 tt (.tup [.int (dO zs t),.ref a,.int ((((aF zs w t).filter fun y=>jk c y).map aB).length:Int)])) q (.lst (us++[.ref tt])))):=sb.del;refine Den.mono dn ?_;unfold Ln;refine Den.tup (by rw[mj a72];exact au) (.cons (.int _) (.cons (tD (s6 _ _ eq5) naq (la.mono (s5.trans s6))).den (.cons ?_ .nil)));rw[aR];exact .int _
   ·obtain⟨us,v3,v4,v5,sh,et3,Dt3,eq3,D3,rfl⟩:=hh;rw[lts,gY] at D3;exact hR _ _ ⟨us,v3,v4,v5,sh,eq3,D3,rfl⟩
  rintro zzs H2 ⟨us,v3,v4,v5,s2,eq2,D2,rfl⟩;exact⟨_,rfl,hq q _ ⟨s2,nq,us,eq2,D2.mono jL⟩⟩
theorem a0b{H:Hp}{v:V}{zs:List Str}{wd:Nat}{c t:Cell}(h:Den K H v (Ln zs wd c t)):∃(b:Addr)(y:V),v=.ref b/\H b=some (.tup [.int (dO zs t),y,.int (Cw (aF zs wd t) c)])/\Den K H y (.lst ((aF zs wd t).map aB)):=by
 unfold Ln at h;cases h with
 |tup ht hs=>
  cases hs with
  |cons h1 hs=>
   cases hs with
   |cons h2 hs=>
    cases hs with
    |cons h3 hs=>
     cases hs;cases h1;cases h3;exact⟨_,_,rfl,ht,h2⟩
def qM(zs:List Str)(wd:Nat)(c:Cell)(ts l:List Cell):Bool:=ts.all fun t=>iM (aF zs wd t) (dO zs t) (Cw (aF zs wd t) c) l
def a2q(K:ao):Sp:=fun vs H Q _=>∃(v:V)(q:Addr)(zs:List Str)(wd:Nat)(c:Cell)(ts l:List Cell),vs=[v,.ref q]/\Den K H v (vA l)/\Ls K H q (ts.map (Ln zs wd c))/\∀ H',Same H H'->Q (.bl (qM zs wd c ts l)) H'
theorem a3E{f:Addr}{fd:FuncData} (F:Fun K "may_hold" "may_hold" wG f fd) (T:Txt K mg Z):cY P w K mg base (CXE P w) 1 f fd ["laying","asked"] (a2q K):=by
 refine F.rok uc (fun vs H Q E h=>?_) (fun cdv A outer s H vs Q E hr h=>?_)
 ·obtain⟨v,q,zs,w,c,ts,l,rfl,_⟩:=h;rfl
 ·obtain⟨v,q,zs,wd,c,ts,l,rfl,dv,lq,hq⟩:=h;have hu:=lK hr;have hu':=xG hr;refine⟨_,(aA (cL eU rfl (aV (K:=K) (rv 1)) (bx (i:=2) uc.nd rfl (Or.inl rfl)) (aA (aW (i:=3) uc.nd rfl (Or.inl rfl) (aZ (eZ (K:=K)) rfl T.eG cJ (aj (fZ (by rfl) rfl (aV (K:=K) (cH (cV (K:=K)) (rv 2) aG)) (fun _ _ _=>(fB (bF (eV.or (nH (K:=K) hu')) (rv 0) (rv 1) (by rfl)))) (fun _ _ _=>(rv 0))) ak))) (aD (dR (qX (xW rM rM (rv 3) (cH (cV (K:=K)) (rv 2) aG) (dw bI (rv 3) (cH (cV (K:=K)) (rv 2) aG)))) (aD (bB qb)) bO)))) (aD (bB qb))),?_⟩;obtain⟨l',rfl⟩:∃ a,v=.ref a:=by cases dv;exact⟨_,rfl⟩
  obtain⟨xs,ex,Dx⟩:=lq;have lx:xs.length=ts.length:=by rw[Dx.length,aR]
  refine aC (fun zzs H1=>∃(v2 v3:Option V),Same H H1/\qM zs wd c ts l=true/\zzs=[zzR l',zzR q,v2,v3]) (fun R hR=>?_) ?_
  ·refine⟨_,rfl,q,rfl,⟨_,SqL.of ex⟩,?_⟩;refine cO (K:=K) (xs:=xs) (fun i zzs H1=>∃(v2 v3:Option V),Same H H1/\(∀ t∈ts.take i,iM (aF zs wd t) (dO zs t) (Cw (aF zs wd t) c) l=true)/\zzs=[zzR l',zzR q,v2,v3])
    ⟨none,none,Same.refl _,(fun t ht=>by cases ht),rfl⟩ (fun i zzs H1 _ hh=>by obtain⟨_,_,g,_⟩:=hh;exact SqL.of (g _ _ ex)) (fun i u zzs H1 hi hh=>?_) (fun zzs H1 hh=>?_)
   ·obtain⟨v2,v3,g1,g2,rfl⟩:=hh;obtain⟨d,ed,du⟩:=Dx.get hi;rw[cQ] at ed;obtain⟨t,et,rfl⟩:=gn.mp ed;obtain⟨b,y,rfl,eb,dy⟩:=a0b (du.mono g1);obtain⟨yl,rfl⟩:∃ a,y=.ref a:=by cases dy;exact⟨_,rfl⟩
    have lc8:=nF zs wd t;refine aC (fun zzs H2=>Same H1 H2/\zzs=[zzR l',zzR q,zzR b,zzI (pJ (aF zs wd t) l)]) (fun R' hR'=>?_) ?_
    ·refine⟨_,rfl,.inr (.inl ⟨b,_,_,_,rfl,rfl,SqT.of eb,fP (j:=1) rfl,?_⟩)⟩;cases dy with
     |lst hy Dy=>
      refine⟨yl,rfl,⟨_,hy⟩,dG (K:=K) (xs:=aF zs wd t) (enc:=aB) (bJ hy) Dy (small (by lia)) (fun y=>decide (y∈l)) aB (fun y hy u' H5 s5 d G hG=>?_) (fun y hy _ u' H5 s5 d G hG=>⟨_,rfl,hG _ _ (Same.refl _) d⟩) (fun ys H5 s5 D5 n hn=>?_)⟩
      ·exact⟨_,rfl,_,rfl,.inr (vI d (dv.mono (g1.trans s5)) ⟨_,rfl,hG _ (Same.refl _)⟩)⟩
      ·dsimp only[jF];refine nO (Ls.new hn D5).den ?_;rw[aR];exact hR' _ _ ⟨s5.and hn,rfl⟩
    rintro zzs H2 ⟨s2,rfl⟩;have eb2:=s2 _ _ eb;have nxt:iM (aF zs wd t) (dO zs t) (Cw (aF zs wd t) c) l=true->∃(v2 v3:Option V),Same H H2/\(∀ t∈ts.take (i+1),iM (aF zs wd t) (dO zs t) (Cw (aF zs wd t) c) l=true)/\[zzR l',zzR q,zzR b,zzI (pJ (aF zs wd t) l)]=[some (V.ref l'),some (.ref q),v2,v3]:=fun hb=>⟨_,_,g1.trans s2,fun t' ht'=>by
     rw[iT,et] at ht';rcases cR.mp ht' with z|z
     ·exact g2 t' z
     ·rw[dB.mp z];exact hb,rfl⟩
    have bad:iM (aF zs wd t) (dO zs t) (Cw (aF zs wd t) c) l=false->Q (.bl false) H2:=fun hb=>by
     have:qM zs wd c ts l=false:=by
      cases e:qM zs wd c ts l
      ·rfl
      ·have:=lX.mp e t (fJ et);rw[hb] at this;cases this
     rw[<- this];exact hq _ (g1.trans s2)
    refine⟨_,rfl,_,rfl,.inr (.inl ⟨b,_,_,_,rfl,rfl,SqT.of eb2,eF,?_⟩)⟩;refine⟨_,_,rfl,rfl,_,rfl,?_⟩;refine dD (fun h1=>?_) (fun h1=>?_)
    ·refine⟨_,rfl,_,rfl,.inr (.inl ⟨b,_,_,_,rfl,rfl,SqT.of eb2,fP (j:=2) rfl,?_⟩)⟩;refine⟨_,_,rfl,rfl,_,rfl,?_⟩;refine dD (fun h2=>?_) (fun h2=>?_)
     ·refine bad ?_;unfold iM;rw[show decide (dO zs t<=(pJ (aF zs wd t) l:Int)+(Cw (aF zs wd t) c:Int))=false by simpa only[qm] using h2,uF]
     ·refine nxt ?_;unfold iM;rw[h1,show decide (dO zs t<=(pJ (aF zs wd t) l:Int)+(Cw (aF zs wd t) c:Int))=true by simpa only[wN] using h2];rfl
    ·refine⟨_,rfl,zj ?_⟩;refine bad ?_;unfold iM;rw[h1];rfl
   ·obtain⟨v2,v3,g1,g2,rfl⟩:=hh;rw[lx,gY] at g2;exact hR _ _ ⟨v2,v3,g1,lX.mpr g2,rfl⟩
  rintro zzs H1 ⟨v2,v3,s1,hk,rfl⟩;rw[hk] at hq;exact hq _ s1
theorem zJ{K:ao}{H0 H:Hp}:∀ {vs:List V} {rs:List (List Cell)},fu (iJ K H0) H vs rs->∃ qs:List Addr,vs=qs.map V.ref
 |_,_,.nil=>⟨[],rfl⟩
 |_,_,.cons h t=>by
  obtain⟨a,rfl,_⟩:=h;obtain⟨qs,e⟩:=zJ t;exact⟨a::qs,by rw[e];rfl⟩
theorem a2k{K:ao}{H0 H:Hp}{q:Addr}{qs:List Addr}{rs:List (List Cell)}(r:fu (iJ K H0) H (qs.map V.ref) rs)(nd:rs.Nodup)(nq:H q=none):nC K H0 (upd H q (.lst (qs.map V.ref))) q qs rs:=by
 have s1:=Same.put (o:=.lst (qs.map V.ref)) nq;have at_:∀(i:Nat)(a:Addr),qs[i]?=some a->∃ p,rs[i]?=some p/\iJ K H0 p (.ref a) H:=fun i a e=>r.get (by rw[cQ,e];rfl)
 have len:qs.length=rs.length:=by have:=r.length;rwa[aR] at this
 refine⟨au,len,fun i a p h1 h2=>?_,fun a ha=>?_,?_,fun z=>?_⟩
 ·obtain⟨p',e,b,eb,_,l⟩:=at_ i a h1;rw[h2] at e;cases e;cases eb;exact l.mono s1
 ·obtain⟨i,hi⟩:=rP ha;obtain⟨p',e,b,eb,n,l⟩:=at_ i a hi;cases eb;exact n
 ·rw[List.nodup_iff_pairwise_ne,yq];intro i j hi hj hij e;obtain⟨p,ep,rp⟩:=at_ i _ (gj hi);obtain⟨p',ep',rp'⟩:=at_ j _ (gj hj);rw[e] at rp;have:=rp.det rp';subst this;have h1:=(gM.mp ep)
  have h2:=(gM.mp ep')
  have:i=j:=(List.getElem_inj nd).mp (h1.2.trans h2.2.symm);lia
 ·obtain⟨i,hi⟩:=rP z;obtain⟨p',e,b,eb,n,xs,ex,_⟩:=at_ i q hi;cases eb;rw[ex] at nq;cases nq
def HW(K:ao)(C NC TG:Addr):Sp:=fun vs H Q E=>∃(x:Addr)(v:V)(zs:List Str)(w:Nat)(c:Cell),vs=[.ref x,v]/\gA C H x zs w/\Den K H v (aB c) /\
 (c∉aX zs w->∀ H',Same H H'->E (.ref NC) none H')/\(c∈aX zs w->12<(dH zs w c).length->∀ H',Same H H'->E (.ref TG) none H') /\
 (c∈aX zs w->(dH zs w c).length<=12->∀(q:Addr)(qs:List Addr)(H':Hp),H q=none->Same H H'->nC K H H' q qs (d9 zs w (dH zs w c))->Q (.ref q) H')
theorem Pj{f:Addr}{fd:FuncData} (F:Fun K "layings" "layings" zP f fd) (T:Txt K mg Z) (yD:Df P w K mg base 4 "edge" ["view"] (uf K Z.View aX)) (pF:Df P w K mg base 4 "joined" ["view","cell"] (Eu K Z.View)) (yC:Df P w K mg base 4 "demands" ["view","last"] (HS K Z.View)) (vR:Df P w K mg base 1 "may_hold" ["laying","asked"] (a2q K)) :
  cY P w K mg base (CXE P w) 5 f fd ["view","cell"] (HW K Z.View Z.NoCell Z.TooGreat):=by
 refine F.PJ jx (fun vs H Q E h=>?_) (fun cdv A outer s H vs Q E hr h=>?_)
 ·obtain⟨x,v,zs,w,c,rfl,_⟩:=h;rfl
 ·obtain⟨x,v,zs,w,c,rfl,vt,dv,hN,hT,hq⟩:=h;have hu:=lK hr;have hu':=xG hr;have hd:=M5 hr;have z6:=vt.vw.le;have w6:=vt.vw.w6;refine⟨_,(aA (dR (RT.nox (bF (gF.or (lM (K:=K) hu')) (rv 1) (aY yD hr rfl bf (aj (rv 0) ak)) (by rfl))) (aD (nR T.oA rfl T.sZ hd (aj dX ak))) bO) (aA (RS.nox (aW (i:=2) jx.nd rfl (Or.inl rfl) (aY pF hr rfl bf (aj (rv 0) (aj (rv 1) ak))))) (aA (dR (RT.nox (bF Bj (aZ (eZ (K:=K)) rfl T.eG cJ (aj (rv 2) ak)) (Pz T.jg rfl) (cg _))) (aD (nR T.lC rfl T.vX hd (aj dX ak))) bO) (aA (RS.nox (aW (i:=3) jx.nd rfl (Or.inl rfl) (bZ (aj (bZ ak) ak)))) (aA (RS.nox (cL eU rfl (aV (K:=K) (rv 2)) (bx (i:=4) jx.nd rfl (Or.inr rfl)) (aA (aW (i:=5) jx.nd rfl (Or.inr rfl) (aY yC hr rfl bf (aj (rv 0) (aj (rv 4) ak)))) (aA (aW (i:=6) jx.nd rfl (Or.inl rfl) (dw bI (rv 3) (fZ (by rfl) rfl (aV (K:=K) (rv 3)) (fun _ _ _=>lF) (fun _ _ _=>(dw bI (rv 0) (bZ (aj (rv 5) ak))))))) (aD (oR (i:=3) jx.nd rfl rfl (by rfl) rfl (aV (K:=K) (rv 6)) (fun _ _ _=>(fB (kZ (aY vR hr rfl bf (aj (rv 0) (aj (rv 6) ak)))))) (fun _ _ _=>(rv 0)))))))) (aD (RS.nox (bB (aZ (RW (K:=K) hu) rfl T.pH pI (aj (rv 3) ak)))))))))),?_⟩;refine aC (fun zzs H1=>c∈aX zs w/\Same H H1/\zzs=[zzR x,some v,zzN,zzN,zzN,zzN,zzN]) (fun R hR=>?_) ?_
  ·refine⟨_,rfl,_,rfl,x,zs,w,rfl,vt,fun eg H1 fr=>.inr (nP (dv.mono fr.same) fr.ls.den ⟨_,rfl,?_⟩)⟩;refine dD (fun h1=>⟨by decide,hN (j6 (by simpa only[qm] using h1)) H1 fr.same⟩) (fun h1=>hR _ _ ⟨cI (by simpa only[wN] using h1),fr.same,rfl⟩)
  rintro zzs H1 ⟨hc,s1,rfl⟩;have hin:=jl hc;have pt:=Part.join z6 w6 hc;refine aC (fun zzs H2=>∃(pl:Addr)(ms:List V),Same H H2/\H2 pl=some (.lst ms)/\aU K H2 ms ((dH zs w c).map aB)/\zzs=[zzR x,some v,zzR pl,zzN,zzN,zzN,zzN]) (fun R hR=>?_) ?_
  ·refine⟨_,rfl,_,rfl,x,_,zs,w,c,rfl,vt.mono s1,dv.mono s1,hin,fun a H2 ds na s2 la as mm=>?_⟩;have e:ds=dH zs w c:=Im as (mV z6 w6) fun y=>by rw[mm y,fL hin]
   rw[e] at la;obtain⟨ms,em,Dm⟩:=la;exact hR _ _ ⟨a,ms,s1.trans s2,em,Dm,rfl⟩
  rintro zzs H2 ⟨pl,ms,s2,em,Dm,rfl⟩;have lms:ms.length=(dH zs w c).length:=by rw[Dm.length,aR]
  refine aC (fun zzs H3=>(dH zs w c).length<=12/\H3=H2/\zzs=[zzR x,some v,zzR pl,zzN,zzN,zzN,zzN]) (fun R hR=>?_) ?_
  ·refine⟨_,rfl,?_⟩;dsimp only[jF];refine nO (Den.lst (SqL.of em) Dm) ⟨_,_,rfl,rfl,_,rfl,?_⟩;rw[aR];refine dD (fun h1=>⟨by decide,hT hc (by have:=cI h1;lia) H2 s2⟩) (fun h1=>hR _ _ ⟨by have:=j6 h1;lia,rfl,rfl⟩)
  rintro zzs H3 ⟨h12,rfl,rfl⟩;have hq':=hq hc h12;clear hN hT hq;generalize hps:dH zs w c=ps at *;refine aC (fun zzs H4=>∃(bl:Addr)(bs:List V),Same H H4/\H4 pl=some (.lst ms)/\aU K H4 ms (ps.map aB)/\H4 bl=some (.lst bs)/\fu (iJ K H) H4 bs (layAt (pP zs w ps) ps 0)/\zzs=[zzR x,some v,zzR pl,zzR bl,zzN,zzN,zzN]) (fun R hR=>?_) ?_
  ·refine⟨by decide,fun e0 n0=>?_⟩;dsimp only[jF];refine⟨sz rfl,fun bl nb=>?_⟩;have t1:=Same.put (o:=.lst []) n0;have t2:=t1.and (o:=.lst [.ref e0]) nb;refine hR _ _ ⟨bl,_,s2.trans t2,t2 _ _ em,Dm.mono t2,au,.cons ⟨e0,rfl,s2.free n0,[],?_,.nil⟩ .nil,rfl⟩;exact(Same.put nb) _ _ au
  rintro zzs H4 ⟨bl,bs,s4,em4,Dm4,eb4,rb4,rfl⟩;refine aC (fun zzs H5=>∃(bl:Addr)(bs:List V)(v4 v5 v6:Option V),Same H H5/\H5 bl=some (.lst bs)/\fu (iJ K H) H5 bs (layAt (pP zs w ps) ps ps.length)/\zzs=[zzR x,some v,zzR pl,zzR bl,v4,v5,v6]) (fun R hR=>?_) ?_
  ·refine⟨_,rfl,pl,rfl,⟨_,SqL.of em4⟩,?_⟩;refine cO (K:=K) (xs:=ms) (fun i zzs H5=>∃(bl:Addr)(bs:List V)(v4 v5 v6:Option V),Same H H5/\H5 pl=some (.lst ms)/\aU K H5 ms (ps.map aB)/\H5 bl=some (.lst bs)/\fu (iJ K H) H5 bs (layAt (pP zs w ps) ps i)/\zzs=[zzR x,some v,zzR pl,zzR bl,v4,v5,v6])
    ⟨bl,bs,none,none,none,s4,em4,Dm4,eb4,rb4,rfl⟩ (fun i zzs H5 _ hh=>by obtain⟨_,_,_,_,_,_,e,_⟩:=hh;exact SqL.of e) (fun i u zzs H5 hi hh=>?_) (fun zzs H5 hh=>?_)
   ·obtain⟨bl,bs,v4,v5,v6,s5,em5,Dm5,eb5,rb5,rfl⟩:=hh;obtain⟨dm,edm,du⟩:=Dm5.get hi;rw[cQ] at edm;obtain⟨m,emq,rfl⟩:=gn.mp edm;have him:i<ps.length:=(gM.mp emq).1;have eD:ps.getD i (0,0)=m:=by rw[gO,emq];rfl
    have mps:m∈ps:=fJ emq;have lb:bs.length<=2048:=by
     rw[rb5.length];exact cX (uU _ _ _) (Qx (by decide) (show i<=11 by lia))
    have lay:(layAt (pP zs w ps) ps i).length<=2048:=by rw[<- rb5.length];exact lb
    refine aC (fun zzs H6=>∃ aq:Addr,Same H5 H6/\Ls K H6 aq ((aN zs w m).map (Ln zs w m))/\zzs=[zzR x,some v,zzR pl,zzR bl,some u,zzR aq,v6]) (fun R' hR'=>?_) ?_
    ·exact⟨_,rfl,_,rfl,x,_,zs,w,m,rfl,vt.mono s5,du,(pt.cl m mps).2,fun aq H6 f6=>hR' _ _ ⟨aq,f6.same,f6.ls,rfl⟩⟩
    rintro zzs H6 ⟨aq,s6,la,rfl⟩;refine aC (fun zzs H7=>∃(bb:Addr)(ws:List V),Same H6 H7/\H7 bb=some (.lst ws)/\fu (iJ K H) H7 ws (layAt (pP zs w ps) ps i++(layAt (pP zs w ps) ps i).map (·++[m]))/\zzs=[zzR x,some v,zzR pl,zzR bl,some u,zzR aq,zzR bb]) (fun R' hR'=>?_) ?_
    ·refine⟨_,rfl,_,rfl,bl,rfl,⟨_,SqL.of (s6 _ _ eb5)⟩,?_⟩;refine pK (iJ.stays) (iJ.stays (K:=K) (H0:=H)) (bJ (SqL.of (s6 _ _ eb5))) (rb5.mono iJ.stays s6) (small (by lia)) (fun l=>l++[m]) (fun l hl y H7 s7 ry G hG=>?_) (fun ys H7 s7 D7 n hn=>?_)
     ·obtain⟨a,rfl,na,la'⟩:=ry;have ll:=pU _ l hl;refine⟨_,rfl,_,rfl,?_⟩;dsimp only[jF];refine⟨sz rfl,fun p1 n1=>?_⟩;have t1:=Same.put (o:=.lst [u]) n1;refine zH (K:=K) (la'.mono t1) (show Ls K (upd H7 p1 (.lst [u])) p1 ([m].map aB) from⟨[u],au,.cons (du.mono ((s6.trans s7).trans t1)) .nil⟩) (by rw[aR,aR,jm];lia) fun r H8 fr=>?_
      refine hG _ _ (t1.trans fr.same) ⟨r,rfl,(s5.trans ((s6.trans s7).trans t1)).free fr.new,?_⟩;rw[dM];exact fr.ls
     ·have t1:=Same.put (o:=.lst ys) hn;refine⟨bs,ys,t1 _ _ (s7 _ _ (s6 _ _ eb5)),au,small (by have:=D7.length;rw[aR] at this;lia),fun bb nbb=>?_⟩;have t2:=t1.and (o:=.lst (bs++ys)) nbb;exact hR' _ _ ⟨bb,_,s7.trans t2,au,(rb5.mono iJ.stays (s6.trans (s7.trans t2))).append (D7.mono iJ.stays t2),rfl⟩
    rintro zzs H7 ⟨bb,ws,s7,eb7,rb7,rfl⟩;have lw:(layAt (pP zs w ps) ps i++(layAt (pP zs w ps) ps i).map (·++[m])).length<=4096:=by rw[c7,aR];lia
    refine⟨_,rfl,bb,rfl,⟨_,SqL.of eb7⟩,?_⟩;refine CP (iJ.stays) (iJ.stays (K:=K) (H0:=H)) (bJ (SqL.of eb7)) rb7 (small (by lia)) (fun l=>qM zs w m (aN zs w m) l) id (fun l hl y H8 s8 ry G hG=>?_) (fun l hl _ y H8 s8 ry G hG=>⟨_,rfl,hG _ _ (Same.refl _) ry⟩) (fun ys H8 s8 D8 n hn=>?_)
    ·refine⟨_,rfl,_,rfl,y,aq,zs,w,m,aN zs w m,l,rfl,ry.den,la.mono (s7.trans s8),fun H9 s9=>⟨_,rfl,hG _ s9⟩⟩
    ·have t1:=Same.put (o:=.lst ys) hn;have sA:=(s6.trans s7).trans (s8.trans t1);refine⟨n,ys,_,_,_,s5.trans sA,sA _ _ em5,Dm5.mono sA,au,?_,rfl⟩;have e:layAt (pP zs w ps) ps (i+1)=((layAt (pP zs w ps) ps i++(layAt (pP zs w ps) ps i).map (·++[m])).filter (fun l=>qM zs w m (aN zs w m) l)).map id:=by
      rw[Ku];show(layAt (pP zs w ps) ps i++(layAt (pP zs w ps) ps i).map (·++[ps.getD i (0,0)])).filter (pP zs w ps i)=_;unfold pP qM;rw[eD]
     rw[e];exact D8.mono iJ.stays t1
   ·obtain⟨bl,bs,v4,v5,v6,s5,em5,Dm5,eb5,rb5,rfl⟩:=hh;rw[lms] at rb5;exact hR _ _ ⟨bl,bs,v4,v5,v6,s5,eb5,rb5,rfl⟩
  rintro zzs H5 ⟨bl,bs,v4,v5,v6,s5,eb5,rb5,rfl⟩;have nd:=jB (p:=pP zs w ps) pt.nd _ (bK ps.length);refine⟨_,rfl,bl,bs,layAt (pP zs w ps) ps ps.length,rfl,SqL.of eb5,rb5.a2S fun a v h=>h.den,fun q o nq po as=>?_⟩;have lo:∀ i∈o,i<bs.length:=fun i hi=>fK.mp (po.mem_iff.mp hi)
  have ro:=fu.by (d0:=[]) o rb5 lo;have pd:(o.map fun i=>(layAt (pP zs w ps) ps ps.length).getD i []).Perm (layAt (pP zs w ps) ps ps.length):=oO (by rw[<- rb5.length];exact po);rw[pt.lays pd as] at ro;have ndl:(d9 zs w ps).Nodup:=nJ.nodup_iff.mpr nd;obtain⟨qs,eqs⟩:∃ qs:List Addr,(o.map fun i=>bs.getD i .non)=qs.map V.ref:=zJ ro;rw[eqs] at ro ⊢;exact hq' q qs _ (s5.free nq) (s5.and nq) (a2k ro ndl nq)
end
def Ey(zs:List Str)(w:Nat)(ps:List Cell)(t:Cell):Dt:=.tup [.int (dO zs t),.lst ((dF zs w ps t).map aB)]
theorem VR{K:ao}{H:Hp}{v:V}{zs:List Str}{wd:Nat}{ps:List Cell}{t:Cell}(h:Den K H v (Ey zs wd ps t)):∃(b:Addr)(y:V),v=.ref b/\H b=some (.tup [.int (dO zs t),y])/\Den K H y (.lst ((dF zs wd ps t).map aB)):=by
 unfold Ey at h;cases h with
 |tup ht hs=>
  cases hs with
  |cons h1 hs=>
   cases hs with
   |cons h2 hs=>
    cases hs;cases h1;exact⟨_,_,rfl,ht,h2⟩
theorem VF(xs:List V)(n:Nat):CQ xs (some (n:Int)) none=xs.drop n:=by
 unfold CQ;rw[HT.tU];have e:HT.sIx xs.length 0 (some (n:Int))=min n xs.length:=HT.xX ..;rw[e];by_cases h:n<=xs.length
 ·rw[Ak h];exact Bs (by simp)
 ·rw[Nat.min_eq_right (by lia),Rc,Fy,JR (by lia)]
theorem GZ{K:ao}{H:Hp}:∀(n:Nat){vs:List V}{ds:List Dt},aU K H vs ds->aU K H (vs.drop n) (ds.drop n)
 |0,_,_,h=>h
 |n+1,_,_,.nil=>.nil
 |n+1,_,_,.cons h t=>GZ n t
def vV(K:ao)(H0:Hp)(lg:Addr)(r:List Cell)(v:V)(H:Hp):Prop:=iJ K H0 r v (del lg H)
theorem vV.stays{K:ao}{H0:Hp}{lg:Addr}:Az (vV K H0 lg):=fun r v H H' s h=>iJ.stays _ _ _ _ s.del h
def Ew(K:ao):Sp:=fun vs H Q _=>∃(p pl:Addr)(zs:List Str)(w:Nat)(ps:List Cell),vs=[.ref p,.ref pl]/\SqL K H p (zs.map V.str)/\Vw zs w/\Ls K H pl (ps.map aB)/\Part zs w ps/\ps.length<=12 /\
 ∀(q:Addr)(qs:List Addr)(H':Hp),H q=none->Same H H'->nC K H H' q qs (d9 zs w ps)->Q (.ref q) H'
section
variable{P:Program}{w:World}{K:ao}{mg:Str->Option Value}{base:Heap}{Z:Adr}
theorem Mu{f:Addr}{fd:FuncData} (F:Fun K "_law_layings" "_law_layings" nU f fd) (T:Txt K mg Z) (cA:Df P w K mg base 1 "_law_sizes" ["rows"] (vh K)) (bN:Df P w K mg base 1 "_law_cells" ["rows","signs"] (rD K)) (bW:Df P w K mg base 1 "_law_near" ["height","width","cell"] (wJ K)) :
  cY P w K mg base (CXE P w) 2 f fd ["rows","part"] (Ew K):=by
 refine F.rok bC (fun vs H Q E h=>?_) (fun cdv A outer s H vs Q E hr h=>?_)
 ·obtain⟨p,pl,zs,w,ps,rfl,_⟩:=h;rfl
 ·obtain⟨p,pl,zs,wd,ps,rfl,hS,vw,lp,pt,h12,hq⟩:=h;have hu:=lK hr;have hu':=xG hr;have z6:=vw.le;have w6:=vw.w6;refine⟨_,(aA (mz (aY cA hr rfl bf (aj (rv 0) ak)) (nQ rfl (cP (bx (i:=2) bC.nd rfl (Or.inl rfl)) (cP (bx (i:=3) bC.nd rfl (Or.inl rfl)) jO)))) (aA (aW (i:=4) bC.nd rfl (Or.inl rfl) (bZ ak)) (aA (cL eU rfl (aV (K:=K) (aY bN hr rfl bf (aj (rv 0) (aj dX ak)))) (bx (i:=5) bC.nd rfl (Or.inl rfl)) (aA (oR (i:=6) bC.nd rfl rfl (by rfl) rfl (aV (K:=K) (aY bW hr rfl bf (aj (rv 2) (aj (rv 3) (aj (rv 5) ak))))) (fun _ _ _=>(fB (bF (eV.or (nH (K:=K) hu')) (rv 0) (rv 2) (by rfl)))) (fun _ _ _=>(rv 0))) (aD (dR (bF Bj (aZ (eZ (K:=K)) rfl T.eG cJ (aj (rv 6) ak)) aG (cg _)) (aD (gb (kh (K:=K) jV lU lV dJ (rv 4) (aj (gk (aj (jN GC rfl T.Gu CG (aj (cH (cV (K:=K)) (cH (cV (K:=K)) (rv 0) (cH (cV (K:=K)) (rv 5) aG)) (cH (cV (K:=K)) (rv 5) aG)) ak)) (aj (rv 6) ak))) ak)))) bO)))) (aA (aW (i:=7) bC.nd rfl (Or.inl rfl) (bZ (aj (bZ ak) ak))) (aA (cL eU rfl (Ma (K:=K) rfl T.sY (aj (rv 1) ak)) (nQ rfl (cP (bx (i:=8) bC.nd rfl (Or.inr rfl)) (cP (bx (i:=9) bC.nd rfl (Or.inr rfl)) jO))) (aA (aW (i:=10) bC.nd rfl (Or.inl rfl) (bZ ak)) (aA (cL eU rfl (aV (K:=K) (dw bI (rv 7) (fZ (by rfl) rfl (aV (K:=K) (rv 7)) (fun _ _ _=>lF) (fun _ _ _=>(dw bI (rv 0) (bZ (aj (rv 10) ak))))))) (bx (i:=11) bC.nd rfl (Or.inr rfl)) (aA (aW (i:=12) bC.nd rfl (Or.inl rfl) qb) (aA (cL eU rfl (aV (K:=K) (rv 4)) (nQ rfl (cP (bx (i:=13) bC.nd rfl (Or.inl rfl)) (cP (bx (i:=6) bC.nd rfl (Or.inl rfl)) jO))) (aA (aW (i:=14) bC.nd rfl (Or.inl rfl) (aZ (eZ (K:=K)) rfl T.eG cJ (aj (fZ (by rfl) rfl (aV (K:=K) (rv 6)) (fun _ _ _=>(fB (bF (eV.or (nH (K:=K) hu')) (rv 0) (rv 12) (by rfl)))) (fun _ _ _=>(rv 0))) ak))) (aA (aW (i:=15) bC.nd rfl (Or.inl rfl) (aZ (eZ (K:=K)) rfl T.eG cJ (aj (fZ (by rfl) rfl (aV (K:=K) (rv 6)) (fun _ _ _=>(fB (bF (eV.or (nH (K:=K) hu')) (rv 0) (xR (Wn (K:=K)) (rv 2) (xV (dw bI (rv 9) aG)) xU) (by rfl)))) (fun _ _ _=>(rv 0))) ak))) (aD (dR (qX (xW rM rM (rv 14) (rv 13) (dw bI (rv 14) (rv 15)))) (aD (aW (i:=12) bC.nd rfl (Or.inl rfl) qb)) bO))))) (aD (dR (kZ (rv 12)) (aD (gb (kh (K:=K) jV lU lV dJ (rv 10) (aj (rv 11) ak)))) bO))))) (aD (aW (i:=7) bC.nd rfl (Or.inl rfl) (rv 10)))))) (aD (bB (aZ (RW (K:=K) hu) rfl T.pH pI (aj (rv 7) ak))))))))),?_⟩;obtain⟨ms,em,Dm⟩:=id lp;have lms:ms.length=ps.length:=by rw[Dm.length,aR]
  refine aC (fun zzs H1=>Same H H1/\zzs=[zzR p,zzR pl,zzI zs.length,zzI wd,zzN,zzN,zzN,zzN,zzN,zzN,zzN,zzN,zzN,zzN,zzN,zzN]) (fun R hR=>?_) ?_
  ·exact⟨_,rfl,p,zs,wd,rfl,hS,vw.toRect,fun t H' s' hT=>⟨t,_,rfl,hT,rfl,_,_,rfl,_,_,rfl,rfl,hR _ _ ⟨s',rfl⟩⟩⟩
  rintro zzs H1 ⟨s1,rfl⟩;refine aC (fun zzs H2=>∃ tq:Addr,H tq=none/\Same H H2/\H2 tq=some (.lst [])/\zzs=[zzR p,zzR pl,zzI zs.length,zzI wd,zzR tq,zzN,zzN,zzN,zzN,zzN,zzN,zzN,zzN,zzN,zzN,zzN]) (fun R hR=>?_) ?_
  ·exact⟨by decide,fun tq n=>hR _ _ ⟨tq,s1.free n,s1.and n,au,rfl⟩⟩
  rintro zzs H2 ⟨tq,ntq,s2,et2,rfl⟩;refine aC (fun zzs H3=>∃(us:List V)(v5 v6:Option V),Same H H3/\H3 tq=some (.lst us)/\aU K H3 us ((ou zs wd ps).map (Ey zs wd ps))/\zzs=[zzR p,zzR pl,zzI zs.length,zzI wd,zzR tq,v5,v6,zzN,zzN,zzN,zzN,zzN,zzN,zzN,zzN,zzN]) (fun R hR=>?_) ?_
  ·refine⟨_,rfl,p,zs,wd,"012345678",rfl,s2.seq hS,vw.toRect,fun ol H3 fr=>?_⟩;obtain⟨os,eo,Do⟩:=fr.ls;have los:os.length=(bH zs wd "012345678").length:=by rw[Do.length,aR]
   have l36:(bH zs wd "012345678").length<=36:=cX (GJ _ _ _) (lY z6 w6);have not:ol≠tq:=fun z=>by have:=fr.new;rw[z,et2] at this;cases this
   refine⟨ol,rfl,⟨_,SqL.of eo⟩,?_⟩;refine cO (K:=K) (xs:=os) (fun i zzs H4=>∃(us:List V)(v5 v6:Option V),Same H H4/\H4 ol=some (.lst os)/\aU K H4 os ((bH zs wd "012345678").map aB)/\H4 tq=some (.lst us)/\aU K (del tq H4) us ((((bH zs wd "012345678").take i).filter fun t=>decide (0<(dF zs wd ps t).length)).map (Ey zs wd ps))/\us.length<=i/\zzs=[zzR p,zzR pl,zzI zs.length,zzI wd,zzR tq,v5,v6,zzN,zzN,zzN,zzN,zzN,zzN,zzN,zzN,zzN])
    ⟨[],none,none,s2.trans fr.same,eo,Do,fr.same _ _ et2,.nil,bK _,rfl⟩ (fun i zzs H4 _ hh=>by obtain⟨_,_,_,_,e,_⟩:=hh;exact SqL.of e) (fun i u zzs H4 hi hh=>?_) (fun zzs H4 hh=>?_)
   ·obtain⟨us,v5,v6,s4,eo4,Do4,et4,D4,lus,rfl⟩:=hh;obtain⟨dt,edt,du⟩:=Do4.get hi;rw[cQ] at edt;obtain⟨t,etq,rfl⟩:=gn.mp edt;have hil:i<(bH zs wd "012345678").length:=(gM.mp etq).1;obtain⟨tin,to⟩:=(kY vw).mp (fJ etq);have ln8:=fW zs.length wd t;have tk:∀ b:Bool,decide (0<(dF zs wd ps t).length)=b->((bH zs wd "012345678").take (i+1)).filter (fun t=>decide (0<(dF zs wd ps t).length))=((bH zs wd "012345678").take i).filter (fun t=>decide (0<(dF zs wd ps t).length))++(if b=true then [t] else []):=fun b hb=>by
     rw[iT,etq,uK];congr 1;show List.filter _ [t]=_;rw[wQ,hb];cases b<;>rfl
    refine aC (fun zzs H5=>∃ sl:Addr,Same H4 H5/\H4 sl=none/\Ls K H5 sl ((dF zs wd ps t).map aB)/\zzs=[zzR p,zzR pl,zzI zs.length,zzI wd,zzR tq,some u,zzR sl,zzN,zzN,zzN,zzN,zzN,zzN,zzN,zzN,zzN]) (fun R' hR'=>?_) ?_
    ·refine⟨_,rfl,_,rfl,_,rfl,zs.length,wd,u,t,rfl,du,fun nl H5 f5=>?_⟩;obtain⟨ns,en,Dn⟩:=f5.ls;refine⟨nl,rfl,⟨_,SqL.of en⟩,dG (K:=K) (xs:=bQ zs.length wd t) (enc:=aB) (bJ (SqL.of en)) Dn (small (by lia)) (fun y=>decide (y∈ps)) aB (fun y hy u' H6 s6 d G hG=>?_) (fun y hy _ u' H6 s6 d G hG=>⟨_,rfl,hG _ _ (Same.refl _) d⟩) (fun ys H6 s6 D6 n hn=>?_)⟩
     ·exact⟨_,rfl,_,rfl,.inr (vI d (lp.mono (s4.trans (f5.same.trans s6))).den ⟨_,rfl,hG _ (Same.refl _)⟩)⟩
     ·exact hR' _ _ ⟨n,(f5.same.trans s6).and hn,(f5.same.trans s6).free hn,.new hn D6,rfl⟩
    rintro zzs H5 ⟨sl,s5,nsl,lsl,rfl⟩;refine⟨_,rfl,?_⟩;dsimp only[jF];refine nO lsl.den ⟨_,_,rfl,rfl,_,rfl,?_⟩;rw[aR];refine dD (fun h1=>?_) (fun h1=>?_)
    ·have h1':decide (0<(dF zs wd ps t).length)=true:=bR (by have:=cI h1;lia);have et5:=s5 _ _ et4;refine⟨_,rfl,.inl ⟨rfl,_,SqL.of et5⟩,?_⟩;obtain⟨⟨a1,a2⟩,⟨a3,a4⟩⟩:=id tin;have e1:t.1=((t.1.toNat:Nat):Int):=by lia
     have e2:t.2=((t.2.toNat:Nat):Int):=by lia
     have i1:t.1.toNat<zs.length:=by lia
     have dg:=vw.digit tin to;have du5:=du.mono s5;have hS5:=(s4.trans s5).seq hS;refine⟨_,rfl,_,rfl,qU du5 ?_⟩;rw[e1];refine Ef hS5 i1 ⟨_,rfl,qW du5 ?_⟩;rw[e2];refine xT hS5 vw.toRect i1 (by lia) ?_;dsimp only[jF];refine⟨_,rfl,dg.1,by lia,?_⟩;refine⟨_,rfl,sz rfl,fun tt nt=>?_⟩;have ef:((codeAt zs (t.1.toNat,t.2.toNat):Nat):Int)-48=dO zs t:=rfl;generalize hO:(HO.tup [V.int ((codeAt zs (t.1.toNat,t.2.toNat):Nat)-48:Int),V.ref sl])=O;have s6:=Same.put (o:=O) nt;refine jC (K:=K) (s6 _ _ et5) (by lia) ?_;have sb:SameBut tq (upd H5 tt O) (upd (upd H5 tt O) tq (.lst (us++[.ref tt]))):=(SameBut.refl tq _).put;have sH:Same H4 (upd H5 tt O):=s5.trans s6;have ntt:tt≠tq:=fun z=>by rw[z,et5] at nt;cases nt
     have nst:sl≠tq:=fun z=>by rw[z,et4] at nsl;cases nsl
     refine⟨us++[.ref tt],_,_,sb.of (s4.trans sH) ntq,sb _ _ (sH _ _ eo4) not,sb.cells (s6 _ _ et5) (Do4.mono sH),au,?_,by rw[c7,jm];lia,rfl⟩;rw[tk true h1',aK rfl,dM];refine(D4.mono ((sH.but tq).trans sb).del).append (.cons ?_ .nil);refine Den.mono sb.del ?_;unfold Ey;refine Den.tup (xs:=[.int (dO zs t),.ref sl]) (by rw[mj ntt,au,<- hO];rfl) (.cons (.int _) (.cons (tD (s6 _ _ et5) nst (lsl.mono s6)).den .nil))
    ·have h1':decide (0<(dF zs wd ps t).length)=false:=cG (by have:=j6 h1;lia);refine⟨us,_,_,s4.trans s5,s5 _ _ eo4,Do4.mono s5,s5 _ _ et4,?_,by lia,rfl⟩;rw[tk false h1',aH g8,rT];exact D4.mono s5.del
   ·obtain⟨us,v5,v6,s4,eo4,Do4,et4,D4,lus,rfl⟩:=hh;rw[los,gY] at D4;exact hR _ _ ⟨us,v5,v6,s4,et4,D4.mono jL,rfl⟩
  rintro zzs H3 ⟨us,v5,v6,s3,et3,Du3,rfl⟩;have a6p:Ls K H3 tq ((ou zs wd ps).map (Ey zs wd ps)):=⟨us,et3,Du3⟩
  have lus:us.length=(ou zs wd ps).length:=by rw[Du3.length,aR]
  refine aC (fun zzs H4=>∃(fl:Addr)(fs:List V),Same H3 H4/\H4 fl=some (.lst fs)/\fu (iJ K H) H4 fs (layAt (pL zs wd ps) ps 0)/\zzs=[zzR p,zzR pl,zzI zs.length,zzI wd,zzR tq,v5,v6,zzR fl,zzN,zzN,zzN,zzN,zzN,zzN,zzN,zzN]) (fun R hR=>?_) ?_
  ·refine⟨by decide,fun e0 n0=>?_⟩;dsimp only[jF];refine⟨sz rfl,fun bl nb=>?_⟩;have t1:=Same.put (o:=.lst []) n0;have t2:=t1.and (o:=.lst [.ref e0]) nb;refine hR _ _ ⟨bl,_,t2,au,.cons ⟨e0,rfl,s3.free n0,[],?_,.nil⟩ .nil,rfl⟩;exact(Same.put nb) _ _ au
  rintro zzs H4 ⟨fl,fs,s4,ef4,rf4,rfl⟩;refine aC (fun zzs H5=>∃(fl:Addr)(fs:List V)(v6 v8 v9 v10 v11 v12 v13 v14 v15:Option V),Same H3 H5/\H5 fl=some (.lst fs)/\fu (iJ K H) H5 fs (layAt (pL zs wd ps) ps ps.length)/\zzs=[zzR p,zzR pl,zzI zs.length,zzI wd,zzR tq,v5,v6,zzR fl,v8,v9,v10,v11,v12,v13,v14,v15]) (fun R hR=>?_) ?_
  ·refine⟨_,rfl,pl,rfl,⟨_,SqL.of (s4 _ _ (s3 _ _ em))⟩,?_⟩;refine LR (K:=K) (xs:=ms) (fun i zzs H5=>∃(fl:Addr)(fs:List V)(v6 v8 v9 v10 v11 v12 v13 v14 v15:Option V),Same H3 H5/\H5 fl=some (.lst fs)/\fu (iJ K H) H5 fs (layAt (pL zs wd ps) ps i)/\zzs=[zzR p,zzR pl,zzI zs.length,zzI wd,zzR tq,v5,v6,zzR fl,v8,v9,v10,v11,v12,v13,v14,v15])
    ⟨fl,fs,v6,none,none,none,none,none,none,none,none,s4,ef4,rf4,rfl⟩ (fun i zzs H5 _ hh=>by obtain⟨_,_,_,_,_,_,_,_,_,_,_,g,_⟩:=hh;exact SqL.of (g _ _ (s3 _ _ em))) (fun i u zzs H5 t hi hh nt=>?_) (fun zzs H5 hh=>?_)
   ·obtain⟨fl,fs,v6,v8,v9,v10,v11,v12,v13,v14,v15,s5,ef5,rf5,rfl⟩:=hh;have p5:=Same.put (o:=.tup [.int i,u]) nt;refine⟨t,_,rfl,SqT.of au,rfl,_,_,rfl,_,_,rfl,rfl,?_⟩;generalize upd H5 t (.tup [.int i,u])=H6 at p5;obtain⟨dm,edm,du0⟩:=(Dm.mono (s3.trans (s5.trans p5))).get hi;rw[cQ] at edm;obtain⟨m,emq,rfl⟩:=gn.mp edm;have him:i<ps.length:=(gM.mp emq).1;have eD:ps.getD i (0,0)=m:=by rw[gO,emq];rfl
    have s6:Same H H6:=s3.trans (s5.trans p5);have a6q:Ls K H6 tq ((ou zs wd ps).map (Ey zs wd ps)):=a6p.mono (s5.trans p5);have lp6:=lp.mono s6;have ef6:=p5 _ _ ef5;have rf6:=rf5.mono iJ.stays p5;have sH3:Same H3 H6:=s5.trans p5;clear s5 p5 ef5 rf5;have lb:fs.length<=2048:=by
     rw[rf6.length];exact cX (uU _ _ _) (Qx (by decide) (show i<=11 by lia))
    have lay:(layAt (pL zs wd ps) ps i).length<=2048:=by rw[<- rf6.length];exact lb
    refine aC (fun zzs H7=>∃ lg:Addr,H6 lg=none/\Same H6 H7/\H7 lg=some (.lst [])/\zzs=[zzR p,zzR pl,zzI zs.length,zzI wd,zzR tq,v5,v6,zzR fl,zzI i,some u,zzR lg,v11,v12,v13,v14,v15]) (fun R' hR'=>?_) ?_
    ·exact⟨by decide,fun lg n=>hR' _ _ ⟨lg,n,Same.put n,au,rfl⟩⟩
    rintro zzs H7 ⟨lg,nlg,s7,el7,rfl⟩;have a7q:H lg=none:=s6.free nlg;have sD:Az (vV K H lg):=vV.stays;refine aC (fun zzs H8=>∃(gs:List V)(v6 v11 v12 v13 v14 v15:Option V),Same H6 (del lg H8)/\H8 lg=some (.lst gs)/\fu (vV K H lg) H8 gs (layAt (pL zs wd ps) ps (i+1))/\zzs=[zzR p,zzR pl,zzI zs.length,zzI wd,zzR tq,v5,v6,zzR fl,zzI i,some u,zzR lg,v11,v12,v13,v14,v15]) (fun R' hR'=>?_) ?_
    ·refine⟨_,rfl,_,rfl,fl,rfl,⟨_,SqL.of (s7 _ _ ef6)⟩,?_⟩;have rf7:fu (vV K H lg) H7 fs (layAt (pL zs wd ps) ps i):=fu.imp (R:=iJ K H) (R':=vV K H lg) (H:=H6) (H':=H7) (fun a v h=>iJ.stays _ _ _ _ (s7.into nlg) h) rf6;refine pK sD sD (bJ (SqL.of (s7 _ _ ef6))) rf7 (small (by lia)) (fun l=>l++[m]) (fun l hl y H8 s8 ry G hG=>?_) (fun ys H8 s8 D8 n hn=>?_)
     ·obtain⟨a,rfl,na,la'⟩:=ry;have ll:=pU _ l hl;refine⟨_,rfl,_,rfl,?_⟩;dsimp only[jF];refine⟨sz rfl,fun p1 n1=>?_⟩;have t1:=Same.put (o:=.lst [u]) n1;refine zH (K:=K) ((la'.mono jL).mono t1) (show Ls K (upd H8 p1 (.lst [u])) p1 ([m].map aB) from⟨[u],au,.cons (du0.mono ((s7.trans s8).trans t1)) .nil⟩) (by rw[aR,aR,jm];lia) fun r H9 fr=>?_
      have el9:=fr.same _ _ (t1 _ _ (s8 _ _ el7));have nr:r≠lg:=fun z=>by have:=fr.new;rw[z,t1 _ _ (s8 _ _ el7)] at this;cases this
      refine hG _ _ (t1.trans fr.same) ⟨r,rfl,(s6.trans ((s7.trans s8).trans t1)).free fr.new,tD el9 nr ?_⟩;have:=fr.ls;rwa[<- dM] at this
     ·have t1:=Same.put (o:=.lst ys) hn;refine⟨fs,ys,t1 _ _ (s8 _ _ (s7 _ _ ef6)),au,small (by have:=D8.length;rw[aR] at this;lia),fun bb nbb=>?_⟩;have t2:=t1.and (o:=.lst (fs++ys)) nbb;generalize hH:upd (upd H8 n (.lst ys)) bb (.lst (fs++ys))=H9 at t2;have eb9:H9 bb=some (.lst (fs++ys)):=by rw[<- hH];exact au
      have s9:Same H7 H9:=s8.trans t2;have el9:=s9 _ _ el7;have rb9:fu (vV K H lg) H9 (fs++ys) (layAt (pL zs wd ps) ps i++(layAt (pL zs wd ps) ps i).map (·++[m])):=(rf7.mono sD s9).append (D8.mono sD t2);clear hH;have nb:bb≠lg:=bV (H:=upd H8 n (.lst ys)) (t1 _ _ (s8 _ _ el7)) nbb |>.symm;generalize fs++ys=ws at eb9 rb9;generalize hbo:layAt (pL zs wd ps) ps i++(layAt (pL zs wd ps) ps i).map (·++[m])=bo at rb9;have lbo:bo.length<=4096:=by rw[<- hbo,c7,aR];lia
      have lws:ws.length=bo.length:=rb9.length;have a6F:layAt (pL zs wd ps) ps (i+1)=bo.filter (pL zs wd ps i):=by
       rw[<- hbo];show(layAt (pL zs wd ps) ps i++(layAt (pL zs wd ps) ps i).map (·++[ps.getD i (0,0)])).filter (pL zs wd ps i)=_;rw[eD]
      refine⟨bb,rfl,⟨_,SqL.of eb9⟩,?_⟩;refine cO (K:=K) (xs:=ws) (fun j zzs H10=>∃(gs:List V)(v6 v11 v12 v13 v14 v15:Option V),Same H6 (del lg H10)/\H10 lg=some (.lst gs)/\H10 bb=some (.lst ws)/\fu (vV K H lg) H10 ws bo/\fu (vV K H lg) H10 gs ((bo.take j).filter (pL zs wd ps i))/\gs.length<=j/\zzs=[zzR p,zzR pl,zzI zs.length,zzI wd,zzR tq,v5,v6,zzR fl,zzI i,some u,zzR lg,v11,v12,v13,v14,v15])
       ⟨[],v6,v11,v12,v13,v14,v15,(s7.trans s9).into nlg,el9,eb9,rb9,.nil,bK _,rfl⟩ (fun j zzs H10 _ hh=>by obtain⟨_,_,_,_,_,_,_,_,_,e,_⟩:=hh;exact SqL.of e) (fun j y zzs H10 hj hh=>?_) (fun zzs H10 hh=>?_)
      ·obtain⟨gs,v6,v11,v12,v13,v14,v15,s10,a2W,a2U,a1F,XH,a6P,rfl⟩:=hh;obtain⟨l,elq,ry⟩:=a1F.get hj;have hjb:j<bo.length:=(gM.mp elq).1;have tk:∀ b:Bool,pL zs wd ps i l=b->(bo.take (j+1)).filter (pL zs wd ps i)=(bo.take j).filter (pL zs wd ps i)++(if b=true then [l] else []):=fun b hb=>by
        rw[iT,elq,uK];congr 1;show List.filter _ [l]=_;rw[wQ,hb];cases b<;>rfl
       have sB:Same H6 H10:=s10.trans jL;refine aC (fun zzs H11=>H11=H10/\zzs=[zzR p,zzR pl,zzI zs.length,zzI wd,zzR tq,v5,v6,zzR fl,zzI i,some u,zzR lg,some y,some (.bl true),v13,v14,v15]) (fun R2 hR2=>hR2 _ _ ⟨rfl,rfl⟩) ?_;rintro zzs H11 ⟨rfl,rfl⟩;refine aC (fun zzs H12=>∃ v6 v13 v14 v15:Option V,Same H11 H12/\zzs=[zzR p,zzR pl,zzI zs.length,zzI wd,zzR tq,v5,v6,zzR fl,zzI i,some u,zzR lg,some y,some (.bl (pL zs wd ps i l)),v13,v14,v15]) (fun R2 hR2=>?_) ?_
       ·obtain⟨us',et6,Du6⟩:=a6q.mono sB;have a6Q:us'.length=(ou zs wd ps).length:=by rw[Du6.length,aR]
        refine⟨_,rfl,tq,rfl,⟨_,SqL.of et6⟩,?_⟩;refine cO (K:=K) (xs:=us') (fun q zzs H12=>∃ v6 v13 v14 v15:Option V,Same H11 H12/\zzs=[zzR p,zzR pl,zzI zs.length,zzI wd,zzR tq,v5,v6,zzR fl,zzI i,some u,zzR lg,some y,some (.bl (((ou zs wd ps).take q).all fun t=>iM (dF zs wd ps t) (dO zs t) (kj (dF zs wd ps t) ps i) l)),v13,v14,v15])
         ⟨v6,v13,v14,v15,Same.refl _,rfl⟩ (fun q zzs H12 _ hh=>by obtain⟨_,_,_,_,g,_⟩:=hh;exact SqL.of (g _ _ et6)) (fun q z zzs H12 hq' hh=>?_) (fun zzs H12 hh=>?_)
        ·obtain⟨v6,v13,v14,v15,s12,rfl⟩:=hh;obtain⟨dt,edt,dz⟩:=Du6.get hq';rw[cQ] at edt;obtain⟨tc,etc,rfl⟩:=gn.mp edt;obtain⟨b,sm,rfl,eb,dsm⟩:=VR (dz.mono s12);have tkt:(((ou zs wd ps).take (q+1)).all fun t=>iM (dF zs wd ps t) (dO zs t) (kj (dF zs wd ps t) ps i) l)=((((ou zs wd ps).take q).all fun t=>iM (dF zs wd ps t) (dO zs t) (kj (dF zs wd ps t) ps i) l)&&iM (dF zs wd ps tc) (dO zs tc) (kj (dF zs wd ps tc) ps i) l):=by
          rw[iT,etc,List.all_append];congr 1;show List.all [tc] _=_;rw[Aw,List.all_nil,Kl]
         obtain⟨sa,rfl⟩:∃ a,sm=.ref a:=by cases dsm;exact⟨_,rfl⟩
         have ls8:(dF zs wd ps tc).length<=8:=cX (iQ _ _) (fW _ _ _);refine⟨b,_,rfl,SqT.of eb,rfl,_,_,rfl,_,_,rfl,rfl,?_⟩;refine aC (fun zzs H13=>Same H12 H13/\zzs=[zzR p,zzR pl,zzI zs.length,zzI wd,zzR tq,v5,zzR sa,zzR fl,zzI i,some u,zzR lg,some y,some (.bl (((ou zs wd ps).take q).all fun t=>iM (dF zs wd ps t) (dO zs t) (kj (dF zs wd ps t) ps i) l)),zzI (dO zs tc),zzI (pJ (dF zs wd ps tc) l),v15]) (fun R3 hR3=>?_) ?_
         ·cases dsm with
          |lst hy Dy=>
           refine⟨_,rfl,sa,rfl,⟨_,hy⟩,dG (K:=K) (xs:=dF zs wd ps tc) (enc:=aB) (bJ hy) Dy (small (by lia)) (fun y=>decide (y∈l)) aB (fun o ho u' H14 s14 d G hG=>?_) (fun o ho _ u' H14 s14 d G hG=>⟨_,rfl,hG _ _ (Same.refl _) d⟩) (fun ys H14 s14 D14 n hn=>?_)⟩
           ·obtain⟨ra,rfl,_,lr⟩:=ry;exact⟨_,rfl,_,rfl,.inr (vI d ((lr.mono jL).mono (s12.trans s14)).den ⟨_,rfl,hG _ (Same.refl _)⟩)⟩
           ·dsimp only[jF];refine nO (Ls.new hn D14).den ?_;rw[aR];exact hR3 _ _ ⟨s14.and hn,rfl⟩
         rintro zzs H13 ⟨s13,rfl⟩;refine aC (fun zzs H14=>Same H13 H14/\zzs=[zzR p,zzR pl,zzI zs.length,zzI wd,zzR tq,v5,zzR sa,zzR fl,zzI i,some u,zzR lg,some y,some (.bl (((ou zs wd ps).take q).all fun t=>iM (dF zs wd ps t) (dO zs t) (kj (dF zs wd ps t) ps i) l)),zzI (dO zs tc),zzI (pJ (dF zs wd ps tc) l),zzI (kj (dF zs wd ps tc) ps i)]) (fun R3 hR3=>?_) ?_
         ·have a5h:=dsm.mono s13;cases a5h with
          |lst hy Dy=>
           refine⟨_,rfl,sa,rfl,⟨_,hy⟩,dG (K:=K) (xs:=dF zs wd ps tc) (enc:=aB) (bJ hy) Dy (small (by lia)) (fun y=>decide (y∈ps.drop (i+1))) aB (fun o ho u' H14 s14 d G hG=>?_) (fun o ho _ u' H14 s14 d G hG=>⟨_,rfl,hG _ _ (Same.refl _) d⟩) (fun ys H14 s14 D14 n hn=>?_)⟩
           ·obtain⟨ms',em',Dm'⟩:=lp6.mono (sB.trans (s12.trans (s13.trans s14)));refine⟨_,rfl,_,rfl,_,rfl,_,rfl,.inl ⟨pl,_,rfl,SqL.of em',fun cp ncp=>?_⟩⟩;have ei:((i:Int)+1)=((i+1:Nat):Int):=by lia
            rw[ei,VF];have t1:=Same.put (o:=.lst (ms'.drop (i+1))) ncp;refine .inr (vI (d.mono t1) (cs:=ps.drop (i+1)) ?_ ⟨_,rfl,hG _ t1⟩);refine Den.lst (SqL.of au) (aU.mono t1 ?_);rw[List.map_drop];exact GZ (i+1) Dm'
           ·dsimp only[jF];refine nO (Ls.new hn D14).den ?_;rw[aR];exact hR3 _ _ ⟨s14.and hn,rfl⟩
         rintro zzs H14 ⟨s14,rfl⟩;have sE:Same H11 H14:=s12.trans (s13.trans s14);have fin:∀ b:Bool,b=(((ou zs wd ps).take (q+1)).all fun t=>iM (dF zs wd ps t) (dO zs t) (kj (dF zs wd ps t) ps i) l)->∃ v6 v13 v14 v15:Option V,Same H11 H14/\[zzR p,zzR pl,zzI zs.length,zzI wd,zzR tq,v5,zzR sa,zzR fl,zzI i,some u,zzR lg,some y,some (.bl b),zzI (dO zs tc),zzI (pJ (dF zs wd ps tc) l),zzI (kj (dF zs wd ps tc) ps i)]=[zzR p,zzR pl,zzI zs.length,zzI wd,zzR tq,v5,v6,zzR fl,zzI i,some u,zzR lg,some y,some (V.bl (((ou zs wd ps).take (q+1)).all fun t=>iM (dF zs wd ps t) (dO zs t) (kj (dF zs wd ps t) ps i) l)),v13,v14,v15]:=fun b hb=>by subst hb;exact⟨_,_,_,_,sE,rfl⟩
         refine⟨_,rfl,_,rfl,_,_,rfl,rfl,_,rfl,?_⟩;refine dD (fun h1=>?_) (fun h1=>?_)
         ·refine⟨_,rfl,_,rfl,_,_,rfl,rfl,_,rfl,?_⟩;refine dD (fun h2=>?_) (fun h2=>?_)
          ·refine fin false ?_;rw[tkt];unfold iM;rw[show decide (dO zs tc<=(pJ (dF zs wd ps tc) l:Int)+(kj (dF zs wd ps tc) ps i:Int))=false by simpa only[qm] using h2,uF,uF]
          ·refine fin _ ?_;rw[tkt];unfold iM;rw[h1,show decide (dO zs tc<=(pJ (dF zs wd ps tc) l:Int)+(kj (dF zs wd ps tc) ps i:Int))=true by simpa only[wN] using h2];exact(Kl _).symm
         ·refine⟨_,rfl,zj ?_⟩;refine fin false ?_;rw[tkt];unfold iM;rw[h1,Aq,uF]
        ·obtain⟨v6,v13,v14,v15,s12,rfl⟩:=hh;rw[a6Q,gY];exact hR2 _ _ ⟨v6,v13,v14,v15,s12,rfl⟩
       rintro zzs H12 ⟨v6,v13,v14,v15,s12,rfl⟩;have a2X:=s12 _ _ a2W;refine⟨_,rfl,_,rfl,?_⟩;refine dD (fun h1=>?_) (fun h1=>?_)
       ·refine⟨_,rfl,.inl ⟨rfl,_,SqL.of a2X⟩,_,rfl,?_⟩;dsimp only[jF];refine jC (K:=K) a2X (by lia) ?_;have sb:SameBut lg H12 (upd H12 lg (.lst (gs++[y]))):=(SameBut.refl lg _).put;have sd:Same (del lg H11) (del lg (upd H12 lg (.lst (gs++[y])))):=(s12.del).trans sb.del;have mv:∀ {vs:List V} {rs:List (List Cell)},fu (vV K H lg) H11 vs rs->fu (vV K H lg) (upd H12 lg (.lst (gs++[y]))) vs rs:=fun r=>fu.imp (R:=vV K H lg) (R':=vV K H lg) (H:=H11) (fun a v h=>iJ.stays _ _ _ _ sd h) r
        refine⟨gs++[y],_,_,_,_,_,_,s10.trans sd,au,sb _ _ (s12 _ _ a2U) nb,mv a1F,?_,by rw[c7,jm];lia,rfl⟩;rw[tk true h1,aK rfl];exact(mv XH).append (.cons (iJ.stays _ _ _ _ sd ry) .nil)
       ·refine⟨gs,_,_,_,_,_,_,s10.trans s12.del,a2X,s12 _ _ a2U,a1F.mono sD s12,?_,by lia,rfl⟩;rw[tk false h1,aH g8,rT];exact XH.mono sD s12
      ·obtain⟨gs,v6,v11,v12,v13,v14,v15,s10,a2W,a2U,a1F,XH,a6P,rfl⟩:=hh;rw[lws,gY,<- a6F] at XH;exact hR' _ _ ⟨gs,v6,v11,v12,v13,v14,v15,s10,a2W,XH,rfl⟩
    rintro zzs H8 ⟨gs,v6,v11,v12,v13,v14,v15,s8,el8,rg8,rfl⟩;refine⟨_,rfl,?_⟩;exact⟨lg,gs,_,_,_,_,_,_,_,_,_,sH3.trans (s8.trans jL),el8,fu.imp (R:=vV K H lg) (R':=iJ K H) (H:=H8) (H':=H8) (fun a v h=>iJ.stays _ _ _ _ jL h) rg8,rfl⟩
   ·obtain⟨fl,fs,v6,v8,v9,v10,v11,v12,v13,v14,v15,s5,ef5,rf5,rfl⟩:=hh;rw[lms] at rf5;exact hR _ _ ⟨fl,fs,v6,v8,v9,v10,v11,v12,v13,v14,v15,s5,ef5,rf5,rfl⟩
  rintro zzs H5 ⟨fl,fs,v6,v8,v9,v10,v11,v12,v13,v14,v15,s5,ef5,rf5,rfl⟩;have nd:=jB (p:=pL zs wd ps) pt.nd _ (bK ps.length);refine⟨_,rfl,fl,fs,layAt (pL zs wd ps) ps ps.length,rfl,SqL.of ef5,rf5.a2S fun a v h=>h.den,fun q o nq po as=>?_⟩;have lo:∀ i∈o,i<fs.length:=fun i hi=>fK.mp (po.mem_iff.mp hi)
  have ro:=fu.by (d0:=[]) o rf5 lo;have pd:(o.map fun i=>(layAt (pL zs wd ps) ps ps.length).getD i []).Perm (layAt (pL zs wd ps) ps ps.length):=oO (by rw[<- rf5.length];exact po);rw[pt.a0w vw pd as] at ro;have ndl:(d9 zs wd ps).Nodup:=nJ.nodup_iff.mpr (jB pt.nd _ (bK _));obtain⟨qs,eqs⟩:∃ qs:List Addr,(o.map fun i=>fs.getD i .non)=qs.map V.ref:=zJ ro;rw[eqs] at ro ⊢;exact hq q qs _ ((s3.trans s5).free nq) ((s3.trans s5).and nq) (a2k ro ndl nq)
end
def xK(zs:List Str)(w:Nat)(c:Cell):Bool:=!aL zs w c&&decide ((aF zs w c).length=0)
def Gi(zs:List Str)(w:Nat)(c:Cell):Bool:=xK zs w c&&decide (0<dO zs c)
def lN(zs:List Str)(w:Nat):List (List Cell):=if(cB zs.length w).any (Gi zs w)=true then [] else [[]]
def chD(p:List Cell×List (List Cell)):Dt:=.tup [vA p.1,.lst (p.2.map vA)]
noncomputable def chL(zs:List Str)(w:Nat):List (List Cell×List (List Cell)):=([],lN zs w)::((aO zs w).map (fun p=>(p,d9 zs w p))++(rN zs w).map fun c=>([c],[[],[c]]))
def Ys(K:ao)(C:Addr):Sp:=fun vs H Q _=>∃(x:Addr)(v:V)(zs:List Str)(w:Nat)(c:Cell),vs=[.ref x,v]/\gA C H x zs w/\Den K H v (aB c)/\inF zs.length w c/\∀ H',Same H H'->Q (.bl (xK zs w c)) H'
def T9(K:ao)(C:Addr):Sp:=fun vs H Q _=>∃(x:Addr)(zs:List Str)(w:Nat),vs=[.ref x]/\gA C H x zs w/\∀ q H',Same H H'->Ls K H' q ((lN zs w).map vA)->Q (.ref q) H'
def HN(K:ao)(C TG:Addr):Sp:=fun vs H Q E=>∃(x:Addr)(zs:List Str)(w:Nat),vs=[.ref x]/\gA C H x zs w /\
 ((∃ p∈aO zs w,12<p.length)->∀ H',Same H H'->E (.ref TG) none H')/\((∀ p∈aO zs w,p.length<=12)->∀ q H',Fr K H H' q ((chL zs w).map chD)->Q (.ref q) H')
section
variable{P:Program}{w:World}{K:ao}{mg:Str->Option Value}{base:Heap}{Z:Adr}
theorem a0J{f:Addr}{fd:FuncData} (F:Fun K "is_lone" "is_lone" zM f fd) (T:Txt K mg Z) (cN:Df P w K mg base 2 "is_closed" ["view","cell"] (lA K Z.View)) (fj:Df P w K mg base 3 "closed_near" ["view","cell"] (rE K Z.View aF)) :
  cY P w K mg base (CXE P w) 4 f fd ["view","cell"] (Ys K Z.View):=by
 refine F.rok Q6 (fun vs H Q E h=>?_) (fun cdv A outer s H vs Q E hr h=>?_)
 ·obtain⟨x,v,zs,w,c,rfl,_⟩:=h;rfl
 ·obtain⟨x,v,zs,w,c,rfl,vt,dv,hin,hq⟩:=h;have hu:=lK hr;refine⟨_,(aD (bB (MN (a68 (aY cN hr rfl bf (aj (rv 0) (aj (rv 1) ak)))) (MP (xQ (kE.or (jZ (K:=K) hu)) (aZ (eZ (K:=K)) rfl T.eG cJ (aj (aY fj hr rfl bf (aj (rv 0) (aj (rv 1) ak))) ak)) aG (cg _)))))),?_⟩;refine⟨_,rfl,_,rfl,x,v,zs,w,c,rfl,vt,dv,_,rfl,_,rfl,?_⟩;refine dD (fun h1=>?_) (fun h1=>?_)
  ·refine⟨_,rfl,_,rfl,x,v,zs,w,c,rfl,vt,dv,hin,fun q H' fr=>?_⟩;dsimp only[jF];refine nO fr.ls.den ?_;refine Or.inl ⟨rfl,?_⟩;rw[Bc,aR];have e:decide ((((aF zs w c).length:Nat):Int)=0)=xK zs w c:=by
    unfold xK;rw[h1,uG,rG];lia
   rw[e];exact hq _ fr.same
  ·have e:false=xK zs w c:=by unfold xK;rw[h1];rfl
   rw[e];exact hq _ (Same.refl _)
theorem WT{f:Addr}{fd:FuncData} (F:Fun K "lone_layings" "lone_layings" o7 f fd) (T:Txt K mg Z) (uM:Df P w K mg base 1 "cells" ["view"] (wI K Z.View)) (yF:Df P w K mg base 4 "is_lone" ["view","cell"] (Ys K Z.View)) (pD:Df P w K mg base 1 "figure" ["view","cell"] (Et K Z.View)) :
  cY P w K mg base (CXE P w) 5 f fd ["view"] (T9 K Z.View):=by
 refine F.rok rO (fun vs H Q E h=>?_) (fun cdv A outer s H vs Q E hr h=>?_)
 ·obtain⟨x,zs,w,rfl,_⟩:=h;rfl
 ·obtain⟨x,zs,w,rfl,vt,hq⟩:=h;refine⟨_,(aA (cL eU rfl (aV (K:=K) (aY uM hr rfl bf (aj (rv 0) ak))) (bx (i:=1) rO.nd rfl (Or.inl rfl)) (aD (dR (Ej (wA (kZ (aY yF hr rfl bf (aj (rv 0) (aj (rv 1) ak)))) (qT (bF Bj (aY pD hr rfl bf (aj (rv 0) (aj (rv 1) ak))) aG (cg _))))) (aD (bB (bZ ak))) bO))) (aD (bB (bZ (aj (bZ ak) ak))))),?_⟩;refine aC (fun zzs H1=>Same H H1/\lN zs w=[[]]) (fun R hR=>?_) ?_
  ·refine⟨_,rfl,x,zs,w,rfl,vt,fun q H1 f1=>?_⟩;obtain⟨us,eu,Du⟩:=f1.ls;have lu:us.length=(cB zs.length w).length:=by rw[Du.length,aR]
   refine⟨q,rfl,⟨_,SqL.of eu⟩,?_⟩;refine cO (K:=K) (xs:=us) (fun i zzs H2=>∃ v1:Option V,Same H1 H2/\(∀ c∈(cB zs.length w).take i,Gi zs w c=false)/\zzs=[zzR x,v1])
    ⟨none,Same.refl _,(fun c hc=>by cases hc),rfl⟩ (fun i zzs H2 _ hh=>by obtain⟨_,g,_⟩:=hh;exact SqL.of (g _ _ eu)) (fun i u zzs H2 hi hh=>?_) (fun zzs H2 hh=>?_)
   ·obtain⟨v1,g1,g2,rfl⟩:=hh;obtain⟨d,ed,du⟩:=Du.get hi;rw[cQ] at ed;obtain⟨c,ec,rfl⟩:=gn.mp ed;have cf:=fJ ec;have hin:=dI.mp cf;have sA:=f1.same.trans g1;have nxt:∀ H3,Same H2 H3->Gi zs w c=false->∃ v1:Option V,Same H1 H3/\(∀ c∈(cB zs.length w).take (i+1),Gi zs w c=false)/\[some (V.ref x),some u]=[zzR x,v1]:=fun H3 s3 hb=>⟨_,g1.trans s3,fun y hy=>by
     rw[iT,ec] at hy;rcases cR.mp hy with z|z
     ·exact g2 y z
     ·rw[dB.mp z];exact hb,rfl⟩
    refine⟨_,rfl,_,rfl,x,u,zs,w,c,rfl,vt.mono sA,du.mono g1,hin,fun H3 s3=>⟨_,rfl,?_⟩⟩;refine dD (fun h1=>?_) (fun h1=>?_)
    ·have ho:aL zs w c=false:=by
      unfold xK at h1;rw[lW,qm] at h1;exact h1.1
     refine⟨_,rfl,_,rfl,x,u,zs,w,c,rfl,vt.mono (sA.trans s3),du.mono (g1.trans s3),hin,ho,?_⟩;refine⟨_,_,rfl,rfl,_,rfl,?_⟩;have e:Gi zs w c=decide (0<dO zs c):=by unfold Gi;rw[h1];rfl
     refine dD (fun h2=>?_) (fun h2=>nxt H3 s3 (by rw[e];exact h2));refine⟨by decide,fun q3 n3=>hq _ _ ((sA.trans s3).and n3) ?_⟩;have:lN zs w=[]:=aK (Kc.mpr ⟨c,cf,by rw[e];exact h2⟩);rw[this];exact Ls.new n3 .nil
    ·exact nxt H3 s3 (by unfold Gi;rw[h1];rfl)
   ·obtain⟨v1,g1,g2,rfl⟩:=hh;rw[lu,gY] at g2;refine hR _ _ ⟨f1.same.trans g1,aH fun z=>?_⟩;obtain⟨c,hc,hb⟩:=Kc.mp z;rw[g2 c hc] at hb;cases hb
  rintro zzs H1 ⟨s1,e1⟩;refine⟨by decide,fun q1 n1=>⟨sz rfl,fun q2 n2=>?_⟩⟩;have t1:=Same.put (o:=.lst []) n1;refine hq _ _ (s1.trans (t1.and n2)) ?_;rw[e1];exact Ls.new n2 (.cons (Ls.new n1 .nil).den .nil)
theorem pZ{H0 H:Hp}{q:Addr}:∀ {qs:List Addr} {ps:List (List Cell)},qs.length=ps.length->(∀(i:Nat)(a:Addr)(p:List Cell),qs[i]?=some a->ps[i]?=some p->Ls K H a (p.map aB))->aU K H (qs.map V.ref) (ps.map vA)
 |[],[],_,_=>.nil
 |a::qs,p::ps,hl,h=>.cons (h 0 a p rfl rfl).den (pZ (H0:=H0) (q:=q) (Nat.succ.inj hl) fun i b c h1 h2=>h (i+1) b c h1 h2)
theorem Xm{H0 H H':Hp}{q d:Addr}{qs:List Addr}{ps:List (List Cell)}{us:List V}{o:HO}(p:nC K H0 H q qs ps)(s:SameBut d H H')(e:H d=some (.lst us))(e0:H0 d=some o)(n:q≠d):nC K H0 H' q qs ps:=
 ⟨s _ _ p.at_ n,p.len,fun i a c h1 h2=>s.ls e (fun z=>by have:=p.new a (fJ h1);rw[z,e0] at this;cases this) (p.ls i a c h1 h2),p.new,p.nd,p.nq⟩
theorem zE{zs:List Str}{w:Nat}:∀(cs:List Cell)(ps:List (List Cell)),(gG zs w cs ps).length<=ps.length+cs.length
 |[],ps=>by unfold gG;exact bK _
 |c::cs,ps=>by
  unfold gG;by_cases h:∃ p∈ps,c∈p
  ·rw[aK h];have:=zE (zs:=zs) (w:=w) cs ps;rw[iR];lia
  ·rw[aH h];have:=zE (zs:=zs) (w:=w) cs (ps++[dH zs w c]);rw[c7,jm] at this;rw[iR];lia
theorem zF{zs:List Str}{w:Nat}(v:Vw zs w):(aO zs w).length<=36:=by
 have h1:=zE (zs:=zs) (w:=w) (aX zs w) [];have h2:(aX zs w).length<=36:=cX (iQ _ _) (gC v);unfold aO;rw[Fv] at h1;lia
theorem Il{H H2:Hp}{q:Addr}{us:List V}{ds:List Dt}{v:V}{d:Dt}(D:aU K (del q H) us ds)(s:Same H H2)(dv:Den K (del q H2) v d):aU K (del q (upd H2 q (.lst (us++[v])))) (us++[v]) (ds++[d]):=by
 have sb:SameBut q H2 (upd H2 q (.lst (us++[v]))):=(SameBut.refl q _).put;exact(D.mono ((s.but q).trans sb).del).append (.cons (dv.mono sb.del) .nil)
theorem Pg{f:Addr}{fd:FuncData} (F:Fun K "choices" "choices" zK f fd) (T:Txt K mg Z) (Ig:Df P w K mg base 5 "parts" ["view"] (Tc K Z.View)) (yI:Df P w K mg base 5 "layings" ["view","cell"] (HW K Z.View Z.NoCell Z.TooGreat)) (Vu:Df P w K mg base 4 "far" ["view"] (uf K Z.View rN)) (nA:Df P w K mg base 5 "lone_layings" ["view"] (T9 K Z.View)) :
  cY P w K mg base (CXE P w) 6 f fd ["view"] (HN K Z.View Z.TooGreat):=by
 refine F.PJ rC (fun vs H Q E h=>?_) (fun cdv A outer s H vs Q E hr h=>?_)
 ·obtain⟨x,zs,w,rfl,_⟩:=h;rfl
 ·obtain⟨x,zs,w,rfl,vt,he,hq⟩:=h;refine⟨_,(aA (RS.nox (aW (i:=1) rC.nd rfl (Or.inl rfl) (bZ (aj (gk (aj (bZ ak) (aj (aY nA hr rfl bf (aj (rv 0) ak)) ak))) ak)))) (aA (cL PassesOwn.leaving rfl (aV (K:=K) (aY Ig hr rfl bf (aj (rv 0) ak))) (bx (i:=2) rC.nd rfl (Or.inl rfl)) (aD (gb (kh (K:=K) jV lU lV dJ (rv 1) (aj (gk (aj (rv 2) (aj (aY yI hr rfl Cg (aj (rv 0) (aj (cH (cV (K:=K)) (rv 2) aG) ak))) ak))) ak))))) (aA (RS.nox (cL eU rfl (aV (K:=K) (aY Vu hr rfl bf (aj (rv 0) ak))) (bx (i:=3) rC.nd rfl (Or.inl rfl)) (aD (gb (kh (K:=K) jV lU lV dJ (rv 1) (aj (gk (aj (bZ (aj (rv 3) ak)) (aj (bZ (aj (bZ ak) (aj (bZ (aj (rv 3) ak)) ak))) ak))) ak)))))) (aD (RS.nox (bB (rv 1))))))),?_⟩;have h6:=vt.vw.le;have w6:=vt.vw.w6;obtain⟨pok,_⟩:=pX (zs:=zs) (w:=w) h6 w6;refine aC (fun zzs H1=>∃(q:Addr)(us:List V),H q=none/\Same H H1/\H1 q=some (.lst us)/\aU K (del q H1) us [chD ([],lN zs w)]/\zzs=[zzR x,zzR q,zzN,zzN]) (fun R hR=>?_) ?_
  ·refine⟨by decide,fun q1 n1=>?_⟩;have t1:=Same.put (o:=.lst []) n1;refine⟨_,rfl,x,zs,w,rfl,vt.mono t1,fun ql H1 s1 ll=>⟨sz rfl,fun t nt=>⟨sz rfl,fun q nq=>?_⟩⟩⟩;have t2:=Same.put (o:=.tup [V.ref q1,V.ref ql]) nt;refine hR _ _ ⟨q,_,(t1.trans (s1.trans t2)).free nq,(t1.trans (s1.trans t2)).and nq,au,?_,rfl⟩;have sd:Same (upd H1 t (.tup [V.ref q1,V.ref ql])) (del q (upd (upd H1 t (.tup [V.ref q1,V.ref ql])) q (.lst [.ref t]))):=fun b o eb=>by
    have nb:b≠q:=fun z=>by rw[z,nq] at eb;cases eb
    rw[mj nb,bD nb];exact eb
   refine .cons (Den.mono sd ?_) .nil;exact Den.tup au (.cons (((Ls.new n1 .nil:Ls K _ q1 []).mono (s1.trans t2)).den) (.cons (ll.mono t2).den .nil))
  rintro zzs H1 ⟨q,us,nq,s1,eq1,D1,rfl⟩;refine aC (fun zzs H2=>∃(us:List V)(v2:Option V),Same H H2/\H2 q=some (.lst us)/\aU K (del q H2) us (([],lN zs w)::(aO zs w).map (fun p=>(p,d9 zs w p)) |>.map chD)/\(∀ p∈aO zs w,p.length<=12)/\(aO zs w).length<=36/\zzs=[zzR x,zzR q,v2,zzN]) (fun R hR=>?_) ?_
  ·refine⟨_,rfl,x,zs,w,rfl,vt.mono s1,fun pl qs H2 npl s2 ps=>⟨pl,rfl,⟨_,SqL.of ps.at_⟩,?_⟩⟩;have npq:pl≠q:=(bV eq1 npl).symm;have lpp:=zF vt.vw;refine cO (K:=K) (xs:=qs.map V.ref) (fun i zzs H3=>∃(us:List V)(v2:Option V),Same H H3/\nC K H1 H3 pl qs (aO zs w)/\H3 q=some (.lst us)/\aU K (del q H3) us (([],lN zs w)::((aO zs w).take i).map (fun p=>(p,d9 zs w p)) |>.map chD)/\(∀ p∈(aO zs w).take i,p.length<=12)/\zzs=[zzR x,zzR q,v2,zzN])
    ⟨us,none,s1.trans s2,ps,s2 _ _ eq1,D1.mono (s2.but q).del,(fun p hp=>by cases hp),rfl⟩ (fun i zzs H3 _ hh=>by obtain⟨_,_,_,p3,_⟩:=hh;exact SqL.of p3.at_) (fun i u zzs H3 hi hh=>?_) (fun zzs H3 hh=>?_)
   ·obtain⟨us,v2,sh,ps3,eq3,D3,a00,rfl⟩:=hh;rw[cQ] at hi;obtain⟨a,ea,rfl⟩:=gn.mp hi;have iq:i<qs.length:=(gM.mp ea).1;have ip:i<(aO zs w).length:=by rw[<- ps.len];exact iq
    have ep:(aO zs w)[i]?=some (aO zs w)[i]:=gj ip;generalize (aO zs w)[i]=p at ep;have la:=ps3.ls i a p ea ep;have pm:p∈aO zs w:=fJ ep;obtain⟨y,hy,ey⟩:=pok.of p pm;have pp:Part zs w p:=by rw[ey];exact Part.join h6 w6 hy
    obtain⟨c0,p',rfl⟩:∃ c0 p',p=c0::p':=by
     cases p with
     |nil=>exact absurd rfl pp.ne
     |cons c0 p'=>exact⟨c0,p',rfl⟩
    have c0m:c0∈dH zs w y:=by rw[<- ey];exact dY
    have ej:dH zs w c0=c0::p':=by rw[nG h6 w6 hy c0m,<- ey]
    have c0e:c0∈aX zs w:=je.edge hy ((fL (jl hy)).mp c0m);obtain⟨xs,ex,Dx⟩:=id la;obtain⟨u0,xs',rfl⟩:∃ u0 xs',xs=u0::xs':=by cases Dx;exact⟨_,_,rfl⟩
    have d0:Den K H3 u0 (aB c0):=by cases Dx with|cons h _=>exact h
    have lus:us.length<=37:=by rw[D3.length,aR,iR,aR,jr];lia
    refine⟨_,rfl,.inl ⟨rfl,_,SqL.of eq3⟩,?_⟩;refine⟨_,rfl,_,rfl,_,rfl,.inl ⟨a,_,_,_,rfl,rfl,SqL.of ex,eF,?_⟩⟩;refine⟨x,u0,zs,w,c0,rfl,vt.mono sh,d0,fun hc=>absurd c0e hc,fun _ hl H' s'=>he ⟨c0::p',pm,by rw[<- ej];exact hl⟩ _ (sh.trans s'),fun _ hl ql qls H4 nql s4 psl=>?_⟩;rw[ej] at hl psl;have eq4:=s4 _ _ eq3;refine⟨sz rfl,fun t nt=>?_⟩;have s5:=Same.put (o:=.tup [V.ref a,V.ref ql]) nt;dsimp only[jF];refine jC (K:=K) (s5 _ _ eq4) (by lia) ?_;have sH:=s4.trans s5;have sb:SameBut q (upd H4 t (.tup [V.ref a,V.ref ql])) (upd (upd H4 t (.tup [V.ref a,V.ref ql])) q (.lst (us++[.ref t]))):=(SameBut.refl q _).put;have naq:a≠q:=fun z=>by have:=ps3.new a (fJ ea);rw[z,eq1] at this;cases this
    have ntq:t≠q:=fun z=>by rw[z,eq4] at nt;cases nt
    have a71:ql≠q:=fun z=>by rw[z,eq3] at nql;cases nql
    refine⟨us++[.ref t],_,sb.of (sh.trans sH) nq,Xm (ps3.mono sH) sb (s5 _ _ eq4) eq1 npq,au,?_,fun p hp=>?_,rfl⟩
    ·have et:((aO zs w).take (i+1)).map (fun p=>(p,d9 zs w p))=((aO zs w).take i).map (fun p=>(p,d9 zs w p))++[(c0::p',d9 zs w (c0::p'))]:=by
      rw[iT,ep,dM];rfl
     rw[et,<- Kd,dM];refine Il D3 sH ?_;refine Den.tup (by rw[mj ntq];exact au) (.cons (tD (s5 _ _ eq4) naq (la.mono sH)).den (.cons ?_ .nil));refine Den.lst (SqL.of (show del q _ ql=_ by rw[mj a71];exact s5 _ _ psl.at_)) (pZ (H0:=H3) (q:=ql) psl.len fun j b r h1 h2=>tD (s5 _ _ eq4) (fun z=>by have:=psl.new b (fJ h1);rw[z,eq3] at this;cases this) ((psl.ls j b r h1 h2).mono s5))
    ·rw[iT,ep] at hp;rcases cR.mp hp with z|z
     ·exact a00 p z
     ·rw[dB.mp z];exact hl
   ·obtain⟨us,v2,sh,ps3,eq3,D3,a00,rfl⟩:=hh;rw[aR,ps.len,gY] at D3 a00;exact hR _ _ ⟨us,v2,sh,eq3,D3,a00,lpp,rfl⟩
  rintro zzs H2 ⟨us,v2,s2,eq2,D2,a4W,lp,rfl⟩;refine aC (fun zzs H3=>∃(us:List V)(v2 v3:Option V),Same H H3/\H3 q=some (.lst us)/\aU K (del q H3) us ((chL zs w).map chD)/\zzs=[zzR x,zzR q,v2,v3]) (fun R hR=>?_) ?_
  ·refine⟨_,rfl,x,zs,w,rfl,vt.mono s2,fun fl H3 ff=>?_⟩;obtain⟨fs,ef,Df'⟩:=ff.ls;have lfs:fs.length=(rN zs w).length:=by rw[Df'.length,aR]
   have a7o:(rN zs w).length<=36:=cX (iQ _ _) (gC vt.vw);have nfq:fl≠q:=(bV eq2 ff.new).symm;refine⟨fl,rfl,⟨_,SqL.of ef⟩,?_⟩;refine cO (K:=K) (xs:=fs) (fun i zzs H4=>∃(us:List V)(v3:Option V),Same H H4/\H4 fl=some (.lst fs)/\aU K H4 fs ((rN zs w).map aB)/\H4 q=some (.lst us)/\aU K (del q H4) us ((([],lN zs w)::((aO zs w).map (fun p=>(p,d9 zs w p))++((rN zs w).take i).map fun c=>([c],[[],[c]]))).map chD)/\zzs=[zzR x,zzR q,v2,v3])
    ⟨us,none,s2.trans ff.same,ef,Df',ff.same _ _ eq2,by rw[Fy,FN,rT];exact D2.mono (ff.same.but q).del,rfl⟩ (fun i zzs H4 _ hh=>by obtain⟨_,_,_,e,_⟩:=hh;exact SqL.of e) (fun i u zzs H4 hi hh=>?_) (fun zzs H4 hh=>?_)
   ·obtain⟨us,v3,sh,ef4,Df4,eq4,D4,rfl⟩:=hh;obtain⟨d,ed,du⟩:=Df4.get hi;rw[cQ] at ed;obtain⟨c,ec,rfl⟩:=gn.mp ed;have lus:us.length<=100:=by rw[D4.length,aR,iR,c7,aR,aR,jr];lia
    refine⟨_,rfl,.inl ⟨rfl,_,SqL.of eq4⟩,_,rfl,sz rfl,fun q1 n1=>⟨by decide,fun q2 n2=>⟨_,rfl,sz rfl,fun q3 n3=>⟨sz rfl,fun q4 n4=>⟨sz rfl,fun t nt=>?_⟩⟩⟩⟩⟩;have t1:=Same.put (o:=.lst [u]) n1;have t2:=Same.put (o:=.lst []) n2;have t3:=Same.put (o:=.lst [u]) n3;have t4:=Same.put (o:=.lst [V.ref q2,V.ref q3]) n4;have t5:=Same.put (o:=.tup [V.ref q1,V.ref q4]) nt;have s14:=t1.trans (t2.trans (t3.trans t4));have sH:=s14.trans t5;have eqH:=sH _ _ eq4;dsimp only[jF];refine jC (K:=K) eqH (by lia) ?_;refine⟨_,_,(SameBut.refl q _).put.of (sh.trans sH) nq,(SameBut.refl q _).put _ _ (sH _ _ ef4) nfq,(SameBut.refl q _).put.cells eqH (Df4.mono sH),au,?_,rfl⟩;have et:(([],lN zs w)::((aO zs w).map (fun p=>(p,d9 zs w p))++((rN zs w).take (i+1)).map fun c=>([c],[[],[c]])))=(([],lN zs w)::((aO zs w).map (fun p=>(p,d9 zs w p))++((rN zs w).take i).map fun c=>([c],[[],[c]])))++[([c],[[],[c]])]:=by
     rw[iT,ec,dM,Kd,yr];rfl
    rw[et,dM];have ne:∀ {b:Addr} {G:Hp},Same H4 G->G b=none->b≠q:=fun g e z=>by rw[z,g _ _ eq4] at e;cases e
    have na:=ne (Same.refl _) n1;have nb:=ne t1 n2;have nc:=ne (t1.trans t2) n3;have nd:=ne (t1.trans (t2.trans t3)) n4;have nt':=ne s14 nt;have l1:Ls K (upd H4 q1 (.lst [u])) q1 ([c].map aB):=.new n1 (.cons du .nil);have l2:Ls K (upd (upd H4 q1 (.lst [u])) q2 (.lst [])) q2 (([]:List Cell).map aB):=.new n2 .nil;have l3:Ls K (upd (upd (upd H4 q1 (.lst [u])) q2 (.lst [])) q3 (.lst [u])) q3 ([c].map aB):=.new n3 (.cons (du.mono (t1.trans t2)) .nil);refine Il D4 sH ?_;refine Den.tup (by rw[mj nt'];exact au) (.cons (tD eqH na (l1.mono (t2.trans (t3.trans (t4.trans t5))))).den (.cons ?_ .nil));exact Den.lst (SqL.of (show del q _ q4=_ by rw[mj nd];exact t5 _ _ au)) (.cons (tD eqH nb (l2.mono (t3.trans (t4.trans t5)))).den (.cons (tD eqH nc (l3.mono (t4.trans t5))).den .nil))
   ·obtain⟨us,v3,sh,ef4,Df4,eq4,D4,rfl⟩:=hh;rw[lfs,gY] at D4;exact hR _ _ ⟨us,v2,v3,sh,eq4,D4,rfl⟩
  rintro zzs H3 ⟨us,v2,v3,s3,eq3,D3,rfl⟩;exact⟨_,rfl,hq a4W q _ ⟨s3,nq,us,eq3,D3.mono jL⟩⟩
end
def NT(ch:List Cell×List (List Cell)):Prop:=ch.1.length<=36/\(∀ l∈ch.2,l.length<=ch.1.length)/\ch.2.length<=5000
section
variable{P:Program}{w:World}{K:ao}{mg:Str->Option Value}{base:Heap}{Z:Adr}
theorem VP{H:Hp}{v:V}{ch:List Cell×List (List Cell)}(h:Den K H v (chD ch)):∃(t a b:Addr)(xs ys:List V),v=.ref t/\H t=some (.tup [.ref a,.ref b])/\SqL K H a xs/\aU K H xs (ch.1.map aB)/\SqL K H b ys/\aU K H ys (ch.2.map vA):=by
 unfold chD at h;cases h with
 |tup ht hs=>
  cases hs with
  |cons h1 hs=>
   cases hs with
   |cons h2 hs=>
    cases hs;cases h1 with
    |lst e1 D1=>
     cases h2 with
     |lst e2 D2=>exact⟨_,_,_,_,_,rfl,ht,e1,D1,e2,D2⟩
theorem a2H{zs:List Str}{w:Nat}(v:Vw zs w)(h:∀ p∈aO zs w,p.length<=12):(∀ ch∈chL zs w,NT ch)/\(chL zs w).length<=100:=by
 have h1:=zF v;have h2:(rN zs w).length<=36:=cX (iQ _ _) (gC v);constructor
 ·intro ch hc;unfold chL at hc;rcases cW.mp hc with rfl|hc
  ·refine⟨j7 _,fun l hl=>?_,?_⟩
   ·unfold lN at hl;split at hl
    ·cases hl
    ·rw[dB.mp hl];exact bK _
   ·show(lN zs w).length<=5000;unfold lN;split
    ·exact j7 _
    ·show 1<=5000;decide
  rcases cR.mp hc with hc|hc
  ·obtain⟨p,hp,rfl⟩:=cu.mp hc;have:=h p hp;exact⟨by show p.length<=36;lia,fun l hl=>Uo hl,cX (Hw this) (by decide)⟩
  ·obtain⟨c,_,rfl⟩:=cu.mp hc;refine⟨by show 1<=36;decide,fun l hl=>?_,by show 2<=5000;decide⟩;rcases cW.mp hl with rfl|hl
   ·exact j7 _
   ·rw[dB.mp hl];exact bK _
 ·unfold chL;rw[iR,c7,aR,aR];lia
end
theorem Wi(c:Nat):inS "12345678" c=decide (49<=c/\c<=56):=by
 rw[Jj (by decide +kernel)];have e:("12345678" : Str).cps.toList=[49,50,51,52,53,54,55,56]:=by decide +kernel
 rw[e];have:(c∈[49,50,51,52,53,54,55,56])↔(49<=c/\c<=56):=by simp;lia
 rw[rG];exact this
def tL(zs:List Str)(w:Nat):Bool:=(bH zs w "12345678").all fun t=>decide (0<(aF zs w t).length)
theorem Mj{zs:List Str}{w:Nat}{x:Cell}(v:Vw zs w):x∈bH zs w "12345678" ↔ inF zs.length w x/\aL zs w x=false/\0<dO zs x:=by
 rw[qQ,Wi,jo];unfold dO;constructor
 ·rintro⟨h,hc⟩;exact⟨h,((kY v).mp (qQ.mpr ⟨h,by rw[w5];exact bR (by lia)⟩)).2,by lia⟩
 ·rintro⟨h,hc,hf⟩;have:=v.digit h hc;exact⟨h,by lia⟩
theorem Hx{zs:List Str}{w:Nat}(v:Vw zs w):lN zs w=if tL zs w=true then [[]] else []:=by
 unfold lN;have:(cB zs.length w).any (Gi zs w)=!tL zs w:=by
  rw[uE,qm,Kc];unfold tL;rw[QS,ne_eq,lX];constructor
  ·rintro⟨c,hc,hb⟩ h;unfold Gi xK at hb;simp only[lW,qm,jo] at hb;have:=cI (h c ((Mj v).mpr ⟨dI.mp hc,hb.1.1,hb.2⟩));lia
  ·intro h;refine Fd fun n=>h fun c hc=>bR (Fd fun z=>n ⟨c,?_⟩)
   obtain⟨h1,h2,h3⟩:=(Mj v).mp hc;refine⟨dI.mpr h1,?_⟩;unfold Gi xK;rw[h2,bR h3,bR (by lia:(aF zs w c).length=0)];rfl
 rw[this];cases tL zs w<;>rfl
def Yq(K:ao):Sp:=fun vs H Q _=>∃(p:Addr)(zs:List Str)(w:Nat),vs=[.ref p]/\SqL K H p (zs.map V.str)/\Vw zs w/\∀ H',Same H H'->Q (.bl (tL zs w)) H'
theorem Hf{K:ao}{H:Hp}{α:Type}{g:α->Int}:∀ {us:List V} {xs:List α},aU K H us (xs.map fun x=>Dt.int (g x))->us=xs.map (V.int ∘ g)
 |[],[],_=>rfl
 |_::_,_::_,.cons h t=>by
  cases h;rw[gq,Hf t];rfl
section
variable{P:Program}{w:World}{K:ao}{mg:Str->Option Value}{base:Heap}{Z:Adr}
theorem a0H{f:Addr}{fd:FuncData} (F:Fun K "_law_idle" "_law_idle" tW f fd) (T:Txt K mg Z) (cA:Df P w K mg base 1 "_law_sizes" ["rows"] (vh K)) (bN:Df P w K mg base 1 "_law_cells" ["rows","signs"] (rD K)) (bW:Df P w K mg base 1 "_law_near" ["height","width","cell"] (wJ K)) :
  cY P w K mg base (CXE P w) 2 f fd ["rows"] (Yq K):=by
 refine F.rok mR (fun vs H Q E h=>?_) (fun cdv A outer s H vs Q E hr h=>?_)
 ·obtain⟨p,zs,w,rfl,_⟩:=h;rfl
 ·obtain⟨p,zs,w,rfl,hS,vw,hq⟩:=h;have hu:=lK hr;refine⟨_,(aA (mz (aY cA hr rfl bf (aj (rv 0) ak)) (nQ rfl (cP (bx (i:=1) mR.nd rfl (Or.inl rfl)) (cP (bx (i:=2) mR.nd rfl (Or.inl rfl)) jO)))) (aA (cL eU rfl (aV (K:=K) (aY bN hr rfl bf (aj (rv 0) (aj dX ak)))) (bx (i:=3) mR.nd rfl (Or.inl rfl)) (aD (dR (bF (kE.or (jZ (K:=K) hu)) (aZ (eZ (K:=K)) rfl T.eG cJ (aj (fZ (by rfl) rfl (aV (K:=K) (aY bW hr rfl bf (aj (rv 1) (aj (rv 2) (aj (rv 3) ak))))) (fun _ _ _=>(fB (bF (kE.or (jZ (K:=K) hu)) (cH (cV (K:=K)) (cH (cV (K:=K)) (rv 1) (cH (cV (K:=K)) (rv 0) aG)) (cH (cV (K:=K)) (rv 0) aG)) dX (cg _)))) (fun _ _ _=>(rv 0))) ak)) aG (cg _)) (aD (bB qb)) bO))) (aD (bB qb)))),?_⟩;refine aC (fun zzs H1=>Same H H1/\zzs=[zzR p,zzI zs.length,zzI w,zzN]) (fun R hR=>?_) ?_
  ·exact⟨_,rfl,p,zs,w,rfl,hS,vw.toRect,fun t H' s' hT=>⟨t,_,rfl,hT,rfl,_,_,rfl,_,_,rfl,rfl,hR _ _ ⟨s',rfl⟩⟩⟩
  rintro zzs H1 ⟨s1,rfl⟩;refine aC (fun zzs H2=>Same H H2/\tL zs w=true) (fun R hR=>?_) ?_
  ·refine⟨_,rfl,p,zs,w,"12345678",rfl,s1.seq hS,vw.toRect,fun ol H2 fr=>?_⟩;obtain⟨os,eo,Do⟩:=fr.ls;have los:os.length=(bH zs w "12345678").length:=by rw[Do.length,aR]
   have sA:=s1.trans fr.same;refine⟨ol,rfl,⟨_,SqL.of eo⟩,?_⟩;refine cO (K:=K) (xs:=os) (fun i zzs H3=>∃ v3:Option V,Same H2 H3/\(∀ t∈(bH zs w "12345678").take i,0<(aF zs w t).length)/\zzs=[zzR p,zzI zs.length,zzI w,v3])
    ⟨none,Same.refl _,(fun t ht=>by cases ht),rfl⟩ (fun i zzs H3 _ hh=>by obtain⟨_,g,_⟩:=hh;exact SqL.of (g _ _ eo)) (fun i u zzs H3 hi hh=>?_) (fun zzs H3 hh=>?_)
   ·obtain⟨v3,g1,g2,rfl⟩:=hh;obtain⟨dt,edt,du⟩:=Do.get hi;rw[cQ] at edt;obtain⟨t,et,rfl⟩:=gn.mp edt;have tm:=fJ et;have lc8:=nF zs w t;refine⟨_,rfl,_,rfl,_,rfl,zs.length,w,u,t,rfl,du.mono g1,fun nl H4 f4=>?_⟩;obtain⟨ns,en,Dn⟩:=f4.ls;refine⟨nl,rfl,⟨_,SqL.of en⟩,dG (K:=K) (xs:=bQ zs.length w t) (enc:=aB) (bJ (SqL.of en)) Dn (small (by have:=fW zs.length w t;lia)) (fun y=>aL zs w y) aB (fun y hy u' H5 s5 d G hG=>?_) (fun y hy _ u' H5 s5 d G hG=>⟨_,rfl,hG _ _ (Same.refl _) d⟩) (fun ys H5 s5 D5 b hb=>?_)⟩
    ·have yin:=tM hy;obtain⟨⟨a1,a2⟩,⟨a3,a4⟩⟩:=id yin;have e1:y.1=((y.1.toNat:Nat):Int):=by lia
     have e2:y.2=((y.2.toNat:Nat):Int):=by lia
     have i1:y.1.toNat<zs.length:=by lia
     have hS5:=(sA.trans (g1.trans (f4.same.trans s5))).seq hS;refine⟨_,rfl,_,rfl,qU d ?_⟩;rw[e1];refine Ef hS5 i1 ⟨_,rfl,qW d ?_⟩;rw[e2];refine xT hS5 vw.toRect i1 (by lia) ?_;refine Or.inl ⟨rfl,_,rfl,?_⟩;have ec:decide (V.str ⟨#[codeAt zs (y.1.toNat,y.2.toNat)]⟩=V.str "#")=aL zs w y:=by
      unfold aL;rw[bR yin,uG,rG];constructor
      ·intro z;injection z with z;have:=congrArg (fun q:Str=>q.cps.getD 0 0) z;exact this
      ·intro z;rw[z];rfl
     rw[ec];exact hG _ (Same.refl _)
    ·dsimp only[jF];refine nO (Ls.new hb D5).den ?_;refine Or.inl ⟨rfl,_,rfl,?_⟩;rw[Bc,aR];have ef:((bQ zs.length w t).filter fun y=>aL zs w y)=aF zs w t:=rfl;rw[ef];refine dD (fun h1=>?_) (fun h1=>?_)
     ·have h1':=cI h1;have:tL zs w=false:=by
       cases e:tL zs w
       ·rfl
       ·have:=cI (lX.mp e t tm);lia
      rw[<- this];exact hq _ (sA.trans (g1.trans (f4.same.trans (s5.and hb))))
     ·have h1':=j6 h1;refine⟨_,g1.trans (f4.same.trans (s5.and hb)),fun t' ht'=>?_,rfl⟩;rw[iT,et] at ht';rcases cR.mp ht' with z|z
      ·exact g2 t' z
      ·rw[dB.mp z];lia
   ·obtain⟨v3,g1,g2,rfl⟩:=hh;rw[los,gY] at g2;exact hR _ _ ⟨sA.trans g1,lX.mpr fun t ht=>bR (g2 t ht)⟩
  rintro zzs H2 ⟨s2,e2⟩;have:=hq _ s2;rw[e2] at this;exact this
end
section
variable{zs:List Str}{w:Nat}
theorem Xa(h6:zs.length<=6)(w6:w<=6):(aO zs w).flatten.Nodup:=by
 obtain⟨ok,_⟩:=pX (zs:=zs) (w:=w) h6 w6;unfold List.Nodup;rw[List.pairwise_flatten];refine⟨fun p hp=>?_,ok.dis.imp fun h x hx y hy e=>h x hx (by rw[e];exact hy)⟩;obtain⟨x,hx,rfl⟩:=ok.of p hp;exact(Part.join h6 w6 hx).nd
theorem Pu(h6:zs.length<=6)(w6:w<=6):(aO zs w).flatten.Perm (aX zs w):=by
 obtain⟨ok,cov⟩:=pX (zs:=zs) (w:=w) h6 w6;refine(JK (Xa h6 w6) (jQ (zG h6 w6))).mpr fun y=>?_
 rw[List.mem_flatten];constructor
 ·rintro⟨p,hp,hy⟩;obtain⟨x,hx,rfl⟩:=ok.of p hp;exact je.edge hx ((fL (jl hx)).mp hy)
 ·intro hy;obtain⟨p,hp,h⟩:=cov y hy;exact⟨p,hp,h⟩
theorem Lb(h6:zs.length<=6)(w6:w<=6):((aO zs w).flatten++rN zs w).Perm (dZ zs w):=by
 refine((Pu h6 w6).append_right _).trans ?_;unfold aX rN;have e:(dZ zs w).filter (fun x=>decide ((aN zs w x).length=0))=(dZ zs w).filter (fun x=>!decide (0<(aN zs w x).length)):=wO fun x _=>by
  rw[uE,jo,qm,decide_eq_false_iff_not];lia
 rw[e];exact List.filter_append_perm _ _
theorem Ny{α:Type}:∀ ls:List (List α),(ls.map fun l=>l.length).sum=ls.flatten.length
 |[]=>rfl
 |l::ls=>by rw[gq,Ko,Fl,c7,Ny ls]
theorem a2I(h6:zs.length<=6)(w6:w<=6):((chL zs w).map fun ch=>ch.1.length).sum=(dZ zs w).length:=by
 unfold chL;rw[gq,Ko,dM,List.sum_append,jY,jY];have e1:(aO zs w).map ((fun ch:List Cell×List (List Cell)=>ch.1.length) ∘ fun p=>(p,d9 zs w p))=(aO zs w).map fun p=>p.length:=rfl
 have e2:∀ l:List Cell,(l.map ((fun ch:List Cell×List (List Cell)=>ch.1.length) ∘ fun c=>([c],[[],[c]]))).sum=l.length:=fun l=>by
  induction l with
  |nil=>rfl
  |cons a l ih=>rw[gq,Ko,ih,iR];show 1+_=_;lia
 rw[e1,Ny,e2,<- (Lb h6 w6).length_eq,c7];show 0+_=_;lia
end
def setC(c:Cell)(b:Bool)(ch:List Cell×List (List Cell)):List Cell×List (List Cell):=if c∈ch.1 then(ch.1,ch.2.filter fun l=>decide (decide (c∈l)=b)) else ch
theorem a1L{c:Cell}{b:Bool}{ch:List Cell×List (List Cell)}(h:NT ch):NT (setC c b ch):=by
 unfold setC;by_cases hc:c∈ch.1
 ·rw[aK hc];exact⟨h.1,fun l hl=>h.2.1 l (cC.mp hl).1,cX (iQ _ _) h.2.2⟩
 ·rw[aH hc];exact h
theorem a1O{c:Cell}{b:Bool}{chs:List (List Cell×List (List Cell))}:((chs.map (setC c b)).map fun ch=>ch.1.length)=chs.map fun ch=>ch.1.length:=by
 rw[jY];refine wM fun d _=>?_
 show(setC c b d).1.length=_;unfold setC;split<;>rfl
def HY(K:ao):Sp:=fun vs H Q _=>∃(p:Addr)(v:V)(b:Bool)(c:Cell)(chs:List (List Cell×List (List Cell))),vs=[.ref p,v,.bl b]/\Ls K H p (chs.map chD)/\Den K H v (aB c)/\(∀ ch∈chs,NT ch)/\chs.length<=100/\∀ q H',Fr K H H' q ((chs.map (setC c b)).map chD)->Q (.ref q) H'
section
variable{P:Program}{w:World}{K:ao}{mg:Str->Option Value}{base:Heap}{Z:Adr}
theorem a1G{K:ao}{H G:Hp}{α:Type}{enc:α->Dt}:∀ {vs:List V} {xs:List α},aU K H vs (xs.map enc)->fu (fun a v _=>Den K H v (enc a)) G vs xs:=by
 intro vs xs D
 induction xs generalizing vs with
 |nil=>cases D;exact .nil
 |cons c cs ih=>cases D with|cons h t=>exact .cons h (ih t)
theorem Pn{f:Addr}{fd:FuncData} (F:Fun K "settled" "settled" zQ f fd) (T:Txt K mg Z):cY P w K mg base (CXE P w) 1 f fd ["found","cell","stone"] (HY K):=by
 refine F.rok wH (fun vs H Q E h=>?_) (fun cdv A outer s H vs Q E hr h=>?_)
 ·obtain⟨p,v,b,c,chs,rfl,_⟩:=h;rfl
 ·obtain⟨p,v,b,c,chs,rfl,hp,dv,hok,h100,hq⟩:=h;have hu:=lK hr;have hu':=xG hr;refine⟨_,(aA (aW (i:=3) wH.nd rfl (Or.inl rfl) (bZ ak)) (aA (cL eU rfl (aV (K:=K) (rv 0)) (bx (i:=4) wH.nd rfl (Or.inl rfl)) (aD (dR (bF (eV.or (nH (K:=K) hu')) (rv 1) (cH (cV (K:=K)) (rv 4) aG) (by rfl)) (aD (gb (kh (K:=K) jV lU lV dJ (rv 3) (aj (gk (aj (cH (cV (K:=K)) (rv 4) aG) (aj (fZ (by rfl) rfl (aV (K:=K) (cH (cV (K:=K)) (rv 4) aG)) (fun _ _ _=>(fB (bF (kE.or (jZ (K:=K) hu)) (xQ (eV.or (nH (K:=K) hu')) (rv 2) (rv 0) (by rfl)) (rv 3) (cg _)))) (fun _ _ _=>(rv 0))) ak))) ak)))) (aD (gb (kh (K:=K) jV lU lV dJ (rv 3) (aj (rv 4) ak))))))) (aD (bB (rv 3))))),?_⟩;refine aC (fun zzs H1=>∃ q:Addr,H q=none/\Same H H1/\H1 q=some (.lst [])/\zzs=[zzR p,some v,some (.bl b),zzR q,zzN]) (fun R hR=>?_) ?_
  ·exact⟨by decide,fun q nq=>hR _ _ ⟨q,nq,Same.put nq,au,rfl⟩⟩
  rintro zzs H1 ⟨q,nq,s1,eq1,rfl⟩;obtain⟨os,eo,Do⟩:=hp;have los:os.length=chs.length:=by rw[Do.length,aR]
  refine aC (fun zzs H2=>∃(us:List V)(v4:Option V),Same H H2/\H2 q=some (.lst us)/\aU K (del q H2) us ((chs.map (setC c b)).map chD)/\zzs=[zzR p,some v,some (.bl b),zzR q,v4]) (fun R hR=>?_) ?_
  ·refine⟨_,rfl,p,rfl,⟨_,SqL.of (s1 _ _ eo)⟩,?_⟩;refine cO (K:=K) (xs:=os) (fun i zzs H2=>∃(us:List V)(v4:Option V),Same H H2/\H2 q=some (.lst us)/\aU K (del q H2) us (((chs.take i).map (setC c b)).map chD)/\zzs=[zzR p,some v,some (.bl b),zzR q,v4])
    ⟨[],none,s1,eq1,.nil,rfl⟩ (fun i zzs H2 _ hh=>by obtain⟨_,_,g,_⟩:=hh;exact SqL.of (g _ _ eo)) (fun i u zzs H2 hi hh=>?_) (fun zzs H2 hh=>?_)
   ·obtain⟨us,v4,g1,g2,D2,rfl⟩:=hh;obtain⟨d,ed,du⟩:=Do.get hi;rw[cQ] at ed;obtain⟨ch,ec,rfl⟩:=gn.mp ed;have cm:=fJ ec;obtain⟨h36,hrow,h5k⟩:=hok ch cm;obtain⟨t,a,e,xs,ys,rfl,ht,ha,Da,he,De⟩:=VP du;have lus:us.length<=100:=by
     have:us.length=(chs.take i).length:=by rw[D2.length,aR,aR]
     rw[this,jr];lia
    have tk:chs.take (i+1)=chs.take i++[ch]:=by rw[iT,ec];rfl
    have fin:∀(z:V)(H3:Hp),Same H2 H3->Den K (del q H3) z (chD (setC c b ch))->∃(us':List V)(v4:Option V),Same H (upd H3 q (.lst (us++[z])))/\(upd H3 q (.lst (us++[z]))) q=some (.lst us')/\aU K (del q (upd H3 q (.lst (us++[z])))) us' (((chs.take (i+1)).map (setC c b)).map chD)/\([zzR p,some v,some (.bl b),zzR q,zzR t]:L2.St)=[zzR p,some v,some (.bl b),zzR q,v4]:=fun z H3 s3 dz=>by
     refine⟨us++[z],_,(SameBut.refl q _).put.of (g1.trans s3) nq,au,?_,rfl⟩;rw[tk,dM,dM];exact Il D2 s3 dz
    have sd:∀ {G:Hp},Same H G->Same H (del q G):=fun g=>g.into nq
    refine⟨_,rfl,_,rfl,.inr (.inl ⟨t,_,_,_,rfl,rfl,SqT.of (g1 _ _ ht),eF,.inr (vI (dv.mono g1) (Den.mono g1 (.lst ha Da)) ⟨_,rfl,?_⟩)⟩)⟩;refine dD (fun h1=>?_) (fun h1=>?_)
    ·have hc:=cI h1;have es:setC c b ch=(ch.1,ch.2.filter fun l=>decide (decide (c∈l)=b)):=aK hc;refine⟨_,rfl,.inl ⟨rfl,_,SqL.of g2⟩,_,rfl,.inr (.inl ⟨t,_,_,_,rfl,rfl,SqT.of (g1 _ _ ht),eF,?_⟩)⟩;refine⟨_,rfl,.inr (.inl ⟨t,_,_,_,rfl,rfl,SqT.of (g1 _ _ ht),fP (j:=1) rfl,?_⟩)⟩;refine⟨e,rfl,⟨_,g1.seq he⟩,CP (R:=fun(l:List Cell) v _=>Den K H v (vA l)) (R2:=fun(l:List Cell) v _=>Den K H v (vA l)) (xs:=ch.2) (fun _ _ _ _ _ h=>h) (fun _ _ _ _ _ h=>h) (bJ (g1.seq he)) (a1G De) (small (by lia)) (fun l=>decide (decide (c∈l)=b)) id (fun l hl u H3 s3 du G hG=>?_) (fun l hl _ u H3 s3 du G hG=>⟨_,rfl,hG _ _ (Same.refl _) du⟩) (fun zs' H3 s3 D3 n hn=>?_)⟩
     ·obtain⟨a',rfl⟩:∃ a',u=.ref a':=by cases du;exact⟨_,rfl⟩
      refine⟨_,rfl,_,rfl,.inr (vI (dv.mono (g1.trans s3)) (du.mono (g1.trans s3)) ⟨_,rfl,.inl ⟨rfl,_,rfl,?_⟩⟩)⟩;have eb:decide (V.bl (decide (c∈l))=V.bl b)=decide (decide (c∈l)=b):=by
       rw[rG];exact⟨fun z=>by injection z,fun z=>by rw[z]⟩
      rw[eb];exact hG _ (Same.refl _)
     ·rw[Ku] at D3;refine⟨sz rfl,fun t2 nt2=>?_⟩;have s4:=Same.put (o:=.lst zs') hn;have s5:=Same.put (o:=.tup [V.ref a,V.ref n]) nt2;have sA:=s3.trans (s4.trans s5);dsimp only[jF];refine jC (K:=K) (sA _ _ g2) (by lia) ?_;refine fin _ _ sA ?_;rw[es];have nq2:t2≠q:=fun z=>by rw[z,(s3.trans s4) _ _ g2] at nt2;cases nt2
      have nqn:n≠q:=fun z=>by rw[z,s3 _ _ g2] at hn;cases hn
      have sH:Same H (del q (upd (upd H3 n (.lst zs')) t2 (.tup [V.ref a,V.ref n]))):=sd (g1.trans sA);refine Den.tup (by rw[mj nq2];exact au) (.cons (Den.mono sH (.lst ha Da)) (.cons (.lst (SqL.of (show del q _ n=_ by rw[mj nqn];exact s5 _ _ au)) ?_) .nil));exact(D3.imp (R':=fun(l:List Cell) v G=>Den K G v (vA l)) fun l v h=>h.mono sH).a2S fun l v h=>h
    ·have hc:=j6 h1;have es:setC c b ch=ch:=aH hc;refine⟨_,rfl,.inl ⟨rfl,_,SqL.of g2⟩,_,rfl,?_⟩;dsimp only[jF];refine jC (K:=K) g2 (by lia) ?_;exact fin _ _ (Same.refl _) (by rw[es];exact du.mono (sd g1))
   ·obtain⟨us,v4,g1,g2,D2,rfl⟩:=hh;rw[los,gY] at D2;exact hR _ _ ⟨us,v4,g1,g2,D2,rfl⟩
  rintro zzs H2 ⟨us,v4,s2,eq2,D2,rfl⟩;exact⟨_,rfl,hq q _ ⟨s2,nq,us,eq2,D2.mono jL⟩⟩
end
def Nv(K:ao):Sp:=fun vs H Q _=>∃(a:Addr)(ns:List Int),vs=[.ref a]/\SqL K H a (ns.map V.int)/\∀(t p:Addr)(zs:List Str)(w:Nat)(n:Nat)(H':Hp),Same H H'->SqT K H' t [.ref p,.int n]->H' p=some (.lst (zs.map V.str))->Vw zs w->n<=36->Q (.ref t) H'
def vwB(zs:List Str):Bool:=zs.all fun z=>z.length==5&&z.cps.toList.all ud
theorem a1T:∀ d0∈[35,48,49,50,51],∀ c1∈[48,49,50,51],∀ c2∈[48,49,50,51],vwB [("####" : Str)++⟨#[d0]⟩,((("#" : Str)++⟨#[c1]⟩) ++ "#" ++ ⟨#[c2]⟩) ++ "#","#####"]=true:=by decide +kernel
theorem a4O{zs:List Str}(h1:1<=zs.length)(h6:zs.length<=6)(h:vwB zs=true):Vw zs 5:=by
 have h:=lX.mp h;refine⟨⟨h1,h6,by decide,by decide,fun z hz=>?_⟩,fun z hz c hc=>?_⟩
 ·exact lZ.mp (Qy.mp (h z hz)).1
 ·exact lX.mp (Qy.mp (h z hz)).2 c hc
theorem Tj{a b:List Str}(h1:vwB a=true)(h2:vwB b=true):vwB (a++b)=true:=by
 unfold vwB at *;rw[List.all_append,h1,h2];rfl
section
variable{P:Program}{w:World}{K:ao}{mg:Str->Option Value}{base:Heap}{Z:Adr}
theorem UW{f:Addr}{fd:FuncData} (F:Fun K "_law_rows_by" "_law_rows_by" nW f fd) (T:Txt K mg Z) (bG:Df P w K mg base 1 "_law_cell_at" ["script","k"] (zW K)) (bU:Df P w K mg base 1 "_law_mix" ["cell","k","many"] HX)
  (nu:Df P w K mg base 4 "_law_view_by" ["script","most","steps"] (Nx K)) (m9:Df P w K mg base 2 "_law_wrong_by" ["script","rows"] (Te K)) :
  cY P w K mg base (CXE P w) 5 f fd ["script"] (Nv K):=by
 refine F.rok cU (fun vs H Q E h=>?_) (fun cdv A outer s H vs Q E hr h=>?_)
 ·obtain⟨a,ns,rfl,_⟩:=h;rfl
 ·obtain⟨a,ns,rfl,hS,hq⟩:=h;have hu:=lK hr;refine⟨_,(aA (aW (i:=1) cU.nd rfl (Or.inl rfl) (dw nM (aY bG hr rfl bf (aj (rv 0) (aj aG ak))) aG)) (aA (mz (aY nu hr rfl bf (aj (rv 0) (aj (cH (cV (K:=K)) (bZ (aj aG (aj aG (aj aG (aj aG (aj aG (aj aG ak))))))) (rv 1)) (aj (cH (cV (K:=K)) (bZ (aj aG (aj aG (aj aG (aj aG (aj aG (aj aG ak))))))) (rv 1)) ak)))) (nQ rfl (cP (bx (i:=2) cU.nd rfl (Or.inl rfl)) (cP (bx (i:=3) cU.nd rfl (Or.inl rfl)) jO)))) (aA (aW (i:=2) cU.nd rfl (Or.inl rfl) (aY m9 hr rfl bf (aj (rv 0) (aj (rv 2) ak)))) (aA (dR (bF (kE.or (jZ (K:=K) hu)) (rv 1) aG (cg _)) (aA (aW (i:=4) cU.nd rfl (Or.inr rfl) (aY bG hr rfl bf (aj (rv 0) (aj aG ak)))) (aA (oR (i:=5) cU.nd rfl rfl (by rfl) rfl (fX rfl T.gP (aj aG ak)) (fun _ _ _=>lF) (fun _ _ _=>(cH (cV (K:=K)) dX (aY bU hr rfl bf (aj (rv 5) (aj (rv 0) (aj (cH (cV (K:=K)) (bZ (aj aG (aj aG (aj aG ak)))) (rv 0)) ak))))))) (aA (mz (cH (cV (K:=K)) (bZ (aj (cH (cV (K:=K)) (rv 5) aG) (aj dX ak))) (dw nM (rv 4) aG)) (Eh (rv 5) aG set_list)) (aA (aW (i:=2) cU.nd rfl (Or.inl rfl) (bZ (aj (dw bI dX (cH (cV (K:=K)) (rv 5) aG)) (aj (dw bI (dw bI (dw bI (dw bI dX (cH (cV (K:=K)) (rv 5) aG)) dX) (cH (cV (K:=K)) (rv 5) aG)) dX) (aj dX ak))))) (aD (dR (bF (kE.or (jZ (K:=K) hu)) (dw nM (dw Ce (rv 4) aG) aG) aG (cg _)) (aD (aW (i:=2) cU.nd rfl (Or.inl rfl) (dw bI (rv 2) (bZ (aj dX (aj dX ak)))))) (aD (dR (bF (kE.or (jZ (K:=K) hu)) (dw nM (dw Ce (rv 4) aG) aG) aG (cg _)) (aD (aW (i:=2) cU.nd rfl (Or.inl rfl) (dw bI (bZ (aj dX (aj dX ak))) (rv 2)))) bO)))))))) bO) (aD (bB (gk (aj (rv 2) (aj (aZ (eZ (K:=K)) rfl T.eG cJ (aj (rv 3) ak)) ak))))))))),?_⟩;refine aC (fun zzs H1=>∃ y:Int,0<=y/\y<6/\H1=H/\zzs=[zzR a,zzI y,zzN,zzN,zzN,zzN]) (fun R hR=>?_) ?_
  ·exact⟨_,rfl,a,ns,20,rfl,by decide,hS,fun r0=>⟨_,_,rfl,rfl,(by show(0:Int)<6;decide),hR _ _ ⟨r0%6,Ao _ (by decide),Ad _ (by decide),rfl,rfl⟩⟩⟩
  rintro zzs H1 ⟨y,y0,y6,rfl,rfl⟩;refine aC (fun zzs H2=>∃(p q:Addr)(zs:List Str)(w:Nat)(st:List Cell),Same H1 H2/\H2 p=some (.lst (zs.map V.str))/\Vw zs w/\Ls K H2 q (st.map aB)/\st.length<=36/\zzs=[zzR a,zzI y,zzR p,zzR q,zzN,zzN]) (fun R hR=>?_) ?_
  ·refine⟨_,rfl,sz rfl,fun l hl=>?_⟩;have t1:=Same.put (o:=.lst [V.int 4,V.int 4,V.int 4,V.int 4,V.int 4,V.int 6]) hl;obtain⟨v,hv,e⟩:=sX (xs:=([4,4,4,4,4,6]:List Int).map V.int) (i:=y) y0 (by simpa using y6);obtain⟨n,hn,rfl⟩:=cu.mp hv;have n6:1<=n/\n<=6:=(by decide:∀ x∈([4,4,4,4,4,6]:List Int),1<=x/\x<=6) n hn;refine⟨_,rfl,.inl ⟨l,_,_,_,rfl,rfl,SqL.of au,e,?_⟩⟩;refine⟨sz rfl,fun l2 hl2=>?_⟩;have t2:=Same.put (o:=.lst [V.int 4,V.int 4,V.int 4,V.int 4,V.int 4,V.int 2]) hl2;obtain⟨v,hv,e2⟩:=sX (xs:=([4,4,4,4,4,2]:List Int).map V.int) (i:=y) y0 (by simpa using y6);obtain⟨k,hk,rfl⟩:=cu.mp hv;have k6:1<=k/\k<=10:=(by decide:∀ x∈([4,4,4,4,4,2]:List Int),1<=x/\x<=10) k hk;refine⟨_,rfl,.inl ⟨l2,_,_,_,rfl,rfl,SqL.of au,e2,?_⟩⟩;refine⟨a,ns,n,k,rfl,(t1.trans t2).seq hS,n6.1,n6.2,k6.1,k6.2,fun t r p H2 h w st kn s1 nr np ht hr' hls h1 h6 w1 w6 sub nd kk=>?_⟩;obtain⟨tv,et,_⟩:∃ tv,H2 t=tv/\True:=⟨_,rfl,trivial⟩
   refine⟨t,_,rfl,ht,rfl,_,_,rfl,_,_,rfl,rfl,hR _ _ ⟨r,p,_,w,st,t1.trans (t2.trans s1),hr',Yi h1 (by lia) w1 (by lia),hls,?_,rfl⟩⟩;have:=sub.length_le;rw[gB] at this;have h36:h*w<=6*6:=lY (by lia) (by lia);lia
  rintro zzs H2 ⟨p,q,zs,w,st,s2,hp,vw,lq,l36,rfl⟩;refine aC (fun zzs H3=>∃(p:Addr)(zs:List Str),Same H1 H3/\H3 p=some (.lst (zs.map V.str))/\Vw zs w/\Ls K H3 q (st.map aB)/\zzs=[zzR a,zzI y,zzR p,zzR q,zzN,zzN]) (fun R hR=>?_) ?_
  ·exact⟨_,rfl,_,rfl,a,p,ns,zs,w,rfl,s2.seq hS,hp,vw,fun q' zs' H3 s3 hq3 vw3 e=>hR _ _ ⟨q',zs',s2.trans s3,hq3,vw3,lq.mono s3,rfl⟩⟩
  rintro zzs H3 ⟨p,zs,s3,hp,vw,lq,rfl⟩;refine aC (fun zzs H4=>∃(p:Addr)(zs:List Str)(w:Nat)(v4 v5:Option V),Same H1 H4/\H4 p=some (.lst (zs.map V.str))/\Vw zs w/\Ls K H4 q (st.map aB)/\zzs=[zzR a,zzI y,zzR p,zzR q,v4,v5]) (fun R hR=>?_) ?_
  ·refine⟨_,rfl,.inl ⟨rfl,_,rfl,?_⟩⟩;refine dD (fun _=>?_) (fun _=>hR _ _ ⟨p,zs,w,none,none,s3,hp,vw,lq,rfl⟩);refine aC (fun zzs H4=>∃ r0:Int,H3=H4/\zzs=[zzR a,zzI y,zzR p,zzR q,zzI r0,zzN]) (fun R' hR'=>?_) ?_
   ·exact⟨_,rfl,a,ns,21,rfl,by decide,s3.seq hS,fun r0=>hR' _ _ ⟨r0,rfl,rfl⟩⟩
   rintro zzs H4 ⟨r0,rfl,rfl⟩;refine aC (fun zzs H4=>∃(sg:Addr)(c0 c1 c2:Nat),H3 sg=none/\Same H3 H4/\c0∈[48,49,50,51]/\c1∈[48,49,50,51]/\c2∈[48,49,50,51]/\H4 sg=some (.lst [.str ⟨#[c0]⟩,.str ⟨#[c1]⟩,.str ⟨#[c2]⟩])/\zzs=[zzR a,zzI y,zzR p,zzR q,zzI r0,zzR sg]) (fun R' hR'=>?_) ?_
   ·refine⟨3,rfl,by decide,by decide,?_⟩;refine pK (R:=fun(i:Int) v _=>v=.int i) (R2:=fun(_:Int) v _=>∃ c∈[48,49,50,51],v=.str ⟨#[c]⟩) (xs:=[0,1,2]) (fun _ _ _ _ _ h=>h) (fun _ _ _ _ _ h=>h) (DW 0 3) (.cons rfl (.cons rfl (.cons rfl .nil))) (small (by decide)) id (fun i hi z H4 s4 ry G hG=>?_) (fun ys H4 s4 D2 n hn=>?_)
    ·subst ry;refine⟨_,rfl,_,rfl,sz rfl,fun l hl=>?_⟩;have t1:=Same.put (o:=.lst [V.int 3,V.int 4,V.int 4]) hl;have i3:0<=i/\i<3:=(by decide:∀ x∈([0,1,2]:List Int),0<=x/\x<3) i hi;obtain⟨v,hv,e⟩:=sX (xs:=([3,4,4]:List Int).map V.int) (i:=i) i3.1 (by simpa using i3.2);obtain⟨n,hn,rfl⟩:=cu.mp hv;have n4:0<n/\n<=4:=(by decide:∀ x∈([3,4,4]:List Int),0<x/\x<=4) n hn;refine⟨_,rfl,.inl ⟨l,_,_,_,rfl,rfl,SqL.of au,e,?_⟩⟩;refine⟨r0,i,n,rfl,n4.1,fun r2 H5 a3 b3 t3=>?_⟩;have e4:("0123" : Str).cps.toList=[48,49,50,51]:=by decide +kernel
     obtain⟨cc,hc,ec⟩:=sX (xs:=("0123" : Str).cps.toList) (i:=r2) a3 (by rw[e4];show r2<4;lia);refine .inr (.inr ⟨_,r2,cc,rfl,rfl,by decide,ec,hG _ _ (t1.trans t3) ⟨cc,by rw[<- e4];exact hc,rfl⟩⟩)
    ·rw[Ku] at D2;cases D2 with
     |cons h0 D2=>
      cases D2 with
      |cons h1 D2=>
       cases D2 with
       |cons h2 D2=>
        cases D2;obtain⟨c0,m0,rfl⟩:=h0;obtain⟨c1,m1,rfl⟩:=h1;obtain⟨c2,m2,rfl⟩:=h2;exact hR' _ _ ⟨n,c0,c1,c2,s4.free hn,s4.and hn,m0,m1,m2,au,rfl⟩
   rintro zzs H4 ⟨sg,c0,c1,c2,nsg,s4,m0,m1,m2,es,rfl⟩;refine aC (fun zzs H5=>∃ d0:Nat,Same H3 H5/\d0∈[35,48,49,50,51]/\H5 sg=some (.lst [.str ⟨#[d0]⟩,.str ⟨#[c1]⟩,.str ⟨#[c2]⟩])/\zzs=[zzR a,zzI y,zzR p,zzR q,zzI r0,zzR sg]) (fun R' hR'=>?_) ?_
   ·refine⟨_,rfl,.inl ⟨sg,_,_,_,rfl,rfl,SqL.of es,eF,?_⟩⟩;refine⟨sz rfl,fun l hl=>?_⟩;have t1:=Same.put (o:=.lst [V.str ⟨#[c0]⟩,V.str "#"]) hl;refine⟨_,rfl,_,_,rfl,rfl,(by show(0:Int)<2;decide),?_⟩;have b0:0<=r0%2:=Ao _ (by decide);have b1:r0%2<2:=Ad _ (by decide);obtain⟨v,hv,e⟩:=sX (xs:=[V.str ⟨#[c0]⟩,V.str "#"]) (i:=r0%2) b0 (by simpa using b1);refine .inl ⟨l,_,_,_,rfl,rfl,SqL.of au,e,?_⟩;have hd:∃ d0∈[35,48,49,50,51],v=.str ⟨#[d0]⟩:=by
     rcases cW.mp hv with z|z
     ·exact⟨c0,fU _ m0,z⟩
     ·rw[dB.mp z];exact⟨35,by simp,rfl⟩
    obtain⟨d0,md,rfl⟩:=hd;refine⟨_,rfl,sg,_,_,0,rfl,rfl,t1 _ _ es,rfl,?_⟩;have sb:SameBut sg (upd H4 l (.lst [V.str ⟨#[c0]⟩,V.str "#"])) (upd (upd H4 l (.lst [V.str ⟨#[c0]⟩,V.str "#"])) sg (.lst [.str ⟨#[d0]⟩,.str ⟨#[c1]⟩,.str ⟨#[c2]⟩])):=(SameBut.refl sg _).put;exact hR' _ _ ⟨d0,sb.of (s4.trans t1) nsg,md,au,rfl⟩
   rintro zzs H5 ⟨d0,s5,md,es3,rfl⟩;have at0:∀ {Q:VK},Q (.str ⟨#[d0]⟩) H5->rIx K (.ref sg) (.int 0) H5 Q:=fun q=>.inl ⟨sg,_,_,_,rfl,rfl,SqL.of es3,eF,q⟩
   have at1:∀ {Q:VK},Q (.str ⟨#[c1]⟩) H5->rIx K (.ref sg) (.int 1) H5 Q:=fun q=>.inl ⟨sg,_,_,_,rfl,rfl,SqL.of es3,fP (j:=1) rfl,q⟩
   have at2:∀ {Q:VK},Q (.str ⟨#[c2]⟩) H5->rIx K (.ref sg) (.int 2) H5 Q:=fun q=>.inl ⟨sg,_,_,_,rfl,rfl,SqL.of es3,fP (j:=2) rfl,q⟩
   refine aC (fun zzs H6=>∃(p:Addr)(zs:List Str),Same H3 H6/\H6 p=some (.lst (zs.map V.str))/\zs.length=3/\vwB zs=true/\zzs=[zzR a,zzI y,zzR p,zzR q,zzI r0,zzR sg]) (fun R' hR'=>?_) ?_
   ·refine⟨_,rfl,at0 ⟨small (by show 4+1<=10000;decide),?_⟩⟩;refine⟨_,rfl,at1 ⟨small (by show 1+1<=10000;decide),small (by show 2+1<=10000;decide),?_⟩⟩;refine⟨_,rfl,at2 ⟨small (by show 3+1<=10000;decide),small (by show 4+1<=10000;decide),?_⟩⟩;refine⟨sz rfl,fun q nq=>?_⟩;have key:=a1T d0 md c1 m1 c2 m2;generalize ("####" : Str)++⟨#[d0]⟩=r1 at key ⊢;generalize ((("#" : Str)++⟨#[c1]⟩) ++ "#" ++ ⟨#[c2]⟩) ++ "#" = r2 at key ⊢;generalize ("#####" : Str)=r3 at key ⊢;exact hR' _ _ ⟨q,[r1,r2,r3],s5.and nq,au,rfl,key,rfl⟩
   rintro zzs H6 ⟨p,zs,s6,hp6,l3,vb,rfl⟩;have sA:=s3.trans s6;have out:∀(p':Addr)(zs':List Str)(H7:Hp),Same H6 H7->H7 p'=some (.lst (zs'.map V.str))->1<=zs'.length->zs'.length<=6->vwB zs'=true->R [zzR a,zzI y,zzR p',zzR q,zzI r0,zzR sg] H7:=fun p' zs' H7 s7 e7 z1 z6 b7=>hR _ _ ⟨p',zs',5,_,_,sA.trans s7,e7,a4O z1 z6 b7,lq.mono (s6.trans s7),rfl⟩
   refine⟨_,rfl,_,_,rfl,rfl,⟨by decide,by decide⟩,_,_,rfl,rfl,(by show(0:Int)<3;decide),.inl ⟨rfl,_,rfl,dD (fun _=>?_) (fun _=>?_)⟩⟩
   ·refine⟨_,rfl,sz rfl,fun l hl=>?_⟩;have t7:=Same.put (o:=.lst [V.str "00000",V.str "00100"]) hl;refine⟨_,_,t7 _ _ hp6,au,small (by rw[aR,l3];decide),fun r nr=>?_⟩;refine out r (zs++(["00000","00100"]:List Str)) _ (t7.and nr) (by rw[au,dM];rfl) ?_ ?_ (Tj vb (by decide +kernel))
    ·rw[c7,l3];decide
    ·rw[c7,l3];decide
   ·refine⟨_,rfl,_,_,rfl,rfl,⟨by decide,by decide⟩,_,_,rfl,rfl,(by show(0:Int)<2;decide),.inl ⟨rfl,_,rfl,dD (fun _=>?_) (fun _=>out p zs _ (Same.refl _) hp6 (by lia) (by lia) vb)⟩⟩;refine⟨sz rfl,fun l hl=>?_⟩;have t7:=Same.put (o:=.lst [V.str "4####",V.str "#####"]) hl;refine⟨_,rfl,_,_,au,t7 _ _ hp6,small (by rw[aR,l3];decide),fun r nr=>?_⟩;refine out r ((["4####","#####"]:List Str)++zs) _ (t7.and nr) (by rw[au,dM];rfl) ?_ ?_ (Tj (by decide +kernel) vb)
    ·rw[c7,l3];decide
    ·rw[c7,l3];decide
  rintro zzs H4 ⟨p,zs,w,v4,v5,s4,hp4,vw4,lq4,rfl⟩;obtain⟨xs,ex,Dx⟩:=lq4;have lx:xs.length=st.length:=by rw[Dx.length,aR]
  refine⟨_,rfl,_,rfl,.inl ⟨q,_,rfl,.inl (SqL.of ex),sz rfl,fun t nt=>?_⟩⟩;have t5:=Same.put (o:=.tup [V.ref p,V.int xs.length]) nt;exact hq t p zs w xs.length _ (s4.trans t5) (SqT.of au) (t5 _ _ hp4) vw4 (by lia)
end
def cD(zs:List Str)(w:Nat)(c:Cell)(b:Bool):Prop:=∃ ch∈(chL zs w).map (setC c b),ch.2=[]
noncomputable def layW(zs:List Str)(w:Nat)(c:Cell)(b:Bool):List Cell:=((chL zs w).map (setC c b)).flatMap fun ch=>ch.2.headD []
def T7(K:ao):Sp:=fun vs H Q _=>∃(p:Addr)(chs:List (List Cell×List (List Cell))),vs=[.ref p]/\Ls K H p (chs.map chD)/\(∀ ch∈chs,NT ch)/\chs.length<=100/\(chs.map fun ch=>ch.1.length).sum<=36 /\
 ((∃ ch∈chs,ch.2=[])->∀ H',Same H H'->Q .non H')/\((¬∃ ch∈chs,ch.2=[])->∀ q H' ds,Fr K H H' q (ds.map aB)->ds.Perm (chs.flatMap fun ch=>ch.2.headD [])->Asc ds->Q (.ref q) H')
def pG(K:ao)(H H':Hp)(v:V)(zs:List Str)(w:Nat)(c:Cell)(b:Bool):Prop:=(cD zs w c b/\v=.non)\/(¬cD zs w c b/\∃(q:Addr)(ds:List Cell),v=.ref q/\H q=none/\Ls K H' q (ds.map aB)/\ds.Perm (layW zs w c b)/\Asc ds)
theorem pG.mono{K:ao}{H H' H'':Hp}{v:V}{zs:List Str}{w:Nat}{c:Cell}{b:Bool}(h:pG K H H' v zs w c b)(s:Same H' H''):pG K H H'' v zs w c b:=by
 rcases h with h|⟨h,q,ds,e,n,l,r⟩
 ·exact .inl h
 ·exact .inr ⟨h,q,ds,e,n,l.mono s,r⟩
theorem pG.non{K:ao}{H H':Hp}{v:V}{zs:List Str}{w:Nat}{c:Cell}{b:Bool}(h:pG K H H' v zs w c b):decide (v=V.non)=true↔cD zs w c b:=by
 rw[jo];rcases h with⟨h,e⟩|⟨h,q,_,e,_⟩
 ·exact⟨fun _=>h,fun _=>e⟩
 ·exact⟨fun z=>(by rw[e] at z;cases z),fun z=>absurd z h⟩
def Ii(C NC TG IM:Addr)(zs:List Str)(w:Nat)(c:Cell)(H:Hp)(E:XK):Prop:=
 (aL zs w c=false->∀ H',Same H H'->E (.ref NC) none H')/\(aL zs w c=true->(∃ p∈aO zs w,12<p.length)->∀ H',Same H H'->E (.ref TG) none H') /\
 (aL zs w c=true->(∀ p∈aO zs w,p.length<=12)->cD zs w c false->cD zs w c true->∀ H',Same H H'->E (.ref IM) none H')
def Qe(K:ao)(C NC TG IM:Addr):Sp:=fun vs H Q E=>∃(x:Addr)(v:V)(zs:List Str)(w:Nat)(c:Cell),vs=[.ref x,v]/\gA C H x zs w/\Den K H v (aB c)/\Ii C NC TG IM zs w c H E /\
 (aL zs w c=true->(∀ p∈aO zs w,p.length<=12)->¬(cD zs w c false/\cD zs w c true)->∀ t v0 v1 H',Same H H'->H' t=some (.tup [v0,v1])->pG K H H' v0 zs w c false->pG K H H' v1 zs w c true->(∀ q:Addr,v0=.ref q->v1≠.ref q)->Q (.ref t) H')
open Classical in
noncomputable def vK(zs:List Str)(w:Nat)(c:Cell):Str:=if cD zs w c false then "stone" else if cD zs w c true then "none" else "open"
def Yv(K:ao)(C NC TG IM:Addr):Sp:=fun vs H Q E=>∃(x:Addr)(v:V)(zs:List Str)(w:Nat)(c:Cell),vs=[.ref x,v]/\gA C H x zs w/\Den K H v (aB c)/\Ii C NC TG IM zs w c H E /\
 (aL zs w c=true->(∀ p∈aO zs w,p.length<=12)->¬(cD zs w c false/\cD zs w c true)->∀ H',Same H H'->Q (.str (vK zs w c)) H')
def Yt(K:ao)(C NC TG IM NO:Addr):Sp:=fun vs H Q E=>∃(x:Addr)(v:V)(zs:List Str)(w:Nat)(c:Cell),vs=[.ref x,v]/\gA C H x zs w/\Den K H v (aB c)/\Ii C NC TG IM zs w c H E /\
 (aL zs w c=true->(∀ p∈aO zs w,p.length<=12)->¬(cD zs w c false/\cD zs w c true)->cD zs w c false\/cD zs w c true->∀ H',Same H H'->E (.ref NO) none H') /\
 (aL zs w c=true->(∀ p∈aO zs w,p.length<=12)->¬cD zs w c false->¬cD zs w c true->∀ t q0 q1 d0 d1 H',Same H H'->H' t=some (.tup [.ref q0,.ref q1])->H q0=none->H q1=none->q0≠q1->Ls K H' q0 (d0.map aB)->Ls K H' q1 (d1.map aB)->d0.Perm (layW zs w c false)->Asc d0->d1.Perm (layW zs w c true)->Asc d1->Q (.ref t) H')
section
variable{P:Program}{w:World}{K:ao}{mg:Str->Option Value}{base:Heap}{Z:Adr}
theorem LQ{chs:List (List Cell×List (List Cell))}(h:∀ ch∈chs,NT ch):(chs.flatMap fun ch=>ch.2.headD []).length<=(chs.map fun ch=>ch.1.length).sum:=by
 induction chs with
 |nil=>exact bK _
 |cons ch chs ih=>
  rw[Ae,c7,gq,Ko];have h1:=ih fun c hc=>h c (fU _ hc)
  have h2:(ch.2.headD []).length<=ch.1.length:=by
   cases e:ch.2 with
   |nil=>exact j7 _
   |cons l ls=>exact(h ch dY).2.1 l (by rw[e];exact dY)
  lia
theorem WR{f:Addr}{fd:FuncData} (F:Fun K "first_laying" "first_laying" nZ f fd) (T:Txt K mg Z):cY P w K mg base (CXE P w) 1 f fd ["found"] (T7 K):=by
 refine F.rok mH (fun vs H Q E h=>?_) (fun cdv A outer s H vs Q E hr h=>?_)
 ·obtain⟨p,chs,rfl,_⟩:=h;rfl
 ·obtain⟨p,chs,rfl,hp,hok,h100,h36,hn,hq⟩:=h;have hu:=lK hr;refine⟨_,(aA (aW (i:=1) mH.nd rfl (Or.inl rfl) (bZ ak)) (aA (cL eU rfl (aV (K:=K) (rv 0)) (bx (i:=2) mH.nd rfl (Or.inl rfl)) (aA (dR (bF (kE.or (jZ (K:=K) hu)) (aZ (eZ (K:=K)) rfl T.eG cJ (aj (cH (cV (K:=K)) (rv 2) aG) ak)) aG (cg _)) (aD (bB Ec)) bO) (aD (gb (kh (K:=K) jV PySem.F.slot_list_extend PySem.F.type_list_extend (Wk (K:=K)) (rv 1) (aj (cH (cV (K:=K)) (cH (cV (K:=K)) (rv 2) aG) aG) ak)))))) (aD (bB (aZ (a0p (K:=K) hu) rfl T.pH pI (aj (rv 1) ak)))))),?_⟩;refine aC (fun zzs H1=>∃ q:Addr,H q=none/\Same H H1/\H1 q=some (.lst [])/\zzs=[zzR p,zzR q,zzN]) (fun R hR=>?_) ?_
  ·exact⟨by decide,fun q nq=>hR _ _ ⟨q,nq,Same.put nq,au,rfl⟩⟩
  rintro zzs H1 ⟨q,nq,s1,eq1,rfl⟩;obtain⟨os,eo,Do⟩:=hp;have los:os.length=chs.length:=by rw[Do.length,aR]
  refine aC (fun zzs H2=>∃(us:List V)(v2:Option V),Same H H2/\H2 q=some (.lst us)/\aU K H2 us ((chs.flatMap fun ch=>ch.2.headD []).map aB)/\(¬∃ ch∈chs,ch.2=[])/\zzs=[zzR p,zzR q,v2]) (fun R hR=>?_) ?_
  ·refine⟨_,rfl,p,rfl,⟨_,SqL.of (s1 _ _ eo)⟩,?_⟩;refine cO (K:=K) (xs:=os) (fun i zzs H2=>∃(us:List V)(v2:Option V),Same H H2/\H2 q=some (.lst us)/\aU K H2 us (((chs.take i).flatMap fun ch=>ch.2.headD []).map aB)/\(¬∃ ch∈chs.take i,ch.2=[])/\zzs=[zzR p,zzR q,v2])
    ⟨[],none,s1,eq1,.nil,(fun⟨_,h,_⟩=>by cases h),rfl⟩ (fun i zzs H2 _ hh=>by obtain⟨_,_,g,_⟩:=hh;exact SqL.of (g _ _ eo)) (fun i u zzs H2 hi hh=>?_) (fun zzs H2 hh=>?_)
   ·obtain⟨us,v2,g1,g2,D2,no,rfl⟩:=hh;obtain⟨d,ed,du⟩:=Do.get hi;rw[cQ] at ed;obtain⟨ch,ec,rfl⟩:=gn.mp ed;have cm:=fJ ec;obtain⟨a7j,hrow,h5k⟩:=hok ch cm;obtain⟨t,a,e,xs,ys,rfl,ht,ha,Da,he,De⟩:=VP du;have tk:chs.take (i+1)=chs.take i++[ch]:=by rw[iT,ec];rfl
    have at1:∀ {Q:VK},Q (.ref e) H2->rIx K (.ref t) (.int 1) H2 Q:=fun q=>.inr (.inl ⟨t,_,_,_,rfl,rfl,SqT.of (g1 _ _ ht),fP (j:=1) rfl,q⟩)
    refine aC (fun zzs H3=>H2=H3/\ch.2≠[]/\zzs=[zzR p,zzR q,zzR t]) (fun R' hR'=>?_) ?_
    ·refine⟨_,rfl,at1 ?_⟩;dsimp only[jF];refine nO (Den.mono g1 (.lst he De)) (.inl ⟨rfl,_,rfl,?_⟩);rw[Bc,aR];refine dD (fun h1=>?_) (fun h1=>?_)
     ·have h1:=cI h1;exact hn ⟨ch,cm,Fe.mp (by lia)⟩ _ g1
     ·have h1:=j6 h1;exact hR' _ _ ⟨rfl,fun z=>h1 (by rw[z];rfl),rfl⟩
    rintro zzs H3 ⟨rfl,hne,rfl⟩;obtain⟨l0,lr,el0⟩:∃ l0 lr,ch.2=l0::lr:=by
     cases e':ch.2 with
     |nil=>exact absurd e' hne
     |cons l0 lr=>exact⟨l0,lr,rfl⟩
    rw[el0] at De;obtain⟨u0,ys',rfl⟩:∃ u0 ys',ys=u0::ys':=by cases De;exact⟨_,_,rfl⟩
    have d0:Den K H u0 (vA l0):=by cases De with|cons h _=>exact h
    cases d0 with
    |@lst b zs' _ hb Db=>
     have h0:l0.length<=ch.1.length:=hrow l0 (by rw[el0];exact dY);have lz:zs'.length<=36:=by rw[Db.length,aR];lia
     have lus:us.length<=36:=by
      rw[D2.length,aR];refine cX (LQ fun c hc=>hok c (wL hc)) (cX ?_ h36);rw[List.map_take];have:=Bu i (chs.map fun ch=>ch.1.length);have e3:=congrArg List.sum this;rw[List.sum_append] at e3;lia
     refine⟨_,rfl,.inl ⟨rfl,_,SqL.of g2⟩,_,rfl,at1 (.inl ⟨e,_,_,_,rfl,rfl,g1.seq he,eF,?_⟩)⟩;refine⟨q,b,us,zs',rfl,rfl,g2,g1.seq hb,small (by lia),?_⟩;refine⟨_,_,(SameBut.refl q _).put.of g1 nq,au,?_,?_,rfl⟩
     ·rw[tk,Ab,dM];have e4:([ch].flatMap fun ch=>ch.2.headD [])=l0:=by
       rw[Ae,el0];simp
      rw[e4];exact((SameBut.refl q _).put.cells g2 D2).append ((SameBut.refl q _).put.cells g2 (Db.mono g1))
     ·rw[tk];rintro⟨c,hc,z⟩;rcases cR.mp hc with y|y
      ·exact no ⟨c,y,z⟩
      ·rw[dB.mp y] at z;exact hne z
   ·obtain⟨us,v2,g1,g2,D2,no,rfl⟩:=hh;rw[los,gY] at D2 no;exact hR _ _ ⟨us,v2,g1,g2,D2,no,rfl⟩
  rintro zzs H2 ⟨us,v2,s2,eq2,D2,no,rfl⟩;have fl:=LQ hok;refine⟨_,rfl,q,us,_,rfl,SqL.of eq2,D2,by lia,fun l ws ds nl pm D' pc as=>?_⟩;exact hq no l _ ds ⟨s2.and nl,s2.free nl,.new nl D'⟩ pc as
theorem a0D{f:Addr}{fd:FuncData} (F:Fun K "both_ways" "both_ways" tY f fd) (T:Txt K mg Z) (cN:Df P w K mg base 2 "is_closed" ["view","cell"] (lA K Z.View)) (yx:Df P w K mg base 6 "choices" ["view"] (HN K Z.View Z.TooGreat)) (uN:Df P w K mg base 1 "settled" ["found","cell","stone"] (HY K)) (jH:Df P w K mg base 1 "first_laying" ["found"] (T7 K)) :
  cY P w K mg base (CXE P w) 7 f fd ["view","cell"] (Qe K Z.View Z.NoCell Z.TooGreat Z.Impossible):=by
 refine F.PJ mU (fun vs H Q E h=>?_) (fun cdv A outer s H vs Q E hr h=>?_)
 ·obtain⟨x,v,zs,w,c,rfl,_⟩:=h;rfl
 ·obtain⟨x,v,zs,w,c,rfl,vt,dv,⟨e1,e2,e3⟩,hq⟩:=h;have hd:=M5 hr;have hu:=lK hr;refine⟨_,(aA (dR (RT.nox (qX (kZ (aY cN hr rfl bf (aj (rv 0) (aj (rv 1) ak)))))) (aD (nR T.oA rfl T.sZ hd (aj dX ak))) bO) (aA (aW (i:=2) mU.nd rfl (Or.inl rfl) (aY yx hr rfl Cg (aj (rv 0) ak))) (aA (RS.nox (aW (i:=3) mU.nd rfl (Or.inl rfl) (aY jH hr rfl bf (aj (aY uN hr rfl bf (aj (rv 2) (aj (rv 1) (aj qb ak)))) ak)))) (aA (RS.nox (aW (i:=4) mU.nd rfl (Or.inl rfl) (aY jH hr rfl bf (aj (aY uN hr rfl bf (aj (rv 2) (aj (rv 1) (aj qb ak)))) ak)))) (aA (dR (RT.nox (Ej (wA (bF zB (rv 3) Ec (cg _)) (qT (bF zB (rv 4) Ec (cg _)))))) (aD (nR T.iH rfl T.qG hd (aj dX ak))) bO) (aD (RS.nox (bB (gk (aj (rv 3) (aj (rv 4) ak))))))))))),?_⟩;refine aC (fun zzs H1=>aL zs w c=true/\H=H1/\zzs=[zzR x,some v,zzN,zzN,zzN]) (fun R hR=>?_) ?_
  ·refine⟨_,rfl,_,rfl,x,v,zs,w,c,rfl,vt,dv,?_⟩;refine⟨_,rfl,?_⟩;exact dD (fun h1=>⟨by decide,e1 (by simpa only[qm] using h1) _ (Same.refl _)⟩) (fun h1=>hR _ _ ⟨by simpa only[wN] using h1,rfl,rfl⟩)
  rintro zzs H1 ⟨hc,rfl,rfl⟩;refine aC (fun zzs H2=>∃ q:Addr,(∀ p∈aO zs w,p.length<=12)/\Same H H2/\Ls K H2 q ((chL zs w).map chD)/\zzs=[zzR x,some v,zzR q,zzN,zzN]) (fun R hR=>?_) ?_
  ·exact⟨_,rfl,x,zs,w,rfl,vt,fun hg H' s'=>e2 hc hg _ s',fun h12 q H2 fr=>hR _ _ ⟨q,h12,fr.same,fr.ls,rfl⟩⟩
  rintro zzs H2 ⟨q,h12,s2,lq,rfl⟩;obtain⟨c1,c2⟩:=a2H vt.vw h12;have csum:∀ b:Bool,(((chL zs w).map (setC c b)).map fun ch=>ch.1.length).sum<=36:=fun b=>by
   rw[a1O,a2I vt.vw.le vt.vw.w6];exact gC vt.vw
  have cok:∀ b:Bool,∀ ch∈(chL zs w).map (setC c b),NT ch:=fun b ch hch=>by
   obtain⟨d,hd',rfl⟩:=cu.mp hch;exact a1L (c1 d hd')
  refine aC (fun zzs H3=>∃ v0:V,Same H2 H3/\pG K H H3 v0 zs w c false/\zzs=[zzR x,some v,zzR q,some v0,zzN]) (fun R hR=>?_) ?_
  ·refine⟨_,rfl,_,rfl,q,v,false,c,chL zs w,rfl,lq,dv.mono s2,c1,c2,fun q5 H5 fr=>?_⟩;refine⟨q5,_,rfl,fr.ls,cok false,by rw[aR];exact c2,csum false,fun hn H' s'=>hR _ _ ⟨_,fr.same.trans s',.inl ⟨hn,rfl⟩,rfl⟩,fun hn q6 H' ds f6 pm as=>hR _ _ ⟨_,fr.same.trans f6.same,.inr ⟨hn,q6,ds,rfl,(s2.trans fr.same).free f6.new,f6.ls,pm,as⟩,rfl⟩⟩
  rintro zzs H3 ⟨v0,s3,w0,rfl⟩;refine aC (fun zzs H4=>∃ v1:V,Same H3 H4/\pG K H H4 v1 zs w c true/\(∀ q:Addr,v0=.ref q->v1≠.ref q)/\zzs=[zzR x,some v,zzR q,some v0,some v1]) (fun R hR=>?_) ?_
  ·refine⟨_,rfl,_,rfl,q,v,true,c,chL zs w,rfl,lq.mono s3,dv.mono (s2.trans s3),c1,c2,fun q5 H5 fr=>?_⟩;refine⟨q5,_,rfl,fr.ls,cok true,by rw[aR];exact c2,csum true,fun hn H' s'=>hR _ _ ⟨_,fr.same.trans s',.inl ⟨hn,rfl⟩,(fun _ _ z=>by cases z),rfl⟩,fun hn q6 H' ds f6 pm as=>hR _ _ ⟨_,fr.same.trans f6.same,.inr ⟨hn,q6,ds,rfl,(s2.trans (s3.trans fr.same)).free f6.new,f6.ls,pm,as⟩,(fun q' e' z=>?_),rfl⟩⟩;injection z with z;rcases w0 with⟨_,e0⟩|⟨_,q0,_,e0,_,⟨_,l0,_⟩,_⟩
   ·rw[e0] at e';cases e'
   ·rw[e0] at e';injection e' with e';have:=f6.new;rw[z,<- e',fr.same _ _ l0] at this;cases this
  rintro zzs H4 ⟨v1,s4,w1,apart,rfl⟩;have sA:=s2.trans (s3.trans s4);refine aC (fun zzs H5=>¬(cD zs w c false/\cD zs w c true)/\H4=H5/\zzs=[zzR x,some v,zzR q,some v0,some v1]) (fun R hR=>?_) ?_
  ·refine⟨_,rfl,rfl,_,rfl,?_⟩;refine dD (fun h1=>⟨_,rfl,rfl,_,rfl,?_⟩) (fun h1=>hR _ _ ⟨fun z=>(by rw[w0.non.mpr z.1] at h1;cases h1),rfl,rfl⟩);exact dD (fun h2=>⟨by decide,e3 hc h12 (w0.non.mp h1) (w1.non.mp h2) _ sA⟩) (fun h2=>hR _ _ ⟨fun z=>(by rw[w1.non.mpr z.2] at h2;cases h2),rfl,rfl⟩)
  rintro zzs H5 ⟨hno,rfl,rfl⟩;exact⟨_,rfl,_,rfl,sz rfl,fun t nt=>hq hc h12 hno t v0 v1 _ (sA.and nt) au ((w0.mono s4).mono (Same.put nt)) (w1.mono (Same.put nt)) apart⟩
open Classical in
theorem a0P{f:Addr}{fd:FuncData} (F:Fun K "sure" "sure" Q5 f fd) (T:Txt K mg Z) (jy:Df P w K mg base 7 "both_ways" ["view","cell"] (Qe K Z.View Z.NoCell Z.TooGreat Z.Impossible)) :
  cY P w K mg base (CXE P w) 8 f fd ["view","cell"] (Yv K Z.View Z.NoCell Z.TooGreat Z.Impossible):=by
 refine F.PJ T3 (fun vs H Q E h=>?_) (fun cdv A outer s H vs Q E hr h=>?_)
 ·obtain⟨x,v,zs,w,c,rfl,_⟩:=h;rfl
 ·obtain⟨x,v,zs,w,c,rfl,vt,dv,re,hq⟩:=h;refine⟨_,(aA (aW (i:=2) T3.nd rfl (Or.inl rfl) (aY jy hr rfl Cg (aj (rv 0) (aj (rv 1) ak)))) (aA (RS.nox (dR (bF zB (cH (cV (K:=K)) (rv 2) aG) Ec (cg _)) (aD (bB dX)) bO)) (aA (RS.nox (dR (bF zB (cH (cV (K:=K)) (rv 2) aG) Ec (cg _)) (aD (bB dX)) bO)) (aD (RS.nox (bB dX)))))),?_⟩;refine aC (fun zzs H1=>∃(t:Addr)(v0 v1:V),aL zs w c=true/\(∀ p∈aO zs w,p.length<=12)/\¬(cD zs w c false/\cD zs w c true)/\Same H H1/\H1 t=some (.tup [v0,v1])/\pG K H H1 v0 zs w c false/\pG K H H1 v1 zs w c true/\(∀ q:Addr,v0=.ref q->v1≠.ref q)/\zzs=[zzR x,some v,zzR t]) (fun R hR=>?_) ?_
  ·exact⟨_,rfl,_,rfl,x,v,zs,w,c,rfl,vt,dv,re,fun hc h12 hno t v0 v1 H' s' et w0 w1 ap=>hR _ _ ⟨t,v0,v1,hc,h12,hno,s',et,w0,w1,ap,rfl⟩⟩
  rintro zzs H1 ⟨t,v0,v1,hc,h12,hno,s1,et,w0,w1,ap,rfl⟩;have hq':=hq hc h12 hno _ s1;unfold vK at hq';refine aC (fun zzs H2=>¬cD zs w c false/\H1=H2/\zzs=[zzR x,some v,zzR t]) (fun R hR=>?_) ?_
  ·refine⟨_,rfl,.inr (.inl ⟨t,_,_,_,rfl,rfl,SqT.of et,eF,rfl,_,rfl,?_⟩)⟩;refine dD (fun h1=>?_) (fun h1=>hR _ _ ⟨fun z=>(by rw[w0.non.mpr z] at h1;cases h1),rfl,rfl⟩);rw[aK (w0.non.mp h1)] at hq';exact hq'
  rintro zzs H2 ⟨h1,rfl,rfl⟩;rw[aH h1] at hq';refine aC (fun zzs H2=>¬cD zs w c true/\H1=H2/\zzs=[zzR x,some v,zzR t]) (fun R hR=>?_) ?_
  ·refine⟨_,rfl,.inr (.inl ⟨t,_,_,_,rfl,rfl,SqT.of et,fP (j:=1) rfl,rfl,_,rfl,?_⟩)⟩;refine dD (fun h2=>?_) (fun h2=>hR _ _ ⟨fun z=>(by rw[w1.non.mpr z] at h2;cases h2),rfl,rfl⟩);rw[aK (w1.non.mp h2)] at hq';exact hq'
  rintro zzs H2 ⟨h2,rfl,rfl⟩;rw[aH h2] at hq';exact hq'
theorem a0N{f:Addr}{fd:FuncData} (F:Fun K "shown" "shown" Jv f fd) (T:Txt K mg Z) (jy:Df P w K mg base 7 "both_ways" ["view","cell"] (Qe K Z.View Z.NoCell Z.TooGreat Z.Impossible)) :
  cY P w K mg base (CXE P w) 8 f fd ["view","cell"] (Yt K Z.View Z.NoCell Z.TooGreat Z.Impossible Z.NotOpen):=by
 refine F.PJ Nk (fun vs H Q E h=>?_) (fun cdv A outer s H vs Q E hr h=>?_)
 ·obtain⟨x,v,zs,w,c,rfl,_⟩:=h;rfl
 ·obtain⟨x,v,zs,w,c,rfl,vt,dv,re,e4,hq⟩:=h;have hd:=M5 hr;have hu:=lK hr;refine⟨_,(aA (aW (i:=2) Nk.nd rfl (Or.inl rfl) (aY jy hr rfl Cg (aj (rv 0) (aj (rv 1) ak)))) (aA (dR (RT.nox (Ej (Sx (bF zB (cH (cV (K:=K)) (rv 2) aG) Ec (cg _)) (Jr (bF zB (cH (cV (K:=K)) (rv 2) aG) Ec (cg _)))))) (aD (nR T.jD rfl T.yR hd (aj dX ak))) bO) (aD (RS.nox (bB (rv 2)))))),?_⟩;refine aC (fun zzs H1=>∃(t:Addr)(v0 v1:V),aL zs w c=true/\(∀ p∈aO zs w,p.length<=12)/\¬(cD zs w c false/\cD zs w c true)/\Same H H1/\H1 t=some (.tup [v0,v1])/\pG K H H1 v0 zs w c false/\pG K H H1 v1 zs w c true/\(∀ q:Addr,v0=.ref q->v1≠.ref q)/\zzs=[zzR x,some v,zzR t]) (fun R hR=>?_) ?_
  ·exact⟨_,rfl,_,rfl,x,v,zs,w,c,rfl,vt,dv,re,fun hc h12 hno t v0 v1 H' s' et w0 w1 ap=>hR _ _ ⟨t,v0,v1,hc,h12,hno,s',et,w0,w1,ap,rfl⟩⟩
  rintro zzs H1 ⟨t,v0,v1,hc,h12,hno,s1,et,w0,w1,ap,rfl⟩;refine aC (fun zzs H2=>¬cD zs w c false/\¬cD zs w c true/\H1=H2/\zzs=[zzR x,some v,zzR t]) (fun R hR=>?_) ?_
  ·refine⟨_,rfl,.inr (.inl ⟨t,_,_,_,rfl,rfl,SqT.of et,eF,rfl,_,rfl,?_⟩)⟩;refine dD (fun h1=>⟨by decide,e4 hc h12 hno (.inl (w0.non.mp h1)) _ s1⟩) (fun h1=>?_);refine⟨_,rfl,.inr (.inl ⟨t,_,_,_,rfl,rfl,SqT.of et,fP (j:=1) rfl,rfl,_,rfl,?_⟩)⟩;exact dD (fun h2=>⟨by decide,e4 hc h12 hno (.inr (w1.non.mp h2)) _ s1⟩) (fun h2=>hR _ _ ⟨fun z=>by(rw[w0.non.mpr z] at h1;cases h1),fun z=>by(rw[w1.non.mpr z] at h2;cases h2),rfl,rfl⟩)
  rintro zzs H2 ⟨h1,h2,rfl,rfl⟩;rcases w0 with⟨z,_⟩|⟨_,q0,d0,rfl,n0,l0,p0,a0⟩
  ·exact absurd z h1
  rcases w1 with⟨z,_⟩|⟨_,q1,d1,rfl,n1,l1,p1,a1⟩
  ·exact absurd z h2
  exact⟨_,rfl,hq hc h12 h1 h2 t q0 q1 d0 d1 _ s1 et n0 n1 (fun z=>ap q0 rfl (by rw[z])) l0 l1 p0 a0 p1 a1⟩
end
theorem S5{zs:List Str}{w:Nat}{y:Cell}:y∈bH zs w "#" ↔ aL zs w y=true:=by
 rw[<- jf];unfold dZ;rw[cC,dI];refine⟨fun h=>h.2,fun h=>⟨?_,h⟩⟩;unfold aL at h;exact cI (Qy.mp h).1
section
variable{zs:List Str}{w:Nat}{c:Cell}
def Ay(zs:List Str)(w:Nat):Prop:=∃ ch∈chL zs w,ch.2=[]
theorem uZ(v:Vw zs w):Ay zs w↔(tL zs w=false\/∃ p∈aO zs w,d9 zs w p=[]):=by
 constructor
 ·rintro⟨ch,hc,e⟩;unfold chL at hc;rcases cW.mp hc with rfl|hc
  ·left;rw[Hx v] at e;cases h:tL zs w
   ·rfl
   ·rw[h] at e;cases e
  rcases cR.mp hc with hc|hc
  ·obtain⟨p,hp,rfl⟩:=cu.mp hc;exact .inr ⟨p,hp,e⟩
  ·obtain⟨x,_,rfl⟩:=cu.mp hc;cases e
 ·rintro(h|⟨p,hp,e⟩)
  ·refine⟨([],lN zs w),dY,?_⟩;show lN zs w=[];rw[Hx v,h];rfl
  ·exact⟨(p,d9 zs w p),fU _ (jE _ (cu.mpr ⟨p,hp,rfl⟩)),e⟩
theorem tO(b:Bool):cD zs w c b↔(Ay zs w\/∃ p∈aO zs w,c∈p/\((d9 zs w p).filter fun l=>decide (decide (c∈l)=b))=[]):=by
 constructor
 ·rintro⟨ch',hc',e⟩;obtain⟨ch,hc,rfl⟩:=cu.mp hc';unfold setC at e;by_cases z:c∈ch.1
  ·rw[aK z] at e;have hc0:=hc;unfold chL at hc;rcases cW.mp hc with rfl|hc
   ·cases z
   rcases cR.mp hc with hc|hc
   ·obtain⟨p,hp,rfl⟩:=cu.mp hc;exact .inr ⟨p,hp,z,e⟩
   ·obtain⟨x,_,rfl⟩:=cu.mp hc;exfalso;have zx:c=x:=dB.mp z;subst zx;cases b<;>simp at e
  ·rw[aH z] at e;exact .inl ⟨ch,hc,e⟩
 ·rintro(⟨ch,hc,e⟩|⟨p,hp,z,e⟩)
  ·refine⟨setC c b ch,cu.mpr ⟨ch,hc,rfl⟩,?_⟩;unfold setC;by_cases z:c∈ch.1
   ·rw[aK z];show ch.2.filter _=[];rw[e];rfl
   ·rw[aH z];exact e
  ·refine⟨setC c b (p,d9 zs w p),cu.mpr ⟨_,fU _ (jE _ (cu.mpr ⟨p,hp,rfl⟩)),rfl⟩,?_⟩;unfold setC;rw[aK (show c∈(p,d9 zs w p).1 from z)];exact e
theorem DR(h6:zs.length<=6)(w6:w<=6){p q:List Cell}(hp:p∈aO zs w)(hq:q∈aO zs w)(cp:c∈p)(cq:c∈q):p=q:=by
 obtain⟨ok,_⟩:=pX (zs:=zs) (w:=w) h6 w6;obtain⟨x,hx,rfl⟩:=ok.of p hp;obtain⟨y,hy,rfl⟩:=ok.of q hq;rw[<- nG h6 w6 hx cp,nG h6 w6 hy cq]
theorem Cz(v:Vw zs w):(cD zs w c false/\cD zs w c true)↔Ay zs w:=by
 rw[tO,tO];constructor
 ·rintro⟨h|⟨p,hp,cp,ep⟩,h'|⟨q,hq,cq,eq⟩⟩
  ·exact h
  ·exact h
  ·exact h'
  ·have:=DR v.le v.w6 hp hq cp cq;subst this;refine⟨(p,d9 zs w p),fU _ (jE _ (cu.mpr ⟨p,hp,rfl⟩)),?_⟩;cases e:d9 zs w p with
   |nil=>rfl
   |cons l ls=>
    rw[e] at ep eq;rw[wQ] at ep eq;by_cases hl:c∈l
    ·rw[bR hl] at eq;cases eq
    ·rw[cG hl] at ep;cases ep
 ·intro h;exact⟨.inl h,.inl h⟩
end
def Qf(K:ao)(C:Addr):Sp:=fun vs H Q _=>∃(x:Addr)(v:V)(k:Int)(zs:List Str)(w:Nat)(c:Cell),vs=[.ref x,v,.int k]/\gA C H x zs w/\Den K H v (aB c) /\
 (aL zs w c=false->∀ t H',Same H H'->H' t=some (.lst [.int 1,.bl true])->Q (.ref t) H')/\(aL zs w c=true->(∃ p∈aO zs w,12<p.length)->∀ t H',Same H H'->H' t=some (.lst [.int 2,.bl true])->Q (.ref t) H') /\
 (aL zs w c=true->(∀ p∈aO zs w,p.length<=12)->cD zs w c false->cD zs w c true->∀ t H',Same H H'->H' t=some (.lst [.int 3,.bl true])->Q (.ref t) H') /\
 (k=0->aL zs w c=true->(∀ p∈aO zs w,p.length<=12)->¬(cD zs w c false/\cD zs w c true)->∀ H',Same H H'->Q (.str (vK zs w c)) H') /\
 (k≠0->aL zs w c=true->(∀ p∈aO zs w,p.length<=12)->¬(cD zs w c false/\cD zs w c true)->cD zs w c false\/cD zs w c true->∀ t H',Same H H'->H' t=some (.lst [.int 4,.bl true])->Q (.ref t) H') /\
 (k≠0->aL zs w c=true->(∀ p∈aO zs w,p.length<=12)->¬cD zs w c false->¬cD zs w c true->∀(t q0 q1:Addr) H',Same H H'->H' t=some (.tup [.ref q0,.ref q1])->Q (.ref t) H')
section
variable{P:Program}{w:World}{K:ao}{mg:Str->Option Value}{base:Heap}{Z:Adr}
theorem a0K{f:Addr}{fd:FuncData} (F:Fun K "_law_met" "_law_met" wC f fd) (T:Txt K mg Z) (NZ:Df P w K mg base 8 "sure" ["view","cell"] (Yv K Z.View Z.NoCell Z.TooGreat Z.Impossible)) (Ih:Df P w K mg base 8 "shown" ["view","cell"] (Yt K Z.View Z.NoCell Z.TooGreat Z.Impossible Z.NotOpen)) :
  cY P w K mg base (CXE P w) 9 f fd ["view","cell","way"] (Qf K Z.View):=by
 refine F.rok lQ (fun vs H Q E h=>?_) (fun cdv A outer s H vs Q E hr h=>?_)
 ·obtain⟨x,v,k,zs,w,c,rfl,_⟩:=h;rfl
 ·obtain⟨x,v,k,zs,w,c,rfl,vt,dv,q1,q2,q3,q4,q5,q6⟩:=h;have hu:=lK hr;refine⟨_,(aD (a4A rfl rfl (a4B (bF (kE.or (jZ (K:=K) hu)) (rv 2) aG (cg _)) (SX (Y5 NZ hr rfl (aj (rv 0) (aj (rv 1) ak)))) (SX (Y5 Ih hr rfl (aj (rv 0) (aj (rv 1) ak))))) (Ck (i:=3) rfl lQ.nd rfl rfl rfl T.sZ T.oA (fun _=>(aD (bB (bZ (aj aG (aj (aZ (zm (K:=K)) rfl T.iz iV (aj (rv 3) (aj (Sv T.jJ rfl) ak))) ak)))))) (Ck (i:=3) rfl lQ.nd rfl rfl rfl T.vX T.lC (fun _=>(aD (bB (bZ (aj aG (aj (aZ (zm (K:=K)) rfl T.iz iV (aj (rv 3) (aj (Sv T.jJ rfl) ak))) ak)))))) (Ck (i:=3) rfl lQ.nd rfl rfl rfl T.qG T.iH (fun _=>(aD (bB (bZ (aj aG (aj (aZ (zm (K:=K)) rfl T.iz iV (aj (rv 3) (aj (Sv T.jJ rfl) ak))) ak)))))) (Ck (i:=3) rfl lQ.nd rfl rfl rfl T.yR T.jD (fun _=>(aD (bB (bZ (aj aG (aj (aZ (zm (K:=K)) rfl T.iz iV (aj (rv 3) (aj (Sv T.jJ rfl) ak))) ak)))))) a4y)))))),?_⟩;obtain⟨m1,m2,m3⟩:=uY T.lC T.a1y;obtain⟨n1,n2,n3⟩:=uY T.iH T.a1q;obtain⟨o1,o2,o3⟩:=uY T.iH T.a1r;obtain⟨i1,i2,i3⟩:=uY T.jD T.a1u;obtain⟨j1,j2,j3⟩:=uY T.jD T.a1v;obtain⟨l1,l2,l3⟩:=uY T.jD T.a1t;refine⟨_,rfl,.inl ⟨rfl,_,rfl,?_⟩⟩;rw[Bc];refine dD (fun h1=>?_) (fun h1=>?_)
  ·have hk:=cI h1;refine⟨_,rfl,_,rfl,x,v,zs,w,c,rfl,vt,dv,⟨fun hc H' s'=>?_,fun hc hl H' s'=>?_,fun hc hl n0 n1' H' s'=>?_⟩,fun hc hl hno H' s'=>q4 hk hc hl hno _ s'⟩
   ·refine⟨Z.NoCell,rfl,.inl ⟨rfl,fun ea hea=>?_⟩⟩;have s8:=Same.put (o:=Bv ea Z.NoCell) hea;refine⟨_,rfl,.inl ⟨_,_,_,rfl,rfl,.inr ⟨ea,Z.NoCell,rfl,au,T.Xq,?_⟩⟩⟩;exact⟨sz rfl,fun q hq=>q1 hc q _ (s'.trans (s8.and hq)) au⟩
   ·refine⟨Z.TooGreat,rfl,.inr ⟨m1,m2,m3,.inl ⟨rfl,fun ea hea=>?_⟩⟩⟩;have s8:=Same.put (o:=Bv ea Z.TooGreat) hea;refine⟨_,rfl,.inl ⟨_,_,_,rfl,rfl,.inr ⟨ea,Z.TooGreat,rfl,au,T.Xr,?_⟩⟩⟩;exact⟨sz rfl,fun q hq=>q2 hc hl q _ (s'.trans (s8.and hq)) au⟩
   ·refine⟨Z.Impossible,rfl,.inr ⟨n1,n2,n3,.inr ⟨o1,o2,o3,.inl ⟨rfl,fun ea hea=>?_⟩⟩⟩⟩;have s8:=Same.put (o:=Bv ea Z.Impossible) hea;refine⟨_,rfl,.inl ⟨_,_,_,rfl,rfl,.inr ⟨ea,Z.Impossible,rfl,au,T.Xp,?_⟩⟩⟩;exact⟨sz rfl,fun q hq=>q3 hc hl n0 n1' q _ (s'.trans (s8.and hq)) au⟩
  ·have hk:=j6 h1;refine⟨_,rfl,_,rfl,x,v,zs,w,c,rfl,vt,dv,⟨fun hc H' s'=>?_,fun hc hl H' s'=>?_,fun hc hl n0 n1' H' s'=>?_⟩,fun hc hl hno hor H' s'=>?_,fun hc hl h0 h1 t q0 q1' d0 d1 H' s' et _ _ _ _ _ _ _ _ _=>q6 hk hc hl h0 h1 t q0 q1' _ s' et⟩
   ·refine⟨Z.NoCell,rfl,.inl ⟨rfl,fun ea hea=>?_⟩⟩;have s8:=Same.put (o:=Bv ea Z.NoCell) hea;refine⟨_,rfl,.inl ⟨_,_,_,rfl,rfl,.inr ⟨ea,Z.NoCell,rfl,au,T.Xq,?_⟩⟩⟩;exact⟨sz rfl,fun q hq=>q1 hc q _ (s'.trans (s8.and hq)) au⟩
   ·refine⟨Z.TooGreat,rfl,.inr ⟨m1,m2,m3,.inl ⟨rfl,fun ea hea=>?_⟩⟩⟩;have s8:=Same.put (o:=Bv ea Z.TooGreat) hea;refine⟨_,rfl,.inl ⟨_,_,_,rfl,rfl,.inr ⟨ea,Z.TooGreat,rfl,au,T.Xr,?_⟩⟩⟩;exact⟨sz rfl,fun q hq=>q2 hc hl q _ (s'.trans (s8.and hq)) au⟩
   ·refine⟨Z.Impossible,rfl,.inr ⟨n1,n2,n3,.inr ⟨o1,o2,o3,.inl ⟨rfl,fun ea hea=>?_⟩⟩⟩⟩;have s8:=Same.put (o:=Bv ea Z.Impossible) hea;refine⟨_,rfl,.inl ⟨_,_,_,rfl,rfl,.inr ⟨ea,Z.Impossible,rfl,au,T.Xp,?_⟩⟩⟩;exact⟨sz rfl,fun q hq=>q3 hc hl n0 n1' q _ (s'.trans (s8.and hq)) au⟩
   ·refine⟨Z.NotOpen,rfl,.inr ⟨i1,i2,i3,.inr ⟨j1,j2,j3,.inr ⟨l1,l2,l3,.inl ⟨rfl,fun ea hea=>?_⟩⟩⟩⟩⟩;have s8:=Same.put (o:=Bv ea Z.NotOpen) hea;refine⟨_,rfl,.inl ⟨_,_,_,rfl,rfl,.inr ⟨ea,Z.NotOpen,rfl,au,T.a1s,?_⟩⟩⟩;exact⟨sz rfl,fun q hq=>q5 hk hc hl hno hor q _ (s'.trans (s8.and hq)) au⟩
end
def Ym(K:ao):Sp:=fun vs H Q _=>∃(p:Addr)(v:V)(zs:List Str)(w:Nat)(c:Cell),vs=[.ref p,v]/\SqL K H p (zs.map V.str)/\Vw zs w/\Den K H v (aB c) /\
 (aL zs w c=false->∀ t H',Same H H'->H' t=some (.lst [.int 1,.bl true])->Q (.ref t) H')/\(aL zs w c=true->(∃ p∈aO zs w,12<p.length)->∀ t H',Same H H'->H' t=some (.lst [.int 2,.bl true])->Q (.ref t) H') /\
 (aL zs w c=true->(∀ p∈aO zs w,p.length<=12)->Ay zs w->∀ t H',Same H H'->H' t=some (.lst [.int 3,.bl true])->Q (.ref t) H') /\
 (aL zs w c=true->(∀ p∈aO zs w,p.length<=12)->¬Ay zs w->∀ H',Same H H'->Q (.str (vK zs w c)) H')
section
variable{P:Program}{w:World}{K:ao}{mg:Str->Option Value}{base:Heap}{Z:Adr}
open Classical in
theorem a0F{f:Addr}{fd:FuncData} (F:Fun K "_law_due" "_law_due" wB f fd) (T:Txt K mg Z) (bN:Df P w K mg base 1 "_law_cells" ["rows","signs"] (rD K)) (qw:Df P w K mg base 3 "_law_parts" ["rows"] (Nt K)) (sS:Df P w K mg base 2 "_law_idle" ["rows"] (Yq K)) (jG:Df P w K mg base 2 "_law_layings" ["rows","part"] (Ew K)) :
  cY P w K mg base (CXE P w) 4 f fd ["rows","cell"] (Ym K):=by
 refine F.rok oU (fun vs H Q E h=>?_) (fun cdv A outer s H vs Q E hr h=>?_)
 ·obtain⟨p,v,zs,w,c,rfl,_⟩:=h;rfl
 ·obtain⟨p,v,zs,w,c,rfl,hS,vw,dv,q1,q2,q3,q4⟩:=h;have hu:=lK hr;have hu':=xG hr;refine⟨_,(aA (dR (bF (gF.or (lM (K:=K) hu')) (rv 1) (aY bN hr rfl bf (aj (rv 0) (aj dX ak))) (by rfl)) (aD (bB (bZ (aj aG (aj qb ak))))) bO) (aA (aW (i:=2) oU.nd rfl (Or.inl rfl) (aY qw hr rfl bf (aj (rv 0) ak))) (aA (dR (bF Bj (a4u (K:=K) rfl rfl T.Rn O9 (fZ (by rfl) rfl (aV (K:=K) (rv 2)) (fun _ _ _=>lF) (fun _ _ _=>(aZ (eZ (K:=K)) rfl T.eG cJ (aj (rv 0) ak)))) aG) aG (cg _)) (aD (bB (bZ (aj aG (aj qb ak))))) bO) (aA (dR (Ej (Sx (qX (kZ (aY sS hr rfl bf (aj (rv 0) ak)))) (Jr (bF (eV.or (nH (K:=K) hu')) aG (fZ (by rfl) rfl (aV (K:=K) (rv 2)) (fun _ _ _=>lF) (fun _ _ _=>(aZ (eZ (K:=K)) rfl T.eG cJ (aj (aY jG hr rfl bf (aj (rv 1) (aj (rv 0) ak))) ak)))) (by rfl))))) (aD (bB (bZ (aj aG (aj qb ak))))) bO) (aA (cL eU rfl (aV (K:=K) (rv 2)) (bx (i:=3) oU.nd rfl (Or.inl rfl)) (aD (dR (bF (eV.or (nH (K:=K) hu')) (rv 1) (rv 3) (by rfl)) (aA (oR (i:=4) oU.nd rfl rfl (by rfl) rfl (aV (K:=K) (aY jG hr rfl bf (aj (rv 0) (aj (rv 3) ak)))) (fun _ _ _=>lF) (fun _ _ _=>(xQ (eV.or (nH (K:=K) hu')) (rv 2) (rv 0) (by rfl)))) (aD (bB (cH (cV (K:=K)) (bZ (aj dX (aj dX (aj dX ak)))) (dw bI (jN yS rfl T.Gu CG (aj (aZ (k_all (K:=K) rfl) rfl T.Rm O8 (aj (rv 4) ak)) ak)) (dw vd aG (jN yS rfl T.Gu CG (aj (xQ (gF.or (lM (K:=K) hu')) qb (rv 4) (by rfl)) ak)))))))) bO))) (aD (bB dX))))))),?_⟩;have h6:=vw.le;have w6:=vw.w6;obtain⟨pok,cov⟩:=pX (zs:=zs) (w:=w) h6 w6;have lpp:=zF vw;refine aC (fun zzs H1=>aL zs w c=true/\Same H H1/\zzs=[zzR p,some v,zzN,zzN,zzN]) (fun R hR=>?_) ?_
  ·refine⟨_,rfl,_,rfl,p,zs,w,"#",rfl,hS,vw.toRect,fun hl H1 fr=>?_⟩;refine .inr (nP (dv.mono fr.same) fr.ls.den ⟨_,rfl,?_⟩);refine dD (fun h1=>⟨sz rfl,fun l nl=>q1 ?_ l _ (fr.same.and nl) au⟩) (fun h1=>hR _ _ ⟨S5.mp (cI (by simpa only[wN] using h1)),fr.same,rfl⟩);cases z:aL zs w c
   ·rfl
   ·rw[bR (S5.mpr z)] at h1;cases h1
  rintro zzs H1 ⟨hc,s1,rfl⟩;refine aC (fun zzs H2=>∃(pl:Addr)(qs:List Addr),Same H H2/\nC K H1 H2 pl qs (aO zs w)/\zzs=[zzR p,some v,zzR pl,zzN,zzN]) (fun R hR=>?_) ?_
  ·exact⟨_,rfl,p,zs,w,rfl,s1.seq hS,vw,fun pl qs H2 npl s2 ps=>hR _ _ ⟨pl,qs,s1.trans s2,ps,rfl⟩⟩
  rintro zzs H2 ⟨pl,qs,s2,ps,rfl⟩;have D1:=pZ (H0:=H1) (q:=pl) ps.len ps.ls;refine aC (fun zzs H3=>Same H2 H3/\(∀ p∈aO zs w,p.length<=12)/\zzs=[zzR p,some v,zzR pl,zzN,zzN]) (fun R hR=>?_) ?_
  ·refine⟨_,rfl,pl,rfl,⟨_,SqL.of ps.at_⟩,comp_map (K:=K) (xs:=aO zs w) (enc:=vA) (bJ (SqL.of ps.at_)) D1 (small (by lia)) (fun r=>Dt.int (r.length:Int)) (fun r hr' u H3 s3 d G hG=>?_) (fun us H3 s3 D3 q nq=>?_)⟩
   ·obtain⟨a,rfl⟩:∃ a,u=.ref a:=by cases d;exact⟨_,rfl⟩
    refine⟨_,rfl,?_⟩;dsimp only[jF];refine nO d ?_;rw[aR];exact hG _ _ (Same.refl _) (.int _)
   ·have eu:us=((aO zs w).map fun r=>(r.length:Int)).map V.int:=by
     rw[jY];exact Hf D3
    refine⟨q,(aO zs w).map fun r=>(r.length:Int),0,rfl,rfl,SqL.of (by rw[au,eu]),fun m hm=>?_⟩;refine⟨_,_,rfl,rfl,_,rfl,?_⟩;have key:(12<m)↔∃ p∈aO zs w,12<p.length:=by
     rcases hm with⟨h0,rfl⟩|⟨hm,hx⟩
     ·have:aO zs w=[]:=ZC.mp h0;rw[this];exact⟨fun z=>absurd z (by decide),fun⟨_,z,_⟩=>by cases z⟩
     ·obtain⟨r,hr',rfl⟩:=cu.mp hm;constructor
      ·intro z;exact⟨r,hr',by lia⟩
      ·rintro⟨r',h1,h2⟩;have:=hx _ (cu.mpr ⟨r',h1,rfl⟩);lia
    refine dD (fun h1=>⟨sz rfl,fun l nl=>q2 hc (key.mp (cI h1)) l _ (s2.trans ((s3.and nq).and nl)) au⟩) (fun h1=>hR _ _ ⟨s3.and nq,fun r hr'=>Fd fun z=>j6 h1 (key.mpr ⟨r,hr',by lia⟩),rfl⟩)
  rintro zzs H3 ⟨s3,h12,rfl⟩;have ps3:=ps.mono s3;have D3:=D1.mono s3;have sA:=s2.trans s3;have part_of:∀ r∈aO zs w,Part zs w r:=fun r hr'=>by
   obtain⟨y,hy,rfl⟩:=pok.of r hr';exact Part.join h6 w6 hy
  refine aC (fun zzs H4=>¬Ay zs w/\Same H3 H4/\zzs=[zzR p,some v,zzR pl,zzN,zzN]) (fun R hR=>?_) ?_
  ·refine⟨_,rfl,p,zs,w,rfl,sA.seq hS,vw,fun H4 s4=>⟨_,rfl,?_⟩⟩;refine dD (fun h1=>⟨sz rfl,fun l nl=>q3 hc h12 ((uZ vw).mpr (.inl (by simpa only[qm] using h1))) l _ (sA.trans (s4.and nl)) au⟩) (fun h1=>?_);refine⟨_,rfl,pl,rfl,⟨_,SqL.of (s4 _ _ ps3.at_)⟩,pK (R:=iJ K H1) (R2:=fun(r:List Cell) v _=>v=.int ((d9 zs w r).length:Int)) iJ.stays (fun _ _ _ _ _ h=>h) (bJ (SqL.of (s4 _ _ ps3.at_))) (Vb (ps3.mono s4)) (small (by lia)) id (fun r hr' u H5 s5 ru G hG=>?_) (fun us H5 s5 D5 q nq=>?_)⟩
   ·obtain⟨a,rfl,_,la⟩:=ru;refine⟨_,rfl,_,rfl,p,a,zs,w,r,rfl,(sA.trans (s4.trans s5)).seq hS,vw,la,part_of r hr',h12 r hr',fun q qs' H6 nq s6 p6=>?_⟩;dsimp only[jF];refine nO (show Den K H6 (.ref q) (.lst ((d9 zs w r).map vA)) from .lst (SqL.of p6.at_) (pZ (H0:=H5) (q:=q) p6.len p6.ls)) ?_;rw[aR];exact hG _ _ s6 rfl
   ·have eu:us=((aO zs w).map fun r=>((d9 zs w r).length:Int)).map V.int:=by
     have go:∀ {us:List V} {ls:List (List Cell)},fu (fun(r:List Cell) v _=>v=V.int ((d9 zs w r).length:Int)) H5 us ls->us=(ls.map fun r=>((d9 zs w r).length:Int)).map V.int:=by
      intro us ls h
      induction h with
      |nil=>rfl
      |cons h _ ih=>rw[h,ih];rfl
     rw[Ku] at D5;exact go D5
    have lt5:(upd H5 q (.lst us)) q=some (.lst us):=au;have Dn:∀(ls:List Int)(G:Hp),aU K G (ls.map V.int) (ls.map Dt.int):=fun ls G=>by
     induction ls with
     |nil=>exact .nil
     |cons a l ih=>exact .cons (.int a) ih
    refine .inr ⟨.int 0,((aO zs w).map fun r=>((d9 zs w r).length:Int)).map Dt.int,q,rfl,.int 0,.inl (.lst (SqL.of lt5) (by rw[eu];exact Dn _ _)),fun e he=>?_,_,rfl,?_⟩
    ·obtain⟨n,_,rfl⟩:=cu.mp he;exact⟨rfl,by show 0<=50;decide⟩
    ·have key:((((aO zs w).map fun r=>((d9 zs w r).length:Int)).map Dt.int).any fun e=>eqD e (.int 0))=true↔∃ r∈aO zs w,d9 zs w r=[]:=by
      rw[Kc];constructor
      ·rintro⟨e,he,z⟩;obtain⟨n,hn,rfl⟩:=cu.mp he;obtain⟨r,hr',rfl⟩:=cu.mp hn;refine⟨r,hr',Fe.mp ?_⟩;have z':decide (((d9 zs w r).length:Int)=0)=true:=by simpa [eqD,lJ,eqV] using z
       have:=cI z';lia
      ·rintro⟨r,hr',z⟩;refine⟨_,cu.mpr ⟨_,cu.mpr ⟨r,hr',rfl⟩,rfl⟩,?_⟩;rw[z];rfl
     have i1:tL zs w=true:=by simpa only[wN] using h1
     refine dD (fun h2=>⟨sz rfl,fun l nl=>q3 hc h12 ((uZ vw).mpr (.inr (key.mp h2))) l _ (sA.trans (s4.trans ((s5.and nq).and nl))) au⟩) (fun h2=>hR _ _ ⟨fun z=>?_,s4.trans (s5.and nq),rfl⟩);rcases(uZ vw).mp z with y|y
     ·rw[i1] at y;cases y
     ·rw[key.mpr y] at h2;cases h2
  rintro zzs H4 ⟨hno,s4,rfl⟩;have ps4:=ps3.mono s4;have sB:=sA.trans s4;have q4':=q4 hc h12 hno;refine aC (fun zzs H5=>Same H4 H5/\(∀ r∈aO zs w,c∉r)/\∃ v3 v4:Option V,zzs=[zzR p,some v,zzR pl,v3,v4]) (fun R hR=>?_) ?_
  ·refine⟨_,rfl,pl,rfl,⟨_,SqL.of ps4.at_⟩,?_⟩;refine cO (K:=K) (xs:=qs.map V.ref) (fun i zzs H5=>Same H4 H5/\(∀ r∈(aO zs w).take i,c∉r)/\∃ v3 v4:Option V,zzs=[zzR p,some v,zzR pl,v3,v4])
    ⟨Same.refl _,(fun r hr'=>by cases hr'),none,none,rfl⟩ (fun i zzs H5 _ hh=>SqL.of (hh.1 _ _ ps4.at_)) (fun i u zzs H5 hi hh=>?_) (fun zzs H5 hh=>?_)
   ·obtain⟨g1,g2,v3,v4,rfl⟩:=hh;rw[cQ] at hi;obtain⟨a,ea,rfl⟩:=gn.mp hi;have iq:i<qs.length:=(gM.mp ea).1;have ip:i<(aO zs w).length:=by rw[<- ps.len];exact iq
    have ep:(aO zs w)[i]?=some (aO zs w)[i]:=gj ip;generalize (aO zs w)[i]=r at ep;have rm:r∈aO zs w:=fJ ep;have la:=(ps4.ls i a r ea ep).mono g1;refine⟨_,rfl,_,rfl,.inr (vI (dv.mono (sB.trans g1)) la.den ⟨_,rfl,?_⟩)⟩;refine dD (fun h1=>?_) (fun h1=>?_)
    ·have cr:=cI h1;have ne:d9 zs w r≠[]:=fun z=>hno ((uZ vw).mpr (.inr ⟨r,rm,z⟩))
     have ll:=Hw (zs:=zs) (w:=w) (h12 r rm);refine aC (fun zzs H6=>∃ n:Addr,Same H5 H6/\H6 n=some (.lst (((d9 zs w r).map fun l=>decide (c∈l)).map V.bl))/\zzs=[zzR p,some v,zzR pl,zzR a,zzR n]) (fun R' hR'=>?_) ?_
     ·refine⟨_,rfl,_,rfl,p,a,zs,w,r,rfl,(sB.trans g1).seq hS,vw,la,part_of r rm,h12 r rm,fun q qs' H6 nq s6 p6=>⟨q,rfl,⟨_,SqL.of p6.at_⟩,?_⟩⟩;refine comp_map (K:=K) (xs:=d9 zs w r) (enc:=vA) (bJ (SqL.of p6.at_)) (pZ (H0:=H5) (q:=q) p6.len p6.ls) (small (by lia)) (fun l=>Dt.bl (decide (c∈l))) (fun l hl u H7 s7 d G hG=>?_) (fun us H7 s7 D7 n hn=>?_)
      ·obtain⟨a',rfl⟩:∃ a',u=.ref a':=by cases d;exact⟨_,rfl⟩
       exact⟨_,rfl,_,rfl,.inr (vI (dv.mono (sB.trans (g1.trans (s6.trans s7)))) d (hG _ _ (Same.refl _) (.bl _)))⟩
      ·have eb:((d9 zs w r).map fun l=>Dt.bl (decide (c∈l)))=((d9 zs w r).map fun l=>decide (c∈l)).map Dt.bl:=by rw[jY];rfl
       rw[eb] at D7;have ey:=aU.Jo D7;subst ey;exact hR' _ _ ⟨n,s6.trans (s7.and hn),au,rfl⟩
     rintro zzs H6 ⟨n,s6,en,rfl⟩;generalize hbs:(d9 zs w r).map (fun l=>decide (c∈l))=bs at en;refine⟨sz rfl,fun l nl=>?_⟩;have t7:=Same.put (o:=.lst [V.str "open",V.str "stone",V.str "none"]) nl;refine⟨_,rfl,n,bs,rfl,SqL.of (t7 _ _ en),.inr ⟨_,rfl,?_⟩⟩;have Db:∀(ls:List Bool)(G:Hp),aU K G (ls.map V.bl) (ls.map Dt.bl):=fun ls G=>by
      induction ls with
      |nil=>exact .nil
      |cons a l ih=>exact .cons (.bl a) ih
     refine⟨_,rfl,.inr ⟨.bl true,bs.map Dt.bl,n,rfl,.bl true,.inl (.lst (SqL.of (t7 _ _ en)) (Db _ _)),fun e he=>?_,.inr ⟨_,rfl,?_⟩⟩⟩
     ·obtain⟨b,_,rfl⟩:=cu.mp he;exact⟨rfl,by show 0<=50;decide⟩
     have k0:bs.all id=true↔cD zs w c false:=by
      rw[tO,<- hbs,Kq,lX];constructor
      ·intro h;refine .inr ⟨r,rm,cr,Ga.mpr fun l hl z=>?_⟩;have:=h l hl;have y:=cI z;rw[show(id ∘ fun l=>decide (c∈l)) l=decide (c∈l) from rfl,y] at this;cases this
      ·rintro(h|⟨r',hr',cr',e⟩) l hl
       ·exact absurd h hno
       ·have:=DR h6 w6 rm hr' cr cr';subst this;have:=Ga.mp e l hl;show decide (c∈l)=true;cases z:decide (c∈l)
        ·rw[z] at this;exact absurd rfl this
        ·rfl
     have k1:(!((bs.map Dt.bl).any fun e=>eqD e (.bl true)))=true↔cD zs w c true:=by
      rw[tO,<- hbs,qm,jY,List.any_map,QJ];have one:∀ l:List Cell,((fun e=>eqD e (.bl true)) ∘ (Dt.bl ∘ fun l=>decide (c∈l))) l=decide (c∈l):=fun l=>by
       show eqD (.bl (decide (c∈l))) (.bl true)=_;cases decide (c∈l)<;>rfl
      constructor
      ·intro h;refine .inr ⟨r,rm,cr,Ga.mpr fun l hl z=>?_⟩;have:=h l hl;rw[one] at this;exact this (cI z)
      ·rintro(h|⟨r',hr',cr',e⟩) l hl
       ·exact absurd h hno
       ·have:=DR h6 w6 rm hr' cr cr';subst this;have:=Ga.mp e l hl;rw[one];intro z;exact this (bR z)
     have e:=q4' _ (sB.trans (g1.trans (s6.trans t7)));unfold vK at e;have ix:∀ {j:Nat} {z:Str} {Qq:VK},([V.str "open",V.str "stone",V.str "none"]:List V)[j]?=some (.str z)->Qq (.str z) (upd H6 l (.lst [V.str "open",V.str "stone",V.str "none"]))->rIx K (.ref l) (.int (j:Int)) (upd H6 l (.lst [V.str "open",V.str "stone",V.str "none"])) Qq:=fun h q=>.inl ⟨l,_,_,_,rfl,rfl,SqL.of au,fP h,q⟩
     refine⟨.inl ⟨by decide,by decide⟩,?_⟩;show rIx K (.ref l) (.int ((if bs.all id=true then 1 else 0)+2*(if(!((bs.map Dt.bl).any fun e=>eqD e (.bl true)))=true then 1 else 0))) _ _;by_cases n0:cD zs w c false
     ·have n1:¬cD zs w c true:=fun z=>hno ((Cz vw).mp ⟨n0,z⟩)
      rw[aK n0] at e;rw[aK (k0.mpr n0),aH (fun z=>n1 (k1.mp z))];exact ix (j:=1) rfl e
     ·rw[aH n0] at e;rw[aH (fun z=>n0 (k0.mp z))];by_cases n1:cD zs w c true
      ·rw[aK n1] at e;rw[aK (k1.mpr n1)];exact ix (j:=2) rfl e
      ·rw[aH n1] at e;rw[aH (fun z=>n1 (k1.mp z))];exact ix (j:=0) rfl e
    ·have cr:=j6 h1;refine⟨g1,fun r' hr'=>?_,_,_,rfl⟩;rw[iT,ep] at hr';rcases cR.mp hr' with z|z
     ·exact g2 r' z
     ·rw[dB.mp z];exact cr
   ·obtain⟨g1,g2,v3,v4,rfl⟩:=hh;rw[aR,ps.len,gY] at g2;exact hR _ _ ⟨g1,g2,v3,v4,rfl⟩
  rintro zzs H5 ⟨s5,hnp,v3,v4,rfl⟩;have n0:∀ b:Bool,¬cD zs w c b:=fun b z=>by
   rcases(tO b).mp z with y|⟨r,hr',cr,_⟩
   ·exact hno y
   ·exact hnp r hr' cr
  have e:=q4' _ (sB.trans s5);unfold vK at e;rw[aH (n0 false),aH (n0 true)] at e;exact e
end
def T8(K:ao):Sp:=fun vs H Q _=>∃(a:Addr)(ns:List Int),vs=[.ref a]/\SqL K H a (ns.map V.int)/\∀ H',Q (.bl true) H'
theorem SM{K:ao}{H:Hp}{α:Type}{R:α->V->Hp->Prop}(f:∀ a v,R a v H->∃ y,Den K H v (aB y)):∀ {us:List V} {xs:List α},fu R H us xs->∃ ys:List Cell,aU K H us (ys.map aB)
 |_,_,.nil=>⟨[],.nil⟩
 |_,_,.cons h t=>by
  obtain⟨y,hy⟩:=f _ _ h;obtain⟨ys,hs⟩:=SM f t;exact⟨y::ys,.cons hy hs⟩
theorem Nh{H:Hp}:∀ l:List Nat,fu (fun(i:Nat) v _=>v=V.int (i:Int)) H (l.map fun i:Nat=>V.int (i:Int)) l
 |[]=>.nil
 |_::l=>.cons rfl (Nh l)
section
variable{P:Program}{w:World}{K:ao}{mg:Str->Option Value}{base:Heap}{Z:Adr}
open Classical in
theorem a3D{f:Addr}{fd:FuncData} (F:Fun K "law" "law" Y8 f fd) (T:Txt K mg Z) (bG:Df P w K mg base 1 "_law_cell_at" ["script","k"] (zW K)) (bU:Df P w K mg base 1 "_law_mix" ["cell","k","many"] HX) (mZ:Df P w K mg base 5 "_law_rows_by" ["script"] (Nv K))
  (O2:Md P w K mg base 3 "View" ["self","rows"] Z.View (Yr K Z.View Z.BadView)) (cA:Df P w K mg base 1 "_law_sizes" ["rows"] (vh K)) (bN:Df P w K mg base 1 "_law_cells" ["rows","signs"] (rD K))
  (vQ:Df P w K mg base 4 "_law_due" ["rows","cell"] (Ym K)) (qu:Df P w K mg base 9 "_law_met" ["view","cell","way"] (Qf K Z.View)) :
  cY P w K mg base (CXE P w) 10 f fd ["script"] (T8 K):=by
 refine F.rok o9 (fun vs H Q E h=>?_) (fun cdv A outer s H vs Q E hr h=>?_)
 ·obtain⟨a,ns,rfl,_⟩:=h;rfl
 ·obtain⟨a,ns,rfl,hS,hq⟩:=h;have hu:=lK hr;have hu':=xG hr;refine⟨_,(aA (aW (i:=1) o9.nd rfl (Or.inl rfl) (cH (cV (K:=K)) (aY mZ hr rfl bf (aj (rv 0) ak)) aG)) (aA (aW (i:=2) o9.nd rfl (Or.inl rfl) (a4t O2 hr rfl bf (aj (jN (Wm (K:=K)) rfl T.Ip Iu (aj (rv 1) ak)) ak))) (aA (mz (aY cA hr rfl bf (aj (rv 1) ak)) (nQ rfl (cP (bx (i:=3) o9.nd rfl (Or.inl rfl)) (cP (bx (i:=4) o9.nd rfl (Or.inl rfl)) jO)))) (aA (aW (i:=5) o9.nd rfl (Or.inr rfl) (aY bG hr rfl bf (aj (rv 0) (aj aG ak)))) (aA (aW (i:=6) o9.nd rfl (Or.inr rfl) (aY bN hr rfl bf (aj (rv 1) (aj dX ak)))) (aA (oR (i:=7) o9.nd rfl rfl (by rfl) rfl (fX rfl T.gP (aj (aZ (yU rfl) rfl T.KQ Iv (aj aG (aj (aZ (eZ (K:=K)) rfl T.eG cJ (aj (rv 6) ak)) ak))) ak)) (fun _ _ _=>lF) (fun _ _ _=>(cH (cV (K:=K)) (rv 7) (aY bU hr rfl bf (aj (rv 6) (aj (dw bI aG (rv 0)) (aj (aZ (eZ (K:=K)) rfl T.eG cJ (aj (rv 7) ak)) ak))))))) (aA (gb (kh (K:=K) jV lU lV dJ (rv 7) (aj (gk (aj (aY bU hr rfl bf (aj (rv 5) (aj aG (aj (dw bI (rv 3) aG) ak)))) (aj (aY bU hr rfl bf (aj (rv 5) (aj aG (aj (rv 4) ak)))) ak))) ak))) (aA (cL eU rfl (aV (K:=K) (rv 7)) (bx (i:=8) o9.nd rfl (Or.inl rfl)) (aA (aW (i:=9) o9.nd rfl (Or.inl rfl) (aY vQ hr rfl bf (aj (rv 1) (aj (rv 8) ak)))) (aA (dR (bF (Mw.or (M7 (K:=K) hu)) (aY qu hr rfl bf (aj (rv 2) (aj (rv 8) (aj aG ak)))) (rv 9) (cg _)) (aD (bB qb)) bO) (aA (aW (i:=10) o9.nd rfl (Or.inl rfl) (aY qu hr rfl bf (aj (rv 2) (aj (rv 8) (aj aG ak))))) (aA (dR (Ej (Sx (Ej (wA (kZ (aZ (zm (K:=K)) rfl T.iz iV (aj (rv 9) (aj (a69 T.Ip rfl Iu) ak)))) (qT (bF (Mw.or (M7 (K:=K) hu)) (rv 10) (rv 9) (cg _))))) (Jr (Ej (wA (bF ((eV.or (nH (K:=K) hu')).or (a3k (K:=K) hu)) (rv 9) (bZ (aj dX (aj dX ak))) (by rfl)) (qT (bF (Mw.or (M7 (K:=K) hu)) (rv 10) (bZ (aj aG (aj qb ak))) (cg _)))))))) (aD (bB qb)) bO) (aD (dR (Ej (wA (bF ((kE.or (jZ (K:=K) hu)).or (a3j (K:=K) hu)) (rv 9) dX (cg _)) (qT (qX (kZ (aZ (zm (K:=K)) rfl T.iz iV (aj (rv 10) (aj (a69 T.Ro rfl Vy) ak)))))))) (aD (bB qb)) bO))))))) (aD (bB (xQ (kE.or (jZ (K:=K) hu)) (qO (K:=K) (rv 2)) (rv 1) (cg _)))))))))))),?_⟩;refine aC (fun zzs H1=>∃(p:Addr)(zs:List Str)(w:Nat),Same H H1/\H1 p=some (.lst (zs.map V.str))/\Vw zs w/\zzs=[zzR a,zzR p,zzN,zzN,zzN,zzN,zzN,zzN,zzN,zzN,zzN]) (fun R hR=>?_) ?_
  ·exact⟨_,rfl,a,ns,rfl,hS,fun t p zs w n H1 s1 ht hp vw _=>.inr (.inl ⟨t,_,_,_,rfl,rfl,ht,eF,hR _ _ ⟨p,zs,w,s1,hp,vw,rfl⟩⟩)⟩
  rintro zzs H1 ⟨p,zs,w,s1,hp,vw,rfl⟩;refine aC (fun zzs H2=>∃(x:Addr),Same H1 H2/\gA Z.View H2 x zs w/\zzs=[zzR a,zzR p,zzR x,zzN,zzN,zzN,zzN,zzN,zzN,zzN,zzN]) (fun R hR=>?_) ?_
  ·refine⟨_,rfl,p,_,rfl,.inl (SqL.of hp),fun l hl=>?_⟩;intro x dx nx ndx nex;have n2:(upd (upd H1 l (.lst (zs.map V.str))) dx (.own x)) x=none:=by rw[bD nex.symm];exact nx
   have s6:Same (upd H1 l (.lst (zs.map V.str))) (upd (upd (upd H1 l (.lst (zs.map V.str))) dx (.own x)) x (.ins Z.View dx [])):=(Same.put ndx).and n2;have z6:=vw.le;have w6:=vw.w6;refine⟨x,dx,l,zs,rfl,au,SqL.of (s6 _ _ au),by lia,fun r hr'=>by have:=vw.len r hr';lia,fun hv=>(by rw[vw.ok] at hv;cases hv),fun _ H' lr z0' zt' e nlr nlx hlr hx' keep=>⟨rfl,?_⟩⟩;have e0:z0'.length=w:=vw.len z0' (by rw[e];exact dY);have n1:H1 x=none:=by
    have:(upd H1 l (.lst (zs.map V.str))) x=none:=nx;by_cases hx:x=l
    ·subst hx;rw[au] at this;cases this
    ·rwa[bD hx] at this
   refine hR _ _ ⟨x,fun b o hb=>keep b o (s6 _ _ ((Same.put hl) _ _ hb)) (bV hb n1),⟨⟨dx,lr,?_,hlr⟩,vw⟩,rfl⟩;rw[<- e0];exact hx'
  rintro zzs H2 ⟨x,s2,vt,rfl⟩;have hp2:=s2 _ _ hp;refine aC (fun zzs H3=>Same H2 H3/\zzs=[zzR a,zzR p,zzR x,zzI zs.length,zzI w,zzN,zzN,zzN,zzN,zzN,zzN]) (fun R hR=>?_) ?_
  ·exact⟨_,rfl,p,zs,w,rfl,SqL.of hp2,vw.toRect,fun t H' s' hT=>⟨t,_,rfl,hT,rfl,_,_,rfl,_,_,rfl,rfl,hR _ _ ⟨s',rfl⟩⟩⟩
  rintro zzs H3 ⟨s3,rfl⟩;have sC:=s1.trans (s2.trans s3);have hp3:=s3 _ _ hp2;have vt3:=vt.mono s3;refine aC (fun zzs H4=>∃ c:Int,H3=H4/\zzs=[zzR a,zzR p,zzR x,zzI zs.length,zzI w,zzI c,zzN,zzN,zzN,zzN,zzN]) (fun R hR=>?_) ?_
  ·exact⟨_,rfl,a,ns,19,rfl,by decide,sC.seq hS,fun r=>hR _ _ ⟨r,rfl,rfl⟩⟩
  rintro zzs H4 ⟨c,rfl,rfl⟩;refine aC (fun zzs H4=>∃(q:Addr),Same H3 H4/\Ls K H4 q ((bH zs w "#").map aB)/\zzs=[zzR a,zzR p,zzR x,zzI zs.length,zzI w,zzI c,zzR q,zzN,zzN,zzN,zzN]) (fun R hR=>?_) ?_
  ·exact⟨_,rfl,p,zs,w,"#",rfl,SqL.of hp3,vw.toRect,fun q H4 fr=>hR _ _ ⟨q,fr.same,fr.ls,rfl⟩⟩
  rintro zzs H4 ⟨q,s4,lq,rfl⟩;have lc:(bH zs w "#").length<=36:=by rw[<- jf];exact gC vw
  refine aC (fun zzs H5=>∃(sm:Addr)(us:List V)(ys:List Cell),H4 sm=none/\Same H4 H5/\H5 sm=some (.lst us)/\aU K H5 us (ys.map aB)/\us.length<=3/\zzs=[zzR a,zzR p,zzR x,zzI zs.length,zzI w,zzI c,zzR q,zzR sm,zzN,zzN,zzN]) (fun R hR=>?_) ?_
  ·obtain⟨xs,ex,Dx⟩:=lq;have lx:xs.length=(bH zs w "#").length:=by rw[Dx.length,aR]
   obtain⟨n,en,n3,nx⟩:∃ n:Nat,(if((xs.length:Nat):Int)<3 then((xs.length:Nat):Int) else 3)=(n:Int)/\n<=3/\n<=xs.length:=by
    by_cases h:((xs.length:Nat):Int)<3
    ·exact⟨xs.length,aK h,by lia,bK _⟩
    ·exact⟨3,aH h,by lia,by lia⟩
   refine⟨_,rfl,.inl ⟨q,_,rfl,.inl (SqL.of ex),3,_,rfl,?_⟩⟩;rw[en];refine⟨n,rfl,by lia,by lia,?_⟩;rw[jq];refine pK (R:=fun(i:Nat) v _=>v=V.int (i:Int)) (R2:=fun(_:Nat) v H=>∃ y,Den K H v (aB y)) (xs:=List.range n) (fun _ _ _ _ _ h=>h) (fun _ _ _ _ s h=>by obtain⟨y,h⟩:=h;exact⟨y,h.mono s⟩) (tQ n) (Nh _) (by rw[jX];exact small (by lia)) id (fun i hi u H5 s5 ru G hG=>?_) (fun us H5 s5 D5 r nr=>?_)
   ·subst ru;have i1:=fK.mp hi;refine⟨_,rfl,_,rfl,_,rfl,_,rfl,.inl ⟨q,_,rfl,.inl (SqL.of (s5 _ _ ex)),c,_,(xs.length:Int),rfl,by lia,fun r H6 r0 r1 t6=>?_⟩⟩;obtain⟨u,hu',e⟩:=sX (xs:=xs) (i:=r) r0 r1;obtain⟨y,_,dy⟩:=W0 Dx hu';exact .inl ⟨q,_,_,_,rfl,rfl,SqL.of ((s5.trans t6) _ _ ex),e,hG _ _ t6 ⟨y,dy.mono (s5.trans t6)⟩⟩
   ·have l5:us.length=n:=by rw[D5.length,aR,jX]
    obtain⟨ys,Dy⟩:=SM (fun _ _ h=>h) D5;exact hR _ _ ⟨r,us,ys,s5.free nr,s5.and nr,au,Dy.mono (Same.put nr),by lia,rfl⟩
  rintro zzs H5 ⟨sm,us,ys,nsm,s5,es5,D5,l5,rfl⟩;refine aC (fun zzs H6=>∃(us:List V)(ys:List Cell),Same H4 H6/\H6 sm=some (.lst us)/\aU K H6 us (ys.map aB)/\us.length<=4/\1<=us.length/\zzs=[zzR a,zzR p,zzR x,zzI zs.length,zzI w,zzI c,zzR q,zzR sm,zzN,zzN,zzN]) (fun R hR=>?_) ?_
  ·have h0:=vw.ne;have w0:=vw.w1;refine⟨_,rfl,.inl ⟨rfl,_,SqL.of es5⟩,_,rfl,_,rfl,c,1,(zs.length:Int)+1,rfl,by lia,fun r1 G1 a1 b1 t1=>?_⟩;refine⟨_,rfl,_,rfl,c,2,(w:Int),rfl,by lia,fun r2 G2 a2 b2 t2=>⟨sz rfl,fun t nt=>?_⟩⟩;have t3:=Same.put (o:=.tup [V.int r1,V.int r2]) nt;have tA:=t1.trans (t2.trans t3);dsimp only[jF];refine jC (K:=K) (tA _ _ es5) (by lia) ?_;refine hR _ _ ⟨us++[.ref t],ys++[(r1,r2)],(SameBut.refl sm _).put.of (s5.trans tA) nsm,au,?_,by rw[c7,jm];lia,by rw[c7,jm];lia,rfl⟩;rw[dM];exact((SameBut.refl sm _).put.cells (tA _ _ es5) (D5.mono tA)).append (.cons ((SameBut.refl sm _).put.cell (tA _ _ es5) iK) .nil)
  clear es5 D5 l5 s5 us ys;rintro zzs H6 ⟨us,ys,s6,es,Ds,l4,l1,rfl⟩;have vt6:=vt3.mono (s4.trans s6);have hp6:=(s4.trans s6) _ _ hp3;refine aC (fun zzs H8=>∃ v8 v9 v10:Option V,Same H6 H8/\zzs=[zzR a,zzR p,zzR x,zzI zs.length,zzI w,zzI c,zzR q,zzR sm,v8,v9,v10]) (fun R hR=>?_) ?_
  ·refine⟨_,rfl,sm,rfl,⟨_,SqL.of es⟩,?_⟩;refine cO (K:=K) (xs:=us) (fun i zzs H8=>∃ v8 v9 v10:Option V,Same H6 H8/\zzs=[zzR a,zzR p,zzR x,zzI zs.length,zzI w,zzI c,zzR q,zzR sm,v8,v9,v10])
    ⟨none,none,none,Same.refl _,rfl⟩ (fun i zzs H8 _ hh=>by obtain⟨_,_,_,g,_⟩:=hh;exact SqL.of (g _ _ es)) (fun i u zzs H8 hi hh=>?_) (fun zzs H8 hh=>hR _ _ hh)
   obtain⟨v8,v9,v10,s8,rfl⟩:=hh;obtain⟨d,ed,du⟩:=Ds.get hi;rw[cQ] at ed;obtain⟨y,ey,rfl⟩:=gn.mp ed;have dy:=du.mono s8;have big:(∃ p∈aO zs w,12<p.length)->(∀ p∈aO zs w,p.length<=12)->False:=fun h z=>by obtain⟨r,hr',h⟩:=h;exact FW.mpr (z r hr') h
   refine aC (fun zzs H9=>∃ dv:V,Same H8 H9/\((∃(t:Addr)(k:Int),dv=.ref t/\H9 t=some (.lst [.int k,.bl true])/\(aL zs w y=false->k=1)/\(aL zs w y=true->(∃ p∈aO zs w,12<p.length)->k=2)/\(aL zs w y=true->(∀ p∈aO zs w,p.length<=12)->k=3/\Ay zs w))\/(dv=.str (vK zs w y)/\aL zs w y=true/\(∀ p∈aO zs w,p.length<=12)/\¬Ay zs w)) /\
    zzs=[zzR a,zzR p,zzR x,zzI zs.length,zzI w,zzI c,zzR q,zzR sm,some u,some dv,v10]) (fun R' hR'=>?_) ?_
   ·refine⟨_,rfl,_,rfl,p,u,zs,w,y,rfl,SqL.of (s8 _ _ hp6),vw,dy,fun hc t H9 s9 e9=>?_,fun hc hl t H9 s9 e9=>?_,fun hc hl hn t H9 s9 e9=>?_,fun hc hl hn H9 s9=>?_⟩
    ·exact hR' _ _ ⟨_,s9,.inl ⟨t,1,rfl,e9,fun _=>rfl,fun z=>Bool.noConfusion (z.symm.trans hc),fun z=>Bool.noConfusion (z.symm.trans hc)⟩,rfl⟩
    ·exact hR' _ _ ⟨_,s9,.inl ⟨t,2,rfl,e9,fun z=>Bool.noConfusion (hc.symm.trans z),fun _ _=>rfl,fun _ z=>(big hl z).elim⟩,rfl⟩
    ·exact hR' _ _ ⟨_,s9,.inl ⟨t,3,rfl,e9,fun z=>Bool.noConfusion (hc.symm.trans z),fun _ z=>(big z hl).elim,fun _ _=>⟨rfl,hn⟩⟩,rfl⟩
    ·exact hR' _ _ ⟨_,s9,.inr ⟨rfl,hc,hl,hn⟩,rfl⟩
   rintro zzs H9 ⟨dv,s9,a6I,rfl⟩;have a5e:∀ {G:Hp} {r:Addr} {j:Int},G r=some (.lst [.int j,.bl true])->Den K G (.ref r) (.lst [.int j,.bl true]):=fun e=>.lst (SqL.of e) (.cons (.int _) (.cons (.bl true) .nil))
   have Y9:∀ {G:Hp} {j:Int} {t l:Addr} {Qq:VK},G t=some (.lst [.int j,.bl true])->G l=some (.lst [.int j,.bl true])->Qq (.bl false) G->Vd K true (.ref t) (.ref l) G Qq:=fun {G j t l Qq} e1 e2 q=>by
    refine⟨_,_,rfl,a5e e1,a5e e2,Er _,(by show max 0 (max 0 0)+1<=50;decide),?_⟩;show Qq (.bl (!eqD _ _)) _;rw[tH];exact q
   rcases a6I with⟨t,k,rfl,e9,k1,k2,k3⟩|⟨rfl,hc,hl,hn⟩
   ·
    have met:∀(j:Int){G:Hp}{Q:VK},Same H8 G->(∀(t':Addr)(G':Hp),Same G G'->G' t'=some (.lst [.int k,.bl true])->Q (.ref t') G')->Qf K Z.View [.ref x,u,.int j] G Q E0:=fun j G Q g q=>by
     have non:aL zs w y=true->(∀ p∈aO zs w,p.length<=12)->cD zs w y false/\cD zs w y true:=fun hc hl=>(Cz vw).mpr (k3 hc hl).2
     exact⟨x,u,j,zs,w,y,rfl,vt6.mono (s8.trans g),dy.mono g,fun hc t' G' s' e'=>q t' G' s' (k1 hc▸e'),fun hc hl t' G' s' e'=>q t' G' s' (k2 hc hl▸e'),fun hc hl n0 n1 t' G' s' e'=>q t' G' s' ((k3 hc hl).1▸e'),fun _ hc hl hno=>absurd (non hc hl) hno,fun _ hc hl hno=>absurd (non hc hl) hno,fun _ hc hl h0=>absurd (non hc hl).1 h0⟩
    refine aC (fun zzs H10=>Same H9 H10/\zzs=[zzR a,zzR p,zzR x,zzI zs.length,zzI w,zzI c,zzR q,zzR sm,some u,zzR t,v10]) (fun R' hR'=>?_) ?_
    ·refine⟨_,rfl,_,rfl,?_⟩;dsimp only[uh,tC,jF,Kd,Ke];refine met 0 s9 fun t1 H10 s10 e10=>⟨_,rfl,.inr (Y9 e10 (s10 _ _ e9) ⟨_,rfl,qN (hR' _ _ ⟨s10,rfl⟩)⟩)⟩
    rintro zzs H10 ⟨s10,rfl⟩;refine aC (fun zzs H11=>∃ t2:Addr,Same H9 H11/\H11 t2=some (.lst [.int k,.bl true])/\zzs=[zzR a,zzR p,zzR x,zzI zs.length,zzI w,zzI c,zzR q,zzR sm,some u,zzR t,zzR t2]) (fun R' hR'=>?_) ?_
    ·refine⟨_,rfl,_,rfl,?_⟩;dsimp only[uh,tC,jF,Kd,Ke];refine met 1 (s9.trans s10) fun t1 H11 s11 e11=>hR' _ _ ⟨t1,s10.trans s11,e11,rfl⟩
    rintro zzs H11 ⟨t2,s11,e11,rfl⟩;have a0f:=s11 _ _ e9;refine aC (fun zzs H12=>Same H11 H12/\zzs=[zzR a,zzR p,zzR x,zzI zs.length,zzI w,zzI c,zzR q,zzR sm,some u,zzR t,zzR t2]) (fun R' hR'=>?_) ?_
    ·refine⟨_,rfl,.inr ⟨_,_,_,rfl,rfl,t,_,true,rfl,.inr ⟨SqL.of a0f,T.a1w⟩,_,rfl,zj ?_⟩⟩;refine⟨_,rfl,_,rfl,.inr (Y9 e11 a0f ⟨_,rfl,qN ?_⟩)⟩;refine⟨_,rfl,sz rfl,fun l nl=>.inr ⟨t,l,_,["stone","none"],rfl,SqL.of ((Same.put nl) _ _ a0f),rfl,SqL.of au,_,rfl,qN (hR' _ _ ⟨Same.put nl,rfl⟩)⟩⟩
    rintro zzs H12 ⟨s12,rfl⟩;refine⟨_,rfl,.inr ⟨t,_,_,rfl,SqL.of (s12 _ _ a0f),rfl,_,rfl,qN ⟨_,_,_,s8.trans (s9.trans (s11.trans s12)),rfl⟩⟩⟩
   ·have hno:¬(cD zs w y false/\cD zs w y true):=fun z=>hn ((Cz vw).mp z)
    replace big:=fun h=>big h hl
    have opn:aL zs w y=false->False:=fun z=>by rw[hc] at z;cases z
    generalize hz:vK zs w y=z at *;refine aC (fun zzs H10=>Same H9 H10/\zzs=[zzR a,zzR p,zzR x,zzI zs.length,zzI w,zzI c,zzR q,zzR sm,some u,some (.str z),v10]) (fun R' hR'=>?_) ?_
    ·refine⟨_,rfl,_,rfl,x,u,0,zs,w,y,rfl,vt6.mono (s8.trans s9),dy.mono s9,fun h=>(opn h).elim,fun _ h=>(big h).elim,fun _ _ n0 n1=>(hno ⟨n0,n1⟩).elim,fun _ _ _ _ H10 s10=>?_,fun h=>(h rfl).elim,fun h=>(h rfl).elim⟩;rw[hz];refine⟨_,rfl,.inl ⟨rfl,_,rfl,?_⟩⟩;rw[bR rfl];exact qN (hR' _ _ ⟨s10,rfl⟩)
    rintro zzs H10 ⟨s10,rfl⟩;have sA:=s8.trans (s9.trans s10);refine aC (fun zzs H11=>∃ t2:Addr,Same H10 H11/\((z = "open" /\ ∃ q0 q1:Addr,H11 t2=some (.tup [.ref q0,.ref q1]))\/((z = "stone" \/ z = "none")/\H11 t2=some (.lst [.int 4,.bl true])))/\zzs=[zzR a,zzR p,zzR x,zzI zs.length,zzI w,zzI c,zzR q,zzR sm,some u,some (.str z),zzR t2]) (fun R' hR'=>?_) ?_
    ·refine⟨_,rfl,_,rfl,x,u,1,zs,w,y,rfl,vt6.mono sA,dy.mono (s9.trans s10),fun h=>(opn h).elim,fun _ h=>(big h).elim,fun _ _ n0 n1=>(hno ⟨n0,n1⟩).elim,fun h=>absurd h (by decide),fun _ _ _ _ hor t' H11 s11 e11=>hR' _ _ ⟨t',s11,.inr ⟨?_,e11⟩,rfl⟩,fun _ _ _ h0 h1 t' q0 q1 H11 s11 e11=>hR' _ _ ⟨t',s11,.inl ⟨?_,q0,q1,e11⟩,rfl⟩⟩
     ·rw[<- hz];unfold vK;by_cases n0:cD zs w y false
      ·rw[aK n0];exact .inl rfl
      ·rw[aH n0,aK (hor.resolve_left n0)];exact .inr rfl
     ·rw[<- hz];unfold vK;rw[aH h0,aH h1]
    rintro zzs H11 ⟨t2,s11,hf,rfl⟩;have Dz:Den K H11 (.str z) (.str z):=.str z;refine aC (fun zzs H12=>Same H11 H12/\zzs=[zzR a,zzR p,zzR x,zzI zs.length,zzI w,zzI c,zzR q,zzR sm,some u,some (.str z),zzR t2]) (fun R' hR'=>?_) ?_
    ·refine⟨_,rfl,.inl ⟨_,_,_,rfl,rfl,.inl ⟨_,_,.str z,T.a1x,_,rfl,qN ?_⟩⟩⟩;refine⟨_,rfl,sz rfl,fun l nl=>.inl (.inr ⟨.str z,[.str "stone",.str "none"],l,rfl,.str z,.inl (.lst (SqL.of au) (.cons (.str _) (.cons (.str _) .nil))),fun e he=>?_,_,rfl,?_⟩)⟩
     ·rcases cW.mp he with rfl|he
      ·exact⟨rfl,by show 0<=50;decide⟩
      ·rw[dB.mp he];exact⟨rfl,by show 0<=50;decide⟩
     ·have sl:=Same.put (o:=.lst [V.str "stone",V.str "none"]) nl;have a5x:∀ {G:Hp},Same H11 G->H11 t2=some (.lst [.int 4,.bl true])->∀ {Qq:VK},(∀ l2,G l2=none->Qq (.bl false) (upd G l2 (.lst [.int 4,.bl true])))->∀ l2,G l2=none->Vd K true (.ref t2) (.ref l2) (upd G l2 (.lst [.int 4,.bl true])) Qq:=fun g e Qq q l2 n2=>Y9 ((g.and n2) _ _ e) au (q l2 n2)
      rcases hf with⟨rfl,_⟩|⟨rfl|rfl,e4⟩
      ·exact qN (hR' _ _ ⟨sl,rfl⟩)
      ·exact zj ⟨_,rfl,sz rfl,fun l2 n2=>.inr (a5x sl e4 (fun l2 n2=>⟨_,rfl,qN (hR' _ _ ⟨sl.and n2,rfl⟩)⟩) l2 n2)⟩
      ·exact zj ⟨_,rfl,sz rfl,fun l2 n2=>.inr (a5x sl e4 (fun l2 n2=>⟨_,rfl,qN (hR' _ _ ⟨sl.and n2,rfl⟩)⟩) l2 n2)⟩
    rintro zzs H12 ⟨s12,rfl⟩;have nxt:Same H6 H12:=sA.trans (s11.trans s12);refine⟨_,rfl,.inl (.inl ⟨rfl,_,rfl,?_⟩)⟩;rcases hf with⟨rfl,q0,q1,e2⟩|⟨rfl|rfl,e4⟩
    ·exact zj ⟨_,rfl,.inr ⟨_,_,_,rfl,rfl,t2,_,true,rfl,.inl ⟨SqT.of (s12 _ _ e2),T.a1z⟩,_,rfl,qN ⟨_,_,_,nxt,rfl⟩⟩⟩
    ·exact qN ⟨_,_,_,nxt,rfl⟩
    ·exact qN ⟨_,_,_,nxt,rfl⟩
  rintro zzs H8 ⟨v8,v9,v10,s8,rfl⟩;obtain⟨dx,l,hx,hl⟩:=(vt6.mono s8).ob;refine⟨_,rfl,x,Z.View,dx,_,_,rfl,hx,T.iB,T.jc,Ov _ _ _,_,rfl,.inr ⟨_,_,rfl,Rx hl,Rx (s8 _ _ hp6),Er _,a0c zs,?_⟩⟩;show Q (.bl (eqD _ _)) _;rw[tH];exact hq _
end
def sI(x q:Str)(st:Stmt)(ps:List Str):Prop:=∀(kV doc pm:Value)(an:Option Addr)(cdv ct:Value)(us:List Value),us.length=ps.length->bindArgs (PySem.W.fnOf x q (jt st) (gQ st) (aJ st) .none kV doc pm an cdv ct) ⟨us,[]⟩=pure (ps.zip us)
theorem wj{us:List Value}{n:Nat}(h:us.length=n+1):∃ u us',us=u::us'/\us'.length=n:=by
 cases us with
 |nil=>cases h
 |cons u t=>exact⟨u,t,rfl,Nat.succ.inj h⟩
theorem bind1{x q:Str}{st:Stmt}{p0:Str}(h:∀(kV doc pm:Value) (an:Option Addr) (cdv ct u0:Value),bindArgs (PySem.W.fnOf x q (jt st) (gQ st) (aJ st) .none kV doc pm an cdv ct) ⟨[u0],[]⟩=pure [(p0,u0)]):sI x q st [p0]:=fun kV doc pm an cdv ct us hl=>by
 obtain⟨u0,t0,rfl,g0⟩:=wj (n:=0) hl;cases t0 with
 |nil=>exact h kV doc pm an cdv ct u0
 |cons _ _=>cases g0
theorem j9{x q:Str}{st:Stmt}{p0 p1:Str}(h:∀(kV doc pm:Value) (an:Option Addr) (cdv ct u0 u1:Value),bindArgs (PySem.W.fnOf x q (jt st) (gQ st) (aJ st) .none kV doc pm an cdv ct) ⟨[u0,u1],[]⟩=pure [(p0,u0),(p1,u1)]):sI x q st [p0,p1]:=fun kV doc pm an cdv ct us hl=>by
 obtain⟨u0,t0,rfl,g0⟩:=wj (n:=1) hl;obtain⟨u1,t1,rfl,g1⟩:=wj (n:=0) g0;cases t1 with
 |nil=>exact h kV doc pm an cdv ct u0 u1
 |cons _ _=>cases g1
theorem KY{x q:Str}{st:Stmt}{p0 p1 p2:Str}(h:∀(kV doc pm:Value) (an:Option Addr) (cdv ct u0 u1 u2:Value),bindArgs (PySem.W.fnOf x q (jt st) (gQ st) (aJ st) .none kV doc pm an cdv ct) ⟨[u0,u1,u2],[]⟩=pure [(p0,u0),(p1,u1),(p2,u2)]):sI x q st [p0,p1,p2]:=fun kV doc pm an cdv ct us hl=>by
 obtain⟨u0,t0,rfl,g0⟩:=wj (n:=2) hl;obtain⟨u1,t1,rfl,g1⟩:=wj (n:=1) g0;obtain⟨u2,t2,rfl,g2⟩:=wj (n:=0) g1;cases t2 with
 |nil=>exact h kV doc pm an cdv ct u0 u1 u2
 |cons _ _=>cases g2
theorem a2c{x q:Str}{st:Stmt}{p0 p1 p2 p3:Str}(h:∀(kV doc pm:Value) (an:Option Addr) (cdv ct u0 u1 u2 u3:Value),bindArgs (PySem.W.fnOf x q (jt st) (gQ st) (aJ st) .none kV doc pm an cdv ct) ⟨[u0,u1,u2,u3],[]⟩=pure [(p0,u0),(p1,u1),(p2,u2),(p3,u3)]):sI x q st [p0,p1,p2,p3]:=fun kV doc pm an cdv ct us hl=>by
 obtain⟨u0,t0,rfl,g0⟩:=wj (n:=3) hl;obtain⟨u1,t1,rfl,g1⟩:=wj (n:=2) g0;obtain⟨u2,t2,rfl,g2⟩:=wj (n:=1) g1;obtain⟨u3,t3,rfl,g3⟩:=wj (n:=0) g2;cases t3 with
 |nil=>exact h kV doc pm an cdv ct u0 u1 u2 u3
 |cons _ _=>cases g3
theorem a4Y{x q:Str}{st:Stmt}{p0 p1 p2 p3 p4:Str}(h:∀(kV doc pm:Value) (an:Option Addr) (cdv ct u0 u1 u2 u3 u4:Value),bindArgs (PySem.W.fnOf x q (jt st) (gQ st) (aJ st) .none kV doc pm an cdv ct) ⟨[u0,u1,u2,u3,u4],[]⟩=pure [(p0,u0),(p1,u1),(p2,u2),(p3,u3),(p4,u4)]):sI x q st [p0,p1,p2,p3,p4]:=fun kV doc pm an cdv ct us hl=>by
 obtain⟨u0,t0,rfl,g0⟩:=wj (n:=4) hl;obtain⟨u1,t1,rfl,g1⟩:=wj (n:=3) g0;obtain⟨u2,t2,rfl,g2⟩:=wj (n:=2) g1;obtain⟨u3,t3,rfl,g3⟩:=wj (n:=1) g2;obtain⟨u4,t4,rfl,g4⟩:=wj (n:=0) g3;cases t4 with
 |nil=>exact h kV doc pm an cdv ct u0 u1 u2 u3 u4
 |cons _ _=>cases g4
section
variable{P:Program}{w:World}{K:ao}{mg:Str->Option Value}{base h:Heap}
def cM(K:ao)(x:Str)(st:Stmt):Prop:=∃ f,PySem.W.nsIn K mainGlobals x=some (some (.ref f))/\∃ fd,Fun K x x st f fd
def O4(K:ao)(C:Addr)(m q:Str)(st:Stmt):Prop:=∃ f,(PySem.W.findIn K (.ref C) m=some (some (.ref f))/\PySem.W.isFn K (.ref f)=true)/\∃ fd,Fun K m q st f fd
section
variable{x q:Str}{st:Stmt}{f C:Addr}{oc:Value}{od an:Option Addr}{osl:Array (Option Value)}{kV doc pm cdv ct:Value}
theorem a5d(a:PySem.W.nsIn K mainGlobals x=some (some (.ref f)))(l:K.lookup f=some ⟨oc,od,.func (PySem.W.fnOf x x (jt st) (gQ st) (aJ st) .none kV doc pm an cdv ct),osl⟩)(c:PySem.W.codeIn K cdv x=true)(k:PySem.W.keepIn K (.ref f)=true):cM K x st:=⟨f,a,_,Wb l c k⟩
theorem a3w(a:PySem.W.findIn K (.ref C) x=some (some (.ref f)))(i:PySem.W.isFn K (.ref f)=true)(l:K.lookup f=some ⟨oc,od,.func (PySem.W.fnOf x q (jt st) (gQ st) (aJ st) .none kV doc pm an cdv ct),osl⟩)(c:PySem.W.codeIn K cdv q=true)(k:PySem.W.keepIn K (.ref f)=true):O4 K C x q st:=⟨f,⟨a,i⟩,_,Wb l c k⟩
end
theorem a6o{x:Str}{v:Int}{t:Tok}(h:PySem.W.nsIn K mainGlobals x=some (some (.int v t))):∃ t,PySem.W.nsIn K mainGlobals x=some (some (.int v t)):=⟨t,h⟩
theorem a7b{x v:Str}{t:Tok}(h:PySem.W.nsIn K mainGlobals x=some (some (.str v t))):∃ t,PySem.W.nsIn K mainGlobals x=some (some (.str v t)):=⟨t,h⟩
theorem a5f(X:K.In h)(G:h.Ns mainGlobals mg){x:Str}{st:Stmt}{k:Nat}{ps:List Str}{sp:Sp}(d:cM K x st)(hb:sI x x st ps)(ok:∀ f fd,Fun K x x st f fd->cY P w K mg base (CXE P w) k f fd ps sp):Df P w K mg base k x ps sp:=by
 obtain⟨f,a,fd,F⟩:=d;exact⟨⟨f,fd,ok f fd F,oJ X G a,F.kp,F.binds hb⟩⟩
theorem a3r(X:K.In h)(G:h.Ns mainGlobals mg){fa:Addr}{st:Stmt}{k:Nat}{sp:Sp} (hfa:mg "law" = some (.ref fa)) (d:cM K "law" st) (hb:sI "law" "law" st ["script"]) (ok:∀ base f fd,Fun K "law" "law" st f fd->cY P w K mg base (CXE P w) k f fd ["script"] sp) :
  ∃ fd:FuncData,(∀(s:Shared)(v:Value),BindsTo s fd ⟨[v],[]⟩ [("script",v)])/\∀ base:Heap,K.In base->base.Ns mainGlobals mg->cY P w K mg base (CXE P w) k fa fd ["script"] sp:=by
 obtain⟨f,a,fd,F⟩:=d;have e:=hfa.symm.trans (oJ X G a);cases e;refine⟨fd,fun s v=>?_,fun base _ _=>ok base _ _ F⟩;obtain⟨oc,od,kV,doc,pm,an,cdv,ct,osl,rfl,lk,hcd⟩:=F.ex;exact .of_eq (hb kV doc pm an cdv ct [v] rfl)
theorem a5y(X:K.In h)(G:h.Ns mainGlobals mg){x q:Str}{st:Stmt}{C:Addr}{k:Nat}{ps:List Str}{sp:Sp}(a:PySem.W.nsIn K mainGlobals x=some (some (.ref C)))(mk:PySem.W.makesIn K C=true)(kc:PySem.W.keepIn K (.ref C)=true) (m:O4 K C "__init__" q st) (hb:sI "__init__" q st ps) (ok:∀ f fd,Fun K "__init__" q st f fd->cY P w K mg base (CXE P w) k f fd ps sp):Md P w K mg base k x ps C sp:=by
 obtain⟨f,⟨b,i⟩,fd,F⟩:=m;exact⟨⟨f,fd,⟨mk,b,i,kc⟩,ok f fd F,oJ X G a,F.binds hb⟩⟩
end
theorem all_mk{l:PySem.W.OpenLaw}{w:World}{K:ao}{h:Heap}{mg:Str->Option Value}{fa:Addr}(X:K.In h)(G:h.Ns mainGlobals mg) (hfa:mg "law" = some (.ref fa))
  {iw:Addr}
  {yN:Addr}
  {nD:Addr}
  {jw:Addr}
  {iy:Addr}
  {kW:Addr}
  {qC:Addr}
  (qD:PySem.W.nsIn K mainGlobals "FieldError" = some (some (.ref iw)))
  (yO:PySem.W.nsIn K mainGlobals "BadView" = some (some (.ref yN)))
  (Cq:PySem.W.nsIn K mainGlobals "NoCell" = some (some (.ref nD)))
  (vW:PySem.W.nsIn K mainGlobals "TooGreat" = some (some (.ref jw)))
  (qF:PySem.W.nsIn K mainGlobals "Impossible" = some (some (.ref iy)))
  (yP:PySem.W.nsIn K mainGlobals "NotOpen" = some (some (.ref kW)))
  (Ik:PySem.W.nsIn K mainGlobals "View" = some (some (.ref qC)))
  (rF:PySem.W.excIn K iw [.type "ValueError",.type "Exception",.type "BaseException",.type "object"] "ValueError.__new__" = true)
  (vo:PySem.W.excIn K yN [.type "ValueError",.type "Exception",.type "BaseException",.type "object"] "ValueError.__new__" = true)
  (oA:PySem.W.excIn K nD [.type "ValueError",.type "Exception",.type "BaseException",.type "object"] "ValueError.__new__" = true)
  (lC:PySem.W.excIn K jw [.type "ValueError",.type "Exception",.type "BaseException",.type "object"] "ValueError.__new__" = true)
  (iH:PySem.W.excIn K iy [.type "ValueError",.type "Exception",.type "BaseException",.type "object"] "ValueError.__new__" = true)
  (jD:PySem.W.excIn K kW [.type "ValueError",.type "Exception",.type "BaseException",.type "object"] "ValueError.__new__" = true)
  (BK:O4 K qC "__init__" "View.__init__" mD)
  (iB:Cls K qC)
  (a0z:PySem.W.makesIn K qC=true)
  (a0s:PySem.W.keepIn K (.ref qC)=true)
  (jc:PySem.W.findIn K (.ref qC) "rows" = some none)
  (gH:PySem.W.findIn K (.ref qC) "height" = some none)
  (iG:PySem.W.findIn K (.ref qC) "width" = some none)
  (jA:∃ t,PySem.W.nsIn K mainGlobals "MOST_ROWS" = some (some (.int 6 t)))
  (gU:∃ t,PySem.W.nsIn K mainGlobals "MOST_COLUMNS" = some (some (.int 6 t)))
  (iW:∃ t,PySem.W.nsIn K mainGlobals "CLOSED_SIGN" = some (some (.str "#" t)))
  (uR:∃ t,PySem.W.nsIn K mainGlobals "SIGNS" = some (some (.str "#012345678" t)))
  (jg:∃ t,PySem.W.nsIn K mainGlobals "MOST_CELLS" = some (some (.int 12 t)))
  (a6s:PySem.W.nsIn K mainGlobals "all" = some none)
  (NP:PySem.W.nsIn K mainGlobals "enumerate" = some none)
  (a6t:PySem.W.nsIn K mainGlobals "int" = some none)
  (JG:PySem.W.nsIn K mainGlobals "isinstance" = some none)
  (a6u:PySem.W.nsIn K mainGlobals "len" = some none)
  (a4U:PySem.W.nsIn K mainGlobals "list" = some none)
  (a6v:PySem.W.nsIn K mainGlobals "max" = some none)
  (a6w:PySem.W.nsIn K mainGlobals "min" = some none)
  (a1X:PySem.W.nsIn K mainGlobals "range" = some none)
  (a6x:PySem.W.nsIn K mainGlobals "set" = some none)
  (YZ:PySem.W.nsIn K mainGlobals "sorted" = some none)
  (a6y:PySem.W.nsIn K mainGlobals "str" = some none)
  (a1Y:PySem.W.nsIn K mainGlobals "tuple" = some none)
  (Xq:PySem.W.kitOne K (.ref nD) (.ref iw)=some true)
  (Xr:PySem.W.kitOne K (.ref jw) (.ref iw)=some true)
  (Xp:PySem.W.kitOne K (.ref iy) (.ref iw)=some true)
  (a1y:PySem.W.kitOne K (.ref jw) (.ref nD)=some false)
  (a1q:PySem.W.kitOne K (.ref iy) (.ref nD)=some false)
  (a1r:PySem.W.kitOne K (.ref iy) (.ref jw)=some false)
  (a1z:PySem.W.kitOne K (.type "tuple") (.type "tuple")=some true)
  (a1s:PySem.W.kitOne K (.ref kW) (.ref iw)=some true)
  (a1u:PySem.W.kitOne K (.ref kW) (.ref nD)=some false)
  (a1v:PySem.W.kitOne K (.ref kW) (.ref jw)=some false)
  (a1t:PySem.W.kitOne K (.ref kW) (.ref iy)=some false)
  (a1w:PySem.W.kitOne K (.type "list") (.type "list")=some true)
  (a1x:PySem.W.kitOne K (.type "str") (.type "list")=some false)
  (CT:cM K "_law_cell_at" nT)
  (Om:cM K "_law_mix" wD)
  (Lh:cM K "_law_near" tX)
  (Jb:cM K "_law_sizes" rB)
  (J1:cM K "_law_cells" qY)
  (Gj:cM K "_law_figure" oZ)
  (Bw:cM K "_law_field_by" mF)
  (Ja:cM K "_law_shown" rA)
  (Gk:cM K "_law_opened" pq)
  (CZ:cM K "_law_view_by" nY)
  (Bx:cM K "_law_wrong_by" mG)
  (Lf:cM K "_law_edge" tV)
  (VJ:cM K "is_row" Em)
  (U5:cM K "is_size" zN)
  (U6:cM K "is_view" zO)
  (Oo:cM K "has_cell" wF)
  (Lj:cM K "is_closed" tZ)
  (a07:cM K "cells" Jt)
  (a2P:cM K "near" Q0)
  (Lk:cM K "open_near" u9)
  (Gm:cM K "closed_near" pA)
  (VG:cM K "closed" Ek)
  (a2O:cM K "edge" PX)
  (a5b:cM K "far" Y7)
  (VH:cM K "figure" El)
  (VL:cM K "joined" En)
  (a09:cM K "parts" Ju)
  (J4:cM K "_law_parts" qZ)
  (U0:cM K "demands" zL)
  (Oq:cM K "may_hold" wG)
  (U7:cM K "layings" zP)
  (CV:cM K "_law_layings" nU)
  (U4:cM K "is_lone" zM)
  (Dg:cM K "lone_layings" o7)
  (TY:cM K "choices" zK)
  (Lg:cM K "_law_idle" tW)
  (U9:cM K "settled" zQ)
  (CW:cM K "_law_rows_by" nW)
  (Dd:cM K "first_laying" nZ)
  (Li:cM K "both_ways" tY)
  (a2Q:cM K "sure" Q5)
  (a0a:cM K "shown" Jv)
  (Ol:cM K "_law_met" wC)
  (Oj:cM K "_law_due" wB)
  (a5c:cM K "law" Y8) :
  ∃ fd:FuncData,(∀(s:Shared)(v:Value),BindsTo s fd ⟨[v],[]⟩ [("script",v)])/\∀ base:Heap,K.In base->base.Ns mainGlobals mg->cY l.prog w K mg base (CXE l.prog w) 10 fa fd ["script"] (T8 K):=by
 obtain⟨_,jA⟩:=jA;obtain⟨_,gU⟩:=gU;obtain⟨_,iW⟩:=iW;obtain⟨_,uR⟩:=uR;obtain⟨_,jg⟩:=jg;have T:Txt K mg ⟨iw,yN,nD,jw,iy,kW,qC⟩:={ Rm:=qj X G a6s,sY:=qj X G NP,Gu:=qj X G a6t,iz:=qj X G JG,eG:=qj X G a6u,Ip:=qj X G a4U,Rn:=qj X G a6v,KQ:=qj X G a6w,gP:=qj X G a1X,a2a:=qj X G a6x,pH:=qj X G YZ,a2b:=qj X G a6y,Ro:=qj X G a1Y,jA:=⟨_,oJ X G jA⟩,gU:=⟨_,oJ X G gU⟩,iW:=⟨_,oJ X G iW⟩,uR:=⟨_,oJ X G uR⟩,jg:=⟨_,oJ X G jg⟩,jJ:=oJ X G qD,rF:=⟨rF⟩,Gz:=oJ X G yO,vo:=⟨vo⟩,sZ:=oJ X G Cq,oA:=⟨oA⟩,vX:=oJ X G vW,lC:=⟨lC⟩,qG:=oJ X G qF,iH:=⟨iH⟩,yR:=oJ X G yP,jD:=⟨jD⟩,a2G:=oJ X G Ik,iB:=iB,jc:=jc,gH:=gH,iG:=iG,Xq:=Xq,Xr:=Xr,Xp:=Xp,a1y:=a1y,a1q:=a1q,a1r:=a1r,a1z:=a1z,a1s:=a1s,a1u:=a1u,a1v:=a1v,a1t:=a1t,a1w:=a1w,a1x:=a1x }
 refine a3r X G hfa a5c (bind1 fun _ _ _ _ _ _ _=>rfl) fun base _ _ F=>?_
 have dm:=@a5f l.prog w K mg base h X G;have cm:=@a5y l.prog w K mg base h X G;have bG:=dm CT (j9 fun _ _ _ _ _ _ _ _=>rfl) fun _ _ F=>a0E F T
 have bU:=dm Om (KY fun _ _ _ _ _ _ _ _ _=>rfl) fun _ _ F=>a3F F T
 have bW:=dm Lh (KY fun _ _ _ _ _ _ _ _ _=>rfl) fun _ _ F=>a0L F T
 have cA:=dm Jb (bind1 fun _ _ _ _ _ _ _=>rfl) fun _ _ F=>X4 F T
 have bN:=dm J1 (j9 fun _ _ _ _ _ _ _ _=>rfl) fun _ _ F=>WM F T
 have iU:=dm Gj (a2c fun _ _ _ _ _ _ _ _ _ _=>rfl) fun _ _ F=>Uz F T bW
 have m8:=dm Bw (j9 fun _ _ _ _ _ _ _ _=>rfl) fun _ _ F=>WQ F T bG bU
 have qx:=dm Ja (a2c fun _ _ _ _ _ _ _ _ _ _=>rfl) fun _ _ F=>X3 F T iU
 have oY:=dm Gk (a4Y fun _ _ _ _ _ _ _ _ _ _ _=>rfl) fun _ _ F=>UL F T bW iU
 have nu:=dm CZ (KY fun _ _ _ _ _ _ _ _ _=>rfl) fun _ _ F=>V0 F T bG bU m8 oY qx
 have m9:=dm Bx (j9 fun _ _ _ _ _ _ _ _=>rfl) fun _ _ F=>X5 F T bG bU
 have sO:=dm Lf (bind1 fun _ _ _ _ _ _ _=>rfl) fun _ _ F=>a0G F T bW cA bN
 have Cp:=dm VJ (j9 fun _ _ _ _ _ _ _ _=>rfl) fun _ _ F=>a3G F T
 have yG:=dm U5 (j9 fun _ _ _ _ _ _ _ _=>rfl) fun _ _ F=>a0O F T
 have yH:=dm U6 (bind1 fun _ _ _ _ _ _ _=>rfl) fun _ _ F=>a0Q F T Cp yG
 have O2:=cm Ik a0z a0s BK (j9 fun _ _ _ _ _ _ _ _=>rfl) fun _ _ F=>a0I F T yH
 have kJ:=dm Oo (j9 fun _ _ _ _ _ _ _ _=>rfl) fun _ _ F=>a3C F T
 have cN:=dm Lj (j9 fun _ _ _ _ _ _ _ _=>rfl) fun _ _ F=>Mt F T kJ
 have uM:=dm a07 (bind1 fun _ _ _ _ _ _ _=>rfl) fun _ _ F=>Ms F T
 have yJ:=dm a2P (j9 fun _ _ _ _ _ _ _ _=>rfl) fun _ _ F=>WY F T kJ
 have dW:=dm Lk (j9 fun _ _ _ _ _ _ _ _=>rfl) fun _ _ F=>Mv F T yJ cN
 have fj:=dm Gm (j9 fun _ _ _ _ _ _ _ _=>rfl) fun _ _ F=>Gp F T yJ cN
 have pC:=dm VG (bind1 fun _ _ _ _ _ _ _=>rfl) fun _ _ F=>Uy F T uM cN
 have yD:=dm a2O (bind1 fun _ _ _ _ _ _ _=>rfl) fun _ _ F=>WX F T pC dW
 have Vu:=dm a5b (bind1 fun _ _ _ _ _ _ _=>rfl) fun _ _ F=>a0M F T pC dW
 have pD:=dm VH (j9 fun _ _ _ _ _ _ _ _=>rfl) fun _ _ F=>Pk F T
 have pF:=dm VL (j9 fun _ _ _ _ _ _ _ _=>rfl) fun _ _ F=>UG F T dW fj
 have Ig:=dm a09 (bind1 fun _ _ _ _ _ _ _=>rfl) fun _ _ F=>WW F T yD pF
 have qw:=dm J4 (bind1 fun _ _ _ _ _ _ _=>rfl) fun _ _ F=>UJ F T cA sO bN bW
 have yC:=dm U0 (j9 fun _ _ _ _ _ _ _ _=>rfl) fun _ _ F=>Ph F T dW fj pD
 have vR:=dm Oq (j9 fun _ _ _ _ _ _ _ _=>rfl) fun _ _ F=>a3E F T
 have yI:=dm U7 (j9 fun _ _ _ _ _ _ _ _=>rfl) fun _ _ F=>Pj F T yD pF yC vR
 have jG:=dm CV (j9 fun _ _ _ _ _ _ _ _=>rfl) fun _ _ F=>Mu F T cA bN bW
 have yF:=dm U4 (j9 fun _ _ _ _ _ _ _ _=>rfl) fun _ _ F=>a0J F T cN fj
 have nA:=dm Dg (bind1 fun _ _ _ _ _ _ _=>rfl) fun _ _ F=>WT F T uM yF pD
 have yx:=dm TY (bind1 fun _ _ _ _ _ _ _=>rfl) fun _ _ F=>Pg F T Ig yI Vu nA
 have sS:=dm Lg (bind1 fun _ _ _ _ _ _ _=>rfl) fun _ _ F=>a0H F T cA bN bW
 have uN:=dm U9 (KY fun _ _ _ _ _ _ _ _ _=>rfl) fun _ _ F=>Pn F T
 have mZ:=dm CW (bind1 fun _ _ _ _ _ _ _=>rfl) fun _ _ F=>UW F T bG bU nu m9
 have jH:=dm Dd (bind1 fun _ _ _ _ _ _ _=>rfl) fun _ _ F=>WR F T
 have jy:=dm Li (j9 fun _ _ _ _ _ _ _ _=>rfl) fun _ _ F=>a0D F T cN yx uN jH
 have NZ:=dm a2Q (j9 fun _ _ _ _ _ _ _ _=>rfl) fun _ _ F=>a0P F T jy
 have Ih:=dm a0a (j9 fun _ _ _ _ _ _ _ _=>rfl) fun _ _ F=>a0N F T jy
 have qu:=dm Ol (KY fun _ _ _ _ _ _ _ _ _=>rfl) fun _ _ F=>a0K F T NZ Ih
 have vQ:=dm Oj (j9 fun _ _ _ _ _ _ _ _=>rfl) fun _ _ F=>a0F F T bN qw sS jG
 exact a3D F T bG bU mZ O2 cA bN vQ qu
theorem walk{l:PySem.W.OpenLaw}{q:Program}{loose:List Str}{XP:(Str->Option Value)->Heap->Prop}{YP:World->Heap->Prop}{d:DefRec}{K:Params->ao}(hn:l.most=some 63)(hdf:d.params.defaults=[])
  (hY:∀(w:World)(h:Heap),YP w h->(K w.params).In h)
  (F:∀(w:World)(mg:Str->Option Value)(fa:Addr)(h:Heap),(K w.params).In h->h.Ns mainGlobals mg->mg d.name=some (.ref fa) ->
   ∃ fd:FuncData,(∀(s:Shared)(u:Value),BindsTo s fd ⟨[u],[]⟩ [("script",u)])/\∀ base:Heap,(K w.params).In base->base.Ns mainGlobals mg->cY l.prog w (K w.params) mg base (CXE l.prog w) 10 fa fd ["script"] (T8 (K w.params))) :
  PySem.W.WalkO q loose XP YP l.row.toRowW d [] (fun f vs=>PySem.call f vs):=
 L2.a1U (n:=63) (k:=10) (x:="script") (CX:=fun w=>CXE l.prog w) (sp:=fun w=>T8 (K w.params)) hn (by decide) hdf ⟨rfl,by decide,by decide⟩ hY F (fun _ _ a ns hl _ hS=>⟨a,ns,rfl,hS,fun _=>rfl⟩) fun _ _ _ _ _ z=>by
  obtain⟨_,_,_,_,_,_,_,_,_,z⟩:=z;exact z
end My
namespace PySem.W.Fast
def tw17978768250096378346:=0
def tw7292148836730929989:=0
def tw2629731000873927872:=0
def tw10358108459035193200:=0
def tw2991352520756133233:=0
def tw6114812144384042454:=0
def tw2766920201595532054:=0
def tw13915653631896842107:=0
def tw3388504385283568949:=0
def tw18257663763324764202:=0
def tw14801627347468670106:=0
def tw3866439220083883409:=0
def tw3775701960815099804:=0
def tw17083769849811249365:=0
def tw14335228788535890540:=0
def tw17820187024289848240:=0
def tw5480142316280014403:=0
def tw9990304335600818928:=0
def tw4081597276305957352:=0
def tw2887984848631516494:=0
def tw4312823719001340739:=0
def tw18210260433446113596:=0
def tw7221101522777474084:=0
def tw16329663661311353553:=0
def tw4584622992449674544:=0
def tw9787199233383182984:=0
def tw3269465437405482711:=0
def tw13395016821397576737:=0
def tw14577313311856095965:=0
def tw5169712891448410673:=0
def tw7563079588795885650:=0
def tw12196031538177237608:=0
def tw2037625603320778607:=0
def tw14650973088169742877:=0
def tw951821027552093371:=0
def tw521876563638002365:=0
def tw14729680665283744881:=0
def tw15581294038768883170:=0
def tw9918935346608410375:=0
def tw7762425768365186105:=0
def tw6215989839111314440:=0
def tw20311784315718982:=0
def tw2321267558209506002:=0
def tw11703713528514612389:=0
def tw13273944794402468301:=0
def tw11170405725224152041:=0
def tw10685468583653323191:=0
def tw10284640167979220406:=0
def tw7538842127020347120:=0
def tw3689732112691568487:=0
def tw8246740443179908426:=0
def tw11972623070160431204:=0
def tw337705824177392571:=0
def tw10592443281934201022:=0
def tw12713532673880691720:=0
def tw8552387466178758457:=0
def tw4235269752012665008:=0
def tw10150967855885753009:=0
def tw13702473590511125863:=0
def tw16561718584162426633:=0
def tw9545768442970609296:=0
def tw15784694115480162138:=0
def tw4413779035035747667:=0
def tw2275318004398487262:=0
def tw8942664283652081344:=0
def tw15096922381507158861:=0
def tw305609226428446054:=0
def tw10298829390161459679:=0
def tw9784708094215775641:=0
def tw5549946211262308163:=0
def tw2579965244322372782:=0
def tw8956151777498604741:=0
def tw15346902395711588379:=0
def tw2275268303688030002:=0
def tw2171410679942276923:=0
def tw2471583246730704739:=0
def tw3580114659468150168:=0
def tw10065175380114700210:=0
def tw7026489759784244420:=0
def tw1217419691797647531:=0
def tw15758851229193897176:=0
def tw14398649785737574698:=0
def tw2713285770794935740:=0
def tw9949932059466005546:=0
def tw17844896546421002910:=0
def tw11300542429486001487:=0
def tw12536250523110663207:=0
def tw2070898796636797938:=0
def tw6614353224896336258:=0
def tw14781050446502263434:=0
def tw2649922554589855819:=0
def tw4802943495960170170:=0
def tw9660268878828332323:=0
def tw17929328715450980126:=0
def tw696747210179419338:=0
def tw16212041005865358558:=0
def tw11173656898045104944:=0
def tw17445511022825582367:=0
def tw479455008604927744:=0
def tw9601824387734184610:=0
def tw9771723769944901379:=0
def tw1664376465135408841:=0
def tw4365013996945277737:=0
def tw8314038037386549397:=0
def tw922307375860810965:=0
def tw9533959434867544310:=0
def tw17182328057788312437:=0
def tw16536507056906251250:=0
def tw12717270041116198106:=0
def tw14846681801044205426:=0
def tw9347349628385740881:=0
def tw6172836580921684944:=0
def tw3088810217843037965:=0
def tw16063569215220627074:=0
def tw15374538419079069204:=0
def tw1729263584135434993:=0
def tw15696110317176028442:=0
def tw5166980111092914822:=0
def tw11766676238964764957:=0
def tw6675823530874052202:=0
def tw9361128612789085389:=0
def tw11102930762988829109:=0
def tw8817219035315609652:=0
def tw14366186494504687000:=0
def tw6695070119295913497:=0
def tw6183290543893494747:=0
def tw1378687794645905173:=0
def tw4637027130890033065:=0
def tw11635071497695102211:=0
def tw5306440662065052973:=0
def tw16469035829526421791:=0
def tw3472017545292571650:=0
def tw10136462025506235806:=0
def tw968012274585850497:=0
def tw8773744648728084062:=0
def tw12445578328028417473:=0
def tw3884065469067394133:=0
def tw12934937967707581470:=0
def tw15781750975731744466:=0
def tw14450789055676545182:=0
def tw1718384025982867852:=0
def tw6846327879361736099:=0
def tw14234568786681083436:=0
def tw15785197882029079824:=0
def tw15634678163707017500:=0
def tw16813426339186102368:=0
def tw4329987507977764981:=0
def tw8937377159087091124:=0
def tw114029993203852496:=0
def tw12664997740545361134:=0
def tw12758624781195986049:=0
def tw11929578610972662395:=0
def tw2274648014139222276:=0
def tw2935460736382701009:=0
def tw6263179895282166729:=0
def tw15925377793201168679:=0
def tw12387905838776147908:=0
def tw16595498237162961732:=0
def tw4147185282458368708:=0
def tw3711121165870492301:=0
def tw2073880758844591940:=0
def tw17102223660687869695:=0
def tw1998303804526404528:=0
def tw6191774189537008715:=0
def tw15800744401313954734:=0
def tw16601724422867021955:=0
def tw46529569826881988:=0
def tw2572183255570159149:=0
def tw17723513396070079009:=0
def tw9100879094944856488:=0
def tw2088010465666793773:=0
def tw2965895069999778719:=0
def tw8839563940173808516:=0
def tw12265968372485606625:=0
def tw5953138983587119425:=0
def tw3972286133689361758:=0
def tw7209848605333112037:=0
def tw17487395348190448262:=0
def tw9572791576348994525:=0
def tw17085712580159755577:=0
def tw6915789082177127429:=0
def tw11104047455052147201:=0
def tw4278938172388266626:=0
def tw5953613431058728686:=0
def tw2863200731443994670:=0
def tw6792932097907009702:=0
def tw2919156218861405399:=0
def tw12845443856394612997:=0
def tw1076470291524497136:=0
def tw15544700206689768325:=0
def tw14690243486401107535:=0
def tw392965917214762423:=0
def tw6431284747813894893:=0
def tw8627358829898464476:=0
def tw3204654029000261379:=0
def tw14045934986385315760:=0
def tw2343804562562493411:=0
def tw12112691809081118389:=0
def tw2318918352176451492:=0
def tw17233586105517951135:=0
def tw6149243354958848786:=0
def tw10715312854634062859:=0
def tw12174549983237286027:=0
def tw9082544128683621990:=0
def tw4052259859000702738:=0
def tw8676791310617884961:=0
def tw14565339316566526242:=0
def tw15334329115553680629:=0
def tw10641653496083257808:=0
def tw8355461284775818932:=0
def tw3491434553565381352:=0
def tw17986886434306541235:=0
def tw15360947511721241760:=0
def tw14186470413727009994:=0
def tw17528236508817333183:=0
def tw10486021060550891289:=0
def tw6844615620615328363:=0
def tw17715633655133306832:=0
def tw8922365656230989768:=0
def tw13354753239493237404:=0
def tw3006916853346291861:=0
def tw2096222246439730013:=0
def tw10200694623156240406:=0
def tw14913904467576507006:=0
def tw10510646510300764267:=0
def tw12053603934797994711:=0
def tw9267042889065956781:=0
def tw1716648979302559600:=0
def tw9070089594174221446:=0
def tw13017672674855966024:=0
def tw1740873885689931500:=0
def tw6607923882000503117:=0
def tw1874301350053868660:=0
def tw13762402346981729413:=0
def tw14651930225717912982:=0
def tw14351395579557260392:=0
def tw16300576988216429985:=0
def tw16507808595996799275:=0
def tw4679930419509469438:=0
def tw14354616713630604847:=0
def tw18136165752751016810:=0
def tw6952053807512024899:=0
def tw18353332009528593733:=0
def tw9020132445087535119:=0
def tw7909080957541431433:=0
def tw9582374149236367819:=0
def tw14938482072005523641:=0
def tw9726383891653327891:=0
def tw4239469580276703979:=0
def tw16781055261060678568:=0
def tw6672650465917784985:=0
def tw16339486030780847584:=0
def tw17628369472906914871:=0
def tw3183966263130869689:=0
def tw8193118316307387238:=0
def tw9074272470184152999:=0
def tw10912215141858022032:=0
def tw720737605515304645:=0
def tw7282513878544419406:=0
def tw4639127115771191135:=0
def tw4385425206708683597:=0
end PySem.W.Fast
open PySem PySem.W PyProof.Rows
set_option maxRecDepth 100000 in
set_option maxHeartbeats 0 in
theorem PySem.Challenge.cw_dampfield_k08_sure_cells_holds : PySem.Challenge.rw_dampfield_k08_sure_cells.Holds := by
 w_on;o_law;k_head;(case hw=>w_witness2)
 k_fill
 refine My.walk (l:=PySem.Challenge.rw_dampfield_k08_sure_cells) rfl rfl (fun w h Y=>PySem.W.kIn_of Y) ?F
 case F=>
  intro w mg fa h KX G hmg
  refine' My.all_mk KX G hmg ?qD ?yO ?Cq ?vW ?qF ?yP ?Ik ?_ ?_ ?_ ?_ ?_ ?_ ?_ ?_ ?_ ?_ ?_ ?_ ?_ ?_ ?_ ?_ ?_ ?_ ?_ ?_ ?_ ?_ ?_ ?_ ?_ ?_ ?_ ?_ ?_ ?_ ?_ ?_ ?_ ?_ ?_ ?_ ?_ ?_ ?_ ?_ ?_ ?_ ?_ ?_ ?_ ?_ ?_ ?_ ?_ ?_ ?_ ?_ ?_ ?_ ?_ ?_ ?_ ?_ ?_ ?_ ?_ ?_ ?_ ?_ ?_ ?_ ?_ ?_ ?_ ?_ ?_ ?_ ?_ ?_ ?_ ?_ ?_ ?_ ?_ ?_ ?_ ?_ ?_ ?_ ?_ ?_ ?_ ?_ ?_
  (case qD=>k_is)
  (case yO=>k_is)
  (case Cq=>k_is)
  (case vW=>k_is)
  (case qF=>k_is)
  (case yP=>k_is)
  (case Ik=>k_is)
  iterate 6 k_exc
  iterate 1 (refine' My.a3w ?a ?i ?b ?c ?d;(case a=>k_is);(case i=>k_is);(case b=>k_is);(case c=>k_is);(case d=>k_is))
  iterate 1 (refine' ⟨?_,?_,?_,?_⟩<;>k_is)
  iterate 5 k_is
  iterate 2 (refine' My.a6o ?a;(case a=>k_is))
  iterate 2 (refine' My.a7b ?a;(case a=>k_is))
  iterate 1 (refine' My.a6o ?a;(case a=>k_is))
  iterate 13 k_is
  iterate 13 kit_is
  iterate 45 (refine' My.a5d ?a ?b ?c ?d;(case a=>k_is);(case b=>k_is);(case c=>k_is);(case d=>k_is))
