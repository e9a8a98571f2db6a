import PyProof.Rows.All
import Wide.All
import OpenK.AllK
import Wide.FinOn
import Lean
import PyProof.EqAt
import PyProof.EqKinds
import PyProof.TupleCall
import PySem.Challenge.RW_dampfield_k13_whole_chances_together
set_option Elab.async false
set_option linter.all false
set_option maxHeartbeats 4000000
set_option maxRecDepth 100000
def aG:=@if_neg
def aK:=@if_pos
def bN:=@decide_eq_true
def bZ:=@decide_eq_false
def cY:=@of_decide_eq_true
def jD:=@of_decide_eq_false
def lE:=@decide_eq_true_iff
def oN:=@beq_eq_false_iff_ne
def j8:=@beq_iff_eq
def qj:=@if_false
def Fj:=@decide_eq_decide
def KN:=@beq_self_eq_true
def wG:=@if_true
open Array renaming getElem?_eq_getElem->j5,getD_eq_getD_getElem?->lV,toList_append->jR,length_toList->lD,getElem?_toList->Cw,toList_reverse->Es,getElem_mem_toList->Kd,toList_push->Fe,getElem_toList->Kp,toList_setIfInBounds->UL,toList_inj->KR,getElem?_eq_none->Vd,toList_extract->Vh,append_assoc->Vn,size_extract->Vp
open Bool renaming false_ne_true->fM,and_eq_true->oR,not_eq_true'->qp,not_eq_false'->Aq,false_eq_true->vZ,eq_iff_iff->sG,true_and->sJ,false_and->Ad,and_false->Ae,beq_eq_decide_eq->Vf
def V0:=@Classical.byContradiction
open Int renaming toNat_natCast->je,eq_ofNat_of_zero_le->Ak,zero_add->ni,mul_assoc->qw,emod_lt_of_pos->w5,add_zero->oH,emod_nonneg->wA,mul_zero->sU,toNat_of_nonneg->Ez,natCast_nonneg->EY,le_refl->wF,add_mul->Ai,fdiv_eq_ediv_of_nonneg->UJ,zero_mul->Fz,mul_comm->FJ,natCast_mul->Lb,mul_add->FP,one_mul->FQ,mul_nonneg->Lf,mul_le_mul->Lg,mul_one->Li
open List renaming length_map->aU,getD_eq_getElem?_getD->dX,mem_singleton->dD,getElem?_eq_getElem->ig,mem_cons_self->cG,size_toArray->cD,mem_cons_of_mem->dw,mem_filter->cB,getElem?_map->cU,length_append->dB,mem_of_getElem?->fB,mem_append->cO,mem_map->bW,mem_cons->cL,getElem?_eq_some_iff->j9,map_append->dU,mem_range->dH,map_cons->cZ,length_cons->fO,length_filter_le->iK,mem_append_right->j6,mem_append_left->j7,take_length->jE,take_succ->jf,length_singleton->qm,pairwise_cons->oO,getElem_mem->n8,drop_eq_getElem_cons->wX,getElem?_append_right->Aj,length_take->qt,length_range->qY,pairwise_append->wY,flatMap_cons->uG,replicate_succ->wZ,getElem?_append_left->Cu,pairwise_iff_getElem->Cv,take_append_drop->Al,all_eq_true->uI,filter_append->xg,append_assoc->xq,nodup_append->xr,map_congr_left->Am,filter_sublist->Ao,map_map->qx,lookup_cons->xu,append_nil->xG,foldl_cons->xH,range_succ->xJ,flatten_cons->Ar,take_of_length_le->zO,filter_eq_nil_iff->zP,length_replicate->zQ,getElem?_eq_none->zR,getElem?_of_mem->zT,mem_of_mem_take->zU,filter_cons->wj,flatMap_append->zW,mem_filterMap->zX,nodup_cons->wk,length_nil->wu,find?_cons->wz,ext_getElem?->Aa,getElem?_toArray->Er,getElem_map->Ab,any_cons->wC,perm_ext_iff_of_nodup->Kc,filter_eq_self->Eu,getElem?_replicate->Ke,length_eq_zero_iff->Kf,pairwise_map->Fd,getElem?_set_self->Kg,drop_of_length_le->Kh,all_cons->Af,sum_cons->Ag,mem_reverse->Fi,perm_append_comm->Kl,pairwise_reverse->Km,length_set->Fl,mem_iff_getElem->Ko,filterMap_cons->Kr,drop_drop->Fp,nodup_nil->Fq,filter_congr->KC,reverse_perm->KD,getElem?_take_of_lt->V3,map_nil->Fx,mem_flatMap->KQ,sublist_append_left->V6,pairwise_singleton->V8,of_mem_zip->KZ,count_cons->La,length_pos_of_mem->Vc,map_id->FN,take_zero->Ld,getElem?_set_ne->Vg,reverse_append->Vl,modify_toArray->Vm,all_map->Lh,map_replicate->Vq
def Kw:=@List.Nodup.sublist
def KH:=@List.Sublist.refl
open Nat renaming le_refl->bR,le_trans->cP,lt_of_lt_of_le->jd,ne_of_lt->fQ,mul_le_mul->lX,zero_le->lF,lt_irrefl->qu,lt_succ_of_lt->rZ,lt_succ_self->wg,le_of_ble_eq_true->Ep,add_zero->sO,zero_add->sS,le_succ->sV,pow_le_pow_right->Kq,lt_of_le_of_lt->Kv,eq_of_mul_eq_mul_left->V1,le_of_lt->Fv,ne_of_gt->Fw,gcd_pos_of_pos_right->V7,mul_div_cancel_left->Va,add_le_add_left->Vk,eq_zero_or_pos->Vr
def jy:=@Ne.symm
open Option renaming map_eq_some_iff->jC,map_some->sI,isSome_iff_exists->V2
open Option.some renaming inj->gO,injEq->zZ
def jN:=@Prod.ext
open PyProof.Rows renaming wpS_bind->aQ,wpS_pure->aX,wpS_forRange->jg,wpS_mono->jh,wpS_modify->nj,wpS_get->jO,callWith_type1->Ka,wpS_lift->sX,mirror_perm->Ah,assignInOrder_cons->Ks
open PySem renaming wpAny_bind->bO,wpAny_pure->cV,wpAny_mono->iM,wpAny_truthy_bool->uF,wpAny_eqBool_int->uH,sizeLine_eq->mD,wpAny_passesOwn->sE,mem_of_lookup->zV,wpAny_Call_Name_kw->zY,call_meets->qg,wpAny_holding->wB,wpAny_isSubtype_exc->Ey,wpAny_execs_nil->Ac,codeAny_mono->wD,wpAny_rule->sW,wpAny_newObj_type->Fb,wpAny_loadPart_at->Fg,codeAny_builtin->Fo,wpAny_standAt->Ft,wpAny_assign_Name->Kz,wpAny_execs_cons->KJ,wpAny_comprehension_free->V4,wpAny_call_entry->KY
def Et:=@PySem.Around.under_plainId
def V5:=@PySem.AutoSeq1.sub_tuple_tuple
open PySem.Calls renaming Name_function_global->UG,call_function_entry->UW
open PySem.F renaming plainAttrs_list->lW,slot_list_append->oK,type_list_append->oM,slot_dict_keyiterator_next->Ik,excBase_ValueError->Eo,args_dict_keyiterator_next_1->Uy,entry_dict_keyiterator_next->Uz,plain_list_iadd->V9,slot_dict_iter->Ve,slot_list_lt->Vi
open PySem.Heap renaming get?_push_of_some->dG,lt_size->bL,get?_push_size->jc,get?_update_ne->Ew
def dW:=@PySem.PassesOwn.never
def Fy:=@PySem.SeqAt.EqAt.of_refs
open PySem.W renaming mg_of->lY,mg_none_of->uE,callWith_K->Ku,cellsFrom_some->Vb,hideAll_get->Vj,of_hideAll->Vo
abbrev ao:=PySem.W.Frag
namespace L2
open PySem PySem.Spec PyProof.Rows
abbrev Key:=Sum Int Str
def Cd:Key->Value->Bool
 |.inl k,v=>Value.isInt k v
 |.inr x,v=>Value.isStrOf x v
def a2t(w:World):Key->Int
 |.inl k=>hashInt k
 |.inr x=>hashStr w x
theorem eX:∀ {k:Key} {v:Value},Cd k v=true->(∃ i t,k=Sum.inl i/\v=Value.int i t)\/(∃ x t,k=Sum.inr x/\v=Value.str x t)
 |.inl i,v,h=>by
  obtain⟨t,e⟩:=Value.isInt_shape (k:=i) (v:=v) h;exact .inl ⟨i,t,rfl,e⟩
 |.inr x,v,h=>by
  obtain⟨t,e⟩:=Value.isStrOf_shape (x:=x) (v:=v) h;exact .inr ⟨x,t,rfl,e⟩
theorem Oz(i:Int)(t:Tok):Cd (.inl i) (.int i t)=true:=by simp[Cd,Value.isInt]
theorem OD(x:Str)(t:Tok):Cd (.inr x) (.str x t)=true:=by simp[Cd,Value.isStrOf]
theorem Zh(a b:Int):decide ((Sum.inl a:Key)=Sum.inl b)=(a==b):=by
 by_cases e:a=b
 ·subst e;simp
 ·have h:¬(Sum.inl a:Key)=Sum.inl b:=fun q=>e (Sum.inl.inj q)
  rw[bZ h];exact(oN.mpr e).symm
theorem Zk(a b:Str):decide ((Sum.inr a:Key)=Sum.inr b)=decide (a=b):=by
 by_cases e:a=b
 ·subst e;simp
 ·have h:¬(Sum.inr a:Key)=Sum.inr b:=fun q=>e (Sum.inr.inj q)
  rw[bZ h,bZ e]
theorem Zi(a:Int)(b:Str):decide ((Sum.inl a:Key)=Sum.inr b)=false:=bZ (fun q=>nomatch q)
theorem Zj(a:Str)(b:Int):decide ((Sum.inr a:Key)=Sum.inl b)=false:=bZ (fun q=>nomatch q)
def fV(prog:Program)(w:World):PySem.KeyKind prog w Key where
 is:=Cd
 hash:=a2t w
 inj:=fun v a b ha hb=>by
  rcases eX ha with⟨i,t,rfl,rfl⟩|⟨x,t,rfl,rfl⟩
  ·rcases eX hb with⟨j,u,rfl,e⟩|⟨y,u,rfl,e⟩
   ·injection e with e1 _;rw[e1]
   ·exact nomatch e
  ·rcases eX hb with⟨j,u,rfl,e⟩|⟨y,u,rfl,e⟩
   ·exact nomatch e
   ·injection e with e1 _;rw[e1]
 byValue:=fun k v h=>by
  rcases eX h with⟨i,t,rfl,rfl⟩|⟨x,t,rfl,rfl⟩<;>rfl
 pyHash:=fun hv h=>by
  rcases eX hv with⟨i,t,rfl,rfl⟩|⟨x,t,rfl,rfl⟩
  ·exact wpAny_pyHash_int h
  ·exact wpAny_pyHash_str h
 eqBool:=fun hu hv h=>by
  rcases eX hu with⟨i,t,rfl,rfl⟩|⟨x,t,rfl,rfl⟩
  ·rcases eX hv with⟨j,u,rfl,rfl⟩|⟨y,u,rfl,rfl⟩
   ·rw[Zh] at h;exact uH h
   ·rw[Zi] at h;exact SeqAt.EqAt.int_str i t y u _ _ _ _ h
  ·rcases eX hv with⟨j,u,rfl,rfl⟩|⟨y,u,rfl,rfl⟩
   ·rw[Zj] at h;exact SeqAt.EqAt.str_int x t j u _ _ _ _ h
   ·rw[Zk] at h;exact wpAny_eqBool_str h
 «strs»:=fun k x t v h=>by
  rcases eX h with⟨i,u,rfl,e⟩|⟨y,u,rfl,e⟩
  ·exact nomatch e
  ·injection e with e1 _;subst e1
   cases v<;>rfl
theorem GQ(prog:Program)(w:World)(i:Int)(t:Tok):(fV prog w).is (.inl i) (.int i t)=true:=Oz i t
theorem GR(prog:Program)(w:World)(x:Str)(t:Tok):(fV prog w).is (.inr x) (.str x t)=true:=OD x t
inductive V where
 |non|bl (b:Bool)|int (i:Int)|str (x:Str)|byt (b:Array UInt8)|flt (b:UInt64)|ref (a:Addr)|ty (n:String)
 deriving DecidableEq
def RelV:V->Value->Prop
 |.non,u=>u=Value.none
 |.bl b,u=>u=Value.bool b
 |.int i,u=>∃ t,u=Value.int i t
 |.str x,u=>∃ t,u=Value.str x t
 |.byt b,u=>∃ t,u=Value.bytes b t
 |.flt b,u=>∃ t,u=Value.float b t
 |.ref a,u=>u=Value.ref a
 |.ty n,u=>u=Value.type n
abbrev Vals:List V->List Value->Prop:=Paired RelV
theorem Vals.length{xs:List V}{us:List Value}(r:Vals xs us):xs.length=us.length:=Paired.length r
theorem Vals.get:∀ {xs:List V} {us:List Value} {i:Nat} {x:V},Vals xs us->xs[i]?=some x->∃ u,us[i]?=some u/\RelV x u
 |_,_,_,_,.nil,e=>by simp at e
 |_,_,0,_,.cons r _,e=>by simp at e;subst e;exact⟨_,rfl,r⟩
 |_,_,i+1,x,.cons _ t,e=>by
  obtain⟨u,h1,h2⟩:=Vals.get (i:=i) (x:=x) t (by simpa using e);exact⟨u,by simpa using h1,h2⟩
theorem Vals.set{x:V}{u:Value}(r:RelV x u):∀ {xs:List V} {us:List Value} (i:Nat),Vals xs us->Vals (xs.set i x) (us.set i u)
 |_,_,_,.nil=>.nil
 |_,_,0,.cons _ t=>.cons r t
 |_,_,i+1,.cons q t=>.cons q (Vals.set r i t)
theorem Vals.append:∀ {xs ys:List V} {us ws:List Value},Vals xs us->Vals ys ws->Vals (xs++ys) (us++ws)
 |_,_,_,_,.nil,s=>s
 |_,_,_,_,.cons r t,s=>.cons r (Vals.append t s)
def yq:Option V->Option Value->Prop
 |some v,some u=>RelV v u
 |none,none=>True
 |_,_=>False
def KV{κ:Type}:List (κ×V)->List (κ×Value)->Prop:=Paired fun(p:κ×V)(q:κ×Value)=>p.1=q.1/\RelV p.2 q.2
def kV:Key->V
 |.inl i=>.int i
 |.inr x=>.str x
inductive HO where
 |lst (xs:List V)
 |tup (xs:List V)
 |dK (kvs:List (Key×V))|dT (kvs:List (List Key×V))
 |set (S:Int->Bool) (n:Nat)
 |ins (C dx:Addr) (fs:List (Str×V))
 |own (x:Addr)
 |xd (fs:List (Str×V))
 |met (f x:Addr)
 |rng (lo hi:Int)
 |frz (o:Obj) (u:HO)
 |tbl (ps:Array Value)
 |ext (φ:Heap->Prop)
abbrev Hp:=Addr->Option HO
def upd(H:Hp)(a:Addr)(o:HO):Hp:=fun b=>if b=a then some o else H b
theorem aD{H:Hp}{a:Addr}{o:HO}:upd H a o a=some o:=by unfold upd;rw[aK rfl]
theorem bA{H:Hp}{a b:Addr}{o:HO}(h:b≠a):upd H a o b=H b:=by unfold upd;rw[aG h]
theorem pK{H:Hp}{a b:Addr}{o u:HO}(h:H a=some o)(h':H b=some u)(d:o≠u):a≠b:=by
 intro e;subst e;rw[h] at h';exact d (gO h')
theorem bG{H:Hp}{a b:Addr}{o:HO}(h:H a=some o)(h':H b=none):a≠b:=by
 intro e;subst e;rw[h] at h';cases h'
section
variable(P:Program)(w:World)
def gq(H:Hp)(h:Heap)(a:Addr):HO->Prop
 |.lst xs=>xs.length<=sizeLine/\∃(its:List Value)(n:Nat),Vals xs its/\h.get? a=some { cls:=.type "list",data:=.seq its.toArray n }
 |.tup xs=>xs.length<=sizeLine/\∃ its:List Value,Vals xs its/\IsTup h a its.toArray
 |.dK kvs=>kvs.length<=sizeLine/\(a==sysModules)=false/\∃ vs,KV kvs vs/\h.DictOf (fV P w) a vs
 |.dT kvs=>kvs.length<=sizeLine/\(a==sysModules)=false/\∃ xs:List (List Key×Addr×Value),
   Paired (fun(p:List Key×V)(q:List Key×Addr×Value)=>p.1=q.1/\H q.2.1=some (.tup (p.1.map kV))/\RelV p.2 q.2.2) kvs xs /\
   ∃ o es ep,h.get? a=some o/\o.ExactDict/\o.data=.dict es ep/\es.toList=xs.map (entryOfKey (tupleKind (fV P w)))/\(xs.map (·.1)).Nodup
 |.set S n=>h.SetOf (intKind P w) a S n
 |.ins C dx fs=>H dx=some (.own a)/\fs.length<=1000/\dx≠a/\h.get? a=some (PySem.W.instObj C dx) /\
   ∃ mA,h.Ns1 dx mA/\(∀ f,yq (fs.lookup f) (mA f))/\PySem.Within mA (fs.map (·.1))
 |.own _=>∃ o,h.get? a=some o
 |.xd fs=>∃ mA,h.Ns1 a mA/\∀ f,yq (fs.lookup f) (mA f)
 |.rng lo hi=>∃ t u v,h.get? a=some { cls:=.type "range",data:=.fields #[.int lo t,.int hi u,.int 1 v] }
 |.frz o u=>h.get? a=some o/\gq H h a u
 |.tbl ps=>h.get? a=some { cls:=.none,data:=.fields ps }
 |.met f x=>h.get? a=some (PySem.W.methodObj (.ref f) (.ref x))
 |.ext φ=>φ h/\(∃ o,h.get? a=some o)/\∀ h1 h2:Heap,φ h1->(∀ o,h1.get? a=some o->h2.get? a=some o)->φ h2
def HOk(H:Hp)(h:Heap):Prop:=∀ a o,H a=some o->gq P w H h a o
end
section
variable{P:Program}{w:World}{H H':Hp}{h h':Heap}{a:Addr}{o:HO}
theorem gq.lt(x:gq P w H h a o):a<h.objs.size:=by
 cases o with
 |lst xs=>obtain⟨_,_,_,_,e⟩:=x;exact bL e
 |tup xs=>obtain⟨_,_,_,p⟩:=x;exact p.lt
 |dK kvs=>obtain⟨_,_,_,_,o,_,_,e,_⟩:=x;exact bL e
 |dT kvs=>obtain⟨_,_,_,_,o,_,_,e,_⟩:=x;exact bL e
 |set S n=>obtain⟨o,_,_,_,e,_⟩:=x;exact bL e
 |ins C dx fs=>obtain⟨_,_,_,e,_⟩:=x;exact bL e
 |own y=>obtain⟨_,e⟩:=x;exact bL e
 |xd fs=>obtain⟨_,⟨_,_,_,e,_⟩,_⟩:=x;exact bL e
 |rng lo hi=>obtain⟨_,_,_,e⟩:=x;exact bL e
 |frz ob u=>obtain⟨e,_⟩:=x;exact bL e
 |tbl ps=>exact bL (show h.get? a=some _ from x)
 |met f y=>exact bL (show h.get? a=some _ from x)
 |ext φ=>obtain⟨_,⟨_,e⟩,_⟩:=x;exact bL e
theorem Paired.Zr{α β:Type}{F G:α->β->Prop}:∀ {l₁:List α} {l₂:List β},Paired F l₁ l₂->(∀ a b,F a b->G a b)->Paired G l₁ l₂
 |_,_,.nil,_=>.nil
 |_,_,.cons r t,f=>.cons (f _ _ r) (Paired.Zr t f)
theorem gq.stay(x:gq P w H h a o)(k:∀ b u,(b=a\/H b=some (.own a))->h.get? b=some u->h'.get? b=some u)
  (ho:∀ b,H b=some (.own a)->H' b=some (.own a)) (ht:∀ b xs,H b=some (.tup xs)->H' b=some (.tup xs)):gq P w H' h' a o:=by
 induction o with
 |lst xs=>obtain⟨z,its,n,r,e⟩:=x;exact⟨z,its,n,r,k _ _ (.inl rfl) e⟩
 |tup xs=>obtain⟨z,its,r,ob,e,c⟩:=x;exact⟨z,its,r,ob,k _ _ (.inl rfl) e,c⟩
 |dK kvs=>obtain⟨z,y,vs,r,ob,es,ep,e,c⟩:=x;exact⟨z,y,vs,r,ob,es,ep,k _ _ (.inl rfl) e,c⟩
 |dT kvs=>
  obtain⟨z,y,xs,r,ob,es,ep,e,c⟩:=x;exact⟨z,y,xs,Paired.Zr r fun p q z=>⟨z.1,ht _ _ z.2.1,z.2.2⟩,ob,es,ep,k _ _ (.inl rfl) e,c⟩
 |set S n=>obtain⟨ob,es,ep,t,e,c⟩:=x;exact⟨ob,es,ep,t,k _ _ (.inl rfl) e,c⟩
 |ins C dx fs=>
  obtain⟨d,z,ne,e,mA,⟨od,es,ep,e2,c⟩,r⟩:=x;exact⟨ho _ d,z,ne,k _ _ (.inl rfl) e,mA,⟨od,es,ep,k _ _ (.inr d) e2,c⟩,r⟩
 |own y=>obtain⟨ob,e⟩:=x;exact⟨ob,k _ _ (.inl rfl) e⟩
 |xd fs=>obtain⟨mA,⟨od,es,ep,e,c⟩,r⟩:=x;exact⟨mA,⟨od,es,ep,k _ _ (.inl rfl) e,c⟩,r⟩
 |rng lo hi=>obtain⟨t,u,v,e⟩:=x;exact⟨t,u,v,k _ _ (.inl rfl) e⟩
 |frz ob u ih=>obtain⟨e,q⟩:=x;exact⟨k _ _ (.inl rfl) e,ih q⟩
 |tbl ps=>
  have e:h.get? a=some { cls:=.none,data:=.fields ps }:=x;show h'.get? a=some { cls:=.none,data:=.fields ps };exact k a _ (.inl rfl) e
 |met f y=>
  have e:h.get? a=some (PySem.W.methodObj (.ref f) (.ref y)):=x;show h'.get? a=some (PySem.W.methodObj (.ref f) (.ref y));exact k a _ (.inl rfl) e
 |ext φ=>obtain⟨p,⟨o,e⟩,st⟩:=x;exact⟨st _ _ p fun o q=>k _ _ (.inl rfl) q,⟨o,k _ _ (.inl rfl) e⟩,st⟩
theorem HOk.lt(x:HOk P w H h)(e:H a=some o):a<h.objs.size:=(x a o e).lt
theorem HOk.fresh(x:HOk P w H h)(e:h.objs.size<=a):H a=none:=by
 cases q:H a with
 |none=>rfl
 |some u=>exact absurd (jd (x.lt q) e) (qu _)
theorem HOk.kept(x:HOk P w H h)(k:∀ b u,h.get? b=some u->h'.get? b=some u):HOk P w H h':=fun a o e=>
 (x a o e).stay (fun b u _ q=>k b u q) (fun _ q=>q) fun _ _ q=>q
theorem HOk.laid(x:HOk P w H h)(k:∀ b u,h.get? b=some u->h'.get? b=some u)(hp:h.objs.size<=a)(new:gq P w (upd H a o) h' a o):HOk P w (upd H a o) h':=fun b u e=>by
 have hn:=x.fresh hp;by_cases hb:b=a
 ·subst hb;rw[aD] at e;cases e;exact new
 ·rw[bA hb] at e;exact(x b u e).stay (fun c v _ q=>k c v q) (fun c q=>by rw[bA (bG q hn)];exact q) fun c xs q=>by rw[bA (bG q hn)];exact q
end
def Rd(H:Hp)(a:Addr)(u:HO):Prop:=H a=some u\/∃ o,H a=some (.frz o u)
theorem Rd.ok{P:Program}{w:World}{H:Hp}{h:Heap}{a:Addr}{u:HO}(r:Rd H a u)(x:HOk P w H h):gq P w H h a u:=by
 rcases r with r|⟨o,r⟩
 ·exact x a u r
 ·obtain⟨_,q⟩:=x a _ r;exact q
def Mut:Option HO->Prop
 |some (.lst _)=>True
 |some (.dK _)=>True
 |some (.dT _)=>True
 |some (.set _ _)=>True
 |some (.ins _ _ _)=>True
 |some (.ext _)=>True
 |_=>False
section
variable{P:Program}{w:World}{H:Hp}{h h':Heap}{x e:Addr}{o':HO}
theorem HOk.write(ok:HOk P w H h)(mu:Mut (H x))(he:e=x\/H e=some (.own x))(k:∀ b u,b≠e->h.get? b=some u->h'.get? b=some u)(heo:∃ u,h'.get? e=some u)
  (new:gq P w (upd H x o') h' x o'):HOk P w (upd H x o') h':=fun b u q=>by
 have a1q:∀ c y,H c=some (.own y)->c≠x:=fun c y r z=>by subst z;rw[r] at mu;exact mu
 have a2D:∀ c xs,H c=some (.tup xs)->c≠x:=fun c xs r z=>by subst z;rw[r] at mu;exact mu
 by_cases hb:b=x
 ·subst hb;rw[aD] at q;cases q;exact new
 ·rw[bA hb] at q;by_cases hbe:b=e
  ·have q':H b=some (.own x):=by
    rcases he with z|z
    ·exact absurd (hbe.trans z) hb
    ·rw[hbe];exact z
   rw[q] at q';cases q';obtain⟨v,hv⟩:=heo;exact⟨v,by rw[hbe];exact hv⟩
  ·refine(ok b u q).stay (fun c v hc r=>k c v ?_ r) (fun c r=>by rw[bA (a1q c b r)];exact r) fun c xs r=>by rw[bA (a2D c xs r)];exact r
   rcases hc with rfl|hc
   ·exact hbe
   ·rintro rfl;rcases he with z|z
    ·exact a1q c b hc z
    ·rw[hc] at z;cases z;exact hb rfl
end
structure Un(fs ex:List Addr)(H H':Hp)(h h':Heap):Prop where
 keep:∀ b o,h.get? b=some o->H b=none->b∉fs->b∉ex->h'.get? b=some o
 slot:∀ b o,h.get? b=some o->H b=none->b∈fs->b∉ex->∃ sl,h'.get? b=some { o with slots:=sl }
 free:∀ b o,h.get? b=some o->H b=none->b∉ex->H' b=none
 there:∀ b o,h.get? b=some o->b∉ex->∃ o',h'.get? b=some o'
 tups:∀ b xs,H b=some (.tup xs)->H' b=some (.tup xs)
 pG:∀ b o u,H b=some (.frz o u)->H' b=some (.frz o u)
 qU:∀ b ps,H b=some (.tbl ps)->∃ more,H' b=some (.tbl (ps++more))
section
variable{fs fs' ex ex':List Addr}{H H1 H2:Hp}{h h1 h2 h':Heap}{a x e:Addr}{o:HO}
theorem Un.any(u:Un fs ex H H1 h h1){b:Addr}{ob:Obj}(q:h.get? b=some ob)(n:H b=none)(hx:b∉ex):∃ sl,h1.get? b=some { ob with slots:=sl }:=by
 by_cases hb:b∈fs
 ·exact u.slot b ob q n hb hx
 ·exact⟨ob.slots,u.keep b ob q n hb hx⟩
theorem Un.trans(a:Un fs ex H H1 h h1)(b:Un fs ex H1 H2 h1 h2):Un fs ex H H2 h h2 where
 keep:=fun c ob q n hc hx=>b.keep c ob (a.keep c ob q n hc hx) (a.free c ob q n hx) hc hx
 slot:=fun c ob q n hc hx=>by
  obtain⟨sl,e1⟩:=a.slot c ob q n hc hx;obtain⟨sl',e2⟩:=b.slot c _ e1 (a.free c ob q n hx) hc hx;exact⟨sl',e2⟩
 free:=fun c ob q n hx=>by
  obtain⟨o',e1⟩:=a.there c ob q hx;exact b.free c o' e1 (a.free c ob q n hx) hx
 there:=fun c ob q hx=>by
  obtain⟨o',e1⟩:=a.there c ob q hx;exact b.there c o' e1 hx
 tups:=fun c xs q=>b.tups c xs (a.tups c xs q)
 pG:=fun c ob xs q=>b.pG c ob xs (a.pG c ob xs q)
 qU:=fun c ps q=>by
  obtain⟨m1,e1⟩:=a.qU c ps q;obtain⟨m2,e2⟩:=b.qU c _ e1;exact⟨m1++m2,by rw[e2,Vn]⟩
theorem Un.kept(k:∀ b u,h.get? b=some u->h'.get? b=some u):Un fs ex H H h h':=
 ⟨fun b ob q _ _ _=>k b ob q,fun b ob q _ _ _=>⟨ob.slots,k b ob q⟩,fun _ _ _ n _=>n,fun b ob q _=>⟨ob,k b ob q⟩,fun _ _ q=>q,fun _ _ _ q=>q,fun _ ps q=>⟨#[],by rw[q];simp⟩⟩
theorem Un.refl:Un fs ex H H h h:=Un.kept fun _ _ q=>q
theorem Un.laid(k:∀ b u,h.get? b=some u->h'.get? b=some u)(hp:h.objs.size<=a)(hn:H a=none):Un fs ex H (upd H a o) h h' where
 keep:=fun b u q _ _ _=>k b u q
 slot:=fun b u q _ _ _=>⟨u.slots,k b u q⟩
 free:=fun b u q n _=>by rw[bA (fQ (jd (bL q) hp))];exact n
 there:=fun b u q _=>⟨u,k b u q⟩
 tups:=fun b xs q=>by rw[bA (bG q hn)];exact q
 pG:=fun b u xs q=>by rw[bA (bG q hn)];exact q
 qU:=fun b ps q=>⟨#[],by rw[bA (bG q hn),q];simp⟩
theorem Un.write(mu:Mut (H x))(he:e=x\/H e=some (.own x))(k:∀ b u,b≠e->h.get? b=some u->h'.get? b=some u)(heo:∃ u,h'.get? e=some u):Un fs ex H (upd H x o) h h':=by
 have hx:∀ b,H b=none->b≠x:=fun b n z=>by subst z;rw[n] at mu;exact mu
 have hb:∀ b,H b=none->b≠e:=fun b n z=>by
  subst z;rcases he with r|r
  ·exact hx b n r
  ·rw[n] at r;cases r
 have hm:∀ b u,H b=some u->¬Mut (some u)->b≠x:=fun b u q nm z=>by subst z;rw[q] at mu;exact nm mu
 refine⟨fun b u q n _ _=>k b u (hb b n) q,fun b u q n _ _=>⟨u.slots,k b u (hb b n) q⟩,fun b u q n _=>by rw[bA (hx b n)];exact n,fun b u q _=>?_,
  fun b xs q=>by rw[bA (hm b _ q fun z=>z)];exact q,fun b u xs q=>by rw[bA (hm b _ q fun z=>z)];exact q,fun b ps q=>⟨#[],by rw[bA (hm b _ q fun z=>z),q];simp⟩⟩
 by_cases hbe:b=e
 ·subst hbe;exact heo
 ·exact⟨u,k b u hbe q⟩
theorem Un.mono(u:Un fs ex H H1 h h1)(hs:∀ b∈fs,b∈fs')(hx:∀ b∈ex,b∈ex'):Un fs' ex' H H1 h h1:=
 ⟨fun b ob q n hb he=>u.keep b ob q n (fun z=>hb (hs b z)) fun z=>he (hx b z),fun _ _ q n _ he=>u.any q n fun z=>he (hx _ z),fun b ob q n he=>u.free b ob q n fun z=>he (hx b z),fun b ob q he=>u.there b ob q fun z=>he (hx b z),u.tups,u.pG,u.qU⟩
end
def trk(h:Heap)(H:Hp):List Addr:=(List.range h.objs.size).filter fun a=>(H a).isSome
def Dv(h:Heap)(H:Hp):Heap:=PySem.W.hideAll h (trk h H)
theorem Ow(h:Heap)(H:Hp):(Dv h H).objs.size=h.objs.size:=PySem.W.hideAll_size _ _
theorem Rp{h:Heap}{H:Hp}{b:Addr}{o:Obj}(e:h.get? b=some o)(n:H b=none):(Dv h H).get? b=some o:=
 Vj _ e fun hm=>by
  have q:(H b).isSome=true:=(cB.mp hm).2;rw[n] at q;simp at q
theorem Wm{h:Heap}{H:Hp}{b:Addr}{o:Obj}(e:(Dv h H).get? b=some o):h.get? b=some o/\H b=none:=by
 have e':h.get? b=some o:=Vo (trk h H) e;refine⟨e',?_⟩
 cases q:H b with
 |none=>rfl
 |some x=>
  have hm:b∈trk h H:=cB.mpr ⟨dH.mpr (bL e'),by simp[q]⟩;have z:(Dv h H).get? b=none:=PySem.W.hideAll_none (trk h H) hm;rw[z] at e;cases e
structure Mod(K:ao)(mg:Str->Option Value)(base:Heap):Prop where
 kin:K.In base
 glob:base.Ns mainGlobals mg
 blt:∃ mb,base.Ns builtinsNs mb/\∀ x:Str,x ≠ "__name__" -> mb x=bootBuiltins x
 nolimit:base.NoLimit
structure Cx where
 prog:Program
 w:World
 K:ao
 mg:Str->Option Value
 base:Heap
 A:Around
 N:List Str
 s₀:Shared
 H₀:Hp
 env:Env
 outer:List Env
 stack:List Env
 ex:List Addr
 fn:Str->Bool
 calm:Bool
 pn:List (Addr×Obj)
 xe:Value->Shared->Prop
def frs(l:List Env):List Addr:=l.filterMap (·.frame)
abbrev Cx.fs(X:Cx):List Addr:=frs X.outer
def Vis(sc:Scope)(x:Str):Prop:=sc.names.lookup x=some .local\/sc.names.lookup x=some .cell\/sc.names.lookup x=some .free
def Loc(sc:Scope)(x:Str):Prop:=sc.names.lookup x=some .local\/sc.names.lookup x=some .cell
def Look(env:Env)(h:Heap)(m:Str->Option Value)(x:Str)(u:Value):Prop:=
 (env.kindOf x=some .local/\m x=some u)\/((env.kindOf x=some .cell\/env.kindOf x=some .free)/\∃ c,env.cells.lookup x=some c/\h.IsCell c (some u))
structure Cx.Ok(X:Cx):Prop where
 mod:Mod X.K X.mg X.base
 kind:X.env.scope.kind=.function
 glob:X.env.globals=mainGlobals
 blt:X.env.builtins=builtinsNs
 above:X.s₀.heap.objs.size<=X.env.locals
 inj:∀ x y c,X.env.cells.lookup x=some c->X.env.cells.lookup y=some c->x=y
 has:∀ x,(X.env.kindOf x=some .cell\/X.env.kindOf x=some .free)->∃ c,X.env.cells.lookup x=some c
 cab:∀ x c,X.fn x=true->X.env.cells.lookup x=some c->X.s₀.heap.objs.size<=c
 hd:X.calm=true->X.A.handled=none
 frames:X.A.frames=some X.stack
 stk:X.stack=X.outer\/(X.stack=X.env::X.outer/\X.env.frame=some X.env.locals)
 exf:∀ b∈X.ex,b≠X.env.locals/\∀ x c,X.env.cells.lookup x=some c->c≠b
 bs:∀ b o,X.base.get? b=some o->X.s₀.heap.get? b=some o/\X.H₀ b=none
 bsz:X.base.objs.size<=X.s₀.heap.objs.size
 Pn:∀ b o,X.base.get? b=some o->b∉X.ex
 Rg:∀ b∈X.ex,b∉X.fs
 tR:X.s₀.heap.FunFrames X.base X.outer
 frf:∀ b∈X.fs,X.H₀ b=none
structure Inv(X:Cx)(pins:List (Addr×Obj))(zzs:List (Option V))(H:Hp)(s:Shared):Prop where
 ok:X.Ok
 os:s.os=X.s₀.os
 bare:AllBare s.gens
 base:Un X.fs X.ex X.H₀ H X.s₀.heap s.heap
 loc:∃ m,s.heap.Ns X.env.locals m/\∀(i:Nat)(x:Str)(v:V),X.N[i]?=some x->zzs[i]?=some (some v)->Vis X.env.scope x->∃ u,RelV v u/\Look X.env s.heap m x u
 cell:∀ x c,X.env.cells.lookup x=some c->∃ v,s.heap.IsCell c v
 free:H X.env.locals=none
 mL:∀ x c,X.env.cells.lookup x=some c->H c=none
 pin:∀ p∈X.pn++pins,s.heap.get? p.1=some p.2/\H p.1=none/\p.1≠X.env.locals/\p.1∉X.fs/\∀ v,p.2.data≠.cell v
 hok:HOk X.prog X.w H s.heap
 len:zzs.length=X.N.length
section
variable{X:Cx}{pins:List (Addr×Obj)}{zzs:List (Option V)}{H H':Hp}{s:Shared}{h':Heap}
theorem Cx.Ok.a2x(ok:X.Ok){b:Addr}{o:Obj}(e:X.base.get? b=some o):b∉X.fs:=fun hb=>by
 have:=(ok.tR.mem hb).1;rw[e] at this;cases this
theorem Inv.bs(I:Inv X pins zzs H s):∀ b o,X.base.get? b=some o->s.heap.get? b=some o/\H b=none:=fun b o e=>
 ⟨I.base.keep b o (I.ok.bs b o e).1 (I.ok.bs b o e).2 (I.ok.a2x e) (I.ok.Pn b o e),I.base.free b o (I.ok.bs b o e).1 (I.ok.bs b o e).2 (I.ok.Pn b o e)⟩
theorem Inv.bk(I:Inv X pins zzs H s):∀ b o,X.base.get? b=some o->s.heap.get? b=some o:=fun b o e=>(I.bs b o e).1
theorem Inv.mod(I:Inv X pins zzs H s):Mod X.K X.mg X.base:=I.ok.mod
theorem Inv.kIn(I:Inv X pins zzs H s):X.K.In s.heap:=I.ok.mod.kin.keeps I.bk
theorem Inv.lt(I:Inv X pins zzs H s):X.env.locals<s.heap.objs.size:=let ⟨_,hn,_⟩:=I.loc;hn.lt
theorem Inv.sz(I:Inv X pins zzs H s):X.s₀.heap.objs.size<=s.heap.objs.size:=cP I.ok.above (Fv I.lt)
theorem Inv.a2y(I:Inv X pins zzs H s){a:Addr}(h:s.heap.objs.size<=a):a∉X.fs:=fun hb=>by
 obtain⟨_,o,ho,_⟩:=I.ok.tR.mem hb;exact absurd (jd (bL ho) (cP I.sz h)) (qu _)
theorem Inv.cne(I:Inv X pins zzs H s):∀ x c,X.env.cells.lookup x=some c->c≠X.env.locals:=fun x c e z=>by
 obtain⟨v,o,ho,hd⟩:=I.cell x c e;obtain⟨m,⟨o',es,ep,ho',hd',_⟩,_⟩:=I.loc;rw[z,ho'] at ho;cases ho;rw[hd'] at hd;cases hd
theorem Inv.tR(I:Inv X pins zzs H s):s.heap.FunFrames X.base X.outer:=by
 have all:∀(l:List Env),(∀ b∈frs l,b∈X.fs)->X.s₀.heap.FunFrames X.base l->s.heap.FunFrames X.base l:=by
  intro l
  induction l with
  |nil=>intro _ _;trivial
  |cons env r ih=>
   intro hs hl;obtain⟨hk,⟨L,o,hf,hn,ho,hd⟩,hr⟩:=hl;have hL:L∈X.fs:=hs L (by unfold frs;rw[Kr,hf];exact cG);obtain⟨sl,e⟩:=I.base.slot L o ho (I.ok.frf L hL) hL fun z=>I.ok.Rg L z hL
   exact⟨hk,⟨L,_,hf,hn,e,hd⟩,ih (fun b hb=>hs b (by unfold frs;rw[Kr,hf];exact dw _ hb)) hr⟩
 exact all X.outer (fun _ hb=>hb) I.ok.tR
theorem Inv.stack(I:Inv X pins zzs H s):s.heap.FunFrames X.base X.stack:=by
 rcases I.ok.stk with e|⟨e,hf⟩
 ·rw[e];exact I.tR
 ·rw[e];obtain⟨m,hn,_⟩:=I.loc;refine .cons (by rw[I.ok.kind];decide) hf hn ?_ I.tR;exact Heap.get?_none_of_le (cP I.ok.bsz I.ok.above)
theorem Inv.rT(I:Inv X pins zzs H s):∀ b∈frs X.stack,b∈X.env.locals::X.fs:=fun b hb=>by
 rcases I.ok.stk with e|⟨e,hf⟩
 ·rw[e] at hb;exact dw _ hb
 ·rw[e] at hb;unfold frs at hb;rw[Kr,hf] at hb;exact hb
theorem Inv.ur(I:Inv X pins zzs H s):∀ b∈frs X.stack,H b=none:=fun b hb=>by
 rcases cL.mp (I.rT b hb) with e|hb
 ·rw[e];exact I.free
 ·obtain⟨_,o,ho,_⟩:=I.ok.tR.mem hb;exact I.base.free b o ho (I.ok.frf b hb) fun z=>I.ok.Rg b z hb
theorem Inv.step{g':Array GenState}{t':Nat}{d':Drawn}{ch:List Addr}(I:Inv X pins zzs H s)
  (hch:∀ b∈ch,(b∈X.ex\/X.s₀.heap.objs.size<=b)/\b≠X.env.locals/\(∀ x c,X.env.cells.lookup x=some c->c≠b)/\∀ p∈X.pn++pins,p.1≠b)
  (keep:∀ b o,b≠X.env.locals->b∉X.fs->b∉ch->s.heap.get? b=some o->H b=none->h'.get? b=some o)
  (slot:∀ b o,b≠X.env.locals->b∈X.fs->b∉ch->s.heap.get? b=some o->H b=none->∃ sl,h'.get? b=some { o with slots:=sl }) (free:∀ b o,b∉ch->s.heap.get? b=some o->H b=none->H' b=none)
  (there:∀ b o,b∉ch->s.heap.get? b=some o->∃ o',h'.get? b=some o')
  (tups:∀ b xs,H b=some (.tup xs)->H' b=some (.tup xs)) (pG:∀ b o u,H b=some (.frz o u)->H' b=some (.frz o u)) (qU:∀ b ps,H b=some (.tbl ps)->∃ more,H' b=some (.tbl (ps++more)))
  (ns:∀ m,s.heap.Ns X.env.locals m->h'.Ns X.env.locals m) (hok:HOk X.prog X.w H' h') (hg:AllBare g') :
  Inv X pins zzs H' { s with heap:=h',gens:=g',drawn:=d',toks:=t' }:=by
 have neL:∀ b o,X.s₀.heap.get? b=some o->b≠X.env.locals:=fun b o e=>fQ (jd (bL e) I.ok.above)
 have neC:∀ b o,X.s₀.heap.get? b=some o->b∉X.ex->b∉ch:=fun b o e hx hb=>by
  rcases(hch b hb).1 with z|z
  ·exact hx z
  ·exact absurd (jd (bL e) z) (qu _)
 have cellK:∀ x c,X.env.cells.lookup x=some c->∀ v,s.heap.IsCell c v->h'.IsCell c v:=fun x c e v ⟨o,ho,hd⟩=>by
  have nch:c∉ch:=fun z=>(hch c z).2.2.1 x c e rfl
  by_cases hc:c∈X.fs
  ·obtain⟨sl,q⟩:=slot c o (I.cne x c e) hc nch ho (I.mL x c e);exact⟨_,q,hd⟩
  ·exact⟨o,keep c o (I.cne x c e) hc nch ho (I.mL x c e),hd⟩
 refine⟨I.ok,I.os,hg,⟨fun b o e n hb hx=>?_,fun b o e n hb hx=>?_,fun b o e n hx=>?_,fun b o e hx=>?_,fun b xs e=>tups b xs (I.base.tups b xs e),fun b o xs e=>pG b o xs (I.base.pG b o xs e),fun b ps e=>?_⟩,?_,fun x c e=>?_,?_,fun x c e=>?_,fun p hp=>?_,hok,I.len⟩
 ·exact keep b o (neL b o e) hb (neC b o e hx) (I.base.keep b o e n hb hx) (I.base.free b o e n hx)
 ·obtain⟨sl,e1⟩:=I.base.slot b o e n hb hx;obtain⟨sl',e2⟩:=slot b _ (neL b o e) hb (neC b o e hx) e1 (I.base.free b o e n hx);exact⟨sl',e2⟩
 ·obtain⟨o',e1⟩:=I.base.there b o e hx;exact free b o' (neC b o e hx) e1 (I.base.free b o e n hx)
 ·obtain⟨o',e1⟩:=I.base.there b o e hx;exact there b o' (neC b o e hx) e1
 ·obtain⟨m1,e1⟩:=I.base.qU b ps e;obtain⟨m2,e2⟩:=qU b _ e1;exact⟨m1++m2,by rw[e2,Vn]⟩
 ·obtain⟨m,hn,hl⟩:=I.loc;refine⟨m,ns m hn,fun i x v e1 e2 e3=>?_⟩;obtain⟨u,r,l⟩:=hl i x v e1 e2 e3;refine⟨u,r,?_⟩;rcases l with l|⟨k,c,e,z⟩
  ·exact .inl l
  ·exact .inr ⟨k,c,e,cellK x c e _ z⟩
 ·obtain⟨v,z⟩:=I.cell x c e;exact⟨v,cellK x c e v z⟩
 ·obtain⟨m,⟨o,_,_,ho,_⟩,_⟩:=I.loc;exact free _ o (fun z=>(hch _ z).2.1 rfl) ho I.free
 ·obtain⟨v,o,ho,hd⟩:=I.cell x c e;exact free c o (fun z=>(hch c z).2.2.1 x c e rfl) ho (I.mL x c e)
 ·obtain⟨e,n,ne,nf,d⟩:=I.pin p hp;have nch:p.1∉ch:=fun z=>(hch p.1 z).2.2.2 p hp rfl
  exact⟨keep p.1 p.2 ne nf nch e n,free p.1 p.2 nch e n,ne,nf,d⟩
theorem Inv.un{t':Nat}(I:Inv X pins zzs H s)(u:Un X.fs [] H H' s.heap h')(hok:HOk X.prog X.w H' h'):Inv X pins zzs H' { s with heap:=h',toks:=t' }:=by
 obtain⟨m,⟨o,es,ep,ho,r⟩,_⟩:=id I.loc;obtain⟨sl,hL⟩:=u.any ho I.free (by simp);exact I.step (g':=s.gens) (d':=s.drawn) (ch:=[]) (fun _ z=>nomatch z) (fun b o _ hb _ e n=>u.keep b o e n hb (by simp)) (fun b o _ hb _ e n=>u.slot b o e n hb (by simp)) (fun b o _ e n=>u.free b o e n (by simp)) (fun b o _ e=>u.there b o e (by simp)) u.tups u.pG u.qU (fun m' hm=>by
  obtain⟨o',es',ep',ho',r'⟩:=hm;rw[ho] at ho';cases ho';exact⟨_,es',ep',hL,r'⟩) hok I.bare
theorem Inv.call{g':Array GenState}{t':Nat}{d':Drawn}{ch:List Addr}(I:Inv X pins zzs H s)(u:Un (frs X.stack) ch H H' s.heap h')(hok:HOk X.prog X.w H' h')(hg:AllBare g')
  (hch:∀ b∈ch,(b∈X.ex\/X.s₀.heap.objs.size<=b)/\b≠X.env.locals/\(∀ x c,X.env.cells.lookup x=some c->c≠b)/\∀ p∈X.pn++pins,p.1≠b) :
  Inv X pins zzs H' { s with heap:=h',gens:=g',drawn:=d',toks:=t' }:=by
 obtain⟨m,⟨o,es,ep,ho,r⟩,_⟩:=id I.loc;obtain⟨sl,hL⟩:=u.any ho I.free fun z=>(hch _ z).2.1 rfl
 exact I.step (ch:=ch) hch (fun b o hL hb hc e n=>u.keep b o e n (fun z=>(cL.mp (I.rT b z)).elim hL hb) hc) (fun b o _ _ hc e n=>u.any e n hc) (fun b o hc e n=>u.free b o e n hc) (fun b o hc e=>u.there b o e hc) u.tups u.pG u.qU (fun m' hm=>by
  obtain⟨o',es',ep',ho',r'⟩:=hm;rw[ho] at ho';cases ho';exact⟨_,es',ep',hL,r'⟩) hok hg
theorem Inv.turned{t':Nat}{it:Addr}(I:Inv X pins zzs H s)(k:∀ b o,b≠it->s.heap.get? b=some o->h'.get? b=some o)(hn:H it=none)(hL:it≠X.env.locals)
  (h1:it∈X.ex\/X.s₀.heap.objs.size<=it) (h2:∀ x c,X.env.cells.lookup x=some c->c≠it) (h3:∀ p∈X.pn++pins,p.1≠it):Inv X pins zzs H { s with heap:=h',toks:=t' }:=by
 have nit:∀ b u,H b=some u->b≠it:=fun b u e z=>by rw[z,hn] at e;cases e
 refine I.step (g':=s.gens) (d':=s.drawn) (ch:=[it]) (fun b hb=>?_) (fun b o _ _ hc e _=>k b o (fun z=>hc (by simp[z])) e) (fun b o _ _ hc e _=>⟨o.slots,k b o (fun z=>hc (by simp[z])) e⟩) (fun _ _ _ _ n=>n)
  (fun b o hc e=>⟨o,k b o (fun z=>hc (by simp[z])) e⟩) (fun _ _ e=>e) (fun _ _ _ e=>e) (fun b ps e=>⟨#[],by rw[e];simp⟩) (fun m hm=>?_) (fun b u e=>?_) I.bare
 ·have e:b=it:=by simpa using hb
  subst e;exact⟨h1,hL,h2,h3⟩
 ·obtain⟨o,es,ep,ho,r⟩:=hm;exact⟨o,es,ep,k _ o (jy hL) ho,r⟩
 ·refine(I.hok b u e).stay (fun c v hc q=>k c v ?_ q) (fun _ q=>q) fun _ _ q=>q
  rcases hc with z|z
  ·rw[z];exact nit b u e
  ·exact nit c _ z
theorem Inv.tok(I:Inv X pins zzs H s)(t:Nat):Inv X pins zzs H { s with toks:=t }:=I.un (h':=s.heap) (t':=t) Un.refl I.hok
theorem Inv.kept{t':Nat}(I:Inv X pins zzs H s)(k:∀ b u,s.heap.get? b=some u->h'.get? b=some u):Inv X pins zzs H { s with heap:=h',toks:=t' }:=I.un (Un.kept k) (I.hok.kept k)
theorem Inv.laid{a:Addr}{o:HO}{t':Nat}(I:Inv X pins zzs H s)(k:∀ b u,s.heap.get? b=some u->h'.get? b=some u)(hp:s.heap.objs.size<=a)(new:gq X.prog X.w (upd H a o) h' a o) :
  Inv X pins zzs (upd H a o) { s with heap:=h',toks:=t' }:=I.un (Un.laid k hp (I.hok.fresh hp)) (I.hok.laid k hp new)
theorem Inv.write{x e:Addr}{o:HO}{t':Nat}(I:Inv X pins zzs H s)(mu:Mut (H x))(he:e=x\/H e=some (.own x))(k:∀ b u,b≠e->s.heap.get? b=some u->h'.get? b=some u)(heo:∃ u,h'.get? e=some u)
  (new:gq X.prog X.w (upd H x o) h' x o):Inv X pins zzs (upd H x o) { s with heap:=h',toks:=t' }:=I.un (Un.write mu he k heo) (I.hok.write mu he k heo new)
theorem Inv.ug{Yb:List (Addr×Obj)}(I:Inv X pins zzs H s)(h:∀ p∈Yb,s.heap.get? p.1=some p.2/\H p.1=none/\p.1≠X.env.locals/\p.1∉X.fs/\∀ v,p.2.data≠.cell v):Inv X Yb zzs H s:=
 ⟨I.ok,I.os,I.bare,I.base,I.loc,I.cell,I.free,I.mL,fun p hp=>(cO.mp hp).elim (fun z=>I.pin p (j7 _ z)) (h p),I.hok,I.len⟩
theorem GZ{N:List Str}(hN:N.Nodup){i j:Nat}{x:Str}(a:N[i]?=some x)(b:N[j]?=some x):i=j:=by
 obtain⟨h1,e1⟩:=j9.mp a;obtain⟨h2,e2⟩:=j9.mp b;exact(List.getElem_inj hN).mp (e1.trans e2.symm)
theorem Cq{M:Model}{A:Around}{E:Value->Shared->Prop}{i:Nat}{x:Str}{v:V}{u:Value}{Q:Unit->Shared->Prop}(I:Inv X pins zzs H s)(hN:X.N.Nodup)(hi:X.N[i]?=some x)(hx:Loc X.env.scope x)(r:RelV v u)
  (h:∀ s',Inv X pins (zzs.set i (some v)) H s'->(∃ a,Heap.SameBut a s.heap s'.heap/\(a=X.env.locals\/X.env.cells.lookup x=some a))->Q () s') (hf:X.fn x=true\/X.env.scope.names.lookup x=some .local:=by first|exact .inl rfl|exact .inr rfl|assumption):wpAny M A (storeName X.env x u) Q E s:=by
 obtain⟨m,hn,hl⟩:=id I.loc;have hcls:(X.env.scope.kind==.class||(X.env.scope.kind==.module&&X.env.locals != X.env.globals))=false:=by rw[I.ok.kind];rfl
 have Y6:i<zzs.length:=by rw[I.len];exact(j9.mp hi).1
 have cne:=I.cne;have tracked:∀ {a:Addr} {h':Heap},(∃ o,s.heap.get? a=some o/\H a=none)->Heap.SameBut a s.heap h'->HOk X.prog X.w H h':=fun {a h'} ha hs b ob e=>by
  obtain⟨_,_,hfree⟩:=ha;refine(I.hok b ob e).stay (fun c w' hc q=>(hs.2 c ?_).trans q) (fun _ q=>q) fun _ _ q=>q
  rintro rfl;rcases hc with rfl|hc
  ·rw[hfree] at e;cases e
  ·rw[hfree] at hc;cases hc
 rcases hx with hk|hk
 ·refine wpAny_storeName_local hk hn (fun h' hn' hs=>?_) hcls;obtain⟨oL,_,_,hoL,_⟩:=id hn;refine h _ ⟨I.ok,I.os,I.bare,⟨fun b o e n hb hx=>?_,fun b o e n hb hx=>?_,I.base.free,fun b o e hx=>?_,I.base.tups,I.base.pG,I.base.qU⟩,⟨_,hn',fun j y v' e1 e2 e3=>?_⟩,fun y c e=>?_,I.free,I.mL,fun p hp=>?_,tracked ⟨oL,hoL,I.free⟩ hs,by simpa using I.len⟩ ⟨_,hs,.inl rfl⟩
  ·exact(hs.2 b (fQ (jd (bL e) I.ok.above))).trans (I.base.keep b o e n hb hx)
  ·obtain⟨sl,e1⟩:=I.base.slot b o e n hb hx;exact⟨sl,(hs.2 b (fQ (jd (bL e) I.ok.above))).trans e1⟩
  ·obtain⟨o',e1⟩:=I.base.there b o e hx;exact⟨o',(hs.2 b (fQ (jd (bL e) I.ok.above))).trans e1⟩
  ·by_cases hj:j=i
   ·subst hj;rw[hi] at e1;cases e1;rw[Kg Y6] at e2
    cases e2
    exact⟨u,r,.inl ⟨hk,by simp⟩⟩
   ·rw[Vg (jy hj)] at e2;obtain⟨u',r',q⟩:=hl j y v' e1 e2 e3;refine⟨u',r',?_⟩;rcases q with⟨k,e⟩|⟨k,c,e,z⟩
    ·refine .inl ⟨k,?_⟩;have:y≠x:=fun e=>hj (GZ hN e1 (e▸hi))
     simp[this,e]
    ·exact .inr ⟨k,c,e,z.sameBut hs (cne y c e)⟩
  ·obtain⟨w',z⟩:=I.cell y c e;exact⟨w',z.sameBut hs (cne y c e)⟩
  ·obtain⟨e,n,ne,nf,d⟩:=I.pin p hp;exact⟨(hs.2 p.1 ne).trans e,n,ne,nf,d⟩
 ·have hfn:X.fn x=true:=by
   rcases hf with z|z
   ·exact z
   ·rw[z] at hk;cases hk
  obtain⟨c,hc⟩:=I.ok.has x (.inl hk);obtain⟨w',z⟩:=I.cell x c hc;refine wpAny_storeName_cell I.ok.kind hk hc z (fun h' hc' hs=>?_);obtain⟨oc,hoc,a2p⟩:=id z;refine h { s with heap:=h' } ⟨I.ok,I.os,I.bare,⟨fun b o e n hb hx=>?_,fun b o e n hb hx=>?_,I.base.free,fun b o e hx=>?_,I.base.tups,I.base.pG,I.base.qU⟩,⟨m,hn.sameBut hs (jy (cne x c hc)),fun j y v' e1 e2 e3=>?_⟩,fun y c' e=>?_,I.free,I.mL,fun p hp=>?_,tracked ⟨oc,hoc,I.mL x c hc⟩ hs,by simpa using I.len⟩ ⟨c,hs,.inr hc⟩
  ·exact(hs.2 b (fQ (jd (bL e) (I.ok.cab x c hfn hc)))).trans (I.base.keep b o e n hb hx)
  ·obtain⟨sl,e1⟩:=I.base.slot b o e n hb hx;exact⟨sl,(hs.2 b (fQ (jd (bL e) (I.ok.cab x c hfn hc)))).trans e1⟩
  ·obtain⟨o',e1⟩:=I.base.there b o e hx;exact⟨o',(hs.2 b (fQ (jd (bL e) (I.ok.cab x c hfn hc)))).trans e1⟩
  ·by_cases hj:j=i
   ·subst hj;rw[hi] at e1;cases e1;rw[Kg Y6] at e2
    cases e2
    exact⟨u,r,.inr ⟨.inl hk,c,hc,hc'⟩⟩
   ·rw[Vg (jy hj)] at e2;obtain⟨u',r',q⟩:=hl j y v' e1 e2 e3;refine⟨u',r',?_⟩;rcases q with q|⟨k,c',e,z'⟩
    ·exact .inl q
    ·refine .inr ⟨k,c',e,z'.sameBut hs ?_⟩;rintro rfl;exact hj (GZ hN e1 (I.ok.inj _ _ _ e hc▸hi))
  ·by_cases hcc:c'=c
   ·subst hcc;exact⟨_,hc'⟩
   ·obtain⟨w2,z2⟩:=I.cell y c' e;exact⟨w2,z2.sameBut hs hcc⟩
  ·obtain⟨e,n,ne,nf,d⟩:=I.pin p hp;refine⟨(hs.2 p.1 ?_).trans e,n,ne,nf,d⟩;intro q;rw[q,hoc] at e;have q':oc=p.2:=gO e;exact d w' (by rw[<- q'];exact a2p)
theorem qd{M:Model}{A:Around}{E:Value->Shared->Prop}{i:Nat}{x:Str}{v:V}{u:Value}{Q:Unit->Shared->Prop}(I:Inv X pins zzs H s)(hN:X.N.Nodup)(hi:X.N[i]?=some x)(hx:Loc X.env.scope x)(r:RelV v u)
  (h:∀ s',Inv X pins (zzs.set i (some v)) H s'->Q () s') (hf:X.fn x=true\/X.env.scope.names.lookup x=some .local:=by first|exact .inl rfl|exact .inr rfl|assumption):wpAny M A (storeName X.env x u) Q E s:=
 Cq I hN hi hx r (fun s' I' _=>h s' I') hf
theorem Inv.call'{s':Shared}{ch:List Addr}(I:Inv X pins zzs H s)(ho:s'.os=s.os)(u:Un (frs X.stack) ch H H' s.heap s'.heap)(hok:HOk X.prog X.w H' s'.heap)(hg:AllBare s'.gens)
  (hch:∀ b∈ch,(b∈X.ex\/X.s₀.heap.objs.size<=b)/\b≠X.env.locals/\(∀ x c,X.env.cells.lookup x=some c->c≠b)/\∀ p∈X.pn++pins,p.1≠b):Inv X pins zzs H' s':=by
 obtain⟨h',g',d',t',o'⟩:=s';have e:o'=s.os:=ho;subst e;exact I.call (g':=g') (t':=t') (d':=d') u hok hg hch
end
abbrev XK:=Value->Option Addr->Hp->Prop
abbrev St:=List (Option V)
abbrev VK:=V->Hp->Prop
abbrev TE:=St->Hp->VK->Prop
abbrev TT:=St->Hp->(Bool->Hp->Prop)->Prop
abbrev TA:=St->Hp->(List V->Hp->Prop)->Prop
structure Ends where
 nx:St->Hp->Prop
 rt:VK
 bk:St->Hp->Prop:=fun _ _=>False
 ct:St->Hp->Prop:=fun _ _=>False
abbrev TS:=Ends->St->Hp->Prop
def EP(X:Cx)(pins:List (Addr×Obj))(zzs:St)(Q:VK)(u:Value)(s':Shared):Prop:=∃ v H',Inv X pins zzs H' s'/\RelV v u/\Q v H'
def TP(X:Cx)(pins:List (Addr×Obj))(zzs:St)(Q:Bool->Hp->Prop)(b:Bool)(s':Shared):Prop:=∃ H',Inv X pins zzs H' s'/\Q b H'
def AP(X:Cx)(pins:List (Addr×Obj))(zzs:St)(Q:List V->Hp->Prop)(us:List Value)(s':Shared):Prop:=∃ vs H',Inv X pins zzs H' s'/\Vals vs us/\Q vs H'
def SP(X:Cx)(pins:List (Addr×Obj))(D:Ends)(f:Flow)(s':Shared):Prop:=
 match f with
 |.next=>∃ bB H',Inv X pins bB H' s'/\D.nx bB H'
 |.brk=>∃ bB H',Inv X pins bB H' s'/\D.bk bB H'
 |.cont=>∃ bB H',Inv X pins bB H' s'/\D.ct bB H'
 |.ret u=>∃ v bB H',Inv X pins bB H' s'/\RelV v u/\D.rt v H'
def PE(X:Cx)(e:Expr)(t:TE):Prop:=
 ∀(pins:List (Addr×Obj))(s:Shared)(zzs:St)(H:Hp)(Q:VK),Inv X pins zzs H s->t zzs H Q->wpAny (model X.prog X.w) X.A (eval e X.env) (EP X pins zzs Q) X.xe s
def PT(X:Cx)(e:Expr)(t:TT):Prop:=
 ∀(pins:List (Addr×Obj))(s:Shared)(zzs:St)(H:Hp)(Q:Bool->Hp->Prop),Inv X pins zzs H s->t zzs H Q->wpAny (model X.prog X.w) X.A (isTrue e X.env (eval e X.env)) (TP X pins zzs Q) X.xe s
def PW(X:Cx)(e:Expr)(t:TT):Prop:=
 ∀(whole:Sem Value)(pins:List (Addr×Obj))(s:Shared)(zzs:St)(H:Hp)(Q:Bool->Hp->Prop),Inv X pins zzs H s->t zzs H Q->wpAny (model X.prog X.w) X.A (isTrue e X.env whole) (TP X pins zzs Q) X.xe s
theorem PW.pt{X:Cx}{e:Expr}{t:TT}(h:PW X e t):PT X e t:=h _
def PA(X:Cx)(es:List Expr)(t:TA):Prop:=
 ∀(pos:Pos)(pins:List (Addr×Obj))(s:Shared)(zzs:St)(H:Hp)(Q:List V->Hp->Prop),Inv X pins zzs H s->t zzs H Q->wpAny (model X.prog X.w) X.A (spliced (backTo pos (starEach es X.env))) (AP X pins zzs Q) X.xe s
def PS(X:Cx)(st:Stmt)(t:TS):Prop:=
 ∀(pins:List (Addr×Obj))(s:Shared)(zzs:St)(H:Hp)(D:Ends),Inv X pins zzs H s->t D zzs H->wpAny (model X.prog X.w) X.A (exec st X.env) (SP X pins D) X.xe s
def PSs(X:Cx)(st:List Stmt)(t:TS):Prop:=
 ∀(pins:List (Addr×Obj))(s:Shared)(zzs:St)(H:Hp)(D:Ends),Inv X pins zzs H s->t D zzs H->wpAny (model X.prog X.w) X.A (execs st X.env) (SP X pins D) X.xe s
theorem thn{α:Type}{t:Sem α}{Q Q':α->Shared->Prop}{M:Model}{A:Around}{E:Value->Shared->Prop}{s:Shared}(h:wpAny M A t Q E s)(hQ:∀ a s,Q a s->Q' a s):wpAny M A t Q' E s:=iM h hQ fun _ _ x=>x
section
variable{X:Cx}
def a1Z(i:Nat):TE:=fun zzs H Q=>∃ v,zzs[i]?=some (some v)/\Q v H
def tC(v:V):TE:=fun _ H Q=>Q v H
theorem a0c{i:Nat}{x:Str}{pos:Pos}(hN:X.N[i]?=some x)(hv:Vis X.env.scope x) (hd:(x==("__debug__" : Str))=false:=by decide) (hcd:(x==("__classdict__" : Str))=false:=by decide):PE X (.Name x pos) (a1Z i):=by
 intro pins s zzs H Q I h;obtain⟨v,e,h⟩:=h;obtain⟨m,hn,hl⟩:=I.loc;obtain⟨u,r,l⟩:=hl i x v hN e hv;have fin:EP X pins zzs Q u s:=⟨v,H,I,r,h⟩
 rcases l with⟨hk,hm⟩|⟨hk,c,hc,hcell⟩
 ·exact wpAny_Name (wpAny_loadName_local I.ok.kind hk hn hm fin) hd
 ·rcases hk with hk|hk
  ·exact wpAny_Name (wpAny_loadName_cell I.ok.kind hk hc hcell fin) hd
  ·exact wpAny_Name (wpAny_loadName_free I.ok.kind hk hc hcell fin hcd) hd
theorem a05 {i j pos}:PE X (.Constant (.int i) j pos) (tC (.int i)):=fun _ _ _ H _ I h=>wpAny_Constant_int ⟨.int i,H,I.tok _,⟨_,rfl⟩,h⟩
theorem a1s {b j pos}:PE X (.Constant (.bool b) j pos) (tC (.bl b)):=fun _ _ _ H _ I h=>Constant_bool ⟨.bl b,H,I,rfl,h⟩
theorem a07 {j pos}:PE X (.Constant .none j pos) (tC .non):=fun _ _ _ H _ I h=>Constant_none ⟨.non,H,I,rfl,h⟩
theorem a0a {x j pos}:PE X (.Constant (.str x) j pos) (tC (.str x)):=fun _ _ _ H _ I h=>Calls.Constant_str ⟨.str x,H,I.tok _,⟨_,rfl⟩,h⟩
def Gl(X:Cx)(x:Str):Prop:=X.env.kindOf x=some .globalImplicit
theorem qJ{E:Value->Shared->Prop}{pins:List (Addr×Obj)}{s:Shared}{zzs:St}{H:Hp}{x:Str}{u:Value}{pos:Pos}{Q:Value->Shared->Prop}(I:Inv X pins zzs H s)(hg:Gl X x)(hm:X.mg x=some u)(h:Q u s)
  (hd:(x==("__debug__" : Str))=false:=by decide):wpAny (model X.prog X.w) X.A (eval (.Name x pos) X.env) Q E s:=
 UG I.ok.kind hg (Calls.loadGlobal_global (by rw[I.ok.glob];exact I.mod.glob.keeps I.bk) hm h) hd
theorem DP{E:Value->Shared->Prop}{pins:List (Addr×Obj)}{s:Shared}{zzs:St}{H:Hp}{x:Str}{u:Value}{pos:Pos}{Q:Value->Shared->Prop}(I:Inv X pins zzs H s)(hg:Gl X x)(hm:X.mg x=none)(hv:bootBuiltins x=some u)(h:Q u s)
  (hn:x ≠ "__name__":=by decide) (hd:(x==("__debug__" : Str))=false:=by decide):wpAny (model X.prog X.w) X.A (eval (.Name x pos) X.env) Q E s:=by
 obtain⟨mb,h1,h2⟩:=I.mod.blt;exact UG I.ok.kind hg (Calls.loadGlobal_builtin (by rw[I.ok.glob];exact I.mod.glob.keeps I.bk) hm (by rw[I.ok.blt];exact h1.keeps I.bk) ((h2 x hn).trans hv) h) hd
theorem MJ{x:Str}{v:V}{u:Value}{pos:Pos}(hg:Gl X x)(hm:X.mg x=some u)(r:RelV v u) (hd:(x==("__debug__" : Str))=false:=by decide):PE X (.Name x pos) (tC v):=
 fun _ _ _ H _ I h=>qJ I hg hm ⟨v,H,I,r,h⟩ hd
variable{a b:Expr}{ta tb:TE}{pos:Pos}
def tB(t:TE):TT:=fun zzs H Q=>t zzs H fun x H1=>∃ c,x=.bl c/\Q c H1
theorem a0p{e:Expr}{t:TE}(h:PE X e t)(he:∀ whole,isTrue e X.env whole=(do let v <- whole;standAt e.pos;holding [v] (truthy v)):=by intro _;rfl):PT X e (tB t):=by
 intro pins s zzs H Q I hw;refine isTrue_plain (thn (h pins s zzs H _ I hw) fun v s1 ⟨x,H1,I1,r1,q1⟩=>?_) (he _);obtain⟨d,rfl,q⟩:=q1
 cases r1
 exact uF ⟨H1,I1,q⟩
variable{tA tB':TT}{rest:List Expr}
def a1T(t u:TT):TT:=fun zzs H Q=>t zzs H fun c H1=>if c=true then u zzs H1 Q else Q false H1
def tOr(t u:TT):TT:=fun zzs H Q=>t zzs H fun c H1=>if c=true then Q true H1 else u zzs H1 Q
def a1V(t:TT):TT:=fun zzs H Q=>t zzs H fun c H1=>Q (!c) H1
theorem pw_and1(ha:PT X a tA):PW X (.BoolOp .And [a] pos) tA:=by
 intro wh pins s zzs H Q I h;refine isTrue_and (thn (ha pins s zzs H Q I h) fun c s1 e=>?_)
 cases c with
 |true=>exact isTrue_and_nil e
 |false=>exact e
theorem pw_or1(ha:PT X a tA):PW X (.BoolOp .Or [a] pos) tA:=by
 intro wh pins s zzs H Q I h;refine isTrue_or (thn (ha pins s zzs H Q I h) fun c s1 e=>?_)
 cases c with
 |false=>exact isTrue_or_nil e
 |true=>exact e
theorem pw_and(ha:PT X a tA)(hb:PW X (.BoolOp .And (b::rest) pos) tB'):PW X (.BoolOp .And (a::b::rest) pos) (a1T tA tB'):=by
 intro wh pins s zzs H Q I h;refine isTrue_and (thn (ha pins s zzs H _ I h) fun c s1 ⟨H1,I1,q1⟩=>?_)
 cases c with
 |true=>exact hb wh pins s1 zzs H1 Q I1 q1
 |false=>exact⟨H1,I1,q1⟩
theorem pw_or(ha:PT X a tA)(hb:PW X (.BoolOp .Or (b::rest) pos) tB'):PW X (.BoolOp .Or (a::b::rest) pos) (tOr tA tB'):=by
 intro wh pins s zzs H Q I h;refine isTrue_or (thn (ha pins s zzs H _ I h) fun c s1 ⟨H1,I1,q1⟩=>?_)
 cases c with
 |true=>exact⟨H1,I1,q1⟩
 |false=>exact hb wh pins s1 zzs H1 Q I1 q1
theorem a0o(ha:PT X a tA):PT X (.UnaryOp .Not a pos) (a1V tA):=by
 intro pins s zzs H Q I h;exact isTrue_not (ha pins s zzs H (fun c H1=>Q (!c) H1) I h)
def Yr(ta tb:TE):TE:=fun zzs H Q=>ta zzs H fun x H1=>∃ c,x=.bl c/\if c=true then tb zzs H1 Q else Q (.bl false) H1
def Yy(ta:TE):TE:=fun zzs H Q=>ta zzs H fun x H1=>∃ c,x=.bl c/\Q (.bl (!c)) H1
theorem a09 {op} {t:TE} (h:PE X a t):PE X (.BoolOp op [a] pos) t:=fun pins s zzs H Q I hw=>BoolOp_one (h pins s zzs H Q I hw)
theorem a01(ha:PE X a ta)(hb:PE X (.BoolOp .And (b::rest) pos) tb):PE X (.BoolOp .And (a::b::rest) pos) (Yr ta tb):=by
 intro pins s zzs H Q I h;refine BoolOp_and (thn (ha pins s zzs H _ I h) fun v s1 ⟨x,H1,I1,r1,q1⟩=>?_);obtain⟨c,rfl,q1⟩:=q1
 cases r1
 refine uF ?_
 cases c with
 |true=>exact hb pins s1 zzs H1 Q I1 q1
 |false=>exact⟨.bl false,H1,I1,rfl,q1⟩
theorem a08(ha:PE X a ta):PE X (.UnaryOp .Not a pos) (Yy ta):=by
 intro pins s zzs H Q I h;refine UnaryOp_ (thn (ha pins s zzs H _ I h) fun v s1 ⟨x,H1,I1,r1,q1⟩=>?_);obtain⟨c,rfl,q1⟩:=q1
 cases r1
 exact not_of (uF ⟨.bl (!c),H1,I1,rfl,q1⟩)
end
def SqL(K:ao)(H:Hp)(a:Addr)(xs:List V):Prop:=
 Rd H a (.lst xs) \/
  ∃(o:Obj)(its:Array Value)(n:Nat),K.lookup a=some o/\o.cls=.type "list" /\ o.dict=none/\o.data=.seq its n/\its.size<=sizeLine/\Vals xs its.toList
def SqT(K:ao)(H:Hp)(a:Addr)(xs:List V):Prop:=
 Rd H a (.tup xs) \/
  ∃(o:Obj)(its:Array Value)(n:Nat),K.lookup a=some o/\o.cls=.type "tuple" /\ o.data=.seq its n/\its.size<=sizeLine/\Vals xs its.toList
def a2k:Value->Option V
 |.none=>some .non
 |.bool b=>some (.bl b)
 |.int i _=>some (.int i)
 |.str x _=>some (.str x)
 |.bytes b _=>some (.byt b)
 |.float b _=>some (.flt b)
 |.ref a=>some (.ref a)
 |.type n=>some (.ty n)
 |_=>none
theorem RelV.abs{x:V}{u:Value}(r:RelV x u):a2k u=some x:=by
 cases x with
 |non=>cases r;rfl
 |bl _=>cases r;rfl
 |int _=>obtain⟨t,rfl⟩:=r;rfl
 |str _=>obtain⟨t,rfl⟩:=r;rfl
 |byt _=>obtain⟨t,rfl⟩:=r;rfl
 |flt _=>obtain⟨t,rfl⟩:=r;rfl
 |ref _=>cases r;rfl
 |ty _=>cases r;rfl
theorem RelV.inj{x y:V}{u:Value}(r:RelV x u)(q:RelV y u):x=y:=gO (r.abs.symm.trans q.abs)
theorem Vals.inj:∀ {xs ys:List V} {us:List Value},Vals xs us->Vals ys us->xs=ys
 |_,_,_,.nil,.nil=>rfl
 |_,_,_,.cons r t,.cons r' t'=>by rw[r.inj r',Vals.inj t t']
section
variable{X:Cx}{pins:List (Addr×Obj)}{zzs:St}{H:Hp}{s:Shared}{a:Addr}{xs ys:List V}
theorem SqL.of{K:ao}(h:H a=some (.lst xs)):SqL K H a xs:=.inl (.inl h)
theorem SqT.of{K:ao}(h:H a=some (.tup xs)):SqT K H a xs:=.inl (.inl h)
theorem Inv.list(I:Inv X pins zzs H s)(h:SqL X.K H a xs):∃ its:List Value,Vals xs its/\PlainL s.heap a its.toArray/\xs.length<=sizeLine:=by
 rcases h with h|⟨o,its,n,hk,hc,hd,hs,hz,r⟩
 ·obtain⟨z,its,n,r,e⟩:=h.ok I.hok;exact⟨its,r,⟨_,n,e,rfl,rfl,rfl⟩,z⟩
 ·refine⟨its.toList,r,⟨o,n,I.kIn a o hk,hc,hd,by simpa using hs⟩,?_⟩;have e:=r.length;simp only[lD] at e;lia
theorem Inv.tuple(I:Inv X pins zzs H s)(h:SqT X.K H a xs):∃ its:List Value,Vals xs its/\IsTup s.heap a its.toArray/\xs.length<=sizeLine:=by
 rcases h with h|⟨o,its,n,hk,hc,hs,hz,r⟩
 ·obtain⟨z,its,r,p⟩:=h.ok I.hok;exact⟨its,r,p,z⟩
 ·refine⟨its.toList,r,⟨o,I.kIn a o hk,hc,n,by simpa using hs⟩,?_⟩;have e:=r.length;simp only[lD] at e;lia
theorem Inv.GK(I:Inv X pins zzs H s)(h:SqL X.K H a xs)(h':SqL X.K H a ys):xs=ys:=by
 obtain⟨its,r,⟨o,n,e,_,_,d⟩,_⟩:=I.list h;obtain⟨its',r',⟨o',n',e',_,_,d'⟩,_⟩:=I.list h';rw[e] at e';cases e';rw[d] at d';injection d' with d1 _;have:its=its':=by simpa using congrArg Array.toList d1
 subst this;exact r.inj r'
theorem Inv.Qo(I:Inv X pins zzs H s)(h:SqT X.K H a xs)(h':SqT X.K H a ys):xs=ys:=by
 obtain⟨its,r,⟨o,e,_,n,d⟩,_⟩:=I.tuple h;obtain⟨its',r',⟨o',e',_,n',d'⟩,_⟩:=I.tuple h';rw[e] at e';cases e';rw[d] at d';injection d' with d1 _;have:its=its':=by simpa using congrArg Array.toList d1
 subst this;exact r.inj r'
end
abbrev Cx.wish(X:Cx)(E:Value->Shared->Prop):Cx:={ X with xe:=E }
abbrev Cx.nox(X:Cx):Cx:=X.wish fun _ _=>False
theorem Cx.Ok.wish{X:Cx}(ok:X.Ok)(E:Value->Shared->Prop):(X.wish E).Ok:=
 ⟨ok.mod,ok.kind,ok.glob,ok.blt,ok.above,ok.inj,ok.has,ok.cab,ok.hd,ok.frames,ok.stk,ok.exf,ok.bs,ok.bsz,ok.Pn,ok.Rg,ok.tR,ok.frf⟩
theorem Cx.Ok.jM{X:Cx}{E:Value->Shared->Prop}(ok:(X.wish E).Ok):X.Ok:=
 ⟨ok.mod,ok.kind,ok.glob,ok.blt,ok.above,ok.inj,ok.has,ok.cab,ok.hd,ok.frames,ok.stk,ok.exf,ok.bs,ok.bsz,ok.Pn,ok.Rg,ok.tR,ok.frf⟩
section
variable{X:Cx}{pins:List (Addr×Obj)}{zzs:St}{H:Hp}{s:Shared}{E:Value->Shared->Prop}
theorem Inv.wish(I:Inv X pins zzs H s)(E:Value->Shared->Prop):Inv (X.wish E) pins zzs H s:=⟨I.ok.wish E,I.os,I.bare,I.base,I.loc,I.cell,I.free,I.mL,I.pin,I.hok,I.len⟩
theorem Inv.jM(I:Inv (X.wish E) pins zzs H s):Inv X pins zzs H s:=⟨I.ok.jM,I.os,I.bare,I.base,I.loc,I.cell,I.free,I.mL,I.pin,I.hok,I.len⟩
theorem SP.jM{D:Ends}{f:Flow}{s':Shared}(h:SP (X.wish E) pins D f s'):SP X pins D f s':=by
 cases f with
 |next=>obtain⟨bB,H',I,q⟩:=h;exact⟨bB,H',I.jM,q⟩
 |brk=>obtain⟨bB,H',I,q⟩:=h;exact⟨bB,H',I.jM,q⟩
 |cont=>obtain⟨bB,H',I,q⟩:=h;exact⟨bB,H',I.jM,q⟩
 |ret u=>obtain⟨v,bB,H',I,r,q⟩:=h;exact⟨v,bB,H',I.jM,r,q⟩
theorem PT.nox{e:Expr}{t:TT}(h:PT X.nox e t):PT X e t:=fun pins s zzs H Q I hw=>
 iM (h pins s zzs H Q (I.wish _) hw) (fun _ _ ⟨H',I',q⟩=>⟨H',I'.jM,q⟩) fun _ _ z=>False.elim z
theorem PSs.nox{st:List Stmt}{t:TS}(h:PSs X.nox st t):PSs X st t:=fun pins s zzs H D I hw=>
 iM (h pins s zzs H D (I.wish _) hw) (fun _ _ q=>q.jM) fun _ _ z=>False.elim z
end
section
variable{X:Cx}{st:Stmt}{rest:List Stmt}{t u:TS}{e:Expr}{te:TE}{pos:Pos}
def Yv:TS:=fun D zzs H=>D.nx zzs H
def a0F(t u:TS):TS:=fun D zzs H=>t { D with nx:=u D } zzs H
theorem Xa:PSs X [] Yv:=fun _ _ zzs H _ I h=>Ac ⟨zzs,H,I,h⟩
theorem T7(h1:PS X st t)(h2:PSs X rest u):PSs X (st::rest) (a0F t u):=by
 intro pins s zzs H D I h;refine KJ (thn (h1 pins s zzs H { D with nx:=u D } I h) fun f s1 q=>?_)
 cases f with
 |next=>
  obtain⟨bB,H',I',q⟩:=q;exact h2 pins s1 bB H' D I' q
 |ret v=>exact q
 |brk=>exact q
 |cont=>exact q
theorem Xb(h1:PS X st t):PSs X [st] t:=by
 intro pins s zzs H D I h;refine KJ (thn (h1 pins s zzs H D I h) fun f s1 q=>?_)
 cases f with
 |next=>exact Ac q
 |ret v=>exact q
 |brk=>exact q
 |cont=>exact q
theorem Inv.quiet{pins:List (Addr×Obj)}{zzs:St}{H:Hp}{s:Shared}(I:Inv X pins zzs H s):interactive X.env=false:=by simp[interactive,I.ok.kind]
def Yu(te:TE):TS:=fun D zzs H=>te zzs H fun _ H1=>D.nx zzs H1
theorem X8(he:PE X e te)(hs:swapsWith e none pos.line X.env=pure false:=by rfl):PS X (.Expr e pos) (Yu te):=by
 intro pins s zzs H D I h;exact wpAny_Expr_any (thn (he pins s zzs H _ I h) fun v s1 ⟨x,H1,I1,r1,q1⟩=>⟨zzs,H1,I1,q1⟩) I.quiet hs
def a1X(te:TE):TS:=fun D zzs H=>te zzs H D.rt
theorem a0l(he:PE X e te):PS X (.Return (some e) pos) (a1X te):=by
 intro pins s zzs H D I h;exact wpAny_Return_some (thn (he pins s zzs H _ I h) fun v s1 ⟨x,H1,I1,r1,q1⟩=>⟨x,zzs,H1,I1,r1,q1⟩)
def a1U(c:TT)(t u:TS):TS:=fun D zzs H=>c zzs H fun b H1=>if b=true then t D zzs H1 else u D zzs H1
theorem a1B{c:Expr}{a b:List Stmt}{tc:TT}(hc:PT X c tc)(ha:PSs X a t)(hb:PSs X b u):PS X (.If c a b pos) (a1U tc t u):=by
 intro pins s zzs H D I h;refine wpAny_If (thn (hc pins s zzs H _ I h) fun d s1 ⟨H1,I1,q1⟩=>?_)
 cases d with
 |true=>exact ha pins s1 zzs H1 D I1 q1
 |false=>exact hb pins s1 zzs H1 D I1 q1
end
abbrev TG:=V->St->Hp->(St->Hp->Prop)->Prop
abbrev TGs:=List V->St->Hp->(St->Hp->Prop)->Prop
def PG(X:Cx)(target:Expr)(t:TG):Prop:=
 ∀(pins:List (Addr×Obj))(s:Shared)(zzs:St)(H:Hp)(v:V)(u:Value)(Q:St->Hp->Prop),Inv X pins zzs H s->RelV v u->t v zzs H Q ->
  wpAny (model X.prog X.w) X.A (assign target X.env u) (fun _ s'=>∃ bB H',Inv X pins bB H' s'/\Q bB H') X.xe s
def PGs(X:Cx)(ts:List Expr)(t:TGs):Prop:=
 ∀(pins:List (Addr×Obj))(s:Shared)(zzs:St)(H:Hp)(vs:List V)(us:List Value)(Q:St->Hp->Prop),Inv X pins zzs H s->Vals vs us->t vs zzs H Q ->
  wpAny (model X.prog X.w) X.A (assignInOrder ((assignEach ts X.env).map (·.2)) us) (fun _ s'=>∃ bB H',Inv X pins bB H' s'/\Q bB H') X.xe s
abbrev O1:=V->V->V->Hp->(Hp->Prop)->Prop
def Qx(X:Cx)(t:O1):Prop:=
 ∀(pins:List (Addr×Obj))(s:Shared)(zzs:St)(H:Hp)(o i v:V)(ov iv u:Value)(Q:Hp->Prop),Inv X pins zzs H s->RelV o ov->RelV i iv->RelV v u->t o i v H Q ->
  wpAny (model X.prog X.w) X.A (setItem ov iv u) (fun _ s'=>∃ H',Inv X pins zzs H' s'/\Q H') X.xe s
abbrev TIp:=V->V->Hp->VK->Prop
def PIp(X:Cx)(op:Operator)(t:TIp):Prop:=
 ∀(pins:List (Addr×Obj))(s:Shared)(zzs:St)(H:Hp)(x y:V)(v u:Value)(Q:VK),Inv X pins zzs H s->RelV x v->RelV y u->t x y H Q ->
  wpAny (model X.prog X.w) X.A (inplaceOp op v u) (EP X pins zzs Q) X.xe s
section
variable{X:Cx}{pos:Pos}
def BW(i:Nat):TG:=fun v zzs H Q=>Q (zzs.set i (some v)) H
theorem WT{i:Nat}{x:Str}(hN:X.N.Nodup)(hi:X.N[i]?=some x)(hx:Loc X.env.scope x)(hf:X.fn x=true\/X.env.scope.names.lookup x=some .local:=by first|exact .inl rfl|exact .inr rfl|assumption):PG X (.Name x pos) (BW i):=by
 intro pins s zzs H v u Q I r h;exact Kz (qd I hN hi hx r (fun s' I'=>⟨_,H,I',h⟩) hf)
def Z5:TGs:=fun vs zzs H Q=>vs=[]/\Q zzs H
def M9(t:TG)(u:TGs):TGs:=fun vs zzs H Q=>∃ v r,vs=v::r/\t v zzs H fun bB H'=>u r bB H' Q
theorem WW:PGs X [] Z5:=by
 intro pins s zzs H vs us Q I r h;obtain⟨e,h⟩:=h;subst e
 cases r
 exact assignInOrder_nil ⟨zzs,H,I,h⟩
theorem SQ{e:Expr}{es:List Expr}{t:TG}{u:TGs}(h1:PG X e t)(h2:PGs X es u)
  (hs:(assignEach (e::es) X.env).map (·.2)=assign e X.env::(assignEach es X.env).map (·.2):=by rfl):PGs X (e::es) (M9 t u):=by
 intro pins s zzs H vs us Q I r h;obtain⟨v,vr,e1,h⟩:=h;subst e1
 cases r with
 |cons r rr=>
  rw[hs];refine Ks (thn (h1 pins s zzs H _ _ _ I r h) fun _ s1 ⟨Qu,H1,I1,q1⟩=>?_);exact h2 pins s1 Qu H1 _ _ Q I1 rr q1
def Z6(K:ao)(n:Nat)(t:TGs):TG:=fun v zzs H Q=>∃ a xs,v=.ref a/\SqT K H a xs/\xs.length=n/\t xs zzs H Q
theorem a0e{es:List Expr}{k:Nat}{t:TGs}{n:Nat}(hc:X.calm=true)(h:PGs X es t)
  (hn:(assignEach es X.env).length=n:=by rfl) (hst:(assignEach es X.env).findIdx? (·.1)=none:=by rfl):PG X (.Tuple es k pos) (Z6 X.K n t):=by
 intro pins s zzs H v u Q I r hw;obtain⟨a,xs,e1,hq,hl,hw⟩:=hw;subst e1
 cases r
 obtain⟨its,rv,ht,hz⟩:=I.tuple hq;refine assign_Tuple_tuple (I.ok.hd hc) ht (by simp[hn,<- hl,rv.length]) hst fun h' hx=>?_
 have I1:Inv X pins zzs H { s with heap:=h' }:=I.kept (t':=s.toks) fun b o e=>hx b o (fQ (bL e)) e
 exact h pins _ zzs H xs _ Q I1 (by simpa using rv) hw
def a1h(to ti:TE)(t:O1):TG:=fun v zzs H Q=>to zzs H fun o H1=>ti zzs H1 fun i H2=>t o i v H2 fun H3=>Q zzs H3
theorem a0d{o i:Expr}{to ti:TE}{t:O1}(ho:PE X o to)(hi:PE X i ti)(hs:Qx X t)
  (ha:∀ v,assign (.Subscript o i pos) X.env v=(do
   let ov <- holding [v] (eval o X.env)
   let iv <- holding [v,ov] (eval i X.env)
   standAt pos
   holding [v,ov,iv] (setItem ov iv v)
   release [v,ov,iv] []):=by intro _;rfl):PG X (.Subscript o i pos) (a1h to ti t):=by
 intro pins s zzs H v u Q I r h;rw[ha];refine bO (wB (thn (ho pins s zzs H _ I h) fun ov s1 ⟨x,H1,I1,r1,q1⟩=>?_));refine bO (wB (thn (hi pins s1 zzs H1 _ I1 q1) fun iv s2 ⟨y,H2,I2,r2,q2⟩=>?_));refine bO (Ft (bO (wB (thn (hs pins s2 zzs H2 x y v ov iv u _ I2 r1 r2 r q2) fun _ s3 ⟨H3,I3,q3⟩=>?_))));exact wpAny_release ⟨zzs,H3,I3,q3⟩
def Xy(te:TE)(g:TG):TS:=fun D zzs H=>te zzs H fun x H1=>g x zzs H1 D.nx
theorem a0h{tg e:Expr}{te:TE}{g:TG}(he:PE X e te)(hg:PG X tg g)(hs:swapsWithSole [tg] e pos.line X.env=pure false:=by rfl)(hw:swappedStores [tg] e X.env=pure none:=by rfl)
  (h1:(assignEach [tg] X.env).map (·.2)=[assign tg X.env]:=by rfl):PS X (.Assign [tg] e pos) (Xy te g):=by
 intro pins s zzs H D I h;refine wpAny_Assign_stores (thn (he pins s zzs H _ I h) fun v s1 ⟨x,H1,I1,r1,q1⟩=>?_) hs hw;rw[h1];exact thn (hg pins s1 zzs H1 x v _ I1 r1 q1) fun _ s2 q=>q
theorem a0m{i:Nat}{x:Str}{e:Expr}{te:TE}{pos':Pos}(hN:X.N.Nodup)(hi:X.N[i]?=some x)(hx:Loc X.env.scope x)(he:PE X e te)(hs:swapsWith e (some (.Name x pos')) pos.line X.env=pure false:=by rfl)(hf:X.fn x=true\/X.env.scope.names.lookup x=some .local:=by first|exact .inl rfl|exact .inr rfl|assumption) :
  PS X (.Assign [.Name x pos'] e pos) (Xy te (BW i)):=by
 intro pins s zzs H D I h;refine wpAny_Assign_Name (thn (he pins s zzs H _ I h) fun v s1 ⟨y,H1,I1,r1,q1⟩=>?_) hs;exact qd I1 hN hi hx r1 (fun s2 I2=>⟨_,H1,I2,q1⟩) hf
def a1W(i j:Nat)(ta:TA):TS:=fun D zzs H=>ta zzs H fun vs H1=>∃ v w,vs=[v,w]/\D.nx ((zzs.set i (some v)).set j (some w)) H1
theorem a0k{i j:Nat}{x y:Str}{a b:Expr}{ta:TA}{px py pt:Pos} {kt k2 pt2} (hc:X.calm=true) (hN:X.N.Nodup) (hi:X.N[i]?=some x) (hj:X.N[j]?=some y) (hij:i≠j)
  (hx:X.env.scope.names.lookup x=some .local) (hy:X.env.scope.names.lookup y=some .local) (ha:PA X [a,b] ta)
  (hw:swappedStores [.Tuple [.Name x px,.Name y py] kt pt] (.Tuple [a,b] k2 pt2) X.env=pure (some [x,y]))
  (hs:swapsWithSole [.Tuple [.Name x px,.Name y py] kt pt] (.Tuple [a,b] k2 pt2) pos.line X.env=pure false:=by rfl) :
  PS X (.Assign [.Tuple [.Name x px,.Name y py] kt pt] (.Tuple [a,b] k2 pt2) pos) (a1W i j ta):=by
 intro pins s zzs H D I h;rw[exec_Assign_arm];refine bO (Ft ?_);rw[hs];refine bO (cV ?_);rw[aG (by decide)];refine bO (Tuple_ (thn (ha _ pins s zzs H _ I h) fun us s1 ⟨vs,H1,I1,r1,q1⟩=>?_));obtain⟨v,w,e1,q1⟩:=q1;subst e1;obtain⟨u1,u2,rfl,rv,rw'⟩:∃ u1 u2,us=[u1,u2]/\RelV v u1/\RelV w u2:=by
  cases r1 with
  |cons p q=>
   cases q with
   |cons p' q'=>
    cases q'
    exact⟨_,_,rfl,p,p'⟩
 refine Fb ?_ (by show 2<=sizeLine;decide);have I2:Inv X pins zzs H1 { s1 with heap:=s1.heap.push { cls:=.type "tuple",data:=.seq [u1,u2].toArray } }:=I1.kept (t':=s1.toks) fun b o e=>dG _ e
 rw[hw];refine bO (cV ?_);show wpAny (model X.prog X.w) X.A (do rule "assign.swapped-stores";let items <- unpackItems (.ref s1.heap.objs.size) 2 none;assignInOrder [fun v=>bindName X.env y v,fun v=>bindName X.env x v] items.reverse;pure Flow.next) _ _ _;refine bO (sW (bO (unpackItems_tuple (items:=#[u1,u2]) (I.ok.hd hc) (IsTup.new s1.heap _) fun h' hx'=>?_)));have I3:=I2.kept (h':=h') (t':=s1.toks) fun b o e=>hx' b o (fQ (bL e)) e
 show wpAny _ _ (assignInOrder [fun v=>bindName X.env y v,fun v=>bindName X.env x v] [u2,u1] >>= fun _=>pure Flow.next) _ _ _;refine bO (Ks (wpAny_bindName (qd I3 hN hj (.inl hy) rw' (fun s2 I4=>?_) (.inr hy))));refine Ks (wpAny_bindName (qd I4 hN hi (.inl hx) rv (fun s3 I5=>assignInOrder_nil (cV ?_)) (.inr hx)));rw[List.set_comm _ _ (jy hij)] at I5;exact⟨_,H1,I5,q1⟩
def Ys(to ti te:TE)(Xz:V->V->Hp->VK->Prop)(tip:TIp)(XD:O1):TS:=fun D zzs H=>to zzs H fun o H1=>ti zzs H1 fun i H2=>Xz o i H2 fun x H3=>te zzs H3 fun y H4=>tip x y H4 fun z H5=>XD o i z H5 fun H6=>D.nx zzs H6
def a0R(X:Cx)(t:V->V->Hp->VK->Prop):Prop:=
 ∀(pins:List (Addr×Obj))(s:Shared)(zzs:St)(H:Hp)(o i:V)(ov iv:Value)(Q:VK),Inv X pins zzs H s->RelV o ov->RelV i iv->t o i H Q ->
  wpAny (model X.prog X.w) X.A (getItem ov iv) (EP X pins zzs Q) X.xe s
theorem X6{o i e:Expr}{to ti te:TE}{Xz:V->V->Hp->VK->Prop}{tip:TIp}{XD:O1}{op:Operator}{tpos:Pos}(ho:PE X o to)(hi:PE X i ti)(hg:a0R X Xz)(he:PE X e te)(hp:PIp X op tip)(hs:Qx X XD)
  (ha:∀ ov iv new,augStore i ov iv new=(do holding [new,ov,iv] (setItem ov iv new);release [new,ov,iv] [];pure .next):=by intros;rfl):PS X (.AugAssign (.Subscript o i tpos) op e pos) (Ys to ti te Xz tip XD):=by
 intro pins s zzs H D I h;refine wpAny_AugAssign_SubscriptAny (thn (ho pins s zzs H _ I h) fun ov s1 ⟨x1,H1,I1,r1,q1⟩=>?_) ha;refine thn (hi pins s1 zzs H1 _ I1 q1) fun iv s2 ⟨x2,H2,I2,r2,q2⟩=>?_
 refine thn (hg pins s2 zzs H2 x1 x2 ov iv _ I2 r1 r2 q2) fun old s3 ⟨x3,H3,I3,r3,q3⟩=>?_
 refine thn (he pins s3 zzs H3 _ I3 q3) fun v s4 ⟨x4,H4,I4,r4,q4⟩=>?_
 refine thn (hp pins s4 zzs H4 x3 x4 old v _ I4 r3 r4 q4) fun new s5 ⟨x5,H5,I5,r5,q5⟩=>?_
 exact thn (hs pins s5 zzs H5 x1 x2 x5 ov iv new _ I5 r1 r2 r5 q5) fun _ s6 ⟨H6,I6,q6⟩=>⟨zzs,H6,I6,q6⟩
def ipI(f:Int->Int->Int):TIp:=fun x y H Q=>∃ i j,x=.int i/\y=.int j/\Q (.int (f i j)) H
theorem Zb:PIp X .Add (ipI fun i j=>i+j):=by
 intro pins s zzs H x y v u Q I r1 r2 h;obtain⟨i,j,e1,e2,q⟩:=h;subst e1;subst e2;obtain⟨t,rfl⟩:=r1;obtain⟨t',rfl⟩:=r2;exact iadd_int ⟨.int _,H,I.tok _,⟨_,rfl⟩,q⟩
end
section
variable{X:Cx}{pos:Pos}
def Uq(c:TT)(tb:TS):TS:=fun D zzs H=>∃ W:Nat->St->Hp->Prop,(∃ m,W m zzs H)/\∀ m zzs H,W m zzs H ->
 c zzs H fun b H1=>if b=true then ∃ N:St->Hp->Prop,(∀ bB H',N bB H'->∃ m',m'<m/\W m' bB H')/\tb { D with nx:=N,ct:=N,bk:=D.nx } zzs H1 else D.nx zzs H1
theorem T5{c:Expr}{body:List Stmt}{tc:TT}{tb:TS}(hp:PassesOwn (model X.prog X.w) X.A X.env X.xe)(hc:PT X c tc)(hb:PSs X body tb):PS X (.While c body [] pos) (Uq tc tb):=by
 intro pins s zzs H D I h;obtain⟨W,⟨m0,w0⟩,turn⟩:=h;refine wpAny_While (codeAny_whileLoop (fun n s'=>∃ bB H',Inv X pins bB H' s'/\W n bB H') ?_ m0 ⟨zzs,H,I,w0⟩);rintro n s1 ⟨Qu,H1,I1,w1⟩;refine sE hp (thn (hc pins s1 Qu H1 _ I1 (turn n Qu H1 w1)) fun b s2 ⟨H2,I2,q2⟩=>?_)
 cases b with
 |true=>
  obtain⟨N,hN,q2⟩:=q2;rw[aK rfl];refine sE hp (thn (hb pins s2 Qu H2 _ I2 q2) fun f s3 q3=>?_)
  cases f with
  |next=>
   obtain⟨Aw,H3,I3,n3⟩:=q3;obtain⟨m',hm,w3⟩:=hN Aw H3 n3;exact⟨m',hm,Aw,H3,I3,w3⟩
  |cont=>
   obtain⟨Aw,H3,I3,n3⟩:=q3;obtain⟨m',hm,w3⟩:=hN Aw H3 n3;exact⟨m',hm,Aw,H3,I3,w3⟩
  |brk=>exact q3
  |ret v=>exact q3
 |false=>
  rw[aG fM];exact Ac ⟨Qu,H2,I2,q2⟩
end
structure It where
 go:Nat->Hp->Prop
 yld:Nat->Hp->V->Hp->Prop
 stop:Nat->Hp->Prop
def sY(X:Cx)(pins:List (Addr×Obj))(H:Hp)(b:Addr):Prop:=
 H b=none/\b≠X.env.locals/\b∉X.fs/\(b∈X.ex\/X.s₀.heap.objs.size<=b)/\(∀ x c,X.env.cells.lookup x=some c->c≠b)/\∀ p∈X.pn++pins,p.1≠b
theorem Inv.Rm{X:Cx}{pins:List (Addr×Obj)}{zzs:St}{H H':Hp}{s:Shared}{b:Addr}(I:Inv X pins zzs H s)(hb:s.heap.objs.size<=b)(hn:H' b=none):sY X pins H' b:=by
 refine⟨hn,Fw (jd I.lt hb),I.a2y hb,.inr (cP I.sz hb),fun x c e z=>?_,fun p hp z=>?_⟩
 ·obtain⟨v,q⟩:=I.cell x c e;exact absurd (jd q.lt (by rw[z];exact hb)) (qu _)
 ·exact absurd (jd (bL (I.pin p hp).1) (by rw[z];exact hb)) (qu _)
structure Turn(P:Program)(w:World)(K:ao)(tg:Expr)(J:It)(fp:List Addr)(it:Addr)(tn:Nat->Heap->Prop):Prop where
 mem:it∈fp
 obj:∀ i h,tn i h->∀ b∈fp,∃ o,h.get? b=some o/\∀ v,o.data≠.cell v
 keep:∀ i h h',tn i h->(∀ b∈fp,∀ o,h.get? b=some o->h'.get? b=some o)->tn i h'
 item:∀(X:Cx),X.prog=P->X.w=w->X.K=K->X.calm=true->∀(i:Nat)(pins:List (Addr×Obj))(s:Shared)(zzs:St)(H:Hp)(E:Value->Shared->Prop),Inv X pins zzs H s->(∀ b∈fp,sY X pins H b)->tn i s.heap->J.go i H ->
  wpAny (model P w) X.A (pyNext (.ref it)) (fun r s1=>∃ u,r=some u /\
   wpAny (model P w) X.A (letOwnedTupleGo tg (.ref it) u) (fun _ s2=>∃ x H',Inv X pins zzs H' s2/\RelV x u/\J.yld i H x H'/\tn (i+1) s2.heap/\∀ b∈fp,H' b=none) E s1) E s
 done:∀(X:Cx),X.prog=P->X.w=w->X.K=K->X.calm=true->∀(i:Nat)(pins:List (Addr×Obj))(s:Shared)(zzs:St)(H:Hp)(E:Value->Shared->Prop),Inv X pins zzs H s->(∀ b∈fp,sY X pins H b)->tn i s.heap->J.stop i H ->
  wpAny (model P w) X.A (pyNext (.ref it)) (fun r s1=>r=none/\Inv X pins zzs H s1) E s
 self:∀(A:Around)(i:Nat)(s:Shared)(Q:Value->Shared->Prop)(E:Value->Shared->Prop),tn i s.heap->Q (.ref it) s->wpAny (model P w) A (pyIter (.ref it)) Q E s
abbrev TI:=St->Hp->(It->Hp->Prop)->Prop
def PIE(X:Cx)(pins:List (Addr×Obj))(zzs:St)(tg:Expr)(R:It->Hp->Prop)(itv:Value)(s2:Shared):Prop:=
 ∃(it:Addr)(fp:List Addr)(tn:Nat->Heap->Prop)(J:It)(H':Hp),itv=.ref it/\Inv X pins zzs H' s2/\Turn X.prog X.w X.K tg J fp it tn/\tn 0 s2.heap/\(∀ b∈fp,sY X pins H' b)/\R J H'
def PI(X:Cx)(tg iter:Expr)(wi:TI):Prop:=
 ∀(pins:List (Addr×Obj))(s:Shared)(zzs:St)(H:Hp)(R:It->Hp->Prop),Inv X pins zzs H s->wi zzs H R ->
  wpAny (model X.prog X.w) X.A (eval iter X.env) (fun v s1=>wpAny (model X.prog X.w) X.A (pyIter v) (PIE X pins zzs tg R) X.xe s1) X.xe s
theorem Ma{M:Model}{A:Around}{E:Value->Shared->Prop}{s:Shared}{tg:Expr}{it:Addr}{u:Value}{o:Obj}{n:String}{vs:Array Value}{Q:Unit->Shared->Prop}(ho:s.heap.get? it=some o)(hc:o.cls=.type n)(hd:o.data=.fields vs)
  (hn:["enumerate","zip","dict_itemiterator","dict_reverseitemiterator","odict_iterator","itertools.zip_longest","itertools.pairwise"].contains n=false) (hQ:Q () s):wpAny M A (letOwnedTupleGo tg (.ref it) u) Q E s:=by
 unfold letOwnedTupleGo
 cases tg<;>first
  |exact cV hQ
  |(cases u<;>first
    |exact cV hQ
    |(refine bO (wpAny_load ho ?_)
      rw[hc,hd];show wpAny M A (if(["enumerate","zip","dict_itemiterator","dict_reverseitemiterator","odict_iterator","itertools.zip_longest","itertools.pairwise"].contains n&&vs[0]?==some (rawInt _))=true then _ else _) Q E s;rw[aG (by intro h;rw[hn,Ad] at h;cases h)];exact cV hQ))
def Itl(K:ao)(a:Addr):It:=
 ⟨fun i H=>∃ xs x,SqL K H a xs/\xs[i]?=some x,fun i H x H'=>H'=H/\∀ xs,SqL K H a xs->xs[i]?=some x,fun i H=>∃ xs,SqL K H a xs/\xs.length<=i⟩
def Itr(lo:Int)(n:Nat):It:=⟨fun i _=>i<n,fun i H x H'=>H'=H/\x=.int (lo+i),fun i _=>n<=i⟩
theorem Qp{P:Program}{w:World}{K:ao}{tg:Expr}(a it:Addr):Turn P w K tg (Itl K a) [it] it (fun i h=>h.IsListIter it a i) where
 mem:=by simp
 obj:=fun i h st b hb=>by
  have e:b=it:=by simpa using hb
  subst e;obtain⟨o,e,c,d⟩:=st;exact⟨o,e,fun v z=>by rw[d] at z;cases z⟩
 keep:=fun i h h' st k=>st.at fun o e=>k it (by simp) o e
 item:=by
  intro X hP hw hK hc i pins s zzs H E I hf st hg;subst hP hw hK;obtain⟨xs,x,hq,hx⟩:=hg;obtain⟨its,rv,p,hz⟩:=I.list hq;obtain⟨u,hu,ru⟩:=rv.get hx;obtain⟨f0,f1,f2,f3,f4,f5⟩:=hf it (by simp);refine wpAny_pyNext_list_item st p.isList (x:=u) (by simpa using hu) fun h' st' sb=>?_
  have I1:Inv X pins zzs H { s with heap:=h' }:=I.turned (t':=s.toks) (fun b o hb e=>(sb.2 b hb).trans e) f0 f1 f3 f4 f5;obtain⟨o,e,c,d⟩:=id st';exact⟨u,rfl,Ma (s:={ s with heap:=h' }) e c d (by decide) ⟨x,H,I1,ru,⟨rfl,fun ys hy=>by rw[I.GK hy hq];exact hx⟩,st',fun b hb=>(hf b hb).1⟩⟩
 done:=by
  intro X hP hw hK hc i pins s zzs H E I hf st hg;subst hP hw hK;obtain⟨xs,hq,hx⟩:=hg;obtain⟨its,rv,p,hz⟩:=I.list hq;obtain⟨f0,f1,f2,f3,f4,f5⟩:=hf it (by simp);have hl:=rv.length;exact wpAny_pyNext_list_end (I.ok.hd hc) st p.isList (by simp;lia) fun h' eb=>⟨rfl,I.turned (t':=s.toks) (fun b o hb e=>eb b o hb e) f0 f1 f3 f4 f5⟩
 self:=fun _ _ _ _ _ st h=>wpAny_pyIter_listiter st h
theorem K6{P:Program}{w:World}{K:ao}{tg:Expr}(it:Addr)(lo:Int)(n:Nat):Turn P w K tg (Itr lo n) [it] it (fun i h=>IsRangeIter h it (lo+(i:Nat)*1) ((n:Int)-(i:Nat)) 1) where
 mem:=by simp
 obj:=fun i h st b hb=>by
  have e:b=it:=by simpa using hb
  subst e;exact⟨_,st,fun v z=>by
   have z':Data.fields _=Data.cell v:=z
   cases z'⟩
 keep:=fun i h h' st k=>k it (by simp) _ st
 item:=by
  intro X hP hw hK hc i pins s zzs H E I hf st hg;subst hP hw hK;obtain⟨f0,f1,f2,f3,f4,f5⟩:=hf it (by simp);have W:=Walks.range (prog:=X.prog) (w:=X.w) (I.ok.hd hc) it lo 1 n;refine W.item i s _ _ hg st fun v h' tk hv st' kk=>?_
  obtain⟨t,rfl⟩:=hv;have I1:Inv X pins zzs H { s with heap:=h',toks:=tk }:=I.turned (fun b o hb e=>kk b o (by simpa using hb) e) f0 f1 f3 f4 f5;refine⟨_,rfl,Ma (s:={ s with heap:=h',toks:=tk }) (n:="range_iterator") st' rfl rfl (by decide) ⟨.int (lo+i),H,I1,⟨t,?_⟩,⟨rfl,rfl⟩,st',fun b hb=>(hf b hb).1⟩⟩;rw[Li]
 done:=by
  intro X hP hw hK hc i pins s zzs H E I hf st hg;subst hP hw hK;obtain⟨f0,f1,f2,f3,f4,f5⟩:=hf it (by simp);exact wpAny_pyNext_range_end (I.ok.hd hc) st (by have:n<=i:=hg;lia) fun h' eb=>⟨rfl,I.turned (t':=s.toks) (fun b o hb e=>eb b o hb e) f0 f1 f3 f4 f5⟩
 self:=fun _ _ _ _ _ st h=>wpAny_pyIter_rangeiter st h
section
variable{X:Cx}{tg:Expr}
def Mh(K:ao)(tl:TE):TI:=fun zzs H R=>tl zzs H fun x H1=>∃ a,x=.ref a/\(∃ xs,SqL K H1 a xs)/\R (Itl K a) H1
theorem WY{l:Expr}{tl:TE}(hl:PE X l tl):PI X tg l (Mh X.K tl):=by
 intro pins s zzs H R I h;refine thn (hl pins s zzs H _ I h) fun v s1 ⟨x,H1,I1,r1,q1⟩=>?_
 obtain⟨a,e,⟨xs,hq⟩,q⟩:=q1;subst e
 cases r1
 obtain⟨its,rv,p,hz⟩:=I1.list hq;refine wpAny_pyIter_list p.isList ?_;refine⟨s1.heap.objs.size,[s1.heap.objs.size],_,_,H1,rfl,I1.kept (t':=s1.toks) fun b o e=>dG _ e,Qp a _,⟨_,jc _ rfl,rfl,rfl⟩,fun b hb=>?_,q⟩;have e:b=s1.heap.objs.size:=by simpa using hb
 subst e;exact I1.Rm (bR _) (I1.hok.fresh (bR _))
theorem Hz{pins:List (Addr×Obj)}{zzs:St}{H:Hp}{s:Shared}{R:It->Hp->Prop}{E:Value->Shared->Prop}{lo hi:Int}{t u v:Tok}{tk:Nat}(I:Inv X pins zzs H s)(h1 : -(2^62)<=lo)(h2:lo<2^62)(h3 : -(2^62)<=hi)(h4:hi<2^62)
  (q:R (Itr lo (hi-lo).toNat) H):wpAny (model X.prog X.w) X.A (pyIter (.ref s.heap.objs.size)) (PIE X pins zzs tg R) E { s with heap:=s.heap.push { cls:=.type "range",data:=.fields #[.int lo t,.int hi u,.int 1 v] },toks:=tk }:=by
 refine wpAny_pyIter_range (IsRange.new ..) (small_one h1 h2 h3 h4) ?_;have I1:Inv X pins zzs H { s with heap:=s.heap.push { cls:=.type "range",data:=.fields #[.int lo t,.int hi u,.int 1 v] },toks:=tk }:=I.kept fun b o e=>dG _ e
 refine⟨(s.heap.push { cls:=.type "range",data:=.fields #[.int lo t,.int hi u,.int 1 v] }).objs.size,[(s.heap.push { cls:=.type "range",data:=.fields #[.int lo t,.int hi u,.int 1 v] }).objs.size],_,_,H,rfl,
  I1.kept (t':=tk) fun b o e=>dG _ e,K6 _ lo (hi-lo).toNat,?_,fun b hb=>?_,q⟩
 ·have e1:lo+((0:Nat):Int)*1=lo:=by simp
  have e2:(((hi-lo).toNat:Nat):Int)-((0:Nat):Int)=Builtin.Range.rangeSize lo hi 1:=by rw[rangeSize_one];split<;>lia
  show IsRangeIter _ _ (lo+((0:Nat):Int)*1) ((((hi-lo).toNat:Nat):Int)-((0:Nat):Int)) 1;rw[e1,e2];exact jc _ rfl
 ·have e:b=(s.heap.push { cls:=.type "range",data:=.fields #[.int lo t,.int hi u,.int 1 v] }).objs.size:=by simpa using hb
  subst e;exact I1.Rm (bR _) (I1.hok.fresh (bR _))
def Y7(ta:TA):TI:=fun zzs H R=>ta zzs H fun vs H1=>∃ j:Int,vs=[.int j] /\ -(2^62)<=j/\j<2^62/\R (Itr 0 j.toNat) H1
def Y8(ta:TA):TI:=fun zzs H R=>ta zzs H fun vs H1=>∃ i j:Int,vs=[.int i,.int j]/\(-(2^62)<=i/\i<2^62 /\ -(2^62)<=j/\j<2^62)/\R (Itr i (j-i).toNat) H1
theorem Q8{a:Expr}{ta:TA}{p pos:Pos} (hg:Gl X "range") (hm:X.mg "range" = none) (ha:PA X [a] ta) (hs:starEach [a] X.env=[(false,eval a X.env)]:=by rfl):PI X tg (.Call (.Name "range" p) [a] [] pos) (Y7 ta):=by
 intro pins s zzs H R I h;refine Call_ (DP I hg hm boot_range (Ka (thn (ha pos pins s zzs H _ I h) fun us s1 ⟨vs,H1,I1,r1,q1⟩=>?_) hs rfl));obtain⟨j,e,q1,q2,q⟩:=q1;subst e
 cases r1 with
 |cons r rr=>
  cases rr
  obtain⟨t,rfl⟩:=r;exact call_range_1 (Hz I1 (by lia) (by lia) q1 q2 (by simpa using q))
theorem Q9{a b:Expr}{ta:TA}{p pos:Pos} (hg:Gl X "range") (hm:X.mg "range" = none) (ha:PA X [a,b] ta) (hs:starEach [a,b] X.env=[(false,eval a X.env),(false,eval b X.env)]:=by rfl) (hs2:starEach [b] X.env=[(false,eval b X.env)]:=by rfl) :
  PI X tg (.Call (.Name "range" p) [a,b] [] pos) (Y8 ta):=by
 intro pins s zzs H R I h;refine Call_ (DP I hg hm boot_range (Ka (thn (ha pos pins s zzs H _ I h) fun us s1 ⟨vs,H1,I1,r1,q1⟩=>?_) (by rw[hs,hs2]) (by rw[hs2];rfl)));obtain⟨i,j,e,⟨q1,q2,q3,q4⟩,q⟩:=q1;subst e
 cases r1 with
 |cons r rr=>
  cases rr with
  |cons r' rr=>
   cases rr
   obtain⟨t,rfl⟩:=r;obtain⟨t',rfl⟩:=r';exact call_range_2 (Hz I1 q1 q2 q3 q4 q)
def a0D(wi:TI)(g:TG)(tb:TS):TS:=fun D zzs H=>wi zzs H fun J H1=>∃ W:Nat->Nat->St->Hp->Prop,(∃ m,W 0 m zzs H1)/\∀ i m zzs H,W i m zzs H ->
 (J.stop i H/\D.nx zzs H)\/(J.go i H/\∃ N:St->Hp->Prop,(∀ bB H',N bB H'->∃ m',m'<m/\W (i+1) m' bB H')/\∀ x H',J.yld i H x H'->g x zzs H' fun Av H2=>tb { D with nx:=N,ct:=N,bk:=D.nx } Av H2)
def rH(fp:List Addr)(h:Heap):List (Addr×Obj):=fp.filterMap fun b=>(h.get? b).map fun o=>(b,o)
theorem rG{fp:List Addr}{h:Heap}{b:Addr}{o:Obj}(hb:b∈fp)(e:h.get? b=some o):(b,o)∈rH fp h:=zX.mpr ⟨b,hb,by rw[e];rfl⟩
theorem Pu{fp:List Addr}{h:Heap}{p:Addr×Obj}(hp:p∈rH fp h):p.1∈fp/\h.get? p.1=some p.2:=by
 obtain⟨b,hb,e⟩:=zX.mp hp
 cases q:h.get? b with
 |none=>rw[q] at e;cases e
 |some o=>
  rw[q] at e;have e':(b,o)=p:=gO e;subst e';exact⟨hb,q⟩
theorem Inv.pinned{pins:List (Addr×Obj)}{zzs:St}{H:Hp}{s:Shared}{fp:List Addr}(I:Inv X pins zzs H s)(hf:∀ b∈fp,sY X pins H b)(ho:∀ b∈fp,∃ o,s.heap.get? b=some o/\∀ v,o.data≠.cell v):Inv X (pins++rH fp s.heap) zzs H s:=
 I.ug fun p hp=>(cO.mp hp).elim (fun z=>I.pin p (j6 _ z)) fun z=>by
  obtain⟨hb,e⟩:=Pu z;obtain⟨f0,f1,f2,_⟩:=hf p.1 hb;obtain⟨o,e',d⟩:=ho p.1 hb;rw[e] at e';cases e';exact⟨e,f0,f1,f2,d⟩
theorem Inv.zM{pins pl:List (Addr×Obj)}{zzs:St}{H:Hp}{s:Shared}(I:Inv X (pins++pl) zzs H s):Inv X pins zzs H s:=I.ug fun p hp=>I.pin p (j6 _ (j7 _ hp))
theorem a0j{iter:Expr}{body:List Stmt}{wi:TI}{g:TG}{tb:TS}{pos:Pos}(hp:PassesOwn (model X.prog X.w) X.A X.env X.xe)(hc:X.calm=true)(hi:PI X tg iter wi)(hg:PG X tg g)(hb:PSs X body tb)
  (hs:∀ x,foldedSetIterable iter X.env x=pure x:=by intro _;rfl):PS X (.For tg iter body [] pos) (a0D wi g tb):=by
 intro pins s zzs H D I h;refine wpAny_For (thn (hi pins s zzs H _ I h) fun v s1 h1=>thn h1 fun itv s2 h2=>?_) hs;obtain⟨it,fp,tn,J,H2,e,I2,T,st2,f2,W,⟨m0,w0⟩,turn⟩:=h2;subst e;have stat:∀ {H':Hp},(∀ b∈fp,H' b=none)->∀ b∈fp,sY X pins H' b:=fun hn b hb=>⟨hn b hb,(f2 b hb).2⟩
 refine codeAny_forLoop_any (fun n s'=>∃ i bB H',Inv X pins bB H' s'/\tn i s'.heap/\(∀ b∈fp,H' b=none)/\W i n bB H') ?_ m0 ⟨0,zzs,H2,I2,st2,fun b hb=>(f2 b hb).1,w0⟩;rintro n s3 ⟨i,Aw,H3,I3,st3,fr3,w3⟩;rcases turn i n Aw H3 w3 with⟨stop,qn⟩|⟨go,N,hN,step⟩
 ·refine sE hp (thn (T.done X rfl rfl rfl hc i pins s3 Aw H3 X.xe I3 (stat fr3) st3 stop) fun r s4 ⟨hr,I4⟩=>?_);subst hr;exact Ac ⟨Aw,H3,I4,qn⟩
 ·refine sE hp (thn (T.item X rfl rfl rfl hc i pins s3 Aw H3 X.xe I3 (stat fr3) st3 go) fun r s4 ⟨u,hr,h4⟩=>?_);subst hr;refine sE hp (thn h4 fun _ s5 ⟨x,H5,I5,r5,y5,st5,fr5⟩=>?_);have I5':=I5.pinned (stat fr5) (T.obj _ _ st5);refine sE hp (thn (hg _ s5 Aw H5 x u _ I5' r5 (step x H5 y5)) fun _ s6 ⟨a2N,H6,I6,q6⟩=>?_);refine sE hp (thn (hb _ s6 a2N H6 _ I6 q6) fun f s7 q7=>?_);have again:∀ {Ax:St} {H7:Hp},Inv X (pins++rH fp s5.heap) Ax H7 s7->N Ax H7->∃ m,m<n/\∃ i bB H',Inv X pins bB H' s7/\tn i s7.heap/\(∀ b∈fp,H' b=none)/\W i m bB H':=fun {Ax H7} I7 n7=>by
   obtain⟨m',hm,w7⟩:=hN Ax H7 n7;refine⟨m',hm,i+1,Ax,H7,I7.zM,T.keep _ _ _ st5 fun b hb o e=>(I7.pin (b,o) (j6 _ (j6 _ (rG hb e)))).1,fun b hb=>?_,w7⟩;obtain⟨o,e,d⟩:=T.obj _ _ st5 b hb;exact(I7.pin (b,o) (j6 _ (j6 _ (rG hb e)))).2.1
  cases f with
  |next=>obtain⟨Ax,H7,I7,n7⟩:=q7;exact again I7 n7
  |cont=>obtain⟨Ax,H7,I7,n7⟩:=q7;exact again I7 n7
  |brk=>obtain⟨Ax,H7,I7,q7⟩:=q7;exact⟨Ax,H7,I7.zM,q7⟩
  |ret v=>obtain⟨x7,Ax,H7,I7,r7,q7⟩:=q7;exact⟨x7,Ax,H7,I7.zM,r7,q7⟩
end
theorem dh{K:ao}{a:Addr}{xs:List V}{g:TG}{tb:TS}{D:Ends}{zzs:St}{H:Hp}(Pv:Nat->St->Hp->Prop)(h0:Pv 0 zzs H)(hl:∀ i zzs H,i<=xs.length->Pv i zzs H->SqL K H a xs)
  (hs:∀ i x zzs H,xs[i]?=some x->Pv i zzs H->g x zzs H fun Av H2=>tb { D with nx:=Pv (i+1),ct:=Pv (i+1),bk:=D.nx } Av H2) (hd:∀ zzs H,Pv xs.length zzs H->D.nx zzs H) :
  ∃ W:Nat->Nat->St->Hp->Prop,(∃ m,W 0 m zzs H)/\∀ i m zzs H,W i m zzs H ->
   ((Itl K a).stop i H/\D.nx zzs H)\/((Itl K a).go i H/\∃ N:St->Hp->Prop,(∀ bB H',N bB H'->∃ m',m'<m/\W (i+1) m' bB H')/\∀ x H',(Itl K a).yld i H x H'->g x zzs H' fun Av H2=>tb { D with nx:=N,ct:=N,bk:=D.nx } Av H2):=by
 refine⟨fun i m zzs H=>m=xs.length-i/\i<=xs.length/\Pv i zzs H,⟨xs.length,by simp,lF _,h0⟩,?_⟩;rintro i m zzs H ⟨rfl,hi,p⟩;have q:=hl i zzs H hi p;by_cases hlt:i<xs.length
 ·refine .inr ⟨⟨xs,xs[i],q,by simp[hlt]⟩,Pv (i+1),fun bB H' p'=>⟨xs.length-(i+1),by omega,rfl,hlt,p'⟩,fun x H' y=>?_⟩;obtain⟨e,y⟩:=y;subst e;exact hs i x zzs _ (y xs q) p
 ·have e:i=xs.length:=by lia
  subst e;exact .inl ⟨⟨xs,q,bR _⟩,hd zzs H p⟩
theorem dZ{lo:Int}{n:Nat}{g:TG}{tb:TS}{D:Ends}{zzs:St}{H:Hp}(Pv:Nat->St->Hp->Prop)(h0:Pv 0 zzs H)
  (hs:∀ i zzs H,i<n->Pv i zzs H->g (.int (lo+i)) zzs H fun Av H2=>tb { D with nx:=Pv (i+1),ct:=Pv (i+1),bk:=D.nx } Av H2) (hd:∀ zzs H,Pv n zzs H->D.nx zzs H) :
  ∃ W:Nat->Nat->St->Hp->Prop,(∃ m,W 0 m zzs H)/\∀ i m zzs H,W i m zzs H ->
   ((Itr lo n).stop i H/\D.nx zzs H)\/((Itr lo n).go i H/\∃ N:St->Hp->Prop,(∀ bB H',N bB H'->∃ m',m'<m/\W (i+1) m' bB H')/\∀ x H',(Itr lo n).yld i H x H'->g x zzs H' fun Av H2=>tb { D with nx:=N,ct:=N,bk:=D.nx } Av H2):=by
 refine⟨fun i m zzs H=>m=n-i/\i<=n/\Pv i zzs H,⟨n,by simp,lF _,h0⟩,?_⟩;rintro i m zzs H ⟨rfl,hi,p⟩;by_cases hlt:i<n
 ·refine .inr ⟨hlt,Pv (i+1),fun bB H' p'=>⟨n-(i+1),by lia,rfl,hlt,p'⟩,fun x H' y=>?_⟩;obtain⟨e,y⟩:=y;subst e y;exact hs i zzs _ hlt p
 ·have e:i=n:=by lia
  subst e;exact .inl ⟨bR _,hd zzs H p⟩
abbrev R2:=V->V->Hp->VK->Prop
def OpR(X:Cx)(f:Value->Value->Sem Value)(r:R2):Prop:=
 ∀(pins:List (Addr×Obj))(s:Shared)(zzs:St)(H:Hp)(x y:V)(v u:Value)(Q:VK),Inv X pins zzs H s->RelV x v->RelV y u->r x y H Q ->
  wpAny (model X.prog X.w) X.A (f v u) (EP X pins zzs Q) X.xe s
def UnR(X:Cx)(f:Value->Sem Value)(r:V->Hp->VK->Prop):Prop:=
 ∀(pins:List (Addr×Obj))(s:Shared)(zzs:St)(H:Hp)(x:V)(v:Value)(Q:VK),Inv X pins zzs H s->RelV x v->r x H Q ->
  wpAny (model X.prog X.w) X.A (f v) (EP X pins zzs Q) X.xe s
def fj(X:Cx)(f:Value)(r:List V->Hp->VK->Prop):Prop:=
 ∀(pins:List (Addr×Obj))(s:Shared)(zzs:St)(H:Hp)(xs:List V)(us:List Value)(Q:VK),Inv X pins zzs H s->Vals xs us->r xs H Q ->
  wpAny (model X.prog X.w) X.A (call f us) (EP X pins zzs Q) X.xe s
def tOp(r:R2)(ta tb:TE):TE:=fun zzs H Q=>ta zzs H fun x H1=>tb zzs H1 fun y H2=>r x y H2 Q
def tUn(r:V->Hp->VK->Prop)(ta:TE):TE:=fun zzs H Q=>ta zzs H fun x H1=>r x H1 Q
def rI(C:Int->Int->Prop)(g:Int->Int->V):R2:=fun x y H Q=>∃ i j,x=.int i/\y=.int j/\C i j/\Q (g i j) H
def rI0(g:Int->Int->V):R2:=fun x y H Q=>∃ i j,x=.int i/\y=.int j/\Q (g i j) H
def rU(g:Int->V):V->Hp->VK->Prop:=fun x H Q=>∃ i,x=.int i/\Q (g i) H
section
variable{X:Cx}{a b c:Expr}{ta tb tc:TE}{pos:Pos}
theorem YG(ha:PE X a ta)(hb:PE X b tb){pins:List (Addr×Obj)}{s:Shared}{zzs:St}{H:Hp}{R:V->V->Hp->Prop}(I:Inv X pins zzs H s)
  (h:ta zzs H fun x H1=>tb zzs H1 fun y H2=>R x y H2) {Q:Value->Shared->Prop} {f:Value->Value->Sem Value}
  (hf:∀ v u s2 x y H2,Inv X pins zzs H2 s2->RelV x v->RelV y u->R x y H2->wpAny (model X.prog X.w) X.A (f v u) Q X.xe s2) :
  wpAny (model X.prog X.w) X.A (eval a X.env) (fun v s₁=>wpAny (model X.prog X.w) X.A (eval b X.env) (fun u s₂=>wpAny (model X.prog X.w) X.A (f v u) Q X.xe s₂) X.xe s₁) X.xe s:=by
 refine thn (ha pins s zzs H _ I h) fun v s1 ⟨x,H1,I1,r1,q1⟩=>?_
 refine thn (hb pins s1 zzs H1 _ I1 q1) fun u s2 ⟨y,H2,I2,r2,q2⟩=>?_
 exact hf v u s2 x y H2 I2 r1 r2 q2
theorem a1v{op:Operator}{r:R2}(ho:OpR X (binaryOp op) r)(ha:PE X a ta)(hb:PE X b tb):PE X (.BinOp a op b pos) (tOp r ta tb):=by
 intro pins s zzs H Q I h;exact wpAny_BinOp (YG ha hb I h fun v u s2 x y H2 I2 rx ry q=>ho pins s2 zzs H2 x y v u Q I2 rx ry q)
theorem a1w{op:UnaryOp}{r:V->Hp->VK->Prop}(ho:UnR X (unaryOp op) r)(ha:PE X a ta):PE X (.UnaryOp op a pos) (tUn r ta):=by
 intro pins s zzs H Q I h;exact UnaryOp_ (thn (ha pins s zzs H _ I h) fun v s1 ⟨x,H1,I1,r1,q1⟩=>ho pins s1 zzs H1 x v Q I1 r1 q1)
theorem opI{f:Value->Value->Sem Value}{C:Int->Int->Prop}{g:Int->Int->Int}
  (rule:∀(i j:Int)(t u:Tok)(s:Shared)(Q:Value->Shared->Prop)(E:Value->Shared->Prop),C i j->Q (.int (g i j) s.toks) { s with toks:=s.toks+1 }->wpAny (model X.prog X.w) X.A (f (.int i t) (.int j u)) Q E s) :
  OpR X f (rI C fun i j=>.int (g i j)):=by
 intro pins s zzs H x y v u Q I rx ry h;obtain⟨i,j,rfl,rfl,hc,q⟩:=h;obtain⟨t,rfl⟩:=rx;obtain⟨t',rfl⟩:=ry;exact rule i j t t' s _ _ hc ⟨.int (g i j),H,I.tok _,⟨_,rfl⟩,q⟩
theorem a1r{f:Value->Value->Sem Value}{g:Int->Int->Int}
  (rule:∀(i j:Int)(t u:Tok)(s:Shared)(Q:Value->Shared->Prop)(E:Value->Shared->Prop),Q (.int (g i j) s.toks) { s with toks:=s.toks+1 }->wpAny (model X.prog X.w) X.A (f (.int i t) (.int j u)) Q E s) :
  OpR X f (rI0 fun i j=>.int (g i j)):=by
 intro pins s zzs H x y v u Q I rx ry h;obtain⟨i,j,rfl,rfl,q⟩:=h;obtain⟨t,rfl⟩:=rx;obtain⟨t',rfl⟩:=ry;exact rule i j t t' s _ _ ⟨.int (g i j),H,I.tok _,⟨_,rfl⟩,q⟩
theorem ZL{f:Value->Value->Sem Value}{g:Int->Int->Bool}
  (rule:∀(i j:Int)(t u:Tok)(s:Shared)(Q:Value->Shared->Prop)(E:Value->Shared->Prop),Q (.bool (g i j)) s->wpAny (model X.prog X.w) X.A (f (.int i t) (.int j u)) Q E s) :
  OpR X f (rI0 fun i j=>.bl (g i j)):=by
 intro pins s zzs H x y v u Q I rx ry h;obtain⟨i,j,rfl,rfl,q⟩:=h;obtain⟨t,rfl⟩:=rx;obtain⟨t',rfl⟩:=ry;exact rule i j t t' s _ _ ⟨.bl (g i j),H,I,rfl,q⟩
def a2j(i j:Int):Prop:=0<j/\j<1073741824
def Vt(i j:Int):Prop:=(-(2^64)<i/\i<2^64)\/(-(2^64)<j/\j<2^64)
theorem Vt.ok{i j:Int}(h:Vt i j):IntMulOk i j:=by
 rcases h with⟨h1,h2⟩|⟨h1,h2⟩
 ·exact .of_left (intBits_le_64 h1 h2)
 ·exact .of_right (intBits_le_64 h1 h2)
theorem ZM:OpR X (binaryOp .Add) (rI0 fun i j=>.int (i+j)):=a1r fun _ _ _ _ _ _ _ q=>add_int q
theorem JF:OpR X (binaryOp .Sub) (rI0 fun i j=>.int (i-j)):=a1r fun _ _ _ _ _ _ _ q=>sub_int q
theorem ZV:OpR X (binaryOp .Mult) (rI Vt fun i j=>.int (i*j)):=opI fun _ _ _ _ _ _ _ hc q=>mul_int q hc.ok
theorem Mz:OpR X (binaryOp .FloorDiv) (rI a2j fun i j=>.int (i / j)):=opI fun i j _ _ _ _ _ hc q=>by
 have h1:(0:Int)<j:=hc.1;have h2:j<1073741824:=hc.2;exact floordiv_int (by lia) (by rw[UJ i (by lia)];exact q) (.inl (PyProof.noPylong_small (by omega)))
theorem nY:OpR X (binaryOp .Mod) (rI (fun _ j=>0<j) fun i j=>.int (i%j)):=opI fun i j _ _ _ _ _ hc q=>by
 have h1:(0:Int)<j:=hc;exact mod_int' (by lia) (by rw[Int.fmod_eq_emod_of_nonneg i (by lia)];exact q)
theorem unI{f:Value->Sem Value}{g:Int->Int}
  (rule:∀(i:Int)(t:Tok)(s:Shared)(Q:Value->Shared->Prop)(E:Value->Shared->Prop),Q (.int (g i) s.toks) { s with toks:=s.toks+1 }->wpAny (model X.prog X.w) X.A (f (.int i t)) Q E s) :
  UnR X f (rU fun i=>.int (g i)):=by
 intro pins s zzs H x v Q I rx h;obtain⟨i,rfl,q⟩:=h;obtain⟨t,rfl⟩:=rx;exact rule i t s _ _ ⟨.int (g i),H,I.tok _,⟨_,rfl⟩,q⟩
theorem rY:UnR X (unaryOp .USub) (rU fun i=>.int (-i)):=unI fun _ _ _ _ _ q=>neg_int q
end
def a1O:V->V->Bool
 |.non,.non=>true|.non,.int _=>true|.int _,.non=>true|.non,.bl _=>true|.bl _,.non=>true|.non,.str _=>true|.str _,.non=>true
 |.int _,.int _=>true|.bl _,.bl _=>true|.str _,.str _=>true|.byt _,.byt _=>true
 |.int _,.str _=>true|.str _,.int _=>true|.bl _,.str _=>true|.str _,.bl _=>true
 |_,_=>false
def rEq:R2:=fun x y H Q=>a1O x y=true/\Q (.bl (decide (x=y))) H
def rNe:R2:=fun x y H Q=>a1O x y=true/\Q (.bl (!decide (x=y))) H
theorem LK{i j:Int}:decide (V.int i=V.int j)=(i==j):=by
 rw[sG];simp
theorem R9{i j:Bool}:decide (V.bl i=V.bl j)=(i==j):=by
 rw[sG];simp
theorem LQ{i j:Str}:decide (V.str i=V.str j)=(i==j):=by
 rw[sG];simp
theorem LC{i j:Array UInt8}:decide (V.byt i=V.byt j)=(i.toList==j.toList):=by
 rw[sG]
 cases i
 cases j
 simp
section
variable{X:Cx}{a b c:Expr}{ta tb tc:TE}{pos:Pos}
theorem bT{pins:List (Addr×Obj)}{zzs:St}{H:Hp}{s:Shared}{Q:VK}{k k':Bool}(I:Inv X pins zzs H s)(q:Q (.bl k) H)(e:k=k'):EP X pins zzs Q (.bool k') s:=by
 subst e;exact⟨.bl k,H,I,rfl,q⟩
theorem lO:OpR X (compareOp .Eq) rEq:=by
 intro pins s zzs H x y v u Q I rx ry h;obtain⟨hs,q⟩:=h
 cases x with
 |non=>
  cases rx
  cases y with
  |non=>cases ry;exact PySem.EqNone.eq_none_none (bT I q (by simp))
  |bl j=>cases ry;exact PySem.EqNone.eq_none_bool (bT I q (by simp))
  |int j=>obtain⟨t',rfl⟩:=ry;exact PySem.EqNone.eq_none_int (bT I q (by simp))
  |str j=>obtain⟨t',rfl⟩:=ry;exact PySem.EqNone.eq_none_str (bT I q (by simp))
  |_=>exact absurd (show false=true from hs) fM
 |bl i=>
  cases rx
  cases y with
  |non=>cases ry;exact PySem.EqNone.eq_bool_none (bT I q (by simp))
  |bl j=>cases ry;exact eq_bool (bT I q R9)
  |str j=>obtain⟨t',rfl⟩:=ry;exact PySem.EqMixed.eq_bool_str (bT I q (by simp))
  |_=>exact absurd (show false=true from hs) fM
 |int i=>
  obtain⟨t,rfl⟩:=rx
  cases y with
  |non=>cases ry;exact PySem.EqNone.eq_int_none (bT I q (by simp))
  |int j=>obtain⟨t',rfl⟩:=ry;exact eq_int (bT I q LK)
  |str j=>obtain⟨t',rfl⟩:=ry;exact PySem.EqMixed.eq_int_str (bT I q (by simp))
  |_=>exact absurd (show false=true from hs) fM
 |str i=>
  obtain⟨t,rfl⟩:=rx
  cases y with
  |non=>cases ry;exact PySem.EqNone.eq_str_none (bT I q (by simp))
  |bl j=>cases ry;exact PySem.EqMixed.eq_str_bool (bT I q (by simp))
  |int j=>obtain⟨t',rfl⟩:=ry;exact PySem.EqMixed.eq_str_int (bT I q (by simp))
  |str j=>obtain⟨t',rfl⟩:=ry;exact eq_str (bT I q LQ)
  |_=>exact absurd (show false=true from hs) fM
 |byt i=>
  obtain⟨t,rfl⟩:=rx
  cases y with
  |byt j=>obtain⟨t',rfl⟩:=ry;exact PySem.W.eq_bytes (bT I q LC)
  |_=>exact absurd (show false=true from hs) fM
 |_=>cases y<;>exact absurd (show false=true from hs) fM
theorem MF:OpR X (compareOp .NotEq) rNe:=by
 intro pins s zzs H x y v u Q I rx ry h;obtain⟨hs,q⟩:=h
 cases x with
 |non=>
  cases rx
  cases y with
  |non=>cases ry;exact PySem.EqNone.ne_none_none (bT I q (by simp))
  |bl j=>cases ry;exact PySem.EqNone.ne_none_bool (bT I q (by simp))
  |int j=>obtain⟨t',rfl⟩:=ry;exact PySem.EqNone.ne_none_int (bT I q (by simp))
  |str j=>obtain⟨t',rfl⟩:=ry;exact PySem.EqNone.ne_none_str (bT I q (by simp))
  |_=>exact absurd (show false=true from hs) fM
 |bl i=>
  cases rx
  cases y with
  |non=>cases ry;exact PySem.EqNone.ne_bool_none (bT I q (by simp))
  |bl j=>cases ry;exact ne_bool (bT I q (congrArg not R9))
  |str j=>obtain⟨t',rfl⟩:=ry;exact PySem.EqMixed.ne_bool_str (bT I q (by simp))
  |_=>exact absurd (show false=true from hs) fM
 |int i=>
  obtain⟨t,rfl⟩:=rx
  cases y with
  |non=>cases ry;exact PySem.EqNone.ne_int_none (bT I q (by simp))
  |int j=>obtain⟨t',rfl⟩:=ry;exact ne_int (bT I q (congrArg not LK))
  |str j=>obtain⟨t',rfl⟩:=ry;exact PySem.EqMixed.ne_int_str (bT I q (by simp))
  |_=>exact absurd (show false=true from hs) fM
 |str i=>
  obtain⟨t,rfl⟩:=rx
  cases y with
  |non=>cases ry;exact PySem.EqNone.ne_str_none (bT I q (by simp))
  |bl j=>cases ry;exact PySem.EqMixed.ne_str_bool (bT I q (by simp))
  |int j=>obtain⟨t',rfl⟩:=ry;exact PySem.EqMixed.ne_str_int (bT I q (by simp))
  |str j=>obtain⟨t',rfl⟩:=ry;exact ne_str (bT I q (congrArg not LQ))
  |_=>exact absurd (show false=true from hs) fM
 |byt i=>
  obtain⟨t,rfl⟩:=rx
  cases y with
  |byt j=>obtain⟨t',rfl⟩:=ry;exact PySem.W.ne_bytes (bT I q (congrArg not LC))
  |_=>exact absurd (show false=true from hs) fM
 |_=>cases y<;>exact absurd (show false=true from hs) fM
theorem wQ:OpR X (compareOp .Lt) (rI0 fun i j=>.bl (decide (i<j))):=ZL fun _ _ _ _ _ _ _ q=>lt_int q
theorem mW:OpR X (compareOp .LtE) (rI0 fun i j=>.bl (decide (i<=j))):=ZL fun _ _ _ _ _ _ _ q=>le_int q
theorem Hs:OpR X (compareOp .Gt) (rI0 fun i j=>.bl (decide (j<i))):=ZL fun _ _ _ _ _ _ _ q=>gt_int q
theorem jV:OpR X (compareOp .In) (fun x y H Q=>∃ i j,x=.str i/\y=.str j/\Q (.bl (!(Builtin.Str.occurrences j i 0 j.length 1).isEmpty)) H):=by
 intro pins s zzs H x y v u Q I rx ry h;obtain⟨i,j,rfl,rfl,q⟩:=h;obtain⟨t,rfl⟩:=rx;obtain⟨t',rfl⟩:=ry;exact in_str (bT I q rfl)
theorem DQ:OpR X (compareOp .Is) (fun x y H Q=>y=.non/\Q (.bl (decide (x=.non))) H):=by
 intro pins s zzs H x y v u Q I rx ry h;obtain⟨rfl,q⟩:=h
 cases ry
 refine is_none_gen (bT I q ?_)
 cases x<;>first
  |(cases rx;rfl)
  |(obtain⟨t,rfl⟩:=rx;rfl)
theorem iV:OpR X (compareOp .NotIn) (fun x y H Q=>∃ i j,x=.str i/\y=.str j/\Q (.bl (!(!(Builtin.Str.occurrences j i 0 j.length 1).isEmpty))) H):=by
 intro pins s zzs H x y v u Q I rx ry h;obtain⟨i,j,rfl,rfl,q⟩:=h;obtain⟨t,rfl⟩:=rx;obtain⟨t',rfl⟩:=ry;exact notIn_str (bT I q rfl)
theorem OpR.or{f:Value->Value->Sem Value}{r r':R2}(h:OpR X f r)(h':OpR X f r'):OpR X f (fun x y H Q=>r x y H Q\/r' x y H Q):=by
 intro pins s zzs H x y v u Q I rx ry q;rcases q with q|q
 ·exact h pins s zzs H x y v u Q I rx ry q
 ·exact h' pins s zzs H x y v u Q I rx ry q
theorem cu(b:Expr){op:CmpOp}(h:op≠.In:=by decide)(h2:op≠.NotIn:=by decide):behindInMarks op b=false:=by
 have e1:(op==CmpOp.In)=false:=by cases op<;>first|rfl|exact absurd rfl h
 have e2:(op==CmpOp.NotIn)=false:=by cases op<;>first|rfl|exact absurd rfl h2
 cases b<;>simp[behindInMarks,e1,e2]
theorem WD{op:CmpOp}{r:R2}(ho:OpR X (compareOp op) r)(ha:PE X a ta)(hb:PE X b tb)(hm:behindInMarks op b=false):PE X (.Compare a [op] [b] pos) (tOp r ta tb):=by
 intro pins s zzs H Q I h;exact wpAny_Compare1 (YG ha hb I h fun v u s2 x y H2 I2 rx ry q=>ho pins s2 zzs H2 x y v u Q I2 rx ry q) hm
def Ny(t:TE):TT:=fun zzs H Q=>t zzs H fun x H'=>∃ k,x=.bl k/\Q k H'
theorem Xd{op:CmpOp}{r:R2}(ho:OpR X (compareOp op) r)(ha:PE X a ta)(hb:PE X b tb)(hm:behindInMarks op b=false):PT X (.Compare a [op] [b] pos) (Ny (tOp r ta tb)):=by
 intro pins s zzs H Q I h;refine wpAny_isTrue_Compare1 (thn (ha pins s zzs H _ I h) fun v s1 ⟨x,H1,I1,r1,q1⟩=>thn (hb pins s1 zzs H1 _ I1 q1) fun u s2 ⟨y,H2,I2,r2,q2⟩=>
  thn (ho pins s2 zzs H2 x y v u _ I2 r1 r2 q2) fun c s3 ⟨z,H3,I3,r3,k,e,q3⟩=>?_) hm
 subst e
 cases r3
 exact uF ⟨H3,I3,q3⟩
def El(r r':R2)(ta tb tc:TE):TE:=fun zzs H Q=>ta zzs H fun x H1=>tb zzs H1 fun y H2=>r x y H2 fun z H3=>∃ k,z=.bl k /\
 (if k=true then tc zzs H3 fun w' H4=>r' y w' H4 Q else Q (.bl false) H3)
theorem Sy{op op':CmpOp}{r r':R2}(ho:OpR X (compareOp op) r)(ho':OpR X (compareOp op') r')(ha:PE X a ta)(hb:PE X b tb)(hc:PE X c tc)
  (hm:lastMarks [op,op'] [b,c]=false:=by with_unfolding_all rfl):PE X (.Compare a [op,op'] [b,c] pos) (El r r' ta tb tc):=by
 intro pins s zzs H Q I h;refine Compare_chain (thn (ha pins s zzs H _ I h) fun v s1 ⟨x,H1,I1,r1,q1⟩=>chain_link (thn (hb pins s1 zzs H1 _ I1 q1) fun u s2 ⟨y,H2,I2,r2,q2⟩=>
  thn (ho pins s2 zzs H2 x y v u _ I2 r1 r2 q2) fun d s3 ⟨z,H3,I3,r3,k,e,q3⟩=>?_)) hm
 subst e
 cases r3
 refine uF ?_
 cases k with
 |false=>exact ite_ff ⟨.bl false,H3,I3,rfl,q3⟩
 |true=>exact ite_tt (chain_last (thn (hc pins s3 zzs H3 _ I3 q3) fun w' s4 ⟨z',H4,I4,r4,q4⟩=>ho' pins s4 zzs H4 y z' u w' Q I4 r2 r4 q4))
theorem T8{op op':CmpOp}{r r':R2}(ho:OpR X (compareOp op) r)(ho':OpR X (compareOp op') r')(ha:PE X a ta)(hb:PE X b tb)(hc:PE X c tc)
  (hm:lastMarks [op,op'] [b,c]=false:=by with_unfolding_all rfl):PT X (.Compare a [op,op'] [b,c] pos) (Ny (El r r' ta tb tc)):=by
 intro pins s zzs H Q I h;refine isTrue_chain (thn (ha pins s zzs H _ I h) fun v s1 ⟨x,H1,I1,r1,q1⟩=>test_link (thn (hb pins s1 zzs H1 _ I1 q1) fun u s2 ⟨y,H2,I2,r2,q2⟩=>
  thn (ho pins s2 zzs H2 x y v u _ I2 r1 r2 q2) fun d s3 ⟨z,H3,I3,r3,k,e,q3⟩=>?_)) hm
 subst e
 cases r3
 refine uF ?_
 cases k with
 |false=>
  obtain⟨k',e',q'⟩:=q3
  cases e'
  exact ite_ff ⟨H3,I3,q'⟩
 |true=>
  refine ite_tt (test_last (thn (hc pins s3 zzs H3 _ I3 q3) fun w' s4 ⟨z',H4,I4,r4,q4⟩=>thn (ho' pins s4 zzs H4 y z' u w' _ I4 r2 r4 q4) fun d' s5 ⟨z2,H5,I5,r5,k2,e2,q5⟩=>?_));subst e2
  cases r5
  exact uF ⟨H5,I5,q5⟩
theorem rF:(sizeLine:Nat)<2^63:=by rw[mD];decide
theorem JC:OpR X (binaryOp .Add) (fun x y H Q=>∃ i j,x=.str i/\y=.str j/\i.length+j.length<=sizeLine/\Q (.str (i++j)) H):=by
 intro pins s zzs H x y v u Q I rx ry h;obtain⟨i,j,rfl,rfl,hz,q⟩:=h;obtain⟨t,rfl⟩:=rx;obtain⟨t',rfl⟩:=ry;exact add_str (fun t' tk=>⟨.str (i++j),H,I.tok _,⟨_,rfl⟩,q⟩) hz
theorem vals1{x:V}{us:List Value}(r:Vals [x] us):∃ u,us=[u]/\RelV x u:=by
 cases r with
 |cons r1 r2=>cases r2;exact⟨_,rfl,r1⟩
theorem vals2{x y:V}{us:List Value}(r:Vals [x,y] us):∃ u w',us=[u,w']/\RelV x u/\RelV y w':=by
 cases r with
 |cons r1 r2=>
  cases r2 with
  |cons r3 r4=>cases r4;exact⟨_,_,rfl,r1,r3⟩
theorem Bp(hc:X.calm=true):fj X (.builtin "max") (fun xs H Q=>∃ i j,xs=[.int i,.int j]/\Q (.int (if j>i then j else i)) H):=by
 intro pins s zzs H xs us Q I r h;obtain⟨i,j,rfl,q⟩:=h;obtain⟨u,w',rfl,⟨t,rfl⟩,⟨t',rfl⟩⟩:=vals2 r;refine max_two_ints (I.ok.hd hc) fun h' tk k=>⟨_,H,I.kept k,?_,q⟩
 by_cases hj:j>i
 ·rw[aK hj,aK hj];exact⟨_,rfl⟩
 ·rw[aG hj,aG hj];exact⟨_,rfl⟩
theorem Br(hc:X.calm=true):fj X (.builtin "min") (fun xs H Q=>∃ i j,xs=[.int i,.int j]/\Q (.int (if j<i then j else i)) H):=by
 intro pins s zzs H xs us Q I r h;obtain⟨i,j,rfl,q⟩:=h;obtain⟨u,w',rfl,⟨t,rfl⟩,⟨t',rfl⟩⟩:=vals2 r;refine min_two_ints (I.ok.hd hc) fun h' tk k=>⟨_,H,I.kept k,?_,q⟩
 by_cases hj:j<i
 ·rw[aK hj,aK hj];exact⟨_,rfl⟩
 ·rw[aG hj,aG hj];exact⟨_,rfl⟩
theorem O2:fj X (.type "int") (fun xs H Q=>(∃ i,xs=[.int i]/\Q (.int i) H)\/∃ k,xs=[.bl k]/\Q (.int (if k then 1 else 0)) H):=by
 intro pins s zzs H xs us Q I r h;rcases h with⟨i,rfl,q⟩|⟨k,rfl,q⟩
 ·obtain⟨u,rfl,t,rfl⟩:=vals1 r;exact call_int_int ⟨.int i,H,I,⟨_,rfl⟩,q⟩
 ·obtain⟨u,rfl,r1⟩:=vals1 r
  cases r1
  exact call_int_bool ⟨.int (if k then 1 else 0),H,I.tok _,⟨_,rfl⟩,q⟩
theorem CW:fj X (.type "str") (fun xs H Q=>∃ i,xs=[.int i]/\i.natAbs.log2<1920/\Q (.str (toString i)) H):=by
 intro pins s zzs H xs us Q I r h;obtain⟨i,rfl,hz,q⟩:=h;obtain⟨u,rfl,t,rfl⟩:=vals1 r;exact PySem.P.str_of_int hz ⟨.str _,H,I.tok _,⟨_,rfl⟩,q⟩
end
structure NZ(h:Heap)(x dx C:Addr)(mA:Str->Option Value):Prop where
 obj:h.get? x=some (PySem.W.instObj C dx)
 ns:h.Ns1 dx mA
 ne:dx≠x
theorem Pg{h:Heap}{dx:Addr}{mA:Str->Option Value}(n:h.Ns1 dx mA):∃ od,h.get? dx=some od/\∀ name,PySem.W.lookIn name od=some (mA name):=by
 obtain⟨o,es,ep,ho,hd,hk,_,hm⟩:=n;refine⟨o,ho,fun name=>?_⟩;have e:=hm name;unfold nsFind findBy at e;rw[<- Array.find?_toList] at e;unfold PySem.W.lookIn;rw[hd];dsimp only;split
 ·rename_i y q
  rw[q] at e;exact congrArg some e
 ·rename_i q
  rw[q] at e;have a:es.toList.any (·.refKey)=false:=by
   rw[List.any_eq_false];intro y hy;obtain⟨z,t,hkey⟩:=hk y (Array.mem_toList_iff.mp hy);simp[DictEntry.refKey,hkey]
  have a':¬es.toList.any (·.refKey)=true:=by rw[a];exact fM
  rw[aG a'];exact congrArg some e
theorem NZ.look{h:Heap}{x dx C:Addr}{mA:Str->Option Value}(I:NZ h x dx C mA):∃ od,PySem.W.InstAt h x (PySem.W.instObj C dx) C (some od)/\∀ name,PySem.W.lookIn name od=some (mA name):=
 let ⟨od,ho,hl⟩:=Pg I.ns
 ⟨od,⟨I.obj,rfl,rfl,ho⟩,hl⟩
section
variable{prog:Program}{w:World}{A:Around}{E:Value->Shared->Prop}{s:Shared}{K:ao}{x dx C f:Addr}{mA:Str->Option Value}{name:Str}{v:Value}
theorem get_map{expr:Bool}{Q:Value->Shared->Prop}(X:K.In s.heap)(I:NZ s.heap x dx C mA)(hg:PySem.W.plainGet K C name=true)(hh:PySem.W.hasDictIn K C=true)
  (ha:PySem.W.findIn K (.ref C) name=some none) (hv:mA name=some v) (hv':PySem.W.handedIn v=true) (h:Q v { s with toks:=s.toks+1 }) :
  wpAny (model prog w) A (getAttr (.ref x) name expr) Q E s:=by
 obtain⟨od,J,hl⟩:=I.look;exact PySem.W.get_value X J (PySem.W.plainGet_of hg).1 (PySem.W.findObj_own hh ha rfl (by rw[hl,hv])) hv' h
theorem Xq{ns:List Str}{Q:Unit->Shared->Prop}(X:K.In s.heap)(I:NZ s.heap x dx C mA)
  (hs:PySem.W.findIn K (.ref C) "__setattr__" = some (some (.builtin "object.__setattr__"))) (hp:PySem.W.plainOver K C=true) (ht:PySem.W.takerIn K C name=some none) (hh:PySem.W.hasDictIn K C=true)
  (hw:PySem.Within mA ns) (hsz:ns.length<=sizeLine)
  (h:∀ h',NZ h' x dx C (fun y=>if y=name then some v else mA y)->Heap.SameBut dx s.heap h'->Q () { s with heap:=h',toks:=s.toks+2 }) :
  wpAny (model prog w) A (setAttr (.ref x) name v) Q E s:=by
 obtain⟨od,J,hl⟩:=I.look;refine PySem.W.set_plain X J hs (PySem.W.osa_open (s:={ s with toks:=s.toks+1 }) (r:=none) X J hp ht fun b=>?_);obtain⟨cd,hc,hd'⟩:=PySem.W.any_some hh;have hx:s.heap.get? x=some ⟨.ref C,some dx,.plain,#[]⟩:=I.obj;refine bO (cV (bO (bO (wpAny_loadPart hx (bO (PySem.W.Looks.here (s:={ s with toks:=s.toks+1 }) (PySem.W.looks_clsIn X hc) ?_))))));rw[hd'];refine cV (a:=some dx) (bO (cV (bO ?_)));refine wpAny_nsSet1 (s:={ s with toks:=s.toks+1 }) I.ns fun h' hn2 hs2=>?_
 obtain⟨oD,esD,epD,hoD,hdD,hcD⟩:=hn2.count (PySem.Within.cons name v hw);refine bO (wpAny_lookBehind hoD (by rw[hdD];exact pastItsLine_dict (cP hcD (by rw[fO];lia))) ?_);exact cV (h _ ⟨(hs2.2 _ (jy I.ne)).trans I.obj,hn2,I.ne⟩ hs2)
theorem RL{R:Result->Shared->Prop}{vs:List Value}{kw:List (Str×Value)}(X:K.In s.heap)(hm:PySem.W.makesIn K C=true)
  (hi:PySem.W.findIn K (.ref C) "__init__" = some (some (.ref f))) (hf:PySem.W.typeIn K (.ref f)=some (.type "function"))
  (h:codeAny (model prog w) (A.under (.builtin "type.__call__" ⟨.ref C::vs,kw⟩)) (.call (.ref f) ⟨.ref (s.heap.objs.size+1)::vs,kw⟩) (PySem.W.InitBack (s.heap.objs.size+1) R)
   { s with heap:=(s.heap.push PySem.W.emptyDict).push (PySem.W.instObj C s.heap.objs.size) }) :
  codeAny (model prog w) A (.call (.ref C) ⟨vs,kw⟩) R s:=by
 obtain⟨hh,g,d,t,os⟩:=s;exact PySem.W.make_core (PySem.W.makes_of X hm) (PySem.W.looks_findIn X hi) (fun self=>PySem.W.bind_fn X self hf) (.inl rfl) h
end
def jH(f:Str)(v:V):List (Str×V)->List (Str×V)
 |[]=>[(f,v)]
 |(g,x)::r=>if g=f then(g,v)::r else(g,x)::jH f v r
theorem fP(f g:Str)(v:V):∀ fs:List (Str×V),(jH f v fs).lookup g=if g=f then some v else fs.lookup g
 |[]=>by
  show List.lookup g [(f,v)]=_;by_cases h:g=f
  ·have hb:(g==f)=true:=j8.mpr h;simp only[List.lookup,hb,aK h]
  ·have hb:(g==f)=false:=oN.mpr h;simp only[List.lookup,hb,aG h]
 |(k,x)::r=>by
  have ih:=fP f g v r;rw[show jH f v ((k,x)::r)=(if k=f then(k,v)::r else(k,x)::jH f v r) from rfl];by_cases hk:k=f
  ·rw[aK hk];by_cases h:g=k
   ·have hb:(g==k)=true:=j8.mpr h;simp only[List.lookup,hb,aK (h.trans hk)]
   ·have hb:(g==k)=false:=oN.mpr h;simp only[List.lookup,hb,aG (fun e:g=f=>h (e.trans hk.symm))]
  ·rw[aG hk];by_cases h:g=k
   ·have hb:(g==k)=true:=j8.mpr h;simp only[List.lookup,hb,aG (fun e:g=f=>hk (h.symm.trans e))]
   ·have hb:(g==k)=false:=oN.mpr h;simp only[List.lookup,hb];exact ih
theorem vq(f:Str)(v:V):∀ fs:List (Str×V),f∈(jH f v fs).map (·.1)/\∀ g,g∈fs.map (·.1)->g∈(jH f v fs).map (·.1)
 |[]=>⟨by simp[jH],fun g h=>by simp at h⟩
 |(k,x)::r=>by
  obtain⟨i1,i2⟩:=vq f v r;rw[show jH f v ((k,x)::r)=(if k=f then(k,v)::r else(k,x)::jH f v r) from rfl];by_cases hk:k=f
  ·rw[aK hk];subst hk;exact⟨by simp,fun g h=>by simpa using h⟩
  ·rw[aG hk];refine⟨?_,fun g h=>?_⟩
   ·rw[cZ];exact dw _ i1
   ·rw[cZ] at h ⊢;rcases cL.mp h with e|e
    ·exact cL.mpr (.inl e)
    ·exact dw _ (i2 g e)
theorem lN(f:Str)(v:V):∀ fs:List (Str×V),(jH f v fs).length<=fs.length+1
 |[]=>by simp[jH]
 |(k,x)::r=>by
  have ih:=lN f v r;rw[show jH f v ((k,x)::r)=(if k=f then(k,v)::r else(k,x)::jH f v r) from rfl];by_cases hk:k=f
  ·rw[aK hk,fO,fO];lia
  ·rw[aG hk,fO,fO];lia
theorem yq.some_of{v:V}{o:Option Value}(r:yq (some v) o):∃ u,o=some u/\RelV v u:=by
 cases o with
 |none=>exact(show False from r).elim
 |some u=>exact⟨u,rfl,r⟩
theorem Ov{v:V}{u:Value}(r:RelV v u):PySem.W.handedIn u=true:=by
 cases v with
 |non=>cases (show u=Value.none from r);rfl
 |bl b=>cases (show u=Value.bool b from r);rfl
 |int i=>obtain⟨t,e⟩:=(show ∃ t,u=Value.int i t from r);cases e;rfl
 |str x=>obtain⟨t,e⟩:=(show ∃ t,u=Value.str x t from r);cases e;rfl
 |byt b=>obtain⟨t,e⟩:=(show ∃ t,u=Value.bytes b t from r);cases e;rfl
 |flt b=>obtain⟨t,e⟩:=(show ∃ t,u=Value.float b t from r);cases e;rfl
 |ref a=>cases (show u=Value.ref a from r);rfl
 |ty n=>cases (show u=Value.type n from r);rfl
section
variable{P:Program}{w:World}{H H':Hp}{h h':Heap}{a C dx:Addr}{fs fs':List (Str×V)}
theorem Mi(hok:HOk P w H h)(e:H a=some (.ins C dx fs)):∃ mA,NZ h a dx C mA/\(∀ f,yq (fs.lookup f) (mA f))/\PySem.Within mA (fs.map (·.1))/\fs.length<=1000/\H dx=some (.own a):=by
 obtain⟨d,z,ne,ob,mA,n,r,q⟩:=(show gq P w H h a (.ins C dx fs) from hok a _ e)
 exact⟨mA,⟨ob,n,ne⟩,r,q,z,d⟩
end
structure Cls(K:ao)(C:Addr):Prop where
 pg:PySem.W.plainGet K C Str.empty=true
 hd:PySem.W.hasDictIn K C=true
 po:PySem.W.plainOver K C=true
 sa:PySem.W.findIn K (.ref C) "__setattr__" = some (some (.builtin "object.__setattr__"))
theorem Cls.get{K:ao}{C:Addr}(c:Cls K C)(f:Str):PySem.W.plainGet K C f=true:=c.pg
def nC(K:ao)(C:Addr)(f:Str):Prop:=PySem.W.findIn K (.ref C) f=some none
theorem nC.taker{K:ao}{C:Addr}{f:Str}(n:nC K C f):PySem.W.takerIn K C f=some none:=by
 unfold PySem.W.takerIn;rw[show PySem.W.findIn K (.ref C) f=some none from n]
 rfl
section
variable{X:Cx}{pins:List (Addr×Obj)}{zzs:St}{H:Hp}{s:Shared}{a C dx:Addr}{fs:List (Str×V)}{f:Str}{v:V}{A:Around}{E:Value->Shared->Prop}
theorem Jm{b:Bool}{Q:Value->Shared->Prop}(I:Inv X pins zzs H s)(e:H a=some (.ins C dx fs))(c:Cls X.K C)(n:nC X.K C f)(l:fs.lookup f=some v)
  (h:∀ u s',Inv X pins zzs H s'->RelV v u->Q u s'):wpAny (model X.prog X.w) A (getAttr (.ref a) f b) Q E s:=by
 obtain⟨mA,O,r,_,_,_⟩:=Mi I.hok e;obtain⟨u,hu,ru⟩:=yq.some_of (v:=v) (o:=mA f) (by rw[<- l];exact r f);exact get_map I.kIn O (c.get f) c.hd n hu (Ov ru) (h u _ (I.tok _) ru)
theorem K1{y:V}{u:Value}{Q:Unit->Shared->Prop}(I:Inv X pins zzs H s)(e:H a=some (.ins C dx fs))(c:Cls X.K C)(n:nC X.K C f)(hl:fs.length<1000)(ry:RelV y u)
  (h:∀ s',Inv X pins zzs (upd H a (.ins C dx (jH f y fs))) s'->Q () s'):wpAny (model X.prog X.w) A (setAttr (.ref a) f u) Q E s:=by
 obtain⟨mA,O,r,wi,_,ho⟩:=Mi I.hok e;have hz:(fs.map (·.1)).length<=sizeLine:=by rw[aU,mD];lia
 refine Xq I.kIn O c.sa c.po n.taker c.hd wi hz fun h' O' sb=>h _ ?_
 have hd:∃ o,h'.get? dx=some o:=let ⟨o,_,_,e',_⟩:=O'.ns;⟨o,e'⟩;refine I.write (x:=a) (e:=dx) (by rw[e];exact True.intro) (.inr ho) (fun b q hb z=>(sb.2 b hb).trans z) hd ?_;refine⟨by rw[bA O.ne];exact ho,?_,O.ne,O'.obj,_,O'.ns,fun g=>?_,fun g hg=>?_⟩
 ·have:=lN f y fs;lia
 ·show yq ((jH f y fs).lookup g) (if g=f then some u else mA g);rw[fP];by_cases q:g=f
  ·rw[aK q,aK q];exact ry
  ·rw[aG q,aG q];exact r g
 ·by_cases q:g=f
  ·rw[q];exact(vq f y fs).1
  ·refine(vq f y fs).2 g (wi g fun z=>hg ?_);show(if g=f then some u else mA g)=none;rw[aG q];exact z
theorem Inv.made(I:Inv X pins zzs H s):Inv X pins zzs (upd (upd H s.heap.objs.size (.own (s.heap.objs.size+1))) (s.heap.objs.size+1) (.ins C s.heap.objs.size []))
  { s with heap:=(s.heap.push PySem.W.emptyDict).push (PySem.W.instObj C s.heap.objs.size) }:=by
 have e1:(s.heap.push PySem.W.emptyDict).get? s.heap.objs.size=some PySem.W.emptyDict:=jc s.heap rfl;have e2:((s.heap.push PySem.W.emptyDict).push (PySem.W.instObj C s.heap.objs.size)).get? (s.heap.objs.size+1)=some (PySem.W.instObj C s.heap.objs.size):=by
  have:=jc (s.heap.push PySem.W.emptyDict) (o:=PySem.W.instObj C s.heap.objs.size) rfl;rwa[Heap.size_push] at this
 have e3:(s.heap.push PySem.W.emptyDict).Ns s.heap.objs.size (fun _=>none):=⟨PySem.W.emptyDict,#[],_,e1,rfl,(fun e he=>absurd he (by simp)),fun _=>rfl⟩
 have I1:=I.laid (a:=s.heap.objs.size) (o:=.own (s.heap.objs.size+1)) (h':=s.heap.push PySem.W.emptyDict) (t':=s.toks) (fun b u q=>dG _ q) (bR _) ⟨_,e1⟩;refine I1.laid (a:=s.heap.objs.size+1) (o:=.ins C s.heap.objs.size []) (t':=s.toks) (fun b u q=>dG _ q) (Nat.le_of_eq (Heap.size_push _ _)) ?_;have ne:s.heap.objs.size≠s.heap.objs.size+1:=fQ (wg _);refine⟨by rw[bA ne,aD],lF _,ne,e2,fun _=>none,(Heap.Ns1.of_empty e3).at fun o q=>dG _ q,fun _=>True.intro,fun y hy=>absurd rfl hy⟩
theorem Vz{prog:Program}{w:World}{env:Env}{e:Expr}{f:Str}{pos:Pos}{s:Shared}{Q:Value->Shared->Prop}(hb:attributeBase e f env (eval e env)=eval e env)
  (h:wpAny (model prog w) A (eval e env) (fun o s₁=>wpAny (model prog w) A (getAttr o f true) Q E s₁) E s):wpAny (model prog w) A (eval (.Attribute e f pos) env) Q E s:=
 Attribute_any_ h (by rw[arm_eval_Attribute,hb])
end
def a0C(K:ao)(ta:TE)(f:Str):TE:=fun zzs H Q=>ta zzs H fun x H1=>∃ a C dx fs v,x=.ref a/\H1 a=some (.ins C dx fs)/\Cls K C/\nC K C f/\fs.lookup f=some v/\Q v H1
def a1N(K:ao)(ta tv:TE)(f:Str):TS:=fun D zzs H=>tv zzs H fun y H1=>ta zzs H1 fun x H2=>∃ a C dx fs,x=.ref a/\H2 a=some (.ins C dx fs)/\Cls K C/\nC K C f/\fs.length<1000 /\
 D.nx zzs (upd H2 a (.ins C dx (jH f y fs)))
section
variable{X:Cx}{o e value:Expr}{f:Str}{pos pos' tpos:Pos}{ta tv:TE}
theorem a04(he:PE X e ta)(hb:attributeBase e f X.env (eval e X.env)=eval e X.env):PE X (.Attribute e f pos) (a0C X.K ta f):=by
 intro pins s zzs H Q I h;refine Vz hb (thn (he pins s zzs H _ I h) fun u s1 ⟨x,H1,I1,rx,a,C,dx,fs,v,ex,ea,c,n,l,q⟩=>?_);subst ex;obtain rfl:u=Value.ref a:=rx;exact Jm I1 ea c n l fun u' s2 I2 ru=>⟨v,H1,I2,ru,q⟩
theorem a0i(ha:PE X o ta)(hv:PE X value tv)(hs:swapsWith value (some (.Attribute o f pos')) pos.line X.env=pure false):PS X (.Assign [.Attribute o f pos'] value pos) (a1N X.K ta tv f):=by
 intro pins s zzs H D I h;refine plainObj_wpAny_Assign_Attribute (thn (hv pins s zzs H _ I h) fun u s1 ⟨y,H1,I1,ry,q⟩=>thn (ha pins s1 zzs H1 _ I1 q) fun ov s2 ⟨x,H2,I2,rx,a,C,dx,fs,ex,ea,c,n,l,q2⟩=>?_) hs;subst ex;obtain rfl:ov=Value.ref a:=rx;exact K1 I2 ea c n l ry fun s3 I3=>⟨zzs,_,I3,q2⟩
end
structure fY(k:Nat)(A:Around):Prop where
 hd:A.handled=none
 dp:A.depth+3*k+5<recursionLimit
 un:A.units+16*k+200<cLine
theorem fY.mono{j k:Nat}{A:Around}(r:fY k A)(h:j<=k):fY j A:=⟨r.hd,by have:=r.dp;lia,by have:=r.un;lia⟩
theorem fY.deeper{k:Nat}{A:Around}(r:fY (k+1) A)(env:Env):fY k (A.deeper env):=
 ⟨r.hd,by have:=r.dp;show A.depth+1+3*k+5<_;lia,by have:=r.un;show A.units+3+16*k+200<_;lia⟩
theorem Jp{A:Around}{C:Addr}{us:List Value}{kw:List (Str×Value)}:(A.under (.builtin "type.__call__" ⟨.ref C::us,kw⟩)).depth=A.depth+1:=by
 first|rfl|simp[Around.under,Code.weight,Code.isCreation,Code.isGuard,Code.isCaller,Code.frames,Code.isFrame,guardIds]
theorem Jq{A:Around}{C:Addr}{us:List Value}{kw:List (Str×Value)}:(A.under (.builtin "type.__call__" ⟨.ref C::us,kw⟩)).units=A.units+1:=by
 first|rfl|simp[Around.under,Code.cUnits,Code.frames,Code.isFrame]
theorem fY.make{k:Nat}{A:Around}(r:fY (k+1) A)(C:Addr)(us:List Value)(kw:List (Str×Value)):fY k (A.under (.builtin "type.__call__" ⟨.ref C::us,kw⟩)):=
 ⟨r.hd,by have:=r.dp;rw[Jp];lia,by have:=r.un;rw[Jq];lia⟩
theorem fY.depth{k:Nat}{A:Around}(r:fY k A):A.depth<recursionLimit:=by have:=r.dp;lia
theorem fY.units{k:Nat}{A:Around}(r:fY k A):A.units+64<cLine:=by have:=r.un;lia
def rW:TA:=fun _ H Q=>Q [] H
def Ih(ta:TE)(tr:TA):TA:=fun zzs H Q=>ta zzs H fun x H1=>tr zzs H1 fun xs H2=>Q (x::xs) H2
section
variable{X:Cx}{e:Expr}{es:List Expr}{te:TE}{t:TA}{pos:Pos}
theorem a00:PA X [] rW:=fun _ _ _ _ H Q I h=>Calls.spliced_nil ⟨[],H,I,.nil,h⟩
theorem Wy(ha:PE X e te)(hr:PA X es t)(hs:starEach (e::es) X.env=(false,eval e X.env)::starEach es X.env:=by rfl):PA X (e::es) (Ih te t):=by
 intro pos pins s zzs H Q I h;rw[hs];show wpAny _ _ (spliced ((false,eval e X.env)::backTo pos (starEach es X.env))) _ _ s;refine Calls.spliced_cons (thn (ha pins s zzs H _ I h) fun u s1 ⟨x,H1,I1,r1,q1⟩=>?_);exact thn (hr pos pins s1 zzs H1 _ I1 q1) fun us s2 ⟨xs,H2,I2,r2,q2⟩=>⟨x::xs,H2,I2,.cons r1 r2,q2⟩
def a0G(t:TA):TE:=fun zzs H Q=>t zzs H fun xs H1=>xs.length<=sizeLine/\∀ p,H1 p=none->Q (.ref p) (upd H1 p (.tup xs))
def a0E(t:TA):TE:=fun zzs H Q=>t zzs H fun xs H1=>xs.length<=sizeLine/\∀ p,H1 p=none->Q (.ref p) (upd H1 p (.lst xs))
theorem a0b {x1} (h:PA X es t):PE X (.Tuple es x1 pos) (a0G t):=by
 intro pins s zzs H Q I hq;refine wpAny_Tuple_spliced (thn (h pos pins s zzs H _ I hq) fun us s1 ⟨xs,H1,I1,r,z,q⟩=>⟨by rw[<- r.length];exact z,?_⟩);have hf:H1 s1.heap.objs.size=none:=I1.hok.fresh (bR _);refine⟨.ref s1.heap.objs.size,upd H1 s1.heap.objs.size (.tup xs),I1.laid (t':=s1.toks) (fun b u e=>dG _ e) (bR _) ?_,rfl,q _ hf⟩;exact⟨z,us,r,⟨_,jc _ rfl,rfl,_,rfl⟩⟩
theorem a06(h:PA X es t):PE X (.List es pos) (a0E t):=by
 intro pins s zzs H Q I hq;refine wpAny_List_spliced (thn (h pos pins s zzs H _ I hq) fun us s1 ⟨xs,H1,I1,r,z,q⟩=>⟨by rw[<- r.length];exact z,?_⟩);have hf:H1 s1.heap.objs.size=none:=I1.hok.fresh (bR _);refine⟨.ref s1.heap.objs.size,upd H1 s1.heap.objs.size (.lst xs),I1.laid (t':=s1.toks) (fun b u e=>dG _ e) (bR _) ?_,rfl,q _ hf⟩;exact⟨z,us,0,r,jc _ rfl⟩
end
abbrev Sp:=List V->Hp->VK->XK->Prop
abbrev CXT:=List Env->Hp->Shared->XK->Value->Shared->Prop
structure Im(P:Program)(w:World)(K:ao)(mg:Str->Option Value)(base:Heap)(A:Around)(outer:List Env)(s:Shared)(H:Hp):Prop where
 frames:A.frames=some outer
 mod:Mod K mg base
 bs:∀ b o,base.get? b=some o->s.heap.get? b=some o/\H b=none
 bsz:base.objs.size<=s.heap.objs.size
 tR:s.heap.FunFrames base outer
 frf:∀ b∈frs outer,H b=none
 hok:HOk P w H s.heap
 bare:AllBare s.gens
def CE(outer:List Env)(P:Program)(w:World)(H:Hp)(s:Shared)(Q:VK)(u:Value)(s':Shared):Prop:=
 ∃ v H',s'.os=s.os/\AllBare s'.gens/\Un (frs outer) [] H H' s.heap s'.heap/\HOk P w H' s'.heap/\RelV v u/\Q v H'
def CR(CX:CXT)(outer:List Env)(P:Program)(w:World)(H:Hp)(s:Shared)(Q:VK)(E:XK)(r:Result)(s':Shared):Prop:=
 match r with
 |.ok (.ret u)=>CE outer P w H s Q u s'
 |.ok _=>False
 |.error e=>CX outer H s E e s'
structure cg(P:Program)(w:World)(K:ao)(mg:Str->Option Value)(base:Heap)(CX:CXT)(k:Nat)(f:Addr)(fd:FuncData)(ps:List Str)(sp:Sp):Prop where
 len:∀ vs H Q E,sp vs H Q E->vs.length=ps.length
 run:∀(A:Around)(outer:List Env)(s:Shared)(H:Hp)(args:Args)(us:List Value)(vs:List V)(Q:VK)(E:XK),fY k A->Im P w K mg base A outer s H->BindsTo s fd args (ps.zip us)->Vals vs us->sp vs H Q E ->
  codeAny (model P w) A (.call (.ref f) args) (CR CX outer P w H s Q E) s
theorem Im.make{P:Program}{w:World}{K:ao}{mg:Str->Option Value}{base:Heap}{A:Around}{outer:List Env}{s:Shared}{H:Hp}(e:Im P w K mg base A outer s H)(C:Addr)(us:List Value)(kw:List (Str×Value)) :
  Im P w K mg base (A.under (.builtin "type.__call__" ⟨.ref C::us,kw⟩)) outer s H:=⟨by first|exact e.frames|(simpa [Around.under,Code.envs,Code.isFrame,pushEnvs] using e.frames),e.mod,e.bs,e.bsz,e.tR,e.frf,e.hok,e.bare⟩
section
variable{X:Cx}{pins:List (Addr×Obj)}{zzs:St}{H:Hp}{s s':Shared}
theorem Inv.env0(I:Inv X pins zzs H s):Im X.prog X.w X.K X.mg X.base X.A X.stack s H:=
 ⟨I.ok.frames,I.ok.mod,I.bs,cP I.ok.bsz I.sz,I.stack,I.ur,I.hok,I.bare⟩
theorem Inv.after{Q:VK}{u:Value}(I:Inv X pins zzs H s)(h:CE X.stack X.prog X.w H s Q u s'):EP X pins zzs Q u s':=by
 obtain⟨v,H',os,bare,un,hok,r,q⟩:=h;obtain⟨hh,g,d,t,os'⟩:=s';obtain rfl:os'=s.os:=os;exact⟨v,H',I.call (h':=hh) (g':=g) (d':=d) (t':=t) (ch:=[]) un hok bare (fun b z=>absurd z (by simp)),r,q⟩
end
def Nx(sp:Sp)(dvs:List V)(E:XK)(t:TA):TE:=fun zzs H Q=>t zzs H fun vs H1=>sp (vs++dvs) H1 Q E
def Ul(C:Addr)(sp:Sp)(dvs:List V)(E:XK)(t:TA):TE:=fun zzs H Q=>t zzs H fun vs H1=>∀ x dx,H1 x=none->H1 dx=none->dx≠x ->
 sp (.ref x::(vs++dvs)) (upd (upd H1 dx (.own x)) x (.ins C dx [])) (fun v H2=>v=.non/\Q (.ref x) H2) E
def Binds(K:ao)(fd:FuncData)(ps:List Str)(ds:List Value):Prop:=
 ∀(s:Shared)(us:List Value),K.In s.heap->(us++ds).length=ps.length->BindsTo s fd ⟨us,[]⟩ (ps.zip (us++ds))
theorem Binds.all{K:ao}{fd:FuncData}{ps:List Str}(h:∀ us:List Value,us.length=ps.length->bindArgs fd ⟨us,[]⟩=pure (ps.zip us)):Binds K fd ps []:=fun s us _ hl=>by
 rw[xG] at hl ⊢;exact .of_eq (h us hl)
def Passes(CX:CXT)(X:Cx)(E:XK):Prop:=∀(pins:List (Addr×Obj))(zzs:St)(H:Hp)(s:Shared)(e:Value)(s':Shared),Inv X pins zzs H s->CX X.stack H s E e s'->X.xe e s'
section
variable{X:Cx}{CX:CXT}{k:Nat}{f C:Addr}{fd:FuncData}{ps:List Str}{sp:Sp}{dvs:List V}{ds:List Value}{E:XK}{x m:Str}{p pos apos:Pos}{e o:Expr}{es:List Expr}{ta:TE}{t:TA}
theorem a0x{pins:List (Addr×Obj)}{zzs:St}{H:Hp}{s:Shared}{Q:VK}{us:List Value}{vs:List V}(F:cg X.prog X.w X.K X.mg X.base CX k f fd ps sp)(hr:fY k X.A)(hb:Binds X.K fd ps ds)(hd:Vals dvs ds)(hx:Passes CX X E)
  (I:Inv X pins zzs H s) (r:Vals vs us) (h:sp (vs++dvs) H Q E):wpAny (model X.prog X.w) X.A (call (.ref f) us) (EP X pins zzs Q) X.xe s:=by
 have r2:Vals (vs++dvs) (us++ds):=r.append hd;have hl:(us++ds).length=ps.length:=by rw[<- r2.length];exact F.len _ _ _ _ h
 refine wpAny_call (wD (F.run X.A X.stack s H ⟨us,[]⟩ (us++ds) (vs++dvs) Q E hr I.env0 (hb s us I.kIn hl) r2 h) fun r s' hq=>?_)
 cases r with
 |error e=>exact hx pins zzs H s e s' I hq
 |ok fl=>
  cases fl with
  |ret u=>exact I.after hq
  |next=>exact False.elim hq
  |brk=>exact False.elim hq
  |cont=>exact False.elim hq
theorem Wz(F:cg X.prog X.w X.K X.mg X.base CX k f fd ps sp)(hr:fY k X.A)(hg:Gl X x)(hm:X.mg x=some (.ref f))(hk:PySem.W.keepIn X.K (.ref f)=true)(hb:Binds X.K fd ps ds)(hd:Vals dvs ds)(hx:Passes CX X E)
  (ha:PA X (e::es) t) (hdb:(x==("__debug__" : Str))=false:=by decide) (he:starEach (e::es) X.env=(false,eval e X.env)::starEach es X.env:=by rfl) (hpl:(backTo pos (starEach es X.env)).any (·.1)=false:=by rfl) :
  PE X (.Call (.Name x p) (e::es) [] pos) (Nx sp dvs E t):=by
 intro pins s zzs H Q I h;refine zY (qJ I hg hm ?_ hdb);refine Ku (h₀:=X.base) I.ok.mod.kin hk (thn (ha pos pins s zzs H _ I h) fun us s1 ⟨vs,H1,I1,r,q⟩=>⟨I1.kIn,?_⟩) he hpl;exact a0x F hr hb hd hx I1 r q
structure Mk(K:ao)(C f:Addr):Prop where
 makes:PySem.W.makesIn K C=true
 init:PySem.W.findIn K (.ref C) "__init__" = some (some (.ref f))
 fn:PySem.W.isFn K (.ref f)=true
 kp:PySem.W.keepIn K (.ref C)=true
theorem TJ{pins:List (Addr×Obj)}{zzs:St}{H:Hp}{s:Shared}{Q:VK}{us:List Value}{vs:List V}(M:Mk X.K C f)(F:cg X.prog X.w X.K X.mg X.base CX k f fd ps sp)(hr:fY (k+1) X.A)(hb:Binds X.K fd ps ds)(hd:Vals dvs ds)
  (hx:Passes CX X E) (I:Inv X pins zzs H s) (r:Vals vs us)
  (h:∀ x dx,H x=none->H dx=none->dx≠x->sp (.ref x::(vs++dvs)) (upd (upd H dx (.own x)) x (.ins C dx [])) (fun v H2=>v=.non/\Q (.ref x) H2) E) :
  wpAny (model X.prog X.w) X.A (call (.ref C) us) (EP X pins zzs Q) X.xe s:=by
 have hq:=h (s.heap.objs.size+1) s.heap.objs.size (I.hok.fresh (sV _)) (I.hok.fresh (bR _)) (fQ (wg _));have I2:=Inv.made (C:=C) I;have r2:Vals (V.ref (s.heap.objs.size+1)::(vs++dvs)) (Value.ref (s.heap.objs.size+1)::(us++ds)):=.cons rfl (r.append hd);have hl:(Value.ref (s.heap.objs.size+1)::us++ds).length=ps.length:=by
  have e:=r2.length;rw[F.len _ _ _ _ hq] at e;exact e.symm
 refine wpAny_call (RL (f:=f) I.kIn M.makes M.init (j8.mp M.fn) (wD (F.run _ X.stack _ _ ⟨Value.ref (s.heap.objs.size+1)::us,[]⟩ (Value.ref (s.heap.objs.size+1)::(us++ds)) _ _ E (hr.make C us [])
  (I2.env0.make C us []) (hb _ (Value.ref (s.heap.objs.size+1)::us) I2.kIn hl) r2 hq) fun r s' hq'=>?_))
 cases r with
 |error e=>exact hx pins zzs _ _ e s' I2 hq'
 |ok fl=>
  cases fl with
  |ret u=>
   obtain⟨v,H',I3,rv,ev,q3⟩:=I2.after hq';subst ev;exact⟨rv,⟨V.ref (s.heap.objs.size+1),H',I3,rfl,q3⟩⟩
  |next=>exact False.elim hq'
  |brk=>exact False.elim hq'
  |cont=>exact False.elim hq'
theorem WQ(M:Mk X.K C f)(F:cg X.prog X.w X.K X.mg X.base CX k f fd ps sp)(hr:fY (k+1) X.A)(hg:Gl X x)(hm:X.mg x=some (.ref C))(hb:Binds X.K fd ps ds)(hd:Vals dvs ds)(hx:Passes CX X E)
  (ha:PA X (e::es) t) (hdb:(x==("__debug__" : Str))=false:=by decide) (he:starEach (e::es) X.env=(false,eval e X.env)::starEach es X.env:=by rfl) (hpl:(backTo pos (starEach es X.env)).any (·.1)=false:=by rfl) :
  PE X (.Call (.Name x p) (e::es) [] pos) (Ul C sp dvs E t):=by
 intro pins s zzs H Q I h;refine zY (qJ I hg hm ?_ hdb);refine Ku (h₀:=X.base) I.ok.mod.kin M.kp (thn (ha pos pins s zzs H _ I h) fun us s1 ⟨vs,H1,I1,r,q⟩=>⟨I1.kIn,?_⟩) he hpl;exact TJ M F hr hb hd hx I1 r q
end
structure aM(N P:List Str)(sc:Scope):Prop where
 kind:sc.kind=.function
 co:sc.isCoroutine=false
 gen:sc.isGenerator=false
 nd:N.Nodup
 pre:N.take P.length=P
 par:∀ x∈P,sc.names.lookup x=some .local\/sc.names.lookup x=some .cell
 Zz:∀ y∈sc.names,y.2≠.free
theorem Bm{kindOf:Str->Option NameKind}{x:Str}:∀ {binds:List (Str×Value)} {m:Str->Option Value},(∀ v,(x,v)∉binds)->bindL kindOf binds m x=m x
 |[],_,_=>rfl
 |(n,v)::r,m,h=>by
  unfold bindL;rw[Bm fun w hw=>h w (dw _ hw)];split
  ·have:x≠n:=by rintro rfl;exact h v cG
   simp[this]
  ·rfl
theorem Bj{kindOf:Str->Option NameKind}{x:Str}:∀ {binds:List (Str×Value)} {m:Str->Option Value},(∀ v,(x,v)∉binds)->bindC kindOf binds m x=m x
 |[],_,_=>rfl
 |(n,v)::r,m,h=>by
  unfold bindC;rw[Bj fun w hw=>h w (dw _ hw)];split
  ·rfl
  ·have:x≠n:=by rintro rfl;exact h v cG
   simp[this]
theorem Bl{kindOf:Str->Option NameKind}{x:Str}{v:Value}:∀ {P:List Str} {vs:List Value} {i:Nat} {m:Str->Option Value},P.Nodup->P[i]?=some x->vs[i]?=some v->kindOf x=some .local ->
  bindL kindOf (P.zip vs) m x=some v
 |[],_,_,_,_,h,_,_=>by simp at h
 |_::_,[],_,_,_,_,h,_=>by simp at h
 |p::P,w::vs,0,m,nd,h1,h2,hk=>by
  simp at h1 h2;subst h1;subst h2;show bindL kindOf ((p,w)::P.zip vs) m p=_;unfold bindL;rw[Bm fun v hv=>(wk.mp nd).1 (KZ hv).1,aK hk];simp
 |p::P,w::vs,i+1,m,nd,h1,h2,hk=>by
  show bindL kindOf ((p,w)::P.zip vs) m x=_;unfold bindL;exact Bl (i:=i) (wk.mp nd).2 (by simpa using h1) (by simpa using h2) hk
theorem Bh{kindOf:Str->Option NameKind}{x:Str}{v:Value}:∀ {P:List Str} {vs:List Value} {i:Nat} {m:Str->Option Value},P.Nodup->P[i]?=some x->vs[i]?=some v->kindOf x≠some .local ->
  bindC kindOf (P.zip vs) m x=some v
 |[],_,_,_,_,h,_,_=>by simp at h
 |_::_,[],_,_,_,_,h,_=>by simp at h
 |p::P,w::vs,0,m,nd,h1,h2,hk=>by
  simp at h1 h2;subst h1;subst h2;show bindC kindOf ((p,w)::P.zip vs) m p=_;unfold bindC;rw[Bj fun v hv=>(wk.mp nd).1 (KZ hv).1,aG hk];simp
 |p::P,w::vs,i+1,m,nd,h1,h2,hk=>by
  show bindC kindOf ((p,w)::P.zip vs) m x=_;unfold bindC;exact Bh (i:=i) (wk.mp nd).2 (by simpa using h1) (by simpa using h2) hk
def start(N:List Str)(vs:List V):St:=vs.map some++List.replicate (N.length-vs.length) none
def oU(CX:CXT)(P:Program)(w:World)(K:ao)(mg:Str->Option Value)(base:Heap)(N:List Str)(qual:Str)(scope:Scope)(f:Addr)(cd:Value)(A:Around)(outer:List Env)(s:Shared)(H:Hp)(E:XK):Cx where
 prog:=P
 w:=w
 K:=K
 mg:=mg
 base:=base
 A:=A.deeper (envOfC qual scope s.heap.objs.size f cd)
 N:=N
 s₀:=s
 H₀:=H
 env:=envOfC qual scope s.heap.objs.size f cd
 outer:=outer
 stack:=envOfC qual scope s.heap.objs.size f cd::outer
 ex:=[]
 calm:=true
 fn:=fun _=>true
 pn:=[]
 xe:=fun e s'=>wpAny (model P w) (A.deeper (envOfC qual scope s.heap.objs.size f cd)) (leaving (envOfC qual scope s.heap.objs.size f cd) e) (fun _ s''=>CX outer H s E e s'') (fun e' s''=>CX outer H s E e' s'') s'
theorem Gh{sc:Scope}{n:Nat}{x:Str}(h:sc.names.lookup x=some .cell):∃ c,(cellsFrom n sc.names []).lookup x=some c:=by
 have q:=Vb sc.names n [] (.inl h);exact V2.mp q
theorem Ox{CX:CXT}{P:Program}{w:World}{K:ao}{mg:Str->Option Value}{base:Heap}{N ps:List Str}{qual:Str}{scope:Scope}{f:Addr}{cd:Value}{A:Around}{outer:List Env}{s s1:Shared}{H:Hp}{E:XK}{us:List Value}{vs:List V}
  (S:aM N ps scope) (hd:A.handled=none) (e0:Im P w K mg base A outer s H) (hl:vs.length=ps.length) (r:Vals vs us)
  (x:InCallC s s.heap.objs.size (bindL (envOfC qual scope s.heap.objs.size f cd).kindOf (ps.zip us) fun _=>none) (cellsFrom (s.heap.objs.size+1) scope.names []) (bindC (envOfC qual scope s.heap.objs.size f cd).kindOf (ps.zip us) fun _=>none) s1) :
  Inv (oU CX P w K mg base N qual scope f cd A outer s H E) [] (start N vs) H s1:=by
 have hpl:ps.length<=N.length:=by have:=congrArg List.length S.pre;rw[qt] at this;lia
 obtain⟨h1,tk,rfl,hk⟩:=x.done;have noA:∀ b:Addr,b∉(oU CX P w K mg base N qual scope f cd A outer s H E).ex:=fun b z=>absurd (show b∈([]:List Addr) from z) (by simp)
 refine⟨⟨e0.mod,S.kind,rfl,rfl,bR _,fun y z c h1 h2=>?_,fun y hy=>?_,fun y c _ h=>?_,fun _=>hd,Around.frames_deeper e0.frames,.inr ⟨rfl,rfl⟩,fun b z=>absurd z (noA b),e0.bs,e0.bsz,fun b _ _=>noA b,fun b z=>absurd z (noA b),e0.tR,e0.frf⟩,
  rfl,e0.bare,Un.kept hk,⟨_,x.toInCall.ns,fun i y v h1 h2 h3=>?_⟩,fun y c h=>⟨_,x.cell y c h⟩,e0.hok.fresh (bR _),fun y c h=>?_,fun p hp=>absurd (show p∈([]:List (Addr×Obj)) from hp) (by simp),e0.hok.kept hk,?_⟩
 ·exact name_of_addr x.apart (zV h1) (zV h2)
 ·have hy:scope.names.lookup y=some .cell\/scope.names.lookup y=some .free:=hy;rcases hy with hy|hy
  ·exact Gh hy
  ·exact absurd rfl (S.Zz _ (zV hy))
 ·exact Fv (x.above y c (zV h))
 ·have hi:i<vs.length:=by
   unfold start at h2;by_cases hi:i<vs.length
   ·exact hi
   ·rw[Aj (by simpa using hi)] at h2;rw[Ke] at h2;split at h2<;>cases h2
  have ha:vs[i]?=some v:=by
   unfold start at h2;rw[Cu (by simpa using hi),cU] at h2
   cases e:vs[i]? with
   |none=>rw[e] at h2;cases h2
   |some a=>rw[e] at h2;cases h2;rfl
  obtain⟨u,hu,rv⟩:=r.get ha;have hp:ps[i]?=some y:=by
   rw[<- S.pre,V3 (by lia)];exact h1
  have ndP:ps.Nodup:=by rw[<- S.pre];exact S.nd.sublist (List.take_sublist _ _)
  refine⟨u,rv,?_⟩;rcases S.par y (fB hp) with k|k
  ·exact .inl ⟨k,Bl ndP hp hu k⟩
  ·obtain⟨c,e⟩:=Gh (n:=s.heap.objs.size+1) k;refine .inr ⟨.inl k,c,e,?_⟩;have q:=x.cell y c e;rw[Bh ndP hp hu (by show scope.names.lookup y≠_;rw[k];decide)] at q;exact q
 ·exact e0.hok.fresh (Fv (x.above y c (zV h)))
 ·unfold start;show _=N.length;rw[dB,aU,zQ];lia
theorem a1g{CX:CXT}{P:Program}{w:World}{K:ao}{mg:Str->Option Value}{base:Heap}{k:Nat}{f:Addr}{name qual:Str}{params:Arguments}{body:List Stmt}{scope:Scope}{dV kV doc pm cdv ct oc:Value}{an od:Option Addr}
  {osl:Array (Option Value)} {N ps:List Str} {sp:Sp} (lk:K.lookup f=some ⟨oc,od,.func (PySem.W.fnOf name qual params body scope dV kV doc pm an cdv ct),osl⟩) (hcd:PySem.W.codeIn K cdv qual=true) (S:aM N ps scope)
  (len:∀ vs H Q E,sp vs H Q E->vs.length=ps.length)
  (hbody:∀(A:Around)(outer:List Env)(s:Shared)(H:Hp)(vs:List V)(Q:VK)(E:XK),fY k (A.deeper (envOfC qual scope s.heap.objs.size f cdv))->sp vs H Q E ->
   ∃ t,PSs (oU CX P w K mg base N qual scope f cdv A outer s H E) body t/\t { nx:=fun _ H'=>Q .non H',rt:=Q } (start N vs) H) :
  cg P w K mg base CX (k+1) f (PySem.W.fnOf name qual params body scope dV kV doc pm an cdv ct) ps sp:=by
 refine⟨len,fun A outer s H args us vs Q E hr e0 hb r hsp=>?_⟩;have hl:=len _ _ _ _ hsp;have KX:K.In s.heap:=e0.mod.kin.keeps fun b o e=>(e0.bs b o e).1
 have lim:s.heap.NoLimit:=e0.mod.nolimit.keeps fun b o e=>(e0.bs b o e).1
 have hkind:∀ y∈ps.zip us,scope.names.lookup y.1=some .local\/(scope.names.lookup y.1=some .cell/\((cellsFrom (s.heap.objs.size+1) scope.names []).lookup y.1).isSome=true):=fun⟨n,v⟩ hy=>by
  rcases S.par n (KZ hy).1 with q|q
  ·exact .inl q
  ·exact .inr ⟨q,Vb _ _ _ (.inl q)⟩
 refine codeAny_call_function hr.depth (KX _ _ lk) rfl S.co S.gen rfl (PySem.W.codeRec_of KX hcd) (hb _ _ _ _ ?_);refine wpAny_newFunctionEnv_cells S.kind hkind fun env he s1 x=>?_
 subst he;refine⟨lim.keeps x.toInCall.keep,codeAny_func ?_⟩;obtain⟨t,ht,hq⟩:=hbody A outer s H vs Q E (hr.deeper _) hsp;have I:Inv (oU CX P w K mg base N qual scope f cdv A outer s H E) [] (start N vs) H s1:=Ox S hr.hd e0 hl r x;refine iM (ht [] s1 (start N vs) H _ I hq) (fun fl s' hs=>?_) fun e s' hs=>hs
 have fin:∀ {bB:St} {H':Hp} {v:V} {u:Value},Inv (oU CX P w K mg base N qual scope f cdv A outer s H E) [] bB H' s'->RelV v u->Q v H'->CE outer P w H s Q u s':=
  fun {bB H' v u} J rv q=>⟨v,H',J.os,J.bare,J.base,J.hok,rv,q⟩
 cases fl with
 |ret u=>
  obtain⟨v,bB,H',J,rv,q⟩:=hs;exact fin J rv q
 |next=>
  obtain⟨bB,H',J,q⟩:=hs;exact fin (v:=V.non) (u:=Value.none) J rfl q
 |brk=>
  obtain⟨_,_,_,q⟩:=hs;exact False.elim q
 |cont=>
  obtain⟨_,_,_,q⟩:=hs;exact False.elim q
section
variable{X:Cx}{x:Str}{p pos:Pos}{e:Expr}{es:List Expr}{t:TA}{id T:String}{r:List V->Hp->VK->Prop}
def tCB(r:List V->Hp->VK->Prop)(t:TA):TE:=fun zzs H Q=>t zzs H fun vs H1=>r vs H1 Q
theorem Sx(hc:fj X (.builtin id) r)(hg:Gl X x)(hm:X.mg x=none)(hv:bootBuiltins x=some (.builtin id))(ha:PA X (e::es) t) (hn:x ≠ "__name__":=by decide) (hdb:(x==("__debug__" : Str))=false:=by decide)
  (he:starEach (e::es) X.env=(false,eval e X.env)::starEach es X.env:=by rfl) (hpl:(backTo pos (starEach es X.env)).any (·.1)=false:=by rfl):PE X (.Call (.Name x p) (e::es) [] pos) (tCB r t):=by
 intro pins s zzs H Q I h;refine zY (DP I hg hm hv ?_ hn hdb);exact PyProof.Rows.callWith_builtin1 (thn (ha pos pins s zzs H _ I h) fun us s1 ⟨vs,H1,I1,r1,q1⟩=>hc pins s1 zzs H1 vs us Q I1 r1 q1) he hpl
theorem Q5(hc:fj X (.type T) r)(hg:Gl X x)(hm:X.mg x=none)(hv:bootBuiltins x=some (.type T))(ha:PA X (e::es) t) (hn:x ≠ "__name__":=by decide) (hdb:(x==("__debug__" : Str))=false:=by decide)
  (he:starEach (e::es) X.env=(false,eval e X.env)::starEach es X.env:=by rfl) (hpl:(backTo pos (starEach es X.env)).any (·.1)=false:=by rfl):PE X (.Call (.Name x p) (e::es) [] pos) (tCB r t):=by
 intro pins s zzs H Q I h;refine zY (DP I hg hm hv ?_ hn hdb);exact Ka (thn (ha pos pins s zzs H _ I h) fun us s1 ⟨vs,H1,I1,r1,q1⟩=>hc pins s1 zzs H1 vs us Q I1 r1 q1) he hpl
end
end L2
namespace HT
open PySem PyProof.Rows
section
open PySem.SeqAt
open PySem.AutoSeq1 (wpAny_loadPart')
open PySem.MeetsSeq PySem.MeetsSeq2 PySem.MeetsSeq3
end
end HT
namespace L2
open PySem PySem.Spec PyProof.Rows
def ixN(n:Nat)(i:Int):Option Nat:=if 0<=i then(if i<n then some i.toNat else none) else if -(n:Int)<=i then some (i+n).toNat else none
def atI{α:Type}(xs:List α)(i:Int):Option α:=(ixN xs.length i).bind fun j=>xs[j]?
theorem Mj{n:Nat}{i:Int}{j:Nat}(h:ixN n i=some j):seqIndex? i n=some j/\j<n /\ -(n:Int)<=i/\i<n:=by
 unfold ixN at h;by_cases h0:0<=i
 ·rw[aK h0] at h;by_cases h1:i<n
  ·rw[aK h1] at h;have e:i.toNat=j:=gO h;exact⟨by rw[seqIndex_of h0 h1,e],by lia,by lia,h1⟩
  ·rw[aG h1] at h;cases h
 ·rw[aG h0] at h;by_cases h1 : -(n:Int)<=i
  ·rw[aK h1] at h;have e:(i+n).toNat=j:=gO h;exact⟨by rw[seqIndex_neg (by lia) h1,e],by lia,h1,by lia⟩
  ·rw[aG h1] at h;cases h
theorem CN{α:Type}{xs:List α}{i:Int}{v:α}(h:atI xs i=some v):∃ j,seqIndex? i xs.length=some j/\xs[j]?=some v/\j<xs.length /\ -(xs.length:Int)<=i/\i<xs.length:=by
 unfold atI at h
 cases e:ixN xs.length i with
 |none=>rw[e] at h;cases h
 |some j=>
  rw[e] at h;obtain⟨h1,h2,h3,h4⟩:=Mj e;exact⟨j,h1,h,h2,h3,h4⟩
theorem cW{α:Type}{xs:List α}{j:Nat}{v:α}(h:xs[j]?=some v):atI xs (j:Int)=some v:=by
 have hj:j<xs.length:=(j9.mp h).1;have e:ixN xs.length (j:Int)=some j:=by
  unfold ixN;rw[aK (by lia),aK (by lia)];simp
 unfold atI;rw[e];exact h
def Ln(b:Expr):Prop:=∀ o i,subscripted b false o i=operate [o,i] (getItem o i)
def IxR(X:Cx)(r:R2):Prop:=
 ∀(value slice:Expr)(pins:List (Addr×Obj))(s:Shared)(zzs:St)(H:Hp)(x y:V)(v u:Value)(Q:VK),Inv X pins zzs H s->RelV x v->RelV y u->r x y H Q ->
  subscripted slice false v u=operate [v,u] (getItem v u)->wpAny (model X.prog X.w) X.A (subscriptTail value slice v u) (EP X pins zzs Q) X.xe s
def MtR(X:Cx)(id:String)(r:V->List V->Hp->VK->Prop):Prop:=
 ∀(pins:List (Addr×Obj))(s:Shared)(zzs:St)(H:Hp)(x:V)(xs:List V)(v:Value)(us:List Value)(Q:VK),Inv X pins zzs H s->RelV x v->Vals xs us->r x xs H Q ->
  wpAny (model X.prog X.w) X.A (call (.builtin id) (v::us)) (EP X pins zzs Q) X.xe s
section
variable{X:Cx}{a b:Expr}{ta tb:TE}{pos:Pos}
theorem IxR.or{r r':R2}(h:IxR X r)(h':IxR X r'):IxR X (fun x y H Q=>r x y H Q\/r' x y H Q):=by
 intro value slice pins s zzs H x y v u Q I rx ry q hs;rcases q with q|q
 ·exact h value slice pins s zzs H x y v u Q I rx ry q hs
 ·exact h' value slice pins s zzs H x y v u Q I rx ry q hs
theorem a1u{r:R2}(hr:IxR X r)(ha:PE X a ta)(hb:PE X b tb)(hs:Ln b):PE X (.Subscript a b pos) (tOp r ta tb):=by
 intro pins s zzs H Q I h;exact Subscript_ (YG ha hb I h fun v u s2 x y H2 I2 rx ry q=>hr a b pins s2 zzs H2 x y v u Q I2 rx ry q (hs _ _))
def a1G(K:ao):R2:=fun x y H Q=>∃ p xs i v,x=.ref p/\y=.int i/\SqL K H p xs/\atI xs i=some v/\Q v H
def a1I(K:ao):R2:=fun x y H Q=>∃ p xs i v,x=.ref p/\y=.int i/\SqT K H p xs/\atI xs i=some v/\Q v H
def a1H:R2:=fun x y H Q=>∃ z i c,x=.str z/\y=.int i/\z.length<=sizeLine/\atI z.cps.toList i=some c/\Q (.str ⟨#[c]⟩) H
theorem W8:IxR X (a1G X.K):=by
 intro value slice pins s zzs H x y v u Q I rx ry h hs;obtain⟨p,xs,i,z,rfl,rfl,hq,he,q⟩:=h
 cases rx
 obtain⟨t,rfl⟩:=ry;obtain⟨its,r,pl,hz⟩:=I.list hq;obtain⟨j,h1,h2,h3,h4,h5⟩:=CN he;obtain⟨w,ew,rw'⟩:=r.get h2;have hl:=r.length;have hn:=rF;have fin:EP X pins zzs Q w s:=⟨z,H,I,rw',q⟩
 by_cases h0:0<=i
 ·have hj:i.toNat=j:=by
   rw[seqIndex_of h0 h5] at h1;exact gO h1
  exact item_listR pl.isList h0 (by lia) (by rw[hj];simpa using ew) fin hs
 ·have hj:(i+(its.toArray.size:Int)).toNat=j:=by
   rw[seqIndex_neg (by lia) h4] at h1;rw[cD,<- hl];exact gO h1
  exact subscriptTail_builtinR (x:=w) pl.isList.typeIs slot_list_getitem.lookup
   (wpAny_getItem_list_neg (Q:=fun r s'=>r=w/\EP X pins zzs Q r s') pl.isList (by lia) (by rw[cD]<;>lia) (by lia) (by rw[hj];simpa using ew) ⟨rfl,fin⟩) hs
theorem Ze:IxR X (a1I X.K):=by
 intro value slice pins s zzs H x y v u Q I rx ry h hs;obtain⟨p,xs,i,z,rfl,rfl,hq,he,q⟩:=h
 cases rx
 obtain⟨t,rfl⟩:=ry;obtain⟨its,r,pl,hz⟩:=I.tuple hq;obtain⟨j,h1,h2,h3,h4,h5⟩:=CN he;obtain⟨w,ew,rw'⟩:=r.get h2;have hl:=r.length;have hn:=rF;have fin:EP X pins zzs Q w s:=⟨z,H,I,rw',q⟩
 exact subscriptTail_builtinR (x:=w) pl.typeIs slot_tuple_getitem.lookup
  (getItem_tuple (j:=j) (Q:=fun r s'=>r=w/\EP X pins zzs Q r s') pl (by lia) (by lia) (by rw[cD,<- hl];exact h1) (by simpa using ew) ⟨rfl,fin⟩) hs
theorem Zd:IxR X a1H:=by
 intro value slice pins s zzs H x y v u Q I rx ry h hs;obtain⟨z,i,c,rfl,rfl,hz,he,q⟩:=h;obtain⟨t,rfl⟩:=rx;obtain⟨t',rfl⟩:=ry;obtain⟨j,h1,h2,h3,h4,h5⟩:=CN he;have hl:z.cps.toList.length=z.length:=by simp[Str.length]
 rw[hl] at h1 h4 h5;have hn:=rF;exact tail_any (typeIs_str s z t) slot_str_getitem.lookup (getItem_str (c:=c) (by
  have e1:decide (i < -(2^63:Int))=false:=bZ (by lia);have e2:decide (i>=2^63)=false:=bZ (by lia);rw[e1,e2,Bool.or_false]) (by rw[h1];simpa using h2) ⟨.str ⟨#[c]⟩,H,I.tok _,⟨_,rfl⟩,q⟩) hs
def rIx(K:ao):R2:=fun x y H Q=>a1G K x y H Q\/a1I K x y H Q\/a1H x y H Q
theorem Zc:IxR X (rIx X.K):=W8.or (Ze.or Zd)
theorem Jr(its:List Value)(n j:Nat)(u:Value):Obj.mapSeq (·.setIfInBounds j u) { cls:=.type "list",data:=.seq its.toArray n }={ cls:=.type "list",data:=.seq (its.set j u).toArray n }:=by
 simp[Obj.mapSeq]
theorem Inv.lst{pins:List (Addr×Obj)}{zzs:St}{H:Hp}{s:Shared}{p:Addr}{xs:List V}(I:Inv X pins zzs H s)(h:H p=some (.lst xs)) :
  ∃(its:List Value)(n:Nat),Vals xs its/\s.heap.get? p=some { cls:=.type "list",data:=.seq its.toArray n }/\xs.length<=sizeLine:=by
 obtain⟨z,its,n,r,e⟩:=I.hok p _ h;exact⟨its,n,r,e,z⟩
theorem Inv.Zq{pins:List (Addr×Obj)}{zzs:St}{H:Hp}{s:Shared}{p:Addr}{xs ys:List V}{its its':List Value}{n n':Nat}{f:Obj->Obj}(I:Inv X pins zzs H s)(h:H p=some (.lst xs))
  (ho:s.heap.get? p=some { cls:=.type "list",data:=.seq its.toArray n }) (hf:f { cls:=.type "list",data:=.seq its.toArray n }={ cls:=.type "list",data:=.seq its'.toArray n' }) (r:Vals ys its') (hz:ys.length<=sizeLine) (t:Nat) :
  Inv X pins zzs (upd H p (.lst ys)) { s with heap:=s.heap.update p f,toks:=t }:=by
 have e:(s.heap.update p f).get? p=some { cls:=.type "list",data:=.seq its'.toArray n' }:=by
  rw[Heap.get?_update_self f ho (by rw[hf]<;>rfl),hf]
 refine I.write (x:=p) (e:=p) (by rw[h];trivial) (.inl rfl) (fun b u hb q=>(Heap.get?_update_other _ _ (jy hb)).trans q) ⟨_,e⟩ ?_;exact⟨hz,its',n',r,e⟩
def Yh:V->V->V->Hp->(Hp->Prop)->Prop:=fun o i v H Q=>∃ p xs k j,o=.ref p/\i=.int k/\H p=some (.lst xs)/\ixN xs.length k=some j/\Q (upd H p (.lst (xs.set j v)))
theorem set_list:Qx X Yh:=by
 intro pins s zzs H o i v ov iv u Q I ro ri rv h;obtain⟨p,xs,k,j,rfl,rfl,hp,hj,q⟩:=h
 cases ro
 obtain⟨t,rfl⟩:=ri;obtain⟨its,n,r,ho,hz⟩:=I.lst hp;obtain⟨h1,h2,h3,h4⟩:=Mj hj;have hl:=r.length;have hn:=rF;have I':Inv X pins zzs (upd H p (.lst (xs.set j v))) { s with heap:=s.heap.update p (Obj.mapSeq (·.setIfInBounds j u)) }:=
  I.Zq hp ho (Jr its n j u) (r.set rv j) (by rw[Fl];exact hz) s.toks
 by_cases h0:0<=k
 ·have hk:k.toNat=j:=by
   rw[seqIndex_of h0 h4] at h1;exact gO h1
  exact PySem.W.ki_setAt ho h0 (by lia) (by rw[cD,<- hl];exact h4) (by rw[hk];exact⟨_,I',q⟩)
 ·have hk:(k+(its.toArray.size:Int)).toNat=j:=by
   rw[seqIndex_neg (by lia) h3] at h1;rw[cD,<- hl];exact gO h1
  exact PySem.W.ki_setBack ho (by lia) (by rw[cD,<- hl];exact h3) (by lia) (by rw[hk];exact⟨_,I',q⟩)
def M8:V->Bool
 |.non=>true
 |.bl _=>true
 |.int _=>true
 |.str _=>true
 |_=>false
def eqV:V->V->Bool
 |.non,.non=>true
 |.bl a,.bl b=>a==b
 |.bl a,.int b=>(if a then 1 else 0)==b
 |.int a,.bl b=>a==(if b then 1 else 0)
 |.int a,.int b=>a==b
 |.str a,.str b=>a==b
 |_,_=>false
theorem Rc{A:Around}{s:Shared}{y x:V}{u v:Value}(ry:RelV y u)(rx:RelV x v)(fy:M8 y=true)(fx:M8 x=true):SeqAt.EqAt A s u v (eqV y x):=by
 cases y with
 |non=>
  cases ry
  cases x with
  |non=>cases rx;exact SeqAt.EqAt.same _
  |bl b=>cases rx;exact SeqAt.EqAt.none_bool b
  |int b=>obtain⟨t,rfl⟩:=rx;exact SeqAt.EqAt.none_int b t
  |str b=>obtain⟨t,rfl⟩:=rx;exact SeqAt.EqAt.none_str b t
  |_=>exact absurd (show false=true from fx) fM
 |bl a=>
  cases ry
  cases x with
  |non=>cases rx;exact SeqAt.EqAt.bool_none a
  |bl b=>cases rx;exact SeqAt.EqAt.bool_bool a b
  |int b=>obtain⟨t,rfl⟩:=rx;exact SeqAt.EqAt.bool_int a b t
  |str b=>obtain⟨t,rfl⟩:=rx;exact SeqAt.EqAt.bool_str a b t
  |_=>exact absurd (show false=true from fx) fM
 |int a=>
  obtain⟨t',rfl⟩:=ry
  cases x with
  |non=>cases rx;exact SeqAt.EqAt.int_none a t'
  |bl b=>cases rx;exact SeqAt.EqAt.int_bool a t' b
  |int b=>obtain⟨t,rfl⟩:=rx;exact SeqAt.EqAt.int_int a t' b t
  |str b=>obtain⟨t,rfl⟩:=rx;exact SeqAt.EqAt.int_str a t' b t
  |_=>exact absurd (show false=true from fx) fM
 |str a=>
  obtain⟨t',rfl⟩:=ry
  cases x with
  |non=>cases rx;exact SeqAt.EqAt.str_none a t'
  |bl b=>cases rx;exact SeqAt.EqAt.str_bool a t' b
  |int b=>obtain⟨t,rfl⟩:=rx;exact SeqAt.EqAt.str_int a t' b t
  |str b=>obtain⟨t,rfl⟩:=rx;exact SeqAt.EqAt.str_str a t' b t
  |_=>exact absurd (show false=true from fx) fM
 |_=>exact absurd (show false=true from fy) fM
theorem CQ:fj X (.builtin "len") (fun xs H Q=>∃ p ys,xs=[.ref p]/\(SqL X.K H p ys\/SqT X.K H p ys)/\Q (.int ys.length) H):=by
 intro pins s zzs H xs us Q I r h;obtain⟨p,ys,rfl,hq,q⟩:=h;obtain⟨u,rfl,rx⟩:=vals1 r
 cases rx
 have hn:=rF;rcases hq with hq|hq
 ·obtain⟨its,r',pl,hz⟩:=I.list hq;have hlen:=r'.length;exact Calls.call_len_list pl.isList (by simp only[cD]<;>lia) ⟨.int ys.length,H,I.tok _,⟨s.toks+1,by rw[cD,hlen]⟩,q⟩
 ·obtain⟨its,r',pl,hz⟩:=I.tuple hq;have hlen:=r'.length;exact len_tuple pl (by simp only[cD]<;>lia) ⟨.int ys.length,H,I.tok _,⟨s.toks+1,by rw[cD,hlen]⟩,q⟩
theorem CT:fj X (.builtin "len") (fun xs H Q=>∃ z,xs=[.str z]/\z.length<=sizeLine/\Q (.int z.length) H):=by
 intro pins s zzs H xs us Q I r h;obtain⟨z,rfl,hz,q⟩:=h;obtain⟨u,rfl,t,rfl⟩:=vals1 r;have hn:=rF;exact len_str (by lia) ⟨.int z.length,H,I.tok _,⟨_,rfl⟩,q⟩
theorem fj.or{f:Value}{r r':List V->Hp->VK->Prop}(h:fj X f r)(h':fj X f r'):fj X f (fun xs H Q=>r xs H Q\/r' xs H Q):=by
 intro pins s zzs H xs us Q I rs q;rcases q with q|q
 ·exact h pins s zzs H xs us Q I rs q
 ·exact h' pins s zzs H xs us Q I rs q
theorem CV:fj X (.type "list") (fun xs H Q=>∃ p ys,xs=[.ref p]/\(SqL X.K H p ys\/SqT X.K H p ys)/\∀ l,H l=none->Q (.ref l) (upd H l (.lst ys))):=by
 intro pins s zzs H xs us Q I r h;obtain⟨p,ys,rfl,hq,q⟩:=h;obtain⟨u,rfl,rx⟩:=vals1 r
 cases rx
 have fin:∀(its:List Value),Vals ys its->ys.length<=sizeLine->∀(h':Heap)(c':Nat),(∀ b o',s.heap.get? b=some o'->h'.get? b=some o') ->
   h'.get? s.heap.objs.size=some { cls:=.type "list",dict:=none,data:=.seq its.toArray c',slots:=#[] }->EP X pins zzs Q (.ref s.heap.objs.size) { s with heap:=h' }:=fun its r' hz h' c' kp e=>
  ⟨.ref s.heap.objs.size,_,I.laid (t':=s.toks) kp (bR _) (show gq X.prog X.w _ h' _ (.lst ys) from⟨hz,its,c',r',e⟩),rfl,q _ (I.hok.fresh (bR _))⟩
 rcases hq with hq|hq
 ·obtain⟨its,r',pl,hz⟩:=I.list hq;have hlen:=r'.length;obtain⟨o,ho,hc,n,hd⟩:=pl.isList;exact call_list_seq p (.inl rfl) ho hc hd (fun h' c' kp e=>fin its r' hz h' c' kp e) (by simp only[cD]<;>lia)
 ·obtain⟨its,r',pl,hz⟩:=I.tuple hq;have hlen:=r'.length;obtain⟨o,ho,hc,n,hd⟩:=pl;exact call_list_seq p (.inr rfl) ho hc hd (fun h' c' kp e=>fin its r' hz h' c' kp e) (by simp only[cD]<;>lia)
def tyV(K:ao)(T:String)(x:V)(H:Hp):Prop:=match x with
 |.str _=>T = "str"
 |.int _=>T = "int"
 |.ref p=>(T = "list" /\ ∃ xs,SqL K H p xs)\/(T = "tuple" /\ ∃ o,K.lookup p=some o/\o.cls=.type "tuple" /\ o.dict=none) \/
   (T = "dict" /\ ((∃ kvs,H p=some (.dK kvs))\/∃ kvs,H p=some (.dT kvs)))\/(T = "set" /\ ∃ S n,H p=some (.set S n))
 |_=>False
theorem Ut{pins:List (Addr×Obj)}{zzs:St}{H:Hp}{s:Shared}{T:String}{x:V}{v:Value}(I:Inv X pins zzs H s)(r:RelV x v)(ty:tyV X.K T x H) :
  s.TypeIs v T/\∀ a,v=.ref a->∃ ob,s.heap.get? a=some ob/\ob.dict=none:=by
 cases x with
 |str z=>
  obtain⟨t,rfl⟩:=r
  cases (show T = "str" from ty)
  exact⟨typeIs_str s z t,fun _ e=>nomatch e⟩
 |int i=>
  obtain⟨t,rfl⟩:=r
  cases (show T = "int" from ty)
  exact⟨typeIs_int s i t,fun _ e=>nomatch e⟩
 |ref p=>
  cases r
  rcases ty with⟨rfl,xs,hq⟩|⟨rfl,o,hk,hc,hd⟩|⟨rfl,hk⟩|⟨rfl,S,n,hk⟩
  ·obtain⟨its,_,pl,_⟩:=I.list hq;refine⟨pl.isList.typeIs,fun a e=>?_⟩
   cases e
   obtain⟨o,n,e,c,hd,_⟩:=pl;exact⟨o,e,hd⟩
  ·refine⟨⟨o,I.kIn p o hk,hc⟩,fun a e=>?_⟩
   cases e
   exact⟨o,I.kIn _ o hk,hd⟩
  ·have z:∃ o,s.heap.get? p=some o/\o.ExactDict:=by
    rcases hk with⟨kvs,hk⟩|⟨kvs,hk⟩
    ·obtain⟨_,_,_,_,o,_,_,e,ex,_⟩:=I.hok p _ hk;exact⟨o,e,ex⟩
    ·obtain⟨_,_,_,_,o,_,_,e,ex,_⟩:=I.hok p _ hk;exact⟨o,e,ex⟩
   obtain⟨o,e,ex⟩:=z;refine⟨⟨o,e,ex.1⟩,fun a e2=>?_⟩
   cases e2
   exact⟨o,e,ex.2.1⟩
  ·obtain⟨o,_,_,_,e,ex,_⟩:=I.hok p _ hk;refine⟨⟨o,e,ex.1⟩,fun a e2=>?_⟩
   cases e2
   exact⟨o,e,ex.2.1⟩
 |_=>exact False.elim ty
def a0B(K:ao)(T:String)(r:V->List V->Hp->VK->Prop)(to:TE):TE:=fun zzs H Q=>to zzs H fun x H1=>tyV K T x H1/\r x [] H1 Q
def tBM(K:ao)(T:String)(r:V->List V->Hp->VK->Prop)(to:TE)(t:TA):TE:=fun zzs H Q=>to zzs H fun x H1=>tyV K T x H1/\t zzs H1 fun xs H2=>r x xs H2 Q
variable{o e:Expr}{es:List Expr}{to:TE}{t:TA}{name:Str}{apos cpos:Pos}{T id:String}{r:V->List V->Hp->VK->Prop}
theorem a02(pa:PlainAttrs T)(slot:Slot T name id) (hty:typeOf (.builtin id)=pure (.type "method_descriptor")) (hm:MtR X id r) (ho:PE X o to)
  (hbase:attributeBase o name X.env (eval o X.env)=eval o X.env:=by rfl) (hline:(apos.endLine==cpos.line)=true:=by rfl):PE X (.Call (.Attribute o name apos) [] [] cpos) (a0B X.K T r to):=by
 intro pins s zzs H Q I h;refine wpAny_Call_method0_late hbase hline (thn (ho pins s zzs H _ I h) fun v s1 ⟨x,H1,I1,r1,ty,q1⟩=>?_);obtain⟨h1,h2⟩:=Ut I1 r1 ty;exact⟨T,id,pa,slot,hty,h1,h2,Calls.callWith_builtin rfl (PySem.evalArgs_none (hm pins s1 zzs H1 x [] v [] Q I1 r1 .nil q1))⟩
theorem a1t(pa:PlainAttrs T)(slot:Slot T name id) (hty:typeOf (.builtin id)=pure (.type "method_descriptor")) (hm:MtR X id r) (ho:PE X o to) (ha:PA X (e::es) t)
  (hbase:attributeBase o name X.env (eval o X.env)=eval o X.env:=by rfl)
  (hfew:((backTo cpos (starEach (e::es) X.env)).all (fun x=>!x.1)&&(backToKw cpos (keywordEach [] X.env)).all (fun x=>x.1.isSome)
   && decide ((e::es).length+([]:List Keyword).length+(if([]:List Keyword).isEmpty then 0 else 1)<30))=true:=by rfl)
  (hline:(apos.endLine==cpos.line)=true:=by rfl) (hs:starEach (e::es) X.env=(false,eval e X.env)::starEach es X.env:=by rfl) (hplain:(backTo cpos (starEach es X.env)).any (·.1)=false:=by rfl) :
  PE X (.Call (.Attribute o name apos) (e::es) [] cpos) (tBM X.K T r to t):=by
 intro pins s zzs H Q I h;refine wpAny_Call_method_late hbase hfew hline rfl (thn (ho pins s zzs H _ I h) fun v s1 ⟨x,H1,I1,r1,ty,q1⟩=>?_);obtain⟨h1,h2⟩:=Ut I1 r1 ty;refine⟨T,id,pa,slot,hty,h1,h2,?_⟩;have hA:=ha cpos pins s1 zzs H1 _ I1 q1;rw[hs] at hA ⊢;refine Calls.callWith_builtin (by show(false||(backTo cpos (starEach es X.env)).any (·.1))=false;rw[hplain]<;>rfl) (Calls.evalArgs_plain ?_);exact thn hA fun us s2 ⟨vs,H2,I2,r2,q2⟩=>hm pins s2 zzs H2 x vs v us Q I2 r1 r2 q2
end
def MtM(X:Cx)(id:String)(r:V->List V->Hp->VK->Prop):Prop:=
 ∀(pins:List (Addr×Obj))(s:Shared)(zzs:St)(H:Hp)(x:V)(xs:List V)(v:Value)(us:List Value)(Q:VK),Inv X pins zzs H s->RelV x v->Vals xs us->r x xs H Q ->
  wpAny (model X.prog X.w) X.A (call (.builtin id) (v::us)) (EP X pins zzs Q) X.xe s
theorem Vals.one:∀ {x:V} {us:List Value},Vals [x] us->∃ u,us=[u]/\RelV x u
 |_,_,.cons r .nil=>⟨_,rfl,r⟩
theorem Vals.zero:∀ {us:List Value},Vals [] us->us=[]
 |_,.nil=>rfl
theorem Vals.dropLast{xs:List V}{us:List Value}(h:Vals xs us):Vals xs.dropLast us.dropLast:=by
 induction h with
 |nil=>exact .nil
 |cons r t ih=>
  cases t with
  |nil=>exact .nil
  |cons q t'=>exact .cons r ih
theorem Vals.rep{xs:List V}{us:List Value}(h:Vals xs us):∀ k:Nat,Vals (List.replicate k xs).flatten (List.replicate k us).flatten
 |0=>.nil
 |k+1=>by
  rw[wZ,wZ,Ar,Ar];exact Vals.append h (Vals.rep h k)
theorem Jh{α:Type}(l:List α):l.eraseIdx (l.length-1)=l.dropLast:=by
 induction l with
 |nil=>rfl
 |cons a r ih=>
  cases r with
  |nil=>rfl
  |cons b r=>
   have e:(a::b::r).length-1=((b::r).length-1)+1:=by
    have h1:(a::b::r).length=r.length+2:=rfl;have h2:(b::r).length=r.length+1:=rfl;lia
   rw[e,List.eraseIdx_cons_succ,ih]
   all_goals rfl
theorem foldl_rep(its:List Value):∀(k:Nat)(acc:List Value),
  List.foldl (fun x1 x2=>x1++x2) acc.toArray (List.replicate k its.toArray)=(acc++(List.replicate k its).flatten).toArray
 |0,acc=>by simp
 |k+1,acc=>by
  have e:acc.toArray++its.toArray=(acc++its).toArray:=by simp
  have e2:(acc++its)++(List.replicate k its).flatten=acc++(List.replicate (k+1) its).flatten:=by
   rw[wZ,Ar,xq]
  rw[<- e2,<- foldl_rep its k (acc++its),<- e,wZ,xH]
section
variable{X:Cx}{pins:List (Addr×Obj)}{zzs:St}{H:Hp}{s:Shared}{l b:Addr}{xs ys zs:List V}
theorem Inv.Zo{its its':List Value}{n:Nat}{f:Array Value->Array Value}{t':Nat}(I:Inv X pins zzs H s)(hH:H l=some (.lst xs))
  (e:s.heap.get? l=some { cls:=.type "list",data:=.seq its.toArray n }) (hf:f its.toArray=its'.toArray) (hv:Vals ys its') (hz:ys.length<=sizeLine) :
  Inv X pins zzs (upd H l (.lst ys)) { s with heap:=s.heap.update l (Obj.mapSeq f),toks:=t' }:=by
 have q:=PySem.IsL.update e f;rw[hf] at q;refine I.write (x:=l) (e:=l) (by rw[hH];exact trivial) (.inl rfl) (fun b' u hb hu=>(Heap.get?_update_other s.heap (Obj.mapSeq f) (jy hb)).trans hu) ⟨_,q⟩ ?_;exact⟨hz,its',_,hv,q⟩
theorem Inv.a1o{its:List Value}{t':Nat}(I:Inv X pins zzs H s)(hv:Vals ys its)(hz:ys.length<=sizeLine) :
  Inv X pins zzs (upd H s.heap.objs.size (.lst ys)) { s with heap:=s.heap.push { cls:=.type "list",data:=.seq its.toArray },toks:=t' }:=
 I.laid (fun _ _ q=>dG _ q) (bR _) ⟨hz,its,0,hv,jc _ rfl⟩
theorem Inv.fresh(I:Inv X pins zzs H s):H s.heap.objs.size=none:=I.hok.fresh (bR _)
theorem Inv.Ph(I:Inv X pins zzs H s)(hH:H l=some (.lst xs)):xs.length<=sizeLine/\∃(its:List Value)(n:Nat),Vals xs its/\xs.length=its.length/\s.heap.get? l=some { cls:=.type "list",data:=.seq its.toArray n }:=by
 obtain⟨z,its,n,r,e⟩:=I.hok l _ hH;exact⟨z,its,n,r,r.length,e⟩
theorem Hf{n:Nat}(h:n<=sizeLine):Builtin.List.listTooLong n=false:=by
 unfold Builtin.List.listTooLong;exact bZ (by lia)
end
section
variable{X:Cx}
def MN:V->List V->Hp->VK->Prop:=fun x vs H Q=>∃ l xs y,x=.ref l/\vs=[y]/\H l=some (.lst xs)/\xs.length<sizeLine/\Q .non (upd H l (.lst (xs++[y])))
theorem eE:MtM X "list.append" MN:=by
 intro pins s zzs H x vs v us Q I rx rv h;obtain⟨l,xs,y,rfl,rfl,hH,hz,q⟩:=h
 cases rx
 obtain⟨u,rfl,ru⟩:=rv.one;obtain⟨z,its,n,r,hl,e⟩:=I.Ph hH;refine qg F.slot_list_append ⟨_,e,rfl⟩ F.entry_list_append (F.args_list_append_2 _ _) (PySem.list_append l its.toArray n u (by rw[cD];lia)) ⟨e,?_⟩;refine⟨.non,_,I.Zo (its':=its++[u]) hH e (by simp) (r.append (.cons ru .nil)) ?_,rfl,q⟩;rw[dB,qm];lia
def a2F:V->List V->Hp->VK->Prop:=fun x vs H Q=>∃ l xs y,x=.ref l/\vs=[]/\H l=some (.lst xs)/\xs[xs.length-1]?=some y/\Q y (upd H l (.lst xs.dropLast))
theorem Zy:MtM X "list.pop" a2F:=by
 intro pins s zzs H x vs v us Q I rx rv h;obtain⟨l,xs,y,rfl,rfl,hH,hy,q⟩:=h
 cases rx
 have hus:=rv.zero;subst hus;obtain⟨z,its,n,r,hl,e⟩:=I.Ph hH;obtain⟨u,hu,ru⟩:=r.get hy;have hy':its.toArray[its.toArray.size-1]?=some u:=by
  show its.toArray[its.length-1]?=some u;rw[<- Cw,<- hl];exact hu
 refine qg F.slot_list_pop ⟨_,e,rfl⟩ F.entry_list_pop (F.args_list_pop_1 _) (MeetsSeq.list_pop_last l its.toArray n u hy' (by rw[cD];lia)) ⟨e,?_⟩;refine⟨y,_,I.Zo (its':=its.dropLast) hH e ?_ r.dropLast ?_,ru,q⟩
 ·show its.toArray.eraseIdxIfInBounds (its.toArray.size-1)=its.dropLast.toArray;rw[cD,List.eraseIdxIfInBounds_toArray,Jh]
 ·rw[List.length_dropLast];lia
def a2E:R2:=fun x y H Q=>∃ l b xs zs,x=.ref l/\y=.ref b/\H l=some (.lst xs)/\H b=some (.lst zs)/\xs.length+zs.length<=sizeLine/\∀ p,H p=none->Q (.ref p) (upd H p (.lst (xs++zs)))
theorem ZP:OpR X (binaryOp .Add) a2E:=by
 intro pins s zzs H x y v u Q I rx ry h;obtain⟨l,b,xs,zs,rfl,rfl,hH,hB,hz,q⟩:=h
 cases rx
 cases ry
 obtain⟨z,its,n,r,hl,e⟩:=I.Ph hH;obtain⟨z2,its2,n2,r2,hl2,e2⟩:=I.Ph hB;refine PySem.P.add_list e e2 ?_ (by rw[cD,cD];lia);have ea:its.toArray++its2.toArray=(its++its2).toArray:=by simp
 rw[ea];exact⟨.ref _,_,I.a1o (t':=s.toks) (r.append r2) (by rw[dB];omega),rfl,q _ I.fresh⟩
def a2G:R2:=fun x y H Q=>∃ l k xs,x=.ref l/\y=.int k/\H l=some (.lst xs) /\ -(2^63)<=k/\k<2^63/\xs.length*k.toNat<=sizeLine /\
 ∀ p,H p=none->Q (.ref p) (upd H p (.lst (List.replicate k.toNat xs).flatten))
theorem len_rep{α:Type}(xs:List α)(k:Nat):(List.replicate k xs).flatten.length=k*xs.length:=by
 induction k with
 |zero=>simp
 |succ k ih=>rw[wZ,Ar,dB,ih,Nat.succ_mul,Nat.add_comm]
theorem ZX:OpR X (binaryOp .Mult) a2G:=by
 intro pins s zzs H x y v u Q I rx ry h;obtain⟨l,k,xs,rfl,rfl,hH,h1,h2,hz,q⟩:=h
 cases rx
 obtain⟨t,rfl⟩:=ry;obtain⟨z,its,n,r,hl,e⟩:=I.Ph hH;have hlen:its.toArray.size*k.toNat<=sizeLine:=by rw[cD,<- hl];exact hz
 have hcap:¬its.toArray.size*k.toNat>(2^63-1) / 8:=by
  have:(sizeLine:Nat)<=(2^63-1) / 8:=by decide
  lia
 have hfit:¬(!Builtin.List.listFitsIndex k)=true:=by
  rw[fitsIndex_both h1 h2];exact fM
 have Rq:¬Builtin.List.listTooLong (its.toArray.size*k.toNat)=true:=by
  rw[Hf hlen];exact fM
 have hnew:List.foldl (fun x1 x2=>x1++x2) #[] (List.replicate (if its.toArray.isEmpty=true then 0 else k.toNat) its.toArray)=(List.replicate k.toNat its).flatten.toArray:=by
  have f0:∀ m:Nat,List.foldl (fun x1 x2=>x1++x2) #[] (List.replicate m its.toArray)=(List.replicate m its).flatten.toArray:=fun m=>by
   have:=foldl_rep its m [];rw[List.nil_append] at this;exact this
  rw[f0]
  cases its with
  |nil=>simp
  |cons a r'=>rw[aG (by simp)]
 refine wpAny_binaryOp_repeat_ref (T:="list") (U:="int") (by decide) ⟨_,e,rfl⟩ (fun s'=>typeIs_int s' k t) noFill_list_mul F.fills_int_mul F.slot_int_rmul repeat_list F.slot_int_index.lookup
  (qg F.slot_int_rmul (typeIs_int s k t) F.entry_int_rmul (F.args_int_rmul_2 _ _) (int___rmul___int_list k t l its.toArray n)
   ⟨e,rfl,⟨_,e,rfl⟩,qg F.slot_list_mul ⟨_,e,rfl⟩ F.entry_list_mul (F.args_list_mul_2 _ _) (AutoListH.list___mul___list_int_3 l its.toArray n k t hfit hcap Rq) ⟨e,?_⟩⟩)
 rw[hnew];exact⟨.ref _,_,I.a1o (t':=s.toks) (r.rep k.toNat) (by rw[len_rep,Nat.mul_comm];exact hz),rfl,q _ I.fresh⟩
end
end L2
namespace Att
open PySem PySem.W PySem.Calls PyProof.Rows
theorem xO{P:Params}{h:Heap}:∀(ns:List Int)(vs:List Value),WellAll P h vs (ns.map WData.int)->IntsAre vs ns:=by
 intro ns
 induction ns with
 |nil=>
  intro vs w;rw[Fx] at w
  cases w
  exact .nil
 |cons n ns ih=>
  intro vs w;rw[cZ] at w
  cases w with
  |cons a b=>
   cases a
   exact .cons _ _ (ih _ b)
theorem Qi{l:OpenLaw}{n:Nat}(hn:l.most=some n){P:Params}{h:Heap}{args:List WData}{vals:List Value}
  (hpre:l.row.toRowW.claim.pre args=true) (hwl:WellAll P h vals args) :
  ∃ a vs ns,vals=[Value.ref a]/\args=[WData.list (ns.map WData.int)]/\h.get? a=some { cls:=.type "list",data:=.seq vs.toArray }/\IntsAre vs ns/\ns.length<=n:=by
 have hsh:WShape.hasAll [] args [.list .int]=true:=(pre_splitW hpre).1;have hc:l.pre.holds [] { args:=args }=true:=(pre_splitW hpre).2;obtain⟨d,r,rfl,h1,h2⟩:=hasAllW_cons hsh;obtain rfl:=hasAllW_nil h2;obtain⟨xs,rfl,h3⟩:=hasW_list h1;obtain⟨ns,rfl⟩:=items_int h3;have hlen:ns.length<=n:=by
  unfold OpenLaw.pre at hc;have h4:(WTm.not (.lt (.lit (.int (n:Int))) (.len (.arg 0)))).holds [] { args:=[.list (ns.map .int)] }=true:=by
   have h4:=(holds_andW hc).1;rw[hn] at h4;exact h4
  have h5:=condW_of h4 (w_not (w_lt w_lit (w_len_list (w_arg rfl))));rw[aU] at h5;refine Nat.le_of_not_lt fun q=>?_
  have q':(n:Int)<((ns.length:Nat):Int):=by omega
  first
   |(rw[bN q'] at h5;exact absurd h5 (by decide))
   |(simp at h5;omega)
 cases hwl with
 |cons w1 w2=>
  cases w2
  cases w1 with
  |list ho hall=>exact⟨_,_,ns,rfl,rfl,ho,xO ns _ hall,hlen⟩
theorem Qc(l:OpenLaw)(args:List WData):l.row.toRowW.claim.post args (.bool true) args=true:=
 postW_of (r:=l.row.toRowW) (X:=(true==true))
  (show WShape.has [] (.bool true) .bool=true by first|rfl|decide|simp[WShape.has,WShape.arms,WShape.armsAll])
  (show(WTm.eq .res (.lit (.bool true))).value [] { args:=args,res:=some (.bool true),after:=args }=some (.bool (true==true)) from w_eq_bool (w_res rfl) w_lit) rfl
theorem Gf{l:OpenLaw}{n:Nat}{q:Program}{loose:List Str}{XP:(Str->Option Value)->Heap->Prop}{YP:World->Heap->Prop}{d:DefRec}
  (hn:l.most=some n) (hdf:d.params.defaults=[])
  (call:∀(w:World)(s₀ s₁:Shared)(mg mb:Str->Option Value)(fa:Addr)(o:Obj)(pm cd doc:Value)(a:Addr)(vs:List Value)(ns:List Int),
   Ground q loose [] XP w s₀ mg mb s₁.heap->YP w s₁.heap ->
   s₁.heap.get? fa=some o->o.data=.func (docDef d.name d.params d.body d.scope pm cd doc)->s₁.heap.CodeRec cd d.name->mg d.name=some (.ref fa) ->
   s₁.heap.get? a=some { cls:=.type "list",data:=.seq vs.toArray }->IntsAre vs ns->ns.length<=n->s₁.gens=#[] ->
   codeAny (model l.prog w) callerA (.call (.ref fa) ⟨[.ref a],[]⟩) (fun r s'=>r=.ok (.ret (.bool true))/\OldK s₁.heap s'.heap/\s'.os=s₁.os/\AllBare s'.gens) s₁) :
  WalkO q loose XP YP l.row.toRowW d [] (fun f vs=>PySem.call f vs):=by
 intro w s₀ s₁ mg mb G Y fa o pm cd doc dV kV ho hd hcd hD hmg hg args vals as hpre hlay hrd hwl hlo;obtain rfl:dV=.none:=Dflts.none hD hdf;obtain rfl:kV=.none:=Dflts.noKw hD;obtain⟨a,vs,ns,rfl,rfl,hobj,hints,hlen⟩:=Qi hn hpre hwl;refine enter_call (wD (call w s₀ s₁ mg mb fa o pm cd doc a vs ns G Y ho (fd_plain hd) hcd hmg hobj hints hlen hg) fun r s' hq=>?_);obtain⟨rfl,h2,h3,h4⟩:=hq;exact⟨.inl ⟨.bool true,.bool true,[],rfl,fun _=>rfl,.bool true,Qc l _,fun _=>⟨List.Pairwise.nil,fun _ hm=>(nomatch hm)⟩⟩,h2,h3,h4⟩
end Att
namespace L2
open PySem PySem.Spec PyProof.Rows
theorem Cr:∀ {vs:List Value} {ns:List Int},IntsAre vs ns->Vals (ns.map V.int) vs
 |_,_,.nil=>.nil
 |_,_,.cons n t h=>.cons ⟨t,rfl⟩ (Cr h)
def Only(H:Hp):Prop:=∀ b,H b=none\/∃ o xs,H b=some (.frz o (.lst xs))
theorem RD{P:Program}{w:World}{K:ao}{mg mb:Str->Option Value}{CX:CXT}{k:Nat}{fa a:Addr}{fd:FuncData}{x:Str}{sp:Sp}{s₁:Shared}{vs:List Value}{ns:List Int}
  (KX:K.In s₁.heap) (hns:s₁.heap.Ns mainGlobals mg) (hb:s₁.heap.Ns builtinsNs mb) (hbb:∀ x:Str,x ≠ "__name__" -> mb x=bootBuiltins x) (hlim:s₁.heap.NoLimit) (hg:s₁.gens=#[])
  (ha:s₁.heap.get? a=some { cls:=.type "list",data:=.seq vs.toArray }) (hi:IntsAre vs ns) (hl:ns.length<=sizeLine) (hr:fY k callerA)
  (F:∀ base:Heap,K.In base->base.Ns mainGlobals mg->cg P w K mg base CX k fa fd [x] sp) (hbind:∀(s:Shared)(u:Value),BindsTo s fd ⟨[u],[]⟩ [(x,u)])
  (hsp:∀ H:Hp,Only H->SqL K H a (ns.map V.int)->sp [.ref a] H (fun v _=>v=.bl true) fun _ _ _=>False)
  (hCX:∀ H e s',CX [] H s₁ (fun _ _ _=>False) e s'->False) :
  codeAny (model P w) callerA (.call (.ref fa) ⟨[.ref a],[]⟩) (fun r s'=>r=.ok (.ret (.bool true))/\OldK s₁.heap s'.heap/\s'.os=s₁.os/\AllBare s'.gens) s₁:=by
 have rv:=Cr hi;have lenV:=hi.length;have core:∀ H:Hp,Only H->SqL K H a (ns.map V.int)->HOk P w H s₁.heap->(∀ b,H b≠none->b=a)->(H a≠none->K.lookup a=none) ->
   codeAny (model P w) callerA (.call (.ref fa) ⟨[.ref a],[]⟩) (fun r s'=>r=.ok (.ret (.bool true))/\OldK s₁.heap s'.heap/\s'.os=s₁.os/\AllBare s'.gens) s₁:=by
  intro H hO hS hok hA hK;have Lx:∀ {b:Addr} {o:Obj},s₁.heap.get? b=some o->H b=none->(Dv s₁.heap H).get? b=some o:=fun e n=>Rp e n
  have noA:∀ {b:Addr} {o:Obj} {es:Array DictEntry} {ep:Nat},s₁.heap.get? b=some o->o.data=.dict es ep->H b=none:=fun {b o es ep} e d=>by
   cases q:H b with
   |none=>rfl
   |some u=>
    have e':b=a:=hA b (by rw[q];simp);subst e';rw[ha] at e;cases e;have d':Data.seq vs.toArray _=Data.dict es ep:=d
    cases d'
  have nsK:∀ {b:Addr} {m:Str->Option Value},s₁.heap.Ns b m->(Dv s₁.heap H).Ns b m:=fun {b m} ⟨o,es,ep,e,d,r⟩=>⟨o,es,ep,Lx e (noA e d),d,r⟩
  have hKb:K.In (Dv s₁.heap H):=fun b o e=>Lx (KX b o e) (by
   cases q:H b with
   |none=>rfl
   |some u=>
    have e':b=a:=hA b (by rw[q];simp);subst e';rw[hK (by rw[q];simp)] at e;cases e)
  have hM:Mod K mg (Dv s₁.heap H):=⟨hKb,nsK hns,⟨mb,nsK hb,hbb⟩,let ⟨mc,h1,h2⟩:=hlim;⟨mc,nsK h1,h2⟩⟩
  have e0:Im P w K mg (Dv s₁.heap H) callerA [] s₁ H:=⟨rfl,hM,fun b o e=>Wm e,Nat.le_of_eq (Ow _ _),trivial,fun b hb=>absurd (show b∈([]:List Addr) from hb) (by simp),hok,.of_eq hg⟩
  refine wD ((F _ hKb (nsK hns)).run callerA [] s₁ H ⟨[.ref a],[]⟩ [.ref a] [.ref a] _ _ hr e0 (hbind s₁ (.ref a)) (.cons rfl .nil) (hsp H hO hS)) fun r s' h=>?_
  cases r with
  |error e=>exact(hCX H e s' h).elim
  |ok fl=>
   cases fl with
   |next=>exact False.elim h
   |brk=>exact False.elim h
   |cont=>exact False.elim h
   |ret u=>
    obtain⟨v,H',os,bare,un,hok',r',q⟩:=h;have q':v=.bl true:=q;subst q';obtain rfl:u=Value.bool true:=r';refine⟨rfl,OldK.of_keep fun b o e=>?_,os,bare⟩
    cases q:H b with
    |none=>exact un.keep b o e q (by intro z;exact absurd (show b∈([]:List Addr) from z) (by simp)) (by simp)
    |some u=>
     rcases hO b with z|⟨ob,xs,z⟩
     ·rw[q] at z;cases z
     ·have z2:=un.pG b ob _ z;obtain⟨e1,_⟩:=hok b _ z;obtain⟨e2,_⟩:=hok' b _ z2;rw[e] at e1;cases e1;exact e2
 cases hk:K.lookup a with
 |some o=>
  have e:=KX a o hk;rw[ha] at e
  cases e
  refine core (fun _=>none) (fun _=>.inl rfl) (.inr ⟨_,vs.toArray,_,hk,rfl,rfl,rfl,by rw[cD,lenV];exact hl,by simpa using rv⟩) (fun b u z=>by have z':(none:Option HO)=some u:=z;cases z') (fun b z=>absurd rfl z) fun z=>absurd rfl z
 |none=>
  refine core (fun b=>if b=a then some (.frz { cls:=.type "list",data:=.seq vs.toArray } (.lst (ns.map V.int))) else none) (fun b=>?_) (.inl (.inr ⟨{ cls:=.type "list",data:=.seq vs.toArray },aK rfl⟩)) (fun b u z=>?_) (fun b z=>?_) fun _=>hk
  ·by_cases hb:b=a
   ·exact .inr ⟨_,_,aK hb⟩
   ·exact .inl (aG hb)
  ·by_cases hb:b=a
   ·have z':=(aK hb).symm.trans z
    cases z'
    subst hb;exact⟨ha,by rw[aU];exact hl,vs,_,rv,ha⟩
   ·have z':=(aG hb).symm.trans z
    cases z'
  ·by_cases hb:b=a
   ·exact hb
   ·exact absurd (aG hb) z
theorem XF{l:PySem.W.OpenLaw}{n k:Nat}{q:Program}{loose:List Str}{XP:(Str->Option Value)->Heap->Prop}{YP:World->Heap->Prop}{d:DefRec}{K:Params->ao}{CX:World->CXT}{sp:World->Sp}{x:Str}
  (hn:l.most=some n) (hn2:n<=sizeLine) (hdf:d.params.defaults=[]) (hr:fY k callerA)
  (hY:∀(w:World)(h:Heap),YP w h->(K w.params).In h)
  (F:∀(w:World)(mg:Str->Option Value)(fa:Addr)(h:Heap),(K w.params).In h->h.Ns mainGlobals mg->mg d.name=some (.ref fa) ->
   ∃ fd:FuncData,(∀(s:Shared)(u:Value),BindsTo s fd ⟨[u],[]⟩ [(x,u)]) /\
    ∀ base:Heap,(K w.params).In base->base.Ns mainGlobals mg->cg l.prog w (K w.params) mg base (CX w) k fa fd [x] (sp w))
  (hsp:∀(w:World)(H:Hp)(a:Addr)(ns:List Int),ns.length<=n->Only H->SqL (K w.params) H a (ns.map V.int)->sp w [.ref a] H (fun v _=>v=.bl true) fun _ _ _=>False)
  (hCX:∀(w:World)(H:Hp)(s:Shared)(e:Value)(s':Shared),CX w [] H s (fun _ _ _=>False) e s'->False) :
  PySem.W.WalkO q loose XP YP l.row.toRowW d [] (fun f vs=>PySem.call f vs):=by
 refine Att.Gf hn hdf fun w s₀ s₁ mg mb fa o pm cd doc a vs ns G Y ho hd hcd hmg hobj hints hlen hg=>?_
 have KX:=hY w _ Y;obtain⟨fd,hb,hF⟩:=F w mg fa _ KX G.T.g hmg;exact RD KX G.T.g G.T.b G.T.builtins G.T.nolimit hg hobj hints (cP hlen hn2) hr hF hb (fun H hO hS=>hsp w H a ns hlen hO hS) fun H e s'=>hCX w H s₁ e s'
def inClass(s:Stmt)(j:Nat):Stmt:=match s with
 |.ClassDef _ _ _ body _ _ _ _ _ _ _=>body.getD j (.Pass ⟨0,0,0,0⟩)
 |_=>.Pass ⟨0,0,0,0⟩
def iu(s:Stmt):Arguments:=match s with
 |.FunctionDef _ a _ _ _ _ _ _ _ _=>a
 |_=>{ posonlyargs:=[],args:=[],vararg:=none,kwonlyargs:=[],kw_defaults:=[],kwarg:=none,defaults:=[] }
def fG(s:Stmt):List Stmt:=match s with
 |.FunctionDef _ _ b _ _ _ _ _ _ _=>b
 |_=>[]
def aJ(s:Stmt):Scope:=match s with
 |.FunctionDef _ _ _ _ _ _ sc _ _ _=>sc
 |_=>{ kind:=.function,names:=[],isGenerator:=false,isCoroutine:=false }
abbrev E0:XK:=fun _ _ _=>False
structure Fun(K:ao)(x qual:Str)(st:Stmt)(f:Addr)(fd:FuncData):Prop where
 ex:∃(oc:Value)(od:Option Addr)(kV doc pm:Value)(an:Option Addr)(cdv ct:Value)(osl:Array (Option Value)),
  fd=PySem.W.fnOf x qual (iu st) (fG st) (aJ st) .none kV doc pm an cdv ct/\K.lookup f=some ⟨oc,od,.func fd,osl⟩/\PySem.W.codeIn K cdv qual=true
 kp:PySem.W.keepIn K (.ref f)=true
section
variable{P:Program}{w:World}{K:ao}{mg:Str->Option Value}{base:Heap}
theorem Fun.binds{x qual:Str}{st:Stmt}{f:Addr}{fd:FuncData}{ps:List Str}(F:Fun K x qual st f fd)
  (h:∀(kV doc pm:Value)(an:Option Addr)(cdv ct:Value)(us:List Value),us.length=ps.length->bindArgs (PySem.W.fnOf x qual (iu st) (fG st) (aJ st) .none kV doc pm an cdv ct) ⟨us,[]⟩=pure (ps.zip us)):Binds K fd ps []:=by
 obtain⟨oc,od,kV,doc,pm,an,cdv,ct,osl,rfl,lk,hcd⟩:=F.ex;exact .all (h kV doc pm an cdv ct)
theorem Rn{x qual:Str}{st:Stmt}{f:Addr}{oc:Value}{od an:Option Addr}{osl:Array (Option Value)}{kV doc pm cdv ct:Value}(l:K.lookup f=some ⟨oc,od,.func (PySem.W.fnOf x qual (iu st) (fG st) (aJ st) .none kV doc pm an cdv ct),osl⟩)
  (c:PySem.W.codeIn K cdv qual=true) (k:PySem.W.keepIn K (.ref f)=true):Fun K x qual st f (PySem.W.fnOf x qual (iu st) (fG st) (aJ st) .none kV doc pm an cdv ct):=⟨⟨oc,od,kV,doc,pm,an,cdv,ct,osl,rfl,l,c⟩,k⟩
end
theorem tV{A B:Prop}(h:B):if false=true then A else B:=by
 rw[aG fM];exact h
theorem yR{A B:Prop}(h:A):if true=true then A else B:=by
 rw[aK rfl];exact h
theorem DK{c A B:Prop} [Decidable c] (h1:c->A) (h2:¬c->B):if c then A else B:=by
 by_cases h:c
 ·rw[aK h];exact h1 h
 ·rw[aG h];exact h2 h
def Same(H H':Hp):Prop:=∀ b o,H b=some o->H' b=some o
theorem Same.refl(H:Hp):Same H H:=fun _ _ h=>h
theorem Same.trans{H H1 H2:Hp}(a:Same H H1)(b:Same H1 H2):Same H H2:=fun c o h=>b c o (a c o h)
theorem Same.free{H H':Hp}(e:Same H H'){l:Addr}(h:H' l=Option.none):H l=Option.none:=by
 cases q:H l with
 |none=>rfl
 |some o=>
  rw[e l o q] at h
  cases h
theorem Same.seq{K:ao}{H H':Hp}{a:Addr}{xs:List V}(e:Same H H')(h:SqL K H a xs):SqL K H' a xs:=by
 rcases h with(h|⟨o,h⟩)|h
 ·exact .inl (.inl (e _ _ h))
 ·exact .inl (.inr ⟨o,e _ _ h⟩)
 ·exact .inr h
end L2
namespace L2
open PySem PySem.Spec PyProof.Rows
theorem Vals.a0V{x:V}{u:Value}(r:RelV x u):Vals [x] [u]:=.cons r .nil
theorem Inv.track{X:Cx}{pins:List (Addr×Obj)}{zzs:St}{H:Hp}{s:Shared}{D:Addr}{o:HO}(I:Inv X pins zzs H s)(hn:H D=none)(h0:X.s₀.heap.objs.size<=D)(hL:D≠X.env.locals)
  (hc:∀ x c,X.env.cells.lookup x=some c->c≠D) (hp:∀ p∈X.pn++pins,p.1≠D) (new:gq X.prog X.w (upd H D o) s.heap D o):Inv X pins zzs (upd H D o) s:=by
 have ne:∀ b u,H b=some u->b≠D:=fun b u e=>bG e hn
 refine⟨I.ok,I.os,I.bare,⟨I.base.keep,I.base.slot,fun b u e n hx=>?_,I.base.there,fun b xs e=>?_,fun b u xs e=>?_,fun b ps e=>?_⟩,I.loc,I.cell,?_,fun x c e=>?_,fun p q=>?_,fun b u e=>?_,I.len⟩
 ·rw[bA (fQ (jd (bL e) h0))];exact I.base.free b u e n hx
 ·have e':=I.base.tups b xs e;rw[bA (ne b _ e')];exact e'
 ·have e':=I.base.pG b u xs e;rw[bA (ne b _ e')];exact e'
 ·obtain⟨more,e'⟩:=I.base.qU b ps e;exact⟨more,by rw[bA (ne b _ e')];exact e'⟩
 ·rw[bA (jy hL)];exact I.free
 ·rw[bA (hc x c e)];exact I.mL x c e
 ·obtain⟨a1,a2,a3,a4,a5⟩:=I.pin p q;exact⟨a1,by rw[bA (hp p q)];exact a2,a3,a4,a5⟩
 ·by_cases hb:b=D
  ·subst hb;rw[aD] at e;cases e;exact new
  ·rw[bA hb] at e;exact(I.hok b u e).stay (fun c v _ q=>q) (fun c q=>by rw[bA (ne c _ q)];exact q) fun c xs q=>by rw[bA (ne c _ q)];exact q
def d9:List (Str×NameKind)->List (Str×Addr)->List (Str×Addr)->List (Str×Addr)
 |[],_,acc=>acc
 |(n,k)::r,cells,acc=>if k==.free then d9 r cells ((n,(cells.lookup n).getD 0)::acc) else d9 r cells acc
theorem J2{env:Env}:∀(names:List (Str×NameKind))(acc:List (Str×Addr)),(∀ y∈names,y.2=.free->∃ c,env.cells.lookup y.1=some c) ->
  (forIn names acc fun x cs=>(if x.2==NameKind.free then do let a <- cellOf env x.1;pure (ForInStep.yield ((x.1,a)::cs)) else pure (ForInStep.yield cs):Sem (ForInStep (List (Str×Addr)))))=pure (d9 names env.cells acc):=by
 intro names
 induction names with
 |nil=>intro acc _;rfl
 |cons p r ih=>
  intro acc h;obtain⟨n,k⟩:=p;rw[List.forIn_cons];have hr:∀ y∈r,y.2=.free->∃ c,env.cells.lookup y.1=some c:=fun y hy=>h y (dw _ hy)
  by_cases hk:k=.free
  ·subst hk;obtain⟨c,hc⟩:=h (n,.free) cG rfl;have hc':env.cells.lookup n=some c:=hc;have e1:cellOf env n=pure c:=by unfold cellOf;rw[hc']
   have e2:d9 ((n,NameKind.free)::r) env.cells acc=d9 r env.cells ((n,c)::acc):=by
    show(if(NameKind.free==NameKind.free)=true then _ else _)=_;rw[aK (by decide),hc'];rfl
   rw[e2,<- ih ((n,c)::acc) hr];simp only[KN,wG,e1,pure_bind]
  ·have hb:(k==NameKind.free)=false:=by simpa using hk
   have e2:d9 ((n,k)::r) env.cells acc=d9 r env.cells acc:=by
    show(if(k==NameKind.free)=true then _ else _)=_;rw[hb];rfl
   rw[e2,<- ih acc hr];simp only[hb,vZ,qj,pure_bind]
theorem yE{env:Env}{scope:Scope}(h:∀ y∈scope.names,y.2=.free->∃ c,env.cells.lookup y.1=some c):closureFor scope env=pure (d9 scope.names env.cells []):=by
 rw[<- J2 scope.names [] h];unfold closureFor;simp only[bind_pure]
theorem nO:∀(names:List (Str×NameKind)){cells acc:List (Str×Addr)}{x:Str}{c:Addr},(∀ y∈names,y.2=.free->∃ c,cells.lookup y.1=some c)->(∀ y d,acc.lookup y=some d->cells.lookup y=some d) ->
  (d9 names cells acc).lookup x=some c->cells.lookup x=some c:=by
 intro names
 induction names with
 |nil=>intro cells acc x c _ h e;exact h x c e
 |cons p r ih=>
  intro cells acc x c h ha e;obtain⟨n,k⟩:=p;have hr:∀ y∈r,y.2=.free->∃ c,cells.lookup y.1=some c:=fun y hy=>h y (dw _ hy)
  by_cases hk:k=.free
  ·subst hk;obtain⟨d,hd⟩:=h (n,.free) cG rfl;have hd':cells.lookup n=some d:=hd;have e2:d9 ((n,NameKind.free)::r) cells acc=d9 r cells ((n,d)::acc):=by
    show(if(NameKind.free==NameKind.free)=true then _ else _)=_;rw[aK (by decide),hd'];rfl
   rw[e2] at e;refine ih hr (fun y q z=>?_) e;rw[xu] at z;split at z
   ·rename_i hy
    have hy':y=n:=by simpa using hy
    subst hy'
    cases z;exact hd'
   ·exact ha y q z
  ·have hb:(k==NameKind.free)=false:=by simpa using hk
   have e2:d9 ((n,k)::r) cells acc=d9 r cells acc:=by
    show(if(k==NameKind.free)=true then _ else _)=_;rw[hb];rfl
   rw[e2] at e;exact ih hr ha e
theorem Bw:∀(names:List (Str×NameKind)){cells acc:List (Str×Addr)}{x:Str},((x,NameKind.free)∈names\/∃ d,acc.lookup x=some d)->∃ c,(d9 names cells acc).lookup x=some c:=by
 intro names
 induction names with
 |nil=>
  intro cells acc x h;rcases h with h|h
  ·exact absurd h (by simp)
  ·exact h
 |cons p r ih=>
  intro cells acc x h;obtain⟨n,k⟩:=p;by_cases hk:k=.free
  ·subst hk;have e2:d9 ((n,NameKind.free)::r) cells acc=d9 r cells ((n,(cells.lookup n).getD 0)::acc):=by
    show(if(NameKind.free==NameKind.free)=true then _ else _)=_;rw[aK (by decide)]
   rw[e2];refine ih ?_;by_cases hx:x=n
   ·exact .inr ⟨(cells.lookup n).getD 0,by subst hx;simp[xu]⟩
   ·rcases h with h|⟨d,h⟩
    ·rcases cL.mp h with q|q
     ·exact absurd (congrArg Prod.fst q) hx
     ·exact .inl q
    ·refine .inr ⟨d,?_⟩;rw[xu];have:(x==n)=false:=by simpa using hx
     rw[this];exact h
  ·have hb:(k==NameKind.free)=false:=by simpa using hk
   have e2:d9 ((n,k)::r) cells acc=d9 r cells acc:=by
    show(if(k==NameKind.free)=true then _ else _)=_;rw[hb];rfl
   rw[e2];refine ih ?_;rcases h with h|h
   ·rcases cL.mp h with q|q
    ·exact absurd (congrArg Prod.snd q).symm hk
    ·exact .inl q
   ·exact .inr h
theorem pN{env:Env}:∀(names:List (Str×NameKind))(x:Str),
  (names.map fun(n,k)=>if(k==NameKind.free&&env.scope.kind==.function&&env.kindOf n==some .cell) then(n,NameKind.cell) else(n,k)).lookup x =
   (names.lookup x).map fun k=>if(k==NameKind.free&&env.scope.kind==.function&&env.kindOf x==some .cell) then NameKind.cell else k
 |[],_=>rfl
 |(n,k)::r,x=>by
  have ih:=@pN env r x;show List.lookup x ((if(k==NameKind.free&&env.scope.kind==.function&&env.kindOf n==some .cell)=true then(n,NameKind.cell) else(n,k))::_)=_;by_cases hx:x=n
  ·subst hx;by_cases hc:(k==NameKind.free&&env.scope.kind==.function&&env.kindOf x==some .cell)=true
   ·rw[aK hc];simp only[xu,KN,sI];rw[aK hc]
   ·rw[aG hc];simp only[xu,KN,sI];rw[aG hc]
  ·have hb:(x==n)=false:=by simpa using hx
   by_cases hc:(k==NameKind.free&&env.scope.kind==.function&&env.kindOf n==some .cell)=true
   ·rw[aK hc];simp only[xu,hb];exact ih
   ·rw[aG hc];simp only[xu,hb];exact ih
def uX(scope outer:Scope)(N:List Str)(x:Str):Bool:=
 (scope.kind==.function)&&scope.names.all (fun y=>!(y.2==.cell))&&scope.names.all (fun y=>!(y.2==.local)||(y.1==x||y.1 == ".0")) &&
  scope.names.all (fun y=>!(y.2==.local)||scope.names.lookup y.1==some .local)&&(scope.names.lookup x==some .local) &&
  scope.names.all (fun y=>!(y.2==.free)||(outer.names.lookup y.1==some .cell||outer.names.lookup y.1==some .free)) &&
  !(N.contains ".0")&&(scope.names.lookup (x ++ "'")==none)&&decide (x::N.map fun y=>if y=x then x ++ "'" else y).Nodup
def Bx(N:List Str)(x:Str):List Str:=x::N.map fun y=>if y=x then x ++ "'" else y
structure Cy(scope outer:Scope)(N:List Str)(x:Str):Prop where
 kind:scope.kind=.function
 RW:∀ y∈scope.names,y.2≠.cell
 loc:∀ y∈scope.names,y.2=.local->y.1=x\/y.1 = ".0"
 names:∀ y∈scope.names,y.2=.local->scope.names.lookup y.1=some .local
 own:scope.names.lookup x=some .local
 free:∀ y∈scope.names,y.2=.free->outer.names.lookup y.1=some .cell\/outer.names.lookup y.1=some .free
 dot:(".0" : Str)∉N
 prime:scope.names.lookup (x ++ "'")=none
 nd:(Bx N x).Nodup
theorem yF{scope outer:Scope}{N:List Str}{x:Str}(h:uX scope outer N x=true):Cy scope outer N x:=by
 unfold uX at h;simp only[oR,uI,Bool.or_eq_true,qp,j8,oN,decide_eq_true_eq] at h;obtain⟨⟨⟨⟨⟨⟨⟨⟨h1,h2⟩,h3⟩,h4⟩,h5⟩,h6⟩,h7⟩,h8⟩,h9⟩:=h;refine⟨h1,h2,fun y hy e=>?_,fun y hy e=>?_,h5,fun y hy e=>?_,?_,h8,h9⟩
 ·rcases h3 y hy with z|z
  ·exact absurd e z
  ·exact z
 ·rcases h4 y hy with z|z
  ·exact absurd e z
  ·exact z
 ·rcases h6 y hy with z|z
  ·exact absurd e z
  ·exact z
 ·intro z;have:N.contains ".0" = true:=List.contains_iff_mem.mpr z;rw[this] at h7;cases h7
theorem Dd{prog:Program}{w:World}{A:Around}{R:Result->Shared->Prop}{s:Shared}{elt target iter:Expr}{ifs:List Expr}{scope:Scope}{pos:Pos}{it acc:Value}{env:Env}(I:Nat->Shared->Prop)
  (turn:∀ n s,I n s->wpAny (model prog w) A (pyNext it) (fun r s₁=>match r with
   |none=>R (.ok .next) s₁
   |some v=>wpAny (model prog w) A (letOwnedTupleGo target it v) (fun _ s₁=>wpAny (model prog w) A (assign target env v) (fun _ s₂=>
     wpAny (model prog w) A (forIn ifs true fun c r=>if r=true then do let ok <- isTrue c env (eval c env);pure (ForInStep.yield ok) else pure (ForInStep.yield r)) (fun ok s₃=>
      if ok=true then wpAny (model prog w) A (eval elt env) (fun x s₄=>
       wpAny (model prog w) A (call (.builtin "list.append") [acc,x]) (fun _ s₅=>∃ m,m<n/\I m s₅) (fun _ _=>False) s₄) (fun _ _=>False) s₃
      else ∃ m,m<n/\I m s₃) (fun _ _=>False) s₂) (fun _ _=>False) s₁) (fun _ _=>False) s₁) (fun _ _=>False) s)
  (n:Nat) (h:I n s) :
  codeAny (model prog w) A (.compLoop (.ListComp elt [⟨target,iter,ifs,0⟩] scope pos) 0 it acc env) R s:=by
 refine codeAny_loop rfl I (fun n s hI=>?_) n h;show wpAny _ A ((compTurn (.ListComp elt [⟨target,iter,ifs,0⟩] scope pos) 0 it acc env).onRaise (fun x=>do noteFrame x env;theTreesLotGoes x)) _ _ s;refine wpAny_noted ?_;rw[compTurn_list];refine bO (Ft (bO (iM (turn n s hI) (fun r s₁ h₁=>?_) fun _ _ h'=>h'.elim)))
 cases r with
 |none=>exact cV h₁
 |some v=>
  refine bO (iM h₁ (fun _ s₁ h₁=>?_) fun _ _ h'=>h'.elim);refine bO (iM h₁ (fun _ s₂ h₂=>bO (iM h₂ (fun ok s₃ h₃=>?_) fun _ _ h'=>h'.elim)) fun _ _ h'=>h'.elim)
  cases ok with
  |false=>exact cV ⟨rfl,h₃⟩
  |true=>
   exact bO (bO (iM h₃ (fun x s₄ h₄=>bO (iM h₄ (fun _ s₅ h₅=>cV (cV ⟨rfl,h₅⟩)) fun _ _ h'=>h'.elim)) fun _ _ h'=>h'.elim))
section
variable{X:Cx}
def FW(X:Cx)(ifs:List Expr)(t:TT):Prop:=
 ∀(pins:List (Addr×Obj))(s:Shared)(zzs:St)(H:Hp)(Q:Bool->Hp->Prop),Inv X pins zzs H s->t zzs H Q ->
  wpAny (model X.prog X.w) X.A (forIn ifs true fun c r=>if r=true then do let ok <- isTrue c X.env (eval c X.env);pure (ForInStep.yield ok) else pure (ForInStep.yield r)) (TP X pins zzs Q) X.xe s
def Ql:TT:=fun _ H Q=>Q true H
theorem X3:FW X [] Ql:=fun _ _ _ H _ I h=>wpAny_tests_nil ⟨H,I,h⟩
theorem X4{c:Expr}{t:TT}(h:PT X c t):FW X [c] t:=fun pins s zzs H Q I hw=>wpAny_tests_one (h pins s zzs H Q I hw)
def iT(X:Cx)(x:Str)(scope:Scope)(s:Shared)(H:Hp)(ex:List Addr):Cx:=
 { X with
  N:=Bx X.N x
  s₀:=s
  H₀:=H
  env:=compEnvC scope (d9 scope.names X.env.cells []) s.heap.objs.size X.env
  outer:=X.stack
  stack:=X.stack
  ex:=ex
  fn:=fun _=>false
  pn:=[]
  xe:=fun _ _=>False }
def oW(J:It)(tc:TT)(te:TE)(zzs:St)(fin:List V->Hp->Prop)(W:Nat->Nat->List V->Hp->Prop):Prop:=
 ∀ i m ys H,W i m ys H->ys.length<=sizeLine/\((J.stop i H/\fin ys H) \/
  (J.go i H/\∀ v H',J.yld i H v H'->tc (some v::zzs) H' fun b H2=>if b=true then te (some v::zzs) H2 fun y H3=>∃ m',m'<m/\W (i+1) m' (ys++[y]) H3 else ∃ m',m'<m/\W (i+1) m' ys H2))
theorem lookup_mem{α:Type}:∀ {l:List (Str×α)} {x:Str} {k:α},l.lookup x=some k->(x,k)∈l
 |[],_,_,h=>by simp at h
 |(n,k')::r,x,k,h=>by
  rw[xu] at h;split at h
  ·rename_i hx
   have:x=n:=by simpa using hx
   subst this
   cases h
   exact cG
  ·exact dw _ (lookup_mem h)
theorem O7{N:List Str}{x y:Str}{i:Nat}(h:(Bx N x)[i+1]?=some y):(N[i]?=some y/\y≠x)\/y=x ++ "'":=by
 unfold Bx at h;rw[List.getElem?_cons_succ,cU] at h
 cases e:N[i]? with
 |none=>rw[e] at h;cases h
 |some z=>
  rw[e] at h;have h':(if z=x then x ++ "'" else z)=y:=by simpa using h
  by_cases hz:z=x
  ·rw[aK hz] at h';exact .inr h'.symm
  ·rw[aG hz] at h';subst h';exact .inl ⟨rfl,hz⟩
theorem Jb{x:Str}{scope:Scope}{pins:List (Addr×Obj)}{zzs:St}{H:Hp}{s:Shared}{h₁:Heap}{ex:List Addr}(ok:Cy scope X.env.scope X.N x)(hc:X.calm=true)(I:Inv X pins zzs H s)
  (hns:h₁.Ns s.heap.objs.size fun _=>none) (hk:∀ b o,s.heap.get? b=some o->h₁.get? b=some o)
  (hex:∀ b∈ex,b<s.heap.objs.size/\b≠X.env.locals/\b∉X.fs/\H b=none/\(b∈X.ex\/X.s₀.heap.objs.size<=b)/\(∀ y c,X.env.cells.lookup y=some c->c≠b)) {tk:Nat} :
  Inv (iT X x scope s H ex) [] (none::zzs) H { s with heap:=h₁,toks:=tk }:=by
 have hfree:∀ y∈scope.names,y.2=.free->∃ c,X.env.cells.lookup y.1=some c:=fun y hy e=>I.ok.has y.1 (ok.free y hy e)
 have cl:∀ y c,(d9 scope.names X.env.cells []).lookup y=some c->X.env.cells.lookup y=some c:=fun y c e=>nO scope.names hfree (fun _ _ z=>by simp at z) e
 have clt:∀ y c,X.env.cells.lookup y=some c->c<s.heap.objs.size:=fun y c e=>by
  obtain⟨v,q⟩:=I.cell y c e;exact q.lt
 have Mp:∀ y,(compEnvC scope (d9 scope.names X.env.cells []) s.heap.objs.size X.env).kindOf y=(scope.names.lookup y).map fun k=>if(k==NameKind.free&&X.env.scope.kind==.function&&X.env.kindOf y==some .cell) then NameKind.cell else k:=fun y=>pN scope.names y
 have freeOf:∀ y,(∃ k,(compEnvC scope (d9 scope.names X.env.cells []) s.heap.objs.size X.env).kindOf y=some k/\(k=.cell\/k=.free))->(y,NameKind.free)∈scope.names:=fun y ⟨k,e,hk⟩=>by
  rw[Mp] at e
  cases q:scope.names.lookup y with
  |none=>rw[q] at e;cases e
  |some k'=>
   have mem:=lookup_mem q;by_cases hf:k'=.free
   ·subst hf;exact mem
   ·rw[q] at e;have hb:(k'==NameKind.free)=false:=by simpa using hf
    simp only[sI,hb,Ad,vZ,qj,zZ] at e;subst e;rcases hk with z|z
    ·exact absurd z (ok.RW _ mem)
    ·exact absurd z hf
 have Xw:∀ b∈frs X.stack,b=X.env.locals\/b∈X.fs:=fun b hb=>cL.mp (I.rT b hb)
 refine⟨⟨I.ok.mod,?_,I.ok.glob,I.ok.blt,bR _,fun y z c e1 e2=>?_,fun y hy=>?_,fun y c z _=>?_,fun _=>I.ok.hd hc,I.ok.frames,.inl rfl,fun b hb=>⟨?_,fun y c e=>?_⟩,fun b o e=>?_,?_,fun b o e hb=>?_,fun b hb hf=>?_,?_,fun b hb=>?_⟩,
  rfl,I.bare,Un.kept hk,⟨_,hns,fun i y v e1 e2 e3=>?_⟩,fun y c e=>?_,I.hok.fresh (bR _),fun y c e=>I.mL y c (cl y c e),fun p hp=>?_,I.hok.kept hk,?_⟩
 ·exact ok.kind
 ·exact I.ok.inj y z c (cl y c e1) (cl z c e2)
 ·have hm:(y,NameKind.free)∈scope.names:=by
   rcases hy with z|z
   ·exact freeOf y ⟨_,z,.inl rfl⟩
   ·exact freeOf y ⟨_,z,.inr rfl⟩
  exact Bw scope.names (.inl hm)
 ·exact absurd (show false=true from z) (by decide)
 ·exact fQ (hex b hb).1
 ·exact(hex b hb).2.2.2.2.2 y c (cl y c e)
 ·obtain⟨e1,e2⟩:=I.bs b o e;exact⟨e1,e2⟩
 ·exact cP I.ok.bsz I.sz
 ·rcases(hex b hb).2.2.2.2.1 with z|z
  ·exact I.ok.Pn b o e z
  ·exact absurd (jd (bL (I.ok.bs b o e).1) z) (qu _)
 ·rcases Xw b hf with z|z
  ·exact(hex b hb).2.1 z
  ·exact(hex b hb).2.2.1 z
 ·exact I.stack
 ·exact I.ur b hb
 ·cases i with
  |zero=>
   have:(none::zzs)[0]?=some (some v):=e2;simp at this
  |succ i=>
   have e2':zzs[i]?=some (some v):=by simpa using e2
   have vis:Vis (relabel scope X.env) y:=e3;rcases O7 e1 with⟨eN,hyx⟩|hp
   ·
    have kf:(y,NameKind.free)∈scope.names:=by
     have k3:∃ k,(compEnvC scope (d9 scope.names X.env.cells []) s.heap.objs.size X.env).kindOf y=some k/\(k=.local\/k=.cell\/k=.free):=by
      rcases vis with z|z|z
      ·exact⟨_,z,.inl rfl⟩
      ·exact⟨_,z,.inr (.inl rfl)⟩
      ·exact⟨_,z,.inr (.inr rfl)⟩
     obtain⟨k,e,hk3⟩:=k3;rcases hk3 with hl|hk3
     ·subst hl;have e':=e;rw[Mp] at e'
      cases q:scope.names.lookup y with
      |none=>rw[q] at e';cases e'
      |some k'=>
       have mem:=lookup_mem q;rw[q] at e';have hk':k'=.local:=by
        by_cases Ro:(k'==NameKind.free&&X.env.scope.kind==.function&&X.env.kindOf y==some .cell)=true
        ·simp only[sI,Ro,wG,zZ] at e'
         cases e'
        ·simp only[sI,Ro,vZ,qj,zZ] at e';exact e'
       subst hk';rcases ok.loc _ mem rfl with z|z
       ·exact absurd z hyx
       ·have:y = ".0":=z;subst this;exact absurd (fB eN) ok.dot
     ·exact freeOf y ⟨k,e,hk3⟩
    have hout:=ok.free _ kf rfl;have a2K:Vis X.env.scope y:=by
     rcases hout with z|z
     ·exact .inr (.inl z)
     ·exact .inr (.inr z)
    obtain⟨m,hn,hl⟩:=I.loc;obtain⟨u,ru,lk⟩:=hl i y v eN e2' a2K;refine⟨u,ru,?_⟩;rcases lk with⟨lk,_⟩|⟨_,c,ec,hcell⟩
    ·have lk':X.env.scope.names.lookup y=some .local:=lk;rcases hout with z|z<;>(have z':X.env.scope.names.lookup y=_:=z;rw[lk'] at z';cases z')
    ·obtain⟨c',ec'⟩:=Bw (cells:=X.env.cells) (acc:=[]) scope.names (.inl kf);have:c'=c:=by
      have:=cl y c' ec';rw[ec] at this;cases this;rfl
     subst this;have kk:(compEnvC scope (d9 scope.names X.env.cells []) s.heap.objs.size X.env).kindOf y=some .cell\/(compEnvC scope (d9 scope.names X.env.cells []) s.heap.objs.size X.env).kindOf y=some .free:=by
      rcases vis with z|z|z
      ·
       have z':(compEnvC scope (d9 scope.names X.env.cells []) s.heap.objs.size X.env).kindOf y=some .local:=z;rw[Mp] at z'
       cases q:scope.names.lookup y with
       |none=>rw[q] at z';cases z'
       |some k'=>
        have mem:=lookup_mem q;rw[q] at z';have hk':k'=.local:=by
         by_cases Ro:(k'==NameKind.free&&X.env.scope.kind==.function&&X.env.kindOf y==some .cell)=true
         ·simp only[sI,Ro,wG,zZ] at z'
          cases z'
         ·simp only[sI,Ro,vZ,qj,zZ] at z';exact z'
        subst hk';rcases ok.loc _ mem rfl with zz|zz
        ·exact absurd zz hyx
        ·have:y = ".0":=zz;subst this;exact absurd (fB eN) ok.dot
      ·exact .inl z
      ·exact .inr z
     refine .inr ⟨kk,c',ec',?_⟩;obtain⟨oc,hoc,hd⟩:=hcell;exact⟨oc,hk _ _ hoc,hd⟩
   ·subst hp;exfalso;have kn:(compEnvC scope (d9 scope.names X.env.cells []) s.heap.objs.size X.env).kindOf (x ++ "'")=none:=by rw[Mp,ok.prime];rfl
    rcases vis with z|z|z
    ·have z':(compEnvC scope (d9 scope.names X.env.cells []) s.heap.objs.size X.env).kindOf (x ++ "'")=some .local:=z;rw[kn] at z';cases z'
    ·have z':(compEnvC scope (d9 scope.names X.env.cells []) s.heap.objs.size X.env).kindOf (x ++ "'")=some .cell:=z;rw[kn] at z';cases z'
    ·have z':(compEnvC scope (d9 scope.names X.env.cells []) s.heap.objs.size X.env).kindOf (x ++ "'")=some .free:=z;rw[kn] at z';cases z'
 ·obtain⟨v,oc,hoc,hd⟩:=I.cell y c (cl y c e);exact⟨v,oc,hk _ _ hoc,hd⟩
 ·exact absurd (show p∈([]:List (Addr×Obj)) from hp) (by simp)
 ·show(none::zzs).length=(Bx X.N x).length;unfold Bx;rw[fO,fO,aU,I.len]
end
section
variable{X:Cx}
theorem Heap.SameBut.keeps{a:Addr}{h h':Heap}(k:Heap.SameBut a h h'){b:Addr}{o:Obj}(hb:b≠a)(e:h.get? b=some o):h'.get? b=some o:=(k.2 b hb).trans e
theorem O8{x:Str}{px pos:Pos}{scope:Scope}{elt iter:Expr}{ifs:List Expr}{tc:TT}{te:TE}{pins:List (Addr×Obj)}{zzs:St}{H₂:Hp}{s₃:Shared}{h₁:Heap}{tk:Nat}{it D:Addr}{fp:List Addr}{tn:Nat->Heap->Prop}{J:It}{fin:List V->Hp->Prop}
  {W:Nat->Nat->List V->Hp->Prop} {RR:Value->Addr->Result->Shared->Prop}
  (ok:Cy scope X.env.scope X.N x) (hc:X.calm=true) (hif:∀ s H ex,FW (iT X x scope s H ex) ifs tc) (he:∀ s H ex,PE (iT X x scope s H ex) elt te)
  (I3:Inv X pins zzs H₂ s₃) (T:Turn X.prog X.w X.K (.Name x px) J fp it tn) (st:tn 0 s₃.heap) (f2:∀ b∈fp,sY X pins H₂ b) (w0:∃ m,W 0 m [] H₂) (hW:oW J tc te zzs fin W)
  (xV:H₂ D=none) (fD:sY X pins H₂ D) (h0D:X.s₀.heap.objs.size<=D) (Mf:s₃.heap.get? D=some { cls:=.type "list",dict:=none,data:=.seq ([]:List Value).toArray }) (Dfp:D∉fp)
  (hns₁:h₁.Ns s₃.heap.objs.size fun _=>none) (vp:∀ b o,s₃.heap.get? b=some o->h₁.get? b=some o)
  (hRR:∀ D C ys H' s',H' D=none->fin ys H'->Inv X pins zzs (upd H' D (.lst ys)) s'->sY X pins (upd H' D (.lst ys)) C->(∃ m,s'.heap.Ns C m)->RR (.ref D) C (.ok .next) s') :
  codeAny (model X.prog X.w) X.A (.compLoop (.ListComp elt [⟨.Name x px,iter,ifs,0⟩] scope pos) 0 (.ref it) (.ref D) (compEnvC scope (d9 scope.names X.env.cells []) s₃.heap.objs.size X.env)) (RR (.ref D) s₃.heap.objs.size) { s₃ with heap:=h₁,toks:=tk }:=by
 have a1j:∀ b∈fp,∃ o,s₃.heap.get? b=some o/\∀ v,o.data≠.cell v:=T.obj 0 s₃.heap st;have hex:∀ b∈D::fp,b<s₃.heap.objs.size/\b≠X.env.locals/\b∉X.fs/\H₂ b=none/\(b∈X.ex\/X.s₀.heap.objs.size<=b)/\(∀ y c,X.env.cells.lookup y=some c->c≠b):=fun b hb=>by
  rcases cL.mp hb with e|hb
  ·subst e;obtain⟨g0,g1,g2,g3,g4,g5⟩:=fD;exact⟨bL Mf,g1,g2,g0,g3,g4⟩
  ·obtain⟨g0,g1,g2,g3,g4,g5⟩:=f2 b hb;obtain⟨o,eo,_⟩:=a1j b hb;exact⟨bL eo,g1,g2,g0,g3,g4⟩
 have I4:=Jb (ex:=D::fp) (tk:=tk) ok hc I3 hns₁ vp hex;generalize hY:iT X x scope s₃ H₂ (D::fp)=Y at I4;have Ga:Y.prog=X.prog:=by rw[<- hY];rfl
 have Yw:Y.w=X.w:=by rw[<- hY];rfl
 have YK:Y.K=X.K:=by rw[<- hY];rfl
 have YA:Y.A=X.A:=by rw[<- hY];rfl
 have Yc:Y.calm=true:=by rw[<- hY];exact hc
 have YN:Y.N.Nodup:=by rw[<- hY];exact ok.nd
 have Y0:Y.N[0]?=some x:=by rw[<- hY];rfl
 have Ir:Y.env=compEnvC scope (d9 scope.names X.env.cells []) s₃.heap.objs.size X.env:=by rw[<- hY];rfl
 have Yx:Y.env.scope.names.lookup x=some .local:=by rw[Ir];exact lookup_relabel_local ok.own
 have Yfs:Y.fs=frs X.stack:=by rw[<- hY];rfl
 have Yex:Y.ex=D::fp:=by rw[<- hY];rfl
 have Ys0:Y.s₀=s₃:=by rw[<- hY];rfl
 have YH0:Y.H₀=H₂:=by rw[<- hY];rfl
 have Ypn:Y.pn=[]:=by rw[<- hY];rfl
 have Yxe:Y.xe=fun _ _=>False:=by rw[<- hY];rfl
 have a2o:FW Y ifs tc:=by rw[<- hY];exact hif _ _ _
 have he':PE Y elt te:=by rw[<- hY];exact he _ _ _
 have Dne:D≠Y.env.locals:=by rw[Ir];exact fQ (bL Mf)
 have Dfs:D∉Y.fs:=by
  rw[Yfs];intro hb;rcases cL.mp (I3.rT D hb) with z|z
  ·exact fD.2.1 z
  ·exact fD.2.2.1 z
 have a0Q:∀ y c,Y.env.cells.lookup y=some c->c≠D:=fun y c e=>by
  have hfree:∀ y∈scope.names,y.2=.free->∃ c,X.env.cells.lookup y.1=some c:=fun y hy e=>I3.ok.has y.1 (ok.free y hy e)
  rw[Ir] at e;exact fD.2.2.2.2.1 y c (nO scope.names hfree (fun _ _ z=>by simp at z) e)
 have fpY:∀ {H':Hp} {pl:List (Addr×Obj)},(∀ b∈fp,H' b=none)->(∀ p∈pl,p.1∉fp)->∀ b∈fp,sY Y pl H' b:=fun {H' pl} hn hp b hb=>by
  obtain⟨g0,g1,g2,g3,g4,g5⟩:=f2 b hb;have hlt:=(hex b (dw _ hb)).1;refine⟨hn b hb,?_,?_,.inl (by rw[Yex];exact dw _ hb),fun y c e=>?_,fun p q z=>?_⟩
  ·rw[Ir];exact fQ hlt
  ·rw[Yfs];intro z;rcases cL.mp (I3.rT b z) with z|z
   ·exact g1 z
   ·exact g2 z
  ·have hfree:∀ y∈scope.names,y.2=.free->∃ c,X.env.cells.lookup y.1=some c:=fun y hy e=>I3.ok.has y.1 (ok.free y hy e)
   rw[Ir] at e;exact g4 y c (nO scope.names hfree (fun _ _ z=>by simp at z) e)
  ·rw[Ypn,List.nil_append] at q;exact hp p q (by rw[z];exact hb)
 have DY:∀ {H':Hp},H' D=none->sY Y [] H' D:=fun {H'} hn=>⟨hn,Dne,Dfs,.inl (by rw[Yex];exact cG),a0Q,fun p q=>absurd (show p∈([]:List (Addr×Obj)) by rw[Ypn] at q;exact q) (by simp)⟩
 have a1x:∀ {bB:St} {H':Hp} {s':Shared} {its:Array Value} {n:Nat},Inv Y [] bB H' s'->H' D=none->s'.heap.get? D=some { cls:=.type "list",data:=.seq its n }->Inv Y [(D,{ cls:=.type "list",data:=.seq its n })] bB H' s':=fun {bB H' s' its n} J' hn e=>by
  refine J'.ug fun p hp=>?_
  have:p=(D,{ cls:=.type "list",data:=.seq its n }):=by simpa using hp
  subst this;exact⟨e,hn,Dne,Dfs,fun v z=>by
   have z':Data.seq its n=Data.cell v:=z
   cases z'⟩
 rw[<- Ir];obtain⟨m0,w0⟩:=w0;refine Dd (fun m s'=>∃ i ys Lj H' its n,Inv Y [(D,{ cls:=.type "list",data:=.seq its n })] (Lj::zzs) H' s'/\tn i s'.heap/\(∀ b∈fp,H' b=none)/\Vals ys its.toList/\W i m ys H') ?_ m0
  ⟨0,[],none,H₂,_,_,a1x I4 xV (vp D _ Mf),T.keep 0 _ _ st (fun b _ o e=>vp b o e),fun b hb=>(f2 b hb).1,.nil,w0⟩
 rintro m s' ⟨i,ys,Lj,H',its,n,J',st',fr',rv,w'⟩;obtain⟨hle,hW'⟩:=hW i m ys H' w';have hDn:H' D=none:=(J'.pin (D,{ cls:=.type "list",data:=.seq its n }) (by simp)).2.1;have fpn:∀ p∈[((D,{ cls:=.type "list",data:=.seq its n }):Addr×Obj)],p.1∉fp:=fun p hp=>by
  have:p=(D,{ cls:=.type "list",data:=.seq its n }):=by simpa using hp
  subst this;exact Dfp
 rcases hW' with⟨stop,hf⟩|⟨go,step⟩
 ·
  have h9:=T.done Y Ga Yw YK Yc i _ s' (Lj::zzs) H' (fun _ _=>False) J' (fpY fr' fpn) st' stop;rw[YA] at h9;refine thn h9 fun r s5 ⟨hr,J5⟩=>?_
  subst hr;show RR (.ref D) s₃.heap.objs.size (.ok .next) s5;have eD:=(J5.pin (D,{ cls:=.type "list",data:=.seq its n }) (by simp)).1;have un:Un (frs X.stack) (D::fp) H₂ H' s₃.heap s5.heap:=by
   have:=J5.base;rw[Yfs,Yex,YH0,Ys0] at this;exact this
  have a2q:HOk X.prog X.w H' s5.heap:=by
   have:=J5.hok;rw[Ga,Yw] at this;exact this
  have os5:s5.os=s₃.os:=by have:=J5.os;rw[Ys0] at this;exact this
  have I5:Inv X pins zzs H' s5:=I3.call' os5 un a2q J5.bare fun b hb=>by
   rcases cL.mp hb with e|hb
   ·subst e;exact⟨fD.2.2.2.1,fD.2.1,fD.2.2.2.2.1,fD.2.2.2.2.2⟩
   ·obtain⟨g0,g1,g2,g3,g4,g5⟩:=f2 b hb;exact⟨g3,g1,g4,g5⟩
  have I6:Inv X pins zzs (upd H' D (.lst ys)) s5:=I5.track hDn h0D fD.2.1 fD.2.2.2.2.1 fD.2.2.2.2.2 ⟨hle,its.toList,n,rv,by simpa using eD⟩;obtain⟨mC,hnC,_⟩:=J5.loc;have eL:Y.env.locals=s₃.heap.objs.size:=by rw[Ir];rfl
  have hCn:H' s₃.heap.objs.size=none:=by have:=J5.free;rw[eL] at this;exact this
  refine hRR D s₃.heap.objs.size ys H' s5 hDn hf I6 ?_ ⟨mC,by rw[<- eL];exact hnC⟩;exact I3.Rm (bR _) (by rw[bA (Fw (bL Mf))];exact hCn)
 ·
  have h9:=T.item Y Ga Yw YK Yc i _ s' (Lj::zzs) H' (fun _ _=>False) J' (fpY fr' fpn) st' go;rw[YA] at h9;refine thn h9 fun r s5 ⟨u,hr,h5⟩=>?_
  subst hr;refine thn h5 fun _ s6 ⟨v,H6,J6,rv6,y6,st6,fr6⟩=>?_
  have a2S:H6 D=none:=(J6.pin (D,{ cls:=.type "list",data:=.seq its n }) (by simp)).2.1;have J6':=J6.pinned (fp:=fp) (fpY fr6 fpn) (T.obj _ _ st6);have hst:=step v H6 y6;refine Kz ?_;have a2r:∀ Q',(∀ s7,Inv Y ([(D,{ cls:=.type "list",data:=.seq its n })]++rH fp s6.heap) (some v::zzs) H6 s7->Q' () s7)->wpAny (model X.prog X.w) X.A (storeName Y.env x u) Q' (fun _ _=>False) s6:=fun Q' hQ'=>
   qd (i:=0) (zzs:=Lj::zzs) J6' YN Y0 (.inl Yx) rv6 (fun s7 J7=>hQ' s7 J7) (.inr Yx)
  refine a2r _ fun s7 J7=>?_
  have h10:=a2o _ s7 (some v::zzs) H6 _ J7 hst;rw[Ga,Yw,YA,Yxe] at h10;refine thn h10 fun b s8 ⟨H8,J8,q8⟩=>?_
  have again:∀ {s9:Shared} {H9:Hp} {ys':List V} {its':Array Value} {n':Nat},Inv Y [] (some v::zzs) H9 s9->(∀ b∈fp,H9 b=none/\∀ o,s6.heap.get? b=some o->s9.heap.get? b=some o)->H9 D=none ->
    s9.heap.get? D=some { cls:=.type "list",data:=.seq its' n' }->Vals ys' its'.toList->(∃ m',m'<m/\W (i+1) m' ys' H9) ->
    ∃ m',m'<m/\∃ i ys Lj H' its n,Inv Y [(D,{ cls:=.type "list",data:=.seq its n })] (Lj::zzs) H' s9/\tn i s9.heap/\(∀ b∈fp,H' b=none)/\Vals ys its.toList/\W i m' ys H':=fun {s9 H9 ys' its' n'} J9 a1i hD9 eD9 rv9 hw9=>by
   obtain⟨m',hm,w9⟩:=hw9;exact⟨m',hm,i+1,ys',some v,H9,its',n',a1x J9 hD9 eD9,T.keep _ _ _ st6 (fun b hb o e=>(a1i b hb).2 o e),fun b hb=>(a1i b hb).1,rv9,w9⟩
  have a1y:∀ {Vs:St} {H9:Hp} {s9:Shared},Inv Y ([(D,{ cls:=.type "list",data:=.seq its n })]++rH fp s6.heap) Vs H9 s9->∀ b∈fp,H9 b=none/\∀ o,s6.heap.get? b=some o->s9.heap.get? b=some o:=fun {Vs H9 s9} J9 b hb=>by
   obtain⟨o,eo,_⟩:=T.obj _ _ st6 b hb;have p:=J9.pin (b,o) (j6 _ (j6 _ (rG hb eo)));exact⟨p.2.1,fun o' e'=>by rw[eo] at e';cases e';exact p.1⟩
  have a1z:∀ {Vs:St} {H9:Hp} {s9:Shared},Inv Y ([(D,{ cls:=.type "list",data:=.seq its n })]++rH fp s6.heap) Vs H9 s9->s9.heap.get? D=some { cls:=.type "list",data:=.seq its n }/\H9 D=none:=fun {Vs H9 s9} J9=>by
   have p:=J9.pin (D,{ cls:=.type "list",data:=.seq its n }) (j6 _ (j7 _ (by simp)));exact⟨p.1,p.2.1⟩
  cases b with
  |false=>
   show ∃ m',m'<m/\_;have q8':∃ m',m'<m/\W (i+1) m' ys H8:=q8;obtain⟨eD8,hD8⟩:=a1z J8;exact again (J8.ug fun p hp=>absurd hp (by simp)) (a1y J8) hD8 eD8 rv q8'
  |true=>
   show wpAny _ _ _ _ _ _;have q8':te (some v::zzs) H8 fun y H3=>∃ m',m'<m/\W (i+1) m' (ys++[y]) H3:=q8
   have h11:=he' _ s8 (some v::zzs) H8 _ J8 q8';rw[Ga,Yw,YA,Yxe] at h11;refine thn h11 fun yv s9 ⟨y,H9,J9,ry,q9⟩=>?_
   obtain⟨eD9,hD9⟩:=a1z J9;have hz:its.size<=sizeLine:=by have:=rv.length;simp only[lD] at this;lia
   refine wpAny_list_append_plain (hsz:=hz) ⟨n,eD9⟩ fun h' hl' hsb'=>?_
   obtain⟨n',eD'⟩:=hl';have J9':Inv Y [] (some v::zzs) H9 s9:=J9.ug fun p hp=>absurd hp (by simp)
   obtain⟨g0,g1,g2,g3,g4,g5⟩:=DY hD9;have J10:Inv Y [] (some v::zzs) H9 { s9 with heap:=h' }:=J9'.turned (t':=s9.toks) (fun b o hb e=>Heap.SameBut.keeps hsb' hb e) g0 g1 g3 g4 g5;refine again J10 (fun b hb=>?_) hD9 eD' (by simpa using rv.append (Vals.a0V ry)) q9;have p9:=a1y J9 b hb;exact⟨p9.1,fun o e=>Heap.SameBut.keeps hsb' (fun z=>Dfp (z▸hb)) (p9.2 o e)⟩
theorem BJ{x:Str}{px pos:Pos}{scope:Scope}{elt iter:Expr}{ifs:List Expr}{tc:TT}{te:TE}{pins:List (Addr×Obj)}{zzs:St}{H₂:Hp}{s₂:Shared}{it:Addr}{fp:List Addr}{tn:Nat->Heap->Prop}{J:It}{fin:List V->Hp->Prop}
  {W:Nat->Nat->List V->Hp->Prop} {RR:Value->Addr->Result->Shared->Prop} {E:Value->Shared->Prop}
  (ok:Cy scope X.env.scope X.N x) (hc:X.calm=true) (hif:∀ s H ex,FW (iT X x scope s H ex) ifs tc) (he:∀ s H ex,PE (iT X x scope s H ex) elt te)
  (I2:Inv X pins zzs H₂ s₂) (T:Turn X.prog X.w X.K (.Name x px) J fp it tn) (st:tn 0 s₂.heap) (f2:∀ b∈fp,sY X pins H₂ b) (w0:∃ m,W 0 m [] H₂) (hW:oW J tc te zzs fin W)
  (hRR:∀ D C ys H' s',H' D=none->fin ys H'->Inv X pins zzs (upd H' D (.lst ys)) s'->sY X pins (upd H' D (.lst ys)) C->(∃ m,s'.heap.Ns C m)->RR (.ref D) C (.ok .next) s') :
  wpAny (model X.prog X.w) X.A (newList []) (fun acc s₃=>wpAny (model X.prog X.w) X.A (newFunctionEnv scope X.env.globals (d9 scope.names X.env.cells []) [] X.env.qual none .none (some X.env)) (fun cenv s₄=>
   codeAny (model X.prog X.w) X.A (.compStart (.ListComp elt [⟨.Name x px,iter,ifs,0⟩] scope pos) 0 (.ref it) acc { cenv with scope:=relabel scope X.env }) (RR acc cenv.locals) s₄) E s₃) E s₂:=by
 refine Fb (wpAny_newFunctionEnv ok.RW (by intro y hy;simp at hy) (fun h₁ hns₁ hsb₁=>?_) ok.kind);have I3:Inv X pins zzs H₂ { s₂ with heap:=s₂.heap.push { cls:=.type "list",dict:=none,data:=.seq ([]:List Value).toArray } }:=I2.kept (t':=s₂.toks) fun b o e=>dG _ e
 have vp:∀ b o,(s₂.heap.push { cls:=.type "list",dict:=none,data:=.seq ([]:List Value).toArray }).get? b=some o->h₁.get? b=some o:=fun b o e=>Heap.SameBut.keeps hsb₁ (fQ (bL e)) (dG _ e)
 have Rw:∀ b o,s₂.heap.get? b=some o->(s₂.heap.push { cls:=.type "list",dict:=none,data:=.seq ([]:List Value).toArray }).get? b=some o:=fun b o e=>dG _ e
 have xV:H₂ s₂.heap.objs.size=none:=I2.hok.fresh (bR _);have loop:=O8 (RR:=RR) (s₃:={ s₂ with heap:=s₂.heap.push { cls:=.type "list",dict:=none,data:=.seq ([]:List Value).toArray } }) (h₁:=h₁) (tk:=s₂.toks+([]:List (Str×Value)).length) (iter:=iter) (pos:=pos)
  ok hc hif he I3 T (T.keep 0 _ _ st fun b _ o e=>Rw b o e) f2 w0 hW xV (I2.Rm (bR _) xV) I2.sz (jc _ rfl) (fun hb=>by
   obtain⟨o,e,_⟩:=T.obj 0 _ st _ hb;exact qu _ (bL e)) (by simpa using hns₁) vp hRR
 exact codeAny_compStart_list loop (T.self _ 0 _ _ _ (T.keep 0 _ _ st fun b _ o e=>vp b o (Rw b o e)) loop)
def Yt(wi:TI)(tc:TT)(te:TE):TE:=fun zzs H Q=>wi zzs H fun J H1=>∃ W:Nat->Nat->List V->Hp->Prop,(∃ m,W 0 m [] H1)/\oW J tc te zzs (fun ys H2=>∀ p,H2 p=none->Q (.ref p) (upd H2 p (.lst ys))) W
theorem WK{x:Str}{px pos:Pos}{scope:Scope}{elt iter:Expr}{ifs:List Expr}{wi:TI}{tc:TT}{te:TE}(ok:uX scope X.env.scope X.N x=true)(hc:X.calm=true)(hi:PI X (.Name x px) iter wi)
  (hif:∀ s H ex,FW (iT X x scope s H ex) ifs tc) (he:∀ s H ex,PE (iT X x scope s H ex) elt te) (hs:∀ v,foldedSetIterable iter X.env v=pure v:=by intro _;rfl) :
  PE X (.ListComp elt [⟨.Name x px,iter,ifs,0⟩] scope pos) (Yt wi tc te):=by
 intro pins s zzs H Q I h;have ok':=yF ok;have hfree:∀ y∈scope.names,y.2=.free->∃ c,X.env.cells.lookup y.1=some c:=fun y hy e=>I.ok.has y.1 (ok'.free y hy e)
 rw[eval_ListComp];refine V4 (use:=none) rfl hs (yE hfree) ok'.kind ok'.names (thn (hi pins s zzs H _ I h) fun v s1 h1=>thn h1 fun itv s2 h2=>?_);obtain⟨it,fp,tn,J,H2,e,I2,T,st2,f2,W,w0,hW⟩:=h2;subst e;refine BJ (RR:=fun acc C=>compPost (model X.prog X.w) X.A X.xe none (EP X pins zzs Q) acc C) ok' hc hif he I2 T st2 f2 w0 hW fun D C ys H' s' hD fin I' fC hm=>?_
 obtain⟨m,hm⟩:=hm;refine⟨m,hm,fun h' hsb=>?_⟩;obtain⟨g0,g1,g2,g3,g4,g5⟩:=fC;exact⟨.ref D,_,I'.turned (t':=s'.toks) (fun b o hb e=>Heap.SameBut.keeps hsb hb e) g0 g1 g3 g4 g5,rfl,fin D hD⟩
def Ui(i:Nat)(wi:TI)(tc:TT)(te:TE):TS:=fun D zzs H=>wi zzs H fun J H1=>∃ W:Nat->Nat->List V->Hp->Prop,(∃ m,W 0 m [] H1)/\oW J tc te zzs (fun ys H2=>∀ p,H2 p=none->D.nx (zzs.set i (some (.ref p))) (upd H2 p (.lst ys))) W
theorem X7{i:Nat}{y x:Str}{py px pos spos:Pos}{scope:Scope}{elt iter:Expr}{ifs:List Expr}{wi:TI}{tc:TT}{te:TE}(hN:X.N.Nodup)(hiy:X.N[i]?=some y)(hy:X.env.scope.names.lookup y=some .local)
  (ok:uX scope X.env.scope X.N x=true) (hc:X.calm=true) (hi:PI X (.Name x px) iter wi)
  (hif:∀ s H ex,FW (iT X x scope s H ex) ifs tc) (he:∀ s H ex,PE (iT X x scope s H ex) elt te)
  (hsw:swapsWith (.ListComp elt [⟨.Name x px,iter,ifs,0⟩] scope pos) (some (.Name y py)) spos.line X.env=pure true:=by rfl) (hs:∀ v,foldedSetIterable iter X.env v=pure v:=by intro _;rfl) :
  PS X (.Assign [.Name y py] (.ListComp elt [⟨.Name x px,iter,ifs,0⟩] scope pos) spos) (Ui i wi tc te):=by
 intro pins s zzs H Dn I h;have ok':=yF ok;have hfree:∀ y∈scope.names,y.2=.free->∃ c,X.env.cells.lookup y.1=some c:=fun y hy e=>I.ok.has y.1 (ok'.free y hy e)
 rw[exec_Assign_Name_used _ _ _ _ hsw];refine bO (Ft (bO ?_));show wpAny _ X.A (do let _ <- comprehension (.ListComp elt [⟨.Name x px,iter,ifs,0⟩] scope pos) scope X.env _ (newList []) false (eval iter X.env) (some (assign (.Name y py) X.env))) _ _ s;refine bO (iM (V4 (use:=some (assign (.Name y py) X.env)) (Q:=fun _ s'=>SP X pins Dn .next s') rfl hs (yE hfree) ok'.kind ok'.names
  (thn (hi pins s zzs H _ I h) fun v s1 h1=>thn h1 fun itv s2 h2=>?_)) (fun _ s' hq=>cV (cV hq)) fun _ _ e=>e)
 obtain⟨it,fp,tn,J,H2,e,I2,T,st2,f2,W,w0,hW⟩:=h2;subst e;refine BJ (RR:=fun acc C=>compPost (model X.prog X.w) X.A X.xe (some (assign (.Name y py) X.env)) (fun _ s'=>SP X pins Dn .next s') acc C) ok' hc hif he I2 T st2 f2 w0 hW fun D C ys H' s' hD fin I' fC hm=>?_
 obtain⟨m,hm⟩:=hm;show wpAny _ X.A (assign (.Name y py) X.env (.ref D)) _ _ _;obtain⟨g0,g1,g2,g3,g4,g5⟩:=fC;refine Kz (Cq (i:=i) (v:=.ref D) I' hN hiy (.inl hy) rfl (fun s'' I'' hch=>?_) (.inr hy));obtain⟨a,hsb,ha⟩:=hch;have hCa:C≠a:=by
  rcases ha with z|z
  ·rw[z];exact g1
  ·exact fun z'=>g4 _ _ z z'.symm
 refine⟨m,hm.sameBut hsb hCa,fun h' hsb'=>?_⟩;exact⟨_,_,I''.turned (t':=s''.toks) (fun b o hb e=>Heap.SameBut.keeps hsb' hb e) g0 g1 g3 g4 g5,fin D hD⟩
end
end L2
namespace L2
open PySem PySem.Spec PyProof.Rows
theorem gq.there{P:Program}{w:World}{H:Hp}{h:Heap}{a:Addr}{o:HO}(x:gq P w H h a o):∃ ob,h.get? a=some ob:=by
 cases o with
 |lst xs=>obtain⟨_,_,_,_,e⟩:=x;exact⟨_,e⟩
 |tup xs=>obtain⟨_,_,_,ob,e,_⟩:=x;exact⟨_,e⟩
 |dK kvs=>obtain⟨_,_,_,_,o,_,_,e,_⟩:=x;exact⟨_,e⟩
 |dT kvs=>obtain⟨_,_,_,_,o,_,_,e,_⟩:=x;exact⟨_,e⟩
 |set S n=>obtain⟨o,_,_,_,e,_⟩:=x;exact⟨_,e⟩
 |ins C dx fs=>obtain⟨_,_,_,e,_⟩:=x;exact⟨_,e⟩
 |own y=>obtain⟨_,e⟩:=x;exact⟨_,e⟩
 |xd fs=>obtain⟨_,⟨_,_,_,e,_⟩,_⟩:=x;exact⟨_,e⟩
 |rng lo hi=>obtain⟨_,_,_,e⟩:=x;exact⟨_,e⟩
 |frz ob u=>obtain⟨e,_⟩:=x;exact⟨_,e⟩
 |tbl ps=>exact⟨_,show h.get? a=some _ from x⟩
 |met f y=>exact⟨_,show h.get? a=some _ from x⟩
 |ext φ=>obtain⟨_,e,_⟩:=x;exact e
structure Fly(outer:List Env)(H':Hp)(h0:Heap)(ea C:Addr)(h:Heap):Prop where
 free:H' ea=none
 new:h0.get? ea=none
 fl:∃(B:Heap)(t:Addr),Heap.FlyingW B outer ea (.ref C) (.ref t) h/\∀ b o,h.get? b=some o->(H' b≠none\/∃ o',h0.get? b=some o')->b∉frs outer->B.get? b=some o
def CXE(P:Program)(w:World):CXT:=fun outer H s E e s'=>∃ ea C H',e=.ref ea/\s'.os=s.os/\AllBare s'.gens/\Un (frs outer) [] H H' s.heap s'.heap/\HOk P w H' s'.heap/\Fly outer H' s.heap ea C s'.heap/\E (.ref C) none H'
section
variable{P:Program}{w:World}{K:ao}{mg:Str->Option Value}{base:Heap}{N:List Str}{qual:Str}{scope:Scope}{f:Addr}{cd:Value}{A:Around}{outer:List Env}{s0:Shared}{H0:Hp}{E:XK}
theorem Tn{pins:List (Addr×Obj)}{zzs:St}{H:Hp}{s:Shared}{h':Heap}{e C:Addr}{vs:List Value}(I:Inv (oU (CXE P w) P w K mg base N qual scope f cd A outer s0 H0 E) pins zzs H s)
  (hx:Heap.MadeExcOf s.heap h' e (.ref C) vs) (hE:E (.ref C) none H):(oU (CXE P w) P w K mg base N qual scope f cd A outer s0 H0 E).xe (.ref e) { s with heap:=h' }:=by
 have Z8:∀ b,b∈frs (envOfC qual scope s0.heap.objs.size f cd::outer)->b=s0.heap.objs.size\/b∈frs outer:=fun b hb=>cL.mp (I.rT b hb)
 have hB:∀ b o,s.heap.get? b=some o->b∉frs (envOfC qual scope s0.heap.objs.size f cd::outer)->(PySem.W.hideAll s.heap (frs (envOfC qual scope s0.heap.objs.size f cd::outer))).get? b=some o:=fun b o e n=>Vj _ e n
 show wpAny (model P w) (A.deeper (envOfC qual scope s0.heap.objs.size f cd)) (leaving (envOfC qual scope s0.heap.objs.size f cd) (.ref e)) (fun _ s''=>CXE P w outer H0 s0 E (.ref e) s'') (fun e' s''=>CXE P w outer H0 s0 E e' s'') { s with heap:=h' };refine wpAny_leaves_madeW (base:=PySem.W.hideAll s.heap (frs (envOfC qual scope s0.heap.objs.size f cd::outer))) (h:=s.heap) I.ok.frames rfl (fun b o q=>Vo _ q)
  (PySem.W.funFrames_hide I.stack fun env he a ha=>zX.mpr ⟨env,he,ha⟩) hx fun h'' t fl _ _ sm=>?_
 have new:s.heap.get? e=none:=hx.new;have sm':s.heap.UpToSlots h'':=(Heap.UpToSlots.of_keeps hx.keeps).trans sm;have stays:=fl.1;have tW:∀ b o,s.heap.get? b=some o->b∉frs (envOfC qual scope s0.heap.objs.size f cd::outer)->h''.get? b=some o:=fun b o q n=>stays b o (hB b o q n)
 have Pq:∀ b o,s0.heap.get? b=some o->b∉frs outer->b∉frs (envOfC qual scope s0.heap.objs.size f cd::outer):=fun b o q n hb=>by
  rcases Z8 b hb with z|z
  ·exact fQ (bL q) z
  ·exact n z
 have trk:∀ b u,H b=some u->b∉frs (envOfC qual scope s0.heap.objs.size f cd::outer):=fun b u q hb=>by
  have:=I.ur b hb;rw[q] at this;cases this
 have K5:∀ b o,s0.heap.get? b=some o->∃ o',s.heap.get? b=some o':=fun b o q=>I.base.there b o q (by show b∉[];simp)
 refine⟨e,C,H,rfl,I.os,I.bare,⟨fun b o q n hb _=>?_,fun b o q n hb _=>?_,fun b o q n hx'=>I.base.free b o q n (by show b∉[];simp),fun b o q _=>?_,I.base.tups,I.base.pG,I.base.qU⟩,fun a o q=>?_,⟨?_,?_,?_⟩,hE⟩
 ·exact tW b o (I.base.keep b o q n hb (by show b∉[];simp)) (Pq b o q hb)
 ·obtain⟨sl,e1⟩:=I.base.slot b o q n hb (by show b∉[];simp);obtain⟨_,o',ho',hd⟩:=I.tR.mem hb;rw[e1] at ho';cases ho';obtain⟨sl',e2⟩:=sm' b _ e1 hd;exact⟨sl',e2⟩
 ·obtain⟨o',e1⟩:=K5 b o q;by_cases hb:b∈frs (envOfC qual scope s0.heap.objs.size f cd::outer)
  ·obtain⟨_,o2,ho2,hd⟩:=I.stack.mem hb;obtain⟨sl',e2⟩:=sm' b _ ho2 hd;exact⟨_,e2⟩
  ·exact⟨o',tW b o' e1 hb⟩
 ·refine(I.hok a o q).stay (fun b u hb z=>tW b u z ?_) (fun _ z=>z) fun _ _ z=>z
  rcases hb with rfl|hb
  ·exact trk b o q
  ·exact trk b _ hb
 ·cases q:H e with
  |none=>rfl
  |some o=>
   obtain⟨ob,z⟩:=(I.hok e o q).there;rw[new] at z;cases z
 ·cases q:s0.heap.get? e with
  |none=>rfl
  |some o=>
   obtain⟨ob,z⟩:=K5 e o q;rw[new] at z;cases z
 ·refine⟨_,t,fl,fun b o q hb n=>?_⟩;have key:∃ o',s.heap.get? b=some o'/\b∉frs (envOfC qual scope s0.heap.objs.size f cd::outer):=by
   rcases hb with z|⟨o',z⟩
   ·cases r:H b with
    |none=>exact absurd r z
    |some u=>
     obtain⟨ob,y⟩:=(I.hok b u r).there;exact⟨ob,y,trk b u r⟩
   ·obtain⟨o2,y⟩:=K5 b o' z;exact⟨o2,y,Pq b o' z n⟩
  obtain⟨o',y,n'⟩:=key;have:=tW b o' y n';rw[q] at this;cases this;exact hB b o y n'
end
structure jm(K:ao)(C:Addr):Prop where
 ex:PySem.W.excIn K C [.type "ValueError",.type "Exception",.type "BaseException",.type "object"] "ValueError.__new__" = true
theorem jm.obj{K:ao}{C:Addr}(c:jm K C){h:Heap}(X:K.In h):∃ tl N nm q bs hdct sn sub ab col dd k0 k1 k2 k3 k5 mN,h.get? C=some (excClassObj nm q C N bs tl hdct sn sub ab col dd k0 k1 k2 k3 k5 "ValueError.__new__")/\h.Ns N mN/\mN "__init__" = none /\
  OwnTail h [.type "ValueError",.type "Exception",.type "BaseException",.type "object"] tl:=by
 have q:=c.ex;unfold PySem.W.excIn at q;split at q
 ·rename_i dd cd sl ho
  split at q
  ·rename_i C' bm k0 k1 k2 k3 n k5 hm hs
   simp only[oR,j8,qp] at q;obtain⟨⟨⟨⟨⟨rfl,rfl⟩,hdel⟩,ht⟩,hok⟩,hni⟩:=q;obtain⟨nm,bs,mro,ns,qn,hd,sn,sub,ab,col,del⟩:=cd;dsimp only at hm hdel hok hni;subst hm hdel;have hsl:sl=#[k0,k1,k2,k3,some (.builtin "ValueError.__new__"),k5]:=by
    obtain⟨l⟩:=sl;simp only at hs;rw[hs]
   subst hsl;exact⟨bm,ns,nm,qn,bs,hd,sn,sub,ab,col,dd,k0,k1,k2,k3,k5,_,X _ _ ho,.of_isNs (PySem.W.isNs_of_in X hok),PySem.W.nsMap_none_of_in X hok hni,PySem.W.tail_of_in X ht⟩
  ·cases q
 ·cases q
def Uo(t:TA)(C:Addr)(E:XK):TS:=fun _ zzs H=>t zzs H fun vs H1=>vs.length<=sizeLine/\E (.ref C) none H1
section
variable{P:Program}{w:World}{K:ao}{mg:Str->Option Value}{base:Heap}{N:List Str}{qual:Str}{scope:Scope}{f:Addr}{cd:Value}{A:Around}{outer:List Env}{s0:Shared}{H0:Hp}{E:XK}
theorem T4{x:Str}{np cpos pos:Pos}{e₀:Expr}{rest:List Expr}{t:TA}{C:Addr}(c:jm K C)(hg:Gl (oU (CXE P w) P w K mg base N qual scope f cd A outer s0 H0 E) x)(hm:mg x=some (.ref C))(hh:A.handled=none)
  (ha:PA (oU (CXE P w) P w K mg base N qual scope f cd A outer s0 H0 E) (e₀::rest) t) (hd:(x==("__debug__" : Str))=false:=by decide)
  (he:starEach (e₀::rest) (envOfC qual scope s0.heap.objs.size f cd)=(false,eval e₀ (envOfC qual scope s0.heap.objs.size f cd))::starEach rest (envOfC qual scope s0.heap.objs.size f cd):=by rfl)
  (hplain:(backTo cpos (starEach rest (envOfC qual scope s0.heap.objs.size f cd))).any (·.1)=false:=by rfl) :
  PS (oU (CXE P w) P w K mg base N qual scope f cd A outer s0 H0 E) (.Raise (some (.Call (.Name x np) (e₀::rest) [] cpos)) none pos) (Uo t C E):=by
 intro pins s zzs H D I h;obtain⟨tl,Na,nm,q,bs,hdct,sn,sub,ab,col,dd,k0,k1,k2,k3,k5,mN,hC,hN,hni,T⟩:=c.obj I.mod.kin;refine wpAny_Raise_call_subU (C:=C) (nm:=nm) (q:=q) (N:=Na) (bs:=bs) (bm:=tl) (hdct:=hdct) (sn:=sn) (sub:=sub) (ab:=ab) (col:=col) (dd:=dd) (k0:=k0) (k1:=k1) (k2:=k2) (k3:=k3) (k5:=k5)
  Eo (by decide) Eo (mN:=mN) (T.hasType Eo.hasBase) hh (by
   show(backTo cpos (starEach (e₀::rest) (envOfC qual scope s0.heap.objs.size f cd))).any (·.1)=false;rw[he];show(false||(backTo cpos (starEach rest (envOfC qual scope s0.heap.objs.size f cd))).any (·.1))=false;rw[hplain];rfl) hni (qJ I hg hm ⟨rfl,?_⟩ hd)
 have h2:=ha cpos pins s zzs H _ I h;show wpAny (model P w) _ (evalArgs (.ref C) true (backTo cpos (starEach (e₀::rest) (envOfC qual scope s0.heap.objs.size f cd))) []) _ _ s;have h3:wpAny (model P w) (A.deeper (envOfC qual scope s0.heap.objs.size f cd)) (spliced (backTo cpos (starEach (e₀::rest) (envOfC qual scope s0.heap.objs.size f cd)))) _ _ s:=h2;rw[he] at h3 ⊢;refine Calls.evalArgs_plain (iM h3 (fun vs s₂ h₂=>?_) fun _ _ y=>y);obtain⟨xs,H1,I1,r,hz,hE⟩:=h₂;have keep:∀ b o,base.get? b=some o->s₂.heap.get? b=some o:=I1.bk;exact⟨rfl,by rw[<- r.length];exact hz,keep _ _ hC,hN.keeps keep,T.keeps keep,fun h' e hx=>Tn I1 hx hE⟩
end
section
variable{X:Cx}
def XP(X:Cx)(pins:List (Addr×Obj))(Ex:St->Value->Hp->Prop)(ev:Value)(s':Shared):Prop:=∃ zzs H s,Inv X pins zzs H s/\CXE X.prog X.w X.stack H s (fun c _ H'=>Ex zzs c H') ev s'
abbrev TEX:=St->Hp->VK->(Value->Hp->Prop)->Prop
def PEX(X:Cx)(e:Expr)(t:TEX):Prop:=
 ∀(pins:List (Addr×Obj))(s:Shared)(zzs:St)(H:Hp)(Q:VK)(E:Value->Hp->Prop),Inv X pins zzs H s->t zzs H Q E->wpAny (model X.prog X.w) X.A (eval e X.env) (EP X pins zzs Q) (XP X pins fun bB c H'=>bB=zzs/\E c H') s
abbrev TSX:=Ends->(St->Value->Hp->Prop)->St->Hp->Prop
def PSX(X:Cx)(st:List Stmt)(t:TSX):Prop:=
 ∀(pins:List (Addr×Obj))(s:Shared)(zzs:St)(H:Hp)(D:Ends)(Ex:St->Value->Hp->Prop),Inv X pins zzs H s->t D Ex zzs H->wpAny (model X.prog X.w) X.A (execs st X.env) (SP X pins D) (XP X pins Ex) s
variable{k:Nat}{f C:Addr}{fd:FuncData}{ps:List Str}{sp:Sp}{dvs:List V}{ds:List Value}{x:Str}{p pos:Pos}{e:Expr}{es:List Expr}{t:TA}{CX:CXT}{E:XK}
theorem Xo{pins:List (Addr×Obj)}{zzs:St}{H:Hp}{s:Shared}{Q:VK}{us:List Value}{vs:List V}{E':Value->Shared->Prop}(F:cg X.prog X.w X.K X.mg X.base CX k f fd ps sp)(hr:fY k X.A)(hb:Binds X.K fd ps ds)(hd:Vals dvs ds)
  (I:Inv X pins zzs H s) (r:Vals vs us) (h:sp (vs++dvs) H Q E) (hx:∀ e s',CX X.stack H s E e s'->E' e s'):wpAny (model X.prog X.w) X.A (call (.ref f) us) (EP X pins zzs Q) E' s:=by
 have r2:Vals (vs++dvs) (us++ds):=r.append hd;have hl:(us++ds).length=ps.length:=by rw[<- r2.length];exact F.len _ _ _ _ h
 refine wpAny_call (wD (F.run X.A X.stack s H ⟨us,[]⟩ (us++ds) (vs++dvs) Q E hr I.env0 (hb s us I.kIn hl) r2 h) fun r s' hq=>?_)
 cases r with
 |error e=>exact hx e s' hq
 |ok fl=>
  cases fl with
  |ret u=>exact I.after hq
  |next=>exact False.elim hq
  |brk=>exact False.elim hq
  |cont=>exact False.elim hq
def Ek(sp:Sp)(dvs:List V)(t:TA):TEX:=fun zzs H Q E=>t zzs H fun vs H1=>sp (vs++dvs) H1 Q fun c _ H'=>E c H'
theorem SN(F:cg X.prog X.w X.K X.mg X.base (CXE X.prog X.w) k f fd ps sp)(hr:fY k X.A)(hg:Gl X x)(hm:X.mg x=some (.ref f))(hk:PySem.W.keepIn X.K (.ref f)=true)(hb:Binds X.K fd ps ds)(hd:Vals dvs ds)
  (ha:PA X.nox (e::es) t) (hdb:(x==("__debug__" : Str))=false:=by decide) (he:starEach (e::es) X.env=(false,eval e X.env)::starEach es X.env:=by rfl) (hpl:(backTo pos (starEach es X.env)).any (·.1)=false:=by rfl) :
  PEX X (.Call (.Name x p) (e::es) [] pos) (Ek sp dvs t):=by
 intro pins s zzs H Q E I h;refine zY (qJ I hg hm ?_ hdb);refine Ku (h₀:=X.base) I.ok.mod.kin hk (iM (ha pos pins s zzs H _ (I.wish _) h) (fun us s1 ⟨vs,H1,I1,r,q⟩=>⟨I1.kIn,?_⟩) fun _ _ z=>False.elim z) he hpl;exact Xo F hr hb hd I1.jM r q fun ev s' hq=>⟨zzs,H1,s1,I1.jM,by
  obtain⟨ea,C,H',h1,h2,h3,h4,h5,h6,h7⟩:=hq;exact⟨ea,C,H',h1,h2,h3,h4,h5,h6,rfl,h7⟩⟩
def Yz(te:TEX):TSX:=fun D Ex zzs H=>te zzs H D.rt (Ex zzs)
theorem Xc{e:Expr}{te:TEX}{pos:Pos}(he:PEX X e te):PSX X [.Return (some e) pos] (Yz te):=by
 intro pins s zzs H D Ex I h;refine KJ (wpAny_Return_some (iM (he pins s zzs H _ _ I h) (fun v s1 ⟨y,H1,I1,r1,q1⟩=>⟨y,zzs,H1,I1,r1,q1⟩) fun ev s' hq=>?_));obtain⟨bB,H',s2,I2,ea,C,H3,h1,h2,h3,h4,h5,h6,e1,h7⟩:=hq;subst e1;exact⟨bB,H',s2,I2,ea,C,H3,h1,h2,h3,h4,h5,h6,h7⟩
end
section
variable{X:Cx}
def rE(X:Cx)(ea:Addr):Cx:={ X with A:=X.A.mark (some (.ref ea)),calm:=false,xe:=fun _ _=>False }
theorem Inv.hand{pins:List (Addr×Obj)}{zzs:St}{H:Hp}{s:Shared}(I:Inv X pins zzs H s)(ea:Addr):Inv (rE X ea) pins zzs H s:=
 ⟨⟨I.ok.mod,I.ok.kind,I.ok.glob,I.ok.blt,I.ok.above,I.ok.inj,I.ok.has,I.ok.cab,fun z=>absurd (show false=true from z) (by decide),I.ok.frames,I.ok.stk,I.ok.exf,I.ok.bs,I.ok.bsz,I.ok.Pn,I.ok.Rg,I.ok.tR,I.ok.frf⟩,
  I.os,I.bare,I.base,I.loc,I.cell,I.free,I.mL,I.pin,I.hok,I.len⟩
theorem Inv.a0I{ea:Addr}{pins:List (Addr×Obj)}{zzs:St}{H:Hp}{s:Shared}(ok:X.Ok)(I:Inv (rE X ea) pins zzs H s):Inv X pins zzs H s:=
 ⟨ok,I.os,I.bare,I.base,I.loc,I.cell,I.free,I.mL,I.pin,I.hok,I.len⟩
theorem land{pins:List (Addr×Obj)}{zzs:St}{H H':Hp}{s s' s'':Shared}{B:Heap}(I:Inv X pins zzs H s)(os:s'.os=s.os)(un:Un (frs X.stack) [] H H' s.heap s'.heap)(hok:HOk X.prog X.w H' s'.heap)
  (KB:∀ b o,s'.heap.get? b=some o->(H' b≠none\/∃ o',s.heap.get? b=some o')->b∉frs X.stack->B.get? b=some o) (st:B.StaysIn s''.heap) (sm:s'.heap.UpToSlots s''.heap) (PX:s''.os=s'.os) (bare:AllBare s''.gens):Inv X pins zzs H' s'':=by
 have fr:∀ b∈frs X.stack,∃ o sl,s.heap.get? b=some o/\(∀ vs,o.data≠.fields vs)/\H b=none/\s'.heap.get? b=some { o with slots:=sl }/\H' b=none:=fun b hb=>by
  obtain⟨_,o,ho,hd⟩:=I.stack.mem hb;have hn:=I.ur b hb;obtain⟨sl,e⟩:=un.slot b o ho hn hb (by simp);exact⟨o,sl,ho,hd,hn,e,un.free b o ho hn (by simp)⟩
 refine I.call' (PX.trans os) (ch:=[]) ⟨fun b o e n hb hx=>?_,fun b o e n hb hx=>?_,un.free,fun b o e hx=>?_,un.tups,un.pG,un.qU⟩ (fun a o e=>?_) bare (fun b hb=>absurd hb (by simp))
 ·exact st b o (KB b o (un.keep b o e n hb hx) (.inr ⟨o,e⟩) hb)
 ·obtain⟨o1,sl,e1,hd,_,e2,_⟩:=fr b hb;rw[e] at e1;cases e1;obtain⟨sl',e3⟩:=sm b _ e2 hd;exact⟨sl',e3⟩
 ·by_cases hb:b∈frs X.stack
  ·obtain⟨o1,sl,e1,hd,_,e2,_⟩:=fr b hb;obtain⟨sl',e3⟩:=sm b _ e2 hd;exact⟨_,e3⟩
  ·obtain⟨o',e1⟩:=un.there b o e hx;exact⟨o',st b o' (KB b o' e1 (.inr ⟨o,e⟩) hb)⟩
 ·have nf:∀ b u,H' b=some u->b∉frs X.stack:=fun b u q hb=>by
   obtain⟨_,_,_,_,_,_,z⟩:=fr b hb;rw[q] at z;cases z
  refine(hok a o e).stay (fun b u hb q=>?_) (fun _ q=>q) fun _ _ q=>q
  rcases hb with rfl|hb
  ·exact st b u (KB b u q (.inl (by rw[e];simp)) (nf b o e))
  ·exact st b u (KB b u q (.inl (by rw[hb];simp)) (nf b _ hb))
structure Air(X:Cx)(pins:List (Addr×Obj))(zzs:St)(H':Hp)(ea C:Addr)(s'':Shared):Prop where
 ex:∃(H:Hp)(s s':Shared)(B:Heap)(t:Addr),Inv X pins zzs H s/\s'.os=s.os/\Un (frs X.stack) [] H H' s.heap s'.heap/\HOk X.prog X.w H' s'.heap /\
  (∀ b o,s'.heap.get? b=some o->(H' b≠none\/∃ o',s.heap.get? b=some o')->b∉frs X.stack->B.get? b=some o)/\Heap.FlyingW B X.stack ea (.ref C) (.ref t) s''.heap/\s'.heap.UpToSlots s''.heap/\s''.os=s'.os/\AllBare s''.gens/\s.heap.get? ea=none/\H' ea=none
theorem Air.inv{pins:List (Addr×Obj)}{zzs:St}{H':Hp}{ea C:Addr}{s'':Shared}(a:Air X pins zzs H' ea C s''):Inv X pins zzs H' s'':=by
 obtain⟨H,s,s',B,t,I,os,un,hok,KB,fl,sm,PX,bare,_,_⟩:=a.ex;exact land I os un hok KB fl.1 sm PX bare
theorem Air.obj{pins:List (Addr×Obj)}{zzs:St}{H':Hp}{ea C:Addr}{s'':Shared}(a:Air X pins zzs H' ea C s''):∃ ob,s''.heap.get? ea=some ob/\ob.cls=.ref C:=by
 obtain⟨H,s,s',B,t,I,os,un,hok,KB,fl,sm,PX,bare,_,_⟩:=a.ex;exact fl.there
theorem Air.again{pins:List (Addr×Obj)}{zzs:St}{H':Hp}{ea C:Addr}{s'':Shared}{M:Model}{A:Around}{E:Value->Shared->Prop}{Q:Unit->Shared->Prop}(a:Air X pins zzs H' ea C s'')
  (hQ:∀ h',Air X pins zzs H' ea C { s'' with heap:=h' }->Q () { s'' with heap:=h' }):wpAny M A (setFlight (.ref ea) none) Q E s'':=by
 obtain⟨H,s,s',B,t,I,os,un,hok,KB,fl,sm,PX,bare,n1,n2⟩:=a.ex;exact lands_againW fl fun h' fl' sm'=>hQ h' ⟨H,s,s',B,t,I,os,un,hok,KB,fl',sm.trans sm',PX,bare,n1,n2⟩
def PH(X:Cx)(hs:List ExceptHandler)(th:Addr->TS):Prop:=
 ∀(pins:List (Addr×Obj))(zzs:St)(H:Hp)(ea C:Addr)(s:Shared)(D:Ends),Air X pins zzs H ea C s->th C D zzs H->wpAny (model X.prog X.w) X.A (handleBy (.ref ea) X.env hs) (SP X pins D) X.xe s
def LR(K:ao)(C C':Addr):Bool:=match K.lookup C with
 |some ⟨.type "type",_,.cls cd,_⟩=>!(cd.mro.contains (.ref C'))
 |_=>false
theorem a0f:PH X [] (fun _ _ _ _=>False):=fun _ _ _ _ _ _ _ _ h=>h.elim
def a1Y(tb:TSX)(th:Addr->TS):TS:=fun D zzs H=>tb D (fun bB c H'=>∃ C,c=.ref C/\th C D bB H') zzs H
theorem a0n{body:List Stmt}{h₀:ExceptHandler}{hs:List ExceptHandler}{pos:Pos}{tb:TSX}{th:Addr->TS}(hst:X.stack=X.env::X.outer)(hfr:X.env.frame=some X.env.locals)(hb:PSX X body tb)(hh:PH X (h₀::hs) th) :
  PS X (.Try body (h₀::hs) [] [] pos) (a1Y tb th):=by
 intro pins s zzs H D I h;refine wpAny_Try_except (iM (hb pins s zzs H D _ I h) (fun f s1 q=>?_) fun ev s1 q=>?_)
 ·cases f with
  |next=>exact Ac q
  |ret v=>exact q
  |brk=>exact q
  |cont=>exact q
 ·obtain⟨bB,H1,s2,I2,ea,C,H',rfl,os,bare,un,hok,fly,C',e,th'⟩:=q
  cases e
  obtain⟨B,t,fl,KB⟩:=fly.fl;have fl0:=fl;rw[hst] at fl0;refine wpAny_looks_onW (by rw[<- hst];exact I2.ok.frames) hfr fl0 fun h4 held sm4=>?_
  refine wpAny_landsW held fun h5 fl5 sm5=>?_
  rw[<- hst] at fl5;exact hh pins bB H' ea C _ D ⟨H1,s2,s1,B,t,I2,os,un,hok,KB,fl5,sm4.trans sm5,rfl,bare,fly.new,fly.free⟩ th'
end
end L2
namespace L2
open PySem PySem.Spec PyProof.Rows
def Its(z:Str):It:=⟨fun i _=>i<z.cps.size,fun i H x H'=>H'=H/\∃ c,z.cps[i]?=some c/\x=.str ⟨#[c]⟩,fun i _=>z.cps.size<=i⟩
theorem Qs{P:Program}{w:World}{K:ao}{tg:Expr}(z:Str)(t:Tok)(it:Addr):Turn P w K tg (Its z) [it] it (fun i h=>h.IsStrIter it "str_ascii_iterator" z t i) where
 mem:=by simp
 obj:=fun i h st b hb=>by
  have e:b=it:=by simpa using hb
  subst e;obtain⟨o,e,c,d⟩:=st;exact⟨o,e,fun v q=>by rw[d] at q;cases q⟩
 keep:=fun i h h' st k=>by
  obtain⟨o,e,c,d⟩:=st;exact⟨o,k it (by simp) o e,c,d⟩
 item:=by
  intro X hP hw hK hc i pins s zzs H E I hf st hg;subst hP hw hK;obtain⟨f0,f1,f2,f3,f4,f5⟩:=hf it (by simp);have hgi:i<z.cps.size:=hg;refine wpAny_pyNext_ascii_item st (c:=z.cps[i]) (by simp[hgi]) fun h' st' sb=>?_
  have I1:Inv X pins zzs H { s with heap:=h',toks:=s.toks+1 }:=I.turned (fun b o hb e=>(sb.2 b hb).trans e) f0 f1 f3 f4 f5;obtain⟨o,e,c,d⟩:=id st';exact⟨_,rfl,Ma (s:={ s with heap:=h',toks:=s.toks+1 }) e c d (by decide) ⟨.str ⟨#[z.cps[i]]⟩,H,I1,⟨_,rfl⟩,⟨rfl,z.cps[i],by simp[hgi],rfl⟩,st',fun b hb=>(hf b hb).1⟩⟩
 done:=by
  intro X hP hw hK hc i pins s zzs H E I hf st hg;subst hP hw hK;obtain⟨f0,f1,f2,f3,f4,f5⟩:=hf it (by simp);have hgi:z.cps.size<=i:=hg;exact wpAny_pyNext_ascii_end (I.ok.hd hc) st (by simp[hgi]) fun h' eb=>⟨rfl,I.turned (t':=s.toks) (fun b o hb e=>eb b o hb e) f0 f1 f3 f4 f5⟩
 self:=fun _ _ _ _ _ st h=>wpAny_pyIter_striter_ascii st h
theorem Qt{P:Program}{w:World}{K:ao}{tg:Expr}(z:Str)(t:Tok)(it:Addr):Turn P w K tg (Its z) [it] it (fun i h=>h.IsStrIter it "str_iterator" z t i) where
 mem:=by simp
 obj:=fun i h st b hb=>by
  have e:b=it:=by simpa using hb
  subst e;obtain⟨o,e,c,d⟩:=st;exact⟨o,e,fun v q=>by rw[d] at q;cases q⟩
 keep:=fun i h h' st k=>by
  obtain⟨o,e,c,d⟩:=st;exact⟨o,k it (by simp) o e,c,d⟩
 item:=by
  intro X hP hw hK hc i pins s zzs H E I hf st hg;subst hP hw hK;obtain⟨f0,f1,f2,f3,f4,f5⟩:=hf it (by simp);have hgi:i<z.cps.size:=hg;refine wpAny_pyNext_wide_item st (c:=z.cps[i]) (by simp[hgi]) fun h' st' sb=>?_
  have I1:Inv X pins zzs H { s with heap:=h',toks:=s.toks+1 }:=I.turned (fun b o hb e=>(sb.2 b hb).trans e) f0 f1 f3 f4 f5;obtain⟨o,e,c,d⟩:=id st';exact⟨_,rfl,Ma (s:={ s with heap:=h',toks:=s.toks+1 }) e c d (by decide) ⟨.str ⟨#[z.cps[i]]⟩,H,I1,⟨_,rfl⟩,⟨rfl,z.cps[i],by simp[hgi],rfl⟩,st',fun b hb=>(hf b hb).1⟩⟩
 done:=by
  intro X hP hw hK hc i pins s zzs H E I hf st hg;subst hP hw hK;obtain⟨f0,f1,f2,f3,f4,f5⟩:=hf it (by simp);have hgi:z.cps.size<=i:=hg;exact wpAny_pyNext_wide_end (I.ok.hd hc) st (by simp[hgi]) fun h' eb=>⟨rfl,I.turned (t':=s.toks) (fun b o hb e=>eb b o hb e) f0 f1 f3 f4 f5⟩
 self:=fun _ _ _ _ _ st h=>wpAny_pyIter_striter_wide st h
section
variable{X:Cx}{tg:Expr}
def a1k(te:TE):TI:=fun zzs H R=>te zzs H fun x H1=>∃ z,x=.str z/\R (Its z) H1
theorem a0g{l:Expr}{te:TE}(hl:PE X l te):PI X tg l (a1k te):=by
 intro pins s zzs H R I h;refine thn (hl pins s zzs H _ I h) fun v s1 ⟨x,H1,I1,r1,q1⟩=>?_
 obtain⟨z,e,q⟩:=q1;subst e;obtain⟨t,rfl⟩:=r1;have fp:∀ b∈[s1.heap.objs.size],sY X pins H1 b:=fun b hb=>by
  have e:b=s1.heap.objs.size:=by simpa using hb
  subst e;exact I1.Rm (bR _) (I1.hok.fresh (bR _))
 cases ha:z.cps.all (·<128)
 ·exact wpAny_pyIter_wide ha ⟨s1.heap.objs.size,[s1.heap.objs.size],_,_,H1,rfl,I1.kept (t':=s1.toks) fun b o e=>dG _ e,Qt z t _,⟨_,jc _ rfl,rfl,rfl⟩,fp,q⟩
 ·exact wpAny_pyIter_ascii ha ⟨s1.heap.objs.size,[s1.heap.objs.size],_,_,H1,rfl,I1.kept (t':=s1.toks) fun b o e=>dG _ e,Qs z t _,⟨_,jc _ rfl,rfl,rfl⟩,fp,q⟩
def a0t(z:Str)(n:Int):Str:=if n<1 then Str.empty else if(n==1||z.length==0)=true then z else⟨(List.replicate n.toNat z.cps).foldl (·++·) #[]⟩
theorem JD:OpR X (binaryOp .Mult) (fun x y H Q=>∃ z n,x=.str z/\y=.int n/\z.length<=1000 /\ -1000<=n/\n<=1000/\Q (.str (a0t z n)) H):=by
 intro pins s zzs H x y v u Q I rx ry h;obtain⟨z,n,rfl,rfl,hz,h1,h2,q⟩:=h;obtain⟨t,rfl⟩:=rx;obtain⟨t',rfl⟩:=ry;refine P.mul_str (by rw[bZ (by lia),bZ (by lia)];rfl) (fun hn _=>?_) (fun hn _=>?_) ?_
 ·have:(1000:Int)<=(2^63-1) / n:=by
   rw[Int.le_ediv_iff_mul_le (by lia)];lia
  lia
 ·have:z.length*n.toNat<=1000*1000:=lX hz (by lia);show decide (z.length*n.toNat>sizeLine)=false;rw[mD];exact bZ (by lia)
 ·unfold a0t at q;by_cases h3:n<1
  ·rw[aK h3] at q ⊢;exact⟨by decide,⟨.str _,H,I.tok _,⟨_,rfl⟩,q⟩⟩
  ·rw[aG h3] at q ⊢;by_cases h4:(n==1||z.length==0)=true
   ·rw[aK h4] at q ⊢;exact⟨.str _,H,I,⟨_,rfl⟩,q⟩
   ·rw[aG h4] at q ⊢;refine⟨?_,⟨.str _,H,I.tok _,⟨_,rfl⟩,q⟩⟩;have e:∀(k:Nat)(acc:Array Nat),((List.replicate k z.cps).foldl (·++·) acc).size=acc.size+k*z.cps.size:=by
     intro k
     induction k with
     |zero=>intro acc;simp
     |succ k ih=>
      intro acc;rw[wZ,xH,ih,Array.size_append,Nat.add_mul,Nat.one_mul];lia
    have e2:=e n.toNat #[];have hz':z.cps.size<=1000:=hz;have:n.toNat*z.cps.size<=1000*1000:=lX (by lia) hz';show((List.replicate n.toNat z.cps).foldl (·++·) #[]).size<=sizeLine;rw[e2,mD];simp only[cD,wu];lia
theorem QL(hc:X.calm=true):fj X (.builtin "all") (fun xs H Q=>∃(p:Addr)(bs:List Bool),xs=[.ref p]/\SqL X.K H p (bs.map V.bl)/\Q (.bl (bs.all id)) H):=by
 intro pins s zzs H xs us Q I r h;obtain⟨p,bs,rfl,hq,q⟩:=h;obtain⟨u,rfl,ru⟩:=vals1 r
 cases ru
 obtain⟨its,rv,pl,hz⟩:=I.list hq;have hl:its.length=bs.length:=by have:=rv.length;simpa using this.symm
 have item:∀(i:Nat)(v:Value),its[i]?=some v->v=.bool (bs.getD i true):=fun i v e=>by
  have hi:i<bs.length:=by rw[<- hl];exact(j9.mp e).1
  have hx:(bs.map V.bl)[i]?=some (V.bl bs[i]):=by simp[hi]
  obtain⟨w',e',rw'⟩:=rv.get hx;rw[e] at e';cases e';have:bs.getD i true=bs[i]:=by simp[dX,hi]
  rw[this];exact rw'
 have hne:p≠s.heap.objs.size:=fun z=>by
  obtain⟨o,n,e,_⟩:=pl;exact qu _ (z▸bL e)
 refine call_all_walk (wpAny_pyIter_list pl.isList ?_);refine⟨s.heap.objs.size,[s.heap.objs.size,p],[s.heap.objs.size],its.toArray.size,fun i v=>its.toArray[i]?=some v,fun i h=>h.IsListIter s.heap.objs.size p i/\h.IsList p its.toArray,fun i=>bs.getD i true,rfl,
  Walks.list (A:=X.A.in1) (I.ok.hd hc) _ p hne its.toArray,⟨⟨_,jc _ rfl,rfl,rfl⟩,pl.isList.at fun o e=>dG _ e⟩,fun i v s' Q' E' hP hQ=>?_,fun h' tk kk=>?_⟩
 ·have:=item i v (by simpa using hP);subst this;exact uF hQ
 ·have hb:(List.range its.toArray.size).all (fun i=>bs.getD i true)=bs.all id:=by
   rw[cD,hl];apply sG.mpr;simp only[uI,dH,id]
   constructor
   ·intro h x hx;obtain⟨i,hi,rfl⟩:=List.getElem_of_mem hx;have:=h i hi;simpa [dX,hi] using this
   ·intro h i hi;have:=h bs[i] (n8 hi);simpa [dX,hi] using this
  rw[hb];have I1:Inv X pins zzs H { s with heap:=h',toks:=tk }:=I.kept fun b o e=>kk b o (fun z=>by
   have z':b=s.heap.objs.size:=by simpa using z
   exact qu _ (z'▸bL e)) (dG _ e)
  exact⟨.bl _,H,I1,rfl,q⟩
end
end L2
namespace L2
open PySem PySem.Spec PyProof.Rows PySem.SeqAt
inductive Dt where
 |non|bl (b:Bool)|int (i:Int)|str (x:Str)|tup (ds:List Dt)|lst (ds:List Dt)
mutual
inductive Den(K:ao)(H:Hp):V->Dt->Prop
 |non:Den K H .non .non
 |bl (b:Bool):Den K H (.bl b) (.bl b)
 |int (i:Int):Den K H (.int i) (.int i)
 |str (x:Str):Den K H (.str x) (.str x)
 |tup {a:Addr} {xs:List V} {ds:List Dt} (h:H a=some (.tup xs)) (hs:aN K H xs ds):Den K H (.ref a) (.tup ds)
 |lst {a:Addr} {xs:List V} {ds:List Dt} (h:SqL K H a xs) (hs:aN K H xs ds):Den K H (.ref a) (.lst ds)
inductive aN(K:ao)(H:Hp):List V->List Dt->Prop
 |nil:aN K H [] []
 |cons {x:V} {d:Dt} {xs:List V} {ds:List Dt} (h:Den K H x d) (t:aN K H xs ds):aN K H (x::xs) (d::ds)
end
def jP:Dt->Option V
 |.non=>some .non
 |.bl b=>some (.bl b)
 |.int i=>some (.int i)
 |.str x=>some (.str x)
 |_=>none
mutual
def eqD:Dt->Dt->Bool
 |.tup a,.tup b=>tL a b
 |.lst a,.lst b=>tL a b
 |.non,e=>match jP e with|some y=>eqV .non y|none=>false
 |.bl x,e=>match jP e with|some y=>eqV (.bl x) y|none=>false
 |.int x,e=>match jP e with|some y=>eqV (.int x) y|none=>false
 |.str x,e=>match jP e with|some y=>eqV (.str x) y|none=>false
 |.tup _,_=>false
 |.lst _,_=>false
def tL:List Dt->List Dt->Bool
 |[],[]=>true
 |a::as,b::bs=>eqD a b&&tL as bs
 |[],_::_=>false
 |_::_,[]=>false
end
def Zw:Dt->Dt->Bool
 |.tup _,e=>(jP e).isSome
 |_,_=>false
mutual
def shD:Dt->Dt->Bool
 |.tup a,.tup b=>vU a b
 |.lst a,.lst b=>vU a b
 |.non,e=>(jP e).isSome
 |.bl _,e=>(jP e).isSome
 |.int _,e=>(jP e).isSome
 |.str _,e=>(jP e).isSome
 |.tup _,_=>false
 |.lst _,_=>false
def vU:List Dt->List Dt->Bool
 |a::as,b::bs=>(shD a b||Zw a b)&&vU as bs
 |_,_=>true
end
mutual
def tG:Dt->Nat
 |.tup a=>wJ a+1
 |.lst a=>wJ a+1
 |_=>0
def wJ:List Dt->Nat
 |[]=>0
 |a::as=>max (tG a) (wJ as)
end
theorem aN.length{K:ao}{H:Hp}:∀ {xs:List V} {ds:List Dt},aN K H xs ds->xs.length=ds.length
 |_,_,.nil=>rfl
 |_,_,.cons _ t=>by rw[fO,fO,t.length]
theorem aN.get{K:ao}{H:Hp}:∀ {xs:List V} {ds:List Dt} {i:Nat} {x:V},aN K H xs ds->xs[i]?=some x->∃ d,ds[i]?=some d/\Den K H x d
 |_,_,_,_,.nil,e=>by simp at e
 |_,_,0,_,.cons h _,e=>by simp at e;subst e;exact⟨_,rfl,h⟩
 |_,_,i+1,x,.cons _ t,e=>by
  obtain⟨d,h1,h2⟩:=aN.get (i:=i) (x:=x) t (by simpa using e);exact⟨d,by simpa using h1,h2⟩
theorem aN.get'{K:ao}{H:Hp}:∀ {xs:List V} {ds:List Dt} {i:Nat} {d:Dt},aN K H xs ds->ds[i]?=some d->∃ x,xs[i]?=some x/\Den K H x d
 |_,_,_,_,.nil,e=>by simp at e
 |_,_,0,_,.cons h _,e=>by simp at e;subst e;exact⟨_,rfl,h⟩
 |_,_,i+1,d,.cons _ t,e=>by
  obtain⟨x,h1,h2⟩:=aN.get' (i:=i) (d:=d) t (by simpa using e);exact⟨x,by simpa using h1,h2⟩
theorem aN.append{K:ao}{H:Hp}:∀ {xs ys:List V} {ds es:List Dt},aN K H xs ds->aN K H ys es->aN K H (xs++ys) (ds++es)
 |_,_,_,_,.nil,s=>s
 |_,_,_,_,.cons h t,s=>.cons h (t.append s)
theorem qC:∀ {ds:List Dt} {d:Dt},d∈ds->tG d<=wJ ds
 |a::as,d,h=>by
  unfold wJ;rcases cL.mp h with e|e
  ·rw[e];exact Nat.le_max_left _ _
  ·exact cP (qC e) (Nat.le_max_right _ _)
theorem uq:∀ {as bs:List Dt} {i:Nat} {a b:Dt},vU as bs=true->as[i]?=some a->bs[i]?=some b->shD a b=true\/Zw a b=true
 |x::as,y::bs,0,a,b,h,e1,e2=>by
  simp at e1 e2;subst e1;subst e2;unfold vU at h;simp only[oR,Bool.or_eq_true] at h;exact h.1
 |x::as,y::bs,i+1,a,b,h,e1,e2=>by
  unfold vU at h;simp only[oR] at h;exact uq (i:=i) h.2 (by simpa using e1) (by simpa using e2)
 |[],_,_,_,_,_,e1,_=>by simp at e1
 |_::_,[],_,_,_,_,_,e2=>by simp at e2
def atD(as bs:List Dt)(j:Nat):Bool:=eqD (as.getD j .non) (bs.getD j .non)
theorem z8(n:Nat)(p:Nat->Bool):(List.range (n+1)).all p=(p 0&&(List.range n).all fun j=>p (j+1)):=by
 rw[List.range_succ_eq_map,Af,Lh]
 rfl
theorem tM:∀ {as bs:List Dt},as.length=bs.length->(List.range as.length).all (atD as bs)=tL as bs
 |[],[],_=>rfl
 |a::as,b::bs,h=>by
  have ih:=@tM as bs (by simpa using h);rw[fO,z8];unfold tL;rw[<- ih]
  rfl
 |[],_::_,h=>by simp at h
 |_::_,[],h=>by simp at h
theorem tO:∀ {as bs:List Dt},as.length≠bs.length->tL as bs=false
 |[],[],h=>absurd rfl h
 |a::as,b::bs,h=>by
  unfold tL;rw[tO (as:=as) (bs:=bs) (fun z=>h (by rw[fO,fO,z])),Ae]
 |[],_::_,_=>rfl
 |_::_,[],_=>rfl
theorem Gy:∀ {as bs:List Dt},((List.range (min as.length bs.length)).all (atD as bs)&&as.length==bs.length)=tL as bs:=by
 intro as bs;by_cases h:as.length=bs.length
 ·rw[<- h,Nat.min_self,tM h];simp
 ·rw[tO h];simp[h]
theorem yO:∀ {x:V},M8 x=true->eqV x x=true
 |.non,_=>rfl
 |.bl b,_=>by simp[eqV]
 |.int i,_=>by simp[eqV]
 |.str x,_=>by simp[eqV]
mutual
theorem tK:∀ d:Dt,eqD d d=true
 |.non=>rfl
 |.bl b=>by show eqV (.bl b) (.bl b)=true;exact yO rfl
 |.int i=>by show eqV (.int i) (.int i)=true;exact yO rfl
 |.str x=>by show eqV (.str x) (.str x)=true;exact yO rfl
 |.tup ds=>by unfold eqD;exact vh ds
 |.lst ds=>by unfold eqD;exact vh ds
theorem vh:∀ ds:List Dt,tL ds ds=true
 |[]=>rfl
 |a::as=>by unfold tL;rw[tK a,vh as];rfl
end
mutual
theorem HY:∀ d:Dt,shD d d=true
 |.non=>rfl
 |.bl _=>rfl
 |.int _=>rfl
 |.str _=>rfl
 |.tup ds=>by unfold shD;exact vV ds
 |.lst ds=>by unfold shD;exact vV ds
theorem vV:∀ ds:List Dt,vU ds ds=true
 |[]=>rfl
 |a::as=>by unfold vU;rw[HY a,vV as,Bool.true_or];rfl
end
theorem Mv{X:Cx}{pins:List (Addr×Obj)}{zzs:St}{H:Hp}{s:Shared}{a:Addr}{xs ys:List V}(I:Inv X pins zzs H s)(h:SqT X.K H a xs)(h':SqL X.K H a ys):False:=by
 obtain⟨_,_,⟨o,e,c,_⟩,_⟩:=I.tuple h;obtain⟨_,_,⟨o',_,e',c',_⟩,_⟩:=I.list h';rw[e] at e';cases e';rw[c] at c';exact absurd c' (by decide)
mutual
theorem Den.inj{X:Cx}{pins:List (Addr×Obj)}{zzs:St}{H:Hp}{s:Shared}(I:Inv X pins zzs H s):∀ {d:Dt} {e:Dt} {x:V},Den X.K H x d->Den X.K H x e->d=e
 |.tup ds,_,_,.tup h hs,he=>by
  cases he with
  |tup h' hs'=>
   have e:=I.Qo (SqT.of h) (SqT.of h');subst e;rw[aN.inj I hs hs']
  |lst h' hs'=>exact(Mv I (SqT.of h) h').elim
 |.lst ds,_,_,.lst h hs,he=>by
  cases he with
  |lst h' hs'=>
   have e:=I.GK h h';subst e;rw[aN.inj I hs hs']
  |tup h' hs'=>exact(Mv I (SqT.of h') h).elim
 |.non,_,_,.non,he=>by cases he;rfl
 |.bl _,_,_,.bl _,he=>by cases he;rfl
 |.int _,_,_,.int _,he=>by cases he;rfl
 |.str _,_,_,.str _,he=>by cases he;rfl
theorem aN.inj{X:Cx}{pins:List (Addr×Obj)}{zzs:St}{H:Hp}{s:Shared}(I:Inv X pins zzs H s):∀ {ds es:List Dt} {xs:List V},aN X.K H xs ds->aN X.K H xs es->ds=es
 |[],_,_,.nil,he=>by cases he;rfl
 |d::ds,_,_,.cons h t,he=>by
  cases he with
  |cons h' t'=>rw[Den.inj I h h',aN.inj I t t']
end
theorem aN.getD{K:ao}{H:Hp}{xs:List V}{ds:List Dt}{us:List Value}{j:Nat}(D:aN K H xs ds)(r:Vals xs us)(h:j<us.length):∃ x,RelV x us[j]/\Den K H x (ds.getD j .non)/\ds[j]?=some (ds.getD j .non):=by
 have hl:=r.length;have hx:xs[j]?=some xs[j]:=by simp[hl,h]
 obtain⟨u,hu,ru⟩:=r.get hx;obtain⟨d,hd,dd⟩:=D.get hx;have eu:us[j]=u:=by
  rw[ig h] at hu;exact gO hu
 have ed:ds.getD j .non=d:=by rw[dX,hd];rfl
 rw[eu,ed];exact⟨_,ru,dd,hd⟩
theorem Den.flat{K:ao}{H:Hp}{x:V}{d:Dt}{y:V}(h:Den K H x d)(e:jP d=some y):x=y/\M8 x=true:=by
 cases h with
 |non=>cases e;exact⟨rfl,rfl⟩
 |bl b=>cases e;exact⟨rfl,rfl⟩
 |int i=>cases e;exact⟨rfl,rfl⟩
 |str z=>cases e;exact⟨rfl,rfl⟩
 |tup _ _=>cases e
 |lst _ _=>cases e
theorem tH{d e:Dt}{x y:V}(h1:jP d=some x)(h2:jP e=some y):eqD d e=eqV x y:=by
 cases d<;>first
  |(cases h1;simp only[eqD,h2])
  |cases h1
theorem HX{d e:Dt}{x:V}(h1:jP d=some x)(h:shD d e=true):∃ y,jP e=some y:=by
 cases d<;>first
  |(cases h1;unfold shD at h;exact V2.mp h)
  |cases h1
theorem yN{X:Cx}{pins:List (Addr×Obj)}{zzs:St}{H:Hp}{s:Shared}(I:Inv X pins zzs H s){d e:Dt}{x y:V}{u v:Value}{A:Around}(hu:A.units<cLine)(hx:Den X.K H x d)(hy:Den X.K H y e)(rx:RelV x u)(ry:RelV y v)(mx:Zw d e=true):EqAt A s u v (eqD d e):=by
 cases hx with
 |@tup a xs ds h hs=>
  cases rx
  obtain⟨us,r,ht,_⟩:=I.tuple (SqT.of h)
  cases hy with
  |non=>cases ry;exact EqAt.tuple_none ht hu
  |bl b=>cases ry;exact EqAt.tuple_bool b ht hu
  |int i=>obtain⟨t,rfl⟩:=ry;exact EqAt.tuple_int i t ht hu
  |str z=>obtain⟨t,rfl⟩:=ry;exact EqAt.tuple_str z t ht hu
  |tup _ _=>cases mx
  |lst _ _=>cases mx
 |_=>cases mx
theorem Gw{X:Cx}{pins:List (Addr×Obj)}{zzs:St}{H:Hp}{s:Shared}(I:Inv X pins zzs H s):∀(n:Nat){d e:Dt}{x y:V}{u v:Value}{A:Around},tG d<=n->A.units+n<cLine->Den X.K H x d->Den X.K H y e->RelV x u->RelV y v->shD d e=true->EqAt A s u v (eqD d e):=by
 intro n
 induction n with
 |zero=>
  intro d e x y u v A hn hu hx hy rx ry sh
  cases fd:jP d with
  |some x'=>
   obtain⟨y',fe⟩:=HX fd sh;obtain⟨rfl,f1⟩:=hx.flat fd;obtain⟨rfl,f2⟩:=hy.flat fe;rw[tH fd fe];exact Rc rx ry f1 f2
  |none=>
   cases d with
   |tup ds=>unfold tG at hn;exact absurd hn (by lia)
   |lst ds=>unfold tG at hn;exact absurd hn (by lia)
   |_=>cases fd
 |succ n ih=>
  intro d e x y u v A hn hu hx hy rx ry sh
  cases fd:jP d with
  |some x'=>
   obtain⟨y',fe⟩:=HX fd sh;obtain⟨rfl,f1⟩:=hx.flat fd;obtain⟨rfl,f2⟩:=hy.flat fe;rw[tH fd fe];exact Rc rx ry f1 f2
  |none=>
   cases d with
   |tup ds=>
    cases e with
    |tup es=>
     cases hx with
     |@tup a xs _ h hs=>
      cases hy with
      |@tup b ys _ h' hs'=>
       cases rx
       cases ry
       by_cases hab:a=b
       ·subst hab;have e:=Den.inj I (.tup h hs) (.tup h' hs');rw[e,tK];exact EqAt.same _
       ·obtain⟨us,r,ht,_⟩:=I.tuple (SqT.of h);obtain⟨ws,r',ht',_⟩:=I.tuple (SqT.of h');have sh':vU ds es=true:=by unfold shD at sh;exact sh
        rw[show eqD (.tup ds) (.tup es)=tL ds es from by unfold eqD;rfl];rw[<- Gy];have l1:us.toArray.size=ds.length:=by rw[cD,<- r.length,hs.length]
        have l2:ws.toArray.size=es.length:=by rw[cD,<- r'.length,hs'.length]
        rw[<- l1,<- l2];refine Fy hab (RcAt.tuples ht ht' (by lia) fun j h1 h2=>?_);obtain⟨p,rp,dp,ep⟩:=hs.getD r (j:=j) (by simpa using h1);obtain⟨q,rq,dq,eq⟩:=hs'.getD r' (j:=j) (by simpa using h2);unfold tG at hn;have hd:=qC (fB ep);exact(uq sh' ep eq).elim (fun z=>ih (A:=A.in1) (by lia) (by show A.units+1+n<cLine;lia) dp dq (by simpa using rp) (by simpa using rq) z) (fun z=>yN (A:=A.in1) I (by show A.units+1<cLine;lia) dp dq (by simpa using rp) (by simpa using rq) z)
    |_=>unfold shD at sh;cases sh
   |lst ds=>
    cases e with
    |lst es=>
     cases hx with
     |@lst a xs _ h hs=>
      cases hy with
      |@lst b ys _ h' hs'=>
       cases rx
       cases ry
       by_cases hab:a=b
       ·subst hab;have e:=Den.inj I (.lst h hs) (.lst h' hs');rw[e,tK];exact EqAt.same _
       ·obtain⟨us,r,ht,_⟩:=I.list h;obtain⟨ws,r',ht',_⟩:=I.list h';have sh':vU ds es=true:=by unfold shD at sh;exact sh
        rw[show eqD (.lst ds) (.lst es)=tL ds es from by unfold eqD;rfl];have l1:us.toArray.size=ds.length:=by rw[cD,<- r.length,hs.length]
        have l2:ws.toArray.size=es.length:=by rw[cD,<- r'.length,hs'.length]
        by_cases hl:ds.length=es.length
        ·rw[<- tM hl,<- l1];refine Fy hab (RcAt.lists ht.isList ht'.isList (by rw[l1,l2];exact hl) (by lia) fun j h1 h2=>?_);obtain⟨p,rp,dp,ep⟩:=hs.getD r (j:=j) (by simpa using h1);obtain⟨q,rq,dq,eq⟩:=hs'.getD r' (j:=j) (by simpa using h2);unfold tG at hn;have hd:=qC (fB ep);exact(uq sh' ep eq).elim (fun z=>ih (A:=A.in1) (by lia) (by show A.units+1+n<cLine;lia) dp dq (by simpa using rp) (by simpa using rq) z) (fun z=>yN (A:=A.in1) I (by show A.units+1<cLine;lia) dp dq (by simpa using rp) (by simpa using rq) z)
        ·rw[tO hl];exact Fy hab (RcAt.lists_lengths ht.isList ht'.isList (by rw[l1,l2];simpa using hl) (by lia))
    |_=>unfold shD at sh;cases sh
   |_=>cases fd
section
variable{X:Cx}{pins:List (Addr×Obj)}{zzs:St}{H:Hp}{s:Shared}
def a0A:Dt->Option (List Dt)
 |.tup ds=>some ds
 |.lst ds=>some ds
 |_=>none
theorem qG{n:Nat}{A:Around}(I:Inv X pins zzs H s){xs ys:List V}{ds es:List Dt}{us ws:List Value}(hn:wJ ds<=n)(hu:A.units+(n+1)<cLine)(hs:aN X.K H xs ds)(hs':aN X.K H ys es)(r:Vals xs us)(r':Vals ys ws)
  (sh:vU ds es=true) (j:Nat) (h1:j<us.toArray.size) (h2:j<ws.toArray.size):EqAt A.in1 s us.toArray[j] ws.toArray[j] (atD ds es j):=by
 obtain⟨p,rp,dp,ep⟩:=hs.getD r (j:=j) (by simpa using h1);obtain⟨q,rq,dq,eq⟩:=hs'.getD r' (j:=j) (by simpa using h2);have hd:=qC (fB ep);exact(uq sh ep eq).elim (fun z=>Gw I n (A:=A.in1) (by lia) (by show A.units+1+n<cLine;lia) dp dq (by simpa using rp) (by simpa using rq) z) (fun z=>yN (A:=A.in1) I (by show A.units+1<cLine;lia) dp dq (by simpa using rp) (by simpa using rq) z)
theorem HB{A:Around}(I:Inv X pins zzs H s){d e:Dt}{a b:Addr}(hq:(a0A d).isSome=true)(hu:A.units+60<cLine)(hn:tG d<=50)(hx:Den X.K H (.ref a) d)(hy:Den X.K H (.ref b) e)(sh:shD d e=true):RcAt A s (.ref a) (.ref b) (eqD d e)/\RcNeAt A s (.ref a) (.ref b) (!eqD d e):=by
 cases d with
 |tup ds=>
  cases e with
  |tup es=>
   cases hx with
   |tup h hs=>
    cases hy with
    |tup h' hs'=>
     obtain⟨us,r,ht,_⟩:=I.tuple (SqT.of h);obtain⟨ws,r',ht',_⟩:=I.tuple (SqT.of h');have sh':vU ds es=true:=by unfold shD at sh;exact sh
     have hn':wJ ds<=49:=by unfold tG at hn;lia
     rw[show eqD (.tup ds) (.tup es)=tL ds es from by unfold eqD;rfl,<- Gy];have l1:us.toArray.size=ds.length:=by rw[cD,<- r.length,hs.length]
     have l2:ws.toArray.size=es.length:=by rw[cD,<- r'.length,hs'.length]
     rw[<- l1,<- l2];exact⟨RcAt.tuples ht ht' (by lia) (qG I hn' (by lia) hs hs' r r' sh'),RcNeAt.tuples ht ht' (by lia) (qG I hn' (by lia) hs hs' r r' sh')⟩
  |_=>unfold shD at sh;cases sh
 |lst ds=>
  cases e with
  |lst es=>
   cases hx with
   |lst h hs=>
    cases hy with
    |lst h' hs'=>
     obtain⟨us,r,ht,_⟩:=I.list h;obtain⟨ws,r',ht',_⟩:=I.list h';have sh':vU ds es=true:=by unfold shD at sh;exact sh
     have hn':wJ ds<=49:=by unfold tG at hn;lia
     rw[show eqD (.lst ds) (.lst es)=tL ds es from by unfold eqD;rfl];have l1:us.toArray.size=ds.length:=by rw[cD,<- r.length,hs.length]
     have l2:ws.toArray.size=es.length:=by rw[cD,<- r'.length,hs'.length]
     by_cases hl:ds.length=es.length
     ·rw[<- tM hl,<- l1];exact⟨RcAt.lists ht.isList ht'.isList (by rw[l1,l2];exact hl) (by lia) (qG I hn' (by lia) hs hs' r r' sh'),RcNeAt.lists ht.isList ht'.isList (by rw[l1,l2];exact hl) (by lia) (qG I hn' (by lia) hs hs' r r' sh')⟩
     ·rw[tO hl];exact⟨RcAt.lists_lengths ht.isList ht'.isList (by rw[l1,l2];simpa using hl) (by lia),RcNeAt.lists_lengths ht.isList ht'.isList (by rw[l1,l2];simpa using hl) (by lia)⟩
  |_=>unfold shD at sh;cases sh
 |_=>cases hq
def Td(K:ao)(neg:Bool):R2:=fun x y H Q=>∃ d e,(a0A d).isSome=true/\Den K H x d/\Den K H y e/\shD d e=true/\tG d<=50/\Q (.bl (if neg then !eqD d e else eqD d e)) H
theorem Den.Tr{K:ao}{x:V}{d e:Dt}{y:V}(hq:(a0A d).isSome=true)(hx:Den K H x d)(hy:Den K H y e)(sh:shD d e=true):∃ a b,x=.ref a/\y=.ref b:=by
 cases hx with
 |@tup a _ _ _ _=>
  cases hy with
  |@tup b _ _ _ _=>exact⟨a,b,rfl,rfl⟩
  |_=>unfold shD at sh;cases sh
 |@lst a _ _ _ _=>
  cases hy with
  |@lst b _ _ _ _=>exact⟨a,b,rfl,rfl⟩
  |_=>unfold shD at sh;cases sh
 |_=>cases hq
theorem ZQ(hu:X.A.units+60<cLine):OpR X (compareOp .Eq) (Td X.K false):=by
 intro pins s zzs H x y v u Q I rx ry h;obtain⟨d,e,hq,hx,hy,sh,hn,q⟩:=h;obtain⟨a,b,rfl,rfl⟩:=Den.Tr hq hx hy sh
 cases rx
 cases ry
 exact(HB I hq hu hn hx hy sh).1 _ _ _ _ ⟨.bl _,H,I,rfl,q⟩
theorem ZW(hu:X.A.units+60<cLine):OpR X (compareOp .NotEq) (Td X.K true):=by
 intro pins s zzs H x y v u Q I rx ry h;obtain⟨d,e,hq,hx,hy,sh,hn,q⟩:=h;obtain⟨a,b,rfl,rfl⟩:=Den.Tr hq hx hy sh
 cases rx
 cases ry
 exact(HB I hq hu hn hx hy sh).2 _ _ _ _ ⟨.bl _,H,I,rfl,q⟩
def Qe(K:ao)(neg:Bool):R2:=fun x y H Q=>∃ d es p,y=.ref p/\Den K H x d/\(Den K H y (.lst es)\/Den K H y (.tup es))/\(∀ e∈es,shD e d=true/\tG e<=50)/\Q (.bl (if neg then !(es.any fun e=>eqD e d) else es.any fun e=>eqD e d)) H
theorem Lq{K:ao}{d:Dt}{P:Value->Bool}:∀ {xs:List V} {es:List Dt} {us:List Value},aN K H xs es->Vals xs us->(∀(j:Nat)(u:Value)(e:Dt),us[j]?=some u->es[j]?=some e->P u=eqD e d)->us.any P=es.any fun e=>eqD e d
 |_,_,_,.nil,.nil,_=>rfl
 |_,_,_,.cons _ t,.cons _ r,h=>by
  rw[wC,wC,h 0 _ _ rfl rfl,Lq t r fun j u e h1 h2=>h (j+1) u e (by simpa using h1) (by simpa using h2)]
open Classical in
theorem DG(I:Inv X pins zzs H s){x:V}{v:Value}{d:Dt}{ys:List V}{es:List Dt}{us:List Value}{A:Around}(hu:A.units+60<cLine)(rx:RelV x v)(hx:Den X.K H x d)(hs:aN X.K H ys es)(r:Vals ys us)(hsh:∀ e∈es,shD e d=true/\tG e<=50) :
  ∃ P:Value->Bool,(∀ u∈us,EqAt A s u v (P u))/\us.any P=es.any fun e=>eqD e d:=by
 have key:∀(j:Nat)(u:Value)(e:Dt),us[j]?=some u->es[j]?=some e->EqAt A s u v (eqD e d)/\∃ y,RelV y u/\Den X.K H y e:=fun j u e h1 h2=>by
  obtain⟨y,h3,dy⟩:=hs.get' h2;obtain⟨u',h4,ry⟩:=r.get h3;rw[h1] at h4;cases h4;obtain⟨a1,a2⟩:=hsh e (fB h2);exact⟨Gw I 50 a2 (by lia) dy hx ry rx a1,y,ry,dy⟩
 have one:∀(j:Nat)(u:Value)(e:Dt),us[j]?=some u->es[j]?=some e->decide (∃ y e,RelV y u/\Den X.K H y e/\eqD e d=true)=eqD e d:=fun j u e h1 h2=>by
  obtain⟨_,y,ry,dy⟩:=key j u e h1 h2
  cases q:eqD e d with
  |true=>exact bN ⟨y,_,ry,dy,q⟩
  |false=>
   refine bZ fun⟨y',e',ry',dy',q'⟩=>?_
   have ey:=ry.inj ry';subst ey;rw[Den.inj I dy' dy,q] at q'
   cases q'
 refine⟨fun u=>decide (∃ y e,RelV y u/\Den X.K H y e/\eqD e d=true),fun u hu'=>?_,Lq hs r one⟩;obtain⟨j,hj⟩:=zT hu';have hl:j<es.length:=by rw[<- hs.length,r.length];exact(j9.mp hj).1
 have e1:=(key j u es[j] hj (by simp[hl])).1;show EqAt A s u v (decide _);rw[one j u es[j] hj (by simp[hl])];exact e1
theorem ZS(hu:X.A.units+61<cLine):OpR X (compareOp .In) (Qe X.K false):=by
 intro pins s zzs H x y v u Q I rx ry h;obtain⟨d,es,p,rfl,hx,hy,hsh,q⟩:=h
 cases ry
 rcases hy with hy|hy
 ·cases hy with
  |lst h' hs=>
   obtain⟨us,r,ht,_⟩:=I.list h';obtain⟨P,hP,e⟩:=DG (A:=X.A.in1) I (by show X.A.units+1+60<cLine;omega) rx hx hs r hsh;exact in_listAt P ht.isList (fun z hz=>hP z (by simpa using hz)) ⟨.bl _,H,I,by rw[<- e];simp<;>rfl,q⟩
 ·cases hy with
  |tup h' hs=>
   obtain⟨us,r,ht,_⟩:=I.tuple (SqT.of h');obtain⟨P,hP,e⟩:=DG (A:=X.A.in1) I (by show X.A.units+1+60<cLine;omega) rx hx hs r hsh;exact in_tupleAt P ht (fun z hz=>hP z (by simpa using hz)) ⟨.bl _,H,I,by rw[<- e];simp<;>rfl,q⟩
theorem PN(hu:X.A.units+61<cLine):OpR X (compareOp .NotIn) (Qe X.K true):=by
 intro pins s zzs H x y v u Q I rx ry h;obtain⟨d,es,p,rfl,hx,hy,hsh,q⟩:=h
 cases ry
 rcases hy with hy|hy
 ·cases hy with
  |lst h' hs=>
   obtain⟨us,r,ht,_⟩:=I.list h';obtain⟨P,hP,e⟩:=DG (A:=X.A.in1) I (by show X.A.units+1+60<cLine;omega) rx hx hs r hsh;exact notIn_listAt P ht.isList (fun z hz=>hP z (by simpa using hz)) ⟨.bl _,H,I,by rw[<- e];simp<;>rfl,q⟩
 ·cases hy with
  |tup h' hs=>
   obtain⟨us,r,ht,_⟩:=I.tuple (SqT.of h');obtain⟨P,hP,e⟩:=DG (A:=X.A.in1) I (by show X.A.units+1+60<cLine;omega) rx hx hs r hsh;exact notIn_tupleAt P ht (fun z hz=>hP z (by simpa using hz)) ⟨.bl _,H,I,by rw[<- e];simp<;>rfl,q⟩
end
end L2
namespace L2
open PySem PySem.Spec PyProof.Rows
structure Df(P:Program)(w:World)(K:ao)(mg:Str->Option Value)(base:Heap)(k:Nat)(x:Str)(ps:List Str)(sp:Sp):Prop where
 ex:∃ f fd,cg P w K mg base (CXE P w) k f fd ps sp/\mg x=some (.ref f)/\PySem.W.keepIn K (.ref f)=true/\Binds K fd ps []
theorem aW{X:Cx}:Passes (CXE X.prog X.w) X E0:=by
 intro pins zzs H s e s' I h;obtain⟨ea,C,H',_,_,_,_,_,_,z⟩:=h;exact z.elim
section
variable{P:Program}{w:World}{K:ao}{mg:Str->Option Value}{base:Heap}
theorem Fun.okE{x qual:Str}{st:Stmt}{f:Addr}{fd:FuncData}{N ps:List Str}{k:Nat}{sp:Sp}(F:Fun K x qual st f fd)(S:aM N ps (aJ st))(len:∀ vs H Q E,sp vs H Q E->vs.length=ps.length)
  (hbody:∀(cdv:Value)(A:Around)(outer:List Env)(s:Shared)(H:Hp)(vs:List V)(Q:VK)(E:XK),fY k (A.deeper (envOfC qual (aJ st) s.heap.objs.size f cdv))->sp vs H Q E ->
   ∃ t,PSs (oU (CXE P w) P w K mg base N qual (aJ st) f cdv A outer s H E) (fG st) t/\t { nx:=fun _ H'=>Q .non H',rt:=Q } (start N vs) H):cg P w K mg base (CXE P w) (k+1) f fd ps sp:=by
 obtain⟨oc,od,kV,doc,pm,an,cdv,ct,osl,rfl,lk,hcd⟩:=F.ex;exact a1g lk hcd S len fun A outer s H vs Q E hr hsp=>hbody cdv A outer s H vs Q E hr hsp
theorem Fun.ok0{x qual:Str}{st:Stmt}{f:Addr}{fd:FuncData}{N ps:List Str}{k:Nat}{sp:Sp}(F:Fun K x qual st f fd)(S:aM N ps (aJ st))(len:∀ vs H Q E,sp vs H Q E->vs.length=ps.length)
  (hbody:∀(cdv:Value)(A:Around)(outer:List Env)(s:Shared)(H:Hp)(vs:List V)(Q:VK)(E:XK),fY k (A.deeper (envOfC qual (aJ st) s.heap.objs.size f cdv))->sp vs H Q E ->
   ∃ t,PSs (oU (CXE P w) P w K mg base N qual (aJ st) f cdv A outer s H E).nox (fG st) t/\t { nx:=fun _ H'=>Q .non H',rt:=Q } (start N vs) H):cg P w K mg base (CXE P w) (k+1) f fd ps sp:=
 F.okE S len fun cdv A outer s H vs Q E hr hsp=>let ⟨t,h,q⟩:=hbody cdv A outer s H vs Q E hr hsp;⟨t,h.nox,q⟩
end
theorem PS.nox{X:Cx}{st:Stmt}{t:TS}(h:PS X.nox st t):PS X st t:=fun pins s zzs H D I hw=>
 iM (h pins s zzs H D (I.wish _) hw) (fun _ _ q=>SP.jM q) fun _ _ z=>False.elim z
section
variable{X:Cx}{k j:Nat}{ps:List Str}{sp:Sp}{E:XK}{x:Str}{p pos:Pos}{e:Expr}{es:List Expr}{t:TA}
theorem a03(D:Df X.prog X.w X.K X.mg X.base k x ps sp)(hr:fY j X.A)(hg:Gl X x)(hx:Passes (CXE X.prog X.w) X E)(ha:PA X (e::es) t)(hk:k<=j:=by decide)
  (hdb:(x==("__debug__" : Str))=false:=by decide) (he:starEach (e::es) X.env=(false,eval e X.env)::starEach es X.env:=by rfl) (hpl:(backTo pos (starEach es X.env)).any (·.1)=false:=by rfl) :
  PE X (.Call (.Name x p) (e::es) [] pos) (Nx sp [] E t):=by
 obtain⟨f,fd,F,hm,kp,hb⟩:=D.ex;exact Wz F (hr.mono hk) hg hm kp hb .nil hx ha hdb he hpl
theorem WR(D:Df X.prog X.w X.K X.mg X.base k x ps sp)(hr:fY j X.A)(hg:Gl X x)(ha:PA X.nox (e::es) t)(hk:k<=j:=by decide)
  (hdb:(x==("__debug__" : Str))=false:=by decide) (he:starEach (e::es) X.env=(false,eval e X.env)::starEach es X.env:=by rfl) (hpl:(backTo pos (starEach es X.env)).any (·.1)=false:=by rfl) :
  PEX X (.Call (.Name x p) (e::es) [] pos) (Ek sp [] t):=by
 obtain⟨f,fd,F,hm,kp,hb⟩:=D.ex;exact SN F (hr.mono hk) hg hm kp hb .nil ha hdb he hpl
end
section
variable{X:Cx}{x:Str}{pos:Pos}
theorem WL{i:Int}(h:∃ t,X.mg x=some (.int i t))(hg:Gl X x) (hd:(x==("__debug__" : Str))=false:=by decide):PE X (.Name x pos) (tC (.int i)):=by
 obtain⟨t,h⟩:=h;exact MJ hg h ⟨t,rfl⟩ hd
theorem WM{z:Str}(h:∃ t,X.mg x=some (.str z t))(hg:Gl X x) (hd:(x==("__debug__" : Str))=false:=by decide):PE X (.Name x pos) (tC (.str z)):=by
 obtain⟨t,h⟩:=h;exact MJ hg h ⟨t,rfl⟩ hd
end
section
variable{X:Cx}
def Hv:R2:=fun x y H Q=>match x,y with
 |.int i,.int j=>Q (.int (i+j)) H
 |.str i,.str j=>i.length+j.length<=sizeLine/\Q (.str (i++j)) H
 |.ref l,.ref b=>∃ xs zs,H l=some (.lst xs)/\H b=some (.lst zs)/\xs.length+zs.length<=sizeLine/\∀ p,H p=none->Q (.ref p) (upd H p (.lst (xs++zs)))
 |_,_=>False
theorem c7:OpR X (binaryOp .Add) Hv:=by
 intro pins s zzs H x y v u Q I rx ry h;unfold Hv at h;split at h
 ·exact ZM pins s zzs H _ _ v u Q I rx ry ⟨_,_,rfl,rfl,h⟩
 ·exact JC pins s zzs H _ _ v u Q I rx ry ⟨_,_,rfl,rfl,h.1,h.2⟩
 ·obtain⟨xs,zs,h1,h2,h3,h4⟩:=h;exact ZP pins s zzs H _ _ v u Q I rx ry ⟨_,_,xs,zs,rfl,rfl,h1,h2,h3,h4⟩
 ·exact h.elim
def Yg:R2:=fun x y H Q=>match x,y with
 |.int i,.int j=>Vt i j/\Q (.int (i*j)) H
 |.str z,.int n=>z.length<=1000 /\ -1000<=n/\n<=1000/\Q (.str (a0t z n)) H
 |.ref l,.int k=>∃ xs,H l=some (.lst xs) /\ -(2^63)<=k/\k<2^63/\xs.length*k.toNat<=sizeLine/\∀ p,H p=none->Q (.ref p) (upd H p (.lst (List.replicate k.toNat xs).flatten))
 |_,_=>False
theorem iw:OpR X (binaryOp .Mult) Yg:=by
 intro pins s zzs H x y v u Q I rx ry h;unfold Yg at h;split at h
 ·exact ZV pins s zzs H _ _ v u Q I rx ry ⟨_,_,rfl,rfl,h.1,h.2⟩
 ·exact JD pins s zzs H _ _ v u Q I rx ry ⟨_,_,rfl,rfl,h.1,h.2.1,h.2.2.1,h.2.2.2⟩
 ·obtain⟨xs,h1,h2,h3,h4,h5⟩:=h;exact ZX pins s zzs H _ _ v u Q I rx ry ⟨_,_,xs,rfl,rfl,h1,h2,h3,h4,h5⟩
 ·exact h.elim
end
end L2
namespace L2
open PySem PySem.Spec PyProof.Rows
end L2
namespace L2
open PySem PySem.Spec PyProof.Rows
theorem Lz{J:It}{n:Nat}{item:Nat->V}{tc:TT}{te:TE}{zzs:St}{fin:List V->Hp->Prop}{H:Hp}(R:Nat->List V->Hp->Prop)(hn:n<=sizeLine)
  (hgo:∀ i ys H,i<n->R i ys H->J.go i H) (hy:∀ i ys H v H',i<n->R i ys H->J.yld i H v H'->v=item i/\H'=H) (hstop:∀ ys H,R n ys H->J.stop n H)
  (hl:∀ i ys H,i<=n->R i ys H->ys.length<=i) (h0:R 0 [] H)
  (hs:∀ i ys H,i<n->R i ys H->∀ G:List V->Hp->Prop,(∀ ys' H',R (i+1) ys' H'->G ys' H')->tc (some (item i)::zzs) H fun b H2=>if b=true then te (some (item i)::zzs) H2 fun y H3=>G (ys++[y]) H3 else G ys H2)
  (hd:∀ ys H,R n ys H->fin ys H):∃ W:Nat->Nat->List V->Hp->Prop,(∃ m,W 0 m [] H)/\oW J tc te zzs fin W:=by
 refine⟨fun i m ys H=>m=n-i/\i<=n/\R i ys H,⟨n,by lia,lF _,h0⟩,?_⟩;rintro i m ys H ⟨rfl,hi,r⟩;refine⟨cP (hl i ys H hi r) (cP hi hn),?_⟩;by_cases hlt:i<n
 ·refine .inr ⟨hgo i ys H hlt r,fun v H' y=>?_⟩;obtain⟨rfl,rfl⟩:=hy i ys H v H' hlt r y;exact hs i ys _ hlt r (fun ys' H2=>∃ m',m'<n-i/\(m'=n-(i+1)/\i+1<=n/\R (i+1) ys' H2)) fun ys' H2 r'=>⟨n-(i+1),by lia,rfl,hlt,r'⟩
 ·have e:i=n:=by lia
  subst e;exact .inl ⟨hstop ys H r,hd ys H r⟩
theorem Same.put{H:Hp}{p:Addr}{o:HO}(h:H p=none):Same H (upd H p o):=fun b u e=>by
 rw[bA (bG e h)];exact e
theorem Same.and{H H':Hp}{p:Addr}{o:HO}(s:Same H H')(h:H' p=none):Same H (L2.upd H' p o):=s.trans (Same.put h)
theorem small{n:Nat}(h:n<=10000):n<=sizeLine:=cP h (by rw[mD];decide)
theorem Lw{ns:List Int}{i:Int}(h0:0<=i)(h1:i<ns.length):∃ v,atI (ns.map V.int) i=some (V.int v):=by
 obtain⟨k,rfl⟩:=Ak h0;have hk:k<ns.length:=by lia
 exact⟨ns[k],cW (by simp[hk])⟩
theorem Iw{α:Type}{xs:List α}{i:Int}(h0:0<=i)(h1:i<xs.length):∃ v,v∈xs/\atI xs i=some v:=by
 obtain⟨k,rfl⟩:=Ak h0;have hk:k<xs.length:=by lia
 exact⟨xs[k],n8 hk,cW (by simp[hk])⟩
theorem mQ{A:Around}{k:Nat}(hr:fY k A):A.units+60<cLine:=Kv (Vk (by decide:60<=64) _) hr.units
theorem Dz{A:Around}{k:Nat}(hr:fY k A):A.units+61<cLine:=Kv (Vk (by decide:61<=64) _) hr.units
end L2
namespace L2
open PySem PySem.Spec PyProof.Rows
def notStar:Expr->Bool
 |.Starred _ _=>false
 |_=>true
theorem lR{env:Env}{e:Expr}{es:List Expr}(h:notStar e=true):starEach (e::es) env=(false,eval e env)::starEach es env:=by
 cases e<;>first|rfl|cases h
theorem wO{env:Env}{pos:Pos}:∀ {es:List Expr},es.all notStar=true->(backTo pos (starEach es env)).any (·.1)=false
 |[],_=>rfl
 |e::es,h=>by
  rw[Af,oR] at h;rw[lR h.1];show(false||(backTo pos (starEach es env)).any (·.1))=false;rw[wO h.2];rfl
section
variable{X:Cx}{k j:Nat}{ps:List Str}{sp:Sp}{E:XK}{x:Str}{p pos:Pos}{e:Expr}{es:List Expr}{te:TE}{t:TA}{id T:String}{r:List V->Hp->VK->Prop}{C f:Addr}{fd:FuncData}
theorem a0q(D:Df X.prog X.w X.K X.mg X.base k x ps sp)(hr:fY j X.A)(hg:Gl X x)(hx:Passes (CXE X.prog X.w) X E)(ha:PA X (e::es) t)(hk:k<=j:=by decide)(h1:notStar e=true:=by rfl)(h2:es.all notStar=true:=by rfl)
  (hdb:(x==("__debug__" : Str))=false:=by decide):PE X (.Call (.Name x p) (e::es) [] pos) (Nx sp [] E t):=a03 D hr hg hx ha hk hdb (lR h1) (wO h2)
theorem Xf(D:Df X.prog X.w X.K X.mg X.base k x ps sp)(hr:fY j X.A)(hg:Gl X x)(ha:PA X.nox (e::es) t)(hk:k<=j:=by decide)(h1:notStar e=true:=by rfl)(h2:es.all notStar=true:=by rfl)
  (hdb:(x==("__debug__" : Str))=false:=by decide):PEX X (.Call (.Name x p) (e::es) [] pos) (Ek sp [] t):=WR D hr hg ha hk hdb (lR h1) (wO h2)
theorem Tc(hc:fj X (.builtin id) r)(hg:Gl X x)(hm:X.mg x=none)(hv:bootBuiltins x=some (.builtin id))(ha:PA X (e::es) t)(h1:notStar e=true:=by rfl)(h2:es.all notStar=true:=by rfl) (hn:x ≠ "__name__":=by decide)
  (hdb:(x==("__debug__" : Str))=false:=by decide):PE X (.Call (.Name x p) (e::es) [] pos) (tCB r t):=Sx hc hg hm hv ha hn hdb (lR h1) (wO h2)
theorem Qd(hc:fj X (.type T) r)(hg:Gl X x)(hm:X.mg x=none)(hv:bootBuiltins x=some (.type T))(ha:PA X (e::es) t)(h1:notStar e=true:=by rfl)(h2:es.all notStar=true:=by rfl) (hn:x ≠ "__name__":=by decide)
  (hdb:(x==("__debug__" : Str))=false:=by decide):PE X (.Call (.Name x p) (e::es) [] pos) (tCB r t):=Q5 hc hg hm hv ha hn hdb (lR h1) (wO h2)
end
structure Md(P:Program)(w:World)(K:ao)(mg:Str->Option Value)(base:Heap)(k:Nat)(x:Str)(ps:List Str)(C:Addr)(sp:Sp):Prop where
 ex:∃ f fd,Mk K C f/\cg P w K mg base (CXE P w) k f fd ps sp/\mg x=some (.ref C)/\Binds K fd ps []
section
variable{X:Cx}{k j:Nat}{ps:List Str}{sp:Sp}{E:XK}{x:Str}{p pos:Pos}{e:Expr}{es:List Expr}{te:TE}{t:TA}{C:Addr}
theorem Xe(D:Md X.prog X.w X.K X.mg X.base k x ps C sp)(hr:fY j X.A)(hg:Gl X x)(hx:Passes (CXE X.prog X.w) X E)(ha:PA X (e::es) t)(hk:k+1<=j:=by decide)(h1:notStar e=true:=by rfl)(h2:es.all notStar=true:=by rfl)
  (hdb:(x==("__debug__" : Str))=false:=by decide):PE X (.Call (.Name x p) (e::es) [] pos) (Ul C sp [] E t):=by
 obtain⟨f,fd,M,F,hm,hb⟩:=D.ex;exact WQ M F (hr.mono hk) hg hm hb .nil hx ha hdb (lR h1) (wO h2)
end
end L2
namespace L2
open PySem PySem.Spec PyProof.Rows
structure RE(X:Cx)(e:Expr)(t:TE):Prop where ok:PE X e t
structure RT(X:Cx)(e:Expr)(t:TT):Prop where ok:PT X e t
structure RB(X:Cx)(e:Expr)(t:TT):Prop where ok:PW X e t
structure RA(X:Cx)(es:List Expr)(t:TA):Prop where ok:PA X es t
structure RS(X:Cx)(st:Stmt)(t:TS):Prop where ok:PS X st t
structure RSs(X:Cx)(st:List Stmt)(t:TS):Prop where ok:PSs X st t
structure RI(X:Cx)(tg iter:Expr)(t:TI):Prop where ok:PI X tg iter t
structure RG(X:Cx)(tg:Expr)(t:TG):Prop where ok:PG X tg t
structure RGs(X:Cx)(ts:List Expr)(t:TGs):Prop where ok:PGs X ts t
structure RIf(X:Cx)(ifs:List Expr)(t:TT):Prop where ok:FW X ifs t
structure REX(X:Cx)(e:Expr)(t:TEX):Prop where ok:PEX X e t
structure RSX(X:Cx)(st:List Stmt)(t:TSX):Prop where ok:PSX X st t
structure RH(X:Cx)(hs:List ExceptHandler)(th:Addr->TS):Prop where ok:PH X hs th
def xY:Expr->Bool
 |.ListComp _ _ _ _=>false
 |.SetComp _ _ _ _=>false
 |.DictComp _ _ _ _ _=>false
 |_=>true
theorem Uh{e:Expr}{t:Option Expr}{n:Nat}{env:Env}(h:xY e=true):swapsWith e t n env=pure false:=by
 cases e<;>first|rfl|cases h
def plainT:Expr->Bool
 |.Call _ _ _ _=>true
 |.Name _ _=>true
 |.Constant _ _ _=>true
 |.Attribute _ _ _=>true
 |.Subscript _ _ _=>true
 |_=>false
theorem a1A{e:Expr}{env:Env}(h:plainT e=true):∀ whole,isTrue e env whole=(do let v <- whole;standAt e.pos;holding [v] (truthy v)):=by
 intro whole
 cases e<;>first|rfl|cases h
def Mt:Expr->Bool
 |.Name _ _=>true
 |.Constant _ _ _=>true
 |.BinOp _ _ _ _=>true
 |.UnaryOp _ _ _=>true
 |.Call _ _ _ _=>true
 |.Subscript _ _ _=>true
 |.Attribute _ _ _=>true
 |_=>false
theorem a1l{b:Expr}(h:Mt b=true):Ln b:=by
 intro o i
 cases b<;>first|rfl|cases h
section
variable{X:Cx}{a b c e o:Expr}{es rest:List Expr}{ta tb tc te to:TE}{t:TA}{tA tB':TT}{pos p:Pos}{i:Nat}{x:Str}
theorem rv(i:Nat)(hN:X.N[i]?=some x:=by rfl)(hv:Vis X.env.scope x:=by first|exact Or.inl rfl|exact Or.inr (Or.inl rfl)|exact Or.inr (Or.inr rfl)) (hd:(x==("__debug__" : Str))=false:=by decide)
  (hcd:(x==("__classdict__" : Str))=false:=by decide):RE X (.Name x pos) (a1Z i):=⟨a0c hN hv hd hcd⟩
theorem aH {i j pos}:RE X (.Constant (.int i) j pos) (tC (.int i)):=⟨a05⟩
theorem z7 {b j pos}:RE X (.Constant (.bool b) j pos) (tC (.bl b)):=⟨a1s⟩
theorem Hx {j pos}:RE X (.Constant .none j pos) (tC .non):=⟨a07⟩
theorem kW {z j pos}:RE X (.Constant (.str z) j pos) (tC (.str z)):=⟨a0a⟩
theorem JL{i:Int}(h:∃ t,X.mg x=some (.int i t))(hg:Gl X x) (hd:(x==("__debug__" : Str))=false:=by decide):RE X (.Name x pos) (tC (.int i)):=⟨WL h hg hd⟩
theorem Tj{z:Str}(h:∃ t,X.mg x=some (.str z t))(hg:Gl X x) (hd:(x==("__debug__" : Str))=false:=by decide):RE X (.Name x pos) (tC (.str z)):=⟨WM h hg hd⟩
theorem cT{op:Operator}{r:R2}(ho:OpR X (binaryOp op) r)(ha:RE X a ta)(hb:RE X b tb):RE X (.BinOp a op b pos) (tOp r ta tb):=⟨a1v ho ha.ok hb.ok⟩
theorem JM{op:UnaryOp}{r:V->Hp->VK->Prop}(ho:UnR X (unaryOp op) r)(ha:RE X a ta):RE X (.UnaryOp op a pos) (tUn r ta):=⟨a1w ho ha.ok⟩
theorem wU{op:CmpOp}{r:R2}(ho:OpR X (compareOp op) r)(ha:RE X a ta)(hb:RE X b tb)(hm:behindInMarks op b=false):RE X (.Compare a [op] [b] pos) (tOp r ta tb):=⟨WD ho ha.ok hb.ok hm⟩
theorem bM{op:CmpOp}{r:R2}(ho:OpR X (compareOp op) r)(ha:RE X a ta)(hb:RE X b tb)(hm:behindInMarks op b=false):RT X (.Compare a [op] [b] pos) (Ny (tOp r ta tb)):=⟨Xd ho ha.ok hb.ok hm⟩
theorem xZ{op op':CmpOp}{r r':R2}(ho:OpR X (compareOp op) r)(ho':OpR X (compareOp op') r')(ha:RE X a ta)(hb:RE X b tb)(hc:RE X c tc)
  (hm:lastMarks [op,op'] [b,c]=false:=by with_unfolding_all rfl):RE X (.Compare a [op,op'] [b,c] pos) (El r r' ta tb tc):=⟨Sy ho ho' ha.ok hb.ok hc.ok hm⟩
theorem pO{op op':CmpOp}{r r':R2}(ho:OpR X (compareOp op) r)(ho':OpR X (compareOp op') r')(ha:RE X a ta)(hb:RE X b tb)(hc:RE X c tc)
  (hm:lastMarks [op,op'] [b,c]=false:=by with_unfolding_all rfl):RT X (.Compare a [op,op'] [b,c] pos) (Ny (El r r' ta tb tc)):=⟨T8 ho ho' ha.ok hb.ok hc.ok hm⟩
theorem m9(h:RE X e te)(he:plainT e=true:=by rfl):RT X e (L2.tB te):=⟨a0p h.ok (a1A he)⟩
theorem qN(ha:RT X a tA):RB X (.BoolOp .And [a] pos) tA:=⟨pw_and1 ha.ok⟩
theorem Tp(ha:RT X a tA):RB X (.BoolOp .Or [a] pos) tA:=⟨pw_or1 ha.ok⟩
theorem vD(ha:RT X a tA)(hb:RB X (.BoolOp .And (b::rest) pos) tB'):RB X (.BoolOp .And (a::b::rest) pos) (a1T tA tB'):=⟨pw_and ha.ok hb.ok⟩
theorem Yi(ha:RT X a tA)(hb:RB X (.BoolOp .Or (b::rest) pos) tB'):RB X (.BoolOp .Or (a::b::rest) pos) (tOr tA tB'):=⟨pw_or ha.ok hb.ok⟩
theorem HS(h:RB X e tA):RT X e tA:=⟨h.ok.pt⟩
theorem o7(ha:RT X a tA):RT X (.UnaryOp .Not a pos) (a1V tA):=⟨a0o ha.ok⟩
theorem Hy {op} {t:TE} (h:RE X a t):RE X (.BoolOp op [a] pos) t:=⟨a09 h.ok⟩
theorem Hw(ha:RE X a ta)(hb:RE X (.BoolOp .And (b::rest) pos) tb):RE X (.BoolOp .And (a::b::rest) pos) (Yr ta tb):=⟨a01 ha.ok hb.ok⟩
theorem a1M(ha:RE X a ta):RE X (.UnaryOp .Not a pos) (Yy ta):=⟨a08 ha.ok⟩
theorem ak:RA X [] rW:=⟨a00⟩
theorem aj(ha:RE X e te)(hr:RA X es t)(hs:notStar e=true:=by rfl):RA X (e::es) (Ih te t):=⟨Wy ha.ok hr.ok (lR hs)⟩
theorem dR {x1} (h:RA X es t):RE X (.Tuple es x1 pos) (a0G t):=⟨a0b h.ok⟩
theorem cX(h:RA X es t):RE X (.List es pos) (a0E t):=⟨a06 h.ok⟩
theorem dO{r:R2}(hr:IxR X r)(ha:RE X a ta)(hb:RE X b tb)(hs:Mt b=true:=by rfl):RE X (.Subscript a b pos) (tOp r ta tb):=⟨a1u hr ha.ok hb.ok (a1l hs)⟩
theorem a1L{f:Str}(he:RE X e ta)(hb:attributeBase e f X.env (eval e X.env)=eval e X.env:=by rfl):RE X (.Attribute e f pos) (a0C X.K ta f):=⟨a04 he.ok hb⟩
variable{k j:Nat}{ps:List Str}{sp:Sp}{E:XK}{id T:String}{r:List V->Hp->VK->Prop}{C:Addr}
theorem aV(D:Df X.prog X.w X.K X.mg X.base k x ps sp)(hr:fY j X.A)(hg:Gl X x)(hx:Passes (CXE X.prog X.w) X E)(ha:RA X (e::es) t)(hk:k<=j:=by decide)(h1:notStar e=true:=by rfl)(h2:es.all notStar=true:=by rfl)
  (hdb:(x==("__debug__" : Str))=false:=by decide):RE X (.Call (.Name x p) (e::es) [] pos) (Nx sp [] E t):=⟨a0q D hr hg hx ha.ok hk h1 h2 hdb⟩
theorem a0y(D:Df X.prog X.w X.K X.mg X.base k x ps sp)(hr:fY j X.A)(hg:Gl X x)(ha:RA X.nox (e::es) t)(hk:k<=j:=by decide)(h1:notStar e=true:=by rfl)(h2:es.all notStar=true:=by rfl)
  (hdb:(x==("__debug__" : Str))=false:=by decide):REX X (.Call (.Name x p) (e::es) [] pos) (Ek sp [] t):=⟨Xf D hr hg ha.ok hk h1 h2 hdb⟩
theorem a0r(D:Md X.prog X.w X.K X.mg X.base k x ps C sp)(hr:fY j X.A)(hg:Gl X x)(hx:Passes (CXE X.prog X.w) X E)(ha:RA X (e::es) t)(hk:k+1<=j:=by decide)(h1:notStar e=true:=by rfl)(h2:es.all notStar=true:=by rfl)
  (hdb:(x==("__debug__" : Str))=false:=by decide):RE X (.Call (.Name x p) (e::es) [] pos) (Ul C sp [] E t):=⟨Xe D hr hg hx ha.ok hk h1 h2 hdb⟩
theorem bf(hc:fj X (.builtin id) r)(hg:Gl X x)(hm:X.mg x=none)(hv:bootBuiltins x=some (.builtin id))(ha:RA X (e::es) t)(h1:notStar e=true:=by rfl)(h2:es.all notStar=true:=by rfl) (hn:x ≠ "__name__":=by decide)
  (hdb:(x==("__debug__" : Str))=false:=by decide):RE X (.Call (.Name x p) (e::es) [] pos) (tCB r t):=⟨Tc hc hg hm hv ha.ok h1 h2 hn hdb⟩
theorem uh(hc:fj X (.type T) r)(hg:Gl X x)(hm:X.mg x=none)(hv:bootBuiltins x=some (.type T))(ha:RA X (e::es) t)(h1:notStar e=true:=by rfl)(h2:es.all notStar=true:=by rfl) (hn:x ≠ "__name__":=by decide)
  (hdb:(x==("__debug__" : Str))=false:=by decide):RE X (.Call (.Name x p) (e::es) [] pos) (tCB r t):=⟨Qd hc hg hm hv ha.ok h1 h2 hn hdb⟩
theorem Ri{env:Env}{cpos:Pos}:∀ {es:List Expr},es.all notStar=true->(backTo cpos (starEach es env)).all (fun x=>!x.1)=true
 |[],_=>rfl
 |e::es,h=>by
  rw[Af,oR] at h;rw[lR h.1];show((!false)&&(backTo cpos (starEach es env)).all (fun x=>!x.1))=true;rw[Ri h.2];rfl
variable{name:Str}{apos cpos:Pos}{rm:V->List V->Hp->VK->Prop}
theorem a2H(pa:PlainAttrs T)(slot:Slot T name id) (hty:typeOf (.builtin id)=pure (.type "method_descriptor")) (hm:MtR X id rm) (ho:RE X o to) (ha:RA X (e::es) t) (h1:(e::es).all notStar=true:=by rfl)
  (hbase:attributeBase o name X.env (eval o X.env)=eval o X.env:=by rfl) (hlen:decide ((e::es).length<30)=true:=by rfl) (hline:(apos.endLine==cpos.line)=true:=by rfl):RE X (.Call (.Attribute o name apos) (e::es) [] cpos) (tBM X.K T rm to t):=by
 have h1':=h1;rw[Af,oR] at h1';refine⟨a1t pa slot hty hm ho.ok ha.ok hbase ?_ hline (lR h1'.1) (wO h1'.2)⟩;rw[Ri h1];have:decide ((e::es).length+([]:List Keyword).length+(if([]:List Keyword).isEmpty then 0 else 1)<30)=true:=by simpa using hlen
 rw[this];rfl
theorem a1K(pa:PlainAttrs T)(slot:Slot T name id) (hty:typeOf (.builtin id)=pure (.type "method_descriptor")) (hm:MtR X id rm) (ho:RE X o to)
  (hbase:attributeBase o name X.env (eval o X.env)=eval o X.env:=by rfl) (hline:(apos.endLine==cpos.line)=true:=by rfl):RE X (.Call (.Attribute o name apos) [] [] cpos) (a0B X.K T rm to):=⟨a02 pa slot hty hm ho.ok hbase hline⟩
end
section
variable{X:Cx}{tg l:Expr}{te:TE}{ta:TA}{p pos:Pos}
theorem Xl(hl:RE X l te):RI X tg l (Mh X.K te):=⟨WY hl.ok⟩
theorem a0v(hl:RE X l te):RI X tg l (a1k te):=⟨a0g hl.ok⟩
theorem fK{a:Expr} (hg:Gl X "range") (hm:X.mg "range" = none) (ha:RA X [a] ta) (hs:notStar a=true:=by rfl):RI X tg (.Call (.Name "range" p) [a] [] pos) (Y7 ta):=⟨Q8 hg hm ha.ok (lR hs)⟩
theorem Ck{a b:Expr} (hg:Gl X "range") (hm:X.mg "range" = none) (ha:RA X [a,b] ta) (hs:notStar a=true:=by rfl) (hs2:notStar b=true:=by rfl):RI X tg (.Call (.Name "range" p) [a,b] [] pos) (Y8 ta):=
 ⟨Q9 hg hm ha.ok (by rw[lR hs,lR hs2];rfl) (lR hs2)⟩
theorem DX:RIf X [] Ql:=⟨X3⟩
theorem gR{c:Expr}{t:TT}(h:RT X c t):RIf X [c] t:=⟨X4 h.ok⟩
theorem jr{x:Str}{px:Pos}{scope:Scope}{elt iter:Expr}{ifs:List Expr}{wi:TI}{tc:TT}(ok:uX scope X.env.scope X.N x=true)(hc:X.calm=true)(hi:RI X (.Name x px) iter wi)
  (hif:∀ s H ex,RIf (iT X x scope s H ex) ifs tc) (he:∀ s H ex,RE (iT X x scope s H ex) elt te) (hs:∀ v,foldedSetIterable iter X.env v=pure v:=by intro _;rfl) :
  RE X (.ListComp elt [⟨.Name x px,iter,ifs,0⟩] scope pos) (Yt wi tc te):=⟨WK ok hc hi.ok (fun s H ex=>(hif s H ex).ok) (fun s H ex=>(he s H ex).ok) hs⟩
end
section
variable{X:Cx}{st:Stmt}{rest body:List Stmt}{t u tb:TS}{e tg iter:Expr}{te:TE}{pos:Pos}{i:Nat}{x:Str}
theorem bV:RSs X [] Yv:=⟨Xa⟩
theorem au(h1:RS X st t)(h2:RSs X rest u):RSs X (st::rest) (a0F t u):=⟨T7 h1.ok h2.ok⟩
theorem aC(h1:RS X st t):RSs X [st] t:=⟨Xb h1.ok⟩
theorem gU(he:RE X e te)(hs:xY e=true:=by rfl):RS X (.Expr e pos) (Yu te):=⟨X8 he.ok (Uh hs)⟩
theorem aY(he:RE X e te):RS X (.Return (some e) pos) (a1X te):=⟨a0l he.ok⟩
theorem fL{c:Expr}{a b:List Stmt}{tc:TT}(hc:RT X c tc)(ha:RSs X a t)(hb:RSs X b u):RS X (.If c a b pos) (a1U tc t u):=⟨a1B hc.ok ha.ok hb.ok⟩
theorem aZ(hN:X.N.Nodup)(hi:X.N[i]?=some x)(hx:Loc X.env.scope x)(hf:X.fn x=true\/X.env.scope.names.lookup x=some .local:=by first|exact .inl rfl|exact .inr rfl|assumption):RG X (.Name x pos) (BW i):=⟨WT hN hi hx hf⟩
theorem um:RGs X [] Z5:=⟨WW⟩
def Mu:Expr->Bool
 |.Name _ _=>true
 |.Subscript _ _ _=>true
 |_=>false
theorem a0T{es:List Expr}{env:Env}(h:Mu e=true):(assignEach (e::es) env).map (·.2)=assign e env::(assignEach es env).map (·.2):=by
 cases e<;>first|rfl|cases h
theorem gK{es:List Expr}{t:TG}{u:TGs}(h1:RG X e t)(h2:RGs X es u)(hs:Mu e=true:=by rfl):RGs X (e::es) (M9 t u):=⟨SQ h1.ok h2.ok (a0T hs)⟩
theorem z9{es:List Expr}{k:Nat}{t:TGs}{n:Nat}(hc:X.calm=true)(h:RGs X es t)(hn:(assignEach es X.env).length=n:=by rfl)(hst:(assignEach es X.env).findIdx? (·.1)=none:=by rfl):RG X (.Tuple es k pos) (Z6 X.K n t):=⟨a0e hc h.ok hn hst⟩
theorem Tt{o i:Expr}{to ti:TE}{t:O1}(ho:RE X o to)(hi:RE X i ti)(hs:Qx X t) (ha:∀ v,assign (.Subscript o i pos) X.env v=(do
   let ov <- holding [v] (eval o X.env)
   let iv <- holding [v,ov] (eval i X.env)
   standAt pos
   holding [v,ov,iv] (setItem ov iv v)
   release [v,ov,iv] []):=by intro _;rfl):RG X (.Subscript o i pos) (a1h to ti t):=⟨a0d ho.ok hi.ok hs ha⟩
theorem vI{g:TG}(he:RE X e te)(hg:RG X tg g)(hs:swapsWithSole [tg] e pos.line X.env=pure false:=by rfl)(hw:swappedStores [tg] e X.env=pure none:=by rfl)(h1:(assignEach [tg] X.env).map (·.2)=[assign tg X.env]:=by rfl):RS X (.Assign [tg] e pos) (Xy te g):=⟨a0h he.ok hg.ok hs hw h1⟩
theorem aP{pos':Pos}(hN:X.N.Nodup)(hi:X.N[i]?=some x)(hx:Loc X.env.scope x)(he:RE X e te)(hs:xY e=true:=by rfl)(hf:X.fn x=true\/X.env.scope.names.lookup x=some .local:=by first|exact .inl rfl|exact .inr rfl|assumption) :
  RS X (.Assign [.Name x pos'] e pos) (Xy te (BW i)):=⟨a0m hN hi hx he.ok (Uh hs) hf⟩
theorem TF{j:Nat}{y:Str}{a b:Expr}{ta:TA}{px py pt:Pos} {kt k2 pt2} (hc:X.calm=true) (hN:X.N.Nodup) (hi:X.N[i]?=some x) (hj:X.N[j]?=some y) (hij:i≠j)
  (hx:X.env.scope.names.lookup x=some .local) (hy:X.env.scope.names.lookup y=some .local) (ha:RA X [a,b] ta) (hw:swappedStores [.Tuple [.Name x px,.Name y py] kt pt] (.Tuple [a,b] k2 pt2) X.env=pure (some [x,y])) :
  RS X (.Assign [.Tuple [.Name x px,.Name y py] kt pt] (.Tuple [a,b] k2 pt2) pos) (a1W i j ta):=⟨a0k hc hN hi hj hij hx hy ha.ok hw⟩
theorem cJ{wi:TI}{g:TG}(hp:PassesOwn (model X.prog X.w) X.A X.env X.xe)(hc:X.calm=true)(hi:RI X tg iter wi)(hg:RG X tg g)(hb:RSs X body tb)(hs:∀ x,foldedSetIterable iter X.env x=pure x:=by intro _;rfl) :
  RS X (.For tg iter body [] pos) (a0D wi g tb):=⟨a0j hp hc hi.ok hg.ok hb.ok hs⟩
theorem zj{c:Expr}{tc:TT}(hp:PassesOwn (model X.prog X.w) X.A X.env X.xe)(hc:RT X c tc)(hb:RSs X body tb):RS X (.While c body [] pos) (Uq tc tb):=⟨T5 hp hc.ok hb.ok⟩
theorem JQ{o value:Expr}{f:Str}{ta tv:TE}{pos':Pos}(ha:RE X o ta)(hv:RE X value tv)(hs:xY value=true:=by rfl):RS X (.Assign [.Attribute o f pos'] value pos) (a1N X.K ta tv f):=⟨a0i ha.ok hv.ok (Uh hs)⟩
theorem Ea{y:Str}{py px spos:Pos}{scope:Scope}{elt:Expr}{ifs:List Expr}{wi:TI}{tc:TT}(hN:X.N.Nodup)(hiy:X.N[i]?=some y)(hy:X.env.scope.names.lookup y=some .local)
  (ok:uX scope X.env.scope X.N x=true) (hc:X.calm=true) (hi:RI X (.Name x px) iter wi) (hif:∀ s H ex,RIf (iT X x scope s H ex) ifs tc) (he:∀ s H ex,RE (iT X x scope s H ex) elt te)
  (hsw:swapsWith (.ListComp elt [⟨.Name x px,iter,ifs,0⟩] scope pos) (some (.Name y py)) spos.line X.env=pure true:=by rfl) (hs:∀ v,foldedSetIterable iter X.env v=pure v:=by intro _;rfl) :
  RS X (.Assign [.Name y py] (.ListComp elt [⟨.Name x px,iter,ifs,0⟩] scope pos) spos) (Ui i wi tc te):=⟨X7 hN hiy hy ok hc hi.ok (fun s H ex=>(hif s H ex).ok) (fun s H ex=>(he s H ex).ok) hsw hs⟩
theorem RS.nox(h:RS X.nox st t):RS X st t:=⟨PS.nox h.ok⟩
theorem RT.nox{tt:TT}(h:RT X.nox e tt):RT X e tt:=⟨PT.nox h.ok⟩
theorem Xn{te:TEX}(he:REX X e te):RSX X [.Return (some e) pos] (Yz te):=⟨Xc he.ok⟩
theorem a0u:RH X [] (fun _ _ _ _=>False):=⟨a0f⟩
theorem a0w{h₀:ExceptHandler}{hs:List ExceptHandler}{tb:TSX}{th:Addr->TS}(hst:X.stack=X.env::X.outer)(hfr:X.env.frame=some X.env.locals)(hb:RSX X body tb)(hh:RH X (h₀::hs) th) :
  RS X (.Try body (h₀::hs) [] [] pos) (a1Y tb th):=⟨a0n hst hfr hb.ok hh.ok⟩
end
section
variable{P:Program}{w:World}{K:ao}{mg:Str->Option Value}{base:Heap}{N:List Str}{qual:Str}{scope:Scope}{f:Addr}{cd:Value}{A:Around}{outer:List Env}{s0:Shared}{H0:Hp}{E:XK}
theorem jB{x:Str}{np cpos pos:Pos}{e₀:Expr}{rest:List Expr}{t:TA}{C:Addr}(c:jm K C)(hg:Gl (oU (CXE P w) P w K mg base N qual scope f cd A outer s0 H0 E) x)(hm:mg x=some (.ref C))(hh:A.handled=none)
  (ha:RA (oU (CXE P w) P w K mg base N qual scope f cd A outer s0 H0 E) (e₀::rest) t) (h1:notStar e₀=true:=by rfl) (h2:rest.all notStar=true:=by rfl) (hd:(x==("__debug__" : Str))=false:=by decide) :
  RS (oU (CXE P w) P w K mg base N qual scope f cd A outer s0 H0 E) (.Raise (some (.Call (.Name x np) (e₀::rest) [] cpos)) none pos) (Uo t C E):=⟨T4 c hg hm hh ha.ok hd (lR h1) (wO h2)⟩
theorem Fun.HN{x qual:Str}{st:Stmt}{f:Addr}{fd:FuncData}{N ps:List Str}{k:Nat}{sp:Sp}(F:Fun K x qual st f fd)(S:aM N ps (aJ st))(len:∀ vs H Q E,sp vs H Q E->vs.length=ps.length)
  (hbody:∀(cdv:Value)(A:Around)(outer:List Env)(s:Shared)(H:Hp)(vs:List V)(Q:VK)(E:XK),fY k (A.deeper (envOfC qual (aJ st) s.heap.objs.size f cdv))->sp vs H Q E ->
   ∃ t,RSs (oU (CXE P w) P w K mg base N qual (aJ st) f cdv A outer s H E) (fG st) t/\t { nx:=fun _ H'=>Q .non H',rt:=Q } (start N vs) H):cg P w K mg base (CXE P w) (k+1) f fd ps sp:=
 F.okE S len fun cdv A outer s H vs Q E hr hsp=>let ⟨t,h,q⟩:=hbody cdv A outer s H vs Q E hr hsp;⟨t,h.ok,q⟩
theorem Fun.rok{x qual:Str}{st:Stmt}{f:Addr}{fd:FuncData}{N ps:List Str}{k:Nat}{sp:Sp}(F:Fun K x qual st f fd)(S:aM N ps (aJ st))(len:∀ vs H Q E,sp vs H Q E->vs.length=ps.length)
  (hbody:∀(cdv:Value)(A:Around)(outer:List Env)(s:Shared)(H:Hp)(vs:List V)(Q:VK)(E:XK),fY k (A.deeper (envOfC qual (aJ st) s.heap.objs.size f cdv))->sp vs H Q E ->
   ∃ t,RSs (oU (CXE P w) P w K mg base N qual (aJ st) f cdv A outer s H E).nox (fG st) t/\t { nx:=fun _ H'=>Q .non H',rt:=Q } (start N vs) H):cg P w K mg base (CXE P w) (k+1) f fd ps sp:=
 F.ok0 S len fun cdv A outer s H vs Q E hr hsp=>let ⟨t,h,q⟩:=hbody cdv A outer s H vs Q E hr hsp;⟨t,h.ok,q⟩
end
end L2
namespace L2
open PySem PySem.Spec PyProof.Rows
mutual
theorem Den.mono{K:ao}{H H':Hp}(s:Same H H'):∀ {v:V} {d:Dt},Den K H v d->Den K H' v d
 |_,_,.non=>.non
 |_,_,.bl b=>.bl b
 |_,_,.int i=>.int i
 |_,_,.str x=>.str x
 |_,_,.tup h hs=>.tup (s _ _ h) (aN.mono s hs)
 |_,_,.lst h hs=>.lst (s.seq h) (aN.mono s hs)
theorem aN.mono{K:ao}{H H':Hp}(s:Same H H'):∀ {vs:List V} {ds:List Dt},aN K H vs ds->aN K H' vs ds
 |_,_,.nil=>.nil
 |_,_,.cons h t=>.cons (Den.mono s h) (aN.mono s t)
end
theorem aN.strs{K:ao}{H:Hp}:∀ zs:List Str,aN K H (zs.map V.str) (zs.map Dt.str)
 |[]=>.nil
 |z::zs=>.cons (.str z) (aN.strs zs)
theorem aN.Ju{K:ao}{H:Hp}:∀ {bs:List Bool} {vs:List V},aN K H vs (bs.map Dt.bl)->vs=bs.map V.bl
 |[],_,.nil=>rfl
 |n::ns,_,.cons h t=>by cases h;rw[aN.Ju t];rfl
structure oZ(J:It)(H:Hp)(vs:List V):Prop where
 go:∀ H' i,Same H H'->i<vs.length->J.go i H'
 yld:∀ H' i v H'',Same H H'->i<vs.length->J.yld i H' v H''->vs[i]?=some v/\H''=H'
 stop:∀ H',Same H H'->J.stop vs.length H'
theorem cA{K:ao}{H:Hp}{a:Addr}{vs:List V}(h:SqL K H a vs):oZ (Itl K a) H vs:=
 ⟨fun H' i s hi=>⟨vs,vs[i],s.seq h,by simp[hi]⟩,fun H' i v H'' s hi y=>⟨y.2 vs (s.seq h),y.1⟩,fun H' s=>⟨vs,s.seq h,bR _⟩⟩
theorem JG{H:Hp}(lo:Int)(n:Nat):oZ (Itr lo n) H (((List.range n).map fun i:Nat=>lo+(i:Int)).map V.int):=by
 have hl:(((List.range n).map fun i:Nat=>lo+(i:Int)).map V.int).length=n:=by simp
 refine⟨fun H' i _ hi=>?_,fun H' i v H'' _ hi y=>⟨?_,y.1⟩,fun H' _=>?_⟩
 ·rw[hl] at hi;exact hi
 ·rw[hl] at hi;rw[y.2];simp[hi]
 ·rw[hl];exact bR _
theorem Sv{H:Hp}(z:Str):oZ (Its z) H ((z.cps.toList.map fun c=>(⟨#[c]⟩:Str)).map V.str):=by
 have hl:((z.cps.toList.map fun c=>(⟨#[c]⟩:Str)).map V.str).length=z.cps.size:=by simp
 refine⟨fun H' i _ hi=>?_,fun H' i v H'' _ hi y=>?_,fun H' _=>?_⟩
 ·rw[hl] at hi;exact hi
 ·rw[hl] at hi;obtain⟨e,c,ec,y⟩:=y;have:z.cps.toList[i]?=some c:=by simpa using ec
  exact⟨by rw[y];simp[this],e⟩
 ·rw[hl];exact bR _
theorem fZ{α:Type}{K:ao}{J:It}{H:Hp}{vs:List V}{xs:List α}{enc:α->Dt}{tc:TT}{te:TE}{zzs:St}{fin:List V->Hp->Prop}(hJ:oZ J H vs)(hx:aN K H vs (xs.map enc))(hn:xs.length<=sizeLine)(p:α->Bool)(f:α->Dt)
  (ht:∀ a∈xs,∀ v H',Same H H'->Den K H' v (enc a)->∀ G:Bool->Hp->Prop,(∀ H'',Same H' H''->G (p a) H'')->tc (some v::zzs) H' G)
  (hf:∀ a∈xs,p a=true->∀ v H',Same H H'->Den K H' v (enc a)->∀ G:VK,(∀ y H'',Same H' H''->Den K H'' y (f a)->G y H'')->te (some v::zzs) H' G)
  (hd:∀ ys H',Same H H'->aN K H' ys ((xs.filter p).map f)->fin ys H'):∃ W:Nat->Nat->List V->Hp->Prop,(∃ m,W 0 m [] H)/\oW J tc te zzs fin W:=by
 have hlv:vs.length=xs.length:=by rw[hx.length,aU]
 refine Lz (n:=vs.length) (item:=fun i=>vs.getD i .non) (fun i ys H'=>Same H H'/\aN K H' ys (((xs.take i).filter p).map f)) (by rw[hlv];exact hn) (fun i ys H' hi r=>hJ.go H' i r.1 hi) (fun i ys H' v H'' hi r y=>?_) (fun ys H' r=>hJ.stop H' r.1)
  (fun i ys H' hi r=>?_) ⟨Same.refl _,.nil⟩ (fun i ys H' hi r G hG=>?_) (fun ys H' r=>?_)
 ·obtain⟨e,e'⟩:=hJ.yld H' i v H'' r.1 hi y;exact⟨by rw[dX,e];rfl,e'⟩
 ·rw[r.2.length,aU];exact cP (iK _ _) (by rw[qt];exact Nat.min_le_left _ _)
 ·obtain⟨s1,D⟩:=r;have hi':i<xs.length:=by lia
  have ev:vs[i]?=some (vs.getD i .non):=by simp[dX,hi]
  obtain⟨d,ed,dv⟩:=hx.get ev;have ea:d=enc xs[i]:=by
   rw[cU,ig hi'] at ed;exact(gO ed).symm
  subst ea;have tk:xs.take (i+1)=xs.take i++[xs[i]]:=by rw[jf,ig hi'];rfl
  refine ht xs[i] (n8 hi') _ H' s1 (dv.mono s1) _ fun H2 s2=>?_
  cases hp:p xs[i] with
  |false=>
   refine tV (hG _ _ ⟨s1.trans s2,?_⟩);rw[tk,xg,show List.filter p [xs[i]]=[] by simp[hp],xG];exact D.mono s2
  |true=>
   refine yR (hf xs[i] (n8 hi') hp _ H2 (s1.trans s2) (dv.mono (s1.trans s2)) _ fun y H3 s3 dy=>hG _ _ ⟨(s1.trans s2).trans s3,?_⟩);rw[tk,xg,show List.filter p [xs[i]]=[xs[i]] by simp[hp],dU];exact(D.mono (s2.trans s3)).append (.cons dy .nil)
 ·rw[hlv,jE] at r;exact hd ys H' r.1 r.2
theorem comp_map{α:Type}{K:ao}{J:It}{H:Hp}{vs:List V}{xs:List α}{enc:α->Dt}{te:TE}{zzs:St}{fin:List V->Hp->Prop}(hJ:oZ J H vs)(hx:aN K H vs (xs.map enc))(hn:xs.length<=sizeLine)(f:α->Dt)
  (hf:∀ a∈xs,∀ v H',Same H H'->Den K H' v (enc a)->∀ G:VK,(∀ y H'',Same H' H''->Den K H'' y (f a)->G y H'')->te (some v::zzs) H' G)
  (hd:∀ ys H',Same H H'->aN K H' ys (xs.map f)->fin ys H'):∃ W:Nat->Nat->List V->Hp->Prop,(∃ m,W 0 m [] H)/\oW J Ql te zzs fin W:=
 fZ hJ hx hn (fun _=>true) f (fun a _ v H' _ _ G hG=>hG H' (Same.refl _)) (fun a ha _=>hf a ha) fun ys H' s D=>hd ys H' s (by rw[Eu.mpr (fun _ _=>rfl)] at D;exact D)
end L2
namespace L2
open PySem PySem.Spec PyProof.Rows
section
variable{X:Cx}{K:ao}
theorem lM(hu:X.A.units+60<cLine)(hK:X.K=K:=by rfl):OpR X (compareOp .Eq) (Td K false):=by subst hK;exact ZQ hu
theorem Ml(hu:X.A.units+60<cLine)(hK:X.K=K:=by rfl):OpR X (compareOp .NotEq) (Td K true):=by subst hK;exact ZW hu
theorem Ca(hu:X.A.units+61<cLine)(hK:X.K=K:=by rfl):OpR X (compareOp .In) (Qe K false):=by subst hK;exact ZS hu
theorem pH(hu:X.A.units+61<cLine)(hK:X.K=K:=by rfl):OpR X (compareOp .NotIn) (Qe K true):=by subst hK;exact PN hu
theorem dN(hK:X.K=K:=by rfl):IxR X (rIx K):=by subst hK;exact Zc
def Ye(K:ao):List V->Hp->VK->Prop:=fun xs H Q=>(∃ p ys,xs=[.ref p]/\(SqL K H p ys\/SqT K H p ys)/\Q (.int ys.length) H)\/(∃ z,xs=[.str z]/\z.length<=sizeLine/\Q (.int z.length) H)
theorem fu(hK:X.K=K:=by rfl):fj X (.builtin "len") (Ye K):=by subst hK;exact CQ.or CT
def Xh(K:ao):List V->Hp->VK->Prop:=fun xs H Q=>∃ p ys,xs=[.ref p]/\(SqL K H p ys\/SqT K H p ys)/\∀ l,H l=none->Q (.ref l) (upd H l (.lst ys))
theorem Zf(hK:X.K=K:=by rfl):fj X (.type "list") (Xh K):=by subst hK;exact CV
def a1D(K:ao):List V->Hp->VK->Prop:=fun xs H Q=>∃(p:Addr)(bs:List Bool),xs=[.ref p]/\SqL K H p (bs.map V.bl)/\Q (.bl (bs.all id)) H
theorem k_all(hc:X.calm=true)(hK:X.K=K:=by rfl):fj X (.builtin "all") (a1D K):=by subst hK;exact QL hc
end
section
variable{X:Cx}{K:ao}{tg l e o:Expr}{es:List Expr}{te ta to:TE}{t:TA}{pos apos cpos:Pos}{f name:Str}{T id:String}{rm:V->List V->Hp->VK->Prop}
theorem bx(hl:RE X l te)(hK:X.K=K:=by rfl):RI X tg l (Mh K te):=by subst hK;exact Xl hl
theorem pI(he:RE X e ta)(hK:X.K=K:=by rfl)(hb:attributeBase e f X.env (eval e X.env)=eval e X.env:=by rfl):RE X (.Attribute e f pos) (a0C K ta f):=by subst hK;exact a1L he hb
theorem mU(pa:PlainAttrs T)(slot:Slot T name id) (hty:typeOf (.builtin id)=pure (.type "method_descriptor")) (hm:MtR X id rm) (ho:RE X o to) (ha:RA X (e::es) t) (hK:X.K=K:=by rfl) (h1:(e::es).all notStar=true:=by rfl)
  (hbase:attributeBase o name X.env (eval o X.env)=eval o X.env:=by rfl) (hlen:decide ((e::es).length<30)=true:=by rfl) (hline:(apos.endLine==cpos.line)=true:=by rfl):RE X (.Call (.Attribute o name apos) (e::es) [] cpos) (tBM K T rm to t):=by
 subst hK;exact a2H pa slot hty hm ho ha h1 hbase hlen hline
theorem Zm(pa:PlainAttrs T)(slot:Slot T name id) (hty:typeOf (.builtin id)=pure (.type "method_descriptor")) (hm:MtR X id rm) (ho:RE X o to) (hK:X.K=K:=by rfl)
  (hbase:attributeBase o name X.env (eval o X.env)=eval o X.env:=by rfl) (hline:(apos.endLine==cpos.line)=true:=by rfl):RE X (.Call (.Attribute o name apos) [] [] cpos) (a0B K T rm to):=by
 subst hK;exact a1K pa slot hty hm ho hbase hline
end
theorem cH:bootBuiltins "len" = some (.builtin "len"):=by decide +kernel
theorem QG:bootBuiltins "all" = some (.builtin "all"):=by decide +kernel
theorem uV:bootBuiltins "sorted" = some (.builtin "sorted"):=by decide +kernel
theorem QK:bootBuiltins "min" = some (.builtin "min"):=by decide +kernel
theorem QJ:bootBuiltins "max" = some (.builtin "max"):=by decide +kernel
theorem QH:bootBuiltins "int" = some (.type "int"):=by decide +kernel
theorem YH:bootBuiltins "str" = some (.type "str"):=by decide +kernel
theorem VD:bootBuiltins "list" = some (.type "list"):=by decide +kernel
end L2
namespace L2
open PySem PySem.Spec PyProof.Rows
theorem aF{t u:TS}{D:Ends}{zzs:L2.St}{H:Hp}(Mid:L2.St->Hp->Prop)(h:∀ R:L2.St->Hp->Prop,(∀ bB H',Mid bB H'->R bB H')->t { D with nx:=R } zzs H)(k:∀ bB H',Mid bB H'->u D bB H'):a0F t u D zzs H:=h (u D) k
theorem sz{n:Nat}(h:Nat.ble n 10000=true):n<=sizeLine:=small (Ep h)
theorem tE{i j:Int}:decide (V.int i=V.int j)=decide (i=j):=by simp
theorem gH{α:Type}{x:α}{xs:List α}:atI (x::xs) 0=some x:=cW (j:=0) rfl
theorem GC{A:Around}{k:Nat}{env:Env}(hr:fY k (A.deeper env)):A.handled=none:=hr.hd
theorem eV{b:Bool}{A Bq:Prop}(h1:b=true->A)(h2:b=false->Bq):if b=true then A else Bq:=by
 cases b with
 |true=>exact yR (h1 rfl)
 |false=>exact tV (h2 rfl)
theorem yC{l n m:Int}{te:TE}{zzs:L2.St}{H:Hp}{G:Bool->Hp->Prop}(he:∀ Q':VK,Q' (.int m) H->te zzs H Q')(hg:G (decide (l<=n/\n<m)) H) :
  if decide (l<=n)=true then te zzs H (fun w' H4=>rI0 (fun i j=>.bl (decide (i<j))) (.int n) w' H4 fun x H'=>∃ k,x=.bl k/\G k H') else ∃ k,V.bl false=.bl k/\G k H:=by
 refine DK (fun h1=>he _ ⟨_,_,rfl,rfl,_,rfl,?_⟩) (fun h1=>⟨_,rfl,?_⟩)
 ·have h1':=cY h1;have e:decide (l<=n/\n<m)=decide (n<m):=by simp[h1']
  rw[<- e];exact hg
 ·have e:decide (l<=n/\n<m)=false:=bZ fun h=>h1 (bN h.1)
  rw[<- e];exact hg
theorem Bv{l n m:Int}{te:TE}{zzs:L2.St}{H:Hp}{G:VK}(he:∀ Q':VK,Q' (.int m) H->te zzs H Q')(hg:G (.bl (decide (l<=n/\n<m))) H) :
  if decide (l<=n)=true then te zzs H (fun w' H4=>rI0 (fun i j=>.bl (decide (i<j))) (.int n) w' H4 G) else G (.bl false) H:=by
 refine DK (fun h1=>he _ ⟨_,_,rfl,rfl,?_⟩) (fun h1=>?_)
 ·have h1':=cY h1;have e:decide (l<=n/\n<m)=decide (n<m):=by simp[h1']
  show G (.bl (decide (n<m))) H;rw[<- e];exact hg
 ·have e:decide (l<=n/\n<m)=false:=bZ fun h=>h1 (bN h.1)
  rw[<- e];exact hg
abbrev Cell:=Int×Int
def aA(x:Cell):Dt:=.tup [.int x.1,.int x.2]
theorem Gx(a b:Cell):eqD (aA a) (aA b)=decide (a=b):=by
 have e1:eqD (.int a.1) (.int b.1)=decide (a.1=b.1):=by rw[tH rfl rfl];exact(Vf _ _)
 have e2:eqD (.int a.2) (.int b.2)=decide (a.2=b.2):=by rw[tH rfl rfl];exact(Vf _ _)
 show(eqD (.int a.1) (.int b.1)&&(eqD (.int a.2) (.int b.2)&&true))=_;rw[e1,e2,Bool.and_true];by_cases h1:a.1=b.1<;>by_cases h2:a.2=b.2<;>simp[h1,h2,Prod.ext_iff]
theorem yM(a:Cell):tG (aA a)<=50:=Ep rfl
theorem yu(x:Cell):∀ cs:List Cell,((cs.map aA).any fun e=>eqD e (aA x))=decide (x∈cs)
 |[]=>by simp
 |c::cs=>by
  rw[cZ,wC,Gx,yu x cs];by_cases h:c=x<;>by_cases h2:x∈cs<;>simp[h,h2,eq_comm]
  intro e;exact absurd e.symm h
def Ls(K:ao)(H:Hp)(p:Addr)(ds:List Dt):Prop:=∃ xs,H p=some (.lst xs)/\aN K H xs ds
theorem Ls.den{K:ao}{H:Hp}{p:Addr}{ds:List Dt}(h:Ls K H p ds):Den K H (.ref p) (.lst ds):=let ⟨_,e,D⟩:=h;.lst (SqL.of e) D
theorem Ls.mono{K:ao}{H H':Hp}{p:Addr}{ds:List Dt}(h:Ls K H p ds)(s:Same H H'):Ls K H' p ds:=let ⟨xs,e,D⟩:=h;⟨xs,s _ _ e,D.mono s⟩
theorem Ls.new{K:ao}{H:Hp}{p:Addr}{xs:List V}{ds:List Dt}(hp:H p=none)(D:aN K H xs ds):Ls K (upd H p (.lst xs)) p ds:=⟨xs,aD,D.mono (Same.put hp)⟩
structure Fr(K:ao)(H H':Hp)(p:Addr)(ds:List Dt):Prop where
 same:Same H H'
 new:H p=none
 ls:Ls K H' p ds
theorem fH{K:ao}{H:Hp}{v:V}{x:Cell}(h:Den K H v (aA x)):∃ a,v=.ref a/\SqT K H a [.int x.1,.int x.2]/\H a=some (.tup [.int x.1,.int x.2]):=by
 cases h with
 |tup ht hs=>
  cases hs with
  |cons h1 hs=>
   cases hs with
   |cons h2 hs=>
    cases hs;cases h1;cases h2
    exact⟨_,rfl,SqT.of ht,ht⟩
theorem gW{K:ao}{H:Hp}{p:Addr}{a b:Int}:Den K (upd H p (.tup [.int a,.int b])) (.ref p) (aA (a,b)):=.tup aD (.cons (.int _) (.cons (.int _) .nil))
section
variable{K:ao}{H:Hp}{v:V}{x:Cell}{p:Addr}{cs:List Cell}{Q:VK}
theorem rJ(d:Den K H v (aA x))(q:Q (.int x.1) H):rIx K v (.int 0) H Q:=by
 obtain⟨a,rfl,h,_⟩:=fH d;exact .inr (.inl ⟨a,_,_,_,rfl,rfl,h,gH,q⟩)
theorem rK(d:Den K H v (aA x))(q:Q (.int x.2) H):rIx K v (.int 1) H Q:=by
 obtain⟨a,rfl,h,_⟩:=fH d;exact .inr (.inl ⟨a,_,_,_,rfl,rfl,h,cW (j:=1) rfl,q⟩)
theorem HJ(d:Den K H v (aA x))(h:Den K H (.ref p) (.lst (cs.map aA)))(q:Q (.bl (decide (x∈cs))) H):Qe K false v (.ref p) H Q:=by
 refine⟨aA x,cs.map aA,p,rfl,d,.inl h,fun e he=>?_,?_⟩
 ·obtain⟨c,_,rfl⟩:=bW.mp he;exact⟨rfl,yM c⟩
 ·show Q (.bl ((cs.map aA).any fun e=>eqD e (aA x))) H;rw[yu];exact q
theorem pL(d:Den K H v (aA x))(h:Den K H (.ref p) (.lst (cs.map aA)))(q:Q (.bl (!decide (x∈cs))) H):Qe K true v (.ref p) H Q:=by
 refine⟨aA x,cs.map aA,p,rfl,d,.inl h,fun e he=>?_,?_⟩
 ·obtain⟨c,_,rfl⟩:=bW.mp he;exact⟨rfl,yM c⟩
 ·show Q (.bl (!(cs.map aA).any fun e=>eqD e (aA x))) H;rw[yu];exact q
theorem vG{ds:List Dt}(h:Den K H (.ref p) (.lst ds))(q:Q (.int ds.length) H):Ye K [.ref p] H Q:=by
 cases h with
 |lst hl D=>exact .inl ⟨p,_,rfl,.inl hl,by rw[D.length];exact q⟩
theorem a0s{zzs:L2.St}{i j:Nat}{N:L2.St->Hp->Prop}(d:Den K H v (aA x))(q:N ((zzs.set i (some (.int x.1))).set j (some (.int x.2))) H):Z6 K 2 (M9 (BW i) (M9 (BW j) Z5)) v zzs H N:=by
 obtain⟨a,rfl,h,_⟩:=fH d;exact⟨a,_,rfl,h,rfl,_,_,rfl,_,_,rfl,rfl,q⟩
theorem DR{q':Addr}{ds es:List Dt}(h:Ls K H p ds)(h2:Ls K H q' es)(hz:ds.length+es.length<=10000)(q:∀ r H',Fr K H H' r (ds++es)->Q (.ref r) H'):Hv (.ref p) (.ref q') H Q:=by
 obtain⟨xs,e,D⟩:=h;obtain⟨ys,e2,D2⟩:=h2;exact⟨xs,ys,e,e2,by rw[D.length,D2.length];exact small hz,fun r hr=>q r _ ⟨Same.put hr,hr,.new hr (D.append D2)⟩⟩
end
def inF(h w:Int)(x:Cell):Prop:=(0<=x.1/\x.1<h)/\(0<=x.2/\x.2<w)
instance(h w:Int)(x:Cell):Decidable (inF h w x):=by unfold inF;infer_instance
def offs:List Cell:=[(-1,-1),(-1,0),(-1,1),(0,-1),(0,1),(1,-1),(1,0),(1,1)]
def dF(h w:Int)(x:Cell):List Cell:=(offs.map fun d=>(x.1+d.1,x.2+d.2)).filter fun y=>decide (inF h w y)
def bI(h w:Nat):List Cell:=(List.range h).flatMap fun r:Nat=>(List.range w).map fun c:Nat=>((r:Int),(c:Int))
def tQ(h w:Int)(st:List Cell)(x:Cell):Nat:=((dF h w x).filter fun y=>decide (y∈st)).length
def inS(sg:Str)(c:Nat):Bool:=!(Builtin.Str.occurrences sg ⟨#[c]⟩ 0 sg.length 1).isEmpty
def codeAt(zs:List Str)(x:Nat×Nat):Nat:=(zs.getD x.1 Str.empty).cps.getD x.2 0
def uW(zs:List Str)(w:Nat)(sg:Str):List Cell:=(List.range zs.length).flatMap fun r:Nat=>((List.range w).filter fun c=>inS sg (codeAt zs (r,c))).map fun c:Nat=>((r:Int),(c:Int))
structure Rect(zs:List Str)(w:Nat):Prop where
 ne:1<=zs.length
 le:zs.length<=6
 w1:1<=w
 w6:w<=6
 len:∀ z∈zs,z.length=w
theorem Rect.head{zs:List Str}{w:Nat}(h:Rect zs w):∃ z zt,zs=z::zt/\z.length=w:=by
 cases zs with
 |nil=>exact absurd h.ne (by decide)
 |cons z zt=>exact⟨z,zt,rfl,h.len z cG⟩
end L2
namespace L2
open PySem PySem.Spec PyProof.Rows
def SameBut(p:Addr)(H H':Hp):Prop:=∀ b o,H b=some o->b≠p->H' b=some o
theorem SameBut.refl(p:Addr)(H:Hp):SameBut p H H:=fun _ _ e _=>e
theorem SameBut.trans{p:Addr}{H H1 H2:Hp}(a:SameBut p H H1)(b:SameBut p H1 H2):SameBut p H H2:=fun c o e n=>b c o (a c o e n) n
theorem Same.but{H H':Hp}(s:Same H H')(p:Addr):SameBut p H H':=fun b o e _=>s b o e
theorem SameBut.put{p:Addr}{H H':Hp}{o:HO}(s:SameBut p H H'):SameBut p H (upd H' p o):=fun b u e n=>by rw[bA n];exact s b u e n
theorem SameBut.and{p q:Addr}{H H':Hp}{o:HO}(s:SameBut p H H')(hq:H' q=none):SameBut p H (upd H' q o):=fun b u e n=>(Same.put hq) b u (s b u e n)
theorem SameBut.of{p:Addr}{H H0 H':Hp}(s:SameBut p H0 H')(a:Same H H0)(np:H p=none):Same H H':=fun b o e=>s b o (a b o e) (bG e np)
section
variable{K:ao}{p:Addr}{H H':Hp}{l:List V}
theorem SameBut.seq{a:Addr}{xs:List V}(s:SameBut p H H')(ha:H a=some (.lst xs))(n:a≠p):SqL K H' a xs:=SqL.of (s _ _ ha n)
theorem SameBut.cell{v:V}{x:Cell}(s:SameBut p H H')(hp:H p=some (.lst l))(h:Den K H v (aA x)):Den K H' v (aA x):=by
 obtain⟨a,rfl,_,ht⟩:=fH h;exact .tup (s _ _ ht (pK ht hp (by intro z;cases z))) (.cons (.int _) (.cons (.int _) .nil))
theorem SameBut.cells(s:SameBut p H H')(hp:H p=some (.lst l)):∀ {vs:List V} {cs:List Cell},aN K H vs (cs.map aA)->aN K H' vs (cs.map aA)
 |[],[],_=>.nil
 |v::vs,c::cs,.cons h t=>.cons (s.cell hp h) (s.cells hp t)
theorem SameBut.ls{q:Addr}{cs:List Cell}(s:SameBut p H H')(hp:H p=some (.lst l))(n:q≠p)(h:Ls K H q (cs.map aA)):Ls K H' q (cs.map aA):=let ⟨xs,e,D⟩:=h;⟨xs,s _ _ e n,s.cells hp D⟩
end
theorem iD{K:ao}{ta tb:TE}{tr:TA}{zzs:L2.St}{H:Hp}{Q:List V->Hp->Prop}(a b:Int)(ha:∀ Q':VK,Q' (.int a) H->ta zzs H Q')(hb:∀ Q':VK,Q' (.int b) H->tb zzs H Q')
  (h:∀ v H',Same H H'->Den K H' v (aA (a,b))->tr zzs H' fun xs H2=>Q (v::xs) H2):Ih (a0G (Ih ta (Ih tb rW))) tr zzs H Q:=
 ha _ (hb _ ⟨sz rfl,fun p hp=>h _ _ (Same.put hp) gW⟩)
theorem Rk{K:ao}{ta:TA}{g:TG}{tb:TS}{D:Ends}{zzs:L2.St}{H:Hp}
  (h:ta zzs H fun xs H1=>xs.length<=sizeLine/\∀ p,H1 p=none->∃ a,V.ref p=.ref a/\(∃ ys,SqL K (upd H1 p (.lst xs)) a ys)/\∃ W:Nat->Nat->L2.St->Hp->Prop,(∃ m,W 0 m zzs (upd H1 p (.lst xs)))/\∀ i m zzs H,W i m zzs H ->
   ((Itl K a).stop i H/\D.nx zzs H)\/((Itl K a).go i H/\∃ N:L2.St->Hp->Prop,(∀ bB H',N bB H'->∃ m',m'<m/\W (i+1) m' bB H')/\∀ x H',(Itl K a).yld i H x H'->g x zzs H' fun Av H2=>tb { D with nx:=N,ct:=N,bk:=D.nx } Av H2)) :
  a0D (Mh K (a0E ta)) g tb D zzs H:=h
theorem ltl{n:Nat}(h:n<10000):n<sizeLine:=jd h (by rw[mD];decide)
theorem mX{K:ao}{p:Addr}{H:Hp}{l:List V}{v:V}{Q:VK}(hp:H p=some (.lst l))(hz:l.length<10000)(q:Q .non (upd H p (.lst (l++[v])))):MN (.ref p) [v] H Q:=
 ⟨p,l,v,rfl,rfl,hp,jd hz (by rw[mD];decide),q⟩
end L2
namespace L2
open PySem PySem.Spec PyProof.Rows
theorem YF{zs:List Str}{r:Nat}(h:r<zs.length):atI (zs.map V.str) (r:Int)=some (.str (zs.getD r Str.empty)):=cW (by simp[dX,h])
theorem Vy{z:Str}{c:Nat}(h:c<z.length):atI z.cps.toList (c:Int)=some (z.cps.getD c 0):=by
 have h':c<z.cps.size:=h;exact cW (by simp[lV,h'])
theorem Rect.row{zs:List Str}{w r:Nat}(h:Rect zs w)(hr:r<zs.length):(zs.getD r Str.empty).length=w:=by
 have e:zs.getD r Str.empty=zs[r]:=by simp[dX,hr]
 rw[e];exact h.len _ (n8 hr)
theorem MP{K:ao}{H:Hp}{p:Addr}{zs:List Str}{w r c:Nat}{Q:VK}(hS:SqL K H p (zs.map V.str))(rc:Rect zs w)(hr:r<zs.length)(hc:c<w)(q:Q (.str ⟨#[codeAt zs (r,c)]⟩) H):rIx K (.str (zs.getD r Str.empty)) (.int (c:Int)) H Q:=by
 have e:=rc.row hr;exact .inr (.inr ⟨_,_,_,rfl,rfl,small (by have:=rc.w6;lia),Vy (by lia),q⟩)
theorem Tq{K:ao}{H:Hp}{p:Addr}{zs:List Str}{r:Nat}{Q:VK}(hS:SqL K H p (zs.map V.str))(hr:r<zs.length)(q:Q (.str (zs.getD r Str.empty)) H):rIx K (.ref p) (.int (r:Int)) H Q:=
 .inl ⟨p,_,_,_,rfl,rfl,hS,YF hr,q⟩
theorem Hu{H:Hp}(n:Nat):oZ (Itr 0 n) H ((List.range n).map fun i:Nat=>V.int (i:Int)):=by
 have h:=JG (H:=H) 0 n;have e:(((List.range n).map fun i:Nat=>(0:Int)+(i:Int)).map V.int)=(List.range n).map fun i:Nat=>V.int (i:Int):=by
  rw[qx];refine Am fun i _=>?_
  simp
 rw[e] at h;exact h
theorem aN.nats{K:ao}{H:Hp}:∀ l:List Nat,aN K H (l.map fun i:Nat=>V.int (i:Int)) (l.map fun i:Nat=>Dt.int (i:Int))
 |[]=>.nil
 |_::l=>.cons (.int _) (aN.nats l)
theorem dI{h w:Nat}{x:Cell}:x∈bI h w↔inF h w x:=by
 unfold bI inF;rw[KQ]
 constructor
 ·rintro⟨r,hr,hx⟩;obtain⟨c,hc,rfl⟩:=bW.mp hx;rw[dH] at hr hc;exact⟨⟨by show(0:Int)<=(r:Int);lia,by show(r:Int)<h;lia⟩,⟨by show(0:Int)<=(c:Int);lia,by show(c:Int)<w;lia⟩⟩
 ·rintro⟨⟨a,b⟩,⟨c,d⟩⟩;refine⟨x.1.toNat,dH.mpr (by lia),bW.mpr ⟨x.2.toNat,dH.mpr (by lia),?_⟩⟩;exact jN (by show((x.1.toNat:Nat):Int)=x.1;lia) (by show((x.2.toNat:Nat):Int)=x.2;lia)
theorem nT(h w:Nat):bI (h+1) w=bI h w++(List.range w).map fun c:Nat=>((h:Int),(c:Int)):=by
 unfold bI;rw[xJ,zW];simp
theorem dY(h w:Nat):(bI h w).length=h*w:=by
 induction h with
 |zero=>simp[bI]
 |succ h ih=>rw[nT,dB,ih,aU,qY,Nat.succ_mul]
theorem iI(h w:Int)(x:Cell):(dF h w x).length<=8:=by
 unfold dF;exact cP (iK _ _) (by rw[aU];decide)
theorem M6(h w:Int)(st:List Cell)(x:Cell):tQ h w st x<=8:=cP (iK _ _) (iI h w x)
theorem tY{h w:Int}{x y:Cell}(hy:y∈dF h w x):inF h w y:=by
 unfold dF at hy;exact cY (cB.mp hy).2
end L2
namespace L2
open PySem PySem.Spec PyProof.Rows
def K3(h w:Int)(st kn:List Cell)(x:Cell):Nat:=if x∈kn then 48+tQ h w st x else 35
def qT(h w:Int)(st kn:List Cell)(r:Int)(n:Nat):Str:=⟨((List.range n).map fun c:Nat=>K3 h w st kn (r,(c:Int))).toArray⟩
def vW(h w:Nat)(st kn:List Cell):List Str:=(List.range h).map fun r:Nat=>qT h w st kn (r:Int) w
theorem Tw(h w:Int)(st kn:List Cell)(r:Int)(n:Nat):qT h w st kn r (n+1)=qT h w st kn r n++⟨#[K3 h w st kn (r,(n:Int))]⟩:=by
 unfold qT;rw[xJ,dU];show(⟨_⟩:Str)=⟨_++_⟩;simp
theorem N6(h w:Int)(st kn:List Cell)(r:Int)(n:Nat):(qT h w st kn r n).length=n:=by
 show(((List.range n).map fun c:Nat=>K3 h w st kn (r,(c:Int))).toArray).size=n;simp
theorem dig:∀ n,n<=8->(Str.ofString (toString ((n:Nat):Int)):Str)=⟨#[48+n]⟩:=by
 intro n hn;have:=(by decide +kernel:∀ k∈List.range 9,(Str.ofString (toString ((k:Nat):Int)):Str)=⟨#[48+k]⟩)
 exact this n (dH.mpr (by lia))
theorem W2(n:Nat)(h:n<=8):((n:Nat):Int).natAbs.log2<1920:=by
 have e:((n:Nat):Int).natAbs=n:=Int.natAbs_natCast n;rw[e];have:=(by decide:∀ k∈List.range 9,k.log2<1920)
 exact this n (dH.mpr (by lia))
inductive Reach(h w:Int)(st kn:List Cell)(x0:Cell):Cell->Prop
 |base:Reach h w st kn x0 x0
 |step {x y:Cell}:Reach h w st kn x0 x->tQ h w st x=0->y∈dF h w x->y∉kn->Reach h w st kn x0 y
theorem Rj{h w:Int}{st:List Cell}{x y:Cell}(e:tQ h w st x=0)(hy:y∈dF h w x):y∉st:=by
 unfold tQ at e;intro hs;have:=Kf.mp e;have m:y∈(dF h w x).filter fun y=>decide (y∈st):=cB.mpr ⟨hy,bN hs⟩
 rw[this] at m;cases m
theorem Reach.inF{h w:Int}{st kn:List Cell}{x0 y:Cell}(h0:inF h w x0)(r:Reach h w st kn x0 y):L2.inF h w y:=by
 induction r with
 |base=>exact h0
 |step _ _ hy _ _=>exact tY hy
theorem Reach.free{h w:Int}{st kn:List Cell}{x0 y:Cell}(h0:x0∉st)(r:Reach h w st kn x0 y):y∉st:=by
 induction r with
 |base=>exact h0
 |step _ e hy _ _=>exact Rj e hy
theorem Reach.new{h w:Int}{st kn:List Cell}{x0 y:Cell}(h0:x0∉kn)(r:Reach h w st kn x0 y):y∉kn:=by
 cases r with
 |base=>exact h0
 |step _ _ _ hk=>exact hk
theorem GP(h w:Int)(x:Cell):(dF h w x).Nodup:=by
 unfold dF;refine Kw Ao ?_;unfold List.Nodup;rw[Fd];have o:offs.Pairwise (·≠·):=by decide
 refine o.imp fun {a b} hab e=>hab ?_
 have e1:=congrArg Prod.fst e;have e2:=congrArg Prod.snd e;simp only at e1 e2;exact jN (by lia) (by lia)
theorem kO{α:Type} [DecidableEq α]:∀ {l1 l2:List α},l1.Nodup->(∀ x∈l1,x∈l2)->l1.length<=l2.length
 |[],_,_,_=>lF _
 |a::l1,l2,hn,hs=>by
  have ha:=hs a cG;have hn':=wk.mp hn;have ih:=kO (l1:=l1) (l2:=l2.erase a) hn'.2 fun x hx=>(List.mem_erase_of_ne (fun e:x=a=>hn'.1 (by rw[<- e];exact hx))).mpr (hs x (dw _ hx))
  rw[List.length_erase_of_mem ha] at ih;have:0<l2.length:=Vc ha;rw[fO];lia
structure lJ(h w:Int)(st kn:List Cell)(x0:Cell)(cs:List Cell)(at_:Nat):Prop where
 nd:cs.Nodup
 has:x0∈cs
 rch:∀ y∈cs,Reach h w st kn x0 y
 le:at_<=cs.length
 cl:∀ i y,i<at_->cs[i]?=some y->tQ h w st y=0->∀ z∈dF h w y,z∈kn\/z∈cs
theorem lJ.done{h w:Int}{st kn:List Cell}{x0:Cell}{cs:List Cell}(o:lJ h w st kn x0 cs cs.length)(y:Cell):y∈cs↔Reach h w st kn x0 y:=by
 refine⟨o.rch y,fun r=>?_⟩
 induction r with
 |base=>exact o.has
 |step _ e hy hk ih=>
  obtain⟨i,hi⟩:=zT ih;have hlt:i<cs.length:=(j9.mp hi).1;rcases o.cl i _ hlt hi e _ hy with z|z
  ·exact absurd z hk
  ·exact z
theorem lJ.grow{h w:Int}{st kn:List Cell}{x0 x:Cell}{cs:List Cell}{n:Nat}(o:lJ h w st kn x0 cs n)(hx:cs[n]?=some x)(e:tQ h w st x=0) :
  lJ h w st kn x0 (cs++(dF h w x).filter fun y=>!decide (y∈kn)&&!decide (y∈cs)) (n+1):=by
 have hn:n<cs.length:=(j9.mp hx).1;have mem:∀ y,y∈((dF h w x).filter fun y=>!decide (y∈kn)&&!decide (y∈cs))↔y∈dF h w x/\y∉kn/\y∉cs:=fun y=>by
  rw[cB];simp
 refine⟨?_,j7 _ o.has,fun y hy=>?_,by rw[dB];lia,fun i y hi hy e' z hz=>?_⟩
 ·refine xr.mpr ⟨o.nd,Kw Ao (GP h w x),fun a ha b hb hab=>?_⟩;rw[<- hab] at hb;exact((mem a).mp hb).2.2 ha
 ·rcases cO.mp hy with z|z
  ·exact o.rch y z
  ·obtain⟨z1,z2,z3⟩:=(mem y).mp z;exact .step (o.rch x (fB hx)) e z1 z2
 ·have hi':i<cs.length:=by lia
  rw[Cu hi'] at hy;by_cases hin:i=n
  ·subst hin;rw[hx] at hy;cases hy;by_cases zk:z∈kn
   ·exact .inl zk
   ·by_cases zc:z∈cs
    ·exact .inr (j7 _ zc)
    ·exact .inr (j6 _ ((mem z).mpr ⟨hz,zk,zc⟩))
  ·rcases o.cl i y (by lia) hy e' z hz with q|q
   ·exact .inl q
   ·exact .inr (j7 _ q)
theorem lJ.skip{h w:Int}{st kn:List Cell}{x0 x:Cell}{cs:List Cell}{n:Nat}(o:lJ h w st kn x0 cs n)(hx:cs[n]?=some x)(e:tQ h w st x≠0):lJ h w st kn x0 cs (n+1):=by
 have hn:n<cs.length:=(j9.mp hx).1;refine⟨o.nd,o.has,o.rch,hn,fun i y hi hy e' z hz=>?_⟩;by_cases hin:i=n
 ·subst hin;rw[hx] at hy;cases hy;exact absurd e' e
 ·exact o.cl i y (by lia) hy e' z hz
theorem lJ.len{h w:Nat}{st kn:List Cell}{x0:Cell}{cs:List Cell}{n:Nat}(o:lJ h w st kn x0 cs n)(h0:inF h w x0)(h6:h<=6)(w6:w<=6):cs.length<=36:=by
 have:=kO (l2:=bI h w) o.nd fun y hy=>dI.mpr ((o.rch y hy).inF h0)
 rw[dY] at this;have:h*w<=6*6:=lX h6 w6;lia
end L2
namespace L2
open PySem PySem.Spec PyProof.Rows
theorem Za{sg:Str}{c:Nat}(h:c∉sg.cps.toList):inS sg c=false:=by
 unfold inS;rw[PySem.W.occ_nil_of_no sg ⟨#[c]⟩ 1 fun i hi=>?_]
 ·rfl
 ·cases e:Builtin.Str.subAt sg ⟨#[c]⟩ i with
  |false=>rfl
  |true=>
   refine absurd ?_ h;have e':sg.cps.extract i (i+1)=#[c]:=j8.mp e;have hm:c∈sg.cps.extract i (i+1):=by rw[e'];simp
   obtain⟨k,hk,e2⟩:=Array.mem_extract_iff_getElem.mp hm;rw[<- e2];exact Kd _
theorem Jo{sg:Str}(h:sg.cps.toList.all (inS sg)=true)(c:Nat):inS sg c=decide (c∈sg.cps.toList):=by
 by_cases hc:c∈sg.cps.toList
 ·rw[bN hc];exact uI.mp h c hc
 ·rw[bZ hc];exact Za hc
def zE(c:Nat):Bool:=decide (c=35\/(48<=c/\c<=56))
theorem W7(c:Nat):inS "#012345678" c=zE c:=by
 rw[Jo (by decide +kernel)];have e:("#012345678" : Str).cps.toList=[35,48,49,50,51,52,53,54,55,56]:=by decide +kernel
 rw[e];by_cases h:c<57
 ·exact(by decide +kernel:∀ k∈List.range 57,decide (k∈[35,48,49,50,51,52,53,54,55,56])=zE k) c (dH.mpr h)
 ·have n1:¬c∈[35,48,49,50,51,52,53,54,55,56]:=fun z=>h ((by decide:∀ k∈[35,48,49,50,51,52,53,54,55,56],k<57) c z)
  have n2:zE c=false:=by unfold zE;exact bZ (by lia)
  rw[bZ n1,n2]
theorem Rr(c:Nat):inS "#" c=decide (c=35):=by
 rw[Jo (by decide +kernel)];have e:("#" : Str).cps.toList=[35]:=by decide +kernel
 rw[e];simp
structure Vw(zs:List Str)(w:Nat):Prop extends Rect zs w where
 sg:∀ z∈zs,∀ c∈z.cps.toList,zE c=true
theorem TY{h w:Nat}{st kn:List Cell}(h1:1<=h)(h6:h<=6)(w1:1<=w)(w6:w<=6):Vw (vW h w st kn) w:=by
 have hl:(vW h w st kn).length=h:=by unfold vW;rw[aU,qY]
 refine⟨⟨by lia,by lia,w1,w6,fun z hz=>?_⟩,fun z hz c hc=>?_⟩
 ·obtain⟨r,_,rfl⟩:=bW.mp hz;exact N6 _ _ _ _ _ _
 ·obtain⟨r,_,rfl⟩:=bW.mp hz;unfold qT at hc;simp only[bW] at hc;obtain⟨k,_,rfl⟩:=hc;unfold K3 zE;have:=M6 h w st ((r:Int),(k:Int));split
  ·exact bN (.inr ⟨by lia,by lia⟩)
  ·exact bN (.inl rfl)
end L2
namespace L2
open PySem PySem.Spec PyProof.Rows
def zf(z:Str)(n:Int):Bool:=decide ((z.length:Int)=n)&&z.cps.toList.all (inS "#012345678")
def wW:List Str->Bool
 |[]=>false
 |z::zs=>decide ((z::zs).length<=6)&&decide (1<=z.length/\z.length<=6)&&(z::zs).all fun r=>zf r z.length
theorem zN{z:Str}{zs:List Str}(h1:(z::zs).length<=6)(h2:1<=z.length)(h3:z.length<=6):wW (z::zs)=(z::zs).all fun r=>zf r z.length:=by
 show(decide ((z::zs).length<=6)&&decide (1<=z.length/\z.length<=6)&&_)=_;rw[bN h1,bN (And.intro h2 h3)];rfl
theorem K7{z:Str}{zs:List Str}(h1:¬(z::zs).length<=6):wW (z::zs)=false:=by
 show(decide ((z::zs).length<=6)&&_&&_)=_;rw[bZ h1];rfl
theorem K8{z:Str}{zs:List Str}(h1:¬(1<=z.length/\z.length<=6)):wW (z::zs)=false:=by
 show(_&&decide (1<=z.length/\z.length<=6)&&_)=_;rw[bZ h1,Ae];rfl
theorem Vw.ok{zs:List Str}{w:Nat}(v:Vw zs w):wW zs=true:=by
 obtain⟨z,zt,rfl,hz⟩:=v.toRect.head;rw[zN v.le (by have:=v.w1;lia) (by have:=v.w6;lia),uI];intro r hr;unfold zf;rw[bN (by rw[v.len r hr,hz]),sJ,uI];intro c hc;rw[W7];exact v.sg r hr c hc
def wK(l:Addr)(h w:Int):List (Str×V):=jH "width" (.int w) (jH "height" (.int h) (jH "rows" (.ref l) []))
theorem Rh(l:Addr)(h w:Int):(wK l h w).lookup ("rows" : Str)=some (.ref l):=by
 unfold wK;rw[fP,aG (by decide +kernel),fP,aG (by decide +kernel),fP,aK rfl]
theorem yP(l:Addr)(h w:Int):(wK l h w).lookup ("height" : Str)=some (.int h):=by
 unfold wK;rw[fP,aG (by decide +kernel),fP,aK rfl]
theorem Dp(l:Addr)(h w:Int):(wK l h w).lookup ("width" : Str)=some (.int w):=by
 unfold wK;rw[fP,aK rfl]
structure dM(C:Addr)(H:Hp)(x:Addr)(zs:List Str)(w:Nat):Prop where
 ob:∃ dx l,H x=some (.ins C dx (wK l zs.length w))/\H l=some (.lst (zs.map V.str))
 vw:Vw zs w
theorem dM.mono{C:Addr}{H H':Hp}{x:Addr}{zs:List Str}{w:Nat}(v:dM C H x zs w)(s:Same H H'):dM C H' x zs w:=let ⟨dx,l,a,b⟩:=v.ob;⟨⟨dx,l,s _ _ a,s _ _ b⟩,v.vw⟩
def aR(zs:List Str)(w:Nat)(x:Cell):Bool:=decide (inF zs.length w x)&&decide (codeAt zs (x.1.toNat,x.2.toNat)=35)
def bQ(zs:List Str)(w:Nat):List Cell:=(bI zs.length w).filter (aR zs w)
theorem tD(zs:List Str)(w:Nat):bQ zs w=uW zs w "#":=by
 unfold bQ uW bI;rw[List.filter_flatMap];have key:∀ r∈List.range zs.length,((List.range w).map fun c:Nat=>((r:Int),(c:Int))).filter (aR zs w)=((List.range w).filter fun c=>inS "#" (codeAt zs (r,c))).map fun c:Nat=>((r:Int),(c:Int)):=by
  intro r hr;rw[List.filter_map];congr 1;refine KC fun c hc=>?_
  rw[dH] at hr hc;show aR zs w ((r:Int),(c:Int))=_;unfold aR;rw[Rr,bN (show inF zs.length w ((r:Int),(c:Int)) from⟨⟨by show(0:Int)<=(r:Int);lia,by show(r:Int)<zs.length;lia⟩,⟨by show(0:Int)<=(c:Int);lia,by show(c:Int)<w;lia⟩⟩),sJ]
  rfl
 have go:∀ l:List Nat,(∀ r∈l,r∈List.range zs.length)->l.flatMap (fun r:Nat=>((List.range w).map fun c:Nat=>((r:Int),(c:Int))).filter (aR zs w))=l.flatMap (fun r:Nat=>((List.range w).filter fun c=>inS "#" (codeAt zs (r,c))).map fun c:Nat=>((r:Int),(c:Int))):=by
  intro l
  induction l with
  |nil=>intro _;rfl
  |cons a l ih=>intro h;rw[uG,uG,key a (h a cG),ih fun r hr=>h r (dw _ hr)]
 exact go _ fun r hr=>hr
def xX(w:Nat)(x:Cell)(r:Int):List Cell:=((List.range ((min (x.2+2) w)-(max (x.2-1) 0)).toNat).map fun k:Nat=>(r,max (x.2-1) 0+(k:Int))).filter fun y=>!decide (y=x)
def nZ(w:Nat)(x:Cell)(lo:Int)(n:Nat):List Cell:=(List.range n).flatMap fun k:Nat=>xX w x (lo+(k:Int))
def JK(h w:Nat)(x:Cell):List Cell:=nZ w x (max (x.1-1) 0) ((min (x.1+2) h)-(max (x.1-1) 0)).toNat
theorem Qa:∀ h∈List.range 7,∀ w∈List.range 7,∀ r∈List.range h,∀ c∈List.range w,JK h w ((r:Int),(c:Int))=dF h w ((r:Int),(c:Int)):=by decide +kernel
theorem SX{h w:Nat}{x:Cell}(h6:h<=6)(w6:w<=6)(hx:inF h w x):JK h w x=dF h w x:=by
 obtain⟨⟨a,b⟩,⟨c,d⟩⟩:=hx;have:=Qa h (dH.mpr (by lia)) w (dH.mpr (by lia)) x.1.toNat (dH.mpr (by lia)) x.2.toNat (dH.mpr (by lia));have e:(((x.1.toNat:Nat):Int),((x.2.toNat:Nat):Int))=x:=jN (by show((x.1.toNat:Nat):Int)=x.1;lia) (by show((x.2.toNat:Nat):Int)=x.2;lia);rw[e] at this;exact this
def aL(zs:List Str)(w:Nat)(x:Cell):List Cell:=(dF zs.length w x).filter fun y=>!aR zs w y
def aB(zs:List Str)(w:Nat)(x:Cell):List Cell:=(dF zs.length w x).filter fun y=>aR zs w y
end L2
namespace L2
open PySem PySem.Spec PyProof.Rows PySem.W
section
variable{prog:Program}{w:World}{A:Around}{E:Value->Shared->Prop}{s:Shared}
abbrev Keeps(h h':Heap):Prop:=∀ b o,h.get? b=some o->h'.get? b=some o
end
def bK(a b:Cell):Prop:=a.1<b.1\/(a.1=b.1/\a.2<b.2)
instance(a b:Cell):Decidable (bK a b):=by unfold bK;infer_instance
section
variable{X:Cx}
theorem pC{pins:List (Addr×Obj)}{zzs:L2.St}{H:Hp}{s:Shared}{v:V}{u:Value}{c:Cell}(I:Inv X pins zzs H s)(d:Den X.K H v (aA c))(r:RelV v u):∃(a:Addr)(o:Obj)(t t':Tok)(n:Nat),u=.ref a/\s.heap.get? a=some o/\o.cls=.type "tuple" /\ o.data=.seq #[.int c.1 t,.int c.2 t'] n:=by
 obtain⟨a,rfl,ht,_⟩:=fH d
 cases r
 obtain⟨its,rv,⟨o,e,hc,n,hd⟩,_⟩:=I.tuple ht;obtain⟨u1,u2,rfl,⟨t,rfl⟩,⟨t',rfl⟩⟩:=vals2 rv;exact⟨a,o,t,t',n,rfl,e,hc,hd⟩
end
end L2
namespace L2
open PySem PySem.Spec PyProof.Rows
end L2
namespace L2
open PySem PySem.Spec PyProof.Rows PySem.W
structure jz{α:Type}(lt:α->α->Bool):Prop where
 Gd:∀ a b,lt a b=true->lt b a=false
 tr:∀ a b c,lt b a=false->lt c b=false->lt c a=false
 anti:∀ a b,lt a b=false->lt b a=false->a=b
theorem jz.refl{α:Type}{lt:α->α->Bool}(o:jz lt)(a:α):lt a a=false:=by
 cases h:lt a a
 ·rfl
 ·rw[<- h];exact o.Gd a a h▸rfl
structure Good(N:Nat)(p:Array Nat):Prop where
 perm:p.toList.Perm (List.range N)
theorem Good.size{N:Nat}{p:Array Nat}(g:Good N p):p.size=N:=by
 have:=g.perm.length_eq;simpa using this
section
variable{α:Type}{lt:α->α->Bool}{f:Nat->α}{N:Nat}{s:Shared}{cmp:Nat->Nat->(Bool->Shared->Prop)->Shared->Prop}
def Ky(f:Nat->α)(p:Array Nat)(i:Nat):α:=f (p.getD i 0)
def G9(lt:α->α->Bool)(f:Nat->α)(p:Array Nat)(n:Nat):Prop:=∀ i,i+1<n->lt (Ky f p (i+1)) (Ky f p i)=false
theorem G9.le(o:jz lt){p:Array Nat}{n:Nat}(u:G9 lt f p n):∀ d i,i+d<n->lt (Ky f p (i+d)) (Ky f p i)=false:=by
 intro d
 induction d with
 |zero=>intro i _;exact o.refl _
 |succ d ih=>intro i h;exact o.tr _ _ _ (ih i (by lia)) (u (i+d) (by omega))
end
end L2
namespace L2
open PySem PySem.Spec PyProof.Rows PySem.W
namespace TS
def el(xs:Array Keyed)(i:Nat):Keyed:=xs.getD i (Value.none,Value.none)
theorem vg{xs:Array Keyed}{i:Nat}(h:i<xs.size):el xs i∈xs.toList:=by
 unfold el;rw[lV,j5 h];exact Kd h
theorem nR{xs:Array Keyed}{i:Nat}(h:i<xs.size):xs[i]?=some (el xs i):=by
 unfold el;rw[lV,j5 h];rfl
section
variable{α:Type}{lt:α->α->Bool}{M:Model}{A:Around}{E:Value->Shared->Prop}{s:Shared}{κ:SortKind}{key:Keyed->α}{a₀:Array Keyed}
structure Env(M:Model)(A:Around)(s:Shared)(κ:SortKind)(key:Keyed->α)(lt:α->α->Bool)(a₀:Array Keyed):Prop where
 o:jz lt
 ask:∀ x y,x∈a₀.toList->y∈a₀.toList->∀ C:Bool->Shared->Prop,C (lt (key x) (key y)) s->wpAny M A (keyLt' κ x.1 y.1) C (fun _ _=>False) s
def Srt(lt:α->α->Bool)(key:Keyed->α)(xs:Array Keyed)(i j:Nat):Prop:=∀ p q,i<=p->p<=q->q<j->lt (key (el xs q)) (key (el xs p))=false
def Fal(lt:α->α->Bool)(key:Keyed->α)(xs:Array Keyed)(i j:Nat):Prop:=∀ p q,i<=p->p<=q->q<j->lt (key (el xs p)) (key (el xs q))=false
theorem Ij(e:Env M A s κ key lt a₀){x y:Keyed}(hx:x∈a₀.toList)(hy:y∈a₀.toList){st:SortSt}(hk:kindOf st=κ){Q:Option Bool->SortSt->Prop}(h:Q (some (lt (key x) (key y))) st):wpS M A E s (lt' x y) Q st:=by
 rw[lt'_eq];refine aQ (jO ?_);rw[hk];refine aQ (sX (wpAny_attempt (iM (e.ask x y hx hy (fun b s'=>s'=s/\b=lt (key x) (key y)) ⟨rfl,rfl⟩) ?_ fun _ _ z=>z.elim)));rintro b s' ⟨rfl,rfl⟩;exact⟨rfl,aX h⟩
theorem dj{xs:Array Keyed}{i:Nat}(h:i<xs.size){st:SortSt}{Q:Keyed->SortSt->Prop}(q:Q (el xs i) st):wpS M A E s (elem' xs i) Q st:=by
 rw[elem'_eq,nR h];exact aX q
theorem yZ{xs:Array Keyed}(hp:xs.Perm a₀){i:Nat}(h:i<a₀.size):el xs i∈a₀.toList:=
 hp.toList.mem_iff.mp (vg (by rw[hp.size_eq];exact h))
theorem qQ(e:Env M A s κ key lt a₀){st:SortSt}(hk:kindOf st=κ)(hp:(arrOf st).Perm a₀){i j:Nat}(hi:i<a₀.size)(hj:j<a₀.size){Q:Option Bool->SortSt->Prop}(h:Q (some (lt (key (el (arrOf st) i)) (key (el (arrOf st) j)))) st):wpS M A E s (ltAt' i j) Q st:=by
 rw[ltAt'_eq];refine aQ (jO ?_);exact aQ (dj (by rw[hp.size_eq];exact hi) (aQ (dj (by rw[hp.size_eq];exact hj) (Ij e (yZ hp hi) (yZ hp hj) hk h))))
theorem mJ{xs ys:Array Keyed}{i j:Nat}(h:xs[i]?=ys[j]?):el xs i=el ys j:=by
 unfold el;rw[lV,lV,h]
theorem qD{xs:Array Keyed}{i j:Nat}(hj:j<=xs.size)(k:Nat):el (mirror xs i j ((j-i) / 2)) k=if i<=k/\k<j then el xs (i+j-1-k) else el xs k:=by
 have e:=getElem?_mirror_all (i:=i) hj k;by_cases h1:i<=k/\k<j
 ·rw[aK h1] at e ⊢;exact mJ e
 ·rw[aG h1] at e ⊢;exact mJ e
theorem vd{xs:Array Keyed}{a d:Nat}(hs:a<xs.size)(hd:d<=a)(k:Nat):el (bubble xs a d) k=if k=a-d then el xs a else if a-d<k/\k<=a then el xs (k-1) else el xs k:=by
 have e:=getElem?_bubble hs d hd k;by_cases h1:k=a-d
 ·rw[aK h1] at e ⊢;exact mJ e
 ·rw[aG h1] at e ⊢;by_cases h2:a-d<k/\k<=a
  ·rw[aK h2] at e ⊢;exact mJ e
  ·rw[aG h2] at e ⊢;exact mJ e
def Low(xs ys:Array Keyed)(lo:Nat):Prop:=∀ i,i<lo->el xs i=el ys i
theorem Low.refl{xs:Array Keyed}{lo:Nat}:Low xs xs lo:=fun _ _=>rfl
theorem Low.trans{xs ys zs:Array Keyed}{lo:Nat}(h:Low xs ys lo)(g:Low ys zs lo):Low xs zs lo:=fun i hi=>(h i hi).trans (g i hi)
theorem nW{xs:Array Keyed}{i j lo:Nat}(hj:j<=xs.size)(h:lo<=i):Low (mirror xs i j ((j-i) / 2)) xs lo:=fun k hk=>by
 rw[qD hj,aG (by lia)]
def asl(lo m z:Nat):StateT SortSt Sem (Option Nat):=do
 let mut m:=m
 for _ in [m:z] do
  let some u <- ltAt' (lo+m) (lo+m-1)|return none
  if u then break
  m:=m+1
 return some m
def dsl(lo m z:Nat):StateT SortSt Sem (Option Nat):=do
 (rule "list.sort.descending-run" : Sem Unit)
 let mut m:=m+1
 let mut q:=0
 for _ in [m:z] do
  let some u <- ltAt' (lo+m) (lo+m-1)|return none
  if u then
   if q>0 then reverseSlice' (lo+m-(q+1)) (lo+m)
   q:=0
  else
   let some v <- ltAt' (lo+m-1) (lo+m)|return none
   if v then break
   q:=q+1
  m:=m+1
 if q>0 then
  reverseSlice' (lo+m-(q+1)) (lo+m)
  reverseSlice' lo (lo+m)
  asl lo m z
 else
  reverseSlice' lo (lo+m)
  asl lo m z
theorem Srt.one{xs:Array Keyed}{i:Nat}(o:jz lt):Srt lt key xs i (i+1):=fun p q a b c=>by
 have:p=q:=by lia
 subst this;exact o.refl _
theorem Srt.more{xs:Array Keyed}{lo x:Nat}(o:jz lt)(h1:1<=x)(hs:Srt lt key xs lo (lo+x))(hl:lt (key (el xs (lo+x))) (key (el xs (lo+x-1)))=false):Srt lt key xs lo (lo+(x+1)):=fun p q a b c=>by
 by_cases hq:q<lo+x
 ·exact hs p q a b hq
 ·have:q=lo+x:=by lia
  subst this;by_cases hp:p=lo+x
  ·subst hp;exact o.refl _
  ·exact o.tr _ _ _ (hs p (lo+x-1) a (by lia) (by lia)) hl
theorem Fal.more{xs:Array Keyed}{lo x:Nat}(o:jz lt)(h1:1<=x)(hs:Fal lt key xs lo (lo+x))(hl:lt (key (el xs (lo+x-1))) (key (el xs (lo+x)))=false):Fal lt key xs lo (lo+(x+1)):=fun p q a b c=>by
 by_cases hq:q<lo+x
 ·exact hs p q a b hq
 ·have:q=lo+x:=by lia
  subst this;by_cases hp:p=lo+x
  ·subst hp;exact o.refl _
  ·exact o.tr _ _ _ hl (hs p (lo+x-1) a (by lia) (by lia))
theorem Az{b:Bool}(h:¬b=true):b=false:=by cases b<;>simp_all
theorem a0J(e:Env M A s κ key lt a₀){st:SortSt}(hk:kindOf st=κ)(hp:(arrOf st).Perm a₀){lo m z:Nat}(h1:1<=m)(h2:m<=z)(hz:lo+z<=a₀.size){Q:Option Nat->SortSt->Prop}(hs:Srt lt key (arrOf st) lo (lo+m))
  (h:∀ n,1<=n->n<=z->Srt lt key (arrOf st) lo (lo+n)->Q (some n) st):wpS M A E s (asl lo m z) Q st:=by
 unfold asl;refine aQ (jh (jg (I:=fun x c st'=>st'=st/\c=(none,x)/\Srt lt key (arrOf st) lo (lo+x))
  (Q:=fun c st'=>st'=st/\∃ x,c=(none,x)/\1<=x/\x<=z/\Srt lt key (arrOf st) lo (lo+x)) ?step ?fin ?init) ?post)
 case init=>exact⟨rfl,rfl,hs⟩
 case fin=>
  rintro c st' ⟨rfl,rfl,g⟩;rw[show max m z=z by lia] at g ⊢;exact⟨rfl,z,rfl,by lia,bR _,g⟩
 case step=>
  rintro x c st' hax hxn ⟨rfl,rfl,hs⟩;dsimp only;refine aQ (qQ e hk hp (by lia) (by lia) ?_);dsimp only;by_cases hb:lt (key (el (arrOf st') (lo+x))) (key (el (arrOf st') (lo+x-1)))=true
  ·rw[aK hb];exact aX ⟨rfl,x,rfl,by lia,by lia,hs⟩
  ·rw[aG hb];exact aX ⟨rfl,rfl,hs.more e.o (by lia) (Az hb)⟩
 case post=>
  rintro c st' ⟨rfl,x,rfl,a1,a2,hs⟩;exact aX (h x a1 a2 hs)
theorem En{st:SortSt}{i j:Nat}{Q:Unit->SortSt->Prop}(h:Q () (setArr st (mirror (arrOf st) i j ((j-i) / 2)))):wpS M A E s (reverseSlice' i j) Q st:=by
 rw[reverseSlice'_eq];exact nj h
theorem vf{xs:Array Keyed}{i j:Nat}(hj:j<=xs.size)(he:∀ k,i<=k->k<j->key (el xs k)=key (el xs (j-1)))(k:Nat):key (el (mirror xs i j ((j-i) / 2)) k)=key (el xs k):=by
 rw[qD hj];by_cases h:i<=k/\k<j
 ·rw[aK h,he _ (by lia) (by lia),he k h.1 h.2]
 ·rw[aG h]
theorem Uw(e:Env M A s κ key lt a₀){st:SortSt}(hk:kindOf st=κ)(hp:(arrOf st).Perm a₀){lo m z:Nat}(h2:m+1<=z)(hz:lo+z<=a₀.size){Q:Option Nat->SortSt->Prop}(hs:Fal lt key (arrOf st) lo (lo+(m+1)))
  (h:∀ n xs,xs.Perm a₀->Low xs (arrOf st) lo->1<=n->n<=z->Srt lt key xs lo (lo+n)->Q (some n) (setArr st xs)):wpS M A E s (dsl lo m z) Q st:=by
 unfold dsl;refine aQ (sX (sW ⟨rfl,?_⟩))
 let Eq:Array Keyed->Nat->Nat->Prop:=fun xs x q=>∀ i,lo+x-(q+1)<=i->i<lo+x->key (el xs i)=key (el xs (lo+x-1))
 refine aQ (jh (jg (I:=fun x c st'=>∃ xs q,st'=setArr st xs/\c=(none,x,q)/\xs.Perm a₀/\Low xs (arrOf st) lo/\Fal lt key xs lo (lo+x)/\q+1<=x/\Eq xs x q)
  (Q:=fun c st'=>∃ xs x q,st'=setArr st xs/\c=(none,x,q)/\xs.Perm a₀/\Low xs (arrOf st) lo/\1<=x/\x<=z/\Fal lt key xs lo (lo+x)/\q+1<=x/\Eq xs x q) ?step ?fin ?init) ?post)
 case init=>
  refine⟨arrOf st,0,rfl,rfl,hp,Low.refl,hs,by lia,fun i a b=>?_⟩;have:i=lo+(m+1)-1:=by lia
  rw[this]
 case fin=>
  rintro c st' ⟨xs,q,rfl,rfl,a1,a2,a3,a4,a5⟩;rw[show max (m+1) z=z by lia] at a3 a4 a5 ⊢;exact⟨xs,z,q,rfl,rfl,a1,a2,by lia,bR _,a3,a4,a5⟩
 case step=>
  rintro x c st' hax hxn ⟨xs,q,rfl,rfl,a1,a2,a3,a4,a5⟩;have sz:xs.size=a₀.size:=a1.size_eq;dsimp only;refine aQ (qQ e (st:=setArr st xs) hk a1 (by lia) (by lia) ?_);dsimp only;show wpS M A E s _ _ (setArr st xs);by_cases hb:lt (key (el xs (lo+x))) (key (el xs (lo+x-1)))=true
  ·rw[aK hb];have one:∀ ys:Array Keyed,Eq ys (x+1) 0:=fun ys i a b=>by
    have:i=lo+(x+1)-1:=by lia
    rw[this]
   have fm:∀ ys:Array Keyed,(∀ k,key (el ys k)=key (el xs k))->Fal lt key ys lo (lo+(x+1)):=fun ys hy=>by
    have:=a3.more e.o (by lia) (e.o.Gd _ _ hb);intro p q b1 b2 b3;rw[hy,hy];exact this p q b1 b2 b3
   by_cases hq:q>0
   ·rw[aK hq];refine aQ (En (aX ⟨_,0,rfl,rfl,(Ah _ _ _ _).trans a1,(nW (by show _<=xs.size;lia) (by lia)).trans a2,fm _ (vf (by show _<=xs.size;lia) a5),by lia,one _⟩))
   ·rw[aG hq];exact aX ⟨xs,0,rfl,rfl,a1,a2,fm _ fun _=>rfl,by lia,one _⟩
  ·rw[aG hb];refine aQ (qQ e (st:=setArr st xs) hk a1 (by lia) (by lia) ?_);dsimp only;show wpS M A E s _ _ (setArr st xs);by_cases hd:lt (key (el xs (lo+x-1))) (key (el xs (lo+x)))=true
   ·rw[aK hd];exact aX ⟨xs,x,q,rfl,rfl,a1,a2,by lia,by lia,a3,a4,a5⟩
   ·rw[aG hd];have ek:key (el xs (lo+x))=key (el xs (lo+x-1)):=e.o.anti _ _ (Az hb) (Az hd);refine aX ⟨xs,q+1,rfl,rfl,a1,a2,a3.more e.o (by lia) (Az hd),by lia,fun i b1 b2=>?_⟩;rw[show lo+(x+1)-1=lo+x by lia];by_cases hi:i=lo+x
    ·rw[hi]
    ·rw[ek];exact a5 i (by lia) (by lia)
 case post=>
  rintro c st' ⟨xs,x,q,rfl,rfl,a1,a2,a3,a4,a5,a6,a7⟩;have sz:xs.size=a₀.size:=a1.size_eq;dsimp only;have fin:∀ ys:Array Keyed,ys.Perm a₀->Low ys (arrOf st) lo->(∀ k,key (el ys k)=key (el xs k))->wpS M A E s (reverseSlice' lo (lo+x) >>= fun _=>asl lo x z) Q (setArr st ys):=fun ys hy ly ky=>by
   have sy:ys.size=a₀.size:=hy.size_eq;refine aQ (En ?_);show wpS M A E s _ _ (setArr st (mirror ys lo (lo+x) ((lo+x-lo) / 2)));refine a0J e (st:=setArr st (mirror ys lo (lo+x) ((lo+x-lo) / 2))) hk (show(mirror ys lo (lo+x) ((lo+x-lo) / 2)).Perm a₀ from(Ah _ _ _ _).trans hy) a3 a4 hz ?_ fun n n1 n2 n3=>h n _ ((Ah _ _ _ _).trans hy) ((nW (by lia) (bR _)).trans ly) n1 n2 n3
   intro p q b1 b2 b3;show lt (key (el (mirror ys lo (lo+x) ((lo+x-lo) / 2)) q)) (key (el (mirror ys lo (lo+x) ((lo+x-lo) / 2)) p))=false;rw[qD (by lia),qD (by lia),aK (by lia),aK (by lia),ky,ky];exact a5 _ _ (by lia) (by lia) (by lia)
  by_cases hq:q>0
  ·rw[aK hq];refine aQ (En (fin _ ((Ah _ _ _ _).trans a1) ((nW (by show _<=xs.size;lia) (by lia)).trans a2) (vf (by show _<=xs.size;lia) a7)))
  ·rw[aG hq];exact fin xs a1 a2 fun _=>rfl
theorem Uv(e:Env M A s κ key lt a₀){st:SortSt}(hk:kindOf st=κ)(hp:(arrOf st).Perm a₀){lo z:Nat}(h1:1<=z)(hz:lo+z<=a₀.size){Q:Option Nat->SortSt->Prop}
  (h:∀ m xs,xs.Perm a₀->Low xs (arrOf st) lo->1<=m->m<=z->Srt lt key xs lo (lo+m)->Q (some m) (setArr st xs)):wpS M A E s (countRun' lo z) Q st:=by
 rw[countRun'_eq];have sz:(arrOf st).size=a₀.size:=hp.size_eq;refine aQ (jh (jg (I:=fun x c st'=>st'=st/\c=(none,x)/\Srt lt key (arrOf st) lo (lo+x))
  (Q:=fun c st'=>st'=st/\∃ x,c=(none,x)/\1<=x/\x<=z/\Srt lt key (arrOf st) lo (lo+x)/\(x<z->lt (key (el (arrOf st) (lo+x))) (key (el (arrOf st) (lo+x-1)))=true)) ?step ?fin ?init) ?post)
 case init=>exact⟨rfl,rfl,Srt.one e.o⟩
 case fin=>
  rintro c st' ⟨rfl,rfl,g⟩;rw[show max 1 z=z by lia] at g ⊢;exact⟨rfl,z,rfl,by omega,bR _,g,fun a=>absurd a (qu _)⟩
 case step=>
  rintro x c st' hax hxn ⟨rfl,rfl,hs⟩;dsimp only;refine aQ (qQ e hk hp (by lia) (by lia) ?_);dsimp only;by_cases hb:lt (key (el (arrOf st') (lo+x))) (key (el (arrOf st') (lo+x-1)))=true
  ·rw[aK hb];exact aX ⟨rfl,x,rfl,by omega,by lia,hs,fun _=>hb⟩
  ·rw[aG hb];exact aX ⟨rfl,rfl,hs.more e.o (by omega) (Az hb)⟩
 case post=>
  rintro c st' ⟨rfl,x,rfl,a1,a2,hs,hl⟩;dsimp only;have own:Q (some x) st':=h x (arrOf st') hp Low.refl a1 a2 hs;by_cases hx:x=z
  ·rw[aK (by simpa using hx)];exact aX own
  ·rw[aG (by simpa using hx)];have hl':=hl (by lia);by_cases hg:x>1
   ·rw[aK hg];refine aQ (qQ e hk hp (by lia) (by lia) ?_);dsimp only;by_cases hb:lt (key (el (arrOf st') lo)) (key (el (arrOf st') (lo+x-1)))=true
    ·rw[aK hb];exact aX own
    ·rw[aG hb];have hall:∀ k,lo<=k->k<lo+x->key (el (arrOf st') k)=key (el (arrOf st') (lo+x-1)):=fun k c1 c2=>
      e.o.anti _ _ (e.o.tr _ _ _ (Az hb) (hs lo k (bR _) c1 c2)) (hs k (lo+x-1) c1 (by lia) (by lia))
     refine aQ (En ?_);have hm:(mirror (arrOf st') lo (lo+x) ((lo+x-lo) / 2)).Perm a₀:=(Ah _ _ _ _).trans hp;have lm:Low (mirror (arrOf st') lo (lo+x) ((lo+x-lo) / 2)) (arrOf st') lo:=nW (by lia) (bR _);change wpS M A E s (dsl lo x z) Q _;refine Uw e (st:=setArr st' (mirror (arrOf st') lo (lo+x) ((lo+x-lo) / 2))) hk (show(mirror (arrOf st') lo (lo+x) ((lo+x-lo) / 2)).Perm a₀ from hm) (by lia) hz ?_ fun n xs b1 b2 b3 b4 b5=>h n xs b1 (b2.trans lm) b3 b4 b5
     show Fal lt key (mirror (arrOf st') lo (lo+x) ((lo+x-lo) / 2)) lo (lo+(x+1));refine Fal.more e.o (by omega) (fun p q b1 b2 b3=>?_) ?_
     ·rw[vf (by lia) hall,vf (by lia) hall,hall p (by omega) (by lia),hall q (by lia) (by omega)];exact e.o.refl _
     ·rw[vf (by lia) hall,vf (by lia) hall];exact e.o.Gd _ _ hl'
   ·rw[aG hg];change wpS M A E s (dsl lo x z) Q _;refine Uw e hk hp (by lia) hz ?_ h;have:x=1:=by lia
    subst this;refine Fal.more e.o (by omega) (fun p q b1 b2 b3=>?_) (e.o.Gd _ _ hl');have:p=q:=by lia
    subst this;exact e.o.refl _
theorem a0K(e:Env M A s κ key lt a₀){st:SortSt}(hk:kindOf st=κ)(hp:(arrOf st).Perm a₀){lo n m:Nat}(hm:1<=m)(hmn:m<=n)(hz:lo+n<=a₀.size){Q:Bool->SortSt->Prop}(hs:Srt lt key (arrOf st) lo (lo+m))
  (h:∀ xs,xs.Perm a₀->Low xs (arrOf st) lo->Srt lt key xs lo (lo+n)->Q true (setArr st xs)):wpS M A E s (binarySort' lo n m) Q st:=by
 rw[binarySort'_eq];rw[show max m 1=m by lia];refine aQ (jh (jg (I:=fun k c st'=>∃ xs,st'=setArr st xs/\c=(none,())/\xs.Perm a₀/\Low xs (arrOf st) lo/\Srt lt key xs lo (lo+k))
  (Q:=fun c st'=>∃ xs,st'=setArr st xs/\c=(none,())/\xs.Perm a₀/\Low xs (arrOf st) lo/\Srt lt key xs lo (lo+n)) ?step ?fin ?init) ?post)
 case init=>exact⟨arrOf st,rfl,rfl,hp,Low.refl,hs⟩
 case fin=>
  rintro c st' ⟨xs,rfl,rfl,a1,a2,a3⟩;rw[show max m n=n by lia] at a3;exact⟨xs,rfl,rfl,a1,a2,a3⟩
 case post=>
  rintro c st' ⟨xs,rfl,rfl,a1,a2,a3⟩;exact aX (h xs a1 a2 a3)
 case step=>
  rintro k c st' hk1 hk2 ⟨xs,rfl,rfl,a1,a2,a3⟩;have sz:xs.size=a₀.size:=a1.size_eq;refine aQ (jh (jg (I:=fun x c st'=>st'=setArr st xs/\∃ l r,c=(none,l,r)/\l<=r/\r<=k/\r-l<=k-x /\
    (∀ i,i<l->lt (key (el xs (lo+k))) (key (el xs (lo+i)))=false)/\(∀ i,r<=i->i<k->lt (key (el xs (lo+i))) (key (el xs (lo+k)))=false))
   (Q:=fun c st'=>st'=setArr st xs/\∃ l r,c=(none,l,r)/\l<=k /\
    (∀ i,i<l->lt (key (el xs (lo+k))) (key (el xs (lo+i)))=false)/\(∀ i,l<=i->i<k->lt (key (el xs (lo+i))) (key (el xs (lo+k)))=false)) ?is ?ie ?ii) ?ip)
  case ii=>exact⟨rfl,0,k,rfl,by lia,by lia,by lia,fun i hi=>by lia,fun i b c=>by lia⟩
  case ie=>
   rintro c st' ⟨rfl,l,r,rfl,b1,b2,b3,b4,b5⟩;have:l=r:=by lia
   subst this;exact⟨rfl,l,l,rfl,b2,b4,b5⟩
  case is=>
   rintro x c st' _ hx ⟨rfl,l,r,rfl,b1,b2,b3,b4,b5⟩;dsimp only;by_cases hge:l>=r
   ·rw[aK hge];have:l=r:=by lia
    subst this;exact aX ⟨rfl,l,l,rfl,b2,b4,b5⟩
   ·rw[aG hge];refine aQ (qQ e (st:=setArr st xs) hk a1 (by lia) (by lia) ?_);dsimp only;show wpS M A E s _ _ (setArr st xs);by_cases hb:lt (key (el xs (lo+k))) (key (el xs (lo+(l+r) / 2)))=true
    ·rw[aK hb];refine aX ⟨rfl,l,(l+r) / 2,rfl,by lia,by lia,by lia,b4,fun i c1 c2=>?_⟩;exact e.o.tr _ _ _ (e.o.Gd _ _ hb) (a3 (lo+(l+r) / 2) (lo+i) (by lia) (by lia) (by lia))
    ·rw[aG hb];refine aX ⟨rfl,(l+r) / 2+1,r,rfl,by lia,by omega,by lia,fun i c1=>?_,b5⟩;exact e.o.tr _ _ _ (a3 (lo+i) (lo+(l+r) / 2) (by lia) (by lia) (by lia)) (Az hb)
  case ip=>
   rintro c st' ⟨rfl,l,r,rfl,b2,b4,b5⟩;dsimp only;rw[moveDown'_eq];refine aQ (nj (aX ⟨_,rfl,rfl,(bubble_perm _ _ _).trans a1,fun i hi=>?_,?_⟩))
   ·show el (bubble xs (lo+k) (lo+k-(lo+l))) i=_;rw[vd (by lia) (by lia),aG (by lia),aG (by lia)];exact a2 i hi
   ·intro p q c1 c2 c3;show lt (key (el (bubble xs (lo+k) (lo+k-(lo+l))) q)) (key (el (bubble xs (lo+k) (lo+k-(lo+l))) p))=false;rw[vd (by lia) (by lia),vd (by lia) (by lia),show lo+k-(lo+k-(lo+l))=lo+l by lia];have b4':∀ i,lo<=i->i<lo+l->lt (key (el xs (lo+k))) (key (el xs i))=false:=fun i d1 d2=>by
     have:=b4 (i-lo) (by lia);rwa[show lo+(i-lo)=i by lia] at this
    have b5':∀ i,lo+l<=i->i<lo+k->lt (key (el xs i)) (key (el xs (lo+k)))=false:=fun i d1 d2=>by
     have:=b5 (i-lo) (by lia) (by lia);rwa[show lo+(i-lo)=i by lia] at this
    repeat' split
    all_goals first
     |(exfalso;lia)
     |exact e.o.refl _
     |exact b4' _ (by omega) (by lia)
     |exact b5' _ (by lia) (by lia)
     |exact a3 _ _ (by lia) (by lia) (by lia)
end
end TS
end L2
namespace L2
open PySem PySem.Spec PyProof.Rows PySem.W
namespace TS
def gal:Bool->Keyed->Array Keyed->Nat->Nat->Nat->StateT SortSt Sem (Option Nat):=sortPriv% PySem.Builtin.gallop
def bey(l:Bool)(y:Keyed)(xs:Array Keyed)(i:Nat):StateT SortSt Sem (Option Bool):=do
 let x <- elem' xs i
 if l then lt' x y else return (<- lt' y x).map (!·)
theorem Z7(l:Bool)(y:Keyed)(xs:Array Keyed)(b n t:Nat):gal l y xs b n t=(do
 let mut o':=0
 let mut o:=1
 let mut p:=0
 let mut q:=0
 let some r <- bey l y xs (b+t)|return none
 if r then
  let z:=n-t
  for _ in [0:n] do
   if o>=z then break
   let some g <- bey l y xs (b+(t+o))|return none
   if !g then break
   o':=o
   o:=2*o+1
  p:=t+o'+1
  q:=t+min o z
 else
  let z:=t+1
  for _ in [0:n] do
   if o>=z then break
   let some g <- bey l y xs (b+(t-o))|return none
   if g then break
   o':=o
   o:=2*o+1
  p:=t+1-min o z
  q:=t-o'
 for _ in [0:n] do
  if p>=q then break
  let m:=p+(q-p) / 2
  let some g <- bey l y xs (b+m)|return none
  if g then p:=m+1 else q:=m
 return some q):=rfl
section
variable{α:Type}{lt:α->α->Bool}{M:Model}{A:Around}{E:Value->Shared->Prop}{s:Shared}{κ:SortKind}{key:Keyed->α}{a₀:Array Keyed}
def bv(lt:α->α->Bool)(key:Keyed->α)(l:Bool)(y x:Keyed):Bool:=if l then lt (key x) (key y) else !lt (key y) (key x)
theorem Em(e:Env M A s κ key lt a₀){st:SortSt}(hk:kindOf st=κ){l:Bool}{y:Keyed}{xs:Array Keyed}{i:Nat}(hy:y∈a₀.toList)(hi:i<xs.size)(hx:el xs i∈a₀.toList){Q:Option Bool->SortSt->Prop}(h:Q (some (bv lt key l y (el xs i))) st):wpS M A E s (bey l y xs i) Q st:=by
 unfold bey;refine aQ (dj hi ?_)
 cases l
 ·refine aQ (Ij e hy hx hk (aX ?_));exact h
 ·exact Ij e hx hy hk h
def bsr(l:Bool)(y:Keyed)(xs:Array Keyed)(b n p q:Nat):StateT SortSt Sem (Option Nat):=do
 let mut p:=p
 let mut q:=q
 for _ in [0:n] do
  if p>=q then break
  let m:=p+(q-p) / 2
  let some g <- bey l y xs (b+m)|return none
  if g then p:=m+1 else q:=m
 return some q
theorem Uu(e:Env M A s κ key lt a₀){st:SortSt}(hk:kindOf st=κ){l:Bool}{y:Keyed}{xs:Array Keyed}{b n p q:Nat}(hy:y∈a₀.toList)(hz:b+n<=xs.size)(hm:∀ i,i<n->el xs (b+i)∈a₀.toList)
  (mono:∀ i j,i<=j->j<n->bv lt key l y (el xs (b+j))=true->bv lt key l y (el xs (b+i))=true) {Q:Option Nat->SortSt->Prop} (hpq:p<=q) (hq:q<=n)
  (hp':∀ i,i<p->bv lt key l y (el xs (b+i))=true) (hq':∀ i,q<=i->i<n->bv lt key l y (el xs (b+i))=false)
  (h:∀ k,k<=n->(∀ i,i<k->bv lt key l y (el xs (b+i))=true)->(∀ i,k<=i->i<n->bv lt key l y (el xs (b+i))=false)->Q (some k) st):wpS M A E s (bsr l y xs b n p q) Q st:=by
 unfold bsr;refine aQ (jh (jg (I:=fun x c st'=>st'=st/\∃ p q,c=(none,p,q)/\p<=q/\q<=n/\q-p<=n-x/\(∀ i,i<p->bv lt key l y (el xs (b+i))=true)/\(∀ i,q<=i->i<n->bv lt key l y (el xs (b+i))=false))
  (Q:=fun c st'=>st'=st/\∃ p q,c=(none,p,q)/\q<=n/\(∀ i,i<q->bv lt key l y (el xs (b+i))=true)/\(∀ i,q<=i->i<n->bv lt key l y (el xs (b+i))=false)) ?step ?fin ?init) ?post)
 case init=>exact⟨rfl,p,q,rfl,hpq,hq,by lia,hp',hq'⟩
 case fin=>
  rintro c st' ⟨rfl,p,q,rfl,a1,a2,a3,a4,a5⟩;have:p=q:=by lia
  subst this;exact⟨rfl,p,p,rfl,a2,a4,a5⟩
 case post=>
  rintro c st' ⟨rfl,p,q,rfl,a1,a4,a5⟩;exact aX (h q a1 a4 a5)
 case step=>
  rintro x c st' _ hx ⟨rfl,p,q,rfl,a1,a2,a3,a4,a5⟩;dsimp only;by_cases hge:p>=q
  ·rw[aK hge];have:p=q:=by lia
   subst this;exact aX ⟨rfl,p,p,rfl,a2,a4,a5⟩
  ·rw[aG hge];have c1:p<=p+(q-p) / 2:=by lia
   have c2:p+(q-p) / 2<q:=by lia
   generalize p+(q-p) / 2=m at c1 c2;refine aQ (Em e hk hy (by lia) (hm _ (by lia)) ?_);dsimp only;by_cases hb:bv lt key l y (el xs (b+m))=true
   ·rw[aK hb];exact aX ⟨rfl,m+1,q,rfl,by lia,a2,by lia,fun i hi=>mono i m (by lia) (by lia) hb,a5⟩
   ·rw[aG hb];refine aX ⟨rfl,p,m,rfl,by omega,by lia,by lia,a4,fun i hi hn=>?_⟩
    cases hc:bv lt key l y (el xs (b+i))
    ·rfl
    ·exact absurd (mono m i hi hn hc) hb
theorem qe(e:Env M A s κ key lt a₀){st:SortSt}(hk:kindOf st=κ){l:Bool}{y:Keyed}{xs:Array Keyed}{b n t:Nat}(hy:y∈a₀.toList)(hz:b+n<=xs.size)(hm:∀ i,i<n->el xs (b+i)∈a₀.toList)(ht:t<n)
  (mono:∀ i j,i<=j->j<n->bv lt key l y (el xs (b+j))=true->bv lt key l y (el xs (b+i))=true) {Q:Option Nat->SortSt->Prop}
  (h:∀ k,k<=n->(∀ i,i<k->bv lt key l y (el xs (b+i))=true)->(∀ i,k<=i->i<n->bv lt key l y (el xs (b+i))=false)->Q (some k) st):wpS M A E s (gal l y xs b n t) Q st:=by
 rw[Z7];refine aQ (Em e hk hy (by lia) (hm t ht) ?_);dsimp only;have dn:∀ i j,i<=j->j<n->bv lt key l y (el xs (b+i))=false->bv lt key l y (el xs (b+j))=false:=fun i j h1 h2 h3=>by
  cases hc:bv lt key l y (el xs (b+j))
  ·rfl
  ·rw[mono i j h1 h2 hc] at h3;cases h3
 by_cases hb:bv lt key l y (el xs (b+t))=true
 ·rw[aK hb];refine aQ (jh (jg (I:=fun x c st'=>st'=st/\∃ o' o,c=(none,o',o)/\o'<o/\t+o'<n/\x+1<=o/\bv lt key l y (el xs (b+(t+o')))=true)
   (Q:=fun c st'=>st'=st/\∃ o' o,c=(none,o',o)/\o'<o/\t+o'<n/\bv lt key l y (el xs (b+(t+o')))=true/\(o<n-t->bv lt key l y (el xs (b+(t+o)))=false)) ?step ?fin ?init) ?post)
  case init=>exact⟨rfl,0,1,rfl,by lia,by omega,by lia,hb⟩
  case fin=>
   rintro c st' ⟨rfl,o',o,rfl,a1,a2,a3,a4⟩;exact⟨rfl,o',o,rfl,a1,a2,a4,fun z=>by lia⟩
  case step=>
   rintro x c st' _ hx ⟨rfl,o',o,rfl,a1,a2,a3,a4⟩;dsimp only;by_cases hge:o>=n-t
   ·rw[aK hge];exact aX ⟨rfl,o',o,rfl,a1,a2,a4,fun z=>by lia⟩
   ·rw[aG hge];refine aQ (Em e hk hy (by lia) (hm _ (by lia)) ?_);dsimp only
    cases hc:bv lt key l y (el xs (b+(t+o)))
    ·rw[aK (by rfl)];exact aX ⟨rfl,o',o,rfl,a1,a2,a4,fun _=>hc⟩
    ·rw[aG (by decide)];exact aX ⟨rfl,o,2*o+1,rfl,by lia,by lia,by lia,hc⟩
  case post=>
   rintro c st' ⟨rfl,o',o,rfl,a1,a2,a4,a5⟩;dsimp only;change wpS M A E s (bsr l y xs b n (t+o'+1) (t+min o (n-t))) Q _;refine Uu e hk hy hz hm mono (by lia) (by lia) (fun i hi=>mono i (t+o') (by lia) a2 a4) (fun i h1 h2=>?_) h;exact dn (t+o) i (by lia) h2 (a5 (by lia))
 ·rw[aG hb];refine aQ (jh (jg (I:=fun x c st'=>st'=st/\∃ o' o,c=(none,o',o)/\o'<o/\o'<=t/\x+1<=o/\bv lt key l y (el xs (b+(t-o')))=false)
   (Q:=fun c st'=>st'=st/\∃ o' o,c=(none,o',o)/\o'<o/\o'<=t/\bv lt key l y (el xs (b+(t-o')))=false/\(o<t+1->bv lt key l y (el xs (b+(t-o)))=true)) ?step ?fin ?init) ?post)
  case init=>exact⟨rfl,0,1,rfl,by lia,by lia,by lia,Az hb⟩
  case fin=>
   rintro c st' ⟨rfl,o',o,rfl,a1,a2,a3,a4⟩;exact⟨rfl,o',o,rfl,a1,a2,a4,fun z=>by lia⟩
  case step=>
   rintro x c st' _ hx ⟨rfl,o',o,rfl,a1,a2,a3,a4⟩;dsimp only;by_cases hge:o>=t+1
   ·rw[aK hge];exact aX ⟨rfl,o',o,rfl,a1,a2,a4,fun z=>by lia⟩
   ·rw[aG hge];refine aQ (Em e hk hy (by lia) (hm _ (by lia)) ?_);dsimp only
    cases hc:bv lt key l y (el xs (b+(t-o)))
    ·rw[aG (by decide)];exact aX ⟨rfl,o,2*o+1,rfl,by lia,by lia,by lia,hc⟩
    ·rw[aK (by rfl)];exact aX ⟨rfl,o',o,rfl,a1,a2,a4,fun _=>hc⟩
  case post=>
   rintro c st' ⟨rfl,o',o,rfl,a1,a2,a4,a5⟩;dsimp only;change wpS M A E s (bsr l y xs b n (t+1-min o (t+1)) (t-o')) Q _;refine Uu e hk hy hz hm mono (by omega) (by lia) (fun i hi=>?_) (fun i h1 h2=>dn (t-o') i h1 h2 a4) h;exact mono i (t-o) (by lia) (by lia) (a5 (by lia))
end
end TS
end L2
namespace L2
open PySem PySem.Spec PyProof.Rows PySem.W
namespace TS
abbrev bY(st:SortSt)(g:Nat):SortSt:=SortSt.mk' (kindOf st) (arrOf st) (pendingOf st) g (failedOf st)
def mlo:Array Keyed->Array Keyed->StateT SortSt Sem (Array Keyed):=sortPriv% PySem.Builtin.mergeLo
def mhi:Array Keyed->Array Keyed->StateT SortSt Sem (Array Keyed):=sortPriv% PySem.Builtin.mergeHi
theorem Zx(a b:Array Keyed):mlo a b=(do
 (rule "list.sort.merge-lo" : Sem Unit)
 let t:=a.size+b.size
 let fin (o:Array Keyed) (i j:Nat):=o++a.extract i a.size++b.extract j b.size
 let nif (o:Array Keyed) (i j:Nat):=o++b.extract j b.size++a.extract i a.size
 let mut o:Array Keyed:=#[<- elem' b 0]
 let mut i:=0
 let mut j:=1
 if j==b.size then return fin o i j
 if i+1==a.size then return nif o i j
 let mut g:=gallopOf (<- get)
 for _ in [0:t] do
  let mut c:=0
  let mut d:=0
  for _ in [0:t] do
   let some w <- lt' (<- elem' b j) (<- elem' a i)|return fin o i j
   if w then
    o:=o.push (<- elem' b j);j:=j+1;d:=d+1;c:=0
    if j==b.size then return fin o i j
    if d>=g then break
   else
    o:=o.push (<- elem' a i);i:=i+1;c:=c+1;d:=0
    if i+1==a.size then return nif o i j
    if c>=g then break
  (rule "list.sort.gallop" : Sem Unit)
  g:=g+1
  for _ in [0:t] do
   if g>1 then g:=g-1
   modify fun s=>bY s g
   let some k <- gal false (<- elem' b j) a i (a.size-i) 0|return fin o i j
   c:=k
   if k>0 then
    o:=o++a.extract i (i+k);i:=i+k
    if i+1==a.size then return nif o i j
    if i==a.size then return fin o i j
   o:=o.push (<- elem' b j);j:=j+1
   if j==b.size then return fin o i j
   let some k <- gal true (<- elem' a i) b j (b.size-j) 0|return fin o i j
   d:=k
   if k>0 then
    o:=o++b.extract j (j+k);j:=j+k
    if j==b.size then return fin o i j
   o:=o.push (<- elem' a i);i:=i+1
   if i+1==a.size then return nif o i j
   if c<7&&d<7 then break
  g:=g+1
  modify fun s=>bY s g
 unsupported "internal:list.sort.merge-bound"):=rfl
theorem Zv(a b:Array Keyed):mhi a b=(do
 (rule "list.sort.merge-hi" : Sem Unit)
 let t:=a.size+b.size
 let fin (o:Array Keyed) (i j:Nat):=a.extract 0 i++b.extract 0 j++o.reverse
 let nif (o:Array Keyed) (i j:Nat):=b.extract 0 j++a.extract 0 i++o.reverse
 let mut i:=a.size-1
 let mut j:=b.size
 let mut o:Array Keyed:=#[<- elem' a i]
 if i==0 then return fin o i j
 if j==1 then return nif o i j
 let mut g:=gallopOf (<- get)
 for _ in [0:t] do
  let mut c:=0
  let mut d:=0
  for _ in [0:t] do
   let some w <- lt' (<- elem' b (j-1)) (<- elem' a (i-1))|return fin o i j
   if w then
    i:=i-1;o:=o.push (<- elem' a i);c:=c+1;d:=0
    if i==0 then return fin o i j
    if c>=g then break
   else
    j:=j-1;o:=o.push (<- elem' b j);d:=d+1;c:=0
    if j==1 then return nif o i j
    if d>=g then break
  (rule "list.sort.gallop" : Sem Unit)
  g:=g+1
  for _ in [0:t] do
   if g>1 then g:=g-1
   modify fun s=>bY s g
   let some p <- gal false (<- elem' b (j-1)) a 0 i (i-1)|return fin o i j
   let k:=i-p
   c:=k
   if k>0 then
    o:=o++(a.extract p i).reverse;i:=p
    if i==0 then return fin o i j
   j:=j-1;o:=o.push (<- elem' b j)
   if j==1 then return nif o i j
   let some p <- gal true (<- elem' a (i-1)) b 0 j (j-1)|return fin o i j
   let k:=j-p
   d:=k
   if k>0 then
    o:=o++(b.extract p j).reverse;j:=p
    if j==1 then return nif o i j
    if j==0 then return fin o i j
   i:=i-1;o:=o.push (<- elem' a i)
   if i==0 then return fin o i j
   if c<7&&d<7 then break
  g:=g+1
  modify fun s=>bY s g
 unsupported "internal:list.sort.merge-bound"):=rfl
section
variable{α:Type}{lt:α->α->Bool}{M:Model}{A:Around}{E:Value->Shared->Prop}{s:Shared}{κ:SortKind}{key:Keyed->α}{a₀:Array Keyed}
structure Mg(R:Keyed->Keyed->Prop)(X Y out x y:List Keyed):Prop where
 perm:(out++(x++y)).Perm (X++Y)
 up:out.Pairwise R
 ab:∀ p∈out,∀ q∈x++y,R p q
 sx:x.Pairwise R
 sy:y.Pairwise R
variable{R:Keyed->Keyed->Prop}{X Y out x y:List Keyed}{p q:Keyed}
theorem Mg.tx(m:Mg R X Y out (p::x) y)(h:∀ q∈y,R p q):Mg R X Y (out++[p]) x y:=by
 obtain⟨h1,h2,h3,h4,h5⟩:=m;rw[oO] at h4;refine⟨by simpa using h1,?_,?_,h4.2,h5⟩
 ·rw[wY];refine⟨h2,V8 _ _,fun a ha b hb=>?_⟩;rw[dD.mp hb];exact h3 a ha p (by simp)
 ·intro a ha b hb;rcases cO.mp ha with z|z
  ·exact h3 a z b (by rcases cO.mp hb with w|w<;>simp[w])
  ·rw[dD.mp z];rcases cO.mp hb with w|w
   ·exact h4.1 b w
   ·exact h b w
theorem Mg.swap(m:Mg R X Y out x y):Mg R Y X out y x:=
 ⟨((Kl (l₁:=y) (l₂:=x)).append_left out).trans (m.perm.trans Kl),m.up,fun a ha b hb=>m.ab a ha b (cO.mpr (cO.mp hb).symm),m.sy,m.sx⟩
theorem Mg.ty(m:Mg R X Y out x (q::y))(h:∀ p∈x,R q p):Mg R X Y (out++[q]) x y:=(m.swap.tx h).swap
theorem Mg.cx:∀(c:List Keyed){out:List Keyed},Mg R X Y out (c++x) y->(∀ p∈c,∀ q∈y,R p q)->Mg R X Y (out++c) x y
 |[],out,m,_=>by simpa using m
 |p::c,out,m,h=>by
  have:=Mg.cx c (m.tx (h p cG)) fun a ha=>h a (dw _ ha)
  simpa using this
theorem Mg.cy(c:List Keyed)(m:Mg R X Y out x (c++y))(h:∀ p∈c,∀ q∈x,R p q):Mg R X Y (out++c) x y:=(Mg.cx c m.swap h).swap
theorem Mg.a1d(m:Mg R X Y out [] y):(out++y).Perm (X++Y)/\(out++y).Pairwise R:=
 ⟨by simpa using m.perm,wY.mpr ⟨m.up,m.sy,fun a ha b hb=>m.ab a ha b (by simpa using hb)⟩⟩
theorem Mg.Z4(m:Mg R X Y out x []):(out++x).Perm (X++Y)/\(out++x).Pairwise R:=
 ⟨by simpa using m.perm,wY.mpr ⟨m.up,m.sx,fun a ha b hb=>m.ab a ha b (by simpa using hb)⟩⟩
theorem Mg.last(m:Mg R X Y out [p] y)(h:∀ q∈y,R q p):(out++y++[p]).Perm (X++Y)/\(out++y++[p]).Pairwise R:=by
 have:=Mg.Z4 (Mg.cy (y:=[]) y (by simpa using m) (fun a ha b hb=>by rw[dD.mp hb];exact h a ha));exact this
def Le(lt:α->α->Bool)(key:Keyed->α)(p q:Keyed):Prop:=lt (key q) (key p)=false
theorem Le.trans(o:jz lt){p q r:Keyed}(h:Le lt key p q)(g:Le lt key q r):Le lt key p r:=o.tr _ _ _ h g
theorem Le.of(o:jz lt){p q:Keyed}(h:lt (key p) (key q)=true):Le lt key p q:=o.Gd _ _ h
theorem nQ{a:Array Keyed}{i:Nat}(h:i<a.size):a.toList.drop i=el a i::a.toList.drop (i+1):=by
 rw[wX (by simpa using h)];congr 1;have:=nR h;rw[j5 h] at this;simpa using gO this
theorem mK{a:Array Keyed}{i:Nat}:(a.extract i a.size).toList=a.toList.drop i:=by
 rw[Vh];refine zO ?_;simp
theorem jA{a:Array Keyed}{i k:Nat}:(a.extract i (i+k)).toList=(a.toList.drop i).take k:=by
 rw[Vh,List.extract_eq_take_drop,Nat.add_sub_cancel_left]
theorem qK{a:Array Keyed}{i k:Nat}(h:i+k<=a.size){x:Keyed}(hx:x∈(a.toList.drop i).take k):∃ t,t<k/\x=el a (i+t):=by
 obtain⟨t,ht,e⟩:=Ko.mp hx;rw[qt,List.length_drop,lD] at ht;refine⟨t,by lia,?_⟩;rw[List.getElem_take,List.getElem_drop] at e;have:=nR (xs:=a) (i:=i+t) (by lia);rw[j5 (by lia)] at this;rw[<- e];simpa using gO this
theorem vY{a:Array Keyed}(h:a.toList.Pairwise (Le lt key))(o:jz lt){i j:Nat}(hij:i<=j)(hj:j<a.size):Le lt key (el a i) (el a j):=by
 by_cases e:i=j
 ·subst e;exact o.refl _
 ·have:=Cv.mp h i j (by simp;lia) (by simpa using hj) (by lia);have e1:=nR (xs:=a) (i:=i) (by lia);have e2:=nR hj;rw[j5 (by omega)] at e1 e2;rw[<- gO e1,<- gO e2];simpa using this
theorem qz(o:jz lt){l:Bool}{y:Keyed}{xs:Array Keyed}{b n:Nat}(h:∀ p q,p<=q->q<n->Le lt key (el xs (b+p)) (el xs (b+q))):∀ i j,i<=j->j<n->bv lt key l y (el xs (b+j))=true->bv lt key l y (el xs (b+i))=true:=by
 intro i j hij hj hb;have hl:=h i j hij hj
 cases l
 ·unfold bv at hb ⊢;rw[aG fM] at hb ⊢;have h1:Le lt key (el xs (b+j)) y:=by
   unfold Le
   cases hc:lt (key y) (key (el xs (b+j)))
   ·rfl
   ·rw[hc] at hb;cases hb
  have h2:lt (key y) (key (el xs (b+i)))=false:=hl.trans o h1;rw[h2];rfl
 ·unfold bv at hb ⊢;rw[aK rfl] at hb ⊢
  cases hc:lt (key (el xs (b+i))) (key y)
  ·have h1:Le lt key y (el xs (b+i)):=hc;have h2:lt (key (el xs (b+j))) (key y)=false:=h1.trans o hl;rw[h2] at hb;cases hb
  ·rfl
theorem bvF{y x:Keyed}:bv lt key false y x=!lt (key y) (key x):=rfl
theorem bvT{y x:Keyed}:bv lt key true y x=lt (key x) (key y):=rfl
structure Two(lt:α->α->Bool)(key:Keyed->α)(a₀ a b:Array Keyed):Prop where
 ma:∀ x∈a.toList,x∈a₀.toList
 mb:∀ x∈b.toList,x∈a₀.toList
 sa:a.toList.Pairwise (Le lt key)
 sb:b.toList.Pairwise (Le lt key)
 za:1<=a.size
 zb:1<=b.size
 first:lt (key (el b 0)) (key (el a 0))=true
 last:∀ y∈b.toList,Le lt key y (el a (a.size-1))
def Res(lt:α->α->Bool)(key:Keyed->α)(a b r:Array Keyed):Prop:=r.toList.Perm (a.toList++b.toList)/\r.toList.Pairwise (Le lt key)
section lo
variable{a b o:Array Keyed}{i j k:Nat}
abbrev Lo(lt:α->α->Bool)(key:Keyed->α)(a b o:Array Keyed)(i j:Nat):Prop:=Mg (Le lt key) a.toList b.toList o.toList (a.toList.drop i) (b.toList.drop j)
theorem Lo.wV(od:jz lt)(m:Lo lt key a b o i j)(hi:i<a.size)(hj:j<b.size)(h:lt (key (el b j)) (key (el a i))=true):Lo lt key a b (o.push (el b j)) i (j+1):=by
 unfold Lo at m ⊢;rw[nQ hj] at m;rw[Fe];refine m.ty fun p hp=>?_
 have sx:=m.sx;rw[nQ hi] at hp sx;rcases cL.mp hp with rfl|z
 ·exact Le.of od h
 ·exact(Le.of od h).trans od ((oO.mp sx).1 p z)
theorem Lo.qb(od:jz lt)(m:Lo lt key a b o i j)(hi:i<a.size)(hj:j<b.size)(h:lt (key (el b j)) (key (el a i))=false):Lo lt key a b (o.push (el a i)) (i+1) j:=by
 unfold Lo at m ⊢;rw[nQ hi] at m;rw[Fe];refine m.tx fun p hp=>?_
 have sy:=m.sy;rw[nQ hj] at hp sy;have h':Le lt key (el a i) (el b j):=h;rcases cL.mp hp with rfl|z
 ·exact h'
 ·exact h'.trans od ((oO.mp sy).1 p z)
theorem Lo.J1(od:jz lt)(m:Lo lt key a b o i j)(hi:i+k<=a.size)(hj:j<b.size)(h:∀ t,t<k->bv lt key false (el b j) (el a (i+t))=true):Lo lt key a b (o++a.extract i (i+k)) (i+k) j:=by
 unfold Lo at m ⊢;rw[jR,jA];rw[<- Al k (a.toList.drop i),Fp] at m;refine m.cx _ fun p hp q hq=>?_
 have sy:=m.sy;rw[nQ hj] at hq sy;obtain⟨t,ht,rfl⟩:=qK hi hp;have h1:=h t ht;have h':Le lt key (el a (i+t)) (el b j):=by
  unfold Le;rw[bvF] at h1
  cases hc:lt (key (el b j)) (key (el a (i+t)))
  ·rfl
  ·rw[hc] at h1;cases h1
 rcases cL.mp hq with rfl|z
 ·exact h'
 ·exact h'.trans od ((oO.mp sy).1 q z)
theorem Lo.yD(od:jz lt)(m:Lo lt key a b o i j)(hi:i<a.size)(hj:j+k<=b.size)(h:∀ t,t<k->bv lt key true (el a i) (el b (j+t))=true):Lo lt key a b (o++b.extract j (j+k)) i (j+k):=by
 unfold Lo at m ⊢;rw[jR,jA];rw[<- Al k (b.toList.drop j),Fp] at m;refine m.cy _ fun p hp q hq=>?_
 have sx:=m.sx;rw[nQ hi] at hq sx;obtain⟨t,ht,rfl⟩:=qK hj hp;have h':Le lt key (el b (j+t)) (el a i):=Le.of od (by have:=h t ht;rwa[bvT] at this);rcases cL.mp hq with rfl|z
 ·exact h'
 ·exact h'.trans od ((oO.mp sx).1 q z)
theorem Lo.Dr(m:Lo lt key a b o i j)(hj:j=b.size):Res lt key a b (o++a.extract i a.size++b.extract j b.size):=by
 unfold Lo at m;unfold Res;rw[jR,jR,mK,mK];have e:b.toList.drop j=[]:=by rw[hj];simp
 rw[e] at m ⊢;rw[xG];exact m.Z4
theorem Lo.Dq(m:Lo lt key a b o i j)(hi:i=a.size):Res lt key a b (o++a.extract i a.size++b.extract j b.size):=by
 unfold Lo at m;unfold Res;rw[jR,jR,mK,mK];have e:a.toList.drop i=[]:=by rw[hi];simp
 rw[e] at m ⊢;rw[xG];exact m.a1d
theorem Lo.nif(t:Two lt key a₀ a b)(m:Lo lt key a b o i j)(hi:i+1=a.size):Res lt key a b (o++b.extract j b.size++a.extract i a.size):=by
 unfold Lo at m;unfold Res;rw[jR,jR,mK,mK];have e:a.toList.drop i=[el a i]:=by
  rw[nQ (by lia),hi];have:a.toList.drop a.size=[]:=by simp
  rw[this]
 rw[e] at m ⊢;refine m.last fun q hq=>?_
 have:=t.last q (List.mem_of_mem_drop hq);rwa[show a.size-1=i by lia] at this
end lo
theorem a0M(e:Env M A s κ key lt a₀){st:SortSt}(hk:kindOf st=κ){a b:Array Keyed}(t:Two lt key a₀ a b){Q:Array Keyed->SortSt->Prop}
  (h:∀ r g,Res lt key a b r->Q r (bY st g)):wpS M A E s (mlo a b) Q st:=by
 rw[Zx];have ea:∀ i,i<a.size->el a i∈a₀.toList:=fun i hi=>t.ma _ (vg hi)
 have eb:∀ i,i<b.size->el b i∈a₀.toList:=fun i hi=>t.mb _ (vg hi)
 have ma:∀(l:Bool)(y:Keyed)(i:Nat),∀ p q,p<=q->q<a.size-i->bv lt key l y (el a (i+q))=true->bv lt key l y (el a (i+p))=true:=fun l y i=>qz e.o fun p q h1 h2=>vY t.sa e.o (by lia) (by lia)
 have mb:∀(l:Bool)(y:Keyed)(i:Nat),∀ p q,p<=q->q<b.size-i->bv lt key l y (el b (i+q))=true->bv lt key l y (el b (i+p))=true:=fun l y i=>qz e.o fun p q h1 h2=>vY t.sb e.o (by lia) (by lia)
 have za:=t.za;have zb:=t.zb;have hkg:∀ g,kindOf (bY st g)=κ:=fun _=>hk
 refine aQ (sX (sW ⟨rfl,?_⟩));refine aQ (dj (by lia) ?_);have m0:Lo lt key a b #[el b 0] 0 1:=by
  have:Lo lt key a b #[] 0 0:=⟨by simp,List.Pairwise.nil,(fun p hp=>by cases hp),by simpa using t.sa,by simpa using t.sb⟩
  exact this.wV e.o (by lia) (by lia) t.first
 by_cases c1:1=b.size
 ·rw[aK (by simpa using c1)];exact aX (h _ (gallopOf st) (m0.Dr c1))
 rw[aG (by simpa using c1)];by_cases c2:0+1=a.size
 ·rw[aK (by simpa using c2)];exact aX (h _ (gallopOf st) (m0.nif t c2))
 rw[aG (by simpa using c2)];refine aQ (jO ?_);dsimp only;refine aQ (jh (jg (I:=fun x c st'=>(∃ g',st'=bY st g')/\∃ o i j g,c=(none,o,i,j,g)/\Lo lt key a b o i j/\i+1<a.size/\j<b.size/\x+1<=i+j)
  (Q:=fun c st'=>(∃ g',st'=bY st g')/\∃ r z,c=(some r,z)/\Res lt key a b r) ?step ?fin ?init) ?post)
 case init=>exact⟨⟨gallopOf st,rfl⟩,_,0,1,_,rfl,m0,by lia,by lia,by lia⟩
 case fin=>
  rintro c st' ⟨_,o,i,j,g,rfl,_,b1,b2,b3⟩;exfalso;lia
 case post=>
  rintro c st' ⟨⟨g',rfl⟩,r,z,rfl,hr⟩;exact aX (h r g' hr)
 case step=>
  rintro x c st' _ hx ⟨⟨g',rfl⟩,o,i,j,g,rfl,m1,b1,b2,b3⟩;dsimp only;refine aQ (jh (jg (I:=fun y c st'=>(∃ g',st'=bY st g')/\∃ o i j u v,c=(none,o,i,j,u,v)/\Lo lt key a b o i j/\i+1<a.size/\j<b.size/\x+1+y<=i+j)
   (Q:=fun c st'=>(∃ g',st'=bY st g')/\((∃ r z,c=(some r,z)/\Res lt key a b r)\/∃ o i j u v,c=(none,o,i,j,u,v)/\Lo lt key a b o i j/\i+1<a.size/\j<b.size/\x+2<=i+j)) ?s1 ?f1 ?i1) ?p1)
  case i1=>exact⟨⟨g',rfl⟩,o,i,j,0,0,rfl,m1,b1,b2,by omega⟩
  case f1=>
   rintro c st' ⟨_,o,i,j,u,v,rfl,_,b1,b2,b3⟩;exfalso;lia
  case s1=>
   rintro y c st' _ hy ⟨⟨g',rfl⟩,o,i,j,u,v,rfl,m2,d1,d2,d3⟩;dsimp only;refine aQ (dj (by omega) (aQ (dj (by lia) (aQ (Ij e (st:=bY st g') (eb j (by omega)) (ea i (by lia)) hk ?_)))));dsimp only;by_cases hb:lt (key (el b j)) (key (el a i))=true
   ·rw[aK hb];refine aQ (dj (by omega) ?_);have m3:=m2.wV e.o (by lia) (by omega) hb;by_cases f1:j+1=b.size
    ·rw[aK (by simpa using f1)];exact aX ⟨⟨g',rfl⟩,.inl ⟨_,_,rfl,m3.Dr f1⟩⟩
    ·rw[aG (by simpa using f1)];by_cases f2:v+1>=g
     ·rw[aK f2];exact aX ⟨⟨g',rfl⟩,.inr ⟨_,_,_,_,_,rfl,m3,d1,by lia,by lia⟩⟩
     ·rw[aG f2];exact aX ⟨⟨g',rfl⟩,_,_,_,_,_,rfl,m3,d1,by lia,by lia⟩
   ·rw[aG hb];refine aQ (dj (by lia) ?_);have m3:=m2.qb e.o (by lia) (by omega) (Az hb);by_cases f1:i+1+1=a.size
    ·rw[aK (by simpa using f1)];exact aX ⟨⟨g',rfl⟩,.inl ⟨_,_,rfl,m3.nif t f1⟩⟩
    ·rw[aG (by simpa using f1)];by_cases f2:u+1>=g
     ·rw[aK f2];exact aX ⟨⟨g',rfl⟩,.inr ⟨_,_,_,_,_,rfl,m3,by lia,by omega,by lia⟩⟩
     ·rw[aG f2];exact aX ⟨⟨g',rfl⟩,_,_,_,_,_,rfl,m3,by lia,by omega,by lia⟩
  case p1=>
   rintro c st' ⟨⟨g',rfl⟩,⟨r,z,rfl,hr⟩|⟨o,i,j,u,v,rfl,m2,d1,d2,d3⟩⟩
   ·exact aX ⟨⟨g',rfl⟩,r,_,rfl,hr⟩
   dsimp only;refine aQ (sX (sW ⟨rfl,?_⟩));refine aQ (jh (jg (I:=fun y c st'=>(∃ g',st'=bY st g')/\∃ o i j g u v,c=(none,o,i,j,g,u,v)/\Lo lt key a b o i j/\i+1<a.size/\j<b.size/\x+2+y<=i+j)
    (Q:=fun c st'=>(∃ g',st'=bY st g')/\((∃ r z,c=(some r,z)/\Res lt key a b r)\/∃ o i j g u v,c=(none,o,i,j,g,u,v)/\Lo lt key a b o i j/\i+1<a.size/\j<b.size/\x+2<=i+j)) ?s2 ?f2 ?i2) ?p2)
   case i2=>exact⟨⟨g',rfl⟩,o,i,j,_,u,v,rfl,m2,d1,d2,by omega⟩
   case f2=>
    rintro c st' ⟨_,o,i,j,g,u,v,rfl,_,b1,b2,b3⟩;exfalso;lia
   case p2=>
    rintro c st' ⟨⟨g',rfl⟩,⟨r,z,rfl,hr⟩|⟨o,i,j,g,u,v,rfl,m2,d1,d2,d3⟩⟩
    ·exact aX ⟨⟨g',rfl⟩,r,_,rfl,hr⟩
    ·exact aQ (nj (aX ⟨⟨_,rfl⟩,o,i,j,_,rfl,m2,d1,d2,by omega⟩))
   case s2=>
    rintro y c st' _ hy ⟨⟨g',rfl⟩,o,i,j,g,u,v,rfl,m3,d1,d2,d3⟩;dsimp only;by_cases hg:g>1
    all_goals first|rw[aK hg]|rw[aG hg]
    all_goals
     refine aQ (nj (aQ (dj (by omega) (aQ (qe e (st:=bY st _) (b:=i) (n:=a.size-i) (t:=0) (hkg _) (eb j (by omega)) (by lia) (fun t ht=>ea _ (by lia)) (by lia) (ma _ _ _) ?_)))));intro k k1 k2 k3;dsimp only;have m4:Lo lt key a b (o++a.extract i (i+k)) (i+k) j:=m3.J1 e.o (by lia) (by omega) k2;have lb:i+k<a.size->lt (key (el b j)) (key (el a (i+k)))=true:=fun z=>by
      have:=k3 k (bR _) (by lia);rw[bvF] at this
      cases hc:lt (key (el b j)) (key (el a (i+k)))
      ·rw[hc] at this;cases this
      ·rfl
     by_cases hk0:k>0
     ·rw[aK hk0];by_cases f1:i+k+1=a.size
      ·rw[aK (by simpa using f1)];exact aX ⟨⟨_,rfl⟩,.inl ⟨_,_,rfl,m4.nif t f1⟩⟩
      rw[aG (by simpa using f1)];by_cases f2:i+k=a.size
      ·rw[aK (by simpa using f2)];exact aX ⟨⟨_,rfl⟩,.inl ⟨_,_,rfl,m4.Dq f2⟩⟩
      rw[aG (by simpa using f2)];have lb':=lb (by lia);have d1':i+k+1<a.size:=by lia
      have d3':x+2+y<=i+k+j:=by lia
      clear lb k2 k3;generalize o++a.extract i (i+k)=o1 at m4 ⊢;generalize i+k=i1 at m4 lb' d1' d3' ⊢;clear m3 d1 d3 k1 f1 f2;refine aQ (dj (by omega) ?_);have m5:=m4.wV e.o (by lia) (by omega) lb';by_cases f3:j+1=b.size
      ·rw[aK (by simpa using f3)];exact aX ⟨⟨_,rfl⟩,.inl ⟨_,_,rfl,m5.Dr f3⟩⟩
      rw[aG (by simpa using f3)];refine aQ (dj (by lia) (aQ (qe e (st:=bY st _) (b:=j+1) (n:=b.size-(j+1)) (t:=0) (hkg _) (ea i1 (by lia)) (by lia) (fun t ht=>eb _ (by lia)) (by lia) (mb _ _ _) ?_)));intro l l1 l2 l3;dsimp only;have m6:=m5.yD (k:=l) e.o (by lia) (by lia) l2;have la:j+1+l<b.size->lt (key (el b (j+1+l))) (key (el a i1))=false:=fun z=>by
       have:=l3 l (bR _) (by lia);rwa[bvT] at this
      by_cases hl0:l>0
      ·rw[aK hl0];by_cases f4:j+1+l=b.size
       ·rw[aK (by simpa using f4)];exact aX ⟨⟨_,rfl⟩,.inl ⟨_,_,rfl,m6.Dr f4⟩⟩
       rw[aG (by simpa using f4)];refine aQ (dj (by lia) ?_);have m7:=m6.qb e.o (by lia) (by lia) (la (by lia));by_cases f5:i1+1+1=a.size
       ·rw[aK (by simpa using f5)];exact aX ⟨⟨_,rfl⟩,.inl ⟨_,_,rfl,m7.nif t f5⟩⟩
       rw[aG (by simpa using f5)];split
       ·exact aX ⟨⟨_,rfl⟩,.inr ⟨_,_,_,_,_,_,rfl,m7,by lia,by lia,by lia⟩⟩
       ·exact aX ⟨⟨_,rfl⟩,_,_,_,_,_,_,rfl,m7,by lia,by lia,by lia⟩
      ·rw[aG hl0];have:l=0:=by lia
       subst this;have la':=la (by lia);rw[sO] at la';refine aQ (dj (by lia) ?_);have m7:=m5.qb e.o (by lia) (by lia) la';by_cases f5:i1+1+1=a.size
       ·rw[aK (by simpa using f5)];exact aX ⟨⟨_,rfl⟩,.inl ⟨_,_,rfl,m7.nif t f5⟩⟩
       rw[aG (by simpa using f5)];split
       ·exact aX ⟨⟨_,rfl⟩,.inr ⟨_,_,_,_,_,_,rfl,m7,by lia,by lia,by lia⟩⟩
       ·exact aX ⟨⟨_,rfl⟩,_,_,_,_,_,_,rfl,m7,by lia,by lia,by lia⟩
     ·rw[aG hk0];have:k=0:=by lia
      subst this;have lb':=lb (by lia);rw[sO] at lb';refine aQ (dj (by omega) ?_);have m5:=m3.wV e.o (by lia) (by omega) lb';by_cases f3:j+1=b.size
      ·rw[aK (by simpa using f3)];exact aX ⟨⟨_,rfl⟩,.inl ⟨_,_,rfl,m5.Dr f3⟩⟩
      rw[aG (by simpa using f3)];refine aQ (dj (by lia) (aQ (qe e (st:=bY st _) (b:=j+1) (n:=b.size-(j+1)) (t:=0) (hkg _) (ea i (by lia)) (by lia) (fun t ht=>eb _ (by lia)) (by lia) (mb _ _ _) ?_)));intro l l1 l2 l3;dsimp only;have m6:=m5.yD (k:=l) e.o (by lia) (by lia) l2;have la:j+1+l<b.size->lt (key (el b (j+1+l))) (key (el a i))=false:=fun z=>by
       have:=l3 l (bR _) (by lia);rwa[bvT] at this
      by_cases hl0:l>0
      ·rw[aK hl0];by_cases f4:j+1+l=b.size
       ·rw[aK (by simpa using f4)];exact aX ⟨⟨_,rfl⟩,.inl ⟨_,_,rfl,m6.Dr f4⟩⟩
       rw[aG (by simpa using f4)];refine aQ (dj (by lia) ?_);have m7:=m6.qb e.o (by lia) (by lia) (la (by lia));by_cases f5:i+1+1=a.size
       ·rw[aK (by simpa using f5)];exact aX ⟨⟨_,rfl⟩,.inl ⟨_,_,rfl,m7.nif t f5⟩⟩
       rw[aG (by simpa using f5)];split
       ·exact aX ⟨⟨_,rfl⟩,.inr ⟨_,_,_,_,_,_,rfl,m7,by lia,by lia,by lia⟩⟩
       ·exact aX ⟨⟨_,rfl⟩,_,_,_,_,_,_,rfl,m7,by lia,by lia,by lia⟩
      ·rw[aG hl0];have:l=0:=by lia
       subst this;have la':=la (by lia);rw[sO] at la';refine aQ (dj (by lia) ?_);have m7:=m5.qb e.o (by lia) (by lia) la';by_cases f5:i+1+1=a.size
       ·rw[aK (by simpa using f5)];exact aX ⟨⟨_,rfl⟩,.inl ⟨_,_,rfl,m7.nif t f5⟩⟩
       rw[aG (by simpa using f5)];split
       ·exact aX ⟨⟨_,rfl⟩,.inr ⟨_,_,_,_,_,_,rfl,m7,by lia,by lia,by lia⟩⟩
       ·exact aX ⟨⟨_,rfl⟩,_,_,_,_,_,_,rfl,m7,by lia,by lia,by lia⟩
end
end TS
end L2
namespace L2
open PySem PySem.Spec PyProof.Rows PySem.W
namespace TS
section
variable{α:Type}{lt:α->α->Bool}{M:Model}{A:Around}{E:Value->Shared->Prop}{s:Shared}{κ:SortKind}{key:Keyed->α}{a₀:Array Keyed}
section hi
variable{a b o:Array Keyed}{i j k p:Nat}
theorem lU(h1:1<=i)(h:i<=a.size):(a.toList.take i).reverse=el a (i-1)::(a.toList.take (i-1)).reverse:=by
 obtain⟨n,rfl⟩:∃ n,i=n+1:=⟨i-1,by lia⟩
 rw[Nat.add_sub_cancel,List.take_add_one,Vl];have:=nR (xs:=a) (i:=n) (by lia);have e:a.toList[n]?=some (el a n):=by simpa using this
 rw[e];rfl
abbrev Ge(lt:α->α->Bool)(key:Keyed->α)(p q:Keyed):Prop:=Le lt key q p
abbrev Hi(lt:α->α->Bool)(key:Keyed->α)(a b o:Array Keyed)(i j:Nat):Prop:=Mg (Ge lt key) a.toList.reverse b.toList.reverse o.toList (a.toList.take i).reverse (b.toList.take j).reverse
theorem Hi.qb(od:jz lt)(m:Hi lt key a b o i j)(h1:1<=i)(hi:i<=a.size)(h2:1<=j)(hj:j<=b.size)(h:lt (key (el b (j-1))) (key (el a (i-1)))=true):Hi lt key a b (o.push (el a (i-1))) (i-1) j:=by
 unfold Hi at m ⊢;rw[lU h1 hi] at m;rw[Fe];refine m.tx fun q hq=>?_
 have sy:=m.sy;rw[lU h2 hj] at hq sy;rcases cL.mp hq with rfl|z
 ·exact Le.of od h
 ·exact Le.trans od ((oO.mp sy).1 q z) (Le.of od h)
theorem Hi.wV(od:jz lt)(m:Hi lt key a b o i j)(h1:1<=i)(hi:i<=a.size)(h2:1<=j)(hj:j<=b.size)(h:lt (key (el b (j-1))) (key (el a (i-1)))=false):Hi lt key a b (o.push (el b (j-1))) i (j-1):=by
 unfold Hi at m ⊢;rw[lU h2 hj] at m;rw[Fe];refine m.ty fun q hq=>?_
 have sx:=m.sx;rw[lU h1 hi] at hq sx;have h':Le lt key (el a (i-1)) (el b (j-1)):=h;rcases cL.mp hq with rfl|z
 ·exact h'
 ·exact Le.trans od ((oO.mp sx).1 q z) h'
theorem Nb(hp:p<=i):(a.toList.take i).reverse=((a.toList.drop p).take (i-p)).reverse++(a.toList.take p).reverse:=by
 rw[<- Vl];congr 1;have:=List.take_add (l:=a.toList) (i:=p) (j:=i-p);rwa[show p+(i-p)=i by lia] at this
theorem M4(hp:p<=i):((a.extract p i).reverse).toList=((a.toList.drop p).take (i-p)).reverse:=by
 rw[Es];congr 1;have:=jA (a:=a) (i:=p) (k:=i-p);rwa[show p+(i-p)=i by lia] at this
theorem Hi.J1(od:jz lt)(m:Hi lt key a b o i j)(hp:p<=i)(hi:i<=a.size)(h2:1<=j)(hj:j<=b.size)(h:∀ t,p<=t->t<i->bv lt key false (el b (j-1)) (el a t)=false):Hi lt key a b (o++(a.extract p i).reverse) p j:=by
 unfold Hi at m ⊢;rw[jR,M4 hp];rw[Nb hp] at m;refine m.cx _ fun u hu q hq=>?_
 have sy:=m.sy;rw[lU h2 hj] at hq sy;obtain⟨t,ht,rfl⟩:=qK (by lia) (Fi.mp hu);have h1:=h (p+t) (by lia) (by lia);have h':Le lt key (el b (j-1)) (el a (p+t)):=by
  rw[bvF] at h1
  cases hc:lt (key (el b (j-1))) (key (el a (p+t)))
  ·rw[hc] at h1;cases h1
  ·exact Le.of od hc
 rcases cL.mp hq with rfl|z
 ·exact h'
 ·exact Le.trans od ((oO.mp sy).1 q z) h'
theorem Hi.yD(od:jz lt)(m:Hi lt key a b o i j)(hp:p<=j)(hj:j<=b.size)(h1:1<=i)(hi:i<=a.size)(h:∀ t,p<=t->t<j->bv lt key true (el a (i-1)) (el b t)=false):Hi lt key a b (o++(b.extract p j).reverse) i p:=by
 unfold Hi at m ⊢;rw[jR,M4 hp];rw[Nb hp] at m;refine m.cy _ fun u hu q hq=>?_
 have sx:=m.sx;rw[lU h1 hi] at hq sx;obtain⟨t,ht,rfl⟩:=qK (by lia) (Fi.mp hu);have h':Le lt key (el a (i-1)) (el b (p+t)):=by
  have:=h (p+t) (by lia) (by lia);rwa[bvT] at this
 rcases cL.mp hq with rfl|z
 ·exact h'
 ·exact Le.trans od ((oO.mp sx).1 q z) h'
theorem DW{l:List Keyed}{r:Array Keyed}(e:r.toList=l.reverse)(h:l.Perm (a.toList.reverse++b.toList.reverse)/\l.Pairwise (Ge lt key)):Res lt key a b r:=by
 unfold Res;rw[e];refine⟨(KD l).trans (h.1.trans ((KD _).append (KD _))),Km.mpr h.2⟩
theorem Om:(a.extract 0 i).toList=a.toList.take i:=by
 have:=jA (a:=a) (i:=0) (k:=i);rwa[sS,List.drop_zero] at this
theorem Hi.Dq(m:Hi lt key a b o i j)(hi:i=0):Res lt key a b (a.extract 0 i++b.extract 0 j++o.reverse):=by
 unfold Hi at m;have e:(a.toList.take i).reverse=[]:=by rw[hi];rfl
 rw[e] at m;refine DW ?_ m.a1d;rw[jR,jR,Om,Om,Es,hi];simp
theorem Hi.Dr(m:Hi lt key a b o i j)(hj:j=0):Res lt key a b (a.extract 0 i++b.extract 0 j++o.reverse):=by
 unfold Hi at m;have e:(b.toList.take j).reverse=[]:=by rw[hj];rfl
 rw[e] at m;refine DW ?_ m.Z4;rw[jR,jR,Om,Om,Es,hj];simp
theorem Hi.nif(od:jz lt)(t:Two lt key a₀ a b)(m:Hi lt key a b o i j)(hj:j=1):Res lt key a b (b.extract 0 j++a.extract 0 i++o.reverse):=by
 unfold Hi at m;have zb:=t.zb;have e:(b.toList.take j).reverse=[el b 0]:=by rw[hj,lU (bR _) zb];simp
 rw[e] at m;have:=m.swap.last fun q hq=>show Le lt key (el b 0) q from by
  obtain⟨n,hn,rfl⟩:=Ko.mp (zU (Fi.mp hq));have hn':n<a.size:=by simpa using hn
  have e1:=nR hn';rw[j5 hn'] at e1;rw[Kp,gO e1];exact Le.trans od (Le.of od t.first) (vY t.sa od (lF _) hn')
 refine DW ?_ ⟨this.1.trans Kl,this.2⟩;rw[jR,jR,Om,Om,Es];have e2:b.toList.take j=[el b 0]:=by
  have:=congrArg List.reverse e;simpa using this
 rw[e2];simp
end hi
theorem a0L(e:Env M A s κ key lt a₀){st:SortSt}(hk:kindOf st=κ){a b:Array Keyed}(t:Two lt key a₀ a b){Q:Array Keyed->SortSt->Prop}
  (h:∀ r g,Res lt key a b r->Q r (bY st g)):wpS M A E s (mhi a b) Q st:=by
 rw[Zv];have ea:∀ i,i<a.size->el a i∈a₀.toList:=fun i hi=>t.ma _ (vg hi)
 have eb:∀ i,i<b.size->el b i∈a₀.toList:=fun i hi=>t.mb _ (vg hi)
 have ma:∀(l:Bool)(y:Keyed)(n:Nat),n<=a.size->∀ p q,p<=q->q<n->bv lt key l y (el a (0+q))=true->bv lt key l y (el a (0+p))=true:=fun l y n hn=>qz e.o fun p q h1 h2=>vY t.sa e.o (by lia) (by lia)
 have mb:∀(l:Bool)(y:Keyed)(n:Nat),n<=b.size->∀ p q,p<=q->q<n->bv lt key l y (el b (0+q))=true->bv lt key l y (el b (0+p))=true:=fun l y n hn=>qz e.o fun p q h1 h2=>vY t.sb e.o (by lia) (by lia)
 have za:=t.za;have zb:=t.zb;have hkg:∀ g,kindOf (bY st g)=κ:=fun _=>hk
 refine aQ (sX (sW ⟨rfl,?_⟩));refine aQ (dj (by omega) ?_);have m0:Hi lt key a b #[el a (a.size-1)] (a.size-1) b.size:=by
  have:Hi lt key a b #[] a.size b.size:=by
   refine⟨?_,List.Pairwise.nil,(fun p hp=>by cases hp),?_,?_⟩
   ·rw[zO (by simp),zO (by simp)];exact .refl _
   ·rw[zO (by simp)];exact Km.mpr t.sa
   ·rw[zO (by simp)];exact Km.mpr t.sb
  unfold Hi at this ⊢;rw[lU za (bR _)] at this;refine this.tx fun q hq=>t.last q ?_
  exact zU (Fi.mp hq)
 by_cases c1:a.size-1=0
 ·rw[aK (by simpa using c1)];exact aX (h _ (gallopOf st) (m0.Dq c1))
 rw[aG (by simpa using c1)];by_cases c2:b.size=1
 ·rw[aK (by simpa using c2)];exact aX (h _ (gallopOf st) (m0.nif e.o t c2))
 rw[aG (by simpa using c2)];refine aQ (jO ?_);dsimp only;refine aQ (jh (jg (I:=fun x c st'=>(∃ g',st'=bY st g')/\∃ o i j g,c=(none,i,j,o,g)/\Hi lt key a b o i j/\(1<=i/\i<=a.size/\2<=j/\j<=b.size)/\i+j+x+1<=a.size+b.size)
  (Q:=fun c st'=>(∃ g',st'=bY st g')/\∃ r z,c=(some r,z)/\Res lt key a b r) ?step ?fin ?init) ?post)
 case init=>exact⟨⟨gallopOf st,rfl⟩,_,_,_,_,rfl,m0,by lia,by lia⟩
 case fin=>
  rintro c st' ⟨_,o,i,j,g,rfl,_,b1,b3⟩;exfalso;lia
 case post=>
  rintro c st' ⟨⟨g',rfl⟩,r,z,rfl,hr⟩;exact aX (h r g' hr)
 case step=>
  rintro x c st' _ hx ⟨⟨g',rfl⟩,o,i,j,g,rfl,m1,b1,b3⟩;dsimp only;refine aQ (jh (jg (I:=fun y c st'=>(∃ g',st'=bY st g')/\∃ o i j u v,c=(none,i,j,o,u,v)/\Hi lt key a b o i j/\(1<=i/\i<=a.size/\2<=j/\j<=b.size)/\i+j+x+1+y<=a.size+b.size)
   (Q:=fun c st'=>(∃ g',st'=bY st g')/\((∃ r z,c=(some r,z)/\Res lt key a b r)\/∃ o i j u v,c=(none,i,j,o,u,v)/\Hi lt key a b o i j/\(1<=i/\i<=a.size/\2<=j/\j<=b.size)/\i+j+x+2<=a.size+b.size)) ?s1 ?f1 ?i1) ?p1)
  case i1=>exact⟨⟨g',rfl⟩,o,i,j,0,0,rfl,m1,b1,by omega⟩
  case f1=>
   rintro c st' ⟨_,o,i,j,u,v,rfl,_,b1,b3⟩;exfalso;lia
  case s1=>
   rintro y c st' _ hy ⟨⟨g',rfl⟩,o,i,j,u,v,rfl,m2,d1,d3⟩;dsimp only;refine aQ (dj (by lia) (aQ (dj (by lia) (aQ (Ij e (st:=bY st g') (eb (j-1) (by lia)) (ea (i-1) (by lia)) hk ?_)))));dsimp only;by_cases hb:lt (key (el b (j-1))) (key (el a (i-1)))=true
   ·rw[aK hb];refine aQ (dj (by lia) ?_);have m3:=m2.qb e.o (by lia) (by lia) (by lia) (by lia) hb;by_cases f1:i-1=0
    ·rw[aK (by simpa using f1)];exact aX ⟨⟨g',rfl⟩,.inl ⟨_,_,rfl,m3.Dq f1⟩⟩
    ·rw[aG (by simpa using f1)];by_cases f2:u+1>=g
     ·rw[aK f2];exact aX ⟨⟨g',rfl⟩,.inr ⟨_,_,_,_,_,rfl,m3,by lia,by lia⟩⟩
     ·rw[aG f2];exact aX ⟨⟨g',rfl⟩,_,_,_,_,_,rfl,m3,by lia,by lia⟩
   ·rw[aG hb];refine aQ (dj (by lia) ?_);have m3:=m2.wV e.o (by lia) (by lia) (by lia) (by lia) (Az hb);by_cases f1:j-1=1
    ·rw[aK (by simpa using f1)];exact aX ⟨⟨g',rfl⟩,.inl ⟨_,_,rfl,m3.nif e.o t f1⟩⟩
    ·rw[aG (by simpa using f1)];by_cases f2:v+1>=g
     ·rw[aK f2];exact aX ⟨⟨g',rfl⟩,.inr ⟨_,_,_,_,_,rfl,m3,by lia,by lia⟩⟩
     ·rw[aG f2];exact aX ⟨⟨g',rfl⟩,_,_,_,_,_,rfl,m3,by lia,by lia⟩
  case p1=>
   rintro c st' ⟨⟨g',rfl⟩,⟨r,z,rfl,hr⟩|⟨o,i,j,u,v,rfl,m2,d1,d3⟩⟩
   ·exact aX ⟨⟨g',rfl⟩,r,_,rfl,hr⟩
   dsimp only;refine aQ (sX (sW ⟨rfl,?_⟩));refine aQ (jh (jg (I:=fun y c st'=>(∃ g',st'=bY st g')/\∃ o i j g u v,c=(none,i,j,o,g,u,v)/\Hi lt key a b o i j/\(1<=i/\i<=a.size/\2<=j/\j<=b.size)/\i+j+x+2+y<=a.size+b.size)
    (Q:=fun c st'=>(∃ g',st'=bY st g')/\((∃ r z,c=(some r,z)/\Res lt key a b r)\/∃ o i j g u v,c=(none,i,j,o,g,u,v)/\Hi lt key a b o i j/\(1<=i/\i<=a.size/\2<=j/\j<=b.size)/\i+j+x+2<=a.size+b.size)) ?s2 ?f2 ?i2) ?p2)
   case i2=>exact⟨⟨g',rfl⟩,o,i,j,_,u,v,rfl,m2,d1,by omega⟩
   case f2=>
    rintro c st' ⟨_,o,i,j,g,u,v,rfl,_,b1,b3⟩;exfalso;lia
   case p2=>
    rintro c st' ⟨⟨g',rfl⟩,⟨r,z,rfl,hr⟩|⟨o,i,j,g,u,v,rfl,m2,d1,d3⟩⟩
    ·exact aX ⟨⟨g',rfl⟩,r,_,rfl,hr⟩
    ·exact aQ (nj (aX ⟨⟨_,rfl⟩,o,i,j,_,rfl,m2,d1,by omega⟩))
   case s2=>
    rintro y c st' _ hy ⟨⟨g',rfl⟩,o,i,j,g,u,v,rfl,m3,d1,d3⟩;dsimp only;by_cases hg:g>1
    all_goals first|rw[aK hg]|rw[aG hg]
    all_goals
     refine aQ (nj (aQ (dj (by lia) (aQ (qe e (st:=bY st _) (b:=0) (n:=i) (t:=i-1) (hkg _) (eb (j-1) (by lia)) (by lia) (fun t ht=>ea _ (by lia)) (by lia) (ma _ _ _ (by lia)) ?_)))));intro k k1 k2 k3;dsimp only;have m4:=m3.J1 (p:=k) e.o k1 (by lia) (by lia) (by lia) (fun t t1 t2=>by have:=k3 t t1 t2;rwa[sS] at this);have lb:1<=k->lt (key (el b (j-1))) (key (el a (k-1)))=false:=fun z=>by
      have:=k2 (k-1) (by lia);rw[bvF,sS] at this
      cases hc:lt (key (el b (j-1))) (key (el a (k-1)))
      ·rfl
      ·rw[hc] at this;cases this
     by_cases hk0:i-k>0
     ·rw[aK hk0];by_cases f1:k=0
      ·rw[aK (by simpa using f1)];exact aX ⟨⟨_,rfl⟩,.inl ⟨_,_,rfl,m4.Dq f1⟩⟩
      rw[aG (by simpa using f1)];have lb':=lb (by lia);generalize o++(a.extract k i).reverse=o1 at m4 ⊢;refine aQ (dj (by lia) ?_);have m5:=m4.wV e.o (by lia) (by lia) (by lia) (by lia) lb';by_cases f3:j-1=1
      ·rw[aK (by simpa using f3)];exact aX ⟨⟨_,rfl⟩,.inl ⟨_,_,rfl,m5.nif e.o t f3⟩⟩
      rw[aG (by simpa using f3)];refine aQ (dj (by lia) (aQ (qe e (st:=bY st _) (b:=0) (n:=j-1) (t:=j-1-1) (hkg _) (ea (k-1) (by lia)) (by lia) (fun t ht=>eb _ (by lia)) (by lia) (mb _ _ _ (by lia)) ?_)));intro l l1 l2 l3;dsimp only;have m6:=m5.yD (p:=l) e.o (by omega) (by lia) (by lia) (by lia) (fun t t1 t2=>by have:=l3 t t1 t2;rwa[sS] at this);have la:1<=l->lt (key (el b (l-1))) (key (el a (k-1)))=true:=fun z=>by
       have:=l2 (l-1) (by lia);rw[bvT,sS] at this;exact this
      by_cases hl0:j-1-l>0
      ·rw[aK hl0];by_cases f4:l=1
       ·rw[aK (by simpa using f4)];exact aX ⟨⟨_,rfl⟩,.inl ⟨_,_,rfl,m6.nif e.o t f4⟩⟩
       rw[aG (by simpa using f4)];by_cases f7:l=0
       ·rw[aK (by simpa using f7)];exact aX ⟨⟨_,rfl⟩,.inl ⟨_,_,rfl,m6.Dr f7⟩⟩
       rw[aG (by simpa using f7)];refine aQ (dj (by lia) ?_);have m7:=m6.qb e.o (by lia) (by lia) (by lia) (by lia) (la (by lia));by_cases f5:k-1=0
       ·rw[aK (by simpa using f5)];exact aX ⟨⟨_,rfl⟩,.inl ⟨_,_,rfl,m7.Dq f5⟩⟩
       rw[aG (by simpa using f5)];split
       ·exact aX ⟨⟨_,rfl⟩,.inr ⟨_,_,_,_,_,_,rfl,m7,by lia,by lia⟩⟩
       ·exact aX ⟨⟨_,rfl⟩,_,_,_,_,_,_,rfl,m7,by lia,by lia⟩
      ·rw[aG hl0];have:l=j-1:=by lia
       subst this;have la':=la (by lia);refine aQ (dj (by lia) ?_);have m7:=m5.qb e.o (by lia) (by lia) (by lia) (by lia) la';by_cases f5:k-1=0
       ·rw[aK (by simpa using f5)];exact aX ⟨⟨_,rfl⟩,.inl ⟨_,_,rfl,m7.Dq f5⟩⟩
       rw[aG (by simpa using f5)];split
       ·exact aX ⟨⟨_,rfl⟩,.inr ⟨_,_,_,_,_,_,rfl,m7,by lia,by lia⟩⟩
       ·exact aX ⟨⟨_,rfl⟩,_,_,_,_,_,_,rfl,m7,by lia,by lia⟩
     ·rw[aG hk0];have:k=i:=by lia
      subst this;have lb':=lb (by lia);refine aQ (dj (by lia) ?_);have m5:=m3.wV e.o (by lia) (by lia) (by lia) (by lia) lb';by_cases f3:j-1=1
      ·rw[aK (by simpa using f3)];exact aX ⟨⟨_,rfl⟩,.inl ⟨_,_,rfl,m5.nif e.o t f3⟩⟩
      rw[aG (by simpa using f3)];refine aQ (dj (by lia) (aQ (qe e (st:=bY st _) (b:=0) (n:=j-1) (t:=j-1-1) (hkg _) (ea (k-1) (by lia)) (by lia) (fun t ht=>eb _ (by lia)) (by lia) (mb _ _ _ (by lia)) ?_)));intro l l1 l2 l3;dsimp only;have m6:=m5.yD (p:=l) e.o (by omega) (by lia) (by lia) (by lia) (fun t t1 t2=>by have:=l3 t t1 t2;rwa[sS] at this);have la:1<=l->lt (key (el b (l-1))) (key (el a (k-1)))=true:=fun z=>by
       have:=l2 (l-1) (by lia);rw[bvT,sS] at this;exact this
      by_cases hl0:j-1-l>0
      ·rw[aK hl0];by_cases f4:l=1
       ·rw[aK (by simpa using f4)];exact aX ⟨⟨_,rfl⟩,.inl ⟨_,_,rfl,m6.nif e.o t f4⟩⟩
       rw[aG (by simpa using f4)];by_cases f7:l=0
       ·rw[aK (by simpa using f7)];exact aX ⟨⟨_,rfl⟩,.inl ⟨_,_,rfl,m6.Dr f7⟩⟩
       rw[aG (by simpa using f7)];refine aQ (dj (by lia) ?_);have m7:=m6.qb e.o (by lia) (by lia) (by lia) (by lia) (la (by lia));by_cases f5:k-1=0
       ·rw[aK (by simpa using f5)];exact aX ⟨⟨_,rfl⟩,.inl ⟨_,_,rfl,m7.Dq f5⟩⟩
       rw[aG (by simpa using f5)];split
       ·exact aX ⟨⟨_,rfl⟩,.inr ⟨_,_,_,_,_,_,rfl,m7,by lia,by lia⟩⟩
       ·exact aX ⟨⟨_,rfl⟩,_,_,_,_,_,_,rfl,m7,by lia,by lia⟩
      ·rw[aG hl0];have:l=j-1:=by lia
       subst this;have la':=la (by lia);refine aQ (dj (by lia) ?_);have m7:=m5.qb e.o (by lia) (by lia) (by lia) (by lia) la';by_cases f5:k-1=0
       ·rw[aK (by simpa using f5)];exact aX ⟨⟨_,rfl⟩,.inl ⟨_,_,rfl,m7.Dq f5⟩⟩
       rw[aG (by simpa using f5)];split
       ·exact aX ⟨⟨_,rfl⟩,.inr ⟨_,_,_,_,_,_,rfl,m7,by lia,by lia⟩⟩
       ·exact aX ⟨⟨_,rfl⟩,_,_,_,_,_,_,rfl,m7,by lia,by lia⟩
end
end TS
end L2
namespace L2
open PySem PySem.Spec PyProof.Rows PySem.W
namespace TS
theorem Jt(i:Nat):mergeAt' i=(do
 let c <- get
 let (some (p,n,w),some (q,m,_)):=((pendingOf c)[i]?,(pendingOf c)[i+1]?)|unsupported "internal:list.sort.pending"
 set (setPending c (((pendingOf c).setIfInBounds i (p,n+m,w)).eraseIdxIfInBounds (i+1)))
 let some k <- gal false (<- elem' (arrOf c) q) (arrOf c) p n 0|return false
 let (p,n):=(p+k,n-k)
 if n==0 then return true
 let some m <- gal true (<- elem' (arrOf c) (p+n-1)) (arrOf c) q m (m-1)|return false
 if m==0 then return true
 let x:=(arrOf c).extract p q
 let y:=(arrOf c).extract q (q+m)
 let r <- if n<=m then mlo x y else mhi x y
 modify fun c=>setArr c (r.toList.zipIdx.foldl (fun a (v,j)=>a.setIfInBounds (p+j) v) (arrOf c))
 return (failedOf (<- get)).isNone):=rfl
theorem cA{β:Type}(p:Nat):∀(l:List β)(n:Nat)(xs:Array β),p+n+l.length<=xs.size ->
  ((l.zipIdx n).foldl (fun a (x:β×Nat)=>a.setIfInBounds (p+x.2) x.1) xs).toList=xs.toList.take (p+n)++l++xs.toList.drop (p+n+l.length)
 |[],n,xs,h=>by simp
 |v::l,n,xs,h=>by
  rw[List.zipIdx_cons,xH];have hl:p+n+(l.length+1)<=xs.size:=h;rw[cA p l (n+1) _ (by rw[Array.size_setIfInBounds];lia)];dsimp only;rw[UL];have e1:(xs.toList.set (p+n) v).take (p+(n+1))=xs.toList.take (p+n)++[v]:=by
   rw[<- Nat.add_assoc,List.take_add_one,List.take_set_of_le (bR _),Kg (by simp;lia)]
   rfl
  have e2:(xs.toList.set (p+n) v).drop (p+(n+1)+l.length)=xs.toList.drop (p+n+(v::l).length):=by
   rw[List.drop_set_of_lt (by lia)];congr 1;simp;lia
  rw[e1,e2];simp
def over(xs:Array Keyed)(p:Nat)(r:Array Keyed):Array Keyed:=r.toList.zipIdx.foldl (fun a (x:Keyed×Nat)=>a.setIfInBounds (p+x.2) x.1) xs
theorem wR{xs r:Array Keyed}{p:Nat}(h:p+r.size<=xs.size):(over xs p r).toList=xs.toList.take p++r.toList++xs.toList.drop (p+r.size):=by
 have:=cA p r.toList 0 xs (by simpa using h);simpa [over] using this
theorem xT{xs:Array Keyed}{i:Nat}:el xs i=xs.toList.getD i (Value.none,Value.none):=by
 unfold el;rw[lV,dX,Cw]
theorem Dk{xs r:Array Keyed}{p k:Nat}(h:p+r.size<=xs.size):el (over xs p r) k=if p<=k/\k<p+r.size then el r (k-p) else el xs k:=by
 rw[xT,wR h,xT,xT];simp only[dX];have lt1:(xs.toList.take p).length=p:=by simp;lia
 by_cases h1:k<p
 ·rw[aG (by lia),xq,Cu (by lia),V3 h1]
 ·by_cases h2:k<p+r.size
  ·rw[aK (by lia),xq,Aj (by lia),lt1,Cu (by simp;lia)]
  ·rw[aG (by lia),Aj (by simp;lia)];congr 1;rw[dB,lt1,List.getElem?_drop,lD];congr 1;lia
theorem Q0{xs r:Array Keyed}{p:Nat}(h:p+r.size<=xs.size)(hr:r.toList.Perm ((xs.toList.drop p).take r.size)):(over xs p r).Perm xs:=by
 rw[Array.perm_iff_toList_perm,wR h];have e:xs.toList=xs.toList.take p++(xs.toList.drop p).take r.size++xs.toList.drop (p+r.size):=by
  rw[<- Fp,xq,Al,Al]
 conv=>rhs;rw[e]
 exact((hr.append_left _).append_right _)
theorem Rb{xs:Array Keyed}{i j t:Nat}(hj:j<=xs.size)(ht:t<j-i):el (xs.extract i j) t=el xs (i+t):=by
 refine mJ ?_;rw[Array.getElem?_extract,aK (by lia)]
section
variable{α:Type}{lt:α->α->Bool}{M:Model}{A:Around}{E:Value->Shared->Prop}{s:Shared}{κ:SortKind}{key:Keyed->α}{a₀:Array Keyed}
theorem pw_of{a:Array Keyed}(h:∀ i j,i<j->j<a.size->Le lt key (el a i) (el a j)):a.toList.Pairwise (Le lt key):=by
 rw[Cv];intro i j hi hj hij;have hj':j<a.size:=by simpa using hj
 have e1:=nR (xs:=a) (i:=i) (by omega);have e2:=nR hj';rw[j5 (by omega)] at e1 e2;rw[Kp,Kp,gO e1,gO e2];exact h i j hij hj'
theorem a0N{zzs:Type}{x:zzs}{Q:PUnit->zzs->Prop}{st:zzs}(h:Q ⟨⟩ x):wpS M A E s (set x:StateT zzs Sem PUnit) Q st:=by
 unfold wpS;rw[StateT.run_set];exact cV ⟨rfl,h⟩
theorem a2c(e:Env M A s κ key lt a₀){st:SortSt}(hk:kindOf st=κ)(hf:failedOf st=none)(hp:(arrOf st).Perm a₀){i p n w q m w':Nat}{L1 L2:List (Nat×Nat×Nat)}
  (hL:(pendingOf st).toList=L1++(p,n,w)::(q,m,w')::L2) (hi:L1.length=i) (hq:q=p+n) (hn:1<=n) (hm:1<=m) (hz:q+m<=a₀.size) (s1:Srt lt key (arrOf st) p (p+n)) (s2:Srt lt key (arrOf st) q (q+m)) {Q:Bool->SortSt->Prop}
  (h:∀ xs g,xs.Perm a₀->(∀ k,k<p\/q+m<=k->el xs k=el (arrOf st) k)->Srt lt key xs p (q+m)->Q true (SortSt.mk' (kindOf st) xs (L1++(p,n+m,w)::L2).toArray g (failedOf st))):wpS M A E s (mergeAt' i) Q st:=by
 rw[Jt];have sz:(arrOf st).size=a₀.size:=hp.size_eq;have g1:(pendingOf st)[i]?=some (p,n,w):=by
  rw[<- Cw,hL,Aj (by lia),hi,Nat.sub_self];rfl
 have g2:(pendingOf st)[i+1]?=some (q,m,w'):=by
  rw[<- Cw,hL,Aj (by lia),hi,show i+1-i=1 by lia];rfl
 refine aQ (jO ?_);rw[g1,g2];have ep:((pendingOf st).setIfInBounds i (p,n+m,w)).eraseIdxIfInBounds (i+1)=(L1++(p,n+m,w)::L2).toArray:=by
  apply KR.mp;rw[Array.toList_eraseIdxIfInBounds,UL,hL];rw[List.set_append_right _ _ (by lia),hi,Nat.sub_self,List.eraseIdx_append_of_length_le (by lia),hi,show i+1-i=1 by lia]
  rfl
 refine aQ (a0N ?_);rw[ep];have hkp:∀ P,kindOf (setPending st P)=κ:=fun _=>hk
 have ea:∀ t,t<a₀.size->el (arrOf st) t∈a₀.toList:=fun t ht=>yZ hp ht
 refine aQ (dj (by lia) (aQ (qe e (st:=setPending st _) (b:=p) (n:=n) (t:=0) (hkp _) (ea q (by lia)) (by lia) (fun t ht=>ea _ (by lia)) (by lia) (qz e.o fun u v h1 h2=>s1 _ _ (by lia) (by lia) (by lia)) ?_)));intro k k1 k2 k3;dsimp only;have cut:∀ t,p<=t->t<p+k->Le lt key (el (arrOf st) t) (el (arrOf st) q):=fun t t1 t2=>by
  have:=k2 (t-p) (by lia);rw[bvF,show p+(t-p)=t by lia] at this;unfold Le
  cases hc:lt (key (el (arrOf st) q)) (key (el (arrOf st) t))
  ·rfl
  ·rw[hc] at this;cases this
 by_cases c1:n-k=0
 ·rw[aK (by simpa using c1)];refine aX (h (arrOf st) (gallopOf st) hp (fun _ _=>rfl) fun u v h1 h2 h3=>?_);by_cases hv:v<p+n
  ·exact s1 u v h1 h2 hv
  ·by_cases hu:u<q
   ·exact Le.trans e.o (cut u h1 (by lia)) (s2 q v (bR _) (by lia) h3)
   ·exact s2 u v (by lia) h2 h3
 rw[aG (by simpa using c1)];have el1:p+k+(n-k)-1=q-1:=by lia
 rw[el1];refine aQ (dj (by omega) (aQ (qe e (st:=setPending st _) (b:=q) (n:=m) (t:=m-1) (hkp _) (ea (q-1) (by omega)) (by lia) (fun t ht=>ea _ (by lia)) (by lia) (qz e.o fun u v h1 h2=>s2 _ _ (by lia) (by lia) (by lia)) ?_)));intro l l1 l2 l3;dsimp only;have a0W:∀ t,q+l<=t->t<q+m->Le lt key (el (arrOf st) (q-1)) (el (arrOf st) t):=fun t t1 t2=>by
  have:=l3 (t-q) (by lia) (by lia);rw[bvT,show q+(t-q)=t by lia] at this;exact this
 by_cases c2:l=0
 ·rw[aK (by simpa using c2)];refine aX (h (arrOf st) (gallopOf st) hp (fun _ _=>rfl) fun u v h1 h2 h3=>?_);by_cases hv:v<p+n
  ·exact s1 u v h1 h2 hv
  ·by_cases hu:u<q
   ·exact Le.trans e.o (s1 u (q-1) h1 (by omega) (by omega)) (a0W v (by lia) h3)
   ·exact s2 u v (by lia) h2 h3
 rw[aG (by simpa using c2)];have za:((arrOf st).extract (p+k) q).size=n-k:=by rw[Vp];lia
 have zb:((arrOf st).extract q (q+l)).size=l:=by rw[Vp];lia
 have ela:∀ t,t<n-k->el ((arrOf st).extract (p+k) q) t=el (arrOf st) (p+k+t):=fun t ht=>Rb (by lia) (by lia)
 have elb:∀ t,t<l->el ((arrOf st).extract q (q+l)) t=el (arrOf st) (q+t):=fun t ht=>Rb (by lia) (by lia)
 have ina:∀ x∈((arrOf st).extract (p+k) q).toList,∃ t,t<n-k/\x=el (arrOf st) (p+k+t):=fun x hx=>by
  have e1:=jA (a:=arrOf st) (i:=p+k) (k:=n-k);rw[show p+k+(n-k)=q by lia] at e1;rw[e1] at hx;exact qK (by omega) hx
 have inb:∀ x∈((arrOf st).extract q (q+l)).toList,∃ t,t<l/\x=el (arrOf st) (q+t):=fun x hx=>by
  rw[jA] at hx;exact qK (by lia) hx
 have two:Two lt key a₀ ((arrOf st).extract (p+k) q) ((arrOf st).extract q (q+l)):=by
  refine⟨fun x hx=>?_,fun x hx=>?_,pw_of fun u v h1 h2=>?_,pw_of fun u v h1 h2=>?_,by lia,by lia,?_,fun y hy=>?_⟩
  ·obtain⟨t,ht,rfl⟩:=ina x hx;exact ea _ (by lia)
  ·obtain⟨t,ht,rfl⟩:=inb x hx;exact ea _ (by lia)
  ·rw[ela u (by lia),ela v (by lia)];exact s1 _ _ (by lia) (by lia) (by omega)
  ·rw[elb u (by lia),elb v (by lia)];exact s2 _ _ (by lia) (by lia) (by lia)
  ·rw[ela 0 (by lia),elb 0 (by lia)];have:=k3 k (bR _) (by lia);rw[bvF] at this;rw[sO,sO]
   cases hc:lt (key (el (arrOf st) q)) (key (el (arrOf st) (p+k)))
   ·rw[hc] at this;cases this
   ·rfl
  ·obtain⟨t,ht,rfl⟩:=inb y hy;rw[za,ela _ (by lia),show p+k+(n-k-1)=q-1 by lia];have:=l2 t (by omega);rw[bvT] at this;exact Le.of e.o this
 have done:∀ r g,Res lt key ((arrOf st).extract (p+k) q) ((arrOf st).extract q (q+l)) r->wpS M A E s (do modify fun c=>setArr c (r.toList.zipIdx.foldl (fun a (v,j)=>a.setIfInBounds (p+k+j) v) (arrOf c));return (failedOf (<- get)).isNone) Q (bY (setPending st (L1++(p,n+m,w)::L2).toArray) g):=fun r g hr=>by
  refine aQ (nj (aQ (jO ?_)));have e0:(failedOf (setArr (bY (setPending st (L1++(p,n+m,w)::L2).toArray) g) (over (arrOf st) (p+k) r))).isNone=true:=by
   show(failedOf st).isNone=true;rw[hf];rfl
  change wpS M A E s (pure (failedOf (setArr (bY (setPending st (L1++(p,n+m,w)::L2).toArray) g) (over (arrOf st) (p+k) r))).isNone) Q (setArr (bY (setPending st (L1++(p,n+m,w)::L2).toArray) g) (over (arrOf st) (p+k) r));rw[e0];have rs:r.size=n-k+l:=by
   have:=hr.1.length_eq;rw[dB,lD,lD,lD,za,zb] at this;exact this
  have hb:p+k+r.size<=(arrOf st).size:=by lia
  have pm:(over (arrOf st) (p+k) r).Perm a₀:=by
   refine(Q0 hb (hr.1.trans ?_)).trans hp;have e1:=jA (a:=arrOf st) (i:=p+k) (k:=n-k);rw[show p+k+(n-k)=q by lia] at e1;rw[e1,jA,rs,List.take_add,Fp,show p+k+(n-k)=q by lia]
  have mid:∀ t,t<r.size->(∃ t',p+k<=t'/\t'<q/\el r t=el (arrOf st) t')\/(∃ t',q<=t'/\t'<q+l/\el r t=el (arrOf st) t'):=fun t ht=>by
   rcases cO.mp (hr.1.mem_iff.mp (vg ht)) with z|z
   ·obtain⟨u,hu,eu⟩:=ina _ z;exact .inl ⟨p+k+u,by lia,by lia,eu⟩
   ·obtain⟨u,hu,eu⟩:=inb _ z;exact .inr ⟨q+u,by lia,by lia,eu⟩
  refine aX (h (over (arrOf st) (p+k) r) g pm (fun t ht=>?_) fun u v h1 h2 h3=>?_)
  ·rw[Dk hb,aG (by lia)]
  ·show Le lt key (el (over (arrOf st) (p+k) r) u) (el (over (arrOf st) (p+k) r) v);rw[Dk hb,Dk hb];by_cases hu:u<p+k
   ·rw[aG (by lia)];by_cases hv:p+k<=v/\v<p+k+r.size
    ·rw[aK hv];rcases mid (v-(p+k)) (by lia) with⟨t',a1,a2,a3⟩|⟨t',a1,a2,a3⟩
     ·rw[a3];exact s1 _ _ h1 (by lia) (by lia)
     ·rw[a3];exact Le.trans e.o (cut u h1 hu) (s2 _ _ (bR _) a1 (by lia))
    ·rw[aG hv];by_cases hv2:v<p+k
     ·exact s1 _ _ h1 h2 (by lia)
     ·exact Le.trans e.o (cut u h1 hu) (s2 _ _ (bR _) (by lia) h3)
   ·by_cases hu2:u<p+k+r.size
    ·rw[aK (by lia)];by_cases hv:p+k<=v/\v<p+k+r.size
     ·rw[aK hv];exact vY hr.2 e.o (by lia) (by lia)
     ·rw[aG hv];rcases mid (u-(p+k)) (by lia) with⟨t',a1,a2,a3⟩|⟨t',a1,a2,a3⟩
      ·rw[a3];exact Le.trans e.o (s1 t' (q-1) (by lia) (by lia) (by lia)) (a0W v (by lia) h3)
      ·rw[a3];exact s2 _ _ a1 (by lia) h3
    ·rw[aG (by lia),aG (by lia)];exact s2 _ _ (by lia) h2 h3
 by_cases c3:n-k<=l
 ·rw[aK c3];exact aQ (a0M e (st:=setPending st _) (hkp _) two fun r g hr=>done r g hr)
 ·rw[aG c3];exact aQ (a0L e (st:=setPending st _) (hkp _) two fun r g hr=>done r g hr)
end
end TS
end L2
namespace L2
open PySem PySem.Spec PyProof.Rows PySem.W
namespace TS
section
variable{α:Type}{lt:α->α->Bool}{M:Model}{A:Around}{E:Value->Shared->Prop}{s:Shared}{κ:SortKind}{key:Keyed->α}{a₀:Array Keyed}
def Runs(lt:α->α->Bool)(key:Keyed->α)(xs:Array Keyed):Nat->List (Nat×Nat×Nat)->Nat->Prop
 |a,[],b=>a=b
 |a,r::l,b=>r.1=a/\1<=r.2.1/\Srt lt key xs a (a+r.2.1)/\Runs lt key xs (a+r.2.1) l b
theorem Runs.le{xs:Array Keyed}:∀ {l:List (Nat×Nat×Nat)} {a b:Nat},Runs lt key xs a l b->a+l.length<=b
 |[],a,b,h=>by cases h;simp
 |r::l,a,b,h=>by
  have:=Runs.le h.2.2.2;have:=h.2.1;simp;lia
theorem Runs.congr{xs ys:Array Keyed}:∀ {l:List (Nat×Nat×Nat)} {a b:Nat},Runs lt key xs a l b->(∀ k,a<=k->k<b->el ys k=el xs k)->Runs lt key ys a l b
 |[],a,b,h,_=>h
 |r::l,a,b,h,e=>by
  have hl:=h.2.2.2.le;refine⟨h.1,h.2.1,fun p q h1 h2 h3=>?_,Runs.congr h.2.2.2 fun k h1 h2=>e k (by lia) h2⟩;rw[e p (by omega) (by lia),e q (by lia) (by lia)];exact h.2.2.1 p q h1 h2 h3
theorem Runs.app{xs:Array Keyed}:∀ {l l':List (Nat×Nat×Nat)} {a b:Nat},Runs lt key xs a (l++l') b↔∃ c,Runs lt key xs a l c/\Runs lt key xs c l' b
 |[],l',a,b=>⟨fun h=>⟨a,rfl,h⟩,fun⟨c,h1,h2⟩=>by cases h1;exact h2⟩
 |r::l,l',a,b=>by
  constructor
  ·intro h;obtain⟨c,h1,h2⟩:=Runs.app.mp h.2.2.2;exact⟨c,⟨h.1,h.2.1,h.2.2.1,h1⟩,h2⟩
  ·rintro⟨c,⟨h1,h2,h3,h4⟩,h5⟩;exact⟨h1,h2,h3,Runs.app.mpr ⟨c,h4,h5⟩⟩
abbrev mkS(st:SortSt)(xs:Array Keyed)(L:List (Nat×Nat×Nat))(g:Nat):SortSt:=SortSt.mk' (kindOf st) xs L.toArray g (failedOf st)
theorem K9(e:Env M A s κ key lt a₀){st:SortSt}(hk:kindOf st=κ)(hf:failedOf st=none){xs:Array Keyed}(hp:xs.Perm a₀){L:List (Nat×Nat×Nat)}{g i lo:Nat}(hi:i+1<L.length)(hR:Runs lt key xs 0 L lo)(hz:lo<=a₀.size){Q:Bool->SortSt->Prop}
  (h:∀ xs' L' g',xs'.Perm a₀->Runs lt key xs' 0 L' lo->L'.length+1=L.length->(∀ k,lo<=k->el xs' k=el xs k)->Q true (mkS st xs' L' g')):wpS M A E s (mergeAt' i) Q (mkS st xs L g):=by
 have e0:L=L.take i++(L[i]::L[i+1]::L.drop (i+2)):=by
  rw[<- wX,<- wX,Al]
 generalize hx:L[i]=x at e0;generalize hy:L[i+1]=y at e0;generalize h1:L.take i=L1 at e0;generalize h2:L.drop (i+2)=L2 at e0;obtain⟨p,n,w⟩:=x;obtain⟨q,m,w'⟩:=y;have hl1:L1.length=i:=by rw[<- h1,qt];lia
 rw[e0] at hR;obtain⟨c,r1,r2⟩:=Runs.app.mp hR;obtain⟨a1,a2,a3,b1,b2,b3,b4⟩:=r2;dsimp only at a1 a2 a3 b1 b2 b3 b4;subst a1;subst b1;have le1:=r1.le;have le2:=b4.le;refine a2c e (st:=mkS st xs L g) (L1:=L1) (L2:=L2) (p:=p) (n:=n) (w:=w) (q:=p+n) (m:=m) (w':=w') hk hf hp (by show L.toArray.toList=_;rw[List.toList_toArray];exact e0) hl1 rfl a2 b2 (by lia) a3 b3 ?_;intro ys g' hy1 hy2 hy3;have Z9:∀ k,k<p\/p+n+m<=k->el ys k=el xs k:=hy2;refine h ys _ g' hy1 (Runs.app.mpr ⟨p,r1.congr fun k _ hk=>Z9 k (.inl hk),rfl,(show 1<=n+m by lia),?_,?_⟩) ?_ fun k hk=>Z9 k (.inr (by lia))
 ·have:p+(n+m)=p+n+m:=by lia
  show Srt lt key ys p (p+(n+m));rw[this];exact hy3
 ·show Runs lt key ys (p+(n+m)) L2 lo;have:p+(n+m)=p+n+m:=by lia
  rw[this];exact b4.congr fun k hk _=>Z9 k (.inr hk)
 ·rw[e0];simp;lia
theorem Runs.modify{xs:Array Keyed}{f:Nat×Nat×Nat->Nat×Nat×Nat}(h1:∀ x,(f x).1=x.1)(h2:∀ x,(f x).2.1=x.2.1):∀ {l:List (Nat×Nat×Nat)} {k a b:Nat},Runs lt key xs a l b->Runs lt key xs a (l.modify k f) b
 |[],k,a,b,h=>by simpa using h
 |r::l,0,a,b,h=>by
  rw[List.modify_zero_cons];unfold Runs at h ⊢;rw[h1,h2];exact h
 |r::l,k+1,a,b,h=>by
  rw[List.modify_succ_cons];exact⟨h.1,h.2.1,h.2.2.1,Runs.modify h1 h2 h.2.2.2⟩
theorem XH(e:Env M A s κ key lt a₀){st:SortSt}(hk:kindOf st=κ)(hf:failedOf st=none)(ha:arrOf st=a₀)(hP:pendingOf st=#[]){Q:Unit->SortSt->Prop}
  (h:∀ st',(arrOf st').Perm a₀->failedOf st'=none->Srt lt key (arrOf st') 0 a₀.size->Q () st'):wpS M A E s sortRuns' Q st:=by
 rw[sortRuns'_eq];refine aQ (jO ?_);rw[ha];dsimp only;generalize minRun' a₀.size a₀.size 0=mr;refine aQ (jh (jg (I:=fun x c st'=>∃ xs L g lo,st'=mkS st xs L g/\c=(none,lo)/\xs.Perm a₀/\Runs lt key xs 0 L lo/\lo<=a₀.size/\(x<=lo\/lo=a₀.size))
  (Q:=fun c st'=>∃ xs L g,st'=mkS st xs L g/\c=(none,a₀.size)/\xs.Perm a₀/\Runs lt key xs 0 L a₀.size) ?step ?fin ?init) ?post)
 case init=>
  refine⟨a₀,[],gallopOf st,0,?_,rfl,.refl _,rfl,by lia,.inl (bR _)⟩;show st=SortSt.mk' (kindOf st) a₀ #[] (gallopOf st) (failedOf st);rw[<- ha,<- hP]
 case fin=>
  rintro c st' ⟨xs,L,g,lo,rfl,rfl,a1,a2,a3,a4⟩;have:lo=a₀.size:=by lia
  subst this;exact⟨xs,L,g,rfl,rfl,a1,a2⟩
 case step=>
  rintro x c st' _ hx ⟨xs,L,g,lo,rfl,rfl,a1,a2,a3,a4⟩;dsimp only;by_cases hge:lo>=a₀.size
  ·rw[aK hge];have:lo=a₀.size:=by lia
   subst this;exact aX ⟨xs,L,g,rfl,rfl,a1,a2⟩
  rw[aG hge];refine aQ (Uv e (st:=mkS st xs L g) hk a1 (by lia) (by lia) ?_);intro n ys p1 p2 p3 p4 p5;dsimp only;have hy:Low ys xs lo:=p2;by_cases hm:n<mr
  ·rw[aK hm];refine aQ (sX (sW ⟨rfl,?_⟩));refine aQ (a0K e (st:=mkS st ys L g) hk p1 p3 (by lia) (by lia) p5 fun zs r1 r2 r5=>?_);rw[aG (by decide)];have r3:1<=min (a₀.size-lo) mr:=by lia
   have r4:lo+min (a₀.size-lo) mr<=a₀.size:=by lia
   have rR:Runs lt key zs 0 L lo:=a2.congr fun k _ hk=>(r2.trans hy) k hk
   show wpS M A E s _ _ (mkS st zs L g);clear p2 hy p5 r2 hm p3 p4 p1;generalize min (a₀.size-lo) mr=n at r3 r4 r5 ⊢;have snoc:∀(ys:Array Keyed)(L':List (Nat×Nat×Nat)),Runs lt key ys 0 L' lo->(∀ k,lo<=k->el ys k=el zs k)->Runs lt key ys 0 (L'++[(lo,n,0)]) (lo+n):=fun ys L' hy he=>
    Runs.app.mpr ⟨lo,hy,rfl,r3,fun p q h1 h2 h3=>by rw[he p h1,he q (by lia)];exact r5 p q h1 h2 h3,rfl⟩
   have push:∀(ys:Array Keyed)(L':List (Nat×Nat×Nat))(g':Nat),setPending (mkS st ys L' g') ((pendingOf (mkS st ys L' g')).push (lo,n,0))=mkS st ys (L'++[(lo,n,0)]) g':=fun ys L' g'=>by
    show SortSt.mk' _ _ (L'.toArray.push (lo,n,0)) _ _=_;rw[List.push_toArray]
   refine aQ (jO ?_);have ep:∀(ys:Array Keyed)(L':List (Nat×Nat×Nat))(g':Nat),pendingOf (mkS st ys L' g')=L'.toArray:=fun _ _ _=>rfl
   rw[ep]
   cases hb:L.toArray.back? with
   |none=>
    dsimp only;refine aQ (nj (aX ?_));rw[push];exact⟨zs,_,g,lo+n,rfl,rfl,r1,snoc zs L rR (fun _ _=>rfl),r4,.inl (by lia)⟩
   |some z=>
    obtain⟨u,v,w⟩:=z;dsimp only;refine aQ (jh (jg (I:=fun x c st'=>∃ ys L' g',st'=mkS st ys L' g'/\c=(none,())/\ys.Perm a₀/\Runs lt key ys 0 L' lo/\(∀ k,lo<=k->el ys k=el zs k))
     (Q:=fun c st'=>∃ ys L' g',st'=mkS st ys L' g'/\c=(none,())/\ys.Perm a₀/\Runs lt key ys 0 L' lo/\(∀ k,lo<=k->el ys k=el zs k)) ?sti (fun _ _ z=>z) ⟨zs,L,g,rfl,rfl,r1,rR,fun _ _=>rfl⟩) ?poi)
    case sti=>
     rintro y c st' _ hy ⟨ys,L',g',rfl,rfl,b1,b2,b3⟩;refine aQ (jO ?_);rw[ep,cD];by_cases hl:L'.length>1
     ·rw[aK hl,Er,ig (by lia)];generalize L'[L'.length-2]=t;obtain⟨t1,t2,t3⟩:=t;dsimp only;by_cases ho:t3<=power' a₀.size (2*u+v) (2*u+v+v+n) a₀.size
      ·rw[aK ho];exact aX ⟨ys,L',g',rfl,rfl,b1,b2,b3⟩
      ·rw[aG ho];refine aQ (K9 e hk hf b1 (by lia) b2 (by omega) fun zs L2 g2 c1 c2 c3 c4=>?_);exact aX ⟨zs,L2,g2,rfl,rfl,c1,c2,fun k hk=>(c4 k hk).trans (b3 k hk)⟩
     ·rw[aG hl];exact aX ⟨ys,L',g',rfl,rfl,b1,b2,b3⟩
    case poi=>
     rintro c st' ⟨ys,L',g',rfl,rfl,b1,b2,b3⟩;dsimp only;refine aQ (nj (aQ (nj (aX ?_))));generalize power' a₀.size (2*u+v) (2*u+v+v+n) a₀.size=pw;have em:setPending (mkS st ys L' g') ((pendingOf (mkS st ys L' g')).modify ((pendingOf (mkS st ys L' g')).size-1) fun x=>(x.1,x.2.1,pw))=mkS st ys (L'.modify (L'.length-1) fun x=>(x.1,x.2.1,pw)) g':=by
      show SortSt.mk' _ _ (L'.toArray.modify (L'.toArray.size-1) fun x=>(x.1,x.2.1,pw)) _ _=_;rw[Vm,cD]
     rw[em,push];exact⟨ys,_,g',lo+n,rfl,rfl,b1,snoc ys _ (Runs.modify (f:=fun x=>(x.1,x.2.1,pw)) (fun _=>rfl) (fun _=>rfl) b2) b3,r4,.inl (by lia)⟩
  ·rw[aG hm];have rR:Runs lt key ys 0 L lo:=a2.congr fun k _ hk=>hy k hk
   have r4:lo+n<=a₀.size:=by lia
   show wpS M A E s _ _ (mkS st ys L g);clear hm hy p2;have r5:=p5;have r3:=p3;have r1:=p1;generalize ys=zs at r1 r3 r5 rR ⊢;have snoc:∀(ys:Array Keyed)(L':List (Nat×Nat×Nat)),Runs lt key ys 0 L' lo->(∀ k,lo<=k->el ys k=el zs k)->Runs lt key ys 0 (L'++[(lo,n,0)]) (lo+n):=fun ys L' hy he=>
    Runs.app.mpr ⟨lo,hy,rfl,r3,fun p q h1 h2 h3=>by rw[he p h1,he q (by lia)];exact r5 p q h1 h2 h3,rfl⟩
   have push:∀(ys:Array Keyed)(L':List (Nat×Nat×Nat))(g':Nat),setPending (mkS st ys L' g') ((pendingOf (mkS st ys L' g')).push (lo,n,0))=mkS st ys (L'++[(lo,n,0)]) g':=fun ys L' g'=>by
    show SortSt.mk' _ _ (L'.toArray.push (lo,n,0)) _ _=_;rw[List.push_toArray]
   refine aQ (jO ?_);have ep:∀(ys:Array Keyed)(L':List (Nat×Nat×Nat))(g':Nat),pendingOf (mkS st ys L' g')=L'.toArray:=fun _ _ _=>rfl
   rw[ep]
   cases hb:L.toArray.back? with
   |none=>
    dsimp only;refine aQ (nj (aX ?_));rw[push];exact⟨zs,_,g,lo+n,rfl,rfl,r1,snoc zs L rR (fun _ _=>rfl),r4,.inl (by lia)⟩
   |some z=>
    obtain⟨u,v,w⟩:=z;dsimp only;refine aQ (jh (jg (I:=fun x c st'=>∃ ys L' g',st'=mkS st ys L' g'/\c=(none,())/\ys.Perm a₀/\Runs lt key ys 0 L' lo/\(∀ k,lo<=k->el ys k=el zs k))
     (Q:=fun c st'=>∃ ys L' g',st'=mkS st ys L' g'/\c=(none,())/\ys.Perm a₀/\Runs lt key ys 0 L' lo/\(∀ k,lo<=k->el ys k=el zs k)) ?sti (fun _ _ z=>z) ⟨zs,L,g,rfl,rfl,r1,rR,fun _ _=>rfl⟩) ?poi)
    case sti=>
     rintro y c st' _ hy ⟨ys,L',g',rfl,rfl,b1,b2,b3⟩;refine aQ (jO ?_);rw[ep,cD];by_cases hl:L'.length>1
     ·rw[aK hl,Er,ig (by lia)];generalize L'[L'.length-2]=t;obtain⟨t1,t2,t3⟩:=t;dsimp only;by_cases ho:t3<=power' a₀.size (2*u+v) (2*u+v+v+n) a₀.size
      ·rw[aK ho];exact aX ⟨ys,L',g',rfl,rfl,b1,b2,b3⟩
      ·rw[aG ho];refine aQ (K9 e hk hf b1 (by lia) b2 (by omega) fun zs L2 g2 c1 c2 c3 c4=>?_);exact aX ⟨zs,L2,g2,rfl,rfl,c1,c2,fun k hk=>(c4 k hk).trans (b3 k hk)⟩
     ·rw[aG hl];exact aX ⟨ys,L',g',rfl,rfl,b1,b2,b3⟩
    case poi=>
     rintro c st' ⟨ys,L',g',rfl,rfl,b1,b2,b3⟩;dsimp only;refine aQ (nj (aQ (nj (aX ?_))));generalize power' a₀.size (2*u+v) (2*u+v+v+n) a₀.size=pw;have em:setPending (mkS st ys L' g') ((pendingOf (mkS st ys L' g')).modify ((pendingOf (mkS st ys L' g')).size-1) fun x=>(x.1,x.2.1,pw))=mkS st ys (L'.modify (L'.length-1) fun x=>(x.1,x.2.1,pw)) g':=by
      show SortSt.mk' _ _ (L'.toArray.modify (L'.toArray.size-1) fun x=>(x.1,x.2.1,pw)) _ _=_;rw[Vm,cD]
     rw[em,push];exact⟨ys,_,g',lo+n,rfl,rfl,b1,snoc ys _ (Runs.modify (f:=fun x=>(x.1,x.2.1,pw)) (fun _=>rfl) (fun _=>rfl) b2) b3,r4,.inl (by lia)⟩
 case post=>
  rintro c st' ⟨xs,L,g,rfl,rfl,a1,a2⟩;dsimp only;have one:∀(xs:Array Keyed)(L:List (Nat×Nat×Nat)),L.length<=1->Runs lt key xs 0 L a₀.size->Srt lt key xs 0 a₀.size:=fun xs L hl hR=>by
   cases L with
   |nil=>
    have:0=a₀.size:=hR;intro p q _ _ hq;lia
   |cons r l=>
    cases l with
    |nil=>
     have h4:0+r.2.1=a₀.size:=hR.2.2.2;have:=hR.2.2.1;rwa[h4] at this
    |cons _ _=>simp at hl
  refine aQ (jh (jg (I:=fun x c st'=>∃ xs L g,st'=mkS st xs L g/\c=(none,())/\xs.Perm a₀/\Runs lt key xs 0 L a₀.size/\L.length+x<=a₀.size)
   (Q:=fun c st'=>∃ xs L g,st'=mkS st xs L g/\c=(none,())/\xs.Perm a₀/\Runs lt key xs 0 L a₀.size/\L.length<=1) ?st2 ?fi2 ?in2) ?po2)
  case in2=>
   have:=a2.le;exact⟨xs,L,g,rfl,rfl,a1,a2,by lia⟩
  case fi2=>
   rintro c st' ⟨xs,L,g,rfl,rfl,a1,a2,a3⟩;exact⟨xs,L,g,rfl,rfl,a1,a2,by lia⟩
  case po2=>
   rintro c st' ⟨xs,L,g,rfl,rfl,a1,a2,a3⟩;exact aX (h _ a1 hf (one xs L a3 a2))
  case st2=>
   rintro x c st' _ hx ⟨xs,L,g,rfl,rfl,a1,a2,a3⟩;refine aQ (jO ?_);have ep:pendingOf (mkS st xs L g)=L.toArray:=rfl;rw[ep,cD];by_cases hl:L.length<=1
   ·rw[aK hl];exact aX ⟨xs,L,g,rfl,rfl,a1,a2,hl⟩
   ·rw[aG hl];have hi:∀ c:Prop,[Decidable c]->(if c then L.length-2-1 else L.length-2)+1<L.length:=fun c _=>by split<;>lia
    refine aQ (K9 e hk hf a1 (hi _) a2 (bR _) fun zs L2 g2 b1 b2 b3 b4=>?_);exact aX ⟨zs,L2,g2,rfl,rfl,b1,b2,by lia⟩
end
end TS
end L2
namespace L2
open PySem PySem.Spec PyProof.Rows PySem.W
theorem Q7{α β:Type}{g:α->β}{l m:List β}(h:l.Perm m):∀ r:List α,m=r.map g->∃ r':List α,r'.Perm r/\l=r'.map g:=by
 induction h with
 |nil=>intro r e;exact⟨[],by cases r<;>simp_all,rfl⟩
 |@cons x l m _ ih=>
  intro r e
  cases r with
  |nil=>simp at e
  |cons a r=>
   rw[cZ] at e;injection e with e1 e2;obtain⟨r',p,e3⟩:=ih r e2;exact⟨a::r',p.cons a,by rw[cZ,<- e1,<- e3]⟩
 |swap x y l=>
  intro r e
  match r,e with
  |a::b::r,e=>
   rw[cZ,cZ] at e;injection e with e1 e2;injection e2 with e2 e3;exact⟨b::a::r,.swap _ _ _,by rw[cZ,cZ,<- e1,<- e2,<- e3]⟩
 |trans _ _ ih1 ih2=>
  intro r e;obtain⟨r2,p2,e2⟩:=ih2 r e;obtain⟨r1,p1,e1⟩:=ih1 r2 e2;exact⟨r1,p1.trans p2,e1⟩
section
variable{prog:Program}{w:World}{A:Around}{E:Value->Shared->Prop}{s:Shared}{α:Type}
structure Lk(prog:Program)(w:World)(h:Heap)(vs:List Value)(lt:α->α->Bool)(f:Nat->α):Prop where
 ex:2<=vs.length->∃ κ:SortKind,(∀(A':Around)(E':Value->Shared->Prop)(s':Shared)(Q':SortKind->Shared->Prop),Keeps h s'.heap->Q' κ s'->wpAny (model prog w) A' (keyKind' vs.toArray) Q' E' s') /\
  ∀(A':Around)(s':Shared)(i j:Nat)(C:Bool->Shared->Prop),A'.units+2<cLine->Keeps h s'.heap->i<vs.length->j<vs.length->C (lt (f i) (f j)) s'->wpAny (model prog w) A' (keyLt' κ (vs.getD i Value.none) (vs.getD j Value.none)) C (fun _ _=>False) s'
def byP(vs:List Value)(p:Array Nat):List Value:=p.toList.map fun i=>vs.getD i Value.none
def uR(vs:List Value)(f:Nat->α):Prop:=∀ i j,i<vs.length->j<vs.length->vs.getD i Value.none=vs.getD j Value.none->f i=f j
open Classical in
noncomputable def Zg(vs:List Value)(f:Nat->α)(x:Keyed):α:=f (Classical.epsilon fun i=>i<vs.length/\vs.getD i Value.none=x.1)
theorem xW{vs:List Value}{f:Nat->α}(h1:uR vs f){i:Nat}(hi:i<vs.length){v:Value}:Zg vs f (vs.getD i Value.none,v)=f i:=by
 unfold Zg;have h:=Classical.epsilon_spec (p:=fun j=>j<vs.length/\vs.getD j Value.none=vs.getD i Value.none) ⟨i,hi,rfl⟩;exact h1 _ _ h.1 hi h.2
theorem VB{vs:List Value}{κ:SortKind}{lt:α->α->Bool}{f:Nat->α}(o:jz lt)(h1:uR vs f)
  (a2n:∀ i j (C:Bool->Shared->Prop),i<vs.length->j<vs.length->C (lt (f i) (f j)) s->wpAny (model prog w) A (keyLt' κ (vs.getD i Value.none) (vs.getD j Value.none)) C (fun _ _=>False) s) :
  wpAny (model prog w) A (sortRuns'.run (SortSt.mk' κ (vs.toArray.zip vs.toArray) #[] 7 none)) (fun r s'=>s'=s/\∃ p,Good vs.length p/\G9 lt f p vs.length/\(arrOf r.2).map (·.2)=(byP vs p).toArray/\failedOf r.2=none) E s:=by
 have ez:(vs.toArray.zip vs.toArray).toList=(List.range vs.length).map fun i=>(vs.getD i Value.none,vs.getD i Value.none):=by
  refine Aa fun i=>?_
  by_cases hi:i<vs.length
  ·simp[hi,dX,List.getElem?_zip_eq_some]
  ·simp[hi]
 have hz:(vs.toArray.zip vs.toArray).size=vs.length:=by simp
 have e:TS.Env (model prog w) A s κ (Zg vs f) lt (vs.toArray.zip vs.toArray):=by
  refine⟨o,fun x y hx hy C hC=>?_⟩;rw[ez] at hx hy;obtain⟨i,hi,rfl⟩:=bW.mp hx;obtain⟨j,hj,rfl⟩:=bW.mp hy;have hi':=dH.mp hi;have hj':=dH.mp hj;rw[xW h1 hi',xW h1 hj'] at hC;exact a2n i j C hi' hj' hC
 refine TS.XH (Q:=fun _ st=>∃ p,Good vs.length p/\G9 lt f p vs.length/\(arrOf st).map (·.2)=(byP vs p).toArray/\failedOf st=none) e rfl rfl rfl rfl fun st' hp hf hs=>?_
 have hp':=hp.toList;rw[ez] at hp';obtain⟨r,pr,er⟩:=Q7 hp' _ rfl;have gd:Good vs.length r.toArray:=⟨by simpa using pr⟩
 have elr:∀ i,(hi:i<r.length)->TS.el (arrOf st') i=(vs.getD r[i] Value.none,vs.getD r[i] Value.none):=fun i hi=>by
  rw[TS.xT,er,dX,cU,ig hi];rfl
 have hr:r.length=vs.length:=by simpa using pr.length_eq
 refine⟨r.toArray,gd,fun i hi=>?_,?_,hf⟩
 ·have h2:=hs i (i+1) (lF _) (sV _) (by rw[hz];exact hi);rw[elr i (by lia),elr (i+1) (by lia)] at h2;have lt1:r[i]<vs.length:=dH.mp (pr.mem_iff.mp (n8 _));have lt2:r[i+1]<vs.length:=dH.mp (pr.mem_iff.mp (n8 _));rw[xW h1 lt1,xW h1 lt2] at h2;unfold Ky;have a1:r.toArray.getD i 0=r[i]:=by
   rw[lV,Er,ig (by lia)];rfl
  have a2:r.toArray.getD (i+1) 0=r[i+1]:=by
   rw[lV,Er,ig (by lia)];rfl
  rw[a1,a2];exact h2
 ·apply KR.mp;rw[Array.toList_map,er];unfold byP;simp
theorem Gb{a:Addr}{vs:List Value}{n:Nat}{h0:Heap}{lt:α->α->Bool}{f:Nat->α}{P:PySem.Fin->Shared->Prop}(o:jz lt)(h1:uR vs f)(hu:A.units+2<cLine)(hr:Lk prog w h0 vs lt f)(hz:vs.length<=sizeLine) (ho:s.heap.get? a=some (seqObj "list" vs.toArray n)) (hk:∀ b o,h0.get? b=some o->s.heap.get? b=some o/\b≠a)
  (h:∀ p,Good vs.length p->G9 lt f p vs.length->P (.done (.ret .none)) { s with heap:=sortedHeap s.heap a vs (byP vs p).toArray }):wpAny (model prog w) A (Builtin.«list.sort» ⟨[.ref a],[]⟩) P E s:=by
 rw[list_sort_plain];have ha:a<s.heap.objs.size:=bL ho;refine bO (listItems_at ho rfl (bO (listUpdate_at ho rfl ?_ (by show vs.toArray.size<=_;rw[cD];omega) (by show(#[]:Array Value).size<=_;simp))));have ho1:=get?_update_seq ho (fun _=>#[]);refine bO (seqEpoch_at ho1 rfl (bO (wpAny_newTuple (bO (wpAny_newList (wB ?_) (by simp))) (by simpa using hz))));show wpAny (model prog w) A _ P E { s with heap:=((s.heap.update a (Obj.mapSeq fun _=>#[])).push (seqObj "tuple" vs.toArray 0)).push (seqObj "list" #[] 0) };have ho6:(((s.heap.update a (Obj.mapSeq fun _=>#[])).push (seqObj "tuple" vs.toArray 0)).push (seqObj "list" #[] 0)).get? a=some _:=dG _ (dG _ ho1);have kp:Keeps h0 (((s.heap.update a (Obj.mapSeq fun _=>#[])).push (seqObj "tuple" vs.toArray 0)).push (seqObj "list" #[] 0)):=fun b o e=>by
  obtain⟨e1,e2⟩:=hk b o e;refine dG _ (dG _ ?_);rw[Ew _ _ _ _ e2];exact e1
 dsimp only;by_cases h2:vs.toArray.size<2
 ·rw[aK h2,aK h2];refine bO (cV ?_);rw[StateT.run_pure];refine bO (cV ?_);dsimp only;have h2':vs.length<2:=by simpa using h2
  have gd:Good vs.length (List.range vs.length).toArray:=⟨.refl _⟩
  have up:G9 lt f (List.range vs.length).toArray vs.length:=fun i hi=>by lia
  have eb:byP vs (List.range vs.length).toArray=vs:=by
   unfold byP;refine Aa fun i=>?_
   simp only[cU];by_cases hi:i<vs.length
   ·simp[hi,dX]
   ·simp[hi]
  have h':=h _ gd up;rw[eb] at h';have eo:(arrOf (SortSt.mk' general' (vs.toArray.zip vs.toArray) #[] 7 none)).map (·.2)=vs.toArray:=by
   show(vs.toArray.zip vs.toArray).map (·.2)=_;apply KR.mp;simp[List.map_snd_zip]
  refine bO (seqEpoch_at ho6 rfl ?_);rw[eo];refine bO (listUpdate_at ho6 rfl ?_ (by simp) (by rw[cD];lia));simp only[bne_self_eq_false,vZ,qj];exact cV h'
 ·rw[aG h2,aG h2];have h2':2<=vs.length:=by simpa using h2
  obtain⟨κ,hkind,hless⟩:=hr.ex h2';refine bO (hkind _ _ _ _ kp ?_);refine bO (iM (VB (κ:=κ) (f:=f) o h1 fun i j C hi hj hC=>hless A _ i j C hu kp hi hj hC) ?_ fun _ _ e=>e);rintro⟨⟨⟩,st'⟩ s' ⟨rfl,p,g,u,eo,hf⟩;dsimp only;dsimp only at eo hf;refine bO (seqEpoch_at ho6 rfl ?_);rw[eo];refine bO (listUpdate_at ho6 rfl ?_ (by simp) ?_)
  ·rw[hf];simp only[bne_self_eq_false,vZ,qj];exact cV (h p g u)
  ·unfold byP;rw[cD,aU,lD,g.size];lia
theorem yw{l:Addr}{vs:List Value}{lt:α->α->Bool}{f:Nat->α}{Q:Value->Shared->Prop}(o:jz lt)(h1:uR vs f)(hu:A.units+10<cLine)(hr:Lk prog w s.heap vs lt f)(hz:vs.length<=sizeLine)(hl:s.heap.IsList l vs.toArray)
  (h:∀ p,Good vs.length p->G9 lt f p vs.length->Q (.ref (s.heap.objs.size+1)) { s with heap:=sortedAll s.heap vs (byP vs p).toArray }):wpAny (model prog w) A (call (.builtin "sorted") [.ref l]) Q E s:=by
 refine UW kind_sorted plain_sorted entry_sorted (args_sorted1 _) ?_;unfold Builtin.«sorted»;refine bO (m:=checkCount "sorted" 1 1 _) (cV (bO (collect_list hl ?_ hz)));refine bO (wpAny_newList ?_ (by simpa using hz));have e1:((s.heap.push (seqObj "list" #[] 0)).update s.heap.objs.size (Obj.mapSeq (·++vs.toArray))).objs.size=s.heap.objs.size+1:=by rw[Heap.size_update,size_push']
 have e2:(((s.heap.push (seqObj "list" #[] 0)).update s.heap.objs.size (Obj.mapSeq (·++vs.toArray))).push (seqObj "list" vs.toArray 0)).get? (s.heap.objs.size+1)=some (seqObj "list" vs.toArray 0):=by
  rw[<- e1];exact jc _ rfl
 show wpAny _ _ _ _ _ { s with heap:=((s.heap.push (seqObj "list" #[] 0)).update s.heap.objs.size (Obj.mapSeq (·++vs.toArray))).push (seqObj "list" vs.toArray 0) };rw[e1];refine bO (wB (KY slot_list_sort ⟨_,e2,rfl⟩ entry_list_sort (Gb (h0:=s.heap) o h1 (by show A.units+1+1+2<cLine;lia) hr hz e2 (fun b o e=>⟨?_,fQ (rZ (bL e))⟩) fun p g u=>⟨_,rfl,cV ⟨_,rfl,h p g u⟩⟩) (args_list_sort _)));have hlt:b<s.heap.objs.size:=bL e;refine dG _ ?_;rw[Ew _ _ _ _ (fQ hlt)];exact dG _ e
end
def gV(a b:Cell):Bool:=decide (bK a b)
theorem lK:jz gV:=by
 refine⟨fun a b h=>?_,fun a b c h1 h2=>?_,fun a b h1 h2=>?_⟩
 ·have:=cY h;refine bZ ?_;unfold bK at *;lia
 ·have h1':=jD h1;have h2':=jD h2;refine bZ ?_;unfold bK at *;lia
 ·have h1':=jD h1;have h2':=jD h2;unfold bK at *;exact jN (by omega) (by lia)
section
variable{X:Cx}
theorem wH{pins:List (Addr×Obj)}{zzs:L2.St}{H:Hp}{s:Shared}{vs:List V}{us:List Value}{cs:List Cell}(I:Inv X pins zzs H s)(D:aN X.K H vs (cs.map aA))(r:Vals vs us):Lk X.prog X.w s.heap us gV fun i=>cs.getD i (0,0):=by
 have hl:us.length=cs.length:=by rw[<- r.length,D.length,aU]
 have at_:∀ i,(hi:i<cs.length)->∃(a:Addr)(o:Obj)(t t':Tok)(n:Nat),us.getD i Value.none=.ref a/\s.heap.get? a=some o/\o.cls=.type "tuple" /\ o.data=.seq #[.int cs[i].1 t,.int cs[i].2 t'] n:=fun i hi=>by
  have hv:i<vs.length:=by rw[r.length,hl];exact hi
  have ev:vs[i]?=some vs[i]:=by simp[hv]
  obtain⟨u,eu,ru⟩:=r.get ev;obtain⟨d,ed,dd⟩:=D.get ev;rw[cU,ig hi] at ed
  cases ed
  obtain⟨a,o,t,t',n,rfl,h1,h2,h3⟩:=pC I dd ru;exact⟨a,o,t,t',n,by rw[dX,eu];rfl,h1,h2,h3⟩
 refine⟨fun h2=>⟨tuples' true,fun A' E' s' Q' kp q=>?_,fun A' s' i j C hu kp hi hj hC=>?_⟩⟩
 ·have kt:∀(cs:List Cell)(us:List Value),us.length=cs.length->(∀ i,(hi:i<cs.length)->∃(a:Addr)(o:Obj)(t t':Tok)(n:Nat),us.getD i Value.none=.ref a/\s.heap.get? a=some o/\o.cls=.type "tuple" /\ o.data=.seq #[.int cs[i].1 t,.int cs[i].2 t'] n) ->
    ∃ fs:List Value,fs.length=us.length/\(∀ f∈fs,∃ i t,f=Value.int i t)/\KatTups s'.heap us fs:=by
   intro cs
   induction cs with
   |nil=>
    intro us e _
    cases us with
    |nil=>exact⟨[],rfl,(fun f hf=>by cases hf),.nil⟩
    |cons a b=>simp at e
   |cons c cs ih=>
    intro us e h
    cases us with
    |nil=>simp at e
    |cons u us=>
     obtain⟨a,o,t,t',n,e1,e2,e3,e4⟩:=h 0 (by simp);have eu:u=.ref a:=e1;subst eu;obtain⟨fs,f1,f2,f3⟩:=ih us (by simpa using e) fun i hi=>by
      have:=h (i+1) (by simpa using hi);simpa using this
     refine⟨.int c.1 t::fs,by simp[f1],fun f hf=>?_,KatTups.cons (kp _ _ e2) e3 e4 rfl f3⟩;rcases cL.mp hf with z|z
     ·exact⟨_,_,z⟩
     ·exact f2 f z
  obtain⟨fs,f1,f2,f3⟩:=kt cs us hl at_;refine kat_kind (T:=.type "int") f3 (by lia) (fun v hv=>?_) (by decide) ?_
  ·obtain⟨i,t,rfl⟩:=f2 v hv;exact Looks.of_pure rfl
  ·exact q
 ·rw[hl] at hi hj;obtain⟨a,o,t,t',n,e1,e2,e3,e4⟩:=at_ i hi;obtain⟨b,o2,t2,t2',n2,g1,g2,g3,g4⟩:=at_ j hj;rw[e1,g1];have ci:cs.getD i (0,0)=cs[i]:=by rw[dX,ig hi];rfl
  have cj:cs.getD j (0,0)=cs[j]:=by rw[dX,ig hj];rfl
  rw[ci,cj] at hC;refine kat_lt (kp _ _ e2) e4 (kp _ _ g2) g4 ?_;have out:∀ x:Bool,(x=true↔bK cs[i] cs[j])->C x s':=fun x hx=>by
   have:x=gV cs[i] cs[j]:=by
    unfold gV
    cases x
    ·exact(bZ fun z=>by have:=hx.mpr z;cases this).symm
    ·exact(bN (hx.mp rfl)).symm
   rw[this];exact hC
  refine kat_cons (uH ?_);by_cases q1:cs[i].1=cs[j].1
  ·rw[show(cs[i].1==cs[j].1)=true from j8.mpr q1];refine kat_yes (kat_cons (uH ?_));by_cases q2:cs[i].2=cs[j].2
   ·rw[show(cs[i].2==cs[j].2)=true from j8.mpr q2];refine kat_yes (kat_nil (out _ ⟨fun z=>?_,fun z=>?_⟩))
    ·have:=cY z;simp at this
    ·unfold bK at z;lia
   ·rw[show(cs[i].2==cs[j].2)=false from oN.mpr q2];refine kat_no (kat_one _ _ (lt_int (out _ ?_)));rw[lE];unfold bK;lia
  ·rw[show(cs[i].1==cs[j].1)=false from oN.mpr q1];refine kat_no (oneLt_int (out _ ?_));rw[lE];unfold bK;lia
theorem Bt{pins:List (Addr×Obj)}{zzs:L2.St}{H:Hp}{s:Shared}{vs:List V}{us:List Value}{cs:List Cell}(I:Inv X pins zzs H s)(D:aN X.K H vs (cs.map aA))(r:Vals vs us):uR us fun i=>cs.getD i (0,0):=by
 have hl:us.length=cs.length:=by rw[<- r.length,D.length,aU]
 have at_:∀ i,i<us.length->∃(a:Addr)(o:Obj)(t t':Tok)(n:Nat),us.getD i Value.none=.ref a/\s.heap.get? a=some o/\o.data=.seq #[.int (cs.getD i (0,0)).1 t,.int (cs.getD i (0,0)).2 t'] n:=fun i hi=>by
  have hv:i<vs.length:=by rw[r.length];exact hi
  have hi':i<cs.length:=by lia
  have ev:vs[i]?=some vs[i]:=by simp[hv]
  obtain⟨u,eu,ru⟩:=r.get ev;obtain⟨d,ed,dd⟩:=D.get ev;rw[cU,ig hi'] at ed
  cases ed
  obtain⟨a,o,t,t',n,rfl,h1,_,h3⟩:=pC I dd ru;refine⟨a,o,t,t',n,by rw[dX,eu];rfl,h1,?_⟩;rw[dX,ig hi'];exact h3
 intro i j hi hj e;obtain⟨a,o,t,t',n,e1,e2,e3⟩:=at_ i hi;obtain⟨b,o',v,v',m,g1,g2,g3⟩:=at_ j hj;rw[e1,g1] at e
 cases e
 rw[e2] at g2
 cases g2
 rw[e3] at g3;injection g3 with g5 _;have g6:=congrArg Array.toList g5;injection g6 with a1 a2;injection a2 with a2 _;injection a1 with a1 _;injection a2 with a2 _;exact jN a1 a2
theorem yg{vs:List V}{us:List Value}(r:Vals vs us):∀(ps:List Nat),(∀ i∈ps,i<vs.length)->Vals (ps.map fun i=>vs.getD i .non) (ps.map fun i=>us.getD i Value.none)
 |[],_=>.nil
 |i::ps,h=>by
  have hi:=h i cG;obtain⟨u,eu,ru⟩:=r.get (show vs[i]?=some vs[i] from by simp[hi]);have e1:vs.getD i .non=vs[i]:=by simp[dX,hi]
  have e2:us.getD i Value.none=u:=by rw[dX,eu];rfl
  rw[cZ,cZ,e1,e2];exact .cons ru (yg r ps fun j hj=>h j (dw _ hj))
theorem Dj{K:ao}{H:Hp}{vs:List V}{ds:List Dt}{d0:Dt}(D:aN K H vs ds):∀(ps:List Nat),(∀ i∈ps,i<vs.length)->aN K H (ps.map fun i=>vs.getD i .non) (ps.map fun i=>ds.getD i d0)
 |[],_=>.nil
 |i::ps,h=>by
  have hi:=h i cG;obtain⟨d,ed,dd⟩:=D.get (show vs[i]?=some vs[i] from by simp[hi]);have e1:vs.getD i .non=vs[i]:=by simp[dX,hi]
  have e2:ds.getD i d0=d:=by rw[dX,ed];rfl
  rw[cZ,cZ,e1,e2];exact .cons dd (Dj D ps fun j hj=>h j (dw _ hj))
theorem uf{β:Type}{xs:List β}{d:β}{ps:List Nat}(h:ps.Perm (List.range xs.length)):(ps.map fun i=>xs.getD i d).Perm xs:=by
 have e:(List.range xs.length).map (fun i=>xs.getD i d)=xs:=by
  refine Aa fun i=>?_
  simp only[cU];by_cases hi:i<xs.length
  ·simp[hi,dX]
  ·simp[hi]
 exact(h.map _).trans (by rw[e])
def Asc(cs:List Cell):Prop:=cs.Pairwise fun a b=>¬bK b a
def Tf(K:ao):List V->Hp->VK->Prop:=fun xs H Q=>∃(p:Addr)(vs:List V)(cs:List Cell),xs=[.ref p]/\SqL K H p vs/\aN K H vs (cs.map aA)/\cs.length<64/\∀ l ws ds,H l=none->ws.Perm vs->aN K H ws (ds.map aA)->ds.Perm cs->Asc ds->Q (.ref l) (upd H l (.lst ws))
theorem IK(hu:X.A.units+60<cLine):fj X (.builtin "sorted") (Tf X.K):=by
 intro pins s zzs H xs us Q I r h;obtain⟨p,vs,cs,rfl,hS,D,h64,q⟩:=h;obtain⟨u,rfl,ru⟩:=vals1 r
 cases ru
 obtain⟨its,rv,pl,hz⟩:=I.list hS;have hl:its.length=cs.length:=by rw[<- rv.length,D.length,aU]
 have hv:vs.length=its.length:=rv.length;refine yw lK (Bt I D rv) (by lia) (wH I D rv) (by lia) pl.isList fun o g up=>?_
 obtain⟨e,he⟩:=sortedAll_at s.heap its (byP its o).toArray;have hn:H (s.heap.objs.size+1)=none:=I.hok.fresh (sV _);have bd:∀ i∈o.toList,i<vs.length:=fun i hi=>by rw[hv];exact dH.mp (g.perm.mem_iff.mp hi)
 have rv':Vals (o.toList.map fun i=>vs.getD i .non) (byP its o):=yg rv o.toList bd;have pv:(o.toList.map fun i=>vs.getD i .non).Perm vs:=uf (by rw[hv];exact g.perm);have dv:aN X.K H (o.toList.map fun i=>vs.getD i .non) ((o.toList.map fun i=>cs.getD i (0,0)).map aA):=by
  have:=Dj (d0:=aA (0,0)) D o.toList bd;have e1:(o.toList.map fun i=>(cs.map aA).getD i (aA (0,0)))=((o.toList.map fun i=>cs.getD i (0,0)).map aA):=by
   rw[qx];refine Am fun i hi=>?_
   simp only[dX,cU,Function.comp]
   cases cs[i]?<;>rfl
  rw[<- e1];exact this
 have pc:(o.toList.map fun i=>cs.getD i (0,0)).Perm cs:=uf (by rw[<- hl];exact g.perm);have as:Asc (o.toList.map fun i=>cs.getD i (0,0)):=by
  unfold Asc;rw[Cv];intro i j hi hj hij;rw[aU,lD,g.size] at hi hj;have:=up.le lK (j-i) i (by lia);have e1:i+(j-i)=j:=by lia
  rw[e1] at this;have:=jD this;have sz:=g.size;have a1:Ky (fun i=>cs.getD i (0,0)) o i=(o.toList.map fun i=>cs.getD i (0,0))[i]:=by
   unfold Ky;rw[Ab,lV,j5 (by lia)]
   rfl
  have a2:Ky (fun i=>cs.getD i (0,0)) o j=(o.toList.map fun i=>cs.getD i (0,0))[j]:=by
   unfold Ky;rw[Ab,lV,j5 (by lia)]
   rfl
  rw[<- a1,<- a2];exact this
 have hz':(o.toList.map fun i=>vs.getD i .non).length<=sizeLine:=by rw[pv.length_eq];exact hz
 exact⟨.ref (s.heap.objs.size+1),upd H (s.heap.objs.size+1) (.lst (o.toList.map fun i=>vs.getD i .non)),I.laid (a:=s.heap.objs.size+1) (o:=.lst (o.toList.map fun i=>vs.getD i .non)) (t':=s.toks) (fun b o q=>sortedAll_old q) (sV _) ⟨hz',byP its o,e,rv',he⟩,rfl,q _ _ _ hn pv dv pc as⟩
theorem W9{K:ao}(hu:X.A.units+60<cLine)(hK:X.K=K:=by rfl):fj X (.builtin "sorted") (Tf K):=by subst hK;exact IK hu
end
end L2
namespace L2
open PySem PySem.Spec PyProof.Rows PySem.SeqAt PySem.MeetsSeq PySem.MeetsSeq2 PySem.MeetsSeq3
open PySem.AutoSeq1 (wpAny_loadPart')
end L2
namespace L2
open PySem PySem.Spec PyProof.Rows
section
variable{X:Cx}
def a1F:List V->Hp->VK->Prop:=fun xs H Q=>∃ c:Nat,xs=[.str ⟨#[c]⟩]/\48<=c/\c<=57/\Q (.int ((c:Int)-48)) H
theorem Jg:∀ c∈List.range 58,48<=c->intText? ⟨#[c]⟩=some ((c:Int)-48):=by decide +kernel
theorem O4:fj X (.type "int") a1F:=by
 intro pins s zzs H xs us Q I r h;obtain⟨c,rfl,h1,h2,q⟩:=h;obtain⟨u,rfl,t,rfl⟩:=vals1 r;exact PySem.W.KIN.call_text (Jg c (dH.mpr (by lia)) h1) (by show(1:Nat)<=640;decide) ⟨.int _,H,I.tok _,⟨_,rfl⟩,q⟩
end
def iG(zs:List Str)(c:Cell):Int:=(codeAt zs (c.1.toNat,c.2.toNat):Int)-48
theorem vm:∀ h∈List.range 7,∀ w∈List.range 7,(bI h w).Pairwise bK:=by decide +kernel
theorem yQ(c:Nat):inS "012345678" c=decide (48<=c/\c<=56):=by
 rw[Jo (by decide +kernel)];have e:("012345678" : Str).cps.toList=[48,49,50,51,52,53,54,55,56]:=by decide +kernel
 rw[e];have:(c∈[48,49,50,51,52,53,54,55,56])↔(48<=c/\c<=56):=by simp;lia
 rw[Fj];exact this
theorem yV{zs:List Str}{w:Nat}{sg:Str}{x:Cell}:x∈uW zs w sg↔inF zs.length w x/\inS sg (codeAt zs (x.1.toNat,x.2.toNat))=true:=by
 unfold uW;rw[KQ]
 constructor
 ·rintro⟨r,hr,hx⟩;obtain⟨c,hc,rfl⟩:=bW.mp hx;rw[cB,dH] at hc;rw[dH] at hr;exact⟨⟨⟨by show(0:Int)<=(r:Int);lia,by show(r:Int)<zs.length;lia⟩,⟨by show(0:Int)<=(c:Int);lia,by show(c:Int)<w;lia⟩⟩,hc.2⟩
 ·rintro⟨⟨⟨a,b⟩,⟨c,d⟩⟩,hs⟩;refine⟨x.1.toNat,dH.mpr (by lia),bW.mpr ⟨x.2.toNat,cB.mpr ⟨dH.mpr (by lia),hs⟩,?_⟩⟩;exact jN (by show((x.1.toNat:Nat):Int)=x.1;lia) (by show((x.2.toNat:Nat):Int)=x.2;lia)
theorem Vw.code{zs:List Str}{w:Nat}{x:Cell}(v:Vw zs w)(h:inF zs.length w x):zE (codeAt zs (x.1.toNat,x.2.toNat))=true:=by
 obtain⟨⟨a,b⟩,⟨c,d⟩⟩:=h;have hr:x.1.toNat<zs.length:=by lia
 have e:zs.getD x.1.toNat Str.empty=zs[x.1.toNat]:=by simp[dX,hr]
 have hl:(zs[x.1.toNat]).cps.size=w:=v.len _ (n8 hr);refine v.sg _ (n8 hr) _ ?_;unfold codeAt;dsimp only;rw[e,lV,j5 (by lia)];exact Kd _
theorem Js{zs:List Str}{w:Nat}{x:Cell}(v:Vw zs w):x∈uW zs w "012345678" ↔ inF zs.length w x/\aR zs w x=false:=by
 rw[yV,yQ]
 constructor
 ·rintro⟨h,hc⟩;have:=cY hc;refine⟨h,?_⟩;unfold aR;rw[bZ (show ¬codeAt zs (x.1.toNat,x.2.toNat)=35 by lia),Ae]
 ·rintro⟨h,hc⟩;have sg:=cY (v.code h);unfold aR at hc;rw[bN h,sJ] at hc;have:=jD hc;exact⟨h,bN (by lia)⟩
theorem Vw.digit{zs:List Str}{w:Nat}{x:Cell}(v:Vw zs w)(h:inF zs.length w x)(hc:aR zs w x=false):48<=codeAt zs (x.1.toNat,x.2.toNat)/\codeAt zs (x.1.toNat,x.2.toNat)<=56:=by
 have:=(yV.mp ((Js v).mpr ⟨h,hc⟩)).2;rw[yQ] at this;exact cY this
theorem O5{zs:List Str}{w:Nat}{x:Cell}:x∈uW zs w "#" ↔ aR zs w x=true:=by
 rw[<- tD];unfold bQ;rw[cB,dI]
 constructor
 ·exact fun h=>h.2
 ·intro h;refine⟨?_,h⟩;unfold aR at h;rw[oR] at h;exact cY h.1
theorem Iv{cs:List Cell}(h:Asc cs)(nd:cs.Nodup):cs.Pairwise bK:=by
 unfold Asc at h;have:cs.Pairwise fun a b=>¬bK b a/\a≠b:=h.and nd
 exact this.imp fun {a b} hab=>by
  obtain⟨h1,h2⟩:=hab;have h3:¬(a.1=b.1/\a.2=b.2):=fun z=>h2 (jN z.1 z.2)
  unfold bK at *;lia
theorem iY{cs:List Cell}(h:cs.Pairwise bK):cs.Nodup:=h.imp fun {a b} hab e=>by
 subst e;unfold bK at hab;lia
end L2
namespace L2
open PySem PySem.Spec PyProof.Rows
section
variable{κ:Type} [DecidableEq κ]
def ux(kvs:List (κ×V))(k:κ):Option V:=(kvs.find? fun kv=>decide (kv.1=k)).map (·.2)
def putK(kvs:List (κ×V))(k:κ)(v:V):List (κ×V):=
 if(kvs.any fun kv=>decide (kv.1=k))=true then kvs.map (fun kv=>if kv.1=k then(kv.1,v) else kv) else kvs++[(k,v)]
theorem uD{p:κ×V}{r:List (κ×V)}{k:κ}(e:p.1=k):ux (p::r) k=some p.2:=by simp[ux,wz,e]
theorem uz{p:κ×V}{r:List (κ×V)}{k:κ}(e:¬p.1=k):ux (p::r) k=ux r k:=by simp[ux,wz,e]
theorem uy(k:κ):∀ kvs:List (κ×V),(kvs.any fun kv=>decide (kv.1=k))=(ux kvs k).isSome
 |[]=>rfl
 |p::r=>by
  rw[wC];by_cases e:p.1=k
  ·simp only[uD e,bN e,Bool.true_or,Option.isSome_some]
  ·rw[uz e,bZ e,Bool.false_or];exact uy k r
theorem wM(kvs:List (κ×V))(k:κ)(v:V):(putK kvs k v).length<=kvs.length+1:=by
 unfold putK;split
 ·rw[aU];lia
 ·rw[dB,fO,wu];lia
theorem T9{kvs:List (κ×V)}{k:κ}(v:V)(h:ux kvs k=none):putK kvs k v=kvs++[(k,v)]:=by
 unfold putK;rw[uy,h];exact aG (by decide)
theorem yq.vo{o:Option V}{u:Option Value}(r:yq o u):o.isSome=u.isSome:=by
 cases o with
 |none=>cases u with
  |none=>rfl
  |some _=>exact(show False from r).elim
 |some _=>cases u with
  |none=>exact(show False from r).elim
  |some _=>rfl
theorem KV.val{kvs:List (κ×V)}{vs:List (κ×Value)}(r:KV kvs vs)(k:κ):yq (ux kvs k) (valueAt vs k):=by
 unfold KV at r
 induction r with
 |nil=>exact True.intro
 |@cons p q ps qs h t ih=>
  obtain⟨h1,h2⟩:=h;by_cases e:p.1=k
  ·have e':q.1=k:=h1.symm.trans e;have b:valueAt (q::qs) k=some q.2:=by simp[valueAt,wz,e']
   rw[uD e,b];exact h2
  ·have e':¬q.1=k:=fun z=>e (h1.trans z)
   have b:valueAt (q::qs) k=valueAt qs k:=by simp[valueAt,wz,e']
   rw[uz e,b];exact ih
theorem KV.any{kvs:List (κ×V)}{vs:List (κ×Value)}(r:KV kvs vs)(k:κ):(kvs.any fun kv=>decide (kv.1=k))=vs.any fun kv=>decide (kv.1=k):=by
 unfold KV at r
 induction r with
 |nil=>rfl
 |cons h t ih=>rw[wC,wC,ih,h.1]
theorem KV.repl{kvs:List (κ×V)}{vs:List (κ×Value)}(r:KV kvs vs)(k:κ){y:V}{u:Value}(ry:RelV y u) :
  KV (kvs.map fun kv=>if kv.1=k then(kv.1,y) else kv) (vs.map fun kv=>if kv.1=k then(kv.1,u) else kv):=by
 unfold KV at r ⊢
 induction r with
 |nil=>exact .nil
 |@cons p q ps qs h t ih=>
  rw[cZ,cZ];refine .cons ?_ ih;obtain⟨h1,h2⟩:=h;by_cases e:p.1=k
  ·rw[aK e,aK (h1.symm.trans e)];exact⟨h1,ry⟩
  ·rw[aG e,aG (fun z=>e (h1.trans z))];exact⟨h1,h2⟩
theorem KV.put{kvs:List (κ×V)}{vs:List (κ×Value)}(r:KV kvs vs)(k:κ){y:V}{u:Value}(ry:RelV y u):KV (putK kvs k y) (stored vs k u):=by
 unfold putK stored;rw[r.any k];by_cases e:(vs.any fun kv=>decide (kv.1=k))=true
 ·rw[aK e,aK e];exact r.repl k ry
 ·rw[aG e,aG e];exact Paired.snoc r ⟨rfl,ry⟩
theorem KV.length{kvs:List (κ×V)}{vs:List (κ×Value)}(r:KV kvs vs):kvs.length=vs.length:=Paired.length r
end
theorem Ru{P:Program}{w:World}{k:Key}{u:Value}(r:RelV (kV k) u):(fV P w).is k u=true:=by
 cases k with
 |inl i=>obtain⟨t,e⟩:=(show ∃ t,u=Value.int i t from r);subst e;exact GQ P w i t
 |inr x=>obtain⟨t,e⟩:=(show ∃ t,u=Value.str x t from r);subst e;exact GR P w x t
theorem BZ{P:Program}{w:World}:∀ {ks:List Key} {us:List Value},Vals (ks.map kV) us->ItemsAre (fV P w) ks us
 |[],_,r=>by rw[Fx] at r;cases r;exact .nil
 |k::ks,_,r=>by
  rw[cZ] at r
  cases r with
  |cons h t=>exact .cons (Ru h) (BZ t)
abbrev KT(H:Hp):List (List Key×V)->List (List Key×Addr×Value)->Prop:=Paired fun p q=>p.1=q.1/\H q.2.1=some (.tup (p.1.map kV))/\RelV p.2 q.2.2
theorem KT.val{H:Hp}{kvs:List (List Key×V)}{xs:List (List Key×Addr×Value)}(r:KT H kvs xs)(k:List Key):yq (ux kvs k) ((atKey xs k).map (·.2)):=by
 induction r with
 |nil=>exact True.intro
 |@cons p q ps qs h t ih=>
  obtain⟨h1,_,h2⟩:=h;by_cases e:p.1=k
  ·have e':q.1=k:=h1.symm.trans e;have b:atKey (q::qs) k=some q.2:=by simp[atKey,wz,e']
   rw[uD e,b];exact h2
  ·have e':¬q.1=k:=fun z=>e (h1.trans z)
   have b:atKey (q::qs) k=atKey qs k:=by simp[atKey,wz,e']
   rw[uz e,b];exact ih
theorem KT.repl{H:Hp}{kvs:List (List Key×V)}{xs:List (List Key×Addr×Value)}(r:KT H kvs xs)(k:List Key){y:V}{u:Value}(ry:RelV y u) :
  KT H (kvs.map fun kv=>if kv.1=k then(kv.1,y) else kv) (xs.map (putAt k u)):=by
 induction r with
 |nil=>exact .nil
 |@cons p q ps qs h t ih=>
  rw[cZ,cZ];refine .cons ?_ ih;obtain⟨h1,h2,h3⟩:=h;unfold putAt;by_cases e:p.1=k
  ·rw[aK e,aK (h1.symm.trans e)];exact⟨h1,h2,ry⟩
  ·rw[aG e,aG (fun z=>e (h1.trans z))];exact⟨h1,h2,h3⟩
theorem KT.put{H:Hp}{kvs:List (List Key×V)}{xs:List (List Key×Addr×Value)}(r:KT H kvs xs)(k:List Key){b:Addr}{y:V}{u:Value}(hb:H b=some (.tup (k.map kV)))(ry:RelV y u) :
  KT H (putK kvs k y) (storedH xs k b u):=by
 have e:(kvs.any fun kv=>decide (kv.1=k))=(atKey xs k).isSome:=by
  rw[uy,(r.val k).vo,Option.isSome_map]
 unfold putK storedH;rw[e];by_cases q:(atKey xs k).isSome=true
 ·rw[aK q,aK q];exact r.repl k ry
 ·rw[aG q,aG q];exact Paired.snoc r ⟨rfl,hb,ry⟩
theorem KT.keeps{H H':Hp}{kvs:List (List Key×V)}{xs:List (List Key×Addr×Value)}(r:KT H kvs xs)(ht:∀ b ys,H b=some (.tup ys)->H' b=some (.tup ys)):KT H' kvs xs:=
 Paired.Zr r fun _ _ z=>⟨z.1,ht _ _ z.2.1,z.2.2⟩
section
variable{P:Program}{w:World}{H:Hp}{h:Heap}{a:Addr}
theorem Yj{u:HO}(ok:HOk P w H h)(e:Rd H a u):gq P w H h a u:=e.ok ok
theorem XS{kvs:List (Key×V)}(ok:HOk P w H h)(e:Rd H a (.dK kvs)):kvs.length<=sizeLine/\(a==sysModules)=false/\∃ vs,KV kvs vs/\h.DictOf (fV P w) a vs:=
 show gq P w H h a (.dK kvs) from Yj ok e
theorem a1c{kvs:List (Key×V)}(ok:HOk P w H h)(e:H a=some (.dK kvs)):kvs.length<=sizeLine/\(a==sysModules)=false/\∃ vs,KV kvs vs/\h.DictOf (fV P w) a vs:=XS ok (.inl e)
theorem DN{ks:List Key}(ok:HOk P w H h)(e:H a=some (.tup (ks.map kV))):(tupleKind (fV P w)).is h ks a:=by
 obtain⟨_,its,r,o,h1,h2,n,h3⟩:=(show gq P w H h a (.tup (ks.map kV)) from ok a _ e)
 exact⟨o,its.toArray,n,h1,h2,h3,by simpa using BZ r⟩
theorem Y4{kvs:List (List Key×V)}(ok:HOk P w H h)(e:Rd H a (.dT kvs)):kvs.length<=sizeLine/\(a==sysModules)=false /\
  ∃ xs,KT H kvs xs/\h.DictOfH (tupleKind (fV P w)) a xs:=by
 obtain⟨z,y,xs,r,o,es,ep,h1,h2,h3,h4,h5⟩:=(show gq P w H h a (.dT kvs) from Yj ok e)
 refine⟨z,y,xs,r,o,es,ep,h1,h2,h3,h4,fun x hx=>?_,h5⟩;have all:∀ {l:List (List Key×V)} {m:List (List Key×Addr×Value)},KT H l m->∀ x∈m,(tupleKind (fV P w)).is h x.1 x.2.1:=by
  intro l m q
  induction q with
  |nil=>intro x hx;exact nomatch hx
  |@cons p q ps qs hq t ih=>
   intro x hx;rcases cL.mp hx with e|hx
   ·subst e;exact DN ok (by rw[<- hq.1];exact hq.2.1)
   ·exact ih x hx
 exact all r x hx
theorem Ra{kvs:List (List Key×V)}(ok:HOk P w H h)(e:H a=some (.dT kvs)):kvs.length<=sizeLine/\(a==sysModules)=false /\
  ∃ xs,KT H kvs xs/\h.DictOfH (tupleKind (fV P w)) a xs:=Y4 ok (.inl e)
end
def NQ(H:Hp)(a:Addr)(y:V)(r:Option V):Prop:=
 (∃ kvs k,Rd H a (.dK kvs)/\y=kV k/\r=ux kvs k)\/∃ kvs k b,Rd H a (.dT kvs)/\y=.ref b/\H b=some (.tup (k.map kV))/\r=ux kvs k
def NT(H:Hp)(a:Addr)(y v:V)(H':Hp):Prop:=
 (∃ kvs k,H a=some (.dK kvs)/\y=kV k/\kvs.length<sizeLine/\H'=upd H a (.dK (putK kvs k v))) \/
 ∃ kvs k b,H a=some (.dT kvs)/\y=.ref b/\H b=some (.tup (k.map kV))/\kvs.length<sizeLine/\H'=upd H a (.dT (putK kvs k v))
theorem NQ.t{H:Hp}{a b:Addr}{kvs:List (List Key×V)}{k:List Key}(e:H a=some (.dT kvs))(eb:H b=some (.tup (k.map kV))):NQ H a (.ref b) (ux kvs k):=.inr ⟨kvs,k,b,.inl e,rfl,eb,rfl⟩
theorem NT.t{H:Hp}{a b:Addr}{kvs:List (List Key×V)}{k:List Key}{v:V}(e:H a=some (.dT kvs))(eb:H b=some (.tup (k.map kV)))(hl:kvs.length<sizeLine) :
  NT H a (.ref b) v (upd H a (.dT (putK kvs k v))):=.inr ⟨kvs,k,b,e,rfl,eb,hl,rfl⟩
section
variable{X:Cx}{pins:List (Addr×Obj)}{zzs:St}{H:Hp}{s:Shared}{a:Addr}{y v:V}{u r:Value}{o:Option V}{A:Around}{E:Value->Shared->Prop}
theorem Inv.big(I:Inv X pins zzs H s):sysModules<s.heap.objs.size:=by
 have h:mainGlobals<s.heap.objs.size:=(I.mod.glob.keeps I.bk).lt;exact Nat.lt_trans (by decide) h
theorem VP{Q:Value->Shared->Prop}(hu:A.units+1<cLine)(I:Inv X pins zzs H s)(g:NQ H a y o)(ry:RelV y u)(h:∀ s',Inv X pins zzs H s'->Q (.bool (!o.isSome)) s') :
  wpAny (model X.prog X.w) A (compareOp .NotIn u (.ref a)) Q E s:=by
 rcases g with⟨kvs,k,e,ey,l⟩|⟨kvs,k,b,e,ey,eb,l⟩
 ·subst ey;obtain⟨z,hd,vs,rel,dd⟩:=XS I.hok e;refine wpAny_notIn_of (Ru ry) hd dd.mapOf ?_;rw[<- (rel.val k).vo,<- l];exact h _ (I.tok _)
 ·subst ey
  cases (show u=Value.ref b from ry)
  obtain⟨z,hd,xs,rel,dd⟩:=Y4 I.hok e;refine wpAny_notIn_heap (tupleKind_room_in1 hu) (DN I.hok eb) hd dd ?_;have q:=(rel.val k).vo;rw[Option.isSome_map] at q;rw[<- q,<- l];exact h _ (I.tok _)
theorem Di{h':Heap}{t':Nat}{ob:HO}(I:Inv X pins zzs H s)(mu:Mut (H a))(hs:Heap.SameBut a s.heap h')(he:∃ q,h'.get? a=some q)(new:gq X.prog X.w (upd H a ob) h' a ob) :
  Inv X pins zzs (upd H a ob) { s with heap:=h',toks:=t' }:=
 I.write (x:=a) (e:=a) mu (.inl rfl) (fun b q hb z=>(hs.2 b hb).trans z) he new
theorem Z2{P:Program}{w:World}{H':Hp}{h':Heap}{kvs:List (Key×V)}{vs:List (Key×Value)}(z:kvs.length<=sizeLine)(hd:(a==sysModules)=false)(rel:KV kvs vs)(dd:h'.DictOf (fV P w) a vs) :
  gq P w H' h' a (.dK kvs):=⟨z,hd,vs,rel,dd⟩
theorem Oi{H':Hp}{Q:Unit->Shared->Prop}(hu:A.units+1<cLine)(I:Inv X pins zzs H s)(g:NT H a y v H')(ry:RelV y u)(rv:RelV v r)(h:∀ s',Inv X pins zzs H' s'->Q () s') :
  wpAny (model X.prog X.w) A (setItem (.ref a) u r) Q E s:=by
 rcases g with⟨kvs,k,e,ey,l,eH⟩|⟨kvs,k,b,e,ey,eb,l,eH⟩
 ·subst ey eH;obtain⟨z,hd,vs,rel,dd⟩:=a1c I.hok e;have hz:vs.length<=sizeLine:=by rw[<- rel.length];exact z
  have hl:(putK kvs k v).length<=sizeLine:=by have:=wM kvs k v;lia
  refine wpAny_setItem_pairs (hsz:=hz) (Ru ry) dd fun h' dd' hs=>h _ ?_
  have he:∃ q,h'.get? a=some q:=let ⟨q,_,_,hq,_⟩:=dd';⟨q,hq⟩;exact Di I (by rw[e];exact True.intro) hs he (Z2 hl hd (rel.put k rv) dd')
 ·subst ey eH
  cases (show u=Value.ref b from ry)
  obtain⟨z,hd,xs,rel,dd⟩:=Ra I.hok e;have hz:xs.length<=sizeLine:=by rw[<- Paired.length rel];exact z
  have hl:(putK kvs k v).length<=sizeLine:=by have:=wM kvs k v;lia
  refine wpAny_setItem_heap (hsz:=hz) (tupleKind_room_in1 hu) (DN I.hok eb) dd fun h' dd' hs=>h _ ?_
  obtain⟨q,es,ep,hq,h2,h3,h4,_,h5⟩:=dd';refine Di I (by rw[e];exact True.intro) hs ⟨q,hq⟩ ⟨hl,hd,_,(rel.put k eb rv).keeps fun c ys ec=>?_,q,es,ep,hq,h2,h3,h4,h5⟩;rw[bA (pK ec e (fun z=>nomatch z))];exact ec
end
theorem Gv{P:Program}{w:World}{H:Hp}(h:Heap)(hb:sysModules<h.objs.size):gq P w H (h.push { cls:=.type "dict",data:=.dict #[] }) h.objs.size (.dT []):=
 ⟨lF _,oN.mpr (jy (fQ hb)),[],.nil,_,#[],0,jc _ rfl,⟨rfl,rfl,rfl⟩,rfl,rfl,Fq⟩
def Uj:TE:=fun _ H Q=>∀ p,H p=none->Q (.ref p) (upd H p (.dT []))
section
variable{X:Cx}{pos:Pos}
theorem SM:PE X (.Dict [] [] pos) Uj:=fun pins s zzs H Q I h=>
 wpAny_Dict_empty ⟨.ref s.heap.objs.size,_,I.laid (a:=s.heap.objs.size) (o:=.dT []) (t':=s.toks) (fun _ _ q=>dG _ q) (bR _) (Gv s.heap I.big),rfl,h _ (I.hok.fresh (bR _))⟩
end
def Um:List (TE×TE)->St->Hp->(List (V×V)->Hp->Prop)->Prop
 |[],_,H,Q=>Q [] H
 |(tk,tv)::r,zzs,H,Q=>tk zzs H fun x H1=>tv zzs H1 fun y H2=>Um r zzs H2 fun ps H3=>Q ((x,y)::ps) H3
abbrev VV:List (V×V)->List (Value×Value)->Prop:=Paired fun p q=>RelV p.1 q.1/\RelV p.2 q.2
def PPs(X:Cx)(pos:Pos)(keys:List (Option Expr))(values:List Expr)(trs:List (TE×TE)):Prop:=
 ∀(pins:List (Addr×Obj))(s:Shared)(zzs:St)(H:Hp)(Q:List (V×V)->Hp->Prop),Inv X pins zzs H s->Um trs zzs H Q ->
  wpAny (model X.prog X.w) X.A (evalPairs (pairTrees keys values X.env pos)) (fun vs s'=>∃ ps H',Inv X pins zzs H' s'/\VV ps vs/\Q ps H') X.xe s
theorem X5{X:Cx}{pos:Pos}:PPs X pos [] [] []:=fun pins s zzs H Q I h=>pairTrees_nil_walk ⟨[],H,I,.nil,h⟩
theorem T3{X:Cx}{pos:Pos}{k v:Expr}{ks:List (Option Expr)}{vs:List Expr}{tk tv:TE}{trs:List (TE×TE)}(hk:PE X k tk)(hv:PE X v tv)(hr:PPs X pos ks vs trs) :
  PPs X pos (some k::ks) (v::vs) ((tk,tv)::trs):=fun pins s zzs H Q I h=>
 pairTrees_cons_walk (thn (hk pins s zzs H _ I h) fun u s1 ⟨x,H1,I1,rx,q1⟩=>thn (hv pins s1 zzs H1 _ I1 q1) fun w2 s2 ⟨y,H2,I2,ry,q2⟩=>
  thn (hr pins s2 zzs H2 _ I2 q2) fun ws s3 ⟨ps,H3,I3,rel,q3⟩=>⟨(x,y)::ps,H3,I3,.cons ⟨rx,ry⟩ rel,q3⟩)
end L2
namespace L2
open PySem PySem.Spec PyProof.Rows
section
variable{X:Cx}
def Xg(neg:Bool):R2:=fun y x H Q=>∃ a o,x=.ref a/\NQ H a y o/\Q (.bl (if neg then !o.isSome else o.isSome)) H
theorem u9(hu:X.A.units+60<cLine):OpR X (compareOp .NotIn) (Xg true):=by
 intro pins s zzs H y x u v Q I ry rx h;obtain⟨a,o,rfl,g,q⟩:=h
 cases rx
 exact VP (by lia) I g ry fun s3 I3=>⟨.bl (!o.isSome),H,I3,rfl,q⟩
def a1J:V->V->V->Hp->(Hp->Prop)->Prop:=fun o i v H Q=>∃ a H',o=.ref a/\NT H a i v H'/\Q H'
theorem set_dict(hu:X.A.units+60<cLine):Qx X a1J:=by
 intro pins s zzs H o i v ov iv u Q I ro ri rv h;obtain⟨a,H',rfl,g,q⟩:=h
 cases ro
 exact Oi (by lia) I g ri rv fun s4 I4=>⟨H',I4,q⟩
end
end L2
namespace L2
open PySem PySem.Spec PyProof.Rows
section
variable{X:Cx}{pos:Pos}{k v:Expr}{tk tv:TE}
def Uk(tk tv:TE):TE:=fun zzs H Q=>∀ p,H p=none->tk zzs (upd H p (.dT [])) fun x H1=>tv zzs H1 fun y H2=>∃ ks b,H2 p=some (.dT [])/\x=.ref b/\H2 b=some (.tup (ks.map kV))/\Q (.ref p) (upd H2 p (.dT [(ks,y)]))
theorem SJ(hu:X.A.units+60<cLine)(hk:PE X k tk)(hv:PE X v tv):PE X (.Dict [some k] [v] pos) (Uk tk tv):=by
 intro pins s zzs H Q I q;have hn:=I.hok.fresh (bR s.heap.objs.size);have I1:=I.laid (a:=s.heap.objs.size) (o:=.dT []) (h':=s.heap.push { cls:=.type "dict",data:=.dict #[] }) (t':=s.toks) (fun _ _ z=>dG _ z) (bR _) (Gv s.heap I.big);refine wpAny_Dict_any rfl rfl (by intro z;cases z) (by show 1<=15;decide) ?_;have pp:PPs X pos [some k] [v] [(tk,tv)]:=T3 hk hv X5;refine thn (pp pins _ zzs _ (fun ps H2=>match ps with
  |[(x,y)]=>∃ ks b,H2 s.heap.objs.size=some (.dT [])/\x=.ref b/\H2 b=some (.tup (ks.map kV))/\Q (.ref s.heap.objs.size) (upd H2 s.heap.objs.size (.dT [(ks,y)]))
  |_=>False) I1 (q _ hn)) fun ws s2 h=>?_
 obtain⟨ps,H2,I2,rel,h⟩:=h
 cases rel with
 |nil=>exact h.elim
 |@cons p1 w1 ps' ws' r1 a2I=>
  cases a2I with
  |cons _ _=>exact h.elim
  |nil=>
   obtain⟨x,y⟩:=p1;obtain⟨u,r⟩:=w1;obtain⟨ks,b,e,ex,eb,q2⟩:=h;subst ex;obtain⟨ru,ry⟩:=r1
   cases (show u=Value.ref b from ru)
   obtain⟨z,hd,xs,rel,dd⟩:=Ra I2.hok e
   cases rel
   show wpAny (model X.prog X.w) X.A (storeAll s.heap.objs.size [(.ref b,r)]) _ _ s2;unfold storeAll;rw[List.forIn_cons];refine bO (bO (wpAny_dictSet_heap (knd:=tupleKind (fV X.prog X.w)) (show X.A.units<cLine by lia) (DN I2.hok eb) dd fun h' dd' hs=>cV ?_));dsimp only;rw[List.forIn_nil];refine cV ?_;obtain⟨o,es,ep,ho,h2,h3,h4,_,h5⟩:=dd';refine⟨.ref s.heap.objs.size,_,Di (ob:=.dT [(ks,y)]) I2 (by rw[e];exact True.intro) hs ⟨o,ho⟩ ⟨by show 1<=sizeLine;rw[mD];decide,hd,_,(KT.put (kvs:=[]) (xs:=[]) .nil ks eb ry).keeps fun c ys ec=>?_,o,es,ep,ho,h2,h3,h4,h5⟩,rfl,q2⟩;rw[bA (pK ec e (fun z=>nomatch z))];exact ec
theorem Xi(hu:X.A.units+60<cLine)(hk:RE X k tk)(hv:RE X v tv):RE X (.Dict [some k] [v] pos) (Uk tk tv):=⟨SJ hu hk.ok hv.ok⟩
theorem Xj:RE X (.Dict [] [] pos) Uj:=⟨SM⟩
end
end L2
namespace L2
open PySem PySem.Spec PyProof.Rows PySem.SeqAt PySem.MeetsSeq PySem.MeetsSeq2 PySem.MeetsSeq3
open PySem.AutoSeq1 (wpAny_loadPart')
theorem RV(I d:Addr)(i n ep:Nat)(es:Array DictEntry)(dd d1:Option Addr)(z1 z2:Array (Option Value))(c:Value)(hi:i<es.size)(hn:n=es.size):Meets (Builtin.«dict_keyiterator.__next__» ⟨[.ref I],[]⟩)
  (fun _ R s=>s.heap.get? I=some { cls:=.type "dict_keyiterator",dict:=dd,data:=.fields #[.ref d,.int i 0,.int n 0,.int ep 0],slots:=z1 }/\s.heap.get? d=some { cls:=.type "dict",dict:=none,data:=.dict es ep,slots:=#[] } /\
   ∀ h' tk',h'.get? I=some { cls:=.type "dict_keyiterator",dict:=dd,data:=.fields #[.ref d,.int ((i+1:Nat):Int) 0,.int n 0,.int ep 0],slots:=z1 }->(∀ b o,b≠I->s.heap.get? b=some o->h'.get? b=some o)->R (.ok (.ret es[i].key)) { s with heap:=h',toks:=tk' }):=
 .of_wp fun prog w A R s h=>by
  obtain⟨hp,g,dr,tk,os⟩:=s;obtain⟨e1,e2,h⟩:=h
  wp_walk using wpAny_loadPart' e1,wpAny_loadPart' e2
  have e:(if(i:Int)<0 then none else es[((i:Nat):Int).toNat]?)=some es[i]:=by
   rw[aG (by lia),je,j5 hi]
  rw[e];dsimp only
  wp_walk using wpAny_loadPart' e1,wpAny_loadPart' e2
  refine⟨_,rfl,h _ tk ?_ fun b o hb eb=>?_⟩
  ·have:=Heap.get?_update_self (Obj.mapFields fun x=>x.setIfInBounds 1 (rawInt ((i:Int)+1))) e1 rfl;exact this
  ·rw[Ew _ _ _ _ hb];exact eb
end L2
namespace L2
open PySem PySem.Spec PyProof.Rows
def FZ(H H':Hp):Prop:=∀ b xs,H b=some (.tup xs)->H' b=some (.tup xs)
theorem FZ.put{H:Hp}{x:Addr}{o u:HO}(hx:H x=some o)(no:∀ xs,o≠.tup xs):FZ H (upd H x u):=fun b xs e=>by
 rw[bA (fun z=>by rw[z,hx] at e;exact no xs (gO e))];exact e
section
variable{K:ao}{H H':Hp}
theorem FZ.cell{v:V}{x:Cell}(s:FZ H H')(h:Den K H v (aA x)):Den K H' v (aA x):=by
 obtain⟨a,rfl,_,ht⟩:=fH h;exact .tup (s _ _ ht) (.cons (.int _) (.cons (.int _) .nil))
theorem FZ.cells(s:FZ H H'):∀ {vs:List V} {cs:List Cell},aN K H vs (cs.map aA)->aN K H' vs (cs.map aA)
 |[],[],_=>.nil
 |v::vs,c::cs,.cons h t=>.cons (s.cell h) (s.cells t)
end
def kE(c:Cell):List Key:=[.inl c.1,.inl c.2]
theorem Rx{a b:Cell}(e:kE a=kE b):a=b:=by
 unfold kE at e;injection e with e1 e2;injection e2 with e2 _;injection e1 with e1;injection e2 with e2;exact jN e1 e2
end L2
namespace L2
open PySem PySem.Spec PyProof.Rows
end L2
namespace L2
open PySem PySem.Spec PyProof.Rows PySem.SeqAt PySem.MeetsSeq PySem.MeetsSeq2 PySem.MeetsSeq3
open PySem.AutoSeq1 (wpAny_loadPart')
theorem W3(I d:Addr)(n ep:Nat)(es:Array DictEntry)(z1:Array (Option Value))(hn:n=es.size):Meets (Builtin.«dict_keyiterator.__next__» ⟨[.ref I],[]⟩)
  (fun A R s=>A.handled=none/\s.heap.get? I=some { cls:=.type "dict_keyiterator",dict:=none,data:=.fields #[.ref d,.int n 0,.int n 0,.int ep 0],slots:=z1 }/\s.heap.get? d=some { cls:=.type "dict",dict:=none,data:=.dict es ep,slots:=#[] } /\
   ∀(h':Heap)(e:Addr),(∃ o,h'.get? e=some o/\o.cls=.type "StopIteration")->(∀ b o,b≠I->s.heap.get? b=some o->h'.get? b=some o)->R (.error (.ref e)) { s with heap:=h' }):=
 .of_wp fun prog w A R s h=>by
  obtain⟨hp,g,dr,tk,os⟩:=s;obtain⟨hh,e1,e2,h⟩:=h
  wp_walk using wpAny_loadPart' e1,wpAny_loadPart' e2
  have e:(if(n:Int)<0 then none else es[((n:Nat):Int).toNat]?)=none:=by
   rw[aG (by lia),je];exact Vd (by lia)
  rw[e];dsimp only
  wp_walk using wpAny_loadPart' e1,wpAny_loadPart' e2
  unfold raiseNew;refine bO (wpAny_handled ?_);have hh':A.in1.handled=none:=hh;rw[hh'];refine bO (cV (wpAny_throw (h _ _ ⟨_,jc _ rfl,rfl⟩ fun b o hb eb=>dG _ (dG _ ?_))));rw[Ew _ _ _ _ hb];exact eb
section
variable{P:Program}{w:World}{A:Around}{E:Value->Shared->Prop}{s:Shared}
def KIt(I d:Addr)(es:Array DictEntry)(ep i:Nat)(h:Heap):Prop:=
 (∃ z1,h.get? I=some { cls:=.type "dict_keyiterator",dict:=none,data:=.fields #[.ref d,.int i 0,.int es.size 0,.int ep 0],slots:=z1 })/\h.get? d=some { cls:=.type "dict",dict:=none,data:=.dict es ep,slots:=#[] }
theorem KIt.ty{I d:Addr}{es:Array DictEntry}{ep i:Nat}(k:KIt I d es ep i s.heap):s.TypeIs (.ref I) "dict_keyiterator":=let ⟨_,e⟩:=k.1;⟨_,e,rfl⟩
theorem Rz{I d:Addr}{es:Array DictEntry}{ep i:Nat}{Q:Option Value->Shared->Prop}(k:KIt I d es ep i s.heap)(ne:d≠I)(hi:i<es.size)
  (hQ:∀ h' tk',KIt I d es ep (i+1) h'->(∀ b o,b≠I->s.heap.get? b=some o->h'.get? b=some o)->Q (some es[i].key) { s with heap:=h',toks:=tk' }):wpAny (model P w) A (pyNext (.ref I)) Q E s:=by
 obtain⟨⟨z1,e1⟩,e2⟩:=id k;unfold pyNext;refine bO (wpAny_attempt (wpAny_callSpecial?_slot (name:=Str.ofString "__next__") k.ty Ik
  (qg Ik k.ty Uz (Uy _) (RV I d i es.size ep es none none z1 #[] .none hi rfl) ⟨e1,e2,fun h' tk' g1 g2=>?_⟩)))
 exact cV (hQ h' tk' ⟨⟨z1,g1⟩,g2 d _ ne e2⟩ g2)
theorem Wd{I d:Addr}{es:Array DictEntry}{ep:Nat}{Q:Option Value->Shared->Prop}(hh:A.handled=none)(k:KIt I d es ep es.size s.heap)
  (hQ:∀ h',(∀ b o,b≠I->s.heap.get? b=some o->h'.get? b=some o)->Q none { s with heap:=h' }):wpAny (model P w) A (pyNext (.ref I)) Q E s:=by
 obtain⟨⟨z1,e1⟩,e2⟩:=id k;unfold pyNext;refine bO (wpAny_attempt (wpAny_callSpecial?_slot (name:=Str.ofString "__next__") k.ty Ik
  (qg Ik k.ty Uz (Uy _) (W3 I d es.size ep es z1 rfl) ⟨hh,e1,e2,fun h' e ho g2=>?_⟩)))
 obtain⟨o,h1,h2⟩:=ho;refine bO (wpAny_isInstance (T:="StopIteration") (b:=true) ⟨o,h1,h2⟩ isSubtype_stop ?_);exact cV (hQ h' g2)
theorem Ry{d:Addr}{es:Array DictEntry}{ep:Nat}{Q:Value->Shared->Prop}(lo:(d==sysModules)=false) (e:s.heap.get? d=some { cls:=.type "dict",dict:=none,data:=.dict es ep,slots:=#[] })
  (hQ:Q (.ref s.heap.objs.size) { s with heap:=s.heap.push { cls:=.type "dict_keyiterator",dict:=none,data:=.fields #[.ref d,.int 0 0,.int es.size 0,.int ep 0],slots:=#[] } }):wpAny (model P w) A (pyIter (.ref d)) Q E s:=by
 have ty:s.TypeIs (.ref d) "dict":=⟨_,e,rfl⟩
 refine wpAny_pyIter_slot ty Ve (KY Ve ty PySem.F.entry_dict_iter ?_ (PySem.F.args_dict_iter_1 _));unfold Builtin.«dict.__iter__»;refine bO ?_;unfold Builtin.Dict.dictSlotNone;refine bO (wpAny_notOrdered_dict ty ?_);refine cV ?_;show wpAny _ _ (Builtin.Dict.showsAll d >>= _) _ _ s;unfold Builtin.Dict.showsAll;rw[lo,aG (by decide)];refine bO (cV (bO (wpAny_dictEntries e rfl (bO (wpAny_dictEpoch e rfl ?_)))));exact bO (Fb (cV ⟨_,rfl,"dict_keyiterator",_,⟨_,jc _ rfl,rfl⟩,Ik.lookup,hQ⟩))
theorem OJ(hh:A.handled=none)(I d:Addr)(ne:d≠I)(es:Array DictEntry)(ep:Nat):Walks P w A I [I,d] [I] es.size (fun i v=>∃ h:i<es.size,v=es[i].key) (KIt I d es ep) where
 sub:=fun b hb=>by rw[dD.mp hb];exact cG
 frame:=fun i h h' st hk=>⟨let ⟨z,e⟩:=st.1;⟨z,hk I cG _ e⟩,hk d (dw _ cG) _ st.2⟩
 item:=fun i s Q E hi st hQ=>Rz st ne hi fun h' tk' k' keep=>hQ _ h' tk' ⟨hi,rfl⟩ k' fun b o hb eb=>keep b o (fun z=>hb (by rw[z];exact dD.mpr rfl)) eb
 done:=fun s Q E st hQ=>Wd hh st fun h' keep=>hQ h' s.toks fun b o hb eb=>keep b o (fun z=>hb (by rw[z];exact dD.mpr rfl)) eb
 self:=fun i s Q E st hQ=>let ⟨_,e⟩:=st.1;wpAny_pyIter_keyiter ⟨_,e,rfl,rfl⟩ hQ
theorem Wf(d:Addr)(lo:(d==sysModules)=false)(es:Array DictEntry)(ep:Nat):PySem.W.KdlSrc P w "dict" d d es.size (fun i v=>∃ h:i<es.size,v=es[i].key) (fun h=>h.get? d=some { cls:=.type "dict",dict:=none,data:=.dict es ep,slots:=#[] }) where
 type:=fun s e=>⟨_,e,rfl⟩
 there:=fun h e=>⟨bL e,bL e⟩
 keep:=fun h h' e hk=>hk d (.inl rfl) _ e
 notList:=by decide
 notTuple:=by decide
 hint:=fun A E s Q e hq=>PySem.W.kdl_hint_dict ⟨_,e,rfl⟩ hq
 iter:=fun A s hh e=>⟨_,_,fun E Q hq=>Ry lo e hq,OJ hh _ d (fQ (bL e)) es ep,⟨⟨_,jc _ rfl⟩,dG _ e⟩⟩
theorem GF{T:String}{r d:Addr}{n:Nat}{G:Nat->Value->Prop}{OK:Heap->Prop}{C:List Value->Shared->Prop}(S:PySem.W.KdlSrc P w T r d n G OK)(hh:A.handled=none)(ok:OK s.heap)(hz:n<=sizeLine)
  (fin:∀(hp:Heap)(tk:Nat)(got:Array Value),(∀ b o,s.heap.get? b=some o->hp.get? b=some o)->s.heap.objs.size<=hp.objs.size->ItemsOf G got n->C got.toList { s with heap:=hp,toks:=tk }):wpAny (model P w) A (collect (.ref r)) C E s:=by
 obtain⟨lr,ld⟩:=S.there _ ok;unfold collect;refine bO (wpAny_runValue (Fo PySem.F.entry_proto_collect ?_));rw[Et PySem.F.plain_proto_collect _];show wpAny _ A.in1 (newList [] >>= fun q=>again (.builtin "list.__iadd__" ⟨[q,.ref r],[]⟩)) _ _ s;refine bO (Fb (cV ⟨plainId_quiet V9 _,Fo PySem.F.entry_list_iadd ?_⟩));rw[Et V9 _];have new:(s.heap.push { cls:=.type "list",data:=.seq ([]:List Value).toArray }).get? s.heap.objs.size=some { cls:=.type "list",data:=.seq #[] }:=jc _ rfl;have done:∀(hp:Heap)(tk:Nat)(got:Array Value)(c:Nat),(∀ b o,b≠s.heap.objs.size->(s.heap.push { cls:=.type "list",data:=.seq ([]:List Value).toArray }).get? b=some o->hp.get? b=some o)->hp.get? s.heap.objs.size=some { cls:=.type "list",dict:=none,data:=.seq got c,slots:=#[] }->ItemsOf G got n ->
   wpAny (model P w) A (load s.heap.objs.size >>= fun o=>match o.data with|.seq xs _=>pure xs.toList|_=>unsupported "internal:collect") C E { s with heap:=hp,toks:=tk }:=fun hp tk got c k1 k2 k3=>by
  refine bO (wpAny_load k2 (cV (fin hp tk got (fun b o e=>k1 b o (fQ (bL e)) (dG _ e)) (Fv (bL k2)) k3)))
 have go:=PySem.W.kdl_extend (A:=A) (s:={ s with heap:=s.heap.push { cls:=.type "list",data:=.seq ([]:List Value).toArray } })
  (R:=fun(x:Result)(s2:Shared)=>x=.ok (.ret (.ref s.heap.objs.size))/\wpAny (model P w) A (load s.heap.objs.size >>= fun o=>match o.data with|.seq xs _=>pure xs.toList|_=>unsupported "internal:collect") C E s2)
  S hh (S.keep _ _ ok fun b _ o e=>dG _ e) s.heap.objs.size (Fw lr) (Fw ld) (.ref s.heap.objs.size) 0 new (fun hp tk got c k1 k2 k3=>⟨rfl,done hp tk got c k1 k2 k3⟩) hz
 refine iM go (fun x s2 y=>?_) fun e s2 y=>?_
 ·cases x with
  |done f=>
   obtain⟨e,y⟩:=y
   cases e
   exact y
  |again c=>
   refine⟨y.1,wD y.2 fun q s3 z=>?_⟩;obtain⟨e,z⟩:=z;subst e;exact z
 ·exact absurd y.1 (by intro z;cases z)
end
open PySem.W
section
variable{X:Cx}
theorem YC{cs:List Cell}{n:Nat}{o:Array Nat}(hn:n=cs.length)(g:Good n o)(up:G9 gV (fun i=>cs.getD i (0,0)) o n):Asc (o.toList.map fun i=>cs.getD i (0,0)):=by
 unfold Asc;rw[Cv];intro i j hi hj hij;rw[aU,lD,g.size] at hi hj;have hle:=up.le lK (j-i) i (by lia);have e1:i+(j-i)=j:=by lia
 rw[e1] at hle;have hno:=jD hle;have sz:=g.size;have key:∀ k,(hk:k<n)->Ky (fun i=>cs.getD i (0,0)) o k=(o.toList.map fun i=>cs.getD i (0,0))[k]'(by rw[aU,lD,sz];exact hk):=fun k hk=>by
  unfold Ky;rw[Ab,lV,j5 (by lia)]
  rfl
 rw[<- key i hi,<- key j hj];exact hno
theorem GD{K:ao}{H:Hp}{f:Cell->V}:∀ {cs:List Cell} {ws:List (List Key×Addr×Value)},KT H (cs.map fun c=>(kE c,f c)) ws->aN K H (ws.map fun x=>V.ref x.2.1) (cs.map aA)
 |[],ws,h=>by cases h;exact .nil
 |c::cs,ws,h=>by
  cases h with
  |@cons p q ps qs hq t=>exact .cons (.tup (show H q.2.1=some (.tup [.int c.1,.int c.2]) from hq.2.1) (.cons (.int _) (.cons (.int _) .nil))) (GD t)
theorem Ce:∀(ws:List (List Key×Addr×Value)),Vals (ws.map fun x=>V.ref x.2.1) (ws.map fun x=>Value.ref x.2.1)
 |[]=>.nil
 |x::ws=>.cons rfl (Ce ws)
def Tg(K:ao):List V->Hp->VK->Prop:=fun xs H Q=>∃(d:Addr)(cs:List Cell)(f:Cell->V),xs=[.ref d]/\H d=some (.dT (cs.map fun c=>(kE c,f c)))/\cs.length<64/\∀ l ws ds,H l=none->aN K H ws (ds.map aA)->ds.Perm cs->Asc ds->Q (.ref l) (upd H l (.lst ws))
theorem IV(hc:X.calm=true)(hu:X.A.units+60<cLine):fj X (.builtin "sorted") (Tg X.K):=by
 intro pins s zzs H xs us Q I r h;obtain⟨d,cs,f,rfl,e,h64,q⟩:=h;obtain⟨u,rfl,ru⟩:=vals1 r
 cases ru
 obtain⟨z,lo,ws,rel,ob,es,ep,g1,g2,g3,g4,g5⟩:=Ra I.hok e;have g1':s.heap.get? d=some { cls:=.type "dict",dict:=none,data:=.dict es ep,slots:=#[] }:=by
  obtain⟨c1,c2,c3,c4⟩:=ob;obtain⟨a1,a2,a3⟩:=g2;dsimp only at a1 a2 a3 g3;subst a1 a2 a3 g3;exact g1
 have D:=GD (K:=X.K) rel;have rv:=Ce ws;have nw:es.size=ws.length:=size_of_entries g4;have hl:ws.length=cs.length:=by have:=D.length;rwa[aU,aU] at this
 have hz:es.size<=sizeLine:=by rw[mD];lia
 refine UW kind_sorted plain_sorted entry_sorted (args_sorted1 _) ?_;unfold Builtin.«sorted»;refine bO (m:=checkCount "sorted" 1 1 _) (cV (bO (GF (Wf d lo es ep) (I.ok.hd hc) g1' hz fun hp tk got keep a1S items=>?_)));have eg:got.toList=ws.map fun x=>Value.ref x.2.1:=by
  refine Aa fun j=>?_
  rw[Cw,cU];by_cases hj:j<es.size
  ·have hg:j<got.size:=by rw[items.1];exact hj
   obtain⟨_,ev⟩:=items.2 j got[j] (j5 hg);rw[j5 hg,ev];have hw:j<ws.length:=by lia
   have:es.toList[j]?=(ws.map (entryOfKey (tupleKind (fV X.prog X.w))))[j]? :=by rw[g4]
   rw[Cw,j5 hj,cU,ig hw] at this;rw[ig hw];have e2:=gO this;rw[e2];rfl
  ·rw[Vd (by rw[items.1];lia),zR (by lia)];rfl
 rw[eg];have lus:(ws.map fun x=>Value.ref x.2.1).length=cs.length:=by rw[aU,hl]
 have lvs:(ws.map fun x=>V.ref x.2.1).length=cs.length:=by rw[aU,hl]
 generalize hvs:(ws.map fun x=>V.ref x.2.1)=vs at D rv lvs;generalize hus:(ws.map fun x=>Value.ref x.2.1)=its at rv lus;have hz2:its.length<=sizeLine:=by rw[mD];lia
 refine bO (wpAny_newList ?_ (by simpa using hz2));have at0:(hp.push (seqObj "list" its.toArray 0)).get? hp.objs.size=some (seqObj "list" its.toArray 0):=jc _ rfl;show wpAny _ _ _ _ _ { s with heap:=hp.push (seqObj "list" its.toArray 0),toks:=tk };refine bO (wB (KY slot_list_sort ⟨_,at0,rfl⟩ entry_list_sort (Gb (h0:=s.heap) lK (Bt I D rv) (by show X.A.units+1+1+2<cLine;lia) (wH I D rv) hz2 at0 (fun b o eb=>⟨dG _ (keep b o eb),fQ (bL (keep b o eb))⟩) fun o g up=>⟨_,rfl,cV ⟨_,rfl,?_⟩⟩) (args_list_sort _)));obtain⟨en,he⟩:=sortedHeap_at (vs:=its) (out:=(byP its o).toArray) at0;have hn:H hp.objs.size=none:=I.hok.fresh a1S;have bd:∀ i∈o.toList,i<vs.length:=fun i hi=>by rw[lvs,<- lus];exact dH.mp (g.perm.mem_iff.mp hi)
 have rv':Vals (o.toList.map fun i=>vs.getD i .non) (byP its o):=yg rv o.toList bd;have dv:aN X.K H (o.toList.map fun i=>vs.getD i .non) ((o.toList.map fun i=>cs.getD i (0,0)).map aA):=by
  have:=Dj (d0:=aA (0,0)) D o.toList bd;have e1:(o.toList.map fun i=>(cs.map aA).getD i (aA (0,0)))=((o.toList.map fun i=>cs.getD i (0,0)).map aA):=by
   rw[qx];refine Am fun i hi=>?_
   simp only[dX,cU,Function.comp]
   cases cs[i]?<;>rfl
  rw[<- e1];exact this
 have pc:(o.toList.map fun i=>cs.getD i (0,0)).Perm cs:=uf (by rw[<- lus];exact g.perm);have as:Asc (o.toList.map fun i=>cs.getD i (0,0)):=YC (by omega) g up;have lo':(o.toList.map fun i=>vs.getD i .non).length<=sizeLine:=by
  rw[aU,lD,g.size];exact hz2
 refine⟨.ref hp.objs.size,upd H hp.objs.size (.lst (o.toList.map fun i=>vs.getD i .non)),I.laid (a:=hp.objs.size) (o:=.lst (o.toList.map fun i=>vs.getD i .non)) (t':=tk) (fun b o eb=>?_) a1S ⟨lo',byP its o,en,rv',he⟩,rfl,q _ _ _ hn dv pc as⟩;have eb':=keep b o eb;rw[sortedHeap_old (fQ (bL eb')) (by rw[size_push'];exact rZ (bL eb'))];exact dG _ eb'
theorem Wa{K:ao}(hc:X.calm=true)(hu:X.A.units+60<cLine)(hK:X.K=K:=by rfl):fj X (.builtin "sorted") (Tg K):=by subst hK;exact IV hc hu
end
end L2
namespace L2
open PySem PySem.Spec PyProof.Rows
end L2
namespace L2
open PySem
end L2
namespace L2
open PySem PySem.Spec PyProof.Rows
end L2
namespace L2
open PySem PySem.Spec PyProof.Rows
end L2
namespace L2
open PySem PySem.Spec PyProof.Rows PySem.SeqAt PySem.MeetsSeq PySem.MeetsSeq2 PySem.MeetsSeq3
open PySem.AutoSeq1 (wpAny_loadPart')
namespace SF
end SF
end L2
namespace L2
open PySem PySem.Spec PyProof.Rows PySem.SeqAt PySem.MeetsSeq PySem.MeetsSeq2 PySem.MeetsSeq3
open PySem.AutoSeq1 (wpAny_loadPart')
end L2
namespace L2
open PySem PySem.Spec PyProof.Rows PySem.W
end L2
namespace L2
open PySem PySem.Spec PyProof.Rows PySem.W
end L2
namespace L2
open PySem PySem.Spec PyProof.Rows PySem.SeqAt PySem.MeetsSeq PySem.MeetsSeq2 PySem.MeetsSeq3
open PySem.AutoSeq1 (wpAny_loadPart')
theorem HF(A:Around)(s:Shared)(a:Int)(t:Tok)(c:Int)(u:Tok)(prog:Program)(w:World)(E:Value->Shared->Prop)(Q:Value->Shared->Prop)(h:Q (.bool (decide (a<c))) s):wpAny (model prog w) A (richCompare .Lt (.int a t) (.int c u)) Q E s:=
 (lt_int h:wpAny (model prog w) A (compareOp .Lt (.int a t) (.int c u)) Q E s)
theorem HD(A:Around)(s:Shared)(a:Int)(t:Tok)(c:Int)(u:Tok)(prog:Program)(w:World)(E:Value->Shared->Prop)(Q:Value->Shared->Prop)(h:Q (.bool (decide (c<a))) s):wpAny (model prog w) A (richCompare .Gt (.int a t) (.int c u)) Q E s:=
 (gt_int h:wpAny (model prog w) A (compareOp .Gt (.int a t) (.int c u)) Q E s)
theorem Wi(p q:Addr)(x1 x2 y1 y2:Int)(t1 t2 u1 u2:Tok)(n m:Nat)(d1 d2:Option Addr)(z1 z2:Array (Option Value)):Meets (Builtin.«tuple.__lt__» ⟨[.ref p,.ref q],[]⟩)
  (fun _ R s=>s.heap.get? p=some { cls:=.type "tuple",dict:=d1,data:=.seq #[.int x1 t1,.int x2 t2] n,slots:=z1 }/\s.heap.get? q=some { cls:=.type "tuple",dict:=d2,data:=.seq #[.int y1 u1,.int y2 u2] m,slots:=z2 }/\R (.ok (.ret (.bool (gV (x1,x2) (y1,y2))))) s):=
 .of_wp fun prog w A R s h=>by
  obtain⟨hp,g,d,tk,os⟩:=s;obtain⟨e1,e2,h⟩:=h;have f2:=V5;have k1:=fun(Q:Bool->Shared->Prop)(E:Value->Shared->Prop)(h:Q (x1==y1) ⟨hp,g,d,tk,os⟩)=>(uH (t:=t1) (u:=u1) h:wpAny (model prog w) A.in1 (eqBool (.int x1 t1) (.int y1 u1)) Q E ⟨hp,g,d,tk,os⟩)
  have k2:=fun(Q:Bool->Shared->Prop)(E:Value->Shared->Prop)(h:Q (x2==y2) ⟨hp,g,d,tk,os⟩)=>(uH (t:=t2) (u:=u2) h:wpAny (model prog w) A.in1 (eqBool (.int x2 t2) (.int y2 u2)) Q E ⟨hp,g,d,tk,os⟩)
  have r1:=HF A.in1 ⟨hp,g,d,tk,os⟩ x1 t1 y1 u1 prog w;have r2:=HF A.in1 ⟨hp,g,d,tk,os⟩ x2 t2 y2 u2 prog w;have out:∀ b:Bool,(b=true↔bK (x1,x2) (y1,y2))->R (.ok (.ret (.bool b))) ⟨hp,g,d,tk,os⟩:=fun b hb=>by
   have:b=gV (x1,x2) (y1,y2):=by
    unfold gV;by_cases hc:bK (x1,x2) (y1,y2)
    ·rw[bN hc];exact hb.mpr hc
    ·rw[bZ hc]
     cases b
     ·rfl
     ·exact absurd (hb.mp rfl) hc
   rw[this];exact h
  wp_walk using wpAny_loadPart' e1,wpAny_loadPart' e2,k1,k2
  by_cases q1:x1=y1
  ·rw[show(x1==y1)=true from j8.mpr q1]
   wp_walk using k2
   by_cases q2:x2=y2
   ·rw[show(x2==y2)=true from j8.mpr q2]
    wp_walk
    refine⟨_,rfl,out _ ?_⟩;simp[Builtin.Tuple.tupleCompareSizes,bK,q1,q2]
   ·rw[show(x2==y2)=false from oN.mpr q2]
    wp_walk using r2
    refine⟨_,rfl,out _ ?_⟩;rw[lE];unfold bK;dsimp only;lia
  ·rw[show(x1==y1)=false from oN.mpr q1]
   wp_walk using r1
   refine⟨_,rfl,out _ ?_⟩;rw[lE];unfold bK;dsimp only;lia
theorem W5(p q:Addr)(x1 x2 y1 y2:Int)(t1 t2 u1 u2:Tok)(n m:Nat)(d1 d2:Option Addr)(z1 z2:Array (Option Value)):Meets (Builtin.«tuple.__gt__» ⟨[.ref p,.ref q],[]⟩)
  (fun _ R s=>s.heap.get? p=some { cls:=.type "tuple",dict:=d1,data:=.seq #[.int x1 t1,.int x2 t2] n,slots:=z1 }/\s.heap.get? q=some { cls:=.type "tuple",dict:=d2,data:=.seq #[.int y1 u1,.int y2 u2] m,slots:=z2 }/\R (.ok (.ret (.bool (gV (y1,y2) (x1,x2))))) s):=
 .of_wp fun prog w A R s h=>by
  obtain⟨hp,g,d,tk,os⟩:=s;obtain⟨e1,e2,h⟩:=h;have f2:=V5;have k1:=fun(Q:Bool->Shared->Prop)(E:Value->Shared->Prop)(h:Q (x1==y1) ⟨hp,g,d,tk,os⟩)=>(uH (t:=t1) (u:=u1) h:wpAny (model prog w) A.in1 (eqBool (.int x1 t1) (.int y1 u1)) Q E ⟨hp,g,d,tk,os⟩)
  have k2:=fun(Q:Bool->Shared->Prop)(E:Value->Shared->Prop)(h:Q (x2==y2) ⟨hp,g,d,tk,os⟩)=>(uH (t:=t2) (u:=u2) h:wpAny (model prog w) A.in1 (eqBool (.int x2 t2) (.int y2 u2)) Q E ⟨hp,g,d,tk,os⟩)
  have r1:=HD A.in1 ⟨hp,g,d,tk,os⟩ x1 t1 y1 u1 prog w;have r2:=HD A.in1 ⟨hp,g,d,tk,os⟩ x2 t2 y2 u2 prog w;have out:∀ b:Bool,(b=true↔bK (y1,y2) (x1,x2))->R (.ok (.ret (.bool b))) ⟨hp,g,d,tk,os⟩:=fun b hb=>by
   have:b=gV (y1,y2) (x1,x2):=by
    unfold gV;by_cases hc:bK (y1,y2) (x1,x2)
    ·rw[bN hc];exact hb.mpr hc
    ·rw[bZ hc]
     cases b
     ·rfl
     ·exact absurd (hb.mp rfl) hc
   rw[this];exact h
  wp_walk using wpAny_loadPart' e1,wpAny_loadPart' e2,k1,k2
  by_cases q1:x1=y1
  ·rw[show(x1==y1)=true from j8.mpr q1]
   wp_walk using k2
   by_cases q2:x2=y2
   ·rw[show(x2==y2)=true from j8.mpr q2]
    wp_walk
    refine⟨_,rfl,out _ ?_⟩;simp[Builtin.Tuple.tupleCompareSizes,bK,q1,q2]
   ·rw[show(x2==y2)=false from oN.mpr q2]
    wp_walk using r2
    refine⟨_,rfl,out _ ?_⟩;rw[lE];unfold bK;dsimp only;lia
  ·rw[show(x1==y1)=false from oN.mpr q1]
   wp_walk using r1
   refine⟨_,rfl,out _ ?_⟩;rw[lE];unfold bK;dsimp only;lia
section
variable{X:Cx}{K:ao}
def a1E(K:ao):R2:=fun x y H Q=>∃(a b:Cell),Den K H x (aA a)/\Den K H y (aA b)/\Q (.bl (gV b a)) H
theorem ZR(hu:X.A.units+60<cLine):OpR X (compareOp .Gt) (a1E X.K):=by
 intro pins s zzs H x y v u Q I rx ry h;obtain⟨a,b,da,db,q⟩:=h;obtain⟨p,o,t1,t2,n,rfl,e1,c1,f1⟩:=pC I da rx;obtain⟨p',o',u1,u2,m,rfl,e2,c2,f2⟩:=pC I db ry;obtain⟨oc,od,of,os⟩:=o;obtain⟨oc',od',of',os'⟩:=o';dsimp only at c1 f1 c2 f2;subst c1 f1 c2 f2;refine richCompare_meets_room (op:=.Gt) ⟨_,e1,rfl⟩ ⟨_,e2,rfl⟩ PySem.F.slot_tuple_gt PySem.F.entry_tuple_gt (PySem.F.args_tuple_gt_2 _ _) (W5 p p' a.1 a.2 b.1 b.2 t1 t2 u1 u2 n m od od' os os') ⟨e1,e2,?_⟩ (by lia);exact(show Value.bool (gV b a)≠Value.notImplemented/\EP X pins zzs Q (.bool (gV b a)) s from⟨(fun z=>nomatch z),⟨.bl (gV b a),H,I,rfl,q⟩⟩)
theorem a1m(hu:X.A.units+60<cLine)(hK:X.K=K:=by rfl):OpR X (compareOp .Gt) (a1E K):=by subst hK;exact ZR hu
end
def llt:List Cell->List Cell->Bool
 |[],[]=>false
 |[],_::_=>true
 |_::_,[]=>false
 |a::x,b::y=>if a=b then llt x y else gV a b
theorem tX:jz llt:=by
 refine⟨?_,?_,?_⟩
 ·intro a
  induction a with
  |nil=>intro b h;cases b<;>first|rfl|(cases h)
  |cons x a ih=>
   intro b h
   cases b with
   |nil=>cases h
   |cons y b=>
    unfold llt at h ⊢;by_cases e:x=y
    ·rw[aK e] at h;rw[aK e.symm];exact ih b h
    ·rw[aG e] at h;rw[aG (jy e)];exact lK.Gd _ _ h
 ·intro a
  induction a with
  |nil=>intro b c _ h;cases c<;>first|rfl|skip;cases b<;>simp_all[llt]
  |cons x a ih=>
   intro b c h1 h2
   cases b with
   |nil=>simp[llt] at h1
   |cons y b=>
    cases c with
    |nil=>simp[llt] at h2
    |cons z c=>
     unfold llt at h1 h2 ⊢;by_cases e1:y=x
     ·subst e1;rw[aK rfl] at h1;by_cases e2:z=y
      ·rw[aK e2] at h2 ⊢;exact ih b c h1 h2
      ·rw[aG e2] at h2 ⊢;exact h2
     ·rw[aG e1] at h1;by_cases e2:z=y
      ·subst e2;rw[aG e1];exact h1
      ·rw[aG e2] at h2;by_cases e3:z=x
       ·subst e3;exact absurd (lK.anti _ _ h1 h2) (by simpa using e1)
       ·rw[aG e3];exact lK.tr _ _ _ h1 h2
 ·intro a
  induction a with
  |nil=>intro b h1 h2;cases b<;>simp_all[llt]
  |cons x a ih=>
   intro b h1 h2
   cases b with
   |nil=>simp[llt] at h2
   |cons y b=>
    unfold llt at h1 h2;by_cases e:x=y
    ·rw[aK e] at h1;rw[aK e.symm] at h2;rw[e,ih b h1 h2]
    ·rw[aG e] at h1;rw[aG (jy e)] at h2;exact absurd (lK.anti _ _ h1 h2) e
end L2
namespace L2
open PySem PySem.Spec PyProof.Rows PySem.SeqAt PySem.MeetsSeq PySem.MeetsSeq2 PySem.MeetsSeq3
open PySem.AutoSeq1 (wpAny_loadPart')
def YB(A:Around)(s:Shared)(y x:Value)(b:Bool):Prop:=
 ∀(prog:Program)(w:World)(E:Value->Shared->Prop)(Q:Value->Shared->Prop),Q (.bool b) s->wpAny (model prog w) A (richCompare .Lt y x) Q E s
theorem Wh(l b:Addr)(xs ys:Array Value)(n m:Nat)(d1 d2:Option Addr)(z1 z2:Array (Option Value))(cs ds:List Cell)(hx:xs.size=cs.length)(hy:ys.size=ds.length)(k:Nat) :
  ∀ i:Nat,cs.length-i=k->i<=cs.length->i<=ds.length->Meets (Builtin.«list.__eq__.loop» ⟨[.ref l,.ref b,rawInt i,rawInt 0],[]⟩)
   (fun A R s=>s.heap.get? l=some { cls:=.type "list",dict:=d1,data:=.seq xs n,slots:=z1 }/\s.heap.get? b=some { cls:=.type "list",dict:=d2,data:=.seq ys m,slots:=z2 } /\
    (∀ j (h1:j<xs.size) (h2:j<ys.size) (h3:j<cs.length) (h4:j<ds.length),EqAt A.in1 s xs[j] ys[j] (decide (cs[j]=ds[j]))/\YB A.in1 s xs[j] ys[j] (gV cs[j] ds[j])) /\
    R (.ok (.ret (.bool (llt (cs.drop i) (ds.drop i))))) s):=by
 have fin:∀ i,i<=cs.length->i<=ds.length->(i=cs.length\/i=ds.length)->llt (cs.drop i) (ds.drop i)=decide (xs.size<ys.size):=fun i i1 i2 ho=>by
  rw[hx,hy];by_cases e1:i=cs.length
  ·rw[Kh (by lia)];by_cases e2:i=ds.length
   ·rw[Kh (by lia),bZ (by lia)];rfl
   ·rw[wX (by lia),bN (by lia)];rfl
  ·have e2:i=ds.length:=by lia
   rw[wX (by lia),Kh (l:=ds) (by lia),bZ (by lia)];rfl
 induction k with
 |zero=>
  intro i hk i1 i2 prog w A R s h;obtain⟨hp,g,d,tk,os⟩:=s;obtain⟨hl,hb,he,h⟩:=h
  wp_walk using wpAny_loadPart' hl,wpAny_loadPart' hb
  have hi1:xs[((i:Nat):Int).toNat]?=none:=by simp;lia
  rw[hi1];rw[fin i i1 i2 (.inl (by lia))] at h
  cases ys[((i:Nat):Int).toNat]?
  all_goals
   wp_walk using wpAny_loadPart' hl,wpAny_loadPart' hb
   exact h
 |succ k ih=>
  intro i hk i1 i2 prog w A R s h;obtain⟨hp,g,d,tk,os⟩:=s;obtain⟨hl,hb,he,h⟩:=h
  wp_walk using wpAny_loadPart' hl,wpAny_loadPart' hb
  have hi1:xs[((i:Nat):Int).toNat]?=some xs[i]:=by
   rw[je];exact j5 (by lia)
  by_cases e2:i=ds.length
  ·have hi2:ys[((i:Nat):Int).toNat]?=none:=by simp;lia
   rw[hi1,hi2];rw[fin i i1 i2 (.inr e2)] at h
   wp_walk using wpAny_loadPart' hl,wpAny_loadPart' hb
   exact h
  ·have hi2:ys[((i:Nat):Int).toNat]?=some ys[i]:=by
    rw[je];exact j5 (by lia)
   have hc:((i:Int)+1)=((i+1:Nat):Int):=by push_cast;rfl
   obtain⟨g1,g2⟩:=he i (by lia) (by lia) (by lia) (by lia);rw[hi1,hi2];rw[wX (by lia),wX (l:=ds) (by lia)] at h;unfold llt at h;refine bO (g1 prog w _ _ ?_);by_cases e3:cs[i]=ds[i]
   ·rw[aK e3] at h;rw[bN e3]
    wp_walk
    rw[hc];exact⟨plainId_quiet plain_eq_loop _,Fo entry_eq_loop (by
     rw[Et plain_eq_loop _];exact ih (i+1) (by lia) (by lia) (by lia) prog w A R _ ⟨hl,hb,he,h⟩)⟩
   ·rw[aG e3] at h;rw[bZ e3]
    wp_walk using wpAny_loadPart' hl,wpAny_loadPart' hb
    rw[hi1,hi2];refine bO (g2 prog w _ _ ?_)
    wp_walk
    exact h
theorem RJ(l b:Addr)(xs ys:Array Value)(n m:Nat)(d1 d2:Option Addr)(z1 z2:Array (Option Value))(cs ds:List Cell)(hx:xs.size=cs.length)(hy:ys.size=ds.length):Meets (Builtin.«list.__lt__» ⟨[.ref l,.ref b],[]⟩)
   (fun A R s=>s.heap.get? l=some { cls:=.type "list",dict:=d1,data:=.seq xs n,slots:=z1 }/\s.heap.get? b=some { cls:=.type "list",dict:=d2,data:=.seq ys m,slots:=z2 } /\
    (∀ j (h1:j<xs.size) (h2:j<ys.size) (h3:j<cs.length) (h4:j<ds.length),EqAt A.in1 s xs[j] ys[j] (decide (cs[j]=ds[j]))/\YB A.in1 s xs[j] ys[j] (gV cs[j] ds[j])) /\
    R (.ok (.ret (.bool (llt cs ds)))) s):=by
 intro prog w A R s h;obtain⟨hp,g,d,tk,os⟩:=s;obtain⟨hl,hb,he,h⟩:=h;have f3:=AutoSeq1.sub_list_list
 wp_walk using wpAny_loadPart' hl,wpAny_loadPart' hb
 exact⟨plainId_quiet plain_eq_loop _,Fo entry_eq_loop (by
  rw[Et plain_eq_loop _];exact Wh l b xs ys n m d1 d2 z1 z2 cs ds hx hy _ 0 rfl (lF _) (lF _) prog w A R _ ⟨hl,hb,he,h⟩)⟩
end L2
namespace L2
open PySem PySem.Spec PyProof.Rows PySem.W PySem.SeqAt
structure jX(h:Heap)(u:Value)(c:Cell):Prop where
 ex:∃(a:Addr)(o:Obj)(t t':Tok)(n:Nat),u=.ref a/\h.get? a=some o/\o.cls=.type "tuple" /\ o.data=.seq #[.int c.1 t,.int c.2 t'] n
theorem jX.keep{h h':Heap}{u:Value}{c:Cell}(e:jX h u c)(k:Keeps h h'):jX h' u c:=by
 obtain⟨a,o,t,t',n,h1,h2,h3,h4⟩:=e.ex;exact⟨a,o,t,t',n,h1,k _ _ h2,h3,h4⟩
structure pq(h:Heap)(u:Value)(cs:List Cell):Prop where
 ex:∃(a:Addr)(o:Obj)(us:Array Value)(n:Nat),u=.ref a/\h.get? a=some o/\o.cls=.type "list" /\ o.data=.seq us n/\us.size=cs.length/\∀ j (h1:j<us.size) (h2:j<cs.length),jX h us[j] cs[j]
theorem pq.keep{h h':Heap}{u:Value}{cs:List Cell}(e:pq h u cs)(k:Keeps h h'):pq h' u cs:=by
 obtain⟨a,o,us,n,h1,h2,h3,h4,h5,h6⟩:=e.ex;exact⟨a,o,us,n,h1,k _ _ h2,h3,h4,h5,fun j g1 g2=>(h6 j g1 g2).keep k⟩
section
variable{A:Around}{s:Shared}
theorem Ol{x y:Value}{c d:Cell}(hx:jX s.heap x c)(hy:jX s.heap y d)(hu:A.units<cLine):EqAt A s x y (decide (c=d)):=by
 obtain⟨a,o,t,t',n,rfl,h2,h3,h4⟩:=hx.ex;obtain⟨b,o',u,u',m,rfl,g2,g3,g4⟩:=hy.ex;by_cases e:a=b
 ·subst e;rw[h2] at g2
  cases g2
  rw[h4] at g4;have e1:c=d:=by
   injection g4 with g5 _;have g6:[Value.int c.1 t,Value.int c.2 t']=[Value.int d.1 u,Value.int d.2 u']:=congrArg Array.toList g5;injection g6 with a1 a2;injection a2 with a2 _;injection a1 with a1 _;injection a2 with a2 _;exact jN a1 a2
  rw[bN e1];exact EqAt.same _
 ·have key:=Fy e (RcAt.tuples (e:=fun j=>if j=0 then c.1==d.1 else c.2==d.2) ⟨o,h2,h3,n,h4⟩ ⟨o',g2,g3,m,g4⟩ hu fun j j1 j2=>?_)
  ·have:((List.range (min (#[Value.int c.1 t,Value.int c.2 t']:Array Value).size (#[Value.int d.1 u,Value.int d.2 u']:Array Value).size)).all (fun j=>if j=0 then c.1==d.1 else c.2==d.2)&&(#[Value.int c.1 t,Value.int c.2 t']:Array Value).size==(#[Value.int d.1 u,Value.int d.2 u']:Array Value).size)=decide (c=d):=by
    show((List.range 2).all (fun j=>if j=0 then c.1==d.1 else c.2==d.2)&&true)=_;have:List.range 2=[0,1]:=rfl;rw[this];simp only[Af,List.all_nil,aK,Bool.and_true];rw[sG];simp[Prod.ext_iff]
   rw[this] at key;exact key
  ·match j,j1,j2 with
   |0,_,_=>exact fun prog w E Q h=>uH h
   |1,_,_=>exact fun prog w E Q h=>uH h
   |j+2,j1,_=>exact absurd j1 (by simp)
theorem Pj{x y:Value}{c d:Cell}(hx:jX s.heap x c)(hy:jX s.heap y d)(hu:A.units<cLine):YB A s x y (gV c d):=by
 obtain⟨a,o,t,t',n,rfl,h2,h3,h4⟩:=hx.ex;obtain⟨b,o',u,u',m,rfl,g2,g3,g4⟩:=hy.ex;obtain⟨oc,od,of,os⟩:=o;obtain⟨oc',od',of',os'⟩:=o';dsimp only at h3 h4 g3 g4;subst h3 h4 g3 g4;intro prog w E Q q;refine richCompare_meets_room (op:=.Lt) ⟨_,h2,rfl⟩ ⟨_,g2,rfl⟩ PySem.F.slot_tuple_lt PySem.F.entry_tuple_lt (PySem.F.args_tuple_lt_2 _ _) (Wi a b c.1 c.2 d.1 d.2 t t' u u' n m od od' os os') ⟨h2,g2,?_⟩ hu;exact(show Value.bool (gV c d)≠Value.notImplemented/\Q (.bool (gV c d)) s from⟨(fun z=>nomatch z),q⟩)
theorem RK{prog:Program}{w:World}{E:Value->Shared->Prop}{x y:Value}{cs ds:List Cell}(hx:pq s.heap x cs)(hy:pq s.heap y ds)(hu:A.units+2<cLine){Q:Bool->Shared->Prop}(q:Q (llt cs ds) s):wpAny (model prog w) A (keyLt' oneType' x y) Q E s:=by
 obtain⟨a,o,us,n,rfl,h2,h3,h4,h5,h6⟩:=hx.ex;obtain⟨b,o',vs,m,rfl,g2,g3,g4,g5,g6⟩:=hy.ex;obtain⟨oc,od,of,os⟩:=o;obtain⟨oc',od',of',os'⟩:=o';dsimp only at h3 h4 g3 g4;subst h3 h4 g3 g4;rw[keyLt'_oneType,oneLt'_eq];simp only[wG];refine bO (wpAny_cRoomFor (by lia) ?_);refine bO (wpAny_callSpecialIfBound?_slot (T:="list") ⟨_,h2,rfl⟩ Vi (qg Vi ⟨_,h2,rfl⟩ PySem.F.entry_list_lt (PySem.F.args_list_lt_2 _ _) (RJ a b us vs n m od od' os os' cs ds h5 g5) ⟨h2,g2,fun j j1 j2 j3 j4=>⟨Ol (h6 j j1 j3) (g6 j j2 j4) (by show A.units+1<cLine;lia),Pj (h6 j j1 j3) (g6 j j2 j4) (by show A.units+1<cLine;lia)⟩,?_⟩));exact uF q
end
theorem JN{P:Program}{w:World}{h:Heap}{us:List Value}{rs:List (List Cell)}(hl:us.length=rs.length)(at_:∀ i,i<rs.length->pq h (us.getD i Value.none) (rs.getD i [])):Lk P w h us llt fun i=>rs.getD i []:=by
 refine⟨fun h2=>⟨oneType',fun A' E' s' Q' kp q=>?_,fun A' s' i j C hu kp hi hj hC=>?_⟩⟩
 ·refine kas_kind (T:=.type "list") h2 (fun v hv=>?_) (by decide) (by decide) q;obtain⟨i,hi,rfl⟩:=Ko.mp hv;have:=at_ i (by lia);rw[dX,ig hi] at this;obtain⟨a,o,us',n,e,h2,h3,_⟩:=this.ex;have e':us[i]=.ref a:=e;rw[e'];refine Looks.keeps ?_ kp;exact fun A Q E s k q=>wpAny_typeOf ⟨o,k _ _ h2,h3⟩ q
 ·exact RK ((at_ i (by lia)).keep kp) ((at_ j (by lia)).keep kp) hu hC
end L2
namespace L2
open PySem PySem.Spec PyProof.Rows PySem.W
abbrev vH(cs:List Cell):Dt:=.lst (cs.map aA)
theorem jX.det{h:Heap}{u:Value}{c d:Cell}(x:jX h u c)(y:jX h u d):c=d:=by
 obtain⟨a,o,t,t',n,rfl,h2,h3,h4⟩:=x.ex;obtain⟨b,o',v,v',m,e,g2,g3,g4⟩:=y.ex
 cases e
 rw[h2] at g2
 cases g2
 rw[h4] at g4;injection g4 with g5 _;have g6:[Value.int c.1 t,Value.int c.2 t']=[Value.int d.1 v,Value.int d.2 v']:=congrArg Array.toList g5;injection g6 with a1 a2;injection a2 with a2 _;injection a1 with a1 _;injection a2 with a2 _;exact jN a1 a2
theorem pq.det{h:Heap}{u:Value}{cs ds:List Cell}(x:pq h u cs)(y:pq h u ds):cs=ds:=by
 obtain⟨a,o,us,n,rfl,h2,h3,h4,h5,h6⟩:=x.ex;obtain⟨b,o',vs,m,e,g2,g3,g4,g5,g6⟩:=y.ex
 cases e
 rw[h2] at g2
 cases g2
 rw[h4] at g4;injection g4 with g5' _;subst g5';refine List.ext_getElem (by lia) fun i i1 i2=>?_
 exact(h6 i (by lia) i1).det (g6 i (by lia) i2)
section
variable{X:Cx}
theorem Xm{pins:List (Addr×Obj)}{zzs:L2.St}{H:Hp}{s:Shared}{v:V}{u:Value}{cs:List Cell}(I:Inv X pins zzs H s)(d:Den X.K H v (vH cs))(r:RelV v u):pq s.heap u cs:=by
 cases d with
 |@lst a xs _ h hs=>
  cases r
  obtain⟨its,rv,⟨o,n,e1,e2,_,e3⟩,_⟩:=I.list h;have hl:its.length=cs.length:=by rw[<- rv.length,hs.length,aU]
  refine⟨a,o,its.toArray,n,rfl,e1,e2,e3,by simpa using hl,fun j j1 j2=>?_⟩;have jv:j<xs.length:=by rw[rv.length,hl];exact j2
  obtain⟨u',eu,ru⟩:=rv.get (show xs[j]?=some xs[j] from by simp[jv]);obtain⟨d',ed,dd⟩:=hs.get (show xs[j]?=some xs[j] from by simp[jv]);rw[cU,ig j2] at ed
  cases ed
  have e4:its.toArray[j]=u':=by
   rw[ig (by omega)] at eu;simpa using gO eu
  rw[e4];exact⟨pC I dd ru⟩
def Qv(rs:List (List Cell)):Prop:=rs.Pairwise fun a b=>llt b a=false
def Ti(K:ao):List V->Hp->VK->Prop:=fun xs H Q=>∃(p:Addr)(vs:List V)(rs:List (List Cell)),xs=[.ref p]/\SqL K H p vs/\aN K H vs (rs.map vH)/\∀(l:Addr)(o:List Nat),H l=none->o.Perm (List.range vs.length)->Qv (o.map fun i=>rs.getD i [])->Q (.ref l) (upd H l (.lst (o.map fun i=>vs.getD i .non)))
theorem IW(hu:X.A.units+60<cLine):fj X (.builtin "sorted") (Ti X.K):=by
 intro pins s zzs H xs us Q I r h;obtain⟨p,vs,rs,rfl,hS,D,q⟩:=h;obtain⟨u,rfl,ru⟩:=vals1 r
 cases ru
 obtain⟨its,rv,pl,hz⟩:=I.list hS;have hl:its.length=rs.length:=by rw[<- rv.length,D.length,aU]
 have hv:vs.length=its.length:=rv.length;have at_:∀ i,i<rs.length->pq s.heap (its.getD i Value.none) (rs.getD i []):=fun i hi=>by
  have hv':i<vs.length:=by lia
  obtain⟨u',eu,ru⟩:=rv.get (show vs[i]?=some vs[i] from by simp[hv']);obtain⟨d',ed,dd⟩:=D.get (show vs[i]?=some vs[i] from by simp[hv']);rw[cU,ig hi] at ed
  cases ed
  rw[dX,eu,dX,ig hi];exact Xm I dd ru
 have one:uR its fun i=>rs.getD i []:=fun i j hi hj e=>by
  have a1:=at_ i (by lia);have a2:=at_ j (by lia);rw[e] at a1;exact a1.det a2
 refine yw tX one (by lia) (JN hl at_) (by lia) pl.isList fun o g up=>?_
 obtain⟨e,he⟩:=sortedAll_at s.heap its (byP its o).toArray;have hn:H (s.heap.objs.size+1)=none:=I.hok.fresh (sV _);have bd:∀ i∈o.toList,i<vs.length:=fun i hi=>by rw[hv];exact dH.mp (g.perm.mem_iff.mp hi)
 have rv':Vals (o.toList.map fun i=>vs.getD i .non) (byP its o):=yg rv o.toList bd;have pv:(o.toList.map fun i=>vs.getD i .non).Perm vs:=uf (by rw[hv];exact g.perm);have as:Qv (o.toList.map fun i=>rs.getD i []):=by
  unfold Qv;rw[Cv];intro i j hi hj hij;rw[aU,lD,g.size] at hi hj;have:=up.le tX (j-i) i (by lia);have e1:i+(j-i)=j:=by lia
  rw[e1] at this;have sz:=g.size;have a1:Ky (fun i=>rs.getD i []) o i=(o.toList.map fun i=>rs.getD i [])[i]:=by
   unfold Ky;rw[Ab,lV,j5 (by lia)]
   rfl
  have a2:Ky (fun i=>rs.getD i []) o j=(o.toList.map fun i=>rs.getD i [])[j]:=by
   unfold Ky;rw[Ab,lV,j5 (by lia)]
   rfl
  rw[<- a1,<- a2];exact this
 have hz':(o.toList.map fun i=>vs.getD i .non).length<=sizeLine:=by rw[pv.length_eq];exact hz
 exact⟨.ref (s.heap.objs.size+1),upd H (s.heap.objs.size+1) (.lst (o.toList.map fun i=>vs.getD i .non)),I.laid (a:=s.heap.objs.size+1) (o:=.lst (o.toList.map fun i=>vs.getD i .non)) (t':=s.toks) (fun b o q=>sortedAll_old q) (sV _) ⟨hz',byP its o,e,rv',he⟩,rfl,q _ _ hn (by rw[hv];exact g.perm) as⟩
theorem Wb{K:ao}(hu:X.A.units+60<cLine)(hK:X.K=K:=by rfl):fj X (.builtin "sorted") (Ti K):=by subst hK;exact IW hu
theorem Lr{α:Type}{lt:α->α->Bool}(o:jz lt):∀ {xs ys:List α},xs.Perm ys->xs.Pairwise (fun a b=>lt b a=false)->ys.Pairwise (fun a b=>lt b a=false)->xs=ys
 |[],ys,p,_,_=>by rw[List.nil_perm.mp p]
 |x::xs,[],p,_,_=>absurd p.length_eq (by simp)
 |x::xs,y::ys,p,hx,hy=>by
  rw[oO] at hx hy;have e:x=y:=by
   have h1:x∈y::ys:=p.mem_iff.mp cG;have h2:y∈x::xs:=p.mem_iff.mpr cG;rcases cL.mp h1 with z|z
   ·exact z
   ·rcases cL.mp h2 with w|w
    ·exact w.symm
    ·exact o.anti _ _ (hy.1 x z) (hx.1 y w)
  subst e;rw[Lr o ((List.perm_cons x).mp p) hx.2 hy.2]
end
end L2
namespace L2
open PySem PySem.Spec PyProof.Rows PySem.W
inductive gF{α:Type}(R:α->V->Hp->Prop)(H:Hp):List V->List α->Prop
 |nil:gF R H [] []
 |cons {v:V} {a:α} {vs:List V} {xs:List α} (h:R a v H) (t:gF R H vs xs):gF R H (v::vs) (a::xs)
section
variable{α β:Type}{R:α->V->Hp->Prop}{R2:β->V->Hp->Prop}{H H':Hp}
def Bg(R:α->V->Hp->Prop):Prop:=∀ a v H H',Same H H'->R a v H->R a v H'
theorem gF.mono(hR:Bg R)(s:Same H H'):∀ {vs:List V} {xs:List α},gF R H vs xs->gF R H' vs xs
 |_,_,.nil=>.nil
 |_,_,.cons h t=>.cons (hR _ _ _ _ s h) (t.mono hR s)
theorem gF.length:∀ {vs:List V} {xs:List α},gF R H vs xs->vs.length=xs.length
 |_,_,.nil=>rfl
 |_,_,.cons _ t=>by rw[fO,fO,t.length]
theorem gF.append:∀ {vs ws:List V} {xs ys:List α},gF R H vs xs->gF R H ws ys->gF R H (vs++ws) (xs++ys)
 |_,_,_,_,.nil,h=>h
 |_,_,_,_,.cons h t,h2=>.cons h (t.append h2)
theorem gF.get:∀ {vs:List V} {xs:List α} {i:Nat} {v:V},gF R H vs xs->vs[i]?=some v->∃ a,xs[i]?=some a/\R a v H
 |_,_,i,v,.nil,h=>by simp at h
 |_,_,0,v,.cons h t,e=>by simp at e;exact⟨_,rfl,by rw[<- e];exact h⟩
 |_,_,i+1,v,.cons h t,e=>by simp at e;obtain⟨a,ea,r⟩:=t.get e;exact⟨a,by simpa using ea,r⟩
theorem gF.imp{R':α->V->Hp->Prop}(f:∀ a v,R a v H->R' a v H'):∀ {vs:List V} {xs:List α},gF R H vs xs->gF R' H' vs xs
 |_,_,.nil=>.nil
 |_,_,.cons h t=>.cons (f _ _ h) (t.imp f)
theorem gF.Z1{K:ao}{enc:α->Dt}(f:∀ a v,R a v H->Den K H v (enc a)):∀ {vs:List V} {xs:List α},gF R H vs xs->aN K H vs (xs.map enc)
 |_,_,.nil=>.nil
 |_,_,.cons h t=>.cons (f _ _ h) (t.Z1 f)
theorem gF.by{d0:α}:∀ {vs:List V} {xs:List α} (o:List Nat),gF R H vs xs->(∀ i∈o,i<vs.length)->gF R H (o.map fun i=>vs.getD i .non) (o.map fun i=>xs.getD i d0)
 |vs,xs,[],_,_=>.nil
 |vs,xs,i::o,h,hb=>by
  have hi:=hb i cG;obtain⟨a,ea,r⟩:=h.get (ig hi);rw[cZ,cZ];refine .cons ?_ (h.by o fun j hj=>hb j (dw _ hj));rw[dX,dX,ig hi,ea];exact r
theorem yG{J:It}{vs:List V}{xs:List α}{tc:TT}{te:TE}{zzs:St}{fin:List V->Hp->Prop}(hR:Bg R)(hR2:Bg R2)(hJ:oZ J H vs)(hx:gF R H vs xs)(hn:xs.length<=sizeLine)(p:α->Bool)(f:α->β)
  (ht:∀ a∈xs,∀ v H',Same H H'->R a v H'->∀ G:Bool->Hp->Prop,(∀ H'',Same H' H''->G (p a) H'')->tc (some v::zzs) H' G)
  (hf:∀ a∈xs,p a=true->∀ v H',Same H H'->R a v H'->∀ G:VK,(∀ y H'',Same H' H''->R2 (f a) y H''->G y H'')->te (some v::zzs) H' G)
  (hd:∀ ys H',Same H H'->gF R2 H' ys ((xs.filter p).map f)->fin ys H'):∃ W:Nat->Nat->List V->Hp->Prop,(∃ m,W 0 m [] H)/\oW J tc te zzs fin W:=by
 have hlv:vs.length=xs.length:=hx.length;refine Lz (n:=vs.length) (item:=fun i=>vs.getD i .non) (fun i ys H'=>Same H H'/\gF R2 H' ys (((xs.take i).filter p).map f)) (by rw[hlv];exact hn) (fun i ys H' hi r=>hJ.go H' i r.1 hi) (fun i ys H' v H'' hi r y=>?_) (fun ys H' r=>hJ.stop H' r.1)
  (fun i ys H' hi r=>?_) ⟨Same.refl _,.nil⟩ (fun i ys H' hi r G hG=>?_) (fun ys H' r=>?_)
 ·obtain⟨e,e'⟩:=hJ.yld H' i v H'' r.1 hi y;exact⟨by rw[dX,e];rfl,e'⟩
 ·rw[r.2.length,aU];exact cP (iK _ _) (by rw[qt];exact Nat.min_le_left _ _)
 ·obtain⟨s1,D⟩:=r;have hi':i<xs.length:=by lia
  have ev:vs[i]?=some (vs.getD i .non):=by simp[dX,hi]
  obtain⟨d,ed,dv⟩:=hx.get ev;have ea:d=xs[i]:=by
   rw[ig hi'] at ed;exact(gO ed).symm
  subst ea;have tk:xs.take (i+1)=xs.take i++[xs[i]]:=by rw[jf,ig hi'];rfl
  refine ht xs[i] (n8 hi') _ H' s1 (hR _ _ _ _ s1 dv) _ fun H2 s2=>?_
  cases hp:p xs[i] with
  |false=>
   refine tV (hG _ _ ⟨s1.trans s2,?_⟩);rw[tk,xg,show List.filter p [xs[i]]=[] by simp[hp],xG];exact D.mono hR2 s2
  |true=>
   refine yR (hf xs[i] (n8 hi') hp _ H2 (s1.trans s2) (hR _ _ _ _ (s1.trans s2) dv) _ fun y H3 s3 dy=>hG _ _ ⟨(s1.trans s2).trans s3,?_⟩);rw[tk,xg,show List.filter p [xs[i]]=[xs[i]] by simp[hp],dU];exact(D.mono hR2 (s2.trans s3)).append (.cons dy .nil)
 ·rw[hlv,jE] at r;exact hd ys H' r.1 r.2
theorem O9{J:It}{vs:List V}{xs:List α}{te:TE}{zzs:St}{fin:List V->Hp->Prop}(hR:Bg R)(hR2:Bg R2)(hJ:oZ J H vs)(hx:gF R H vs xs)(hn:xs.length<=sizeLine)(f:α->β)
  (hf:∀ a∈xs,∀ v H',Same H H'->R a v H'->∀ G:VK,(∀ y H'',Same H' H''->R2 (f a) y H''->G y H'')->te (some v::zzs) H' G)
  (hd:∀ ys H',Same H H'->gF R2 H' ys (xs.map f)->fin ys H'):∃ W:Nat->Nat->List V->Hp->Prop,(∃ m,W 0 m [] H)/\oW J Ql te zzs fin W:=
 yG hR hR2 hJ hx hn (fun _=>true) f (fun a _ v H' _ _ G hG=>hG H' (Same.refl _)) (fun a ha _=>hf a ha) fun ys H' s D=>hd ys H' s (by rw[Eu.mpr (fun _ _=>rfl)] at D;exact D)
end
def del(q:Addr)(H:Hp):Hp:=fun b=>if b=q then none else H b
theorem kh{q b:Addr}{H:Hp}(n:b≠q):del q H b=H b:=aG n
theorem yL{q:Addr}{H:Hp}:Same (del q H) H:=fun b o e=>by
 unfold del at e;by_cases h:b=q
 ·rw[aK h] at e;cases e
 ·rwa[aG h] at e
theorem SameBut.del{q:Addr}{H H':Hp}(s:SameBut q H H'):Same (L2.del q H) (L2.del q H'):=fun b o e=>by
 by_cases h:b=q
 ·subst h;unfold L2.del at e;rw[aK rfl] at e;cases e
 ·rw[kh h] at e ⊢;exact s _ _ e h
theorem Same.into{q:Addr}{H H':Hp}(s:Same H H')(n:H q=none):Same H (L2.del q H'):=fun b o e=>by
 rw[kh (bG e n)];exact s _ _ e
section
variable{K:ao}{q:Addr}{H:Hp}{l:List V}
theorem VF:SameBut q H (del q H):=fun b o e n=>by rw[kh n];exact e
theorem uZ{p:Addr}{cs:List Cell}(hq:H q=some (.lst l))(n:p≠q)(h:Ls K H p (cs.map aA)):Ls K (del q H) p (cs.map aA):=VF.ls hq n h
end
def lG(K:ao)(H0:Hp)(r:List Cell)(v:V)(H:Hp):Prop:=∃ a,v=.ref a/\H0 a=none/\Ls K H a (r.map aA)
theorem lG.stays{K:ao}{H0:Hp}:Bg (lG K H0):=fun r v H H' s h=>by
 obtain⟨a,e,n,l⟩:=h;exact⟨a,e,n,l.mono s⟩
theorem lG.den{K:ao}{H0 H:Hp}{r:List Cell}{v:V}(h:lG K H0 r v H):Den K H v (vH r):=by
 obtain⟨a,rfl,n,l⟩:=h;exact l.den
theorem Bs{K:ao}{H:Hp}:∀ {vs:List V} {cs ds:List Cell},aN K H vs (cs.map aA)->aN K H vs (ds.map aA)->cs=ds
 |[],[],[],_,_=>rfl
 |v::vs,c::cs,d::ds,.cons h t,.cons h' t'=>by
  obtain⟨a,rfl,_,e⟩:=fH h;obtain⟨b,e1,_,e'⟩:=fH h'
  cases e1
  rw[e] at e';injection e' with e';injection e' with e';injection e' with e1 e2;injection e2 with e2 _;injection e1 with e1;injection e2 with e2;rw[Bs t t',show c=d from jN e1 e2]
theorem lG.det{K:ao}{H0 H:Hp}{r r':List Cell}{v:V}(h:lG K H0 r v H)(h':lG K H0 r' v H):r=r':=by
 obtain⟨a,rfl,n,xs,e,D⟩:=h;obtain⟨b,e1,n',xs',e',D'⟩:=h'
 cases e1
 rw[e] at e'
 cases e'
 exact Bs D D'
end L2
namespace L2
open PySem PySem.Spec PyProof.Rows
section
variable{P:Program}{w:World}{K:ao}{mg:Str->Option Value}{base:Heap}{N:List Str}{qual:Str}{scope:Scope}{f:Addr}{cd:Value}{A:Around}{outer:List Env}{s0:Shared}{H0:Hp}{E:XK}
theorem ud:Passes (CXE P w) (oU (CXE P w) P w K mg base N qual scope f cd A outer s0 H0 E) E:=by
 rintro pins zzs H s e s' I ⟨ea,C,H',rfl,hos,hg,u2,hok,fly,hE⟩;obtain⟨B,t,fw,Bk⟩:=fly.fl;have Z8:∀ b,b∈frs (envOfC qual scope s0.heap.objs.size f cd::outer)->b=s0.heap.objs.size\/b∈frs outer:=fun b hb=>cL.mp (I.rT b hb)
 have sub:∀ b∈frs outer,b∈frs (envOfC qual scope s0.heap.objs.size f cd::outer):=fun b hb=>by
  obtain⟨x,hx,e⟩:=zX.mp hb;exact zX.mpr ⟨x,dw _ hx,e⟩
 show wpAny (model P w) (A.deeper (envOfC qual scope s0.heap.objs.size f cd)) (leaving (envOfC qual scope s0.heap.objs.size f cd) (.ref ea)) (fun _ s''=>CXE P w outer H0 s0 E (.ref ea) s'') (fun e' s''=>CXE P w outer H0 s0 E e' s'') s';refine wpAny_leaves_onW I.ok.frames rfl fw fun h' fw' sm=>?_
 have u1:Un (frs outer) [] H0 H s0.heap s.heap:=I.base;have u:Un (frs (envOfC qual scope s0.heap.objs.size f cd::outer)) [] H0 H' s0.heap s'.heap:=(u1.mono sub fun _ z=>z).trans u2;have nx:∀ b:Addr,b∉([]:List Addr):=fun b=>by simp
 have Pq:∀ b o,s0.heap.get? b=some o->b∉frs outer->b∉frs (envOfC qual scope s0.heap.objs.size f cd::outer):=fun b o q n hb=>by
  rcases Z8 b hb with z|z
  ·exact fQ (bL q) z
  ·exact n z
 have tW:∀ b o,s'.heap.get? b=some o->(H' b≠none\/∃ o',s.heap.get? b=some o')->b∉frs (envOfC qual scope s0.heap.objs.size f cd::outer)->h'.get? b=some o:=fun b o q hb n=>fw'.1 b o (Bk b o q hb n)
 have frm:∀ b,b∈frs (envOfC qual scope s0.heap.objs.size f cd::outer)->H' b=none/\∃ o,s'.heap.get? b=some o/\∀ ws,o.data≠.fields ws:=fun b hb=>by
  obtain⟨_,o,ho,hd⟩:=I.stack.mem hb;have hn:=I.ur b hb;obtain⟨sl,e2⟩:=u2.slot b o ho hn hb (nx b);exact⟨u2.free b o ho hn (nx b),_,e2,hd⟩
 refine⟨ea,C,H',rfl,hos.trans I.os,hg,⟨fun b o q n hb _=>?_,fun b o q n hb _=>?_,fun b o q n _=>u.free b o q n (nx b),fun b o q _=>?_,u.tups,u.pG,u.qU⟩,fun a o q=>?_,⟨fly.free,?_,B,t,fw',fun b o q hb n=>?_⟩,hE⟩
 ·obtain⟨o1,e1⟩:=u1.there b o q (nx b);exact tW b o (u.keep b o q n (Pq b o q hb) (nx b)) (.inr ⟨o1,e1⟩) (Pq b o q hb)
 ·obtain⟨sl,e2⟩:=u.slot b o q n (sub b hb) (nx b);obtain⟨_,o2,eo,hd⟩:=frm b (sub b hb);rw[e2] at eo;cases eo;obtain⟨sl',e3⟩:=sm b _ e2 hd;exact⟨sl',e3⟩
 ·by_cases hb:b∈frs (envOfC qual scope s0.heap.objs.size f cd::outer)
  ·obtain⟨_,o2,eo,hd⟩:=frm b hb;obtain⟨sl',e3⟩:=sm b _ eo hd;exact⟨_,e3⟩
  ·obtain⟨o1,e1⟩:=u1.there b o q (nx b);obtain⟨o2,e2⟩:=u.there b o q (nx b);exact⟨o2,tW b o2 e2 (.inr ⟨o1,e1⟩) hb⟩
 ·refine(hok a o q).stay (fun b v hb z=>tW b v z (.inl ?_) ?_) (fun _ z=>z) fun _ _ z=>z
  ·rcases hb with rfl|hb
   ·rw[q];exact fun z=>by cases z
   ·rw[hb];exact fun z=>by cases z
  ·intro y;have:=(frm b y).1;rcases hb with rfl|hb
   ·rw[q] at this;cases this
   ·rw[hb] at this;cases this
 ·cases q:s0.heap.get? ea with
  |none=>rfl
  |some o=>
   obtain⟨ob,z⟩:=u1.there ea o q (nx ea);rw[fly.new] at z;cases z
 ·have key:∃ o',s'.heap.get? b=some o'/\(H' b≠none\/∃ o',s.heap.get? b=some o')/\b∉frs (envOfC qual scope s0.heap.objs.size f cd::outer):=by
   rcases hb with z|⟨o',z⟩
   ·cases r:H' b with
    |none=>exact absurd r z
    |some v=>
     obtain⟨ob,y⟩:=(hok b v r).there;exact⟨ob,y,.inl (fun z=>by cases z),fun hb=>by have:=(frm b hb).1;rw[r] at this;cases this⟩
   ·obtain⟨o1,e1⟩:=u1.there b o' z (nx b);obtain⟨o2,e2⟩:=u.there b o' z (nx b);exact⟨o2,e2,.inr ⟨o1,e1⟩,Pq b o' z n⟩
  obtain⟨o',y,h1,h2⟩:=key;have:=tW b o' y h1 h2;rw[q] at this;cases this;exact Bk b _ y h1 h2
end
end L2
namespace L2
open PySem PySem.Spec PyProof.Rows
section
variable{X:Cx}{e o i:Expr}{te to ti:TE}{pos tpos:Pos}
def Yd(K:ao):V->V->Hp->VK->Prop:=fun x y H Q=>∃ p xs,∃ j:Nat,∃ v,x=.ref p/\y=.int j/\SqL K H p xs/\xs[j]?=some v/\Q v H
theorem Ou:a0R X (Yd X.K):=by
 intro pins s zzs H o i ov iv Q I ro ri h;obtain⟨p,xs,j,v,rfl,rfl,hq,hv,q⟩:=h
 cases ro
 obtain⟨t,rfl⟩:=ri;obtain⟨its,r,pl,hz⟩:=I.list hq;obtain⟨w,ew,rw'⟩:=r.get hv;have hl:=r.length;have hn:=rF;have hj:j<xs.length:=(j9.mp hv).1;exact wpAny_getItem_list pl.isList (EY j) (by lia) (by simpa using ew) ⟨v,H,I,rw',q⟩
theorem N7{K:ao}(ho:RE X o to)(hi:RE X i ti)(he:RE X e te)(ha:∀ ov iv new,augStore i ov iv new=(do holding [new,ov,iv] (setItem ov iv new);release [new,ov,iv] [];pure .next):=by intros;rfl)(hK:X.K=K:=by rfl) :
  RS X (.AugAssign (.Subscript o i tpos) .Add e pos) (Ys to ti te (Yd K) (ipI fun i j=>i+j) Yh):=by subst hK;exact⟨X6 ho.ok hi.ok Ou he.ok Zb set_list ha⟩
end
end L2
namespace L2
open PySem PySem.Spec PyProof.Rows PySem.SeqAt
end L2
namespace L2
open PySem PySem.Spec PyProof.Rows
def a0P(i j:Int):Prop:=0<j/\j<2^64
section
variable{X:Cx}
theorem Hr:OpR X (binaryOp .FloorDiv) (rI a0P fun i j=>.int (i / j)):=opI fun i j _ _ _ _ _ hc q=>by
 have h1:(0:Int)<j:=hc.1;have h2:j<2^64:=hc.2;refine floordiv_int (by lia) (by rw[UJ i (by lia)];exact q) (.inl (PyProof.noPylong_of_log2 ?_));have h3:j.natAbs<2^64:=by omega
 have h4:j.natAbs≠0:=by lia
 have:=(Nat.log2_lt h4).mpr h3;lia
end
end L2
namespace L2
open PySem PySem.Spec PyProof.Rows PySem.SeqAt
open PySem.AutoSeq1 (wpAny_loadPart')
section
variable{X:Cx}{K:ao}
theorem Oo(l b:Addr)(us ws:Array Value)(n m:Nat)(sl:Array (Option Value))(h0:¬(!us.isEmpty&&Builtin.List.listTooLong (us.size+ws.size))=true)(h1:us.size<=sizeLine)(h2:us.size+ws.size<=sizeLine+1) :
  Meets (Builtin.«list.extend» ⟨[.ref l,.ref b],[]⟩) (fun _ R s=>s.heap.get? l=some { cls:=.type "list",dict:=none,data:=.seq us n,slots:=#[] }/\s.heap.get? b=some { cls:=.type "list",dict:=none,data:=.seq ws m,slots:=sl }/\R (.ok (.ret .none)) { s with heap:=s.heap.update l (Obj.mapSeq fun x=>x++ws),toks:=s.toks }):=by
 refine .of_wp fun prog w A R s h=>?_
 obtain⟨hp,g,d,tk,os⟩:=s;obtain⟨el,eb,h⟩:=h;have f1:=AutoSeq1.idx_int;have f3:=AutoSeq1.sub_list_list;have hz:(us++ws).size<=sizeLine+1:=by rw[Array.size_append];exact h2
 wp_walk using (wpAny_updateSeq el rfl (hz:=h1) (_hz':=hz)),wpAny_loadPart' el,wpAny_loadPart' eb
 exact⟨_,rfl,h⟩
def Te(K:ao):V->List V->Hp->VK->Prop:=fun x vs H Q=>∃ l b xs zs,x=.ref l/\vs=[.ref b]/\H l=some (.lst xs)/\SqL K H b zs/\xs.length+zs.length<=sizeLine/\Q .non (upd H l (.lst (xs++zs)))
theorem Rv(hK:X.K=K:=by rfl):MtM X "list.extend" (Te K):=by
 subst hK;intro pins s zzs H x vs v us Q I rx rv h;obtain⟨l,b,xs,zs,rfl,rfl,hH,hB,hz,q⟩:=h
 cases rx
 obtain⟨u,rfl,ru⟩:=rv.one
 cases ru
 obtain⟨z,its,n,r,hl,e⟩:=I.Ph hH;obtain⟨its2,r2,⟨o,n2,e2,c2,d2,s2⟩,_⟩:=I.list hB;have l1:=r.length;have l2:=r2.length;obtain⟨cls,dd,data,sl⟩:=o;dsimp only at c2 d2 s2;subst c2 d2 s2;have hsz:its.toArray.size+its2.toArray.size<=sizeLine:=by rw[cD,cD];lia
 have Rq:¬(!its.toArray.isEmpty&&Builtin.List.listTooLong (its.toArray.size+its2.toArray.size))=true:=by
  rw[Hf hsz,Ae];exact fM
 refine qg F.slot_list_extend ⟨_,e,rfl⟩ F.entry_list_extend (F.args_list_extend_2 _ _) (Oo l b its.toArray its2.toArray n n2 sl Rq (by rw[cD];lia) (by lia)) ⟨e,e2,?_⟩;refine⟨.non,_,I.Zo (its':=its++its2) hH e (by simp) (r.append r2) ?_,rfl,q⟩;rw[dB];omega
end
end L2
namespace L2
open PySem PySem.Spec PyProof.Rows
end L2
namespace L2
open PySem PySem.Spec PyProof.Rows
def Rf(K:ao)(C C':Addr):Bool:=match K.lookup C with
 |some ⟨.type "type",_,.cls cd,_⟩=>cd.mro.contains (.ref C')
 |_=>false
section
variable{X:Cx}
def Ur(K:ao)(C':Addr)(ts:TS)(th:Addr->TS):Addr->TS:=fun C D zzs H=>
 (((C=C'\/Rf K C C'=true)/\jm K C)/\ts { nx:=fun _ _=>False,rt:=D.rt } zzs H)\/(C≠C'/\jm K C/\LR K C C'=true/\th C D zzs H)
theorem WX{x:Str}{np hpos:Pos}{b₀:Stmt}{suite:List Stmt}{rest:List ExceptHandler}{C':Addr}{ts:TS}{th:Addr->TS}
  (hg:Gl X x) (hm:X.mg x=some (.ref C')) (c':jm X.K C') (hs:∀ ea,PSs (rE X ea) (b₀::suite) ts) (hr:PH X rest th) (hd:(x==("__debug__" : Str))=false:=by decide) :
  PH X (.ExceptHandler (some (.Name x np)) none (b₀::suite) hpos::rest) (Ur X.K C' ts th):=by
 intro pins zzs H ea C s D a h;have I:=a.inv;refine wpAny_handleBy_cons (codeAny_handlers_test ?_) (by intro q;cases q);refine qJ (X:=rE X ea) (I.hand ea) hg hm ?_ hd;obtain⟨ob,hob,hcls⟩:=a.obj;obtain⟨tl',Na',nm',q',bs',a2O,sn',sub',ab',col',dd',k0',k1',k2',k3',k5',mN',hC',hN2,a2T,T'⟩:=c'.obj I.kIn;have hcB:(Value.ref C'::tl').contains (.type "BaseException")=true:=by rw[List.contains_cons,T'.hasType Eo.hasBase,Bool.or_true]
 have f:=tc_notTuple;rcases h with⟨⟨hit,c⟩,h⟩|⟨hne,c,hmiss,h⟩
 ·obtain⟨tl,Na,nm,q,bs,hdct,sn,sub,ab,col,dd,k0,k1,k2,k3,k5,mN,hC,hN',hni,T⟩:=c.obj I.kIn;obtain⟨hp,g,d,tk,os⟩:=s;have hit':(Value.ref C::tl).contains (.ref C')=true:=by
   rcases hit with rfl|hit
   ·simp
   unfold Rf at hit;split at hit
   ·rename_i dd2 cd2 sl2 ho
    have e:=I.kIn _ _ ho;have e2:hp.get? C=some ⟨.type "type",dd2,.cls cd2,sl2⟩:=e;rw[hC] at e2;unfold excClassObj at e2
    cases e2
    simpa using hit
   ·cases hit
  have key:∀ Q:Bool->Shared->Prop,Q true ⟨hp,g,d,tk,os⟩->wpAny (model X.prog X.w) (rE X ea).A (excMatches (.ref ea) (.ref C')) Q (notedBy (model X.prog X.w) (X.A.mark (some (.ref ea))) X.env (cameBackBy (model X.prog X.w) X.A X.env X.xe)) ⟨hp,g,d,tk,os⟩:=fun Q hq=>by
   unfold excMatches
   repeat (first|(with_reducible refine Fg hob ?_;rw[hcls])|with_reducible refine Fg hC' ?_|(with_reducible refine Ey hC' ?_;rw[hcB])|(with_reducible refine Ey hC ?_;rw[hit'])|wp_step)
   exact hq
  refine key _ ?_;show codeAny _ _ _ _ _;refine codeAny_handlers_suite (a.again fun h' a'=>?_);have J:=a'.inv.hand ea;refine iM (hs ea pins _ _ _ { nx:=fun _ _=>False,rt:=D.rt } J h) (fun f s3 q3=>?_) fun _ _ z=>False.elim z
  cases f with
  |next=>obtain⟨_,_,_,z⟩:=q3;exact False.elim z
  |brk=>obtain⟨_,_,_,z⟩:=q3;exact False.elim z
  |cont=>obtain⟨_,_,_,z⟩:=q3;exact False.elim z
  |ret u=>
   obtain⟨v,bB,H'',J3,rv,q⟩:=q3;exact⟨v,bB,H'',J3.a0I I.ok,rv,q⟩
 ·obtain⟨tl,Na,nm,q,bs,hdct,sn,sub,ab,col,dd,k0,k1,k2,k3,k5,mN,hC,hN',hni,T⟩:=c.obj I.kIn;obtain⟨hp,g,d,tk,os⟩:=s;have miss:(Value.ref C::tl).contains (.ref C')=false:=by
   unfold LR at hmiss;split at hmiss
   ·rename_i dd2 cd2 sl2 ho
    have e:=I.kIn _ _ ho;have e2:hp.get? C=some ⟨.type "type",dd2,.cls cd2,sl2⟩:=e;rw[hC] at e2;unfold excClassObj at e2
    cases e2
    simpa using hmiss
   ·cases hmiss
  have key:∀ Q:Bool->Shared->Prop,Q false ⟨hp,g,d,tk,os⟩->wpAny (model X.prog X.w) (rE X ea).A (excMatches (.ref ea) (.ref C')) Q (notedBy (model X.prog X.w) (X.A.mark (some (.ref ea))) X.env (cameBackBy (model X.prog X.w) X.A X.env X.xe)) ⟨hp,g,d,tk,os⟩:=fun Q hq=>by
   unfold excMatches
   repeat (first|(with_reducible refine Fg hob ?_;rw[hcls])|with_reducible refine Fg hC' ?_|(with_reducible refine Ey hC' ?_;rw[hcB])|(with_reducible refine Ey hC ?_;rw[miss])|wp_step)
   exact hq
  refine key _ ?_;exact hr pins zzs H ea C _ D a h
theorem Xk{x:Str}{np hpos:Pos}{b₀:Stmt}{suite:List Stmt}{hrest:List ExceptHandler}{C':Addr}{ts:TS}{th:Addr->TS}(hg:Gl X x)(hm:X.mg x=some (.ref C'))(c':jm X.K C')(hs:∀ ea,RSs (rE X ea) (b₀::suite) ts)(hr:RH X hrest th) (hd:(x==("__debug__" : Str))=false:=by decide) :
  RH X (.ExceptHandler (some (.Name x np)) none (b₀::suite) hpos::hrest) (Ur X.K C' ts th):=⟨WX hg hm c' (fun ea=>(hs ea).ok) hr.ok hd⟩
end
end L2
namespace L2
open PySem PySem.Spec PyProof.Rows
end L2
namespace My
abbrev zzR(a:PySem.Addr):Option L2.V:=some (.ref a)
abbrev zzI(n:Int):Option L2.V:=some (.int n)
abbrev zzN:Option L2.V:=none
end My
namespace My
open PySem L2
def top(i:Nat):Stmt:=PySem.Challenge.pw_dampfield_k13_whole_chances_together.main.body.getD i (.Pass ⟨0,0,0,0⟩)
abbrev zu:Stmt:=top 11
theorem Qh:aM ["row","width"] ["row","width"] (aJ zu):=⟨rfl,rfl,rfl,by decide +kernel,rfl,by decide +kernel,by decide +kernel⟩
abbrev vM:Stmt:=top 12
theorem JX:aM ["height","width"] ["height","width"] (aJ vM):=⟨rfl,rfl,rfl,by decide +kernel,rfl,by decide +kernel,by decide +kernel⟩
abbrev vN:Stmt:=top 13
theorem JZ:aM ["rows"] ["rows"] (aJ vN):=⟨rfl,rfl,rfl,by decide +kernel,rfl,by decide +kernel,by decide +kernel⟩
abbrev jJ:Stmt:=inClass (top 14) 0
theorem vR:aM ["self","rows"] ["self","rows"] (aJ jJ):=⟨rfl,rfl,rfl,by decide +kernel,rfl,by decide +kernel,by decide +kernel⟩
abbrev rN:Stmt:=top 15
theorem HW:aM ["view","cell"] ["view","cell"] (aJ rN):=⟨rfl,rfl,rfl,by decide +kernel,rfl,by decide +kernel,by decide +kernel⟩
abbrev pW:Stmt:=top 16
theorem Ef:aM ["view","cell"] ["view","cell"] (aJ pW):=⟨rfl,rfl,rfl,by decide +kernel,rfl,by decide +kernel,by decide +kernel⟩
abbrev zq:Stmt:=top 17
theorem Qg:aM ["view","cell"] ["view","cell"] (aJ zq):=⟨rfl,rfl,rfl,by decide +kernel,rfl,by decide +kernel,by decide +kernel⟩
abbrev Eb:Stmt:=top 18
theorem uo:aM ["view","found","row","column"] ["view"] (aJ Eb):=⟨rfl,rfl,rfl,by decide +kernel,rfl,by decide +kernel,by decide +kernel⟩
abbrev JT:Stmt:=top 19
theorem yc:aM ["view","cell","found","row","column"] ["view","cell"] (aJ JT):=⟨rfl,rfl,rfl,by decide +kernel,rfl,by decide +kernel,by decide +kernel⟩
abbrev mz:Stmt:=top 20
theorem zB:aM ["view","cell"] ["view","cell"] (aJ mz):=⟨rfl,rfl,rfl,by decide +kernel,rfl,by decide +kernel,by decide +kernel⟩
abbrev pY:Stmt:=top 21
theorem Eh:aM ["view","cell"] ["view","cell"] (aJ pY):=⟨rfl,rfl,rfl,by decide +kernel,rfl,by decide +kernel,by decide +kernel⟩
abbrev zp:Stmt:=top 22
theorem Qf:aM ["view"] ["view"] (aJ zp):=⟨rfl,rfl,rfl,by decide +kernel,rfl,by decide +kernel,by decide +kernel⟩
abbrev JR:Stmt:=top 23
theorem Xp:aM ["view"] ["view"] (aJ JR):=⟨rfl,rfl,rfl,by decide +kernel,rfl,by decide +kernel,by decide +kernel⟩
abbrev TQ:Stmt:=top 24
theorem a0z:aM ["view"] ["view"] (aJ TQ):=⟨rfl,rfl,rfl,by decide +kernel,rfl,by decide +kernel,by decide +kernel⟩
abbrev zy:Stmt:=top 27
theorem jW:aM ["view","cell","found","waiting","member","teller","other"] ["view","cell"] (aJ zy):=⟨rfl,rfl,rfl,by decide +kernel,rfl,by decide +kernel,by decide +kernel⟩
abbrev Ed:Stmt:=top 28
theorem mZ:aM ["view","found","placed","cell","part","member"] ["view"] (aJ Ed):=⟨rfl,rfl,rfl,by decide +kernel,rfl,by decide +kernel,by decide +kernel⟩
abbrev vK:Stmt:=top 29
theorem lB:aM ["view","last","found","teller","around","behind"] ["view","last"] (aJ vK):=⟨rfl,rfl,rfl,by decide +kernel,rfl,by decide +kernel,by decide +kernel⟩
abbrev rO:Stmt:=top 30
theorem pZ:aM ["laying","asked","demand","stones"] ["laying","asked"] (aJ rO):=⟨rfl,rfl,rfl,by decide +kernel,rfl,by decide +kernel,by decide +kernel⟩
abbrev vO:Stmt:=top 31
theorem iz:aM ["view","cell","part","begun","member","asked","both"] ["view","cell"] (aJ vO):=⟨rfl,rfl,rfl,by decide +kernel,rfl,by decide +kernel,by decide +kernel⟩
abbrev vL:Stmt:=top 32
theorem JW:aM ["view","cell"] ["view","cell"] (aJ vL):=⟨rfl,rfl,rfl,by decide +kernel,rfl,by decide +kernel,by decide +kernel⟩
abbrev lA:Stmt:=top 33
theorem oJ:aM ["view","cell"] ["view"] (aJ lA):=⟨rfl,rfl,rfl,by decide +kernel,rfl,by decide +kernel,by decide +kernel⟩
abbrev vJ:Stmt:=top 34
theorem ou:aM ["view","found","part","cell"] ["view"] (aJ vJ):=⟨rfl,rfl,rfl,by decide +kernel,rfl,by decide +kernel,by decide +kernel⟩
abbrev vQ:Stmt:=top 35
theorem rP:aM ["found","cell","stone","left","choice"] ["found","cell","stone"] (aJ vQ):=⟨rfl,rfl,rfl,by decide +kernel,rfl,by decide +kernel,by decide +kernel⟩
abbrev pU:Stmt:=top 37
theorem oh:aM ["choice","numbers","laying"] ["choice"] (aJ pU):=⟨rfl,rfl,rfl,by decide +kernel,rfl,by decide +kernel,by decide +kernel⟩
abbrev vP:Stmt:=top 38
theorem oA:aM ["one","other","found","place","further"] ["one","other"] (aJ vP):=⟨rfl,rfl,rfl,by decide +kernel,rfl,by decide +kernel,by decide +kernel⟩
abbrev pX:Stmt:=top 39
theorem jU:aM ["found","stones","numbers","choice"] ["found","stones"] (aJ pX):=⟨rfl,rfl,rfl,by decide +kernel,rfl,by decide +kernel,by decide +kernel⟩
abbrev jt:Stmt:=top 40
theorem gC:aM ["one","other","rest"] ["one","other"] (aJ jt):=⟨rfl,rfl,rfl,by decide +kernel,rfl,by decide +kernel,by decide +kernel⟩
abbrev Ec:Stmt:=top 41
theorem TX:aM ["view","stones"] ["view","stones"] (aJ Ec):=⟨rfl,rfl,rfl,by decide +kernel,rfl,by decide +kernel,by decide +kernel⟩
abbrev zm:Stmt:=top 42
theorem mY:aM ["view","stones","cell","found","under","top","shared"] ["view","stones","cell"] (aJ zm):=⟨rfl,rfl,rfl,by decide +kernel,rfl,by decide +kernel,by decide +kernel⟩
abbrev lg:Stmt:=top 44
theorem jL:aM ["found","chosen","choice"] ["found"] (aJ lg):=⟨rfl,rfl,rfl,by decide +kernel,rfl,by decide +kernel,by decide +kernel⟩
abbrev pR:Stmt:=top 45
theorem jT:aM ["view","cell","found","without","having"] ["view","cell"] (aJ pR):=⟨rfl,rfl,rfl,by decide +kernel,rfl,by decide +kernel,by decide +kernel⟩
abbrev JV:Stmt:=top 46
theorem N8:aM ["view","cell","found"] ["view","cell"] (aJ JV):=⟨rfl,rfl,rfl,by decide +kernel,rfl,by decide +kernel,by decide +kernel⟩
abbrev kY:Stmt:=top 48
theorem xQ:aM ["script","k"] ["script","k"] (aJ kY):=⟨rfl,rfl,rfl,by decide +kernel,rfl,by decide +kernel,by decide +kernel⟩
abbrev rM:Stmt:=top 49
theorem lQ:aM ["cell","k","many","some","stir"] ["cell","k","many"] (aJ rM):=⟨rfl,rfl,rfl,by decide +kernel,rfl,by decide +kernel,by decide +kernel⟩
abbrev pQ:Stmt:=top 50
theorem iW:aM ["height","width","cell","found","dr","dc","one"] ["height","width","cell"] (aJ pQ):=⟨rfl,rfl,rfl,by decide +kernel,rfl,by decide +kernel,by decide +kernel⟩
abbrev jK:Stmt:=top 53
theorem cN:aM ["script","most","cell","height","width","thin","stones","r","c"] ["script","most"] (aJ jK):=⟨rfl,rfl,rfl,by decide +kernel,rfl,by decide +kernel,by decide +kernel⟩
abbrev mj:Stmt:=top 54
theorem zA:aM ["height","width","stones","cell"] ["height","width","stones","cell"] (aJ mj):=⟨rfl,rfl,rfl,by decide +kernel,rfl,by decide +kernel,by decide +kernel⟩
abbrev o8:Stmt:=top 55
theorem gk:aM ["height","width","stones","known","rows","r","row","c"] ["height","width","stones","known"] (aJ o8):=⟨rfl,rfl,rfl,by decide +kernel,rfl,by decide +kernel,by decide +kernel⟩
abbrev mq:Stmt:=top 56
theorem gM:aM ["height","width","stones","known","cell","found","at"] ["height","width","stones","known","cell"] (aJ mq):=⟨rfl,rfl,rfl,by decide +kernel,rfl,by decide +kernel,by decide +kernel⟩
abbrev kZ:Stmt:=top 57
theorem bD:aM ["script","most","steps","height","width","stones","known","free","r","k","left","cell"] ["script","most","steps"] (aJ kZ):=⟨rfl,rfl,rfl,by decide +kernel,rfl,by decide +kernel,by decide +kernel⟩
abbrev o9:Stmt:=top 59
theorem Bf:aM ["view","stones"] ["view","stones"] (aJ o9):=⟨rfl,rfl,rfl,by decide +kernel,rfl,by decide +kernel,by decide +kernel⟩
abbrev TV:Stmt:=top 60
theorem ju:aM ["script","rows","laid","view","stones","total","top","under","cell","one","two","kind"] ["script"] (aJ TV):=⟨rfl,rfl,rfl,by decide +kernel,rfl,by decide +kernel,by decide +kernel⟩
structure Adr where
 FieldError:Addr
 BadView:Addr
 NoCell:Addr
 TooGreat:Addr
 Impossible:Addr
 View:Addr
structure Txt(K:ao)(mg:Str->Option Value)(Z:Adr):Prop where
 Qy:mg "all" = none
 Qz:mg "int" = none
 eF:mg "len" = none
 QB:mg "list" = none
 QC:mg "max" = none
 QD:mg "min" = none
 gw:mg "range" = none
 sZ:mg "sorted" = none
 XQ:mg "str" = none
 iH:∃ t,mg "MOST_ROWS" = some (.int 6 t)
 fJ:∃ t,mg "MOST_COLUMNS" = some (.int 6 t)
 gj:∃ t,mg "CLOSED_SIGN" = some (.str "#" t)
 qF:∃ t,mg "SIGNS" = some (.str "#012345678" t)
 gQ:∃ t,mg "MOST_CELLS" = some (.int 12 t)
 CP:mg "FieldError" = some (.ref Z.FieldError)
 oG:jm K Z.FieldError
 Bo:mg "BadView" = some (.ref Z.BadView)
 qR:jm K Z.BadView
 pB:mg "NoCell" = some (.ref Z.NoCell)
 lC:jm K Z.NoCell
 rB:mg "TooGreat" = some (.ref Z.TooGreat)
 jx:jm K Z.TooGreat
 nM:mg "Impossible" = some (.ref Z.Impossible)
 iZ:jm K Z.Impossible
 YJ:mg "View" = some (.ref Z.View)
 gA:Cls K Z.View
 iJ:nC K Z.View "rows"
 eZ:nC K Z.View "height"
 fW:nC K Z.View "width"
def Ei(K:ao):Sp:=fun vs H Q _=>∃(a:Addr)(ns:List Int)(k:Int),vs=[.ref a,.int k]/\0<=k/\SqL K H a (ns.map V.int)/\∀ r:Int,Q (.int r) H
def U9:Sp:=fun vs H Q _=>∃(c k m:Int),vs=[.int c,.int k,.int m]/\0<m/\∀(r:Int)(H':Hp),0<=r->r<m->Same H H'->Q (.int r) H'
def K4(K:ao):Sp:=fun vs H Q _=>∃(h w:Int)(v:V)(x:Cell),vs=[.int h,.int w,v]/\Den K H v (aA x)/\∀ p H',Fr K H H' p ((dF h w x).map aA)->Q (.ref p) H'
section
variable{P:Program}{w:World}{K:ao}{mg:Str->Option Value}{base:Heap}{Z:Adr}
theorem Wq{f:Addr}{fd:FuncData} (F:Fun K "_law_cell_at" "_law_cell_at" kY f fd) (T:Txt K mg Z):cg P w K mg base (CXE P w) 1 f fd ["script","k"] (Ei K):=by
 refine F.rok xQ (fun vs H Q E h=>?_) (fun cdv A outer s H vs Q E hr h=>?_)
 ·obtain⟨a,ns,k,rfl,_⟩:=h;rfl
 ·obtain⟨a,ns,k,rfl,h0,hS,hq⟩:=h;refine⟨_,(au (fL (bM wQ (rv 1) (bf (fu (K:=K)) rfl T.eF cH (aj (rv 0) ak)) (cu _)) (aC (aY (dO (dN (K:=K)) (rv 0) (rv 1)))) bV) (aC (aY aH))),?_⟩;refine⟨_,rfl,_,rfl,.inl ⟨a,_,rfl,.inl hS,_,_,rfl,rfl,_,rfl,?_⟩⟩;refine DK (fun hk=>?_) (fun _=>?_)
  ·have hk':k<ns.length:=by have:=cY hk;simp only[aU] at this;exact this
   obtain⟨v,e⟩:=Lw h0 hk';exact⟨_,rfl,_,rfl,.inl ⟨a,_,_,_,rfl,rfl,hS,e,hq _⟩⟩
  ·exact hq 0
theorem ZJ{f:Addr}{fd:FuncData} (F:Fun K "_law_mix" "_law_mix" rM f fd) (T:Txt K mg Z):cg P w K mg base (CXE P w) 1 f fd ["cell","k","many"] U9:=by
 refine F.rok lQ (fun vs H Q E h=>?_) (fun cdv A outer s H vs Q E hr h=>?_)
 ·obtain⟨c,k,m,rfl,_⟩:=h;rfl
 ·obtain⟨c,k,m,rfl,hm,hq⟩:=h;refine⟨_,(au (aP (i:=3) lQ.nd rfl (Or.inl rfl) (cX (aj aH (aj aH (aj aH (aj aH (aj aH (aj aH (aj aH (aj aH (aj aH (aj aH (aj aH (aj aH (aj aH ak))))))))))))))) (au (aP (i:=4) lQ.nd rfl (Or.inl rfl) (cT c7 (cT c7 (cT iw (cT c7 (cT nY (rv 0) aH) aH) (dO (dN (K:=K)) (rv 3) (cT nY (rv 1) aH))) (cT iw aH (rv 1))) (cT iw aH (cT Mz (rv 1) aH)))) (au (aP (i:=4) lQ.nd rfl (Or.inl rfl) (cT nY (rv 4) aH)) (aC (aY (cT nY (cT Mz (cT nY (cT c7 (cT iw (rv 4) (rv 4)) (cT iw aH (rv 1))) aH) aH) (rv 2))))))),?_⟩;refine⟨by decide,fun p hp=>?_⟩;have b0:0<=c%2147483647:=wA _ (by decide);have b1:c%2147483647<2147483647:=w5 _ (by decide);obtain⟨v,e⟩:=Lw (ns:=[48271,69621,16807,39373,30269,40014,40692,50021,61687,71993,83869,95561,30307]) (i:=k%13) (wA _ (by decide)) (w5 _ (by decide));refine⟨_,rfl,_,_,rfl,rfl,(by show(0:Int)<2147483647;decide),_,rfl,_,rfl,_,_,rfl,rfl,(by show(0:Int)<13;decide),.inl ⟨p,_,_,_,rfl,rfl,.of aD,e,.inl ⟨by lia,by lia⟩,?_⟩⟩;refine⟨_,rfl,.inl ⟨by lia,by lia⟩,?_⟩;refine⟨_,rfl,_,_,rfl,rfl,⟨by decide,by decide⟩,.inl ⟨by lia,by lia⟩,?_⟩;refine⟨_,rfl,_,_,rfl,rfl,(by show(0:Int)<1000000007;decide),?_⟩;refine⟨_,rfl,_,rfl,.inl ⟨by omega,by omega⟩,?_⟩;refine⟨_,rfl,.inl ⟨by lia,by lia⟩,?_⟩;refine⟨_,_,rfl,rfl,(by show(0:Int)<1000000007;decide),?_⟩;refine⟨_,_,rfl,rfl,⟨by decide,by decide⟩,?_⟩;refine⟨_,rfl,_,_,rfl,rfl,hm,?_⟩;exact hq _ _ (wA _ (by lia)) (w5 _ hm) (Same.put hp)
theorem Wt{f:Addr}{fd:FuncData} (F:Fun K "_law_near" "_law_near" pQ f fd) (T:Txt K mg Z):cg P w K mg base (CXE P w) 1 f fd ["height","width","cell"] (K4 K):=by
 refine F.rok iW (fun vs H Q E h=>?_) (fun cdv A outer s H vs Q E hr h=>?_)
 ·obtain⟨h,w,v,x,rfl,_⟩:=h;rfl
 ·obtain⟨h,w,v,x,rfl,dv,hq⟩:=h;refine⟨_,(au (aP (i:=3) iW.nd rfl (Or.inl rfl) (cX ak)) (au (cJ dW rfl (bx (K:=K) (cX (aj (dR (aj (JM rY aH) (aj (JM rY aH) ak))) (aj (dR (aj (JM rY aH) (aj aH ak))) (aj (dR (aj (JM rY aH) (aj aH ak))) (aj (dR (aj aH (aj (JM rY aH) ak))) (aj (dR (aj aH (aj aH ak))) (aj (dR (aj aH (aj (JM rY aH) ak))) (aj (dR (aj aH (aj aH ak))) (aj (dR (aj aH (aj aH ak))) ak)))))))))) (z9 rfl (gK (aZ (i:=4) iW.nd rfl (Or.inl rfl)) (gK (aZ (i:=5) iW.nd rfl (Or.inl rfl)) um))) (au (aP (i:=6) iW.nd rfl (Or.inl rfl) (dR (aj (cT c7 (dO (dN (K:=K)) (rv 2) aH) (rv 4)) (aj (cT c7 (dO (dN (K:=K)) (rv 2) aH) (rv 5)) ak)))) (aC (fL (HS (vD (pO mW wQ aH (dO (dN (K:=K)) (rv 6) aH) (rv 0)) (qN (pO mW wQ aH (dO (dN (K:=K)) (rv 6) aH) (rv 1))))) (aC (gU (mU (K:=K) lW oK oM eE (rv 3) (aj (rv 6) ak)))) bV)))) (aC (aY (rv 3))))),?_⟩;refine aF (fun zzs H1=>∃ p,H p=none/\Same H H1/\H1 p=some (.lst [])/\zzs=[zzI h,zzI w,some v,zzR p,zzN,zzN,zzN]) (fun R hR=>?_) ?_
  ·exact⟨by decide,fun p hp=>hR _ _ ⟨p,hp,Same.put hp,aD,rfl⟩⟩
  rintro zzs H1 ⟨p,np,s1,hp,rfl⟩;refine aF (fun zzs H3=>∃ v4 v5 v6,Fr K H H3 p ((dF h w x).map aA)/\zzs=[zzI h,zzI w,some v,zzR p,v4,v5,v6]) (fun R hR=>?_) ?_
  ·refine Rk ?_;refine iD (K:=K) (-1) (-1) (fun _ q=>⟨_,rfl,q⟩) (fun _ q=>⟨_,rfl,q⟩) fun u1 G1 t1 d1=>?_
   refine iD (K:=K) (-1) 0 (fun _ q=>⟨_,rfl,q⟩) (fun _ q=>q) fun u2 G2 t2 d2=>?_
   refine iD (K:=K) (-1) 1 (fun _ q=>⟨_,rfl,q⟩) (fun _ q=>q) fun u3 G3 t3 d3=>?_
   refine iD (K:=K) 0 (-1) (fun _ q=>q) (fun _ q=>⟨_,rfl,q⟩) fun u4 G4 t4 d4=>?_
   refine iD (K:=K) 0 1 (fun _ q=>q) (fun _ q=>q) fun u5 G5 t5 d5=>?_
   refine iD (K:=K) 1 (-1) (fun _ q=>q) (fun _ q=>⟨_,rfl,q⟩) fun u6 G6 t6 d6=>?_
   refine iD (K:=K) 1 0 (fun _ q=>q) (fun _ q=>q) fun u7 G7 t7 d7=>?_
   refine iD (K:=K) 1 1 (fun _ q=>q) (fun _ q=>q) fun u8 G8 t8 d8=>?_
   refine⟨sz rfl,fun q hq'=>?_⟩;have t9:=Same.put (o:=.lst [u1,u2,u3,u4,u5,u6,u7,u8]) hq';have D:aN K (upd G8 q (.lst [u1,u2,u3,u4,u5,u6,u7,u8])) [u1,u2,u3,u4,u5,u6,u7,u8] (offs.map aA):=by
    have r8:=t9;have r7:=t8.trans r8;have r6:=t7.trans r7;have r5:=t6.trans r6;have r4:=t5.trans r5;have r3:=t4.trans r4;have r2:=t3.trans r3;have r1:=t2.trans r2;exact .cons (d1.mono r1) (.cons (d2.mono r2) (.cons (d3.mono r3) (.cons (d4.mono r4) (.cons (d5.mono r5) (.cons (d6.mono r6) (.cons (d7.mono r7) (.cons (d8.mono r8) .nil)))))))
   have tA:=s1.trans (t1.trans (t2.trans (t3.trans (t4.trans (t5.trans (t6.trans (t7.trans (t8.trans t9))))))));have hp9:=(t1.trans (t2.trans (t3.trans (t4.trans (t5.trans (t6.trans (t7.trans (t8.trans t9)))))))) _ _ hp;have nqp:q≠p:=(bG ((t1.trans (t2.trans (t3.trans (t4.trans (t5.trans (t6.trans (t7.trans t8))))))) _ _ hp) hq').symm;refine⟨q,rfl,⟨_,SqL.of aD⟩,?_⟩;refine dh (K:=K) (xs:=[u1,u2,u3,u4,u5,u6,u7,u8]) (fun i zzs H'=>∃ l v4 v5 v6,SameBut p (upd G8 q (.lst [u1,u2,u3,u4,u5,u6,u7,u8])) H'/\H' p=some (.lst l)/\aN K H' l ((((offs.take i).map fun d=>(x.1+d.1,x.2+d.2)).filter fun y=>decide (inF h w y)).map aA) /\
    zzs=[zzI h,zzI w,some v,zzR p,v4,v5,v6]) ⟨[],none,none,none,.refl _ _,hp9,.nil,rfl⟩ (fun i zzs H' _ hh=>?_) (fun i u zzs H' hu hh=>?_) (fun zzs H' hh=>?_)
   ·obtain⟨l,_,_,_,sb,_⟩:=hh;exact sb.seq aD nqp
   ·obtain⟨l,v4,v5,v6,sb,hl,Dl,rfl⟩:=hh;obtain⟨d,ed,du⟩:=D.get hu;rw[cU] at ed;obtain⟨o,eo,rfl⟩:=jC.mp ed;have dv':Den K H' v (aA x):=sb.cell hp9 (dv.mono tA);refine a0s (sb.cell hp9 du) ?_;refine⟨_,rfl,rJ dv' ⟨_,rfl,_,rfl,rK dv' ⟨_,rfl,sz rfl,fun t ht=>?_⟩⟩⟩;have st:=Same.put (o:=.tup [V.int (x.1+o.1),V.int (x.2+o.2)]) ht;have d1':Den K (upd H' t (.tup [V.int (x.1+o.1),V.int (x.2+o.2)])) (.ref t) (aA (x.1+o.1,x.2+o.2)):=gW;have tk:offs.take (i+1)=offs.take i++[o]:=by rw[jf,eo];rfl
    have hll:l.length<=8:=by
     rw[Dl.length,aU];refine cP (iK _ _) ?_;rw[aU,qt];exact Nat.min_le_right _ _
    have out:∀ b:Bool,b=decide (inF h w (x.1+o.1,x.2+o.2))->(((offs.take (i+1)).map fun d=>(x.1+d.1,x.2+d.2)).filter fun y=>decide (inF h w y))=(((offs.take i).map fun d=>(x.1+d.1,x.2+d.2)).filter fun y=>decide (inF h w y))++(if b=true then [(x.1+o.1,x.2+o.2)] else []):=by
     intro b hb;rw[tk,dU,xg,hb];congr 1;by_cases hin:inF h w (x.1+o.1,x.2+o.2)<;>simp[hin]
    refine⟨_,rfl,rJ d1' ⟨_,_,rfl,rfl,_,rfl,yC (m:=h) (fun _ q=>⟨_,rfl,q⟩) ?_⟩⟩;have a1f:¬inF h w (x.1+o.1,x.2+o.2)->∃ l v4 v5 v6,SameBut p (upd G8 q (.lst [u1,u2,u3,u4,u5,u6,u7,u8])) (upd H' t (.tup [V.int (x.1+o.1),V.int (x.2+o.2)]))/\(upd H' t (.tup [V.int (x.1+o.1),V.int (x.2+o.2)])) p=some (.lst l)/\aN K (upd H' t (.tup [V.int (x.1+o.1),V.int (x.2+o.2)])) l ((((offs.take (i+1)).map fun d=>(x.1+d.1,x.2+d.2)).filter fun y=>decide (inF h w y)).map aA) /\
      [zzI h,zzI w,some v,zzR p,zzI o.1,zzI o.2,zzR t]=[zzI h,zzI w,some v,zzR p,v4,v5,v6]:=fun hn=>by
     refine⟨l,_,_,_,sb.and ht,st _ _ hl,?_,rfl⟩;rw[out false (bZ hn).symm];simpa using Dl.mono st
    refine eV (fun h1=>?_) (fun h1=>a1f fun hin=>by rw[bN hin.1] at h1;cases h1);refine⟨_,rfl,rK d1' ⟨_,_,rfl,rfl,_,rfl,yC (m:=w) (fun _ q=>⟨_,rfl,q⟩) ?_⟩⟩;refine eV (fun h2=>?_) (fun h2=>a1f fun hin=>by rw[bN hin.2] at h2;cases h2);refine⟨_,rfl,.inl ⟨rfl,_,SqL.of (st _ _ hl)⟩,_,rfl,p,l,_,rfl,rfl,st _ _ hl,ltl (by lia),?_⟩;refine⟨l++[.ref t],_,_,_,(sb.and ht).put,aD,?_,rfl⟩;rw[out true (bN ⟨cY h1,cY h2⟩).symm,dU];exact((SameBut.refl p _).put.cells (st _ _ hl) (Dl.mono st)).append (.cons ((SameBut.refl p _).put.cell (st _ _ hl) d1') .nil)
   ·obtain⟨l,v4,v5,v6,sb,hl,Dl,rfl⟩:=hh;exact hR _ _ ⟨v4,v5,v6,⟨sb.of tA np,np,⟨l,hl,Dl⟩⟩,rfl⟩
  rintro zzs H3 ⟨v4,v5,v6,fr,rfl⟩;exact⟨_,rfl,hq p H3 fr⟩
end
end My
namespace My
open PySem L2
def U5(K:ao):Sp:=fun vs H Q _=>∃(h w:Int)(p:Addr)(v:V)(st:List Cell)(x:Cell),vs=[.int h,.int w,.ref p,v]/\Den K H (.ref p) (.lst (st.map aA))/\Den K H v (aA x)/\∀ H',Same H H'->Q (.int (tQ h w st x)) H'
def Nj(K:ao):Sp:=fun vs H Q _=>∃(a:Addr)(ns:List Int)(m:Int),vs=[.ref a,.int m]/\SqL K H a (ns.map V.int)/\1<=m/\m<=6/\∀(t p:Addr)(H':Hp)(h w:Nat)(st:List Cell),Same H H'->H p=none->SqT K H' t [.int h,.int w,.ref p]->Ls K H' p (st.map aA) ->
 1<=h->(h:Int)<=m->1<=w->(w:Int)<=m->st.Sublist (bI h w)->Q (.ref t) H'
section
variable{P:Program}{w:World}{K:ao}{mg:Str->Option Value}{base:Heap}{Z:Adr}
theorem Pz{f:Addr}{fd:FuncData} (F:Fun K "_law_figure" "_law_figure" mj f fd) (T:Txt K mg Z) (iC:Df P w K mg base 1 "_law_near" ["height","width","cell"] (K4 K)):cg P w K mg base (CXE P w) 2 f fd ["height","width","stones","cell"] (U5 K):=by
 refine F.rok zA (fun vs H Q E h=>?_) (fun cdv A outer s H vs Q E hr h=>?_)
 ·obtain⟨h,w,p,v,st,x,rfl,_⟩:=h;rfl
 ·obtain⟨h,w,p,v,st,x,rfl,dp,dv,hq⟩:=h;have hu':=Dz hr;refine⟨_,(aC (aY (bf (fu (K:=K)) rfl T.eF cH (aj (jr (by rfl) rfl (bx (K:=K) (aV iC hr rfl aW (aj (rv 0) (aj (rv 1) (aj (rv 3) ak))))) (fun _ _ _=>(gR (bM (jV.or (Ca (K:=K) hu')) (rv 0) (rv 3) (by rfl)))) (fun _ _ _=>(rv 0))) ak)))),?_⟩;refine⟨_,rfl,_,rfl,_,rfl,h,w,v,x,rfl,dv,fun q H1 fr=>?_⟩;obtain⟨xs,eq,D⟩:=fr.ls;refine⟨q,rfl,⟨_,SqL.of eq⟩,fZ (K:=K) (xs:=dF h w x) (enc:=aA) (cA (SqL.of eq)) D (small (by have:=iI h w x;lia)) (fun y=>decide (y∈st)) aA (fun y hy v H2 s2 d G hG=>?_) (fun y hy _ v H2 s2 d G hG=>⟨_,rfl,hG _ _ (Same.refl _) d⟩) (fun ys H2 s2 D2 q2 hq2=>?_)⟩
  ·exact⟨_,rfl,_,rfl,.inr (HJ d (dp.mono (fr.same.trans s2)) ⟨_,rfl,hG _ (Same.refl _)⟩)⟩
  ·refine .inl ⟨q2,_,rfl,.inl (SqL.of aD),?_⟩;have e:ys.length=tQ h w st x:=by rw[D2.length,aU];rfl
   rw[e];exact hq _ (fr.same.trans (s2.and hq2))
end
end My
namespace My
open PySem L2
section
variable{P:Program}{w:World}{K:ao}{mg:Str->Option Value}{base:Heap}{Z:Adr}
theorem S7{f:Addr}{fd:FuncData} (F:Fun K "_law_field_by" "_law_field_by" jK f fd) (T:Txt K mg Z) (bH:Df P w K mg base 1 "_law_cell_at" ["script","k"] (Ei K)) (fU:Df P w K mg base 1 "_law_mix" ["cell","k","many"] U9) :
  cg P w K mg base (CXE P w) 2 f fd ["script","most"] (Nj K):=by
 refine F.rok cN (fun vs H Q E h=>?_) (fun cdv A outer s H vs Q E hr h=>?_)
 ·obtain⟨a,ns,m,rfl,_⟩:=h;rfl
 ·obtain⟨a,ns,m,rfl,hS,m1,m6,hq⟩:=h;have hu:=mQ hr;refine⟨_,(au (aP (i:=2) cN.nd rfl (Or.inl rfl) (aV bH hr rfl aW (aj (rv 0) (aj aH ak)))) (au (TF (i:=3) (j:=4) rfl cN.nd rfl rfl (by decide) rfl rfl (aj (cT c7 aH (aV fU hr rfl aW (aj (rv 2) (aj aH (aj (rv 1) ak))))) (aj (cT c7 aH (aV fU hr rfl aW (aj (rv 2) (aj aH (aj (rv 1) ak))))) ak)) rfl) (au (aP (i:=5) cN.nd rfl (Or.inl rfl) (dO (dN (K:=K)) (cX (aj aH (aj aH (aj aH ak)))) (aV fU hr rfl aW (aj (rv 2) (aj aH (aj aH ak)))))) (au (aP (i:=6) cN.nd rfl (Or.inl rfl) (cX ak)) (au (cJ dW rfl (fK rfl T.gw (aj (rv 3) ak)) (aZ (i:=7) cN.nd rfl (Or.inl rfl)) (aC (cJ dW rfl (fK rfl T.gw (aj (rv 4) ak)) (aZ (i:=8) cN.nd rfl (Or.inl rfl)) (aC (fL (bM (lO.or (lM (K:=K) hu)) (aV fU hr rfl aW (aj (aV bH hr rfl aW (aj (rv 0) (aj (cT c7 aH (rv 7)) ak))) (aj (rv 8) (aj (rv 5) ak)))) aH (cu _)) (aC (gU (mU (K:=K) lW oK oM eE (rv 6) (aj (dR (aj (rv 7) (aj (rv 8) ak))) ak)))) bV))))) (aC (aY (dR (aj (rv 3) (aj (rv 4) (aj (rv 6) ak))))))))))),?_⟩;refine aF (fun zzs H1=>∃ c:Int,Same H H1/\zzs=[zzR a,zzI m,zzI c,zzN,zzN,zzN,zzN,zzN,zzN]) (fun R hR=>?_) ?_
  ·exact⟨_,rfl,a,ns,0,rfl,by decide,hS,fun r=>hR _ _ ⟨r,Same.refl _,rfl⟩⟩
  rintro zzs H1 ⟨c,s1,rfl⟩;refine aF (fun zzs H2=>∃ h w:Nat,Same H H2/\(1<=h/\(h:Int)<=m)/\(1<=w/\(w:Int)<=m)/\zzs=[zzR a,zzI m,zzI c,zzI h,zzI w,zzN,zzN,zzN,zzN]) (fun R hR=>?_) ?_
  ·refine⟨_,rfl,_,rfl,_,1,_,rfl,by lia,fun r1 H1 a1 b1 t1=>?_⟩;refine⟨_,rfl,_,rfl,_,2,_,rfl,by lia,fun r2 H2 a2 b2 t2=>?_⟩;refine⟨_,_,rfl,hR _ _ ⟨(1+r1).toNat,(1+r2).toNat,s1.trans (t1.trans t2),by lia,by lia,?_⟩⟩;rw[Ez (by lia),Ez (by lia)];rfl
  rintro zzs H2 ⟨h,w,s2,bh,bw,rfl⟩;refine aF (fun zzs H3=>∃ t:Int,0<t/\Same H H3/\zzs=[zzR a,zzI m,zzI c,zzI h,zzI w,zzI t,zzN,zzN,zzN]) (fun R hR=>?_) ?_
  ·refine⟨sz rfl,fun l hl=>?_⟩;have t1:=Same.put (o:=.lst [V.int 3,V.int 5,V.int 9]) hl;refine⟨_,rfl,_,3,3,rfl,by decide,fun r H3 a3 b3 t3=>?_⟩;obtain⟨v,hv,e⟩:=Iw (xs:=([3,5,9]:List Int).map V.int) (i:=r) a3 (by simpa using b3);obtain⟨n,hn,rfl⟩:=bW.mp hv;refine .inl ⟨l,_,_,_,rfl,rfl,SqL.of (t3 _ _ aD),e,hR _ _ ⟨n,?_,s2.trans (t1.trans t3),rfl⟩⟩;exact(by decide:∀ x∈([3,5,9]:List Int),0<x) n hn
  rintro zzs H3 ⟨t,ht,s3,rfl⟩;refine aF (fun zzs H4=>∃ p,H p=none/\Same H H4/\H4 p=some (.lst [])/\zzs=[zzR a,zzI m,zzI c,zzI h,zzI w,zzI t,zzR p,zzN,zzN]) (fun R hR=>?_) ?_
  ·exact⟨by decide,fun p hp=>hR _ _ ⟨p,s3.free hp,s3.and hp,aD,rfl⟩⟩
  rintro zzs H4 ⟨p,np,s4,hp,rfl⟩;have h6:h<=6:=by lia
  have w6:w<=6:=by lia
  refine aF (fun zzs H5=>∃(st:List Cell)(v7 v8:Option V),Same H H5/\Ls K H5 p (st.map aA)/\st.Sublist (bI h w)/\zzs=[zzR a,zzI m,zzI c,zzI h,zzI w,zzI t,zzR p,v7,v8]) (fun R hR=>?_) ?_
  ·refine⟨_,rfl,_,rfl,by lia,by lia,?_⟩;rw[je];refine dZ (lo:=0) (n:=h) (fun i zzs H'=>∃(st:List Cell)(v7 v8:Option V),Same H H'/\Ls K H' p (st.map aA)/\st.Sublist (bI i w)/\zzs=[zzR a,zzI m,zzI c,zzI h,zzI w,zzI t,zzR p,v7,v8])
    ⟨[],none,none,s4,⟨[],hp,.nil⟩,List.nil_sublist _,rfl⟩ (fun i zzs H' hi hh=>?_) (fun zzs H' hh=>hR _ _ hh)
   obtain⟨st,v7,v8,g1,g2,g3,rfl⟩:=hh;refine⟨_,rfl,_,rfl,by lia,by lia,?_⟩;rw[je];refine dZ (lo:=0) (n:=w) (fun j zzs H'=>∃(st:List Cell)(v8:Option V),Same H H'/\Ls K H' p (st.map aA)/\st.Sublist (bI i w++(List.range j).map fun c:Nat=>((i:Int),(c:Int)))/\zzs=[zzR a,zzI m,zzI c,zzI h,zzI w,zzI t,zzR p,zzI (0+i),v8])
    ⟨st,v8,g1,g2,by simpa using g3,rfl⟩ (fun j zzs H' hj hh=>?_) (fun zzs H' hh=>?_)
   ·obtain⟨st,v8,g1,g2,g3,rfl⟩:=hh;have step:bI i w++(List.range (j+1)).map (fun c:Nat=>((i:Int),(c:Int)))=(bI i w++(List.range j).map fun c:Nat=>((i:Int),(c:Int)))++[((i:Int),(j:Int))]:=by
     rw[xJ,dU,<- xq];rfl
    have hl:=g3.length_le;rw[dB,dY,aU,qY] at hl;have hl2:i*w<=6*6:=lX (by lia) w6;refine⟨_,rfl,_,rfl,a,ns,_,rfl,by lia,g1.seq hS,fun r=>?_⟩;refine⟨_,rfl,_,rfl,_,_,_,rfl,ht,fun r2 H6 a6 b6 t6=>.inl ⟨rfl,_,rfl,?_⟩⟩;refine DK (fun _=>?_) (fun _=>?_)
    ·refine⟨_,rfl,.inl ⟨rfl,_,SqL.of (t6 _ _ g2.choose_spec.1)⟩,?_⟩;obtain⟨xs,ex,D⟩:=g2;refine⟨_,rfl,_,rfl,sz rfl,fun u hu=>?_⟩;have su:=Same.put (o:=.tup [V.int (0+i),V.int (0+j)]) hu;refine⟨p,xs,_,rfl,rfl,su _ _ (t6 _ _ ex),ltl (by rw[D.length,aU];lia),?_⟩;refine⟨st++[((i:Int),(j:Int))],_,?_,⟨xs++[.ref u],aD,?_⟩,?_,rfl⟩
     ·exact(SameBut.refl p _).put.of (g1.trans (t6.trans su)) np
     ·rw[dU];refine((SameBut.refl p _).put.cells (su _ _ (t6 _ _ ex)) ((D.mono t6).mono su)).append (.cons ((SameBut.refl p _).put.cell (su _ _ (t6 _ _ ex)) ?_) .nil);rw[ni,ni];exact gW
     ·rw[step];exact g3.append (KH _)
    ·refine⟨st,_,g1.trans t6,g2.mono t6,?_,rfl⟩;rw[step];exact g3.trans (V6 _ _)
   ·obtain⟨st,v8,g1,g2,g3,rfl⟩:=hh;exact⟨st,_,_,g1,g2,by rw[nT];exact g3,rfl⟩
  rintro zzs H5 ⟨st,v7,v8,g1,g2,g3,rfl⟩;refine⟨_,rfl,_,rfl,_,rfl,sz rfl,fun u hu=>?_⟩;exact hq u p _ h w st (g1.and hu) np (SqT.of aD) (g2.mono (Same.put hu)) bh.1 bh.2 bw.1 bw.2 g3
end
end My
namespace My
open PySem L2
def Nr(K:ao):Sp:=fun vs H Q _=>∃(h w:Nat)(p q:Addr)(st kn:List Cell),vs=[.int h,.int w,.ref p,.ref q]/\h<=6/\w<=6/\Den K H (.ref p) (.lst (st.map aA))/\Den K H (.ref q) (.lst (kn.map aA)) /\
 ∀ r H',Same H H'->H r=none->H' r=some (.lst ((vW h w st kn).map V.str))->Q (.ref r) H'
def Ib(K:ao):Sp:=fun vs H Q _=>∃(h w:Nat)(p q:Addr)(v:V)(st kn:List Cell)(x:Cell),vs=[.int h,.int w,.ref p,.ref q,v]/\h<=6/\w<=6/\Den K H (.ref p) (.lst (st.map aA))/\Den K H (.ref q) (.lst (kn.map aA))/\Den K H v (aA x)/\inF h w x /\
 ∀ r H' (cs:List Cell),Fr K H H' r (cs.map aA)->cs.Nodup->(∀ y,y∈cs↔Reach h w st kn x y)->Q (.ref r) H'
section
variable{P:Program}{w:World}{K:ao}{mg:Str->Option Value}{base:Heap}{Z:Adr}
theorem Sq{f:Addr}{fd:FuncData} (F:Fun K "_law_shown" "_law_shown" o8 f fd) (T:Txt K mg Z) (gb:Df P w K mg base 2 "_law_figure" ["height","width","stones","cell"] (U5 K)):cg P w K mg base (CXE P w) 3 f fd ["height","width","stones","known"] (Nr K):=by
 refine F.rok gk (fun vs H Q E h=>?_) (fun cdv A outer s H vs Q E hr h=>?_)
 ·obtain⟨h,w,p,q,st,kn,rfl,_⟩:=h;rfl
 ·obtain⟨h,w,p,q,st,kn,rfl,h6,w6,dp,dq,hq⟩:=h;have hu':=Dz hr;refine⟨_,(au (aP (i:=4) gk.nd rfl (Or.inl rfl) (cX ak)) (au (cJ dW rfl (fK rfl T.gw (aj (rv 0) ak)) (aZ (i:=5) gk.nd rfl (Or.inl rfl)) (au (aP (i:=6) gk.nd rfl (Or.inl rfl) kW) (au (cJ dW rfl (fK rfl T.gw (aj (rv 1) ak)) (aZ (i:=7) gk.nd rfl (Or.inl rfl)) (aC (aP (i:=6) gk.nd rfl (Or.inl rfl) (cT c7 (rv 6) (dO (dN (K:=K)) (cX (aj kW (aj (uh CW rfl T.XQ YH (aj (aV gb hr rfl aW (aj (rv 0) (aj (rv 1) (aj (rv 2) (aj (dR (aj (rv 5) (aj (rv 7) ak))) ak))))) ak)) ak))) (uh O2 rfl T.Qz QH (aj (wU (jV.or (Ca (K:=K) hu')) (dR (aj (rv 5) (aj (rv 7) ak))) (rv 3) (by rfl)) ak))))))) (aC (gU (mU (K:=K) lW oK oM eE (rv 4) (aj (rv 6) ak))))))) (aC (aY (rv 4))))),?_⟩;refine aF (fun zzs H1=>∃ l,H l=none/\Same H H1/\H1 l=some (.lst [])/\zzs=[zzI h,zzI w,zzR p,zzR q,zzR l,zzN,zzN,zzN]) (fun R hR=>?_) ?_
  ·exact⟨by decide,fun l hl=>hR _ _ ⟨l,hl,Same.put hl,aD,rfl⟩⟩
  rintro zzs H1 ⟨l,nl,s1,hl,rfl⟩;refine aF (fun zzs H2=>∃(v5 v6 v7:Option V),Same H H2/\H2 l=some (.lst ((vW h w st kn).map V.str))/\zzs=[zzI h,zzI w,zzR p,zzR q,zzR l,v5,v6,v7]) (fun R hR=>?_) ?_
  ·refine⟨_,rfl,_,rfl,by lia,by lia,?_⟩;rw[je];refine dZ (lo:=0) (n:=h) (fun i zzs H'=>∃(v5 v6 v7:Option V),Same H H'/\H' l=some (.lst (((List.range i).map fun r:Nat=>qT h w st kn (r:Int) w).map V.str))/\zzs=[zzI h,zzI w,zzR p,zzR q,zzR l,v5,v6,v7])
    ⟨none,none,none,s1,hl,rfl⟩ (fun i zzs H' hi hh=>?_) (fun zzs H' hh=>hR _ _ hh)
   obtain⟨v5,v6,v7,g1,g2,rfl⟩:=hh;refine aF (fun zzs H3=>Same H H3/\H3 l=some (.lst (((List.range i).map fun r:Nat=>qT h w st kn (r:Int) w).map V.str))/\zzs=[zzI h,zzI w,zzR p,zzR q,zzR l,zzI (0+i),some (.str ""),v7]) (fun R' hR'=>hR' _ _ ⟨g1,g2,rfl⟩) ?_;rintro zzs H3 ⟨k1,k2,rfl⟩;refine aF (fun zzs H4=>∃ v7:Option V,Same H H4/\H4 l=some (.lst (((List.range i).map fun r:Nat=>qT h w st kn (r:Int) w).map V.str))/\zzs=[zzI h,zzI w,zzR p,zzR q,zzR l,zzI (0+i),some (.str (qT h w st kn i w)),v7]) (fun R' hR'=>?_) ?_
   ·refine⟨_,rfl,_,rfl,by lia,by lia,?_⟩;rw[je];refine dZ (lo:=0) (n:=w) (fun j zzs H'=>∃ v7:Option V,Same H H'/\H' l=some (.lst (((List.range i).map fun r:Nat=>qT h w st kn (r:Int) w).map V.str))/\zzs=[zzI h,zzI w,zzR p,zzR q,zzR l,zzI (0+i),some (.str (qT h w st kn i j)),v7])
     ⟨v7,k1,k2,rfl⟩ (fun j zzs H' hj hh=>?_) (fun zzs H' hh=>hR' _ _ hh)
    obtain⟨v7,m1,m2,rfl⟩:=hh;have fl:=M6 h w st (0+(i:Int),0+(j:Int));refine⟨_,rfl,_,rfl,_,rfl,_,rfl,_,rfl,_,rfl,sz rfl,fun t ht=>?_⟩;have st1:=Same.put (o:=.tup [V.int (0+i),V.int (0+j)]) ht;refine⟨h,w,p,_,st,(0+(i:Int),0+(j:Int)),rfl,dp.mono (m1.trans st1),gW,fun H5 s5=>?_⟩;refine⟨_,rfl,W2 _ fl,sz rfl,fun u hu=>?_⟩;have s6:=Same.put (o:=.lst [V.str "#",V.str (Str.ofString (toString ((tQ h w st (0+(i:Int),0+(j:Int)):Nat):Int)))]) hu;refine⟨_,rfl,_,rfl,sz rfl,fun t2 ht2=>?_⟩;have s7:=Same.put (o:=.tup [V.int (0+i),V.int (0+j)]) ht2;have sA:=st1.trans (s5.trans (s6.trans s7));refine⟨_,rfl,.inr (HJ gW (dq.mono (m1.trans sA)) (.inr ⟨_,rfl,?_⟩))⟩;have e0:((0:Int)+(i:Int),(0:Int)+(j:Int))=((i:Int),(j:Int)):=by rw[ni,ni]
    have fin:∀ z:Str,z=⟨#[K3 h w st kn (0+(i:Int),0+(j:Int))]⟩->Hv (.str (qT h w st kn i j)) (.str z) (upd (upd H5 u (.lst [V.str "#",V.str (Str.ofString (toString ((tQ h w st (0+(i:Int),0+(j:Int)):Nat):Int)))])) t2 (.tup [V.int (0+i),V.int (0+j)]))
      (fun x H1=>∃ v7:Option V,Same H H1/\H1 l=some (.lst (((List.range i).map fun r:Nat=>qT h w st kn (r:Int) w).map V.str))/\([zzI h,zzI w,zzR p,zzR q,zzR l,zzI (0+i),some (.str (qT h w st kn i j)),zzI (0+j)]:L2.St).set 6 (some x)=[zzI h,zzI w,zzR p,zzR q,zzR l,zzI (0+i),some (.str (qT h w st kn i (j+1))),v7]):=by
     intro z hz;subst hz;refine⟨?_,some (.int (0+(j:Int))),m1.trans sA,sA _ _ m2,?_⟩
     ·rw[N6];exact small (by show j+1<=10000;lia)
     ·rw[Tw,<- e0];rfl
    have ed:=dig _ fl;by_cases hk:(0+(i:Int),0+(j:Int))∈kn
    ·rw[bN hk];exact .inl ⟨u,_,_,_,rfl,rfl,SqL.of (s7 _ _ aD),cW (j:=1) rfl,fin _ (by rw[ed];unfold K3;rw[aK hk])⟩
    ·rw[bZ hk];exact .inl ⟨u,_,_,_,rfl,rfl,SqL.of (s7 _ _ aD),gH,fin _ (by unfold K3;rw[aG hk];decide)⟩
   rintro zzs H4 ⟨v7,m1,m2,rfl⟩;refine⟨_,rfl,.inl ⟨rfl,_,SqL.of m2⟩,_,rfl,l,_,_,rfl,rfl,m2,ltl (by rw[aU,aU,qY];lia),?_⟩;refine⟨_,_,_,(SameBut.refl l _).put.of m1 nl,?_,rfl⟩;rw[aD,xJ,dU,dU];rfl
  rintro zzs H2 ⟨v5,v6,v7,g1,g2,rfl⟩;exact⟨_,rfl,hq l H2 g1 nl g2⟩
end
end My
namespace My
open PySem L2
def Ie(K:ao):Sp:=fun vs H Q _=>∃(a:Addr)(ns:List Int)(m k:Int),vs=[.ref a,.int m,.int k]/\SqL K H a (ns.map V.int)/\1<=m/\m<=6/\1<=k/\k<=10 /\
 ∀(t r p:Addr)(H':Hp)(h w:Nat)(st kn:List Cell),Same H H'->H r=none->H p=none->SqT K H' t [.ref r,.ref p]->H' r=some (.lst ((vW h w st kn).map V.str))->Ls K H' p (st.map aA) ->
  1<=h->(h:Int)<=m->1<=w->(w:Int)<=m->st.Sublist (bI h w)->kn.Nodup->(∀ x∈kn,inF h w x/\x∉st)->Q (.ref t) H'
section
variable{P:Program}{w:World}{K:ao}{mg:Str->Option Value}{base:Heap}{Z:Adr}
theorem PK{f:Addr}{fd:FuncData} (F:Fun K "_law_opened" "_law_opened" mq f fd) (T:Txt K mg Z) (iC:Df P w K mg base 1 "_law_near" ["height","width","cell"] (K4 K)) (gb:Df P w K mg base 2 "_law_figure" ["height","width","stones","cell"] (U5 K)) :
  cg P w K mg base (CXE P w) 3 f fd ["height","width","stones","known","cell"] (Ib K):=by
 refine F.rok gM (fun vs H Q E h=>?_) (fun cdv A outer s H vs Q E hr h=>?_)
 ·obtain⟨h,w,p,q,v,st,kn,x,rfl,_⟩:=h;rfl
 ·obtain⟨h,w,p,q,v,st,kn,x,rfl,h6,w6,dp,dq,dv,hx,hq⟩:=h;have hu:=mQ hr;have hu':=Dz hr;refine⟨_,(au (aP (i:=5) gM.nd rfl (Or.inr rfl) (cX (aj (rv 4) ak))) (au (aP (i:=6) gM.nd rfl (Or.inl rfl) aH) (au (zj dW (bM wQ (rv 6) (bf (fu (K:=K)) rfl T.eF cH (aj (rv 5) ak)) (cu _)) (au (fL (bM (lO.or (lM (K:=K) hu)) (aV gb hr rfl aW (aj (rv 0) (aj (rv 1) (aj (rv 2) (aj (dO (dN (K:=K)) (rv 5) (rv 6)) ak))))) aH (cu _)) (aC (aP (i:=5) gM.nd rfl (Or.inr rfl) (cT c7 (rv 5) (jr (by rfl) rfl (bx (K:=K) (aV iC hr rfl aW (aj (rv 0) (aj (rv 1) (aj (dO (dN (K:=K)) (rv 5) (rv 6)) ak))))) (fun _ _ _=>(gR (HS (vD (bM (iV.or (pH (K:=K) hu')) (rv 0) (rv 4) (by rfl)) (qN (bM (iV.or (pH (K:=K) hu')) (rv 0) (rv 6) (by rfl))))))) (fun _ _ _=>(rv 0)))))) bV) (aC (aP (i:=6) gM.nd rfl (Or.inl rfl) (cT c7 (rv 6) aH))))) (aC (aY (rv 5)))))),?_⟩;refine aF (fun zzs H1=>∃ l,Fr K H H1 l ([x].map aA)/\zzs=[zzI h,zzI w,zzR p,zzR q,some v,zzR l,zzN]) (fun R hR=>?_) ?_
  ·exact⟨_,rfl,sz rfl,fun l hl=>hR _ _ ⟨l,⟨Same.put hl,hl,.new hl (.cons dv .nil)⟩,rfl⟩⟩
  rintro zzs H1 ⟨l,fr,rfl⟩;refine aF (fun zzs H2=>Same H1 H2/\zzs=[zzI h,zzI w,zzR p,zzR q,some v,zzR l,zzI 0]) (fun R hR=>hR _ _ ⟨Same.refl _,rfl⟩) ?_;rintro zzs H2 ⟨s2,rfl⟩;refine aF (fun zzs H3=>∃(l:Addr)(cs:List Cell)(v6:Option V),Fr K H H3 l (cs.map aA)/\lJ h w st kn x cs cs.length/\zzs=[zzI h,zzI w,zzR p,zzR q,some v,zzR l,v6]) (fun R hR=>?_) ?_
  ·refine⟨fun m zzs H'=>∃(l:Addr)(cs:List Cell)(n:Nat),Fr K H H' l (cs.map aA)/\lJ h w st kn x cs n/\m=36-n/\zzs=[zzI h,zzI w,zzR p,zzR q,some v,zzR l,zzI n],
    ⟨36,l,[x],0,⟨fr.same.trans s2,fr.new,fr.ls.mono s2⟩,⟨by simp,dD.mpr rfl,fun y hy=>by rw[dD.mp hy];exact .base,lF _,fun i y hi=>absurd hi (Nat.not_lt_zero _)⟩,rfl,rfl⟩,?_⟩
   rintro m zzs H' ⟨l,cs,n,fr,o,rfl,rfl⟩;obtain⟨xs,ex,D⟩:=id fr.ls;have lx:xs.length=cs.length:=by rw[D.length,aU]
   have c36:=o.len hx h6 w6;refine⟨_,rfl,_,rfl,.inl ⟨l,_,rfl,.inl (SqL.of ex),_,_,rfl,rfl,_,rfl,?_⟩⟩;rw[lx];refine DK (fun hlt=>?_) (fun hlt=>?_)
   ·have hn:n<cs.length:=by have:=cY hlt;lia
    have ec:cs[n]?=some cs[n]:=by simp[hn]
    have exn:xs[n]?=some xs[n]:=by simp[hn,lx]
    have dn:Den K H' xs[n] (aA cs[n]):=by
     obtain⟨d,ed,dd⟩:=D.get exn;rw[cU,ec] at ed
     cases ed;exact dd
    refine⟨fun bB H2=>∃(l:Addr)(cs:List Cell),Fr K H H2 l (cs.map aA)/\lJ h w st kn x cs (n+1)/\bB=[zzI h,zzI w,zzR p,zzR q,some v,zzR l,zzI ((n+1:Nat):Int)],fun bB H2 hh=>?_,?_⟩
    ·obtain⟨l,cs,fr,o,rfl⟩:=hh;exact⟨36-(n+1),by lia,l,cs,n+1,fr,o,rfl,rfl⟩
    refine aF (fun zzs H3=>∃(l:Addr)(cs:List Cell),Fr K H H3 l (cs.map aA)/\lJ h w st kn x cs (n+1)/\zzs=[zzI h,zzI w,zzR p,zzR q,some v,zzR l,zzI n]) (fun R' hR'=>?_) ?_
    ·refine⟨_,rfl,_,rfl,_,rfl,_,rfl,_,rfl,.inl ⟨l,_,_,_,rfl,rfl,SqL.of ex,cW exn,?_⟩⟩;refine⟨h,w,p,_,st,cs[n],rfl,dp.mono fr.same,dn,fun H3 s3=>.inl ⟨rfl,_,rfl,?_⟩⟩;rw[tE];refine DK (fun hz=>?_) (fun hz=>?_)
     ·have fz:tQ h w st cs[n]=0:=by have:=cY hz;lia
      refine⟨_,rfl,_,rfl,_,rfl,_,rfl,_,rfl,.inl ⟨l,_,_,_,rfl,rfl,SqL.of (s3 _ _ ex),cW exn,?_⟩⟩;refine⟨h,w,_,cs[n],rfl,dn.mono s3,fun q4 H4 f4=>?_⟩;obtain⟨ys,ey,Dy⟩:=f4.ls;have sA:=fr.same.trans (s3.trans f4.same);refine⟨q4,rfl,⟨_,SqL.of ey⟩,fZ (K:=K) (xs:=dF h w cs[n]) (enc:=aA) (cA (SqL.of ey)) Dy (small (by have:=iI h w cs[n];lia)) (fun y=>!decide (y∈kn)&&!decide (y∈cs)) aA (fun y hy u H5 s5 d G hG=>?_) (fun y hy _ u H5 s5 d G hG=>⟨_,rfl,hG _ _ (Same.refl _) d⟩) (fun us H5 s5 D5 q5 hq5=>?_)⟩
      ·have dk:=dq.mono (sA.trans s5);have dl:=(fr.ls.mono (s3.trans (f4.same.trans s5))).den;have hg:=hG H5 (Same.refl _);refine⟨_,rfl,_,rfl,.inr (pL d dk ⟨_,rfl,?_⟩)⟩;by_cases hk:y∈kn
       ·rw[bN hk] at hg ⊢;exact tV hg
       ·rw[bZ hk] at hg ⊢;refine yR ⟨_,rfl,_,rfl,.inr (pL d dl ⟨_,rfl,?_⟩)⟩;exact hg
      ·have s6:=Same.put (o:=.lst us) hq5;have nl:((dF h w cs[n]).filter fun y=>!decide (y∈kn)&&!decide (y∈cs)).length<=8:=cP (iK _ _) (iI h w cs[n]);refine DR (fr.ls.mono (s3.trans (f4.same.trans (s5.trans s6)))) (Ls.new hq5 D5) (by rw[aU,aU];lia) fun r H6 f6=>hR' _ _ ⟨r,_,⟨sA.trans (s5.trans (s6.trans f6.same)),(sA.trans (s5.trans s6)).free f6.new,?_⟩,o.grow ec fz,rfl⟩
       rw[dU];exact f6.ls
     ·have fz:tQ h w st cs[n]≠0:=fun e=>hz (bN (by rw[e];rfl))
      exact hR' _ _ ⟨l,cs,⟨fr.same.trans s3,fr.new,fr.ls.mono s3⟩,o.skip ec fz,rfl⟩
    rintro zzs H3 ⟨l,cs,fr,o,rfl⟩;exact⟨_,rfl,l,cs,fr,o,rfl⟩
   ·have hn:n=cs.length:=by
     have h1:=o.le;have h2:¬((n:Int)<(cs.length:Int)):=fun z=>hlt (bN z)
     lia
    subst hn;exact hR _ _ ⟨l,cs,_,fr,o,rfl⟩
  rintro zzs H3 ⟨l,cs,v6,fr,o,rfl⟩;exact⟨_,rfl,hq l H3 cs fr o.nd o.done⟩
end
end My
namespace My
open PySem L2
section
variable{P:Program}{w:World}{K:ao}{mg:Str->Option Value}{base:Heap}{Z:Adr}
def pF(w:Nat)(st:List Cell)(n:Nat):List Cell:=(bI n w).filter fun y=>!decide (y∈st)
theorem Jj(w:Nat)(st:List Cell)(n:Nat):pF w st (n+1)=pF w st n++((List.range w).filter fun c:Nat=>!decide (((n:Int),(c:Int))∈st)).map fun c:Nat=>((n:Int),(c:Int)):=by
 unfold pF;rw[nT,xg,List.filter_map];rfl
theorem BR(w:Nat)(st:List Cell)(n:Nat):(pF w st n).length<=n*w:=by
 unfold pF;exact cP (iK _ _) (by rw[dY];exact bR _)
theorem PL{f:Addr}{fd:FuncData} (F:Fun K "_law_view_by" "_law_view_by" kZ f fd) (T:Txt K mg Z) (bH:Df P w K mg base 1 "_law_cell_at" ["script","k"] (Ei K)) (fU:Df P w K mg base 1 "_law_mix" ["cell","k","many"] U9)
  (jF:Df P w K mg base 2 "_law_field_by" ["script","most"] (Nj K)) (lZ:Df P w K mg base 3 "_law_opened" ["height","width","stones","known","cell"] (Ib K)) (nu:Df P w K mg base 3 "_law_shown" ["height","width","stones","known"] (Nr K)) :
  cg P w K mg base (CXE P w) 4 f fd ["script","most","steps"] (Ie K):=by
 refine F.rok bD (fun vs H Q E h=>?_) (fun cdv A outer s H vs Q E hr h=>?_)
 ·obtain⟨a,ns,m,k,rfl,_⟩:=h;rfl
 ·obtain⟨a,ns,m,k,rfl,hS,m1,m6,k1,k10,hq⟩:=h;have hu:=mQ hr;have hu':=Dz hr;refine⟨_,(au (vI (aV jF hr rfl aW (aj (rv 0) (aj (rv 1) ak))) (z9 rfl (gK (aZ (i:=3) bD.nd rfl (Or.inl rfl)) (gK (aZ (i:=4) bD.nd rfl (Or.inl rfl)) (gK (aZ (i:=5) bD.nd rfl (Or.inr rfl)) um))))) (au (aP (i:=6) bD.nd rfl (Or.inr rfl) (cX ak)) (au (aP (i:=7) bD.nd rfl (Or.inl rfl) (cX ak)) (au (cJ dW rfl (fK rfl T.gw (aj (rv 3) ak)) (aZ (i:=8) bD.nd rfl (Or.inr rfl)) (aC (aP (i:=7) bD.nd rfl (Or.inl rfl) (cT c7 (rv 7) (jr (by rfl) rfl (fK rfl T.gw (aj (rv 4) ak)) (fun _ _ _=>(gR (bM (iV.or (pH (K:=K) hu')) (dR (aj (rv 9) (aj (rv 0) ak))) (rv 6) (by rfl)))) (fun _ _ _=>(dR (aj (rv 9) (aj (rv 0) ak))))))))) (au (cJ dW rfl (fK rfl T.gw (aj (cT nY (aV bH hr rfl aW (aj (rv 0) (aj aH ak))) (rv 2)) ak)) (aZ (i:=9) bD.nd rfl (Or.inl rfl)) (au (Ea (i:=10) bD.nd rfl rfl (by rfl) rfl (bx (K:=K) (rv 7)) (fun _ _ _=>(gR (bM (iV.or (pH (K:=K) hu')) (rv 0) (rv 7) (by rfl)))) (fun _ _ _=>(rv 0))) (aC (fL (bM Hs (bf (fu (K:=K)) rfl T.eF cH (aj (rv 10) ak)) aH (cu _)) (au (aP (i:=11) bD.nd rfl (Or.inl rfl) (dO (dN (K:=K)) (rv 10) (aV fU hr rfl aW (aj (aV bH hr rfl aW (aj (rv 0) (aj (cT c7 aH (rv 9)) ak))) (aj (rv 9) (aj (bf (fu (K:=K)) rfl T.eF cH (aj (rv 10) ak)) ak)))))) (aC (aP (i:=6) bD.nd rfl (Or.inr rfl) (cT c7 (rv 6) (aV lZ hr rfl aW (aj (rv 3) (aj (rv 4) (aj (rv 5) (aj (rv 6) (aj (rv 11) ak)))))))))) bV)))) (aC (aY (dR (aj (aV nu hr rfl aW (aj (rv 3) (aj (rv 4) (aj (rv 5) (aj (rv 6) ak))))) (aj (rv 5) ak)))))))))),?_⟩;refine aF (fun zzs H1=>∃(p:Addr)(h w:Nat)(st:List Cell),Same H H1/\H p=none/\Ls K H1 p (st.map aA)/\(1<=h/\(h:Int)<=m)/\(1<=w/\(w:Int)<=m)/\st.Sublist (bI h w) /\
   zzs=[zzR a,zzI m,zzI k,zzI h,zzI w,zzR p,zzN,zzN,zzN,zzN,zzN,zzN]) (fun R hR=>?_) ?_
  ·exact⟨_,rfl,_,rfl,a,ns,m,rfl,hS,m1,m6,fun t p H' h w st s' np hT lp a1 a2 a3 a4 a5=>⟨t,_,rfl,hT,rfl,_,_,rfl,_,_,rfl,_,_,rfl,rfl,hR _ _ ⟨p,h,w,st,s',np,lp,⟨a1,a2⟩,⟨a3,a4⟩,a5,rfl⟩⟩⟩
  rintro zzs H1 ⟨p,h,w,st,s1,np,lp,bh,bw,sub,rfl⟩;have h6:h<=6:=by lia
  have w6:w<=6:=by lia
  have a2U:h*w<=6*6:=lX h6 w6;refine aF (fun zzs H2=>∃ l,Fr K H1 H2 l []/\zzs=[zzR a,zzI m,zzI k,zzI h,zzI w,zzR p,zzR l,zzN,zzN,zzN,zzN,zzN]) (fun R hR=>?_) ?_
  ·exact⟨by decide,fun l hl=>hR _ _ ⟨l,⟨Same.put hl,hl,.new hl .nil⟩,rfl⟩⟩
  rintro zzs H2 ⟨l,fl,rfl⟩;refine aF (fun zzs H3=>∃ e,Same H2 H3/\Ls K H3 e []/\zzs=[zzR a,zzI m,zzI k,zzI h,zzI w,zzR p,zzR l,zzR e,zzN,zzN,zzN,zzN]) (fun R hR=>?_) ?_
  ·exact⟨by decide,fun e he=>hR _ _ ⟨e,Same.put he,.new he .nil,rfl⟩⟩
  rintro zzs H3 ⟨e,s3,le,rfl⟩;refine aF (fun zzs H4=>∃(e:Addr)(v8:Option V),Same H2 H4/\Ls K H4 e ((pF w st h).map aA)/\zzs=[zzR a,zzI m,zzI k,zzI h,zzI w,zzR p,zzR l,zzR e,v8,zzN,zzN,zzN]) (fun R hR=>?_) ?_
  ·refine⟨_,rfl,_,rfl,by lia,by lia,?_⟩;rw[je];refine dZ (lo:=0) (n:=h) (fun i zzs H4=>∃(e:Addr)(v8:Option V),Same H2 H4/\Ls K H4 e ((pF w st i).map aA)/\zzs=[zzR a,zzI m,zzI k,zzI h,zzI w,zzR p,zzR l,zzR e,v8,zzN,zzN,zzN]) ⟨e,none,s3,le,rfl⟩ (fun i zzs H4 hi hh=>?_) (fun zzs H4 hh=>hR _ _ hh);obtain⟨e,v8,g1,g2,rfl⟩:=hh;refine⟨_,rfl,_,rfl,_,rfl,by lia,by lia,?_⟩;rw[je];have e0:∀ c:Nat,((0:Int)+(i:Int),(c:Int))=((i:Int),(c:Int)):=fun c=>by rw[ni]
   refine fZ (K:=K) (xs:=List.range w) (enc:=fun c:Nat=>Dt.int (c:Int)) (Hu w) (aN.nats _) (by rw[qY];exact small (by lia)) (fun c:Nat=>!decide (((i:Int),(c:Int))∈st)) (fun c:Nat=>aA ((i:Int),(c:Int))) (fun c hc v H5 s5 D G hG=>?_) (fun c hc _ v H5 s5 D G hG=>?_) (fun ys H5 s5 D q5 hq5=>?_)
   ·cases D
    refine⟨_,rfl,_,rfl,sz rfl,fun t ht=>⟨_,rfl,.inr (pL gW (lp.mono (fl.same.trans (g1.trans (s5.and ht)))).den ⟨_,rfl,?_⟩)⟩⟩;rw[e0];exact hG _ (Same.put ht)
   ·cases D
    refine⟨_,rfl,_,rfl,sz rfl,fun t ht=>hG _ _ (Same.put ht) ?_⟩;rw[<- e0];exact gW
   ·have l1:=BR w st i;have l2:((List.range w).filter fun c:Nat=>!decide (((i:Int),(c:Int))∈st)).length<=w:=cP (iK _ _) (by rw[qY];exact bR _);have l3:i*w<=6*6:=lX (by lia) w6;have sq:=Same.put (o:=.lst ys) hq5;refine DR (g2.mono (s5.trans sq)) (Ls.new hq5 D) (by rw[aU,aU];lia) fun r H6 f6=>⟨r,_,g1.trans (s5.trans (sq.trans f6.same)),?_,rfl⟩
    rw[Jj,dU,qx];exact f6.ls
  rintro zzs H4 ⟨e,v8,s4,le4,rfl⟩;refine aF (fun zzs H5=>∃(l:Addr)(kn:List Cell)(v9 v10 v11:Option V),Same H1 H5/\Ls K H5 l (kn.map aA)/\kn.Nodup/\(∀ x∈kn,inF h w x/\x∉st)/\zzs=[zzR a,zzI m,zzI k,zzI h,zzI w,zzR p,zzR l,zzR e,v8,v9,v10,v11]) (fun R hR=>?_) ?_
  ·refine⟨_,rfl,a,ns,10,rfl,by decide,(s1.trans (fl.same.trans s4)).seq hS,fun r=>⟨_,rfl,_,_,rfl,rfl,(by lia),?_⟩⟩;have r0:0<=r%k:=wA _ (by lia);have r1:r%k<k:=w5 _ (by lia);refine⟨_,rfl,by lia,by lia,?_⟩;refine dZ (lo:=0) (n:=(r%k).toNat) (fun i zzs H5=>∃(l:Addr)(kn:List Cell)(v9 v10 v11:Option V),Same H4 H5/\Ls K H5 l (kn.map aA)/\kn.Nodup/\(∀ x∈kn,inF h w x/\x∉st)/\zzs=[zzR a,zzI m,zzI k,zzI h,zzI w,zzR p,zzR l,zzR e,v8,v9,v10,v11])
    ⟨l,[],none,none,none,Same.refl _,fl.ls.mono s4,Fq,(by intro x hx;cases hx),rfl⟩ (fun i zzs H5 hi hh=>?_) (fun zzs H5 hh=>?_)
   ·obtain⟨l,kn,v9,v10,v11,g1,g2,nd,g3,rfl⟩:=hh;have a2V:kn.length<=36:=by
     have:=kO (l2:=bI h w) nd fun y hy=>dI.mpr (g3 y hy).1
     rw[dY] at this;lia
    have le5:=le4.mono g1;obtain⟨xs,ex,De⟩:=id le5;refine aF (fun zzs H6=>∃ q,Same H5 H6/\Ls K H6 q (((pF w st h).filter fun y=>!decide (y∈kn)).map aA)/\zzs=[zzR a,zzI m,zzI k,zzI h,zzI w,zzR p,zzR l,zzR e,v8,zzI (0+i),zzR q,v11]) (fun R' hR'=>?_) ?_
    ·refine⟨_,rfl,e,rfl,⟨_,SqL.of ex⟩,fZ (K:=K) (xs:=pF w st h) (enc:=aA) (cA (SqL.of ex)) De (small (by have:=BR w st h;lia)) (fun y=>!decide (y∈kn)) aA (fun y hy u H6 s6 d G hG=>?_) (fun y hy _ u H6 s6 d G hG=>⟨_,rfl,hG _ _ (Same.refl _) d⟩) (fun us H6 s6 D6 q6 hq6=>?_)⟩
     ·exact⟨_,rfl,_,rfl,.inr (pL d (g2.mono s6).den ⟨_,rfl,hG _ (Same.refl _)⟩)⟩
     ·exact hR' _ _ ⟨q6,s6.and hq6,.new hq6 D6,rfl⟩
    rintro zzs H6 ⟨q,s6,lq,rfl⟩;obtain⟨ys,ey,Dy⟩:=id lq;have ly:ys.length=((pF w st h).filter fun y=>!decide (y∈kn)).length:=by rw[Dy.length,aU]
    refine⟨_,rfl,.inl ⟨q,_,rfl,.inl (SqL.of ey),_,_,rfl,rfl,_,rfl,?_⟩⟩;refine DK (fun hpos=>?_) (fun _=>?_)
    ·have hp':0<ys.length:=by have:=cY hpos;lia
     refine aF (fun zzs H7=>∃(u:V)(x:Cell),Same H6 H7/\Den K H7 u (aA x)/\x∈((pF w st h).filter fun y=>!decide (y∈kn))/\zzs=[zzR a,zzI m,zzI k,zzI h,zzI w,zzR p,zzR l,zzR e,v8,zzI (0+i),zzR q,some u]) (fun R' hR'=>?_) ?_
     ·refine⟨_,rfl,_,rfl,_,rfl,a,ns,_,rfl,by lia,(s1.trans (fl.same.trans (s4.trans (g1.trans s6)))).seq hS,fun r2=>?_⟩;refine⟨_,rfl,_,rfl,.inl ⟨q,_,rfl,.inl (SqL.of ey),_,_,_,rfl,by lia,fun r3 H7 a7 b7 s7=>?_⟩⟩;obtain⟨n,rfl⟩:=Ak a7;have hn:n<ys.length:=by lia
      have eyn:ys[n]?=some ys[n]:=by simp[hn]
      obtain⟨d,ed,dd⟩:=Dy.get eyn;rw[cU] at ed;obtain⟨x,hx,rfl⟩:=jC.mp ed;exact .inl ⟨q,_,_,_,rfl,rfl,SqL.of (s7 _ _ ey),cW eyn,hR' _ _ ⟨_,x,s7,dd.mono s7,fB hx,rfl⟩⟩
     rintro zzs H7 ⟨u,x,s7,du,hx,rfl⟩;obtain⟨hx1,hx2⟩:=cB.mp hx;have hxk:x∉kn:=by simpa using hx2
     obtain⟨hx3,hx4⟩:=cB.mp hx1;have hxs:x∉st:=by simpa using hx4
     have hxf:inF h w x:=dI.mp hx3;refine⟨_,rfl,_,rfl,_,rfl,_,rfl,_,rfl,_,rfl,?_⟩;refine⟨h,w,p,l,u,st,kn,x,rfl,h6,w6,(lp.mono (fl.same.trans (s4.trans (g1.trans (s6.trans s7))))).den,(g2.mono (s6.trans s7)).den,du,hxf,fun r8 H8 cs f8 nd8 W6=>?_⟩;have a2P:cs.length<=36:=by
      have:=kO (l2:=bI h w) nd8 fun y hy=>dI.mpr (((W6 y).mp hy).inF hxf)
      rw[dY] at this;lia
     refine DR (g2.mono (s6.trans (s7.trans f8.same))) f8.ls (by rw[aU,aU];lia) fun r9 H9 f9=>?_
     refine⟨r9,kn++cs,_,_,_,g1.trans (s6.trans (s7.trans (f8.same.trans f9.same))),by rw[dU];exact f9.ls,?_,fun y hy=>?_,rfl⟩
     ·refine xr.mpr ⟨nd,nd8,fun y hy z hz e=>?_⟩;rw[<- e] at hz;exact((W6 y).mp hz).new hxk hy
     ·rcases cO.mp hy with z|z
      ·exact g3 y z
      ·exact⟨((W6 y).mp z).inF hxf,((W6 y).mp z).free hxs⟩
    ·exact⟨l,kn,_,_,_,g1.trans s6,g2.mono s6,nd,g3,rfl⟩
   ·obtain⟨l,kn,v9,v10,v11,g1,g2,nd,g3,rfl⟩:=hh;exact hR _ _ ⟨l,kn,v9,v10,v11,fl.same.trans (s4.trans g1),g2,nd,g3,rfl⟩
  rintro zzs H5 ⟨l,kn,v9,v10,v11,s5,lk,nd,hkn,rfl⟩;refine⟨_,rfl,_,rfl,_,rfl,_,rfl,?_⟩;refine⟨h,w,p,l,st,kn,rfl,h6,w6,(lp.mono s5).den,lk.den,fun r H6 s6 nr hr6=>⟨_,rfl,sz rfl,fun t ht=>?_⟩⟩;have s7:=Same.put (o:=.tup [V.ref r,V.ref p]) ht;exact hq t r p _ h w st kn (s1.trans (s5.trans (s6.trans s7))) ((s1.trans s5).free nr) np (SqT.of aD) (s7 _ _ hr6) (lp.mono (s5.trans (s6.trans s7))) bh.1 bh.2 bw.1 bw.2 sub nd hkn
end
end My
namespace My
open PySem L2
end My
namespace My
open PySem L2
theorem aN.Yq{K:ao}{H:Hp}{α:Type}{g:α->Str}:∀ xs:List α,aN K H (xs.map (V.str ∘ g)) (xs.map fun x=>Dt.str (g x))
 |[]=>.nil
 |x::xs=>.cons (.str _) (aN.Yq xs)
theorem Qj{K:ao}{H:Hp}{z:Str}{zzs:L2.St}{Q:VK}{te:TE}(hz:z.length<=sizeLine)
  (ht:∀(c:Nat)(H':Hp),∀ G:VK,G (.bl (inS "#012345678" c)) H'->te (some (.str ⟨#[c]⟩)::zzs) H' G)
  (hq:∀ H',Same H H'->Q (.bl (z.cps.toList.all (inS "#012345678"))) H') :
  ∃ W:Nat->Nat->List V->Hp->Prop,(∃ m,W 0 m [] H)/\oW (Its z) Ql te zzs (fun ys H2=>∀ p,H2 p=none->∃(q:Addr)(bs:List Bool),[V.ref p]=[.ref q]/\SqL K (upd H2 p (.lst ys)) q (bs.map V.bl)/\Q (.bl (bs.all id)) (upd H2 p (.lst ys))) W:=by
 refine comp_map (K:=K) (xs:=z.cps.toList) (enc:=fun c=>Dt.str ⟨#[c]⟩) (Sv z) (by rw[qx];exact aN.Yq _) (by rw[lD];exact hz) (fun c=>Dt.bl (inS "#012345678" c)) (fun c _ v H' s D G hG=>?_) (fun ys H' s D p hp=>?_)
 ·cases D
  exact ht c H' G (hG _ _ (Same.refl _) (.bl _))
 ·have e:ys=(z.cps.toList.map (inS "#012345678")).map V.bl:=by
   refine aN.Ju (K:=K) (H:=H') ?_;rw[qx];exact D
  refine⟨p,z.cps.toList.map (inS "#012345678"),rfl,SqL.of (by rw[aD,e]),?_⟩;rw[Lh];exact hq _ (s.and hp)
def Yp:Sp:=fun vs H Q _=>∃(z:Str)(n:Int),vs=[.str z,.int n]/\z.length<=1000/\∀ H',Same H H'->Q (.bl (zf z n)) H'
theorem Bu{l n m:Int}{te:TE}{zzs:L2.St}{H:Hp}{G:VK}(he:∀ Q':VK,Q' (.int m) H->te zzs H Q')(hg:G (.bl (decide (l<=n/\n<=m))) H) :
  if decide (l<=n)=true then te zzs H (fun w' H4=>rI0 (fun i j=>.bl (decide (i<=j))) (.int n) w' H4 G) else G (.bl false) H:=by
 refine DK (fun h1=>he _ ⟨_,_,rfl,rfl,?_⟩) (fun h1=>?_)
 ·have h1':=cY h1;have e:decide (l<=n/\n<=m)=decide (n<=m):=by simp[h1']
  show G (.bl (decide (n<=m))) H;rw[<- e];exact hg
 ·have e:decide (l<=n/\n<=m)=false:=bZ fun h=>h1 (bN h.1)
  rw[<- e];exact hg
def zF(m n:Int):Bool:=decide (1<=m/\m<=6)&&decide (1<=n/\n<=6)
def Uc:Sp:=fun vs H Q _=>∃(m n:Int),vs=[.int m,.int n]/\Q (.bl (zF m n)) H
def Ue(K:ao):Sp:=fun vs H Q _=>∃(p:Addr)(zs:List Str),vs=[.ref p]/\SqL K H p (zs.map V.str)/\zs.length<=1000/\(∀ z∈zs,z.length<=1000)/\∀ H',Same H H'->Q (.bl (wW zs)) H'
theorem Y9{zs:List Str}:(((zs.map V.str).length:Nat):Int)=(zs.length:Int):=by rw[aU]
theorem Tz{K:ao}{H:Hp}{a:Addr}{zs:List Str}{n:Int}{zzs:L2.St}{Q:VK}{te:TE}(hS:SqL K H a (zs.map V.str))(hz:zs.length<=1000)
  (ht:∀ z∈zs,∀(H':Hp),Same H H'->∀ G:VK,(∀ H'',Same H' H''->G (.bl (zf z n)) H'')->te (some (.str z)::zzs) H' G)
  (hq:∀ H',Same H H'->Q (.bl (zs.all fun r=>zf r n)) H') :
  ∃ W:Nat->Nat->List V->Hp->Prop,(∃ m,W 0 m [] H)/\oW (Itl K a) Ql te zzs (fun ys H2=>∀ p,H2 p=none->a1D K [V.ref p] (upd H2 p (.lst ys)) Q) W:=by
 refine comp_map (K:=K) (xs:=zs) (enc:=Dt.str) (cA hS) (aN.strs zs) (small (by lia)) (fun z=>Dt.bl (zf z n)) (fun z hz v H' s D G hG=>?_) (fun ys H' s D p hp=>?_)
 ·cases D
  exact ht z hz H' s G fun H'' s''=>hG _ _ s'' (.bl _)
 ·have e:ys=(zs.map fun z=>zf z n).map V.bl:=by
   refine aN.Ju (K:=K) (H:=H') ?_;rw[qx];exact D
  refine⟨p,zs.map fun z=>zf z n,rfl,SqL.of (by rw[aD,e]),?_⟩;rw[Lh];exact hq _ (s.and hp)
section
variable{P:Program}{w:World}{K:ao}{mg:Str->Option Value}{base:Heap}{Z:Adr}
theorem ZK{f:Addr}{fd:FuncData} (F:Fun K "is_row" "is_row" zu f fd) (T:Txt K mg Z):cg P w K mg base (CXE P w) 1 f fd ["row","width"] Yp:=by
 refine F.rok Qh (fun vs H Q E h=>?_) (fun cdv A outer s H vs Q E hr h=>?_)
 ·obtain⟨z,n,rfl,_⟩:=h;rfl
 ·obtain⟨z,n,rfl,hz,hq⟩:=h;have hu:=mQ hr;have hu':=Dz hr;have hz':z.length<=sizeLine:=small (by lia);refine⟨_,(aC (aY (Hw (wU (lO.or (lM (K:=K) hu)) (bf (fu (K:=K)) rfl T.eF cH (aj (rv 0) ak)) (rv 1) (cu _)) (Hy (bf (k_all (K:=K) rfl) rfl T.Qy QG (aj (jr (by rfl) rfl (a0v (rv 0)) (fun _ _ _=>DX) (fun _ _ _=>(wU (jV.or (Ca (K:=K) hu')) (rv 0) (Tj T.qF rfl) (by rfl)))) ak)))))),?_⟩;refine⟨_,rfl,.inr ⟨z,rfl,hz',_,rfl,.inl ⟨rfl,_,rfl,?_⟩⟩⟩;rw[tE];refine DK (fun h1=>?_) (fun h1=>?_)
  ·refine⟨_,rfl,z,rfl,Qj (K:=K) hz' (fun c H' G hG=>⟨_,rfl,.inl ⟨_,_,rfl,rfl,hG⟩⟩) fun H' s'=>?_⟩;have:=hq H' s';unfold zf at this;rw[h1,sJ] at this;exact this
  ·have:=hq H (Same.refl _);unfold zf at this;rw[Bool.eq_false_iff.mpr h1,Ad] at this;exact this
theorem Wv{f:Addr}{fd:FuncData} (F:Fun K "is_size" "is_size" vM f fd) (T:Txt K mg Z):cg P w K mg base (CXE P w) 1 f fd ["height","width"] Uc:=by
 refine F.rok JX (fun vs H Q E h=>?_) (fun cdv A outer s H vs Q E hr h=>?_)
 ·obtain⟨m,n,rfl,_⟩:=h;rfl
 ·obtain⟨m,n,rfl,hq⟩:=h;refine⟨_,(aC (aY (Hw (xZ mW mW aH (rv 0) (JL T.iH rfl)) (Hy (xZ mW mW aH (rv 1) (JL T.fJ rfl)))))),?_⟩;refine⟨_,rfl,_,_,rfl,rfl,_,rfl,?_⟩;refine Bu (m:=6) (fun _ q=>q) ⟨_,rfl,eV (fun hb=>?_) (fun hb=>?_)⟩
  ·unfold zF at hq;rw[hb,sJ] at hq;refine⟨_,rfl,_,_,rfl,rfl,_,rfl,?_⟩;exact Bu (m:=6) (fun _ q=>q) hq
  ·unfold zF at hq;rw[hb,Ad] at hq;exact hq
theorem I8{m n:Int}:zF m n=true↔((1<=m/\m<=6)/\(1<=n/\n<=6)):=by
 unfold zF;rw[oR,lE,lE]
theorem Wx{f:Addr}{fd:FuncData} (F:Fun K "is_view" "is_view" vN f fd) (T:Txt K mg Z) (yp:Df P w K mg base 1 "is_row" ["row","width"] Yp) (uM:Df P w K mg base 1 "is_size" ["height","width"] Uc):cg P w K mg base (CXE P w) 2 f fd ["rows"] (Ue K):=by
 refine F.rok JZ (fun vs H Q E h=>?_) (fun cdv A outer s H vs Q E hr h=>?_)
 ·obtain⟨p,zs,rfl,_⟩:=h;rfl
 ·obtain⟨p,zs,rfl,hS,hn,hz,hq⟩:=h;have hu:=mQ hr;refine⟨_,(au (fL (HS (Yi (bM (lO.or (lM (K:=K) hu)) (bf (fu (K:=K)) rfl T.eF cH (aj (rv 0) ak)) aH (cu _)) (Tp (o7 (m9 (aV uM hr rfl aW (aj (bf (fu (K:=K)) rfl T.eF cH (aj (rv 0) ak)) (aj (bf (fu (K:=K)) rfl T.eF cH (aj (dO (dN (K:=K)) (rv 0) aH) ak)) ak)))))))) (aC (aY z7)) bV) (aC (aY (bf (k_all (K:=K) rfl) rfl T.Qy QG (aj (jr (by rfl) rfl (bx (K:=K) (rv 0)) (fun _ _ _=>DX) (fun _ _ _=>(aV yp hr rfl aW (aj (rv 0) (aj (bf (fu (K:=K)) rfl T.eF cH (aj (dO (dN (K:=K)) (rv 1) aH) ak)) ak))))) ak))))),?_⟩;refine⟨_,rfl,.inl ⟨p,_,rfl,.inl hS,.inl ⟨rfl,_,rfl,?_⟩⟩⟩;rw[Y9,tE];refine eV (fun hb=>?_) (fun hb=>?_)
  ·cases zs with
   |nil=>exact hq H (Same.refl _)
   |cons z zs=>have:=cY hb;simp only[fO] at this;lia
  cases zs with
  |nil=>cases hb
  |cons z zs=>
   have z0:=hz z cG;refine⟨_,rfl,.inl ⟨p,_,rfl,.inl hS,_,rfl,.inl ⟨p,_,_,_,rfl,rfl,hS,gH,.inr ⟨z,rfl,small (by lia),?_⟩⟩⟩⟩;refine⟨_,_,rfl,?_⟩;rw[Y9];refine⟨_,rfl,eV (fun h1=>?_) (fun h1=>?_)⟩
   ·have:=hq H (Same.refl _);have h1:¬zF ((z::zs).length:Nat) z.length=true:=by simpa using h1
    rw[I8] at h1;by_cases h2:(z::zs).length<=6
    ·rw[K8 (by simp only[fO] at h1 h2 ⊢;lia)] at this;exact this
    ·rw[K7 h2] at this;exact this
   ·have h1:zF ((z::zs).length:Nat) z.length=true:=by simpa using h1
    rw[I8] at h1;obtain⟨⟨a1,a2⟩,a3,a4⟩:=h1;refine⟨_,rfl,p,rfl,⟨_,hS⟩,Tz hS hn (n:=z.length) (fun r hr' H' s' G hG=>?_) fun H' s'=>?_⟩
    ·refine⟨_,rfl,_,rfl,.inl ⟨p,_,_,_,rfl,rfl,s'.seq hS,gH,.inr ⟨z,rfl,small (by lia),?_⟩⟩⟩;exact⟨r,_,rfl,hz r hr',hG⟩
    ·rw[<- zN (by lia) (by lia) (by lia)];exact hq H' s'
def U7(K:ao)(C B:Addr):Sp:=fun vs H Q E=>∃(x dx p:Addr)(z:List Str),vs=[.ref x,.ref p]/\H x=some (.ins C dx [])/\SqL K H p (z.map V.str)/\z.length<=1000/\(∀ r∈z,r.length<=1000) /\
 (wW z=false->∀ H',Same H H'->E (.ref B) none H')/\(wW z=true->∀ H' (l:Addr) (z0:Str) (zs:List Str),z=z0::zs->H l=none->l≠x->H' l=some (.lst (z.map V.str))->H' x=some (.ins C dx (wK l z.length z0.length))->(∀ b o,H b=some o->b≠x->H' b=some o)->Q .non H')
theorem Ug{K:ao}{H:Hp}{p x C dx:Addr}{xs:List V}{fs:List (Str×V)}{o:HO}(h:SqL K H p xs)(hx:H x=some (.ins C dx fs)):SqL K (upd H x o) p xs:=by
 rcases h with(h|⟨ob,h⟩)|h
 ·exact .inl (.inl (by rw[bA (pK h hx (by intro z;cases z))];exact h))
 ·exact .inl (.inr ⟨ob,by rw[bA (pK h hx (by intro z;cases z))];exact h⟩)
 ·exact .inr h
theorem a2m{a b:Str}{u v:V}:(jH a v (jH b u [])).length<1000:=by
 have h1:=lN a v (jH b u []);have h2:=lN b u [];simp only[wu] at h2;lia
theorem Wr{f:Addr}{fd:FuncData} (F:Fun K "__init__" "View.__init__" jJ f fd) (T:Txt K mg Z) (uN:Df P w K mg base 2 "is_view" ["rows"] (Ue K)):cg P w K mg base (CXE P w) 3 f fd ["self","rows"] (U7 K Z.View Z.BadView):=by
 refine F.HN vR (fun vs H Q E h=>?_) (fun cdv A outer s H vs Q E hr h=>?_)
 ·obtain⟨x,dx,p,z,rfl,_⟩:=h;rfl
 ·obtain⟨x,dx,p,z,rfl,hx,hS,hn,hz,hE,hq⟩:=h;have hd:=GC hr;refine⟨_,(au (fL (RT.nox (o7 (m9 (aV uN hr rfl aW (aj (rv 1) ak))))) (aC (jB T.qR rfl T.Bo hd (aj kW ak))) bV) (au (RS.nox (JQ (rv 0) (uh (Zf (K:=K)) rfl T.QB VD (aj (rv 1) ak)))) (au (RS.nox (JQ (rv 0) (bf (fu (K:=K)) rfl T.eF cH (aj (rv 1) ak)))) (aC (RS.nox (JQ (rv 0) (bf (fu (K:=K)) rfl T.eF cH (aj (dO (dN (K:=K)) (rv 1) aH) ak)))))))),?_⟩;refine⟨_,rfl,p,z,rfl,hS,hn,hz,fun H1 s1=>⟨_,rfl,?_⟩⟩
  cases hv:wW z with
  |false=>exact yR ⟨by decide,hE hv H1 s1⟩
  |true=>
   refine tV ?_
   cases z with
   |nil=>exact absurd (show false=true from hv) (by decide)
   |cons z0 zs=>
    have z0':=hz z0 cG;refine⟨_,rfl,p,_,rfl,.inl (s1.seq hS),fun l hl=>?_⟩;have nlx:l≠x:=(bG (s1 x _ hx) hl).symm;have h1:(upd H1 l (.lst ((z0::zs).map V.str))) x=some (.ins Z.View dx []):=by rw[bA nlx.symm];exact s1 x _ hx
    have S1:SqL K (upd H1 l (.lst ((z0::zs).map V.str))) p ((z0::zs).map V.str):=(s1.and hl).seq hS;refine⟨_,rfl,x,Z.View,dx,_,rfl,h1,T.gA,T.iJ,(by show 0<1000;decide),?_⟩;have S2:=Ug (o:=.ins Z.View dx (jH "rows" (.ref l) [])) S1 h1;refine⟨_,rfl,.inl ⟨p,_,rfl,.inl S2,_,rfl,x,Z.View,dx,_,rfl,aD,T.gA,T.eZ,(by show 1<1000;decide),?_⟩⟩;have S3:=Ug (o:=.ins Z.View dx (jH "height" (.int ((z0::zs).map V.str).length) (jH "rows" (.ref l) []))) S2 aD;refine⟨_,rfl,.inl ⟨p,_,_,_,rfl,rfl,S3,gH,.inr ⟨z0,rfl,small (by lia),_,rfl,x,Z.View,dx,_,rfl,aD,T.gA,T.fW,a2m,?_⟩⟩⟩;refine hq hv _ l z0 zs rfl (s1.free hl) nlx ?_ ?_ (fun b o e hb=>?_)
    ·rw[bA nlx,bA nlx,bA nlx,aD]
    ·rw[aD];rw[aU];rfl
    ·rw[bA hb,bA hb,bA hb];exact(s1.and hl) b o e
end
end My
namespace My
open PySem L2
def U6(K:ao)(C:Addr):Sp:=fun vs H Q _=>∃(x:Addr)(v:V)(zs:List Str)(w:Nat)(c:Cell),vs=[.ref x,v]/\dM C H x zs w/\Den K H v (aA c)/\Q (.bl (decide (inF zs.length w c))) H
def iB(K:ao)(C:Addr):Sp:=fun vs H Q _=>∃(x:Addr)(v:V)(zs:List Str)(w:Nat)(c:Cell),vs=[.ref x,v]/\dM C H x zs w/\Den K H v (aA c)/\Q (.bl (aR zs w c)) H
def rQ(K:ao)(C:Addr):Sp:=fun vs H Q _=>∃(x:Addr)(zs:List Str)(w:Nat),vs=[.ref x]/\dM C H x zs w/\∀ q H',Fr K H H' q ((bI zs.length w).map aA)->Q (.ref q) H'
def Ej(K:ao)(C NC:Addr):Sp:=fun vs H Q E=>∃(x:Addr)(v:V)(zs:List Str)(w:Nat)(c:Cell),vs=[.ref x,v]/\dM C H x zs w/\Den K H v (aA c)/\(inF zs.length w c->∀ q H',Fr K H H' q ((dF zs.length w c).map aA)->Q (.ref q) H')/\(¬inF zs.length w c->∀ H',Same H H'->E (.ref NC) none H')
section
variable{P:Program}{w:World}{K:ao}{mg:Str->Option Value}{base:Heap}{Z:Adr}
theorem ZD{f:Addr}{fd:FuncData} (F:Fun K "has_cell" "has_cell" rN f fd) (T:Txt K mg Z):cg P w K mg base (CXE P w) 1 f fd ["view","cell"] (U6 K Z.View):=by
 refine F.rok HW (fun vs H Q E h=>?_) (fun cdv A outer s H vs Q E hr h=>?_)
 ·obtain⟨x,v,zs,w,c,rfl,_⟩:=h;rfl
 ·obtain⟨x,v,zs,w,c,rfl,vt,dv,hq⟩:=h;obtain⟨dx,l,hx,hl⟩:=vt.ob;refine⟨_,(aC (aY (Hw (xZ mW wQ aH (dO (dN (K:=K)) (rv 1) aH) (pI (K:=K) (rv 0))) (Hy (xZ mW wQ aH (dO (dN (K:=K)) (rv 1) aH) (pI (K:=K) (rv 0))))))),?_⟩;refine⟨_,rfl,rJ dv ⟨_,_,rfl,rfl,_,rfl,?_⟩⟩;refine Bv (m:=(zs.length:Int)) (fun Q' q=>⟨_,rfl,x,Z.View,dx,_,_,rfl,hx,T.gA,T.eZ,yP _ _ _,q⟩) ⟨_,rfl,?_⟩;have fin:∀ b:Bool,b=decide (inF zs.length w c)->Q (.bl b) H:=fun b e=>by rw[e];exact hq
  refine eV (fun h1=>?_) (fun h1=>fin _ (bZ fun z=>by rw[bN z.1] at h1;cases h1).symm);refine⟨_,rfl,rK dv ⟨_,_,rfl,rfl,_,rfl,?_⟩⟩;refine Bv (m:=(w:Int)) (fun Q' q=>⟨_,rfl,x,Z.View,dx,_,_,rfl,hx,T.gA,T.fW,Dp _ _ _,q⟩) (fin _ ?_);have h1':=cY h1;by_cases h2:0<=c.2/\c.2<(w:Int)
  ·rw[bN h2,bN (show inF zs.length w c from⟨h1',h2⟩)]
  ·rw[bZ h2,bZ (fun z:inF zs.length w c=>h2 z.2)]
theorem Hl{f:Addr}{fd:FuncData} (F:Fun K "is_closed" "is_closed" pW f fd) (T:Txt K mg Z) (jk:Df P w K mg base 1 "has_cell" ["view","cell"] (U6 K Z.View)):cg P w K mg base (CXE P w) 2 f fd ["view","cell"] (iB K Z.View):=by
 refine F.rok Ef (fun vs H Q E h=>?_) (fun cdv A outer s H vs Q E hr h=>?_)
 ·obtain⟨x,v,zs,w,c,rfl,_⟩:=h;rfl
 ·obtain⟨x,v,zs,w,c,rfl,vt,dv,hq⟩:=h;obtain⟨dx,l,hx,hl⟩:=vt.ob;have hu:=mQ hr;refine⟨_,(aC (aY (Hw (aV jk hr rfl aW (aj (rv 0) (aj (rv 1) ak))) (Hy (wU (lO.or (lM (K:=K) hu)) (dO (dN (K:=K)) (dO (dN (K:=K)) (pI (K:=K) (rv 0)) (dO (dN (K:=K)) (rv 1) aH)) (dO (dN (K:=K)) (rv 1) aH)) (Tj T.gj rfl) (cu _)))))),?_⟩;refine⟨_,rfl,_,rfl,x,v,zs,w,c,rfl,vt,dv,_,rfl,?_⟩;unfold aR at hq;refine eV (fun h1=>?_) (fun h1=>?_)
  ·rw[h1,sJ] at hq;obtain⟨⟨a1,a2⟩,⟨a3,a4⟩⟩:=cY h1;have e1:c.1=((c.1.toNat:Nat):Int):=by lia
   have e2:c.2=((c.2.toNat:Nat):Int):=by lia
   have i1:c.1.toNat<zs.length:=by lia
   refine⟨_,rfl,x,Z.View,dx,_,_,rfl,hx,T.gA,T.iJ,Rh _ _ _,_,rfl,rJ dv ?_⟩;rw[e1];refine Tq (SqL.of hl) i1 ⟨_,rfl,rK dv ?_⟩;rw[e2];refine MP (SqL.of hl) vt.vw.toRect i1 (by lia) (.inl ⟨rfl,?_⟩);have es:decide (V.str ⟨#[codeAt zs (c.1.toNat,c.2.toNat)]⟩=V.str "#")=decide (codeAt zs (c.1.toNat,c.2.toNat)=35):=by
    congr 1;apply propext;have eh:("#" : Str)=⟨#[35]⟩:=by decide +kernel
    rw[eh]
    constructor
    ·intro z;simpa using z
    ·intro z;rw[z]
   rw[es];exact hq
  ·rw[h1,Ad] at hq;exact hq
theorem Hh{f:Addr}{fd:FuncData} (F:Fun K "cells" "cells" Eb f fd) (T:Txt K mg Z):cg P w K mg base (CXE P w) 1 f fd ["view"] (rQ K Z.View):=by
 refine F.rok uo (fun vs H Q E h=>?_) (fun cdv A outer s H vs Q E hr h=>?_)
 ·obtain⟨x,zs,w,rfl,_⟩:=h;rfl
 ·obtain⟨x,zs,w,rfl,vt,hq⟩:=h;have z6:=vt.vw.le;have w6:=vt.vw.w6;have l36:zs.length*w<=6*6:=lX z6 w6;refine⟨_,(au (aP (i:=1) uo.nd rfl (Or.inl rfl) (cX ak)) (au (cJ dW rfl (fK rfl T.gw (aj (pI (K:=K) (rv 0)) ak)) (aZ (i:=2) uo.nd rfl (Or.inl rfl)) (aC (cJ dW rfl (fK rfl T.gw (aj (pI (K:=K) (rv 0)) ak)) (aZ (i:=3) uo.nd rfl (Or.inl rfl)) (aC (gU (mU (K:=K) lW oK oM eE (rv 1) (aj (dR (aj (rv 2) (aj (rv 3) ak))) ak))))))) (aC (aY (rv 1))))),?_⟩;refine aF (fun zzs H1=>∃ q,H q=none/\Same H H1/\H1 q=some (.lst [])/\zzs=[zzR x,zzR q,zzN,zzN]) (fun R hR=>?_) ?_
  ·exact⟨by decide,fun q hq'=>hR _ _ ⟨q,hq',Same.put hq',aD,rfl⟩⟩
  rintro zzs H1 ⟨q,nq,s1,hq1,rfl⟩;refine aF (fun zzs H2=>∃(v2 v3:Option V),Fr K H H2 q ((bI zs.length w).map aA)/\zzs=[zzR x,zzR q,v2,v3]) (fun R hR=>?_) ?_
  ·obtain⟨dx,l,hx,hl⟩:=(vt.mono s1).ob;refine⟨_,rfl,x,Z.View,dx,_,_,rfl,hx,T.gA,T.eZ,yP _ _ _,_,rfl,by lia,by lia,?_⟩;rw[je];refine dZ (lo:=0) (n:=zs.length) (fun i zzs H2=>∃(v2 v3:Option V),Same H H2/\Ls K H2 q ((bI i w).map aA)/\zzs=[zzR x,zzR q,v2,v3]) ⟨none,none,s1,⟨[],hq1,.nil⟩,rfl⟩ (fun i zzs H2 hi hh=>?_) (fun zzs H2 hh=>?_)
   ·obtain⟨v2,v3,g1,g2,rfl⟩:=hh;obtain⟨dx,l,hx,hl⟩:=(vt.mono g1).ob;refine⟨_,rfl,x,Z.View,dx,_,_,rfl,hx,T.gA,T.fW,Dp _ _ _,_,rfl,by lia,by lia,?_⟩;rw[je];refine dZ (lo:=0) (n:=w) (fun j zzs H2=>∃ v3:Option V,Same H H2/\Ls K H2 q ((bI i w++(List.range j).map fun c:Nat=>((i:Int),(c:Int))).map aA)/\zzs=[zzR x,zzR q,zzI (0+i),v3]) ⟨v3,g1,by simpa using g2,rfl⟩ (fun j zzs H2 hj hh=>?_) (fun zzs H2 hh=>?_)
    ·obtain⟨v3,g1,⟨xs,ex,D⟩,rfl⟩:=hh;have step:bI i w++(List.range (j+1)).map (fun c:Nat=>((i:Int),(c:Int)))=(bI i w++(List.range j).map fun c:Nat=>((i:Int),(c:Int)))++[((i:Int),(j:Int))]:=by
      rw[xJ,dU,<- xq];rfl
     have ll:=D.length;rw[aU,dB,dY,aU,qY] at ll;have hl2:i*w<=6*6:=lX (by lia) w6;refine⟨_,rfl,.inl ⟨rfl,_,SqL.of ex⟩,_,rfl,_,rfl,sz rfl,fun t ht=>?_⟩;have st:=Same.put (o:=.tup [V.int (0+i),V.int (0+j)]) ht;refine⟨q,xs,_,rfl,rfl,st _ _ ex,ltl (by lia),?_⟩;refine⟨_,(SameBut.refl q _).put.of (g1.trans st) nq,⟨xs++[.ref t],aD,?_⟩,rfl⟩;rw[step,dU];refine((SameBut.refl q _).put.cells (st _ _ ex) (D.mono st)).append (.cons ((SameBut.refl q _).put.cell (st _ _ ex) ?_) .nil);rw[ni,ni];exact gW
    ·obtain⟨v3,g1,g2,rfl⟩:=hh;exact⟨_,_,g1,by rw[nT];exact g2,rfl⟩
   ·obtain⟨v2,v3,g1,g2,rfl⟩:=hh;exact hR _ _ ⟨v2,v3,⟨g1,nq,g2⟩,rfl⟩
  rintro zzs H2 ⟨v2,v3,fr,rfl⟩;exact⟨_,rfl,hq q H2 fr⟩
end
end My
namespace My
open PySem L2
def oF(K:ao)(C:Addr)(g:List Str->Nat->Cell->List Cell):Sp:=fun vs H Q _=>∃(x:Addr)(v:V)(zs:List Str)(w:Nat)(c:Cell),vs=[.ref x,v]/\dM C H x zs w/\Den K H v (aA c)/\inF zs.length w c/\∀ q H',Fr K H H' q ((g zs w c).map aA)->Q (.ref q) H'
def oE(K:ao)(C:Addr)(g:List Str->Nat->List Cell):Sp:=fun vs H Q _=>∃(x:Addr)(zs:List Str)(w:Nat),vs=[.ref x]/\dM C H x zs w/\∀ q H',Fr K H H' q ((g zs w).map aA)->Q (.ref q) H'
def bJ(zs:List Str)(w:Nat):List Cell:=(bQ zs w).filter fun x=>decide (0<(aL zs w x).length)
def jQ(zs:List Str)(w:Nat):List Cell:=(bQ zs w).filter fun x=>decide ((aL zs w x).length=0)
theorem eG{zs:List Str}{w:Nat}(v:Vw zs w):(bQ zs w).length<=36:=by
 have h1:(bQ zs w).length<=(bI zs.length w).length:=iK _ _;rw[dY] at h1;have h2:zs.length*w<=6*6:=lX v.le v.w6;lia
theorem uc(zs:List Str)(w:Nat)(x:Cell):(aL zs w x).length<=8:=cP (iK _ _) (iI _ _ _)
theorem Z0(a b:Cell):(!eqD (aA a) (aA b))=!decide (a=b):=by rw[Gx]
theorem Mr(a:Int):(if(0:Int)>a then(0:Int) else a)=max a 0:=by by_cases h:(0:Int)>a<;>simp only[h,wG,qj]<;>lia
theorem Ms(a b:Int):(if b<a then b else a)=min a b:=by by_cases h:b<a<;>simp only[h,wG,qj]<;>lia
theorem RM{a:Int}(h:a<=6):0<=max a 0/\max a 0<=6:=⟨Int.le_max_right _ _,Int.max_le.mpr ⟨h,by decide⟩⟩
theorem RP{a b:Int}(h:0<=a)(h0:0<=b)(h2:b<=6):0<=min a b/\min a b<=6:=⟨Int.le_min.mpr ⟨h,h0⟩,Int.le_trans (Int.min_le_right _ _) h2⟩
theorem Tv{i j:Int}(a:0<=i/\i<=6)(b:0<=j/\j<=6) : -(2^62)<=i/\i<2^62 /\ -(2^62)<=j/\j<2^62:=⟨by lia,by omega,by lia,by omega⟩
theorem QW{a b:Int}{i:Nat}(ha:0<=a)(hb:b<=6)(h:i<(b-a).toNat):i<6:=by lia
theorem YQ{a b:Int}(ha:0<=a)(hb:b<=6):(b-a).toNat<=6:=by lia
theorem a1Q{a b n:Nat}(h1:a<=n*6)(h2:b<=6):a+b<=(n+1)*6:=by lia
theorem a1n{a b i j:Nat}(h1:a<=i*6)(h2:b<=j)(hi:i<6)(hj:j<6):a+b<=100:=by lia
section
variable{P:Program}{w:World}{K:ao}{mg:Str->Option Value}{base:Heap}{Z:Adr}
theorem Sh{f:Addr}{fd:FuncData} (F:Fun K "near" "near" JT f fd) (T:Txt K mg Z) (jk:Df P w K mg base 1 "has_cell" ["view","cell"] (U6 K Z.View)):cg P w K mg base (CXE P w) 2 f fd ["view","cell"] (Ej K Z.View Z.NoCell):=by
 refine F.HN yc (fun vs H Q E h=>?_) (fun cdv A outer s H vs Q E hr h=>?_)
 ·obtain⟨x,v,zs,w,c,rfl,_⟩:=h;rfl
 ·obtain⟨x,v,zs,w,c,rfl,vt,dv,hq,hE⟩:=h;have hu:=mQ hr;have hd:=GC hr;have z6:=vt.vw.le;have w6:=vt.vw.w6;refine⟨_,(au (fL (RT.nox (o7 (m9 (aV jk hr rfl aW (aj (rv 0) (aj (rv 1) ak)))))) (aC (jB T.lC rfl T.pB hd (aj kW ak))) bV) (au (RS.nox (aP (i:=2) yc.nd rfl (Or.inl rfl) (cX ak))) (au (RS.nox (cJ dW rfl (Ck rfl T.gw (aj (bf (Bp rfl) rfl T.QC QJ (aj (cT JF (dO (dN (K:=K)) (rv 1) aH) aH) (aj aH ak))) (aj (bf (Br rfl) rfl T.QD QK (aj (cT c7 (dO (dN (K:=K)) (rv 1) aH) aH) (aj (pI (K:=K) (rv 0)) ak))) ak))) (aZ (i:=3) yc.nd rfl (Or.inl rfl)) (aC (cJ dW rfl (Ck rfl T.gw (aj (bf (Bp rfl) rfl T.QC QJ (aj (cT JF (dO (dN (K:=K)) (rv 1) aH) aH) (aj aH ak))) (aj (bf (Br rfl) rfl T.QD QK (aj (cT c7 (dO (dN (K:=K)) (rv 1) aH) aH) (aj (pI (K:=K) (rv 0)) ak))) ak))) (aZ (i:=4) yc.nd rfl (Or.inl rfl)) (aC (fL (bM (MF.or (Ml (K:=K) hu)) (dR (aj (rv 3) (aj (rv 4) ak))) (rv 1) (cu _)) (aC (gU (mU (K:=K) lW oK oM eE (rv 2) (aj (dR (aj (rv 3) (aj (rv 4) ak))) ak)))) bV)))))) (aC (RS.nox (aY (rv 2))))))),?_⟩;refine aF (fun zzs H1=>inF zs.length w c/\Same H H1/\zzs=[zzR x,some v,zzN,zzN,zzN]) (fun R hR=>?_) ?_
  ·refine⟨_,rfl,_,rfl,x,v,zs,w,c,rfl,vt,dv,_,rfl,?_⟩;refine eV (fun h1=>⟨by decide,hE (jD (by simpa only[qp] using h1)) H (Same.refl _)⟩) (fun h1=>hR _ _ ⟨cY (by simpa only[Aq] using h1),Same.refl _,rfl⟩)
  rintro zzs H1 ⟨hin,s1,rfl⟩;have hq':=hq hin;rw[<- SX z6 w6 hin] at hq';obtain⟨⟨c1,c2⟩,⟨c3,c4⟩⟩:=id hin;refine aF (fun zzs H2=>∃ q,H q=none/\Same H H2/\H2 q=some (.lst [])/\zzs=[zzR x,some v,zzR q,zzN,zzN]) (fun R hR=>?_) ?_
  ·exact⟨by decide,fun q hq'=>hR _ _ ⟨q,s1.free hq',s1.and hq',aD,rfl⟩⟩
  rintro zzs H2 ⟨q,nq,s2,hq2,rfl⟩;have m1:(if(0:Int)>c.1-1 then(0:Int) else c.1-1)=max (c.1-1) 0:=Mr _;have m2:(if(zs.length:Int)<c.1+2 then(zs.length:Int) else c.1+2)=min (c.1+2) zs.length:=Ms _ _;have m3:(if(0:Int)>c.2-1 then(0:Int) else c.2-1)=max (c.2-1) 0:=Mr _;have m4:(if(w:Int)<c.2+2 then(w:Int) else c.2+2)=min (c.2+2) w:=Ms _ _;have bx1:=RM (a:=c.1-1) (by lia);have bx2:=RM (a:=c.2-1) (by lia);have bn1:=RP (a:=c.1+2) (b:=(zs.length:Int)) (by lia) (by lia) (by lia);have bn2:=RP (a:=c.2+2) (b:=(w:Int)) (by lia) (by lia) (by lia);refine aF (fun zzs H3=>∃(v3 v4:Option V),Fr K H H3 q ((JK zs.length w c).map aA)/\zzs=[zzR x,some v,zzR q,v3,v4]) (fun R hR=>?_) ?_
  ·obtain⟨dx,l,hx,hl⟩:=(vt.mono s2).ob;refine⟨_,rfl,rJ (dv.mono s2) ⟨_,_,rfl,rfl,_,_,rfl,?_⟩⟩;refine⟨_,rfl,rJ (dv.mono s2) ⟨_,rfl,x,Z.View,dx,_,_,rfl,hx,T.gA,T.eZ,yP _ _ _,_,_,rfl,_,_,rfl,?_⟩⟩;rw[m1,m2];refine⟨Tv bx1 bn1,?_⟩;refine dZ (lo:=max (c.1-1) 0) (n:=(min (c.1+2) (zs.length:Int)-max (c.1-1) 0).toNat) (fun i zzs H3=>∃(v3 v4:Option V),Same H H3/\Ls K H3 q ((nZ w c (max (c.1-1) 0) i).map aA)/\zzs=[zzR x,some v,zzR q,v3,v4]) ⟨none,none,s2,⟨[],hq2,.nil⟩,rfl⟩ (fun i zzs H3 hi hh=>?_) (fun zzs H3 hh=>?_)
   ·obtain⟨v3,v4,g1,g2,rfl⟩:=hh;obtain⟨dx,l,hx,hl⟩:=(vt.mono g1).ob;refine⟨_,rfl,rK (dv.mono g1) ⟨_,_,rfl,rfl,_,_,rfl,?_⟩⟩;refine⟨_,rfl,rK (dv.mono g1) ⟨_,rfl,x,Z.View,dx,_,_,rfl,hx,T.gA,T.fW,Dp _ _ _,_,_,rfl,_,_,rfl,?_⟩⟩;rw[m3,m4];refine⟨Tv bx2 bn2,?_⟩;have base0:nZ w c (max (c.1-1) 0) (i+1)=nZ w c (max (c.1-1) 0) i++xX w c (max (c.1-1) 0+(i:Int)):=by
     unfold nZ;rw[xJ,zW];simp
    have pl:∀ n,(nZ w c (max (c.1-1) 0) n).length<=n*6:=by
     intro n
     induction n with
     |zero=>simp[nZ]
     |succ n ih=>
      unfold nZ at ih ⊢;rw[xJ,zW,dB];have:([n].flatMap fun k:Nat=>xX w c (max (c.1-1) 0+(k:Int))).length<=6:=by
       simp only[uG,List.flatMap_nil,xG];unfold xX;refine cP (iK _ _) ?_;rw[aU,qY];exact YQ bx2.1 bn2.2
      exact a1Q ih this
    refine dZ (lo:=max (c.2-1) 0) (n:=(min (c.2+2) (w:Int)-max (c.2-1) 0).toNat) (fun j zzs H3=>∃ v4:Option V,Same H H3/\Ls K H3 q ((nZ w c (max (c.1-1) 0) i++((List.range j).map fun k:Nat=>(max (c.1-1) 0+(i:Int),max (c.2-1) 0+(k:Int))).filter fun y=>!decide (y=c)).map aA)/\zzs=[zzR x,some v,zzR q,zzI (max (c.1-1) 0+(i:Int)),v4])
     ⟨v4,g1,by simpa using g2,rfl⟩ (fun j zzs H3 hj hh=>?_) (fun zzs H3 hh=>?_)
    ·obtain⟨v4,g1,⟨xs,ex,D⟩,rfl⟩:=hh;have step:∀ b:Bool,b=!decide ((max (c.1-1) 0+(i:Int),max (c.2-1) 0+(j:Int))=c)->(((List.range (j+1)).map fun k:Nat=>(max (c.1-1) 0+(i:Int),max (c.2-1) 0+(k:Int))).filter fun y=>!decide (y=c))=(((List.range j).map fun k:Nat=>(max (c.1-1) 0+(i:Int),max (c.2-1) 0+(k:Int))).filter fun y=>!decide (y=c))++(if b=true then [(max (c.1-1) 0+(i:Int),max (c.2-1) 0+(j:Int))] else []):=by
      intro b hb;rw[xJ,dU,xg,cZ,Fx,wj,List.filter_nil,<- hb]
     have ll:xs.length<=100:=by
      rw[D.length,aU,dB];have:=pl i;have h2:(((List.range j).map fun k:Nat=>(max (c.1-1) 0+(i:Int),max (c.2-1) 0+(k:Int))).filter fun y=>!decide (y=c)).length<=j:=cP (iK _ _) (by rw[aU,qY];exact bR _);exact a1n this h2 (QW bx1.1 bn1.2 hi) (QW bx2.1 bn2.2 hj)
     refine⟨_,rfl,_,rfl,sz rfl,fun t ht=>?_⟩;have st:=Same.put (o:=.tup [V.int (max (c.1-1) 0+(i:Int)),V.int (max (c.2-1) 0+(j:Int))]) ht;refine⟨_,rfl,.inr ⟨aA (max (c.1-1) 0+(i:Int),max (c.2-1) 0+(j:Int)),aA c,rfl,gW,dv.mono (g1.trans st),rfl,yM _,?_⟩⟩;refine⟨_,rfl,?_⟩;show if(!eqD _ _)=true then _ else _
     rw[Z0];refine eV (fun hb=>?_) (fun hb=>?_)
     ·refine⟨_,rfl,.inl ⟨rfl,_,SqL.of (st _ _ ex)⟩,_,rfl,_,rfl,sz rfl,fun t2 ht2=>?_⟩;have st2:=Same.put (o:=.tup [V.int (max (c.1-1) 0+(i:Int)),V.int (max (c.2-1) 0+(j:Int))]) ht2;have e2:=st2 _ _ (st _ _ ex);refine⟨q,xs,_,rfl,rfl,e2,ltl (Kv ll (by decide)),?_⟩;refine⟨_,(SameBut.refl q _).put.of (g1.trans (st.trans st2)) nq,⟨xs++[.ref t2],aD,?_⟩,rfl⟩;rw[step true hb.symm,<- xq,dU];exact((SameBut.refl q _).put.cells e2 (D.mono (st.trans st2))).append (.cons ((SameBut.refl q _).put.cell e2 gW) .nil)
     ·refine⟨_,g1.trans st,⟨xs,st _ _ ex,?_⟩,rfl⟩;rw[step false hb.symm];simpa using D.mono st
    ·obtain⟨v4,g1,g2,rfl⟩:=hh;exact⟨_,_,g1,by rw[base0];exact g2,rfl⟩
   ·obtain⟨v3,v4,g1,g2,rfl⟩:=hh;exact hR _ _ ⟨v3,v4,⟨g1,nq,g2⟩,rfl⟩
  rintro zzs H3 ⟨v3,v4,fr,rfl⟩;exact⟨_,rfl,hq' q H3 fr⟩
theorem Ho{f:Addr}{fd:FuncData} (F:Fun K "open_near" "open_near" pY f fd) (T:Txt K mg Z) (uP:Df P w K mg base 2 "near" ["view","cell"] (Ej K Z.View Z.NoCell)) (bC:Df P w K mg base 2 "is_closed" ["view","cell"] (iB K Z.View)) :
  cg P w K mg base (CXE P w) 3 f fd ["view","cell"] (oF K Z.View aL):=by
 refine F.rok Eh (fun vs H Q E h=>?_) (fun cdv A outer s H vs Q E hr h=>?_)
 ·obtain⟨x,v,zs,w,c,rfl,_⟩:=h;rfl
 ·obtain⟨x,v,zs,w,c,rfl,vt,dv,hin,hq⟩:=h;refine⟨_,(aC (aY (jr (by rfl) rfl (bx (K:=K) (aV uP hr rfl aW (aj (rv 0) (aj (rv 1) ak)))) (fun _ _ _=>(gR (o7 (m9 (aV bC hr rfl aW (aj (rv 1) (aj (rv 0) ak))))))) (fun _ _ _=>(rv 0))))),?_⟩;refine⟨_,rfl,_,rfl,x,v,zs,w,c,rfl,vt,dv,fun _ q H1 fr=>?_,fun z=>absurd hin z⟩;obtain⟨xs,ex,D⟩:=fr.ls;refine⟨q,rfl,⟨_,SqL.of ex⟩,fZ (K:=K) (xs:=dF zs.length w c) (enc:=aA) (cA (SqL.of ex)) D (small (by have:=iI zs.length w c;lia)) (fun y=>!aR zs w y) aA (fun y hy u H2 s2 d G hG=>?_) (fun y hy _ u H2 s2 d G hG=>⟨_,rfl,hG _ _ (Same.refl _) d⟩) (fun ys H2 s2 D2 q2 hq2=>?_)⟩
  ·exact⟨_,rfl,_,rfl,x,u,zs,w,y,rfl,vt.mono (fr.same.trans s2),d,_,rfl,hG _ (Same.refl _)⟩
  ·exact hq q2 _ ⟨fr.same.trans (s2.and hq2),(fr.same.trans s2).free hq2,.new hq2 D2⟩
theorem Bd{f:Addr}{fd:FuncData} (F:Fun K "closed_near" "closed_near" mz f fd) (T:Txt K mg Z) (uP:Df P w K mg base 2 "near" ["view","cell"] (Ej K Z.View Z.NoCell)) (bC:Df P w K mg base 2 "is_closed" ["view","cell"] (iB K Z.View)) :
  cg P w K mg base (CXE P w) 3 f fd ["view","cell"] (oF K Z.View aB):=by
 refine F.rok zB (fun vs H Q E h=>?_) (fun cdv A outer s H vs Q E hr h=>?_)
 ·obtain⟨x,v,zs,w,c,rfl,_⟩:=h;rfl
 ·obtain⟨x,v,zs,w,c,rfl,vt,dv,hin,hq⟩:=h;refine⟨_,(aC (aY (jr (by rfl) rfl (bx (K:=K) (aV uP hr rfl aW (aj (rv 0) (aj (rv 1) ak)))) (fun _ _ _=>(gR (m9 (aV bC hr rfl aW (aj (rv 1) (aj (rv 0) ak)))))) (fun _ _ _=>(rv 0))))),?_⟩;refine⟨_,rfl,_,rfl,x,v,zs,w,c,rfl,vt,dv,fun _ q H1 fr=>?_,fun z=>absurd hin z⟩;obtain⟨xs,ex,D⟩:=fr.ls;refine⟨q,rfl,⟨_,SqL.of ex⟩,fZ (K:=K) (xs:=dF zs.length w c) (enc:=aA) (cA (SqL.of ex)) D (small (by have:=iI zs.length w c;lia)) (fun y=>aR zs w y) aA (fun y hy u H2 s2 d G hG=>?_) (fun y hy _ u H2 s2 d G hG=>⟨_,rfl,hG _ _ (Same.refl _) d⟩) (fun ys H2 s2 D2 q2 hq2=>?_)⟩
  ·exact⟨_,rfl,_,rfl,x,u,zs,w,y,rfl,vt.mono (fr.same.trans s2),d,_,rfl,hG _ (Same.refl _)⟩
  ·exact hq q2 _ ⟨fr.same.trans (s2.and hq2),(fr.same.trans s2).free hq2,.new hq2 D2⟩
theorem Py{f:Addr}{fd:FuncData} (F:Fun K "closed" "closed" zp f fd) (T:Txt K mg Z) (qy:Df P w K mg base 1 "cells" ["view"] (rQ K Z.View)) (bC:Df P w K mg base 2 "is_closed" ["view","cell"] (iB K Z.View)) :
  cg P w K mg base (CXE P w) 3 f fd ["view"] (oE K Z.View bQ):=by
 refine F.rok Qf (fun vs H Q E h=>?_) (fun cdv A outer s H vs Q E hr h=>?_)
 ·obtain⟨x,zs,w,rfl,_⟩:=h;rfl
 ·obtain⟨x,zs,w,rfl,vt,hq⟩:=h;have l36:zs.length*w<=6*6:=lX vt.vw.le vt.vw.w6;refine⟨_,(aC (aY (jr (by rfl) rfl (bx (K:=K) (aV qy hr rfl aW (aj (rv 0) ak))) (fun _ _ _=>(gR (m9 (aV bC hr rfl aW (aj (rv 1) (aj (rv 0) ak)))))) (fun _ _ _=>(rv 0))))),?_⟩;refine⟨_,rfl,x,zs,w,rfl,vt,fun q H1 fr=>?_⟩;obtain⟨xs,ex,D⟩:=fr.ls;refine⟨q,rfl,⟨_,SqL.of ex⟩,fZ (K:=K) (xs:=bI zs.length w) (enc:=aA) (cA (SqL.of ex)) D (small (by rw[dY];lia)) (aR zs w) aA (fun y hy u H2 s2 d G hG=>?_) (fun y hy _ u H2 s2 d G hG=>⟨_,rfl,hG _ _ (Same.refl _) d⟩) (fun ys H2 s2 D2 q2 hq2=>?_)⟩
  ·exact⟨_,rfl,_,rfl,x,u,zs,w,y,rfl,vt.mono (fr.same.trans s2),d,_,rfl,hG _ (Same.refl _)⟩
  ·exact hq q2 _ ⟨fr.same.trans (s2.and hq2),(fr.same.trans s2).free hq2,.new hq2 D2⟩
theorem Sg{f:Addr}{fd:FuncData} (F:Fun K "edge" "edge" JR f fd) (T:Txt K mg Z) (iQ:Df P w K mg base 3 "closed" ["view"] (oE K Z.View bQ)) (cF:Df P w K mg base 3 "open_near" ["view","cell"] (oF K Z.View aL)) :
  cg P w K mg base (CXE P w) 4 f fd ["view"] (oE K Z.View bJ):=by
 refine F.rok Xp (fun vs H Q E h=>?_) (fun cdv A outer s H vs Q E hr h=>?_)
 ·obtain⟨x,zs,w,rfl,_⟩:=h;rfl
 ·obtain⟨x,zs,w,rfl,vt,hq⟩:=h;have l36:=eG vt.vw;refine⟨_,(aC (aY (jr (by rfl) rfl (bx (K:=K) (aV iQ hr rfl aW (aj (rv 0) ak))) (fun _ _ _=>(gR (bM Hs (bf (fu (K:=K)) rfl T.eF cH (aj (aV cF hr rfl aW (aj (rv 1) (aj (rv 0) ak))) ak)) aH (cu _)))) (fun _ _ _=>(rv 0))))),?_⟩;refine⟨_,rfl,x,zs,w,rfl,vt,fun q H1 fr=>?_⟩;obtain⟨xs,ex,D⟩:=fr.ls;refine⟨q,rfl,⟨_,SqL.of ex⟩,fZ (K:=K) (xs:=bQ zs w) (enc:=aA) (cA (SqL.of ex)) D (small (by lia)) (fun y=>decide (0<(aL zs w y).length)) aA (fun y hy u H2 s2 d G hG=>?_) (fun y hy _ u H2 s2 d G hG=>⟨_,rfl,hG _ _ (Same.refl _) d⟩) (fun ys H2 s2 D2 q2 hq2=>?_)⟩
  ·refine⟨_,rfl,_,rfl,x,u,zs,w,y,rfl,vt.mono (fr.same.trans s2),d,dI.mp (cB.mp hy).1,fun q3 H3 f3=>?_⟩;obtain⟨ws,e3,D3⟩:=f3.ls;refine .inl ⟨q3,_,rfl,.inl (SqL.of e3),_,_,rfl,rfl,_,rfl,?_⟩;rw[D3.length,aU];have e:decide ((0:Int)<((aL zs w y).length:Nat))=decide (0<(aL zs w y).length):=by congr 1;apply propext;omega
   rw[e];exact hG _ f3.same
  ·exact hq q2 _ ⟨fr.same.trans (s2.and hq2),(fr.same.trans s2).free hq2,.new hq2 D2⟩
theorem Wu{f:Addr}{fd:FuncData} (F:Fun K "far" "far" TQ f fd) (T:Txt K mg Z) (iQ:Df P w K mg base 3 "closed" ["view"] (oE K Z.View bQ)) (cF:Df P w K mg base 3 "open_near" ["view","cell"] (oF K Z.View aL)) :
  cg P w K mg base (CXE P w) 4 f fd ["view"] (oE K Z.View jQ):=by
 refine F.rok a0z (fun vs H Q E h=>?_) (fun cdv A outer s H vs Q E hr h=>?_)
 ·obtain⟨x,zs,w,rfl,_⟩:=h;rfl
 ·obtain⟨x,zs,w,rfl,vt,hq⟩:=h;have l36:=eG vt.vw;have hu:=mQ hr;refine⟨_,(aC (aY (jr (by rfl) rfl (bx (K:=K) (aV iQ hr rfl aW (aj (rv 0) ak))) (fun _ _ _=>(gR (bM (lO.or (lM (K:=K) hu)) (bf (fu (K:=K)) rfl T.eF cH (aj (aV cF hr rfl aW (aj (rv 1) (aj (rv 0) ak))) ak)) aH (cu _)))) (fun _ _ _=>(rv 0))))),?_⟩;refine⟨_,rfl,x,zs,w,rfl,vt,fun q H1 fr=>?_⟩;obtain⟨xs,ex,D⟩:=fr.ls;refine⟨q,rfl,⟨_,SqL.of ex⟩,fZ (K:=K) (xs:=bQ zs w) (enc:=aA) (cA (SqL.of ex)) D (small (by lia)) (fun y=>decide ((aL zs w y).length=0)) aA (fun y hy u H2 s2 d G hG=>?_) (fun y hy _ u H2 s2 d G hG=>⟨_,rfl,hG _ _ (Same.refl _) d⟩) (fun ys H2 s2 D2 q2 hq2=>?_)⟩
  ·refine⟨_,rfl,_,rfl,x,u,zs,w,y,rfl,vt.mono (fr.same.trans s2),d,dI.mp (cB.mp hy).1,fun q3 H3 f3=>?_⟩;obtain⟨ws,e3,D3⟩:=f3.ls;refine .inl ⟨q3,_,rfl,.inl (SqL.of e3),.inl ⟨rfl,_,rfl,?_⟩⟩;rw[D3.length,aU,tE];have e:decide (((aL zs w y).length:Int)=0)=decide ((aL zs w y).length=0):=by congr 1;apply propext;lia
   rw[e];exact hG _ f3.same
  ·exact hq q2 _ ⟨fr.same.trans (s2.and hq2),(fr.same.trans s2).free hq2,.new hq2 D2⟩
end
end My
namespace My
open PySem L2
end My
namespace My
open PySem L2
theorem BK{K:ao}{H:Hp}{m:Cell}:∀ {wt:List Cell} {xs:List V},aN K H xs ((wt++[m]).map aA)->∃ ys u,xs=ys++[u]/\aN K H ys (wt.map aA)/\Den K H u (aA m)
 |[],xs,D=>by
  cases D with
  |cons h t=>
   cases t
   exact⟨[],_,rfl,.nil,h⟩
 |c::wt,xs,D=>by
  cases D with
  |cons h t=>
   obtain⟨ys,u,rfl,a,b⟩:=BK (wt:=wt) t;exact⟨_::ys,u,rfl,.cons h a,b⟩
theorem Iu{a b:List Cell}(h1:a.Pairwise bK)(h2:b.Pairwise bK)(hm:∀ y,y∈a↔y∈b):a=b:=by
 have pm:a.Perm b:=(Kc (iY h1) (iY h2)).mpr hm;refine List.Perm.eq_of_pairwise (le:=bK) (fun x y _ _ h1 h2=>?_) h1 h2 pm;unfold bK at h1 h2;lia
def zH(K:ao)(C:Addr):Sp:=fun vs H Q _=>∃(x:Addr)(v:V)(zs:List Str)(w:Nat)(c:Cell),vs=[.ref x,v]/\dM C H x zs w/\Den K H v (aA c)/\inF zs.length w c/\aR zs w c=false/\Q (.int (iG zs c)) H
section
variable{P:Program}{w:World}{K:ao}{mg:Str->Option Value}{base:Heap}{Z:Adr}
theorem Jy{f:Addr}{fd:FuncData} (F:Fun K "figure" "figure" zq f fd) (T:Txt K mg Z):cg P w K mg base (CXE P w) 1 f fd ["view","cell"] (zH K Z.View):=by
 refine F.rok Qg (fun vs H Q E h=>?_) (fun cdv A outer s H vs Q E hr h=>?_)
 ·obtain⟨x,v,zs,w,c,rfl,_⟩:=h;rfl
 ·obtain⟨x,v,zs,w,c,rfl,vt,dv,hin,hc,hq⟩:=h;obtain⟨dx,l,hx,hl⟩:=vt.ob;have dg:=vt.vw.digit hin hc;refine⟨_,(aC (aY (uh O4 rfl T.Qz QH (aj (dO (dN (K:=K)) (dO (dN (K:=K)) (pI (K:=K) (rv 0)) (dO (dN (K:=K)) (rv 1) aH)) (dO (dN (K:=K)) (rv 1) aH)) ak)))),?_⟩;obtain⟨⟨a1,a2⟩,⟨a3,a4⟩⟩:=id hin;have e1:c.1=((c.1.toNat:Nat):Int):=by lia
  have e2:c.2=((c.2.toNat:Nat):Int):=by lia
  have i1:c.1.toNat<zs.length:=by lia
  refine⟨_,rfl,x,Z.View,dx,_,_,rfl,hx,T.gA,T.iJ,Rh _ _ _,_,rfl,rJ dv ?_⟩;rw[e1];refine Tq (SqL.of hl) i1 ⟨_,rfl,rK dv ?_⟩;rw[e2];exact MP (SqL.of hl) vt.vw.toRect i1 (by lia) ⟨_,rfl,dg.1,by lia,hq⟩
end
end My
namespace My
open PySem L2
inductive iy(zs:List Str)(w:Nat)(c:Cell):Cell->Prop
 |base:iy zs w c c
 |step {x t y:Cell}:iy zs w c x->t∈aL zs w x->y∈aB zs w t->iy zs w c y
theorem qW{zs:List Str}{w:Nat}{t y:Cell}(h:y∈aB zs w t):inF zs.length w y/\aR zs w y=true:=by
 unfold aB at h;obtain⟨h1,h2⟩:=cB.mp h;exact⟨tY h1,h2⟩
theorem Ht{zs:List Str}{w:Nat}{t y:Cell}(h:y∈aL zs w t):inF zs.length w y:=by
 unfold aL at h;exact tY (cB.mp h).1
theorem iy.inF{zs:List Str}{w:Nat}{c y:Cell}(h0:L2.inF zs.length w c)(r:iy zs w c y):L2.inF zs.length w y:=by
 cases r with
 |base=>exact h0
 |step _ _ h=>exact(qW h).1
def cR(cs:List Cell):List (List Key×V):=cs.map fun c=>(kE c,V.bl true)
theorem mH(c:Cell):∀ cs:List Cell,ux (cR cs) (kE c)=if c∈cs then some (.bl true) else none
 |[]=>rfl
 |a::cs=>by
  show ux ((kE a,V.bl true)::cR cs) (kE c)=_;by_cases e:a=c
  ·subst e;rw[uD rfl,aK cG]
  ·rw[uz (fun z=>e (Rx z)),mH c cs];by_cases m:c∈cs
   ·rw[aK m,aK (dw _ m)]
   ·rw[aG m,aG (fun z=>(cL.mp z).elim (fun q=>e q.symm) m)]
theorem BL(cs:List Cell)(c:Cell)(nc:c∉cs):putK (cR cs) (kE c) (.bl true)=cR (cs++[c]):=by
 rw[T9 _ (by rw[mH,aG nc])];unfold cR;rw[dU];rfl
structure p7(zs:List Str)(w:Nat)(c:Cell)(fd wt:List Cell):Prop where
 nd:fd.Nodup
 has:c∈fd
 rch:∀ y∈fd,iy zs w c y
 sub:∀ y∈wt,y∈fd
 cl:∀ x∈fd,x∉wt->∀ t∈aL zs w x,∀ y∈aB zs w t,y∈fd
 ln:wt.length<=fd.length
theorem p7.len{zs:List Str}{w:Nat}{c:Cell}{fd wt:List Cell}(j:p7 zs w c fd wt)(h0:inF zs.length w c)(h6:zs.length<=6)(w6:w<=6):fd.length<=36:=by
 have:=kO (l2:=bI zs.length w) j.nd fun y hy=>dI.mpr ((j.rch y hy).inF h0)
 rw[dY] at this;have:zs.length*w<=6*6:=lX h6 w6;lia
theorem p7.done{zs:List Str}{w:Nat}{c:Cell}{fd:List Cell}(j:p7 zs w c fd [])(y:Cell):y∈fd↔iy zs w c y:=by
 refine⟨j.rch y,fun r=>?_⟩
 induction r with
 |base=>exact j.has
 |step _ ht hy ih=>exact j.cl _ ih (by intro z;cases z) _ ht _ hy
structure JoP(zs:List Str)(w:Nat)(c m:Cell)(fd wt:List Cell)(Dn:Cell->Prop):Prop where
 nd:fd.Nodup
 has:c∈fd
 rch:∀ y∈fd,iy zs w c y
 sub:∀ y∈wt,y∈fd
 hm:m∈fd
 cl:∀ x∈fd,x∉wt->x≠m->∀ t∈aL zs w x,∀ y∈aB zs w t,y∈fd
 ln:wt.length+1<=fd.length
 dn:∀ y,Dn y->y∈fd
theorem JoP.imp{zs:List Str}{w:Nat}{c m:Cell}{fd wt:List Cell}{Dn Dn':Cell->Prop}(j:JoP zs w c m fd wt Dn)(h:∀ y,Dn' y->y∈fd):JoP zs w c m fd wt Dn':=⟨j.nd,j.has,j.rch,j.sub,j.hm,j.cl,j.ln,h⟩
theorem JoP.add{zs:List Str}{w:Nat}{c m y:Cell}{fd wt:List Cell}{Dn:Cell->Prop}(j:JoP zs w c m fd wt Dn)(ny:y∉fd)(ry:iy zs w c y):JoP zs w c m (fd++[y]) (wt++[y]) Dn:=by
 refine⟨xr.mpr ⟨j.nd,by simp,fun a ha b hb e=>ny (by rw[<- dD.mp hb,<- e];exact ha)⟩,j7 _ j.has,fun x hx=>?_,fun x hx=>?_,j7 _ j.hm,fun x hx nx xm t ht z hz=>?_,?_,fun x hx=>j7 _ (j.dn x hx)⟩
 ·rcases cO.mp hx with q|q
  ·exact j.rch x q
  ·rw[dD.mp q];exact ry
 ·rcases cO.mp hx with q|q
  ·exact j7 _ (j.sub x q)
  ·exact j6 _ q
 ·rcases cO.mp hx with q|q
  ·exact j7 _ (j.cl x q (fun q2=>nx (j7 _ q2)) xm t ht z hz)
  ·exact absurd (j6 _ q) nx
 ·have:=j.ln;rw[dB,dB,qm];lia
theorem p7.pop{zs:List Str}{w:Nat}{c m:Cell}{fd wt:List Cell}(j:p7 zs w c fd (wt++[m])):JoP zs w c m fd wt (fun _=>False):=by
 refine⟨j.nd,j.has,j.rch,fun y hy=>j.sub y (j7 _ hy),j.sub m (j6 _ (dD.mpr rfl)),fun x hx nx xm=>j.cl x hx fun z=>?_,?_,fun y hy=>hy.elim⟩
 ·rcases cO.mp z with q|q
  ·exact nx q
  ·exact xm (dD.mp q)
 ·have:=j.ln;rw[dB,qm] at this;exact this
theorem JoP.inv{zs:List Str}{w:Nat}{c m:Cell}{fd wt:List Cell}{Dn:Cell->Prop}(j:JoP zs w c m fd wt Dn)(h:∀ t∈aL zs w m,∀ y∈aB zs w t,Dn y):p7 zs w c fd wt:=by
 refine⟨j.nd,j.has,j.rch,j.sub,fun x hx nx t ht y hy=>?_,cP (sV _) j.ln⟩;by_cases e:x=m
 ·subst e;exact j.dn y (h t ht y hy)
 ·exact j.cl x hx nx e t ht y hy
theorem JoP.len{zs:List Str}{w:Nat}{c m:Cell}{fd wt:List Cell}{Dn:Cell->Prop}(j:JoP zs w c m fd wt Dn)(h0:inF zs.length w c)(h6:zs.length<=6)(w6:w<=6):fd.length<=36:=by
 have:=kO (l2:=bI zs.length w) j.nd fun y hy=>dI.mpr ((j.rch y hy).inF h0)
 rw[dY] at this;have:zs.length*w<=6*6:=lX h6 w6;lia
def zJ(K:ao)(C:Addr):Sp:=fun vs H Q _=>∃(x:Addr)(v:V)(zs:List Str)(w:Nat)(c:Cell),vs=[.ref x,v]/\dM C H x zs w/\Den K H v (aA c)/\inF zs.length w c /\
 ∀(q:Addr)(H':Hp)(ds:List Cell),H q=none->Same H H'->Ls K H' q (ds.map aA)->ds.Pairwise bK->(∀ y,y∈ds↔iy zs w c y)->Q (.ref q) H'
section
variable{P:Program}{w:World}{K:ao}{mg:Str->Option Value}{base:Heap}{Z:Adr}
theorem PB{f:Addr}{fd:FuncData} (F:Fun K "joined" "joined" zy f fd) (T:Txt K mg Z) (cF:Df P w K mg base 3 "open_near" ["view","cell"] (oF K Z.View aL)) (cQ:Df P w K mg base 3 "closed_near" ["view","cell"] (oF K Z.View aB)) :
  cg P w K mg base (CXE P w) 4 f fd ["view","cell"] (zJ K Z.View):=by
 refine F.rok jW (fun vs H Q E h=>?_) (fun cdv A outer s H vs Q E hr h=>?_)
 ·obtain⟨x,v,zs,w,c,rfl,_⟩:=h;rfl
 ·obtain⟨x,v,zs,w,c,rfl,vt,dv,hin,hq⟩:=h;have hu:=mQ hr;have z6:=vt.vw.le;have w6:=vt.vw.w6;obtain⟨tv,rfl,_,htv⟩:=fH dv;refine⟨_,(au (aP (i:=2) jW.nd rfl (Or.inl rfl) (Xi hu (rv 1) z7)) (au (aP (i:=3) jW.nd rfl (Or.inl rfl) (cX (aj (rv 1) ak))) (au (zj dW (bM Hs (bf (fu (K:=K)) rfl T.eF cH (aj (rv 3) ak)) aH (cu _)) (au (aP (i:=4) jW.nd rfl (Or.inl rfl) (Zm (K:=K) lW PySem.F.slot_list_pop PySem.F.type_list_pop Zy (rv 3))) (aC (cJ dW rfl (bx (K:=K) (aV cF hr rfl aW (aj (rv 0) (aj (rv 4) ak)))) (aZ (i:=5) jW.nd rfl (Or.inl rfl)) (aC (cJ dW rfl (bx (K:=K) (aV cQ hr rfl aW (aj (rv 0) (aj (rv 5) ak)))) (aZ (i:=6) jW.nd rfl (Or.inl rfl)) (aC (fL (bM (u9 hu) (rv 6) (rv 2) (by rfl)) (au (vI z7 (Tt (rv 2) (rv 6) (set_dict hu))) (aC (gU (mU (K:=K) lW oK oM eE (rv 3) (aj (rv 6) ak))))) bV)))))))) (aC (aY (bf (Wa (K:=K) rfl hu) rfl T.sZ uV (aj (rv 2) ak))))))),?_⟩;refine aF (fun zzs H1=>∃ dd:Addr,H dd=none/\Same H H1/\H1 dd=some (.dT (cR [c]))/\zzs=[zzR x,zzR tv,zzR dd,zzN,zzN,zzN,zzN]) (fun R hR=>?_) ?_
  ·refine fun dd nd=>⟨_,rfl,kE c,tv,aD,rfl,?_,hR _ _ ⟨dd,nd,(SameBut.refl dd _).put.of (Same.put nd) nd,aD,rfl⟩⟩
   rw[bA (bG htv nd)];exact htv
  rintro zzs H1 ⟨dd,nd,s1,ed,rfl⟩;refine aF (fun zzs H2=>∃ wl:Addr,H wl=none/\wl≠dd/\Same H1 H2/\H2 wl=some (.lst [.ref tv])/\zzs=[zzR x,zzR tv,zzR dd,zzR wl,zzN,zzN,zzN]) (fun R hR=>?_) ?_
  ·exact⟨_,rfl,sz rfl,fun wl nwl=>hR _ _ ⟨wl,s1.free nwl,(bG ed nwl).symm,Same.put nwl,aD,rfl⟩⟩
  rintro zzs H2 ⟨wl,nwl,nwd,s2,ewl,rfl⟩;have start:p7 zs w c [c] [c]:=⟨by simp,dD.mpr rfl,fun y hy=>by rw[dD.mp hy];exact .base,fun y hy=>hy,fun x hx nx=>absurd hx nx,bR _⟩
  refine aF (fun zzs H3=>∃(fd:List Cell)(v4 v5 v6:Option V),Same H H3/\H3 dd=some (.dT (cR fd))/\p7 zs w c fd []/\zzs=[zzR x,zzR tv,zzR dd,zzR wl,v4,v5,v6]) (fun R hR=>?_) ?_
  ·refine⟨fun m zzs H'=>∃(fd wt:List Cell)(v4 v5 v6:Option V),Same H H'/\H' dd=some (.dT (cR fd))/\Ls K H' wl (wt.map aA)/\p7 zs w c fd wt/\m=(36-fd.length)*2+wt.length/\zzs=[zzR x,zzR tv,zzR dd,zzR wl,v4,v5,v6],
    ⟨_,[c],[c],none,none,none,s1.trans s2,s2 _ _ ed,⟨_,ewl,.cons (dv.mono (s1.trans s2)) .nil⟩,start,rfl,rfl⟩,?_⟩
   rintro m zzs H' ⟨fd,wt,v4,v5,v6,sh,ed',lw,ji,rfl,rfl⟩;obtain⟨xs,ex,D⟩:=id lw;have lx:xs.length=wt.length:=by rw[D.length,aU]
   have f36:=ji.len hin z6 w6;refine⟨_,rfl,.inl ⟨wl,_,rfl,.inl (SqL.of ex),_,_,rfl,rfl,_,rfl,?_⟩⟩;refine eV (fun hlt=>?_) (fun hlt=>?_)
   ·have hlt:(0:Int)<(xs.length:Int):=cY hlt;obtain⟨wt,m,rfl⟩:∃ wt' m,wt=wt'++[m]:=by
     rcases List.eq_nil_or_concat wt with z|⟨l,b,z⟩
     ·rw[z,wu] at lx;lia
     ·exact⟨l,b,by rw[z];simp⟩
    obtain⟨xs,u,rfl,Dx,du⟩:=BK D;obtain⟨tm,rfl,_,htm⟩:=fH du;have mfd:=ji.sub m (j6 _ (dD.mpr rfl));have a2v:=(ji.rch m mfd).inF hin;refine⟨fun bB H4=>∃(fd' wt':List Cell)(v4 v5 v6:Option V),Same H H4/\H4 dd=some (.dT (cR fd'))/\Ls K H4 wl (wt'.map aA)/\p7 zs w c fd' wt'/\(36-fd'.length)*2+wt'.length<(36-fd.length)*2+(wt++[m]).length/\bB=[zzR x,zzR tv,zzR dd,zzR wl,v4,v5,v6],fun bB H4 hx=>?_,?_⟩
    ·obtain⟨fd',wt',v4,v5,v6,a1,a2,a3,a4,a5,rfl⟩:=hx;exact⟨_,a5,fd',wt',v4,v5,v6,a1,a2,a3,a4,rfl,rfl⟩
    refine aF (fun zzs H4=>Same H H4/\H4 dd=some (.dT (cR fd))/\Ls K H4 wl (wt.map aA)/\Den K H4 (.ref tm) (aA m)/\zzs=[zzR x,zzR tv,zzR dd,zzR wl,zzR tm,v5,v6]) (fun R' hR'=>?_) ?_
    ·refine⟨_,rfl,.inl ⟨rfl,_,SqL.of ex⟩,wl,_,V.ref tm,rfl,rfl,ex,(by simp),?_⟩;rw[List.dropLast_concat];have sw:SameBut wl H' (upd H' wl (.lst xs)):=(SameBut.refl wl _).put;exact hR' _ _ ⟨sw.of sh nwl,sw _ _ ed' nwd.symm,⟨xs,aD,sw.cells ex Dx⟩,sw.cell ex du,rfl⟩
    rintro zzs H4 ⟨sh4,ed4,lw4,dm4,rfl⟩;have a2L:(wt++[m]).length=wt.length+1:=by rw[dB,qm]
    refine⟨_,rfl,_,rfl,x,_,zs,w,m,rfl,vt.mono sh4,dm4,a2v,fun q1 H5 f5=>?_⟩;obtain⟨ts,et,Dt'⟩:=f5.ls;have lt8:=uc zs w m;refine⟨q1,rfl,⟨_,SqL.of et⟩,?_⟩;have nq1:H q1=none:=sh4.free f5.new;refine dh (K:=K) (xs:=ts) (fun i zzs H6=>∃(fd' wt':List Cell)(v5 v6:Option V),Same H H6/\H6 q1=some (.lst ts)/\aN K H6 ts ((aL zs w m).map aA)/\H6 dd=some (.dT (cR fd'))/\Ls K H6 wl (wt'.map aA)/\JoP zs w c m fd' wt' (fun y=>∃ t∈(aL zs w m).take i,y∈aB zs w t)/\(36-fd'.length)*2+wt'.length<=(36-fd.length)*2+wt.length/\zzs=[zzR x,zzR tv,zzR dd,zzR wl,zzR tm,v5,v6])
     ⟨fd,wt,v5,v6,sh4.trans f5.same,et,Dt',f5.same _ _ ed4,lw4.mono f5.same,ji.pop.imp (fun y hy=>by obtain⟨t,ht,_⟩:=hy;cases ht),bR _,rfl⟩ (fun i zzs H6 _ hh=>by obtain⟨_,_,_,_,_,e,_⟩:=hh;exact SqL.of e) (fun i u zzs H6 hu' hh=>?_) (fun zzs H6 hh=>?_)
    ·obtain⟨fd1,wt1,v5,v6,sh6,et6,Dt6,ed6,lw6,jp,me,rfl⟩:=hh;obtain⟨dt,edt,du6⟩:=Dt6.get hu';rw[cU] at edt;obtain⟨t,etq,rfl⟩:=jC.mp edt;have a2a:t∈aL zs w m:=fB etq;refine⟨_,rfl,_,rfl,x,_,zs,w,t,rfl,vt.mono sh6,du6,Ht a2a,fun q2 H7 f7=>?_⟩;obtain⟨os,eo,Do⟩:=f7.ls;refine⟨q2,rfl,⟨_,SqL.of eo⟩,?_⟩;have los:os.length=(aB zs w t).length:=by rw[Do.length,aU]
     refine dh (K:=K) (xs:=os) (fun j zzs H8=>∃(fd' wt':List Cell)(v6:Option V),Same H H8/\H8 q1=some (.lst ts)/\aN K H8 ts ((aL zs w m).map aA)/\H8 q2=some (.lst os)/\aN K H8 os ((aB zs w t).map aA)/\H8 dd=some (.dT (cR fd'))/\Ls K H8 wl (wt'.map aA)/\JoP zs w c m fd' wt' (fun y=>(∃ t∈(aL zs w m).take i,y∈aB zs w t)\/y∈(aB zs w t).take j)/\(36-fd'.length)*2+wt'.length<=(36-fd.length)*2+wt.length/\zzs=[zzR x,zzR tv,zzR dd,zzR wl,zzR tm,some u,v6])
      ⟨fd1,wt1,v6,sh6.trans f7.same,f7.same _ _ et6,Dt6.mono f7.same,eo,Do,f7.same _ _ ed6,lw6.mono f7.same,jp.imp (fun y hy=>hy.elim (jp.dn y) (fun z=>by cases z)),me,rfl⟩ (fun j zzs H8 _ hh=>by obtain⟨_,_,_,_,_,_,e,_⟩:=hh;exact SqL.of e) (fun j o zzs H8 ho hh=>?_) (fun zzs H8 hh=>?_)
     ·obtain⟨fd2,wt2,v6,sh8,et8,Dt8,eo8,Do8,ed8,lw8,jp2,me2,rfl⟩:=hh;obtain⟨dy,edy,do8⟩:=Do8.get ho;rw[cU] at edy;obtain⟨y,ey,rfl⟩:=jC.mp edy;have a2M:y∈aB zs w t:=fB ey;obtain⟨ty,rfl,_,hty⟩:=fH do8;have key:H8 ty=some (.tup ((kE y).map kV)):=hty;have a2Q:=jp2.len hin z6 w6;have step:∀ z,(∃ t∈(aL zs w m).take i,z∈aB zs w t)\/z∈(aB zs w t).take (j+1)->((∃ t∈(aL zs w m).take i,z∈aB zs w t)\/z∈(aB zs w t).take j)\/z=y:=fun z hz=>by
       rcases hz with q|q
       ·exact .inl (.inl q)
       ·rw[jf,ey] at q;rcases cO.mp q with q|q
        ·exact .inl (.inr q)
        ·exact .inr (dD.mp q)
      refine⟨_,rfl,_,rfl,dd,_,rfl,NQ.t ed8 key,_,rfl,?_⟩;rw[mH];by_cases hf:y∈fd2
      ·rw[aK hf];exact tV ⟨fd2,wt2,_,sh8,et8,Dt8,eo8,Do8,ed8,lw8,jp2.imp (fun z hz=>(step z hz).elim (jp2.dn z) (fun e=>by rw[e];exact hf)),me2,rfl⟩
      ·rw[aG hf];refine yR ?_;have jp3:=jp2.add hf (.step (jp2.rch m jp2.hm) a2a a2M);have a1e:=jp3.len hin z6 w6;rw[dB,qm] at a1e;refine aF (fun zzs H9=>Same H H9/\H9 q1=some (.lst ts)/\aN K H9 ts ((aL zs w m).map aA)/\H9 q2=some (.lst os)/\aN K H9 os ((aB zs w t).map aA)/\H9 dd=some (.dT (cR (fd2++[y])))/\Ls K H9 wl (wt2.map aA)/\Den K H9 (.ref ty) (aA y)/\zzs=[zzR x,zzR tv,zzR dd,zzR wl,zzR tm,some u,zzR ty]) (fun R' hR'=>?_) ?_
       ·refine⟨_,rfl,_,rfl,dd,_,rfl,NT.t ed8 key (ltl (by unfold cR;rw[aU];lia)),?_⟩;rw[BL fd2 y hf];have sd:SameBut dd H8 (upd H8 dd (.dT (cR (fd2++[y])))):=(SameBut.refl dd _).put;have tp:FZ H8 (upd H8 dd (.dT (cR (fd2++[y])))):=.put ed8 (by intro xs z;cases z);obtain⟨ws,ew,Dw⟩:=lw8;exact hR' _ _ ⟨sd.of sh8 nd,sd _ _ et8 (pK et8 ed8 (by intro z;cases z)),tp.cells Dt8,sd _ _ eo8 (pK eo8 ed8 (by intro z;cases z)),tp.cells Do8,aD,⟨ws,sd _ _ ew nwd,tp.cells Dw⟩,tp.cell do8,rfl⟩
       rintro zzs H9 ⟨sh9,et9,Dt9,eo9,Do9,ed9,⟨ws,ew,Dw⟩,dy9,rfl⟩;have lws:ws.length=wt2.length:=by rw[Dw.length,aU]
       have ln2:=jp2.ln;have a2z:q1≠wl:=fun z=>by
        have e1:=f5.new;rw[z] at e1;obtain⟨_,e2,_⟩:=lw4;rw[e2] at e1;cases e1
       have a2A:q2≠wl:=fun z=>by
        have e1:=f7.new;rw[z] at e1;obtain⟨_,e2,_⟩:=lw6;rw[e2] at e1;cases e1
       refine⟨_,rfl,.inl ⟨rfl,_,SqL.of ew⟩,_,rfl,wl,ws,_,rfl,rfl,ew,ltl (by lia),?_⟩;have sw:SameBut wl H9 (upd H9 wl (.lst (ws++[V.ref ty]))):=(SameBut.refl wl _).put;refine⟨fd2++[y],wt2++[y],_,sw.of sh9 nwl,sw _ _ et9 a2z,sw.cells ew Dt9,sw _ _ eo9 a2A,sw.cells ew Do9,sw _ _ ed9 nwd.symm,⟨_,aD,?_⟩,jp3.imp (fun z hz=>(step z hz).elim (fun q=>j7 _ (jp2.dn z q)) (fun e=>j6 _ (dD.mpr e))),?_,rfl⟩
       ·rw[dU];exact(sw.cells ew Dw).append (.cons (sw.cell ew dy9) .nil)
       ·rw[dB,dB,qm];lia
     ·obtain⟨fd2,wt2,v6,sh8,et8,Dt8,eo8,Do8,ed8,lw8,jp2,me2,rfl⟩:=hh;refine⟨fd2,wt2,_,v6,sh8,et8,Dt8,ed8,lw8,jp2.imp (fun y hy=>?_),me2,rfl⟩;obtain⟨t',ht',hy'⟩:=hy;rw[jf,etq] at ht';rcases cO.mp ht' with q|q
      ·exact jp2.dn y (.inl ⟨t',q,hy'⟩)
      ·rw[dD.mp q] at hy';exact jp2.dn y (.inr (by rw[los,jE];exact hy'))
    ·obtain⟨fd1,wt1,v5,v6,sh6,et6,Dt6,ed6,lw6,jp,me,rfl⟩:=hh;have lts:ts.length=(aL zs w m).length:=by rw[Dt'.length,aU]
     refine⟨fd1,wt1,_,v5,v6,sh6,ed6,lw6,jp.inv fun t ht y hy=>⟨t,by rw[lts,jE];exact ht,hy⟩,by rw[a2L];lia,rfl⟩
   ·have hlt:¬(0:Int)<(xs.length:Int):=jD hlt;have:wt=[]:=Kf.mp (by lia);subst this;exact hR _ _ ⟨fd,v4,v5,v6,sh,ed',ji,rfl⟩
  rintro zzs H3 ⟨fd,v4,v5,v6,s3,ed3,ji,rfl⟩;have f36:=ji.len hin z6 w6;refine⟨_,rfl,dd,fd,fun _=>.bl true,rfl,ed3,by lia,fun l ws ds hn D' pc as=>?_⟩;exact hq l _ ds (s3.free hn) (s3.and hn) (.new hn D') (Iv as (pc.nodup_iff.mpr ji.nd)) fun y=>by rw[pc.mem_iff];exact ji.done y
end
open Classical in
noncomputable def cC(zs:List Str)(w:Nat)(c:Cell):List Cell:=(bI zs.length w).filter fun y=>decide (iy zs w c y)
open Classical in
theorem cM{zs:List Str}{w:Nat}{c y:Cell}(h0:inF zs.length w c):y∈cC zs w c↔iy zs w c y:=by
 unfold cC;rw[cB,dI,lE];exact⟨fun h=>h.2,fun h=>⟨h.inF h0,h⟩⟩
open Classical in
theorem mR{zs:List Str}{w:Nat}{c:Cell}(h6:zs.length<=6)(w6:w<=6):(cC zs w c).Pairwise bK:=by
 unfold cC;exact(vm zs.length (dH.mpr (by lia)) w (dH.mpr (by lia))).filter _
open Classical in
noncomputable def gB(zs:List Str)(w:Nat):List Cell->List (List Cell)->List (List Cell)
 |[],ps=>ps
 |c::cs,ps=>if ∃ p∈ps,c∈p then gB zs w cs ps else gB zs w cs (ps++[cC zs w c])
noncomputable def aO(zs:List Str)(w:Nat):List (List Cell):=gB zs w (bJ zs w) []
theorem Gu(cs:List Cell)(c:Cell)(hc:c∈cs):putK (cR cs) (kE c) (.bl true)=cR cs:=by
 unfold putK;have h1:((cR cs).any fun kv=>decide (kv.1=kE c))=true:=by
  rw[uy,mH,aK hc];rfl
 rw[aK h1];unfold cR;rw[qx];refine Am fun a _=>?_
 show(if kE a=kE c then(kE a,V.bl true) else(kE a,V.bl true))=(kE a,V.bl true);by_cases e:kE a=kE c
 ·rw[aK e]
 ·rw[aG e]
structure p8(K:ao)(H0 H:Hp)(q:Addr)(qs:List Addr)(ps:List (List Cell)):Prop where
 at_:H q=some (.lst (qs.map V.ref))
 len:qs.length=ps.length
 ls:∀(i:Nat)(a:Addr)(p:List Cell),qs[i]?=some a->ps[i]?=some p->Ls K H a (p.map aA)
 new:∀ a∈qs,H0 a=none
 nd:qs.Nodup
 nq:q∉qs
theorem p8.mono{K:ao}{H0 H H':Hp}{q:Addr}{qs:List Addr}{ps:List (List Cell)}(p:p8 K H0 H q qs ps)(s:Same H H'):p8 K H0 H' q qs ps:=⟨s _ _ p.at_,p.len,fun i a c h1 h2=>(p.ls i a c h1 h2).mono s,p.new,p.nd,p.nq⟩
theorem p8.snoc{K:ao}{H0 H:Hp}{q a:Addr}{qs:List Addr}{ps:List (List Cell)}{ds:List Cell}(p:p8 K H0 H q qs ps)(la:Ls K H a (ds.map aA))(na:H0 a=none)(n1:a∉qs)(n2:a≠q):p8 K H0 (upd H q (.lst (qs.map V.ref++[.ref a]))) q (qs++[a]) (ps++[ds]):=by
 have sb:SameBut q H (upd H q (.lst (qs.map V.ref++[.ref a]))):=(SameBut.refl q _).put;refine⟨by rw[aD,dU];rfl,by rw[dB,dB,p.len];rfl,fun i b c h1 h2=>?_,fun b hb=>?_,?_,fun z=>?_⟩
 ·by_cases hi:i<qs.length
  ·rw[Cu hi] at h1;rw[Cu (by rw[<- p.len];exact hi)] at h2;exact sb.ls p.at_ (fun z=>p.nq (by rw[<- z];exact fB h1)) (p.ls i b c h1 h2)
  ·rw[Aj (by lia)] at h1;rw[Aj (by rw[<- p.len];lia)] at h2;have e1:i-qs.length=0:=by
    by_cases z:i-qs.length=0
    ·exact z
    ·rw[zR (by rw[qm];lia)] at h1;cases h1
   rw[e1] at h1;rw[<- p.len,e1] at h2
   cases h1;cases h2
   exact sb.ls p.at_ n2 la
 ·rcases cO.mp hb with z|z
  ·exact p.new b z
  ·rw[dD.mp z];exact na
 ·exact xr.mpr ⟨p.nd,by simp,fun x hx y hy e=>n1 (by rw[<- dD.mp hy,<- e];exact hx)⟩
 ·rcases cO.mp z with y|y
  ·exact p.nq y
  ·exact n2 (dD.mp y).symm
def Nq(K:ao)(C:Addr):Sp:=fun vs H Q _=>∃(x:Addr)(zs:List Str)(w:Nat),vs=[.ref x]/\dM C H x zs w /\
 ∀(q:Addr)(qs:List Addr)(H':Hp),H q=none->Same H H'->p8 K H H' q qs (aO zs w)->Q (.ref q) H'
section
variable{P:Program}{w:World}{K:ao}{mg:Str->Option Value}{base:Heap}{Z:Adr}
theorem Sd{f:Addr}{fd:FuncData} (F:Fun K "parts" "parts" Ed f fd) (T:Txt K mg Z) (uK:Df P w K mg base 4 "edge" ["view"] (oE K Z.View bJ)) (mG:Df P w K mg base 4 "joined" ["view","cell"] (zJ K Z.View)) :
  cg P w K mg base (CXE P w) 5 f fd ["view"] (Nq K Z.View):=by
 refine F.rok mZ (fun vs H Q E h=>?_) (fun cdv A outer s H vs Q E hr h=>?_)
 ·obtain⟨x,zs,w,rfl,_⟩:=h;rfl
 ·obtain⟨x,zs,w,rfl,vt,hq⟩:=h;have hu:=mQ hr;have z6:=vt.vw.le;have w6:=vt.vw.w6;refine⟨_,(au (aP (i:=1) mZ.nd rfl (Or.inl rfl) (cX ak)) (au (aP (i:=2) mZ.nd rfl (Or.inl rfl) Xj) (au (cJ dW rfl (bx (K:=K) (aV uK hr rfl aW (aj (rv 0) ak))) (aZ (i:=3) mZ.nd rfl (Or.inl rfl)) (aC (fL (bM (u9 hu) (rv 3) (rv 2) (by rfl)) (au (aP (i:=4) mZ.nd rfl (Or.inl rfl) (aV mG hr rfl aW (aj (rv 0) (aj (rv 3) ak)))) (au (gU (mU (K:=K) lW oK oM eE (rv 1) (aj (rv 4) ak))) (aC (cJ dW rfl (bx (K:=K) (rv 4)) (aZ (i:=5) mZ.nd rfl (Or.inl rfl)) (aC (vI z7 (Tt (rv 2) (rv 5) (set_dict hu)))))))) bV))) (aC (aY (rv 1)))))),?_⟩;refine aF (fun zzs H1=>∃ q:Addr,H q=none/\Same H H1/\H1 q=some (.lst [])/\zzs=[zzR x,zzR q,zzN,zzN,zzN,zzN]) (fun R hR=>?_) ?_
  ·exact⟨by decide,fun q nq=>hR _ _ ⟨q,nq,Same.put nq,aD,rfl⟩⟩
  rintro zzs H1 ⟨q,nq,s1,eq1,rfl⟩;refine aF (fun zzs H2=>∃ dd:Addr,H dd=none/\dd≠q/\Same H1 H2/\H2 dd=some (.dT (cR []))/\zzs=[zzR x,zzR q,zzR dd,zzN,zzN,zzN]) (fun R hR=>?_) ?_
  ·exact fun dd nd=>hR _ _ ⟨dd,s1.free nd,(bG eq1 nd).symm,Same.put nd,aD,rfl⟩
  rintro zzs H2 ⟨dd,nd,ndq,s2,ed,rfl⟩;refine aF (fun zzs H3=>∃(qs:List Addr)(v3 v4 v5:Option V),Same H H3/\p8 K H H3 q qs (aO zs w)/\zzs=[zzR x,zzR q,zzR dd,v3,v4,v5]) (fun R hR=>?_) ?_
  ·refine⟨_,rfl,x,zs,w,rfl,vt.mono (s1.trans s2),fun eg H3 fr=>?_⟩;obtain⟨cs,ec,Dc⟩:=fr.ls;have lcs:cs.length=(bJ zs w).length:=by rw[Dc.length,aU]
   refine⟨eg,rfl,⟨_,SqL.of ec⟩,?_⟩;have neg:H eg=none:=(s1.trans s2).free fr.new;refine dh (K:=K) (xs:=cs) (fun i zzs H4=>∃(qs:List Addr)(ps:List (List Cell))(pl:List Cell)(v3 v4 v5:Option V),Same H H4/\H4 eg=some (.lst cs)/\aN K H4 cs ((bJ zs w).map aA)/\p8 K H H4 q qs ps/\H4 dd=some (.dT (cR pl))/\pl.Nodup/\(∀ y,y∈pl↔∃ p∈ps,y∈p)/\(∀ y∈pl,inF zs.length w y)/\gB zs w ((bJ zs w).drop i) ps=aO zs w/\eg≠q/\ps.length<=i/\zzs=[zzR x,zzR q,zzR dd,v3,v4,v5])
    ⟨[],[],[],none,none,none,s1.trans (s2.trans fr.same),ec,Dc,⟨fr.same _ _ (s2 _ _ eq1),rfl,fun i a p h=>(by cases h),fun a ha=>(by cases ha),Fq,fun z=>(by cases z)⟩,fr.same _ _ ed,Fq,fun y=>⟨fun z=>(by cases z),fun⟨p,hp,_⟩=>(by cases hp)⟩,fun y hy=>(by cases hy),rfl,fun z=>(by have:=fr.new;rw[z,s2 _ _ eq1] at this;cases this),bR _,rfl⟩
    (fun i zzs H4 _ hh=>by obtain⟨_,_,_,_,_,_,_,e,_⟩:=hh;exact SqL.of e) (fun i u zzs H4 hu' hh=>?_) (fun zzs H4 hh=>?_)
   ·obtain⟨qs,ps,pl,v3,v4,v5,sh,ec4,Dc4,pa,ed4,ndp,RN,inp,go,Wk,lps,rfl⟩:=hh;obtain⟨dc,edc,du⟩:=Dc4.get hu';rw[cU] at edc;obtain⟨c,ecq,rfl⟩:=jC.mp edc;have a2l:c∈bJ zs w:=fB ecq;have cin:inF zs.length w c:=dI.mp (cB.mp (cB.mp a2l).1).1;obtain⟨tc,rfl,_,htc⟩:=fH du;have key:H4 tc=some (.tup ((kE c).map kV)):=htc;have i36:i<36:=by
     have h1:=(j9.mp ecq).1;have h2:(bJ zs w).length<=(bQ zs w).length:=iK _ _;have h3:=eG vt.vw;lia
    have dr:(bJ zs w).drop i=c::(bJ zs w).drop (i+1):=by
     have h1:=(j9.mp ecq)
     rw[wX h1.1,h1.2]
    rw[dr] at go;refine⟨_,rfl,_,rfl,dd,_,rfl,NQ.t ed4 key,_,rfl,?_⟩;rw[mH];by_cases hp:c∈pl
    ·rw[aK hp];unfold gB at go;rw[aK ((RN c).mp hp)] at go;exact tV ⟨qs,ps,pl,_,v4,v5,sh,ec4,Dc4,pa,ed4,ndp,RN,inp,go,Wk,by lia,rfl⟩
    rw[aG hp];unfold gB at go;rw[aG (fun z=>hp ((RN c).mpr z))] at go;refine yR ?_;refine aF (fun zzs H5=>∃ a:Addr,H4 a=none/\Same H4 H5/\Ls K H5 a ((cC zs w c).map aA)/\zzs=[zzR x,zzR q,zzR dd,zzR tc,zzR a,v5]) (fun R' hR'=>?_) ?_
    ·refine⟨_,rfl,_,rfl,x,_,zs,w,c,rfl,vt.mono sh,du,cin,fun a H5 ds na s5 la as mm=>?_⟩;have e:ds=cC zs w c:=Iu as (mR z6 w6) fun y=>by rw[mm y,cM cin]
     rw[e] at la;exact hR' _ _ ⟨a,na,s5,la,rfl⟩
    rintro zzs H5 ⟨a,na,s5,la,rfl⟩;have pa5:=pa.mono s5;have na0:H a=none:=sh.free na;have naq:a≠q:=fun z=>by rw[z] at na;rw[pa.at_] at na;cases na
    have a2w:a∉qs:=fun z=>by
     obtain⟨j,hj⟩:=zT z;have hj':j<ps.length:=by rw[<- pa.len];exact(j9.mp hj).1
     obtain⟨_,e,_⟩:=pa.ls j a ps[j] hj (by simp[hj']);rw[e] at na;cases na
    have a2Y:dd≠q:=ndq;have lqs:qs.length<=36:=by rw[pa.len];lia
    refine aF (fun zzs H6=>Same H H6/\H6 eg=some (.lst cs)/\aN K H6 cs ((bJ zs w).map aA)/\p8 K H H6 q (qs++[a]) (ps++[cC zs w c])/\Ls K H6 a ((cC zs w c).map aA)/\H6 dd=some (.dT (cR pl))/\zzs=[zzR x,zzR q,zzR dd,zzR tc,zzR a,v5]) (fun R' hR'=>?_) ?_
    ·refine⟨_,rfl,.inl ⟨rfl,_,SqL.of pa5.at_⟩,_,rfl,q,_,_,rfl,rfl,pa5.at_,ltl (by rw[aU];lia),?_⟩;have sb:SameBut q H5 (upd H5 q (.lst (qs.map V.ref++[V.ref a]))):=(SameBut.refl q _).put;exact hR' _ _ ⟨sb.of (sh.trans s5) nq,sb _ _ (s5 _ _ ec4) Wk,sb.cells pa5.at_ (Dc4.mono s5),pa5.snoc la na0 a2w naq,sb.ls pa5.at_ naq la,sb _ _ (s5 _ _ ed4) ndq,rfl⟩
    rintro zzs H6 ⟨sh6,ec6,Dc6,pa6,la6,ed6,rfl⟩;obtain⟨ms,em,Dm⟩:=id la6;have lms:ms.length=(cC zs w c).length:=by rw[Dm.length,aU]
    refine⟨_,rfl,a,rfl,⟨_,SqL.of em⟩,?_⟩;refine dh (K:=K) (xs:=ms) (fun j zzs H7=>∃(pl':List Cell)(v5:Option V),Same H H7/\H7 eg=some (.lst cs)/\aN K H7 cs ((bJ zs w).map aA)/\p8 K H H7 q (qs++[a]) (ps++[cC zs w c])/\H7 a=some (.lst ms)/\aN K H7 ms ((cC zs w c).map aA)/\H7 dd=some (.dT (cR pl'))/\pl'.Nodup/\(∀ y,y∈pl'↔(y∈pl\/y∈(cC zs w c).take j))/\(∀ y∈pl',inF zs.length w y)/\zzs=[zzR x,zzR q,zzR dd,zzR tc,zzR a,v5])
     ⟨pl,v5,sh6,ec6,Dc6,pa6,em,Dm,ed6,ndp,fun y=>⟨.inl,fun z=>z.elim id (fun z=>by cases z)⟩,inp,rfl⟩ (fun j zzs H7 _ hh=>by obtain⟨_,_,_,_,_,_,e,_⟩:=hh;exact SqL.of e) (fun j o zzs H7 ho hh=>?_) (fun zzs H7 hh=>?_)
    ·obtain⟨pl',v5,sh7,ec7,Dc7,pa7,em7,Dm7,ed7,nd7,Zt,in7,rfl⟩:=hh;obtain⟨dy,edy,do7⟩:=Dm7.get ho;rw[cU] at edy;obtain⟨y,ey,rfl⟩:=jC.mp edy;obtain⟨ty,rfl,_,hty⟩:=fH do7;have a2s:H7 ty=some (.tup ((kE y).map kV)):=hty;have yj:y∈cC zs w c:=fB ey;have yin:inF zs.length w y:=((cM cin).mp yj).inF cin;have l36:pl'.length<=36:=by
      have:=kO (l2:=bI zs.length w) nd7 fun y hy=>dI.mpr (in7 y hy)
      rw[dY] at this;have:zs.length*w<=6*6:=lX z6 w6;lia
     have tk:∀ z,z∈(cC zs w c).take (j+1)↔(z∈(cC zs w c).take j\/z=y):=fun z=>by
      rw[jf,ey,cO];simp
     refine⟨_,rfl,_,rfl,dd,_,rfl,NT.t ed7 a2s (ltl (by unfold cR;rw[aU];lia)),?_⟩;have mk:∀ pl2:List Cell,pl2.Nodup->(∀ z,z∈pl2↔(z∈pl'\/z=y))->∃(pl':List Cell)(v5:Option V),Same H (upd H7 dd (.dT (cR pl2)))/\(upd H7 dd (.dT (cR pl2))) eg=some (.lst cs)/\aN K (upd H7 dd (.dT (cR pl2))) cs ((bJ zs w).map aA)/\p8 K H (upd H7 dd (.dT (cR pl2))) q (qs++[a]) (ps++[cC zs w c])/\(upd H7 dd (.dT (cR pl2))) a=some (.lst ms)/\aN K (upd H7 dd (.dT (cR pl2))) ms ((cC zs w c).map aA)/\(upd H7 dd (.dT (cR pl2))) dd=some (.dT (cR pl'))/\pl'.Nodup/\(∀ y,y∈pl'↔(y∈pl\/y∈(cC zs w c).take (j+1)))/\(∀ y∈pl',inF zs.length w y)/\[some (V.ref x),some (.ref q),some (.ref dd),some (.ref tc),some (.ref a),some (.ref ty)]=[zzR x,zzR q,zzR dd,zzR tc,zzR a,v5]:=fun pl2 n2 m2=>by
      have sd:SameBut dd H7 (upd H7 dd (.dT (cR pl2))):=(SameBut.refl dd _).put;have tp:FZ H7 (upd H7 dd (.dT (cR pl2))):=.put ed7 (by intro xs z;cases z);refine⟨pl2,_,sd.of sh7 nd,sd _ _ ec7 (pK ec7 ed7 (by intro z;cases z)),tp.cells Dc7,⟨sd _ _ pa7.at_ (pK pa7.at_ ed7 (by intro z;cases z)),pa7.len,fun i b p h1 h2=>?_,pa7.new,pa7.nd,pa7.nq⟩,sd _ _ em7 (pK em7 ed7 (by intro z;cases z)),tp.cells Dm7,aD,n2,fun z=>?_,fun z hz=>?_,rfl⟩
      ·obtain⟨ws,ew,Dw⟩:=pa7.ls i b p h1 h2;exact⟨ws,sd _ _ ew (pK ew ed7 (by intro z;cases z)),tp.cells Dw⟩
      ·rw[m2 z,Zt z,tk z,or_assoc]
      ·rcases(m2 z).mp hz with q|q
       ·exact in7 z q
       ·rw[q];exact yin
     by_cases hy:y∈pl'
     ·rw[Gu pl' y hy];exact mk pl' nd7 fun z=>⟨.inl,fun q=>q.elim id (fun e=>by rw[e];exact hy)⟩
     ·rw[BL pl' y hy];refine mk (pl'++[y]) (xr.mpr ⟨nd7,by simp,fun a ha b hb e=>hy (by rw[<- dD.mp hb,<- e];exact ha)⟩) fun z=>?_
      rw[cO,dD]
    ·obtain⟨pl',v5,sh7,ec7,Dc7,pa7,em7,Dm7,ed7,nd7,Zt,in7,rfl⟩:=hh;refine⟨qs++[a],ps++[cC zs w c],pl',_,_,v5,sh7,ec7,Dc7,pa7,ed7,nd7,fun y=>?_,in7,go,Wk,by rw[dB,qm];lia,rfl⟩;rw[Zt y,lms,jE,RN y]
     constructor
     ·rintro(⟨p,hp,hy⟩|hy)
      ·exact⟨p,j7 _ hp,hy⟩
      ·exact⟨_,j6 _ (dD.mpr rfl),hy⟩
     ·rintro⟨p,hp,hy⟩;rcases cO.mp hp with z|z
      ·exact .inl ⟨p,z,hy⟩
      ·rw[dD.mp z] at hy;exact .inr hy
   ·obtain⟨qs,ps,pl,v3,v4,v5,sh,ec4,Dc4,pa,ed4,ndp,RN,inp,go,Wk,lps,rfl⟩:=hh;rw[lcs,List.drop_length] at go;have e:ps=aO zs w:=go;exact hR _ _ ⟨qs,v3,v4,v5,sh,by rw[<- e];exact pa,rfl⟩
  rintro zzs H3 ⟨qs,v3,v4,v5,s3,pa,rfl⟩;exact⟨_,rfl,hq q qs _ nq s3 pa⟩
end
end My
namespace My
open PySem L2
theorem S5:∀ d∈offs,(-d.1,-d.2)∈offs:=by decide
theorem mV{h w:Int}{x y:Cell}(hy:y∈dF h w x)(hx:inF h w x):x∈dF h w y:=by
 unfold dF at hy ⊢;obtain⟨h1,_⟩:=cB.mp hy;obtain⟨d,hd,rfl⟩:=bW.mp h1;refine cB.mpr ⟨bW.mpr ⟨_,S5 d hd,?_⟩,bN hx⟩;exact jN (by show x.1+d.1 + -d.1=x.1;lia) (by show x.2+d.2 + -d.2=x.2;lia)
theorem qL{zs:List Str}{w:Nat}{x:Cell}:x∈bJ zs w↔aR zs w x=true/\∃ t,t∈aL zs w x:=by
 unfold bJ;rw[cB,tD,O5,lE];refine and_congr_right fun _=>?_
 constructor
 ·intro h
  cases e:aL zs w x with
  |nil=>rw[e] at h;exact absurd h (qu _)
  |cons t ts=>exact⟨t,cG⟩
 ·rintro⟨t,ht⟩;exact Vc ht
theorem gZ{zs:List Str}{w:Nat}{x:Cell}(h:x∈bJ zs w):inF zs.length w x:=by
 have:=(qL.mp h).1;unfold aR at this;rw[oR] at this;exact cY this.1
theorem Q6{zs:List Str}{w:Nat}(h6:zs.length<=6)(w6:w<=6):(bJ zs w).Pairwise bK:=by
 unfold bJ bQ;exact((vm zs.length (dH.mpr (by lia)) w (dH.mpr (by lia))).filter _).filter _
theorem xK{zs:List Str}{w:Nat}{t y:Cell}(hin:inF zs.length w t)(ho:aR zs w t=false)(hy:y∈aB zs w t):y∈bJ zs w:=by
 unfold aB at hy;obtain⟨h1,h2⟩:=cB.mp hy;refine qL.mpr ⟨h2,t,?_⟩;unfold aL;exact cB.mpr ⟨mV h1 hin,by rw[ho];rfl⟩
theorem gY{zs:List Str}{w:Nat}{x t:Cell}(h:t∈aL zs w x):inF zs.length w t/\aR zs w t=false/\t∈dF zs.length w x:=by
 unfold aL at h;obtain⟨h1,h2⟩:=cB.mp h;exact⟨tY h1,by simpa using h2,h1⟩
theorem iy.trans{zs:List Str}{w:Nat}{a b c:Cell}(r1:iy zs w a b)(r2:iy zs w b c):iy zs w a c:=by
 induction r2 with
 |base=>exact r1
 |step _ h1 h2 ih=>exact .step ih h1 h2
theorem iy.Wn{zs:List Str}{w:Nat}{t x y:Cell}(hin:L2.inF zs.length w t)(ho:aR zs w t=false)(hx:x∈dF zs.length w t)(hy:y∈dF zs.length w t)(cy:aR zs w y=true):iy zs w x y:=by
 refine .step .base (t:=t) ?_ ?_
 ·unfold aL;exact cB.mpr ⟨mV hx hin,by rw[ho];rfl⟩
 ·unfold aB;exact cB.mpr ⟨hy,cy⟩
theorem iy.symm{zs:List Str}{w:Nat}{a b:Cell}(ca:aR zs w a=true)(ia:L2.inF zs.length w a)(r:iy zs w a b):iy zs w b a:=by
 induction r with
 |base=>exact .base
 |@step x t y rx ht hy ih=>
  obtain⟨tin,Us,tx⟩:=gY ht;have xin:=rx.inF ia;have cx:aR zs w x=true:=by
   cases rx with
   |base=>exact ca
   |step _ _ h=>exact(qW h).2
  unfold aB at hy;obtain⟨h1,h2⟩:=cB.mp hy;exact(iy.Wn tin Us h1 (mV tx xin) cx).trans ih
theorem iy.edge{zs:List Str}{w:Nat}{a b:Cell}(ha:a∈bJ zs w)(r:iy zs w a b):b∈bJ zs w:=by
 cases r with
 |base=>exact ha
 |step _ ht hy=>
  obtain⟨tin,Us,_⟩:=gY ht;exact xK tin Us hy
end My
namespace My
open PySem L2
end My
namespace My
open PySem L2
def layAt(p:Nat->List Cell->Bool)(ps:List Cell):Nat->List (List Cell)
 |0=>[[]]
 |k+1=>(layAt p ps k++(layAt p ps k).map (·++[ps.getD k (0,0)])).filter (p k)
def upto(ps:List Cell)(k:Nat)(l:List Cell):List Cell:=l.filter fun y=>decide (y∈ps.take k)
theorem Ii{ps l:List Cell}{k:Nat}(h:∀ y∈l,y∈ps.take k):upto ps k l=l:=by
 unfold upto;exact Eu.mpr fun y hy=>bN (h y hy)
theorem getD_at{ps:List Cell}{k:Nat}(hk:k<ps.length):ps.getD k (0,0)=ps[k]:=by
 rw[dX,ig hk];rfl
theorem jw{ps:List Cell}{k:Nat}(hk:k<ps.length):ps.take (k+1)=ps.take k++[ps.getD k (0,0)]:=by
 rw[jf,ig hk,getD_at hk];rfl
theorem wN{ps:List Cell}(nd:ps.Nodup){k:Nat}(hk:k<ps.length):ps.getD k (0,0)∉ps.take k:=by
 intro h;have h2:(ps.take k++[ps.getD k (0,0)]).Nodup:=by rw[<- jw hk];exact nd.sublist (List.take_sublist _ _)
 exact(xr.mp h2).2.2 _ h _ (dD.mpr rfl) rfl
theorem Qm{ps:List Cell}{i j:Nat}(h:i<=j){y:Cell}(hy:y∈ps.take i):y∈ps.take j:=by
 have e:ps.take i=(ps.take j).take i:=by rw[List.take_take,Nat.min_eq_left h]
 rw[e] at hy;exact zU hy
theorem vA{p:Nat->List Cell->Bool}{ps:List Cell}(nd:ps.Nodup):∀ k,k<=ps.length->∀ l,l∈layAt p ps k↔(l.Sublist (ps.take k)/\∀ j,j<k->p j (upto ps (j+1) l)=true)
 |0,_,l=>by
  unfold layAt;rw[dD,Ld,List.sublist_nil];exact⟨fun h=>⟨h,fun j hj=>absurd hj (by lia)⟩,fun h=>h.1⟩
 |k+1,hk,l=>by
  have ih:=vA (p:=p) nd k (by lia);unfold layAt;have hk':k<ps.length:=by lia
  have nin:=wN nd hk';rw[cB,jw hk'];have a1R:∀ l':List Cell,l'.Sublist (ps.take k)->∀ j,j<k->upto ps (j+1) (l'++[ps.getD k (0,0)])=upto ps (j+1) l':=fun l' _ j hj=>by
   unfold upto;rw[xg];have:[ps.getD k (0,0)].filter (fun y=>decide (y∈ps.take (j+1)))=[]:=by
    rw[wj,aG (by rw[bZ (fun z=>nin (Qm (by lia) z))];exact fM)];rfl
   rw[this,xG]
  constructor
  ·rintro⟨hl,hp⟩;have all:∀ l':List Cell,l'.Sublist (ps.take k++[ps.getD k (0,0)])->upto ps (k+1) l'=l':=fun l' h'=>Ii fun y hy=>by rw[jw hk'];exact h'.subset hy
   rcases cO.mp hl with z|z
   ·obtain⟨h1,h2⟩:=(ih l).mp z;have hs:l.Sublist (ps.take k++[ps.getD k (0,0)]):=h1.trans (V6 _ _);refine⟨hs,fun j hj=>?_⟩;by_cases e:j=k
    ·subst e;rw[all l hs];exact hp
    ·exact h2 j (by lia)
   ·obtain⟨l',m',rfl⟩:=bW.mp z;obtain⟨h1,h2⟩:=(ih l').mp m';have hs:(l'++[ps.getD k (0,0)]).Sublist (ps.take k++[ps.getD k (0,0)]):=h1.append (KH _);refine⟨hs,fun j hj=>?_⟩;by_cases e:j=k
    ·subst e;rw[all _ hs];exact hp
    ·rw[a1R l' h1 j (by lia)];exact h2 j (by lia)
  ·rintro⟨hs,hp⟩;have hpk:=hp k (by lia);rw[Ii (fun y hy=>by rw[jw hk'];exact hs.subset hy)] at hpk;refine⟨?_,hpk⟩;obtain⟨l1,l2,e,s1,s2⟩:=List.sublist_append_iff.mp hs;subst e;have:l2=[]\/l2=[ps.getD k (0,0)]:=by
    cases l2 with
    |nil=>exact .inl rfl
    |cons a l2=>
     right;exact s2.eq_of_length_le (by simp)
   rcases this with rfl|rfl
   ·refine j7 _ ((ih _).mpr ⟨by simpa using s1,fun j hj=>hp j (by lia)⟩)
   ·refine j6 _ (bW.mpr ⟨l1,(ih l1).mpr ⟨s1,fun j hj=>?_⟩,rfl⟩);have:=hp j (by lia);rwa[a1R l1 s1 j hj] at this
theorem wL{p:Nat->List Cell->Bool}{ps:List Cell}(nd:ps.Nodup):∀ k,k<=ps.length->(layAt p ps k).Nodup
 |0,_=>by unfold layAt;simp
 |k+1,hk=>by
  have ih:=wL (p:=p) nd k (by lia);unfold layAt;refine Kw Ao (xr.mpr ⟨ih,?_,fun a ha b hb e=>?_⟩)
  ·exact Fd.mpr (ih.imp fun h e=>h (List.append_cancel_right e))
  ·obtain⟨b',_,rfl⟩:=bW.mp hb;subst e;have:=((vA nd k (by lia) _).mp ha).1;exact wN nd (by lia) (this.subset (by simp))
theorem qH(p:Nat->List Cell->Bool)(ps:List Cell):∀ k,(layAt p ps k).length<=2^k
 |0=>bR _
 |k+1=>by
  unfold layAt;refine cP (iK _ _) ?_;rw[dB,aU,Nat.pow_succ];have:=qH p ps k;lia
theorem qI{p:Nat->List Cell->Bool}{ps:List Cell}:∀ k,∀ l∈layAt p ps k,l.length<=k
 |0,l,h=>by unfold layAt at h;rw[dD.mp h];exact bR _
 |k+1,l,h=>by
  unfold layAt at h;rcases cO.mp (cB.mp h).1 with z|z
  ·have:=qI k l z;lia
  ·obtain⟨l',m',rfl⟩:=bW.mp z;have:=qI k l' m';rw[dB,qm];lia
def rC(N l:List Cell):Nat:=(N.filter fun y=>decide (y∈l)).length
def mO(N:List Cell)(f:Int)(rest:Nat)(l:List Cell):Bool:=decide ((rC N l:Int)<=f)&&decide (f<=(rC N l:Int)+rest)
def yx(N:List Cell)(c:Cell):Nat:=(N.filter fun y=>gV c y).length
def pP(zs:List Str)(w:Nat)(ps:List Cell)(k:Nat)(l:List Cell):Bool:=
 (aL zs w (ps.getD k (0,0))).all fun t=>mO (aB zs w t) (iG zs t) (yx (aB zs w t) (ps.getD k (0,0))) l
def GJ(N ps:List Cell)(k:Nat):Nat:=(N.filter fun y=>decide (y∈ps.drop (k+1))).length
theorem M7{N:List Cell}{a b c:Cell->Bool}(h:∀ y∈N,a y=true->b y=true\/c y=true):(N.filter a).length<=(N.filter b).length+(N.filter c).length:=by
 induction N with
 |nil=>simp
 |cons y N ih=>
  have ih':=ih fun z hz=>h z (dw _ hz)
  have hy:=h y cG;simp only[wj]
  cases ha:a y<;>cases hb:b y<;>cases hc:c y<;>simp_all<;>lia
theorem Oq{N:List Cell}{a b:Cell->Bool}(h:∀ y∈N,a y=true->b y=true):(N.filter a).length<=(N.filter b).length:=by
 have:=M7 (N:=N) (a:=a) (b:=b) (c:=fun _=>false) fun y hy hz=>.inl (h y hy hz)
 have e:N.filter (fun _=>false)=[]:=zP.mpr fun _ _=>fM
 rw[e] at this;simpa using this
theorem Ot{N:List Cell}{a:Cell->Bool}(h:∀ y∈N,a y=false):(N.filter a).length=0:=by
 rw[zP.mpr fun y hy=>by rw[h y hy];exact fM];rfl
theorem BP{N:List Cell}{a b:Cell->Bool}(h:∀ y∈N,a y=b y):(N.filter a).length=(N.filter b).length:=by rw[KC h]
section
variable{zs:List Str}{w:Nat}{ps:List Cell}
structure Part(zs:List Str)(w:Nat)(ps:List Cell):Prop where
 asc:ps.Pairwise bK
 ne:ps≠[]
 cl:∀ x∈ps,aR zs w x=true/\inF zs.length w x
 all:∀ x∈ps,∀ t∈aL zs w x,∀ y∈aB zs w t,y∈ps
theorem Part.join{c:Cell}(h6:zs.length<=6)(w6:w<=6)(hc:c∈bJ zs w):Part zs w (cC zs w c):=by
 have hin:=gZ hc;refine⟨mR h6 w6,fun z=>?_,fun x hx=>?_,fun x hx t ht y hy=>?_⟩
 ·have:c∈cC zs w c:=(cM hin).mpr .base;rw[z] at this;cases this
 ·have:=iy.edge hc ((cM hin).mp hx);exact⟨(qL.mp this).1,gZ this⟩
 ·exact(cM hin).mpr (.step ((cM hin).mp hx) ht hy)
theorem Part.nd(p:Part zs w ps):ps.Nodup:=iY p.asc
theorem Part.near(p:Part zs w ps){x t:Cell}(hx:x∈ps)(ht:t∈aL zs w x):x∈aB zs w t:=by
 obtain⟨h1,h2,h3⟩:=gY ht;exact cB.mpr ⟨mV h3 (p.cl x hx).2,(p.cl x hx).1⟩
theorem Pk{x t:Cell}(hx:x∈aB zs w t)(tin:inF zs.length w t)(to:aR zs w t=false):t∈aL zs w x:=by
 obtain⟨h1,h2⟩:=cB.mp hx;exact cB.mpr ⟨mV h1 tin,by rw[to];rfl⟩
theorem Part.split(p:Part zs w ps){j:Nat}(hj:j<ps.length){y:Cell}(hy:y∈ps):(y∈ps.take (j+1)/\y∉ps.drop (j+1)/\gV (ps.getD j (0,0)) y=false)\/(y∉ps.take (j+1)/\y∈ps.drop (j+1)/\gV (ps.getD j (0,0)) y=true):=by
 have as:=p.asc;have e:=Al (j+1) ps;have nd:=p.nd;rw[<- e] at as nd;have dis:=(xr.mp nd).2.2;have hjm:ps.getD j (0,0)∈ps.take (j+1):=by rw[jw hj];exact j6 _ (dD.mpr rfl)
 by_cases h:y∈ps.take (j+1)
 ·left;refine⟨h,fun z=>dis y h y z rfl,?_⟩;rw[jw hj] at h as;rcases cO.mp h with z|z
  ·have h1:=(wY.mp (wY.mp as).1).2.2 y z _ (dD.mpr rfl);exact bZ (by unfold bK at *;lia)
  ·rw[dD.mp z];exact bZ (by unfold bK;lia)
 ·right;rw[<- e] at hy;have hd:y∈ps.drop (j+1):=(cO.mp hy).resolve_left h;exact⟨h,hd,bN ((wY.mp as).2.2 _ hjm y hd)⟩
theorem Part.beh(p:Part zs w ps){j:Nat}(hj:j<ps.length){N:List Cell}(hN:∀ y∈N,y∈ps):yx N (ps.getD j (0,0))=GJ N ps j:=by
 refine BP fun y hy=>?_
 rcases p.split hj (hN y hy) with⟨_,h2,h3⟩|⟨_,h2,h3⟩
 ·rw[h3,bZ h2]
 ·rw[h3,bN h2]
theorem BX{N l:List Cell}{f:Int}{r:Nat}:mO N f r l=true↔((rC N l:Int)<=f/\f<=(rC N l:Int)+r):=by
 unfold mO;rw[oR,lE,lE]
theorem Part.before(p:Part zs w ps){j:Nat}(hj:j<ps.length){N l:List Cell}(hN:∀ y∈N,y∈ps){f:Int}(h:(rC N l:Int)=f):mO N f (GJ N ps j) (upto ps (j+1) l)=true:=by
 rw[BX,<- h]
 constructor
 ·have:=Oq (N:=N) (a:=fun y=>decide (y∈upto ps (j+1) l)) (b:=fun y=>decide (y∈l)) fun y _ hz=>bN (cB.mp (cY hz)).1
  unfold rC;lia
 ·have:=M7 (N:=N) (a:=fun y=>decide (y∈l)) (b:=fun y=>decide (y∈upto ps (j+1) l)) (c:=fun y=>decide (y∈ps.drop (j+1))) fun y hy hz=>by
   rcases p.split hj (hN y hy) with⟨h1,_,_⟩|⟨_,h2,_⟩
   ·exact .inl (bN (cB.mpr ⟨cY hz,bN h1⟩))
   ·exact .inr (bN h2)
  unfold rC GJ;lia
theorem YD{j:Nat}{N l:List Cell}{f:Int}(hN:∀ y∈N,y∈ps.take (j+1))(h0:GJ N ps j=0)(h:mO N f (GJ N ps j) (upto ps (j+1) l)=true):(rC N l:Int)=f:=by
 rw[BX,h0] at h;have e:rC N (upto ps (j+1) l)=rC N l:=BP fun y hy=>by
  rw[Fj];exact⟨fun z=>(cB.mp z).1,fun z=>cB.mpr ⟨z,bN (hN y hy)⟩⟩
 rw[e] at h;lia
theorem Wg{N:List Cell}(h0:N≠[])(hN:∀ y∈N,y∈ps):∃ j,j<ps.length/\ps.getD j (0,0)∈N/\∀ y∈N,y∈ps.take (j+1):=by
 have go:∀ k,k<=ps.length->(∀ y∈N,y∈ps.take k)->∃ j,j<ps.length/\ps.getD j (0,0)∈N/\∀ y∈N,y∈ps.take (j+1):=by
  intro k
  induction k with
  |zero=>
   intro _ h
   cases N with
   |nil=>exact absurd rfl h0
   |cons a N=>have:=h a cG;rw[Ld] at this;cases this
  |succ k ih=>
   intro hk h;by_cases hh:∀ y∈N,y∈ps.take k
   ·exact ih (by lia) hh
   ·have ⟨y,hy,hn⟩:∃ y,y∈N/\y∉ps.take k:=V0 fun hc=>hh fun y hy=>V0 fun hn=>hc ⟨y,hy,hn⟩
    have:=h y hy;rw[jw (by lia)] at this;have e:y=ps.getD k (0,0):=dD.mp ((cO.mp this).resolve_left hn);exact⟨k,by lia,by rw[<- e];exact hy,h⟩
 exact go ps.length (bR _) (fun y hy=>by rw[jE];exact hN y hy)
def XM(zs:List Str)(w:Nat)(ps l:List Cell):Prop:=∀ x∈ps,∀ t∈aL zs w x,(rC (aB zs w t) l:Int)=iG zs t
theorem Part.a2u(p:Part zs w ps)(l:List Cell):l∈layAt (pP zs w ps) ps ps.length↔(l.Sublist ps/\XM zs w ps l):=by
 rw[vA p.nd _ (bR _),jE];refine and_congr_right fun hs=>⟨fun h x hx t ht=>?_,fun h j hj=>?_⟩
 ·have hN:∀ y∈aB zs w t,y∈ps:=p.all x hx t ht;have hx':=p.near hx ht;obtain⟨j,hj,hm,hl⟩:=Wg (fun z=>by rw[z] at hx';cases hx') hN;obtain⟨tin,to,_⟩:=gY ht;have:=uI.mp (h j hj) t (Pk hm tin to);rw[p.beh hj hN] at this;refine YD hl (Ot fun y hy=>?_) this;rcases p.split hj (hN y hy) with⟨_,h2,_⟩|⟨h2,_,_⟩
  ·exact bZ h2
  ·exact absurd (hl y hy) h2
 ·refine uI.mpr fun t ht=>?_
  have hx:ps.getD j (0,0)∈ps:=by rw[getD_at hj];exact n8 _
  have hN:∀ y∈aB zs w t,y∈ps:=p.all _ hx t ht;rw[p.beh hj hN];exact p.before hj hN (h _ hx t ht)
def eY(zs:List Str)(w:Nat)(ps:List Cell):List (List Cell):=(layAt (pP zs w ps) ps ps.length).mergeSort fun a b=>!llt b a
theorem jo:(eY zs w ps).Perm (layAt (pP zs w ps) ps ps.length):=List.mergeSort_perm _ _
theorem P0:Qv (eY zs w ps):=by
 have h:(eY zs w ps).Pairwise fun a b=>(!llt b a)=true:=by
  refine List.pairwise_mergeSort (fun a b c h1 h2=>?_) (fun a b=>?_) _
  ·have h1:llt b a=false:=by simpa using h1
   have h2:llt c b=false:=by simpa using h2
   rw[tX.tr _ _ _ h1 h2];rfl
  ·cases h:llt b a
   ·rfl
   ·rw[tX.Gd _ _ h];rfl
 exact h.imp fun h=>by simpa using h
theorem Part.lays(p:Part zs w ps){ds:List (List Cell)}(h1:ds.Perm (layAt (pP zs w ps) ps ps.length))(h2:Qv ds):ds=eY zs w ps:=Lr tX (h1.trans jo.symm) h2 P0
theorem Part.mem(p:Part zs w ps)(l:List Cell):l∈eY zs w ps↔(l.Sublist ps/\XM zs w ps l):=by rw[jo.mem_iff,p.a2u]
theorem Pa(h:ps.length<=12):(eY zs w ps).length<=4096:=by
 rw[jo.length_eq];exact cP (qH _ _ _) (Kq (by decide) h)
theorem Pb{l:List Cell}(hl:l∈eY zs w ps):l.length<=ps.length:=qI _ l (jo.mem_iff.mp hl)
theorem kj{x y:Cell}(h6:zs.length<=6)(w6:w<=6)(hx:x∈bJ zs w)(hy:y∈cC zs w x):cC zs w y=cC zs w x:=by
 have ix:=gZ hx;have c1:=(cM ix).mp hy;have ey:=iy.edge hx c1;have c2:=iy.symm (qL.mp hx).1 ix c1;refine Iu (mR h6 w6) (mR h6 w6) fun z=>?_
 rw[cM (gZ ey),cM ix];exact⟨fun c=>c1.trans c,fun c=>c2.trans c⟩
structure Vu(zs:List Str)(w:Nat)(ps:List (List Cell)):Prop where
 of:∀ p∈ps,∃ x∈bJ zs w,p=cC zs w x
 dis:ps.Pairwise fun a b=>∀ y∈a,y∉b
theorem yX(h6:zs.length<=6)(w6:w<=6):∀(cs:List Cell)(ps:List (List Cell)),(∀ c∈cs,c∈bJ zs w)->Vu zs w ps->Vu zs w (gB zs w cs ps)/\(∀ c∈cs,∃ p∈gB zs w cs ps,c∈p)/\(∀ p∈ps,p∈gB zs w cs ps)
 |[],ps,_,ok=>by unfold gB;exact⟨ok,(fun c hc=>by cases hc),fun p hp=>hp⟩
 |c::cs,ps,hcs,ok=>by
  have hc:=hcs c cG;have ic:=gZ hc;have self:c∈cC zs w c:=(cM ic).mpr .base;unfold gB;by_cases h:∃ p∈ps,c∈p
  ·rw[aK h];obtain⟨a1,a2,a3⟩:=yX h6 w6 cs ps (fun d hd=>hcs d (dw _ hd)) ok;refine⟨a1,fun d hd=>?_,a3⟩;rcases cL.mp hd with z|z
   ·obtain⟨p,hp,hcp⟩:=h;exact⟨p,a3 p hp,by rw[z];exact hcp⟩
   ·exact a2 d z
  ·rw[aG h];have ok2:Vu zs w (ps++[cC zs w c]):=by
    refine⟨fun p hp=>?_,wY.mpr ⟨ok.dis,V8 _ _,fun a ha b hb y hy hy2=>?_⟩⟩
    ·rcases cO.mp hp with z|z
     ·exact ok.of p z
     ·exact⟨c,hc,dD.mp z⟩
    ·rw[dD.mp hb] at hy2;obtain⟨x,hx,rfl⟩:=ok.of a ha;refine h ⟨_,ha,?_⟩;rw[<- kj h6 w6 hx hy,kj h6 w6 hc hy2];exact self
   obtain⟨a1,a2,a3⟩:=yX h6 w6 cs (ps++[cC zs w c]) (fun d hd=>hcs d (dw _ hd)) ok2;refine⟨a1,fun d hd=>?_,fun p hp=>a3 p (j7 _ hp)⟩;rcases cL.mp hd with z|z
   ·exact⟨_,a3 _ (j6 _ (dD.mpr rfl)),by rw[z];exact self⟩
   ·exact a2 d z
theorem jq(h6:zs.length<=6)(w6:w<=6):Vu zs w (aO zs w)/\∀ c∈bJ zs w,∃ p∈aO zs w,c∈p:=by
 obtain⟨a1,a2,_⟩:=yX (zs:=zs) (w:=w) h6 w6 (bJ zs w) [] (fun c hc=>hc) ⟨(fun p hp=>by cases hp),.nil⟩;exact⟨a1,a2⟩
end
end My
namespace My
open PySem L2
theorem pD(zs:List Str)(w:Nat)(x:Cell):(aB zs w x).length<=8:=cP (iK _ _) (iI _ _ _)
def Gs(zs:List Str)(w:Nat)(c t:Cell):Dt:=.tup [.int (iG zs t),.lst ((aB zs w t).map aA),.int (yx (aB zs w t) c)]
def Cm(K:ao)(C:Addr):Sp:=fun vs H Q _=>∃(x:Addr)(v:V)(zs:List Str)(w:Nat)(c:Cell),vs=[.ref x,v]/\dM C H x zs w/\Den K H v (aA c)/\inF zs.length w c/\∀ q H',Fr K H H' q ((aL zs w c).map (Gs zs w c))->Q (.ref q) H'
section
variable{P:Program}{w:World}{K:ao}{mg:Str->Option Value}{base:Heap}{Z:Adr}
theorem Jw{f:Addr}{fd:FuncData} (F:Fun K "demands" "demands" vK f fd) (T:Txt K mg Z) (cF:Df P w K mg base 3 "open_near" ["view","cell"] (oF K Z.View aL)) (cQ:Df P w K mg base 3 "closed_near" ["view","cell"] (oF K Z.View aB)) (mF:Df P w K mg base 1 "figure" ["view","cell"] (zH K Z.View)) :
  cg P w K mg base (CXE P w) 4 f fd ["view","last"] (Cm K Z.View):=by
 refine F.rok lB (fun vs H Q E h=>?_) (fun cdv A outer s H vs Q E hr h=>?_)
 ·obtain⟨x,v,zs,w,c,rfl,_⟩:=h;rfl
 ·obtain⟨x,v,zs,w,c,rfl,vt,dv,hin,hq⟩:=h;have hu:=mQ hr;refine⟨_,(au (aP (i:=2) lB.nd rfl (Or.inl rfl) (cX ak)) (au (cJ dW rfl (bx (K:=K) (aV cF hr rfl aW (aj (rv 0) (aj (rv 1) ak)))) (aZ (i:=3) lB.nd rfl (Or.inl rfl)) (au (aP (i:=4) lB.nd rfl (Or.inl rfl) (aV cQ hr rfl aW (aj (rv 0) (aj (rv 3) ak)))) (au (Ea (i:=5) lB.nd rfl rfl (by rfl) rfl (bx (K:=K) (rv 4)) (fun _ _ _=>(gR (bM (a1m (K:=K) hu) (rv 0) (rv 2) (cu _)))) (fun _ _ _=>(rv 0))) (aC (gU (mU (K:=K) lW oK oM eE (rv 2) (aj (dR (aj (aV mF hr rfl aW (aj (rv 0) (aj (rv 3) ak))) (aj (rv 4) (aj (bf (fu (K:=K)) rfl T.eF cH (aj (rv 5) ak)) ak)))) ak))))))) (aC (aY (rv 2))))),?_⟩;refine aF (fun zzs H1=>∃ q:Addr,H q=none/\Same H H1/\H1 q=some (.lst [])/\zzs=[zzR x,some v,zzR q,zzN,zzN,zzN]) (fun R hR=>?_) ?_
  ·exact⟨by decide,fun q nq=>hR _ _ ⟨q,nq,Same.put nq,aD,rfl⟩⟩
  rintro zzs H1 ⟨q,nq,s1,eq1,rfl⟩;refine aF (fun zzs H2=>∃(us:List V)(v3 v4 v5:Option V),Same H H2/\H2 q=some (.lst us)/\aN K (del q H2) us ((aL zs w c).map (Gs zs w c))/\zzs=[zzR x,some v,zzR q,v3,v4,v5]) (fun R hR=>?_) ?_
  ·refine⟨_,rfl,_,rfl,x,_,zs,w,c,rfl,vt.mono s1,dv.mono s1,hin,fun tl H2 f2=>?_⟩;obtain⟨ts,et,Dt'⟩:=f2.ls;have lts:ts.length=(aL zs w c).length:=by rw[Dt'.length,aU]
   have lt8:=uc zs w c;have ntq:tl≠q:=fun z=>by have:=f2.new;rw[z,eq1] at this;cases this
   refine⟨tl,rfl,⟨_,SqL.of et⟩,?_⟩;refine dh (K:=K) (xs:=ts) (fun i zzs H3=>∃(us:List V)(v3 v4 v5:Option V),Same H H3/\H3 tl=some (.lst ts)/\aN K H3 ts ((aL zs w c).map aA)/\H3 q=some (.lst us)/\aN K (del q H3) us (((aL zs w c).take i).map (Gs zs w c))/\zzs=[zzR x,some v,zzR q,v3,v4,v5])
    ⟨[],none,none,none,s1.trans f2.same,et,Dt',f2.same _ _ eq1,.nil,rfl⟩ (fun i zzs H3 _ hh=>by obtain⟨_,_,_,_,_,e,_⟩:=hh;exact SqL.of e) (fun i u zzs H3 hu' hh=>?_) (fun zzs H3 hh=>?_)
   ·obtain⟨us,v3,v4,v5,sh,et3,Dt3,eq3,D3,rfl⟩:=hh;obtain⟨dt,edt,du⟩:=Dt3.get hu';rw[cU] at edt;obtain⟨t,etq,rfl⟩:=jC.mp edt;have hi:i<(aL zs w c).length:=(j9.mp etq).1;obtain⟨tin,to,_⟩:=gY (fB etq);refine aF (fun zzs H4=>∃ a:Addr,Same H3 H4/\H3 a=none/\Ls K H4 a ((aB zs w t).map aA)/\zzs=[zzR x,some v,zzR q,some u,zzR a,v5]) (fun R' hR'=>?_) ?_
    ·exact⟨_,rfl,_,rfl,x,_,zs,w,t,rfl,vt.mono sh,du,tin,fun a H4 f4=>hR' _ _ ⟨a,f4.same,f4.new,f4.ls,rfl⟩⟩
    rintro zzs H4 ⟨a,s4,na,la,rfl⟩;obtain⟨as,ea,Da⟩:=id la;have lc8:=pD zs w t;refine aF (fun zzs H5=>∃ b:Addr,Same H4 H5/\Ls K H5 b (((aB zs w t).filter fun y=>gV c y).map aA)/\zzs=[zzR x,some v,zzR q,some u,zzR a,zzR b]) (fun R' hR'=>?_) ?_
    ·refine⟨_,rfl,a,rfl,⟨_,SqL.of ea⟩,fZ (K:=K) (xs:=aB zs w t) (enc:=aA) (cA (SqL.of ea)) Da (small (by lia)) (fun y=>gV c y) aA (fun y hy u' H5 s5 d G hG=>?_) (fun y hy _ u' H5 s5 d G hG=>⟨_,rfl,hG _ _ (Same.refl _) d⟩) (fun ys H5 s5 D5 b hb=>?_)⟩
     ·exact⟨_,rfl,_,rfl,y,c,d,dv.mono (sh.trans (s4.trans s5)),_,rfl,hG _ (Same.refl _)⟩
     ·exact hR' _ _ ⟨b,s5.and hb,.new hb D5,rfl⟩
    rintro zzs H5 ⟨b,s5,lb,rfl⟩;have eq5:=s5 _ _ (s4 _ _ eq3);have lus:us.length<=8:=by rw[D3.length,aU,qt];lia
    refine⟨_,rfl,.inl ⟨rfl,_,SqL.of eq5⟩,?_⟩;refine⟨_,rfl,_,rfl,x,_,zs,w,t,rfl,vt.mono (sh.trans (s4.trans s5)),du.mono (s4.trans s5),tin,to,?_⟩;refine⟨_,rfl,_,rfl,?_⟩;dsimp only[rW];refine vG lb.den ?_;refine⟨sz rfl,fun tt nt=>?_⟩;have s6:=Same.put (o:=.tup [.int (iG zs t),.ref a,.int ((((aB zs w t).filter fun y=>gV c y).map aA).length:Int)]) nt;refine mX (K:=K) (s6 _ _ eq5) (by lia) ?_;have sb:SameBut q (upd H5 tt (.tup [.int (iG zs t),.ref a,.int ((((aB zs w t).filter fun y=>gV c y).map aA).length:Int)])) (upd (upd H5 tt (.tup [.int (iG zs t),.ref a,.int ((((aB zs w t).filter fun y=>gV c y).map aA).length:Int)])) q (.lst (us++[.ref tt]))):=(SameBut.refl q _).put;have naq:a≠q:=fun z=>by rw[z,eq3] at na;cases na
    have a2C:tt≠q:=fun z=>by rw[z,eq5] at nt;cases nt
    have sH:Same H3 (upd H5 tt (.tup [.int (iG zs t),.ref a,.int ((((aB zs w t).filter fun y=>gV c y).map aA).length:Int)])):=(s4.trans s5).trans s6;refine⟨us++[.ref tt],_,_,_,sb.of (sh.trans sH) nq,sb _ _ (sH _ _ et3) ntq,sb.cells (s6 _ _ eq5) (Dt3.mono sH),aD,?_,rfl⟩;rw[jf,etq,dU];refine(D3.mono ((sH.but q).trans sb).del).append (.cons ?_ .nil);have dn:Same (del q (upd H5 tt (.tup [.int (iG zs t),.ref a,.int ((((aB zs w t).filter fun y=>gV c y).map aA).length:Int)]))) (del q (upd (upd H5 tt (.tup [.int (iG zs t),.ref a,.int ((((aB zs w t).filter fun y=>gV c y).map aA).length:Int)])) q (.lst (us++[.ref tt])))):=sb.del;refine Den.mono dn ?_;unfold Gs;refine Den.tup (by rw[kh a2C];exact aD) (.cons (.int _) (.cons (uZ (s6 _ _ eq5) naq (la.mono (s5.trans s6))).den (.cons ?_ .nil)));rw[aU];exact .int _
   ·obtain⟨us,v3,v4,v5,sh,et3,Dt3,eq3,D3,rfl⟩:=hh;rw[lts,jE] at D3;exact hR _ _ ⟨us,v3,v4,v5,sh,eq3,D3,rfl⟩
  rintro zzs H2 ⟨us,v3,v4,v5,s2,eq2,D2,rfl⟩;exact⟨_,rfl,hq q _ ⟨s2,nq,us,eq2,D2.mono yL⟩⟩
theorem W0{H:Hp}{v:V}{zs:List Str}{wd:Nat}{c t:Cell}(h:Den K H v (Gs zs wd c t)):∃(b:Addr)(y:V),v=.ref b/\H b=some (.tup [.int (iG zs t),y,.int (yx (aB zs wd t) c)])/\Den K H y (.lst ((aB zs wd t).map aA)):=by
 unfold Gs at h
 cases h with
 |tup ht hs=>
  cases hs with
  |cons h1 hs=>
   cases hs with
   |cons h2 hs=>
    cases hs with
    |cons h3 hs=>
     cases hs;cases h1;cases h3
     exact⟨_,_,rfl,ht,h2⟩
def nU(zs:List Str)(wd:Nat)(c:Cell)(ts l:List Cell):Bool:=ts.all fun t=>mO (aB zs wd t) (iG zs t) (yx (aB zs wd t) c) l
def Yo(K:ao):Sp:=fun vs H Q _=>∃(v:V)(q:Addr)(zs:List Str)(wd:Nat)(c:Cell)(ts l:List Cell),vs=[v,.ref q]/\Den K H v (vH l)/\Ls K H q (ts.map (Gs zs wd c))/\∀ H',Same H H'->Q (.bl (nU zs wd c ts l)) H'
theorem ZG{f:Addr}{fd:FuncData} (F:Fun K "may_hold" "may_hold" rO f fd) (T:Txt K mg Z):cg P w K mg base (CXE P w) 1 f fd ["laying","asked"] (Yo K):=by
 refine F.rok pZ (fun vs H Q E h=>?_) (fun cdv A outer s H vs Q E hr h=>?_)
 ·obtain⟨v,q,zs,w,c,ts,l,rfl,_⟩:=h;rfl
 ·obtain⟨v,q,zs,wd,c,ts,l,rfl,dv,lq,hq⟩:=h;have hu:=mQ hr;have hu':=Dz hr;refine⟨_,(au (cJ dW rfl (bx (K:=K) (rv 1)) (aZ (i:=2) pZ.nd rfl (Or.inl rfl)) (au (aP (i:=3) pZ.nd rfl (Or.inl rfl) (bf (fu (K:=K)) rfl T.eF cH (aj (jr (by rfl) rfl (bx (K:=K) (dO (dN (K:=K)) (rv 2) aH)) (fun _ _ _=>(gR (bM (jV.or (Ca (K:=K) hu')) (rv 0) (rv 1) (by rfl)))) (fun _ _ _=>(rv 0))) ak))) (aC (fL (o7 (pO mW mW (rv 3) (dO (dN (K:=K)) (rv 2) aH) (cT c7 (rv 3) (dO (dN (K:=K)) (rv 2) aH)))) (aC (aY z7)) bV)))) (aC (aY z7))),?_⟩;obtain⟨l',rfl⟩:∃ a,v=.ref a:=by cases dv;exact⟨_,rfl⟩
  obtain⟨xs,ex,Dx⟩:=lq;have lx:xs.length=ts.length:=by rw[Dx.length,aU]
  refine aF (fun zzs H1=>∃(v2 v3:Option V),Same H H1/\nU zs wd c ts l=true/\zzs=[zzR l',zzR q,v2,v3]) (fun R hR=>?_) ?_
  ·refine⟨_,rfl,q,rfl,⟨_,SqL.of ex⟩,?_⟩;refine dh (K:=K) (xs:=xs) (fun i zzs H1=>∃(v2 v3:Option V),Same H H1/\(∀ t∈ts.take i,mO (aB zs wd t) (iG zs t) (yx (aB zs wd t) c) l=true)/\zzs=[zzR l',zzR q,v2,v3])
    ⟨none,none,Same.refl _,(fun t ht=>by cases ht),rfl⟩ (fun i zzs H1 _ hh=>by obtain⟨_,_,g,_⟩:=hh;exact SqL.of (g _ _ ex)) (fun i u zzs H1 hi hh=>?_) (fun zzs H1 hh=>?_)
   ·obtain⟨v2,v3,g1,g2,rfl⟩:=hh;obtain⟨d,ed,du⟩:=Dx.get hi;rw[cU] at ed;obtain⟨t,et,rfl⟩:=jC.mp ed;obtain⟨b,y,rfl,eb,dy⟩:=W0 (du.mono g1);obtain⟨yl,rfl⟩:∃ a,y=.ref a:=by cases dy;exact⟨_,rfl⟩
    have lc8:=pD zs wd t;refine aF (fun zzs H2=>Same H1 H2/\zzs=[zzR l',zzR q,zzR b,zzI (rC (aB zs wd t) l)]) (fun R' hR'=>?_) ?_
    ·refine⟨_,rfl,.inr (.inl ⟨b,_,_,_,rfl,rfl,SqT.of eb,cW (j:=1) rfl,?_⟩)⟩
     cases dy with
     |lst hy Dy=>
      refine⟨yl,rfl,⟨_,hy⟩,fZ (K:=K) (xs:=aB zs wd t) (enc:=aA) (cA hy) Dy (small (by lia)) (fun y=>decide (y∈l)) aA (fun y hy u' H5 s5 d G hG=>?_) (fun y hy _ u' H5 s5 d G hG=>⟨_,rfl,hG _ _ (Same.refl _) d⟩) (fun ys H5 s5 D5 n hn=>?_)⟩
      ·exact⟨_,rfl,_,rfl,.inr (HJ d (dv.mono (g1.trans s5)) ⟨_,rfl,hG _ (Same.refl _)⟩)⟩
      ·dsimp only[rW];refine vG (Ls.new hn D5).den ?_;rw[aU];exact hR' _ _ ⟨s5.and hn,rfl⟩
    rintro zzs H2 ⟨s2,rfl⟩;have eb2:=s2 _ _ eb;have nxt:mO (aB zs wd t) (iG zs t) (yx (aB zs wd t) c) l=true->∃(v2 v3:Option V),Same H H2/\(∀ t∈ts.take (i+1),mO (aB zs wd t) (iG zs t) (yx (aB zs wd t) c) l=true)/\[zzR l',zzR q,zzR b,zzI (rC (aB zs wd t) l)]=[some (V.ref l'),some (.ref q),v2,v3]:=fun hb=>⟨_,_,g1.trans s2,fun t' ht'=>by
     rw[jf,et] at ht';rcases cO.mp ht' with z|z
     ·exact g2 t' z
     ·rw[dD.mp z];exact hb,rfl⟩
    have bad:mO (aB zs wd t) (iG zs t) (yx (aB zs wd t) c) l=false->Q (.bl false) H2:=fun hb=>by
     have:nU zs wd c ts l=false:=by
      cases e:nU zs wd c ts l
      ·rfl
      ·have:=uI.mp e t (fB et);rw[hb] at this;cases this
     rw[<- this];exact hq _ (g1.trans s2)
    refine⟨_,rfl,_,rfl,.inr (.inl ⟨b,_,_,_,rfl,rfl,SqT.of eb2,gH,?_⟩)⟩;refine⟨_,_,rfl,rfl,_,rfl,?_⟩;refine eV (fun h1=>?_) (fun h1=>?_)
    ·refine⟨_,rfl,_,rfl,.inr (.inl ⟨b,_,_,_,rfl,rfl,SqT.of eb2,cW (j:=2) rfl,?_⟩)⟩;refine⟨_,_,rfl,rfl,_,rfl,?_⟩;refine eV (fun h2=>?_) (fun h2=>?_)
     ·refine bad ?_;unfold mO;rw[show decide (iG zs t<=(rC (aB zs wd t) l:Int)+(yx (aB zs wd t) c:Int))=false by simpa only[qp] using h2,Ae]
     ·refine nxt ?_;unfold mO;rw[h1,show decide (iG zs t<=(rC (aB zs wd t) l:Int)+(yx (aB zs wd t) c:Int))=true by simpa only[Aq] using h2];rfl
    ·refine⟨_,rfl,yR ?_⟩;refine bad ?_;unfold mO;rw[h1];rfl
   ·obtain⟨v2,v3,g1,g2,rfl⟩:=hh;rw[lx,jE] at g2;exact hR _ _ ⟨v2,v3,g1,uI.mpr g2,rfl⟩
  rintro zzs H1 ⟨v2,v3,s1,hk,rfl⟩;rw[hk] at hq;exact hq _ s1
theorem Cj{K:ao}{H0 H:Hp}:∀ {vs:List V} {rs:List (List Cell)},gF (lG K H0) H vs rs->∃ qs:List Addr,vs=qs.map V.ref
 |_,_,.nil=>⟨[],rfl⟩
 |_,_,.cons h t=>by
  obtain⟨a,rfl,_⟩:=h;obtain⟨qs,e⟩:=Cj t;exact⟨a::qs,by rw[e];rfl⟩
theorem a1C{K:ao}{H0 H:Hp}{q:Addr}{qs:List Addr}{rs:List (List Cell)}(r:gF (lG K H0) H (qs.map V.ref) rs)(nd:rs.Nodup)(nq:H q=none):p8 K H0 (upd H q (.lst (qs.map V.ref))) q qs rs:=by
 have s1:=Same.put (o:=.lst (qs.map V.ref)) nq;have at_:∀(i:Nat)(a:Addr),qs[i]?=some a->∃ p,rs[i]?=some p/\lG K H0 p (.ref a) H:=fun i a e=>r.get (by rw[cU,e];rfl)
 have len:qs.length=rs.length:=by have:=r.length;rwa[aU] at this
 refine⟨aD,len,fun i a p h1 h2=>?_,fun a ha=>?_,?_,fun z=>?_⟩
 ·obtain⟨p',e,b,eb,_,l⟩:=at_ i a h1;rw[h2] at e
  cases e;cases eb
  exact l.mono s1
 ·obtain⟨i,hi⟩:=zT ha;obtain⟨p',e,b,eb,n,l⟩:=at_ i a hi
  cases eb
  exact n
 ·rw[List.nodup_iff_pairwise_ne,Cv];intro i j hi hj hij e;obtain⟨p,ep,rp⟩:=at_ i _ (ig hi);obtain⟨p',ep',rp'⟩:=at_ j _ (ig hj);rw[e] at rp;have:=rp.det rp';subst this;have h1:=(j9.mp ep)
  have h2:=(j9.mp ep')
  have:i=j:=(List.getElem_inj nd).mp (h1.2.trans h2.2.symm);lia
 ·obtain⟨i,hi⟩:=zT z;obtain⟨p',e,b,eb,n,xs,ex,_⟩:=at_ i q hi
  cases eb
  rw[ex] at nq;cases nq
def Cp(K:ao)(C NC TG:Addr):Sp:=fun vs H Q E=>∃(x:Addr)(v:V)(zs:List Str)(w:Nat)(c:Cell),vs=[.ref x,v]/\dM C H x zs w/\Den K H v (aA c) /\
 (c∉bJ zs w->∀ H',Same H H'->E (.ref NC) none H')/\(c∈bJ zs w->12<(cC zs w c).length->∀ H',Same H H'->E (.ref TG) none H') /\
 (c∈bJ zs w->(cC zs w c).length<=12->∀(q:Addr)(qs:List Addr)(H':Hp),H q=none->Same H H'->p8 K H H' q qs (eY zs w (cC zs w c))->Q (.ref q) H')
theorem Jx{f:Addr}{fd:FuncData} (F:Fun K "layings" "layings" vO f fd) (T:Txt K mg Z) (uK:Df P w K mg base 4 "edge" ["view"] (oE K Z.View bJ)) (mG:Df P w K mg base 4 "joined" ["view","cell"] (zJ K Z.View)) (uJ:Df P w K mg base 4 "demands" ["view","last"] (Cm K Z.View)) (qZ:Df P w K mg base 1 "may_hold" ["laying","asked"] (Yo K)) :
  cg P w K mg base (CXE P w) 5 f fd ["view","cell"] (Cp K Z.View Z.NoCell Z.TooGreat):=by
 refine F.HN iz (fun vs H Q E h=>?_) (fun cdv A outer s H vs Q E hr h=>?_)
 ·obtain⟨x,v,zs,w,c,rfl,_⟩:=h;rfl
 ·obtain⟨x,v,zs,w,c,rfl,vt,dv,hN,hT,hq⟩:=h;have hu:=mQ hr;have hu':=Dz hr;have hd:=GC hr;have z6:=vt.vw.le;have w6:=vt.vw.w6;refine⟨_,(au (fL (RT.nox (bM (iV.or (pH (K:=K) hu')) (rv 1) (aV uK hr rfl aW (aj (rv 0) ak)) (by rfl))) (aC (jB T.lC rfl T.pB hd (aj kW ak))) bV) (au (RS.nox (aP (i:=2) iz.nd rfl (Or.inl rfl) (aV mG hr rfl aW (aj (rv 0) (aj (rv 1) ak))))) (au (fL (RT.nox (bM Hs (bf (fu (K:=K)) rfl T.eF cH (aj (rv 2) ak)) (JL T.gQ rfl) (cu _))) (aC (jB T.jx rfl T.rB hd (aj kW ak))) bV) (au (RS.nox (aP (i:=3) iz.nd rfl (Or.inl rfl) (cX (aj (cX ak) ak)))) (au (RS.nox (cJ dW rfl (bx (K:=K) (rv 2)) (aZ (i:=4) iz.nd rfl (Or.inr rfl)) (au (aP (i:=5) iz.nd rfl (Or.inr rfl) (aV uJ hr rfl aW (aj (rv 0) (aj (rv 4) ak)))) (au (aP (i:=6) iz.nd rfl (Or.inl rfl) (cT c7 (rv 3) (jr (by rfl) rfl (bx (K:=K) (rv 3)) (fun _ _ _=>DX) (fun _ _ _=>(cT c7 (rv 0) (cX (aj (rv 5) ak))))))) (aC (Ea (i:=3) iz.nd rfl rfl (by rfl) rfl (bx (K:=K) (rv 6)) (fun _ _ _=>(gR (m9 (aV qZ hr rfl aW (aj (rv 0) (aj (rv 6) ak)))))) (fun _ _ _=>(rv 0)))))))) (aC (RS.nox (aY (bf (Wb (K:=K) hu) rfl T.sZ uV (aj (rv 3) ak)))))))))),?_⟩;refine aF (fun zzs H1=>c∈bJ zs w/\Same H H1/\zzs=[zzR x,some v,zzN,zzN,zzN,zzN,zzN]) (fun R hR=>?_) ?_
  ·refine⟨_,rfl,_,rfl,x,zs,w,rfl,vt,fun eg H1 fr=>.inr (pL (dv.mono fr.same) fr.ls.den ⟨_,rfl,?_⟩)⟩;refine eV (fun h1=>⟨by decide,hN (jD (by simpa only[qp] using h1)) H1 fr.same⟩) (fun h1=>hR _ _ ⟨cY (by simpa only[Aq] using h1),fr.same,rfl⟩)
  rintro zzs H1 ⟨hc,s1,rfl⟩;have hin:=gZ hc;have pt:=Part.join z6 w6 hc;refine aF (fun zzs H2=>∃(pl:Addr)(ms:List V),Same H H2/\H2 pl=some (.lst ms)/\aN K H2 ms ((cC zs w c).map aA)/\zzs=[zzR x,some v,zzR pl,zzN,zzN,zzN,zzN]) (fun R hR=>?_) ?_
  ·refine⟨_,rfl,_,rfl,x,_,zs,w,c,rfl,vt.mono s1,dv.mono s1,hin,fun a H2 ds na s2 la as mm=>?_⟩;have e:ds=cC zs w c:=Iu as (mR z6 w6) fun y=>by rw[mm y,cM hin]
   rw[e] at la;obtain⟨ms,em,Dm⟩:=la;exact hR _ _ ⟨a,ms,s1.trans s2,em,Dm,rfl⟩
  rintro zzs H2 ⟨pl,ms,s2,em,Dm,rfl⟩;have lms:ms.length=(cC zs w c).length:=by rw[Dm.length,aU]
  refine aF (fun zzs H3=>(cC zs w c).length<=12/\H3=H2/\zzs=[zzR x,some v,zzR pl,zzN,zzN,zzN,zzN]) (fun R hR=>?_) ?_
  ·refine⟨_,rfl,?_⟩;dsimp only[rW];refine vG (Den.lst (SqL.of em) Dm) ⟨_,_,rfl,rfl,_,rfl,?_⟩;rw[aU];refine eV (fun h1=>⟨by decide,hT hc (by have:=cY h1;lia) H2 s2⟩) (fun h1=>hR _ _ ⟨by have:=jD h1;lia,rfl,rfl⟩)
  rintro zzs H3 ⟨h12,rfl,rfl⟩;have hq':=hq hc h12;clear hN hT hq;generalize hps:cC zs w c=ps at *;refine aF (fun zzs H4=>∃(bl:Addr)(bs:List V),Same H H4/\H4 pl=some (.lst ms)/\aN K H4 ms (ps.map aA)/\H4 bl=some (.lst bs)/\gF (lG K H) H4 bs (layAt (pP zs w ps) ps 0)/\zzs=[zzR x,some v,zzR pl,zzR bl,zzN,zzN,zzN]) (fun R hR=>?_) ?_
  ·refine⟨by decide,fun e0 n0=>?_⟩;dsimp only[rW];refine⟨sz rfl,fun bl nb=>?_⟩;have t1:=Same.put (o:=.lst []) n0;have t2:=t1.and (o:=.lst [.ref e0]) nb;refine hR _ _ ⟨bl,_,s2.trans t2,t2 _ _ em,Dm.mono t2,aD,.cons ⟨e0,rfl,s2.free n0,[],?_,.nil⟩ .nil,rfl⟩;exact(Same.put nb) _ _ aD
  rintro zzs H4 ⟨bl,bs,s4,em4,Dm4,eb4,rb4,rfl⟩;refine aF (fun zzs H5=>∃(bl:Addr)(bs:List V)(v4 v5 v6:Option V),Same H H5/\H5 bl=some (.lst bs)/\gF (lG K H) H5 bs (layAt (pP zs w ps) ps ps.length)/\zzs=[zzR x,some v,zzR pl,zzR bl,v4,v5,v6]) (fun R hR=>?_) ?_
  ·refine⟨_,rfl,pl,rfl,⟨_,SqL.of em4⟩,?_⟩;refine dh (K:=K) (xs:=ms) (fun i zzs H5=>∃(bl:Addr)(bs:List V)(v4 v5 v6:Option V),Same H H5/\H5 pl=some (.lst ms)/\aN K H5 ms (ps.map aA)/\H5 bl=some (.lst bs)/\gF (lG K H) H5 bs (layAt (pP zs w ps) ps i)/\zzs=[zzR x,some v,zzR pl,zzR bl,v4,v5,v6])
    ⟨bl,bs,none,none,none,s4,em4,Dm4,eb4,rb4,rfl⟩ (fun i zzs H5 _ hh=>by obtain⟨_,_,_,_,_,_,e,_⟩:=hh;exact SqL.of e) (fun i u zzs H5 hi hh=>?_) (fun zzs H5 hh=>?_)
   ·obtain⟨bl,bs,v4,v5,v6,s5,em5,Dm5,eb5,rb5,rfl⟩:=hh;obtain⟨dm,edm,du⟩:=Dm5.get hi;rw[cU] at edm;obtain⟨m,emq,rfl⟩:=jC.mp edm;have him:i<ps.length:=(j9.mp emq).1;have eD:ps.getD i (0,0)=m:=by rw[dX,emq];rfl
    have mps:m∈ps:=fB emq;have lb:bs.length<=2048:=by
     rw[rb5.length];exact cP (qH _ _ _) (Kq (by decide) (show i<=11 by lia))
    have lay:(layAt (pP zs w ps) ps i).length<=2048:=by rw[<- rb5.length];exact lb
    refine aF (fun zzs H6=>∃ aq:Addr,Same H5 H6/\Ls K H6 aq ((aL zs w m).map (Gs zs w m))/\zzs=[zzR x,some v,zzR pl,zzR bl,some u,zzR aq,v6]) (fun R' hR'=>?_) ?_
    ·exact⟨_,rfl,_,rfl,x,_,zs,w,m,rfl,vt.mono s5,du,(pt.cl m mps).2,fun aq H6 f6=>hR' _ _ ⟨aq,f6.same,f6.ls,rfl⟩⟩
    rintro zzs H6 ⟨aq,s6,la,rfl⟩;refine aF (fun zzs H7=>∃(bb:Addr)(ws:List V),Same H6 H7/\H7 bb=some (.lst ws)/\gF (lG K H) H7 ws (layAt (pP zs w ps) ps i++(layAt (pP zs w ps) ps i).map (·++[m]))/\zzs=[zzR x,some v,zzR pl,zzR bl,some u,zzR aq,zzR bb]) (fun R' hR'=>?_) ?_
    ·refine⟨_,rfl,_,rfl,bl,rfl,⟨_,SqL.of (s6 _ _ eb5)⟩,?_⟩;refine O9 (lG.stays) (lG.stays (K:=K) (H0:=H)) (cA (SqL.of (s6 _ _ eb5))) (rb5.mono lG.stays s6) (small (by lia)) (fun l=>l++[m]) (fun l hl y H7 s7 ry G hG=>?_) (fun ys H7 s7 D7 n hn=>?_)
     ·obtain⟨a,rfl,na,la'⟩:=ry;have ll:=qI _ l hl;refine⟨_,rfl,_,rfl,?_⟩;dsimp only[rW];refine⟨sz rfl,fun p1 n1=>?_⟩;have t1:=Same.put (o:=.lst [u]) n1;refine DR (K:=K) (la'.mono t1) (show Ls K (upd H7 p1 (.lst [u])) p1 ([m].map aA) from⟨[u],aD,.cons (du.mono ((s6.trans s7).trans t1)) .nil⟩) (by rw[aU,aU,qm];lia) fun r H8 fr=>?_
      refine hG _ _ (t1.trans fr.same) ⟨r,rfl,(s5.trans ((s6.trans s7).trans t1)).free fr.new,?_⟩;rw[dU];exact fr.ls
     ·have t1:=Same.put (o:=.lst ys) hn;refine⟨bs,ys,t1 _ _ (s7 _ _ (s6 _ _ eb5)),aD,small (by have:=D7.length;rw[aU] at this;lia),fun bb nbb=>?_⟩;have t2:=t1.and (o:=.lst (bs++ys)) nbb;exact hR' _ _ ⟨bb,_,s7.trans t2,aD,(rb5.mono lG.stays (s6.trans (s7.trans t2))).append (D7.mono lG.stays t2),rfl⟩
    rintro zzs H7 ⟨bb,ws,s7,eb7,rb7,rfl⟩;have lw:(layAt (pP zs w ps) ps i++(layAt (pP zs w ps) ps i).map (·++[m])).length<=4096:=by rw[dB,aU];lia
    refine⟨_,rfl,bb,rfl,⟨_,SqL.of eb7⟩,?_⟩;refine yG (lG.stays) (lG.stays (K:=K) (H0:=H)) (cA (SqL.of eb7)) rb7 (small (by lia)) (fun l=>nU zs w m (aL zs w m) l) id (fun l hl y H8 s8 ry G hG=>?_) (fun l hl _ y H8 s8 ry G hG=>⟨_,rfl,hG _ _ (Same.refl _) ry⟩) (fun ys H8 s8 D8 n hn=>?_)
    ·refine⟨_,rfl,_,rfl,y,aq,zs,w,m,aL zs w m,l,rfl,ry.den,la.mono (s7.trans s8),fun H9 s9=>⟨_,rfl,hG _ s9⟩⟩
    ·have t1:=Same.put (o:=.lst ys) hn;have sA:=(s6.trans s7).trans (s8.trans t1);refine⟨n,ys,_,_,_,s5.trans sA,sA _ _ em5,Dm5.mono sA,aD,?_,rfl⟩;have e:layAt (pP zs w ps) ps (i+1)=((layAt (pP zs w ps) ps i++(layAt (pP zs w ps) ps i).map (·++[m])).filter (fun l=>nU zs w m (aL zs w m) l)).map id:=by
      rw[FN];show(layAt (pP zs w ps) ps i++(layAt (pP zs w ps) ps i).map (·++[ps.getD i (0,0)])).filter (pP zs w ps i)=_;unfold pP nU;rw[eD]
     rw[e];exact D8.mono lG.stays t1
   ·obtain⟨bl,bs,v4,v5,v6,s5,em5,Dm5,eb5,rb5,rfl⟩:=hh;rw[lms] at rb5;exact hR _ _ ⟨bl,bs,v4,v5,v6,s5,eb5,rb5,rfl⟩
  rintro zzs H5 ⟨bl,bs,v4,v5,v6,s5,eb5,rb5,rfl⟩;have nd:=wL (p:=pP zs w ps) pt.nd _ (bR ps.length);refine⟨_,rfl,bl,bs,layAt (pP zs w ps) ps ps.length,rfl,SqL.of eb5,rb5.Z1 fun a v h=>h.den,fun q o nq po as=>?_⟩;have lo:∀ i∈o,i<bs.length:=fun i hi=>dH.mp (po.mem_iff.mp hi)
  have ro:=gF.by (d0:=[]) o rb5 lo;have pd:(o.map fun i=>(layAt (pP zs w ps) ps ps.length).getD i []).Perm (layAt (pP zs w ps) ps ps.length):=uf (by rw[<- rb5.length];exact po);rw[pt.lays pd as] at ro;have ndl:(eY zs w ps).Nodup:=jo.nodup_iff.mpr nd;obtain⟨qs,eqs⟩:∃ qs:List Addr,(o.map fun i=>bs.getD i .non)=qs.map V.ref:=Cj ro;rw[eqs] at ro ⊢;exact hq' q qs _ (s5.free nq) (s5.and nq) (a1C ro ndl nq)
end
end My
namespace My
open PySem L2
end My
namespace My
open PySem L2
def yS(zs:List Str)(w:Nat)(c:Cell):Bool:=!aR zs w c&&decide ((aB zs w c).length=0)
def Iz(zs:List Str)(w:Nat)(c:Cell):Bool:=yS zs w c&&decide (0<iG zs c)
def kI(zs:List Str)(w:Nat):List (List Cell):=if(bI zs.length w).any (Iz zs w)=true then [] else [[]]
def chD(p:List Cell×List (List Cell)):Dt:=.tup [vH p.1,.lst (p.2.map vH)]
noncomputable def chL(zs:List Str)(w:Nat):List (List Cell×List (List Cell)):=([],kI zs w)::((aO zs w).map (fun p=>(p,eY zs w p))++(jQ zs w).map fun c=>([c],[[],[c]]))
def U8(K:ao)(C:Addr):Sp:=fun vs H Q _=>∃(x:Addr)(v:V)(zs:List Str)(w:Nat)(c:Cell),vs=[.ref x,v]/\dM C H x zs w/\Den K H v (aA c)/\inF zs.length w c/\∀ H',Same H H'->Q (.bl (yS zs w c)) H'
def Np(K:ao)(C:Addr):Sp:=fun vs H Q _=>∃(x:Addr)(zs:List Str)(w:Nat),vs=[.ref x]/\dM C H x zs w/\∀ q H',Same H H'->Ls K H' q ((kI zs w).map vH)->Q (.ref q) H'
def qP(K:ao)(C TG:Addr):Sp:=fun vs H Q E=>∃(x:Addr)(zs:List Str)(w:Nat),vs=[.ref x]/\dM C H x zs w /\
 ((∃ p∈aO zs w,12<p.length)->∀ H',Same H H'->E (.ref TG) none H')/\((∀ p∈aO zs w,p.length<=12)->∀ q H',Fr K H H' q ((chL zs w).map chD)->Q (.ref q) H')
section
variable{P:Program}{w:World}{K:ao}{mg:Str->Option Value}{base:Heap}{Z:Adr}
theorem Ws{f:Addr}{fd:FuncData} (F:Fun K "is_lone" "is_lone" vL f fd) (T:Txt K mg Z) (bC:Df P w K mg base 2 "is_closed" ["view","cell"] (iB K Z.View)) (cQ:Df P w K mg base 3 "closed_near" ["view","cell"] (oF K Z.View aB)) :
  cg P w K mg base (CXE P w) 4 f fd ["view","cell"] (U8 K Z.View):=by
 refine F.rok JW (fun vs H Q E h=>?_) (fun cdv A outer s H vs Q E hr h=>?_)
 ·obtain⟨x,v,zs,w,c,rfl,_⟩:=h;rfl
 ·obtain⟨x,v,zs,w,c,rfl,vt,dv,hin,hq⟩:=h;have hu:=mQ hr;refine⟨_,(aC (aY (Hw (a1M (aV bC hr rfl aW (aj (rv 0) (aj (rv 1) ak)))) (Hy (wU (lO.or (lM (K:=K) hu)) (bf (fu (K:=K)) rfl T.eF cH (aj (aV cQ hr rfl aW (aj (rv 0) (aj (rv 1) ak))) ak)) aH (cu _)))))),?_⟩;refine⟨_,rfl,_,rfl,x,v,zs,w,c,rfl,vt,dv,_,rfl,_,rfl,?_⟩;refine eV (fun h1=>?_) (fun h1=>?_)
  ·refine⟨_,rfl,_,rfl,x,v,zs,w,c,rfl,vt,dv,hin,fun q H' fr=>?_⟩;dsimp only[rW];refine vG fr.ls.den ?_;refine Or.inl ⟨rfl,?_⟩;rw[tE,aU];have e:decide ((((aB zs w c).length:Nat):Int)=0)=yS zs w c:=by
    unfold yS;rw[h1,sJ,Fj];lia
   rw[e];exact hq _ fr.same
  ·have e:false=yS zs w c:=by unfold yS;rw[h1];rfl
   rw[e];exact hq _ (Same.refl _)
theorem S9{f:Addr}{fd:FuncData} (F:Fun K "lone_layings" "lone_layings" lA f fd) (T:Txt K mg Z) (qy:Df P w K mg base 1 "cells" ["view"] (rQ K Z.View)) (uL:Df P w K mg base 4 "is_lone" ["view","cell"] (U8 K Z.View)) (mF:Df P w K mg base 1 "figure" ["view","cell"] (zH K Z.View)) :
  cg P w K mg base (CXE P w) 5 f fd ["view"] (Np K Z.View):=by
 refine F.rok oJ (fun vs H Q E h=>?_) (fun cdv A outer s H vs Q E hr h=>?_)
 ·obtain⟨x,zs,w,rfl,_⟩:=h;rfl
 ·obtain⟨x,zs,w,rfl,vt,hq⟩:=h;refine⟨_,(au (cJ dW rfl (bx (K:=K) (aV qy hr rfl aW (aj (rv 0) ak))) (aZ (i:=1) oJ.nd rfl (Or.inl rfl)) (aC (fL (HS (vD (m9 (aV uL hr rfl aW (aj (rv 0) (aj (rv 1) ak)))) (qN (bM Hs (aV mF hr rfl aW (aj (rv 0) (aj (rv 1) ak))) aH (cu _))))) (aC (aY (cX ak))) bV))) (aC (aY (cX (aj (cX ak) ak))))),?_⟩;refine aF (fun zzs H1=>Same H H1/\kI zs w=[[]]) (fun R hR=>?_) ?_
  ·refine⟨_,rfl,x,zs,w,rfl,vt,fun q H1 f1=>?_⟩;obtain⟨us,eu,Du⟩:=f1.ls;have lu:us.length=(bI zs.length w).length:=by rw[Du.length,aU]
   refine⟨q,rfl,⟨_,SqL.of eu⟩,?_⟩;refine dh (K:=K) (xs:=us) (fun i zzs H2=>∃ v1:Option V,Same H1 H2/\(∀ c∈(bI zs.length w).take i,Iz zs w c=false)/\zzs=[zzR x,v1])
    ⟨none,Same.refl _,(fun c hc=>by cases hc),rfl⟩ (fun i zzs H2 _ hh=>by obtain⟨_,g,_⟩:=hh;exact SqL.of (g _ _ eu)) (fun i u zzs H2 hi hh=>?_) (fun zzs H2 hh=>?_)
   ·obtain⟨v1,g1,g2,rfl⟩:=hh;obtain⟨d,ed,du⟩:=Du.get hi;rw[cU] at ed;obtain⟨c,ec,rfl⟩:=jC.mp ed;have cf:=fB ec;have hin:=dI.mp cf;have sA:=f1.same.trans g1;have nxt:∀ H3,Same H2 H3->Iz zs w c=false->∃ v1:Option V,Same H1 H3/\(∀ c∈(bI zs.length w).take (i+1),Iz zs w c=false)/\[some (V.ref x),some u]=[zzR x,v1]:=fun H3 s3 hb=>⟨_,g1.trans s3,fun y hy=>by
     rw[jf,ec] at hy;rcases cO.mp hy with z|z
     ·exact g2 y z
     ·rw[dD.mp z];exact hb,rfl⟩
    refine⟨_,rfl,_,rfl,x,u,zs,w,c,rfl,vt.mono sA,du.mono g1,hin,fun H3 s3=>⟨_,rfl,?_⟩⟩;refine eV (fun h1=>?_) (fun h1=>?_)
    ·have ho:aR zs w c=false:=by
      unfold yS at h1;rw[oR,qp] at h1;exact h1.1
     refine⟨_,rfl,_,rfl,x,u,zs,w,c,rfl,vt.mono (sA.trans s3),du.mono (g1.trans s3),hin,ho,?_⟩;refine⟨_,_,rfl,rfl,_,rfl,?_⟩;have e:Iz zs w c=decide (0<iG zs c):=by unfold Iz;rw[h1];rfl
     refine eV (fun h2=>?_) (fun h2=>nxt H3 s3 (by rw[e];exact h2));refine⟨by decide,fun q3 n3=>hq _ _ ((sA.trans s3).and n3) ?_⟩;have:kI zs w=[]:=aK (List.any_eq_true.mpr ⟨c,cf,by rw[e];exact h2⟩);rw[this];exact Ls.new n3 .nil
    ·exact nxt H3 s3 (by unfold Iz;rw[h1];rfl)
   ·obtain⟨v1,g1,g2,rfl⟩:=hh;rw[lu,jE] at g2;refine hR _ _ ⟨f1.same.trans g1,aG fun z=>?_⟩;obtain⟨c,hc,hb⟩:=List.any_eq_true.mp z;rw[g2 c hc] at hb;cases hb
  rintro zzs H1 ⟨s1,e1⟩;refine⟨by decide,fun q1 n1=>⟨sz rfl,fun q2 n2=>?_⟩⟩;have t1:=Same.put (o:=.lst []) n1;refine hq _ _ (s1.trans (t1.and n2)) ?_;rw[e1];exact Ls.new n2 (.cons (Ls.new n1 .nil).den .nil)
theorem Ci{H0 H:Hp}{q:Addr}:∀ {qs:List Addr} {ps:List (List Cell)},qs.length=ps.length->(∀(i:Nat)(a:Addr)(p:List Cell),qs[i]?=some a->ps[i]?=some p->Ls K H a (p.map aA))->aN K H (qs.map V.ref) (ps.map vH)
 |[],[],_,_=>.nil
 |a::qs,p::ps,hl,h=>.cons (h 0 a p rfl rfl).den (Ci (H0:=H0) (q:=q) (Nat.succ.inj hl) fun i b c h1 h2=>h (i+1) b c h1 h2)
theorem T6{H0 H H':Hp}{q d:Addr}{qs:List Addr}{ps:List (List Cell)}{us:List V}{o:HO}(p:p8 K H0 H q qs ps)(s:SameBut d H H')(e:H d=some (.lst us))(e0:H0 d=some o)(n:q≠d):p8 K H0 H' q qs ps:=
 ⟨s _ _ p.at_ n,p.len,fun i a c h1 h2=>s.ls e (fun z=>by have:=p.new a (fB h1);rw[z,e0] at this;cases this) (p.ls i a c h1 h2),p.new,p.nd,p.nq⟩
theorem vC{zs:List Str}{w:Nat}:∀(cs:List Cell)(ps:List (List Cell)),(gB zs w cs ps).length<=ps.length+cs.length
 |[],ps=>by unfold gB;exact bR _
 |c::cs,ps=>by
  unfold gB;by_cases h:∃ p∈ps,c∈p
  ·rw[aK h];have:=vC (zs:=zs) (w:=w) cs ps;rw[fO];lia
  ·rw[aG h];have:=vC (zs:=zs) (w:=w) cs (ps++[cC zs w c]);rw[dB,qm] at this;rw[fO];lia
theorem Cg{zs:List Str}{w:Nat}(v:Vw zs w):(aO zs w).length<=36:=by
 have h1:=vC (zs:=zs) (w:=w) (bJ zs w) [];have h2:(bJ zs w).length<=36:=cP (iK _ _) (eG v);unfold aO;rw[wu] at h1;lia
theorem CK{H H2:Hp}{q:Addr}{us:List V}{ds:List Dt}{v:V}{d:Dt}(D:aN K (del q H) us ds)(s:Same H H2)(dv:Den K (del q H2) v d):aN K (del q (upd H2 q (.lst (us++[v])))) (us++[v]) (ds++[d]):=by
 have sb:SameBut q H2 (upd H2 q (.lst (us++[v]))):=(SameBut.refl q _).put;exact(D.mono ((s.but q).trans sb).del).append (.cons (dv.mono sb.del) .nil)
theorem Jv{f:Addr}{fd:FuncData} (F:Fun K "choices" "choices" vJ f fd) (T:Txt K mg Z) (CG:Df P w K mg base 5 "parts" ["view"] (Nq K Z.View)) (uO:Df P w K mg base 5 "layings" ["view","cell"] (Cp K Z.View Z.NoCell Z.TooGreat)) (Qw:Df P w K mg base 4 "far" ["view"] (oE K Z.View jQ)) (jZ:Df P w K mg base 5 "lone_layings" ["view"] (Np K Z.View)) :
  cg P w K mg base (CXE P w) 6 f fd ["view"] (qP K Z.View Z.TooGreat):=by
 refine F.HN ou (fun vs H Q E h=>?_) (fun cdv A outer s H vs Q E hr h=>?_)
 ·obtain⟨x,zs,w,rfl,_⟩:=h;rfl
 ·obtain⟨x,zs,w,rfl,vt,he,hq⟩:=h;refine⟨_,(au (RS.nox (aP (i:=1) ou.nd rfl (Or.inl rfl) (cX (aj (dR (aj (cX ak) (aj (aV jZ hr rfl aW (aj (rv 0) ak)) ak))) ak)))) (au (cJ PassesOwn.leaving rfl (bx (K:=K) (aV CG hr rfl aW (aj (rv 0) ak))) (aZ (i:=2) ou.nd rfl (Or.inl rfl)) (aC (gU (mU (K:=K) lW oK oM eE (rv 1) (aj (dR (aj (rv 2) (aj (aV uO hr rfl ud (aj (rv 0) (aj (dO (dN (K:=K)) (rv 2) aH) ak))) ak))) ak))))) (au (RS.nox (cJ dW rfl (bx (K:=K) (aV Qw hr rfl aW (aj (rv 0) ak))) (aZ (i:=3) ou.nd rfl (Or.inl rfl)) (aC (gU (mU (K:=K) lW oK oM eE (rv 1) (aj (dR (aj (cX (aj (rv 3) ak)) (aj (cX (aj (cX ak) (aj (cX (aj (rv 3) ak)) ak))) ak))) ak)))))) (aC (RS.nox (aY (rv 1))))))),?_⟩;have h6:=vt.vw.le;have w6:=vt.vw.w6;obtain⟨pok,_⟩:=jq (zs:=zs) (w:=w) h6 w6;refine aF (fun zzs H1=>∃(q:Addr)(us:List V),H q=none/\Same H H1/\H1 q=some (.lst us)/\aN K (del q H1) us [chD ([],kI zs w)]/\zzs=[zzR x,zzR q,zzN,zzN]) (fun R hR=>?_) ?_
  ·refine⟨by decide,fun q1 n1=>?_⟩;have t1:=Same.put (o:=.lst []) n1;refine⟨_,rfl,x,zs,w,rfl,vt.mono t1,fun ql H1 s1 ll=>⟨sz rfl,fun t nt=>⟨sz rfl,fun q nq=>?_⟩⟩⟩;have t2:=Same.put (o:=.tup [V.ref q1,V.ref ql]) nt;refine hR _ _ ⟨q,_,(t1.trans (s1.trans t2)).free nq,(t1.trans (s1.trans t2)).and nq,aD,?_,rfl⟩;have sd:Same (upd H1 t (.tup [V.ref q1,V.ref ql])) (del q (upd (upd H1 t (.tup [V.ref q1,V.ref ql])) q (.lst [.ref t]))):=fun b o eb=>by
    have nb:b≠q:=fun z=>by rw[z,nq] at eb;cases eb
    rw[kh nb,bA nb];exact eb
   refine .cons (Den.mono sd ?_) .nil;exact Den.tup aD (.cons (((Ls.new n1 .nil:Ls K _ q1 []).mono (s1.trans t2)).den) (.cons (ll.mono t2).den .nil))
  rintro zzs H1 ⟨q,us,nq,s1,eq1,D1,rfl⟩;refine aF (fun zzs H2=>∃(us:List V)(v2:Option V),Same H H2/\H2 q=some (.lst us)/\aN K (del q H2) us (([],kI zs w)::(aO zs w).map (fun p=>(p,eY zs w p)) |>.map chD)/\(∀ p∈aO zs w,p.length<=12)/\(aO zs w).length<=36/\zzs=[zzR x,zzR q,v2,zzN]) (fun R hR=>?_) ?_
  ·refine⟨_,rfl,x,zs,w,rfl,vt.mono s1,fun pl qs H2 npl s2 ps=>⟨pl,rfl,⟨_,SqL.of ps.at_⟩,?_⟩⟩;have npq:pl≠q:=(bG eq1 npl).symm;have lpp:=Cg vt.vw;refine dh (K:=K) (xs:=qs.map V.ref) (fun i zzs H3=>∃(us:List V)(v2:Option V),Same H H3/\p8 K H1 H3 pl qs (aO zs w)/\H3 q=some (.lst us)/\aN K (del q H3) us (([],kI zs w)::((aO zs w).take i).map (fun p=>(p,eY zs w p)) |>.map chD)/\(∀ p∈(aO zs w).take i,p.length<=12)/\zzs=[zzR x,zzR q,v2,zzN])
    ⟨us,none,s1.trans s2,ps,s2 _ _ eq1,D1.mono (s2.but q).del,(fun p hp=>by cases hp),rfl⟩ (fun i zzs H3 _ hh=>by obtain⟨_,_,_,p3,_⟩:=hh;exact SqL.of p3.at_) (fun i u zzs H3 hi hh=>?_) (fun zzs H3 hh=>?_)
   ·obtain⟨us,v2,sh,ps3,eq3,D3,Vv,rfl⟩:=hh;rw[cU] at hi;obtain⟨a,ea,rfl⟩:=jC.mp hi;have iq:i<qs.length:=(j9.mp ea).1;have ip:i<(aO zs w).length:=by rw[<- ps.len];exact iq
    have ep:(aO zs w)[i]?=some (aO zs w)[i]:=ig ip;generalize (aO zs w)[i]=p at ep;have la:=ps3.ls i a p ea ep;have pm:p∈aO zs w:=fB ep;obtain⟨y,hy,ey⟩:=pok.of p pm;have pp:Part zs w p:=by rw[ey];exact Part.join h6 w6 hy
    obtain⟨c0,p',rfl⟩:∃ c0 p',p=c0::p':=by
     cases p with
     |nil=>exact absurd rfl pp.ne
     |cons c0 p'=>exact⟨c0,p',rfl⟩
    have c0m:c0∈cC zs w y:=by rw[<- ey];exact cG
    have ej:cC zs w c0=c0::p':=by rw[kj h6 w6 hy c0m,<- ey]
    have c0e:c0∈bJ zs w:=iy.edge hy ((cM (gZ hy)).mp c0m);obtain⟨xs,ex,Dx⟩:=id la;obtain⟨u0,xs',rfl⟩:∃ u0 xs',xs=u0::xs':=by cases Dx;exact⟨_,_,rfl⟩
    have d0:Den K H3 u0 (aA c0):=by cases Dx with|cons h _=>exact h
    have lus:us.length<=37:=by rw[D3.length,aU,fO,aU,qt];lia
    refine⟨_,rfl,.inl ⟨rfl,_,SqL.of eq3⟩,?_⟩;refine⟨_,rfl,_,rfl,_,rfl,.inl ⟨a,_,_,_,rfl,rfl,SqL.of ex,gH,?_⟩⟩;refine⟨x,u0,zs,w,c0,rfl,vt.mono sh,d0,fun hc=>absurd c0e hc,fun _ hl H' s'=>he ⟨c0::p',pm,by rw[<- ej];exact hl⟩ _ (sh.trans s'),fun _ hl ql qls H4 nql s4 psl=>?_⟩;rw[ej] at hl psl;have eq4:=s4 _ _ eq3;refine⟨sz rfl,fun t nt=>?_⟩;have s5:=Same.put (o:=.tup [V.ref a,V.ref ql]) nt;dsimp only[rW];refine mX (K:=K) (s5 _ _ eq4) (by lia) ?_;have sH:=s4.trans s5;have sb:SameBut q (upd H4 t (.tup [V.ref a,V.ref ql])) (upd (upd H4 t (.tup [V.ref a,V.ref ql])) q (.lst (us++[.ref t]))):=(SameBut.refl q _).put;have naq:a≠q:=fun z=>by have:=ps3.new a (fB ea);rw[z,eq1] at this;cases this
    have ntq:t≠q:=fun z=>by rw[z,eq4] at nt;cases nt
    have a2B:ql≠q:=fun z=>by rw[z,eq3] at nql;cases nql
    refine⟨us++[.ref t],_,sb.of (sh.trans sH) nq,T6 (ps3.mono sH) sb (s5 _ _ eq4) eq1 npq,aD,?_,fun p hp=>?_,rfl⟩
    ·have et:((aO zs w).take (i+1)).map (fun p=>(p,eY zs w p))=((aO zs w).take i).map (fun p=>(p,eY zs w p))++[(c0::p',eY zs w (c0::p'))]:=by
      rw[jf,ep,dU];rfl
     rw[et,<- List.cons_append,dU];refine CK D3 sH ?_;refine Den.tup (by rw[kh ntq];exact aD) (.cons (uZ (s5 _ _ eq4) naq (la.mono sH)).den (.cons ?_ .nil));refine Den.lst (SqL.of (show del q _ ql=_ by rw[kh a2B];exact s5 _ _ psl.at_)) (Ci (H0:=H3) (q:=ql) psl.len fun j b r h1 h2=>uZ (s5 _ _ eq4) (fun z=>by have:=psl.new b (fB h1);rw[z,eq3] at this;cases this) ((psl.ls j b r h1 h2).mono s5))
    ·rw[jf,ep] at hp;rcases cO.mp hp with z|z
     ·exact Vv p z
     ·rw[dD.mp z];exact hl
   ·obtain⟨us,v2,sh,ps3,eq3,D3,Vv,rfl⟩:=hh;rw[aU,ps.len,jE] at D3 Vv;exact hR _ _ ⟨us,v2,sh,eq3,D3,Vv,lpp,rfl⟩
  rintro zzs H2 ⟨us,v2,s2,eq2,D2,a0S,lp,rfl⟩;refine aF (fun zzs H3=>∃(us:List V)(v2 v3:Option V),Same H H3/\H3 q=some (.lst us)/\aN K (del q H3) us ((chL zs w).map chD)/\zzs=[zzR x,zzR q,v2,v3]) (fun R hR=>?_) ?_
  ·refine⟨_,rfl,x,zs,w,rfl,vt.mono s2,fun fl H3 ff=>?_⟩;obtain⟨fs,ef,Df'⟩:=ff.ls;have lfs:fs.length=(jQ zs w).length:=by rw[Df'.length,aU]
   have a2X:(jQ zs w).length<=36:=cP (iK _ _) (eG vt.vw);have nfq:fl≠q:=(bG eq2 ff.new).symm;refine⟨fl,rfl,⟨_,SqL.of ef⟩,?_⟩;refine dh (K:=K) (xs:=fs) (fun i zzs H4=>∃(us:List V)(v3:Option V),Same H H4/\H4 fl=some (.lst fs)/\aN K H4 fs ((jQ zs w).map aA)/\H4 q=some (.lst us)/\aN K (del q H4) us ((([],kI zs w)::((aO zs w).map (fun p=>(p,eY zs w p))++((jQ zs w).take i).map fun c=>([c],[[],[c]]))).map chD)/\zzs=[zzR x,zzR q,v2,v3])
    ⟨us,none,s2.trans ff.same,ef,Df',ff.same _ _ eq2,by rw[Ld,Fx,xG];exact D2.mono (ff.same.but q).del,rfl⟩ (fun i zzs H4 _ hh=>by obtain⟨_,_,_,e,_⟩:=hh;exact SqL.of e) (fun i u zzs H4 hi hh=>?_) (fun zzs H4 hh=>?_)
   ·obtain⟨us,v3,sh,ef4,Df4,eq4,D4,rfl⟩:=hh;obtain⟨d,ed,du⟩:=Df4.get hi;rw[cU] at ed;obtain⟨c,ec,rfl⟩:=jC.mp ed;have lus:us.length<=100:=by rw[D4.length,aU,fO,dB,aU,aU,qt];lia
    refine⟨_,rfl,.inl ⟨rfl,_,SqL.of eq4⟩,_,rfl,sz rfl,fun q1 n1=>⟨by decide,fun q2 n2=>⟨_,rfl,sz rfl,fun q3 n3=>⟨sz rfl,fun q4 n4=>⟨sz rfl,fun t nt=>?_⟩⟩⟩⟩⟩;have t1:=Same.put (o:=.lst [u]) n1;have t2:=Same.put (o:=.lst []) n2;have t3:=Same.put (o:=.lst [u]) n3;have t4:=Same.put (o:=.lst [V.ref q2,V.ref q3]) n4;have t5:=Same.put (o:=.tup [V.ref q1,V.ref q4]) nt;have s14:=t1.trans (t2.trans (t3.trans t4));have sH:=s14.trans t5;have eqH:=sH _ _ eq4;dsimp only[rW];refine mX (K:=K) eqH (by lia) ?_;refine⟨_,_,(SameBut.refl q _).put.of (sh.trans sH) nq,(SameBut.refl q _).put _ _ (sH _ _ ef4) nfq,(SameBut.refl q _).put.cells eqH (Df4.mono sH),aD,?_,rfl⟩;have et:(([],kI zs w)::((aO zs w).map (fun p=>(p,eY zs w p))++((jQ zs w).take (i+1)).map fun c=>([c],[[],[c]])))=(([],kI zs w)::((aO zs w).map (fun p=>(p,eY zs w p))++((jQ zs w).take i).map fun c=>([c],[[],[c]])))++[([c],[[],[c]])]:=by
     rw[jf,ec,dU,List.cons_append,xq];rfl
    rw[et,dU];have ne:∀ {b:Addr} {G:Hp},Same H4 G->G b=none->b≠q:=fun g e z=>by rw[z,g _ _ eq4] at e;cases e
    have na:=ne (Same.refl _) n1;have nb:=ne t1 n2;have nc:=ne (t1.trans t2) n3;have nd:=ne (t1.trans (t2.trans t3)) n4;have nt':=ne s14 nt;have l1:Ls K (upd H4 q1 (.lst [u])) q1 ([c].map aA):=.new n1 (.cons du .nil);have l2:Ls K (upd (upd H4 q1 (.lst [u])) q2 (.lst [])) q2 (([]:List Cell).map aA):=.new n2 .nil;have l3:Ls K (upd (upd (upd H4 q1 (.lst [u])) q2 (.lst [])) q3 (.lst [u])) q3 ([c].map aA):=.new n3 (.cons (du.mono (t1.trans t2)) .nil);refine CK D4 sH ?_;refine Den.tup (by rw[kh nt'];exact aD) (.cons (uZ eqH na (l1.mono (t2.trans (t3.trans (t4.trans t5))))).den (.cons ?_ .nil));exact Den.lst (SqL.of (show del q _ q4=_ by rw[kh nd];exact t5 _ _ aD)) (.cons (uZ eqH nb (l2.mono (t3.trans (t4.trans t5)))).den (.cons (uZ eqH nc (l3.mono (t4.trans t5))).den .nil))
   ·obtain⟨us,v3,sh,ef4,Df4,eq4,D4,rfl⟩:=hh;rw[lfs,jE] at D4;exact hR _ _ ⟨us,v2,v3,sh,eq4,D4,rfl⟩
  rintro zzs H3 ⟨us,v2,v3,s3,eq3,D3,rfl⟩;exact⟨_,rfl,hq a0S q _ ⟨s3,nq,us,eq3,D3.mono yL⟩⟩
end
end My
namespace My
open PySem L2
def cI(n:Nat)(ls:List (List Cell)):List Int:=(List.range (n+1)).map fun k:Nat=>(((ls.map fun r=>(r.length:Int)).count (k:Int):Nat):Int)
theorem eO(n:Nat)(ls:List (List Cell)):(cI n ls).length=n+1:=by unfold cI;rw[aU,qY]
theorem xR{n:Nat}{ls:List (List Cell)}{k:Nat}(hk:k<=n):(cI n ls)[k]?=some (((ls.map fun r=>(r.length:Int)).count (k:Int):Nat):Int):=by
 unfold cI;rw[cU,List.getElem?_range (by lia)];rfl
theorem QV(n:Nat):cI n []=List.replicate (n+1) 0:=by
 refine List.eq_replicate_iff.mpr ⟨eO _ _,fun x hx=>?_⟩;obtain⟨k,_,rfl⟩:=bW.mp hx
 rfl
theorem O6{n:Nat}{ls:List (List Cell)}{l:List Cell}(hl:l.length<=n):cI n (ls++[l])=(cI n ls).set l.length ((((ls.map fun r=>(r.length:Int)).count (l.length:Int):Nat):Int)+1):=by
 refine Aa fun k=>?_
 by_cases hk:k<=n
 ·rw[xR hk,List.getElem?_set,dU,List.count_append];by_cases e:l.length=k
  ·rw[aK e,aK (by rw[eO];lia),<- e];simp
  ·rw[aG e,xR hk];have:List.count (k:Int) (List.map (fun r:List Cell=>(r.length:Int)) [l])=0:=List.count_eq_zero.mpr (by simp;lia);rw[this,sO]
 ·rw[zR (by rw[eO];lia),zR (by rw[Fl,eO];lia)]
theorem J4{n:Nat}{ls:List (List Cell)}(h:ls.length<=5000):∀ x∈cI n ls,0<=x/\x<2^64:=fun x hx=>by
 obtain⟨k,_,rfl⟩:=bW.mp hx;have:=List.count_le_length (a:=(k:Int)) (l:=ls.map fun r:List Cell=>(r.length:Int));rw[aU] at this;lia
def Mq(a b:List Int)(j k:Nat)(c:List Int):List Int:=c.set (j+k) (c.getD (j+k) 0+a.getD j 0*b.getD k 0)
def vB(a b:List Int)(j:Nat):Nat->List Int->List Int
 |0,c=>c
 |k+1,c=>Mq a b j k (vB a b j k c)
def yU(a b:List Int):Nat->List Int->List Int
 |0,c=>c
 |j+1,c=>vB a b j b.length (yU a b j c)
def mulL(a b:List Int):List Int:=yU a b a.length (List.replicate (a.length+b.length-1) 0)
theorem kJ(a b:List Int)(j:Nat):∀(k:Nat)(c:List Int),(vB a b j k c).length=c.length
 |0,_=>rfl
 |k+1,c=>by unfold vB Mq;rw[Fl,kJ]
theorem pJ(a b:List Int):∀(j:Nat)(c:List Int),(yU a b j c).length=c.length
 |0,_=>rfl
 |j+1,c=>by unfold yU;rw[kJ,pJ]
theorem RQ(a b:List Int):(mulL a b).length=a.length+b.length-1:=by unfold mulL;rw[pJ,zQ]
def iU(a:List Int)(chs:List (List Cell×List (List Cell))):List Int:=chs.foldl (fun a ch=>mulL a (cI ch.1.length ch.2)) a
def tZ(a:List Int)(n:Int):Int:=if 0<=n/\n<a.length then a.getD n.toNat 0 else 0
theorem Rt{n j:Nat}(h:j<n):ixN n (j:Int)=some j:=by
 unfold ixN;rw[aK (by lia),aK (by lia)];simp
theorem ints_set(ns:List Int)(j:Nat)(x:Int):(ns.map V.int).set j (.int x)=(ns.set j x).map V.int:=List.map_set.symm
theorem tU{ns:List Int}{j:Nat}(h:j<ns.length):(ns.map V.int)[j]?=some (.int (ns.getD j 0)):=by
 rw[cU,ig h,dX,ig h];rfl
theorem Ji(z:V):∀ k:Nat,(List.replicate k [z]).flatten=List.replicate k z
 |0=>rfl
 |k+1=>by rw[wZ,Ar,Ji z k,wZ];rfl
def Ay(ch:List Cell×List (List Cell)):Prop:=ch.1.length<=36/\(∀ l∈ch.2,l.length<=ch.1.length)/\ch.2.length<=5000
def a1P(K:ao):Sp:=fun vs H Q _=>∃(v:V)(ch:List Cell×List (List Cell)),vs=[v]/\Den K H v (chD ch)/\Ay ch/\∀ q H',Same H H'->H q=none->H' q=some (.lst ((cI ch.1.length ch.2).map V.int))->Q (.ref q) H'
def Ub(K:ao):Sp:=fun vs H Q _=>∃(p q:Addr)(a b:List Int),vs=[.ref p,.ref q]/\H p=some (.lst (a.map V.int))/\H q=some (.lst (b.map V.int))/\1<=a.length/\a.length<=5000/\b.length<=40/\(∀ x∈b,0<=x/\x<2^64)/\∀ r H',Same H H'->H r=none->H' r=some (.lst ((mulL a b).map V.int))->Q (.ref r) H'
def Ua(K:ao):Sp:=fun vs H Q _=>∃(p:Addr)(n:Int)(chs:List (List Cell×List (List Cell))),vs=[.ref p,.int n]/\Ls K H p (chs.map chD)/\(∀ ch∈chs,Ay ch)/\chs.length<=100/\∀ H',Same H H'->Q (.int (tZ (iU [1] chs) n)) H'
def Ni(K:ao)(C TG:Addr):Sp:=fun vs H Q E=>∃(x:Addr)(n:Int)(zs:List Str)(w:Nat),vs=[.ref x,.int n]/\dM C H x zs w /\
 ((∃ p∈aO zs w,12<p.length)->∀ H',Same H H'->E (.ref TG) none H')/\((∀ p∈aO zs w,p.length<=12)->∀ H',Same H H'->Q (.int (tZ (iU [1] (chL zs w)) n)) H')
section
variable{P:Program}{w:World}{K:ao}{mg:Str->Option Value}{base:Heap}{Z:Adr}
theorem Jf{H:Hp}{v:V}{ch:List Cell×List (List Cell)}(h:Den K H v (chD ch)):∃(t a b:Addr)(xs ys:List V),v=.ref t/\H t=some (.tup [.ref a,.ref b])/\SqL K H a xs/\aN K H xs (ch.1.map aA)/\SqL K H b ys/\aN K H ys (ch.2.map vH):=by
 unfold chD at h
 cases h with
 |tup ht hs=>
  cases hs with
  |cons h1 hs=>
   cases hs with
   |cons h2 hs=>
    cases hs
    cases h1 with
    |lst e1 D1=>
     cases h2 with
     |lst e2 D2=>exact⟨_,_,_,_,_,rfl,ht,e1,D1,e2,D2⟩
theorem Hj{f:Addr}{fd:FuncData} (F:Fun K "by_stones" "by_stones" pU f fd) (T:Txt K mg Z) :
  cg P w K mg base (CXE P w) 1 f fd ["choice"] (a1P K):=by
 refine F.rok oh (fun vs H Q E h=>?_) (fun cdv A outer s H vs Q E hr h=>?_)
 ·obtain⟨v,ch,rfl,_⟩:=h;rfl
 ·obtain⟨v,ch,rfl,dv,⟨h36,hrow,h50⟩,hq⟩:=h;refine⟨_,(au (aP (i:=1) oh.nd rfl (Or.inl rfl) (cT iw (cX (aj aH ak)) (cT c7 (bf (fu (K:=K)) rfl T.eF cH (aj (dO (dN (K:=K)) (rv 0) aH) ak)) aH))) (au (cJ dW rfl (bx (K:=K) (dO (dN (K:=K)) (rv 0) aH)) (aZ (i:=2) oh.nd rfl (Or.inl rfl)) (aC (N7 (K:=K) (rv 1) (bf (fu (K:=K)) rfl T.eF cH (aj (rv 2) ak)) aH))) (aC (aY (rv 1))))),?_⟩;obtain⟨t,a,b,xs,ys,rfl,et,ea,Da,eb,Db⟩:=Jf dv;have lxs:xs.length=ch.1.length:=by rw[Da.length,aU]
  have lys:ys.length=ch.2.length:=by rw[Db.length,aU]
  refine aF (fun zzs H1=>∃ q:Addr,H q=none/\Same H H1/\H1 q=some (.lst ((cI ch.1.length []).map V.int))/\zzs=[zzR t,zzR q,zzN]) (fun R hR=>?_) ?_
  ·refine⟨sz rfl,fun q1 n1=>?_⟩;have t1:=Same.put (o:=.lst [V.int 0]) n1;refine⟨_,rfl,.inr (.inl ⟨t,_,_,_,rfl,rfl,SqT.of (t1 _ _ et),cW (j:=0) rfl,?_⟩)⟩;refine .inl ⟨a,_,rfl,.inl (t1.seq ea),?_⟩;refine⟨_,aD,?_,?_,?_,fun q nq=>?_⟩
   ·lia
   ·lia
   ·exact small (by show 1*(_:Nat)<=10000;lia)
   ·refine hR _ _ ⟨q,t1.free nq,t1.and nq,?_,rfl⟩;rw[aD,QV,Vq];have e:((xs.length:Int)+1).toNat=ch.1.length+1:=by lia
    rw[e,Ji]
  rintro zzs H1 ⟨q,nq,s1,eq1,rfl⟩;refine aF (fun zzs H2=>∃ v2:Option V,Same H H2/\H2 q=some (.lst ((cI ch.1.length ch.2).map V.int))/\zzs=[zzR t,zzR q,v2]) (fun R hR=>?_) ?_
  ·refine⟨_,rfl,.inr (.inl ⟨t,_,_,_,rfl,rfl,SqT.of (s1 _ _ et),cW (j:=1) rfl,?_⟩)⟩;refine⟨b,rfl,⟨_,s1.seq eb⟩,?_⟩;refine dh (K:=K) (xs:=ys) (fun i zzs H2=>∃ v2:Option V,Same H H2/\H2 q=some (.lst ((cI ch.1.length (ch.2.take i)).map V.int))/\zzs=[zzR t,zzR q,v2])
    ⟨none,s1,eq1,rfl⟩ (fun i zzs H2 _ hh=>by obtain⟨_,g,_⟩:=hh;exact g.seq eb) (fun i u zzs H2 hi hh=>?_) (fun zzs H2 hh=>?_)
   ·obtain⟨v2,g1,g2,rfl⟩:=hh;obtain⟨d,ed,du⟩:=Db.get hi;rw[cU] at ed;obtain⟨l,el,rfl⟩:=jC.mp ed;have hl:=hrow l (fB el);obtain⟨la,rfl⟩:∃ a,u=.ref a:=by cases du;exact⟨_,rfl⟩
    refine⟨_,rfl,_,rfl,?_⟩;dsimp only[rW];refine vG (du.mono g1) ?_;rw[aU];have hj:l.length<(cI ch.1.length (ch.2.take i)).length:=by rw[eO];lia
    refine⟨q,_,l.length,_,rfl,rfl,SqL.of g2,tU hj,_,_,rfl,rfl,q,_,_,l.length,rfl,rfl,g2,Rt (by rw[aU];exact hj),?_⟩;refine⟨_,(SameBut.refl q _).put.of g1 nq,?_,rfl⟩;have e:(cI ch.1.length (ch.2.take i)).getD l.length 0=((((ch.2.take i).map fun r=>(r.length:Int)).count (l.length:Int):Nat):Int):=by
     rw[dX,xR hl];rfl
    rw[aD,ints_set,jf,el,e];exact congrArg (fun x=>some (HO.lst (x.map V.int))) (O6 hl).symm
   ·obtain⟨v2,g1,g2,rfl⟩:=hh;rw[lys,jE] at g2;exact hR _ _ ⟨v2,g1,g2,rfl⟩
  rintro zzs H2 ⟨v2,s2,e2,rfl⟩;exact⟨_,rfl,hq q _ s2 nq e2⟩
theorem Jz{f:Addr}{fd:FuncData} (F:Fun K "product" "product" vP f fd) (T:Txt K mg Z) :
  cg P w K mg base (CXE P w) 1 f fd ["one","other"] (Ub K):=by
 refine F.rok oA (fun vs H Q E h=>?_) (fun cdv A outer s H vs Q E hr h=>?_)
 ·obtain⟨p,q,a,b,rfl,_⟩:=h;rfl
 ·obtain⟨p,q,a,b,rfl,ep,eq,a1,a5,b4,bs,hq⟩:=h;refine⟨_,(au (aP (i:=2) oA.nd rfl (Or.inl rfl) (cT iw (cX (aj aH ak)) (cT JF (cT c7 (bf (fu (K:=K)) rfl T.eF cH (aj (rv 0) ak)) (bf (fu (K:=K)) rfl T.eF cH (aj (rv 1) ak))) aH))) (au (cJ dW rfl (fK rfl T.gw (aj (bf (fu (K:=K)) rfl T.eF cH (aj (rv 0) ak)) ak)) (aZ (i:=3) oA.nd rfl (Or.inl rfl)) (aC (cJ dW rfl (fK rfl T.gw (aj (bf (fu (K:=K)) rfl T.eF cH (aj (rv 1) ak)) ak)) (aZ (i:=4) oA.nd rfl (Or.inl rfl)) (aC (N7 (K:=K) (rv 2) (cT c7 (rv 3) (rv 4)) (cT iw (dO (dN (K:=K)) (rv 0) (rv 3)) (dO (dN (K:=K)) (rv 1) (rv 4)))))))) (aC (aY (rv 2))))),?_⟩;refine aF (fun zzs H1=>∃ r:Addr,H r=none/\Same H H1/\H1 r=some (.lst ((List.replicate (a.length+b.length-1) 0).map V.int))/\zzs=[zzR p,zzR q,zzR r,zzN,zzN]) (fun R hR=>?_) ?_
  ·refine⟨sz rfl,fun q1 n1=>?_⟩;have t1:=Same.put (o:=.lst [V.int 0]) n1;refine⟨_,rfl,.inl ⟨p,_,rfl,.inl (SqL.of (t1 _ _ ep)),?_⟩⟩;refine⟨_,rfl,.inl ⟨q,_,rfl,.inl (SqL.of (t1 _ _ eq)),?_⟩⟩;refine⟨_,_,rfl,rfl,?_⟩;rw[aU,aU];have e:((a.length:Int)+(b.length:Int)-1).toNat=a.length+b.length-1:=by lia
   refine⟨_,aD,?_,?_,?_,fun r nr=>?_⟩
   ·lia
   ·lia
   ·exact small (by show 1*(_:Nat)<=10000;lia)
   ·refine hR _ _ ⟨r,t1.free nr,t1.and nr,?_,rfl⟩;rw[aD,e,Ji,Vq]
  rintro zzs H1 ⟨r,nr,s1,er,rfl⟩;have npr:p≠r:=bG ep nr;have nqr:q≠r:=bG eq nr;have keep:∀ {H2:Hp} {us:List V},Same H H2->Same H (upd H2 r (.lst us)):=fun g=>(SameBut.refl r _).put.of g nr
  refine aF (fun zzs H2=>∃ v3 v4:Option V,Same H H2/\H2 r=some (.lst ((mulL a b).map V.int))/\zzs=[zzR p,zzR q,zzR r,v3,v4]) (fun R hR=>?_) ?_
  ·refine⟨_,rfl,.inl ⟨p,_,rfl,.inl (SqL.of (s1 _ _ ep)),_,rfl,?_,?_,?_⟩⟩
   ·rw[aU];lia
   ·rw[aU];lia
   rw[aU,je];refine dZ (lo:=0) (n:=a.length) (fun j zzs H2=>∃ v3 v4:Option V,Same H H2/\H2 r=some (.lst ((yU a b j (List.replicate (a.length+b.length-1) 0)).map V.int))/\zzs=[zzR p,zzR q,zzR r,v3,v4])
    ⟨none,none,s1,er,rfl⟩ (fun j zzs H2 hj hh=>?_) (fun zzs H2 hh=>hR _ _ hh)
   obtain⟨v3,v4,g1,g2,rfl⟩:=hh;refine⟨_,rfl,.inl ⟨q,_,rfl,.inl (SqL.of (g1 _ _ eq)),_,rfl,?_,?_,?_⟩⟩
   ·rw[aU];lia
   ·rw[aU];lia
   rw[aU,je];refine dZ (lo:=0) (n:=b.length) (fun k zzs H3=>∃ v4:Option V,Same H H3/\H3 r=some (.lst ((vB a b j k (yU a b j (List.replicate (a.length+b.length-1) 0))).map V.int))/\zzs=[zzR p,zzR q,zzR r,zzI (0+j),v4])
    ⟨v4,g1,g2,rfl⟩ (fun k zzs H3 hk hh=>?_) (fun zzs H3 hh=>by obtain⟨v4,g3,g4,rfl⟩:=hh;exact⟨_,v4,g3,g4,rfl⟩)
   obtain⟨v4,g3,g4,rfl⟩:=hh;have hjk:j+k<(vB a b j k (yU a b j (List.replicate (a.length+b.length-1) 0))).length:=by rw[kJ,pJ,zQ];lia
   have e0:(0:Int)+(j:Int)+(0+(k:Int))=((j+k:Nat):Int):=by lia
   refine⟨_,rfl,_,rfl,_,rfl,?_⟩;dsimp only[Hv];rw[e0];refine⟨r,_,j+k,_,rfl,rfl,SqL.of g4,tU hjk,?_⟩;refine⟨_,rfl,_,rfl,.inl ⟨p,_,_,.int (a.getD j 0),rfl,rfl,SqL.of (g3 _ _ ep),?_,?_⟩⟩
   ·rw[ni];exact cW (tU hj)
   refine⟨_,rfl,_,rfl,.inl ⟨q,_,_,.int (b.getD k 0),rfl,rfl,SqL.of (g3 _ _ eq),?_,?_⟩⟩
   ·rw[ni];exact cW (tU hk)
   refine⟨.inr ?_,_,_,rfl,rfl,r,_,_,j+k,rfl,rfl,g4,Rt (by rw[aU];exact hjk),?_⟩
   ·have hb:b.getD k 0∈b:=by rw[dX,ig hk];exact n8 _
    have:=bs _ hb;lia
   ·refine⟨_,keep g3,?_,rfl⟩;rw[aD,ints_set];rfl
  rintro zzs H2 ⟨v3,v4,s2,e2,rfl⟩;exact⟨_,rfl,hq r _ s2 nr e2⟩
theorem Pr(a:List Int)(chs:List (List Cell×List (List Cell)))(ch:List Cell×List (List Cell)):iU a (chs++[ch])=mulL (iU a chs) (cI ch.1.length ch.2):=by unfold iU;rw[List.foldl_append];rfl
theorem Hg:∀(chs:List (List Cell×List (List Cell)))(a:List Int)(m:Nat),1<=a.length->a.length<=m->(∀ ch∈chs,Ay ch)->1<=(iU a chs).length/\(iU a chs).length<=m+chs.length*36
 |[],a,m,h1,h2,_=>⟨h1,by rw[wu];unfold iU;rw[List.foldl_nil];omega⟩
 |ch::chs,a,m,h1,h2,h=>by
  have c:=(h ch cG).1;have e:(mulL a (cI ch.1.length ch.2)).length=a.length+ch.1.length:=by rw[RQ,eO];lia
  have ih:=Hg chs (mulL a (cI ch.1.length ch.2)) (m+36) (by rw[e];lia) (by rw[e];lia) fun x hx=>h x (dw _ hx)
  rw[fO];unfold iU at *;rw[xH];lia
theorem PJ{f:Addr}{fd:FuncData} (F:Fun K "number_of" "number_of" pX f fd) (T:Txt K mg Z) (uQ:Df P w K mg base 1 "product" ["one","other"] (Ub K)) (oY:Df P w K mg base 1 "by_stones" ["choice"] (a1P K)) :
  cg P w K mg base (CXE P w) 2 f fd ["found","stones"] (Ua K):=by
 refine F.rok jU (fun vs H Q E h=>?_) (fun cdv A outer s H vs Q E hr h=>?_)
 ·obtain⟨p,n,chs,rfl,_⟩:=h;rfl
 ·obtain⟨p,n,chs,rfl,lp,ok,a2W,hq⟩:=h;refine⟨_,(au (aP (i:=2) jU.nd rfl (Or.inl rfl) (cX (aj aH ak))) (au (cJ dW rfl (bx (K:=K) (rv 0)) (aZ (i:=3) jU.nd rfl (Or.inl rfl)) (aC (aP (i:=2) jU.nd rfl (Or.inl rfl) (aV uQ hr rfl aW (aj (rv 2) (aj (aV oY hr rfl aW (aj (rv 3) ak)) ak)))))) (au (fL (o7 (pO mW wQ aH (rv 1) (bf (fu (K:=K)) rfl T.eF cH (aj (rv 2) ak)))) (aC (aY aH)) bV) (aC (aY (dO (dN (K:=K)) (rv 2) (rv 1))))))),?_⟩;obtain⟨us,eu,Du⟩:=lp;have lus:us.length=chs.length:=by rw[Du.length,aU]
  refine aF (fun zzs H1=>∃ q:Addr,Same H H1/\H1 q=some (.lst (([1]:List Int).map V.int))/\zzs=[zzR p,zzI n,zzR q,zzN]) (fun R hR=>?_) ?_
  ·exact⟨sz rfl,fun q nq=>hR _ _ ⟨q,Same.put nq,aD,rfl⟩⟩
  rintro zzs H1 ⟨q,s1,eq1,rfl⟩;refine aF (fun zzs H2=>∃(q:Addr)(v3:Option V),Same H H2/\H2 q=some (.lst ((iU [1] chs).map V.int))/\zzs=[zzR p,zzI n,zzR q,v3]) (fun R hR=>?_) ?_
  ·refine⟨_,rfl,p,rfl,⟨_,SqL.of (s1 _ _ eu)⟩,?_⟩;refine dh (K:=K) (xs:=us) (fun i zzs H2=>∃(q:Addr)(v3:Option V),Same H H2/\H2 q=some (.lst ((iU [1] (chs.take i)).map V.int))/\zzs=[zzR p,zzI n,zzR q,v3])
    ⟨q,none,s1,eq1,rfl⟩ (fun i zzs H2 _ hh=>by obtain⟨_,_,g,_⟩:=hh;exact SqL.of (g _ _ eu)) (fun i u zzs H2 hi hh=>?_) (fun zzs H2 hh=>?_)
   ·obtain⟨q,v3,g1,g2,rfl⟩:=hh;obtain⟨d,ed,du⟩:=Du.get hi;rw[cU] at ed;obtain⟨ch,ec,rfl⟩:=jC.mp ed;have co:=ok ch (fB ec);have ht:(chs.take i).length<=100:=by rw[qt];lia
    have hl:=Hg (chs.take i) [1] 1 (bR _) (bR _) fun x hx=>ok x (zU hx)
    refine⟨_,rfl,_,rfl,u,ch,rfl,du.mono g1,co,fun q2 H3 s3 n3 e3=>?_⟩;refine⟨q,q2,iU [1] (chs.take i),cI ch.1.length ch.2,rfl,s3 _ _ g2,e3,hl.1,by lia,by rw[eO];have:=co.1;lia,J4 co.2.2,fun r H4 s4 n4 e4=>?_⟩;refine⟨r,_,(g1.trans s3).trans s4,?_,rfl⟩;rw[jf,ec];show H4 r=some (.lst ((iU [1] (chs.take i++[ch])).map V.int));rw[Pr];exact e4
   ·obtain⟨q,v3,g1,g2,rfl⟩:=hh;rw[lus,jE] at g2;exact hR _ _ ⟨q,v3,g1,g2,rfl⟩
  rintro zzs H2 ⟨q,v3,s2,e2,rfl⟩;refine aF (fun zzs H3=>H3=H2/\(0<=n/\n<(iU [1] chs).length)/\zzs=[zzR p,zzI n,zzR q,v3]) (fun R hR=>?_) ?_
  ·refine⟨_,rfl,_,_,rfl,rfl,_,rfl,yC (m:=((iU [1] chs).length:Int)) (fun _ q'=>⟨_,rfl,.inl ⟨q,_,rfl,.inl (SqL.of e2),by rw[aU];exact q'⟩⟩) (eV (fun hb=>?_) (fun hb=>hR _ _ ⟨rfl,cY (by simpa only[Aq] using hb),rfl⟩))⟩;have hn:=jD (by simpa only[qp] using hb);have e:tZ (iU [1] chs) n=0:=by unfold tZ;rw[aG hn]
   rw[<- e];exact hq _ s2
  rintro zzs H3 ⟨rfl,hn,rfl⟩;obtain⟨k,rfl⟩:=Ak hn.1;refine⟨_,rfl,_,rfl,.inl ⟨q,_,_,_,rfl,rfl,SqL.of e2,cW (tU (j:=k) (by lia)),?_⟩⟩;have e:tZ (iU [1] chs) (k:Int)=(iU [1] chs).getD k 0:=by unfold tZ;rw[aK hn,je]
  rw[<- e];exact hq _ s2
theorem CZ{zs:List Str}{w:Nat}(v:Vw zs w)(h:∀ p∈aO zs w,p.length<=12):(∀ ch∈chL zs w,Ay ch)/\(chL zs w).length<=100:=by
 have h1:=Cg v;have h2:(jQ zs w).length<=36:=cP (iK _ _) (eG v)
 constructor
 ·intro ch hc;unfold chL at hc;rcases cL.mp hc with rfl|hc
  ·refine⟨lF _,fun l hl=>?_,?_⟩
   ·unfold kI at hl;split at hl
    ·cases hl
    ·rw[dD.mp hl];exact bR _
   ·show(kI zs w).length<=5000;unfold kI;split
    ·exact lF _
    ·show 1<=5000;decide
  rcases cO.mp hc with hc|hc
  ·obtain⟨p,hp,rfl⟩:=bW.mp hc;have:=h p hp;exact⟨by show p.length<=36;lia,fun l hl=>Pb hl,cP (Pa this) (by decide)⟩
  ·obtain⟨c,_,rfl⟩:=bW.mp hc;refine⟨by show 1<=36;decide,fun l hl=>?_,by show 2<=5000;decide⟩;rcases cL.mp hl with rfl|hl
   ·exact lF _
   ·rw[dD.mp hl];exact bR _
 ·unfold chL;rw[fO,dB,aU,aU];lia
theorem S6{f:Addr}{fd:FuncData} (F:Fun K "count" "count" Ec f fd) (T:Txt K mg Z) (gD:Df P w K mg base 2 "number_of" ["found","stones"] (Ua K)) (gP:Df P w K mg base 6 "choices" ["view"] (qP K Z.View Z.TooGreat)) :
  cg P w K mg base (CXE P w) 7 f fd ["view","stones"] (Ni K Z.View Z.TooGreat):=by
 refine F.HN TX (fun vs H Q E h=>?_) (fun cdv A outer s H vs Q E hr h=>?_)
 ·obtain⟨x,n,zs,w,rfl,_⟩:=h;rfl
 ·obtain⟨x,n,zs,w,rfl,vt,he,hq⟩:=h;refine⟨_,(aC (aY (aV gD hr rfl aW (aj (aV gP hr rfl ud (aj (rv 0) ak)) (aj (rv 1) ak))))),?_⟩;refine⟨_,rfl,x,zs,w,rfl,vt,he,fun h12 q H1 fr=>?_⟩;obtain⟨c1,c2⟩:=CZ vt.vw h12;exact⟨_,rfl,q,n,chL zs w,rfl,fr.ls,c1,c2,fun H' s'=>hq h12 _ (fr.same.trans s')⟩
end
end My
namespace My
open PySem L2
end My
namespace My
open PySem L2
def co(a:List Int)(n:Nat):Int:=a.getD n 0
def sm(f:Nat->Int):Nat->Int
 |0=>0
 |n+1=>sm f n+f n
theorem g8{f g:Nat->Int}:∀ {n:Nat},(∀ i,i<n->f i=g i)->sm f n=sm g n
 |0,_=>rfl
 |n+1,h=>by
  show sm f n+f n=sm g n+g n;rw[g8 fun i hi=>h i (rZ hi),h n (wg n)]
theorem qO:∀ n,sm (fun _=>0) n=0
 |0=>rfl
 |n+1=>by show sm (fun _=>0) n+0=0;rw[qO n];rfl
theorem Nh{f:Nat->Int}{n:Nat}:∀ {d:Nat},(∀ i,n<=i->f i=0)->sm f (n+d)=sm f n
 |0,_=>rfl
 |d+1,h=>by show sm f (n+d)+f (n+d)=sm f n;rw[Nh h,h _ (Nat.le_add_right _ _),oH]
theorem Ym{f:Nat->Int}{n m:Nat}(hm:n<=m)(h:∀ i,n<=i->f i=0):sm f m=sm f n:=by
 obtain⟨d,rfl⟩:=Nat.exists_eq_add_of_le hm;exact Nh h
theorem zG{f g:Nat->Int}:∀ n,sm (fun i=>f i+g i) n=sm f n+sm g n
 |0=>rfl
 |n+1=>by show sm (fun i=>f i+g i) n+(f n+g n)=(sm f n+f n)+(sm g n+g n);rw[zG n];lia
theorem U0{f:Nat->Int}{c:Int}:∀ n,sm (fun i=>c*f i) n=c*sm f n
 |0=>(sU c).symm
 |n+1=>by show sm (fun i=>c*f i) n+c*f n=c*(sm f n+f n);rw[U0 n,FP]
theorem R3{c:List Int}{i n:Nat}{x:Int}(hi:i<c.length):co (c.set i x) n=if n=i then x else co c n:=by
 unfold co;rw[dX,List.getElem?_set];by_cases h:i=n
 ·rw[aK h,aK (by omega),aK h.symm];rfl
 ·rw[aG h,aG (jy h),<- dX]
theorem Ja{a b:List Int}{j:Nat}:∀ {k:Nat} {c:List Int} (n:Nat),j+k<=c.length->co (vB a b j k c) n=co c n+if j<=n/\n<j+k then co a j*co b (n-j) else 0
 |0,c,n,_=>by
  rw[aG (by lia),oH];rfl
 |k+1,c,n,h=>by
  unfold vB Mq;rw[R3 (by rw[kJ];lia)];by_cases e:n=j+k
  ·rw[aK e,aK (by lia)];have:=Ja (a:=a) (b:=b) (j:=j) (k:=k) (c:=c) (j+k) (by lia);rw[aG (by lia),oH] at this;show co (vB a b j k c) (j+k)+co a j*co b k=_;rw[this,e,show j+k-j=k from by lia]
  ·rw[aG e,Ja n (by lia)];by_cases h2:j<=n/\n<j+k
   ·rw[aK h2,aK (by lia)]
   ·rw[aG h2,aG (by lia)]
theorem QZ{a b:List Int}:∀ {j:Nat} {c:List Int} (n:Nat),j<=a.length->a.length+b.length-1<=c.length->co (yU a b j c) n=co c n+sm (fun i=>if i<=n/\n<i+b.length then co a i*co b (n-i) else 0) j
 |0,c,n,_,_=>by show co c n=co c n+0;rw[oH]
 |j+1,c,n,h,hc=>by
  unfold yU;rw[Ja n (by rw[pJ];lia),QZ n (by lia) hc];show _=_+(sm _ j+_);rw[Int.add_assoc]
theorem m8{a:List Int}{n:Nat}(h:a.length<=n):co a n=0:=by
 unfold co;rw[dX,zR h];rfl
def cv(f g:Nat->Int)(n:Nat):Int:=sm (fun i=>f i*g (n-i)) (n+1)
theorem R0(a b:List Int)(n:Nat):co (mulL a b) n=cv (co a) (co b) n:=by
 unfold mulL;rw[QZ n (bR _) (by rw[zQ];lia)];have e0:co (List.replicate (a.length+b.length-1) 0) n=0:=by
  unfold co;rw[dX,Ke];split<;>rfl
 rw[e0,ni];have e1:sm (fun i=>if i<=n/\n<i+b.length then co a i*co b (n-i) else 0) a.length=sm (fun i=>if i<=n then co a i*co b (n-i) else 0) a.length:=g8 fun i _=>by
  by_cases h:i<=n
  ·by_cases h2:n<i+b.length
   ·rw[aK ⟨h,h2⟩,aK h]
   ·rw[aG (by lia),aK h,m8 (a:=b) (by lia),sU]
  ·rw[aG (by lia),aG h]
 rw[e1];have e2:sm (fun i=>if i<=n then co a i*co b (n-i) else 0) (n+1)=cv (co a) (co b) n:=g8 fun i hi=>aK (by lia)
 rw[<- e2];rcases Nat.le_total a.length (n+1) with h|h
 ·refine(Ym h fun i hi=>?_).symm;rw[m8 (a:=a) hi];split
  ·exact Fz _
  ·rfl
 ·refine Ym h fun i hi=>aG (by lia)
def tot(a:List Int):Int:=sm (co a) a.length
theorem U3{c:List Int}{i:Nat}{y:Int}(hi:i<c.length):∀ n,sm (co (c.set i y)) n=sm (co c) n+if i<n then y-co c i else 0
 |0=>rfl
 |n+1=>by
  show sm (co (c.set i y)) n+co (c.set i y) n=sm (co c) n+co c n+_;rw[U3 hi n,R3 hi];by_cases e:n=i
  ·rw[aK e,aG (by lia),aK (by lia),e];lia
  ·rw[aG e];by_cases h:i<n
   ·rw[aK h,aK (by lia)];lia
   ·rw[aG h,aG (by lia)];lia
theorem NP{a b:List Int}{j:Nat}:∀ {k:Nat} {c:List Int},j+k<=c.length->tot (vB a b j k c)=tot c+co a j*sm (co b) k
 |0,c,_=>by
  show tot c=tot c+co a j*0;rw[sU,oH]
 |k+1,c,h=>by
  unfold vB Mq;have ih:=NP (a:=a) (b:=b) (j:=j) (k:=k) (c:=c) (by lia);unfold tot at ih ⊢;rw[kJ] at ih;rw[Fl,kJ,U3 (by rw[kJ];lia),aK (by lia),ih];show _+(co (vB a b j k c) (j+k)+co a j*co b k-co (vB a b j k c) (j+k))=_+co a j*(sm (co b) k+co b k);rw[FP];lia
theorem NK{a b:List Int}:∀ {j:Nat} {c:List Int},j<=a.length->a.length+b.length-1<=c.length->tot (yU a b j c)=tot c+sm (co a) j*tot b
 |0,c,_,_=>by
  show tot c=tot c+0*tot b;rw[Fz,oH]
 |j+1,c,h,hc=>by
  unfold yU;rw[NP (by rw[pJ];lia),NK (by lia) hc];show _+co a j*tot b=_+(sm (co a) j+co a j)*tot b;rw[Ai];lia
theorem XC(a b:List Int):tot (mulL a b)=tot a*tot b:=by
 unfold mulL;rw[NK (bR _) (by rw[zQ];lia)];have e:tot (List.replicate (a.length+b.length-1) 0)=0:=by
  unfold tot;have:sm (co (List.replicate (a.length+b.length-1) 0)) (List.replicate (a.length+b.length-1) (0:Int)).length=sm (fun _=>0) (List.replicate (a.length+b.length-1) (0:Int)).length:=g8 fun i _=>by
   unfold co;rw[dX,Ke];split<;>rfl
  rw[this,qO]
 rw[e,ni];rfl
theorem I9{f:Nat->Int}:∀ {n:Nat},(∀ i,i<n->0<=f i)->0<=sm f n
 |0,_=>wF 0
 |n+1,h=>by
  have:=I9 fun i hi=>h i (rZ hi)
  have:=h n (wg n);show 0<=sm f n+f n;lia
theorem Yk{f:Nat->Int}:∀ {n i:Nat},(∀ i,i<n->0<=f i)->i<n->f i<=sm f n
 |n+1,i,h,hi=>by
  show f i<=sm f n+f n;have h1:=I9 fun i hi=>h i (rZ hi)
  have h2:=h n (wg n);by_cases e:i=n
  ·subst e;lia
  ·have:=Yk (n:=n) (i:=i) (fun i hi=>h i (rZ hi)) (by lia);lia
def Nn(a:List Int):Prop:=∀ n,0<=co a n
theorem Nn.mul{a b:List Int}(ha:Nn a)(hb:Nn b):Nn (mulL a b):=fun n=>by
 rw[R0];exact I9 fun i _=>Lf (ha i) (hb _)
theorem Nn.of{a:List Int}(h:∀ x∈a,0<=x):Nn a:=fun n=>by
 unfold co;rw[dX]
 cases e:a[n]? with
 |none=>exact wF 0
 |some x=>exact h x (fB e)
theorem YS{a:List Int}(ha:Nn a)(n:Nat):co a n<=tot a:=by
 by_cases h:n<a.length
 ·exact Yk (fun i _=>ha i) h
 ·rw[m8 (by lia)];exact I9 fun i _=>ha i
theorem jG{n:Nat}{ls:List (List Cell)}{k:Nat}(hk:k<=n):co (cI n ls) k=(((ls.map fun r=>(r.length:Int)).count (k:Int):Nat):Int):=by
 unfold co;rw[dX,xR hk];rfl
theorem QX(n:Nat)(ls:List (List Cell)):Nn (cI n ls):=Nn.of fun x hx=>by
 obtain⟨k,_,rfl⟩:=bW.mp hx;exact EY _
theorem Nz{n:Nat}:∀ {ls:List (List Cell)},(∀ l∈ls,l.length<=n)->tot (cI n ls)=ls.length
 |[],_=>by
  unfold tot;rw[g8 (g:=fun _=>0) fun i hi=>?_,qO];rfl;rw[eO] at hi;rw[jG (by lia)];rfl
 |l::ls,h=>by
  have ih:=Nz (ls:=ls) fun x hx=>h x (dw _ hx)
  unfold tot at ih ⊢;rw[eO] at ih ⊢;have hl:=h l cG;have e:sm (co (cI n (l::ls))) (n+1)=sm (fun i=>co (cI n ls) i+(if i=l.length then 1 else 0)) (n+1):=g8 fun i hi=>by
   rw[jG (by lia),jG (by lia),cZ,La];by_cases q:i=l.length
   ·rw[aK q,aK (by rw[j8];lia)];rfl
   ·rw[aG q,aG (by rw[j8];lia)];rfl
  have one:∀ m,l.length<m->sm (fun i=>if i=l.length then 1 else 0) m=1:=fun m hm=>by
   induction m with
   |zero=>lia
   |succ m ih=>
    show sm (fun i=>if i=l.length then 1 else 0) m+(if m=l.length then 1 else 0)=1;by_cases q:l.length<m
    ·rw[ih q,aG (by lia)];rfl
    ·rw[aK (by lia),g8 (g:=fun _=>0) fun i hi=>aG (by lia),qO];rfl
  rw[e,zG,ih,one _ (by lia),fO];lia
theorem RZ:∀ {chs:List (List Cell×List (List Cell))} {a:List Int},Nn a->Nn (iU a chs)
 |[],_,h=>h
 |ch::chs,a,h=>RZ (chs:=chs) (h.mul (QX _ _))
def qX(chs:List (List Cell×List (List Cell))):Int:=chs.foldl (fun a ch=>a*(ch.2.length:Int)) 1
theorem qM:∀(chs:List (List Cell×List (List Cell)))(a:Int),chs.foldl (fun a ch=>a*(ch.2.length:Int)) a=a*qX chs
 |[],a=>(Li a).symm
 |ch::chs,a=>by
  unfold qX;rw[xH,xH,qM chs,qM chs (1*_),FQ,qw]
theorem Mx:∀ {chs:List (List Cell×List (List Cell))} {a:List Int},(∀ ch∈chs,∀ l∈ch.2,l.length<=ch.1.length)->tot (iU a chs)=tot a*qX chs
 |[],a,_=>(Li _).symm
 |ch::chs,a,h=>by
  show tot (iU (mulL a (cI ch.1.length ch.2)) chs)=_;rw[Mx fun c hc=>h c (dw _ hc),XC,Nz (h ch cG)];unfold qX;rw[xH,qM chs (1*_),FQ,qw];rfl
theorem rD{a:List Int}(n:Nat):tZ a n=co a n:=by
 unfold tZ;by_cases h:n<a.length
 ·rw[aK (by lia),je];rfl
 ·rw[aG (by lia),m8 (by lia)]
end My
namespace My
open PySem L2
section
variable{zs:List Str}{w:Nat}
theorem Sw(h6:zs.length<=6)(w6:w<=6):(aO zs w).flatten.Nodup:=by
 obtain⟨ok,_⟩:=jq (zs:=zs) (w:=w) h6 w6;unfold List.Nodup;rw[List.pairwise_flatten];refine⟨fun p hp=>?_,ok.dis.imp fun h x hx y hy e=>h x hx (by rw[e];exact hy)⟩;obtain⟨x,hx,rfl⟩:=ok.of p hp;exact(Part.join h6 w6 hx).nd
theorem JH(h6:zs.length<=6)(w6:w<=6):(aO zs w).flatten.Perm (bJ zs w):=by
 obtain⟨ok,cov⟩:=jq (zs:=zs) (w:=w) h6 w6;refine(Kc (Sw h6 w6) (iY (Q6 h6 w6))).mpr fun y=>?_
 rw[List.mem_flatten]
 constructor
 ·rintro⟨p,hp,hy⟩;obtain⟨x,hx,rfl⟩:=ok.of p hp;exact iy.edge hx ((cM (gZ hx)).mp hy)
 ·intro hy;obtain⟨p,hp,h⟩:=cov y hy;exact⟨p,hp,h⟩
theorem wI(h6:zs.length<=6)(w6:w<=6):((aO zs w).flatten++jQ zs w).Perm (bQ zs w):=by
 refine((JH h6 w6).append_right _).trans ?_;unfold bJ jQ;have e:(bQ zs w).filter (fun x=>decide ((aL zs w x).length=0))=(bQ zs w).filter (fun x=>!decide (0<(aL zs w x).length)):=KC fun x _=>by
  rw[sG,lE,qp,decide_eq_false_iff_not];lia
 rw[e];exact List.filter_append_perm _ _
theorem Ig{α:Type}:∀ ls:List (List α),(ls.map fun l=>l.length).sum=ls.flatten.length
 |[]=>rfl
 |l::ls=>by rw[cZ,Ag,Ar,dB,Ig ls]
theorem J0(h6:zs.length<=6)(w6:w<=6):((chL zs w).map fun ch=>ch.1.length).sum=(bQ zs w).length:=by
 unfold chL;rw[cZ,Ag,dU,List.sum_append,qx,qx];have e1:(aO zs w).map ((fun ch:List Cell×List (List Cell)=>ch.1.length) ∘ fun p=>(p,eY zs w p))=(aO zs w).map fun p=>p.length:=rfl
 have e2:∀ l:List Cell,(l.map ((fun ch:List Cell×List (List Cell)=>ch.1.length) ∘ fun c=>([c],[[],[c]]))).sum=l.length:=fun l=>by
  induction l with
  |nil=>rfl
  |cons a l ih=>rw[cZ,Ag,ih,fO];show 1+_=_;lia
 rw[e1,Ig,e2,<- (wI h6 w6).length_eq,dB];show 0+_=_;lia
theorem MK:∀ {chs:List (List Cell×List (List Cell))},(∀ ch∈chs,ch.2.length<=2^ch.1.length)->0<=qX chs/\qX chs<=((2^(chs.map fun ch=>ch.1.length).sum:Nat):Int)
 |[],_=>⟨by decide,by decide⟩
 |ch::chs,h=>by
  obtain⟨i0,i1⟩:=MK (chs:=chs) fun c hc=>h c (dw _ hc)
  have h1:=h ch cG;have e:qX (ch::chs)=(ch.2.length:Int)*qX chs:=by
   unfold qX;rw[xH,qM chs (1*_),FQ];rfl
  rw[e,cZ,Ag,Nat.pow_add,Lb];exact⟨Lf (EY _) i0,Lg (by lia) i1 i0 (EY _)⟩
theorem QS(v:Vw zs w)(h12:∀ p∈aO zs w,p.length<=12):∀ ch∈chL zs w,ch.2.length<=2^ch.1.length:=fun ch hc=>by
 unfold chL at hc;rcases cL.mp hc with rfl|hc
 ·unfold kI;split<;>exact Ep rfl
 rcases cO.mp hc with hc|hc
 ·obtain⟨p,hp,rfl⟩:=bW.mp hc;show(eY zs w p).length<=2^p.length;rw[jo.length_eq];exact qH _ _ _
 ·obtain⟨c,_,rfl⟩:=bW.mp hc;exact Ep rfl
theorem Mw{chs:List (List Cell×List (List Cell))}(hr:∀ ch∈chs,∀ l∈ch.2,l.length<=ch.1.length)(hp:∀ ch∈chs,ch.2.length<=2^ch.1.length)(hs:(chs.map fun ch=>ch.1.length).sum<=36)(n:Int):0<=tZ (iU [1] chs) n/\tZ (iU [1] chs) n<2^64:=by
 have nn:Nn (iU [1] chs):=RZ (Nn.of fun x hx=>by rw[dD.mp hx];decide);have t1:tot (iU [1] chs)=qX chs:=by rw[Mx hr];exact FQ _
 obtain⟨_,p1⟩:=MK hp;have p2:2^(chs.map fun ch=>ch.1.length).sum<=2^36:=Kq (by decide) hs;by_cases h:0<=n
 ·obtain⟨k,rfl⟩:=Ak h;rw[rD];have:=YS nn k;have:=nn k;lia
 ·unfold tZ;rw[aG (by lia)];exact⟨by decide,by decide⟩
end
end My
namespace My
open PySem L2
def setC(c:Cell)(b:Bool)(ch:List Cell×List (List Cell)):List Cell×List (List Cell):=if c∈ch.1 then(ch.1,ch.2.filter fun l=>decide (decide (c∈l)=b)) else ch
theorem Nf{c:Cell}{b:Bool}{ch:List Cell×List (List Cell)}(h:Ay ch):Ay (setC c b ch):=by
 unfold setC;by_cases hc:c∈ch.1
 ·rw[aK hc];exact⟨h.1,fun l hl=>h.2.1 l (cB.mp hl).1,cP (iK _ _) h.2.2⟩
 ·rw[aG hc];exact h
theorem Xv{c:Cell}{b:Bool}{chs:List (List Cell×List (List Cell))}(h:∀ ch∈chs,∀ l∈ch.2,l.length<=ch.1.length):∀ ch∈chs.map (setC c b),∀ l∈ch.2,l.length<=ch.1.length:=fun ch hc l hl=>by
 obtain⟨d,hd,rfl⟩:=bW.mp hc;unfold setC at hl ⊢;by_cases z:c∈d.1
 ·rw[aK z] at hl ⊢;exact h d hd l (cB.mp hl).1
 ·rw[aG z] at hl ⊢;exact h d hd l hl
theorem Xu{c:Cell}{b:Bool}{chs:List (List Cell×List (List Cell))}(h:∀ ch∈chs,ch.2.length<=2^ch.1.length):∀ ch∈chs.map (setC c b),ch.2.length<=2^ch.1.length:=fun ch hc=>by
 obtain⟨d,hd,rfl⟩:=bW.mp hc;unfold setC;by_cases z:c∈d.1
 ·rw[aK z];exact cP (iK _ _) (h d hd)
 ·rw[aG z];exact h d hd
theorem Ng{c:Cell}{b:Bool}{chs:List (List Cell×List (List Cell))}:((chs.map (setC c b)).map fun ch=>ch.1.length)=chs.map fun ch=>ch.1.length:=by
 rw[qx];refine Am fun d _=>?_
 show(setC c b d).1.length=_;unfold setC;split<;>rfl
theorem QT{zs:List Str}{w:Nat}(v:Vw zs w)(h12:∀ p∈aO zs w,p.length<=12):∀ ch∈chL zs w,∀ l∈ch.2,l.length<=ch.1.length:=fun ch hc=>((CZ v h12).1 ch hc).2.1
def vX(K:ao):Sp:=fun vs H Q _=>∃(p:Addr)(v:V)(b:Bool)(c:Cell)(chs:List (List Cell×List (List Cell))),vs=[.ref p,v,.bl b]/\Ls K H p (chs.map chD)/\Den K H v (aA c)/\(∀ ch∈chs,Ay ch)/\chs.length<=100/\∀ q H',Fr K H H' q ((chs.map (setC c b)).map chD)->Q (.ref q) H'
section
variable{P:Program}{w:World}{K:ao}{mg:Str->Option Value}{base:Heap}{Z:Adr}
theorem N5{K:ao}{H G:Hp}{α:Type}{enc:α->Dt}:∀ {vs:List V} {xs:List α},aN K H vs (xs.map enc)->gF (fun a v _=>Den K H v (enc a)) G vs xs
 |[],[],_=>.nil
 |_::_,_::_,.cons h t=>.cons h (N5 t)
theorem JB{f:Addr}{fd:FuncData} (F:Fun K "settled" "settled" vQ f fd) (T:Txt K mg Z):cg P w K mg base (CXE P w) 1 f fd ["found","cell","stone"] (vX K):=by
 refine F.rok rP (fun vs H Q E h=>?_) (fun cdv A outer s H vs Q E hr h=>?_)
 ·obtain⟨p,v,b,c,chs,rfl,_⟩:=h;rfl
 ·obtain⟨p,v,b,c,chs,rfl,hp,dv,hok,h100,hq⟩:=h;have hu:=mQ hr;have hu':=Dz hr;refine⟨_,(au (aP (i:=3) rP.nd rfl (Or.inl rfl) (cX ak)) (au (cJ dW rfl (bx (K:=K) (rv 0)) (aZ (i:=4) rP.nd rfl (Or.inl rfl)) (aC (fL (bM (jV.or (Ca (K:=K) hu')) (rv 1) (dO (dN (K:=K)) (rv 4) aH) (by rfl)) (aC (gU (mU (K:=K) lW oK oM eE (rv 3) (aj (dR (aj (dO (dN (K:=K)) (rv 4) aH) (aj (jr (by rfl) rfl (bx (K:=K) (dO (dN (K:=K)) (rv 4) aH)) (fun _ _ _=>(gR (bM (lO.or (lM (K:=K) hu)) (wU (jV.or (Ca (K:=K) hu')) (rv 2) (rv 0) (by rfl)) (rv 3) (cu _)))) (fun _ _ _=>(rv 0))) ak))) ak)))) (aC (gU (mU (K:=K) lW oK oM eE (rv 3) (aj (rv 4) ak))))))) (aC (aY (rv 3))))),?_⟩;refine aF (fun zzs H1=>∃ q:Addr,H q=none/\Same H H1/\H1 q=some (.lst [])/\zzs=[zzR p,some v,some (.bl b),zzR q,zzN]) (fun R hR=>?_) ?_
  ·exact⟨by decide,fun q nq=>hR _ _ ⟨q,nq,Same.put nq,aD,rfl⟩⟩
  rintro zzs H1 ⟨q,nq,s1,eq1,rfl⟩;obtain⟨os,eo,Do⟩:=hp;have los:os.length=chs.length:=by rw[Do.length,aU]
  refine aF (fun zzs H2=>∃(us:List V)(v4:Option V),Same H H2/\H2 q=some (.lst us)/\aN K (del q H2) us ((chs.map (setC c b)).map chD)/\zzs=[zzR p,some v,some (.bl b),zzR q,v4]) (fun R hR=>?_) ?_
  ·refine⟨_,rfl,p,rfl,⟨_,SqL.of (s1 _ _ eo)⟩,?_⟩;refine dh (K:=K) (xs:=os) (fun i zzs H2=>∃(us:List V)(v4:Option V),Same H H2/\H2 q=some (.lst us)/\aN K (del q H2) us (((chs.take i).map (setC c b)).map chD)/\zzs=[zzR p,some v,some (.bl b),zzR q,v4])
    ⟨[],none,s1,eq1,.nil,rfl⟩ (fun i zzs H2 _ hh=>by obtain⟨_,_,g,_⟩:=hh;exact SqL.of (g _ _ eo)) (fun i u zzs H2 hi hh=>?_) (fun zzs H2 hh=>?_)
   ·obtain⟨us,v4,g1,g2,D2,rfl⟩:=hh;obtain⟨d,ed,du⟩:=Do.get hi;rw[cU] at ed;obtain⟨ch,ec,rfl⟩:=jC.mp ed;have cm:=fB ec;obtain⟨h36,hrow,h5k⟩:=hok ch cm;obtain⟨t,a,e,xs,ys,rfl,ht,ha,Da,he,De⟩:=Jf du;have lus:us.length<=100:=by
     have:us.length=(chs.take i).length:=by rw[D2.length,aU,aU]
     rw[this,qt];lia
    have tk:chs.take (i+1)=chs.take i++[ch]:=by rw[jf,ec];rfl
    have fin:∀(z:V)(H3:Hp),Same H2 H3->Den K (del q H3) z (chD (setC c b ch))->∃(us':List V)(v4:Option V),Same H (upd H3 q (.lst (us++[z])))/\(upd H3 q (.lst (us++[z]))) q=some (.lst us')/\aN K (del q (upd H3 q (.lst (us++[z])))) us' (((chs.take (i+1)).map (setC c b)).map chD)/\([zzR p,some v,some (.bl b),zzR q,zzR t]:L2.St)=[zzR p,some v,some (.bl b),zzR q,v4]:=fun z H3 s3 dz=>by
     refine⟨us++[z],_,(SameBut.refl q _).put.of (g1.trans s3) nq,aD,?_,rfl⟩;rw[tk,dU,dU];exact CK D2 s3 dz
    have sd:∀ {G:Hp},Same H G->Same H (del q G):=fun g=>g.into nq
    refine⟨_,rfl,_,rfl,.inr (.inl ⟨t,_,_,_,rfl,rfl,SqT.of (g1 _ _ ht),gH,.inr (HJ (dv.mono g1) (Den.mono g1 (.lst ha Da)) ⟨_,rfl,?_⟩)⟩)⟩;refine eV (fun h1=>?_) (fun h1=>?_)
    ·have hc:=cY h1;have es:setC c b ch=(ch.1,ch.2.filter fun l=>decide (decide (c∈l)=b)):=aK hc;refine⟨_,rfl,.inl ⟨rfl,_,SqL.of g2⟩,_,rfl,.inr (.inl ⟨t,_,_,_,rfl,rfl,SqT.of (g1 _ _ ht),gH,?_⟩)⟩;refine⟨_,rfl,.inr (.inl ⟨t,_,_,_,rfl,rfl,SqT.of (g1 _ _ ht),cW (j:=1) rfl,?_⟩)⟩;refine⟨e,rfl,⟨_,g1.seq he⟩,yG (R:=fun(l:List Cell) v _=>Den K H v (vH l)) (R2:=fun(l:List Cell) v _=>Den K H v (vH l)) (xs:=ch.2) (fun _ _ _ _ _ h=>h) (fun _ _ _ _ _ h=>h) (cA (g1.seq he)) (N5 De) (small (by lia)) (fun l=>decide (decide (c∈l)=b)) id (fun l hl u H3 s3 du G hG=>?_) (fun l hl _ u H3 s3 du G hG=>⟨_,rfl,hG _ _ (Same.refl _) du⟩) (fun zs' H3 s3 D3 n hn=>?_)⟩
     ·obtain⟨a',rfl⟩:∃ a',u=.ref a':=by cases du;exact⟨_,rfl⟩
      refine⟨_,rfl,_,rfl,.inr (HJ (dv.mono (g1.trans s3)) (du.mono (g1.trans s3)) ⟨_,rfl,.inl ⟨rfl,_,rfl,?_⟩⟩)⟩;have eb:decide (V.bl (decide (c∈l))=V.bl b)=decide (decide (c∈l)=b):=by
       rw[Fj];exact⟨fun z=>by injection z,fun z=>by rw[z]⟩
      rw[eb];exact hG _ (Same.refl _)
     ·rw[FN] at D3;refine⟨sz rfl,fun t2 nt2=>?_⟩;have s4:=Same.put (o:=.lst zs') hn;have s5:=Same.put (o:=.tup [V.ref a,V.ref n]) nt2;have sA:=s3.trans (s4.trans s5);dsimp only[rW];refine mX (K:=K) (sA _ _ g2) (by lia) ?_;refine fin _ _ sA ?_;rw[es];have nq2:t2≠q:=fun z=>by rw[z,(s3.trans s4) _ _ g2] at nt2;cases nt2
      have nqn:n≠q:=fun z=>by rw[z,s3 _ _ g2] at hn;cases hn
      have sH:Same H (del q (upd (upd H3 n (.lst zs')) t2 (.tup [V.ref a,V.ref n]))):=sd (g1.trans sA);refine Den.tup (by rw[kh nq2];exact aD) (.cons (Den.mono sH (.lst ha Da)) (.cons (.lst (SqL.of (show del q _ n=_ by rw[kh nqn];exact s5 _ _ aD)) ?_) .nil));exact(D3.imp (R':=fun(l:List Cell) v G=>Den K G v (vH l)) fun l v h=>h.mono sH).Z1 fun l v h=>h
    ·have hc:=jD h1;have es:setC c b ch=ch:=aG hc;refine⟨_,rfl,.inl ⟨rfl,_,SqL.of g2⟩,_,rfl,?_⟩;dsimp only[rW];refine mX (K:=K) g2 (by lia) ?_;exact fin _ _ (Same.refl _) (by rw[es];exact du.mono (sd g1))
   ·obtain⟨us,v4,g1,g2,D2,rfl⟩:=hh;rw[los,jE] at D2;exact hR _ _ ⟨us,v4,g1,g2,D2,rfl⟩
  rintro zzs H2 ⟨us,v4,s2,eq2,D2,rfl⟩;exact⟨_,rfl,hq q _ ⟨s2,nq,us,eq2,D2.mono yL⟩⟩
end
end My
namespace My
open PySem L2
noncomputable def bF(zs:List Str)(w:Nat)(n:Int):Int:=tZ (iU [1] (chL zs w)) n
noncomputable def lH(zs:List Str)(w:Nat)(c:Cell)(n:Int):Int:=tZ (iU [1] ((chL zs w).map (setC c true))) n
noncomputable def Jl(zs:List Str)(w:Nat)(c:Cell)(n:Int):Int:=(Nat.gcd (lH zs w c n).toNat (bF zs w n).toNat:Int)
def Yn:Sp:=fun vs H Q _=>∃ a b:Nat,vs=[.int a,.int b]/\Q (.int (Nat.gcd a b)) H
def Ia(K:ao)(C NC TG IM:Addr):Sp:=fun vs H Q E=>∃(x:Addr)(n:Int)(v:V)(zs:List Str)(w:Nat)(c:Cell),vs=[.ref x,.int n,v]/\dM C H x zs w/\Den K H v (aA c) /\
 (aR zs w c=false->∀ H',Same H H'->E (.ref NC) none H')/\(aR zs w c=true->(∃ p∈aO zs w,12<p.length)->∀ H',Same H H'->E (.ref TG) none H') /\
 (aR zs w c=true->(∀ p∈aO zs w,p.length<=12)->bF zs w n=0->∀ H',Same H H'->E (.ref IM) none H') /\
 (aR zs w c=true->(∀ p∈aO zs w,p.length<=12)->bF zs w n≠0->∀ t H',Same H H'->H' t=some (.tup [.int (lH zs w c n / Jl zs w c n),.int (bF zs w n / Jl zs w c n)])->Q (.ref t) H')
theorem W4{t u g:Int}(t0:0<=t)(u0:0<u)(hg:g=(Nat.gcd t.toNat u.toNat:Int)):∃ a b c:Nat,t / g=a/\u / g=b/\g=c/\t=((c*a:Nat):Int)/\u=((c*b:Nat):Int)/\1<=b/\Nat.gcd a b=1:=by
 obtain⟨T,rfl⟩:=Ak t0;obtain⟨U,rfl⟩:=Ak (Int.le_of_lt u0);rw[je,je] at hg;have gp:0<Nat.gcd T U:=V7 _ (by lia);obtain⟨a,ha⟩:=Nat.gcd_dvd_left T U;obtain⟨b,hb⟩:=Nat.gcd_dvd_right T U;generalize hc:Nat.gcd T U=c at *;have ca:T / c=a:=by rw[ha,Va _ gp]
 have cb:U / c=b:=by rw[hb,Va _ gp]
 refine⟨a,b,c,by rw[hg,<- Int.natCast_ediv,ca],by rw[hg,<- Int.natCast_ediv,cb],hg,by rw[ha],by rw[hb],?_,?_⟩
 ·rcases Vr b with z|z
  ·rw[z,Nat.mul_zero] at hb;lia
  ·exact z
 ·have h:=Nat.gcd_mul_left c a b;rw[<- ha,<- hb,hc] at h;exact V1 gp (h.symm.trans (Nat.mul_one c).symm)
theorem zL{zs:List Str}{w:Nat}(v:Vw zs w)(h12:∀ p∈aO zs w,p.length<=12)(n:Int):0<=bF zs w n/\bF zs w n<2^64:=
 Mw (QT v h12) (QS v h12) (by rw[J0 v.le v.w6];exact eG v) n
theorem a0H{zs:List Str}{w:Nat}(v:Vw zs w)(h12:∀ p∈aO zs w,p.length<=12)(c:Cell)(n:Int):0<=lH zs w c n/\lH zs w c n<2^64:=
 Mw (Xv (QT v h12)) (Xu (QS v h12)) (by rw[Ng,J0 v.le v.w6];exact eG v) n
section
variable{P:Program}{w:World}{K:ao}{mg:Str->Option Value}{base:Heap}{Z:Adr}
theorem ZC{f:Addr}{fd:FuncData} (F:Fun K "common_divisor" "common_divisor" jt f fd) (T:Txt K mg Z):cg P w K mg base (CXE P w) 1 f fd ["one","other"] Yn:=by
 refine F.rok gC (fun vs H Q E h=>?_) (fun cdv A outer s H vs Q E hr h=>?_)
 ·obtain⟨a,b,rfl,_⟩:=h;rfl
 ·obtain⟨a,b,rfl,hq⟩:=h;have hu:=mQ hr;refine⟨_,(au (zj dW (bM (MF.or (Ml (K:=K) hu)) (rv 1) aH (cu _)) (au (aP (i:=2) gC.nd rfl (Or.inl rfl) (cT nY (rv 0) (rv 1))) (au (aP (i:=0) gC.nd rfl (Or.inl rfl) (rv 1)) (aC (aP (i:=1) gC.nd rfl (Or.inl rfl) (rv 2)))))) (aC (aY (rv 0)))),?_⟩;refine aF (fun zzs H1=>∃ v1 v2:Option V,H1=H/\zzs=[zzI (Nat.gcd a b),v1,v2]) (fun R hR=>?_) ?_
  ·refine⟨fun m zzs H'=>H'=H/\∃(x y:Nat)(v2:Option V),m=y/\Nat.gcd x y=Nat.gcd a b/\zzs=[zzI x,zzI y,v2],⟨b,rfl,a,b,none,rfl,rfl,rfl⟩,?_⟩;rintro m zzs H' ⟨rfl,x,y,v2,em,hg,rfl⟩;refine⟨_,rfl,.inl ⟨rfl,_,rfl,?_⟩⟩;rw[tE];refine eV (fun h1=>?_) (fun h1=>?_)
   ·have hy:¬((y:Int)=0):=jD (by simpa only[qp] using h1);refine⟨fun bB H''=>H''=H'/\∃ v2:Option V,bB=[zzI y,zzI ((x%y:Nat):Int),v2],fun bB H'' h=>?_,?_⟩
    ·obtain⟨rfl,v2,rfl⟩:=h;refine⟨x%y,by rw[em];exact Nat.mod_lt _ (by lia),rfl,y,x%y,v2,rfl,?_,rfl⟩;rw[<- hg,Nat.gcd_comm x y,Nat.gcd_rec y x,Nat.gcd_comm]
    ·refine⟨_,rfl,_,rfl,_,_,rfl,rfl,(by show(0:Int)<y;lia),?_⟩;refine⟨_,rfl,_,rfl,?_⟩;exact⟨rfl,_,by rw[Int.natCast_emod];rfl⟩
   ·have hy:(y:Int)=0:=cY (by simpa only[Aq] using h1);have:y=0:=by lia
    subst this;rw[Nat.gcd_zero_right] at hg;exact hR _ _ ⟨_,_,rfl,by rw[<- hg]⟩
  rintro zzs H1 ⟨v1,v2,rfl,rfl⟩;exact⟨_,rfl,hq⟩
theorem Px{f:Addr}{fd:FuncData} (F:Fun K "chance" "chance" zm f fd) (T:Txt K mg Z) (bC:Df P w K mg base 2 "is_closed" ["view","cell"] (iB K Z.View)) (gP:Df P w K mg base 6 "choices" ["view"] (qP K Z.View Z.TooGreat)) (gD:Df P w K mg base 2 "number_of" ["found","stones"] (Ua K)) (jl:Df P w K mg base 1 "settled" ["found","cell","stone"] (vX K)) (jj:Df P w K mg base 1 "common_divisor" ["one","other"] Yn) :
  cg P w K mg base (CXE P w) 7 f fd ["view","stones","cell"] (Ia K Z.View Z.NoCell Z.TooGreat Z.Impossible):=by
 refine F.HN mY (fun vs H Q E h=>?_) (fun cdv A outer s H vs Q E hr h=>?_)
 ·obtain⟨x,n,v,zs,w,c,rfl,_⟩:=h;rfl
 ·obtain⟨x,n,v,zs,w,c,rfl,vt,dv,e1,e2,e3,hq⟩:=h;have hd:=GC hr;have hu:=mQ hr;refine⟨_,(au (fL (RT.nox (o7 (m9 (aV bC hr rfl aW (aj (rv 0) (aj (rv 2) ak)))))) (aC (jB T.lC rfl T.pB hd (aj kW ak))) bV) (au (aP (i:=3) mY.nd rfl (Or.inl rfl) (aV gP hr rfl ud (aj (rv 0) ak))) (au (RS.nox (aP (i:=4) mY.nd rfl (Or.inl rfl) (aV gD hr rfl aW (aj (rv 3) (aj (rv 1) ak))))) (au (fL (RT.nox (bM (lO.or (lM (K:=K) hu)) (rv 4) aH (cu _))) (aC (jB T.iZ rfl T.nM hd (aj kW ak))) bV) (au (RS.nox (aP (i:=5) mY.nd rfl (Or.inl rfl) (aV gD hr rfl aW (aj (aV jl hr rfl aW (aj (rv 3) (aj (rv 2) (aj z7 ak)))) (aj (rv 1) ak))))) (au (RS.nox (aP (i:=6) mY.nd rfl (Or.inl rfl) (aV jj hr rfl aW (aj (rv 5) (aj (rv 4) ak))))) (aC (RS.nox (aY (dR (aj (cT Hr (rv 5) (rv 6)) (aj (cT Hr (rv 4) (rv 6)) ak)))))))))))),?_⟩;refine aF (fun zzs H1=>aR zs w c=true/\Same H H1/\zzs=[zzR x,zzI n,some v,zzN,zzN,zzN,zzN]) (fun R hR=>?_) ?_
  ·refine⟨_,rfl,_,rfl,x,v,zs,w,c,rfl,vt,dv,?_⟩;refine⟨_,rfl,?_⟩;exact eV (fun h1=>⟨by decide,e1 (by simpa only[qp] using h1) _ (Same.refl _)⟩) (fun h1=>hR _ _ ⟨by simpa only[Aq] using h1,Same.refl _,rfl⟩)
  rintro zzs H1 ⟨hc,s1,rfl⟩;refine aF (fun zzs H2=>∃ q:Addr,(∀ p∈aO zs w,p.length<=12)/\Same H H2/\Ls K H2 q ((chL zs w).map chD)/\zzs=[zzR x,zzI n,some v,zzR q,zzN,zzN,zzN]) (fun R hR=>?_) ?_
  ·exact⟨_,rfl,x,zs,w,rfl,vt.mono s1,fun hg H' s'=>e2 hc hg _ (s1.trans s'),fun h12 q H2 fr=>hR _ _ ⟨q,h12,s1.trans fr.same,fr.ls,rfl⟩⟩
  rintro zzs H2 ⟨q,h12,s2,lq,rfl⟩;obtain⟨c1,c2⟩:=CZ vt.vw h12;refine aF (fun zzs H3=>Same H H3/\Ls K H3 q ((chL zs w).map chD)/\zzs=[zzR x,zzI n,some v,zzR q,zzI (bF zs w n),zzN,zzN]) (fun R hR=>?_) ?_
  ·exact⟨_,rfl,_,rfl,q,n,chL zs w,rfl,lq,c1,c2,fun H' s'=>hR _ _ ⟨s2.trans s',lq.mono s',rfl⟩⟩
  rintro zzs H3 ⟨s3,lq3,rfl⟩;refine aF (fun zzs H4=>H4=H3/\bF zs w n≠0/\zzs=[zzR x,zzI n,some v,zzR q,zzI (bF zs w n),zzN,zzN]) (fun R hR=>?_) ?_
  ·refine⟨_,rfl,.inl ⟨rfl,_,rfl,?_⟩⟩;rw[tE];refine eV (fun h1=>⟨by decide,e3 hc h12 (cY h1) _ s3⟩) (fun h1=>hR _ _ ⟨rfl,jD h1,rfl⟩)
  rintro zzs H4 ⟨rfl,hn,rfl⟩;obtain⟨u0,u1⟩:=zL vt.vw h12 n;obtain⟨t0,t1⟩:=a0H vt.vw h12 c n;refine aF (fun zzs H5=>Same H H5/\zzs=[zzR x,zzI n,some v,zzR q,zzI (bF zs w n),zzI (lH zs w c n),zzN]) (fun R hR=>?_) ?_
  ·refine⟨_,rfl,_,rfl,q,v,true,c,chL zs w,rfl,lq3,dv.mono s3,c1,c2,fun q5 H5 fr=>?_⟩;refine⟨_,rfl,q5,n,_,rfl,fr.ls,fun ch hch=>?_,by rw[aU];exact c2,fun H' s'=>hR _ _ ⟨s3.trans (fr.same.trans s'),rfl⟩⟩;obtain⟨d,hd',rfl⟩:=bW.mp hch;exact Nf (c1 d hd')
  rintro zzs H5 ⟨s5,rfl⟩;refine aF (fun zzs H6=>H6=H5/\zzs=[zzR x,zzI n,some v,zzR q,zzI (bF zs w n),zzI (lH zs w c n),zzI (Jl zs w c n)]) (fun R hR=>?_) ?_
  ·refine⟨_,rfl,_,rfl,(lH zs w c n).toNat,(bF zs w n).toNat,?_,hR _ _ ⟨rfl,rfl⟩⟩;rw[Ez t0,Ez u0];rfl
  rintro zzs H6 ⟨rfl,rfl⟩;have gp:0<Jl zs w c n/\Jl zs w c n<2^64:=by
   unfold Jl;have h1:=V7 (lH zs w c n).toNat (n:=(bF zs w n).toNat) (by lia);have h2:=Nat.gcd_le_right (lH zs w c n).toNat (n:=(bF zs w n).toNat) (by lia);lia
  refine⟨_,rfl,_,rfl,_,_,rfl,rfl,gp,_,rfl,_,rfl,_,_,rfl,rfl,gp,sz rfl,fun t nt=>?_⟩;exact hq hc h12 hn t _ (s5.and nt) aD
end
end My
namespace My
open PySem L2
end My
namespace My
open PySem L2
def gn(zs:List Str)(w:Nat)(c:Cell)(b:Bool):Prop:=∃ ch∈(chL zs w).map (setC c b),ch.2=[]
noncomputable def layW(zs:List Str)(w:Nat)(c:Cell)(b:Bool):List Cell:=((chL zs w).map (setC c b)).flatMap fun ch=>ch.2.headD []
def Nk(K:ao):Sp:=fun vs H Q _=>∃(p:Addr)(chs:List (List Cell×List (List Cell))),vs=[.ref p]/\Ls K H p (chs.map chD)/\(∀ ch∈chs,Ay ch)/\chs.length<=100/\(chs.map fun ch=>ch.1.length).sum<=36 /\
 ((∃ ch∈chs,ch.2=[])->∀ H',Same H H'->Q .non H')/\((¬∃ ch∈chs,ch.2=[])->∀ q H' ds,Fr K H H' q (ds.map aA)->ds.Perm (chs.flatMap fun ch=>ch.2.headD [])->Asc ds->Q (.ref q) H')
def pA(K:ao)(H H':Hp)(v:V)(zs:List Str)(w:Nat)(c:Cell)(b:Bool):Prop:=(gn zs w c b/\v=.non)\/(¬gn zs w c b/\∃(q:Addr)(ds:List Cell),v=.ref q/\H q=none/\Ls K H' q (ds.map aA)/\ds.Perm (layW zs w c b)/\Asc ds)
theorem pA.mono{K:ao}{H H' H'':Hp}{v:V}{zs:List Str}{w:Nat}{c:Cell}{b:Bool}(h:pA K H H' v zs w c b)(s:Same H' H''):pA K H H'' v zs w c b:=by
 rcases h with h|⟨h,q,ds,e,n,l,r⟩
 ·exact .inl h
 ·exact .inr ⟨h,q,ds,e,n,l.mono s,r⟩
theorem pA.non{K:ao}{H H':Hp}{v:V}{zs:List Str}{w:Nat}{c:Cell}{b:Bool}(h:pA K H H' v zs w c b):decide (v=V.non)=true↔gn zs w c b:=by
 rw[lE];rcases h with⟨h,e⟩|⟨h,q,_,e,_⟩
 ·exact⟨fun _=>h,fun _=>e⟩
 ·exact⟨fun z=>(by rw[e] at z;cases z),fun z=>absurd z h⟩
def Lp(C NC TG IM:Addr)(zs:List Str)(w:Nat)(c:Cell)(H:Hp)(E:XK):Prop:=
 (aR zs w c=false->∀ H',Same H H'->E (.ref NC) none H')/\(aR zs w c=true->(∃ p∈aO zs w,12<p.length)->∀ H',Same H H'->E (.ref TG) none H') /\
 (aR zs w c=true->(∀ p∈aO zs w,p.length<=12)->gn zs w c false->gn zs w c true->∀ H',Same H H'->E (.ref IM) none H')
def U4(K:ao)(C NC TG IM:Addr):Sp:=fun vs H Q E=>∃(x:Addr)(v:V)(zs:List Str)(w:Nat)(c:Cell),vs=[.ref x,v]/\dM C H x zs w/\Den K H v (aA c)/\Lp C NC TG IM zs w c H E /\
 (aR zs w c=true->(∀ p∈aO zs w,p.length<=12)->¬(gn zs w c false/\gn zs w c true)->∀ t v0 v1 H',Same H H'->H' t=some (.tup [v0,v1])->pA K H H' v0 zs w c false->pA K H H' v1 zs w c true->(∀ q:Addr,v0=.ref q->v1≠.ref q)->Q (.ref t) H')
open Classical in
noncomputable def uw(zs:List Str)(w:Nat)(c:Cell):Str:=if gn zs w c false then "stone" else if gn zs w c true then "none" else "open"
def Ud(K:ao)(C NC TG IM:Addr):Sp:=fun vs H Q E=>∃(x:Addr)(v:V)(zs:List Str)(w:Nat)(c:Cell),vs=[.ref x,v]/\dM C H x zs w/\Den K H v (aA c)/\Lp C NC TG IM zs w c H E /\
 (aR zs w c=true->(∀ p∈aO zs w,p.length<=12)->¬(gn zs w c false/\gn zs w c true)->∀ H',Same H H'->Q (.str (uw zs w c)) H')
section
variable{P:Program}{w:World}{K:ao}{mg:Str->Option Value}{base:Heap}{Z:Adr}
theorem Gz{chs:List (List Cell×List (List Cell))}(h:∀ ch∈chs,Ay ch):(chs.flatMap fun ch=>ch.2.headD []).length<=(chs.map fun ch=>ch.1.length).sum:=by
 induction chs with
 |nil=>exact bR _
 |cons ch chs ih=>
  rw[uG,dB,cZ,Ag];have h1:=ih fun c hc=>h c (dw _ hc)
  have h2:(ch.2.headD []).length<=ch.1.length:=by
   cases e:ch.2 with
   |nil=>exact lF _
   |cons l ls=>exact(h ch cG).2.1 l (by rw[e];exact cG)
  lia
theorem S8{f:Addr}{fd:FuncData} (F:Fun K "first_laying" "first_laying" lg f fd) (T:Txt K mg Z):cg P w K mg base (CXE P w) 1 f fd ["found"] (Nk K):=by
 refine F.rok jL (fun vs H Q E h=>?_) (fun cdv A outer s H vs Q E hr h=>?_)
 ·obtain⟨p,chs,rfl,_⟩:=h;rfl
 ·obtain⟨p,chs,rfl,hp,hok,h100,h36,hn,hq⟩:=h;have hu:=mQ hr;refine⟨_,(au (aP (i:=1) jL.nd rfl (Or.inl rfl) (cX ak)) (au (cJ dW rfl (bx (K:=K) (rv 0)) (aZ (i:=2) jL.nd rfl (Or.inl rfl)) (au (fL (bM (lO.or (lM (K:=K) hu)) (bf (fu (K:=K)) rfl T.eF cH (aj (dO (dN (K:=K)) (rv 2) aH) ak)) aH (cu _)) (aC (aY Hx)) bV) (aC (gU (mU (K:=K) lW PySem.F.slot_list_extend PySem.F.type_list_extend (Rv (K:=K)) (rv 1) (aj (dO (dN (K:=K)) (dO (dN (K:=K)) (rv 2) aH) aH) ak)))))) (aC (aY (bf (W9 (K:=K) hu) rfl T.sZ uV (aj (rv 1) ak)))))),?_⟩;refine aF (fun zzs H1=>∃ q:Addr,H q=none/\Same H H1/\H1 q=some (.lst [])/\zzs=[zzR p,zzR q,zzN]) (fun R hR=>?_) ?_
  ·exact⟨by decide,fun q nq=>hR _ _ ⟨q,nq,Same.put nq,aD,rfl⟩⟩
  rintro zzs H1 ⟨q,nq,s1,eq1,rfl⟩;obtain⟨os,eo,Do⟩:=hp;have los:os.length=chs.length:=by rw[Do.length,aU]
  refine aF (fun zzs H2=>∃(us:List V)(v2:Option V),Same H H2/\H2 q=some (.lst us)/\aN K H2 us ((chs.flatMap fun ch=>ch.2.headD []).map aA)/\(¬∃ ch∈chs,ch.2=[])/\zzs=[zzR p,zzR q,v2]) (fun R hR=>?_) ?_
  ·refine⟨_,rfl,p,rfl,⟨_,SqL.of (s1 _ _ eo)⟩,?_⟩;refine dh (K:=K) (xs:=os) (fun i zzs H2=>∃(us:List V)(v2:Option V),Same H H2/\H2 q=some (.lst us)/\aN K H2 us (((chs.take i).flatMap fun ch=>ch.2.headD []).map aA)/\(¬∃ ch∈chs.take i,ch.2=[])/\zzs=[zzR p,zzR q,v2])
    ⟨[],none,s1,eq1,.nil,(fun⟨_,h,_⟩=>by cases h),rfl⟩ (fun i zzs H2 _ hh=>by obtain⟨_,_,g,_⟩:=hh;exact SqL.of (g _ _ eo)) (fun i u zzs H2 hi hh=>?_) (fun zzs H2 hh=>?_)
   ·obtain⟨us,v2,g1,g2,D2,no,rfl⟩:=hh;obtain⟨d,ed,du⟩:=Do.get hi;rw[cU] at ed;obtain⟨ch,ec,rfl⟩:=jC.mp ed;have cm:=fB ec;obtain⟨a2R,hrow,h5k⟩:=hok ch cm;obtain⟨t,a,e,xs,ys,rfl,ht,ha,Da,he,De⟩:=Jf du;have tk:chs.take (i+1)=chs.take i++[ch]:=by rw[jf,ec];rfl
    have at1:∀ {Q:VK},Q (.ref e) H2->rIx K (.ref t) (.int 1) H2 Q:=fun q=>.inr (.inl ⟨t,_,_,_,rfl,rfl,SqT.of (g1 _ _ ht),cW (j:=1) rfl,q⟩)
    refine aF (fun zzs H3=>H2=H3/\ch.2≠[]/\zzs=[zzR p,zzR q,zzR t]) (fun R' hR'=>?_) ?_
    ·refine⟨_,rfl,at1 ?_⟩;dsimp only[rW];refine vG (Den.mono g1 (.lst he De)) (.inl ⟨rfl,_,rfl,?_⟩);rw[tE,aU];refine eV (fun h1=>?_) (fun h1=>?_)
     ·have h1:=cY h1;exact hn ⟨ch,cm,Kf.mp (by lia)⟩ _ g1
     ·have h1:=jD h1;exact hR' _ _ ⟨rfl,fun z=>h1 (by rw[z];rfl),rfl⟩
    rintro zzs H3 ⟨rfl,hne,rfl⟩;obtain⟨l0,lr,el0⟩:∃ l0 lr,ch.2=l0::lr:=by
     cases e':ch.2 with
     |nil=>exact absurd e' hne
     |cons l0 lr=>exact⟨l0,lr,rfl⟩
    rw[el0] at De;obtain⟨u0,ys',rfl⟩:∃ u0 ys',ys=u0::ys':=by cases De;exact⟨_,_,rfl⟩
    have d0:Den K H u0 (vH l0):=by cases De with|cons h _=>exact h
    cases d0 with
    |@lst b zs' _ hb Db=>
     have h0:l0.length<=ch.1.length:=hrow l0 (by rw[el0];exact cG);have lz:zs'.length<=36:=by rw[Db.length,aU];lia
     have lus:us.length<=36:=by
      rw[D2.length,aU];refine cP (Gz fun c hc=>hok c (zU hc)) (cP ?_ h36);rw[List.map_take];have:=Al i (chs.map fun ch=>ch.1.length);have e3:=congrArg List.sum this;rw[List.sum_append] at e3;lia
     refine⟨_,rfl,.inl ⟨rfl,_,SqL.of g2⟩,_,rfl,at1 (.inl ⟨e,_,_,_,rfl,rfl,g1.seq he,gH,?_⟩)⟩;refine⟨q,b,us,zs',rfl,rfl,g2,g1.seq hb,small (by lia),?_⟩;refine⟨_,_,(SameBut.refl q _).put.of g1 nq,aD,?_,?_,rfl⟩
     ·rw[tk,zW,dU];have e4:([ch].flatMap fun ch=>ch.2.headD [])=l0:=by
       rw[uG,el0];simp
      rw[e4];exact((SameBut.refl q _).put.cells g2 D2).append ((SameBut.refl q _).put.cells g2 (Db.mono g1))
     ·rw[tk];rintro⟨c,hc,z⟩;rcases cO.mp hc with y|y
      ·exact no ⟨c,y,z⟩
      ·rw[dD.mp y] at z;exact hne z
   ·obtain⟨us,v2,g1,g2,D2,no,rfl⟩:=hh;rw[los,jE] at D2 no;exact hR _ _ ⟨us,v2,g1,g2,D2,no,rfl⟩
  rintro zzs H2 ⟨us,v2,s2,eq2,D2,no,rfl⟩;have fl:=Gz hok;refine⟨_,rfl,q,us,_,rfl,SqL.of eq2,D2,by lia,fun l ws ds nl pm D' pc as=>?_⟩;exact hq no l _ ds ⟨s2.and nl,s2.free nl,.new nl D'⟩ pc as
theorem Wo{f:Addr}{fd:FuncData} (F:Fun K "both_ways" "both_ways" pR f fd) (T:Txt K mg Z) (bC:Df P w K mg base 2 "is_closed" ["view","cell"] (iB K Z.View)) (gP:Df P w K mg base 6 "choices" ["view"] (qP K Z.View Z.TooGreat)) (jl:Df P w K mg base 1 "settled" ["found","cell","stone"] (vX K)) (iR:Df P w K mg base 1 "first_laying" ["found"] (Nk K)) :
  cg P w K mg base (CXE P w) 7 f fd ["view","cell"] (U4 K Z.View Z.NoCell Z.TooGreat Z.Impossible):=by
 refine F.HN jT (fun vs H Q E h=>?_) (fun cdv A outer s H vs Q E hr h=>?_)
 ·obtain⟨x,v,zs,w,c,rfl,_⟩:=h;rfl
 ·obtain⟨x,v,zs,w,c,rfl,vt,dv,⟨e1,e2,e3⟩,hq⟩:=h;have hd:=GC hr;have hu:=mQ hr;refine⟨_,(au (fL (RT.nox (o7 (m9 (aV bC hr rfl aW (aj (rv 0) (aj (rv 1) ak)))))) (aC (jB T.lC rfl T.pB hd (aj kW ak))) bV) (au (aP (i:=2) jT.nd rfl (Or.inl rfl) (aV gP hr rfl ud (aj (rv 0) ak))) (au (RS.nox (aP (i:=3) jT.nd rfl (Or.inl rfl) (aV iR hr rfl aW (aj (aV jl hr rfl aW (aj (rv 2) (aj (rv 1) (aj z7 ak)))) ak)))) (au (RS.nox (aP (i:=4) jT.nd rfl (Or.inl rfl) (aV iR hr rfl aW (aj (aV jl hr rfl aW (aj (rv 2) (aj (rv 1) (aj z7 ak)))) ak)))) (au (fL (RT.nox (HS (vD (bM DQ (rv 3) Hx (cu _)) (qN (bM DQ (rv 4) Hx (cu _)))))) (aC (jB T.iZ rfl T.nM hd (aj kW ak))) bV) (aC (RS.nox (aY (dR (aj (rv 3) (aj (rv 4) ak))))))))))),?_⟩;refine aF (fun zzs H1=>aR zs w c=true/\H=H1/\zzs=[zzR x,some v,zzN,zzN,zzN]) (fun R hR=>?_) ?_
  ·refine⟨_,rfl,_,rfl,x,v,zs,w,c,rfl,vt,dv,?_⟩;refine⟨_,rfl,?_⟩;exact eV (fun h1=>⟨by decide,e1 (by simpa only[qp] using h1) _ (Same.refl _)⟩) (fun h1=>hR _ _ ⟨by simpa only[Aq] using h1,rfl,rfl⟩)
  rintro zzs H1 ⟨hc,rfl,rfl⟩;refine aF (fun zzs H2=>∃ q:Addr,(∀ p∈aO zs w,p.length<=12)/\Same H H2/\Ls K H2 q ((chL zs w).map chD)/\zzs=[zzR x,some v,zzR q,zzN,zzN]) (fun R hR=>?_) ?_
  ·exact⟨_,rfl,x,zs,w,rfl,vt,fun hg H' s'=>e2 hc hg _ s',fun h12 q H2 fr=>hR _ _ ⟨q,h12,fr.same,fr.ls,rfl⟩⟩
  rintro zzs H2 ⟨q,h12,s2,lq,rfl⟩;obtain⟨c1,c2⟩:=CZ vt.vw h12;have csum:∀ b:Bool,(((chL zs w).map (setC c b)).map fun ch=>ch.1.length).sum<=36:=fun b=>by
   rw[Ng,J0 vt.vw.le vt.vw.w6];exact eG vt.vw
  have cok:∀ b:Bool,∀ ch∈(chL zs w).map (setC c b),Ay ch:=fun b ch hch=>by
   obtain⟨d,hd',rfl⟩:=bW.mp hch;exact Nf (c1 d hd')
  refine aF (fun zzs H3=>∃ v0:V,Same H2 H3/\pA K H H3 v0 zs w c false/\zzs=[zzR x,some v,zzR q,some v0,zzN]) (fun R hR=>?_) ?_
  ·refine⟨_,rfl,_,rfl,q,v,false,c,chL zs w,rfl,lq,dv.mono s2,c1,c2,fun q5 H5 fr=>?_⟩;refine⟨q5,_,rfl,fr.ls,cok false,by rw[aU];exact c2,csum false,fun hn H' s'=>hR _ _ ⟨_,fr.same.trans s',.inl ⟨hn,rfl⟩,rfl⟩,fun hn q6 H' ds f6 pm as=>hR _ _ ⟨_,fr.same.trans f6.same,.inr ⟨hn,q6,ds,rfl,(s2.trans fr.same).free f6.new,f6.ls,pm,as⟩,rfl⟩⟩
  rintro zzs H3 ⟨v0,s3,w0,rfl⟩;refine aF (fun zzs H4=>∃ v1:V,Same H3 H4/\pA K H H4 v1 zs w c true/\(∀ q:Addr,v0=.ref q->v1≠.ref q)/\zzs=[zzR x,some v,zzR q,some v0,some v1]) (fun R hR=>?_) ?_
  ·refine⟨_,rfl,_,rfl,q,v,true,c,chL zs w,rfl,lq.mono s3,dv.mono (s2.trans s3),c1,c2,fun q5 H5 fr=>?_⟩;refine⟨q5,_,rfl,fr.ls,cok true,by rw[aU];exact c2,csum true,fun hn H' s'=>hR _ _ ⟨_,fr.same.trans s',.inl ⟨hn,rfl⟩,(fun _ _ z=>by cases z),rfl⟩,fun hn q6 H' ds f6 pm as=>hR _ _ ⟨_,fr.same.trans f6.same,.inr ⟨hn,q6,ds,rfl,(s2.trans (s3.trans fr.same)).free f6.new,f6.ls,pm,as⟩,(fun q' e' z=>?_),rfl⟩⟩;injection z with z;rcases w0 with⟨_,e0⟩|⟨_,q0,_,e0,_,⟨_,l0,_⟩,_⟩
   ·rw[e0] at e';cases e'
   ·rw[e0] at e';injection e' with e';have:=f6.new;rw[z,<- e',fr.same _ _ l0] at this;cases this
  rintro zzs H4 ⟨v1,s4,w1,apart,rfl⟩;have sA:=s2.trans (s3.trans s4);refine aF (fun zzs H5=>¬(gn zs w c false/\gn zs w c true)/\H4=H5/\zzs=[zzR x,some v,zzR q,some v0,some v1]) (fun R hR=>?_) ?_
  ·refine⟨_,rfl,rfl,_,rfl,?_⟩;refine eV (fun h1=>⟨_,rfl,rfl,_,rfl,?_⟩) (fun h1=>hR _ _ ⟨fun z=>(by rw[w0.non.mpr z.1] at h1;cases h1),rfl,rfl⟩);exact eV (fun h2=>⟨by decide,e3 hc h12 (w0.non.mp h1) (w1.non.mp h2) _ sA⟩) (fun h2=>hR _ _ ⟨fun z=>(by rw[w1.non.mpr z.2] at h2;cases h2),rfl,rfl⟩)
  rintro zzs H5 ⟨hno,rfl,rfl⟩;exact⟨_,rfl,_,rfl,sz rfl,fun t nt=>hq hc h12 hno t v0 v1 _ (sA.and nt) aD ((w0.mono s4).mono (Same.put nt)) (w1.mono (Same.put nt)) apart⟩
open Classical in
theorem Ww{f:Addr}{fd:FuncData} (F:Fun K "sure" "sure" JV f fd) (T:Txt K mg Z) (oX:Df P w K mg base 7 "both_ways" ["view","cell"] (U4 K Z.View Z.NoCell Z.TooGreat Z.Impossible)) :
  cg P w K mg base (CXE P w) 8 f fd ["view","cell"] (Ud K Z.View Z.NoCell Z.TooGreat Z.Impossible):=by
 refine F.HN N8 (fun vs H Q E h=>?_) (fun cdv A outer s H vs Q E hr h=>?_)
 ·obtain⟨x,v,zs,w,c,rfl,_⟩:=h;rfl
 ·obtain⟨x,v,zs,w,c,rfl,vt,dv,re,hq⟩:=h;refine⟨_,(au (aP (i:=2) N8.nd rfl (Or.inl rfl) (aV oX hr rfl ud (aj (rv 0) (aj (rv 1) ak)))) (au (RS.nox (fL (bM DQ (dO (dN (K:=K)) (rv 2) aH) Hx (cu _)) (aC (aY kW)) bV)) (au (RS.nox (fL (bM DQ (dO (dN (K:=K)) (rv 2) aH) Hx (cu _)) (aC (aY kW)) bV)) (aC (RS.nox (aY kW)))))),?_⟩;refine aF (fun zzs H1=>∃(t:Addr)(v0 v1:V),aR zs w c=true/\(∀ p∈aO zs w,p.length<=12)/\¬(gn zs w c false/\gn zs w c true)/\Same H H1/\H1 t=some (.tup [v0,v1])/\pA K H H1 v0 zs w c false/\pA K H H1 v1 zs w c true/\(∀ q:Addr,v0=.ref q->v1≠.ref q)/\zzs=[zzR x,some v,zzR t]) (fun R hR=>?_) ?_
  ·exact⟨_,rfl,_,rfl,x,v,zs,w,c,rfl,vt,dv,re,fun hc h12 hno t v0 v1 H' s' et w0 w1 ap=>hR _ _ ⟨t,v0,v1,hc,h12,hno,s',et,w0,w1,ap,rfl⟩⟩
  rintro zzs H1 ⟨t,v0,v1,hc,h12,hno,s1,et,w0,w1,ap,rfl⟩;have hq':=hq hc h12 hno _ s1;unfold uw at hq';refine aF (fun zzs H2=>¬gn zs w c false/\H1=H2/\zzs=[zzR x,some v,zzR t]) (fun R hR=>?_) ?_
  ·refine⟨_,rfl,.inr (.inl ⟨t,_,_,_,rfl,rfl,SqT.of et,gH,rfl,_,rfl,?_⟩)⟩;refine eV (fun h1=>?_) (fun h1=>hR _ _ ⟨fun z=>(by rw[w0.non.mpr z] at h1;cases h1),rfl,rfl⟩);rw[aK (w0.non.mp h1)] at hq';exact hq'
  rintro zzs H2 ⟨h1,rfl,rfl⟩;rw[aG h1] at hq';refine aF (fun zzs H2=>¬gn zs w c true/\H1=H2/\zzs=[zzR x,some v,zzR t]) (fun R hR=>?_) ?_
  ·refine⟨_,rfl,.inr (.inl ⟨t,_,_,_,rfl,rfl,SqT.of et,cW (j:=1) rfl,rfl,_,rfl,?_⟩)⟩;refine eV (fun h2=>?_) (fun h2=>hR _ _ ⟨fun z=>(by rw[w1.non.mpr z] at h2;cases h2),rfl,rfl⟩);rw[aK (w1.non.mp h2)] at hq';exact hq'
  rintro zzs H2 ⟨h2,rfl,rfl⟩;rw[aG h2] at hq';exact hq'
end
end My
namespace My
open PySem L2
section
variable{zs:List Str}{w:Nat}{c:Cell}
def FT(zs:List Str)(w:Nat):Prop:=∃ ch∈chL zs w,ch.2=[]
theorem yW(b:Bool):gn zs w c b↔(FT zs w\/∃ p∈aO zs w,c∈p/\((eY zs w p).filter fun l=>decide (decide (c∈l)=b))=[]):=by
 constructor
 ·rintro⟨ch',hc',e⟩;obtain⟨ch,hc,rfl⟩:=bW.mp hc';unfold setC at e;by_cases z:c∈ch.1
  ·rw[aK z] at e;have hc0:=hc;unfold chL at hc;rcases cL.mp hc with rfl|hc
   ·cases z
   rcases cO.mp hc with hc|hc
   ·obtain⟨p,hp,rfl⟩:=bW.mp hc;exact .inr ⟨p,hp,z,e⟩
   ·obtain⟨x,_,rfl⟩:=bW.mp hc;exfalso;have zx:c=x:=dD.mp z;subst zx
    cases b<;>simp at e
  ·rw[aG z] at e;exact .inl ⟨ch,hc,e⟩
 ·rintro(⟨ch,hc,e⟩|⟨p,hp,z,e⟩)
  ·refine⟨setC c b ch,bW.mpr ⟨ch,hc,rfl⟩,?_⟩;unfold setC;by_cases z:c∈ch.1
   ·rw[aK z];show ch.2.filter _=[];rw[e];rfl
   ·rw[aG z];exact e
  ·refine⟨setC c b (p,eY zs w p),bW.mpr ⟨_,dw _ (j7 _ (bW.mpr ⟨p,hp,rfl⟩)),rfl⟩,?_⟩;unfold setC;rw[aK (show c∈(p,eY zs w p).1 from z)];exact e
theorem Hq(h6:zs.length<=6)(w6:w<=6){p q:List Cell}(hp:p∈aO zs w)(hq:q∈aO zs w)(cp:c∈p)(cq:c∈q):p=q:=by
 obtain⟨ok,_⟩:=jq (zs:=zs) (w:=w) h6 w6;obtain⟨x,hx,rfl⟩:=ok.of p hp;obtain⟨y,hy,rfl⟩:=ok.of q hq;rw[<- kj h6 w6 hx cp,kj h6 w6 hy cq]
theorem QF(v:Vw zs w):(gn zs w c false/\gn zs w c true)↔FT zs w:=by
 rw[yW,yW]
 constructor
 ·rintro⟨h|⟨p,hp,cp,ep⟩,h'|⟨q,hq,cq,eq⟩⟩
  ·exact h
  ·exact h
  ·exact h'
  ·have:=Hq v.le v.w6 hp hq cp cq;subst this;refine⟨(p,eY zs w p),dw _ (j7 _ (bW.mpr ⟨p,hp,rfl⟩)),?_⟩
   cases e:eY zs w p with
   |nil=>rfl
   |cons l ls=>
    rw[e] at ep eq;rw[wj] at ep eq;by_cases hl:c∈l
    ·rw[bN hl] at eq;cases eq
    ·rw[bZ hl] at ep;cases ep
 ·intro h;exact⟨.inl h,.inl h⟩
end
end My
namespace My
open PySem L2
def gG(f:Nat->Int)(chs:List (List Cell×List (List Cell))):Nat->Int:=chs.foldl (fun f ch=>cv f (co (cI ch.1.length ch.2))) f
theorem nP:∀(chs:List (List Cell×List (List Cell)))(a:List Int),co (iU a chs)=gG (co a) chs
 |[],_=>rfl
 |ch::chs,a=>by
  show co (iU (mulL a (cI ch.1.length ch.2)) chs)=gG (cv (co a) (co (cI ch.1.length ch.2))) chs;rw[nP chs,funext (R0 a (cI ch.1.length ch.2))]
theorem YT(f g h:Nat->Int):cv (fun n=>f n+g n) h=fun n=>cv f h n+cv g h n:=funext fun n=>by
 unfold cv;rw[<- zG];exact g8 fun i _=>Ai _ _ _
theorem VJ(h:Nat->Int):cv (fun _=>0) h=fun _=>0:=funext fun n=>by
 unfold cv;rw[g8 (g:=fun _=>0) fun i _=>Fz _,qO]
theorem VH(f g h:Nat->Int):cv f (fun n=>g n+h n)=fun n=>cv f g n+cv f h n:=funext fun n=>by
 unfold cv;rw[<- zG];exact g8 fun i _=>FP _ _ _
theorem Gi(f:Nat->Int):cv f (fun _=>0)=fun _=>0:=funext fun n=>by
 unfold cv;rw[g8 (g:=fun _=>0) fun i _=>sU _,qO]
theorem Jk:∀(chs:List (List Cell×List (List Cell)))(f g:Nat->Int),gG (fun n=>f n+g n) chs=fun n=>gG f chs n+gG g chs n
 |[],_,_=>rfl
 |ch::chs,f,g=>by
  show gG (cv (fun n=>f n+g n) _) chs=_;rw[YT,Jk chs];rfl
theorem xU:∀(chs:List (List Cell×List (List Cell))),gG (fun _=>0) chs=fun _=>0
 |[]=>rfl
 |ch::chs=>by
  show gG (cv (fun _=>0) _) chs=_;rw[VJ,xU chs]
def dd(f:Nat->Int)(n:Nat):Int:=(n:Int)*f n
theorem a0Z(f g:Nat->Int):dd (cv f g)=fun n=>cv (dd f) g n+cv f (dd g) n:=funext fun n=>by
 unfold dd cv;rw[<- U0,<- zG];refine g8 fun i hi=>?_
 have e:(n:Int)=(i:Int)+((n-i:Nat):Int):=by lia
 rw[e,Ai,qw];congr 1;rw[<- qw,FJ _ (f i),qw]
def dJ(F:Cell->Int)(cs:List Cell):Int:=cs.foldr (fun c a=>F c+a) 0
theorem zK(F:Cell->Int):∀ a b:List Cell,dJ F (a++b)=dJ F a+dJ F b
 |[],b=>(ni _).symm
 |c::a,b=>by show F c+dJ F (a++b)=F c+dJ F a+dJ F b;rw[zK F a b,Int.add_assoc]
theorem fX{F G:Cell->Int}:∀ {a:List Cell},(∀ c∈a,F c=G c)->dJ F a=dJ G a
 |[],_=>rfl
 |c::a,h=>by show F c+dJ F a=G c+dJ G a;rw[h c cG,fX fun d hd=>h d (dw _ hd)]
theorem Qk(F:Cell->Int){a b:List Cell}(h:a.Perm b):dJ F a=dJ F b:=by
 induction h with
 |nil=>rfl
 |cons x _ ih=>show F x+dJ F _=F x+dJ F _;rw[ih]
 |swap x y l=>show F y+(F x+dJ F l)=F x+(F y+dJ F l);lia
 |trans _ _ a b=>exact a.trans b
theorem Nu(f:Nat->Int)(g:Cell->Nat->Int):∀(cs:List Cell)(chs:List (List Cell×List (List Cell)))(n:Nat),dJ (fun c=>gG (cv f (g c)) chs n) cs=gG (cv f (fun m=>dJ (fun c=>g c m) cs)) chs n
 |[],chs,n=>by
  show 0=gG (cv f (fun _=>0)) chs n;rw[Gi,xU]
 |c::cs,chs,n=>by
  show gG (cv f (g c)) chs n+dJ (fun c=>gG (cv f (g c)) chs n) cs=gG (cv f (fun m=>g c m+dJ (fun c=>g c m) cs)) chs n;rw[Nu f g cs chs n,VH,Jk]
theorem yd{l:List Cell}(hl:l.Nodup):∀ {cs:List Cell},cs.Nodup->dJ (fun c=>if c∈l then 1 else 0) cs=((cs.filter fun c=>decide (c∈l)).length:Int)
 |[],_=>rfl
 |c::cs,h=>by
  show(if c∈l then 1 else 0)+dJ (fun c=>if c∈l then 1 else 0) cs=_;rw[yd hl (wk.mp h).2,wj];by_cases z:c∈l
  ·rw[aK z,aK (bN z),fO];lia
  ·rw[aG z,aG (by simpa using z)];lia
theorem Ly{cs:List Cell}(nd:cs.Nodup){m:Nat}(hm:m<=cs.length):∀ {ls:List (List Cell)},(∀ l∈ls,l.Sublist cs)->dJ (fun c=>co (cI cs.length (ls.filter fun l=>decide (decide (c∈l)=true))) m) cs=(m:Int)*co (cI cs.length ls) m
 |[],_=>by
  rw[jG hm];have:dJ (fun c=>co (cI cs.length (([]:List (List Cell)).filter fun l=>decide (decide (c∈l)=true))) m) cs=dJ (fun _=>0) cs:=fX fun c _=>by rw[List.filter_nil,jG hm];rfl
  rw[this];have z:∀ cs:List Cell,dJ (fun _=>0) cs=0:=fun cs=>by
   induction cs with
   |nil=>rfl
   |cons a l ih=>show 0+dJ (fun _=>0) l=0;rw[ih];rfl
  rw[z];show 0=(m:Int)*0;rw[sU]
 |l::ls,h=>by
  have ih:=Ly nd hm (ls:=ls) fun x hx=>h x (dw _ hx)
  have sub:=h l cG;have ln:l.Nodup:=sub.nodup nd;have e:∀ c:Cell,co (cI cs.length ((l::ls).filter fun l=>decide (decide (c∈l)=true))) m=co (cI cs.length (ls.filter fun l=>decide (decide (c∈l)=true))) m+(if m=l.length then(if c∈l then 1 else 0) else 0):=fun c=>by
   rw[jG hm,jG hm,wj];by_cases z:c∈l
   ·rw[bN z,aK (by decide),aK z,cZ,La];by_cases q:m=l.length
    ·rw[aK q,aK (by rw[j8];lia)];rfl
    ·rw[aG q,aG (by rw[j8];lia)];rfl
   ·rw[bZ z,aG (by decide),aG z];split<;>lia
  have add:∀(F G:Cell->Int)(cs:List Cell),dJ (fun c=>F c+G c) cs=dJ F cs+dJ G cs:=fun F G cs=>by
   induction cs with
   |nil=>rfl
   |cons a l ih=>show F a+G a+dJ (fun c=>F c+G c) l=F a+dJ F l+(G a+dJ G l);rw[ih];lia
  rw[fX fun c _=>e c,add,ih,jG hm,jG hm,cZ,La];by_cases q:m=l.length
  ·have e2:dJ (fun c=>if m=l.length then(if c∈l then 1 else 0) else 0) cs=(l.length:Int):=by
    rw[fX (G:=fun c=>if c∈l then 1 else 0) fun c _=>aK q,yd ln nd];have:(cs.filter fun c=>decide (c∈l)).Perm l:=(Kc (nd.sublist Ao) ln).mpr fun c=>by
     rw[cB,lE];exact⟨fun h=>h.2,fun h=>⟨sub.subset h,h⟩⟩
    rw[this.length_eq]
   rw[e2,aK (by rw[j8];lia),Int.natCast_add,FP,q];lia
  ·have e2:dJ (fun c=>if m=l.length then(if c∈l then 1 else 0) else 0) cs=0:=by
    rw[fX (G:=fun c=>if c∈([]:List Cell) then 1 else 0) fun c _=>by rw[aG q,aG (by simp)],yd .nil nd];rw[zP.mpr fun c _=>by simp];rfl
   rw[e2,aG (by rw[j8];lia),oH,sO]
theorem Xr{c:Cell}{b:Bool}{chs:List (List Cell×List (List Cell))}(h:∀ ch∈chs,c∉ch.1):chs.map (setC c b)=chs:=by
 have:chs.map (setC c b)=chs.map id:=Am fun ch hc=>aG (h ch hc)
 rw[this,FN]
theorem Nv:∀ {chs:List (List Cell×List (List Cell))} {f:Nat->Int},(∀ ch∈chs,ch.1.Nodup/\∀ l∈ch.2,l.Sublist ch.1)->(chs.Pairwise fun a b=>∀ y∈a.1,y∉b.1)->∀ n:Nat,
  dJ (fun c=>gG f (chs.map (setC c true)) n) (chs.flatMap fun ch=>ch.1)+gG (dd f) chs n=(n:Int)*gG f chs n
 |[],f,_,_,n=>by
  show 0+dd f n=(n:Int)*f n;rw[ni];rfl
 |ch::chs,f,h,hd,n=>by
  obtain⟨nd,sb⟩:=h ch cG;obtain⟨d1,d2⟩:=oO.mp hd;have ih:=Nv (chs:=chs) (f:=cv f (co (cI ch.1.length ch.2))) (fun x hx=>h x (dw _ hx)) d2 n;rw[uG,zK];have e1:dJ (fun c=>gG f ((ch::chs).map (setC c true)) n) ch.1=gG (cv f (dd (co (cI ch.1.length ch.2)))) chs n:=by
   have a1:dJ (fun c=>gG f ((ch::chs).map (setC c true)) n) ch.1=dJ (fun c=>gG (cv f (co (cI ch.1.length (ch.2.filter fun l=>decide (decide (c∈l)=true))))) chs n) ch.1:=fX fun c hc=>by
    rw[cZ,Xr fun x hx z=>d1 x hx c hc z];have:setC c true ch=(ch.1,ch.2.filter fun l=>decide (decide (c∈l)=true)):=aK hc;rw[this];rfl
   rw[a1,Nu f (fun c=>co (cI ch.1.length (ch.2.filter fun l=>decide (decide (c∈l)=true))))];have a2:(fun m=>dJ (fun c=>co (cI ch.1.length (ch.2.filter fun l=>decide (decide (c∈l)=true))) m) ch.1)=dd (co (cI ch.1.length ch.2)):=funext fun m=>by
    by_cases hm:m<=ch.1.length
    ·exact Ly nd hm sb
    ·unfold dd;rw[m8 (a:=cI ch.1.length ch.2) (by rw[eO];lia),sU];have:dJ (fun c=>co (cI ch.1.length (ch.2.filter fun l=>decide (decide (c∈l)=true))) m) ch.1=dJ (fun c=>if c∈([]:List Cell) then 1 else 0) ch.1:=fX fun c _=>by
      rw[m8 (by rw[eO];lia),aG (by simp)]
     rw[this,yd .nil nd,zP.mpr fun c _=>by simp];rfl
   rw[a2]
  have e2:dJ (fun c=>gG f ((ch::chs).map (setC c true)) n) (chs.flatMap fun ch=>ch.1)=dJ (fun c=>gG (cv f (co (cI ch.1.length ch.2))) (chs.map (setC c true)) n) (chs.flatMap fun ch=>ch.1):=fX fun c hc=>by
   obtain⟨x,hx,hc'⟩:=KQ.mp hc;have:setC c true ch=ch:=aG fun z=>d1 x hx c z hc'
   rw[cZ,this];rfl
  have e3:gG (dd (cv f (co (cI ch.1.length ch.2)))) chs n=gG (cv (dd f) (co (cI ch.1.length ch.2))) chs n+gG (cv f (dd (co (cI ch.1.length ch.2)))) chs n:=by rw[a0Z,Jk]
  rw[e3] at ih;rw[e1,e2];show _+_+gG (cv (dd f) (co (cI ch.1.length ch.2))) chs n=(n:Int)*gG (cv f (co (cI ch.1.length ch.2))) chs n;lia
theorem Yl{f g:Nat->Int}:∀ {n:Nat},(∀ i,i<n->f i<=g i)->sm f n<=sm g n
 |0,_=>wF 0
 |n+1,h=>Int.add_le_add (Yl fun i hi=>h i (rZ hi)) (h n (wg n))
theorem VG{n:Nat}{ls:List (List Cell)}{p:List Cell->Bool}(m:Nat):co (cI n (ls.filter p)) m<=co (cI n ls) m:=by
 by_cases hm:m<=n
 ·rw[jG hm,jG hm];have:=(List.Sublist.map (fun r:List Cell=>(r.length:Int)) (Ao (p:=p) (l:=ls))).count_le (m:Int);lia
 ·rw[m8 (by rw[eO];lia),m8 (by rw[eO];lia)];exact wF 0
theorem Y5{c:Cell}{b:Bool}:∀(chs:List (List Cell×List (List Cell))){f g:Nat->Int},(∀ n,0<=f n)->(∀ n,f n<=g n)->∀ n,0<=gG f (chs.map (setC c b)) n/\gG f (chs.map (setC c b)) n<=gG g chs n
 |[],f,g,h0,h1,n=>⟨h0 n,h1 n⟩
 |ch::chs,f,g,h0,h1,n=>by
  have hc:∀ m,0<=co (cI (setC c b ch).1.length (setC c b ch).2) m/\co (cI (setC c b ch).1.length (setC c b ch).2) m<=co (cI ch.1.length ch.2) m:=fun m=>by
   refine⟨QX _ _ m,?_⟩;unfold setC;by_cases z:c∈ch.1
   ·rw[aK z];exact VG m
   ·rw[aG z];exact wF _
  refine Y5 chs (f:=cv f (co (cI (setC c b ch).1.length (setC c b ch).2))) (g:=cv g (co (cI ch.1.length ch.2))) (fun m=>I9 fun i _=>Lf (h0 i) (hc _).1) (fun m=>Yl fun i _=>Lg (h1 i) (hc _).2 (hc _).1 (Int.le_trans (h0 i) (h1 i))) n
theorem Ds:∀ {chs:List (List Cell×List (List Cell))} {f:Nat->Int},(∃ ch∈chs,ch.2=[])->gG f chs=fun _=>0
 |ch::chs,f,⟨d,hd,e⟩=>by
  show gG (cv f (co (cI ch.1.length ch.2))) chs=_;rcases cL.mp hd with rfl|hd
  ·have z:co (cI d.1.length d.2)=fun _=>0:=funext fun m=>by
    rw[e];by_cases hm:m<=d.1.length
    ·rw[jG hm];rfl
    ·rw[m8 (by rw[eO];lia)]
   rw[z,Gi,xU]
  ·exact Ds ⟨d,hd,e⟩
end My
namespace My
open PySem L2
section
variable{zs:List Str}{w:Nat}
theorem M5{x:Cell}(h:x∈jQ zs w):x∉bJ zs w:=fun z=>by
 have h1:=cY (cB.mp h).2;have h2:=cY (cB.mp z).2;lia
theorem YL(v:Vw zs w):(chL zs w).Pairwise fun a b=>∀ y∈a.1,y∉b.1:=by
 have h6:=v.le;have w6:=v.w6;obtain⟨ok,_⟩:=jq (zs:=zs) (w:=w) h6 w6;unfold chL;refine oO.mpr ⟨fun b _ y hy=>(by cases hy),wY.mpr ⟨?_,?_,?_⟩⟩
 ·exact Fd.mpr ok.dis
 ·refine Fd.mpr ?_;have nd:(jQ zs w).Nodup:=by
   unfold jQ bQ;exact(iY (vm zs.length (dH.mpr (by lia)) w (dH.mpr (by lia)))).sublist (Ao.trans Ao)
  exact nd.imp fun h y hy z=>h (by rw[<- dD.mp hy,<- dD.mp z])
 ·intro a ha b hb y hy z;obtain⟨p,hp,rfl⟩:=bW.mp ha;obtain⟨x,hx,rfl⟩:=bW.mp hb;have e:=dD.mp z;subst e;obtain⟨q,hq,rfl⟩:=ok.of p hp;exact M5 hx (iy.edge hq ((cM (gZ hq)).mp hy))
theorem YM(v:Vw zs w):∀ ch∈chL zs w,ch.1.Nodup/\∀ l∈ch.2,l.Sublist ch.1:=fun ch hc=>by
 have h6:=v.le;have w6:=v.w6;obtain⟨ok,_⟩:=jq (zs:=zs) (w:=w) h6 w6;unfold chL at hc;rcases cL.mp hc with rfl|hc
 ·refine⟨.nil,fun l hl=>?_⟩;unfold kI at hl;split at hl
  ·cases hl
  ·rw[dD.mp hl];exact .slnil
 rcases cO.mp hc with hc|hc
 ·obtain⟨p,hp,rfl⟩:=bW.mp hc;obtain⟨x,hx,rfl⟩:=ok.of p hp;have pp:=Part.join h6 w6 hx;exact⟨pp.nd,fun l hl=>((pp.mem l).mp hl).1⟩
 ·obtain⟨x,_,rfl⟩:=bW.mp hc;refine⟨by simp,fun l hl=>?_⟩;rcases cL.mp hl with rfl|hl
  ·exact List.nil_sublist _
  ·rw[dD.mp hl];exact KH _
theorem QM(v:Vw zs w):((chL zs w).flatMap fun ch=>ch.1).Perm (bQ zs w):=by
 have:((chL zs w).flatMap fun ch=>ch.1)=(aO zs w).flatten++jQ zs w:=by
  unfold chL;rw[uG,zW];have e1:∀ l:List (List Cell),(l.map fun p=>(p,eY zs w p)).flatMap (fun ch=>ch.1)=l.flatten:=fun l=>by
   induction l with
   |nil=>rfl
   |cons a l ih=>rw[cZ,uG,ih,Ar]
  have e2:∀ l:List Cell,(l.map fun c=>(([c]:List Cell),([[],[c]]:List (List Cell)))).flatMap (fun ch=>ch.1)=l:=fun l=>by
   induction l with
   |nil=>rfl
   |cons a l ih=>rw[cZ,uG,ih];rfl
  rw[e1,e2];rfl
 rw[this];exact wI v.le v.w6
theorem Xx(v:Vw zs w)(n:Nat):dJ (fun c=>lH zs w c n) (bQ zs w)=(n:Int)*bF zs w n:=by
 have h:=Nv (f:=co [1]) (YM v) (YL v) n;have e0:dd (co [1])=fun _=>0:=funext fun m=>by
  unfold dd
  cases m with
  |zero=>rfl
  |succ m=>rw[m8 (by show 1<=m+1;lia),sU]
 rw[e0,xU,oH,Qk _ (QM v)] at h;unfold bF lH;rw[rD,nP,<- h];exact fX fun c _=>by rw[rD,nP]
theorem Qn{c:Cell}(n:Nat):0<=lH zs w c n/\lH zs w c n<=bF zs w n:=by
 unfold bF lH;rw[rD,rD,nP,nP];refine Y5 (chL zs w) (fun m=>?_) (fun m=>wF _) n;exact Nn.of (a:=[1]) (fun x hx=>by rw[dD.mp hx];decide) m
theorem RX{c:Cell}(h:gn zs w c true)(n:Nat):lH zs w c n=0:=by
 unfold lH;rw[rD,nP,Ds h]
theorem GX(h:FT zs w)(n:Nat):bF zs w n=0:=by
 unfold bF;rw[rD,nP,Ds h]
theorem Vx(v:Vw zs w){c:Cell}(h:gn zs w c false)(hn:¬FT zs w)(n:Nat):lH zs w c n=bF zs w n:=by
 rcases(yW false).mp h with z|⟨p,hp,cp,e⟩
 ·exact absurd z hn
 have:(chL zs w).map (setC c true)=(chL zs w).map id:=Am fun ch hc=>by
  show setC c true ch=ch;unfold setC;by_cases z:c∈ch.1
  ·rw[aK z];have hc0:=hc;unfold chL at hc;rcases cL.mp hc with rfl|hc
   ·cases z
   rcases cO.mp hc with hc|hc
   ·obtain⟨q,hq,rfl⟩:=bW.mp hc;have:=Hq v.le v.w6 hp hq cp z;subst this;have:(eY zs w p).filter (fun l=>decide (decide (c∈l)=true))=eY zs w p:=Eu.mpr fun l hl=>by
     have:=zP.mp e l hl
     cases y:decide (c∈l)
     ·rw[y] at this;exact absurd rfl this
     ·rfl
    show(p,(eY zs w p).filter _)=_;rw[this]
   ·obtain⟨x,hx,rfl⟩:=bW.mp hc;have e':=dD.mp z;subst e';obtain⟨ok,_⟩:=jq (zs:=zs) (w:=w) v.le v.w6;obtain⟨q,hq,rfl⟩:=ok.of p hp;exact absurd (iy.edge hq ((cM (gZ hq)).mp cp)) (M5 hx)
  ·rw[aG z]
 unfold lH bF;rw[this,FN]
end
end My
namespace My
open PySem L2
def Nm(K:ao):Sp:=fun vs H Q _=>∃(a:Addr)(ns:List Int),vs=[.ref a]/\SqL K H a (ns.map V.int)/\∀ H',Q (.bl true) H'
def Nt(K:ao)(C:Addr):Sp:=fun vs H Q _=>∃(x:Addr)(n:Int)(zs:List Str)(w:Nat),vs=[.ref x,.int n]/\dM C H x zs w /\
 ((∃ p∈aO zs w,12<p.length)->∀ H',Same H H'->Q (.int 0) H')/\((∀ p∈aO zs w,p.length<=12)->∀ H',Same H H'->Q (.int (bF zs w n)) H')
section
variable{P:Program}{w:World}{K:ao}{mg:Str->Option Value}{base:Heap}{Z:Adr}
theorem Ss{f:Addr}{fd:FuncData} (F:Fun K "_law_total" "_law_total" o9 f fd) (T:Txt K mg Z) (Cz:Df P w K mg base 7 "count" ["view","stones"] (Ni K Z.View Z.TooGreat)):cg P w K mg base (CXE P w) 8 f fd ["view","stones"] (Nt K Z.View):=by
 refine F.rok Bf (fun vs H Q E h=>?_) (fun cdv A outer s H vs Q E hr h=>?_)
 ·obtain⟨x,n,zs,w,rfl,_⟩:=h;rfl
 ·obtain⟨x,n,zs,w,rfl,vt,q1,q2⟩:=h;refine⟨_,(aC (a0w rfl rfl (Xn (a0y Cz hr rfl (aj (rv 0) (aj (rv 1) ak)))) (Xk rfl T.rB T.jx (fun _=>(aC (aY aH))) a0u))),?_⟩;exact⟨_,rfl,_,rfl,x,n,zs,w,rfl,vt,fun hg H' s'=>⟨Z.TooGreat,rfl,.inl ⟨⟨.inl rfl,T.jx⟩,q1 hg _ s'⟩⟩,q2⟩
theorem ZF{f:Addr}{fd:FuncData} (F:Fun K "law" "law" TV f fd) (T:Txt K mg Z) (bH:Df P w K mg base 1 "_law_cell_at" ["script","k"] (Ei K)) (jY:Df P w K mg base 4 "_law_view_by" ["script","most","steps"] (Ie K))
  (Io:Md P w K mg base 3 "View" ["self","rows"] Z.View (U7 K Z.View Z.BadView)) (nA:Df P w K mg base 8 "_law_total" ["view","stones"] (Nt K Z.View)) (iQ:Df P w K mg base 3 "closed" ["view"] (oE K Z.View bQ))
  (yh:Df P w K mg base 7 "chance" ["view","stones","cell"] (Ia K Z.View Z.NoCell Z.TooGreat Z.Impossible)) (Il:Df P w K mg base 8 "sure" ["view","cell"] (Ud K Z.View Z.NoCell Z.TooGreat Z.Impossible)) :
  cg P w K mg base (CXE P w) 9 f fd ["script"] (Nm K):=by
 refine F.rok ju (fun vs H Q E h=>?_) (fun cdv A outer s H vs Q E hr h=>?_)
 ·obtain⟨a,ns,rfl,_⟩:=h;rfl
 ·obtain⟨a,ns,rfl,hS,hq⟩:=h;have hu:=mQ hr;have hu':=Dz hr;refine⟨_,(au (vI (aV jY hr rfl aW (aj (rv 0) (aj (dO (dN (K:=K)) (cX (aj aH (aj aH (aj aH ak)))) (cT nY (aV bH hr rfl aW (aj (rv 0) (aj aH ak))) aH)) (aj aH ak)))) (z9 rfl (gK (aZ (i:=1) ju.nd rfl (Or.inl rfl)) (gK (aZ (i:=2) ju.nd rfl (Or.inl rfl)) um)))) (au (aP (i:=3) ju.nd rfl (Or.inl rfl) (a0r Io hr rfl aW (aj (rv 1) ak))) (au (aP (i:=4) ju.nd rfl (Or.inl rfl) (cT c7 (bf (fu (K:=K)) rfl T.eF cH (aj (rv 2) ak)) (dO (dN (K:=K)) (cX (aj aH (aj aH (aj aH (aj (JM rY aH) ak))))) (cT nY (aV bH hr rfl aW (aj (rv 0) (aj aH ak))) aH)))) (au (aP (i:=5) ju.nd rfl (Or.inl rfl) (aV nA hr rfl aW (aj (rv 3) (aj (rv 4) ak)))) (au (fL (bM wQ (rv 5) aH (cu _)) (aC (aY (wU (lO.or (lM (K:=K) hu)) (rv 5) aH (cu _)))) bV) (au (vI (dR (aj aH (aj aH ak))) (z9 rfl (gK (aZ (i:=6) ju.nd rfl (Or.inl rfl)) (gK (aZ (i:=7) ju.nd rfl (Or.inl rfl)) um)))) (au (cJ dW rfl (bx (K:=K) (aV iQ hr rfl aW (aj (rv 3) ak))) (aZ (i:=8) ju.nd rfl (Or.inl rfl)) (au (vI (aV yh hr rfl aW (aj (rv 3) (aj (rv 4) (aj (rv 8) ak)))) (z9 rfl (gK (aZ (i:=9) ju.nd rfl (Or.inl rfl)) (gK (aZ (i:=10) ju.nd rfl (Or.inl rfl)) um)))) (au (fL (o7 (pO mW mW aH (rv 9) (rv 10))) (aC (aY z7)) bV) (au (aP (i:=11) ju.nd rfl (Or.inl rfl) (aV Il hr rfl aW (aj (rv 3) (aj (rv 8) ak)))) (au (fL (HS (Yi (HS (vD (bM (lO.or (lM (K:=K) hu)) (rv 11) kW (cu _)) (qN (bM (MF.or (Ml (K:=K) hu)) (dR (aj (rv 9) (aj (rv 10) ak))) (dR (aj aH (aj aH ak))) (cu _))))) (Tp (HS (vD (bM (lO.or (lM (K:=K) hu)) (rv 11) kW (cu _)) (qN (bM (MF.or (Ml (K:=K) hu)) (dR (aj (rv 9) (aj (rv 10) ak))) (dR (aj aH (aj aH ak))) (cu _)))))))) (aC (aY z7)) bV) (aC (TF (i:=6) (j:=7) rfl ju.nd rfl rfl (by decide) rfl rfl (aj (cT c7 (cT iw (rv 6) (rv 10)) (cT iw (rv 9) (rv 7))) (aj (cT iw (rv 7) (rv 10)) ak)) rfl))))))) (aC (aY (wU (lO.or (lM (K:=K) hu)) (rv 6) (cT iw (rv 4) (rv 7)) (cu _))))))))))),?_⟩;refine aF (fun zzs H1=>∃(p q:Addr)(zs:List Str)(w:Nat)(us:List V),Same H H1/\H1 p=some (.lst (zs.map V.str))/\Vw zs w/\H1 q=some (.lst us)/\us.length<=36/\zzs=[zzR a,zzR p,zzR q,zzN,zzN,zzN,zzN,zzN,zzN,zzN,zzN,zzN]) (fun R hR=>?_) ?_
  ·refine⟨_,rfl,sz rfl,fun l hl=>?_⟩;have t1:=Same.put (o:=.lst [V.int 4,V.int 4,V.int 5]) hl;refine⟨_,rfl,a,ns,20,rfl,by decide,t1.seq hS,fun r0=>⟨_,_,rfl,rfl,(by show(0:Int)<3;decide),?_⟩⟩;obtain⟨v,hv,e⟩:=Iw (xs:=([4,4,5]:List Int).map V.int) (i:=r0%3) (wA _ (by decide)) (by simpa using w5 r0 (by decide:(0:Int)<3));obtain⟨n,hn,rfl⟩:=bW.mp hv;have n6:1<=n/\n<=6:=(by decide:∀ x∈([4,4,5]:List Int),1<=x/\x<=6) n hn;refine .inl ⟨l,_,_,_,rfl,rfl,SqL.of aD,e,?_⟩;refine⟨a,ns,n,4,rfl,t1.seq hS,n6.1,n6.2,by decide,by decide,fun t r p H1 h w st kn s1 nr np ht hr' hls h1 h6 w1 w6 sub nd kk=>?_⟩;obtain⟨us,eu,Du⟩:=hls;refine⟨t,_,rfl,ht,rfl,_,_,rfl,_,_,rfl,rfl,hR _ _ ⟨r,p,_,w,us,t1.trans s1,hr',TY h1 (by lia) w1 (by lia),eu,?_,rfl⟩⟩;have:=sub.length_le;rw[dY] at this;have h36:h*w<=6*6:=lX (by lia) (by lia);rw[Du.length,aU];lia
  rintro zzs H1 ⟨p,q,zs,w,us,s1,hp,vw,eq,l36,rfl⟩;refine aF (fun zzs H2=>∃(x:Addr),Same H1 H2/\dM Z.View H2 x zs w/\zzs=[zzR a,zzR p,zzR q,zzR x,zzN,zzN,zzN,zzN,zzN,zzN,zzN,zzN]) (fun R hR=>?_) ?_
  ·refine⟨_,rfl,?_⟩;intro x dx nx ndx nex;have n2:(upd H1 dx (.own x)) x=none:=by rw[bA nex.symm];exact nx
   have s6:Same H1 (upd (upd H1 dx (.own x)) x (.ins Z.View dx [])):=(Same.put ndx).and n2;have z6:=vw.le;have w6:=vw.w6;refine⟨x,dx,p,zs,rfl,aD,SqL.of (s6 _ _ hp),by lia,fun r hr'=>by have:=vw.len r hr';lia,fun hv=>(by rw[vw.ok] at hv;cases hv),fun _ H' lr z0' zt' e nlr nlx hlr hx' keep=>⟨rfl,?_⟩⟩;have e0:z0'.length=w:=vw.len z0' (by rw[e];exact cG);refine hR _ _ ⟨x,fun b o hb=>keep b o (s6 _ _ hb) (bG hb nx),⟨⟨dx,lr,?_,hlr⟩,vw⟩,rfl⟩;rw[<- e0];exact hx'
  rintro zzs H2 ⟨x,s2,vt,rfl⟩;refine aF (fun zzs H3=>∃ n:Int,-1<=n/\n<=37/\Same H2 H3/\zzs=[zzR a,zzR p,zzR q,zzR x,zzI n,zzN,zzN,zzN,zzN,zzN,zzN,zzN]) (fun R hR=>?_) ?_
  ·refine⟨_,rfl,.inl ⟨q,_,rfl,.inl (SqL.of (s2 _ _ eq)),?_⟩⟩;refine⟨_,rfl,sz rfl,fun l hl=>?_⟩;have t1:=Same.put (o:=.lst [V.int 0,V.int 0,V.int 1,V.int (-1)]) hl;refine⟨_,rfl,a,ns,19,rfl,by decide,(s1.trans (s2.trans t1)).seq hS,fun r0=>⟨_,_,rfl,rfl,(by show(0:Int)<4;decide),?_⟩⟩;obtain⟨v,hv,e⟩:=Iw (xs:=([0,0,1,-1]:List Int).map V.int) (i:=r0%4) (wA _ (by decide)) (by simpa using w5 r0 (by decide:(0:Int)<4));obtain⟨n,hn,rfl⟩:=bW.mp hv;have n6 : -1<=n/\n<=1:=(by decide:∀ x∈([0,0,1,-1]:List Int),-1<=x/\x<=1) n hn;exact .inl ⟨l,_,_,_,rfl,rfl,SqL.of aD,e,hR _ _ ⟨us.length+n,by lia,by lia,t1,rfl⟩⟩
  rintro zzs H3 ⟨n,n1,n2,s3,rfl⟩;have vt3:=vt.mono s3;refine aF (fun zzs H4=>∃ m:Int,Same H3 H4/\(m=0\/m=bF zs w n/\∀ p∈aO zs w,p.length<=12)/\zzs=[zzR a,zzR p,zzR q,zzR x,zzI n,zzI m,zzN,zzN,zzN,zzN,zzN,zzN]) (fun R hR=>?_) ?_
  ·refine⟨_,rfl,_,rfl,x,n,zs,w,rfl,vt3,fun _ H4 s4=>hR _ _ ⟨0,s4,.inl rfl,rfl⟩,fun h12 H4 s4=>hR _ _ ⟨_,s4,.inr ⟨rfl,h12⟩,rfl⟩⟩
  rintro zzs H4 ⟨m,s4,hm,rfl⟩;have vt4:=vt3.mono s4;refine aF (fun zzs H5=>1<=m/\H4=H5/\zzs=[zzR a,zzR p,zzR q,zzR x,zzI n,zzI m,zzN,zzN,zzN,zzN,zzN,zzN]) (fun R hR=>?_) ?_
  ·refine⟨_,rfl,_,_,rfl,rfl,_,rfl,eV (fun h1=>?_) (fun h1=>hR _ _ ⟨by have:=jD h1;lia,rfl,rfl⟩)⟩;have h1:=cY h1;have m0:m=0:=by
    rcases hm with z|⟨z,h12⟩
    ·exact z
    ·have:=(zL vw h12 n).1;lia
   subst m0;exact⟨_,rfl,.inl ⟨rfl,hq _⟩⟩
  rintro zzs H5 ⟨m1,rfl,rfl⟩;obtain⟨rfl,h12⟩:m=bF zs w n/\∀ p∈aO zs w,p.length<=12:=by
   rcases hm with z|z
   ·lia
   ·exact z
  obtain⟨k,rfl⟩:∃ k:Nat,n=(k:Int):=by
   refine⟨n.toNat,?_⟩;by_cases z:0<=n
   ·lia
   ·exfalso;unfold bF tZ at m1;rw[aG (by lia)] at m1;lia
  have hno:¬FT zs w:=fun z=>by rw[GX z] at m1;lia
  have u64:=(zL vw h12 k).2;refine aF (fun zzs H5=>Same H4 H5/\zzs=[zzR a,zzR p,zzR q,zzR x,zzI (k:Int),zzI (bF zs w k),zzI 0,zzI 1,zzN,zzN,zzN,zzN]) (fun R hR=>?_) ?_
  ·refine⟨sz rfl,fun t nt=>?_⟩;exact⟨t,_,rfl,SqT.of aD,rfl,_,_,rfl,_,_,rfl,rfl,hR _ _ ⟨Same.put nt,rfl⟩⟩
  rintro zzs H5 ⟨s5,rfl⟩;have vt5:=vt4.mono s5;refine aF (fun zzs H6=>∃(A' B':Int)(v8 v9 v10 v11:Option V),Same H5 H6/\1<=B'/\A'*bF zs w k=((k:Int)*bF zs w k)*B'/\zzs=[zzR a,zzR p,zzR q,zzR x,zzI (k:Int),zzI (bF zs w k),zzI A',zzI B',v8,v9,v10,v11]) (fun R hR=>?_) ?_
  ·refine⟨_,rfl,x,zs,w,rfl,vt5,fun cl H5' fr=>?_⟩;obtain⟨os,eo,Do⟩:=fr.ls;have los:os.length=(bQ zs w).length:=by rw[Do.length,aU]
   refine⟨cl,rfl,⟨_,SqL.of eo⟩,?_⟩;refine dh (K:=K) (xs:=os) (fun i zzs H6=>∃(A' B':Int)(v8 v9 v10 v11:Option V),Same H5' H6/\1<=B'/\A'*bF zs w k=dJ (fun c=>lH zs w c k) ((bQ zs w).take i)*B'/\zzs=[zzR a,zzR p,zzR q,zzR x,zzI (k:Int),zzI (bF zs w k),zzI A',zzI B',v8,v9,v10,v11])
    ⟨0,1,none,none,none,none,Same.refl _,by decide,by rw[Fz];rfl,rfl⟩ (fun i zzs H6 _ hh=>by obtain⟨_,_,_,_,_,_,g,_⟩:=hh;exact SqL.of (g _ _ eo)) (fun i u zzs H6 hi hh=>?_) (fun zzs H6 hh=>?_)
   ·obtain⟨A',B',v8,v9,v10,v11,g1,b1,hab,rfl⟩:=hh;obtain⟨d,ed,du⟩:=Do.get hi;rw[cU] at ed;obtain⟨c,ec,rfl⟩:=jC.mp ed;have cm:=fB ec;have hc:aR zs w c=true:=(cB.mp cm).2;have tk:(bQ zs w).take (i+1)=(bQ zs w).take i++[c]:=by rw[jf,ec];rfl
    obtain⟨t0,tu⟩:=Qn (zs:=zs) (w:=w) (c:=c) k;obtain⟨X',Y',C',ea,eb,ecc,eT,eU,hb1,hg1⟩:=W4 (g:=Jl zs w c k) t0 (by lia:0<bF zs w k) rfl;have c1:1<=C':=by
     rcases Vr C' with z|z
     ·rw[z,Nat.zero_mul] at eU;lia
     ·exact z
    have y64:Y'<2^64:=by
     have:=Nat.le_mul_of_pos_left Y' c1;lia
    have xy:X'<=Y':=by
     have:C'*X'<=C'*Y':=by lia
     exact Nat.le_of_mul_le_mul_left this c1
    have vt6:=vt5.mono (fr.same.trans g1);refine aF (fun zzs H7=>Same H6 H7/\zzs=[zzR a,zzR p,zzR q,zzR x,zzI (k:Int),zzI (bF zs w k),zzI A',zzI B',some u,zzI X',zzI Y',v11]) (fun R' hR'=>?_) ?_
    ·refine⟨_,rfl,_,rfl,_,rfl,x,k,u,zs,w,c,rfl,vt6,du.mono g1,fun z=>(by rw[hc] at z;cases z),fun _ ⟨r,hr',z⟩=>(by have:=h12 r hr';lia),fun _ _ z=>(by lia),fun _ _ _ t H7 s7 e7=>?_⟩;rw[ea,eb] at e7;exact⟨t,_,rfl,SqT.of e7,rfl,_,_,rfl,_,_,rfl,rfl,hR' _ _ ⟨s7,rfl⟩⟩
    rintro zzs H7 ⟨s7,rfl⟩;refine aF (fun zzs H8=>H7=H8/\zzs=[zzR a,zzR p,zzR q,zzR x,zzI (k:Int),zzI (bF zs w k),zzI A',zzI B',some u,zzI X',zzI Y',v11]) (fun R' hR'=>?_) ?_
    ·refine⟨_,rfl,_,_,rfl,rfl,_,rfl,?_⟩;rw[bN (by lia:(0:Int)<=(X':Int))];refine yR ⟨_,rfl,_,_,rfl,rfl,_,rfl,?_⟩;rw[bN (by lia:(X':Int)<=(Y':Int))];exact tV (hR' _ _ ⟨rfl,rfl⟩)
    rintro zzs H8 ⟨rfl,rfl⟩;refine aF (fun zzs H8=>Same H7 H8/\zzs=[zzR a,zzR p,zzR q,zzR x,zzI (k:Int),zzI (bF zs w k),zzI A',zzI B',some u,zzI X',zzI Y',some (.str (uw zs w c))]) (fun R' hR'=>?_) ?_
    ·refine⟨_,rfl,_,rfl,x,u,zs,w,c,rfl,vt6.mono s7,du.mono (g1.trans s7),⟨fun z=>(by rw[hc] at z;cases z),fun _ ⟨r,hr',z⟩=>(by have:=h12 r hr';lia),fun _ _ n0 n1=>absurd ((QF vw).mp ⟨n0,n1⟩) hno⟩,fun _ _ _ H8 s8=>hR' _ _ ⟨s8,rfl⟩⟩
    rintro zzs H8 ⟨s8,rfl⟩;refine aF (fun zzs H9=>Same H8 H9/\zzs=[zzR a,zzR p,zzR q,zzR x,zzI (k:Int),zzI (bF zs w k),zzI A',zzI B',some u,zzI X',zzI Y',some (.str (uw zs w c))]) (fun R' hR'=>?_) ?_
    ·have key:(uw zs w c = "stone" /\ X'=1/\Y'=1)\/(uw zs w c = "none" /\ X'=0/\Y'=1)\/uw zs w c = "open":=by
      unfold uw;by_cases n0:gn zs w c false
      ·rw[aK n0];have e:=Vx vw n0 hno k;have:C'*X'=C'*Y':=by lia
       have e2:=V1 c1 this;rw[e2,Nat.gcd_self] at hg1;exact .inl ⟨rfl,by lia,hg1⟩
      ·rw[aG n0];by_cases n1:gn zs w c true
       ·rw[aK n1];have e:=RX n1 k;have:C'*X'=0:=by lia
        have e2:X'=0:=by
         rcases Nat.mul_eq_zero.mp this with z|z
         ·lia
         ·exact z
        rw[e2,Nat.gcd_zero_left] at hg1;exact .inr (.inl ⟨rfl,e2,hg1⟩)
       ·rw[aG n1];exact .inr (.inr rfl)
     generalize uw zs w c=z at key hR' ⊢;have pair:∀ {G:Hp} {t l:Addr} {i j:Int} {Qq:VK},G t=some (.tup [.int i,.int j])->G l=some (.tup [.int i,.int j])->Qq (.bl false) G->Td K true (.ref t) (.ref l) G Qq:=fun {G t l i j Qq} e1 e2 q=>by
      refine⟨.tup [.int i,.int j],.tup [.int i,.int j],rfl,.tup e1 (.cons (.int _) (.cons (.int _) .nil)),.tup e2 (.cons (.int _) (.cons (.int _) .nil)),HY _,(by show max 0 (max 0 0)+1<=50;decide),?_⟩;show Qq (.bl (!eqD _ _)) _;rw[tK];exact q
     refine⟨_,rfl,.inl ⟨rfl,_,rfl,?_⟩⟩;rcases key with⟨rfl,rfl,rfl⟩|⟨rfl,rfl,rfl⟩|rfl
     ·refine yR ⟨_,rfl,_,rfl,sz rfl,fun t nt=>⟨sz rfl,fun l nl=>.inr (pair ((Same.put nl) _ _ aD) aD ⟨_,rfl,tV ?_⟩)⟩⟩;exact⟨_,rfl,.inl ⟨rfl,_,rfl,tV (hR' _ _ ⟨(Same.put nt).and nl,rfl⟩)⟩⟩
     ·refine tV ⟨_,rfl,.inl ⟨rfl,_,rfl,yR ?_⟩⟩;exact⟨_,rfl,_,rfl,sz rfl,fun t nt=>⟨sz rfl,fun l nl=>.inr (pair ((Same.put nl) _ _ aD) aD ⟨_,rfl,tV (hR' _ _ ⟨(Same.put nt).and nl,rfl⟩)⟩)⟩⟩
     ·exact tV ⟨_,rfl,.inl ⟨rfl,_,rfl,tV (hR' _ _ ⟨Same.refl _,rfl⟩)⟩⟩
    rintro zzs H9 ⟨s9,rfl⟩;refine⟨_,rfl,_,rfl,.inr ⟨by lia,by lia⟩,_,rfl,_,rfl,.inl ⟨by lia,by lia⟩,_,rfl,_,rfl,.inr ⟨by lia,by lia⟩,?_⟩;refine⟨_,_,rfl,A'*Y'+X'*B',B'*Y',_,_,_,_,g1.trans (s7.trans (s8.trans s9)),?_,?_,rfl⟩
    ·exact Lg b1 (by lia:(1:Int)<=Y') (by decide) (by lia)
    ·rw[tk,zK,Ai,Ai];have e1:A'*(Y':Int)*bF zs w k=dJ (fun c=>lH zs w c k) ((bQ zs w).take i)*(B'*Y'):=by
      rw[qw,FJ (Y':Int),<- qw,hab,qw]
     have e2:(X':Int)*B'*bF zs w k=dJ (fun c=>lH zs w c k) [c]*(B'*Y'):=by
      show _=(lH zs w c k+0)*(B'*Y');rw[oH,eT,eU,Lb,Lb];simp only[FJ,Int.mul_left_comm,qw]
     rw[e1,e2]
   ·obtain⟨A',B',v8,v9,v10,v11,g1,b1,hab,rfl⟩:=hh;rw[los,jE,Xx vw] at hab;exact hR _ _ ⟨A',B',v8,v9,v10,v11,fr.same.trans g1,b1,hab,rfl⟩
  rintro zzs H6 ⟨A',B',v8,v9,v10,v11,s6,b1,hab,rfl⟩;refine⟨_,rfl,_,rfl,_,rfl,.inl ⟨by lia,by lia⟩,.inl ⟨rfl,?_⟩⟩;have:A'=(k:Int)*B':=by
   refine Int.eq_of_mul_eq_mul_right (a:=bF zs w k) (by lia) ?_;rw[hab,qw,FJ (bF zs w k) B',<- qw]
  rw[tE,bN this];exact hq _
end
end My
namespace My
open PySem L2
def oV(x q:Str)(st:Stmt)(ps:List Str):Prop:=∀(kV doc pm:Value)(an:Option Addr)(cdv ct:Value)(us:List Value),us.length=ps.length->bindArgs (PySem.W.fnOf x q (iu st) (fG st) (aJ st) .none kV doc pm an cdv ct) ⟨us,[]⟩=pure (ps.zip us)
theorem bind1{x q:Str}{st:Stmt}{p0:Str}(h:∀(kV doc pm:Value) (an:Option Addr) (cdv ct u0:Value),bindArgs (PySem.W.fnOf x q (iu st) (fG st) (aJ st) .none kV doc pm an cdv ct) ⟨[u0],[]⟩=pure [(p0,u0)]):oV x q st [p0]:=fun kV doc pm an cdv ct us hl=>match us,hl with|[u0],_=>h kV doc pm an cdv ct u0
theorem gJ{x q:Str}{st:Stmt}{p0 p1:Str}(h:∀(kV doc pm:Value) (an:Option Addr) (cdv ct u0 u1:Value),bindArgs (PySem.W.fnOf x q (iu st) (fG st) (aJ st) .none kV doc pm an cdv ct) ⟨[u0,u1],[]⟩=pure [(p0,u0),(p1,u1)]):oV x q st [p0,p1]:=fun kV doc pm an cdv ct us hl=>match us,hl with|[u0,u1],_=>h kV doc pm an cdv ct u0 u1
theorem Gg{x q:Str}{st:Stmt}{p0 p1 p2:Str}(h:∀(kV doc pm:Value) (an:Option Addr) (cdv ct u0 u1 u2:Value),bindArgs (PySem.W.fnOf x q (iu st) (fG st) (aJ st) .none kV doc pm an cdv ct) ⟨[u0,u1,u2],[]⟩=pure [(p0,u0),(p1,u1),(p2,u2)]):oV x q st [p0,p1,p2]:=fun kV doc pm an cdv ct us hl=>match us,hl with|[u0,u1,u2],_=>h kV doc pm an cdv ct u0 u1 u2
theorem XR{x q:Str}{st:Stmt}{p0 p1 p2 p3:Str}(h:∀(kV doc pm:Value) (an:Option Addr) (cdv ct u0 u1 u2 u3:Value),bindArgs (PySem.W.fnOf x q (iu st) (fG st) (aJ st) .none kV doc pm an cdv ct) ⟨[u0,u1,u2,u3],[]⟩=pure [(p0,u0),(p1,u1),(p2,u2),(p3,u3)]):oV x q st [p0,p1,p2,p3]:=fun kV doc pm an cdv ct us hl=>match us,hl with|[u0,u1,u2,u3],_=>h kV doc pm an cdv ct u0 u1 u2 u3
theorem a0U{x q:Str}{st:Stmt}{p0 p1 p2 p3 p4:Str}(h:∀(kV doc pm:Value) (an:Option Addr) (cdv ct u0 u1 u2 u3 u4:Value),bindArgs (PySem.W.fnOf x q (iu st) (fG st) (aJ st) .none kV doc pm an cdv ct) ⟨[u0,u1,u2,u3,u4],[]⟩=pure [(p0,u0),(p1,u1),(p2,u2),(p3,u3),(p4,u4)]):oV x q st [p0,p1,p2,p3,p4]:=fun kV doc pm an cdv ct us hl=>match us,hl with|[u0,u1,u2,u3,u4],_=>h kV doc pm an cdv ct u0 u1 u2 u3 u4
section
variable{P:Program}{w:World}{K:ao}{mg:Str->Option Value}{base h:Heap}
def bU(K:ao)(x:Str)(st:Stmt):Prop:=∃ f,PySem.W.nsIn K mainGlobals x=some (some (.ref f))/\∃ fd,Fun K x x st f fd
def Ip(K:ao)(C:Addr)(m q:Str)(st:Stmt):Prop:=∃ f,(PySem.W.findIn K (.ref C) m=some (some (.ref f))/\PySem.W.isFn K (.ref f)=true)/\∃ fd,Fun K m q st f fd
section
variable{x q:Str}{st:Stmt}{f C:Addr}{oc:Value}{od an:Option Addr}{osl:Array (Option Value)}{kV doc pm cdv ct:Value}
theorem a1a(a:PySem.W.nsIn K mainGlobals x=some (some (.ref f)))(l:K.lookup f=some ⟨oc,od,.func (PySem.W.fnOf x x (iu st) (fG st) (aJ st) .none kV doc pm an cdv ct),osl⟩)(c:PySem.W.codeIn K cdv x=true)(k:PySem.W.keepIn K (.ref f)=true):bU K x st:=⟨f,a,_,Rn l c k⟩
theorem Zu(a:PySem.W.findIn K (.ref C) x=some (some (.ref f)))(i:PySem.W.isFn K (.ref f)=true)(l:K.lookup f=some ⟨oc,od,.func (PySem.W.fnOf x q (iu st) (fG st) (aJ st) .none kV doc pm an cdv ct),osl⟩)(c:PySem.W.codeIn K cdv q=true)(k:PySem.W.keepIn K (.ref f)=true):Ip K C x q st:=⟨f,⟨a,i⟩,_,Rn l c k⟩
end
theorem a2b{x:Str}{v:Int}{t:Tok}(h:PySem.W.nsIn K mainGlobals x=some (some (.int v t))):∃ t,PySem.W.nsIn K mainGlobals x=some (some (.int v t)):=⟨t,h⟩
theorem a2J{x v:Str}{t:Tok}(h:PySem.W.nsIn K mainGlobals x=some (some (.str v t))):∃ t,PySem.W.nsIn K mainGlobals x=some (some (.str v t)):=⟨t,h⟩
theorem a1b(X:K.In h)(G:h.Ns mainGlobals mg){x:Str}{st:Stmt}{k:Nat}{ps:List Str}{sp:Sp}(d:bU K x st)(hb:oV x x st ps)(ok:∀ f fd,Fun K x x st f fd->cg P w K mg base (CXE P w) k f fd ps sp):Df P w K mg base k x ps sp:=by
 obtain⟨f,a,fd,F⟩:=d;exact⟨⟨f,fd,ok f fd F,lY X G a,F.kp,F.binds hb⟩⟩
theorem Zn(X:K.In h)(G:h.Ns mainGlobals mg){fa:Addr}{st:Stmt}{k:Nat}{sp:Sp} (hfa:mg "law" = some (.ref fa)) (d:bU K "law" st) (hb:oV "law" "law" st ["script"]) (ok:∀ base f fd,Fun K "law" "law" st f fd->cg P w K mg base (CXE P w) k f fd ["script"] sp) :
  ∃ fd:FuncData,(∀(s:Shared)(v:Value),BindsTo s fd ⟨[v],[]⟩ [("script",v)])/\∀ base:Heap,K.In base->base.Ns mainGlobals mg->cg P w K mg base (CXE P w) k fa fd ["script"] sp:=by
 obtain⟨f,a,fd,F⟩:=d;have e:=hfa.symm.trans (lY X G a)
 cases e
 refine⟨fd,fun s v=>?_,fun base _ _=>ok base _ _ F⟩;obtain⟨oc,od,kV,doc,pm,an,cdv,ct,osl,rfl,lk,hcd⟩:=F.ex;exact .of_eq (hb kV doc pm an cdv ct [v] rfl)
theorem a1p(X:K.In h)(G:h.Ns mainGlobals mg){x q:Str}{st:Stmt}{C:Addr}{k:Nat}{ps:List Str}{sp:Sp}(a:PySem.W.nsIn K mainGlobals x=some (some (.ref C)))(mk:PySem.W.makesIn K C=true)(kc:PySem.W.keepIn K (.ref C)=true) (m:Ip K C "__init__" q st) (hb:oV "__init__" q st ps) (ok:∀ f fd,Fun K "__init__" q st f fd->cg P w K mg base (CXE P w) k f fd ps sp):Md P w K mg base k x ps C sp:=by
 obtain⟨f,⟨b,i⟩,fd,F⟩:=m;exact⟨⟨f,fd,⟨mk,b,i,kc⟩,ok f fd F,lY X G a,F.binds hb⟩⟩
end
theorem all_mk{l:PySem.W.OpenLaw}{w:World}{K:ao}{h:Heap}{mg:Str->Option Value}{fa:Addr}(X:K.In h)(G:h.Ns mainGlobals mg) (hfa:mg "law" = some (.ref fa))
  {nD:Addr}
  {uT:Addr}
  {yr:Addr}
  {rz:Addr}
  {nF:Addr}
  {nG:Addr}
  (nH:PySem.W.nsIn K mainGlobals "FieldError" = some (some (.ref nD)))
  (uU:PySem.W.nsIn K mainGlobals "BadView" = some (some (.ref uT)))
  (yt:PySem.W.nsIn K mainGlobals "NoCell" = some (some (.ref yr)))
  (rA:PySem.W.nsIn K mainGlobals "TooGreat" = some (some (.ref rz)))
  (nJ:PySem.W.nsIn K mainGlobals "Impossible" = some (some (.ref nF)))
  (CJ:PySem.W.nsIn K mainGlobals "View" = some (some (.ref nG)))
  (oG:PySem.W.excIn K nD [.type "ValueError",.type "Exception",.type "BaseException",.type "object"] "ValueError.__new__" = true)
  (qR:PySem.W.excIn K uT [.type "ValueError",.type "Exception",.type "BaseException",.type "object"] "ValueError.__new__" = true)
  (lC:PySem.W.excIn K yr [.type "ValueError",.type "Exception",.type "BaseException",.type "object"] "ValueError.__new__" = true)
  (jx:PySem.W.excIn K rz [.type "ValueError",.type "Exception",.type "BaseException",.type "object"] "ValueError.__new__" = true)
  (iZ:PySem.W.excIn K nF [.type "ValueError",.type "Exception",.type "BaseException",.type "object"] "ValueError.__new__" = true)
  (xP:Ip K nG "__init__" "View.__init__" jJ)
  (gA:Cls K nG)
  (Wj:PySem.W.makesIn K nG=true)
  (Wc:PySem.W.keepIn K (.ref nG)=true)
  (iJ:PySem.W.findIn K (.ref nG) "rows" = some none)
  (eZ:PySem.W.findIn K (.ref nG) "height" = some none)
  (fW:PySem.W.findIn K (.ref nG) "width" = some none)
  (iH:∃ t,PySem.W.nsIn K mainGlobals "MOST_ROWS" = some (some (.int 6 t)))
  (fJ:∃ t,PySem.W.nsIn K mainGlobals "MOST_COLUMNS" = some (some (.int 6 t)))
  (gj:∃ t,PySem.W.nsIn K mainGlobals "CLOSED_SIGN" = some (some (.str "#" t)))
  (qF:∃ t,PySem.W.nsIn K mainGlobals "SIGNS" = some (some (.str "#012345678" t)))
  (gQ:∃ t,PySem.W.nsIn K mainGlobals "MOST_CELLS" = some (some (.int 12 t)))
  (a2d:PySem.W.nsIn K mainGlobals "all" = some none)
  (a2e:PySem.W.nsIn K mainGlobals "int" = some none)
  (a2f:PySem.W.nsIn K mainGlobals "len" = some none)
  (a0O:PySem.W.nsIn K mainGlobals "list" = some none)
  (a2g:PySem.W.nsIn K mainGlobals "max" = some none)
  (a2h:PySem.W.nsIn K mainGlobals "min" = some none)
  (XJ:PySem.W.nsIn K mainGlobals "range" = some none)
  (Ux:PySem.W.nsIn K mainGlobals "sorted" = some none)
  (a2i:PySem.W.nsIn K mainGlobals "str" = some none)
  (yH:bU K "_law_cell_at" kY)
  (Jc:bU K "_law_mix" rM)
  (Gj:bU K "_law_near" pQ)
  (Ba:bU K "_law_figure" mj)
  (xM:bU K "_law_field_by" jK)
  (Dg:bU K "_law_shown" o8)
  (Bb:bU K "_law_opened" mq)
  (yI:bU K "_law_view_by" kZ)
  (R7:bU K "is_row" zu)
  (Od:bU K "is_size" vM)
  (Oe:bU K "is_view" vN)
  (Jd:bU K "has_cell" rN)
  (Gn:bU K "is_closed" pW)
  (VL:bU K "cells" Eb)
  (YX:bU K "near" JT)
  (Gq:bU K "open_near" pY)
  (Bc:bU K "closed_near" mz)
  (R5:bU K "closed" zp)
  (YW:bU K "edge" JR)
  (a0X:bU K "far" TQ)
  (R6:bU K "figure" zq)
  (R8:bU K "joined" zy)
  (VR:bU K "parts" Ed)
  (Ob:bU K "demands" vK)
  (Je:bU K "may_hold" rO)
  (Og:bU K "layings" vO)
  (Oc:bU K "is_lone" vL)
  (yK:bU K "lone_layings" lA)
  (Oa:bU K "choices" vJ)
  (Gm:bU K "by_stones" pU)
  (Oh:bU K "product" vP)
  (Gp:bU K "number_of" pX)
  (VN:bU K "count" Ec)
  (Oj:bU K "settled" vQ)
  (uY:bU K "common_divisor" jt)
  (R4:bU K "chance" zm)
  (yJ:bU K "first_laying" lg)
  (Gk:bU K "both_ways" pR)
  (YZ:bU K "sure" JV)
  (Dh:bU K "_law_total" o9)
  (a0Y:bU K "law" TV) :
  ∃ fd:FuncData,(∀(s:Shared)(v:Value),BindsTo s fd ⟨[v],[]⟩ [("script",v)])/\∀ base:Heap,K.In base->base.Ns mainGlobals mg->cg l.prog w K mg base (CXE l.prog w) 9 fa fd ["script"] (Nm K):=by
 obtain⟨_,iH⟩:=iH;obtain⟨_,fJ⟩:=fJ;obtain⟨_,gj⟩:=gj;obtain⟨_,qF⟩:=qF;obtain⟨_,gQ⟩:=gQ;have T:Txt K mg ⟨nD,uT,yr,rz,nF,nG⟩:={ Qy:=uE X G a2d,Qz:=uE X G a2e,eF:=uE X G a2f,QB:=uE X G a0O,QC:=uE X G a2g,QD:=uE X G a2h,gw:=uE X G XJ,sZ:=uE X G Ux,XQ:=uE X G a2i,iH:=⟨_,lY X G iH⟩,fJ:=⟨_,lY X G fJ⟩,gj:=⟨_,lY X G gj⟩,qF:=⟨_,lY X G qF⟩,gQ:=⟨_,lY X G gQ⟩,CP:=lY X G nH,oG:=⟨oG⟩,Bo:=lY X G uU,qR:=⟨qR⟩,pB:=lY X G yt,lC:=⟨lC⟩,rB:=lY X G rA,jx:=⟨jx⟩,nM:=lY X G nJ,iZ:=⟨iZ⟩,YJ:=lY X G CJ,gA:=gA,iJ:=iJ,eZ:=eZ,fW:=fW }
 refine Zn X G hfa a0Y (bind1 fun _ _ _ _ _ _ _=>rfl) fun base _ _ F=>?_
 have dm:=@a1b l.prog w K mg base h X G;have cm:=@a1p l.prog w K mg base h X G;have bH:=dm yH (gJ fun _ _ _ _ _ _ _ _=>rfl) fun _ _ F=>Wq F T
 have fU:=dm Jc (Gg fun _ _ _ _ _ _ _ _ _=>rfl) fun _ _ F=>ZJ F T
 have iC:=dm Gj (Gg fun _ _ _ _ _ _ _ _ _=>rfl) fun _ _ F=>Wt F T
 have gb:=dm Ba (XR fun _ _ _ _ _ _ _ _ _ _=>rfl) fun _ _ F=>Pz F T iC
 have jF:=dm xM (gJ fun _ _ _ _ _ _ _ _=>rfl) fun _ _ F=>S7 F T bH fU
 have nu:=dm Dg (XR fun _ _ _ _ _ _ _ _ _ _=>rfl) fun _ _ F=>Sq F T gb
 have lZ:=dm Bb (a0U fun _ _ _ _ _ _ _ _ _ _ _=>rfl) fun _ _ F=>PK F T iC gb
 have jY:=dm yI (Gg fun _ _ _ _ _ _ _ _ _=>rfl) fun _ _ F=>PL F T bH fU jF lZ nu
 have yp:=dm R7 (gJ fun _ _ _ _ _ _ _ _=>rfl) fun _ _ F=>ZK F T
 have uM:=dm Od (gJ fun _ _ _ _ _ _ _ _=>rfl) fun _ _ F=>Wv F T
 have uN:=dm Oe (bind1 fun _ _ _ _ _ _ _=>rfl) fun _ _ F=>Wx F T yp uM
 have Io:=cm CJ Wj Wc xP (gJ fun _ _ _ _ _ _ _ _=>rfl) fun _ _ F=>Wr F T uN
 have jk:=dm Jd (gJ fun _ _ _ _ _ _ _ _=>rfl) fun _ _ F=>ZD F T
 have bC:=dm Gn (gJ fun _ _ _ _ _ _ _ _=>rfl) fun _ _ F=>Hl F T jk
 have qy:=dm VL (bind1 fun _ _ _ _ _ _ _=>rfl) fun _ _ F=>Hh F T
 have uP:=dm YX (gJ fun _ _ _ _ _ _ _ _=>rfl) fun _ _ F=>Sh F T jk
 have cF:=dm Gq (gJ fun _ _ _ _ _ _ _ _=>rfl) fun _ _ F=>Ho F T uP bC
 have cQ:=dm Bc (gJ fun _ _ _ _ _ _ _ _=>rfl) fun _ _ F=>Bd F T uP bC
 have iQ:=dm R5 (bind1 fun _ _ _ _ _ _ _=>rfl) fun _ _ F=>Py F T qy bC
 have uK:=dm YW (bind1 fun _ _ _ _ _ _ _=>rfl) fun _ _ F=>Sg F T iQ cF
 have Qw:=dm a0X (bind1 fun _ _ _ _ _ _ _=>rfl) fun _ _ F=>Wu F T iQ cF
 have mF:=dm R6 (gJ fun _ _ _ _ _ _ _ _=>rfl) fun _ _ F=>Jy F T
 have mG:=dm R8 (gJ fun _ _ _ _ _ _ _ _=>rfl) fun _ _ F=>PB F T cF cQ
 have CG:=dm VR (bind1 fun _ _ _ _ _ _ _=>rfl) fun _ _ F=>Sd F T uK mG
 have uJ:=dm Ob (gJ fun _ _ _ _ _ _ _ _=>rfl) fun _ _ F=>Jw F T cF cQ mF
 have qZ:=dm Je (gJ fun _ _ _ _ _ _ _ _=>rfl) fun _ _ F=>ZG F T
 have uO:=dm Og (gJ fun _ _ _ _ _ _ _ _=>rfl) fun _ _ F=>Jx F T uK mG uJ qZ
 have uL:=dm Oc (gJ fun _ _ _ _ _ _ _ _=>rfl) fun _ _ F=>Ws F T bC cQ
 have jZ:=dm yK (bind1 fun _ _ _ _ _ _ _=>rfl) fun _ _ F=>S9 F T qy uL mF
 have gP:=dm Oa (bind1 fun _ _ _ _ _ _ _=>rfl) fun _ _ F=>Jv F T CG uO Qw jZ
 have oY:=dm Gm (bind1 fun _ _ _ _ _ _ _=>rfl) fun _ _ F=>Hj F T
 have uQ:=dm Oh (gJ fun _ _ _ _ _ _ _ _=>rfl) fun _ _ F=>Jz F T
 have gD:=dm Gp (gJ fun _ _ _ _ _ _ _ _=>rfl) fun _ _ F=>PJ F T uQ oY
 have Cz:=dm VN (gJ fun _ _ _ _ _ _ _ _=>rfl) fun _ _ F=>S6 F T gD gP
 have jl:=dm Oj (Gg fun _ _ _ _ _ _ _ _ _=>rfl) fun _ _ F=>JB F T
 have jj:=dm uY (gJ fun _ _ _ _ _ _ _ _=>rfl) fun _ _ F=>ZC F T
 have yh:=dm R4 (Gg fun _ _ _ _ _ _ _ _ _=>rfl) fun _ _ F=>Px F T bC gP gD jl jj
 have iR:=dm yJ (bind1 fun _ _ _ _ _ _ _=>rfl) fun _ _ F=>S8 F T
 have oX:=dm Gk (gJ fun _ _ _ _ _ _ _ _=>rfl) fun _ _ F=>Wo F T bC gP jl iR
 have Il:=dm YZ (gJ fun _ _ _ _ _ _ _ _=>rfl) fun _ _ F=>Ww F T oX
 have nA:=dm Dh (gJ fun _ _ _ _ _ _ _ _=>rfl) fun _ _ F=>Ss F T Cz
 exact ZF F T bH jY Io nA iQ yh Il
theorem walk{l:PySem.W.OpenLaw}{q:Program}{loose:List Str}{XP:(Str->Option Value)->Heap->Prop}{YP:World->Heap->Prop}{d:DefRec}{K:Params->ao}(hn:l.most=some 63)(hdf:d.params.defaults=[])
  (hY:∀(w:World)(h:Heap),YP w h->(K w.params).In h)
  (F:∀(w:World)(mg:Str->Option Value)(fa:Addr)(h:Heap),(K w.params).In h->h.Ns mainGlobals mg->mg d.name=some (.ref fa) ->
   ∃ fd:FuncData,(∀(s:Shared)(u:Value),BindsTo s fd ⟨[u],[]⟩ [("script",u)])/\∀ base:Heap,(K w.params).In base->base.Ns mainGlobals mg->cg l.prog w (K w.params) mg base (CXE l.prog w) 9 fa fd ["script"] (Nm (K w.params))) :
  PySem.W.WalkO q loose XP YP l.row.toRowW d [] (fun f vs=>PySem.call f vs):=
 L2.XF (n:=63) (k:=9) (x:="script") (CX:=fun w=>CXE l.prog w) (sp:=fun w=>Nm (K w.params)) hn (by decide) hdf ⟨rfl,by decide,by decide⟩ hY F (fun _ _ a ns hl _ hS=>⟨a,ns,rfl,hS,fun _=>rfl⟩) fun _ _ _ _ _ z=>by
  obtain⟨_,_,_,_,_,_,_,_,_,z⟩:=z;exact z
end My
namespace PySem.W.Fast
def tw15184792818780236307:=0
def tw13908835946524727765:=0
def tw4601446085083571473:=0
def tw8662579062895823152:=0
def tw2954051903523289938:=0
def tw10107948713925274012:=0
def tw13317723275624447050:=0
def tw1066074181263341648:=0
def tw7345370963261158223:=0
def tw14534018888247799218:=0
def tw16581104812517844869:=0
def tw11562425842088579546:=0
def tw13696247980544865394:=0
def tw6483122618785160689:=0
def tw17567060363719427280:=0
def tw8675905729193777373:=0
def tw9621163999281249408:=0
def tw6139162916316758837:=0
def tw5131975133278123349:=0
def tw197158490863323293:=0
def tw11841007723410636573:=0
def tw5573616310594560331:=0
def tw5244129807524776184:=0
def tw18259242986282629562:=0
def tw5925401590068990029:=0
def tw16169909548078009004:=0
def tw11531077225285550990:=0
def tw7693541588774645944:=0
def tw18289194287588433753:=0
def tw17747292902221325238:=0
def tw1318206435094095408:=0
def tw14443717814044138446:=0
def tw14843431247952890055:=0
def tw12211445883365364238:=0
def tw6090578533483710046:=0
def tw8684294873929578082:=0
def tw11027848876195444041:=0
def tw2339181550267691136:=0
def tw15660817470227684601:=0
def tw242247268380560789:=0
def tw5857054978978507426:=0
def tw9086596124334400558:=0
def tw17860040803831911224:=0
def tw5729785763110397426:=0
def tw17391120737964447813:=0
def tw2585542262601187540:=0
def tw1811368367351385651:=0
def tw1961004702983627948:=0
def tw4162138936519590993:=0
def tw2703557403894792433:=0
def tw2737971032673306046:=0
def tw15020140395568808047:=0
def tw10311541819015701920:=0
def tw16091904039684692572:=0
def tw15854069038308412975:=0
def tw11696939741210269654:=0
def tw17297059904600523953:=0
def tw12258112488350450376:=0
def tw17793408639747342552:=0
def tw7472023744698322532:=0
def tw7995348384362725860:=0
def tw13804431247327670999:=0
def tw15704213543038415950:=0
def tw4700844999213873431:=0
def tw5396990605141545319:=0
def tw2901257143345567648:=0
def tw16332615236592357716:=0
def tw8186443520510950228:=0
def tw10702472811366771987:=0
def tw16068382040594839144:=0
def tw1658196632196333063:=0
def tw16228865208876991755:=0
def tw1231168043553807138:=0
def tw10708616342161001422:=0
def tw7120649258323045960:=0
def tw10158936304552193567:=0
def tw5012392054281625011:=0
def tw2800823234612530714:=0
def tw6582523256872237790:=0
def tw5347196201486750158:=0
def tw15567188118890991188:=0
def tw15054357513114349009:=0
def tw7382247289348201294:=0
def tw2583527476198072432:=0
def tw9255030433305352271:=0
def tw3738077029685421775:=0
def tw3856820194151845702:=0
def tw10935766588170825674:=0
def tw4776855195724817760:=0
def tw17424992234504822341:=0
def tw9722445585965509369:=0
def tw8215205734144816759:=0
def tw13478442101441029835:=0
def tw4539511723752366179:=0
def tw11868528336586941877:=0
def tw2010709699586948539:=0
def tw13195379749064188808:=0
def tw7878893447041824690:=0
def tw11318468181502890990:=0
def tw10952189998795749511:=0
def tw10313441915103666373:=0
def tw16154109579082612631:=0
def tw2582353823309097536:=0
def tw11742108298791714580:=0
def tw15545965904914877844:=0
def tw16614231662830865691:=0
def tw1917779204381032213:=0
def tw15160763526590676779:=0
def tw7382136663654469772:=0
def tw2893252005760357627:=0
def tw3228324775036786880:=0
def tw6287734459676682410:=0
def tw12827481849195771939:=0
def tw16812364996787173967:=0
def tw15799456509013454775:=0
def tw2102408954468532392:=0
def tw8241918195834511500:=0
def tw3855272496505400389:=0
def tw9690822884268258809:=0
def tw17435917623923835581:=0
def tw14611403308901074728:=0
def tw17067770289636843433:=0
def tw3813350075262352139:=0
def tw7345701939087401861:=0
def tw17956303540544771609:=0
def tw1548128637069307581:=0
def tw15628487285522889940:=0
def tw14524145690803579682:=0
def tw9398777202751441481:=0
def tw15861511411797687825:=0
def tw11793825521486135950:=0
def tw8666883694918296782:=0
def tw7888662533254166865:=0
def tw10146957406501206344:=0
def tw3814133527410557277:=0
def tw9949429217861668186:=0
def tw4112529478181015155:=0
def tw10440895452577337788:=0
def tw7333978596172142668:=0
def tw8250121244420094176:=0
def tw14056373682594855312:=0
def tw9667908599548736677:=0
def tw16723709485037284580:=0
def tw12515472737022243198:=0
def tw13976025754412605457:=0
def tw2154897590477362586:=0
def tw14106815979862541716:=0
def tw3297325270964551507:=0
def tw17119405149431899509:=0
def tw4044868144377802963:=0
def tw16760494355091286582:=0
def tw11091714450750383761:=0
def tw13185936750700600640:=0
def tw12079946654477625110:=0
def tw4048422403470940389:=0
def tw18121276948270048196:=0
def tw11427707424840799938:=0
def tw2789539931596820997:=0
def tw14491770876683865148:=0
def tw1155567326328179244:=0
def tw3183069355912371241:=0
def tw17197440685085623977:=0
def tw1796051356059924498:=0
def tw8232812601638339492:=0
def tw14709644589995051598:=0
def tw15855316685148332013:=0
def tw1109486403507204098:=0
def tw18403743284088149011:=0
def tw4750958971598398520:=0
def tw17443225105734093977:=0
def tw13604098747638328243:=0
def tw3099605916590535888:=0
def tw8499368736396239464:=0
def tw5441426305820550050:=0
def tw13350513954805831138:=0
def tw749628751291063428:=0
def tw14521689037214769386:=0
def tw16169134877208734201:=0
def tw1789438539154870005:=0
def tw8140674954732663457:=0
def tw11495183239825993464:=0
def tw11664207786875700999:=0
def tw5033333147686237817:=0
def tw10441136105082924864:=0
def tw4114508786113447438:=0
def tw10523470729065448781:=0
def tw11221000718643271336:=0
def tw16366899754854411114:=0
def tw18247637832668877510:=0
def tw2094582875900634514:=0
def tw7240827922082834073:=0
def tw9129300924107296448:=0
def tw4864671612556741204:=0
def tw5785814023331539230:=0
def tw14310512068800563859:=0
def tw13347873518676371074:=0
def tw8777764633867876562:=0
def tw18373200093290019547:=0
def tw17010621421622144318:=0
def tw12938725508572350885:=0
def tw12883677861468539377:=0
def tw11990263351386434178:=0
def tw16489824699523446281:=0
def tw10896315001503447538:=0
def tw16300571901453028440:=0
def tw16340891474875259937:=0
def tw10215293159723390574:=0
def tw6295060372194487576:=0
def tw4436850654917414551:=0
def tw12271203722339829185:=0
def tw8772036323762804284:=0
def tw3969360152245312077:=0
def tw16638412223928848076:=0
def tw16453416010701052421:=0
def tw9576779714592371853:=0
def tw2403316133361372070:=0
def tw9458299093687834013:=0
def tw5995427660778280374:=0
def tw17810358014316002304:=0
def tw15704284024803414589:=0
def tw799633294221017976:=0
def tw16585313664892516199:=0
def tw3007693975136075789:=0
def tw2570333675908376630:=0
def tw6786108818569564913:=0
def tw4171460675820275314:=0
def tw16836657973879588373:=0
def tw14355619233141260561:=0
def tw4125854397004960269:=0
def tw3229411573697532450:=0
def tw16342974380411930992:=0
def tw279065432031351734:=0
def tw14368479186336832052:=0
def tw15687600643187016463:=0
def tw670173367484052695:=0
end PySem.W.Fast
open PySem PySem.W PyProof.Rows
set_option maxRecDepth 100000 in
set_option maxHeartbeats 0 in
theorem PySem.Challenge.cw_dampfield_k13_whole_chances_together_holds : PySem.Challenge.rw_dampfield_k13_whole_chances_together.Holds := by
 w_on;o_law;k_head;(case hw=>w_witness2)
 k_fill
 refine My.walk (l:=PySem.Challenge.rw_dampfield_k13_whole_chances_together) rfl rfl (fun w h Y=>PySem.W.kIn_of Y) ?F
 case F=>
  intro w mg fa h KX G hmg
  refine' My.all_mk KX G hmg ?nH ?uU ?yt ?rA ?nJ ?CJ ?_ ?_ ?_ ?_ ?_ ?_ ?_ ?_ ?_ ?_ ?_ ?_ ?_ ?_ ?_ ?_ ?_ ?_ ?_ ?_ ?_ ?_ ?_ ?_ ?_ ?_ ?_ ?_ ?_ ?_ ?_ ?_ ?_ ?_ ?_ ?_ ?_ ?_ ?_ ?_ ?_ ?_ ?_ ?_ ?_ ?_ ?_ ?_ ?_ ?_ ?_ ?_ ?_ ?_ ?_ ?_ ?_ ?_ ?_ ?_ ?_ ?_ ?_ ?_ ?_ ?_ ?_
  (case nH=>k_is)
  (case uU=>k_is)
  (case yt=>k_is)
  (case rA=>k_is)
  (case nJ=>k_is)
  (case CJ=>k_is)
  iterate 5 k_exc
  iterate 1 (refine' My.Zu ?a ?i ?b ?c ?d;(case a=>k_is);(case i=>k_is);(case b=>k_is);(case c=>k_is);(case d=>k_is))
  iterate 1 (refine' ⟨?_,?_,?_,?_⟩<;>k_is)
  iterate 5 k_is
  iterate 2 (refine' My.a2b ?a;(case a=>k_is))
  iterate 2 (refine' My.a2J ?a;(case a=>k_is))
  iterate 1 (refine' My.a2b ?a;(case a=>k_is))
  iterate 9 k_is
  iterate 41 (refine' My.a1a ?a ?b ?c ?d;(case a=>k_is);(case b=>k_is);(case c=>k_is);(case d=>k_is))
