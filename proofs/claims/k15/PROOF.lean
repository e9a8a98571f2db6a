import PyProof.Rows.All
import Wide.All
import OpenK.AllK
import Wide.FinOn
import Lean
import PyProof.EqAt
import PyProof.EqKinds
import PyProof.TupleCall
import PySem.Challenge.RW_dampfield_k15_refusals_apart
set_option maxHeartbeats 4000000
set_option Elab.async false
set_option linter.all false
set_option maxRecDepth 100000
def aJ:=@if_neg
def aL:=@if_pos
def cU:=@decide_eq_false
def cR:=@decide_eq_true
def dj:=@of_decide_eq_true
def iw:=@decide_eq_true_iff
def iY:=@of_decide_eq_false
def oh:=@beq_eq_false_iff_ne
def jM:=@beq_iff_eq
def vV:=@decide_eq_decide
def nH:=@if_false
def uM:=@if_true
def OJ:=@beq_self_eq_true
open Array renaming getElem?_eq_getElem->jG,getD_eq_getD_getElem?->o9,toList_append->lW,length_toList->nM,getElem?_toList->Ft,toList_reverse->Hu,getElem_mem_toList->O6,toList_push->HN,getElem_toList->Ol,toList_setIfInBounds->Zm,toList_inj->P0,getElem?_eq_none->Zz,toList_extract->ZQ,append_assoc->a01,size_extract->a04
open Bool renaming false_ne_true->fP,not_eq_true'->jJ,not_eq_false'->ou,and_eq_true->nO,false_eq_true->Dk,eq_iff_iff->uI,true_and->rP,false_and->yx,and_false->yC,beq_eq_decide_eq->ZF,false_or->Pk,or_true->Pn
def O5:=@Classical.byContradiction
open Int renaming toNat_natCast->jR,natCast_nonneg->HF,zero_add->yG,add_zero->yH,eq_ofNat_of_zero_le->O9,toNat_of_nonneg->Ou,one_mul->Il,mul_zero->Pq,zero_mul->Pr,mul_one->Pu
open List renaming length_map->bf,getD_eq_getElem?_getD->eE,mem_singleton->cN,getElem?_eq_getElem->iM,length_append->cL,size_toArray->cJ,mem_cons_self->cV,mem_filter->cF,mem_append->cG,mem_cons_of_mem->eO,getElem?_map->dF,mem_map->bV,mem_append_right->gw,mem_of_getElem?->gC,mem_cons->cZ,mem_append_left->gP,mem_range->dO,length_cons->gD,map_cons->eU,getElem?_eq_some_iff->lR,map_append->iz,length_singleton->lE,length_filter_le->lV,take_length->lF,all_eq_true->nP,take_succ->lG,append_nil->oA,drop_eq_getElem_cons->yX,pairwise_iff_getElem->yZ,pairwise_cons->rQ,getElem_mem->qG,replicate_succ->u5,getElem?_append_right->Di,length_take->u6,pairwise_append->z7,length_range->vU,take_append_drop->Dj,map_map->qH,flatten_cons->z8,append_assoc->z9,flatMap_cons->zc,length_nil->vW,lookup_cons->zf,getElem?_eq_none->Fv,getElem?_append_left->KC,foldl_cons->zj,nodup_append->Dl,length_eq_zero_iff->KD,take_of_length_le->Ck,filter_append->yt,length_replicate->Cm,mem_of_mem_take->Cp,flatMap_append->Cr,filter_sublist->Cu,mem_filterMap->Cv,find?_cons->yw,getElem?_set_self->Ho,filter_eq_nil_iff->Hq,ext_getElem?->Cz,getElem?_toArray->Hs,getElem?_of_mem->Ht,mem_flatMap->CJ,getElem_map->CK,all_cons->yD,any_cons->yE,perm_ext_iff_of_nodup->O2,filter_eq_self->Hw,map_congr_left->Hy,nodup_cons->CP,range_succ->CQ,getElem?_replicate->O8,filter_congr->HJ,pairwise_map->HW,length_pos_of_mem->Oc,drop_of_length_le->Oe,sum_cons->CZ,mem_reverse->HX,any_eq_true->HY,perm_append_comm->Og,pairwise_reverse->Oh,eq_replicate_iff->Oi,of_mem_zip->I8,length_set->I9,mem_iff_getElem->Oj,filterMap_cons->Oo,getElem_of_mem->Ot,drop_drop->Ia,reverse_perm->Oz,getElem?_take_of_lt->Zo,map_nil->Ih,all_map->Ii,filter_cons->Pb,pairwise_singleton->Zu,nil_append->Pg,nodup_nil->Ph,eq_nil_or_concat->ZL,take_zero->Pj,pairwise_flatten->ZM,getElem?_set_ne->ZP,dropLast_concat->ZS,reverse_append->ZX,modify_toArray->a00,count_eq_zero->a05,map_replicate->a06
open Nat renaming le_refl->bG,le_trans->dU,lt_of_lt_of_le->jH,ne_of_lt->gR,zero_le->nQ,mul_le_mul->rY,lt_irrefl->rZ,lt_succ_of_lt->yu,le_of_ble_eq_true->Hr,lt_succ_self->CG,le_succ->uK,zero_add->Dd,pow_le_pow_right->Om,lt_of_le_of_lt->Ov,le_of_lt->Ie,ne_of_gt->Ig,add_zero->Ik,add_le_add_left->ZW
def kI:=@Ne.symm
open Option renaming map_eq_some_iff->jP,map_some->uJ,isSome_map->OD,isSome_iff_exists->Zn,bind_eq_some_iff->Zw
open Option.some renaming inj->iy,injEq->Cy
def nJ:=@Prod.ext
open PyProof.Rows renaming wpS_bind->bD,wpS_pure->aV,wpS_forRange->jT,wpS_mono->jU,wpS_modify->pH,wpS_get->lO,callWith_type1->O1,wpS_lift->uL,mirror_perm->Dg
open PySem renaming wpAny_bind->bL,wpAny_pure->c7,wpAny_mono->jL,wpAny_eqBool_int->rW,wpAny_truthy_bool->vR,wpAny_holding->u9,sizeLine_eq->su,call_meets->nG,wpAny_passesOwn->uH,mem_of_lookup->Cq,wpAny_Call_Name_kw->Cw,wpAny_isSubtype_exc->Hz,wpAny_execs_nil->CN,codeAny_builtin->CT,codeAny_mono->yF,tupleKind_room_in1->HD,wpAny_callSpecial?_slot->Oa,wpAny_loadPart_at->HS,richCompare_meets_room->Od,wpAny_attempt->CW,wpAny_rule->yI,wpAny_newFunctionEnv_cells->Zk,wpAny_assign_Name->Ow,wpAny_newObj_type->Ox,wpAny_call->Dh,wpAny_comprehension_free->Zq,wpAny_call_entry->Pa
def Hv:=@PySem.Around.under_plainId
def O7:=@PySem.AutoSeq1.sub_tuple_tuple
open PySem.Calls renaming call_function_entry->O4,Name_function_global->Zj
open PySem.F renaming plainAttrs_list->lU,slot_list_append->tY,type_list_append->tZ,slot_dict_keyiterator_next->Kz,excBase_ValueError->Hl,args_dict_keyiterator_next_1->Zh,entry_dict_keyiterator_next->Zi,slot_list_extend->Zr,type_list_extend->Zt,plain_list_iadd->Zv,slot_list_count->Zx,slot_list_index->Zy,slot_dict_iter->ZC,slot_dict_len->ZG,slot_list_pop->ZJ,type_list_pop->ZK,slot_list_lt->ZR
open PySem.Heap renaming get?_push_of_some->fB,lt_size->bZ,get?_push_size->jQ,get?_update_ne->Hx
def Ib:=@PySem.Paired.length
def gQ:=@PySem.PassesOwn.never
def Ij:=@PySem.SeqAt.EqAt.of_refs
open PySem.W renaming mg_of->jK,mg_none_of->rT,callWith_K->HB,cellsFrom_some->Ob,plainGet_of->Oq,methodCall_KW->ZD,hideAll_get->ZV,of_hideAll->a02,codeRec_of->a03
abbrev ao:=PySem.W.Frag
namespace L2
open PySem PySem.Spec PyProof.Rows
abbrev Key:=Sum Int Str
def EY:Key->Value->Bool
 |.inl k,v=>Value.isInt k v
 |.inr x,v=>Value.isStrOf x v
def a6h(w:World):Key->Int
 |.inl k=>hashInt k
 |.inr x=>hashStr w x
theorem fK:∀ {k:Key} {v:Value},EY k v=true->(∃ i t,k=Sum.inl i/\v=Value.int i t)\/(∃ x t,k=Sum.inr x/\v=Value.str x t)
 |.inl i,v,h=>by
  obtain⟨t,e⟩:=Value.isInt_shape (k:=i) (v:=v) h;exact .inl ⟨i,t,rfl,e⟩
 |.inr x,v,h=>by
  obtain⟨t,e⟩:=Value.isStrOf_shape (x:=x) (v:=v) h;exact .inr ⟨x,t,rfl,e⟩
theorem Us(i:Int)(t:Tok):EY (.inl i) (.int i t)=true:=by simp[EY,Value.isInt]
theorem Ut(x:Str)(t:Tok):EY (.inr x) (.str x t)=true:=by simp[EY,Value.isStrOf]
theorem a3c(a b:Int):decide ((Sum.inl a:Key)=Sum.inl b)=(a==b):=by
 by_cases e:a=b
 ·subst e;simp
 ·have h:¬(Sum.inl a:Key)=Sum.inl b:=fun q=>e (Sum.inl.inj q)
  rw[cU h];exact(oh.mpr e).symm
theorem a3f(a b:Str):decide ((Sum.inr a:Key)=Sum.inr b)=decide (a=b):=by
 by_cases e:a=b
 ·subst e;simp
 ·have h:¬(Sum.inr a:Key)=Sum.inr b:=fun q=>e (Sum.inr.inj q)
  rw[cU h,cU e]
theorem a3d(a:Int)(b:Str):decide ((Sum.inl a:Key)=Sum.inr b)=false:=cU (fun q=>nomatch q)
theorem a3e(a:Str)(b:Int):decide ((Sum.inr a:Key)=Sum.inl b)=false:=cU (fun q=>nomatch q)
def gH(prog:Program)(w:World):PySem.KeyKind prog w Key where
 is:=EY
 hash:=a6h w
 inj:=fun v a b ha hb=>by
  rcases fK ha with⟨i,t,rfl,rfl⟩|⟨x,t,rfl,rfl⟩
  ·rcases fK hb with⟨j,u,rfl,e⟩|⟨y,u,rfl,e⟩
   ·injection e with e1 _;rw[e1]
   ·exact nomatch e
  ·rcases fK hb with⟨j,u,rfl,e⟩|⟨y,u,rfl,e⟩
   ·exact nomatch e
   ·injection e with e1 _;rw[e1]
 byValue:=fun k v h=>by
  rcases fK h with⟨i,t,rfl,rfl⟩|⟨x,t,rfl,rfl⟩<;>rfl
 pyHash:=fun hv h=>by
  rcases fK hv with⟨i,t,rfl,rfl⟩|⟨x,t,rfl,rfl⟩
  ·exact wpAny_pyHash_int h
  ·exact wpAny_pyHash_str h
 eqBool:=fun hu hv h=>by
  rcases fK hu with⟨i,t,rfl,rfl⟩|⟨x,t,rfl,rfl⟩
  ·rcases fK hv with⟨j,u,rfl,rfl⟩|⟨y,u,rfl,rfl⟩
   ·rw[a3c] at h;exact rW h
   ·rw[a3d] at h;exact SeqAt.EqAt.int_str i t y u _ _ _ _ h
  ·rcases fK hv with⟨j,u,rfl,rfl⟩|⟨y,u,rfl,rfl⟩
   ·rw[a3e] at h;exact SeqAt.EqAt.str_int x t j u _ _ _ _ h
   ·rw[a3f] at h;exact wpAny_eqBool_str h
 «strs»:=fun k x t v h=>by
  rcases fK h with⟨i,u,rfl,e⟩|⟨y,u,rfl,e⟩
  ·exact nomatch e
  ·injection e with e1 _;subst e1;cases v<;>rfl
theorem Jz(prog:Program)(w:World)(i:Int)(t:Tok):(gH prog w).is (.inl i) (.int i t)=true:=Us i t
theorem JB(prog:Program)(w:World)(x:Str)(t:Tok):(gH prog w).is (.inr x) (.str x t)=true:=Ut x t
inductive V where
 |non|bl (b:Bool)|int (i:Int)|str (x:Str)|byt (b:Array UInt8)|flt (b:UInt64)|ref (a:Addr)|ty (n:String)
 deriving DecidableEq
def RelV:V->Value->Prop
 |.non,u=>u=Value.none
 |.bl b,u=>u=Value.bool b
 |.int i,u=>∃ t,u=Value.int i t
 |.str x,u=>∃ t,u=Value.str x t
 |.byt b,u=>∃ t,u=Value.bytes b t
 |.flt b,u=>∃ t,u=Value.float b t
 |.ref a,u=>u=Value.ref a
 |.ty n,u=>u=Value.type n
abbrev Vals:List V->List Value->Prop:=Paired RelV
theorem Vals.length{xs:List V}{us:List Value}(r:Vals xs us):xs.length=us.length:=Ib r
theorem Vals.get:∀ {xs:List V} {us:List Value} {i:Nat} {x:V},Vals xs us->xs[i]?=some x->∃ u,us[i]?=some u/\RelV x u
 |_,_,_,_,.nil,e=>by simp at e
 |_,_,0,_,.cons r _,e=>by simp at e;subst e;exact⟨_,rfl,r⟩
 |_,_,i+1,x,.cons _ t,e=>by
  obtain⟨u,h1,h2⟩:=Vals.get (i:=i) (x:=x) t (by simpa using e);exact⟨u,by simpa using h1,h2⟩
theorem Vals.set{x:V}{u:Value}(r:RelV x u):∀ {xs:List V} {us:List Value} (i:Nat),Vals xs us->Vals (xs.set i x) (us.set i u)
 |_,_,_,.nil=>.nil
 |_,_,0,.cons _ t=>.cons r t
 |_,_,i+1,.cons q t=>.cons q (Vals.set r i t)
theorem Vals.append:∀ {xs b:List V} {us a:List Value},Vals xs us->Vals b a->Vals (xs++b) (us++a)
 |_,_,_,_,.nil,s=>s
 |_,_,_,_,.cons r t,s=>.cons r (Vals.append t s)
def tQ:Option V->Option Value->Prop
 |some v,some u=>RelV v u
 |none,none=>True
 |_,_=>False
def KV{κ:Type}:List (κ×V)->List (κ×Value)->Prop:=Paired fun(p:κ×V)(q:κ×Value)=>p.1=q.1/\RelV p.2 q.2
def kV:Key->V
 |.inl i=>.int i
 |.inr x=>.str x
inductive HO where
 |lst (xs:List V)
 |tup (xs:List V)
 |dK (kvs:List (Key×V))|dT (kvs:List (List Key×V))
 |set (S:Int->Bool) (n:Nat)
 |ins (C dx:Addr) (fs:List (Str×V))
 |own (x:Addr)
 |xd (fs:List (Str×V))
 |met (f x:Addr)
 |rng (lo hi:Int)
 |frz (o:Obj) (u:HO)
 |tbl (ps:Array Value)
 |ext (φ:Heap->Prop)
abbrev Hp:=Addr->Option HO
def upd(H:Hp)(a:Addr)(o:HO):Hp:=fun b=>if b=a then some o else H b
theorem aC{H:Hp}{a:Addr}{o:HO}:upd H a o a=some o:=by unfold upd;rw[aL rfl]
theorem aN{H:Hp}{a b:Addr}{o:HO}(h:b≠a):upd H a o b=H b:=by unfold upd;rw[aJ h]
theorem fX{H:Hp}{a b:Addr}{o u:HO}(h:H a=some o)(h':H b=some u)(d:o≠u):a≠b:=by
 intro e;subst e;rw[h] at h';exact d (iy h')
theorem aR{H:Hp}{a b:Addr}{o:HO}(h:H a=some o)(h':H b=none):a≠b:=by
 intro e;subst e;rw[h] at h';cases h'
section
variable(P:Program)(w:World)
def g8(H:Hp)(h:Heap)(a:Addr):HO->Prop
 |.lst xs=>xs.length<=sizeLine/\∃(its:List Value)(n:Nat),Vals xs its/\h.get? a=some { cls:=.type "list",data:=.seq its.toArray n }
 |.tup xs=>xs.length<=sizeLine/\∃ its:List Value,Vals xs its/\IsTup h a its.toArray
 |.dK kvs=>kvs.length<=sizeLine/\(a==sysModules)=false/\∃ vs,KV kvs vs/\h.DictOf (gH P w) a vs
 |.dT kvs=>kvs.length<=sizeLine/\(a==sysModules)=false/\∃ xs:List (List Key×Addr×Value),
   Paired (fun(p:List Key×V)(q:List Key×Addr×Value)=>p.1=q.1/\H q.2.1=some (.tup (p.1.map kV))/\RelV p.2 q.2.2) kvs xs /\
   ∃ o es ep,h.get? a=some o/\o.ExactDict/\o.data=.dict es ep/\es.toList=xs.map (entryOfKey (tupleKind (gH P w)))/\(xs.map (·.1)).Nodup
 |.set S n=>h.SetOf (intKind P w) a S n
 |.ins C dx fs=>H dx=some (.own a)/\fs.length<=1000/\dx≠a/\h.get? a=some (PySem.W.instObj C dx) /\
   ∃ mA,h.Ns1 dx mA/\(∀ f,tQ (fs.lookup f) (mA f))/\PySem.Within mA (fs.map (·.1))
 |.own _=>∃ o,h.get? a=some o
 |.xd fs=>∃ mA,h.Ns1 a mA/\∀ f,tQ (fs.lookup f) (mA f)
 |.rng lo hi=>∃ t u v,h.get? a=some { cls:=.type "range",data:=.fields #[.int lo t,.int hi u,.int 1 v] }
 |.frz o u=>h.get? a=some o/\g8 H h a u
 |.tbl ps=>h.get? a=some { cls:=.none,data:=.fields ps }
 |.met f x=>h.get? a=some (PySem.W.methodObj (.ref f) (.ref x))
 |.ext φ=>φ h/\(∃ o,h.get? a=some o)/\∀ h1 h2:Heap,φ h1->(∀ o,h1.get? a=some o->h2.get? a=some o)->φ h2
def HOk(H:Hp)(h:Heap):Prop:=∀ a o,H a=some o->g8 P w H h a o
end
section
variable{P:Program}{w:World}{H H':Hp}{h h':Heap}{a:Addr}{o:HO}
theorem g8.lt(x:g8 P w H h a o):a<h.objs.size:=by
 cases o with
 |lst xs=>obtain⟨_,_,_,_,e⟩:=x;exact bZ e
 |tup xs=>obtain⟨_,_,_,p⟩:=x;exact p.lt
 |dK b=>obtain⟨_,_,_,_,o,_,_,e,_⟩:=x;exact bZ e
 |dT b=>obtain⟨_,_,_,_,o,_,_,e,_⟩:=x;exact bZ e
 |set c n=>obtain⟨o,_,_,_,e,_⟩:=x;exact bZ e
 |ins C dx fs=>obtain⟨_,_,_,e,_⟩:=x;exact bZ e
 |own y=>obtain⟨_,e⟩:=x;exact bZ e
 |xd fs=>obtain⟨_,⟨_,_,_,e,_⟩,_⟩:=x;exact bZ e
 |rng g d=>obtain⟨_,_,_,e⟩:=x;exact bZ e
 |frz i u=>obtain⟨e,_⟩:=x;exact bZ e
 |tbl ps=>exact bZ (show h.get? a=some _ from x)
 |met f y=>exact bZ (show h.get? a=some _ from x)
 |ext j=>obtain⟨_,⟨_,e⟩,_⟩:=x;exact bZ e
theorem Paired.a3j{d e:Type}{F c:d->e->Prop}:∀ {l₁:List d} {l₂:List e},Paired F l₁ l₂->(∀ a b,F a b->c a b)->Paired c l₁ l₂
 |_,_,.nil,_=>.nil
 |_,_,.cons r t,f=>.cons (f _ _ r) (Paired.a3j t f)
theorem g8.stay(x:g8 P w H h a o)(k:∀ b u,(b=a\/H b=some (.own a))->h.get? b=some u->h'.get? b=some u)
  (s:∀ b,H b=some (.own a)->H' b=some (.own a)) (ht:∀ b xs,H b=some (.tup xs)->H' b=some (.tup xs)):g8 P w H' h' a o:=by
 induction o with
 |lst xs=>obtain⟨g,l,n,r,e⟩:=x;exact⟨g,l,n,r,k _ _ (.inl rfl) e⟩
 |tup xs=>obtain⟨g,l,r,i,e,c⟩:=x;exact⟨g,l,r,i,k _ _ (.inl rfl) e,c⟩
 |dK A=>obtain⟨g,y,D,r,i,es,j,e,c⟩:=x;exact⟨g,y,D,r,i,es,j,k _ _ (.inl rfl) e,c⟩
 |dT A=>
  obtain⟨g,y,xs,r,i,es,j,e,c⟩:=x;exact⟨g,y,xs,Paired.a3j r fun p q g=>⟨g.1,ht _ _ g.2.1,g.2.2⟩,i,es,j,k _ _ (.inl rfl) e,c⟩
 |set E n=>obtain⟨i,es,j,t,e,c⟩:=x;exact⟨i,es,j,t,k _ _ (.inl rfl) e,c⟩
 |ins C dx fs=>
  obtain⟨d,g,B,e,mA,⟨od,es,j,m,c⟩,r⟩:=x;exact⟨s _ d,g,B,k _ _ (.inl rfl) e,mA,⟨od,es,j,k _ _ (.inr d) m,c⟩,r⟩
 |own y=>obtain⟨i,e⟩:=x;exact⟨i,k _ _ (.inl rfl) e⟩
 |xd fs=>obtain⟨mA,⟨od,es,j,e,c⟩,r⟩:=x;exact⟨mA,⟨od,es,j,k _ _ (.inl rfl) e,c⟩,r⟩
 |rng G F=>obtain⟨t,u,v,e⟩:=x;exact⟨t,u,v,k _ _ (.inl rfl) e⟩
 |frz i u z=>obtain⟨e,q⟩:=x;exact⟨k _ _ (.inl rfl) e,z q⟩
 |tbl ps=>
  have e:h.get? a=some { cls:=.none,data:=.fields ps }:=x;show h'.get? a=some { cls:=.none,data:=.fields ps };exact k a _ (.inl rfl) e
 |met f y=>
  have e:h.get? a=some (PySem.W.methodObj (.ref f) (.ref y)):=x;show h'.get? a=some (PySem.W.methodObj (.ref f) (.ref y));exact k a _ (.inl rfl) e
 |ext I=>obtain⟨p,⟨o,e⟩,st⟩:=x;exact⟨st _ _ p fun o q=>k _ _ (.inl rfl) q,⟨o,k _ _ (.inl rfl) e⟩,st⟩
theorem HOk.lt(x:HOk P w H h)(e:H a=some o):a<h.objs.size:=(x a o e).lt
theorem HOk.fresh(x:HOk P w H h)(e:h.objs.size<=a):H a=none:=by
 cases q:H a with
 |none=>rfl
 |some u=>exact absurd (jH (x.lt q) e) (rZ _)
theorem HOk.kept(x:HOk P w H h)(k:∀ b u,h.get? b=some u->h'.get? b=some u):HOk P w H h':=fun a o e=>
 (x a o e).stay (fun b u _ q=>k b u q) (fun _ q=>q) fun _ _ q=>q
theorem HOk.laid(x:HOk P w H h)(k:∀ b u,h.get? b=some u->h'.get? b=some u)(g:h.objs.size<=a)(new:g8 P w (upd H a o) h' a o):HOk P w (upd H a o) h':=fun b u e=>by
 have f:=x.fresh g;by_cases d:b=a
 ·subst d;rw[aC] at e;cases e;exact new
 ·rw[aN d] at e;exact(x b u e).stay (fun c v _ q=>k c v q) (fun c q=>by rw[aN (aR q f)];exact q) fun c xs q=>by rw[aN (aR q f)];exact q
end
def Rd(H:Hp)(a:Addr)(u:HO):Prop:=H a=some u\/∃ o,H a=some (.frz o u)
theorem Rd.ok{b:Program}{w:World}{H:Hp}{h:Heap}{a:Addr}{u:HO}(r:Rd H a u)(x:HOk b w H h):g8 b w H h a u:=by
 rcases r with r|⟨o,r⟩
 ·exact x a u r
 ·obtain⟨_,q⟩:=x a _ r;exact q
def Mut:Option HO->Prop
 |some (.lst _)=>True
 |some (.dK _)=>True
 |some (.dT _)=>True
 |some (.set _ _)=>True
 |some (.ins _ _ _)=>True
 |some (.ext _)=>True
 |_=>False
section
variable{P:Program}{w:World}{H:Hp}{h h':Heap}{x e:Addr}{o':HO}
theorem HOk.write(ok:HOk P w H h)(i:Mut (H x))(l:e=x\/H e=some (.own x))(k:∀ b u,b≠e->h.get? b=some u->h'.get? b=some u)(o:∃ u,h'.get? e=some u)
  (new:g8 P w (upd H x o') h' x o'):HOk P w (upd H x o') h':=fun b u q=>by
 have j:∀ c y,H c=some (.own y)->c≠x:=fun c y r a=>by subst a;rw[r] at i;exact i
 have n:∀ c xs,H c=some (.tup xs)->c≠x:=fun c xs r a=>by subst a;rw[r] at i;exact i
 by_cases d:b=x
 ·subst d;rw[aC] at q;cases q;exact new
 ·rw[aN d] at q;by_cases f:b=e
  ·have m:H b=some (.own x):=by
    rcases l with a|a
    ·exact absurd (f.trans a) d
    ·rw[f];exact a
   rw[q] at m;cases m;obtain⟨v,p⟩:=o;exact⟨v,by rw[f];exact p⟩
  ·refine(ok b u q).stay (fun c v g r=>k c v ?_ r) (fun c r=>by rw[aN (j c b r)];exact r) fun c xs r=>by rw[aN (n c xs r)];exact r
   rcases g with rfl|g
   ·exact f
   ·rintro rfl;rcases l with a|a
    ·exact j c b g a
    ·rw[g] at a;cases a;exact d rfl
end
structure Un(fs ex:List Addr)(H H':Hp)(h h':Heap):Prop where
 keep:∀ b o,h.get? b=some o->H b=none->b∉fs->b∉ex->h'.get? b=some o
 slot:∀ b o,h.get? b=some o->H b=none->b∈fs->b∉ex->∃ sl,h'.get? b=some { o with slots:=sl }
 free:∀ b o,h.get? b=some o->H b=none->b∉ex->H' b=none
 there:∀ b o,h.get? b=some o->b∉ex->∃ o',h'.get? b=some o'
 tups:∀ b xs,H b=some (.tup xs)->H' b=some (.tup xs)
 pZ:∀ b o u,H b=some (.frz o u)->H' b=some (.frz o u)
 qJ:∀ b ps,H b=some (.tbl ps)->∃ more,H' b=some (.tbl (ps++more))
section
variable{fs fs' ex ex':List Addr}{H H1 H2:Hp}{h h1 h2 h':Heap}{a x e:Addr}{o:HO}
theorem Un.any(u:Un fs ex H H1 h h1){b:Addr}{ob:Obj}(q:h.get? b=some ob)(n:H b=none)(c:b∉ex):∃ d,h1.get? b=some { ob with slots:=d }:=by
 by_cases a:b∈fs
 ·exact u.slot b ob q n a c
 ·exact⟨ob.slots,u.keep b ob q n a c⟩
theorem Un.trans(a:Un fs ex H H1 h h1)(b:Un fs ex H1 H2 h1 h2):Un fs ex H H2 h h2 where
 keep:=fun c e q n g d=>b.keep c e (a.keep c e q n g d) (a.free c e q n d) g d
 slot:=fun c e q n g d=>by
  obtain⟨m,f⟩:=a.slot c e q n g d;obtain⟨l,i⟩:=b.slot c _ f (a.free c e q n d) g d;exact⟨l,i⟩
 free:=fun c e q n d=>by
  obtain⟨o',f⟩:=a.there c e q d;exact b.free c o' f (a.free c e q n d) d
 there:=fun c e q d=>by
  obtain⟨o',f⟩:=a.there c e q d;exact b.there c o' f d
 tups:=fun c xs q=>b.tups c xs (a.tups c xs q)
 pZ:=fun c e xs q=>b.pZ c e xs (a.pZ c e xs q)
 qJ:=fun c ps q=>by
  obtain⟨j,f⟩:=a.qJ c ps q;obtain⟨k,i⟩:=b.qJ c _ f;exact⟨j++k,by rw[i,a01]⟩
theorem Un.kept(k:∀ b u,h.get? b=some u->h'.get? b=some u):Un fs ex H H h h':=
 ⟨fun b a q _ _ _=>k b a q,fun b a q _ _ _=>⟨a.slots,k b a q⟩,fun _ _ _ n _=>n,fun b a q _=>⟨a,k b a q⟩,fun _ _ q=>q,fun _ _ _ q=>q,fun _ ps q=>⟨#[],by rw[q];simp⟩⟩
theorem Un.refl:Un fs ex H H h h:=Un.kept fun _ _ q=>q
theorem Un.laid(k:∀ b u,h.get? b=some u->h'.get? b=some u)(d:h.objs.size<=a)(c:H a=none):Un fs ex H (upd H a o) h h' where
 keep:=fun b u q _ _ _=>k b u q
 slot:=fun b u q _ _ _=>⟨u.slots,k b u q⟩
 free:=fun b u q n _=>by rw[aN (gR (jH (bZ q) d))];exact n
 there:=fun b u q _=>⟨u,k b u q⟩
 tups:=fun b xs q=>by rw[aN (aR q c)];exact q
 pZ:=fun b u xs q=>by rw[aN (aR q c)];exact q
 qJ:=fun b ps q=>⟨#[],by rw[aN (aR q c),q];simp⟩
theorem Un.write(c:Mut (H x))(j:e=x\/H e=some (.own x))(k:∀ b u,b≠e->h.get? b=some u->h'.get? b=some u)(l:∃ u,h'.get? e=some u):Un fs ex H (upd H x o) h h':=by
 have i:∀ b,H b=none->b≠x:=fun b n a=>by subst a;rw[n] at c;exact c
 have f:∀ b,H b=none->b≠e:=fun b n a=>by
  subst a;rcases j with r|r
  ·exact i b n r
  ·rw[n] at r;cases r
 have d:∀ b u,H b=some u->¬Mut (some u)->b≠x:=fun b u q m a=>by subst a;rw[q] at c;exact m c
 refine⟨fun b u q n _ _=>k b u (f b n) q,fun b u q n _ _=>⟨u.slots,k b u (f b n) q⟩,fun b u q n _=>by rw[aN (i b n)];exact n,fun b u q _=>?_,
  fun b xs q=>by rw[aN (d b _ q fun a=>a)];exact q,fun b u xs q=>by rw[aN (d b _ q fun a=>a)];exact q,fun b ps q=>⟨#[],by rw[aN (d b _ q fun a=>a),q];simp⟩⟩
 by_cases g:b=e
 ·subst g;exact l
 ·exact⟨u,k b u g q⟩
theorem Un.mono(u:Un fs ex H H1 h h1)(g:∀ b∈fs,b∈fs')(e:∀ b∈ex,b∈ex'):Un fs' ex' H H1 h h1:=
 ⟨fun b d q n f c=>u.keep b d q n (fun a=>f (g b a)) fun a=>c (e b a),fun _ _ q n _ c=>u.any q n fun a=>c (e _ a),fun b d q n c=>u.free b d q n fun a=>c (e b a),fun b d q c=>u.there b d q fun a=>c (e b a),u.tups,u.pZ,u.qJ⟩
end
def trk(h:Heap)(H:Hp):List Addr:=(List.range h.objs.size).filter fun a=>(H a).isSome
def Gk(h:Heap)(H:Hp):Heap:=PySem.W.hideAll h (trk h H)
theorem Uo(h:Heap)(H:Hp):(Gk h H).objs.size=h.objs.size:=PySem.W.hideAll_size _ _
theorem Wu{h:Heap}{H:Hp}{b:Addr}{o:Obj}(e:h.get? b=some o)(n:H b=none):(Gk h H).get? b=some o:=
 ZV _ e fun a=>by
  have q:(H b).isSome=true:=(cF.mp a).2;rw[n] at q;simp at q
theorem a0O{h:Heap}{H:Hp}{b:Addr}{o:Obj}(e:(Gk h H).get? b=some o):h.get? b=some o/\H b=none:=by
 have a:h.get? b=some o:=a02 (trk h H) e;refine⟨a,?_⟩;cases q:H b with
 |none=>rfl
 |some x=>
  have c:b∈trk h H:=cF.mpr ⟨dO.mpr (bZ a),by simp[q]⟩;have d:(Gk h H).get? b=none:=PySem.W.hideAll_none (trk h H) c;rw[d] at e;cases e
structure Mod(K:ao)(mg:Str->Option Value)(base:Heap):Prop where
 kin:K.In base
 glob:base.Ns mainGlobals mg
 blt:∃ mb,base.Ns builtinsNs mb/\∀ x:Str,x ≠ "__name__" -> mb x=bootBuiltins x
 nolimit:base.NoLimit
structure Cx where
 prog:Program
 w:World
 K:ao
 mg:Str->Option Value
 base:Heap
 A:Around
 N:List Str
 s₀:Shared
 H₀:Hp
 env:Env
 outer:List Env
 stack:List Env
 ex:List Addr
 fn:Str->Bool
 calm:Bool
 pn:List (Addr×Obj)
 xe:Value->Shared->Prop
def frs(l:List Env):List Addr:=l.filterMap (·.frame)
abbrev Cx.fs(X:Cx):List Addr:=frs X.outer
def Vis(sc:Scope)(x:Str):Prop:=sc.names.lookup x=some .local\/sc.names.lookup x=some .cell\/sc.names.lookup x=some .free
def Loc(sc:Scope)(x:Str):Prop:=sc.names.lookup x=some .local\/sc.names.lookup x=some .cell
def Look(env:Env)(h:Heap)(m:Str->Option Value)(x:Str)(u:Value):Prop:=
 (env.kindOf x=some .local/\m x=some u)\/((env.kindOf x=some .cell\/env.kindOf x=some .free)/\∃ c,env.cells.lookup x=some c/\h.IsCell c (some u))
structure Cx.Ok(X:Cx):Prop where
 mod:Mod X.K X.mg X.base
 kind:X.env.scope.kind=.function
 glob:X.env.globals=mainGlobals
 blt:X.env.builtins=builtinsNs
 above:X.s₀.heap.objs.size<=X.env.locals
 inj:∀ x y c,X.env.cells.lookup x=some c->X.env.cells.lookup y=some c->x=y
 has:∀ x,(X.env.kindOf x=some .cell\/X.env.kindOf x=some .free)->∃ c,X.env.cells.lookup x=some c
 cab:∀ x c,X.fn x=true->X.env.cells.lookup x=some c->X.s₀.heap.objs.size<=c
 hd:X.calm=true->X.A.handled=none
 frames:X.A.frames=some X.stack
 stk:X.stack=X.outer\/(X.stack=X.env::X.outer/\X.env.frame=some X.env.locals)
 exf:∀ b∈X.ex,b≠X.env.locals/\∀ x c,X.env.cells.lookup x=some c->c≠b
 bs:∀ b o,X.base.get? b=some o->X.s₀.heap.get? b=some o/\X.H₀ b=none
 bsz:X.base.objs.size<=X.s₀.heap.objs.size
 JD:∀ b o,X.base.get? b=some o->b∉X.ex
 LK:∀ b∈X.ex,b∉X.fs
 qX:X.s₀.heap.FunFrames X.base X.outer
 frf:∀ b∈X.fs,X.H₀ b=none
structure Inv(X:Cx)(pins:List (Addr×Obj))(zzs:List (Option V))(H:Hp)(s:Shared):Prop where
 ok:X.Ok
 os:s.os=X.s₀.os
 bare:AllBare s.gens
 base:Un X.fs X.ex X.H₀ H X.s₀.heap s.heap
 loc:∃ m,s.heap.Ns X.env.locals m/\∀(i:Nat)(x:Str)(v:V),X.N[i]?=some x->zzs[i]?=some (some v)->Vis X.env.scope x->∃ u,RelV v u/\Look X.env s.heap m x u
 cell:∀ x c,X.env.cells.lookup x=some c->∃ v,s.heap.IsCell c v
 free:H X.env.locals=none
 jO:∀ x c,X.env.cells.lookup x=some c->H c=none
 pin:∀ p∈X.pn++pins,s.heap.get? p.1=some p.2/\H p.1=none/\p.1≠X.env.locals/\p.1∉X.fs/\∀ v,p.2.data≠.cell v
 hok:HOk X.prog X.w H s.heap
 len:zzs.length=X.N.length
section
variable{X:Cx}{pins:List (Addr×Obj)}{zzs:List (Option V)}{H H':Hp}{s:Shared}{h':Heap}
theorem Cx.Ok.a6m(ok:X.Ok){b:Addr}{o:Obj}(e:X.base.get? b=some o):b∉X.fs:=fun a=>by
 have:=(ok.qX.mem a).1;rw[e] at this;cases this
theorem Inv.bs(I:Inv X pins zzs H s):∀ b o,X.base.get? b=some o->s.heap.get? b=some o/\H b=none:=fun b o e=>
 ⟨I.base.keep b o (I.ok.bs b o e).1 (I.ok.bs b o e).2 (I.ok.a6m e) (I.ok.JD b o e),I.base.free b o (I.ok.bs b o e).1 (I.ok.bs b o e).2 (I.ok.JD b o e)⟩
theorem Inv.bk(I:Inv X pins zzs H s):∀ b o,X.base.get? b=some o->s.heap.get? b=some o:=fun b o e=>(I.bs b o e).1
theorem Inv.mod(I:Inv X pins zzs H s):Mod X.K X.mg X.base:=I.ok.mod
theorem Inv.kIn(I:Inv X pins zzs H s):X.K.In s.heap:=I.ok.mod.kin.keeps I.bk
theorem Inv.lt(I:Inv X pins zzs H s):X.env.locals<s.heap.objs.size:=let ⟨_,hn,_⟩:=I.loc;hn.lt
theorem Inv.sz(I:Inv X pins zzs H s):X.s₀.heap.objs.size<=s.heap.objs.size:=dU I.ok.above (Ie I.lt)
theorem Inv.a6n(I:Inv X pins zzs H s){a:Addr}(h:s.heap.objs.size<=a):a∉X.fs:=fun b=>by
 obtain⟨_,o,c,_⟩:=I.ok.qX.mem b;exact absurd (jH (bZ c) (dU I.sz h)) (rZ _)
theorem Inv.cne(I:Inv X pins zzs H s):∀ x c,X.env.cells.lookup x=some c->c≠X.env.locals:=fun x c e g=>by
 obtain⟨v,o,b,a⟩:=I.cell x c e;obtain⟨m,⟨o',es,h,f,d,_⟩,_⟩:=I.loc;rw[g,f] at b;cases b;rw[d] at a;cases a
theorem Inv.qX(I:Inv X pins zzs H s):s.heap.FunFrames X.base X.outer:=by
 have all:∀(l:List Env),(∀ b∈frs l,b∈X.fs)->X.s₀.heap.FunFrames X.base l->s.heap.FunFrames X.base l:=by
  intro l
  induction l with
  |nil=>intro _ _;trivial
  |cons q r n=>
   intro f i;obtain⟨h,⟨L,o,d,j,k,g⟩,m⟩:=i;have a:L∈X.fs:=f L (by unfold frs;rw[Oo,d];exact cV);obtain⟨t,e⟩:=I.base.slot L o k (I.ok.frf L a) a fun p=>I.ok.LK L p a
   exact⟨h,⟨L,_,d,j,e,g⟩,n (fun b c=>f b (by unfold frs;rw[Oo,d];exact eO _ c)) m⟩
 exact all X.outer (fun _ c=>c) I.ok.qX
theorem Inv.stack(I:Inv X pins zzs H s):s.heap.FunFrames X.base X.stack:=by
 rcases I.ok.stk with e|⟨e,a⟩
 ·rw[e];exact I.qX
 ·rw[e];obtain⟨m,b,_⟩:=I.loc;refine .cons (by rw[I.ok.kind];decide) a b ?_ I.qX;exact Heap.get?_none_of_le (dU I.ok.bsz I.ok.above)
theorem Inv.uF(I:Inv X pins zzs H s):∀ b∈frs X.stack,b∈X.env.locals::X.fs:=fun b a=>by
 rcases I.ok.stk with e|⟨e,c⟩
 ·rw[e] at a;exact eO _ a
 ·rw[e] at a;unfold frs at a;rw[Oo,c] at a;exact a
theorem Inv.vO(I:Inv X pins zzs H s):∀ b∈frs X.stack,H b=none:=fun b a=>by
 rcases cZ.mp (I.uF b a) with e|a
 ·rw[e];exact I.free
 ·obtain⟨_,o,c,_⟩:=I.ok.qX.mem a;exact I.base.free b o c (I.ok.frf b a) fun d=>I.ok.LK b d a
theorem Inv.step{g':Array GenState}{t':Nat}{d':Drawn}{ch:List Addr}(I:Inv X pins zzs H s)
  (y:∀ b∈ch,(b∈X.ex\/X.s₀.heap.objs.size<=b)/\b≠X.env.locals/\(∀ x c,X.env.cells.lookup x=some c->c≠b)/\∀ p∈X.pn++pins,p.1≠b)
  (keep:∀ b o,b≠X.env.locals->b∉X.fs->b∉ch->s.heap.get? b=some o->H b=none->h'.get? b=some o)
  (N:∀ b o,b≠X.env.locals->b∈X.fs->b∉ch->s.heap.get? b=some o->H b=none->∃ E,h'.get? b=some { o with slots:=E }) (free:∀ b o,b∉ch->s.heap.get? b=some o->H b=none->H' b=none)
  (there:∀ b o,b∉ch->s.heap.get? b=some o->∃ A,h'.get? b=some A)
  (ab:∀ b xs,H b=some (.tup xs)->H' b=some (.tup xs)) (Y:∀ b o u,H b=some (.frz o u)->H' b=some (.frz o u)) (Z:∀ b C,H b=some (.tbl C)->∃ more,H' b=some (.tbl (C++more)))
  (W:∀ m,s.heap.Ns X.env.locals m->h'.Ns X.env.locals m) (S:HOk X.prog X.w H' h') (P:AllBare g') :
  Inv X pins zzs H' { s with heap:=h',gens:=g',drawn:=d',toks:=t' }:=by
 have L:∀ b o,X.s₀.heap.get? b=some o->b≠X.env.locals:=fun b o e=>gR (jH (bZ e) I.ok.above)
 have B:∀ b o,X.s₀.heap.get? b=some o->b∉X.ex->b∉ch:=fun b o e a h=>by
  rcases(y b h).1 with f|f
  ·exact a f
  ·exact absurd (jH (bZ e) f) (rZ _)
 have F:∀ x c,X.env.cells.lookup x=some c->∀ v,s.heap.IsCell c v->h'.IsCell c v:=fun x c e v ⟨o,j,D⟩=>by
  have z:c∉ch:=fun f=>(y c f).2.2.1 x c e rfl
  by_cases G:c∈X.fs
  ·obtain⟨E,q⟩:=N c o (I.cne x c e) G z j (I.jO x c e);exact⟨_,q,D⟩
  ·exact⟨o,keep c o (I.cne x c e) G z j (I.jO x c e),D⟩
 refine⟨I.ok,I.os,P,⟨fun b o e n h a=>?_,fun b o e n h a=>?_,fun b o e n a=>?_,fun b o e a=>?_,fun b xs e=>ab b xs (I.base.tups b xs e),fun b o xs e=>Y b o xs (I.base.pZ b o xs e),fun b C e=>?_⟩,?_,fun x c e=>?_,?_,fun x c e=>?_,fun p J=>?_,S,I.len⟩
 ·exact keep b o (L b o e) h (B b o e a) (I.base.keep b o e n h a) (I.base.free b o e n a)
 ·obtain⟨E,g⟩:=I.base.slot b o e n h a;obtain⟨aa,t⟩:=N b _ (L b o e) h (B b o e a) g (I.base.free b o e n a);exact⟨aa,t⟩
 ·obtain⟨A,g⟩:=I.base.there b o e a;exact free b A (B b o e a) g (I.base.free b o e n a)
 ·obtain⟨A,g⟩:=I.base.there b o e a;exact there b A (B b o e a) g
 ·obtain⟨T,g⟩:=I.base.qJ b C e;obtain⟨U,t⟩:=Z b _ g;exact⟨T++U,by rw[t,a01]⟩
 ·obtain⟨m,R,Q⟩:=I.loc;refine⟨m,W m R,fun i x v g t O=>?_⟩;obtain⟨u,r,l⟩:=Q i x v g t O;refine⟨u,r,?_⟩;rcases l with l|⟨k,c,e,f⟩
  ·exact .inl l
  ·exact .inr ⟨k,c,e,F x c e _ f⟩
 ·obtain⟨v,f⟩:=I.cell x c e;exact⟨v,F x c e v f⟩
 ·obtain⟨m,⟨o,_,_,j,_⟩,_⟩:=I.loc;exact free _ o (fun f=>(y _ f).2.1 rfl) j I.free
 ·obtain⟨v,o,j,D⟩:=I.cell x c e;exact free c o (fun f=>(y c f).2.2.1 x c e rfl) j (I.jO x c e)
 ·obtain⟨e,n,K,M,d⟩:=I.pin p J;have z:p.1∉ch:=fun f=>(y p.1 f).2.2.2 p J rfl
  exact⟨keep p.1 p.2 K M z e n,free p.1 p.2 z e n,K,M,d⟩
theorem Inv.un{t':Nat}(I:Inv X pins zzs H s)(u:Un X.fs [] H H' s.heap h')(j:HOk X.prog X.w H' h'):Inv X pins zzs H' { s with heap:=h',toks:=t' }:=by
 obtain⟨m,⟨o,es,p,c,r⟩,_⟩:=id I.loc;obtain⟨t,h⟩:=u.any c I.free (by simp);exact I.step (g':=s.gens) (d':=s.drawn) (ch:=[]) (fun _ l=>nomatch l) (fun b o _ a _ e n=>u.keep b o e n a (by simp)) (fun b o _ a _ e n=>u.slot b o e n a (by simp)) (fun b o _ e n=>u.free b o e n (by simp)) (fun b o _ e=>u.there b o e (by simp)) u.tups u.pZ u.qJ (fun q i=>by
  obtain⟨o',g,f,d,k⟩:=i;rw[c] at d;cases d;exact⟨_,g,f,h,k⟩) j I.bare
theorem Inv.call{g':Array GenState}{t':Nat}{d':Drawn}{ch:List Addr}(I:Inv X pins zzs H s)(u:Un (frs X.stack) ch H H' s.heap h')(v:HOk X.prog X.w H' h')(q:AllBare g')
  (g:∀ b∈ch,(b∈X.ex\/X.s₀.heap.objs.size<=b)/\b≠X.env.locals/\(∀ x c,X.env.cells.lookup x=some c->c≠b)/\∀ p∈X.pn++pins,p.1≠b) :
  Inv X pins zzs H' { s with heap:=h',gens:=g',drawn:=d',toks:=t' }:=by
 obtain⟨m,⟨o,es,z,h,r⟩,_⟩:=id I.loc;obtain⟨B,d⟩:=u.any h I.free fun f=>(g _ f).2.1 rfl
 exact I.step (ch:=ch) g (fun b o d l a e n=>u.keep b o e n (fun f=>(cZ.mp (I.uF b f)).elim d l) a) (fun b o _ _ a e n=>u.any e n a) (fun b o a e n=>u.free b o e n a) (fun b o a e=>u.there b o e a) u.tups u.pZ u.qJ (fun A t=>by
  obtain⟨o',k,j,i,y⟩:=t;rw[h] at i;cases i;exact⟨_,k,j,d,y⟩) v q
theorem Inv.turned{t':Nat}{d:Addr}(I:Inv X pins zzs H s)(k:∀ b o,b≠d->s.heap.get? b=some o->h'.get? b=some o)(z:H d=none)(g:d≠X.env.locals)
  (j:d∈X.ex\/X.s₀.heap.objs.size<=d) (l:∀ x c,X.env.cells.lookup x=some c->c≠d) (t:∀ p∈X.pn++pins,p.1≠d):Inv X pins zzs H { s with heap:=h',toks:=t' }:=by
 have h:∀ b u,H b=some u->b≠d:=fun b u e a=>by rw[a,z] at e;cases e
 refine I.step (g':=s.gens) (d':=s.drawn) (ch:=[d]) (fun b w=>?_) (fun b o _ _ f e _=>k b o (fun a=>f (by simp[a])) e) (fun b o _ _ f e _=>⟨o.slots,k b o (fun a=>f (by simp[a])) e⟩) (fun _ _ _ _ n=>n)
  (fun b o f e=>⟨o,k b o (fun a=>f (by simp[a])) e⟩) (fun _ _ e=>e) (fun _ _ _ e=>e) (fun b ps e=>⟨#[],by rw[e];simp⟩) (fun m y=>?_) (fun b u e=>?_) I.bare
 ·have e:b=d:=by simpa using w
  subst e;exact⟨j,g,l,t⟩
 ·obtain⟨o,es,i,A,r⟩:=y;exact⟨o,es,i,k _ o (kI g) A,r⟩
 ·refine(I.hok b u e).stay (fun c v f q=>k c v ?_ q) (fun _ q=>q) fun _ _ q=>q
  rcases f with a|a
  ·rw[a];exact h b u e
  ·exact h c _ a
theorem Inv.tok(I:Inv X pins zzs H s)(t:Nat):Inv X pins zzs H { s with toks:=t }:=I.un (h':=s.heap) (t':=t) Un.refl I.hok
theorem Inv.kept{t':Nat}(I:Inv X pins zzs H s)(k:∀ b u,s.heap.get? b=some u->h'.get? b=some u):Inv X pins zzs H { s with heap:=h',toks:=t' }:=I.un (Un.kept k) (I.hok.kept k)
theorem Inv.laid{a:Addr}{o:HO}{t':Nat}(I:Inv X pins zzs H s)(k:∀ b u,s.heap.get? b=some u->h'.get? b=some u)(c:s.heap.objs.size<=a)(new:g8 X.prog X.w (upd H a o) h' a o) :
  Inv X pins zzs (upd H a o) { s with heap:=h',toks:=t' }:=I.un (Un.laid k c (I.hok.fresh c)) (I.hok.laid k c new)
theorem Inv.write{x e:Addr}{o:HO}{t':Nat}(I:Inv X pins zzs H s)(d:Mut (H x))(a:e=x\/H e=some (.own x))(k:∀ b u,b≠e->s.heap.get? b=some u->h'.get? b=some u)(c:∃ u,h'.get? e=some u)
  (new:g8 X.prog X.w (upd H x o) h' x o):Inv X pins zzs (upd H x o) { s with heap:=h',toks:=t' }:=I.un (Un.write d a k c) (I.hok.write d a k c new)
theorem Inv.vp{a:List (Addr×Obj)}(I:Inv X pins zzs H s)(h:∀ p∈a,s.heap.get? p.1=some p.2/\H p.1=none/\p.1≠X.env.locals/\p.1∉X.fs/\∀ v,p.2.data≠.cell v):Inv X a zzs H s:=
 ⟨I.ok,I.os,I.bare,I.base,I.loc,I.cell,I.free,I.jO,fun p b=>(cG.mp b).elim (fun c=>I.pin p (gP _ c)) (h p),I.hok,I.len⟩
theorem JC{N:List Str}(e:N.Nodup){i j:Nat}{x:Str}(a:N[i]?=some x)(b:N[j]?=some x):i=j:=by
 obtain⟨h1,c⟩:=lR.mp a;obtain⟨h2,d⟩:=lR.mp b;exact(List.getElem_inj e).mp (c.trans d.symm)
theorem Fp{M:Model}{A:Around}{ai:Value->Shared->Prop}{i:Nat}{x:Str}{v:V}{u:Value}{Q:Unit->Shared->Prop}(I:Inv X pins zzs H s)(ab:X.N.Nodup)(F:X.N[i]?=some x)(t:Loc X.env.scope x)(r:RelV v u)
  (h:∀ U,Inv X pins (zzs.set i (some v)) H U->(∃ a,Heap.SameBut a s.heap U.heap/\(a=X.env.locals\/X.env.cells.lookup x=some a))->Q () U) (am:X.fn x=true\/X.env.scope.names.lookup x=some .local:=by first|exact .inl rfl|exact .inr rfl|assumption):wpAny M A (storeName X.env x u) Q ai s:=by
 obtain⟨m,P,af⟩:=id I.loc;have al:(X.env.scope.kind==.class||(X.env.scope.kind==.module&&X.env.locals != X.env.globals))=false:=by rw[I.ok.kind];rfl
 have aa:i<zzs.length:=by rw[I.len];exact(lR.mp F).1
 have cne:=I.cne;have ah:∀ {a:Addr} {h':Heap},(∃ o,s.heap.get? a=some o/\H a=none)->Heap.SameBut a s.heap h'->HOk X.prog X.w H h':=fun {a h'} ak f b aq e=>by
  obtain⟨_,_,ae⟩:=ak;refine(I.hok b aq e).stay (fun c K l q=>(f.2 c ?_).trans q) (fun _ q=>q) fun _ _ q=>q
  rintro rfl;rcases l with rfl|l
  ·rw[ae] at e;cases e
  ·rw[ae] at l;cases l
 rcases t with C|C
 ·refine wpAny_storeName_local C P (fun h' an f=>?_) al;obtain⟨ap,_,_,ao,_⟩:=id P;refine h _ ⟨I.ok,I.os,I.bare,⟨fun b o e n D t=>?_,fun b o e n D t=>?_,I.base.free,fun b o e t=>?_,I.base.tups,I.base.pZ,I.base.qJ⟩,⟨_,an,fun j y Z g B L=>?_⟩,fun y c e=>?_,I.free,I.jO,fun p R=>?_,ah ⟨ap,ao,I.free⟩ f,by simpa using I.len⟩ ⟨_,f,.inl rfl⟩
  ·exact(f.2 b (gR (jH (bZ e) I.ok.above))).trans (I.base.keep b o e n D t)
  ·obtain⟨W,g⟩:=I.base.slot b o e n D t;exact⟨W,(f.2 b (gR (jH (bZ e) I.ok.above))).trans g⟩
  ·obtain⟨o',g⟩:=I.base.there b o e t;exact⟨o',(f.2 b (gR (jH (bZ e) I.ok.above))).trans g⟩
  ·by_cases E:j=i
   ·subst E;rw[F] at g;cases g;rw[Ho aa] at B;cases B;exact⟨u,r,.inl ⟨C,by simp⟩⟩
   ·rw[ZP (kI E)] at B;obtain⟨Y,T,q⟩:=af j y Z g B L;refine⟨Y,T,?_⟩;rcases q with⟨k,e⟩|⟨k,c,e,z⟩
    ·refine .inl ⟨k,?_⟩;have:y≠x:=fun e=>E (JC ab g (e▸F))
     simp[this,e]
    ·exact .inr ⟨k,c,e,z.sameBut f (cne y c e)⟩
  ·obtain⟨K,z⟩:=I.cell y c e;exact⟨K,z.sameBut f (cne y c e)⟩
  ·obtain⟨e,n,J,S,d⟩:=I.pin p R;exact⟨(f.2 p.1 J).trans e,n,J,S,d⟩
 ·have O:X.fn x=true:=by
   rcases am with z|z
   ·exact z
   ·rw[z] at C;cases C
  obtain⟨c,l⟩:=I.ok.has x (.inl C);obtain⟨K,z⟩:=I.cell x c l;refine wpAny_storeName_cell I.ok.kind C l z (fun h' ac f=>?_);obtain⟨oc,ag,aj⟩:=id z;refine h { s with heap:=h' } ⟨I.ok,I.os,I.bare,⟨fun b o e n D t=>?_,fun b o e n D t=>?_,I.base.free,fun b o e t=>?_,I.base.tups,I.base.pZ,I.base.qJ⟩,⟨m,P.sameBut f (kI (cne x c l)),fun j y Z g B L=>?_⟩,fun y G e=>?_,I.free,I.jO,fun p R=>?_,ah ⟨oc,ag,I.jO x c l⟩ f,by simpa using I.len⟩ ⟨c,f,.inr l⟩
  ·exact(f.2 b (gR (jH (bZ e) (I.ok.cab x c O l)))).trans (I.base.keep b o e n D t)
  ·obtain⟨W,g⟩:=I.base.slot b o e n D t;exact⟨W,(f.2 b (gR (jH (bZ e) (I.ok.cab x c O l)))).trans g⟩
  ·obtain⟨o',g⟩:=I.base.there b o e t;exact⟨o',(f.2 b (gR (jH (bZ e) (I.ok.cab x c O l)))).trans g⟩
  ·by_cases E:j=i
   ·subst E;rw[F] at g;cases g;rw[Ho aa] at B;cases B;exact⟨u,r,.inr ⟨.inl C,c,l,ac⟩⟩
   ·rw[ZP (kI E)] at B;obtain⟨Y,T,q⟩:=af j y Z g B L;refine⟨Y,T,?_⟩;rcases q with q|⟨k,G,e,au⟩
    ·exact .inl q
    ·refine .inr ⟨k,G,e,au.sameBut f ?_⟩;rintro rfl;exact E (JC ab g (I.ok.inj _ _ _ e l▸F))
  ·by_cases ad:G=c
   ·subst ad;exact⟨_,ac⟩
   ·obtain⟨as,av⟩:=I.cell y G e;exact⟨as,av.sameBut f ad⟩
  ·obtain⟨e,n,J,S,d⟩:=I.pin p R;refine⟨(f.2 p.1 ?_).trans e,n,J,S,d⟩;intro q;rw[q,ag] at e;have ar:oc=p.2:=iy e;exact d K (by rw[<- ar];exact aj)
theorem vP{M:Model}{A:Around}{b:Value->Shared->Prop}{i:Nat}{x:Str}{v:V}{u:Value}{Q:Unit->Shared->Prop}(I:Inv X pins zzs H s)(d:X.N.Nodup)(f:X.N[i]?=some x)(g:Loc X.env.scope x)(r:RelV v u)
  (h:∀ a,Inv X pins (zzs.set i (some v)) H a->Q () a) (e:X.fn x=true\/X.env.scope.names.lookup x=some .local:=by first|exact .inl rfl|exact .inr rfl|assumption):wpAny M A (storeName X.env x u) Q b s:=
 Fp I d f g r (fun a c _=>h a c) e
theorem Inv.call'{a:Shared}{ch:List Addr}(I:Inv X pins zzs H s)(i:a.os=s.os)(u:Un (frs X.stack) ch H H' s.heap a.heap)(j:HOk X.prog X.w H' a.heap)(h:AllBare a.gens)
  (g:∀ b∈ch,(b∈X.ex\/X.s₀.heap.objs.size<=b)/\b≠X.env.locals/\(∀ x c,X.env.cells.lookup x=some c->c≠b)/\∀ p∈X.pn++pins,p.1≠b):Inv X pins zzs H' a:=by
 obtain⟨h',f,d,k,o'⟩:=a;have e:o'=s.os:=i;subst e;exact I.call (g':=f) (t':=k) (d':=d) u j h g
end
abbrev XK:=Value->Option Addr->Hp->Prop
abbrev St:=List (Option V)
abbrev VK:=V->Hp->Prop
abbrev TE:=St->Hp->VK->Prop
abbrev TT:=St->Hp->(Bool->Hp->Prop)->Prop
abbrev TA:=St->Hp->(List V->Hp->Prop)->Prop
structure Ends where
 nx:St->Hp->Prop
 rt:VK
 bk:St->Hp->Prop:=fun _ _=>False
 ct:St->Hp->Prop:=fun _ _=>False
abbrev TS:=Ends->St->Hp->Prop
def EP(X:Cx)(pins:List (Addr×Obj))(zzs:St)(Q:VK)(u:Value)(s':Shared):Prop:=∃ v H',Inv X pins zzs H' s'/\RelV v u/\Q v H'
def TP(X:Cx)(pins:List (Addr×Obj))(zzs:St)(Q:Bool->Hp->Prop)(b:Bool)(s':Shared):Prop:=∃ H',Inv X pins zzs H' s'/\Q b H'
def AP(X:Cx)(pins:List (Addr×Obj))(zzs:St)(Q:List V->Hp->Prop)(us:List Value)(s':Shared):Prop:=∃ vs H',Inv X pins zzs H' s'/\Vals vs us/\Q vs H'
def SP(X:Cx)(pins:List (Addr×Obj))(D:Ends)(f:Flow)(s':Shared):Prop:=
 match f with
 |.next=>∃ bI H',Inv X pins bI H' s'/\D.nx bI H'
 |.brk=>∃ bI H',Inv X pins bI H' s'/\D.bk bI H'
 |.cont=>∃ bI H',Inv X pins bI H' s'/\D.ct bI H'
 |.ret u=>∃ v bI H',Inv X pins bI H' s'/\RelV v u/\D.rt v H'
def PE(X:Cx)(e:Expr)(t:TE):Prop:=
 ∀(pins:List (Addr×Obj))(s:Shared)(zzs:St)(H:Hp)(Q:VK),Inv X pins zzs H s->t zzs H Q->wpAny (model X.prog X.w) X.A (eval e X.env) (EP X pins zzs Q) X.xe s
def PT(X:Cx)(e:Expr)(t:TT):Prop:=
 ∀(pins:List (Addr×Obj))(s:Shared)(zzs:St)(H:Hp)(Q:Bool->Hp->Prop),Inv X pins zzs H s->t zzs H Q->wpAny (model X.prog X.w) X.A (isTrue e X.env (eval e X.env)) (TP X pins zzs Q) X.xe s
def PW(X:Cx)(e:Expr)(t:TT):Prop:=
 ∀(whole:Sem Value)(pins:List (Addr×Obj))(s:Shared)(zzs:St)(H:Hp)(Q:Bool->Hp->Prop),Inv X pins zzs H s->t zzs H Q->wpAny (model X.prog X.w) X.A (isTrue e X.env whole) (TP X pins zzs Q) X.xe s
theorem PW.pt{X:Cx}{e:Expr}{t:TT}(h:PW X e t):PT X e t:=h _
def PA(X:Cx)(es:List Expr)(t:TA):Prop:=
 ∀(pos:Pos)(pins:List (Addr×Obj))(s:Shared)(zzs:St)(H:Hp)(Q:List V->Hp->Prop),Inv X pins zzs H s->t zzs H Q->wpAny (model X.prog X.w) X.A (spliced (backTo pos (starEach es X.env))) (AP X pins zzs Q) X.xe s
def PS(X:Cx)(st:Stmt)(t:TS):Prop:=
 ∀(pins:List (Addr×Obj))(s:Shared)(zzs:St)(H:Hp)(D:Ends),Inv X pins zzs H s->t D zzs H->wpAny (model X.prog X.w) X.A (exec st X.env) (SP X pins D) X.xe s
def PSs(X:Cx)(st:List Stmt)(t:TS):Prop:=
 ∀(pins:List (Addr×Obj))(s:Shared)(zzs:St)(H:Hp)(D:Ends),Inv X pins zzs H s->t D zzs H->wpAny (model X.prog X.w) X.A (execs st X.env) (SP X pins D) X.xe s
theorem thn{d:Type}{t:Sem d}{Q c:d->Shared->Prop}{M:Model}{A:Around}{b:Value->Shared->Prop}{s:Shared}(h:wpAny M A t Q b s)(e:∀ a s,Q a s->c a s):wpAny M A t c b s:=jL h e fun _ _ x=>x
section
variable{X:Cx}
def a5S(i:Nat):TE:=fun zzs H Q=>∃ v,zzs[i]?=some (some v)/\Q v H
def tC(v:V):TE:=fun _ H Q=>Q v H
theorem a3T{i:Nat}{x:Str}{pos:Pos}(j:X.N[i]?=some x)(q:Vis X.env.scope x) (d:(x==("__debug__" : Str))=false:=by decide) (k:(x==("__classdict__" : Str))=false:=by decide):PE X (.Name x pos) (a5S i):=by
 intro pins s zzs H Q b h;obtain⟨v,e,h⟩:=h;obtain⟨m,p,n⟩:=b.loc;obtain⟨u,r,l⟩:=n i x v j e q;have fin:EP X pins zzs Q u s:=⟨v,H,b,r,h⟩
 rcases l with⟨a,o⟩|⟨a,c,f,g⟩
 ·exact wpAny_Name (wpAny_loadName_local b.ok.kind a p o fin) d
 ·rcases a with a|a
  ·exact wpAny_Name (wpAny_loadName_cell b.ok.kind a f g fin) d
  ·exact wpAny_Name (wpAny_loadName_free b.ok.kind a f g fin k) d
theorem a3M {i j pos}:PE X (.Constant (.int i) j pos) (tC (.int i)):=fun _ _ _ H _ a h=>wpAny_Constant_int ⟨.int i,H,a.tok _,⟨_,rfl⟩,h⟩
theorem a5g {b j pos}:PE X (.Constant (.bool b) j pos) (tC (.bl b)):=fun _ _ _ H _ a h=>Constant_bool ⟨.bl b,H,a,rfl,h⟩
theorem a3O {j pos}:PE X (.Constant .none j pos) (tC .non):=fun _ _ _ H _ a h=>Constant_none ⟨.non,H,a,rfl,h⟩
theorem a3R {x j pos}:PE X (.Constant (.str x) j pos) (tC (.str x)):=fun _ _ _ H _ a h=>Calls.Constant_str ⟨.str x,H,a.tok _,⟨_,rfl⟩,h⟩
def Gl(X:Cx)(x:Str):Prop:=X.env.kindOf x=some .globalImplicit
theorem tu{a:Value->Shared->Prop}{pins:List (Addr×Obj)}{s:Shared}{zzs:St}{H:Hp}{x:Str}{u:Value}{pos:Pos}{Q:Value->Shared->Prop}(I:Inv X pins zzs H s)(c:Gl X x)(d:X.mg x=some u)(h:Q u s)
  (b:(x==("__debug__" : Str))=false:=by decide):wpAny (model X.prog X.w) X.A (eval (.Name x pos) X.env) Q a s:=
 Zj I.ok.kind c (Calls.loadGlobal_global (by rw[I.ok.glob];exact I.mod.glob.keeps I.bk) d h) b
theorem Bd{a:Value->Shared->Prop}{pins:List (Addr×Obj)}{s:Shared}{zzs:St}{H:Hp}{x:Str}{u:Value}{pos:Pos}{Q:Value->Shared->Prop}(I:Inv X pins zzs H s)(c:Gl X x)(d:X.mg x=none)(f:bootBuiltins x=some u)(h:Q u s)
  (e:x ≠ "__name__":=by decide) (b:(x==("__debug__" : Str))=false:=by decide):wpAny (model X.prog X.w) X.A (eval (.Name x pos) X.env) Q a s:=by
 obtain⟨g,h1,h2⟩:=I.mod.blt;exact Zj I.ok.kind c (Calls.loadGlobal_builtin (by rw[I.ok.glob];exact I.mod.glob.keeps I.bk) d (by rw[I.ok.blt];exact h1.keeps I.bk) ((h2 x e).trans f) h) b
theorem Gw{x:Str}{v:V}{u:Value}{pos:Pos}(c:Gl X x)(d:X.mg x=some u)(r:RelV v u) (b:(x==("__debug__" : Str))=false:=by decide):PE X (.Name x pos) (tC v):=
 fun _ _ _ H _ a h=>tu a c d ⟨v,H,a,r,h⟩ b
theorem a1b{x:Str}{v:V}{u:Value}{pos:Pos}(c:Gl X x)(d:X.mg x=none)(f:bootBuiltins x=some u)(r:RelV v u) (e:x ≠ "__name__":=by decide) (b:(x==("__debug__" : Str))=false:=by decide):PE X (.Name x pos) (tC v):=
 fun _ _ _ H _ a h=>Bd a c d f ⟨v,H,a,r,h⟩ e b
variable{a b:Expr}{ta tb:TE}{pos:Pos}
def tB(t:TE):TT:=fun zzs H Q=>t zzs H fun x H1=>∃ c,x=.bl c/\Q c H1
theorem a4d{e:Expr}{t:TE}(h:PE X e t)(f:∀ a,isTrue e X.env a=(do let v <- a;standAt e.pos;holding [v] (truthy v)):=by intro _;rfl):PT X e (tB t):=by
 intro pins s zzs H Q b hw;refine isTrue_plain (thn (h pins s zzs H _ b hw) fun v s1 j=>?_) (f _);obtain⟨x,H1,c,i,g⟩:=j;obtain⟨d,rfl,q⟩:=g;cases i;exact vR ⟨H1,c,q⟩
variable{tA tB':TT}{rest:List Expr}
def a5K(t u:TT):TT:=fun zzs H Q=>t zzs H fun c H1=>if c=true then u zzs H1 Q else Q false H1
def tOr(t u:TT):TT:=fun zzs H Q=>t zzs H fun c H1=>if c=true then Q true H1 else u zzs H1 Q
def a5O(t:TT):TT:=fun zzs H Q=>t zzs H fun c H1=>Q (!c) H1
theorem pw_and1(d:PT X a tA):PW X (.BoolOp .And [a] pos) tA:=by
 intro f pins s zzs H Q b h;refine isTrue_and (thn (d pins s zzs H Q b h) fun c s1 e=>?_);cases c with
 |true=>exact isTrue_and_nil e
 |false=>exact e
theorem pw_or1(d:PT X a tA):PW X (.BoolOp .Or [a] pos) tA:=by
 intro f pins s zzs H Q b h;refine isTrue_or (thn (d pins s zzs H Q b h) fun c s1 e=>?_);cases c with
 |false=>exact isTrue_or_nil e
 |true=>exact e
theorem pw_and(g:PT X a tA)(i:PW X (.BoolOp .And (b::rest) pos) tB'):PW X (.BoolOp .And (a::b::rest) pos) (a5K tA tB'):=by
 intro j pins s zzs H Q f h;refine isTrue_and (thn (g pins s zzs H _ f h) fun c s1 k=>?_);obtain⟨H1,d,e⟩:=k;cases c with
 |true=>exact i j pins s1 zzs H1 Q d e
 |false=>exact⟨H1,d,e⟩
theorem pw_or(g:PT X a tA)(i:PW X (.BoolOp .Or (b::rest) pos) tB'):PW X (.BoolOp .Or (a::b::rest) pos) (tOr tA tB'):=by
 intro j pins s zzs H Q f h;refine isTrue_or (thn (g pins s zzs H _ f h) fun c s1 k=>?_);obtain⟨H1,d,e⟩:=k;cases c with
 |true=>exact⟨H1,d,e⟩
 |false=>exact i j pins s1 zzs H1 Q d e
theorem a4c(d:PT X a tA):PT X (.UnaryOp .Not a pos) (a5O tA):=by
 intro pins s zzs H Q b h;exact isTrue_not (d pins s zzs H (fun c H1=>Q (!c) H1) b h)
def a2o(ta tb:TE):TE:=fun zzs H Q=>ta zzs H fun x H1=>∃ c,x=.bl c/\if c=true then tb zzs H1 Q else Q (.bl false) H1
def a2u(ta:TE):TE:=fun zzs H Q=>ta zzs H fun x H1=>∃ c,x=.bl c/\Q (.bl (!c)) H1
theorem a3Q {op} {t:TE} (h:PE X a t):PE X (.BoolOp op [a] pos) t:=fun pins s zzs H Q b hw=>BoolOp_one (h pins s zzs H Q b hw)
theorem a3I(g:PE X a ta)(i:PE X (.BoolOp .And (b::rest) pos) tb):PE X (.BoolOp .And (a::b::rest) pos) (a2o ta tb):=by
 intro pins s zzs H Q f h;refine BoolOp_and (thn (g pins s zzs H _ f h) fun v s1 k=>?_);obtain⟨x,H1,e,j,d⟩:=k;obtain⟨c,rfl,d⟩:=d;cases j;refine vR ?_;cases c with
 |true=>exact i pins s1 zzs H1 Q e d
 |false=>exact⟨.bl false,H1,e,rfl,d⟩
theorem a3P(f:PE X a ta):PE X (.UnaryOp .Not a pos) (a2u ta):=by
 intro pins s zzs H Q d h;refine UnaryOp_ (thn (f pins s zzs H _ d h) fun v s1 i=>?_);obtain⟨x,H1,e,g,b⟩:=i;obtain⟨c,rfl,b⟩:=b;cases g;exact not_of (vR ⟨.bl (!c),H1,e,rfl,b⟩)
end
def SqL(K:ao)(H:Hp)(a:Addr)(xs:List V):Prop:=
 Rd H a (.lst xs) \/
  ∃(o:Obj)(its:Array Value)(n:Nat),K.lookup a=some o/\o.cls=.type "list" /\ o.dict=none/\o.data=.seq its n/\its.size<=sizeLine/\Vals xs its.toList
def SqT(K:ao)(H:Hp)(a:Addr)(xs:List V):Prop:=
 Rd H a (.tup xs) \/
  ∃(o:Obj)(its:Array Value)(n:Nat),K.lookup a=some o/\o.cls=.type "tuple" /\ o.data=.seq its n/\its.size<=sizeLine/\Vals xs its.toList
def a67:Value->Option V
 |.none=>some .non
 |.bool b=>some (.bl b)
 |.int i _=>some (.int i)
 |.str x _=>some (.str x)
 |.bytes b _=>some (.byt b)
 |.float b _=>some (.flt b)
 |.ref a=>some (.ref a)
 |.type n=>some (.ty n)
 |_=>none
theorem RelV.abs{x:V}{u:Value}(r:RelV x u):a67 u=some x:=by
 cases x with
 |non=>cases r;rfl
 |bl _=>cases r;rfl
 |int _=>obtain⟨t,rfl⟩:=r;rfl
 |str _=>obtain⟨t,rfl⟩:=r;rfl
 |byt _=>obtain⟨t,rfl⟩:=r;rfl
 |flt _=>obtain⟨t,rfl⟩:=r;rfl
 |ref _=>cases r;rfl
 |ty _=>cases r;rfl
theorem RelV.inj{x y:V}{u:Value}(r:RelV x u)(q:RelV y u):x=y:=iy (r.abs.symm.trans q.abs)
theorem Vals.inj:∀ {xs a:List V} {us:List Value},Vals xs us->Vals a us->xs=a:=by
 intro xs a us h
 induction h generalizing a with
 |nil=>intro h;cases h;rfl
 |cons r _ b=>intro h;cases h with|cons c d=>rw[r.inj c,b d]
section
variable{X:Cx}{pins:List (Addr×Obj)}{zzs:St}{H:Hp}{s:Shared}{a:Addr}{xs ys:List V}
theorem SqL.of{K:ao}(h:H a=some (.lst xs)):SqL K H a xs:=.inl (.inl h)
theorem SqT.of{K:ao}(h:H a=some (.tup xs)):SqT K H a xs:=.inl (.inl h)
theorem Inv.list(I:Inv X pins zzs H s)(h:SqL X.K H a xs):∃ b:List Value,Vals xs b/\PlainL s.heap a b.toArray/\xs.length<=sizeLine:=by
 rcases h with h|⟨o,b,n,f,c,d,g,j,r⟩
 ·obtain⟨i,b,n,r,e⟩:=h.ok I.hok;exact⟨b,r,⟨_,n,e,rfl,rfl,rfl⟩,i⟩
 ·refine⟨b.toList,r,⟨o,n,I.kIn a o f,c,d,by simpa using g⟩,?_⟩;have e:=r.length;simp only[nM] at e;lia
theorem Inv.tuple(I:Inv X pins zzs H s)(h:SqT X.K H a xs):∃ b:List Value,Vals xs b/\IsTup s.heap a b.toArray/\xs.length<=sizeLine:=by
 rcases h with h|⟨o,b,n,d,c,f,i,r⟩
 ·obtain⟨g,b,r,p⟩:=h.ok I.hok;exact⟨b,r,p,g⟩
 ·refine⟨b.toList,r,⟨o,I.kIn a o d,c,n,by simpa using f⟩,?_⟩;have e:=r.length;simp only[nM] at e;lia
theorem Inv.Jx(I:Inv X pins zzs H s)(h:SqL X.K H a xs)(h':SqL X.K H a ys):xs=ys:=by
 obtain⟨f,r,⟨o,n,e,_,_,d⟩,_⟩:=I.list h;obtain⟨g,i,⟨o',j,c,_,_,b⟩,_⟩:=I.list h';rw[e] at c;cases c;rw[d] at b;injection b with d1 _;have:f=g:=by simpa using congrArg Array.toList d1
 subst this;exact r.inj i
theorem Inv.Vu(I:Inv X pins zzs H s)(h:SqT X.K H a xs)(h':SqT X.K H a ys):xs=ys:=by
 obtain⟨f,r,⟨o,e,_,n,d⟩,_⟩:=I.tuple h;obtain⟨g,i,⟨o',c,_,j,b⟩,_⟩:=I.tuple h';rw[e] at c;cases c;rw[d] at b;injection b with d1 _;have:f=g:=by simpa using congrArg Array.toList d1
 subst this;exact r.inj i
end
abbrev Cx.wish(X:Cx)(E:Value->Shared->Prop):Cx:={ X with xe:=E }
abbrev Cx.nox(X:Cx):Cx:=X.wish fun _ _=>False
theorem Cx.Ok.wish{X:Cx}(ok:X.Ok)(a:Value->Shared->Prop):(X.wish a).Ok:=
 ⟨ok.mod,ok.kind,ok.glob,ok.blt,ok.above,ok.inj,ok.has,ok.cab,ok.hd,ok.frames,ok.stk,ok.exf,ok.bs,ok.bsz,ok.JD,ok.LK,ok.qX,ok.frf⟩
theorem Cx.Ok.oK{X:Cx}{a:Value->Shared->Prop}(ok:(X.wish a).Ok):X.Ok:=
 ⟨ok.mod,ok.kind,ok.glob,ok.blt,ok.above,ok.inj,ok.has,ok.cab,ok.hd,ok.frames,ok.stk,ok.exf,ok.bs,ok.bsz,ok.JD,ok.LK,ok.qX,ok.frf⟩
section
variable{X:Cx}{pins:List (Addr×Obj)}{zzs:St}{H:Hp}{s:Shared}{E:Value->Shared->Prop}
theorem Inv.wish(I:Inv X pins zzs H s)(a:Value->Shared->Prop):Inv (X.wish a) pins zzs H s:=⟨I.ok.wish a,I.os,I.bare,I.base,I.loc,I.cell,I.free,I.jO,I.pin,I.hok,I.len⟩
theorem Inv.oK(I:Inv (X.wish E) pins zzs H s):Inv X pins zzs H s:=⟨I.ok.oK,I.os,I.bare,I.base,I.loc,I.cell,I.free,I.jO,I.pin,I.hok,I.len⟩
theorem SP.oK{c:Ends}{f:Flow}{d:Shared}(h:SP (X.wish E) pins c f d):SP X pins c f d:=by
 cases f with
 |next=>obtain⟨b,H',a,q⟩:=h;exact⟨b,H',a.oK,q⟩
 |brk=>obtain⟨b,H',a,q⟩:=h;exact⟨b,H',a.oK,q⟩
 |cont=>obtain⟨b,H',a,q⟩:=h;exact⟨b,H',a.oK,q⟩
 |ret u=>obtain⟨v,b,H',a,r,q⟩:=h;exact⟨v,b,H',a.oK,r,q⟩
theorem PT.nox{e:Expr}{t:TT}(h:PT X.nox e t):PT X e t:=fun pins s zzs H Q a hw=>
 jL (h pins s zzs H Q (a.wish _) hw) (fun _ _ ⟨H',b,q⟩=>⟨H',b.oK,q⟩) fun _ _ c=>False.elim c
theorem PSs.nox{st:List Stmt}{t:TS}(h:PSs X.nox st t):PSs X st t:=fun pins s zzs H a b hw=>
 jL (h pins s zzs H a (b.wish _) hw) (fun _ _ q=>q.oK) fun _ _ c=>False.elim c
end
section
variable{X:Cx}{st:Stmt}{rest:List Stmt}{t u:TS}{e:Expr}{te:TE}{pos:Pos}
def a2t:TS:=fun D zzs H=>D.nx zzs H
def a4m(t u:TS):TS:=fun D zzs H=>t { D with nx:=u D } zzs H
theorem a1r:PSs X [] a2t:=fun _ _ zzs H _ a h=>CN ⟨zzs,H,a,h⟩
theorem Y8(e:PS X st t)(g:PSs X rest u):PSs X (st::rest) (a4m t u):=by
 intro pins s zzs H a b h;refine wpAny_execs_cons (thn (e pins s zzs H { a with nx:=u a } b h) fun f s1 q=>?_);cases f with
 |next=>
  obtain⟨d,H',c,q⟩:=q;exact g pins s1 d H' a c q
 |ret v=>exact q
 |brk=>exact q
 |cont=>exact q
theorem a1s(c:PS X st t):PSs X [st] t:=by
 intro pins s zzs H a b h;refine wpAny_execs_cons (thn (c pins s zzs H a b h) fun f s1 q=>?_);cases f with
 |next=>exact CN q
 |ret v=>exact q
 |brk=>exact q
 |cont=>exact q
theorem Inv.quiet{pins:List (Addr×Obj)}{zzs:St}{H:Hp}{s:Shared}(I:Inv X pins zzs H s):interactive X.env=false:=by simp[interactive,I.ok.kind]
def a2s(te:TE):TS:=fun D zzs H=>te zzs H fun _ H1=>D.nx zzs H1
theorem a1q(c:PE X e te)(d:swapsWith e none pos.line X.env=pure false:=by rfl):PS X (.Expr e pos) (a2s te):=by
 intro pins s zzs H g a h;exact wpAny_Expr_any (thn (c pins s zzs H _ a h) fun v s1 ⟨x,H1,b,i,f⟩=>⟨zzs,H1,b,f⟩) a.quiet d
def a5P(te:TE):TS:=fun D zzs H=>te zzs H D.rt
theorem a4a(c:PE X e te):PS X (.Return (some e) pos) (a5P te):=by
 intro pins s zzs H g a h;exact wpAny_Return_some (thn (c pins s zzs H _ a h) fun v s1 ⟨x,H1,b,f,d⟩=>⟨x,zzs,H1,b,f,d⟩)
def a5M(c:TT)(t u:TS):TS:=fun D zzs H=>c zzs H fun b H1=>if b=true then t D zzs H1 else u D zzs H1
theorem a5p{c:Expr}{a b:List Stmt}{i:TT}(m:PT X c i)(k:PSs X a t)(l:PSs X b u):PS X (.If c a b pos) (a5M i t u):=by
 intro pins s zzs H e j h;refine wpAny_If (thn (m pins s zzs H _ j h) fun d s1 n=>?_);obtain⟨H1,f,g⟩:=n;cases d with
 |true=>exact k pins s1 zzs H1 e f g
 |false=>exact l pins s1 zzs H1 e f g
end
abbrev TG:=V->St->Hp->(St->Hp->Prop)->Prop
def PG(X:Cx)(target:Expr)(t:TG):Prop:=
 ∀(pins:List (Addr×Obj))(s:Shared)(zzs:St)(H:Hp)(v:V)(u:Value)(Q:St->Hp->Prop),Inv X pins zzs H s->RelV v u->t v zzs H Q ->
  wpAny (model X.prog X.w) X.A (assign target X.env u) (fun _ s'=>∃ bI H',Inv X pins bI H' s'/\Q bI H') X.xe s
abbrev Te:=V->V->V->Hp->(Hp->Prop)->Prop
def VF(X:Cx)(t:Te):Prop:=
 ∀(pins:List (Addr×Obj))(s:Shared)(zzs:St)(H:Hp)(o i v:V)(ov iv u:Value)(Q:Hp->Prop),Inv X pins zzs H s->RelV o ov->RelV i iv->RelV v u->t o i v H Q ->
  wpAny (model X.prog X.w) X.A (setItem ov iv u) (fun _ s'=>∃ H',Inv X pins zzs H' s'/\Q H') X.xe s
abbrev TIp:=V->V->Hp->VK->Prop
def PIp(X:Cx)(op:Operator)(t:TIp):Prop:=
 ∀(pins:List (Addr×Obj))(s:Shared)(zzs:St)(H:Hp)(x y:V)(v u:Value)(Q:VK),Inv X pins zzs H s->RelV x v->RelV y u->t x y H Q ->
  wpAny (model X.prog X.w) X.A (inplaceOp op v u) (EP X pins zzs Q) X.xe s
section
variable{X:Cx}{pos:Pos}
def Qc(i:Nat):TG:=fun v zzs H Q=>Q (zzs.set i (some v)) H
theorem a1j{i:Nat}{x:Str}(c:X.N.Nodup)(e:X.N[i]?=some x)(f:Loc X.env.scope x)(d:X.fn x=true\/X.env.scope.names.lookup x=some .local:=by first|exact .inl rfl|exact .inr rfl|assumption):PG X (.Name x pos) (Qc i):=by
 intro pins s zzs H v u Q a r h;exact Ow (vP a c e f r (fun s' b=>⟨_,H,b,h⟩) d)
def a4T(to ti:TE)(t:Te):TG:=fun v zzs H Q=>to zzs H fun o H1=>ti zzs H1 fun i H2=>t o i v H2 fun H3=>Q zzs H3
theorem a3U{o i:Expr}{to d:TE}{t:Te}(n:PE X o to)(m:PE X i d)(p:VF X t)
  (l:∀ v,assign (.Subscript o i pos) X.env v=(do
   let a <- holding [v] (eval o X.env)
   let b <- holding [v,a] (eval i X.env)
   standAt pos
   holding [v,a,b] (setItem a b v)
   release [v,a,b] []):=by intro _;rfl):PG X (.Subscript o i pos) (a4T to d t):=by
 intro pins s zzs H v u Q f r h;rw[l];refine bL (u9 (thn (n pins s zzs H _ f h) fun a s1 c=>?_));obtain⟨x,H1,g,A,q⟩:=c;refine bL (u9 (thn (m pins s1 zzs H1 _ g q) fun b s2 c=>?_));obtain⟨y,H2,j,B,w⟩:=c;refine bL (wpAny_standAt (bL (u9 (thn (p pins s2 zzs H2 x y v a b u _ j A B r w) fun _ C c=>?_))));obtain⟨e,k,z⟩:=c;exact wpAny_release ⟨zzs,e,k,z⟩
def a1L(te:TE)(g:TG):TS:=fun D zzs H=>te zzs H fun x H1=>g x zzs H1 D.nx
theorem a3X{a e:Expr}{b:TE}{g:TG}(i:PE X e b)(j:PG X a g)(k:swapsWithSole [a] e pos.line X.env=pure false:=by rfl)(hw:swappedStores [a] e X.env=pure none:=by rfl)
  (f:(assignEach [a] X.env).map (·.2)=[assign a X.env]:=by rfl):PS X (.Assign [a] e pos) (a1L b g):=by
 intro pins s zzs H o c h;refine wpAny_Assign_stores (thn (i pins s zzs H _ c h) fun v s1 n=>?_) k hw;obtain⟨x,H1,d,m,l⟩:=n;rw[f];exact thn (j pins s1 zzs H1 x v _ d m l) fun _ s2 q=>q
theorem a4b{i:Nat}{x:Str}{e:Expr}{b:TE}{a:Pos}(g:X.N.Nodup)(l:X.N[i]?=some x)(n:Loc X.env.scope x)(j:PE X e b)(m:swapsWith e (some (.Name x a)) pos.line X.env=pure false:=by rfl)(k:X.fn x=true\/X.env.scope.names.lookup x=some .local:=by first|exact .inl rfl|exact .inr rfl|assumption) :
  PS X (.Assign [.Name x a] e pos) (a1L b (Qc i)):=by
 intro pins s zzs H r c h;refine wpAny_Assign_Name (thn (j pins s zzs H _ c h) fun v s1 q=>?_) m;obtain⟨y,H1,d,p,o⟩:=q;exact vP d g l n p (fun s2 f=>⟨_,H1,f,o⟩) k
def a2p(to ti te:TE)(a1N:V->V->Hp->VK->Prop)(tip:TIp)(a1Q:Te):TS:=fun D zzs H=>to zzs H fun o H1=>ti zzs H1 fun i H2=>a1N o i H2 fun x H3=>te zzs H3 fun y H4=>tip x y H4 fun z H5=>a1Q o i z H5 fun H6=>D.nx zzs H6
def a4A(X:Cx)(t:V->V->Hp->VK->Prop):Prop:=
 ∀(pins:List (Addr×Obj))(s:Shared)(zzs:St)(H:Hp)(o i:V)(ov iv:Value)(Q:VK),Inv X pins zzs H s->RelV o ov->RelV i iv->t o i H Q ->
  wpAny (model X.prog X.w) X.A (getItem ov iv) (EP X pins zzs Q) X.xe s
theorem a1o{o i e:Expr}{to l k:TE}{d:V->V->Hp->VK->Prop}{m:TIp}{f:Te}{op:Operator}{aa:Pos}(I:PE X o to)(G:PE X i l)(F:a4A X d)(E:PE X e k)(J:PIp X op m)(K:VF X f)
  (D:∀ c b new,augStore i c b new=(do holding [new,c,b] (setItem c b new);release [new,c,b] [];pure .next):=by intros;rfl):PS X (.AugAssign (.Subscript o i aa) op e pos) (a2p to l k d m f):=by
 intro pins s zzs H ae w h;refine wpAny_AugAssign_SubscriptAny (thn (I pins s zzs H _ w h) fun c s1 a=>?_) D;obtain⟨n,H1,x,g,M⟩:=a;refine thn (G pins s1 zzs H1 _ x M) fun b s2 a=>?_
 obtain⟨p,H2,y,j,N⟩:=a;refine thn (F pins s2 zzs H2 n p c b _ y g j N) fun L W a=>?_
 obtain⟨ab,q,z,S,O⟩:=a;refine thn (E pins W zzs q _ z O) fun v Y a=>?_
 obtain⟨ac,r,A,T,P⟩:=a;refine thn (J pins Y zzs r ab ac L v _ A S T P) fun new Z a=>?_
 obtain⟨ad,t,B,U,Q⟩:=a;exact thn (K pins Z zzs t n p ad c b new _ B g j U Q) fun _ af ⟨u,C,R⟩=>⟨zzs,u,C,R⟩
def ipI(f:Int->Int->Int):TIp:=fun x y H Q=>∃ i j,x=.int i/\y=.int j/\Q (.int (f i j)) H
theorem a2X:PIp X .Add (ipI fun i j=>i+j):=by
 intro pins s zzs H x y v u Q a d e h;obtain⟨i,j,b,c,q⟩:=h;subst b;subst c;obtain⟨t,rfl⟩:=d;obtain⟨f,rfl⟩:=e;exact iadd_int ⟨.int _,H,a.tok _,⟨_,rfl⟩,q⟩
end
section
variable{X:Cx}{pos:Pos}
def Z1(c:TT)(tb:TS):TS:=fun D zzs H=>∃ W:Nat->St->Hp->Prop,(∃ m,W m zzs H)/\∀ m zzs H,W m zzs H ->
 c zzs H fun b H1=>if b=true then ∃ N:St->Hp->Prop,(∀ bI H',N bI H'->∃ m',m'<m/\W m' bI H')/\tb { D with nx:=N,ct:=N,bk:=D.nx } zzs H1 else D.nx zzs H1
theorem Y6{c:Expr}{r:List Stmt}{y:TT}{x:TS}(u:PassesOwn (model X.prog X.w) X.A X.env X.xe)(E:PT X c y)(D:PSs X r x):PS X (.While c r [] pos) (Z1 y x):=by
 intro pins s zzs H L z h;obtain⟨C,⟨F,I⟩,G⟩:=h;refine wpAny_While (codeAny_whileLoop (fun n s'=>∃ q H',Inv X pins q H' s'/\C n q H') ?_ F ⟨zzs,H,z,I⟩);rintro n s1 ⟨e,H1,B,J⟩;refine uH u (thn (E pins s1 e H1 _ B (G n e H1 J)) fun b s2 K=>?_);obtain⟨H2,p,g⟩:=K;cases b with
 |true=>
  obtain⟨N,t,g⟩:=g;rw[aL rfl];refine uH u (thn (D pins s2 e H2 _ p g) fun f M i=>?_);cases f with
  |next=>
   obtain⟨a,d,j,m⟩:=i;obtain⟨l,k,o⟩:=t a d m;exact⟨l,k,a,d,j,o⟩
  |cont=>
   obtain⟨a,d,j,m⟩:=i;obtain⟨l,k,o⟩:=t a d m;exact⟨l,k,a,d,j,o⟩
  |brk=>exact i
  |ret v=>exact i
 |false=>
  rw[aJ fP];exact CN ⟨e,H2,p,g⟩
end
structure It where
 go:Nat->Hp->Prop
 yld:Nat->Hp->V->Hp->Prop
 stop:Nat->Hp->Prop
def uO(X:Cx)(pins:List (Addr×Obj))(H:Hp)(b:Addr):Prop:=
 H b=none/\b≠X.env.locals/\b∉X.fs/\(b∈X.ex\/X.s₀.heap.objs.size<=b)/\(∀ x c,X.env.cells.lookup x=some c->c≠b)/\∀ p∈X.pn++pins,p.1≠b
theorem Inv.Wq{X:Cx}{pins:List (Addr×Obj)}{zzs:St}{H f:Hp}{s:Shared}{b:Addr}(I:Inv X pins zzs H s)(a:s.heap.objs.size<=b)(g:f b=none):uO X pins f b:=by
 refine⟨g,Ig (jH I.lt a),I.a6n a,.inr (dU I.sz a),fun x c e d=>?_,fun p h d=>?_⟩
 ·obtain⟨v,q⟩:=I.cell x c e;exact absurd (jH q.lt (by rw[d];exact a)) (rZ _)
 ·exact absurd (jH (bZ (I.pin p h).1) (by rw[d];exact a)) (rZ _)
structure Turn(P:Program)(w:World)(K:ao)(tg:Expr)(J:It)(fp:List Addr)(it:Addr)(tn:Nat->Heap->Prop):Prop where
 mem:it∈fp
 obj:∀ i h,tn i h->∀ b∈fp,∃ o,h.get? b=some o/\∀ v,o.data≠.cell v
 keep:∀ i h h',tn i h->(∀ b∈fp,∀ o,h.get? b=some o->h'.get? b=some o)->tn i h'
 item:∀(X:Cx),X.prog=P->X.w=w->X.K=K->X.calm=true->∀(i:Nat)(pins:List (Addr×Obj))(s:Shared)(zzs:St)(H:Hp)(E:Value->Shared->Prop),Inv X pins zzs H s->(∀ b∈fp,uO X pins H b)->tn i s.heap->J.go i H ->
  wpAny (model P w) X.A (pyNext (.ref it)) (fun r s1=>∃ u,r=some u /\
   wpAny (model P w) X.A (letOwnedTupleGo tg (.ref it) u) (fun _ s2=>∃ x H',Inv X pins zzs H' s2/\RelV x u/\J.yld i H x H'/\tn (i+1) s2.heap/\∀ b∈fp,H' b=none) E s1) E s
 done:∀(X:Cx),X.prog=P->X.w=w->X.K=K->X.calm=true->∀(i:Nat)(pins:List (Addr×Obj))(s:Shared)(zzs:St)(H:Hp)(E:Value->Shared->Prop),Inv X pins zzs H s->(∀ b∈fp,uO X pins H b)->tn i s.heap->J.stop i H ->
  wpAny (model P w) X.A (pyNext (.ref it)) (fun r s1=>r=none/\Inv X pins zzs H s1) E s
 self:∀(A:Around)(i:Nat)(s:Shared)(Q:Value->Shared->Prop)(E:Value->Shared->Prop),tn i s.heap->Q (.ref it) s->wpAny (model P w) A (pyIter (.ref it)) Q E s
abbrev TI:=St->Hp->(It->Hp->Prop)->Prop
def PIE(X:Cx)(pins:List (Addr×Obj))(zzs:St)(tg:Expr)(R:It->Hp->Prop)(itv:Value)(s2:Shared):Prop:=
 ∃(it:Addr)(fp:List Addr)(tn:Nat->Heap->Prop)(J:It)(H':Hp),itv=.ref it/\Inv X pins zzs H' s2/\Turn X.prog X.w X.K tg J fp it tn/\tn 0 s2.heap/\(∀ b∈fp,uO X pins H' b)/\R J H'
def PI(X:Cx)(tg iter:Expr)(wi:TI):Prop:=
 ∀(pins:List (Addr×Obj))(s:Shared)(zzs:St)(H:Hp)(R:It->Hp->Prop),Inv X pins zzs H s->wi zzs H R ->
  wpAny (model X.prog X.w) X.A (eval iter X.env) (fun v s1=>wpAny (model X.prog X.w) X.A (pyIter v) (PIE X pins zzs tg R) X.xe s1) X.xe s
theorem Qd{M:Model}{A:Around}{b:Value->Shared->Prop}{s:Shared}{d:Expr}{c:Addr}{u:Value}{o:Obj}{n:String}{vs:Array Value}{Q:Unit->Shared->Prop}(i:s.heap.get? c=some o)(e:o.cls=.type n)(f:o.data=.fields vs)
  (g:["enumerate","zip","dict_itemiterator","dict_reverseitemiterator","odict_iterator","itertools.zip_longest","itertools.pairwise"].contains n=false) (a:Q () s):wpAny M A (letOwnedTupleGo d (.ref c) u) Q b s:=by
 unfold letOwnedTupleGo;cases d<;>first
  |exact c7 a
  |(cases u<;>first
    |exact c7 a
    |(refine bL (wpAny_load i ?_)
      rw[e,f];show wpAny M A (if(["enumerate","zip","dict_itemiterator","dict_reverseitemiterator","odict_iterator","itertools.zip_longest","itertools.pairwise"].contains n&&vs[0]?==some (rawInt _))=true then _ else _) Q b s;rw[aJ (by intro h;rw[g,yx] at h;cases h)];exact c7 a))
def Itl(K:ao)(a:Addr):It:=
 ⟨fun i H=>∃ xs x,SqL K H a xs/\xs[i]?=some x,fun i H x H'=>H'=H/\∀ xs,SqL K H a xs->xs[i]?=some x,fun i H=>∃ xs,SqL K H a xs/\xs.length<=i⟩
def Itr(lo:Int)(n:Nat):It:=⟨fun i _=>i<n,fun i H x H'=>H'=H/\x=.int (lo+i),fun i _=>n<=i⟩
theorem Vv{I:Program}{w:World}{K:ao}{R:Expr}(a j:Addr):Turn I w K R (Itl K a) [j] j (fun i h=>h.IsListIter j a i) where
 mem:=by simp
 obj:=fun i h st b g=>by
  have e:b=j:=by simpa using g
  subst e;obtain⟨o,e,c,d⟩:=st;exact⟨o,e,fun v F=>by rw[d] at F;cases F⟩
 keep:=fun i h h' st k=>st.at fun o e=>k j (by simp) o e
 item:=by
  intro X z hw y C i pins s zzs H E f l st A;subst z hw y;obtain⟨xs,x,m,B⟩:=A;obtain⟨O,rv,p,N⟩:=f.list m;obtain⟨u,L,P⟩:=rv.get B;obtain⟨n,f1,f2,q,r,t⟩:=l j (by simp);refine wpAny_pyNext_list_item st p.isList (x:=u) (by simpa using L) fun h' D Q=>?_
  have G:Inv X pins zzs H { s with heap:=h' }:=f.turned (t':=s.toks) (fun b o g e=>(Q.2 b g).trans e) n f1 q r t;obtain⟨o,e,c,d⟩:=id D;exact⟨u,rfl,Qd (s:={ s with heap:=h' }) e c d (by decide) ⟨x,H,G,P,⟨rfl,fun ys M=>by rw[f.Jx M m];exact B⟩,D,fun b g=>(l b g).1⟩⟩
 done:=by
  intro X z hw y C i pins s zzs H E f l st A;subst z hw y;obtain⟨xs,m,B⟩:=A;obtain⟨O,rv,p,N⟩:=f.list m;obtain⟨n,f1,f2,q,r,t⟩:=l j (by simp);have S:=rv.length;exact wpAny_pyNext_list_end (f.ok.hd C) st p.isList (by simp;lia) fun h' J=>⟨rfl,f.turned (t':=s.toks) (fun b o g e=>J b o g e) n f1 q r t⟩
 self:=fun _ _ _ _ _ st h=>wpAny_pyIter_listiter st h
theorem NP{z:Program}{w:World}{K:ao}{F:Expr}(a:Addr)(lo:Int)(n:Nat):Turn z w K F (Itr lo n) [a] a (fun i h=>IsRangeIter h a (lo+(i:Nat)*1) ((n:Int)-(i:Nat)) 1) where
 mem:=by simp
 obj:=fun i h st b c=>by
  have e:b=a:=by simpa using c
  subst e;exact⟨_,st,fun v G=>by
   have I:Data.fields _=Data.cell v:=G;cases I⟩
 keep:=fun i h h' st k=>k a (by simp) _ st
 item:=by
  intro X q hw p r i pins s zzs H E d f st u;subst q hw p;obtain⟨g,f1,f2,j,l,m⟩:=f a (by simp);have A:=Walks.range (prog:=X.prog) (w:=X.w) (d.ok.hd r) a lo 1 n;refine A.item i s _ _ u st fun v h' tk C x D=>?_
  obtain⟨t,rfl⟩:=C;have y:Inv X pins zzs H { s with heap:=h',toks:=tk }:=d.turned (fun b o c e=>D b o (by simpa using c) e) g f1 j l m;refine⟨_,rfl,Qd (s:={ s with heap:=h',toks:=tk }) (n:="range_iterator") x rfl rfl (by decide) ⟨.int (lo+i),H,y,⟨t,?_⟩,⟨rfl,rfl⟩,x,fun b c=>(f b c).1⟩⟩;rw[Pu]
 done:=by
  intro X q hw p r i pins s zzs H E d f st u;subst q hw p;obtain⟨g,f1,f2,j,l,m⟩:=f a (by simp);exact wpAny_pyNext_range_end (d.ok.hd r) st (by have:n<=i:=u;lia) fun h' B=>⟨rfl,d.turned (t':=s.toks) (fun b o c e=>B b o c e) g f1 j l m⟩
 self:=fun _ _ _ _ _ st h=>wpAny_pyIter_rangeiter st h
section
variable{X:Cx}{tg:Expr}
def Wv(K:ao)(tl:TE):TI:=fun zzs H R=>tl zzs H fun x H1=>∃ a,x=.ref a/\(∃ xs,SqL K H1 a xs)/\R (Itl K a) H1
theorem a1k{l:Expr}{d:TE}(i:PE X l d):PI X tg l (Wv X.K d):=by
 intro pins s zzs H R f h;refine thn (i pins s zzs H _ f h) fun v s1 n=>?_
 obtain⟨x,H1,c,m,k⟩:=n;obtain⟨a,e,⟨xs,j⟩,q⟩:=k;subst e;cases m;obtain⟨t,rv,p,r⟩:=c.list j;refine wpAny_pyIter_list p.isList ?_;refine⟨s1.heap.objs.size,[s1.heap.objs.size],_,_,H1,rfl,c.kept (t':=s1.toks) fun b o e=>fB _ e,Vv a _,⟨_,jQ _ rfl,rfl,rfl⟩,fun b g=>?_,q⟩;have e:b=s1.heap.objs.size:=by simpa using g
 subst e;exact c.Wq (bG _) (c.hok.fresh (bG _))
theorem K7{pins:List (Addr×Obj)}{zzs:St}{H:Hp}{s:Shared}{R:It->Hp->Prop}{d:Value->Shared->Prop}{lo a:Int}{t u v:Tok}{tk:Nat}(I:Inv X pins zzs H s)(h : -(2^62)<=lo)(i:lo<2^62)(j : -(2^62)<=a)(k:a<2^62)
  (q:R (Itr lo (a-lo).toNat) H):wpAny (model X.prog X.w) X.A (pyIter (.ref s.heap.objs.size)) (PIE X pins zzs tg R) d { s with heap:=s.heap.push { cls:=.type "range",data:=.fields #[.int lo t,.int a u,.int 1 v] },toks:=tk }:=by
 refine wpAny_pyIter_range (IsRange.new ..) (small_one h i j k) ?_;have c:Inv X pins zzs H { s with heap:=s.heap.push { cls:=.type "range",data:=.fields #[.int lo t,.int a u,.int 1 v] },toks:=tk }:=I.kept fun b o e=>fB _ e
 refine⟨(s.heap.push { cls:=.type "range",data:=.fields #[.int lo t,.int a u,.int 1 v] }).objs.size,[(s.heap.push { cls:=.type "range",data:=.fields #[.int lo t,.int a u,.int 1 v] }).objs.size],_,_,H,rfl,
  c.kept (t':=tk) fun b o e=>fB _ e,NP _ lo (a-lo).toNat,?_,fun b l=>?_,q⟩
 ·have f:lo+((0:Nat):Int)*1=lo:=by simp
  have g:(((a-lo).toNat:Nat):Int)-((0:Nat):Int)=Builtin.Range.rangeSize lo a 1:=by rw[rangeSize_one];split<;>lia
  show IsRangeIter _ _ (lo+((0:Nat):Int)*1) ((((a-lo).toNat:Nat):Int)-((0:Nat):Int)) 1;rw[f,g];exact jQ _ rfl
 ·have e:b=(s.heap.push { cls:=.type "range",data:=.fields #[.int lo t,.int a u,.int 1 v] }).objs.size:=by simpa using l
  subst e;exact c.Wq (bG _) (c.hok.fresh (bG _))
def a1Y(ta:TA):TI:=fun zzs H R=>ta zzs H fun vs H1=>∃ j:Int,vs=[.int j] /\ -(2^62)<=j/\j<2^62/\R (Itr 0 j.toNat) H1
def a1Z(ta:TA):TI:=fun zzs H R=>ta zzs H fun vs H1=>∃ i j:Int,vs=[.int i,.int j]/\(-(2^62)<=i/\i<2^62 /\ -(2^62)<=j/\j<2^62)/\R (Itr i (j-i).toNat) H1
theorem Vg{a:Expr}{d:TA}{p pos:Pos} (i:Gl X "range") (k:X.mg "range" = none) (g:PA X [a] d) (l:starEach [a] X.env=[(false,eval a X.env)]:=by rfl):PI X tg (.Call (.Name "range" p) [a] [] pos) (a1Y d):=by
 intro pins s zzs H R c h;refine Call_ (Bd c i k boot_range (O1 (thn (g pos pins s zzs H _ c h) fun v s1 u=>?_) l rfl));obtain⟨w,H1,f,n,b⟩:=u;obtain⟨j,e,b,m,q⟩:=b;subst e;cases n with
 |cons r o=>
  cases o;obtain⟨t,rfl⟩:=r;exact call_range_1 (K7 f (by lia) (by lia) b m (by simpa using q))
theorem Vh{a b:Expr}{k:TA}{p pos:Pos} (n:Gl X "range") (o:X.mg "range" = none) (m:PA X [a,b] k) (u:starEach [a,b] X.env=[(false,eval a X.env),(false,eval b X.env)]:=by rfl) (g:starEach [b] X.env=[(false,eval b X.env)]:=by rfl) :
  PI X tg (.Call (.Name "range" p) [a,b] [] pos) (a1Z k):=by
 intro pins s zzs H R f h;refine Call_ (Bd f n o boot_range (O1 (thn (m pos pins s zzs H _ f h) fun C s1 A=>?_) (by rw[u,g]) (by rw[g];rfl)));obtain⟨D,H1,l,z,c⟩:=A;obtain⟨i,j,e,⟨c,v,w,x⟩,q⟩:=c;subst e;cases z with
 |cons r d=>
  cases d with
  |cons y d=>
   cases d;obtain⟨t,rfl⟩:=r;obtain⟨B,rfl⟩:=y;exact call_range_2 (K7 l c v w x q)
def a5L(wi:TI)(g:TG)(tb:TS):TS:=fun D zzs H=>wi zzs H fun J H1=>∃ W:Nat->Nat->St->Hp->Prop,(∃ m,W 0 m zzs H1)/\∀ i m zzs H,W i m zzs H ->
 (J.stop i H/\D.nx zzs H)\/(J.go i H/\∃ N:St->Hp->Prop,(∀ bI H',N bI H'->∃ m',m'<m/\W (i+1) m' bI H')/\∀ x H',J.yld i H x H'->g x zzs H' fun Im H2=>tb { D with nx:=N,ct:=N,bk:=D.nx } Im H2)
def ux(fp:List Addr)(h:Heap):List (Addr×Obj):=fp.filterMap fun b=>(h.get? b).map fun o=>(b,o)
theorem uw{fp:List Addr}{h:Heap}{b:Addr}{o:Obj}(a:b∈fp)(e:h.get? b=some o):(b,o)∈ux fp h:=Cv.mpr ⟨b,a,by rw[e];rfl⟩
theorem V3{fp:List Addr}{h:Heap}{p:Addr×Obj}(d:p∈ux fp h):p.1∈fp/\h.get? p.1=some p.2:=by
 obtain⟨b,c,e⟩:=Cv.mp d;cases q:h.get? b with
 |none=>rw[q] at e;cases e
 |some o=>
  rw[q] at e;have a:(b,o)=p:=iy e;subst a;exact⟨c,q⟩
theorem Inv.pinned{pins:List (Addr×Obj)}{zzs:St}{H:Hp}{s:Shared}{fp:List Addr}(I:Inv X pins zzs H s)(h:∀ b∈fp,uO X pins H b)(i:∀ b∈fp,∃ o,s.heap.get? b=some o/\∀ v,o.data≠.cell v):Inv X (pins++ux fp s.heap) zzs H s:=
 I.vp fun p j=>(cG.mp j).elim (fun a=>I.pin p (gw _ a)) fun a=>by
  obtain⟨f,e⟩:=V3 a;obtain⟨g,f1,f2,_⟩:=h p.1 f;obtain⟨o,c,d⟩:=i p.1 f;rw[e] at c;cases c;exact⟨e,g,f1,f2,d⟩
theorem Inv.Cg{pins pl:List (Addr×Obj)}{zzs:St}{H:Hp}{s:Shared}(I:Inv X (pins++pl) zzs H s):Inv X pins zzs H s:=I.vp fun p a=>I.pin p (gw _ (gP _ a))
theorem a3Z{iter:Expr}{L:List Stmt}{W:TI}{g:TG}{S:TS}{pos:Pos}(z:PassesOwn (model X.prog X.w) X.A X.env X.xe)(O:X.calm=true)(al:PI X tg iter W)(ak:PG X tg g)(k:PSs X L S)
  (ao:∀ x,foldedSetIterable iter X.env x=pure x:=by intro _;rfl):PS X (.For tg iter L [] pos) (a5L W g S):=by
 intro pins s zzs H aF Z h;refine wpAny_For (thn (al pins s zzs H _ Z h) fun v s1 h1=>thn h1 fun aI s2 h2=>?_) ao;obtain⟨aH,y,U,aG,H2,e,aa,T,st2,f2,K,⟨aq,aA⟩,az⟩:=h2;subst e;have G:∀ {H':Hp},(∀ b∈y,H' b=none)->∀ b∈y,uO X pins H' b:=fun an b k=>⟨an b k,(f2 b k).2⟩
 refine codeAny_forLoop_any (fun n s'=>∃ i t H',Inv X pins t H' s'/\U i s'.heap/\(∀ b∈y,H' b=none)/\K i n t H') ?_ aq ⟨0,zzs,H2,aa,st2,fun b k=>(f2 b k).1,aA⟩;rintro n P ⟨i,q,C,J,R,M,aB⟩;rcases az i n q C aB with⟨ay,as⟩|⟨ah,N,aj,step⟩
 ·refine uH z (thn (T.done X rfl rfl rfl O i pins P q C X.xe J (G M) R ay) fun r aw p=>?_);obtain⟨D,ab⟩:=p;subst D;exact CN ⟨q,C,ab,as⟩
 ·refine uH z (thn (T.item X rfl rfl rfl O i pins P q C X.xe J (G M) R ah) fun r aw p=>?_);obtain⟨u,D,ai⟩:=p;subst D;refine uH z (thn ai fun _ Q p=>?_);obtain⟨x,I,ac,au,aE,F,ag⟩:=p;have ad:=ac.pinned (G ag) (T.obj _ _ F);refine uH z (thn (ak _ Q q I x u _ ad au (step x I aE)) fun _ ax p=>?_);obtain⟨af,Y,ae,ar⟩:=p;refine uH z (thn (k _ ax af Y _ ae ar) fun f E l=>?_);have again:∀ {a:St} {c:Hp},Inv X (pins++ux y Q.heap) a c E->N a c->∃ m,m<n/\∃ i t H',Inv X pins t H' E/\U i E.heap/\(∀ b∈y,H' b=none)/\K i m t H':=fun {a c} j B=>by
   obtain⟨ap,am,aC⟩:=aj a c B;refine⟨ap,am,i+1,a,c,j.Cg,T.keep _ _ _ F fun b k o e=>(j.pin (b,o) (gw _ (gw _ (uw k e)))).1,fun b k=>?_,aC⟩;obtain⟨o,e,d⟩:=T.obj _ _ F b k;exact(j.pin (b,o) (gw _ (gw _ (uw k e)))).2.1
  cases f with
  |next=>obtain⟨a,c,j,B⟩:=l;exact again j B
  |cont=>obtain⟨a,c,j,B⟩:=l;exact again j B
  |brk=>obtain⟨a,c,j,l⟩:=l;exact⟨a,c,j.Cg,l⟩
  |ret v=>obtain⟨aD,a,c,j,av,l⟩:=l;exact⟨aD,a,c,j.Cg,av,l⟩
end
theorem eZ{K:ao}{a:Addr}{xs:List V}{g:TG}{o:TS}{d:Ends}{zzs:St}{H:Hp}(b:Nat->St->Hp->Prop)(h0:b 0 zzs H)(t:∀ i zzs H,i<=xs.length->b i zzs H->SqL K H a xs)
  (u:∀ i x zzs H,xs[i]?=some x->b i zzs H->g x zzs H fun h f=>o { d with nx:=b (i+1),ct:=b (i+1),bk:=d.nx } h f) (r:∀ zzs H,b xs.length zzs H->d.nx zzs H) :
  ∃ j:Nat->Nat->St->Hp->Prop,(∃ m,j 0 m zzs H)/\∀ i m zzs H,j i m zzs H ->
   ((Itl K a).stop i H/\d.nx zzs H)\/((Itl K a).go i H/\∃ N:St->Hp->Prop,(∀ k c,N k c->∃ n,n<m/\j (i+1) n k c)/\∀ x c,(Itl K a).yld i H x c->g x zzs c fun h f=>o { d with nx:=N,ct:=N,bk:=d.nx } h f):=by
 refine⟨fun i m zzs H=>m=xs.length-i/\i<=xs.length/\b i zzs H,⟨xs.length,by simp,nQ _,h0⟩,?_⟩;rintro i m zzs H ⟨rfl,s,p⟩;have q:=t i zzs H s p;by_cases l:i<xs.length
 ·refine .inr ⟨⟨xs,xs[i],q,by simp[l]⟩,b (i+1),fun k c v=>⟨xs.length-(i+1),by omega,rfl,l,v⟩,fun x c y=>?_⟩;obtain⟨e,y⟩:=y;subst e;exact u i x zzs _ (y xs q) p
 ·have e:i=xs.length:=by lia
  subst e;exact .inl ⟨⟨xs,q,bG _⟩,r zzs H p⟩
theorem jo{lo:Int}{n:Nat}{g:TG}{o:TS}{c:Ends}{zzs:St}{H:Hp}(b:Nat->St->Hp->Prop)(h0:b 0 zzs H)
  (r:∀ i zzs H,i<n->b i zzs H->g (.int (lo+i)) zzs H fun f d=>o { c with nx:=b (i+1),ct:=b (i+1),bk:=c.nx } f d) (q:∀ zzs H,b n zzs H->c.nx zzs H) :
  ∃ h:Nat->Nat->St->Hp->Prop,(∃ m,h 0 m zzs H)/\∀ i m zzs H,h i m zzs H ->
   ((Itr lo n).stop i H/\c.nx zzs H)\/((Itr lo n).go i H/\∃ N:St->Hp->Prop,(∀ j a,N j a->∃ l,l<m/\h (i+1) l j a)/\∀ x a,(Itr lo n).yld i H x a->g x zzs a fun f d=>o { c with nx:=N,ct:=N,bk:=c.nx } f d):=by
 refine⟨fun i m zzs H=>m=n-i/\i<=n/\b i zzs H,⟨n,by simp,nQ _,h0⟩,?_⟩;rintro i m zzs H ⟨rfl,t,p⟩;by_cases k:i<n
 ·refine .inr ⟨k,b (i+1),fun j a s=>⟨n-(i+1),by lia,rfl,k,s⟩,fun x a y=>?_⟩;obtain⟨e,y⟩:=y;subst e y;exact r i zzs _ k p
 ·have e:i=n:=by lia
  subst e;exact .inl ⟨bG _,q zzs H p⟩
abbrev R2:=V->V->Hp->VK->Prop
def OpR(X:Cx)(f:Value->Value->Sem Value)(r:R2):Prop:=
 ∀(pins:List (Addr×Obj))(s:Shared)(zzs:St)(H:Hp)(x y:V)(v u:Value)(Q:VK),Inv X pins zzs H s->RelV x v->RelV y u->r x y H Q ->
  wpAny (model X.prog X.w) X.A (f v u) (EP X pins zzs Q) X.xe s
def UnR(X:Cx)(f:Value->Sem Value)(r:V->Hp->VK->Prop):Prop:=
 ∀(pins:List (Addr×Obj))(s:Shared)(zzs:St)(H:Hp)(x:V)(v:Value)(Q:VK),Inv X pins zzs H s->RelV x v->r x H Q ->
  wpAny (model X.prog X.w) X.A (f v) (EP X pins zzs Q) X.xe s
def eV(X:Cx)(f:Value)(r:List V->Hp->VK->Prop):Prop:=
 ∀(pins:List (Addr×Obj))(s:Shared)(zzs:St)(H:Hp)(xs:List V)(us:List Value)(Q:VK),Inv X pins zzs H s->Vals xs us->r xs H Q ->
  wpAny (model X.prog X.w) X.A (call f us) (EP X pins zzs Q) X.xe s
def tOp(r:R2)(ta tb:TE):TE:=fun zzs H Q=>ta zzs H fun x H1=>tb zzs H1 fun y H2=>r x y H2 Q
def tUn(r:V->Hp->VK->Prop)(ta:TE):TE:=fun zzs H Q=>ta zzs H fun x H1=>r x H1 Q
def rI(C:Int->Int->Prop)(g:Int->Int->V):R2:=fun x y H Q=>∃ i j,x=.int i/\y=.int j/\C i j/\Q (g i j) H
def rI0(g:Int->Int->V):R2:=fun x y H Q=>∃ i j,x=.int i/\y=.int j/\Q (g i j) H
def rU(g:Int->V):V->Hp->VK->Prop:=fun x H Q=>∃ i,x=.int i/\Q (g i) H
section
variable{X:Cx}{a b c:Expr}{ta tb tc:TE}{pos:Pos}
theorem a2B(j:PE X a ta)(k:PE X b tb){pins:List (Addr×Obj)}{s:Shared}{zzs:St}{H:Hp}{R:V->V->Hp->Prop}(I:Inv X pins zzs H s)
  (h:ta zzs H fun x d=>tb zzs d fun y c=>R x y c) {Q:Value->Shared->Prop} {f:Value->Value->Sem Value}
  (l:∀ v u s2 x y c,Inv X pins zzs c s2->RelV x v->RelV y u->R x y c->wpAny (model X.prog X.w) X.A (f v u) Q X.xe s2) :
  wpAny (model X.prog X.w) X.A (eval a X.env) (fun v q=>wpAny (model X.prog X.w) X.A (eval b X.env) (fun u r=>wpAny (model X.prog X.w) X.A (f v u) Q X.xe r) X.xe q) X.xe s:=by
 refine thn (j pins s zzs H _ I h) fun v s1 e=>?_
 obtain⟨x,d,g,o,m⟩:=e;refine thn (k pins s1 zzs d _ g m) fun u s2 e=>?_
 obtain⟨y,c,i,p,n⟩:=e;exact l v u s2 x y c i o p n
theorem a5j{op:Operator}{r:R2}(g:OpR X (binaryOp op) r)(e:PE X a ta)(f:PE X b tb):PE X (.BinOp a op b pos) (tOp r ta tb):=by
 intro pins s zzs H Q c h;exact wpAny_BinOp (a2B e f c h fun v u s2 x y H2 d i j q=>g pins s2 zzs H2 x y v u Q d i j q)
theorem a5k{op:UnaryOp}{r:V->Hp->VK->Prop}(e:UnR X (unaryOp op) r)(d:PE X a ta):PE X (.UnaryOp op a pos) (tUn r ta):=by
 intro pins s zzs H Q b h;exact UnaryOp_ (thn (d pins s zzs H _ b h) fun v s1 ⟨x,H1,c,g,f⟩=>e pins s1 zzs H1 x v Q c g f)
theorem opI{f:Value->Value->Sem Value}{C:Int->Int->Prop}{g:Int->Int->Int}
  (d:∀(i j:Int)(t u:Tok)(s:Shared)(Q:Value->Shared->Prop)(a:Value->Shared->Prop),C i j->Q (.int (g i j) s.toks) { s with toks:=s.toks+1 }->wpAny (model X.prog X.w) X.A (f (.int i t) (.int j u)) Q a s) :
  OpR X f (rI C fun i j=>.int (g i j)):=by
 intro pins s zzs H x y v u Q b e k h;obtain⟨i,j,rfl,rfl,c,q⟩:=h;obtain⟨t,rfl⟩:=e;obtain⟨l,rfl⟩:=k;exact d i j t l s _ _ c ⟨.int (g i j),H,b.tok _,⟨_,rfl⟩,q⟩
theorem a5f{f:Value->Value->Sem Value}{g:Int->Int->Int}
  (c:∀(i j:Int)(t u:Tok)(s:Shared)(Q:Value->Shared->Prop)(a:Value->Shared->Prop),Q (.int (g i j) s.toks) { s with toks:=s.toks+1 }->wpAny (model X.prog X.w) X.A (f (.int i t) (.int j u)) Q a s) :
  OpR X f (rI0 fun i j=>.int (g i j)):=by
 intro pins s zzs H x y v u Q b d e h;obtain⟨i,j,rfl,rfl,q⟩:=h;obtain⟨t,rfl⟩:=d;obtain⟨k,rfl⟩:=e;exact c i j t k s _ _ ⟨.int (g i j),H,b.tok _,⟨_,rfl⟩,q⟩
theorem a3x{f:Value->Value->Sem Value}{g:Int->Int->Bool}
  (c:∀(i j:Int)(t u:Tok)(s:Shared)(Q:Value->Shared->Prop)(a:Value->Shared->Prop),Q (.bool (g i j)) s->wpAny (model X.prog X.w) X.A (f (.int i t) (.int j u)) Q a s) :
  OpR X f (rI0 fun i j=>.bl (g i j)):=by
 intro pins s zzs H x y v u Q b d e h;obtain⟨i,j,rfl,rfl,q⟩:=h;obtain⟨t,rfl⟩:=d;obtain⟨k,rfl⟩:=e;exact c i j t k s _ _ ⟨.bl (g i j),H,b,rfl,q⟩
def a08(i j:Int):Prop:=(-(2^64)<i/\i<2^64)\/(-(2^64)<j/\j<2^64)
theorem a08.ok{i j:Int}(h:a08 i j):IntMulOk i j:=by
 rcases h with⟨h1,h2⟩|⟨h1,h2⟩
 ·exact .of_left (intBits_le_64 h1 h2)
 ·exact .of_right (intBits_le_64 h1 h2)
theorem a3y:OpR X (binaryOp .Add) (rI0 fun i j=>.int (i+j)):=a5f fun _ _ _ _ _ _ _ q=>add_int q
theorem Gv:OpR X (binaryOp .Sub) (rI0 fun i j=>.int (i-j)):=a5f fun _ _ _ _ _ _ _ q=>sub_int q
theorem a3E:OpR X (binaryOp .Mult) (rI a08 fun i j=>.int (i*j)):=opI fun _ _ _ _ _ _ _ a q=>mul_int q a.ok
theorem MJ:OpR X (binaryOp .Mod) (rI (fun _ j=>0<j) fun i j=>.int (i%j)):=opI fun i j _ _ _ _ _ a q=>by
 have h1:(0:Int)<j:=a;exact mod_int' (by lia) (by rw[Int.fmod_eq_emod_of_nonneg i (by lia)];exact q)
theorem unI{f:Value->Sem Value}{g:Int->Int}
  (c:∀(i:Int)(t:Tok)(s:Shared)(Q:Value->Shared->Prop)(a:Value->Shared->Prop),Q (.int (g i) s.toks) { s with toks:=s.toks+1 }->wpAny (model X.prog X.w) X.A (f (.int i t)) Q a s) :
  UnR X f (rU fun i=>.int (g i)):=by
 intro pins s zzs H x v Q b d h;obtain⟨i,rfl,q⟩:=h;obtain⟨t,rfl⟩:=d;exact c i t s _ _ ⟨.int (g i),H,b.tok _,⟨_,rfl⟩,q⟩
theorem a4p:UnR X (unaryOp .USub) (rU fun i=>.int (-i)):=unI fun _ _ _ _ _ q=>neg_int q
end
def a5E:V->V->Bool
 |.non,.non=>true|.non,.int _=>true|.int _,.non=>true|.non,.bl _=>true|.bl _,.non=>true|.non,.str _=>true|.str _,.non=>true
 |.int _,.int _=>true|.bl _,.bl _=>true|.str _,.str _=>true|.byt _,.byt _=>true
 |.int _,.str _=>true|.str _,.int _=>true|.bl _,.str _=>true|.str _,.bl _=>true
 |_,_=>false
def rEq:R2:=fun x y H Q=>a5E x y=true/\Q (.bl (decide (x=y))) H
def rNe:R2:=fun x y H Q=>a5E x y=true/\Q (.bl (!decide (x=y))) H
theorem Q0{i j:Int}:decide (V.int i=V.int j)=(i==j):=by
 rw[uI];simp
theorem Wk{i j:Bool}:decide (V.bl i=V.bl j)=(i==j):=by
 rw[uI];simp
theorem Q5{i j:Str}:decide (V.str i=V.str j)=(i==j):=by
 rw[uI];simp
theorem PX{i j:Array UInt8}:decide (V.byt i=V.byt j)=(i.toList==j.toList):=by
 rw[uI];cases i;cases j;simp
section
variable{X:Cx}{a b c:Expr}{ta tb tc:TE}{pos:Pos}
theorem cC{pins:List (Addr×Obj)}{zzs:St}{H:Hp}{s:Shared}{Q:VK}{k a:Bool}(I:Inv X pins zzs H s)(q:Q (.bl k) H)(e:k=a):EP X pins zzs Q (.bool a) s:=by
 subst e;exact⟨.bl k,H,I,rfl,q⟩
theorem fj:OpR X (compareOp .Eq) rEq:=by
 intro pins s zzs H x y v u Q a e b h;obtain⟨d,q⟩:=h;cases x with
 |non=>
  cases e;cases y with
  |non=>cases b;exact PySem.EqNone.eq_none_none (cC a q (by simp))
  |bl j=>cases b;exact PySem.EqNone.eq_none_bool (cC a q (by simp))
  |int j=>obtain⟨c,rfl⟩:=b;exact PySem.EqNone.eq_none_int (cC a q (by simp))
  |str j=>obtain⟨c,rfl⟩:=b;exact PySem.EqNone.eq_none_str (cC a q (by simp))
  |_=>exact absurd (show false=true from d) fP
 |bl i=>
  cases e;cases y with
  |non=>cases b;exact PySem.EqNone.eq_bool_none (cC a q (by simp))
  |bl j=>cases b;exact eq_bool (cC a q Wk)
  |str j=>obtain⟨c,rfl⟩:=b;exact PySem.EqMixed.eq_bool_str (cC a q (by simp))
  |_=>exact absurd (show false=true from d) fP
 |int i=>
  obtain⟨t,rfl⟩:=e;cases y with
  |non=>cases b;exact PySem.EqNone.eq_int_none (cC a q (by simp))
  |int j=>obtain⟨c,rfl⟩:=b;exact eq_int (cC a q Q0)
  |str j=>obtain⟨c,rfl⟩:=b;exact PySem.EqMixed.eq_int_str (cC a q (by simp))
  |_=>exact absurd (show false=true from d) fP
 |str i=>
  obtain⟨t,rfl⟩:=e;cases y with
  |non=>cases b;exact PySem.EqNone.eq_str_none (cC a q (by simp))
  |bl j=>cases b;exact PySem.EqMixed.eq_str_bool (cC a q (by simp))
  |int j=>obtain⟨c,rfl⟩:=b;exact PySem.EqMixed.eq_str_int (cC a q (by simp))
  |str j=>obtain⟨c,rfl⟩:=b;exact eq_str (cC a q Q5)
  |_=>exact absurd (show false=true from d) fP
 |byt i=>
  obtain⟨t,rfl⟩:=e;cases y with
  |byt j=>obtain⟨c,rfl⟩:=b;exact PySem.W.eq_bytes (cC a q PX)
  |_=>exact absurd (show false=true from d) fP
 |_=>cases y<;>exact absurd (show false=true from d) fP
theorem Fe:OpR X (compareOp .NotEq) rNe:=by
 intro pins s zzs H x y v u Q a e b h;obtain⟨d,q⟩:=h;cases x with
 |non=>
  cases e;cases y with
  |non=>cases b;exact PySem.EqNone.ne_none_none (cC a q (by simp))
  |bl j=>cases b;exact PySem.EqNone.ne_none_bool (cC a q (by simp))
  |int j=>obtain⟨c,rfl⟩:=b;exact PySem.EqNone.ne_none_int (cC a q (by simp))
  |str j=>obtain⟨c,rfl⟩:=b;exact PySem.EqNone.ne_none_str (cC a q (by simp))
  |_=>exact absurd (show false=true from d) fP
 |bl i=>
  cases e;cases y with
  |non=>cases b;exact PySem.EqNone.ne_bool_none (cC a q (by simp))
  |bl j=>cases b;exact ne_bool (cC a q (congrArg not Wk))
  |str j=>obtain⟨c,rfl⟩:=b;exact PySem.EqMixed.ne_bool_str (cC a q (by simp))
  |_=>exact absurd (show false=true from d) fP
 |int i=>
  obtain⟨t,rfl⟩:=e;cases y with
  |non=>cases b;exact PySem.EqNone.ne_int_none (cC a q (by simp))
  |int j=>obtain⟨c,rfl⟩:=b;exact ne_int (cC a q (congrArg not Q0))
  |str j=>obtain⟨c,rfl⟩:=b;exact PySem.EqMixed.ne_int_str (cC a q (by simp))
  |_=>exact absurd (show false=true from d) fP
 |str i=>
  obtain⟨t,rfl⟩:=e;cases y with
  |non=>cases b;exact PySem.EqNone.ne_str_none (cC a q (by simp))
  |bl j=>cases b;exact PySem.EqMixed.ne_str_bool (cC a q (by simp))
  |int j=>obtain⟨c,rfl⟩:=b;exact PySem.EqMixed.ne_str_int (cC a q (by simp))
  |str j=>obtain⟨c,rfl⟩:=b;exact ne_str (cC a q (congrArg not Q5))
  |_=>exact absurd (show false=true from d) fP
 |byt i=>
  obtain⟨t,rfl⟩:=e;cases y with
  |byt j=>obtain⟨c,rfl⟩:=b;exact PySem.W.ne_bytes (cC a q (congrArg not PX))
  |_=>exact absurd (show false=true from d) fP
 |_=>cases y<;>exact absurd (show false=true from d) fP
theorem Qu:OpR X (compareOp .Lt) (rI0 fun i j=>.bl (decide (i<j))):=a3x fun _ _ _ _ _ _ _ q=>lt_int q
theorem vh:OpR X (compareOp .LtE) (rI0 fun i j=>.bl (decide (i<=j))):=a3x fun _ _ _ _ _ _ _ q=>le_int q
theorem JT:OpR X (compareOp .Gt) (rI0 fun i j=>.bl (decide (j<i))):=a3x fun _ _ _ _ _ _ _ q=>gt_int q
theorem mG:OpR X (compareOp .In) (fun x y H Q=>∃ i j,x=.str i/\y=.str j/\Q (.bl (!(Builtin.Str.occurrences j i 0 j.length 1).isEmpty)) H):=by
 intro pins s zzs H x y v u Q a b c h;obtain⟨i,j,rfl,rfl,q⟩:=h;obtain⟨t,rfl⟩:=b;obtain⟨d,rfl⟩:=c;exact in_str (cC a q rfl)
theorem xG:OpR X (compareOp .Is) (fun x y H Q=>y=.non/\Q (.bl (decide (x=.non))) H):=by
 intro pins s zzs H x y v u Q b a c h;obtain⟨rfl,q⟩:=h;cases c;refine is_none_gen (cC b q ?_);cases x<;>first
  |(cases a;rfl)
  |(obtain⟨t,rfl⟩:=a;rfl)
theorem Gu:OpR X (compareOp .NotIn) (fun x y H Q=>∃ i j,x=.str i/\y=.str j/\Q (.bl (!(!(Builtin.Str.occurrences j i 0 j.length 1).isEmpty))) H):=by
 intro pins s zzs H x y v u Q a b c h;obtain⟨i,j,rfl,rfl,q⟩:=h;obtain⟨t,rfl⟩:=b;obtain⟨d,rfl⟩:=c;exact notIn_str (cC a q rfl)
theorem OpR.or{f:Value->Value->Sem Value}{r b:R2}(h:OpR X f r)(h':OpR X f b):OpR X f (fun x y H Q=>r x y H Q\/b x y H Q):=by
 intro pins s zzs H x y v u Q a c d q;rcases q with q|q
 ·exact h pins s zzs H x y v u Q a c d q
 ·exact h' pins s zzs H x y v u Q a c d q
theorem bC(b:Expr){op:CmpOp}(h:op≠.In:=by decide)(d:op≠.NotIn:=by decide):behindInMarks op b=false:=by
 have a:(op==CmpOp.In)=false:=by cases op<;>first|rfl|exact absurd rfl h
 have c:(op==CmpOp.NotIn)=false:=by cases op<;>first|rfl|exact absurd rfl d
 cases b<;>simp[behindInMarks,a,c]
theorem a1d{op:CmpOp}{r:R2}(i:OpR X (compareOp op) r)(e:PE X a ta)(f:PE X b tb)(g:behindInMarks op b=false):PE X (.Compare a [op] [b] pos) (tOp r ta tb):=by
 intro pins s zzs H Q c h;exact wpAny_Compare1 (a2B e f c h fun v u s2 x y H2 d j k q=>i pins s2 zzs H2 x y v u Q d j k q) g
def T8(t:TE):TT:=fun zzs H Q=>t zzs H fun x H'=>∃ k,x=.bl k/\Q k H'
theorem a1t{op:CmpOp}{r:R2}(o:OpR X (compareOp op) r)(l:PE X a ta)(m:PE X b tb)(n:behindInMarks op b=false):PT X (.Compare a [op] [b] pos) (T8 (tOp r ta tb)):=by
 intro pins s zzs H Q f h;refine wpAny_isTrue_Compare1 (thn (l pins s zzs H _ f h) fun v s1 ⟨x,H1,g,w,p⟩=>thn (m pins s1 zzs H1 _ g p) fun u s2 ⟨y,H2,i,z,q⟩=>
  thn (o pins s2 zzs H2 x y v u _ i w z q) fun c B ⟨C,d,j,A,k,e,t⟩=>?_) n
 subst e;cases A;exact vR ⟨d,j,t⟩
def GX(r r':R2)(ta tb tc:TE):TE:=fun zzs H Q=>ta zzs H fun x H1=>tb zzs H1 fun y H2=>r x y H2 fun z H3=>∃ k,z=.bl k /\
 (if k=true then tc zzs H3 fun w' H4=>r' y w' H4 Q else Q (.bl false) H3)
theorem XJ{op f:CmpOp}{r l:R2}(C:OpR X (compareOp op) r)(D:OpR X (compareOp f) l)(w:PE X a ta)(z:PE X b tb)(A:PE X c tc)
  (B:lastMarks [op,f] [b,c]=false:=by with_unfolding_all rfl):PE X (.Compare a [op,f] [b,c] pos) (GX r l ta tb tc):=by
 intro pins s zzs H Q o h;refine Compare_chain (thn (w pins s zzs H _ o h) fun v s1 ⟨x,H1,p,I,E⟩=>chain_link (thn (z pins s1 zzs H1 _ p E) fun u s2 ⟨y,H2,q,m,F⟩=>
  thn (C pins s2 zzs H2 x y v u _ q I m F) fun d L ⟨P,g,i,J,k,e,j⟩=>?_)) B
 subst e;cases J;refine vR ?_;cases k with
 |false=>exact ite_ff ⟨.bl false,g,i,rfl,j⟩
 |true=>exact ite_tt (chain_last (thn (A pins L zzs g _ i j) fun N M ⟨O,n,t,K,G⟩=>D pins M zzs n y O u N Q t m K G))
theorem Y9{op f:CmpOp}{r l:R2}(G:OpR X (compareOp op) r)(I:OpR X (compareOp f) l)(C:PE X a ta)(D:PE X b tb)(E:PE X c tc)
  (F:lastMarks [op,f] [b,c]=false:=by with_unfolding_all rfl):PT X (.Compare a [op,f] [b,c] pos) (T8 (GX r l ta tb tc)):=by
 intro pins s zzs H Q p h;refine isTrue_chain (thn (C pins s zzs H _ p h) fun v s1 ⟨x,H1,q,O,K⟩=>test_link (thn (D pins s1 zzs H1 _ q K) fun u s2 ⟨y,H2,t,m,L⟩=>
  thn (G pins s2 zzs H2 x y v u _ t O m L) fun d T ⟨ae,g,i,P,k,e,j⟩=>?_)) F
 subst e;cases P;refine vR ?_;cases k with
 |false=>
  obtain⟨ab,A,J⟩:=j;cases A;exact ite_ff ⟨g,i,J⟩
 |true=>
  refine ite_tt (test_last (thn (E pins T zzs g _ i j) fun W U ⟨Y,n,w,R,M⟩=>thn (I pins U zzs n y Y u W _ w m R M) fun aa ad Z=>?_));obtain⟨af,o,z,S,ac,B,N⟩:=Z;subst B;cases S;exact vR ⟨o,z,N⟩
theorem ur:(sizeLine:Nat)<2^63:=by rw[su];decide
theorem MF:OpR X (binaryOp .Add) (fun x y H Q=>∃ i j,x=.str i/\y=.str j/\i.length+j.length<=sizeLine/\Q (.str (i++j)) H):=by
 intro pins s zzs H x y v u Q a c d h;obtain⟨i,j,rfl,rfl,b,q⟩:=h;obtain⟨t,rfl⟩:=c;obtain⟨e,rfl⟩:=d;exact add_str (fun e tk=>⟨.str (i++j),H,a.tok _,⟨_,rfl⟩,q⟩) b
theorem vals1{x:V}{us:List Value}(r:Vals [x] us):∃ u,us=[u]/\RelV x u:=by
 cases r with
 |cons a b=>cases b;exact⟨_,rfl,a⟩
theorem vals2{x y:V}{us:List Value}(r:Vals [x,y] us):∃ u w',us=[u,w']/\RelV x u/\RelV y w':=by
 cases r with
 |cons a b=>
  cases b with
  |cons c d=>cases d;exact⟨_,_,rfl,a,c⟩
theorem Ei(c:X.calm=true):eV X (.builtin "max") (fun xs H Q=>∃ i j,xs=[.int i,.int j]/\Q (.int (if j>i then j else i)) H):=by
 intro pins s zzs H xs e Q b r h;obtain⟨i,j,rfl,q⟩:=h;obtain⟨u,f,rfl,⟨t,rfl⟩,⟨d,rfl⟩⟩:=vals2 r;refine max_two_ints (b.ok.hd c) fun h' tk k=>⟨_,H,b.kept k,?_,q⟩
 by_cases a:j>i
 ·rw[aL a,aL a];exact⟨_,rfl⟩
 ·rw[aJ a,aJ a];exact⟨_,rfl⟩
theorem Ej(c:X.calm=true):eV X (.builtin "min") (fun xs H Q=>∃ i j,xs=[.int i,.int j]/\Q (.int (if j<i then j else i)) H):=by
 intro pins s zzs H xs e Q b r h;obtain⟨i,j,rfl,q⟩:=h;obtain⟨u,f,rfl,⟨t,rfl⟩,⟨d,rfl⟩⟩:=vals2 r;refine min_two_ints (b.ok.hd c) fun h' tk k=>⟨_,H,b.kept k,?_,q⟩
 by_cases a:j<i
 ·rw[aL a,aL a];exact⟨_,rfl⟩
 ·rw[aJ a,aJ a];exact⟨_,rfl⟩
end
structure KJ(h:Heap)(x dx C:Addr)(mA:Str->Option Value):Prop where
 obj:h.get? x=some (PySem.W.instObj C dx)
 ns:h.Ns1 dx mA
 ne:dx≠x
theorem Uy{h:Heap}{b:Addr}{c:Str->Option Value}(n:h.Ns1 b c):∃ d,h.get? b=some d/\∀ name,PySem.W.lookIn name d=some (c name):=by
 obtain⟨o,es,p,l,g,i,_,k⟩:=n;refine⟨o,l,fun name=>?_⟩;have e:=k name;unfold nsFind findBy at e;rw[<- Array.find?_toList] at e;unfold PySem.W.lookIn;rw[g];dsimp only;split
 ·rename_i y q;rw[q] at e;exact congrArg some e
 ·rename_i q;rw[q] at e;have a:es.toList.any (·.refKey)=false:=by
   rw[List.any_eq_false];intro y m;obtain⟨r,t,j⟩:=i y (Array.mem_toList_iff.mp m);simp[DictEntry.refKey,j]
  have f:¬es.toList.any (·.refKey)=true:=by rw[a];exact fP
  rw[aJ f];exact congrArg some e
theorem KJ.look{h:Heap}{x b C:Addr}{c:Str->Option Value}(I:KJ h x b C c):∃ a,PySem.W.InstAt h x (PySem.W.instObj C b) C (some a)/\∀ name,PySem.W.lookIn name a=some (c name):=
 let ⟨a,ho,hl⟩:=Uy I.ns
 ⟨a,⟨I.obj,rfl,rfl,ho⟩,hl⟩
section
variable{prog:Program}{w:World}{A:Around}{E:Value->Shared->Prop}{s:Shared}{K:ao}{x dx C f:Addr}{mA:Str->Option Value}{name:Str}{v:Value}
theorem get_map{b:Bool}{Q:Value->Shared->Prop}(X:K.In s.heap)(I:KJ s.heap x dx C mA)(d:PySem.W.plainGet K C name=true)(e:PySem.W.hasDictIn K C=true)
  (c:PySem.W.findIn K (.ref C) name=some none) (g:mA name=some v) (i:PySem.W.handedIn v=true) (h:Q v { s with toks:=s.toks+1 }) :
  wpAny (model prog w) A (getAttr (.ref x) name b) Q E s:=by
 obtain⟨od,a,f⟩:=I.look;exact PySem.W.get_value X a (Oq d).1 (PySem.W.findObj_own e c rfl (by rw[f,g])) i h
theorem Ws{pl:Sem Bool}{Q:Value×List Value->Shared->Prop}(X:K.In s.heap)(I:KJ s.heap x dx C mA)(a:PySem.W.plainGet K C name=true)
  (c:PySem.W.findIn K (.ref C) name=some (some (.ref f))) (ht:PySem.W.isFn K (.ref f)=true) (e:mA name=none) (h:Q (.ref f,[.ref x]) s) :
  wpAny (model prog w) A (getMethod (.ref x) name pl) Q E s:=by
 obtain⟨od,b,d⟩:=I.look;exact PySem.W.method_fn X b (Oq a).1 (Oq a).2 c (jM.mp ht) (by show(PySem.W.lookIn name od).map (·.isSome)=some false;rw[d,e];rfl) h
theorem a1G{f:List Str}{Q:Unit->Shared->Prop}(X:K.In s.heap)(I:KJ s.heap x dx C mA)
  (o:PySem.W.findIn K (.ref C) "__setattr__" = some (some (.builtin "object.__setattr__"))) (n:PySem.W.plainOver K C=true) (ht:PySem.W.takerIn K C name=some none) (l:PySem.W.hasDictIn K C=true)
  (hw:PySem.Within mA f) (hsz:f.length<=sizeLine)
  (h:∀ h',KJ h' x dx C (fun y=>if y=name then some v else mA y)->Heap.SameBut dx s.heap h'->Q () { s with heap:=h',toks:=s.toks+2 }) :
  wpAny (model prog w) A (setAttr (.ref x) name v) Q E s:=by
 obtain⟨od,c,u⟩:=I.look;refine PySem.W.set_plain X c o (PySem.W.osa_open (s:={ s with toks:=s.toks+1 }) (r:=none) X c n ht fun b=>?_);obtain⟨cd,g,j⟩:=PySem.W.any_some l;have p:s.heap.get? x=some ⟨.ref C,some dx,.plain,#[]⟩:=I.obj;refine bL (c7 (bL (bL (wpAny_loadPart p (bL (PySem.W.Looks.here (s:={ s with toks:=s.toks+1 }) (PySem.W.looks_clsIn X g) ?_))))));rw[j];refine c7 (a:=some dx) (bL (c7 (bL ?_)));refine wpAny_nsSet1 (s:={ s with toks:=s.toks+1 }) I.ns fun h' d e=>?_
 obtain⟨z,t,q,m,k,i⟩:=d.count (PySem.Within.cons name v hw);refine bL (wpAny_lookBehind m (by rw[k];exact pastItsLine_dict (dU i (by rw[gD];lia))) ?_);exact c7 (h _ ⟨(e.2 _ (kI I.ne)).trans I.obj,d,I.ne⟩ e)
theorem Xa{R:Result->Shared->Prop}{vs:List Value}{a:List (Str×Value)}(X:K.In s.heap)(e:PySem.W.makesIn K C=true)
  (c:PySem.W.findIn K (.ref C) "__init__" = some (some (.ref f))) (b:PySem.W.typeIn K (.ref f)=some (.type "function"))
  (h:codeAny (model prog w) (A.under (.builtin "type.__call__" ⟨.ref C::vs,a⟩)) (.call (.ref f) ⟨.ref (s.heap.objs.size+1)::vs,a⟩) (PySem.W.InitBack (s.heap.objs.size+1) R)
   { s with heap:=(s.heap.push PySem.W.emptyDict).push (PySem.W.instObj C s.heap.objs.size) }) :
  codeAny (model prog w) A (.call (.ref C) ⟨vs,a⟩) R s:=by
 obtain⟨j,g,d,t,k⟩:=s;exact PySem.W.make_core (PySem.W.makes_of X e) (PySem.W.looks_findIn X c) (fun i=>PySem.W.bind_fn X i b) (.inl rfl) h
end
def dD(f:Str)(v:V):List (Str×V)->List (Str×V)
 |[]=>[(f,v)]
 |(g,x)::r=>if g=f then(g,v)::r else(g,x)::dD f v r
theorem bF(f g:Str)(v:V):∀ fs:List (Str×V),(dD f v fs).lookup g=if g=f then some v else fs.lookup g
 |[]=>by
  show List.lookup g [(f,v)]=_;by_cases h:g=f
  ·have a:(g==f)=true:=jM.mpr h;simp only[List.lookup,a,aL h]
  ·have a:(g==f)=false:=oh.mpr h;simp only[List.lookup,a,aJ h]
 |(k,x)::r=>by
  have c:=bF f g v r;rw[show dD f v ((k,x)::r)=(if k=f then(k,v)::r else(k,x)::dD f v r) from rfl];by_cases b:k=f
  ·rw[aL b];by_cases h:g=k
   ·have a:(g==k)=true:=jM.mpr h;simp only[List.lookup,a,aL (h.trans b)]
   ·have a:(g==k)=false:=oh.mpr h;simp only[List.lookup,a,aJ (fun e:g=f=>h (e.trans b.symm))]
  ·rw[aJ b];by_cases h:g=k
   ·have a:(g==k)=true:=jM.mpr h;simp only[List.lookup,a,aJ (fun e:g=f=>b (h.symm.trans e))]
   ·have a:(g==k)=false:=oh.mpr h;simp only[List.lookup,a];exact c
theorem xg(f:Str)(v:V):∀ fs:List (Str×V),f∈(dD f v fs).map (·.1)/\∀ g,g∈fs.map (·.1)->g∈(dD f v fs).map (·.1)
 |[]=>⟨by simp[dD],fun g h=>by simp at h⟩
 |(k,x)::r=>by
  obtain⟨i1,i2⟩:=xg f v r;rw[show dD f v ((k,x)::r)=(if k=f then(k,v)::r else(k,x)::dD f v r) from rfl];by_cases a:k=f
  ·rw[aL a];subst a;exact⟨by simp,fun g h=>by simpa using h⟩
  ·rw[aJ a];refine⟨?_,fun g h=>?_⟩
   ·rw[eU];exact eO _ i1
   ·rw[eU] at h ⊢;rcases cZ.mp h with e|e
    ·exact cZ.mpr (.inl e)
    ·exact eO _ (i2 g e)
theorem dN(f:Str)(v:V):∀ fs:List (Str×V),(dD f v fs).length<=fs.length+1
 |[]=>by simp[dD]
 |(k,x)::r=>by
  have b:=dN f v r;rw[show dD f v ((k,x)::r)=(if k=f then(k,v)::r else(k,x)::dD f v r) from rfl];by_cases a:k=f
  ·rw[aL a,gD,gD];lia
  ·rw[aJ a,gD,gD];lia
theorem tQ.some_of{v:V}{o:Option Value}(r:tQ (some v) o):∃ u,o=some u/\RelV v u:=by
 cases o with
 |none=>exact(show False from r).elim
 |some u=>exact⟨u,rfl,r⟩
theorem tQ.none_of{o:Option Value}(r:tQ none o):o=none:=by
 cases o with
 |none=>rfl
 |some u=>exact(show False from r).elim
theorem Um{v:V}{u:Value}(r:RelV v u):PySem.W.handedIn u=true:=by
 cases v with
 |non=>cases (show u=Value.none from r);rfl
 |bl b=>cases (show u=Value.bool b from r);rfl
 |int i=>obtain⟨t,e⟩:=(show ∃ t,u=Value.int i t from r);cases e;rfl
 |str x=>obtain⟨t,e⟩:=(show ∃ t,u=Value.str x t from r);cases e;rfl
 |byt b=>obtain⟨t,e⟩:=(show ∃ t,u=Value.bytes b t from r);cases e;rfl
 |flt b=>obtain⟨t,e⟩:=(show ∃ t,u=Value.float b t from r);cases e;rfl
 |ref a=>cases (show u=Value.ref a from r);rfl
 |ty n=>cases (show u=Value.type n from r);rfl
section
variable{P:Program}{w:World}{H H':Hp}{h h':Heap}{a C dx:Addr}{fs fs':List (Str×V)}
theorem Gn(c:HOk P w H h)(e:H a=some (.ins C dx fs)):∃ b,KJ h a dx C b/\(∀ f,tQ (fs.lookup f) (b f))/\PySem.Within b (fs.map (·.1))/\fs.length<=1000/\H dx=some (.own a):=by
 obtain⟨d,j,g,i,b,n,r,q⟩:=(show g8 P w H h a (.ins C dx fs) from c a _ e)
 exact⟨b,⟨i,n,g⟩,r,q,j,d⟩
end
structure Cls(K:ao)(C:Addr):Prop where
 pg:PySem.W.plainGet K C Str.empty=true
 hd:PySem.W.hasDictIn K C=true
 po:PySem.W.plainOver K C=true
 sa:PySem.W.findIn K (.ref C) "__setattr__" = some (some (.builtin "object.__setattr__"))
theorem Cls.get{K:ao}{C:Addr}(c:Cls K C)(f:Str):PySem.W.plainGet K C f=true:=c.pg
def jz(K:ao)(C:Addr)(f:Str):Prop:=PySem.W.findIn K (.ref C) f=some none
theorem jz.taker{K:ao}{C:Addr}{f:Str}(n:jz K C f):PySem.W.takerIn K C f=some none:=by
 unfold PySem.W.takerIn;rw[show PySem.W.findIn K (.ref C) f=some none from n];rfl
structure Meth(K:ao)(C:Addr)(m:Str)(f:Addr):Prop where
 at_:PySem.W.findIn K (.ref C) m=some (some (.ref f))
 fn:PySem.W.isFn K (.ref f)=true
 kp:PySem.W.keepIn K (.ref f)=true
section
variable{X:Cx}{pins:List (Addr×Obj)}{zzs:St}{H:Hp}{s:Shared}{a C dx:Addr}{fs:List (Str×V)}{f:Str}{v:V}{A:Around}{E:Value->Shared->Prop}
theorem M5{b:Bool}{Q:Value->Shared->Prop}(I:Inv X pins zzs H s)(e:H a=some (.ins C dx fs))(c:Cls X.K C)(n:jz X.K C f)(l:fs.lookup f=some v)
  (h:∀ u g,Inv X pins zzs H g->RelV v u->Q u g):wpAny (model X.prog X.w) A (getAttr (.ref a) f b) Q E s:=by
 obtain⟨mA,i,r,_,_,_⟩:=Gn I.hok e;obtain⟨u,j,d⟩:=tQ.some_of (v:=v) (o:=mA f) (by rw[<- l];exact r f);exact get_map I.kIn i (c.get f) c.hd n j (Um d) (h u _ (I.tok _) d)
theorem Ba{m:Str}{g:Addr}{pl:Sem Bool}{Q:Value×List Value->Shared->Prop}(I:Inv X pins zzs H s)(e:H a=some (.ins C dx fs))(c:Cls X.K C)(k:Meth X.K C m g)(l:fs.lookup m=none)
  (h:Q (.ref g,[.ref a]) s):wpAny (model X.prog X.w) A (getMethod (.ref a) m pl) Q E s:=by
 obtain⟨mA,b,r,_,_,_⟩:=Gn I.hok e;have d:mA m=none:=tQ.none_of (by rw[<- l];exact r m);exact Ws I.kIn b (c.get m) k.at_ k.fn d h
theorem Nu{y:V}{u:Value}{Q:Unit->Shared->Prop}(I:Inv X pins zzs H s)(e:H a=some (.ins C dx fs))(c:Cls X.K C)(n:jz X.K C f)(F:fs.length<1000)(B:RelV y u)
  (h:∀ l,Inv X pins zzs (upd H a (.ins C dx (dD f y fs))) l->Q () l):wpAny (model X.prog X.w) A (setAttr (.ref a) f u) Q E s:=by
 obtain⟨mA,d,r,m,_,k⟩:=Gn I.hok e;have z:(fs.map (·.1)).length<=sizeLine:=by rw[bf,su];lia
 refine a1G I.kIn d c.sa c.po n.taker c.hd m z fun h' i D=>h _ ?_
 have t:∃ o,h'.get? dx=some o:=let ⟨o,_,_,e',_⟩:=i.ns;⟨o,e'⟩;refine I.write (x:=a) (e:=dx) (by rw[e];exact True.intro) (.inr k) (fun b q p j=>(D.2 b p).trans j) t ?_;refine⟨by rw[aN d.ne];exact k,?_,d.ne,i.obj,_,i.ns,fun g=>?_,fun g v=>?_⟩
 ·have:=dN f y fs;lia
 ·show tQ ((dD f y fs).lookup g) (if g=f then some u else mA g);rw[bF];by_cases q:g=f
  ·rw[aL q,aL q];exact B
  ·rw[aJ q,aJ q];exact r g
 ·by_cases q:g=f
  ·rw[q];exact(xg f y fs).1
  ·refine(xg f y fs).2 g (m g fun j=>v ?_);show(if g=f then some u else mA g)=none;rw[aJ q];exact j
theorem Inv.made(I:Inv X pins zzs H s):Inv X pins zzs (upd (upd H s.heap.objs.size (.own (s.heap.objs.size+1))) (s.heap.objs.size+1) (.ins C s.heap.objs.size []))
  { s with heap:=(s.heap.push PySem.W.emptyDict).push (PySem.W.instObj C s.heap.objs.size) }:=by
 have c:(s.heap.push PySem.W.emptyDict).get? s.heap.objs.size=some PySem.W.emptyDict:=jQ s.heap rfl;have g:((s.heap.push PySem.W.emptyDict).push (PySem.W.instObj C s.heap.objs.size)).get? (s.heap.objs.size+1)=some (PySem.W.instObj C s.heap.objs.size):=by
  have:=jQ (s.heap.push PySem.W.emptyDict) (o:=PySem.W.instObj C s.heap.objs.size) rfl;rwa[Heap.size_push] at this
 have h:(s.heap.push PySem.W.emptyDict).Ns s.heap.objs.size (fun _=>none):=⟨PySem.W.emptyDict,#[],_,c,rfl,(fun e i=>absurd i (by simp)),fun _=>rfl⟩
 have f:=I.laid (a:=s.heap.objs.size) (o:=.own (s.heap.objs.size+1)) (h':=s.heap.push PySem.W.emptyDict) (t':=s.toks) (fun b u q=>fB _ q) (bG _) ⟨_,c⟩;refine f.laid (a:=s.heap.objs.size+1) (o:=.ins C s.heap.objs.size []) (t':=s.toks) (fun b u q=>fB _ q) (Nat.le_of_eq (Heap.size_push _ _)) ?_;have d:s.heap.objs.size≠s.heap.objs.size+1:=gR (CG _);refine⟨by rw[aN d,aC],nQ _,d,g,fun _=>none,(Heap.Ns1.of_empty h).at fun o q=>fB _ q,fun _=>True.intro,fun y j=>absurd rfl j⟩
theorem a0e{prog:Program}{w:World}{a:Env}{e:Expr}{f:Str}{pos:Pos}{s:Shared}{Q:Value->Shared->Prop}(b:attributeBase e f a (eval e a)=eval e a)
  (h:wpAny (model prog w) A (eval e a) (fun o c=>wpAny (model prog w) A (getAttr o f true) Q E c) E s):wpAny (model prog w) A (eval (.Attribute e f pos) a) Q E s:=
 Attribute_any_ h (by rw[arm_eval_Attribute,b])
end
def a1M(K:ao)(ta:TE)(f:Str):TE:=fun zzs H Q=>ta zzs H fun x H1=>∃ a C dx fs v,x=.ref a/\H1 a=some (.ins C dx fs)/\Cls K C/\jz K C f/\fs.lookup f=some v/\Q v H1
def a5D(K:ao)(ta tv:TE)(f:Str):TS:=fun D zzs H=>tv zzs H fun y H1=>ta zzs H1 fun x H2=>∃ a C dx fs,x=.ref a/\H2 a=some (.ins C dx fs)/\Cls K C/\jz K C f/\fs.length<1000 /\
 D.nx zzs (upd H2 a (.ins C dx (dD f y fs)))
section
variable{X:Cx}{o e value:Expr}{f:Str}{pos pos' tpos:Pos}{ta tv:TE}
theorem a3L(j:PE X e ta)(i:attributeBase e f X.env (eval e X.env)=eval e X.env):PE X (.Attribute e f pos) (a1M X.K ta f):=by
 intro pins s zzs H Q b h;refine a0e i (thn (j pins s zzs H _ b h) fun u s1 o=>?_);obtain⟨x,H1,d,m,a,C,dx,fs,v,ex,ea,c,n,l,q⟩:=o;subst ex;obtain rfl:u=Value.ref a:=m;exact M5 d ea c n l fun p s2 g k=>⟨v,H1,g,k,q⟩
theorem a3Y(i:PE X o ta)(k:PE X value tv)(j:swapsWith value (some (.Attribute o f pos')) pos.line X.env=pure false):PS X (.Assign [.Attribute o f pos'] value pos) (a5D X.K ta tv f):=by
 intro pins s zzs H w b h;refine plainObj_wpAny_Assign_Attribute (thn (k pins s zzs H _ b h) fun u s1 ⟨y,H1,d,t,q⟩=>thn (i pins s1 zzs H1 _ d q) fun m s2 v=>?_) j;obtain⟨x,H2,e,r,a,C,dx,fs,ex,ea,c,n,l,p⟩:=v;subst ex;obtain rfl:m=Value.ref a:=r;exact Nu e ea c n l t fun z g=>⟨zzs,_,g,p⟩
end
structure gK(k:Nat)(A:Around):Prop where
 hd:A.handled=none
 dp:A.depth+3*k+5<recursionLimit
 un:A.units+16*k+200<cLine
theorem gK.mono{j k:Nat}{A:Around}(r:gK k A)(h:j<=k):gK j A:=⟨r.hd,by have:=r.dp;lia,by have:=r.un;lia⟩
theorem gK.deeper{k:Nat}{A:Around}(r:gK (k+1) A)(a:Env):gK k (A.deeper a):=
 ⟨r.hd,by have:=r.dp;show A.depth+1+3*k+5<_;lia,by have:=r.un;show A.units+3+16*k+200<_;lia⟩
theorem M9{A:Around}{C:Addr}{us:List Value}{a:List (Str×Value)}:(A.under (.builtin "type.__call__" ⟨.ref C::us,a⟩)).depth=A.depth+1:=by
 first|rfl|simp[Around.under,Code.weight,Code.isCreation,Code.isGuard,Code.isCaller,Code.frames,Code.isFrame,guardIds]
theorem Ma{A:Around}{C:Addr}{us:List Value}{a:List (Str×Value)}:(A.under (.builtin "type.__call__" ⟨.ref C::us,a⟩)).units=A.units+1:=by
 first|rfl|simp[Around.under,Code.cUnits,Code.frames,Code.isFrame]
theorem gK.make{k:Nat}{A:Around}(r:gK (k+1) A)(C:Addr)(us:List Value)(a:List (Str×Value)):gK k (A.under (.builtin "type.__call__" ⟨.ref C::us,a⟩)):=
 ⟨r.hd,by have:=r.dp;rw[M9];lia,by have:=r.un;rw[Ma];lia⟩
theorem gK.depth{k:Nat}{A:Around}(r:gK k A):A.depth<recursionLimit:=by have:=r.dp;lia
theorem gK.units{k:Nat}{A:Around}(r:gK k A):A.units+64<cLine:=by have:=r.un;lia
def fO:TA:=fun _ H Q=>Q [] H
def a2r(ta:TE)(tr:TA):TA:=fun zzs H Q=>ta zzs H fun x H1=>tr zzs H1 fun xs H2=>Q (x::xs) H2
section
variable{X:Cx}{e:Expr}{es:List Expr}{te:TE}{t:TA}{pos:Pos}
theorem a3H:PA X [] fO:=fun _ _ _ _ H Q a h=>Calls.spliced_nil ⟨[],H,a,.nil,h⟩
theorem a0Z(d:PE X e te)(f:PA X es t)(g:starEach (e::es) X.env=(false,eval e X.env)::starEach es X.env:=by rfl):PA X (e::es) (a2r te t):=by
 intro pos pins s zzs H Q a h;rw[g];show wpAny _ _ (spliced ((false,eval e X.env)::backTo pos (starEach es X.env))) _ _ s;refine Calls.spliced_cons (thn (d pins s zzs H _ a h) fun u s1 m=>?_);obtain⟨x,H1,b,k,i⟩:=m;exact thn (f pos pins s1 zzs H1 _ b i) fun n s2 ⟨xs,H2,c,l,j⟩=>⟨x::xs,H2,c,.cons k l,j⟩
def a5R(t:TA):TE:=fun zzs H Q=>t zzs H fun xs H1=>xs.length<=sizeLine/\∀ p,H1 p=none->Q (.ref p) (upd H1 p (.tup xs))
def a5N(t:TA):TE:=fun zzs H Q=>t zzs H fun xs H1=>xs.length<=sizeLine/\∀ p,H1 p=none->Q (.ref p) (upd H1 p (.lst xs))
theorem a3S {x1} (h:PA X es t):PE X (.Tuple es x1 pos) (a5R t):=by
 intro pins s zzs H Q d g;refine wpAny_Tuple_spliced (thn (h pos pins s zzs H _ d g) fun i s1 ⟨xs,H1,a,r,c,q⟩=>⟨by rw[<- r.length];exact c,?_⟩);have f:H1 s1.heap.objs.size=none:=a.hok.fresh (bG _);refine⟨.ref s1.heap.objs.size,upd H1 s1.heap.objs.size (.tup xs),a.laid (t':=s1.toks) (fun b u e=>fB _ e) (bG _) ?_,rfl,q _ f⟩;exact⟨c,i,r,⟨_,jQ _ rfl,rfl,_,rfl⟩⟩
theorem a3N(h:PA X es t):PE X (.List es pos) (a5N t):=by
 intro pins s zzs H Q d g;refine wpAny_List_spliced (thn (h pos pins s zzs H _ d g) fun i s1 ⟨xs,H1,a,r,c,q⟩=>⟨by rw[<- r.length];exact c,?_⟩);have f:H1 s1.heap.objs.size=none:=a.hok.fresh (bG _);refine⟨.ref s1.heap.objs.size,upd H1 s1.heap.objs.size (.lst xs),a.laid (t':=s1.toks) (fun b u e=>fB _ e) (bG _) ?_,rfl,q _ f⟩;exact⟨c,i,0,r,jQ _ rfl⟩
end
abbrev Sp:=List V->Hp->VK->XK->Prop
abbrev CXT:=List Env->Hp->Shared->XK->Value->Shared->Prop
structure Io(P:Program)(w:World)(K:ao)(mg:Str->Option Value)(base:Heap)(A:Around)(outer:List Env)(s:Shared)(H:Hp):Prop where
 frames:A.frames=some outer
 mod:Mod K mg base
 bs:∀ b o,base.get? b=some o->s.heap.get? b=some o/\H b=none
 bsz:base.objs.size<=s.heap.objs.size
 qX:s.heap.FunFrames base outer
 frf:∀ b∈frs outer,H b=none
 hok:HOk P w H s.heap
 bare:AllBare s.gens
def CE(outer:List Env)(P:Program)(w:World)(H:Hp)(s:Shared)(Q:VK)(u:Value)(s':Shared):Prop:=
 ∃ v H',s'.os=s.os/\AllBare s'.gens/\Un (frs outer) [] H H' s.heap s'.heap/\HOk P w H' s'.heap/\RelV v u/\Q v H'
def CR(CX:CXT)(outer:List Env)(P:Program)(w:World)(H:Hp)(s:Shared)(Q:VK)(E:XK)(r:Result)(s':Shared):Prop:=
 match r with
 |.ok (.ret u)=>CE outer P w H s Q u s'
 |.ok _=>False
 |.error e=>CX outer H s E e s'
structure cB(P:Program)(w:World)(K:ao)(mg:Str->Option Value)(base:Heap)(CX:CXT)(k:Nat)(f:Addr)(fd:FuncData)(ps:List Str)(sp:Sp):Prop where
 len:∀ vs H Q E,sp vs H Q E->vs.length=ps.length
 run:∀(A:Around)(outer:List Env)(s:Shared)(H:Hp)(args:Args)(us:List Value)(vs:List V)(Q:VK)(E:XK),gK k A->Io P w K mg base A outer s H->BindsTo s fd args (ps.zip us)->Vals vs us->sp vs H Q E ->
  codeAny (model P w) A (.call (.ref f) args) (CR CX outer P w H s Q E) s
theorem Io.make{a:Program}{w:World}{K:ao}{b:Str->Option Value}{base:Heap}{A:Around}{c:List Env}{s:Shared}{H:Hp}(e:Io a w K b base A c s H)(C:Addr)(us:List Value)(d:List (Str×Value)) :
  Io a w K b base (A.under (.builtin "type.__call__" ⟨.ref C::us,d⟩)) c s H:=⟨by first|exact e.frames|(simpa [Around.under,Code.envs,Code.isFrame,pushEnvs] using e.frames),e.mod,e.bs,e.bsz,e.qX,e.frf,e.hok,e.bare⟩
section
variable{X:Cx}{pins:List (Addr×Obj)}{zzs:St}{H:Hp}{s s':Shared}
theorem Inv.env0(I:Inv X pins zzs H s):Io X.prog X.w X.K X.mg X.base X.A X.stack s H:=
 ⟨I.ok.frames,I.ok.mod,I.bs,dU I.ok.bsz I.sz,I.stack,I.vO,I.hok,I.bare⟩
theorem Inv.after{Q:VK}{u:Value}(I:Inv X pins zzs H s)(h:CE X.stack X.prog X.w H s Q u s'):EP X pins zzs Q u s':=by
 obtain⟨v,H',f,a,un,e,r,q⟩:=h;obtain⟨c,g,d,t,i⟩:=s';obtain rfl:i=s.os:=f;exact⟨v,H',I.call (h':=c) (g':=g) (d':=d) (t':=t) (ch:=[]) un e a (fun b j=>absurd j (by simp)),r,q⟩
end
def Ks(sp:Sp)(dvs:List V)(E:XK)(t:TA):TE:=fun zzs H Q=>t zzs H fun vs H1=>sp (vs++dvs) H1 Q E
def Ku(C:Addr)(m:Str)(sp:Sp)(dvs:List V)(E:XK)(ta:TE)(t:TA):TE:=fun zzs H Q=>ta zzs H fun x H1=>∃ a dx fs,x=.ref a/\H1 a=some (.ins C dx fs)/\fs.lookup m=none /\
 t zzs H1 fun vs H2=>sp (x::(vs++dvs)) H2 Q E
def YX(C:Addr)(sp:Sp)(dvs:List V)(E:XK)(t:TA):TE:=fun zzs H Q=>t zzs H fun vs H1=>∀ x dx,H1 x=none->H1 dx=none->dx≠x ->
 sp (.ref x::(vs++dvs)) (upd (upd H1 dx (.own x)) x (.ins C dx [])) (fun v H2=>v=.non/\Q (.ref x) H2) E
def Binds(K:ao)(fd:FuncData)(ps:List Str)(ds:List Value):Prop:=
 ∀(s:Shared)(us:List Value),K.In s.heap->(us++ds).length=ps.length->BindsTo s fd ⟨us,[]⟩ (ps.zip (us++ds))
theorem Binds.all{K:ao}{b:FuncData}{a:List Str}(h:∀ us:List Value,us.length=a.length->bindArgs b ⟨us,[]⟩=pure (a.zip us)):Binds K b a []:=fun s us _ c=>by
 rw[oA] at c ⊢;exact .of_eq (h us c)
def Passes(CX:CXT)(X:Cx)(E:XK):Prop:=∀(pins:List (Addr×Obj))(zzs:St)(H:Hp)(s:Shared)(e:Value)(s':Shared),Inv X pins zzs H s->CX X.stack H s E e s'->X.xe e s'
section
variable{X:Cx}{CX:CXT}{k:Nat}{f C:Addr}{fd:FuncData}{ps:List Str}{sp:Sp}{dvs:List V}{ds:List Value}{E:XK}{x m:Str}{p pos apos:Pos}{e o:Expr}{es:List Expr}{ta:TE}{t:TA}
theorem Ni{pins:List (Addr×Obj)}{zzs:St}{H:Hp}{s:Shared}{Q:VK}{us:List Value}{vs:List V}(F:cB X.prog X.w X.K X.mg X.base CX k f fd ps sp)(j:gK k X.A)(d:Binds X.K fd ps ds)(g:Vals dvs ds)(l:Passes CX X E)
  (I:Inv X pins zzs H s) (r:Vals vs us) (h:sp (vs++dvs) H Q E):wpAny (model X.prog X.w) X.A (call (.ref f) us) (EP X pins zzs Q) X.xe s:=by
 have b:Vals (vs++dvs) (us++ds):=r.append g;have i:(us++ds).length=ps.length:=by rw[<- b.length];exact F.len _ _ _ _ h
 refine Dh (yF (F.run X.A X.stack s H ⟨us,[]⟩ (us++ds) (vs++dvs) Q E j I.env0 (d s us I.kIn i) b h) fun r s' a=>?_);cases r with
 |error e=>exact l pins zzs H s e s' I a
 |ok c=>
  cases c with
  |ret u=>exact I.after a
  |next=>exact False.elim a
  |brk=>exact False.elim a
  |cont=>exact False.elim a
theorem a1c(F:cB X.prog X.w X.K X.mg X.base CX k f fd ps sp)(o:gK k X.A)(l:Gl X x)(n:X.mg x=some (.ref f))(m:PySem.W.keepIn X.K (.ref f)=true)(d:Binds X.K fd ps ds)(g:Vals dvs ds)(u:Passes CX X E)
  (c:PA X (e::es) t) (i:(x==("__debug__" : Str))=false:=by decide) (j:starEach (e::es) X.env=(false,eval e X.env)::starEach es X.env:=by rfl) (hpl:(backTo pos (starEach es X.env)).any (·.1)=false:=by rfl) :
  PE X (.Call (.Name x p) (e::es) [] pos) (Ks sp dvs E t):=by
 intro pins s zzs H Q a h;refine Cw (tu a l n ?_ i);refine HB (h₀:=X.base) a.ok.mod.kin m (thn (c pos pins s zzs H _ a h) fun v s1 ⟨y,H1,b,r,q⟩=>⟨b.kIn,?_⟩) j hpl;exact Ni F o d g u b r q
theorem a1i{pl:Sem Bool}(y:PE X o ta)(c:Cls X.K C)(i:Meth X.K C m f)(F:cB X.prog X.w X.K X.mg X.base CX k f fd ps sp)(z:gK k X.A)(p:Binds X.K fd ps ds)(v:Vals dvs ds)(B:Passes CX X E)(n:PA X (e::es) t)
  (hst:starEach (e::es) X.env=(false,eval e X.env)::starEach es X.env:=by rfl) (hpl:(backTo pos (starEach es X.env)).any (·.1)=false:=by rfl)
  (ht:eval (.Call (.Attribute o m apos) (e::es) [] pos) X.env=(do
   let j <- eval o X.env
   standAt apos.atName
   let (f,first) <- holding [j] (getMethod j m pl)
   callWith pos f first (backTo pos (starEach (e::es) X.env)) (backToKw pos (keywordEach [] X.env))):=by rfl) :
  PE X (.Call (.Attribute o m apos) (e::es) [] pos) (Ku C m sp dvs E ta t):=by
 intro pins s zzs H Q b h;refine ZD (pl:=pl) (thn (y pins s zzs H _ b h) fun u s1 L=>?_) ht;obtain⟨x,H1,d,G,a,dx,fs,ex,ea,l,q⟩:=L;subst ex;obtain rfl:u=Value.ref a:=G;refine Ba d ea c i l ?_;refine HB (first:=[.ref a]) (h₀:=X.base) b.ok.mod.kin i.kp (thn (n pos pins s1 zzs H1 _ d q) fun I s2 ⟨J,H2,g,r,D⟩=>⟨g.kIn,?_⟩) hst hpl;exact Ni (us:=.ref a::I) (vs:=.ref a::J) F z p v B g (.cons rfl r) D
theorem XR{pl:Sem Bool}(n:PE X o ta)(c:Cls X.K C)(d:Meth X.K C m f)(F:cB X.prog X.w X.K X.mg X.base CX k f fd ps sp)(p:gK k X.A)(i:Binds X.K fd ps ds)(j:Vals dvs ds)(r:Passes CX X E)
  (ht:eval (.Call (.Attribute o m apos) [] [] pos) X.env=(do
   let e <- eval o X.env
   standAt apos.atName
   let (f,first) <- holding [e] (getMethod e m pl)
   callWith pos f first (backTo pos (starEach [] X.env)) (backToKw pos (keywordEach [] X.env))):=by rfl) :
  PE X (.Call (.Attribute o m apos) [] [] pos) (Ku C m sp dvs E ta fO):=by
 intro pins s zzs H Q g h;refine ZD (pl:=pl) (thn (n pins s zzs H _ g h) fun u s1 v=>?_) ht;obtain⟨x,H1,b,t,a,dx,fs,ex,ea,l,q⟩:=v;subst ex;obtain rfl:u=Value.ref a:=t;refine Ba b ea c d l ?_;exact PySem.W.callWith_K0 (first:=[.ref a]) b.kIn d.kp (Ni (us:=[.ref a]) (vs:=[.ref a]) F p i j r b (.cons rfl .nil) q)
structure Mk(K:ao)(C f:Addr):Prop where
 makes:PySem.W.makesIn K C=true
 init:PySem.W.findIn K (.ref C) "__init__" = some (some (.ref f))
 fn:PySem.W.isFn K (.ref f)=true
 kp:PySem.W.keepIn K (.ref C)=true
theorem Ys{pins:List (Addr×Obj)}{zzs:St}{H:Hp}{s:Shared}{Q:VK}{us:List Value}{vs:List V}(M:Mk X.K C f)(F:cB X.prog X.w X.K X.mg X.base CX k f fd ps sp)(q:gK (k+1) X.A)(n:Binds X.K fd ps ds)(o:Vals dvs ds)
  (t:Passes CX X E) (I:Inv X pins zzs H s) (r:Vals vs us)
  (h:∀ x c,H x=none->H c=none->c≠x->sp (.ref x::(vs++dvs)) (upd (upd H c (.own x)) x (.ins C c [])) (fun v i=>v=.non/\Q (.ref x) i) E) :
  wpAny (model X.prog X.w) X.A (call (.ref C) us) (EP X pins zzs Q) X.xe s:=by
 have d:=h (s.heap.objs.size+1) s.heap.objs.size (I.hok.fresh (uK _)) (I.hok.fresh (bG _)) (gR (CG _));have b:=Inv.made (C:=C) I;have g:Vals (V.ref (s.heap.objs.size+1)::(vs++dvs)) (Value.ref (s.heap.objs.size+1)::(us++ds)):=.cons rfl (r.append o);have p:(Value.ref (s.heap.objs.size+1)::us++ds).length=ps.length:=by
  have e:=g.length;rw[F.len _ _ _ _ d] at e;exact e.symm
 refine Dh (Xa (f:=f) I.kIn M.makes M.init (jM.mp M.fn) (yF (F.run _ X.stack _ _ ⟨Value.ref (s.heap.objs.size+1)::us,[]⟩ (Value.ref (s.heap.objs.size+1)::(us++ds)) _ _ E (q.make C us [])
  (b.env0.make C us []) (n _ (Value.ref (s.heap.objs.size+1)::us) b.kIn p) g d) fun r s' a=>?_))
 cases r with
 |error e=>exact t pins zzs _ _ e s' b a
 |ok m=>
  cases m with
  |ret u=>
   obtain⟨v,H',j,rv,l,y⟩:=b.after a;subst l;exact⟨rv,⟨V.ref (s.heap.objs.size+1),H',j,rfl,y⟩⟩
  |next=>exact False.elim a
  |brk=>exact False.elim a
  |cont=>exact False.elim a
theorem a1h(M:Mk X.K C f)(F:cB X.prog X.w X.K X.mg X.base CX k f fd ps sp)(n:gK (k+1) X.A)(l:Gl X x)(m:X.mg x=some (.ref C))(d:Binds X.K fd ps ds)(g:Vals dvs ds)(o:Passes CX X E)
  (c:PA X (e::es) t) (i:(x==("__debug__" : Str))=false:=by decide) (j:starEach (e::es) X.env=(false,eval e X.env)::starEach es X.env:=by rfl) (hpl:(backTo pos (starEach es X.env)).any (·.1)=false:=by rfl) :
  PE X (.Call (.Name x p) (e::es) [] pos) (YX C sp dvs E t):=by
 intro pins s zzs H Q a h;refine Cw (tu a l m ?_ i);refine HB (h₀:=X.base) a.ok.mod.kin M.kp (thn (c pos pins s zzs H _ a h) fun u s1 ⟨v,H1,b,r,q⟩=>⟨b.kIn,?_⟩) j hpl;exact Ys M F n d g o b r q
end
structure aP(N P:List Str)(sc:Scope):Prop where
 kind:sc.kind=.function
 co:sc.isCoroutine=false
 gen:sc.isGenerator=false
 nd:N.Nodup
 pre:N.take P.length=P
 par:∀ x∈P,sc.names.lookup x=some .local\/sc.names.lookup x=some .cell
 a3p:∀ y∈sc.names,y.2≠.free
theorem Eh{a:Str->Option NameKind}{x:Str}:∀ {binds:List (Str×Value)} {m:Str->Option Value},(∀ v,(x,v)∉binds)->bindL a binds m x=m x
 |[],_,_=>rfl
 |(n,v)::r,m,h=>by
  unfold bindL;rw[Eh fun w hw=>h w (eO _ hw)];split
  ·have:x≠n:=by rintro rfl;exact h v cV
   simp[this]
  ·rfl
theorem Ed{a:Str->Option NameKind}{x:Str}:∀ {binds:List (Str×Value)} {m:Str->Option Value},(∀ v,(x,v)∉binds)->bindC a binds m x=m x
 |[],_,_=>rfl
 |(n,v)::r,m,h=>by
  unfold bindC;rw[Ed fun w hw=>h w (eO _ hw)];split
  ·rfl
  ·have:x≠n:=by rintro rfl;exact h v cV
   simp[this]
theorem Ef{b:Str->Option NameKind}{x:Str}{v:Value}:∀ {a:List Str} {vs:List Value} {i:Nat} {m:Str->Option Value},a.Nodup->a[i]?=some x->vs[i]?=some v->b x=some .local ->
  bindL b (a.zip vs) m x=some v
 |[],_,_,_,_,h,_,_=>by simp at h
 |_::_,[],_,_,_,_,h,_=>by simp at h
 |p::a,w::vs,0,m,nd,h1,h2,hk=>by
  simp at h1 h2;subst h1;subst h2;show bindL b ((p,w)::a.zip vs) m p=_;unfold bindL;rw[Eh fun v c=>(CP.mp nd).1 (I8 c).1,aL hk];simp
 |p::a,w::vs,i+1,m,nd,h1,h2,hk=>by
  show bindL b ((p,w)::a.zip vs) m x=_;unfold bindL;exact Ef (i:=i) (CP.mp nd).2 (by simpa using h1) (by simpa using h2) hk
theorem Ec{b:Str->Option NameKind}{x:Str}{v:Value}:∀ {a:List Str} {vs:List Value} {i:Nat} {m:Str->Option Value},a.Nodup->a[i]?=some x->vs[i]?=some v->b x≠some .local ->
  bindC b (a.zip vs) m x=some v
 |[],_,_,_,_,h,_,_=>by simp at h
 |_::_,[],_,_,_,_,h,_=>by simp at h
 |p::a,w::vs,0,m,nd,h1,h2,hk=>by
  simp at h1 h2;subst h1;subst h2;show bindC b ((p,w)::a.zip vs) m p=_;unfold bindC;rw[Ed fun v c=>(CP.mp nd).1 (I8 c).1,aJ hk];simp
 |p::a,w::vs,i+1,m,nd,h1,h2,hk=>by
  show bindC b ((p,w)::a.zip vs) m x=_;unfold bindC;exact Ec (i:=i) (CP.mp nd).2 (by simpa using h1) (by simpa using h2) hk
def start(N:List Str)(vs:List V):St:=vs.map some++List.replicate (N.length-vs.length) none
def oR(CX:CXT)(P:Program)(w:World)(K:ao)(mg:Str->Option Value)(base:Heap)(N:List Str)(qual:Str)(scope:Scope)(f:Addr)(cd:Value)(A:Around)(outer:List Env)(s:Shared)(H:Hp)(E:XK):Cx where
 prog:=P
 w:=w
 K:=K
 mg:=mg
 base:=base
 A:=A.deeper (envOfC qual scope s.heap.objs.size f cd)
 N:=N
 s₀:=s
 H₀:=H
 env:=envOfC qual scope s.heap.objs.size f cd
 outer:=outer
 stack:=envOfC qual scope s.heap.objs.size f cd::outer
 ex:=[]
 calm:=true
 fn:=fun _=>true
 pn:=[]
 xe:=fun e s'=>wpAny (model P w) (A.deeper (envOfC qual scope s.heap.objs.size f cd)) (leaving (envOfC qual scope s.heap.objs.size f cd) e) (fun _ s''=>CX outer H s E e s'') (fun e' s''=>CX outer H s E e' s'') s'
theorem IV{a:Scope}{n:Nat}{x:Str}(h:a.names.lookup x=some .cell):∃ c,(cellsFrom n a.names []).lookup x=some c:=by
 have q:=Ob a.names n [] (.inl h);exact Zn.mp q
theorem Eu{CX:CXT}{C:Program}{w:World}{K:ao}{D:Str->Option Value}{base:Heap}{N l:List Str}{B:Str}{scope:Scope}{f:Addr}{t:Value}{A:Around}{E:List Env}{s s1:Shared}{H:Hp}{F:XK}{us:List Value}{vs:List V}
  (g:aP N l scope) (M:A.handled=none) (d:Io C w K D base A E s H) (P:vs.length=l.length) (r:Vals vs us)
  (x:InCallC s s.heap.objs.size (bindL (envOfC B scope s.heap.objs.size f t).kindOf (l.zip us) fun _=>none) (cellsFrom (s.heap.objs.size+1) scope.names []) (bindC (envOfC B scope s.heap.objs.size f t).kindOf (l.zip us) fun _=>none) s1) :
  Inv (oR CX C w K D base N B scope f t A E s H F) [] (start N vs) H s1:=by
 have Q:l.length<=N.length:=by have:=congrArg List.length g.pre;rw[u6] at this;lia
 obtain⟨h1,tk,rfl,G⟩:=x.done;have noA:∀ b:Addr,b∉(oR CX C w K D base N B scope f t A E s H F).ex:=fun b m=>absurd (show b∈([]:List Addr) from m) (by simp)
 refine⟨⟨d.mod,g.kind,rfl,rfl,bG _,fun y m c h1 h2=>?_,fun y j=>?_,fun y c _ h=>?_,fun _=>M,Around.frames_deeper d.frames,.inr ⟨rfl,rfl⟩,fun b m=>absurd m (noA b),d.bs,d.bsz,fun b _ _=>noA b,fun b m=>absurd m (noA b),d.qX,d.frf⟩,
  rfl,d.bare,Un.kept G,⟨_,x.toInCall.ns,fun i y v h1 h2 O=>?_⟩,fun y c h=>⟨_,x.cell y c h⟩,d.hok.fresh (bG _),fun y c h=>?_,fun p o=>absurd (show p∈([]:List (Addr×Obj)) from o) (by simp),d.hok.kept G,?_⟩
 ·exact name_of_addr x.apart (Cq h1) (Cq h2)
 ·have j:scope.names.lookup y=some .cell\/scope.names.lookup y=some .free:=j;rcases j with j|j
  ·exact IV j
  ·exact absurd rfl (g.a3p _ (Cq j))
 ·exact Ie (x.above y c (Cq h))
 ·have z:i<vs.length:=by
   unfold start at h2;by_cases z:i<vs.length
   ·exact z
   ·rw[Di (by simpa using z)] at h2;rw[O8] at h2;split at h2<;>cases h2
  have L:vs[i]?=some v:=by
   unfold start at h2;rw[KC (by simpa using z),dF] at h2;cases e:vs[i]? with
   |none=>rw[e] at h2;cases h2
   |some a=>rw[e] at h2;cases h2;rfl
  obtain⟨u,I,rv⟩:=r.get L;have o:l[i]?=some y:=by
   rw[<- g.pre,Zo (by lia)];exact h1
  have J:l.Nodup:=by rw[<- g.pre];exact g.nd.sublist (List.take_sublist _ _)
  refine⟨u,rv,?_⟩;rcases g.par y (gC o) with k|k
  ·exact .inl ⟨k,Ef J o I k⟩
  ·obtain⟨c,e⟩:=IV (n:=s.heap.objs.size+1) k;refine .inr ⟨.inl k,c,e,?_⟩;have q:=x.cell y c e;rw[Ec J o I (by show scope.names.lookup y≠_;rw[k];decide)] at q;exact q
 ·exact d.hok.fresh (Ie (x.above y c (Cq h)))
 ·unfold start;show _=N.length;rw[cL,bf,Cm];lia
theorem a4S{CX:CXT}{l:Program}{w:World}{K:ao}{B:Str->Option Value}{base:Heap}{k:Nat}{f:Addr}{name h:Str}{M:Arguments}{D:List Stmt}{scope:Scope}{I kV J O g ct af:Value}{G ag:Option Addr}
  {ah:Array (Option Value)} {N C:List Str} {sp:Sp} (ae:K.lookup f=some ⟨af,ag,.func (PySem.W.fnOf name h M D scope I kV J O G g ct),ah⟩) (U:PySem.W.codeIn K g h=true) (m:aP N C scope)
  (len:∀ vs H Q a,sp vs H Q a->vs.length=C.length)
  (T:∀(A:Around)(j:List Env)(s:Shared)(H:Hp)(vs:List V)(Q:VK)(a:XK),gK k (A.deeper (envOfC h scope s.heap.objs.size f g))->sp vs H Q a ->
   ∃ t,PSs (oR CX l w K B base N h scope f g A j s H a) D t/\t { nx:=fun _ c=>Q .non c,rt:=Q } (start N vs) H) :
  cB l w K B base CX (k+1) f (PySem.W.fnOf name h M D scope I kV J O G g ct) C sp:=by
 refine⟨len,fun A j s H aj ai vs Q a E p S r L=>?_⟩;have Z:=len _ _ _ _ L;have F:K.In s.heap:=p.mod.kin.keeps fun b o e=>(p.bs b o e).1
 have ad:s.heap.NoLimit:=p.mod.nolimit.keeps fun b o e=>(p.bs b o e).1
 have Y:∀ y∈C.zip ai,scope.names.lookup y.1=some .local\/(scope.names.lookup y.1=some .cell/\((cellsFrom (s.heap.objs.size+1) scope.names []).lookup y.1).isSome=true):=fun⟨n,v⟩ ac=>by
  rcases m.par n (I8 ac).1 with q|q
  ·exact .inl q
  ·exact .inr ⟨q,Ob _ _ _ (.inl q)⟩
 refine codeAny_call_function E.depth (F _ _ ae) rfl m.co m.gen rfl (a03 F U) (S _ _ _ _ ?_);refine Zk m.kind Y fun ak X s1 x=>?_
 subst X;refine⟨ad.keeps x.toInCall.keep,codeAny_func ?_⟩;obtain⟨t,ab,aa⟩:=T A j s H vs Q a (E.deeper _) L;have P:Inv (oR CX l w K B base N h scope f g A j s H a) [] (start N vs) H s1:=Eu m E.hd p Z r x;refine jL (ab [] s1 (start N vs) H _ P aa) (fun R s' i=>?_) fun e s' i=>i
 have fin:∀ {z:St} {c:Hp} {v:V} {u:Value},Inv (oR CX l w K B base N h scope f g A j s H a) [] z c s'->RelV v u->Q v c->CE j l w H s Q u s':=
  fun {z c v u} d rv q=>⟨v,c,d.os,d.bare,d.base,d.hok,rv,q⟩
 cases R with
 |ret u=>
  obtain⟨v,z,c,d,rv,q⟩:=i;exact fin d rv q
 |next=>
  obtain⟨z,c,d,q⟩:=i;exact fin (v:=V.non) (u:=Value.none) d rfl q
 |brk=>
  obtain⟨_,_,_,q⟩:=i;exact False.elim q
 |cont=>
  obtain⟨_,_,_,q⟩:=i;exact False.elim q
section
variable{X:Cx}{x:Str}{p pos:Pos}{e:Expr}{es:List Expr}{t:TA}{id T:String}{r:List V->Hp->VK->Prop}
def tCB(r:List V->Hp->VK->Prop)(t:TA):TE:=fun zzs H Q=>t zzs H fun vs H1=>r vs H1 Q
theorem XH(d:eV X (.builtin id) r)(i:Gl X x)(j:X.mg x=none)(l:bootBuiltins x=some (.builtin id))(c:PA X (e::es) t) (k:x ≠ "__name__":=by decide) (f:(x==("__debug__" : Str))=false:=by decide)
  (g:starEach (e::es) X.env=(false,eval e X.env)::starEach es X.env:=by rfl) (hpl:(backTo pos (starEach es X.env)).any (·.1)=false:=by rfl):PE X (.Call (.Name x p) (e::es) [] pos) (tCB r t):=by
 intro pins s zzs H Q a h;refine Cw (Bd a i j l ?_ k f);exact PyProof.Rows.callWith_builtin1 (thn (c pos pins s zzs H _ a h) fun o s1 ⟨q,H1,b,n,m⟩=>d pins s1 zzs H1 q o Q b n m) g hpl
theorem Vd(d:eV X (.type T) r)(i:Gl X x)(j:X.mg x=none)(l:bootBuiltins x=some (.type T))(c:PA X (e::es) t) (k:x ≠ "__name__":=by decide) (f:(x==("__debug__" : Str))=false:=by decide)
  (g:starEach (e::es) X.env=(false,eval e X.env)::starEach es X.env:=by rfl) (hpl:(backTo pos (starEach es X.env)).any (·.1)=false:=by rfl):PE X (.Call (.Name x p) (e::es) [] pos) (tCB r t):=by
 intro pins s zzs H Q a h;refine Cw (Bd a i j l ?_ k f);exact O1 (thn (c pos pins s zzs H _ a h) fun o s1 ⟨q,H1,b,n,m⟩=>d pins s1 zzs H1 q o Q b n m) g hpl
end
end L2
namespace HT
open PySem PyProof.Rows
section
open PySem.SeqAt
open PySem.AutoSeq1 (wpAny_loadPart')
open PySem.MeetsSeq PySem.MeetsSeq2 PySem.MeetsSeq3
end
end HT
namespace L2
open PySem PySem.Spec PyProof.Rows
def ixN(n:Nat)(i:Int):Option Nat:=if 0<=i then(if i<n then some i.toNat else none) else if -(n:Int)<=i then some (i+n).toNat else none
def atI{α:Type}(xs:List α)(i:Int):Option α:=(ixN xs.length i).bind fun j=>xs[j]?
theorem Qf{n:Nat}{i:Int}{j:Nat}(h:ixN n i=some j):seqIndex? i n=some j/\j<n /\ -(n:Int)<=i/\i<n:=by
 unfold ixN at h;by_cases a:0<=i
 ·rw[aL a] at h;by_cases h1:i<n
  ·rw[aL h1] at h;have e:i.toNat=j:=iy h;exact⟨by rw[seqIndex_of a h1,e],by lia,by lia,h1⟩
  ·rw[aJ h1] at h;cases h
 ·rw[aJ a] at h;by_cases h1 : -(n:Int)<=i
  ·rw[aL h1] at h;have e:(i+n).toNat=j:=iy h;exact⟨by rw[seqIndex_neg (by lia) h1,e],by lia,h1,by lia⟩
  ·rw[aJ h1] at h;cases h
theorem FT{a:Type}{xs:List a}{i:Int}{v:a}(h:atI xs i=some v):∃ j,seqIndex? i xs.length=some j/\xs[j]?=some v/\j<xs.length /\ -(xs.length:Int)<=i/\i<xs.length:=by
 unfold atI at h;cases e:ixN xs.length i with
 |none=>rw[e] at h;cases h
 |some j=>
  rw[e] at h;obtain⟨h1,h2,b,c⟩:=Qf e;exact⟨j,h1,h,h2,b,c⟩
theorem dX{a:Type}{xs:List a}{j:Nat}{v:a}(h:xs[j]?=some v):atI xs (j:Int)=some v:=by
 have b:j<xs.length:=(lR.mp h).1;have e:ixN xs.length (j:Int)=some j:=by
  unfold ixN;rw[aL (by lia),aL (by lia)];simp
 unfold atI;rw[e];exact h
def Pz(b:Expr):Prop:=∀ o i,subscripted b false o i=operate [o,i] (getItem o i)
def IxR(X:Cx)(r:R2):Prop:=
 ∀(value slice:Expr)(pins:List (Addr×Obj))(s:Shared)(zzs:St)(H:Hp)(x y:V)(v u:Value)(Q:VK),Inv X pins zzs H s->RelV x v->RelV y u->r x y H Q ->
  subscripted slice false v u=operate [v,u] (getItem v u)->wpAny (model X.prog X.w) X.A (subscriptTail value slice v u) (EP X pins zzs Q) X.xe s
def MtR(X:Cx)(id:String)(r:V->List V->Hp->VK->Prop):Prop:=
 ∀(pins:List (Addr×Obj))(s:Shared)(zzs:St)(H:Hp)(x:V)(xs:List V)(v:Value)(us:List Value)(Q:VK),Inv X pins zzs H s->RelV x v->Vals xs us->r x xs H Q ->
  wpAny (model X.prog X.w) X.A (call (.builtin id) (v::us)) (EP X pins zzs Q) X.xe s
section
variable{X:Cx}{a b:Expr}{ta tb:TE}{pos:Pos}
theorem IxR.or{r c:R2}(h:IxR X r)(h':IxR X c):IxR X (fun x y H Q=>r x y H Q\/c x y H Q):=by
 intro value f pins s zzs H x y v u Q a d e q b;rcases q with q|q
 ·exact h value f pins s zzs H x y v u Q a d e q b
 ·exact h' value f pins s zzs H x y v u Q a d e q b
theorem a5i{r:R2}(g:IxR X r)(e:PE X a ta)(f:PE X b tb)(i:Pz b):PE X (.Subscript a b pos) (tOp r ta tb):=by
 intro pins s zzs H Q c h;exact Subscript_ (a2B e f c h fun v u s2 x y H2 d j k q=>g a b pins s2 zzs H2 x y v u Q d j k q (i _ _))
def a5v(K:ao):R2:=fun x y H Q=>∃ p xs i v,x=.ref p/\y=.int i/\SqL K H p xs/\atI xs i=some v/\Q v H
def a5x(K:ao):R2:=fun x y H Q=>∃ p xs i v,x=.ref p/\y=.int i/\SqT K H p xs/\atI xs i=some v/\Q v H
def a5w:R2:=fun x y H Q=>∃ z i c,x=.str z/\y=.int i/\z.length<=sizeLine/\atI z.cps.toList i=some c/\Q (.str ⟨#[c]⟩) H
theorem a0y:IxR X (a5v X.K):=by
 intro value G pins s zzs H x y v u Q c A B h f;obtain⟨p,xs,i,C,rfl,rfl,n,l,q⟩:=h;cases A;obtain⟨t,rfl⟩:=B;obtain⟨o,r,b,F⟩:=c.list n;obtain⟨j,h1,h2,D,g,k⟩:=FT l;obtain⟨w,d,z⟩:=r.get h2;have m:=r.length;have E:=ur;have fin:EP X pins zzs Q w s:=⟨C,H,c,z,q⟩
 by_cases e:0<=i
 ·have a:i.toNat=j:=by
   rw[seqIndex_of e k] at h1;exact iy h1
  exact item_listR b.isList e (by lia) (by rw[a];simpa using d) fin f
 ·have a:(i+(o.toArray.size:Int)).toNat=j:=by
   rw[seqIndex_neg (by lia) g] at h1;rw[cJ,<- m];exact iy h1
  exact subscriptTail_builtinR (x:=w) b.isList.typeIs slot_list_getitem.lookup
   (wpAny_getItem_list_neg (Q:=fun r s'=>r=w/\EP X pins zzs Q r s') b.isList (by lia) (by rw[cJ]<;>lia) (by lia) (by rw[a];simpa using d) ⟨rfl,fin⟩) f
theorem a3a:IxR X (a5x X.K):=by
 intro value E pins s zzs H x y v u Q a l m h g;obtain⟨p,xs,i,n,rfl,rfl,f,d,q⟩:=h;cases l;obtain⟨t,rfl⟩:=m;obtain⟨D,r,b,C⟩:=a.tuple f;obtain⟨j,h1,h2,o,z,A⟩:=FT d;obtain⟨w,c,k⟩:=r.get h2;have e:=r.length;have B:=ur;have fin:EP X pins zzs Q w s:=⟨n,H,a,k,q⟩
 exact subscriptTail_builtinR (x:=w) b.typeIs slot_tuple_getitem.lookup
  (getItem_tuple (j:=j) (Q:=fun r s'=>r=w/\EP X pins zzs Q r s') b (by lia) (by lia) (by rw[cJ,<- e];exact h1) (by simpa using c) ⟨rfl,fin⟩) g
theorem a2Z:IxR X a5w:=by
 intro value z pins s zzs H x y v u Q b n o h m;obtain⟨a,i,c,rfl,rfl,w,k,q⟩:=h;obtain⟨t,rfl⟩:=n;obtain⟨A,rfl⟩:=o;obtain⟨j,h1,h2,p,f,g⟩:=FT k;have l:a.cps.toList.length=a.length:=by simp[Str.length]
 rw[l] at h1 f g;have r:=ur;exact tail_any (typeIs_str s a t) slot_str_getitem.lookup (getItem_str (c:=c) (by
  have d:decide (i < -(2^63:Int))=false:=cU (by lia);have e:decide (i>=2^63)=false:=cU (by lia);rw[d,e,Bool.or_false]) (by rw[h1];simpa using h2) ⟨.str ⟨#[c]⟩,H,b.tok _,⟨_,rfl⟩,q⟩) m
def rIx(K:ao):R2:=fun x y H Q=>a5v K x y H Q\/a5x K x y H Q\/a5w x y H Q
theorem a2Y:IxR X (rIx X.K):=a0y.or (a3a.or a2Z)
theorem Mf(a:List Value)(n j:Nat)(u:Value):Obj.mapSeq (·.setIfInBounds j u) { cls:=.type "list",data:=.seq a.toArray n }={ cls:=.type "list",data:=.seq (a.set j u).toArray n }:=by
 simp[Obj.mapSeq]
theorem Inv.lst{pins:List (Addr×Obj)}{zzs:St}{H:Hp}{s:Shared}{p:Addr}{xs:List V}(I:Inv X pins zzs H s)(h:H p=some (.lst xs)) :
  ∃(a:List Value)(n:Nat),Vals xs a/\s.heap.get? p=some { cls:=.type "list",data:=.seq a.toArray n }/\xs.length<=sizeLine:=by
 obtain⟨b,a,n,r,e⟩:=I.hok p _ h;exact⟨a,n,r,e,b⟩
theorem Inv.a3h{pins:List (Addr×Obj)}{zzs:St}{H:Hp}{s:Shared}{p:Addr}{xs c:List V}{g its':List Value}{n a:Nat}{f:Obj->Obj}(I:Inv X pins zzs H s)(h:H p=some (.lst xs))
  (j:s.heap.get? p=some { cls:=.type "list",data:=.seq g.toArray n }) (d:f { cls:=.type "list",data:=.seq g.toArray n }={ cls:=.type "list",data:=.seq its'.toArray a }) (r:Vals c its') (hz:c.length<=sizeLine) (t:Nat) :
  Inv X pins zzs (upd H p (.lst c)) { s with heap:=s.heap.update p f,toks:=t }:=by
 have e:(s.heap.update p f).get? p=some { cls:=.type "list",data:=.seq its'.toArray a }:=by
  rw[Heap.get?_update_self f j (by rw[d]<;>rfl),d]
 refine I.write (x:=p) (e:=p) (by rw[h];trivial) (.inl rfl) (fun b u i q=>(Heap.get?_update_other _ _ (kI i)).trans q) ⟨_,e⟩ ?_;exact⟨hz,its',a,r,e⟩
def a2f:V->V->V->Hp->(Hp->Prop)->Prop:=fun o i v H Q=>∃ p xs k j,o=.ref p/\i=.int k/\H p=some (.lst xs)/\ixN xs.length k=some j/\Q (upd H p (.lst (xs.set j v)))
theorem set_list:VF X a2f:=by
 intro pins s zzs H o i v D C u Q d A z rv h;obtain⟨p,xs,k,j,rfl,rfl,m,x,q⟩:=h;cases A;obtain⟨t,rfl⟩:=z;obtain⟨w,n,r,c,y⟩:=d.lst m;obtain⟨h1,h2,g,l⟩:=Qf x;have b:=r.length;have B:=ur;have e:Inv X pins zzs (upd H p (.lst (xs.set j v))) { s with heap:=s.heap.update p (Obj.mapSeq (·.setIfInBounds j u)) }:=
  d.a3h m c (Mf w n j u) (r.set rv j) (by rw[I9];exact y) s.toks
 by_cases f:0<=k
 ·have a:k.toNat=j:=by
   rw[seqIndex_of f l] at h1;exact iy h1
  exact PySem.W.ki_setAt c f (by lia) (by rw[cJ,<- b];exact l) (by rw[a];exact⟨_,e,q⟩)
 ·have a:(k+(w.toArray.size:Int)).toNat=j:=by
   rw[seqIndex_neg (by lia) g] at h1;rw[cJ,<- b];exact iy h1
  exact PySem.W.ki_setBack c (by lia) (by rw[cJ,<- b];exact g) (by lia) (by rw[a];exact⟨_,e,q⟩)
def Qa:V->Bool
 |.non=>true
 |.bl _=>true
 |.int _=>true
 |.str _=>true
 |_=>false
def eqV:V->V->Bool
 |.non,.non=>true
 |.bl a,.bl b=>a==b
 |.bl a,.int b=>(if a then 1 else 0)==b
 |.int a,.bl b=>a==(if b then 1 else 0)
 |.int a,.int b=>a==b
 |.str a,.str b=>a==b
 |_,_=>false
theorem Lz{A:Around}{s:Shared}{y x:V}{u v:Value}(f:RelV y u)(c:RelV x v)(g:Qa y=true)(e:Qa x=true):SeqAt.EqAt A s u v (eqV y x):=by
 cases y with
 |non=>
  cases f;cases x with
  |non=>cases c;exact SeqAt.EqAt.same _
  |bl b=>cases c;exact SeqAt.EqAt.none_bool b
  |int b=>obtain⟨t,rfl⟩:=c;exact SeqAt.EqAt.none_int b t
  |str b=>obtain⟨t,rfl⟩:=c;exact SeqAt.EqAt.none_str b t
  |_=>exact absurd (show false=true from e) fP
 |bl a=>
  cases f;cases x with
  |non=>cases c;exact SeqAt.EqAt.bool_none a
  |bl b=>cases c;exact SeqAt.EqAt.bool_bool a b
  |int b=>obtain⟨t,rfl⟩:=c;exact SeqAt.EqAt.bool_int a b t
  |str b=>obtain⟨t,rfl⟩:=c;exact SeqAt.EqAt.bool_str a b t
  |_=>exact absurd (show false=true from e) fP
 |int a=>
  obtain⟨d,rfl⟩:=f;cases x with
  |non=>cases c;exact SeqAt.EqAt.int_none a d
  |bl b=>cases c;exact SeqAt.EqAt.int_bool a d b
  |int b=>obtain⟨t,rfl⟩:=c;exact SeqAt.EqAt.int_int a d b t
  |str b=>obtain⟨t,rfl⟩:=c;exact SeqAt.EqAt.int_str a d b t
  |_=>exact absurd (show false=true from e) fP
 |str a=>
  obtain⟨d,rfl⟩:=f;cases x with
  |non=>cases c;exact SeqAt.EqAt.str_none a d
  |bl b=>cases c;exact SeqAt.EqAt.str_bool a d b
  |int b=>obtain⟨t,rfl⟩:=c;exact SeqAt.EqAt.str_int a d b t
  |str b=>obtain⟨t,rfl⟩:=c;exact SeqAt.EqAt.str_str a d b t
  |_=>exact absurd (show false=true from e) fP
 |_=>exact absurd (show false=true from g) fP
theorem FW:eV X (.builtin "len") (fun xs H Q=>∃ p a,xs=[.ref p]/\(SqL X.K H p a\/SqT X.K H p a)/\Q (.int a.length) H):=by
 intro pins s zzs H xs l Q c r h;obtain⟨p,a,rfl,b,q⟩:=h;obtain⟨u,rfl,j⟩:=vals1 r;cases j;have k:=ur;rcases b with b|b
 ·obtain⟨i,f,e,g⟩:=c.list b;have d:=f.length;exact Calls.call_len_list e.isList (by simp only[cJ]<;>lia) ⟨.int a.length,H,c.tok _,⟨s.toks+1,by rw[cJ,d]⟩,q⟩
 ·obtain⟨i,f,e,g⟩:=c.tuple b;have d:=f.length;exact len_tuple e (by simp only[cJ]<;>lia) ⟨.int a.length,H,c.tok _,⟨s.toks+1,by rw[cJ,d]⟩,q⟩
theorem FZ:eV X (.builtin "len") (fun xs H Q=>∃ z,xs=[.str z]/\z.length<=sizeLine/\Q (.int z.length) H):=by
 intro pins s zzs H xs d Q a r h;obtain⟨z,rfl,c,q⟩:=h;obtain⟨u,rfl,t,rfl⟩:=vals1 r;have b:=ur;exact len_str (by lia) ⟨.int z.length,H,a.tok _,⟨_,rfl⟩,q⟩
theorem eV.or{f:Value}{r b:List V->Hp->VK->Prop}(h:eV X f r)(h':eV X f b):eV X f (fun xs H Q=>r xs H Q\/b xs H Q):=by
 intro pins s zzs H xs d Q a c q;rcases q with q|q
 ·exact h pins s zzs H xs d Q a c q
 ·exact h' pins s zzs H xs d Q a c q
theorem G7:eV X (.type "list") (fun xs H Q=>∃ p f,xs=[.ref p]/\(SqL X.K H p f\/SqT X.K H p f)/\∀ l,H l=none->Q (.ref l) (upd H l (.lst f))):=by
 intro pins s zzs H xs A Q k r h;obtain⟨p,f,rfl,g,q⟩:=h;obtain⟨u,rfl,z⟩:=vals1 r;cases z;have fin:∀(a:List Value),Vals f a->f.length<=sizeLine->∀(h':Heap)(c:Nat),(∀ b o',s.heap.get? b=some o'->h'.get? b=some o') ->
   h'.get? s.heap.objs.size=some { cls:=.type "list",dict:=none,data:=.seq a.toArray c,slots:=#[] }->EP X pins zzs Q (.ref s.heap.objs.size) { s with heap:=h' }:=fun a d i h' c j e=>
  ⟨.ref s.heap.objs.size,_,k.laid (t':=s.toks) j (bG _) (show g8 X.prog X.w _ h' _ (.lst f) from⟨i,a,c,d,e⟩),rfl,q _ (k.hok.fresh (bG _))⟩
 rcases g with g|g
 ·obtain⟨a,d,x,i⟩:=k.list g;have y:=d.length;obtain⟨o,v,m,n,t⟩:=x.isList;exact call_list_seq p (.inl rfl) v m t (fun h' c j e=>fin a d i h' c j e) (by simp only[cJ]<;>lia)
 ·obtain⟨a,d,x,i⟩:=k.tuple g;have y:=d.length;obtain⟨o,v,m,n,t⟩:=x;exact call_list_seq p (.inr rfl) v m t (fun h' c j e=>fin a d i h' c j e) (by simp only[cJ]<;>lia)
def tyV(K:ao)(T:String)(x:V)(H:Hp):Prop:=match x with
 |.str _=>T = "str"
 |.int _=>T = "int"
 |.ref p=>(T = "list" /\ ∃ xs,SqL K H p xs)\/(T = "tuple" /\ ∃ o,K.lookup p=some o/\o.cls=.type "tuple" /\ o.dict=none) \/
   (T = "dict" /\ ((∃ kvs,H p=some (.dK kvs))\/∃ kvs,H p=some (.dT kvs)))\/(T = "set" /\ ∃ S n,H p=some (.set S n))
 |_=>False
theorem Z4{pins:List (Addr×Obj)}{zzs:St}{H:Hp}{s:Shared}{T:String}{x:V}{v:Value}(I:Inv X pins zzs H s)(r:RelV x v)(ty:tyV X.K T x H) :
  s.TypeIs v T/\∀ a,v=.ref a->∃ ob,s.heap.get? a=some ob/\ob.dict=none:=by
 cases x with
 |str g=>
  obtain⟨t,rfl⟩:=r;cases (show T = "str" from ty);exact⟨typeIs_str s g t,fun _ e=>nomatch e⟩
 |int i=>
  obtain⟨t,rfl⟩:=r;cases (show T = "int" from ty);exact⟨typeIs_int s i t,fun _ e=>nomatch e⟩
 |ref p=>
  cases r;rcases ty with⟨rfl,xs,k⟩|⟨rfl,o,b,j,f⟩|⟨rfl,b⟩|⟨rfl,m,n,b⟩
  ·obtain⟨q,_,h,_⟩:=I.list k;refine⟨h.isList.typeIs,fun a e=>?_⟩;cases e;obtain⟨o,n,e,c,f,_⟩:=h;exact⟨o,e,f⟩
  ·refine⟨⟨o,I.kIn p o b,j⟩,fun a e=>?_⟩;cases e;exact⟨o,I.kIn _ o b,f⟩
  ·have g:∃ o,s.heap.get? p=some o/\o.ExactDict:=by
    rcases b with⟨l,b⟩|⟨l,b⟩
    ·obtain⟨_,_,_,_,o,_,_,e,ex,_⟩:=I.hok p _ b;exact⟨o,e,ex⟩
    ·obtain⟨_,_,_,_,o,_,_,e,ex,_⟩:=I.hok p _ b;exact⟨o,e,ex⟩
   obtain⟨o,e,ex⟩:=g;refine⟨⟨o,e,ex.1⟩,fun a d=>?_⟩;cases d;exact⟨o,e,ex.2.1⟩
  ·obtain⟨o,_,_,_,e,ex,_⟩:=I.hok p _ b;refine⟨⟨o,e,ex.1⟩,fun a d=>?_⟩;cases d;exact⟨o,e,ex.2.1⟩
 |_=>exact False.elim ty
def a4l(K:ao)(T:String)(r:V->List V->Hp->VK->Prop)(to:TE):TE:=fun zzs H Q=>to zzs H fun x H1=>tyV K T x H1/\r x [] H1 Q
def tBM(K:ao)(T:String)(r:V->List V->Hp->VK->Prop)(to:TE)(t:TA):TE:=fun zzs H Q=>to zzs H fun x H1=>tyV K T x H1/\t zzs H1 fun xs H2=>r x xs H2 Q
variable{o e:Expr}{es:List Expr}{to:TE}{t:TA}{name:Str}{apos cpos:Pos}{T id:String}{r:V->List V->Hp->VK->Prop}
theorem a3J(j:PlainAttrs T)(l:Slot T name id) (i:typeOf (.builtin id)=pure (.type "method_descriptor")) (f:MtR X id r) (g:PE X o to)
  (d:attributeBase o name X.env (eval o X.env)=eval o X.env:=by rfl) (e:(apos.endLine==cpos.line)=true:=by rfl):PE X (.Call (.Attribute o name apos) [] [] cpos) (a4l X.K T r to):=by
 intro pins s zzs H Q c h;refine wpAny_Call_method0_late d e (thn (g pins s zzs H _ c h) fun v s1 m=>?_);obtain⟨x,H1,a,b,ty,k⟩:=m;obtain⟨h1,h2⟩:=Z4 a b ty;exact⟨T,id,j,l,i,h1,h2,Calls.callWith_builtin rfl (PySem.evalArgs_none (f pins s1 zzs H1 x [] v [] Q a b .nil k))⟩
theorem a5h(u:PlainAttrs T)(A:Slot T name id) (q:typeOf (.builtin id)=pure (.type "method_descriptor")) (l:MtR X id r) (m:PE X o to) (g:PA X (e::es) t)
  (i:attributeBase o name X.env (eval o X.env)=eval o X.env:=by rfl)
  (j:((backTo cpos (starEach (e::es) X.env)).all (fun x=>!x.1)&&(backToKw cpos (keywordEach [] X.env)).all (fun x=>x.1.isSome)
   && decide ((e::es).length+([]:List Keyword).length+(if([]:List Keyword).isEmpty then 0 else 1)<30))=true:=by rfl)
  (k:(apos.endLine==cpos.line)=true:=by rfl) (p:starEach (e::es) X.env=(false,eval e X.env)::starEach es X.env:=by rfl) (n:(backTo cpos (starEach es X.env)).any (·.1)=false:=by rfl) :
  PE X (.Call (.Attribute o name apos) (e::es) [] cpos) (tBM X.K T r to t):=by
 intro pins s zzs H Q d h;refine wpAny_Call_method_late i j k rfl (thn (m pins s zzs H _ d h) fun v s1 D=>?_);obtain⟨x,H1,a,c,ty,w⟩:=D;obtain⟨h1,h2⟩:=Z4 a c ty;refine⟨T,id,u,A,q,h1,h2,?_⟩;have b:=g cpos pins s1 zzs H1 _ a w;rw[p] at b ⊢;refine Calls.callWith_builtin (by show(false||(backTo cpos (starEach es X.env)).any (·.1))=false;rw[n]<;>rfl) (Calls.evalArgs_plain ?_);exact thn b fun B s2 ⟨C,H2,f,z,y⟩=>l pins s2 zzs H2 x C v B Q f c z y
end
def MtM(X:Cx)(id:String)(r:V->List V->Hp->VK->Prop):Prop:=
 ∀(pins:List (Addr×Obj))(s:Shared)(zzs:St)(H:Hp)(x:V)(xs:List V)(v:Value)(us:List Value)(Q:VK),Inv X pins zzs H s->RelV x v->Vals xs us->r x xs H Q ->
  wpAny (model X.prog X.w) X.A (call (.builtin id) (v::us)) (EP X pins zzs Q) X.xe s
theorem Vals.one{x:V}{us:List Value}(h:Vals [x] us):∃ u,us=[u]/\RelV x u:=by
 cases h with
 |cons r t=>cases t;exact⟨_,rfl,r⟩
theorem Vals.zero:∀ {us:List Value},Vals [] us->us=[]
 |_,.nil=>rfl
theorem Vals.dropLast{xs:List V}{us:List Value}(h:Vals xs us):Vals xs.dropLast us.dropLast:=by
 induction h with
 |nil=>exact .nil
 |cons r t a=>
  cases t with
  |nil=>exact .nil
  |cons q b=>exact .cons r a
theorem Vals.rep{xs:List V}{us:List Value}(h:Vals xs us):∀ k:Nat,Vals (List.replicate k xs).flatten (List.replicate k us).flatten
 |0=>.nil
 |k+1=>by
  rw[u5,u5,z8,z8];exact Vals.append h (Vals.rep h k)
theorem LC{d:Type}(l:List d):l.eraseIdx (l.length-1)=l.dropLast:=by
 induction l with
 |nil=>rfl
 |cons a r c=>
  cases r with
  |nil=>rfl
  |cons b r=>
   have e:(a::b::r).length-1=((b::r).length-1)+1:=by
    have h1:(a::b::r).length=r.length+2:=rfl;have h2:(b::r).length=r.length+1:=rfl;lia
   rw[e,List.eraseIdx_cons_succ,c]
   all_goals rfl
theorem foldl_rep(a:List Value):∀(k:Nat)(acc:List Value),
  List.foldl (fun c d=>c++d) acc.toArray (List.replicate k a.toArray)=(acc++(List.replicate k a).flatten).toArray
 |0,acc=>by simp
 |k+1,acc=>by
  have e:acc.toArray++a.toArray=(acc++a).toArray:=by simp
  have b:(acc++a)++(List.replicate k a).flatten=acc++(List.replicate (k+1) a).flatten:=by
   rw[u5,z8,z9]
  rw[<- b,<- foldl_rep a k (acc++a),<- e,u5,zj]
section
variable{X:Cx}{pins:List (Addr×Obj)}{zzs:St}{H:Hp}{s:Shared}{l b:Addr}{xs ys zs:List V}
theorem Inv.a0H{a its':List Value}{n:Nat}{f:Array Value->Array Value}{t':Nat}(I:Inv X pins zzs H s)(b:H l=some (.lst xs))
  (e:s.heap.get? l=some { cls:=.type "list",data:=.seq a.toArray n }) (d:f a.toArray=its'.toArray) (h:Vals ys its') (hz:ys.length<=sizeLine) :
  Inv X pins zzs (upd H l (.lst ys)) { s with heap:=s.heap.update l (Obj.mapSeq f),toks:=t' }:=by
 have q:=PySem.IsL.update e f;rw[d] at q;refine I.write (x:=l) (e:=l) (by rw[b];exact trivial) (.inl rfl) (fun i u c g=>(Heap.get?_update_other s.heap (Obj.mapSeq f) (kI c)).trans g) ⟨_,q⟩ ?_;exact⟨hz,its',_,h,q⟩
theorem Inv.a5c{a:List Value}{t':Nat}(I:Inv X pins zzs H s)(b:Vals ys a)(hz:ys.length<=sizeLine) :
  Inv X pins zzs (upd H s.heap.objs.size (.lst ys)) { s with heap:=s.heap.push { cls:=.type "list",data:=.seq a.toArray },toks:=t' }:=
 I.laid (fun _ _ q=>fB _ q) (bG _) ⟨hz,a,0,b,jQ _ rfl⟩
theorem Inv.fresh(I:Inv X pins zzs H s):H s.heap.objs.size=none:=I.hok.fresh (bG _)
theorem Inv.Jy(I:Inv X pins zzs H s)(b:H l=some (.lst xs)):xs.length<=sizeLine/\∃(a:List Value)(n:Nat),Vals xs a/\xs.length=a.length/\s.heap.get? l=some { cls:=.type "list",data:=.seq a.toArray n }:=by
 obtain⟨c,a,n,r,e⟩:=I.hok l _ b;exact⟨c,a,n,r,r.length,e⟩
theorem Bj{n:Nat}(h:n<=sizeLine):Builtin.List.listTooLong n=false:=by
 unfold Builtin.List.listTooLong;exact cU (by lia)
end
section
variable{X:Cx}
def S6:V->List V->Hp->VK->Prop:=fun x vs H Q=>∃ l xs y,x=.ref l/\vs=[y]/\H l=some (.lst xs)/\xs.length<sizeLine/\Q .non (upd H l (.lst (xs++[y])))
theorem gV:MtM X "list.append" S6:=by
 intro pins s zzs H x k v j Q a f rv h;obtain⟨l,xs,y,rfl,rfl,b,i,q⟩:=h;cases f;obtain⟨u,rfl,d⟩:=rv.one;obtain⟨m,c,n,r,g,e⟩:=a.Jy b;refine nG F.slot_list_append ⟨_,e,rfl⟩ F.entry_list_append (F.args_list_append_2 _ _) (PySem.list_append l c.toArray n u (by rw[cJ];lia)) ⟨e,?_⟩;refine⟨.non,_,a.a0H (its':=c++[u]) b e (by simp) (r.append (.cons d .nil)) ?_,rfl,q⟩;rw[cL,lE];lia
def a1w:V->List V->Hp->VK->Prop:=fun x vs H Q=>∃ l b xs zs,x=.ref l/\vs=[.ref b]/\H l=some (.lst xs)/\H b=some (.lst zs)/\xs.length+zs.length<=sizeLine/\Q .non (upd H l (.lst (xs++zs)))
theorem UJ:MtM X "list.extend" a1w:=by
 intro pins s zzs H x B v A Q d t rv h;obtain⟨l,b,xs,zs,rfl,rfl,f,j,z,q⟩:=h;cases t;obtain⟨u,rfl,p⟩:=rv.one;cases p;obtain⟨C,a,n,r,w,e⟩:=d.Jy f;obtain⟨D,c,m,o,y,i⟩:=d.Jy j;have k:a.toArray.size+c.toArray.size<=sizeLine:=by rw[cJ,cJ];lia
 have g:¬(!a.toArray.isEmpty&&Builtin.List.listTooLong (a.toArray.size+c.toArray.size))=true:=by
  rw[Bj k,yC];exact fP
 refine nG F.slot_list_extend ⟨_,e,rfl⟩ F.entry_list_extend (F.args_list_extend_2 _ _)
  (AutoSeq1.list_extend_list_list_0 l a.toArray n b c.toArray m g (by rw[cJ];lia) (by lia)) ⟨e,i,?_⟩
 refine⟨.non,_,d.a0H (its':=a++c) f e (by simp) (r.append o) ?_,rfl,q⟩;rw[cL];omega
def a6w:V->List V->Hp->VK->Prop:=fun x vs H Q=>∃ l xs y,x=.ref l/\vs=[]/\H l=some (.lst xs)/\xs[xs.length-1]?=some y/\Q y (upd H l (.lst xs.dropLast))
theorem Xg:MtM X "list.pop" a6w:=by
 intro pins s zzs H x p v o Q b m rv h;obtain⟨l,xs,y,rfl,rfl,c,i,q⟩:=h;cases m;have g:=rv.zero;subst g;obtain⟨t,a,n,r,d,e⟩:=b.Jy c;obtain⟨u,f,k⟩:=r.get i;have j:a.toArray[a.toArray.size-1]?=some u:=by
  show a.toArray[a.length-1]?=some u;rw[<- Ft,<- d];exact f
 refine nG F.slot_list_pop ⟨_,e,rfl⟩ F.entry_list_pop (F.args_list_pop_1 _) (MeetsSeq.list_pop_last l a.toArray n u j (by rw[cJ];lia)) ⟨e,?_⟩;refine⟨y,_,b.a0H (its':=a.dropLast) c e ?_ r.dropLast ?_,k,q⟩
 ·show a.toArray.eraseIdxIfInBounds (a.toArray.size-1)=a.dropLast.toArray;rw[cJ,List.eraseIdxIfInBounds_toArray,LC]
 ·rw[List.length_dropLast];lia
def a6u:R2:=fun x y H Q=>∃ l b xs zs,x=.ref l/\y=.ref b/\H l=some (.lst xs)/\H b=some (.lst zs)/\xs.length+zs.length<=sizeLine/\∀ p,H p=none->Q (.ref p) (upd H p (.lst (xs++zs)))
theorem a3z:OpR X (binaryOp .Add) a6u:=by
 intro pins s zzs H x y v u Q a k m h;obtain⟨l,b,xs,zs,rfl,rfl,i,g,t,q⟩:=h;cases k;cases m;obtain⟨z,c,n,r,o,e⟩:=a.Jy i;obtain⟨A,d,w,j,p,f⟩:=a.Jy g;refine PySem.P.add_list e f ?_ (by rw[cJ,cJ];lia);have ea:c.toArray++d.toArray=(c++d).toArray:=by simp
 rw[ea];exact⟨.ref _,_,a.a5c (t':=s.toks) (r.append j) (by rw[cL];omega),rfl,q _ a.fresh⟩
def a6x:R2:=fun x y H Q=>∃ l k xs,x=.ref l/\y=.int k/\H l=some (.lst xs) /\ -(2^63)<=k/\k<2^63/\xs.length*k.toNat<=sizeLine /\
 ∀ p,H p=none->Q (.ref p) (upd H p (.lst (List.replicate k.toNat xs).flatten))
theorem len_rep{b:Type}(xs:List b)(k:Nat):(List.replicate k xs).flatten.length=k*xs.length:=by
 induction k with
 |zero=>simp
 |succ k a=>rw[u5,z8,cL,a,Nat.succ_mul,Nat.add_comm]
theorem a3G:OpR X (binaryOp .Mult) a6x:=by
 intro pins s zzs H x y v u Q c C D h;obtain⟨l,k,xs,rfl,rfl,o,h1,h2,g,q⟩:=h;cases C;obtain⟨t,rfl⟩:=D;obtain⟨G,b,n,r,z,e⟩:=c.Jy o;have A:b.toArray.size*k.toNat<=sizeLine:=by rw[cJ,<- z];exact g
 have p:¬b.toArray.size*k.toNat>(2^63-1) / 8:=by
  have:(sizeLine:Nat)<=(2^63-1) / 8:=by decide
  lia
 have w:¬(!Builtin.List.listFitsIndex k)=true:=by
  rw[fitsIndex_both h1 h2];exact fP
 have i:¬Builtin.List.listTooLong (b.toArray.size*k.toNat)=true:=by
  rw[Bj A];exact fP
 have B:List.foldl (fun d f=>d++f) #[] (List.replicate (if b.toArray.isEmpty=true then 0 else k.toNat) b.toArray)=(List.replicate k.toNat b).flatten.toArray:=by
  have j:∀ m:Nat,List.foldl (fun d f=>d++f) #[] (List.replicate m b.toArray)=(List.replicate m b).flatten.toArray:=fun m=>by
   have:=foldl_rep b m [];rw[Pg] at this;exact this
  rw[j];cases b with
  |nil=>simp
  |cons a E=>rw[aJ (by simp)]
 refine wpAny_binaryOp_repeat_ref (T:="list") (U:="int") (by decide) ⟨_,e,rfl⟩ (fun s'=>typeIs_int s' k t) noFill_list_mul F.fills_int_mul F.slot_int_rmul repeat_list F.slot_int_index.lookup
  (nG F.slot_int_rmul (typeIs_int s k t) F.entry_int_rmul (F.args_int_rmul_2 _ _) (int___rmul___int_list k t l b.toArray n)
   ⟨e,rfl,⟨_,e,rfl⟩,nG F.slot_list_mul ⟨_,e,rfl⟩ F.entry_list_mul (F.args_list_mul_2 _ _) (AutoListH.list___mul___list_int_3 l b.toArray n k t w p i) ⟨e,?_⟩⟩)
 rw[B];exact⟨.ref _,_,c.a5c (t':=s.toks) (r.rep k.toNat) (by rw[len_rep,Nat.mul_comm];exact g),rfl,q _ c.fresh⟩
end
end L2
namespace Att
open PySem PySem.W PySem.Calls PyProof.Rows
theorem zp{d:Params}{h:Heap}:∀(c:List Int)(vs:List Value),WellAll d h vs (c.map WData.int)->IntsAre vs c:=by
 intro c
 induction c with
 |nil=>
  intro vs w;rw[Ih] at w;cases w;exact .nil
 |cons n c e=>
  intro vs w;rw[eU] at w;cases w with
  |cons a b=>
   cases a;exact .cons _ _ (e _ b)
theorem Vp{l:OpenLaw}{n:Nat}(p:l.most=some n){j:Params}{h:Heap}{args:List WData}{i:List Value}
  (g:l.row.toRowW.claim.pre args=true) (u:WellAll j h i args) :
  ∃ a vs b,i=[Value.ref a]/\args=[WData.list (b.map WData.int)]/\h.get? a=some { cls:=.type "list",data:=.seq vs.toArray }/\IntsAre vs b/\b.length<=n:=by
 have t:WShape.hasAll [] args [.list .int]=true:=(pre_splitW g).1;have f:l.pre.holds [] { args:=args }=true:=(pre_splitW g).2;obtain⟨d,r,rfl,h1,h2⟩:=hasAllW_cons t;obtain rfl:=hasAllW_nil h2;obtain⟨xs,rfl,k⟩:=hasW_list h1;obtain⟨b,rfl⟩:=items_int k;have o:b.length<=n:=by
  unfold OpenLaw.pre at f;have c:(WTm.not (.lt (.lit (.int (n:Int))) (.len (.arg 0)))).holds [] { args:=[.list (b.map .int)] }=true:=by
   have c:=(holds_andW f).1;rw[p] at c;exact c
  have e:=condW_of c (w_not (w_lt w_lit (w_len_list (w_arg rfl))));rw[bf] at e;refine Nat.le_of_not_lt fun q=>?_
  have v:(n:Int)<((b.length:Nat):Int):=by omega
  first
   |(rw[cR v] at e;exact absurd e (by decide))
   |(simp at e;omega)
 cases u with
 |cons w x=>
  cases x;cases w with
  |list s m=>exact⟨_,_,b,rfl,rfl,s,zp b _ m,o⟩
theorem Vj(l:OpenLaw)(args:List WData):l.row.toRowW.claim.post args (.bool true) args=true:=
 postW_of (r:=l.row.toRowW) (X:=(true==true))
  (show WShape.has [] (.bool true) .bool=true by first|rfl|decide|simp[WShape.has,WShape.arms,WShape.armsAll])
  (show(WTm.eq .res (.lit (.bool true))).value [] { args:=args,res:=some (.bool true),after:=args }=some (.bool (true==true)) from w_eq_bool (w_res rfl) w_lit) rfl
theorem Iz{l:OpenLaw}{n:Nat}{q:Program}{v:List Str}{s:(Str->Option Value)->Heap->Prop}{t:World->Heap->Prop}{d:DefRec}
  (J:l.most=some n) (D:d.params.defaults=[])
  (call:∀(w:World)(p b:Shared)(g k:Str->Option Value)(c:Addr)(o:Obj)(m e j:Value)(a:Addr)(vs:List Value)(h:List Int),
   Ground q v [] s w p g k b.heap->t w b.heap ->
   b.heap.get? c=some o->o.data=.func (docDef d.name d.params d.body d.scope m e j)->b.heap.CodeRec e d.name->g d.name=some (.ref c) ->
   b.heap.get? a=some { cls:=.type "list",data:=.seq vs.toArray }->IntsAre vs h->h.length<=n->b.gens=#[] ->
   codeAny (model l.prog w) callerA (.call (.ref c) ⟨[.ref a],[]⟩) (fun r i=>r=.ok (.ret (.bool true))/\OldK b.heap i.heap/\i.os=b.os/\AllBare i.gens) b) :
  WalkO q v s t l.row.toRowW d [] (fun f vs=>PySem.call f vs):=by
 intro w p b g k x Y c o m e j y kV K C B u I E P U Q M R T O S;obtain rfl:y=.none:=Dflts.none u D;obtain rfl:kV=.none:=Dflts.noKw u;obtain⟨a,vs,h,rfl,rfl,L,F,G⟩:=Vp J M O;refine enter_call (yF (call w p b g k c o m e j a vs h x Y K (fd_plain C) B I L F G E) fun r i N=>?_);obtain⟨rfl,h2,z,A⟩:=N;exact⟨.inl ⟨.bool true,.bool true,[],rfl,fun _=>rfl,.bool true,Vj l _,fun _=>⟨List.Pairwise.nil,fun _ H=>(nomatch H)⟩⟩,h2,z,A⟩
end Att
namespace L2
open PySem PySem.Spec PyProof.Rows
theorem Fq:∀ {vs:List Value} {a:List Int},IntsAre vs a->Vals (a.map V.int) vs
 |_,_,.nil=>.nil
 |_,_,.cons n t h=>.cons ⟨t,rfl⟩ (Fq h)
def Only(H:Hp):Prop:=∀ b,H b=none\/∃ o xs,H b=some (.frz o (.lst xs))
theorem X5{j:Program}{w:World}{K:ao}{p E:Str->Option Value}{CX:CXT}{k:Nat}{C a:Addr}{M:FuncData}{x:Str}{sp:Sp}{c:Shared}{vs:List Value}{t:List Int}
  (G:K.In c.heap) (S:c.heap.Ns mainGlobals p) (g:c.heap.Ns builtinsNs E) (ae:∀ x:Str,x ≠ "__name__" -> E x=bootBuiltins x) (ah:c.heap.NoLimit) (ag:c.gens=#[])
  (z:c.heap.get? a=some { cls:=.type "list",data:=.seq vs.toArray }) (Q:IntsAre vs t) (R:t.length<=sizeLine) (aj:gK k callerA)
  (F:∀ base:Heap,K.In base->base.Ns mainGlobals p->cB j w K p base CX k C M [x] sp) (af:∀(s:Shared)(u:Value),BindsTo s M ⟨[u],[]⟩ [(x,u)])
  (ak:∀ H:Hp,Only H->SqL K H a (t.map V.int)->sp [.ref a] H (fun v _=>v=.bl true) fun _ _ _=>False)
  (aa:∀ H e i,CX [] H c (fun _ _ _=>False) e i->False) :
  codeAny (model j w) callerA (.call (.ref C) ⟨[.ref a],[]⟩) (fun r i=>r=.ok (.ret (.bool true))/\OldK c.heap i.heap/\i.os=c.os/\AllBare i.gens) c:=by
 have rv:=Fq Q;have al:=Q.length;have J:∀ H:Hp,Only H->SqL K H a (t.map V.int)->HOk j w H c.heap->(∀ b,H b≠none->b=a)->(H a≠none->K.lookup a=none) ->
   codeAny (model j w) callerA (.call (.ref C) ⟨[.ref a],[]⟩) (fun r i=>r=.ok (.ret (.bool true))/\OldK c.heap i.heap/\i.os=c.os/\AllBare i.gens) c:=by
  intro H P ad T N ab;have I:∀ {b:Addr} {o:Obj},c.heap.get? b=some o->H b=none->(Gk c.heap H).get? b=some o:=fun e n=>Wu e n
  have noA:∀ {b:Addr} {o:Obj} {es:Array DictEntry} {l:Nat},c.heap.get? b=some o->o.data=.dict es l->H b=none:=fun {b o es l} e d=>by
   cases q:H b with
   |none=>rfl
   |some u=>
    have B:b=a:=N b (by rw[q];simp);subst B;rw[z] at e;cases e;have W:Data.seq vs.toArray _=Data.dict es l:=d;cases W
  have A:∀ {b:Addr} {m:Str->Option Value},c.heap.Ns b m->(Gk c.heap H).Ns b m:=fun {b m} ⟨o,es,l,e,d,r⟩=>⟨o,es,l,I e (noA e d),d,r⟩
  have O:K.In (Gk c.heap H):=fun b o e=>I (G b o e) (by
   cases q:H b with
   |none=>rfl
   |some u=>
    have B:b=a:=N b (by rw[q];simp);subst B;rw[ab (by rw[q];simp)] at e;cases e)
  have ac:Mod K p (Gk c.heap H):=⟨O,A S,⟨E,A g,ae⟩,let ⟨mc,h1,h2⟩:=ah;⟨mc,A h1,h2⟩⟩
  have X:Io j w K p (Gk c.heap H) callerA [] c H:=⟨rfl,ac,fun b o e=>a0O e,Nat.le_of_eq (Uo _ _),trivial,fun b g=>absurd (show b∈([]:List Addr) from g) (by simp),T,.of_eq ag⟩
  refine yF ((F _ O (A S)).run callerA [] c H ⟨[.ref a],[]⟩ [.ref a] [.ref a] _ _ aj X (af c (.ref a)) (.cons rfl .nil) (ak H P ad)) fun r i h=>?_
  cases r with
  |error e=>exact(aa H e i h).elim
  |ok Z=>
   cases Z with
   |next=>exact False.elim h
   |brk=>exact False.elim h
   |cont=>exact False.elim h
   |ret u=>
    obtain⟨v,H',an,U,un,ai,aq,q⟩:=h;have ap:v=.bl true:=q;subst ap;obtain rfl:u=Value.bool true:=aq;refine⟨rfl,OldK.of_keep fun b o e=>?_,an,U⟩;cases q:H b with
    |none=>exact un.keep b o e q (by intro f;exact absurd (show b∈([]:List Addr) from f) (by simp)) (by simp)
    |some u=>
     rcases P b with f|⟨am,xs,f⟩
     ·rw[q] at f;cases f
     ·have ar:=un.pZ b am _ f;obtain⟨L,_⟩:=T b _ f;obtain⟨Y,_⟩:=ai b _ ar;rw[e] at L;cases L;exact Y
 cases D:K.lookup a with
 |some o=>
  have e:=G a o D;rw[z] at e;cases e;refine J (fun _=>none) (fun _=>.inl rfl) (.inr ⟨_,vs.toArray,_,D,rfl,rfl,rfl,by rw[cJ,al];exact R,by simpa using rv⟩) (fun b u f=>by have y:(none:Option HO)=some u:=f;cases y) (fun b f=>absurd rfl f) fun f=>absurd rfl f
 |none=>
  refine J (fun b=>if b=a then some (.frz { cls:=.type "list",data:=.seq vs.toArray } (.lst (t.map V.int))) else none) (fun b=>?_) (.inl (.inr ⟨{ cls:=.type "list",data:=.seq vs.toArray },aL rfl⟩)) (fun b u f=>?_) (fun b f=>?_) fun _=>D
  ·by_cases g:b=a
   ·exact .inr ⟨_,_,aL g⟩
   ·exact .inl (aJ g)
  ·by_cases g:b=a
   ·have y:=(aL g).symm.trans f;cases y;subst g;exact⟨z,by rw[bf];exact R,vs,_,rv,z⟩
   ·have y:=(aJ g).symm.trans f;cases y
  ·by_cases g:b=a
   ·exact g
   ·exact absurd (aJ g) f
theorem a1R{l:PySem.W.OpenLaw}{n k:Nat}{q:Program}{U:List Str}{A:(Str->Option Value)->Heap->Prop}{y:World->Heap->Prop}{d:DefRec}{K:Params->ao}{CX:World->CXT}{sp:World->Sp}{x:Str}
  (O:l.most=some n) (P:n<=sizeLine) (J:d.params.defaults=[]) (R:gK k callerA)
  (G:∀(w:World)(h:Heap),y w h->(K w.params).In h)
  (F:∀(w:World)(c:Str->Option Value)(j:Addr)(h:Heap),(K w.params).In h->h.Ns mainGlobals c->c d.name=some (.ref j) ->
   ∃ p:FuncData,(∀(s:Shared)(u:Value),BindsTo s p ⟨[u],[]⟩ [(x,u)]) /\
    ∀ base:Heap,(K w.params).In base->base.Ns mainGlobals c->cB l.prog w (K w.params) c base (CX w) k j p [x] (sp w))
  (S:∀(w:World)(H:Hp)(a:Addr)(m:List Int),m.length<=n->Only H->SqL (K w.params) H a (m.map V.int)->sp w [.ref a] H (fun v _=>v=.bl true) fun _ _ _=>False)
  (B:∀(w:World)(H:Hp)(s:Shared)(e:Value)(r:Shared),CX w [] H s (fun _ _ _=>False) e r->False) :
  PySem.W.WalkO q U A y l.row.toRowW d [] (fun f vs=>PySem.call f vs):=by
 refine Att.Iz O J fun w ad X c ac j o pm cd doc a vs m i Y ab aa Z N Q M z L=>?_
 have t:=G w _ Y;obtain⟨p,I,C⟩:=F w c j _ t i.T.g N;exact X5 t i.T.g i.T.b i.T.builtins i.T.nolimit L Q M (dU z P) R C I (fun H D E=>S w H a m z D E) fun H e r=>B w H X e r
def inClass(s:Stmt)(j:Nat):Stmt:=match s with
 |.ClassDef _ _ _ body _ _ _ _ _ _ _=>body.getD j (.Pass ⟨0,0,0,0⟩)
 |_=>.Pass ⟨0,0,0,0⟩
def jC(s:Stmt):Arguments:=match s with
 |.FunctionDef _ a _ _ _ _ _ _ _ _=>a
 |_=>{ posonlyargs:=[],args:=[],vararg:=none,kwonlyargs:=[],kw_defaults:=[],kwarg:=none,defaults:=[] }
def fZ(s:Stmt):List Stmt:=match s with
 |.FunctionDef _ _ b _ _ _ _ _ _ _=>b
 |_=>[]
def aH(s:Stmt):Scope:=match s with
 |.FunctionDef _ _ _ _ _ _ sc _ _ _=>sc
 |_=>{ kind:=.function,names:=[],isGenerator:=false,isCoroutine:=false }
abbrev E0:XK:=fun _ _ _=>False
structure Fun(K:ao)(x qual:Str)(st:Stmt)(f:Addr)(fd:FuncData):Prop where
 ex:∃(oc:Value)(od:Option Addr)(kV doc pm:Value)(an:Option Addr)(cdv ct:Value)(osl:Array (Option Value)),
  fd=PySem.W.fnOf x qual (jC st) (fZ st) (aH st) .none kV doc pm an cdv ct/\K.lookup f=some ⟨oc,od,.func fd,osl⟩/\PySem.W.codeIn K cdv qual=true
 kp:PySem.W.keepIn K (.ref f)=true
section
variable{P:Program}{w:World}{K:ao}{mg:Str->Option Value}{base:Heap}
theorem Fun.binds{x i:Str}{st:Stmt}{f:Addr}{g:FuncData}{e:List Str}(F:Fun K x i st f g)
  (h:∀(kV c d:Value)(a:Option Addr)(b ct:Value)(us:List Value),us.length=e.length->bindArgs (PySem.W.fnOf x i (jC st) (fZ st) (aH st) .none kV c d a b ct) ⟨us,[]⟩=pure (e.zip us)):Binds K g e []:=by
 obtain⟨oc,od,kV,c,d,a,b,ct,osl,rfl,k,j⟩:=F.ex;exact .all (h kV c d a b ct)
theorem Wr{x b:Str}{st:Stmt}{f:Addr}{h:Value}{i d:Option Addr}{j:Array (Option Value)}{kV e g a ct:Value}(l:K.lookup f=some ⟨h,i,.func (PySem.W.fnOf x b (jC st) (fZ st) (aH st) .none kV e g d a ct),j⟩)
  (c:PySem.W.codeIn K a b=true) (k:PySem.W.keepIn K (.ref f)=true):Fun K x b st f (PySem.W.fnOf x b (jC st) (fZ st) (aH st) .none kV e g d a ct):=⟨⟨h,i,kV,e,g,d,a,ct,j,rfl,l,c⟩,k⟩
end
theorem iZ{A a:Prop}(h:a):if false=true then A else a:=by
 rw[aJ fP];exact h
theorem jw{A a:Prop}(h:A):if true=true then A else a:=by
 rw[aL rfl];exact h
theorem Wx{c A a:Prop} [Decidable c] (b:c->A) (d:¬c->a):if c then A else a:=by
 by_cases h:c
 ·rw[aL h];exact b h
 ·rw[aJ h];exact d h
def Same(H H':Hp):Prop:=∀ b o,H b=some o->H' b=some o
theorem Same.refl(H:Hp):Same H H:=fun _ _ h=>h
theorem Same.trans{H d e:Hp}(a:Same H d)(b:Same d e):Same H e:=fun c o h=>b c o (a c o h)
theorem Same.free{H a:Hp}(e:Same H a){l:Addr}(h:a l=Option.none):H l=Option.none:=by
 cases q:H l with
 |none=>rfl
 |some o=>
  rw[e l o q] at h;cases h
theorem Same.seq{K:ao}{H b:Hp}{a:Addr}{xs:List V}(e:Same H b)(h:SqL K H a xs):SqL K b a xs:=by
 rcases h with(h|⟨o,h⟩)|h
 ·exact .inl (.inl (e _ _ h))
 ·exact .inl (.inr ⟨o,e _ _ h⟩)
 ·exact .inr h
theorem Vals.a4F{x:V}{u:Value}(r:RelV x u):Vals [x] [u]:=.cons r .nil
theorem Inv.track{X:Cx}{pins:List (Addr×Obj)}{zzs:St}{H:Hp}{s:Shared}{a:Addr}{o:HO}(I:Inv X pins zzs H s)(t:H a=none)(h0:X.s₀.heap.objs.size<=a)(m:a≠X.env.locals)
  (r:∀ x c,X.env.cells.lookup x=some c->c≠a) (y:∀ p∈X.pn++pins,p.1≠a) (new:g8 X.prog X.w (upd H a o) s.heap a o):Inv X pins zzs (upd H a o) s:=by
 have f:∀ b u,H b=some u->b≠a:=fun b u e=>aR e t
 refine⟨I.ok,I.os,I.bare,⟨I.base.keep,I.base.slot,fun b u e n z=>?_,I.base.there,fun b xs e=>?_,fun b u xs e=>?_,fun b ps e=>?_⟩,I.loc,I.cell,?_,fun x c e=>?_,fun p q=>?_,fun b u e=>?_,I.len⟩
 ·rw[aN (gR (jH (bZ e) h0))];exact I.base.free b u e n z
 ·have d:=I.base.tups b xs e;rw[aN (f b _ d)];exact d
 ·have d:=I.base.pZ b u xs e;rw[aN (f b _ d)];exact d
 ·obtain⟨more,d⟩:=I.base.qJ b ps e;exact⟨more,by rw[aN (f b _ d)];exact d⟩
 ·rw[aN (kI m)];exact I.free
 ·rw[aN (r x c e)];exact I.jO x c e
 ·obtain⟨h,i,j,k,l⟩:=I.pin p q;exact⟨h,by rw[aN (y p q)];exact i,j,k,l⟩
 ·by_cases g:b=a
  ·subst g;rw[aC] at e;cases e;exact new
  ·rw[aN g] at e;exact(I.hok b u e).stay (fun c v _ q=>q) (fun c q=>by rw[aN (f c _ q)];exact q) fun c xs q=>by rw[aN (f c _ q)];exact q
def dR:List (Str×NameKind)->List (Str×Addr)->List (Str×Addr)->List (Str×Addr)
 |[],_,acc=>acc
 |(n,k)::r,cells,acc=>if k==.free then dR r cells ((n,(cells.lookup n).getD 0)::acc) else dR r cells acc
theorem Lj{b:Env}:∀(names:List (Str×NameKind))(acc:List (Str×Addr)),(∀ y∈names,y.2=.free->∃ c,b.cells.lookup y.1=some c) ->
  (forIn names acc fun x e=>(if x.2==NameKind.free then do let a <- cellOf b x.1;pure (ForInStep.yield ((x.1,a)::e)) else pure (ForInStep.yield e):Sem (ForInStep (List (Str×Addr)))))=pure (dR names b.cells acc):=by
 intro names
 induction names with
 |nil=>intro acc _;rfl
 |cons p r l=>
  intro acc h;obtain⟨n,k⟩:=p;rw[List.forIn_cons];have j:∀ y∈r,y.2=.free->∃ c,b.cells.lookup y.1=some c:=fun y q=>h y (eO _ q)
  by_cases i:k=.free
  ·subst i;obtain⟨c,o⟩:=h (n,.free) cV rfl;have g:b.cells.lookup n=some c:=o;have m:cellOf b n=pure c:=by unfold cellOf;rw[g]
   have d:dR ((n,NameKind.free)::r) b.cells acc=dR r b.cells ((n,c)::acc):=by
    show(if(NameKind.free==NameKind.free)=true then _ else _)=_;rw[aL (by decide),g];rfl
   rw[d,<- l ((n,c)::acc) j];simp only[OJ,uM,m,pure_bind]
  ·have f:(k==NameKind.free)=false:=by simpa using i
   have d:dR ((n,k)::r) b.cells acc=dR r b.cells acc:=by
    show(if(k==NameKind.free)=true then _ else _)=_;rw[f];rfl
   rw[d,<- l acc j];simp only[f,Dk,nH,pure_bind]
theorem Ab{a:Env}{scope:Scope}(h:∀ y∈scope.names,y.2=.free->∃ c,a.cells.lookup y.1=some c):closureFor scope a=pure (dR scope.names a.cells []):=by
 rw[<- Lj scope.names [] h];unfold closureFor;simp only[bind_pure]
theorem pU:∀(names:List (Str×NameKind)){cells acc:List (Str×Addr)}{x:Str}{c:Addr},(∀ y∈names,y.2=.free->∃ c,cells.lookup y.1=some c)->(∀ y d,acc.lookup y=some d->cells.lookup y=some d) ->
  (dR names cells acc).lookup x=some c->cells.lookup x=some c:=by
 intro names
 induction names with
 |nil=>intro cells acc x c _ h e;exact h x c e
 |cons p r m=>
  intro cells acc x c h g e;obtain⟨n,k⟩:=p;have l:∀ y∈r,y.2=.free->∃ c,cells.lookup y.1=some c:=fun y f=>h y (eO _ f)
  by_cases j:k=.free
  ·subst j;obtain⟨d,s⟩:=h (n,.free) cV rfl;have i:cells.lookup n=some d:=s;have b:dR ((n,NameKind.free)::r) cells acc=dR r cells ((n,d)::acc):=by
    show(if(NameKind.free==NameKind.free)=true then _ else _)=_;rw[aL (by decide),i];rfl
   rw[b] at e;refine m l (fun y q a=>?_) e;rw[zf] at a;split at a
   ·rename_i f;have t:y=n:=by simpa using f
    subst t;cases a;exact i
   ·exact g y q a
  ·have o:(k==NameKind.free)=false:=by simpa using j
   have b:dR ((n,k)::r) cells acc=dR r cells acc:=by
    show(if(k==NameKind.free)=true then _ else _)=_;rw[o];rfl
   rw[b] at e;exact m l g e
theorem En:∀(names:List (Str×NameKind)){cells acc:List (Str×Addr)}{x:Str},((x,NameKind.free)∈names\/∃ d,acc.lookup x=some d)->∃ c,(dR names cells acc).lookup x=some c:=by
 intro names
 induction names with
 |nil=>
  intro cells acc x h;rcases h with h|h
  ·exact absurd h (by simp)
  ·exact h
 |cons p r f=>
  intro cells acc x h;obtain⟨n,k⟩:=p;by_cases b:k=.free
  ·subst b;have a:dR ((n,NameKind.free)::r) cells acc=dR r cells ((n,(cells.lookup n).getD 0)::acc):=by
    show(if(NameKind.free==NameKind.free)=true then _ else _)=_;rw[aL (by decide)]
   rw[a];refine f ?_;by_cases e:x=n
   ·exact .inr ⟨(cells.lookup n).getD 0,by subst e;simp[zf]⟩
   ·rcases h with h|⟨d,h⟩
    ·rcases cZ.mp h with q|q
     ·exact absurd (congrArg Prod.fst q) e
     ·exact .inl q
    ·refine .inr ⟨d,?_⟩;rw[zf];have:(x==n)=false:=by simpa using e
     rw[this];exact h
  ·have g:(k==NameKind.free)=false:=by simpa using b
   have a:dR ((n,k)::r) cells acc=dR r cells acc:=by
    show(if(k==NameKind.free)=true then _ else _)=_;rw[g];rfl
   rw[a];refine f ?_;rcases h with h|h
   ·rcases cZ.mp h with q|q
    ·exact absurd (congrArg Prod.snd q).symm b
    ·exact .inl q
   ·exact .inr h
theorem rz{a:Env}:∀(names:List (Str×NameKind))(x:Str),
  (names.map fun(n,k)=>if(k==NameKind.free&&a.scope.kind==.function&&a.kindOf n==some .cell) then(n,NameKind.cell) else(n,k)).lookup x =
   (names.lookup x).map fun k=>if(k==NameKind.free&&a.scope.kind==.function&&a.kindOf x==some .cell) then NameKind.cell else k
 |[],_=>rfl
 |(n,k)::r,x=>by
  have e:=@rz a r x;show List.lookup x ((if(k==NameKind.free&&a.scope.kind==.function&&a.kindOf n==some .cell)=true then(n,NameKind.cell) else(n,k))::_)=_;by_cases d:x=n
  ·subst d;by_cases b:(k==NameKind.free&&a.scope.kind==.function&&a.kindOf x==some .cell)=true
   ·rw[aL b];simp only[zf,OJ,uJ];rw[aL b]
   ·rw[aJ b];simp only[zf,OJ,uJ];rw[aJ b]
  ·have c:(x==n)=false:=by simpa using d
   by_cases b:(k==NameKind.free&&a.scope.kind==.function&&a.kindOf n==some .cell)=true
   ·rw[aL b];simp only[zf,c];exact e
   ·rw[aJ b];simp only[zf,c];exact e
def wM(scope outer:Scope)(N:List Str)(x:Str):Bool:=
 (scope.kind==.function)&&scope.names.all (fun y=>!(y.2==.cell))&&scope.names.all (fun y=>!(y.2==.local)||(y.1==x||y.1 == ".0")) &&
  scope.names.all (fun y=>!(y.2==.local)||scope.names.lookup y.1==some .local)&&(scope.names.lookup x==some .local) &&
  scope.names.all (fun y=>!(y.2==.free)||(outer.names.lookup y.1==some .cell||outer.names.lookup y.1==some .free)) &&
  !(N.contains ".0")&&(scope.names.lookup (x ++ "'")==none)&&decide (x::N.map fun y=>if y=x then x ++ "'" else y).Nodup
def Eo(N:List Str)(x:Str):List Str:=x::N.map fun y=>if y=x then x ++ "'" else y
structure Fw(scope outer:Scope)(N:List Str)(x:Str):Prop where
 kind:scope.kind=.function
 Xj:∀ y∈scope.names,y.2≠.cell
 loc:∀ y∈scope.names,y.2=.local->y.1=x\/y.1 = ".0"
 names:∀ y∈scope.names,y.2=.local->scope.names.lookup y.1=some .local
 own:scope.names.lookup x=some .local
 free:∀ y∈scope.names,y.2=.free->outer.names.lookup y.1=some .cell\/outer.names.lookup y.1=some .free
 dot:(".0" : Str)∉N
 prime:scope.names.lookup (x ++ "'")=none
 nd:(Eo N x).Nodup
theorem Ae{scope d:Scope}{N:List Str}{x:Str}(h:wM scope d N x=true):Fw scope d N x:=by
 unfold wM at h;simp only[nO,nP,Bool.or_eq_true,jJ,jM,oh,decide_eq_true_eq] at h;obtain⟨⟨⟨⟨⟨⟨⟨⟨h1,h2⟩,f⟩,g⟩,i⟩,j⟩,c⟩,k⟩,l⟩:=h;refine⟨h1,h2,fun y b e=>?_,fun y b e=>?_,i,fun y b e=>?_,?_,k,l⟩
 ·rcases f y b with a|a
  ·exact absurd e a
  ·exact a
 ·rcases g y b with a|a
  ·exact absurd e a
  ·exact a
 ·rcases j y b with a|a
  ·exact absurd e a
  ·exact a
 ·intro a;have:N.contains ".0" = true:=List.contains_iff_mem.mpr a;rw[this] at c;cases c
theorem Ga{prog:Program}{w:World}{A:Around}{R:Result->Shared->Prop}{s:Shared}{g f iter:Expr}{i:List Expr}{scope:Scope}{pos:Pos}{e acc:Value}{a:Env}(I:Nat->Shared->Prop)
  (y:∀ n s,I n s->wpAny (model prog w) A (pyNext e) (fun r b=>match r with
   |none=>R (.ok .next) b
   |some v=>wpAny (model prog w) A (letOwnedTupleGo f e v) (fun _ b=>wpAny (model prog w) A (assign f a v) (fun _ k=>
     wpAny (model prog w) A (forIn i true fun c r=>if r=true then do let ok <- isTrue c a (eval c a);pure (ForInStep.yield ok) else pure (ForInStep.yield r)) (fun ok s₃=>
      if ok=true then wpAny (model prog w) A (eval g a) (fun x l=>
       wpAny (model prog w) A (call (.builtin "list.append") [acc,x]) (fun _ o=>∃ m,m<n/\I m o) (fun _ _=>False) l) (fun _ _=>False) s₃
      else ∃ m,m<n/\I m s₃) (fun _ _=>False) k) (fun _ _=>False) b) (fun _ _=>False) b) (fun _ _=>False) s)
  (n:Nat) (h:I n s) :
  codeAny (model prog w) A (.compLoop (.ListComp g [⟨f,iter,i,0⟩] scope pos) 0 e acc a) R s:=by
 refine codeAny_loop rfl I (fun n s p=>?_) n h;show wpAny _ A ((compTurn (.ListComp g [⟨f,iter,i,0⟩] scope pos) 0 e acc a).onRaise (fun x=>do noteFrame x a;theTreesLotGoes x)) _ _ s;refine wpAny_noted ?_;rw[compTurn_list];refine bL (wpAny_standAt (bL (jL (y n s p) (fun r b d=>?_) fun _ _ h'=>h'.elim)));cases r with
 |none=>exact c7 d
 |some v=>
  refine bL (jL d (fun _ b d=>?_) fun _ _ h'=>h'.elim);refine bL (jL d (fun _ k q=>bL (jL q (fun ok s₃ j=>?_) fun _ _ h'=>h'.elim)) fun _ _ h'=>h'.elim);cases ok with
  |false=>exact c7 ⟨rfl,j⟩
  |true=>
   exact bL (bL (jL j (fun x l t=>bL (jL t (fun _ o u=>c7 (c7 ⟨rfl,u⟩)) fun _ _ h'=>h'.elim)) fun _ _ h'=>h'.elim))
section
variable{X:Cx}
def Ip(X:Cx)(ifs:List Expr)(t:TT):Prop:=
 ∀(pins:List (Addr×Obj))(s:Shared)(zzs:St)(H:Hp)(Q:Bool->Hp->Prop),Inv X pins zzs H s->t zzs H Q ->
  wpAny (model X.prog X.w) X.A (forIn ifs true fun c r=>if r=true then do let ok <- isTrue c X.env (eval c X.env);pure (ForInStep.yield ok) else pure (ForInStep.yield r)) (TP X pins zzs Q) X.xe s
def Vs:TT:=fun _ H Q=>Q true H
theorem a1l:Ip X [] Vs:=fun _ _ _ H _ a h=>wpAny_tests_nil ⟨H,a,h⟩
theorem a1m{c:Expr}{t:TT}(h:PT X c t):Ip X [c] t:=fun pins s zzs H Q a hw=>wpAny_tests_one (h pins s zzs H Q a hw)
def jB(X:Cx)(x:Str)(scope:Scope)(s:Shared)(H:Hp)(ex:List Addr):Cx:=
 { X with
  N:=Eo X.N x
  s₀:=s
  H₀:=H
  env:=compEnvC scope (dR scope.names X.env.cells []) s.heap.objs.size X.env
  outer:=X.stack
  stack:=X.stack
  ex:=ex
  fn:=fun _=>false
  pn:=[]
  xe:=fun _ _=>False }
def qK(J:It)(tc:TT)(te:TE)(zzs:St)(fin:List V->Hp->Prop)(W:Nat->Nat->List V->Hp->Prop):Prop:=
 ∀ i m ys H,W i m ys H->ys.length<=sizeLine/\((J.stop i H/\fin ys H) \/
  (J.go i H/\∀ v H',J.yld i H v H'->tc (some v::zzs) H' fun b H2=>if b=true then te (some v::zzs) H2 fun y H3=>∃ m',m'<m/\W (i+1) m' (ys++[y]) H3 else ∃ m',m'<m/\W (i+1) m' ys H2))
theorem lookup_mem{a:Type}:∀ {l:List (Str×a)} {x:Str} {k:a},l.lookup x=some k->(x,k)∈l
 |[],_,_,h=>by simp at h
 |(n,c)::r,x,k,h=>by
  rw[zf] at h;split at h
  ·rename_i b;have:x=n:=by simpa using b
   subst this;cases h;exact cV
  ·exact eO _ (lookup_mem h)
theorem Tv{N:List Str}{x y:Str}{i:Nat}(h:(Eo N x)[i+1]?=some y):(N[i]?=some y/\y≠x)\/y=x ++ "'":=by
 unfold Eo at h;rw[List.getElem?_cons_succ,dF] at h;cases e:N[i]? with
 |none=>rw[e] at h;cases h
 |some b=>
  rw[e] at h;have h':(if b=x then x ++ "'" else b)=y:=by simpa using h
  by_cases a:b=x
  ·rw[aL a] at h';exact .inr h'.symm
  ·rw[aJ a] at h';subst h';exact .inl ⟨rfl,a⟩
theorem Lp{x:Str}{scope:Scope}{pins:List (Addr×Obj)}{zzs:St}{H:Hp}{s:Shared}{h₁:Heap}{ex:List Addr}(ok:Fw scope X.env.scope X.N x)(ac:X.calm=true)(I:Inv X pins zzs H s)
  (ag:h₁.Ns s.heap.objs.size fun _=>none) (n:∀ b o,s.heap.get? b=some o->h₁.get? b=some o)
  (w:∀ b∈ex,b<s.heap.objs.size/\b≠X.env.locals/\b∉X.fs/\H b=none/\(b∈X.ex\/X.s₀.heap.objs.size<=b)/\(∀ y c,X.env.cells.lookup y=some c->c≠b)) {tk:Nat} :
  Inv (jB X x scope s H ex) [] (none::zzs) H { s with heap:=h₁,toks:=tk }:=by
 have ae:∀ y∈scope.names,y.2=.free->∃ c,X.env.cells.lookup y.1=some c:=fun y M e=>I.ok.has y.1 (ok.free y M e)
 have j:∀ y c,(dR scope.names X.env.cells []).lookup y=some c->X.env.cells.lookup y=some c:=fun y c e=>pU scope.names ae (fun _ _ a=>by simp at a) e
 have al:∀ y c,X.env.cells.lookup y=some c->c<s.heap.objs.size:=fun y c e=>by
  obtain⟨v,q⟩:=I.cell y c e;exact q.lt
 have A:∀ y,(compEnvC scope (dR scope.names X.env.cells []) s.heap.objs.size X.env).kindOf y=(scope.names.lookup y).map fun k=>if(k==NameKind.free&&X.env.scope.kind==.function&&X.env.kindOf y==some .cell) then NameKind.cell else k:=fun y=>rz scope.names y
 have D:∀ y,(∃ k,(compEnvC scope (dR scope.names X.env.cells []) s.heap.objs.size X.env).kindOf y=some k/\(k=.cell\/k=.free))->(y,NameKind.free)∈scope.names:=fun y ⟨k,e,n⟩=>by
  rw[A] at e;cases q:scope.names.lookup y with
  |none=>rw[q] at e;cases e
  |some h=>
   have mem:=lookup_mem q;by_cases z:h=.free
   ·subst z;exact mem
   ·rw[q] at e;have f:(h==NameKind.free)=false:=by simpa using z
    simp only[uJ,f,yx,Dk,nH,Cy] at e;subst e;rcases n with a|a
    ·exact absurd a (ok.Xj _ mem)
    ·exact absurd a z
 have W:∀ b∈frs X.stack,b=X.env.locals\/b∈X.fs:=fun b f=>cZ.mp (I.uF b f)
 refine⟨⟨I.ok.mod,?_,I.ok.glob,I.ok.blt,bG _,fun y a c t l=>?_,fun y M=>?_,fun y c a _=>?_,fun _=>I.ok.hd ac,I.ok.frames,.inl rfl,fun b f=>⟨?_,fun y c e=>?_⟩,fun b o e=>?_,?_,fun b o e f=>?_,fun b f z=>?_,?_,fun b f=>?_⟩,
  rfl,I.bare,Un.kept n,⟨_,ag,fun i y v t l aa=>?_⟩,fun y c e=>?_,I.hok.fresh (bG _),fun y c e=>I.jO y c (j y c e),fun p L=>?_,I.hok.kept n,?_⟩
 ·exact ok.kind
 ·exact I.ok.inj y a c (j y c t) (j a c l)
 ·have af:(y,NameKind.free)∈scope.names:=by
   rcases M with a|a
   ·exact D y ⟨_,a,.inl rfl⟩
   ·exact D y ⟨_,a,.inr rfl⟩
  exact En scope.names (.inl af)
 ·exact absurd (show false=true from a) (by decide)
 ·exact gR (w b f).1
 ·exact(w b f).2.2.2.2.2 y c (j y c e)
 ·obtain⟨t,l⟩:=I.bs b o e;exact⟨t,l⟩
 ·exact dU I.ok.bsz I.sz
 ·rcases(w b f).2.2.2.2.1 with a|a
  ·exact I.ok.JD b o e a
  ·exact absurd (jH (bZ (I.ok.bs b o e).1) a) (rZ _)
 ·rcases W b z with a|a
  ·exact(w b f).2.1 a
  ·exact(w b f).2.2.1 a
 ·exact I.stack
 ·exact I.vO b f
 ·cases i with
  |zero=>
   have:(none::zzs)[0]?=some (some v):=l;simp at this
  |succ i=>
   have Z:zzs[i]?=some (some v):=by simpa using l
   have Q:Vis (relabel scope X.env) y:=aa;rcases Tv t with⟨C,T⟩|L
   ·
    have U:(y,NameKind.free)∈scope.names:=by
     have ah:∃ k,(compEnvC scope (dR scope.names X.env.cells []) s.heap.objs.size X.env).kindOf y=some k/\(k=.local\/k=.cell\/k=.free):=by
      rcases Q with a|a|a
      ·exact⟨_,a,.inl rfl⟩
      ·exact⟨_,a,.inr (.inl rfl)⟩
      ·exact⟨_,a,.inr (.inr rfl)⟩
     obtain⟨k,e,G⟩:=ah;rcases G with J|G
     ·subst J;have g:=e;rw[A] at g;cases q:scope.names.lookup y with
      |none=>rw[q] at g;cases g
      |some h=>
       have mem:=lookup_mem q;rw[q] at g;have F:h=.local:=by
        by_cases r:(h==NameKind.free&&X.env.scope.kind==.function&&X.env.kindOf y==some .cell)=true
        ·simp only[uJ,r,uM,Cy] at g;cases g
        ·simp only[uJ,r,Dk,nH,Cy] at g;exact g
       subst F;rcases ok.loc _ mem rfl with a|a
       ·exact absurd a T
       ·have:y = ".0":=a;subst this;exact absurd (gC C) ok.dot
     ·exact D y ⟨k,e,G⟩
    have S:=ok.free _ U rfl;have Y:Vis X.env.scope y:=by
     rcases S with a|a
     ·exact .inr (.inl a)
     ·exact .inr (.inr a)
    obtain⟨m,am,J⟩:=I.loc;obtain⟨u,ak,P⟩:=J i y v C Z Y;refine⟨u,ak,?_⟩;rcases P with⟨P,_⟩|⟨_,c,ab,ad⟩
    ·have aj:X.env.scope.names.lookup y=some .local:=P;rcases S with a|a<;>(have d:X.env.scope.names.lookup y=_:=a;rw[aj] at d;cases d)
    ·obtain⟨B,R⟩:=En (cells:=X.env.cells) (acc:=[]) scope.names (.inl U);have:B=c:=by
      have:=j y B R;rw[ab] at this;cases this;rfl
     subst this;have ai:(compEnvC scope (dR scope.names X.env.cells []) s.heap.objs.size X.env).kindOf y=some .cell\/(compEnvC scope (dR scope.names X.env.cells []) s.heap.objs.size X.env).kindOf y=some .free:=by
      rcases Q with a|a|a
      ·
       have d:(compEnvC scope (dR scope.names X.env.cells []) s.heap.objs.size X.env).kindOf y=some .local:=a;rw[A] at d;cases q:scope.names.lookup y with
       |none=>rw[q] at d;cases d
       |some h=>
        have mem:=lookup_mem q;rw[q] at d;have F:h=.local:=by
         by_cases r:(h==NameKind.free&&X.env.scope.kind==.function&&X.env.kindOf y==some .cell)=true
         ·simp only[uJ,r,uM,Cy] at d;cases d
         ·simp only[uJ,r,Dk,nH,Cy] at d;exact d
        subst F;rcases ok.loc _ mem rfl with zz|zz
        ·exact absurd zz T
        ·have:y = ".0":=zz;subst this;exact absurd (gC C) ok.dot
      ·exact .inl a
      ·exact .inr a
     refine .inr ⟨ai,B,R,?_⟩;obtain⟨oc,K,E⟩:=ad;exact⟨oc,n _ _ K,E⟩
   ·subst L;exfalso;have O:(compEnvC scope (dR scope.names X.env.cells []) s.heap.objs.size X.env).kindOf (x ++ "'")=none:=by rw[A,ok.prime];rfl
    rcases Q with a|a|a
    ·have d:(compEnvC scope (dR scope.names X.env.cells []) s.heap.objs.size X.env).kindOf (x ++ "'")=some .local:=a;rw[O] at d;cases d
    ·have d:(compEnvC scope (dR scope.names X.env.cells []) s.heap.objs.size X.env).kindOf (x ++ "'")=some .cell:=a;rw[O] at d;cases d
    ·have d:(compEnvC scope (dR scope.names X.env.cells []) s.heap.objs.size X.env).kindOf (x ++ "'")=some .free:=a;rw[O] at d;cases d
 ·obtain⟨v,oc,K,E⟩:=I.cell y c (j y c e);exact⟨v,oc,n _ _ K,E⟩
 ·exact absurd (show p∈([]:List (Addr×Obj)) from L) (by simp)
 ·show(none::zzs).length=(Eo X.N x).length;unfold Eo;rw[gD,gD,bf,I.len]
end
section
variable{X:Cx}
theorem Heap.SameBut.keeps{a:Addr}{h h':Heap}(k:Heap.SameBut a h h'){b:Addr}{o:Obj}(c:b≠a)(e:h.get? b=some o):h'.get? b=some o:=(k.2 b c).trans e
theorem Tw{x:Str}{bh pos:Pos}{scope:Scope}{aC iter:Expr}{aI:List Expr}{aM:TT}{ar:TE}{pins:List (Addr×Obj)}{zzs:St}{E:Hp}{s₃:Shared}{h₁:Heap}{tk:Nat}{bf a:Addr}{fp:List Addr}{as:Nat->Heap->Prop}{aU:It}{fin:List V->Hp->Prop}
  {U:Nat->Nat->List V->Hp->Prop} {RR:Value->Addr->Result->Shared->Prop}
  (ok:Fw scope X.env.scope X.N x) (bc:X.calm=true) (bR:∀ s H ex,Ip (jB X x scope s H ex) aI aM) (bO:∀ s H ex,PE (jB X x scope s H ex) aC ar)
  (P:Inv X pins zzs E s₃) (T:Turn X.prog X.w X.K (.Name x bh) aU fp bf as) (st:as 0 s₃.heap) (f2:∀ b∈fp,uO X pins E b) (aO:∃ m,U 0 m [] E) (bM:qK aU aM ar zzs fin U)
  (cf:E a=none) (D:uO X pins E a) (bF:X.s₀.heap.objs.size<=a) (al:s₃.heap.get? a=some { cls:=.type "list",dict:=none,data:=.seq ([]:List Value).toArray }) (aQ:a∉fp)
  (bX:h₁.Ns s₃.heap.objs.size fun _=>none) (aP:∀ b o,s₃.heap.get? b=some o->h₁.get? b=some o)
  (bL:∀ a C z d B,d a=none->fin z d->Inv X pins zzs (upd d a (.lst z)) B->uO X pins (upd d a (.lst z)) C->(∃ m,B.heap.Ns C m)->RR (.ref a) C (.ok .next) B) :
  codeAny (model X.prog X.w) X.A (.compLoop (.ListComp aC [⟨.Name x bh,iter,aI,0⟩] scope pos) 0 (.ref bf) (.ref a) (compEnvC scope (dR scope.names X.env.cells []) s₃.heap.objs.size X.env)) (RR (.ref a) s₃.heap.objs.size) { s₃ with heap:=h₁,toks:=tk }:=by
 have bu:∀ b∈fp,∃ o,s₃.heap.get? b=some o/\∀ v,o.data≠.cell v:=T.obj 0 s₃.heap st;have bd:∀ b∈a::fp,b<s₃.heap.objs.size/\b≠X.env.locals/\b∉X.fs/\E b=none/\(b∈X.ex\/X.s₀.heap.objs.size<=b)/\(∀ y c,X.env.cells.lookup y=some c->c≠b):=fun b f=>by
  rcases cZ.mp f with e|f
  ·subst e;obtain⟨W,G,Z,M,I,aa⟩:=D;exact⟨bZ al,G,Z,W,M,I⟩
  ·obtain⟨W,G,Z,M,I,aa⟩:=f2 b f;obtain⟨o,an,_⟩:=bu b f;exact⟨bZ an,G,Z,W,M,I⟩
 have aT:=Lp (ex:=a::fp) (tk:=tk) ok bc P bX aP bd;generalize l:jB X x scope s₃ E (a::fp)=Y at aT;have ad:Y.prog=X.prog:=by rw[<- l];rfl
 have af:Y.w=X.w:=by rw[<- l];rfl
 have aW:Y.K=X.K:=by rw[<- l];rfl
 have am:Y.A=X.A:=by rw[<- l];rfl
 have aX:Y.calm=true:=by rw[<- l];exact bc
 have bt:Y.N.Nodup:=by rw[<- l];exact ok.nd
 have br:Y.N[0]?=some x:=by rw[<- l];rfl
 have R:Y.env=compEnvC scope (dR scope.names X.env.cells []) s₃.heap.objs.size X.env:=by rw[<- l];rfl
 have a0:Y.env.scope.names.lookup x=some .local:=by rw[R];exact lookup_relabel_local ok.own
 have az:Y.fs=frs X.stack:=by rw[<- l];rfl
 have ay:Y.ex=a::fp:=by rw[<- l];rfl
 have aZ:Y.s₀=s₃:=by rw[<- l];rfl
 have bs:Y.H₀=E:=by rw[<- l];rfl
 have aY:Y.pn=[]:=by rw[<- l];rfl
 have a1:Y.xe=fun _ _=>False:=by rw[<- l];rfl
 have bw:Ip Y aI aM:=by rw[<- l];exact bR _ _ _
 have bP:PE Y aC ar:=by rw[<- l];exact bO _ _ _
 have aS:a≠Y.env.locals:=by rw[R];exact gR (bZ al)
 have aR:a∉Y.fs:=by
  rw[az];intro f;rcases cZ.mp (P.uF a f) with h|h
  ·exact D.2.1 h
  ·exact D.2.2.1 h
 have bv:∀ y c,Y.env.cells.lookup y=some c->c≠a:=fun y c e=>by
  have aF:∀ y∈scope.names,y.2=.free->∃ c,X.env.cells.lookup y.1=some c:=fun y aH e=>P.ok.has y.1 (ok.free y aH e)
  rw[R] at e;exact D.2.2.2.2.1 y c (pU scope.names aF (fun _ _ h=>by simp at h) e)
 have aD:∀ {d:Hp} {aJ:List (Addr×Obj)},(∀ b∈fp,d b=none)->(∀ p∈aJ,p.1∉fp)->∀ b∈fp,uO Y aJ d b:=fun {d aJ} ai J b f=>by
  obtain⟨W,G,Z,M,I,aa⟩:=f2 b f;have bU:=(bd b (eO _ f)).1;refine⟨ai b f,?_,?_,.inl (by rw[ay];exact eO _ f),fun y c e=>?_,fun p q h=>?_⟩
  ·rw[R];exact gR bU
  ·rw[az];intro h;rcases cZ.mp (P.uF b h) with h|h
   ·exact G h
   ·exact Z h
  ·have aF:∀ y∈scope.names,y.2=.free->∃ c,X.env.cells.lookup y.1=some c:=fun y aH e=>P.ok.has y.1 (ok.free y aH e)
   rw[R] at e;exact I y c (pU scope.names aF (fun _ _ h=>by simp at h) e)
  ·rw[aY,Pg] at q;exact J p q (by rw[h];exact f)
 have bk:∀ {d:Hp},d a=none->uO Y [] d a:=fun {d} ai=>⟨ai,aS,aR,.inl (by rw[ay];exact cV),bv,fun p q=>absurd (show p∈([]:List (Addr×Obj)) by rw[aY] at q;exact q) (by simp)⟩
 have a3:∀ {aA:St} {d:Hp} {B:Shared} {g:Array Value} {n:Nat},Inv Y [] aA d B->d a=none->B.heap.get? a=some { cls:=.type "list",data:=.seq g n }->Inv Y [(a,{ cls:=.type "list",data:=.seq g n })] aA d B:=fun {aA d B g n} ae ai e=>by
  refine ae.vp fun p J=>?_
  have:p=(a,{ cls:=.type "list",data:=.seq g n }):=by simpa using J
  subst this;exact⟨e,ai,aS,aR,fun v h=>by
   have ce:Data.seq g n=Data.cell v:=h;cases ce⟩
 rw[<- R];obtain⟨b2,aO⟩:=aO;refine Ga (fun m B=>∃ i z S d g n,Inv Y [(a,{ cls:=.type "list",data:=.seq g n })] (S::zzs) d B/\as i B.heap/\(∀ b∈fp,d b=none)/\Vals z g.toList/\U i m z d) ?_ b2
  ⟨0,[],none,E,_,_,a3 aT cf (aP a _ al),T.keep 0 _ _ st (fun b _ o e=>aP b o e),fun b f=>(f2 b f).1,.nil,aO⟩
 rintro m B ⟨i,z,S,d,g,n,ae,bj,a8,rv,cb⟩;obtain⟨bT,bN⟩:=bM i m z d cb;have bb:d a=none:=(ae.pin (a,{ cls:=.type "list",data:=.seq g n }) (by simp)).2.1;have aE:∀ p∈[((a,{ cls:=.type "list",data:=.seq g n }):Addr×Obj)],p.1∉fp:=fun p J=>by
  have:p=(a,{ cls:=.type "list",data:=.seq g n }):=by simpa using J
  subst this;exact aQ
 rcases bN with⟨ca,bQ⟩|⟨bE,step⟩
 ·
  have ah:=T.done Y ad af aW aX i _ B (S::zzs) d (fun _ _=>False) ae (aD a8 aE) bj ca;rw[am] at ah;refine thn ah fun r O L=>?_
  obtain⟨aG,Q⟩:=L;subst aG;show RR (.ref a) s₃.heap.objs.size (.ok .next) O;have bA:=(Q.pin (a,{ cls:=.type "list",data:=.seq g n }) (by simp)).1;have un:Un (frs X.stack) (a::fp) E d s₃.heap O.heap:=by
   have:=Q.base;rw[az,ay,bs,aZ] at this;exact this
  have bx:HOk X.prog X.w d O.heap:=by
   have:=Q.hok;rw[ad,af] at this;exact this
  have b4:O.os=s₃.os:=by have:=Q.os;rw[aZ] at this;exact this
  have bm:Inv X pins zzs d O:=P.call' b4 un bx Q.bare fun b f=>by
   rcases cZ.mp f with e|f
   ·subst e;exact⟨D.2.2.2.1,D.2.1,D.2.2.2.2.1,D.2.2.2.2.2⟩
   ·obtain⟨W,G,Z,M,I,aa⟩:=f2 b f;exact⟨M,G,I,aa⟩
  have bn:Inv X pins zzs (upd d a (.lst z)) O:=bm.track bb bF D.2.1 D.2.2.2.2.1 D.2.2.2.2.2 ⟨bT,g.toList,n,rv,by simpa using bA⟩;obtain⟨b3,bW,_⟩:=Q.loc;have a7:Y.env.locals=s₃.heap.objs.size:=by rw[R];rfl
  have bI:d s₃.heap.objs.size=none:=by have:=Q.free;rw[a7] at this;exact this
  refine bL a s₃.heap.objs.size z d O bb bQ bn ?_ ⟨b3,by rw[<- a7];exact bW⟩;exact P.Wq (bG _) (by rw[aN (Ig (bZ al))];exact bI)
 ·
  have ah:=T.item Y ad af aW aX i _ B (S::zzs) d (fun _ _=>False) ae (aD a8 aE) bj bE;rw[am] at ah;refine thn ah fun r O L=>?_
  obtain⟨u,aG,bH⟩:=L;subst aG;refine thn bH fun _ ab L=>?_
  obtain⟨v,aj,aV,b6,cd,aL,bD⟩:=L;have cg:aj a=none:=(aV.pin (a,{ cls:=.type "list",data:=.seq g n }) (by simp)).2.1;have bp:=aV.pinned (fp:=fp) (aD bD aE) (T.obj _ _ aL);have bY:=step v aj cd;refine Ow ?_;have bz:∀ ax,(∀ ac,Inv Y ([(a,{ cls:=.type "list",data:=.seq g n })]++ux fp ab.heap) (some v::zzs) aj ac->ax () ac)->wpAny (model X.prog X.w) X.A (storeName Y.env x u) ax (fun _ _=>False) ab:=fun ax bK=>
   vP (i:=0) (zzs:=S::zzs) bp bt br (.inl a0) b6 (fun ac aw=>bK ac aw) (.inr a0)
  refine bz _ fun ac aw=>?_
  have a9:=bw _ ac (some v::zzs) aj _ aw bY;rw[ad,af,am,a1] at a9;refine thn a9 fun b b9 L=>?_
  obtain⟨av,ak,bi⟩:=L;have again:∀ {j:Shared} {k:Hp} {au:List V} {ap:Array Value} {aq:Nat},Inv Y [] (some v::zzs) k j->(∀ b∈fp,k b=none/\∀ o,ab.heap.get? b=some o->j.heap.get? b=some o)->k a=none ->
    j.heap.get? a=some { cls:=.type "list",data:=.seq ap aq }->Vals au ap.toList->(∃ t,t<m/\U (i+1) t au k) ->
    ∃ t,t<m/\∃ i z S d g n,Inv Y [(a,{ cls:=.type "list",data:=.seq g n })] (S::zzs) d j/\as i j.heap/\(∀ b∈fp,d b=none)/\Vals z g.toList/\U i t z d:=fun {j k au ap aq} F a2 ao aB b7 b0=>by
   obtain⟨t,bV,cc⟩:=b0;exact⟨t,bV,i+1,au,some v,k,ap,aq,a3 F ao aB,T.keep _ _ _ aL (fun b f o e=>(a2 b f).2 o e),fun b f=>(a2 b f).1,b7,cc⟩
  have a4:∀ {ag:St} {k:Hp} {j:Shared},Inv Y ([(a,{ cls:=.type "list",data:=.seq g n })]++ux fp ab.heap) ag k j->∀ b∈fp,k b=none/\∀ o,ab.heap.get? b=some o->j.heap.get? b=some o:=fun {ag k j} F b f=>by
   obtain⟨o,an,_⟩:=T.obj _ _ aL b f;have p:=F.pin (b,o) (gw _ (gw _ (uw f an)));exact⟨p.2.1,fun o' a6=>by rw[an] at a6;cases a6;exact p.1⟩
  have a5:∀ {ag:St} {k:Hp} {j:Shared},Inv Y ([(a,{ cls:=.type "list",data:=.seq g n })]++ux fp ab.heap) ag k j->j.heap.get? a=some { cls:=.type "list",data:=.seq g n }/\k a=none:=fun {ag k j} F=>by
   have p:=F.pin (a,{ cls:=.type "list",data:=.seq g n }) (gw _ (gP _ (by simp)));exact⟨p.1,p.2.1⟩
  cases b with
  |false=>
   show ∃ t,t<m/\_;have aK:∃ t,t<m/\U (i+1) t z av:=bi;obtain⟨bC,bJ⟩:=a5 ak;exact again (ak.vp fun p J=>absurd J (by simp)) (a4 ak) bJ bC rv aK
  |true=>
   show wpAny _ _ _ _ _ _;have aK:ar (some v::zzs) av fun y bl=>∃ t,t<m/\U (i+1) t (z++[y]) bl:=bi
   have ba:=bP _ b9 (some v::zzs) av _ ak aK;rw[ad,af,am,a1] at ba;refine thn ba fun ch j L=>?_
   obtain⟨y,k,F,b8,b5⟩:=L;obtain⟨aB,ao⟩:=a5 F;have b1:g.size<=sizeLine:=by have:=rv.length;simp only[nM] at this;lia
   refine wpAny_list_append_plain (hsz:=b1) ⟨n,aB⟩ fun h' bS be=>?_
   obtain⟨aq,bB⟩:=bS;have bq:Inv Y [] (some v::zzs) k j:=F.vp fun p J=>absurd J (by simp)
   obtain⟨W,G,Z,M,I,aa⟩:=bk ao;have bo:Inv Y [] (some v::zzs) k { j with heap:=h' }:=bq.turned (t':=j.toks) (fun b o f e=>Heap.SameBut.keeps be f e) W G M I aa;refine again bo (fun b f=>?_) ao bB (by simpa using rv.append (Vals.a4F b8)) b5;have bg:=a4 F b f;exact⟨bg.1,fun o e=>Heap.SameBut.keeps be (fun h=>aQ (h▸f)) (bg.2 o e)⟩
theorem Ep{x:Str}{z pos:Pos}{scope:Scope}{q iter:Expr}{t:List Expr}{B:TT}{D:TE}{pins:List (Addr×Obj)}{zzs:St}{c:Hp}{a:Shared}{u:Addr}{fp:List Addr}{E:Nat->Heap->Prop}{k:It}{fin:List V->Hp->Prop}
  {l:Nat->Nat->List V->Hp->Prop} {RR:Value->Addr->Result->Shared->Prop} {j:Value->Shared->Prop}
  (ok:Fw scope X.env.scope X.N x) (O:X.calm=true) (Q:∀ s H ex,Ip (jB X x scope s H ex) t B) (P:∀ s H ex,PE (jB X x scope s H ex) q D)
  (g:Inv X pins zzs c a) (T:Turn X.prog X.w X.K (.Name x z) k fp u E) (st:E 0 a.heap) (f2:∀ b∈fp,uO X pins c b) (Y:∃ m,l 0 m [] c) (L:qK k B D zzs fin l)
  (J:∀ d C i f h,f d=none->fin i f->Inv X pins zzs (upd f d (.lst i)) h->uO X pins (upd f d (.lst i)) C->(∃ m,h.heap.Ns C m)->RR (.ref d) C (.ok .next) h) :
  wpAny (model X.prog X.w) X.A (newList []) (fun acc s₃=>wpAny (model X.prog X.w) X.A (newFunctionEnv scope X.env.globals (dR scope.names X.env.cells []) [] X.env.qual none .none (some X.env)) (fun p W=>
   codeAny (model X.prog X.w) X.A (.compStart (.ListComp q [⟨.Name x z,iter,t,0⟩] scope pos) 0 (.ref u) acc { p with scope:=relabel scope X.env }) (RR acc p.locals) W) j s₃) j a:=by
 refine Ox (wpAny_newFunctionEnv ok.Xj (by intro y U;simp at U) (fun r R S=>?_) ok.kind);have I:Inv X pins zzs c { a with heap:=a.heap.push { cls:=.type "list",dict:=none,data:=.seq ([]:List Value).toArray } }:=g.kept (t':=a.toks) fun b o e=>fB _ e
 have F:∀ b o,(a.heap.push { cls:=.type "list",dict:=none,data:=.seq ([]:List Value).toArray }).get? b=some o->r.get? b=some o:=fun b o e=>Heap.SameBut.keeps S (gR (bZ e)) (fB _ e)
 have n:∀ b o,a.heap.get? b=some o->(a.heap.push { cls:=.type "list",dict:=none,data:=.seq ([]:List Value).toArray }).get? b=some o:=fun b o e=>fB _ e
 have G:c a.heap.objs.size=none:=g.hok.fresh (bG _);have v:=Tw (RR:=RR) (s₃:={ a with heap:=a.heap.push { cls:=.type "list",dict:=none,data:=.seq ([]:List Value).toArray } }) (h₁:=r) (tk:=a.toks+([]:List (Str×Value)).length) (iter:=iter) (pos:=pos)
  ok O Q P I T (T.keep 0 _ _ st fun b _ o e=>n b o e) f2 Y L G (g.Wq (bG _) G) g.sz (jQ _ rfl) (fun M=>by
   obtain⟨o,e,_⟩:=T.obj 0 _ st _ M;exact rZ _ (bZ e)) (by simpa using R) F J
 exact codeAny_compStart_list v (T.self _ 0 _ _ _ (T.keep 0 _ _ st fun b _ o e=>F b o (n b o e)) v)
def a2q(wi:TI)(tc:TT)(te:TE):TE:=fun zzs H Q=>wi zzs H fun J H1=>∃ W:Nat->Nat->List V->Hp->Prop,(∃ m,W 0 m [] H1)/\qK J tc te zzs (fun ys H2=>∀ p,H2 p=none->Q (.ref p) (upd H2 p (.lst ys))) W
theorem a1e{x:Str}{k pos:Pos}{scope:Scope}{i iter:Expr}{j:List Expr}{p:TI}{l:TT}{n:TE}(ok:wM scope X.env.scope X.N x=true)(K:X.calm=true)(O:PI X (.Name x k) iter p)
  (P:∀ s H ex,Ip (jB X x scope s H ex) j l) (L:∀ s H ex,PE (jB X x scope s H ex) i n) (R:∀ v,foldedSetIterable iter X.env v=pure v:=by intro _;rfl) :
  PE X (.ListComp i [⟨.Name x k,iter,j,0⟩] scope pos) (a2q p l n):=by
 intro pins s zzs H Q g h;have a:=Ae ok;have M:∀ y∈scope.names,y.2=.free->∃ c,X.env.cells.lookup y.1=some c:=fun y U e=>g.ok.has y.1 (a.free y U e)
 rw[eval_ListComp];refine Zq (use:=none) rfl R (Ab M) a.kind a.names (thn (O pins s zzs H _ g h) fun v s1 h1=>thn h1 fun ad s2 h2=>?_);obtain⟨ac,aa,ae,Y,H2,e,r,T,st2,f2,Z,W,I⟩:=h2;subst e;refine Ep (RR:=fun t C=>compPost (model X.prog X.w) X.A X.xe none (EP X pins zzs Q) t C) a K P L r T st2 f2 W I fun f C ys H' s' G fin q u d=>?_
 obtain⟨m,d⟩:=d;refine⟨m,d,fun h' S=>?_⟩;obtain⟨z,B,ab,D,E,F⟩:=u;exact⟨.ref f,_,q.turned (t':=s'.toks) (fun b o J e=>Heap.SameBut.keeps S J e) z B D E F,rfl,fin f G⟩
def YS(i:Nat)(wi:TI)(tc:TT)(te:TE):TS:=fun D zzs H=>wi zzs H fun J H1=>∃ W:Nat->Nat->List V->Hp->Prop,(∃ m,W 0 m [] H1)/\qK J tc te zzs (fun ys H2=>∀ p,H2 p=none->D.nx (zzs.set i (some (.ref p))) (upd H2 p (.lst ys))) W
theorem a1p{i:Nat}{y x:Str}{d l pos B:Pos}{scope:Scope}{f iter:Expr}{j:List Expr}{F:TI}{D:TT}{E:TE}(U:X.N.Nodup)(ag:X.N[i]?=some y)(g:X.env.scope.names.lookup y=some .local)
  (ok:wM scope X.env.scope X.N x=true) (aa:X.calm=true) (ae:PI X (.Name x l) iter F)
  (af:∀ s H ex,Ip (jB X x scope s H ex) j D) (ac:∀ s H ex,PE (jB X x scope s H ex) f E)
  (al:swapsWith (.ListComp f [⟨.Name x l,iter,j,0⟩] scope pos) (some (.Name y d)) B.line X.env=pure true:=by rfl) (ai:∀ v,foldedSetIterable iter X.env v=pure v:=by intro _;rfl) :
  PS X (.Assign [.Name y d] (.ListComp f [⟨.Name x l,iter,j,0⟩] scope pos) B) (YS i F D E):=by
 intro pins s zzs H r t h;have k:=Ae ok;have ad:∀ y∈scope.names,y.2=.free->∃ c,X.env.cells.lookup y.1=some c:=fun y g e=>t.ok.has y.1 (k.free y g e)
 rw[exec_Assign_Name_used _ _ _ _ al];refine bL (wpAny_standAt (bL ?_));show wpAny _ X.A (do let _ <- comprehension (.ListComp f [⟨.Name x l,iter,j,0⟩] scope pos) scope X.env _ (newList []) false (eval iter X.env) (some (assign (.Name y d) X.env))) _ _ s;refine bL (jL (Zq (use:=some (assign (.Name y d) X.env)) (Q:=fun _ s'=>SP X pins r .next s') rfl ai (Ab ad) k.kind k.names
  (thn (ae pins s zzs H _ t h) fun v s1 h1=>thn h1 fun av s2 h2=>?_)) (fun _ s' ah=>c7 (c7 ah)) fun _ _ e=>e)
 obtain⟨au,ar,aw,ap,H2,e,J,T,st2,f2,aq,an,W⟩:=h2;subst e;refine Ep (RR:=fun K C=>compPost (model X.prog X.w) X.A X.xe (some (assign (.Name y d) X.env)) (fun _ s'=>SP X pins r .next s') K C) k aa af ac J T st2 f2 an W fun n C ys H' s' S fin G L p=>?_
 obtain⟨m,p⟩:=p;show wpAny _ X.A (assign (.Name y d) X.env (.ref n)) _ _ _;obtain⟨M,u,as,O,z,P⟩:=L;refine Ow (Fp (i:=i) (v:=.ref n) G U ag (.inl g) rfl (fun am I ab=>?_) (.inr g));obtain⟨a,aj,Y⟩:=ab;have R:C≠a:=by
  rcases Y with q|q
  ·rw[q];exact u
  ·exact fun ao=>z _ _ q ao.symm
 refine⟨m,p.sameBut aj R,fun h' ak=>?_⟩;exact⟨_,_,I.turned (t':=am.toks) (fun b o Z e=>Heap.SameBut.keeps ak Z e) M u O z P,fin n S⟩
end
theorem g8.there{b:Program}{w:World}{H:Hp}{h:Heap}{a:Addr}{o:HO}(x:g8 b w H h a o):∃ ob,h.get? a=some ob:=by
 cases o with
 |lst xs=>obtain⟨_,_,_,_,e⟩:=x;exact⟨_,e⟩
 |tup xs=>obtain⟨_,_,_,ob,e,_⟩:=x;exact⟨_,e⟩
 |dK c=>obtain⟨_,_,_,_,o,_,_,e,_⟩:=x;exact⟨_,e⟩
 |dT c=>obtain⟨_,_,_,_,o,_,_,e,_⟩:=x;exact⟨_,e⟩
 |set d n=>obtain⟨o,_,_,_,e,_⟩:=x;exact⟨_,e⟩
 |ins C dx fs=>obtain⟨_,_,_,e,_⟩:=x;exact⟨_,e⟩
 |own y=>obtain⟨_,e⟩:=x;exact⟨_,e⟩
 |xd fs=>obtain⟨_,⟨_,_,_,e,_⟩,_⟩:=x;exact⟨_,e⟩
 |rng i g=>obtain⟨_,_,_,e⟩:=x;exact⟨_,e⟩
 |frz ob u=>obtain⟨e,_⟩:=x;exact⟨_,e⟩
 |tbl ps=>exact⟨_,show h.get? a=some _ from x⟩
 |met f y=>exact⟨_,show h.get? a=some _ from x⟩
 |ext j=>obtain⟨_,e,_⟩:=x;exact e
structure Fly(outer:List Env)(H':Hp)(h0:Heap)(ea C:Addr)(h:Heap):Prop where
 free:H' ea=none
 new:h0.get? ea=none
 fl:∃(B:Heap)(t:Addr),Heap.FlyingW B outer ea (.ref C) (.ref t) h/\∀ b o,h.get? b=some o->(H' b≠none\/∃ o',h0.get? b=some o')->b∉frs outer->B.get? b=some o
def CXE(P:Program)(w:World):CXT:=fun outer H s E e s'=>∃ ea C H',e=.ref ea/\s'.os=s.os/\AllBare s'.gens/\Un (frs outer) [] H H' s.heap s'.heap/\HOk P w H' s'.heap/\Fly outer H' s.heap ea C s'.heap/\E (.ref C) none H'
section
variable{P:Program}{w:World}{K:ao}{mg:Str->Option Value}{base:Heap}{N:List Str}{qual:Str}{scope:Scope}{f:Addr}{cd:Value}{A:Around}{outer:List Env}{s0:Shared}{H0:Hp}{E:XK}
theorem Yk{pins:List (Addr×Obj)}{zzs:St}{H:Hp}{s:Shared}{h':Heap}{e C:Addr}{vs:List Value}(I:Inv (oR (CXE P w) P w K mg base N qual scope f cd A outer s0 H0 E) pins zzs H s)
  (l:Heap.MadeExcOf s.heap h' e (.ref C) vs) (R:E (.ref C) none H):(oR (CXE P w) P w K mg base N qual scope f cd A outer s0 H0 E).xe (.ref e) { s with heap:=h' }:=by
 have M:∀ b,b∈frs (envOfC qual scope s0.heap.objs.size f cd::outer)->b=s0.heap.objs.size\/b∈frs outer:=fun b c=>cZ.mp (I.uF b c)
 have B:∀ b o,s.heap.get? b=some o->b∉frs (envOfC qual scope s0.heap.objs.size f cd::outer)->(PySem.W.hideAll s.heap (frs (envOfC qual scope s0.heap.objs.size f cd::outer))).get? b=some o:=fun b o e n=>ZV _ e n
 show wpAny (model P w) (A.deeper (envOfC qual scope s0.heap.objs.size f cd)) (leaving (envOfC qual scope s0.heap.objs.size f cd) (.ref e)) (fun _ p=>CXE P w outer H0 s0 E (.ref e) p) (fun O p=>CXE P w outer H0 s0 E O p) { s with heap:=h' };refine wpAny_leaves_madeW (base:=PySem.W.hideAll s.heap (frs (envOfC qual scope s0.heap.objs.size f cd::outer))) (h:=s.heap) I.ok.frames rfl (fun b o q=>a02 _ q)
  (PySem.W.funFrames_hide I.stack fun Q T a S=>Cv.mpr ⟨Q,T,S⟩) l fun z t x _ _ sm=>?_
 have new:s.heap.get? e=none:=l.new;have L:s.heap.UpToSlots z:=(Heap.UpToSlots.of_keeps l.keeps).trans sm;have stays:=x.1;have gZ:∀ b o,s.heap.get? b=some o->b∉frs (envOfC qual scope s0.heap.objs.size f cd::outer)->z.get? b=some o:=fun b o q n=>stays b o (B b o q n)
 have v:∀ b o,s0.heap.get? b=some o->b∉frs outer->b∉frs (envOfC qual scope s0.heap.objs.size f cd::outer):=fun b o q n c=>by
  rcases M b c with d|d
  ·exact gR (bZ q) d
  ·exact n d
 have trk:∀ b u,H b=some u->b∉frs (envOfC qual scope s0.heap.objs.size f cd::outer):=fun b u q c=>by
  have:=I.vO b c;rw[q] at this;cases this
 have i:∀ b o,s0.heap.get? b=some o->∃ o',s.heap.get? b=some o':=fun b o q=>I.base.there b o q (by show b∉[];simp)
 refine⟨e,C,H,rfl,I.os,I.bare,⟨fun b o q n c _=>?_,fun b o q n c _=>?_,fun b o q n X=>I.base.free b o q n (by show b∉[];simp),fun b o q _=>?_,I.base.tups,I.base.pZ,I.base.qJ⟩,fun a o q=>?_,⟨?_,?_,?_⟩,R⟩
 ·exact gZ b o (I.base.keep b o q n c (by show b∉[];simp)) (v b o q c)
 ·obtain⟨Y,g⟩:=I.base.slot b o q n c (by show b∉[];simp);obtain⟨_,o',D,k⟩:=I.qX.mem c;rw[g] at D;cases D;obtain⟨J,j⟩:=L b _ g k;exact⟨J,j⟩
 ·obtain⟨o',g⟩:=i b o q;by_cases c:b∈frs (envOfC qual scope s0.heap.objs.size f cd::outer)
  ·obtain⟨_,G,U,k⟩:=I.stack.mem c;obtain⟨J,j⟩:=L b _ U k;exact⟨_,j⟩
  ·exact⟨o',gZ b o' g c⟩
 ·refine(I.hok a o q).stay (fun b u c d=>gZ b u d ?_) (fun _ d=>d) fun _ _ d=>d
  rcases c with rfl|c
  ·exact trk b o q
  ·exact trk b _ c
 ·cases q:H e with
  |none=>rfl
  |some o=>
   obtain⟨m,d⟩:=(I.hok e o q).there;rw[new] at d;cases d
 ·cases q:s0.heap.get? e with
  |none=>rfl
  |some o=>
   obtain⟨m,d⟩:=i e o q;rw[new] at d;cases d
 ·refine⟨_,t,x,fun b o q c n=>?_⟩;have key:∃ o',s.heap.get? b=some o'/\b∉frs (envOfC qual scope s0.heap.objs.size f cd::outer):=by
   rcases c with d|⟨o',d⟩
   ·cases r:H b with
    |none=>exact absurd r d
    |some u=>
     obtain⟨m,y⟩:=(I.hok b u r).there;exact⟨m,y,trk b u r⟩
   ·obtain⟨G,y⟩:=i b o' d;exact⟨G,y,v b o' d n⟩
  obtain⟨o',y,F⟩:=key;have:=gZ b o' y F;rw[q] at this;cases this;exact B b o y F
end
structure gG(K:ao)(C:Addr):Prop where
 ex:PySem.W.excIn K C [.type "ValueError",.type "Exception",.type "BaseException",.type "object"] "ValueError.__new__" = true
theorem gG.obj{K:ao}{C:Addr}(c:gG K C){h:Heap}(X:K.In h):∃ i N nm q bs hdct sn sub ab col dd k0 k1 k2 k3 k5 mN,h.get? C=some (excClassObj nm q C N bs i hdct sn sub ab col dd k0 k1 k2 k3 k5 "ValueError.__new__")/\h.Ns N mN/\mN "__init__" = none /\
  OwnTail h [.type "ValueError",.type "Exception",.type "BaseException",.type "object"] i:=by
 have q:=c.ex;unfold PySem.W.excIn at q;split at q
 ·rename_i dd cd g m;split at q
  ·rename_i t j k0 k1 k2 k3 n k5 d f;simp only[nO,jM,jJ] at q;obtain⟨⟨⟨⟨⟨rfl,rfl⟩,b⟩,p⟩,a⟩,e⟩:=q;obtain⟨nm,bs,u,r,s,k,sn,sub,ab,col,del⟩:=cd;dsimp only at d b a e;subst d b;have o:g=#[k0,k1,k2,k3,some (.builtin "ValueError.__new__"),k5]:=by
    obtain⟨l⟩:=g;simp only at f;rw[f]
   subst o;exact⟨j,r,nm,s,bs,k,sn,sub,ab,col,dd,k0,k1,k2,k3,k5,_,X _ _ m,.of_isNs (PySem.W.isNs_of_in X a),PySem.W.nsMap_none_of_in X a e,PySem.W.tail_of_in X p⟩
  ·cases q
 ·cases q
def Z0(t:TA)(C:Addr)(E:XK):TS:=fun _ zzs H=>t zzs H fun vs H1=>vs.length<=sizeLine/\E (.ref C) none H1
section
variable{P:Program}{w:World}{K:ao}{mg:Str->Option Value}{base:Heap}{N:List Str}{qual:Str}{scope:Scope}{f:Addr}{cd:Value}{A:Around}{outer:List Env}{s0:Shared}{H0:Hp}{E:XK}
theorem Y5{x:Str}{ad d pos:Pos}{g:Expr}{a:List Expr}{t:TA}{C:Addr}(c:gG K C)(I:Gl (oR (CXE P w) P w K mg base N qual scope f cd A outer s0 H0 E) x)(L:mg x=some (.ref C))(J:A.handled=none)
  (D:PA (oR (CXE P w) P w K mg base N qual scope f cd A outer s0 H0 E) (g::a) t) (F:(x==("__debug__" : Str))=false:=by decide)
  (l:starEach (g::a) (envOfC qual scope s0.heap.objs.size f cd)=(false,eval g (envOfC qual scope s0.heap.objs.size f cd))::starEach a (envOfC qual scope s0.heap.objs.size f cd):=by rfl)
  (O:(backTo d (starEach a (envOfC qual scope s0.heap.objs.size f cd))).any (·.1)=false:=by rfl) :
  PS (oR (CXE P w) P w K mg base N qual scope f cd A outer s0 H0 E) (.Raise (some (.Call (.Name x ad) (g::a) [] d)) none pos) (Z0 t C E):=by
 intro pins s zzs H ai i h;obtain⟨ah,m,ac,q,bs,G,ae,af,n,p,u,U,W,X,Y,Z,aa,v,B,M,T⟩:=c.obj i.mod.kin;refine wpAny_Raise_call_subU (C:=C) (nm:=ac) (q:=q) (N:=m) (bs:=bs) (bm:=ah) (hdct:=G) (sn:=ae) (sub:=af) (ab:=n) (col:=p) (dd:=u) (k0:=U) (k1:=W) (k2:=X) (k3:=Y) (k5:=Z)
  Hl (by decide) Hl (mN:=aa) (T.hasType Hl.hasBase) J (by
   show(backTo d (starEach (g::a) (envOfC qual scope s0.heap.objs.size f cd))).any (·.1)=false;rw[l];show(false||(backTo d (starEach a (envOfC qual scope s0.heap.objs.size f cd))).any (·.1))=false;rw[O];rfl) M (tu i I L ⟨rfl,?_⟩ F)
 have h2:=D d pins s zzs H _ i h;show wpAny (model P w) _ (evalArgs (.ref C) true (backTo d (starEach (g::a) (envOfC qual scope s0.heap.objs.size f cd))) []) _ _ s;have k:wpAny (model P w) (A.deeper (envOfC qual scope s0.heap.objs.size f cd)) (spliced (backTo d (starEach (g::a) (envOfC qual scope s0.heap.objs.size f cd)))) _ _ s:=h2;rw[l] at k ⊢;refine Calls.evalArgs_plain (jL k (fun aj ag S=>?_) fun _ _ y=>y);obtain⟨xs,H1,j,r,R,z⟩:=S;have keep:∀ b o,base.get? b=some o->ag.heap.get? b=some o:=j.bk;exact⟨rfl,by rw[<- r.length];exact R,keep _ _ v,B.keeps keep,T.keeps keep,fun h' e Q=>Yk j Q z⟩
end
section
variable{X:Cx}
def mW(X:Cx)(ea:Addr):Cx:={ X with A:=X.A.mark (some (.ref ea)),calm:=false,xe:=fun _ _=>False }
theorem Inv.hand{pins:List (Addr×Obj)}{zzs:St}{H:Hp}{s:Shared}(I:Inv X pins zzs H s)(a:Addr):Inv (mW X a) pins zzs H s:=
 ⟨⟨I.ok.mod,I.ok.kind,I.ok.glob,I.ok.blt,I.ok.above,I.ok.inj,I.ok.has,I.ok.cab,fun b=>absurd (show false=true from b) (by decide),I.ok.frames,I.ok.stk,I.ok.exf,I.ok.bs,I.ok.bsz,I.ok.JD,I.ok.LK,I.ok.qX,I.ok.frf⟩,
  I.os,I.bare,I.base,I.loc,I.cell,I.free,I.jO,I.pin,I.hok,I.len⟩
theorem Inv.a4r{a:Addr}{pins:List (Addr×Obj)}{zzs:St}{H:Hp}{s:Shared}(ok:X.Ok)(I:Inv (mW X a) pins zzs H s):Inv X pins zzs H s:=
 ⟨ok,I.os,I.bare,I.base,I.loc,I.cell,I.free,I.jO,I.pin,I.hok,I.len⟩
theorem Inv.UW{pins:List (Addr×Obj)}{zzs:St}{H:Hp}{s:Shared}{h':Heap}{r:Str->Option Value}{tk:Nat}(I:Inv X pins zzs H s)(w:h'.Ns X.env.locals r)(a:Heap.SameBut X.env.locals s.heap h') :
  Inv X pins (zzs.map fun _=>none) H { s with heap:=h',toks:=tk }:=by
 have m:∀ b o,X.s₀.heap.get? b=some o->b≠X.env.locals:=fun b o e=>gR (jH (bZ e) I.ok.above)
 refine⟨I.ok,I.os,I.bare,⟨fun b o e n l g=>?_,fun b o e n l g=>?_,I.base.free,fun b o e g=>?_,I.base.tups,I.base.pZ,I.base.qJ⟩,⟨r,w,fun j y v h f B=>?_⟩,fun y c e=>?_,I.free,I.jO,fun p x=>?_,fun b u e=>?_,?_⟩
 ·exact(a.2 b (m b o e)).trans (I.base.keep b o e n l g)
 ·obtain⟨A,h⟩:=I.base.slot b o e n l g;exact⟨A,(a.2 b (m b o e)).trans h⟩
 ·obtain⟨o',h⟩:=I.base.there b o e g;exact⟨o',(a.2 b (m b o e)).trans h⟩
 ·exfalso;rw[dF] at f;cases q:zzs[j]? with
  |none=>rw[q] at f;cases f
  |some k=>rw[q] at f;cases f
 ·obtain⟨v,k⟩:=I.cell y c e;exact⟨v,k.sameBut a (I.cne y c e)⟩
 ·obtain⟨e,n,t,z,d⟩:=I.pin p x;exact⟨(a.2 p.1 t).trans e,n,t,z,d⟩
 ·refine(I.hok b u e).stay (fun c v i q=>(a.2 c ?_).trans q) (fun _ q=>q) fun _ _ q=>q
  rintro rfl;rcases i with k|i
  ·rw[<- k,I.free] at e;cases e
  ·rw[I.free] at i;cases i
 ·rw[bf];exact I.len
theorem land{pins:List (Addr×Obj)}{zzs:St}{H f:Hp}{s d j:Shared}{y:Heap}(I:Inv X pins zzs H s)(G:d.os=s.os)(un:Un (frs X.stack) [] H f s.heap d.heap)(E:HOk X.prog X.w f d.heap)
  (l:∀ b o,d.heap.get? b=some o->(f b≠none\/∃ i,s.heap.get? b=some i)->b∉frs X.stack->y.get? b=some o) (st:y.StaysIn j.heap) (sm:d.heap.UpToSlots j.heap) (C:j.os=d.os) (D:AllBare j.gens):Inv X pins zzs f j:=by
 have t:∀ b∈frs X.stack,∃ o k,s.heap.get? b=some o/\(∀ J,o.data≠.fields J)/\H b=none/\d.heap.get? b=some { o with slots:=k }/\f b=none:=fun b c=>by
  obtain⟨_,o,x,h⟩:=I.stack.mem c;have v:=I.vO b c;obtain⟨k,e⟩:=un.slot b o x v c (by simp);exact⟨o,k,x,h,v,e,un.free b o x v (by simp)⟩
 refine I.call' (C.trans G) (ch:=[]) ⟨fun b o e n c m=>?_,fun b o e n c m=>?_,un.free,fun b o e m=>?_,un.tups,un.pZ,un.qJ⟩ (fun a o e=>?_) D (fun b c=>absurd c (by simp))
 ·exact st b o (l b o (un.keep b o e n c m) (.inr ⟨o,e⟩) c)
 ·obtain⟨F,k,g,h,_,p,_⟩:=t b c;rw[e] at g;cases g;obtain⟨A,r⟩:=sm b _ p h;exact⟨A,r⟩
 ·by_cases c:b∈frs X.stack
  ·obtain⟨F,k,g,h,_,p,_⟩:=t b c;obtain⟨A,r⟩:=sm b _ p h;exact⟨_,r⟩
  ·obtain⟨i,g⟩:=un.there b o e m;exact⟨i,st b i (l b i g (.inr ⟨o,e⟩) c)⟩
 ·have z:∀ b u,f b=some u->b∉frs X.stack:=fun b u q c=>by
   obtain⟨_,_,_,_,_,_,B⟩:=t b c;rw[q] at B;cases B
  refine(E a o e).stay (fun b u c q=>?_) (fun _ q=>q) fun _ _ q=>q
  rcases c with rfl|c
  ·exact st b u (l b u q (.inl (by rw[e];simp)) (z b o e))
  ·exact st b u (l b u q (.inl (by rw[c];simp)) (z b _ c))
structure Air(X:Cx)(pins:List (Addr×Obj))(zzs:St)(H':Hp)(ea C:Addr)(s'':Shared):Prop where
 ex:∃(H:Hp)(s s':Shared)(B:Heap)(t:Addr),Inv X pins zzs H s/\s'.os=s.os/\Un (frs X.stack) [] H H' s.heap s'.heap/\HOk X.prog X.w H' s'.heap /\
  (∀ b o,s'.heap.get? b=some o->(H' b≠none\/∃ o',s.heap.get? b=some o')->b∉frs X.stack->B.get? b=some o)/\Heap.FlyingW B X.stack ea (.ref C) (.ref t) s''.heap/\s'.heap.UpToSlots s''.heap/\s''.os=s'.os/\AllBare s''.gens/\s.heap.get? ea=none/\H' ea=none
theorem Air.inv{pins:List (Addr×Obj)}{zzs:St}{b:Hp}{h C:Addr}{c:Shared}(a:Air X pins zzs b h C c):Inv X pins zzs b c:=by
 obtain⟨H,s,s',l,t,d,k,un,j,f,i,sm,e,g,_,_⟩:=a.ex;exact land d k un j f i.1 sm e g
theorem Air.obj{pins:List (Addr×Obj)}{zzs:St}{d:Hp}{b C:Addr}{c:Shared}(a:Air X pins zzs d b C c):∃ ob,c.heap.get? b=some ob/\ob.cls=.ref C:=by
 obtain⟨H,s,s',f,t,g,l,un,k,i,e,sm,h,j,_,_⟩:=a.ex;exact e.there
theorem Air.free{pins:List (Addr×Obj)}{zzs:St}{b:Hp}{c C:Addr}{d:Shared}(a:Air X pins zzs b c C d):b c=none:=by
 obtain⟨H,s,s',f,t,g,m,un,l,i,k,sm,h,j,_,e⟩:=a.ex;exact e
theorem Air.again{pins:List (Addr×Obj)}{zzs:St}{d:Hp}{c C:Addr}{b:Shared}{M:Model}{A:Around}{f:Value->Shared->Prop}{Q:Unit->Shared->Prop}(a:Air X pins zzs d c C b)
  (m:∀ h',Air X pins zzs d c C { b with heap:=h' }->Q () { b with heap:=h' }):wpAny M A (setFlight (.ref c) none) Q f b:=by
 obtain⟨H,s,s',e,t,g,q,un,n,i,k,sm,h,j,o,p⟩:=a.ex;exact lands_againW k fun h' l r=>m h' ⟨H,s,s',e,t,g,q,un,n,i,l,sm.trans r,h,j,o,p⟩
def Fz(ea C:Addr):HO:=.ext fun h=>∃ ob,h.get? ea=some ob/\ob.cls=.ref C
theorem a0q{c:Program}{w:World}{H:Hp}{h:Heap}{a C:Addr}(e:∃ ob,h.get? a=some ob/\ob.cls=.ref C):g8 c w H h a (Fz a C):=by
 obtain⟨ob,b,d⟩:=e;exact⟨⟨ob,b,d⟩,⟨ob,b⟩,fun h1 h2 ⟨o,f,g⟩ k=>⟨o,k o f,g⟩⟩
theorem Inv.a4o{pins:List (Addr×Obj)}{zzs:St}{H:Hp}{s:Shared}{a:Addr}{o:HO}(I:Inv X pins zzs H s)(t:H a=none)(h0:X.s₀.heap.get? a=none)(m:a≠X.env.locals)
  (r:∀ x c,X.env.cells.lookup x=some c->c≠a) (y:∀ p∈X.pn++pins,p.1≠a) (new:g8 X.prog X.w (upd H a o) s.heap a o):Inv X pins zzs (upd H a o) s:=by
 have f:∀ b u,H b=some u->b≠a:=fun b u e=>aR e t
 refine⟨I.ok,I.os,I.bare,⟨I.base.keep,I.base.slot,fun b u e n z=>?_,I.base.there,fun b xs e=>?_,fun b u xs e=>?_,fun b ps e=>?_⟩,I.loc,I.cell,?_,fun x c e=>?_,fun p q=>?_,fun b u e=>?_,I.len⟩
 ·rw[aN (fun A=>by rw[A,h0] at e;cases e)];exact I.base.free b u e n z
 ·have d:=I.base.tups b xs e;rw[aN (f b _ d)];exact d
 ·have d:=I.base.pZ b u xs e;rw[aN (f b _ d)];exact d
 ·obtain⟨more,d⟩:=I.base.qJ b ps e;exact⟨more,by rw[aN (f b _ d)];exact d⟩
 ·rw[aN (kI m)];exact I.free
 ·rw[aN (r x c e)];exact I.jO x c e
 ·obtain⟨h,i,j,k,l⟩:=I.pin p q;exact⟨h,by rw[aN (y p q)];exact i,j,k,l⟩
 ·by_cases g:b=a
  ·subst g;rw[aC] at e;cases e;exact new
  ·rw[aN g] at e;exact(I.hok b u e).stay (fun c v _ q=>q) (fun c q=>by rw[aN (f c _ q)];exact q) fun c xs q=>by rw[aN (f c _ q)];exact q
theorem Air.track{pins:List (Addr×Obj)}{zzs:St}{i:Hp}{b C:Addr}{j:Shared}(a:Air X pins zzs i b C j)(l:X.ex=[]):Inv X pins zzs (upd i b (Fz b C)) j:=by
 have k:=a.inv;have u:=a.obj;obtain⟨H,s,s',w,t,g,E,un,D,z,B,sm,y,A,h,r⟩:=a.ex;refine k.a4o r ?_ (fun f=>?_) (fun x c e f=>?_) (fun p n f=>?_) (a0q u)
 ·cases q:X.s₀.heap.get? b with
  |none=>rfl
  |some o=>
   obtain⟨o',e⟩:=g.base.there b o q (by rw[l];simp);rw[h] at e;cases e
 ·obtain⟨m,⟨o,_,_,d,_⟩,_⟩:=g.loc;rw[<- f,h] at d;cases d
 ·obtain⟨v,o,d,_⟩:=g.cell x c e;rw[f,h] at d;cases d
 ·have e:=(g.pin p n).1;rw[f,h] at e;cases e
def PH(X:Cx)(hs:List ExceptHandler)(th:Addr->TS):Prop:=
 ∀(pins:List (Addr×Obj))(zzs:St)(H:Hp)(ea C:Addr)(s:Shared)(D:Ends),Air X pins zzs H ea C s->th C D zzs H->wpAny (model X.prog X.w) X.A (handleBy (.ref ea) X.env hs) (SP X pins D) X.xe s
def Q7(K:ao)(C C':Addr):Bool:=match K.lookup C with
 |some ⟨.type "type",_,.cls cd,_⟩=>!(cd.mro.contains (.ref C'))
 |_=>false
theorem a3V:PH X [] (fun _ _ _ _=>False):=fun _ _ _ _ _ _ _ _ h=>h.elim
end
def Its(z:Str):It:=⟨fun i _=>i<z.cps.size,fun i H x H'=>H'=H/\∃ c,z.cps[i]?=some c/\x=.str ⟨#[c]⟩,fun i _=>z.cps.size<=i⟩
theorem Vx{D:Program}{w:World}{K:ao}{I:Expr}(z:Str)(t:Tok)(f:Addr):Turn D w K I (Its z) [f] f (fun i h=>h.IsStrIter f "str_ascii_iterator" z t i) where
 mem:=by simp
 obj:=fun i h st b a=>by
  have e:b=f:=by simpa using a
  subst e;obtain⟨o,e,c,d⟩:=st;exact⟨o,e,fun v q=>by rw[d] at q;cases q⟩
 keep:=fun i h h' st k=>by
  obtain⟨o,e,c,d⟩:=st;exact⟨o,k f (by simp) o e,c,d⟩
 item:=by
  intro X x hw u A i pins s zzs H E g j st y;subst x hw u;obtain⟨m,f1,f2,n,p,r⟩:=j f (by simp);have l:i<z.cps.size:=y;refine wpAny_pyNext_ascii_item st (c:=z.cps[i]) (by simp[l]) fun h' B G=>?_
  have C:Inv X pins zzs H { s with heap:=h',toks:=s.toks+1 }:=g.turned (fun b o a e=>(G.2 b a).trans e) m f1 n p r;obtain⟨o,e,c,d⟩:=id B;exact⟨_,rfl,Qd (s:={ s with heap:=h',toks:=s.toks+1 }) e c d (by decide) ⟨.str ⟨#[z.cps[i]]⟩,H,C,⟨_,rfl⟩,⟨rfl,z.cps[i],by simp[l],rfl⟩,B,fun b a=>(j b a).1⟩⟩
 done:=by
  intro X x hw u A i pins s zzs H E g j st y;subst x hw u;obtain⟨m,f1,f2,n,p,r⟩:=j f (by simp);have l:z.cps.size<=i:=y;exact wpAny_pyNext_ascii_end (g.ok.hd A) st (by simp[l]) fun h' F=>⟨rfl,g.turned (t':=s.toks) (fun b o a e=>F b o a e) m f1 n p r⟩
 self:=fun _ _ _ _ _ st h=>wpAny_pyIter_striter_ascii st h
theorem Vy{D:Program}{w:World}{K:ao}{I:Expr}(z:Str)(t:Tok)(f:Addr):Turn D w K I (Its z) [f] f (fun i h=>h.IsStrIter f "str_iterator" z t i) where
 mem:=by simp
 obj:=fun i h st b a=>by
  have e:b=f:=by simpa using a
  subst e;obtain⟨o,e,c,d⟩:=st;exact⟨o,e,fun v q=>by rw[d] at q;cases q⟩
 keep:=fun i h h' st k=>by
  obtain⟨o,e,c,d⟩:=st;exact⟨o,k f (by simp) o e,c,d⟩
 item:=by
  intro X x hw u A i pins s zzs H E g j st y;subst x hw u;obtain⟨m,f1,f2,n,p,r⟩:=j f (by simp);have l:i<z.cps.size:=y;refine wpAny_pyNext_wide_item st (c:=z.cps[i]) (by simp[l]) fun h' B G=>?_
  have C:Inv X pins zzs H { s with heap:=h',toks:=s.toks+1 }:=g.turned (fun b o a e=>(G.2 b a).trans e) m f1 n p r;obtain⟨o,e,c,d⟩:=id B;exact⟨_,rfl,Qd (s:={ s with heap:=h',toks:=s.toks+1 }) e c d (by decide) ⟨.str ⟨#[z.cps[i]]⟩,H,C,⟨_,rfl⟩,⟨rfl,z.cps[i],by simp[l],rfl⟩,B,fun b a=>(j b a).1⟩⟩
 done:=by
  intro X x hw u A i pins s zzs H E g j st y;subst x hw u;obtain⟨m,f1,f2,n,p,r⟩:=j f (by simp);have l:z.cps.size<=i:=y;exact wpAny_pyNext_wide_end (g.ok.hd A) st (by simp[l]) fun h' F=>⟨rfl,g.turned (t':=s.toks) (fun b o a e=>F b o a e) m f1 n p r⟩
 self:=fun _ _ _ _ _ st h=>wpAny_pyIter_striter_wide st h
section
variable{X:Cx}{tg:Expr}
def a4X(te:TE):TI:=fun zzs H R=>te zzs H fun x H1=>∃ z,x=.str z/\R (Its z) H1
theorem a3W{l:Expr}{g:TE}(k:PE X l g):PI X tg l (a4X g):=by
 intro pins s zzs H R i h;refine thn (k pins s zzs H _ i h) fun v s1 p=>?_
 obtain⟨x,H1,a,n,m⟩:=p;obtain⟨c,e,q⟩:=m;subst e;obtain⟨t,rfl⟩:=n;have d:∀ b∈[s1.heap.objs.size],uO X pins H1 b:=fun b j=>by
  have e:b=s1.heap.objs.size:=by simpa using j
  subst e;exact a.Wq (bG _) (a.hok.fresh (bG _))
 cases f:c.cps.all (·<128)
 ·exact wpAny_pyIter_wide f ⟨s1.heap.objs.size,[s1.heap.objs.size],_,_,H1,rfl,a.kept (t':=s1.toks) fun b o e=>fB _ e,Vy c t _,⟨_,jQ _ rfl,rfl,rfl⟩,d,q⟩
 ·exact wpAny_pyIter_ascii f ⟨s1.heap.objs.size,[s1.heap.objs.size],_,_,H1,rfl,a.kept (t':=s1.toks) fun b o e=>fB _ e,Vx c t _,⟨_,jQ _ rfl,rfl,rfl⟩,d,q⟩
def DW(z:Str)(n:Int):Str:=if n<1 then Str.empty else if(n==1||z.length==0)=true then z else⟨(List.replicate n.toNat z.cps).foldl (·++·) #[]⟩
theorem MK:OpR X (binaryOp .Mult) (fun x y H Q=>∃ z n,x=.str z/\y=.int n/\z.length<=1000 /\ -1000<=n/\n<=1000/\Q (.str (DW z n)) H):=by
 intro pins s zzs H x y v u Q b m o h;obtain⟨z,n,rfl,rfl,f,h1,h2,q⟩:=h;obtain⟨t,rfl⟩:=m;obtain⟨p,rfl⟩:=o;refine P.mul_str (by rw[cU (by lia),cU (by lia)];rfl) (fun i _=>?_) (fun i _=>?_) ?_
 ·have:(1000:Int)<=(2^63-1) / n:=by
   rw[Int.le_ediv_iff_mul_le (by lia)];lia
  lia
 ·have:z.length*n.toNat<=1000*1000:=rY f (by lia);show decide (z.length*n.toNat>sizeLine)=false;rw[su];exact cU (by lia)
 ·unfold DW at q;by_cases c:n<1
  ·rw[aL c] at q ⊢;exact⟨by decide,⟨.str _,H,b.tok _,⟨_,rfl⟩,q⟩⟩
  ·rw[aJ c] at q ⊢;by_cases d:(n==1||z.length==0)=true
   ·rw[aL d] at q ⊢;exact⟨.str _,H,b,⟨_,rfl⟩,q⟩
   ·rw[aJ d] at q ⊢;refine⟨?_,⟨.str _,H,b.tok _,⟨_,rfl⟩,q⟩⟩;have e:∀(k:Nat)(a:Array Nat),((List.replicate k z.cps).foldl (·++·) a).size=a.size+k*z.cps.size:=by
     intro k
     induction k with
     |zero=>intro a;simp
     |succ k l=>
      intro a;rw[u5,zj,l,Array.size_append,Nat.add_mul,Nat.one_mul];lia
    have g:=e n.toNat #[];have j:z.cps.size<=1000:=f;have:n.toNat*z.cps.size<=1000*1000:=rY (by lia) j;show((List.replicate n.toNat z.cps).foldl (·++·) #[]).size<=sizeLine;rw[g,su];simp only[cJ,vW];lia
theorem VR(z:X.calm=true):eV X (.builtin "all") (fun xs H Q=>∃(p:Addr)(bs:List Bool),xs=[.ref p]/\SqL X.K H p (bs.map V.bl)/\Q (.bl (bs.all id)) H):=by
 intro pins s zzs H xs N Q d r h;obtain⟨p,bs,rfl,C,q⟩:=h;obtain⟨u,rfl,F⟩:=vals1 r;cases F;obtain⟨c,rv,g,M⟩:=d.list C;have l:c.length=bs.length:=by have:=rv.length;simpa using this.symm
 have D:∀(i:Nat)(v:Value),c[i]?=some v->v=.bool (bs.getD i true):=fun i v e=>by
  have a:i<bs.length:=by rw[<- l];exact(lR.mp e).1
  have f:(bs.map V.bl)[i]?=some (V.bl bs[i]):=by simp[a]
  obtain⟨O,k,G⟩:=rv.get f;rw[e] at k;cases k;have:bs.getD i true=bs[i]:=by simp[eE,a]
  rw[this];exact G
 have B:p≠s.heap.objs.size:=fun j=>by
  obtain⟨o,n,e,_⟩:=g;exact rZ _ (j▸bZ e)
 refine call_all_walk (wpAny_pyIter_list g.isList ?_);refine⟨s.heap.objs.size,[s.heap.objs.size,p],[s.heap.objs.size],c.toArray.size,fun i v=>c.toArray[i]?=some v,fun i h=>h.IsListIter s.heap.objs.size p i/\h.IsList p c.toArray,fun i=>bs.getD i true,rfl,
  Walks.list (A:=X.A.in1) (d.ok.hd z) _ p B c.toArray,⟨⟨_,jQ _ rfl,rfl,rfl⟩,g.isList.at fun o e=>fB _ e⟩,fun i v s' L J t w=>?_,fun h' tk E=>?_⟩
 ·have:=D i v (by simpa using t);subst this;exact vR w
 ·have y:(List.range c.toArray.size).all (fun i=>bs.getD i true)=bs.all id:=by
   rw[cJ,l];apply uI.mpr;simp only[nP,dO,id];constructor
   ·intro h x f;obtain⟨i,a,rfl⟩:=Ot f;have:=h i a;simpa [eE,a] using this
   ·intro h i a;have:=h bs[i] (qG a);simpa [eE,a] using this
  rw[y];have m:Inv X pins zzs H { s with heap:=h',toks:=tk }:=d.kept fun b o e=>E b o (fun j=>by
   have I:b=s.heap.objs.size:=by simpa using j
   exact rZ _ (I▸bZ e)) (fB _ e)
  exact⟨.bl _,H,m,rfl,q⟩
end
open PySem.SeqAt
inductive Dt where
 |non|bl (b:Bool)|int (i:Int)|str (x:Str)|tup (ds:List Dt)|lst (ds:List Dt)
mutual
inductive Den(K:ao)(H:Hp):V->Dt->Prop
 |non:Den K H .non .non
 |bl (b:Bool):Den K H (.bl b) (.bl b)
 |int (i:Int):Den K H (.int i) (.int i)
 |str (x:Str):Den K H (.str x) (.str x)
 |tup {a:Addr} {xs:List V} {ds:List Dt} (h:H a=some (.tup xs)) (hs:bw K H xs ds):Den K H (.ref a) (.tup ds)
 |lst {a:Addr} {xs:List V} {ds:List Dt} (h:SqL K H a xs) (hs:bw K H xs ds):Den K H (.ref a) (.lst ds)
inductive bw(K:ao)(H:Hp):List V->List Dt->Prop
 |nil:bw K H [] []
 |cons {x:V} {d:Dt} {xs:List V} {ds:List Dt} (h:Den K H x d) (t:bw K H xs ds):bw K H (x::xs) (d::ds)
end
def lQ:Dt->Option V
 |.non=>some .non
 |.bl b=>some (.bl b)
 |.int i=>some (.int i)
 |.str x=>some (.str x)
 |_=>none
mutual
def eqD:Dt->Dt->Bool
 |.tup a,.tup b=>uV a b
 |.lst a,.lst b=>uV a b
 |.non,e=>match lQ e with|some y=>eqV .non y|none=>false
 |.bl x,e=>match lQ e with|some y=>eqV (.bl x) y|none=>false
 |.int x,e=>match lQ e with|some y=>eqV (.int x) y|none=>false
 |.str x,e=>match lQ e with|some y=>eqV (.str x) y|none=>false
 |.tup _,_=>false
 |.lst _,_=>false
def uV:List Dt->List Dt->Bool
 |[],[]=>true
 |a::as,b::bs=>eqD a b&&uV as bs
 |[],_::_=>false
 |_::_,[]=>false
end
def a3m:Dt->Dt->Bool
 |.tup _,e=>(lQ e).isSome
 |_,_=>false
mutual
def shD:Dt->Dt->Bool
 |.tup a,.tup b=>BW a b
 |.lst a,.lst b=>BW a b
 |.non,e=>(lQ e).isSome
 |.bl _,e=>(lQ e).isSome
 |.int _,e=>(lQ e).isSome
 |.str _,e=>(lQ e).isSome
 |.tup _,_=>false
 |.lst _,_=>false
def BW:List Dt->List Dt->Bool
 |a::as,b::bs=>(shD a b||a3m a b)&&BW as bs
 |_,_=>true
end
mutual
def uR:Dt->Nat
 |.tup a=>yL a+1
 |.lst a=>yL a+1
 |_=>0
def yL:List Dt->Nat
 |[]=>0
 |a::as=>max (uR a) (yL as)
end
theorem bw.length{K:ao}{H:Hp}:∀ {xs:List V} {a:List Dt},bw K H xs a->xs.length=a.length
 |_,_,.nil=>rfl
 |_,_,.cons _ t=>by rw[gD,gD,t.length]
theorem bw.get{K:ao}{H:Hp}:∀ {xs:List V} {a:List Dt} {i:Nat} {x:V},bw K H xs a->xs[i]?=some x->∃ d,a[i]?=some d/\Den K H x d
 |_,_,_,_,.nil,e=>by simp at e
 |_,_,0,_,.cons h _,e=>by simp at e;subst e;exact⟨_,rfl,h⟩
 |_,_,i+1,x,.cons _ t,e=>by
  obtain⟨d,h1,h2⟩:=bw.get (i:=i) (x:=x) t (by simpa using e);exact⟨d,by simpa using h1,h2⟩
theorem bw.get'{K:ao}{H:Hp}:∀ {xs:List V} {a:List Dt} {i:Nat} {d:Dt},bw K H xs a->a[i]?=some d->∃ x,xs[i]?=some x/\Den K H x d
 |_,_,_,_,.nil,e=>by simp at e
 |_,_,0,_,.cons h _,e=>by simp at e;subst e;exact⟨_,rfl,h⟩
 |_,_,i+1,d,.cons _ t,e=>by
  obtain⟨x,h1,h2⟩:=bw.get' (i:=i) (d:=d) t (by simpa using e);exact⟨x,by simpa using h1,h2⟩
theorem bw.append{K:ao}{H:Hp}:∀ {xs c:List V} {a b:List Dt},bw K H xs a->bw K H c b->bw K H (xs++c) (a++b)
 |_,_,_,_,.nil,s=>s
 |_,_,_,_,.cons h t,s=>.cons h (t.append s)
theorem sJ:∀ {b:List Dt} {d:Dt},d∈b->uR d<=yL b
 |a::as,d,h=>by
  unfold yL;rcases cZ.mp h with e|e
  ·rw[e];exact Nat.le_max_left _ _
  ·exact dU (sJ e) (Nat.le_max_right _ _)
theorem vK:∀ {as bs:List Dt} {i:Nat} {a b:Dt},BW as bs=true->as[i]?=some a->bs[i]?=some b->shD a b=true\/a3m a b=true
 |x::as,y::bs,0,a,b,h,c,e2=>by
  simp at c e2;subst c;subst e2;unfold BW at h;simp only[nO,Bool.or_eq_true] at h;exact h.1
 |x::as,y::bs,i+1,a,b,h,c,e2=>by
  unfold BW at h;simp only[nO] at h;exact vK (i:=i) h.2 (by simpa using c) (by simpa using e2)
 |[],_,_,_,_,_,c,_=>by simp at c
 |_::_,[],_,_,_,_,_,e2=>by simp at e2
def atD(as bs:List Dt)(j:Nat):Bool:=eqD (as.getD j .non) (bs.getD j .non)
theorem Bp(n:Nat)(p:Nat->Bool):(List.range (n+1)).all p=(p 0&&(List.range n).all fun j=>p (j+1)):=by
 rw[List.range_succ_eq_map,yD,Ii];rfl
theorem uW:∀ {as bs:List Dt},as.length=bs.length->(List.range as.length).all (atD as bs)=uV as bs
 |[],[],_=>rfl
 |a::as,b::bs,h=>by
  have c:=@uW as bs (by simpa using h);rw[gD,Bp];unfold uV;rw[<- c];rfl
 |[],_::_,h=>by simp at h
 |_::_,[],h=>by simp at h
theorem uX:∀ {as bs:List Dt},as.length≠bs.length->uV as bs=false
 |[],[],h=>absurd rfl h
 |a::as,b::bs,h=>by
  unfold uV;rw[uX (as:=as) (bs:=bs) (fun c=>h (by rw[gD,gD,c])),yC]
 |[],_::_,_=>rfl
 |_::_,[],_=>rfl
theorem Jo:∀ {as bs:List Dt},((List.range (min as.length bs.length)).all (atD as bs)&&as.length==bs.length)=uV as bs:=by
 intro as bs;by_cases h:as.length=bs.length
 ·rw[<- h,Nat.min_self,uW h];simp
 ·rw[uX h];simp[h]
theorem Ao:∀ {x:V},Qa x=true->eqV x x=true
 |.non,_=>rfl
 |.bl b,_=>by simp[eqV]
 |.int i,_=>by simp[eqV]
 |.str x,_=>by simp[eqV]
mutual
theorem Am:∀ d:Dt,eqD d d=true
 |.non=>rfl
 |.bl b=>by show eqV (.bl b) (.bl b)=true;exact Ao rfl
 |.int i=>by show eqV (.int i) (.int i)=true;exact Ao rfl
 |.str x=>by show eqV (.str x) (.str x)=true;exact Ao rfl
 |.tup ds=>by unfold eqD;exact wV ds
 |.lst ds=>by unfold eqD;exact wV ds
theorem wV:∀ b:List Dt,uV b b=true
 |[]=>rfl
 |a::as=>by unfold uV;rw[Am a,wV as];rfl
end
theorem Qo{X:Cx}{pins:List (Addr×Obj)}{zzs:St}{H:Hp}{s:Shared}{a:Addr}{xs f:List V}(I:Inv X pins zzs H s)(h:SqT X.K H a xs)(h':SqL X.K H a f):False:=by
 obtain⟨_,_,⟨o,e,c,_⟩,_⟩:=I.tuple h;obtain⟨_,_,⟨o',_,d,b,_⟩,_⟩:=I.list h';rw[e] at d;cases d;rw[c] at b;exact absurd b (by decide)
mutual
theorem Den.inj{X:Cx}{pins:List (Addr×Obj)}{zzs:St}{H:Hp}{s:Shared}(I:Inv X pins zzs H s):∀ {d:Dt} {e:Dt} {x:V},Den X.K H x d->Den X.K H x e->d=e
 |.tup ds,_,_,.tup h c,a=>by
  cases a with
  |tup h' b=>
   have e:=I.Vu (SqT.of h) (SqT.of h');subst e;rw[bw.inj I c b]
  |lst h' b=>exact(Qo I (SqT.of h) h').elim
 |.lst ds,_,_,.lst h c,a=>by
  cases a with
  |lst h' b=>
   have e:=I.Jx h h';subst e;rw[bw.inj I c b]
  |tup h' b=>exact(Qo I (SqT.of h') h).elim
 |.non,_,_,.non,a=>by cases a;rfl
 |.bl _,_,_,.bl _,a=>by cases a;rfl
 |.int _,_,_,.int _,a=>by cases a;rfl
 |.str _,_,_,.str _,a=>by cases a;rfl
theorem bw.inj{X:Cx}{pins:List (Addr×Obj)}{zzs:St}{H:Hp}{s:Shared}(I:Inv X pins zzs H s):∀ {a c:List Dt} {xs:List V},bw X.K H xs a->bw X.K H xs c->a=c
 |[],_,_,.nil,b=>by cases b;rfl
 |d::a,_,_,.cons h t,b=>by
  cases b with
  |cons h' e=>rw[Den.inj I h h',bw.inj I t e]
end
theorem bw.getD{K:ao}{H:Hp}{xs:List V}{a:List Dt}{us:List Value}{j:Nat}(f:bw K H xs a)(r:Vals xs us)(h:j<us.length):∃ x,RelV x us[j]/\Den K H x (a.getD j .non)/\a[j]?=some (a.getD j .non):=by
 have l:=r.length;have e:xs[j]?=some xs[j]:=by simp[l,h]
 obtain⟨u,c,m⟩:=r.get e;obtain⟨d,b,g⟩:=f.get e;have k:us[j]=u:=by
  rw[iM h] at c;exact iy c
 have i:a.getD j .non=d:=by rw[eE,b];rfl
 rw[k,i];exact⟨_,m,g,b⟩
theorem Den.flat{K:ao}{H:Hp}{x:V}{d:Dt}{y:V}(h:Den K H x d)(e:lQ d=some y):x=y/\Qa x=true:=by
 cases h with
 |non=>cases e;exact⟨rfl,rfl⟩
 |bl b=>cases e;exact⟨rfl,rfl⟩
 |int i=>cases e;exact⟨rfl,rfl⟩
 |str a=>cases e;exact⟨rfl,rfl⟩
 |tup _ _=>cases e
 |lst _ _=>cases e
theorem uU{d e:Dt}{x y:V}(a:lQ d=some x)(b:lQ e=some y):eqD d e=eqV x y:=by
 cases d<;>first
  |(cases a;simp only[eqD,b])
  |cases a
theorem Ko{d e:Dt}{x:V}(a:lQ d=some x)(h:shD d e=true):∃ y,lQ e=some y:=by
 cases d<;>first
  |(cases a;unfold shD at h;exact Zn.mp h)
  |cases a
theorem Al{X:Cx}{pins:List (Addr×Obj)}{zzs:St}{H:Hp}{s:Shared}(I:Inv X pins zzs H s){d e:Dt}{x y:V}{u v:Value}{A:Around}(f:A.units<cLine)(k:Den X.K H x d)(l:Den X.K H y e)(m:RelV x u)(g:RelV y v)(j:a3m d e=true):EqAt A s u v (eqD d e):=by
 cases k with
 |@tup a xs ds h o=>
  cases m;obtain⟨p,r,c,_⟩:=I.tuple (SqT.of h);cases l with
  |non=>cases g;exact EqAt.tuple_none c f
  |bl b=>cases g;exact EqAt.tuple_bool b c f
  |int i=>obtain⟨t,rfl⟩:=g;exact EqAt.tuple_int i t c f
  |str n=>obtain⟨t,rfl⟩:=g;exact EqAt.tuple_str n t c f
  |tup _ _=>cases j
  |lst _ _=>cases j
 |_=>cases j
theorem Jl{X:Cx}{pins:List (Addr×Obj)}{zzs:St}{H:Hp}{s:Shared}(I:Inv X pins zzs H s):∀(n:Nat){d e:Dt}{x y:V}{u v:Value}{A:Around},uR d<=n->A.units+n<cLine->Den X.K H x d->Den X.K H y e->RelV x u->RelV y v->shD d e=true->EqAt A s u v (eqD d e):=by
 intro n
 induction n with
 |zero=>
  intro d e x y u v A f W z B G J c;cases fd:lQ d with
  |some Y=>
   obtain⟨Z,w⟩:=Ko fd c;obtain⟨rfl,f1⟩:=z.flat fd;obtain⟨rfl,f2⟩:=B.flat w;rw[uU fd w];exact Lz G J f1 f2
  |none=>
   cases d with
   |tup ds=>unfold uR at f;exact absurd f (by lia)
   |lst ds=>unfold uR at f;exact absurd f (by lia)
   |_=>cases fd
 |succ n T=>
  intro d e x y u v A f W z B G J c;cases fd:lQ d with
  |some Y=>
   obtain⟨Z,w⟩:=Ko fd c;obtain⟨rfl,f1⟩:=z.flat fd;obtain⟨rfl,f2⟩:=B.flat w;rw[uU fd w];exact Lz G J f1 f2
  |none=>
   cases d with
   |tup ds=>
    cases e with
    |tup es=>
     cases z with
     |@tup a xs _ h g=>
      cases B with
      |@tup b ys _ h' i=>
       cases G;cases J;by_cases l:a=b
       ·subst l;have e:=Den.inj I (.tup h g) (.tup h' i);rw[e,Am];exact EqAt.same _
       ·obtain⟨R,r,M,_⟩:=I.tuple (SqT.of h);obtain⟨S,D,N,_⟩:=I.tuple (SqT.of h');have Q:BW ds es=true:=by unfold shD at c;exact c
        rw[show eqD (.tup ds) (.tup es)=uV ds es from by unfold eqD;rfl];rw[<- Jo];have C:R.toArray.size=ds.length:=by rw[cJ,<- r.length,g.length]
        have O:S.toArray.size=es.length:=by rw[cJ,<- D.length,i.length]
        rw[<- C,<- O];refine Ij l (RcAt.tuples M N (by lia) fun j h1 h2=>?_);obtain⟨p,E,m,t⟩:=g.getD r (j:=j) (by simpa using h1);obtain⟨q,F,o,P⟩:=i.getD D (j:=j) (by simpa using h2);unfold uR at f;have U:=sJ (gC t);exact(vK Q t P).elim (fun k=>T (A:=A.in1) (by lia) (by show A.units+1+n<cLine;lia) m o (by simpa using E) (by simpa using F) k) (fun k=>Al (A:=A.in1) I (by show A.units+1<cLine;lia) m o (by simpa using E) (by simpa using F) k)
    |_=>unfold shD at c;cases c
   |lst ds=>
    cases e with
    |lst es=>
     cases z with
     |@lst a xs _ h g=>
      cases B with
      |@lst b ys _ h' i=>
       cases G;cases J;by_cases l:a=b
       ·subst l;have e:=Den.inj I (.lst h g) (.lst h' i);rw[e,Am];exact EqAt.same _
       ·obtain⟨R,r,M,_⟩:=I.list h;obtain⟨S,D,N,_⟩:=I.list h';have Q:BW ds es=true:=by unfold shD at c;exact c
        rw[show eqD (.lst ds) (.lst es)=uV ds es from by unfold eqD;rfl];have C:R.toArray.size=ds.length:=by rw[cJ,<- r.length,g.length]
        have O:S.toArray.size=es.length:=by rw[cJ,<- D.length,i.length]
        by_cases L:ds.length=es.length
        ·rw[<- uW L,<- C];refine Ij l (RcAt.lists M.isList N.isList (by rw[C,O];exact L) (by lia) fun j h1 h2=>?_);obtain⟨p,E,m,t⟩:=g.getD r (j:=j) (by simpa using h1);obtain⟨q,F,o,P⟩:=i.getD D (j:=j) (by simpa using h2);unfold uR at f;have U:=sJ (gC t);exact(vK Q t P).elim (fun k=>T (A:=A.in1) (by lia) (by show A.units+1+n<cLine;lia) m o (by simpa using E) (by simpa using F) k) (fun k=>Al (A:=A.in1) I (by show A.units+1<cLine;lia) m o (by simpa using E) (by simpa using F) k)
        ·rw[uX L];exact Ij l (RcAt.lists_lengths M.isList N.isList (by rw[C,O];simpa using L) (by lia))
    |_=>unfold shD at c;cases c
   |_=>cases fd
section
variable{X:Cx}{pins:List (Addr×Obj)}{zzs:St}{H:Hp}{s:Shared}
def a4k:Dt->Option (List Dt)
 |.tup ds=>some ds
 |.lst ds=>some ds
 |_=>none
theorem sX{n:Nat}{A:Around}(I:Inv X pins zzs H s){xs k:List V}{a b:List Dt}{us c:List Value}(y:yL a<=n)(z:A.units+(n+1)<cLine)(t:bw X.K H xs a)(u:bw X.K H k b)(r:Vals xs us)(v:Vals k c)
  (w:BW a b=true) (j:Nat) (m:j<us.toArray.size) (o:j<c.toArray.size):EqAt A.in1 s us.toArray[j] c.toArray[j] (atD a b j):=by
 obtain⟨p,h,e,g⟩:=t.getD r (j:=j) (by simpa using m);obtain⟨q,i,f,l⟩:=u.getD v (j:=j) (by simpa using o);have x:=sJ (gC g);exact(vK w g l).elim (fun d=>Jl I n (A:=A.in1) (by lia) (by show A.units+1+n<cLine;lia) e f (by simpa using h) (by simpa using i) d) (fun d=>Al (A:=A.in1) I (by show A.units+1<cLine;lia) e f (by simpa using h) (by simpa using i) d)
theorem K9{A:Around}(I:Inv X pins zzs H s){d e:Dt}{a b:Addr}(x:(a4k d).isSome=true)(y:A.units+60<cLine)(u:uR d<=50)(v:Den X.K H (.ref a) d)(w:Den X.K H (.ref b) e)(c:shD d e=true):RcAt A s (.ref a) (.ref b) (eqD d e)/\RcNeAt A s (.ref a) (.ref b) (!eqD d e):=by
 cases d with
 |tup ds=>
  cases e with
  |tup es=>
   cases v with
   |tup h f=>
    cases w with
    |tup h' g=>
     obtain⟨q,r,i,_⟩:=I.tuple (SqT.of h);obtain⟨t,l,j,_⟩:=I.tuple (SqT.of h');have p:BW ds es=true:=by unfold shD at c;exact c
     have o:yL ds<=49:=by unfold uR at u;lia
     rw[show eqD (.tup ds) (.tup es)=uV ds es from by unfold eqD;rfl,<- Jo];have k:q.toArray.size=ds.length:=by rw[cJ,<- r.length,f.length]
     have n:t.toArray.size=es.length:=by rw[cJ,<- l.length,g.length]
     rw[<- k,<- n];exact⟨RcAt.tuples i j (by lia) (sX I o (by lia) f g r l p),RcNeAt.tuples i j (by lia) (sX I o (by lia) f g r l p)⟩
  |_=>unfold shD at c;cases c
 |lst ds=>
  cases e with
  |lst es=>
   cases v with
   |lst h f=>
    cases w with
    |lst h' g=>
     obtain⟨q,r,i,_⟩:=I.list h;obtain⟨t,l,j,_⟩:=I.list h';have p:BW ds es=true:=by unfold shD at c;exact c
     have o:yL ds<=49:=by unfold uR at u;lia
     rw[show eqD (.lst ds) (.lst es)=uV ds es from by unfold eqD;rfl];have k:q.toArray.size=ds.length:=by rw[cJ,<- r.length,f.length]
     have n:t.toArray.size=es.length:=by rw[cJ,<- l.length,g.length]
     by_cases m:ds.length=es.length
     ·rw[<- uW m,<- k];exact⟨RcAt.lists i.isList j.isList (by rw[k,n];exact m) (by lia) (sX I o (by lia) f g r l p),RcNeAt.lists i.isList j.isList (by rw[k,n];exact m) (by lia) (sX I o (by lia) f g r l p)⟩
     ·rw[uX m];exact⟨RcAt.lists_lengths i.isList j.isList (by rw[k,n];simpa using m) (by lia),RcNeAt.lists_lengths i.isList j.isList (by rw[k,n];simpa using m) (by lia)⟩
  |_=>unfold shD at c;cases c
 |_=>cases x
def a1v(K:ao)(neg:Bool):R2:=fun x y H Q=>∃ d e,(a4k d).isSome=true/\Den K H x d/\Den K H y e/\shD d e=true/\uR d<=50/\Q (.bl (if neg then !eqD d e else eqD d e)) H
theorem Den.Yo{K:ao}{x:V}{d e:Dt}{y:V}(g:(a4k d).isSome=true)(h:Den K H x d)(f:Den K H y e)(c:shD d e=true):∃ a b,x=.ref a/\y=.ref b:=by
 cases h with
 |@tup a _ _ _ _=>
  cases f with
  |@tup b _ _ _ _=>exact⟨a,b,rfl,rfl⟩
  |_=>unfold shD at c;cases c
 |@lst a _ _ _ _=>
  cases f with
  |@lst b _ _ _ _=>exact⟨a,b,rfl,rfl⟩
  |_=>unfold shD at c;cases c
 |_=>cases g
theorem a3A(l:X.A.units+60<cLine):OpR X (compareOp .Eq) (a1v X.K false):=by
 intro pins s zzs H x y v u Q c m n h;obtain⟨d,e,f,g,i,j,k,q⟩:=h;obtain⟨a,b,rfl,rfl⟩:=Den.Yo f g i j;cases m;cases n;exact(K9 c f l k g i j).1 _ _ _ _ ⟨.bl _,H,c,rfl,q⟩
theorem a3F(l:X.A.units+60<cLine):OpR X (compareOp .NotEq) (a1v X.K true):=by
 intro pins s zzs H x y v u Q c m n h;obtain⟨d,e,f,g,i,j,k,q⟩:=h;obtain⟨a,b,rfl,rfl⟩:=Den.Yo f g i j;cases m;cases n;exact(K9 c f l k g i j).2 _ _ _ _ ⟨.bl _,H,c,rfl,q⟩
def Vl(K:ao)(neg:Bool):R2:=fun x y H Q=>∃ d es p,y=.ref p/\Den K H x d/\(Den K H y (.lst es)\/Den K H y (.tup es))/\(∀ e∈es,shD e d=true/\uR e<=50)/\Q (.bl (if neg then !(es.any fun e=>eqD e d) else es.any fun e=>eqD e d)) H
theorem a0b{K:ao}{d:Dt}{c:Value->Bool}:∀ {xs:List V} {a:List Dt} {us:List Value},bw K H xs a->Vals xs us->(∀(j:Nat)(u:Value)(e:Dt),us[j]?=some u->a[j]?=some e->c u=eqD e d)->us.any c=a.any fun e=>eqD e d:=by
 intro xs a us b r
 induction r generalizing a with
 |nil=>intro h;cases b;rfl
 |cons _ r f=>
  intro h;cases b with
  |cons _ t=>rw[yE,yE,h 0 _ _ rfl rfl,f t fun j u e h1 h2=>h (j+1) u e (by simpa using h1) (by simpa using h2)]
open Classical in
theorem Gm(I:Inv X pins zzs H s){x:V}{v:Value}{d:Dt}{m:List V}{a:List Dt}{us:List Value}{A:Around}(L:A.units+60<cLine)(E:RelV x v)(D:Den X.K H x d)(g:bw X.K H m a)(r:Vals m us)(B:∀ e∈a,shD e d=true/\uR e<=50) :
  ∃ h:Value->Bool,(∀ u∈us,EqAt A s u v (h u))/\us.any h=a.any fun e=>eqD e d:=by
 have key:∀(j:Nat)(u:Value)(e:Dt),us[j]?=some u->a[j]?=some e->EqAt A s u v (eqD e d)/\∃ y,RelV y u/\Den X.K H y e:=fun j u e h1 h2=>by
  obtain⟨y,z,b⟩:=g.get' h2;obtain⟨M,i,c⟩:=r.get z;rw[h1] at i;cases i;obtain⟨n,o⟩:=B e (gC h2);exact⟨Jl I 50 o (by lia) b D c E n,y,c,b⟩
 have one:∀(j:Nat)(u:Value)(e:Dt),us[j]?=some u->a[j]?=some e->decide (∃ y e,RelV y u/\Den X.K H y e/\eqD e d=true)=eqD e d:=fun j u e h1 h2=>by
  obtain⟨_,y,c,b⟩:=key j u e h1 h2;cases q:eqD e d with
  |true=>exact cR ⟨y,_,c,b,q⟩
  |false=>
   refine cU fun G=>?_
   obtain⟨N,J,F,p,l⟩:=G;have w:=c.inj F;subst w;rw[Den.inj I p b,q] at l;cases l
 refine⟨fun u=>decide (∃ y e,RelV y u/\Den X.K H y e/\eqD e d=true),fun u C=>?_,a0b g r one⟩;obtain⟨j,f⟩:=Ht C;have k:j<a.length:=by rw[<- g.length,r.length];exact(lR.mp f).1
 have t:=(key j u a[j] f (by simp[k])).1;show EqAt A s u v (decide _);rw[one j u a[j] f (by simp[k])];exact t
theorem a3D(t:X.A.units+61<cLine):OpR X (compareOp .In) (Vl X.K false):=by
 intro pins s zzs H x y v u Q a m n h;obtain⟨d,es,p,rfl,l,b,k,q⟩:=h;cases n;rcases b with b|b
 ·cases b with
  |lst h' f=>
   obtain⟨o,r,g,_⟩:=a.list h';obtain⟨P,c,e⟩:=Gm (A:=X.A.in1) a (by show X.A.units+1+60<cLine;omega) m l f r k;exact in_listAt P g.isList (fun j i=>c j (by simpa using i)) ⟨.bl _,H,a,by rw[<- e];simp<;>rfl,q⟩
 ·cases b with
  |tup h' f=>
   obtain⟨o,r,g,_⟩:=a.tuple (SqT.of h');obtain⟨P,c,e⟩:=Gm (A:=X.A.in1) a (by show X.A.units+1+60<cLine;omega) m l f r k;exact in_tupleAt P g (fun j i=>c j (by simpa using i)) ⟨.bl _,H,a,by rw[<- e];simp<;>rfl,q⟩
theorem Vb(t:X.A.units+61<cLine):OpR X (compareOp .NotIn) (Vl X.K true):=by
 intro pins s zzs H x y v u Q a m n h;obtain⟨d,es,p,rfl,l,b,k,q⟩:=h;cases n;rcases b with b|b
 ·cases b with
  |lst h' f=>
   obtain⟨o,r,g,_⟩:=a.list h';obtain⟨P,c,e⟩:=Gm (A:=X.A.in1) a (by show X.A.units+1+60<cLine;omega) m l f r k;exact notIn_listAt P g.isList (fun j i=>c j (by simpa using i)) ⟨.bl _,H,a,by rw[<- e];simp<;>rfl,q⟩
 ·cases b with
  |tup h' f=>
   obtain⟨o,r,g,_⟩:=a.tuple (SqT.of h');obtain⟨P,c,e⟩:=Gm (A:=X.A.in1) a (by show X.A.units+1+60<cLine;omega) m l f r k;exact notIn_tupleAt P g (fun j i=>c j (by simpa using i)) ⟨.bl _,H,a,by rw[<- e];simp<;>rfl,q⟩
end
structure Df(P:Program)(w:World)(K:ao)(mg:Str->Option Value)(base:Heap)(k:Nat)(x:Str)(ps:List Str)(sp:Sp):Prop where
 ex:∃ f fd,cB P w K mg base (CXE P w) k f fd ps sp/\mg x=some (.ref f)/\PySem.W.keepIn K (.ref f)=true/\Binds K fd ps []
theorem aW{X:Cx}:Passes (CXE X.prog X.w) X E0:=by
 intro pins zzs H s e s' b h;obtain⟨ea,C,H',_,_,_,_,_,_,a⟩:=h;exact a.elim
section
variable{P:Program}{w:World}{K:ao}{mg:Str->Option Value}{base:Heap}
theorem Fun.okE{x e:Str}{st:Stmt}{f:Addr}{g:FuncData}{N d:List Str}{k:Nat}{sp:Sp}(F:Fun K x e st f g)(i:aP N d (aH st))(len:∀ vs H Q a,sp vs H Q a->vs.length=d.length)
  (j:∀(b:Value)(A:Around)(c:List Env)(s:Shared)(H:Hp)(vs:List V)(Q:VK)(a:XK),gK k (A.deeper (envOfC e (aH st) s.heap.objs.size f b))->sp vs H Q a ->
   ∃ t,PSs (oR (CXE P w) P w K mg base N e (aH st) f b A c s H a) (fZ st) t/\t { nx:=fun _ h=>Q .non h,rt:=Q } (start N vs) H):cB P w K mg base (CXE P w) (k+1) f g d sp:=by
 obtain⟨oc,od,kV,doc,pm,an,b,ct,osl,rfl,o,l⟩:=F.ex;exact a4S o l i len fun A c s H vs Q a m n=>j b A c s H vs Q a m n
theorem Fun.ok0{x e:Str}{st:Stmt}{f:Addr}{g:FuncData}{N d:List Str}{k:Nat}{sp:Sp}(F:Fun K x e st f g)(j:aP N d (aH st))(len:∀ vs H Q a,sp vs H Q a->vs.length=d.length)
  (l:∀(b:Value)(A:Around)(c:List Env)(s:Shared)(H:Hp)(vs:List V)(Q:VK)(a:XK),gK k (A.deeper (envOfC e (aH st) s.heap.objs.size f b))->sp vs H Q a ->
   ∃ t,PSs (oR (CXE P w) P w K mg base N e (aH st) f b A c s H a).nox (fZ st) t/\t { nx:=fun _ i=>Q .non i,rt:=Q } (start N vs) H):cB P w K mg base (CXE P w) (k+1) f g d sp:=
 F.okE j len fun b A c s H vs Q a m n=>let ⟨t,h,q⟩:=l b A c s H vs Q a m n;⟨t,h.nox,q⟩
end
theorem PS.nox{X:Cx}{st:Stmt}{t:TS}(h:PS X.nox st t):PS X st t:=fun pins s zzs H a b hw=>
 jL (h pins s zzs H a (b.wish _) hw) (fun _ _ q=>SP.oK q) fun _ _ c=>False.elim c
section
variable{X:Cx}{k j:Nat}{ps:List Str}{sp:Sp}{E:XK}{x:Str}{p pos:Pos}{e:Expr}{es:List Expr}{t:TA}
theorem a3K(a:Df X.prog X.w X.K X.mg X.base k x ps sp)(m:gK j X.A)(h:Gl X x)(n:Passes (CXE X.prog X.w) X E)(b:PA X (e::es) t)(i:k<=j:=by decide)
  (d:(x==("__debug__" : Str))=false:=by decide) (g:starEach (e::es) X.env=(false,eval e X.env)::starEach es X.env:=by rfl) (hpl:(backTo pos (starEach es X.env)).any (·.1)=false:=by rfl) :
  PE X (.Call (.Name x p) (e::es) [] pos) (Ks sp [] E t):=by
 obtain⟨f,fd,F,l,o,c⟩:=a.ex;exact a1c F (m.mono i) h l o c .nil n b d g hpl
end
section
variable{X:Cx}{x:Str}{pos:Pos}
theorem a1f{i:Int}(h:∃ t,X.mg x=some (.int i t))(b:Gl X x) (a:(x==("__debug__" : Str))=false:=by decide):PE X (.Name x pos) (tC (.int i)):=by
 obtain⟨t,h⟩:=h;exact Gw b h ⟨t,rfl⟩ a
theorem a1g{z:Str}(h:∃ t,X.mg x=some (.str z t))(b:Gl X x) (a:(x==("__debug__" : Str))=false:=by decide):PE X (.Name x pos) (tC (.str z)):=by
 obtain⟨t,h⟩:=h;exact Gw b h ⟨t,rfl⟩ a
end
section
variable{X:Cx}
def K1:R2:=fun x y H Q=>match x,y with
 |.int i,.int j=>Q (.int (i+j)) H
 |.str i,.str j=>i.length+j.length<=sizeLine/\Q (.str (i++j)) H
 |.ref l,.ref b=>∃ xs zs,H l=some (.lst xs)/\H b=some (.lst zs)/\xs.length+zs.length<=sizeLine/\∀ p,H p=none->Q (.ref p) (upd H p (.lst (xs++zs)))
 |_,_=>False
theorem jE:OpR X (binaryOp .Add) K1:=by
 intro pins s zzs H x y v u Q a b c h;unfold K1 at h;split at h
 ·exact a3y pins s zzs H _ _ v u Q a b c ⟨_,_,rfl,rfl,h⟩
 ·exact MF pins s zzs H _ _ v u Q a b c ⟨_,_,rfl,rfl,h.1,h.2⟩
 ·obtain⟨xs,zs,h1,h2,d,e⟩:=h;exact a3z pins s zzs H _ _ v u Q a b c ⟨_,_,xs,zs,rfl,rfl,h1,h2,d,e⟩
 ·exact h.elim
def a2e:R2:=fun x y H Q=>match x,y with
 |.int i,.int j=>a08 i j/\Q (.int (i*j)) H
 |.str z,.int n=>z.length<=1000 /\ -1000<=n/\n<=1000/\Q (.str (DW z n)) H
 |.ref l,.int k=>∃ xs,H l=some (.lst xs) /\ -(2^63)<=k/\k<2^63/\xs.length*k.toNat<=sizeLine/\∀ p,H p=none->Q (.ref p) (upd H p (.lst (List.replicate k.toNat xs).flatten))
 |_,_=>False
theorem tE:OpR X (binaryOp .Mult) a2e:=by
 intro pins s zzs H x y v u Q a b c h;unfold a2e at h;split at h
 ·exact a3E pins s zzs H _ _ v u Q a b c ⟨_,_,rfl,rfl,h.1,h.2⟩
 ·exact MK pins s zzs H _ _ v u Q a b c ⟨_,_,rfl,rfl,h.1,h.2.1,h.2.2.1,h.2.2.2⟩
 ·obtain⟨xs,h1,h2,d,e,f⟩:=h;exact a3G pins s zzs H _ _ v u Q a b c ⟨_,_,xs,rfl,rfl,h1,h2,d,e,f⟩
 ·exact h.elim
end
def a4E:V->Option Value
 |.ty n=>some (.type n)
 |.ref a=>some (.ref a)
 |_=>none
theorem a0h{c:V}{cv u:Value}(h:a4E c=some cv)(r:RelV c u):u=cv:=by
 cases c with
 |ty n=>cases h;exact r
 |ref a=>cases h;exact r
 |_=>cases h
theorem PN{g:It}{n:Nat}{item:Nat->V}{p:TT}{q:TE}{zzs:St}{fin:List V->Hp->Prop}{H:Hp}(R:Nat->List V->Hp->Prop)(x:n<=sizeLine)
  (u:∀ i a H,i<n->R i a H->g.go i H) (B:∀ i a H v c,i<n->R i a H->g.yld i H v c->v=item i/\c=H) (A:∀ a H,R n a H->g.stop n H)
  (w:∀ i a H,i<=n->R i a H->a.length<=i) (h0:R 0 [] H)
  (z:∀ i a H,i<n->R i a H->∀ j:List V->Hp->Prop,(∀ f c,R (i+1) f c->j f c)->p (some (item i)::zzs) H fun b d=>if b=true then q (some (item i)::zzs) d fun y s=>j (a++[y]) s else j a d)
  (t:∀ a H,R n a H->fin a H):∃ k:Nat->Nat->List V->Hp->Prop,(∃ m,k 0 m [] H)/\qK g p q zzs fin k:=by
 refine⟨fun i m a H=>m=n-i/\i<=n/\R i a H,⟨n,by lia,nQ _,h0⟩,?_⟩;rintro i m a H ⟨rfl,l,r⟩;refine⟨dU (w i a H l r) (dU l x),?_⟩;by_cases h:i<n
 ·refine .inr ⟨u i a H h r,fun v c y=>?_⟩;obtain⟨rfl,rfl⟩:=B i a H v c h r y;exact z i a _ h r (fun f d=>∃ o,o<n-i/\(o=n-(i+1)/\i+1<=n/\R (i+1) f d)) fun f d C=>⟨n-(i+1),by lia,rfl,h,C⟩
 ·have e:i=n:=by lia
  subst e;exact .inl ⟨A a H r,t a H r⟩
theorem Same.put{H:Hp}{p:Addr}{o:HO}(h:H p=none):Same H (upd H p o):=fun b u e=>by
 rw[aN (aR e h)];exact e
theorem Same.and{H a:Hp}{p:Addr}{o:HO}(s:Same H a)(h:a p=none):Same H (L2.upd a p o):=s.trans (Same.put h)
theorem small{n:Nat}(h:n<=10000):n<=sizeLine:=dU h (by rw[su];decide)
theorem a0c{a:List Int}{i:Int}(h0:0<=i)(c:i<a.length):∃ v,atI (a.map V.int) i=some (V.int v):=by
 obtain⟨k,rfl⟩:=O9 h0;have b:k<a.length:=by lia
 exact⟨a[k],dX (by simp[b])⟩
theorem lA{A:Around}{k:Nat}(a:gK k A):A.units+60<cLine:=Ov (ZW (by decide:60<=64) _) a.units
theorem M6{A:Around}{k:Nat}(a:gK k A):A.units+61<cLine:=Ov (ZW (by decide:61<=64) _) a.units
def notStar:Expr->Bool
 |.Starred _ _=>false
 |_=>true
theorem nD{a:Env}{e:Expr}{b:List Expr}(h:notStar e=true):starEach (e::b) a=(false,eval e a)::starEach b a:=by
 cases e<;>first|rfl|cases h
theorem vg{b:Env}{pos:Pos}:∀ {a:List Expr},a.all notStar=true->(backTo pos (starEach a b)).any (·.1)=false
 |[],_=>rfl
 |e::a,h=>by
  rw[yD,nO] at h;rw[nD h.1];show(false||(backTo pos (starEach a b)).any (·.1))=false;rw[vg h.2];rfl
section
variable{X:Cx}{k j:Nat}{ps:List Str}{sp:Sp}{E:XK}{x:Str}{p pos:Pos}{e:Expr}{es:List Expr}{te:TE}{t:TA}{id T:String}{r:List V->Hp->VK->Prop}{C f:Addr}{fd:FuncData}
theorem a4e(a:Df X.prog X.w X.K X.mg X.base k x ps sp)(i:gK j X.A)(g:Gl X x)(l:Passes (CXE X.prog X.w) X E)(d:PA X (e::es) t)(h:k<=j:=by decide)(b:notStar e=true:=by rfl)(c:es.all notStar=true:=by rfl)
  (f:(x==("__debug__" : Str))=false:=by decide):PE X (.Call (.Name x p) (e::es) [] pos) (Ks sp [] E t):=a3K a i g l d h f (nD b) (vg c)
theorem Yd(d:eV X (.builtin id) r)(g:Gl X x)(h:X.mg x=none)(j:bootBuiltins x=some (.builtin id))(c:PA X (e::es) t)(a:notStar e=true:=by rfl)(b:es.all notStar=true:=by rfl) (i:x ≠ "__name__":=by decide)
  (f:(x==("__debug__" : Str))=false:=by decide):PE X (.Call (.Name x p) (e::es) [] pos) (tCB r t):=XH d g h j c i f (nD a) (vg b)
theorem Vk(d:eV X (.type T) r)(g:Gl X x)(h:X.mg x=none)(j:bootBuiltins x=some (.type T))(c:PA X (e::es) t)(a:notStar e=true:=by rfl)(b:es.all notStar=true:=by rfl) (i:x ≠ "__name__":=by decide)
  (f:(x==("__debug__" : Str))=false:=by decide):PE X (.Call (.Name x p) (e::es) [] pos) (tCB r t):=Vd d g h j c i f (nD a) (vg b)
end
structure Md(P:Program)(w:World)(K:ao)(mg:Str->Option Value)(base:Heap)(k:Nat)(x:Str)(ps:List Str)(C:Addr)(sp:Sp):Prop where
 ex:∃ f fd,Mk K C f/\cB P w K mg base (CXE P w) k f fd ps sp/\mg x=some (.ref C)/\Binds K fd ps []
section
variable{X:Cx}{k j:Nat}{ps:List Str}{sp:Sp}{E:XK}{x:Str}{p pos:Pos}{e:Expr}{es:List Expr}{te:TE}{t:TA}{C:Addr}
theorem a1u(a:Md X.prog X.w X.K X.mg X.base k x ps C sp)(n:gK j X.A)(i:Gl X x)(o:Passes (CXE X.prog X.w) X E)(d:PA X (e::es) t)(l:k+1<=j:=by decide)(b:notStar e=true:=by rfl)(c:es.all notStar=true:=by rfl)
  (h:(x==("__debug__" : Str))=false:=by decide):PE X (.Call (.Name x p) (e::es) [] pos) (YX C sp [] E t):=by
 obtain⟨f,fd,M,F,m,g⟩:=a.ex;exact a1h M F (n.mono l) i m g .nil o d h (nD b) (vg c)
end
structure RE(X:Cx)(e:Expr)(t:TE):Prop where ok:PE X e t
structure RT(X:Cx)(e:Expr)(t:TT):Prop where ok:PT X e t
structure RB(X:Cx)(e:Expr)(t:TT):Prop where ok:PW X e t
structure RA(X:Cx)(es:List Expr)(t:TA):Prop where ok:PA X es t
structure RS(X:Cx)(st:Stmt)(t:TS):Prop where ok:PS X st t
structure RSs(X:Cx)(st:List Stmt)(t:TS):Prop where ok:PSs X st t
structure RI(X:Cx)(tg iter:Expr)(t:TI):Prop where ok:PI X tg iter t
structure RG(X:Cx)(tg:Expr)(t:TG):Prop where ok:PG X tg t
structure RIf(X:Cx)(ifs:List Expr)(t:TT):Prop where ok:Ip X ifs t
structure RH(X:Cx)(hs:List ExceptHandler)(th:Addr->TS):Prop where ok:PH X hs th
def zK:Expr->Bool
 |.ListComp _ _ _ _=>false
 |.SetComp _ _ _ _=>false
 |.DictComp _ _ _ _ _=>false
 |_=>true
theorem YQ{e:Expr}{t:Option Expr}{n:Nat}{a:Env}(h:zK e=true):swapsWith e t n a=pure false:=by
 cases e<;>first|rfl|cases h
def plainT:Expr->Bool
 |.Call _ _ _ _=>true
 |.Name _ _=>true
 |.Constant _ _ _=>true
 |.Attribute _ _ _=>true
 |.Subscript _ _ _=>true
 |_=>false
theorem a5o{e:Expr}{b:Env}(h:plainT e=true):∀ a,isTrue e b a=(do let v <- a;standAt e.pos;holding [v] (truthy v)):=by
 intro a;cases e<;>first|rfl|cases h
def Qn:Expr->Bool
 |.Name _ _=>true
 |.Constant _ _ _=>true
 |.BinOp _ _ _ _=>true
 |.UnaryOp _ _ _=>true
 |.Call _ _ _ _=>true
 |.Subscript _ _ _=>true
 |.Attribute _ _ _=>true
 |_=>false
theorem a4Y{b:Expr}(h:Qn b=true):Pz b:=by
 intro o i;cases b<;>first|rfl|cases h
section
variable{X:Cx}{a b c e o:Expr}{es rest:List Expr}{ta tb tc te to:TE}{t:TA}{tA tB':TT}{pos p:Pos}{i:Nat}{x:Str}
theorem rv(i:Nat)(a:X.N[i]?=some x:=by rfl)(d:Vis X.env.scope x:=by first|exact Or.inl rfl|exact Or.inr (Or.inl rfl)|exact Or.inr (Or.inr rfl)) (c:(x==("__debug__" : Str))=false:=by decide)
  (b:(x==("__classdict__" : Str))=false:=by decide):RE X (.Name x pos) (a5S i):=⟨a3T a d c b⟩
theorem aG {i j pos}:RE X (.Constant (.int i) j pos) (tC (.int i)):=⟨a3M⟩
theorem qI {b j pos}:RE X (.Constant (.bool b) j pos) (tC (.bl b)):=⟨a5g⟩
theorem yR {j pos}:RE X (.Constant .none j pos) (tC .non):=⟨a3O⟩
theorem bx {z j pos}:RE X (.Constant (.str z) j pos) (tC (.str z)):=⟨a3R⟩
theorem N5{i:Int}(h:∃ t,X.mg x=some (.int i t))(b:Gl X x) (a:(x==("__debug__" : Str))=false:=by decide):RE X (.Name x pos) (tC (.int i)):=⟨a1f h b a⟩
theorem N6{z:Str}(h:∃ t,X.mg x=some (.str z t))(b:Gl X x) (a:(x==("__debug__" : Str))=false:=by decide):RE X (.Name x pos) (tC (.str z)):=⟨a1g h b a⟩
theorem yQ{C:Addr}(c:X.mg x=some (.ref C))(b:Gl X x) (a:(x==("__debug__" : Str))=false:=by decide):RE X (.Name x pos) (tC (.ref C)):=⟨Gw b c rfl a⟩
theorem a6z{n:String}(c:X.mg x=none)(b:Gl X x)(e:bootBuiltins x=some (.type n)) (d:x ≠ "__name__":=by decide) (a:(x==("__debug__" : Str))=false:=by decide):RE X (.Name x pos) (tC (.ty n)):=⟨a1b b c e rfl d a⟩
theorem lC{op:Operator}{r:R2}(e:OpR X (binaryOp op) r)(c:RE X a ta)(d:RE X b tb):RE X (.BinOp a op b pos) (tOp r ta tb):=⟨a5j e c.ok d.ok⟩
theorem a6A{op:UnaryOp}{r:V->Hp->VK->Prop}(c:UnR X (unaryOp op) r)(b:RE X a ta):RE X (.UnaryOp op a pos) (tUn r ta):=⟨a5k c b.ok⟩
theorem K5{op:CmpOp}{r:R2}(f:OpR X (compareOp op) r)(c:RE X a ta)(d:RE X b tb)(e:behindInMarks op b=false):RE X (.Compare a [op] [b] pos) (tOp r ta tb):=⟨a1d f c.ok d.ok e⟩
theorem aZ{op:CmpOp}{r:R2}(f:OpR X (compareOp op) r)(c:RE X a ta)(d:RE X b tb)(e:behindInMarks op b=false):RT X (.Compare a [op] [b] pos) (T8 (tOp r ta tb)):=⟨a1t f c.ok d.ok e⟩
theorem zL{op d:CmpOp}{r e:R2}(j:OpR X (compareOp op) r)(k:OpR X (compareOp d) e)(f:RE X a ta)(g:RE X b tb)(h:RE X c tc)
  (i:lastMarks [op,d] [b,c]=false:=by with_unfolding_all rfl):RE X (.Compare a [op,d] [b,c] pos) (GX r e ta tb tc):=⟨XJ j k f.ok g.ok h.ok i⟩
theorem Kg{op d:CmpOp}{r e:R2}(j:OpR X (compareOp op) r)(k:OpR X (compareOp d) e)(f:RE X a ta)(g:RE X b tb)(h:RE X c tc)
  (i:lastMarks [op,d] [b,c]=false:=by with_unfolding_all rfl):RT X (.Compare a [op,d] [b,c] pos) (T8 (GX r e ta tb tc)):=⟨Y9 j k f.ok g.ok h.ok i⟩
theorem gY(h:RE X e te)(a:plainT e=true:=by rfl):RT X e (L2.tB te):=⟨a4d h.ok (a5o a)⟩
theorem Gx(b:RT X a tA):RB X (.BoolOp .And [a] pos) tA:=⟨pw_and1 b.ok⟩
theorem Gy(b:RT X a tA):RB X (.BoolOp .Or [a] pos) tA:=⟨pw_or1 b.ok⟩
theorem N8(c:RT X a tA)(d:RB X (.BoolOp .And (b::rest) pos) tB'):RB X (.BoolOp .And (a::b::rest) pos) (a5K tA tB'):=⟨pw_and c.ok d.ok⟩
theorem K8(c:RT X a tA)(d:RB X (.BoolOp .Or (b::rest) pos) tB'):RB X (.BoolOp .Or (a::b::rest) pos) (tOr tA tB'):=⟨pw_or c.ok d.ok⟩
theorem Nh(h:RB X e tA):RT X e tA:=⟨h.ok.pt⟩
theorem jf(b:RT X a tA):RT X (.UnaryOp .Not a pos) (a5O tA):=⟨a4c b.ok⟩
theorem K6 {op} {t:TE} (h:RE X a t):RE X (.BoolOp op [a] pos) t:=⟨a3Q h.ok⟩
theorem K4(c:RE X a ta)(d:RE X (.BoolOp .And (b::rest) pos) tb):RE X (.BoolOp .And (a::b::rest) pos) (a2o ta tb):=⟨a3I c.ok d.ok⟩
theorem a5C(b:RE X a ta):RE X (.UnaryOp .Not a pos) (a2u ta):=⟨a3P b.ok⟩
theorem ak:RA X [] fO:=⟨a3H⟩
theorem aj(a:RE X e te)(b:RA X es t)(c:notStar e=true:=by rfl):RA X (e::es) (a2r te t):=⟨a0Z a.ok b.ok (nD c)⟩
theorem eG {x1} (h:RA X es t):RE X (.Tuple es x1 pos) (a5R t):=⟨a3S h.ok⟩
theorem bU(h:RA X es t):RE X (.List es pos) (a5N t):=⟨a3N h.ok⟩
theorem gq{r:R2}(e:IxR X r)(c:RE X a ta)(d:RE X b tb)(f:Qn b=true:=by rfl):RE X (.Subscript a b pos) (tOp r ta tb):=⟨a5i e c.ok d.ok (a4Y f)⟩
theorem a5B{f:Str}(b:RE X e ta)(a:attributeBase e f X.env (eval e X.env)=eval e X.env:=by rfl):RE X (.Attribute e f pos) (a1M X.K ta f):=⟨a3L b.ok a⟩
variable{k j:Nat}{ps:List Str}{sp:Sp}{E:XK}{id T:String}{r:List V->Hp->VK->Prop}{C:Addr}
theorem aQ(a:Df X.prog X.w X.K X.mg X.base k x ps sp)(i:gK j X.A)(g:Gl X x)(l:Passes (CXE X.prog X.w) X E)(d:RA X (e::es) t)(h:k<=j:=by decide)(b:notStar e=true:=by rfl)(c:es.all notStar=true:=by rfl)
  (f:(x==("__debug__" : Str))=false:=by decide):RE X (.Call (.Name x p) (e::es) [] pos) (Ks sp [] E t):=⟨a4e a i g l d.ok h b c f⟩
theorem fG(a:Md X.prog X.w X.K X.mg X.base k x ps C sp)(i:gK j X.A)(g:Gl X x)(l:Passes (CXE X.prog X.w) X E)(d:RA X (e::es) t)(h:k+1<=j:=by decide)(b:notStar e=true:=by rfl)(c:es.all notStar=true:=by rfl)
  (f:(x==("__debug__" : Str))=false:=by decide):RE X (.Call (.Name x p) (e::es) [] pos) (YX C sp [] E t):=⟨a1u a i g l d.ok h b c f⟩
theorem aX(d:eV X (.builtin id) r)(g:Gl X x)(h:X.mg x=none)(j:bootBuiltins x=some (.builtin id))(c:RA X (e::es) t)(a:notStar e=true:=by rfl)(b:es.all notStar=true:=by rfl) (i:x ≠ "__name__":=by decide)
  (f:(x==("__debug__" : Str))=false:=by decide):RE X (.Call (.Name x p) (e::es) [] pos) (tCB r t):=⟨Yd d g h j c.ok a b i f⟩
theorem Bo(d:eV X (.type T) r)(g:Gl X x)(h:X.mg x=none)(j:bootBuiltins x=some (.type T))(c:RA X (e::es) t)(a:notStar e=true:=by rfl)(b:es.all notStar=true:=by rfl) (i:x ≠ "__name__":=by decide)
  (f:(x==("__debug__" : Str))=false:=by decide):RE X (.Call (.Name x p) (e::es) [] pos) (tCB r t):=⟨Vk d g h j c.ok a b i f⟩
theorem LR{c:Env}{b:Pos}:∀ {a:List Expr},a.all notStar=true->(backTo b (starEach a c)).all (fun x=>!x.1)=true
 |[],_=>rfl
 |e::a,h=>by
  rw[yD,nO] at h;rw[nD h.1];show((!false)&&(backTo b (starEach a c)).all (fun x=>!x.1))=true;rw[LR h.2];rfl
variable{name:Str}{apos cpos:Pos}{rm:V->List V->Hp->VK->Prop}
theorem a6y(k:PlainAttrs T)(l:Slot T name id) (j:typeOf (.builtin id)=pure (.type "method_descriptor")) (h:MtR X id rm) (i:RE X o to) (c:RA X (e::es) t) (b:(e::es).all notStar=true:=by rfl)
  (d:attributeBase o name X.env (eval o X.env)=eval o X.env:=by rfl) (f:decide ((e::es).length<30)=true:=by rfl) (g:(apos.endLine==cpos.line)=true:=by rfl):RE X (.Call (.Attribute o name apos) (e::es) [] cpos) (tBM X.K T rm to t):=by
 have a:=b;rw[yD,nO] at a;refine⟨a5h k l j h i.ok c.ok d ?_ g (nD a.1) (vg a.2)⟩;rw[LR b];have:decide ((e::es).length+([]:List Keyword).length+(if([]:List Keyword).isEmpty then 0 else 1)<30)=true:=by simpa using f
 rw[this];rfl
theorem a5A(f:PlainAttrs T)(g:Slot T name id) (e:typeOf (.builtin id)=pure (.type "method_descriptor")) (c:MtR X id rm) (d:RE X o to)
  (a:attributeBase o name X.env (eval o X.env)=eval o X.env:=by rfl) (b:(apos.endLine==cpos.line)=true:=by rfl):RE X (.Call (.Attribute o name apos) [] [] cpos) (a4l X.K T rm to):=⟨a3J f g e c d.ok a b⟩
end
section
variable{X:Cx}{tg l:Expr}{te:TE}{ta:TA}{p pos:Pos}
theorem a1B(a:RE X l te):RI X tg l (Wv X.K te):=⟨a1k a.ok⟩
theorem a4i(a:RE X l te):RI X tg l (a4X te):=⟨a3W a.ok⟩
theorem pA{a:Expr} (c:Gl X "range") (d:X.mg "range" = none) (b:RA X [a] ta) (e:notStar a=true:=by rfl):RI X tg (.Call (.Name "range" p) [a] [] pos) (a1Y ta):=⟨Vg c d b.ok (nD e)⟩
theorem xK{a b:Expr} (e:Gl X "range") (f:X.mg "range" = none) (d:RA X [a,b] ta) (g:notStar a=true:=by rfl) (c:notStar b=true:=by rfl):RI X tg (.Call (.Name "range" p) [a,b] [] pos) (a1Z ta):=
 ⟨Vh e f d.ok (by rw[nD g,nD c];rfl) (nD c)⟩
theorem zM:RIf X [] Vs:=⟨a1l⟩
theorem kO{c:Expr}{t:TT}(h:RT X c t):RIf X [c] t:=⟨a1m h.ok⟩
theorem lJ{x:Str}{c:Pos}{scope:Scope}{a iter:Expr}{b:List Expr}{e:TI}{d:TT}(ok:wM scope X.env.scope X.N x=true)(f:X.calm=true)(h:RI X (.Name x c) iter e)
  (i:∀ s H ex,RIf (jB X x scope s H ex) b d) (g:∀ s H ex,RE (jB X x scope s H ex) a te) (j:∀ v,foldedSetIterable iter X.env v=pure v:=by intro _;rfl) :
  RE X (.ListComp a [⟨.Name x c,iter,b,0⟩] scope pos) (a2q e d te):=⟨a1e ok f h.ok (fun s H ex=>(i s H ex).ok) (fun s H ex=>(g s H ex).ok) j⟩
end
section
variable{X:Cx}{st:Stmt}{rest body:List Stmt}{t u tb:TS}{e tg iter:Expr}{te:TE}{pos:Pos}{i:Nat}{x:Str}
theorem aO:RSs X [] a2t:=⟨a1r⟩
theorem au(a:RS X st t)(b:RSs X rest u):RSs X (st::rest) (a4m t u):=⟨Y8 a.ok b.ok⟩
theorem aB(a:RS X st t):RSs X [st] t:=⟨a1s a.ok⟩
theorem bJ(a:RE X e te)(b:zK e=true:=by rfl):RS X (.Expr e pos) (a2s te):=⟨a1q a.ok (YQ b)⟩
theorem aY(a:RE X e te):RS X (.Return (some e) pos) (a5P te):=⟨a4a a.ok⟩
theorem bO{c:Expr}{a b:List Stmt}{d:TT}(g:RT X c d)(e:RSs X a t)(f:RSs X b u):RS X (.If c a b pos) (a5M d t u):=⟨a5p g.ok e.ok f.ok⟩
theorem cY(a:X.N.Nodup)(c:X.N[i]?=some x)(d:Loc X.env.scope x)(b:X.fn x=true\/X.env.scope.names.lookup x=some .local:=by first|exact .inl rfl|exact .inr rfl|assumption):RG X (.Name x pos) (Qc i):=⟨a1j a c d b⟩
theorem Nb{o i:Expr}{to c:TE}{t:Te}(f:RE X o to)(e:RE X i c)(g:VF X t) (d:∀ v,assign (.Subscript o i pos) X.env v=(do
   let a <- holding [v] (eval o X.env)
   let b <- holding [v,a] (eval i X.env)
   standAt pos
   holding [v,a,b] (setItem a b v)
   release [v,a,b] []):=by intro _;rfl):RG X (.Subscript o i pos) (a4T to c t):=⟨a3U f.ok e.ok g d⟩
theorem Ng{g:TG}(b:RE X e te)(c:RG X tg g)(d:swapsWithSole [tg] e pos.line X.env=pure false:=by rfl)(hw:swappedStores [tg] e X.env=pure none:=by rfl)(a:(assignEach [tg] X.env).map (·.2)=[assign tg X.env]:=by rfl):RS X (.Assign [tg] e pos) (a1L te g):=⟨a3X b.ok c.ok d hw a⟩
theorem bK{h:Pos}(a:X.N.Nodup)(d:X.N[i]?=some x)(g:Loc X.env.scope x)(b:RE X e te)(f:zK e=true:=by rfl)(c:X.fn x=true\/X.env.scope.names.lookup x=some .local:=by first|exact .inl rfl|exact .inr rfl|assumption) :
  RS X (.Assign [.Name x h] e pos) (a1L te (Qc i)):=⟨a4b a d g b.ok (YQ f) c⟩
theorem fu{a:TI}{g:TG}(f:PassesOwn (model X.prog X.w) X.A X.env X.xe)(c:X.calm=true)(e:RI X tg iter a)(d:RG X tg g)(b:RSs X body tb)(h:∀ x,foldedSetIterable iter X.env x=pure x:=by intro _;rfl) :
  RS X (.For tg iter body [] pos) (a5L a g tb):=⟨a3Z f c e.ok d.ok b.ok h⟩
theorem Bu{c:Expr}{a:TT}(e:PassesOwn (model X.prog X.w) X.A X.env X.xe)(d:RT X c a)(b:RSs X body tb):RS X (.While c body [] pos) (Z1 a tb):=⟨Y6 e d.ok b.ok⟩
theorem rA{o a:Expr}{f:Str}{b c:TE}{h:Pos}(d:RE X o b)(g:RE X a c)(e:zK a=true:=by rfl):RS X (.Assign [.Attribute o f h] a pos) (a5D X.K b c f):=⟨a3Y d.ok g.ok (YQ e)⟩
theorem Ss{y:Str}{d c e:Pos}{scope:Scope}{a:Expr}{b:List Expr}{g:TI}{f:TT}(h:X.N.Nodup)(n:X.N[i]?=some y)(q:X.env.scope.names.lookup y=some .local)
  (ok:wM scope X.env.scope X.N x=true) (j:X.calm=true) (l:RI X (.Name x c) iter g) (m:∀ s H ex,RIf (jB X x scope s H ex) b f) (k:∀ s H ex,RE (jB X x scope s H ex) a te)
  (p:swapsWith (.ListComp a [⟨.Name x c,iter,b,0⟩] scope pos) (some (.Name y d)) e.line X.env=pure true:=by rfl) (o:∀ v,foldedSetIterable iter X.env v=pure v:=by intro _;rfl) :
  RS X (.Assign [.Name y d] (.ListComp a [⟨.Name x c,iter,b,0⟩] scope pos) e) (YS i g f te):=⟨a1p h n q ok j l.ok (fun s H ex=>(m s H ex).ok) (fun s H ex=>(k s H ex).ok) p o⟩
theorem RS.nox(h:RS X.nox st t):RS X st t:=⟨PS.nox h.ok⟩
theorem RT.nox{a:TT}(h:RT X.nox e a):RT X e a:=⟨PT.nox h.ok⟩
theorem a4h:RH X [] (fun _ _ _ _=>False):=⟨a3V⟩
end
section
variable{P:Program}{w:World}{K:ao}{mg:Str->Option Value}{base:Heap}{N:List Str}{qual:Str}{scope:Scope}{f:Addr}{cd:Value}{A:Around}{outer:List Env}{s0:Shared}{H0:Hp}{E:XK}
theorem fM{x:Str}{m d pos:Pos}{a:Expr}{b:List Expr}{t:TA}{C:Addr}(c:gG K C)(j:Gl (oR (CXE P w) P w K mg base N qual scope f cd A outer s0 H0 E) x)(l:mg x=some (.ref C))(k:A.handled=none)
  (h:RA (oR (CXE P w) P w K mg base N qual scope f cd A outer s0 H0 E) (a::b) t) (e:notStar a=true:=by rfl) (g:b.all notStar=true:=by rfl) (i:(x==("__debug__" : Str))=false:=by decide) :
  RS (oR (CXE P w) P w K mg base N qual scope f cd A outer s0 H0 E) (.Raise (some (.Call (.Name x m) (a::b) [] d)) none pos) (Z0 t C E):=⟨Y5 c j l k h.ok i (nD e) (vg g)⟩
theorem Fun.vq{x e:Str}{st:Stmt}{f:Addr}{g:FuncData}{N d:List Str}{k:Nat}{sp:Sp}(F:Fun K x e st f g)(j:aP N d (aH st))(len:∀ vs H Q a,sp vs H Q a->vs.length=d.length)
  (l:∀(b:Value)(A:Around)(c:List Env)(s:Shared)(H:Hp)(vs:List V)(Q:VK)(a:XK),gK k (A.deeper (envOfC e (aH st) s.heap.objs.size f b))->sp vs H Q a ->
   ∃ t,RSs (oR (CXE P w) P w K mg base N e (aH st) f b A c s H a) (fZ st) t/\t { nx:=fun _ i=>Q .non i,rt:=Q } (start N vs) H):cB P w K mg base (CXE P w) (k+1) f g d sp:=
 F.okE j len fun b A c s H vs Q a m n=>let ⟨t,h,q⟩:=l b A c s H vs Q a m n;⟨t,h.ok,q⟩
theorem Fun.rok{x e:Str}{st:Stmt}{f:Addr}{g:FuncData}{N d:List Str}{k:Nat}{sp:Sp}(F:Fun K x e st f g)(j:aP N d (aH st))(len:∀ vs H Q a,sp vs H Q a->vs.length=d.length)
  (l:∀(b:Value)(A:Around)(c:List Env)(s:Shared)(H:Hp)(vs:List V)(Q:VK)(a:XK),gK k (A.deeper (envOfC e (aH st) s.heap.objs.size f b))->sp vs H Q a ->
   ∃ t,RSs (oR (CXE P w) P w K mg base N e (aH st) f b A c s H a).nox (fZ st) t/\t { nx:=fun _ i=>Q .non i,rt:=Q } (start N vs) H):cB P w K mg base (CXE P w) (k+1) f g d sp:=
 F.ok0 j len fun b A c s H vs Q a m n=>let ⟨t,h,q⟩:=l b A c s H vs Q a m n;⟨t,h.ok,q⟩
end
mutual
theorem Den.mono{K:ao}{H c:Hp}(s:Same H c):∀ {v:V} {d:Dt},Den K H v d->Den K c v d
 |_,_,.non=>.non
 |_,_,.bl b=>.bl b
 |_,_,.int i=>.int i
 |_,_,.str x=>.str x
 |_,_,.tup h a=>.tup (s _ _ h) (bw.mono s a)
 |_,_,.lst h a=>.lst (s.seq h) (bw.mono s a)
theorem bw.mono{K:ao}{H a:Hp}(s:Same H a):∀ {vs:List V} {b:List Dt},bw K H vs b->bw K a vs b
 |_,_,.nil=>.nil
 |_,_,.cons h t=>.cons (Den.mono s h) (bw.mono s t)
end
theorem bw.strs{K:ao}{H:Hp}:∀ zs:List Str,bw K H (zs.map V.str) (zs.map Dt.str)
 |[]=>.nil
 |z::zs=>.cons (.str z) (bw.strs zs)
theorem bw.Gs{K:ao}{H:Hp}:∀ {bs:List Bool} {vs:List V},bw K H vs (bs.map Dt.bl)->vs=bs.map V.bl
 |[],_,.nil=>rfl
 |n::ns,_,.cons h t=>by cases h;rw[bw.Gs t];rfl
structure wu(J:It)(H:Hp)(vs:List V):Prop where
 go:∀ H' i,Same H H'->i<vs.length->J.go i H'
 yld:∀ H' i v H'',Same H H'->i<vs.length->J.yld i H' v H''->vs[i]?=some v/\H''=H'
 stop:∀ H',Same H H'->J.stop vs.length H'
theorem d8{K:ao}{H:Hp}{a:Addr}{vs:List V}(h:SqL K H a vs):wu (Itl K a) H vs:=
 ⟨fun H' i s b=>⟨vs,vs[i],s.seq h,by simp[b]⟩,fun H' i v c s b y=>⟨y.2 vs (s.seq h),y.1⟩,fun H' s=>⟨vs,s.seq h,bG _⟩⟩
theorem XD{H:Hp}(z:Str):wu (Its z) H ((z.cps.toList.map fun c=>(⟨#[c]⟩:Str)).map V.str):=by
 have b:((z.cps.toList.map fun c=>(⟨#[c]⟩:Str)).map V.str).length=z.cps.size:=by simp
 refine⟨fun H' i _ a=>?_,fun H' i v f _ a y=>?_,fun H' _=>?_⟩
 ·rw[b] at a;exact a
 ·rw[b] at a;obtain⟨e,c,d,y⟩:=y;have:z.cps.toList[i]?=some c:=by simpa using d
  exact⟨by rw[y];simp[this],e⟩
 ·rw[b];exact bG _
theorem jA{l:Type}{K:ao}{t:It}{H:Hp}{vs:List V}{xs:List l}{enc:l->Dt}{D:TT}{E:TE}{zzs:St}{fin:List V->Hp->Prop}(o:wu t H vs)(B:bw K H vs (xs.map enc))(M:xs.length<=sizeLine)(p:l->Bool)(f:l->Dt)
  (ht:∀ a∈xs,∀ v b,Same H b->Den K b v (enc a)->∀ h:Bool->Hp->Prop,(∀ g,Same b g->h (p a) g)->D (some v::zzs) b h)
  (L:∀ a∈xs,p a=true->∀ v b,Same H b->Den K b v (enc a)->∀ h:VK,(∀ y g,Same b g->Den K g y (f a)->h y g)->E (some v::zzs) b h)
  (J:∀ c b,Same H b->bw K b c ((xs.filter p).map f)->fin c b):∃ u:Nat->Nat->List V->Hp->Prop,(∃ m,u 0 m [] H)/\qK t D E zzs fin u:=by
 have A:vs.length=xs.length:=by rw[B.length,bf]
 refine PN (n:=vs.length) (item:=fun i=>vs.getD i .non) (fun i c b=>Same H b/\bw K b c (((xs.take i).filter p).map f)) (by rw[A];exact M) (fun i c b j r=>o.go b i r.1 j) (fun i c b v g j r y=>?_) (fun c b r=>o.stop b r.1)
  (fun i c b j r=>?_) ⟨Same.refl _,.nil⟩ (fun i c b j r h z=>?_) (fun c b r=>?_)
 ·obtain⟨e,G⟩:=o.yld b i v g r.1 j y;exact⟨by rw[eE,e];rfl,G⟩
 ·rw[r.2.length,bf];exact dU (lV _ _) (by rw[u6];exact Nat.min_le_left _ _)
 ·obtain⟨s1,s⟩:=r;have k:i<xs.length:=by lia
  have I:vs[i]?=some (vs.getD i .non):=by simp[eE,j]
  obtain⟨d,x,w⟩:=B.get I;have ea:d=enc xs[i]:=by
   rw[dF,iM k] at x;exact(iy x).symm
  subst ea;have tk:xs.take (i+1)=xs.take i++[xs[i]]:=by rw[lG,iM k];rfl
  refine ht xs[i] (qG k) _ b s1 (w.mono s1) _ fun H2 s2=>?_
  cases q:p xs[i] with
  |false=>
   refine iZ (z _ _ ⟨s1.trans s2,?_⟩);rw[tk,yt,show List.filter p [xs[i]]=[] by simp[q],oA];exact s.mono s2
  |true=>
   refine jw (L xs[i] (qG k) q _ H2 (s1.trans s2) (w.mono (s1.trans s2)) _ fun y N C F=>z _ _ ⟨(s1.trans s2).trans C,?_⟩);rw[tk,yt,show List.filter p [xs[i]]=[xs[i]] by simp[q],iz];exact(s.mono (s2.trans C)).append (.cons F .nil)
 ·rw[A,lF] at r;exact J c b r.1 r.2
theorem comp_map{g:Type}{K:ao}{i:It}{H:Hp}{vs:List V}{xs:List g}{enc:g->Dt}{k:TE}{zzs:St}{fin:List V->Hp->Prop}(n:wu i H vs)(t:bw K H vs (xs.map enc))(r:xs.length<=sizeLine)(f:g->Dt)
  (q:∀ a∈xs,∀ v b,Same H b->Den K b v (enc a)->∀ d:VK,(∀ y e,Same b e->Den K e y (f a)->d y e)->k (some v::zzs) b d)
  (p:∀ c b,Same H b->bw K b c (xs.map f)->fin c b):∃ j:Nat->Nat->List V->Hp->Prop,(∃ m,j 0 m [] H)/\qK i Vs k zzs fin j:=
 jA n t r (fun _=>true) f (fun a _ v b _ _ d l=>l b (Same.refl _)) (fun a o _=>q a o) fun c b s h=>p c b s (by rw[Hw.mpr (fun _ _=>rfl)] at h;exact h)
section
variable{X:Cx}{K:ao}
theorem f9(b:X.A.units+60<cLine)(a:X.K=K:=by rfl):OpR X (compareOp .Eq) (a1v K false):=by subst a;exact a3A b
theorem Ez(b:X.A.units+60<cLine)(a:X.K=K:=by rfl):OpR X (compareOp .NotEq) (a1v K true):=by subst a;exact a3F b
theorem Ey(b:X.A.units+61<cLine)(a:X.K=K:=by rfl):OpR X (compareOp .In) (Vl K false):=by subst a;exact a3D b
theorem WQ(b:X.A.units+61<cLine)(a:X.K=K:=by rfl):OpR X (compareOp .NotIn) (Vl K true):=by subst a;exact Vb b
theorem gA(a:X.K=K:=by rfl):IxR X (rIx K):=by subst a;exact a2Y
def Yg(K:ao):List V->Hp->VK->Prop:=fun xs H Q=>(∃ p ys,xs=[.ref p]/\(SqL K H p ys\/SqT K H p ys)/\Q (.int ys.length) H)\/(∃ z,xs=[.str z]/\z.length<=sizeLine/\Q (.int z.length) H)
theorem gn(a:X.K=K:=by rfl):eV X (.builtin "len") (Yg K):=by subst a;exact FW.or FZ
def a1x(K:ao):List V->Hp->VK->Prop:=fun xs H Q=>∃ p ys,xs=[.ref p]/\(SqL K H p ys\/SqT K H p ys)/\∀ l,H l=none->Q (.ref l) (upd H l (.lst ys))
theorem WM(a:X.K=K:=by rfl):eV X (.type "list") (a1x K):=by subst a;exact G7
def a5r(K:ao):List V->Hp->VK->Prop:=fun xs H Q=>∃(p:Addr)(bs:List Bool),xs=[.ref p]/\SqL K H p (bs.map V.bl)/\Q (.bl (bs.all id)) H
theorem k_all(b:X.calm=true)(a:X.K=K:=by rfl):eV X (.builtin "all") (a5r K):=by subst a;exact VR b
end
section
variable{X:Cx}{K:ao}{tg l e o:Expr}{es:List Expr}{te ta to:TE}{t:TA}{pos apos cpos:Pos}{f name:Str}{T id:String}{rm:V->List V->Hp->VK->Prop}
theorem bN(b:RE X l te)(a:X.K=K:=by rfl):RI X tg l (Wv K te):=by subst a;exact a1B b
theorem dY(c:RE X e ta)(a:X.K=K:=by rfl)(b:attributeBase e f X.env (eval e X.env)=eval e X.env:=by rfl):RE X (.Attribute e f pos) (a1M K ta f):=by subst a;exact a5B c b
theorem nZ(k:PlainAttrs T)(l:Slot T name id) (j:typeOf (.builtin id)=pure (.type "method_descriptor")) (h:MtR X id rm) (i:RE X o to) (c:RA X (e::es) t) (b:X.K=K:=by rfl) (a:(e::es).all notStar=true:=by rfl)
  (d:attributeBase o name X.env (eval o X.env)=eval o X.env:=by rfl) (f:decide ((e::es).length<30)=true:=by rfl) (g:(apos.endLine==cpos.line)=true:=by rfl):RE X (.Call (.Attribute o name apos) (e::es) [] cpos) (tBM K T rm to t):=by
 subst b;exact a6y k l j h i c a d f g
theorem X4(g:PlainAttrs T)(h:Slot T name id) (f:typeOf (.builtin id)=pure (.type "method_descriptor")) (d:MtR X id rm) (e:RE X o to) (a:X.K=K:=by rfl)
  (b:attributeBase o name X.env (eval o X.env)=eval o X.env:=by rfl) (c:(apos.endLine==cpos.line)=true:=by rfl):RE X (.Call (.Attribute o name apos) [] [] cpos) (a4l K T rm to):=by
 subst a;exact a5A g h f d e b c
end
theorem dw:bootBuiltins "len" = some (.builtin "len"):=by decide +kernel
theorem KZ:bootBuiltins "all" = some (.builtin "all"):=by decide +kernel
theorem dJ:bootBuiltins "isinstance" = some (.builtin "isinstance"):=by decide +kernel
theorem sE:bootBuiltins "sorted" = some (.builtin "sorted"):=by decide +kernel
theorem VP:bootBuiltins "min" = some (.builtin "min"):=by decide +kernel
theorem VN:bootBuiltins "max" = some (.builtin "max"):=by decide +kernel
theorem a2C:bootBuiltins "int" = some (.type "int"):=by decide +kernel
theorem PL:bootBuiltins "list" = some (.type "list"):=by decide +kernel
theorem Dv:bootBuiltins "ValueError" = some (.type "ValueError"):=by decide +kernel
theorem aF{t u:TS}{c:Ends}{zzs:L2.St}{H:Hp}(d:L2.St->Hp->Prop)(h:∀ R:L2.St->Hp->Prop,(∀ b a,d b a->R b a)->t { c with nx:=R } zzs H)(k:∀ b a,d b a->u c b a):a4m t u c zzs H:=h (u c) k
theorem sz{n:Nat}(h:Nat.ble n 10000=true):n<=sizeLine:=small (Hr h)
theorem eY{i j:Int}:decide (V.int i=V.int j)=decide (i=j):=by simp
theorem iG{a:Type}{x:a}{xs:List a}:atI (x::xs) 0=some x:=dX (j:=0) rfl
theorem v8{A:Around}{k:Nat}{a:Env}(b:gK k (A.deeper a)):A.handled=none:=b.hd
theorem cP{b:Bool}{A a:Prop}(c:b=true->A)(d:b=false->a):if b=true then A else a:=by
 cases b with
 |true=>exact jw (c rfl)
 |false=>exact iZ (d rfl)
theorem W5{l n m:Int}{d:TE}{zzs:L2.St}{H:Hp}{a:Bool->Hp->Prop}(p:∀ b:VK,b (.int m) H->d zzs H b)(c:a (decide (l<=n/\n<m)) H) :
  if decide (l<=n)=true then d zzs H (fun w' g=>rI0 (fun i j=>.bl (decide (i<j))) (.int n) w' g fun x f=>∃ k,x=.bl k/\a k f) else ∃ k,V.bl false=.bl k/\a k H:=by
 refine Wx (fun h1=>p _ ⟨_,_,rfl,rfl,_,rfl,?_⟩) (fun h1=>⟨_,rfl,?_⟩)
 ·have o:=dj h1;have e:decide (l<=n/\n<m)=decide (n<m):=by simp[o]
  rw[<- e];exact c
 ·have e:decide (l<=n/\n<m)=false:=cU fun h=>h1 (cR h.1)
  rw[<- e];exact c
theorem Em{l n m:Int}{d:TE}{zzs:L2.St}{H:Hp}{a:VK}(k:∀ b:VK,b (.int m) H->d zzs H b)(c:a (.bl (decide (l<=n/\n<m))) H) :
  if decide (l<=n)=true then d zzs H (fun w' f=>rI0 (fun i j=>.bl (decide (i<j))) (.int n) w' f a) else a (.bl false) H:=by
 refine Wx (fun h1=>k _ ⟨_,_,rfl,rfl,?_⟩) (fun h1=>?_)
 ·have g:=dj h1;have e:decide (l<=n/\n<m)=decide (n<m):=by simp[g]
  show a (.bl (decide (n<m))) H;rw[<- e];exact c
 ·have e:decide (l<=n/\n<m)=false:=cU fun h=>h1 (cR h.1)
  rw[<- e];exact c
abbrev Cell:=Int×Int
def aD(x:Cell):Dt:=.tup [.int x.1,.int x.2]
theorem Jm(a b:Cell):eqD (aD a) (aD b)=decide (a=b):=by
 have c:eqD (.int a.1) (.int b.1)=decide (a.1=b.1):=by rw[uU rfl rfl];exact(ZF _ _)
 have d:eqD (.int a.2) (.int b.2)=decide (a.2=b.2):=by rw[uU rfl rfl];exact(ZF _ _)
 show(eqD (.int a.1) (.int b.1)&&(eqD (.int a.2) (.int b.2)&&true))=_;rw[c,d,Bool.and_true];by_cases h1:a.1=b.1<;>by_cases h2:a.2=b.2<;>simp[h1,h2,Prod.ext_iff]
theorem Ak(a:Cell):uR (aD a)<=50:=Hr rfl
theorem zT(x:Cell):∀ a:List Cell,((a.map aD).any fun e=>eqD e (aD x))=decide (x∈a)
 |[]=>by simp
 |c::a=>by
  rw[eU,yE,Jm,zT x a];by_cases h:c=x<;>by_cases h2:x∈a<;>simp[h,h2,eq_comm]
  intro e;exact absurd e.symm h
def Ls(K:ao)(H:Hp)(p:Addr)(ds:List Dt):Prop:=∃ xs,H p=some (.lst xs)/\bw K H xs ds
theorem Ls.den{K:ao}{H:Hp}{p:Addr}{a:List Dt}(h:Ls K H p a):Den K H (.ref p) (.lst a):=let ⟨_,e,D⟩:=h;.lst (SqL.of e) D
theorem Ls.mono{K:ao}{H a:Hp}{p:Addr}{b:List Dt}(h:Ls K H p b)(s:Same H a):Ls K a p b:=let ⟨xs,e,D⟩:=h;⟨xs,s _ _ e,D.mono s⟩
theorem Ls.new{K:ao}{H:Hp}{p:Addr}{xs:List V}{a:List Dt}(c:H p=none)(b:bw K H xs a):Ls K (upd H p (.lst xs)) p a:=⟨xs,aC,b.mono (Same.put c)⟩
structure Fr(K:ao)(H H':Hp)(p:Addr)(ds:List Dt):Prop where
 same:Same H H'
 new:H p=none
 ls:Ls K H' p ds
theorem eX{K:ao}{H:Hp}{v:V}{x:Cell}(h:Den K H v (aD x)):∃ a,v=.ref a/\SqT K H a [.int x.1,.int x.2]/\H a=some (.tup [.int x.1,.int x.2]):=by
 cases h with
 |tup c b=>
  cases b with
  |cons h1 b=>
   cases b with
   |cons h2 b=>
    cases b;cases h1;cases h2;exact⟨_,rfl,SqT.of c,c⟩
theorem bT{K:ao}{H:Hp}{p:Addr}{a b:Int}:Den K (upd H p (.tup [.int a,.int b])) (.ref p) (aD (a,b)):=.tup aC (.cons (.int _) (.cons (.int _) .nil))
section
variable{K:ao}{H:Hp}{v:V}{x:Cell}{p:Addr}{cs:List Cell}{Q:VK}
theorem Br(d:Den K H v (aD x))(q:Q (.int x.1) H):rIx K v (.int 0) H Q:=by
 obtain⟨a,rfl,h,_⟩:=eX d;exact .inr (.inl ⟨a,_,_,_,rfl,rfl,h,iG,q⟩)
theorem Bs(d:Den K H v (aD x))(q:Q (.int x.2) H):rIx K v (.int 1) H Q:=by
 obtain⟨a,rfl,h,_⟩:=eX d;exact .inr (.inl ⟨a,_,_,_,rfl,rfl,h,dX (j:=1) rfl,q⟩)
theorem Ke(d:Den K H v (aD x))(h:Den K H (.ref p) (.lst (cs.map aD)))(q:Q (.bl (decide (x∈cs))) H):Vl K false v (.ref p) H Q:=by
 refine⟨aD x,cs.map aD,p,rfl,d,.inl h,fun e a=>?_,?_⟩
 ·obtain⟨c,_,rfl⟩:=bV.mp a;exact⟨rfl,Ak c⟩
 ·show Q (.bl ((cs.map aD).any fun e=>eqD e (aD x))) H;rw[zT];exact q
theorem Ym(d:Den K H v (aD x))(h:Den K H (.ref p) (.lst (cs.map aD)))(q:Q (.bl (!decide (x∈cs))) H):Vl K true v (.ref p) H Q:=by
 refine⟨aD x,cs.map aD,p,rfl,d,.inl h,fun e a=>?_,?_⟩
 ·obtain⟨c,_,rfl⟩:=bV.mp a;exact⟨rfl,Ak c⟩
 ·show Q (.bl (!(cs.map aD).any fun e=>eqD e (aD x))) H;rw[zT];exact q
theorem xJ{a:List Dt}(h:Den K H (.ref p) (.lst a))(q:Q (.int a.length) H):Yg K [.ref p] H Q:=by
 cases h with
 |lst c b=>exact .inl ⟨p,_,rfl,.inl c,by rw[b.length];exact q⟩
theorem a4g{i:Addr}{a b:List Dt}(h:Ls K H p a)(k:Ls K H i b)(hz:a.length+b.length<=10000)(q:∀ r g,Fr K H g r (a++b)->Q (.ref r) g):K1 (.ref p) (.ref i) H Q:=by
 obtain⟨xs,e,d⟩:=h;obtain⟨ys,j,f⟩:=k;exact⟨xs,ys,e,j,by rw[d.length,f.length];exact small hz,fun r c=>q r _ ⟨Same.put c,c,.new c (d.append f)⟩⟩
end
def inF(h w:Int)(x:Cell):Prop:=(0<=x.1/\x.1<h)/\(0<=x.2/\x.2<w)
instance(h w:Int)(x:Cell):Decidable (inF h w x):=by unfold inF;infer_instance
def offs:List Cell:=[(-1,-1),(-1,0),(-1,1),(0,-1),(0,1),(1,-1),(1,0),(1,1)]
def gO(h w:Int)(x:Cell):List Cell:=(offs.map fun d=>(x.1+d.1,x.2+d.2)).filter fun y=>decide (inF h w y)
def cM(h w:Nat):List Cell:=(List.range h).flatMap fun r:Nat=>(List.range w).map fun c:Nat=>((r:Int),(c:Int))
def um(h w:Int)(st:List Cell)(x:Cell):Nat:=((gO h w x).filter fun y=>decide (y∈st)).length
def inS(sg:Str)(c:Nat):Bool:=!(Builtin.Str.occurrences sg ⟨#[c]⟩ 0 sg.length 1).isEmpty
def codeAt(zs:List Str)(x:Nat×Nat):Nat:=(zs.getD x.1 Str.empty).cps.getD x.2 0
def wL(zs:List Str)(w:Nat)(sg:Str):List Cell:=(List.range zs.length).flatMap fun r:Nat=>((List.range w).filter fun c=>inS sg (codeAt zs (r,c))).map fun c:Nat=>((r:Int),(c:Int))
structure Rect(zs:List Str)(w:Nat):Prop where
 ne:1<=zs.length
 le:zs.length<=6
 w1:1<=w
 w6:w<=6
 len:∀ z∈zs,z.length=w
theorem Rect.head{zs:List Str}{w:Nat}(h:Rect zs w):∃ z a,zs=z::a/\z.length=w:=by
 cases zs with
 |nil=>exact absurd h.ne (by decide)
 |cons z a=>exact⟨z,a,rfl,h.len z cV⟩
def SameBut(p:Addr)(H H':Hp):Prop:=∀ b o,H b=some o->b≠p->H' b=some o
theorem SameBut.refl(p:Addr)(H:Hp):SameBut p H H:=fun _ _ e _=>e
theorem SameBut.trans{p:Addr}{H d f:Hp}(a:SameBut p H d)(b:SameBut p d f):SameBut p H f:=fun c o e n=>b c o (a c o e n) n
theorem Same.but{H a:Hp}(s:Same H a)(p:Addr):SameBut p H a:=fun b o e _=>s b o e
theorem SameBut.put{p:Addr}{H a:Hp}{o:HO}(s:SameBut p H a):SameBut p H (upd a p o):=fun b u e n=>by rw[aN n];exact s b u e n
theorem SameBut.and{p q:Addr}{H a:Hp}{o:HO}(s:SameBut p H a)(c:a q=none):SameBut p H (upd a q o):=fun b u e n=>(Same.put c) b u (s b u e n)
theorem SameBut.of{p:Addr}{H H0 c:Hp}(s:SameBut p H0 c)(a:Same H H0)(d:H p=none):Same H c:=fun b o e=>s b o (a b o e) (aR e d)
section
variable{K:ao}{p:Addr}{H H':Hp}{l:List V}
theorem SameBut.cell{v:V}{x:Cell}(s:SameBut p H H')(c:H p=some (.lst l))(h:Den K H v (aD x)):Den K H' v (aD x):=by
 obtain⟨a,rfl,_,b⟩:=eX h;exact .tup (s _ _ b (fX b c (by intro d;cases d))) (.cons (.int _) (.cons (.int _) .nil))
theorem SameBut.cells(s:SameBut p H H')(d:H p=some (.lst l)):∀ {vs:List V} {a:List Cell},bw K H vs (a.map aD)->bw K H' vs (a.map aD):=by
 intro vs a b
 induction a generalizing vs with
 |nil=>cases b;exact .nil
 |cons c a e=>cases b with|cons h t=>exact .cons (s.cell d h) (e t)
theorem SameBut.ls{q:Addr}{a:List Cell}(s:SameBut p H H')(b:H p=some (.lst l))(n:q≠p)(h:Ls K H q (a.map aD)):Ls K H' q (a.map aD):=let ⟨xs,e,D⟩:=h;⟨xs,s _ _ e n,s.cells b D⟩
end
theorem ltl{n:Nat}(h:n<10000):n<sizeLine:=jH h (by rw[su];decide)
theorem pq{K:ao}{p:Addr}{H:Hp}{l:List V}{v:V}{Q:VK}(a:H p=some (.lst l))(hz:l.length<10000)(q:Q .non (upd H p (.lst (l++[v])))):S6 (.ref p) [v] H Q:=
 ⟨p,l,v,rfl,rfl,a,jH hz (by rw[su];decide),q⟩
theorem a2z{zs:List Str}{r:Nat}(h:r<zs.length):atI (zs.map V.str) (r:Int)=some (.str (zs.getD r Str.empty)):=dX (by simp[eE,h])
theorem a0d{z:Str}{c:Nat}(h:c<z.length):atI z.cps.toList (c:Int)=some (z.cps.getD c 0):=by
 have h':c<z.cps.size:=h;exact dX (by simp[o9,h'])
theorem Rect.row{zs:List Str}{w r:Nat}(h:Rect zs w)(a:r<zs.length):(zs.getD r Str.empty).length=w:=by
 have e:zs.getD r Str.empty=zs[r]:=by simp[eE,a]
 rw[e];exact h.len _ (qG a)
theorem Sh{K:ao}{H:Hp}{p:Addr}{zs:List Str}{w r c:Nat}{Q:VK}(d:SqL K H p (zs.map V.str))(a:Rect zs w)(b:r<zs.length)(f:c<w)(q:Q (.str ⟨#[codeAt zs (r,c)]⟩) H):rIx K (.str (zs.getD r Str.empty)) (.int (c:Int)) H Q:=by
 have e:=a.row b;exact .inr (.inr ⟨_,_,_,rfl,rfl,small (by have:=a.w6;lia),a0d (by lia),q⟩)
theorem Yn{K:ao}{H:Hp}{p:Addr}{zs:List Str}{r:Nat}{Q:VK}(a:SqL K H p (zs.map V.str))(b:r<zs.length)(q:Q (.str (zs.getD r Str.empty)) H):rIx K (.ref p) (.int (r:Int)) H Q:=
 .inl ⟨p,_,_,_,rfl,rfl,a,a2z b,q⟩
theorem cQ{h w:Nat}{x:Cell}:x∈cM h w↔inF h w x:=by
 unfold cM inF;rw[CJ];constructor
 ·rintro⟨r,f,g⟩;obtain⟨c,e,rfl⟩:=bV.mp g;rw[dO] at f e;exact⟨⟨by show(0:Int)<=(r:Int);lia,by show(r:Int)<h;lia⟩,⟨by show(0:Int)<=(c:Int);lia,by show(c:Int)<w;lia⟩⟩
 ·rintro⟨⟨a,b⟩,⟨c,d⟩⟩;refine⟨x.1.toNat,dO.mpr (by lia),bV.mpr ⟨x.2.toNat,dO.mpr (by lia),?_⟩⟩;exact nJ (by show((x.1.toNat:Nat):Int)=x.1;lia) (by show((x.2.toNat:Nat):Int)=x.2;lia)
theorem Av(h w:Nat):cM (h+1) w=cM h w++(List.range w).map fun c:Nat=>((h:Int),(c:Int)):=by
 unfold cM;rw[CQ,Cr];simp
theorem jY(h w:Nat):(cM h w).length=h*w:=by
 induction h with
 |zero=>simp[cM]
 |succ h a=>rw[Av,cL,a,bf,vU,Nat.succ_mul]
theorem iT(h w:Int)(x:Cell):(gO h w x).length<=8:=by
 unfold gO;exact dU (lV _ _) (by rw[bf];decide)
theorem a0t(h w:Int)(st:List Cell)(x:Cell):um h w st x<=8:=dU (lV _ _) (iT h w x)
theorem qY{h w:Int}{x y:Cell}(a:y∈gO h w x):inF h w y:=by
 unfold gO at a;exact dj (cF.mp a).2
def a1J(h w:Int)(st kn:List Cell)(x:Cell):Nat:=if x∈kn then 48+um h w st x else 35
def Kf(h w:Int)(st kn:List Cell)(r:Int)(n:Nat):Str:=⟨((List.range n).map fun c:Nat=>a1J h w st kn (r,(c:Int))).toArray⟩
def xY(h w:Nat)(st kn:List Cell):List Str:=(List.range h).map fun r:Nat=>Kf h w st kn (r:Int) w
theorem a1C(h w:Int)(st a:List Cell)(r:Int)(n:Nat):(Kf h w st a r n).length=n:=by
 show(((List.range n).map fun c:Nat=>a1J h w st a (r,(c:Int))).toArray).size=n;simp
inductive Reach(h w:Int)(st kn:List Cell)(x0:Cell):Cell->Prop
 |base:Reach h w st kn x0 x0
 |step {x y:Cell}:Reach h w st kn x0 x->um h w st x=0->y∈gO h w x->y∉kn->Reach h w st kn x0 y
theorem Reach.inF{h w:Int}{st c:List Cell}{a y:Cell}(h0:inF h w a)(r:Reach h w st c a y):L2.inF h w y:=by
 induction r with
 |base=>exact h0
 |step _ _ b _ _=>exact qY b
theorem n6{f:Type} [DecidableEq f]:∀ {l1 l2:List f},l1.Nodup->(∀ x∈l1,x∈l2)->l1.length<=l2.length
 |[],_,_,_=>nQ _
 |a::l1,l2,hn,hs=>by
  have b:=hs a cV;have c:=CP.mp hn;have g:=n6 (l1:=l1) (l2:=l2.erase a) c.2 fun x d=>(List.mem_erase_of_ne (fun e:x=a=>c.1 (by rw[<- e];exact d))).mpr (hs x (eO _ d))
  rw[List.length_erase_of_mem b] at g;have:0<l2.length:=Oc b;rw[gD];lia
theorem a2W{a:Str}{c:Nat}(h:c∉a.cps.toList):inS a c=false:=by
 unfold inS;rw[PySem.W.occ_nil_of_no a ⟨#[c]⟩ 1 fun i g=>?_]
 ·rfl
 ·cases e:Builtin.Str.subAt a ⟨#[c]⟩ i with
  |false=>rfl
  |true=>
   refine absurd ?_ h;have b:a.cps.extract i (i+1)=#[c]:=jM.mp e;have f:c∈a.cps.extract i (i+1):=by rw[b];simp
   obtain⟨k,j,d⟩:=Array.mem_extract_iff_getElem.mp f;rw[<- d];exact O6 _
theorem M7{a:Str}(h:a.cps.toList.all (inS a)=true)(c:Nat):inS a c=decide (c∈a.cps.toList):=by
 by_cases b:c∈a.cps.toList
 ·rw[cR b];exact nP.mp h c b
 ·rw[cU b];exact a2W b
def yU(c:Nat):Bool:=decide (c=35\/(48<=c/\c<=56))
theorem a0w(c:Nat):inS "#012345678" c=yU c:=by
 rw[M7 (by decide +kernel)];have e:("#012345678" : Str).cps.toList=[35,48,49,50,51,52,53,54,55,56]:=by decide +kernel
 rw[e];by_cases h:c<57
 ·exact(by decide +kernel:∀ k∈List.range 57,decide (k∈[35,48,49,50,51,52,53,54,55,56])=yU k) c (dO.mpr h)
 ·have a:¬c∈[35,48,49,50,51,52,53,54,55,56]:=fun d=>h ((by decide:∀ k∈[35,48,49,50,51,52,53,54,55,56],k<57) c d)
  have b:yU c=false:=by unfold yU;exact cU (by lia)
  rw[cU a,b]
theorem Ww(c:Nat):inS "#" c=decide (c=35):=by
 rw[M7 (by decide +kernel)];have e:("#" : Str).cps.toList=[35]:=by decide +kernel
 rw[e];simp
structure Vw(zs:List Str)(w:Nat):Prop extends Rect zs w where
 sg:∀ z∈zs,∀ c∈z.cps.toList,yU c=true
theorem Yy{h w:Nat}{st d:List Cell}(i:1<=h)(j:h<=6)(e:1<=w)(f:w<=6):Vw (xY h w st d) w:=by
 have l:(xY h w st d).length=h:=by unfold xY;rw[bf,vU]
 refine⟨⟨by lia,by lia,e,f,fun g b=>?_⟩,fun g b c a=>?_⟩
 ·obtain⟨r,_,rfl⟩:=bV.mp b;exact a1C _ _ _ _ _ _
 ·obtain⟨r,_,rfl⟩:=bV.mp b;unfold Kf at a;simp only[bV] at a;obtain⟨k,_,rfl⟩:=a;unfold a1J yU;have:=a0t h w st ((r:Int),(k:Int));split
  ·exact cR (.inr ⟨by lia,by lia⟩)
  ·exact cR (.inl rfl)
def Bt(z:Str)(n:Int):Bool:=decide ((z.length:Int)=n)&&z.cps.toList.all (inS "#012345678")
def yV:List Str->Bool
 |[]=>false
 |z::zs=>decide ((z::zs).length<=6)&&decide (1<=z.length/\z.length<=6)&&(z::zs).all fun r=>Bt r z.length
theorem Ci{z:Str}{zs:List Str}(a:(z::zs).length<=6)(b:1<=z.length)(c:z.length<=6):yV (z::zs)=(z::zs).all fun r=>Bt r z.length:=by
 show(decide ((z::zs).length<=6)&&decide (1<=z.length/\z.length<=6)&&_)=_;rw[cR a,cR (And.intro b c)];rfl
theorem NQ{z:Str}{zs:List Str}(a:¬(z::zs).length<=6):yV (z::zs)=false:=by
 show(decide ((z::zs).length<=6)&&_&&_)=_;rw[cU a];rfl
theorem NT{z:Str}{zs:List Str}(a:¬(1<=z.length/\z.length<=6)):yV (z::zs)=false:=by
 show(_&&decide (1<=z.length/\z.length<=6)&&_)=_;rw[cU a,yC];rfl
theorem Vw.ok{zs:List Str}{w:Nat}(v:Vw zs w):yV zs=true:=by
 obtain⟨e,f,rfl,d⟩:=v.toRect.head;rw[Ci v.le (by have:=v.w1;lia) (by have:=v.w6;lia),nP];intro r a;unfold Bt;rw[cR (by rw[v.len r a,d]),rP,nP];intro c b;rw[a0w];exact v.sg r a c b
def uY(l:Addr)(h w:Int):List (Str×V):=dD "width" (.int w) (dD "height" (.int h) (dD "rows" (.ref l) []))
theorem LQ(l:Addr)(h w:Int):(uY l h w).lookup ("rows" : Str)=some (.ref l):=by
 unfold uY;rw[bF,aJ (by decide +kernel),bF,aJ (by decide +kernel),bF,aL rfl]
theorem uZ(l:Addr)(h w:Int):(uY l h w).lookup ("height" : Str)=some (.int h):=by
 unfold uY;rw[bF,aJ (by decide +kernel),bF,aL rfl]
theorem zF(l:Addr)(h w:Int):(uY l h w).lookup ("width" : Str)=some (.int w):=by
 unfold uY;rw[bF,aL rfl]
structure cI(C:Addr)(H:Hp)(x:Addr)(zs:List Str)(w:Nat):Prop where
 ob:∃ dx l,H x=some (.ins C dx (uY l zs.length w))/\H l=some (.lst (zs.map V.str))
 vw:Vw zs w
theorem cI.mono{C:Addr}{H c:Hp}{x:Addr}{zs:List Str}{w:Nat}(v:cI C H x zs w)(s:Same H c):cI C c x zs w:=let ⟨dx,l,a,b⟩:=v.ob;⟨⟨dx,l,s _ _ a,s _ _ b⟩,v.vw⟩
def aK(zs:List Str)(w:Nat)(x:Cell):Bool:=decide (inF zs.length w x)&&decide (codeAt zs (x.1.toNat,x.2.toNat)=35)
def bM(zs:List Str)(w:Nat):List Cell:=(cM zs.length w).filter (aK zs w)
theorem uQ(zs:List Str)(w:Nat):bM zs w=wL zs w "#":=by
 unfold bM wL cM;rw[List.filter_flatMap];have key:∀ r∈List.range zs.length,((List.range w).map fun c:Nat=>((r:Int),(c:Int))).filter (aK zs w)=((List.range w).filter fun c=>inS "#" (codeAt zs (r,c))).map fun c:Nat=>((r:Int),(c:Int)):=by
  intro r b;rw[List.filter_map];congr 1;refine HJ fun c e=>?_
  rw[dO] at b e;show aK zs w ((r:Int),(c:Int))=_;unfold aK;rw[Ww,cR (show inF zs.length w ((r:Int),(c:Int)) from⟨⟨by show(0:Int)<=(r:Int);lia,by show(r:Int)<zs.length;lia⟩,⟨by show(0:Int)<=(c:Int);lia,by show(c:Int)<w;lia⟩⟩),rP];rfl
 have d:∀ l:List Nat,(∀ r∈l,r∈List.range zs.length)->l.flatMap (fun r:Nat=>((List.range w).map fun c:Nat=>((r:Int),(c:Int))).filter (aK zs w))=l.flatMap (fun r:Nat=>((List.range w).filter fun c=>inS "#" (codeAt zs (r,c))).map fun c:Nat=>((r:Int),(c:Int))):=by
  intro l
  induction l with
  |nil=>intro _;rfl
  |cons a l f=>intro h;rw[zc,zc,key a (h a cV),f fun r b=>h r (eO _ b)]
 exact d _ fun r b=>b
def zJ(w:Nat)(x:Cell)(r:Int):List Cell:=((List.range ((min (x.2+2) w)-(max (x.2-1) 0)).toNat).map fun k:Nat=>(r,max (x.2-1) 0+(k:Int))).filter fun y=>!decide (y=x)
def qj(w:Nat)(x:Cell)(lo:Int)(n:Nat):List Cell:=(List.range n).flatMap fun k:Nat=>zJ w x (lo+(k:Int))
def MP(h w:Nat)(x:Cell):List Cell:=qj w x (max (x.1-1) 0) ((min (x.1+2) h)-(max (x.1-1) 0)).toNat
theorem Vi:∀ h∈List.range 7,∀ w∈List.range 7,∀ r∈List.range h,∀ c∈List.range w,MP h w ((r:Int),(c:Int))=gO h w ((r:Int),(c:Int)):=by decide +kernel
theorem XS{h w:Nat}{x:Cell}(g:h<=6)(i:w<=6)(f:inF h w x):MP h w x=gO h w x:=by
 obtain⟨⟨a,b⟩,⟨c,d⟩⟩:=f;have:=Vi h (dO.mpr (by lia)) w (dO.mpr (by lia)) x.1.toNat (dO.mpr (by lia)) x.2.toNat (dO.mpr (by lia));have e:(((x.1.toNat:Nat):Int),((x.2.toNat:Nat):Int))=x:=nJ (by show((x.1.toNat:Nat):Int)=x.1;lia) (by show((x.2.toNat:Nat):Int)=x.2;lia);rw[e] at this;exact this
def aM(zs:List Str)(w:Nat)(x:Cell):List Cell:=(gO zs.length w x).filter fun y=>!aK zs w y
def aA(zs:List Str)(w:Nat)(x:Cell):List Cell:=(gO zs.length w x).filter fun y=>aK zs w y
open PySem.W
section
variable{prog:Program}{w:World}{A:Around}{E:Value->Shared->Prop}{s:Shared}
abbrev Keeps(h h':Heap):Prop:=∀ b o,h.get? b=some o->h'.get? b=some o
end
def bA(a b:Cell):Prop:=a.1<b.1\/(a.1=b.1/\a.2<b.2)
instance(a b:Cell):Decidable (bA a b):=by unfold bA;infer_instance
section
variable{X:Cx}
theorem mU{pins:List (Addr×Obj)}{zzs:L2.St}{H:Hp}{s:Shared}{v:V}{u:Value}{c:Cell}(I:Inv X pins zzs H s)(d:Den X.K H v (aD c))(r:RelV v u):∃(a:Addr)(o:Obj)(t t':Tok)(n:Nat),u=.ref a/\s.heap.get? a=some o/\o.cls=.type "tuple" /\ o.data=.seq #[.int c.1 t,.int c.2 t'] n:=by
 obtain⟨a,rfl,g,_⟩:=eX d;cases r;obtain⟨h,rv,⟨o,e,b,n,f⟩,_⟩:=I.tuple g;obtain⟨i,j,rfl,⟨t,rfl⟩,⟨t',rfl⟩⟩:=vals2 rv;exact⟨a,o,t,t',n,rfl,e,b,f⟩
end
structure kY{α:Type}(lt:α->α->Bool):Prop where
 Iw:∀ a b,lt a b=true->lt b a=false
 tr:∀ a b c,lt b a=false->lt c b=false->lt c a=false
 anti:∀ a b,lt a b=false->lt b a=false->a=b
theorem kY.refl{b:Type}{lt:b->b->Bool}(o:kY lt)(a:b):lt a a=false:=by
 cases h:lt a a
 ·rfl
 ·rw[<- h];exact o.Iw a a h▸rfl
structure Good(N:Nat)(p:Array Nat):Prop where
 perm:p.toList.Perm (List.range N)
theorem Good.size{N:Nat}{p:Array Nat}(g:Good N p):p.size=N:=by
 have:=g.perm.length_eq;simpa using this
section
variable{α:Type}{lt:α->α->Bool}{f:Nat->α}{N:Nat}{s:Shared}{cmp:Nat->Nat->(Bool->Shared->Prop)->Shared->Prop}
def Ky(f:Nat->α)(p:Array Nat)(i:Nat):α:=f (p.getD i 0)
def Ir(lt:α->α->Bool)(f:Nat->α)(p:Array Nat)(n:Nat):Prop:=∀ i,i+1<n->lt (Ky f p (i+1)) (Ky f p i)=false
theorem Ir.le(o:kY lt){p:Array Nat}{n:Nat}(u:Ir lt f p n):∀ d i,i+d<n->lt (Ky f p (i+d)) (Ky f p i)=false:=by
 intro d
 induction d with
 |zero=>intro i _;exact o.refl _
 |succ d a=>intro i h;exact o.tr _ _ _ (a i (by lia)) (u (i+d) (by omega))
end
namespace TS
def el(xs:Array Keyed)(i:Nat):Keyed:=xs.getD i (Value.none,Value.none)
theorem jD{xs:Array Keyed}{i:Nat}(h:i<xs.size):el xs i∈xs.toList:=by
 unfold el;rw[o9,jG h];exact O6 h
theorem pY{xs:Array Keyed}{i:Nat}(h:i<xs.size):xs[i]?=some (el xs i):=by
 unfold el;rw[o9,jG h];rfl
section
variable{α:Type}{lt:α->α->Bool}{M:Model}{A:Around}{E:Value->Shared->Prop}{s:Shared}{κ:SortKind}{key:Keyed->α}{a₀:Array Keyed}
structure Env(M:Model)(A:Around)(s:Shared)(κ:SortKind)(key:Keyed->α)(lt:α->α->Bool)(a₀:Array Keyed):Prop where
 o:kY lt
 ask:∀ x y,x∈a₀.toList->y∈a₀.toList->∀ C:Bool->Shared->Prop,C (lt (key x) (key y)) s->wpAny M A (keyLt' κ x.1 y.1) C (fun _ _=>False) s
def Srt(lt:α->α->Bool)(key:Keyed->α)(xs:Array Keyed)(i j:Nat):Prop:=∀ p q,i<=p->p<=q->q<j->lt (key (el xs q)) (key (el xs p))=false
def Fal(lt:α->α->Bool)(key:Keyed->α)(xs:Array Keyed)(i j:Nat):Prop:=∀ p q,i<=p->p<=q->q<j->lt (key (el xs p)) (key (el xs q))=false
theorem Kw(e:Env M A s κ key lt a₀){x y:Keyed}(c:x∈a₀.toList)(d:y∈a₀.toList){st:SortSt}(a:kindOf st=κ){Q:Option Bool->SortSt->Prop}(h:Q (some (lt (key x) (key y))) st):wpS M A E s (lt' x y) Q st:=by
 rw[lt'_eq];refine bD (lO ?_);rw[a];refine bD (uL (CW (jL (e.ask x y c d (fun b s'=>s'=s/\b=lt (key x) (key y)) ⟨rfl,rfl⟩) ?_ fun _ _ f=>f.elim)));rintro b s' ⟨rfl,rfl⟩;exact⟨rfl,aV h⟩
theorem iK{xs:Array Keyed}{i:Nat}(h:i<xs.size){st:SortSt}{Q:Keyed->SortSt->Prop}(q:Q (el xs i) st):wpS M A E s (elem' xs i) Q st:=by
 rw[elem'_eq,pY h];exact aV q
theorem Bm{xs:Array Keyed}(a:xs.Perm a₀){i:Nat}(h:i<a₀.size):el xs i∈a₀.toList:=
 a.toList.mem_iff.mp (jD (by rw[a.size_eq];exact h))
theorem tO(e:Env M A s κ key lt a₀){st:SortSt}(d:kindOf st=κ)(a:(arrOf st).Perm a₀){i j:Nat}(b:i<a₀.size)(c:j<a₀.size){Q:Option Bool->SortSt->Prop}(h:Q (some (lt (key (el (arrOf st) i)) (key (el (arrOf st) j)))) st):wpS M A E s (ltAt' i j) Q st:=by
 rw[ltAt'_eq];refine bD (lO ?_);exact bD (iK (by rw[a.size_eq];exact b) (bD (iK (by rw[a.size_eq];exact c) (Kw e (Bm a b) (Bm a c) d h))))
theorem oV{xs a:Array Keyed}{i j:Nat}(h:xs[i]?=a[j]?):el xs i=el a j:=by
 unfold el;rw[o9,o9,h]
theorem sU{xs:Array Keyed}{i j:Nat}(a:j<=xs.size)(k:Nat):el (mirror xs i j ((j-i) / 2)) k=if i<=k/\k<j then el xs (i+j-1-k) else el xs k:=by
 have e:=getElem?_mirror_all (i:=i) a k;by_cases h1:i<=k/\k<j
 ·rw[aL h1] at e ⊢;exact oV e
 ·rw[aJ h1] at e ⊢;exact oV e
theorem wR{xs:Array Keyed}{a d:Nat}(c:a<xs.size)(b:d<=a)(k:Nat):el (bubble xs a d) k=if k=a-d then el xs a else if a-d<k/\k<=a then el xs (k-1) else el xs k:=by
 have e:=getElem?_bubble c d b k;by_cases h1:k=a-d
 ·rw[aL h1] at e ⊢;exact oV e
 ·rw[aJ h1] at e ⊢;by_cases h2:a-d<k/\k<=a
  ·rw[aL h2] at e ⊢;exact oV e
  ·rw[aJ h2] at e ⊢;exact oV e
def Low(xs ys:Array Keyed)(lo:Nat):Prop:=∀ i,i<lo->el xs i=el ys i
theorem Low.refl{xs:Array Keyed}{lo:Nat}:Low xs xs lo:=fun _ _=>rfl
theorem Low.trans{xs b zs:Array Keyed}{lo:Nat}(h:Low xs b lo)(g:Low b zs lo):Low xs zs lo:=fun i a=>(h i a).trans (g i a)
theorem qe{xs:Array Keyed}{i j lo:Nat}(a:j<=xs.size)(h:lo<=i):Low (mirror xs i j ((j-i) / 2)) xs lo:=fun k b=>by
 rw[sU a,aJ (by lia)]
def asl(lo m z:Nat):StateT SortSt Sem (Option Nat):=do
 let mut m:=m
 for _ in [m:z] do
  let some u <- ltAt' (lo+m) (lo+m-1)|return none
  if u then break
  m:=m+1
 return some m
def dsl(lo m z:Nat):StateT SortSt Sem (Option Nat):=do
 (rule "list.sort.descending-run" : Sem Unit)
 let mut m:=m+1
 let mut q:=0
 for _ in [m:z] do
  let some u <- ltAt' (lo+m) (lo+m-1)|return none
  if u then
   if q>0 then reverseSlice' (lo+m-(q+1)) (lo+m)
   q:=0
  else
   let some v <- ltAt' (lo+m-1) (lo+m)|return none
   if v then break
   q:=q+1
  m:=m+1
 if q>0 then
  reverseSlice' (lo+m-(q+1)) (lo+m)
  reverseSlice' lo (lo+m)
  asl lo m z
 else
  reverseSlice' lo (lo+m)
  asl lo m z
theorem Srt.one{xs:Array Keyed}{i:Nat}(o:kY lt):Srt lt key xs i (i+1):=fun p q a b c=>by
 have:p=q:=by lia
 subst this;exact o.refl _
theorem Srt.more{xs:Array Keyed}{lo x:Nat}(o:kY lt)(h:1<=x)(d:Srt lt key xs lo (lo+x))(e:lt (key (el xs (lo+x))) (key (el xs (lo+x-1)))=false):Srt lt key xs lo (lo+(x+1)):=fun p q a b c=>by
 by_cases g:q<lo+x
 ·exact d p q a b g
 ·have:q=lo+x:=by lia
  subst this;by_cases f:p=lo+x
  ·subst f;exact o.refl _
  ·exact o.tr _ _ _ (d p (lo+x-1) a (by lia) (by lia)) e
theorem Fal.more{xs:Array Keyed}{lo x:Nat}(o:kY lt)(h:1<=x)(d:Fal lt key xs lo (lo+x))(e:lt (key (el xs (lo+x-1))) (key (el xs (lo+x)))=false):Fal lt key xs lo (lo+(x+1)):=fun p q a b c=>by
 by_cases g:q<lo+x
 ·exact d p q a b g
 ·have:q=lo+x:=by lia
  subst this;by_cases f:p=lo+x
  ·subst f;exact o.refl _
  ·exact o.tr _ _ _ e (d p (lo+x-1) a (by lia) (by lia))
theorem Ds{b:Bool}(h:¬b=true):b=false:=by cases b<;>simp_all
theorem a4s(e:Env M A s κ key lt a₀){st:SortSt}(j:kindOf st=κ)(k:(arrOf st).Perm a₀){lo m z:Nat}(l:1<=m)(p:m<=z)(hz:lo+z<=a₀.size){Q:Option Nat->SortSt->Prop}(b:Srt lt key (arrOf st) lo (lo+m))
  (h:∀ n,1<=n->n<=z->Srt lt key (arrOf st) lo (lo+n)->Q (some n) st):wpS M A E s (asl lo m z) Q st:=by
 unfold asl;refine bD (jU (jT (I:=fun x c a=>a=st/\c=(none,x)/\Srt lt key (arrOf st) lo (lo+x))
  (Q:=fun c a=>a=st/\∃ x,c=(none,x)/\1<=x/\x<=z/\Srt lt key (arrOf st) lo (lo+x)) ?step ?fin ?init) ?post)
 case init=>exact⟨rfl,rfl,b⟩
 case fin=>
  rintro c a ⟨rfl,rfl,g⟩;rw[show max m z=z by lia] at g ⊢;exact⟨rfl,z,rfl,by lia,bG _,g⟩
 case step=>
  rintro x c a q r ⟨rfl,rfl,b⟩;dsimp only;refine bD (tO e j k (by lia) (by lia) ?_);dsimp only;by_cases d:lt (key (el (arrOf a) (lo+x))) (key (el (arrOf a) (lo+x-1)))=true
  ·rw[aL d];exact aV ⟨rfl,x,rfl,by lia,by lia,b⟩
  ·rw[aJ d];exact aV ⟨rfl,rfl,b.more e.o (by lia) (Ds d)⟩
 case post=>
  rintro c a ⟨rfl,x,rfl,f,i,b⟩;exact aV (h x f i b)
theorem Hg{st:SortSt}{i j:Nat}{Q:Unit->SortSt->Prop}(h:Q () (setArr st (mirror (arrOf st) i j ((j-i) / 2)))):wpS M A E s (reverseSlice' i j) Q st:=by
 rw[reverseSlice'_eq];exact pH h
theorem wU{xs:Array Keyed}{i j:Nat}(b:j<=xs.size)(a:∀ k,i<=k->k<j->key (el xs k)=key (el xs (j-1)))(k:Nat):key (el (mirror xs i j ((j-i) / 2)) k)=key (el xs k):=by
 rw[sU b];by_cases h:i<=k/\k<j
 ·rw[aL h,a _ (by lia) (by lia),a k h.1 h.2]
 ·rw[aJ h]
theorem Z9(e:Env M A s κ key lt a₀){st:SortSt}(C:kindOf st=κ)(L:(arrOf st).Perm a₀){lo m z:Nat}(U:m+1<=z)(hz:lo+z<=a₀.size){Q:Option Nat->SortSt->Prop}(N:Fal lt key (arrOf st) lo (lo+(m+1)))
  (h:∀ n xs,xs.Perm a₀->Low xs (arrOf st) lo->1<=n->n<=z->Srt lt key xs lo (lo+n)->Q (some n) (setArr st xs)):wpS M A E s (dsl lo m z) Q st:=by
 unfold dsl;refine bD (uL (yI ⟨rfl,?_⟩))
 let Eq:Array Keyed->Nat->Nat->Prop:=fun xs x q=>∀ i,lo+x-(q+1)<=i->i<lo+x->key (el xs i)=key (el xs (lo+x-1))
 refine bD (jU (jT (I:=fun x c t=>∃ xs q,t=setArr st xs/\c=(none,x,q)/\xs.Perm a₀/\Low xs (arrOf st) lo/\Fal lt key xs lo (lo+x)/\q+1<=x/\Eq xs x q)
  (Q:=fun c t=>∃ xs x q,t=setArr st xs/\c=(none,x,q)/\xs.Perm a₀/\Low xs (arrOf st) lo/\1<=x/\x<=z/\Fal lt key xs lo (lo+x)/\q+1<=x/\Eq xs x q) ?step ?fin ?init) ?post)
 case init=>
  refine⟨arrOf st,0,rfl,rfl,L,Low.refl,N,by lia,fun i a b=>?_⟩;have:i=lo+(m+1)-1:=by lia
  rw[this]
 case fin=>
  rintro c t ⟨xs,q,rfl,rfl,d,f,g,l,j⟩;rw[show max (m+1) z=z by lia] at g l j ⊢;exact⟨xs,z,q,rfl,rfl,d,f,by lia,bG _,g,l,j⟩
 case step=>
  rintro x c t W X ⟨xs,q,rfl,rfl,d,f,g,l,j⟩;have sz:xs.size=a₀.size:=d.size_eq;dsimp only;refine bD (tO e (st:=setArr st xs) C d (by lia) (by lia) ?_);dsimp only;show wpS M A E s _ _ (setArr st xs);by_cases v:lt (key (el xs (lo+x))) (key (el xs (lo+x-1)))=true
  ·rw[aL v];have one:∀ ys:Array Keyed,Eq ys (x+1) 0:=fun ys i a b=>by
    have:i=lo+(x+1)-1:=by lia
    rw[this]
   have F:∀ ys:Array Keyed,(∀ k,key (el ys k)=key (el xs k))->Fal lt key ys lo (lo+(x+1)):=fun ys r=>by
    have:=g.more e.o (by lia) (e.o.Iw _ _ v);intro p q y B D;rw[r,r];exact this p q y B D
   by_cases u:q>0
   ·rw[aL u];refine bD (Hg (aV ⟨_,0,rfl,rfl,(Dg _ _ _ _).trans d,(qe (by show _<=xs.size;lia) (by lia)).trans f,F _ (wU (by show _<=xs.size;lia) j),by lia,one _⟩))
   ·rw[aJ u];exact aV ⟨xs,0,rfl,rfl,d,f,F _ fun _=>rfl,by lia,one _⟩
  ·rw[aJ v];refine bD (tO e (st:=setArr st xs) C d (by lia) (by lia) ?_);dsimp only;show wpS M A E s _ _ (setArr st xs);by_cases w:lt (key (el xs (lo+x-1))) (key (el xs (lo+x)))=true
   ·rw[aL w];exact aV ⟨xs,x,q,rfl,rfl,d,f,by lia,by lia,g,l,j⟩
   ·rw[aJ w];have J:key (el xs (lo+x))=key (el xs (lo+x-1)):=e.o.anti _ _ (Ds v) (Ds w);refine aV ⟨xs,q+1,rfl,rfl,d,f,g.more e.o (by lia) (Ds w),by lia,fun i y B=>?_⟩;rw[show lo+(x+1)-1=lo+x by lia];by_cases K:i=lo+x
    ·rw[K]
    ·rw[J];exact j i (by lia) (by lia)
 case post=>
  rintro c t ⟨xs,x,q,rfl,rfl,d,f,g,l,j,T,H⟩;have sz:xs.size=a₀.size:=d.size_eq;dsimp only;have fin:∀ ys:Array Keyed,ys.Perm a₀->Low ys (arrOf st) lo->(∀ k,key (el ys k)=key (el xs k))->wpS M A E s (reverseSlice' lo (lo+x) >>= fun _=>asl lo x z) Q (setArr st ys):=fun ys r O G=>by
   have Y:ys.size=a₀.size:=r.size_eq;refine bD (Hg ?_);show wpS M A E s _ _ (setArr st (mirror ys lo (lo+x) ((lo+x-lo) / 2)));refine a4s e (st:=setArr st (mirror ys lo (lo+x) ((lo+x-lo) / 2))) C (show(mirror ys lo (lo+x) ((lo+x-lo) / 2)).Perm a₀ from(Dg _ _ _ _).trans r) g l hz ?_ fun n P R S=>h n _ ((Dg _ _ _ _).trans r) ((qe (by lia) (bG _)).trans O) P R S
   intro p q y B D;show lt (key (el (mirror ys lo (lo+x) ((lo+x-lo) / 2)) q)) (key (el (mirror ys lo (lo+x) ((lo+x-lo) / 2)) p))=false;rw[sU (by lia),sU (by lia),aL (by lia),aL (by lia),G,G];exact j _ _ (by lia) (by lia) (by lia)
  by_cases u:q>0
  ·rw[aL u];refine bD (Hg (fin _ ((Dg _ _ _ _).trans d) ((qe (by show _<=xs.size;lia) (by lia)).trans f) (wU (by show _<=xs.size;lia) H)))
  ·rw[aJ u];exact fin xs d f fun _=>rfl
theorem Z8(e:Env M A s κ key lt a₀){st:SortSt}(l:kindOf st=κ)(i:(arrOf st).Perm a₀){lo z:Nat}(O:1<=z)(hz:lo+z<=a₀.size){Q:Option Nat->SortSt->Prop}
  (h:∀ m xs,xs.Perm a₀->Low xs (arrOf st) lo->1<=m->m<=z->Srt lt key xs lo (lo+m)->Q (some m) (setArr st xs)):wpS M A E s (countRun' lo z) Q st:=by
 rw[countRun'_eq];have sz:(arrOf st).size=a₀.size:=i.size_eq;refine bD (jU (jT (I:=fun x c b=>b=st/\c=(none,x)/\Srt lt key (arrOf st) lo (lo+x))
  (Q:=fun c b=>b=st/\∃ x,c=(none,x)/\1<=x/\x<=z/\Srt lt key (arrOf st) lo (lo+x)/\(x<z->lt (key (el (arrOf st) (lo+x))) (key (el (arrOf st) (lo+x-1)))=true)) ?step ?fin ?init) ?post)
 case init=>exact⟨rfl,rfl,Srt.one e.o⟩
 case fin=>
  rintro c b ⟨rfl,rfl,g⟩;rw[show max 1 z=z by lia] at g ⊢;exact⟨rfl,z,rfl,by omega,bG _,g,fun a=>absurd a (rZ _)⟩
 case step=>
  rintro x c b P R ⟨rfl,rfl,j⟩;dsimp only;refine bD (tO e l i (by lia) (by lia) ?_);dsimp only;by_cases d:lt (key (el (arrOf b) (lo+x))) (key (el (arrOf b) (lo+x-1)))=true
  ·rw[aL d];exact aV ⟨rfl,x,rfl,by omega,by lia,j,fun _=>d⟩
  ·rw[aJ d];exact aV ⟨rfl,rfl,j.more e.o (by omega) (Ds d)⟩
 case post=>
  rintro c b ⟨rfl,x,rfl,D,F,j,K⟩;dsimp only;have C:Q (some x) b:=h x (arrOf b) i Low.refl D F j;by_cases B:x=z
  ·rw[aL (by simpa using B)];exact aV C
  ·rw[aJ (by simpa using B)];have y:=K (by lia);by_cases w:x>1
   ·rw[aL w];refine bD (tO e l i (by lia) (by lia) ?_);dsimp only;by_cases d:lt (key (el (arrOf b) lo)) (key (el (arrOf b) (lo+x-1)))=true
    ·rw[aL d];exact aV C
    ·rw[aJ d];have f:∀ k,lo<=k->k<lo+x->key (el (arrOf b) k)=key (el (arrOf b) (lo+x-1)):=fun k v J=>
      e.o.anti _ _ (e.o.tr _ _ _ (Ds d) (j lo k (bG _) v J)) (j k (lo+x-1) v (by lia) (by lia))
     refine bD (Hg ?_);have L:(mirror (arrOf b) lo (lo+x) ((lo+x-lo) / 2)).Perm a₀:=(Dg _ _ _ _).trans i;have N:Low (mirror (arrOf b) lo (lo+x) ((lo+x-lo) / 2)) (arrOf b) lo:=qe (by lia) (bG _);change wpS M A E s (dsl lo x z) Q _;refine Z9 e (st:=setArr b (mirror (arrOf b) lo (lo+x) ((lo+x-lo) / 2))) l (show(mirror (arrOf b) lo (lo+x) ((lo+x-lo) / 2)).Perm a₀ from L) (by lia) hz ?_ fun n xs r t u G H=>h n xs r (t.trans N) u G H
     show Fal lt key (mirror (arrOf b) lo (lo+x) ((lo+x-lo) / 2)) lo (lo+(x+1));refine Fal.more e.o (by omega) (fun p q r t u=>?_) ?_
     ·rw[wU (by lia) f,wU (by lia) f,f p (by omega) (by lia),f q (by lia) (by omega)];exact e.o.refl _
     ·rw[wU (by lia) f,wU (by lia) f];exact e.o.Iw _ _ y
   ·rw[aJ w];change wpS M A E s (dsl lo x z) Q _;refine Z9 e l i (by lia) hz ?_ h;have:x=1:=by lia
    subst this;refine Fal.more e.o (by omega) (fun p q r t u=>?_) (e.o.Iw _ _ y);have:p=q:=by lia
    subst this;exact e.o.refl _
theorem a4t(e:Env M A s κ key lt a₀){st:SortSt}(K:kindOf st=κ)(L:(arrOf st).Perm a₀){lo n m:Nat}(S:1<=m)(T:m<=n)(hz:lo+n<=a₀.size){Q:Bool->SortSt->Prop}(N:Srt lt key (arrOf st) lo (lo+m))
  (h:∀ xs,xs.Perm a₀->Low xs (arrOf st) lo->Srt lt key xs lo (lo+n)->Q true (setArr st xs)):wpS M A E s (binarySort' lo n m) Q st:=by
 rw[binarySort'_eq];rw[show max m 1=m by lia];refine bD (jU (jT (I:=fun k c a=>∃ xs,a=setArr st xs/\c=(none,())/\xs.Perm a₀/\Low xs (arrOf st) lo/\Srt lt key xs lo (lo+k))
  (Q:=fun c a=>∃ xs,a=setArr st xs/\c=(none,())/\xs.Perm a₀/\Low xs (arrOf st) lo/\Srt lt key xs lo (lo+n)) ?step ?fin ?init) ?post)
 case init=>exact⟨arrOf st,rfl,rfl,L,Low.refl,N⟩
 case fin=>
  rintro c a ⟨xs,rfl,rfl,f,t,d⟩;rw[show max m n=n by lia] at d;exact⟨xs,rfl,rfl,f,t,d⟩
 case post=>
  rintro c a ⟨xs,rfl,rfl,f,t,d⟩;exact aV (h xs f t d)
 case step=>
  rintro k c a P R ⟨xs,rfl,rfl,f,t,d⟩;have sz:xs.size=a₀.size:=f.size_eq;refine bD (jU (jT (I:=fun x c a=>a=setArr st xs/\∃ l r,c=(none,l,r)/\l<=r/\r<=k/\r-l<=k-x /\
    (∀ i,i<l->lt (key (el xs (lo+k))) (key (el xs (lo+i)))=false)/\(∀ i,r<=i->i<k->lt (key (el xs (lo+i))) (key (el xs (lo+k)))=false))
   (Q:=fun c a=>a=setArr st xs/\∃ l r,c=(none,l,r)/\l<=k /\
    (∀ i,i<l->lt (key (el xs (lo+k))) (key (el xs (lo+i)))=false)/\(∀ i,l<=i->i<k->lt (key (el xs (lo+i))) (key (el xs (lo+k)))=false)) ?is ?ie ?ii) ?ip)
  case ii=>exact⟨rfl,0,k,rfl,by lia,by lia,by lia,fun i z=>by lia,fun i b c=>by lia⟩
  case ie=>
   rintro c a ⟨rfl,l,r,rfl,B,u,C,g,j⟩;have:l=r:=by lia
   subst this;exact⟨rfl,l,l,rfl,u,g,j⟩
  case is=>
   rintro x c a _ U ⟨rfl,l,r,rfl,B,u,C,g,j⟩;dsimp only;by_cases y:l>=r
   ·rw[aL y];have:l=r:=by lia
    subst this;exact aV ⟨rfl,l,l,rfl,u,g,j⟩
   ·rw[aJ y];refine bD (tO e (st:=setArr st xs) K f (by lia) (by lia) ?_);dsimp only;show wpS M A E s _ _ (setArr st xs);by_cases v:lt (key (el xs (lo+k))) (key (el xs (lo+(l+r) / 2)))=true
    ·rw[aL v];refine aV ⟨rfl,l,(l+r) / 2,rfl,by lia,by lia,by lia,g,fun i w G=>?_⟩;exact e.o.tr _ _ _ (e.o.Iw _ _ v) (d (lo+(l+r) / 2) (lo+i) (by lia) (by lia) (by lia))
    ·rw[aJ v];refine aV ⟨rfl,(l+r) / 2+1,r,rfl,by lia,by omega,by lia,fun i w=>?_,j⟩;exact e.o.tr _ _ _ (d (lo+i) (lo+(l+r) / 2) (by lia) (by lia) (by lia)) (Ds v)
  case ip=>
   rintro c a ⟨rfl,l,r,rfl,u,g,j⟩;dsimp only;rw[moveDown'_eq];refine bD (pH (aV ⟨_,rfl,rfl,(bubble_perm _ _ _).trans f,fun i z=>?_,?_⟩))
   ·show el (bubble xs (lo+k) (lo+k-(lo+l))) i=_;rw[wR (by lia) (by lia),aJ (by lia),aJ (by lia)];exact t i z
   ·intro p q w G O;show lt (key (el (bubble xs (lo+k) (lo+k-(lo+l))) q)) (key (el (bubble xs (lo+k) (lo+k-(lo+l))) p))=false;rw[wR (by lia) (by lia),wR (by lia) (by lia),show lo+k-(lo+k-(lo+l))=lo+l by lia];have D:∀ i,lo<=i->i<lo+l->lt (key (el xs (lo+k))) (key (el xs i))=false:=fun i H J=>by
     have:=g (i-lo) (by lia);rwa[show lo+(i-lo)=i by lia] at this
    have F:∀ i,lo+l<=i->i<lo+k->lt (key (el xs i)) (key (el xs (lo+k)))=false:=fun i H J=>by
     have:=j (i-lo) (by lia) (by lia);rwa[show lo+(i-lo)=i by lia] at this
    repeat' split
    all_goals first
     |(exfalso;lia)
     |exact e.o.refl _
     |exact D _ (by omega) (by lia)
     |exact F _ (by lia) (by lia)
     |exact d _ _ (by lia) (by lia) (by lia)
end
end TS
end L2
namespace L2
open PySem PySem.Spec PyProof.Rows PySem.W
namespace TS
def gal:Bool->Keyed->Array Keyed->Nat->Nat->Nat->StateT SortSt Sem (Option Nat):=sortPriv% PySem.Builtin.gallop
def bey(l:Bool)(y:Keyed)(xs:Array Keyed)(i:Nat):StateT SortSt Sem (Option Bool):=do
 let x <- elem' xs i
 if l then lt' x y else return (<- lt' y x).map (!·)
theorem a2S(l:Bool)(y:Keyed)(xs:Array Keyed)(b n t:Nat):gal l y xs b n t=(do
 let mut o':=0
 let mut o:=1
 let mut p:=0
 let mut q:=0
 let some r <- bey l y xs (b+t)|return none
 if r then
  let z:=n-t
  for _ in [0:n] do
   if o>=z then break
   let some g <- bey l y xs (b+(t+o))|return none
   if !g then break
   o':=o
   o:=2*o+1
  p:=t+o'+1
  q:=t+min o z
 else
  let z:=t+1
  for _ in [0:n] do
   if o>=z then break
   let some g <- bey l y xs (b+(t-o))|return none
   if g then break
   o':=o
   o:=2*o+1
  p:=t+1-min o z
  q:=t-o'
 for _ in [0:n] do
  if p>=q then break
  let m:=p+(q-p) / 2
  let some g <- bey l y xs (b+m)|return none
  if g then p:=m+1 else q:=m
 return some q):=rfl
section
variable{α:Type}{lt:α->α->Bool}{M:Model}{A:Around}{E:Value->Shared->Prop}{s:Shared}{κ:SortKind}{key:Keyed->α}{a₀:Array Keyed}
def bv(lt:α->α->Bool)(key:Keyed->α)(l:Bool)(y x:Keyed):Bool:=if l then lt (key x) (key y) else !lt (key y) (key x)
theorem Hf(e:Env M A s κ key lt a₀){st:SortSt}(a:kindOf st=κ){l:Bool}{y:Keyed}{xs:Array Keyed}{i:Nat}(c:y∈a₀.toList)(d:i<xs.size)(b:el xs i∈a₀.toList){Q:Option Bool->SortSt->Prop}(h:Q (some (bv lt key l y (el xs i))) st):wpS M A E s (bey l y xs i) Q st:=by
 unfold bey;refine bD (iK d ?_);cases l
 ·refine bD (Kw e c b a (aV ?_));exact h
 ·exact Kw e b c a h
def bsr(l:Bool)(y:Keyed)(xs:Array Keyed)(b n p q:Nat):StateT SortSt Sem (Option Nat):=do
 let mut p:=p
 let mut q:=q
 for _ in [0:n] do
  if p>=q then break
  let m:=p+(q-p) / 2
  let some g <- bey l y xs (b+m)|return none
  if g then p:=m+1 else q:=m
 return some q
theorem Z7(e:Env M A s κ key lt a₀){st:SortSt}(C:kindOf st=κ){l:Bool}{y:Keyed}{xs:Array Keyed}{b n p q:Nat}(L:y∈a₀.toList)(hz:b+n<=xs.size)(D:∀ i,i<n->el xs (b+i)∈a₀.toList)
  (mono:∀ i j,i<=j->j<n->bv lt key l y (el xs (b+j))=true->bv lt key l y (el xs (b+i))=true) {Q:Option Nat->SortSt->Prop} (H:p<=q) (J:q<=n)
  (G:∀ i,i<p->bv lt key l y (el xs (b+i))=true) (K:∀ i,q<=i->i<n->bv lt key l y (el xs (b+i))=false)
  (h:∀ k,k<=n->(∀ i,i<k->bv lt key l y (el xs (b+i))=true)->(∀ i,k<=i->i<n->bv lt key l y (el xs (b+i))=false)->Q (some k) st):wpS M A E s (bsr l y xs b n p q) Q st:=by
 unfold bsr;refine bD (jU (jT (I:=fun x c f=>f=st/\∃ p q,c=(none,p,q)/\p<=q/\q<=n/\q-p<=n-x/\(∀ i,i<p->bv lt key l y (el xs (b+i))=true)/\(∀ i,q<=i->i<n->bv lt key l y (el xs (b+i))=false))
  (Q:=fun c f=>f=st/\∃ p q,c=(none,p,q)/\q<=n/\(∀ i,i<q->bv lt key l y (el xs (b+i))=true)/\(∀ i,q<=i->i<n->bv lt key l y (el xs (b+i))=false)) ?step ?fin ?init) ?post)
 case init=>exact⟨rfl,p,q,rfl,H,J,by lia,G,K⟩
 case fin=>
  rintro c f ⟨rfl,p,q,rfl,r,g,v,a,d⟩;have:p=q:=by lia
  subst this;exact⟨rfl,p,p,rfl,g,a,d⟩
 case post=>
  rintro c f ⟨rfl,p,q,rfl,r,a,d⟩;exact aV (h q r a d)
 case step=>
  rintro x c f _ N ⟨rfl,p,q,rfl,r,g,v,a,d⟩;dsimp only;by_cases t:p>=q
  ·rw[aL t];have:p=q:=by lia
   subst this;exact aV ⟨rfl,p,p,rfl,g,a,d⟩
  ·rw[aJ t];have w:p<=p+(q-p) / 2:=by lia
   have z:p+(q-p) / 2<q:=by lia
   generalize p+(q-p) / 2=m at w z;refine bD (Hf e C L (by lia) (D _ (by lia)) ?_);dsimp only;by_cases o:bv lt key l y (el xs (b+m))=true
   ·rw[aL o];exact aV ⟨rfl,m+1,q,rfl,by lia,g,by lia,fun i u=>mono i m (by lia) (by lia) o,d⟩
   ·rw[aJ o];refine aV ⟨rfl,p,m,rfl,by omega,by lia,by lia,a,fun i u F=>?_⟩;cases B:bv lt key l y (el xs (b+i))
    ·rfl
    ·exact absurd (mono m i u F B) o
theorem yr(e:Env M A s κ key lt a₀){st:SortSt}(q:kindOf st=κ){l:Bool}{y:Keyed}{xs:Array Keyed}{b n t:Nat}(u:y∈a₀.toList)(hz:b+n<=xs.size)(r:∀ i,i<n->el xs (b+i)∈a₀.toList)(ht:t<n)
  (mono:∀ i j,i<=j->j<n->bv lt key l y (el xs (b+j))=true->bv lt key l y (el xs (b+i))=true) {Q:Option Nat->SortSt->Prop}
  (h:∀ k,k<=n->(∀ i,i<k->bv lt key l y (el xs (b+i))=true)->(∀ i,k<=i->i<n->bv lt key l y (el xs (b+i))=false)->Q (some k) st):wpS M A E s (gal l y xs b n t) Q st:=by
 rw[a2S];refine bD (Hf e q u (by lia) (r t ht) ?_);dsimp only;have C:∀ i j,i<=j->j<n->bv lt key l y (el xs (b+i))=false->bv lt key l y (el xs (b+j))=false:=fun i j h1 h2 D=>by
  cases m:bv lt key l y (el xs (b+j))
  ·rfl
  ·rw[mono i j h1 h2 m] at D;cases D
 by_cases v:bv lt key l y (el xs (b+t))=true
 ·rw[aL v];refine bD (jU (jT (I:=fun x c d=>d=st/\∃ o' o,c=(none,o',o)/\o'<o/\t+o'<n/\x+1<=o/\bv lt key l y (el xs (b+(t+o')))=true)
   (Q:=fun c d=>d=st/\∃ o' o,c=(none,o',o)/\o'<o/\t+o'<n/\bv lt key l y (el xs (b+(t+o')))=true/\(o<n-t->bv lt key l y (el xs (b+(t+o)))=false)) ?step ?fin ?init) ?post)
  case init=>exact⟨rfl,0,1,rfl,by lia,by omega,by lia,v⟩
  case fin=>
   rintro c d ⟨rfl,o',o,rfl,g,f,w,a⟩;exact⟨rfl,o',o,rfl,g,f,a,fun B=>by lia⟩
  case step=>
   rintro x c d _ G ⟨rfl,o',o,rfl,g,f,w,a⟩;dsimp only;by_cases p:o>=n-t
   ·rw[aL p];exact aV ⟨rfl,o',o,rfl,g,f,a,fun B=>by lia⟩
   ·rw[aJ p];refine bD (Hf e q u (by lia) (r _ (by lia)) ?_);dsimp only;cases m:bv lt key l y (el xs (b+(t+o)))
    ·rw[aL (by rfl)];exact aV ⟨rfl,o',o,rfl,g,f,a,fun _=>m⟩
    ·rw[aJ (by decide)];exact aV ⟨rfl,o,2*o+1,rfl,by lia,by lia,by lia,m⟩
  case post=>
   rintro c d ⟨rfl,o',o,rfl,g,f,a,z⟩;dsimp only;change wpS M A E s (bsr l y xs b n (t+o'+1) (t+min o (n-t))) Q _;refine Z7 e q u hz r mono (by lia) (by lia) (fun i F=>mono i (t+o') (by lia) f a) (fun i h1 h2=>?_) h;exact C (t+o) i (by lia) h2 (z (by lia))
 ·rw[aJ v];refine bD (jU (jT (I:=fun x c d=>d=st/\∃ o' o,c=(none,o',o)/\o'<o/\o'<=t/\x+1<=o/\bv lt key l y (el xs (b+(t-o')))=false)
   (Q:=fun c d=>d=st/\∃ o' o,c=(none,o',o)/\o'<o/\o'<=t/\bv lt key l y (el xs (b+(t-o')))=false/\(o<t+1->bv lt key l y (el xs (b+(t-o)))=true)) ?step ?fin ?init) ?post)
  case init=>exact⟨rfl,0,1,rfl,by lia,by lia,by lia,Ds v⟩
  case fin=>
   rintro c d ⟨rfl,o',o,rfl,g,f,w,a⟩;exact⟨rfl,o',o,rfl,g,f,a,fun B=>by lia⟩
  case step=>
   rintro x c d _ G ⟨rfl,o',o,rfl,g,f,w,a⟩;dsimp only;by_cases p:o>=t+1
   ·rw[aL p];exact aV ⟨rfl,o',o,rfl,g,f,a,fun B=>by lia⟩
   ·rw[aJ p];refine bD (Hf e q u (by lia) (r _ (by lia)) ?_);dsimp only;cases m:bv lt key l y (el xs (b+(t-o)))
    ·rw[aJ (by decide)];exact aV ⟨rfl,o,2*o+1,rfl,by lia,by lia,by lia,m⟩
    ·rw[aL (by rfl)];exact aV ⟨rfl,o',o,rfl,g,f,a,fun _=>m⟩
  case post=>
   rintro c d ⟨rfl,o',o,rfl,g,f,a,z⟩;dsimp only;change wpS M A E s (bsr l y xs b n (t+1-min o (t+1)) (t-o')) Q _;refine Z7 e q u hz r mono (by omega) (by lia) (fun i F=>?_) (fun i h1 h2=>C (t-o') i h1 h2 a) h;exact mono i (t-o) (by lia) (by lia) (z (by lia))
end
end TS
end L2
namespace L2
open PySem PySem.Spec PyProof.Rows PySem.W
namespace TS
abbrev cu(st:SortSt)(g:Nat):SortSt:=SortSt.mk' (kindOf st) (arrOf st) (pendingOf st) g (failedOf st)
def mlo:Array Keyed->Array Keyed->StateT SortSt Sem (Array Keyed):=sortPriv% PySem.Builtin.mergeLo
def mhi:Array Keyed->Array Keyed->StateT SortSt Sem (Array Keyed):=sortPriv% PySem.Builtin.mergeHi
abbrev Ml:=Option (Array Keyed)×Array Keyed×Nat×Nat×Nat×Nat×Nat
def loU(a b:Array Keyed)(g c d:Nat)(o:Array Keyed)(i j:Nat):StateT SortSt Sem (ForInStep Ml):=do
 let w <- elem' a i
 if(i+1+1==a.size)=true then pure (.done (some (o.push w++b.extract j b.size++a.extract (i+1) a.size),o.push w,i+1,j,g,c,d))
 else if(decide (c<7)&&decide (d<7))=true then pure (.done (none,o.push w,i+1,j,g,c,d))
 else pure (.yield (none,o.push w,i+1,j,g,c,d))
def loT(a b:Array Keyed)(g c v:Nat)(o:Array Keyed)(i j:Nat):StateT SortSt Sem (ForInStep Ml):=do
 let w <- elem' b j
 if(j+1==b.size)=true then pure (.done (some (o.push w++a.extract i a.size++b.extract (j+1) b.size),o.push w,i,j+1,g,c,v))
 else do
  let w1 <- elem' a i
  let x <- gal true w1 b (j+1) (b.size-(j+1)) 0
  match x with
  |some d=>(if d>0 then
    (if(j+1+d==b.size)=true then pure (.done (some (o.push w++b.extract (j+1) (j+1+d)++a.extract i a.size++b.extract (j+1+d) b.size),o.push w++b.extract (j+1) (j+1+d),i,j+1+d,g,c,d))
    else loU a b g c d (o.push w++b.extract (j+1) (j+1+d)) i (j+1+d))
   else loU a b g c d (o.push w) i (j+1))
  |_=>pure (.done (some (o.push w++a.extract i a.size++b.extract (j+1) b.size),o.push w,i,j+1,g,c,v))
def loS(a b:Array Keyed)(g u v:Nat)(o:Array Keyed)(i j:Nat):StateT SortSt Sem (ForInStep Ml):=do
 modify fun s=>cu s g
 let w <- elem' b j
 let x <- gal false w a i (a.size-i) 0
 match x with
 |some k=>(if k>0 then
   (if(i+k+1==a.size)=true then pure (.done (some (o++a.extract i (i+k)++b.extract j b.size++a.extract (i+k) a.size),o++a.extract i (i+k),i+k,j,g,k,v))
   else if(i+k==a.size)=true then pure (.done (some (o++a.extract i (i+k)++a.extract (i+k) a.size++b.extract j b.size),o++a.extract i (i+k),i+k,j,g,k,v))
   else loT a b g k v (o++a.extract i (i+k)) (i+k) j)
  else loT a b g k v o i j)
 |_=>pure (.done (some (o++a.extract i a.size++b.extract j b.size),o,i,j,g,u,v))
def loG(a b:Array Keyed)(_:Nat)(s:Ml):StateT SortSt Sem (ForInStep Ml):=
 if s.2.2.2.2.1>1 then loS a b (s.2.2.2.2.1-1) s.2.2.2.2.2.1 s.2.2.2.2.2.2 s.2.1 s.2.2.1 s.2.2.2.1 else loS a b s.2.2.2.2.1 s.2.2.2.2.2.1 s.2.2.2.2.2.2 s.2.1 s.2.2.1 s.2.2.2.1
abbrev Mk:=Option (Array Keyed)×Array Keyed×Nat×Nat×Nat×Nat
def loF(a b:Array Keyed)(g:Nat)(_:Nat)(s:Mk):StateT SortSt Sem (ForInStep Mk):=do
 let x <- lt' (<- elem' b s.2.2.2.1) (<- elem' a s.2.2.1)
 match x with
 |some w=>(if w=true then do
   let e <- elem' b s.2.2.2.1
   if(s.2.2.2.1+1==b.size)=true then pure (.done (some (s.2.1.push e++a.extract s.2.2.1 a.size++b.extract (s.2.2.2.1+1) b.size),s.2.1.push e,s.2.2.1,s.2.2.2.1+1,0,s.2.2.2.2.2+1))
   else if s.2.2.2.2.2+1>=g then pure (.done (none,s.2.1.push e,s.2.2.1,s.2.2.2.1+1,0,s.2.2.2.2.2+1))
   else pure (.yield (none,s.2.1.push e,s.2.2.1,s.2.2.2.1+1,0,s.2.2.2.2.2+1))
  else do
   let e <- elem' a s.2.2.1
   if(s.2.2.1+1+1==a.size)=true then pure (.done (some (s.2.1.push e++b.extract s.2.2.2.1 b.size++a.extract (s.2.2.1+1) a.size),s.2.1.push e,s.2.2.1+1,s.2.2.2.1,s.2.2.2.2.1+1,0))
   else if s.2.2.2.2.1+1>=g then pure (.done (none,s.2.1.push e,s.2.2.1+1,s.2.2.2.1,s.2.2.2.2.1+1,0))
   else pure (.yield (none,s.2.1.push e,s.2.2.1+1,s.2.2.2.1,s.2.2.2.2.1+1,0)))
 |_=>pure (.done (some (s.2.1++a.extract s.2.2.1 a.size++b.extract s.2.2.2.1 b.size),s.2.1,s.2.2.1,s.2.2.2.1,s.2.2.2.2.1,s.2.2.2.2.2))
abbrev Mn:=Option (Array Keyed)×Array Keyed×Nat×Nat×Nat
def loM(a b:Array Keyed)(_:Nat)(s:Mn):StateT SortSt Sem (ForInStep Mn):=do
 let c <- forIn [0:a.size+b.size] (none,s.2.1,s.2.2.1,s.2.2.2.1,0,0) (loF a b s.2.2.2.2)
 match c.1 with
 |some r=>pure (.done (some r,c.2.1,c.2.2.1,c.2.2.2.1,s.2.2.2.2))
 |none=>do
  (rule "list.sort.gallop" : Sem Unit)
  let z <- forIn [0:a.size+b.size] (none,c.2.1,c.2.2.1,c.2.2.2.1,s.2.2.2.2+1,c.2.2.2.2.1,c.2.2.2.2.2) (loG a b)
  match z.1 with
  |some r=>pure (.done (some r,z.2.1,z.2.2.1,z.2.2.2.1,z.2.2.2.2.1))
  |none=>do
   modify fun s=>cu s (z.2.2.2.2.1+1)
   pure (.yield (none,z.2.1,z.2.2.1,z.2.2.2.1,z.2.2.2.2.1+1))
theorem a3n(a b:Array Keyed):mlo a b=(do
 (rule "list.sort.merge-lo" : Sem Unit)
 let w <- elem' b 0
 if(1==b.size)=true then pure (#[w]++a.extract 0 a.size++b.extract 1 b.size)
 else if(0+1==a.size)=true then pure (#[w]++b.extract 1 b.size++a.extract 0 a.size)
 else do
  let st <- get
  let c <- forIn [0:a.size+b.size] (none,#[w],0,1,gallopOf st) (loM a b)
  match c.1 with
  |some r=>pure r
  |none=>unsupported "internal:list.sort.merge-bound"):=by kernel_rfl
section
variable{α:Type}{lt:α->α->Bool}{M:Model}{A:Around}{E:Value->Shared->Prop}{s:Shared}{κ:SortKind}{key:Keyed->α}{a₀:Array Keyed}
structure Mg(R:Keyed->Keyed->Prop)(X Y out x y:List Keyed):Prop where
 perm:(out++(x++y)).Perm (X++Y)
 up:out.Pairwise R
 ab:∀ p∈out,∀ q∈x++y,R p q
 sx:x.Pairwise R
 sy:y.Pairwise R
variable{R:Keyed->Keyed->Prop}{X Y out x y:List Keyed}{p q:Keyed}
theorem Mg.tx(m:Mg R X Y out (p::x) y)(h:∀ q∈y,R p q):Mg R X Y (out++[p]) x y:=by
 obtain⟨h1,h2,g,d,i⟩:=m;rw[rQ] at d;refine⟨by simpa using h1,?_,?_,d.2,i⟩
 ·rw[z7];refine⟨h2,Zu _ _,fun a e b c=>?_⟩;rw[cN.mp c];exact g a e p (by simp)
 ·intro a e b c;rcases cG.mp e with f|f
  ·exact g a f b (by rcases cG.mp c with w|w<;>simp[w])
  ·rw[cN.mp f];rcases cG.mp c with w|w
   ·exact d.1 b w
   ·exact h b w
theorem Mg.swap(m:Mg R X Y out x y):Mg R Y X out y x:=
 ⟨((Og (l₁:=y) (l₂:=x)).append_left out).trans (m.perm.trans Og),m.up,fun a c b d=>m.ab a c b (cG.mpr (cG.mp d).symm),m.sy,m.sx⟩
theorem Mg.ty(m:Mg R X Y out x (q::y))(h:∀ p∈x,R q p):Mg R X Y (out++[q]) x y:=(m.swap.tx h).swap
theorem Mg.cx:∀(c:List Keyed){out:List Keyed},Mg R X Y out (c++x) y->(∀ p∈c,∀ q∈y,R p q)->Mg R X Y (out++c) x y
 |[],out,m,_=>by simpa using m
 |p::c,out,m,h=>by
  have:=Mg.cx c (m.tx (h p cV)) fun a b=>h a (eO _ b)
  simpa using this
theorem Mg.cy(c:List Keyed)(m:Mg R X Y out x (c++y))(h:∀ p∈c,∀ q∈x,R p q):Mg R X Y (out++c) x y:=(Mg.cx c m.swap h).swap
theorem Mg.a4O(m:Mg R X Y out [] y):(out++y).Perm (X++Y)/\(out++y).Pairwise R:=
 ⟨by simpa using m.perm,z7.mpr ⟨m.up,m.sy,fun a c b d=>m.ab a c b (by simpa using d)⟩⟩
theorem Mg.a2P(m:Mg R X Y out x []):(out++x).Perm (X++Y)/\(out++x).Pairwise R:=
 ⟨by simpa using m.perm,z7.mpr ⟨m.up,m.sx,fun a c b d=>m.ab a c b (by simpa using d)⟩⟩
theorem Mg.last(m:Mg R X Y out [p] y)(h:∀ q∈y,R q p):(out++y++[p]).Perm (X++Y)/\(out++y++[p]).Pairwise R:=by
 have:=Mg.a2P (Mg.cy (y:=[]) y (by simpa using m) (fun a c b d=>by rw[cN.mp d];exact h a c));exact this
def Le(lt:α->α->Bool)(key:Keyed->α)(p q:Keyed):Prop:=lt (key q) (key p)=false
theorem Le.trans(o:kY lt){p q r:Keyed}(h:Le lt key p q)(g:Le lt key q r):Le lt key p r:=o.tr _ _ _ h g
theorem Le.of(o:kY lt){p q:Keyed}(h:lt (key p) (key q)=true):Le lt key p q:=o.Iw _ _ h
theorem pW{a:Array Keyed}{i:Nat}(h:i<a.size):a.toList.drop i=el a i::a.toList.drop (i+1):=by
 rw[yX (by simpa using h)];congr 1;have:=pY h;rw[jG h] at this;simpa using iy this
theorem oW{a:Array Keyed}{i:Nat}:(a.extract i a.size).toList=a.toList.drop i:=by
 rw[ZQ];refine Ck ?_;simp
theorem kZ{a:Array Keyed}{i k:Nat}:(a.extract i (i+k)).toList=(a.toList.drop i).take k:=by
 rw[ZQ,List.extract_eq_take_drop,Nat.add_sub_cancel_left]
theorem tD{a:Array Keyed}{i k:Nat}(h:i+k<=a.size){x:Keyed}(c:x∈(a.toList.drop i).take k):∃ t,t<k/\x=el a (i+t):=by
 obtain⟨t,b,e⟩:=Oj.mp c;rw[u6,List.length_drop,nM] at b;refine⟨t,by lia,?_⟩;rw[List.getElem_take,List.getElem_drop] at e;have:=pY (xs:=a) (i:=i+t) (by lia);rw[jG (by lia)] at this;rw[<- e];simpa using iy this
theorem yq{a:Array Keyed}(h:a.toList.Pairwise (Le lt key))(o:kY lt){i j:Nat}(f:i<=j)(d:j<a.size):Le lt key (el a i) (el a j):=by
 by_cases e:i=j
 ·subst e;exact o.refl _
 ·have:=yZ.mp h i j (by simp;lia) (by simpa using d) (by lia);have b:=pY (xs:=a) (i:=i) (by lia);have c:=pY d;rw[jG (by omega)] at b c;rw[<- iy b,<- iy c];simpa using this
theorem sG(o:kY lt){l:Bool}{y:Keyed}{xs:Array Keyed}{b n:Nat}(h:∀ p q,p<=q->q<n->Le lt key (el xs (b+p)) (el xs (b+q))):∀ i j,i<=j->j<n->bv lt key l y (el xs (b+j))=true->bv lt key l y (el xs (b+i))=true:=by
 intro i j e f a;have d:=h i j e f;cases l
 ·unfold bv at a ⊢;rw[aJ fP] at a ⊢;have h1:Le lt key (el xs (b+j)) y:=by
   unfold Le;cases c:lt (key y) (key (el xs (b+j)))
   ·rfl
   ·rw[c] at a;cases a
  have h2:lt (key y) (key (el xs (b+i)))=false:=d.trans o h1;rw[h2];rfl
 ·unfold bv at a ⊢;rw[aL rfl] at a ⊢;cases c:lt (key (el xs (b+i))) (key y)
  ·have h1:Le lt key y (el xs (b+i)):=c;have h2:lt (key (el xs (b+j))) (key y)=false:=h1.trans o d;rw[h2] at a;cases a
  ·rfl
theorem bvF{y x:Keyed}:bv lt key false y x=!lt (key y) (key x):=rfl
theorem bvT{y x:Keyed}:bv lt key true y x=lt (key x) (key y):=rfl
structure Two(lt:α->α->Bool)(key:Keyed->α)(a₀ a b:Array Keyed):Prop where
 ma:∀ x∈a.toList,x∈a₀.toList
 mb:∀ x∈b.toList,x∈a₀.toList
 sa:a.toList.Pairwise (Le lt key)
 sb:b.toList.Pairwise (Le lt key)
 za:1<=a.size
 zb:1<=b.size
 first:lt (key (el b 0)) (key (el a 0))=true
 last:∀ y∈b.toList,Le lt key y (el a (a.size-1))
def Res(lt:α->α->Bool)(key:Keyed->α)(a b r:Array Keyed):Prop:=r.toList.Perm (a.toList++b.toList)/\r.toList.Pairwise (Le lt key)
section lo
variable{a b o:Array Keyed}{i j k:Nat}
abbrev Lo(lt:α->α->Bool)(key:Keyed->α)(a b o:Array Keyed)(i j:Nat):Prop:=Mg (Le lt key) a.toList b.toList o.toList (a.toList.drop i) (b.toList.drop j)
theorem Lo.Fo(c:kY lt)(m:Lo lt key a b o i j)(f:i<a.size)(g:j<b.size)(h:lt (key (el b j)) (key (el a i))=true):Lo lt key a b (o.push (el b j)) i (j+1):=by
 unfold Lo at m ⊢;rw[pW g] at m;rw[HN];refine m.ty fun p d=>?_
 have e:=m.sx;rw[pW f] at d e;rcases cZ.mp d with rfl|k
 ·exact Le.of c h
 ·exact(Le.of c h).trans c ((rQ.mp e).1 p k)
theorem Lo.Kq(g:kY lt)(m:Lo lt key a b o i j)(e:i<a.size)(f:j<b.size)(h:lt (key (el b j)) (key (el a i))=false):Lo lt key a b (o.push (el a i)) (i+1) j:=by
 unfold Lo at m ⊢;rw[pW e] at m;rw[HN];refine m.tx fun p c=>?_
 have d:=m.sy;rw[pW f] at c d;have h':Le lt key (el a i) (el b j):=h;rcases cZ.mp c with rfl|k
 ·exact h'
 ·exact h'.trans g ((rQ.mp d).1 p k)
theorem Lo.Lh(r:kY lt)(m:Lo lt key a b o i j)(f:i+k<=a.size)(g:j<b.size)(h:∀ t,t<k->bv lt key false (el b j) (el a (i+t))=true):Lo lt key a b (o++a.extract i (i+k)) (i+k) j:=by
 unfold Lo at m ⊢;rw[lW,kZ];rw[<- Dj k (a.toList.drop i),Ia] at m;refine m.cx _ fun p l q c=>?_
 have d:=m.sy;rw[pW g] at c d;obtain⟨t,n,rfl⟩:=tD f l;have h1:=h t n;have h':Le lt key (el a (i+t)) (el b j):=by
  unfold Le;rw[bvF] at h1;cases e:lt (key (el b j)) (key (el a (i+t)))
  ·rfl
  ·rw[e] at h1;cases h1
 rcases cZ.mp c with rfl|s
 ·exact h'
 ·exact h'.trans r ((rQ.mp d).1 q s)
theorem Lo.Li(d:kY lt)(m:Lo lt key a b o i j)(f:i<a.size)(g:j+k<=b.size)(h:∀ t,t<k->bv lt key true (el a i) (el b (j+t))=true):Lo lt key a b (o++b.extract j (j+k)) i (j+k):=by
 unfold Lo at m ⊢;rw[lW,kZ];rw[<- Dj k (b.toList.drop j),Ia] at m;refine m.cy _ fun p l q c=>?_
 have e:=m.sx;rw[pW f] at c e;obtain⟨t,n,rfl⟩:=tD g l;have h':Le lt key (el b (j+t)) (el a i):=Le.of d (by have:=h t n;rwa[bvT] at this);rcases cZ.mp c with rfl|r
 ·exact h'
 ·exact h'.trans d ((rQ.mp e).1 q r)
theorem Lo.Uh(m:Lo lt key a b o i j)(c:j=b.size):Res lt key a b (o++a.extract i a.size++b.extract j b.size):=by
 unfold Lo at m;unfold Res;rw[lW,lW,oW,oW];have e:b.toList.drop j=[]:=by rw[c];simp
 rw[e] at m ⊢;rw[oA];exact m.a2P
theorem Lo.Ug(m:Lo lt key a b o i j)(c:i=a.size):Res lt key a b (o++a.extract i a.size++b.extract j b.size):=by
 unfold Lo at m;unfold Res;rw[lW,lW,oW,oW];have e:a.toList.drop i=[]:=by rw[c];simp
 rw[e] at m ⊢;rw[oA];exact m.a4O
theorem Lo.nif(t:Two lt key a₀ a b)(m:Lo lt key a b o i j)(c:i+1=a.size):Res lt key a b (o++b.extract j b.size++a.extract i a.size):=by
 unfold Lo at m;unfold Res;rw[lW,lW,oW,oW];have e:a.toList.drop i=[el a i]:=by
  rw[pW (by lia),c];have:a.toList.drop a.size=[]:=by simp
  rw[this]
 rw[e] at m ⊢;refine m.last fun q d=>?_
 have:=t.last q (List.mem_of_mem_drop d);rwa[show a.size-1=i by lia] at this
end lo
section
variable{a b o:Array Keyed}{st:SortSt}{i j g c d u v n:Nat}{P:ForInStep Ml->SortSt->Prop}
theorem Zf(e:Env M A s κ key lt a₀)(t:Two lt key a₀ a b)(m:Lo lt key a b o i j)(v:i+1<a.size)(h:j<b.size)(u:lt (key (el b j)) (key (el a i))=false)(w:n<=i+j)(p:∀ r z,Res lt key a b r->P (.done (some r,z)) st)
  (l:∀ o i j c d,Lo lt key a b o i j->i+1<a.size->j<b.size->n<i+j->P (.done (none,o,i,j,g,c,d)) st/\P (.yield (none,o,i,j,g,c,d)) st):wpS M A E s (loU a b g c d o i j) P st:=by
 refine bD (iK (by lia) ?_);have k:=m.Kq e.o (by lia) h u;by_cases f:i+1+1=a.size
 ·rw[aL (by simpa using f)];exact aV (p _ _ (k.nif t f))
 rw[aJ (by simpa using f)];have q:=l _ _ _ c d k (by lia) h (by lia);split
 ·exact aV q.1
 ·exact aV q.2
theorem Ze(e:Env M A s κ key lt a₀)(H:kindOf st=κ)(t:Two lt key a₀ a b)(m:Lo lt key a b o i j)(y:i+1<a.size)(B:j<b.size)(J:lt (key (el b j)) (key (el a i))=true)(K:n<=i+j)(h:∀ r z,Res lt key a b r->P (.done (some r,z)) st)
  (C:∀ o i j c d,Lo lt key a b o i j->i+1<a.size->j<b.size->n<i+j->P (.done (none,o,i,j,g,c,d)) st/\P (.yield (none,o,i,j,g,c,d)) st):wpS M A E s (loT a b g c v o i j) P st:=by
 refine bD (iK B ?_);have x:=m.Fo e.o (by lia) B J;by_cases u:j+1=b.size
 ·rw[aL (by simpa using u)];exact aV (h _ _ (x.Uh u))
 rw[aJ (by simpa using u)];refine bD (iK (by lia) (bD (yr e (st:=st) (b:=j+1) (n:=b.size-(j+1)) (t:=0) H (t.ma _ (jD (by lia))) (by lia) (fun q L=>t.mb _ (jD (by lia))) (by lia) (sG e.o fun p q O Q=>yq t.sb e.o (by lia) (by lia)) ?_)));intro l N I F;dsimp only;by_cases D:l>0
 ·rw[aL D];have G:=x.Li (k:=l) e.o (by lia) (by lia) I;by_cases w:j+1+l=b.size
  ·rw[aL (by simpa using w)];exact aV (h _ _ (G.Uh w))
  rw[aJ (by simpa using w)];have f:=F l (bG _) (by lia);rw[bvT] at f;exact Zf e t G y (by lia) f (by lia) h C
 ·rw[aJ D];have f:=F 0 (by lia) (by lia);rw[bvT] at f;exact Zf e t x y (by lia) f (by lia) h C
theorem Zd(e:Env M A s κ key lt a₀)(l:kindOf st=κ)(t:Two lt key a₀ a b)(m:Lo lt key a b o i j)(D:i+1<a.size)(f:j<b.size)(G:n<=i+j)(h:∀ r z,Res lt key a b r->P (.done (some r,z)) (cu st g))
  (x:∀ o i j c d,Lo lt key a b o i j->i+1<a.size->j<b.size->n<i+j->P (.done (none,o,i,j,g,c,d)) (cu st g)/\P (.yield (none,o,i,j,g,c,d)) (cu st g)):wpS M A E s (loS a b g u v o i j) P st:=by
 refine bD (pH (bD (iK f (bD (yr e (st:=cu st g) (b:=i) (n:=a.size-i) (t:=0) l (t.mb _ (jD f)) (by lia) (fun q J=>t.ma _ (jD (by lia))) (by lia) (sG e.o fun p q L N=>yq t.sa e.o (by lia) (by lia)) ?_)))));intro k K H I;dsimp only;have B:i+k<a.size->lt (key (el b j)) (key (el a (i+k)))=true:=fun z=>by
  have:=I k (bG _) (by lia);rw[bvF] at this;cases F:lt (key (el b j)) (key (el a (i+k)))
  ·rw[F] at this;cases this
  ·rfl
 by_cases y:k>0
 ·rw[aL y];have w:Lo lt key a b (o++a.extract i (i+k)) (i+k) j:=m.Lh e.o (by lia) (by omega) H;by_cases f1:i+k+1=a.size
  ·rw[aL (by simpa using f1)];exact aV (h _ _ (w.nif t f1))
  rw[aJ (by simpa using f1)];by_cases f2:i+k=a.size
  ·rw[aL (by simpa using f2)];exact aV (h _ _ (w.Ug f2))
  rw[aJ (by simpa using f2)];exact Ze e l t w (by lia) f (B (by lia)) (by lia) h x
 ·rw[aJ y];have C:=B (by lia);rw[show i+k=i by lia] at C;exact Ze e l t m D f C G h x
end
theorem a4v(e:Env M A s κ key lt a₀){st:SortSt}(L:kindOf st=κ){a b:Array Keyed}(t:Two lt key a₀ a b){Q:Array Keyed->SortSt->Prop}
  (h:∀ r g,Res lt key a b r->Q r (cu st g)):wpS M A E s (mlo a b) Q st:=by
 rw[a3n];have ea:∀ i,i<a.size->el a i∈a₀.toList:=fun i R=>t.ma _ (jD R)
 have U:∀ i,i<b.size->el b i∈a₀.toList:=fun i R=>t.mb _ (jD R)
 have ac:=t.za;have ad:=t.zb;have aa:∀ g,kindOf (cu st g)=κ:=fun _=>L
 refine bD (uL (yI ⟨rfl,?_⟩));refine bD (iK (by lia) ?_);have S:Lo lt key a b #[el b 0] 0 1:=by
  have:Lo lt key a b #[] 0 0:=⟨by simp,List.Pairwise.nil,(fun p W=>by cases W),by simpa using t.sa,by simpa using t.sb⟩
  exact this.Fo e.o (by lia) (by lia) t.first
 by_cases O:1=b.size
 ·rw[aL (by simpa using O)];exact aV (h _ (gallopOf st) (S.Uh O))
 rw[aJ (by simpa using O)];by_cases P:0+1=a.size
 ·rw[aL (by simpa using P)];exact aV (h _ (gallopOf st) (S.nif t P))
 rw[aJ (by simpa using P)];refine bD (lO ?_);refine bD (jU (jT (I:=fun x c k=>(∃ f,k=cu st f)/\∃ o i j g,c=(none,o,i,j,g)/\Lo lt key a b o i j/\i+1<a.size/\j<b.size/\x+1<=i+j)
  (Q:=fun c k=>(∃ f,k=cu st f)/\∃ r l,c=(some r,l)/\Res lt key a b r) ?step ?fin ?init) ?post)
 case init=>exact⟨⟨gallopOf st,rfl⟩,_,0,1,_,rfl,S,by lia,by lia,by lia⟩
 case fin=>
  rintro c k ⟨_,o,i,j,g,rfl,_,H,J,N⟩;exfalso;lia
 case post=>
  rintro c k ⟨⟨f,rfl⟩,r,l,rfl,z⟩;exact aV (h r f z)
 case step=>
  rintro x c k _ ab ⟨⟨f,rfl⟩,o,i,j,g,rfl,Y,H,J,N⟩;dsimp only[loM];refine bD (jU (jT (I:=fun y c k=>(∃ f,k=cu st f)/\∃ o i j u v,c=(none,o,i,j,u,v)/\Lo lt key a b o i j/\i+1<a.size/\j<b.size/\x+1+y<=i+j)
   (Q:=fun c k=>(∃ f,k=cu st f)/\((∃ r l,c=(some r,l)/\Res lt key a b r)\/∃ o i j u v,c=(none,o,i,j,u,v)/\Lo lt key a b o i j/\i+1<a.size/\j<b.size/\x+2<=i+j)) ?s1 ?f1 ?i1) ?p1)
  case i1=>exact⟨⟨f,rfl⟩,o,i,j,0,0,rfl,Y,H,J,by omega⟩
  case f1=>
   rintro c k ⟨_,o,i,j,u,v,rfl,_,H,J,N⟩;exfalso;lia
  case s1=>
   rintro y c k _ X ⟨⟨f,rfl⟩,o,i,j,u,v,rfl,C,w,B,D⟩;dsimp only[loF];refine bD (iK (by omega) (bD (iK (by lia) (bD (Kw e (st:=cu st f) (U j (by omega)) (ea i (by lia)) L ?_)))));dsimp only;by_cases K:lt (key (el b j)) (key (el a i))=true
   ·rw[aL K];refine bD (iK (by omega) ?_);have q:=C.Fo e.o (by lia) (by omega) K;by_cases f1:j+1=b.size
    ·rw[aL (by simpa using f1)];exact aV ⟨⟨f,rfl⟩,.inl ⟨_,_,rfl,q.Uh f1⟩⟩
    ·rw[aJ (by simpa using f1)];by_cases f2:v+1>=g
     ·rw[aL f2];exact aV ⟨⟨f,rfl⟩,.inr ⟨_,_,_,_,_,rfl,q,w,by lia,by lia⟩⟩
     ·rw[aJ f2];exact aV ⟨⟨f,rfl⟩,_,_,_,_,_,rfl,q,w,by lia,by lia⟩
   ·rw[aJ K];refine bD (iK (by lia) ?_);have q:=C.Kq e.o (by lia) (by omega) (Ds K);by_cases f1:i+1+1=a.size
    ·rw[aL (by simpa using f1)];exact aV ⟨⟨f,rfl⟩,.inl ⟨_,_,rfl,q.nif t f1⟩⟩
    ·rw[aJ (by simpa using f1)];by_cases f2:u+1>=g
     ·rw[aL f2];exact aV ⟨⟨f,rfl⟩,.inr ⟨_,_,_,_,_,rfl,q,by lia,by omega,by lia⟩⟩
     ·rw[aJ f2];exact aV ⟨⟨f,rfl⟩,_,_,_,_,_,rfl,q,by lia,by omega,by lia⟩
  case p1=>
   rintro c k ⟨⟨f,rfl⟩,⟨r,l,rfl,z⟩|⟨o,i,j,u,v,rfl,C,w,B,D⟩⟩
   ·exact aV ⟨⟨f,rfl⟩,r,_,rfl,z⟩
   dsimp only;refine bD (uL (yI ⟨rfl,?_⟩));refine bD (jU (jT (I:=fun y c k=>(∃ f,k=cu st f)/\∃ o i j g u v,c=(none,o,i,j,g,u,v)/\Lo lt key a b o i j/\i+1<a.size/\j<b.size/\x+2+y<=i+j)
    (Q:=fun c k=>(∃ f,k=cu st f)/\((∃ r l,c=(some r,l)/\Res lt key a b r)\/∃ o i j g u v,c=(none,o,i,j,g,u,v)/\Lo lt key a b o i j/\i+1<a.size/\j<b.size/\x+2<=i+j)) ?s2 ?f2 ?i2) ?p2)
   case i2=>exact⟨⟨f,rfl⟩,o,i,j,_,u,v,rfl,C,w,B,by omega⟩
   case f2=>
    rintro c k ⟨_,o,i,j,g,u,v,rfl,_,H,J,N⟩;exfalso;lia
   case p2=>
    rintro c k ⟨⟨f,rfl⟩,⟨r,l,rfl,z⟩|⟨o,i,j,g,u,v,rfl,C,w,B,D⟩⟩
    ·exact aV ⟨⟨f,rfl⟩,r,_,rfl,z⟩
    ·exact bD (pH (aV ⟨⟨_,rfl⟩,o,i,j,_,rfl,C,w,B,by omega⟩))
   case s2=>
    rintro y c k _ X ⟨⟨f,rfl⟩,o,i,j,g,u,v,rfl,q,w,B,D⟩;dsimp only[loG];by_cases T:g>1
    ·rw[aL T];exact Zd (n:=x+2+y) e L t q w B D (fun r l z=>⟨⟨_,rfl⟩,.inl ⟨r,l,rfl,z⟩⟩) fun o i j c d m F G Z=>⟨⟨⟨_,rfl⟩,.inr ⟨o,i,j,_,c,d,rfl,m,F,G,by lia⟩⟩,⟨_,rfl⟩,o,i,j,_,c,d,rfl,m,F,G,by lia⟩
    ·rw[aJ T];exact Zd (n:=x+2+y) e L t q w B D (fun r l z=>⟨⟨_,rfl⟩,.inl ⟨r,l,rfl,z⟩⟩) fun o i j c d m F G Z=>⟨⟨⟨_,rfl⟩,.inr ⟨o,i,j,_,c,d,rfl,m,F,G,by lia⟩⟩,⟨_,rfl⟩,o,i,j,_,c,d,rfl,m,F,G,by lia⟩
end
end TS
end L2
namespace L2
open PySem PySem.Spec PyProof.Rows PySem.W
namespace TS
section
variable{α:Type}{lt:α->α->Bool}{M:Model}{A:Around}{E:Value->Shared->Prop}{s:Shared}{κ:SortKind}{key:Keyed->α}{a₀:Array Keyed}
section hi
variable{a b o:Array Keyed}{i j k p:Nat}
theorem o8(b:1<=i)(h:i<=a.size):(a.toList.take i).reverse=el a (i-1)::(a.toList.take (i-1)).reverse:=by
 obtain⟨n,rfl⟩:∃ n,i=n+1:=⟨i-1,by lia⟩
 rw[Nat.add_sub_cancel,List.take_add_one,ZX];have:=pY (xs:=a) (i:=n) (by lia);have e:a.toList[n]?=some (el a n):=by simpa using this
 rw[e];rfl
abbrev Ge(lt:α->α->Bool)(key:Keyed->α)(p q:Keyed):Prop:=Le lt key q p
abbrev Hi(lt:α->α->Bool)(key:Keyed->α)(a b o:Array Keyed)(i j:Nat):Prop:=Mg (Ge lt key) a.toList.reverse b.toList.reverse o.toList (a.toList.take i).reverse (b.toList.take j).reverse
theorem Hi.Kq(c:kY lt)(m:Hi lt key a b o i j)(f:1<=i)(k:i<=a.size)(g:1<=j)(l:j<=b.size)(h:lt (key (el b (j-1))) (key (el a (i-1)))=true):Hi lt key a b (o.push (el a (i-1))) (i-1) j:=by
 unfold Hi at m ⊢;rw[o8 f k] at m;rw[HN];refine m.tx fun q d=>?_
 have e:=m.sy;rw[o8 g l] at d e;rcases cZ.mp d with rfl|n
 ·exact Le.of c h
 ·exact Le.trans c ((rQ.mp e).1 q n) (Le.of c h)
theorem Hi.Fo(l:kY lt)(m:Hi lt key a b o i j)(e:1<=i)(g:i<=a.size)(f:1<=j)(k:j<=b.size)(h:lt (key (el b (j-1))) (key (el a (i-1)))=false):Hi lt key a b (o.push (el b (j-1))) i (j-1):=by
 unfold Hi at m ⊢;rw[o8 f k] at m;rw[HN];refine m.ty fun q c=>?_
 have d:=m.sx;rw[o8 e g] at c d;have h':Le lt key (el a (i-1)) (el b (j-1)):=h;rcases cZ.mp c with rfl|n
 ·exact h'
 ·exact Le.trans l ((rQ.mp d).1 q n) h'
theorem Sw(b:p<=i):(a.toList.take i).reverse=((a.toList.drop p).take (i-p)).reverse++(a.toList.take p).reverse:=by
 rw[<- ZX];congr 1;have:=List.take_add (l:=a.toList) (i:=p) (j:=i-p);rwa[show p+(i-p)=i by lia] at this
theorem Q8(b:p<=i):((a.extract p i).reverse).toList=((a.toList.drop p).take (i-p)).reverse:=by
 rw[Hu];congr 1;have:=kZ (a:=a) (i:=p) (k:=i-p);rwa[show p+(i-p)=i by lia] at this
theorem Hi.Lh(f:kY lt)(m:Hi lt key a b o i j)(d:p<=i)(s:i<=a.size)(k:1<=j)(l:j<=b.size)(h:∀ t,p<=t->t<i->bv lt key false (el b (j-1)) (el a t)=false):Hi lt key a b (o++(a.extract p i).reverse) p j:=by
 unfold Hi at m ⊢;rw[lW,Q8 d];rw[Sw d] at m;refine m.cx _ fun u n q e=>?_
 have g:=m.sy;rw[o8 k l] at e g;obtain⟨t,v,rfl⟩:=tD (by lia) (HX.mp n);have h1:=h (p+t) (by lia) (by lia);have h':Le lt key (el b (j-1)) (el a (p+t)):=by
  rw[bvF] at h1;cases c:lt (key (el b (j-1))) (key (el a (p+t)))
  ·rw[c] at h1;cases h1
  ·exact Le.of f c
 rcases cZ.mp e with rfl|r
 ·exact h'
 ·exact Le.trans f ((rQ.mp g).1 q r) h'
theorem Hi.Li(l:kY lt)(m:Hi lt key a b o i j)(c:p<=j)(r:j<=b.size)(f:1<=i)(g:i<=a.size)(h:∀ t,p<=t->t<j->bv lt key true (el a (i-1)) (el b t)=false):Hi lt key a b (o++(b.extract p j).reverse) i p:=by
 unfold Hi at m ⊢;rw[lW,Q8 c];rw[Sw c] at m;refine m.cy _ fun u k q d=>?_
 have e:=m.sx;rw[o8 f g] at d e;obtain⟨t,s,rfl⟩:=tD (by lia) (HX.mp k);have h':Le lt key (el a (i-1)) (el b (p+t)):=by
  have:=h (p+t) (by lia) (by lia);rwa[bvT] at this
 rcases cZ.mp d with rfl|n
 ·exact h'
 ·exact Le.trans l ((rQ.mp e).1 q n) h'
theorem Gz{l:List Keyed}{r:Array Keyed}(e:r.toList=l.reverse)(h:l.Perm (a.toList.reverse++b.toList.reverse)/\l.Pairwise (Ge lt key)):Res lt key a b r:=by
 unfold Res;rw[e];refine⟨(Oz l).trans (h.1.trans ((Oz _).append (Oz _))),Oh.mpr h.2⟩
theorem Ua:(a.extract 0 i).toList=a.toList.take i:=by
 have:=kZ (a:=a) (i:=0) (k:=i);rwa[Dd,List.drop_zero] at this
theorem Hi.Ug(m:Hi lt key a b o i j)(c:i=0):Res lt key a b (a.extract 0 i++b.extract 0 j++o.reverse):=by
 unfold Hi at m;have e:(a.toList.take i).reverse=[]:=by rw[c];rfl
 rw[e] at m;refine Gz ?_ m.a4O;rw[lW,lW,Ua,Ua,Hu,c];simp
theorem Hi.Uh(m:Hi lt key a b o i j)(c:j=0):Res lt key a b (a.extract 0 i++b.extract 0 j++o.reverse):=by
 unfold Hi at m;have e:(b.toList.take j).reverse=[]:=by rw[c];rfl
 rw[e] at m;refine Gz ?_ m.a2P;rw[lW,lW,Ua,Ua,Hu,c];simp
theorem Hi.nif(d:kY lt)(t:Two lt key a₀ a b)(m:Hi lt key a b o i j)(h:j=1):Res lt key a b (b.extract 0 j++a.extract 0 i++o.reverse):=by
 unfold Hi at m;have p:=t.zb;have e:(b.toList.take j).reverse=[el b 0]:=by rw[h,o8 (bG _) p];simp
 rw[e] at m;have:=m.swap.last fun q l=>show Le lt key (el b 0) q from by
  obtain⟨n,k,rfl⟩:=Oj.mp (Cp (HX.mp l));have c:n<a.size:=by simpa using k
  have f:=pY c;rw[jG c] at f;rw[Ol,iy f];exact Le.trans d (Le.of d t.first) (yq t.sa d (nQ _) c)
 refine Gz ?_ ⟨this.1.trans Og,this.2⟩;rw[lW,lW,Ua,Ua,Hu];have g:b.toList.take j=[el b 0]:=by
  have:=congrArg List.reverse e;simpa using this
 rw[g];simp
end hi
abbrev Mh:=Option (Array Keyed)×Nat×Nat×Array Keyed×Nat×Nat×Nat
def hiU(a b:Array Keyed)(g c d:Nat)(o:Array Keyed)(i j:Nat):StateT SortSt Sem (ForInStep Mh):=do
 let w <- elem' a (i-1)
 if(i-1==0)=true then pure (.done (some (a.extract 0 (i-1)++b.extract 0 j++(o.push w).reverse),i-1,j,o.push w,g,c,d))
 else if(decide (c<7)&&decide (d<7))=true then pure (.done (none,i-1,j,o.push w,g,c,d))
 else pure (.yield (none,i-1,j,o.push w,g,c,d))
def hiT(a b:Array Keyed)(g c v:Nat)(o:Array Keyed)(i j:Nat):StateT SortSt Sem (ForInStep Mh):=do
 let w <- elem' b (j-1)
 if(j-1==1)=true then pure (.done (some (b.extract 0 (j-1)++a.extract 0 i++(o.push w).reverse),i,j-1,o.push w,g,c,v))
 else do
  let w1 <- elem' a (i-1)
  let x <- gal true w1 b 0 (j-1) (j-1-1)
  match x with
  |some p=>(if j-1-p>0 then
    (if(p==1)=true then pure (.done (some (b.extract 0 p++a.extract 0 i++(o.push w++(b.extract p (j-1)).reverse).reverse),i,p,o.push w++(b.extract p (j-1)).reverse,g,c,j-1-p))
    else if(p==0)=true then pure (.done (some (a.extract 0 i++b.extract 0 p++(o.push w++(b.extract p (j-1)).reverse).reverse),i,p,o.push w++(b.extract p (j-1)).reverse,g,c,j-1-p))
    else hiU a b g c (j-1-p) (o.push w++(b.extract p (j-1)).reverse) i p)
   else hiU a b g c (j-1-p) (o.push w) i (j-1))
  |_=>pure (.done (some (a.extract 0 i++b.extract 0 (j-1)++(o.push w).reverse),i,j-1,o.push w,g,c,v))
def hiS(a b:Array Keyed)(g u v:Nat)(o:Array Keyed)(i j:Nat):StateT SortSt Sem (ForInStep Mh):=do
 modify fun s=>cu s g
 let w <- elem' b (j-1)
 let x <- gal false w a 0 i (i-1)
 match x with
 |some p=>(if i-p>0 then
   (if(p==0)=true then pure (.done (some (a.extract 0 p++b.extract 0 j++(o++(a.extract p i).reverse).reverse),p,j,o++(a.extract p i).reverse,g,i-p,v))
   else hiT a b g (i-p) v (o++(a.extract p i).reverse) p j)
  else hiT a b g (i-p) v o i j)
 |_=>pure (.done (some (a.extract 0 i++b.extract 0 j++o.reverse),i,j,o,g,u,v))
def hiG(a b:Array Keyed)(_:Nat)(s:Mh):StateT SortSt Sem (ForInStep Mh):=
 if s.2.2.2.2.1>1 then hiS a b (s.2.2.2.2.1-1) s.2.2.2.2.2.1 s.2.2.2.2.2.2 s.2.2.2.1 s.2.1 s.2.2.1 else hiS a b s.2.2.2.2.1 s.2.2.2.2.2.1 s.2.2.2.2.2.2 s.2.2.2.1 s.2.1 s.2.2.1
abbrev Mi:=Option (Array Keyed)×Nat×Nat×Array Keyed×Nat×Nat
def hiF(a b:Array Keyed)(g:Nat)(_:Nat)(s:Mi):StateT SortSt Sem (ForInStep Mi):=do
 let x <- lt' (<- elem' b (s.2.2.1-1)) (<- elem' a (s.2.1-1))
 match x with
 |some w=>(if w=true then do
   let e <- elem' a (s.2.1-1)
   if(s.2.1-1==0)=true then pure (.done (some (a.extract 0 (s.2.1-1)++b.extract 0 s.2.2.1++(s.2.2.2.1.push e).reverse),s.2.1-1,s.2.2.1,s.2.2.2.1.push e,s.2.2.2.2.1+1,0))
   else if s.2.2.2.2.1+1>=g then pure (.done (none,s.2.1-1,s.2.2.1,s.2.2.2.1.push e,s.2.2.2.2.1+1,0))
   else pure (.yield (none,s.2.1-1,s.2.2.1,s.2.2.2.1.push e,s.2.2.2.2.1+1,0))
  else do
   let e <- elem' b (s.2.2.1-1)
   if(s.2.2.1-1==1)=true then pure (.done (some (b.extract 0 (s.2.2.1-1)++a.extract 0 s.2.1++(s.2.2.2.1.push e).reverse),s.2.1,s.2.2.1-1,s.2.2.2.1.push e,0,s.2.2.2.2.2+1))
   else if s.2.2.2.2.2+1>=g then pure (.done (none,s.2.1,s.2.2.1-1,s.2.2.2.1.push e,0,s.2.2.2.2.2+1))
   else pure (.yield (none,s.2.1,s.2.2.1-1,s.2.2.2.1.push e,0,s.2.2.2.2.2+1)))
 |_=>pure (.done (some (a.extract 0 s.2.1++b.extract 0 s.2.2.1++s.2.2.2.1.reverse),s.2.1,s.2.2.1,s.2.2.2.1,s.2.2.2.2.1,s.2.2.2.2.2))
abbrev Mj:=Option (Array Keyed)×Nat×Nat×Array Keyed×Nat
def hiM(a b:Array Keyed)(_:Nat)(s:Mj):StateT SortSt Sem (ForInStep Mj):=do
 let c <- forIn [0:a.size+b.size] (none,s.2.1,s.2.2.1,s.2.2.2.1,0,0) (hiF a b s.2.2.2.2)
 match c.1 with
 |some r=>pure (.done (some r,c.2.1,c.2.2.1,c.2.2.2.1,s.2.2.2.2))
 |none=>do
  (rule "list.sort.gallop" : Sem Unit)
  let z <- forIn [0:a.size+b.size] (none,c.2.1,c.2.2.1,c.2.2.2.1,s.2.2.2.2+1,c.2.2.2.2.1,c.2.2.2.2.2) (hiG a b)
  match z.1 with
  |some r=>pure (.done (some r,z.2.1,z.2.2.1,z.2.2.2.1,z.2.2.2.2.1))
  |none=>do
   modify fun s=>cu s (z.2.2.2.2.1+1)
   pure (.yield (none,z.2.1,z.2.2.1,z.2.2.2.1,z.2.2.2.2.1+1))
theorem a3l(a b:Array Keyed):mhi a b=(do
 (rule "list.sort.merge-hi" : Sem Unit)
 let w <- elem' a (a.size-1)
 if(a.size-1==0)=true then pure (a.extract 0 (a.size-1)++b.extract 0 b.size++#[w].reverse)
 else if(b.size==1)=true then pure (b.extract 0 b.size++a.extract 0 (a.size-1)++#[w].reverse)
 else do
  let st <- get
  let c <- forIn [0:a.size+b.size] (none,a.size-1,b.size,#[w],gallopOf st) (hiM a b)
  match c.1 with
  |some r=>pure r
  |none=>unsupported "internal:list.sort.merge-bound"):=by kernel_rfl
section
variable{a b o:Array Keyed}{st:SortSt}{i j g c d u v n:Nat}{P:ForInStep Mh->SortSt->Prop}
theorem Zc(e:Env M A s κ key lt a₀)(t:Two lt key a₀ a b)(m:Hi lt key a b o i j)(u:1<=i/\i<=a.size/\2<=j/\j<=b.size)(p:lt (key (el b (j-1))) (key (el a (i-1)))=true)(v:i+j<=n)(l:∀ r z,Res lt key a b r->P (.done (some r,z)) st)
  (k:∀ o i j c d,Hi lt key a b o i j->(1<=i/\i<=a.size/\2<=j/\j<=b.size)->i+j<n->P (.done (none,i,j,o,g,c,d)) st/\P (.yield (none,i,j,o,g,c,d)) st):wpS M A E s (hiU a b g c d o i j) P st:=by
 refine bD (iK (by lia) ?_);have h:=m.Kq e.o (by lia) (by lia) (by lia) (by lia) p;by_cases f:i-1=0
 ·rw[aL (by simpa using f)];exact aV (l _ _ (h.Ug f))
 rw[aJ (by simpa using f)];have q:=k _ _ _ c d h (by lia) (by lia);split
 ·exact aV q.1
 ·exact aV q.2
theorem Zb(e:Env M A s κ key lt a₀)(F:kindOf st=κ)(t:Two lt key a₀ a b)(m:Hi lt key a b o i j)(L:1<=i/\i<=a.size/\2<=j/\j<=b.size)(I:lt (key (el b (j-1))) (key (el a (i-1)))=false)(N:i+j<=n)(f:∀ r z,Res lt key a b r->P (.done (some r,z)) st)
  (y:∀ o i j c d,Hi lt key a b o i j->(1<=i/\i<=a.size/\2<=j/\j<=b.size)->i+j<n->P (.done (none,i,j,o,g,c,d)) st/\P (.yield (none,i,j,o,g,c,d)) st):wpS M A E s (hiT a b g c v o i j) P st:=by
 refine bD (iK (by lia) ?_);have w:=m.Fo e.o (by lia) (by lia) (by lia) (by lia) I;by_cases h:j-1=1
 ·rw[aL (by simpa using h)];exact aV (f _ _ (w.nif e.o t h))
 rw[aJ (by simpa using h)];refine bD (iK (by lia) (bD (yr e (st:=st) (b:=0) (n:=j-1) (t:=j-1-1) F (t.ma _ (jD (by lia))) (by lia) (fun q O=>t.mb _ (jD (by lia))) (by lia) (sG e.o fun p q R S=>yq t.sb e.o (by lia) (by lia)) ?_)));intro l Q G H;dsimp only;have C:1<=l->lt (key (el b (l-1))) (key (el a (i-1)))=true:=fun z=>by
  have:=G (l-1) (by lia);rw[bvT,Dd] at this;exact this
 by_cases B:j-1-l>0
 ·rw[aL B];have x:=w.Li (p:=l) e.o (by omega) (by lia) (by lia) (by lia) (fun t J K=>by have:=H t J K;rwa[Dd] at this);by_cases k:l=1
  ·rw[aL (by simpa using k)];exact aV (f _ _ (x.nif e.o t k))
  rw[aJ (by simpa using k)];by_cases u:l=0
  ·rw[aL (by simpa using u)];exact aV (f _ _ (x.Uh u))
  rw[aJ (by simpa using u)];exact Zc e t x (by lia) (C (by lia)) (by lia) f y
 ·rw[aJ B];have D:=C (by lia);rw[show l=j-1 by lia] at D;exact Zc e t w (by lia) D (by lia) f y
theorem Za(e:Env M A s κ key lt a₀)(f:kindOf st=κ)(t:Two lt key a₀ a b)(m:Hi lt key a b o i j)(C:1<=i/\i<=a.size/\2<=j/\j<=b.size)(F:i+j<=n)(h:∀ r z,Res lt key a b r->P (.done (some r,z)) (cu st g))
  (l:∀ o i j c d,Hi lt key a b o i j->(1<=i/\i<=a.size/\2<=j/\j<=b.size)->i+j<n->P (.done (none,i,j,o,g,c,d)) (cu st g)/\P (.yield (none,i,j,o,g,c,d)) (cu st g)):wpS M A E s (hiS a b g u v o i j) P st:=by
 refine bD (pH (bD (iK (by lia) (bD (yr e (st:=cu st g) (b:=0) (n:=i) (t:=i-1) f (t.mb _ (jD (by lia))) (by lia) (fun q L=>t.ma _ (jD (by lia))) (by lia) (sG e.o fun p q N O=>yq t.sa e.o (by lia) (by lia)) ?_)))));intro k G H I;dsimp only;have x:1<=k->lt (key (el b (j-1))) (key (el a (k-1)))=false:=fun z=>by
  have:=H (k-1) (by lia);rw[bvF,Dd] at this;cases D:lt (key (el b (j-1))) (key (el a (k-1)))
  ·rfl
  ·rw[D] at this;cases this
 by_cases w:i-k>0
 ·rw[aL w];have B:=m.Lh (p:=k) e.o G (by lia) (by lia) (by lia) (fun t J K=>by have:=I t J K;rwa[Dd] at this);by_cases f1:k=0
  ·rw[aL (by simpa using f1)];exact aV (h _ _ (B.Ug f1))
  rw[aJ (by simpa using f1)];exact Zb e f t B (by lia) (x (by lia)) (by lia) h l
 ·rw[aJ w];have y:=x (by lia);rw[show k=i by lia] at y;exact Zb e f t m C y F h l
end
theorem a4u(e:Env M A s κ key lt a₀){st:SortSt}(H:kindOf st=κ){a b:Array Keyed}(t:Two lt key a₀ a b){Q:Array Keyed->SortSt->Prop}
  (h:∀ r g,Res lt key a b r->Q r (cu st g)):wpS M A E s (mhi a b) Q st:=by
 rw[a3l];have ea:∀ i,i<a.size->el a i∈a₀.toList:=fun i O=>t.ma _ (jD O)
 have S:∀ i,i<b.size->el b i∈a₀.toList:=fun i O=>t.mb _ (jD O)
 have Z:=t.za;have ac:=t.zb;have aa:∀ g,kindOf (cu st g)=κ:=fun _=>H
 refine bD (uL (yI ⟨rfl,?_⟩));refine bD (iK (by omega) ?_);have P:Hi lt key a b #[el a (a.size-1)] (a.size-1) b.size:=by
  have:Hi lt key a b #[] a.size b.size:=by
   refine⟨?_,List.Pairwise.nil,(fun p T=>by cases T),?_,?_⟩
   ·rw[Ck (by simp),Ck (by simp)];exact .refl _
   ·rw[Ck (by simp)];exact Oh.mpr t.sa
   ·rw[Ck (by simp)];exact Oh.mpr t.sb
  unfold Hi at this ⊢;rw[o8 Z (bG _)] at this;refine this.tx fun q U=>t.last q ?_
  exact Cp (HX.mp U)
 by_cases K:a.size-1=0
 ·rw[aL (by simpa using K)];exact aV (h _ (gallopOf st) (P.Ug K))
 rw[aJ (by simpa using K)];by_cases L:b.size=1
 ·rw[aL (by simpa using L)];exact aV (h _ (gallopOf st) (P.nif e.o t L))
 rw[aJ (by simpa using L)];refine bD (lO ?_);refine bD (jU (jT (I:=fun x c k=>(∃ f,k=cu st f)/\∃ o i j g,c=(none,i,j,o,g)/\Hi lt key a b o i j/\(1<=i/\i<=a.size/\2<=j/\j<=b.size)/\i+j+x+1<=a.size+b.size)
  (Q:=fun c k=>(∃ f,k=cu st f)/\∃ r l,c=(some r,l)/\Res lt key a b r) ?step ?fin ?init) ?post)
 case init=>exact⟨⟨gallopOf st,rfl⟩,_,_,_,_,rfl,P,by lia,by lia⟩
 case fin=>
  rintro c k ⟨_,o,i,j,g,rfl,_,F,J⟩;exfalso;lia
 case post=>
  rintro c k ⟨⟨f,rfl⟩,r,l,rfl,z⟩;exact aV (h r f z)
 case step=>
  rintro x c k _ ab ⟨⟨f,rfl⟩,o,i,j,g,rfl,X,F,J⟩;dsimp only[hiM];refine bD (jU (jT (I:=fun y c k=>(∃ f,k=cu st f)/\∃ o i j u v,c=(none,i,j,o,u,v)/\Hi lt key a b o i j/\(1<=i/\i<=a.size/\2<=j/\j<=b.size)/\i+j+x+1+y<=a.size+b.size)
   (Q:=fun c k=>(∃ f,k=cu st f)/\((∃ r l,c=(some r,l)/\Res lt key a b r)\/∃ o i j u v,c=(none,i,j,o,u,v)/\Hi lt key a b o i j/\(1<=i/\i<=a.size/\2<=j/\j<=b.size)/\i+j+x+2<=a.size+b.size)) ?s1 ?f1 ?i1) ?p1)
  case i1=>exact⟨⟨f,rfl⟩,o,i,j,0,0,rfl,X,F,by omega⟩
  case f1=>
   rintro c k ⟨_,o,i,j,u,v,rfl,_,F,J⟩;exfalso;lia
  case s1=>
   rintro y c k _ W ⟨⟨f,rfl⟩,o,i,j,u,v,rfl,C,B,N⟩;dsimp only[hiF];refine bD (iK (by lia) (bD (iK (by lia) (bD (Kw e (st:=cu st f) (S (j-1) (by lia)) (ea (i-1) (by lia)) H ?_)))));dsimp only;by_cases G:lt (key (el b (j-1))) (key (el a (i-1)))=true
   ·rw[aL G];refine bD (iK (by lia) ?_);have w:=C.Kq e.o (by lia) (by lia) (by lia) (by lia) G;by_cases f1:i-1=0
    ·rw[aL (by simpa using f1)];exact aV ⟨⟨f,rfl⟩,.inl ⟨_,_,rfl,w.Ug f1⟩⟩
    ·rw[aJ (by simpa using f1)];by_cases f2:u+1>=g
     ·rw[aL f2];exact aV ⟨⟨f,rfl⟩,.inr ⟨_,_,_,_,_,rfl,w,by lia,by lia⟩⟩
     ·rw[aJ f2];exact aV ⟨⟨f,rfl⟩,_,_,_,_,_,rfl,w,by lia,by lia⟩
   ·rw[aJ G];refine bD (iK (by lia) ?_);have w:=C.Fo e.o (by lia) (by lia) (by lia) (by lia) (Ds G);by_cases f1:j-1=1
    ·rw[aL (by simpa using f1)];exact aV ⟨⟨f,rfl⟩,.inl ⟨_,_,rfl,w.nif e.o t f1⟩⟩
    ·rw[aJ (by simpa using f1)];by_cases f2:v+1>=g
     ·rw[aL f2];exact aV ⟨⟨f,rfl⟩,.inr ⟨_,_,_,_,_,rfl,w,by lia,by lia⟩⟩
     ·rw[aJ f2];exact aV ⟨⟨f,rfl⟩,_,_,_,_,_,rfl,w,by lia,by lia⟩
  case p1=>
   rintro c k ⟨⟨f,rfl⟩,⟨r,l,rfl,z⟩|⟨o,i,j,u,v,rfl,C,B,N⟩⟩
   ·exact aV ⟨⟨f,rfl⟩,r,_,rfl,z⟩
   dsimp only;refine bD (uL (yI ⟨rfl,?_⟩));refine bD (jU (jT (I:=fun y c k=>(∃ f,k=cu st f)/\∃ o i j g u v,c=(none,i,j,o,g,u,v)/\Hi lt key a b o i j/\(1<=i/\i<=a.size/\2<=j/\j<=b.size)/\i+j+x+2+y<=a.size+b.size)
    (Q:=fun c k=>(∃ f,k=cu st f)/\((∃ r l,c=(some r,l)/\Res lt key a b r)\/∃ o i j g u v,c=(none,i,j,o,g,u,v)/\Hi lt key a b o i j/\(1<=i/\i<=a.size/\2<=j/\j<=b.size)/\i+j+x+2<=a.size+b.size)) ?s2 ?f2 ?i2) ?p2)
   case i2=>exact⟨⟨f,rfl⟩,o,i,j,_,u,v,rfl,C,B,by omega⟩
   case f2=>
    rintro c k ⟨_,o,i,j,g,u,v,rfl,_,F,J⟩;exfalso;lia
   case p2=>
    rintro c k ⟨⟨f,rfl⟩,⟨r,l,rfl,z⟩|⟨o,i,j,g,u,v,rfl,C,B,N⟩⟩
    ·exact aV ⟨⟨f,rfl⟩,r,_,rfl,z⟩
    ·exact bD (pH (aV ⟨⟨_,rfl⟩,o,i,j,_,rfl,C,B,by omega⟩))
   case s2=>
    rintro y c k _ W ⟨⟨f,rfl⟩,o,i,j,g,u,v,rfl,w,B,N⟩;dsimp only[hiG];by_cases R:g>1
    ·rw[aL R];exact Za (n:=a.size+b.size-(x+2+y)) e H t w B (by lia) (fun r l z=>⟨⟨_,rfl⟩,.inl ⟨r,l,rfl,z⟩⟩) fun o i j c d m D Y=>⟨⟨⟨_,rfl⟩,.inr ⟨o,i,j,_,c,d,rfl,m,D,by lia⟩⟩,⟨_,rfl⟩,o,i,j,_,c,d,rfl,m,D,by lia⟩
    ·rw[aJ R];exact Za (n:=a.size+b.size-(x+2+y)) e H t w B (by lia) (fun r l z=>⟨⟨_,rfl⟩,.inl ⟨r,l,rfl,z⟩⟩) fun o i j c d m D Y=>⟨⟨⟨_,rfl⟩,.inr ⟨o,i,j,_,c,d,rfl,m,D,by lia⟩⟩,⟨_,rfl⟩,o,i,j,_,c,d,rfl,m,D,by lia⟩
end
end TS
end L2
namespace L2
open PySem PySem.Spec PyProof.Rows PySem.W
namespace TS
theorem Mq(i:Nat):mergeAt' i=(do
 let c <- get
 let (some (p,n,w),some (q,m,_)):=((pendingOf c)[i]?,(pendingOf c)[i+1]?)|unsupported "internal:list.sort.pending"
 set (setPending c (((pendingOf c).setIfInBounds i (p,n+m,w)).eraseIdxIfInBounds (i+1)))
 let some k <- gal false (<- elem' (arrOf c) q) (arrOf c) p n 0|return false
 let (p,n):=(p+k,n-k)
 if n==0 then return true
 let some m <- gal true (<- elem' (arrOf c) (p+n-1)) (arrOf c) q m (m-1)|return false
 if m==0 then return true
 let x:=(arrOf c).extract p q
 let y:=(arrOf c).extract q (q+m)
 let r <- if n<=m then mlo x y else mhi x y
 modify fun c=>setArr c (r.toList.zipIdx.foldl (fun a (v,j)=>a.setIfInBounds (p+j) v) (arrOf c))
 return (failedOf (<- get)).isNone):=rfl
theorem d8{b:Type}(p:Nat):∀(l:List b)(n:Nat)(xs:Array b),p+n+l.length<=xs.size ->
  ((l.zipIdx n).foldl (fun a (x:b×Nat)=>a.setIfInBounds (p+x.2) x.1) xs).toList=xs.toList.take (p+n)++l++xs.toList.drop (p+n+l.length)
 |[],n,xs,h=>by simp
 |v::l,n,xs,h=>by
  rw[List.zipIdx_cons,zj];have e:p+n+(l.length+1)<=xs.size:=h;rw[d8 p l (n+1) _ (by rw[Array.size_setIfInBounds];lia)];dsimp only;rw[Zm];have c:(xs.toList.set (p+n) v).take (p+(n+1))=xs.toList.take (p+n)++[v]:=by
   rw[<- Nat.add_assoc,List.take_add_one,List.take_set_of_le (bG _),Ho (by simp;lia)];rfl
  have d:(xs.toList.set (p+n) v).drop (p+(n+1)+l.length)=xs.toList.drop (p+n+(v::l).length):=by
   rw[List.drop_set_of_lt (by lia)];congr 1;simp;lia
  rw[c,d];simp
def over(xs:Array Keyed)(p:Nat)(r:Array Keyed):Array Keyed:=r.toList.zipIdx.foldl (fun a (x:Keyed×Nat)=>a.setIfInBounds (p+x.2) x.1) xs
theorem yP{xs r:Array Keyed}{p:Nat}(h:p+r.size<=xs.size):(over xs p r).toList=xs.toList.take p++r.toList++xs.toList.drop (p+r.size):=by
 have:=d8 p r.toList 0 xs (by simpa using h);simpa [over] using this
theorem zE{xs:Array Keyed}{i:Nat}:el xs i=xs.toList.getD i (Value.none,Value.none):=by
 unfold el;rw[o9,eE,Ft]
theorem Gi{xs r:Array Keyed}{p k:Nat}(h:p+r.size<=xs.size):el (over xs p r) k=if p<=k/\k<p+r.size then el r (k-p) else el xs k:=by
 rw[zE,yP h,zE,zE];simp only[eE];have a:(xs.toList.take p).length=p:=by simp;lia
 by_cases h1:k<p
 ·rw[aJ (by lia),z9,KC (by lia),Zo h1]
 ·by_cases h2:k<p+r.size
  ·rw[aL (by lia),z9,Di (by lia),a,KC (by simp;lia)]
  ·rw[aJ (by lia),Di (by simp;lia)];congr 1;rw[cL,a,List.getElem?_drop,nM];congr 1;lia
theorem Vc{xs r:Array Keyed}{p:Nat}(h:p+r.size<=xs.size)(a:r.toList.Perm ((xs.toList.drop p).take r.size)):(over xs p r).Perm xs:=by
 rw[Array.perm_iff_toList_perm,yP h];have e:xs.toList=xs.toList.take p++(xs.toList.drop p).take r.size++xs.toList.drop (p+r.size):=by
  rw[<- Ia,z9,Dj,Dj]
 conv=>rhs;rw[e]
 exact((a.append_left _).append_right _)
theorem Wm{xs:Array Keyed}{i j t:Nat}(a:j<=xs.size)(ht:t<j-i):el (xs.extract i j) t=el xs (i+t):=by
 refine oV ?_;rw[Array.getElem?_extract,aL (by lia)]
section
variable{α:Type}{lt:α->α->Bool}{M:Model}{A:Around}{E:Value->Shared->Prop}{s:Shared}{κ:SortKind}{key:Keyed->α}{a₀:Array Keyed}
theorem pw_of{a:Array Keyed}(h:∀ i j,i<j->j<a.size->Le lt key (el a i) (el a j)):a.toList.Pairwise (Le lt key):=by
 rw[yZ];intro i j g f e;have d:j<a.size:=by simpa using f
 have b:=pY (xs:=a) (i:=i) (by omega);have c:=pY d;rw[jG (by omega)] at b c;rw[Ol,Ol,iy b,iy c];exact h i j e d
theorem a4w{zzs:Type}{x:zzs}{Q:PUnit->zzs->Prop}{st:zzs}(h:Q ⟨⟩ x):wpS M A E s (set x:StateT zzs Sem PUnit) Q st:=by
 unfold wpS;rw[StateT.run_set];exact c7 ⟨rfl,h⟩
theorem a5V(e:Env M A s κ key lt a₀){st:SortSt}(ao:kindOf st=κ)(an:failedOf st=none)(J:(arrOf st).Perm a₀){i p n w q m w':Nat}{L1 L2:List (Nat×Nat×Nat)}
  (W:(pendingOf st).toList=L1++(p,n,w)::(q,m,w')::L2) (N:L1.length=i) (aB:q=p+n) (aA:1<=n) (az:1<=m) (hz:q+m<=a₀.size) (s1:Srt lt key (arrOf st) p (p+n)) (s2:Srt lt key (arrOf st) q (q+m)) {Q:Bool->SortSt->Prop}
  (h:∀ xs g,xs.Perm a₀->(∀ k,k<p\/q+m<=k->el xs k=el (arrOf st) k)->Srt lt key xs p (q+m)->Q true (SortSt.mk' (kindOf st) xs (L1++(p,n+m,w)::L2).toArray g (failedOf st))):wpS M A E s (mergeAt' i) Q st:=by
 rw[Mq];have sz:(arrOf st).size=a₀.size:=J.size_eq;have al:(pendingOf st)[i]?=some (p,n,w):=by
  rw[<- Ft,W,Di (by lia),N,Nat.sub_self];rfl
 have am:(pendingOf st)[i+1]?=some (q,m,w'):=by
  rw[<- Ft,W,Di (by lia),N,show i+1-i=1 by lia];rfl
 refine bD (lO ?_);rw[al,am];have ak:((pendingOf st).setIfInBounds i (p,n+m,w)).eraseIdxIfInBounds (i+1)=(L1++(p,n+m,w)::L2).toArray:=by
  apply P0.mp;rw[Array.toList_eraseIdxIfInBounds,Zm,W];rw[List.set_append_right _ _ (by lia),N,Nat.sub_self,List.eraseIdx_append_of_length_le (by lia),N,show i+1-i=1 by lia];rfl
 refine bD (a4w ?_);rw[ak];have O:∀ P,kindOf (setPending st P)=κ:=fun _=>ao
 have ea:∀ t,t<a₀.size->el (arrOf st) t∈a₀.toList:=fun t f=>Bm J f
 refine bD (iK (by lia) (bD (yr e (st:=setPending st _) (b:=p) (n:=n) (t:=0) (O _) (ea q (by lia)) (by lia) (fun t f=>ea _ (by lia)) (by lia) (sG e.o fun u v h1 h2=>s1 _ _ (by lia) (by lia) (by lia)) ?_)));intro k aE aq ar;dsimp only;have S:∀ t,p<=t->t<p+k->Le lt key (el (arrOf st) t) (el (arrOf st) q):=fun t aw ax=>by
  have:=aq (t-p) (by lia);rw[bvF,show p+(t-p)=t by lia] at this;unfold Le;cases X:lt (key (el (arrOf st) q)) (key (el (arrOf st) t))
  ·rfl
  ·rw[X] at this;cases this
 by_cases ab:n-k=0
 ·rw[aL (by simpa using ab)];refine aV (h (arrOf st) (gallopOf st) J (fun _ _=>rfl) fun u v h1 h2 z=>?_);by_cases B:v<p+n
  ·exact s1 u v h1 h2 B
  ·by_cases G:u<q
   ·exact Le.trans e.o (S u h1 (by lia)) (s2 q v (bG _) (by lia) z)
   ·exact s2 u v (by lia) h2 z
 rw[aJ (by simpa using ab)];have aj:p+k+(n-k)-1=q-1:=by lia
 rw[aj];refine bD (iK (by omega) (bD (yr e (st:=setPending st _) (b:=q) (n:=m) (t:=m-1) (O _) (ea (q-1) (by omega)) (by lia) (fun t f=>ea _ (by lia)) (by lia) (sG e.o fun u v h1 h2=>s2 _ _ (by lia) (by lia) (by lia)) ?_)));intro l aF as au;dsimp only;have aa:∀ t,q+l<=t->t<q+m->Le lt key (el (arrOf st) (q-1)) (el (arrOf st) t):=fun t aw ax=>by
  have:=au (t-q) (by lia) (by lia);rw[bvT,show q+(t-q)=t by lia] at this;exact this
 by_cases ac:l=0
 ·rw[aL (by simpa using ac)];refine aV (h (arrOf st) (gallopOf st) J (fun _ _=>rfl) fun u v h1 h2 z=>?_);by_cases B:v<p+n
  ·exact s1 u v h1 h2 B
  ·by_cases G:u<q
   ·exact Le.trans e.o (s1 u (q-1) h1 (by omega) (by omega)) (aa v (by lia) z)
   ·exact s2 u v (by lia) h2 z
 rw[aJ (by simpa using ac)];have ah:((arrOf st).extract (p+k) q).size=n-k:=by rw[a04];lia
 have ay:((arrOf st).extract q (q+l)).size=l:=by rw[a04];lia
 have K:∀ t,t<n-k->el ((arrOf st).extract (p+k) q) t=el (arrOf st) (p+k+t):=fun t f=>Wm (by lia) (by lia)
 have T:∀ t,t<l->el ((arrOf st).extract q (q+l)) t=el (arrOf st) (q+t):=fun t f=>Wm (by lia) (by lia)
 have ae:∀ x∈((arrOf st).extract (p+k) q).toList,∃ t,t<n-k/\x=el (arrOf st) (p+k+t):=fun x C=>by
  have I:=kZ (a:=arrOf st) (i:=p+k) (k:=n-k);rw[show p+k+(n-k)=q by lia] at I;rw[I] at C;exact tD (by omega) C
 have Y:∀ x∈((arrOf st).extract q (q+l)).toList,∃ t,t<l/\x=el (arrOf st) (q+t):=fun x C=>by
  rw[kZ] at C;exact tD (by lia) C
 have ag:Two lt key a₀ ((arrOf st).extract (p+k) q) ((arrOf st).extract q (q+l)):=by
  refine⟨fun x C=>?_,fun x C=>?_,pw_of fun u v h1 h2=>?_,pw_of fun u v h1 h2=>?_,by lia,by lia,?_,fun y ap=>?_⟩
  ·obtain⟨t,f,rfl⟩:=ae x C;exact ea _ (by lia)
  ·obtain⟨t,f,rfl⟩:=Y x C;exact ea _ (by lia)
  ·rw[K u (by lia),K v (by lia)];exact s1 _ _ (by lia) (by lia) (by omega)
  ·rw[T u (by lia),T v (by lia)];exact s2 _ _ (by lia) (by lia) (by lia)
  ·rw[K 0 (by lia),T 0 (by lia)];have:=ar k (bG _) (by lia);rw[bvF] at this;rw[Ik,Ik];cases X:lt (key (el (arrOf st) q)) (key (el (arrOf st) (p+k)))
   ·rw[X] at this;cases this
   ·rfl
  ·obtain⟨t,f,rfl⟩:=Y y ap;rw[ah,K _ (by lia),show p+k+(n-k-1)=q-1 by lia];have:=as t (by omega);rw[bvT] at this;exact Le.of e.o this
 have done:∀ r g,Res lt key ((arrOf st).extract (p+k) q) ((arrOf st).extract q (q+l)) r->wpS M A E s (do modify fun c=>setArr c (r.toList.zipIdx.foldl (fun a (v,j)=>a.setIfInBounds (p+k+j) v) (arrOf c));return (failedOf (<- get)).isNone) Q (cu (setPending st (L1++(p,n+m,w)::L2).toArray) g):=fun r g D=>by
  refine bD (pH (bD (lO ?_)));have ai:(failedOf (setArr (cu (setPending st (L1++(p,n+m,w)::L2).toArray) g) (over (arrOf st) (p+k) r))).isNone=true:=by
   show(failedOf st).isNone=true;rw[an];rfl
  change wpS M A E s (pure (failedOf (setArr (cu (setPending st (L1++(p,n+m,w)::L2).toArray) g) (over (arrOf st) (p+k) r))).isNone) Q (setArr (cu (setPending st (L1++(p,n+m,w)::L2).toArray) g) (over (arrOf st) (p+k) r));rw[ai];have av:r.size=n-k+l:=by
   have:=D.1.length_eq;rw[cL,nM,nM,nM,ah,ay] at this;exact this
  have L:p+k+r.size<=(arrOf st).size:=by lia
  have pm:(over (arrOf st) (p+k) r).Perm a₀:=by
   refine(Vc L (D.1.trans ?_)).trans J;have I:=kZ (a:=arrOf st) (i:=p+k) (k:=n-k);rw[show p+k+(n-k)=q by lia] at I;rw[I,kZ,av,List.take_add,Ia,show p+k+(n-k)=q by lia]
  have af:∀ t,t<r.size->(∃ d,p+k<=d/\d<q/\el r t=el (arrOf st) d)\/(∃ d,q<=d/\d<q+l/\el r t=el (arrOf st) d):=fun t f=>by
   rcases cG.mp (D.1.mem_iff.mp (jD f)) with Z|Z
   ·obtain⟨u,G,U⟩:=ae _ Z;exact .inl ⟨p+k+u,by lia,by lia,U⟩
   ·obtain⟨u,G,U⟩:=Y _ Z;exact .inr ⟨q+u,by lia,by lia,U⟩
  refine aV (h (over (arrOf st) (p+k) r) g pm (fun t f=>?_) fun u v h1 h2 z=>?_)
  ·rw[Gi L,aJ (by lia)]
  ·show Le lt key (el (over (arrOf st) (p+k) r) u) (el (over (arrOf st) (p+k) r) v);rw[Gi L,Gi L];by_cases G:u<p+k
   ·rw[aJ (by lia)];by_cases B:p+k<=v/\v<p+k+r.size
    ·rw[aL B];rcases af (v-(p+k)) (by lia) with⟨d,H,R,F⟩|⟨d,H,R,F⟩
     ·rw[F];exact s1 _ _ h1 (by lia) (by lia)
     ·rw[F];exact Le.trans e.o (S u h1 G) (s2 _ _ (bG _) H (by lia))
    ·rw[aJ B];by_cases aD:v<p+k
     ·exact s1 _ _ h1 h2 (by lia)
     ·exact Le.trans e.o (S u h1 G) (s2 _ _ (bG _) (by lia) z)
   ·by_cases aC:u<p+k+r.size
    ·rw[aL (by lia)];by_cases B:p+k<=v/\v<p+k+r.size
     ·rw[aL B];exact yq D.2 e.o (by lia) (by lia)
     ·rw[aJ B];rcases af (u-(p+k)) (by lia) with⟨d,H,R,F⟩|⟨d,H,R,F⟩
      ·rw[F];exact Le.trans e.o (s1 d (q-1) (by lia) (by lia) (by lia)) (aa v (by lia) z)
      ·rw[F];exact s2 _ _ H (by lia) z
    ·rw[aJ (by lia),aJ (by lia)];exact s2 _ _ (by lia) h2 z
 by_cases ad:n-k<=l
 ·rw[aL ad];exact bD (a4v e (st:=setPending st _) (O _) ag fun r g D=>done r g D)
 ·rw[aJ ad];exact bD (a4u e (st:=setPending st _) (O _) ag fun r g D=>done r g D)
end
end TS
end L2
namespace L2
open PySem PySem.Spec PyProof.Rows PySem.W
namespace TS
section
variable{α:Type}{lt:α->α->Bool}{M:Model}{A:Around}{E:Value->Shared->Prop}{s:Shared}{κ:SortKind}{key:Keyed->α}{a₀:Array Keyed}
def Runs(lt:α->α->Bool)(key:Keyed->α)(xs:Array Keyed):Nat->List (Nat×Nat×Nat)->Nat->Prop
 |a,[],b=>a=b
 |a,r::l,b=>r.1=a/\1<=r.2.1/\Srt lt key xs a (a+r.2.1)/\Runs lt key xs (a+r.2.1) l b
theorem Runs.le{xs:Array Keyed}:∀ {l:List (Nat×Nat×Nat)} {a b:Nat},Runs lt key xs a l b->a+l.length<=b
 |[],a,b,h=>by cases h;simp
 |r::l,a,b,h=>by
  have:=Runs.le h.2.2.2;have:=h.2.1;simp;lia
theorem Runs.congr{xs c:Array Keyed}:∀ {l:List (Nat×Nat×Nat)} {a b:Nat},Runs lt key xs a l b->(∀ k,a<=k->k<b->el c k=el xs k)->Runs lt key c a l b
 |[],a,b,h,_=>h
 |r::l,a,b,h,e=>by
  have f:=h.2.2.2.le;refine⟨h.1,h.2.1,fun p q h1 h2 d=>?_,Runs.congr h.2.2.2 fun k h1 h2=>e k (by lia) h2⟩;rw[e p (by omega) (by lia),e q (by lia) (by lia)];exact h.2.2.1 p q h1 h2 d
theorem Runs.app{xs:Array Keyed}:∀ {l d:List (Nat×Nat×Nat)} {a b:Nat},Runs lt key xs a (l++d) b↔∃ c,Runs lt key xs a l c/\Runs lt key xs c d b
 |[],d,a,b=>⟨fun h=>⟨a,rfl,h⟩,fun⟨c,h1,h2⟩=>by cases h1;exact h2⟩
 |r::l,d,a,b=>by
  constructor
  ·intro h;obtain⟨c,h1,h2⟩:=Runs.app.mp h.2.2.2;exact⟨c,⟨h.1,h.2.1,h.2.2.1,h1⟩,h2⟩
  ·rintro⟨c,⟨h1,h2,e,f⟩,g⟩;exact⟨h1,h2,e,Runs.app.mpr ⟨c,f,g⟩⟩
abbrev mkS(st:SortSt)(xs:Array Keyed)(L:List (Nat×Nat×Nat))(g:Nat):SortSt:=SortSt.mk' (kindOf st) xs L.toArray g (failedOf st)
theorem NZ(e:Env M A s κ key lt a₀){st:SortSt}(b:kindOf st=κ)(D:failedOf st=none){xs:Array Keyed}(G:xs.Perm a₀){L:List (Nat×Nat×Nat)}{g i lo:Nat}(O:i+1<L.length)(B:Runs lt key xs 0 L lo)(hz:lo<=a₀.size){Q:Bool->SortSt->Prop}
  (h:∀ d f g',d.Perm a₀->Runs lt key d 0 f lo->f.length+1=L.length->(∀ k,lo<=k->el d k=el xs k)->Q true (mkS st d f g')):wpS M A E s (mergeAt' i) Q (mkS st xs L g):=by
 have a:L=L.take i++(L[i]::L[i+1]::L.drop (i+2)):=by
  rw[<- yX,<- yX,Dj]
 generalize P:L[i]=x at a;generalize R:L[i+1]=y at a;generalize h1:L.take i=L1 at a;generalize h2:L.drop (i+2)=L2 at a;obtain⟨p,n,w⟩:=x;obtain⟨q,m,N⟩:=y;have F:L1.length=i:=by rw[<- h1,u6];lia
 rw[a] at B;obtain⟨c,C,K⟩:=Runs.app.mp B;obtain⟨o,r,t,u,v,z,l⟩:=K;dsimp only at o r t u v z l;subst o;subst u;have S:=C.le;have T:=l.le;refine a5V e (st:=mkS st xs L g) (L1:=L1) (L2:=L2) (p:=p) (n:=n) (w:=w) (q:=p+n) (m:=m) (w':=N) b D G (by show L.toArray.toList=_;rw[List.toList_toArray];exact a) F rfl r v (by lia) t z ?_;intro ys g' H I J;have j:∀ k,k<p\/p+n+m<=k->el ys k=el xs k:=I;refine h ys _ g' H (Runs.app.mpr ⟨p,C.congr fun k _ b=>j k (.inl b),rfl,(show 1<=n+m by lia),?_,?_⟩) ?_ fun k b=>j k (.inr (by lia))
 ·have:p+(n+m)=p+n+m:=by lia
  show Srt lt key ys p (p+(n+m));rw[this];exact J
 ·show Runs lt key ys (p+(n+m)) L2 lo;have:p+(n+m)=p+n+m:=by lia
  rw[this];exact l.congr fun k b _=>j k (.inr b)
 ·rw[a];simp;lia
theorem Runs.modify{xs:Array Keyed}{f:Nat×Nat×Nat->Nat×Nat×Nat}(c:∀ x,(f x).1=x.1)(d:∀ x,(f x).2.1=x.2.1):∀ {l:List (Nat×Nat×Nat)} {k a b:Nat},Runs lt key xs a l b->Runs lt key xs a (l.modify k f) b
 |[],k,a,b,h=>by simpa using h
 |r::l,0,a,b,h=>by
  rw[List.modify_zero_cons];unfold Runs at h ⊢;rw[c,d];exact h
 |r::l,k+1,a,b,h=>by
  rw[List.modify_succ_cons];exact⟨h.1,h.2.1,h.2.2.1,Runs.modify c d h.2.2.2⟩
theorem a1S(e:Env M A s κ key lt a₀){st:SortSt}(m:kindOf st=κ)(Y:failedOf st=none)(aj:arrOf st=a₀)(ap:pendingOf st=#[]){Q:Unit->SortSt->Prop}
  (h:∀ i,(arrOf i).Perm a₀->failedOf i=none->Srt lt key (arrOf i) 0 a₀.size->Q () i):wpS M A E s sortRuns' Q st:=by
 rw[sortRuns'_eq];refine bD (lO ?_);rw[aj];dsimp only;generalize minRun' a₀.size a₀.size 0=mr;refine bD (jU (jT (I:=fun x c i=>∃ xs L g b,i=mkS st xs L g/\c=(none,b)/\xs.Perm a₀/\Runs lt key xs 0 L b/\b<=a₀.size/\(x<=b\/b=a₀.size))
  (Q:=fun c i=>∃ xs L g,i=mkS st xs L g/\c=(none,a₀.size)/\xs.Perm a₀/\Runs lt key xs 0 L a₀.size) ?step ?fin ?init) ?post)
 case init=>
  refine⟨a₀,[],gallopOf st,0,?_,rfl,.refl _,rfl,by lia,.inl (bG _)⟩;show st=SortSt.mk' (kindOf st) a₀ #[] (gallopOf st) (failedOf st);rw[<- aj,<- ap]
 case fin=>
  rintro c i ⟨xs,L,g,b,rfl,rfl,o,j,P,am⟩;have:b=a₀.size:=by lia
  subst this;exact⟨xs,L,g,rfl,rfl,o,j⟩
 case step=>
  rintro x c i _ as ⟨xs,L,g,b,rfl,rfl,o,j,P,am⟩;dsimp only;by_cases ak:b>=a₀.size
  ·rw[aL ak];have:b=a₀.size:=by lia
   subst this;exact aV ⟨xs,L,g,rfl,rfl,o,j⟩
  rw[aJ ak];refine bD (Z8 e (st:=mkS st xs L g) m o (by lia) (by lia) ?_);intro n ys p1 p2 ag au ah;dsimp only;have F:Low ys xs b:=p2;by_cases Z:n<mr
  ·rw[aL Z];refine bD (uL (yI ⟨rfl,?_⟩));refine bD (a4t e (st:=mkS st ys L g) m p1 ag (by lia) (by lia) ah fun zs J al X=>?_);rw[aJ (by decide)];have W:1<=min (a₀.size-b) mr:=by lia
   have K:b+min (a₀.size-b) mr<=a₀.size:=by lia
   have N:Runs lt key zs 0 L b:=j.congr fun k _ m=>(al.trans F) k m
   show wpS M A E s _ _ (mkS st zs L g);clear p2 F ah al Z ag au p1;generalize min (a₀.size-b) mr=n at W K X ⊢;have snoc:∀(ys:Array Keyed)(a:List (Nat×Nat×Nat)),Runs lt key ys 0 a b->(∀ k,b<=k->el ys k=el zs k)->Runs lt key ys 0 (a++[(b,n,0)]) (b+n):=fun ys a F S=>
    Runs.app.mpr ⟨b,F,rfl,W,fun p q h1 h2 ae=>by rw[S p h1,S q (by lia)];exact X p q h1 h2 ae,rfl⟩
   have U:∀(ys:Array Keyed)(a:List (Nat×Nat×Nat))(d:Nat),setPending (mkS st ys a d) ((pendingOf (mkS st ys a d)).push (b,n,0))=mkS st ys (a++[(b,n,0)]) d:=fun ys a d=>by
    show SortSt.mk' _ _ (a.toArray.push (b,n,0)) _ _=_;rw[List.push_toArray]
   refine bD (lO ?_);have G:∀(ys:Array Keyed)(a:List (Nat×Nat×Nat))(d:Nat),pendingOf (mkS st ys a d)=a.toArray:=fun _ _ _=>rfl
   rw[G];cases aq:L.toArray.back? with
   |none=>
    dsimp only;refine bD (pH (aV ?_));rw[U];exact⟨zs,_,g,b+n,rfl,rfl,J,snoc zs L N (fun _ _=>rfl),K,.inl (by lia)⟩
   |some H=>
    obtain⟨u,v,w⟩:=H;dsimp only;refine bD (jU (jT (I:=fun x c i=>∃ ys a d,i=mkS st ys a d/\c=(none,())/\ys.Perm a₀/\Runs lt key ys 0 a b/\(∀ k,b<=k->el ys k=el zs k))
     (Q:=fun c i=>∃ ys a d,i=mkS st ys a d/\c=(none,())/\ys.Perm a₀/\Runs lt key ys 0 a b/\(∀ k,b<=k->el ys k=el zs k)) ?sti (fun _ _ H=>H) ⟨zs,L,g,rfl,rfl,J,N,fun _ _=>rfl⟩) ?poi)
    case sti=>
     rintro y c i _ F ⟨ys,a,d,rfl,rfl,z,B,C⟩;refine bD (lO ?_);rw[G,cJ];by_cases D:a.length>1
     ·rw[aL D,Hs,iM (by lia)];generalize a[a.length-2]=t;obtain⟨av,aw,ai⟩:=t;dsimp only;by_cases T:ai<=power' a₀.size (2*u+v) (2*u+v+v+n) a₀.size
      ·rw[aL T];exact aV ⟨ys,a,d,rfl,rfl,z,B,C⟩
      ·rw[aJ T];refine bD (NZ e m Y z (by lia) B (by omega) fun zs O R aa ab an ac=>?_);exact aV ⟨zs,O,R,rfl,rfl,aa,ab,fun k m=>(ac k m).trans (C k m)⟩
     ·rw[aJ D];exact aV ⟨ys,a,d,rfl,rfl,z,B,C⟩
    case poi=>
     rintro c i ⟨ys,a,d,rfl,rfl,z,B,C⟩;dsimp only;refine bD (pH (bD (pH (aV ?_))));generalize power' a₀.size (2*u+v) (2*u+v+v+n) a₀.size=pw;have ad:setPending (mkS st ys a d) ((pendingOf (mkS st ys a d)).modify ((pendingOf (mkS st ys a d)).size-1) fun x=>(x.1,x.2.1,pw))=mkS st ys (a.modify (a.length-1) fun x=>(x.1,x.2.1,pw)) d:=by
      show SortSt.mk' _ _ (a.toArray.modify (a.toArray.size-1) fun x=>(x.1,x.2.1,pw)) _ _=_;rw[a00,cJ]
     rw[ad,U];exact⟨ys,_,d,b+n,rfl,rfl,z,snoc ys _ (Runs.modify (f:=fun x=>(x.1,x.2.1,pw)) (fun _=>rfl) (fun _=>rfl) B) C,K,.inl (by lia)⟩
  ·rw[aJ Z];have N:Runs lt key ys 0 L b:=j.congr fun k _ m=>F k m
   have K:b+n<=a₀.size:=by lia
   show wpS M A E s _ _ (mkS st ys L g);clear Z F p2;have X:=ah;have W:=ag;have J:=p1;generalize ys=zs at J W X N ⊢;have snoc:∀(ys:Array Keyed)(a:List (Nat×Nat×Nat)),Runs lt key ys 0 a b->(∀ k,b<=k->el ys k=el zs k)->Runs lt key ys 0 (a++[(b,n,0)]) (b+n):=fun ys a F S=>
    Runs.app.mpr ⟨b,F,rfl,W,fun p q h1 h2 ae=>by rw[S p h1,S q (by lia)];exact X p q h1 h2 ae,rfl⟩
   have U:∀(ys:Array Keyed)(a:List (Nat×Nat×Nat))(d:Nat),setPending (mkS st ys a d) ((pendingOf (mkS st ys a d)).push (b,n,0))=mkS st ys (a++[(b,n,0)]) d:=fun ys a d=>by
    show SortSt.mk' _ _ (a.toArray.push (b,n,0)) _ _=_;rw[List.push_toArray]
   refine bD (lO ?_);have G:∀(ys:Array Keyed)(a:List (Nat×Nat×Nat))(d:Nat),pendingOf (mkS st ys a d)=a.toArray:=fun _ _ _=>rfl
   rw[G];cases aq:L.toArray.back? with
   |none=>
    dsimp only;refine bD (pH (aV ?_));rw[U];exact⟨zs,_,g,b+n,rfl,rfl,J,snoc zs L N (fun _ _=>rfl),K,.inl (by lia)⟩
   |some H=>
    obtain⟨u,v,w⟩:=H;dsimp only;refine bD (jU (jT (I:=fun x c i=>∃ ys a d,i=mkS st ys a d/\c=(none,())/\ys.Perm a₀/\Runs lt key ys 0 a b/\(∀ k,b<=k->el ys k=el zs k))
     (Q:=fun c i=>∃ ys a d,i=mkS st ys a d/\c=(none,())/\ys.Perm a₀/\Runs lt key ys 0 a b/\(∀ k,b<=k->el ys k=el zs k)) ?sti (fun _ _ H=>H) ⟨zs,L,g,rfl,rfl,J,N,fun _ _=>rfl⟩) ?poi)
    case sti=>
     rintro y c i _ F ⟨ys,a,d,rfl,rfl,z,B,C⟩;refine bD (lO ?_);rw[G,cJ];by_cases D:a.length>1
     ·rw[aL D,Hs,iM (by lia)];generalize a[a.length-2]=t;obtain⟨av,aw,ai⟩:=t;dsimp only;by_cases T:ai<=power' a₀.size (2*u+v) (2*u+v+v+n) a₀.size
      ·rw[aL T];exact aV ⟨ys,a,d,rfl,rfl,z,B,C⟩
      ·rw[aJ T];refine bD (NZ e m Y z (by lia) B (by omega) fun zs O R aa ab an ac=>?_);exact aV ⟨zs,O,R,rfl,rfl,aa,ab,fun k m=>(ac k m).trans (C k m)⟩
     ·rw[aJ D];exact aV ⟨ys,a,d,rfl,rfl,z,B,C⟩
    case poi=>
     rintro c i ⟨ys,a,d,rfl,rfl,z,B,C⟩;dsimp only;refine bD (pH (bD (pH (aV ?_))));generalize power' a₀.size (2*u+v) (2*u+v+v+n) a₀.size=pw;have ad:setPending (mkS st ys a d) ((pendingOf (mkS st ys a d)).modify ((pendingOf (mkS st ys a d)).size-1) fun x=>(x.1,x.2.1,pw))=mkS st ys (a.modify (a.length-1) fun x=>(x.1,x.2.1,pw)) d:=by
      show SortSt.mk' _ _ (a.toArray.modify (a.toArray.size-1) fun x=>(x.1,x.2.1,pw)) _ _=_;rw[a00,cJ]
     rw[ad,U];exact⟨ys,_,d,b+n,rfl,rfl,z,snoc ys _ (Runs.modify (f:=fun x=>(x.1,x.2.1,pw)) (fun _=>rfl) (fun _=>rfl) B) C,K,.inl (by lia)⟩
 case post=>
  rintro c i ⟨xs,L,g,rfl,rfl,o,j⟩;dsimp only;have one:∀(xs:Array Keyed)(L:List (Nat×Nat×Nat)),L.length<=1->Runs lt key xs 0 L a₀.size->Srt lt key xs 0 a₀.size:=fun xs L D af=>by
   cases L with
   |nil=>
    have:0=a₀.size:=af;intro p q _ _ ay;lia
   |cons r l=>
    cases l with
    |nil=>
     have ao:0+r.2.1=a₀.size:=af.2.2.2;have:=af.2.2.1;rwa[ao] at this
    |cons _ _=>simp at D
  refine bD (jU (jT (I:=fun x c i=>∃ xs L g,i=mkS st xs L g/\c=(none,())/\xs.Perm a₀/\Runs lt key xs 0 L a₀.size/\L.length+x<=a₀.size)
   (Q:=fun c i=>∃ xs L g,i=mkS st xs L g/\c=(none,())/\xs.Perm a₀/\Runs lt key xs 0 L a₀.size/\L.length<=1) ?st2 ?fi2 ?in2) ?po2)
  case in2=>
   have:=j.le;exact⟨xs,L,g,rfl,rfl,o,j,by lia⟩
  case fi2=>
   rintro c i ⟨xs,L,g,rfl,rfl,o,j,P⟩;exact⟨xs,L,g,rfl,rfl,o,j,by lia⟩
  case po2=>
   rintro c i ⟨xs,L,g,rfl,rfl,o,j,P⟩;exact aV (h _ o Y (one xs L P j))
  case st2=>
   rintro x c i _ as ⟨xs,L,g,rfl,rfl,o,j,P⟩;refine bD (lO ?_);have G:pendingOf (mkS st xs L g)=L.toArray:=rfl;rw[G,cJ];by_cases D:L.length<=1
   ·rw[aL D];exact aV ⟨xs,L,g,rfl,rfl,o,j,D⟩
   ·rw[aJ D];have ar:∀ c:Prop,[Decidable c]->(if c then L.length-2-1 else L.length-2)+1<L.length:=fun c _=>by split<;>lia
    refine bD (NZ e m Y o (ar _) j (bG _) fun zs O R z B C ax=>?_);exact aV ⟨zs,O,R,rfl,rfl,z,B,by lia⟩
end
end TS
end L2
namespace L2
open PySem PySem.Spec PyProof.Rows PySem.W
theorem Vf{j k:Type}{g:j->k}{l m:List k}(h:l.Perm m):∀ r:List j,m=r.map g->∃ f:List j,f.Perm r/\l=f.map g:=by
 induction h with
 |nil=>intro r e;exact⟨[],by cases r<;>simp_all,rfl⟩
 |@cons x l m _ n=>
  intro r e;cases r with
  |nil=>simp at e
  |cons a r=>
   rw[eU] at e;injection e with d c;obtain⟨f,p,i⟩:=n r c;exact⟨a::f,p.cons a,by rw[eU,<- d,<- i]⟩
 |swap x y l=>
  intro r e
  match r,e with
  |a::b::r,e=>
   rw[eU,eU] at e;injection e with d c;injection c with c i;exact⟨b::a::r,.swap _ _ _,by rw[eU,eU,<- d,<- c,<- i]⟩
 |trans _ _ o q=>
  intro r e;obtain⟨t,p2,c⟩:=q r e;obtain⟨s,p1,d⟩:=o t c;exact⟨s,p1.trans p2,d⟩
section
variable{prog:Program}{w:World}{A:Around}{E:Value->Shared->Prop}{s:Shared}{α:Type}
structure Py(prog:Program)(w:World)(h:Heap)(vs:List Value)(lt:α->α->Bool)(f:Nat->α):Prop where
 ex:2<=vs.length->∃ κ:SortKind,(∀(A':Around)(E':Value->Shared->Prop)(s':Shared)(Q':SortKind->Shared->Prop),Keeps h s'.heap->Q' κ s'->wpAny (model prog w) A' (keyKind' vs.toArray) Q' E' s') /\
  ∀(A':Around)(s':Shared)(i j:Nat)(C:Bool->Shared->Prop),A'.units+2<cLine->Keeps h s'.heap->i<vs.length->j<vs.length->C (lt (f i) (f j)) s'->wpAny (model prog w) A' (keyLt' κ (vs.getD i Value.none) (vs.getD j Value.none)) C (fun _ _=>False) s'
def byP(vs:List Value)(p:Array Nat):List Value:=p.toList.map fun i=>vs.getD i Value.none
def wz(vs:List Value)(f:Nat->α):Prop:=∀ i j,i<vs.length->j<vs.length->vs.getD i Value.none=vs.getD j Value.none->f i=f j
open Classical in
noncomputable def a3b(vs:List Value)(f:Nat->α)(x:Keyed):α:=f (Classical.epsilon fun i=>i<vs.length/\vs.getD i Value.none=x.1)
theorem zH{vs:List Value}{f:Nat->α}(b:wz vs f){i:Nat}(a:i<vs.length){v:Value}:a3b vs f (vs.getD i Value.none,v)=f i:=by
 unfold a3b;have h:=Classical.epsilon_spec (p:=fun j=>j<vs.length/\vs.getD j Value.none=vs.getD i Value.none) ⟨i,a,rfl⟩;exact b _ _ h.1 a h.2
theorem a0f{vs:List Value}{κ:SortKind}{lt:α->α->Bool}{f:Nat->α}(o:kY lt)(b:wz vs f)
  (z:∀ i j (C:Bool->Shared->Prop),i<vs.length->j<vs.length->C (lt (f i) (f j)) s->wpAny (model prog w) A (keyLt' κ (vs.getD i Value.none) (vs.getD j Value.none)) C (fun _ _=>False) s) :
  wpAny (model prog w) A (sortRuns'.run (SortSt.mk' κ (vs.toArray.zip vs.toArray) #[] 7 none)) (fun r L=>L=s/\∃ p,Good vs.length p/\Ir lt f p vs.length/\(arrOf r.2).map (·.2)=(byP vs p).toArray/\failedOf r.2=none) E s:=by
 have h:(vs.toArray.zip vs.toArray).toList=(List.range vs.length).map fun i=>(vs.getD i Value.none,vs.getD i Value.none):=by
  refine Cz fun i=>?_
  by_cases a:i<vs.length
  ·simp[a,eE,List.getElem?_zip_eq_some]
  ·simp[a]
 have I:(vs.toArray.zip vs.toArray).size=vs.length:=by simp
 have e:TS.Env (model prog w) A s κ (a3b vs f) lt (vs.toArray.zip vs.toArray):=by
  refine⟨o,fun x y q t C k=>?_⟩;rw[h] at q t;obtain⟨i,a,rfl⟩:=bV.mp q;obtain⟨j,F,rfl⟩:=bV.mp t;have l:=dO.mp a;have m:=dO.mp F;rw[zH b l,zH b m] at k;exact z i j C l m k
 refine TS.a1S (Q:=fun _ st=>∃ p,Good vs.length p/\Ir lt f p vs.length/\(arrOf st).map (·.2)=(byP vs p).toArray/\failedOf st=none) e rfl rfl rfl rfl fun M G D H=>?_
 have n:=G.toList;rw[h] at n;obtain⟨r,c,g⟩:=Vf n _ rfl;have B:Good vs.length r.toArray:=⟨by simpa using c⟩
 have d:∀ i,(a:i<r.length)->TS.el (arrOf M) i=(vs.getD r[i] Value.none,vs.getD r[i] Value.none):=fun i a=>by
  rw[TS.zE,g,eE,dF,iM a];rfl
 have N:r.length=vs.length:=by simpa using c.length_eq
 refine⟨r.toArray,B,fun i a=>?_,?_,D⟩
 ·have h2:=H i (i+1) (nQ _) (uK _) (by rw[I];exact a);rw[d i (by lia),d (i+1) (by lia)] at h2;have J:r[i]<vs.length:=dO.mp (c.mem_iff.mp (qG _));have K:r[i+1]<vs.length:=dO.mp (c.mem_iff.mp (qG _));rw[zH b J,zH b K] at h2;unfold Ky;have u:r.toArray.getD i 0=r[i]:=by
   rw[o9,Hs,iM (by lia)];rfl
  have v:r.toArray.getD (i+1) 0=r[i+1]:=by
   rw[o9,Hs,iM (by lia)];rfl
  rw[u,v];exact h2
 ·apply P0.mp;rw[Array.toList_map,g];unfold byP;simp
theorem Iv{a:Addr}{vs:List Value}{n:Nat}{h0:Heap}{lt:α->α->Bool}{f:Nat->α}{m:PySem.Fin->Shared->Prop}(o:kY lt)(D:wz vs f)(L:A.units+2<cLine)(K:Py prog w h0 vs lt f)(hz:vs.length<=sizeLine) (k:s.heap.get? a=some (seqObj "list" vs.toArray n)) (H:∀ b o,h0.get? b=some o->s.heap.get? b=some o/\b≠a)
  (h:∀ p,Good vs.length p->Ir lt f p vs.length->m (.done (.ret .none)) { s with heap:=sortedHeap s.heap a vs (byP vs p).toArray }):wpAny (model prog w) A (Builtin.«list.sort» ⟨[.ref a],[]⟩) m E s:=by
 rw[list_sort_plain];have N:a<s.heap.objs.size:=bZ k;refine bL (listItems_at k rfl (bL (listUpdate_at k rfl ?_ (by show vs.toArray.size<=_;rw[cJ];omega) (by show(#[]:Array Value).size<=_;simp))));have t:=get?_update_seq k (fun _=>#[]);refine bL (seqEpoch_at t rfl (bL (wpAny_newTuple (bL (wpAny_newList (u9 ?_) (by simp))) (by simpa using hz))));show wpAny (model prog w) A _ m E { s with heap:=((s.heap.update a (Obj.mapSeq fun _=>#[])).push (seqObj "tuple" vs.toArray 0)).push (seqObj "list" #[] 0) };have l:(((s.heap.update a (Obj.mapSeq fun _=>#[])).push (seqObj "tuple" vs.toArray 0)).push (seqObj "list" #[] 0)).get? a=some _:=fB _ (fB _ t);have v:Keeps h0 (((s.heap.update a (Obj.mapSeq fun _=>#[])).push (seqObj "tuple" vs.toArray 0)).push (seqObj "list" #[] 0)):=fun b o e=>by
  obtain⟨x,y⟩:=H b o e;refine fB _ (fB _ ?_);rw[Hx _ _ _ _ y];exact x
 dsimp only;by_cases h2:vs.toArray.size<2
 ·rw[aL h2,aL h2];refine bL (c7 ?_);rw[StateT.run_pure];refine bL (c7 ?_);dsimp only;have q:vs.length<2:=by simpa using h2
  have B:Good vs.length (List.range vs.length).toArray:=⟨.refl _⟩
  have M:Ir lt f (List.range vs.length).toArray vs.length:=fun i c=>by lia
  have z:byP vs (List.range vs.length).toArray=vs:=by
   unfold byP;refine Cz fun i=>?_
   simp only[dF];by_cases c:i<vs.length
   ·simp[c,eE]
   ·simp[c]
  have h':=h _ B M;rw[z] at h';have d:(arrOf (SortSt.mk' general' (vs.toArray.zip vs.toArray) #[] 7 none)).map (·.2)=vs.toArray:=by
   show(vs.toArray.zip vs.toArray).map (·.2)=_;apply P0.mp;simp[List.map_snd_zip]
  refine bL (seqEpoch_at l rfl ?_);rw[d];refine bL (listUpdate_at l rfl ?_ (by simp) (by rw[cJ];lia));simp only[bne_self_eq_false,Dk,nH];exact c7 h'
 ·rw[aJ h2,aJ h2];have q:2<=vs.length:=by simpa using h2
  obtain⟨κ,I,J⟩:=K.ex q;refine bL (I _ _ _ _ v ?_);refine bL (jL (a0f (κ:=κ) (f:=f) o D fun i j C c G F=>J A _ i j C L v c G F) ?_ fun _ _ e=>e);rintro⟨⟨⟩,O⟩ s' ⟨rfl,p,g,u,d,r⟩;dsimp only;dsimp only at d r;refine bL (seqEpoch_at l rfl ?_);rw[d];refine bL (listUpdate_at l rfl ?_ (by simp) ?_)
  ·rw[r];simp only[bne_self_eq_false,Dk,nH];exact c7 (h p g u)
  ·unfold byP;rw[cJ,bf,nM,g.size];lia
theorem zU{l:Addr}{vs:List Value}{lt:α->α->Bool}{f:Nat->α}{Q:Value->Shared->Prop}(o:kY lt)(d:wz vs f)(n:A.units+10<cLine)(k:Py prog w s.heap vs lt f)(hz:vs.length<=sizeLine)(i:s.heap.IsList l vs.toArray)
  (h:∀ p,Good vs.length p->Ir lt f p vs.length->Q (.ref (s.heap.objs.size+1)) { s with heap:=sortedAll s.heap vs (byP vs p).toArray }):wpAny (model prog w) A (call (.builtin "sorted") [.ref l]) Q E s:=by
 refine O4 kind_sorted plain_sorted entry_sorted (args_sorted1 _) ?_;unfold Builtin.«sorted»;refine bL (m:=checkCount "sorted" 1 1 _) (c7 (bL (collect_list i ?_ hz)));refine bL (wpAny_newList ?_ (by simpa using hz));have a:((s.heap.push (seqObj "list" #[] 0)).update s.heap.objs.size (Obj.mapSeq (·++vs.toArray))).objs.size=s.heap.objs.size+1:=by rw[Heap.size_update,size_push']
 have c:(((s.heap.push (seqObj "list" #[] 0)).update s.heap.objs.size (Obj.mapSeq (·++vs.toArray))).push (seqObj "list" vs.toArray 0)).get? (s.heap.objs.size+1)=some (seqObj "list" vs.toArray 0):=by
  rw[<- a];exact jQ _ rfl
 show wpAny _ _ _ _ _ { s with heap:=((s.heap.push (seqObj "list" #[] 0)).update s.heap.objs.size (Obj.mapSeq (·++vs.toArray))).push (seqObj "list" vs.toArray 0) };rw[a];refine bL (u9 (Pa slot_list_sort ⟨_,c,rfl⟩ entry_list_sort (Iv (h0:=s.heap) o d (by show A.units+1+1+2<cLine;lia) k hz c (fun b o e=>⟨?_,gR (yu (bZ e))⟩) fun p g u=>⟨_,rfl,c7 ⟨_,rfl,h p g u⟩⟩) (args_list_sort _)));have j:b<s.heap.objs.size:=bZ e;refine fB _ ?_;rw[Hx _ _ _ _ (gR j)];exact fB _ e
end
def gj(a b:Cell):Bool:=decide (bA a b)
theorem nW:kY gj:=by
 refine⟨fun a b h=>?_,fun a b c h1 h2=>?_,fun a b h1 h2=>?_⟩
 ·have:=dj h;refine cU ?_;unfold bA at *;lia
 ·have d:=iY h1;have e:=iY h2;refine cU ?_;unfold bA at *;lia
 ·have d:=iY h1;have e:=iY h2;unfold bA at *;exact nJ (by omega) (by lia)
section
variable{X:Cx}
theorem yJ{pins:List (Addr×Obj)}{zzs:L2.St}{H:Hp}{s:Shared}{vs:List V}{us:List Value}{g:List Cell}(I:Inv X pins zzs H s)(M:bw X.K H vs (g.map aD))(r:Vals vs us):Py X.prog X.w s.heap us gj fun i=>g.getD i (0,0):=by
 have J:us.length=g.length:=by rw[<- r.length,M.length,bf]
 have y:∀ i,(k:i<g.length)->∃(a:Addr)(o:Obj)(t m:Tok)(n:Nat),us.getD i Value.none=.ref a/\s.heap.get? a=some o/\o.cls=.type "tuple" /\ o.data=.seq #[.int g[i].1 t,.int g[i].2 m] n:=fun i k=>by
  have L:i<vs.length:=by rw[r.length,J];exact k
  have P:vs[i]?=some vs[i]:=by simp[L]
  obtain⟨u,D,ah⟩:=r.get P;obtain⟨d,O,aa⟩:=M.get P;rw[dF,iM k] at O;cases O;obtain⟨a,o,t,m,n,rfl,h1,h2,ae⟩:=mU I aa ah;exact⟨a,o,t,m,n,by rw[eE,D];rfl,h1,h2,ae⟩
 refine⟨fun h2=>⟨tuples' true,fun W ai s' aj p q=>?_,fun W s' i j C al p k G Q=>?_⟩⟩
 ·have ag:∀(g:List Cell)(us:List Value),us.length=g.length->(∀ i,(k:i<g.length)->∃(a:Addr)(o:Obj)(t m:Tok)(n:Nat),us.getD i Value.none=.ref a/\s.heap.get? a=some o/\o.cls=.type "tuple" /\ o.data=.seq #[.int g[i].1 t,.int g[i].2 m] n) ->
    ∃ fs:List Value,fs.length=us.length/\(∀ f∈fs,∃ i t,f=Value.int i t)/\KatTups s'.heap us fs:=by
   intro g
   induction g with
   |nil=>
    intro us e _;cases us with
    |nil=>exact⟨[],rfl,(fun f F=>by cases F),.nil⟩
    |cons a b=>simp at e
   |cons c g af=>
    intro us e h;cases us with
    |nil=>simp at e
    |cons u us=>
     obtain⟨a,o,t,m,n,z,A,N,B⟩:=h 0 (by simp);have D:u=.ref a:=z;subst D;obtain⟨fs,f1,f2,E⟩:=af us (by simpa using e) fun i k=>by
      have:=h (i+1) (by simpa using k);simpa using this
     refine⟨.int c.1 t::fs,by simp[f1],fun f F=>?_,KatTups.cons (p _ _ A) N B rfl E⟩;rcases cZ.mp F with l|l
     ·exact⟨_,_,l⟩
     ·exact f2 f l
  obtain⟨fs,f1,f2,E⟩:=ag g us J y;refine kat_kind (T:=.type "int") E (by lia) (fun v L=>?_) (by decide) ?_
  ·obtain⟨i,t,rfl⟩:=f2 v L;exact Looks.of_pure rfl
  ·exact q
 ·rw[J] at k G;obtain⟨a,o,t,m,n,z,A,N,B⟩:=y i k;obtain⟨b,an,ao,ap,am,ab,ac,ak,ad⟩:=y j G;rw[z,ab];have Y:g.getD i (0,0)=g[i]:=by rw[eE,iM k];rfl
  have Z:g.getD j (0,0)=g[j]:=by rw[eE,iM G];rfl
  rw[Y,Z] at Q;refine kat_lt (p _ _ A) B (p _ _ ac) ad ?_;have out:∀ x:Bool,(x=true↔bA g[i] g[j])->C x s':=fun x R=>by
   have:x=gj g[i] g[j]:=by
    unfold gj;cases x
    ·exact(cU fun l=>by have:=R.mpr l;cases this).symm
    ·exact(cR (R.mp rfl)).symm
   rw[this];exact Q
  refine kat_cons (rW ?_);by_cases S:g[i].1=g[j].1
  ·rw[show(g[i].1==g[j].1)=true from jM.mpr S];refine kat_yes (kat_cons (rW ?_));by_cases U:g[i].2=g[j].2
   ·rw[show(g[i].2==g[j].2)=true from jM.mpr U];refine kat_yes (kat_nil (out _ ⟨fun l=>?_,fun l=>?_⟩))
    ·have:=dj l;simp at this
    ·unfold bA at l;lia
   ·rw[show(g[i].2==g[j].2)=false from oh.mpr U];refine kat_no (kat_one _ _ (lt_int (out _ ?_)));rw[iw];unfold bA;lia
  ·rw[show(g[i].1==g[j].1)=false from oh.mpr S];refine kat_no (oneLt_int (out _ ?_));rw[iw];unfold bA;lia
theorem Ek{pins:List (Addr×Obj)}{zzs:L2.St}{H:Hp}{s:Shared}{vs:List V}{us:List Value}{c:List Cell}(I:Inv X pins zzs H s)(h:bw X.K H vs (c.map aD))(r:Vals vs us):wz us fun i=>c.getD i (0,0):=by
 have M:us.length=c.length:=by rw[<- r.length,h.length,bf]
 have k:∀ i,i<us.length->∃(a:Addr)(o:Obj)(t f:Tok)(n:Nat),us.getD i Value.none=.ref a/\s.heap.get? a=some o/\o.data=.seq #[.int (c.getD i (0,0)).1 t,.int (c.getD i (0,0)).2 f] n:=fun i g=>by
  have J:i<vs.length:=by rw[r.length];exact g
  have x:i<c.length:=by lia
  have p:vs[i]?=some vs[i]:=by simp[J]
  obtain⟨u,C,L⟩:=r.get p;obtain⟨d,l,y⟩:=h.get p;rw[dF,iM x] at l;cases l;obtain⟨a,o,t,f,n,rfl,h1,_,F⟩:=mU I y L;refine⟨a,o,t,f,n,by rw[eE,C];rfl,h1,?_⟩;rw[eE,iM x];exact F
 intro i j g G e;obtain⟨a,o,t,f,n,z,A,B⟩:=k i g;obtain⟨b,o',v,N,m,D,q,w⟩:=k j G;rw[z,D] at e;cases e;rw[A] at q;cases q;rw[B] at w;injection w with g5 _;have E:=congrArg Array.toList g5;injection E with a1 a2;injection a2 with a2 _;injection a1 with a1 _;injection a2 with a2 _;exact nJ a1 a2
theorem zP{vs:List V}{us:List Value}(r:Vals vs us):∀(a:List Nat),(∀ i∈a,i<vs.length)->Vals (a.map fun i=>vs.getD i .non) (a.map fun i=>us.getD i Value.none)
 |[],_=>.nil
 |i::a,h=>by
  have b:=h i cV;obtain⟨u,e,g⟩:=r.get (show vs[i]?=some vs[i] from by simp[b]);have c:vs.getD i .non=vs[i]:=by simp[eE,b]
  have d:us.getD i Value.none=u:=by rw[eE,e];rfl
  rw[eU,eU,c,d];exact .cons g (zP r a fun j f=>h j (eO _ f))
theorem Gg{K:ao}{H:Hp}{vs:List V}{b:List Dt}{d0:Dt}(c:bw K H vs b):∀(a:List Nat),(∀ i∈a,i<vs.length)->bw K H (a.map fun i=>vs.getD i .non) (a.map fun i=>b.getD i d0)
 |[],_=>.nil
 |i::a,h=>by
  have e:=h i cV;obtain⟨d,l,f⟩:=c.get (show vs[i]?=some vs[i] from by simp[e]);have g:vs.getD i .non=vs[i]:=by simp[eE,e]
  have k:b.getD i d0=d:=by rw[eE,l];rfl
  rw[eU,eU,g,k];exact .cons f (Gg c a fun j m=>h j (eO _ m))
theorem vo{c:Type}{xs:List c}{d:c}{b:List Nat}(h:b.Perm (List.range xs.length)):(b.map fun i=>xs.getD i d).Perm xs:=by
 have e:(List.range xs.length).map (fun i=>xs.getD i d)=xs:=by
  refine Cz fun i=>?_
  simp only[dF];by_cases a:i<xs.length
  ·simp[a,eE]
  ·simp[a]
 exact(h.map _).trans (by rw[e])
def Asc(cs:List Cell):Prop:=cs.Pairwise fun a b=>¬bA b a
def Yh(K:ao):List V->Hp->VK->Prop:=fun xs H Q=>∃(p:Addr)(vs:List V)(cs:List Cell),xs=[.ref p]/\SqL K H p vs/\bw K H vs (cs.map aD)/\cs.length<64/\∀ l ws ds,H l=none->ws.Perm vs->bw K H ws (ds.map aD)->ds.Perm cs->Asc ds->Q (.ref l) (upd H l (.lst ws))
theorem Lb(S:X.A.units+60<cLine):eV X (.builtin "sorted") (Yh X.K):=by
 intro pins s zzs H xs T Q f r h;obtain⟨p,c,cs,rfl,B,k,P,q⟩:=h;obtain⟨u,rfl,M⟩:=vals1 r;cases M;obtain⟨d,rv,L,G⟩:=f.list B;have E:d.length=cs.length:=by rw[<- rv.length,k.length,bf]
 have t:c.length=d.length:=rv.length;refine zU nW (Ek f k rv) (by lia) (yJ f k rv) (by lia) L.isList fun o g O=>?_
 obtain⟨e,C⟩:=sortedAll_at s.heap d (byP d o).toArray;have F:H (s.heap.objs.size+1)=none:=f.hok.fresh (uK _);have n:∀ i∈o.toList,i<c.length:=fun i l=>by rw[t];exact dO.mp (g.perm.mem_iff.mp l)
 have N:Vals (o.toList.map fun i=>c.getD i .non) (byP d o):=zP rv o.toList n;have v:(o.toList.map fun i=>c.getD i .non).Perm c:=vo (by rw[t];exact g.perm);have z:bw X.K H (o.toList.map fun i=>c.getD i .non) ((o.toList.map fun i=>cs.getD i (0,0)).map aD):=by
  have:=Gg (d0:=aD (0,0)) k o.toList n;have m:(o.toList.map fun i=>(cs.map aD).getD i (aD (0,0)))=((o.toList.map fun i=>cs.getD i (0,0)).map aD):=by
   rw[qH];refine Hy fun i l=>?_
   simp only[eE,dF,Function.comp];cases cs[i]?<;>rfl
  rw[<- m];exact this
 have J:(o.toList.map fun i=>cs.getD i (0,0)).Perm cs:=vo (by rw[<- E];exact g.perm);have y:Asc (o.toList.map fun i=>cs.getD i (0,0)):=by
  unfold Asc;rw[yZ];intro i j l D R;rw[bf,nM,g.size] at l D;have:=O.le nW (j-i) i (by lia);have m:i+(j-i)=j:=by lia
  rw[m] at this;have:=iY this;have sz:=g.size;have w:Ky (fun i=>cs.getD i (0,0)) o i=(o.toList.map fun i=>cs.getD i (0,0))[i]:=by
   unfold Ky;rw[CK,o9,jG (by lia)];rfl
  have x:Ky (fun i=>cs.getD i (0,0)) o j=(o.toList.map fun i=>cs.getD i (0,0))[j]:=by
   unfold Ky;rw[CK,o9,jG (by lia)];rfl
  rw[<- w,<- x];exact this
 have I:(o.toList.map fun i=>c.getD i .non).length<=sizeLine:=by rw[v.length_eq];exact G
 exact⟨.ref (s.heap.objs.size+1),upd H (s.heap.objs.size+1) (.lst (o.toList.map fun i=>c.getD i .non)),f.laid (a:=s.heap.objs.size+1) (o:=.lst (o.toList.map fun i=>c.getD i .non)) (t':=s.toks) (fun b o q=>sortedAll_old q) (uK _) ⟨I,byP d o,e,N,C⟩,rfl,q _ _ _ F v z J y⟩
theorem Qg{K:ao}(b:X.A.units+60<cLine)(a:X.K=K:=by rfl):eV X (.builtin "sorted") (Yh K):=by subst a;exact Lb b
end
end L2
namespace L2
open PySem PySem.Spec PyProof.Rows PySem.SeqAt PySem.MeetsSeq PySem.MeetsSeq2 PySem.MeetsSeq3
open PySem.AutoSeq1 (wpAny_loadPart')
theorem Ka(A:Around)(s:Shared)(a:Int)(t:Tok)(c:Int)(u:Tok)(prog:Program)(w:World)(b:Value->Shared->Prop)(Q:Value->Shared->Prop)(h:Q (.bool (decide (c<=a))) s):wpAny (model prog w) A (richCompare .GtE (.int a t) (.int c u)) Q b s:=
 (ge_int h:wpAny (model prog w) A (compareOp .GtE (.int a t) (.int c u)) Q b s)
theorem a0u(p q:Addr)(a c e f:Int)(t1 t2 l o:Tok)(n m:Nat)(z B:Option Addr)(I J:Array (Option Value)):Meets (Builtin.«tuple.__ge__» ⟨[.ref p,.ref q],[]⟩)
  (fun _ R s=>s.heap.get? p=some { cls:=.type "tuple",dict:=z,data:=.seq #[.int a t1,.int c t2] n,slots:=I }/\s.heap.get? q=some { cls:=.type "tuple",dict:=B,data:=.seq #[.int e l,.int f o] m,slots:=J }/\R (.ok (.ret (.bool (!gj (a,c) (e,f))))) s):=
 .of_wp fun prog w A R s h=>by
  obtain⟨i,g,d,tk,j⟩:=s;obtain⟨C,D,h⟩:=h;have f2:=O7;have F:=fun(Q:Bool->Shared->Prop)(E:Value->Shared->Prop)(h:Q (a==e) ⟨i,g,d,tk,j⟩)=>(rW (t:=t1) (u:=l) h:wpAny (model prog w) A.in1 (eqBool (.int a t1) (.int e l)) Q E ⟨i,g,d,tk,j⟩)
  have y:=fun(Q:Bool->Shared->Prop)(E:Value->Shared->Prop)(h:Q (c==f) ⟨i,g,d,tk,j⟩)=>(rW (t:=t2) (u:=o) h:wpAny (model prog w) A.in1 (eqBool (.int c t2) (.int f o)) Q E ⟨i,g,d,tk,j⟩)
  have G:=Ka A.in1 ⟨i,g,d,tk,j⟩ a t1 e l prog w;have H:=Ka A.in1 ⟨i,g,d,tk,j⟩ c t2 f o prog w;have out:∀ b:Bool,(b=true↔¬bA (a,c) (e,f))->R (.ok (.ret (.bool b))) ⟨i,g,d,tk,j⟩:=fun b x=>by
   have:b=!gj (a,c) (e,f):=by
    unfold gj;by_cases k:bA (a,c) (e,f)
    ·rw[cR k];cases b
     ·rfl
     ·exact absurd k (x.mp rfl)
    ·rw[cU k];exact x.mpr k
   rw[this];exact h
  wp_walk using wpAny_loadPart' C,wpAny_loadPart' D,F,y
  by_cases r:a=e
  ·rw[show(a==e)=true from jM.mpr r]
   wp_walk using y
   by_cases v:c=f
   ·rw[show(c==f)=true from jM.mpr v]
    wp_walk
    refine⟨_,rfl,out _ ?_⟩;simp[Builtin.Tuple.tupleCompareSizes,bA,r,v]
   ·rw[show(c==f)=false from oh.mpr v]
    wp_walk using H
    refine⟨_,rfl,out _ ?_⟩;rw[iw];unfold bA;dsimp only;lia
  ·rw[show(a==e)=false from oh.mpr r]
   wp_walk using G
   refine⟨_,rfl,out _ ?_⟩;rw[iw];unfold bA;dsimp only;omega
section
variable{X:Cx}{K:ao}
def a5s(K:ao):R2:=fun x y H Q=>∃(a b:Cell),Den K H x (aD a)/\Den K H y (aD b)/\Q (.bl (!gj a b)) H
theorem a3B(I:X.A.units+60<cLine):OpR X (compareOp .GtE) (a5s X.K):=by
 intro pins s zzs H x y v u Q c w z h;obtain⟨a,b,i,j,q⟩:=h;obtain⟨p,o,B,C,n,rfl,f,d,f1⟩:=mU c i w;obtain⟨t,o',D,E,m,rfl,g,e,f2⟩:=mU c j z;obtain⟨oc,od,of,l⟩:=o;obtain⟨J,k,L,r⟩:=o';dsimp only at d f1 e f2;subst d f1 e f2;refine Od (op:=.GtE) ⟨_,f,rfl⟩ ⟨_,g,rfl⟩ PySem.F.slot_tuple_ge PySem.F.entry_tuple_ge (PySem.F.args_tuple_ge_2 _ _) (a0u p t a.1 a.2 b.1 b.2 B C D E n m od k l r) ⟨f,g,?_⟩ (by lia);exact(show Value.bool (!gj a b)≠Value.notImplemented/\EP X pins zzs Q (.bool (!gj a b)) s from⟨(fun G=>nomatch G),⟨.bl (!gj a b),H,c,rfl,q⟩⟩)
theorem a4Z(b:X.A.units+60<cLine)(a:X.K=K:=by rfl):OpR X (compareOp .GtE) (a5s K):=by subst a;exact a3B b
end
end L2
namespace L2
open PySem PySem.Spec PyProof.Rows
section
variable{X:Cx}
def a5u:List V->Hp->VK->Prop:=fun xs H Q=>∃ c:Nat,xs=[.str ⟨#[c]⟩]/\48<=c/\c<=57/\Q (.int ((c:Int)-48)) H
theorem Ly:∀ c∈List.range 58,48<=c->intText? ⟨#[c]⟩=some ((c:Int)-48):=by decide +kernel
theorem Tj:eV X (.type "int") a5u:=by
 intro pins s zzs H xs b Q a r h;obtain⟨c,rfl,h1,h2,q⟩:=h;obtain⟨u,rfl,t,rfl⟩:=vals1 r;exact PySem.W.KIN.call_text (Ly c (dO.mpr (by lia)) h1) (by show(1:Nat)<=640;decide) ⟨.int _,H,a.tok _,⟨_,rfl⟩,q⟩
end
def gB(zs:List Str)(c:Cell):Int:=(codeAt zs (c.1.toNat,c.2.toNat):Int)-48
def tM(h w:Int)(c:Cell)(cs:List Cell):Nat:=((gO h w c).filter fun y=>decide (y∈cs)).length
def Tf(cs:List Cell):Bool:=(List.range (cs.length-1)).all fun j=>gj (cs.getD j (0,0)) (cs.getD (j+1) (0,0))
def layB(zs:List Str)(w:Nat)(cs:List Cell):Bool:=Tf cs&&cs.all (aK zs w)
def tX(zs:List Str)(w:Nat)(cs:List Cell)(c:Cell):Bool:=decide (gB zs c=(tM zs.length w c cs:Int))
def gZ(zs:List Str)(w:Nat)(cs:List Cell):Bool:=(cM zs.length w).all fun c=>aK zs w c||tX zs w cs c
theorem sV:∀ h∈List.range 7,∀ w∈List.range 7,(cM h w).Pairwise bA:=by decide +kernel
theorem Bb(c:Nat):inS "012345678" c=decide (48<=c/\c<=56):=by
 rw[M7 (by decide +kernel)];have e:("012345678" : Str).cps.toList=[48,49,50,51,52,53,54,55,56]:=by decide +kernel
 rw[e];have:(c∈[48,49,50,51,52,53,54,55,56])↔(48<=c/\c<=56):=by simp;lia
 rw[vV];exact this
theorem Bh{zs:List Str}{w:Nat}{f:Str}{x:Cell}:x∈wL zs w f↔inF zs.length w x/\inS f (codeAt zs (x.1.toNat,x.2.toNat))=true:=by
 unfold wL;rw[CJ];constructor
 ·rintro⟨r,g,i⟩;obtain⟨c,e,rfl⟩:=bV.mp i;rw[cF,dO] at e;rw[dO] at g;exact⟨⟨⟨by show(0:Int)<=(r:Int);lia,by show(r:Int)<zs.length;lia⟩,⟨by show(0:Int)<=(c:Int);lia,by show(c:Int)<w;lia⟩⟩,e.2⟩
 ·rintro⟨⟨⟨a,b⟩,⟨c,d⟩⟩,h⟩;refine⟨x.1.toNat,dO.mpr (by lia),bV.mpr ⟨x.2.toNat,cF.mpr ⟨dO.mpr (by lia),h⟩,?_⟩⟩;exact nJ (by show((x.1.toNat:Nat):Int)=x.1;lia) (by show((x.2.toNat:Nat):Int)=x.2;lia)
theorem Vw.code{zs:List Str}{w:Nat}{x:Cell}(v:Vw zs w)(h:inF zs.length w x):yU (codeAt zs (x.1.toNat,x.2.toNat))=true:=by
 obtain⟨⟨a,b⟩,⟨c,d⟩⟩:=h;have f:x.1.toNat<zs.length:=by lia
 have e:zs.getD x.1.toNat Str.empty=zs[x.1.toNat]:=by simp[eE,f]
 have g:(zs[x.1.toNat]).cps.size=w:=v.len _ (qG f);refine v.sg _ (qG f) _ ?_;unfold codeAt;dsimp only;rw[e,o9,jG (by lia)];exact O6 _
theorem Mp{zs:List Str}{w:Nat}{x:Cell}(v:Vw zs w):x∈wL zs w "012345678" ↔ inF zs.length w x/\aK zs w x=false:=by
 rw[Bh,Bb];constructor
 ·rintro⟨h,a⟩;have:=dj a;refine⟨h,?_⟩;unfold aK;rw[cU (show ¬codeAt zs (x.1.toNat,x.2.toNat)=35 by lia),yC]
 ·rintro⟨h,a⟩;have b:=dj (v.code h);unfold aK at a;rw[cR h,rP] at a;have:=iY a;exact⟨h,cR (by lia)⟩
theorem Vw.digit{zs:List Str}{w:Nat}{x:Cell}(v:Vw zs w)(h:inF zs.length w x)(a:aK zs w x=false):48<=codeAt zs (x.1.toNat,x.2.toNat)/\codeAt zs (x.1.toNat,x.2.toNat)<=56:=by
 have:=(Bh.mp ((Mp v).mpr ⟨h,a⟩)).2;rw[Bb] at this;exact dj this
theorem Tr{zs:List Str}{w:Nat}{x:Cell}:x∈wL zs w "#" ↔ aK zs w x=true:=by
 rw[<- uQ];unfold bM;rw[cF,cQ];constructor
 ·exact fun h=>h.2
 ·intro h;refine⟨?_,h⟩;unfold aK at h;rw[nO] at h;exact dj h.1
theorem zW{c:List Cell}(h:Asc c)(nd:c.Nodup):c.Pairwise bA:=by
 unfold Asc at h;have:c.Pairwise fun a b=>¬bA b a/\a≠b:=h.and nd
 exact this.imp fun {a b} e=>by
  obtain⟨h1,h2⟩:=e;have f:¬(a.1=b.1/\a.2=b.2):=fun d=>h2 (nJ d.1 d.2)
  unfold bA at *;lia
theorem iV{c:List Cell}(h:c.Pairwise bA):c.Nodup:=h.imp fun {a b} d e=>by
 subst e;unfold bA at d;lia
section
variable{κ:Type} [DecidableEq κ]
def tR(kvs:List (κ×V))(k:κ):Option V:=(kvs.find? fun kv=>decide (kv.1=k)).map (·.2)
def putK(kvs:List (κ×V))(k:κ)(v:V):List (κ×V):=
 if(kvs.any fun kv=>decide (kv.1=k))=true then kvs.map (fun kv=>if kv.1=k then(kv.1,v) else kv) else kvs++[(k,v)]
theorem rO{p:κ×V}{r:List (κ×V)}{k:κ}(e:p.1=k):tR (p::r) k=some p.2:=by simp[tR,yw,e]
theorem rN{p:κ×V}{r:List (κ×V)}{k:κ}(e:¬p.1=k):tR (p::r) k=tR r k:=by simp[tR,yw,e]
theorem vQ(k:κ):∀ kvs:List (κ×V),(kvs.any fun a=>decide (a.1=k))=(tR kvs k).isSome
 |[]=>rfl
 |p::r=>by
  rw[yE];by_cases e:p.1=k
  ·simp only[rO e,cR e,Bool.true_or,Option.isSome_some]
  ·rw[rN e,cU e,Pk];exact vQ k r
theorem yN(kvs:List (κ×V))(k:κ)(v:V):(putK kvs k v).length<=kvs.length+1:=by
 unfold putK;split
 ·rw[bf];lia
 ·rw[cL,gD,vW];lia
theorem JZ{kvs:List (κ×V)}{k:κ}(v:V)(h:tR kvs k=none):putK kvs k v=kvs++[(k,v)]:=by
 unfold putK;rw[vQ,h];exact aJ (by decide)
theorem tQ.oZ{o:Option V}{u:Option Value}(r:tQ o u):o.isSome=u.isSome:=by
 cases o with
 |none=>cases u with
  |none=>rfl
  |some _=>exact(show False from r).elim
 |some _=>cases u with
  |none=>exact(show False from r).elim
  |some _=>rfl
theorem KV.val{kvs:List (κ×V)}{vs:List (κ×Value)}(r:KV kvs vs)(k:κ):tQ (tR kvs k) (valueAt vs k):=by
 unfold KV at r
 induction r with
 |nil=>exact True.intro
 |@cons p q ps c h t d=>
  obtain⟨h1,h2⟩:=h;by_cases e:p.1=k
  ·have a:q.1=k:=h1.symm.trans e;have b:valueAt (q::c) k=some q.2:=by simp[valueAt,yw,a]
   rw[rO e,b];exact h2
  ·have a:¬q.1=k:=fun f=>e (h1.trans f)
   have b:valueAt (q::c) k=valueAt c k:=by simp[valueAt,yw,a]
   rw[rN e,b];exact d
theorem KV.any{kvs:List (κ×V)}{vs:List (κ×Value)}(r:KV kvs vs)(k:κ):(kvs.any fun a=>decide (a.1=k))=vs.any fun a=>decide (a.1=k):=by
 unfold KV at r
 induction r with
 |nil=>rfl
 |cons h t b=>rw[yE,yE,b,h.1]
theorem KV.repl{kvs:List (κ×V)}{vs:List (κ×Value)}(r:KV kvs vs)(k:κ){y:V}{u:Value}(c:RelV y u) :
  KV (kvs.map fun a=>if a.1=k then(a.1,y) else a) (vs.map fun a=>if a.1=k then(a.1,u) else a):=by
 unfold KV at r ⊢
 induction r with
 |nil=>exact .nil
 |@cons p q ps f h t b=>
  rw[eU,eU];refine .cons ?_ b;obtain⟨h1,h2⟩:=h;by_cases e:p.1=k
  ·rw[aL e,aL (h1.symm.trans e)];exact⟨h1,c⟩
  ·rw[aJ e,aJ (fun d=>e (h1.trans d))];exact⟨h1,h2⟩
theorem KV.put{kvs:List (κ×V)}{vs:List (κ×Value)}(r:KV kvs vs)(k:κ){y:V}{u:Value}(a:RelV y u):KV (putK kvs k y) (stored vs k u):=by
 unfold putK stored;rw[r.any k];by_cases e:(vs.any fun b=>decide (b.1=k))=true
 ·rw[aL e,aL e];exact r.repl k a
 ·rw[aJ e,aJ e];exact Paired.snoc r ⟨rfl,a⟩
theorem KV.length{kvs:List (κ×V)}{vs:List (κ×Value)}(r:KV kvs vs):kvs.length=vs.length:=Ib r
end
theorem Js{a:Program}{w:World}{k:Key}{u:Value}(r:RelV (kV k) u):(gH a w).is k u=true:=by
 cases k with
 |inl i=>obtain⟨t,e⟩:=(show ∃ t,u=Value.int i t from r);subst e;exact Jz a w i t
 |inr x=>obtain⟨t,e⟩:=(show ∃ t,u=Value.str x t from r);subst e;exact JB a w x t
theorem Ew{b:Program}{w:World}:∀ {a:List Key} {us:List Value},Vals (a.map kV) us->ItemsAre (gH b w) a us
 |[],_,r=>by rw[Ih] at r;cases r;exact .nil
 |k::a,_,r=>by
  rw[eU] at r;cases r with
  |cons h t=>exact .cons (Js h) (Ew t)
abbrev KT(H:Hp):List (List Key×V)->List (List Key×Addr×Value)->Prop:=Paired fun p q=>p.1=q.1/\H q.2.1=some (.tup (p.1.map kV))/\RelV p.2 q.2.2
theorem KT.val{H:Hp}{kvs:List (List Key×V)}{xs:List (List Key×Addr×Value)}(r:KT H kvs xs)(k:List Key):tQ (tR kvs k) ((atKey xs k).map (·.2)):=by
 induction r with
 |nil=>exact True.intro
 |@cons p q ps c h t d=>
  obtain⟨h1,_,h2⟩:=h;by_cases e:p.1=k
  ·have a:q.1=k:=h1.symm.trans e;have b:atKey (q::c) k=some q.2:=by simp[atKey,yw,a]
   rw[rO e,b];exact h2
  ·have a:¬q.1=k:=fun f=>e (h1.trans f)
   have b:atKey (q::c) k=atKey c k:=by simp[atKey,yw,a]
   rw[rN e,b];exact d
theorem KT.repl{H:Hp}{kvs:List (List Key×V)}{xs:List (List Key×Addr×Value)}(r:KT H kvs xs)(k:List Key){y:V}{u:Value}(d:RelV y u) :
  KT H (kvs.map fun a=>if a.1=k then(a.1,y) else a) (xs.map (putAt k u)):=by
 induction r with
 |nil=>exact .nil
 |@cons p q ps g h t c=>
  rw[eU,eU];refine .cons ?_ c;obtain⟨h1,h2,b⟩:=h;unfold putAt;by_cases e:p.1=k
  ·rw[aL e,aL (h1.symm.trans e)];exact⟨h1,h2,d⟩
  ·rw[aJ e,aJ (fun f=>e (h1.trans f))];exact⟨h1,h2,b⟩
theorem KT.put{H:Hp}{kvs:List (List Key×V)}{xs:List (List Key×Addr×Value)}(r:KT H kvs xs)(k:List Key){b:Addr}{y:V}{u:Value}(c:H b=some (.tup (k.map kV)))(a:RelV y u) :
  KT H (putK kvs k y) (storedH xs k b u):=by
 have e:(kvs.any fun d=>decide (d.1=k))=(atKey xs k).isSome:=by
  rw[vQ,(r.val k).oZ,OD]
 unfold putK storedH;rw[e];by_cases q:(atKey xs k).isSome=true
 ·rw[aL q,aL q];exact r.repl k a
 ·rw[aJ q,aJ q];exact Paired.snoc r ⟨rfl,c,a⟩
theorem KT.keeps{H c:Hp}{kvs:List (List Key×V)}{xs:List (List Key×Addr×Value)}(r:KT H kvs xs)(ht:∀ b d,H b=some (.tup d)->c b=some (.tup d)):KT c kvs xs:=
 Paired.a3j r fun _ _ a=>⟨a.1,ht _ _ a.2.1,a.2.2⟩
section
variable{P:Program}{w:World}{H:Hp}{h:Heap}{a:Addr}
theorem a2g{u:HO}(ok:HOk P w H h)(e:Rd H a u):g8 P w H h a u:=e.ok ok
theorem Ji{kvs:List (Key×V)}(ok:HOk P w H h)(e:Rd H a (.dK kvs)):kvs.length<=sizeLine/\(a==sysModules)=false/\∃ vs,KV kvs vs/\h.DictOf (gH P w) a vs:=
 show g8 P w H h a (.dK kvs) from a2g ok e
theorem a4N{kvs:List (Key×V)}(ok:HOk P w H h)(e:H a=some (.dK kvs)):kvs.length<=sizeLine/\(a==sysModules)=false/\∃ vs,KV kvs vs/\h.DictOf (gH P w) a vs:=Ji ok (.inl e)
theorem wZ{b:List Key}(ok:HOk P w H h)(e:H a=some (.tup (b.map kV))):(tupleKind (gH P w)).is h b a:=by
 obtain⟨_,d,r,o,h1,h2,n,c⟩:=(show g8 P w H h a (.tup (b.map kV)) from ok a _ e)
 exact⟨o,d.toArray,n,h1,h2,c,by simpa using Ew r⟩
theorem Jk{kvs:List (List Key×V)}(ok:HOk P w H h)(e:Rd H a (.dT kvs)):kvs.length<=sizeLine/\(a==sysModules)=false /\
  ∃ xs,KT H kvs xs/\h.DictOfH (tupleKind (gH P w)) a xs:=by
 obtain⟨k,y,xs,r,o,es,d,h1,h2,f,g,i⟩:=(show g8 P w H h a (.dT kvs) from a2g ok e)
 refine⟨k,y,xs,r,o,es,d,h1,h2,f,g,fun x b=>?_,i⟩;have all:∀ {l:List (List Key×V)} {m:List (List Key×Addr×Value)},KT H l m->∀ x∈m,(tupleKind (gH P w)).is h x.1 x.2.1:=by
  intro l m q
  induction q with
  |nil=>intro x b;exact nomatch b
  |@cons p q ps n c t j=>
   intro x b;rcases cZ.mp b with e|b
   ·subst e;exact wZ ok (by rw[<- c.1];exact c.2.1)
   ·exact j x b
 exact all r x b
theorem Q6{kvs:List (List Key×V)}(ok:HOk P w H h)(e:H a=some (.dT kvs)):kvs.length<=sizeLine/\(a==sysModules)=false /\
  ∃ xs,KT H kvs xs/\h.DictOfH (tupleKind (gH P w)) a xs:=Jk ok (.inl e)
end
def vX(H:Hp)(a:Addr)(y:V)(r:Option V):Prop:=
 (∃ kvs k,Rd H a (.dK kvs)/\y=kV k/\r=tR kvs k)\/∃ kvs k b,Rd H a (.dT kvs)/\y=.ref b/\H b=some (.tup (k.map kV))/\r=tR kvs k
def KH(H:Hp)(a:Addr)(y v:V)(H':Hp):Prop:=
 (∃ kvs k,H a=some (.dK kvs)/\y=kV k/\kvs.length<sizeLine/\H'=upd H a (.dK (putK kvs k v))) \/
 ∃ kvs k b,H a=some (.dT kvs)/\y=.ref b/\H b=some (.tup (k.map kV))/\kvs.length<sizeLine/\H'=upd H a (.dT (putK kvs k v))
theorem vX.t{H:Hp}{a b:Addr}{kvs:List (List Key×V)}{k:List Key}(e:H a=some (.dT kvs))(c:H b=some (.tup (k.map kV))):vX H a (.ref b) (tR kvs k):=.inr ⟨kvs,k,b,.inl e,rfl,c,rfl⟩
theorem KH.t{H:Hp}{a b:Addr}{kvs:List (List Key×V)}{k:List Key}{v:V}(e:H a=some (.dT kvs))(c:H b=some (.tup (k.map kV)))(d:kvs.length<sizeLine) :
  KH H a (.ref b) v (upd H a (.dT (putK kvs k v))):=.inr ⟨kvs,k,b,e,rfl,c,d,rfl⟩
section
variable{X:Cx}{pins:List (Addr×Obj)}{zzs:St}{H:Hp}{s:Shared}{a:Addr}{y v:V}{u r:Value}{o:Option V}{A:Around}{E:Value->Shared->Prop}
theorem Inv.big(I:Inv X pins zzs H s):sysModules<s.heap.objs.size:=by
 have h:mainGlobals<s.heap.objs.size:=(I.mod.glob.keeps I.bk).lt;exact Nat.lt_trans (by decide) h
theorem TQ{Q:Value->Shared->Prop}(x:A.units+1<cLine)(I:Inv X pins zzs H s)(g:vX H a y (some v))(j:RelV y u)(h:∀ w' m,Inv X pins zzs H m->RelV v w'->Q w' m) :
  wpAny (model X.prog X.w) A (getItem (.ref a) u) Q E s:=by
 rcases g with⟨z,k,e,d,l⟩|⟨z,k,b,e,d,n,l⟩
 ·subst d;obtain⟨C,q,B,f,c⟩:=Ji I.hok e;obtain⟨w',hw,i⟩:=tQ.some_of (v:=v) (o:=valueAt B k) (by rw[l];exact f.val k);exact wpAny_getItem_of (Js j) c.mapOf hw (h w' _ (I.tok _) i)
 ·subst d;cases (show u=Value.ref b from j);obtain⟨C,q,xs,f,c⟩:=Jk I.hok e;obtain⟨w',hw,i⟩:=tQ.some_of (v:=v) (o:=(atKey xs k).map (·.2)) (by rw[l];exact f.val k);obtain⟨p,r,t⟩:=jP.mp hw;refine wpAny_getItem_heap (HD x) (wZ I.hok n) c r ?_;rw[t];exact h w' _ (I.tok _) i
theorem a69{Q:Value->Shared->Prop}(p:A.units+1<cLine)(I:Inv X pins zzs H s)(g:vX H a y o)(j:RelV y u)(h:∀ m,Inv X pins zzs H m->Q (.bool o.isSome) m) :
  wpAny (model X.prog X.w) A (compareOp .In u (.ref a)) Q E s:=by
 rcases g with⟨r,k,e,d,l⟩|⟨r,k,b,e,d,n,l⟩
 ·subst d;obtain⟨t,f,v,i,c⟩:=Ji I.hok e;refine wpAny_in_of (Js j) f c.mapOf ?_;rw[<- (i.val k).oZ,<- l];exact h _ (I.tok _)
 ·subst d;cases (show u=Value.ref b from j);obtain⟨t,f,xs,i,c⟩:=Jk I.hok e;refine wpAny_in_heap (HD p) (wZ I.hok n) f c ?_;have q:=(i.val k).oZ;rw[OD] at q;rw[<- q,<- l];exact h _ (I.tok _)
theorem a0l{Q:Value->Shared->Prop}(p:A.units+1<cLine)(I:Inv X pins zzs H s)(g:vX H a y o)(j:RelV y u)(h:∀ m,Inv X pins zzs H m->Q (.bool (!o.isSome)) m) :
  wpAny (model X.prog X.w) A (compareOp .NotIn u (.ref a)) Q E s:=by
 rcases g with⟨r,k,e,d,l⟩|⟨r,k,b,e,d,n,l⟩
 ·subst d;obtain⟨t,f,v,i,c⟩:=Ji I.hok e;refine wpAny_notIn_of (Js j) f c.mapOf ?_;rw[<- (i.val k).oZ,<- l];exact h _ (I.tok _)
 ·subst d;cases (show u=Value.ref b from j);obtain⟨t,f,xs,i,c⟩:=Jk I.hok e;refine wpAny_notIn_heap (HD p) (wZ I.hok n) f c ?_;have q:=(i.val k).oZ;rw[OD] at q;rw[<- q,<- l];exact h _ (I.tok _)
theorem Gf{h':Heap}{t':Nat}{ob:HO}(I:Inv X pins zzs H s)(g:Mut (H a))(f:Heap.SameBut a s.heap h')(d:∃ q,h'.get? a=some q)(new:g8 X.prog X.w (upd H a ob) h' a ob) :
  Inv X pins zzs (upd H a ob) { s with heap:=h',toks:=t' }:=
 I.write (x:=a) (e:=a) g (.inl rfl) (fun b q c h=>(f.2 b c).trans h) d new
theorem a2O{b:Program}{w:World}{c:Hp}{h':Heap}{kvs:List (Key×V)}{vs:List (Key×Value)}(z:kvs.length<=sizeLine)(d:(a==sysModules)=false)(e:KV kvs vs)(dd:h'.DictOf (gH b w) a vs) :
  g8 b w c h' a (.dK kvs):=⟨z,d,vs,e,dd⟩
theorem U4{C:Hp}{Q:Unit->Shared->Prop}(P:A.units+1<cLine)(I:Inv X pins zzs H s)(g:KH H a y v C)(G:RelV y u)(rv:RelV v r)(h:∀ J,Inv X pins zzs C J->Q () J) :
  wpAny (model X.prog X.w) A (setItem (.ref a) u r) Q E s:=by
 rcases g with⟨d,k,e,p,l,o⟩|⟨d,k,b,e,p,D,l,o⟩
 ·subst p o;obtain⟨i,t,R,f,n⟩:=a4N I.hok e;have B:R.length<=sizeLine:=by rw[<- f.length];exact i
  have x:(putK d k v).length<=sizeLine:=by have:=yN d k v;lia
  refine wpAny_setItem_pairs (hsz:=B) (Js G) n fun h' j z=>h _ ?_
  have O:∃ q,h'.get? a=some q:=let ⟨q,_,_,m,_⟩:=j;⟨q,m⟩;exact Gf I (by rw[e];exact True.intro) z O (a2O x t (f.put k rv) j)
 ·subst p o;cases (show u=Value.ref b from G);obtain⟨i,t,xs,f,n⟩:=Q6 I.hok e;have B:xs.length<=sizeLine:=by rw[<- Ib f];exact i
  have x:(putK d k v).length<=sizeLine:=by have:=yN d k v;lia
  refine wpAny_setItem_heap (hsz:=B) (HD P) (wZ I.hok D) n fun h' j z=>h _ ?_
  obtain⟨q,es,K,m,h2,L,M,_,N⟩:=j;refine Gf I (by rw[e];exact True.intro) z ⟨q,m⟩ ⟨x,t,_,(f.put k D rv).keeps fun c ys F=>?_,q,es,K,m,h2,L,M,N⟩;rw[aN (fX F e (fun i=>nomatch i))];exact F
end
theorem Jh{X:Cx}{pins:List (Addr×Obj)}{zzs:St}{H:Hp}{s:Shared}{a:Addr}{y:V}{o:Option V}(I:Inv X pins zzs H s)(g:vX H a y o):s.TypeIs (.ref a) "dict":=by
 rcases g with⟨d,k,e,_,_⟩|⟨d,k,b,e,_,_,_⟩
 ·obtain⟨_,_,f,_,c⟩:=Ji I.hok e;exact c.typeIs
 ·obtain⟨_,_,xs,_,c⟩:=Jk I.hok e;exact c.typeIs
theorem Jj{a:Program}{w:World}{H:Hp}(h:Heap)(b:sysModules<h.objs.size):g8 a w H (h.push { cls:=.type "dict",data:=.dict #[] }) h.objs.size (.dT []):=
 ⟨nQ _,oh.mpr (kI (gR b)),[],.nil,_,#[],0,jQ _ rfl,⟨rfl,rfl,rfl⟩,rfl,rfl,Ph⟩
def YT:TE:=fun _ H Q=>∀ p,H p=none->Q (.ref p) (upd H p (.dT []))
section
variable{X:Cx}{pos:Pos}
theorem XQ:PE X (.Dict [] [] pos) YT:=fun pins s zzs H Q b h=>
 wpAny_Dict_empty ⟨.ref s.heap.objs.size,_,b.laid (a:=s.heap.objs.size) (o:=.dT []) (t':=s.toks) (fun _ _ q=>fB _ q) (bG _) (Jj s.heap b.big),rfl,h _ (b.hok.fresh (bG _))⟩
end
def YZ:List (TE×TE)->St->Hp->(List (V×V)->Hp->Prop)->Prop
 |[],_,H,Q=>Q [] H
 |(tk,tv)::r,zzs,H,Q=>tk zzs H fun x H1=>tv zzs H1 fun y H2=>YZ r zzs H2 fun ps H3=>Q ((x,y)::ps) H3
abbrev VV:List (V×V)->List (Value×Value)->Prop:=Paired fun p q=>RelV p.1 q.1/\RelV p.2 q.2
def PPs(X:Cx)(pos:Pos)(keys:List (Option Expr))(values:List Expr)(trs:List (TE×TE)):Prop:=
 ∀(pins:List (Addr×Obj))(s:Shared)(zzs:St)(H:Hp)(Q:List (V×V)->Hp->Prop),Inv X pins zzs H s->YZ trs zzs H Q ->
  wpAny (model X.prog X.w) X.A (evalPairs (pairTrees keys values X.env pos)) (fun vs s'=>∃ ps H',Inv X pins zzs H' s'/\VV ps vs/\Q ps H') X.xe s
theorem a1n{X:Cx}{pos:Pos}:PPs X pos [] [] []:=fun pins s zzs H Q a h=>pairTrees_nil_walk ⟨[],H,a,.nil,h⟩
theorem Y4{X:Cx}{pos:Pos}{k v:Expr}{a:List (Option Expr)}{vs:List Expr}{tk c:TE}{b:List (TE×TE)}(j:PE X k tk)(m:PE X v c)(l:PPs X pos a vs b) :
  PPs X pos (some k::a) (v::vs) ((tk,c)::b):=fun pins s zzs H Q e h=>
 pairTrees_cons_walk (thn (j pins s zzs H _ e h) fun u s1 ⟨x,H1,f,r,n⟩=>thn (m pins s1 zzs H1 _ f n) fun z s2 ⟨y,H2,g,t,o⟩=>
  thn (l pins s2 zzs H2 _ g o) fun A w ⟨ps,d,i,q,p⟩=>⟨(x,y)::ps,d,i,.cons ⟨r,t⟩ q,p⟩)
section
variable{X:Cx}
def a6v:R2:=fun x y H Q=>∃ a v,x=.ref a/\vX H a y (some v)/\Q v H
theorem a0x(k:X.A.units+60<cLine):IxR X a6v:=by
 intro value m pins s zzs H x y v u Q b f i h d;obtain⟨a,j,rfl,g,q⟩:=h;cases f;exact tail_any (ops:=[.ref a,u]) (Jh b g) PySem.F.slot_dict_getitem.lookup (TQ (by lia) b g i fun n l c e=>⟨j,H,c,e,q⟩) d
def S8(neg:Bool):R2:=fun y x H Q=>∃ a o,x=.ref a/\vX H a y o/\Q (.bl (if neg then !o.isSome else o.isSome)) H
theorem Va(f:X.A.units+60<cLine):OpR X (compareOp .In) (S8 false):=by
 intro pins s zzs H y x u v Q b e d h;obtain⟨a,o,rfl,g,q⟩:=h;cases d;exact a69 (by lia) b g e fun i c=>⟨.bl o.isSome,H,c,rfl,q⟩
theorem qg(f:X.A.units+60<cLine):OpR X (compareOp .NotIn) (S8 true):=by
 intro pins s zzs H y x u v Q b e d h;obtain⟨a,o,rfl,g,q⟩:=h;cases d;exact a0l (by lia) b g e fun i c=>⟨.bl (!o.isSome),H,c,rfl,q⟩
def a5z:V->V->V->Hp->(Hp->Prop)->Prop:=fun o i v H Q=>∃ a H',o=.ref a/\KH H a i v H'/\Q H'
theorem set_dict(f:X.A.units+60<cLine):VF X a5z:=by
 intro pins s zzs H o i v k j u Q b e d rv h;obtain⟨a,H',rfl,g,q⟩:=h;cases e;exact U4 (by lia) b g d rv fun l c=>⟨H',c,q⟩
end
section
variable{X:Cx}{pos:Pos}{k v:Expr}{tk tv:TE}
def YW(tk tv:TE):TE:=fun zzs H Q=>∀ p,H p=none->tk zzs (upd H p (.dT [])) fun x H1=>tv zzs H1 fun y H2=>∃ ks b,H2 p=some (.dT [])/\x=.ref b/\H2 b=some (.tup (ks.map kV))/\Q (.ref p) (upd H2 p (.dT [(ks,y)]))
theorem XM(T:X.A.units+60<cLine)(I:PE X k tk)(L:PE X v tv):PE X (.Dict [some k] [v] pos) (YW tk tv):=by
 intro pins s zzs H Q g q;have J:=g.hok.fresh (bG s.heap.objs.size);have p:=g.laid (a:=s.heap.objs.size) (o:=.dT []) (h':=s.heap.push { cls:=.type "dict",data:=.dict #[] }) (t':=s.toks) (fun _ _ d=>fB _ d) (bG _) (Jj s.heap g.big);refine wpAny_Dict_any rfl rfl (by intro d;cases d) (by show 1<=15;decide) ?_;have M:PPs X pos [some k] [v] [(tk,tv)]:=Y4 I L a1n;refine thn (M pins _ zzs _ (fun ps H2=>match ps with
  |[(x,y)]=>∃ f b,H2 s.heap.objs.size=some (.dT [])/\x=.ref b/\H2 b=some (.tup (f.map kV))/\Q (.ref s.heap.objs.size) (upd H2 s.heap.objs.size (.dT [(f,y)]))
  |_=>False) p (q _ J)) fun W s2 h=>?_
 obtain⟨ps,H2,i,j,h⟩:=h;cases j with
 |nil=>exact h.elim
 |@cons p1 S U Y O t=>
  cases t with
  |cons _ _=>exact h.elim
  |nil=>
   obtain⟨x,y⟩:=p1;obtain⟨u,r⟩:=S;obtain⟨f,b,e,ex,l,N⟩:=h;subst ex;obtain⟨P,R⟩:=O;cases (show u=Value.ref b from P);obtain⟨d,G,xs,j,z⟩:=Q6 i.hok e;cases j;show wpAny (model X.prog X.w) X.A (storeAll s.heap.objs.size [(.ref b,r)]) _ _ s2;unfold storeAll;rw[List.forIn_cons];refine bL (bL (wpAny_dictSet_heap (knd:=tupleKind (gH X.prog X.w)) (show X.A.units<cLine by lia) (wZ i.hok l) z fun h' B K=>c7 ?_));dsimp only;rw[List.forIn_nil];refine c7 ?_;obtain⟨o,es,C,n,h2,D,E,_,F⟩:=B;refine⟨.ref s.heap.objs.size,_,Gf (ob:=.dT [(f,y)]) i (by rw[e];exact True.intro) K ⟨o,n⟩ ⟨by show 1<=sizeLine;rw[su];decide,G,_,(KT.put (kvs:=[]) (xs:=[]) .nil f l R).keeps fun c ys m=>?_,o,es,C,n,h2,D,E,F⟩,rfl,N⟩;rw[aN (fX m e (fun d=>nomatch d))];exact m
theorem a1y(b:X.A.units+60<cLine)(a:RE X k tk)(c:RE X v tv):RE X (.Dict [some k] [v] pos) (YW tk tv):=⟨XM b a.ok c.ok⟩
theorem Sd:RE X (.Dict [] [] pos) YT:=⟨XQ⟩
end
end L2
namespace L2
open PySem PySem.Spec PyProof.Rows PySem.SeqAt PySem.MeetsSeq PySem.MeetsSeq2 PySem.MeetsSeq3
open PySem.AutoSeq1 (wpAny_loadPart')
theorem Xi(I d:Addr)(i n j:Nat)(a:Array DictEntry)(dd t:Option Addr)(l B:Array (Option Value))(c:Value)(q:i<a.size)(v:n=a.size):Meets (Builtin.«dict_keyiterator.__next__» ⟨[.ref I],[]⟩)
  (fun _ R s=>s.heap.get? I=some { cls:=.type "dict_keyiterator",dict:=dd,data:=.fields #[.ref d,.int i 0,.int n 0,.int j 0],slots:=l }/\s.heap.get? d=some { cls:=.type "dict",dict:=none,data:=.dict a j,slots:=#[] } /\
   ∀ h' r,h'.get? I=some { cls:=.type "dict_keyiterator",dict:=dd,data:=.fields #[.ref d,.int ((i+1:Nat):Int) 0,.int n 0,.int j 0],slots:=l }->(∀ b o,b≠I->s.heap.get? b=some o->h'.get? b=some o)->R (.ok (.ret a[i].key)) { s with heap:=h',toks:=r }):=
 .of_wp fun prog w A R s h=>by
  obtain⟨y,g,u,tk,z⟩:=s;obtain⟨f,k,h⟩:=h
  wp_walk using wpAny_loadPart' f,wpAny_loadPart' k
  have e:(if(i:Int)<0 then none else a[((i:Nat):Int).toNat]?)=some a[i]:=by
   rw[aJ (by lia),jR,jG q]
  rw[e];dsimp only
  wp_walk using wpAny_loadPart' f,wpAny_loadPart' k
  refine⟨_,rfl,h _ tk ?_ fun b o p m=>?_⟩
  ·have:=Heap.get?_update_self (Obj.mapFields fun x=>x.setIfInBounds 1 (rawInt ((i:Int)+1))) f rfl;exact this
  ·rw[Hx _ _ _ _ p];exact m
end L2
namespace L2
open PySem PySem.Spec PyProof.Rows
structure Mth(P:Program)(w:World)(K:ao)(mg:Str->Option Value)(base:Heap)(k:Nat)(C:Addr)(m:Str)(ps:List Str)(sp:Sp):Prop where
 ex:∃ f fd,Meth K C m f/\cB P w K mg base (CXE P w) k f fd ps sp/\Binds K fd ps []
 cl:Cls K C
section
variable{X:Cx}{k j:Nat}{ps:List Str}{sp:Sp}{E:XK}{m:Str}{pos apos:Pos}{o e:Expr}{es:List Expr}{ta:TE}{t:TA}{C:Addr}
theorem Ql{a:Env}{args:List Expr}(c:attributeBase o m a (eval o a)=eval o a)(f:args.all notStar=true)(d:decide (args.length<30)=true)(e:(apos.endLine==pos.line)=true) :
  eval (.Call (.Attribute o m apos) args [] pos) a=(do
   let v <- eval o a
   standAt apos.atName
   let (g,before) <- holding [v] (getMethod v m (do return (<- importBound o a).getD true))
   callWith pos g before (backTo pos (starEach args a)) (backToKw pos (keywordEach [] a))):=by
 have b:methodCallForm (args.length+([]:List Keyword).length) (backTo pos (starEach args a)) (backToKw pos (keywordEach [] a))=true:=by
  unfold methodCallForm;rw[LR f];have:decide (args.length+([]:List Keyword).length+(if(backToKw pos (keywordEach [] a)).isEmpty then 0 else 1)<30)=true:=by
   have:=dj d;exact cR (by show args.length+0+0<30;omega)
  rw[this];rfl
 rw[arm_eval_Call,c];unfold methodCall calleeOf methodCallPos;rw[b];simp only[e,uM,Pn,pure_bind]
theorem a1z(a:Mth X.prog X.w X.K X.mg X.base k C m ps sp)(h:gK j X.A)(i:Passes (CXE X.prog X.w) X E)(g:RE X o ta)(d:k<=j:=by decide)
  (c:attributeBase o m X.env (eval o X.env)=eval o X.env:=by rfl) (e:(apos.endLine==pos.line)=true:=by rfl):RE X (.Call (.Attribute o m apos) [] [] pos) (Ku C m sp [] E ta fO):=by
 obtain⟨f,fd,M,F,b⟩:=a.ex;exact⟨XR g.ok a.cl M F (h.mono d) b .nil i (ht:=Ql c rfl rfl e)⟩
theorem N7(b:Mth X.prog X.w X.K X.mg X.base k C m ps sp)(q:gK j X.A)(r:Passes (CXE X.prog X.w) X E)(p:RE X o ta)(d:RA X (e::es) t)(i:k<=j:=by decide)(c:(e::es).all notStar=true:=by rfl)
  (h:attributeBase o m X.env (eval o X.env)=eval o X.env:=by rfl) (l:decide ((e::es).length<30)=true:=by rfl) (n:(apos.endLine==pos.line)=true:=by rfl) :
  RE X (.Call (.Attribute o m apos) (e::es) [] pos) (Ku C m sp [] E ta t):=by
 obtain⟨f,fd,M,F,g⟩:=b.ex;have a:=c;rw[yD,nO] at a;exact⟨a1i p.ok b.cl M F (q.mono i) g .nil r d.ok (hst:=nD a.1) (hpl:=vg a.2) (ht:=Ql h c l n)⟩
variable{f:Expr}{td ty tx:TE}
end
section
variable{P:Program}{w:World}
theorem M8{κ:Type} [DecidableEq κ] (knd:HeapKind P w κ) (d:Addr) (lo:(d==sysModules)=false) :
  MeetsIn P w (Builtin.«dict.__len__» ⟨[.ref d],[]⟩) (fun _ R s=>∃ xs,s.heap.DictOfH knd d xs/\∀ t t',R (.ok (.ret (.int xs.length t))) { s with toks:=t' }):=
 .of_wp fun A R s g=>by
  obtain⟨xs,a,q⟩:=g;obtain⟨k,b,h,c,i,e,f,j⟩:=a;have n:b.size=xs.length:=size_of_entries f;show wpAny _ _ (dictSize d >>= _) _ _ s;unfold dictSize;refine bL (bL (wpAny_dictEntries c e (c7 ?_)));show wpAny _ _ (Builtin.Dict.pendingCount d >>= _) _ _ s;refine bL (wpAny_pendingCount_other lo (wpAny_ret_mkInt ?_));rw[Ik,n];exact q _ _
end
section
variable{X:Cx}
def a2d:List V->Hp->VK->Prop:=fun xs H Q=>∃ a kvs,xs=[.ref a]/\H a=some (.dT kvs)/\Q (.int kvs.length) H
theorem Tp:eV X (.builtin "len") a2d:=by
 intro pins s zzs H xs p Q d r h;obtain⟨a,b,rfl,e,q⟩:=h;obtain⟨u,rfl,j⟩:=vals1 r;cases j;obtain⟨k,g,f,i,c⟩:=Q6 d.hok e;have n:f.length=b.length:=(Ib i).symm;have l:((b.length:Nat):Int)<2^63:=by rw[su] at k;lia
 refine O4 kind_len plain_len entry_len (args_len1 _) ?_;unfold Builtin.«len»;refine bL (m:=oneArg "len" _) (c7 (bL (m:=callSpecial? (.ref a) (Str.ofString "__len__")) ?_));refine Oa (name:=Str.ofString "__len__") c.typeIs ZG (call_meetsIn ZG c.typeIs PySem.F.entry_dict_len (PySem.F.args_dict_len_1 _) (M8 _ a g) ⟨f,c,fun t o=>?_⟩);rw[n];refine bL (u9 (c7 (bL (wpAny_letGo ?_))));show wpAny _ _ (if((b.length:Nat):Int)<0 then _ else _) _ _ _;rw[aJ (by lia)];show wpAny _ _ (if((b.length:Nat):Int)>=2^63 then _ else _) _ _ _;rw[aJ (by lia)];exact bL (wpAny_mkInt (c7 ⟨_,rfl,.int b.length,H,d.tok _,⟨_,rfl⟩,q⟩))
def a5y(K:ao):List V->Hp->VK->Prop:=fun xs H Q=>Yg K xs H Q\/a2d xs H Q
theorem WL{K:ao}(a:X.K=K:=by rfl):eV X (.builtin "len") (a5y K):=by subst a;exact eV.or gn Tp
end
def zm(H H':Hp):Prop:=∀ b xs,H b=some (.tup xs)->H' b=some (.tup xs)
theorem zm.put{H:Hp}{x:Addr}{o u:HO}(a:H x=some o)(c:∀ xs,o≠.tup xs):zm H (upd H x u):=fun b xs e=>by
 rw[aN (fun d=>by rw[d,a] at e;exact c xs (iy e))];exact e
section
variable{K:ao}{H H':Hp}
theorem zm.cell{v:V}{x:Cell}(s:zm H H')(h:Den K H v (aD x)):Den K H' v (aD x):=by
 obtain⟨a,rfl,_,b⟩:=eX h;exact .tup (s _ _ b) (.cons (.int _) (.cons (.int _) .nil))
theorem zm.cells(s:zm H H'):∀ {vs:List V} {a:List Cell},bw K H vs (a.map aD)->bw K H' vs (a.map aD)
 |[],[],_=>.nil
 |v::vs,c::a,.cons h t=>.cons (s.cell h) (s.cells t)
end
def j8(c:Cell):List Key:=[.inl c.1,.inl c.2]
def j7(f h d:Addr)(b:Bool):List (Str×V):=dD "lost" (.bl b) (dD "figures" (.ref d) (dD "hidden" (.ref h) (dD "field" (.ref f) [])))
theorem a2R(f h d:Addr)(b:Bool):(j7 f h d b).lookup ("lost" : Str)=some (.bl b):=by
 unfold j7;rw[bF,aL rfl]
theorem oX(f h d:Addr)(b:Bool):(j7 f h d b).lookup ("figures" : Str)=some (.ref d):=by
 unfold j7;rw[bF,aJ (by decide +kernel),bF,aL rfl]
theorem Ax(f h d:Addr)(b:Bool):(j7 f h d b).lookup ("hidden" : Str)=some (.ref h):=by
 unfold j7;rw[bF,aJ (by decide +kernel),bF,aJ (by decide +kernel),bF,aL rfl]
theorem v7(f h d:Addr)(b:Bool):(j7 f h d b).lookup ("field" : Str)=some (.ref f):=by
 unfold j7;rw[bF,aJ (by decide +kernel),bF,aJ (by decide +kernel),bF,aJ (by decide +kernel),bF,aL rfl]
theorem Ay(f h d:Addr)(b:Bool){m:Str} (a:m ≠ "lost") (c:m ≠ "figures") (e:m ≠ "hidden") (g:m ≠ "field"):(j7 f h d b).lookup m=none:=by
 unfold j7;rw[bF,aJ a,bF,aJ c,bF,aJ e,bF,aJ g];rfl
def mY(h w:Int)(st kn:List Cell):List (List Key×V):=kn.map fun c=>(j8 c,V.int (um h w st c))
theorem Jt{a b:Cell}(e:j8 a=j8 b):a=b:=by
 unfold j8 at e;injection e with e1 e2;injection e2 with e2 _;injection e1 with e1;injection e2 with e2;exact nJ e1 e2
theorem qW(h w:Int)(st:List Cell)(c:Cell):∀ b:List Cell,tR (mY h w st b) (j8 c)=if c∈b then some (.int (um h w st c)) else none
 |[]=>rfl
 |a::b=>by
  show tR ((j8 a,V.int (um h w st a))::mY h w st b) (j8 c)=_;by_cases e:a=c
  ·subst e;rw[rO rfl,aL cV]
  ·rw[rN (fun d=>e (Jt d)),qW h w st c b];by_cases m:c∈b
   ·rw[aL m,aL (eO _ m)]
   ·rw[aJ m,aJ (fun d=>(cZ.mp d).elim (fun q=>e q.symm) m)]
def iH(h w:Nat):List Str:=xY h w [] []
structure cW(K:ao)(C CV:Addr)(H:Hp)(g:Addr)(h w:Nat)(st kn:List Cell)(lost:Bool)(f hd d:Addr):Prop where
 ob:∃ dx,H g=some (.ins C dx (j7 f hd d lost))
 fl:cI CV H f (iH h w) w
 hs:Ls K H hd (st.map aD)
 dc:H d=some (.dT (mY h w st kn))
theorem cW.mono{K:ao}{C b:Addr}{H c:Hp}{g:Addr}{h w:Nat}{st j:List Cell}{k:Bool}{f i d:Addr}(a:cW K C b H g h w st j k f i d)(s:Same H c):cW K C b c g h w st j k f i d:=
 ⟨let ⟨dx,e⟩:=a.ob;⟨dx,s _ _ e⟩,a.fl.mono s,a.hs.mono s,s _ _ a.dc⟩
end L2
namespace L2
open PySem PySem.Spec PyProof.Rows PySem.SeqAt PySem.MeetsSeq PySem.MeetsSeq2 PySem.MeetsSeq3
open PySem.AutoSeq1 (wpAny_loadPart')
theorem a0p(I d:Addr)(n i:Nat)(a:Array DictEntry)(p:Array (Option Value))(r:n=a.size):Meets (Builtin.«dict_keyiterator.__next__» ⟨[.ref I],[]⟩)
  (fun A R s=>A.handled=none/\s.heap.get? I=some { cls:=.type "dict_keyiterator",dict:=none,data:=.fields #[.ref d,.int n 0,.int n 0,.int i 0],slots:=p }/\s.heap.get? d=some { cls:=.type "dict",dict:=none,data:=.dict a i,slots:=#[] } /\
   ∀(h':Heap)(e:Addr),(∃ o,h'.get? e=some o/\o.cls=.type "StopIteration")->(∀ b o,b≠I->s.heap.get? b=some o->h'.get? b=some o)->R (.error (.ref e)) { s with heap:=h' }):=
 .of_wp fun prog w A R s h=>by
  obtain⟨t,g,q,tk,u⟩:=s;obtain⟨l,c,f,h⟩:=h
  wp_walk using wpAny_loadPart' c,wpAny_loadPart' f
  have e:(if(n:Int)<0 then none else a[((n:Nat):Int).toNat]?)=none:=by
   rw[aJ (by lia),jR];exact Zz (by lia)
  rw[e];dsimp only
  wp_walk using wpAny_loadPart' c,wpAny_loadPart' f
  unfold raiseNew;refine bL (wpAny_handled ?_);have m:A.in1.handled=none:=l;rw[m];refine bL (c7 (wpAny_throw (h _ _ ⟨_,jQ _ rfl,rfl⟩ fun b o k j=>fB _ (fB _ ?_))));rw[Hx _ _ _ _ k];exact j
section
variable{P:Program}{w:World}{A:Around}{E:Value->Shared->Prop}{s:Shared}
def KIt(I d:Addr)(es:Array DictEntry)(ep i:Nat)(h:Heap):Prop:=
 (∃ z1,h.get? I=some { cls:=.type "dict_keyiterator",dict:=none,data:=.fields #[.ref d,.int i 0,.int es.size 0,.int ep 0],slots:=z1 })/\h.get? d=some { cls:=.type "dict",dict:=none,data:=.dict es ep,slots:=#[] }
theorem KIt.ty{I d:Addr}{b:Array DictEntry}{a i:Nat}(k:KIt I d b a i s.heap):s.TypeIs (.ref I) "dict_keyiterator":=let ⟨_,e⟩:=k.1;⟨_,e,rfl⟩
theorem WY{I d:Addr}{a:Array DictEntry}{c i:Nat}{Q:Option Value->Shared->Prop}(k:KIt I d a c i s.heap)(p:d≠I)(n:i<a.size)
  (m:∀ h' e,KIt I d a c (i+1) h'->(∀ b o,b≠I->s.heap.get? b=some o->h'.get? b=some o)->Q (some a[i].key) { s with heap:=h',toks:=e }):wpAny (model P w) A (pyNext (.ref I)) Q E s:=by
 obtain⟨⟨h,j⟩,f⟩:=id k;unfold pyNext;refine bL (CW (Oa (name:=Str.ofString "__next__") k.ty Kz
  (nG Kz k.ty Zi (Zh _) (Xi I d i a.size c a none none h #[] .none n rfl) ⟨j,f,fun h' e l g=>?_⟩)))
 exact c7 (m h' e ⟨⟨h,l⟩,g d _ p f⟩ g)
theorem a0D{I d:Addr}{a:Array DictEntry}{c:Nat}{Q:Option Value->Shared->Prop}(j:A.handled=none)(k:KIt I d a c a.size s.heap)
  (i:∀ h',(∀ b o,b≠I->s.heap.get? b=some o->h'.get? b=some o)->Q none { s with heap:=h' }):wpAny (model P w) A (pyNext (.ref I)) Q E s:=by
 obtain⟨⟨m,f⟩,g⟩:=id k;unfold pyNext;refine bL (CW (Oa (name:=Str.ofString "__next__") k.ty Kz
  (nG Kz k.ty Zi (Zh _) (a0p I d a.size c a m rfl) ⟨j,f,g,fun h' e l h=>?_⟩)))
 obtain⟨o,h1,h2⟩:=l;refine bL (wpAny_isInstance (T:="StopIteration") (b:=true) ⟨o,h1,h2⟩ isSubtype_stop ?_);exact c7 (i h' h)
theorem WX{d:Addr}{b:Array DictEntry}{a:Nat}{Q:Value->Shared->Prop}(lo:(d==sysModules)=false) (e:s.heap.get? d=some { cls:=.type "dict",dict:=none,data:=.dict b a,slots:=#[] })
  (c:Q (.ref s.heap.objs.size) { s with heap:=s.heap.push { cls:=.type "dict_keyiterator",dict:=none,data:=.fields #[.ref d,.int 0 0,.int b.size 0,.int a 0],slots:=#[] } }):wpAny (model P w) A (pyIter (.ref d)) Q E s:=by
 have ty:s.TypeIs (.ref d) "dict":=⟨_,e,rfl⟩
 refine wpAny_pyIter_slot ty ZC (Pa ZC ty PySem.F.entry_dict_iter ?_ (PySem.F.args_dict_iter_1 _));unfold Builtin.«dict.__iter__»;refine bL ?_;unfold Builtin.Dict.dictSlotNone;refine bL (wpAny_notOrdered_dict ty ?_);refine c7 ?_;show wpAny _ _ (Builtin.Dict.showsAll d >>= _) _ _ s;unfold Builtin.Dict.showsAll;rw[lo,aJ (by decide)];refine bL (c7 (bL (wpAny_dictEntries e rfl (bL (wpAny_dictEpoch e rfl ?_)))));exact bL (Ox (c7 ⟨_,rfl,"dict_keyiterator",_,⟨_,jQ _ rfl,rfl⟩,Kz.lookup,c⟩))
theorem Uu(n:A.handled=none)(I d:Addr)(q:d≠I)(g:Array DictEntry)(m:Nat):Walks P w A I [I,d] [I] g.size (fun i v=>∃ h:i<g.size,v=g[i].key) (KIt I d g m) where
 sub:=fun b c=>by rw[cN.mp c];exact cV
 frame:=fun i h h' st l=>⟨let ⟨f,e⟩:=st.1;⟨f,l I cV _ e⟩,l d (eO _ cV) _ st.2⟩
 item:=fun i s Q E k st a=>WY st q k fun h' r p keep=>a _ h' r ⟨k,rfl⟩ p fun b o c j=>keep b o (fun f=>c (by rw[f];exact cN.mpr rfl)) j
 done:=fun s Q E st a=>a0D n st fun h' keep=>a h' s.toks fun b o c j=>keep b o (fun f=>c (by rw[f];exact cN.mpr rfl)) j
 self:=fun i s Q E st a=>let ⟨_,e⟩:=st.1;wpAny_pyIter_keyiter ⟨_,e,rfl,rfl⟩ a
theorem a0E(d:Addr)(lo:(d==sysModules)=false)(a:Array DictEntry)(c:Nat):PySem.W.KdlSrc P w "dict" d d a.size (fun i v=>∃ h:i<a.size,v=a[i].key) (fun h=>h.get? d=some { cls:=.type "dict",dict:=none,data:=.dict a c,slots:=#[] }) where
 type:=fun s e=>⟨_,e,rfl⟩
 there:=fun h e=>⟨bZ e,bZ e⟩
 keep:=fun h h' e g=>g d (.inl rfl) _ e
 notList:=by decide
 notTuple:=by decide
 hint:=fun A E s Q e b=>PySem.W.kdl_hint_dict ⟨_,e,rfl⟩ b
 iter:=fun A s f e=>⟨_,_,fun E Q b=>WX lo e b,Uu f _ d (gR (bZ e)) a c,⟨⟨_,jQ _ rfl⟩,fB _ e⟩⟩
theorem Jv{T:String}{r d:Addr}{n:Nat}{j:Nat->Value->Prop}{p:Heap->Prop}{C:List Value->Shared->Prop}(k:PySem.W.KdlSrc P w T r d n j p)(u:A.handled=none)(ok:p s.heap)(hz:n<=sizeLine)
  (fin:∀(a:Heap)(tk:Nat)(g:Array Value),(∀ b o,s.heap.get? b=some o->a.get? b=some o)->s.heap.objs.size<=a.objs.size->ItemsOf j g n->C g.toList { s with heap:=a,toks:=tk }):wpAny (model P w) A (collect (.ref r)) C E s:=by
 obtain⟨z,v⟩:=k.there _ ok;unfold collect;refine bL (wpAny_runValue (CT PySem.F.entry_proto_collect ?_));rw[Hv PySem.F.plain_proto_collect _];show wpAny _ A.in1 (newList [] >>= fun q=>again (.builtin "list.__iadd__" ⟨[q,.ref r],[]⟩)) _ _ s;refine bL (Ox (c7 ⟨plainId_quiet Zv _,CT PySem.F.entry_list_iadd ?_⟩));rw[Hv Zv _];have new:(s.heap.push { cls:=.type "list",data:=.seq ([]:List Value).toArray }).get? s.heap.objs.size=some { cls:=.type "list",data:=.seq #[] }:=jQ _ rfl;have done:∀(a:Heap)(tk:Nat)(g:Array Value)(c:Nat),(∀ b o,b≠s.heap.objs.size->(s.heap.push { cls:=.type "list",data:=.seq ([]:List Value).toArray }).get? b=some o->a.get? b=some o)->a.get? s.heap.objs.size=some { cls:=.type "list",dict:=none,data:=.seq g c,slots:=#[] }->ItemsOf j g n ->
   wpAny (model P w) A (load s.heap.objs.size >>= fun o=>match o.data with|.seq xs _=>pure xs.toList|_=>unsupported "internal:collect") C E { s with heap:=a,toks:=tk }:=fun a tk g c l i m=>by
  refine bL (wpAny_load i (c7 (fin a tk g (fun b o e=>l b o (gR (bZ e)) (fB _ e)) (Ie (bZ i)) m)))
 have t:=PySem.W.kdl_extend (A:=A) (s:={ s with heap:=s.heap.push { cls:=.type "list",data:=.seq ([]:List Value).toArray } })
  (R:=fun(x:Result)(s2:Shared)=>x=.ok (.ret (.ref s.heap.objs.size))/\wpAny (model P w) A (load s.heap.objs.size >>= fun o=>match o.data with|.seq xs _=>pure xs.toList|_=>unsupported "internal:collect") C E s2)
  k u (k.keep _ _ ok fun b _ o e=>fB _ e) s.heap.objs.size (Ig z) (Ig v) (.ref s.heap.objs.size) 0 new (fun a tk g c l i m=>⟨rfl,done a tk g c l i m⟩) hz
 refine jL t (fun x s2 y=>?_) fun e s2 y=>?_
 ·cases x with
  |done f=>
   obtain⟨e,y⟩:=y;cases e;exact y
  |again c=>
   refine⟨y.1,yF y.2 fun q B h=>?_⟩;obtain⟨e,h⟩:=h;subst e;exact h
 ·exact absurd y.1 (by intro h;cases h)
end
open PySem.W
section
variable{X:Cx}
theorem a2x{a:List Cell}{n:Nat}{o:Array Nat}(p:n=a.length)(g:Good n o)(l:Ir gj (fun i=>a.getD i (0,0)) o n):Asc (o.toList.map fun i=>a.getD i (0,0)):=by
 unfold Asc;rw[yZ];intro i j b c m;rw[bf,nM,g.size] at b c;have e:=l.le nW (j-i) i (by lia);have f:i+(j-i)=j:=by lia
 rw[f] at e;have h:=iY e;have sz:=g.size;have key:∀ k,(d:k<n)->Ky (fun i=>a.getD i (0,0)) o k=(o.toList.map fun i=>a.getD i (0,0))[k]'(by rw[bf,nM,sz];exact d):=fun k d=>by
  unfold Ky;rw[CK,o9,jG (by lia)];rfl
 rw[<- key i b,<- key j c];exact h
theorem Ju{K:ao}{H:Hp}{f:Cell->V}:∀ {b:List Cell} {a:List (List Key×Addr×Value)},KT H (b.map fun c=>(j8 c,f c)) a->bw K H (a.map fun x=>V.ref x.2.1) (b.map aD)
 |[],a,h=>by cases h;exact .nil
 |c::b,a,h=>by
  cases h with
  |@cons p q ps e d t=>exact .cons (.tup (show H q.2.1=some (.tup [.int c.1,.int c.2]) from d.2.1) (.cons (.int _) (.cons (.int _) .nil))) (Ju t)
theorem Fb:∀(a:List (List Key×Addr×Value)),Vals (a.map fun x=>V.ref x.2.1) (a.map fun x=>Value.ref x.2.1)
 |[]=>.nil
 |x::a=>.cons rfl (Fb a)
def Yi(K:ao):List V->Hp->VK->Prop:=fun xs H Q=>∃(d:Addr)(cs:List Cell)(f:Cell->V),xs=[.ref d]/\H d=some (.dT (cs.map fun c=>(j8 c,f c)))/\cs.length<64/\∀ l ws ds,H l=none->bw K H ws (ds.map aD)->ds.Perm cs->Asc ds->Q (.ref l) (upd H l (.lst ws))
theorem Ld(af:X.calm=true)(ay:X.A.units+60<cLine):eV X (.builtin "sorted") (Yi X.K):=by
 intro pins s zzs H xs aC Q l r h;obtain⟨d,cs,f,rfl,e,ax,q⟩:=h;obtain⟨u,rfl,ao⟩:=vals1 r;cases ao;obtain⟨aE,aj,c,an,al,es,J,ac,ae,L,M,aw⟩:=Q6 l.hok e;have ad:s.heap.get? d=some { cls:=.type "dict",dict:=none,data:=.dict es J,slots:=#[] }:=by
  obtain⟨ar,as,au,av⟩:=al;obtain⟨D,E,F⟩:=ae;dsimp only at D E F L;subst D E F L;exact ac
 have n:=Ju (K:=X.K) an;have rv:=Fb c;have aB:es.size=c.length:=size_of_entries M;have R:c.length=cs.length:=by have:=n.length;rwa[bf,bf] at this
 have ai:es.size<=sizeLine:=by rw[su];lia
 refine O4 kind_sorted plain_sorted entry_sorted (args_sorted1 _) ?_;unfold Builtin.«sorted»;refine bL (m:=checkCount "sorted" 1 1 _) (c7 (bL (Jv (a0E d aj es J) (l.ok.hd af) ad ai fun k tk y keep G B=>?_)));have Z:y.toList=c.map fun x=>Value.ref x.2.1:=by
  refine Cz fun j=>?_
  rw[Ft,dF];by_cases P:j<es.size
  ·have N:j<y.size:=by rw[B.1];exact P
   obtain⟨_,ab⟩:=B.2 j y[j] (jG N);rw[jG N,ab];have hw:j<c.length:=by lia
   have:es.toList[j]?=(c.map (entryOfKey (tupleKind (gH X.prog X.w))))[j]? :=by rw[M]
   rw[Ft,jG P,dF,iM hw] at this;rw[iM hw];have Y:=iy this;rw[Y];rfl
  ·rw[Zz (by rw[B.1];lia),Fv (by lia)];rfl
 rw[Z];have C:(c.map fun x=>Value.ref x.2.1).length=cs.length:=by rw[bf,R]
 have S:(c.map fun x=>V.ref x.2.1).length=cs.length:=by rw[bf,R]
 generalize aA:(c.map fun x=>V.ref x.2.1)=vs at n rv S;generalize az:(c.map fun x=>Value.ref x.2.1)=its at rv C;have z:its.length<=sizeLine:=by rw[su];lia
 refine bL (wpAny_newList ?_ (by simpa using z));have t:(k.push (seqObj "list" its.toArray 0)).get? k.objs.size=some (seqObj "list" its.toArray 0):=jQ _ rfl;show wpAny _ _ _ _ _ { s with heap:=k.push (seqObj "list" its.toArray 0),toks:=tk };refine bL (u9 (Pa slot_list_sort ⟨_,t,rfl⟩ entry_list_sort (Iv (h0:=s.heap) nW (Ek l n rv) (by show X.A.units+1+1+2<cLine;lia) (yJ l n rv) z t (fun b o p=>⟨fB _ (keep b o p),gR (bZ (keep b o p))⟩) fun o g aq=>⟨_,rfl,c7 ⟨_,rfl,?_⟩⟩) (args_list_sort _)));obtain⟨aa,ag⟩:=sortedHeap_at (vs:=its) (out:=(byP its o).toArray) t;have ah:H k.objs.size=none:=l.hok.fresh G;have I:∀ i∈o.toList,i<vs.length:=fun i O=>by rw[S,<- C];exact dO.mp (g.perm.mem_iff.mp O)
 have ap:Vals (o.toList.map fun i=>vs.getD i .non) (byP its o):=zP rv o.toList I;have U:bw X.K H (o.toList.map fun i=>vs.getD i .non) ((o.toList.map fun i=>cs.getD i (0,0)).map aD):=by
  have:=Gg (d0:=aD (0,0)) n o.toList I;have W:(o.toList.map fun i=>(cs.map aD).getD i (aD (0,0)))=((o.toList.map fun i=>cs.getD i (0,0)).map aD):=by
   rw[qH];refine Hy fun i O=>?_
   simp only[eE,dF,Function.comp];cases cs[i]?<;>rfl
  rw[<- W];exact this
 have am:(o.toList.map fun i=>cs.getD i (0,0)).Perm cs:=vo (by rw[<- C];exact g.perm);have T:Asc (o.toList.map fun i=>cs.getD i (0,0)):=a2x (by omega) g aq;have ak:(o.toList.map fun i=>vs.getD i .non).length<=sizeLine:=by
  rw[bf,nM,g.size];exact z
 refine⟨.ref k.objs.size,upd H k.objs.size (.lst (o.toList.map fun i=>vs.getD i .non)),l.laid (a:=k.objs.size) (o:=.lst (o.toList.map fun i=>vs.getD i .non)) (t':=tk) (fun b o p=>?_) G ⟨ak,byP its o,aa,ap,ag⟩,rfl,q _ _ _ ah U am T⟩;have v:=keep b o p;rw[sortedHeap_old (gR (bZ v)) (by rw[size_push'];exact yu (bZ v))];exact fB _ v
theorem a0z{K:ao}(b:X.calm=true)(c:X.A.units+60<cLine)(a:X.K=K:=by rfl):eV X (.builtin "sorted") (Yi K):=by subst a;exact Ld b c
end
end L2
namespace L2
open PySem PySem.Spec PyProof.Rows
end L2
namespace L2
open PySem PySem.Spec PyProof.Rows PySem.SeqAt PySem.MeetsSeq PySem.MeetsSeq2 PySem.MeetsSeq3
open PySem.AutoSeq1 (wpAny_loadPart')
namespace SF
end SF
end L2
namespace L2
open PySem PySem.Spec PyProof.Rows PySem.SeqAt PySem.MeetsSeq PySem.MeetsSeq2 PySem.MeetsSeq3
open PySem.AutoSeq1 (wpAny_loadPart')
end L2
namespace L2
open PySem PySem.Spec PyProof.Rows PySem.W
end L2
namespace L2
open PySem PySem.Spec PyProof.Rows PySem.SeqAt PySem.MeetsSeq PySem.MeetsSeq2 PySem.MeetsSeq3
open PySem.AutoSeq1 (wpAny_loadPart')
theorem Kd(A:Around)(s:Shared)(a:Int)(t:Tok)(c:Int)(u:Tok)(prog:Program)(w:World)(b:Value->Shared->Prop)(Q:Value->Shared->Prop)(h:Q (.bool (decide (a<c))) s):wpAny (model prog w) A (richCompare .Lt (.int a t) (.int c u)) Q b s:=
 (lt_int h:wpAny (model prog w) A (compareOp .Lt (.int a t) (.int c u)) Q b s)
theorem Kc(A:Around)(s:Shared)(a:Int)(t:Tok)(c:Int)(u:Tok)(prog:Program)(w:World)(b:Value->Shared->Prop)(Q:Value->Shared->Prop)(h:Q (.bool (decide (c<a))) s):wpAny (model prog w) A (richCompare .Gt (.int a t) (.int c u)) Q b s:=
 (gt_int h:wpAny (model prog w) A (compareOp .Gt (.int a t) (.int c u)) Q b s)
theorem a0J(p q:Addr)(a c e f:Int)(t1 t2 l o:Tok)(n m:Nat)(z B:Option Addr)(I J:Array (Option Value)):Meets (Builtin.«tuple.__lt__» ⟨[.ref p,.ref q],[]⟩)
  (fun _ R s=>s.heap.get? p=some { cls:=.type "tuple",dict:=z,data:=.seq #[.int a t1,.int c t2] n,slots:=I }/\s.heap.get? q=some { cls:=.type "tuple",dict:=B,data:=.seq #[.int e l,.int f o] m,slots:=J }/\R (.ok (.ret (.bool (gj (a,c) (e,f))))) s):=
 .of_wp fun prog w A R s h=>by
  obtain⟨i,g,d,tk,j⟩:=s;obtain⟨C,D,h⟩:=h;have f2:=O7;have F:=fun(Q:Bool->Shared->Prop)(E:Value->Shared->Prop)(h:Q (a==e) ⟨i,g,d,tk,j⟩)=>(rW (t:=t1) (u:=l) h:wpAny (model prog w) A.in1 (eqBool (.int a t1) (.int e l)) Q E ⟨i,g,d,tk,j⟩)
  have y:=fun(Q:Bool->Shared->Prop)(E:Value->Shared->Prop)(h:Q (c==f) ⟨i,g,d,tk,j⟩)=>(rW (t:=t2) (u:=o) h:wpAny (model prog w) A.in1 (eqBool (.int c t2) (.int f o)) Q E ⟨i,g,d,tk,j⟩)
  have G:=Kd A.in1 ⟨i,g,d,tk,j⟩ a t1 e l prog w;have H:=Kd A.in1 ⟨i,g,d,tk,j⟩ c t2 f o prog w;have out:∀ b:Bool,(b=true↔bA (a,c) (e,f))->R (.ok (.ret (.bool b))) ⟨i,g,d,tk,j⟩:=fun b x=>by
   have:b=gj (a,c) (e,f):=by
    unfold gj;by_cases k:bA (a,c) (e,f)
    ·rw[cR k];exact x.mpr k
    ·rw[cU k];cases b
     ·rfl
     ·exact absurd (x.mp rfl) k
   rw[this];exact h
  wp_walk using wpAny_loadPart' C,wpAny_loadPart' D,F,y
  by_cases r:a=e
  ·rw[show(a==e)=true from jM.mpr r]
   wp_walk using y
   by_cases v:c=f
   ·rw[show(c==f)=true from jM.mpr v]
    wp_walk
    refine⟨_,rfl,out _ ?_⟩;simp[Builtin.Tuple.tupleCompareSizes,bA,r,v]
   ·rw[show(c==f)=false from oh.mpr v]
    wp_walk using H
    refine⟨_,rfl,out _ ?_⟩;rw[iw];unfold bA;dsimp only;lia
  ·rw[show(a==e)=false from oh.mpr r]
   wp_walk using G
   refine⟨_,rfl,out _ ?_⟩;rw[iw];unfold bA;dsimp only;lia
theorem a0v(p q:Addr)(a c e f:Int)(t1 t2 l o:Tok)(n m:Nat)(z B:Option Addr)(I J:Array (Option Value)):Meets (Builtin.«tuple.__gt__» ⟨[.ref p,.ref q],[]⟩)
  (fun _ R s=>s.heap.get? p=some { cls:=.type "tuple",dict:=z,data:=.seq #[.int a t1,.int c t2] n,slots:=I }/\s.heap.get? q=some { cls:=.type "tuple",dict:=B,data:=.seq #[.int e l,.int f o] m,slots:=J }/\R (.ok (.ret (.bool (gj (e,f) (a,c))))) s):=
 .of_wp fun prog w A R s h=>by
  obtain⟨i,g,d,tk,j⟩:=s;obtain⟨C,D,h⟩:=h;have f2:=O7;have F:=fun(Q:Bool->Shared->Prop)(E:Value->Shared->Prop)(h:Q (a==e) ⟨i,g,d,tk,j⟩)=>(rW (t:=t1) (u:=l) h:wpAny (model prog w) A.in1 (eqBool (.int a t1) (.int e l)) Q E ⟨i,g,d,tk,j⟩)
  have y:=fun(Q:Bool->Shared->Prop)(E:Value->Shared->Prop)(h:Q (c==f) ⟨i,g,d,tk,j⟩)=>(rW (t:=t2) (u:=o) h:wpAny (model prog w) A.in1 (eqBool (.int c t2) (.int f o)) Q E ⟨i,g,d,tk,j⟩)
  have G:=Kc A.in1 ⟨i,g,d,tk,j⟩ a t1 e l prog w;have H:=Kc A.in1 ⟨i,g,d,tk,j⟩ c t2 f o prog w;have out:∀ b:Bool,(b=true↔bA (e,f) (a,c))->R (.ok (.ret (.bool b))) ⟨i,g,d,tk,j⟩:=fun b x=>by
   have:b=gj (e,f) (a,c):=by
    unfold gj;by_cases k:bA (e,f) (a,c)
    ·rw[cR k];exact x.mpr k
    ·rw[cU k];cases b
     ·rfl
     ·exact absurd (x.mp rfl) k
   rw[this];exact h
  wp_walk using wpAny_loadPart' C,wpAny_loadPart' D,F,y
  by_cases r:a=e
  ·rw[show(a==e)=true from jM.mpr r]
   wp_walk using y
   by_cases v:c=f
   ·rw[show(c==f)=true from jM.mpr v]
    wp_walk
    refine⟨_,rfl,out _ ?_⟩;simp[Builtin.Tuple.tupleCompareSizes,bA,r,v]
   ·rw[show(c==f)=false from oh.mpr v]
    wp_walk using H
    refine⟨_,rfl,out _ ?_⟩;rw[iw];unfold bA;dsimp only;lia
  ·rw[show(a==e)=false from oh.mpr r]
   wp_walk using G
   refine⟨_,rfl,out _ ?_⟩;rw[iw];unfold bA;dsimp only;lia
section
variable{X:Cx}{K:ao}
def a5t(K:ao):R2:=fun x y H Q=>∃(a b:Cell),Den K H x (aD a)/\Den K H y (aD b)/\Q (.bl (gj b a)) H
theorem a3C(I:X.A.units+60<cLine):OpR X (compareOp .Gt) (a5t X.K):=by
 intro pins s zzs H x y v u Q c w z h;obtain⟨a,b,i,j,q⟩:=h;obtain⟨p,o,B,C,n,rfl,f,d,f1⟩:=mU c i w;obtain⟨t,o',D,E,m,rfl,g,e,f2⟩:=mU c j z;obtain⟨oc,od,of,l⟩:=o;obtain⟨J,k,L,r⟩:=o';dsimp only at d f1 e f2;subst d f1 e f2;refine Od (op:=.Gt) ⟨_,f,rfl⟩ ⟨_,g,rfl⟩ PySem.F.slot_tuple_gt PySem.F.entry_tuple_gt (PySem.F.args_tuple_gt_2 _ _) (a0v p t a.1 a.2 b.1 b.2 B C D E n m od k l r) ⟨f,g,?_⟩ (by lia);exact(show Value.bool (gj b a)≠Value.notImplemented/\EP X pins zzs Q (.bool (gj b a)) s from⟨(fun G=>nomatch G),⟨.bl (gj b a),H,c,rfl,q⟩⟩)
theorem a5a(b:X.A.units+60<cLine)(a:X.K=K:=by rfl):OpR X (compareOp .Gt) (a5t K):=by subst a;exact a3C b
end
def llt:List Cell->List Cell->Bool
 |[],[]=>false
 |[],_::_=>true
 |_::_,[]=>false
 |a::x,b::y=>if a=b then llt x y else gj a b
theorem vd:kY llt:=by
 refine⟨?_,?_,?_⟩
 ·intro a
  induction a with
  |nil=>intro b h;cases b<;>first|rfl|(cases h)
  |cons x a f=>
   intro b h;cases b with
   |nil=>cases h
   |cons y b=>
    unfold llt at h ⊢;by_cases e:x=y
    ·rw[aL e] at h;rw[aL e.symm];exact f b h
    ·rw[aJ e] at h;rw[aJ (kI e)];exact nW.Iw _ _ h
 ·intro a
  induction a with
  |nil=>intro b c _ h;cases c<;>first|rfl|skip;cases b<;>simp_all[llt]
  |cons x a f=>
   intro b c h1 h2;cases b with
   |nil=>simp[llt] at h1
   |cons y b=>
    cases c with
    |nil=>simp[llt] at h2
    |cons i c=>
     unfold llt at h1 h2 ⊢;by_cases g:y=x
     ·subst g;rw[aL rfl] at h1;by_cases d:i=y
      ·rw[aL d] at h2 ⊢;exact f b c h1 h2
      ·rw[aJ d] at h2 ⊢;exact h2
     ·rw[aJ g] at h1;by_cases d:i=y
      ·subst d;rw[aJ g];exact h1
      ·rw[aJ d] at h2;by_cases j:i=x
       ·subst j;exact absurd (nW.anti _ _ h1 h2) (by simpa using g)
       ·rw[aJ j];exact nW.tr _ _ _ h1 h2
 ·intro a
  induction a with
  |nil=>intro b h1 h2;cases b<;>simp_all[llt]
  |cons x a f=>
   intro b h1 h2;cases b with
   |nil=>simp[llt] at h2
   |cons y b=>
    unfold llt at h1 h2;by_cases e:x=y
    ·rw[aL e] at h1;rw[aL e.symm] at h2;rw[e,f b h1 h2]
    ·rw[aJ e] at h1;rw[aJ (kI e)] at h2;exact absurd (nW.anti _ _ h1 h2) e
def a2w(A:Around)(s:Shared)(y x:Value)(b:Bool):Prop:=
 ∀(prog:Program)(w:World)(E:Value->Shared->Prop)(Q:Value->Shared->Prop),Q (.bool b) s->wpAny (model prog w) A (richCompare .Lt y x) Q E s
theorem a0I(l b:Addr)(xs e:Array Value)(n m:Nat)(v x:Option Addr)(I J:Array (Option Value))(c a:List Cell)(E:xs.size=c.length)(F:e.size=a.length)(k:Nat) :
  ∀ i:Nat,c.length-i=k->i<=c.length->i<=a.length->Meets (Builtin.«list.__eq__.loop» ⟨[.ref l,.ref b,rawInt i,rawInt 0],[]⟩)
   (fun A R s=>s.heap.get? l=some { cls:=.type "list",dict:=v,data:=.seq xs n,slots:=I }/\s.heap.get? b=some { cls:=.type "list",dict:=x,data:=.seq e m,slots:=J } /\
    (∀ j (L:j<xs.size) (M:j<e.size) (N:j<c.length) (O:j<a.length),EqAt A.in1 s xs[j] e[j] (decide (c[j]=a[j]))/\a2w A.in1 s xs[j] e[j] (gj c[j] a[j])) /\
    R (.ok (.ret (.bool (llt (c.drop i) (a.drop i))))) s):=by
 have fin:∀ i,i<=c.length->i<=a.length->(i=c.length\/i=a.length)->llt (c.drop i) (a.drop i)=decide (xs.size<e.size):=fun i i1 i2 P=>by
  rw[E,F];by_cases K:i=c.length
  ·rw[Oe (by lia)];by_cases t:i=a.length
   ·rw[Oe (by lia),cU (by lia)];rfl
   ·rw[yX (by lia),cR (by lia)];rfl
  ·have t:i=a.length:=by lia
   rw[yX (by lia),Oe (l:=a) (by lia),cU (by lia)];rfl
 induction k with
 |zero=>
  intro i C i1 i2 prog w A R s h;obtain⟨D,g,d,tk,H⟩:=s;obtain⟨o,f,u,h⟩:=h
  wp_walk using wpAny_loadPart' o,wpAny_loadPart' f
  have p:xs[((i:Nat):Int).toNat]?=none:=by simp;lia
  rw[p];rw[fin i i1 i2 (.inl (by lia))] at h;cases e[((i:Nat):Int).toNat]?
  all_goals
   wp_walk using wpAny_loadPart' o,wpAny_loadPart' f
   exact h
 |succ k G=>
  intro i C i1 i2 prog w A R s h;obtain⟨D,g,d,tk,H⟩:=s;obtain⟨o,f,u,h⟩:=h
  wp_walk using wpAny_loadPart' o,wpAny_loadPart' f
  have p:xs[((i:Nat):Int).toNat]?=some xs[i]:=by
   rw[jR];exact jG (by lia)
  by_cases t:i=a.length
  ·have r:e[((i:Nat):Int).toNat]?=none:=by simp;lia
   rw[p,r];rw[fin i i1 i2 (.inr t)] at h
   wp_walk using wpAny_loadPart' o,wpAny_loadPart' f
   exact h
  ·have r:e[((i:Nat):Int).toNat]?=some e[i]:=by
    rw[jR];exact jG (by lia)
   have B:((i:Int)+1)=((i+1:Nat):Int):=by push_cast;rfl
   obtain⟨y,z⟩:=u i (by lia) (by lia) (by lia) (by lia);rw[p,r];rw[yX (by lia),yX (l:=a) (by lia)] at h;unfold llt at h;refine bL (y prog w _ _ ?_);by_cases q:c[i]=a[i]
   ·rw[aL q] at h;rw[cR q]
    wp_walk
    rw[B];exact⟨plainId_quiet plain_eq_loop _,CT entry_eq_loop (by
     rw[Hv plain_eq_loop _];exact G (i+1) (by lia) (by lia) (by lia) prog w A R _ ⟨o,f,u,h⟩)⟩
   ·rw[aJ q] at h;rw[cU q]
    wp_walk using wpAny_loadPart' o,wpAny_loadPart' f
    rw[p,r];refine bL (z prog w _ _ ?_)
    wp_walk
    exact h
theorem X7(l b:Addr)(xs e:Array Value)(n m:Nat)(f i:Option Addr)(p q:Array (Option Value))(a c:List Cell)(t:xs.size=a.length)(u:e.size=c.length):Meets (Builtin.«list.__lt__» ⟨[.ref l,.ref b],[]⟩)
   (fun A R s=>s.heap.get? l=some { cls:=.type "list",dict:=f,data:=.seq xs n,slots:=p }/\s.heap.get? b=some { cls:=.type "list",dict:=i,data:=.seq e m,slots:=q } /\
    (∀ j (x:j<xs.size) (y:j<e.size) (z:j<a.length) (B:j<c.length),EqAt A.in1 s xs[j] e[j] (decide (a[j]=c[j]))/\a2w A.in1 s xs[j] e[j] (gj a[j] c[j])) /\
    R (.ok (.ret (.bool (llt a c)))) s):=by
 intro prog w A R s h;obtain⟨C,g,d,tk,D⟩:=s;obtain⟨o,k,r,h⟩:=h;have v:=AutoSeq1.sub_list_list
 wp_walk using wpAny_loadPart' o,wpAny_loadPart' k
 exact⟨plainId_quiet plain_eq_loop _,CT entry_eq_loop (by
  rw[Hv plain_eq_loop _];exact a0I l b xs e n m f i p q a c t u _ 0 rfl (nQ _) (nQ _) prog w A R _ ⟨o,k,r,h⟩)⟩
end L2
namespace L2
open PySem PySem.Spec PyProof.Rows PySem.W PySem.SeqAt
structure mK(h:Heap)(u:Value)(c:Cell):Prop where
 ex:∃(a:Addr)(o:Obj)(t t':Tok)(n:Nat),u=.ref a/\h.get? a=some o/\o.cls=.type "tuple" /\ o.data=.seq #[.int c.1 t,.int c.2 t'] n
theorem mK.keep{h h':Heap}{u:Value}{c:Cell}(e:mK h u c)(k:Keeps h h'):mK h' u c:=by
 obtain⟨a,o,t,f,n,h1,h2,b,d⟩:=e.ex;exact⟨a,o,t,f,n,h1,k _ _ h2,b,d⟩
structure qP(h:Heap)(u:Value)(cs:List Cell):Prop where
 ex:∃(a:Addr)(o:Obj)(us:Array Value)(n:Nat),u=.ref a/\h.get? a=some o/\o.cls=.type "list" /\ o.data=.seq us n/\us.size=cs.length/\∀ j (h1:j<us.size) (h2:j<cs.length),mK h us[j] cs[j]
theorem qP.keep{h h':Heap}{u:Value}{b:List Cell}(e:qP h u b)(k:Keeps h h'):qP h' u b:=by
 obtain⟨a,o,m,n,h1,h2,f,g,i,l⟩:=e.ex;exact⟨a,o,m,n,h1,k _ _ h2,f,g,i,fun j c d=>(l j c d).keep k⟩
section
variable{A:Around}{s:Shared}
theorem U6{x y:Value}{c d:Cell}(C:mK s.heap x c)(D:mK s.heap y d)(B:A.units<cLine):EqAt A s x y (decide (c=d)):=by
 obtain⟨a,o,t,k,n,rfl,h2,z,p⟩:=C.ex;obtain⟨b,o',u,l,m,rfl,f,r,g⟩:=D.ex;by_cases e:a=b
 ·subst e;rw[h2] at f;cases f;rw[p] at g;have q:c=d:=by
   injection g with g5 _;have v:[Value.int c.1 t,Value.int c.2 k]=[Value.int d.1 u,Value.int d.2 l]:=congrArg Array.toList g5;injection v with a1 a2;injection a2 with a2 _;injection a1 with a1 _;injection a2 with a2 _;exact nJ a1 a2
  rw[cR q];exact EqAt.same _
 ·have key:=Ij e (RcAt.tuples (e:=fun j=>if j=0 then c.1==d.1 else c.2==d.2) ⟨o,h2,z,n,p⟩ ⟨o',f,r,m,g⟩ B fun j i F=>?_)
  ·have:((List.range (min (#[Value.int c.1 t,Value.int c.2 k]:Array Value).size (#[Value.int d.1 u,Value.int d.2 l]:Array Value).size)).all (fun j=>if j=0 then c.1==d.1 else c.2==d.2)&&(#[Value.int c.1 t,Value.int c.2 k]:Array Value).size==(#[Value.int d.1 u,Value.int d.2 l]:Array Value).size)=decide (c=d):=by
    show((List.range 2).all (fun j=>if j=0 then c.1==d.1 else c.2==d.2)&&true)=_;have:List.range 2=[0,1]:=rfl;rw[this];simp only[yD,List.all_nil,aL,Bool.and_true];rw[uI];simp[Prod.ext_iff]
   rw[this] at key;exact key
  ·match j,i,F with
   |0,_,_=>exact fun prog w E Q h=>rW h
   |1,_,_=>exact fun prog w E Q h=>rW h
   |j+2,i,_=>exact absurd i (by simp)
theorem Uz{x y:Value}{c d:Cell}(k:mK s.heap x c)(l:mK s.heap y d)(j:A.units<cLine):a2w A s x y (gj c d):=by
 obtain⟨a,o,t,z,n,rfl,h2,h,i⟩:=k.ex;obtain⟨b,o',u,B,m,rfl,e,f,g⟩:=l.ex;obtain⟨oc,od,of,r⟩:=o;obtain⟨D,p,G,v⟩:=o';dsimp only at h i f g;subst h i f g;intro prog w E Q q;refine Od (op:=.Lt) ⟨_,h2,rfl⟩ ⟨_,e,rfl⟩ PySem.F.slot_tuple_lt PySem.F.entry_tuple_lt (PySem.F.args_tuple_lt_2 _ _) (a0J a b c.1 c.2 d.1 d.2 t z u B n m od p r v) ⟨h2,e,?_⟩ j;exact(show Value.bool (gj c d)≠Value.notImplemented/\Q (.bool (gj c d)) s from⟨(fun C=>nomatch C),q⟩)
theorem X8{prog:Program}{w:World}{u:Value->Shared->Prop}{x y:Value}{c d:List Cell}(C:qP s.heap x c)(D:qP s.heap y d)(K:A.units+2<cLine){Q:Bool->Shared->Prop}(q:Q (llt c d) s):wpAny (model prog w) A (keyLt' oneType' x y) Q u s:=by
 obtain⟨a,o,I,n,rfl,h2,h,i,B,k⟩:=C.ex;obtain⟨b,o',J,m,rfl,v,e,f,z,g⟩:=D.ex;obtain⟨oc,od,of,G⟩:=o;obtain⟨L,E,M,H⟩:=o';dsimp only at h i e f;subst h i e f;rw[keyLt'_oneType,oneLt'_eq];simp only[uM];refine bL (wpAny_cRoomFor (by lia) ?_);refine bL (wpAny_callSpecialIfBound?_slot (T:="list") ⟨_,h2,rfl⟩ ZR (nG ZR ⟨_,h2,rfl⟩ PySem.F.entry_list_lt (PySem.F.args_list_lt_2 _ _) (X7 a b I J n m od E G H c d B z) ⟨h2,v,fun j l p r t=>⟨U6 (k j l r) (g j p t) (by show A.units+1<cLine;lia),Uz (k j l r) (g j p t) (by show A.units+1<cLine;lia)⟩,?_⟩));exact vR q
end
theorem Nf{l:Program}{w:World}{h:Heap}{us:List Value}{c:List (List Cell)}(B:us.length=c.length)(d:∀ i,i<c.length->qP h (us.getD i Value.none) (c.getD i [])):Py l w h us llt fun i=>c.getD i []:=by
 refine⟨fun h2=>⟨oneType',fun g x s' y b q=>?_,fun g s' i j C t b f z r=>?_⟩⟩
 ·refine kas_kind (T:=.type "list") h2 (fun v u=>?_) (by decide) (by decide) q;obtain⟨i,f,rfl⟩:=Oj.mp u;have:=d i (by lia);rw[eE,iM f] at this;obtain⟨a,o,D,n,e,h2,p,_⟩:=this.ex;have m:us[i]=.ref a:=e;rw[m];refine Looks.keeps ?_ b;exact fun A Q E s k q=>wpAny_typeOf ⟨o,k _ _ h2,p⟩ q
 ·exact X8 ((d i (by lia)).keep b) ((d j (by lia)).keep b) t r
abbrev xM(cs:List Cell):Dt:=.lst (cs.map aD)
theorem mK.det{h:Heap}{u:Value}{c d:Cell}(x:mK h u c)(y:mK h u d):c=d:=by
 obtain⟨a,o,t,k,n,rfl,h2,q,j⟩:=x.ex;obtain⟨b,o',v,l,m,e,f,p,g⟩:=y.ex;cases e;rw[h2] at f;cases f;rw[j] at g;injection g with g5 _;have i:[Value.int c.1 t,Value.int c.2 k]=[Value.int d.1 v,Value.int d.2 l]:=congrArg Array.toList g5;injection i with a1 a2;injection a2 with a2 _;injection a1 with a1 _;injection a2 with a2 _;exact nJ a1 a2
theorem qP.det{h:Heap}{u:Value}{c d:List Cell}(x:qP h u c)(y:qP h u d):c=d:=by
 obtain⟨a,o,t,n,rfl,h2,r,k,s,l⟩:=x.ex;obtain⟨b,o',v,m,e,f,p,g,q,j⟩:=y.ex;cases e;rw[h2] at f;cases f;rw[k] at g;injection g with g5' _;subst g5';refine List.ext_getElem (by lia) fun i i1 i2=>?_
 exact(l i (by lia) i1).det (j i (by lia) i2)
section
variable{X:Cx}
theorem a1D{pins:List (Addr×Obj)}{zzs:L2.St}{H:Hp}{s:Shared}{v:V}{u:Value}{b:List Cell}(I:Inv X pins zzs H s)(d:Den X.K H v (xM b))(r:RelV v u):qP s.heap u b:=by
 cases d with
 |@lst a xs _ h i=>
  cases r;obtain⟨c,rv,⟨o,n,p,q,_,t⟩,_⟩:=I.list h;have g:c.length=b.length:=by rw[<- rv.length,i.length,bf]
  refine⟨a,o,c.toArray,n,rfl,p,q,t,by simpa using g,fun j A k=>?_⟩;have l:j<xs.length:=by rw[rv.length,g];exact k
  obtain⟨y,f,x⟩:=rv.get (show xs[j]?=some xs[j] from by simp[l]);obtain⟨z,e,m⟩:=i.get (show xs[j]?=some xs[j] from by simp[l]);rw[dF,iM k] at e;cases e;have w:c.toArray[j]=y:=by
   rw[iM (by omega)] at f;simpa using iy f
  rw[w];exact⟨mU I m x⟩
def Vz(rs:List (List Cell)):Prop:=rs.Pairwise fun a b=>llt b a=false
def Yj(K:ao):List V->Hp->VK->Prop:=fun xs H Q=>∃(p:Addr)(vs:List V)(rs:List (List Cell)),xs=[.ref p]/\SqL K H p vs/\bw K H vs (rs.map xM)/\∀(l:Addr)(o:List Nat),H l=none->o.Perm (List.range vs.length)->Vz (o.map fun i=>rs.getD i [])->Q (.ref l) (upd H l (.lst (o.map fun i=>vs.getD i .non)))
theorem Lf(Y:X.A.units+60<cLine):eV X (.builtin "sorted") (Yj X.K):=by
 intro pins s zzs H xs aa Q l r h;obtain⟨p,c,d,rfl,I,x,q⟩:=h;obtain⟨u,rfl,w⟩:=vals1 r;cases w;obtain⟨f,rv,P,N⟩:=l.list I;have L:f.length=d.length:=by rw[<- rv.length,x.length,bf]
 have v:c.length=f.length:=rv.length;have t:∀ i,i<d.length->qP s.heap (f.getD i Value.none) (d.getD i []):=fun i k=>by
  have B:i<c.length:=by lia
  obtain⟨Z,G,w⟩:=rv.get (show c[i]?=some c[i] from by simp[B]);obtain⟨U,y,E⟩:=x.get (show c[i]?=some c[i] from by simp[B]);rw[dF,iM k] at y;cases y;rw[eE,G,eE,iM k];exact a1D l E w
 have one:wz f fun i=>d.getD i []:=fun i j k z e=>by
  have m:=t i (by lia);have n:=t j (by lia);rw[e] at m;exact m.det n
 refine zU vd one (by lia) (Nf L t) (by lia) P.isList fun o g T=>?_
 obtain⟨e,J⟩:=sortedAll_at s.heap f (byP f o).toArray;have M:H (s.heap.objs.size+1)=none:=l.hok.fresh (uK _);have D:∀ i∈o.toList,i<c.length:=fun i k=>by rw[v];exact dO.mp (g.perm.mem_iff.mp k)
 have S:Vals (o.toList.map fun i=>c.getD i .non) (byP f o):=zP rv o.toList D;have R:(o.toList.map fun i=>c.getD i .non).Perm c:=vo (by rw[v];exact g.perm);have C:Vz (o.toList.map fun i=>d.getD i []):=by
  unfold Vz;rw[yZ];intro i j k z W;rw[bf,nM,g.size] at k z;have:=T.le vd (j-i) i (by lia);have F:i+(j-i)=j:=by lia
  rw[F] at this;have sz:=g.size;have m:Ky (fun i=>d.getD i []) o i=(o.toList.map fun i=>d.getD i [])[i]:=by
   unfold Ky;rw[CK,o9,jG (by lia)];rfl
  have n:Ky (fun i=>d.getD i []) o j=(o.toList.map fun i=>d.getD i [])[j]:=by
   unfold Ky;rw[CK,o9,jG (by lia)];rfl
  rw[<- m,<- n];exact this
 have O:(o.toList.map fun i=>c.getD i .non).length<=sizeLine:=by rw[R.length_eq];exact N
 exact⟨.ref (s.heap.objs.size+1),upd H (s.heap.objs.size+1) (.lst (o.toList.map fun i=>c.getD i .non)),l.laid (a:=s.heap.objs.size+1) (o:=.lst (o.toList.map fun i=>c.getD i .non)) (t':=s.toks) (fun b o q=>sortedAll_old q) (uK _) ⟨O,byP f o,e,S,J⟩,rfl,q _ _ M (by rw[v];exact g.perm) C⟩
theorem a0A{K:ao}(b:X.A.units+60<cLine)(a:X.K=K:=by rfl):eV X (.builtin "sorted") (Yj K):=by subst a;exact Lf b
theorem PB{f:Type}{lt:f->f->Bool}(o:kY lt):∀ {xs c:List f},xs.Perm c->xs.Pairwise (fun a b=>lt b a=false)->c.Pairwise (fun a b=>lt b a=false)->xs=c
 |[],c,p,_,_=>by rw[List.nil_perm.mp p]
 |x::xs,[],p,_,_=>absurd p.length_eq (by simp)
 |x::xs,y::c,p,hx,hy=>by
  rw[rQ] at hx hy;have e:x=y:=by
   have h1:x∈y::c:=p.mem_iff.mp cV;have h2:y∈x::xs:=p.mem_iff.mpr cV;rcases cZ.mp h1 with d|d
   ·exact d
   ·rcases cZ.mp h2 with w|w
    ·exact w.symm
    ·exact o.anti _ _ (hy.1 x d) (hx.1 y w)
  subst e;rw[PB o ((List.perm_cons x).mp p) hx.2 hy.2]
end
inductive iD{α:Type}(R:α->V->Hp->Prop)(H:Hp):List V->List α->Prop
 |nil:iD R H [] []
 |cons {v:V} {a:α} {vs:List V} {xs:List α} (h:R a v H) (t:iD R H vs xs):iD R H (v::vs) (a::xs)
section
variable{α β:Type}{R:α->V->Hp->Prop}{R2:β->V->Hp->Prop}{H H':Hp}
def Eb(R:α->V->Hp->Prop):Prop:=∀ a v H H',Same H H'->R a v H->R a v H'
theorem iD.mono(a:Eb R)(s:Same H H'):∀ {vs:List V} {xs:List α},iD R H vs xs->iD R H' vs xs:=by
 intro vs xs h
 induction h with
 |nil=>exact .nil
 |cons h _ b=>exact .cons (a _ _ _ _ s h) b
theorem iD.length:∀ {vs:List V} {xs:List α},iD R H vs xs->vs.length=xs.length
 |_,_,.nil=>rfl
 |_,_,.cons _ t=>by rw[gD,gD,t.length]
theorem iD.append:∀ {vs a:List V} {xs b:List α},iD R H vs xs->iD R H a b->iD R H (vs++a) (xs++b):=by
 intro vs a xs b h h2
 induction h with
 |nil=>exact h2
 |cons h _ c=>exact .cons h c
theorem iD.get:∀ {vs:List V} {xs:List α} {i:Nat} {v:V},iD R H vs xs->vs[i]?=some v->∃ a,xs[i]?=some a/\R a v H
 |_,_,i,v,.nil,h=>by simp at h
 |_,_,0,v,.cons h t,e=>by simp at e;exact⟨_,rfl,by rw[<- e];exact h⟩
 |_,_,i+1,v,.cons h t,e=>by simp at e;obtain⟨a,ea,r⟩:=t.get e;exact⟨a,by simpa using ea,r⟩
theorem iD.imp{R':α->V->Hp->Prop}(f:∀ a v,R a v H->R' a v H'):∀ {vs:List V} {xs:List α},iD R H vs xs->iD R' H' vs xs:=by
 intro vs xs h
 induction h with
 |nil=>exact .nil
 |cons h _ b=>exact .cons (f _ _ h) b
theorem iD.a4K{K:ao}{enc:α->Dt}(f:∀ a v,R a v H->Den K H v (enc a)):∀ {vs:List V} {xs:List α},iD R H vs xs->bw K H vs (xs.map enc):=by
 intro vs xs h
 induction h with
 |nil=>exact .nil
 |cons h _ b=>exact .cons (f _ _ h) b
theorem iD.by{d0:α}:∀ {vs:List V} {xs:List α} (o:List Nat),iD R H vs xs->(∀ i∈o,i<vs.length)->iD R H (o.map fun i=>vs.getD i .non) (o.map fun i=>xs.getD i d0)
 |vs,xs,[],_,_=>.nil
 |vs,xs,i::o,h,hb=>by
  have b:=hb i cV;obtain⟨a,ea,r⟩:=h.get (iM b);rw[eU,eU];refine .cons ?_ (h.by o fun j c=>hb j (eO _ c));rw[eE,eE,iM b,ea];exact r
theorem Af{s:It}{vs:List V}{xs:List α}{E:TT}{F:TE}{zzs:St}{fin:List V->Hp->Prop}(z:Eb R)(A:Eb R2)(l:wu s H vs)(C:iD R H vs xs)(M:xs.length<=sizeLine)(p:α->Bool)(f:α->β)
  (ht:∀ a∈xs,∀ v b,Same H b->R a v b->∀ h:Bool->Hp->Prop,(∀ g,Same b g->h (p a) g)->E (some v::zzs) b h)
  (L:∀ a∈xs,p a=true->∀ v b,Same H b->R a v b->∀ h:VK,(∀ y g,Same b g->R2 (f a) y g->h y g)->F (some v::zzs) b h)
  (K:∀ c b,Same H b->iD R2 b c ((xs.filter p).map f)->fin c b):∃ t:Nat->Nat->List V->Hp->Prop,(∃ m,t 0 m [] H)/\qK s E F zzs fin t:=by
 have B:vs.length=xs.length:=C.length;refine PN (n:=vs.length) (item:=fun i=>vs.getD i .non) (fun i c b=>Same H b/\iD R2 b c (((xs.take i).filter p).map f)) (by rw[B];exact M) (fun i c b j r=>l.go b i r.1 j) (fun i c b v g j r y=>?_) (fun c b r=>l.stop b r.1)
  (fun i c b j r=>?_) ⟨Same.refl _,.nil⟩ (fun i c b j r h x=>?_) (fun c b r=>?_)
 ·obtain⟨e,I⟩:=l.yld b i v g r.1 j y;exact⟨by rw[eE,e];rfl,I⟩
 ·rw[r.2.length,bf];exact dU (lV _ _) (by rw[u6];exact Nat.min_le_left _ _)
 ·obtain⟨s1,q⟩:=r;have k:i<xs.length:=by lia
  have J:vs[i]?=some (vs.getD i .non):=by simp[eE,j]
  obtain⟨d,w,u⟩:=C.get J;have ea:d=xs[i]:=by
   rw[iM k] at w;exact(iy w).symm
  subst ea;have tk:xs.take (i+1)=xs.take i++[xs[i]]:=by rw[lG,iM k];rfl
  refine ht xs[i] (qG k) _ b s1 (z _ _ _ _ s1 u) _ fun H2 s2=>?_
  cases o:p xs[i] with
  |false=>
   refine iZ (x _ _ ⟨s1.trans s2,?_⟩);rw[tk,yt,show List.filter p [xs[i]]=[] by simp[o],oA];exact q.mono A s2
  |true=>
   refine jw (L xs[i] (qG k) o _ H2 (s1.trans s2) (z _ _ _ _ (s1.trans s2) u) _ fun y N D G=>x _ _ ⟨(s1.trans s2).trans D,?_⟩);rw[tk,yt,show List.filter p [xs[i]]=[xs[i]] by simp[o],iz];exact(q.mono A (s2.trans D)).append (.cons G .nil)
 ·rw[B,lF] at r;exact K c b r.1 r.2
theorem Tz{h:It}{vs:List V}{xs:List α}{j:TE}{zzs:St}{fin:List V->Hp->Prop}(n:Eb R)(o:Eb R2)(l:wu h H vs)(u:iD R H vs xs)(t:xs.length<=sizeLine)(f:α->β)
  (r:∀ a∈xs,∀ v b,Same H b->R a v b->∀ d:VK,(∀ y e,Same b e->R2 (f a) y e->d y e)->j (some v::zzs) b d)
  (q:∀ c b,Same H b->iD R2 b c (xs.map f)->fin c b):∃ i:Nat->Nat->List V->Hp->Prop,(∃ m,i 0 m [] H)/\qK h Vs j zzs fin i:=
 Af n o l u t (fun _=>true) f (fun a _ v b _ _ d k=>k b (Same.refl _)) (fun a p _=>r a p) fun c b s g=>q c b s (by rw[Hw.mpr (fun _ _=>rfl)] at g;exact g)
end
def del(q:Addr)(H:Hp):Hp:=fun b=>if b=q then none else H b
theorem mX{q b:Addr}{H:Hp}(n:b≠q):del q H b=H b:=aJ n
theorem Aj{q:Addr}{H:Hp}:Same (del q H) H:=fun b o e=>by
 unfold del at e;by_cases h:b=q
 ·rw[aL h] at e;cases e
 ·rwa[aJ h] at e
theorem SameBut.del{q:Addr}{H a:Hp}(s:SameBut q H a):Same (L2.del q H) (L2.del q a):=fun b o e=>by
 by_cases h:b=q
 ·subst h;unfold L2.del at e;rw[aL rfl] at e;cases e
 ·rw[mX h] at e ⊢;exact s _ _ e h
theorem Same.into{q:Addr}{H a:Hp}(s:Same H a)(n:H q=none):Same H (L2.del q a):=fun b o e=>by
 rw[mX (aR e n)];exact s _ _ e
section
variable{K:ao}{q:Addr}{H:Hp}{l:List V}
theorem a0g:SameBut q H (del q H):=fun b o e n=>by rw[mX n];exact e
theorem wO{p:Addr}{a:List Cell}(b:H q=some (.lst l))(n:p≠q)(h:Ls K H p (a.map aD)):Ls K (del q H) p (a.map aD):=a0g.ls b n h
end
def nT(K:ao)(H0:Hp)(r:List Cell)(v:V)(H:Hp):Prop:=∃ a,v=.ref a/\H0 a=none/\Ls K H a (r.map aD)
theorem nT.stays{K:ao}{H0:Hp}:Eb (nT K H0):=fun r v H H' s h=>by
 obtain⟨a,e,n,l⟩:=h;exact⟨a,e,n,l.mono s⟩
theorem nT.den{K:ao}{H0 H:Hp}{r:List Cell}{v:V}(h:nT K H0 r v H):Den K H v (xM r):=by
 obtain⟨a,rfl,n,l⟩:=h;exact l.den
theorem Tq{K:ao}{H:Hp}:∀ {vs:List V} {i f:List Cell},bw K H vs (i.map aD)->bw K H vs (f.map aD)->i=f:=by
 intro vs i f k l
 induction i generalizing vs f with
 |nil=>cases k;cases f with|nil=>rfl|cons _ _=>cases l
 |cons c i m=>
  cases f with
  |nil=>cases l;cases k
  |cons d f=>
  cases k with
  |cons h t=>
  cases l with
  |cons h' n=>
  obtain⟨a,rfl,_,e⟩:=eX h;obtain⟨b,j,_,g⟩:=eX h';cases j;rw[e] at g;injection g with g;injection g with g;injection g with j e2;injection e2 with e2 _;injection j with j;injection e2 with e2;rw[m t n,show c=d from nJ j e2]
theorem nT.det{K:ao}{H0 H:Hp}{r d:List Cell}{v:V}(h:nT K H0 r v H)(h':nT K H0 d v H):r=d:=by
 obtain⟨a,rfl,n,xs,e,f⟩:=h;obtain⟨b,i,j,k,c,g⟩:=h';cases i;rw[e] at c;cases c;exact Tq f g
namespace ST
end ST
end L2
namespace L2
open PySem
namespace ST
end ST
end L2
namespace L2
open PySem PySem.Spec PyProof.Rows
section
variable{P:Program}{w:World}{K:ao}{mg:Str->Option Value}{base:Heap}{N:List Str}{qual:Str}{scope:Scope}{f:Addr}{cd:Value}{A:Around}{outer:List Env}{s0:Shared}{H0:Hp}{E:XK}
theorem cg:Passes (CXE P w) (oR (CXE P w) P w K mg base N qual scope f cd A outer s0 H0 E) E:=by
 rintro pins zzs H s e s' i ⟨ea,C,H',rfl,ac,ab,L,S,G,aa⟩;obtain⟨W,t,Z,M⟩:=G.fl;have X:∀ b,b∈frs (envOfC qual scope s0.heap.objs.size f cd::outer)->b=s0.heap.objs.size\/b∈frs outer:=fun b c=>cZ.mp (i.uF b c)
 have J:∀ b∈frs outer,b∈frs (envOfC qual scope s0.heap.objs.size f cd::outer):=fun b c=>by
  obtain⟨x,ad,e⟩:=Cv.mp c;exact Cv.mpr ⟨x,eO _ ad,e⟩
 show wpAny (model P w) (A.deeper (envOfC qual scope s0.heap.objs.size f cd)) (leaving (envOfC qual scope s0.heap.objs.size f cd) (.ref ea)) (fun _ I=>CXE P w outer H0 s0 E (.ref ea) I) (fun Y I=>CXE P w outer H0 s0 E Y I) s';refine wpAny_leaves_onW i.ok.frames rfl Z fun h' O sm=>?_
 have p:Un (frs outer) [] H0 H s0.heap s.heap:=i.base;have u:Un (frs (envOfC qual scope s0.heap.objs.size f cd::outer)) [] H0 H' s0.heap s'.heap:=(p.mono J fun _ d=>d).trans L;have g:∀ b:Addr,b∉([]:List Addr):=fun b=>by simp
 have D:∀ b o,s0.heap.get? b=some o->b∉frs outer->b∉frs (envOfC qual scope s0.heap.objs.size f cd::outer):=fun b o q n c=>by
  rcases X b c with d|d
  ·exact gR (bZ q) d
  ·exact n d
 have gZ:∀ b o,s'.heap.get? b=some o->(H' b≠none\/∃ o',s.heap.get? b=some o')->b∉frs (envOfC qual scope s0.heap.objs.size f cd::outer)->h'.get? b=some o:=fun b o q c n=>O.1 b o (M b o q c n)
 have B:∀ b,b∈frs (envOfC qual scope s0.heap.objs.size f cd::outer)->H' b=none/\∃ o,s'.heap.get? b=some o/\∀ af,o.data≠.fields af:=fun b c=>by
  obtain⟨_,o,R,l⟩:=i.stack.mem c;have Q:=i.vO b c;obtain⟨ae,h⟩:=L.slot b o R Q c (g b);exact⟨L.free b o R Q (g b),_,h,l⟩
 refine⟨ea,C,H',rfl,ac.trans i.os,ab,⟨fun b o q n c _=>?_,fun b o q n c _=>?_,fun b o q n _=>u.free b o q n (g b),fun b o q _=>?_,u.tups,u.pZ,u.qJ⟩,fun a o q=>?_,⟨G.free,?_,W,t,O,fun b o q c n=>?_⟩,aa⟩
 ·obtain⟨m,k⟩:=p.there b o q (g b);exact gZ b o (u.keep b o q n (D b o q c) (g b)) (.inr ⟨m,k⟩) (D b o q c)
 ·obtain⟨ae,h⟩:=u.slot b o q n (J b c) (g b);obtain⟨_,j,z,l⟩:=B b (J b c);rw[h] at z;cases z;obtain⟨U,F⟩:=sm b _ h l;exact⟨U,F⟩
 ·by_cases c:b∈frs (envOfC qual scope s0.heap.objs.size f cd::outer)
  ·obtain⟨_,j,z,l⟩:=B b c;obtain⟨U,F⟩:=sm b _ z l;exact⟨_,F⟩
  ·obtain⟨m,k⟩:=p.there b o q (g b);obtain⟨j,h⟩:=u.there b o q (g b);exact⟨j,gZ b j h (.inr ⟨m,k⟩) c⟩
 ·refine(S a o q).stay (fun b v c d=>gZ b v d (.inl ?_) ?_) (fun _ d=>d) fun _ _ d=>d
  ·rcases c with rfl|c
   ·rw[q];exact fun d=>by cases d
   ·rw[c];exact fun d=>by cases d
  ·intro y;have:=(B b y).1;rcases c with rfl|c
   ·rw[q] at this;cases this
   ·rw[c] at this;cases this
 ·cases q:s0.heap.get? ea with
  |none=>rfl
  |some o=>
   obtain⟨T,d⟩:=p.there ea o q (g ea);rw[G.new] at d;cases d
 ·have key:∃ o',s'.heap.get? b=some o'/\(H' b≠none\/∃ o',s.heap.get? b=some o')/\b∉frs (envOfC qual scope s0.heap.objs.size f cd::outer):=by
   rcases c with d|⟨o',d⟩
   ·cases r:H' b with
    |none=>exact absurd r d
    |some v=>
     obtain⟨T,y⟩:=(S b v r).there;exact⟨T,y,.inl (fun d=>by cases d),fun c=>by have:=(B b c).1;rw[r] at this;cases this⟩
   ·obtain⟨m,k⟩:=p.there b o' d (g b);obtain⟨j,h⟩:=u.there b o' d (g b);exact⟨j,h,.inr ⟨m,k⟩,D b o' d n⟩
  obtain⟨o',y,h1,h2⟩:=key;have:=gZ b o' y h1 h2;rw[q] at this;cases this;exact M b _ y h1 h2
end
section
variable{X:Cx}{e o i:Expr}{te to ti:TE}{pos tpos:Pos}
def a2b(K:ao):V->V->Hp->VK->Prop:=fun x y H Q=>∃ p xs,∃ j:Nat,∃ v,x=.ref p/\y=.int j/\SqL K H p xs/\xs[j]?=some v/\Q v H
theorem Ul:a4A X (a2b X.K):=by
 intro pins s zzs H o i z y Q a g f h;obtain⟨p,xs,j,v,rfl,rfl,d,b,q⟩:=h;cases g;obtain⟨t,rfl⟩:=f;obtain⟨x,r,e,u⟩:=a.list d;obtain⟨w,c,k⟩:=r.get b;have m:=r.length;have n:=ur;have l:j<xs.length:=(lR.mp b).1;exact wpAny_getItem_list e.isList (HF j) (by lia) (by simpa using c) ⟨v,H,a,k,q⟩
theorem Sq{K:ao}(h:RE X o to)(g:RE X i ti)(f:RE X e te)(d:∀ b a new,augStore i b a new=(do holding [new,b,a] (setItem b a new);release [new,b,a] [];pure .next):=by intros;rfl)(c:X.K=K:=by rfl) :
  RS X (.AugAssign (.Subscript o i tpos) .Add e pos) (a2p to ti te (a2b K) (ipI fun i j=>i+j) a2f):=by subst c;exact⟨a1o h.ok g.ok Ul f.ok a2X set_list d⟩
end
open PySem.SeqAt
def a4y(i j:Int):Prop:=0<j/\j<2^64
section
variable{X:Cx}
theorem JR:OpR X (binaryOp .FloorDiv) (rI a4y fun i j=>.int (i / j)):=opI fun i j _ _ _ _ _ a q=>by
 have h1:(0:Int)<j:=a.1;have h2:j<2^64:=a.2;refine floordiv_int (by lia) (by rw[Int.fdiv_eq_ediv_of_nonneg i (by lia)];exact q) (.inl (PyProof.noPylong_of_log2 ?_));have b:j.natAbs<2^64:=by omega
 have c:j.natAbs≠0:=by lia
 have:=(Nat.log2_lt c).mpr b;lia
end
end L2
namespace L2
open PySem PySem.Spec PyProof.Rows PySem.SeqAt
open PySem.AutoSeq1 (wpAny_loadPart')
section
variable{X:Cx}{K:ao}
theorem Ub(l b:Addr)(us a:Array Value)(n m:Nat)(j:Array (Option Value))(h0:¬(!us.isEmpty&&Builtin.List.listTooLong (us.size+a.size))=true)(e:us.size<=sizeLine)(f:us.size+a.size<=sizeLine+1) :
  Meets (Builtin.«list.extend» ⟨[.ref l,.ref b],[]⟩) (fun _ R s=>s.heap.get? l=some { cls:=.type "list",dict:=none,data:=.seq us n,slots:=#[] }/\s.heap.get? b=some { cls:=.type "list",dict:=none,data:=.seq a m,slots:=j }/\R (.ok (.ret .none)) { s with heap:=s.heap.update l (Obj.mapSeq fun x=>x++a),toks:=s.toks }):=by
 refine .of_wp fun prog w A R s h=>?_
 obtain⟨o,g,d,tk,p⟩:=s;obtain⟨el,c,h⟩:=h;have f1:=AutoSeq1.idx_int;have k:=AutoSeq1.sub_list_list;have i:(us++a).size<=sizeLine+1:=by rw[Array.size_append];exact f
 wp_walk using (wpAny_updateSeq el rfl (hz:=e) (_hz':=i)),wpAny_loadPart' el,wpAny_loadPart' c
 exact⟨_,rfl,h⟩
def Ye(K:ao):V->List V->Hp->VK->Prop:=fun x vs H Q=>∃ l b xs zs,x=.ref l/\vs=[.ref b]/\H l=some (.lst xs)/\SqL K H b zs/\xs.length+zs.length<=sizeLine/\Q .non (upd H l (.lst (xs++zs)))
theorem WD(t:X.K=K:=by rfl):MtM X "list.extend" (Ye K):=by
 subst t;intro pins s zzs H x N v M Q d A rv h;obtain⟨l,b,xs,zs,rfl,rfl,i,p,I,q⟩:=h;cases A;obtain⟨u,rfl,z⟩:=rv.one;cases z;obtain⟨O,a,n,r,G,e⟩:=d.Jy i;obtain⟨c,j,⟨o,y,m,f,g,s2⟩,_⟩:=d.list p;have J:=r.length;have L:=j.length;obtain⟨C,E,D,B⟩:=o;dsimp only at f g s2;subst f g s2;have w:a.toArray.size+c.toArray.size<=sizeLine:=by rw[cJ,cJ];lia
 have k:¬(!a.toArray.isEmpty&&Builtin.List.listTooLong (a.toArray.size+c.toArray.size))=true:=by
  rw[Bj w,yC];exact fP
 refine nG F.slot_list_extend ⟨_,e,rfl⟩ F.entry_list_extend (F.args_list_extend_2 _ _) (Ub l b a.toArray c.toArray n y B k (by rw[cJ];lia) (by lia)) ⟨e,m,?_⟩;refine⟨.non,_,d.a0H (its':=a++c) i e (by simp) (r.append j) ?_,rfl,q⟩;rw[cL];omega
end
end L2
namespace L2
open PySem PySem.Spec PyProof.Rows
def Aq(K:ao)(C C':Addr):Bool:=match K.lookup C with
 |some ⟨.type "type",_,.cls cd,_⟩=>cd.mro.contains (.ref C')
 |_=>false
theorem a2U{K:ao}{C a:Addr}(c:gG K C)(e:PySem.W.kitOne K (.ref C) (.ref a)=some true):(C=a\/Aq K C a=true)/\gG K C:=by
 refine⟨?_,c⟩;unfold PySem.W.kitOne at e;by_cases q:(Value.ref C==Value.ref a)=true
 ·left;have:=eq_of_beq q;injection this
 right;rw[aJ q] at e;have g:=c.ex;unfold PySem.W.excIn at g;split at g
 ·rename_i i cd j h;have d:PySem.W.mroIn K C (.ref a)=some true:=by
   have b:(if((PySem.W.clsIn K a).isSome&&PySem.W.typeIn K (.ref a)==some (.type "type"))=true then PySem.W.mroIn K C (.ref a) else none)=some true:=e;split at b
   ·exact b
   ·cases b
  unfold PySem.W.mroIn PySem.W.clsIn at d;rw[h] at d;unfold Aq;rw[h];have f:(if cd.mro.isEmpty then none else some (cd.mro.contains (.ref a)))=some true:=d;split at f
  ·cases f
  ·injection f
 ·cases g
abbrev Cx.pinned(X:Cx)(pn:List (Addr×Obj))(E:Value->Shared->Prop):Cx:={ X with pn:=pn,xe:=E }
section
variable{X:Cx}{pins:List (Addr×Obj)}{zzs:St}{H:Hp}{s:Shared}{E:Value->Shared->Prop}
theorem Cx.Ok.pinned(ok:X.Ok)(pn:List (Addr×Obj))(a:Value->Shared->Prop):(X.pinned pn a).Ok:=
 ⟨ok.mod,ok.kind,ok.glob,ok.blt,ok.above,ok.inj,ok.has,ok.cab,ok.hd,ok.frames,ok.stk,ok.exf,ok.bs,ok.bsz,ok.JD,ok.LK,ok.qX,ok.frf⟩
theorem Inv.look(I:Inv X pins zzs H s)(a:Value->Shared->Prop):Inv (X.pinned (X.pn++pins) a) [] zzs H s:=
 ⟨I.ok.pinned _ a,I.os,I.bare,I.base,I.loc,I.cell,I.free,I.jO,fun p b=>I.pin p (by rw[oA] at b;exact b),I.hok,I.len⟩
theorem Inv.uG{a:List (Addr×Obj)}(ok:X.Ok)(I:Inv (X.pinned (X.pn++pins) E) a zzs H s):Inv X pins zzs H s:=
 ⟨ok,I.os,I.bare,I.base,I.loc,I.cell,I.free,I.jO,fun p b=>I.pin p (gP _ b),I.hok,I.len⟩
theorem SP.uG{c:Ends}{f:Flow}{d:Shared}(ok:X.Ok)(h:SP (X.pinned (X.pn++pins) E) [] c f d):SP X pins c f d:=by
 cases f with
 |next=>obtain⟨b,H',a,q⟩:=h;exact⟨b,H',a.uG ok,q⟩
 |brk=>obtain⟨b,H',a,q⟩:=h;exact⟨b,H',a.uG ok,q⟩
 |cont=>obtain⟨b,H',a,q⟩:=h;exact⟨b,H',a.uG ok,q⟩
 |ret u=>obtain⟨v,b,H',a,r,q⟩:=h;exact⟨v,b,H',a.uG ok,r,q⟩
end
open PySem.W PySem.Builtin PySem.Builtin.ObjectAttr PySem.Builtin.Getset_descriptor
structure nR(K:ao)(C:Addr):Prop where
 ga:findIn K (.ref C) "__getattribute__" = some (some (.builtin "BaseException.__getattribute__"))
 gt:findIn K (.ref C) "__getattr__" = some none
 cl:findIn K (.ref C) "__class__" = some (some (.builtin "object.__class__"))
 gs:specialIn K (.builtin "object.__class__") "__get__" = some (some (.builtin "getset_descriptor.__get__"))
 tk:takesIn K (.builtin "object.__class__")=some true
 mo:mroIn K C (.type "object")=some true
 mb:mroIn K C (.type "BaseException")=some true
def ExcAt(x C:Addr)(h:Heap):Prop:=∃ o,h.get? x=some o/\o.cls=.ref C
section
variable{prog:Program}{w:World}{A:Around}{E:Value->Shared->Prop}{s:Shared}{K:ao}{x C:Addr}{R:Result->Shared->Prop}
theorem Ar{M:Model}{h:Heap}(p:ExcAt x C h):Looks M h (typeOf (.ref x)) (.ref C):=by
 obtain⟨o,h1,h2⟩:=p;exact h2▸(Looks.ld h1).andThen .now
theorem Wo{M:Model}{h:Heap}(X:K.In h)(e:nR K C):Looks M h (find (.ref x) (.ref C) "__class__") (Found.bind (.builtin "getset_descriptor.__get__") (.builtin "object.__class__")):=by
 have a:=looks_findIn (M:=M) X e.cl;have b:=looks_specialIn (M:=M) X e.gs;have c:=looks_takesIn (M:=M) X e.tk;refine a.andThen (b.andThen ?_);exact(show Looks M h (dataDescriptor? (some (.builtin "object.__class__")) (some (.builtin "getset_descriptor.__get__"))) (some (.builtin "getset_descriptor.__get__",.builtin "object.__class__")) from c.andThen .now).andThen (Looks.tag .now)
theorem a0r{a:Value}(X:K.In s.heap)(p:ExcAt x C s.heap)(e:nR K C)(h:R (.ok (.ret (.ref C))) s):codeAny (model prog w) A (.call (.builtin "getset_descriptor.__get__") ⟨[.builtin "object.__class__",.ref x,a],[]⟩) R s:=by
 obtain⟨f,g,d,t,i⟩:=s;have b:=Ar (M:=model prog w) p;have c:=looks_mroIn (M:=model prog w) X e.mo;refine codeAny_call_builtin KF.slot_gs.plain KF.entry_gs (KF.slot_gs.check _ _ _ _ _ _ _ _ KF.type_class (KF.args_gs _ _ _) ?_);unfold Builtin.«getset_descriptor.__get__» descrGet;rw[dga_obj];refine bL (c7 ?_);unfold descrGetter descrCheckInstance descrNameAndClass isInstance;simp only[KF.owner_class]
 repeat lk
 refine⟨Code.quiet_builtin _ (by decide +kernel),CT KF.entry_class ?_⟩;unfold Builtin.«object.__class__» shownTypeOf
 repeat lk
 exact h
theorem zZ:splitId "BaseException.__getattribute__" = some ("BaseException","__getattribute__"):=by decide +kernel
theorem Tg:(Manifest.find? "BaseException").bind (·.attrs.lookup "__getattribute__")=some .slot:=by decide +kernel
theorem U7{a:List Value}{Q:Unit->Shared->Prop}(X:K.In s.heap)(p:ExcAt x C s.heap)(e:nR K C) (b:argsOk "BaseException.__getattribute__" ⟨.ref x::a,[]⟩) (h:Q () s):wpAny (model prog w) A (checkBuiltinCall "BaseException.__getattribute__" ⟨.ref x::a,[]⟩) Q E s:=by
 have i:builtinKind "BaseException.__getattribute__" = some .slot:=by simp only[builtinKind,zZ];exact Tg
 obtain⟨f,g,k,t,l⟩:=s;have d:Looks (model prog w) f (isInstance (.ref x) (.type "BaseException")) true:=(Ar p).andThen (looks_mroIn X e.mb);simp only[checkBuiltinCall,i,zZ];refine bL (d.at ?_);simp only[Bool.not_true,Dk,nH];cases j:Manifest.signature? "BaseException.__getattribute__" with
 |none=>exact c7 h
 |some c=>
  simp only[argsOk,j] at b;have h2:Bind.checkArgs "BaseException.__getattribute__" c ⟨.ref x::a,[]⟩=pure ():=b;show wpAny _ _ (Bind.checkArgs "BaseException.__getattribute__" c ⟨.ref x::a,[]⟩) Q E _;rw[h2];exact c7 h
theorem Wn{tk:Tok}{Q:Fin->Shared->Prop}(X:K.In s.heap)(p:ExcAt x C s.heap)(e:nR K C)(h:Q (.done (.ret (.ref C))) s):wpAny (model prog w) A (Builtin.«object.__getattribute__» ⟨[.ref x,.str "__class__" tk],[]⟩) Q E s:=by
 obtain⟨d,g,c,t,f⟩:=s;have a:=Ar (M:=model prog w) p;have b:=Wo (M:=model prog w) (x:=x) X e;unfold Builtin.«object.__getattribute__» slotArgs attrName;refine bL (c7 ?_);refine bL (c7 ?_);refine bL (a.at ?_);refine bL (b.at ?_);show wpAny _ _ (holding [_] (call (.builtin "getset_descriptor.__get__") [.builtin "object.__class__",.ref x,.ref C]) >>= ret) _ _ _;exact bL (u9 (Dh (a0r X p e (c7 h))))
theorem U8{Q:Option Value->Shared->Prop}(X:K.In s.heap)(p:ExcAt x C s.heap)(e:nR K C)(h:Q (some (.ref C)) { s with toks:=s.toks+1 }):wpAny (model prog w) A (getAttr? (.ref x) "__class__") Q E s:=by
 obtain⟨f,g,d,t,i⟩:=s;have a:=Ar (M:=model prog w) p;have b:=looks_findIn (M:=model prog w) X e.ga;have c:=looks_findIn (M:=model prog w) X e.gt;unfold getAttr? getAttrBy? getAttrBy;refine bL (wpAny_mkText (bL (CW (u9 (bL (a.at (bL (b.at ?_))))))));show wpAny _ _ (getAttrByItsOwn _ _ _ _ _ _) _ _ _;unfold getAttrByItsOwn hookBefore;refine bL (c.at ?_);refine bL (CW (u9 ?_));show wpAny _ _ (boundAndCalled _ _ _) _ _ _;unfold boundAndCalled;rw[F.excAttr_ValueError.ga.bind];refine bL (c7 ?_);refine Dh (codeAny_call_builtin F.excAttr_ValueError.ga.plain F.entry_bexc_ga (U7 X p e (F.args_bexc_ga _ _) (Wn X p e ?_)));exact c7 (c7 h)
theorem X3(e:nR K C):KitX K (.ref x) (.ref C) (ExcAt x C) where
 ty:=fun _ _ _ p=>Ar p
 it:=fun _ _ X _=>by
  obtain⟨cd,a,_⟩:=Zw.mp e.mo;unfold clsIn at a;split at a
  ·rename_i c f d i b;intro m r o s' k q;unfold isType loadHead;exact bL (wpAny_loadPart (k _ _ (X _ _ b)) (c7 q))
  ·cases a
 ne:=fun h j s t n u X g=>by
  obtain⟨cd,a,_⟩:=Zw.mp e.mo;refine Bool.eq_false_iff.mpr fun q=>?_
  have e:C=j:=Value.ref.inj (jM.mp q);subst e;unfold clsIn at a;split at a
  ·rename_i c f d i b;have l:=(X _ _ b).symm.trans g;cases l
  ·cases a
 ca:=fun X p k=>U8 X p e k
end
section
variable{X:Cx}
def a2c(K:ao):List V->Hp->VK->Prop:=fun xs H Q=>∃ c cv ea C b,xs=[.ref ea,c]/\a4E c=some cv/\H ea=some (Fz ea C)/\nR K C/\PySem.W.kitOne K (.ref C) cv=some b/\Q (.bl b) H
theorem Tn:eV X (.builtin "isinstance") (a2c X.K):=by
 intro pins s zzs H xs p Q a r h;obtain⟨c,cv,ea,C,b,rfl,i,g,ex,j,q⟩:=h;obtain⟨u,o,rfl,m,l⟩:=vals2 r;have e:=a0h i l;subst e;cases m;obtain⟨⟨k,d,f⟩,_,_⟩:=(show g8 X.prog X.w H s.heap ea (Fz ea C) from a.hok ea _ g)
 exact PySem.W.kia_one (X3 ex) a.kIn ⟨k,d,f⟩ j (by intro n;cases n) fun tk=>⟨.bl b,H,a.tok tk,rfl,q⟩
theorem qd{K:ao}(a:X.K=K:=by rfl):eV X (.builtin "isinstance") (a2c K):=by subst a;exact Tn
def Ur:Value->Bool
 |.bool b=>b
 |_=>false
theorem Gj{A:Around}{s:Shared}:∀ {bs:List Bool} {us:List Value},Vals (bs.map V.bl) us->∀ y∈us,SeqAt.EqAt A s y (.bool true) (Ur y)
 |[],_,r,y,a=>by cases r;cases a
 |b::bs,_,r,y,a=>by
  rw[eU] at r;cases r with
  |cons c d=>
   rcases cZ.mp a with rfl|a
   ·have:=Lz (A:=A) (s:=s) (y:=.bl b) (x:=.bl true) c rfl rfl rfl;cases c;rw[show eqV (.bl b) (.bl true)=Ur (.bool b) from by cases b<;>rfl] at this;exact this
   ·exact Gj d y a
theorem J0:∀ {bs:List Bool} {us:List Value},Vals (bs.map V.bl) us->us.countP Ur=bs.count true
 |[],_,r=>by cases r;rfl
 |b::bs,_,r=>by
  rw[eU] at r;cases r with
  |cons a c=>
   cases a;rw[List.countP_cons,List.count_cons,J0 c];cases b<;>rfl
def S7(K:ao):V->List V->Hp->VK->Prop:=fun x xs H Q=>∃(p:Addr)(bs:List Bool),x=.ref p/\xs=[.bl true]/\SqL K H p (bs.map V.bl)/\Q (.int (bs.count true)) H
theorem UG:MtR X "list.count" (S7 X.K):=by
 intro pins s zzs H x xs v z Q b m k h;obtain⟨p,bs,rfl,rfl,g,q⟩:=h;cases m;obtain⟨u,rfl,l⟩:=vals1 k;cases l;obtain⟨a,rv,j,w⟩:=b.list g;obtain⟨⟨r,f,t,o⟩,e,c,n,d⟩:=id j.isList;simp only at c d;subst c d;refine nG Zx ⟨_,e,rfl⟩ PySem.F.entry_list_count (PySem.F.args_list_count_2 _ _) (SeqAt.list_countAt p a.toArray n f o (.bool true) Ur) ⟨e,fun y i=>Gj rv y (by simpa using i),?_⟩;rw[show a.toArray.toList=a from rfl,J0 rv];exact⟨.int _,H,b.tok _,⟨_,rfl⟩,q⟩
theorem Wz{K:ao}(a:X.K=K:=by rfl):MtR X "list.count" (S7 K):=by subst a;exact UG
def S9(K:ao):V->List V->Hp->VK->Prop:=fun x xs H Q=>∃(p:Addr)(bs:List Bool)(j:Nat),x=.ref p/\xs=[.bl true]/\SqL K H p (bs.map V.bl)/\bs.length<=100/\bs[j]?=some true/\(∀ m,m<j->bs[m]?=some false)/\Q (.int j) H
theorem UL:MtR X "list.index" (S9 X.K):=by
 intro pins s zzs H x xs v R Q d J E h;obtain⟨p,bs,j,rfl,rfl,A,M,k,z,q⟩:=h;cases J;obtain⟨u,rfl,G⟩:=vals1 E;cases G;obtain⟨a,rv,D,P⟩:=d.list A;obtain⟨⟨N,o,O,L⟩,l,g,n,i⟩:=id D.isList;simp only at g i;subst g i;have t:a.length=bs.length:=by have:=rv.length;simpa using this.symm
 have C:j<bs.length:=(lR.mp k).1;have f:∀ m (b:Bool),bs[m]?=some b->∀ h:m<a.toArray.size,Ur a.toArray[m]=b:=fun m b e h=>by
  obtain⟨S,r,I⟩:=rv.get (show(bs.map V.bl)[m]?=some (V.bl b) by rw[dF,e];rfl);cases I;have h':m<a.length:=by simpa using h
  have c:a[m]=.bool b:=iy (by rw[<- iM h'];exact r);rw[show a.toArray[m]=a[m] by simp,c];rfl
 refine nG Zy ⟨_,l,rfl⟩ PySem.F.entry_list_index (PySem.F.args_list_index_2 _ _) (SeqAt.list_indexAt p a.toArray n o L (.bool true) Ur j (by simpa [t] using C) (by lia) (f j true k _) (fun m w c=>f m false (z m c) w)) ⟨l,fun y B=>Gj rv y (by simpa using B),?_⟩;exact⟨.int _,H,d.tok _,⟨_,rfl⟩,q⟩
theorem WK{K:ao}(a:X.K=K:=by rfl):MtR X "list.index" (S9 K):=by subst a;exact UL
end
section
variable{X:Cx}
def a1O(K:ao)(C':Addr)(i:Nat)(ts:TS)(th:Addr->TS):Addr->TS:=fun C D zzs H=>
 (((C=C'\/Aq K C C'=true)/\gG K C)/\∀ ea,H ea=none->ts { nx:=fun _ _=>False,rt:=D.rt } (zzs.set i (some (.ref ea))) (upd H ea (Fz ea C)))\/(C≠C'/\gG K C/\Q7 K C C'=true/\th C D zzs H)
theorem Yp{x n:Str}{aM aA:Pos}{S:Stmt}{aa:List Stmt}{Z:List ExceptHandler}{j:Addr}{i:Nat}{ac:TS}{ab:Addr->TS}(ar:X.ex=[])(an:X.N.Nodup)(au:X.N[i]?=some n)(G:X.env.scope.names.lookup n=some .local)
  (as:Gl X x) (aw:X.mg x=some (.ref j)) (ak:gG X.K j) (aC:∀ b,RSs (mW X b) (S::aa) ac) (aB:RH X Z ab) (ap:(x==("__debug__" : Str))=false:=by decide) :
  RH X (.ExceptHandler (some (.Name x aM)) (some n) (S::aa) aA::Z) (a1O X.K j i ac ab):=by
 refine⟨fun pins zzs H b C s O a h=>?_⟩;have k:=a.inv;refine wpAny_handleBy_cons (codeAny_handlers_test ?_) (by intro q;cases q);refine tu (X:=mW X b) (k.hand b) as aw ?_ ap;obtain⟨a9,Y,W⟩:=a.obj;obtain⟨aP,aQ,a8,ba,aV,aR,bc,bd,aT,aW,aX,a1,a2,a3,a4,a5,a7,z,aZ,aS,ai⟩:=ak.obj k.kIn;have U:(Value.ref j::aP).contains (.type "BaseException")=true:=by rw[List.contains_cons,ai.hasType Hl.hasBase,Pn]
 have f:=tc_notTuple;rcases h with⟨⟨r,c⟩,h⟩|⟨a0,c,B,h⟩
 ·obtain⟨M,ah,aL,q,bs,aq,aN,aO,aj,al,am,aE,aF,aG,aH,aI,aJ,t,ao,ay,T⟩:=c.obj k.kIn;obtain⟨o,g,d,tk,y⟩:=s;have av:(Value.ref C::M).contains (.ref j)=true:=by
   rcases r with rfl|r
   ·simp
   unfold Aq at r;split at r
   ·rename_i F E L I;have e:=k.kIn _ _ I;have l:o.get? C=some ⟨.type "type",F,.cls E,L⟩:=e;rw[t] at l;unfold excClassObj at l;cases l;simpa using r
   ·cases r
  have key:∀ Q:Bool->Shared->Prop,Q true ⟨o,g,d,tk,y⟩->wpAny (model X.prog X.w) (mW X b).A (excMatches (.ref b) (.ref j)) Q (notedBy (model X.prog X.w) (X.A.mark (some (.ref b))) X.env (cameBackBy (model X.prog X.w) X.A X.env X.xe)) ⟨o,g,d,tk,y⟩:=fun Q J=>by
   unfold excMatches
   repeat (first|(with_reducible refine HS Y ?_;rw[W])|with_reducible refine HS z ?_|(with_reducible refine Hz z ?_;rw[U])|(with_reducible refine Hz t ?_;rw[av])|wp_step)
   exact J
  refine key _ ?_;show codeAny _ _ _ _ _;refine codeAny_handlers_suite_as (a.again fun h' R=>?_);have ae:=(R.track ar).hand b;refine vP (i:=i) (v:=.ref b) (X:=mW X b) ae an au (.inl G) rfl (fun s2 af=>?_) (.inr G);refine jL ((aC b).ok pins s2 _ _ { nx:=fun _ _=>False,rt:=O.rt } af (h b R.free)) (fun f bb D=>?_) fun _ _ p=>False.elim p
  cases f with
  |next=>obtain⟨_,_,_,p⟩:=D;exact False.elim p
  |brk=>obtain⟨_,_,_,p⟩:=D;exact False.elim p
  |cont=>obtain⟨_,_,_,p⟩:=D;exact False.elim p
  |ret u=>
   obtain⟨v,aU,ad,P,rv,q⟩:=D;obtain⟨m,az,_⟩:=P.loc;have ag:=P.a4r k.ok;show wpAny _ _ _ _ _ _;refine wpAny_nameGoes G az (by rw[k.ok.kind];rfl) fun aY a6 ax aD=>?_
   exact⟨v,_,ad,ag.UW ax aD,rv,q⟩
 ·obtain⟨M,ah,aL,q,bs,aq,aN,aO,aj,al,am,aE,aF,aG,aH,aI,aJ,t,ao,ay,T⟩:=c.obj k.kIn;obtain⟨o,g,d,tk,y⟩:=s;have aK:(Value.ref C::M).contains (.ref j)=false:=by
   unfold Q7 at B;split at B
   ·rename_i F E L I;have e:=k.kIn _ _ I;have l:o.get? C=some ⟨.type "type",F,.cls E,L⟩:=e;rw[t] at l;unfold excClassObj at l;cases l;simpa using B
   ·cases B
  have key:∀ Q:Bool->Shared->Prop,Q false ⟨o,g,d,tk,y⟩->wpAny (model X.prog X.w) (mW X b).A (excMatches (.ref b) (.ref j)) Q (notedBy (model X.prog X.w) (X.A.mark (some (.ref b))) X.env (cameBackBy (model X.prog X.w) X.A X.env X.xe)) ⟨o,g,d,tk,y⟩:=fun Q J=>by
   unfold excMatches
   repeat (first|(with_reducible refine HS Y ?_;rw[W])|with_reducible refine HS z ?_|(with_reducible refine Hz z ?_;rw[U])|(with_reducible refine Hz t ?_;rw[aK])|wp_step)
   exact J
  refine key _ ?_;exact aB.ok pins zzs H b C _ O a h
end
structure VG(k:Nat)(A:Around):Prop where
 dp:A.depth+3*k+5<recursionLimit
 un:A.units+16*k+200<cLine
theorem huH{A:Around}{k:Nat}(r:VG k A):A.units+60<cLine:=by have:=r.un;lia
def Wc(P:Program)(w:World)(K:ao)(mg:Str->Option Value)(base:Heap)(N:List Str)(qual:Str)(scope:Scope)(f:Addr)(cd:Value)(A:Around)(outer:List Env)(s:Shared)(H:Hp):Cx:=
 { oR (CXE P w) P w K mg base N qual scope f cd A outer s H E0 with calm:=false,xe:=fun _ _=>False }
structure FnH(P:Program)(w:World)(K:ao)(mg:Str->Option Value)(base:Heap)(k:Nat)(f:Addr)(fd:FuncData)(ps:List Str)(sp:Sp):Prop where
 len:∀ vs H Q E,sp vs H Q E->vs.length=ps.length
 run:∀(A:Around)(outer:List Env)(s:Shared)(H:Hp)(args:Args)(us:List Value)(vs:List V)(Q:VK),VG k A->Io P w K mg base A outer s H->BindsTo s fd args (ps.zip us)->Vals vs us->sp vs H Q E0 ->
  codeAny (model P w) A (.call (.ref f) args) (CR (fun _ _ _ _ _ _=>False) outer P w H s Q E0) s
structure DfH(P:Program)(w:World)(K:ao)(mg:Str->Option Value)(base:Heap)(k:Nat)(x:Str)(ps:List Str)(sp:Sp):Prop where
 ex:∃ f fd,FnH P w K mg base k f fd ps sp/\mg x=some (.ref f)/\PySem.W.keepIn K (.ref f)=true/\Binds K fd ps []
section
variable{P:Program}{w:World}{K:ao}{mg:Str->Option Value}{base:Heap}
theorem Fun.a6C{x l:Str}{st:Stmt}{f:Addr}{C:FuncData}{N z:List Str}{k:Nat}{sp:Sp}(F:Fun K x l st f C)(m:aP N z (aH st))(len:∀ vs H Q G,sp vs H Q G->vs.length=z.length)
  (M:∀(h:Value)(A:Around)(i:List Env)(s:Shared)(H:Hp)(vs:List V)(Q:VK),VG k (A.deeper (envOfC l (aH st) s.heap.objs.size f h))->sp vs H Q E0 ->
   ∃ t,RSs (Wc P w K mg base N l (aH st) f h A i s H) (fZ st) t/\t { nx:=fun _ d=>Q .non d,rt:=Q } (start N vs) H):FnH P w K mg base (k+1) f C z sp:=by
 obtain⟨oc,od,kV,doc,pm,an,h,ct,osl,rfl,Z,O⟩:=F.ex;refine⟨len,fun A i s H ac aa vs Q D c L r E=>?_⟩;have T:=len _ _ _ _ E;have B:K.In s.heap:=c.mod.kin.keeps fun b o e=>(c.bs b o e).1
 have Y:s.heap.NoLimit:=c.mod.nolimit.keeps fun b o e=>(c.bs b o e).1
 have S:∀ y∈z.zip aa,(aH st).names.lookup y.1=some .local\/((aH st).names.lookup y.1=some .cell/\((cellsFrom (s.heap.objs.size+1) (aH st).names []).lookup y.1).isSome=true):=fun⟨n,v⟩ X=>by
  rcases m.par n (I8 X).1 with q|q
  ·exact .inl q
  ·exact .inr ⟨q,Ob _ _ _ (.inl q)⟩
 have ae:=D.dp;have af:=D.un;refine codeAny_call_function (by lia) (B _ _ Z) rfl m.co m.gen rfl (a03 B O) (L _ _ _ _ ?_);refine Zk m.kind S fun ad R s1 x=>?_
 subst R;refine⟨Y.keeps x.toInCall.keep,codeAny_func ?_⟩;obtain⟨t,W,U⟩:=M h A i s H vs Q ⟨by show A.depth+1+3*k+5<_;lia,by show A.units+3+16*k+200<_;lia⟩ E;have a:Inv (oR (CXE P w) P w K mg base N l (aH st) f h { A with handled:=none } i s H E0) [] (start N vs) H s1:=Eu m rfl ⟨c.frames,c.mod,c.bs,c.bsz,c.qX,c.frf,c.hok,c.bare⟩ T r x;have I:Inv (Wc P w K mg base N l (aH st) f h A i s H) [] (start N vs) H s1:=
  ⟨⟨a.ok.mod,a.ok.kind,a.ok.glob,a.ok.blt,a.ok.above,a.ok.inj,a.ok.has,a.ok.cab,fun ab=>absurd (show false=true from ab) (by decide),a.ok.frames,a.ok.stk,a.ok.exf,a.ok.bs,a.ok.bsz,a.ok.JD,a.ok.LK,a.ok.qX,a.ok.frf⟩,
   a.os,a.bare,a.base,a.loc,a.cell,a.free,a.jO,a.pin,a.hok,a.len⟩
 refine jL (W.ok [] s1 (start N vs) H _ I U) (fun J s' j=>?_) fun e s' j=>False.elim j
 have fin:∀ {p:St} {d:Hp} {v:V} {u:Value},Inv (Wc P w K mg base N l (aH st) f h A i s H) [] p d s'->RelV v u->Q v d->CE i P w H s Q u s':=
  fun {p d v u} g rv q=>⟨v,d,g.os,g.bare,g.base,g.hok,rv,q⟩
 cases J with
 |ret u=>obtain⟨v,p,d,g,rv,q⟩:=j;exact fin g rv q
 |next=>obtain⟨p,d,g,q⟩:=j;exact fin (v:=V.non) (u:=Value.none) g rfl q
 |brk=>obtain⟨_,_,_,q⟩:=j;exact False.elim q
 |cont=>obtain⟨_,_,_,q⟩:=j;exact False.elim q
end
section
variable{X:Cx}{k j:Nat}{ps:List Str}{sp:Sp}{x:Str}{p pos:Pos}{e:Expr}{es:List Expr}{t:TA}{ea:Addr}
theorem a4f(n:DfH X.prog X.w X.K X.mg X.base k x ps sp)(l:gK j X.A)(D:Gl (mW X ea) x)(z:RA (mW X ea) (e::es) t)(L:k<=j:=by decide)(v:notStar e=true:=by rfl)(y:es.all notStar=true:=by rfl)
  (C:(x==("__debug__" : Str))=false:=by decide):RE (mW X ea) (.Call (.Name x p) (e::es) [] pos) (Ks sp [] E0 t):=by
 obtain⟨f,fd,F,G,I,B⟩:=n.ex;refine⟨fun pins s zzs H Q d h=>?_⟩;refine Cw (tu d D G ?_ C);refine HB (h₀:=X.base) d.ok.mod.kin I (thn (z.ok pos pins s zzs H _ d h) fun c s1 ⟨g,H1,b,r,q⟩=>⟨b.kIn,?_⟩) (nD v) (vg y);have m:sp g H1 Q E0:=by rw[<- oA g];exact q
 have E:c.length=ps.length:=by rw[<- r.length];exact F.len _ _ _ _ m
 have i:=B s1 c b.kIn (by rw[oA];exact E);rw[oA] at i;have J:=l.dp;have M:=l.un;refine Dh (yF (F.run (mW X ea).A X.stack s1 H1 ⟨c,[]⟩ c g Q ⟨by show X.A.depth+3*k+5<_;lia,by show X.A.units+16*k+200<_;lia⟩ b.env0 i r m) fun r s' a=>?_);cases r with
 |error e=>exact False.elim a
 |ok o=>
  cases o with
  |ret u=>exact b.after a
  |next=>exact False.elim a
  |brk=>exact False.elim a
  |cont=>exact False.elim a
end
section
variable{X:Cx}
def a5Q(tb:XK->TS)(th:Addr->TS):TS:=fun D zzs H=>tb (fun c _ H'=>∃ C,c=.ref C/\∀ bI,bI.length=zzs.length->th C D bI H') D zzs H
theorem a1E{k:List Stmt}{h₀:ExceptHandler}{n:List ExceptHandler}{pos:Pos}{o:XK->TS}{p:Addr->TS}(hst:X.stack=X.env::X.outer)(E:X.env.frame=some X.env.locals)
  (B:∀(pn:List (Addr×Obj))(xe:Value->Shared->Prop)(j:XK),PassesOwn (model X.prog X.w) X.A X.env xe->Passes (CXE X.prog X.w) (X.pinned pn xe) j->RSs (X.pinned pn xe) k (o j)) (F:RH X (h₀::n) p) :
  RS X (.Try k (h₀::n) [] [] pos) (a5Q o p):=by
 refine⟨fun pins s zzs H i a h=>?_⟩;refine wpAny_Try_except ?_;refine jL ((B (X.pn++pins) _ _ PassesOwn.looking ?_).ok [] s zzs H i (a.look _) h) (fun f s1 q=>?_) fun P s1 q=>q
 ·intro O d H1 s2 e s1 u I;obtain⟨ea,C,H',rfl,J,y,un,G,g,N,e,M⟩:=I;cases e;have c:Inv X pins d H1 s2:=u.uG a.ok;obtain⟨r,t,z,x⟩:=g.fl;have l:=z;rw[show(X.pinned (X.pn++pins) _).stack=X.stack from rfl,hst] at l;refine wpAny_looks_onW (by rw[<- hst];exact c.ok.frames) E l fun Q D K=>?_
  refine wpAny_landsW D fun R m L=>?_
  rw[<- hst] at m;exact F.ok pins d H' ea C _ i ⟨H1,s2,s1,r,t,c,J,un,G,x,m,K.trans L,rfl,y,g.new,g.free⟩ (M d (c.len.trans a.len.symm))
 ·have b:=SP.uG (pins:=pins) a.ok q;cases f with
  |next=>exact CN b
  |ret v=>exact b
  |brk=>exact b
  |cont=>exact b
end
end L2
namespace My
abbrev zzR(a:PySem.Addr):Option L2.V:=some (.ref a)
abbrev zzI(n:Int):Option L2.V:=some (.int n)
abbrev zzN:Option L2.V:=none
open PySem L2
def top(i:Nat):Stmt:=PySem.Challenge.pw_dampfield_k15_refusals_apart.main.body.getD i (.Pass ⟨0,0,0,0⟩)
abbrev BJ:Stmt:=top 14
theorem Vo:aP ["row","width"] ["row","width"] (aH BJ):=⟨rfl,rfl,rfl,by decide +kernel,rfl,by decide +kernel,by decide +kernel⟩
abbrev xR:Stmt:=top 15
theorem Nq:aP ["height","width"] ["height","width"] (aH xR):=⟨rfl,rfl,rfl,by decide +kernel,rfl,by decide +kernel,by decide +kernel⟩
abbrev xT:Stmt:=top 16
theorem Nr:aP ["rows"] ["rows"] (aH xT):=⟨rfl,rfl,rfl,by decide +kernel,rfl,by decide +kernel,by decide +kernel⟩
abbrev lM:Stmt:=inClass (top 17) 0
theorem xX:aP ["self","rows"] ["self","rows"] (aH lM):=⟨rfl,rfl,rfl,by decide +kernel,rfl,by decide +kernel,by decide +kernel⟩
abbrev uz:Stmt:=top 18
theorem Kh:aP ["view","cell"] ["view","cell"] (aH uz):=⟨rfl,rfl,rfl,by decide +kernel,rfl,by decide +kernel,by decide +kernel⟩
abbrev rD:Stmt:=top 19
theorem GP:aP ["view","cell"] ["view","cell"] (aH rD):=⟨rfl,rfl,rfl,by decide +kernel,rfl,by decide +kernel,by decide +kernel⟩
abbrev Bx:Stmt:=top 20
theorem Vn:aP ["view","cell"] ["view","cell"] (aH Bx):=⟨rfl,rfl,rfl,by decide +kernel,rfl,by decide +kernel,by decide +kernel⟩
abbrev GC:Stmt:=top 21
theorem vI:aP ["view","found","row","column"] ["view"] (aH GC):=⟨rfl,rfl,rfl,by decide +kernel,rfl,by decide +kernel,by decide +kernel⟩
abbrev Nk:Stmt:=top 22
theorem zN:aP ["view","cell","found","row","column"] ["view","cell"] (aH Nk):=⟨rfl,rfl,rfl,by decide +kernel,rfl,by decide +kernel,by decide +kernel⟩
abbrev oG:Stmt:=top 23
theorem BP:aP ["view","cell"] ["view","cell"] (aH oG):=⟨rfl,rfl,rfl,by decide +kernel,rfl,by decide +kernel,by decide +kernel⟩
abbrev rG:Stmt:=top 24
theorem GR:aP ["view","cell"] ["view","cell"] (aH rG):=⟨rfl,rfl,rfl,by decide +kernel,rfl,by decide +kernel,by decide +kernel⟩
abbrev Bw:Stmt:=top 25
theorem Vm:aP ["view"] ["view"] (aH Bw):=⟨rfl,rfl,rfl,by decide +kernel,rfl,by decide +kernel,by decide +kernel⟩
abbrev Nj:Stmt:=top 26
theorem a1F:aP ["view"] ["view"] (aH Nj):=⟨rfl,rfl,rfl,by decide +kernel,rfl,by decide +kernel,by decide +kernel⟩
abbrev Yt:Stmt:=top 27
theorem a4j:aP ["view"] ["view"] (aH Yt):=⟨rfl,rfl,rfl,by decide +kernel,rfl,by decide +kernel,by decide +kernel⟩
abbrev rE:Stmt:=top 28
theorem vJ:aP ["view","laying","place"] ["view","laying"] (aH rE):=⟨rfl,rfl,rfl,by decide +kernel,rfl,by decide +kernel,by decide +kernel⟩
abbrev oH:Stmt:=top 29
theorem BR:aP ["view","cell","laying"] ["view","cell","laying"] (aH oH):=⟨rfl,rfl,rfl,by decide +kernel,rfl,by decide +kernel,by decide +kernel⟩
abbrev GF:Stmt:=top 30
theorem Kl:aP ["view","laying","cell"] ["view","laying"] (aH GF):=⟨rfl,rfl,rfl,by decide +kernel,rfl,by decide +kernel,by decide +kernel⟩
abbrev BK:Stmt:=top 33
theorem mH:aP ["view","cell","found","waiting","member","teller","other"] ["view","cell"] (aH BK):=⟨rfl,rfl,rfl,by decide +kernel,rfl,by decide +kernel,by decide +kernel⟩
abbrev GJ:Stmt:=top 34
theorem pD:aP ["view","found","placed","cell","part","member"] ["view"] (aH GJ):=⟨rfl,rfl,rfl,by decide +kernel,rfl,by decide +kernel,by decide +kernel⟩
abbrev xP:Stmt:=top 35
theorem nC:aP ["view","last","found","teller","around","behind"] ["view","last"] (aH xP):=⟨rfl,rfl,rfl,by decide +kernel,rfl,by decide +kernel,by decide +kernel⟩
abbrev uD:Stmt:=top 36
theorem rJ:aP ["laying","asked","demand","stones"] ["laying","asked"] (aH uD):=⟨rfl,rfl,rfl,by decide +kernel,rfl,by decide +kernel,by decide +kernel⟩
abbrev xU:Stmt:=top 37
theorem jg:aP ["view","cell","part","begun","member","asked","both"] ["view","cell"] (aH xU):=⟨rfl,rfl,rfl,by decide +kernel,rfl,by decide +kernel,by decide +kernel⟩
abbrev xQ:Stmt:=top 38
theorem Np:aP ["view","cell"] ["view","cell"] (aH xQ):=⟨rfl,rfl,rfl,by decide +kernel,rfl,by decide +kernel,by decide +kernel⟩
abbrev nA:Stmt:=top 39
theorem qD:aP ["view","cell"] ["view"] (aH nA):=⟨rfl,rfl,rfl,by decide +kernel,rfl,by decide +kernel,by decide +kernel⟩
abbrev xO:Stmt:=top 40
theorem qw:aP ["view","found","part","cell"] ["view"] (aH xO):=⟨rfl,rfl,rfl,by decide +kernel,rfl,by decide +kernel,by decide +kernel⟩
abbrev xW:Stmt:=top 41
theorem uE:aP ["found","cell","stone","left","choice"] ["found","cell","stone"] (aH xW):=⟨rfl,rfl,rfl,by decide +kernel,rfl,by decide +kernel,by decide +kernel⟩
abbrev nu:Stmt:=top 43
theorem lN:aP ["found","chosen","choice"] ["found"] (aH nu):=⟨rfl,rfl,rfl,by decide +kernel,rfl,by decide +kernel,by decide +kernel⟩
abbrev rB:Stmt:=top 44
theorem m9:aP ["view","cell","found","without","having"] ["view","cell"] (aH rB):=⟨rfl,rfl,rfl,by decide +kernel,rfl,by decide +kernel,by decide +kernel⟩
abbrev Nm:Stmt:=top 45
theorem Sv:aP ["view","cell","found"] ["view","cell"] (aH Nm):=⟨rfl,rfl,rfl,by decide +kernel,rfl,by decide +kernel,by decide +kernel⟩
abbrev GK:Stmt:=top 46
theorem Km:aP ["view","cell","found"] ["view","cell"] (aH GK):=⟨rfl,rfl,rfl,by decide +kernel,rfl,by decide +kernel,by decide +kernel⟩
abbrev rC:Stmt:=top 48
theorem qu:aP ["choice","numbers","laying"] ["choice"] (aH rC):=⟨rfl,rfl,rfl,by decide +kernel,rfl,by decide +kernel,by decide +kernel⟩
abbrev xV:Stmt:=top 49
theorem qx:aP ["one","other","found","place","further"] ["one","other"] (aH xV):=⟨rfl,rfl,rfl,by decide +kernel,rfl,by decide +kernel,by decide +kernel⟩
abbrev rF:Stmt:=top 50
theorem mj:aP ["found","stones","numbers","choice"] ["found","stones"] (aH rF):=⟨rfl,rfl,rfl,by decide +kernel,rfl,by decide +kernel,by decide +kernel⟩
abbrev kh:Stmt:=top 51
theorem iu:aP ["one","other","rest"] ["one","other"] (aH kh):=⟨rfl,rfl,rfl,by decide +kernel,rfl,by decide +kernel,by decide +kernel⟩
abbrev GD:Stmt:=top 52
theorem Yv:aP ["view","stones"] ["view","stones"] (aH GD):=⟨rfl,rfl,rfl,by decide +kernel,rfl,by decide +kernel,by decide +kernel⟩
abbrev Bv:Stmt:=top 53
theorem pC:aP ["view","stones","cell","found","under","top","shared"] ["view","stones","cell"] (aH Bv):=⟨rfl,rfl,rfl,by decide +kernel,rfl,by decide +kernel,by decide +kernel⟩
abbrev lK:Stmt:=inClass (top 55) 0
theorem pB:aP ["self","height","width","stones","field"] ["self","height","width","stones"] (aH lK):=⟨rfl,rfl,rfl,by decide +kernel,rfl,by decide +kernel,by decide +kernel⟩
abbrev ni:Stmt:=inClass (top 55) 1
theorem jc:aP ["self","cell","opened","waiting","member"] ["self","cell"] (aH ni):=⟨rfl,rfl,rfl,by decide +kernel,rfl,by decide +kernel,by decide +kernel⟩
abbrev qm:Stmt:=inClass (top 55) 3
theorem DX:aP ["self"] ["self"] (aH qm):=⟨rfl,rfl,rfl,by decide +kernel,rfl,by decide +kernel,by decide +kernel⟩
abbrev nj:Stmt:=top 57
theorem zy:aP ["script","k"] ["script","k"] (aH nj):=⟨rfl,rfl,rfl,by decide +kernel,rfl,by decide +kernel,by decide +kernel⟩
abbrev qt:Stmt:=top 58
theorem oJ:aP ["e","told"] ["e"] (aH qt):=⟨rfl,rfl,rfl,by decide +kernel,rfl,by decide +kernel,by decide +kernel⟩
abbrev qp:Stmt:=top 59
theorem Ea:aP ["way"] ["way"] (aH qp):=⟨rfl,rfl,rfl,by decide +kernel,rfl,by decide +kernel,by decide +kernel⟩
abbrev oF:Stmt:=top 60
theorem rH:aP ["way","game"] ["way"] (aH oF):=⟨rfl,rfl,rfl,by decide +kernel,rfl,by decide +kernel,by decide +kernel⟩
abbrev uy:Stmt:=top 61
theorem yS:aP ["way","e"] ["way"] (aH uy):=⟨rfl,rfl,rfl,by decide +kernel,rfl,by decide +kernel,by decide +kernel⟩
abbrev Yu:Stmt:=top 62
theorem GQ:aP ["script","first","k","way"] ["script"] (aH Yu):=⟨rfl,rfl,rfl,by decide +kernel,rfl,by decide +kernel,by decide +kernel⟩
structure Adr where
 FieldError:Addr
 BadView:Addr
 BadLaying:Addr
 NoCell:Addr
 TooGreat:Addr
 Impossible:Addr
 NotOpen:Addr
 Over:Addr
 View:Addr
 Game:Addr
structure Txt(K:ao)(mg:Str->Option Value)(Z:Adr):Prop where
 uP:mg "ValueError" = none
 PJ:mg "all" = none
 a1W:mg "int" = none
 dI:mg "isinstance" = none
 fH:mg "len" = none
 KR:mg "list" = none
 VH:mg "max" = none
 VJ:mg "min" = none
 lY:mg "range" = none
 qR:mg "sorted" = none
 a4C:mg "str" = none
 jq:∃ t,mg "MOST_ROWS" = some (.int 6 t)
 gk:∃ t,mg "MOST_COLUMNS" = some (.int 6 t)
 fQ:∃ t,mg "CLOSED_SIGN" = some (.str "#" t)
 sW:∃ t,mg "SIGNS" = some (.str "#012345678" t)
 iR:∃ t,mg "MOST_CELLS" = some (.int 12 t)
 pR:mg "FieldError" = some (.ref Z.FieldError)
 mz:gG K Z.FieldError
 sI:mg "BadView" = some (.ref Z.BadView)
 mJ:gG K Z.BadView
 nU:mg "BadLaying" = some (.ref Z.BadLaying)
 ju:gG K Z.BadLaying
 mR:mg "NoCell" = some (.ref Z.NoCell)
 jF:gG K Z.NoCell
 uh:mg "TooGreat" = some (.ref Z.TooGreat)
 nF:gG K Z.TooGreat
 lZ:mg "Impossible" = some (.ref Z.Impossible)
 iW:gG K Z.Impossible
 wK:mg "NotOpen" = some (.ref Z.NotOpen)
 pG:gG K Z.NotOpen
 La:mg "Over" = some (.ref Z.Over)
 Cj:gG K Z.Over
 a2E:mg "View" = some (.ref Z.View)
 fY:Cls K Z.View
 jt:jz K Z.View "rows"
 eF:jz K Z.View "height"
 fL:jz K Z.View "width"
 a2D:mg "Game" = some (.ref Z.Game)
 cT:Cls K Z.Game
 dZ:jz K Z.Game "field"
 fU:jz K Z.Game "hidden"
 cX:jz K Z.Game "figures"
 jr:jz K Z.Game "lost"
 sO:nR K Z.BadView
 nY:nR K Z.BadLaying
 uT:nR K Z.NoCell
 pX:nR K Z.TooGreat
 m8:nR K Z.Impossible
 sS:nR K Z.NotOpen
 Gh:nR K Z.Over
 Qw:PySem.W.kitOne K (.ref Z.BadView) (.ref Z.BadView)=some true
 Qx:PySem.W.kitOne K (.ref Z.BadView) (.ref Z.BadLaying)=some false
 Qy:PySem.W.kitOne K (.ref Z.BadView) (.ref Z.NoCell)=some false
 Qz:PySem.W.kitOne K (.ref Z.BadView) (.ref Z.TooGreat)=some false
 QB:PySem.W.kitOne K (.ref Z.BadView) (.ref Z.Impossible)=some false
 QC:PySem.W.kitOne K (.ref Z.BadView) (.ref Z.NotOpen)=some false
 QD:PySem.W.kitOne K (.ref Z.BadView) (.ref Z.Over)=some false
 QF:PySem.W.kitOne K (.ref Z.BadView) (.ref Z.FieldError)=some true
 QG:PySem.W.kitOne K (.ref Z.BadView) (.type "ValueError")=some true
 QH:PySem.W.kitOne K (.ref Z.BadLaying) (.ref Z.BadView)=some false
 QJ:PySem.W.kitOne K (.ref Z.BadLaying) (.ref Z.BadLaying)=some true
 QK:PySem.W.kitOne K (.ref Z.BadLaying) (.ref Z.NoCell)=some false
 QL:PySem.W.kitOne K (.ref Z.BadLaying) (.ref Z.TooGreat)=some false
 QM:PySem.W.kitOne K (.ref Z.BadLaying) (.ref Z.Impossible)=some false
 QS:PySem.W.kitOne K (.ref Z.BadLaying) (.ref Z.NotOpen)=some false
 QT:PySem.W.kitOne K (.ref Z.BadLaying) (.ref Z.Over)=some false
 QV:PySem.W.kitOne K (.ref Z.BadLaying) (.ref Z.FieldError)=some true
 QW:PySem.W.kitOne K (.ref Z.BadLaying) (.type "ValueError")=some true
 QX:PySem.W.kitOne K (.ref Z.NoCell) (.ref Z.BadView)=some false
 QZ:PySem.W.kitOne K (.ref Z.NoCell) (.ref Z.BadLaying)=some false
 R0:PySem.W.kitOne K (.ref Z.NoCell) (.ref Z.NoCell)=some true
 R3:PySem.W.kitOne K (.ref Z.NoCell) (.ref Z.TooGreat)=some false
 R4:PySem.W.kitOne K (.ref Z.NoCell) (.ref Z.Impossible)=some false
 R5:PySem.W.kitOne K (.ref Z.NoCell) (.ref Z.NotOpen)=some false
 R6:PySem.W.kitOne K (.ref Z.NoCell) (.ref Z.Over)=some false
 R7:PySem.W.kitOne K (.ref Z.NoCell) (.ref Z.FieldError)=some true
 R8:PySem.W.kitOne K (.ref Z.NoCell) (.type "ValueError")=some true
 R9:PySem.W.kitOne K (.ref Z.TooGreat) (.ref Z.BadView)=some false
 Ra:PySem.W.kitOne K (.ref Z.TooGreat) (.ref Z.BadLaying)=some false
 Rb:PySem.W.kitOne K (.ref Z.TooGreat) (.ref Z.NoCell)=some false
 Rc:PySem.W.kitOne K (.ref Z.TooGreat) (.ref Z.TooGreat)=some true
 Rf:PySem.W.kitOne K (.ref Z.TooGreat) (.ref Z.Impossible)=some false
 Rg:PySem.W.kitOne K (.ref Z.TooGreat) (.ref Z.NotOpen)=some false
 Rh:PySem.W.kitOne K (.ref Z.TooGreat) (.ref Z.Over)=some false
 Ri:PySem.W.kitOne K (.ref Z.TooGreat) (.ref Z.FieldError)=some true
 Rj:PySem.W.kitOne K (.ref Z.TooGreat) (.type "ValueError")=some true
 Rk:PySem.W.kitOne K (.ref Z.Impossible) (.ref Z.BadView)=some false
 Rm:PySem.W.kitOne K (.ref Z.Impossible) (.ref Z.BadLaying)=some false
 Rn:PySem.W.kitOne K (.ref Z.Impossible) (.ref Z.NoCell)=some false
 Ro:PySem.W.kitOne K (.ref Z.Impossible) (.ref Z.TooGreat)=some false
 Rp:PySem.W.kitOne K (.ref Z.Impossible) (.ref Z.Impossible)=some true
 Rq:PySem.W.kitOne K (.ref Z.Impossible) (.ref Z.NotOpen)=some false
 Rr:PySem.W.kitOne K (.ref Z.Impossible) (.ref Z.Over)=some false
 Rt:PySem.W.kitOne K (.ref Z.Impossible) (.ref Z.FieldError)=some true
 Ru:PySem.W.kitOne K (.ref Z.Impossible) (.type "ValueError")=some true
 Rv:PySem.W.kitOne K (.ref Z.NotOpen) (.ref Z.BadView)=some false
 Rw:PySem.W.kitOne K (.ref Z.NotOpen) (.ref Z.BadLaying)=some false
 Rx:PySem.W.kitOne K (.ref Z.NotOpen) (.ref Z.NoCell)=some false
 Ry:PySem.W.kitOne K (.ref Z.NotOpen) (.ref Z.TooGreat)=some false
 Rz:PySem.W.kitOne K (.ref Z.NotOpen) (.ref Z.Impossible)=some false
 RD:PySem.W.kitOne K (.ref Z.NotOpen) (.ref Z.NotOpen)=some true
 RJ:PySem.W.kitOne K (.ref Z.NotOpen) (.ref Z.Over)=some false
 RK:PySem.W.kitOne K (.ref Z.NotOpen) (.ref Z.FieldError)=some true
 RL:PySem.W.kitOne K (.ref Z.NotOpen) (.type "ValueError")=some true
 RM:PySem.W.kitOne K (.ref Z.Over) (.ref Z.BadView)=some false
 RN:PySem.W.kitOne K (.ref Z.Over) (.ref Z.BadLaying)=some false
 RP:PySem.W.kitOne K (.ref Z.Over) (.ref Z.NoCell)=some false
 RQ:PySem.W.kitOne K (.ref Z.Over) (.ref Z.TooGreat)=some false
 RV:PySem.W.kitOne K (.ref Z.Over) (.ref Z.Impossible)=some false
 RW:PySem.W.kitOne K (.ref Z.Over) (.ref Z.NotOpen)=some false
 RX:PySem.W.kitOne K (.ref Z.Over) (.ref Z.Over)=some true
 RZ:PySem.W.kitOne K (.ref Z.Over) (.ref Z.FieldError)=some true
 S5:PySem.W.kitOne K (.ref Z.Over) (.type "ValueError")=some true
def YC(K:ao):Sp:=fun vs H Q _=>∃(a:Addr)(ns:List Int)(k:Int),vs=[.ref a,.int k]/\0<=k/\SqL K H a (ns.map V.int)/\∀ r:Int,Q (.int r) H
section
variable{P:Program}{w:World}{K:ao}{mg:Str->Option Value}{base:Heap}{Z:Adr}
theorem a0R{f:Addr}{b:FuncData} (F:Fun K "_law_cell_at" "_law_cell_at" nj f b) (T:Txt K mg Z):cB P w K mg base (CXE P w) 1 f b ["script","k"] (YC K):=by
 refine F.rok zy (fun m H Q E h=>?_) (fun cdv A outer s H m Q E n h=>?_)
 ·obtain⟨a,g,k,rfl,_⟩:=h;rfl
 ·obtain⟨a,g,k,rfl,i,c,d⟩:=h;refine⟨_,(au (bO (aZ Qu (rv 1) (aX (gn (K:=K)) rfl T.fH dw (aj (rv 0) ak)) (bC _)) (aB (aY (gq (gA (K:=K)) (rv 0) (rv 1)))) aO) (aB (aY aG))),?_⟩;refine⟨_,rfl,_,rfl,.inl ⟨a,_,rfl,.inl c,_,_,rfl,rfl,_,rfl,?_⟩⟩;refine Wx (fun j=>?_) (fun _=>?_)
  ·have l:k<g.length:=by have:=dj j;simp only[bf] at this;exact this
   obtain⟨v,e⟩:=a0c i l;exact⟨_,rfl,_,rfl,.inl ⟨a,_,_,_,rfl,rfl,c,e,d _⟩⟩
  ·exact d 0
end
theorem bw.a2m{K:ao}{H:Hp}{a:Type}{g:a->Str}:∀ xs:List a,bw K H (xs.map (V.str ∘ g)) (xs.map fun x=>Dt.str (g x))
 |[]=>.nil
 |x::xs=>.cons (.str _) (bw.a2m xs)
theorem Vr{K:ao}{H:Hp}{z:Str}{zzs:L2.St}{Q:VK}{i:TE}(hz:z.length<=sizeLine)
  (ht:∀(c:Nat)(a:Hp),∀ b:VK,b (.bl (inS "#012345678" c)) a->i (some (.str ⟨#[c]⟩)::zzs) a b)
  (l:∀ a,Same H a->Q (.bl (z.cps.toList.all (inS "#012345678"))) a) :
  ∃ h:Nat->Nat->List V->Hp->Prop,(∃ m,h 0 m [] H)/\qK (Its z) Vs i zzs (fun d g=>∀ p,g p=none->∃(q:Addr)(bs:List Bool),[V.ref p]=[.ref q]/\SqL K (upd g p (.lst d)) q (bs.map V.bl)/\Q (.bl (bs.all id)) (upd g p (.lst d))) h:=by
 refine comp_map (K:=K) (xs:=z.cps.toList) (enc:=fun c=>Dt.str ⟨#[c]⟩) (XD z) (by rw[qH];exact bw.a2m _) (by rw[nM];exact hz) (fun c=>Dt.bl (inS "#012345678" c)) (fun c _ v a s f b j=>?_) (fun d a s f p k=>?_)
 ·cases f;exact ht c a b (j _ _ (Same.refl _) (.bl _))
 ·have e:d=(z.cps.toList.map (inS "#012345678")).map V.bl:=by
   refine bw.Gs (K:=K) (H:=a) ?_;rw[qH];exact f
  refine⟨p,z.cps.toList.map (inS "#012345678"),rfl,SqL.of (by rw[aC,e]),?_⟩;rw[Ii];exact l _ (s.and k)
def a2l:Sp:=fun vs H Q _=>∃(z:Str)(n:Int),vs=[.str z,.int n]/\z.length<=1000/\∀ H',Same H H'->Q (.bl (Bt z n)) H'
theorem El{l n m:Int}{d:TE}{zzs:L2.St}{H:Hp}{a:VK}(k:∀ b:VK,b (.int m) H->d zzs H b)(c:a (.bl (decide (l<=n/\n<=m))) H) :
  if decide (l<=n)=true then d zzs H (fun w' f=>rI0 (fun i j=>.bl (decide (i<=j))) (.int n) w' f a) else a (.bl false) H:=by
 refine Wx (fun h1=>k _ ⟨_,_,rfl,rfl,?_⟩) (fun h1=>?_)
 ·have g:=dj h1;have e:decide (l<=n/\n<=m)=decide (n<=m):=by simp[g]
  show a (.bl (decide (n<=m))) H;rw[<- e];exact c
 ·have e:decide (l<=n/\n<=m)=false:=cU fun h=>h1 (cR h.1)
  rw[<- e];exact c
def qF(m n:Int):Bool:=decide (1<=m/\m<=6)&&decide (1<=n/\n<=6)
def Nz:Sp:=fun vs H Q _=>∃(m n:Int),vs=[.int m,.int n]/\Q (.bl (qF m n)) H
def YL(K:ao):Sp:=fun vs H Q _=>∃(p:Addr)(zs:List Str),vs=[.ref p]/\SqL K H p (zs.map V.str)/\zs.length<=1000/\(∀ z∈zs,z.length<=1000)/\∀ H',Same H H'->Q (.bl (yV zs)) H'
theorem a2a{zs:List Str}:(((zs.map V.str).length:Nat):Int)=(zs.length:Int):=by rw[bf]
theorem Yr{K:ao}{H:Hp}{a:Addr}{zs:List Str}{n:Int}{zzs:L2.St}{Q:VK}{j:TE}(l:SqL K H a (zs.map V.str))(hz:zs.length<=1000)
  (ht:∀ z∈zs,∀(b:Hp),Same H b->∀ c:VK,(∀ f,Same b f->c (.bl (Bt z n)) f)->j (some (.str z)::zzs) b c)
  (q:∀ b,Same H b->Q (.bl (zs.all fun r=>Bt r n)) b) :
  ∃ i:Nat->Nat->List V->Hp->Prop,(∃ m,i 0 m [] H)/\qK (Itl K a) Vs j zzs (fun g h=>∀ p,h p=none->a5r K [V.ref p] (upd h p (.lst g)) Q) i:=by
 refine comp_map (K:=K) (xs:=zs) (enc:=Dt.str) (d8 l) (bw.strs zs) (small (by lia)) (fun z=>Dt.bl (Bt z n)) (fun z hz v b s d c k=>?_) (fun g b s d p o=>?_)
 ·cases d;exact ht z hz b s c fun f t=>k _ _ t (.bl _)
 ·have e:g=(zs.map fun z=>Bt z n).map V.bl:=by
   refine bw.Gs (K:=K) (H:=b) ?_;rw[qH];exact d
  refine⟨p,zs.map fun z=>Bt z n,rfl,SqL.of (by rw[aC,e]),?_⟩;rw[Ii];exact q _ (s.and o)
section
variable{P:Program}{w:World}{K:ao}{mg:Str->Option Value}{base:Heap}{Z:Adr}
theorem a3v{f:Addr}{b:FuncData} (F:Fun K "is_row" "is_row" BJ f b) (T:Txt K mg Z):cB P w K mg base (CXE P w) 1 f b ["row","width"] a2l:=by
 refine F.rok Vo (fun l H Q E h=>?_) (fun cdv A outer s H l Q E e h=>?_)
 ·obtain⟨a,n,rfl,_⟩:=h;rfl
 ·obtain⟨a,n,rfl,o,d⟩:=h;have j:=lA e;have k:=M6 e;have g:a.length<=sizeLine:=small (by lia);refine⟨_,(aB (aY (K4 (K5 (fj.or (f9 (K:=K) j)) (aX (gn (K:=K)) rfl T.fH dw (aj (rv 0) ak)) (rv 1) (bC _)) (K6 (aX (k_all (K:=K) rfl) rfl T.PJ KZ (aj (lJ (by rfl) rfl (a4i (rv 0)) (fun _ _ _=>zM) (fun _ _ _=>(K5 (mG.or (Ey (K:=K) k)) (rv 0) (N6 T.sW rfl) (by rfl)))) ak)))))),?_⟩;refine⟨_,rfl,.inr ⟨a,rfl,g,_,rfl,.inl ⟨rfl,_,rfl,?_⟩⟩⟩;rw[eY];refine Wx (fun h1=>?_) (fun h1=>?_)
  ·refine⟨_,rfl,a,rfl,Vr (K:=K) g (fun c H' m i=>⟨_,rfl,.inl ⟨_,_,rfl,rfl,i⟩⟩) fun H' s'=>?_⟩;have:=d H' s';unfold Bt at this;rw[h1,rP] at this;exact this
  ·have:=d H (Same.refl _);unfold Bt at this;rw[Bool.eq_false_iff.mpr h1,yx] at this;exact this
theorem a0W{f:Addr}{c:FuncData} (F:Fun K "is_size" "is_size" xR f c) (T:Txt K mg Z):cB P w K mg base (CXE P w) 1 f c ["height","width"] Nz:=by
 refine F.rok Nq (fun d H Q E h=>?_) (fun cdv A outer s H d Q E e h=>?_)
 ·obtain⟨m,n,rfl,_⟩:=h;rfl
 ·obtain⟨m,n,rfl,a⟩:=h;refine⟨_,(aB (aY (K4 (zL vh vh aG (rv 0) (N5 T.jq rfl)) (K6 (zL vh vh aG (rv 1) (N5 T.gk rfl)))))),?_⟩;refine⟨_,rfl,_,_,rfl,rfl,_,rfl,?_⟩;refine El (m:=6) (fun _ q=>q) ⟨_,rfl,cP (fun b=>?_) (fun b=>?_)⟩
  ·unfold qF at a;rw[b,rP] at a;refine⟨_,rfl,_,_,rfl,rfl,_,rfl,?_⟩;exact El (m:=6) (fun _ q=>q) a
  ·unfold qF at a;rw[b,yx] at a;exact a
theorem BX{m n:Int}:qF m n=true↔((1<=m/\m<=6)/\(1<=n/\n<=6)):=by
 unfold qF;rw[nO,iw,iw]
theorem a0Y{f:Addr}{g:FuncData} (F:Fun K "is_view" "is_view" xT f g) (T:Txt K mg Z) (t:Df P w K mg base 1 "is_row" ["row","width"] a2l) (o:Df P w K mg base 1 "is_size" ["height","width"] Nz):cB P w K mg base (CXE P w) 2 f g ["rows"] (YL K):=by
 refine F.rok Nr (fun q H Q E h=>?_) (fun cdv A outer s H q Q E e h=>?_)
 ·obtain⟨p,zs,rfl,_⟩:=h;rfl
 ·obtain⟨p,zs,rfl,b,k,i,d⟩:=h;have m:=lA e;refine⟨_,(au (bO (Nh (K8 (aZ (fj.or (f9 (K:=K) m)) (aX (gn (K:=K)) rfl T.fH dw (aj (rv 0) ak)) aG (bC _)) (Gy (jf (gY (aQ o e rfl aW (aj (aX (gn (K:=K)) rfl T.fH dw (aj (rv 0) ak)) (aj (aX (gn (K:=K)) rfl T.fH dw (aj (gq (gA (K:=K)) (rv 0) aG) ak)) ak)))))))) (aB (aY qI)) aO) (aB (aY (aX (k_all (K:=K) rfl) rfl T.PJ KZ (aj (lJ (by rfl) rfl (bN (K:=K) (rv 0)) (fun _ _ _=>zM) (fun _ _ _=>(aQ t e rfl aW (aj (rv 0) (aj (aX (gn (K:=K)) rfl T.fH dw (aj (gq (gA (K:=K)) (rv 1) aG) ak)) ak))))) ak))))),?_⟩;refine⟨_,rfl,.inl ⟨p,_,rfl,.inl b,.inl ⟨rfl,_,rfl,?_⟩⟩⟩;rw[a2a,eY];refine cP (fun c=>?_) (fun c=>?_)
  ·cases zs with
   |nil=>exact d H (Same.refl _)
   |cons a zs=>have:=dj c;simp only[gD] at this;lia
  cases zs with
  |nil=>cases c
  |cons a zs=>
   have B:=i a cV;refine⟨_,rfl,.inl ⟨p,_,rfl,.inl b,_,rfl,.inl ⟨p,_,_,_,rfl,rfl,b,iG,.inr ⟨a,rfl,small (by lia),?_⟩⟩⟩⟩;refine⟨_,_,rfl,?_⟩;rw[a2a];refine⟨_,rfl,cP (fun h1=>?_) (fun h1=>?_)⟩
   ·have:=d H (Same.refl _);have h1:¬qF ((a::zs).length:Nat) a.length=true:=by simpa using h1
    rw[BX] at h1;by_cases h2:(a::zs).length<=6
    ·rw[NT (by simp only[gD] at h1 h2 ⊢;lia)] at this;exact this
    ·rw[NQ h2] at this;exact this
   ·have h1:qF ((a::zs).length:Nat) a.length=true:=by simpa using h1
    rw[BX] at h1;obtain⟨⟨v,x⟩,y,z⟩:=h1;refine⟨_,rfl,p,rfl,⟨_,b⟩,Yr b k (n:=a.length) (fun r l H' s' u j=>?_) fun H' s'=>?_⟩
    ·refine⟨_,rfl,_,rfl,.inl ⟨p,_,_,_,rfl,rfl,s'.seq b,iG,.inr ⟨a,rfl,small (by lia),?_⟩⟩⟩;exact⟨r,_,rfl,i r l,j⟩
    ·rw[<- Ci (by lia) (by lia) (by lia)];exact d H' s'
def xZ(K:ao)(C B:Addr):Sp:=fun vs H Q E=>∃(x dx p:Addr)(z:List Str),vs=[.ref x,.ref p]/\H x=some (.ins C dx [])/\SqL K H p (z.map V.str)/\z.length<=1000/\(∀ r∈z,r.length<=1000) /\
 (yV z=false->∀ H',Same H H'->E (.ref B) none H')/\(yV z=true->∀ H' (l:Addr) (z0:Str) (zs:List Str),z=z0::zs->H l=none->l≠x->H' l=some (.lst (z.map V.str))->H' x=some (.ins C dx (uY l z.length z0.length))->(∀ b o,H b=some o->b≠x->H' b=some o)->Q .non H')
theorem YM{K:ao}{H:Hp}{p x C c:Addr}{xs:List V}{fs:List (Str×V)}{o:HO}(h:SqL K H p xs)(b:H x=some (.ins C c fs)):SqL K (upd H x o) p xs:=by
 rcases h with(h|⟨d,h⟩)|h
 ·exact .inl (.inl (by rw[aN (fX h b (by intro a;cases a))];exact h))
 ·exact .inl (.inr ⟨d,by rw[aN (fX h b (by intro a;cases a))];exact h⟩)
 ·exact .inr h
theorem a4Q{a b:Str}{u v:V}:(dD a v (dD b u [])).length<1000:=by
 have h1:=dN a v (dD b u []);have h2:=dN b u [];simp only[vW] at h2;lia
theorem a0S{f:Addr}{n:FuncData} (F:Fun K "__init__" "View.__init__" lM f n) (T:Txt K mg Z) (G:Df P w K mg base 2 "is_view" ["rows"] (YL K)):cB P w K mg base (CXE P w) 3 f n ["self","rows"] (xZ K Z.View Z.BadView):=by
 refine F.vq xX (fun D H Q E h=>?_) (fun cdv A outer s H D Q E q h=>?_)
 ·obtain⟨x,dx,p,g,rfl,_⟩:=h;rfl
 ·obtain⟨x,dx,p,g,rfl,r,i,B,t,y,C⟩:=h;have z:=v8 q;refine⟨_,(au (bO (RT.nox (jf (gY (aQ G q rfl aW (aj (rv 1) ak))))) (aB (fM T.mJ rfl T.sI z (aj bx ak))) aO) (au (RS.nox (rA (rv 0) (Bo (WM (K:=K)) rfl T.KR PL (aj (rv 1) ak)))) (au (RS.nox (rA (rv 0) (aX (gn (K:=K)) rfl T.fH dw (aj (rv 1) ak)))) (aB (RS.nox (rA (rv 0) (aX (gn (K:=K)) rfl T.fH dw (aj (gq (gA (K:=K)) (rv 1) aG) ak)))))))),?_⟩;refine⟨_,rfl,p,g,rfl,i,B,t,fun H1 s1=>⟨_,rfl,?_⟩⟩;cases k:yV g with
  |false=>exact jw ⟨by decide,y k H1 s1⟩
  |true=>
   refine iZ ?_;cases g with
   |nil=>exact absurd (show false=true from k) (by decide)
   |cons a zs=>
    have I:=t a cV;refine⟨_,rfl,p,_,rfl,.inl (s1.seq i),fun l d=>?_⟩;have c:l≠x:=(aR (s1 x _ r) d).symm;have h1:(upd H1 l (.lst ((a::zs).map V.str))) x=some (.ins Z.View dx []):=by rw[aN c.symm];exact s1 x _ r
    have u:SqL K (upd H1 l (.lst ((a::zs).map V.str))) p ((a::zs).map V.str):=(s1.and d).seq i;refine⟨_,rfl,x,Z.View,dx,_,rfl,h1,T.fY,T.jt,(by show 0<1000;decide),?_⟩;have m:=YM (o:=.ins Z.View dx (dD "rows" (.ref l) [])) u h1;refine⟨_,rfl,.inl ⟨p,_,rfl,.inl m,_,rfl,x,Z.View,dx,_,rfl,aC,T.fY,T.eF,(by show 1<1000;decide),?_⟩⟩;have v:=YM (o:=.ins Z.View dx (dD "height" (.int ((a::zs).map V.str).length) (dD "rows" (.ref l) []))) m aC;refine⟨_,rfl,.inl ⟨p,_,_,_,rfl,rfl,v,iG,.inr ⟨a,rfl,small (by lia),_,rfl,x,Z.View,dx,_,rfl,aC,T.fY,T.fL,a4Q,?_⟩⟩⟩;refine C k _ l a zs rfl (s1.free d) c ?_ ?_ (fun b o e j=>?_)
    ·rw[aN c,aN c,aN c,aC]
    ·rw[aC];rw[bf];rfl
    ·rw[aN j,aN j,aN j];exact(s1.and d) b o e
end
def Ca(K:ao)(C:Addr):Sp:=fun vs H Q _=>∃(x:Addr)(v:V)(zs:List Str)(w:Nat)(c:Cell),vs=[.ref x,v]/\cI C H x zs w/\Den K H v (aD c)/\Q (.bl (decide (inF zs.length w c))) H
def gJ(K:ao)(C:Addr):Sp:=fun vs H Q _=>∃(x:Addr)(v:V)(zs:List Str)(w:Nat)(c:Cell),vs=[.ref x,v]/\cI C H x zs w/\Den K H v (aD c)/\Q (.bl (aK zs w c)) H
def qy(K:ao)(C:Addr):Sp:=fun vs H Q _=>∃(x:Addr)(zs:List Str)(w:Nat),vs=[.ref x]/\cI C H x zs w/\∀ q H',Fr K H H' q ((cM zs.length w).map aD)->Q (.ref q) H'
def mq(K:ao)(C NC:Addr):Sp:=fun vs H Q E=>∃(x:Addr)(v:V)(zs:List Str)(w:Nat)(c:Cell),vs=[.ref x,v]/\cI C H x zs w/\Den K H v (aD c)/\(inF zs.length w c->∀ q H',Fr K H H' q ((gO zs.length w c).map aD)->Q (.ref q) H')/\(¬inF zs.length w c->∀ H',Same H H'->E (.ref NC) none H')
section
variable{P:Program}{w:World}{K:ao}{mg:Str->Option Value}{base:Heap}{Z:Adr}
theorem a3s{f:Addr}{g:FuncData} (F:Fun K "has_cell" "has_cell" uz f g) (T:Txt K mg Z):cB P w K mg base (CXE P w) 1 f g ["view","cell"] (Ca K Z.View):=by
 refine F.rok Kh (fun o H Q E h=>?_) (fun cdv A outer s H o Q E t h=>?_)
 ·obtain⟨x,v,zs,w,c,rfl,_⟩:=h;rfl
 ·obtain⟨x,v,zs,w,c,rfl,p,d,n⟩:=h;obtain⟨dx,l,i,r⟩:=p.ob;refine⟨_,(aB (aY (K4 (zL vh Qu aG (gq (gA (K:=K)) (rv 1) aG) (dY (K:=K) (rv 0))) (K6 (zL vh Qu aG (gq (gA (K:=K)) (rv 1) aG) (dY (K:=K) (rv 0))))))),?_⟩;refine⟨_,rfl,Br d ⟨_,_,rfl,rfl,_,rfl,?_⟩⟩;refine Em (m:=(zs.length:Int)) (fun j q=>⟨_,rfl,x,Z.View,dx,_,_,rfl,i,T.fY,T.eF,uZ _ _ _,q⟩) ⟨_,rfl,?_⟩;have fin:∀ b:Bool,b=decide (inF zs.length w c)->Q (.bl b) H:=fun b e=>by rw[e];exact n
  refine cP (fun h1=>?_) (fun h1=>fin _ (cU fun a=>by rw[cR a.1] at h1;cases h1).symm);refine⟨_,rfl,Bs d ⟨_,_,rfl,rfl,_,rfl,?_⟩⟩;refine Em (m:=(w:Int)) (fun j q=>⟨_,rfl,x,Z.View,dx,_,_,rfl,i,T.fY,T.fL,zF _ _ _,q⟩) (fin _ ?_);have k:=dj h1;by_cases h2:0<=c.2/\c.2<(w:Int)
  ·rw[cR h2,cR (show inF zs.length w c from⟨k,h2⟩)]
  ·rw[cU h2,cU (fun a:inF zs.length w c=>h2 a.2)]
theorem JL{f:Addr}{g:FuncData} (F:Fun K "is_closed" "is_closed" rD f g) (T:Txt K mg Z) (o:Df P w K mg base 1 "has_cell" ["view","cell"] (Ca K Z.View)):cB P w K mg base (CXE P w) 2 f g ["view","cell"] (gJ K Z.View):=by
 refine F.rok GP (fun r H Q E h=>?_) (fun cdv A outer s H r Q E j h=>?_)
 ·obtain⟨x,v,zs,w,c,rfl,_⟩:=h;rfl
 ·obtain⟨x,v,zs,w,c,rfl,d,b,a⟩:=h;obtain⟨dx,l,q,i⟩:=d.ob;have p:=lA j;refine⟨_,(aB (aY (K4 (aQ o j rfl aW (aj (rv 0) (aj (rv 1) ak))) (K6 (K5 (fj.or (f9 (K:=K) p)) (gq (gA (K:=K)) (gq (gA (K:=K)) (dY (K:=K) (rv 0)) (gq (gA (K:=K)) (rv 1) aG)) (gq (gA (K:=K)) (rv 1) aG)) (N6 T.fQ rfl) (bC _)))))),?_⟩;refine⟨_,rfl,_,rfl,x,v,zs,w,c,rfl,d,b,_,rfl,?_⟩;unfold aK at a;refine cP (fun h1=>?_) (fun h1=>?_)
  ·rw[h1,rP] at a;obtain⟨⟨t,u⟩,⟨y,z⟩⟩:=dj h1;have k:c.1=((c.1.toNat:Nat):Int):=by lia
   have m:c.2=((c.2.toNat:Nat):Int):=by lia
   have i1:c.1.toNat<zs.length:=by lia
   refine⟨_,rfl,x,Z.View,dx,_,_,rfl,q,T.fY,T.jt,LQ _ _ _,_,rfl,Br b ?_⟩;rw[k];refine Yn (SqL.of i) i1 ⟨_,rfl,Bs b ?_⟩;rw[m];refine Sh (SqL.of i) d.vw.toRect i1 (by lia) (.inl ⟨rfl,?_⟩);have es:decide (V.str ⟨#[codeAt zs (c.1.toNat,c.2.toNat)]⟩=V.str "#")=decide (codeAt zs (c.1.toNat,c.2.toNat)=35):=by
    congr 1;apply propext;have n:("#" : Str)=⟨#[35]⟩:=by decide +kernel
    rw[n];constructor
    ·intro e;simpa using e
    ·intro e;rw[e]
   rw[es];exact a
  ·rw[h1,yx] at a;exact a
theorem JH{f:Addr}{u:FuncData} (F:Fun K "cells" "cells" GC f u) (T:Txt K mg Z):cB P w K mg base (CXE P w) 1 f u ["view"] (qy K Z.View):=by
 refine F.rok vI (fun L H Q E h=>?_) (fun cdv A outer s H L Q E U h=>?_)
 ·obtain⟨x,zs,w,rfl,_⟩:=h;rfl
 ·obtain⟨x,zs,w,rfl,k,D⟩:=h;have M:=k.vw.le;have z:=k.vw.w6;have W:zs.length*w<=6*6:=rY M z;refine⟨_,(au (bK (i:=1) vI.nd rfl (Or.inl rfl) (bU ak)) (au (fu gQ rfl (pA rfl T.lY (aj (dY (K:=K) (rv 0)) ak)) (cY (i:=2) vI.nd rfl (Or.inl rfl)) (aB (fu gQ rfl (pA rfl T.lY (aj (dY (K:=K) (rv 0)) ak)) (cY (i:=3) vI.nd rfl (Or.inl rfl)) (aB (bJ (nZ (K:=K) lU tY tZ gV (rv 1) (aj (eG (aj (rv 2) (aj (rv 3) ak))) ak))))))) (aB (aY (rv 1))))),?_⟩;refine aF (fun zzs H1=>∃ q,H q=none/\Same H H1/\H1 q=some (.lst [])/\zzs=[zzR x,zzR q,zzN,zzN]) (fun R m=>?_) ?_
  ·exact⟨by decide,fun q v=>m _ _ ⟨q,v,Same.put v,aC,rfl⟩⟩
  rintro zzs H1 ⟨q,y,s1,G,rfl⟩;refine aF (fun zzs H2=>∃(e a:Option V),Fr K H H2 q ((cM zs.length w).map aD)/\zzs=[zzR x,zzR q,e,a]) (fun R m=>?_) ?_
  ·obtain⟨dx,l,p,C⟩:=(k.mono s1).ob;refine⟨_,rfl,x,Z.View,dx,_,_,rfl,p,T.fY,T.eF,uZ _ _ _,_,rfl,by lia,by lia,?_⟩;rw[jR];refine jo (lo:=0) (n:=zs.length) (fun i zzs H2=>∃(e a:Option V),Same H H2/\Ls K H2 q ((cM i w).map aD)/\zzs=[zzR x,zzR q,e,a]) ⟨none,none,s1,⟨[],G,.nil⟩,rfl⟩ (fun i zzs H2 N d=>?_) (fun zzs H2 d=>?_)
   ·obtain⟨e,a,b,g,rfl⟩:=d;obtain⟨dx,l,p,C⟩:=(k.mono b).ob;refine⟨_,rfl,x,Z.View,dx,_,_,rfl,p,T.fY,T.fL,zF _ _ _,_,rfl,by lia,by lia,?_⟩;rw[jR];refine jo (lo:=0) (n:=w) (fun j zzs H2=>∃ a:Option V,Same H H2/\Ls K H2 q ((cM i w++(List.range j).map fun c:Nat=>((i:Int),(c:Int))).map aD)/\zzs=[zzR x,zzR q,zzI (0+i),a]) ⟨a,b,by simpa using g,rfl⟩ (fun j zzs H2 O d=>?_) (fun zzs H2 d=>?_)
    ·obtain⟨a,b,⟨xs,ex,r⟩,rfl⟩:=d;have step:cM i w++(List.range (j+1)).map (fun c:Nat=>((i:Int),(c:Int)))=(cM i w++(List.range j).map fun c:Nat=>((i:Int),(c:Int)))++[((i:Int),(j:Int))]:=by
      rw[CQ,iz,<- z9];rfl
     have J:=r.length;rw[bf,cL,jY,bf,vU] at J;have S:i*w<=6*6:=rY (by lia) z;refine⟨_,rfl,.inl ⟨rfl,_,SqL.of ex⟩,_,rfl,_,rfl,sz rfl,fun t I=>?_⟩;have st:=Same.put (o:=.tup [V.int (0+i),V.int (0+j)]) I;refine⟨q,xs,_,rfl,rfl,st _ _ ex,ltl (by lia),?_⟩;refine⟨_,(SameBut.refl q _).put.of (b.trans st) y,⟨xs++[.ref t],aC,?_⟩,rfl⟩;rw[step,iz];refine((SameBut.refl q _).put.cells (st _ _ ex) (r.mono st)).append (.cons ((SameBut.refl q _).put.cell (st _ _ ex) ?_) .nil);rw[yG,yG];exact bT
    ·obtain⟨a,b,g,rfl⟩:=d;exact⟨_,_,b,by rw[Av];exact g,rfl⟩
   ·obtain⟨e,a,b,g,rfl⟩:=d;exact m _ _ ⟨e,a,⟨b,y,g⟩,rfl⟩
  rintro zzs H2 ⟨e,a,B,rfl⟩;exact⟨_,rfl,D q H2 B⟩
end
def qz(K:ao)(C:Addr)(g:List Str->Nat->Cell->List Cell):Sp:=fun vs H Q _=>∃(x:Addr)(v:V)(zs:List Str)(w:Nat)(c:Cell),vs=[.ref x,v]/\cI C H x zs w/\Den K H v (aD c)/\inF zs.length w c/\∀ q H',Fr K H H' q ((g zs w c).map aD)->Q (.ref q) H'
def rM(K:ao)(C:Addr)(g:List Str->Nat->List Cell):Sp:=fun vs H Q _=>∃(x:Addr)(zs:List Str)(w:Nat),vs=[.ref x]/\cI C H x zs w/\∀ q H',Fr K H H' q ((g zs w).map aD)->Q (.ref q) H'
def bR(zs:List Str)(w:Nat):List Cell:=(bM zs w).filter fun x=>decide (0<(aM zs w x).length)
def lB(zs:List Str)(w:Nat):List Cell:=(bM zs w).filter fun x=>decide ((aM zs w x).length=0)
theorem fJ{zs:List Str}{w:Nat}(v:Vw zs w):(bM zs w).length<=36:=by
 have h1:(bM zs w).length<=(cM zs.length w).length:=lV _ _;rw[jY] at h1;have h2:zs.length*w<=6*6:=rY v.le v.w6;lia
theorem vm(zs:List Str)(w:Nat)(x:Cell):(aM zs w x).length<=8:=dU (lV _ _) (iT _ _ _)
theorem a2N(a b:Cell):(!eqD (aD a) (aD b))=!decide (a=b):=by rw[Jm]
theorem Qk(a:Int):(if(0:Int)>a then(0:Int) else a)=max a 0:=by by_cases h:(0:Int)>a<;>simp only[h,uM,nH]<;>lia
theorem Qm(a b:Int):(if b<a then b else a)=min a b:=by by_cases h:b<a<;>simp only[h,uM,nH]<;>lia
theorem Xb{a:Int}(h:a<=6):0<=max a 0/\max a 0<=6:=⟨Int.le_max_right _ _,Int.max_le.mpr ⟨h,by decide⟩⟩
theorem Xf{a b:Int}(h:0<=a)(h0:0<=b)(c:b<=6):0<=min a b/\min a b<=6:=⟨Int.le_min.mpr ⟨h,h0⟩,Int.le_trans (Int.min_le_right _ _) c⟩
theorem Yq{i j:Int}(a:0<=i/\i<=6)(b:0<=j/\j<=6) : -(2^62)<=i/\i<2^62 /\ -(2^62)<=j/\j<2^62:=⟨by lia,by omega,by lia,by omega⟩
theorem W7{a b:Int}{i:Nat}(c:0<=a)(d:b<=6)(h:i<(b-a).toNat):i<6:=by lia
theorem a2H{a b:Int}(c:0<=a)(d:b<=6):(b-a).toNat<=6:=by lia
theorem a5H{a b n:Nat}(c:a<=n*6)(d:b<=6):a+b<=(n+1)*6:=by lia
theorem a5b{a b i j:Nat}(c:a<=i*6)(d:b<=j)(e:i<6)(f:j<6):a+b<=100:=by lia
section
variable{P:Program}{w:World}{K:ao}{mg:Str->Option Value}{base:Heap}{Z:Adr}
theorem Xx{f:Addr}{W:FuncData} (F:Fun K "near" "near" Nk f W) (T:Txt K mg Z) (ac:Df P w K mg base 1 "has_cell" ["view","cell"] (Ca K Z.View)):cB P w K mg base (CXE P w) 2 f W ["view","cell"] (mq K Z.View Z.NoCell):=by
 refine F.vq zN (fun ay H Q E h=>?_) (fun cdv A outer s H ay Q E N h=>?_)
 ·obtain⟨x,v,zs,w,c,rfl,_⟩:=h;rfl
 ·obtain⟨x,v,zs,w,c,rfl,D,r,ai,ad⟩:=h;have ao:=lA N;have ae:=v8 N;have aA:=D.vw.le;have az:=D.vw.w6;refine⟨_,(au (bO (RT.nox (jf (gY (aQ ac N rfl aW (aj (rv 0) (aj (rv 1) ak)))))) (aB (fM T.jF rfl T.mR ae (aj bx ak))) aO) (au (RS.nox (bK (i:=2) zN.nd rfl (Or.inl rfl) (bU ak))) (au (RS.nox (fu gQ rfl (xK rfl T.lY (aj (aX (Ei rfl) rfl T.VH VN (aj (lC Gv (gq (gA (K:=K)) (rv 1) aG) aG) (aj aG ak))) (aj (aX (Ej rfl) rfl T.VJ VP (aj (lC jE (gq (gA (K:=K)) (rv 1) aG) aG) (aj (dY (K:=K) (rv 0)) ak))) ak))) (cY (i:=3) zN.nd rfl (Or.inl rfl)) (aB (fu gQ rfl (xK rfl T.lY (aj (aX (Ei rfl) rfl T.VH VN (aj (lC Gv (gq (gA (K:=K)) (rv 1) aG) aG) (aj aG ak))) (aj (aX (Ej rfl) rfl T.VJ VP (aj (lC jE (gq (gA (K:=K)) (rv 1) aG) aG) (aj (dY (K:=K) (rv 0)) ak))) ak))) (cY (i:=4) zN.nd rfl (Or.inl rfl)) (aB (bO (aZ (Fe.or (Ez (K:=K) ao)) (eG (aj (rv 3) (aj (rv 4) ak))) (rv 1) (bC _)) (aB (bJ (nZ (K:=K) lU tY tZ gV (rv 2) (aj (eG (aj (rv 3) (aj (rv 4) ak))) ak)))) aO)))))) (aB (RS.nox (aY (rv 2))))))),?_⟩;refine aF (fun zzs H1=>inF zs.length w c/\Same H H1/\zzs=[zzR x,some v,zzN,zzN,zzN]) (fun R z=>?_) ?_
  ·refine⟨_,rfl,_,rfl,x,v,zs,w,c,rfl,D,r,_,rfl,?_⟩;refine cP (fun h1=>⟨by decide,ad (iY (by simpa only[jJ] using h1)) H (Same.refl _)⟩) (fun h1=>z _ _ ⟨dj (by simpa only[ou] using h1),Same.refl _,rfl⟩)
  rintro zzs H1 ⟨M,s1,rfl⟩;have C:=ai M;rw[<- XS aA az M] at C;obtain⟨⟨aE,aH⟩,⟨aI,aJ⟩⟩:=id M;refine aF (fun zzs H2=>∃ q,H q=none/\Same H H2/\H2 q=some (.lst [])/\zzs=[zzR x,some v,zzR q,zzN,zzN]) (fun R z=>?_) ?_
  ·exact⟨by decide,fun q C=>z _ _ ⟨q,s1.free C,s1.and C,aC,rfl⟩⟩
  rintro zzs H2 ⟨q,Y,s2,al,rfl⟩;have aq:(if(0:Int)>c.1-1 then(0:Int) else c.1-1)=max (c.1-1) 0:=Qk _;have ar:(if(zs.length:Int)<c.1+2 then(zs.length:Int) else c.1+2)=min (c.1+2) zs.length:=Qm _ _;have as:(if(0:Int)>c.2-1 then(0:Int) else c.2-1)=max (c.2-1) 0:=Qk _;have av:(if(w:Int)<c.2+2 then(w:Int) else c.2+2)=min (c.2+2) w:=Qm _ _;have U:=Xb (a:=c.1-1) (by lia);have J:=Xb (a:=c.2-1) (by lia);have S:=Xf (a:=c.1+2) (b:=(zs.length:Int)) (by lia) (by lia) (by lia);have I:=Xf (a:=c.2+2) (b:=(w:Int)) (by lia) (by lia) (by lia);refine aF (fun zzs d=>∃(p g:Option V),Fr K H d q ((MP zs.length w c).map aD)/\zzs=[zzR x,some v,zzR q,p,g]) (fun R z=>?_) ?_
  ·obtain⟨dx,l,O,ah⟩:=(D.mono s2).ob;refine⟨_,rfl,Br (r.mono s2) ⟨_,_,rfl,rfl,_,_,rfl,?_⟩⟩;refine⟨_,rfl,Br (r.mono s2) ⟨_,rfl,x,Z.View,dx,_,_,rfl,O,T.fY,T.eF,uZ _ _ _,_,_,rfl,_,_,rfl,?_⟩⟩;rw[aq,ar];refine⟨Yq U S,?_⟩;refine jo (lo:=max (c.1-1) 0) (n:=(min (c.1+2) (zs.length:Int)-max (c.1-1) 0).toNat) (fun i zzs d=>∃(p g:Option V),Same H d/\Ls K d q ((qj w c (max (c.1-1) 0) i).map aD)/\zzs=[zzR x,some v,zzR q,p,g]) ⟨none,none,s2,⟨[],al,.nil⟩,rfl⟩ (fun i zzs d af m=>?_) (fun zzs d m=>?_)
   ·obtain⟨p,g,e,u,rfl⟩:=m;obtain⟨dx,l,O,ah⟩:=(D.mono e).ob;refine⟨_,rfl,Bs (r.mono e) ⟨_,_,rfl,rfl,_,_,rfl,?_⟩⟩;refine⟨_,rfl,Bs (r.mono e) ⟨_,rfl,x,Z.View,dx,_,_,rfl,O,T.fY,T.fL,zF _ _ _,_,_,rfl,_,_,rfl,?_⟩⟩;rw[as,av];refine⟨Yq J I,?_⟩;have aa:qj w c (max (c.1-1) 0) (i+1)=qj w c (max (c.1-1) 0) i++zJ w c (max (c.1-1) 0+(i:Int)):=by
     unfold qj;rw[CQ,Cr];simp
    have aw:∀ n,(qj w c (max (c.1-1) 0) n).length<=n*6:=by
     intro n
     induction n with
     |zero=>simp[qj]
     |succ n X=>
      unfold qj at X ⊢;rw[CQ,Cr,cL];have:([n].flatMap fun k:Nat=>zJ w c (max (c.1-1) 0+(k:Int))).length<=6:=by
       simp only[zc,List.flatMap_nil,oA];unfold zJ;refine dU (lV _ _) ?_;rw[bf,vU];exact a2H J.1 I.2
      exact a5H X this
    refine jo (lo:=max (c.2-1) 0) (n:=(min (c.2+2) (w:Int)-max (c.2-1) 0).toNat) (fun j zzs d=>∃ g:Option V,Same H d/\Ls K d q ((qj w c (max (c.1-1) 0) i++((List.range j).map fun k:Nat=>(max (c.1-1) 0+(i:Int),max (c.2-1) 0+(k:Int))).filter fun y=>!decide (y=c)).map aD)/\zzs=[zzR x,some v,zzR q,zzI (max (c.1-1) 0+(i:Int)),g])
     ⟨g,e,by simpa using u,rfl⟩ (fun j zzs d ag m=>?_) (fun zzs d m=>?_)
    ·obtain⟨g,e,⟨xs,ex,G⟩,rfl⟩:=m;have step:∀ b:Bool,b=!decide ((max (c.1-1) 0+(i:Int),max (c.2-1) 0+(j:Int))=c)->(((List.range (j+1)).map fun k:Nat=>(max (c.1-1) 0+(i:Int),max (c.2-1) 0+(k:Int))).filter fun y=>!decide (y=c))=(((List.range j).map fun k:Nat=>(max (c.1-1) 0+(i:Int),max (c.2-1) 0+(k:Int))).filter fun y=>!decide (y=c))++(if b=true then [(max (c.1-1) 0+(i:Int),max (c.2-1) 0+(j:Int))] else []):=by
      intro b B;rw[CQ,iz,yt,eU,Ih,Pb,List.filter_nil,<- B]
     have ap:xs.length<=100:=by
      rw[G.length,bf,cL];have:=aw i;have h2:(((List.range j).map fun k:Nat=>(max (c.1-1) 0+(i:Int),max (c.2-1) 0+(k:Int))).filter fun y=>!decide (y=c)).length<=j:=dU (lV _ _) (by rw[bf,vU];exact bG _);exact a5b this h2 (W7 U.1 S.2 af) (W7 J.1 I.2 ag)
     refine⟨_,rfl,_,rfl,sz rfl,fun t am=>?_⟩;have st:=Same.put (o:=.tup [V.int (max (c.1-1) 0+(i:Int)),V.int (max (c.2-1) 0+(j:Int))]) am;refine⟨_,rfl,.inr ⟨aD (max (c.1-1) 0+(i:Int),max (c.2-1) 0+(j:Int)),aD c,rfl,bT,r.mono (e.trans st),rfl,Ak _,?_⟩⟩;refine⟨_,rfl,?_⟩;show if(!eqD _ _)=true then _ else _
     rw[a2N];refine cP (fun B=>?_) (fun B=>?_)
     ·refine⟨_,rfl,.inl ⟨rfl,_,SqL.of (st _ _ ex)⟩,_,rfl,_,rfl,sz rfl,fun ax an=>?_⟩;have st2:=Same.put (o:=.tup [V.int (max (c.1-1) 0+(i:Int)),V.int (max (c.2-1) 0+(j:Int))]) an;have L:=st2 _ _ (st _ _ ex);refine⟨q,xs,_,rfl,rfl,L,ltl (Ov ap (by decide)),?_⟩;refine⟨_,(SameBut.refl q _).put.of (e.trans (st.trans st2)) Y,⟨xs++[.ref ax],aC,?_⟩,rfl⟩;rw[step true B.symm,<- z9,iz];exact((SameBut.refl q _).put.cells L (G.mono (st.trans st2))).append (.cons ((SameBut.refl q _).put.cell L bT) .nil)
     ·refine⟨_,e.trans st,⟨xs,st _ _ ex,?_⟩,rfl⟩;rw[step false B.symm];simpa using G.mono st
    ·obtain⟨g,e,u,rfl⟩:=m;exact⟨_,_,e,by rw[aa];exact u,rfl⟩
   ·obtain⟨p,g,e,u,rfl⟩:=m;exact z _ _ ⟨p,g,⟨e,Y,u⟩,rfl⟩
  rintro zzs d ⟨p,g,ab,rfl⟩;exact⟨_,rfl,C q d ab⟩
theorem JN{f:Addr}{g:FuncData} (F:Fun K "open_near" "open_near" rG f g) (T:Txt K mg Z) (z:Df P w K mg base 2 "near" ["view","cell"] (mq K Z.View Z.NoCell)) (n:Df P w K mg base 2 "is_closed" ["view","cell"] (gJ K Z.View)) :
  cB P w K mg base (CXE P w) 3 f g ["view","cell"] (qz K Z.View aM):=by
 refine F.rok GR (fun C H Q E h=>?_) (fun cdv A outer s H C Q E i h=>?_)
 ·obtain⟨x,v,zs,w,c,rfl,_⟩:=h;rfl
 ·obtain⟨x,v,zs,w,c,rfl,j,o,p,r⟩:=h;refine⟨_,(aB (aY (lJ (by rfl) rfl (bN (K:=K) (aQ z i rfl aW (aj (rv 0) (aj (rv 1) ak)))) (fun _ _ _=>(kO (jf (gY (aQ n i rfl aW (aj (rv 1) (aj (rv 0) ak))))))) (fun _ _ _=>(rv 0))))),?_⟩;refine⟨_,rfl,_,rfl,x,v,zs,w,c,rfl,j,o,fun _ q H1 a=>?_,fun D=>absurd p D⟩;obtain⟨xs,ex,k⟩:=a.ls;refine⟨q,rfl,⟨_,SqL.of ex⟩,jA (K:=K) (xs:=gO zs.length w c) (enc:=aD) (d8 (SqL.of ex)) k (small (by have:=iT zs.length w c;lia)) (fun y=>!aK zs w y) aD (fun y t u H2 s2 d m b=>?_) (fun y t _ u H2 s2 d m b=>⟨_,rfl,b _ _ (Same.refl _) d⟩) (fun ys H2 s2 l B e=>?_)⟩
  ·exact⟨_,rfl,_,rfl,x,u,zs,w,y,rfl,j.mono (a.same.trans s2),d,_,rfl,b _ (Same.refl _)⟩
  ·exact r B _ ⟨a.same.trans (s2.and e),(a.same.trans s2).free e,.new e l⟩
theorem DR{f:Addr}{g:FuncData} (F:Fun K "closed_near" "closed_near" oG f g) (T:Txt K mg Z) (z:Df P w K mg base 2 "near" ["view","cell"] (mq K Z.View Z.NoCell)) (n:Df P w K mg base 2 "is_closed" ["view","cell"] (gJ K Z.View)) :
  cB P w K mg base (CXE P w) 3 f g ["view","cell"] (qz K Z.View aA):=by
 refine F.rok BP (fun C H Q E h=>?_) (fun cdv A outer s H C Q E i h=>?_)
 ·obtain⟨x,v,zs,w,c,rfl,_⟩:=h;rfl
 ·obtain⟨x,v,zs,w,c,rfl,j,o,p,r⟩:=h;refine⟨_,(aB (aY (lJ (by rfl) rfl (bN (K:=K) (aQ z i rfl aW (aj (rv 0) (aj (rv 1) ak)))) (fun _ _ _=>(kO (gY (aQ n i rfl aW (aj (rv 1) (aj (rv 0) ak)))))) (fun _ _ _=>(rv 0))))),?_⟩;refine⟨_,rfl,_,rfl,x,v,zs,w,c,rfl,j,o,fun _ q H1 a=>?_,fun D=>absurd p D⟩;obtain⟨xs,ex,k⟩:=a.ls;refine⟨q,rfl,⟨_,SqL.of ex⟩,jA (K:=K) (xs:=gO zs.length w c) (enc:=aD) (d8 (SqL.of ex)) k (small (by have:=iT zs.length w c;lia)) (fun y=>aK zs w y) aD (fun y t u H2 s2 d m b=>?_) (fun y t _ u H2 s2 d m b=>⟨_,rfl,b _ _ (Same.refl _) d⟩) (fun ys H2 s2 l B e=>?_)⟩
  ·exact⟨_,rfl,_,rfl,x,u,zs,w,y,rfl,j.mono (a.same.trans s2),d,_,rfl,b _ (Same.refl _)⟩
  ·exact r B _ ⟨a.same.trans (s2.and e),(a.same.trans s2).free e,.new e l⟩
theorem V5{f:Addr}{g:FuncData} (F:Fun K "closed" "closed" Bw f g) (T:Txt K mg Z) (p:Df P w K mg base 1 "cells" ["view"] (qy K Z.View)) (m:Df P w K mg base 2 "is_closed" ["view","cell"] (gJ K Z.View)) :
  cB P w K mg base (CXE P w) 3 f g ["view"] (rM K Z.View bM):=by
 refine F.rok Vm (fun t H Q E h=>?_) (fun cdv A outer s H t Q E i h=>?_)
 ·obtain⟨x,zs,w,rfl,_⟩:=h;rfl
 ·obtain⟨x,zs,w,rfl,b,n⟩:=h;have v:zs.length*w<=6*6:=rY b.vw.le b.vw.w6;refine⟨_,(aB (aY (lJ (by rfl) rfl (bN (K:=K) (aQ p i rfl aW (aj (rv 0) ak))) (fun _ _ _=>(kO (gY (aQ m i rfl aW (aj (rv 1) (aj (rv 0) ak)))))) (fun _ _ _=>(rv 0))))),?_⟩;refine⟨_,rfl,x,zs,w,rfl,b,fun q H1 a=>?_⟩;obtain⟨xs,ex,j⟩:=a.ls;refine⟨q,rfl,⟨_,SqL.of ex⟩,jA (K:=K) (xs:=cM zs.length w) (enc:=aD) (d8 (SqL.of ex)) j (small (by rw[jY];lia)) (aK zs w) aD (fun y o u H2 s2 d l c=>?_) (fun y o _ u H2 s2 d l c=>⟨_,rfl,c _ _ (Same.refl _) d⟩) (fun ys H2 s2 k r e=>?_)⟩
  ·exact⟨_,rfl,_,rfl,x,u,zs,w,y,rfl,b.mono (a.same.trans s2),d,_,rfl,c _ (Same.refl _)⟩
  ·exact n r _ ⟨a.same.trans (s2.and e),(a.same.trans s2).free e,.new e k⟩
theorem Xw{f:Addr}{j:FuncData} (F:Fun K "edge" "edge" Nj f j) (T:Txt K mg Z) (z:Df P w K mg base 3 "closed" ["view"] (rM K Z.View bM)) (r:Df P w K mg base 3 "open_near" ["view","cell"] (qz K Z.View aM)) :
  cB P w K mg base (CXE P w) 4 f j ["view"] (rM K Z.View bR):=by
 refine F.rok a1F (fun D H Q E h=>?_) (fun cdv A outer s H D Q E k h=>?_)
 ·obtain⟨x,zs,w,rfl,_⟩:=h;rfl
 ·obtain⟨x,zs,w,rfl,g,v⟩:=h;have I:=fJ g.vw;refine⟨_,(aB (aY (lJ (by rfl) rfl (bN (K:=K) (aQ z k rfl aW (aj (rv 0) ak))) (fun _ _ _=>(kO (aZ JT (aX (gn (K:=K)) rfl T.fH dw (aj (aQ r k rfl aW (aj (rv 1) (aj (rv 0) ak))) ak)) aG (bC _)))) (fun _ _ _=>(rv 0))))),?_⟩;refine⟨_,rfl,x,zs,w,rfl,g,fun q H1 a=>?_⟩;obtain⟨xs,ex,m⟩:=a.ls;refine⟨q,rfl,⟨_,SqL.of ex⟩,jA (K:=K) (xs:=bM zs w) (enc:=aD) (d8 (SqL.of ex)) m (small (by lia)) (fun y=>decide (0<(aM zs w y).length)) aD (fun y l u H2 s2 d p b=>?_) (fun y l _ u H2 s2 d p b=>⟨_,rfl,b _ _ (Same.refl _) d⟩) (fun ys H2 s2 n B c=>?_)⟩
  ·refine⟨_,rfl,_,rfl,x,u,zs,w,y,rfl,g.mono (a.same.trans s2),d,cQ.mp (cF.mp l).1,fun C G i=>?_⟩;obtain⟨J,t,o⟩:=i.ls;refine .inl ⟨C,_,rfl,.inl (SqL.of t),_,_,rfl,rfl,_,rfl,?_⟩;rw[o.length,bf];have e:decide ((0:Int)<((aM zs w y).length:Nat))=decide (0<(aM zs w y).length):=by congr 1;apply propext;omega
   rw[e];exact b _ i.same
  ·exact v B _ ⟨a.same.trans (s2.and c),(a.same.trans s2).free c,.new c n⟩
theorem a0U{f:Addr}{k:FuncData} (F:Fun K "far" "far" Yt f k) (T:Txt K mg Z) (B:Df P w K mg base 3 "closed" ["view"] (rM K Z.View bM)) (r:Df P w K mg base 3 "open_near" ["view","cell"] (qz K Z.View aM)) :
  cB P w K mg base (CXE P w) 4 f k ["view"] (rM K Z.View lB):=by
 refine F.rok a4j (fun G H Q E h=>?_) (fun cdv A outer s H G Q E g h=>?_)
 ·obtain⟨x,zs,w,rfl,_⟩:=h;rfl
 ·obtain⟨x,zs,w,rfl,i,v⟩:=h;have J:=fJ i.vw;have z:=lA g;refine⟨_,(aB (aY (lJ (by rfl) rfl (bN (K:=K) (aQ B g rfl aW (aj (rv 0) ak))) (fun _ _ _=>(kO (aZ (fj.or (f9 (K:=K) z)) (aX (gn (K:=K)) rfl T.fH dw (aj (aQ r g rfl aW (aj (rv 1) (aj (rv 0) ak))) ak)) aG (bC _)))) (fun _ _ _=>(rv 0))))),?_⟩;refine⟨_,rfl,x,zs,w,rfl,i,fun q H1 a=>?_⟩;obtain⟨xs,ex,m⟩:=a.ls;refine⟨q,rfl,⟨_,SqL.of ex⟩,jA (K:=K) (xs:=bM zs w) (enc:=aD) (d8 (SqL.of ex)) m (small (by lia)) (fun y=>decide ((aM zs w y).length=0)) aD (fun y l u H2 s2 d p b=>?_) (fun y l _ u H2 s2 d p b=>⟨_,rfl,b _ _ (Same.refl _) d⟩) (fun ys H2 s2 n C c=>?_)⟩
  ·refine⟨_,rfl,_,rfl,x,u,zs,w,y,rfl,i.mono (a.same.trans s2),d,cQ.mp (cF.mp l).1,fun D I j=>?_⟩;obtain⟨L,t,o⟩:=j.ls;refine .inl ⟨D,_,rfl,.inl (SqL.of t),.inl ⟨rfl,_,rfl,?_⟩⟩;rw[o.length,bf,eY];have e:decide (((aM zs w y).length:Int)=0)=decide ((aM zs w y).length=0):=by congr 1;apply propext;lia
   rw[e];exact b _ j.same
  ·exact v C _ ⟨a.same.trans (s2.and c),(a.same.trans s2).free c,.new c n⟩
end
theorem wQ{K:ao}{H:Hp}{m:Cell}:∀ {wt:List Cell} {xs:List V},bw K H xs ((wt++[m]).map aD)->∃ d u,xs=d++[u]/\bw K H d (wt.map aD)/\Den K H u (aD m)
 |[],xs,e=>by
  cases e with
  |cons h t=>
   cases t;exact⟨[],_,rfl,.nil,h⟩
 |c::wt,xs,e=>by
  cases e with
  |cons h t=>
   obtain⟨d,u,rfl,a,b⟩:=wQ (wt:=wt) t;exact⟨_::d,u,rfl,.cons h a,b⟩
theorem zV{a b:List Cell}(c:a.Pairwise bA)(d:b.Pairwise bA)(e:∀ y,y∈a↔y∈b):a=b:=by
 have pm:a.Perm b:=(O2 (iV c) (iV d)).mpr e;refine List.Perm.eq_of_pairwise (le:=bA) (fun x y _ _ c d=>?_) c d pm;unfold bA at c d;lia
def vN(K:ao)(C:Addr):Sp:=fun vs H Q _=>∃(x:Addr)(v:V)(zs:List Str)(w:Nat)(c:Cell),vs=[.ref x,v]/\cI C H x zs w/\Den K H v (aD c)/\inF zs.length w c/\aK zs w c=false/\Q (.int (gB zs c)) H
def Ce(K:ao)(C:Addr):Sp:=fun vs H Q _=>∃(x l:Addr)(zs:List Str)(w:Nat)(cs:List Cell),vs=[.ref x,.ref l]/\cI C H x zs w/\Ls K H l (cs.map aD)/\cs.length<=1000/\∀ H',Same H H'->Q (.bl (layB zs w cs)) H'
def pF(K:ao)(C:Addr):Sp:=fun vs H Q _=>∃(x l:Addr)(v:V)(zs:List Str)(w:Nat)(c:Cell)(cs:List Cell),vs=[.ref x,v,.ref l]/\cI C H x zs w/\Den K H v (aD c)/\inF zs.length w c/\Ls K H l (cs.map aD)/\∀ H',Same H H'->Q (.int (tM zs.length w c cs)) H'
def SX(K:ao)(C BL:Addr):Sp:=fun vs H Q E=>∃(x l:Addr)(zs:List Str)(w:Nat)(cs:List Cell),vs=[.ref x,.ref l]/\cI C H x zs w/\Ls K H l (cs.map aD)/\cs.length<=1000 /\
 (layB zs w cs=true->∀ H',Same H H'->Q (.bl (gZ zs w cs)) H')/\(layB zs w cs=false->∀ H',Same H H'->E (.ref BL) none H')
section
variable{P:Program}{w:World}{K:ao}{mg:Str->Option Value}{base:Heap}{Z:Adr}
theorem Mv{f:Addr}{d:FuncData} (F:Fun K "figure" "figure" Bx f d) (T:Txt K mg Z):cB P w K mg base (CXE P w) 1 f d ["view","cell"] (vN K Z.View):=by
 refine F.rok Vn (fun p H Q E h=>?_) (fun cdv A outer s H p Q E y h=>?_)
 ·obtain⟨x,v,zs,w,c,rfl,_⟩:=h;rfl
 ·obtain⟨x,v,zs,w,c,rfl,a,b,e,m,n⟩:=h;obtain⟨dx,l,o,g⟩:=a.ob;have i:=a.vw.digit e m;refine⟨_,(aB (aY (Bo Tj rfl T.a1W a2C (aj (gq (gA (K:=K)) (gq (gA (K:=K)) (dY (K:=K) (rv 0)) (gq (gA (K:=K)) (rv 1) aG)) (gq (gA (K:=K)) (rv 1) aG)) ak)))),?_⟩;obtain⟨⟨q,r⟩,⟨t,u⟩⟩:=id e;have j:c.1=((c.1.toNat:Nat):Int):=by lia
  have k:c.2=((c.2.toNat:Nat):Int):=by lia
  have i1:c.1.toNat<zs.length:=by lia
  refine⟨_,rfl,x,Z.View,dx,_,_,rfl,o,T.fY,T.jt,LQ _ _ _,_,rfl,Br b ?_⟩;rw[j];refine Yn (SqL.of g) i1 ⟨_,rfl,Bs b ?_⟩;rw[k];exact Sh (SqL.of g) a.vw.toRect i1 (by lia) ⟨_,rfl,i.1,by lia,n⟩
theorem JM{f:Addr}{C:FuncData} (F:Fun K "is_laying" "is_laying" rE f C) (T:Txt K mg Z) (S:Df P w K mg base 2 "is_closed" ["view","cell"] (gJ K Z.View)):cB P w K mg base (CXE P w) 3 f C ["view","laying"] (Ce K Z.View):=by
 refine F.rok vJ (fun af H Q E h=>?_) (fun cdv A outer s H af Q E D h=>?_)
 ·obtain⟨x,l,zs,w,cs,rfl,_⟩:=h;rfl
 ·obtain⟨x,l,zs,w,cs,rfl,ag,⟨a,k,m⟩,am,t⟩:=h;have ae:=lA D;have ap:a.length=cs.length:=by rw[m.length,bf]
  refine⟨_,(au (fu gQ rfl (xK rfl T.lY (aj aG (aj (aX (gn (K:=K)) rfl T.fH dw (aj (rv 1) ak)) ak))) (cY (i:=2) vJ.nd rfl (Or.inl rfl)) (aB (bO (aZ (a4Z (K:=K) ae) (gq (gA (K:=K)) (rv 1) (lC Gv (rv 2) aG)) (gq (gA (K:=K)) (rv 1) (rv 2)) (bC _)) (aB (aY qI)) aO))) (aB (aY (aX (k_all (K:=K) rfl) rfl T.PJ KZ (aj (lJ (by rfl) rfl (bN (K:=K) (rv 1)) (fun _ _ _=>zM) (fun _ _ _=>(aQ S D rfl aW (aj (rv 1) (aj (rv 0) ak))))) ak))))),?_⟩;refine aF (fun zzs H1=>∃ b:Option V,H1=H/\Tf cs=true/\zzs=[zzR x,zzR l,b]) (fun R aa=>?_) ?_
  ·refine⟨_,rfl,.inl ⟨l,_,rfl,.inl (SqL.of k),_,_,rfl,?_⟩⟩;refine⟨⟨by omega,by omega,by omega,by omega⟩,?_⟩;refine jo (lo:=1) (n:=((a.length:Int)-1).toNat) (fun i zzs H1=>∃ b:Option V,H1=H/\(∀ j,j<i->gj (cs.getD j (0,0)) (cs.getD (j+1) (0,0))=true)/\zzs=[zzR x,zzR l,b]) ⟨none,rfl,fun j o=>absurd o (Nat.not_lt_zero _),rfl⟩ (fun i zzs H1 ao r=>?_) (fun zzs H1 r=>?_)
   ·obtain⟨b,rfl,g,rfl⟩:=r;have N:i<a.length:=by omega
    have O:i+1<a.length:=by omega
    have z:a[i]?=some a[i]:=by simp[N]
    have B:a[i+1]?=some a[i+1]:=by simp[O]
    obtain⟨ai,f1,J⟩:=m.get z;obtain⟨al,f2,q⟩:=m.get B;rw[dF] at f1 f2;obtain⟨u,W,rfl⟩:=jP.mp f1;obtain⟨y,X,rfl⟩:=jP.mp f2;have L:atI a (1+(i:Int)-1)=some a[i]:=by
     have:(1+(i:Int)-1)=((i:Nat):Int):=by omega
     rw[this];exact dX z
    have M:atI a (1+(i:Int))=some a[i+1]:=by
     have:(1+(i:Int))=((i+1:Nat):Int):=by omega
     rw[this];exact dX B
    have G:cs.getD i (0,0)=u:=by rw[eE,W];rfl
    have I:cs.getD (i+1) (0,0)=y:=by rw[eE,X];rfl
    refine⟨_,rfl,_,rfl,_,_,rfl,rfl,.inl ⟨l,_,_,_,rfl,rfl,SqL.of k,L,?_⟩⟩;refine⟨_,rfl,_,rfl,.inl ⟨l,_,_,_,rfl,rfl,SqL.of k,M,?_⟩⟩;refine⟨u,y,J,q,_,rfl,?_⟩;refine cP (fun h1=>?_) (fun h1=>?_)
    ·have:layB zs w cs=false:=by
      unfold layB;have:Tf cs=false:=by
       cases e:Tf cs
       ·rfl
       ·unfold Tf at e;rw[nP] at e;have:=e i (dO.mpr (by omega));rw[G,I] at this;rw[this] at h1;cases h1
      rw[this,yx]
     rw[<- this];exact t _ (Same.refl _)
    ·refine⟨_,rfl,fun j o=>?_,rfl⟩;by_cases ac:j<i
     ·exact g j ac
     ·have:j=i:=by omega
      subst this;rw[G,I];simpa using h1
   ·obtain⟨b,rfl,g,rfl⟩:=r;refine aa _ _ ⟨b,rfl,?_,rfl⟩;unfold Tf;rw[nP];intro j o;rw[dO] at o;exact g j (by omega)
  rintro zzs H1 ⟨b,rfl,ab,rfl⟩;have U:layB zs w cs=cs.all (aK zs w):=by unfold layB;rw[ab,rP]
  rw[U] at t;refine⟨_,rfl,l,rfl,⟨_,SqL.of k⟩,comp_map (K:=K) (xs:=cs) (enc:=aD) (d8 (SqL.of k)) m (small (by omega)) (fun c=>Dt.bl (aK zs w c)) (fun c an v H2 s2 d ah Y=>?_) (fun ys H2 s2 q p ad=>?_)⟩
  ·exact⟨_,rfl,_,rfl,x,v,zs,w,c,rfl,ag.mono s2,d,Y _ _ (Same.refl _) (.bl _)⟩
  ·have e:ys=(cs.map (aK zs w)).map V.bl:=by
    refine bw.Gs (K:=K) (H:=H2) ?_;rw[qH];exact q
   refine⟨p,cs.map (aK zs w),rfl,SqL.of (by rw[aC,e]),?_⟩;rw[Ii];exact t _ (s2.and ad)
theorem V9{f:Addr}{g:FuncData} (F:Fun K "stones_near" "stones_near" oH f g) (T:Txt K mg Z) (B:Df P w K mg base 2 "near" ["view","cell"] (mq K Z.View Z.NoCell)):cB P w K mg base (CXE P w) 3 f g ["view","cell","laying"] (pF K Z.View):=by
 refine F.rok BR (fun D H Q E h=>?_) (fun cdv A outer s H D Q E e h=>?_)
 ·obtain⟨x,l,v,zs,w,c,cs,rfl,_⟩:=h;rfl
 ·obtain⟨x,l,v,zs,w,c,cs,rfl,G,m,n,o,p⟩:=h;have J:=lA e;have t:=M6 e;refine⟨_,(aB (aY (aX (gn (K:=K)) rfl T.fH dw (aj (lJ (by rfl) rfl (bN (K:=K) (aQ B e rfl aW (aj (rv 0) (aj (rv 1) ak)))) (fun _ _ _=>(kO (aZ (mG.or (Ey (K:=K) t)) (rv 0) (rv 3) (by rfl)))) (fun _ _ _=>(rv 0))) ak)))),?_⟩;refine⟨_,rfl,_,rfl,x,v,zs,w,c,rfl,G,m,fun _ q H1 a=>?_,fun I=>absurd n I⟩;obtain⟨xs,ex,i⟩:=a.ls;refine⟨q,rfl,⟨_,SqL.of ex⟩,jA (K:=K) (xs:=gO zs.length w c) (enc:=aD) (d8 (SqL.of ex)) i (small (by have:=iT zs.length w c;omega)) (fun y=>decide (y∈cs)) aD (fun y z u H2 s2 d k b=>?_) (fun y z _ u H2 s2 d k b=>⟨_,rfl,b _ _ (Same.refl _) d⟩) (fun ys H2 s2 j C r=>?_)⟩
  ·exact⟨_,rfl,_,rfl,.inr (Ke d (o.mono (a.same.trans s2)).den ⟨_,rfl,b _ (Same.refl _)⟩)⟩
  ·refine .inl ⟨C,_,rfl,.inl (SqL.of aC),?_⟩;rw[j.length,bf];exact p _ (a.same.trans (s2.and r))
theorem Xq{f:Addr}{N:FuncData} (F:Fun K "keeps" "keeps" GF f N) (T:Txt K mg Z) (am:Df P w K mg base 3 "is_laying" ["view","laying"] (Ce K Z.View)) (ao:Df P w K mg base 1 "cells" ["view"] (qy K Z.View)) (aa:Df P w K mg base 2 "is_closed" ["view","cell"] (gJ K Z.View)) (an:Df P w K mg base 1 "figure" ["view","cell"] (vN K Z.View)) (ac:Df P w K mg base 3 "stones_near" ["view","cell","laying"] (pF K Z.View)) :
  cB P w K mg base (CXE P w) 4 f N ["view","laying"] (SX K Z.View Z.BadLaying):=by
 refine F.vq Kl (fun aq H Q E h=>?_) (fun cdv A outer s H aq Q E j h=>?_)
 ·obtain⟨x,l,zs,w,cs,rfl,_⟩:=h;rfl
 ·obtain⟨x,l,zs,w,cs,rfl,k,U,o,ai,ad⟩:=h;have af:=v8 j;have I:=lA j;have ar:zs.length*w<=6*6:=rY k.vw.le k.vw.w6;refine⟨_,(au (bO (RT.nox (jf (gY (aQ am j rfl aW (aj (rv 0) (aj (rv 1) ak)))))) (aB (fM T.ju rfl T.nU af (aj bx ak))) aO) (au (RS.nox (fu gQ rfl (bN (K:=K) (aQ ao j rfl aW (aj (rv 0) ak))) (cY (i:=2) Kl.nd rfl (Or.inl rfl)) (aB (bO (Nh (N8 (jf (gY (aQ aa j rfl aW (aj (rv 0) (aj (rv 2) ak))))) (Gx (aZ (Fe.or (Ez (K:=K) I)) (aQ an j rfl aW (aj (rv 0) (aj (rv 2) ak))) (aQ ac j rfl aW (aj (rv 0) (aj (rv 2) (aj (rv 1) ak)))) (bC _))))) (aB (aY qI)) aO)))) (aB (RS.nox (aY qI))))),?_⟩;refine aF (fun zzs H1=>layB zs w cs=true/\Same H H1/\zzs=[zzR x,zzR l,zzN]) (fun R C=>?_) ?_
  ·refine⟨_,rfl,_,rfl,x,l,zs,w,cs,rfl,k,U,o,fun H1 s1=>?_⟩;refine⟨_,rfl,?_⟩;refine cP (fun h1=>⟨by decide,ad (by simpa only[jJ] using h1) _ s1⟩) (fun h1=>C _ _ ⟨by simpa only[ou] using h1,s1,rfl⟩)
  rintro zzs H1 ⟨al,s1,rfl⟩;have G:=ai al;refine aF (fun zzs H2=>∃ a:Option V,Same H H2/\gZ zs w cs=true/\zzs=[zzR x,zzR l,a]) (fun R C=>?_) ?_
  ·refine⟨_,rfl,x,zs,w,rfl,k.mono s1,fun q H2 z=>?_⟩;obtain⟨xs,ex,J⟩:=z.ls;have ap:xs.length=(cM zs.length w).length:=by rw[J.length,bf]
   refine⟨q,rfl,⟨_,SqL.of ex⟩,?_⟩;refine eZ (K:=K) (xs:=xs) (fun i zzs n=>∃ a:Option V,Same H2 n/\(∀ c∈(cM zs.length w).take i,(aK zs w c||tX zs w cs c)=true)/\zzs=[zzR x,zzR l,a])
    ⟨none,Same.refl _,(fun c o=>by cases o),rfl⟩ (fun i zzs n _ p=>by obtain⟨a,g,_⟩:=p;exact SqL.of (g _ _ ex)) (fun i u zzs n I p=>?_) (fun zzs n p=>?_)
   ·obtain⟨a,g,B,rfl⟩:=p;obtain⟨d,M,y⟩:=J.get I;rw[dF] at M;obtain⟨c,L,rfl⟩:=jP.mp M;have D:inF zs.length w c:=cQ.mp (gC L);have r:=s1.trans (z.same.trans g);have W:∀ t,Same n t->(aK zs w c||tX zs w cs c)=true->∃ a:Option V,Same H2 t/\(∀ c∈(cM zs.length w).take (i+1),(aK zs w c||tX zs w cs c)=true)/\[zzR x,zzR l,some u]=[zzR x,zzR l,a]:=fun t v ae=>⟨_,g.trans v,fun ab O=>by
      rw[lG,L] at O;rcases cG.mp O with m|m
      ·exact B ab m
      ·rw[cN.mp m];exact ae,rfl⟩
    have X:∀ b:Bool,aK zs w c=true->(aK zs w c||b)=true:=fun b m=>by rw[m];rfl
    have Y:∀ b:Bool,tX zs w cs c=true->(b||tX zs w cs c)=true:=fun b m=>by rw[m,Pn]
    refine⟨_,rfl,_,rfl,x,u,zs,w,c,rfl,k.mono r,y.mono g,?_⟩;refine⟨_,rfl,?_⟩;refine cP (fun h1=>?_) (fun h1=>W _ (Same.refl _) (X _ (by simpa only[ou] using h1)));have S:aK zs w c=false:=by simpa only[jJ] using h1
    refine⟨_,rfl,_,rfl,x,u,zs,w,c,rfl,k.mono r,y.mono g,D,S,?_⟩;refine⟨_,rfl,_,rfl,_,rfl,x,l,u,zs,w,c,cs,rfl,k.mono r,y.mono g,D,U.mono r,fun t v=>.inl ⟨rfl,_,rfl,?_⟩⟩;rw[eY];show if(!tX zs w cs c)=true then _ else _
    refine cP (fun h2=>?_) (fun h2=>W _ v (Y _ (by simpa only[ou] using h2)));have ah:tX zs w cs c=false:=by simpa only[jJ] using h2
    have:gZ zs w cs=false:=by
     cases e:gZ zs w cs
     ·rfl
     ·unfold gZ at e;rw[nP] at e;have:=e c (cQ.mpr D);rw[S,ah] at this;cases this
    rw[<- this];exact G _ (r.trans v)
   ·obtain⟨a,g,B,rfl⟩:=p;refine C _ _ ⟨a,s1.trans (z.same.trans g),?_,rfl⟩;unfold gZ;rw[nP];intro c o;refine B c ?_;rw[ap,lF];exact o
  rintro zzs H2 ⟨a,s2,ag,rfl⟩;rw[ag] at G;exact G _ s2
end
inductive jd(zs:List Str)(w:Nat)(c:Cell):Cell->Prop
 |base:jd zs w c c
 |step {x t y:Cell}:jd zs w c x->t∈aM zs w x->y∈aA zs w t->jd zs w c y
theorem tV{zs:List Str}{w:Nat}{t y:Cell}(h:y∈aA zs w t):inF zs.length w y/\aK zs w y=true:=by
 unfold aA at h;obtain⟨h1,h2⟩:=cF.mp h;exact⟨qY h1,h2⟩
theorem JV{zs:List Str}{w:Nat}{t y:Cell}(h:y∈aM zs w t):inF zs.length w y:=by
 unfold aM at h;exact qY (cF.mp h).1
theorem jd.inF{zs:List Str}{w:Nat}{c y:Cell}(h0:L2.inF zs.length w c)(r:jd zs w c y):L2.inF zs.length w y:=by
 cases r with
 |base=>exact h0
 |step _ _ h=>exact(tV h).1
def dM(cs:List Cell):List (List Key×V):=cs.map fun c=>(j8 c,V.bl true)
theorem oU(c:Cell):∀ b:List Cell,tR (dM b) (j8 c)=if c∈b then some (.bl true) else none
 |[]=>rfl
 |a::b=>by
  show tR ((j8 a,V.bl true)::dM b) (j8 c)=_;by_cases e:a=c
  ·subst e;rw[rO rfl,aL cV]
  ·rw[rN (fun d=>e (Jt d)),oU c b];by_cases m:c∈b
   ·rw[aL m,aL (eO _ m)]
   ·rw[aJ m,aJ (fun d=>(cZ.mp d).elim (fun q=>e q.symm) m)]
theorem Er(a:List Cell)(c:Cell)(b:c∉a):putK (dM a) (j8 c) (.bl true)=dM (a++[c]):=by
 rw[JZ _ (by rw[oU,aJ b])];unfold dM;rw[iz];rfl
structure qM(zs:List Str)(w:Nat)(c:Cell)(fd wt:List Cell):Prop where
 nd:fd.Nodup
 has:c∈fd
 rch:∀ y∈fd,jd zs w c y
 sub:∀ y∈wt,y∈fd
 cl:∀ x∈fd,x∉wt->∀ t∈aM zs w x,∀ y∈aA zs w t,y∈fd
 ln:wt.length<=fd.length
theorem qM.len{zs:List Str}{w:Nat}{c:Cell}{a wt:List Cell}(j:qM zs w c a wt)(h0:inF zs.length w c)(b:zs.length<=6)(e:w<=6):a.length<=36:=by
 have:=n6 (l2:=cM zs.length w) j.nd fun y d=>cQ.mpr ((j.rch y d).inF h0)
 rw[jY] at this;have:zs.length*w<=6*6:=rY b e;lia
theorem qM.done{zs:List Str}{w:Nat}{c:Cell}{a:List Cell}(j:qM zs w c a [])(y:Cell):y∈a↔jd zs w c y:=by
 refine⟨j.rch y,fun r=>?_⟩
 induction r with
 |base=>exact j.has
 |step _ b d e=>exact j.cl _ e (by intro f;cases f) _ b _ d
structure JoP(zs:List Str)(w:Nat)(c m:Cell)(fd wt:List Cell)(Dn:Cell->Prop):Prop where
 nd:fd.Nodup
 has:c∈fd
 rch:∀ y∈fd,jd zs w c y
 sub:∀ y∈wt,y∈fd
 hm:m∈fd
 cl:∀ x∈fd,x∉wt->x≠m->∀ t∈aM zs w x,∀ y∈aA zs w t,y∈fd
 ln:wt.length+1<=fd.length
 dn:∀ y,Dn y->y∈fd
theorem JoP.imp{zs:List Str}{w:Nat}{c m:Cell}{a wt:List Cell}{d b:Cell->Prop}(j:JoP zs w c m a wt d)(h:∀ y,b y->y∈a):JoP zs w c m a wt b:=⟨j.nd,j.has,j.rch,j.sub,j.hm,j.cl,j.ln,h⟩
theorem JoP.add{zs:List Str}{w:Nat}{c m y:Cell}{f wt:List Cell}{g:Cell->Prop}(j:JoP zs w c m f wt g)(o:y∉f)(r:jd zs w c y):JoP zs w c m (f++[y]) (wt++[y]) g:=by
 refine⟨Dl.mpr ⟨j.nd,by simp,fun a i b k e=>o (by rw[<- cN.mp k,<- e];exact i)⟩,gP _ j.has,fun x d=>?_,fun x d=>?_,gP _ j.hm,fun x d h s t l u n=>?_,?_,fun x d=>gP _ (j.dn x d)⟩
 ·rcases cG.mp d with q|q
  ·exact j.rch x q
  ·rw[cN.mp q];exact r
 ·rcases cG.mp d with q|q
  ·exact gP _ (j.sub x q)
  ·exact gw _ q
 ·rcases cG.mp d with q|q
  ·exact gP _ (j.cl x q (fun p=>h (gP _ p)) s t l u n)
  ·exact absurd (gw _ q) h
 ·have:=j.ln;rw[cL,cL,lE];lia
theorem qM.pop{zs:List Str}{w:Nat}{c m:Cell}{b wt:List Cell}(j:qM zs w c b (wt++[m])):JoP zs w c m b wt (fun _=>False):=by
 refine⟨j.nd,j.has,j.rch,fun y a=>j.sub y (gP _ a),j.sub m (gw _ (cN.mpr rfl)),fun x d e f=>j.cl x d fun g=>?_,?_,fun y a=>a.elim⟩
 ·rcases cG.mp g with q|q
  ·exact e q
  ·exact f (cN.mp q)
 ·have:=j.ln;rw[cL,lE] at this;exact this
theorem JoP.inv{zs:List Str}{w:Nat}{c m:Cell}{b wt:List Cell}{a:Cell->Prop}(j:JoP zs w c m b wt a)(h:∀ t∈aM zs w m,∀ y∈aA zs w t,a y):qM zs w c b wt:=by
 refine⟨j.nd,j.has,j.rch,j.sub,fun x g i t d y f=>?_,dU (uK _) j.ln⟩;by_cases e:x=m
 ·subst e;exact j.dn y (h t d y f)
 ·exact j.cl x g i e t d y f
theorem JoP.len{zs:List Str}{w:Nat}{c m:Cell}{a wt:List Cell}{b:Cell->Prop}(j:JoP zs w c m a wt b)(h0:inF zs.length w c)(d:zs.length<=6)(f:w<=6):a.length<=36:=by
 have:=n6 (l2:=cM zs.length w) j.nd fun y e=>cQ.mpr ((j.rch y e).inF h0)
 rw[jY] at this;have:zs.length*w<=6*6:=rY d f;lia
def Cd(K:ao)(C:Addr):Sp:=fun vs H Q _=>∃(x:Addr)(v:V)(zs:List Str)(w:Nat)(c:Cell),vs=[.ref x,v]/\cI C H x zs w/\Den K H v (aD c)/\inF zs.length w c /\
 ∀(q:Addr)(H':Hp)(ds:List Cell),H q=none->Same H H'->Ls K H' q (ds.map aD)->ds.Pairwise bA->(∀ y,y∈ds↔jd zs w c y)->Q (.ref q) H'
section
variable{P:Program}{w:World}{K:ao}{mg:Str->Option Value}{base:Heap}{Z:Adr}
theorem V7{f:Addr}{n:FuncData} (F:Fun K "joined" "joined" BK f n) (T:Txt K mg Z) (b6:Df P w K mg base 3 "open_near" ["view","cell"] (qz K Z.View aM)) (b7:Df P w K mg base 3 "closed_near" ["view","cell"] (qz K Z.View aA)) :
  cB P w K mg base (CXE P w) 4 f n ["view","cell"] (Cd K Z.View):=by
 refine F.rok mH (fun cu H Q E h=>?_) (fun cdv A outer s H cu Q E a7 h=>?_)
 ·obtain⟨x,v,zs,w,c,rfl,_⟩:=h;rfl
 ·obtain⟨x,v,zs,w,c,rfl,aT,bo,ao,cj⟩:=h;have ax:=lA a7;have aV:=aT.vw.le;have aU:=aT.vw.w6;obtain⟨tv,rfl,_,bB⟩:=eX bo;refine⟨_,(au (bK (i:=2) mH.nd rfl (Or.inl rfl) (a1y ax (rv 1) qI)) (au (bK (i:=3) mH.nd rfl (Or.inl rfl) (bU (aj (rv 1) ak))) (au (Bu gQ (aZ JT (aX (gn (K:=K)) rfl T.fH dw (aj (rv 3) ak)) aG (bC _)) (au (bK (i:=4) mH.nd rfl (Or.inl rfl) (X4 (K:=K) lU ZJ ZK Xg (rv 3))) (aB (fu gQ rfl (bN (K:=K) (aQ b6 a7 rfl aW (aj (rv 0) (aj (rv 4) ak)))) (cY (i:=5) mH.nd rfl (Or.inl rfl)) (aB (fu gQ rfl (bN (K:=K) (aQ b7 a7 rfl aW (aj (rv 0) (aj (rv 5) ak)))) (cY (i:=6) mH.nd rfl (Or.inl rfl)) (aB (bO (aZ (qg ax) (rv 6) (rv 2) (by rfl)) (au (Ng qI (Nb (rv 2) (rv 6) (set_dict ax))) (aB (bJ (nZ (K:=K) lU tY tZ gV (rv 3) (aj (rv 6) ak))))) aO)))))))) (aB (aY (aX (a0z (K:=K) rfl ax) rfl T.qR sE (aj (rv 2) ak))))))),?_⟩;refine aF (fun zzs H1=>∃ d:Addr,H d=none/\Same H H1/\H1 d=some (.dT (dM [c]))/\zzs=[zzR x,zzR tv,zzR d,zzN,zzN,zzN,zzN]) (fun R am=>?_) ?_
  ·refine fun d nd=>⟨_,rfl,j8 c,tv,aC,rfl,?_,am _ _ ⟨d,nd,(SameBut.refl d _).put.of (Same.put nd) nd,aC,rfl⟩⟩
   rw[aN (aR bB nd)];exact bB
  rintro zzs H1 ⟨d,nd,s1,bp,rfl⟩;refine aF (fun zzs H2=>∃ a:Addr,H a=none/\a≠d/\Same H1 H2/\H2 a=some (.lst [.ref tv])/\zzs=[zzR x,zzR tv,zzR d,zzR a,zzN,zzN,zzN]) (fun R am=>?_) ?_
  ·exact⟨_,rfl,sz rfl,fun a ad=>am _ _ ⟨a,s1.free ad,(aR bp ad).symm,Same.put ad,aC,rfl⟩⟩
  rintro zzs H2 ⟨a,ad,bc,s2,cg,rfl⟩;have start:qM zs w c [c] [c]:=⟨by simp,cN.mpr rfl,fun y L=>by rw[cN.mp L];exact .base,fun y L=>L,fun x a9 cr=>absurd a9 cr,bG _⟩
  refine aF (fun zzs a1=>∃(n:List Cell)(N p k:Option V),Same H a1/\a1 d=some (.dT (dM n))/\qM zs w c n []/\zzs=[zzR x,zzR tv,zzR d,zzR a,N,p,k]) (fun R am=>?_) ?_
  ·refine⟨fun m zzs H'=>∃(n r:List Cell)(N p k:Option V),Same H H'/\H' d=some (.dT (dM n))/\Ls K H' a (r.map aD)/\qM zs w c n r/\m=(36-n.length)*2+r.length/\zzs=[zzR x,zzR tv,zzR d,zzR a,N,p,k],
    ⟨_,[c],[c],none,none,none,s1.trans s2,s2 _ _ bp,⟨_,cg,.cons (bo.mono (s1.trans s2)) .nil⟩,start,rfl,rfl⟩,?_⟩
   rintro m zzs H' ⟨n,r,N,p,k,bL,bq,co,S,rfl,rfl⟩;obtain⟨xs,ex,bg⟩:=id co;have cp:xs.length=r.length:=by rw[bg.length,bf]
   have ch:=S.len ao aV aU;refine⟨_,rfl,.inl ⟨a,_,rfl,.inl (SqL.of ex),_,_,rfl,rfl,_,rfl,?_⟩⟩;refine cP (fun ap=>?_) (fun ap=>?_)
   ·have ap:(0:Int)<(xs.length:Int):=dj ap;obtain⟨r,m,rfl⟩:∃ B m,r=B++[m]:=by
     rcases ZL r with g|⟨l,b,g⟩
     ·rw[g,vW] at cp;lia
     ·exact⟨l,b,by rw[g];simp⟩
    obtain⟨xs,u,rfl,bR,bn⟩:=wQ bg;obtain⟨ag,rfl,_,cA⟩:=eX bn;have cq:=S.sub m (gw _ (cN.mpr rfl));have bT:=(S.rch m cq).inF ao;refine⟨fun bk M=>∃(C B:List Cell)(N p k:Option V),Same H M/\M d=some (.dT (dM C))/\Ls K M a (B.map aD)/\qM zs w c C B/\(36-C.length)*2+B.length<(36-n.length)*2+(r++[m]).length/\bk=[zzR x,zzR tv,zzR d,zzR a,N,p,k],fun bk M a9=>?_,?_⟩
    ·obtain⟨C,B,N,p,k,bV,bW,bX,bY,b0,rfl⟩:=a9;exact⟨_,b0,C,B,N,p,k,bV,bW,bX,bY,rfl,rfl⟩
    refine aF (fun zzs M=>Same H M/\M d=some (.dT (dM n))/\Ls K M a (r.map aD)/\Den K M (.ref ag) (aD m)/\zzs=[zzR x,zzR tv,zzR d,zzR a,zzR ag,p,k]) (fun bS a5=>?_) ?_
    ·refine⟨_,rfl,.inl ⟨rfl,_,SqL.of ex⟩,a,_,V.ref ag,rfl,rfl,ex,(by simp),?_⟩;rw[ZS];have D:SameBut a H' (upd H' a (.lst xs)):=(SameBut.refl a _).put;exact a5 _ _ ⟨D.of bL ad,D _ _ bq bc.symm,⟨xs,aC,D.cells ex bR⟩,D.cell ex bn,rfl⟩
    rintro zzs M ⟨bd,cc,bE,b8,rfl⟩;have b1:(r++[m]).length=r.length+1:=by rw[cL,lE]
    refine⟨_,rfl,_,rfl,x,_,zs,w,m,rfl,aT.mono bd,b8,bT,fun af cv ac=>?_⟩;obtain⟨Y,bu,bi⟩:=ac.ls;have cD:=vm zs w m;refine⟨af,rfl,⟨_,SqL.of bu⟩,?_⟩;have cF:H af=none:=bd.free ac.new;refine eZ (K:=K) (xs:=Y) (fun i zzs U=>∃(C B:List Cell)(p k:Option V),Same H U/\U af=some (.lst Y)/\bw K U Y ((aM zs w m).map aD)/\U d=some (.dT (dM C))/\Ls K U a (B.map aD)/\JoP zs w c m C B (fun y=>∃ t∈(aM zs w m).take i,y∈aA zs w t)/\(36-C.length)*2+B.length<=(36-n.length)*2+r.length/\zzs=[zzR x,zzR tv,zzR d,zzR a,zzR ag,p,k])
     ⟨n,r,p,k,bd.trans ac.same,bu,bi,ac.same _ _ cc,bE.mono ac.same,S.pop.imp (fun y L=>by obtain⟨t,a8,_⟩:=L;cases a8),bG _,rfl⟩ (fun i zzs U _ J=>by obtain⟨_,_,_,_,_,e,_⟩:=J;exact SqL.of e) (fun i u zzs U cl J=>?_) (fun zzs U J=>?_)
    ·obtain⟨a4,be,p,k,aK,bv,a0,a3,az,ay,bF,rfl⟩:=J;obtain⟨cy,br,b9⟩:=a0.get cl;rw[dF] at br;obtain⟨t,bx,rfl⟩:=jP.mp br;have bj:t∈aM zs w m:=gC bx;refine⟨_,rfl,_,rfl,x,_,zs,w,t,rfl,aT.mono aK,b9,JV bj,fun aH cw ab=>?_⟩;obtain⟨ae,bt,bh⟩:=ab.ls;refine⟨aH,rfl,⟨_,SqL.of bt⟩,?_⟩;have cm:ae.length=(aA zs w t).length:=by rw[bh.length,bf]
     refine eZ (K:=K) (xs:=ae) (fun j zzs z=>∃(C B:List Cell)(k:Option V),Same H z/\z af=some (.lst Y)/\bw K z Y ((aM zs w m).map aD)/\z aH=some (.lst ae)/\bw K z ae ((aA zs w t).map aD)/\z d=some (.dT (dM C))/\Ls K z a (B.map aD)/\JoP zs w c m C B (fun y=>(∃ t∈(aM zs w m).take i,y∈aA zs w t)\/y∈(aA zs w t).take j)/\(36-C.length)*2+B.length<=(36-n.length)*2+r.length/\zzs=[zzR x,zzR tv,zzR d,zzR a,zzR ag,some u,k])
      ⟨a4,be,k,aK.trans ab.same,ab.same _ _ bv,a0.mono ab.same,bt,bh,ab.same _ _ a3,az.mono ab.same,ay.imp (fun y L=>L.elim (ay.dn y) (fun g=>by cases g)),bF,rfl⟩ (fun j zzs z _ J=>by obtain⟨_,_,_,_,_,_,e,_⟩:=J;exact SqL.of e) (fun j o zzs z ci J=>?_) (fun zzs z J=>?_)
     ·obtain⟨O,ai,k,aP,al,as,aw,ar,W,aE,G,bb,rfl⟩:=J;obtain⟨cz,bs,bm⟩:=ar.get ci;rw[dF] at bs;obtain⟨y,bz,rfl⟩:=jP.mp bs;have b2:y∈aA zs w t:=gC bz;obtain⟨ty,rfl,_,ck⟩:=eX bm;have key:z ty=some (.tup ((j8 y).map kV)):=ck;have cx:=G.len ao aV aU;have step:∀ g,(∃ t∈(aM zs w m).take i,g∈aA zs w t)\/g∈(aA zs w t).take (j+1)->((∃ t∈(aM zs w m).take i,g∈aA zs w t)\/g∈(aA zs w t).take j)\/g=y:=fun g aq=>by
       rcases aq with q|q
       ·exact .inl (.inl q)
       ·rw[lG,bz] at q;rcases cG.mp q with q|q
        ·exact .inl (.inr q)
        ·exact .inr (cN.mp q)
      refine⟨_,rfl,_,rfl,d,_,rfl,vX.t W key,_,rfl,?_⟩;rw[oU];by_cases an:y∈O
      ·rw[aL an];exact iZ ⟨O,ai,_,aP,al,as,aw,ar,W,aE,G.imp (fun g aq=>(step g aq).elim (G.dn g) (fun e=>by rw[e];exact an)),bb,rfl⟩
      ·rw[aJ an];refine jw ?_;have bD:=G.add an (.step (G.rch m G.hm) bj b2);have bZ:=bD.len ao aV aU;rw[cL,lE] at bZ;refine aF (fun zzs I=>Same H I/\I af=some (.lst Y)/\bw K I Y ((aM zs w m).map aD)/\I aH=some (.lst ae)/\bw K I ae ((aA zs w t).map aD)/\I d=some (.dT (dM (O++[y])))/\Ls K I a (ai.map aD)/\Den K I (.ref ty) (aD y)/\zzs=[zzR x,zzR tv,zzR d,zzR a,zzR ag,some u,zzR ty]) (fun bS a5=>?_) ?_
       ·refine⟨_,rfl,_,rfl,d,_,rfl,KH.t W key (ltl (by unfold dM;rw[bf];lia)),?_⟩;rw[Er O y an];have aI:SameBut d z (upd z d (.dT (dM (O++[y])))):=(SameBut.refl d _).put;have aS:zm z (upd z d (.dT (dM (O++[y])))):=.put W (by intro xs g;cases g);obtain⟨ah,X,av⟩:=aE;exact a5 _ _ ⟨aI.of aP nd,aI _ _ al (fX al W (by intro g;cases g)),aS.cells as,aI _ _ aw (fX aw W (by intro g;cases g)),aS.cells ar,aC,⟨ah,aI _ _ X bc,aS.cells av⟩,aS.cell bm,rfl⟩
       rintro zzs I ⟨cs,cf,bQ,ce,bP,cd,⟨ah,X,av⟩,ca,rfl⟩;have cE:ah.length=ai.length:=by rw[av.length,bf]
       have cC:=G.ln;have b3:af≠a:=fun g=>by
        have aa:=ac.new;rw[g] at aa;obtain⟨_,a2,_⟩:=bE;rw[a2] at aa;cases aa
       have b4:aH≠a:=fun g=>by
        have aa:=ab.new;rw[g] at aa;obtain⟨_,a2,_⟩:=az;rw[a2] at aa;cases aa
       refine⟨_,rfl,.inl ⟨rfl,_,SqL.of X⟩,_,rfl,a,ah,_,rfl,rfl,X,ltl (by lia),?_⟩;have D:SameBut a I (upd I a (.lst (ah++[V.ref ty]))):=(SameBut.refl a _).put;refine⟨O++[y],ai++[y],_,D.of cs ad,D _ _ cf b3,D.cells X bQ,D _ _ ce b4,D.cells X bP,D _ _ cd bc.symm,⟨_,aC,?_⟩,bD.imp (fun g aq=>(step g aq).elim (fun q=>gP _ (G.dn g q)) (fun e=>gw _ (cN.mpr e))),?_,rfl⟩
       ·rw[iz];exact(D.cells X av).append (.cons (D.cell X ca) .nil)
       ·rw[cL,cL,lE];lia
     ·obtain⟨O,ai,k,aP,al,as,aw,ar,W,aE,G,bb,rfl⟩:=J;refine⟨O,ai,_,k,aP,al,as,W,aE,G.imp (fun y L=>?_),bb,rfl⟩;obtain⟨ct,bA,ba⟩:=L;rw[lG,bx] at bA;rcases cG.mp bA with q|q
      ·exact G.dn y (.inl ⟨ct,q,ba⟩)
      ·rw[cN.mp q] at ba;exact G.dn y (.inr (by rw[cm,lF];exact ba))
    ·obtain⟨a4,be,p,k,aK,bv,a0,a3,az,ay,bF,rfl⟩:=J;have cn:Y.length=(aM zs w m).length:=by rw[bi.length,bf]
     refine⟨a4,be,_,p,k,aK,a3,az,ay.inv fun t a8 y L=>⟨t,by rw[cn,lF];exact a8,L⟩,by rw[b1];lia,rfl⟩
   ·have ap:¬(0:Int)<(xs.length:Int):=iY ap;have:r=[]:=KD.mp (by lia);subst this;exact am _ _ ⟨n,N,p,k,bL,bq,S,rfl⟩
  rintro zzs a1 ⟨n,N,p,k,bI,cb,S,rfl⟩;have ch:=S.len ao aV aU;refine⟨_,rfl,d,n,fun _=>.bl true,rfl,cb,by lia,fun l ah ds a6 bM bH b5=>?_⟩;exact cj l _ ds (bI.free a6) (bI.and a6) (.new a6 bM) (zW b5 (bH.nodup_iff.mpr S.nd)) fun y=>by rw[bH.mem_iff];exact S.done y
end
open Classical in
noncomputable def cD(zs:List Str)(w:Nat)(c:Cell):List Cell:=(cM zs.length w).filter fun y=>decide (jd zs w c y)
open Classical in
theorem dB{zs:List Str}{w:Nat}{c y:Cell}(h0:inF zs.length w c):y∈cD zs w c↔jd zs w c y:=by
 unfold cD;rw[cF,cQ,iw];exact⟨fun h=>h.2,fun h=>⟨h.inF h0,h⟩⟩
open Classical in
theorem p7{zs:List Str}{w:Nat}{c:Cell}(a:zs.length<=6)(b:w<=6):(cD zs w c).Pairwise bA:=by
 unfold cD;exact(sV zs.length (dO.mpr (by lia)) w (dO.mpr (by lia))).filter _
open Classical in
noncomputable def ig(zs:List Str)(w:Nat):List Cell->List (List Cell)->List (List Cell)
 |[],ps=>ps
 |c::cs,ps=>if ∃ p∈ps,c∈p then ig zs w cs ps else ig zs w cs (ps++[cD zs w c])
noncomputable def aU(zs:List Str)(w:Nat):List (List Cell):=ig zs w (bR zs w) []
theorem Jg(b:List Cell)(c:Cell)(d:c∈b):putK (dM b) (j8 c) (.bl true)=dM b:=by
 unfold putK;have h1:((dM b).any fun f=>decide (f.1=j8 c))=true:=by
  rw[vQ,oU,aL d];rfl
 rw[aL h1];unfold dM;rw[qH];refine Hy fun a _=>?_
 show(if j8 a=j8 c then(j8 a,V.bl true) else(j8 a,V.bl true))=(j8 a,V.bl true);by_cases e:j8 a=j8 c
 ·rw[aL e]
 ·rw[aJ e]
structure qO(K:ao)(H0 H:Hp)(q:Addr)(qs:List Addr)(ps:List (List Cell)):Prop where
 at_:H q=some (.lst (qs.map V.ref))
 len:qs.length=ps.length
 ls:∀(i:Nat)(a:Addr)(p:List Cell),qs[i]?=some a->ps[i]?=some p->Ls K H a (p.map aD)
 new:∀ a∈qs,H0 a=none
 nd:qs.Nodup
 nq:q∉qs
theorem qO.mono{K:ao}{H0 H b:Hp}{q:Addr}{e:List Addr}{d:List (List Cell)}(p:qO K H0 H q e d)(s:Same H b):qO K H0 b q e d:=⟨s _ _ p.at_,p.len,fun i a c h1 h2=>(p.ls i a c h1 h2).mono s,p.new,p.nd,p.nq⟩
theorem qO.snoc{K:ao}{H0 H:Hp}{q a:Addr}{f:List Addr}{l:List (List Cell)}{g:List Cell}(p:qO K H0 H q f l)(s:Ls K H a (g.map aD))(u:H0 a=none)(t:a∉f)(k:a≠q):qO K H0 (upd H q (.lst (f.map V.ref++[.ref a]))) q (f++[a]) (l++[g]):=by
 have m:SameBut q H (upd H q (.lst (f.map V.ref++[.ref a]))):=(SameBut.refl q _).put;refine⟨by rw[aC,iz];rfl,by rw[cL,cL,p.len];rfl,fun i b c h1 h2=>?_,fun b n=>?_,?_,fun d=>?_⟩
 ·by_cases j:i<f.length
  ·rw[KC j] at h1;rw[KC (by rw[<- p.len];exact j)] at h2;exact m.ls p.at_ (fun d=>p.nq (by rw[<- d];exact gC h1)) (p.ls i b c h1 h2)
  ·rw[Di (by lia)] at h1;rw[Di (by rw[<- p.len];lia)] at h2;have h:i-f.length=0:=by
    by_cases d:i-f.length=0
    ·exact d
    ·rw[Fv (by rw[lE];lia)] at h1;cases h1
   rw[h] at h1;rw[<- p.len,h] at h2;cases h1;cases h2;exact m.ls p.at_ k s
 ·rcases cG.mp n with d|d
  ·exact p.new b d
  ·rw[cN.mp d];exact u
 ·exact Dl.mpr ⟨p.nd,by simp,fun x o y r e=>t (by rw[<- cN.mp r,<- e];exact o)⟩
 ·rcases cG.mp d with y|y
  ·exact p.nq y
  ·exact k (cN.mp y).symm
def T6(K:ao)(C:Addr):Sp:=fun vs H Q _=>∃(x:Addr)(zs:List Str)(w:Nat),vs=[.ref x]/\cI C H x zs w /\
 ∀(q:Addr)(qs:List Addr)(H':Hp),H q=none->Same H H'->qO K H H' q qs (aU zs w)->Q (.ref q) H'
section
variable{P:Program}{w:World}{K:ao}{mg:Str->Option Value}{base:Heap}{Z:Adr}
theorem Xv{f:Addr}{a6:FuncData} (F:Fun K "parts" "parts" GJ f a6) (T:Txt K mg Z) (bT:Df P w K mg base 4 "edge" ["view"] (rM K Z.View bR)) (bL:Df P w K mg base 4 "joined" ["view","cell"] (Cd K Z.View)) :
  cB P w K mg base (CXE P w) 5 f a6 ["view"] (T6 K Z.View):=by
 refine F.rok pD (fun bV H Q E h=>?_) (fun cdv A outer s H bV Q E aK h=>?_)
 ·obtain⟨x,zs,w,rfl,_⟩:=h;rfl
 ·obtain⟨x,zs,w,rfl,am,bu⟩:=h;have a8:=lA aK;have bd:=am.vw.le;have bc:=am.vw.w6;refine⟨_,(au (bK (i:=1) pD.nd rfl (Or.inl rfl) (bU ak)) (au (bK (i:=2) pD.nd rfl (Or.inl rfl) Sd) (au (fu gQ rfl (bN (K:=K) (aQ bT aK rfl aW (aj (rv 0) ak))) (cY (i:=3) pD.nd rfl (Or.inl rfl)) (aB (bO (aZ (qg a8) (rv 3) (rv 2) (by rfl)) (au (bK (i:=4) pD.nd rfl (Or.inl rfl) (aQ bL aK rfl aW (aj (rv 0) (aj (rv 3) ak)))) (au (bJ (nZ (K:=K) lU tY tZ gV (rv 1) (aj (rv 4) ak))) (aB (fu gQ rfl (bN (K:=K) (rv 4)) (cY (i:=5) pD.nd rfl (Or.inl rfl)) (aB (Ng qI (Nb (rv 2) (rv 5) (set_dict a8)))))))) aO))) (aB (aY (rv 1)))))),?_⟩;refine aF (fun zzs H1=>∃ q:Addr,H q=none/\Same H H1/\H1 q=some (.lst [])/\zzs=[zzR x,zzR q,zzN,zzN,zzN,zzN]) (fun R ad=>?_) ?_
  ·exact⟨by decide,fun q ag=>ad _ _ ⟨q,ag,Same.put ag,aC,rfl⟩⟩
  rintro zzs H1 ⟨q,ag,s1,aG,rfl⟩;refine aF (fun zzs H2=>∃ g:Addr,H g=none/\g≠q/\Same H1 H2/\H2 g=some (.dT (dM []))/\zzs=[zzR x,zzR q,zzR g,zzN,zzN,zzN]) (fun R ad=>?_) ?_
  ·exact fun g nd=>ad _ _ ⟨g,s1.free nd,(aR aG nd).symm,Same.put nd,aC,rfl⟩
  rintro zzs H2 ⟨g,nd,bb,s2,bp,rfl⟩;refine aF (fun zzs ao=>∃(r:List Addr)(W N m:Option V),Same H ao/\qO K H ao q r (aU zs w)/\zzs=[zzR x,zzR q,zzR g,W,N,m]) (fun R ad=>?_) ?_
  ·refine⟨_,rfl,x,zs,w,rfl,am.mono (s1.trans s2),fun S ao Y=>?_⟩;obtain⟨cs,a0,aT⟩:=Y.ls;have bC:cs.length=(bR zs w).length:=by rw[aT.length,bf]
   refine⟨S,rfl,⟨_,SqL.of a0⟩,?_⟩;have b6:H S=none:=(s1.trans s2).free Y.new;refine eZ (K:=K) (xs:=cs) (fun i zzs B=>∃(r:List Addr)(ps:List (List Cell))(z:List Cell)(W N m:Option V),Same H B/\B S=some (.lst cs)/\bw K B cs ((bR zs w).map aD)/\qO K H B q r ps/\B g=some (.dT (dM z))/\z.Nodup/\(∀ y,y∈z↔∃ p∈ps,y∈p)/\(∀ y∈z,inF zs.length w y)/\ig zs w ((bR zs w).drop i) ps=aU zs w/\S≠q/\ps.length<=i/\zzs=[zzR x,zzR q,zzR g,W,N,m])
    ⟨[],[],[],none,none,none,s1.trans (s2.trans Y.same),a0,aT,⟨Y.same _ _ (s2 _ _ aG),rfl,fun i a p h=>(by cases h),fun a aI=>(by cases aI),Ph,fun d=>(by cases d)⟩,Y.same _ _ bp,Ph,fun y=>⟨fun d=>(by cases d),fun⟨p,G,_⟩=>(by cases G)⟩,fun y n=>(by cases n),rfl,fun d=>(by have:=Y.new;rw[d,s2 _ _ aG] at this;cases this),bG _,rfl⟩
    (fun i zzs B _ C=>by obtain⟨_,_,_,_,_,_,_,e,_⟩:=C;exact SqL.of e) (fun i u zzs B bz C=>?_) (fun zzs B C=>?_)
   ·obtain⟨r,ps,z,W,N,m,ab,az,an,I,as,aN,ac,aM,D,ap,bE,rfl⟩:=C;obtain⟨b0,a1,aX⟩:=an.get bz;rw[dF] at a1;obtain⟨c,aA,rfl⟩:=jP.mp a1;have bi:c∈bR zs w:=gC aA;have aq:inF zs.length w c:=cQ.mp (cF.mp (cF.mp bi).1).1;obtain⟨tc,rfl,_,bv⟩:=eX aX;have key:B tc=some (.tup ((j8 c).map kV)):=bv;have b3:i<36:=by
     have h1:=(lR.mp aA).1;have h2:(bR zs w).length<=(bM zs w).length:=lV _ _;have b2:=fJ am.vw;lia
    have bn:(bR zs w).drop i=c::(bR zs w).drop (i+1):=by
     have h1:=(lR.mp aA)
     rw[yX h1.1,h1.2]
    rw[bn] at D;refine⟨_,rfl,_,rfl,g,_,rfl,vX.t as key,_,rfl,?_⟩;rw[oU];by_cases G:c∈z
    ·rw[aL G];unfold ig at D;rw[aL ((ac c).mp G)] at D;exact iZ ⟨r,ps,z,_,N,m,ab,az,an,I,as,aN,ac,aM,D,ap,by lia,rfl⟩
    rw[aJ G];unfold ig at D;rw[aJ (fun d=>G ((ac c).mpr d))] at D;refine jw ?_;refine aF (fun zzs X=>∃ a:Addr,B a=none/\Same B X/\Ls K X a ((cD zs w c).map aD)/\zzs=[zzR x,zzR q,zzR g,zzR tc,zzR a,m]) (fun bh aH=>?_) ?_
    ·refine⟨_,rfl,_,rfl,x,_,zs,w,c,rfl,am.mono ab,aX,aq,fun a X ds M U ae bl bF=>?_⟩;have e:ds=cD zs w c:=zV bl (p7 bd bc) fun y=>by rw[bF y,dB aq]
     rw[e] at ae;exact aH _ _ ⟨a,M,U,ae,rfl⟩
    rintro zzs X ⟨a,M,U,ae,rfl⟩;have ah:=I.mono U;have bI:H a=none:=ab.free M;have ba:a≠q:=fun d=>by rw[d] at M;rw[I.at_] at M;cases M
    have bk:a∉r:=fun d=>by
     obtain⟨j,a7⟩:=Ht d;have bs:j<ps.length:=by rw[<- I.len];exact(lR.mp a7).1
     obtain⟨_,e,_⟩:=I.ls j a ps[j] a7 (by simp[bs]);rw[e] at M;cases M
    have bZ:g≠q:=bb;have b5:r.length<=36:=by rw[I.len];lia
    refine aF (fun zzs O=>Same H O/\O S=some (.lst cs)/\bw K O cs ((bR zs w).map aD)/\qO K H O q (r++[a]) (ps++[cD zs w c])/\Ls K O a ((cD zs w c).map aD)/\O g=some (.dT (dM z))/\zzs=[zzR x,zzR q,zzR g,zzR tc,zzR a,m]) (fun bh aH=>?_) ?_
    ·refine⟨_,rfl,.inl ⟨rfl,_,SqL.of ah.at_⟩,_,rfl,q,_,_,rfl,rfl,ah.at_,ltl (by rw[bf];lia),?_⟩;have ai:SameBut q X (upd X q (.lst (r.map V.ref++[V.ref a]))):=(SameBut.refl q _).put;exact aH _ _ ⟨ai.of (ab.trans U) ag,ai _ _ (U _ _ az) ap,ai.cells ah.at_ (an.mono U),ah.snoc ae bI bk ba,ai.ls ah.at_ ba ae,ai _ _ (U _ _ as) bb,rfl⟩
    rintro zzs O ⟨bS,bo,be,bP,bB,bq,rfl⟩;obtain⟨aa,a3,aV⟩:=id bB;have bD:aa.length=(cD zs w c).length:=by rw[aV.length,bf]
    refine⟨_,rfl,a,rfl,⟨_,SqL.of a3⟩,?_⟩;refine eZ (K:=K) (xs:=aa) (fun j zzs k=>∃(l:List Cell)(m:Option V),Same H k/\k S=some (.lst cs)/\bw K k cs ((bR zs w).map aD)/\qO K H k q (r++[a]) (ps++[cD zs w c])/\k a=some (.lst aa)/\bw K k aa ((cD zs w c).map aD)/\k g=some (.dT (dM l))/\l.Nodup/\(∀ y,y∈l↔(y∈z\/y∈(cD zs w c).take j))/\(∀ y∈l,inF zs.length w y)/\zzs=[zzR x,zzR q,zzR g,zzR tc,zzR a,m])
     ⟨z,m,bS,bo,be,bP,a3,aV,bq,aN,fun y=>⟨.inl,fun d=>d.elim id (fun d=>by cases d)⟩,aM,rfl⟩ (fun j zzs k _ C=>by obtain⟨_,_,_,_,_,_,e,_⟩:=C;exact SqL.of e) (fun j o zzs k bt C=>?_) (fun zzs k C=>?_)
    ·obtain⟨l,m,aP,ar,aw,J,aE,ax,L,af,ay,av,rfl⟩:=C;obtain⟨b1,a2,bm⟩:=ax.get bt;rw[dF] at a2;obtain⟨y,a5,rfl⟩:=jP.mp a2;obtain⟨ty,rfl,_,bx⟩:=eX bm;have bj:k ty=some (.tup ((j8 y).map kV)):=bx;have bY:y∈cD zs w c:=gC a5;have bX:inF zs.length w y:=((dB aq).mp bY).inF aq;have b4:l.length<=36:=by
      have:=n6 (l2:=cM zs.length w) af fun y n=>cQ.mpr (av y n)
      rw[jY] at this;have:zs.length*w<=6*6:=rY bd bc;lia
     have tk:∀ d,d∈(cD zs w c).take (j+1)↔(d∈(cD zs w c).take j\/d=y):=fun d=>by
      rw[lG,a5,cG];simp
     refine⟨_,rfl,_,rfl,g,_,rfl,KH.t L bj (ltl (by unfold dM;rw[bf];lia)),?_⟩;have mk:∀ v:List Cell,v.Nodup->(∀ d,d∈v↔(d∈l\/d=y))->∃(l:List Cell)(m:Option V),Same H (upd k g (.dT (dM v)))/\(upd k g (.dT (dM v))) S=some (.lst cs)/\bw K (upd k g (.dT (dM v))) cs ((bR zs w).map aD)/\qO K H (upd k g (.dT (dM v))) q (r++[a]) (ps++[cD zs w c])/\(upd k g (.dT (dM v))) a=some (.lst aa)/\bw K (upd k g (.dT (dM v))) aa ((cD zs w c).map aD)/\(upd k g (.dT (dM v))) g=some (.dT (dM l))/\l.Nodup/\(∀ y,y∈l↔(y∈z\/y∈(cD zs w c).take (j+1)))/\(∀ y∈l,inF zs.length w y)/\[some (V.ref x),some (.ref q),some (.ref g),some (.ref tc),some (.ref a),some (.ref ty)]=[zzR x,zzR q,zzR g,zzR tc,zzR a,m]:=fun v bH a9=>by
      have al:SameBut g k (upd k g (.dT (dM v))):=(SameBut.refl g _).put;have aS:zm k (upd k g (.dT (dM v))):=.put L (by intro xs d;cases d);refine⟨v,_,al.of aP nd,al _ _ ar (fX ar L (by intro d;cases d)),aS.cells aw,⟨al _ _ J.at_ (fX J.at_ L (by intro d;cases d)),J.len,fun i b p h1 h2=>?_,J.new,J.nd,J.nq⟩,al _ _ aE (fX aE L (by intro d;cases d)),aS.cells ax,aC,bH,fun d=>?_,fun d bA=>?_,rfl⟩
      ·obtain⟨bW,a4,bg⟩:=J.ls i b p h1 h2;exact⟨bW,al _ _ a4 (fX a4 L (by intro d;cases d)),aS.cells bg⟩
      ·rw[a9 d,ay d,tk d,or_assoc]
      ·rcases(a9 d).mp bA with q|q
       ·exact av d q
       ·rw[q];exact bX
     by_cases n:y∈l
     ·rw[Jg l y n];exact mk l af fun d=>⟨.inl,fun q=>q.elim id (fun e=>by rw[e];exact n)⟩
     ·rw[Er l y n];refine mk (l++[y]) (Dl.mpr ⟨af,by simp,fun a aI b br e=>n (by rw[<- cN.mp br,<- e];exact aI)⟩) fun d=>?_
      rw[cG,cN]
    ·obtain⟨l,m,aP,ar,aw,J,aE,ax,L,af,ay,av,rfl⟩:=C;refine⟨r++[a],ps++[cD zs w c],l,_,_,m,aP,ar,aw,J,L,af,fun y=>?_,av,D,ap,by rw[cL,lE];lia,rfl⟩;rw[ay y,bD,lF,ac y];constructor
     ·rintro(⟨p,G,n⟩|n)
      ·exact⟨p,gP _ G,n⟩
      ·exact⟨_,gw _ (cN.mpr rfl),n⟩
     ·rintro⟨p,G,n⟩;rcases cG.mp G with d|d
      ·exact .inl ⟨p,d,n⟩
      ·rw[cN.mp d] at n;exact .inr n
   ·obtain⟨r,ps,z,W,N,m,ab,az,an,I,as,aN,ac,aM,D,ap,bE,rfl⟩:=C;rw[bC,List.drop_length] at D;have e:ps=aU zs w:=D;exact ad _ _ ⟨r,W,N,m,ab,by rw[<- e];exact I,rfl⟩
  rintro zzs ao ⟨r,W,N,m,bQ,I,rfl⟩;exact⟨_,rfl,bu q r _ ag bQ I⟩
end
theorem Xm:∀ d∈offs,(-d.1,-d.2)∈offs:=by decide
theorem p8{h w:Int}{x y:Cell}(a:y∈gO h w x)(c:inF h w x):x∈gO h w y:=by
 unfold gO at a ⊢;obtain⟨h1,_⟩:=cF.mp a;obtain⟨d,b,rfl⟩:=bV.mp h1;refine cF.mpr ⟨bV.mpr ⟨_,Xm d b,?_⟩,cR c⟩;exact nJ (by show x.1+d.1 + -d.1=x.1;lia) (by show x.2+d.2 + -d.2=x.2;lia)
theorem tG{zs:List Str}{w:Nat}{x:Cell}:x∈bR zs w↔aK zs w x=true/\∃ t,t∈aM zs w x:=by
 unfold bR;rw[cF,uQ,Tr,iw];refine and_congr_right fun _=>?_
 constructor
 ·intro h;cases e:aM zs w x with
  |nil=>rw[e] at h;exact absurd h (rZ _)
  |cons t b=>exact⟨t,cV⟩
 ·rintro⟨t,a⟩;exact Oc a
theorem j9{zs:List Str}{w:Nat}{x:Cell}(h:x∈bR zs w):inF zs.length w x:=by
 have:=(tG.mp h).1;unfold aK at this;rw[nO] at this;exact dj this.1
theorem Ve{zs:List Str}{w:Nat}(a:zs.length<=6)(b:w<=6):(bR zs w).Pairwise bA:=by
 unfold bR bM;exact((sV zs.length (dO.mpr (by lia)) w (dO.mpr (by lia))).filter _).filter _
theorem qC{zs:List Str}{w:Nat}{t y:Cell}(b:inF zs.length w t)(c:aK zs w t=false)(a:y∈aA zs w t):y∈bR zs w:=by
 unfold aA at a;obtain⟨h1,h2⟩:=cF.mp a;refine tG.mpr ⟨h2,t,?_⟩;unfold aM;exact cF.mpr ⟨p8 h1 b,by rw[c];rfl⟩
theorem gW{zs:List Str}{w:Nat}{x t:Cell}(h:t∈aM zs w x):inF zs.length w t/\aK zs w t=false/\t∈gO zs.length w x:=by
 unfold aM at h;obtain⟨h1,h2⟩:=cF.mp h;exact⟨qY h1,by simpa using h2,h1⟩
theorem jd.trans{zs:List Str}{w:Nat}{a b c:Cell}(e:jd zs w a b)(f:jd zs w b c):jd zs w a c:=by
 induction f with
 |base=>exact e
 |step _ h1 h2 d=>exact .step d h1 h2
theorem jd.a0P{zs:List Str}{w:Nat}{t x y:Cell}(a:L2.inF zs.length w t)(b:aK zs w t=false)(c:x∈gO zs.length w t)(d:y∈gO zs.length w t)(cy:aK zs w y=true):jd zs w x y:=by
 refine .step .base (t:=t) ?_ ?_
 ·unfold aM;exact cF.mpr ⟨p8 c a,by rw[b];rfl⟩
 ·unfold aA;exact cF.mpr ⟨d,cy⟩
theorem jd.symm{zs:List Str}{w:Nat}{a b:Cell}(f:aK zs w a=true)(i:L2.inF zs.length w a)(r:jd zs w a b):jd zs w b a:=by
 induction r with
 |base=>exact .base
 |@step x t y d g c j=>
  obtain⟨k,e,tx⟩:=gW g;have l:=d.inF i;have cx:aK zs w x=true:=by
   cases d with
   |base=>exact f
   |step _ _ h=>exact(tV h).2
  unfold aA at c;obtain⟨h1,h2⟩:=cF.mp c;exact(jd.a0P k e h1 (p8 tx l) cx).trans j
theorem jd.edge{zs:List Str}{w:Nat}{a b:Cell}(d:a∈bR zs w)(r:jd zs w a b):b∈bR zs w:=by
 cases r with
 |base=>exact d
 |step _ e f=>
  obtain⟨g,c,_⟩:=gW e;exact qC g c f
def layAt(p:Nat->List Cell->Bool)(ps:List Cell):Nat->List (List Cell)
 |0=>[[]]
 |k+1=>(layAt p ps k++(layAt p ps k).map (·++[ps.getD k (0,0)])).filter (p k)
def upto(ps:List Cell)(k:Nat)(l:List Cell):List Cell:=l.filter fun y=>decide (y∈ps.take k)
theorem Kv{a l:List Cell}{k:Nat}(h:∀ y∈l,y∈a.take k):upto a k l=l:=by
 unfold upto;exact Hw.mpr fun y b=>cR (h y b)
theorem getD_at{a:List Cell}{k:Nat}(b:k<a.length):a.getD k (0,0)=a[k]:=by
 rw[eE,iM b];rfl
theorem kE{a:List Cell}{k:Nat}(b:k<a.length):a.take (k+1)=a.take k++[a.getD k (0,0)]:=by
 rw[lG,iM b,getD_at b];rfl
theorem yO{a:List Cell}(nd:a.Nodup){k:Nat}(b:k<a.length):a.getD k (0,0)∉a.take k:=by
 intro h;have h2:(a.take k++[a.getD k (0,0)]).Nodup:=by rw[<- kE b];exact nd.sublist (List.take_sublist _ _)
 exact(Dl.mp h2).2.2 _ h _ (cN.mpr rfl) rfl
theorem Vt{a:List Cell}{i j:Nat}(h:i<=j){y:Cell}(b:y∈a.take i):y∈a.take j:=by
 have e:a.take i=(a.take j).take i:=by rw[List.take_take,Nat.min_eq_left h]
 rw[e] at b;exact Cp b
theorem xq{p:Nat->List Cell->Bool}{b:List Cell}(nd:b.Nodup):∀ k,k<=b.length->∀ l,l∈layAt p b k↔(l.Sublist (b.take k)/\∀ j,j<k->p j (upto b (j+1) l)=true)
 |0,_,l=>by
  unfold layAt;rw[cN,Pj,List.sublist_nil];exact⟨fun h=>⟨h,fun j f=>absurd f (by lia)⟩,fun h=>h.1⟩
 |k+1,x,l=>by
  have n:=xq (p:=p) nd k (by lia);unfold layAt;have m:k<b.length:=by lia
  have w:=yO nd m;rw[cF,kE m];have s:∀ c:List Cell,c.Sublist (b.take k)->∀ j,j<k->upto b (j+1) (c++[b.getD k (0,0)])=upto b (j+1) c:=fun c _ j f=>by
   unfold upto;rw[yt];have:[b.getD k (0,0)].filter (fun y=>decide (y∈b.take (j+1)))=[]:=by
    rw[Pb,aJ (by rw[cU (fun i=>w (Vt (by lia) i))];exact fP)];rfl
   rw[this,oA]
  constructor
  ·rintro⟨u,g⟩;have all:∀ c:List Cell,c.Sublist (b.take k++[b.getD k (0,0)])->upto b (k+1) c=c:=fun c h'=>Kv fun y q=>by rw[kE m];exact h'.subset q
   rcases cG.mp u with i|i
   ·obtain⟨h1,h2⟩:=(n l).mp i;have d:l.Sublist (b.take k++[b.getD k (0,0)]):=h1.trans (List.sublist_append_left _ _);refine⟨d,fun j f=>?_⟩;by_cases e:j=k
    ·subst e;rw[all l d];exact g
    ·exact h2 j (by lia)
   ·obtain⟨c,v,rfl⟩:=bV.mp i;obtain⟨h1,h2⟩:=(n c).mp v;have d:(c++[b.getD k (0,0)]).Sublist (b.take k++[b.getD k (0,0)]):=h1.append (List.Sublist.refl _);refine⟨d,fun j f=>?_⟩;by_cases e:j=k
    ·subst e;rw[all _ d];exact g
    ·rw[s c h1 j (by lia)];exact h2 j (by lia)
  ·rintro⟨d,g⟩;have t:=g k (by lia);rw[Kv (fun y q=>by rw[kE m];exact d.subset q)] at t;refine⟨?_,t⟩;obtain⟨r,o,e,s1,s2⟩:=List.sublist_append_iff.mp d;subst e;have:o=[]\/o=[b.getD k (0,0)]:=by
    cases o with
    |nil=>exact .inl rfl
    |cons a o=>
     right;exact s2.eq_of_length_le (by simp)
   rcases this with rfl|rfl
   ·refine gP _ ((n _).mpr ⟨by simpa using s1,fun j f=>g j (by lia)⟩)
   ·refine gw _ (bV.mpr ⟨r,(n r).mpr ⟨s1,fun j f=>?_⟩,rfl⟩);have:=g j (by lia);rwa[s r s1 j f] at this
theorem yM{p:Nat->List Cell->Bool}{c:List Cell}(nd:c.Nodup):∀ k,k<=c.length->(layAt p c k).Nodup
 |0,_=>by unfold layAt;simp
 |k+1,j=>by
  have d:=yM (p:=p) nd k (by lia);unfold layAt;refine List.Nodup.sublist Cu (Dl.mpr ⟨d,?_,fun a f b g e=>?_⟩)
  ·exact HW.mpr (d.imp fun h e=>h (List.append_cancel_right e))
  ·obtain⟨i,_,rfl⟩:=bV.mp g;subst e;have:=((xq nd k (by lia) _).mp f).1;exact yO nd (by lia) (this.subset (by simp))
theorem sY(p:Nat->List Cell->Bool)(a:List Cell):∀ k,(layAt p a k).length<=2^k
 |0=>bG _
 |k+1=>by
  unfold layAt;refine dU (lV _ _) ?_;rw[cL,bf,Nat.pow_succ];have:=sY p a k;lia
theorem sZ{p:Nat->List Cell->Bool}{d:List Cell}:∀ k,∀ l∈layAt p d k,l.length<=k
 |0,l,h=>by unfold layAt at h;rw[cN.mp h];exact bG _
 |k+1,l,h=>by
  unfold layAt at h;rcases cG.mp (cF.mp h).1 with a|a
  ·have:=sZ k l a;lia
  ·obtain⟨b,c,rfl⟩:=bV.mp a;have:=sZ k b c;rw[cL,lE];lia
def mV(N l:List Cell):Nat:=(N.filter fun y=>decide (y∈l)).length
def oY(N:List Cell)(f:Int)(rest:Nat)(l:List Cell):Bool:=decide ((mV N l:Int)<=f)&&decide (f<=(mV N l:Int)+rest)
def zY(N:List Cell)(c:Cell):Nat:=(N.filter fun y=>gj c y).length
def pP(zs:List Str)(w:Nat)(ps:List Cell)(k:Nat)(l:List Cell):Bool:=
 (aM zs w (ps.getD k (0,0))).all fun t=>oY (aA zs w t) (gB zs t) (zY (aA zs w t) (ps.getD k (0,0))) l
def Jw(N ps:List Cell)(k:Nat):Nat:=(N.filter fun y=>decide (y∈ps.drop (k+1))).length
theorem Q9{N:List Cell}{a b c:Cell->Bool}(h:∀ y∈N,a y=true->b y=true\/c y=true):(N.filter a).length<=(N.filter b).length+(N.filter c).length:=by
 induction N with
 |nil=>simp
 |cons y N e=>
  have l:=e fun f d=>h f (eO _ d)
  have k:=h y cV;simp only[Pb];cases g:a y<;>cases i:b y<;>cases j:c y<;>simp_all<;>lia
theorem Ud{N:List Cell}{a b:Cell->Bool}(h:∀ y∈N,a y=true->b y=true):(N.filter a).length<=(N.filter b).length:=by
 have:=Q9 (N:=N) (a:=a) (b:=b) (c:=fun _=>false) fun y d f=>.inl (h y d f)
 have e:N.filter (fun _=>false)=[]:=Hq.mpr fun _ _=>fP
 rw[e] at this;simpa using this
theorem Ue{N:List Cell}{a:Cell->Bool}(h:∀ y∈N,a y=false):(N.filter a).length=0:=by
 rw[Hq.mpr fun y b=>by rw[h y b];exact fP];rfl
theorem wW{N:List Cell}{a b:Cell->Bool}(h:∀ y∈N,a y=b y):(N.filter a).length=(N.filter b).length:=by rw[HJ h]
section
variable{zs:List Str}{w:Nat}{ps:List Cell}
structure Part(zs:List Str)(w:Nat)(ps:List Cell):Prop where
 asc:ps.Pairwise bA
 ne:ps≠[]
 cl:∀ x∈ps,aK zs w x=true/\inF zs.length w x
 all:∀ x∈ps,∀ t∈aM zs w x,∀ y∈aA zs w t,y∈ps
theorem Part.join{c:Cell}(e:zs.length<=6)(h:w<=6)(d:c∈bR zs w):Part zs w (cD zs w c):=by
 have a:=j9 d;refine⟨p7 e h,fun i=>?_,fun x b=>?_,fun x b t f y g=>?_⟩
 ·have:c∈cD zs w c:=(dB a).mpr .base;rw[i] at this;cases this
 ·have:=jd.edge d ((dB a).mp b);exact⟨(tG.mp this).1,j9 this⟩
 ·exact(dB a).mpr (.step ((dB a).mp b) f g)
theorem Part.nd(p:Part zs w ps):ps.Nodup:=iV p.asc
theorem Part.near(p:Part zs w ps){x t:Cell}(a:x∈ps)(ht:t∈aM zs w x):x∈aA zs w t:=by
 obtain⟨h1,h2,b⟩:=gW ht;exact cF.mpr ⟨p8 b (p.cl x a).2,(p.cl x a).1⟩
theorem Fd{x t:Cell}(a:x∈aA zs w t)(b:inF zs.length w t)(to:aK zs w t=false):t∈aM zs w x:=by
 obtain⟨h1,h2⟩:=cF.mp a;exact cF.mpr ⟨p8 h1 b,by rw[to];rfl⟩
theorem Part.split(p:Part zs w ps){j:Nat}(d:j<ps.length){y:Cell}(f:y∈ps):(y∈ps.take (j+1)/\y∉ps.drop (j+1)/\gj (ps.getD j (0,0)) y=false)\/(y∉ps.take (j+1)/\y∈ps.drop (j+1)/\gj (ps.getD j (0,0)) y=true):=by
 have b:=p.asc;have e:=Dj (j+1) ps;have nd:=p.nd;rw[<- e] at b nd;have g:=(Dl.mp nd).2.2;have i:ps.getD j (0,0)∈ps.take (j+1):=by rw[kE d];exact gw _ (cN.mpr rfl)
 by_cases h:y∈ps.take (j+1)
 ·left;refine⟨h,fun a=>g y h y a rfl,?_⟩;rw[kE d] at h b;rcases cG.mp h with a|a
  ·have h1:=(z7.mp (z7.mp b).1).2.2 y a _ (cN.mpr rfl);exact cU (by unfold bA at *;lia)
  ·rw[cN.mp a];exact cU (by unfold bA;lia)
 ·right;rw[<- e] at f;have c:y∈ps.drop (j+1):=(cG.mp f).resolve_left h;exact⟨h,c,cR ((z7.mp b).2.2 _ i y c)⟩
theorem Part.beh(p:Part zs w ps){j:Nat}(c:j<ps.length){N:List Cell}(b:∀ y∈N,y∈ps):zY N (ps.getD j (0,0))=Jw N ps j:=by
 refine wW fun y d=>?_
 rcases p.split c (b y d) with⟨_,h2,a⟩|⟨_,h2,a⟩
 ·rw[a,cU h2]
 ·rw[a,cR h2]
theorem Et{N l:List Cell}{f:Int}{r:Nat}:oY N f r l=true↔((mV N l:Int)<=f/\f<=(mV N l:Int)+r):=by
 unfold oY;rw[nO,iw,iw]
theorem Part.before(p:Part zs w ps){j:Nat}(g:j<ps.length){N l:List Cell}(e:∀ y∈N,y∈ps){f:Int}(h:(mV N l:Int)=f):oY N f (Jw N ps j) (upto ps (j+1) l)=true:=by
 rw[Et,<- h];constructor
 ·have:=Ud (N:=N) (a:=fun y=>decide (y∈upto ps (j+1) l)) (b:=fun y=>decide (y∈l)) fun y _ d=>cR (cF.mp (dj d)).1
  unfold mV;lia
 ·have:=Q9 (N:=N) (a:=fun y=>decide (y∈l)) (b:=fun y=>decide (y∈upto ps (j+1) l)) (c:=fun y=>decide (y∈ps.drop (j+1))) fun y i d=>by
   rcases p.split g (e y i) with⟨h1,_,_⟩|⟨_,h2,_⟩
   ·exact .inl (cR (cF.mpr ⟨dj d,cR h1⟩))
   ·exact .inr (cR h2)
  unfold mV Jw;lia
theorem a2y{j:Nat}{N l:List Cell}{f:Int}(b:∀ y∈N,y∈ps.take (j+1))(h0:Jw N ps j=0)(h:oY N f (Jw N ps j) (upto ps (j+1) l)=true):(mV N l:Int)=f:=by
 rw[Et,h0] at h;have e:mV N (upto ps (j+1) l)=mV N l:=wW fun y c=>by
  rw[vV];exact⟨fun a=>(cF.mp a).1,fun a=>cF.mpr ⟨a,cR (b y c)⟩⟩
 rw[e] at h;lia
theorem a0F{N:List Cell}(h0:N≠[])(g:∀ y∈N,y∈ps):∃ j,j<ps.length/\ps.getD j (0,0)∈N/\∀ y∈N,y∈ps.take (j+1):=by
 have f:∀ k,k<=ps.length->(∀ y∈N,y∈ps.take k)->∃ j,j<ps.length/\ps.getD j (0,0)∈N/\∀ y∈N,y∈ps.take (j+1):=by
  intro k
  induction k with
  |zero=>
   intro _ h;cases N with
   |nil=>exact absurd rfl h0
   |cons a N=>have:=h a cV;rw[Pj] at this;cases this
  |succ k l=>
   intro m h;by_cases d:∀ y∈N,y∈ps.take k
   ·exact l (by lia) d
   ·have ⟨y,b,c⟩:∃ y,y∈N/\y∉ps.take k:=O5 fun i=>d fun y b=>O5 fun c=>i ⟨y,b,c⟩
    have:=h y b;rw[kE (by lia)] at this;have e:y=ps.getD k (0,0):=cN.mp ((cG.mp this).resolve_left c);exact⟨k,by lia,by rw[<- e];exact b,h⟩
 exact f ps.length (bG _) (fun y b=>by rw[lF];exact g y b)
def a1V(zs:List Str)(w:Nat)(ps l:List Cell):Prop:=∀ x∈ps,∀ t∈aM zs w x,(mV (aA zs w t) l:Int)=gB zs t
theorem Part.a6j(p:Part zs w ps)(l:List Cell):l∈layAt (pP zs w ps) ps ps.length↔(l.Sublist ps/\a1V zs w ps l):=by
 rw[xq p.nd _ (bG _),lF];refine and_congr_right fun n=>⟨fun h x d t c=>?_,fun h j a=>?_⟩
 ·have b:∀ y∈aA zs w t,y∈ps:=p.all x d t c;have f:=p.near d c;obtain⟨j,a,i,e⟩:=a0F (fun m=>by rw[m] at f;cases f) b;obtain⟨k,to,_⟩:=gW c;have:=nP.mp (h j a) t (Fd i k to);rw[p.beh a b] at this;refine a2y e (Ue fun y g=>?_) this;rcases p.split a (b y g) with⟨_,h2,_⟩|⟨h2,_,_⟩
  ·exact cU h2
  ·exact absurd (e y g) h2
 ·refine nP.mpr fun t c=>?_
  have d:ps.getD j (0,0)∈ps:=by rw[getD_at a];exact qG _
  have b:∀ y∈aA zs w t,y∈ps:=p.all _ d t c;rw[p.beh a b];exact p.before a b (h _ d t c)
def fW(zs:List Str)(w:Nat)(ps:List Cell):List (List Cell):=(layAt (pP zs w ps) ps ps.length).mergeSort fun a b=>!llt b a
theorem jZ:(fW zs w ps).Perm (layAt (pP zs w ps) ps ps.length):=List.mergeSort_perm _ _
theorem Uv:Vz (fW zs w ps):=by
 have h:(fW zs w ps).Pairwise fun a b=>(!llt b a)=true:=by
  refine List.pairwise_mergeSort (fun a b c h1 h2=>?_) (fun a b=>?_) _
  ·have h1:llt b a=false:=by simpa using h1
   have h2:llt c b=false:=by simpa using h2
   rw[vd.tr _ _ _ h1 h2];rfl
  ·cases h:llt b a
   ·rfl
   ·rw[vd.Iw _ _ h];rfl
 exact h.imp fun h=>by simpa using h
theorem Part.lays(p:Part zs w ps){a:List (List Cell)}(b:a.Perm (layAt (pP zs w ps) ps ps.length))(c:Vz a):a=fW zs w ps:=PB vd (b.trans jZ.symm) c Uv
theorem Part.mem(p:Part zs w ps)(l:List Cell):l∈fW zs w ps↔(l.Sublist ps/\a1V zs w ps l):=by rw[jZ.mem_iff,p.a6j]
theorem Uw(h:ps.length<=12):(fW zs w ps).length<=4096:=by
 rw[jZ.length_eq];exact dU (sY _ _ _) (Om (by decide) h)
theorem Ux{l:List Cell}(a:l∈fW zs w ps):l.length<=ps.length:=sZ _ l (jZ.mem_iff.mp a)
theorem uo{x y:Cell}(e:zs.length<=6)(f:w<=6)(b:x∈bR zs w)(i:y∈cD zs w x):cD zs w y=cD zs w x:=by
 have d:=j9 b;have a:=(dB d).mp i;have h:=jd.edge b a;have g:=jd.symm (tG.mp b).1 d a;refine zV (p7 e f) (p7 e f) fun j=>?_
 rw[dB (j9 h),dB d];exact⟨fun c=>a.trans c,fun c=>g.trans c⟩
structure a09(zs:List Str)(w:Nat)(ps:List (List Cell)):Prop where
 of:∀ p∈ps,∃ x∈bR zs w,p=cD zs w x
 dis:ps.Pairwise fun a b=>∀ y∈a,y∉b
theorem Bl(m:zs.length<=6)(n:w<=6):∀(g:List Cell)(e:List (List Cell)),(∀ c∈g,c∈bR zs w)->a09 zs w e->a09 zs w (ig zs w g e)/\(∀ c∈g,∃ p∈ig zs w g e,c∈p)/\(∀ p∈e,p∈ig zs w g e)
 |[],e,_,ok=>by unfold ig;exact⟨ok,(fun c l=>by cases l),fun p j=>j⟩
 |c::g,e,hcs,ok=>by
  have l:=hcs c cV;have B:=j9 l;have t:c∈cD zs w c:=(dB B).mpr .base;unfold ig;by_cases h:∃ p∈e,c∈p
  ·rw[aL h];obtain⟨o,q,k⟩:=Bl m n g e (fun d i=>hcs d (eO _ i)) ok;refine⟨o,fun d i=>?_,k⟩;rcases cZ.mp i with f|f
   ·obtain⟨p,j,v⟩:=h;exact⟨p,k p j,by rw[f];exact v⟩
   ·exact q d f
  ·rw[aJ h];have C:a09 zs w (e++[cD zs w c]):=by
    refine⟨fun p j=>?_,z7.mpr ⟨ok.dis,Zu _ _,fun a r b u y A s=>?_⟩⟩
    ·rcases cG.mp j with f|f
     ·exact ok.of p f
     ·exact⟨c,l,cN.mp f⟩
    ·rw[cN.mp u] at s;obtain⟨x,z,rfl⟩:=ok.of a r;refine h ⟨_,r,?_⟩;rw[<- uo m n z A,uo m n l s];exact t
   obtain⟨o,q,k⟩:=Bl m n g (e++[cD zs w c]) (fun d i=>hcs d (eO _ i)) C;refine⟨o,fun d i=>?_,fun p j=>k p (gP _ j)⟩;rcases cZ.mp i with f|f
   ·exact⟨_,k _ (gw _ (cN.mpr rfl)),by rw[f];exact t⟩
   ·exact q d f
theorem iU(d:zs.length<=6)(g:w<=6):a09 zs w (aU zs w)/\∀ c∈bR zs w,∃ p∈aU zs w,c∈p:=by
 obtain⟨a,b,_⟩:=Bl (zs:=zs) (w:=w) d g (bR zs w) [] (fun c e=>e) ⟨(fun p f=>by cases f),.nil⟩;exact⟨a,b⟩
end
theorem qT(zs:List Str)(w:Nat)(x:Cell):(aA zs w x).length<=8:=dU (lV _ _) (iT _ _ _)
def Jf(zs:List Str)(w:Nat)(c t:Cell):Dt:=.tup [.int (gB zs t),.lst ((aA zs w t).map aD),.int (zY (aA zs w t) c)]
def Fl(K:ao)(C:Addr):Sp:=fun vs H Q _=>∃(x:Addr)(v:V)(zs:List Str)(w:Nat)(c:Cell),vs=[.ref x,v]/\cI C H x zs w/\Den K H v (aD c)/\inF zs.length w c/\∀ q H',Fr K H H' q ((aM zs w c).map (Jf zs w c))->Q (.ref q) H'
section
variable{P:Program}{w:World}{K:ao}{mg:Str->Option Value}{base:Heap}{Z:Adr}
theorem Ms{f:Addr}{aq:FuncData} (F:Fun K "demands" "demands" xP f aq) (T:Txt K mg Z) (aI:Df P w K mg base 3 "open_near" ["view","cell"] (qz K Z.View aM)) (aJ:Df P w K mg base 3 "closed_near" ["view","cell"] (qz K Z.View aA)) (aT:Df P w K mg base 1 "figure" ["view","cell"] (vN K Z.View)) :
  cB P w K mg base (CXE P w) 4 f aq ["view","last"] (Fl K Z.View):=by
 refine F.rok nC (fun a3 H Q E h=>?_) (fun cdv A outer s H a3 Q E S h=>?_)
 ·obtain⟨x,v,zs,w,c,rfl,_⟩:=h;rfl
 ·obtain⟨x,v,zs,w,c,rfl,ag,al,aN,aO⟩:=h;have aP:=lA S;refine⟨_,(au (bK (i:=2) nC.nd rfl (Or.inl rfl) (bU ak)) (au (fu gQ rfl (bN (K:=K) (aQ aI S rfl aW (aj (rv 0) (aj (rv 1) ak)))) (cY (i:=3) nC.nd rfl (Or.inl rfl)) (au (bK (i:=4) nC.nd rfl (Or.inl rfl) (aQ aJ S rfl aW (aj (rv 0) (aj (rv 3) ak)))) (au (Ss (i:=5) nC.nd rfl rfl (by rfl) rfl (bN (K:=K) (rv 4)) (fun _ _ _=>(kO (aZ (a5a (K:=K) aP) (rv 0) (rv 2) (bC _)))) (fun _ _ _=>(rv 0))) (aB (bJ (nZ (K:=K) lU tY tZ gV (rv 2) (aj (eG (aj (aQ aT S rfl aW (aj (rv 0) (aj (rv 3) ak))) (aj (rv 4) (aj (aX (gn (K:=K)) rfl T.fH dw (aj (rv 5) ak)) ak)))) ak))))))) (aB (aY (rv 2))))),?_⟩;refine aF (fun zzs H1=>∃ q:Addr,H q=none/\Same H H1/\H1 q=some (.lst [])/\zzs=[zzR x,some v,zzR q,zzN,zzN,zzN]) (fun R ac=>?_) ?_
  ·exact⟨by decide,fun q I=>ac _ _ ⟨q,I,Same.put I,aC,rfl⟩⟩
  rintro zzs H1 ⟨q,I,s1,an,rfl⟩;refine aF (fun zzs H2=>∃(g:List V)(p r n:Option V),Same H H2/\H2 q=some (.lst g)/\bw K (del q H2) g ((aM zs w c).map (Jf zs w c))/\zzs=[zzR x,some v,zzR q,p,r,n]) (fun R ac=>?_) ?_
  ·refine⟨_,rfl,_,rfl,x,_,zs,w,c,rfl,ag.mono s1,al.mono s1,aN,fun af H2 f2=>?_⟩;obtain⟨W,ao,ah⟩:=f2.ls;have aV:W.length=(aM zs w c).length:=by rw[ah.length,bf]
   have a8:=vm zs w c;have a1:af≠q:=fun N=>by have:=f2.new;rw[N,an] at this;cases this
   refine⟨af,rfl,⟨_,SqL.of ao⟩,?_⟩;refine eZ (K:=K) (xs:=W) (fun i zzs j=>∃(g:List V)(p r n:Option V),Same H j/\j af=some (.lst W)/\bw K j W ((aM zs w c).map aD)/\j q=some (.lst g)/\bw K (del q j) g (((aM zs w c).take i).map (Jf zs w c))/\zzs=[zzR x,some v,zzR q,p,r,n])
    ⟨[],none,none,none,s1.trans f2.same,ao,ah,f2.same _ _ an,.nil,rfl⟩ (fun i zzs j _ G=>by obtain⟨_,_,_,_,_,e,_⟩:=G;exact SqL.of e) (fun i u zzs j aR G=>?_) (fun zzs j G=>?_)
   ·obtain⟨g,p,r,n,z,ap,X,O,B,rfl⟩:=G;obtain⟨a5,am,ai⟩:=X.get aR;rw[dF] at am;obtain⟨t,Y,rfl⟩:=jP.mp am;have a6:i<(aM zs w c).length:=(lR.mp Y).1;obtain⟨aw,to,_⟩:=gW (gC Y);refine aF (fun zzs C=>∃ a:Addr,Same j C/\j a=none/\Ls K C a ((aA zs w t).map aD)/\zzs=[zzR x,some v,zzR q,some u,zzR a,n]) (fun aG ad=>?_) ?_
    ·exact⟨_,rfl,_,rfl,x,_,zs,w,t,rfl,ag.mono z,ai,aw,fun a C aa=>ad _ _ ⟨a,aa.same,aa.new,aa.ls,rfl⟩⟩
    rintro zzs C ⟨a,J,av,as,rfl⟩;obtain⟨a4,ea,az⟩:=id as;have a7:=qT zs w t;refine aF (fun zzs k=>∃ b:Addr,Same C k/\Ls K k b (((aA zs w t).filter fun y=>gj c y).map aD)/\zzs=[zzR x,some v,zzR q,some u,zzR a,zzR b]) (fun aG ad=>?_) ?_
    ·refine⟨_,rfl,a,rfl,⟨_,SqL.of ea⟩,jA (K:=K) (xs:=aA zs w t) (enc:=aD) (d8 (SqL.of ea)) az (small (by lia)) (fun y=>gj c y) aD (fun y aS a2 k l d aE ab=>?_) (fun y aS _ a2 k l d aE ab=>⟨_,rfl,ab _ _ (Same.refl _) d⟩) (fun ys k l ay b ar=>?_)⟩
     ·exact⟨_,rfl,_,rfl,y,c,d,al.mono (z.trans (J.trans l)),_,rfl,ab _ (Same.refl _)⟩
     ·exact ad _ _ ⟨b,l.and ar,.new ar ay,rfl⟩
    rintro zzs k ⟨b,l,aU,rfl⟩;have D:=l _ _ (J _ _ O);have a9:g.length<=8:=by rw[B.length,bf,u6];lia
    refine⟨_,rfl,.inl ⟨rfl,_,SqL.of D⟩,?_⟩;refine⟨_,rfl,_,rfl,x,_,zs,w,t,rfl,ag.mono (z.trans (J.trans l)),ai.mono (J.trans l),aw,to,?_⟩;refine⟨_,rfl,_,rfl,?_⟩;dsimp only[fO];refine xJ aU.den ?_;refine⟨sz rfl,fun m ae=>?_⟩;have L:=Same.put (o:=.tup [.int (gB zs t),.ref a,.int ((((aA zs w t).filter fun y=>gj c y).map aD).length:Int)]) ae;refine pq (K:=K) (L _ _ D) (by lia) ?_;have M:SameBut q (upd k m (.tup [.int (gB zs t),.ref a,.int ((((aA zs w t).filter fun y=>gj c y).map aD).length:Int)])) (upd (upd k m (.tup [.int (gB zs t),.ref a,.int ((((aA zs w t).filter fun y=>gj c y).map aD).length:Int)])) q (.lst (g++[.ref m]))):=(SameBut.refl q _).put;have a0:a≠q:=fun N=>by rw[N,O] at av;cases av
    have aH:m≠q:=fun N=>by rw[N,D] at ae;cases ae
    have U:Same j (upd k m (.tup [.int (gB zs t),.ref a,.int ((((aA zs w t).filter fun y=>gj c y).map aD).length:Int)])):=(J.trans l).trans L;refine⟨g++[.ref m],_,_,_,M.of (z.trans U) I,M _ _ (U _ _ ap) a1,M.cells (L _ _ D) (X.mono U),aC,?_,rfl⟩;rw[lG,Y,iz];refine(B.mono ((U.but q).trans M).del).append (.cons ?_ .nil);have aK:Same (del q (upd k m (.tup [.int (gB zs t),.ref a,.int ((((aA zs w t).filter fun y=>gj c y).map aD).length:Int)]))) (del q (upd (upd k m (.tup [.int (gB zs t),.ref a,.int ((((aA zs w t).filter fun y=>gj c y).map aD).length:Int)])) q (.lst (g++[.ref m])))):=M.del;refine Den.mono aK ?_;unfold Jf;refine Den.tup (by rw[mX aH];exact aC) (.cons (.int _) (.cons (wO (L _ _ D) a0 (as.mono (l.trans L))).den (.cons ?_ .nil)));rw[bf];exact .int _
   ·obtain⟨g,p,r,n,z,ap,X,O,B,rfl⟩:=G;rw[aV,lF] at B;exact ac _ _ ⟨g,p,r,n,z,O,B,rfl⟩
  rintro zzs H2 ⟨g,p,r,n,s2,aL,ax,rfl⟩;exact⟨_,rfl,aO q _ ⟨s2,I,g,aL,ax.mono Aj⟩⟩
theorem a0o{H:Hp}{v:V}{zs:List Str}{d:Nat}{c t:Cell}(h:Den K H v (Jf zs d c t)):∃(b:Addr)(y:V),v=.ref b/\H b=some (.tup [.int (gB zs t),y,.int (zY (aA zs d t) c)])/\Den K H y (.lst ((aA zs d t).map aD)):=by
 unfold Jf at h;cases h with
 |tup f a=>
  cases a with
  |cons h1 a=>
   cases a with
   |cons h2 a=>
    cases a with
    |cons e a=>
     cases a;cases h1;cases e;exact⟨_,_,rfl,f,h2⟩
def qb(zs:List Str)(wd:Nat)(c:Cell)(ts l:List Cell):Bool:=ts.all fun t=>oY (aA zs wd t) (gB zs t) (zY (aA zs wd t) c) l
def a2k(K:ao):Sp:=fun vs H Q _=>∃(v:V)(q:Addr)(zs:List Str)(wd:Nat)(c:Cell)(ts l:List Cell),vs=[v,.ref q]/\Den K H v (xM l)/\Ls K H q (ts.map (Jf zs wd c))/\∀ H',Same H H'->Q (.bl (qb zs wd c ts l)) H'
theorem a3u{f:Addr}{ab:FuncData} (F:Fun K "may_hold" "may_hold" uD f ab) (T:Txt K mg Z):cB P w K mg base (CXE P w) 1 f ab ["laying","asked"] (a2k K):=by
 refine F.rok rJ (fun ay H Q E h=>?_) (fun cdv A outer s H ay Q E ad h=>?_)
 ·obtain⟨v,q,zs,w,c,p,l,rfl,_⟩:=h;rfl
 ·obtain⟨v,q,zs,k,c,p,l,rfl,S,ar,J⟩:=h;have aE:=lA ad;have aq:=M6 ad;refine⟨_,(au (fu gQ rfl (bN (K:=K) (rv 1)) (cY (i:=2) rJ.nd rfl (Or.inl rfl)) (au (bK (i:=3) rJ.nd rfl (Or.inl rfl) (aX (gn (K:=K)) rfl T.fH dw (aj (lJ (by rfl) rfl (bN (K:=K) (gq (gA (K:=K)) (rv 2) aG)) (fun _ _ _=>(kO (aZ (mG.or (Ey (K:=K) aq)) (rv 0) (rv 1) (by rfl)))) (fun _ _ _=>(rv 0))) ak))) (aB (bO (jf (Kg vh vh (rv 3) (gq (gA (K:=K)) (rv 2) aG) (lC jE (rv 3) (gq (gA (K:=K)) (rv 2) aG)))) (aB (aY qI)) aO)))) (aB (aY qI))),?_⟩;obtain⟨z,rfl⟩:∃ a,v=.ref a:=by cases S;exact⟨_,rfl⟩
  obtain⟨xs,ex,M⟩:=ar;have as:xs.length=p.length:=by rw[M.length,bf]
  refine aF (fun zzs H1=>∃(m o:Option V),Same H H1/\qb zs k c p l=true/\zzs=[zzR z,zzR q,m,o]) (fun R al=>?_) ?_
  ·refine⟨_,rfl,q,rfl,⟨_,SqL.of ex⟩,?_⟩;refine eZ (K:=K) (xs:=xs) (fun i zzs H1=>∃(m o:Option V),Same H H1/\(∀ t∈p.take i,oY (aA zs k t) (gB zs t) (zY (aA zs k t) c) l=true)/\zzs=[zzR z,zzR q,m,o])
    ⟨none,none,Same.refl _,(fun t ap=>by cases ap),rfl⟩ (fun i zzs H1 _ x=>by obtain⟨_,_,g,_⟩:=x;exact SqL.of (g _ _ ex)) (fun i u zzs H1 an x=>?_) (fun zzs H1 x=>?_)
   ·obtain⟨m,o,r,B,rfl⟩:=x;obtain⟨d,Y,ai⟩:=M.get an;rw[dF] at Y;obtain⟨t,aa,rfl⟩:=jP.mp Y;obtain⟨b,y,rfl,W,U⟩:=a0o (ai.mono r);obtain⟨az,rfl⟩:∃ a,y=.ref a:=by cases U;exact⟨_,rfl⟩
    have aH:=qT zs k t;refine aF (fun zzs H2=>Same H1 H2/\zzs=[zzR z,zzR q,zzR b,zzI (mV (aA zs k t) l)]) (fun aC am=>?_) ?_
    ·refine⟨_,rfl,.inr (.inl ⟨b,_,_,_,rfl,rfl,SqT.of W,dX (j:=1) rfl,?_⟩)⟩;cases U with
     |lst C ag=>
      refine⟨az,rfl,⟨_,C⟩,jA (K:=K) (xs:=aA zs k t) (enc:=aD) (d8 C) ag (small (by lia)) (fun y=>decide (y∈l)) aD (fun y C ax N D d ah G=>?_) (fun y C _ ax N D d ah G=>⟨_,rfl,G _ _ (Same.refl _) d⟩) (fun ys N D af n ac=>?_)⟩
      ·exact⟨_,rfl,_,rfl,.inr (Ke d (S.mono (r.trans D)) ⟨_,rfl,G _ (Same.refl _)⟩)⟩
      ·dsimp only[fO];refine xJ (Ls.new ac af).den ?_;rw[bf];exact am _ _ ⟨D.and ac,rfl⟩
    rintro zzs H2 ⟨s2,rfl⟩;have X:=s2 _ _ W;have av:oY (aA zs k t) (gB zs t) (zY (aA zs k t) c) l=true->∃(m o:Option V),Same H H2/\(∀ t∈p.take (i+1),oY (aA zs k t) (gB zs t) (zY (aA zs k t) c) l=true)/\[zzR z,zzR q,zzR b,zzI (mV (aA zs k t) l)]=[some (V.ref z),some (.ref q),m,o]:=fun I=>⟨_,_,r.trans s2,fun aw ae=>by
     rw[lG,aa] at ae;rcases cG.mp ae with L|L
     ·exact B aw L
     ·rw[cN.mp L];exact I,rfl⟩
    have O:oY (aA zs k t) (gB zs t) (zY (aA zs k t) c) l=false->Q (.bl false) H2:=fun I=>by
     have:qb zs k c p l=false:=by
      cases e:qb zs k c p l
      ·rfl
      ·have:=nP.mp e t (gC aa);rw[I] at this;cases this
     rw[<- this];exact J _ (r.trans s2)
    refine⟨_,rfl,_,rfl,.inr (.inl ⟨b,_,_,_,rfl,rfl,SqT.of X,iG,?_⟩)⟩;refine⟨_,_,rfl,rfl,_,rfl,?_⟩;refine cP (fun h1=>?_) (fun h1=>?_)
    ·refine⟨_,rfl,_,rfl,.inr (.inl ⟨b,_,_,_,rfl,rfl,SqT.of X,dX (j:=2) rfl,?_⟩)⟩;refine⟨_,_,rfl,rfl,_,rfl,?_⟩;refine cP (fun h2=>?_) (fun h2=>?_)
     ·refine O ?_;unfold oY;rw[show decide (gB zs t<=(mV (aA zs k t) l:Int)+(zY (aA zs k t) c:Int))=false by simpa only[jJ] using h2,yC]
     ·refine av ?_;unfold oY;rw[h1,show decide (gB zs t<=(mV (aA zs k t) l:Int)+(zY (aA zs k t) c:Int))=true by simpa only[ou] using h2];rfl
    ·refine⟨_,rfl,jw ?_⟩;refine O ?_;unfold oY;rw[h1];rfl
   ·obtain⟨m,o,r,B,rfl⟩:=x;rw[as,lF] at B;exact al _ _ ⟨m,o,r,nP.mpr B,rfl⟩
  rintro zzs H1 ⟨m,o,s1,ao,rfl⟩;rw[ao] at J;exact J _ s1
theorem Fj{K:ao}{H0 H:Hp}:∀ {vs:List V} {c:List (List Cell)},iD (nT K H0) H vs c->∃ b:List Addr,vs=b.map V.ref
 |_,_,.nil=>⟨[],rfl⟩
 |_,_,.cons h t=>by
  obtain⟨a,rfl,_⟩:=h;obtain⟨b,e⟩:=Fj t;exact⟨a::b,by rw[e];rfl⟩
theorem a5q{K:ao}{H0 H:Hp}{q:Addr}{c:List Addr}{h:List (List Cell)}(r:iD (nT K H0) H (c.map V.ref) h)(nd:h.Nodup)(k:H q=none):qO K H0 (upd H q (.lst (c.map V.ref))) q c h:=by
 have s1:=Same.put (o:=.lst (c.map V.ref)) k;have d:∀(i:Nat)(a:Addr),c[i]?=some a->∃ p,h[i]?=some p/\nT K H0 p (.ref a) H:=fun i a e=>r.get (by rw[dF,e];rfl)
 have len:c.length=h.length:=by have:=r.length;rwa[bf] at this
 refine⟨aC,len,fun i a p h1 h2=>?_,fun a v=>?_,?_,fun y=>?_⟩
 ·obtain⟨m,e,b,f,_,l⟩:=d i a h1;rw[h2] at e;cases e;cases f;exact l.mono s1
 ·obtain⟨i,g⟩:=Ht v;obtain⟨m,e,b,f,n,l⟩:=d i a g;cases f;exact n
 ·rw[List.nodup_iff_pairwise_ne,yZ];intro i j g w z e;obtain⟨p,t,s⟩:=d i _ (iM g);obtain⟨m,u,x⟩:=d j _ (iM w);rw[e] at s;have:=s.det x;subst this;have h1:=(lR.mp t)
  have h2:=(lR.mp u)
  have:i=j:=(List.getElem_inj nd).mp (h1.2.trans h2.2.symm);lia
 ·obtain⟨i,g⟩:=Ht y;obtain⟨m,e,b,f,n,xs,ex,_⟩:=d i q g;cases f;rw[ex] at k;cases k
def yg(K:ao)(C NC TG:Addr):Sp:=fun vs H Q E=>∃(x:Addr)(v:V)(zs:List Str)(w:Nat)(c:Cell),vs=[.ref x,v]/\cI C H x zs w/\Den K H v (aD c) /\
 (c∉bR zs w->∀ H',Same H H'->E (.ref NC) none H')/\(c∈bR zs w->12<(cD zs w c).length->∀ H',Same H H'->E (.ref TG) none H') /\
 (c∈bR zs w->(cD zs w c).length<=12->∀(q:Addr)(qs:List Addr)(H':Hp),H q=none->Same H H'->qO K H H' q qs (fW zs w (cD zs w c))->Q (.ref q) H')
theorem Mu{f:Addr}{aS:FuncData} (F:Fun K "layings" "layings" xU f aS) (T:Txt K mg Z) (bF:Df P w K mg base 4 "edge" ["view"] (rM K Z.View bR)) (bt:Df P w K mg base 4 "joined" ["view","cell"] (Cd K Z.View)) (bE:Df P w K mg base 4 "demands" ["view","last"] (Fl K Z.View)) (bD:Df P w K mg base 1 "may_hold" ["laying","asked"] (a2k K)) :
  cB P w K mg base (CXE P w) 5 f aS ["view","cell"] (yg K Z.View Z.NoCell Z.TooGreat):=by
 refine F.vq jg (fun bH H Q E h=>?_) (fun cdv A outer s H bH Q E N h=>?_)
 ·obtain⟨x,v,zs,w,c,rfl,_⟩:=h;rfl
 ·obtain⟨x,v,zs,w,c,rfl,ae,aI,aT,aU,a1⟩:=h;have bg:=lA N;have bh:=M6 N;have aV:=v8 N;have a6:=ae.vw.le;have a5:=ae.vw.w6;refine⟨_,(au (bO (RT.nox (aZ (Gu.or (WQ (K:=K) bh)) (rv 1) (aQ bF N rfl aW (aj (rv 0) ak)) (by rfl))) (aB (fM T.jF rfl T.mR aV (aj bx ak))) aO) (au (RS.nox (bK (i:=2) jg.nd rfl (Or.inl rfl) (aQ bt N rfl aW (aj (rv 0) (aj (rv 1) ak))))) (au (bO (RT.nox (aZ JT (aX (gn (K:=K)) rfl T.fH dw (aj (rv 2) ak)) (N5 T.iR rfl) (bC _))) (aB (fM T.nF rfl T.uh aV (aj bx ak))) aO) (au (RS.nox (bK (i:=3) jg.nd rfl (Or.inl rfl) (bU (aj (bU ak) ak)))) (au (RS.nox (fu gQ rfl (bN (K:=K) (rv 2)) (cY (i:=4) jg.nd rfl (Or.inr rfl)) (au (bK (i:=5) jg.nd rfl (Or.inr rfl) (aQ bE N rfl aW (aj (rv 0) (aj (rv 4) ak)))) (au (bK (i:=6) jg.nd rfl (Or.inl rfl) (lC jE (rv 3) (lJ (by rfl) rfl (bN (K:=K) (rv 3)) (fun _ _ _=>zM) (fun _ _ _=>(lC jE (rv 0) (bU (aj (rv 5) ak))))))) (aB (Ss (i:=3) jg.nd rfl rfl (by rfl) rfl (bN (K:=K) (rv 6)) (fun _ _ _=>(kO (gY (aQ bD N rfl aW (aj (rv 0) (aj (rv 6) ak)))))) (fun _ _ _=>(rv 0)))))))) (aB (RS.nox (aY (aX (a0A (K:=K) bg) rfl T.qR sE (aj (rv 3) ak)))))))))),?_⟩;refine aF (fun zzs H1=>c∈bR zs w/\Same H H1/\zzs=[zzR x,some v,zzN,zzN,zzN,zzN,zzN]) (fun R z=>?_) ?_
  ·refine⟨_,rfl,_,rfl,x,zs,w,rfl,ae,fun bL H1 C=>.inr (Ym (aI.mono C.same) C.ls.den ⟨_,rfl,?_⟩)⟩;refine cP (fun h1=>⟨by decide,aT (iY (by simpa only[jJ] using h1)) H1 C.same⟩) (fun h1=>z _ _ ⟨dj (by simpa only[ou] using h1),C.same,rfl⟩)
  rintro zzs H1 ⟨ag,s1,rfl⟩;have a0:=j9 ag;have pt:=Part.join a6 a5 ag;refine aF (fun zzs H2=>∃(g:Addr)(k:List V),Same H H2/\H2 g=some (.lst k)/\bw K H2 k ((cD zs w c).map aD)/\zzs=[zzR x,some v,zzR g,zzN,zzN,zzN,zzN]) (fun R z=>?_) ?_
  ·refine⟨_,rfl,_,rfl,x,_,zs,w,c,rfl,ae.mono s1,aI.mono s1,a0,fun a H2 ds bp s2 ah ao bm=>?_⟩;have e:ds=cD zs w c:=zV ao (p7 a6 a5) fun y=>by rw[bm y,dB a0]
   rw[e] at ah;obtain⟨k,af,Y⟩:=ah;exact z _ _ ⟨a,k,s1.trans s2,af,Y,rfl⟩
  rintro zzs H2 ⟨g,k,s2,af,Y,rfl⟩;have bk:k.length=(cD zs w c).length:=by rw[Y.length,bf]
  refine aF (fun zzs aG=>(cD zs w c).length<=12/\aG=H2/\zzs=[zzR x,some v,zzR g,zzN,zzN,zzN,zzN]) (fun R z=>?_) ?_
  ·refine⟨_,rfl,?_⟩;dsimp only[fO];refine xJ (Den.lst (SqL.of af) Y) ⟨_,_,rfl,rfl,_,rfl,?_⟩;rw[bf];refine cP (fun h1=>⟨by decide,aU ag (by have:=dj h1;lia) H2 s2⟩) (fun h1=>z _ _ ⟨by have:=iY h1;lia,rfl,rfl⟩)
  rintro zzs aG ⟨bd,rfl,rfl⟩;have be:=a1 ag bd;clear aT aU a1;generalize bP:cD zs w c=ps at *;refine aF (fun zzs W=>∃(b:Addr)(bs:List V),Same H W/\W g=some (.lst k)/\bw K W k (ps.map aD)/\W b=some (.lst bs)/\iD (nT K H) W bs (layAt (pP zs w ps) ps 0)/\zzs=[zzR x,some v,zzR g,zzR b,zzN,zzN,zzN]) (fun R z=>?_) ?_
  ·refine⟨by decide,fun aJ a2=>?_⟩;dsimp only[fO];refine⟨sz rfl,fun b a3=>?_⟩;have j:=Same.put (o:=.lst []) a2;have O:=j.and (o:=.lst [.ref aJ]) a3;refine z _ _ ⟨b,_,s2.trans O,O _ _ af,Y.mono O,aC,.cons ⟨aJ,rfl,s2.free a2,[],?_,.nil⟩ .nil,rfl⟩;exact(Same.put a3) _ _ aC
  rintro zzs W ⟨b,bs,bA,aN,a8,bb,bv,rfl⟩;refine aF (fun zzs d=>∃(b:Addr)(bs:List V)(S U I:Option V),Same H d/\d b=some (.lst bs)/\iD (nT K H) d bs (layAt (pP zs w ps) ps ps.length)/\zzs=[zzR x,some v,zzR g,zzR b,S,U,I]) (fun R z=>?_) ?_
  ·refine⟨_,rfl,g,rfl,⟨_,SqL.of aN⟩,?_⟩;refine eZ (K:=K) (xs:=k) (fun i zzs d=>∃(b:Addr)(bs:List V)(S U I:Option V),Same H d/\d g=some (.lst k)/\bw K d k (ps.map aD)/\d b=some (.lst bs)/\iD (nT K H) d bs (layAt (pP zs w ps) ps i)/\zzs=[zzR x,some v,zzR g,zzR b,S,U,I])
    ⟨b,bs,none,none,none,bA,aN,a8,bb,bv,rfl⟩ (fun i zzs d _ ac=>by obtain⟨_,_,_,_,_,_,e,_⟩:=ac;exact SqL.of e) (fun i u zzs d ar ac=>?_) (fun zzs d ac=>?_)
   ·obtain⟨b,bs,S,U,I,D,aP,am,M,t,rfl⟩:=ac;obtain⟨bJ,aL,aH⟩:=am.get ar;rw[dF] at aL;obtain⟨m,ap,rfl⟩:=jP.mp aL;have bM:i<ps.length:=(lR.mp ap).1;have ba:ps.getD i (0,0)=m:=by rw[eE,ap];rfl
    have bn:m∈ps:=gC ap;have bj:bs.length<=2048:=by
     rw[t.length];exact dU (sY _ _ _) (Om (by decide) (show i<=11 by lia))
    have bQ:(layAt (pP zs w ps) ps i).length<=2048:=by rw[<- t.length];exact bj
    refine aF (fun zzs aa=>∃ L:Addr,Same d aa/\Ls K aa L ((aM zs w m).map (Jf zs w m))/\zzs=[zzR x,some v,zzR g,zzR b,some u,zzR L,I]) (fun a9 aq=>?_) ?_
    ·exact⟨_,rfl,_,rfl,x,_,zs,w,m,rfl,ae.mono D,aH,(pt.cl m bn).2,fun L aa aR=>aq _ _ ⟨L,aR.same,aR.ls,rfl⟩⟩
    rintro zzs aa ⟨L,G,ah,rfl⟩;refine aF (fun zzs J=>∃(X:Addr)(az:List V),Same aa J/\J X=some (.lst az)/\iD (nT K H) J az (layAt (pP zs w ps) ps i++(layAt (pP zs w ps) ps i).map (·++[m]))/\zzs=[zzR x,some v,zzR g,zzR b,some u,zzR L,zzR X]) (fun a9 aq=>?_) ?_
    ·refine⟨_,rfl,_,rfl,b,rfl,⟨_,SqL.of (G _ _ M)⟩,?_⟩;refine Tz (nT.stays) (nT.stays (K:=K) (H0:=H)) (d8 (SqL.of (G _ _ M))) (t.mono nT.stays G) (small (by lia)) (fun l=>l++[m]) (fun l as y J B ad aE ab=>?_) (fun ys J B aA n av=>?_)
     ·obtain⟨a,rfl,bp,bi⟩:=ad;have bS:=sZ _ l as;refine⟨_,rfl,_,rfl,?_⟩;dsimp only[fO];refine⟨sz rfl,fun p1 bo=>?_⟩;have j:=Same.put (o:=.lst [u]) bo;refine a4g (K:=K) (bi.mono j) (show Ls K (upd J p1 (.lst [u])) p1 ([m].map aD) from⟨[u],aC,.cons (aH.mono ((G.trans B).trans j)) .nil⟩) (by rw[bf,bf,lE];lia) fun r an C=>?_
      refine ab _ _ (j.trans C.same) ⟨r,rfl,(D.trans ((G.trans B).trans j)).free C.new,?_⟩;rw[iz];exact C.ls
     ·have j:=Same.put (o:=.lst ys) av;refine⟨bs,ys,j _ _ (B _ _ (G _ _ M)),aC,small (by have:=aA.length;rw[bf] at this;lia),fun X bq=>?_⟩;have O:=j.and (o:=.lst (bs++ys)) bq;exact aq _ _ ⟨X,_,B.trans O,aC,(t.mono nT.stays (G.trans (B.trans O))).append (aA.mono nT.stays O),rfl⟩
    rintro zzs J ⟨X,az,B,aK,bz,rfl⟩;have bT:(layAt (pP zs w ps) ps i++(layAt (pP zs w ps) ps i).map (·++[m])).length<=4096:=by rw[cL,bf];lia
    refine⟨_,rfl,X,rfl,⟨_,SqL.of aK⟩,?_⟩;refine Af (nT.stays) (nT.stays (K:=K) (H0:=H)) (d8 (SqL.of aK)) bz (small (by lia)) (fun l=>qb zs w m (aM zs w m) l) id (fun l as y an al ad aE ab=>?_) (fun l as _ y an al ad aE ab=>⟨_,rfl,ab _ _ (Same.refl _) ad⟩) (fun ys an al a7 n av=>?_)
    ·refine⟨_,rfl,_,rfl,y,L,zs,w,m,aM zs w m,l,rfl,ad.den,ah.mono (B.trans al),fun bI bB=>⟨_,rfl,ab _ bB⟩⟩
    ·have j:=Same.put (o:=.lst ys) av;have ay:=(G.trans B).trans (al.trans j);refine⟨n,ys,_,_,_,D.trans ay,ay _ _ aP,am.mono ay,aC,?_,rfl⟩;have e:layAt (pP zs w ps) ps (i+1)=((layAt (pP zs w ps) ps i++(layAt (pP zs w ps) ps i).map (·++[m])).filter (fun l=>qb zs w m (aM zs w m) l)).map id:=by
      rw[List.map_id];show(layAt (pP zs w ps) ps i++(layAt (pP zs w ps) ps i).map (·++[ps.getD i (0,0)])).filter (pP zs w ps i)=_;unfold pP qb;rw[ba]
     rw[e];exact a7.mono nT.stays j
   ·obtain⟨b,bs,S,U,I,D,aP,am,M,t,rfl⟩:=ac;rw[bk] at t;exact z _ _ ⟨b,bs,S,U,I,D,M,t,rfl⟩
  rintro zzs d ⟨b,bs,S,U,I,D,M,t,rfl⟩;have nd:=yM (p:=pP zs w ps) pt.nd _ (bG ps.length);refine⟨_,rfl,b,bs,layAt (pP zs w ps) ps ps.length,rfl,SqL.of M,t.a4K fun a v h=>h.den,fun q o aw a4 ao=>?_⟩;have bl:∀ i∈o,i<bs.length:=fun i ar=>dO.mp (a4.mem_iff.mp ar)
  have ai:=iD.by (d0:=[]) o t bl;have bu:(o.map fun i=>(layAt (pP zs w ps) ps ps.length).getD i []).Perm (layAt (pP zs w ps) ps ps.length):=vo (by rw[<- t.length];exact a4);rw[pt.lays bu ao] at ai;have br:(fW zs w ps).Nodup:=jZ.nodup_iff.mpr nd;obtain⟨ax,bc⟩:∃ ax:List Addr,(o.map fun i=>bs.getD i .non)=ax.map V.ref:=Fj ai;rw[bc] at ai ⊢;exact be q ax _ (D.free aw) (D.and aw) (a5q ai br aw)
end
def vf(zs:List Str)(w:Nat)(c:Cell):Bool:=!aK zs w c&&decide ((aA zs w c).length=0)
def zX(zs:List Str)(w:Nat)(c:Cell):Bool:=vf zs w c&&decide (0<gB zs c)
def iI(zs:List Str)(w:Nat):List (List Cell):=if(cM zs.length w).any (zX zs w)=true then [] else [[]]
def chD(p:List Cell×List (List Cell)):Dt:=.tup [xM p.1,.lst (p.2.map xM)]
noncomputable def chL(zs:List Str)(w:Nat):List (List Cell×List (List Cell)):=([],iI zs w)::((aU zs w).map (fun p=>(p,fW zs w p))++(lB zs w).map fun c=>([c],[[],[c]]))
def YD(K:ao)(C:Addr):Sp:=fun vs H Q _=>∃(x:Addr)(v:V)(zs:List Str)(w:Nat)(c:Cell),vs=[.ref x,v]/\cI C H x zs w/\Den K H v (aD c)/\inF zs.length w c/\∀ H',Same H H'->Q (.bl (vf zs w c)) H'
def T4(K:ao)(C:Addr):Sp:=fun vs H Q _=>∃(x:Addr)(zs:List Str)(w:Nat),vs=[.ref x]/\cI C H x zs w/\∀ q H',Same H H'->Ls K H' q ((iI zs w).map xM)->Q (.ref q) H'
def tK(K:ao)(C TG:Addr):Sp:=fun vs H Q E=>∃(x:Addr)(zs:List Str)(w:Nat),vs=[.ref x]/\cI C H x zs w /\
 ((∃ p∈aU zs w,12<p.length)->∀ H',Same H H'->E (.ref TG) none H')/\((∀ p∈aU zs w,p.length<=12)->∀ q H',Fr K H H' q ((chL zs w).map chD)->Q (.ref q) H')
section
variable{P:Program}{w:World}{K:ao}{mg:Str->Option Value}{base:Heap}{Z:Adr}
theorem a0T{f:Addr}{d:FuncData} (F:Fun K "is_lone" "is_lone" xQ f d) (T:Txt K mg Z) (k:Df P w K mg base 2 "is_closed" ["view","cell"] (gJ K Z.View)) (l:Df P w K mg base 3 "closed_near" ["view","cell"] (qz K Z.View aA)) :
  cB P w K mg base (CXE P w) 4 f d ["view","cell"] (YD K Z.View):=by
 refine F.rok Np (fun o H Q E h=>?_) (fun cdv A outer s H o Q E a h=>?_)
 ·obtain⟨x,v,zs,w,c,rfl,_⟩:=h;rfl
 ·obtain⟨x,v,zs,w,c,rfl,j,b,m,i⟩:=h;have n:=lA a;refine⟨_,(aB (aY (K4 (a5C (aQ k a rfl aW (aj (rv 0) (aj (rv 1) ak)))) (K6 (K5 (fj.or (f9 (K:=K) n)) (aX (gn (K:=K)) rfl T.fH dw (aj (aQ l a rfl aW (aj (rv 0) (aj (rv 1) ak))) ak)) aG (bC _)))))),?_⟩;refine⟨_,rfl,_,rfl,x,v,zs,w,c,rfl,j,b,_,rfl,_,rfl,?_⟩;refine cP (fun h1=>?_) (fun h1=>?_)
  ·refine⟨_,rfl,_,rfl,x,v,zs,w,c,rfl,j,b,m,fun q H' g=>?_⟩;dsimp only[fO];refine xJ g.ls.den ?_;refine Or.inl ⟨rfl,?_⟩;rw[eY,bf];have e:decide ((((aA zs w c).length:Nat):Int)=0)=vf zs w c:=by
    unfold vf;rw[h1,rP,vV];lia
   rw[e];exact i _ g.same
  ·have e:false=vf zs w c:=by unfold vf;rw[h1];rfl
   rw[e];exact i _ (Same.refl _)
theorem Xr{f:Addr}{L:FuncData} (F:Fun K "lone_layings" "lone_layings" nA f L) (T:Txt K mg Z) (af:Df P w K mg base 1 "cells" ["view"] (qy K Z.View)) (al:Df P w K mg base 4 "is_lone" ["view","cell"] (YD K Z.View)) (ae:Df P w K mg base 1 "figure" ["view","cell"] (vN K Z.View)) :
  cB P w K mg base (CXE P w) 5 f L ["view"] (T4 K Z.View):=by
 refine F.rok qD (fun ai H Q E h=>?_) (fun cdv A outer s H ai Q E t h=>?_)
 ·obtain⟨x,zs,w,rfl,_⟩:=h;rfl
 ·obtain⟨x,zs,w,rfl,z,N⟩:=h;refine⟨_,(au (fu gQ rfl (bN (K:=K) (aQ af t rfl aW (aj (rv 0) ak))) (cY (i:=1) qD.nd rfl (Or.inl rfl)) (aB (bO (Nh (N8 (gY (aQ al t rfl aW (aj (rv 0) (aj (rv 1) ak)))) (Gx (aZ JT (aQ ae t rfl aW (aj (rv 0) (aj (rv 1) ak))) aG (bC _))))) (aB (aY (bU ak))) aO))) (aB (aY (bU (aj (bU ak) ak))))),?_⟩;refine aF (fun zzs H1=>Same H H1/\iI zs w=[[]]) (fun R ab=>?_) ?_
  ·refine⟨_,rfl,x,zs,w,rfl,z,fun q H1 f1=>?_⟩;obtain⟨Y,J,B⟩:=f1.ls;have ag:Y.length=(cM zs.length w).length:=by rw[B.length,bf]
   refine⟨q,rfl,⟨_,SqL.of J⟩,?_⟩;refine eZ (K:=K) (xs:=Y) (fun i zzs H2=>∃ l:Option V,Same H1 H2/\(∀ c∈(cM zs.length w).take i,zX zs w c=false)/\zzs=[zzR x,l])
    ⟨none,Same.refl _,(fun c r=>by cases r),rfl⟩ (fun i zzs H2 _ k=>by obtain⟨_,g,_⟩:=k;exact SqL.of (g _ _ J)) (fun i u zzs H2 ac k=>?_) (fun zzs H2 k=>?_)
   ·obtain⟨l,j,n,rfl⟩:=k;obtain⟨d,I,D⟩:=B.get ac;rw[dF] at I;obtain⟨c,G,rfl⟩:=jP.mp I;have C:=gC G;have M:=cQ.mp C;have v:=f1.same.trans j;have X:∀ b,Same H2 b->zX zs w c=false->∃ l:Option V,Same H1 b/\(∀ c∈(cM zs.length w).take (i+1),zX zs w c=false)/\[some (V.ref x),some u]=[zzR x,l]:=fun b a p=>⟨_,j.trans a,fun y O=>by
     rw[lG,G] at O;rcases cG.mp O with m|m
     ·exact n y m
     ·rw[cN.mp m];exact p,rfl⟩
    refine⟨_,rfl,_,rfl,x,u,zs,w,c,rfl,z.mono v,D.mono j,M,fun b a=>⟨_,rfl,?_⟩⟩;refine cP (fun h1=>?_) (fun h1=>?_)
    ·have ad:aK zs w c=false:=by
      unfold vf at h1;rw[nO,jJ] at h1;exact h1.1
     refine⟨_,rfl,_,rfl,x,u,zs,w,c,rfl,z.mono (v.trans a),D.mono (j.trans a),M,ad,?_⟩;refine⟨_,_,rfl,rfl,_,rfl,?_⟩;have e:zX zs w c=decide (0<gB zs c):=by unfold zX;rw[h1];rfl
     refine cP (fun h2=>?_) (fun h2=>X b a (by rw[e];exact h2));refine⟨by decide,fun ao W=>N _ _ ((v.trans a).and W) ?_⟩;have:iI zs w=[]:=aL (HY.mpr ⟨c,C,by rw[e];exact h2⟩);rw[this];exact Ls.new W .nil
    ·exact X b a (by unfold zX;rw[h1];rfl)
   ·obtain⟨l,j,n,rfl⟩:=k;rw[ag,lF] at n;refine ab _ _ ⟨f1.same.trans j,aJ fun m=>?_⟩;obtain⟨c,r,p⟩:=HY.mp m;rw[n c r] at p;cases p
  rintro zzs H1 ⟨s1,aa⟩;refine⟨by decide,fun am S=>⟨sz rfl,fun an U=>?_⟩⟩;have ah:=Same.put (o:=.lst []) S;refine N _ _ (s1.trans (ah.and U)) ?_;rw[aa];exact Ls.new U (.cons (Ls.new S .nil).den .nil)
theorem Fi{H0 H:Hp}{q:Addr}:∀ {e:List Addr} {d:List (List Cell)},e.length=d.length->(∀(i:Nat)(a:Addr)(p:List Cell),e[i]?=some a->d[i]?=some p->Ls K H a (p.map aD))->bw K H (e.map V.ref) (d.map xM)
 |[],[],_,_=>.nil
 |a::e,p::d,hl,h=>.cons (h 0 a p rfl rfl).den (Fi (H0:=H0) (q:=q) (Nat.succ.inj hl) fun i b c h1 h2=>h (i+1) b c h1 h2)
theorem Y7{H0 H b:Hp}{q d:Addr}{g:List Addr}{f:List (List Cell)}{us:List V}{o:HO}(p:qO K H0 H q g f)(s:SameBut d H b)(e:H d=some (.lst us))(h:H0 d=some o)(n:q≠d):qO K H0 b q g f:=
 ⟨s _ _ p.at_ n,p.len,fun i a c h1 h2=>s.ls e (fun j=>by have:=p.new a (gC h1);rw[j,h] at this;cases this) (p.ls i a c h1 h2),p.new,p.nd,p.nq⟩
theorem xH{zs:List Str}{w:Nat}:∀(b:List Cell)(a:List (List Cell)),(ig zs w b a).length<=a.length+b.length
 |[],a=>by unfold ig;exact bG _
 |c::b,a=>by
  unfold ig;by_cases h:∃ p∈a,c∈p
  ·rw[aL h];have:=xH (zs:=zs) (w:=w) b a;rw[gD];lia
  ·rw[aJ h];have:=xH (zs:=zs) (w:=w) b (a++[cD zs w c]);rw[cL,lE] at this;rw[gD];lia
theorem Fg{zs:List Str}{w:Nat}(v:Vw zs w):(aU zs w).length<=36:=by
 have h1:=xH (zs:=zs) (w:=w) (bR zs w) [];have h2:(bR zs w).length<=36:=dU (lV _ _) (fJ v);unfold aU;rw[vW] at h1;lia
theorem FQ{H a:Hp}{q:Addr}{us:List V}{b:List Dt}{v:V}{d:Dt}(e:bw K (del q H) us b)(s:Same H a)(f:Den K (del q a) v d):bw K (del q (upd a q (.lst (us++[v])))) (us++[v]) (b++[d]):=by
 have c:SameBut q a (upd a q (.lst (us++[v]))):=(SameBut.refl q _).put;exact(e.mono ((s.but q).trans c).del).append (.cons (f.mono c.del) .nil)
theorem Mr{f:Addr}{a8:FuncData} (F:Fun K "choices" "choices" xO f a8) (T:Txt K mg Z) (bk:Df P w K mg base 5 "parts" ["view"] (T6 K Z.View)) (bE:Df P w K mg base 5 "layings" ["view","cell"] (yg K Z.View Z.NoCell Z.TooGreat)) (bl:Df P w K mg base 4 "far" ["view"] (rM K Z.View lB)) (bF:Df P w K mg base 5 "lone_layings" ["view"] (T4 K Z.View)) :
  cB P w K mg base (CXE P w) 6 f a8 ["view"] (tK K Z.View Z.TooGreat):=by
 refine F.vq qw (fun bY H Q E h=>?_) (fun cdv A outer s H bY Q E ar h=>?_)
 ·obtain⟨x,zs,w,rfl,_⟩:=h;rfl
 ·obtain⟨x,zs,w,rfl,U,bs,bt⟩:=h;refine⟨_,(au (RS.nox (bK (i:=1) qw.nd rfl (Or.inl rfl) (bU (aj (eG (aj (bU ak) (aj (aQ bF ar rfl aW (aj (rv 0) ak)) ak))) ak)))) (au (fu PassesOwn.leaving rfl (bN (K:=K) (aQ bk ar rfl aW (aj (rv 0) ak))) (cY (i:=2) qw.nd rfl (Or.inl rfl)) (aB (bJ (nZ (K:=K) lU tY tZ gV (rv 1) (aj (eG (aj (rv 2) (aj (aQ bE ar rfl cg (aj (rv 0) (aj (gq (gA (K:=K)) (rv 2) aG) ak))) ak))) ak))))) (au (RS.nox (fu gQ rfl (bN (K:=K) (aQ bl ar rfl aW (aj (rv 0) ak))) (cY (i:=3) qw.nd rfl (Or.inl rfl)) (aB (bJ (nZ (K:=K) lU tY tZ gV (rv 1) (aj (eG (aj (bU (aj (rv 3) ak)) (aj (bU (aj (bU ak) (aj (bU (aj (rv 3) ak)) ak))) ak))) ak)))))) (aB (RS.nox (aY (rv 1))))))),?_⟩;have aL:=U.vw.le;have aV:=U.vw.w6;obtain⟨bT,_⟩:=iU (zs:=zs) (w:=w) aL aV;refine aF (fun zzs H1=>∃(q:Addr)(k:List V),H q=none/\Same H H1/\H1 q=some (.lst k)/\bw K (del q H1) k [chD ([],iI zs w)]/\zzs=[zzR x,zzR q,zzN,zzN]) (fun R ag=>?_) ?_
  ·refine⟨by decide,fun D ab=>?_⟩;have M:=Same.put (o:=.lst []) ab;refine⟨_,rfl,x,zs,w,rfl,U.mono M,fun G H1 s1 bB=>⟨sz rfl,fun t O=>⟨sz rfl,fun q X=>?_⟩⟩⟩;have J:=Same.put (o:=.tup [V.ref D,V.ref G]) O;refine ag _ _ ⟨q,_,(M.trans (s1.trans J)).free X,(M.trans (s1.trans J)).and X,aC,?_,rfl⟩;have bX:Same (upd H1 t (.tup [V.ref D,V.ref G])) (del q (upd (upd H1 t (.tup [V.ref D,V.ref G])) q (.lst [.ref t]))):=fun b o aH=>by
    have av:b≠q:=fun n=>by rw[n,X] at aH;cases aH
    rw[mX av,aN av];exact aH
   refine .cons (Den.mono bX ?_) .nil;exact Den.tup aC (.cons (((Ls.new ab .nil:Ls K _ D []).mono (s1.trans J)).den) (.cons (bB.mono J).den .nil))
  rintro zzs H1 ⟨q,k,X,s1,an,bi,rfl⟩;refine aF (fun zzs H2=>∃(k:List V)(z:Option V),Same H H2/\H2 q=some (.lst k)/\bw K (del q H2) k (([],iI zs w)::(aU zs w).map (fun p=>(p,fW zs w p)) |>.map chD)/\(∀ p∈aU zs w,p.length<=12)/\(aU zs w).length<=36/\zzs=[zzR x,zzR q,z,zzN]) (fun R ag=>?_) ?_
  ·refine⟨_,rfl,x,zs,w,rfl,U.mono s1,fun aP aT H2 bM s2 ps=>⟨aP,rfl,⟨_,SqL.of ps.at_⟩,?_⟩⟩;have bO:aP≠q:=(aR an bM).symm;have bC:=Fg U.vw;refine eZ (K:=K) (xs:=aT.map V.ref) (fun i zzs l=>∃(k:List V)(z:Option V),Same H l/\qO K H1 l aP aT (aU zs w)/\l q=some (.lst k)/\bw K (del q l) k (([],iI zs w)::((aU zs w).take i).map (fun p=>(p,fW zs w p)) |>.map chD)/\(∀ p∈(aU zs w).take i,p.length<=12)/\zzs=[zzR x,zzR q,z,zzN])
    ⟨k,none,s1.trans s2,ps,s2 _ _ an,bi.mono (s2.but q).del,(fun p aq=>by cases aq),rfl⟩ (fun i zzs l _ C=>by obtain⟨_,_,_,bS,_⟩:=C;exact SqL.of bS.at_) (fun i u zzs l ao C=>?_) (fun zzs l C=>?_)
   ·obtain⟨k,z,L,aw,N,W,am,rfl⟩:=C;rw[dF] at ao;obtain⟨a,ea,rfl⟩:=jP.mp ao;have bu:i<aT.length:=(lR.mp ea).1;have ip:i<(aU zs w).length:=by rw[<- ps.len];exact bu
    have ad:(aU zs w)[i]?=some (aU zs w)[i]:=iM ip;generalize (aU zs w)[i]=p at ad;have a9:=aw.ls i a p ea ad;have pm:p∈aU zs w:=gC ad;obtain⟨y,as,aJ⟩:=bT.of p pm;have bV:Part zs w p:=by rw[aJ];exact Part.join aL aV as
    obtain⟨v,S,rfl⟩:∃ v S,p=v::S:=by
     cases p with
     |nil=>exact absurd rfl bV.ne
     |cons v S=>exact⟨v,S,rfl⟩
    have a1:v∈cD zs w y:=by rw[<- aJ];exact cV
    have a6:cD zs w v=v::S:=by rw[uo aL aV as a1,<- aJ]
    have bo:v∈bR zs w:=jd.edge as ((dB (j9 as)).mp a1);obtain⟨xs,ex,aZ⟩:=id a9;obtain⟨aA,bh,rfl⟩:∃ aA bh,xs=aA::bh:=by cases aZ;exact⟨_,_,rfl⟩
    have bp:Den K l aA (aD v):=by cases aZ with|cons h _=>exact h
    have bD:k.length<=37:=by rw[W.length,bf,gD,bf,u6];lia
    refine⟨_,rfl,.inl ⟨rfl,_,SqL.of N⟩,?_⟩;refine⟨_,rfl,_,rfl,_,rfl,.inl ⟨a,_,_,_,rfl,rfl,SqL.of ex,iG,?_⟩⟩;refine⟨x,aA,zs,w,v,rfl,U.mono L,bp,fun br=>absurd bo br,fun _ ap H' s'=>bs ⟨v::S,pm,by rw[<- a6];exact ap⟩ _ (L.trans s'),fun _ ap G b1 m bb be ai=>?_⟩;rw[a6] at ap ai;have B:=be _ _ N;refine⟨sz rfl,fun t O=>?_⟩;have Y:=Same.put (o:=.tup [V.ref a,V.ref G]) O;dsimp only[fO];refine pq (K:=K) (Y _ _ B) (by lia) ?_;have I:=be.trans Y;have bg:SameBut q (upd m t (.tup [V.ref a,V.ref G])) (upd (upd m t (.tup [V.ref a,V.ref G])) q (.lst (k++[.ref t]))):=(SameBut.refl q _).put;have bH:a≠q:=fun n=>by have:=aw.new a (gC ea);rw[n,an] at this;cases this
    have bQ:t≠q:=fun n=>by rw[n,B] at O;cases O
    have bn:G≠q:=fun n=>by rw[n,N] at bb;cases bb
    refine⟨k++[.ref t],_,bg.of (L.trans I) X,Y7 (aw.mono I) bg (Y _ _ B) an bO,aC,?_,fun p aq=>?_,rfl⟩
    ·have aI:((aU zs w).take (i+1)).map (fun p=>(p,fW zs w p))=((aU zs w).take i).map (fun p=>(p,fW zs w p))++[(v::S,fW zs w (v::S))]:=by
      rw[lG,ad,iz];rfl
     rw[aI,<- List.cons_append,iz];refine FQ W I ?_;refine Den.tup (by rw[mX bQ];exact aC) (.cons (wO (Y _ _ B) bH (a9.mono I)).den (.cons ?_ .nil));refine Den.lst (SqL.of (show del q _ G=_ by rw[mX bn];exact Y _ _ ai.at_)) (Fi (H0:=l) (q:=G) ai.len fun j b r h1 h2=>wO (Y _ _ B) (fun n=>by have:=ai.new b (gC h1);rw[n,N] at this;cases this) ((ai.ls j b r h1 h2).mono Y))
    ·rw[lG,ad] at aq;rcases cG.mp aq with n|n
     ·exact am p n
     ·rw[cN.mp n];exact ap
   ·obtain⟨k,z,L,aw,N,W,am,rfl⟩:=C;rw[bf,ps.len,lF] at W am;exact ag _ _ ⟨k,z,L,N,W,am,bC,rfl⟩
  rintro zzs H2 ⟨k,z,s2,a7,bj,bm,b0,rfl⟩;refine aF (fun zzs l=>∃(k:List V)(z aa:Option V),Same H l/\l q=some (.lst k)/\bw K (del q l) k ((chL zs w).map chD)/\zzs=[zzR x,zzR q,z,aa]) (fun R ag=>?_) ?_
  ·refine⟨_,rfl,x,zs,w,rfl,U.mono s2,fun aK l af=>?_⟩;obtain⟨fs,a4,aX⟩:=af.ls;have bA:fs.length=(lB zs w).length:=by rw[aX.length,bf]
   have bZ:(lB zs w).length<=36:=dU (lV _ _) (fJ U.vw);have bL:aK≠q:=(aR a7 af.new).symm;refine⟨aK,rfl,⟨_,SqL.of a4⟩,?_⟩;refine eZ (K:=K) (xs:=fs) (fun i zzs m=>∃(k:List V)(aa:Option V),Same H m/\m aK=some (.lst fs)/\bw K m fs ((lB zs w).map aD)/\m q=some (.lst k)/\bw K (del q m) k ((([],iI zs w)::((aU zs w).map (fun p=>(p,fW zs w p))++((lB zs w).take i).map fun c=>([c],[[],[c]]))).map chD)/\zzs=[zzR x,zzR q,z,aa])
    ⟨k,none,s2.trans af.same,a4,aX,af.same _ _ a7,by rw[Pj,Ih,oA];exact bj.mono (af.same.but q).del,rfl⟩ (fun i zzs m _ C=>by obtain⟨_,_,_,e,_⟩:=C;exact SqL.of e) (fun i u zzs m ao C=>?_) (fun zzs m C=>?_)
   ·obtain⟨k,aa,L,a5,aE,B,ac,rfl⟩:=C;obtain⟨d,a3,a2⟩:=aE.get ao;rw[dF] at a3;obtain⟨c,bq,rfl⟩:=jP.mp a3;have bD:k.length<=100:=by rw[ac.length,bf,gD,cL,bf,bf,u6];lia
    refine⟨_,rfl,.inl ⟨rfl,_,SqL.of B⟩,_,rfl,sz rfl,fun D ab=>⟨by decide,fun ax aM=>⟨_,rfl,sz rfl,fun aS aO=>⟨sz rfl,fun bc ba=>⟨sz rfl,fun t O=>?_⟩⟩⟩⟩⟩;have M:=Same.put (o:=.lst [u]) ab;have J:=Same.put (o:=.lst []) aM;have ay:=Same.put (o:=.lst [u]) aO;have az:=Same.put (o:=.lst [V.ref ax,V.ref aS]) ba;have al:=Same.put (o:=.tup [V.ref D,V.ref bc]) O;have bd:=M.trans (J.trans (ay.trans az));have I:=bd.trans al;have ae:=I _ _ B;dsimp only[fO];refine pq (K:=K) ae (by lia) ?_;refine⟨_,_,(SameBut.refl q _).put.of (L.trans I) X,(SameBut.refl q _).put _ _ (I _ _ a5) bL,(SameBut.refl q _).put.cells ae (aE.mono I),aC,?_,rfl⟩;have aI:(([],iI zs w)::((aU zs w).map (fun p=>(p,fW zs w p))++((lB zs w).take (i+1)).map fun c=>([c],[[],[c]])))=(([],iI zs w)::((aU zs w).map (fun p=>(p,fW zs w p))++((lB zs w).take i).map fun c=>([c],[[],[c]])))++[([c],[[],[c]])]:=by
     rw[lG,bq,iz,List.cons_append,z9];rfl
    rw[aI,iz];have ah:∀ {b:Addr} {a0:Hp},Same m a0->a0 b=none->b≠q:=fun g e n=>by rw[n,g _ _ B] at e;cases e
    have bG:=ah (Same.refl _) ab;have av:=ah M aM;have bI:=ah (M.trans J) aO;have nd:=ah (M.trans (J.trans ay)) ba;have bP:=ah bd O;have bv:Ls K (upd m D (.lst [u])) D ([c].map aD):=.new ab (.cons a2 .nil);have bx:Ls K (upd (upd m D (.lst [u])) ax (.lst [])) ax (([]:List Cell).map aD):=.new aM .nil;have bz:Ls K (upd (upd (upd m D (.lst [u])) ax (.lst [])) aS (.lst [u])) aS ([c].map aD):=.new aO (.cons (a2.mono (M.trans J)) .nil);refine FQ ac I ?_;refine Den.tup (by rw[mX bP];exact aC) (.cons (wO ae bG (bv.mono (J.trans (ay.trans (az.trans al))))).den (.cons ?_ .nil));exact Den.lst (SqL.of (show del q _ bc=_ by rw[mX nd];exact al _ _ aC)) (.cons (wO ae av (bx.mono (ay.trans (az.trans al)))).den (.cons (wO ae bI (bz.mono (az.trans al))).den .nil))
   ·obtain⟨k,aa,L,a5,aE,B,ac,rfl⟩:=C;rw[bA,lF] at ac;exact ag _ _ ⟨k,z,aa,L,B,ac,rfl⟩
  rintro zzs l ⟨k,z,aa,bW,N,W,rfl⟩;exact⟨_,rfl,bt bm q _ ⟨bW,X,k,N,W.mono Aj⟩⟩
end
def jX(n:Nat)(ls:List (List Cell)):List Int:=(List.range (n+1)).map fun k:Nat=>(((ls.map fun r=>(r.length:Int)).count (k:Int):Nat):Int)
theorem j6(n:Nat)(ls:List (List Cell)):(jX n ls).length=n+1:=by unfold jX;rw[bf,vU]
theorem zB{n:Nat}{ls:List (List Cell)}{k:Nat}(a:k<=n):(jX n ls)[k]?=some (((ls.map fun r=>(r.length:Int)).count (k:Int):Nat):Int):=by
 unfold jX;rw[dF,List.getElem?_range (by lia)];rfl
theorem W6(n:Nat):jX n []=List.replicate (n+1) 0:=by
 refine Oi.mpr ⟨j6 _ _,fun x a=>?_⟩;obtain⟨k,_,rfl⟩:=bV.mp a;rfl
theorem Tt{n:Nat}{ls:List (List Cell)}{l:List Cell}(b:l.length<=n):jX n (ls++[l])=(jX n ls).set l.length ((((ls.map fun r=>(r.length:Int)).count (l.length:Int):Nat):Int)+1):=by
 refine Cz fun k=>?_
 by_cases a:k<=n
 ·rw[zB a,List.getElem?_set,iz,List.count_append];by_cases e:l.length=k
  ·rw[aL e,aL (by rw[j6];lia),<- e];simp
  ·rw[aJ e,zB a];have:List.count (k:Int) (List.map (fun r:List Cell=>(r.length:Int)) [l])=0:=a05.mpr (by simp;lia);rw[this,Ik]
 ·rw[Fv (by rw[j6];lia),Fv (by rw[I9,j6];lia)]
theorem Lk{n:Nat}{ls:List (List Cell)}(h:ls.length<=5000):∀ x∈jX n ls,0<=x/\x<2^64:=fun x b=>by
 obtain⟨k,_,rfl⟩:=bV.mp b;have:=List.count_le_length (a:=(k:Int)) (l:=ls.map fun r:List Cell=>(r.length:Int));rw[bf] at this;lia
def Qj(a b:List Int)(j k:Nat)(c:List Int):List Int:=c.set (j+k) (c.getD (j+k) 0+a.getD j 0*b.getD k 0)
def xr(a b:List Int)(j:Nat):Nat->List Int->List Int
 |0,c=>c
 |k+1,c=>Qj a b j k (xr a b j k c)
def Bf(a b:List Int):Nat->List Int->List Int
 |0,c=>c
 |j+1,c=>xr a b j b.length (Bf a b j c)
def mulL(a b:List Int):List Int:=Bf a b a.length (List.replicate (a.length+b.length-1) 0)
theorem mZ(a b:List Int)(j:Nat):∀(k:Nat)(c:List Int),(xr a b j k c).length=c.length
 |0,_=>rfl
 |k+1,c=>by unfold xr Qj;rw[I9,mZ]
theorem qZ(a b:List Int):∀(j:Nat)(c:List Int),(Bf a b j c).length=c.length
 |0,_=>rfl
 |j+1,c=>by unfold Bf;rw[mZ,qZ]
theorem Xh(a b:List Int):(mulL a b).length=a.length+b.length-1:=by unfold mulL;rw[qZ,Cm]
def jN(a:List Int)(chs:List (List Cell×List (List Cell))):List Int:=chs.foldl (fun a ch=>mulL a (jX ch.1.length ch.2)) a
def xu(a:List Int)(n:Int):Int:=if 0<=n/\n<a.length then a.getD n.toNat 0 else 0
theorem Wy{n j:Nat}(h:j<n):ixN n (j:Int)=some j:=by
 unfold ixN;rw[aL (by lia),aL (by lia)];simp
theorem ints_set(a:List Int)(j:Nat)(x:Int):(a.map V.int).set j (.int x)=(a.set j x).map V.int:=List.map_set.symm
theorem v9{a:List Int}{j:Nat}(h:j<a.length):(a.map V.int)[j]?=some (.int (a.getD j 0)):=by
 rw[dF,iM h,eE,iM h];rfl
theorem M4(z:V):∀ k:Nat,(List.replicate k [z]).flatten=List.replicate k z
 |0=>rfl
 |k+1=>by rw[u5,z8,M4 z k,u5];rfl
def Dr(ch:List Cell×List (List Cell)):Prop:=ch.1.length<=36/\(∀ l∈ch.2,l.length<=ch.1.length)/\ch.2.length<=5000
def a5G(K:ao):Sp:=fun vs H Q _=>∃(v:V)(ch:List Cell×List (List Cell)),vs=[v]/\Den K H v (chD ch)/\Dr ch/\∀ q H',Same H H'->H q=none->H' q=some (.lst ((jX ch.1.length ch.2).map V.int))->Q (.ref q) H'
def YG(K:ao):Sp:=fun vs H Q _=>∃(p q:Addr)(a b:List Int),vs=[.ref p,.ref q]/\H p=some (.lst (a.map V.int))/\H q=some (.lst (b.map V.int))/\1<=a.length/\a.length<=5000/\b.length<=40/\(∀ x∈b,0<=x/\x<2^64)/\∀ r H',Same H H'->H r=none->H' r=some (.lst ((mulL a b).map V.int))->Q (.ref r) H'
def YF(K:ao):Sp:=fun vs H Q _=>∃(p:Addr)(n:Int)(chs:List (List Cell×List (List Cell))),vs=[.ref p,.int n]/\Ls K H p (chs.map chD)/\(∀ ch∈chs,Dr ch)/\chs.length<=100/\∀ H',Same H H'->Q (.int (xu (jN [1] chs) n)) H'
def SN(K:ao)(C TG:Addr):Sp:=fun vs H Q E=>∃(x:Addr)(n:Int)(zs:List Str)(w:Nat),vs=[.ref x,.int n]/\cI C H x zs w /\
 ((∃ p∈aU zs w,12<p.length)->∀ H',Same H H'->E (.ref TG) none H')/\((∀ p∈aU zs w,p.length<=12)->∀ H',Same H H'->Q (.int (xu (jN [1] (chL zs w)) n)) H')
section
variable{P:Program}{w:World}{K:ao}{mg:Str->Option Value}{base:Heap}{Z:Adr}
theorem Lx{H:Hp}{v:V}{ch:List Cell×List (List Cell)}(h:Den K H v (chD ch)):∃(t a b:Addr)(xs d:List V),v=.ref t/\H t=some (.tup [.ref a,.ref b])/\SqL K H a xs/\bw K H xs (ch.1.map aD)/\SqL K H b d/\bw K H d (ch.2.map xM):=by
 unfold chD at h;cases h with
 |tup j c=>
  cases c with
  |cons h1 c=>
   cases c with
   |cons h2 c=>
    cases c;cases h1 with
    |lst g e=>
     cases h2 with
     |lst i f=>exact⟨_,_,_,_,_,rfl,j,g,e,i,f⟩
theorem JK{f:Addr}{L:FuncData} (F:Fun K "by_stones" "by_stones" rC f L) (T:Txt K mg Z) :
  cB P w K mg base (CXE P w) 1 f L ["choice"] (a5G K):=by
 refine F.rok qu (fun ad H Q E h=>?_) (fun cdv A outer s H ad Q E ag h=>?_)
 ·obtain⟨v,c,rfl,_⟩:=h;rfl
 ·obtain⟨v,c,rfl,S,⟨ae,aa,af⟩,Y⟩:=h;refine⟨_,(au (bK (i:=1) qu.nd rfl (Or.inl rfl) (lC tE (bU (aj aG ak)) (lC jE (aX (gn (K:=K)) rfl T.fH dw (aj (gq (gA (K:=K)) (rv 0) aG) ak)) aG))) (au (fu gQ rfl (bN (K:=K) (gq (gA (K:=K)) (rv 0) aG)) (cY (i:=2) qu.nd rfl (Or.inl rfl)) (aB (Sq (K:=K) (rv 1) (aX (gn (K:=K)) rfl T.fH dw (aj (rv 2) ak)) aG))) (aB (aY (rv 1))))),?_⟩;obtain⟨t,a,b,xs,ys,rfl,J,ea,O,G,C⟩:=Lx S;have ai:xs.length=c.1.length:=by rw[O.length,bf]
  have ab:ys.length=c.2.length:=by rw[C.length,bf]
  refine aF (fun zzs H1=>∃ q:Addr,H q=none/\Same H H1/\H1 q=some (.lst ((jX c.1.length []).map V.int))/\zzs=[zzR t,zzR q,zzN]) (fun R B=>?_) ?_
  ·refine⟨sz rfl,fun al ac=>?_⟩;have z:=Same.put (o:=.lst [V.int 0]) ac;refine⟨_,rfl,.inr (.inl ⟨t,_,_,_,rfl,rfl,SqT.of (z _ _ J),dX (j:=0) rfl,?_⟩)⟩;refine .inl ⟨a,_,rfl,.inl (z.seq ea),?_⟩;refine⟨_,aC,?_,?_,?_,fun q p=>?_⟩
   ·lia
   ·lia
   ·exact small (by show 1*(_:Nat)<=10000;lia)
   ·refine B _ _ ⟨q,z.free p,z.and p,?_,rfl⟩;rw[aC,W6,a06];have e:((xs.length:Int)+1).toNat=c.1.length+1:=by lia
    rw[e,M4]
  rintro zzs H1 ⟨q,p,s1,W,rfl⟩;refine aF (fun zzs H2=>∃ k:Option V,Same H H2/\H2 q=some (.lst ((jX c.1.length c.2).map V.int))/\zzs=[zzR t,zzR q,k]) (fun R B=>?_) ?_
  ·refine⟨_,rfl,.inr (.inl ⟨t,_,_,_,rfl,rfl,SqT.of (s1 _ _ J),dX (j:=1) rfl,?_⟩)⟩;refine⟨b,rfl,⟨_,s1.seq G⟩,?_⟩;refine eZ (K:=K) (xs:=ys) (fun i zzs H2=>∃ k:Option V,Same H H2/\H2 q=some (.lst ((jX c.1.length (c.2.take i)).map V.int))/\zzs=[zzR t,zzR q,k])
    ⟨none,s1,W,rfl⟩ (fun i zzs H2 _ n=>by obtain⟨_,g,_⟩:=n;exact g.seq G) (fun i u zzs H2 X n=>?_) (fun zzs H2 n=>?_)
   ·obtain⟨k,y,m,rfl⟩:=n;obtain⟨d,I,D⟩:=C.get X;rw[dF] at I;obtain⟨l,el,rfl⟩:=jP.mp I;have N:=aa l (gC el);obtain⟨ah,rfl⟩:∃ a,u=.ref a:=by cases D;exact⟨_,rfl⟩
    refine⟨_,rfl,_,rfl,?_⟩;dsimp only[fO];refine xJ (D.mono y) ?_;rw[bf];have M:l.length<(jX c.1.length (c.2.take i)).length:=by rw[j6];lia
    refine⟨q,_,l.length,_,rfl,rfl,SqL.of m,v9 M,_,_,rfl,rfl,q,_,_,l.length,rfl,rfl,m,Wy (by rw[bf];exact M),?_⟩;refine⟨_,(SameBut.refl q _).put.of y p,?_,rfl⟩;have e:(jX c.1.length (c.2.take i)).getD l.length 0=((((c.2.take i).map fun r=>(r.length:Int)).count (l.length:Int):Nat):Int):=by
     rw[eE,zB N];rfl
    rw[aC,ints_set,lG,el,e];exact congrArg (fun x=>some (HO.lst (x.map V.int))) (Tt N).symm
   ·obtain⟨k,y,m,rfl⟩:=n;rw[ab,lF] at m;exact B _ _ ⟨k,y,m,rfl⟩
  rintro zzs H2 ⟨k,s2,U,rfl⟩;exact⟨_,rfl,Y q _ s2 p U⟩
theorem Mw{f:Addr}{C:FuncData} (F:Fun K "product" "product" xV f C) (T:Txt K mg Z) :
  cB P w K mg base (CXE P w) 1 f C ["one","other"] (YG K):=by
 refine F.rok qx (fun Y H Q E h=>?_) (fun cdv A outer s H Y Q E ad h=>?_)
 ·obtain⟨p,q,a,b,rfl,_⟩:=h;rfl
 ·obtain⟨p,q,a,b,rfl,v,x,aa,ab,ac,bs,U⟩:=h;refine⟨_,(au (bK (i:=2) qx.nd rfl (Or.inl rfl) (lC tE (bU (aj aG ak)) (lC Gv (lC jE (aX (gn (K:=K)) rfl T.fH dw (aj (rv 0) ak)) (aX (gn (K:=K)) rfl T.fH dw (aj (rv 1) ak))) aG))) (au (fu gQ rfl (pA rfl T.lY (aj (aX (gn (K:=K)) rfl T.fH dw (aj (rv 0) ak)) ak)) (cY (i:=3) qx.nd rfl (Or.inl rfl)) (aB (fu gQ rfl (pA rfl T.lY (aj (aX (gn (K:=K)) rfl T.fH dw (aj (rv 1) ak)) ak)) (cY (i:=4) qx.nd rfl (Or.inl rfl)) (aB (Sq (K:=K) (rv 2) (lC jE (rv 3) (rv 4)) (lC tE (gq (gA (K:=K)) (rv 0) (rv 3)) (gq (gA (K:=K)) (rv 1) (rv 4)))))))) (aB (aY (rv 2))))),?_⟩;refine aF (fun zzs H1=>∃ r:Addr,H r=none/\Same H H1/\H1 r=some (.lst ((List.replicate (a.length+b.length-1) 0).map V.int))/\zzs=[zzR p,zzR q,zzR r,zzN,zzN]) (fun R B=>?_) ?_
  ·refine⟨sz rfl,fun ag W=>?_⟩;have z:=Same.put (o:=.lst [V.int 0]) W;refine⟨_,rfl,.inl ⟨p,_,rfl,.inl (SqL.of (z _ _ v)),?_⟩⟩;refine⟨_,rfl,.inl ⟨q,_,rfl,.inl (SqL.of (z _ _ x)),?_⟩⟩;refine⟨_,_,rfl,rfl,?_⟩;rw[bf,bf];have e:((a.length:Int)+(b.length:Int)-1).toNat=a.length+b.length-1:=by lia
   refine⟨_,aC,?_,?_,?_,fun r l=>?_⟩
   ·lia
   ·lia
   ·exact small (by show 1*(_:Nat)<=10000;lia)
   ·refine B _ _ ⟨r,z.free l,z.and l,?_,rfl⟩;rw[aC,e,M4,a06]
  rintro zzs H1 ⟨r,l,s1,M,rfl⟩;have ae:p≠r:=aR v l;have af:q≠r:=aR x l;have keep:∀ {H2:Hp} {X:List V},Same H H2->Same H (upd H2 r (.lst X)):=fun g=>(SameBut.refl r _).put.of g l
  refine aF (fun zzs H2=>∃ t c:Option V,Same H H2/\H2 r=some (.lst ((mulL a b).map V.int))/\zzs=[zzR p,zzR q,zzR r,t,c]) (fun R B=>?_) ?_
  ·refine⟨_,rfl,.inl ⟨p,_,rfl,.inl (SqL.of (s1 _ _ v)),_,rfl,?_,?_,?_⟩⟩
   ·rw[bf];lia
   ·rw[bf];lia
   rw[bf,jR];refine jo (lo:=0) (n:=a.length) (fun j zzs H2=>∃ t c:Option V,Same H H2/\H2 r=some (.lst ((Bf a b j (List.replicate (a.length+b.length-1) 0)).map V.int))/\zzs=[zzR p,zzR q,zzR r,t,c])
    ⟨none,none,s1,M,rfl⟩ (fun j zzs H2 S d=>?_) (fun zzs H2 d=>B _ _ d)
   obtain⟨t,c,D,N,rfl⟩:=d;refine⟨_,rfl,.inl ⟨q,_,rfl,.inl (SqL.of (D _ _ x)),_,rfl,?_,?_,?_⟩⟩
   ·rw[bf];lia
   ·rw[bf];lia
   rw[bf,jR];refine jo (lo:=0) (n:=b.length) (fun k zzs u=>∃ c:Option V,Same H u/\u r=some (.lst ((xr a b j k (Bf a b j (List.replicate (a.length+b.length-1) 0))).map V.int))/\zzs=[zzR p,zzR q,zzR r,zzI (0+j),c])
    ⟨c,D,N,rfl⟩ (fun k zzs u I d=>?_) (fun zzs u d=>by obtain⟨c,m,y,rfl⟩:=d;exact⟨_,c,m,y,rfl⟩)
   obtain⟨c,m,y,rfl⟩:=d;have G:j+k<(xr a b j k (Bf a b j (List.replicate (a.length+b.length-1) 0))).length:=by rw[mZ,qZ,Cm];lia
   have J:(0:Int)+(j:Int)+(0+(k:Int))=((j+k:Nat):Int):=by lia
   refine⟨_,rfl,_,rfl,_,rfl,?_⟩;dsimp only[K1];rw[J];refine⟨r,_,j+k,_,rfl,rfl,SqL.of y,v9 G,?_⟩;refine⟨_,rfl,_,rfl,.inl ⟨p,_,_,.int (a.getD j 0),rfl,rfl,SqL.of (m _ _ v),?_,?_⟩⟩
   ·rw[yG];exact dX (v9 S)
   refine⟨_,rfl,_,rfl,.inl ⟨q,_,_,.int (b.getD k 0),rfl,rfl,SqL.of (m _ _ x),?_,?_⟩⟩
   ·rw[yG];exact dX (v9 I)
   refine⟨.inr ?_,_,_,rfl,rfl,r,_,_,j+k,rfl,rfl,y,Wy (by rw[bf];exact G),?_⟩
   ·have O:b.getD k 0∈b:=by rw[eE,iM I];exact qG _
    have:=bs _ O;lia
   ·refine⟨_,keep m,?_,rfl⟩;rw[aC,ints_set];rfl
  rintro zzs H2 ⟨t,c,s2,L,rfl⟩;exact⟨_,rfl,U r _ s2 l L⟩
theorem V2(a:List Int)(chs:List (List Cell×List (List Cell)))(ch:List Cell×List (List Cell)):jN a (chs++[ch])=mulL (jN a chs) (jX ch.1.length ch.2):=by unfold jN;rw[List.foldl_append];rfl
theorem JG:∀(chs:List (List Cell×List (List Cell)))(a:List Int)(m:Nat),1<=a.length->a.length<=m->(∀ ch∈chs,Dr ch)->1<=(jN a chs).length/\(jN a chs).length<=m+chs.length*36
 |[],a,m,h1,h2,_=>⟨h1,by rw[vW];unfold jN;rw[List.foldl_nil];omega⟩
 |ch::chs,a,m,h1,h2,h=>by
  have c:=(h ch cV).1;have e:(mulL a (jX ch.1.length ch.2)).length=a.length+ch.1.length:=by rw[Xh,j6];lia
  have d:=JG chs (mulL a (jX ch.1.length ch.2)) (m+36) (by rw[e];lia) (by rw[e];lia) fun x b=>h x (eO _ b)
  rw[gD];unfold jN at *;rw[zj];lia
theorem V8{f:Addr}{L:FuncData} (F:Fun K "number_of" "number_of" rF f L) (T:Txt K mg Z) (ao:Df P w K mg base 1 "product" ["one","other"] (YG K)) (al:Df P w K mg base 1 "by_stones" ["choice"] (a5G K)) :
  cB P w K mg base (CXE P w) 2 f L ["found","stones"] (YF K):=by
 refine F.rok mj (fun an H Q E h=>?_) (fun cdv A outer s H an Q E N h=>?_)
 ·obtain⟨p,n,a,rfl,_⟩:=h;rfl
 ·obtain⟨p,n,a,rfl,ae,ok,ap,M⟩:=h;refine⟨_,(au (bK (i:=2) mj.nd rfl (Or.inl rfl) (bU (aj aG ak))) (au (fu gQ rfl (bN (K:=K) (rv 0)) (cY (i:=3) mj.nd rfl (Or.inl rfl)) (aB (bK (i:=2) mj.nd rfl (Or.inl rfl) (aQ ao N rfl aW (aj (rv 2) (aj (aQ al N rfl aW (aj (rv 3) ak)) ak)))))) (au (bO (jf (Kg vh Qu aG (rv 1) (aX (gn (K:=K)) rfl T.fH dw (aj (rv 2) ak)))) (aB (aY aG)) aO) (aB (aY (gq (gA (K:=K)) (rv 2) (rv 1))))))),?_⟩;obtain⟨S,J,C⟩:=ae;have af:S.length=a.length:=by rw[C.length,bf]
  refine aF (fun zzs H1=>∃ q:Addr,Same H H1/\H1 q=some (.lst (([1]:List Int).map V.int))/\zzs=[zzR p,zzI n,zzR q,zzN]) (fun R l=>?_) ?_
  ·exact⟨sz rfl,fun q ag=>l _ _ ⟨q,Same.put ag,aC,rfl⟩⟩
  rintro zzs H1 ⟨q,s1,aa,rfl⟩;refine aF (fun zzs H2=>∃(q:Addr)(b:Option V),Same H H2/\H2 q=some (.lst ((jN [1] a).map V.int))/\zzs=[zzR p,zzI n,zzR q,b]) (fun R l=>?_) ?_
  ·refine⟨_,rfl,p,rfl,⟨_,SqL.of (s1 _ _ J)⟩,?_⟩;refine eZ (K:=K) (xs:=S) (fun i zzs H2=>∃(q:Addr)(b:Option V),Same H H2/\H2 q=some (.lst ((jN [1] (a.take i)).map V.int))/\zzs=[zzR p,zzI n,zzR q,b])
    ⟨q,none,s1,aa,rfl⟩ (fun i zzs H2 _ o=>by obtain⟨_,_,g,_⟩:=o;exact SqL.of (g _ _ J)) (fun i u zzs H2 ab o=>?_) (fun zzs H2 o=>?_)
   ·obtain⟨q,b,t,v,rfl⟩:=o;obtain⟨d,I,W⟩:=C.get ab;rw[dF] at I;obtain⟨c,G,rfl⟩:=jP.mp I;have co:=ok c (gC G);have aq:(a.take i).length<=100:=by rw[u6];lia
    have ac:=JG (a.take i) [1] 1 (bG _) (bG _) fun x ad=>ok x (Cp ad)
    refine⟨_,rfl,_,rfl,u,c,rfl,W.mono t,co,fun ai z O ar X=>?_⟩;refine⟨q,ai,jN [1] (a.take i),jX c.1.length c.2,rfl,O _ _ v,X,ac.1,by lia,by rw[j6];have:=co.1;lia,Lk co.2.2,fun r U am as Y=>?_⟩;refine⟨r,_,(t.trans O).trans am,?_,rfl⟩;rw[lG,G];show U r=some (.lst ((jN [1] (a.take i++[c])).map V.int));rw[V2];exact Y
   ·obtain⟨q,b,t,v,rfl⟩:=o;rw[af,lF] at v;exact l _ _ ⟨q,b,t,v,rfl⟩
  rintro zzs H2 ⟨q,b,s2,D,rfl⟩;refine aF (fun zzs z=>z=H2/\(0<=n/\n<(jN [1] a).length)/\zzs=[zzR p,zzI n,zzR q,b]) (fun R l=>?_) ?_
  ·refine⟨_,rfl,_,_,rfl,rfl,_,rfl,W5 (m:=((jN [1] a).length:Int)) (fun _ ah=>⟨_,rfl,.inl ⟨q,_,rfl,.inl (SqL.of D),by rw[bf];exact ah⟩⟩) (cP (fun B=>?_) (fun B=>l _ _ ⟨rfl,dj (by simpa only[ou] using B),rfl⟩))⟩;have y:=iY (by simpa only[jJ] using B);have e:xu (jN [1] a) n=0:=by unfold xu;rw[aJ y]
   rw[<- e];exact M _ s2
  rintro zzs z ⟨rfl,y,rfl⟩;obtain⟨k,rfl⟩:=O9 y.1;refine⟨_,rfl,_,rfl,.inl ⟨q,_,_,_,rfl,rfl,SqL.of D,dX (v9 (j:=k) (by lia)),?_⟩⟩;have e:xu (jN [1] a) (k:Int)=(jN [1] a).getD k 0:=by unfold xu;rw[aL y,jR]
  rw[<- e];exact M _ s2
theorem G8{zs:List Str}{w:Nat}(v:Vw zs w)(h:∀ p∈aU zs w,p.length<=12):(∀ ch∈chL zs w,Dr ch)/\(chL zs w).length<=100:=by
 have h1:=Fg v;have h2:(lB zs w).length<=36:=dU (lV _ _) (fJ v);constructor
 ·intro ch b;unfold chL at b;rcases cZ.mp b with rfl|b
  ·refine⟨nQ _,fun l a=>?_,?_⟩
   ·unfold iI at a;split at a
    ·cases a
    ·rw[cN.mp a];exact bG _
   ·show(iI zs w).length<=5000;unfold iI;split
    ·exact nQ _
    ·show 1<=5000;decide
  rcases cG.mp b with b|b
  ·obtain⟨p,d,rfl⟩:=bV.mp b;have:=h p d;exact⟨by show p.length<=36;lia,fun l a=>Ux a,dU (Uw this) (by decide)⟩
  ·obtain⟨c,_,rfl⟩:=bV.mp b;refine⟨by show 1<=36;decide,fun l a=>?_,by show 2<=5000;decide⟩;rcases cZ.mp a with rfl|a
   ·exact nQ _
   ·rw[cN.mp a];exact bG _
 ·unfold chL;rw[gD,cL,bf,bf];lia
theorem Xn{f:Addr}{a:FuncData} (F:Fun K "count" "count" GD f a) (T:Txt K mg Z) (l:Df P w K mg base 2 "number_of" ["found","stones"] (YF K)) (m:Df P w K mg base 6 "choices" ["view"] (tK K Z.View Z.TooGreat)) :
  cB P w K mg base (CXE P w) 7 f a ["view","stones"] (SN K Z.View Z.TooGreat):=by
 refine F.vq Yv (fun o H Q E h=>?_) (fun cdv A outer s H o Q E d h=>?_)
 ·obtain⟨x,n,zs,w,rfl,_⟩:=h;rfl
 ·obtain⟨x,n,zs,w,rfl,e,j,k⟩:=h;refine⟨_,(aB (aY (aQ l d rfl aW (aj (aQ m d rfl cg (aj (rv 0) ak)) (aj (rv 1) ak))))),?_⟩;refine⟨_,rfl,x,zs,w,rfl,e,j,fun c q H1 b=>?_⟩;obtain⟨g,i⟩:=G8 e.vw c;exact⟨_,rfl,q,n,chL zs w,rfl,b.ls,g,i,fun H' s'=>k c _ (b.same.trans s')⟩
end
def co(a:List Int)(n:Nat):Int:=a.getD n 0
def sm(f:Nat->Int):Nat->Int
 |0=>0
 |n+1=>sm f n+f n
theorem lD{f g:Nat->Int}:∀ {n:Nat},(∀ i,i<n->f i=g i)->sm f n=sm g n
 |0,_=>rfl
 |n+1,h=>by
  show sm f n+f n=sm g n+g n;rw[lD fun i a=>h i (yu a),h n (CG n)]
theorem vM:∀ n,sm (fun _=>0) n=0
 |0=>rfl
 |n+1=>by show sm (fun _=>0) n+0=0;rw[vM n];rfl
theorem SJ{f:Nat->Int}{n:Nat}:∀ {d:Nat},(∀ i,n<=i->f i=0)->sm f (n+d)=sm f n
 |0,_=>rfl
 |d+1,h=>by show sm f (n+d)+f (n+d)=sm f n;rw[SJ h,h _ (Nat.le_add_right _ _),yH]
theorem a2i{f:Nat->Int}{n m:Nat}(a:n<=m)(h:∀ i,n<=i->f i=0):sm f m=sm f n:=by
 obtain⟨d,rfl⟩:=Nat.exists_eq_add_of_le a;exact SJ h
theorem Yz{f g:Nat->Int}:∀ n,sm (fun i=>f i+g i) n=sm f n+sm g n
 |0=>rfl
 |n+1=>by show sm (fun i=>f i+g i) n+(f n+g n)=(sm f n+f n)+(sm g n+g n);rw[Yz n];lia
theorem Wb{c:List Int}{i n:Nat}{x:Int}(a:i<c.length):co (c.set i x) n=if n=i then x else co c n:=by
 unfold co;rw[eE,List.getElem?_set];by_cases h:i=n
 ·rw[aL h,aL (by omega),aL h.symm];rfl
 ·rw[aJ h,aJ (kI h),<- eE]
theorem Ln{a b:List Int}{j:Nat}:∀ {k:Nat} {c:List Int} (n:Nat),j+k<=c.length->co (xr a b j k c) n=co c n+if j<=n/\n<j+k then co a j*co b (n-j) else 0
 |0,c,n,_=>by
  rw[aJ (by lia),yH];rfl
 |k+1,c,n,h=>by
  unfold xr Qj;rw[Wb (by rw[mZ];lia)];by_cases e:n=j+k
  ·rw[aL e,aL (by lia)];have:=Ln (a:=a) (b:=b) (j:=j) (k:=k) (c:=c) (j+k) (by lia);rw[aJ (by lia),yH] at this;show co (xr a b j k c) (j+k)+co a j*co b k=_;rw[this,e,show j+k-j=k from by lia]
  ·rw[aJ e,Ln n (by lia)];by_cases h2:j<=n/\n<j+k
   ·rw[aL h2,aL (by lia)]
   ·rw[aJ h2,aJ (by lia)]
theorem W8{a b:List Int}:∀ {j:Nat} {c:List Int} (n:Nat),j<=a.length->a.length+b.length-1<=c.length->co (Bf a b j c) n=co c n+sm (fun i=>if i<=n/\n<i+b.length then co a i*co b (n-i) else 0) j
 |0,c,n,_,_=>by show co c n=co c n+0;rw[yH]
 |j+1,c,n,h,d=>by
  unfold Bf;rw[Ln n (by rw[qZ];lia),W8 n (by lia) d];show _=_+(sm _ j+_);rw[Int.add_assoc]
theorem Ad{a:List Int}{n:Nat}(h:a.length<=n):co a n=0:=by
 unfold co;rw[eE,Fv h];rfl
def cv(f g:Nat->Int)(n:Nat):Int:=sm (fun i=>f i*g (n-i)) (n+1)
theorem W9(a b:List Int)(n:Nat):co (mulL a b) n=cv (co a) (co b) n:=by
 unfold mulL;rw[W8 n (bG _) (by rw[Cm];lia)];have d:co (List.replicate (a.length+b.length-1) 0) n=0:=by
  unfold co;rw[eE,O8];split<;>rfl
 rw[d,yG];have e:sm (fun i=>if i<=n/\n<i+b.length then co a i*co b (n-i) else 0) a.length=sm (fun i=>if i<=n then co a i*co b (n-i) else 0) a.length:=lD fun i _=>by
  by_cases h:i<=n
  ·by_cases h2:n<i+b.length
   ·rw[aL ⟨h,h2⟩,aL h]
   ·rw[aJ (by lia),aL h,Ad (a:=b) (by lia),Pq]
  ·rw[aJ (by lia),aJ h]
 rw[e];have f:sm (fun i=>if i<=n then co a i*co b (n-i) else 0) (n+1)=cv (co a) (co b) n:=lD fun i c=>aL (by lia)
 rw[<- f];rcases Nat.le_total a.length (n+1) with h|h
 ·refine(a2i h fun i c=>?_).symm;rw[Ad (a:=a) c];split
  ·exact Pr _
  ·rfl
 ·refine a2i h fun i c=>aJ (by lia)
def tot(a:List Int):Int:=sm (co a) a.length
theorem YB{c:List Int}{i:Nat}{y:Int}(a:i<c.length):∀ n,sm (co (c.set i y)) n=sm (co c) n+if i<n then y-co c i else 0
 |0=>rfl
 |n+1=>by
  show sm (co (c.set i y)) n+co (c.set i y) n=sm (co c) n+co c n+_;rw[YB a n,Wb a];by_cases e:n=i
  ·rw[aL e,aJ (by lia),aL (by lia),e];lia
  ·rw[aJ e];by_cases h:i<n
   ·rw[aL h,aL (by lia)];lia
   ·rw[aJ h,aJ (by lia)];lia
theorem Td{a b:List Int}{j:Nat}:∀ {k:Nat} {c:List Int},j+k<=c.length->tot (xr a b j k c)=tot c+co a j*sm (co b) k
 |0,c,_=>by
  show tot c=tot c+co a j*0;rw[Pq,yH]
 |k+1,c,h=>by
  unfold xr Qj;have d:=Td (a:=a) (b:=b) (j:=j) (k:=k) (c:=c) (by lia);unfold tot at d ⊢;rw[mZ] at d;rw[I9,mZ,YB (by rw[mZ];lia),aL (by lia),d];show _+(co (xr a b j k c) (j+k)+co a j*co b k-co (xr a b j k c) (j+k))=_+co a j*(sm (co b) k+co b k);rw[Int.mul_add];lia
theorem Tc{a b:List Int}:∀ {j:Nat} {c:List Int},j<=a.length->a.length+b.length-1<=c.length->tot (Bf a b j c)=tot c+sm (co a) j*tot b
 |0,c,_,_=>by
  show tot c=tot c+0*tot b;rw[Pr,yH]
 |j+1,c,h,d=>by
  unfold Bf;rw[Td (by rw[qZ];lia),Tc (by lia) d];show _+co a j*tot b=_+(sm (co a) j+co a j)*tot b;rw[Int.add_mul];lia
theorem a1P(a b:List Int):tot (mulL a b)=tot a*tot b:=by
 unfold mulL;rw[Tc (bG _) (by rw[Cm];lia)];have e:tot (List.replicate (a.length+b.length-1) 0)=0:=by
  unfold tot;have:sm (co (List.replicate (a.length+b.length-1) 0)) (List.replicate (a.length+b.length-1) (0:Int)).length=sm (fun _=>0) (List.replicate (a.length+b.length-1) (0:Int)).length:=lD fun i _=>by
   unfold co;rw[eE,O8];split<;>rfl
  rw[this,vM]
 rw[e,yG];rfl
theorem SM{f:Nat->Int}:∀ {n:Nat},(∀ i,i<n->0<=f i)->0<=sm f n
 |0,_=>Int.le_refl 0
 |n+1,h=>by
  have:=SM fun i a=>h i (yu a)
  have:=h n (CG n);show 0<=sm f n+f n;lia
theorem a2h{f:Nat->Int}:∀ {n i:Nat},(∀ i,i<n->0<=f i)->i<n->f i<=sm f n
 |n+1,i,h,a=>by
  show f i<=sm f n+f n;have h1:=SM fun i a=>h i (yu a)
  have h2:=h n (CG n);by_cases e:i=n
  ·subst e;lia
  ·have:=a2h (n:=n) (i:=i) (fun i a=>h i (yu a)) (by lia);lia
def Nn(a:List Int):Prop:=∀ n,0<=co a n
theorem Nn.mul{a b:List Int}(c:Nn a)(d:Nn b):Nn (mulL a b):=fun n=>by
 rw[W9];exact SM fun i _=>Int.mul_nonneg (c i) (d _)
theorem Nn.of{a:List Int}(h:∀ x∈a,0<=x):Nn a:=fun n=>by
 unfold co;rw[eE];cases e:a[n]? with
 |none=>exact Int.le_refl 0
 |some x=>exact h x (gC e)
theorem a2J{a:List Int}(b:Nn a)(n:Nat):co a n<=tot a:=by
 by_cases h:n<a.length
 ·exact a2h (fun i _=>b i) h
 ·rw[Ad (by lia)];exact SM fun i _=>b i
theorem G9{n:Nat}{ls:List (List Cell)}{k:Nat}(a:k<=n):co (jX n ls) k=(((ls.map fun r=>(r.length:Int)).count (k:Int):Nat):Int):=by
 unfold co;rw[eE,zB a];rfl
theorem a2I(n:Nat)(ls:List (List Cell)):Nn (jX n ls):=Nn.of fun x a=>by
 obtain⟨k,_,rfl⟩:=bV.mp a;exact HF _
theorem T9{n:Nat}:∀ {ls:List (List Cell)},(∀ l∈ls,l.length<=n)->tot (jX n ls)=ls.length
 |[],_=>by
  unfold tot;rw[lD (g:=fun _=>0) fun i b=>?_,vM];rfl;rw[j6] at b;rw[G9 (by lia)];rfl
 |l::ls,h=>by
  have a:=T9 (ls:=ls) fun x c=>h x (eO _ c)
  unfold tot at a ⊢;rw[j6] at a ⊢;have d:=h l cV;have e:sm (co (jX n (l::ls))) (n+1)=sm (fun i=>co (jX n ls) i+(if i=l.length then 1 else 0)) (n+1):=lD fun i b=>by
   rw[G9 (by lia),G9 (by lia),eU,List.count_cons];by_cases q:i=l.length
   ·rw[aL q,aL (by rw[jM];lia)];rfl
   ·rw[aJ q,aJ (by rw[jM];lia)];rfl
  have one:∀ m,l.length<m->sm (fun i=>if i=l.length then 1 else 0) m=1:=fun m f=>by
   induction m with
   |zero=>lia
   |succ m a=>
    show sm (fun i=>if i=l.length then 1 else 0) m+(if m=l.length then 1 else 0)=1;by_cases q:l.length<m
    ·rw[a q,aJ (by lia)];rfl
    ·rw[aL (by lia),lD (g:=fun _=>0) fun i b=>aJ (by lia),vM];rfl
  rw[e,Yz,a,one _ (by lia),gD];lia
theorem Xl:∀ {chs:List (List Cell×List (List Cell))} {a:List Int},Nn a->Nn (jN a chs)
 |[],_,h=>h
 |b::chs,a,h=>Xl (chs:=chs) (h.mul (a2I _ _))
def tW(chs:List (List Cell×List (List Cell))):Int:=chs.foldl (fun a ch=>a*(ch.2.length:Int)) 1
theorem tH:∀(chs:List (List Cell×List (List Cell)))(a:Int),chs.foldl (fun a ch=>a*(ch.2.length:Int)) a=a*tW chs
 |[],a=>(Pu a).symm
 |ch::chs,a=>by
  unfold tW;rw[zj,zj,tH chs,tH chs (1*_),Il,Int.mul_assoc]
theorem Qt:∀ {chs:List (List Cell×List (List Cell))} {a:List Int},(∀ ch∈chs,∀ l∈ch.2,l.length<=ch.1.length)->tot (jN a chs)=tot a*tW chs
 |[],a,_=>(Pu _).symm
 |ch::chs,a,h=>by
  show tot (jN (mulL a (jX ch.1.length ch.2)) chs)=_;rw[Qt fun c b=>h c (eO _ b),a1P,T9 (h ch cV)];unfold tW;rw[zj,tH chs (1*_),Il,Int.mul_assoc];rfl
theorem Wa{a:List Int}(n:Nat):xu a n=co a n:=by
 unfold xu;by_cases h:n<a.length
 ·rw[aL (by lia),jR];rfl
 ·rw[aJ (by lia),Ad (by lia)]
section
variable{zs:List Str}{w:Nat}
theorem XF(b:zs.length<=6)(c:w<=6):(aU zs w).flatten.Nodup:=by
 obtain⟨ok,_⟩:=iU (zs:=zs) (w:=w) b c;unfold List.Nodup;rw[ZM];refine⟨fun p d=>?_,ok.dis.imp fun h x a y f e=>h x a (by rw[e];exact f)⟩;obtain⟨x,a,rfl⟩:=ok.of p d;exact(Part.join b c a).nd
theorem MN(a:zs.length<=6)(d:w<=6):(aU zs w).flatten.Perm (bR zs w):=by
 obtain⟨ok,f⟩:=iU (zs:=zs) (w:=w) a d;refine(O2 (XF a d) (iV (Ve a d))).mpr fun y=>?_
 rw[List.mem_flatten];constructor
 ·rintro⟨p,b,c⟩;obtain⟨x,e,rfl⟩:=ok.of p b;exact jd.edge e ((dB (j9 e)).mp c)
 ·intro c;obtain⟨p,b,h⟩:=f y c;exact⟨p,b,h⟩
theorem qU(a:zs.length<=6)(b:w<=6):((aU zs w).flatten++lB zs w).Perm (bM zs w):=by
 refine((MN a b).append_right _).trans ?_;unfold bR lB;have e:(bM zs w).filter (fun x=>decide ((aM zs w x).length=0))=(bM zs w).filter (fun x=>!decide (0<(aM zs w x).length)):=HJ fun x _=>by
  rw[uI,iw,jJ,decide_eq_false_iff_not];lia
 rw[e];exact List.filter_append_perm _ _
theorem Kr{a:Type}:∀ ls:List (List a),(ls.map fun l=>l.length).sum=ls.flatten.length
 |[]=>rfl
 |l::ls=>by rw[eU,CZ,z8,cL,Kr ls]
theorem Lg(e:zs.length<=6)(g:w<=6):((chL zs w).map fun ch=>ch.1.length).sum=(bM zs w).length:=by
 unfold chL;rw[eU,CZ,iz,List.sum_append,qH,qH];have b:(aU zs w).map ((fun ch:List Cell×List (List Cell)=>ch.1.length) ∘ fun p=>(p,fW zs w p))=(aU zs w).map fun p=>p.length:=rfl
 have d:∀ l:List Cell,(l.map ((fun ch:List Cell×List (List Cell)=>ch.1.length) ∘ fun c=>([c],[[],[c]]))).sum=l.length:=fun l=>by
  induction l with
  |nil=>rfl
  |cons a l f=>rw[eU,CZ,f,gD];show 1+_=_;lia
 rw[b,Kr,d,<- (qU e g).length_eq,cL];show 0+_=_;lia
theorem Qv:∀ {chs:List (List Cell×List (List Cell))},(∀ ch∈chs,ch.2.length<=2^ch.1.length)->0<=tW chs/\tW chs<=((2^(chs.map fun ch=>ch.1.length).sum:Nat):Int)
 |[],_=>⟨by decide,by decide⟩
 |ch::chs,h=>by
  obtain⟨a,i1⟩:=Qv (chs:=chs) fun c b=>h c (eO _ b)
  have h1:=h ch cV;have e:tW (ch::chs)=(ch.2.length:Int)*tW chs:=by
   unfold tW;rw[zj,tH chs (1*_),Il];rfl
  rw[e,eU,CZ,Nat.pow_add,Int.natCast_mul];exact⟨Int.mul_nonneg (HF _) a,Int.mul_le_mul (by lia) i1 a (HF _)⟩
theorem W2(v:Vw zs w)(b:∀ p∈aU zs w,p.length<=12):∀ ch∈chL zs w,ch.2.length<=2^ch.1.length:=fun ch a=>by
 unfold chL at a;rcases cZ.mp a with rfl|a
 ·unfold iI;split<;>exact Hr rfl
 rcases cG.mp a with a|a
 ·obtain⟨p,d,rfl⟩:=bV.mp a;show(fW zs w p).length<=2^p.length;rw[jZ.length_eq];exact sY _ _ _
 ·obtain⟨c,_,rfl⟩:=bV.mp a;exact Hr rfl
theorem Qq{chs:List (List Cell×List (List Cell))}(c:∀ ch∈chs,∀ l∈ch.2,l.length<=ch.1.length)(b:∀ ch∈chs,ch.2.length<=2^ch.1.length)(d:(chs.map fun ch=>ch.1.length).sum<=36)(n:Int):0<=xu (jN [1] chs) n/\xu (jN [1] chs) n<2^64:=by
 have a:Nn (jN [1] chs):=Xl (Nn.of fun x e=>by rw[cN.mp e];decide);have f:tot (jN [1] chs)=tW chs:=by rw[Qt c];exact Il _
 obtain⟨_,p1⟩:=Qv b;have p2:2^(chs.map fun ch=>ch.1.length).sum<=2^36:=Om (by decide) d;by_cases h:0<=n
 ·obtain⟨k,rfl⟩:=O9 h;rw[Wa];have:=a2J a k;have:=a k;lia
 ·unfold xu;rw[aJ (by lia)];exact⟨by decide,by decide⟩
end
def setC(c:Cell)(b:Bool)(ch:List Cell×List (List Cell)):List Cell×List (List Cell):=if c∈ch.1 then(ch.1,ch.2.filter fun l=>decide (decide (c∈l)=b)) else ch
theorem Sx{c:Cell}{b:Bool}{ch:List Cell×List (List Cell)}(h:Dr ch):Dr (setC c b ch):=by
 unfold setC;by_cases a:c∈ch.1
 ·rw[aL a];exact⟨h.1,fun l d=>h.2.1 l (cF.mp d).1,dU (lV _ _) h.2.2⟩
 ·rw[aJ a];exact h
theorem a1I{c:Cell}{b:Bool}{chs:List (List Cell×List (List Cell))}(h:∀ ch∈chs,∀ l∈ch.2,l.length<=ch.1.length):∀ ch∈chs.map (setC c b),∀ l∈ch.2,l.length<=ch.1.length:=fun ch g l a=>by
 obtain⟨d,e,rfl⟩:=bV.mp g;unfold setC at a ⊢;by_cases f:c∈d.1
 ·rw[aL f] at a ⊢;exact h d e l (cF.mp a).1
 ·rw[aJ f] at a ⊢;exact h d e l a
theorem a1H{c:Cell}{b:Bool}{chs:List (List Cell×List (List Cell))}(h:∀ ch∈chs,ch.2.length<=2^ch.1.length):∀ ch∈chs.map (setC c b),ch.2.length<=2^ch.1.length:=fun ch f=>by
 obtain⟨d,a,rfl⟩:=bV.mp f;unfold setC;by_cases e:c∈d.1
 ·rw[aL e];exact dU (lV _ _) (h d a)
 ·rw[aJ e];exact h d a
theorem Sy{c:Cell}{b:Bool}{chs:List (List Cell×List (List Cell))}:((chs.map (setC c b)).map fun ch=>ch.1.length)=chs.map fun ch=>ch.1.length:=by
 rw[qH];refine Hy fun d _=>?_
 show(setC c b d).1.length=_;unfold setC;split<;>rfl
theorem W3{zs:List Str}{w:Nat}(v:Vw zs w)(a:∀ p∈aU zs w,p.length<=12):∀ ch∈chL zs w,∀ l∈ch.2,l.length<=ch.1.length:=fun ch b=>((G8 v a).1 ch b).2.1
def yh(K:ao):Sp:=fun vs H Q _=>∃(p:Addr)(v:V)(b:Bool)(c:Cell)(chs:List (List Cell×List (List Cell))),vs=[.ref p,v,.bl b]/\Ls K H p (chs.map chD)/\Den K H v (aD c)/\(∀ ch∈chs,Dr ch)/\chs.length<=100/\∀ q H',Fr K H H' q ((chs.map (setC c b)).map chD)->Q (.ref q) H'
section
variable{P:Program}{w:World}{K:ao}{mg:Str->Option Value}{base:Heap}{Z:Adr}
theorem a1A{K:ao}{H e:Hp}{d:Type}{enc:d->Dt}:∀ {vs:List V} {xs:List d},bw K H vs (xs.map enc)->iD (fun a v _=>Den K H v (enc a)) e vs xs:=by
 intro vs xs b
 induction xs generalizing vs with
 |nil=>cases b;exact .nil
 |cons c cs f=>cases b with|cons h t=>exact .cons h (f t)
theorem Mx{f:Addr}{ai:FuncData} (F:Fun K "settled" "settled" xW f ai) (T:Txt K mg Z):cB P w K mg base (CXE P w) 1 f ai ["found","cell","stone"] (yh K):=by
 refine F.rok uE (fun aU H Q E h=>?_) (fun cdv A outer s H aU Q E an h=>?_)
 ·obtain⟨p,v,b,c,C,rfl,_⟩:=h;rfl
 ·obtain⟨p,v,b,c,C,rfl,aO,ae,aN,aV,aP⟩:=h;have aQ:=lA an;have ao:=M6 an;refine⟨_,(au (bK (i:=3) uE.nd rfl (Or.inl rfl) (bU ak)) (au (fu gQ rfl (bN (K:=K) (rv 0)) (cY (i:=4) uE.nd rfl (Or.inl rfl)) (aB (bO (aZ (mG.or (Ey (K:=K) ao)) (rv 1) (gq (gA (K:=K)) (rv 4) aG) (by rfl)) (aB (bJ (nZ (K:=K) lU tY tZ gV (rv 3) (aj (eG (aj (gq (gA (K:=K)) (rv 4) aG) (aj (lJ (by rfl) rfl (bN (K:=K) (gq (gA (K:=K)) (rv 4) aG)) (fun _ _ _=>(kO (aZ (fj.or (f9 (K:=K) aQ)) (K5 (mG.or (Ey (K:=K) ao)) (rv 2) (rv 0) (by rfl)) (rv 3) (bC _)))) (fun _ _ _=>(rv 0))) ak))) ak)))) (aB (bJ (nZ (K:=K) lU tY tZ gV (rv 3) (aj (rv 4) ak))))))) (aB (aY (rv 3))))),?_⟩;refine aF (fun zzs H1=>∃ q:Addr,H q=none/\Same H H1/\H1 q=some (.lst [])/\zzs=[zzR p,some v,some (.bl b),zzR q,zzN]) (fun R O=>?_) ?_
  ·exact⟨by decide,fun q L=>O _ _ ⟨q,L,Same.put L,aC,rfl⟩⟩
  rintro zzs H1 ⟨q,L,s1,aH,rfl⟩;obtain⟨ap,ah,ac⟩:=aO;have aR:ap.length=C.length:=by rw[ac.length,bf]
  refine aF (fun zzs H2=>∃(k:List V)(B:Option V),Same H H2/\H2 q=some (.lst k)/\bw K (del q H2) k ((C.map (setC c b)).map chD)/\zzs=[zzR p,some v,some (.bl b),zzR q,B]) (fun R O=>?_) ?_
  ·refine⟨_,rfl,p,rfl,⟨_,SqL.of (s1 _ _ ah)⟩,?_⟩;refine eZ (K:=K) (xs:=ap) (fun i zzs H2=>∃(k:List V)(B:Option V),Same H H2/\H2 q=some (.lst k)/\bw K (del q H2) k (((C.take i).map (setC c b)).map chD)/\zzs=[zzR p,some v,some (.bl b),zzR q,B])
    ⟨[],none,s1,aH,.nil,rfl⟩ (fun i zzs H2 _ M=>by obtain⟨_,_,g,_⟩:=M;exact SqL.of (g _ _ ah)) (fun i u zzs H2 aK M=>?_) (fun zzs H2 M=>?_)
   ·obtain⟨k,B,m,D,G,rfl⟩:=M;obtain⟨d,ag,I⟩:=ac.get aK;rw[dF] at ag;obtain⟨z,af,rfl⟩:=jP.mp ag;have aA:=gC af;obtain⟨aW,a0,aX⟩:=aN z aA;obtain⟨t,a,e,xs,ys,rfl,W,al,ab,am,az⟩:=Lx I;have a1:k.length<=100:=by
     have:k.length=(C.take i).length:=by rw[G.length,bf,bf]
     rw[this,u6];lia
    have tk:C.take (i+1)=C.take i++[z]:=by rw[lG,af];rfl
    have fin:∀(r:V)(x:Hp),Same H2 x->Den K (del q x) r (chD (setC c b z))->∃(ax:List V)(B:Option V),Same H (upd x q (.lst (k++[r])))/\(upd x q (.lst (k++[r]))) q=some (.lst ax)/\bw K (del q (upd x q (.lst (k++[r])))) ax (((C.take (i+1)).map (setC c b)).map chD)/\([zzR p,some v,some (.bl b),zzR q,zzR t]:L2.St)=[zzR p,some v,some (.bl b),zzR q,B]:=fun r x y aD=>by
     refine⟨k++[r],_,(SameBut.refl q _).put.of (m.trans y) L,aC,?_,rfl⟩;rw[tk,iz,iz];exact FQ G y aD
    have av:∀ {J:Hp},Same H J->Same H (del q J):=fun g=>g.into L
    refine⟨_,rfl,_,rfl,.inr (.inl ⟨t,_,_,_,rfl,rfl,SqT.of (m _ _ W),iG,.inr (Ke (ae.mono m) (Den.mono m (.lst al ab)) ⟨_,rfl,?_⟩)⟩)⟩;refine cP (fun h1=>?_) (fun h1=>?_)
    ·have S:=dj h1;have es:setC c b z=(z.1,z.2.filter fun l=>decide (decide (c∈l)=b)):=aL S;refine⟨_,rfl,.inl ⟨rfl,_,SqL.of D⟩,_,rfl,.inr (.inl ⟨t,_,_,_,rfl,rfl,SqT.of (m _ _ W),iG,?_⟩)⟩;refine⟨_,rfl,.inr (.inl ⟨t,_,_,_,rfl,rfl,SqT.of (m _ _ W),dX (j:=1) rfl,?_⟩)⟩;refine⟨e,rfl,⟨_,m.seq am⟩,Af (R:=fun(l:List Cell) v _=>Den K H v (xM l)) (R2:=fun(l:List Cell) v _=>Den K H v (xM l)) (xs:=z.2) (fun _ _ _ _ _ h=>h) (fun _ _ _ _ _ h=>h) (d8 (m.seq am)) (a1A az) (small (by lia)) (fun l=>decide (decide (c∈l)=b)) id (fun l aM u x y I J N=>?_) (fun l aM _ u x y I J N=>⟨_,rfl,N _ _ (Same.refl _) I⟩) (fun ay x y aa n U=>?_)⟩
     ·obtain⟨ad,rfl⟩:∃ ad,u=.ref ad:=by cases I;exact⟨_,rfl⟩
      refine⟨_,rfl,_,rfl,.inr (Ke (ae.mono (m.trans y)) (I.mono (m.trans y)) ⟨_,rfl,.inl ⟨rfl,_,rfl,?_⟩⟩)⟩;have aE:decide (V.bl (decide (c∈l))=V.bl b)=decide (decide (c∈l)=b):=by
       rw[vV];exact⟨fun r=>by injection r,fun r=>by rw[r]⟩
      rw[aE];exact N _ (Same.refl _)
     ·rw[List.map_id] at aa;refine⟨sz rfl,fun aw X=>?_⟩;have aq:=Same.put (o:=.lst ay) U;have ar:=Same.put (o:=.tup [V.ref a,V.ref n]) X;have Y:=y.trans (aq.trans ar);dsimp only[fO];refine pq (K:=K) (Y _ _ D) (by lia) ?_;refine fin _ _ Y ?_;rw[es];have aS:aw≠q:=fun r=>by rw[r,(y.trans aq) _ _ D] at X;cases X
      have aT:n≠q:=fun r=>by rw[r,y _ _ D] at U;cases U
      have as:Same H (del q (upd (upd x n (.lst ay)) aw (.tup [V.ref a,V.ref n]))):=av (m.trans Y);refine Den.tup (by rw[mX aS];exact aC) (.cons (Den.mono as (.lst al ab)) (.cons (.lst (SqL.of (show del q _ n=_ by rw[mX aT];exact ar _ _ aC)) ?_) .nil));exact(aa.imp (R':=fun(l:List Cell) v J=>Den K J v (xM l)) fun l v h=>h.mono as).a4K fun l v h=>h
    ·have S:=iY h1;have es:setC c b z=z:=aJ S;refine⟨_,rfl,.inl ⟨rfl,_,SqL.of D⟩,_,rfl,?_⟩;dsimp only[fO];refine pq (K:=K) D (by lia) ?_;exact fin _ _ (Same.refl _) (by rw[es];exact I.mono (av m))
   ·obtain⟨k,B,m,D,G,rfl⟩:=M;rw[aR,lF] at G;exact O _ _ ⟨k,B,m,D,G,rfl⟩
  rintro zzs H2 ⟨k,B,s2,aI,G,rfl⟩;exact⟨_,rfl,aP q _ ⟨s2,L,k,aI,G.mono Aj⟩⟩
end
noncomputable def j5(zs:List Str)(w:Nat)(n:Int):Int:=xu (jN [1] (chL zs w)) n
noncomputable def GZ(zs:List Str)(w:Nat)(c:Cell)(n:Int):Int:=xu (jN [1] ((chL zs w).map (setC c true))) n
noncomputable def Uk(zs:List Str)(w:Nat)(c:Cell)(n:Int):Int:=(Nat.gcd (GZ zs w c n).toNat (j5 zs w n).toNat:Int)
def a2j:Sp:=fun vs H Q _=>∃ a b:Nat,vs=[.int a,.int b]/\Q (.int (Nat.gcd a b)) H
def BZ(K:ao)(C NC TG IM:Addr):Sp:=fun vs H Q E=>∃(x:Addr)(n:Int)(v:V)(zs:List Str)(w:Nat)(c:Cell),vs=[.ref x,.int n,v]/\cI C H x zs w/\Den K H v (aD c) /\
 (aK zs w c=false->∀ H',Same H H'->E (.ref NC) none H')/\(aK zs w c=true->(∃ p∈aU zs w,12<p.length)->∀ H',Same H H'->E (.ref TG) none H') /\
 (aK zs w c=true->(∀ p∈aU zs w,p.length<=12)->j5 zs w n=0->∀ H',Same H H'->E (.ref IM) none H') /\
 (aK zs w c=true->(∀ p∈aU zs w,p.length<=12)->j5 zs w n≠0->∀ t H',Same H H'->H' t=some (.tup [.int (GZ zs w c n / Uk zs w c n),.int (j5 zs w n / Uk zs w c n)])->Q (.ref t) H')
theorem Z5{zs:List Str}{w:Nat}(v:Vw zs w)(a:∀ p∈aU zs w,p.length<=12)(n:Int):0<=j5 zs w n/\j5 zs w n<2^64:=
 Qq (W3 v a) (W2 v a) (by rw[Lg v.le v.w6];exact fJ v) n
theorem a4n{zs:List Str}{w:Nat}(v:Vw zs w)(a:∀ p∈aU zs w,p.length<=12)(c:Cell)(n:Int):0<=GZ zs w c n/\GZ zs w c n<2^64:=
 Qq (a1I (W3 v a)) (a1H (W2 v a)) (by rw[Sy,Lg v.le v.w6];exact fJ v) n
section
variable{P:Program}{w:World}{K:ao}{mg:Str->Option Value}{base:Heap}{Z:Adr}
theorem a3r{f:Addr}{j:FuncData} (F:Fun K "common_divisor" "common_divisor" kh f j) (T:Txt K mg Z):cB P w K mg base (CXE P w) 1 f j ["one","other"] a2j:=by
 refine F.rok iu (fun t H Q E h=>?_) (fun cdv A outer s H t Q E p h=>?_)
 ·obtain⟨a,b,rfl,_⟩:=h;rfl
 ·obtain⟨a,b,rfl,o⟩:=h;have q:=lA p;refine⟨_,(au (Bu gQ (aZ (Fe.or (Ez (K:=K) q)) (rv 1) aG (bC _)) (au (bK (i:=2) iu.nd rfl (Or.inl rfl) (lC MJ (rv 0) (rv 1))) (au (bK (i:=0) iu.nd rfl (Or.inl rfl) (rv 1)) (aB (bK (i:=1) iu.nd rfl (Or.inl rfl) (rv 2)))))) (aB (aY (rv 0)))),?_⟩;refine aF (fun zzs H1=>∃ k c:Option V,H1=H/\zzs=[zzI (Nat.gcd a b),k,c]) (fun R n=>?_) ?_
  ·refine⟨fun m zzs H'=>H'=H/\∃(x y:Nat)(c:Option V),m=y/\Nat.gcd x y=Nat.gcd a b/\zzs=[zzI x,zzI y,c],⟨b,rfl,a,b,none,rfl,rfl,rfl⟩,?_⟩;rintro m zzs H' ⟨rfl,x,y,c,l,d,rfl⟩;refine⟨_,rfl,.inl ⟨rfl,_,rfl,?_⟩⟩;rw[eY];refine cP (fun h1=>?_) (fun h1=>?_)
   ·have r:¬((y:Int)=0):=iY (by simpa only[jJ] using h1);refine⟨fun g e=>e=H'/\∃ c:Option V,g=[zzI y,zzI ((x%y:Nat):Int),c],fun g e h=>?_,?_⟩
    ·obtain⟨rfl,c,rfl⟩:=h;refine⟨x%y,by rw[l];exact Nat.mod_lt _ (by lia),rfl,y,x%y,c,rfl,?_,rfl⟩;rw[<- d,Nat.gcd_comm x y,Nat.gcd_rec y x,Nat.gcd_comm]
    ·refine⟨_,rfl,_,rfl,_,_,rfl,rfl,(by show(0:Int)<y;lia),?_⟩;refine⟨_,rfl,_,rfl,?_⟩;exact⟨rfl,_,by rw[Int.natCast_emod];rfl⟩
   ·have r:(y:Int)=0:=dj (by simpa only[ou] using h1);have:y=0:=by lia
    subst this;rw[Nat.gcd_zero_right] at d;exact n _ _ ⟨_,_,rfl,by rw[<- d]⟩
  rintro zzs H1 ⟨k,c,rfl,rfl⟩;exact⟨_,rfl,o⟩
theorem V4{f:Addr}{C:FuncData} (F:Fun K "chance" "chance" Bv f C) (T:Txt K mg Z) (L:Df P w K mg base 2 "is_closed" ["view","cell"] (gJ K Z.View)) (ab:Df P w K mg base 6 "choices" ["view"] (tK K Z.View Z.TooGreat)) (I:Df P w K mg base 2 "number_of" ["found","stones"] (YF K)) (ad:Df P w K mg base 1 "settled" ["found","cell","stone"] (yh K)) (ac:Df P w K mg base 1 "common_divisor" ["one","other"] a2j) :
  cB P w K mg base (CXE P w) 7 f C ["view","stones","cell"] (BZ K Z.View Z.NoCell Z.TooGreat Z.Impossible):=by
 refine F.vq pC (fun am H Q E h=>?_) (fun cdv A outer s H am Q E b h=>?_)
 ·obtain⟨x,n,v,zs,w,c,rfl,_⟩:=h;rfl
 ·obtain⟨x,n,v,zs,w,c,rfl,j,B,M,N,O,Y⟩:=h;have G:=v8 b;have aa:=lA b;refine⟨_,(au (bO (RT.nox (jf (gY (aQ L b rfl aW (aj (rv 0) (aj (rv 2) ak)))))) (aB (fM T.jF rfl T.mR G (aj bx ak))) aO) (au (bK (i:=3) pC.nd rfl (Or.inl rfl) (aQ ab b rfl cg (aj (rv 0) ak))) (au (RS.nox (bK (i:=4) pC.nd rfl (Or.inl rfl) (aQ I b rfl aW (aj (rv 3) (aj (rv 1) ak))))) (au (bO (RT.nox (aZ (fj.or (f9 (K:=K) aa)) (rv 4) aG (bC _))) (aB (fM T.iW rfl T.lZ G (aj bx ak))) aO) (au (RS.nox (bK (i:=5) pC.nd rfl (Or.inl rfl) (aQ I b rfl aW (aj (aQ ad b rfl aW (aj (rv 3) (aj (rv 2) (aj qI ak)))) (aj (rv 1) ak))))) (au (RS.nox (bK (i:=6) pC.nd rfl (Or.inl rfl) (aQ ac b rfl aW (aj (rv 5) (aj (rv 4) ak))))) (aB (RS.nox (aY (eG (aj (lC JR (rv 5) (rv 6)) (aj (lC JR (rv 4) (rv 6)) ak)))))))))))),?_⟩;refine aF (fun zzs H1=>aK zs w c=true/\Same H H1/\zzs=[zzR x,zzI n,some v,zzN,zzN,zzN,zzN]) (fun R a=>?_) ?_
  ·refine⟨_,rfl,_,rfl,x,v,zs,w,c,rfl,j,B,?_⟩;refine⟨_,rfl,?_⟩;exact cP (fun h1=>⟨by decide,M (by simpa only[jJ] using h1) _ (Same.refl _)⟩) (fun h1=>a _ _ ⟨by simpa only[ou] using h1,Same.refl _,rfl⟩)
  rintro zzs H1 ⟨r,s1,rfl⟩;refine aF (fun zzs H2=>∃ q:Addr,(∀ p∈aU zs w,p.length<=12)/\Same H H2/\Ls K H2 q ((chL zs w).map chD)/\zzs=[zzR x,zzI n,some v,zzR q,zzN,zzN,zzN]) (fun R a=>?_) ?_
  ·exact⟨_,rfl,x,zs,w,rfl,j.mono s1,fun W H' s'=>N r W _ (s1.trans s'),fun e q H2 g=>a _ _ ⟨q,e,s1.trans g.same,g.ls,rfl⟩⟩
  rintro zzs H2 ⟨q,e,s2,J,rfl⟩;obtain⟨m,o⟩:=G8 j.vw e;refine aF (fun zzs k=>Same H k/\Ls K k q ((chL zs w).map chD)/\zzs=[zzR x,zzI n,some v,zzR q,zzI (j5 zs w n),zzN,zzN]) (fun R a=>?_) ?_
  ·exact⟨_,rfl,_,rfl,q,n,chL zs w,rfl,J,m,o,fun H' s'=>a _ _ ⟨s2.trans s',J.mono s',rfl⟩⟩
  rintro zzs k ⟨u,ae,rfl⟩;refine aF (fun zzs y=>y=k/\j5 zs w n≠0/\zzs=[zzR x,zzI n,some v,zzR q,zzI (j5 zs w n),zzN,zzN]) (fun R a=>?_) ?_
  ·refine⟨_,rfl,.inl ⟨rfl,_,rfl,?_⟩⟩;rw[eY];refine cP (fun h1=>⟨by decide,O r e (dj h1) _ u⟩) (fun h1=>a _ _ ⟨rfl,iY h1,rfl⟩)
  rintro zzs y ⟨rfl,X,rfl⟩;obtain⟨al,ap⟩:=Z5 j.vw e n;obtain⟨ai,ao⟩:=a4n j.vw e c n;refine aF (fun zzs l=>Same H l/\zzs=[zzR x,zzI n,some v,zzR q,zzI (j5 zs w n),zzI (GZ zs w c n),zzN]) (fun R a=>?_) ?_
  ·refine⟨_,rfl,_,rfl,q,v,true,c,chL zs w,rfl,ae,B.mono u,m,o,fun ag l g=>?_⟩;refine⟨_,rfl,ag,n,_,rfl,g.ls,fun an S=>?_,by rw[bf];exact o,fun H' s'=>a _ _ ⟨u.trans (g.same.trans s'),rfl⟩⟩;obtain⟨d,U,rfl⟩:=bV.mp S;exact Sx (m d U)
  rintro zzs l ⟨ah,rfl⟩;refine aF (fun zzs z=>z=l/\zzs=[zzR x,zzI n,some v,zzR q,zzI (j5 zs w n),zzI (GZ zs w c n),zzI (Uk zs w c n)]) (fun R a=>?_) ?_
  ·refine⟨_,rfl,_,rfl,(GZ zs w c n).toNat,(j5 zs w n).toNat,?_,a _ _ ⟨rfl,rfl⟩⟩;rw[Ou ai,Ou al];rfl
  rintro zzs z ⟨rfl,rfl⟩;have D:0<Uk zs w c n/\Uk zs w c n<2^64:=by
   unfold Uk;have h1:=Nat.gcd_pos_of_pos_right (GZ zs w c n).toNat (n:=(j5 zs w n).toNat) (by lia);have h2:=Nat.gcd_le_right (GZ zs w c n).toNat (n:=(j5 zs w n).toNat) (by lia);lia
  refine⟨_,rfl,_,rfl,_,_,rfl,rfl,D,_,rfl,_,rfl,_,_,rfl,rfl,D,sz rfl,fun t af=>?_⟩;exact Y r e X t _ (ah.and af) aC
end
def cH(zs:List Str)(w:Nat)(c:Cell)(b:Bool):Prop:=∃ ch∈(chL zs w).map (setC c b),ch.2=[]
noncomputable def layW(zs:List Str)(w:Nat)(c:Cell)(b:Bool):List Cell:=((chL zs w).map (setC c b)).flatMap fun ch=>ch.2.headD []
def SQ(K:ao):Sp:=fun vs H Q _=>∃(p:Addr)(chs:List (List Cell×List (List Cell))),vs=[.ref p]/\Ls K H p (chs.map chD)/\(∀ ch∈chs,Dr ch)/\chs.length<=100/\(chs.map fun ch=>ch.1.length).sum<=36 /\
 ((∃ ch∈chs,ch.2=[])->∀ H',Same H H'->Q .non H')/\((¬∃ ch∈chs,ch.2=[])->∀ q H' ds,Fr K H H' q (ds.map aD)->ds.Perm (chs.flatMap fun ch=>ch.2.headD [])->Asc ds->Q (.ref q) H')
def oO(K:ao)(H H':Hp)(v:V)(zs:List Str)(w:Nat)(c:Cell)(b:Bool):Prop:=(cH zs w c b/\v=.non)\/(¬cH zs w c b/\∃(q:Addr)(ds:List Cell),v=.ref q/\H q=none/\Ls K H' q (ds.map aD)/\ds.Perm (layW zs w c b)/\Asc ds)
theorem oO.mono{K:ao}{H a d:Hp}{v:V}{zs:List Str}{w:Nat}{c:Cell}{b:Bool}(h:oO K H a v zs w c b)(s:Same a d):oO K H d v zs w c b:=by
 rcases h with h|⟨h,q,ds,e,n,l,r⟩
 ·exact .inl h
 ·exact .inr ⟨h,q,ds,e,n,l.mono s,r⟩
theorem oO.non{K:ao}{H d:Hp}{v:V}{zs:List Str}{w:Nat}{c:Cell}{b:Bool}(h:oO K H d v zs w c b):decide (v=V.non)=true↔cH zs w c b:=by
 rw[iw];rcases h with⟨h,e⟩|⟨h,q,_,e,_⟩
 ·exact⟨fun _=>h,fun _=>e⟩
 ·exact⟨fun a=>(by rw[e] at a;cases a),fun a=>absurd a h⟩
def FJ(C NC TG IM:Addr)(zs:List Str)(w:Nat)(c:Cell)(H:Hp)(E:XK):Prop:=
 (aK zs w c=false->∀ H',Same H H'->E (.ref NC) none H')/\(aK zs w c=true->(∃ p∈aU zs w,12<p.length)->∀ H',Same H H'->E (.ref TG) none H') /\
 (aK zs w c=true->(∀ p∈aU zs w,p.length<=12)->cH zs w c false->cH zs w c true->∀ H',Same H H'->E (.ref IM) none H')
def Ny(K:ao)(C NC TG IM:Addr):Sp:=fun vs H Q E=>∃(x:Addr)(v:V)(zs:List Str)(w:Nat)(c:Cell),vs=[.ref x,v]/\cI C H x zs w/\Den K H v (aD c)/\FJ C NC TG IM zs w c H E /\
 (aK zs w c=true->(∀ p∈aU zs w,p.length<=12)->¬(cH zs w c false/\cH zs w c true)->∀ t v0 v1 H',Same H H'->H' t=some (.tup [v0,v1])->oO K H H' v0 zs w c false->oO K H H' v1 zs w c true->(∀ q:Addr,v0=.ref q->v1≠.ref q)->Q (.ref t) H')
open Classical in
noncomputable def a2n(zs:List Str)(w:Nat)(c:Cell):Str:=if cH zs w c false then "stone" else if cH zs w c true then "none" else "open"
def YJ(K:ao)(C NC TG IM:Addr):Sp:=fun vs H Q E=>∃(x:Addr)(v:V)(zs:List Str)(w:Nat)(c:Cell),vs=[.ref x,v]/\cI C H x zs w/\Den K H v (aD c)/\FJ C NC TG IM zs w c H E /\
 (aK zs w c=true->(∀ p∈aU zs w,p.length<=12)->¬(cH zs w c false/\cH zs w c true)->∀ H',Same H H'->Q (.str (a2n zs w c)) H')
def YH(K:ao)(C NC TG IM NO:Addr):Sp:=fun vs H Q E=>∃(x:Addr)(v:V)(zs:List Str)(w:Nat)(c:Cell),vs=[.ref x,v]/\cI C H x zs w/\Den K H v (aD c)/\FJ C NC TG IM zs w c H E /\
 (aK zs w c=true->(∀ p∈aU zs w,p.length<=12)->¬(cH zs w c false/\cH zs w c true)->cH zs w c false\/cH zs w c true->∀ H',Same H H'->E (.ref NO) none H') /\
 (aK zs w c=true->(∀ p∈aU zs w,p.length<=12)->¬cH zs w c false->¬cH zs w c true->∀ t q0 q1 d0 d1 H',Same H H'->H' t=some (.tup [.ref q0,.ref q1])->H q0=none->H q1=none->q0≠q1->Ls K H' q0 (d0.map aD)->Ls K H' q1 (d1.map aD)->d0.Perm (layW zs w c false)->Asc d0->d1.Perm (layW zs w c true)->Asc d1->Q (.ref t) H')
section
variable{P:Program}{w:World}{K:ao}{mg:Str->Option Value}{base:Heap}{Z:Adr}
theorem Jp{chs:List (List Cell×List (List Cell))}(h:∀ ch∈chs,Dr ch):(chs.flatMap fun ch=>ch.2.headD []).length<=(chs.map fun ch=>ch.1.length).sum:=by
 induction chs with
 |nil=>exact bG _
 |cons ch chs b=>
  rw[zc,cL,eU,CZ];have h1:=b fun c a=>h c (eO _ a)
  have h2:(ch.2.headD []).length<=ch.1.length:=by
   cases e:ch.2 with
   |nil=>exact nQ _
   |cons l ls=>exact(h ch cV).2.1 l (by rw[e];exact cV)
  lia
theorem Xo{f:Addr}{af:FuncData} (F:Fun K "first_laying" "first_laying" nu f af) (T:Txt K mg Z):cB P w K mg base (CXE P w) 1 f af ["found"] (SQ K):=by
 refine F.rok lN (fun aR H Q E h=>?_) (fun cdv A outer s H aR Q E aL h=>?_)
 ·obtain⟨p,n,rfl,_⟩:=h;rfl
 ·obtain⟨p,n,rfl,aJ,O,a0,az,aI,aK⟩:=h;have ai:=lA aL;refine⟨_,(au (bK (i:=1) lN.nd rfl (Or.inl rfl) (bU ak)) (au (fu gQ rfl (bN (K:=K) (rv 0)) (cY (i:=2) lN.nd rfl (Or.inl rfl)) (au (bO (aZ (fj.or (f9 (K:=K) ai)) (aX (gn (K:=K)) rfl T.fH dw (aj (gq (gA (K:=K)) (rv 2) aG) ak)) aG (bC _)) (aB (aY yR)) aO) (aB (bJ (nZ (K:=K) lU Zr Zt (WD (K:=K)) (rv 1) (aj (gq (gA (K:=K)) (gq (gA (K:=K)) (rv 2) aG) aG) ak)))))) (aB (aY (aX (Qg (K:=K) ai) rfl T.qR sE (aj (rv 1) ak)))))),?_⟩;refine aF (fun zzs H1=>∃ q:Addr,H q=none/\Same H H1/\H1 q=some (.lst [])/\zzs=[zzR p,zzR q,zzN]) (fun R M=>?_) ?_
  ·exact⟨by decide,fun q J=>M _ _ ⟨q,J,Same.put J,aC,rfl⟩⟩
  rintro zzs H1 ⟨q,J,s1,ax,rfl⟩;obtain⟨al,ae,X⟩:=aJ;have aP:al.length=n.length:=by rw[X.length,bf]
  refine aF (fun zzs H2=>∃(m:List V)(x:Option V),Same H H2/\H2 q=some (.lst m)/\bw K H2 m ((n.flatMap fun k=>k.2.headD []).map aD)/\(¬∃ k∈n,k.2=[])/\zzs=[zzR p,zzR q,x]) (fun R M=>?_) ?_
  ·refine⟨_,rfl,p,rfl,⟨_,SqL.of (s1 _ _ ae)⟩,?_⟩;refine eZ (K:=K) (xs:=al) (fun i zzs H2=>∃(m:List V)(x:Option V),Same H H2/\H2 q=some (.lst m)/\bw K H2 m (((n.take i).flatMap fun k=>k.2.headD []).map aD)/\(¬∃ k∈n.take i,k.2=[])/\zzs=[zzR p,zzR q,x])
    ⟨[],none,s1,ax,.nil,(fun⟨_,h,_⟩=>by cases h),rfl⟩ (fun i zzs H2 _ C=>by obtain⟨_,_,g,_⟩:=C;exact SqL.of (g _ _ ae)) (fun i u zzs H2 aH C=>?_) (fun zzs H2 C=>?_)
   ·obtain⟨m,x,o,z,v,B,rfl⟩:=C;obtain⟨d,ad,ar⟩:=X.get aH;rw[dF] at ad;obtain⟨k,ac,rfl⟩:=jP.mp ad;have ab:=gC ac;obtain⟨aU,aM,a1⟩:=O k ab;obtain⟨t,a,e,xs,ys,rfl,aN,a2,aS,ag,G⟩:=Lx ar;have tk:n.take (i+1)=n.take i++[k]:=by rw[lG,ac];rfl
    have aa:∀ {Q:VK},Q (.ref e) H2->rIx K (.ref t) (.int 1) H2 Q:=fun q=>.inr (.inl ⟨t,_,_,_,rfl,rfl,SqT.of (o _ _ aN),dX (j:=1) rfl,q⟩)
    refine aF (fun zzs Y=>H2=Y/\k.2≠[]/\zzs=[zzR p,zzR q,zzR t]) (fun aT aA=>?_) ?_
    ·refine⟨_,rfl,aa ?_⟩;dsimp only[fO];refine xJ (Den.mono o (.lst ag G)) (.inl ⟨rfl,_,rfl,?_⟩);rw[eY,bf];refine cP (fun h1=>?_) (fun h1=>?_)
     ·have h1:=dj h1;exact aI ⟨k,ab,KD.mp (by lia)⟩ _ o
     ·have h1:=iY h1;exact aA _ _ ⟨rfl,fun D=>h1 (by rw[D];rfl),rfl⟩
    rintro zzs Y ⟨rfl,ah,rfl⟩;obtain⟨r,I,L⟩:∃ r I,k.2=r::I:=by
     cases as:k.2 with
     |nil=>exact absurd as ah
     |cons r I=>exact⟨r,I,rfl⟩
    rw[L] at G;obtain⟨U,am,rfl⟩:∃ U am,ys=U::am:=by cases G;exact⟨_,_,rfl⟩
    have aq:Den K H U (xM r):=by cases G with|cons h _=>exact h
    cases aq with
    |@lst b an _ aE W=>
     have aW:r.length<=k.1.length:=aM r (by rw[L];exact cV);have a4:an.length<=36:=by rw[W.length,bf];lia
     have a3:m.length<=36:=by
      rw[v.length,bf];refine dU (Jp fun c N=>O c (Cp N)) (dU ?_ az);rw[List.map_take];have:=Dj i (n.map fun k=>k.1.length);have av:=congrArg List.sum this;rw[List.sum_append] at av;lia
     refine⟨_,rfl,.inl ⟨rfl,_,SqL.of z⟩,_,rfl,aa (.inl ⟨e,_,_,_,rfl,rfl,o.seq ag,iG,?_⟩)⟩;refine⟨q,b,m,an,rfl,rfl,z,o.seq aE,small (by lia),?_⟩;refine⟨_,_,(SameBut.refl q _).put.of o J,aC,?_,?_,rfl⟩
     ·rw[tk,Cr,iz];have aw:([k].flatMap fun k=>k.2.headD [])=r:=by
       rw[zc,L];simp
      rw[aw];exact((SameBut.refl q _).put.cells z v).append ((SameBut.refl q _).put.cells z (W.mono o))
     ·rw[tk];rintro⟨c,N,D⟩;rcases cG.mp N with y|y
      ·exact B ⟨c,y,D⟩
      ·rw[cN.mp y] at D;exact ah D
   ·obtain⟨m,x,o,z,v,B,rfl⟩:=C;rw[aP,lF] at v B;exact M _ _ ⟨m,x,o,z,v,B,rfl⟩
  rintro zzs H2 ⟨m,x,s2,ay,v,B,rfl⟩;have aV:=Jp O;refine⟨_,rfl,q,m,_,rfl,SqL.of ay,v,by lia,fun l a5 ds S pm ao aQ ap=>?_⟩;exact aK B l _ ds ⟨s2.and S,s2.free S,.new S ao⟩ aQ ap
theorem a0Q{f:Addr}{ab:FuncData} (F:Fun K "both_ways" "both_ways" rB f ab) (T:Txt K mg Z) (al:Df P w K mg base 2 "is_closed" ["view","cell"] (gJ K Z.View)) (aw:Df P w K mg base 6 "choices" ["view"] (tK K Z.View Z.TooGreat)) (ad:Df P w K mg base 1 "settled" ["found","cell","stone"] (yh K)) (ae:Df P w K mg base 1 "first_laying" ["found"] (SQ K)) :
  cB P w K mg base (CXE P w) 7 f ab ["view","cell"] (Ny K Z.View Z.NoCell Z.TooGreat Z.Impossible):=by
 refine F.vq m9 (fun ay H Q E h=>?_) (fun cdv A outer s H ay Q E k h=>?_)
 ·obtain⟨x,v,zs,w,c,rfl,_⟩:=h;rfl
 ·obtain⟨x,v,zs,w,c,rfl,r,M,⟨am,an,ao⟩,av⟩:=h;have ac:=v8 k;have az:=lA k;refine⟨_,(au (bO (RT.nox (jf (gY (aQ al k rfl aW (aj (rv 0) (aj (rv 1) ak)))))) (aB (fM T.jF rfl T.mR ac (aj bx ak))) aO) (au (bK (i:=2) m9.nd rfl (Or.inl rfl) (aQ aw k rfl cg (aj (rv 0) ak))) (au (RS.nox (bK (i:=3) m9.nd rfl (Or.inl rfl) (aQ ae k rfl aW (aj (aQ ad k rfl aW (aj (rv 2) (aj (rv 1) (aj qI ak)))) ak)))) (au (RS.nox (bK (i:=4) m9.nd rfl (Or.inl rfl) (aQ ae k rfl aW (aj (aQ ad k rfl aW (aj (rv 2) (aj (rv 1) (aj qI ak)))) ak)))) (au (bO (RT.nox (Nh (N8 (aZ xG (rv 3) yR (bC _)) (Gx (aZ xG (rv 4) yR (bC _)))))) (aB (fM T.iW rfl T.lZ ac (aj bx ak))) aO) (aB (RS.nox (aY (eG (aj (rv 3) (aj (rv 4) ak))))))))))),?_⟩;refine aF (fun zzs H1=>aK zs w c=true/\H=H1/\zzs=[zzR x,some v,zzN,zzN,zzN]) (fun R e=>?_) ?_
  ·refine⟨_,rfl,_,rfl,x,v,zs,w,c,rfl,r,M,?_⟩;refine⟨_,rfl,?_⟩;exact cP (fun h1=>⟨by decide,am (by simpa only[jJ] using h1) _ (Same.refl _)⟩) (fun h1=>e _ _ ⟨by simpa only[ou] using h1,rfl,rfl⟩)
  rintro zzs H1 ⟨O,rfl,rfl⟩;refine aF (fun zzs H2=>∃ q:Addr,(∀ p∈aU zs w,p.length<=12)/\Same H H2/\Ls K H2 q ((chL zs w).map chD)/\zzs=[zzR x,some v,zzR q,zzN,zzN]) (fun R e=>?_) ?_
  ·exact⟨_,rfl,x,zs,w,rfl,r,fun ar H' s'=>an O ar _ s',fun u q H2 a=>e _ _ ⟨q,u,a.same,a.ls,rfl⟩⟩
  rintro zzs H2 ⟨q,u,s2,af,rfl⟩;obtain⟨L,C⟩:=G8 r.vw u;have aa:∀ b:Bool,(((chL zs w).map (setC c b)).map fun D=>D.1.length).sum<=36:=fun b=>by
   rw[Sy,Lg r.vw.le r.vw.w6];exact fJ r.vw
  have Y:∀ b:Bool,∀ D∈(chL zs w).map (setC c b),Dr D:=fun b D ap=>by
   obtain⟨d,aq,rfl⟩:=bV.mp ap;exact Sx (L d aq)
  refine aF (fun zzs y=>∃ m:V,Same H2 y/\oO K H y m zs w c false/\zzs=[zzR x,some v,zzR q,some m,zzN]) (fun R e=>?_) ?_
  ·refine⟨_,rfl,_,rfl,q,v,false,c,chL zs w,rfl,af,M.mono s2,L,C,fun U B a=>?_⟩;refine⟨U,_,rfl,a.ls,Y false,by rw[bf];exact C,aa false,fun l H' s'=>e _ _ ⟨_,a.same.trans s',.inl ⟨l,rfl⟩,rfl⟩,fun l W H' ds j pm J=>e _ _ ⟨_,a.same.trans j.same,.inr ⟨l,W,ds,rfl,(s2.trans a.same).free j.new,j.ls,pm,J⟩,rfl⟩⟩
  rintro zzs y ⟨m,G,I,rfl⟩;refine aF (fun zzs z=>∃ o:V,Same y z/\oO K H z o zs w c true/\(∀ q:Addr,m=.ref q->o≠.ref q)/\zzs=[zzR x,some v,zzR q,some m,some o]) (fun R e=>?_) ?_
  ·refine⟨_,rfl,_,rfl,q,v,true,c,chL zs w,rfl,af.mono G,M.mono (s2.trans G),L,C,fun U B a=>?_⟩;refine⟨U,_,rfl,a.ls,Y true,by rw[bf];exact C,aa true,fun l H' s'=>e _ _ ⟨_,a.same.trans s',.inl ⟨l,rfl⟩,(fun _ _ g=>by cases g),rfl⟩,fun l W H' ds j pm J=>e _ _ ⟨_,a.same.trans j.same,.inr ⟨l,W,ds,rfl,(s2.trans (G.trans a.same)).free j.new,j.ls,pm,J⟩,(fun aA n g=>?_),rfl⟩⟩;injection g with g;rcases I with⟨_,N⟩|⟨_,aD,_,N,_,⟨_,ax,_⟩,_⟩
   ·rw[N] at n;cases n
   ·rw[N] at n;injection n with n;have:=j.new;rw[g,<- n,a.same _ _ ax] at this;cases this
  rintro zzs z ⟨o,ag,X,ai,rfl⟩;have ah:=s2.trans (G.trans ag);refine aF (fun zzs B=>¬(cH zs w c false/\cH zs w c true)/\z=B/\zzs=[zzR x,some v,zzR q,some m,some o]) (fun R e=>?_) ?_
  ·refine⟨_,rfl,rfl,_,rfl,?_⟩;refine cP (fun h1=>⟨_,rfl,rfl,_,rfl,?_⟩) (fun h1=>e _ _ ⟨fun g=>(by rw[I.non.mpr g.1] at h1;cases h1),rfl,rfl⟩);exact cP (fun h2=>⟨by decide,ao O u (I.non.mp h1) (X.non.mp h2) _ ah⟩) (fun h2=>e _ _ ⟨fun g=>(by rw[X.non.mpr g.2] at h2;cases h2),rfl,rfl⟩)
  rintro zzs B ⟨as,rfl,rfl⟩;exact⟨_,rfl,_,rfl,sz rfl,fun t S=>av O u as t m o _ (ah.and S) aC ((I.mono ag).mono (Same.put S)) (X.mono (Same.put S)) ai⟩
open Classical in
theorem a0X{f:Addr}{y:FuncData} (F:Fun K "sure" "sure" Nm f y) (T:Txt K mg Z) (D:Df P w K mg base 7 "both_ways" ["view","cell"] (Ny K Z.View Z.NoCell Z.TooGreat Z.Impossible)) :
  cB P w K mg base (CXE P w) 8 f y ["view","cell"] (YJ K Z.View Z.NoCell Z.TooGreat Z.Impossible):=by
 refine F.vq Sv (fun I H Q E h=>?_) (fun cdv A outer s H I Q E C h=>?_)
 ·obtain⟨x,v,zs,w,c,rfl,_⟩:=h;rfl
 ·obtain⟨x,v,zs,w,c,rfl,J,z,G,B⟩:=h;refine⟨_,(au (bK (i:=2) Sv.nd rfl (Or.inl rfl) (aQ D C rfl cg (aj (rv 0) (aj (rv 1) ak)))) (au (RS.nox (bO (aZ xG (gq (gA (K:=K)) (rv 2) aG) yR (bC _)) (aB (aY bx)) aO)) (au (RS.nox (bO (aZ xG (gq (gA (K:=K)) (rv 2) aG) yR (bC _)) (aB (aY bx)) aO)) (aB (RS.nox (aY bx)))))),?_⟩;refine aF (fun zzs H1=>∃(t:Addr)(b d:V),aK zs w c=true/\(∀ p∈aU zs w,p.length<=12)/\¬(cH zs w c false/\cH zs w c true)/\Same H H1/\H1 t=some (.tup [b,d])/\oO K H H1 b zs w c false/\oO K H H1 d zs w c true/\(∀ q:Addr,b=.ref q->d≠.ref q)/\zzs=[zzR x,some v,zzR t]) (fun R e=>?_) ?_
  ·exact⟨_,rfl,_,rfl,x,v,zs,w,c,rfl,J,z,G,fun n m o t b d H' s' g k l u=>e _ _ ⟨t,b,d,n,m,o,s',g,k,l,u,rfl⟩⟩
  rintro zzs H1 ⟨t,b,d,n,m,o,s1,g,k,l,u,rfl⟩;have a:=B n m o _ s1;unfold a2n at a;refine aF (fun zzs H2=>¬cH zs w c false/\H1=H2/\zzs=[zzR x,some v,zzR t]) (fun R e=>?_) ?_
  ·refine⟨_,rfl,.inr (.inl ⟨t,_,_,_,rfl,rfl,SqT.of g,iG,rfl,_,rfl,?_⟩)⟩;refine cP (fun h1=>?_) (fun h1=>e _ _ ⟨fun r=>(by rw[k.non.mpr r] at h1;cases h1),rfl,rfl⟩);rw[aL (k.non.mp h1)] at a;exact a
  rintro zzs H2 ⟨h1,rfl,rfl⟩;rw[aJ h1] at a;refine aF (fun zzs H2=>¬cH zs w c true/\H1=H2/\zzs=[zzR x,some v,zzR t]) (fun R e=>?_) ?_
  ·refine⟨_,rfl,.inr (.inl ⟨t,_,_,_,rfl,rfl,SqT.of g,dX (j:=1) rfl,rfl,_,rfl,?_⟩)⟩;refine cP (fun h2=>?_) (fun h2=>e _ _ ⟨fun r=>(by rw[l.non.mpr r] at h2;cases h2),rfl,rfl⟩);rw[aL (l.non.mp h2)] at a;exact a
  rintro zzs H2 ⟨h2,rfl,rfl⟩;rw[aJ h2] at a;exact a
theorem a0V{f:Addr}{z:FuncData} (F:Fun K "shown" "shown" GK f z) (T:Txt K mg Z) (N:Df P w K mg base 7 "both_ways" ["view","cell"] (Ny K Z.View Z.NoCell Z.TooGreat Z.Impossible)) :
  cB P w K mg base (CXE P w) 8 f z ["view","cell"] (YH K Z.View Z.NoCell Z.TooGreat Z.Impossible Z.NotOpen):=by
 refine F.vq Km (fun ab H Q E h=>?_) (fun cdv A outer s H ab Q E u h=>?_)
 ·obtain⟨x,v,zs,w,c,rfl,_⟩:=h;rfl
 ·obtain⟨x,v,zs,w,c,rfl,ac,J,aa,y,M⟩:=h;have L:=v8 u;have ad:=lA u;refine⟨_,(au (bK (i:=2) Km.nd rfl (Or.inl rfl) (aQ N u rfl cg (aj (rv 0) (aj (rv 1) ak)))) (au (bO (RT.nox (Nh (K8 (aZ xG (gq (gA (K:=K)) (rv 2) aG) yR (bC _)) (Gy (aZ xG (gq (gA (K:=K)) (rv 2) aG) yR (bC _)))))) (aB (fM T.pG rfl T.wK L (aj bx ak))) aO) (aB (RS.nox (aY (rv 2)))))),?_⟩;refine aF (fun zzs H1=>∃(t:Addr)(b d:V),aK zs w c=true/\(∀ p∈aU zs w,p.length<=12)/\¬(cH zs w c false/\cH zs w c true)/\Same H H1/\H1 t=some (.tup [b,d])/\oO K H H1 b zs w c false/\oO K H H1 d zs w c true/\(∀ q:Addr,b=.ref q->d≠.ref q)/\zzs=[zzR x,some v,zzR t]) (fun R r=>?_) ?_
  ·exact⟨_,rfl,_,rfl,x,v,zs,w,c,rfl,ac,J,aa,fun k g n t b d H' s' e l m o=>r _ _ ⟨t,b,d,k,g,n,s',e,l,m,o,rfl⟩⟩
  rintro zzs H1 ⟨t,b,d,k,g,n,s1,e,l,m,o,rfl⟩;refine aF (fun zzs H2=>¬cH zs w c false/\¬cH zs w c true/\H1=H2/\zzs=[zzR x,some v,zzR t]) (fun R r=>?_) ?_
  ·refine⟨_,rfl,.inr (.inl ⟨t,_,_,_,rfl,rfl,SqT.of e,iG,rfl,_,rfl,?_⟩)⟩;refine cP (fun h1=>⟨by decide,y k g n (.inl (l.non.mp h1)) _ s1⟩) (fun h1=>?_);refine⟨_,rfl,.inr (.inl ⟨t,_,_,_,rfl,rfl,SqT.of e,dX (j:=1) rfl,rfl,_,rfl,?_⟩)⟩;exact cP (fun h2=>⟨by decide,y k g n (.inr (m.non.mp h2)) _ s1⟩) (fun h2=>r _ _ ⟨fun a=>by(rw[l.non.mpr a] at h1;cases h1),fun a=>by(rw[m.non.mpr a] at h2;cases h2),rfl,rfl⟩)
  rintro zzs H2 ⟨h1,h2,rfl,rfl⟩;rcases l with⟨a,_⟩|⟨_,B,G,rfl,U,O,X,C⟩
  ·exact absurd a h1
  rcases m with⟨a,_⟩|⟨_,Y,I,rfl,W,S,p1,D⟩
  ·exact absurd a h2
  exact⟨_,rfl,M k g h1 h2 t B Y G I _ s1 e U W (fun a=>o B rfl (by rw[a])) O S X C p1 D⟩
end
section
variable{zs:List Str}{w:Nat}{c:Cell}
def VD(zs:List Str)(w:Nat):Prop:=∃ ch∈chL zs w,ch.2=[]
theorem JF(b:Bool):cH zs w c b↔(VD zs w\/∃ p∈aU zs w,c∈p/\((fW zs w p).filter fun l=>decide (decide (c∈l)=b))=[]):=by
 constructor
 ·rintro⟨j,h,e⟩;obtain⟨f,a,rfl⟩:=bV.mp h;unfold setC at e;by_cases d:c∈f.1
  ·rw[aL d] at e;have k:=a;unfold chL at a;rcases cZ.mp a with rfl|a
   ·cases d
   rcases cG.mp a with a|a
   ·obtain⟨p,g,rfl⟩:=bV.mp a;exact .inr ⟨p,g,d,e⟩
   ·obtain⟨x,_,rfl⟩:=bV.mp a;exfalso;have i:c=x:=cN.mp d;subst i;cases b<;>simp at e
  ·rw[aJ d] at e;exact .inl ⟨f,a,e⟩
 ·rintro(⟨f,a,e⟩|⟨p,g,d,e⟩)
  ·refine⟨setC c b f,bV.mpr ⟨f,a,rfl⟩,?_⟩;unfold setC;by_cases d:c∈f.1
   ·rw[aL d];show f.2.filter _=[];rw[e];rfl
   ·rw[aJ d];exact e
  ·refine⟨setC c b (p,fW zs w p),bV.mpr ⟨_,eO _ (gP _ (bV.mpr ⟨p,g,rfl⟩)),rfl⟩,?_⟩;unfold setC;rw[aL (show c∈(p,fW zs w p).1 from d)];exact e
end
section
variable{zs:List Str}{w:Nat}
theorem a0s{x:Cell}(h:x∈lB zs w):x∉bR zs w:=fun a=>by
 have h1:=dj (cF.mp h).2;have h2:=dj (cF.mp a).2;lia
theorem W0(v:Vw zs w):(chL zs w).Pairwise fun a b=>∀ y∈a.1,y∉b.1:=by
 have g:=v.le;have m:=v.w6;obtain⟨ok,_⟩:=iU (zs:=zs) (w:=w) g m;unfold chL;refine rQ.mpr ⟨fun b _ y c=>(by cases c),z7.mpr ⟨?_,?_,?_⟩⟩
 ·exact HW.mpr ok.dis
 ·refine HW.mpr ?_;have nd:(lB zs w).Nodup:=by
   unfold lB bM;exact(iV (sV zs.length (dO.mpr (by lia)) w (dO.mpr (by lia)))).sublist (Cu.trans Cu)
  exact nd.imp fun h y c d=>h (by rw[<- cN.mp c,<- cN.mp d])
 ·intro a i b j y c d;obtain⟨p,k,rfl⟩:=bV.mp i;obtain⟨x,l,rfl⟩:=bV.mp j;have e:=cN.mp d;subst e;obtain⟨q,f,rfl⟩:=ok.of p k;exact a0s l (jd.edge f ((dB (j9 f)).mp c))
theorem W4(v:Vw zs w):∀ ch∈chL zs w,ch.1.Nodup/\∀ l∈ch.2,l.Sublist ch.1:=fun ch b=>by
 have c:=v.le;have e:=v.w6;obtain⟨ok,_⟩:=iU (zs:=zs) (w:=w) c e;unfold chL at b;rcases cZ.mp b with rfl|b
 ·refine⟨.nil,fun l a=>?_⟩;unfold iI at a;split at a
  ·cases a
  ·rw[cN.mp a];exact .slnil
 rcases cG.mp b with b|b
 ·obtain⟨p,f,rfl⟩:=bV.mp b;obtain⟨x,g,rfl⟩:=ok.of p f;have d:=Part.join c e g;exact⟨d.nd,fun l a=>((d.mem l).mp a).1⟩
 ·obtain⟨x,_,rfl⟩:=bV.mp b;refine⟨by simp,fun l a=>?_⟩;rcases cZ.mp a with rfl|a
  ·exact List.nil_sublist _
  ·rw[cN.mp a];exact List.Sublist.refl _
theorem IW(v:Vw zs w):((chL zs w).flatMap fun ch=>ch.1).Perm (bM zs w):=by
 have:((chL zs w).flatMap fun ch=>ch.1)=(aU zs w).flatten++lB zs w:=by
  unfold chL;rw[zc,Cr];have d:∀ l:List (List Cell),(l.map fun p=>(p,fW zs w p)).flatMap (fun ch=>ch.1)=l.flatten:=fun l=>by
   induction l with
   |nil=>rfl
   |cons a l b=>rw[eU,zc,b,z8]
  have e:∀ l:List Cell,(l.map fun c=>(([c]:List Cell),([[],[c]]:List (List Cell)))).flatMap (fun ch=>ch.1)=l:=fun l=>by
   induction l with
   |nil=>rfl
   |cons a l b=>rw[eU,zc,b];rfl
  rw[d,e];rfl
 rw[this];exact qU v.le v.w6
end
section
variable{zs:List Str}{w:Nat}{L:List Cell}
theorem Es{a b:List Cell}(c:a.Pairwise bA)(d:b.Pairwise bA):a.filter (fun y=>decide (y∈b))=b.filter (fun y=>decide (y∈a)):=by
 refine zV (c.filter _) (d.filter _) fun y=>?_
 rw[cF,cF,iw,iw];exact⟨fun h=>⟨h.2,h.1⟩,fun h=>⟨h.2,h.1⟩⟩
theorem Ac(a:∀ c∈L,aK zs w c=true)(t:Cell):tM zs.length w t L=mV (aA zs w t) L:=by
 unfold tM mV aA;rw[List.filter_filter];refine congrArg List.length (HJ fun y b=>?_);by_cases h:y∈L
 ·rw[cR h,a y h];rfl
 ·rw[cU h];rfl
theorem WT(v:Vw zs w)(d:∀ c∈L,aK zs w c=true):gZ zs w L=true↔∀ t,inF zs.length w t->aK zs w t=false->(mV (aA zs w t) L:Int)=gB zs t:=by
 unfold gZ;rw[nP];constructor
 ·intro h t b a;have:=h t (cQ.mpr b);rw[a,Pk] at this;unfold tX at this;have:=dj this;rw[<- Ac d];lia
 ·intro h t b;cases a:aK zs w t
  ·rw[Pk];unfold tX;have:=h t (cQ.mp b) a;rw[<- Ac d] at this;exact cR (by lia)
  ·rfl
theorem J1{a:List Cell}(p:Part zs w a){x t:Cell}(b:x∈a)(ht:t∈aM zs w x):mV (aA zs w t) (L.filter fun y=>decide (y∈a))=mV (aA zs w t) L:=wW fun y c=>by
 rw[vV,cF,iw];exact⟨fun h=>h.1,fun h=>⟨h,p.all x b t ht y c⟩⟩
theorem a2Q(v:Vw zs w){t:Cell}(ht:inF zs.length w t)(a:aK zs w t=false):0<=gB zs t:=by
 have:=v.digit ht a;unfold gB;lia
theorem uq(v:Vw zs w)(A:L.Pairwise bA)(z:∀ c∈L,aK zs w c=true):gZ zs w L=true↔(iI zs w=[[]]/\∀ p∈aU zs w,(L.filter fun y=>decide (y∈p))∈fW zs w p):=by
 have l:=v.le;have o:=v.w6;obtain⟨ok,u⟩:=iU (zs:=zs) (w:=w) l o;rw[WT v z];constructor
 ·intro h;constructor
  ·unfold iI;rw[aJ];rw[HY];rintro⟨t,d,g⟩;unfold zX vf at g;simp only[nO,jJ,iw] at g;have:=h t (cQ.mp d) g.1.1;have e:aA zs w t=[]:=KD.mp g.1.2;rw[e] at this;have q:mV [] L=0:=rfl;rw[q] at this;lia
  ·intro p j;obtain⟨x,m,rfl⟩:=ok.of p j;have f:=Part.join l o m;refine(f.mem _).mpr ⟨?_,fun y k t d=>?_⟩
   ·rw[Es A f.asc];exact Cu
   ·rw[J1 f k d];obtain⟨a,b,_⟩:=gW d;exact h t a b
 ·rintro⟨h1,h2⟩ t d i;by_cases e:aA zs w t=[]
  ·rw[e];show((0:Nat):Int)=_;have n:zX zs w t=false:=by
    cases q:zX zs w t
    ·rfl
    ·unfold iI at h1;rw[aL (HY.mpr ⟨t,cQ.mpr d,q⟩)] at h1;cases h1
   unfold zX vf at n;rw[i,e] at n;have:decide (0<gB zs t)=false:=n;have:=iY this;have:=a2Q v d i;lia
  ·obtain⟨y,k⟩:=List.exists_mem_of_ne_nil _ e;have B:=qC d i k;obtain⟨p,j,s⟩:=u y B;obtain⟨x,m,rfl⟩:=ok.of p j;have f:=Part.join l o m;have r:=Fd k d i;have:=((f.mem _).mp (h2 _ j)).2 y s t r;rw[J1 f s r] at this;exact this
theorem yK(a:zs.length<=6)(b:w<=6):(bM zs w).Pairwise bA:=by
 unfold bM;exact(sV zs.length (dO.mpr (by lia)) w (dO.mpr (by lia))).filter _
theorem o7{y:Cell}:y∈bM zs w↔aK zs w y=true:=by
 unfold bM;rw[cF,cQ];refine⟨fun h=>h.2,fun h=>⟨?_,h⟩⟩;unfold aK at h;exact dj (Bool.and_eq_true_iff.mp h).1
end
section
variable{zs:List Str}{w:Nat}{c:Cell}{b:Bool}
def wX(c:Cell)(b:Bool)(ch:List Cell×List (List Cell)):List Cell:=(setC c b ch).2.headD []
theorem Aw(a:¬cH zs w c b){ch:List Cell×List (List Cell)}(h:ch∈chL zs w):wX c b ch∈(setC c b ch).2:=by
 unfold wX;cases e:(setC c b ch).2 with
 |nil=>exact absurd ⟨_,bV.mpr ⟨ch,h,rfl⟩,e⟩ a
 |cons l ls=>exact cV
theorem Nt{ch:List Cell×List (List Cell)}{l:List Cell}(h:l∈(setC c b ch).2):l∈ch.2/\(c∈ch.1->decide (c∈l)=b):=by
 unfold setC at h;by_cases a:c∈ch.1
 ·rw[aL a] at h;obtain⟨h1,h2⟩:=cF.mp h;exact⟨h1,fun _=>dj h2⟩
 ·rw[aJ a] at h;exact⟨h,fun y=>absurd y a⟩
theorem Bc{y:Cell}:y∈layW zs w c b↔∃ ch∈chL zs w,y∈wX c b ch:=by
 unfold layW;rw[CJ];constructor
 ·rintro⟨d,f,e⟩;obtain⟨ch,a,rfl⟩:=bV.mp f;exact⟨ch,a,e⟩
 ·rintro⟨ch,a,e⟩;exact⟨_,bV.mpr ⟨ch,a,rfl⟩,e⟩
theorem jm(v:Vw zs w)(a:¬cH zs w c b){ch:List Cell×List (List Cell)}(h:ch∈chL zs w):(wX c b ch).Sublist ch.1:=(W4 v ch h).2 _ (Nt (Aw a h)).1
theorem a2G(v:Vw zs w){y:Cell}{d e:List Cell×List (List Cell)}(k:d∈chL zs w)(l:e∈chL zs w)(f:y∈d.1)(g:y∈e.1):d=e:=by
 have h:=W0 v;obtain⟨i,b,rfl⟩:=Ot k;obtain⟨j,c,rfl⟩:=Ot l;rcases Nat.lt_trichotomy i j with a|a|a
 ·exact absurd g (yZ.mp h i j b c a y f)
 ·subst a;rfl
 ·exact absurd f (yZ.mp h j i c b a y g)
theorem Gp(v:Vw zs w)(f:¬cH zs w c b){ch:List Cell×List (List Cell)}(h:ch∈chL zs w){y:Cell}(g:y∈ch.1):y∈layW zs w c b↔y∈wX c b ch:=by
 rw[Bc];constructor
 ·rintro⟨d,a,e⟩;rw[<- a2G v a h ((jm v f a).subset e) g];exact e
 ·intro i;exact⟨ch,h,i⟩
theorem Qi(v:Vw zs w)(a:¬cH zs w c b):(layW zs w c b).Nodup:=by
 unfold layW List.Nodup;rw[List.flatMap_def,qH,ZM];constructor
 ·intro l k;obtain⟨g,f,rfl⟩:=bV.mp k;exact(W4 v g f).1.sublist (jm v a f)
 ·rw[HW];refine(W0 v).imp_of_mem fun {d e} i j h x m y n o=>?_
  subst o;exact h x ((jm v a i).subset m) ((jm v a j).subset n)
theorem Uq(v:Vw zs w){y:Cell}(a:aK zs w y=true):∃ ch∈chL zs w,y∈ch.1:=by
 have:=(IW v).mem_iff.mpr (o7.mpr a);exact CJ.mp this
theorem tU(v:Vw zs w){y:Cell}{ch:List Cell×List (List Cell)}(h:ch∈chL zs w)(a:y∈ch.1):aK zs w y=true:=o7.mp ((IW v).mem_iff.mp (CJ.mpr ⟨ch,h,a⟩))
variable{d:List Cell}
theorem Vq(v:Vw zs w)(a:¬cH zs w c b)(e:d.Perm (layW zs w c b))(as:Asc d):d.Pairwise bA:=zW as (e.nodup_iff.mpr (Qi v a))
theorem vL(v:Vw zs w)(e:¬cH zs w c b)(g:d.Perm (layW zs w c b)):∀ y∈d,aK zs w y=true:=fun y f=>by
 obtain⟨i,a,h⟩:=Bc.mp (g.mem_iff.mp f);exact tU v a ((jm v e a).subset h)
theorem Nv(v:Vw zs w)(f:aK zs w c=true)(a:¬cH zs w c b)(g:d.Perm (layW zs w c b)):decide (c∈d)=b:=by
 obtain⟨i,h,e⟩:=Uq v f;rw[<- (Nt (Aw a h)).2 e,vV,g.mem_iff,Gp v a h e]
theorem V0(a:¬cH zs w c b):¬VD zs w:=fun d=>a ((JF b).mpr (.inl d))
theorem Kp(v:Vw zs w)(a:¬cH zs w c b)(g:d.Perm (layW zs w c b))(as:Asc d):gZ zs w d=true:=by
 have j:=Vq v a g as;refine(uq v j (vL v a g)).mpr ⟨?_,fun p i=>?_⟩
 ·have:([],iI zs w)∈chL zs w:=cV;unfold iI;split
  ·rename_i m;exact absurd ⟨_,this,aL m⟩ (V0 a)
  ·rfl
 ·have f:(p,fW zs w p)∈chL zs w:=eO _ (gP _ (bV.mpr ⟨p,i,rfl⟩));obtain⟨ok,_⟩:=iU (zs:=zs) (w:=w) v.le v.w6;obtain⟨x,k,rfl⟩:=ok.of p i;have l:=Part.join v.le v.w6 k;have e:d.filter (fun y=>decide (y∈cD zs w x))=wX c b (cD zs w x,fW zs w (cD zs w x)):=by
   refine zV (j.filter _) (l.asc.sublist (jm v a f)) fun y=>?_
   rw[cF,iw];constructor
   ·rintro⟨h1,h2⟩;exact(Gp v a f h2).mp (g.mem_iff.mp h1)
   ·intro h;have h2:=(jm v a f).subset h;exact⟨g.mem_iff.mpr ((Gp v a f h2).mpr h),h2⟩
  rw[e];exact(Nt (Aw a f)).1
end
theorem Jq(z:V):∀ k:Nat,(List.replicate k [z]).flatten=List.replicate k z
 |0=>rfl
 |k+1=>by rw[u5,z8,Jq z k,u5];rfl
theorem Ti(h w:Nat)(r:Int)(f:1<=w)(g:w<=6):Kf h w [] [] r w=DW "#" w:=by
 have:∀ k,k<=6->1<=k->Kf h w [] [] r k=DW "#" (k:Int):=by
  intro k d h1;have e:Kf h w [] [] r k=⟨(List.replicate k 35).toArray⟩:=by
   unfold Kf;have:((List.range k).map fun c:Nat=>a1J h w [] [] (r,(c:Int)))=List.replicate k 35:=by
    rw[Oi];refine⟨by rw[bf,vU],fun b a=>?_⟩;obtain⟨c,_,rfl⟩:=bV.mp a;rfl
   rw[this]
  rw[e];have all:=(by decide +kernel:∀ k∈[1,2,3,4,5,6],(⟨(List.replicate k 35).toArray⟩:Str)=DW "#" ((k:Nat):Int))
  refine all k ?_
  match k,h1,d with
  |1,_,_=>decide
  |2,_,_=>decide
  |3,_,_=>decide
  |4,_,_=>decide
  |5,_,_=>decide
  |6,_,_=>decide
 exact this w g f
theorem blank_eq(h w:Nat)(c:1<=w)(d:w<=6):(iH h w).map V.str=List.replicate h (V.str (DW "#" w)):=by
 unfold iH xY;rw[qH,Oi];refine⟨by rw[bf,vU],fun b a=>?_⟩;obtain⟨r,_,rfl⟩:=bV.mp a;show V.str (Kf h w [] [] (r:Int) w)=_;rw[Ti h w r c d]
theorem jk(h w:Nat):(iH h w).length=h:=by
 unfold iH xY;rw[bf,vU]
theorem a4R{a b c:Str}{u v z:V}:(dD a v (dD b u (dD c z []))).length<1000:=by
 have h1:=dN a v (dD b u (dD c z []));have h2:=dN b u (dD c z []);have d:=dN c z [];simp only[vW] at d;lia
theorem Az{K:ao}{C o:Addr}{H r:Hp}{p g:Addr}{h w:Nat}{st u l:List Cell}{us:List V}{v:Bool}{f m d:Addr}(i:cW K C o H g h w st u v f m d)(s:SameBut p H r)(k:H p=some (.lst us))(q:bw K H us (l.map aD))(n:p≠m):cW K C o r g h w st u v f m d:=by
 obtain⟨dx,e⟩:=i.ob;obtain⟨z,x,t,b⟩:=i.fl.ob;have B:x≠p:=by
  intro j;rw[j,k] at b;injection b with b;injection b with b;obtain⟨D,E,A,_⟩:=i.fl.vw.toRect.head;rw[A] at b;subst b;cases l with
  |nil=>cases q
  |cons c l=>
   cases q with
   |cons y _=>
    obtain⟨a,ea,_⟩:=eX y;cases ea
 refine⟨⟨dx,s _ _ e (fX k e (by intro j;cases j)).symm⟩,⟨⟨z,x,s _ _ t (fX k t (by intro j;cases j)).symm,s _ _ b B⟩,i.fl.vw⟩,s.ls k n.symm i.hs,s _ _ i.dc (fX k i.dc (by intro j;cases j)).symm⟩
def zO(K:ao)(C CV BV BL:Addr):Sp:=fun vs H Q E=>∃(x dx l:Addr)(h w:Int)(cs:List Cell),vs=[.ref x,.int h,.int w,.ref l]/\H x=some (.ins C dx [])/\Ls K H l (cs.map aD)/\cs.length<=1000 /\
 (qF h w=false->∀ H',Same H H'->E (.ref BV) none H') /\
 (qF h w=true->layB (iH h.toNat w.toNat) w.toNat cs=false->∀ H',Same H H'->E (.ref BL) none H') /\
 (qF h w=true->layB (iH h.toNat w.toNat) w.toNat cs=true->∀ H' (f hd d:Addr),H f=none->H hd=none->H d=none->hd≠d->f≠x->hd≠x->d≠x->cW K C CV H' x h.toNat w.toNat cs [] false f hd d->(∀ b o,H b=some o->b≠x->H' b=some o)->Q .non H')
def iJ(h w:Nat)(st kn:List Cell)(lost:Bool):Str:=if lost=true then "lost" else if kn.length+st.length=h*w then "won" else "on"
def rK(K:ao)(C CV:Addr):Sp:=fun vs H Q _=>∃(g:Addr)(h w:Nat)(st kn:List Cell)(lost:Bool)(f hd d:Addr),vs=[.ref g]/\cW K C CV H g h w st kn lost f hd d/\Q (.str (iJ h w st kn lost)) H
theorem rK.mk{K:ao}{C c g f e d:Addr}{H:Hp}{Q:VK}{i:XK}{h w:Nat}{st a:List Cell}{b:Bool}(j:cW K C c H g h w st a b f e d)(q:Q (.str (iJ h w st a b)) H):rK K C c [.ref g] H Q i:=⟨g,h,w,st,a,b,f,e,d,rfl,j,q⟩
theorem kJ{K:ao}{C j g f b d:Addr}{H:Hp}{Q:VK}{h w:Nat}{st r:List Cell}{c:Bool}{m:Str}{v:V}{i:TE}{zzs:L2.St}(k:cW K C j H g h w st r c f b d)(l:∀ a:VK,a (.ref g) H->i zzs H a)(n:Cls K C)(p:jz K C m)(o:(j7 f b d c).lookup m=some v)(q:Q v H):a1M K i m zzs H Q:=
 l _ (let ⟨dx,e⟩:=k.ob;⟨g,C,dx,_,_,rfl,e,n,p,o,q⟩)
theorem Yl{K:ao}{C j g f n d:Addr}{H:Hp}{Q:VK}{b:XK}{h w:Nat}{st o:List Cell}{p:Bool}{m:Str}{sp:Sp}{i:TE}{zzs:L2.St}(k:cW K C j H g h w st o p f n d) (a:m ≠ "lost" /\ m ≠ "figures" /\ m ≠ "hidden" /\ m ≠ "field") (l:∀ c:VK,c (.ref g) H->i zzs H c) (q:sp [.ref g] H Q b):Ku C m sp [] b i fO zzs H Q:=
 l _ (let ⟨dx,e⟩:=k.ob;⟨g,dx,_,rfl,e,Ay _ _ _ _ a.1 a.2.1 a.2.2.1 a.2.2.2,q⟩)
section
variable{P:Program}{w:World}{K:ao}{mg:Str->Option Value}{base:Heap}{Z:Adr}
theorem Xp{f:Addr}{O:FuncData} (F:Fun K "__init__" "Game.__init__" lK f O) (T:Txt K mg Z) (aK:Df P w K mg base 1 "is_size" ["height","width"] Nz) (ar:Md P w K mg base 3 "View" ["self","rows"] Z.View (xZ K Z.View Z.BadView)) (aI:Df P w K mg base 3 "is_laying" ["view","laying"] (Ce K Z.View)) :
  cB P w K mg base (CXE P w) 5 f O ["self","height","width","stones"] (zO K Z.Game Z.View Z.BadView Z.BadLaying):=by
 refine F.vq pB (fun aT H Q E h=>?_) (fun cdv A outer s H aT Q E v h=>?_)
 ·obtain⟨x,dx,l,h,w,cs,rfl,_⟩:=h;rfl
 ·obtain⟨x,dx,l,h,w,cs,rfl,aa,W,ay,av,M,X⟩:=h;have U:=v8 v;have aY:=lA v;refine⟨_,(au (bO (RT.nox (jf (gY (aQ aK v rfl aW (aj (rv 1) (aj (rv 2) ak)))))) (aB (fM T.mJ rfl T.sI U (aj bx ak))) aO) (au (RS.nox (bK (i:=4) pB.nd rfl (Or.inl rfl) (fG ar v rfl aW (aj (lC tE (bU (aj (lC tE (N6 T.fQ rfl) (rv 2)) ak)) (rv 1)) ak)))) (au (bO (RT.nox (jf (gY (aQ aI v rfl aW (aj (rv 4) (aj (rv 3) ak)))))) (aB (fM T.ju rfl T.nU U (aj bx ak))) aO) (au (RS.nox (rA (rv 0) (rv 4))) (au (RS.nox (rA (rv 0) (Bo (WM (K:=K)) rfl T.KR PL (aj (rv 3) ak)))) (au (RS.nox (rA (rv 0) Sd)) (aB (RS.nox (rA (rv 0) qI))))))))),?_⟩;refine aF (fun zzs H1=>qF h w=true/\H1=H/\zzs=[zzR x,zzI h,zzI w,zzR l,zzN]) (fun R u=>?_) ?_
  ·refine⟨_,rfl,_,rfl,_,_,rfl,_,rfl,?_⟩;refine cP (fun h1=>⟨by decide,av (by simpa only[jJ] using h1) _ (Same.refl _)⟩) (fun h1=>u _ _ ⟨by simpa only[ou] using h1,rfl,rfl⟩)
  rintro zzs H ⟨G,rfl,rfl⟩;obtain⟨⟨h1,aX⟩,a1,a2⟩:=BX.mp G;obtain⟨m,rfl⟩:∃ m:Nat,h=(m:Int):=⟨h.toNat,by lia⟩
  obtain⟨n,rfl⟩:∃ n:Nat,w=(n:Int):=⟨w.toNat,by lia⟩
  rw[jR,jR] at M X;have B:Vw (iH m n) n:=Yy (by lia) (by lia) (by lia) (by lia);have aU:=jk m n;refine aF (fun zzs H1=>∃ y:Addr,H y=none/\Same H H1/\cI Z.View H1 y (iH m n) n/\zzs=[zzR x,zzI m,zzI n,zzR l,zzR y]) (fun R u=>?_) ?_
  ·refine⟨_,rfl,by decide,by lia,by lia,sz rfl,fun p aD=>?_⟩;refine⟨_,rfl,_,aC,by lia,by lia,small (by show 1*_<=10000;lia),fun q aE=>?_⟩;have aw:(List.replicate ((m:Nat):Int).toNat [V.str (DW "#" (n:Int))]).flatten=(iH m n).map V.str:=by rw[jR,Jq,blank_eq m n (by lia) (by lia)]
   rw[aw];have al:=(Same.put (o:=.lst [V.str (DW "#" (n:Int))]) aD).and (o:=.lst ((iH m n).map V.str)) aE;intro y j z aM aP;have aL:(upd (upd (upd H p (.lst [V.str (DW "#" (n:Int))])) q (.lst ((iH m n).map V.str))) j (.own y)) y=none:=by rw[aN aP.symm];exact z
   have ai:=(Same.put (o:=.own y) aM).and (o:=.ins Z.View j []) aL;obtain⟨a3,a4,aV,aZ⟩:=B.toRect.head;refine⟨y,j,q,iH m n,rfl,aC,SqL.of (ai _ _ aC),by lia,fun r aG=>by have:=B.len r aG;lia,fun Y=>(by rw[B.ok] at Y;cases Y),fun _ H' aJ ao a5 e a0 ag aA ab keep=>⟨rfl,?_⟩⟩;have as:ao.length=n:=B.len ao (by rw[e];exact cV);have ad:H y=none:=al.free z;refine u _ _ ⟨y,ad,fun b o S=>keep b o (ai _ _ (al _ _ S)) (aR S ad),⟨⟨j,aJ,?_,aA⟩,B⟩,rfl⟩;rw[as] at ab;exact ab
  rintro zzs H1 ⟨y,z,s1,am,rfl⟩;refine aF (fun zzs H2=>layB (iH m n) n cs=true/\Same H H2/\cI Z.View H2 y (iH m n) n/\zzs=[zzR x,zzI m,zzI n,zzR l,zzR y]) (fun R u=>?_) ?_
  ·refine⟨_,rfl,_,rfl,y,l,_,n,cs,rfl,am,W.mono s1,ay,fun H2 s2=>⟨_,rfl,?_⟩⟩;refine cP (fun h1=>⟨by decide,M G (by simpa only[jJ] using h1) _ (s1.trans s2)⟩) (fun h1=>u _ _ ⟨by simpa only[ou] using h1,s1.trans s2,am.mono s2,rfl⟩)
  rintro zzs H2 ⟨az,s2,an,rfl⟩;obtain⟨D,N,ap⟩:=W.mono s2;have C:=s2 _ _ aa;obtain⟨j,ac,aH,L⟩:=an.ob;have ah:y≠x:=(aR aa z).symm;have ag:l≠x:=fX N C (by intro c;cases c);have aq:ac≠x:=fX L C (by intro c;cases c);refine⟨_,rfl,_,rfl,x,Z.Game,dx,_,rfl,C,T.cT,T.dZ,(by show 0<1000;decide),?_⟩;have ax:(upd H2 x (.ins Z.Game dx (dD "field" (.ref y) []))) l=some (.lst D):=by rw[aN ag];exact N
  refine⟨_,rfl,l,_,rfl,.inl (SqL.of ax),fun a J=>?_⟩;have g:a≠x:=fun c=>by rw[c,aC] at J;cases J
  have af:H2 a=none:=by rwa[aN g] at J
  refine⟨_,rfl,x,Z.Game,dx,_,rfl,(by rw[aN g.symm];exact aC),T.cT,T.fU,(by show 1<1000;decide),fun d nd=>?_⟩;have t:d≠x:=fun c=>by rw[c,aC] at nd;cases nd
  have I:d≠a:=fun c=>by rw[c,aN g,aC] at nd;cases nd
  have ae:H2 d=none:=by rwa[aN t,aN I,aN t] at nd
  refine⟨_,rfl,x,Z.Game,dx,_,rfl,(by rw[aN t.symm];exact aC),T.cT,T.cX,a4Q,?_⟩;refine⟨_,rfl,x,Z.Game,dx,_,rfl,aC,T.cT,T.jr,a4R,?_⟩;have keep:∀ b o,H2 b=some o->b≠x->(upd (upd (upd (upd (upd (upd H2 x (.ins Z.Game dx (dD "field" (.ref y) []))) a (.lst D)) x (.ins Z.Game dx (dD "hidden" (.ref a) (dD "field" (.ref y) [])))) d (.dT [])) x (.ins Z.Game dx (dD "figures" (.ref d) (dD "hidden" (.ref a) (dD "field" (.ref y) []))))) x (.ins Z.Game dx (j7 y a d false))) b=some o:=fun b o e k=>by
   rw[aN k,aN k,aN (aR e ae),aN k,aN (aR e af),aN k];exact e
  have aS:zm H2 (upd (upd (upd (upd (upd (upd H2 x (.ins Z.Game dx (dD "field" (.ref y) []))) a (.lst D)) x (.ins Z.Game dx (dD "hidden" (.ref a) (dD "field" (.ref y) [])))) d (.dT [])) x (.ins Z.Game dx (dD "figures" (.ref d) (dD "hidden" (.ref a) (dD "field" (.ref y) []))))) x (.ins Z.Game dx (j7 y a d false))):=fun b xs e=>keep b _ e (fX e C (by intro c;cases c))
  refine X G az _ y a d z (s2.free af) (s2.free ae) I.symm ah g t ⟨⟨dx,aC⟩,⟨⟨j,ac,keep _ _ aH ah,keep _ _ L aq⟩,an.vw⟩,⟨D,?_,aS.cells ap⟩,?_⟩ (fun b o e k=>keep b o (s2 _ _ e) k)
  ·rw[aN g,aN g,aN I.symm,aN g,aC]
  ·rw[aN t,aN t,aC];rfl
theorem V6{f:Addr}{k:FuncData} (F:Fun K "state" "Game.state" qm f k) (T:Txt K mg Z):cB P w K mg base (CXE P w) 1 f k ["self"] (rK K Z.Game Z.View):=by
 refine F.rok DX (fun z H Q E h=>?_) (fun cdv A outer s H z Q E r h=>?_)
 ·obtain⟨g,h,w,st,c,x,f,l,d,rfl,_⟩:=h;rfl
 ·obtain⟨g,h,w,st,c,x,f,l,d,rfl,b,a⟩:=h;have t:=lA r;obtain⟨dx,e⟩:=b.ob;obtain⟨j,C,i,B⟩:=b.fl.ob;obtain⟨y,o,m⟩:=b.hs;have D:=b.fl.vw.w6;have p:=b.fl.vw.le;rw[jk] at p i;refine⟨_,(au (bO (gY (dY (K:=K) (rv 0))) (aB (aY bx)) aO) (au (bO (aZ (fj.or (f9 (K:=K) t)) (lC jE (aX (WL (K:=K)) rfl T.fH dw (aj (dY (K:=K) (rv 0)) ak)) (aX (WL (K:=K)) rfl T.fH dw (aj (dY (K:=K) (rv 0)) ak))) (lC tE (dY (K:=K) (dY (K:=K) (rv 0))) (dY (K:=K) (dY (K:=K) (rv 0)))) (bC _)) (aB (aY bx)) aO) (aB (aY bx)))),?_⟩;refine kJ b (fun _ q=>⟨_,rfl,q⟩) T.cT T.jr (a2R _ _ _ _) ⟨_,rfl,?_⟩;unfold iJ at a;refine cP (fun h1=>?_) (fun h1=>?_)
  ·rw[aL h1] at a;exact a
  rw[aJ (by rw[h1];decide)] at a;refine⟨_,rfl,g,Z.Game,dx,_,_,rfl,e,T.cT,T.cX,oX _ _ _ _,.inr ⟨d,_,rfl,b.dc,?_⟩⟩;refine⟨_,rfl,g,Z.Game,dx,_,_,rfl,e,T.cT,T.fU,Ax _ _ _ _,.inl (.inl ⟨l,_,rfl,.inl (SqL.of o),?_⟩)⟩;refine⟨_,rfl,g,Z.Game,dx,_,_,rfl,e,T.cT,T.dZ,v7 _ _ _ _,f,Z.View,j,_,_,rfl,i,T.fY,T.eF,uZ _ _ _,?_⟩;refine⟨_,rfl,g,Z.Game,dx,_,_,rfl,e,T.cT,T.dZ,v7 _ _ _ _,f,Z.View,j,_,_,rfl,i,T.fY,T.fL,zF _ _ _,.inl ⟨by lia,by lia⟩,.inl ⟨rfl,_,rfl,?_⟩⟩;have u:(mY h w st c).length=c.length:=by unfold mY;rw[bf]
  have v:y.length=st.length:=by rw[m.length,bf]
  rw[eY,u,v];have n:decide (((c.length:Nat):Int)+((st.length:Nat):Int)=(h:Int)*(w:Int))=decide (c.length+st.length=h*w):=by
   rw[vV];lia
  rw[n];refine cP (fun h2=>?_) (fun h2=>?_)
  ·rw[aL (dj h2)] at a;exact a
  ·rw[aJ (iY h2)] at a;exact a
end
theorem Ui{K:ao}{C j:Addr}{H i:Hp}{g:Addr}{h w:Nat}{st v q:List Cell}{r:Bool}{f p d:Addr}(a:cW K C j H g h w st v r f p d)(s:SameBut d H i)(e:i d=some (.dT (mY h w st q))):cW K C j i g h w st q r f p d:=by
 obtain⟨dx,k⟩:=a.ob;obtain⟨u,x,l,m⟩:=a.fl.ob;obtain⟨z,n,t⟩:=a.hs;have y:zm H i:=fun b xs o=>s _ _ o (fX o a.dc (by intro c;cases c))
 exact⟨⟨dx,s _ _ k (fX k a.dc (by intro c;cases c))⟩,⟨⟨u,x,s _ _ l (fX l a.dc (by intro c;cases c)),s _ _ m (fX m a.dc (by intro c;cases c))⟩,a.fl.vw⟩,⟨z,s _ _ n (fX n a.dc (by intro c;cases c)),y.cells t⟩,e⟩
theorem Uc(h w:Int)(st a:List Cell)(c:Cell)(b:c∉a):putK (mY h w st a) (j8 c) (.int (um h w st c))=mY h w st (a++[c]):=by
 rw[JZ _ (by rw[qW,aJ b])];unfold mY;rw[iz];rfl
structure mQ(h w:Int)(st kn:List Cell)(c:Cell)(wt op:List Cell):Prop where
 nd:op.Nodup
 new:∀ y∈op,y∉kn
 rch:∀ y∈op,Reach h w st kn c y
 wtr:∀ y∈wt,inF h w y/\(y∈kn\/Reach h w st kn c y)
 has:c∈op\/c∈wt
 cl:∀ x∈op,um h w st x=0->∀ y∈gO h w x,y∈kn\/y∈op\/y∈wt
 ln:wt.length<=1+8*op.length
theorem mQ.start{h w:Int}{st e:List Cell}{c:Cell}(b:inF h w c):mQ h w st e c [c] []:=
 ⟨by simp,fun y a=>(by cases a),fun y a=>(by cases a),fun y a=>(by rw[cN.mp a];exact⟨b,.inr .base⟩),.inr (cN.mpr rfl),fun x d=>(by cases d),by simp⟩
theorem mQ.skip{h w:Int}{st d wt op:List Cell}{c m:Cell}(u:mQ h w st d c (wt++[m]) op)(f:m∈d++op)(j:c∉d):mQ h w st d c wt op:=by
 have g:∀ y,y∈wt++[m]->y∈wt\/y=m:=fun y b=>(cG.mp b).imp id fun a=>cN.mp a
 refine⟨u.nd,u.new,u.rch,fun y b=>u.wtr y (gP _ b),?_,fun x i e y b=>?_,by have:=u.ln;rw[cL,lE] at this;lia⟩
 ·rcases u.has with a|a
  ·exact .inl a
  ·rcases g _ a with a|a
   ·exact .inr a
   ·subst a;rcases cG.mp f with q|q
    ·exact absurd q j
    ·exact .inl q
 ·rcases u.cl x i e y b with a|a|a
  ·exact .inl a
  ·exact .inr (.inl a)
  ·rcases g _ a with a|a
   ·exact .inr (.inr a)
   ·subst a;rcases cG.mp f with q|q
    ·exact .inl q
    ·exact .inr (.inl q)
theorem mQ.XC{h w:Int}{st g wt op:List Cell}{c m:Cell}(u:mQ h w st g c (wt++[m]) op)(i:m∉g++op)(more:List Cell)(hz:um h w st m=0->more=gO h w m)(j:um h w st m≠0->more=[]):mQ h w st g c (wt++more) (op++[m]):=by
 have l:m∉g:=fun d=>i (gP _ d)
 have t:m∉op:=fun d=>i (gw _ d)
 have k:inF h w m/\Reach h w st g c m:=by
  obtain⟨a,b⟩:=u.wtr m (gw _ (cN.mpr rfl));exact⟨a,b.resolve_left l⟩
 have n:∀ y,y∈wt++[m]->y∈wt\/y=m:=fun y f=>(cG.mp f).imp id fun d=>cN.mp d
 have v:more.length<=8:=by
  by_cases e:um h w st m=0
  ·rw[hz e];exact iT h w m
  ·rw[j e];exact nQ _
 refine⟨?_,fun y f=>?_,fun y f=>?_,fun y f=>?_,?_,fun x s e y f=>?_,?_⟩
 ·exact Dl.mpr ⟨u.nd,by simp,fun a p b r e=>t (by rw[<- cN.mp r,<- e];exact p)⟩
 ·rcases cG.mp f with d|d
  ·exact u.new y d
  ·rw[cN.mp d];exact l
 ·rcases cG.mp f with d|d
  ·exact u.rch y d
  ·rw[cN.mp d];exact k.2
 ·rcases cG.mp f with d|d
  ·exact u.wtr y (gP _ d)
  ·by_cases e:um h w st m=0
   ·rw[hz e] at d;refine⟨qY d,?_⟩;by_cases o:y∈g
    ·exact .inl o
    ·exact .inr (.step k.2 e d o)
   ·rw[j e] at d;cases d
 ·rcases u.has with d|d
  ·exact .inl (gP _ d)
  ·rcases n _ d with d|d
   ·exact .inr (gP _ d)
   ·exact .inl (gw _ (cN.mpr d))
 ·rcases cG.mp s with d|d
  ·rcases u.cl x d e y f with q|q|q
   ·exact .inl q
   ·exact .inr (.inl (gP _ q))
   ·rcases n _ q with q|q
    ·exact .inr (.inr (gP _ q))
    ·exact .inr (.inl (gw _ (cN.mpr q)))
  ·rw[cN.mp d] at e f;exact .inr (.inr (gw _ (by rw[hz e];exact f)))
 ·have:=u.ln;rw[cL,lE] at this;rw[cL,cL,lE];lia
theorem mQ.done{h w:Int}{st b op:List Cell}{c:Cell}(u:mQ h w st b c [] op)(y:Cell):y∈op↔Reach h w st b c y:=by
 refine⟨u.rch y,fun r=>?_⟩
 induction r with
 |base=>exact u.has.resolve_right (by intro a;cases a)
 |step _ e f d g=>
  rcases u.cl _ g e _ f with a|a|a
  ·exact absurd a d
  ·exact a
  ·cases a
theorem mQ.len{h w:Nat}{st e wt op:List Cell}{c:Cell}(u:mQ h w st e c wt op)(b:inF h w c)(a:h<=6)(f:w<=6):op.length<=36:=by
 have:=n6 (l2:=cM h w) u.nd fun y d=>cQ.mpr ((u.rch y d).inF b)
 rw[jY] at this;have:h*w<=6*6:=rY a f;lia
theorem Yb(f h d:Addr)(b:Bool):dD "lost" (.bl true) (j7 f h d b)=j7 f h d true:=by
 cases b<;>rfl
theorem Uj{K:ao}{C m:Addr}{H k:Hp}{g n:Addr}{h w:Nat}{st r:List Cell}{t:Bool}{f l d:Addr}(i:cW K C m H g h w st r t f l d)(s:SameBut g H k)(e:k g=some (.ins C n (j7 f l d true))):cW K C m k g h w st r true f l d:=by
 obtain⟨B,j⟩:=i.ob;obtain⟨x,u,c,o⟩:=i.fl.ob;obtain⟨A,p,v⟩:=i.hs;have y:f≠g:=by
  intro a;rw[a,j] at c;injection c with c;injection c with _ _ c;have this:List.lookup ("rows" : Str) (j7 f l d t)=List.lookup ("rows" : Str) (uY u (iH h w).length w):=by rw[c]
  rw[LQ,Ay _ _ _ _ (by decide +kernel) (by decide +kernel) (by decide +kernel) (by decide +kernel)] at this;cases this
 have z:zm H k:=fun b xs q=>s _ _ q (fX q j (by intro a;cases a))
 exact⟨⟨n,e⟩,⟨⟨x,u,s _ _ c y,s _ _ o (fX o j (by intro a;cases a))⟩,i.fl.vw⟩,⟨A,s _ _ p (fX p j (by intro a;cases a)),z.cells v⟩,s _ _ i.dc (fX i.dc j (by intro a;cases a))⟩
theorem a6a{f h d:Addr}{b:Bool}:(j7 f h d b).length<1000:=by
 unfold j7;have h1:=dN "lost" (.bl b) (dD "figures" (.ref d) (dD "hidden" (.ref h) (dD "field" (.ref f) [])));have h2:=a4R (a:="figures") (b:="hidden") (c:="field") (v:=.ref d) (u:=.ref h) (z:=.ref f);have g:=dN "figures" (.ref d) (dD "hidden" (.ref h) (dD "field" (.ref f) []));have i:=dN "hidden" (.ref h) (dD "field" (.ref f) []);have e:=dN "field" (.ref f) [];simp only[vW] at e;lia
def kj(K:ao)(C CV OV NC:Addr):Sp:=fun vs H Q E=>∃(g:Addr)(v:V)(h w:Nat)(st kn:List Cell)(lost:Bool)(f hd d:Addr)(c:Cell),vs=[.ref g,v]/\cW K C CV H g h w st kn lost f hd d/\Den K H v (aD c)/\kn.length<=36 /\
 (iJ h w st kn lost ≠ "on" -> ∀ H',Same H H'->E (.ref OV) none H') /\
 (iJ h w st kn lost = "on" -> ¬(inF h w c/\c∉kn)->∀ H',Same H H'->E (.ref NC) none H') /\
 (iJ h w st kn lost = "on" -> inF h w c->c∉kn->c∈st->∀ H',SameBut g H H'->cW K C CV H' g h w st kn true f hd d->Q .non H') /\
 (iJ h w st kn lost = "on" -> inF h w c->c∉kn->c∉st->∀(q:Addr)(H':Hp)(op ds:List Cell),H q=none->SameBut d H H'->cW K C CV H' g h w st (kn++op) lost f hd d->Ls K H' q (ds.map aD)->ds.Perm op->Asc ds->op.Nodup->(∀ y,y∈op↔Reach h w st kn c y)->Q (.ref q) H')
theorem kj.mk{K:ao}{C i n m:Addr}{H:Hp}{Q:VK}{k:XK}{g:Addr}{v:V}{h w:Nat}{st b:List Cell}{e:Bool}{f j d:Addr}{c:Cell}(o:cW K C i H g h w st b e f j d)(p:Den K H v (aD c))(t:b.length<=36) (r:(iJ h w st b e ≠ "on" -> ∀ a,Same H a->k (.ref n) none a)) (s:(iJ h w st b e = "on" -> ¬(inF h w c/\c∉b)->∀ a,Same H a->k (.ref m) none a)) (u:(iJ h w st b e = "on" -> inF h w c->c∉b->c∈st->∀ a,SameBut g H a->cW K C i a g h w st b true f j d->Q .non a)) (x:(iJ h w st b e = "on" -> inF h w c->c∉b->c∉st->∀(q:Addr)(a:Hp)(op l:List Cell),H q=none->SameBut d H a->cW K C i a g h w st (b++op) e f j d->Ls K a q (l.map aD)->l.Perm op->Asc l->op.Nodup->(∀ y,y∈op↔Reach h w st b c y)->Q (.ref q) a)):kj K C i n m [.ref g,v] H Q k:=⟨g,v,h,w,st,b,e,f,j,d,c,rfl,o,p,t,r,s,u,x⟩
theorem Ca.mk{K:ao}{C x:Addr}{H:Hp}{Q:VK}{a:XK}{v:V}{zs:List Str}{w:Nat}{c:Cell}(d:cI C H x zs w)(b:Den K H v (aD c))(q:Q (.bl (decide (inF zs.length w c))) H):Ca K C [.ref x,v] H Q a:=⟨x,v,zs,w,c,rfl,d,b,q⟩
theorem pF.mk{K:ao}{C x l:Addr}{H:Hp}{Q:VK}{d:XK}{v:V}{zs:List Str}{w:Nat}{c:Cell}{a:List Cell}(h:cI C H x zs w)(e:Den K H v (aD c))(f:inF zs.length w c)(g:Ls K H l (a.map aD))(q:∀ b,Same H b->Q (.int (tM zs.length w c a)) b):pF K C [.ref x,v,.ref l] H Q d:=⟨x,l,v,zs,w,c,a,rfl,h,e,f,g,q⟩
theorem mq.mk{K:ao}{C d x:Addr}{H:Hp}{Q:VK}{b:XK}{v:V}{zs:List Str}{w:Nat}{c:Cell}(g:cI C H x zs w)(e:Den K H v (aD c))(f:inF zs.length w c)(q:∀ q a,Fr K H a q ((gO zs.length w c).map aD)->Q (.ref q) a):mq K C d [.ref x,v] H Q b:=⟨x,v,zs,w,c,rfl,g,e,fun _=>q,fun h=>absurd f h⟩
section
variable{P:Program}{w:World}{K:ao}{mg:Str->Option Value}{base:Heap}{Z:Adr}
theorem Mz{f:Addr}{bk:FuncData} (F:Fun K "uncover" "Game.uncover" ni f bk) (T:Txt K mg Z) (ch:Mth P w K mg base 1 Z.Game "state" ["self"] (rK K Z.Game Z.View)) (b1:Df P w K mg base 1 "has_cell" ["view","cell"] (Ca K Z.View))
  (b2:Df P w K mg base 3 "stones_near" ["view","cell","laying"] (pF K Z.View)) (b7:Df P w K mg base 2 "near" ["view","cell"] (mq K Z.View Z.NoCell)):cB P w K mg base (CXE P w) 4 f bk ["self","cell"] (kj K Z.Game Z.View Z.Over Z.NoCell):=by
 refine F.vq jc (fun cm H Q E h=>?_) (fun cdv A outer s H cm Q E ad h=>?_)
 ·obtain⟨g,v,h,w,st,r,I,f,aU,d,c,rfl,_⟩:=h;rfl
 ·obtain⟨g,v,h,w,st,r,I,ac,S,d,c,rfl,z,ay,cu,bV,bh,cj,ck⟩:=h;have aU:=v8 ad;have ae:=lA ad;have b5:=M6 ad;have aH:=z.fl.vw.w6;have ao:=z.fl.vw.le;rw[jk] at ao;obtain⟨dx,b3⟩:=z.ob;obtain⟨tv,rfl,_,b4⟩:=eX ay;refine⟨_,(au (bO (RT.nox (aZ (Fe.or (Ez (K:=K) ae)) (a1z ch ad aW (rv 0)) bx (bC _))) (aB (fM T.Cj rfl T.La aU (aj bx ak))) aO) (au (bO (RT.nox (Nh (K8 (jf (gY (aQ b1 ad rfl aW (aj (dY (K:=K) (rv 0)) (aj (rv 1) ak))))) (Gy (aZ (Va ae) (rv 1) (dY (K:=K) (rv 0)) (by rfl)))))) (aB (fM T.jF rfl T.mR aU (aj bx ak))) aO) (au (RS.nox (bO (aZ (mG.or (Ey (K:=K) b5)) (rv 1) (dY (K:=K) (rv 0)) (by rfl)) (au (rA (rv 0) qI) (aB (aY yR))) aO)) (au (RS.nox (bK (i:=2) jc.nd rfl (Or.inl rfl) (bU ak))) (au (RS.nox (bK (i:=3) jc.nd rfl (Or.inl rfl) (bU (aj (rv 1) ak)))) (au (RS.nox (Bu gQ (aZ JT (aX (gn (K:=K)) rfl T.fH dw (aj (rv 3) ak)) aG (bC _)) (au (bK (i:=4) jc.nd rfl (Or.inl rfl) (X4 (K:=K) lU ZJ ZK Xg (rv 3))) (aB (bO (aZ (qg ae) (rv 4) (dY (K:=K) (rv 0)) (by rfl)) (au (Ng (aQ b2 ad rfl aW (aj (dY (K:=K) (rv 0)) (aj (rv 4) (aj (dY (K:=K) (rv 0)) ak)))) (Nb (dY (K:=K) (rv 0)) (rv 4) (set_dict ae))) (au (bJ (nZ (K:=K) lU tY tZ gV (rv 2) (aj (rv 4) ak))) (aB (bO (aZ (fj.or (f9 (K:=K) ae)) (gq (a0x ae) (dY (K:=K) (rv 0)) (rv 4)) aG (bC _)) (aB (bJ (nZ (K:=K) lU Zr Zt UJ (rv 3) (aj (aQ b7 ad rfl aW (aj (dY (K:=K) (rv 0)) (aj (rv 4) ak))) ak)))) aO)))) aO))))) (aB (RS.nox (aY (aX (Qg (K:=K) ae) rfl T.qR sE (aj (rv 2) ak))))))))))),?_⟩;refine aF (fun zzs H1=>H1=H/\iJ h w st r I = "on" /\ zzs=[zzR g,zzR tv,zzN,zzN,zzN]) (fun R L=>?_) ?_
  ·refine Yl z (by decide +kernel) (fun _ q=>⟨_,rfl,q⟩) (rK.mk z (.inl ⟨rfl,_,rfl,?_⟩));have es:decide (V.str (iJ h w st r I)=V.str "on")=decide (iJ h w st r I = "on"):=by rw[vV];exact⟨fun p=>by injection p,fun p=>by rw[p]⟩
   rw[es];refine cP (fun M=>⟨by decide,bV (iY (by simpa only[jJ] using M)) _ (Same.refl _)⟩) (fun M=>L _ _ ⟨rfl,dj (by simpa only[ou] using M),rfl⟩)
  rintro zzs H ⟨rfl,aw,rfl⟩;have co:I=false:=by
   cases I with
   |false=>rfl
   |true=>exact absurd aw (by unfold iJ;rw[aL rfl];decide +kernel)
  have key:H tv=some (.tup ((j8 c).map kV)):=b4;refine aF (fun zzs H1=>H1=H/\inF h w c/\c∉r/\zzs=[zzR g,zzR tv,zzN,zzN,zzN]) (fun R L=>?_) ?_
  ·refine kJ z (fun _ q=>⟨_,rfl,q⟩) T.cT T.dZ (v7 _ _ _ _) ⟨_,rfl,?_⟩;dsimp only[fO];refine Ca.mk z.fl ay ⟨_,rfl,?_⟩;rw[jk];refine cP (fun M=>⟨by decide,bh aw (fun p=>iY (by simpa only[jJ] using M) p.1) _ (Same.refl _)⟩) (fun M=>?_);have U:inF h w c:=dj (by simpa only[ou] using M);refine⟨_,rfl,kJ z (fun _ q=>⟨_,rfl,q⟩) T.cT T.cX (oX _ _ _ _) ⟨d,_,rfl,vX.t z.dc key,_,rfl,?_⟩⟩;rw[qW];by_cases G:c∈r
   ·rw[aL G];exact jw ⟨by decide,bh aw (fun p=>p.2 G) _ (Same.refl _)⟩
   ·rw[aJ G];exact iZ (L _ _ ⟨rfl,U,G,rfl⟩)
  rintro zzs H ⟨rfl,U,a1,rfl⟩;refine aF (fun zzs H1=>H1=H/\c∉st/\zzs=[zzR g,zzR tv,zzN,zzN,zzN]) (fun R L=>?_) ?_
  ·refine⟨_,rfl,kJ z (fun _ q=>⟨_,rfl,q⟩) T.cT T.fU (Ax _ _ _ _) (.inr (Ke ay z.hs.den ⟨_,rfl,?_⟩))⟩;refine cP (fun M=>?_) (fun M=>L _ _ ⟨rfl,iY M,rfl⟩);refine⟨_,rfl,g,Z.Game,dx,_,rfl,b3,T.cT,T.jr,a6a,?_⟩;rw[Yb];have av:SameBut g H (upd H g (.ins Z.Game dx (j7 ac S d true))):=(SameBut.refl g _).put;refine cj aw U a1 (dj M) _ av (Uj z av aC)
  rintro zzs H ⟨rfl,as,rfl⟩;refine aF (fun zzs H1=>∃ n:Addr,H n=none/\Same H H1/\H1 n=some (.lst [])/\zzs=[zzR g,zzR tv,zzR n,zzN,zzN]) (fun R L=>?_) ?_
  ·exact⟨by decide,fun n ah=>L _ _ ⟨n,ah,Same.put ah,aC,rfl⟩⟩
  rintro zzs H1 ⟨n,ah,s1,bi,rfl⟩;refine aF (fun zzs H2=>∃ k:Addr,H k=none/\n≠k/\Same H1 H2/\H2 k=some (.lst [.ref tv])/\zzs=[zzR g,zzR tv,zzR n,zzR k,zzN]) (fun R L=>?_) ?_
  ·exact⟨_,rfl,sz rfl,fun k Y=>L _ _ ⟨k,s1.free Y,aR bi Y,Same.put Y,aC,rfl⟩⟩
  rintro zzs H2 ⟨k,Y,a2,s2,bZ,rfl⟩;have cl:=(s1.trans s2).but d;have bt:∀ a,H a=none->a≠d:=fun a p=>(aR z.dc p).symm
  refine aF (fun zzs ax=>∃(j:List Cell)(N:Option V),SameBut d H ax/\cW K Z.Game Z.View ax g h w st (r++j) I ac S d/\Ls K ax n (j.map aD)/\mQ h w st r c [] j/\zzs=[zzR g,zzR tv,zzR n,zzR k,N]) (fun R L=>?_) ?_
  ·refine⟨fun m zzs H'=>∃(y j:List Cell)(N:Option V),SameBut d H H'/\cW K Z.Game Z.View H' g h w st (r++j) I ac S d/\Ls K H' n (j.map aD)/\Ls K H' k (y.map aD)/\mQ h w st r c y j/\m=(36-j.length)*9+y.length/\zzs=[zzR g,zzR tv,zzR n,zzR k,N],
    ⟨_,[c],[],none,cl,by rw[oA];exact z.mono (s1.trans s2),⟨[],s2 _ _ bi,.nil⟩,⟨_,bZ,.cons (ay.mono (s1.trans s2)) .nil⟩,.start U,rfl,rfl⟩,?_⟩
   rintro m zzs H' ⟨y,j,N,av,a8,aE,ca,J,rfl,rfl⟩;obtain⟨xs,ex,aK⟩:=id ca;have cc:xs.length=y.length:=by rw[aK.length,bf]
   have cg:=J.len U ao aH;have cn:=J.ln;refine⟨_,rfl,.inl ⟨k,_,rfl,.inl (SqL.of ex),_,_,rfl,rfl,_,rfl,?_⟩⟩;refine cP (fun aq=>?_) (fun aq=>?_)
   ·have aq:(0:Int)<(xs.length:Int):=dj aq;obtain⟨y,m,rfl⟩:∃ af m,y=af++[m]:=by
     rcases ZL y with p|⟨l,b,p⟩
     ·rw[p,vW] at cc;lia
     ·exact⟨l,b,by rw[p];simp⟩
    obtain⟨xs,u,rfl,bB,bT⟩:=wQ aK;obtain⟨D,rfl,_,bm⟩:=eX bT;have bb:=(J.wtr m (gw _ (cN.mpr rfl))).1;refine⟨fun bg C=>∃(af ai:List Cell)(N:Option V),SameBut d H C/\cW K Z.Game Z.View C g h w st (r++ai) I ac S d/\Ls K C n (ai.map aD)/\Ls K C k (af.map aD)/\mQ h w st r c af ai/\(36-ai.length)*9+af.length<(36-j.length)*9+(y++[m]).length/\bg=[zzR g,zzR tv,zzR n,zzR k,N],fun bg C b6=>?_,?_⟩
    ·obtain⟨af,ai,N,bE,bF,bG,bH,bI,bL,rfl⟩:=b6;exact⟨_,bL,af,ai,N,bE,bF,bG,bH,bI,rfl,rfl⟩
    have bM:k≠n:=a2.symm;have bu:k≠S:=by
     obtain⟨a5,e,_⟩:=z.hs;exact(aR e Y).symm
    have ce:n≠S:=by
     obtain⟨a5,e,_⟩:=z.hs;exact(aR e ah).symm
    refine aF (fun zzs C=>SameBut d H C/\cW K Z.Game Z.View C g h w st (r++j) I ac S d/\Ls K C n (j.map aD)/\Ls K C k (y.map aD)/\C D=some (.tup [.int m.1,.int m.2])/\zzs=[zzR g,zzR tv,zzR n,zzR k,zzR D]) (fun ba ap=>?_) ?_
    ·refine⟨_,rfl,.inl ⟨rfl,_,SqL.of ex⟩,k,_,V.ref D,rfl,rfl,ex,(by simp),?_⟩;rw[ZS];have x:SameBut k H' (upd H' k (.lst xs)):=(SameBut.refl k _).put;refine ap _ _ ⟨fun b o e ar=>x b o (av b o e ar) (aR e Y),Az a8 x ex aK bu,x.ls ex a2 aE,⟨xs,aC,x.cells ex bB⟩,x _ _ bm (fX bm ex (by intro p;cases p)),rfl⟩
    rintro zzs C ⟨bd,O,bo,br,aV,rfl⟩;have bn:C D=some (.tup ((j8 m).map kV)):=aV;obtain⟨cp,cr⟩:=O.ob;refine⟨_,rfl,kJ O (fun _ q=>⟨_,rfl,q⟩) T.cT T.cX (oX _ _ _ _) ⟨d,_,rfl,vX.t O.dc bn,_,rfl,?_⟩⟩;rw[qW];by_cases G:m∈r++j
    ·rw[aL G];exact iZ ⟨y,j,_,bd,O,bo,br,J.skip G a1,by rw[cL,lE];lia,rfl⟩
    rw[aJ G];refine jw ?_;have cv:(r++j).length<=100:=by rw[cL];lia
    refine aF (fun zzs B=>SameBut d H B/\cW K Z.Game Z.View B g h w st (r++(j++[m])) I ac S d/\Ls K B n (j.map aD)/\Ls K B k (y.map aD)/\B D=some (.tup [.int m.1,.int m.2])/\zzs=[zzR g,zzR tv,zzR n,zzR k,zzR D]) (fun ba ap=>?_) ?_
    ·refine kJ O (fun _ q=>⟨_,rfl,q⟩) T.cT T.dZ (v7 _ _ _ _) ⟨_,rfl,kJ O (fun _ q=>⟨_,rfl,q⟩) T.cT T.fU (Ax _ _ _ _) ?_⟩;dsimp only[fO];have bQ:Den K C (.ref D) (aD m):=.tup aV (.cons (.int _) (.cons (.int _) .nil));refine pF.mk O.fl bQ (by rw[jk];exact bb) O.hs fun B al=>?_
     rw[jk];have ag:=O.mono al;refine kJ ag (fun _ q=>⟨_,rfl,q⟩) T.cT T.cX (oX _ _ _ _) ⟨_,rfl,d,_,rfl,KH.t ag.dc (al _ _ bn) (ltl (by unfold mY;rw[bf];lia)),?_⟩;have bW:putK (mY h w st (r++j)) (j8 m) (.int (tM h w m st))=mY h w st (r++(j++[m])):=by
      rw[<- z9];exact Uc h w st (r++j) m G
     rw[bW];have bv:SameBut d B (upd B d (.dT (mY h w st (r++(j++[m]))))):=(SameBut.refl d _).put;have bw:zm B (upd B d (.dT (mY h w st (r++(j++[m]))))):=.put ag.dc (by intro xs p;cases p);have bq:∀(a:Addr)(cs:List Cell),a≠d->Ls K B a (cs.map aD)->Ls K (upd B d (.dT (mY h w st (r++(j++[m]))))) a (cs.map aD):=fun a cs cd ⟨zs,b0,bD⟩=>⟨zs,by rw[aN cd];exact b0,bw.cells bD⟩
     exact ap _ _ ⟨(bd.trans (al.but d)).trans bv,Ui ag bv aC,bq n j (bt _ ah) (bo.mono al),bq k y (bt _ Y) (br.mono al),bw _ _ (al _ _ aV),rfl⟩
    rintro zzs B ⟨bP,ag,b9,cb,a0,rfl⟩;have bR:Den K B (.ref D) (aD m):=.tup a0 (.cons (.int _) (.cons (.int _) .nil));refine aF (fun zzs W=>SameBut d H W/\cW K Z.Game Z.View W g h w st (r++(j++[m])) I ac S d/\Ls K W n ((j++[m]).map aD)/\Ls K W k (y.map aD)/\W D=some (.tup [.int m.1,.int m.2])/\zzs=[zzR g,zzR tv,zzR n,zzR k,zzR D]) (fun ba ap=>?_) ?_
    ·obtain⟨a3,ab,aM⟩:=id b9;have cx:a3.length=j.length:=by rw[aM.length,bf]
     refine⟨_,rfl,.inl ⟨rfl,_,SqL.of ab⟩,_,rfl,n,a3,_,rfl,rfl,ab,ltl (by lia),?_⟩;have x:SameBut n B (upd B n (.lst (a3++[V.ref D]))):=(SameBut.refl n _).put;refine ap _ _ ⟨fun b o e ar=>x b o (bP b o e ar) (aR e ah),Az ag x ab aM ce,⟨_,aC,?_⟩,x.ls ab bM cb,x _ _ a0 (fX a0 ab (by intro p;cases p)),rfl⟩;rw[iz];exact(x.cells ab aM).append (.cons (x.cell ab bR) .nil)
    rintro zzs W ⟨be,aa,bp,bs,bl,rfl⟩;have b8:W D=some (.tup ((j8 m).map kV)):=bl;have bS:Den K W (.ref D) (aD m):=.tup bl (.cons (.int _) (.cons (.int _) .nil));obtain⟨cq,ct⟩:=aa.ob;have mem:m∈r++(j++[m]):=gw _ (gw _ (cN.mpr rfl));refine kJ aa (fun _ q=>⟨_,rfl,q⟩) T.cT T.cX (oX _ _ _ _) ⟨_,rfl,d,.int (um h w st m),rfl,?_,.inl ⟨rfl,_,rfl,?_⟩⟩
    ·have:=vX.t aa.dc b8;rw[qW,aL mem] at this;exact this
    rw[eY];refine cP (fun aA=>?_) (fun aA=>?_)
    ·have az:um h w st m=0:=by have:=dj aA;lia
     obtain⟨aI,bj,aP⟩:=id bs;refine⟨_,rfl,.inl ⟨rfl,_,SqL.of bj⟩,kJ aa (fun _ q=>⟨_,rfl,q⟩) T.cT T.dZ (v7 _ _ _ _) ⟨_,rfl,?_⟩⟩;dsimp only[fO];refine mq.mk aa.fl bS (by rw[jk];exact bb) fun q a9 aT=>?_
     rw[jk] at aT;obtain⟨as,bX,a6⟩:=aT.ls;have am:=aT.same;have an:=am _ _ bj;have cw:aI.length+as.length<=1000:=by
      rw[aP.length,a6.length,bf,bf];have:=iT h w m;rw[cL] at cn;lia
     refine⟨k,q,aI,as,rfl,rfl,an,bX,small (by lia),?_⟩;have x:SameBut k a9 (upd a9 k (.lst (aI++as))):=(SameBut.refl k _).put;refine⟨y++gO h w m,j++[m],_,fun b o e ar=>x b o (am _ _ (be b o e ar)) (aR e Y),Az (aa.mono am) x an (aP.mono am) bu,x.ls an a2 (bp.mono am),⟨_,aC,?_⟩,J.XC G _ (fun _=>rfl) (fun p=>absurd az p),?_,rfl⟩
     ·rw[iz];exact(x.cells an (aP.mono am)).append (x.cells an a6)
     ·have:=iT h w m;have aS:=(J.XC G _ (fun _=>rfl) (fun p=>absurd az p)).len U ao aH;simp only[cL,lE] at aS ⊢;lia
    ·have az:um h w st m≠0:=fun e=>by rw[e] at aA;cases aA
     have a4:=J.XC G [] (fun p=>absurd p az) (fun _=>rfl);have aS:=a4.len U ao aH;rw[oA] at a4;refine⟨y,j++[m],_,be,aa,bp,bs,a4,?_,rfl⟩;simp only[cL,lE] at aS ⊢;lia
   ·have aq:¬(0:Int)<(xs.length:Int):=iY aq;have:y=[]:=KD.mp (by lia);subst this;exact L _ _ ⟨j,N,av,a8,aE,J,rfl⟩
  rintro zzs ax ⟨j,N,bc,a7,aE,J,rfl⟩;obtain⟨a5,bY,bA⟩:=aE;have cg:=J.len U ao aH;refine⟨_,rfl,n,a5,j,rfl,SqL.of bY,bA,by lia,fun q aI ds X pm bz ci bN=>?_⟩;have cf:H q=none:=by
   cases e:H q with
   |none=>rfl
   |some o=>
    by_cases p:q=d
    ·rw[p] at X;rw[a7.dc] at X;cases X
    ·rw[bc _ _ e p] at X;cases X
  exact ck aw U a1 as q _ j ds cf (bc.and X) (a7.mono (Same.put X)) (.new X bz) ci bN J.nd J.done
end
section
variable{zs:List Str}{w:Nat}{c:Cell}{b:Bool}
theorem WW{L:List Cell}(v:Vw zs w)(g:L.Pairwise bA)(c:∀ y∈L,aK zs w y=true)(d:gZ zs w L=true):¬VD zs w:=by
 obtain⟨h1,h2⟩:=(uq v g c).mp d;rintro⟨h,a,e⟩;unfold chL at a;rcases cZ.mp a with rfl|a
 ·have:iI zs w=[]:=e;rw[h1] at this;cases this
 rcases cG.mp a with a|a
 ·obtain⟨p,f,rfl⟩:=bV.mp a;have b:fW zs w p=[]:=e;have:=h2 p f;rw[b] at this;cases this
 ·obtain⟨x,_,rfl⟩:=bV.mp a;cases e
theorem X6{L:List Cell}(v:Vw zs w)(g:L.Pairwise bA)(d:∀ y∈L,aK zs w y=true)(f:gZ zs w L=true)(i:decide (c∈L)=b):¬cH zs w c b:=fun a=>by
 rcases(JF b).mp a with a|⟨p,j,h,e⟩
 ·exact WW v g d f a
 ·have h2:=((uq v g d).mp f).2 p j;have:=Hq.mp e _ h2;refine this (cR ?_);rw[<- i,vV,cF,iw];exact⟨fun y=>y.1,fun y=>⟨y,h⟩⟩
theorem Xk(v:Vw zs w)(i:aK zs w c=true)(d:¬cH zs w c b):∃ L:List Cell,L.Pairwise bA/\(∀ y∈L,aK zs w y=true)/\gZ zs w L=true/\decide (c∈L)=b:=by
 have f:((bM zs w).filter fun y=>decide (y∈layW zs w c b)).Pairwise bA:=(yK v.le v.w6).filter _;have pm:((bM zs w).filter fun y=>decide (y∈layW zs w c b)).Perm (layW zs w c b):=(O2 (iV f) (Qi v d)).mpr fun y=>by
  rw[cF,iw];refine⟨fun e=>e.2,fun e=>⟨?_,e⟩⟩;obtain⟨k,g,j⟩:=Bc.mp e;exact o7.mpr (tU v g ((jm v d g).subset j))
 have h:Asc ((bM zs w).filter fun y=>decide (y∈layW zs w c b)):=f.imp fun {a b} h1 h2=>by unfold bA at *;lia
 exact⟨_,f,vL v d pm,Kp v d pm h,Nv v i d pm⟩
end
section
variable{zs:List Str}{w:Nat}{c:Cell}
theorem a1a(v:Vw zs w):∀ p∈aU zs w,p.length<=(bM zs w).length:=fun p a=>by
 have h:=(qU (zs:=zs) (w:=w) v.le v.w6).length_eq;rw[cL] at h;have:=(List.sublist_flatten_of_mem a).length_le;lia
theorem Aa(v:Vw zs w){x t1 t2 m:Cell}(j:x∈bR zs w)(c:t1∈aM zs w x)(i:m∈aA zs w t1)(g:t2∈aM zs w m){L:List Cell}(nd:L.Nodup)(h:∀ y∈L,y∈aA zs w t1\/y∈aA zs w t2)(o:12<L.length):∃ p∈aU zs w,12<p.length:=by
 obtain⟨ok,f⟩:=iU (zs:=zs) (w:=w) v.le v.w6;obtain⟨p,d,e⟩:=f x j;obtain⟨y,k,rfl⟩:=ok.of p d;have a:=Part.join v.le v.w6 k;have n:=a.all x e t1 c m i;refine⟨_,d,?_⟩;have:=n6 (l2:=cD zs w y) nd fun b l=>by
  rcases h b l with q|q
  ·exact a.all x e t1 c b q
  ·exact a.all m n t2 g b q
 lia
def subs:List Cell->List (List Cell)
 |[]=>[[]]
 |x::l=>subs l++(subs l).map (x::·)
theorem Xc{L l:List Cell}(h:L.Sublist l):L∈subs l:=by
 induction h with
 |slnil=>exact cN.mpr rfl
 |cons x _ a=>exact gP _ a
 |cons_cons x _ a=>exact gw _ (bV.mpr ⟨_,a,rfl⟩)
theorem a0G{L:List Cell}(v:Vw zs w)(c:L.Pairwise bA)(a:∀ y∈L,aK zs w y=true):L∈subs (bM zs w):=by
 refine Xc ?_;have e:(bM zs w).filter (fun y=>decide (y∈L))=L:=by
  rw[Es (yK v.le v.w6) c];exact Hw.mpr fun y b=>cR (o7.mpr (a y b))
 rw[<- e];exact Cu
theorem Qp(v:Vw zs w)(a:aK zs w c=true)(b:Bool)(h:∀ L∈subs (bM zs w),gZ zs w L=true->decide (c∈L)≠b):cH zs w c b:=O5 fun i=>by
 obtain⟨L,d,e,f,g⟩:=Xk v a i;exact h L (a0G v d e) f g
theorem Qs:∀ {chs:List (List Cell×List (List Cell))} {a:List Int},(∀ ch∈chs,∀ l∈ch.2,l=[])->(∀ n,1<=n->co a n=0)->∀ n,1<=n->co (jN a chs) n=0
 |[],_,_,h,n,b=>h n b
 |ch::chs,a,h,ha,n,b=>by
  refine Qs (chs:=chs) (a:=mulL a (jX ch.1.length ch.2)) (fun c d=>h c (eO _ d)) (fun n b=>?_) n b;rw[W9];unfold cv;rw[lD (g:=fun _=>0) fun i k=>?_,vM];by_cases j:1<=i
  ·rw[ha i j,Pr]
  ·have e:i=0:=by lia
   subst e;have:co (jX ch.1.length ch.2) (n-0)=0:=by
    by_cases q:n-0<=ch.1.length
    ·rw[G9 q];have:(ch.2.map fun r=>(r.length:Int)).count ((n-0:Nat):Int)=0:=a05.mpr fun m=>by
      obtain⟨l,f,e⟩:=bV.mp m;rw[h ch cV l f] at e;simp at e;lia
     rw[this];rfl
    ·rw[Ad (by rw[j6];lia)]
   rw[this,Pq]
end
def vA:List Str:=["#1"]
def vB:List Str:=["###1"]
def vC:List Str:=["1#1"]
def vD:List Str:=["######","#1#1##","######"]
def vE:List Str:=["#2"]
def vF:List Str:=["#0#","###"]
def vG:List Str:=["######","#1#1##","######","000000","000100","000000"]
def vH:List Str:=["4#####","######","######","#1#1##","######"]
theorem yW{zs:List Str}{w:Nat}(h:(decide (1<=zs.length)&&decide (zs.length<=6)&&decide (1<=w)&&decide (w<=6)&&zs.all (fun z=>decide (z.length=w)&&z.cps.toList.all yU))=true):Vw zs w:=by
 simp only[nO,iw,nP] at h;obtain⟨⟨⟨⟨h1,h2⟩,d⟩,e⟩,b⟩:=h;exact⟨⟨h1,h2,d,e,fun z a=>(b z a).1⟩,fun z a c f=>(b z a).2 c f⟩
theorem wA:Vw vA 2:=yW (by decide +kernel)
theorem wB:Vw vB 4:=yW (by decide +kernel)
theorem wC:Vw vC 3:=yW (by decide +kernel)
theorem wD:Vw vD 6:=yW (by decide +kernel)
theorem wE:Vw vE 2:=yW (by decide +kernel)
theorem wF:Vw vF 3:=yW (by decide +kernel)
theorem wG:Vw vG 6:=yW (by decide +kernel)
theorem wH:Vw vH 6:=yW (by decide +kernel)
theorem a2A:∃ p∈aU vD 6,12<p.length:=Aa wD (x:=(0,0)) (t1:=(1,1)) (m:=(0,2)) (t2:=(1,3)) (L:=aA vD 6 (1,1)++(aA vD 6 (1,3)).filter fun y=>!decide (y∈aA vD 6 (1,1))) (by decide +kernel) (by decide +kernel) (by decide +kernel) (by decide +kernel) (by decide +kernel) (by decide +kernel) (by decide +kernel)
theorem KY:∃ p∈aU vG 6,12<p.length:=Aa wG (x:=(0,0)) (t1:=(1,1)) (m:=(0,2)) (t2:=(1,3)) (L:=aA vG 6 (1,1)++(aA vG 6 (1,3)).filter fun y=>!decide (y∈aA vG 6 (1,1))) (by decide +kernel) (by decide +kernel) (by decide +kernel) (by decide +kernel) (by decide +kernel) (by decide +kernel) (by decide +kernel)
theorem IK:∃ p∈aU vH 6,12<p.length:=Aa wH (x:=(2,0)) (t1:=(3,1)) (m:=(2,2)) (t2:=(3,3)) (L:=aA vH 6 (3,1)++(aA vH 6 (3,3)).filter fun y=>!decide (y∈aA vH 6 (3,1))) (by decide +kernel) (by decide +kernel) (by decide +kernel) (by decide +kernel) (by decide +kernel) (by decide +kernel) (by decide +kernel)
theorem few{zs:List Str}{w:Nat}(v:Vw zs w)(h:(bM zs w).length<=12):∀ p∈aU zs w,p.length<=12:=fun p a=>dU (a1a v p a) h
theorem noE(b:Bool):cH vE 2 (0,0) b:=Qp wE (by decide +kernel) b (by cases b<;>decide +kernel)
theorem noA:cH vA 2 (0,0) false:=Qp wA (by decide +kernel) false (by decide +kernel)
theorem a6J:¬cH vA 2 (0,0) true:=X6 (L:=[(0,0)]) wA (by decide +kernel) (by decide +kernel) (by decide +kernel) (by decide +kernel)
theorem a4q:j5 vF 3 4=0:=by
 unfold j5;rw[show(4:Int)=((4:Nat):Int) from rfl,Wa];refine Qs (fun r a l f=>?_) (fun n m=>?_) 4 (by decide)
 ·unfold chL at a;rcases cZ.mp a with rfl|a
  ·have b:l∈iI vF 3:=f;unfold iI at b;split at b
   ·cases b
   ·exact cN.mp b
  rcases cG.mp a with a|a
  ·obtain⟨p,o,rfl⟩:=bV.mp a;obtain⟨ok,_⟩:=iU (zs:=vF) (w:=3) wF.le wF.w6;obtain⟨x,c,rfl⟩:=ok.of p o;have q:=Part.join wF.le wF.w6 c;obtain⟨h1,h2⟩:=(q.mem l).mp f;refine List.eq_nil_iff_forall_not_mem.mpr fun y g=>?_
   have i:=h1.subset g;have h:y∈bM vF 3:=by
    have:=jd.edge c ((dB (j9 c)).mp i);exact(cF.mp this).1
   have d:∀ j∈bM vF 3,((0,1):Cell)∈aM vF 3 j/\j∈aA vF 3 (0,1):=by decide +kernel
   have:=h2 y i (0,1) (d y h).1;have k:gB vF (0,1)=0:=by decide +kernel
   rw[k] at this;have e:mV (aA vF 3 (0,1)) l=0:=by lia
   unfold mV at e;have:=Hq.mp (KD.mp e) y (d y h).2;exact this (cR g)
  ·exfalso;have:lB vF 3=[]:=by decide +kernel
   rw[this] at a;cases a
 ·unfold co;rw[eE,Fv (by simpa using m)];rfl
theorem Sg{K:ao}{C k r p l:Addr}{h w:Nat}{st:List Cell}{H:Hp}{Q:Addr->Hp->Prop}{s:XK}(y:Ls K H l (st.map aD))(D:st.length<=36)(hsz:qF (h:Int) (w:Int)=true)(u:layB (iH h w) w st=true)
  (q:∀ x f i d c,H d=none->Same H c->cW K C k c x h w st [] false f i d->Q x c):∀ x a,H x=none->H a=none->a≠x->zO K C k r p (.ref x::([.int h,.int w,.ref l]++[])) (upd (upd H a (.own x)) x (.ins C a [])) (fun v t=>v=.non/\Q x t) s:=by
 intro x a n A B;have z:(upd H a (.own x)) x=none:=by rw[aN B.symm];exact n
 have j:Same H (upd (upd H a (.own x)) x (.ins C a [])):=(Same.put A).and z;refine⟨x,a,l,h,w,st,rfl,aC,y.mono j,by lia,fun g=>(by rw[hsz] at g;cases g),fun _ g=>(by rw[jR,jR,u] at g;cases g),fun _ _ c f i d J L nd E F G I m keep=>⟨rfl,?_⟩⟩;rw[jR,jR] at m;exact q x f i d c (j.free nd) (fun b o e=>keep b o (j _ _ e) (aR e n)) m
def DP(Z:Adr)(n:Int):Option Addr:=if n=0 then some Z.BadView else if n=1 then some Z.BadView else if n=2 then some Z.BadLaying else if n=3 then some Z.BadLaying else if n=4 then some Z.NoCell else if n=5 then some Z.NoCell else if n=6 then some Z.NoCell else none
def Nx(Z:Adr)(n:Int):Option Addr:=if n=7 then some Z.TooGreat else if n=8 then some Z.TooGreat else if n=9 then some Z.Impossible else if n=10 then some Z.Impossible else if n=11 then some Z.NotOpen else if n=12 then some Z.Over else if n=13 then some Z.Over else if n=14 then some Z.TooGreat else if n=15 then some Z.TooGreat else if n=16 then some Z.TooGreat else if n=17 then some Z.TooGreat else if n=18 then some Z.TooGreat else if n=20 then some Z.TooGreat else if n=19 then some Z.TooGreat else none
theorem Xz{op:List Cell}(nd:op.Nodup)(b:∀ y,y∈op↔Reach (1:Nat) (2:Nat) [(0,0)] [] (0,1) y):(([]:List Cell)++op).length=1:=by
 have only:∀ y,Reach (1:Nat) (2:Nat) [(0,0)] [] (0,1) y->y=(0,1):=fun y r=>by
  induction r with
  |base=>rfl
  |step _ a _ _ d=>rw[d] at a;exact absurd a (by decide +kernel)
 have h1:=n6 (l2:=[(0,1)]) nd fun y c=>cN.mpr (only y ((b y).mp c))
 have h2:0<op.length:=Oc ((b (0,1)).mpr .base);rw[Pg];have:[((0,1):Cell)].length=1:=rfl;lia
theorem made{a:Hp}{x b C:Addr}(nx:a x=none)(c:a b=none)(d:b≠x):Same a (upd (upd a b (.own x)) x (.ins C b [])):=(Same.put c).and (by rw[aN d.symm];exact nx)
theorem fV{zs:List Str}{w:Nat}:(∃ p∈aU zs w,12<p.length)->(∀ p∈aU zs w,p.length<=12)->False:=fun h b=>by obtain⟨r,a,h⟩:=h;exact Nat.not_lt.mpr (b r a) h
def tL(Z:Adr)(g:Adr->Int->Option Addr):Sp:=fun vs H Q E=>∃ n:Int,vs=[.int n]/\(∀ C,g Z n=some C->∀ H',Same H H'->E (.ref C) none H')/\(g Z n=none->∀ H',Same H H'->Q .non H')
structure Wh(K:ao)(Z:Adr)(C:Addr)(bs:List Bool)(n:Nat):Prop where
 ex:nR K C
 ec:gG K C
 k0:PySem.W.kitOne K (.ref C) (.ref Z.BadView)=some (bs.getD 0 false)
 k1:PySem.W.kitOne K (.ref C) (.ref Z.BadLaying)=some (bs.getD 1 false)
 k2:PySem.W.kitOne K (.ref C) (.ref Z.NoCell)=some (bs.getD 2 false)
 k3:PySem.W.kitOne K (.ref C) (.ref Z.TooGreat)=some (bs.getD 3 false)
 k4:PySem.W.kitOne K (.ref C) (.ref Z.Impossible)=some (bs.getD 4 false)
 k5:PySem.W.kitOne K (.ref C) (.ref Z.NotOpen)=some (bs.getD 5 false)
 k6:PySem.W.kitOne K (.ref C) (.ref Z.Over)=some (bs.getD 6 false)
 kf:PySem.W.kitOne K (.ref C) (.ref Z.FieldError)=some true
 kv:PySem.W.kitOne K (.ref C) (.type "ValueError")=some true
 ln:bs.length=7
 ct:bs.count true=1
 at_:bs[n]?=some true
 no:∀ m,m<n->bs[m]?=some false
def T7(K:ao)(Z:Adr):Sp:=fun vs H Q _=>∃(ea C:Addr)(bs:List Bool)(n:Nat),vs=[.ref ea]/\H ea=some (Fz ea C)/\Wh K Z C bs n/\∀ H',Same H H'->Q (.int n) H'
section
variable{P:Program}{w:World}{K:ao}{mg:Str->Option Value}{base:Heap}{Z:Adr}
theorem d7{c:Hp}{g:Addr}{zz:List Str}{h:Nat}{Q:Addr->Hp->Prop}{m:XK}(t:c g=some (.lst (zz.map V.str)))(d:Vw zz h)(q:∀ x f,Same c f->cI Z.View f x zz h->Q x f)(x a:Addr)(nx:c x=none)(A:c a=none)(B:a≠x) :
  xZ K Z.View Z.BadView (.ref x::([.ref g]++[])) (upd (upd c a (.own x)) x (.ins Z.View a [])) (fun v n=>v=.non/\Q x n) m:=by
 have z:(upd c a (.own x)) x=none:=by rw[aN B.symm];exact nx
 have k:Same c (upd (upd c a (.own x)) x (.ins Z.View a [])):=(Same.put A).and z;have F:=d.le;have E:=d.w6;refine⟨x,a,g,zz,rfl,aC,SqL.of (k _ _ t),by lia,fun r u=>by have:=d.len r u;lia,fun j=>(by rw[d.ok] at j;cases j),fun _ H' y l G e C D s w keep=>⟨rfl,?_⟩⟩;have p:l.length=h:=d.len l (by rw[e];exact cV);refine q x H' (fun b o i=>keep b o (k _ _ i) (aR i nx)) ⟨⟨a,y,?_,s⟩,d⟩;rw[<- p];exact w
theorem Z6{a:Hp}{c:Addr}{Q:Addr->Hp->Prop}{d:XK}(h:a c=some (.lst []))(q:∀ e,Same a e->d (.ref Z.BadView) none e)(x b:Addr)(nx:a x=none)(l:a b=none)(m:b≠x) :
  xZ K Z.View Z.BadView (.ref x::([.ref c]++[])) (upd (upd a b (.own x)) x (.ins Z.View b [])) (fun v g=>v=.non/\Q x g) d:=by
 have k:(upd a b (.own x)) x=none:=by rw[aN m.symm];exact nx
 have f:Same a (upd (upd a b (.own x)) x (.ins Z.View b [])):=(Same.put l).and k;exact⟨x,b,c,[],rfl,aC,SqL.of (f _ _ h),by decide,(fun r i=>by cases i),fun _ H' s'=>q _ (f.trans s'),fun j=>absurd j (by decide +kernel)⟩
theorem a2F{H:Hp}{p l:Addr}{a us:List Bool}{Q:VK}(c:H p=some (.lst (a.map V.bl)))(b:H l=some (.lst (us.map V.bl)))(hw:a.length+us.length<=10000)(d:∀ q,H q=none->Q (.ref q) (upd H q (.lst ((a++us).map V.bl)))):K1 (.ref p) (.ref l) H Q:=
 ⟨_,_,c,b,(by rw[bf,bf];exact small hw),fun q h=>by have:=d q h;rw[iz] at this;exact this⟩
theorem Xy{f:Addr}{v:FuncData} (F:Fun K "_law_which" "_law_which" qt f v) (T:Txt K mg Z):FnH P w K mg base 1 f v ["e"] (T7 K Z):=by
 refine F.a6C oJ (fun J H Q E h=>?_) (fun cdv A outer s H J Q D h=>?_)
 ·obtain⟨ea,C,bs,n,rfl,_⟩:=h;rfl
 ·obtain⟨ea,C,bs,n,rfl,b,a,B⟩:=h;have G:=huH D;refine⟨_,(au (bK (i:=1) oJ.nd rfl (Or.inl rfl) (bU (aj (aX (qd (K:=K)) rfl T.dI dJ (aj (rv 0) (aj (yQ T.sI rfl) ak))) (aj (aX (qd (K:=K)) rfl T.dI dJ (aj (rv 0) (aj (yQ T.nU rfl) ak))) (aj (aX (qd (K:=K)) rfl T.dI dJ (aj (rv 0) (aj (yQ T.mR rfl) ak))) (aj (aX (qd (K:=K)) rfl T.dI dJ (aj (rv 0) (aj (yQ T.uh rfl) ak))) ak)))))) (au (bK (i:=1) oJ.nd rfl (Or.inl rfl) (lC jE (rv 1) (bU (aj (aX (qd (K:=K)) rfl T.dI dJ (aj (rv 0) (aj (yQ T.lZ rfl) ak))) (aj (aX (qd (K:=K)) rfl T.dI dJ (aj (rv 0) (aj (yQ T.wK rfl) ak))) (aj (aX (qd (K:=K)) rfl T.dI dJ (aj (rv 0) (aj (yQ T.La rfl) ak))) ak)))))) (au (bO (Nh (K8 (jf (gY (aX (qd (K:=K)) rfl T.dI dJ (aj (rv 0) (aj (yQ T.pR rfl) ak))))) (K8 (jf (gY (aX (qd (K:=K)) rfl T.dI dJ (aj (rv 0) (aj (a6z T.uP rfl Dv) ak))))) (Gy (aZ (Fe.or (Ez (K:=K) G)) (nZ (K:=K) lU Zx PySem.F.type_list_count (Wz (K:=K)) (rv 1) (aj qI ak)) aG (bC _)))))) (aB (aY (a6A a4p aG))) aO) (aB (aY (nZ (K:=K) lU Zy PySem.F.type_list_index (WK (K:=K)) (rv 1) (aj qI ak))))))),?_⟩;obtain⟨c,d,e,g,j,k,l,z⟩:∃ c d e g j k l:Bool,bs=[c,d,e,g,j,k,l]:=by
   have:=a.ln
   match bs,this with
   |[c,d,e,g,j,k,l],_=>exact⟨c,d,e,g,j,k,l,rfl⟩
  subst z;refine aF (fun zzs H1=>∃ q:Addr,Same H H1/\H1 q=some (.lst ([c,d,e,g].map V.bl))/\zzs=[zzR ea,zzR q]) (fun R m=>?_) ?_
  ·refine⟨_,rfl,_,_,ea,C,_,rfl,rfl,b,a.ex,a.k0,_,rfl,_,_,ea,C,_,rfl,rfl,b,a.ex,a.k1,_,rfl,_,_,ea,C,_,rfl,rfl,b,a.ex,a.k2,_,rfl,_,_,ea,C,_,rfl,rfl,b,a.ex,a.k3,sz rfl,fun q t=>?_⟩;exact m _ _ ⟨q,Same.put t,aC,rfl⟩
  rintro zzs H1 ⟨q,s1,y,rfl⟩;refine aF (fun zzs H2=>∃ q:Addr,Same H H2/\H2 q=some (.lst ([c,d,e,g,j,k,l].map V.bl))/\zzs=[zzR ea,zzR q]) (fun R m=>?_) ?_
  ·refine⟨_,rfl,_,rfl,_,_,ea,C,_,rfl,rfl,s1 _ _ b,a.ex,a.k4,_,rfl,_,_,ea,C,_,rfl,rfl,s1 _ _ b,a.ex,a.k5,_,rfl,_,_,ea,C,_,rfl,rfl,s1 _ _ b,a.ex,a.k6,sz rfl,fun r I=>?_⟩;have x:=Same.put (o:=.lst ([j,k,l].map V.bl)) I;exact a2F (x _ _ y) aC (by show 4+3<=10000;decide) fun q t=>m _ _ ⟨q,s1.trans (x.and t),aC,rfl⟩
  rintro zzs H2 ⟨q,s2,p,rfl⟩;refine aF (fun zzs u=>H2=u/\zzs=[zzR ea,zzR q]) (fun R m=>?_) ?_
  ·refine⟨_,rfl,_,_,ea,C,_,rfl,rfl,s2 _ _ b,a.ex,a.kf,_,rfl,iZ ⟨_,rfl,_,_,ea,C,_,rfl,rfl,s2 _ _ b,a.ex,a.kv,_,rfl,iZ ?_⟩⟩;refine⟨_,rfl,.inl ⟨rfl,_,SqL.of p⟩,q,[c,d,e,g,j,k,l],rfl,rfl,SqL.of p,?_⟩;rw[a.ct];exact .inl ⟨rfl,_,rfl,iZ (m _ _ ⟨rfl,rfl⟩)⟩
  rintro zzs u ⟨rfl,rfl⟩;exact⟨_,rfl,.inl ⟨rfl,_,SqL.of p⟩,q,[c,d,e,g,j,k,l],n,rfl,rfl,SqL.of p,by show 7<=100;decide,a.at_,a.no,B _ s2⟩
theorem Mt{f:Addr}{U:FuncData} (F:Fun K "_law_first" "_law_first" qp f U) (T:Txt K mg Z) (z:Md P w K mg base 3 "View" ["self","rows"] Z.View (xZ K Z.View Z.BadView)) (Y:Md P w K mg base 5 "Game" ["self","height","width","stones"] Z.Game (zO K Z.Game Z.View Z.BadView Z.BadLaying)) (ab:Df P w K mg base 4 "keeps" ["view","laying"] (SX K Z.View Z.BadLaying)) (ad:Df P w K mg base 2 "near" ["view","cell"] (mq K Z.View Z.NoCell)) (af:Df P w K mg base 5 "layings" ["view","cell"] (yg K Z.View Z.NoCell Z.TooGreat)) (ae:Df P w K mg base 7 "chance" ["view","stones","cell"] (BZ K Z.View Z.NoCell Z.TooGreat Z.Impossible)):cB P w K mg base (CXE P w) 8 f U ["way"] (tL Z DP):=by
 refine F.vq Ea (fun ah H Q E h=>?_) (fun cdv A outer s H ah Q E j h=>?_)
 ·obtain⟨n,rfl,_⟩:=h;rfl
 ·obtain⟨n,rfl,r,ac⟩:=h;have u:=lA j;have c:Same H H:=Same.refl _;refine⟨_,(au (bO (RT.nox (aZ (fj.or (f9 (K:=K) u)) (rv 0) aG (bC _))) (aB (bJ (fG z j rfl cg (aj (bU ak) ak)))) aO) (au (bO (RT.nox (aZ (fj.or (f9 (K:=K) u)) (rv 0) aG (bC _))) (aB (bJ (fG Y j rfl cg (aj aG (aj aG (aj (bU (aj (eG (aj aG (aj aG ak))) ak)) ak)))))) aO) (au (bO (RT.nox (aZ (fj.or (f9 (K:=K) u)) (rv 0) aG (bC _))) (aB (bJ (aQ ab j rfl cg (aj (fG z j rfl aW (aj (bU (aj bx ak)) ak)) (aj (bU (aj (eG (aj aG (aj aG ak))) ak)) ak))))) aO) (au (bO (RT.nox (aZ (fj.or (f9 (K:=K) u)) (rv 0) aG (bC _))) (aB (bJ (fG Y j rfl cg (aj aG (aj aG (aj (bU (aj (eG (aj aG (aj aG ak))) (aj (eG (aj aG (aj aG ak))) ak))) ak)))))) aO) (au (bO (RT.nox (aZ (fj.or (f9 (K:=K) u)) (rv 0) aG (bC _))) (aB (bJ (aQ ad j rfl cg (aj (fG z j rfl aW (aj (bU (aj bx ak)) ak)) (aj (eG (aj aG (aj aG ak))) ak))))) aO) (au (bO (RT.nox (aZ (fj.or (f9 (K:=K) u)) (rv 0) aG (bC _))) (aB (bJ (aQ af j rfl cg (aj (fG z j rfl aW (aj (bU (aj bx ak)) ak)) (aj (eG (aj aG (aj aG ak))) ak))))) aO) (aB (bO (RT.nox (aZ (fj.or (f9 (K:=K) u)) (rv 0) aG (bC _))) (aB (bJ (aQ ae j rfl cg (aj (fG z j rfl aW (aj (bU (aj bx ak)) ak)) (aj aG (aj (eG (aj aG (aj aG ak))) ak)))))) aO)))))))),?_⟩;refine aF (fun zzs H1=>n≠0/\Same H H1/\zzs=[some (.int n)]) (fun R k=>?_) ?_
  ·refine⟨_,rfl,.inl ⟨rfl,_,rfl,?_⟩⟩;rw[eY];by_cases e:n=0
   ·rw[cR e];subst e;refine jw ?_;refine⟨by decide,fun l i=>?_⟩;dsimp only[fO];exact Z6 aC fun ai g=>r _ rfl _ (c.trans ((Same.put i).trans g))
   ·rw[cU e];exact iZ (k _ _ ⟨e,c,rfl⟩)
  clear c;rintro zzs H1 ⟨al,c,rfl⟩;refine aF (fun zzs H1=>n≠1/\Same H H1/\zzs=[some (.int n)]) (fun R k=>?_) ?_
  ·refine⟨_,rfl,.inl ⟨rfl,_,rfl,?_⟩⟩;rw[eY];by_cases e:n=1
   ·rw[cR e];subst e;refine jw ?_;refine⟨sz rfl,fun O M=>?_⟩;have G:=Same.put (o:=.tup [V.int 9,V.int 9]) M;refine⟨sz rfl,fun l i=>?_⟩;have S:=(G).and (o:=.lst [V.ref O]) i;have I:Ls K _ l (([(9,9)]:List Cell).map aD):=.new i (.cons (bT (a:=9) (b:=9)) .nil);dsimp only[fO];intro x dx N J L;have B:=made (C:=Z.Game) N J L;exact⟨x,dx,l,0,7,_,rfl,aC,I.mono B,by decide,fun _ H' s'=>r _ rfl _ (c.trans (S.trans (B.trans s'))),fun d=>absurd d (by decide),fun d=>absurd d (by decide)⟩
   ·rw[cU e];exact iZ (k _ _ ⟨e,c,rfl⟩)
  clear c;rintro zzs H1 ⟨am,c,rfl⟩;refine aF (fun zzs H1=>n≠2/\Same H H1/\zzs=[some (.int n)]) (fun R k=>?_) ?_
  ·refine⟨_,rfl,.inl ⟨rfl,_,rfl,?_⟩⟩;rw[eY];by_cases e:n=2
   ·rw[cR e];subst e;refine jw ?_;refine⟨sz rfl,fun l i=>?_⟩;have p:=Same.put (o:=.lst (vA.map V.str)) i;dsimp only[fO];refine d7 (zz:=vA) aC wA fun x H2 s2 y=>?_
    refine⟨sz rfl,fun t v=>?_⟩;have m:=Same.put (o:=.tup [V.int 0,V.int 1]) v;refine⟨sz rfl,fun q X=>?_⟩;have aa:=m.and (o:=.lst [V.ref t]) X;exact⟨x,q,vA,2,[(0,1)],rfl,y.mono aa,.new X (.cons (bT (a:=0) (b:=1)) .nil),by decide,fun d=>absurd d (by decide +kernel),fun _ H' s'=>r _ rfl _ (c.trans (p.trans (s2.trans (aa.trans s'))))⟩
   ·rw[cU e];exact iZ (k _ _ ⟨e,c,rfl⟩)
  clear c;rintro zzs H1 ⟨an,c,rfl⟩;refine aF (fun zzs H1=>n≠3/\Same H H1/\zzs=[some (.int n)]) (fun R k=>?_) ?_
  ·refine⟨_,rfl,.inl ⟨rfl,_,rfl,?_⟩⟩;rw[eY];by_cases e:n=3
   ·rw[cR e];subst e;refine jw ?_;refine⟨sz rfl,fun O M=>?_⟩;have G:=Same.put (o:=.tup [V.int 1,V.int 0]) M;refine⟨sz rfl,fun p ag=>?_⟩;have W:=Same.put (o:=.tup [V.int 0,V.int 0]) ag;refine⟨sz rfl,fun l i=>?_⟩;have S:=(G.trans W).and (o:=.lst [V.ref O,V.ref p]) i;have I:Ls K _ l (([(1,0),(0,0)]:List Cell).map aD):=.new i (.cons ((bT (a:=1) (b:=0)).mono W) (.cons (bT (a:=0) (b:=0)) .nil));dsimp only[fO];intro x dx N J L;have B:=made (C:=Z.Game) N J L;exact⟨x,dx,l,2,2,_,rfl,aC,I.mono B,by decide,fun d=>absurd d (by decide),fun _ _ H' s'=>r _ rfl _ (c.trans (S.trans (B.trans s'))),fun _ d=>absurd d (by decide +kernel)⟩
   ·rw[cU e];exact iZ (k _ _ ⟨e,c,rfl⟩)
  clear c;rintro zzs H1 ⟨ao,c,rfl⟩;refine aF (fun zzs H1=>n≠4/\Same H H1/\zzs=[some (.int n)]) (fun R k=>?_) ?_
  ·refine⟨_,rfl,.inl ⟨rfl,_,rfl,?_⟩⟩;rw[eY];by_cases e:n=4
   ·rw[cR e];subst e;refine jw ?_;refine⟨sz rfl,fun l i=>?_⟩;have p:=Same.put (o:=.lst (vA.map V.str)) i;dsimp only[fO];refine d7 (zz:=vA) aC wA fun x H2 s2 y=>?_
    refine⟨sz rfl,fun t v=>?_⟩;have m:=Same.put (o:=.tup [V.int 1,V.int 0]) v;have D:=c.trans (p.trans (s2.trans m));exact⟨x,.ref t,vA,2,(1,0),rfl,y.mono m,bT (a:=1) (b:=0),fun d=>absurd d (by decide +kernel),fun _ H' s'=>r _ rfl _ (D.trans s')⟩
   ·rw[cU e];exact iZ (k _ _ ⟨e,c,rfl⟩)
  clear c;rintro zzs H1 ⟨ap,c,rfl⟩;refine aF (fun zzs H1=>n≠5/\Same H H1/\zzs=[some (.int n)]) (fun R k=>?_) ?_
  ·refine⟨_,rfl,.inl ⟨rfl,_,rfl,?_⟩⟩;rw[eY];by_cases e:n=5
   ·rw[cR e];subst e;refine jw ?_;refine⟨sz rfl,fun l i=>?_⟩;have p:=Same.put (o:=.lst (vB.map V.str)) i;dsimp only[fO];refine d7 (zz:=vB) aC wB fun x H2 s2 y=>?_
    refine⟨sz rfl,fun t v=>?_⟩;have m:=Same.put (o:=.tup [V.int 0,V.int 0]) v;have D:=c.trans (p.trans (s2.trans m));exact⟨x,.ref t,vB,4,(0,0),rfl,y.mono m,bT (a:=0) (b:=0),fun _ H' s'=>r _ rfl _ (D.trans s'),fun d=>absurd d (by decide +kernel),fun d=>absurd d (by decide +kernel)⟩
   ·rw[cU e];exact iZ (k _ _ ⟨e,c,rfl⟩)
  clear c;rintro zzs H1 ⟨aq,c,rfl⟩;refine⟨_,rfl,.inl ⟨rfl,_,rfl,?_⟩⟩;rw[eY];by_cases e:n=6
  ·rw[cR e];subst e;refine jw ?_;refine⟨sz rfl,fun l i=>?_⟩;have p:=Same.put (o:=.lst (vC.map V.str)) i;dsimp only[fO];refine d7 (zz:=vC) aC wC fun x H2 s2 y=>?_
   refine⟨sz rfl,fun t v=>?_⟩;have m:=Same.put (o:=.tup [V.int 0,V.int 0]) v;have D:=c.trans (p.trans (s2.trans m));exact⟨x,1,.ref t,vC,3,(0,0),rfl,y.mono m,bT (a:=0) (b:=0),fun _ H' s'=>r _ rfl _ (D.trans s'),fun d=>absurd d (by decide +kernel),fun d=>absurd d (by decide +kernel),fun d=>absurd d (by decide +kernel)⟩
  ·rw[cU e];exact iZ (ac (by unfold DP;simp only[*,nH]) _ c)
theorem JQ{f:Addr}{ah:FuncData} (F:Fun K "_law_second" "_law_second" oF f ah) (T:Txt K mg Z) (C:Md P w K mg base 3 "View" ["self","rows"] Z.View (xZ K Z.View Z.BadView)) (ai:Md P w K mg base 5 "Game" ["self","height","width","stones"] Z.Game (zO K Z.Game Z.View Z.BadView Z.BadLaying)) (X:Mth P w K mg base 4 Z.Game "uncover" ["self","cell"] (kj K Z.Game Z.View Z.Over Z.NoCell)) (al:Df P w K mg base 7 "count" ["view","stones"] (SN K Z.View Z.TooGreat)) (Y:Df P w K mg base 7 "chance" ["view","stones","cell"] (BZ K Z.View Z.NoCell Z.TooGreat Z.Impossible)) (S:Df P w K mg base 8 "sure" ["view","cell"] (YJ K Z.View Z.NoCell Z.TooGreat Z.Impossible)) (ae:Df P w K mg base 8 "shown" ["view","cell"] (YH K Z.View Z.NoCell Z.TooGreat Z.Impossible Z.NotOpen)):cB P w K mg base (CXE P w) 9 f ah ["way"] (tL Z Nx):=by
 refine F.vq rH (fun as H Q E h=>?_) (fun cdv A outer s H as Q E k h=>?_)
 ·obtain⟨n,rfl,_⟩:=h;rfl
 ·obtain⟨n,rfl,z,an⟩:=h;have B:=lA k;have g:Same H H:=Same.refl _;refine⟨_,(au (bO (RT.nox (aZ (fj.or (f9 (K:=K) B)) (rv 0) aG (bC _))) (aB (bJ (aQ al k rfl cg (aj (fG C k rfl aW (aj (bU (aj bx (aj bx (aj bx ak)))) ak)) (aj aG ak))))) aO) (au (bO (RT.nox (aZ (fj.or (f9 (K:=K) B)) (rv 0) aG (bC _))) (aB (bJ (aQ S k rfl cg (aj (fG C k rfl aW (aj (bU (aj bx (aj bx (aj bx ak)))) ak)) (aj (eG (aj aG (aj aG ak))) ak))))) aO) (au (bO (RT.nox (aZ (fj.or (f9 (K:=K) B)) (rv 0) aG (bC _))) (aB (bJ (aQ S k rfl cg (aj (fG C k rfl aW (aj (bU (aj bx ak)) ak)) (aj (eG (aj aG (aj aG ak))) ak))))) aO) (au (bO (RT.nox (aZ (fj.or (f9 (K:=K) B)) (rv 0) aG (bC _))) (aB (bJ (aQ Y k rfl cg (aj (fG C k rfl aW (aj (bU (aj bx (aj bx ak))) ak)) (aj aG (aj (eG (aj aG (aj aG ak))) ak)))))) aO) (au (bO (RT.nox (aZ (fj.or (f9 (K:=K) B)) (rv 0) aG (bC _))) (aB (bJ (aQ ae k rfl cg (aj (fG C k rfl aW (aj (bU (aj bx ak)) ak)) (aj (eG (aj aG (aj aG ak))) ak))))) aO) (au (bO (RT.nox (aZ (fj.or (f9 (K:=K) B)) (rv 0) aG (bC _))) (aB (bJ (N7 X k cg (fG ai k rfl aW (aj aG (aj aG (aj (bU (aj (eG (aj aG (aj aG ak))) ak)) ak)))) (aj (eG (aj aG (aj aG ak))) ak)))) aO) (au (bO (RT.nox (aZ (fj.or (f9 (K:=K) B)) (rv 0) aG (bC _))) (au (RS.nox (bK (i:=1) rH.nd rfl (Or.inl rfl) (fG ai k rfl aW (aj aG (aj aG (aj (bU (aj (eG (aj aG (aj aG ak))) ak)) ak)))))) (au (RS.nox (bJ (N7 X k aW (rv 1) (aj (eG (aj aG (aj aG ak))) ak)))) (aB (bJ (N7 X k cg (rv 1) (aj (eG (aj aG (aj aG ak))) ak)))))) aO) (au (bO (RT.nox (aZ (fj.or (f9 (K:=K) B)) (rv 0) aG (bC _))) (aB (bJ (aQ Y k rfl cg (aj (fG C k rfl aW (aj (bU (aj bx (aj bx (aj bx (aj bx (aj bx (aj bx ak))))))) ak)) (aj aG (aj (eG (aj aG (aj aG ak))) ak)))))) aO) (au (bO (RT.nox (aZ (fj.or (f9 (K:=K) B)) (rv 0) aG (bC _))) (aB (bJ (aQ ae k rfl cg (aj (fG C k rfl aW (aj (bU (aj bx (aj bx (aj bx (aj bx (aj bx (aj bx ak))))))) ak)) (aj (eG (aj aG (aj aG ak))) ak))))) aO) (au (bO (RT.nox (aZ (fj.or (f9 (K:=K) B)) (rv 0) aG (bC _))) (aB (bJ (aQ S k rfl cg (aj (fG C k rfl aW (aj (bU (aj bx (aj bx (aj bx (aj bx (aj bx (aj bx ak))))))) ak)) (aj (eG (aj aG (aj aG ak))) ak))))) aO) (au (bO (RT.nox (aZ (fj.or (f9 (K:=K) B)) (rv 0) aG (bC _))) (aB (bJ (aQ S k rfl cg (aj (fG C k rfl aW (aj (bU (aj bx (aj bx (aj bx (aj bx (aj bx ak)))))) ak)) (aj (eG (aj aG (aj aG ak))) ak))))) aO) (au (bO (RT.nox (aZ (fj.or (f9 (K:=K) B)) (rv 0) aG (bC _))) (aB (bJ (aQ ae k rfl cg (aj (fG C k rfl aW (aj (bU (aj bx (aj bx (aj bx (aj bx (aj bx ak)))))) ak)) (aj (eG (aj aG (aj aG ak))) ak))))) aO) (au (bO (RT.nox (aZ (fj.or (f9 (K:=K) B)) (rv 0) aG (bC _))) (aB (bJ (aQ al k rfl cg (aj (fG C k rfl aW (aj (bU (aj bx (aj bx (aj bx (aj bx (aj bx ak)))))) ak)) (aj aG ak))))) aO) (aB (bO (RT.nox (aZ (fj.or (f9 (K:=K) B)) (rv 0) aG (bC _))) (aB (bJ (aQ Y k rfl cg (aj (fG C k rfl aW (aj (bU (aj bx (aj bx (aj bx (aj bx (aj bx ak)))))) ak)) (aj aG (aj (eG (aj aG (aj aG ak))) ak)))))) aO))))))))))))))),?_⟩;refine aF (fun zzs H1=>n≠7/\Same H H1/\zzs=[zzI n,zzN]) (fun R p=>?_) ?_
  ·refine⟨_,rfl,.inl ⟨rfl,_,rfl,?_⟩⟩;rw[eY];by_cases e:n=7
   ·rw[cR e];subst e;refine jw ?_;refine⟨sz rfl,fun l m=>?_⟩;have u:=Same.put (o:=.lst (vD.map V.str)) m;dsimp only[fO];refine d7 (zz:=vD) aC wD fun x H2 s2 v=>?_
    exact⟨x,3,vD,6,rfl,v,fun _ H' s'=>z _ rfl _ (g.trans (u.trans (s2.trans s'))),fun c=>(fV a2A c).elim⟩
   ·rw[cU e];exact iZ (p _ _ ⟨e,g,rfl⟩)
  clear g;rintro zzs H1 ⟨aM,g,rfl⟩;refine aF (fun zzs H1=>n≠8/\Same H H1/\zzs=[zzI n,zzN]) (fun R p=>?_) ?_
  ·refine⟨_,rfl,.inl ⟨rfl,_,rfl,?_⟩⟩;rw[eY];by_cases e:n=8
   ·rw[cR e];subst e;refine jw ?_;refine⟨sz rfl,fun l m=>?_⟩;have u:=Same.put (o:=.lst (vD.map V.str)) m;dsimp only[fO];refine d7 (zz:=vD) aC wD fun x H2 s2 v=>?_
    refine⟨sz rfl,fun t r=>?_⟩;have j:=Same.put (o:=.tup [V.int 0,V.int 0]) r;have y:=g.trans (u.trans (s2.trans j));exact⟨x,.ref t,vD,6,(0,0),rfl,v.mono j,bT (a:=0) (b:=0),⟨fun c=>absurd c (by decide +kernel),fun _ _ H' s'=>z _ rfl _ (y.trans s'),fun _ c=>(fV a2A c).elim⟩,fun _ c=>(fV a2A c).elim⟩
   ·rw[cU e];exact iZ (p _ _ ⟨e,g,rfl⟩)
  clear g;rintro zzs H1 ⟨aN,g,rfl⟩;refine aF (fun zzs H1=>n≠9/\Same H H1/\zzs=[zzI n,zzN]) (fun R p=>?_) ?_
  ·refine⟨_,rfl,.inl ⟨rfl,_,rfl,?_⟩⟩;rw[eY];by_cases e:n=9
   ·rw[cR e];subst e;refine jw ?_;refine⟨sz rfl,fun l m=>?_⟩;have u:=Same.put (o:=.lst (vE.map V.str)) m;dsimp only[fO];refine d7 (zz:=vE) aC wE fun x H2 s2 v=>?_
    refine⟨sz rfl,fun t r=>?_⟩;have j:=Same.put (o:=.tup [V.int 0,V.int 0]) r;have y:=g.trans (u.trans (s2.trans j));exact⟨x,.ref t,vE,2,(0,0),rfl,v.mono j,bT (a:=0) (b:=0),⟨fun c=>absurd c (by decide +kernel),fun _ c=>(fV c (few wE (by decide +kernel))).elim,fun _ _ _ _ H' s'=>z _ rfl _ (y.trans s')⟩,fun _ _ c=>absurd ⟨noE false,noE true⟩ c⟩
   ·rw[cU e];exact iZ (p _ _ ⟨e,g,rfl⟩)
  clear g;rintro zzs H1 ⟨aP,g,rfl⟩;refine aF (fun zzs H1=>n≠10/\Same H H1/\zzs=[zzI n,zzN]) (fun R p=>?_) ?_
  ·refine⟨_,rfl,.inl ⟨rfl,_,rfl,?_⟩⟩;rw[eY];by_cases e:n=10
   ·rw[cR e];subst e;refine jw ?_;refine⟨sz rfl,fun l m=>?_⟩;have u:=Same.put (o:=.lst (vF.map V.str)) m;dsimp only[fO];refine d7 (zz:=vF) aC wF fun x H2 s2 v=>?_
    refine⟨sz rfl,fun t r=>?_⟩;have j:=Same.put (o:=.tup [V.int 0,V.int 0]) r;have y:=g.trans (u.trans (s2.trans j));exact⟨x,4,.ref t,vF,3,(0,0),rfl,v.mono j,bT (a:=0) (b:=0),fun c=>absurd c (by decide +kernel),fun _ c=>(fV c (few wF (by decide +kernel))).elim,fun _ _ _ H' s'=>z _ rfl _ (y.trans s'),fun _ _ c=>absurd a4q c⟩
   ·rw[cU e];exact iZ (p _ _ ⟨e,g,rfl⟩)
  clear g;rintro zzs H1 ⟨av,g,rfl⟩;refine aF (fun zzs H1=>n≠11/\Same H H1/\zzs=[zzI n,zzN]) (fun R p=>?_) ?_
  ·refine⟨_,rfl,.inl ⟨rfl,_,rfl,?_⟩⟩;rw[eY];by_cases e:n=11
   ·rw[cR e];subst e;refine jw ?_;refine⟨sz rfl,fun l m=>?_⟩;have u:=Same.put (o:=.lst (vA.map V.str)) m;dsimp only[fO];refine d7 (zz:=vA) aC wA fun x H2 s2 v=>?_
    refine⟨sz rfl,fun t r=>?_⟩;have j:=Same.put (o:=.tup [V.int 0,V.int 0]) r;have y:=g.trans (u.trans (s2.trans j));exact⟨x,.ref t,vA,2,(0,0),rfl,v.mono j,bT (a:=0) (b:=0),⟨fun c=>absurd c (by decide +kernel),fun _ c=>(fV c (few wA (by decide +kernel))).elim,fun _ _ _ c=>absurd c a6J⟩,fun _ _ _ _ H' s'=>z _ rfl _ (y.trans s'),fun _ _ c=>absurd noA c⟩
   ·rw[cU e];exact iZ (p _ _ ⟨e,g,rfl⟩)
  clear g;rintro zzs H1 ⟨aw,g,rfl⟩;refine aF (fun zzs H1=>n≠12/\Same H H1/\zzs=[zzI n,zzN]) (fun R p=>?_) ?_
  ·refine⟨_,rfl,.inl ⟨rfl,_,rfl,?_⟩⟩;rw[eY];by_cases e:n=12
   ·rw[cR e];subst e;refine jw ?_;refine⟨sz rfl,fun ad ab=>?_⟩;have U:=Same.put (o:=.tup [V.int 0,V.int 0]) ab;refine⟨sz rfl,fun l m=>?_⟩;have O:=(U).and (o:=.lst [V.ref ad]) m;have aa:Ls K _ l (([(0,0)]:List Cell).map aD):=.new m (.cons (bT (a:=0) (b:=0)) .nil);dsimp only[fO];refine Sg (h:=1) (w:=1) (Q:=fun x H'=>_) aa (by decide) (by decide) (by decide +kernel) fun x f D d H2 nd s2 I=>?_
    obtain⟨dx,G⟩:=I.ob;refine⟨x,dx,_,rfl,G,Ay _ _ _ _ (by decide +kernel) (by decide +kernel) (by decide +kernel) (by decide +kernel),?_⟩;refine⟨sz rfl,fun t r=>?_⟩;have j:=Same.put (o:=.tup [V.int 0,V.int 0]) r;dsimp only[fO];refine kj.mk (I.mono j) (bT (a:=0) (b:=0)) (by decide) (fun _ H' s'=>z _ rfl _ (g.trans (O.trans (s2.trans (j.trans s'))))) (fun c=>absurd c (by decide +kernel)) (fun c=>absurd c (by decide +kernel)) (fun c=>absurd c (by decide +kernel))
   ·rw[cU e];exact iZ (p _ _ ⟨e,g,rfl⟩)
  clear g;rintro zzs H1 ⟨ax,g,rfl⟩;refine aF (fun zzs H1=>n≠13/\Same H H1/\zzs=[zzI n,zzN]) (fun R p=>?_) ?_
  ·refine⟨_,rfl,.inl ⟨rfl,_,rfl,?_⟩⟩;rw[eY];by_cases e:n=13
   ·rw[cR e];subst e;refine jw ?_;refine aF (fun zzs L=>∃ x f D d:Addr,H d=none/\Same H L/\cW K Z.Game Z.View L x 1 2 [(0,0)] [] false f D d/\zzs=[zzI 13,zzR x]) (fun am W=>?_) ?_
    ·refine⟨sz rfl,fun ad ab=>?_⟩;have U:=Same.put (o:=.tup [V.int 0,V.int 0]) ab;refine⟨sz rfl,fun l m=>?_⟩;have O:=U.and (o:=.lst [V.ref ad]) m;have aa:Ls K _ l (([(0,0)]:List Cell).map aD):=.new m (.cons (bT (a:=0) (b:=0)) .nil);dsimp only[fO];refine Sg (h:=1) (w:=2) (Q:=fun x H'=>_) aa (by decide) (by decide) (by decide +kernel) fun x f D d H2 nd s2 I=>W _ _ ⟨x,f,D,d,(g.trans O).free nd,g.trans (O.trans s2),I,rfl⟩
    rintro zzs L ⟨x,f,D,d,aq,ar,ag,rfl⟩;refine aF (fun zzs M=>∃ N:List Cell,SameBut d L M/\cW K Z.Game Z.View M x 1 2 [(0,0)] N false f D d/\N.length=1/\zzs=[zzI 13,zzR x]) (fun am W=>?_) ?_
    ·obtain⟨dx,G⟩:=ag.ob;refine⟨_,rfl,x,dx,_,rfl,G,Ay _ _ _ _ (by decide +kernel) (by decide +kernel) (by decide +kernel) (by decide +kernel),?_⟩;refine⟨sz rfl,fun t r=>?_⟩;have j:=Same.put (o:=.tup [V.int 0,V.int 1]) r;dsimp only[fO];refine kj.mk (ag.mono j) (bT (a:=0) (b:=1)) (by decide) (fun c=>absurd (by decide +kernel) c) (fun _ c=>absurd (by decide +kernel) c) (fun _ _ _ c=>absurd c (by decide +kernel)) (fun _ _ _ _ q M aR ds _ ac J _ _ _ nd ap=>?_);refine W _ _ ⟨_,(j.but d).trans ac,J,?_,rfl⟩;exact Xz nd ap
    rintro zzs M ⟨N,ac,J,ao,rfl⟩;obtain⟨dx,G⟩:=J.ob;refine⟨_,rfl,x,dx,_,rfl,G,Ay _ _ _ _ (by decide +kernel) (by decide +kernel) (by decide +kernel) (by decide +kernel),?_⟩;refine⟨sz rfl,fun t r=>?_⟩;have j:=Same.put (o:=.tup [V.int 0,V.int 0]) r;dsimp only[fO];have af:iJ 1 2 [(0,0)] N false ≠ "on":=by
     unfold iJ;rw[aJ fP,aL (by rw[ao];rfl)];decide
    refine kj.mk (J.mono j) (bT (a:=0) (b:=0)) (by lia) (fun _ H' s'=>z _ rfl _ ?_) (fun c=>absurd c af) (fun c=>absurd c af) (fun c=>absurd c af);exact(ac.of ar aq).trans (j.trans s')
   ·rw[cU e];exact iZ (p _ _ ⟨e,g,rfl⟩)
  clear g;rintro zzs H1 ⟨ay,g,rfl⟩;refine aF (fun zzs H1=>n≠14/\Same H H1/\zzs=[zzI n,zzN]) (fun R p=>?_) ?_
  ·refine⟨_,rfl,.inl ⟨rfl,_,rfl,?_⟩⟩;rw[eY];by_cases e:n=14
   ·rw[cR e];subst e;refine jw ?_;refine⟨sz rfl,fun l m=>?_⟩;have u:=Same.put (o:=.lst (vG.map V.str)) m;dsimp only[fO];refine d7 (zz:=vG) aC wG fun x H2 s2 v=>?_
    refine⟨sz rfl,fun t r=>?_⟩;have j:=Same.put (o:=.tup [V.int 0,V.int 0]) r;have y:=g.trans (u.trans (s2.trans j));exact⟨x,99,.ref t,vG,6,(0,0),rfl,v.mono j,bT (a:=0) (b:=0),fun c=>absurd c (by decide +kernel),fun _ _ H' s'=>z _ rfl _ (y.trans s'),fun _ c=>(fV KY c).elim,fun _ c=>(fV KY c).elim⟩
   ·rw[cU e];exact iZ (p _ _ ⟨e,g,rfl⟩)
  clear g;rintro zzs H1 ⟨az,g,rfl⟩;refine aF (fun zzs H1=>n≠15/\Same H H1/\zzs=[zzI n,zzN]) (fun R p=>?_) ?_
  ·refine⟨_,rfl,.inl ⟨rfl,_,rfl,?_⟩⟩;rw[eY];by_cases e:n=15
   ·rw[cR e];subst e;refine jw ?_;refine⟨sz rfl,fun l m=>?_⟩;have u:=Same.put (o:=.lst (vG.map V.str)) m;dsimp only[fO];refine d7 (zz:=vG) aC wG fun x H2 s2 v=>?_
    refine⟨sz rfl,fun t r=>?_⟩;have j:=Same.put (o:=.tup [V.int 0,V.int 5]) r;have y:=g.trans (u.trans (s2.trans j));exact⟨x,.ref t,vG,6,(0,5),rfl,v.mono j,bT (a:=0) (b:=5),⟨fun c=>absurd c (by decide +kernel),fun _ _ H' s'=>z _ rfl _ (y.trans s'),fun _ c=>(fV KY c).elim⟩,fun _ c=>(fV KY c).elim,fun _ c=>(fV KY c).elim⟩
   ·rw[cU e];exact iZ (p _ _ ⟨e,g,rfl⟩)
  clear g;rintro zzs H1 ⟨aA,g,rfl⟩;refine aF (fun zzs H1=>n≠16/\Same H H1/\zzs=[zzI n,zzN]) (fun R p=>?_) ?_
  ·refine⟨_,rfl,.inl ⟨rfl,_,rfl,?_⟩⟩;rw[eY];by_cases e:n=16
   ·rw[cR e];subst e;refine jw ?_;refine⟨sz rfl,fun l m=>?_⟩;have u:=Same.put (o:=.lst (vG.map V.str)) m;dsimp only[fO];refine d7 (zz:=vG) aC wG fun x H2 s2 v=>?_
    refine⟨sz rfl,fun t r=>?_⟩;have j:=Same.put (o:=.tup [V.int 0,V.int 5]) r;have y:=g.trans (u.trans (s2.trans j));exact⟨x,.ref t,vG,6,(0,5),rfl,v.mono j,bT (a:=0) (b:=5),⟨fun c=>absurd c (by decide +kernel),fun _ _ H' s'=>z _ rfl _ (y.trans s'),fun _ c=>(fV KY c).elim⟩,fun _ c=>(fV KY c).elim⟩
   ·rw[cU e];exact iZ (p _ _ ⟨e,g,rfl⟩)
  clear g;rintro zzs H1 ⟨aE,g,rfl⟩;refine aF (fun zzs H1=>n≠17/\Same H H1/\zzs=[zzI n,zzN]) (fun R p=>?_) ?_
  ·refine⟨_,rfl,.inl ⟨rfl,_,rfl,?_⟩⟩;rw[eY];by_cases e:n=17
   ·rw[cR e];subst e;refine jw ?_;refine⟨sz rfl,fun l m=>?_⟩;have u:=Same.put (o:=.lst (vH.map V.str)) m;dsimp only[fO];refine d7 (zz:=vH) aC wH fun x H2 s2 v=>?_
    refine⟨sz rfl,fun t r=>?_⟩;have j:=Same.put (o:=.tup [V.int 0,V.int 1]) r;have y:=g.trans (u.trans (s2.trans j));exact⟨x,.ref t,vH,6,(0,1),rfl,v.mono j,bT (a:=0) (b:=1),⟨fun c=>absurd c (by decide +kernel),fun _ _ H' s'=>z _ rfl _ (y.trans s'),fun _ c=>(fV IK c).elim⟩,fun _ c=>(fV IK c).elim⟩
   ·rw[cU e];exact iZ (p _ _ ⟨e,g,rfl⟩)
  clear g;rintro zzs H1 ⟨aH,g,rfl⟩;refine aF (fun zzs H1=>n≠18/\Same H H1/\zzs=[zzI n,zzN]) (fun R p=>?_) ?_
  ·refine⟨_,rfl,.inl ⟨rfl,_,rfl,?_⟩⟩;rw[eY];by_cases e:n=18
   ·rw[cR e];subst e;refine jw ?_;refine⟨sz rfl,fun l m=>?_⟩;have u:=Same.put (o:=.lst (vH.map V.str)) m;dsimp only[fO];refine d7 (zz:=vH) aC wH fun x H2 s2 v=>?_
    refine⟨sz rfl,fun t r=>?_⟩;have j:=Same.put (o:=.tup [V.int 0,V.int 5]) r;have y:=g.trans (u.trans (s2.trans j));exact⟨x,.ref t,vH,6,(0,5),rfl,v.mono j,bT (a:=0) (b:=5),⟨fun c=>absurd c (by decide +kernel),fun _ _ H' s'=>z _ rfl _ (y.trans s'),fun _ c=>(fV IK c).elim⟩,fun _ c=>(fV IK c).elim,fun _ c=>(fV IK c).elim⟩
   ·rw[cU e];exact iZ (p _ _ ⟨e,g,rfl⟩)
  clear g;rintro zzs H1 ⟨aI,g,rfl⟩;refine aF (fun zzs H1=>n≠20/\Same H H1/\zzs=[zzI n,zzN]) (fun R p=>?_) ?_
  ·refine⟨_,rfl,.inl ⟨rfl,_,rfl,?_⟩⟩;rw[eY];by_cases e:n=20
   ·rw[cR e];subst e;refine jw ?_;refine⟨sz rfl,fun l m=>?_⟩;have u:=Same.put (o:=.lst (vH.map V.str)) m;dsimp only[fO];refine d7 (zz:=vH) aC wH fun x H2 s2 v=>?_
    exact⟨x,5,vH,6,rfl,v,fun _ H' s'=>z _ rfl _ (g.trans (u.trans (s2.trans s'))),fun c=>(fV IK c).elim⟩
   ·rw[cU e];exact iZ (p _ _ ⟨e,g,rfl⟩)
  clear g;rintro zzs H1 ⟨aK,g,rfl⟩;refine⟨_,rfl,.inl ⟨rfl,_,rfl,?_⟩⟩;rw[eY];by_cases e:n=19
  ·rw[cR e];subst e;refine jw ?_;refine⟨sz rfl,fun l m=>?_⟩;have u:=Same.put (o:=.lst (vH.map V.str)) m;dsimp only[fO];refine d7 (zz:=vH) aC wH fun x H2 s2 v=>?_
   refine⟨sz rfl,fun t r=>?_⟩;have j:=Same.put (o:=.tup [V.int 4,V.int 5]) r;have y:=g.trans (u.trans (s2.trans j));exact⟨x,5,.ref t,vH,6,(4,5),rfl,v.mono j,bT (a:=4) (b:=5),fun c=>absurd c (by decide +kernel),fun _ _ H' s'=>z _ rfl _ (y.trans s'),fun _ c=>(fV IK c).elim,fun _ c=>(fV IK c).elim⟩
  ·rw[cU e];exact iZ (an (by unfold Nx;simp only[*,nH]) _ g)
end
def T3(K:ao):Sp:=fun vs H Q _=>∃(a:Addr)(ns:List Int),vs=[.ref a]/\SqL K H a (ns.map V.int)/\∀ H',Q (.bl true) H'
def U9:List Int:=[0,0,1,1,2,2,2,3,3,4,4,5,6,6,3,3,3,3,3,3,3]
def T5:Sp:=fun vs H Q _=>∃ n:Int,vs=[.int n]/\0<=n/\n<=20/\∀ H',Same H H'->Q (.int (U9.getD n.toNat 0)) H'
section
variable{P:Program}{w:World}{K:ao}{mg:Str->Option Value}{base:Heap}{Z:Adr}
theorem wh0(T:Txt K mg Z):Wh K Z Z.BadView [true,false,false,false,false,false,false] 0:=⟨T.sO,T.mJ,T.Qw,T.Qx,T.Qy,T.Qz,T.QB,T.QC,T.QD,T.QF,T.QG,rfl,by decide,rfl,by decide⟩
theorem wh1(T:Txt K mg Z):Wh K Z Z.BadLaying [false,true,false,false,false,false,false] 1:=⟨T.nY,T.ju,T.QH,T.QJ,T.QK,T.QL,T.QM,T.QS,T.QT,T.QV,T.QW,rfl,by decide,rfl,by decide⟩
theorem wh2(T:Txt K mg Z):Wh K Z Z.NoCell [false,false,true,false,false,false,false] 2:=⟨T.uT,T.jF,T.QX,T.QZ,T.R0,T.R3,T.R4,T.R5,T.R6,T.R7,T.R8,rfl,by decide,rfl,by decide⟩
theorem wh3(T:Txt K mg Z):Wh K Z Z.TooGreat [false,false,false,true,false,false,false] 3:=⟨T.pX,T.nF,T.R9,T.Ra,T.Rb,T.Rc,T.Rf,T.Rg,T.Rh,T.Ri,T.Rj,rfl,by decide,rfl,by decide⟩
theorem wh4(T:Txt K mg Z):Wh K Z Z.Impossible [false,false,false,false,true,false,false] 4:=⟨T.m8,T.iW,T.Rk,T.Rm,T.Rn,T.Ro,T.Rp,T.Rq,T.Rr,T.Rt,T.Ru,rfl,by decide,rfl,by decide⟩
theorem wh5(T:Txt K mg Z):Wh K Z Z.NotOpen [false,false,false,false,false,true,false] 5:=⟨T.sS,T.pG,T.Rv,T.Rw,T.Rx,T.Ry,T.Rz,T.RD,T.RJ,T.RK,T.RL,rfl,by decide,rfl,by decide⟩
theorem wh6(T:Txt K mg Z):Wh K Z Z.Over [false,false,false,false,false,false,true] 6:=⟨T.Gh,T.Cj,T.RM,T.RN,T.RP,T.RQ,T.RV,T.RW,T.RX,T.RZ,T.S5,rfl,by decide,rfl,by decide⟩
theorem a2v(T:Txt K mg Z){n:Int}(h0:0<=n)(a:n<=20){C:Addr}(h:DP Z n=some C\/DP Z n=none/\Nx Z n=some C):∃ bs m,Wh K Z C bs m/\(m:Int)=U9.getD n.toNat 0:=by
 have:n=0\/n=1\/n=2\/n=3\/n=4\/n=5\/n=6\/n=7\/n=8\/n=9\/n=10\/n=11\/n=12\/n=13\/n=14\/n=15\/n=16\/n=17\/n=18\/n=19\/n=20:=by lia
 rcases this with rfl|rfl|rfl|rfl|rfl|rfl|rfl|rfl|rfl|rfl|rfl|rfl|rfl|rfl|rfl|rfl|rfl|rfl|rfl|rfl|rfl
 ·rcases h with h|⟨h,_⟩
  ·have h':some Z.BadView=some C:=h;cases h';exact⟨_,_,wh0 T,rfl⟩
  ·have h':some Z.BadView=(none:Option Addr):=h;cases h'
 ·rcases h with h|⟨h,_⟩
  ·have h':some Z.BadView=some C:=h;cases h';exact⟨_,_,wh0 T,rfl⟩
  ·have h':some Z.BadView=(none:Option Addr):=h;cases h'
 ·rcases h with h|⟨h,_⟩
  ·have h':some Z.BadLaying=some C:=h;cases h';exact⟨_,_,wh1 T,rfl⟩
  ·have h':some Z.BadLaying=(none:Option Addr):=h;cases h'
 ·rcases h with h|⟨h,_⟩
  ·have h':some Z.BadLaying=some C:=h;cases h';exact⟨_,_,wh1 T,rfl⟩
  ·have h':some Z.BadLaying=(none:Option Addr):=h;cases h'
 ·rcases h with h|⟨h,_⟩
  ·have h':some Z.NoCell=some C:=h;cases h';exact⟨_,_,wh2 T,rfl⟩
  ·have h':some Z.NoCell=(none:Option Addr):=h;cases h'
 ·rcases h with h|⟨h,_⟩
  ·have h':some Z.NoCell=some C:=h;cases h';exact⟨_,_,wh2 T,rfl⟩
  ·have h':some Z.NoCell=(none:Option Addr):=h;cases h'
 ·rcases h with h|⟨h,_⟩
  ·have h':some Z.NoCell=some C:=h;cases h';exact⟨_,_,wh2 T,rfl⟩
  ·have h':some Z.NoCell=(none:Option Addr):=h;cases h'
 ·rcases h with h|⟨_,h⟩
  ·have h':(none:Option Addr)=some C:=h;cases h'
  ·have h':some Z.TooGreat=some C:=h;cases h';exact⟨_,_,wh3 T,rfl⟩
 ·rcases h with h|⟨_,h⟩
  ·have h':(none:Option Addr)=some C:=h;cases h'
  ·have h':some Z.TooGreat=some C:=h;cases h';exact⟨_,_,wh3 T,rfl⟩
 ·rcases h with h|⟨_,h⟩
  ·have h':(none:Option Addr)=some C:=h;cases h'
  ·have h':some Z.Impossible=some C:=h;cases h';exact⟨_,_,wh4 T,rfl⟩
 ·rcases h with h|⟨_,h⟩
  ·have h':(none:Option Addr)=some C:=h;cases h'
  ·have h':some Z.Impossible=some C:=h;cases h';exact⟨_,_,wh4 T,rfl⟩
 ·rcases h with h|⟨_,h⟩
  ·have h':(none:Option Addr)=some C:=h;cases h'
  ·have h':some Z.NotOpen=some C:=h;cases h';exact⟨_,_,wh5 T,rfl⟩
 ·rcases h with h|⟨_,h⟩
  ·have h':(none:Option Addr)=some C:=h;cases h'
  ·have h':some Z.Over=some C:=h;cases h';exact⟨_,_,wh6 T,rfl⟩
 ·rcases h with h|⟨_,h⟩
  ·have h':(none:Option Addr)=some C:=h;cases h'
  ·have h':some Z.Over=some C:=h;cases h';exact⟨_,_,wh6 T,rfl⟩
 ·rcases h with h|⟨_,h⟩
  ·have h':(none:Option Addr)=some C:=h;cases h'
  ·have h':some Z.TooGreat=some C:=h;cases h';exact⟨_,_,wh3 T,rfl⟩
 ·rcases h with h|⟨_,h⟩
  ·have h':(none:Option Addr)=some C:=h;cases h'
  ·have h':some Z.TooGreat=some C:=h;cases h';exact⟨_,_,wh3 T,rfl⟩
 ·rcases h with h|⟨_,h⟩
  ·have h':(none:Option Addr)=some C:=h;cases h'
  ·have h':some Z.TooGreat=some C:=h;cases h';exact⟨_,_,wh3 T,rfl⟩
 ·rcases h with h|⟨_,h⟩
  ·have h':(none:Option Addr)=some C:=h;cases h'
  ·have h':some Z.TooGreat=some C:=h;cases h';exact⟨_,_,wh3 T,rfl⟩
 ·rcases h with h|⟨_,h⟩
  ·have h':(none:Option Addr)=some C:=h;cases h'
  ·have h':some Z.TooGreat=some C:=h;cases h';exact⟨_,_,wh3 T,rfl⟩
 ·rcases h with h|⟨_,h⟩
  ·have h':(none:Option Addr)=some C:=h;cases h'
  ·have h':some Z.TooGreat=some C:=h;cases h';exact⟨_,_,wh3 T,rfl⟩
 ·rcases h with h|⟨_,h⟩
  ·have h':(none:Option Addr)=some C:=h;cases h'
  ·have h':some Z.TooGreat=some C:=h;cases h';exact⟨_,_,wh3 T,rfl⟩
theorem a3w{n:Int}(h0:0<=n)(a:n<=20)(h:DP Z n=none)(g:Nx Z n=none):False:=by
 have:n=0\/n=1\/n=2\/n=3\/n=4\/n=5\/n=6\/n=7\/n=8\/n=9\/n=10\/n=11\/n=12\/n=13\/n=14\/n=15\/n=16\/n=17\/n=18\/n=19\/n=20:=by lia
 rcases this with rfl|rfl|rfl|rfl|rfl|rfl|rfl|rfl|rfl|rfl|rfl|rfl|rfl|rfl|rfl|rfl|rfl|rfl|rfl|rfl|rfl
 ·have h':some Z.BadView=(none:Option Addr):=h;cases h'
 ·have h':some Z.BadView=(none:Option Addr):=h;cases h'
 ·have h':some Z.BadLaying=(none:Option Addr):=h;cases h'
 ·have h':some Z.BadLaying=(none:Option Addr):=h;cases h'
 ·have h':some Z.NoCell=(none:Option Addr):=h;cases h'
 ·have h':some Z.NoCell=(none:Option Addr):=h;cases h'
 ·have h':some Z.NoCell=(none:Option Addr):=h;cases h'
 ·have h':some Z.TooGreat=(none:Option Addr):=g;cases h'
 ·have h':some Z.TooGreat=(none:Option Addr):=g;cases h'
 ·have h':some Z.Impossible=(none:Option Addr):=g;cases h'
 ·have h':some Z.Impossible=(none:Option Addr):=g;cases h'
 ·have h':some Z.NotOpen=(none:Option Addr):=g;cases h'
 ·have h':some Z.Over=(none:Option Addr):=g;cases h'
 ·have h':some Z.Over=(none:Option Addr):=g;cases h'
 ·have h':some Z.TooGreat=(none:Option Addr):=g;cases h'
 ·have h':some Z.TooGreat=(none:Option Addr):=g;cases h'
 ·have h':some Z.TooGreat=(none:Option Addr):=g;cases h'
 ·have h':some Z.TooGreat=(none:Option Addr):=g;cases h'
 ·have h':some Z.TooGreat=(none:Option Addr):=g;cases h'
 ·have h':some Z.TooGreat=(none:Option Addr):=g;cases h'
 ·have h':some Z.TooGreat=(none:Option Addr):=g;cases h'
theorem a5F{zzs:L2.St}{x:Option V}(h:zzs.length=2):(zzs.set 1 x)[1]?=some x:=by rw[Ho (by lia)]
theorem Xu{f:Addr}{t:FuncData} (F:Fun K "_law_met" "_law_met" uy f t) (T:Txt K mg Z) (G:Df P w K mg base 8 "_law_first" ["way"] (tL Z DP)) (D:Df P w K mg base 9 "_law_second" ["way"] (tL Z Nx)) (I:DfH P w K mg base 1 "_law_which" ["e"] (T7 K Z)) :
  cB P w K mg base (CXE P w) 10 f t ["way"] T5:=by
 refine F.rok yS (fun J H Q E h=>?_) (fun cdv A outer s H J Q E p h=>?_)
 ·obtain⟨n,rfl,_⟩:=h;rfl
 ·obtain⟨n,rfl,k,l,B⟩:=h;refine⟨_,(au (a1E rfl rfl (fun _ _ _ L u=>(au (bJ (aQ G p rfl u (aj (rv 0) ak))) (aB (bJ (aQ D p rfl u (aj (rv 0) ak)))))) (Yp (i:=1) rfl yS.nd rfl rfl rfl T.pR T.mz (fun _=>(aB (aY (a4f I p rfl (aj (rv 1) ak))))) a4h)) (aB (RS.nox (aY aG)))),?_⟩;have v:∀ {C:Addr} {b:Hp} {ea:Addr},(DP Z n=some C\/DP Z n=none/\Nx Z n=some C)->Same H b->b ea=none->∃(j q:Addr)(bs:List Bool)(m:Nat),[V.ref ea]=[V.ref j]/\upd b ea (Fz ea C) j=some (Fz j q)/\Wh K Z q bs m/\∀ H',Same (upd b ea (Fz ea C)) H'->Q (.int m) H':=fun {C b ea} a g c=>by
   obtain⟨bs,m,d,y⟩:=a2v T k l a;exact⟨ea,C,bs,m,rfl,aC,d,fun H' s'=>by rw[y];exact B _ (g.trans ((Same.put c).trans s'))⟩
  have r:∀ {C:Addr},(DP Z n=some C\/DP Z n=none/\Nx Z n=some C)->(C=Z.FieldError\/Aq K C Z.FieldError=true)/\gG K C:=fun {C} a=>by
   obtain⟨bs,m,d,_⟩:=a2v T k l a;exact a2U d.ec d.kf
  refine⟨_,rfl,n,rfl,fun C a H1 s1=>⟨C,rfl,fun x e=>.inl ⟨r (.inl a),fun ea c=>?_⟩⟩,fun o H1 s1=>?_⟩
  ·exact⟨_,a5F e,v (.inl a) s1 c⟩
  ·refine⟨_,rfl,n,rfl,fun C a H2 s2=>⟨C,rfl,fun x e=>.inl ⟨r (.inr ⟨o,a⟩),fun ea c=>?_⟩⟩,fun z=>(a3w k l o z).elim⟩;exact⟨_,a5F e,v (.inr ⟨o,a⟩) (s1.trans s2) c⟩
theorem a3t{f:Addr}{d:FuncData} (F:Fun K "law" "law" Yu f d) (T:Txt K mg Z) (v:Df P w K mg base 1 "_law_cell_at" ["script","k"] (YC K)) (x:Df P w K mg base 10 "_law_met" ["way"] T5) :
  cB P w K mg base (CXE P w) 11 f d ["script"] (T3 K):=by
 refine F.rok GQ (fun y H Q E h=>?_) (fun cdv A outer s H y Q E b h=>?_)
 ·obtain⟨a,j,rfl,_⟩:=h;rfl
 ·obtain⟨a,j,rfl,q,t⟩:=h;have u:=lA b;have D:=M6 b;refine⟨_,(au (bK (i:=1) GQ.nd rfl (Or.inl rfl) (lC MJ (aQ v b rfl aW (aj (rv 0) (aj aG ak))) aG)) (au (fu gQ rfl (pA rfl T.lY (aj aG ak)) (cY (i:=2) GQ.nd rfl (Or.inl rfl)) (au (bK (i:=3) GQ.nd rfl (Or.inl rfl) (lC MJ (lC jE (rv 1) (rv 2)) aG)) (aB (bO (aZ (Fe.or (Ez (K:=K) u)) (aQ x b rfl aW (aj (rv 3) ak)) (gq (gA (K:=K)) (bU (aj aG (aj aG (aj aG (aj aG (aj aG (aj aG (aj aG (aj aG (aj aG (aj aG (aj aG (aj aG (aj aG (aj aG (aj aG (aj aG (aj aG (aj aG (aj aG (aj aG (aj aG ak)))))))))))))))))))))) (rv 3)) (bC _)) (aB (aY qI)) aO)))) (aB (aY qI)))),?_⟩;refine aF (fun zzs H1=>∃ r:Int,H=H1/\zzs=[zzR a,zzI r,zzN,zzN]) (fun R c=>?_) ?_
  ·exact⟨_,rfl,a,j,0,rfl,by decide,q,fun r=>⟨_,_,rfl,rfl,(by show(0:Int)<21;decide),c _ _ ⟨_,rfl,rfl⟩⟩⟩
  rintro zzs H1 ⟨r,rfl,rfl⟩;refine aF (fun zzs H1=>True) (fun R c=>?_) ?_
  ·refine⟨_,rfl,by decide,by decide,?_⟩;refine jo (lo:=0) (n:=21) (fun i zzs H1=>∃ k m:Option V,zzs=[zzR a,zzI r,k,m]) ⟨none,none,rfl⟩ (fun i zzs H1 C e=>?_) (fun zzs H1 e=>c _ _ trivial);obtain⟨k,m,rfl⟩:=e;refine aF (fun zzs H2=>∃ n:Nat,n<=20/\zzs=[zzR a,zzI r,zzI (0+i),zzI n]) (fun B p=>?_) ?_
   ·refine⟨_,rfl,_,rfl,_,_,rfl,rfl,(by show(0:Int)<21;decide),p _ _ ⟨((r+(0+(i:Int)))%21).toNat,?_,?_⟩⟩
    ·have:=Int.emod_lt_of_pos (r+(0+(i:Int))) (by decide:(0:Int)<21);lia
    ·have:=Int.emod_nonneg (r+(0+(i:Int))) (by decide:(21:Int)≠0);rw[Ou this];rfl
   rintro zzs H2 ⟨n,G,rfl⟩;refine⟨_,rfl,(n:Int),rfl,by lia,by lia,fun z J=>⟨sz rfl,fun l I=>⟨_,rfl,?_⟩⟩⟩;have o:(U9.map V.int)[n]?=some (V.int (U9.getD (n:Int).toNat 0)):=by
    have g:n<U9.length:=by show n<21;lia
    rw[dF,iM g,jR,eE,iM g];rfl
   refine .inl ⟨l,U9.map V.int,_,_,rfl,rfl,SqL.of aC,dX o,.inl ⟨rfl,_,rfl,?_⟩⟩;rw[cR rfl];exact iZ ⟨_,_,rfl⟩
  rintro zzs H1 _;exact t _
end
def pI(x q:Str)(st:Stmt)(ps:List Str):Prop:=∀(kV doc pm:Value)(an:Option Addr)(cdv ct:Value)(us:List Value),us.length=ps.length->bindArgs (PySem.W.fnOf x q (jC st) (fZ st) (aH st) .none kV doc pm an cdv ct) ⟨us,[]⟩=pure (ps.zip us)
theorem DQ{us:List Value}{n:Nat}(h:us.length=n+1):∃ u a,us=u::a/\a.length=n:=by
 cases us with
 |nil=>cases h
 |cons u t=>exact⟨u,t,rfl,Nat.succ.inj h⟩
theorem bind1{x q:Str}{st:Stmt}{f:Str}(h:∀(kV d e:Value) (b:Option Addr) (c ct a:Value),bindArgs (PySem.W.fnOf x q (jC st) (fZ st) (aH st) .none kV d e b c ct) ⟨[a],[]⟩=pure [(f,a)]):pI x q st [f]:=fun kV d e b c ct k i=>by
 obtain⟨a,j,rfl,g⟩:=DQ (n:=0) i;cases j with
 |nil=>exact h kV d e b c ct a
 |cons _ _=>cases g
theorem gM{x q:Str}{st:Stmt}{g p1:Str}(h:∀(kV e f:Value) (c:Option Addr) (d ct a b:Value),bindArgs (PySem.W.fnOf x q (jC st) (fZ st) (aH st) .none kV e f c d ct) ⟨[a,b],[]⟩=pure [(g,a),(p1,b)]):pI x q st [g,p1]:=fun kV e f c d ct o k=>by
 obtain⟨a,m,rfl,i⟩:=DQ (n:=1) k;obtain⟨b,l,rfl,j⟩:=DQ (n:=0) i;cases l with
 |nil=>exact h kV e f c d ct a b
 |cons _ _=>cases j
theorem VL{x q:Str}{st:Stmt}{i p1 p2:Str}(h:∀(kV f g:Value) (d:Option Addr) (e ct a b c:Value),bindArgs (PySem.W.fnOf x q (jC st) (fZ st) (aH st) .none kV f g d e ct) ⟨[a,b,c],[]⟩=pure [(i,a),(p1,b),(p2,c)]):pI x q st [i,p1,p2]:=fun kV f g d e ct s m=>by
 obtain⟨a,p,rfl,j⟩:=DQ (n:=2) m;obtain⟨b,r,rfl,k⟩:=DQ (n:=1) j;obtain⟨c,o,rfl,l⟩:=DQ (n:=0) k;cases o with
 |nil=>exact h kV f g d e ct a b c
 |cons _ _=>cases l
theorem a4D{x q:Str}{st:Stmt}{j p1 p2 k:Str}(h:∀(kV g i:Value) (e:Option Addr) (f ct a b c d:Value),bindArgs (PySem.W.fnOf x q (jC st) (fZ st) (aH st) .none kV g i e f ct) ⟨[a,b,c,d],[]⟩=pure [(j,a),(p1,b),(p2,c),(k,d)]):pI x q st [j,p1,p2,k]:=fun kV g i e f ct w r=>by
 obtain⟨a,t,rfl,l⟩:=DQ (n:=3) r;obtain⟨b,u,rfl,m⟩:=DQ (n:=2) l;obtain⟨c,v,rfl,o⟩:=DQ (n:=1) m;obtain⟨d,s,rfl,p⟩:=DQ (n:=0) o;cases s with
 |nil=>exact h kV g i e f ct a b c d
 |cons _ _=>cases p
section
variable{P:Program}{w:World}{K:ao}{mg:Str->Option Value}{base h:Heap}
def cA(K:ao)(x:Str)(st:Stmt):Prop:=∃ f,PySem.W.nsIn K mainGlobals x=some (some (.ref f))/\∃ fd,Fun K x x st f fd
def uf(K:ao)(C:Addr)(m q:Str)(st:Stmt):Prop:=∃ f,(PySem.W.findIn K (.ref C) m=some (some (.ref f))/\PySem.W.isFn K (.ref f)=true)/\∃ fd,Fun K m q st f fd
section
variable{x q:Str}{st:Stmt}{f C:Addr}{oc:Value}{od an:Option Addr}{osl:Array (Option Value)}{kV doc pm cdv ct:Value}
theorem a4J(a:PySem.W.nsIn K mainGlobals x=some (some (.ref f)))(l:K.lookup f=some ⟨oc,od,.func (PySem.W.fnOf x x (jC st) (fZ st) (aH st) .none kV doc pm an cdv ct),osl⟩)(c:PySem.W.codeIn K cdv x=true)(k:PySem.W.keepIn K (.ref f)=true):cA K x st:=⟨f,a,_,Wr l c k⟩
theorem Xe(a:PySem.W.findIn K (.ref C) x=some (some (.ref f)))(i:PySem.W.isFn K (.ref f)=true)(l:K.lookup f=some ⟨oc,od,.func (PySem.W.fnOf x q (jC st) (fZ st) (aH st) .none kV doc pm an cdv ct),osl⟩)(c:PySem.W.codeIn K cdv q=true)(k:PySem.W.keepIn K (.ref f)=true):uf K C x q st:=⟨f,⟨a,i⟩,_,Wr l c k⟩
end
theorem a5U{x:Str}{v:Int}{t:Tok}(h:PySem.W.nsIn K mainGlobals x=some (some (.int v t))):∃ t,PySem.W.nsIn K mainGlobals x=some (some (.int v t)):=⟨t,h⟩
theorem a6E{x v:Str}{t:Tok}(h:PySem.W.nsIn K mainGlobals x=some (some (.str v t))):∃ t,PySem.W.nsIn K mainGlobals x=some (some (.str v t)):=⟨t,h⟩
theorem a4L(X:K.In h)(e:h.Ns mainGlobals mg){x:Str}{st:Stmt}{k:Nat}{c:List Str}{sp:Sp}(d:cA K x st)(g:pI x x st c)(ok:∀ f b,Fun K x x st f b->cB P w K mg base (CXE P w) k f b c sp):Df P w K mg base k x c sp:=by
 obtain⟨f,a,b,F⟩:=d;exact⟨⟨f,b,ok f b F,jK X e a,F.kp,F.binds g⟩⟩
theorem a3g(X:K.In h)(g:h.Ns mainGlobals mg){c:Addr}{st:Stmt}{k:Nat}{sp:Sp} (j:mg "law" = some (.ref c)) (d:cA K "law" st) (i:pI "law" "law" st ["script"]) (ok:∀ base f b,Fun K "law" "law" st f b->cB P w K mg base (CXE P w) k f b ["script"] sp) :
  ∃ b:FuncData,(∀(s:Shared)(v:Value),BindsTo s b ⟨[v],[]⟩ [("script",v)])/\∀ base:Heap,K.In base->base.Ns mainGlobals mg->cB P w K mg base (CXE P w) k c b ["script"] sp:=by
 obtain⟨f,a,b,F⟩:=d;have e:=j.symm.trans (jK X g a);cases e;refine⟨b,fun s v=>?_,fun base _ _=>ok base _ _ F⟩;obtain⟨oc,od,kV,doc,pm,an,cdv,ct,osl,rfl,m,l⟩:=F.ex;exact .of_eq (i kV doc pm an cdv ct [v] rfl)
theorem a5d(X:K.In h)(e:h.Ns mainGlobals mg){x q:Str}{st:Stmt}{C:Addr}{k:Nat}{d:List Str}{sp:Sp}(a:PySem.W.nsIn K mainGlobals x=some (some (.ref C)))(mk:PySem.W.makesIn K C=true)(j:PySem.W.keepIn K (.ref C)=true) (m:uf K C "__init__" q st) (g:pI "__init__" q st d) (ok:∀ f c,Fun K "__init__" q st f c->cB P w K mg base (CXE P w) k f c d sp):Md P w K mg base k x d C sp:=by
 obtain⟨f,⟨b,i⟩,c,F⟩:=m;exact⟨⟨f,c,⟨mk,b,i,j⟩,ok f c F,jK X e a,F.binds g⟩⟩
theorem a4M(X:K.In h)(e:h.Ns mainGlobals mg){x:Str}{st:Stmt}{k:Nat}{c:List Str}{sp:Sp}(d:cA K x st)(g:pI x x st c)(ok:∀ f b,Fun K x x st f b->FnH P w K mg base k f b c sp):DfH P w K mg base k x c sp:=by
 obtain⟨f,a,b,F⟩:=d;exact⟨⟨f,b,ok f b F,jK X e a,F.kp,F.binds g⟩⟩
theorem a3o{C:Addr}{m q:Str}{st:Stmt}{k:Nat}{c:List Str}{sp:Sp}(d:uf K C m q st)(e:Cls K C)(g:pI m q st c)(ok:∀ f b,Fun K m q st f b->cB P w K mg base (CXE P w) k f b c sp):Mth P w K mg base k C m c sp:=by
 obtain⟨f,⟨a,i⟩,b,F⟩:=d;exact⟨⟨f,b,⟨a,i,F.kp⟩,ok f b F,F.binds g⟩,e⟩
end
theorem all_mk{l:PySem.W.OpenLaw}{w:World}{K:ao}{h:Heap}{n:Str->Option Value}{D:Addr}(X:K.In h)(b:h.Ns mainGlobals n) (a9:n "law" = some (.ref D))
  {m:Addr}
  {f:Addr}
  {d:Addr}
  {i:Addr}
  {e:Addr}
  {c:Addr}
  {g:Addr}
  {j:Addr}
  {o:Addr}
  {k:Addr}
  (pO:PySem.W.nsIn K mainGlobals "FieldError" = some (some (.ref m)))
  (wI:PySem.W.nsIn K mainGlobals "BadView" = some (some (.ref f)))
  (qQ:PySem.W.nsIn K mainGlobals "BadLaying" = some (some (.ref d)))
  (zR:PySem.W.nsIn K mainGlobals "NoCell" = some (some (.ref i)))
  (ug:PySem.W.nsIn K mainGlobals "TooGreat" = some (some (.ref e)))
  (pQ:PySem.W.nsIn K mainGlobals "Impossible" = some (some (.ref c)))
  (wJ:PySem.W.nsIn K mainGlobals "NotOpen" = some (some (.ref g)))
  (KQ:PySem.W.nsIn K mainGlobals "Over" = some (some (.ref j)))
  (FP:PySem.W.nsIn K mainGlobals "View" = some (some (.ref o)))
  (FN:PySem.W.nsIn K mainGlobals "Game" = some (some (.ref k)))
  (mz:PySem.W.excIn K m [.type "ValueError",.type "Exception",.type "BaseException",.type "object"] "ValueError.__new__" = true)
  (mJ:PySem.W.excIn K f [.type "ValueError",.type "Exception",.type "BaseException",.type "object"] "ValueError.__new__" = true)
  (ju:PySem.W.excIn K d [.type "ValueError",.type "Exception",.type "BaseException",.type "object"] "ValueError.__new__" = true)
  (jF:PySem.W.excIn K i [.type "ValueError",.type "Exception",.type "BaseException",.type "object"] "ValueError.__new__" = true)
  (nF:PySem.W.excIn K e [.type "ValueError",.type "Exception",.type "BaseException",.type "object"] "ValueError.__new__" = true)
  (iW:PySem.W.excIn K c [.type "ValueError",.type "Exception",.type "BaseException",.type "object"] "ValueError.__new__" = true)
  (pG:PySem.W.excIn K g [.type "ValueError",.type "Exception",.type "BaseException",.type "object"] "ValueError.__new__" = true)
  (Cj:PySem.W.excIn K j [.type "ValueError",.type "Exception",.type "BaseException",.type "object"] "ValueError.__new__" = true)
  (bw:uf K o "__init__" "View.__init__" lM)
  (fY:Cls K o)
  (aP:PySem.W.makesIn K o=true)
  (aN:PySem.W.keepIn K (.ref o)=true)
  (jt:PySem.W.findIn K (.ref o) "rows" = some none)
  (eF:PySem.W.findIn K (.ref o) "height" = some none)
  (fL:PySem.W.findIn K (.ref o) "width" = some none)
  (bv:uf K k "__init__" "Game.__init__" lK)
  (ab:uf K k "uncover" "Game.uncover" ni)
  (aj:uf K k "state" "Game.state" qm)
  (cT:Cls K k)
  (aO:PySem.W.makesIn K k=true)
  (aM:PySem.W.keepIn K (.ref k)=true)
  (dZ:PySem.W.findIn K (.ref k) "field" = some none)
  (fU:PySem.W.findIn K (.ref k) "hidden" = some none)
  (cX:PySem.W.findIn K (.ref k) "figures" = some none)
  (jr:PySem.W.findIn K (.ref k) "lost" = some none)
  (jq:∃ t,PySem.W.nsIn K mainGlobals "MOST_ROWS" = some (some (.int 6 t)))
  (gk:∃ t,PySem.W.nsIn K mainGlobals "MOST_COLUMNS" = some (some (.int 6 t)))
  (fQ:∃ t,PySem.W.nsIn K mainGlobals "CLOSED_SIGN" = some (some (.str "#" t)))
  (sW:∃ t,PySem.W.nsIn K mainGlobals "SIGNS" = some (some (.str "#012345678" t)))
  (iR:∃ t,PySem.W.nsIn K mainGlobals "MOST_CELLS" = some (some (.int 12 t)))
  (ak:PySem.W.nsIn K mainGlobals "ValueError" = some none)
  (a2:PySem.W.nsIn K mainGlobals "all" = some none)
  (a3:PySem.W.nsIn K mainGlobals "int" = some none)
  (al:PySem.W.nsIn K mainGlobals "isinstance" = some none)
  (a4:PySem.W.nsIn K mainGlobals "len" = some none)
  (a1:PySem.W.nsIn K mainGlobals "list" = some none)
  (a5:PySem.W.nsIn K mainGlobals "max" = some none)
  (a6:PySem.W.nsIn K mainGlobals "min" = some none)
  (aV:PySem.W.nsIn K mainGlobals "range" = some none)
  (aL:PySem.W.nsIn K mainGlobals "sorted" = some none)
  (a7:PySem.W.nsIn K mainGlobals "str" = some none)
  (sO:nR K f)
  (nY:nR K d)
  (uT:nR K i)
  (pX:nR K e)
  (m8:nR K c)
  (sS:nR K g)
  (Gh:nR K j)
  (Qw:PySem.W.kitOne K (.ref f) (.ref f)=some true)
  (Qx:PySem.W.kitOne K (.ref f) (.ref d)=some false)
  (Qy:PySem.W.kitOne K (.ref f) (.ref i)=some false)
  (Qz:PySem.W.kitOne K (.ref f) (.ref e)=some false)
  (QB:PySem.W.kitOne K (.ref f) (.ref c)=some false)
  (QC:PySem.W.kitOne K (.ref f) (.ref g)=some false)
  (QD:PySem.W.kitOne K (.ref f) (.ref j)=some false)
  (QF:PySem.W.kitOne K (.ref f) (.ref m)=some true)
  (QG:PySem.W.kitOne K (.ref f) (.type "ValueError")=some true)
  (QH:PySem.W.kitOne K (.ref d) (.ref f)=some false)
  (QJ:PySem.W.kitOne K (.ref d) (.ref d)=some true)
  (QK:PySem.W.kitOne K (.ref d) (.ref i)=some false)
  (QL:PySem.W.kitOne K (.ref d) (.ref e)=some false)
  (QM:PySem.W.kitOne K (.ref d) (.ref c)=some false)
  (QS:PySem.W.kitOne K (.ref d) (.ref g)=some false)
  (QT:PySem.W.kitOne K (.ref d) (.ref j)=some false)
  (QV:PySem.W.kitOne K (.ref d) (.ref m)=some true)
  (QW:PySem.W.kitOne K (.ref d) (.type "ValueError")=some true)
  (QX:PySem.W.kitOne K (.ref i) (.ref f)=some false)
  (QZ:PySem.W.kitOne K (.ref i) (.ref d)=some false)
  (R0:PySem.W.kitOne K (.ref i) (.ref i)=some true)
  (R3:PySem.W.kitOne K (.ref i) (.ref e)=some false)
  (R4:PySem.W.kitOne K (.ref i) (.ref c)=some false)
  (R5:PySem.W.kitOne K (.ref i) (.ref g)=some false)
  (R6:PySem.W.kitOne K (.ref i) (.ref j)=some false)
  (R7:PySem.W.kitOne K (.ref i) (.ref m)=some true)
  (R8:PySem.W.kitOne K (.ref i) (.type "ValueError")=some true)
  (R9:PySem.W.kitOne K (.ref e) (.ref f)=some false)
  (Ra:PySem.W.kitOne K (.ref e) (.ref d)=some false)
  (Rb:PySem.W.kitOne K (.ref e) (.ref i)=some false)
  (Rc:PySem.W.kitOne K (.ref e) (.ref e)=some true)
  (Rf:PySem.W.kitOne K (.ref e) (.ref c)=some false)
  (Rg:PySem.W.kitOne K (.ref e) (.ref g)=some false)
  (Rh:PySem.W.kitOne K (.ref e) (.ref j)=some false)
  (Ri:PySem.W.kitOne K (.ref e) (.ref m)=some true)
  (Rj:PySem.W.kitOne K (.ref e) (.type "ValueError")=some true)
  (Rk:PySem.W.kitOne K (.ref c) (.ref f)=some false)
  (Rm:PySem.W.kitOne K (.ref c) (.ref d)=some false)
  (Rn:PySem.W.kitOne K (.ref c) (.ref i)=some false)
  (Ro:PySem.W.kitOne K (.ref c) (.ref e)=some false)
  (Rp:PySem.W.kitOne K (.ref c) (.ref c)=some true)
  (Rq:PySem.W.kitOne K (.ref c) (.ref g)=some false)
  (Rr:PySem.W.kitOne K (.ref c) (.ref j)=some false)
  (Rt:PySem.W.kitOne K (.ref c) (.ref m)=some true)
  (Ru:PySem.W.kitOne K (.ref c) (.type "ValueError")=some true)
  (Rv:PySem.W.kitOne K (.ref g) (.ref f)=some false)
  (Rw:PySem.W.kitOne K (.ref g) (.ref d)=some false)
  (Rx:PySem.W.kitOne K (.ref g) (.ref i)=some false)
  (Ry:PySem.W.kitOne K (.ref g) (.ref e)=some false)
  (Rz:PySem.W.kitOne K (.ref g) (.ref c)=some false)
  (RD:PySem.W.kitOne K (.ref g) (.ref g)=some true)
  (RJ:PySem.W.kitOne K (.ref g) (.ref j)=some false)
  (RK:PySem.W.kitOne K (.ref g) (.ref m)=some true)
  (RL:PySem.W.kitOne K (.ref g) (.type "ValueError")=some true)
  (RM:PySem.W.kitOne K (.ref j) (.ref f)=some false)
  (RN:PySem.W.kitOne K (.ref j) (.ref d)=some false)
  (RP:PySem.W.kitOne K (.ref j) (.ref i)=some false)
  (RQ:PySem.W.kitOne K (.ref j) (.ref e)=some false)
  (RV:PySem.W.kitOne K (.ref j) (.ref c)=some false)
  (RW:PySem.W.kitOne K (.ref j) (.ref g)=some false)
  (RX:PySem.W.kitOne K (.ref j) (.ref j)=some true)
  (RZ:PySem.W.kitOne K (.ref j) (.ref m)=some true)
  (S5:PySem.W.kitOne K (.ref j) (.type "ValueError")=some true)
  (Y:cA K "_law_cell_at" nj)
  (aJ:cA K "is_row" BJ)
  (aA:cA K "is_size" xR)
  (aB:cA K "is_view" xT)
  (av:cA K "has_cell" uz)
  (ap:cA K "is_closed" rD)
  (aQ:cA K "cells" GC)
  (aX:cA K "near" Nk)
  (as:cA K "open_near" rG)
  (ad:cA K "closed_near" oG)
  (aH:cA K "closed" Bw)
  (aW:cA K "edge" Nj)
  (aZ:cA K "far" Yt)
  (aI:cA K "figure" Bx)
  (aq:cA K "is_laying" rE)
  (ae:cA K "stones_near" oH)
  (aS:cA K "keeps" GF)
  (aK:cA K "joined" BK)
  (aT:cA K "parts" GJ)
  (ay:cA K "demands" xP)
  (aw:cA K "may_hold" uD)
  (aC:cA K "layings" xU)
  (az:cA K "is_lone" xQ)
  (aa:cA K "lone_layings" nA)
  (ax:cA K "choices" xO)
  (an:cA K "by_stones" rC)
  (aD:cA K "product" xV)
  (ar:cA K "number_of" rF)
  (aR:cA K "count" GD)
  (aE:cA K "settled" xW)
  (bp:cA K "common_divisor" kh)
  (aG:cA K "chance" Bv)
  (Z:cA K "first_laying" nu)
  (am:cA K "both_ways" rB)
  (aY:cA K "sure" Nm)
  (aU:cA K "shown" GK)
  (ai:cA K "_law_which" qt)
  (ah:cA K "_law_first" qp)
  (ac:cA K "_law_second" oF)
  (au:cA K "_law_met" uy)
  (a0:cA K "law" Yu) :
  ∃ E:FuncData,(∀(s:Shared)(v:Value),BindsTo s E ⟨[v],[]⟩ [("script",v)])/\∀ base:Heap,K.In base->base.Ns mainGlobals n->cB l.prog w K n base (CXE l.prog w) 11 D E ["script"] (T3 K):=by
 obtain⟨_,jq⟩:=jq;obtain⟨_,gk⟩:=gk;obtain⟨_,fQ⟩:=fQ;obtain⟨_,sW⟩:=sW;obtain⟨_,iR⟩:=iR;have T:Txt K n ⟨m,f,d,i,e,c,g,j,o,k⟩:={ uP:=rT X b ak,PJ:=rT X b a2,a1W:=rT X b a3,dI:=rT X b al,fH:=rT X b a4,KR:=rT X b a1,VH:=rT X b a5,VJ:=rT X b a6,lY:=rT X b aV,qR:=rT X b aL,a4C:=rT X b a7,jq:=⟨_,jK X b jq⟩,gk:=⟨_,jK X b gk⟩,fQ:=⟨_,jK X b fQ⟩,sW:=⟨_,jK X b sW⟩,iR:=⟨_,jK X b iR⟩,pR:=jK X b pO,mz:=⟨mz⟩,sI:=jK X b wI,mJ:=⟨mJ⟩,nU:=jK X b qQ,ju:=⟨ju⟩,mR:=jK X b zR,jF:=⟨jF⟩,uh:=jK X b ug,nF:=⟨nF⟩,lZ:=jK X b pQ,iW:=⟨iW⟩,wK:=jK X b wJ,pG:=⟨pG⟩,La:=jK X b KQ,Cj:=⟨Cj⟩,a2E:=jK X b FP,fY:=fY,jt:=jt,eF:=eF,fL:=fL,a2D:=jK X b FN,cT:=cT,dZ:=dZ,fU:=fU,cX:=cX,jr:=jr,sO:=sO,nY:=nY,uT:=uT,pX:=pX,m8:=m8,sS:=sS,Gh:=Gh,Qw:=Qw,Qx:=Qx,Qy:=Qy,Qz:=Qz,QB:=QB,QC:=QC,QD:=QD,QF:=QF,QG:=QG,QH:=QH,QJ:=QJ,QK:=QK,QL:=QL,QM:=QM,QS:=QS,QT:=QT,QV:=QV,QW:=QW,QX:=QX,QZ:=QZ,R0:=R0,R3:=R3,R4:=R4,R5:=R5,R6:=R6,R7:=R7,R8:=R8,R9:=R9,Ra:=Ra,Rb:=Rb,Rc:=Rc,Rf:=Rf,Rg:=Rg,Rh:=Rh,Ri:=Ri,Rj:=Rj,Rk:=Rk,Rm:=Rm,Rn:=Rn,Ro:=Ro,Rp:=Rp,Rq:=Rq,Rr:=Rr,Rt:=Rt,Ru:=Ru,Rv:=Rv,Rw:=Rw,Rx:=Rx,Ry:=Ry,Rz:=Rz,RD:=RD,RJ:=RJ,RK:=RK,RL:=RL,RM:=RM,RN:=RN,RP:=RP,RQ:=RQ,RV:=RV,RW:=RW,RX:=RX,RZ:=RZ,S5:=S5 }
 refine a3g X b a9 a0 (bind1 fun _ _ _ _ _ _ _=>rfl) fun base _ _ F=>?_
 have a:=@a4L l.prog w K n base h X b;have C:=@a5d l.prog w K n base h X b;have a8:=@a4M l.prog w K n base h X b;have P:=@a3o l.prog w K n base;have bd:=a Y (gM fun _ _ _ _ _ _ _ _=>rfl) fun _ _ F=>a0R F T
 have bu:=a aJ (gM fun _ _ _ _ _ _ _ _=>rfl) fun _ _ F=>a3v F T
 have N:=a aA (gM fun _ _ _ _ _ _ _ _=>rfl) fun _ _ F=>a0W F T
 have bq:=a aB (bind1 fun _ _ _ _ _ _ _=>rfl) fun _ _ F=>a0Y F T bu N
 have x:=C FP aP aN bw (gM fun _ _ _ _ _ _ _ _=>rfl) fun _ _ F=>a0S F T bq
 have y:=a av (gM fun _ _ _ _ _ _ _ _=>rfl) fun _ _ F=>a3s F T
 have p:=a ap (gM fun _ _ _ _ _ _ _ _=>rfl) fun _ _ F=>JL F T y
 have B:=a aQ (bind1 fun _ _ _ _ _ _ _=>rfl) fun _ _ F=>JH F T
 have q:=a aX (gM fun _ _ _ _ _ _ _ _=>rfl) fun _ _ F=>Xx F T y
 have r:=a as (gM fun _ _ _ _ _ _ _ _=>rfl) fun _ _ F=>JN F T q p
 have u:=a ad (gM fun _ _ _ _ _ _ _ _=>rfl) fun _ _ F=>DR F T q p
 have Q:=a aH (bind1 fun _ _ _ _ _ _ _=>rfl) fun _ _ F=>V5 F T B p
 have U:=a aW (bind1 fun _ _ _ _ _ _ _=>rfl) fun _ _ F=>Xw F T Q r
 have aF:=a aZ (bind1 fun _ _ _ _ _ _ _=>rfl) fun _ _ F=>a0U F T Q r
 have A:=a aI (gM fun _ _ _ _ _ _ _ _=>rfl) fun _ _ F=>Mv F T
 have L:=a aq (gM fun _ _ _ _ _ _ _ _=>rfl) fun _ _ F=>JM F T p
 have G:=a ae (VL fun _ _ _ _ _ _ _ _ _=>rfl) fun _ _ F=>V9 F T q
 have af:=a aS (gM fun _ _ _ _ _ _ _ _=>rfl) fun _ _ F=>Xq F T L B p A G
 have R:=a aK (gM fun _ _ _ _ _ _ _ _=>rfl) fun _ _ F=>V7 F T r u
 have ag:=a aT (bind1 fun _ _ _ _ _ _ _=>rfl) fun _ _ F=>Xv F T U R
 have bn:=a ay (gM fun _ _ _ _ _ _ _ _=>rfl) fun _ _ F=>Ms F T r u A
 have bm:=a aw (gM fun _ _ _ _ _ _ _ _=>rfl) fun _ _ F=>a3u F T
 have O:=a aC (gM fun _ _ _ _ _ _ _ _=>rfl) fun _ _ F=>Mu F T U R bn bm
 have bo:=a az (gM fun _ _ _ _ _ _ _ _=>rfl) fun _ _ F=>a0T F T p u
 have be:=a aa (bind1 fun _ _ _ _ _ _ _=>rfl) fun _ _ F=>Xr F T B bo A
 have z:=a ax (bind1 fun _ _ _ _ _ _ _=>rfl) fun _ _ F=>Mr F T ag O aF be
 have bj:=a an (bind1 fun _ _ _ _ _ _ _=>rfl) fun _ _ F=>JK F T
 have br:=a aD (gM fun _ _ _ _ _ _ _ _=>rfl) fun _ _ F=>Mw F T
 have H:=a ar (gM fun _ _ _ _ _ _ _ _=>rfl) fun _ _ F=>V8 F T br bj
 have bt:=a aR (gM fun _ _ _ _ _ _ _ _=>rfl) fun _ _ F=>Xn F T H z
 have I:=a aE (VL fun _ _ _ _ _ _ _ _ _=>rfl) fun _ _ F=>Mx F T
 have bb:=a bp (gM fun _ _ _ _ _ _ _ _=>rfl) fun _ _ F=>a3r F T
 have M:=a aG (VL fun _ _ _ _ _ _ _ _ _=>rfl) fun _ _ F=>V4 F T p z H I bb
 have bc:=a Z (bind1 fun _ _ _ _ _ _ _=>rfl) fun _ _ F=>Xo F T
 have J:=a am (gM fun _ _ _ _ _ _ _ _=>rfl) fun _ _ F=>a0Q F T p z I bc
 have bs:=a aY (gM fun _ _ _ _ _ _ _ _=>rfl) fun _ _ F=>a0X F T J
 have bk:=a aU (gM fun _ _ _ _ _ _ _ _=>rfl) fun _ _ F=>a0V F T J
 have S:=C FN aO aM bv (a4D fun _ _ _ _ _ _ _ _ _ _=>rfl) fun _ _ F=>Xp F T N x L
 have bi:=P aj cT (bind1 fun _ _ _ _ _ _ _=>rfl) fun _ _ F=>V6 F T
 have ba:=P ab cT (gM fun _ _ _ _ _ _ _ _=>rfl) fun _ _ F=>Mz F T bi y G q
 have bh:=a8 ai (bind1 fun _ _ _ _ _ _ _=>rfl) fun _ _ F=>Xy F T
 have bg:=a ah (bind1 fun _ _ _ _ _ _ _=>rfl) fun _ _ F=>Mt F T x S af q O M
 have bf:=a ac (bind1 fun _ _ _ _ _ _ _=>rfl) fun _ _ F=>JQ F T x S ba bt M bs bk
 have bl:=a au (bind1 fun _ _ _ _ _ _ _=>rfl) fun _ _ F=>Xu F T bg bf bh
 exact a3t F T bd bl
theorem walk{l:PySem.W.OpenLaw}{q:Program}{t:List Str}{j:(Str->Option Value)->Heap->Prop}{e:World->Heap->Prop}{d:DefRec}{K:Params->ao}(r:l.most=some 63)(p:d.params.defaults=[])
  (o:∀(w:World)(h:Heap),e w h->(K w.params).In h)
  (F:∀(w:World)(b:Str->Option Value)(g:Addr)(h:Heap),(K w.params).In h->h.Ns mainGlobals b->b d.name=some (.ref g) ->
   ∃ i:FuncData,(∀(s:Shared)(u:Value),BindsTo s i ⟨[u],[]⟩ [("script",u)])/\∀ base:Heap,(K w.params).In base->base.Ns mainGlobals b->cB l.prog w (K w.params) b base (CXE l.prog w) 11 g i ["script"] (T3 (K w.params))) :
  PySem.W.WalkO q t j e l.row.toRowW d [] (fun f vs=>PySem.call f vs):=
 L2.a1R (n:=63) (k:=11) (x:="script") (CX:=fun w=>CXE l.prog w) (sp:=fun w=>T3 (K w.params)) r (by decide) p ⟨rfl,by decide,by decide⟩ o F (fun _ _ a v y _ m=>⟨a,v,rfl,m,fun _=>rfl⟩) fun _ _ _ _ _ c=>by
  obtain⟨_,_,_,_,_,_,_,_,_,c⟩:=c;exact c
end My
namespace PySem.W.Fast
def tw7481217883621886795:=0
def tw2506702011961796738:=0
def tw18434718821708018778:=0
def tw7426534500445822440:=0
def tw6539081175370141479:=0
def tw1211119431172976283:=0
def tw12136578476240924975:=0
def tw3540703193960981054:=0
def tw2250182059964617869:=0
def tw6910339619147852248:=0
def tw4781241603826822994:=0
def tw1676455772154042142:=0
def tw11420808303707842116:=0
def tw8912692250118819422:=0
def tw13627480344026194768:=0
def tw10731602210409466528:=0
def tw15338694506018486466:=0
def tw15415953164397124044:=0
def tw4155974144890046902:=0
def tw15904983272122119036:=0
def tw2247069872453093014:=0
def tw17642321919732950073:=0
def tw12090928764987212072:=0
def tw4448798215157983422:=0
def tw5197969875909218075:=0
def tw6584320302417444849:=0
def tw2929623001846642617:=0
def tw263789584844419224:=0
def tw6569588828337159223:=0
def tw9091749170607708273:=0
def tw14784729026703151626:=0
def tw9093036704386993954:=0
def tw2179692304375569520:=0
def tw5539414175728075522:=0
def tw7495132595742752087:=0
def tw10709228570278776035:=0
def tw13284871204398257354:=0
def tw1514079314127975109:=0
def tw7326806720395624378:=0
def tw16281600415926396191:=0
def tw278314340415194418:=0
def tw13264548145183171518:=0
def tw8234829473275070474:=0
def tw14853417134039257143:=0
def tw8445242246793255671:=0
def tw14315935549492887012:=0
def tw2714095774784812092:=0
def tw11986882570631142097:=0
def tw8199426279047826727:=0
def tw1897739042933556425:=0
def tw6857730488088794263:=0
def tw6122798797639028465:=0
def tw5727809075992598379:=0
def tw11663720882749912469:=0
def tw15674046451956199938:=0
def tw16233713339586208782:=0
def tw4934697980023098897:=0
def tw11131865617997803728:=0
def tw2672599631665387965:=0
def tw15587958871920832861:=0
def tw16170655040031014862:=0
def tw14264215985274699963:=0
def tw10570705025284340435:=0
def tw8473510149690414863:=0
def tw2680045728546244639:=0
def tw5402904568820750398:=0
def tw13540605478160391455:=0
def tw4090590061374626689:=0
def tw1421203087715435110:=0
def tw5212508260144347927:=0
def tw16584342122935116277:=0
def tw8942606245620572795:=0
def tw3452916536158495994:=0
def tw15874286516176053930:=0
def tw5100540145724383406:=0
def tw7095352321089561000:=0
def tw13176244302879376064:=0
def tw1105451200076773254:=0
def tw5711861670826203435:=0
def tw9524010056630640044:=0
def tw4365084355727938031:=0
def tw3930131565270264649:=0
def tw1666125651373650445:=0
def tw12369892983535366039:=0
def tw17058789253073725617:=0
def tw2662470265671575927:=0
def tw7201123653337232310:=0
def tw17329740530543592980:=0
def tw4250183963747117162:=0
def tw235330315720384548:=0
def tw8793136513946928833:=0
def tw13481690525841799729:=0
def tw13410053719330872510:=0
def tw8647887303128993442:=0
def tw2914123529833765972:=0
def tw5067594738397253425:=0
def tw6415925761017011000:=0
def tw4744470841607927109:=0
def tw16816878583935753096:=0
def tw7463896432729168364:=0
def tw14367258503672543511:=0
def tw15926290782827242189:=0
def tw7853023648663386127:=0
def tw14108955479468366342:=0
def tw3222569968035567145:=0
def tw5588380785523617222:=0
def tw578475847350818678:=0
def tw2941510259221123180:=0
def tw15808713695776250974:=0
def tw14189555653822358818:=0
def tw11295348917053983952:=0
def tw1628450056616981746:=0
def tw16517211496378471447:=0
def tw17246025552322720437:=0
def tw11353633690068158566:=0
def tw2526603722458075616:=0
def tw9056332746947728128:=0
def tw942950052391247170:=0
def tw124110472871404046:=0
def tw15123520000077012978:=0
def tw5486416130739808661:=0
def tw17683395810233872727:=0
def tw17291693966066674401:=0
def tw14142647386184872101:=0
def tw190239588784273449:=0
def tw4232831344491106093:=0
def tw7265748512391687693:=0
def tw15822114926359360221:=0
def tw17784906867963685059:=0
def tw6554495184341865634:=0
def tw15158216519913744109:=0
def tw12816114463645801735:=0
def tw10524061980655859375:=0
def tw18363648454865686298:=0
def tw107545689991157078:=0
def tw5030309473119698804:=0
def tw15780328410306499564:=0
def tw4475859057740122342:=0
def tw7233499823100408597:=0
def tw17373617941598165586:=0
def tw12825614625752920255:=0
def tw16534144796186658364:=0
def tw1596354485813740797:=0
def tw457748291583079025:=0
def tw8855514198044153265:=0
def tw14151768890078025618:=0
def tw1733500788674528878:=0
def tw14127171068554841960:=0
def tw1710373879313339822:=0
def tw8167075418612336695:=0
def tw2886900505532035455:=0
def tw15229678009271893661:=0
def tw8145558637808370353:=0
def tw2899003397237313676:=0
def tw12852643590285684035:=0
def tw3106843065364404023:=0
def tw10239137589716746803:=0
def tw3389215413104514158:=0
def tw10115208465000818887:=0
def tw2366142332219394423:=0
def tw7346242844776590119:=0
def tw5203385732527036443:=0
def tw13301435241603475713:=0
def tw17696938853068825522:=0
def tw5837576915071348480:=0
def tw16264720313306644071:=0
def tw12339737643535307376:=0
def tw4097987834782928747:=0
def tw2970428805357840709:=0
def tw9455845127834187092:=0
def tw15743921518428229655:=0
def tw11356030762643104311:=0
def tw3926234253977692427:=0
def tw13853965248741387785:=0
def tw17061012909912518405:=0
def tw8315512047439948752:=0
def tw9474310669119762261:=0
def tw9297193977677419814:=0
def tw12371957383742047351:=0
def tw5079639834191113259:=0
def tw3602827778854516998:=0
def tw7634192608218490019:=0
def tw3081525249141982190:=0
def tw17004747080929343464:=0
def tw17393025035215262031:=0
def tw3370179756807743464:=0
def tw18318568891076577704:=0
def tw15372057935095768396:=0
def tw8033196744873495409:=0
def tw15897163414066018350:=0
def tw857302102187108396:=0
def tw17607947547913567073:=0
def tw16095268731718808850:=0
def tw2909399535954543486:=0
def tw4166981994849284162:=0
def tw17572501958571868853:=0
def tw11851493203033910475:=0
def tw8181001630604016422:=0
def tw1626249313339847953:=0
def tw256589770564707130:=0
def tw2528161294886551047:=0
def tw7724217977025997863:=0
def tw3642438592235736619:=0
def tw5179728859348441413:=0
def tw15822654627733748277:=0
def tw5098383155100491755:=0
def tw18067258930641881111:=0
def tw16548971647756385402:=0
def tw1208239550688521525:=0
def tw15437820875160254525:=0
def tw7086398118917236228:=0
def tw1037634413622556060:=0
def tw14876022976842963167:=0
def tw2595818924409903272:=0
def tw12263836483119459689:=0
def tw2887378449402688848:=0
def tw15673284272322820102:=0
def tw12689489992938135155:=0
def tw3177798581079464917:=0
def tw4372598848484465650:=0
def tw12725580450788422856:=0
def tw4743152803571461170:=0
def tw7786522188541766172:=0
def tw14808864996944657407:=0
def tw3574814501999480740:=0
def tw5602731652807428053:=0
def tw13753909520058269546:=0
def tw10320982634996360222:=0
def tw14541664069376150804:=0
def tw12398820854581566949:=0
def tw3061023687927235854:=0
def tw4015957049709343649:=0
def tw16426057877962887513:=0
def tw8276122571699637791:=0
def tw5236007027524098056:=0
def tw10472984838392879685:=0
def tw15640492599402955004:=0
def tw18429561378615029163:=0
def tw14464961130796765339:=0
def tw14437794346276709387:=0
def tw2673320346037468236:=0
def tw11868110076309647601:=0
def tw1517891847207213273:=0
def tw6623339242299874392:=0
def tw14181657441536786553:=0
def tw1741148744701206239:=0
def tw9424250051574861073:=0
def tw8967189088228090834:=0
def tw1436587049239688010:=0
def tw16826128015455636403:=0
def tw17260410357980197096:=0
def tw3256222389212241100:=0
def tw11550486021127249924:=0
def tw2452897631198173513:=0
def tw12973999233785568154:=0
def tw14742234992842306007:=0
def tw12158753814887826527:=0
def tw690062450275780208:=0
def tw14925330846636192478:=0
def tw14536116031204991714:=0
def tw2242876211629318044:=0
def tw6536065200752504527:=0
def tw18185298015112128257:=0
def tw10126775766720169691:=0
def tw8797068704283192652:=0
def tw11599618308342827076:=0
def tw11670357311759443906:=0
def tw18018914455954944778:=0
def tw3226161935760043145:=0
def tw11769266267893120359:=0
def tw16097576122301844566:=0
def tw16203206111373228514:=0
def tw17606820976061228927:=0
def tw9317063490251998264:=0
def tw10992590708808242696:=0
def tw4080890525885161773:=0
def tw6082967567610192623:=0
def tw15165109491512260930:=0
def tw3746131082916093570:=0
def tw2377774422273136376:=0
def tw5652526299537216800:=0
def tw16474611993424058174:=0
def tw15837772224977416548:=0
def tw18258515977127210204:=0
def tw7183774049447268304:=0
def tw498411272035263521:=0
def tw10453128844037564578:=0
def tw11290773372136520509:=0
def tw7537203775961482492:=0
def tw13711327354734792263:=0
def tw16305503726263029750:=0
def tw17865049045755815126:=0
def tw8657168337881759876:=0
def tw18029303099313043702:=0
def tw13723737669206967983:=0
def tw4564817543612414536:=0
def tw17092978699849256563:=0
def tw4452416959148949089:=0
def tw12442338924731419449:=0
def tw16068647478918078199:=0
def tw4528438127589420864:=0
def tw16168426744250390498:=0
def tw11339913013616605186:=0
def tw14315045909054931770:=0
end PySem.W.Fast
open PySem PySem.W PyProof.Rows
set_option maxRecDepth 100000 in
set_option maxHeartbeats 0 in
theorem PySem.Challenge.cw_dampfield_k15_refusals_apart_holds : PySem.Challenge.rw_dampfield_k15_refusals_apart.Holds := by
 w_on;o_law;k_head;(case hw=>w_witness2)
 k_fill
 refine My.walk (l:=PySem.Challenge.rw_dampfield_k15_refusals_apart) rfl rfl (fun w h Y=>PySem.W.kIn_of Y) ?F
 case F=>
  intro w mg j h f e g
  refine' My.all_mk f e g ?pO ?wI ?qQ ?zR ?ug ?pQ ?wJ ?KQ ?FP ?FN ?_ ?_ ?_ ?_ ?_ ?_ ?_ ?_ ?_ ?_ ?_ ?_ ?_ ?_ ?_ ?_ ?_ ?_ ?_ ?_ ?_ ?_ ?_ ?_ ?_ ?_ ?_ ?_ ?_ ?_ ?_ ?_ ?_ ?_ ?_ ?_ ?_ ?_ ?_ ?_ ?_ ?_ ?_ ?_ ?_ ?_ ?_ ?_ ?_ ?_ ?_ ?_ ?_ ?_ ?_ ?_ ?_ ?_ ?_ ?_ ?_ ?_ ?_ ?_ ?_ ?_ ?_ ?_ ?_ ?_ ?_ ?_ ?_ ?_ ?_ ?_ ?_ ?_ ?_ ?_ ?_ ?_ ?_ ?_ ?_ ?_ ?_ ?_ ?_ ?_ ?_ ?_ ?_ ?_ ?_ ?_ ?_ ?_ ?_ ?_ ?_ ?_ ?_ ?_ ?_ ?_ ?_ ?_ ?_ ?_ ?_ ?_ ?_ ?_ ?_ ?_ ?_ ?_ ?_ ?_ ?_ ?_ ?_ ?_ ?_ ?_ ?_ ?_ ?_ ?_ ?_ ?_ ?_ ?_ ?_ ?_ ?_ ?_ ?_ ?_ ?_ ?_ ?_ ?_ ?_ ?_ ?_ ?_ ?_ ?_ ?_ ?_
  (case pO=>k_is)
  (case wI=>k_is)
  (case qQ=>k_is)
  (case zR=>k_is)
  (case ug=>k_is)
  (case pQ=>k_is)
  (case wJ=>k_is)
  (case KQ=>k_is)
  (case FP=>k_is)
  (case FN=>k_is)
  iterate 8 k_exc
  iterate 1 (refine' My.Xe ?a ?i ?b ?c ?d;(case a=>k_is);(case i=>k_is);(case b=>k_is);(case c=>k_is);(case d=>k_is))
  iterate 1 (refine' ⟨?_,?_,?_,?_⟩<;>k_is)
  iterate 5 k_is
  iterate 3 (refine' My.Xe ?a ?i ?b ?c ?d;(case a=>k_is);(case i=>k_is);(case b=>k_is);(case c=>k_is);(case d=>k_is))
  iterate 1 (refine' ⟨?_,?_,?_,?_⟩<;>k_is)
  iterate 6 k_is
  iterate 2 (refine' My.a5U ?a;(case a=>k_is))
  iterate 2 (refine' My.a6E ?a;(case a=>k_is))
  iterate 1 (refine' My.a5U ?a;(case a=>k_is))
  iterate 11 k_is
  iterate 7 (refine' ⟨?_,?_,?_,?_,?_,?_,?_⟩<;>k_is)
  iterate 63 kit_is
  iterate 41 (refine' My.a4J ?a ?b ?c ?d;(case a=>k_is);(case b=>k_is);(case c=>k_is);(case d=>k_is))
