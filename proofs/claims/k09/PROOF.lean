import PyProof.Rows.All
import Wide.All
import OpenK.AllK
import Wide.FinOn
import Lean
import PyProof.EqAt
import PyProof.EqKinds
import PyProof.TupleCall
import PySem.Challenge.RW_dampfield_k09_whole_what_is_shown
set_option Elab.async false
set_option linter.all false
set_option maxHeartbeats 4000000
set_option maxRecDepth 100000
def aJ:=@if_neg
def aL:=@if_pos
def bT:=@decide_eq_true
def cN:=@of_decide_eq_true
def cB:=@decide_eq_false
def iC:=@decide_eq_true_iff
def mz:=@beq_eq_false_iff_ne
def mD:=@of_decide_eq_false
def jR:=@beq_iff_eq
def tD:=@decide_eq_decide
def lK:=@if_false
def mV:=@if_true
def MJ:=@beq_self_eq_true
def Bv:=@or_false
open Array renaming getElem?_eq_getElem->jd,getD_eq_getD_getElem?->mq,length_toList->jf,toList_append->jN,getElem?_toList->Ej,toList_reverse->Gy,getElem_mem_toList->M5,toList_push->GP,getElem_toList->Ml,toList_setIfInBounds->Ve,toList_inj->MK,getElem?_eq_none->Vp,toList_extract->Vv,append_assoc->VH,size_extract->VN
open Bool renaming false_ne_true->fG,and_eq_true->mF,not_eq_true'->pF,false_eq_true->BP,not_eq_false'->BR,true_and->uU,eq_iff_iff->tG,false_and->wN,and_false->Bp,false_or->Hq,beq_eq_decide_eq->Vr,and_eq_true_iff->Vz
def M4:=@Classical.byContradiction
open Int renaming toNat_natCast->jx,zero_add->rQ,emod_lt_of_pos->Ba,toNat_of_nonneg->GF,emod_nonneg->Bo,eq_ofNat_of_zero_le->M7
open List renaming length_map->aV,getD_eq_getElem?_getD->fX,mem_singleton->dM,getElem?_eq_getElem->dU,length_append->cM,mem_filter->cg,size_toArray->cR,getElem?_map->cV,mem_append->cI,mem_cons_self->dJ,mem_range->cJ,mem_cons_of_mem->fK,mem_of_getElem?->fV,mem_cons->cO,mem_map->cT,map_append->eG,length_filter_le->iw,getElem?_eq_some_iff->jw,mem_append_left->iB,mem_append_right->je,length_cons->gP,map_cons->fH,all_eq_true->jy,take_length->jO,length_range->lO,length_singleton->pC,pairwise_iff_getElem->rP,length_take->lQ,getElem_mem->mG,take_succ->jP,drop_eq_getElem_cons->xO,pairwise_cons->qK,getElem?_append_right->Bw,map_map->mH,pairwise_append->xP,take_of_length_le->Bx,getElem?_append_left->Ei,take_append_drop->BJ,filter_append->xQ,mem_of_mem_take->BK,append_assoc->xR,nodup_append->xT,flatMap_cons->xU,range_succ->uT,lookup_cons->xV,append_nil->xW,length_eq_zero_iff->JR,replicate_succ->wI,flatMap_append->wJ,filter_sublist->wK,length_drop->tu,flatten_cons->wL,getElem?_of_mem->Ar,filter_eq_self->Aw,map_congr_left->Ax,mem_filterMap->Ay,find?_cons->wM,pairwise_map->Bc,getElem?_toArray->Gw,mem_flatMap->Bd,mem_of_mem_drop->Gx,getElem_map->Bf,not_mem_nil->Bg,any_cons->wQ,nodup_cons->Bj,length_nil->Bl,filter_congr->GK,ext_getElem?->GQ,getElem?_set_self->M8,drop_of_length_le->Ma,filter_eq_nil_iff->Mf,all_cons->Br,mem_reverse->GX,filter_cons->GZ,any_eq_true->Hf,perm_append_comm->Mh,pairwise_reverse->Mi,mem_iff_getElem->Mj,filterMap_cons->Mp,getElem_of_mem->Mq,drop_zero->Hh,drop_drop->Hj,nodup_nil->Hl,perm_ext_iff_of_nodup->Vf,sum_cons->Hr,reverse_perm->Mx,getElem?_take_of_lt->Vi,map_nil->Ht,all_map->Hu,sublist_append_left->Vk,pairwise_singleton->Vl,of_mem_zip->MP,foldl_cons->N5,length_pos_of_mem->Vo,getElem?_eq_none->Vs,take_zero->N6,pairwise_flatten->Vt,getElem?_set_ne->Vu,reverse_append->VF,modify_toArray->VG
def Mu:=@List.Nodup.sublist
def Mz:=@List.Sublist.refl
open Nat renaming le_refl->bK,le_trans->cP,lt_of_lt_of_le->jg,ne_of_lt->fW,mul_le_mul->lR,zero_le->jj,lt_irrefl->qM,le_of_ble_eq_true->Gv,zero_add->tK,le_succ->tL,min_eq_left->Bm,ne_of_gt->Bs,add_zero->Bt,lt_of_le_of_lt->Mt,le_of_lt->Hs,pow_le_pow_right->Vy,add_le_add_left->VD,succ_mul->N7
def lM:=@Ne.symm
open Option renaming map_eq_some_iff->iQ,map_some->tH,isSome_iff_exists->Vh
open Option.some renaming inj->iD,injEq->Bb
def jJ:=@Prod.ext
open PyProof.Rows renaming wpS_bind->aW,wpS_pure->bf,wpS_forRange->jh,wpS_mono->jk,wpS_modify->nR,callWith_type1->Gs,wpS_get->jK,wpS_lift->tM,mirror_perm->Bu,assignInOrder_cons->Mr
open PySem renaming wpAny_bind->bQ,wpAny_pure->cQ,wpAny_mono->iT,wpAny_eqBool_int->qL,wpAny_truthy_bool->uR,sizeLine_eq->qN,wpAny_passesOwn->tE,mem_of_lookup->Av,wpAny_Call_Name_kw->Az,wpAny_rule->qI,call_meets->qJ,wpAny_holding->wO,wpAny_isSubtype_exc->GD,wpAny_execs_nil->Bh,codeAny_mono->wR,wpAny_newObj_type->GJ,wpAny_loadPart_at->GR,richCompare_meets_room->M9,codeAny_builtin->Hg,wpAny_standAt->Ho,wpAny_assign_Name->Mv,wpAny_execs_cons->MF,wpAny_comprehension_free->Vj,wpAny_call_entry->MN
def Gz:=@PySem.Around.under_plainId
def M6:=@PySem.AutoSeq1.sub_tuple_tuple
open PySem.Calls renaming Name_function_global->Vd,call_function_entry->Vg
open PySem.F renaming plainAttrs_list->lN,slot_list_append->nO,type_list_append->nP,slot_dict_keyiterator_next->JQ,excBase_ValueError->Gu,args_dict_keyiterator_next_1->Vb,entry_dict_keyiterator_next->Vc,plain_list_iadd->Vm,slot_dict_iter->Vq,slot_list_lt->Vx
open PySem.Heap renaming get?_push_of_some->gY,lt_size->bI,get?_push_size->iR,get?_update_ne->GC
def eO:=@PySem.PassesOwn.never
def Hv:=@PySem.SeqAt.EqAt.of_refs
def VP:=@PySem.Txt.slice_le
open PySem.W renaming mg_none_of->pD,mg_of->jQ,kia_one->nQ,callWith_K->Ms,kitx_list->Mw,cellsFrom_some->Vn,hideAll_get->VB,of_hideAll->VJ,kitx_tuple->VL
abbrev ao:=PySem.W.Frag
namespace L2
open PySem PySem.Spec PyProof.Rows
abbrev Key:=Sum Int Str
def Dr:Key->Value->Bool
 |.inl k,v=>Value.isInt k v
 |.inr x,v=>Value.isStrOf x v
def a3e(w:World):Key->Int
 |.inl k=>hashInt k
 |.inr x=>hashStr w x
theorem fj:∀ {k:Key} {v:Value},Dr k v=true->(∃ i t,k=Sum.inl i/\v=Value.int i t)\/(∃ x t,k=Sum.inr x/\v=Value.str x t)
 |.inl i,v,h=>by
  obtain⟨t,e⟩:=Value.isInt_shape (k:=i) (v:=v) h;exact .inl ⟨i,t,rfl,e⟩
 |.inr x,v,h=>by
  obtain⟨t,e⟩:=Value.isStrOf_shape (x:=x) (v:=v) h;exact .inr ⟨x,t,rfl,e⟩
theorem Qf(i:Int)(t:Tok):Dr (.inl i) (.int i t)=true:=by simp[Dr,Value.isInt]
theorem Qg(x:Str)(t:Tok):Dr (.inr x) (.str x t)=true:=by simp[Dr,Value.isStrOf]
theorem ZW(a b:Int):decide ((Sum.inl a:Key)=Sum.inl b)=(a==b):=by
 by_cases e:a=b
 ·subst e;simp
 ·have h:¬(Sum.inl a:Key)=Sum.inl b:=fun q=>e (Sum.inl.inj q)
  rw[cB h];exact(mz.mpr e).symm
theorem a01(a b:Str):decide ((Sum.inr a:Key)=Sum.inr b)=decide (a=b):=by
 by_cases e:a=b
 ·subst e;simp
 ·have h:¬(Sum.inr a:Key)=Sum.inr b:=fun q=>e (Sum.inr.inj q)
  rw[cB h,cB e]
theorem ZX(a:Int)(b:Str):decide ((Sum.inl a:Key)=Sum.inr b)=false:=cB (fun q=>nomatch q)
theorem a00(a:Str)(b:Int):decide ((Sum.inr a:Key)=Sum.inl b)=false:=cB (fun q=>nomatch q)
def gj(prog:Program)(w:World):PySem.KeyKind prog w Key where
 is:=Dr
 hash:=a3e w
 inj:=fun v a b ha hb=>by
  rcases fj ha with⟨i,t,rfl,rfl⟩|⟨x,t,rfl,rfl⟩
  ·rcases fj hb with⟨j,u,rfl,e⟩|⟨y,u,rfl,e⟩
   ·injection e with e1 _;rw[e1]
   ·exact nomatch e
  ·rcases fj hb with⟨j,u,rfl,e⟩|⟨y,u,rfl,e⟩
   ·exact nomatch e
   ·injection e with e1 _;rw[e1]
 byValue:=fun k v h=>by
  rcases fj h with⟨i,t,rfl,rfl⟩|⟨x,t,rfl,rfl⟩<;>rfl
 pyHash:=fun hv h=>by
  rcases fj hv with⟨i,t,rfl,rfl⟩|⟨x,t,rfl,rfl⟩
  ·exact wpAny_pyHash_int h
  ·exact wpAny_pyHash_str h
 eqBool:=fun hu hv h=>by
  rcases fj hu with⟨i,t,rfl,rfl⟩|⟨x,t,rfl,rfl⟩
  ·rcases fj hv with⟨j,u,rfl,rfl⟩|⟨y,u,rfl,rfl⟩
   ·rw[ZW] at h;exact qL h
   ·rw[ZX] at h;exact SeqAt.EqAt.int_str i t y u _ _ _ _ h
  ·rcases fj hv with⟨j,u,rfl,rfl⟩|⟨y,u,rfl,rfl⟩
   ·rw[a00] at h;exact SeqAt.EqAt.str_int x t j u _ _ _ _ h
   ·rw[a01] at h;exact wpAny_eqBool_str h
 «strs»:=fun k x t v h=>by
  rcases fj h with⟨i,u,rfl,e⟩|⟨y,u,rfl,e⟩
  ·exact nomatch e
  ·injection e with e1 _;subst e1;cases v<;>rfl
theorem J2(prog:Program)(w:World)(i:Int)(t:Tok):(gj prog w).is (.inl i) (.int i t)=true:=Qf i t
theorem J4(prog:Program)(w:World)(x:Str)(t:Tok):(gj prog w).is (.inr x) (.str x t)=true:=Qg x t
inductive V where
 |non|bl (b:Bool)|int (i:Int)|str (x:Str)|byt (b:Array UInt8)|flt (b:UInt64)|ref (a:Addr)|ty (n:String)
 deriving DecidableEq
def RelV:V->Value->Prop
 |.non,u=>u=Value.none
 |.bl b,u=>u=Value.bool b
 |.int i,u=>∃ t,u=Value.int i t
 |.str x,u=>∃ t,u=Value.str x t
 |.byt b,u=>∃ t,u=Value.bytes b t
 |.flt b,u=>∃ t,u=Value.float b t
 |.ref a,u=>u=Value.ref a
 |.ty n,u=>u=Value.type n
abbrev Vals:List V->List Value->Prop:=Paired RelV
theorem Vals.length{xs:List V}{us:List Value}(r:Vals xs us):xs.length=us.length:=Paired.length r
theorem Vals.get:∀ {xs:List V} {us:List Value} {i:Nat} {x:V},Vals xs us->xs[i]?=some x->∃ u,us[i]?=some u/\RelV x u
 |_,_,_,_,.nil,e=>by simp at e
 |_,_,0,_,.cons r _,e=>by simp at e;subst e;exact⟨_,rfl,r⟩
 |_,_,i+1,x,.cons _ t,e=>by
  obtain⟨u,h1,h2⟩:=Vals.get (i:=i) (x:=x) t (by simpa using e);exact⟨u,by simpa using h1,h2⟩
theorem Vals.append:∀ {xs ys:List V} {us ws:List Value},Vals xs us->Vals ys ws->Vals (xs++ys) (us++ws)
 |_,_,_,_,.nil,s=>s
 |_,_,_,_,.cons r t,s=>.cons r (Vals.append t s)
theorem Vals.take:∀ {xs:List V} {us:List Value} (n:Nat),Vals xs us->Vals (xs.take n) (us.take n)
 |_,_,0,_=>.nil
 |_,_,_+1,.nil=>.nil
 |_,_,n+1,.cons r t=>.cons r (Vals.take n t)
theorem Vals.drop:∀ {xs:List V} {us:List Value} (n:Nat),Vals xs us->Vals (xs.drop n) (us.drop n)
 |_,_,0,r=>r
 |_,_,_+1,.nil=>.nil
 |_,_,n+1,.cons _ t=>Vals.drop n t
def yO:Option V->Option Value->Prop
 |some v,some u=>RelV v u
 |none,none=>True
 |_,_=>False
def KV{κ:Type}:List (κ×V)->List (κ×Value)->Prop:=Paired fun(p:κ×V)(q:κ×Value)=>p.1=q.1/\RelV p.2 q.2
def kV:Key->V
 |.inl i=>.int i
 |.inr x=>.str x
inductive HO where
 |lst (xs:List V)
 |tup (xs:List V)
 |dK (kvs:List (Key×V))|dT (kvs:List (List Key×V))
 |set (S:Int->Bool) (n:Nat)
 |ins (C dx:Addr) (fs:List (Str×V))
 |own (x:Addr)
 |xd (fs:List (Str×V))
 |met (f x:Addr)
 |rng (lo hi:Int)
 |frz (o:Obj) (u:HO)
 |tbl (ps:Array Value)
 |ext (φ:Heap->Prop)
abbrev Hp:=Addr->Option HO
def upd(H:Hp)(a:Addr)(o:HO):Hp:=fun b=>if b=a then some o else H b
theorem aD{H:Hp}{a:Addr}{o:HO}:upd H a o a=some o:=by unfold upd;rw[aL rfl]
theorem bF{H:Hp}{a b:Addr}{o:HO}(h:b≠a):upd H a o b=H b:=by unfold upd;rw[aJ h]
theorem qg{H:Hp}{a b:Addr}{o u:HO}(h:H a=some o)(h':H b=some u)(d:o≠u):a≠b:=by
 intro e;subst e;rw[h] at h';exact d (iD h')
theorem bV{H:Hp}{a b:Addr}{o:HO}(h:H a=some o)(h':H b=none):a≠b:=by
 intro e;subst e;rw[h] at h';cases h'
section
variable(P:Program)(w:World)
def eU(H:Hp)(h:Heap)(a:Addr):HO->Prop
 |.lst xs=>xs.length<=sizeLine/\∃(its:List Value)(n:Nat),Vals xs its/\h.get? a=some { cls:=.type "list",data:=.seq its.toArray n }
 |.tup xs=>xs.length<=sizeLine/\∃ its:List Value,Vals xs its/\IsTup h a its.toArray
 |.dK kvs=>kvs.length<=sizeLine/\(a==sysModules)=false/\∃ vs,KV kvs vs/\h.DictOf (gj P w) a vs
 |.dT kvs=>kvs.length<=sizeLine/\(a==sysModules)=false/\∃ xs:List (List Key×Addr×Value),
   Paired (fun(p:List Key×V)(q:List Key×Addr×Value)=>p.1=q.1/\H q.2.1=some (.tup (p.1.map kV))/\RelV p.2 q.2.2) kvs xs /\
   ∃ o es ep,h.get? a=some o/\o.ExactDict/\o.data=.dict es ep/\es.toList=xs.map (entryOfKey (tupleKind (gj P w)))/\(xs.map (·.1)).Nodup
 |.set S n=>h.SetOf (intKind P w) a S n
 |.ins C dx fs=>H dx=some (.own a)/\fs.length<=1000/\dx≠a/\h.get? a=some (PySem.W.instObj C dx) /\
   ∃ mA,h.Ns1 dx mA/\(∀ f,yO (fs.lookup f) (mA f))/\PySem.Within mA (fs.map (·.1))
 |.own _=>∃ o,h.get? a=some o
 |.xd fs=>∃ mA,h.Ns1 a mA/\∀ f,yO (fs.lookup f) (mA f)
 |.rng lo hi=>∃ t u v,h.get? a=some { cls:=.type "range",data:=.fields #[.int lo t,.int hi u,.int 1 v] }
 |.frz o u=>h.get? a=some o/\eU H h a u
 |.tbl ps=>h.get? a=some { cls:=.none,data:=.fields ps }
 |.met f x=>h.get? a=some (PySem.W.methodObj (.ref f) (.ref x))
 |.ext φ=>φ h/\(∃ o,h.get? a=some o)/\∀ h1 h2:Heap,φ h1->(∀ o,h1.get? a=some o->h2.get? a=some o)->φ h2
def HOk(H:Hp)(h:Heap):Prop:=∀ a o,H a=some o->eU P w H h a o
end
section
variable{P:Program}{w:World}{H H':Hp}{h h':Heap}{a:Addr}{o:HO}
theorem eU.lt(x:eU P w H h a o):a<h.objs.size:=by
 cases o with
 |lst xs=>obtain⟨_,_,_,_,e⟩:=x;exact bI e
 |tup xs=>obtain⟨_,_,_,p⟩:=x;exact p.lt
 |dK kvs=>obtain⟨_,_,_,_,o,_,_,e,_⟩:=x;exact bI e
 |dT kvs=>obtain⟨_,_,_,_,o,_,_,e,_⟩:=x;exact bI e
 |set S n=>obtain⟨o,_,_,_,e,_⟩:=x;exact bI e
 |ins C dx fs=>obtain⟨_,_,_,e,_⟩:=x;exact bI e
 |own y=>obtain⟨_,e⟩:=x;exact bI e
 |xd fs=>obtain⟨_,⟨_,_,_,e,_⟩,_⟩:=x;exact bI e
 |rng lo hi=>obtain⟨_,_,_,e⟩:=x;exact bI e
 |frz ob u=>obtain⟨e,_⟩:=x;exact bI e
 |tbl ps=>exact bI (show h.get? a=some _ from x)
 |met f y=>exact bI (show h.get? a=some _ from x)
 |ext φ=>obtain⟨_,⟨_,e⟩,_⟩:=x;exact bI e
theorem Paired.a05{α β:Type}{F G:α->β->Prop}:∀ {l₁:List α} {l₂:List β},Paired F l₁ l₂->(∀ a b,F a b->G a b)->Paired G l₁ l₂
 |_,_,.nil,_=>.nil
 |_,_,.cons r t,f=>.cons (f _ _ r) (Paired.a05 t f)
theorem eU.stay(x:eU P w H h a o)(k:∀ b u,(b=a\/H b=some (.own a))->h.get? b=some u->h'.get? b=some u)
  (ho:∀ b,H b=some (.own a)->H' b=some (.own a)) (ht:∀ b xs,H b=some (.tup xs)->H' b=some (.tup xs)):eU P w H' h' a o:=by
 induction o with
 |lst xs=>obtain⟨z,its,n,r,e⟩:=x;exact⟨z,its,n,r,k _ _ (.inl rfl) e⟩
 |tup xs=>obtain⟨z,its,r,ob,e,c⟩:=x;exact⟨z,its,r,ob,k _ _ (.inl rfl) e,c⟩
 |dK kvs=>obtain⟨z,y,vs,r,ob,es,ep,e,c⟩:=x;exact⟨z,y,vs,r,ob,es,ep,k _ _ (.inl rfl) e,c⟩
 |dT kvs=>
  obtain⟨z,y,xs,r,ob,es,ep,e,c⟩:=x;exact⟨z,y,xs,Paired.a05 r fun p q z=>⟨z.1,ht _ _ z.2.1,z.2.2⟩,ob,es,ep,k _ _ (.inl rfl) e,c⟩
 |set S n=>obtain⟨ob,es,ep,t,e,c⟩:=x;exact⟨ob,es,ep,t,k _ _ (.inl rfl) e,c⟩
 |ins C dx fs=>
  obtain⟨d,z,ne,e,mA,⟨od,es,ep,e2,c⟩,r⟩:=x;exact⟨ho _ d,z,ne,k _ _ (.inl rfl) e,mA,⟨od,es,ep,k _ _ (.inr d) e2,c⟩,r⟩
 |own y=>obtain⟨ob,e⟩:=x;exact⟨ob,k _ _ (.inl rfl) e⟩
 |xd fs=>obtain⟨mA,⟨od,es,ep,e,c⟩,r⟩:=x;exact⟨mA,⟨od,es,ep,k _ _ (.inl rfl) e,c⟩,r⟩
 |rng lo hi=>obtain⟨t,u,v,e⟩:=x;exact⟨t,u,v,k _ _ (.inl rfl) e⟩
 |frz ob u ih=>obtain⟨e,q⟩:=x;exact⟨k _ _ (.inl rfl) e,ih q⟩
 |tbl ps=>
  have e:h.get? a=some { cls:=.none,data:=.fields ps }:=x;show h'.get? a=some { cls:=.none,data:=.fields ps };exact k a _ (.inl rfl) e
 |met f y=>
  have e:h.get? a=some (PySem.W.methodObj (.ref f) (.ref y)):=x;show h'.get? a=some (PySem.W.methodObj (.ref f) (.ref y));exact k a _ (.inl rfl) e
 |ext φ=>obtain⟨p,⟨o,e⟩,st⟩:=x;exact⟨st _ _ p fun o q=>k _ _ (.inl rfl) q,⟨o,k _ _ (.inl rfl) e⟩,st⟩
theorem HOk.lt(x:HOk P w H h)(e:H a=some o):a<h.objs.size:=(x a o e).lt
theorem HOk.fresh(x:HOk P w H h)(e:h.objs.size<=a):H a=none:=by
 cases q:H a with
 |none=>rfl
 |some u=>exact absurd (jg (x.lt q) e) (qM _)
theorem HOk.kept(x:HOk P w H h)(k:∀ b u,h.get? b=some u->h'.get? b=some u):HOk P w H h':=fun a o e=>
 (x a o e).stay (fun b u _ q=>k b u q) (fun _ q=>q) fun _ _ q=>q
theorem HOk.laid(x:HOk P w H h)(k:∀ b u,h.get? b=some u->h'.get? b=some u)(hp:h.objs.size<=a)(new:eU P w (upd H a o) h' a o):HOk P w (upd H a o) h':=fun b u e=>by
 have hn:=x.fresh hp;by_cases hb:b=a
 ·subst hb;rw[aD] at e;cases e;exact new
 ·rw[bF hb] at e;exact(x b u e).stay (fun c v _ q=>k c v q) (fun c q=>by rw[bF (bV q hn)];exact q) fun c xs q=>by rw[bF (bV q hn)];exact q
end
def Rd(H:Hp)(a:Addr)(u:HO):Prop:=H a=some u\/∃ o,H a=some (.frz o u)
theorem Rd.ok{P:Program}{w:World}{H:Hp}{h:Heap}{a:Addr}{u:HO}(r:Rd H a u)(x:HOk P w H h):eU P w H h a u:=by
 rcases r with r|⟨o,r⟩
 ·exact x a u r
 ·obtain⟨_,q⟩:=x a _ r;exact q
def Mut:Option HO->Prop
 |some (.lst _)=>True
 |some (.dK _)=>True
 |some (.dT _)=>True
 |some (.set _ _)=>True
 |some (.ins _ _ _)=>True
 |some (.ext _)=>True
 |_=>False
section
variable{P:Program}{w:World}{H:Hp}{h h':Heap}{x e:Addr}{o':HO}
theorem HOk.write(ok:HOk P w H h)(mu:Mut (H x))(he:e=x\/H e=some (.own x))(k:∀ b u,b≠e->h.get? b=some u->h'.get? b=some u)(heo:∃ u,h'.get? e=some u)
  (new:eU P w (upd H x o') h' x o'):HOk P w (upd H x o') h':=fun b u q=>by
 have a1V:∀ c y,H c=some (.own y)->c≠x:=fun c y r z=>by subst z;rw[r] at mu;exact mu
 have a3o:∀ c xs,H c=some (.tup xs)->c≠x:=fun c xs r z=>by subst z;rw[r] at mu;exact mu
 by_cases hb:b=x
 ·subst hb;rw[aD] at q;cases q;exact new
 ·rw[bF hb] at q;by_cases hbe:b=e
  ·have q':H b=some (.own x):=by
    rcases he with z|z
    ·exact absurd (hbe.trans z) hb
    ·rw[hbe];exact z
   rw[q] at q';cases q';obtain⟨v,hv⟩:=heo;exact⟨v,by rw[hbe];exact hv⟩
  ·refine(ok b u q).stay (fun c v hc r=>k c v ?_ r) (fun c r=>by rw[bF (a1V c b r)];exact r) fun c xs r=>by rw[bF (a3o c xs r)];exact r
   rcases hc with rfl|hc
   ·exact hbe
   ·rintro rfl;rcases he with z|z
    ·exact a1V c b hc z
    ·rw[hc] at z;cases z;exact hb rfl
end
structure Un(fs ex:List Addr)(H H':Hp)(h h':Heap):Prop where
 keep:∀ b o,h.get? b=some o->H b=none->b∉fs->b∉ex->h'.get? b=some o
 slot:∀ b o,h.get? b=some o->H b=none->b∈fs->b∉ex->∃ sl,h'.get? b=some { o with slots:=sl }
 free:∀ b o,h.get? b=some o->H b=none->b∉ex->H' b=none
 there:∀ b o,h.get? b=some o->b∉ex->∃ o',h'.get? b=some o'
 tups:∀ b xs,H b=some (.tup xs)->H' b=some (.tup xs)
 qe:∀ b o u,H b=some (.frz o u)->H' b=some (.frz o u)
 rG:∀ b ps,H b=some (.tbl ps)->∃ more,H' b=some (.tbl (ps++more))
section
variable{fs fs' ex ex':List Addr}{H H1 H2:Hp}{h h1 h2 h':Heap}{a x e:Addr}{o:HO}
theorem Un.any(u:Un fs ex H H1 h h1){b:Addr}{ob:Obj}(q:h.get? b=some ob)(n:H b=none)(hx:b∉ex):∃ sl,h1.get? b=some { ob with slots:=sl }:=by
 by_cases hb:b∈fs
 ·exact u.slot b ob q n hb hx
 ·exact⟨ob.slots,u.keep b ob q n hb hx⟩
theorem Un.trans(a:Un fs ex H H1 h h1)(b:Un fs ex H1 H2 h1 h2):Un fs ex H H2 h h2 where
 keep:=fun c ob q n hc hx=>b.keep c ob (a.keep c ob q n hc hx) (a.free c ob q n hx) hc hx
 slot:=fun c ob q n hc hx=>by
  obtain⟨sl,e1⟩:=a.slot c ob q n hc hx;obtain⟨sl',e2⟩:=b.slot c _ e1 (a.free c ob q n hx) hc hx;exact⟨sl',e2⟩
 free:=fun c ob q n hx=>by
  obtain⟨o',e1⟩:=a.there c ob q hx;exact b.free c o' e1 (a.free c ob q n hx) hx
 there:=fun c ob q hx=>by
  obtain⟨o',e1⟩:=a.there c ob q hx;exact b.there c o' e1 hx
 tups:=fun c xs q=>b.tups c xs (a.tups c xs q)
 qe:=fun c ob xs q=>b.qe c ob xs (a.qe c ob xs q)
 rG:=fun c ps q=>by
  obtain⟨m1,e1⟩:=a.rG c ps q;obtain⟨m2,e2⟩:=b.rG c _ e1;exact⟨m1++m2,by rw[e2,VH]⟩
theorem Un.kept(k:∀ b u,h.get? b=some u->h'.get? b=some u):Un fs ex H H h h':=
 ⟨fun b ob q _ _ _=>k b ob q,fun b ob q _ _ _=>⟨ob.slots,k b ob q⟩,fun _ _ _ n _=>n,fun b ob q _=>⟨ob,k b ob q⟩,fun _ _ q=>q,fun _ _ _ q=>q,fun _ ps q=>⟨#[],by rw[q];simp⟩⟩
theorem Un.refl:Un fs ex H H h h:=Un.kept fun _ _ q=>q
theorem Un.laid(k:∀ b u,h.get? b=some u->h'.get? b=some u)(hp:h.objs.size<=a)(hn:H a=none):Un fs ex H (upd H a o) h h' where
 keep:=fun b u q _ _ _=>k b u q
 slot:=fun b u q _ _ _=>⟨u.slots,k b u q⟩
 free:=fun b u q n _=>by rw[bF (fW (jg (bI q) hp))];exact n
 there:=fun b u q _=>⟨u,k b u q⟩
 tups:=fun b xs q=>by rw[bF (bV q hn)];exact q
 qe:=fun b u xs q=>by rw[bF (bV q hn)];exact q
 rG:=fun b ps q=>⟨#[],by rw[bF (bV q hn),q];simp⟩
theorem Un.write(mu:Mut (H x))(he:e=x\/H e=some (.own x))(k:∀ b u,b≠e->h.get? b=some u->h'.get? b=some u)(heo:∃ u,h'.get? e=some u):Un fs ex H (upd H x o) h h':=by
 have hx:∀ b,H b=none->b≠x:=fun b n z=>by subst z;rw[n] at mu;exact mu
 have hb:∀ b,H b=none->b≠e:=fun b n z=>by
  subst z;rcases he with r|r
  ·exact hx b n r
  ·rw[n] at r;cases r
 have hm:∀ b u,H b=some u->¬Mut (some u)->b≠x:=fun b u q nm z=>by subst z;rw[q] at mu;exact nm mu
 refine⟨fun b u q n _ _=>k b u (hb b n) q,fun b u q n _ _=>⟨u.slots,k b u (hb b n) q⟩,fun b u q n _=>by rw[bF (hx b n)];exact n,fun b u q _=>?_,
  fun b xs q=>by rw[bF (hm b _ q fun z=>z)];exact q,fun b u xs q=>by rw[bF (hm b _ q fun z=>z)];exact q,fun b ps q=>⟨#[],by rw[bF (hm b _ q fun z=>z),q];simp⟩⟩
 by_cases hbe:b=e
 ·subst hbe;exact heo
 ·exact⟨u,k b u hbe q⟩
theorem Un.mono(u:Un fs ex H H1 h h1)(hs:∀ b∈fs,b∈fs')(hx:∀ b∈ex,b∈ex'):Un fs' ex' H H1 h h1:=
 ⟨fun b ob q n hb he=>u.keep b ob q n (fun z=>hb (hs b z)) fun z=>he (hx b z),fun _ _ q n _ he=>u.any q n fun z=>he (hx _ z),fun b ob q n he=>u.free b ob q n fun z=>he (hx b z),fun b ob q he=>u.there b ob q fun z=>he (hx b z),u.tups,u.qe,u.rG⟩
end
def trk(h:Heap)(H:Hp):List Addr:=(List.range h.objs.size).filter fun a=>(H a).isSome
def Fy(h:Heap)(H:Hp):Heap:=PySem.W.hideAll h (trk h H)
theorem Qa(h:Heap)(H:Hp):(Fy h H).objs.size=h.objs.size:=PySem.W.hideAll_size _ _
theorem RP{h:Heap}{H:Hp}{b:Addr}{o:Obj}(e:h.get? b=some o)(n:H b=none):(Fy h H).get? b=some o:=
 VB _ e fun hm=>by
  have q:(H b).isSome=true:=(cg.mp hm).2;rw[n] at q;simp at q
theorem X5{h:Heap}{H:Hp}{b:Addr}{o:Obj}(e:(Fy h H).get? b=some o):h.get? b=some o/\H b=none:=by
 have e':h.get? b=some o:=VJ (trk h H) e;refine⟨e',?_⟩;cases q:H b with
 |none=>rfl
 |some x=>
  have hm:b∈trk h H:=cg.mpr ⟨cJ.mpr (bI e'),by simp[q]⟩;have z:(Fy h H).get? b=none:=PySem.W.hideAll_none (trk h H) hm;rw[z] at e;cases e
structure Mod(K:ao)(mg:Str->Option Value)(base:Heap):Prop where
 kin:K.In base
 glob:base.Ns mainGlobals mg
 blt:∃ mb,base.Ns builtinsNs mb/\∀ x:Str,x ≠ "__name__" -> mb x=bootBuiltins x
 nolimit:base.NoLimit
structure Cx where
 prog:Program
 w:World
 K:ao
 mg:Str->Option Value
 base:Heap
 A:Around
 N:List Str
 s₀:Shared
 H₀:Hp
 env:Env
 outer:List Env
 stack:List Env
 ex:List Addr
 fn:Str->Bool
 calm:Bool
 pn:List (Addr×Obj)
 xe:Value->Shared->Prop
def frs(l:List Env):List Addr:=l.filterMap (·.frame)
abbrev Cx.fs(X:Cx):List Addr:=frs X.outer
def Vis(sc:Scope)(x:Str):Prop:=sc.names.lookup x=some .local\/sc.names.lookup x=some .cell\/sc.names.lookup x=some .free
def Loc(sc:Scope)(x:Str):Prop:=sc.names.lookup x=some .local\/sc.names.lookup x=some .cell
def Look(env:Env)(h:Heap)(m:Str->Option Value)(x:Str)(u:Value):Prop:=
 (env.kindOf x=some .local/\m x=some u)\/((env.kindOf x=some .cell\/env.kindOf x=some .free)/\∃ c,env.cells.lookup x=some c/\h.IsCell c (some u))
structure Cx.Ok(X:Cx):Prop where
 mod:Mod X.K X.mg X.base
 kind:X.env.scope.kind=.function
 glob:X.env.globals=mainGlobals
 blt:X.env.builtins=builtinsNs
 above:X.s₀.heap.objs.size<=X.env.locals
 inj:∀ x y c,X.env.cells.lookup x=some c->X.env.cells.lookup y=some c->x=y
 has:∀ x,(X.env.kindOf x=some .cell\/X.env.kindOf x=some .free)->∃ c,X.env.cells.lookup x=some c
 cab:∀ x c,X.fn x=true->X.env.cells.lookup x=some c->X.s₀.heap.objs.size<=c
 hd:X.calm=true->X.A.handled=none
 frames:X.A.frames=some X.stack
 stk:X.stack=X.outer\/(X.stack=X.env::X.outer/\X.env.frame=some X.env.locals)
 exf:∀ b∈X.ex,b≠X.env.locals/\∀ x c,X.env.cells.lookup x=some c->c≠b
 bs:∀ b o,X.base.get? b=some o->X.s₀.heap.get? b=some o/\X.H₀ b=none
 bsz:X.base.objs.size<=X.s₀.heap.objs.size
 Qq:∀ b o,X.base.get? b=some o->b∉X.ex
 Rz:∀ b∈X.ex,b∉X.fs
 uc:X.s₀.heap.FunFrames X.base X.outer
 frf:∀ b∈X.fs,X.H₀ b=none
structure Inv(X:Cx)(pins:List (Addr×Obj))(zzs:List (Option V))(H:Hp)(s:Shared):Prop where
 ok:X.Ok
 os:s.os=X.s₀.os
 bare:AllBare s.gens
 base:Un X.fs X.ex X.H₀ H X.s₀.heap s.heap
 loc:∃ m,s.heap.Ns X.env.locals m/\∀(i:Nat)(x:Str)(v:V),X.N[i]?=some x->zzs[i]?=some (some v)->Vis X.env.scope x->∃ u,RelV v u/\Look X.env s.heap m x u
 cell:∀ x c,X.env.cells.lookup x=some c->∃ v,s.heap.IsCell c v
 free:H X.env.locals=none
 nu:∀ x c,X.env.cells.lookup x=some c->H c=none
 pin:∀ p∈X.pn++pins,s.heap.get? p.1=some p.2/\H p.1=none/\p.1≠X.env.locals/\p.1∉X.fs/\∀ v,p.2.data≠.cell v
 hok:HOk X.prog X.w H s.heap
 len:zzs.length=X.N.length
section
variable{X:Cx}{pins:List (Addr×Obj)}{zzs:List (Option V)}{H H':Hp}{s:Shared}{h':Heap}
theorem Cx.Ok.a3i(ok:X.Ok){b:Addr}{o:Obj}(e:X.base.get? b=some o):b∉X.fs:=fun hb=>by
 have:=(ok.uc.mem hb).1;rw[e] at this;cases this
theorem Inv.bs(I:Inv X pins zzs H s):∀ b o,X.base.get? b=some o->s.heap.get? b=some o/\H b=none:=fun b o e=>
 ⟨I.base.keep b o (I.ok.bs b o e).1 (I.ok.bs b o e).2 (I.ok.a3i e) (I.ok.Qq b o e),I.base.free b o (I.ok.bs b o e).1 (I.ok.bs b o e).2 (I.ok.Qq b o e)⟩
theorem Inv.bk(I:Inv X pins zzs H s):∀ b o,X.base.get? b=some o->s.heap.get? b=some o:=fun b o e=>(I.bs b o e).1
theorem Inv.mod(I:Inv X pins zzs H s):Mod X.K X.mg X.base:=I.ok.mod
theorem Inv.kIn(I:Inv X pins zzs H s):X.K.In s.heap:=I.ok.mod.kin.keeps I.bk
theorem Inv.lt(I:Inv X pins zzs H s):X.env.locals<s.heap.objs.size:=let ⟨_,hn,_⟩:=I.loc;hn.lt
theorem Inv.sz(I:Inv X pins zzs H s):X.s₀.heap.objs.size<=s.heap.objs.size:=cP I.ok.above (Hs I.lt)
theorem Inv.a3j(I:Inv X pins zzs H s){a:Addr}(h:s.heap.objs.size<=a):a∉X.fs:=fun hb=>by
 obtain⟨_,o,ho,_⟩:=I.ok.uc.mem hb;exact absurd (jg (bI ho) (cP I.sz h)) (qM _)
theorem Inv.cne(I:Inv X pins zzs H s):∀ x c,X.env.cells.lookup x=some c->c≠X.env.locals:=fun x c e z=>by
 obtain⟨v,o,ho,hd⟩:=I.cell x c e;obtain⟨m,⟨o',es,ep,ho',hd',_⟩,_⟩:=I.loc;rw[z,ho'] at ho;cases ho;rw[hd'] at hd;cases hd
theorem Inv.uc(I:Inv X pins zzs H s):s.heap.FunFrames X.base X.outer:=by
 have all:∀(l:List Env),(∀ b∈frs l,b∈X.fs)->X.s₀.heap.FunFrames X.base l->s.heap.FunFrames X.base l:=by
  intro l
  induction l with
  |nil=>intro _ _;trivial
  |cons env r ih=>
   intro hs hl;obtain⟨hk,⟨L,o,hf,hn,ho,hd⟩,hr⟩:=hl;have hL:L∈X.fs:=hs L (by unfold frs;rw[Mp,hf];exact dJ);obtain⟨sl,e⟩:=I.base.slot L o ho (I.ok.frf L hL) hL fun z=>I.ok.Rz L z hL
   exact⟨hk,⟨L,_,hf,hn,e,hd⟩,ih (fun b hb=>hs b (by unfold frs;rw[Mp,hf];exact fK _ hb)) hr⟩
 exact all X.outer (fun _ hb=>hb) I.ok.uc
theorem Inv.stack(I:Inv X pins zzs H s):s.heap.FunFrames X.base X.stack:=by
 rcases I.ok.stk with e|⟨e,hf⟩
 ·rw[e];exact I.uc
 ·rw[e];obtain⟨m,hn,_⟩:=I.loc;refine .cons (by rw[I.ok.kind];decide) hf hn ?_ I.uc;exact Heap.get?_none_of_le (cP I.ok.bsz I.ok.above)
theorem Inv.sY(I:Inv X pins zzs H s):∀ b∈frs X.stack,b∈X.env.locals::X.fs:=fun b hb=>by
 rcases I.ok.stk with e|⟨e,hf⟩
 ·rw[e] at hb;exact fK _ hb
 ·rw[e] at hb;unfold frs at hb;rw[Mp,hf] at hb;exact hb
theorem Inv.uL(I:Inv X pins zzs H s):∀ b∈frs X.stack,H b=none:=fun b hb=>by
 rcases cO.mp (I.sY b hb) with e|hb
 ·rw[e];exact I.free
 ·obtain⟨_,o,ho,_⟩:=I.ok.uc.mem hb;exact I.base.free b o ho (I.ok.frf b hb) fun z=>I.ok.Rz b z hb
theorem Inv.step{g':Array GenState}{t':Nat}{d':Drawn}{ch:List Addr}(I:Inv X pins zzs H s)
  (hch:∀ b∈ch,(b∈X.ex\/X.s₀.heap.objs.size<=b)/\b≠X.env.locals/\(∀ x c,X.env.cells.lookup x=some c->c≠b)/\∀ p∈X.pn++pins,p.1≠b)
  (keep:∀ b o,b≠X.env.locals->b∉X.fs->b∉ch->s.heap.get? b=some o->H b=none->h'.get? b=some o)
  (slot:∀ b o,b≠X.env.locals->b∈X.fs->b∉ch->s.heap.get? b=some o->H b=none->∃ sl,h'.get? b=some { o with slots:=sl }) (free:∀ b o,b∉ch->s.heap.get? b=some o->H b=none->H' b=none)
  (there:∀ b o,b∉ch->s.heap.get? b=some o->∃ o',h'.get? b=some o')
  (tups:∀ b xs,H b=some (.tup xs)->H' b=some (.tup xs)) (qe:∀ b o u,H b=some (.frz o u)->H' b=some (.frz o u)) (rG:∀ b ps,H b=some (.tbl ps)->∃ more,H' b=some (.tbl (ps++more)))
  (ns:∀ m,s.heap.Ns X.env.locals m->h'.Ns X.env.locals m) (hok:HOk X.prog X.w H' h') (hg:AllBare g') :
  Inv X pins zzs H' { s with heap:=h',gens:=g',drawn:=d',toks:=t' }:=by
 have neL:∀ b o,X.s₀.heap.get? b=some o->b≠X.env.locals:=fun b o e=>fW (jg (bI e) I.ok.above)
 have neC:∀ b o,X.s₀.heap.get? b=some o->b∉X.ex->b∉ch:=fun b o e hx hb=>by
  rcases(hch b hb).1 with z|z
  ·exact hx z
  ·exact absurd (jg (bI e) z) (qM _)
 have cellK:∀ x c,X.env.cells.lookup x=some c->∀ v,s.heap.IsCell c v->h'.IsCell c v:=fun x c e v ⟨o,ho,hd⟩=>by
  have nch:c∉ch:=fun z=>(hch c z).2.2.1 x c e rfl
  by_cases hc:c∈X.fs
  ·obtain⟨sl,q⟩:=slot c o (I.cne x c e) hc nch ho (I.nu x c e);exact⟨_,q,hd⟩
  ·exact⟨o,keep c o (I.cne x c e) hc nch ho (I.nu x c e),hd⟩
 refine⟨I.ok,I.os,hg,⟨fun b o e n hb hx=>?_,fun b o e n hb hx=>?_,fun b o e n hx=>?_,fun b o e hx=>?_,fun b xs e=>tups b xs (I.base.tups b xs e),fun b o xs e=>qe b o xs (I.base.qe b o xs e),fun b ps e=>?_⟩,?_,fun x c e=>?_,?_,fun x c e=>?_,fun p hp=>?_,hok,I.len⟩
 ·exact keep b o (neL b o e) hb (neC b o e hx) (I.base.keep b o e n hb hx) (I.base.free b o e n hx)
 ·obtain⟨sl,e1⟩:=I.base.slot b o e n hb hx;obtain⟨sl',e2⟩:=slot b _ (neL b o e) hb (neC b o e hx) e1 (I.base.free b o e n hx);exact⟨sl',e2⟩
 ·obtain⟨o',e1⟩:=I.base.there b o e hx;exact free b o' (neC b o e hx) e1 (I.base.free b o e n hx)
 ·obtain⟨o',e1⟩:=I.base.there b o e hx;exact there b o' (neC b o e hx) e1
 ·obtain⟨m1,e1⟩:=I.base.rG b ps e;obtain⟨m2,e2⟩:=rG b _ e1;exact⟨m1++m2,by rw[e2,VH]⟩
 ·obtain⟨m,hn,hl⟩:=I.loc;refine⟨m,ns m hn,fun i x v e1 e2 e3=>?_⟩;obtain⟨u,r,l⟩:=hl i x v e1 e2 e3;refine⟨u,r,?_⟩;rcases l with l|⟨k,c,e,z⟩
  ·exact .inl l
  ·exact .inr ⟨k,c,e,cellK x c e _ z⟩
 ·obtain⟨v,z⟩:=I.cell x c e;exact⟨v,cellK x c e v z⟩
 ·obtain⟨m,⟨o,_,_,ho,_⟩,_⟩:=I.loc;exact free _ o (fun z=>(hch _ z).2.1 rfl) ho I.free
 ·obtain⟨v,o,ho,hd⟩:=I.cell x c e;exact free c o (fun z=>(hch c z).2.2.1 x c e rfl) ho (I.nu x c e)
 ·obtain⟨e,n,ne,nf,d⟩:=I.pin p hp;have nch:p.1∉ch:=fun z=>(hch p.1 z).2.2.2 p hp rfl
  exact⟨keep p.1 p.2 ne nf nch e n,free p.1 p.2 nch e n,ne,nf,d⟩
theorem Inv.un{t':Nat}(I:Inv X pins zzs H s)(u:Un X.fs [] H H' s.heap h')(hok:HOk X.prog X.w H' h'):Inv X pins zzs H' { s with heap:=h',toks:=t' }:=by
 obtain⟨m,⟨o,es,ep,ho,r⟩,_⟩:=id I.loc;obtain⟨sl,hL⟩:=u.any ho I.free (by simp);exact I.step (g':=s.gens) (d':=s.drawn) (ch:=[]) (fun _ z=>nomatch z) (fun b o _ hb _ e n=>u.keep b o e n hb (by simp)) (fun b o _ hb _ e n=>u.slot b o e n hb (by simp)) (fun b o _ e n=>u.free b o e n (by simp)) (fun b o _ e=>u.there b o e (by simp)) u.tups u.qe u.rG (fun m' hm=>by
  obtain⟨o',es',ep',ho',r'⟩:=hm;rw[ho] at ho';cases ho';exact⟨_,es',ep',hL,r'⟩) hok I.bare
theorem Inv.call{g':Array GenState}{t':Nat}{d':Drawn}{ch:List Addr}(I:Inv X pins zzs H s)(u:Un (frs X.stack) ch H H' s.heap h')(hok:HOk X.prog X.w H' h')(hg:AllBare g')
  (hch:∀ b∈ch,(b∈X.ex\/X.s₀.heap.objs.size<=b)/\b≠X.env.locals/\(∀ x c,X.env.cells.lookup x=some c->c≠b)/\∀ p∈X.pn++pins,p.1≠b) :
  Inv X pins zzs H' { s with heap:=h',gens:=g',drawn:=d',toks:=t' }:=by
 obtain⟨m,⟨o,es,ep,ho,r⟩,_⟩:=id I.loc;obtain⟨sl,hL⟩:=u.any ho I.free fun z=>(hch _ z).2.1 rfl
 exact I.step (ch:=ch) hch (fun b o hL hb hc e n=>u.keep b o e n (fun z=>(cO.mp (I.sY b z)).elim hL hb) hc) (fun b o _ _ hc e n=>u.any e n hc) (fun b o hc e n=>u.free b o e n hc) (fun b o hc e=>u.there b o e hc) u.tups u.qe u.rG (fun m' hm=>by
  obtain⟨o',es',ep',ho',r'⟩:=hm;rw[ho] at ho';cases ho';exact⟨_,es',ep',hL,r'⟩) hok hg
theorem Inv.turned{t':Nat}{it:Addr}(I:Inv X pins zzs H s)(k:∀ b o,b≠it->s.heap.get? b=some o->h'.get? b=some o)(hn:H it=none)(hL:it≠X.env.locals)
  (h1:it∈X.ex\/X.s₀.heap.objs.size<=it) (h2:∀ x c,X.env.cells.lookup x=some c->c≠it) (h3:∀ p∈X.pn++pins,p.1≠it):Inv X pins zzs H { s with heap:=h',toks:=t' }:=by
 have nit:∀ b u,H b=some u->b≠it:=fun b u e z=>by rw[z,hn] at e;cases e
 refine I.step (g':=s.gens) (d':=s.drawn) (ch:=[it]) (fun b hb=>?_) (fun b o _ _ hc e _=>k b o (fun z=>hc (by simp[z])) e) (fun b o _ _ hc e _=>⟨o.slots,k b o (fun z=>hc (by simp[z])) e⟩) (fun _ _ _ _ n=>n)
  (fun b o hc e=>⟨o,k b o (fun z=>hc (by simp[z])) e⟩) (fun _ _ e=>e) (fun _ _ _ e=>e) (fun b ps e=>⟨#[],by rw[e];simp⟩) (fun m hm=>?_) (fun b u e=>?_) I.bare
 ·have e:b=it:=by simpa using hb
  subst e;exact⟨h1,hL,h2,h3⟩
 ·obtain⟨o,es,ep,ho,r⟩:=hm;exact⟨o,es,ep,k _ o (lM hL) ho,r⟩
 ·refine(I.hok b u e).stay (fun c v hc q=>k c v ?_ q) (fun _ q=>q) fun _ _ q=>q
  rcases hc with z|z
  ·rw[z];exact nit b u e
  ·exact nit c _ z
theorem Inv.tok(I:Inv X pins zzs H s)(t:Nat):Inv X pins zzs H { s with toks:=t }:=I.un (h':=s.heap) (t':=t) Un.refl I.hok
theorem Inv.kept{t':Nat}(I:Inv X pins zzs H s)(k:∀ b u,s.heap.get? b=some u->h'.get? b=some u):Inv X pins zzs H { s with heap:=h',toks:=t' }:=I.un (Un.kept k) (I.hok.kept k)
theorem Inv.laid{a:Addr}{o:HO}{t':Nat}(I:Inv X pins zzs H s)(k:∀ b u,s.heap.get? b=some u->h'.get? b=some u)(hp:s.heap.objs.size<=a)(new:eU X.prog X.w (upd H a o) h' a o) :
  Inv X pins zzs (upd H a o) { s with heap:=h',toks:=t' }:=I.un (Un.laid k hp (I.hok.fresh hp)) (I.hok.laid k hp new)
theorem Inv.write{x e:Addr}{o:HO}{t':Nat}(I:Inv X pins zzs H s)(mu:Mut (H x))(he:e=x\/H e=some (.own x))(k:∀ b u,b≠e->s.heap.get? b=some u->h'.get? b=some u)(heo:∃ u,h'.get? e=some u)
  (new:eU X.prog X.w (upd H x o) h' x o):Inv X pins zzs (upd H x o) { s with heap:=h',toks:=t' }:=I.un (Un.write mu he k heo) (I.hok.write mu he k heo new)
theorem Inv.uy{YW:List (Addr×Obj)}(I:Inv X pins zzs H s)(h:∀ p∈YW,s.heap.get? p.1=some p.2/\H p.1=none/\p.1≠X.env.locals/\p.1∉X.fs/\∀ v,p.2.data≠.cell v):Inv X YW zzs H s:=
 ⟨I.ok,I.os,I.bare,I.base,I.loc,I.cell,I.free,I.nu,fun p hp=>(cI.mp hp).elim (fun z=>I.pin p (iB _ z)) (h p),I.hok,I.len⟩
theorem Ja{N:List Str}(hN:N.Nodup){i j:Nat}{x:Str}(a:N[i]?=some x)(b:N[j]?=some x):i=j:=by
 obtain⟨h1,e1⟩:=jw.mp a;obtain⟨h2,e2⟩:=jw.mp b;exact(List.getElem_inj hN).mp (e1.trans e2.symm)
theorem Ed{M:Model}{A:Around}{E:Value->Shared->Prop}{i:Nat}{x:Str}{v:V}{u:Value}{Q:Unit->Shared->Prop}(I:Inv X pins zzs H s)(hN:X.N.Nodup)(hi:X.N[i]?=some x)(hx:Loc X.env.scope x)(r:RelV v u)
  (h:∀ s',Inv X pins (zzs.set i (some v)) H s'->(∃ a,Heap.SameBut a s.heap s'.heap/\(a=X.env.locals\/X.env.cells.lookup x=some a))->Q () s') (hf:X.fn x=true\/X.env.scope.names.lookup x=some .local:=by first|exact .inl rfl|exact .inr rfl|assumption):wpAny M A (storeName X.env x u) Q E s:=by
 obtain⟨m,hn,hl⟩:=id I.loc;have hcls:(X.env.scope.kind==.class||(X.env.scope.kind==.module&&X.env.locals != X.env.globals))=false:=by rw[I.ok.kind];rfl
 have YM:i<zzs.length:=by rw[I.len];exact(jw.mp hi).1
 have cne:=I.cne;have tracked:∀ {a:Addr} {h':Heap},(∃ o,s.heap.get? a=some o/\H a=none)->Heap.SameBut a s.heap h'->HOk X.prog X.w H h':=fun {a h'} ha hs b ob e=>by
  obtain⟨_,_,hfree⟩:=ha;refine(I.hok b ob e).stay (fun c w' hc q=>(hs.2 c ?_).trans q) (fun _ q=>q) fun _ _ q=>q
  rintro rfl;rcases hc with rfl|hc
  ·rw[hfree] at e;cases e
  ·rw[hfree] at hc;cases hc
 rcases hx with hk|hk
 ·refine wpAny_storeName_local hk hn (fun h' hn' hs=>?_) hcls;obtain⟨oL,_,_,hoL,_⟩:=id hn;refine h _ ⟨I.ok,I.os,I.bare,⟨fun b o e n hb hx=>?_,fun b o e n hb hx=>?_,I.base.free,fun b o e hx=>?_,I.base.tups,I.base.qe,I.base.rG⟩,⟨_,hn',fun j y v' e1 e2 e3=>?_⟩,fun y c e=>?_,I.free,I.nu,fun p hp=>?_,tracked ⟨oL,hoL,I.free⟩ hs,by simpa using I.len⟩ ⟨_,hs,.inl rfl⟩
  ·exact(hs.2 b (fW (jg (bI e) I.ok.above))).trans (I.base.keep b o e n hb hx)
  ·obtain⟨sl,e1⟩:=I.base.slot b o e n hb hx;exact⟨sl,(hs.2 b (fW (jg (bI e) I.ok.above))).trans e1⟩
  ·obtain⟨o',e1⟩:=I.base.there b o e hx;exact⟨o',(hs.2 b (fW (jg (bI e) I.ok.above))).trans e1⟩
  ·by_cases hj:j=i
   ·subst hj;rw[hi] at e1;cases e1;rw[M8 YM] at e2;cases e2;exact⟨u,r,.inl ⟨hk,by simp⟩⟩
   ·rw[Vu (lM hj)] at e2;obtain⟨u',r',q⟩:=hl j y v' e1 e2 e3;refine⟨u',r',?_⟩;rcases q with⟨k,e⟩|⟨k,c,e,z⟩
    ·refine .inl ⟨k,?_⟩;have:y≠x:=fun e=>hj (Ja hN e1 (e▸hi))
     simp[this,e]
    ·exact .inr ⟨k,c,e,z.sameBut hs (cne y c e)⟩
  ·obtain⟨w',z⟩:=I.cell y c e;exact⟨w',z.sameBut hs (cne y c e)⟩
  ·obtain⟨e,n,ne,nf,d⟩:=I.pin p hp;exact⟨(hs.2 p.1 ne).trans e,n,ne,nf,d⟩
 ·have hfn:X.fn x=true:=by
   rcases hf with z|z
   ·exact z
   ·rw[z] at hk;cases hk
  obtain⟨c,hc⟩:=I.ok.has x (.inl hk);obtain⟨w',z⟩:=I.cell x c hc;refine wpAny_storeName_cell I.ok.kind hk hc z (fun h' hc' hs=>?_);obtain⟨oc,hoc,a3a⟩:=id z;refine h { s with heap:=h' } ⟨I.ok,I.os,I.bare,⟨fun b o e n hb hx=>?_,fun b o e n hb hx=>?_,I.base.free,fun b o e hx=>?_,I.base.tups,I.base.qe,I.base.rG⟩,⟨m,hn.sameBut hs (lM (cne x c hc)),fun j y v' e1 e2 e3=>?_⟩,fun y c' e=>?_,I.free,I.nu,fun p hp=>?_,tracked ⟨oc,hoc,I.nu x c hc⟩ hs,by simpa using I.len⟩ ⟨c,hs,.inr hc⟩
  ·exact(hs.2 b (fW (jg (bI e) (I.ok.cab x c hfn hc)))).trans (I.base.keep b o e n hb hx)
  ·obtain⟨sl,e1⟩:=I.base.slot b o e n hb hx;exact⟨sl,(hs.2 b (fW (jg (bI e) (I.ok.cab x c hfn hc)))).trans e1⟩
  ·obtain⟨o',e1⟩:=I.base.there b o e hx;exact⟨o',(hs.2 b (fW (jg (bI e) (I.ok.cab x c hfn hc)))).trans e1⟩
  ·by_cases hj:j=i
   ·subst hj;rw[hi] at e1;cases e1;rw[M8 YM] at e2;cases e2;exact⟨u,r,.inr ⟨.inl hk,c,hc,hc'⟩⟩
   ·rw[Vu (lM hj)] at e2;obtain⟨u',r',q⟩:=hl j y v' e1 e2 e3;refine⟨u',r',?_⟩;rcases q with q|⟨k,c',e,z'⟩
    ·exact .inl q
    ·refine .inr ⟨k,c',e,z'.sameBut hs ?_⟩;rintro rfl;exact hj (Ja hN e1 (I.ok.inj _ _ _ e hc▸hi))
  ·by_cases hcc:c'=c
   ·subst hcc;exact⟨_,hc'⟩
   ·obtain⟨w2,z2⟩:=I.cell y c' e;exact⟨w2,z2.sameBut hs hcc⟩
  ·obtain⟨e,n,ne,nf,d⟩:=I.pin p hp;refine⟨(hs.2 p.1 ?_).trans e,n,ne,nf,d⟩;intro q;rw[q,hoc] at e;have q':oc=p.2:=iD e;exact d w' (by rw[<- q'];exact a3a)
theorem qG{M:Model}{A:Around}{E:Value->Shared->Prop}{i:Nat}{x:Str}{v:V}{u:Value}{Q:Unit->Shared->Prop}(I:Inv X pins zzs H s)(hN:X.N.Nodup)(hi:X.N[i]?=some x)(hx:Loc X.env.scope x)(r:RelV v u)
  (h:∀ s',Inv X pins (zzs.set i (some v)) H s'->Q () s') (hf:X.fn x=true\/X.env.scope.names.lookup x=some .local:=by first|exact .inl rfl|exact .inr rfl|assumption):wpAny M A (storeName X.env x u) Q E s:=
 Ed I hN hi hx r (fun s' I' _=>h s' I') hf
theorem Inv.call'{s':Shared}{ch:List Addr}(I:Inv X pins zzs H s)(ho:s'.os=s.os)(u:Un (frs X.stack) ch H H' s.heap s'.heap)(hok:HOk X.prog X.w H' s'.heap)(hg:AllBare s'.gens)
  (hch:∀ b∈ch,(b∈X.ex\/X.s₀.heap.objs.size<=b)/\b≠X.env.locals/\(∀ x c,X.env.cells.lookup x=some c->c≠b)/\∀ p∈X.pn++pins,p.1≠b):Inv X pins zzs H' s':=by
 obtain⟨h',g',d',t',o'⟩:=s';have e:o'=s.os:=ho;subst e;exact I.call (g':=g') (t':=t') (d':=d') u hok hg hch
end
abbrev XK:=Value->Option Addr->Hp->Prop
abbrev St:=List (Option V)
abbrev VK:=V->Hp->Prop
abbrev TE:=St->Hp->VK->Prop
abbrev TT:=St->Hp->(Bool->Hp->Prop)->Prop
abbrev TA:=St->Hp->(List V->Hp->Prop)->Prop
structure Ends where
 nx:St->Hp->Prop
 rt:VK
 bk:St->Hp->Prop:=fun _ _=>False
 ct:St->Hp->Prop:=fun _ _=>False
abbrev TS:=Ends->St->Hp->Prop
def EP(X:Cx)(pins:List (Addr×Obj))(zzs:St)(Q:VK)(u:Value)(s':Shared):Prop:=∃ v H',Inv X pins zzs H' s'/\RelV v u/\Q v H'
def TP(X:Cx)(pins:List (Addr×Obj))(zzs:St)(Q:Bool->Hp->Prop)(b:Bool)(s':Shared):Prop:=∃ H',Inv X pins zzs H' s'/\Q b H'
def AP(X:Cx)(pins:List (Addr×Obj))(zzs:St)(Q:List V->Hp->Prop)(us:List Value)(s':Shared):Prop:=∃ vs H',Inv X pins zzs H' s'/\Vals vs us/\Q vs H'
def SP(X:Cx)(pins:List (Addr×Obj))(D:Ends)(f:Flow)(s':Shared):Prop:=
 match f with
 |.next=>∃ bG H',Inv X pins bG H' s'/\D.nx bG H'
 |.brk=>∃ bG H',Inv X pins bG H' s'/\D.bk bG H'
 |.cont=>∃ bG H',Inv X pins bG H' s'/\D.ct bG H'
 |.ret u=>∃ v bG H',Inv X pins bG H' s'/\RelV v u/\D.rt v H'
def PE(X:Cx)(e:Expr)(t:TE):Prop:=
 ∀(pins:List (Addr×Obj))(s:Shared)(zzs:St)(H:Hp)(Q:VK),Inv X pins zzs H s->t zzs H Q->wpAny (model X.prog X.w) X.A (eval e X.env) (EP X pins zzs Q) X.xe s
def PT(X:Cx)(e:Expr)(t:TT):Prop:=
 ∀(pins:List (Addr×Obj))(s:Shared)(zzs:St)(H:Hp)(Q:Bool->Hp->Prop),Inv X pins zzs H s->t zzs H Q->wpAny (model X.prog X.w) X.A (isTrue e X.env (eval e X.env)) (TP X pins zzs Q) X.xe s
def PW(X:Cx)(e:Expr)(t:TT):Prop:=
 ∀(whole:Sem Value)(pins:List (Addr×Obj))(s:Shared)(zzs:St)(H:Hp)(Q:Bool->Hp->Prop),Inv X pins zzs H s->t zzs H Q->wpAny (model X.prog X.w) X.A (isTrue e X.env whole) (TP X pins zzs Q) X.xe s
theorem PW.pt{X:Cx}{e:Expr}{t:TT}(h:PW X e t):PT X e t:=h _
def PA(X:Cx)(es:List Expr)(t:TA):Prop:=
 ∀(pos:Pos)(pins:List (Addr×Obj))(s:Shared)(zzs:St)(H:Hp)(Q:List V->Hp->Prop),Inv X pins zzs H s->t zzs H Q->wpAny (model X.prog X.w) X.A (spliced (backTo pos (starEach es X.env))) (AP X pins zzs Q) X.xe s
def PS(X:Cx)(st:Stmt)(t:TS):Prop:=
 ∀(pins:List (Addr×Obj))(s:Shared)(zzs:St)(H:Hp)(D:Ends),Inv X pins zzs H s->t D zzs H->wpAny (model X.prog X.w) X.A (exec st X.env) (SP X pins D) X.xe s
def PSs(X:Cx)(st:List Stmt)(t:TS):Prop:=
 ∀(pins:List (Addr×Obj))(s:Shared)(zzs:St)(H:Hp)(D:Ends),Inv X pins zzs H s->t D zzs H->wpAny (model X.prog X.w) X.A (execs st X.env) (SP X pins D) X.xe s
theorem thn{α:Type}{t:Sem α}{Q Q':α->Shared->Prop}{M:Model}{A:Around}{E:Value->Shared->Prop}{s:Shared}(h:wpAny M A t Q E s)(hQ:∀ a s,Q a s->Q' a s):wpAny M A t Q' E s:=iT h hQ fun _ _ x=>x
section
variable{X:Cx}
def a2I(i:Nat):TE:=fun zzs H Q=>∃ v,zzs[i]?=some (some v)/\Q v H
def tC(v:V):TE:=fun _ H Q=>Q v H
theorem a0E{i:Nat}{x:Str}{pos:Pos}(hN:X.N[i]?=some x)(hv:Vis X.env.scope x) (hd:(x==("__debug__" : Str))=false:=by decide) (hcd:(x==("__classdict__" : Str))=false:=by decide):PE X (.Name x pos) (a2I i):=by
 intro pins s zzs H Q I h;obtain⟨v,e,h⟩:=h;obtain⟨m,hn,hl⟩:=I.loc;obtain⟨u,r,l⟩:=hl i x v hN e hv;have fin:EP X pins zzs Q u s:=⟨v,H,I,r,h⟩
 rcases l with⟨hk,hm⟩|⟨hk,c,hc,hcell⟩
 ·exact wpAny_Name (wpAny_loadName_local I.ok.kind hk hn hm fin) hd
 ·rcases hk with hk|hk
  ·exact wpAny_Name (wpAny_loadName_cell I.ok.kind hk hc hcell fin) hd
  ·exact wpAny_Name (wpAny_loadName_free I.ok.kind hk hc hcell fin hcd) hd
theorem a0x {i j pos}:PE X (.Constant (.int i) j pos) (tC (.int i)):=fun _ _ _ H _ I h=>wpAny_Constant_int ⟨.int i,H,I.tok _,⟨_,rfl⟩,h⟩
theorem a1X {b j pos}:PE X (.Constant (.bool b) j pos) (tC (.bl b)):=fun _ _ _ H _ I h=>Constant_bool ⟨.bl b,H,I,rfl,h⟩
theorem a0z {j pos}:PE X (.Constant .none j pos) (tC .non):=fun _ _ _ H _ I h=>Constant_none ⟨.non,H,I,rfl,h⟩
theorem a0C {x j pos}:PE X (.Constant (.str x) j pos) (tC (.str x)):=fun _ _ _ H _ I h=>Calls.Constant_str ⟨.str x,H,I.tok _,⟨_,rfl⟩,h⟩
def Gl(X:Cx)(x:Str):Prop:=X.env.kindOf x=some .globalImplicit
theorem qY{E:Value->Shared->Prop}{pins:List (Addr×Obj)}{s:Shared}{zzs:St}{H:Hp}{x:Str}{u:Value}{pos:Pos}{Q:Value->Shared->Prop}(I:Inv X pins zzs H s)(hg:Gl X x)(hm:X.mg x=some u)(h:Q u s)
  (hd:(x==("__debug__" : Str))=false:=by decide):wpAny (model X.prog X.w) X.A (eval (.Name x pos) X.env) Q E s:=
 Vd I.ok.kind hg (Calls.loadGlobal_global (by rw[I.ok.glob];exact I.mod.glob.keeps I.bk) hm h) hd
theorem vV{E:Value->Shared->Prop}{pins:List (Addr×Obj)}{s:Shared}{zzs:St}{H:Hp}{x:Str}{u:Value}{pos:Pos}{Q:Value->Shared->Prop}(I:Inv X pins zzs H s)(hg:Gl X x)(hm:X.mg x=none)(hv:bootBuiltins x=some u)(h:Q u s)
  (hn:x ≠ "__name__":=by decide) (hd:(x==("__debug__" : Str))=false:=by decide):wpAny (model X.prog X.w) X.A (eval (.Name x pos) X.env) Q E s:=by
 obtain⟨mb,h1,h2⟩:=I.mod.blt;exact Vd I.ok.kind hg (Calls.loadGlobal_builtin (by rw[I.ok.glob];exact I.mod.glob.keeps I.bk) hm (by rw[I.ok.blt];exact h1.keeps I.bk) ((h2 x hn).trans hv) h) hd
theorem Oc{x:Str}{v:V}{u:Value}{pos:Pos}(hg:Gl X x)(hm:X.mg x=some u)(r:RelV v u) (hd:(x==("__debug__" : Str))=false:=by decide):PE X (.Name x pos) (tC v):=
 fun _ _ _ H _ I h=>qY I hg hm ⟨v,H,I,r,h⟩ hd
theorem Xk{x:Str}{v:V}{u:Value}{pos:Pos}(hg:Gl X x)(hm:X.mg x=none)(hv:bootBuiltins x=some u)(r:RelV v u) (hn:x ≠ "__name__":=by decide) (hd:(x==("__debug__" : Str))=false:=by decide):PE X (.Name x pos) (tC v):=
 fun _ _ _ H _ I h=>vV I hg hm hv ⟨v,H,I,r,h⟩ hn hd
variable{a b:Expr}{ta tb:TE}{pos:Pos}
def tB(t:TE):TT:=fun zzs H Q=>t zzs H fun x H1=>∃ c,x=.bl c/\Q c H1
theorem a0T{e:Expr}{t:TE}(h:PE X e t)(he:∀ whole,isTrue e X.env whole=(do let v <- whole;standAt e.pos;holding [v] (truthy v)):=by intro _;rfl):PT X e (tB t):=by
 intro pins s zzs H Q I hw;refine isTrue_plain (thn (h pins s zzs H _ I hw) fun v s1 zzy=>?_) (he _);obtain⟨x,H1,I1,r1,q1⟩:=zzy;obtain⟨d,rfl,q⟩:=q1;cases r1;exact uR ⟨H1,I1,q⟩
variable{tA tB':TT}{rest:List Expr}
def a2C(t u:TT):TT:=fun zzs H Q=>t zzs H fun c H1=>if c=true then u zzs H1 Q else Q false H1
def tOr(t u:TT):TT:=fun zzs H Q=>t zzs H fun c H1=>if c=true then Q true H1 else u zzs H1 Q
def a2E(t:TT):TT:=fun zzs H Q=>t zzs H fun c H1=>Q (!c) H1
theorem pw_and1(ha:PT X a tA):PW X (.BoolOp .And [a] pos) tA:=by
 intro wh pins s zzs H Q I h;refine isTrue_and (thn (ha pins s zzs H Q I h) fun c s1 e=>?_);cases c with
 |true=>exact isTrue_and_nil e
 |false=>exact e
theorem pw_or1(ha:PT X a tA):PW X (.BoolOp .Or [a] pos) tA:=by
 intro wh pins s zzs H Q I h;refine isTrue_or (thn (ha pins s zzs H Q I h) fun c s1 e=>?_);cases c with
 |false=>exact isTrue_or_nil e
 |true=>exact e
theorem pw_and(ha:PT X a tA)(hb:PW X (.BoolOp .And (b::rest) pos) tB'):PW X (.BoolOp .And (a::b::rest) pos) (a2C tA tB'):=by
 intro wh pins s zzs H Q I h;refine isTrue_and (thn (ha pins s zzs H _ I h) fun c s1 zzy=>?_);obtain⟨H1,I1,q1⟩:=zzy;cases c with
 |true=>exact hb wh pins s1 zzs H1 Q I1 q1
 |false=>exact⟨H1,I1,q1⟩
theorem pw_or(ha:PT X a tA)(hb:PW X (.BoolOp .Or (b::rest) pos) tB'):PW X (.BoolOp .Or (a::b::rest) pos) (tOr tA tB'):=by
 intro wh pins s zzs H Q I h;refine isTrue_or (thn (ha pins s zzs H _ I h) fun c s1 zzy=>?_);obtain⟨H1,I1,q1⟩:=zzy;cases c with
 |true=>exact⟨H1,I1,q1⟩
 |false=>exact hb wh pins s1 zzs H1 Q I1 q1
theorem a0S(ha:PT X a tA):PT X (.UnaryOp .Not a pos) (a2E tA):=by
 intro pins s zzs H Q I h;exact isTrue_not (ha pins s zzs H (fun c H1=>Q (!c) H1) I h)
def Z6(ta tb:TE):TE:=fun zzs H Q=>ta zzs H fun x H1=>∃ c,x=.bl c/\if c=true then tb zzs H1 Q else Q (.bl false) H1
def Za(ta:TE):TE:=fun zzs H Q=>ta zzs H fun x H1=>∃ c,x=.bl c/\Q (.bl (!c)) H1
theorem a0B {op} {t:TE} (h:PE X a t):PE X (.BoolOp op [a] pos) t:=fun pins s zzs H Q I hw=>BoolOp_one (h pins s zzs H Q I hw)
theorem a0t(ha:PE X a ta)(hb:PE X (.BoolOp .And (b::rest) pos) tb):PE X (.BoolOp .And (a::b::rest) pos) (Z6 ta tb):=by
 intro pins s zzs H Q I h;refine BoolOp_and (thn (ha pins s zzs H _ I h) fun v s1 zzy=>?_);obtain⟨x,H1,I1,r1,q1⟩:=zzy;obtain⟨c,rfl,q1⟩:=q1;cases r1;refine uR ?_;cases c with
 |true=>exact hb pins s1 zzs H1 Q I1 q1
 |false=>exact⟨.bl false,H1,I1,rfl,q1⟩
theorem a0A(ha:PE X a ta):PE X (.UnaryOp .Not a pos) (Za ta):=by
 intro pins s zzs H Q I h;refine UnaryOp_ (thn (ha pins s zzs H _ I h) fun v s1 zzy=>?_);obtain⟨x,H1,I1,r1,q1⟩:=zzy;obtain⟨c,rfl,q1⟩:=q1;cases r1;exact not_of (uR ⟨.bl (!c),H1,I1,rfl,q1⟩)
end
def SqL(K:ao)(H:Hp)(a:Addr)(xs:List V):Prop:=
 Rd H a (.lst xs) \/
  ∃(o:Obj)(its:Array Value)(n:Nat),K.lookup a=some o/\o.cls=.type "list" /\ o.dict=none/\o.data=.seq its n/\its.size<=sizeLine/\Vals xs its.toList
def SqT(K:ao)(H:Hp)(a:Addr)(xs:List V):Prop:=
 Rd H a (.tup xs) \/
  ∃(o:Obj)(its:Array Value)(n:Nat),K.lookup a=some o/\o.cls=.type "tuple" /\ o.data=.seq its n/\its.size<=sizeLine/\Vals xs its.toList
def a2U:Value->Option V
 |.none=>some .non
 |.bool b=>some (.bl b)
 |.int i _=>some (.int i)
 |.str x _=>some (.str x)
 |.bytes b _=>some (.byt b)
 |.float b _=>some (.flt b)
 |.ref a=>some (.ref a)
 |.type n=>some (.ty n)
 |_=>none
theorem RelV.abs{x:V}{u:Value}(r:RelV x u):a2U u=some x:=by
 cases x with
 |non=>cases r;rfl
 |bl _=>cases r;rfl
 |int _=>obtain⟨t,rfl⟩:=r;rfl
 |str _=>obtain⟨t,rfl⟩:=r;rfl
 |byt _=>obtain⟨t,rfl⟩:=r;rfl
 |flt _=>obtain⟨t,rfl⟩:=r;rfl
 |ref _=>cases r;rfl
 |ty _=>cases r;rfl
theorem RelV.inj{x y:V}{u:Value}(r:RelV x u)(q:RelV y u):x=y:=iD (r.abs.symm.trans q.abs)
theorem Vals.inj:∀ {xs ys:List V} {us:List Value},Vals xs us->Vals ys us->xs=ys
 |_,_,_,.nil,.nil=>rfl
 |_,_,_,.cons r t,.cons r' t'=>by rw[r.inj r',Vals.inj t t']
section
variable{X:Cx}{pins:List (Addr×Obj)}{zzs:St}{H:Hp}{s:Shared}{a:Addr}{xs ys:List V}
theorem SqL.of{K:ao}(h:H a=some (.lst xs)):SqL K H a xs:=.inl (.inl h)
theorem SqT.of{K:ao}(h:H a=some (.tup xs)):SqT K H a xs:=.inl (.inl h)
theorem Inv.list(I:Inv X pins zzs H s)(h:SqL X.K H a xs):∃ its:List Value,Vals xs its/\PlainL s.heap a its.toArray/\xs.length<=sizeLine:=by
 rcases h with h|⟨o,its,n,hk,hc,hd,hs,hz,r⟩
 ·obtain⟨z,its,n,r,e⟩:=h.ok I.hok;exact⟨its,r,⟨_,n,e,rfl,rfl,rfl⟩,z⟩
 ·refine⟨its.toList,r,⟨o,n,I.kIn a o hk,hc,hd,by simpa using hs⟩,?_⟩;have e:=r.length;simp only[jf] at e;lia
theorem Inv.tuple(I:Inv X pins zzs H s)(h:SqT X.K H a xs):∃ its:List Value,Vals xs its/\IsTup s.heap a its.toArray/\xs.length<=sizeLine:=by
 rcases h with h|⟨o,its,n,hk,hc,hs,hz,r⟩
 ·obtain⟨z,its,r,p⟩:=h.ok I.hok;exact⟨its,r,p,z⟩
 ·refine⟨its.toList,r,⟨o,I.kIn a o hk,hc,n,by simpa using hs⟩,?_⟩;have e:=r.length;simp only[jf] at e;lia
theorem Inv.ud(I:Inv X pins zzs H s)(h:SqL X.K H a xs)(h':SqL X.K H a ys):xs=ys:=by
 obtain⟨its,r,⟨o,n,e,_,_,d⟩,_⟩:=I.list h;obtain⟨its',r',⟨o',n',e',_,_,d'⟩,_⟩:=I.list h';rw[e] at e';cases e';rw[d] at d';injection d' with d1 _;have:its=its':=by simpa using congrArg Array.toList d1
 subst this;exact r.inj r'
theorem Inv.Ef(I:Inv X pins zzs H s)(h:SqT X.K H a xs)(h':SqT X.K H a ys):xs=ys:=by
 obtain⟨its,r,⟨o,e,_,n,d⟩,_⟩:=I.tuple h;obtain⟨its',r',⟨o',e',_,n',d'⟩,_⟩:=I.tuple h';rw[e] at e';cases e';rw[d] at d';injection d' with d1 _;have:its=its':=by simpa using congrArg Array.toList d1
 subst this;exact r.inj r'
end
abbrev Cx.wish(X:Cx)(E:Value->Shared->Prop):Cx:={ X with xe:=E }
abbrev Cx.nox(X:Cx):Cx:=X.wish fun _ _=>False
theorem Cx.Ok.wish{X:Cx}(ok:X.Ok)(E:Value->Shared->Prop):(X.wish E).Ok:=
 ⟨ok.mod,ok.kind,ok.glob,ok.blt,ok.above,ok.inj,ok.has,ok.cab,ok.hd,ok.frames,ok.stk,ok.exf,ok.bs,ok.bsz,ok.Qq,ok.Rz,ok.uc,ok.frf⟩
theorem Cx.Ok.jH{X:Cx}{E:Value->Shared->Prop}(ok:(X.wish E).Ok):X.Ok:=
 ⟨ok.mod,ok.kind,ok.glob,ok.blt,ok.above,ok.inj,ok.has,ok.cab,ok.hd,ok.frames,ok.stk,ok.exf,ok.bs,ok.bsz,ok.Qq,ok.Rz,ok.uc,ok.frf⟩
section
variable{X:Cx}{pins:List (Addr×Obj)}{zzs:St}{H:Hp}{s:Shared}{E:Value->Shared->Prop}
theorem Inv.wish(I:Inv X pins zzs H s)(E:Value->Shared->Prop):Inv (X.wish E) pins zzs H s:=⟨I.ok.wish E,I.os,I.bare,I.base,I.loc,I.cell,I.free,I.nu,I.pin,I.hok,I.len⟩
theorem Inv.jH(I:Inv (X.wish E) pins zzs H s):Inv X pins zzs H s:=⟨I.ok.jH,I.os,I.bare,I.base,I.loc,I.cell,I.free,I.nu,I.pin,I.hok,I.len⟩
theorem SP.jH{D:Ends}{f:Flow}{s':Shared}(h:SP (X.wish E) pins D f s'):SP X pins D f s':=by
 cases f with
 |next=>obtain⟨bG,H',I,q⟩:=h;exact⟨bG,H',I.jH,q⟩
 |brk=>obtain⟨bG,H',I,q⟩:=h;exact⟨bG,H',I.jH,q⟩
 |cont=>obtain⟨bG,H',I,q⟩:=h;exact⟨bG,H',I.jH,q⟩
 |ret u=>obtain⟨v,bG,H',I,r,q⟩:=h;exact⟨v,bG,H',I.jH,r,q⟩
theorem PT.nox{e:Expr}{t:TT}(h:PT X.nox e t):PT X e t:=fun pins s zzs H Q I hw=>
 iT (h pins s zzs H Q (I.wish _) hw) (fun _ _ ⟨H',I',q⟩=>⟨H',I'.jH,q⟩) fun _ _ z=>False.elim z
theorem PSs.nox{st:List Stmt}{t:TS}(h:PSs X.nox st t):PSs X st t:=fun pins s zzs H D I hw=>
 iT (h pins s zzs H D (I.wish _) hw) (fun _ _ q=>q.jH) fun _ _ z=>False.elim z
end
section
variable{X:Cx}{st:Stmt}{rest:List Stmt}{t u:TS}{e:Expr}{te:TE}{pos:Pos}
def Z9:TS:=fun D zzs H=>D.nx zzs H
def a1l(t u:TS):TS:=fun D zzs H=>t { D with nx:=u D } zzs H
theorem XM:PSs X [] Z9:=fun _ _ zzs H _ I h=>Bh ⟨zzs,H,I,h⟩
theorem TV(h1:PS X st t)(h2:PSs X rest u):PSs X (st::rest) (a1l t u):=by
 intro pins s zzs H D I h;refine MF (thn (h1 pins s zzs H { D with nx:=u D } I h) fun f s1 q=>?_);cases f with
 |next=>
  obtain⟨bG,H',I',q⟩:=q;exact h2 pins s1 bG H' D I' q
 |ret v=>exact q
 |brk=>exact q
 |cont=>exact q
theorem XQ(h1:PS X st t):PSs X [st] t:=by
 intro pins s zzs H D I h;refine MF (thn (h1 pins s zzs H D I h) fun f s1 q=>?_);cases f with
 |next=>exact Bh q
 |ret v=>exact q
 |brk=>exact q
 |cont=>exact q
theorem Inv.quiet{pins:List (Addr×Obj)}{zzs:St}{H:Hp}{s:Shared}(I:Inv X pins zzs H s):interactive X.env=false:=by simp[interactive,I.ok.kind]
def Z8(te:TE):TS:=fun D zzs H=>te zzs H fun _ H1=>D.nx zzs H1
theorem XJ(he:PE X e te)(hs:swapsWith e none pos.line X.env=pure false:=by rfl):PS X (.Expr e pos) (Z8 te):=by
 intro pins s zzs H D I h;exact wpAny_Expr_any (thn (he pins s zzs H _ I h) fun v s1 ⟨x,H1,I1,r1,q1⟩=>⟨zzs,H1,I1,q1⟩) I.quiet hs
def a2G(te:TE):TS:=fun D zzs H=>te zzs H D.rt
theorem a0P(he:PE X e te):PS X (.Return (some e) pos) (a2G te):=by
 intro pins s zzs H D I h;exact wpAny_Return_some (thn (he pins s zzs H _ I h) fun v s1 ⟨x,H1,I1,r1,q1⟩=>⟨x,zzs,H1,I1,r1,q1⟩)
def a2D(c:TT)(t u:TS):TS:=fun D zzs H=>c zzs H fun b H1=>if b=true then t D zzs H1 else u D zzs H1
theorem a2g{c:Expr}{a b:List Stmt}{tc:TT}(hc:PT X c tc)(ha:PSs X a t)(hb:PSs X b u):PS X (.If c a b pos) (a2D tc t u):=by
 intro pins s zzs H D I h;refine wpAny_If (thn (hc pins s zzs H _ I h) fun d s1 zzy=>?_);obtain⟨H1,I1,q1⟩:=zzy;cases d with
 |true=>exact ha pins s1 zzs H1 D I1 q1
 |false=>exact hb pins s1 zzs H1 D I1 q1
end
abbrev TG:=V->St->Hp->(St->Hp->Prop)->Prop
abbrev TGs:=List V->St->Hp->(St->Hp->Prop)->Prop
def PG(X:Cx)(target:Expr)(t:TG):Prop:=
 ∀(pins:List (Addr×Obj))(s:Shared)(zzs:St)(H:Hp)(v:V)(u:Value)(Q:St->Hp->Prop),Inv X pins zzs H s->RelV v u->t v zzs H Q ->
  wpAny (model X.prog X.w) X.A (assign target X.env u) (fun _ s'=>∃ bG H',Inv X pins bG H' s'/\Q bG H') X.xe s
def PGs(X:Cx)(ts:List Expr)(t:TGs):Prop:=
 ∀(pins:List (Addr×Obj))(s:Shared)(zzs:St)(H:Hp)(vs:List V)(us:List Value)(Q:St->Hp->Prop),Inv X pins zzs H s->Vals vs us->t vs zzs H Q ->
  wpAny (model X.prog X.w) X.A (assignInOrder ((assignEach ts X.env).map (·.2)) us) (fun _ s'=>∃ bG H',Inv X pins bG H' s'/\Q bG H') X.xe s
abbrev W3:=V->V->V->Hp->(Hp->Prop)->Prop
def Ze(X:Cx)(t:W3):Prop:=
 ∀(pins:List (Addr×Obj))(s:Shared)(zzs:St)(H:Hp)(o i v:V)(ov iv u:Value)(Q:Hp->Prop),Inv X pins zzs H s->RelV o ov->RelV i iv->RelV v u->t o i v H Q ->
  wpAny (model X.prog X.w) X.A (setItem ov iv u) (fun _ s'=>∃ H',Inv X pins zzs H' s'/\Q H') X.xe s
section
variable{X:Cx}{pos:Pos}
def Di(i:Nat):TG:=fun v zzs H Q=>Q (zzs.set i (some v)) H
theorem Xu{i:Nat}{x:Str}(hN:X.N.Nodup)(hi:X.N[i]?=some x)(hx:Loc X.env.scope x)(hf:X.fn x=true\/X.env.scope.names.lookup x=some .local:=by first|exact .inl rfl|exact .inr rfl|assumption):PG X (.Name x pos) (Di i):=by
 intro pins s zzs H v u Q I r h;exact Mv (qG I hN hi hx r (fun s' I'=>⟨_,H,I',h⟩) hf)
def ZF:TGs:=fun vs zzs H Q=>vs=[]/\Q zzs H
def O1(t:TG)(u:TGs):TGs:=fun vs zzs H Q=>∃ v r,vs=v::r/\t v zzs H fun bG H'=>u r bG H' Q
theorem Xv:PGs X [] ZF:=by
 intro pins s zzs H vs us Q I r h;obtain⟨e,h⟩:=h;subst e;cases r;exact assignInOrder_nil ⟨zzs,H,I,h⟩
theorem Tv{e:Expr}{es:List Expr}{t:TG}{u:TGs}(h1:PG X e t)(h2:PGs X es u)
  (hs:(assignEach (e::es) X.env).map (·.2)=assign e X.env::(assignEach es X.env).map (·.2):=by rfl):PGs X (e::es) (O1 t u):=by
 intro pins s zzs H vs us Q I r h;obtain⟨v,vr,e1,h⟩:=h;subst e1;cases r with
 |cons r rr=>
  rw[hs];refine Mr (thn (h1 pins s zzs H _ _ _ I r h) fun _ s1 zzy=>?_);obtain⟨Ra,H1,I1,q1⟩:=zzy;exact h2 pins s1 Ra H1 _ _ Q I1 rr q1
def ZG(K:ao)(n:Nat)(t:TGs):TG:=fun v zzs H Q=>∃ a xs,v=.ref a/\SqT K H a xs/\xs.length=n/\t xs zzs H Q
theorem a0G{es:List Expr}{k:Nat}{t:TGs}{n:Nat}(hc:X.calm=true)(h:PGs X es t)
  (hn:(assignEach es X.env).length=n:=by rfl) (hst:(assignEach es X.env).findIdx? (·.1)=none:=by rfl):PG X (.Tuple es k pos) (ZG X.K n t):=by
 intro pins s zzs H v u Q I r hw;obtain⟨a,xs,e1,hq,hl,hw⟩:=hw;subst e1;cases r;obtain⟨its,rv,ht,hz⟩:=I.tuple hq;refine assign_Tuple_tuple (I.ok.hd hc) ht (by simp[hn,<- hl,rv.length]) hst fun h' hx=>?_
 have I1:Inv X pins zzs H { s with heap:=h' }:=I.kept (t':=s.toks) fun b o e=>hx b o (fW (bI e)) e
 exact h pins _ zzs H xs _ Q I1 (by simpa using rv) hw
def a1K(to ti:TE)(t:W3):TG:=fun v zzs H Q=>to zzs H fun o H1=>ti zzs H1 fun i H2=>t o i v H2 fun H3=>Q zzs H3
theorem a0F{o i:Expr}{to ti:TE}{t:W3}(ho:PE X o to)(hi:PE X i ti)(hs:Ze X t)
  (ha:∀ v,assign (.Subscript o i pos) X.env v=(do
   let ov <- holding [v] (eval o X.env)
   let iv <- holding [v,ov] (eval i X.env)
   standAt pos
   holding [v,ov,iv] (setItem ov iv v)
   release [v,ov,iv] []):=by intro _;rfl):PG X (.Subscript o i pos) (a1K to ti t):=by
 intro pins s zzs H v u Q I r h;rw[ha];refine bQ (wO (thn (ho pins s zzs H _ I h) fun ov s1 zzy=>?_));obtain⟨x,H1,I1,r1,q1⟩:=zzy;refine bQ (wO (thn (hi pins s1 zzs H1 _ I1 q1) fun iv s2 zzy=>?_));obtain⟨y,H2,I2,r2,q2⟩:=zzy;refine bQ (Ho (bQ (wO (thn (hs pins s2 zzs H2 x y v ov iv u _ I2 r1 r2 r q2) fun _ s3 zzy=>?_))));obtain⟨H3,I3,q3⟩:=zzy;exact wpAny_release ⟨zzs,H3,I3,q3⟩
def Yu(te:TE)(g:TG):TS:=fun D zzs H=>te zzs H fun x H1=>g x zzs H1 D.nx
theorem a0L{tg e:Expr}{te:TE}{g:TG}(he:PE X e te)(hg:PG X tg g)(hs:swapsWithSole [tg] e pos.line X.env=pure false:=by rfl)(hw:swappedStores [tg] e X.env=pure none:=by rfl)
  (h1:(assignEach [tg] X.env).map (·.2)=[assign tg X.env]:=by rfl):PS X (.Assign [tg] e pos) (Yu te g):=by
 intro pins s zzs H D I h;refine wpAny_Assign_stores (thn (he pins s zzs H _ I h) fun v s1 zzy=>?_) hs hw;obtain⟨x,H1,I1,r1,q1⟩:=zzy;rw[h1];exact thn (hg pins s1 zzs H1 x v _ I1 r1 q1) fun _ s2 q=>q
theorem a0Q{i:Nat}{x:Str}{e:Expr}{te:TE}{pos':Pos}(hN:X.N.Nodup)(hi:X.N[i]?=some x)(hx:Loc X.env.scope x)(he:PE X e te)(hs:swapsWith e (some (.Name x pos')) pos.line X.env=pure false:=by rfl)(hf:X.fn x=true\/X.env.scope.names.lookup x=some .local:=by first|exact .inl rfl|exact .inr rfl|assumption) :
  PS X (.Assign [.Name x pos'] e pos) (Yu te (Di i)):=by
 intro pins s zzs H D I h;refine wpAny_Assign_Name (thn (he pins s zzs H _ I h) fun v s1 zzy=>?_) hs;obtain⟨y,H1,I1,r1,q1⟩:=zzy;exact qG I1 hN hi hx r1 (fun s2 I2=>⟨_,H1,I2,q1⟩) hf
def a2F(i j:Nat)(ta:TA):TS:=fun D zzs H=>ta zzs H fun vs H1=>∃ v w,vs=[v,w]/\D.nx ((zzs.set i (some v)).set j (some w)) H1
theorem a0O{i j:Nat}{x y:Str}{a b:Expr}{ta:TA}{px py pt:Pos} {kt k2 pt2} (hc:X.calm=true) (hN:X.N.Nodup) (hi:X.N[i]?=some x) (hj:X.N[j]?=some y) (hij:i≠j)
  (hx:X.env.scope.names.lookup x=some .local) (hy:X.env.scope.names.lookup y=some .local) (ha:PA X [a,b] ta)
  (hw:swappedStores [.Tuple [.Name x px,.Name y py] kt pt] (.Tuple [a,b] k2 pt2) X.env=pure (some [x,y]))
  (hs:swapsWithSole [.Tuple [.Name x px,.Name y py] kt pt] (.Tuple [a,b] k2 pt2) pos.line X.env=pure false:=by rfl) :
  PS X (.Assign [.Tuple [.Name x px,.Name y py] kt pt] (.Tuple [a,b] k2 pt2) pos) (a2F i j ta):=by
 intro pins s zzs H D I h;rw[exec_Assign_arm];refine bQ (Ho ?_);rw[hs];refine bQ (cQ ?_);rw[aJ (by decide)];refine bQ (Tuple_ (thn (ha _ pins s zzs H _ I h) fun us s1 zzy=>?_));obtain⟨vs,H1,I1,r1,q1⟩:=zzy;obtain⟨v,w,e1,q1⟩:=q1;subst e1;obtain⟨u1,u2,rfl,rv,rw'⟩:∃ u1 u2,us=[u1,u2]/\RelV v u1/\RelV w u2:=by
  cases r1 with
  |cons p q=>
   cases q with
   |cons p' q'=>
    cases q';exact⟨_,_,rfl,p,p'⟩
 refine GJ ?_ (by show 2<=sizeLine;decide);have I2:Inv X pins zzs H1 { s1 with heap:=s1.heap.push { cls:=.type "tuple",data:=.seq [u1,u2].toArray } }:=I1.kept (t':=s1.toks) fun b o e=>gY _ e
 rw[hw];refine bQ (cQ ?_);show wpAny (model X.prog X.w) X.A (do rule "assign.swapped-stores";let items <- unpackItems (.ref s1.heap.objs.size) 2 none;assignInOrder [fun v=>bindName X.env y v,fun v=>bindName X.env x v] items.reverse;pure Flow.next) _ _ _;refine bQ (qI (bQ (unpackItems_tuple (items:=#[u1,u2]) (I.ok.hd hc) (IsTup.new s1.heap _) fun h' hx'=>?_)));have I3:=I2.kept (h':=h') (t':=s1.toks) fun b o e=>hx' b o (fW (bI e)) e
 show wpAny _ _ (assignInOrder [fun v=>bindName X.env y v,fun v=>bindName X.env x v] [u2,u1] >>= fun _=>pure Flow.next) _ _ _;refine bQ (Mr (wpAny_bindName (qG I3 hN hj (.inl hy) rw' (fun s2 I4=>?_) (.inr hy))));refine Mr (wpAny_bindName (qG I4 hN hi (.inl hx) rv (fun s3 I5=>assignInOrder_nil (cQ ?_)) (.inr hx)));rw[List.set_comm _ _ (lM hij)] at I5;exact⟨_,H1,I5,q1⟩
end
section
variable{X:Cx}{pos:Pos}
def V2(c:TT)(tb:TS):TS:=fun D zzs H=>∃ W:Nat->St->Hp->Prop,(∃ m,W m zzs H)/\∀ m zzs H,W m zzs H ->
 c zzs H fun b H1=>if b=true then ∃ N:St->Hp->Prop,(∀ bG H',N bG H'->∃ m',m'<m/\W m' bG H')/\tb { D with nx:=N,ct:=N,bk:=D.nx } zzs H1 else D.nx zzs H1
theorem TJ{c:Expr}{body:List Stmt}{tc:TT}{tb:TS}(hp:PassesOwn (model X.prog X.w) X.A X.env X.xe)(hc:PT X c tc)(hb:PSs X body tb):PS X (.While c body [] pos) (V2 tc tb):=by
 intro pins s zzs H D I h;obtain⟨W,⟨m0,w0⟩,turn⟩:=h;refine wpAny_While (codeAny_whileLoop (fun n s'=>∃ bG H',Inv X pins bG H' s'/\W n bG H') ?_ m0 ⟨zzs,H,I,w0⟩);rintro n s1 ⟨Ra,H1,I1,w1⟩;refine tE hp (thn (hc pins s1 Ra H1 _ I1 (turn n Ra H1 w1)) fun b s2 zzy=>?_);obtain⟨H2,I2,q2⟩:=zzy;cases b with
 |true=>
  obtain⟨N,hN,q2⟩:=q2;rw[aL rfl];refine tE hp (thn (hb pins s2 Ra H2 _ I2 q2) fun f s3 q3=>?_);cases f with
  |next=>
   obtain⟨BW,H3,I3,n3⟩:=q3;obtain⟨m',hm,w3⟩:=hN BW H3 n3;exact⟨m',hm,BW,H3,I3,w3⟩
  |cont=>
   obtain⟨BW,H3,I3,n3⟩:=q3;obtain⟨m',hm,w3⟩:=hN BW H3 n3;exact⟨m',hm,BW,H3,I3,w3⟩
  |brk=>exact q3
  |ret v=>exact q3
 |false=>
  rw[aJ fG];exact Bh ⟨Ra,H2,I2,q2⟩
end
structure It where
 go:Nat->Hp->Prop
 yld:Nat->Hp->V->Hp->Prop
 stop:Nat->Hp->Prop
def rW(X:Cx)(pins:List (Addr×Obj))(H:Hp)(b:Addr):Prop:=
 H b=none/\b≠X.env.locals/\b∉X.fs/\(b∈X.ex\/X.s₀.heap.objs.size<=b)/\(∀ x c,X.env.cells.lookup x=some c->c≠b)/\∀ p∈X.pn++pins,p.1≠b
theorem Inv.Iv{X:Cx}{pins:List (Addr×Obj)}{zzs:St}{H H':Hp}{s:Shared}{b:Addr}(I:Inv X pins zzs H s)(hb:s.heap.objs.size<=b)(hn:H' b=none):rW X pins H' b:=by
 refine⟨hn,Bs (jg I.lt hb),I.a3j hb,.inr (cP I.sz hb),fun x c e z=>?_,fun p hp z=>?_⟩
 ·obtain⟨v,q⟩:=I.cell x c e;exact absurd (jg q.lt (by rw[z];exact hb)) (qM _)
 ·exact absurd (jg (bI (I.pin p hp).1) (by rw[z];exact hb)) (qM _)
structure Turn(P:Program)(w:World)(K:ao)(tg:Expr)(J:It)(fp:List Addr)(it:Addr)(tn:Nat->Heap->Prop):Prop where
 mem:it∈fp
 obj:∀ i h,tn i h->∀ b∈fp,∃ o,h.get? b=some o/\∀ v,o.data≠.cell v
 keep:∀ i h h',tn i h->(∀ b∈fp,∀ o,h.get? b=some o->h'.get? b=some o)->tn i h'
 item:∀(X:Cx),X.prog=P->X.w=w->X.K=K->X.calm=true->∀(i:Nat)(pins:List (Addr×Obj))(s:Shared)(zzs:St)(H:Hp)(E:Value->Shared->Prop),Inv X pins zzs H s->(∀ b∈fp,rW X pins H b)->tn i s.heap->J.go i H ->
  wpAny (model P w) X.A (pyNext (.ref it)) (fun r s1=>∃ u,r=some u /\
   wpAny (model P w) X.A (letOwnedTupleGo tg (.ref it) u) (fun _ s2=>∃ x H',Inv X pins zzs H' s2/\RelV x u/\J.yld i H x H'/\tn (i+1) s2.heap/\∀ b∈fp,H' b=none) E s1) E s
 done:∀(X:Cx),X.prog=P->X.w=w->X.K=K->X.calm=true->∀(i:Nat)(pins:List (Addr×Obj))(s:Shared)(zzs:St)(H:Hp)(E:Value->Shared->Prop),Inv X pins zzs H s->(∀ b∈fp,rW X pins H b)->tn i s.heap->J.stop i H ->
  wpAny (model P w) X.A (pyNext (.ref it)) (fun r s1=>r=none/\Inv X pins zzs H s1) E s
 self:∀(A:Around)(i:Nat)(s:Shared)(Q:Value->Shared->Prop)(E:Value->Shared->Prop),tn i s.heap->Q (.ref it) s->wpAny (model P w) A (pyIter (.ref it)) Q E s
abbrev TI:=St->Hp->(It->Hp->Prop)->Prop
def PIE(X:Cx)(pins:List (Addr×Obj))(zzs:St)(tg:Expr)(R:It->Hp->Prop)(itv:Value)(s2:Shared):Prop:=
 ∃(it:Addr)(fp:List Addr)(tn:Nat->Heap->Prop)(J:It)(H':Hp),itv=.ref it/\Inv X pins zzs H' s2/\Turn X.prog X.w X.K tg J fp it tn/\tn 0 s2.heap/\(∀ b∈fp,rW X pins H' b)/\R J H'
def PI(X:Cx)(tg iter:Expr)(wi:TI):Prop:=
 ∀(pins:List (Addr×Obj))(s:Shared)(zzs:St)(H:Hp)(R:It->Hp->Prop),Inv X pins zzs H s->wi zzs H R ->
  wpAny (model X.prog X.w) X.A (eval iter X.env) (fun v s1=>wpAny (model X.prog X.w) X.A (pyIter v) (PIE X pins zzs tg R) X.xe s1) X.xe s
theorem Iw{M:Model}{A:Around}{E:Value->Shared->Prop}{s:Shared}{tg:Expr}{it:Addr}{u:Value}{o:Obj}{n:String}{vs:Array Value}{Q:Unit->Shared->Prop}(ho:s.heap.get? it=some o)(hc:o.cls=.type n)(hd:o.data=.fields vs)
  (hn:["enumerate","zip","dict_itemiterator","dict_reverseitemiterator","odict_iterator","itertools.zip_longest","itertools.pairwise"].contains n=false) (hQ:Q () s):wpAny M A (letOwnedTupleGo tg (.ref it) u) Q E s:=by
 unfold letOwnedTupleGo;cases tg<;>first
  |exact cQ hQ
  |(cases u<;>first
    |exact cQ hQ
    |(refine bQ (wpAny_load ho ?_)
      rw[hc,hd];show wpAny M A (if(["enumerate","zip","dict_itemiterator","dict_reverseitemiterator","odict_iterator","itertools.zip_longest","itertools.pairwise"].contains n&&vs[0]?==some (rawInt _))=true then _ else _) Q E s;rw[aJ (by intro h;rw[hn,wN] at h;cases h)];exact cQ hQ))
def Itl(K:ao)(a:Addr):It:=
 ⟨fun i H=>∃ xs x,SqL K H a xs/\xs[i]?=some x,fun i H x H'=>H'=H/\∀ xs,SqL K H a xs->xs[i]?=some x,fun i H=>∃ xs,SqL K H a xs/\xs.length<=i⟩
def Itt(K:ao)(a:Addr):It:=
 ⟨fun i H=>∃ xs x,SqT K H a xs/\xs[i]?=some x,fun i H x H'=>H'=H/\∀ xs,SqT K H a xs->xs[i]?=some x,fun i H=>∃ xs,SqT K H a xs/\xs.length<=i⟩
def Itr(lo:Int)(n:Nat):It:=⟨fun i _=>i<n,fun i H x H'=>H'=H/\x=.int (lo+i),fun i _=>n<=i⟩
theorem R7{P:Program}{w:World}{K:ao}{tg:Expr}(a it:Addr):Turn P w K tg (Itl K a) [it] it (fun i h=>h.IsListIter it a i) where
 mem:=by simp
 obj:=fun i h st b hb=>by
  have e:b=it:=by simpa using hb
  subst e;obtain⟨o,e,c,d⟩:=st;exact⟨o,e,fun v z=>by rw[d] at z;cases z⟩
 keep:=fun i h h' st k=>st.at fun o e=>k it (by simp) o e
 item:=by
  intro X hP hw hK hc i pins s zzs H E I hf st hg;subst hP hw hK;obtain⟨xs,x,hq,hx⟩:=hg;obtain⟨its,rv,p,hz⟩:=I.list hq;obtain⟨u,hu,ru⟩:=rv.get hx;obtain⟨f0,f1,f2,f3,f4,f5⟩:=hf it (by simp);refine wpAny_pyNext_list_item st p.isList (x:=u) (by simpa using hu) fun h' st' sb=>?_
  have I1:Inv X pins zzs H { s with heap:=h' }:=I.turned (t':=s.toks) (fun b o hb e=>(sb.2 b hb).trans e) f0 f1 f3 f4 f5;obtain⟨o,e,c,d⟩:=id st';exact⟨u,rfl,Iw (s:={ s with heap:=h' }) e c d (by decide) ⟨x,H,I1,ru,⟨rfl,fun ys hy=>by rw[I.ud hy hq];exact hx⟩,st',fun b hb=>(hf b hb).1⟩⟩
 done:=by
  intro X hP hw hK hc i pins s zzs H E I hf st hg;subst hP hw hK;obtain⟨xs,hq,hx⟩:=hg;obtain⟨its,rv,p,hz⟩:=I.list hq;obtain⟨f0,f1,f2,f3,f4,f5⟩:=hf it (by simp);have hl:=rv.length;exact wpAny_pyNext_list_end (I.ok.hd hc) st p.isList (by simp;lia) fun h' eb=>⟨rfl,I.turned (t':=s.toks) (fun b o hb e=>eb b o hb e) f0 f1 f3 f4 f5⟩
 self:=fun _ _ _ _ _ st h=>wpAny_pyIter_listiter st h
theorem LC{P:Program}{w:World}{K:ao}{tg:Expr}(a it:Addr):Turn P w K tg (Itt K a) [it] it (fun i h=>h.IsTupleIter it a i) where
 mem:=by simp
 obj:=fun i h st b hb=>by
  have e:b=it:=by simpa using hb
  subst e;obtain⟨o,e,c,d⟩:=st;exact⟨o,e,fun v z=>by rw[d] at z;cases z⟩
 keep:=fun i h h' st k=>st.at fun o e=>k it (by simp) o e
 item:=by
  intro X hP hw hK hc i pins s zzs H E I hf st hg;subst hP hw hK;obtain⟨xs,x,hq,hx⟩:=hg;obtain⟨its,rv,p,hz⟩:=I.tuple hq;obtain⟨u,hu,ru⟩:=rv.get hx;obtain⟨f0,f1,f2,f3,f4,f5⟩:=hf it (by simp);refine wpAny_pyNext_tuple_item st (show s.heap.IsTuple a its.toArray from p) (x:=u) (by simpa using hu) fun h' st' sb=>?_
  have I1:Inv X pins zzs H { s with heap:=h' }:=I.turned (t':=s.toks) (fun b o hb e=>(sb.2 b hb).trans e) f0 f1 f3 f4 f5;obtain⟨o,e,c,d⟩:=id st';exact⟨u,rfl,Iw (s:={ s with heap:=h' }) e c d (by decide) ⟨x,H,I1,ru,⟨rfl,fun ys hy=>by rw[I.Ef hy hq];exact hx⟩,st',fun b hb=>(hf b hb).1⟩⟩
 done:=by
  intro X hP hw hK hc i pins s zzs H E I hf st hg;subst hP hw hK;obtain⟨xs,hq,hx⟩:=hg;obtain⟨its,rv,p,hz⟩:=I.tuple hq;obtain⟨f0,f1,f2,f3,f4,f5⟩:=hf it (by simp);have hl:=rv.length;exact wpAny_pyNext_tuple_end (I.ok.hd hc) st (show s.heap.IsTuple a its.toArray from p) (by simp;lia) fun h' eb=>⟨rfl,I.turned (t':=s.toks) (fun b o hb e=>eb b o hb e) f0 f1 f3 f4 f5⟩
 self:=fun _ _ _ _ _ st h=>wpAny_pyIter_tupleiter st h
theorem Lz{P:Program}{w:World}{K:ao}{tg:Expr}(it:Addr)(lo:Int)(n:Nat):Turn P w K tg (Itr lo n) [it] it (fun i h=>IsRangeIter h it (lo+(i:Nat)*1) ((n:Int)-(i:Nat)) 1) where
 mem:=by simp
 obj:=fun i h st b hb=>by
  have e:b=it:=by simpa using hb
  subst e;exact⟨_,st,fun v z=>by
   have z':Data.fields _=Data.cell v:=z;cases z'⟩
 keep:=fun i h h' st k=>k it (by simp) _ st
 item:=by
  intro X hP hw hK hc i pins s zzs H E I hf st hg;subst hP hw hK;obtain⟨f0,f1,f2,f3,f4,f5⟩:=hf it (by simp);have W:=Walks.range (prog:=X.prog) (w:=X.w) (I.ok.hd hc) it lo 1 n;refine W.item i s _ _ hg st fun v h' tk hv st' kk=>?_
  obtain⟨t,rfl⟩:=hv;have I1:Inv X pins zzs H { s with heap:=h',toks:=tk }:=I.turned (fun b o hb e=>kk b o (by simpa using hb) e) f0 f1 f3 f4 f5;refine⟨_,rfl,Iw (s:={ s with heap:=h',toks:=tk }) (n:="range_iterator") st' rfl rfl (by decide) ⟨.int (lo+i),H,I1,⟨t,?_⟩,⟨rfl,rfl⟩,st',fun b hb=>(hf b hb).1⟩⟩;rw[Int.mul_one]
 done:=by
  intro X hP hw hK hc i pins s zzs H E I hf st hg;subst hP hw hK;obtain⟨f0,f1,f2,f3,f4,f5⟩:=hf it (by simp);exact wpAny_pyNext_range_end (I.ok.hd hc) st (by have:n<=i:=hg;lia) fun h' eb=>⟨rfl,I.turned (t':=s.toks) (fun b o hb e=>eb b o hb e) f0 f1 f3 f4 f5⟩
 self:=fun _ _ _ _ _ st h=>wpAny_pyIter_rangeiter st h
section
variable{X:Cx}{tg:Expr}
def O4(K:ao)(tl:TE):TI:=fun zzs H R=>tl zzs H fun x H1=>∃ a,x=.ref a/\(∃ xs,SqL K H1 a xs)/\R (Itl K a) H1
def ZM(K:ao)(tl:TE):TI:=fun zzs H R=>tl zzs H fun x H1=>∃ a,x=.ref a/\(∃ xs,SqT K H1 a xs)/\R (Itt K a) H1
theorem Xx{l:Expr}{tl:TE}(hl:PE X l tl):PI X tg l (O4 X.K tl):=by
 intro pins s zzs H R I h;refine thn (hl pins s zzs H _ I h) fun v s1 zzy=>?_
 obtain⟨x,H1,I1,r1,q1⟩:=zzy;obtain⟨a,e,⟨xs,hq⟩,q⟩:=q1;subst e;cases r1;obtain⟨its,rv,p,hz⟩:=I1.list hq;refine wpAny_pyIter_list p.isList ?_;refine⟨s1.heap.objs.size,[s1.heap.objs.size],_,_,H1,rfl,I1.kept (t':=s1.toks) fun b o e=>gY _ e,R7 a _,⟨_,iR _ rfl,rfl,rfl⟩,fun b hb=>?_,q⟩;have e:b=s1.heap.objs.size:=by simpa using hb
 subst e;exact I1.Iv (bK _) (I1.hok.fresh (bK _))
theorem a0J{l:Expr}{tl:TE}(hl:PE X l tl):PI X tg l (ZM X.K tl):=by
 intro pins s zzs H R I h;refine thn (hl pins s zzs H _ I h) fun v s1 zzy=>?_
 obtain⟨x,H1,I1,r1,q1⟩:=zzy;obtain⟨a,e,⟨xs,hq⟩,q⟩:=q1;subst e;cases r1;obtain⟨its,rv,p,hz⟩:=I1.tuple hq;refine wpAny_pyIter_tuple (show s1.heap.IsTuple a its.toArray from p) ?_;refine⟨s1.heap.objs.size,[s1.heap.objs.size],_,_,H1,rfl,I1.kept (t':=s1.toks) fun b o e=>gY _ e,LC a _,⟨_,iR _ rfl,rfl,rfl⟩,fun b hb=>?_,q⟩;have e:b=s1.heap.objs.size:=by simpa using hb
 subst e;exact I1.Iv (bK _) (I1.hok.fresh (bK _))
theorem Jl{pins:List (Addr×Obj)}{zzs:St}{H:Hp}{s:Shared}{R:It->Hp->Prop}{E:Value->Shared->Prop}{lo hi:Int}{t u v:Tok}{tk:Nat}(I:Inv X pins zzs H s)(h1 : -(2^62)<=lo)(h2:lo<2^62)(h3 : -(2^62)<=hi)(h4:hi<2^62)
  (q:R (Itr lo (hi-lo).toNat) H):wpAny (model X.prog X.w) X.A (pyIter (.ref s.heap.objs.size)) (PIE X pins zzs tg R) E { s with heap:=s.heap.push { cls:=.type "range",data:=.fields #[.int lo t,.int hi u,.int 1 v] },toks:=tk }:=by
 refine wpAny_pyIter_range (IsRange.new ..) (small_one h1 h2 h3 h4) ?_;have I1:Inv X pins zzs H { s with heap:=s.heap.push { cls:=.type "range",data:=.fields #[.int lo t,.int hi u,.int 1 v] },toks:=tk }:=I.kept fun b o e=>gY _ e
 refine⟨(s.heap.push { cls:=.type "range",data:=.fields #[.int lo t,.int hi u,.int 1 v] }).objs.size,[(s.heap.push { cls:=.type "range",data:=.fields #[.int lo t,.int hi u,.int 1 v] }).objs.size],_,_,H,rfl,
  I1.kept (t':=tk) fun b o e=>gY _ e,Lz _ lo (hi-lo).toNat,?_,fun b hb=>?_,q⟩
 ·have e1:lo+((0:Nat):Int)*1=lo:=by simp
  have e2:(((hi-lo).toNat:Nat):Int)-((0:Nat):Int)=Builtin.Range.rangeSize lo hi 1:=by rw[rangeSize_one];split<;>lia
  show IsRangeIter _ _ (lo+((0:Nat):Int)*1) ((((hi-lo).toNat:Nat):Int)-((0:Nat):Int)) 1;rw[e1,e2];exact iR _ rfl
 ·have e:b=(s.heap.push { cls:=.type "range",data:=.fields #[.int lo t,.int hi u,.int 1 v] }).objs.size:=by simpa using hb
  subst e;exact I1.Iv (bK _) (I1.hok.fresh (bK _))
def YQ(ta:TA):TI:=fun zzs H R=>ta zzs H fun vs H1=>∃ j:Int,vs=[.int j] /\ -(2^62)<=j/\j<2^62/\R (Itr 0 j.toNat) H1
def YS(ta:TA):TI:=fun zzs H R=>ta zzs H fun vs H1=>∃ i j:Int,vs=[.int i,.int j]/\(-(2^62)<=i/\i<2^62 /\ -(2^62)<=j/\j<2^62)/\R (Itr i (j-i).toNat) H1
theorem QK{a:Expr}{ta:TA}{p pos:Pos} (hg:Gl X "range") (hm:X.mg "range" = none) (ha:PA X [a] ta) (hs:starEach [a] X.env=[(false,eval a X.env)]:=by rfl):PI X tg (.Call (.Name "range" p) [a] [] pos) (YQ ta):=by
 intro pins s zzs H R I h;refine Call_ (vV I hg hm boot_range (Gs (thn (ha pos pins s zzs H _ I h) fun us s1 zzy=>?_) hs rfl));obtain⟨vs,H1,I1,r1,q1⟩:=zzy;obtain⟨j,e,q1,q2,q⟩:=q1;subst e;cases r1 with
 |cons r rr=>
  cases rr;obtain⟨t,rfl⟩:=r;exact call_range_1 (Jl I1 (by lia) (by lia) q1 q2 (by simpa using q))
theorem QL{a b:Expr}{ta:TA}{p pos:Pos} (hg:Gl X "range") (hm:X.mg "range" = none) (ha:PA X [a,b] ta) (hs:starEach [a,b] X.env=[(false,eval a X.env),(false,eval b X.env)]:=by rfl) (hs2:starEach [b] X.env=[(false,eval b X.env)]:=by rfl) :
  PI X tg (.Call (.Name "range" p) [a,b] [] pos) (YS ta):=by
 intro pins s zzs H R I h;refine Call_ (vV I hg hm boot_range (Gs (thn (ha pos pins s zzs H _ I h) fun us s1 zzy=>?_) (by rw[hs,hs2]) (by rw[hs2];rfl)));obtain⟨vs,H1,I1,r1,q1⟩:=zzy;obtain⟨i,j,e,⟨q1,q2,q3,q4⟩,q⟩:=q1;subst e;cases r1 with
 |cons r rr=>
  cases rr with
  |cons r' rr=>
   cases rr;obtain⟨t,rfl⟩:=r;obtain⟨t',rfl⟩:=r';exact call_range_2 (Jl I1 q1 q2 q3 q4 q)
def a1j(wi:TI)(g:TG)(tb:TS):TS:=fun D zzs H=>wi zzs H fun J H1=>∃ W:Nat->Nat->St->Hp->Prop,(∃ m,W 0 m zzs H1)/\∀ i m zzs H,W i m zzs H ->
 (J.stop i H/\D.nx zzs H)\/(J.go i H/\∃ N:St->Hp->Prop,(∀ bG H',N bG H'->∃ m',m'<m/\W (i+1) m' bG H')/\∀ x H',J.yld i H x H'->g x zzs H' fun p7 H2=>tb { D with nx:=N,ct:=N,bk:=D.nx } p7 H2)
def sI(fp:List Addr)(h:Heap):List (Addr×Obj):=fp.filterMap fun b=>(h.get? b).map fun o=>(b,o)
theorem sG{fp:List Addr}{h:Heap}{b:Addr}{o:Obj}(hb:b∈fp)(e:h.get? b=some o):(b,o)∈sI fp h:=Ay.mpr ⟨b,hb,by rw[e];rfl⟩
theorem Qt{fp:List Addr}{h:Heap}{p:Addr×Obj}(hp:p∈sI fp h):p.1∈fp/\h.get? p.1=some p.2:=by
 obtain⟨b,hb,e⟩:=Ay.mp hp;cases q:h.get? b with
 |none=>rw[q] at e;cases e
 |some o=>
  rw[q] at e;have e':(b,o)=p:=iD e;subst e';exact⟨hb,q⟩
theorem Inv.pinned{pins:List (Addr×Obj)}{zzs:St}{H:Hp}{s:Shared}{fp:List Addr}(I:Inv X pins zzs H s)(hf:∀ b∈fp,rW X pins H b)(ho:∀ b∈fp,∃ o,s.heap.get? b=some o/\∀ v,o.data≠.cell v):Inv X (pins++sI fp s.heap) zzs H s:=
 I.uy fun p hp=>(cI.mp hp).elim (fun z=>I.pin p (je _ z)) fun z=>by
  obtain⟨hb,e⟩:=Qt z;obtain⟨f0,f1,f2,_⟩:=hf p.1 hb;obtain⟨o,e',d⟩:=ho p.1 hb;rw[e] at e';cases e';exact⟨e,f0,f1,f2,d⟩
theorem Inv.Ao{pins pl:List (Addr×Obj)}{zzs:St}{H:Hp}{s:Shared}(I:Inv X (pins++pl) zzs H s):Inv X pins zzs H s:=I.uy fun p hp=>I.pin p (je _ (iB _ hp))
theorem a0N{iter:Expr}{body:List Stmt}{wi:TI}{g:TG}{tb:TS}{pos:Pos}(hp:PassesOwn (model X.prog X.w) X.A X.env X.xe)(hc:X.calm=true)(hi:PI X tg iter wi)(hg:PG X tg g)(hb:PSs X body tb)
  (hs:∀ x,foldedSetIterable iter X.env x=pure x:=by intro _;rfl):PS X (.For tg iter body [] pos) (a1j wi g tb):=by
 intro pins s zzs H D I h;refine wpAny_For (thn (hi pins s zzs H _ I h) fun v s1 h1=>thn h1 fun itv s2 h2=>?_) hs;obtain⟨it,fp,tn,J,H2,e,I2,T,st2,f2,W,⟨m0,w0⟩,turn⟩:=h2;subst e;have stat:∀ {H':Hp},(∀ b∈fp,H' b=none)->∀ b∈fp,rW X pins H' b:=fun hn b hb=>⟨hn b hb,(f2 b hb).2⟩
 refine codeAny_forLoop_any (fun n s'=>∃ i bG H',Inv X pins bG H' s'/\tn i s'.heap/\(∀ b∈fp,H' b=none)/\W i n bG H') ?_ m0 ⟨0,zzs,H2,I2,st2,fun b hb=>(f2 b hb).1,w0⟩;rintro n s3 ⟨i,BW,H3,I3,st3,fr3,w3⟩;rcases turn i n BW H3 w3 with⟨stop,qn⟩|⟨go,N,hN,step⟩
 ·refine tE hp (thn (T.done X rfl rfl rfl hc i pins s3 BW H3 X.xe I3 (stat fr3) st3 stop) fun r s4 zzy=>?_);obtain⟨hr,I4⟩:=zzy;subst hr;exact Bh ⟨BW,H3,I4,qn⟩
 ·refine tE hp (thn (T.item X rfl rfl rfl hc i pins s3 BW H3 X.xe I3 (stat fr3) st3 go) fun r s4 zzy=>?_);obtain⟨u,hr,h4⟩:=zzy;subst hr;refine tE hp (thn h4 fun _ s5 zzy=>?_);obtain⟨x,H5,I5,r5,y5,st5,fr5⟩:=zzy;have I5':=I5.pinned (stat fr5) (T.obj _ _ st5);refine tE hp (thn (hg _ s5 BW H5 x u _ I5' r5 (step x H5 y5)) fun _ s6 zzy=>?_);obtain⟨a3B,H6,I6,q6⟩:=zzy;refine tE hp (thn (hb _ s6 a3B H6 _ I6 q6) fun f s7 q7=>?_);have again:∀ {BX:St} {H7:Hp},Inv X (pins++sI fp s5.heap) BX H7 s7->N BX H7->∃ m,m<n/\∃ i bG H',Inv X pins bG H' s7/\tn i s7.heap/\(∀ b∈fp,H' b=none)/\W i m bG H':=fun {BX H7} I7 n7=>by
   obtain⟨m',hm,w7⟩:=hN BX H7 n7;refine⟨m',hm,i+1,BX,H7,I7.Ao,T.keep _ _ _ st5 fun b hb o e=>(I7.pin (b,o) (je _ (je _ (sG hb e)))).1,fun b hb=>?_,w7⟩;obtain⟨o,e,d⟩:=T.obj _ _ st5 b hb;exact(I7.pin (b,o) (je _ (je _ (sG hb e)))).2.1
  cases f with
  |next=>obtain⟨BX,H7,I7,n7⟩:=q7;exact again I7 n7
  |cont=>obtain⟨BX,H7,I7,n7⟩:=q7;exact again I7 n7
  |brk=>obtain⟨BX,H7,I7,q7⟩:=q7;exact⟨BX,H7,I7.Ao,q7⟩
  |ret v=>obtain⟨x7,BX,H7,I7,r7,q7⟩:=q7;exact⟨x7,BX,H7,I7.Ao,r7,q7⟩
end
theorem eE{K:ao}{a:Addr}{xs:List V}{g:TG}{tb:TS}{D:Ends}{zzs:St}{H:Hp}(Pv:Nat->St->Hp->Prop)(h0:Pv 0 zzs H)(hl:∀ i zzs H,i<=xs.length->Pv i zzs H->SqL K H a xs)
  (hs:∀ i x zzs H,xs[i]?=some x->Pv i zzs H->g x zzs H fun p7 H2=>tb { D with nx:=Pv (i+1),ct:=Pv (i+1),bk:=D.nx } p7 H2) (hd:∀ zzs H,Pv xs.length zzs H->D.nx zzs H) :
  ∃ W:Nat->Nat->St->Hp->Prop,(∃ m,W 0 m zzs H)/\∀ i m zzs H,W i m zzs H ->
   ((Itl K a).stop i H/\D.nx zzs H)\/((Itl K a).go i H/\∃ N:St->Hp->Prop,(∀ bG H',N bG H'->∃ m',m'<m/\W (i+1) m' bG H')/\∀ x H',(Itl K a).yld i H x H'->g x zzs H' fun p7 H2=>tb { D with nx:=N,ct:=N,bk:=D.nx } p7 H2):=by
 refine⟨fun i m zzs H=>m=xs.length-i/\i<=xs.length/\Pv i zzs H,⟨xs.length,by simp,jj _,h0⟩,?_⟩;rintro i m zzs H ⟨rfl,hi,p⟩;have q:=hl i zzs H hi p;by_cases hlt:i<xs.length
 ·refine .inr ⟨⟨xs,xs[i],q,by simp[hlt]⟩,Pv (i+1),fun bG H' p'=>⟨xs.length-(i+1),by omega,rfl,hlt,p'⟩,fun x H' y=>?_⟩;obtain⟨e,y⟩:=y;subst e;exact hs i x zzs _ (y xs q) p
 ·have e:i=xs.length:=by lia
  subst e;exact .inl ⟨⟨xs,q,bK _⟩,hd zzs H p⟩
theorem dW{lo:Int}{n:Nat}{g:TG}{tb:TS}{D:Ends}{zzs:St}{H:Hp}(Pv:Nat->St->Hp->Prop)(h0:Pv 0 zzs H)
  (hs:∀ i zzs H,i<n->Pv i zzs H->g (.int (lo+i)) zzs H fun p7 H2=>tb { D with nx:=Pv (i+1),ct:=Pv (i+1),bk:=D.nx } p7 H2) (hd:∀ zzs H,Pv n zzs H->D.nx zzs H) :
  ∃ W:Nat->Nat->St->Hp->Prop,(∃ m,W 0 m zzs H)/\∀ i m zzs H,W i m zzs H ->
   ((Itr lo n).stop i H/\D.nx zzs H)\/((Itr lo n).go i H/\∃ N:St->Hp->Prop,(∀ bG H',N bG H'->∃ m',m'<m/\W (i+1) m' bG H')/\∀ x H',(Itr lo n).yld i H x H'->g x zzs H' fun p7 H2=>tb { D with nx:=N,ct:=N,bk:=D.nx } p7 H2):=by
 refine⟨fun i m zzs H=>m=n-i/\i<=n/\Pv i zzs H,⟨n,by simp,jj _,h0⟩,?_⟩;rintro i m zzs H ⟨rfl,hi,p⟩;by_cases hlt:i<n
 ·refine .inr ⟨hlt,Pv (i+1),fun bG H' p'=>⟨n-(i+1),by lia,rfl,hlt,p'⟩,fun x H' y=>?_⟩;obtain⟨e,y⟩:=y;subst e y;exact hs i zzs _ hlt p
 ·have e:i=n:=by lia
  subst e;exact .inl ⟨bK _,hd zzs H p⟩
abbrev R2:=V->V->Hp->VK->Prop
def OpR(X:Cx)(f:Value->Value->Sem Value)(r:R2):Prop:=
 ∀(pins:List (Addr×Obj))(s:Shared)(zzs:St)(H:Hp)(x y:V)(v u:Value)(Q:VK),Inv X pins zzs H s->RelV x v->RelV y u->r x y H Q ->
  wpAny (model X.prog X.w) X.A (f v u) (EP X pins zzs Q) X.xe s
def UnR(X:Cx)(f:Value->Sem Value)(r:V->Hp->VK->Prop):Prop:=
 ∀(pins:List (Addr×Obj))(s:Shared)(zzs:St)(H:Hp)(x:V)(v:Value)(Q:VK),Inv X pins zzs H s->RelV x v->r x H Q ->
  wpAny (model X.prog X.w) X.A (f v) (EP X pins zzs Q) X.xe s
def dZ(X:Cx)(f:Value)(r:List V->Hp->VK->Prop):Prop:=
 ∀(pins:List (Addr×Obj))(s:Shared)(zzs:St)(H:Hp)(xs:List V)(us:List Value)(Q:VK),Inv X pins zzs H s->Vals xs us->r xs H Q ->
  wpAny (model X.prog X.w) X.A (call f us) (EP X pins zzs Q) X.xe s
def tOp(r:R2)(ta tb:TE):TE:=fun zzs H Q=>ta zzs H fun x H1=>tb zzs H1 fun y H2=>r x y H2 Q
def tUn(r:V->Hp->VK->Prop)(ta:TE):TE:=fun zzs H Q=>ta zzs H fun x H1=>r x H1 Q
def rI(C:Int->Int->Prop)(g:Int->Int->V):R2:=fun x y H Q=>∃ i j,x=.int i/\y=.int j/\C i j/\Q (g i j) H
def rI0(g:Int->Int->V):R2:=fun x y H Q=>∃ i j,x=.int i/\y=.int j/\Q (g i j) H
def rU(g:Int->V):V->Hp->VK->Prop:=fun x H Q=>∃ i,x=.int i/\Q (g i) H
section
variable{X:Cx}{a b c:Expr}{ta tb tc:TE}{pos:Pos}
theorem Zh(ha:PE X a ta)(hb:PE X b tb){pins:List (Addr×Obj)}{s:Shared}{zzs:St}{H:Hp}{R:V->V->Hp->Prop}(I:Inv X pins zzs H s)
  (h:ta zzs H fun x H1=>tb zzs H1 fun y H2=>R x y H2) {Q:Value->Shared->Prop} {f:Value->Value->Sem Value}
  (hf:∀ v u s2 x y H2,Inv X pins zzs H2 s2->RelV x v->RelV y u->R x y H2->wpAny (model X.prog X.w) X.A (f v u) Q X.xe s2) :
  wpAny (model X.prog X.w) X.A (eval a X.env) (fun v s₁=>wpAny (model X.prog X.w) X.A (eval b X.env) (fun u s₂=>wpAny (model X.prog X.w) X.A (f v u) Q X.xe s₂) X.xe s₁) X.xe s:=by
 refine thn (ha pins s zzs H _ I h) fun v s1 zzy=>?_
 obtain⟨x,H1,I1,r1,q1⟩:=zzy;refine thn (hb pins s1 zzs H1 _ I1 q1) fun u s2 zzy=>?_
 obtain⟨y,H2,I2,r2,q2⟩:=zzy;exact hf v u s2 x y H2 I2 r1 r2 q2
theorem a2a{op:Operator}{r:R2}(ho:OpR X (binaryOp op) r)(ha:PE X a ta)(hb:PE X b tb):PE X (.BinOp a op b pos) (tOp r ta tb):=by
 intro pins s zzs H Q I h;exact wpAny_BinOp (Zh ha hb I h fun v u s2 x y H2 I2 rx ry q=>ho pins s2 zzs H2 x y v u Q I2 rx ry q)
theorem a2b{op:UnaryOp}{r:V->Hp->VK->Prop}(ho:UnR X (unaryOp op) r)(ha:PE X a ta):PE X (.UnaryOp op a pos) (tUn r ta):=by
 intro pins s zzs H Q I h;exact UnaryOp_ (thn (ha pins s zzs H _ I h) fun v s1 ⟨x,H1,I1,r1,q1⟩=>ho pins s1 zzs H1 x v Q I1 r1 q1)
theorem opI{f:Value->Value->Sem Value}{C:Int->Int->Prop}{g:Int->Int->Int}
  (rule:∀(i j:Int)(t u:Tok)(s:Shared)(Q:Value->Shared->Prop)(E:Value->Shared->Prop),C i j->Q (.int (g i j) s.toks) { s with toks:=s.toks+1 }->wpAny (model X.prog X.w) X.A (f (.int i t) (.int j u)) Q E s) :
  OpR X f (rI C fun i j=>.int (g i j)):=by
 intro pins s zzs H x y v u Q I rx ry h;obtain⟨i,j,rfl,rfl,hc,q⟩:=h;obtain⟨t,rfl⟩:=rx;obtain⟨t',rfl⟩:=ry;exact rule i j t t' s _ _ hc ⟨.int (g i j),H,I.tok _,⟨_,rfl⟩,q⟩
theorem a1W{f:Value->Value->Sem Value}{g:Int->Int->Int}
  (rule:∀(i j:Int)(t u:Tok)(s:Shared)(Q:Value->Shared->Prop)(E:Value->Shared->Prop),Q (.int (g i j) s.toks) { s with toks:=s.toks+1 }->wpAny (model X.prog X.w) X.A (f (.int i t) (.int j u)) Q E s) :
  OpR X f (rI0 fun i j=>.int (g i j)):=by
 intro pins s zzs H x y v u Q I rx ry h;obtain⟨i,j,rfl,rfl,q⟩:=h;obtain⟨t,rfl⟩:=rx;obtain⟨t',rfl⟩:=ry;exact rule i j t t' s _ _ ⟨.int (g i j),H,I.tok _,⟨_,rfl⟩,q⟩
theorem a0i{f:Value->Value->Sem Value}{g:Int->Int->Bool}
  (rule:∀(i j:Int)(t u:Tok)(s:Shared)(Q:Value->Shared->Prop)(E:Value->Shared->Prop),Q (.bool (g i j)) s->wpAny (model X.prog X.w) X.A (f (.int i t) (.int j u)) Q E s) :
  OpR X f (rI0 fun i j=>.bl (g i j)):=by
 intro pins s zzs H x y v u Q I rx ry h;obtain⟨i,j,rfl,rfl,q⟩:=h;obtain⟨t,rfl⟩:=rx;obtain⟨t',rfl⟩:=ry;exact rule i j t t' s _ _ ⟨.bl (g i j),H,I,rfl,q⟩
def a2T(i j:Int):Prop:=0<j/\j<1073741824
def W0(i j:Int):Prop:=(-(2^64)<i/\i<2^64)\/(-(2^64)<j/\j<2^64)
theorem W0.ok{i j:Int}(h:W0 i j):IntMulOk i j:=by
 rcases h with⟨h1,h2⟩|⟨h1,h2⟩
 ·exact .of_left (intBits_le_64 h1 h2)
 ·exact .of_right (intBits_le_64 h1 h2)
theorem a0j:OpR X (binaryOp .Add) (rI0 fun i j=>.int (i+j)):=a1W fun _ _ _ _ _ _ _ q=>add_int q
theorem KY:OpR X (binaryOp .Sub) (rI0 fun i j=>.int (i-j)):=a1W fun _ _ _ _ _ _ _ q=>sub_int q
theorem a0p:OpR X (binaryOp .Mult) (rI W0 fun i j=>.int (i*j)):=opI fun _ _ _ _ _ _ _ hc q=>mul_int q hc.ok
theorem Ob:OpR X (binaryOp .FloorDiv) (rI a2T fun i j=>.int (i / j)):=opI fun i j _ _ _ _ _ hc q=>by
 have h1:(0:Int)<j:=hc.1;have h2:j<1073741824:=hc.2;exact floordiv_int (by lia) (by rw[Int.fdiv_eq_ediv_of_nonneg i (by lia)];exact q) (.inl (PyProof.noPylong_small (by omega)))
theorem qj:OpR X (binaryOp .Mod) (rI (fun _ j=>0<j) fun i j=>.int (i%j)):=opI fun i j _ _ _ _ _ hc q=>by
 have h1:(0:Int)<j:=hc;exact mod_int' (by lia) (by rw[Int.fmod_eq_emod_of_nonneg i (by lia)];exact q)
theorem unI{f:Value->Sem Value}{g:Int->Int}
  (rule:∀(i:Int)(t:Tok)(s:Shared)(Q:Value->Shared->Prop)(E:Value->Shared->Prop),Q (.int (g i) s.toks) { s with toks:=s.toks+1 }->wpAny (model X.prog X.w) X.A (f (.int i t)) Q E s) :
  UnR X f (rU fun i=>.int (g i)):=by
 intro pins s zzs H x v Q I rx h;obtain⟨i,rfl,q⟩:=h;obtain⟨t,rfl⟩:=rx;exact rule i t s _ _ ⟨.int (g i),H,I.tok _,⟨_,rfl⟩,q⟩
theorem wH:UnR X (unaryOp .USub) (rU fun i=>.int (-i)):=unI fun _ _ _ _ _ q=>neg_int q
end
def a2y:V->V->Bool
 |.non,.non=>true|.non,.int _=>true|.int _,.non=>true|.non,.bl _=>true|.bl _,.non=>true|.non,.str _=>true|.str _,.non=>true
 |.int _,.int _=>true|.bl _,.bl _=>true|.str _,.str _=>true|.byt _,.byt _=>true
 |.int _,.str _=>true|.str _,.int _=>true|.bl _,.str _=>true|.str _,.bl _=>true
 |_,_=>false
def rEq:R2:=fun x y H Q=>a2y x y=true/\Q (.bl (decide (x=y))) H
def rNe:R2:=fun x y H Q=>a2y x y=true/\Q (.bl (!decide (x=y))) H
theorem Nx{i j:Int}:decide (V.int i=V.int j)=(i==j):=by
 rw[tG];simp
theorem Rt{i j:Bool}:decide (V.bl i=V.bl j)=(i==j):=by
 rw[tG];simp
theorem Ny{i j:Str}:decide (V.str i=V.str j)=(i==j):=by
 rw[tG];simp
theorem Nv{i j:Array UInt8}:decide (V.byt i=V.byt j)=(i.toList==j.toList):=by
 rw[tG];cases i;cases j;simp
section
variable{X:Cx}{a b c:Expr}{ta tb tc:TE}{pos:Pos}
theorem bZ{pins:List (Addr×Obj)}{zzs:St}{H:Hp}{s:Shared}{Q:VK}{k k':Bool}(I:Inv X pins zzs H s)(q:Q (.bl k) H)(e:k=k'):EP X pins zzs Q (.bool k') s:=by
 subst e;exact⟨.bl k,H,I,rfl,q⟩
theorem nG:OpR X (compareOp .Eq) rEq:=by
 intro pins s zzs H x y v u Q I rx ry h;obtain⟨hs,q⟩:=h;cases x with
 |non=>
  cases rx;cases y with
  |non=>cases ry;exact PySem.EqNone.eq_none_none (bZ I q (by simp))
  |bl j=>cases ry;exact PySem.EqNone.eq_none_bool (bZ I q (by simp))
  |int j=>obtain⟨t',rfl⟩:=ry;exact PySem.EqNone.eq_none_int (bZ I q (by simp))
  |str j=>obtain⟨t',rfl⟩:=ry;exact PySem.EqNone.eq_none_str (bZ I q (by simp))
  |_=>exact absurd (show false=true from hs) fG
 |bl i=>
  cases rx;cases y with
  |non=>cases ry;exact PySem.EqNone.eq_bool_none (bZ I q (by simp))
  |bl j=>cases ry;exact eq_bool (bZ I q Rt)
  |str j=>obtain⟨t',rfl⟩:=ry;exact PySem.EqMixed.eq_bool_str (bZ I q (by simp))
  |_=>exact absurd (show false=true from hs) fG
 |int i=>
  obtain⟨t,rfl⟩:=rx;cases y with
  |non=>cases ry;exact PySem.EqNone.eq_int_none (bZ I q (by simp))
  |int j=>obtain⟨t',rfl⟩:=ry;exact eq_int (bZ I q Nx)
  |str j=>obtain⟨t',rfl⟩:=ry;exact PySem.EqMixed.eq_int_str (bZ I q (by simp))
  |_=>exact absurd (show false=true from hs) fG
 |str i=>
  obtain⟨t,rfl⟩:=rx;cases y with
  |non=>cases ry;exact PySem.EqNone.eq_str_none (bZ I q (by simp))
  |bl j=>cases ry;exact PySem.EqMixed.eq_str_bool (bZ I q (by simp))
  |int j=>obtain⟨t',rfl⟩:=ry;exact PySem.EqMixed.eq_str_int (bZ I q (by simp))
  |str j=>obtain⟨t',rfl⟩:=ry;exact eq_str (bZ I q Ny)
  |_=>exact absurd (show false=true from hs) fG
 |byt i=>
  obtain⟨t,rfl⟩:=rx;cases y with
  |byt j=>obtain⟨t',rfl⟩:=ry;exact PySem.W.eq_bytes (bZ I q Nv)
  |_=>exact absurd (show false=true from hs) fG
 |_=>cases y<;>exact absurd (show false=true from hs) fG
theorem DN:OpR X (compareOp .NotEq) rNe:=by
 intro pins s zzs H x y v u Q I rx ry h;obtain⟨hs,q⟩:=h;cases x with
 |non=>
  cases rx;cases y with
  |non=>cases ry;exact PySem.EqNone.ne_none_none (bZ I q (by simp))
  |bl j=>cases ry;exact PySem.EqNone.ne_none_bool (bZ I q (by simp))
  |int j=>obtain⟨t',rfl⟩:=ry;exact PySem.EqNone.ne_none_int (bZ I q (by simp))
  |str j=>obtain⟨t',rfl⟩:=ry;exact PySem.EqNone.ne_none_str (bZ I q (by simp))
  |_=>exact absurd (show false=true from hs) fG
 |bl i=>
  cases rx;cases y with
  |non=>cases ry;exact PySem.EqNone.ne_bool_none (bZ I q (by simp))
  |bl j=>cases ry;exact ne_bool (bZ I q (congrArg not Rt))
  |str j=>obtain⟨t',rfl⟩:=ry;exact PySem.EqMixed.ne_bool_str (bZ I q (by simp))
  |_=>exact absurd (show false=true from hs) fG
 |int i=>
  obtain⟨t,rfl⟩:=rx;cases y with
  |non=>cases ry;exact PySem.EqNone.ne_int_none (bZ I q (by simp))
  |int j=>obtain⟨t',rfl⟩:=ry;exact ne_int (bZ I q (congrArg not Nx))
  |str j=>obtain⟨t',rfl⟩:=ry;exact PySem.EqMixed.ne_int_str (bZ I q (by simp))
  |_=>exact absurd (show false=true from hs) fG
 |str i=>
  obtain⟨t,rfl⟩:=rx;cases y with
  |non=>cases ry;exact PySem.EqNone.ne_str_none (bZ I q (by simp))
  |bl j=>cases ry;exact PySem.EqMixed.ne_str_bool (bZ I q (by simp))
  |int j=>obtain⟨t',rfl⟩:=ry;exact PySem.EqMixed.ne_str_int (bZ I q (by simp))
  |str j=>obtain⟨t',rfl⟩:=ry;exact ne_str (bZ I q (congrArg not Ny))
  |_=>exact absurd (show false=true from hs) fG
 |byt i=>
  obtain⟨t,rfl⟩:=rx;cases y with
  |byt j=>obtain⟨t',rfl⟩:=ry;exact PySem.W.ne_bytes (bZ I q (congrArg not Nv))
  |_=>exact absurd (show false=true from hs) fG
 |_=>cases y<;>exact absurd (show false=true from hs) fG
theorem DK:OpR X (compareOp .Lt) (rI0 fun i j=>.bl (decide (i<j))):=a0i fun _ _ _ _ _ _ _ q=>lt_int q
theorem rM:OpR X (compareOp .LtE) (rI0 fun i j=>.bl (decide (i<=j))):=a0i fun _ _ _ _ _ _ _ q=>le_int q
theorem Jg:OpR X (compareOp .Gt) (rI0 fun i j=>.bl (decide (j<i))):=a0i fun _ _ _ _ _ _ _ q=>gt_int q
theorem eX:OpR X (compareOp .In) (fun x y H Q=>∃ i j,x=.str i/\y=.str j/\Q (.bl (!(Builtin.Str.occurrences j i 0 j.length 1).isEmpty)) H):=by
 intro pins s zzs H x y v u Q I rx ry h;obtain⟨i,j,rfl,rfl,q⟩:=h;obtain⟨t,rfl⟩:=rx;obtain⟨t',rfl⟩:=ry;exact in_str (bZ I q rfl)
theorem vW:OpR X (compareOp .Is) (fun x y H Q=>y=.non/\Q (.bl (decide (x=.non))) H):=by
 intro pins s zzs H x y v u Q I rx ry h;obtain⟨rfl,q⟩:=h;cases ry;refine is_none_gen (bZ I q ?_);cases x<;>first
  |(cases rx;rfl)
  |(obtain⟨t,rfl⟩:=rx;rfl)
theorem gn:OpR X (compareOp .NotIn) (fun x y H Q=>∃ i j,x=.str i/\y=.str j/\Q (.bl (!(!(Builtin.Str.occurrences j i 0 j.length 1).isEmpty))) H):=by
 intro pins s zzs H x y v u Q I rx ry h;obtain⟨i,j,rfl,rfl,q⟩:=h;obtain⟨t,rfl⟩:=rx;obtain⟨t',rfl⟩:=ry;exact notIn_str (bZ I q rfl)
theorem OpR.or{f:Value->Value->Sem Value}{r r':R2}(h:OpR X f r)(h':OpR X f r'):OpR X f (fun x y H Q=>r x y H Q\/r' x y H Q):=by
 intro pins s zzs H x y v u Q I rx ry q;rcases q with q|q
 ·exact h pins s zzs H x y v u Q I rx ry q
 ·exact h' pins s zzs H x y v u Q I rx ry q
theorem bW(b:Expr){op:CmpOp}(h:op≠.In:=by decide)(h2:op≠.NotIn:=by decide):behindInMarks op b=false:=by
 have e1:(op==CmpOp.In)=false:=by cases op<;>first|rfl|exact absurd rfl h
 have e2:(op==CmpOp.NotIn)=false:=by cases op<;>first|rfl|exact absurd rfl h2
 cases b<;>simp[behindInMarks,e1,e2]
theorem Xm{op:CmpOp}{r:R2}(ho:OpR X (compareOp op) r)(ha:PE X a ta)(hb:PE X b tb)(hm:behindInMarks op b=false):PE X (.Compare a [op] [b] pos) (tOp r ta tb):=by
 intro pins s zzs H Q I h;exact wpAny_Compare1 (Zh ha hb I h fun v u s2 x y H2 I2 rx ry q=>ho pins s2 zzs H2 x y v u Q I2 rx ry q) hm
def P0(t:TE):TT:=fun zzs H Q=>t zzs H fun x H'=>∃ k,x=.bl k/\Q k H'
theorem XS{op:CmpOp}{r:R2}(ho:OpR X (compareOp op) r)(ha:PE X a ta)(hb:PE X b tb)(hm:behindInMarks op b=false):PT X (.Compare a [op] [b] pos) (P0 (tOp r ta tb)):=by
 intro pins s zzs H Q I h;refine wpAny_isTrue_Compare1 (thn (ha pins s zzs H _ I h) fun v s1 ⟨x,H1,I1,r1,q1⟩=>thn (hb pins s1 zzs H1 _ I1 q1) fun u s2 ⟨y,H2,I2,r2,q2⟩=>
  thn (ho pins s2 zzs H2 x y v u _ I2 r1 r2 q2) fun c s3 ⟨z,H3,I3,r3,k,e,q3⟩=>?_) hm
 subst e;cases r3;exact uR ⟨H3,I3,q3⟩
def Gm(r r':R2)(ta tb tc:TE):TE:=fun zzs H Q=>ta zzs H fun x H1=>tb zzs H1 fun y H2=>r x y H2 fun z H3=>∃ k,z=.bl k /\
 (if k=true then tc zzs H3 fun w' H4=>r' y w' H4 Q else Q (.bl false) H3)
theorem Tn{op op':CmpOp}{r r':R2}(ho:OpR X (compareOp op) r)(ho':OpR X (compareOp op') r')(ha:PE X a ta)(hb:PE X b tb)(hc:PE X c tc)
  (hm:lastMarks [op,op'] [b,c]=false:=by with_unfolding_all rfl):PE X (.Compare a [op,op'] [b,c] pos) (Gm r r' ta tb tc):=by
 intro pins s zzs H Q I h;refine Compare_chain (thn (ha pins s zzs H _ I h) fun v s1 ⟨x,H1,I1,r1,q1⟩=>chain_link (thn (hb pins s1 zzs H1 _ I1 q1) fun u s2 ⟨y,H2,I2,r2,q2⟩=>
  thn (ho pins s2 zzs H2 x y v u _ I2 r1 r2 q2) fun d s3 ⟨z,H3,I3,r3,k,e,q3⟩=>?_)) hm
 subst e;cases r3;refine uR ?_;cases k with
 |false=>exact ite_ff ⟨.bl false,H3,I3,rfl,q3⟩
 |true=>exact ite_tt (chain_last (thn (hc pins s3 zzs H3 _ I3 q3) fun w' s4 ⟨z',H4,I4,r4,q4⟩=>ho' pins s4 zzs H4 y z' u w' Q I4 r2 r4 q4))
theorem TX{op op':CmpOp}{r r':R2}(ho:OpR X (compareOp op) r)(ho':OpR X (compareOp op') r')(ha:PE X a ta)(hb:PE X b tb)(hc:PE X c tc)
  (hm:lastMarks [op,op'] [b,c]=false:=by with_unfolding_all rfl):PT X (.Compare a [op,op'] [b,c] pos) (P0 (Gm r r' ta tb tc)):=by
 intro pins s zzs H Q I h;refine isTrue_chain (thn (ha pins s zzs H _ I h) fun v s1 ⟨x,H1,I1,r1,q1⟩=>test_link (thn (hb pins s1 zzs H1 _ I1 q1) fun u s2 ⟨y,H2,I2,r2,q2⟩=>
  thn (ho pins s2 zzs H2 x y v u _ I2 r1 r2 q2) fun d s3 ⟨z,H3,I3,r3,k,e,q3⟩=>?_)) hm
 subst e;cases r3;refine uR ?_;cases k with
 |false=>
  obtain⟨k',e',q'⟩:=q3;cases e';exact ite_ff ⟨H3,I3,q'⟩
 |true=>
  refine ite_tt (test_last (thn (hc pins s3 zzs H3 _ I3 q3) fun w' s4 ⟨z',H4,I4,r4,q4⟩=>thn (ho' pins s4 zzs H4 y z' u w' _ I4 r2 r4 q4) fun d' s5 zzy=>?_));obtain⟨z2,H5,I5,r5,k2,e2,q5⟩:=zzy;subst e2;cases r5;exact uR ⟨H5,I5,q5⟩
theorem zK:(sizeLine:Nat)<2^63:=by rw[qN];decide
theorem KQ:OpR X (binaryOp .Add) (fun x y H Q=>∃ i j,x=.str i/\y=.str j/\i.length+j.length<=sizeLine/\Q (.str (i++j)) H):=by
 intro pins s zzs H x y v u Q I rx ry h;obtain⟨i,j,rfl,rfl,hz,q⟩:=h;obtain⟨t,rfl⟩:=rx;obtain⟨t',rfl⟩:=ry;exact add_str (fun t' tk=>⟨.str (i++j),H,I.tok _,⟨_,rfl⟩,q⟩) hz
theorem vals1{x:V}{us:List Value}(r:Vals [x] us):∃ u,us=[u]/\RelV x u:=by
 cases r with
 |cons r1 r2=>cases r2;exact⟨_,rfl,r1⟩
theorem vals2{x y:V}{us:List Value}(r:Vals [x,y] us):∃ u w',us=[u,w']/\RelV x u/\RelV y w':=by
 cases r with
 |cons r1 r2=>
  cases r2 with
  |cons r3 r4=>cases r4;exact⟨_,_,rfl,r1,r3⟩
theorem CJ(hc:X.calm=true):dZ X (.builtin "max") (fun xs H Q=>∃ i j,xs=[.int i,.int j]/\Q (.int (if j>i then j else i)) H):=by
 intro pins s zzs H xs us Q I r h;obtain⟨i,j,rfl,q⟩:=h;obtain⟨u,w',rfl,⟨t,rfl⟩,⟨t',rfl⟩⟩:=vals2 r;refine max_two_ints (I.ok.hd hc) fun h' tk k=>⟨_,H,I.kept k,?_,q⟩
 by_cases hj:j>i
 ·rw[aL hj,aL hj];exact⟨_,rfl⟩
 ·rw[aJ hj,aJ hj];exact⟨_,rfl⟩
theorem vC(hc:X.calm=true):dZ X (.builtin "min") (fun xs H Q=>∃ i j,xs=[.int i,.int j]/\Q (.int (if j<i then j else i)) H):=by
 intro pins s zzs H xs us Q I r h;obtain⟨i,j,rfl,q⟩:=h;obtain⟨u,w',rfl,⟨t,rfl⟩,⟨t',rfl⟩⟩:=vals2 r;refine min_two_ints (I.ok.hd hc) fun h' tk k=>⟨_,H,I.kept k,?_,q⟩
 by_cases hj:j<i
 ·rw[aL hj,aL hj];exact⟨_,rfl⟩
 ·rw[aJ hj,aJ hj];exact⟨_,rfl⟩
theorem Pj:dZ X (.type "int") (fun xs H Q=>(∃ i,xs=[.int i]/\Q (.int i) H)\/∃ k,xs=[.bl k]/\Q (.int (if k then 1 else 0)) H):=by
 intro pins s zzs H xs us Q I r h;rcases h with⟨i,rfl,q⟩|⟨k,rfl,q⟩
 ·obtain⟨u,rfl,t,rfl⟩:=vals1 r;exact call_int_int ⟨.int i,H,I,⟨_,rfl⟩,q⟩
 ·obtain⟨u,rfl,r1⟩:=vals1 r;cases r1;exact call_int_bool ⟨.int (if k then 1 else 0),H,I.tok _,⟨_,rfl⟩,q⟩
theorem Fb:dZ X (.type "str") (fun xs H Q=>∃ i,xs=[.int i]/\i.natAbs.log2<1920/\Q (.str (toString i)) H):=by
 intro pins s zzs H xs us Q I r h;obtain⟨i,rfl,hz,q⟩:=h;obtain⟨u,rfl,t,rfl⟩:=vals1 r;exact PySem.P.str_of_int hz ⟨.str _,H,I.tok _,⟨_,rfl⟩,q⟩
end
structure Ph(h:Heap)(x dx C:Addr)(mA:Str->Option Value):Prop where
 obj:h.get? x=some (PySem.W.instObj C dx)
 ns:h.Ns1 dx mA
 ne:dx≠x
theorem Qn{h:Heap}{dx:Addr}{mA:Str->Option Value}(n:h.Ns1 dx mA):∃ od,h.get? dx=some od/\∀ name,PySem.W.lookIn name od=some (mA name):=by
 obtain⟨o,es,ep,ho,hd,hk,_,hm⟩:=n;refine⟨o,ho,fun name=>?_⟩;have e:=hm name;unfold nsFind findBy at e;rw[<- Array.find?_toList] at e;unfold PySem.W.lookIn;rw[hd];dsimp only;split
 ·rename_i y q;rw[q] at e;exact congrArg some e
 ·rename_i q;rw[q] at e;have a:es.toList.any (·.refKey)=false:=by
   rw[List.any_eq_false];intro y hy;obtain⟨z,t,hkey⟩:=hk y (Array.mem_toList_iff.mp hy);simp[DictEntry.refKey,hkey]
  have a':¬es.toList.any (·.refKey)=true:=by rw[a];exact fG
  rw[aJ a'];exact congrArg some e
theorem Ph.look{h:Heap}{x dx C:Addr}{mA:Str->Option Value}(I:Ph h x dx C mA):∃ od,PySem.W.InstAt h x (PySem.W.instObj C dx) C (some od)/\∀ name,PySem.W.lookIn name od=some (mA name):=
 let ⟨od,ho,hl⟩:=Qn I.ns
 ⟨od,⟨I.obj,rfl,rfl,ho⟩,hl⟩
section
variable{prog:Program}{w:World}{A:Around}{E:Value->Shared->Prop}{s:Shared}{K:ao}{x dx C f:Addr}{mA:Str->Option Value}{name:Str}{v:Value}
theorem get_map{expr:Bool}{Q:Value->Shared->Prop}(X:K.In s.heap)(I:Ph s.heap x dx C mA)(hg:PySem.W.plainGet K C name=true)(hh:PySem.W.hasDictIn K C=true)
  (ha:PySem.W.findIn K (.ref C) name=some none) (hv:mA name=some v) (hv':PySem.W.handedIn v=true) (h:Q v { s with toks:=s.toks+1 }) :
  wpAny (model prog w) A (getAttr (.ref x) name expr) Q E s:=by
 obtain⟨od,J,hl⟩:=I.look;exact PySem.W.get_value X J (PySem.W.plainGet_of hg).1 (PySem.W.findObj_own hh ha rfl (by rw[hl,hv])) hv' h
theorem Yq{ns:List Str}{Q:Unit->Shared->Prop}(X:K.In s.heap)(I:Ph s.heap x dx C mA)
  (hs:PySem.W.findIn K (.ref C) "__setattr__" = some (some (.builtin "object.__setattr__"))) (hp:PySem.W.plainOver K C=true) (ht:PySem.W.takerIn K C name=some none) (hh:PySem.W.hasDictIn K C=true)
  (hw:PySem.Within mA ns) (hsz:ns.length<=sizeLine)
  (h:∀ h',Ph h' x dx C (fun y=>if y=name then some v else mA y)->Heap.SameBut dx s.heap h'->Q () { s with heap:=h',toks:=s.toks+2 }) :
  wpAny (model prog w) A (setAttr (.ref x) name v) Q E s:=by
 obtain⟨od,J,hl⟩:=I.look;refine PySem.W.set_plain X J hs (PySem.W.osa_open (s:={ s with toks:=s.toks+1 }) (r:=none) X J hp ht fun b=>?_);obtain⟨cd,hc,hd'⟩:=PySem.W.any_some hh;have hx:s.heap.get? x=some ⟨.ref C,some dx,.plain,#[]⟩:=I.obj;refine bQ (cQ (bQ (bQ (wpAny_loadPart hx (bQ (PySem.W.Looks.here (s:={ s with toks:=s.toks+1 }) (PySem.W.looks_clsIn X hc) ?_))))));rw[hd'];refine cQ (a:=some dx) (bQ (cQ (bQ ?_)));refine wpAny_nsSet1 (s:={ s with toks:=s.toks+1 }) I.ns fun h' hn2 hs2=>?_
 obtain⟨oD,esD,epD,hoD,hdD,hcD⟩:=hn2.count (PySem.Within.cons name v hw);refine bQ (wpAny_lookBehind hoD (by rw[hdD];exact pastItsLine_dict (cP hcD (by rw[gP];lia))) ?_);exact cQ (h _ ⟨(hs2.2 _ (lM I.ne)).trans I.obj,hn2,I.ne⟩ hs2)
theorem Sv{R:Result->Shared->Prop}{vs:List Value}{kw:List (Str×Value)}(X:K.In s.heap)(hm:PySem.W.makesIn K C=true)
  (hi:PySem.W.findIn K (.ref C) "__init__" = some (some (.ref f))) (hf:PySem.W.typeIn K (.ref f)=some (.type "function"))
  (h:codeAny (model prog w) (A.under (.builtin "type.__call__" ⟨.ref C::vs,kw⟩)) (.call (.ref f) ⟨.ref (s.heap.objs.size+1)::vs,kw⟩) (PySem.W.InitBack (s.heap.objs.size+1) R)
   { s with heap:=(s.heap.push PySem.W.emptyDict).push (PySem.W.instObj C s.heap.objs.size) }) :
  codeAny (model prog w) A (.call (.ref C) ⟨vs,kw⟩) R s:=by
 obtain⟨hh,g,d,t,os⟩:=s;exact PySem.W.make_core (PySem.W.makes_of X hm) (PySem.W.looks_findIn X hi) (fun self=>PySem.W.bind_fn X self hf) (.inl rfl) h
end
def jB(f:Str)(v:V):List (Str×V)->List (Str×V)
 |[]=>[(f,v)]
 |(g,x)::r=>if g=f then(g,v)::r else(g,x)::jB f v r
theorem fZ(f g:Str)(v:V):∀ fs:List (Str×V),(jB f v fs).lookup g=if g=f then some v else fs.lookup g
 |[]=>by
  show List.lookup g [(f,v)]=_;by_cases h:g=f
  ·have hb:(g==f)=true:=jR.mpr h;simp only[List.lookup,hb,aL h]
  ·have hb:(g==f)=false:=mz.mpr h;simp only[List.lookup,hb,aJ h]
 |(k,x)::r=>by
  have ih:=fZ f g v r;rw[show jB f v ((k,x)::r)=(if k=f then(k,v)::r else(k,x)::jB f v r) from rfl];by_cases hk:k=f
  ·rw[aL hk];by_cases h:g=k
   ·have hb:(g==k)=true:=jR.mpr h;simp only[List.lookup,hb,aL (h.trans hk)]
   ·have hb:(g==k)=false:=mz.mpr h;simp only[List.lookup,hb,aJ (fun e:g=f=>h (e.trans hk.symm))]
  ·rw[aJ hk];by_cases h:g=k
   ·have hb:(g==k)=true:=jR.mpr h;simp only[List.lookup,hb,aJ (fun e:g=f=>hk (h.symm.trans e))]
   ·have hb:(g==k)=false:=mz.mpr h;simp only[List.lookup,hb];exact ih
theorem vQ(f:Str)(v:V):∀ fs:List (Str×V),f∈(jB f v fs).map (·.1)/\∀ g,g∈fs.map (·.1)->g∈(jB f v fs).map (·.1)
 |[]=>⟨by simp[jB],fun g h=>by simp at h⟩
 |(k,x)::r=>by
  obtain⟨i1,i2⟩:=vQ f v r;rw[show jB f v ((k,x)::r)=(if k=f then(k,v)::r else(k,x)::jB f v r) from rfl];by_cases hk:k=f
  ·rw[aL hk];subst hk;exact⟨by simp,fun g h=>by simpa using h⟩
  ·rw[aJ hk];refine⟨?_,fun g h=>?_⟩
   ·rw[fH];exact fK _ i1
   ·rw[fH] at h ⊢;rcases cO.mp h with e|e
    ·exact cO.mpr (.inl e)
    ·exact fK _ (i2 g e)
theorem lY(f:Str)(v:V):∀ fs:List (Str×V),(jB f v fs).length<=fs.length+1
 |[]=>by simp[jB]
 |(k,x)::r=>by
  have ih:=lY f v r;rw[show jB f v ((k,x)::r)=(if k=f then(k,v)::r else(k,x)::jB f v r) from rfl];by_cases hk:k=f
  ·rw[aL hk,gP,gP];lia
  ·rw[aJ hk,gP,gP];lia
theorem yO.some_of{v:V}{o:Option Value}(r:yO (some v) o):∃ u,o=some u/\RelV v u:=by
 cases o with
 |none=>exact(show False from r).elim
 |some u=>exact⟨u,rfl,r⟩
theorem Q9{v:V}{u:Value}(r:RelV v u):PySem.W.handedIn u=true:=by
 cases v with
 |non=>cases (show u=Value.none from r);rfl
 |bl b=>cases (show u=Value.bool b from r);rfl
 |int i=>obtain⟨t,e⟩:=(show ∃ t,u=Value.int i t from r);cases e;rfl
 |str x=>obtain⟨t,e⟩:=(show ∃ t,u=Value.str x t from r);cases e;rfl
 |byt b=>obtain⟨t,e⟩:=(show ∃ t,u=Value.bytes b t from r);cases e;rfl
 |flt b=>obtain⟨t,e⟩:=(show ∃ t,u=Value.float b t from r);cases e;rfl
 |ref a=>cases (show u=Value.ref a from r);rfl
 |ty n=>cases (show u=Value.type n from r);rfl
section
variable{P:Program}{w:World}{H H':Hp}{h h':Heap}{a C dx:Addr}{fs fs':List (Str×V)}
theorem FJ(hok:HOk P w H h)(e:H a=some (.ins C dx fs)):∃ mA,Ph h a dx C mA/\(∀ f,yO (fs.lookup f) (mA f))/\PySem.Within mA (fs.map (·.1))/\fs.length<=1000/\H dx=some (.own a):=by
 obtain⟨d,z,ne,ob,mA,n,r,q⟩:=(show eU P w H h a (.ins C dx fs) from hok a _ e)
 exact⟨mA,⟨ob,n,ne⟩,r,q,z,d⟩
end
structure Cls(K:ao)(C:Addr):Prop where
 pg:PySem.W.plainGet K C Str.empty=true
 hd:PySem.W.hasDictIn K C=true
 po:PySem.W.plainOver K C=true
 sa:PySem.W.findIn K (.ref C) "__setattr__" = some (some (.builtin "object.__setattr__"))
theorem Cls.get{K:ao}{C:Addr}(c:Cls K C)(f:Str):PySem.W.plainGet K C f=true:=c.pg
def nZ(K:ao)(C:Addr)(f:Str):Prop:=PySem.W.findIn K (.ref C) f=some none
theorem nZ.taker{K:ao}{C:Addr}{f:Str}(n:nZ K C f):PySem.W.takerIn K C f=some none:=by
 unfold PySem.W.takerIn;rw[show PySem.W.findIn K (.ref C) f=some none from n];rfl
section
variable{X:Cx}{pins:List (Addr×Obj)}{zzs:St}{H:Hp}{s:Shared}{a C dx:Addr}{fs:List (Str×V)}{f:Str}{v:V}{A:Around}{E:Value->Shared->Prop}
theorem Kq{b:Bool}{Q:Value->Shared->Prop}(I:Inv X pins zzs H s)(e:H a=some (.ins C dx fs))(c:Cls X.K C)(n:nZ X.K C f)(l:fs.lookup f=some v)
  (h:∀ u s',Inv X pins zzs H s'->RelV v u->Q u s'):wpAny (model X.prog X.w) A (getAttr (.ref a) f b) Q E s:=by
 obtain⟨mA,O,r,_,_,_⟩:=FJ I.hok e;obtain⟨u,hu,ru⟩:=yO.some_of (v:=v) (o:=mA f) (by rw[<- l];exact r f);exact get_map I.kIn O (c.get f) c.hd n hu (Q9 ru) (h u _ (I.tok _) ru)
theorem Lq{y:V}{u:Value}{Q:Unit->Shared->Prop}(I:Inv X pins zzs H s)(e:H a=some (.ins C dx fs))(c:Cls X.K C)(n:nZ X.K C f)(hl:fs.length<1000)(ry:RelV y u)
  (h:∀ s',Inv X pins zzs (upd H a (.ins C dx (jB f y fs))) s'->Q () s'):wpAny (model X.prog X.w) A (setAttr (.ref a) f u) Q E s:=by
 obtain⟨mA,O,r,wi,_,ho⟩:=FJ I.hok e;have hz:(fs.map (·.1)).length<=sizeLine:=by rw[aV,qN];lia
 refine Yq I.kIn O c.sa c.po n.taker c.hd wi hz fun h' O' sb=>h _ ?_
 have hd:∃ o,h'.get? dx=some o:=let ⟨o,_,_,e',_⟩:=O'.ns;⟨o,e'⟩;refine I.write (x:=a) (e:=dx) (by rw[e];exact True.intro) (.inr ho) (fun b q hb z=>(sb.2 b hb).trans z) hd ?_;refine⟨by rw[bF O.ne];exact ho,?_,O.ne,O'.obj,_,O'.ns,fun g=>?_,fun g hg=>?_⟩
 ·have:=lY f y fs;lia
 ·show yO ((jB f y fs).lookup g) (if g=f then some u else mA g);rw[fZ];by_cases q:g=f
  ·rw[aL q,aL q];exact ry
  ·rw[aJ q,aJ q];exact r g
 ·by_cases q:g=f
  ·rw[q];exact(vQ f y fs).1
  ·refine(vQ f y fs).2 g (wi g fun z=>hg ?_);show(if g=f then some u else mA g)=none;rw[aJ q];exact z
theorem Inv.made(I:Inv X pins zzs H s):Inv X pins zzs (upd (upd H s.heap.objs.size (.own (s.heap.objs.size+1))) (s.heap.objs.size+1) (.ins C s.heap.objs.size []))
  { s with heap:=(s.heap.push PySem.W.emptyDict).push (PySem.W.instObj C s.heap.objs.size) }:=by
 have e1:(s.heap.push PySem.W.emptyDict).get? s.heap.objs.size=some PySem.W.emptyDict:=iR s.heap rfl;have e2:((s.heap.push PySem.W.emptyDict).push (PySem.W.instObj C s.heap.objs.size)).get? (s.heap.objs.size+1)=some (PySem.W.instObj C s.heap.objs.size):=by
  have:=iR (s.heap.push PySem.W.emptyDict) (o:=PySem.W.instObj C s.heap.objs.size) rfl;rwa[Heap.size_push] at this
 have e3:(s.heap.push PySem.W.emptyDict).Ns s.heap.objs.size (fun _=>none):=⟨PySem.W.emptyDict,#[],_,e1,rfl,(fun e he=>absurd he (by simp)),fun _=>rfl⟩
 have I1:=I.laid (a:=s.heap.objs.size) (o:=.own (s.heap.objs.size+1)) (h':=s.heap.push PySem.W.emptyDict) (t':=s.toks) (fun b u q=>gY _ q) (bK _) ⟨_,e1⟩;refine I1.laid (a:=s.heap.objs.size+1) (o:=.ins C s.heap.objs.size []) (t':=s.toks) (fun b u q=>gY _ q) (Nat.le_of_eq (Heap.size_push _ _)) ?_;have ne:s.heap.objs.size≠s.heap.objs.size+1:=fW (Nat.lt_succ_self _);refine⟨by rw[bF ne,aD],jj _,ne,e2,fun _=>none,(Heap.Ns1.of_empty e3).at fun o q=>gY _ q,fun _=>True.intro,fun y hy=>absurd rfl hy⟩
theorem W7{prog:Program}{w:World}{env:Env}{e:Expr}{f:Str}{pos:Pos}{s:Shared}{Q:Value->Shared->Prop}(hb:attributeBase e f env (eval e env)=eval e env)
  (h:wpAny (model prog w) A (eval e env) (fun o s₁=>wpAny (model prog w) A (getAttr o f true) Q E s₁) E s):wpAny (model prog w) A (eval (.Attribute e f pos) env) Q E s:=
 Attribute_any_ h (by rw[arm_eval_Attribute,hb])
end
def a1i(K:ao)(ta:TE)(f:Str):TE:=fun zzs H Q=>ta zzs H fun x H1=>∃ a C dx fs v,x=.ref a/\H1 a=some (.ins C dx fs)/\Cls K C/\nZ K C f/\fs.lookup f=some v/\Q v H1
def a2x(K:ao)(ta tv:TE)(f:Str):TS:=fun D zzs H=>tv zzs H fun y H1=>ta zzs H1 fun x H2=>∃ a C dx fs,x=.ref a/\H2 a=some (.ins C dx fs)/\Cls K C/\nZ K C f/\fs.length<1000 /\
 D.nx zzs (upd H2 a (.ins C dx (jB f y fs)))
section
variable{X:Cx}{o e value:Expr}{f:Str}{pos pos' tpos:Pos}{ta tv:TE}
theorem a0w(he:PE X e ta)(hb:attributeBase e f X.env (eval e X.env)=eval e X.env):PE X (.Attribute e f pos) (a1i X.K ta f):=by
 intro pins s zzs H Q I h;refine W7 hb (thn (he pins s zzs H _ I h) fun u s1 zzy=>?_);obtain⟨x,H1,I1,rx,a,C,dx,fs,v,ex,ea,c,n,l,q⟩:=zzy;subst ex;obtain rfl:u=Value.ref a:=rx;exact Kq I1 ea c n l fun u' s2 I2 ru=>⟨v,H1,I2,ru,q⟩
theorem a0M(ha:PE X o ta)(hv:PE X value tv)(hs:swapsWith value (some (.Attribute o f pos')) pos.line X.env=pure false):PS X (.Assign [.Attribute o f pos'] value pos) (a2x X.K ta tv f):=by
 intro pins s zzs H D I h;refine plainObj_wpAny_Assign_Attribute (thn (hv pins s zzs H _ I h) fun u s1 ⟨y,H1,I1,ry,q⟩=>thn (ha pins s1 zzs H1 _ I1 q) fun ov s2 zzy=>?_) hs;obtain⟨x,H2,I2,rx,a,C,dx,fs,ex,ea,c,n,l,q2⟩:=zzy;subst ex;obtain rfl:ov=Value.ref a:=rx;exact Lq I2 ea c n l ry fun s3 I3=>⟨zzs,_,I3,q2⟩
end
section
variable{X:Cx}{pins:List (Addr×Obj)}{zzs:St}{H:Hp}{s:Shared}{A:Around}{E:Value->Shared->Prop}{Q:Value->Shared->Prop}{c:Value}{b:Bool}
inductive vh(K:ao)(H:Hp):V->Value->Prop where
 |non:vh K H .non (.type "NoneType")
 |bl (x:Bool):vh K H (.bl x) (.type "bool")
 |int (i:Int):vh K H (.int i) (.type "int")
 |str (x:Str):vh K H (.str x) (.type "str")
 |flt (x:UInt64):vh K H (.flt x) (.type "float")
 |lst {a:Addr} {xs:List V} (e:H a=some (.lst xs)):vh K H (.ref a) (.type "list")
 |frz {a:Addr} {o:Obj} {xs:List V} (e:H a=some (.frz o (.lst xs))):vh K H (.ref a) (.type "list")
 |tup {a:Addr} {xs:List V} (e:H a=some (.tup xs)):vh K H (.ref a) (.type "tuple")
 |dK {a:Addr} {kvs:List (Key×V)} (e:H a=some (.dK kvs)):vh K H (.ref a) (.type "dict")
 |dT {a:Addr} {kvs:List (List Key×V)} (e:H a=some (.dT kvs)):vh K H (.ref a) (.type "dict")
 |ins {a C dx:Addr} {fs:List (Str×V)} (e:H a=some (.ins C dx fs)) (cl:Cls K C) (ha:PySem.W.findIn K (.ref C) "__class__" = some (some (.builtin "object.__class__")))
   (hn:PySem.W.specialIn K (.builtin "object.__class__") "__get__" = some (some (.builtin "getset_descriptor.__get__"))) (htk:PySem.W.takesIn K (.builtin "object.__class__")=some true)
   (hm:PySem.W.mroIn K C (.type "object")=some true):vh K H (.ref a) (.ref C)
theorem Qe{x:V}{u t:Value}(I:Inv X pins zzs H s)(rx:RelV x u)(ty:vh X.K H x t)(e:PySem.W.kitOne X.K t c=some b)(h:∀ tk,Q (.bool b) { s with toks:=tk }) :
  wpAny (model X.prog X.w) A (call (.builtin "isinstance") [u,c]) Q E s:=by
 cases ty with
 |non=>cases (show u=Value.none from rx);exact nQ PySem.W.kitx_none I.kIn True.intro e (fun z=>nomatch z) h
 |bl y=>cases (show u=Value.bool y from rx);exact nQ PySem.W.kitx_bool I.kIn True.intro e (fun z=>nomatch z) h
 |int i=>obtain⟨t,q⟩:=(show ∃ t,u=Value.int i t from rx);cases q;exact nQ PySem.W.kitx_int I.kIn True.intro e (fun z=>nomatch z) h
 |str y=>obtain⟨t,q⟩:=(show ∃ t,u=Value.str y t from rx);cases q;exact nQ PySem.W.kitx_str I.kIn True.intro e (fun z=>nomatch z) h
 |flt y=>obtain⟨t,q⟩:=(show ∃ t,u=Value.float y t from rx);cases q;exact nQ PySem.W.kitx_float I.kIn True.intro e (fun z=>nomatch z) h
 |@lst a xs ea=>
  cases (show u=Value.ref a from rx);obtain⟨_,_,n,_,h1⟩:=(show eU X.prog X.w H s.heap a (.lst xs) from I.hok a _ ea)
  exact nQ Mw I.kIn ⟨_,h1,rfl⟩ e (fun z=>nomatch z) h
 |@frz a ob xs ea=>
  cases (show u=Value.ref a from rx);obtain⟨_,_,_,n,_,h1⟩:=(show eU X.prog X.w H s.heap a (.frz ob (.lst xs)) from I.hok a _ ea)
  exact nQ Mw I.kIn ⟨_,h1,rfl⟩ e (fun z=>nomatch z) h
 |@tup a xs ea=>
  cases (show u=Value.ref a from rx);obtain⟨_,_,_,p⟩:=(show eU X.prog X.w H s.heap a (.tup xs) from I.hok a _ ea)
  obtain⟨o,h1,h2,_⟩:=p;exact nQ VL I.kIn ⟨o,h1,h2⟩ e (fun z=>nomatch z) h
 |@dK a kvs ea=>
  cases (show u=Value.ref a from rx);obtain⟨_,_,vs,_,p⟩:=(show eU X.prog X.w H s.heap a (.dK kvs) from I.hok a _ ea)
  obtain⟨o,es,ep,h1,h2,_⟩:=p;exact nQ PySem.W.kitx_dict I.kIn ⟨o,h1,h2.1⟩ e (fun z=>nomatch z) h
 |@dT a kvs ea=>
  cases (show u=Value.ref a from rx);obtain⟨_,_,xs,_,o,es,ep,h1,h2,_⟩:=(show eU X.prog X.w H s.heap a (.dT kvs) from I.hok a _ ea)
  exact nQ PySem.W.kitx_dict I.kIn ⟨o,h1,h2.1⟩ e (fun z=>nomatch z) h
 |@ins a C dx fs ea cl ha hn htk hm=>
  cases (show u=Value.ref a from rx);obtain⟨mA,O,_⟩:=FJ I.hok ea;obtain⟨od,J,_⟩:=O.look;exact nQ (PySem.W.kitx_own (cl.get _) cl.hd ha hn htk hm) I.kIn J e (fun z=>nomatch z) h
end
structure gq(k:Nat)(A:Around):Prop where
 hd:A.handled=none
 dp:A.depth+3*k+5<recursionLimit
 un:A.units+16*k+200<cLine
theorem gq.mono{j k:Nat}{A:Around}(r:gq k A)(h:j<=k):gq j A:=⟨r.hd,by have:=r.dp;lia,by have:=r.un;lia⟩
theorem gq.deeper{k:Nat}{A:Around}(r:gq (k+1) A)(env:Env):gq k (A.deeper env):=
 ⟨r.hd,by have:=r.dp;show A.depth+1+3*k+5<_;lia,by have:=r.un;show A.units+3+16*k+200<_;lia⟩
theorem Kv{A:Around}{C:Addr}{us:List Value}{kw:List (Str×Value)}:(A.under (.builtin "type.__call__" ⟨.ref C::us,kw⟩)).depth=A.depth+1:=by
 first|rfl|simp[Around.under,Code.weight,Code.isCreation,Code.isGuard,Code.isCaller,Code.frames,Code.isFrame,guardIds]
theorem Kw{A:Around}{C:Addr}{us:List Value}{kw:List (Str×Value)}:(A.under (.builtin "type.__call__" ⟨.ref C::us,kw⟩)).units=A.units+1:=by
 first|rfl|simp[Around.under,Code.cUnits,Code.frames,Code.isFrame]
theorem gq.make{k:Nat}{A:Around}(r:gq (k+1) A)(C:Addr)(us:List Value)(kw:List (Str×Value)):gq k (A.under (.builtin "type.__call__" ⟨.ref C::us,kw⟩)):=
 ⟨r.hd,by have:=r.dp;rw[Kv];lia,by have:=r.un;rw[Kw];lia⟩
theorem gq.depth{k:Nat}{A:Around}(r:gq k A):A.depth<recursionLimit:=by have:=r.dp;lia
theorem gq.units{k:Nat}{A:Around}(r:gq k A):A.units+64<cLine:=by have:=r.un;lia
def sZ:TA:=fun _ H Q=>Q [] H
def JL(ta:TE)(tr:TA):TA:=fun zzs H Q=>ta zzs H fun x H1=>tr zzs H1 fun xs H2=>Q (x::xs) H2
section
variable{X:Cx}{e:Expr}{es:List Expr}{te:TE}{t:TA}{pos:Pos}
theorem a0s:PA X [] sZ:=fun _ _ _ _ H Q I h=>Calls.spliced_nil ⟨[],H,I,.nil,h⟩
theorem Xj(ha:PE X e te)(hr:PA X es t)(hs:starEach (e::es) X.env=(false,eval e X.env)::starEach es X.env:=by rfl):PA X (e::es) (JL te t):=by
 intro pos pins s zzs H Q I h;rw[hs];show wpAny _ _ (spliced ((false,eval e X.env)::backTo pos (starEach es X.env))) _ _ s;refine Calls.spliced_cons (thn (ha pins s zzs H _ I h) fun u s1 zzy=>?_);obtain⟨x,H1,I1,r1,q1⟩:=zzy;exact thn (hr pos pins s1 zzs H1 _ I1 q1) fun us s2 ⟨xs,H2,I2,r2,q2⟩=>⟨x::xs,H2,I2,.cons r1 r2,q2⟩
def a1m(t:TA):TE:=fun zzs H Q=>t zzs H fun xs H1=>xs.length<=sizeLine/\∀ p,H1 p=none->Q (.ref p) (upd H1 p (.tup xs))
def a1k(t:TA):TE:=fun zzs H Q=>t zzs H fun xs H1=>xs.length<=sizeLine/\∀ p,H1 p=none->Q (.ref p) (upd H1 p (.lst xs))
theorem a0D {x1} (h:PA X es t):PE X (.Tuple es x1 pos) (a1m t):=by
 intro pins s zzs H Q I hq;refine wpAny_Tuple_spliced (thn (h pos pins s zzs H _ I hq) fun us s1 ⟨xs,H1,I1,r,z,q⟩=>⟨by rw[<- r.length];exact z,?_⟩);have hf:H1 s1.heap.objs.size=none:=I1.hok.fresh (bK _);refine⟨.ref s1.heap.objs.size,upd H1 s1.heap.objs.size (.tup xs),I1.laid (t':=s1.toks) (fun b u e=>gY _ e) (bK _) ?_,rfl,q _ hf⟩;exact⟨z,us,r,⟨_,iR _ rfl,rfl,_,rfl⟩⟩
theorem a0y(h:PA X es t):PE X (.List es pos) (a1k t):=by
 intro pins s zzs H Q I hq;refine wpAny_List_spliced (thn (h pos pins s zzs H _ I hq) fun us s1 ⟨xs,H1,I1,r,z,q⟩=>⟨by rw[<- r.length];exact z,?_⟩);have hf:H1 s1.heap.objs.size=none:=I1.hok.fresh (bK _);refine⟨.ref s1.heap.objs.size,upd H1 s1.heap.objs.size (.lst xs),I1.laid (t':=s1.toks) (fun b u e=>gY _ e) (bK _) ?_,rfl,q _ hf⟩;exact⟨z,us,0,r,iR _ rfl⟩
end
abbrev Sp:=List V->Hp->VK->XK->Prop
abbrev CXT:=List Env->Hp->Shared->XK->Value->Shared->Prop
structure JW(P:Program)(w:World)(K:ao)(mg:Str->Option Value)(base:Heap)(A:Around)(outer:List Env)(s:Shared)(H:Hp):Prop where
 frames:A.frames=some outer
 mod:Mod K mg base
 bs:∀ b o,base.get? b=some o->s.heap.get? b=some o/\H b=none
 bsz:base.objs.size<=s.heap.objs.size
 uc:s.heap.FunFrames base outer
 frf:∀ b∈frs outer,H b=none
 hok:HOk P w H s.heap
 bare:AllBare s.gens
def CE(outer:List Env)(P:Program)(w:World)(H:Hp)(s:Shared)(Q:VK)(u:Value)(s':Shared):Prop:=
 ∃ v H',s'.os=s.os/\AllBare s'.gens/\Un (frs outer) [] H H' s.heap s'.heap/\HOk P w H' s'.heap/\RelV v u/\Q v H'
def CR(CX:CXT)(outer:List Env)(P:Program)(w:World)(H:Hp)(s:Shared)(Q:VK)(E:XK)(r:Result)(s':Shared):Prop:=
 match r with
 |.ok (.ret u)=>CE outer P w H s Q u s'
 |.ok _=>False
 |.error e=>CX outer H s E e s'
structure cC(P:Program)(w:World)(K:ao)(mg:Str->Option Value)(base:Heap)(CX:CXT)(k:Nat)(f:Addr)(fd:FuncData)(ps:List Str)(sp:Sp):Prop where
 len:∀ vs H Q E,sp vs H Q E->vs.length=ps.length
 run:∀(A:Around)(outer:List Env)(s:Shared)(H:Hp)(args:Args)(us:List Value)(vs:List V)(Q:VK)(E:XK),gq k A->JW P w K mg base A outer s H->BindsTo s fd args (ps.zip us)->Vals vs us->sp vs H Q E ->
  codeAny (model P w) A (.call (.ref f) args) (CR CX outer P w H s Q E) s
theorem JW.make{P:Program}{w:World}{K:ao}{mg:Str->Option Value}{base:Heap}{A:Around}{outer:List Env}{s:Shared}{H:Hp}(e:JW P w K mg base A outer s H)(C:Addr)(us:List Value)(kw:List (Str×Value)) :
  JW P w K mg base (A.under (.builtin "type.__call__" ⟨.ref C::us,kw⟩)) outer s H:=⟨by first|exact e.frames|(simpa [Around.under,Code.envs,Code.isFrame,pushEnvs] using e.frames),e.mod,e.bs,e.bsz,e.uc,e.frf,e.hok,e.bare⟩
section
variable{X:Cx}{pins:List (Addr×Obj)}{zzs:St}{H:Hp}{s s':Shared}
theorem Inv.env0(I:Inv X pins zzs H s):JW X.prog X.w X.K X.mg X.base X.A X.stack s H:=
 ⟨I.ok.frames,I.ok.mod,I.bs,cP I.ok.bsz I.sz,I.stack,I.uL,I.hok,I.bare⟩
theorem Inv.after{Q:VK}{u:Value}(I:Inv X pins zzs H s)(h:CE X.stack X.prog X.w H s Q u s'):EP X pins zzs Q u s':=by
 obtain⟨v,H',os,bare,un,hok,r,q⟩:=h;obtain⟨hh,g,d,t,os'⟩:=s';obtain rfl:os'=s.os:=os;exact⟨v,H',I.call (h':=hh) (g':=g) (d':=d) (t':=t) (ch:=[]) un hok bare (fun b z=>absurd z (by simp)),r,q⟩
end
def OD(sp:Sp)(dvs:List V)(E:XK)(t:TA):TE:=fun zzs H Q=>t zzs H fun vs H1=>sp (vs++dvs) H1 Q E
def UW(C:Addr)(sp:Sp)(dvs:List V)(E:XK)(t:TA):TE:=fun zzs H Q=>t zzs H fun vs H1=>∀ x dx,H1 x=none->H1 dx=none->dx≠x ->
 sp (.ref x::(vs++dvs)) (upd (upd H1 dx (.own x)) x (.ins C dx [])) (fun v H2=>v=.non/\Q (.ref x) H2) E
def Binds(K:ao)(fd:FuncData)(ps:List Str)(ds:List Value):Prop:=
 ∀(s:Shared)(us:List Value),K.In s.heap->(us++ds).length=ps.length->BindsTo s fd ⟨us,[]⟩ (ps.zip (us++ds))
theorem Binds.all{K:ao}{fd:FuncData}{ps:List Str}(h:∀ us:List Value,us.length=ps.length->bindArgs fd ⟨us,[]⟩=pure (ps.zip us)):Binds K fd ps []:=fun s us _ hl=>by
 rw[xW] at hl ⊢;exact .of_eq (h us hl)
def Passes(CX:CXT)(X:Cx)(E:XK):Prop:=∀(pins:List (Addr×Obj))(zzs:St)(H:Hp)(s:Shared)(e:Value)(s':Shared),Inv X pins zzs H s->CX X.stack H s E e s'->X.xe e s'
section
variable{X:Cx}{CX:CXT}{k:Nat}{f C:Addr}{fd:FuncData}{ps:List Str}{sp:Sp}{dvs:List V}{ds:List Value}{E:XK}{x m:Str}{p pos apos:Pos}{e o:Expr}{es:List Expr}{ta:TE}{t:TA}
theorem a1c{pins:List (Addr×Obj)}{zzs:St}{H:Hp}{s:Shared}{Q:VK}{us:List Value}{vs:List V}(F:cC X.prog X.w X.K X.mg X.base CX k f fd ps sp)(hr:gq k X.A)(hb:Binds X.K fd ps ds)(hd:Vals dvs ds)(hx:Passes CX X E)
  (I:Inv X pins zzs H s) (r:Vals vs us) (h:sp (vs++dvs) H Q E):wpAny (model X.prog X.w) X.A (call (.ref f) us) (EP X pins zzs Q) X.xe s:=by
 have r2:Vals (vs++dvs) (us++ds):=r.append hd;have hl:(us++ds).length=ps.length:=by rw[<- r2.length];exact F.len _ _ _ _ h
 refine wpAny_call (wR (F.run X.A X.stack s H ⟨us,[]⟩ (us++ds) (vs++dvs) Q E hr I.env0 (hb s us I.kIn hl) r2 h) fun r s' hq=>?_);cases r with
 |error e=>exact hx pins zzs H s e s' I hq
 |ok fl=>
  cases fl with
  |ret u=>exact I.after hq
  |next=>exact False.elim hq
  |brk=>exact False.elim hq
  |cont=>exact False.elim hq
theorem Xl(F:cC X.prog X.w X.K X.mg X.base CX k f fd ps sp)(hr:gq k X.A)(hg:Gl X x)(hm:X.mg x=some (.ref f))(hk:PySem.W.keepIn X.K (.ref f)=true)(hb:Binds X.K fd ps ds)(hd:Vals dvs ds)(hx:Passes CX X E)
  (ha:PA X (e::es) t) (hdb:(x==("__debug__" : Str))=false:=by decide) (he:starEach (e::es) X.env=(false,eval e X.env)::starEach es X.env:=by rfl) (hpl:(backTo pos (starEach es X.env)).any (·.1)=false:=by rfl) :
  PE X (.Call (.Name x p) (e::es) [] pos) (OD sp dvs E t):=by
 intro pins s zzs H Q I h;refine Az (qY I hg hm ?_ hdb);refine Ms (h₀:=X.base) I.ok.mod.kin hk (thn (ha pos pins s zzs H _ I h) fun us s1 ⟨vs,H1,I1,r,q⟩=>⟨I1.kIn,?_⟩) he hpl;exact a1c F hr hb hd hx I1 r q
structure Mk(K:ao)(C f:Addr):Prop where
 makes:PySem.W.makesIn K C=true
 init:PySem.W.findIn K (.ref C) "__init__" = some (some (.ref f))
 fn:PySem.W.isFn K (.ref f)=true
 kp:PySem.W.keepIn K (.ref C)=true
theorem Ui{pins:List (Addr×Obj)}{zzs:St}{H:Hp}{s:Shared}{Q:VK}{us:List Value}{vs:List V}(M:Mk X.K C f)(F:cC X.prog X.w X.K X.mg X.base CX k f fd ps sp)(hr:gq (k+1) X.A)(hb:Binds X.K fd ps ds)(hd:Vals dvs ds)
  (hx:Passes CX X E) (I:Inv X pins zzs H s) (r:Vals vs us)
  (h:∀ x dx,H x=none->H dx=none->dx≠x->sp (.ref x::(vs++dvs)) (upd (upd H dx (.own x)) x (.ins C dx [])) (fun v H2=>v=.non/\Q (.ref x) H2) E) :
  wpAny (model X.prog X.w) X.A (call (.ref C) us) (EP X pins zzs Q) X.xe s:=by
 have hq:=h (s.heap.objs.size+1) s.heap.objs.size (I.hok.fresh (tL _)) (I.hok.fresh (bK _)) (fW (Nat.lt_succ_self _));have I2:=Inv.made (C:=C) I;have r2:Vals (V.ref (s.heap.objs.size+1)::(vs++dvs)) (Value.ref (s.heap.objs.size+1)::(us++ds)):=.cons rfl (r.append hd);have hl:(Value.ref (s.heap.objs.size+1)::us++ds).length=ps.length:=by
  have e:=r2.length;rw[F.len _ _ _ _ hq] at e;exact e.symm
 refine wpAny_call (Sv (f:=f) I.kIn M.makes M.init (jR.mp M.fn) (wR (F.run _ X.stack _ _ ⟨Value.ref (s.heap.objs.size+1)::us,[]⟩ (Value.ref (s.heap.objs.size+1)::(us++ds)) _ _ E (hr.make C us [])
  (I2.env0.make C us []) (hb _ (Value.ref (s.heap.objs.size+1)::us) I2.kIn hl) r2 hq) fun r s' hq'=>?_))
 cases r with
 |error e=>exact hx pins zzs _ _ e s' I2 hq'
 |ok fl=>
  cases fl with
  |ret u=>
   obtain⟨v,H',I3,rv,ev,q3⟩:=I2.after hq';subst ev;exact⟨rv,⟨V.ref (s.heap.objs.size+1),H',I3,rfl,q3⟩⟩
  |next=>exact False.elim hq'
  |brk=>exact False.elim hq'
  |cont=>exact False.elim hq'
theorem Xq(M:Mk X.K C f)(F:cC X.prog X.w X.K X.mg X.base CX k f fd ps sp)(hr:gq (k+1) X.A)(hg:Gl X x)(hm:X.mg x=some (.ref C))(hb:Binds X.K fd ps ds)(hd:Vals dvs ds)(hx:Passes CX X E)
  (ha:PA X (e::es) t) (hdb:(x==("__debug__" : Str))=false:=by decide) (he:starEach (e::es) X.env=(false,eval e X.env)::starEach es X.env:=by rfl) (hpl:(backTo pos (starEach es X.env)).any (·.1)=false:=by rfl) :
  PE X (.Call (.Name x p) (e::es) [] pos) (UW C sp dvs E t):=by
 intro pins s zzs H Q I h;refine Az (qY I hg hm ?_ hdb);refine Ms (h₀:=X.base) I.ok.mod.kin M.kp (thn (ha pos pins s zzs H _ I h) fun us s1 ⟨vs,H1,I1,r,q⟩=>⟨I1.kIn,?_⟩) he hpl;exact Ui M F hr hb hd hx I1 r q
end
structure aN(N P:List Str)(sc:Scope):Prop where
 kind:sc.kind=.function
 co:sc.isCoroutine=false
 gen:sc.isGenerator=false
 nd:N.Nodup
 pre:N.take P.length=P
 par:∀ x∈P,sc.names.lookup x=some .local\/sc.names.lookup x=some .cell
 a0c:∀ y∈sc.names,y.2≠.free
theorem Cw{kindOf:Str->Option NameKind}{x:Str}:∀ {binds:List (Str×Value)} {m:Str->Option Value},(∀ v,(x,v)∉binds)->bindL kindOf binds m x=m x
 |[],_,_=>rfl
 |(n,v)::r,m,h=>by
  unfold bindL;rw[Cw fun w hw=>h w (fK _ hw)];split
  ·have:x≠n:=by rintro rfl;exact h v dJ
   simp[this]
  ·rfl
theorem Cu{kindOf:Str->Option NameKind}{x:Str}:∀ {binds:List (Str×Value)} {m:Str->Option Value},(∀ v,(x,v)∉binds)->bindC kindOf binds m x=m x
 |[],_,_=>rfl
 |(n,v)::r,m,h=>by
  unfold bindC;rw[Cu fun w hw=>h w (fK _ hw)];split
  ·rfl
  ·have:x≠n:=by rintro rfl;exact h v dJ
   simp[this]
theorem Cv{kindOf:Str->Option NameKind}{x:Str}{v:Value}:∀ {P:List Str} {vs:List Value} {i:Nat} {m:Str->Option Value},P.Nodup->P[i]?=some x->vs[i]?=some v->kindOf x=some .local ->
  bindL kindOf (P.zip vs) m x=some v
 |[],_,_,_,_,h,_,_=>by simp at h
 |_::_,[],_,_,_,_,h,_=>by simp at h
 |p::P,w::vs,0,m,nd,h1,h2,hk=>by
  simp at h1 h2;subst h1;subst h2;show bindL kindOf ((p,w)::P.zip vs) m p=_;unfold bindL;rw[Cw fun v hv=>(Bj.mp nd).1 (MP hv).1,aL hk];simp
 |p::P,w::vs,i+1,m,nd,h1,h2,hk=>by
  show bindL kindOf ((p,w)::P.zip vs) m x=_;unfold bindL;exact Cv (i:=i) (Bj.mp nd).2 (by simpa using h1) (by simpa using h2) hk
theorem Cr{kindOf:Str->Option NameKind}{x:Str}{v:Value}:∀ {P:List Str} {vs:List Value} {i:Nat} {m:Str->Option Value},P.Nodup->P[i]?=some x->vs[i]?=some v->kindOf x≠some .local ->
  bindC kindOf (P.zip vs) m x=some v
 |[],_,_,_,_,h,_,_=>by simp at h
 |_::_,[],_,_,_,_,h,_=>by simp at h
 |p::P,w::vs,0,m,nd,h1,h2,hk=>by
  simp at h1 h2;subst h1;subst h2;show bindC kindOf ((p,w)::P.zip vs) m p=_;unfold bindC;rw[Cu fun v hv=>(Bj.mp nd).1 (MP hv).1,aJ hk];simp
 |p::P,w::vs,i+1,m,nd,h1,h2,hk=>by
  show bindC kindOf ((p,w)::P.zip vs) m x=_;unfold bindC;exact Cr (i:=i) (Bj.mp nd).2 (by simpa using h1) (by simpa using h2) hk
def start(N:List Str)(vs:List V):St:=vs.map some++List.replicate (N.length-vs.length) none
def pG(CX:CXT)(P:Program)(w:World)(K:ao)(mg:Str->Option Value)(base:Heap)(N:List Str)(qual:Str)(scope:Scope)(f:Addr)(cd:Value)(A:Around)(outer:List Env)(s:Shared)(H:Hp)(E:XK):Cx where
 prog:=P
 w:=w
 K:=K
 mg:=mg
 base:=base
 A:=A.deeper (envOfC qual scope s.heap.objs.size f cd)
 N:=N
 s₀:=s
 H₀:=H
 env:=envOfC qual scope s.heap.objs.size f cd
 outer:=outer
 stack:=envOfC qual scope s.heap.objs.size f cd::outer
 ex:=[]
 calm:=true
 fn:=fun _=>true
 pn:=[]
 xe:=fun e s'=>wpAny (model P w) (A.deeper (envOfC qual scope s.heap.objs.size f cd)) (leaving (envOfC qual scope s.heap.objs.size f cd) e) (fun _ s''=>CX outer H s E e s'') (fun e' s''=>CX outer H s E e' s'') s'
theorem HW{sc:Scope}{n:Nat}{x:Str}(h:sc.names.lookup x=some .cell):∃ c,(cellsFrom n sc.names []).lookup x=some c:=by
 have q:=Vn sc.names n [] (.inl h);exact Vh.mp q
theorem Qd{CX:CXT}{P:Program}{w:World}{K:ao}{mg:Str->Option Value}{base:Heap}{N ps:List Str}{qual:Str}{scope:Scope}{f:Addr}{cd:Value}{A:Around}{outer:List Env}{s s1:Shared}{H:Hp}{E:XK}{us:List Value}{vs:List V}
  (S:aN N ps scope) (hd:A.handled=none) (e0:JW P w K mg base A outer s H) (hl:vs.length=ps.length) (r:Vals vs us)
  (x:InCallC s s.heap.objs.size (bindL (envOfC qual scope s.heap.objs.size f cd).kindOf (ps.zip us) fun _=>none) (cellsFrom (s.heap.objs.size+1) scope.names []) (bindC (envOfC qual scope s.heap.objs.size f cd).kindOf (ps.zip us) fun _=>none) s1) :
  Inv (pG CX P w K mg base N qual scope f cd A outer s H E) [] (start N vs) H s1:=by
 have hpl:ps.length<=N.length:=by have:=congrArg List.length S.pre;rw[lQ] at this;lia
 obtain⟨h1,tk,rfl,hk⟩:=x.done;have noA:∀ b:Addr,b∉(pG CX P w K mg base N qual scope f cd A outer s H E).ex:=fun b z=>absurd (show b∈([]:List Addr) from z) (by simp)
 refine⟨⟨e0.mod,S.kind,rfl,rfl,bK _,fun y z c h1 h2=>?_,fun y hy=>?_,fun y c _ h=>?_,fun _=>hd,Around.frames_deeper e0.frames,.inr ⟨rfl,rfl⟩,fun b z=>absurd z (noA b),e0.bs,e0.bsz,fun b _ _=>noA b,fun b z=>absurd z (noA b),e0.uc,e0.frf⟩,
  rfl,e0.bare,Un.kept hk,⟨_,x.toInCall.ns,fun i y v h1 h2 h3=>?_⟩,fun y c h=>⟨_,x.cell y c h⟩,e0.hok.fresh (bK _),fun y c h=>?_,fun p hp=>absurd (show p∈([]:List (Addr×Obj)) from hp) (by simp),e0.hok.kept hk,?_⟩
 ·exact name_of_addr x.apart (Av h1) (Av h2)
 ·have hy:scope.names.lookup y=some .cell\/scope.names.lookup y=some .free:=hy;rcases hy with hy|hy
  ·exact HW hy
  ·exact absurd rfl (S.a0c _ (Av hy))
 ·exact Hs (x.above y c (Av h))
 ·have hi:i<vs.length:=by
   unfold start at h2;by_cases hi:i<vs.length
   ·exact hi
   ·rw[Bw (by simpa using hi)] at h2;rw[List.getElem?_replicate] at h2;split at h2<;>cases h2
  have ha:vs[i]?=some v:=by
   unfold start at h2;rw[Ei (by simpa using hi),cV] at h2;cases e:vs[i]? with
   |none=>rw[e] at h2;cases h2
   |some a=>rw[e] at h2;cases h2;rfl
  obtain⟨u,hu,rv⟩:=r.get ha;have hp:ps[i]?=some y:=by
   rw[<- S.pre,Vi (by lia)];exact h1
  have ndP:ps.Nodup:=by rw[<- S.pre];exact S.nd.sublist (List.take_sublist _ _)
  refine⟨u,rv,?_⟩;rcases S.par y (fV hp) with k|k
  ·exact .inl ⟨k,Cv ndP hp hu k⟩
  ·obtain⟨c,e⟩:=HW (n:=s.heap.objs.size+1) k;refine .inr ⟨.inl k,c,e,?_⟩;have q:=x.cell y c e;rw[Cr ndP hp hu (by show scope.names.lookup y≠_;rw[k];decide)] at q;exact q
 ·exact e0.hok.fresh (Hs (x.above y c (Av h)))
 ·unfold start;show _=N.length;rw[cM,aV,List.length_replicate];lia
theorem a1J{CX:CXT}{P:Program}{w:World}{K:ao}{mg:Str->Option Value}{base:Heap}{k:Nat}{f:Addr}{name qual:Str}{params:Arguments}{body:List Stmt}{scope:Scope}{dV kV doc pm cdv ct oc:Value}{an od:Option Addr}
  {osl:Array (Option Value)} {N ps:List Str} {sp:Sp} (lk:K.lookup f=some ⟨oc,od,.func (PySem.W.fnOf name qual params body scope dV kV doc pm an cdv ct),osl⟩) (hcd:PySem.W.codeIn K cdv qual=true) (S:aN N ps scope)
  (len:∀ vs H Q E,sp vs H Q E->vs.length=ps.length)
  (hbody:∀(A:Around)(outer:List Env)(s:Shared)(H:Hp)(vs:List V)(Q:VK)(E:XK),gq k (A.deeper (envOfC qual scope s.heap.objs.size f cdv))->sp vs H Q E ->
   ∃ t,PSs (pG CX P w K mg base N qual scope f cdv A outer s H E) body t/\t { nx:=fun _ H'=>Q .non H',rt:=Q } (start N vs) H) :
  cC P w K mg base CX (k+1) f (PySem.W.fnOf name qual params body scope dV kV doc pm an cdv ct) ps sp:=by
 refine⟨len,fun A outer s H args us vs Q E hr e0 hb r hsp=>?_⟩;have hl:=len _ _ _ _ hsp;have KX:K.In s.heap:=e0.mod.kin.keeps fun b o e=>(e0.bs b o e).1
 have lim:s.heap.NoLimit:=e0.mod.nolimit.keeps fun b o e=>(e0.bs b o e).1
 have hkind:∀ y∈ps.zip us,scope.names.lookup y.1=some .local\/(scope.names.lookup y.1=some .cell/\((cellsFrom (s.heap.objs.size+1) scope.names []).lookup y.1).isSome=true):=fun⟨n,v⟩ hy=>by
  rcases S.par n (MP hy).1 with q|q
  ·exact .inl q
  ·exact .inr ⟨q,Vn _ _ _ (.inl q)⟩
 refine codeAny_call_function hr.depth (KX _ _ lk) rfl S.co S.gen rfl (PySem.W.codeRec_of KX hcd) (hb _ _ _ _ ?_);refine wpAny_newFunctionEnv_cells S.kind hkind fun env he s1 x=>?_
 subst he;refine⟨lim.keeps x.toInCall.keep,codeAny_func ?_⟩;obtain⟨t,ht,hq⟩:=hbody A outer s H vs Q E (hr.deeper _) hsp;have I:Inv (pG CX P w K mg base N qual scope f cdv A outer s H E) [] (start N vs) H s1:=Qd S hr.hd e0 hl r x;refine iT (ht [] s1 (start N vs) H _ I hq) (fun fl s' hs=>?_) fun e s' hs=>hs
 have fin:∀ {bG:St} {H':Hp} {v:V} {u:Value},Inv (pG CX P w K mg base N qual scope f cdv A outer s H E) [] bG H' s'->RelV v u->Q v H'->CE outer P w H s Q u s':=
  fun {bG H' v u} J rv q=>⟨v,H',J.os,J.bare,J.base,J.hok,rv,q⟩
 cases fl with
 |ret u=>
  obtain⟨v,bG,H',J,rv,q⟩:=hs;exact fin J rv q
 |next=>
  obtain⟨bG,H',J,q⟩:=hs;exact fin (v:=V.non) (u:=Value.none) J rfl q
 |brk=>
  obtain⟨_,_,_,q⟩:=hs;exact False.elim q
 |cont=>
  obtain⟨_,_,_,q⟩:=hs;exact False.elim q
section
variable{X:Cx}{x:Str}{p pos:Pos}{e:Expr}{es:List Expr}{t:TA}{id T:String}{r:List V->Hp->VK->Prop}
def tCB(r:List V->Hp->VK->Prop)(t:TA):TE:=fun zzs H Q=>t zzs H fun vs H1=>r vs H1 Q
theorem Tj(hc:dZ X (.builtin id) r)(hg:Gl X x)(hm:X.mg x=none)(hv:bootBuiltins x=some (.builtin id))(ha:PA X (e::es) t) (hn:x ≠ "__name__":=by decide) (hdb:(x==("__debug__" : Str))=false:=by decide)
  (he:starEach (e::es) X.env=(false,eval e X.env)::starEach es X.env:=by rfl) (hpl:(backTo pos (starEach es X.env)).any (·.1)=false:=by rfl):PE X (.Call (.Name x p) (e::es) [] pos) (tCB r t):=by
 intro pins s zzs H Q I h;refine Az (vV I hg hm hv ?_ hn hdb);exact PyProof.Rows.callWith_builtin1 (thn (ha pos pins s zzs H _ I h) fun us s1 ⟨vs,H1,I1,r1,q1⟩=>hc pins s1 zzs H1 vs us Q I1 r1 q1) he hpl
theorem QG(hc:dZ X (.type T) r)(hg:Gl X x)(hm:X.mg x=none)(hv:bootBuiltins x=some (.type T))(ha:PA X (e::es) t) (hn:x ≠ "__name__":=by decide) (hdb:(x==("__debug__" : Str))=false:=by decide)
  (he:starEach (e::es) X.env=(false,eval e X.env)::starEach es X.env:=by rfl) (hpl:(backTo pos (starEach es X.env)).any (·.1)=false:=by rfl):PE X (.Call (.Name x p) (e::es) [] pos) (tCB r t):=by
 intro pins s zzs H Q I h;refine Az (vV I hg hm hv ?_ hn hdb);exact Gs (thn (ha pos pins s zzs H _ I h) fun us s1 ⟨vs,H1,I1,r1,q1⟩=>hc pins s1 zzs H1 vs us Q I1 r1 q1) he hpl
end
end L2
namespace HT
open PySem PyProof.Rows
section
open PySem.SeqAt
open PySem.AutoSeq1 (wpAny_loadPart')
open PySem.MeetsSeq PySem.MeetsSeq2 PySem.MeetsSeq3
end
section
variable{prog:Program}{w:World}{A:Around}{E:Value->Shared->Prop}{s:Shared}
def sIx(n d:Nat):Option Int->Nat
 |none=>d
 |some v=>if v<0 then(v+(n:Int)).toNat else min v.toNat n
theorem uE(n d:Nat):sIx n d none=d:=rfl
theorem yJ(n d k:Nat):sIx n d (some (k:Int))=min k n:=by
 show(if(k:Int)<0 then((k:Int)+(n:Int)).toNat else min (k:Int).toNat n)=min k n;rw[aJ (by lia),jx]
theorem Uj(n d:Nat)(hd:d<=n)(o:Option Int):sIx n d o<=n:=by
 cases o with
 |none=>exact hd
 |some v=>
  show(if v<0 then(v+(n:Int)).toNat else min v.toNat n)<=n;by_cases hv:v<0
  ·rw[aL hv];lia
  ·rw[aJ hv];exact Nat.min_le_right _ _
end
end HT
namespace L2
open PySem PySem.Spec PyProof.Rows
abbrev TO:=St->Hp->(Option Int->Hp->Prop)->Prop
def PO(X:Cx)(e:Option Expr)(t:TO):Prop:=
 ∀(pins:List (Addr×Obj))(s:Shared)(zzs:St)(H:Hp)(Q:Option Int->Hp->Prop),Inv X pins zzs H s->t zzs H Q ->
  wpAny (model X.prog X.w) X.A (evalPart e X.env) (fun u s'=>∃ o H',Inv X pins zzs H' s'/\IsPart u o/\Q o H') X.xe s
def OJ:TO:=fun _ H Q=>Q none H
def Zb(t:TE):TO:=fun zzs H Q=>t zzs H fun x H1=>∃ i,x=.int i/\Q (some i) H1
section
variable{X:Cx}{e:Expr}{te:TE}{lo hi:Option Expr}{tl th:TO}{pos p2:Pos}
theorem XC:PO X none OJ:=by
 intro pins s zzs H Q I h;rw[evalPart_none];exact cQ ⟨none,H,I,.none,h⟩
theorem XD(h:PE X e te):PO X (some e) (Zb te):=by
 intro pins s zzs H Q I hw;rw[evalPart_some];refine thn (h pins s zzs H _ I hw) fun u s1 zzy=>?_
 obtain⟨x,H1,I1,r1,q1⟩:=zzy;obtain⟨i,rfl,q⟩:=q1;obtain⟨t,rfl⟩:=r1;exact⟨some i,H1,I1,.int i t,q⟩
def SlR(X:Cx)(r:V->Option Int->Option Int->Hp->VK->Prop):Prop:=
 ∀(pins:List (Addr×Obj))(s:Shared)(zzs:St)(H:Hp)(x:V)(v vl vu:Value)(lo hi:Option Int)(sl:Addr)(Q:VK),Inv X pins zzs H s->RelV x v->s.heap.IsSliceOf sl vl vu .none->IsPart vl lo->IsPart vu hi->r x lo hi H Q ->
  ∃ T id,typeLookup (.type T) "__getitem__" = pure (some (.builtin id))/\s.TypeIs v T/\wpAny (model X.prog X.w) X.A (getItem v (.ref sl)) (EP X pins zzs Q) X.xe s
theorem SlR.or{r r':V->Option Int->Option Int->Hp->VK->Prop}(h:SlR X r)(h':SlR X r'):SlR X (fun x lo hi H Q=>r x lo hi H Q\/r' x lo hi H Q):=by
 intro pins s zzs H x v vl vu lo hi sl Q I rx hs pl pu q;rcases q with q|q
 ·exact h pins s zzs H x v vl vu lo hi sl Q I rx hs pl pu q
 ·exact h' pins s zzs H x v vl vu lo hi sl Q I rx hs pl pu q
def tSl(r:V->Option Int->Option Int->Hp->VK->Prop)(te:TE)(tl th:TO):TE:=fun zzs H Q=>te zzs H fun x H1=>tl zzs H1 fun l H2=>th zzs H2 fun u H3=>r x l u H3 Q
theorem Tr{r:V->Option Int->Option Int->Hp->VK->Prop}(hr:SlR X r)(he:PE X e te)(hl:PO X lo tl)(hu:PO X hi th):PE X (.Subscript e (.Slice lo hi none p2) pos) (tSl r te tl th):=by
 intro pins s zzs H Q I h;refine Subscript_ (thn (he pins s zzs H _ I h) fun v s1 zzy=>?_);obtain⟨x,H1,I1,r1,q1⟩:=zzy;refine wpAny_Slice (thn (hl pins s1 zzs H1 _ I1 q1) fun vl s2 ⟨l,H2,I2,pl,q2⟩=>thn (hu pins s2 zzs H2 _ I2 q2) fun vu s3 zzy=>?_);obtain⟨u,H3,I3,pu,q3⟩:=zzy;rw[evalPart_none];refine cQ ?_;have I4:Inv X pins zzs H3 { s3 with heap:=s3.heap.push { cls:=.type "slice",data:=.fields #[vl,vu,.none] } }:=I3.kept (t':=s3.toks) fun b ob q=>gY _ q
 obtain⟨T,id,hT,ht,hg⟩:=hr pins { s3 with heap:=s3.heap.push { cls:=.type "slice",data:=.fields #[vl,vu,.none] } } zzs H3 x v vl vu l u s3.heap.objs.size Q I4 r1 (Heap.IsSliceOf.new ..) pl pu q3;show wpAny (model X.prog X.w) X.A (subscriptTail e (.Slice lo hi none p2) v (.ref s3.heap.objs.size)) (EP X pins zzs Q) X.xe { s3 with heap:=s3.heap.push { cls:=.type "slice",data:=.fields #[vl,vu,.none] } };exact tail_any (ops:=[.ref s3.heap.objs.size,v]) ht hT hg (by with_unfolding_all rfl)
def Fe(xs:List V)(lo hi:Option Int):List V:=(xs.drop (HT.sIx xs.length 0 lo)).take (HT.sIx xs.length xs.length hi-HT.sIx xs.length 0 lo)
theorem I9(xs:List V)(lo hi:Option Int):(Fe xs lo hi).length<=xs.length:=by
 unfold Fe;rw[lQ,tu];lia
end
def ixN(n:Nat)(i:Int):Option Nat:=if 0<=i then(if i<n then some i.toNat else none) else if -(n:Int)<=i then some (i+n).toNat else none
def atI{α:Type}(xs:List α)(i:Int):Option α:=(ixN xs.length i).bind fun j=>xs[j]?
theorem Wu{n:Nat}{i:Int}{j:Nat}(h:ixN n i=some j):seqIndex? i n=some j/\j<n /\ -(n:Int)<=i/\i<n:=by
 unfold ixN at h;by_cases h0:0<=i
 ·rw[aL h0] at h;by_cases h1:i<n
  ·rw[aL h1] at h;have e:i.toNat=j:=iD h;exact⟨by rw[seqIndex_of h0 h1,e],by lia,by lia,h1⟩
  ·rw[aJ h1] at h;cases h
 ·rw[aJ h0] at h;by_cases h1 : -(n:Int)<=i
  ·rw[aL h1] at h;have e:(i+n).toNat=j:=iD h;exact⟨by rw[seqIndex_neg (by lia) h1,e],by lia,h1,by lia⟩
  ·rw[aJ h1] at h;cases h
theorem Es{α:Type}{xs:List α}{i:Int}{v:α}(h:atI xs i=some v):∃ j,seqIndex? i xs.length=some j/\xs[j]?=some v/\j<xs.length /\ -(xs.length:Int)<=i/\i<xs.length:=by
 unfold atI at h;cases e:ixN xs.length i with
 |none=>rw[e] at h;cases h
 |some j=>
  rw[e] at h;obtain⟨h1,h2,h3,h4⟩:=Wu e;exact⟨j,h1,h,h2,h3,h4⟩
theorem cY{α:Type}{xs:List α}{j:Nat}{v:α}(h:xs[j]?=some v):atI xs (j:Int)=some v:=by
 have hj:j<xs.length:=(jw.mp h).1;have e:ixN xs.length (j:Int)=some j:=by
  unfold ixN;rw[aL (by lia),aL (by lia)];simp
 unfold atI;rw[e];exact h
def Nf(b:Expr):Prop:=∀ o i,subscripted b false o i=operate [o,i] (getItem o i)
def IxR(X:Cx)(r:R2):Prop:=
 ∀(value slice:Expr)(pins:List (Addr×Obj))(s:Shared)(zzs:St)(H:Hp)(x y:V)(v u:Value)(Q:VK),Inv X pins zzs H s->RelV x v->RelV y u->r x y H Q ->
  subscripted slice false v u=operate [v,u] (getItem v u)->wpAny (model X.prog X.w) X.A (subscriptTail value slice v u) (EP X pins zzs Q) X.xe s
def MtR(X:Cx)(id:String)(r:V->List V->Hp->VK->Prop):Prop:=
 ∀(pins:List (Addr×Obj))(s:Shared)(zzs:St)(H:Hp)(x:V)(xs:List V)(v:Value)(us:List Value)(Q:VK),Inv X pins zzs H s->RelV x v->Vals xs us->r x xs H Q ->
  wpAny (model X.prog X.w) X.A (call (.builtin id) (v::us)) (EP X pins zzs Q) X.xe s
section
variable{X:Cx}{a b:Expr}{ta tb:TE}{pos:Pos}
theorem IxR.or{r r':R2}(h:IxR X r)(h':IxR X r'):IxR X (fun x y H Q=>r x y H Q\/r' x y H Q):=by
 intro value slice pins s zzs H x y v u Q I rx ry q hs;rcases q with q|q
 ·exact h value slice pins s zzs H x y v u Q I rx ry q hs
 ·exact h' value slice pins s zzs H x y v u Q I rx ry q hs
theorem a1Z{r:R2}(hr:IxR X r)(ha:PE X a ta)(hb:PE X b tb)(hs:Nf b):PE X (.Subscript a b pos) (tOp r ta tb):=by
 intro pins s zzs H Q I h;exact Subscript_ (Zh ha hb I h fun v u s2 x y H2 I2 rx ry q=>hr a b pins s2 zzs H2 x y v u Q I2 rx ry q (hs _ _))
def a2n(K:ao):R2:=fun x y H Q=>∃ p xs i v,x=.ref p/\y=.int i/\SqL K H p xs/\atI xs i=some v/\Q v H
def a2p(K:ao):R2:=fun x y H Q=>∃ p xs i v,x=.ref p/\y=.int i/\SqT K H p xs/\atI xs i=some v/\Q v H
def a2o:R2:=fun x y H Q=>∃ z i c,x=.str z/\y=.int i/\z.length<=sizeLine/\atI z.cps.toList i=some c/\Q (.str ⟨#[c]⟩) H
theorem Wv:IxR X (a2n X.K):=by
 intro value slice pins s zzs H x y v u Q I rx ry h hs;obtain⟨p,xs,i,z,rfl,rfl,hq,he,q⟩:=h;cases rx;obtain⟨t,rfl⟩:=ry;obtain⟨its,r,pl,hz⟩:=I.list hq;obtain⟨j,h1,h2,h3,h4,h5⟩:=Es he;obtain⟨w,ew,rw'⟩:=r.get h2;have hl:=r.length;have hn:=zK;have fin:EP X pins zzs Q w s:=⟨z,H,I,rw',q⟩
 by_cases h0:0<=i
 ·have hj:i.toNat=j:=by
   rw[seqIndex_of h0 h5] at h1;exact iD h1
  exact item_listR pl.isList h0 (by lia) (by rw[hj];simpa using ew) fin hs
 ·have hj:(i+(its.toArray.size:Int)).toNat=j:=by
   rw[seqIndex_neg (by lia) h4] at h1;rw[cR,<- hl];exact iD h1
  exact subscriptTail_builtinR (x:=w) pl.isList.typeIs slot_list_getitem.lookup
   (wpAny_getItem_list_neg (Q:=fun r s'=>r=w/\EP X pins zzs Q r s') pl.isList (by lia) (by rw[cR]<;>lia) (by lia) (by rw[hj];simpa using ew) ⟨rfl,fin⟩) hs
theorem ZS:IxR X (a2p X.K):=by
 intro value slice pins s zzs H x y v u Q I rx ry h hs;obtain⟨p,xs,i,z,rfl,rfl,hq,he,q⟩:=h;cases rx;obtain⟨t,rfl⟩:=ry;obtain⟨its,r,pl,hz⟩:=I.tuple hq;obtain⟨j,h1,h2,h3,h4,h5⟩:=Es he;obtain⟨w,ew,rw'⟩:=r.get h2;have hl:=r.length;have hn:=zK;have fin:EP X pins zzs Q w s:=⟨z,H,I,rw',q⟩
 exact subscriptTail_builtinR (x:=w) pl.typeIs slot_tuple_getitem.lookup
  (getItem_tuple (j:=j) (Q:=fun r s'=>r=w/\EP X pins zzs Q r s') pl (by lia) (by lia) (by rw[cR,<- hl];exact h1) (by simpa using ew) ⟨rfl,fin⟩) hs
theorem ZR:IxR X a2o:=by
 intro value slice pins s zzs H x y v u Q I rx ry h hs;obtain⟨z,i,c,rfl,rfl,hz,he,q⟩:=h;obtain⟨t,rfl⟩:=rx;obtain⟨t',rfl⟩:=ry;obtain⟨j,h1,h2,h3,h4,h5⟩:=Es he;have hl:z.cps.toList.length=z.length:=by simp[Str.length]
 rw[hl] at h1 h4 h5;have hn:=zK;exact tail_any (typeIs_str s z t) slot_str_getitem.lookup (getItem_str (c:=c) (by
  have e1:decide (i < -(2^63:Int))=false:=cB (by lia);have e2:decide (i>=2^63)=false:=cB (by lia);rw[e1,e2,Bool.or_false]) (by rw[h1];simpa using h2) ⟨.str ⟨#[c]⟩,H,I.tok _,⟨_,rfl⟩,q⟩) hs
def rIx(K:ao):R2:=fun x y H Q=>a2n K x y H Q\/a2p K x y H Q\/a2o x y H Q
theorem ZQ:IxR X (rIx X.K):=Wv.or (ZS.or ZR)
theorem uJ(lo hi:Option Int)(n:Nat):(sliceBounds lo hi none n).1=((HT.sIx n 0 lo:Nat):Int)/\(sliceBounds lo hi none n).2.1=((HT.sIx n n hi:Nat):Int)/\(sliceBounds lo hi none n).2.2=1:=by
 refine⟨?_,?_,rfl⟩
 ·cases lo with
  |none=>simp[sliceBounds,HT.sIx]
  |some i=>
   simp only[sliceBounds,HT.sIx,Option.getD_none,show(1:Int)>0 by decide,mV];by_cases h:i<0
   ·simp only[h,mV]<;>lia
   ·simp only[h,lK]<;>lia
 ·cases hi with
  |none=>simp[sliceBounds,HT.sIx]
  |some i=>
   simp only[sliceBounds,HT.sIx,Option.getD_none,show(1:Int)>0 by decide,mV];by_cases h:i<0
   ·simp only[h,mV]<;>lia
   ·simp only[h,lK]<;>lia
theorem Cp(its:List Value)(lo hi:Option Int):slicePick its.toArray lo hi none=((its.drop (HT.sIx its.length 0 lo)).take (HT.sIx its.length its.length hi-HT.sIx its.length 0 lo)).toArray:=by
 obtain⟨h1,h2,h3⟩:=uJ lo hi its.toArray.size;unfold slicePick;rw[h1,h2,h3];simp only[sliceRange_one,pick_run,cR]<;>rfl
def a2r(K:ao):V->Option Int->Option Int->Hp->VK->Prop:=fun x lo hi H Q=>∃ a xs,x=.ref a/\SqL K H a xs/\∀ p,H p=none->Q (.ref p) (upd H p (.lst (Fe xs lo hi)))
theorem Ys:SlR X (a2r X.K):=by
 intro pins s zzs H x v vl vu lo hi sl Q I rx hs pl pu h;obtain⟨a,xs,rfl,hx,q⟩:=h;cases rx;obtain⟨its,r,ht,hz⟩:=I.list hx;have hlen:=r.length;refine⟨"list",_,slot_list_getitem.lookup,ht.isList.typeIs,?_⟩;refine wpAny_getItem_list_slice ht.isList hs pl pu .none (by simp) ?_ (by rw[cR]<;>lia);rw[Cp,<- hlen];refine⟨.ref s.heap.objs.size,_,I.laid (t':=s.toks) (o:=.lst (Fe xs lo hi)) (fun b ob q=>gY _ q) (bK _) ?_,rfl,q _ (I.hok.fresh (bK _))⟩;exact⟨cP (I9 xs lo hi) hz,_,0,(r.drop (HT.sIx xs.length 0 lo)).take (HT.sIx xs.length xs.length hi-HT.sIx xs.length 0 lo),iR _ rfl⟩
def NZ:V->Bool
 |.non=>true
 |.bl _=>true
 |.int _=>true
 |.str _=>true
 |_=>false
def eqV:V->V->Bool
 |.non,.non=>true
 |.bl a,.bl b=>a==b
 |.bl a,.int b=>(if a then 1 else 0)==b
 |.int a,.bl b=>a==(if b then 1 else 0)
 |.int a,.int b=>a==b
 |.str a,.str b=>a==b
 |_,_=>false
theorem Ry{A:Around}{s:Shared}{y x:V}{u v:Value}(ry:RelV y u)(rx:RelV x v)(fy:NZ y=true)(fx:NZ x=true):SeqAt.EqAt A s u v (eqV y x):=by
 cases y with
 |non=>
  cases ry;cases x with
  |non=>cases rx;exact SeqAt.EqAt.same _
  |bl b=>cases rx;exact SeqAt.EqAt.none_bool b
  |int b=>obtain⟨t,rfl⟩:=rx;exact SeqAt.EqAt.none_int b t
  |str b=>obtain⟨t,rfl⟩:=rx;exact SeqAt.EqAt.none_str b t
  |_=>exact absurd (show false=true from fx) fG
 |bl a=>
  cases ry;cases x with
  |non=>cases rx;exact SeqAt.EqAt.bool_none a
  |bl b=>cases rx;exact SeqAt.EqAt.bool_bool a b
  |int b=>obtain⟨t,rfl⟩:=rx;exact SeqAt.EqAt.bool_int a b t
  |str b=>obtain⟨t,rfl⟩:=rx;exact SeqAt.EqAt.bool_str a b t
  |_=>exact absurd (show false=true from fx) fG
 |int a=>
  obtain⟨t',rfl⟩:=ry;cases x with
  |non=>cases rx;exact SeqAt.EqAt.int_none a t'
  |bl b=>cases rx;exact SeqAt.EqAt.int_bool a t' b
  |int b=>obtain⟨t,rfl⟩:=rx;exact SeqAt.EqAt.int_int a t' b t
  |str b=>obtain⟨t,rfl⟩:=rx;exact SeqAt.EqAt.int_str a t' b t
  |_=>exact absurd (show false=true from fx) fG
 |str a=>
  obtain⟨t',rfl⟩:=ry;cases x with
  |non=>cases rx;exact SeqAt.EqAt.str_none a t'
  |bl b=>cases rx;exact SeqAt.EqAt.str_bool a t' b
  |int b=>obtain⟨t,rfl⟩:=rx;exact SeqAt.EqAt.str_int a t' b t
  |str b=>obtain⟨t,rfl⟩:=rx;exact SeqAt.EqAt.str_str a t' b t
  |_=>exact absurd (show false=true from fx) fG
 |_=>exact absurd (show false=true from fy) fG
theorem Ey:dZ X (.builtin "len") (fun xs H Q=>∃ p ys,xs=[.ref p]/\(SqL X.K H p ys\/SqT X.K H p ys)/\Q (.int ys.length) H):=by
 intro pins s zzs H xs us Q I r h;obtain⟨p,ys,rfl,hq,q⟩:=h;obtain⟨u,rfl,rx⟩:=vals1 r;cases rx;have hn:=zK;rcases hq with hq|hq
 ·obtain⟨its,r',pl,hz⟩:=I.list hq;have hlen:=r'.length;exact Calls.call_len_list pl.isList (by simp only[cR]<;>lia) ⟨.int ys.length,H,I.tok _,⟨s.toks+1,by rw[cR,hlen]⟩,q⟩
 ·obtain⟨its,r',pl,hz⟩:=I.tuple hq;have hlen:=r'.length;exact len_tuple pl (by simp only[cR]<;>lia) ⟨.int ys.length,H,I.tok _,⟨s.toks+1,by rw[cR,hlen]⟩,q⟩
theorem Ez:dZ X (.builtin "len") (fun xs H Q=>∃ z,xs=[.str z]/\z.length<=sizeLine/\Q (.int z.length) H):=by
 intro pins s zzs H xs us Q I r h;obtain⟨z,rfl,hz,q⟩:=h;obtain⟨u,rfl,t,rfl⟩:=vals1 r;have hn:=zK;exact len_str (by lia) ⟨.int z.length,H,I.tok _,⟨_,rfl⟩,q⟩
theorem dZ.or{f:Value}{r r':List V->Hp->VK->Prop}(h:dZ X f r)(h':dZ X f r'):dZ X f (fun xs H Q=>r xs H Q\/r' xs H Q):=by
 intro pins s zzs H xs us Q I rs q;rcases q with q|q
 ·exact h pins s zzs H xs us Q I rs q
 ·exact h' pins s zzs H xs us Q I rs q
theorem EY:dZ X (.type "list") (fun xs H Q=>∃ p ys,xs=[.ref p]/\(SqL X.K H p ys\/SqT X.K H p ys)/\∀ l,H l=none->Q (.ref l) (upd H l (.lst ys))):=by
 intro pins s zzs H xs us Q I r h;obtain⟨p,ys,rfl,hq,q⟩:=h;obtain⟨u,rfl,rx⟩:=vals1 r;cases rx;have fin:∀(its:List Value),Vals ys its->ys.length<=sizeLine->∀(h':Heap)(c':Nat),(∀ b o',s.heap.get? b=some o'->h'.get? b=some o') ->
   h'.get? s.heap.objs.size=some { cls:=.type "list",dict:=none,data:=.seq its.toArray c',slots:=#[] }->EP X pins zzs Q (.ref s.heap.objs.size) { s with heap:=h' }:=fun its r' hz h' c' kp e=>
  ⟨.ref s.heap.objs.size,_,I.laid (t':=s.toks) kp (bK _) (show eU X.prog X.w _ h' _ (.lst ys) from⟨hz,its,c',r',e⟩),rfl,q _ (I.hok.fresh (bK _))⟩
 rcases hq with hq|hq
 ·obtain⟨its,r',pl,hz⟩:=I.list hq;have hlen:=r'.length;obtain⟨o,ho,hc,n,hd⟩:=pl.isList;exact call_list_seq p (.inl rfl) ho hc hd (fun h' c' kp e=>fin its r' hz h' c' kp e) (by simp only[cR]<;>lia)
 ·obtain⟨its,r',pl,hz⟩:=I.tuple hq;have hlen:=r'.length;obtain⟨o,ho,hc,n,hd⟩:=pl;exact call_list_seq p (.inr rfl) ho hc hd (fun h' c' kp e=>fin its r' hz h' c' kp e) (by simp only[cR]<;>lia)
def tyV(K:ao)(T:String)(x:V)(H:Hp):Prop:=match x with
 |.str _=>T = "str"
 |.int _=>T = "int"
 |.ref p=>(T = "list" /\ ∃ xs,SqL K H p xs)\/(T = "tuple" /\ ∃ o,K.lookup p=some o/\o.cls=.type "tuple" /\ o.dict=none) \/
   (T = "dict" /\ ((∃ kvs,H p=some (.dK kvs))\/∃ kvs,H p=some (.dT kvs)))\/(T = "set" /\ ∃ S n,H p=some (.set S n))
 |_=>False
theorem V6{pins:List (Addr×Obj)}{zzs:St}{H:Hp}{s:Shared}{T:String}{x:V}{v:Value}(I:Inv X pins zzs H s)(r:RelV x v)(ty:tyV X.K T x H) :
  s.TypeIs v T/\∀ a,v=.ref a->∃ ob,s.heap.get? a=some ob/\ob.dict=none:=by
 cases x with
 |str z=>
  obtain⟨t,rfl⟩:=r;cases (show T = "str" from ty);exact⟨typeIs_str s z t,fun _ e=>nomatch e⟩
 |int i=>
  obtain⟨t,rfl⟩:=r;cases (show T = "int" from ty);exact⟨typeIs_int s i t,fun _ e=>nomatch e⟩
 |ref p=>
  cases r;rcases ty with⟨rfl,xs,hq⟩|⟨rfl,o,hk,hc,hd⟩|⟨rfl,hk⟩|⟨rfl,S,n,hk⟩
  ·obtain⟨its,_,pl,_⟩:=I.list hq;refine⟨pl.isList.typeIs,fun a e=>?_⟩;cases e;obtain⟨o,n,e,c,hd,_⟩:=pl;exact⟨o,e,hd⟩
  ·refine⟨⟨o,I.kIn p o hk,hc⟩,fun a e=>?_⟩;cases e;exact⟨o,I.kIn _ o hk,hd⟩
  ·have z:∃ o,s.heap.get? p=some o/\o.ExactDict:=by
    rcases hk with⟨kvs,hk⟩|⟨kvs,hk⟩
    ·obtain⟨_,_,_,_,o,_,_,e,ex,_⟩:=I.hok p _ hk;exact⟨o,e,ex⟩
    ·obtain⟨_,_,_,_,o,_,_,e,ex,_⟩:=I.hok p _ hk;exact⟨o,e,ex⟩
   obtain⟨o,e,ex⟩:=z;refine⟨⟨o,e,ex.1⟩,fun a e2=>?_⟩;cases e2;exact⟨o,e,ex.2.1⟩
  ·obtain⟨o,_,_,_,e,ex,_⟩:=I.hok p _ hk;refine⟨⟨o,e,ex.1⟩,fun a e2=>?_⟩;cases e2;exact⟨o,e,ex.2.1⟩
 |_=>exact False.elim ty
def a1h(K:ao)(T:String)(r:V->List V->Hp->VK->Prop)(to:TE):TE:=fun zzs H Q=>to zzs H fun x H1=>tyV K T x H1/\r x [] H1 Q
def tBM(K:ao)(T:String)(r:V->List V->Hp->VK->Prop)(to:TE)(t:TA):TE:=fun zzs H Q=>to zzs H fun x H1=>tyV K T x H1/\t zzs H1 fun xs H2=>r x xs H2 Q
variable{o e:Expr}{es:List Expr}{to:TE}{t:TA}{name:Str}{apos cpos:Pos}{T id:String}{r:V->List V->Hp->VK->Prop}
theorem a0u(pa:PlainAttrs T)(slot:Slot T name id) (hty:typeOf (.builtin id)=pure (.type "method_descriptor")) (hm:MtR X id r) (ho:PE X o to)
  (hbase:attributeBase o name X.env (eval o X.env)=eval o X.env:=by rfl) (hline:(apos.endLine==cpos.line)=true:=by rfl):PE X (.Call (.Attribute o name apos) [] [] cpos) (a1h X.K T r to):=by
 intro pins s zzs H Q I h;refine wpAny_Call_method0_late hbase hline (thn (ho pins s zzs H _ I h) fun v s1 zzy=>?_);obtain⟨x,H1,I1,r1,ty,q1⟩:=zzy;obtain⟨h1,h2⟩:=V6 I1 r1 ty;exact⟨T,id,pa,slot,hty,h1,h2,Calls.callWith_builtin rfl (PySem.evalArgs_none (hm pins s1 zzs H1 x [] v [] Q I1 r1 .nil q1))⟩
theorem a1Y(pa:PlainAttrs T)(slot:Slot T name id) (hty:typeOf (.builtin id)=pure (.type "method_descriptor")) (hm:MtR X id r) (ho:PE X o to) (ha:PA X (e::es) t)
  (hbase:attributeBase o name X.env (eval o X.env)=eval o X.env:=by rfl)
  (hfew:((backTo cpos (starEach (e::es) X.env)).all (fun x=>!x.1)&&(backToKw cpos (keywordEach [] X.env)).all (fun x=>x.1.isSome)
   && decide ((e::es).length+([]:List Keyword).length+(if([]:List Keyword).isEmpty then 0 else 1)<30))=true:=by rfl)
  (hline:(apos.endLine==cpos.line)=true:=by rfl) (hs:starEach (e::es) X.env=(false,eval e X.env)::starEach es X.env:=by rfl) (hplain:(backTo cpos (starEach es X.env)).any (·.1)=false:=by rfl) :
  PE X (.Call (.Attribute o name apos) (e::es) [] cpos) (tBM X.K T r to t):=by
 intro pins s zzs H Q I h;refine wpAny_Call_method_late hbase hfew hline rfl (thn (ho pins s zzs H _ I h) fun v s1 zzy=>?_);obtain⟨x,H1,I1,r1,ty,q1⟩:=zzy;obtain⟨h1,h2⟩:=V6 I1 r1 ty;refine⟨T,id,pa,slot,hty,h1,h2,?_⟩;have hA:=ha cpos pins s1 zzs H1 _ I1 q1;rw[hs] at hA ⊢;refine Calls.callWith_builtin (by show(false||(backTo cpos (starEach es X.env)).any (·.1))=false;rw[hplain]<;>rfl) (Calls.evalArgs_plain ?_);exact thn hA fun us s2 ⟨vs,H2,I2,r2,q2⟩=>hm pins s2 zzs H2 x vs v us Q I2 r1 r2 q2
end
def MtM(X:Cx)(id:String)(r:V->List V->Hp->VK->Prop):Prop:=
 ∀(pins:List (Addr×Obj))(s:Shared)(zzs:St)(H:Hp)(x:V)(xs:List V)(v:Value)(us:List Value)(Q:VK),Inv X pins zzs H s->RelV x v->Vals xs us->r x xs H Q ->
  wpAny (model X.prog X.w) X.A (call (.builtin id) (v::us)) (EP X pins zzs Q) X.xe s
theorem Vals.one{x:V}{us:List Value}(h:Vals [x] us):∃ u,us=[u]/\RelV x u:=by
 cases h with
 |cons r t=>cases t;exact⟨_,rfl,r⟩
theorem Vals.zero:∀ {us:List Value},Vals [] us->us=[]
 |_,.nil=>rfl
theorem Vals.dropLast{xs:List V}{us:List Value}(h:Vals xs us):Vals xs.dropLast us.dropLast:=by
 induction h with
 |nil=>exact .nil
 |cons r t ih=>
  cases t with
  |nil=>exact .nil
  |cons q t'=>exact .cons r ih
theorem Vals.rep{xs:List V}{us:List Value}(h:Vals xs us):∀ k:Nat,Vals (List.replicate k xs).flatten (List.replicate k us).flatten
 |0=>.nil
 |k+1=>by
  rw[wI,wI,wL,wL];exact Vals.append h (Vals.rep h k)
theorem Km{α:Type}(l:List α):l.eraseIdx (l.length-1)=l.dropLast:=by
 induction l with
 |nil=>rfl
 |cons a r ih=>
  cases r with
  |nil=>rfl
  |cons b r=>
   have e:(a::b::r).length-1=((b::r).length-1)+1:=by
    have h1:(a::b::r).length=r.length+2:=rfl;have h2:(b::r).length=r.length+1:=rfl;lia
   rw[e,List.eraseIdx_cons_succ,ih]
   all_goals rfl
theorem foldl_rep(its:List Value):∀(k:Nat)(acc:List Value),
  List.foldl (fun x1 x2=>x1++x2) acc.toArray (List.replicate k its.toArray)=(acc++(List.replicate k its).flatten).toArray
 |0,acc=>by simp
 |k+1,acc=>by
  have e:acc.toArray++its.toArray=(acc++its).toArray:=by simp
  have e2:(acc++its)++(List.replicate k its).flatten=acc++(List.replicate (k+1) its).flatten:=by
   rw[wI,wL,xR]
  rw[<- e2,<- foldl_rep its k (acc++its),<- e,wI,N5]
section
variable{X:Cx}{pins:List (Addr×Obj)}{zzs:St}{H:Hp}{s:Shared}{l b:Addr}{xs ys zs:List V}
theorem Inv.a04{its its':List Value}{n:Nat}{f:Array Value->Array Value}{t':Nat}(I:Inv X pins zzs H s)(hH:H l=some (.lst xs))
  (e:s.heap.get? l=some { cls:=.type "list",data:=.seq its.toArray n }) (hf:f its.toArray=its'.toArray) (hv:Vals ys its') (hz:ys.length<=sizeLine) :
  Inv X pins zzs (upd H l (.lst ys)) { s with heap:=s.heap.update l (Obj.mapSeq f),toks:=t' }:=by
 have q:=PySem.IsL.update e f;rw[hf] at q;refine I.write (x:=l) (e:=l) (by rw[hH];exact trivial) (.inl rfl) (fun b' u hb hu=>(Heap.get?_update_other s.heap (Obj.mapSeq f) (lM hb)).trans hu) ⟨_,q⟩ ?_;exact⟨hz,its',_,hv,q⟩
theorem Inv.a1T{its:List Value}{t':Nat}(I:Inv X pins zzs H s)(hv:Vals ys its)(hz:ys.length<=sizeLine) :
  Inv X pins zzs (upd H s.heap.objs.size (.lst ys)) { s with heap:=s.heap.push { cls:=.type "list",data:=.seq its.toArray },toks:=t' }:=
 I.laid (fun _ _ q=>gY _ q) (bK _) ⟨hz,its,0,hv,iR _ rfl⟩
theorem Inv.fresh(I:Inv X pins zzs H s):H s.heap.objs.size=none:=I.hok.fresh (bK _)
theorem Inv.Qo(I:Inv X pins zzs H s)(hH:H l=some (.lst xs)):xs.length<=sizeLine/\∃(its:List Value)(n:Nat),Vals xs its/\xs.length=its.length/\s.heap.get? l=some { cls:=.type "list",data:=.seq its.toArray n }:=by
 obtain⟨z,its,n,r,e⟩:=I.hok l _ hH;exact⟨z,its,n,r,r.length,e⟩
theorem Jb{n:Nat}(h:n<=sizeLine):Builtin.List.listTooLong n=false:=by
 unfold Builtin.List.listTooLong;exact cB (by lia)
end
section
variable{X:Cx}
def Od:V->List V->Hp->VK->Prop:=fun x vs H Q=>∃ l xs y,x=.ref l/\vs=[y]/\H l=some (.lst xs)/\xs.length<sizeLine/\Q .non (upd H l (.lst (xs++[y])))
theorem dX:MtM X "list.append" Od:=by
 intro pins s zzs H x vs v us Q I rx rv h;obtain⟨l,xs,y,rfl,rfl,hH,hz,q⟩:=h;cases rx;obtain⟨u,rfl,ru⟩:=rv.one;obtain⟨z,its,n,r,hl,e⟩:=I.Qo hH;refine qJ F.slot_list_append ⟨_,e,rfl⟩ F.entry_list_append (F.args_list_append_2 _ _) (PySem.list_append l its.toArray n u (by rw[cR];lia)) ⟨e,?_⟩;refine⟨.non,_,I.a04 (its':=its++[u]) hH e (by simp) (r.append (.cons ru .nil)) ?_,rfl,q⟩;rw[cM,pC];lia
def a3q:V->List V->Hp->VK->Prop:=fun x vs H Q=>∃ l xs y,x=.ref l/\vs=[]/\H l=some (.lst xs)/\xs[xs.length-1]?=some y/\Q y (upd H l (.lst xs.dropLast))
theorem a0b:MtM X "list.pop" a3q:=by
 intro pins s zzs H x vs v us Q I rx rv h;obtain⟨l,xs,y,rfl,rfl,hH,hy,q⟩:=h;cases rx;have hus:=rv.zero;subst hus;obtain⟨z,its,n,r,hl,e⟩:=I.Qo hH;obtain⟨u,hu,ru⟩:=r.get hy;have hy':its.toArray[its.toArray.size-1]?=some u:=by
  show its.toArray[its.length-1]?=some u;rw[<- Ej,<- hl];exact hu
 refine qJ F.slot_list_pop ⟨_,e,rfl⟩ F.entry_list_pop (F.args_list_pop_1 _) (MeetsSeq.list_pop_last l its.toArray n u hy' (by rw[cR];lia)) ⟨e,?_⟩;refine⟨y,_,I.a04 (its':=its.dropLast) hH e ?_ r.dropLast ?_,ru,q⟩
 ·show its.toArray.eraseIdxIfInBounds (its.toArray.size-1)=its.dropLast.toArray;rw[cR,List.eraseIdxIfInBounds_toArray,Km]
 ·rw[List.length_dropLast];lia
def a3p:R2:=fun x y H Q=>∃ l b xs zs,x=.ref l/\y=.ref b/\H l=some (.lst xs)/\H b=some (.lst zs)/\xs.length+zs.length<=sizeLine/\∀ p,H p=none->Q (.ref p) (upd H p (.lst (xs++zs)))
theorem a0k:OpR X (binaryOp .Add) a3p:=by
 intro pins s zzs H x y v u Q I rx ry h;obtain⟨l,b,xs,zs,rfl,rfl,hH,hB,hz,q⟩:=h;cases rx;cases ry;obtain⟨z,its,n,r,hl,e⟩:=I.Qo hH;obtain⟨z2,its2,n2,r2,hl2,e2⟩:=I.Qo hB;refine PySem.P.add_list e e2 ?_ (by rw[cR,cR];lia);have ea:its.toArray++its2.toArray=(its++its2).toArray:=by simp
 rw[ea];exact⟨.ref _,_,I.a1T (t':=s.toks) (r.append r2) (by rw[cM];omega),rfl,q _ I.fresh⟩
def a3r:R2:=fun x y H Q=>∃ l k xs,x=.ref l/\y=.int k/\H l=some (.lst xs) /\ -(2^63)<=k/\k<2^63/\xs.length*k.toNat<=sizeLine /\
 ∀ p,H p=none->Q (.ref p) (upd H p (.lst (List.replicate k.toNat xs).flatten))
theorem len_rep{α:Type}(xs:List α)(k:Nat):(List.replicate k xs).flatten.length=k*xs.length:=by
 induction k with
 |zero=>simp
 |succ k ih=>rw[wI,wL,cM,ih,N7,Nat.add_comm]
theorem a0r:OpR X (binaryOp .Mult) a3r:=by
 intro pins s zzs H x y v u Q I rx ry h;obtain⟨l,k,xs,rfl,rfl,hH,h1,h2,hz,q⟩:=h;cases rx;obtain⟨t,rfl⟩:=ry;obtain⟨z,its,n,r,hl,e⟩:=I.Qo hH;have hlen:its.toArray.size*k.toNat<=sizeLine:=by rw[cR,<- hl];exact hz
 have hcap:¬its.toArray.size*k.toNat>(2^63-1) / 8:=by
  have:(sizeLine:Nat)<=(2^63-1) / 8:=by decide
  lia
 have hfit:¬(!Builtin.List.listFitsIndex k)=true:=by
  rw[fitsIndex_both h1 h2];exact fG
 have RV:¬Builtin.List.listTooLong (its.toArray.size*k.toNat)=true:=by
  rw[Jb hlen];exact fG
 have hnew:List.foldl (fun x1 x2=>x1++x2) #[] (List.replicate (if its.toArray.isEmpty=true then 0 else k.toNat) its.toArray)=(List.replicate k.toNat its).flatten.toArray:=by
  have f0:∀ m:Nat,List.foldl (fun x1 x2=>x1++x2) #[] (List.replicate m its.toArray)=(List.replicate m its).flatten.toArray:=fun m=>by
   have:=foldl_rep its m [];rw[List.nil_append] at this;exact this
  rw[f0];cases its with
  |nil=>simp
  |cons a r'=>rw[aJ (by simp)]
 refine wpAny_binaryOp_repeat_ref (T:="list") (U:="int") (by decide) ⟨_,e,rfl⟩ (fun s'=>typeIs_int s' k t) noFill_list_mul F.fills_int_mul F.slot_int_rmul repeat_list F.slot_int_index.lookup
  (qJ F.slot_int_rmul (typeIs_int s k t) F.entry_int_rmul (F.args_int_rmul_2 _ _) (int___rmul___int_list k t l its.toArray n)
   ⟨e,rfl,⟨_,e,rfl⟩,qJ F.slot_list_mul ⟨_,e,rfl⟩ F.entry_list_mul (F.args_list_mul_2 _ _) (AutoListH.list___mul___list_int_3 l its.toArray n k t hfit hcap RV) ⟨e,?_⟩⟩)
 rw[hnew];exact⟨.ref _,_,I.a1T (t':=s.toks) (r.rep k.toNat) (by rw[len_rep,Nat.mul_comm];exact hz),rfl,q _ I.fresh⟩
end
end L2
namespace Att
open PySem PySem.W PySem.Calls PyProof.Rows
theorem yc{P:Params}{h:Heap}:∀(ns:List Int)(vs:List Value),WellAll P h vs (ns.map WData.int)->IntsAre vs ns:=by
 intro ns
 induction ns with
 |nil=>
  intro vs w;rw[Ht] at w;cases w;exact .nil
 |cons n ns ih=>
  intro vs w;rw[fH] at w;cases w with
  |cons a b=>
   cases a;exact .cons _ _ (ih _ b)
theorem R3{l:OpenLaw}{n:Nat}(hn:l.most=some n){P:Params}{h:Heap}{args:List WData}{vals:List Value}
  (hpre:l.row.toRowW.claim.pre args=true) (hwl:WellAll P h vals args) :
  ∃ a vs ns,vals=[Value.ref a]/\args=[WData.list (ns.map WData.int)]/\h.get? a=some { cls:=.type "list",data:=.seq vs.toArray }/\IntsAre vs ns/\ns.length<=n:=by
 have hsh:WShape.hasAll [] args [.list .int]=true:=(pre_splitW hpre).1;have hc:l.pre.holds [] { args:=args }=true:=(pre_splitW hpre).2;obtain⟨d,r,rfl,h1,h2⟩:=hasAllW_cons hsh;obtain rfl:=hasAllW_nil h2;obtain⟨xs,rfl,h3⟩:=hasW_list h1;obtain⟨ns,rfl⟩:=items_int h3;have hlen:ns.length<=n:=by
  unfold OpenLaw.pre at hc;have h4:(WTm.not (.lt (.lit (.int (n:Int))) (.len (.arg 0)))).holds [] { args:=[.list (ns.map .int)] }=true:=by
   have h4:=(holds_andW hc).1;rw[hn] at h4;exact h4
  have h5:=condW_of h4 (w_not (w_lt w_lit (w_len_list (w_arg rfl))));rw[aV] at h5;refine Nat.le_of_not_lt fun q=>?_
  have q':(n:Int)<((ns.length:Nat):Int):=by omega
  first
   |(rw[bT q'] at h5;exact absurd h5 (by decide))
   |(simp at h5;omega)
 cases hwl with
 |cons w1 w2=>
  cases w2;cases w1 with
  |list ho hall=>exact⟨_,_,ns,rfl,rfl,ho,yc ns _ hall,hlen⟩
theorem QS(l:OpenLaw)(args:List WData):l.row.toRowW.claim.post args (.bool true) args=true:=
 postW_of (r:=l.row.toRowW) (X:=(true==true))
  (show WShape.has [] (.bool true) .bool=true by first|rfl|decide|simp[WShape.has,WShape.arms,WShape.armsAll])
  (show(WTm.eq .res (.lit (.bool true))).value [] { args:=args,res:=some (.bool true),after:=args }=some (.bool (true==true)) from w_eq_bool (w_res rfl) w_lit) rfl
theorem HJ{l:OpenLaw}{n:Nat}{q:Program}{loose:List Str}{XP:(Str->Option Value)->Heap->Prop}{YP:World->Heap->Prop}{d:DefRec}
  (hn:l.most=some n) (hdf:d.params.defaults=[])
  (call:∀(w:World)(s₀ s₁:Shared)(mg mb:Str->Option Value)(fa:Addr)(o:Obj)(pm cd doc:Value)(a:Addr)(vs:List Value)(ns:List Int),
   Ground q loose [] XP w s₀ mg mb s₁.heap->YP w s₁.heap ->
   s₁.heap.get? fa=some o->o.data=.func (docDef d.name d.params d.body d.scope pm cd doc)->s₁.heap.CodeRec cd d.name->mg d.name=some (.ref fa) ->
   s₁.heap.get? a=some { cls:=.type "list",data:=.seq vs.toArray }->IntsAre vs ns->ns.length<=n->s₁.gens=#[] ->
   codeAny (model l.prog w) callerA (.call (.ref fa) ⟨[.ref a],[]⟩) (fun r s'=>r=.ok (.ret (.bool true))/\OldK s₁.heap s'.heap/\s'.os=s₁.os/\AllBare s'.gens) s₁) :
  WalkO q loose XP YP l.row.toRowW d [] (fun f vs=>PySem.call f vs):=by
 intro w s₀ s₁ mg mb G Y fa o pm cd doc dV kV ho hd hcd hD hmg hg args vals as hpre hlay hrd hwl hlo;obtain rfl:dV=.none:=Dflts.none hD hdf;obtain rfl:kV=.none:=Dflts.noKw hD;obtain⟨a,vs,ns,rfl,rfl,hobj,hints,hlen⟩:=R3 hn hpre hwl;refine enter_call (wR (call w s₀ s₁ mg mb fa o pm cd doc a vs ns G Y ho (fd_plain hd) hcd hmg hobj hints hlen hg) fun r s' hq=>?_);obtain⟨rfl,h2,h3,h4⟩:=hq;exact⟨.inl ⟨.bool true,.bool true,[],rfl,fun _=>rfl,.bool true,QS l _,fun _=>⟨List.Pairwise.nil,fun _ hm=>(nomatch hm)⟩⟩,h2,h3,h4⟩
end Att
namespace L2
open PySem PySem.Spec PyProof.Rows
theorem Eh:∀ {vs:List Value} {ns:List Int},IntsAre vs ns->Vals (ns.map V.int) vs
 |_,_,.nil=>.nil
 |_,_,.cons n t h=>.cons ⟨t,rfl⟩ (Eh h)
def Only(H:Hp):Prop:=∀ b,H b=none\/∃ o xs,H b=some (.frz o (.lst xs))
theorem Sh{P:Program}{w:World}{K:ao}{mg mb:Str->Option Value}{CX:CXT}{k:Nat}{fa a:Addr}{fd:FuncData}{x:Str}{sp:Sp}{s₁:Shared}{vs:List Value}{ns:List Int}
  (KX:K.In s₁.heap) (hns:s₁.heap.Ns mainGlobals mg) (hb:s₁.heap.Ns builtinsNs mb) (hbb:∀ x:Str,x ≠ "__name__" -> mb x=bootBuiltins x) (hlim:s₁.heap.NoLimit) (hg:s₁.gens=#[])
  (ha:s₁.heap.get? a=some { cls:=.type "list",data:=.seq vs.toArray }) (hi:IntsAre vs ns) (hl:ns.length<=sizeLine) (hr:gq k callerA)
  (F:∀ base:Heap,K.In base->base.Ns mainGlobals mg->cC P w K mg base CX k fa fd [x] sp) (hbind:∀(s:Shared)(u:Value),BindsTo s fd ⟨[u],[]⟩ [(x,u)])
  (hsp:∀ H:Hp,Only H->SqL K H a (ns.map V.int)->sp [.ref a] H (fun v _=>v=.bl true) fun _ _ _=>False)
  (hCX:∀ H e s',CX [] H s₁ (fun _ _ _=>False) e s'->False) :
  codeAny (model P w) callerA (.call (.ref fa) ⟨[.ref a],[]⟩) (fun r s'=>r=.ok (.ret (.bool true))/\OldK s₁.heap s'.heap/\s'.os=s₁.os/\AllBare s'.gens) s₁:=by
 have rv:=Eh hi;have lenV:=hi.length;have core:∀ H:Hp,Only H->SqL K H a (ns.map V.int)->HOk P w H s₁.heap->(∀ b,H b≠none->b=a)->(H a≠none->K.lookup a=none) ->
   codeAny (model P w) callerA (.call (.ref fa) ⟨[.ref a],[]⟩) (fun r s'=>r=.ok (.ret (.bool true))/\OldK s₁.heap s'.heap/\s'.os=s₁.os/\AllBare s'.gens) s₁:=by
  intro H hO hS hok hA hK;have Nq:∀ {b:Addr} {o:Obj},s₁.heap.get? b=some o->H b=none->(Fy s₁.heap H).get? b=some o:=fun e n=>RP e n
  have noA:∀ {b:Addr} {o:Obj} {es:Array DictEntry} {ep:Nat},s₁.heap.get? b=some o->o.data=.dict es ep->H b=none:=fun {b o es ep} e d=>by
   cases q:H b with
   |none=>rfl
   |some u=>
    have e':b=a:=hA b (by rw[q];simp);subst e';rw[ha] at e;cases e;have d':Data.seq vs.toArray _=Data.dict es ep:=d;cases d'
  have nsK:∀ {b:Addr} {m:Str->Option Value},s₁.heap.Ns b m->(Fy s₁.heap H).Ns b m:=fun {b m} ⟨o,es,ep,e,d,r⟩=>⟨o,es,ep,Nq e (noA e d),d,r⟩
  have hKb:K.In (Fy s₁.heap H):=fun b o e=>Nq (KX b o e) (by
   cases q:H b with
   |none=>rfl
   |some u=>
    have e':b=a:=hA b (by rw[q];simp);subst e';rw[hK (by rw[q];simp)] at e;cases e)
  have hM:Mod K mg (Fy s₁.heap H):=⟨hKb,nsK hns,⟨mb,nsK hb,hbb⟩,let ⟨mc,h1,h2⟩:=hlim;⟨mc,nsK h1,h2⟩⟩
  have e0:JW P w K mg (Fy s₁.heap H) callerA [] s₁ H:=⟨rfl,hM,fun b o e=>X5 e,Nat.le_of_eq (Qa _ _),trivial,fun b hb=>absurd (show b∈([]:List Addr) from hb) (by simp),hok,.of_eq hg⟩
  refine wR ((F _ hKb (nsK hns)).run callerA [] s₁ H ⟨[.ref a],[]⟩ [.ref a] [.ref a] _ _ hr e0 (hbind s₁ (.ref a)) (.cons rfl .nil) (hsp H hO hS)) fun r s' h=>?_
  cases r with
  |error e=>exact(hCX H e s' h).elim
  |ok fl=>
   cases fl with
   |next=>exact False.elim h
   |brk=>exact False.elim h
   |cont=>exact False.elim h
   |ret u=>
    obtain⟨v,H',os,bare,un,hok',r',q⟩:=h;have q':v=.bl true:=q;subst q';obtain rfl:u=Value.bool true:=r';refine⟨rfl,OldK.of_keep fun b o e=>?_,os,bare⟩;cases q:H b with
    |none=>exact un.keep b o e q (by intro z;exact absurd (show b∈([]:List Addr) from z) (by simp)) (by simp)
    |some u=>
     rcases hO b with z|⟨ob,xs,z⟩
     ·rw[q] at z;cases z
     ·have z2:=un.qe b ob _ z;obtain⟨e1,_⟩:=hok b _ z;obtain⟨e2,_⟩:=hok' b _ z2;rw[e] at e1;cases e1;exact e2
 cases hk:K.lookup a with
 |some o=>
  have e:=KX a o hk;rw[ha] at e;cases e;refine core (fun _=>none) (fun _=>.inl rfl) (.inr ⟨_,vs.toArray,_,hk,rfl,rfl,rfl,by rw[cR,lenV];exact hl,by simpa using rv⟩) (fun b u z=>by have z':(none:Option HO)=some u:=z;cases z') (fun b z=>absurd rfl z) fun z=>absurd rfl z
 |none=>
  refine core (fun b=>if b=a then some (.frz { cls:=.type "list",data:=.seq vs.toArray } (.lst (ns.map V.int))) else none) (fun b=>?_) (.inl (.inr ⟨{ cls:=.type "list",data:=.seq vs.toArray },aL rfl⟩)) (fun b u z=>?_) (fun b z=>?_) fun _=>hk
  ·by_cases hb:b=a
   ·exact .inr ⟨_,_,aL hb⟩
   ·exact .inl (aJ hb)
  ·by_cases hb:b=a
   ·have z':=(aL hb).symm.trans z;cases z';subst hb;exact⟨ha,by rw[aV];exact hl,vs,_,rv,ha⟩
   ·have z':=(aJ hb).symm.trans z;cases z'
  ·by_cases hb:b=a
   ·exact hb
   ·exact absurd (aJ hb) z
theorem Yv{l:PySem.W.OpenLaw}{n k:Nat}{q:Program}{loose:List Str}{XP:(Str->Option Value)->Heap->Prop}{YP:World->Heap->Prop}{d:DefRec}{K:Params->ao}{CX:World->CXT}{sp:World->Sp}{x:Str}
  (hn:l.most=some n) (hn2:n<=sizeLine) (hdf:d.params.defaults=[]) (hr:gq k callerA)
  (hY:∀(w:World)(h:Heap),YP w h->(K w.params).In h)
  (F:∀(w:World)(mg:Str->Option Value)(fa:Addr)(h:Heap),(K w.params).In h->h.Ns mainGlobals mg->mg d.name=some (.ref fa) ->
   ∃ fd:FuncData,(∀(s:Shared)(u:Value),BindsTo s fd ⟨[u],[]⟩ [(x,u)]) /\
    ∀ base:Heap,(K w.params).In base->base.Ns mainGlobals mg->cC l.prog w (K w.params) mg base (CX w) k fa fd [x] (sp w))
  (hsp:∀(w:World)(H:Hp)(a:Addr)(ns:List Int),ns.length<=n->Only H->SqL (K w.params) H a (ns.map V.int)->sp w [.ref a] H (fun v _=>v=.bl true) fun _ _ _=>False)
  (hCX:∀(w:World)(H:Hp)(s:Shared)(e:Value)(s':Shared),CX w [] H s (fun _ _ _=>False) e s'->False) :
  PySem.W.WalkO q loose XP YP l.row.toRowW d [] (fun f vs=>PySem.call f vs):=by
 refine Att.HJ hn hdf fun w s₀ s₁ mg mb fa o pm cd doc a vs ns G Y ho hd hcd hmg hobj hints hlen hg=>?_
 have KX:=hY w _ Y;obtain⟨fd,hb,hF⟩:=F w mg fa _ KX G.T.g hmg;exact Sh KX G.T.g G.T.b G.T.builtins G.T.nolimit hg hobj hints (cP hlen hn2) hr hF hb (fun H hO hS=>hsp w H a ns hlen hO hS) fun H e s'=>hCX w H s₁ e s'
def inClass(s:Stmt)(j:Nat):Stmt:=match s with
 |.ClassDef _ _ _ body _ _ _ _ _ _ _=>body.getD j (.Pass ⟨0,0,0,0⟩)
 |_=>.Pass ⟨0,0,0,0⟩
def iG(s:Stmt):Arguments:=match s with
 |.FunctionDef _ a _ _ _ _ _ _ _ _=>a
 |_=>{ posonlyargs:=[],args:=[],vararg:=none,kwonlyargs:=[],kw_defaults:=[],kwarg:=none,defaults:=[] }
def fL(s:Stmt):List Stmt:=match s with
 |.FunctionDef _ _ b _ _ _ _ _ _ _=>b
 |_=>[]
def aG(s:Stmt):Scope:=match s with
 |.FunctionDef _ _ _ _ _ _ sc _ _ _=>sc
 |_=>{ kind:=.function,names:=[],isGenerator:=false,isCoroutine:=false }
abbrev E0:XK:=fun _ _ _=>False
structure Fun(K:ao)(x qual:Str)(st:Stmt)(f:Addr)(fd:FuncData):Prop where
 ex:∃(oc:Value)(od:Option Addr)(kV doc pm:Value)(an:Option Addr)(cdv ct:Value)(osl:Array (Option Value)),
  fd=PySem.W.fnOf x qual (iG st) (fL st) (aG st) .none kV doc pm an cdv ct/\K.lookup f=some ⟨oc,od,.func fd,osl⟩/\PySem.W.codeIn K cdv qual=true
 kp:PySem.W.keepIn K (.ref f)=true
section
variable{P:Program}{w:World}{K:ao}{mg:Str->Option Value}{base:Heap}
theorem Fun.binds{x qual:Str}{st:Stmt}{f:Addr}{fd:FuncData}{ps:List Str}(F:Fun K x qual st f fd)
  (h:∀(kV doc pm:Value)(an:Option Addr)(cdv ct:Value)(us:List Value),us.length=ps.length->bindArgs (PySem.W.fnOf x qual (iG st) (fL st) (aG st) .none kV doc pm an cdv ct) ⟨us,[]⟩=pure (ps.zip us)):Binds K fd ps []:=by
 obtain⟨oc,od,kV,doc,pm,an,cdv,ct,osl,rfl,lk,hcd⟩:=F.ex;exact .all (h kV doc pm an cdv ct)
theorem RL{x qual:Str}{st:Stmt}{f:Addr}{oc:Value}{od an:Option Addr}{osl:Array (Option Value)}{kV doc pm cdv ct:Value}(l:K.lookup f=some ⟨oc,od,.func (PySem.W.fnOf x qual (iG st) (fL st) (aG st) .none kV doc pm an cdv ct),osl⟩)
  (c:PySem.W.codeIn K cdv qual=true) (k:PySem.W.keepIn K (.ref f)=true):Fun K x qual st f (PySem.W.fnOf x qual (iG st) (fL st) (aG st) .none kV doc pm an cdv ct):=⟨⟨oc,od,kV,doc,pm,an,cdv,ct,osl,rfl,l,c⟩,k⟩
end
theorem oJ{A B:Prop}(h:B):if false=true then A else B:=by
 rw[aJ fG];exact h
theorem Iz{A B:Prop}(h:A):if true=true then A else B:=by
 rw[aL rfl];exact h
theorem Cj{c A B:Prop} [Decidable c] (h1:c->A) (h2:¬c->B):if c then A else B:=by
 by_cases h:c
 ·rw[aL h];exact h1 h
 ·rw[aJ h];exact h2 h
def Same(H H':Hp):Prop:=∀ b o,H b=some o->H' b=some o
theorem Same.refl(H:Hp):Same H H:=fun _ _ h=>h
theorem Same.trans{H H1 H2:Hp}(a:Same H H1)(b:Same H1 H2):Same H H2:=fun c o h=>b c o (a c o h)
theorem Same.free{H H':Hp}(e:Same H H'){l:Addr}(h:H' l=Option.none):H l=Option.none:=by
 cases q:H l with
 |none=>rfl
 |some o=>
  rw[e l o q] at h;cases h
theorem Same.seq{K:ao}{H H':Hp}{a:Addr}{xs:List V}(e:Same H H')(h:SqL K H a xs):SqL K H' a xs:=by
 rcases h with(h|⟨o,h⟩)|h
 ·exact .inl (.inl (e _ _ h))
 ·exact .inl (.inr ⟨o,e _ _ h⟩)
 ·exact .inr h
end L2
namespace L2
open PySem PySem.Spec PyProof.Rows
theorem Vals.a1z{x:V}{u:Value}(r:RelV x u):Vals [x] [u]:=.cons r .nil
theorem Inv.track{X:Cx}{pins:List (Addr×Obj)}{zzs:St}{H:Hp}{s:Shared}{D:Addr}{o:HO}(I:Inv X pins zzs H s)(hn:H D=none)(h0:X.s₀.heap.objs.size<=D)(hL:D≠X.env.locals)
  (hc:∀ x c,X.env.cells.lookup x=some c->c≠D) (hp:∀ p∈X.pn++pins,p.1≠D) (new:eU X.prog X.w (upd H D o) s.heap D o):Inv X pins zzs (upd H D o) s:=by
 have ne:∀ b u,H b=some u->b≠D:=fun b u e=>bV e hn
 refine⟨I.ok,I.os,I.bare,⟨I.base.keep,I.base.slot,fun b u e n hx=>?_,I.base.there,fun b xs e=>?_,fun b u xs e=>?_,fun b ps e=>?_⟩,I.loc,I.cell,?_,fun x c e=>?_,fun p q=>?_,fun b u e=>?_,I.len⟩
 ·rw[bF (fW (jg (bI e) h0))];exact I.base.free b u e n hx
 ·have e':=I.base.tups b xs e;rw[bF (ne b _ e')];exact e'
 ·have e':=I.base.qe b u xs e;rw[bF (ne b _ e')];exact e'
 ·obtain⟨more,e'⟩:=I.base.rG b ps e;exact⟨more,by rw[bF (ne b _ e')];exact e'⟩
 ·rw[bF (lM hL)];exact I.free
 ·rw[bF (hc x c e)];exact I.nu x c e
 ·obtain⟨a1,a2,a3,a4,a5⟩:=I.pin p q;exact⟨a1,by rw[bF (hp p q)];exact a2,a3,a4,a5⟩
 ·by_cases hb:b=D
  ·subst hb;rw[aD] at e;cases e;exact new
  ·rw[bF hb] at e;exact(I.hok b u e).stay (fun c v _ q=>q) (fun c q=>by rw[bF (ne c _ q)];exact q) fun c xs q=>by rw[bF (ne c _ q)];exact q
def dD:List (Str×NameKind)->List (Str×Addr)->List (Str×Addr)->List (Str×Addr)
 |[],_,acc=>acc
 |(n,k)::r,cells,acc=>if k==.free then dD r cells ((n,(cells.lookup n).getD 0)::acc) else dD r cells acc
theorem Kd{env:Env}:∀(names:List (Str×NameKind))(acc:List (Str×Addr)),(∀ y∈names,y.2=.free->∃ c,env.cells.lookup y.1=some c) ->
  (forIn names acc fun x cs=>(if x.2==NameKind.free then do let a <- cellOf env x.1;pure (ForInStep.yield ((x.1,a)::cs)) else pure (ForInStep.yield cs):Sem (ForInStep (List (Str×Addr)))))=pure (dD names env.cells acc):=by
 intro names
 induction names with
 |nil=>intro acc _;rfl
 |cons p r ih=>
  intro acc h;obtain⟨n,k⟩:=p;rw[List.forIn_cons];have hr:∀ y∈r,y.2=.free->∃ c,env.cells.lookup y.1=some c:=fun y hy=>h y (fK _ hy)
  by_cases hk:k=.free
  ·subst hk;obtain⟨c,hc⟩:=h (n,.free) dJ rfl;have hc':env.cells.lookup n=some c:=hc;have e1:cellOf env n=pure c:=by unfold cellOf;rw[hc']
   have e2:dD ((n,NameKind.free)::r) env.cells acc=dD r env.cells ((n,c)::acc):=by
    show(if(NameKind.free==NameKind.free)=true then _ else _)=_;rw[aL (by decide),hc'];rfl
   rw[e2,<- ih ((n,c)::acc) hr];simp only[MJ,mV,e1,pure_bind]
  ·have hb:(k==NameKind.free)=false:=by simpa using hk
   have e2:dD ((n,k)::r) env.cells acc=dD r env.cells acc:=by
    show(if(k==NameKind.free)=true then _ else _)=_;rw[hb];rfl
   rw[e2,<- ih acc hr];simp only[hb,BP,lK,pure_bind]
theorem z8{env:Env}{scope:Scope}(h:∀ y∈scope.names,y.2=.free->∃ c,env.cells.lookup y.1=some c):closureFor scope env=pure (dD scope.names env.cells []):=by
 rw[<- Kd scope.names [] h];unfold closureFor;simp only[bind_pure]
theorem oA:∀(names:List (Str×NameKind)){cells acc:List (Str×Addr)}{x:Str}{c:Addr},(∀ y∈names,y.2=.free->∃ c,cells.lookup y.1=some c)->(∀ y d,acc.lookup y=some d->cells.lookup y=some d) ->
  (dD names cells acc).lookup x=some c->cells.lookup x=some c:=by
 intro names
 induction names with
 |nil=>intro cells acc x c _ h e;exact h x c e
 |cons p r ih=>
  intro cells acc x c h ha e;obtain⟨n,k⟩:=p;have hr:∀ y∈r,y.2=.free->∃ c,cells.lookup y.1=some c:=fun y hy=>h y (fK _ hy)
  by_cases hk:k=.free
  ·subst hk;obtain⟨d,hd⟩:=h (n,.free) dJ rfl;have hd':cells.lookup n=some d:=hd;have e2:dD ((n,NameKind.free)::r) cells acc=dD r cells ((n,d)::acc):=by
    show(if(NameKind.free==NameKind.free)=true then _ else _)=_;rw[aL (by decide),hd'];rfl
   rw[e2] at e;refine ih hr (fun y q z=>?_) e;rw[xV] at z;split at z
   ·rename_i hy;have hy':y=n:=by simpa using hy
    subst hy';cases z;exact hd'
   ·exact ha y q z
  ·have hb:(k==NameKind.free)=false:=by simpa using hk
   have e2:dD ((n,k)::r) cells acc=dD r cells acc:=by
    show(if(k==NameKind.free)=true then _ else _)=_;rw[hb];rfl
   rw[e2] at e;exact ih hr ha e
theorem CT:∀(names:List (Str×NameKind)){cells acc:List (Str×Addr)}{x:Str},((x,NameKind.free)∈names\/∃ d,acc.lookup x=some d)->∃ c,(dD names cells acc).lookup x=some c:=by
 intro names
 induction names with
 |nil=>
  intro cells acc x h;rcases h with h|h
  ·exact absurd h (by simp)
  ·exact h
 |cons p r ih=>
  intro cells acc x h;obtain⟨n,k⟩:=p;by_cases hk:k=.free
  ·subst hk;have e2:dD ((n,NameKind.free)::r) cells acc=dD r cells ((n,(cells.lookup n).getD 0)::acc):=by
    show(if(NameKind.free==NameKind.free)=true then _ else _)=_;rw[aL (by decide)]
   rw[e2];refine ih ?_;by_cases hx:x=n
   ·exact .inr ⟨(cells.lookup n).getD 0,by subst hx;simp[xV]⟩
   ·rcases h with h|⟨d,h⟩
    ·rcases cO.mp h with q|q
     ·exact absurd (congrArg Prod.fst q) hx
     ·exact .inl q
    ·refine .inr ⟨d,?_⟩;rw[xV];have:(x==n)=false:=by simpa using hx
     rw[this];exact h
  ·have hb:(k==NameKind.free)=false:=by simpa using hk
   have e2:dD ((n,k)::r) cells acc=dD r cells acc:=by
    show(if(k==NameKind.free)=true then _ else _)=_;rw[hb];rfl
   rw[e2];refine ih ?_;rcases h with h|h
   ·rcases cO.mp h with q|q
    ·exact absurd (congrArg Prod.snd q).symm hk
    ·exact .inl q
   ·exact .inr h
theorem qp{env:Env}:∀(names:List (Str×NameKind))(x:Str),
  (names.map fun(n,k)=>if(k==NameKind.free&&env.scope.kind==.function&&env.kindOf n==some .cell) then(n,NameKind.cell) else(n,k)).lookup x =
   (names.lookup x).map fun k=>if(k==NameKind.free&&env.scope.kind==.function&&env.kindOf x==some .cell) then NameKind.cell else k
 |[],_=>rfl
 |(n,k)::r,x=>by
  have ih:=@qp env r x;show List.lookup x ((if(k==NameKind.free&&env.scope.kind==.function&&env.kindOf n==some .cell)=true then(n,NameKind.cell) else(n,k))::_)=_;by_cases hx:x=n
  ·subst hx;by_cases hc:(k==NameKind.free&&env.scope.kind==.function&&env.kindOf x==some .cell)=true
   ·rw[aL hc];simp only[xV,MJ,tH];rw[aL hc]
   ·rw[aJ hc];simp only[xV,MJ,tH];rw[aJ hc]
  ·have hb:(x==n)=false:=by simpa using hx
   by_cases hc:(k==NameKind.free&&env.scope.kind==.function&&env.kindOf n==some .cell)=true
   ·rw[aL hc];simp only[xV,hb];exact ih
   ·rw[aJ hc];simp only[xV,hb];exact ih
def vG(scope outer:Scope)(N:List Str)(x:Str):Bool:=
 (scope.kind==.function)&&scope.names.all (fun y=>!(y.2==.cell))&&scope.names.all (fun y=>!(y.2==.local)||(y.1==x||y.1 == ".0")) &&
  scope.names.all (fun y=>!(y.2==.local)||scope.names.lookup y.1==some .local)&&(scope.names.lookup x==some .local) &&
  scope.names.all (fun y=>!(y.2==.free)||(outer.names.lookup y.1==some .cell||outer.names.lookup y.1==some .free)) &&
  !(N.contains ".0")&&(scope.names.lookup (x ++ "'")==none)&&decide (x::N.map fun y=>if y=x then x ++ "'" else y).Nodup
def CV(N:List Str)(x:Str):List Str:=x::N.map fun y=>if y=x then x ++ "'" else y
structure Ek(scope outer:Scope)(N:List Str)(x:Str):Prop where
 kind:scope.kind=.function
 SM:∀ y∈scope.names,y.2≠.cell
 loc:∀ y∈scope.names,y.2=.local->y.1=x\/y.1 = ".0"
 names:∀ y∈scope.names,y.2=.local->scope.names.lookup y.1=some .local
 own:scope.names.lookup x=some .local
 free:∀ y∈scope.names,y.2=.free->outer.names.lookup y.1=some .cell\/outer.names.lookup y.1=some .free
 dot:(".0" : Str)∉N
 prime:scope.names.lookup (x ++ "'")=none
 nd:(CV N x).Nodup
theorem zf{scope outer:Scope}{N:List Str}{x:Str}(h:vG scope outer N x=true):Ek scope outer N x:=by
 unfold vG at h;simp only[mF,jy,Bool.or_eq_true,pF,jR,mz,decide_eq_true_eq] at h;obtain⟨⟨⟨⟨⟨⟨⟨⟨h1,h2⟩,h3⟩,h4⟩,h5⟩,h6⟩,h7⟩,h8⟩,h9⟩:=h;refine⟨h1,h2,fun y hy e=>?_,fun y hy e=>?_,h5,fun y hy e=>?_,?_,h8,h9⟩
 ·rcases h3 y hy with z|z
  ·exact absurd e z
  ·exact z
 ·rcases h4 y hy with z|z
  ·exact absurd e z
  ·exact z
 ·rcases h6 y hy with z|z
  ·exact absurd e z
  ·exact z
 ·intro z;have:N.contains ".0" = true:=List.contains_iff_mem.mpr z;rw[this] at h7;cases h7
theorem Fd{prog:Program}{w:World}{A:Around}{R:Result->Shared->Prop}{s:Shared}{elt target iter:Expr}{ifs:List Expr}{scope:Scope}{pos:Pos}{it acc:Value}{env:Env}(I:Nat->Shared->Prop)
  (turn:∀ n s,I n s->wpAny (model prog w) A (pyNext it) (fun r s₁=>match r with
   |none=>R (.ok .next) s₁
   |some v=>wpAny (model prog w) A (letOwnedTupleGo target it v) (fun _ s₁=>wpAny (model prog w) A (assign target env v) (fun _ s₂=>
     wpAny (model prog w) A (forIn ifs true fun c r=>if r=true then do let ok <- isTrue c env (eval c env);pure (ForInStep.yield ok) else pure (ForInStep.yield r)) (fun ok s₃=>
      if ok=true then wpAny (model prog w) A (eval elt env) (fun x s₄=>
       wpAny (model prog w) A (call (.builtin "list.append") [acc,x]) (fun _ s₅=>∃ m,m<n/\I m s₅) (fun _ _=>False) s₄) (fun _ _=>False) s₃
      else ∃ m,m<n/\I m s₃) (fun _ _=>False) s₂) (fun _ _=>False) s₁) (fun _ _=>False) s₁) (fun _ _=>False) s)
  (n:Nat) (h:I n s) :
  codeAny (model prog w) A (.compLoop (.ListComp elt [⟨target,iter,ifs,0⟩] scope pos) 0 it acc env) R s:=by
 refine codeAny_loop rfl I (fun n s hI=>?_) n h;show wpAny _ A ((compTurn (.ListComp elt [⟨target,iter,ifs,0⟩] scope pos) 0 it acc env).onRaise (fun x=>do noteFrame x env;theTreesLotGoes x)) _ _ s;refine wpAny_noted ?_;rw[compTurn_list];refine bQ (Ho (bQ (iT (turn n s hI) (fun r s₁ h₁=>?_) fun _ _ h'=>h'.elim)));cases r with
 |none=>exact cQ h₁
 |some v=>
  refine bQ (iT h₁ (fun _ s₁ h₁=>?_) fun _ _ h'=>h'.elim);refine bQ (iT h₁ (fun _ s₂ h₂=>bQ (iT h₂ (fun ok s₃ h₃=>?_) fun _ _ h'=>h'.elim)) fun _ _ h'=>h'.elim);cases ok with
  |false=>exact cQ ⟨rfl,h₃⟩
  |true=>
   exact bQ (bQ (iT h₃ (fun x s₄ h₄=>bQ (iT h₄ (fun _ s₅ h₅=>cQ (cQ ⟨rfl,h₅⟩)) fun _ _ h'=>h'.elim)) fun _ _ h'=>h'.elim))
section
variable{X:Cx}
def Hw(X:Cx)(ifs:List Expr)(t:TT):Prop:=
 ∀(pins:List (Addr×Obj))(s:Shared)(zzs:St)(H:Hp)(Q:Bool->Hp->Prop),Inv X pins zzs H s->t zzs H Q ->
  wpAny (model X.prog X.w) X.A (forIn ifs true fun c r=>if r=true then do let ok <- isTrue c X.env (eval c X.env);pure (ForInStep.yield ok) else pure (ForInStep.yield r)) (TP X pins zzs Q) X.xe s
def R5:TT:=fun _ H Q=>Q true H
theorem Xy:Hw X [] R5:=fun _ _ _ H _ I h=>wpAny_tests_nil ⟨H,I,h⟩
theorem Xz{c:Expr}{t:TT}(h:PT X c t):Hw X [c] t:=fun pins s zzs H Q I hw=>wpAny_tests_one (h pins s zzs H Q I hw)
def iZ(X:Cx)(x:Str)(scope:Scope)(s:Shared)(H:Hp)(ex:List Addr):Cx:=
 { X with
  N:=CV X.N x
  s₀:=s
  H₀:=H
  env:=compEnvC scope (dD scope.names X.env.cells []) s.heap.objs.size X.env
  outer:=X.stack
  stack:=X.stack
  ex:=ex
  fn:=fun _=>false
  pn:=[]
  xe:=fun _ _=>False }
def pJ(J:It)(tc:TT)(te:TE)(zzs:St)(fin:List V->Hp->Prop)(W:Nat->Nat->List V->Hp->Prop):Prop:=
 ∀ i m ys H,W i m ys H->ys.length<=sizeLine/\((J.stop i H/\fin ys H) \/
  (J.go i H/\∀ v H',J.yld i H v H'->tc (some v::zzs) H' fun b H2=>if b=true then te (some v::zzs) H2 fun y H3=>∃ m',m'<m/\W (i+1) m' (ys++[y]) H3 else ∃ m',m'<m/\W (i+1) m' ys H2))
theorem lookup_mem{α:Type}:∀ {l:List (Str×α)} {x:Str} {k:α},l.lookup x=some k->(x,k)∈l
 |[],_,_,h=>by simp at h
 |(n,k')::r,x,k,h=>by
  rw[xV] at h;split at h
  ·rename_i hx;have:x=n:=by simpa using hx
   subst this;cases h;exact dJ
  ·exact fK _ (lookup_mem h)
theorem Pr{N:List Str}{x y:Str}{i:Nat}(h:(CV N x)[i+1]?=some y):(N[i]?=some y/\y≠x)\/y=x ++ "'":=by
 unfold CV at h;rw[List.getElem?_cons_succ,cV] at h;cases e:N[i]? with
 |none=>rw[e] at h;cases h
 |some z=>
  rw[e] at h;have h':(if z=x then x ++ "'" else z)=y:=by simpa using h
  by_cases hz:z=x
  ·rw[aL hz] at h';exact .inr h'.symm
  ·rw[aJ hz] at h';subst h';exact .inl ⟨rfl,hz⟩
theorem Ke{x:Str}{scope:Scope}{pins:List (Addr×Obj)}{zzs:St}{H:Hp}{s:Shared}{h₁:Heap}{ex:List Addr}(ok:Ek scope X.env.scope X.N x)(hc:X.calm=true)(I:Inv X pins zzs H s)
  (hns:h₁.Ns s.heap.objs.size fun _=>none) (hk:∀ b o,s.heap.get? b=some o->h₁.get? b=some o)
  (hex:∀ b∈ex,b<s.heap.objs.size/\b≠X.env.locals/\b∉X.fs/\H b=none/\(b∈X.ex\/X.s₀.heap.objs.size<=b)/\(∀ y c,X.env.cells.lookup y=some c->c≠b)) {tk:Nat} :
  Inv (iZ X x scope s H ex) [] (none::zzs) H { s with heap:=h₁,toks:=tk }:=by
 have hfree:∀ y∈scope.names,y.2=.free->∃ c,X.env.cells.lookup y.1=some c:=fun y hy e=>I.ok.has y.1 (ok.free y hy e)
 have cl:∀ y c,(dD scope.names X.env.cells []).lookup y=some c->X.env.cells.lookup y=some c:=fun y c e=>oA scope.names hfree (fun _ _ z=>by simp at z) e
 have clt:∀ y c,X.env.cells.lookup y=some c->c<s.heap.objs.size:=fun y c e=>by
  obtain⟨v,q⟩:=I.cell y c e;exact q.lt
 have O5:∀ y,(compEnvC scope (dD scope.names X.env.cells []) s.heap.objs.size X.env).kindOf y=(scope.names.lookup y).map fun k=>if(k==NameKind.free&&X.env.scope.kind==.function&&X.env.kindOf y==some .cell) then NameKind.cell else k:=fun y=>qp scope.names y
 have freeOf:∀ y,(∃ k,(compEnvC scope (dD scope.names X.env.cells []) s.heap.objs.size X.env).kindOf y=some k/\(k=.cell\/k=.free))->(y,NameKind.free)∈scope.names:=fun y ⟨k,e,hk⟩=>by
  rw[O5] at e;cases q:scope.names.lookup y with
  |none=>rw[q] at e;cases e
  |some k'=>
   have mem:=lookup_mem q;by_cases hf:k'=.free
   ·subst hf;exact mem
   ·rw[q] at e;have hb:(k'==NameKind.free)=false:=by simpa using hf
    simp only[tH,hb,wN,BP,lK,Bb] at e;subst e;rcases hk with z|z
    ·exact absurd z (ok.SM _ mem)
    ·exact absurd z hf
 have Yt:∀ b∈frs X.stack,b=X.env.locals\/b∈X.fs:=fun b hb=>cO.mp (I.sY b hb)
 refine⟨⟨I.ok.mod,?_,I.ok.glob,I.ok.blt,bK _,fun y z c e1 e2=>?_,fun y hy=>?_,fun y c z _=>?_,fun _=>I.ok.hd hc,I.ok.frames,.inl rfl,fun b hb=>⟨?_,fun y c e=>?_⟩,fun b o e=>?_,?_,fun b o e hb=>?_,fun b hb hf=>?_,?_,fun b hb=>?_⟩,
  rfl,I.bare,Un.kept hk,⟨_,hns,fun i y v e1 e2 e3=>?_⟩,fun y c e=>?_,I.hok.fresh (bK _),fun y c e=>I.nu y c (cl y c e),fun p hp=>?_,I.hok.kept hk,?_⟩
 ·exact ok.kind
 ·exact I.ok.inj y z c (cl y c e1) (cl z c e2)
 ·have hm:(y,NameKind.free)∈scope.names:=by
   rcases hy with z|z
   ·exact freeOf y ⟨_,z,.inl rfl⟩
   ·exact freeOf y ⟨_,z,.inr rfl⟩
  exact CT scope.names (.inl hm)
 ·exact absurd (show false=true from z) (by decide)
 ·exact fW (hex b hb).1
 ·exact(hex b hb).2.2.2.2.2 y c (cl y c e)
 ·obtain⟨e1,e2⟩:=I.bs b o e;exact⟨e1,e2⟩
 ·exact cP I.ok.bsz I.sz
 ·rcases(hex b hb).2.2.2.2.1 with z|z
  ·exact I.ok.Qq b o e z
  ·exact absurd (jg (bI (I.ok.bs b o e).1) z) (qM _)
 ·rcases Yt b hf with z|z
  ·exact(hex b hb).2.1 z
  ·exact(hex b hb).2.2.1 z
 ·exact I.stack
 ·exact I.uL b hb
 ·cases i with
  |zero=>
   have:(none::zzs)[0]?=some (some v):=e2;simp at this
  |succ i=>
   have e2':zzs[i]?=some (some v):=by simpa using e2
   have vis:Vis (relabel scope X.env) y:=e3;rcases Pr e1 with⟨eN,hyx⟩|hp
   ·
    have kf:(y,NameKind.free)∈scope.names:=by
     have k3:∃ k,(compEnvC scope (dD scope.names X.env.cells []) s.heap.objs.size X.env).kindOf y=some k/\(k=.local\/k=.cell\/k=.free):=by
      rcases vis with z|z|z
      ·exact⟨_,z,.inl rfl⟩
      ·exact⟨_,z,.inr (.inl rfl)⟩
      ·exact⟨_,z,.inr (.inr rfl)⟩
     obtain⟨k,e,hk3⟩:=k3;rcases hk3 with hl|hk3
     ·subst hl;have e':=e;rw[O5] at e';cases q:scope.names.lookup y with
      |none=>rw[q] at e';cases e'
      |some k'=>
       have mem:=lookup_mem q;rw[q] at e';have hk':k'=.local:=by
        by_cases RM:(k'==NameKind.free&&X.env.scope.kind==.function&&X.env.kindOf y==some .cell)=true
        ·simp only[tH,RM,mV,Bb] at e';cases e'
        ·simp only[tH,RM,BP,lK,Bb] at e';exact e'
       subst hk';rcases ok.loc _ mem rfl with z|z
       ·exact absurd z hyx
       ·have:y = ".0":=z;subst this;exact absurd (fV eN) ok.dot
     ·exact freeOf y ⟨k,e,hk3⟩
    have hout:=ok.free _ kf rfl;have a3w:Vis X.env.scope y:=by
     rcases hout with z|z
     ·exact .inr (.inl z)
     ·exact .inr (.inr z)
    obtain⟨m,hn,hl⟩:=I.loc;obtain⟨u,ru,lk⟩:=hl i y v eN e2' a3w;refine⟨u,ru,?_⟩;rcases lk with⟨lk,_⟩|⟨_,c,ec,hcell⟩
    ·have lk':X.env.scope.names.lookup y=some .local:=lk;rcases hout with z|z<;>(have z':X.env.scope.names.lookup y=_:=z;rw[lk'] at z';cases z')
    ·obtain⟨c',ec'⟩:=CT (cells:=X.env.cells) (acc:=[]) scope.names (.inl kf);have:c'=c:=by
      have:=cl y c' ec';rw[ec] at this;cases this;rfl
     subst this;have kk:(compEnvC scope (dD scope.names X.env.cells []) s.heap.objs.size X.env).kindOf y=some .cell\/(compEnvC scope (dD scope.names X.env.cells []) s.heap.objs.size X.env).kindOf y=some .free:=by
      rcases vis with z|z|z
      ·
       have z':(compEnvC scope (dD scope.names X.env.cells []) s.heap.objs.size X.env).kindOf y=some .local:=z;rw[O5] at z';cases q:scope.names.lookup y with
       |none=>rw[q] at z';cases z'
       |some k'=>
        have mem:=lookup_mem q;rw[q] at z';have hk':k'=.local:=by
         by_cases RM:(k'==NameKind.free&&X.env.scope.kind==.function&&X.env.kindOf y==some .cell)=true
         ·simp only[tH,RM,mV,Bb] at z';cases z'
         ·simp only[tH,RM,BP,lK,Bb] at z';exact z'
        subst hk';rcases ok.loc _ mem rfl with zz|zz
        ·exact absurd zz hyx
        ·have:y = ".0":=zz;subst this;exact absurd (fV eN) ok.dot
      ·exact .inl z
      ·exact .inr z
     refine .inr ⟨kk,c',ec',?_⟩;obtain⟨oc,hoc,hd⟩:=hcell;exact⟨oc,hk _ _ hoc,hd⟩
   ·subst hp;exfalso;have kn:(compEnvC scope (dD scope.names X.env.cells []) s.heap.objs.size X.env).kindOf (x ++ "'")=none:=by rw[O5,ok.prime];rfl
    rcases vis with z|z|z
    ·have z':(compEnvC scope (dD scope.names X.env.cells []) s.heap.objs.size X.env).kindOf (x ++ "'")=some .local:=z;rw[kn] at z';cases z'
    ·have z':(compEnvC scope (dD scope.names X.env.cells []) s.heap.objs.size X.env).kindOf (x ++ "'")=some .cell:=z;rw[kn] at z';cases z'
    ·have z':(compEnvC scope (dD scope.names X.env.cells []) s.heap.objs.size X.env).kindOf (x ++ "'")=some .free:=z;rw[kn] at z';cases z'
 ·obtain⟨v,oc,hoc,hd⟩:=I.cell y c (cl y c e);exact⟨v,oc,hk _ _ hoc,hd⟩
 ·exact absurd (show p∈([]:List (Addr×Obj)) from hp) (by simp)
 ·show(none::zzs).length=(CV X.N x).length;unfold CV;rw[gP,gP,aV,I.len]
end
section
variable{X:Cx}
theorem Heap.SameBut.keeps{a:Addr}{h h':Heap}(k:Heap.SameBut a h h'){b:Addr}{o:Obj}(hb:b≠a)(e:h.get? b=some o):h'.get? b=some o:=(k.2 b hb).trans e
theorem Pu{x:Str}{px pos:Pos}{scope:Scope}{elt iter:Expr}{ifs:List Expr}{tc:TT}{te:TE}{pins:List (Addr×Obj)}{zzs:St}{H₂:Hp}{s₃:Shared}{h₁:Heap}{tk:Nat}{it D:Addr}{fp:List Addr}{tn:Nat->Heap->Prop}{J:It}{fin:List V->Hp->Prop}
  {W:Nat->Nat->List V->Hp->Prop} {RR:Value->Addr->Result->Shared->Prop}
  (ok:Ek scope X.env.scope X.N x) (hc:X.calm=true) (hif:∀ s H ex,Hw (iZ X x scope s H ex) ifs tc) (he:∀ s H ex,PE (iZ X x scope s H ex) elt te)
  (I3:Inv X pins zzs H₂ s₃) (T:Turn X.prog X.w X.K (.Name x px) J fp it tn) (st:tn 0 s₃.heap) (f2:∀ b∈fp,rW X pins H₂ b) (w0:∃ m,W 0 m [] H₂) (hW:pJ J tc te zzs fin W)
  (yt:H₂ D=none) (fD:rW X pins H₂ D) (h0D:X.s₀.heap.objs.size<=D) (O2:s₃.heap.get? D=some { cls:=.type "list",dict:=none,data:=.seq ([]:List Value).toArray }) (Dfp:D∉fp)
  (hns₁:h₁.Ns s₃.heap.objs.size fun _=>none) (vP:∀ b o,s₃.heap.get? b=some o->h₁.get? b=some o)
  (hRR:∀ D C ys H' s',H' D=none->fin ys H'->Inv X pins zzs (upd H' D (.lst ys)) s'->rW X pins (upd H' D (.lst ys)) C->(∃ m,s'.heap.Ns C m)->RR (.ref D) C (.ok .next) s') :
  codeAny (model X.prog X.w) X.A (.compLoop (.ListComp elt [⟨.Name x px,iter,ifs,0⟩] scope pos) 0 (.ref it) (.ref D) (compEnvC scope (dD scope.names X.env.cells []) s₃.heap.objs.size X.env)) (RR (.ref D) s₃.heap.objs.size) { s₃ with heap:=h₁,toks:=tk }:=by
 have a1M:∀ b∈fp,∃ o,s₃.heap.get? b=some o/\∀ v,o.data≠.cell v:=T.obj 0 s₃.heap st;have hex:∀ b∈D::fp,b<s₃.heap.objs.size/\b≠X.env.locals/\b∉X.fs/\H₂ b=none/\(b∈X.ex\/X.s₀.heap.objs.size<=b)/\(∀ y c,X.env.cells.lookup y=some c->c≠b):=fun b hb=>by
  rcases cO.mp hb with e|hb
  ·subst e;obtain⟨g0,g1,g2,g3,g4,g5⟩:=fD;exact⟨bI O2,g1,g2,g0,g3,g4⟩
  ·obtain⟨g0,g1,g2,g3,g4,g5⟩:=f2 b hb;obtain⟨o,eo,_⟩:=a1M b hb;exact⟨bI eo,g1,g2,g0,g3,g4⟩
 have I4:=Ke (ex:=D::fp) (tk:=tk) ok hc I3 hns₁ vP hex;generalize hY:iZ X x scope s₃ H₂ (D::fp)=Y at I4;have Hz:Y.prog=X.prog:=by rw[<- hY];rfl
 have Yw:Y.w=X.w:=by rw[<- hY];rfl
 have YK:Y.K=X.K:=by rw[<- hY];rfl
 have YA:Y.A=X.A:=by rw[<- hY];rfl
 have Yc:Y.calm=true:=by rw[<- hY];exact hc
 have YN:Y.N.Nodup:=by rw[<- hY];exact ok.nd
 have Y0:Y.N[0]?=some x:=by rw[<- hY];rfl
 have K1:Y.env=compEnvC scope (dD scope.names X.env.cells []) s₃.heap.objs.size X.env:=by rw[<- hY];rfl
 have Yx:Y.env.scope.names.lookup x=some .local:=by rw[K1];exact lookup_relabel_local ok.own
 have Yfs:Y.fs=frs X.stack:=by rw[<- hY];rfl
 have Yex:Y.ex=D::fp:=by rw[<- hY];rfl
 have Ys0:Y.s₀=s₃:=by rw[<- hY];rfl
 have YH0:Y.H₀=H₂:=by rw[<- hY];rfl
 have Ypn:Y.pn=[]:=by rw[<- hY];rfl
 have Yxe:Y.xe=fun _ _=>False:=by rw[<- hY];rfl
 have a2Z:Hw Y ifs tc:=by rw[<- hY];exact hif _ _ _
 have he':PE Y elt te:=by rw[<- hY];exact he _ _ _
 have Dne:D≠Y.env.locals:=by rw[K1];exact fW (bI O2)
 have Dfs:D∉Y.fs:=by
  rw[Yfs];intro hb;rcases cO.mp (I3.sY D hb) with z|z
  ·exact fD.2.1 z
  ·exact fD.2.2.1 z
 have a1u:∀ y c,Y.env.cells.lookup y=some c->c≠D:=fun y c e=>by
  have hfree:∀ y∈scope.names,y.2=.free->∃ c,X.env.cells.lookup y.1=some c:=fun y hy e=>I3.ok.has y.1 (ok.free y hy e)
  rw[K1] at e;exact fD.2.2.2.2.1 y c (oA scope.names hfree (fun _ _ z=>by simp at z) e)
 have fpY:∀ {H':Hp} {pl:List (Addr×Obj)},(∀ b∈fp,H' b=none)->(∀ p∈pl,p.1∉fp)->∀ b∈fp,rW Y pl H' b:=fun {H' pl} hn hp b hb=>by
  obtain⟨g0,g1,g2,g3,g4,g5⟩:=f2 b hb;have hlt:=(hex b (fK _ hb)).1;refine⟨hn b hb,?_,?_,.inl (by rw[Yex];exact fK _ hb),fun y c e=>?_,fun p q z=>?_⟩
  ·rw[K1];exact fW hlt
  ·rw[Yfs];intro z;rcases cO.mp (I3.sY b z) with z|z
   ·exact g1 z
   ·exact g2 z
  ·have hfree:∀ y∈scope.names,y.2=.free->∃ c,X.env.cells.lookup y.1=some c:=fun y hy e=>I3.ok.has y.1 (ok.free y hy e)
   rw[K1] at e;exact g4 y c (oA scope.names hfree (fun _ _ z=>by simp at z) e)
  ·rw[Ypn,List.nil_append] at q;exact hp p q (by rw[z];exact hb)
 have DY:∀ {H':Hp},H' D=none->rW Y [] H' D:=fun {H'} hn=>⟨hn,Dne,Dfs,.inl (by rw[Yex];exact dJ),a1u,fun p q=>absurd (show p∈([]:List (Addr×Obj)) by rw[Ypn] at q;exact q) (by simp)⟩
 have a2c:∀ {bG:St} {H':Hp} {s':Shared} {its:Array Value} {n:Nat},Inv Y [] bG H' s'->H' D=none->s'.heap.get? D=some { cls:=.type "list",data:=.seq its n }->Inv Y [(D,{ cls:=.type "list",data:=.seq its n })] bG H' s':=fun {bG H' s' its n} J' hn e=>by
  refine J'.uy fun p hp=>?_
  have:p=(D,{ cls:=.type "list",data:=.seq its n }):=by simpa using hp
  subst this;exact⟨e,hn,Dne,Dfs,fun v z=>by
   have z':Data.seq its n=Data.cell v:=z;cases z'⟩
 rw[<- K1];obtain⟨m0,w0⟩:=w0;refine Fd (fun m s'=>∃ i ys N8 H' its n,Inv Y [(D,{ cls:=.type "list",data:=.seq its n })] (N8::zzs) H' s'/\tn i s'.heap/\(∀ b∈fp,H' b=none)/\Vals ys its.toList/\W i m ys H') ?_ m0
  ⟨0,[],none,H₂,_,_,a2c I4 yt (vP D _ O2),T.keep 0 _ _ st (fun b _ o e=>vP b o e),fun b hb=>(f2 b hb).1,.nil,w0⟩
 rintro m s' ⟨i,ys,N8,H',its,n,J',st',fr',rv,w'⟩;obtain⟨hle,hW'⟩:=hW i m ys H' w';have hDn:H' D=none:=(J'.pin (D,{ cls:=.type "list",data:=.seq its n }) (by simp)).2.1;have fpn:∀ p∈[((D,{ cls:=.type "list",data:=.seq its n }):Addr×Obj)],p.1∉fp:=fun p hp=>by
  have:p=(D,{ cls:=.type "list",data:=.seq its n }):=by simpa using hp
  subst this;exact Dfp
 rcases hW' with⟨stop,hf⟩|⟨go,step⟩
 ·
  have h9:=T.done Y Hz Yw YK Yc i _ s' (N8::zzs) H' (fun _ _=>False) J' (fpY fr' fpn) st' stop;rw[YA] at h9;refine thn h9 fun r s5 zzy=>?_
  obtain⟨hr,J5⟩:=zzy;subst hr;show RR (.ref D) s₃.heap.objs.size (.ok .next) s5;have eD:=(J5.pin (D,{ cls:=.type "list",data:=.seq its n }) (by simp)).1;have un:Un (frs X.stack) (D::fp) H₂ H' s₃.heap s5.heap:=by
   have:=J5.base;rw[Yfs,Yex,YH0,Ys0] at this;exact this
  have a3b:HOk X.prog X.w H' s5.heap:=by
   have:=J5.hok;rw[Hz,Yw] at this;exact this
  have os5:s5.os=s₃.os:=by have:=J5.os;rw[Ys0] at this;exact this
  have I5:Inv X pins zzs H' s5:=I3.call' os5 un a3b J5.bare fun b hb=>by
   rcases cO.mp hb with e|hb
   ·subst e;exact⟨fD.2.2.2.1,fD.2.1,fD.2.2.2.2.1,fD.2.2.2.2.2⟩
   ·obtain⟨g0,g1,g2,g3,g4,g5⟩:=f2 b hb;exact⟨g3,g1,g4,g5⟩
  have I6:Inv X pins zzs (upd H' D (.lst ys)) s5:=I5.track hDn h0D fD.2.1 fD.2.2.2.2.1 fD.2.2.2.2.2 ⟨hle,its.toList,n,rv,by simpa using eD⟩;obtain⟨mC,hnC,_⟩:=J5.loc;have eL:Y.env.locals=s₃.heap.objs.size:=by rw[K1];rfl
  have hCn:H' s₃.heap.objs.size=none:=by have:=J5.free;rw[eL] at this;exact this
  refine hRR D s₃.heap.objs.size ys H' s5 hDn hf I6 ?_ ⟨mC,by rw[<- eL];exact hnC⟩;exact I3.Iv (bK _) (by rw[bF (Bs (bI O2))];exact hCn)
 ·
  have h9:=T.item Y Hz Yw YK Yc i _ s' (N8::zzs) H' (fun _ _=>False) J' (fpY fr' fpn) st' go;rw[YA] at h9;refine thn h9 fun r s5 zzy=>?_
  obtain⟨u,hr,h5⟩:=zzy;subst hr;refine thn h5 fun _ s6 zzy=>?_
  obtain⟨v,H6,J6,rv6,y6,st6,fr6⟩:=zzy;have a3G:H6 D=none:=(J6.pin (D,{ cls:=.type "list",data:=.seq its n }) (by simp)).2.1;have J6':=J6.pinned (fp:=fp) (fpY fr6 fpn) (T.obj _ _ st6);have hst:=step v H6 y6;refine Mv ?_;have a3c:∀ Q',(∀ s7,Inv Y ([(D,{ cls:=.type "list",data:=.seq its n })]++sI fp s6.heap) (some v::zzs) H6 s7->Q' () s7)->wpAny (model X.prog X.w) X.A (storeName Y.env x u) Q' (fun _ _=>False) s6:=fun Q' hQ'=>
   qG (i:=0) (zzs:=N8::zzs) J6' YN Y0 (.inl Yx) rv6 (fun s7 J7=>hQ' s7 J7) (.inr Yx)
  refine a3c _ fun s7 J7=>?_
  have h10:=a2Z _ s7 (some v::zzs) H6 _ J7 hst;rw[Hz,Yw,YA,Yxe] at h10;refine thn h10 fun b s8 zzy=>?_
  obtain⟨H8,J8,q8⟩:=zzy;have again:∀ {s9:Shared} {H9:Hp} {ys':List V} {its':Array Value} {n':Nat},Inv Y [] (some v::zzs) H9 s9->(∀ b∈fp,H9 b=none/\∀ o,s6.heap.get? b=some o->s9.heap.get? b=some o)->H9 D=none ->
    s9.heap.get? D=some { cls:=.type "list",data:=.seq its' n' }->Vals ys' its'.toList->(∃ m',m'<m/\W (i+1) m' ys' H9) ->
    ∃ m',m'<m/\∃ i ys N8 H' its n,Inv Y [(D,{ cls:=.type "list",data:=.seq its n })] (N8::zzs) H' s9/\tn i s9.heap/\(∀ b∈fp,H' b=none)/\Vals ys its.toList/\W i m' ys H':=fun {s9 H9 ys' its' n'} J9 a1L hD9 eD9 rv9 hw9=>by
   obtain⟨m',hm,w9⟩:=hw9;exact⟨m',hm,i+1,ys',some v,H9,its',n',a2c J9 hD9 eD9,T.keep _ _ _ st6 (fun b hb o e=>(a1L b hb).2 o e),fun b hb=>(a1L b hb).1,rv9,w9⟩
  have a2d:∀ {VR:St} {H9:Hp} {s9:Shared},Inv Y ([(D,{ cls:=.type "list",data:=.seq its n })]++sI fp s6.heap) VR H9 s9->∀ b∈fp,H9 b=none/\∀ o,s6.heap.get? b=some o->s9.heap.get? b=some o:=fun {VR H9 s9} J9 b hb=>by
   obtain⟨o,eo,_⟩:=T.obj _ _ st6 b hb;have p:=J9.pin (b,o) (je _ (je _ (sG hb eo)));exact⟨p.2.1,fun o' e'=>by rw[eo] at e';cases e';exact p.1⟩
  have a2e:∀ {VR:St} {H9:Hp} {s9:Shared},Inv Y ([(D,{ cls:=.type "list",data:=.seq its n })]++sI fp s6.heap) VR H9 s9->s9.heap.get? D=some { cls:=.type "list",data:=.seq its n }/\H9 D=none:=fun {VR H9 s9} J9=>by
   have p:=J9.pin (D,{ cls:=.type "list",data:=.seq its n }) (je _ (iB _ (by simp)));exact⟨p.1,p.2.1⟩
  cases b with
  |false=>
   show ∃ m',m'<m/\_;have q8':∃ m',m'<m/\W (i+1) m' ys H8:=q8;obtain⟨eD8,hD8⟩:=a2e J8;exact again (J8.uy fun p hp=>absurd hp (by simp)) (a2d J8) hD8 eD8 rv q8'
  |true=>
   show wpAny _ _ _ _ _ _;have q8':te (some v::zzs) H8 fun y H3=>∃ m',m'<m/\W (i+1) m' (ys++[y]) H3:=q8
   have h11:=he' _ s8 (some v::zzs) H8 _ J8 q8';rw[Hz,Yw,YA,Yxe] at h11;refine thn h11 fun yv s9 zzy=>?_
   obtain⟨y,H9,J9,ry,q9⟩:=zzy;obtain⟨eD9,hD9⟩:=a2e J9;have hz:its.size<=sizeLine:=by have:=rv.length;simp only[jf] at this;lia
   refine wpAny_list_append_plain (hsz:=hz) ⟨n,eD9⟩ fun h' hl' hsb'=>?_
   obtain⟨n',eD'⟩:=hl';have J9':Inv Y [] (some v::zzs) H9 s9:=J9.uy fun p hp=>absurd hp (by simp)
   obtain⟨g0,g1,g2,g3,g4,g5⟩:=DY hD9;have J10:Inv Y [] (some v::zzs) H9 { s9 with heap:=h' }:=J9'.turned (t':=s9.toks) (fun b o hb e=>Heap.SameBut.keeps hsb' hb e) g0 g1 g3 g4 g5;refine again J10 (fun b hb=>?_) hD9 eD' (by simpa using rv.append (Vals.a1z ry)) q9;have p9:=a2d J9 b hb;exact⟨p9.1,fun o e=>Heap.SameBut.keeps hsb' (fun z=>Dfp (z▸hb)) (p9.2 o e)⟩
theorem CW{x:Str}{px pos:Pos}{scope:Scope}{elt iter:Expr}{ifs:List Expr}{tc:TT}{te:TE}{pins:List (Addr×Obj)}{zzs:St}{H₂:Hp}{s₂:Shared}{it:Addr}{fp:List Addr}{tn:Nat->Heap->Prop}{J:It}{fin:List V->Hp->Prop}
  {W:Nat->Nat->List V->Hp->Prop} {RR:Value->Addr->Result->Shared->Prop} {E:Value->Shared->Prop}
  (ok:Ek scope X.env.scope X.N x) (hc:X.calm=true) (hif:∀ s H ex,Hw (iZ X x scope s H ex) ifs tc) (he:∀ s H ex,PE (iZ X x scope s H ex) elt te)
  (I2:Inv X pins zzs H₂ s₂) (T:Turn X.prog X.w X.K (.Name x px) J fp it tn) (st:tn 0 s₂.heap) (f2:∀ b∈fp,rW X pins H₂ b) (w0:∃ m,W 0 m [] H₂) (hW:pJ J tc te zzs fin W)
  (hRR:∀ D C ys H' s',H' D=none->fin ys H'->Inv X pins zzs (upd H' D (.lst ys)) s'->rW X pins (upd H' D (.lst ys)) C->(∃ m,s'.heap.Ns C m)->RR (.ref D) C (.ok .next) s') :
  wpAny (model X.prog X.w) X.A (newList []) (fun acc s₃=>wpAny (model X.prog X.w) X.A (newFunctionEnv scope X.env.globals (dD scope.names X.env.cells []) [] X.env.qual none .none (some X.env)) (fun cenv s₄=>
   codeAny (model X.prog X.w) X.A (.compStart (.ListComp elt [⟨.Name x px,iter,ifs,0⟩] scope pos) 0 (.ref it) acc { cenv with scope:=relabel scope X.env }) (RR acc cenv.locals) s₄) E s₃) E s₂:=by
 refine GJ (wpAny_newFunctionEnv ok.SM (by intro y hy;simp at hy) (fun h₁ hns₁ hsb₁=>?_) ok.kind);have I3:Inv X pins zzs H₂ { s₂ with heap:=s₂.heap.push { cls:=.type "list",dict:=none,data:=.seq ([]:List Value).toArray } }:=I2.kept (t':=s₂.toks) fun b o e=>gY _ e
 have vP:∀ b o,(s₂.heap.push { cls:=.type "list",dict:=none,data:=.seq ([]:List Value).toArray }).get? b=some o->h₁.get? b=some o:=fun b o e=>Heap.SameBut.keeps hsb₁ (fW (bI e)) (gY _ e)
 have S7:∀ b o,s₂.heap.get? b=some o->(s₂.heap.push { cls:=.type "list",dict:=none,data:=.seq ([]:List Value).toArray }).get? b=some o:=fun b o e=>gY _ e
 have yt:H₂ s₂.heap.objs.size=none:=I2.hok.fresh (bK _);have loop:=Pu (RR:=RR) (s₃:={ s₂ with heap:=s₂.heap.push { cls:=.type "list",dict:=none,data:=.seq ([]:List Value).toArray } }) (h₁:=h₁) (tk:=s₂.toks+([]:List (Str×Value)).length) (iter:=iter) (pos:=pos)
  ok hc hif he I3 T (T.keep 0 _ _ st fun b _ o e=>S7 b o e) f2 w0 hW yt (I2.Iv (bK _) yt) I2.sz (iR _ rfl) (fun hb=>by
   obtain⟨o,e,_⟩:=T.obj 0 _ st _ hb;exact qM _ (bI e)) (by simpa using hns₁) vP hRR
 exact codeAny_compStart_list loop (T.self _ 0 _ _ _ (T.keep 0 _ _ st fun b _ o e=>vP b o (S7 b o e)) loop)
def Z7(wi:TI)(tc:TT)(te:TE):TE:=fun zzs H Q=>wi zzs H fun J H1=>∃ W:Nat->Nat->List V->Hp->Prop,(∃ m,W 0 m [] H1)/\pJ J tc te zzs (fun ys H2=>∀ p,H2 p=none->Q (.ref p) (upd H2 p (.lst ys))) W
theorem Xn{x:Str}{px pos:Pos}{scope:Scope}{elt iter:Expr}{ifs:List Expr}{wi:TI}{tc:TT}{te:TE}(ok:vG scope X.env.scope X.N x=true)(hc:X.calm=true)(hi:PI X (.Name x px) iter wi)
  (hif:∀ s H ex,Hw (iZ X x scope s H ex) ifs tc) (he:∀ s H ex,PE (iZ X x scope s H ex) elt te) (hs:∀ v,foldedSetIterable iter X.env v=pure v:=by intro _;rfl) :
  PE X (.ListComp elt [⟨.Name x px,iter,ifs,0⟩] scope pos) (Z7 wi tc te):=by
 intro pins s zzs H Q I h;have ok':=zf ok;have hfree:∀ y∈scope.names,y.2=.free->∃ c,X.env.cells.lookup y.1=some c:=fun y hy e=>I.ok.has y.1 (ok'.free y hy e)
 rw[eval_ListComp];refine Vj (use:=none) rfl hs (z8 hfree) ok'.kind ok'.names (thn (hi pins s zzs H _ I h) fun v s1 h1=>thn h1 fun itv s2 h2=>?_);obtain⟨it,fp,tn,J,H2,e,I2,T,st2,f2,W,w0,hW⟩:=h2;subst e;refine CW (RR:=fun acc C=>compPost (model X.prog X.w) X.A X.xe none (EP X pins zzs Q) acc C) ok' hc hif he I2 T st2 f2 w0 hW fun D C ys H' s' hD fin I' fC hm=>?_
 obtain⟨m,hm⟩:=hm;refine⟨m,hm,fun h' hsb=>?_⟩;obtain⟨g0,g1,g2,g3,g4,g5⟩:=fC;exact⟨.ref D,_,I'.turned (t':=s'.toks) (fun b o hb e=>Heap.SameBut.keeps hsb hb e) g0 g1 g3 g4 g5,rfl,fin D hD⟩
def UG(i:Nat)(wi:TI)(tc:TT)(te:TE):TS:=fun D zzs H=>wi zzs H fun J H1=>∃ W:Nat->Nat->List V->Hp->Prop,(∃ m,W 0 m [] H1)/\pJ J tc te zzs (fun ys H2=>∀ p,H2 p=none->D.nx (zzs.set i (some (.ref p))) (upd H2 p (.lst ys))) W
theorem XH{i:Nat}{y x:Str}{py px pos spos:Pos}{scope:Scope}{elt iter:Expr}{ifs:List Expr}{wi:TI}{tc:TT}{te:TE}(hN:X.N.Nodup)(hiy:X.N[i]?=some y)(hy:X.env.scope.names.lookup y=some .local)
  (ok:vG scope X.env.scope X.N x=true) (hc:X.calm=true) (hi:PI X (.Name x px) iter wi)
  (hif:∀ s H ex,Hw (iZ X x scope s H ex) ifs tc) (he:∀ s H ex,PE (iZ X x scope s H ex) elt te)
  (hsw:swapsWith (.ListComp elt [⟨.Name x px,iter,ifs,0⟩] scope pos) (some (.Name y py)) spos.line X.env=pure true:=by rfl) (hs:∀ v,foldedSetIterable iter X.env v=pure v:=by intro _;rfl) :
  PS X (.Assign [.Name y py] (.ListComp elt [⟨.Name x px,iter,ifs,0⟩] scope pos) spos) (UG i wi tc te):=by
 intro pins s zzs H Dn I h;have ok':=zf ok;have hfree:∀ y∈scope.names,y.2=.free->∃ c,X.env.cells.lookup y.1=some c:=fun y hy e=>I.ok.has y.1 (ok'.free y hy e)
 rw[exec_Assign_Name_used _ _ _ _ hsw];refine bQ (Ho (bQ ?_));show wpAny _ X.A (do let _ <- comprehension (.ListComp elt [⟨.Name x px,iter,ifs,0⟩] scope pos) scope X.env _ (newList []) false (eval iter X.env) (some (assign (.Name y py) X.env))) _ _ s;refine bQ (iT (Vj (use:=some (assign (.Name y py) X.env)) (Q:=fun _ s'=>SP X pins Dn .next s') rfl hs (z8 hfree) ok'.kind ok'.names
  (thn (hi pins s zzs H _ I h) fun v s1 h1=>thn h1 fun itv s2 h2=>?_)) (fun _ s' hq=>cQ (cQ hq)) fun _ _ e=>e)
 obtain⟨it,fp,tn,J,H2,e,I2,T,st2,f2,W,w0,hW⟩:=h2;subst e;refine CW (RR:=fun acc C=>compPost (model X.prog X.w) X.A X.xe (some (assign (.Name y py) X.env)) (fun _ s'=>SP X pins Dn .next s') acc C) ok' hc hif he I2 T st2 f2 w0 hW fun D C ys H' s' hD fin I' fC hm=>?_
 obtain⟨m,hm⟩:=hm;show wpAny _ X.A (assign (.Name y py) X.env (.ref D)) _ _ _;obtain⟨g0,g1,g2,g3,g4,g5⟩:=fC;refine Mv (Ed (i:=i) (v:=.ref D) I' hN hiy (.inl hy) rfl (fun s'' I'' hch=>?_) (.inr hy));obtain⟨a,hsb,ha⟩:=hch;have hCa:C≠a:=by
  rcases ha with z|z
  ·rw[z];exact g1
  ·exact fun z'=>g4 _ _ z z'.symm
 refine⟨m,hm.sameBut hsb hCa,fun h' hsb'=>?_⟩;exact⟨_,_,I''.turned (t':=s''.toks) (fun b o hb e=>Heap.SameBut.keeps hsb' hb e) g0 g1 g3 g4 g5,fin D hD⟩
end
end L2
namespace L2
open PySem PySem.Spec PyProof.Rows
theorem eU.there{P:Program}{w:World}{H:Hp}{h:Heap}{a:Addr}{o:HO}(x:eU P w H h a o):∃ ob,h.get? a=some ob:=by
 cases o with
 |lst xs=>obtain⟨_,_,_,_,e⟩:=x;exact⟨_,e⟩
 |tup xs=>obtain⟨_,_,_,ob,e,_⟩:=x;exact⟨_,e⟩
 |dK kvs=>obtain⟨_,_,_,_,o,_,_,e,_⟩:=x;exact⟨_,e⟩
 |dT kvs=>obtain⟨_,_,_,_,o,_,_,e,_⟩:=x;exact⟨_,e⟩
 |set S n=>obtain⟨o,_,_,_,e,_⟩:=x;exact⟨_,e⟩
 |ins C dx fs=>obtain⟨_,_,_,e,_⟩:=x;exact⟨_,e⟩
 |own y=>obtain⟨_,e⟩:=x;exact⟨_,e⟩
 |xd fs=>obtain⟨_,⟨_,_,_,e,_⟩,_⟩:=x;exact⟨_,e⟩
 |rng lo hi=>obtain⟨_,_,_,e⟩:=x;exact⟨_,e⟩
 |frz ob u=>obtain⟨e,_⟩:=x;exact⟨_,e⟩
 |tbl ps=>exact⟨_,show h.get? a=some _ from x⟩
 |met f y=>exact⟨_,show h.get? a=some _ from x⟩
 |ext φ=>obtain⟨_,e,_⟩:=x;exact e
structure Fly(outer:List Env)(H':Hp)(h0:Heap)(ea C:Addr)(h:Heap):Prop where
 free:H' ea=none
 new:h0.get? ea=none
 fl:∃(B:Heap)(t:Addr),Heap.FlyingW B outer ea (.ref C) (.ref t) h/\∀ b o,h.get? b=some o->(H' b≠none\/∃ o',h0.get? b=some o')->b∉frs outer->B.get? b=some o
def CXE(P:Program)(w:World):CXT:=fun outer H s E e s'=>∃ ea C H',e=.ref ea/\s'.os=s.os/\AllBare s'.gens/\Un (frs outer) [] H H' s.heap s'.heap/\HOk P w H' s'.heap/\Fly outer H' s.heap ea C s'.heap/\E (.ref C) none H'
section
variable{P:Program}{w:World}{K:ao}{mg:Str->Option Value}{base:Heap}{N:List Str}{qual:Str}{scope:Scope}{f:Addr}{cd:Value}{A:Around}{outer:List Env}{s0:Shared}{H0:Hp}{E:XK}
theorem U8{pins:List (Addr×Obj)}{zzs:St}{H:Hp}{s:Shared}{h':Heap}{e C:Addr}{vs:List Value}(I:Inv (pG (CXE P w) P w K mg base N qual scope f cd A outer s0 H0 E) pins zzs H s)
  (hx:Heap.MadeExcOf s.heap h' e (.ref C) vs) (hE:E (.ref C) none H):(pG (CXE P w) P w K mg base N qual scope f cd A outer s0 H0 E).xe (.ref e) { s with heap:=h' }:=by
 have ZK:∀ b,b∈frs (envOfC qual scope s0.heap.objs.size f cd::outer)->b=s0.heap.objs.size\/b∈frs outer:=fun b hb=>cO.mp (I.sY b hb)
 have hB:∀ b o,s.heap.get? b=some o->b∉frs (envOfC qual scope s0.heap.objs.size f cd::outer)->(PySem.W.hideAll s.heap (frs (envOfC qual scope s0.heap.objs.size f cd::outer))).get? b=some o:=fun b o e n=>VB _ e n
 show wpAny (model P w) (A.deeper (envOfC qual scope s0.heap.objs.size f cd)) (leaving (envOfC qual scope s0.heap.objs.size f cd) (.ref e)) (fun _ s''=>CXE P w outer H0 s0 E (.ref e) s'') (fun e' s''=>CXE P w outer H0 s0 E e' s'') { s with heap:=h' };refine wpAny_leaves_madeW (base:=PySem.W.hideAll s.heap (frs (envOfC qual scope s0.heap.objs.size f cd::outer))) (h:=s.heap) I.ok.frames rfl (fun b o q=>VJ _ q)
  (PySem.W.funFrames_hide I.stack fun env he a ha=>Ay.mpr ⟨env,he,ha⟩) hx fun h'' t fl _ _ sm=>?_
 have new:s.heap.get? e=none:=hx.new;have sm':s.heap.UpToSlots h'':=(Heap.UpToSlots.of_keeps hx.keeps).trans sm;have stays:=fl.1;have iu:∀ b o,s.heap.get? b=some o->b∉frs (envOfC qual scope s0.heap.objs.size f cd::outer)->h''.get? b=some o:=fun b o q n=>stays b o (hB b o q n)
 have Qs:∀ b o,s0.heap.get? b=some o->b∉frs outer->b∉frs (envOfC qual scope s0.heap.objs.size f cd::outer):=fun b o q n hb=>by
  rcases ZK b hb with z|z
  ·exact fW (bI q) z
  ·exact n z
 have trk:∀ b u,H b=some u->b∉frs (envOfC qual scope s0.heap.objs.size f cd::outer):=fun b u q hb=>by
  have:=I.uL b hb;rw[q] at this;cases this
 have Ly:∀ b o,s0.heap.get? b=some o->∃ o',s.heap.get? b=some o':=fun b o q=>I.base.there b o q (by show b∉[];simp)
 refine⟨e,C,H,rfl,I.os,I.bare,⟨fun b o q n hb _=>?_,fun b o q n hb _=>?_,fun b o q n hx'=>I.base.free b o q n (by show b∉[];simp),fun b o q _=>?_,I.base.tups,I.base.qe,I.base.rG⟩,fun a o q=>?_,⟨?_,?_,?_⟩,hE⟩
 ·exact iu b o (I.base.keep b o q n hb (by show b∉[];simp)) (Qs b o q hb)
 ·obtain⟨sl,e1⟩:=I.base.slot b o q n hb (by show b∉[];simp);obtain⟨_,o',ho',hd⟩:=I.uc.mem hb;rw[e1] at ho';cases ho';obtain⟨sl',e2⟩:=sm' b _ e1 hd;exact⟨sl',e2⟩
 ·obtain⟨o',e1⟩:=Ly b o q;by_cases hb:b∈frs (envOfC qual scope s0.heap.objs.size f cd::outer)
  ·obtain⟨_,o2,ho2,hd⟩:=I.stack.mem hb;obtain⟨sl',e2⟩:=sm' b _ ho2 hd;exact⟨_,e2⟩
  ·exact⟨o',iu b o' e1 hb⟩
 ·refine(I.hok a o q).stay (fun b u hb z=>iu b u z ?_) (fun _ z=>z) fun _ _ z=>z
  rcases hb with rfl|hb
  ·exact trk b o q
  ·exact trk b _ hb
 ·cases q:H e with
  |none=>rfl
  |some o=>
   obtain⟨ob,z⟩:=(I.hok e o q).there;rw[new] at z;cases z
 ·cases q:s0.heap.get? e with
  |none=>rfl
  |some o=>
   obtain⟨ob,z⟩:=Ly e o q;rw[new] at z;cases z
 ·refine⟨_,t,fl,fun b o q hb n=>?_⟩;have key:∃ o',s.heap.get? b=some o'/\b∉frs (envOfC qual scope s0.heap.objs.size f cd::outer):=by
   rcases hb with z|⟨o',z⟩
   ·cases r:H b with
    |none=>exact absurd r z
    |some u=>
     obtain⟨ob,y⟩:=(I.hok b u r).there;exact⟨ob,y,trk b u r⟩
   ·obtain⟨o2,y⟩:=Ly b o' z;exact⟨o2,y,Qs b o' z n⟩
  obtain⟨o',y,n'⟩:=key;have:=iu b o' y n';rw[q] at this;cases this;exact hB b o y n'
end
structure gQ(K:ao)(C:Addr):Prop where
 ex:PySem.W.excIn K C [.type "ValueError",.type "Exception",.type "BaseException",.type "object"] "ValueError.__new__" = true
theorem gQ.obj{K:ao}{C:Addr}(c:gQ K C){h:Heap}(X:K.In h):∃ tl N nm q bs hdct sn sub ab col dd k0 k1 k2 k3 k5 mN,h.get? C=some (excClassObj nm q C N bs tl hdct sn sub ab col dd k0 k1 k2 k3 k5 "ValueError.__new__")/\h.Ns N mN/\mN "__init__" = none /\
  OwnTail h [.type "ValueError",.type "Exception",.type "BaseException",.type "object"] tl:=by
 have q:=c.ex;unfold PySem.W.excIn at q;split at q
 ·rename_i dd cd sl ho;split at q
  ·rename_i C' bm k0 k1 k2 k3 n k5 hm hs;simp only[mF,jR,pF] at q;obtain⟨⟨⟨⟨⟨rfl,rfl⟩,hdel⟩,ht⟩,hok⟩,hni⟩:=q;obtain⟨nm,bs,mro,ns,qn,hd,sn,sub,ab,col,del⟩:=cd;dsimp only at hm hdel hok hni;subst hm hdel;have hsl:sl=#[k0,k1,k2,k3,some (.builtin "ValueError.__new__"),k5]:=by
    obtain⟨l⟩:=sl;simp only at hs;rw[hs]
   subst hsl;exact⟨bm,ns,nm,qn,bs,hd,sn,sub,ab,col,dd,k0,k1,k2,k3,k5,_,X _ _ ho,.of_isNs (PySem.W.isNs_of_in X hok),PySem.W.nsMap_none_of_in X hok hni,PySem.W.tail_of_in X ht⟩
  ·cases q
 ·cases q
def V1(t:TA)(C:Addr)(E:XK):TS:=fun _ zzs H=>t zzs H fun vs H1=>vs.length<=sizeLine/\E (.ref C) none H1
section
variable{P:Program}{w:World}{K:ao}{mg:Str->Option Value}{base:Heap}{N:List Str}{qual:Str}{scope:Scope}{f:Addr}{cd:Value}{A:Around}{outer:List Env}{s0:Shared}{H0:Hp}{E:XK}
theorem TF{x:Str}{np cpos pos:Pos}{e₀:Expr}{rest:List Expr}{t:TA}{C:Addr}(c:gQ K C)(hg:Gl (pG (CXE P w) P w K mg base N qual scope f cd A outer s0 H0 E) x)(hm:mg x=some (.ref C))(hh:A.handled=none)
  (ha:PA (pG (CXE P w) P w K mg base N qual scope f cd A outer s0 H0 E) (e₀::rest) t) (hd:(x==("__debug__" : Str))=false:=by decide)
  (he:starEach (e₀::rest) (envOfC qual scope s0.heap.objs.size f cd)=(false,eval e₀ (envOfC qual scope s0.heap.objs.size f cd))::starEach rest (envOfC qual scope s0.heap.objs.size f cd):=by rfl)
  (hplain:(backTo cpos (starEach rest (envOfC qual scope s0.heap.objs.size f cd))).any (·.1)=false:=by rfl) :
  PS (pG (CXE P w) P w K mg base N qual scope f cd A outer s0 H0 E) (.Raise (some (.Call (.Name x np) (e₀::rest) [] cpos)) none pos) (V1 t C E):=by
 intro pins s zzs H D I h;obtain⟨tl,Na,nm,q,bs,hdct,sn,sub,ab,col,dd,k0,k1,k2,k3,k5,mN,hC,hN,hni,T⟩:=c.obj I.mod.kin;refine wpAny_Raise_call_subU (C:=C) (nm:=nm) (q:=q) (N:=Na) (bs:=bs) (bm:=tl) (hdct:=hdct) (sn:=sn) (sub:=sub) (ab:=ab) (col:=col) (dd:=dd) (k0:=k0) (k1:=k1) (k2:=k2) (k3:=k3) (k5:=k5)
  Gu (by decide) Gu (mN:=mN) (T.hasType Gu.hasBase) hh (by
   show(backTo cpos (starEach (e₀::rest) (envOfC qual scope s0.heap.objs.size f cd))).any (·.1)=false;rw[he];show(false||(backTo cpos (starEach rest (envOfC qual scope s0.heap.objs.size f cd))).any (·.1))=false;rw[hplain];rfl) hni (qY I hg hm ⟨rfl,?_⟩ hd)
 have h2:=ha cpos pins s zzs H _ I h;show wpAny (model P w) _ (evalArgs (.ref C) true (backTo cpos (starEach (e₀::rest) (envOfC qual scope s0.heap.objs.size f cd))) []) _ _ s;have h3:wpAny (model P w) (A.deeper (envOfC qual scope s0.heap.objs.size f cd)) (spliced (backTo cpos (starEach (e₀::rest) (envOfC qual scope s0.heap.objs.size f cd)))) _ _ s:=h2;rw[he] at h3 ⊢;refine Calls.evalArgs_plain (iT h3 (fun vs s₂ h₂=>?_) fun _ _ y=>y);obtain⟨xs,H1,I1,r,hz,hE⟩:=h₂;have keep:∀ b o,base.get? b=some o->s₂.heap.get? b=some o:=I1.bk;exact⟨rfl,by rw[<- r.length];exact hz,keep _ _ hC,hN.keeps keep,T.keeps keep,fun h' e hx=>U8 I1 hx hE⟩
end
section
variable{X:Cx}
def XP(X:Cx)(pins:List (Addr×Obj))(Ex:St->Value->Hp->Prop)(ev:Value)(s':Shared):Prop:=∃ zzs H s,Inv X pins zzs H s/\CXE X.prog X.w X.stack H s (fun c _ H'=>Ex zzs c H') ev s'
abbrev TEX:=St->Hp->VK->(Value->Hp->Prop)->Prop
def PEX(X:Cx)(e:Expr)(t:TEX):Prop:=
 ∀(pins:List (Addr×Obj))(s:Shared)(zzs:St)(H:Hp)(Q:VK)(E:Value->Hp->Prop),Inv X pins zzs H s->t zzs H Q E->wpAny (model X.prog X.w) X.A (eval e X.env) (EP X pins zzs Q) (XP X pins fun bG c H'=>bG=zzs/\E c H') s
abbrev TSX:=Ends->(St->Value->Hp->Prop)->St->Hp->Prop
def PSX(X:Cx)(st:List Stmt)(t:TSX):Prop:=
 ∀(pins:List (Addr×Obj))(s:Shared)(zzs:St)(H:Hp)(D:Ends)(Ex:St->Value->Hp->Prop),Inv X pins zzs H s->t D Ex zzs H->wpAny (model X.prog X.w) X.A (execs st X.env) (SP X pins D) (XP X pins Ex) s
variable{k:Nat}{f C:Addr}{fd:FuncData}{ps:List Str}{sp:Sp}{dvs:List V}{ds:List Value}{x:Str}{p pos:Pos}{e:Expr}{es:List Expr}{t:TA}{CX:CXT}{E:XK}
theorem Yn{pins:List (Addr×Obj)}{zzs:St}{H:Hp}{s:Shared}{Q:VK}{us:List Value}{vs:List V}{E':Value->Shared->Prop}(F:cC X.prog X.w X.K X.mg X.base CX k f fd ps sp)(hr:gq k X.A)(hb:Binds X.K fd ps ds)(hd:Vals dvs ds)
  (I:Inv X pins zzs H s) (r:Vals vs us) (h:sp (vs++dvs) H Q E) (hx:∀ e s',CX X.stack H s E e s'->E' e s'):wpAny (model X.prog X.w) X.A (call (.ref f) us) (EP X pins zzs Q) E' s:=by
 have r2:Vals (vs++dvs) (us++ds):=r.append hd;have hl:(us++ds).length=ps.length:=by rw[<- r2.length];exact F.len _ _ _ _ h
 refine wpAny_call (wR (F.run X.A X.stack s H ⟨us,[]⟩ (us++ds) (vs++dvs) Q E hr I.env0 (hb s us I.kIn hl) r2 h) fun r s' hq=>?_);cases r with
 |error e=>exact hx e s' hq
 |ok fl=>
  cases fl with
  |ret u=>exact I.after hq
  |next=>exact False.elim hq
  |brk=>exact False.elim hq
  |cont=>exact False.elim hq
def Gk(sp:Sp)(dvs:List V)(t:TA):TEX:=fun zzs H Q E=>t zzs H fun vs H1=>sp (vs++dvs) H1 Q fun c _ H'=>E c H'
theorem Tt(F:cC X.prog X.w X.K X.mg X.base (CXE X.prog X.w) k f fd ps sp)(hr:gq k X.A)(hg:Gl X x)(hm:X.mg x=some (.ref f))(hk:PySem.W.keepIn X.K (.ref f)=true)(hb:Binds X.K fd ps ds)(hd:Vals dvs ds)
  (ha:PA X.nox (e::es) t) (hdb:(x==("__debug__" : Str))=false:=by decide) (he:starEach (e::es) X.env=(false,eval e X.env)::starEach es X.env:=by rfl) (hpl:(backTo pos (starEach es X.env)).any (·.1)=false:=by rfl) :
  PEX X (.Call (.Name x p) (e::es) [] pos) (Gk sp dvs t):=by
 intro pins s zzs H Q E I h;refine Az (qY I hg hm ?_ hdb);refine Ms (h₀:=X.base) I.ok.mod.kin hk (iT (ha pos pins s zzs H _ (I.wish _) h) (fun us s1 ⟨vs,H1,I1,r,q⟩=>⟨I1.kIn,?_⟩) fun _ _ z=>False.elim z) he hpl;exact Yn F hr hb hd I1.jH r q fun ev s' hq=>⟨zzs,H1,s1,I1.jH,by
  obtain⟨ea,C,H',h1,h2,h3,h4,h5,h6,h7⟩:=hq;exact⟨ea,C,H',h1,h2,h3,h4,h5,h6,rfl,h7⟩⟩
def Zc(te:TEX):TSX:=fun D Ex zzs H=>te zzs H D.rt (Ex zzs)
theorem XR{e:Expr}{te:TEX}{pos:Pos}(he:PEX X e te):PSX X [.Return (some e) pos] (Zc te):=by
 intro pins s zzs H D Ex I h;refine MF (wpAny_Return_some (iT (he pins s zzs H _ _ I h) (fun v s1 ⟨y,H1,I1,r1,q1⟩=>⟨y,zzs,H1,I1,r1,q1⟩) fun ev s' hq=>?_));obtain⟨bG,H',s2,I2,ea,C,H3,h1,h2,h3,h4,h5,h6,e1,h7⟩:=hq;subst e1;exact⟨bG,H',s2,I2,ea,C,H3,h1,h2,h3,h4,h5,h6,h7⟩
end
section
variable{X:Cx}
def rZ(X:Cx)(ea:Addr):Cx:={ X with A:=X.A.mark (some (.ref ea)),calm:=false,xe:=fun _ _=>False }
theorem Inv.hand{pins:List (Addr×Obj)}{zzs:St}{H:Hp}{s:Shared}(I:Inv X pins zzs H s)(ea:Addr):Inv (rZ X ea) pins zzs H s:=
 ⟨⟨I.ok.mod,I.ok.kind,I.ok.glob,I.ok.blt,I.ok.above,I.ok.inj,I.ok.has,I.ok.cab,fun z=>absurd (show false=true from z) (by decide),I.ok.frames,I.ok.stk,I.ok.exf,I.ok.bs,I.ok.bsz,I.ok.Qq,I.ok.Rz,I.ok.uc,I.ok.frf⟩,
  I.os,I.bare,I.base,I.loc,I.cell,I.free,I.nu,I.pin,I.hok,I.len⟩
theorem Inv.a1n{ea:Addr}{pins:List (Addr×Obj)}{zzs:St}{H:Hp}{s:Shared}(ok:X.Ok)(I:Inv (rZ X ea) pins zzs H s):Inv X pins zzs H s:=
 ⟨ok,I.os,I.bare,I.base,I.loc,I.cell,I.free,I.nu,I.pin,I.hok,I.len⟩
theorem land{pins:List (Addr×Obj)}{zzs:St}{H H':Hp}{s s' s'':Shared}{B:Heap}(I:Inv X pins zzs H s)(os:s'.os=s.os)(un:Un (frs X.stack) [] H H' s.heap s'.heap)(hok:HOk X.prog X.w H' s'.heap)
  (KB:∀ b o,s'.heap.get? b=some o->(H' b≠none\/∃ o',s.heap.get? b=some o')->b∉frs X.stack->B.get? b=some o) (st:B.StaysIn s''.heap) (sm:s'.heap.UpToSlots s''.heap) (QD:s''.os=s'.os) (bare:AllBare s''.gens):Inv X pins zzs H' s'':=by
 have fr:∀ b∈frs X.stack,∃ o sl,s.heap.get? b=some o/\(∀ vs,o.data≠.fields vs)/\H b=none/\s'.heap.get? b=some { o with slots:=sl }/\H' b=none:=fun b hb=>by
  obtain⟨_,o,ho,hd⟩:=I.stack.mem hb;have hn:=I.uL b hb;obtain⟨sl,e⟩:=un.slot b o ho hn hb (by simp);exact⟨o,sl,ho,hd,hn,e,un.free b o ho hn (by simp)⟩
 refine I.call' (QD.trans os) (ch:=[]) ⟨fun b o e n hb hx=>?_,fun b o e n hb hx=>?_,un.free,fun b o e hx=>?_,un.tups,un.qe,un.rG⟩ (fun a o e=>?_) bare (fun b hb=>absurd hb (by simp))
 ·exact st b o (KB b o (un.keep b o e n hb hx) (.inr ⟨o,e⟩) hb)
 ·obtain⟨o1,sl,e1,hd,_,e2,_⟩:=fr b hb;rw[e] at e1;cases e1;obtain⟨sl',e3⟩:=sm b _ e2 hd;exact⟨sl',e3⟩
 ·by_cases hb:b∈frs X.stack
  ·obtain⟨o1,sl,e1,hd,_,e2,_⟩:=fr b hb;obtain⟨sl',e3⟩:=sm b _ e2 hd;exact⟨_,e3⟩
  ·obtain⟨o',e1⟩:=un.there b o e hx;exact⟨o',st b o' (KB b o' e1 (.inr ⟨o,e⟩) hb)⟩
 ·have nf:∀ b u,H' b=some u->b∉frs X.stack:=fun b u q hb=>by
   obtain⟨_,_,_,_,_,_,z⟩:=fr b hb;rw[q] at z;cases z
  refine(hok a o e).stay (fun b u hb q=>?_) (fun _ q=>q) fun _ _ q=>q
  rcases hb with rfl|hb
  ·exact st b u (KB b u q (.inl (by rw[e];simp)) (nf b o e))
  ·exact st b u (KB b u q (.inl (by rw[hb];simp)) (nf b _ hb))
structure Air(X:Cx)(pins:List (Addr×Obj))(zzs:St)(H':Hp)(ea C:Addr)(s'':Shared):Prop where
 ex:∃(H:Hp)(s s':Shared)(B:Heap)(t:Addr),Inv X pins zzs H s/\s'.os=s.os/\Un (frs X.stack) [] H H' s.heap s'.heap/\HOk X.prog X.w H' s'.heap /\
  (∀ b o,s'.heap.get? b=some o->(H' b≠none\/∃ o',s.heap.get? b=some o')->b∉frs X.stack->B.get? b=some o)/\Heap.FlyingW B X.stack ea (.ref C) (.ref t) s''.heap/\s'.heap.UpToSlots s''.heap/\s''.os=s'.os/\AllBare s''.gens/\s.heap.get? ea=none/\H' ea=none
theorem Air.inv{pins:List (Addr×Obj)}{zzs:St}{H':Hp}{ea C:Addr}{s'':Shared}(a:Air X pins zzs H' ea C s''):Inv X pins zzs H' s'':=by
 obtain⟨H,s,s',B,t,I,os,un,hok,KB,fl,sm,QD,bare,_,_⟩:=a.ex;exact land I os un hok KB fl.1 sm QD bare
theorem Air.obj{pins:List (Addr×Obj)}{zzs:St}{H':Hp}{ea C:Addr}{s'':Shared}(a:Air X pins zzs H' ea C s''):∃ ob,s''.heap.get? ea=some ob/\ob.cls=.ref C:=by
 obtain⟨H,s,s',B,t,I,os,un,hok,KB,fl,sm,QD,bare,_,_⟩:=a.ex;exact fl.there
theorem Air.again{pins:List (Addr×Obj)}{zzs:St}{H':Hp}{ea C:Addr}{s'':Shared}{M:Model}{A:Around}{E:Value->Shared->Prop}{Q:Unit->Shared->Prop}(a:Air X pins zzs H' ea C s'')
  (hQ:∀ h',Air X pins zzs H' ea C { s'' with heap:=h' }->Q () { s'' with heap:=h' }):wpAny M A (setFlight (.ref ea) none) Q E s'':=by
 obtain⟨H,s,s',B,t,I,os,un,hok,KB,fl,sm,QD,bare,n1,n2⟩:=a.ex;exact lands_againW fl fun h' fl' sm'=>hQ h' ⟨H,s,s',B,t,I,os,un,hok,KB,fl',sm.trans sm',QD,bare,n1,n2⟩
def a1v(ea C:Addr):HO:=.ext fun h=>∃ ob,h.get? ea=some ob/\ob.cls=.ref C
def PH(X:Cx)(hs:List ExceptHandler)(th:Addr->TS):Prop:=
 ∀(pins:List (Addr×Obj))(zzs:St)(H:Hp)(ea C:Addr)(s:Shared)(D:Ends),Air X pins zzs H ea C s->th C D zzs H->wpAny (model X.prog X.w) X.A (handleBy (.ref ea) X.env hs) (SP X pins D) X.xe s
def NK(K:ao)(C C':Addr):Bool:=match K.lookup C with
 |some ⟨.type "type",_,.cls cd,_⟩=>!(cd.mro.contains (.ref C'))
 |_=>false
theorem a0H:PH X [] (fun _ _ _ _=>False):=fun _ _ _ _ _ _ _ _ h=>h.elim
def a2H(tb:TSX)(th:Addr->TS):TS:=fun D zzs H=>tb D (fun bG c H'=>∃ C,c=.ref C/\th C D bG H') zzs H
theorem a0R{body:List Stmt}{h₀:ExceptHandler}{hs:List ExceptHandler}{pos:Pos}{tb:TSX}{th:Addr->TS}(hst:X.stack=X.env::X.outer)(hfr:X.env.frame=some X.env.locals)(hb:PSX X body tb)(hh:PH X (h₀::hs) th) :
  PS X (.Try body (h₀::hs) [] [] pos) (a2H tb th):=by
 intro pins s zzs H D I h;refine wpAny_Try_except (iT (hb pins s zzs H D _ I h) (fun f s1 q=>?_) fun ev s1 q=>?_)
 ·cases f with
  |next=>exact Bh q
  |ret v=>exact q
  |brk=>exact q
  |cont=>exact q
 ·obtain⟨bG,H1,s2,I2,ea,C,H',rfl,os,bare,un,hok,fly,C',e,th'⟩:=q;cases e;obtain⟨B,t,fl,KB⟩:=fly.fl;have fl0:=fl;rw[hst] at fl0;refine wpAny_looks_onW (by rw[<- hst];exact I2.ok.frames) hfr fl0 fun h4 held sm4=>?_
  refine wpAny_landsW held fun h5 fl5 sm5=>?_
  rw[<- hst] at fl5;exact hh pins bG H' ea C _ D ⟨H1,s2,s1,B,t,I2,os,un,hok,KB,fl5,sm4.trans sm5,rfl,bare,fly.new,fly.free⟩ th'
end
end L2
namespace L2
open PySem PySem.Spec PyProof.Rows
def Its(z:Str):It:=⟨fun i _=>i<z.cps.size,fun i H x H'=>H'=H/\∃ c,z.cps[i]?=some c/\x=.str ⟨#[c]⟩,fun i _=>z.cps.size<=i⟩
theorem R8{P:Program}{w:World}{K:ao}{tg:Expr}(z:Str)(t:Tok)(it:Addr):Turn P w K tg (Its z) [it] it (fun i h=>h.IsStrIter it "str_ascii_iterator" z t i) where
 mem:=by simp
 obj:=fun i h st b hb=>by
  have e:b=it:=by simpa using hb
  subst e;obtain⟨o,e,c,d⟩:=st;exact⟨o,e,fun v q=>by rw[d] at q;cases q⟩
 keep:=fun i h h' st k=>by
  obtain⟨o,e,c,d⟩:=st;exact⟨o,k it (by simp) o e,c,d⟩
 item:=by
  intro X hP hw hK hc i pins s zzs H E I hf st hg;subst hP hw hK;obtain⟨f0,f1,f2,f3,f4,f5⟩:=hf it (by simp);have hgi:i<z.cps.size:=hg;refine wpAny_pyNext_ascii_item st (c:=z.cps[i]) (by simp[hgi]) fun h' st' sb=>?_
  have I1:Inv X pins zzs H { s with heap:=h',toks:=s.toks+1 }:=I.turned (fun b o hb e=>(sb.2 b hb).trans e) f0 f1 f3 f4 f5;obtain⟨o,e,c,d⟩:=id st';exact⟨_,rfl,Iw (s:={ s with heap:=h',toks:=s.toks+1 }) e c d (by decide) ⟨.str ⟨#[z.cps[i]]⟩,H,I1,⟨_,rfl⟩,⟨rfl,z.cps[i],by simp[hgi],rfl⟩,st',fun b hb=>(hf b hb).1⟩⟩
 done:=by
  intro X hP hw hK hc i pins s zzs H E I hf st hg;subst hP hw hK;obtain⟨f0,f1,f2,f3,f4,f5⟩:=hf it (by simp);have hgi:z.cps.size<=i:=hg;exact wpAny_pyNext_ascii_end (I.ok.hd hc) st (by simp[hgi]) fun h' eb=>⟨rfl,I.turned (t':=s.toks) (fun b o hb e=>eb b o hb e) f0 f1 f3 f4 f5⟩
 self:=fun _ _ _ _ _ st h=>wpAny_pyIter_striter_ascii st h
theorem R9{P:Program}{w:World}{K:ao}{tg:Expr}(z:Str)(t:Tok)(it:Addr):Turn P w K tg (Its z) [it] it (fun i h=>h.IsStrIter it "str_iterator" z t i) where
 mem:=by simp
 obj:=fun i h st b hb=>by
  have e:b=it:=by simpa using hb
  subst e;obtain⟨o,e,c,d⟩:=st;exact⟨o,e,fun v q=>by rw[d] at q;cases q⟩
 keep:=fun i h h' st k=>by
  obtain⟨o,e,c,d⟩:=st;exact⟨o,k it (by simp) o e,c,d⟩
 item:=by
  intro X hP hw hK hc i pins s zzs H E I hf st hg;subst hP hw hK;obtain⟨f0,f1,f2,f3,f4,f5⟩:=hf it (by simp);have hgi:i<z.cps.size:=hg;refine wpAny_pyNext_wide_item st (c:=z.cps[i]) (by simp[hgi]) fun h' st' sb=>?_
  have I1:Inv X pins zzs H { s with heap:=h',toks:=s.toks+1 }:=I.turned (fun b o hb e=>(sb.2 b hb).trans e) f0 f1 f3 f4 f5;obtain⟨o,e,c,d⟩:=id st';exact⟨_,rfl,Iw (s:={ s with heap:=h',toks:=s.toks+1 }) e c d (by decide) ⟨.str ⟨#[z.cps[i]]⟩,H,I1,⟨_,rfl⟩,⟨rfl,z.cps[i],by simp[hgi],rfl⟩,st',fun b hb=>(hf b hb).1⟩⟩
 done:=by
  intro X hP hw hK hc i pins s zzs H E I hf st hg;subst hP hw hK;obtain⟨f0,f1,f2,f3,f4,f5⟩:=hf it (by simp);have hgi:z.cps.size<=i:=hg;exact wpAny_pyNext_wide_end (I.ok.hd hc) st (by simp[hgi]) fun h' eb=>⟨rfl,I.turned (t':=s.toks) (fun b o hb e=>eb b o hb e) f0 f1 f3 f4 f5⟩
 self:=fun _ _ _ _ _ st h=>wpAny_pyIter_striter_wide st h
section
variable{X:Cx}{tg:Expr}
def a1N(te:TE):TI:=fun zzs H R=>te zzs H fun x H1=>∃ z,x=.str z/\R (Its z) H1
theorem a0I{l:Expr}{te:TE}(hl:PE X l te):PI X tg l (a1N te):=by
 intro pins s zzs H R I h;refine thn (hl pins s zzs H _ I h) fun v s1 zzy=>?_
 obtain⟨x,H1,I1,r1,q1⟩:=zzy;obtain⟨z,e,q⟩:=q1;subst e;obtain⟨t,rfl⟩:=r1;have fp:∀ b∈[s1.heap.objs.size],rW X pins H1 b:=fun b hb=>by
  have e:b=s1.heap.objs.size:=by simpa using hb
  subst e;exact I1.Iv (bK _) (I1.hok.fresh (bK _))
 cases ha:z.cps.all (·<128)
 ·exact wpAny_pyIter_wide ha ⟨s1.heap.objs.size,[s1.heap.objs.size],_,_,H1,rfl,I1.kept (t':=s1.toks) fun b o e=>gY _ e,R9 z t _,⟨_,iR _ rfl,rfl,rfl⟩,fp,q⟩
 ·exact wpAny_pyIter_ascii ha ⟨s1.heap.objs.size,[s1.heap.objs.size],_,_,H1,rfl,I1.kept (t':=s1.toks) fun b o e=>gY _ e,R8 z t _,⟨_,iR _ rfl,rfl,rfl⟩,fp,q⟩
def a2s:V->Option Int->Option Int->Hp->VK->Prop:=fun x lo hi H Q=>∃ z,x=.str z/\z.length<=sizeLine/\Q (.str (Txt.slice z lo hi)) H
theorem zJ{u:Value}{o:Option Int}(p:IsPart u o):∃ l:Option (Int×Tok),u=partValue l/\o=l.map (·.1):=by
 cases p with
 |none=>exact⟨none,rfl,rfl⟩
 |int i t=>exact⟨some (i,t),rfl,rfl⟩
theorem a1g:SlR X a2s:=by
 intro pins s zzs H x v vl vu lo hi sl Q I rx hs pl pu h;obtain⟨z,rfl,hz,q⟩:=h;obtain⟨t,rfl⟩:=rx;obtain⟨l,rfl,rfl⟩:=zJ pl;obtain⟨u,rfl,rfl⟩:=zJ pu;refine⟨"str",_,F.slot_str_getitem.lookup,typeIs_str _ _ _,wpAny_getItem_str_slice (l:=l) (u:=u) (st:=none) hs rfl ?_⟩;exact post_val_or_str ⟨cP (Txt.slice_le z _ _) hz,fun t' k=>⟨.str _,H,I.tok _,⟨_,rfl⟩,q⟩⟩
def a0X(z:Str)(n:Int):Str:=if n<1 then Str.empty else if(n==1||z.length==0)=true then z else⟨(List.replicate n.toNat z.cps).foldl (·++·) #[]⟩
theorem KR:OpR X (binaryOp .Mult) (fun x y H Q=>∃ z n,x=.str z/\y=.int n/\z.length<=1000 /\ -1000<=n/\n<=1000/\Q (.str (a0X z n)) H):=by
 intro pins s zzs H x y v u Q I rx ry h;obtain⟨z,n,rfl,rfl,hz,h1,h2,q⟩:=h;obtain⟨t,rfl⟩:=rx;obtain⟨t',rfl⟩:=ry;refine P.mul_str (by rw[cB (by lia),cB (by lia)];rfl) (fun hn _=>?_) (fun hn _=>?_) ?_
 ·have:(1000:Int)<=(2^63-1) / n:=by
   rw[Int.le_ediv_iff_mul_le (by lia)];lia
  lia
 ·have:z.length*n.toNat<=1000*1000:=lR hz (by lia);show decide (z.length*n.toNat>sizeLine)=false;rw[qN];exact cB (by lia)
 ·unfold a0X at q;by_cases h3:n<1
  ·rw[aL h3] at q ⊢;exact⟨by decide,⟨.str _,H,I.tok _,⟨_,rfl⟩,q⟩⟩
  ·rw[aJ h3] at q ⊢;by_cases h4:(n==1||z.length==0)=true
   ·rw[aL h4] at q ⊢;exact⟨.str _,H,I,⟨_,rfl⟩,q⟩
   ·rw[aJ h4] at q ⊢;refine⟨?_,⟨.str _,H,I.tok _,⟨_,rfl⟩,q⟩⟩;have e:∀(k:Nat)(acc:Array Nat),((List.replicate k z.cps).foldl (·++·) acc).size=acc.size+k*z.cps.size:=by
     intro k
     induction k with
     |zero=>intro acc;simp
     |succ k ih=>
      intro acc;rw[wI,N5,ih,Array.size_append,Nat.add_mul,Nat.one_mul];lia
    have e2:=e n.toNat #[];have hz':z.cps.size<=1000:=hz;have:n.toNat*z.cps.size<=1000*1000:=lR (by lia) hz';show((List.replicate n.toNat z.cps).foldl (·++·) #[]).size<=sizeLine;rw[e2,qN];simp only[cR,Bl];lia
theorem Ri(hc:X.calm=true):dZ X (.builtin "all") (fun xs H Q=>∃(p:Addr)(bs:List Bool),xs=[.ref p]/\SqL X.K H p (bs.map V.bl)/\Q (.bl (bs.all id)) H):=by
 intro pins s zzs H xs us Q I r h;obtain⟨p,bs,rfl,hq,q⟩:=h;obtain⟨u,rfl,ru⟩:=vals1 r;cases ru;obtain⟨its,rv,pl,hz⟩:=I.list hq;have hl:its.length=bs.length:=by have:=rv.length;simpa using this.symm
 have item:∀(i:Nat)(v:Value),its[i]?=some v->v=.bool (bs.getD i true):=fun i v e=>by
  have hi:i<bs.length:=by rw[<- hl];exact(jw.mp e).1
  have hx:(bs.map V.bl)[i]?=some (V.bl bs[i]):=by simp[hi]
  obtain⟨w',e',rw'⟩:=rv.get hx;rw[e] at e';cases e';have:bs.getD i true=bs[i]:=by simp[fX,hi]
  rw[this];exact rw'
 have hne:p≠s.heap.objs.size:=fun z=>by
  obtain⟨o,n,e,_⟩:=pl;exact qM _ (z▸bI e)
 refine call_all_walk (wpAny_pyIter_list pl.isList ?_);refine⟨s.heap.objs.size,[s.heap.objs.size,p],[s.heap.objs.size],its.toArray.size,fun i v=>its.toArray[i]?=some v,fun i h=>h.IsListIter s.heap.objs.size p i/\h.IsList p its.toArray,fun i=>bs.getD i true,rfl,
  Walks.list (A:=X.A.in1) (I.ok.hd hc) _ p hne its.toArray,⟨⟨_,iR _ rfl,rfl,rfl⟩,pl.isList.at fun o e=>gY _ e⟩,fun i v s' Q' E' hP hQ=>?_,fun h' tk kk=>?_⟩
 ·have:=item i v (by simpa using hP);subst this;exact uR hQ
 ·have hb:(List.range its.toArray.size).all (fun i=>bs.getD i true)=bs.all id:=by
   rw[cR,hl];apply tG.mpr;simp only[jy,cJ,id];constructor
   ·intro h x hx;obtain⟨i,hi,rfl⟩:=Mq hx;have:=h i hi;simpa [fX,hi] using this
   ·intro h i hi;have:=h bs[i] (mG hi);simpa [fX,hi] using this
  rw[hb];have I1:Inv X pins zzs H { s with heap:=h',toks:=tk }:=I.kept fun b o e=>kk b o (fun z=>by
   have z':b=s.heap.objs.size:=by simpa using z
   exact qM _ (z'▸bI e)) (gY _ e)
  exact⟨.bl _,H,I1,rfl,q⟩
end
end L2
namespace L2
open PySem PySem.Spec PyProof.Rows PySem.SeqAt
inductive Dt where
 |non|bl (b:Bool)|int (i:Int)|str (x:Str)|tup (ds:List Dt)|lst (ds:List Dt)
mutual
inductive Den(K:ao)(H:Hp):V->Dt->Prop
 |non:Den K H .non .non
 |bl (b:Bool):Den K H (.bl b) (.bl b)
 |int (i:Int):Den K H (.int i) (.int i)
 |str (x:Str):Den K H (.str x) (.str x)
 |tup {a:Addr} {xs:List V} {ds:List Dt} (h:H a=some (.tup xs)) (hs:aP K H xs ds):Den K H (.ref a) (.tup ds)
 |lst {a:Addr} {xs:List V} {ds:List Dt} (h:SqL K H a xs) (hs:aP K H xs ds):Den K H (.ref a) (.lst ds)
inductive aP(K:ao)(H:Hp):List V->List Dt->Prop
 |nil:aP K H [] []
 |cons {x:V} {d:Dt} {xs:List V} {ds:List Dt} (h:Den K H x d) (t:aP K H xs ds):aP K H (x::xs) (d::ds)
end
def jL:Dt->Option V
 |.non=>some .non
 |.bl b=>some (.bl b)
 |.int i=>some (.int i)
 |.str x=>some (.str x)
 |_=>none
mutual
def eqD:Dt->Dt->Bool
 |.tup a,.tup b=>tW a b
 |.lst a,.lst b=>tW a b
 |.non,e=>match jL e with|some y=>eqV .non y|none=>false
 |.bl x,e=>match jL e with|some y=>eqV (.bl x) y|none=>false
 |.int x,e=>match jL e with|some y=>eqV (.int x) y|none=>false
 |.str x,e=>match jL e with|some y=>eqV (.str x) y|none=>false
 |.tup _,_=>false
 |.lst _,_=>false
def tW:List Dt->List Dt->Bool
 |[],[]=>true
 |a::as,b::bs=>eqD a b&&tW as bs
 |[],_::_=>false
 |_::_,[]=>false
end
def a09:Dt->Dt->Bool
 |.tup _,e=>(jL e).isSome
 |_,_=>false
mutual
def shD:Dt->Dt->Bool
 |.tup a,.tup b=>wC a b
 |.lst a,.lst b=>wC a b
 |.non,e=>(jL e).isSome
 |.bl _,e=>(jL e).isSome
 |.int _,e=>(jL e).isSome
 |.str _,e=>(jL e).isSome
 |.tup _,_=>false
 |.lst _,_=>false
def wC:List Dt->List Dt->Bool
 |a::as,b::bs=>(shD a b||a09 a b)&&wC as bs
 |_,_=>true
end
mutual
def pY:Dt->Nat
 |.tup a=>mZ a+1
 |.lst a=>mZ a+1
 |_=>0
def mZ:List Dt->Nat
 |[]=>0
 |a::as=>max (pY a) (mZ as)
end
theorem aP.length{K:ao}{H:Hp}:∀ {xs:List V} {ds:List Dt},aP K H xs ds->xs.length=ds.length
 |_,_,.nil=>rfl
 |_,_,.cons _ t=>by rw[gP,gP,t.length]
theorem aP.get{K:ao}{H:Hp}:∀ {xs:List V} {ds:List Dt} {i:Nat} {x:V},aP K H xs ds->xs[i]?=some x->∃ d,ds[i]?=some d/\Den K H x d
 |_,_,_,_,.nil,e=>by simp at e
 |_,_,0,_,.cons h _,e=>by simp at e;subst e;exact⟨_,rfl,h⟩
 |_,_,i+1,x,.cons _ t,e=>by
  obtain⟨d,h1,h2⟩:=aP.get (i:=i) (x:=x) t (by simpa using e);exact⟨d,by simpa using h1,h2⟩
theorem aP.get'{K:ao}{H:Hp}:∀ {xs:List V} {ds:List Dt} {i:Nat} {d:Dt},aP K H xs ds->ds[i]?=some d->∃ x,xs[i]?=some x/\Den K H x d
 |_,_,_,_,.nil,e=>by simp at e
 |_,_,0,_,.cons h _,e=>by simp at e;subst e;exact⟨_,rfl,h⟩
 |_,_,i+1,d,.cons _ t,e=>by
  obtain⟨x,h1,h2⟩:=aP.get' (i:=i) (d:=d) t (by simpa using e);exact⟨x,by simpa using h1,h2⟩
theorem aP.append{K:ao}{H:Hp}:∀ {xs ys:List V} {ds es:List Dt},aP K H xs ds->aP K H ys es->aP K H (xs++ys) (ds++es)
 |_,_,_,_,.nil,s=>s
 |_,_,_,_,.cons h t,s=>.cons h (t.append s)
theorem qQ:∀ {ds:List Dt} {d:Dt},d∈ds->pY d<=mZ ds
 |a::as,d,h=>by
  unfold mZ;rcases cO.mp h with e|e
  ·rw[e];exact Nat.le_max_left _ _
  ·exact cP (qQ e) (Nat.le_max_right _ _)
theorem uH:∀ {as bs:List Dt} {i:Nat} {a b:Dt},wC as bs=true->as[i]?=some a->bs[i]?=some b->shD a b=true\/a09 a b=true
 |x::as,y::bs,0,a,b,h,e1,e2=>by
  simp at e1 e2;subst e1;subst e2;unfold wC at h;simp only[mF,Bool.or_eq_true] at h;exact h.1
 |x::as,y::bs,i+1,a,b,h,e1,e2=>by
  unfold wC at h;simp only[mF] at h;exact uH (i:=i) h.2 (by simpa using e1) (by simpa using e2)
 |[],_,_,_,_,_,e1,_=>by simp at e1
 |_::_,[],_,_,_,_,_,e2=>by simp at e2
def atD(as bs:List Dt)(j:Nat):Bool:=eqD (as.getD j .non) (bs.getD j .non)
theorem zR(n:Nat)(p:Nat->Bool):(List.range (n+1)).all p=(p 0&&(List.range n).all fun j=>p (j+1)):=by
 rw[List.range_succ_eq_map,Br,Hu];rfl
theorem tX:∀ {as bs:List Dt},as.length=bs.length->(List.range as.length).all (atD as bs)=tW as bs
 |[],[],_=>rfl
 |a::as,b::bs,h=>by
  have ih:=@tX as bs (by simpa using h);rw[gP,zR];unfold tW;rw[<- ih];rfl
 |[],_::_,h=>by simp at h
 |_::_,[],h=>by simp at h
theorem tY:∀ {as bs:List Dt},as.length≠bs.length->tW as bs=false
 |[],[],h=>absurd rfl h
 |a::as,b::bs,h=>by
  unfold tW;rw[tY (as:=as) (bs:=bs) (fun z=>h (by rw[gP,gP,z])),Bp]
 |[],_::_,_=>rfl
 |_::_,[],_=>rfl
theorem Ir:∀ {as bs:List Dt},((List.range (min as.length bs.length)).all (atD as bs)&&as.length==bs.length)=tW as bs:=by
 intro as bs;by_cases h:as.length=bs.length
 ·rw[<- h,Nat.min_self,tX h];simp
 ·rw[tY h];simp[h]
theorem zF:∀ {x:V},NZ x=true->eqV x x=true
 |.non,_=>rfl
 |.bl b,_=>by simp[eqV]
 |.int i,_=>by simp[eqV]
 |.str x,_=>by simp[eqV]
mutual
theorem pZ:∀ d:Dt,eqD d d=true
 |.non=>rfl
 |.bl b=>by show eqV (.bl b) (.bl b)=true;exact zF rfl
 |.int i=>by show eqV (.int i) (.int i)=true;exact zF rfl
 |.str x=>by show eqV (.str x) (.str x)=true;exact zF rfl
 |.tup ds=>by unfold eqD;exact vL ds
 |.lst ds=>by unfold eqD;exact vL ds
theorem vL:∀ ds:List Dt,tW ds ds=true
 |[]=>rfl
 |a::as=>by unfold tW;rw[pZ a,vL as];rfl
end
mutual
theorem Ag:∀ d:Dt,shD d d=true
 |.non=>rfl
 |.bl _=>rfl
 |.int _=>rfl
 |.str _=>rfl
 |.tup ds=>by unfold shD;exact wD ds
 |.lst ds=>by unfold shD;exact wD ds
theorem wD:∀ ds:List Dt,wC ds ds=true
 |[]=>rfl
 |a::as=>by unfold wC;rw[Ag a,wD as,Bool.true_or];rfl
end
theorem Oa{X:Cx}{pins:List (Addr×Obj)}{zzs:St}{H:Hp}{s:Shared}{a:Addr}{xs ys:List V}(I:Inv X pins zzs H s)(h:SqT X.K H a xs)(h':SqL X.K H a ys):False:=by
 obtain⟨_,_,⟨o,e,c,_⟩,_⟩:=I.tuple h;obtain⟨_,_,⟨o',_,e',c',_⟩,_⟩:=I.list h';rw[e] at e';cases e';rw[c] at c';exact absurd c' (by decide)
mutual
theorem Den.inj{X:Cx}{pins:List (Addr×Obj)}{zzs:St}{H:Hp}{s:Shared}(I:Inv X pins zzs H s):∀ {d:Dt} {e:Dt} {x:V},Den X.K H x d->Den X.K H x e->d=e
 |.tup ds,_,_,.tup h hs,he=>by
  cases he with
  |tup h' hs'=>
   have e:=I.Ef (SqT.of h) (SqT.of h');subst e;rw[aP.inj I hs hs']
  |lst h' hs'=>exact(Oa I (SqT.of h) h').elim
 |.lst ds,_,_,.lst h hs,he=>by
  cases he with
  |lst h' hs'=>
   have e:=I.ud h h';subst e;rw[aP.inj I hs hs']
  |tup h' hs'=>exact(Oa I (SqT.of h') h).elim
 |.non,_,_,.non,he=>by cases he;rfl
 |.bl _,_,_,.bl _,he=>by cases he;rfl
 |.int _,_,_,.int _,he=>by cases he;rfl
 |.str _,_,_,.str _,he=>by cases he;rfl
theorem aP.inj{X:Cx}{pins:List (Addr×Obj)}{zzs:St}{H:Hp}{s:Shared}(I:Inv X pins zzs H s):∀ {ds es:List Dt} {xs:List V},aP X.K H xs ds->aP X.K H xs es->ds=es
 |[],_,_,.nil,he=>by cases he;rfl
 |d::ds,_,_,.cons h t,he=>by
  cases he with
  |cons h' t'=>rw[Den.inj I h h',aP.inj I t t']
end
theorem aP.getD{K:ao}{H:Hp}{xs:List V}{ds:List Dt}{us:List Value}{j:Nat}(D:aP K H xs ds)(r:Vals xs us)(h:j<us.length):∃ x,RelV x us[j]/\Den K H x (ds.getD j .non)/\ds[j]?=some (ds.getD j .non):=by
 have hl:=r.length;have hx:xs[j]?=some xs[j]:=by simp[hl,h]
 obtain⟨u,hu,ru⟩:=r.get hx;obtain⟨d,hd,dd⟩:=D.get hx;have eu:us[j]=u:=by
  rw[dU h] at hu;exact iD hu
 have ed:ds.getD j .non=d:=by rw[fX,hd];rfl
 rw[eu,ed];exact⟨_,ru,dd,hd⟩
theorem Den.flat{K:ao}{H:Hp}{x:V}{d:Dt}{y:V}(h:Den K H x d)(e:jL d=some y):x=y/\NZ x=true:=by
 cases h with
 |non=>cases e;exact⟨rfl,rfl⟩
 |bl b=>cases e;exact⟨rfl,rfl⟩
 |int i=>cases e;exact⟨rfl,rfl⟩
 |str z=>cases e;exact⟨rfl,rfl⟩
 |tup _ _=>cases e
 |lst _ _=>cases e
theorem tV{d e:Dt}{x y:V}(h1:jL d=some x)(h2:jL e=some y):eqD d e=eqV x y:=by
 cases d<;>first
  |(cases h1;simp only[eqD,h2])
  |cases h1
theorem Jx{d e:Dt}{x:V}(h1:jL d=some x)(h:shD d e=true):∃ y,jL e=some y:=by
 cases d<;>first
  |(cases h1;unfold shD at h;exact Vh.mp h)
  |cases h1
theorem zE{X:Cx}{pins:List (Addr×Obj)}{zzs:St}{H:Hp}{s:Shared}(I:Inv X pins zzs H s){d e:Dt}{x y:V}{u v:Value}{A:Around}(hu:A.units<cLine)(hx:Den X.K H x d)(hy:Den X.K H y e)(rx:RelV x u)(ry:RelV y v)(mx:a09 d e=true):EqAt A s u v (eqD d e):=by
 cases hx with
 |@tup a xs ds h hs=>
  cases rx;obtain⟨us,r,ht,_⟩:=I.tuple (SqT.of h);cases hy with
  |non=>cases ry;exact EqAt.tuple_none ht hu
  |bl b=>cases ry;exact EqAt.tuple_bool b ht hu
  |int i=>obtain⟨t,rfl⟩:=ry;exact EqAt.tuple_int i t ht hu
  |str z=>obtain⟨t,rfl⟩:=ry;exact EqAt.tuple_str z t ht hu
  |tup _ _=>cases mx
  |lst _ _=>cases mx
 |_=>cases mx
theorem Io{X:Cx}{pins:List (Addr×Obj)}{zzs:St}{H:Hp}{s:Shared}(I:Inv X pins zzs H s):∀(n:Nat){d e:Dt}{x y:V}{u v:Value}{A:Around},pY d<=n->A.units+n<cLine->Den X.K H x d->Den X.K H y e->RelV x u->RelV y v->shD d e=true->EqAt A s u v (eqD d e):=by
 intro n
 induction n with
 |zero=>
  intro d e x y u v A hn hu hx hy rx ry sh;cases fd:jL d with
  |some x'=>
   obtain⟨y',fe⟩:=Jx fd sh;obtain⟨rfl,f1⟩:=hx.flat fd;obtain⟨rfl,f2⟩:=hy.flat fe;rw[tV fd fe];exact Ry rx ry f1 f2
  |none=>
   cases d with
   |tup ds=>unfold pY at hn;exact absurd hn (by lia)
   |lst ds=>unfold pY at hn;exact absurd hn (by lia)
   |_=>cases fd
 |succ n ih=>
  intro d e x y u v A hn hu hx hy rx ry sh;cases fd:jL d with
  |some x'=>
   obtain⟨y',fe⟩:=Jx fd sh;obtain⟨rfl,f1⟩:=hx.flat fd;obtain⟨rfl,f2⟩:=hy.flat fe;rw[tV fd fe];exact Ry rx ry f1 f2
  |none=>
   cases d with
   |tup ds=>
    cases e with
    |tup es=>
     cases hx with
     |@tup a xs _ h hs=>
      cases hy with
      |@tup b ys _ h' hs'=>
       cases rx;cases ry;by_cases hab:a=b
       ·subst hab;have e:=Den.inj I (.tup h hs) (.tup h' hs');rw[e,pZ];exact EqAt.same _
       ·obtain⟨us,r,ht,_⟩:=I.tuple (SqT.of h);obtain⟨ws,r',ht',_⟩:=I.tuple (SqT.of h');have sh':wC ds es=true:=by unfold shD at sh;exact sh
        rw[show eqD (.tup ds) (.tup es)=tW ds es from by unfold eqD;rfl];rw[<- Ir];have l1:us.toArray.size=ds.length:=by rw[cR,<- r.length,hs.length]
        have l2:ws.toArray.size=es.length:=by rw[cR,<- r'.length,hs'.length]
        rw[<- l1,<- l2];refine Hv hab (RcAt.tuples ht ht' (by lia) fun j h1 h2=>?_);obtain⟨p,rp,dp,ep⟩:=hs.getD r (j:=j) (by simpa using h1);obtain⟨q,rq,dq,eq⟩:=hs'.getD r' (j:=j) (by simpa using h2);unfold pY at hn;have hd:=qQ (fV ep);exact(uH sh' ep eq).elim (fun z=>ih (A:=A.in1) (by lia) (by show A.units+1+n<cLine;lia) dp dq (by simpa using rp) (by simpa using rq) z) (fun z=>zE (A:=A.in1) I (by show A.units+1<cLine;lia) dp dq (by simpa using rp) (by simpa using rq) z)
    |_=>unfold shD at sh;cases sh
   |lst ds=>
    cases e with
    |lst es=>
     cases hx with
     |@lst a xs _ h hs=>
      cases hy with
      |@lst b ys _ h' hs'=>
       cases rx;cases ry;by_cases hab:a=b
       ·subst hab;have e:=Den.inj I (.lst h hs) (.lst h' hs');rw[e,pZ];exact EqAt.same _
       ·obtain⟨us,r,ht,_⟩:=I.list h;obtain⟨ws,r',ht',_⟩:=I.list h';have sh':wC ds es=true:=by unfold shD at sh;exact sh
        rw[show eqD (.lst ds) (.lst es)=tW ds es from by unfold eqD;rfl];have l1:us.toArray.size=ds.length:=by rw[cR,<- r.length,hs.length]
        have l2:ws.toArray.size=es.length:=by rw[cR,<- r'.length,hs'.length]
        by_cases hl:ds.length=es.length
        ·rw[<- tX hl,<- l1];refine Hv hab (RcAt.lists ht.isList ht'.isList (by rw[l1,l2];exact hl) (by lia) fun j h1 h2=>?_);obtain⟨p,rp,dp,ep⟩:=hs.getD r (j:=j) (by simpa using h1);obtain⟨q,rq,dq,eq⟩:=hs'.getD r' (j:=j) (by simpa using h2);unfold pY at hn;have hd:=qQ (fV ep);exact(uH sh' ep eq).elim (fun z=>ih (A:=A.in1) (by lia) (by show A.units+1+n<cLine;lia) dp dq (by simpa using rp) (by simpa using rq) z) (fun z=>zE (A:=A.in1) I (by show A.units+1<cLine;lia) dp dq (by simpa using rp) (by simpa using rq) z)
        ·rw[tY hl];exact Hv hab (RcAt.lists_lengths ht.isList ht'.isList (by rw[l1,l2];simpa using hl) (by lia))
    |_=>unfold shD at sh;cases sh
   |_=>cases fd
section
variable{X:Cx}{pins:List (Addr×Obj)}{zzs:St}{H:Hp}{s:Shared}
def a1f:Dt->Option (List Dt)
 |.tup ds=>some ds
 |.lst ds=>some ds
 |_=>none
theorem qW{n:Nat}{A:Around}(I:Inv X pins zzs H s){xs ys:List V}{ds es:List Dt}{us ws:List Value}(hn:mZ ds<=n)(hu:A.units+(n+1)<cLine)(hs:aP X.K H xs ds)(hs':aP X.K H ys es)(r:Vals xs us)(r':Vals ys ws)
  (sh:wC ds es=true) (j:Nat) (h1:j<us.toArray.size) (h2:j<ws.toArray.size):EqAt A.in1 s us.toArray[j] ws.toArray[j] (atD ds es j):=by
 obtain⟨p,rp,dp,ep⟩:=hs.getD r (j:=j) (by simpa using h1);obtain⟨q,rq,dq,eq⟩:=hs'.getD r' (j:=j) (by simpa using h2);have hd:=qQ (fV ep);exact(uH sh ep eq).elim (fun z=>Io I n (A:=A.in1) (by lia) (by show A.units+1+n<cLine;lia) dp dq (by simpa using rp) (by simpa using rq) z) (fun z=>zE (A:=A.in1) I (by show A.units+1<cLine;lia) dp dq (by simpa using rp) (by simpa using rq) z)
theorem Jm{A:Around}(I:Inv X pins zzs H s){d e:Dt}{a b:Addr}(hq:(a1f d).isSome=true)(hu:A.units+60<cLine)(hn:pY d<=50)(hx:Den X.K H (.ref a) d)(hy:Den X.K H (.ref b) e)(sh:shD d e=true):RcAt A s (.ref a) (.ref b) (eqD d e)/\RcNeAt A s (.ref a) (.ref b) (!eqD d e):=by
 cases d with
 |tup ds=>
  cases e with
  |tup es=>
   cases hx with
   |tup h hs=>
    cases hy with
    |tup h' hs'=>
     obtain⟨us,r,ht,_⟩:=I.tuple (SqT.of h);obtain⟨ws,r',ht',_⟩:=I.tuple (SqT.of h');have sh':wC ds es=true:=by unfold shD at sh;exact sh
     have hn':mZ ds<=49:=by unfold pY at hn;lia
     rw[show eqD (.tup ds) (.tup es)=tW ds es from by unfold eqD;rfl,<- Ir];have l1:us.toArray.size=ds.length:=by rw[cR,<- r.length,hs.length]
     have l2:ws.toArray.size=es.length:=by rw[cR,<- r'.length,hs'.length]
     rw[<- l1,<- l2];exact⟨RcAt.tuples ht ht' (by lia) (qW I hn' (by lia) hs hs' r r' sh'),RcNeAt.tuples ht ht' (by lia) (qW I hn' (by lia) hs hs' r r' sh')⟩
  |_=>unfold shD at sh;cases sh
 |lst ds=>
  cases e with
  |lst es=>
   cases hx with
   |lst h hs=>
    cases hy with
    |lst h' hs'=>
     obtain⟨us,r,ht,_⟩:=I.list h;obtain⟨ws,r',ht',_⟩:=I.list h';have sh':wC ds es=true:=by unfold shD at sh;exact sh
     have hn':mZ ds<=49:=by unfold pY at hn;lia
     rw[show eqD (.lst ds) (.lst es)=tW ds es from by unfold eqD;rfl];have l1:us.toArray.size=ds.length:=by rw[cR,<- r.length,hs.length]
     have l2:ws.toArray.size=es.length:=by rw[cR,<- r'.length,hs'.length]
     by_cases hl:ds.length=es.length
     ·rw[<- tX hl,<- l1];exact⟨RcAt.lists ht.isList ht'.isList (by rw[l1,l2];exact hl) (by lia) (qW I hn' (by lia) hs hs' r r' sh'),RcNeAt.lists ht.isList ht'.isList (by rw[l1,l2];exact hl) (by lia) (qW I hn' (by lia) hs hs' r r' sh')⟩
     ·rw[tY hl];exact⟨RcAt.lists_lengths ht.isList ht'.isList (by rw[l1,l2];simpa using hl) (by lia),RcNeAt.lists_lengths ht.isList ht'.isList (by rw[l1,l2];simpa using hl) (by lia)⟩
  |_=>unfold shD at sh;cases sh
 |_=>cases hq
def Yb(K:ao)(neg:Bool):R2:=fun x y H Q=>∃ d e,(a1f d).isSome=true/\Den K H x d/\Den K H y e/\shD d e=true/\pY d<=50/\Q (.bl (if neg then !eqD d e else eqD d e)) H
theorem Den.Ub{K:ao}{x:V}{d e:Dt}{y:V}(hq:(a1f d).isSome=true)(hx:Den K H x d)(hy:Den K H y e)(sh:shD d e=true):∃ a b,x=.ref a/\y=.ref b:=by
 cases hx with
 |@tup a _ _ _ _=>
  cases hy with
  |@tup b _ _ _ _=>exact⟨a,b,rfl,rfl⟩
  |_=>unfold shD at sh;cases sh
 |@lst a _ _ _ _=>
  cases hy with
  |@lst b _ _ _ _=>exact⟨a,b,rfl,rfl⟩
  |_=>unfold shD at sh;cases sh
 |_=>cases hq
theorem a0l(hu:X.A.units+60<cLine):OpR X (compareOp .Eq) (Yb X.K false):=by
 intro pins s zzs H x y v u Q I rx ry h;obtain⟨d,e,hq,hx,hy,sh,hn,q⟩:=h;obtain⟨a,b,rfl,rfl⟩:=Den.Ub hq hx hy sh;cases rx;cases ry;exact(Jm I hq hu hn hx hy sh).1 _ _ _ _ ⟨.bl _,H,I,rfl,q⟩
theorem a0q(hu:X.A.units+60<cLine):OpR X (compareOp .NotEq) (Yb X.K true):=by
 intro pins s zzs H x y v u Q I rx ry h;obtain⟨d,e,hq,hx,hy,sh,hn,q⟩:=h;obtain⟨a,b,rfl,rfl⟩:=Den.Ub hq hx hy sh;cases rx;cases ry;exact(Jm I hq hu hn hx hy sh).2 _ _ _ _ ⟨.bl _,H,I,rfl,q⟩
def QV(K:ao)(neg:Bool):R2:=fun x y H Q=>∃ d es p,y=.ref p/\Den K H x d/\(Den K H y (.lst es)\/Den K H y (.tup es))/\(∀ e∈es,shD e d=true/\pY e<=50)/\Q (.bl (if neg then !(es.any fun e=>eqD e d) else es.any fun e=>eqD e d)) H
theorem Ng{K:ao}{d:Dt}{P:Value->Bool}:∀ {xs:List V} {es:List Dt} {us:List Value},aP K H xs es->Vals xs us->(∀(j:Nat)(u:Value)(e:Dt),us[j]?=some u->es[j]?=some e->P u=eqD e d)->us.any P=es.any fun e=>eqD e d
 |_,_,_,.nil,.nil,_=>rfl
 |_,_,_,.cons _ t,.cons _ r,h=>by
  rw[wQ,wQ,h 0 _ _ rfl rfl,Ng t r fun j u e h1 h2=>h (j+1) u e (by simpa using h1) (by simpa using h2)]
open Classical in
theorem Fz(I:Inv X pins zzs H s){x:V}{v:Value}{d:Dt}{ys:List V}{es:List Dt}{us:List Value}{A:Around}(hu:A.units+60<cLine)(rx:RelV x v)(hx:Den X.K H x d)(hs:aP X.K H ys es)(r:Vals ys us)(hsh:∀ e∈es,shD e d=true/\pY e<=50) :
  ∃ P:Value->Bool,(∀ u∈us,EqAt A s u v (P u))/\us.any P=es.any fun e=>eqD e d:=by
 have key:∀(j:Nat)(u:Value)(e:Dt),us[j]?=some u->es[j]?=some e->EqAt A s u v (eqD e d)/\∃ y,RelV y u/\Den X.K H y e:=fun j u e h1 h2=>by
  obtain⟨y,h3,dy⟩:=hs.get' h2;obtain⟨u',h4,ry⟩:=r.get h3;rw[h1] at h4;cases h4;obtain⟨a1,a2⟩:=hsh e (fV h2);exact⟨Io I 50 a2 (by lia) dy hx ry rx a1,y,ry,dy⟩
 have one:∀(j:Nat)(u:Value)(e:Dt),us[j]?=some u->es[j]?=some e->decide (∃ y e,RelV y u/\Den X.K H y e/\eqD e d=true)=eqD e d:=fun j u e h1 h2=>by
  obtain⟨_,y,ry,dy⟩:=key j u e h1 h2;cases q:eqD e d with
  |true=>exact bT ⟨y,_,ry,dy,q⟩
  |false=>
   refine cB fun zzy=>?_
   obtain⟨y',e',ry',dy',q'⟩:=zzy;have ey:=ry.inj ry';subst ey;rw[Den.inj I dy' dy,q] at q';cases q'
 refine⟨fun u=>decide (∃ y e,RelV y u/\Den X.K H y e/\eqD e d=true),fun u hu'=>?_,Ng hs r one⟩;obtain⟨j,hj⟩:=Ar hu';have hl:j<es.length:=by rw[<- hs.length,r.length];exact(jw.mp hj).1
 have e1:=(key j u es[j] hj (by simp[hl])).1;show EqAt A s u v (decide _);rw[one j u es[j] hj (by simp[hl])];exact e1
theorem a0o(hu:X.A.units+61<cLine):OpR X (compareOp .In) (QV X.K false):=by
 intro pins s zzs H x y v u Q I rx ry h;obtain⟨d,es,p,rfl,hx,hy,hsh,q⟩:=h;cases ry;rcases hy with hy|hy
 ·cases hy with
  |lst h' hs=>
   obtain⟨us,r,ht,_⟩:=I.list h';obtain⟨P,hP,e⟩:=Fz (A:=X.A.in1) I (by show X.A.units+1+60<cLine;omega) rx hx hs r hsh;exact in_listAt P ht.isList (fun z hz=>hP z (by simpa using hz)) ⟨.bl _,H,I,by rw[<- e];simp<;>rfl,q⟩
 ·cases hy with
  |tup h' hs=>
   obtain⟨us,r,ht,_⟩:=I.tuple (SqT.of h');obtain⟨P,hP,e⟩:=Fz (A:=X.A.in1) I (by show X.A.units+1+60<cLine;omega) rx hx hs r hsh;exact in_tupleAt P ht (fun z hz=>hP z (by simpa using hz)) ⟨.bl _,H,I,by rw[<- e];simp<;>rfl,q⟩
theorem QC(hu:X.A.units+61<cLine):OpR X (compareOp .NotIn) (QV X.K true):=by
 intro pins s zzs H x y v u Q I rx ry h;obtain⟨d,es,p,rfl,hx,hy,hsh,q⟩:=h;cases ry;rcases hy with hy|hy
 ·cases hy with
  |lst h' hs=>
   obtain⟨us,r,ht,_⟩:=I.list h';obtain⟨P,hP,e⟩:=Fz (A:=X.A.in1) I (by show X.A.units+1+60<cLine;omega) rx hx hs r hsh;exact notIn_listAt P ht.isList (fun z hz=>hP z (by simpa using hz)) ⟨.bl _,H,I,by rw[<- e];simp<;>rfl,q⟩
 ·cases hy with
  |tup h' hs=>
   obtain⟨us,r,ht,_⟩:=I.tuple (SqT.of h');obtain⟨P,hP,e⟩:=Fz (A:=X.A.in1) I (by show X.A.units+1+60<cLine;omega) rx hx hs r hsh;exact notIn_tupleAt P ht (fun z hz=>hP z (by simpa using hz)) ⟨.bl _,H,I,by rw[<- e];simp<;>rfl,q⟩
end
end L2
namespace L2
open PySem PySem.Spec PyProof.Rows
structure Df(P:Program)(w:World)(K:ao)(mg:Str->Option Value)(base:Heap)(k:Nat)(x:Str)(ps:List Str)(sp:Sp):Prop where
 ex:∃ f fd,cC P w K mg base (CXE P w) k f fd ps sp/\mg x=some (.ref f)/\PySem.W.keepIn K (.ref f)=true/\Binds K fd ps []
theorem aQ{X:Cx}:Passes (CXE X.prog X.w) X E0:=by
 intro pins zzs H s e s' I h;obtain⟨ea,C,H',_,_,_,_,_,_,z⟩:=h;exact z.elim
section
variable{P:Program}{w:World}{K:ao}{mg:Str->Option Value}{base:Heap}
theorem Fun.okE{x qual:Str}{st:Stmt}{f:Addr}{fd:FuncData}{N ps:List Str}{k:Nat}{sp:Sp}(F:Fun K x qual st f fd)(S:aN N ps (aG st))(len:∀ vs H Q E,sp vs H Q E->vs.length=ps.length)
  (hbody:∀(cdv:Value)(A:Around)(outer:List Env)(s:Shared)(H:Hp)(vs:List V)(Q:VK)(E:XK),gq k (A.deeper (envOfC qual (aG st) s.heap.objs.size f cdv))->sp vs H Q E ->
   ∃ t,PSs (pG (CXE P w) P w K mg base N qual (aG st) f cdv A outer s H E) (fL st) t/\t { nx:=fun _ H'=>Q .non H',rt:=Q } (start N vs) H):cC P w K mg base (CXE P w) (k+1) f fd ps sp:=by
 obtain⟨oc,od,kV,doc,pm,an,cdv,ct,osl,rfl,lk,hcd⟩:=F.ex;exact a1J lk hcd S len fun A outer s H vs Q E hr hsp=>hbody cdv A outer s H vs Q E hr hsp
theorem Fun.ok0{x qual:Str}{st:Stmt}{f:Addr}{fd:FuncData}{N ps:List Str}{k:Nat}{sp:Sp}(F:Fun K x qual st f fd)(S:aN N ps (aG st))(len:∀ vs H Q E,sp vs H Q E->vs.length=ps.length)
  (hbody:∀(cdv:Value)(A:Around)(outer:List Env)(s:Shared)(H:Hp)(vs:List V)(Q:VK)(E:XK),gq k (A.deeper (envOfC qual (aG st) s.heap.objs.size f cdv))->sp vs H Q E ->
   ∃ t,PSs (pG (CXE P w) P w K mg base N qual (aG st) f cdv A outer s H E).nox (fL st) t/\t { nx:=fun _ H'=>Q .non H',rt:=Q } (start N vs) H):cC P w K mg base (CXE P w) (k+1) f fd ps sp:=
 F.okE S len fun cdv A outer s H vs Q E hr hsp=>let ⟨t,h,q⟩:=hbody cdv A outer s H vs Q E hr hsp;⟨t,h.nox,q⟩
end
theorem PS.nox{X:Cx}{st:Stmt}{t:TS}(h:PS X.nox st t):PS X st t:=fun pins s zzs H D I hw=>
 iT (h pins s zzs H D (I.wish _) hw) (fun _ _ q=>SP.jH q) fun _ _ z=>False.elim z
section
variable{X:Cx}{k j:Nat}{ps:List Str}{sp:Sp}{E:XK}{x:Str}{p pos:Pos}{e:Expr}{es:List Expr}{t:TA}
theorem a0v(D:Df X.prog X.w X.K X.mg X.base k x ps sp)(hr:gq j X.A)(hg:Gl X x)(hx:Passes (CXE X.prog X.w) X E)(ha:PA X (e::es) t)(hk:k<=j:=by decide)
  (hdb:(x==("__debug__" : Str))=false:=by decide) (he:starEach (e::es) X.env=(false,eval e X.env)::starEach es X.env:=by rfl) (hpl:(backTo pos (starEach es X.env)).any (·.1)=false:=by rfl) :
  PE X (.Call (.Name x p) (e::es) [] pos) (OD sp [] E t):=by
 obtain⟨f,fd,F,hm,kp,hb⟩:=D.ex;exact Xl F (hr.mono hk) hg hm kp hb .nil hx ha hdb he hpl
theorem Xr(D:Df X.prog X.w X.K X.mg X.base k x ps sp)(hr:gq j X.A)(hg:Gl X x)(ha:PA X.nox (e::es) t)(hk:k<=j:=by decide)
  (hdb:(x==("__debug__" : Str))=false:=by decide) (he:starEach (e::es) X.env=(false,eval e X.env)::starEach es X.env:=by rfl) (hpl:(backTo pos (starEach es X.env)).any (·.1)=false:=by rfl) :
  PEX X (.Call (.Name x p) (e::es) [] pos) (Gk sp [] t):=by
 obtain⟨f,fd,F,hm,kp,hb⟩:=D.ex;exact Tt F (hr.mono hk) hg hm kp hb .nil ha hdb he hpl
end
section
variable{X:Cx}{x:Str}{pos:Pos}
theorem Xo{i:Int}(h:∃ t,X.mg x=some (.int i t))(hg:Gl X x) (hd:(x==("__debug__" : Str))=false:=by decide):PE X (.Name x pos) (tC (.int i)):=by
 obtain⟨t,h⟩:=h;exact Oc hg h ⟨t,rfl⟩ hd
theorem Xp{z:Str}(h:∃ t,X.mg x=some (.str z t))(hg:Gl X x) (hd:(x==("__debug__" : Str))=false:=by decide):PE X (.Name x pos) (tC (.str z)):=by
 obtain⟨t,h⟩:=h;exact Oc hg h ⟨t,rfl⟩ hd
end
section
variable{X:Cx}
def Ji:R2:=fun x y H Q=>match x,y with
 |.int i,.int j=>Q (.int (i+j)) H
 |.str i,.str j=>i.length+j.length<=sizeLine/\Q (.str (i++j)) H
 |.ref l,.ref b=>∃ xs zs,H l=some (.lst xs)/\H b=some (.lst zs)/\xs.length+zs.length<=sizeLine/\∀ p,H p=none->Q (.ref p) (upd H p (.lst (xs++zs)))
 |_,_=>False
theorem c7:OpR X (binaryOp .Add) Ji:=by
 intro pins s zzs H x y v u Q I rx ry h;unfold Ji at h;split at h
 ·exact a0j pins s zzs H _ _ v u Q I rx ry ⟨_,_,rfl,rfl,h⟩
 ·exact KQ pins s zzs H _ _ v u Q I rx ry ⟨_,_,rfl,rfl,h.1,h.2⟩
 ·obtain⟨xs,zs,h1,h2,h3,h4⟩:=h;exact a0k pins s zzs H _ _ v u Q I rx ry ⟨_,_,xs,zs,rfl,rfl,h1,h2,h3,h4⟩
 ·exact h.elim
def Z0:R2:=fun x y H Q=>match x,y with
 |.int i,.int j=>W0 i j/\Q (.int (i*j)) H
 |.str z,.int n=>z.length<=1000 /\ -1000<=n/\n<=1000/\Q (.str (a0X z n)) H
 |.ref l,.int k=>∃ xs,H l=some (.lst xs) /\ -(2^63)<=k/\k<2^63/\xs.length*k.toNat<=sizeLine/\∀ p,H p=none->Q (.ref p) (upd H p (.lst (List.replicate k.toNat xs).flatten))
 |_,_=>False
theorem uq:OpR X (binaryOp .Mult) Z0:=by
 intro pins s zzs H x y v u Q I rx ry h;unfold Z0 at h;split at h
 ·exact a0p pins s zzs H _ _ v u Q I rx ry ⟨_,_,rfl,rfl,h.1,h.2⟩
 ·exact KR pins s zzs H _ _ v u Q I rx ry ⟨_,_,rfl,rfl,h.1,h.2.1,h.2.2.1,h.2.2.2⟩
 ·obtain⟨xs,h1,h2,h3,h4,h5⟩:=h;exact a0r pins s zzs H _ _ v u Q I rx ry ⟨_,_,xs,rfl,rfl,h1,h2,h3,h4,h5⟩
 ·exact h.elim
end
end L2
namespace L2
open PySem PySem.Spec PyProof.Rows
theorem Yz{K:ao}{x t c:Value}{Hp':Heap->Prop}(ty:∀(M:Model) (h:Heap),Hp' h->PySem.W.Looks M h (typeOf x) t)(e:PySem.W.kitOne K t c=some true):Answers (fun s=>K.In s.heap/\Hp' s.heap) x c true:=by
 intro dep tk prog w A R s hs;obtain⟨hh,g,d,tt,os⟩:=s;obtain⟨⟨kin,p⟩,hq⟩:=hs;have look:=ty (model prog w) hh p;unfold PySem.W.kitOne at e;unfold Builtin.«isinstance.nested»;refine bQ (PySem.W.Looks.at look ?_);cases q:(t==c) with
 |true=>
  rw[aL rfl];exact bQ (qI (cQ (hq tt)))
 |false=>
  rw[q,aJ fG] at e;rw[aJ fG];obtain⟨l1,l2,l3⟩:=PySem.W.kit_cls (M:=model prog w) kin e;have l4:PySem.W.Looks (model prog w) hh (isInstance x c) true:=PySem.W.Looks.andThen look l3;refine bQ (PySem.W.Looks.at l1 ?_);rw[aL (by decide)]
  k_delta "plainIsInstance"
  refine bQ (bQ (PySem.W.Looks.at l2 ?_));simp only[Bool.not_true,BP,lK];exact bQ (PySem.W.Looks.at l4 (cQ (cQ (hq tt))))
def Zq:V->Option Value
 |.ty n=>some (.type n)
 |.ref a=>some (.ref a)
 |_=>none
theorem Nt{c:V}{cv u:Value}(h:Zq c=some cv)(r:RelV c u):u=cv:=by
 cases c with
 |ty n=>cases h;exact r
 |ref a=>cases h;exact r
 |_=>cases h
section
variable{X:Cx}
def a2m(K:ao):List V->Hp->VK->Prop:=fun xs H Q=>∃ x c cv,xs=[x,c]/\Zq c=some cv /\
 ((∃ t b,vh K H x t/\PySem.W.kitOne K t cv=some b/\Q (.bl b) H)\/(∃ ea C,x=.ref ea/\H ea=some (a1v ea C)/\PySem.W.kitOne K (.ref C) cv=some true/\Q (.bl true) H))
theorem Rj:dZ X (.builtin "isinstance") (a2m X.K):=by
 intro pins s zzs H xs us Q I r h;obtain⟨x,c,cv,rfl,hc,h⟩:=h;obtain⟨u,u',rfl,ru,rc⟩:=vals2 r;have e:=Nt hc rc;subst e;rcases h with⟨t,b,ty,hk,q⟩|⟨ea,C,rfl,hE,hk,q⟩
 ·exact Qe I ru ty hk fun tk=>⟨.bl b,H,I.tok tk,rfl,q⟩
 ·cases ru;obtain⟨⟨ob,e1,e2⟩,_,_⟩:=(show eU X.prog X.w H s.heap ea (a1v ea C) from I.hok ea _ hE)
  refine call_isinstance (S:=fun _ R s'=>(X.K.In s'.heap/\(fun h:Heap=>∃ o,h.get? ea=some o/\o.cls=.ref C) s'.heap)/\∀ tk,R (.ok (.ret (.bool true))) { s' with toks:=tk })
   (fun prog w A R s' hs=>isinstance_outer (Yz (K:=X.K) (t:=.ref C) (Hp':=fun h=>∃ o,h.get? ea=some o/\o.cls=.ref C) (fun M h p=>?_) hk 0 _ prog w A R s' hs) (by intro z;cases z)) ⟨⟨I.kIn,⟨ob,e1,e2⟩⟩,fun tk=>⟨.bl true,H,I.tok tk,rfl,q⟩⟩
  obtain⟨o,h1,h2⟩:=p;exact h2▸(PySem.W.Looks.ld h1).andThen .now
end
end L2
namespace L2
open PySem PySem.Spec PyProof.Rows
theorem Nu{J:It}{n:Nat}{item:Nat->V}{tc:TT}{te:TE}{zzs:St}{fin:List V->Hp->Prop}{H:Hp}(R:Nat->List V->Hp->Prop)(hn:n<=sizeLine)
  (hgo:∀ i ys H,i<n->R i ys H->J.go i H) (hy:∀ i ys H v H',i<n->R i ys H->J.yld i H v H'->v=item i/\H'=H) (hstop:∀ ys H,R n ys H->J.stop n H)
  (hl:∀ i ys H,i<=n->R i ys H->ys.length<=i) (h0:R 0 [] H)
  (hs:∀ i ys H,i<n->R i ys H->∀ G:List V->Hp->Prop,(∀ ys' H',R (i+1) ys' H'->G ys' H')->tc (some (item i)::zzs) H fun b H2=>if b=true then te (some (item i)::zzs) H2 fun y H3=>G (ys++[y]) H3 else G ys H2)
  (hd:∀ ys H,R n ys H->fin ys H):∃ W:Nat->Nat->List V->Hp->Prop,(∃ m,W 0 m [] H)/\pJ J tc te zzs fin W:=by
 refine⟨fun i m ys H=>m=n-i/\i<=n/\R i ys H,⟨n,by lia,jj _,h0⟩,?_⟩;rintro i m ys H ⟨rfl,hi,r⟩;refine⟨cP (hl i ys H hi r) (cP hi hn),?_⟩;by_cases hlt:i<n
 ·refine .inr ⟨hgo i ys H hlt r,fun v H' y=>?_⟩;obtain⟨rfl,rfl⟩:=hy i ys H v H' hlt r y;exact hs i ys _ hlt r (fun ys' H2=>∃ m',m'<n-i/\(m'=n-(i+1)/\i+1<=n/\R (i+1) ys' H2)) fun ys' H2 r'=>⟨n-(i+1),by lia,rfl,hlt,r'⟩
 ·have e:i=n:=by lia
  subst e;exact .inl ⟨hstop ys H r,hd ys H r⟩
theorem Same.put{H:Hp}{p:Addr}{o:HO}(h:H p=none):Same H (upd H p o):=fun b u e=>by
 rw[bF (bV e h)];exact e
theorem Same.and{H H':Hp}{p:Addr}{o:HO}(s:Same H H')(h:H' p=none):Same H (L2.upd H' p o):=s.trans (Same.put h)
theorem small{n:Nat}(h:n<=10000):n<=sizeLine:=cP h (by rw[qN];decide)
theorem Ni{ns:List Int}{i:Int}(h0:0<=i)(h1:i<ns.length):∃ v,atI (ns.map V.int) i=some (V.int v):=by
 obtain⟨k,rfl⟩:=M7 h0;have hk:k<ns.length:=by lia
 exact⟨ns[k],cY (by simp[hk])⟩
theorem Et{α:Type}{xs:List α}{i:Int}(h0:0<=i)(h1:i<xs.length):∃ v,v∈xs/\atI xs i=some v:=by
 obtain⟨k,rfl⟩:=M7 h0;have hk:k<xs.length:=by lia
 exact⟨xs[k],mG hk,cY (by simp[hk])⟩
theorem jV{A:Around}{k:Nat}(hr:gq k A):A.units+60<cLine:=Mt (VD (by decide:60<=64) _) hr.units
theorem xZ{A:Around}{k:Nat}(hr:gq k A):A.units+61<cLine:=Mt (VD (by decide:61<=64) _) hr.units
end L2
namespace L2
open PySem PySem.Spec PyProof.Rows
def notStar:Expr->Bool
 |.Starred _ _=>false
 |_=>true
theorem lH{env:Env}{e:Expr}{es:List Expr}(h:notStar e=true):starEach (e::es) env=(false,eval e env)::starEach es env:=by
 cases e<;>first|rfl|cases h
theorem uo{env:Env}{pos:Pos}:∀ {es:List Expr},es.all notStar=true->(backTo pos (starEach es env)).any (·.1)=false
 |[],_=>rfl
 |e::es,h=>by
  rw[Br,mF] at h;rw[lH h.1];show(false||(backTo pos (starEach es env)).any (·.1))=false;rw[uo h.2];rfl
section
variable{X:Cx}{k j:Nat}{ps:List Str}{sp:Sp}{E:XK}{x:Str}{p pos:Pos}{e:Expr}{es:List Expr}{te:TE}{t:TA}{id T:String}{r:List V->Hp->VK->Prop}{C f:Addr}{fd:FuncData}
theorem a0V(D:Df X.prog X.w X.K X.mg X.base k x ps sp)(hr:gq j X.A)(hg:Gl X x)(hx:Passes (CXE X.prog X.w) X E)(ha:PA X (e::es) t)(hk:k<=j:=by decide)(h1:notStar e=true:=by rfl)(h2:es.all notStar=true:=by rfl)
  (hdb:(x==("__debug__" : Str))=false:=by decide):PE X (.Call (.Name x p) (e::es) [] pos) (OD sp [] E t):=a0v D hr hg hx ha hk hdb (lH h1) (uo h2)
theorem Y9(D:Df X.prog X.w X.K X.mg X.base k x ps sp)(hr:gq j X.A)(hg:Gl X x)(ha:PA X.nox (e::es) t)(hk:k<=j:=by decide)(h1:notStar e=true:=by rfl)(h2:es.all notStar=true:=by rfl)
  (hdb:(x==("__debug__" : Str))=false:=by decide):PEX X (.Call (.Name x p) (e::es) [] pos) (Gk sp [] t):=Xr D hr hg ha hk hdb (lH h1) (uo h2)
theorem U0(hc:dZ X (.builtin id) r)(hg:Gl X x)(hm:X.mg x=none)(hv:bootBuiltins x=some (.builtin id))(ha:PA X (e::es) t)(h1:notStar e=true:=by rfl)(h2:es.all notStar=true:=by rfl) (hn:x ≠ "__name__":=by decide)
  (hdb:(x==("__debug__" : Str))=false:=by decide):PE X (.Call (.Name x p) (e::es) [] pos) (tCB r t):=Tj hc hg hm hv ha hn hdb (lH h1) (uo h2)
theorem QT(hc:dZ X (.type T) r)(hg:Gl X x)(hm:X.mg x=none)(hv:bootBuiltins x=some (.type T))(ha:PA X (e::es) t)(h1:notStar e=true:=by rfl)(h2:es.all notStar=true:=by rfl) (hn:x ≠ "__name__":=by decide)
  (hdb:(x==("__debug__" : Str))=false:=by decide):PE X (.Call (.Name x p) (e::es) [] pos) (tCB r t):=QG hc hg hm hv ha hn hdb (lH h1) (uo h2)
end
structure Md(P:Program)(w:World)(K:ao)(mg:Str->Option Value)(base:Heap)(k:Nat)(x:Str)(ps:List Str)(C:Addr)(sp:Sp):Prop where
 ex:∃ f fd,Mk K C f/\cC P w K mg base (CXE P w) k f fd ps sp/\mg x=some (.ref C)/\Binds K fd ps []
section
variable{X:Cx}{k j:Nat}{ps:List Str}{sp:Sp}{E:XK}{x:Str}{p pos:Pos}{e:Expr}{es:List Expr}{te:TE}{t:TA}{C:Addr}
theorem Y8(D:Md X.prog X.w X.K X.mg X.base k x ps C sp)(hr:gq j X.A)(hg:Gl X x)(hx:Passes (CXE X.prog X.w) X E)(ha:PA X (e::es) t)(hk:k+1<=j:=by decide)(h1:notStar e=true:=by rfl)(h2:es.all notStar=true:=by rfl)
  (hdb:(x==("__debug__" : Str))=false:=by decide):PE X (.Call (.Name x p) (e::es) [] pos) (UW C sp [] E t):=by
 obtain⟨f,fd,M,F,hm,hb⟩:=D.ex;exact Xq M F (hr.mono hk) hg hm hb .nil hx ha hdb (lH h1) (uo h2)
end
end L2
namespace L2
open PySem PySem.Spec PyProof.Rows
structure RE(X:Cx)(e:Expr)(t:TE):Prop where ok:PE X e t
structure RT(X:Cx)(e:Expr)(t:TT):Prop where ok:PT X e t
structure RB(X:Cx)(e:Expr)(t:TT):Prop where ok:PW X e t
structure RA(X:Cx)(es:List Expr)(t:TA):Prop where ok:PA X es t
structure RS(X:Cx)(st:Stmt)(t:TS):Prop where ok:PS X st t
structure RSs(X:Cx)(st:List Stmt)(t:TS):Prop where ok:PSs X st t
structure RI(X:Cx)(tg iter:Expr)(t:TI):Prop where ok:PI X tg iter t
structure RG(X:Cx)(tg:Expr)(t:TG):Prop where ok:PG X tg t
structure RGs(X:Cx)(ts:List Expr)(t:TGs):Prop where ok:PGs X ts t
structure RO(X:Cx)(e:Option Expr)(t:TO):Prop where ok:PO X e t
structure RIf(X:Cx)(ifs:List Expr)(t:TT):Prop where ok:Hw X ifs t
structure REX(X:Cx)(e:Expr)(t:TEX):Prop where ok:PEX X e t
structure RSX(X:Cx)(st:List Stmt)(t:TSX):Prop where ok:PSX X st t
structure RH(X:Cx)(hs:List ExceptHandler)(th:Addr->TS):Prop where ok:PH X hs th
def yC:Expr->Bool
 |.ListComp _ _ _ _=>false
 |.SetComp _ _ _ _=>false
 |.DictComp _ _ _ _ _=>false
 |_=>true
theorem Uz{e:Expr}{t:Option Expr}{n:Nat}{env:Env}(h:yC e=true):swapsWith e t n env=pure false:=by
 cases e<;>first|rfl|cases h
def plainT:Expr->Bool
 |.Call _ _ _ _=>true
 |.Name _ _=>true
 |.Constant _ _ _=>true
 |.Attribute _ _ _=>true
 |.Subscript _ _ _=>true
 |_=>false
theorem a2f{e:Expr}{env:Env}(h:plainT e=true):∀ whole,isTrue e env whole=(do let v <- whole;standAt e.pos;holding [v] (truthy v)):=by
 intro whole;cases e<;>first|rfl|cases h
def O8:Expr->Bool
 |.Name _ _=>true
 |.Constant _ _ _=>true
 |.BinOp _ _ _ _=>true
 |.UnaryOp _ _ _=>true
 |.Call _ _ _ _=>true
 |.Subscript _ _ _=>true
 |.Attribute _ _ _=>true
 |_=>false
theorem a1P{b:Expr}(h:O8 b=true):Nf b:=by
 intro o i;cases b<;>first|rfl|cases h
section
variable{X:Cx}{a b c e o:Expr}{es rest:List Expr}{ta tb tc te to:TE}{t:TA}{tA tB':TT}{pos p:Pos}{i:Nat}{x:Str}
theorem rv(i:Nat)(hN:X.N[i]?=some x:=by rfl)(hv:Vis X.env.scope x:=by first|exact Or.inl rfl|exact Or.inr (Or.inl rfl)|exact Or.inr (Or.inr rfl)) (hd:(x==("__debug__" : Str))=false:=by decide)
  (hcd:(x==("__classdict__" : Str))=false:=by decide):RE X (.Name x pos) (a2I i):=⟨a0E hN hv hd hcd⟩
theorem aH {i j pos}:RE X (.Constant (.int i) j pos) (tC (.int i)):=⟨a0x⟩
theorem pH {b j pos}:RE X (.Constant (.bool b) j pos) (tC (.bl b)):=⟨a1X⟩
theorem zQ {j pos}:RE X (.Constant .none j pos) (tC .non):=⟨a0z⟩
theorem iz {z j pos}:RE X (.Constant (.str z) j pos) (tC (.str z)):=⟨a0C⟩
theorem Ld{i:Int}(h:∃ t,X.mg x=some (.int i t))(hg:Gl X x) (hd:(x==("__debug__" : Str))=false:=by decide):RE X (.Name x pos) (tC (.int i)):=⟨Xo h hg hd⟩
theorem U7{z:Str}(h:∃ t,X.mg x=some (.str z t))(hg:Gl X x) (hd:(x==("__debug__" : Str))=false:=by decide):RE X (.Name x pos) (tC (.str z)):=⟨Xp h hg hd⟩
theorem a2w{n:String}(hm:X.mg x=none)(hg:Gl X x)(hv:bootBuiltins x=some (.type n)) (hn:x ≠ "__name__":=by decide) (hd:(x==("__debug__" : Str))=false:=by decide):RE X (.Name x pos) (tC (.ty n)):=⟨Xk hg hm hv rfl hn hd⟩
theorem eV{op:Operator}{r:R2}(ho:OpR X (binaryOp op) r)(ha:RE X a ta)(hb:RE X b tb):RE X (.BinOp a op b pos) (tOp r ta tb):=⟨a2a ho ha.ok hb.ok⟩
theorem QW{op:UnaryOp}{r:V->Hp->VK->Prop}(ho:UnR X (unaryOp op) r)(ha:RE X a ta):RE X (.UnaryOp op a pos) (tUn r ta):=⟨a2b ho ha.ok⟩
theorem zP{op:CmpOp}{r:R2}(ho:OpR X (compareOp op) r)(ha:RE X a ta)(hb:RE X b tb)(hm:behindInMarks op b=false):RE X (.Compare a [op] [b] pos) (tOp r ta tb):=⟨Xm ho ha.ok hb.ok hm⟩
theorem bA{op:CmpOp}{r:R2}(ho:OpR X (compareOp op) r)(ha:RE X a ta)(hb:RE X b tb)(hm:behindInMarks op b=false):RT X (.Compare a [op] [b] pos) (P0 (tOp r ta tb)):=⟨XS ho ha.ok hb.ok hm⟩
theorem yE{op op':CmpOp}{r r':R2}(ho:OpR X (compareOp op) r)(ho':OpR X (compareOp op') r')(ha:RE X a ta)(hb:RE X b tb)(hc:RE X c tc)
  (hm:lastMarks [op,op'] [b,c]=false:=by with_unfolding_all rfl):RE X (.Compare a [op,op'] [b,c] pos) (Gm r r' ta tb tc):=⟨Tn ho ho' ha.ok hb.ok hc.ok hm⟩
theorem zY{op op':CmpOp}{r r':R2}(ho:OpR X (compareOp op) r)(ho':OpR X (compareOp op') r')(ha:RE X a ta)(hb:RE X b tb)(hc:RE X c tc)
  (hm:lastMarks [op,op'] [b,c]=false:=by with_unfolding_all rfl):RT X (.Compare a [op,op'] [b,c] pos) (P0 (Gm r r' ta tb tc)):=⟨TX ho ho' ha.ok hb.ok hc.ok hm⟩
theorem j7(h:RE X e te)(he:plainT e=true:=by rfl):RT X e (L2.tB te):=⟨a0T h.ok (a2f he)⟩
theorem oO(ha:RT X a tA):RB X (.BoolOp .And [a] pos) tA:=⟨pw_and1 ha.ok⟩
theorem zT(ha:RT X a tA):RB X (.BoolOp .Or [a] pos) tA:=⟨pw_or1 ha.ok⟩
theorem sJ(ha:RT X a tA)(hb:RB X (.BoolOp .And (b::rest) pos) tB'):RB X (.BoolOp .And (a::b::rest) pos) (a2C tA tB'):=⟨pw_and ha.ok hb.ok⟩
theorem xH(ha:RT X a tA)(hb:RB X (.BoolOp .Or (b::rest) pos) tB'):RB X (.BoolOp .Or (a::b::rest) pos) (tOr tA tB'):=⟨pw_or ha.ok hb.ok⟩
theorem yh(h:RB X e tA):RT X e tA:=⟨h.ok.pt⟩
theorem lB(ha:RT X a tA):RT X (.UnaryOp .Not a pos) (a2E tA):=⟨a0S ha.ok⟩
theorem Jk {op} {t:TE} (h:RE X a t):RE X (.BoolOp op [a] pos) t:=⟨a0B h.ok⟩
theorem Jj(ha:RE X a ta)(hb:RE X (.BoolOp .And (b::rest) pos) tb):RE X (.BoolOp .And (a::b::rest) pos) (Z6 ta tb):=⟨a0t ha.ok hb.ok⟩
theorem a2v(ha:RE X a ta):RE X (.UnaryOp .Not a pos) (Za ta):=⟨a0A ha.ok⟩
theorem ak:RA X [] sZ:=⟨a0s⟩
theorem aj(ha:RE X e te)(hr:RA X es t)(hs:notStar e=true:=by rfl):RA X (e::es) (JL te t):=⟨Xj ha.ok hr.ok (lH hs)⟩
theorem fu {x1} (h:RA X es t):RE X (.Tuple es x1 pos) (a1m t):=⟨a0D h.ok⟩
theorem dO(h:RA X es t):RE X (.List es pos) (a1k t):=⟨a0y h.ok⟩
theorem cH{r:R2}(hr:IxR X r)(ha:RE X a ta)(hb:RE X b tb)(hs:O8 b=true:=by rfl):RE X (.Subscript a b pos) (tOp r ta tb):=⟨a1Z hr ha.ok hb.ok (a1P hs)⟩
theorem yH:RO X none OJ:=⟨XC⟩
theorem yI(h:RE X e te):RO X (some e) (Zb te):=⟨XD h.ok⟩
theorem yF{lo hi:Option Expr}{tl th:TO}{p2:Pos}{r:V->Option Int->Option Int->Hp->VK->Prop}(hr:SlR X r)(he:RE X e te)(hl:RO X lo tl)(hu:RO X hi th):RE X (.Subscript e (.Slice lo hi none p2) pos) (tSl r te tl th):=⟨Tr hr he.ok hl.ok hu.ok⟩
theorem a2u{f:Str}(he:RE X e ta)(hb:attributeBase e f X.env (eval e X.env)=eval e X.env:=by rfl):RE X (.Attribute e f pos) (a1i X.K ta f):=⟨a0w he.ok hb⟩
variable{k j:Nat}{ps:List Str}{sp:Sp}{E:XK}{id T:String}{r:List V->Hp->VK->Prop}{C:Addr}
theorem aO(D:Df X.prog X.w X.K X.mg X.base k x ps sp)(hr:gq j X.A)(hg:Gl X x)(hx:Passes (CXE X.prog X.w) X E)(ha:RA X (e::es) t)(hk:k<=j:=by decide)(h1:notStar e=true:=by rfl)(h2:es.all notStar=true:=by rfl)
  (hdb:(x==("__debug__" : Str))=false:=by decide):RE X (.Call (.Name x p) (e::es) [] pos) (OD sp [] E t):=⟨a0V D hr hg hx ha.ok hk h1 h2 hdb⟩
theorem a1d(D:Df X.prog X.w X.K X.mg X.base k x ps sp)(hr:gq j X.A)(hg:Gl X x)(ha:RA X.nox (e::es) t)(hk:k<=j:=by decide)(h1:notStar e=true:=by rfl)(h2:es.all notStar=true:=by rfl)
  (hdb:(x==("__debug__" : Str))=false:=by decide):REX X (.Call (.Name x p) (e::es) [] pos) (Gk sp [] t):=⟨Y9 D hr hg ha.ok hk h1 h2 hdb⟩
theorem a0W(D:Md X.prog X.w X.K X.mg X.base k x ps C sp)(hr:gq j X.A)(hg:Gl X x)(hx:Passes (CXE X.prog X.w) X E)(ha:RA X (e::es) t)(hk:k+1<=j:=by decide)(h1:notStar e=true:=by rfl)(h2:es.all notStar=true:=by rfl)
  (hdb:(x==("__debug__" : Str))=false:=by decide):RE X (.Call (.Name x p) (e::es) [] pos) (UW C sp [] E t):=⟨Y8 D hr hg hx ha.ok hk h1 h2 hdb⟩
theorem aU(hc:dZ X (.builtin id) r)(hg:Gl X x)(hm:X.mg x=none)(hv:bootBuiltins x=some (.builtin id))(ha:RA X (e::es) t)(h1:notStar e=true:=by rfl)(h2:es.all notStar=true:=by rfl) (hn:x ≠ "__name__":=by decide)
  (hdb:(x==("__debug__" : Str))=false:=by decide):RE X (.Call (.Name x p) (e::es) [] pos) (tCB r t):=⟨U0 hc hg hm hv ha.ok h1 h2 hn hdb⟩
theorem nH(hc:dZ X (.type T) r)(hg:Gl X x)(hm:X.mg x=none)(hv:bootBuiltins x=some (.type T))(ha:RA X (e::es) t)(h1:notStar e=true:=by rfl)(h2:es.all notStar=true:=by rfl) (hn:x ≠ "__name__":=by decide)
  (hdb:(x==("__debug__" : Str))=false:=by decide):RE X (.Call (.Name x p) (e::es) [] pos) (tCB r t):=⟨QT hc hg hm hv ha.ok h1 h2 hn hdb⟩
theorem RD{env:Env}{cpos:Pos}:∀ {es:List Expr},es.all notStar=true->(backTo cpos (starEach es env)).all (fun x=>!x.1)=true
 |[],_=>rfl
 |e::es,h=>by
  rw[Br,mF] at h;rw[lH h.1];show((!false)&&(backTo cpos (starEach es env)).all (fun x=>!x.1))=true;rw[RD h.2];rfl
variable{name:Str}{apos cpos:Pos}{rm:V->List V->Hp->VK->Prop}
theorem a3t(pa:PlainAttrs T)(slot:Slot T name id) (hty:typeOf (.builtin id)=pure (.type "method_descriptor")) (hm:MtR X id rm) (ho:RE X o to) (ha:RA X (e::es) t) (h1:(e::es).all notStar=true:=by rfl)
  (hbase:attributeBase o name X.env (eval o X.env)=eval o X.env:=by rfl) (hlen:decide ((e::es).length<30)=true:=by rfl) (hline:(apos.endLine==cpos.line)=true:=by rfl):RE X (.Call (.Attribute o name apos) (e::es) [] cpos) (tBM X.K T rm to t):=by
 have h1':=h1;rw[Br,mF] at h1';refine⟨a1Y pa slot hty hm ho.ok ha.ok hbase ?_ hline (lH h1'.1) (uo h1'.2)⟩;rw[RD h1];have:decide ((e::es).length+([]:List Keyword).length+(if([]:List Keyword).isEmpty then 0 else 1)<30)=true:=by simpa using hlen
 rw[this];rfl
theorem a2t(pa:PlainAttrs T)(slot:Slot T name id) (hty:typeOf (.builtin id)=pure (.type "method_descriptor")) (hm:MtR X id rm) (ho:RE X o to)
  (hbase:attributeBase o name X.env (eval o X.env)=eval o X.env:=by rfl) (hline:(apos.endLine==cpos.line)=true:=by rfl):RE X (.Call (.Attribute o name apos) [] [] cpos) (a1h X.K T rm to):=⟨a0u pa slot hty hm ho.ok hbase hline⟩
end
section
variable{X:Cx}{tg l:Expr}{te:TE}{ta:TA}{p pos:Pos}
theorem Yk(hl:RE X l te):RI X tg l (O4 X.K te):=⟨Xx hl.ok⟩
theorem a1a(hl:RE X l te):RI X tg l (ZM X.K te):=⟨a0J hl.ok⟩
theorem a0Z(hl:RE X l te):RI X tg l (a1N te):=⟨a0I hl.ok⟩
theorem dY{a:Expr} (hg:Gl X "range") (hm:X.mg "range" = none) (ha:RA X [a] ta) (hs:notStar a=true:=by rfl):RI X tg (.Call (.Name "range" p) [a] [] pos) (YQ ta):=⟨QK hg hm ha.ok (lH hs)⟩
theorem vY{a b:Expr} (hg:Gl X "range") (hm:X.mg "range" = none) (ha:RA X [a,b] ta) (hs:notStar a=true:=by rfl) (hs2:notStar b=true:=by rfl):RI X tg (.Call (.Name "range" p) [a,b] [] pos) (YS ta):=
 ⟨QL hg hm ha.ok (by rw[lH hs,lH hs2];rfl) (lH hs2)⟩
theorem rB:RIf X [] R5:=⟨Xy⟩
theorem fB{c:Expr}{t:TT}(h:RT X c t):RIf X [c] t:=⟨Xz h.ok⟩
theorem gK{x:Str}{px:Pos}{scope:Scope}{elt iter:Expr}{ifs:List Expr}{wi:TI}{tc:TT}(ok:vG scope X.env.scope X.N x=true)(hc:X.calm=true)(hi:RI X (.Name x px) iter wi)
  (hif:∀ s H ex,RIf (iZ X x scope s H ex) ifs tc) (he:∀ s H ex,RE (iZ X x scope s H ex) elt te) (hs:∀ v,foldedSetIterable iter X.env v=pure v:=by intro _;rfl) :
  RE X (.ListComp elt [⟨.Name x px,iter,ifs,0⟩] scope pos) (Z7 wi tc te):=⟨Xn ok hc hi.ok (fun s H ex=>(hif s H ex).ok) (fun s H ex=>(he s H ex).ok) hs⟩
end
section
variable{X:Cx}{st:Stmt}{rest body:List Stmt}{t u tb:TS}{e tg iter:Expr}{te:TE}{pos:Pos}{i:Nat}{x:Str}
theorem bN:RSs X [] Z9:=⟨XM⟩
theorem aA(h1:RS X st t)(h2:RSs X rest u):RSs X (st::rest) (a1l t u):=⟨TV h1.ok h2.ok⟩
theorem aC(h1:RS X st t):RSs X [st] t:=⟨XQ h1.ok⟩
theorem gO(he:RE X e te)(hs:yC e=true:=by rfl):RS X (.Expr e pos) (Z8 te):=⟨XJ he.ok (Uz hs)⟩
theorem aR(he:RE X e te):RS X (.Return (some e) pos) (a2G te):=⟨a0P he.ok⟩
theorem dR{c:Expr}{a b:List Stmt}{tc:TT}(hc:RT X c tc)(ha:RSs X a t)(hb:RSs X b u):RS X (.If c a b pos) (a2D tc t u):=⟨a2g hc.ok ha.ok hb.ok⟩
theorem bC(hN:X.N.Nodup)(hi:X.N[i]?=some x)(hx:Loc X.env.scope x)(hf:X.fn x=true\/X.env.scope.names.lookup x=some .local:=by first|exact .inl rfl|exact .inr rfl|assumption):RG X (.Name x pos) (Di i):=⟨Xu hN hi hx hf⟩
theorem uz:RGs X [] ZF:=⟨Xv⟩
def O9:Expr->Bool
 |.Name _ _=>true
 |.Subscript _ _ _=>true
 |_=>false
theorem a1x{es:List Expr}{env:Env}(h:O9 e=true):(assignEach (e::es) env).map (·.2)=assign e env::(assignEach es env).map (·.2):=by
 cases e<;>first|rfl|cases h
theorem gU{es:List Expr}{t:TG}{u:TGs}(h1:RG X e t)(h2:RGs X es u)(hs:O9 e=true:=by rfl):RGs X (e::es) (O1 t u):=⟨Tv h1.ok h2.ok (a1x hs)⟩
theorem zW{es:List Expr}{k:Nat}{t:TGs}{n:Nat}(hc:X.calm=true)(h:RGs X es t)(hn:(assignEach es X.env).length=n:=by rfl)(hst:(assignEach es X.env).findIdx? (·.1)=none:=by rfl):RG X (.Tuple es k pos) (ZG X.K n t):=⟨a0G hc h.ok hn hst⟩
theorem Uc{o i:Expr}{to ti:TE}{t:W3}(ho:RE X o to)(hi:RE X i ti)(hs:Ze X t) (ha:∀ v,assign (.Subscript o i pos) X.env v=(do
   let ov <- holding [v] (eval o X.env)
   let iv <- holding [v,ov] (eval i X.env)
   standAt pos
   holding [v,ov,iv] (setItem ov iv v)
   release [v,ov,iv] []):=by intro _;rfl):RG X (.Subscript o i pos) (a1K to ti t):=⟨a0F ho.ok hi.ok hs ha⟩
theorem FW{g:TG}(he:RE X e te)(hg:RG X tg g)(hs:swapsWithSole [tg] e pos.line X.env=pure false:=by rfl)(hw:swappedStores [tg] e X.env=pure none:=by rfl)(h1:(assignEach [tg] X.env).map (·.2)=[assign tg X.env]:=by rfl):RS X (.Assign [tg] e pos) (Yu te g):=⟨a0L he.ok hg.ok hs hw h1⟩
theorem aZ{pos':Pos}(hN:X.N.Nodup)(hi:X.N[i]?=some x)(hx:Loc X.env.scope x)(he:RE X e te)(hs:yC e=true:=by rfl)(hf:X.fn x=true\/X.env.scope.names.lookup x=some .local:=by first|exact .inl rfl|exact .inr rfl|assumption) :
  RS X (.Assign [.Name x pos'] e pos) (Yu te (Di i)):=⟨a0Q hN hi hx he.ok (Uz hs) hf⟩
theorem Uh{j:Nat}{y:Str}{a b:Expr}{ta:TA}{px py pt:Pos} {kt k2 pt2} (hc:X.calm=true) (hN:X.N.Nodup) (hi:X.N[i]?=some x) (hj:X.N[j]?=some y) (hij:i≠j)
  (hx:X.env.scope.names.lookup x=some .local) (hy:X.env.scope.names.lookup y=some .local) (ha:RA X [a,b] ta) (hw:swappedStores [.Tuple [.Name x px,.Name y py] kt pt] (.Tuple [a,b] k2 pt2) X.env=pure (some [x,y])) :
  RS X (.Assign [.Tuple [.Name x px,.Name y py] kt pt] (.Tuple [a,b] k2 pt2) pos) (a2F i j ta):=⟨a0O hc hN hi hj hij hx hy ha.ok hw⟩
theorem cL{wi:TI}{g:TG}(hp:PassesOwn (model X.prog X.w) X.A X.env X.xe)(hc:X.calm=true)(hi:RI X tg iter wi)(hg:RG X tg g)(hb:RSs X body tb)(hs:∀ x,foldedSetIterable iter X.env x=pure x:=by intro _;rfl) :
  RS X (.For tg iter body [] pos) (a1j wi g tb):=⟨a0N hp hc hi.ok hg.ok hb.ok hs⟩
theorem Jt{c:Expr}{tc:TT}(hp:PassesOwn (model X.prog X.w) X.A X.env X.xe)(hc:RT X c tc)(hb:RSs X body tb):RS X (.While c body [] pos) (V2 tc tb):=⟨TJ hp hc.ok hb.ok⟩
theorem Lg{o value:Expr}{f:Str}{ta tv:TE}{pos':Pos}(ha:RE X o ta)(hv:RE X value tv)(hs:yC value=true:=by rfl):RS X (.Assign [.Attribute o f pos'] value pos) (a2x X.K ta tv f):=⟨a0M ha.ok hv.ok (Uz hs)⟩
theorem uD{y:Str}{py px spos:Pos}{scope:Scope}{elt:Expr}{ifs:List Expr}{wi:TI}{tc:TT}(hN:X.N.Nodup)(hiy:X.N[i]?=some y)(hy:X.env.scope.names.lookup y=some .local)
  (ok:vG scope X.env.scope X.N x=true) (hc:X.calm=true) (hi:RI X (.Name x px) iter wi) (hif:∀ s H ex,RIf (iZ X x scope s H ex) ifs tc) (he:∀ s H ex,RE (iZ X x scope s H ex) elt te)
  (hsw:swapsWith (.ListComp elt [⟨.Name x px,iter,ifs,0⟩] scope pos) (some (.Name y py)) spos.line X.env=pure true:=by rfl) (hs:∀ v,foldedSetIterable iter X.env v=pure v:=by intro _;rfl) :
  RS X (.Assign [.Name y py] (.ListComp elt [⟨.Name x px,iter,ifs,0⟩] scope pos) spos) (UG i wi tc te):=⟨XH hN hiy hy ok hc hi.ok (fun s H ex=>(hif s H ex).ok) (fun s H ex=>(he s H ex).ok) hsw hs⟩
theorem RS.nox(h:RS X.nox st t):RS X st t:=⟨PS.nox h.ok⟩
theorem RT.nox{tt:TT}(h:RT X.nox e tt):RT X e tt:=⟨PT.nox h.ok⟩
theorem Ym{te:TEX}(he:REX X e te):RSX X [.Return (some e) pos] (Zc te):=⟨XR he.ok⟩
theorem a0Y:RH X [] (fun _ _ _ _=>False):=⟨a0H⟩
theorem a1b{h₀:ExceptHandler}{hs:List ExceptHandler}{tb:TSX}{th:Addr->TS}(hst:X.stack=X.env::X.outer)(hfr:X.env.frame=some X.env.locals)(hb:RSX X body tb)(hh:RH X (h₀::hs) th) :
  RS X (.Try body (h₀::hs) [] [] pos) (a2H tb th):=⟨a0R hst hfr hb.ok hh.ok⟩
end
section
variable{P:Program}{w:World}{K:ao}{mg:Str->Option Value}{base:Heap}{N:List Str}{qual:Str}{scope:Scope}{f:Addr}{cd:Value}{A:Around}{outer:List Env}{s0:Shared}{H0:Hp}{E:XK}
theorem ju{x:Str}{np cpos pos:Pos}{e₀:Expr}{rest:List Expr}{t:TA}{C:Addr}(c:gQ K C)(hg:Gl (pG (CXE P w) P w K mg base N qual scope f cd A outer s0 H0 E) x)(hm:mg x=some (.ref C))(hh:A.handled=none)
  (ha:RA (pG (CXE P w) P w K mg base N qual scope f cd A outer s0 H0 E) (e₀::rest) t) (h1:notStar e₀=true:=by rfl) (h2:rest.all notStar=true:=by rfl) (hd:(x==("__debug__" : Str))=false:=by decide) :
  RS (pG (CXE P w) P w K mg base N qual scope f cd A outer s0 H0 E) (.Raise (some (.Call (.Name x np) (e₀::rest) [] cpos)) none pos) (V1 t C E):=⟨TF c hg hm hh ha.ok hd (lH h1) (uo h2)⟩
theorem Fun.Js{x qual:Str}{st:Stmt}{f:Addr}{fd:FuncData}{N ps:List Str}{k:Nat}{sp:Sp}(F:Fun K x qual st f fd)(S:aN N ps (aG st))(len:∀ vs H Q E,sp vs H Q E->vs.length=ps.length)
  (hbody:∀(cdv:Value)(A:Around)(outer:List Env)(s:Shared)(H:Hp)(vs:List V)(Q:VK)(E:XK),gq k (A.deeper (envOfC qual (aG st) s.heap.objs.size f cdv))->sp vs H Q E ->
   ∃ t,RSs (pG (CXE P w) P w K mg base N qual (aG st) f cdv A outer s H E) (fL st) t/\t { nx:=fun _ H'=>Q .non H',rt:=Q } (start N vs) H):cC P w K mg base (CXE P w) (k+1) f fd ps sp:=
 F.okE S len fun cdv A outer s H vs Q E hr hsp=>let ⟨t,h,q⟩:=hbody cdv A outer s H vs Q E hr hsp;⟨t,h.ok,q⟩
theorem Fun.rok{x qual:Str}{st:Stmt}{f:Addr}{fd:FuncData}{N ps:List Str}{k:Nat}{sp:Sp}(F:Fun K x qual st f fd)(S:aN N ps (aG st))(len:∀ vs H Q E,sp vs H Q E->vs.length=ps.length)
  (hbody:∀(cdv:Value)(A:Around)(outer:List Env)(s:Shared)(H:Hp)(vs:List V)(Q:VK)(E:XK),gq k (A.deeper (envOfC qual (aG st) s.heap.objs.size f cdv))->sp vs H Q E ->
   ∃ t,RSs (pG (CXE P w) P w K mg base N qual (aG st) f cdv A outer s H E).nox (fL st) t/\t { nx:=fun _ H'=>Q .non H',rt:=Q } (start N vs) H):cC P w K mg base (CXE P w) (k+1) f fd ps sp:=
 F.ok0 S len fun cdv A outer s H vs Q E hr hsp=>let ⟨t,h,q⟩:=hbody cdv A outer s H vs Q E hr hsp;⟨t,h.ok,q⟩
end
end L2
namespace L2
open PySem PySem.Spec PyProof.Rows
mutual
theorem Den.mono{K:ao}{H H':Hp}(s:Same H H'):∀ {v:V} {d:Dt},Den K H v d->Den K H' v d
 |_,_,.non=>.non
 |_,_,.bl b=>.bl b
 |_,_,.int i=>.int i
 |_,_,.str x=>.str x
 |_,_,.tup h hs=>.tup (s _ _ h) (aP.mono s hs)
 |_,_,.lst h hs=>.lst (s.seq h) (aP.mono s hs)
theorem aP.mono{K:ao}{H H':Hp}(s:Same H H'):∀ {vs:List V} {ds:List Dt},aP K H vs ds->aP K H' vs ds
 |_,_,.nil=>.nil
 |_,_,.cons h t=>.cons (Den.mono s h) (aP.mono s t)
end
theorem aP.strs{K:ao}{H:Hp}:∀ zs:List Str,aP K H (zs.map V.str) (zs.map Dt.str)
 |[]=>.nil
 |z::zs=>.cons (.str z) (aP.strs zs)
theorem aP.FP{K:ao}{H:Hp}:∀ {bs:List Bool} {vs:List V},aP K H vs (bs.map Dt.bl)->vs=bs.map V.bl
 |[],_,.nil=>rfl
 |n::ns,_,.cons h t=>by cases h;rw[aP.FP t];rfl
structure pN(J:It)(H:Hp)(vs:List V):Prop where
 go:∀ H' i,Same H H'->i<vs.length->J.go i H'
 yld:∀ H' i v H'',Same H H'->i<vs.length->J.yld i H' v H''->vs[i]?=some v/\H''=H'
 stop:∀ H',Same H H'->J.stop vs.length H'
theorem bM{K:ao}{H:Hp}{a:Addr}{vs:List V}(h:SqL K H a vs):pN (Itl K a) H vs:=
 ⟨fun H' i s hi=>⟨vs,vs[i],s.seq h,by simp[hi]⟩,fun H' i v H'' s hi y=>⟨y.2 vs (s.seq h),y.1⟩,fun H' s=>⟨vs,s.seq h,bK _⟩⟩
theorem KZ{H:Hp}(lo:Int)(n:Nat):pN (Itr lo n) H (((List.range n).map fun i:Nat=>lo+(i:Int)).map V.int):=by
 have hl:(((List.range n).map fun i:Nat=>lo+(i:Int)).map V.int).length=n:=by simp
 refine⟨fun H' i _ hi=>?_,fun H' i v H'' _ hi y=>⟨?_,y.1⟩,fun H' _=>?_⟩
 ·rw[hl] at hi;exact hi
 ·rw[hl] at hi;rw[y.2];simp[hi]
 ·rw[hl];exact bK _
theorem Tg{H:Hp}(z:Str):pN (Its z) H ((z.cps.toList.map fun c=>(⟨#[c]⟩:Str)).map V.str):=by
 have hl:((z.cps.toList.map fun c=>(⟨#[c]⟩:Str)).map V.str).length=z.cps.size:=by simp
 refine⟨fun H' i _ hi=>?_,fun H' i v H'' _ hi y=>?_,fun H' _=>?_⟩
 ·rw[hl] at hi;exact hi
 ·rw[hl] at hi;obtain⟨e,c,ec,y⟩:=y;have:z.cps.toList[i]?=some c:=by simpa using ec
  exact⟨by rw[y];simp[this],e⟩
 ·rw[hl];exact bK _
theorem dF{α:Type}{K:ao}{J:It}{H:Hp}{vs:List V}{xs:List α}{enc:α->Dt}{tc:TT}{te:TE}{zzs:St}{fin:List V->Hp->Prop}(hJ:pN J H vs)(hx:aP K H vs (xs.map enc))(hn:xs.length<=sizeLine)(p:α->Bool)(f:α->Dt)
  (ht:∀ a∈xs,∀ v H',Same H H'->Den K H' v (enc a)->∀ G:Bool->Hp->Prop,(∀ H'',Same H' H''->G (p a) H'')->tc (some v::zzs) H' G)
  (hf:∀ a∈xs,p a=true->∀ v H',Same H H'->Den K H' v (enc a)->∀ G:VK,(∀ y H'',Same H' H''->Den K H'' y (f a)->G y H'')->te (some v::zzs) H' G)
  (hd:∀ ys H',Same H H'->aP K H' ys ((xs.filter p).map f)->fin ys H'):∃ W:Nat->Nat->List V->Hp->Prop,(∃ m,W 0 m [] H)/\pJ J tc te zzs fin W:=by
 have hlv:vs.length=xs.length:=by rw[hx.length,aV]
 refine Nu (n:=vs.length) (item:=fun i=>vs.getD i .non) (fun i ys H'=>Same H H'/\aP K H' ys (((xs.take i).filter p).map f)) (by rw[hlv];exact hn) (fun i ys H' hi r=>hJ.go H' i r.1 hi) (fun i ys H' v H'' hi r y=>?_) (fun ys H' r=>hJ.stop H' r.1)
  (fun i ys H' hi r=>?_) ⟨Same.refl _,.nil⟩ (fun i ys H' hi r G hG=>?_) (fun ys H' r=>?_)
 ·obtain⟨e,e'⟩:=hJ.yld H' i v H'' r.1 hi y;exact⟨by rw[fX,e];rfl,e'⟩
 ·rw[r.2.length,aV];exact cP (iw _ _) (by rw[lQ];exact Nat.min_le_left _ _)
 ·obtain⟨s1,D⟩:=r;have hi':i<xs.length:=by lia
  have ev:vs[i]?=some (vs.getD i .non):=by simp[fX,hi]
  obtain⟨d,ed,dv⟩:=hx.get ev;have ea:d=enc xs[i]:=by
   rw[cV,dU hi'] at ed;exact(iD ed).symm
  subst ea;have tk:xs.take (i+1)=xs.take i++[xs[i]]:=by rw[jP,dU hi'];rfl
  refine ht xs[i] (mG hi') _ H' s1 (dv.mono s1) _ fun H2 s2=>?_
  cases hp:p xs[i] with
  |false=>
   refine oJ (hG _ _ ⟨s1.trans s2,?_⟩);rw[tk,xQ,show List.filter p [xs[i]]=[] by simp[hp],xW];exact D.mono s2
  |true=>
   refine Iz (hf xs[i] (mG hi') hp _ H2 (s1.trans s2) (dv.mono (s1.trans s2)) _ fun y H3 s3 dy=>hG _ _ ⟨(s1.trans s2).trans s3,?_⟩);rw[tk,xQ,show List.filter p [xs[i]]=[xs[i]] by simp[hp],eG];exact(D.mono (s2.trans s3)).append (.cons dy .nil)
 ·rw[hlv,jO] at r;exact hd ys H' r.1 r.2
theorem comp_map{α:Type}{K:ao}{J:It}{H:Hp}{vs:List V}{xs:List α}{enc:α->Dt}{te:TE}{zzs:St}{fin:List V->Hp->Prop}(hJ:pN J H vs)(hx:aP K H vs (xs.map enc))(hn:xs.length<=sizeLine)(f:α->Dt)
  (hf:∀ a∈xs,∀ v H',Same H H'->Den K H' v (enc a)->∀ G:VK,(∀ y H'',Same H' H''->Den K H'' y (f a)->G y H'')->te (some v::zzs) H' G)
  (hd:∀ ys H',Same H H'->aP K H' ys (xs.map f)->fin ys H'):∃ W:Nat->Nat->List V->Hp->Prop,(∃ m,W 0 m [] H)/\pJ J R5 te zzs fin W:=
 dF hJ hx hn (fun _=>true) f (fun a _ v H' _ _ G hG=>hG H' (Same.refl _)) (fun a ha _=>hf a ha) fun ys H' s D=>hd ys H' s (by rw[Aw.mpr (fun _ _=>rfl)] at D;exact D)
end L2
namespace L2
open PySem PySem.Spec PyProof.Rows
section
variable{X:Cx}{K:ao}
theorem nD(hu:X.A.units+60<cLine)(hK:X.K=K:=by rfl):OpR X (compareOp .Eq) (Yb K false):=by subst hK;exact a0l hu
theorem Dq(hu:X.A.units+60<cLine)(hK:X.K=K:=by rfl):OpR X (compareOp .NotEq) (Yb K true):=by subst hK;exact a0q hu
theorem pq(hu:X.A.units+61<cLine)(hK:X.K=K:=by rfl):OpR X (compareOp .In) (QV K false):=by subst hK;exact a0o hu
theorem kW(hu:X.A.units+61<cLine)(hK:X.K=K:=by rfl):OpR X (compareOp .NotIn) (QV K true):=by subst hK;exact QC hu
theorem cG(hK:X.K=K:=by rfl):IxR X (rIx K):=by subst hK;exact ZQ
def YZ(K:ao):List V->Hp->VK->Prop:=fun xs H Q=>(∃ p ys,xs=[.ref p]/\(SqL K H p ys\/SqT K H p ys)/\Q (.int ys.length) H)\/(∃ z,xs=[.str z]/\z.length<=sizeLine/\Q (.int z.length) H)
theorem dH(hK:X.K=K:=by rfl):dZ X (.builtin "len") (YZ K):=by subst hK;exact Ey.or Ez
def a3s(K:ao):V->Option Int->Option Int->Hp->VK->Prop:=fun x lo hi H Q=>a2r K x lo hi H Q\/a2s x lo hi H Q
theorem Ww(hK:X.K=K:=by rfl):SlR X (a3s K):=by subst hK;exact Ys.or a1g
def Ye(K:ao):List V->Hp->VK->Prop:=fun xs H Q=>∃ p ys,xs=[.ref p]/\(SqL K H p ys\/SqT K H p ys)/\∀ l,H l=none->Q (.ref l) (upd H l (.lst ys))
theorem S6(hK:X.K=K:=by rfl):dZ X (.type "list") (Ye K):=by subst hK;exact EY
def a2i(K:ao):List V->Hp->VK->Prop:=fun xs H Q=>∃(p:Addr)(bs:List Bool),xs=[.ref p]/\SqL K H p (bs.map V.bl)/\Q (.bl (bs.all id)) H
theorem k_all(hc:X.calm=true)(hK:X.K=K:=by rfl):dZ X (.builtin "all") (a2i K):=by subst hK;exact Ri hc
end
section
variable{X:Cx}{K:ao}{tg l e o:Expr}{es:List Expr}{te ta to:TE}{t:TA}{pos apos cpos:Pos}{f name:Str}{T id:String}{rm:V->List V->Hp->VK->Prop}
theorem bx(hl:RE X l te)(hK:X.K=K:=by rfl):RI X tg l (O4 K te):=by subst hK;exact Yk hl
theorem WM(hl:RE X l te)(hK:X.K=K:=by rfl):RI X tg l (ZM K te):=by subst hK;exact a1a hl
theorem oK(he:RE X e ta)(hK:X.K=K:=by rfl)(hb:attributeBase e f X.env (eval e X.env)=eval e X.env:=by rfl):RE X (.Attribute e f pos) (a1i K ta f):=by subst hK;exact a2u he hb
theorem lX(pa:PlainAttrs T)(slot:Slot T name id) (hty:typeOf (.builtin id)=pure (.type "method_descriptor")) (hm:MtR X id rm) (ho:RE X o to) (ha:RA X (e::es) t) (hK:X.K=K:=by rfl) (h1:(e::es).all notStar=true:=by rfl)
  (hbase:attributeBase o name X.env (eval o X.env)=eval o X.env:=by rfl) (hlen:decide ((e::es).length<30)=true:=by rfl) (hline:(apos.endLine==cpos.line)=true:=by rfl):RE X (.Call (.Attribute o name apos) (e::es) [] cpos) (tBM K T rm to t):=by
 subst hK;exact a3t pa slot hty hm ho ha h1 hbase hlen hline
theorem a02(pa:PlainAttrs T)(slot:Slot T name id) (hty:typeOf (.builtin id)=pure (.type "method_descriptor")) (hm:MtR X id rm) (ho:RE X o to) (hK:X.K=K:=by rfl)
  (hbase:attributeBase o name X.env (eval o X.env)=eval o X.env:=by rfl) (hline:(apos.endLine==cpos.line)=true:=by rfl):RE X (.Call (.Attribute o name apos) [] [] cpos) (a1h K T rm to):=by
 subst hK;exact a2t pa slot hty hm ho hbase hline
end
theorem cu:bootBuiltins "len" = some (.builtin "len"):=by decide +kernel
theorem K4:bootBuiltins "all" = some (.builtin "all"):=by decide +kernel
theorem rJ:bootBuiltins "isinstance" = some (.builtin "isinstance"):=by decide +kernel
theorem vB:bootBuiltins "sorted" = some (.builtin "sorted"):=by decide +kernel
theorem K6:bootBuiltins "min" = some (.builtin "min"):=by decide +kernel
theorem Rg:bootBuiltins "max" = some (.builtin "max"):=by decide +kernel
theorem K5:bootBuiltins "int" = some (.type "int"):=by decide +kernel
theorem Zi:bootBuiltins "str" = some (.type "str"):=by decide +kernel
theorem Ew:bootBuiltins "list" = some (.type "list"):=by decide +kernel
theorem Rh:bootBuiltins "tuple" = some (.type "tuple"):=by decide +kernel
theorem Zj:bootBuiltins "zip" = some (.type "zip"):=by decide +kernel
end L2
namespace L2
open PySem PySem.Spec PyProof.Rows
theorem aF{t u:TS}{D:Ends}{zzs:L2.St}{H:Hp}(Mid:L2.St->Hp->Prop)(h:∀ R:L2.St->Hp->Prop,(∀ bG H',Mid bG H'->R bG H')->t { D with nx:=R } zzs H)(k:∀ bG H',Mid bG H'->u D bG H'):a1l t u D zzs H:=h (u D) k
theorem sz{n:Nat}(h:Nat.ble n 10000=true):n<=sizeLine:=small (Gv h)
theorem wZ{i j:Int}:decide (V.int i=V.int j)=decide (i=j):=by simp
theorem cZ{α:Type}{x:α}{xs:List α}:atI (x::xs) 0=some x:=cY (j:=0) rfl
theorem Dj{A:Around}{k:Nat}{env:Env}(hr:gq k (A.deeper env)):A.handled=none:=hr.hd
theorem dG{b:Bool}{A Bq:Prop}(h1:b=true->A)(h2:b=false->Bq):if b=true then A else Bq:=by
 cases b with
 |true=>exact Iz (h1 rfl)
 |false=>exact oJ (h2 rfl)
theorem HY{l n m:Int}{te:TE}{zzs:L2.St}{H:Hp}{G:Bool->Hp->Prop}(he:∀ Q':VK,Q' (.int m) H->te zzs H Q')(hg:G (decide (l<=n/\n<m)) H) :
  if decide (l<=n)=true then te zzs H (fun w' H4=>rI0 (fun i j=>.bl (decide (i<j))) (.int n) w' H4 fun x H'=>∃ k,x=.bl k/\G k H') else ∃ k,V.bl false=.bl k/\G k H:=by
 refine Cj (fun h1=>he _ ⟨_,_,rfl,rfl,_,rfl,?_⟩) (fun h1=>⟨_,rfl,?_⟩)
 ·have h1':=cN h1;have e:decide (l<=n/\n<m)=decide (n<m):=by simp[h1']
  rw[<- e];exact hg
 ·have e:decide (l<=n/\n<m)=false:=cB fun h=>h1 (bT h.1)
  rw[<- e];exact hg
theorem CQ{l n m:Int}{te:TE}{zzs:L2.St}{H:Hp}{G:VK}(he:∀ Q':VK,Q' (.int m) H->te zzs H Q')(hg:G (.bl (decide (l<=n/\n<m))) H) :
  if decide (l<=n)=true then te zzs H (fun w' H4=>rI0 (fun i j=>.bl (decide (i<j))) (.int n) w' H4 G) else G (.bl false) H:=by
 refine Cj (fun h1=>he _ ⟨_,_,rfl,rfl,?_⟩) (fun h1=>?_)
 ·have h1':=cN h1;have e:decide (l<=n/\n<m)=decide (n<m):=by simp[h1']
  show G (.bl (decide (n<m))) H;rw[<- e];exact hg
 ·have e:decide (l<=n/\n<m)=false:=cB fun h=>h1 (bT h.1)
  rw[<- e];exact hg
abbrev Cell:=Int×Int
def au(x:Cell):Dt:=.tup [.int x.1,.int x.2]
theorem Ip(a b:Cell):eqD (au a) (au b)=decide (a=b):=by
 have e1:eqD (.int a.1) (.int b.1)=decide (a.1=b.1):=by rw[tV rfl rfl];exact(Vr _ _)
 have e2:eqD (.int a.2) (.int b.2)=decide (a.2=b.2):=by rw[tV rfl rfl];exact(Vr _ _)
 show(eqD (.int a.1) (.int b.1)&&(eqD (.int a.2) (.int b.2)&&true))=_;rw[e1,e2,Bool.and_true];by_cases h1:a.1=b.1<;>by_cases h2:a.2=b.2<;>simp[h1,h2,Prod.ext_iff]
theorem zA(a:Cell):pY (au a)<=50:=Gv rfl
theorem yR(x:Cell):∀ cs:List Cell,((cs.map au).any fun e=>eqD e (au x))=decide (x∈cs)
 |[]=>by simp
 |c::cs=>by
  rw[fH,wQ,Ip,yR x cs];by_cases h:c=x<;>by_cases h2:x∈cs<;>simp[h,h2,eq_comm]
  intro e;exact absurd e.symm h
def Ls(K:ao)(H:Hp)(p:Addr)(ds:List Dt):Prop:=∃ xs,H p=some (.lst xs)/\aP K H xs ds
theorem Ls.den{K:ao}{H:Hp}{p:Addr}{ds:List Dt}(h:Ls K H p ds):Den K H (.ref p) (.lst ds):=let ⟨_,e,D⟩:=h;.lst (SqL.of e) D
theorem Ls.mono{K:ao}{H H':Hp}{p:Addr}{ds:List Dt}(h:Ls K H p ds)(s:Same H H'):Ls K H' p ds:=let ⟨xs,e,D⟩:=h;⟨xs,s _ _ e,D.mono s⟩
theorem Ls.new{K:ao}{H:Hp}{p:Addr}{xs:List V}{ds:List Dt}(hp:H p=none)(D:aP K H xs ds):Ls K (upd H p (.lst xs)) p ds:=⟨xs,aD,D.mono (Same.put hp)⟩
structure Fr(K:ao)(H H':Hp)(p:Addr)(ds:List Dt):Prop where
 same:Same H H'
 new:H p=none
 ls:Ls K H' p ds
theorem fM{K:ao}{H:Hp}{v:V}{x:Cell}(h:Den K H v (au x)):∃ a,v=.ref a/\SqT K H a [.int x.1,.int x.2]/\H a=some (.tup [.int x.1,.int x.2]):=by
 cases h with
 |tup ht hs=>
  cases hs with
  |cons h1 hs=>
   cases hs with
   |cons h2 hs=>
    cases hs;cases h1;cases h2;exact⟨_,rfl,SqT.of ht,ht⟩
theorem gA{K:ao}{H:Hp}{p:Addr}{a b:Int}:Den K (upd H p (.tup [.int a,.int b])) (.ref p) (au (a,b)):=.tup aD (.cons (.int _) (.cons (.int _) .nil))
section
variable{K:ao}{H:Hp}{v:V}{x:Cell}{p:Addr}{cs:List Cell}{Q:VK}
theorem sO(d:Den K H v (au x))(q:Q (.int x.1) H):rIx K v (.int 0) H Q:=by
 obtain⟨a,rfl,h,_⟩:=fM d;exact .inr (.inl ⟨a,_,_,_,rfl,rfl,h,cZ,q⟩)
theorem sS(d:Den K H v (au x))(q:Q (.int x.2) H):rIx K v (.int 1) H Q:=by
 obtain⟨a,rfl,h,_⟩:=fM d;exact .inr (.inl ⟨a,_,_,_,rfl,rfl,h,cY (j:=1) rfl,q⟩)
theorem rN(d:Den K H v (au x))(h:Den K H (.ref p) (.lst (cs.map au)))(q:Q (.bl (decide (x∈cs))) H):QV K false v (.ref p) H Q:=by
 refine⟨au x,cs.map au,p,rfl,d,.inl h,fun e he=>?_,?_⟩
 ·obtain⟨c,_,rfl⟩:=cT.mp he;exact⟨rfl,zA c⟩
 ·show Q (.bl ((cs.map au).any fun e=>eqD e (au x))) H;rw[yR];exact q
theorem lA(d:Den K H v (au x))(h:Den K H (.ref p) (.lst (cs.map au)))(q:Q (.bl (!decide (x∈cs))) H):QV K true v (.ref p) H Q:=by
 refine⟨au x,cs.map au,p,rfl,d,.inl h,fun e he=>?_,?_⟩
 ·obtain⟨c,_,rfl⟩:=cT.mp he;exact⟨rfl,zA c⟩
 ·show Q (.bl (!(cs.map au).any fun e=>eqD e (au x))) H;rw[yR];exact q
theorem zV{ds:List Dt}(h:Den K H (.ref p) (.lst ds))(q:Q (.int ds.length) H):YZ K [.ref p] H Q:=by
 cases h with
 |lst hl D=>exact .inl ⟨p,_,rfl,.inl hl,by rw[D.length];exact q⟩
theorem Ua{zzs:L2.St}{i j:Nat}{N:L2.St->Hp->Prop}(d:Den K H v (au x))(q:N ((zzs.set i (some (.int x.1))).set j (some (.int x.2))) H):ZG K 2 (O1 (Di i) (O1 (Di j) ZF)) v zzs H N:=by
 obtain⟨a,rfl,h,_⟩:=fM d;exact⟨a,_,rfl,h,rfl,_,_,rfl,_,_,rfl,rfl,q⟩
theorem zU{q':Addr}{ds es:List Dt}(h:Ls K H p ds)(h2:Ls K H q' es)(hz:ds.length+es.length<=10000)(q:∀ r H',Fr K H H' r (ds++es)->Q (.ref r) H'):Ji (.ref p) (.ref q') H Q:=by
 obtain⟨xs,e,D⟩:=h;obtain⟨ys,e2,D2⟩:=h2;exact⟨xs,ys,e,e2,by rw[D.length,D2.length];exact small hz,fun r hr=>q r _ ⟨Same.put hr,hr,.new hr (D.append D2)⟩⟩
end
def inF(h w:Int)(x:Cell):Prop:=(0<=x.1/\x.1<h)/\(0<=x.2/\x.2<w)
instance(h w:Int)(x:Cell):Decidable (inF h w x):=by unfold inF;infer_instance
def offs:List Cell:=[(-1,-1),(-1,0),(-1,1),(0,-1),(0,1),(1,-1),(1,0),(1,1)]
def dh(h w:Int)(x:Cell):List Cell:=(offs.map fun d=>(x.1+d.1,x.2+d.2)).filter fun y=>decide (inF h w y)
def bH(h w:Nat):List Cell:=(List.range h).flatMap fun r:Nat=>(List.range w).map fun c:Nat=>((r:Int),(c:Int))
def tZ(h w:Int)(st:List Cell)(x:Cell):Nat:=((dh h w x).filter fun y=>decide (y∈st)).length
def inS(sg:Str)(c:Nat):Bool:=!(Builtin.Str.occurrences sg ⟨#[c]⟩ 0 sg.length 1).isEmpty
def codeAt(zs:List Str)(x:Nat×Nat):Nat:=(zs.getD x.1 Str.empty).cps.getD x.2 0
def iy(zs:List Str)(w:Nat)(sg:Str):List Cell:=(List.range zs.length).flatMap fun r:Nat=>((List.range w).filter fun c=>inS sg (codeAt zs (r,c))).map fun c:Nat=>((r:Int),(c:Int))
structure Rect(zs:List Str)(w:Nat):Prop where
 ne:1<=zs.length
 le:zs.length<=6
 w1:1<=w
 w6:w<=6
 len:∀ z∈zs,z.length=w
theorem Rect.head{zs:List Str}{w:Nat}(h:Rect zs w):∃ z zt,zs=z::zt/\z.length=w:=by
 cases zs with
 |nil=>exact absurd h.ne (by decide)
 |cons z zt=>exact⟨z,zt,rfl,h.len z dJ⟩
end L2
namespace L2
open PySem PySem.Spec PyProof.Rows
def SameBut(p:Addr)(H H':Hp):Prop:=∀ b o,H b=some o->b≠p->H' b=some o
theorem SameBut.refl(p:Addr)(H:Hp):SameBut p H H:=fun _ _ e _=>e
theorem SameBut.trans{p:Addr}{H H1 H2:Hp}(a:SameBut p H H1)(b:SameBut p H1 H2):SameBut p H H2:=fun c o e n=>b c o (a c o e n) n
theorem Same.but{H H':Hp}(s:Same H H')(p:Addr):SameBut p H H':=fun b o e _=>s b o e
theorem SameBut.put{p:Addr}{H H':Hp}{o:HO}(s:SameBut p H H'):SameBut p H (upd H' p o):=fun b u e n=>by rw[bF n];exact s b u e n
theorem SameBut.and{p q:Addr}{H H':Hp}{o:HO}(s:SameBut p H H')(hq:H' q=none):SameBut p H (upd H' q o):=fun b u e n=>(Same.put hq) b u (s b u e n)
theorem SameBut.of{p:Addr}{H H0 H':Hp}(s:SameBut p H0 H')(a:Same H H0)(np:H p=none):Same H H':=fun b o e=>s b o (a b o e) (bV e np)
section
variable{K:ao}{p:Addr}{H H':Hp}{l:List V}
theorem SameBut.seq{a:Addr}{xs:List V}(s:SameBut p H H')(ha:H a=some (.lst xs))(n:a≠p):SqL K H' a xs:=SqL.of (s _ _ ha n)
theorem SameBut.cell{v:V}{x:Cell}(s:SameBut p H H')(hp:H p=some (.lst l))(h:Den K H v (au x)):Den K H' v (au x):=by
 obtain⟨a,rfl,_,ht⟩:=fM h;exact .tup (s _ _ ht (qg ht hp (by intro z;cases z))) (.cons (.int _) (.cons (.int _) .nil))
theorem SameBut.cells(s:SameBut p H H')(hp:H p=some (.lst l)):∀ {vs:List V} {cs:List Cell},aP K H vs (cs.map au)->aP K H' vs (cs.map au)
 |[],[],_=>.nil
 |v::vs,c::cs,.cons h t=>.cons (s.cell hp h) (s.cells hp t)
theorem SameBut.ls{q:Addr}{cs:List Cell}(s:SameBut p H H')(hp:H p=some (.lst l))(n:q≠p)(h:Ls K H q (cs.map au)):Ls K H' q (cs.map au):=let ⟨xs,e,D⟩:=h;⟨xs,s _ _ e n,s.cells hp D⟩
end
theorem iJ{K:ao}{ta tb:TE}{tr:TA}{zzs:L2.St}{H:Hp}{Q:List V->Hp->Prop}(a b:Int)(ha:∀ Q':VK,Q' (.int a) H->ta zzs H Q')(hb:∀ Q':VK,Q' (.int b) H->tb zzs H Q')
  (h:∀ v H',Same H H'->Den K H' v (au (a,b))->tr zzs H' fun xs H2=>Q (v::xs) H2):JL (a1m (JL ta (JL tb sZ))) tr zzs H Q:=
 ha _ (hb _ ⟨sz rfl,fun p hp=>h _ _ (Same.put hp) gA⟩)
theorem RK{K:ao}{ta:TA}{g:TG}{tb:TS}{D:Ends}{zzs:L2.St}{H:Hp}
  (h:ta zzs H fun xs H1=>xs.length<=sizeLine/\∀ p,H1 p=none->∃ a,V.ref p=.ref a/\(∃ ys,SqL K (upd H1 p (.lst xs)) a ys)/\∃ W:Nat->Nat->L2.St->Hp->Prop,(∃ m,W 0 m zzs (upd H1 p (.lst xs)))/\∀ i m zzs H,W i m zzs H ->
   ((Itl K a).stop i H/\D.nx zzs H)\/((Itl K a).go i H/\∃ N:L2.St->Hp->Prop,(∀ bG H',N bG H'->∃ m',m'<m/\W (i+1) m' bG H')/\∀ x H',(Itl K a).yld i H x H'->g x zzs H' fun p7 H2=>tb { D with nx:=N,ct:=N,bk:=D.nx } p7 H2)) :
  a1j (O4 K (a1k ta)) g tb D zzs H:=h
theorem ltl{n:Nat}(h:n<10000):n<sizeLine:=jg h (by rw[qN];decide)
theorem jY{K:ao}{p:Addr}{H:Hp}{l:List V}{v:V}{Q:VK}(hp:H p=some (.lst l))(hz:l.length<10000)(q:Q .non (upd H p (.lst (l++[v])))):Od (.ref p) [v] H Q:=
 ⟨p,l,v,rfl,rfl,hp,jg hz (by rw[qN];decide),q⟩
end L2
namespace L2
open PySem PySem.Spec PyProof.Rows
theorem K3{zs:List Str}{r:Nat}(h:r<zs.length):atI (zs.map V.str) (r:Int)=some (.str (zs.getD r Str.empty)):=cY (by simp[fX,h])
theorem W6{z:Str}{c:Nat}(h:c<z.length):atI z.cps.toList (c:Int)=some (z.cps.getD c 0):=by
 have h':c<z.cps.size:=h;exact cY (by simp[mq,h'])
theorem Rect.row{zs:List Str}{w r:Nat}(h:Rect zs w)(hr:r<zs.length):(zs.getD r Str.empty).length=w:=by
 have e:zs.getD r Str.empty=zs[r]:=by simp[fX,hr]
 rw[e];exact h.len _ (mG hr)
theorem yG{K:ao}{H:Hp}{p:Addr}{zs:List Str}{w r c:Nat}{Q:VK}(hS:SqL K H p (zs.map V.str))(rc:Rect zs w)(hr:r<zs.length)(hc:c<w)(q:Q (.str ⟨#[codeAt zs (r,c)]⟩) H):rIx K (.str (zs.getD r Str.empty)) (.int (c:Int)) H Q:=by
 have e:=rc.row hr;exact .inr (.inr ⟨_,_,_,rfl,rfl,small (by have:=rc.w6;lia),W6 (by lia),q⟩)
theorem FQ{K:ao}{H:Hp}{p:Addr}{zs:List Str}{r:Nat}{Q:VK}(hS:SqL K H p (zs.map V.str))(hr:r<zs.length)(q:Q (.str (zs.getD r Str.empty)) H):rIx K (.ref p) (.int (r:Int)) H Q:=
 .inl ⟨p,_,_,_,rfl,rfl,hS,K3 hr,q⟩
theorem qm{H:Hp}(n:Nat):pN (Itr 0 n) H ((List.range n).map fun i:Nat=>V.int (i:Int)):=by
 have h:=KZ (H:=H) 0 n;have e:(((List.range n).map fun i:Nat=>(0:Int)+(i:Int)).map V.int)=(List.range n).map fun i:Nat=>V.int (i:Int):=by
  rw[mH];refine Ax fun i _=>?_
  simp
 rw[e] at h;exact h
theorem aP.nats{K:ao}{H:Hp}:∀ l:List Nat,aP K H (l.map fun i:Nat=>V.int (i:Int)) (l.map fun i:Nat=>Dt.int (i:Int))
 |[]=>.nil
 |_::l=>.cons (.int _) (aP.nats l)
theorem bL{h w:Nat}{x:Cell}:x∈bH h w↔inF h w x:=by
 unfold bH inF;rw[Bd];constructor
 ·rintro⟨r,hr,hx⟩;obtain⟨c,hc,rfl⟩:=cT.mp hx;rw[cJ] at hr hc;exact⟨⟨by show(0:Int)<=(r:Int);lia,by show(r:Int)<h;lia⟩,⟨by show(0:Int)<=(c:Int);lia,by show(c:Int)<w;lia⟩⟩
 ·rintro⟨⟨a,b⟩,⟨c,d⟩⟩;refine⟨x.1.toNat,cJ.mpr (by lia),cT.mpr ⟨x.2.toNat,cJ.mpr (by lia),?_⟩⟩;exact jJ (by show((x.1.toNat:Nat):Int)=x.1;lia) (by show((x.2.toNat:Nat):Int)=x.2;lia)
theorem oG(h w:Nat):bH (h+1) w=bH h w++(List.range w).map fun c:Nat=>((h:Int),(c:Int)):=by
 unfold bH;rw[uT,wJ];simp
theorem fP(h w:Nat):(bH h w).length=h*w:=by
 induction h with
 |zero=>simp[bH]
 |succ h ih=>rw[oG,cM,ih,aV,lO,N7]
theorem gD(h w:Int)(x:Cell):(dh h w x).length<=8:=by
 unfold dh;exact cP (iw _ _) (by rw[aV];decide)
theorem NQ(h w:Int)(st:List Cell)(x:Cell):tZ h w st x<=8:=cP (iw _ _) (gD h w x)
theorem ug{h w:Int}{x y:Cell}(hy:y∈dh h w x):inF h w y:=by
 unfold dh at hy;exact cN (cg.mp hy).2
def vD(zs:List Str)(w:Nat)(sg:Str)(n:Nat):List Cell:=(List.range n).flatMap fun r:Nat=>((List.range w).filter fun c=>inS sg (codeAt zs (r,c))).map fun c:Nat=>((r:Int),(c:Int))
theorem wV(zs:List Str)(w:Nat)(sg:Str)(n:Nat):vD zs w sg (n+1)=vD zs w sg n++((List.range w).filter fun c=>inS sg (codeAt zs (n,c))).map fun c:Nat=>((n:Int),(c:Int)):=by
 unfold vD;rw[uT,wJ];simp
theorem Ka(zs:List Str)(w:Nat)(sg:Str):∀ n,(vD zs w sg n).length<=n*w:=by
 intro n
 induction n with
 |zero=>simp[vD]
 |succ n ih=>
  rw[wV,cM,N7,aV];exact Nat.add_le_add ih (cP (iw _ _) (by rw[lO];exact bK _))
end L2
namespace L2
open PySem PySem.Spec PyProof.Rows
def Lr(h w:Int)(st kn:List Cell)(x:Cell):Nat:=if x∈kn then 48+tZ h w st x else 35
def rF(h w:Int)(st kn:List Cell)(r:Int)(n:Nat):Str:=⟨((List.range n).map fun c:Nat=>Lr h w st kn (r,(c:Int))).toArray⟩
def wF(h w:Nat)(st kn:List Cell):List Str:=(List.range h).map fun r:Nat=>rF h w st kn (r:Int) w
theorem Ue(h w:Int)(st kn:List Cell)(r:Int)(n:Nat):rF h w st kn r (n+1)=rF h w st kn r n++⟨#[Lr h w st kn (r,(n:Int))]⟩:=by
 unfold rF;rw[uT,eG];show(⟨_⟩:Str)=⟨_++_⟩;simp
theorem Oh(h w:Int)(st kn:List Cell)(r:Int)(n:Nat):(rF h w st kn r n).length=n:=by
 show(((List.range n).map fun c:Nat=>Lr h w st kn (r,(c:Int))).toArray).size=n;simp
theorem dig:∀ n,n<=8->(Str.ofString (toString ((n:Nat):Int)):Str)=⟨#[48+n]⟩:=by
 intro n hn;have:=(by decide +kernel:∀ k∈List.range 9,(Str.ofString (toString ((k:Nat):Int)):Str)=⟨#[48+k]⟩)
 exact this n (cJ.mpr (by lia))
theorem Wj(n:Nat)(h:n<=8):((n:Nat):Int).natAbs.log2<1920:=by
 have e:((n:Nat):Int).natAbs=n:=Int.natAbs_natCast n;rw[e];have:=(by decide:∀ k∈List.range 9,k.log2<1920)
 exact this n (cJ.mpr (by lia))
inductive Reach(h w:Int)(st kn:List Cell)(x0:Cell):Cell->Prop
 |base:Reach h w st kn x0 x0
 |step {x y:Cell}:Reach h w st kn x0 x->tZ h w st x=0->y∈dh h w x->y∉kn->Reach h w st kn x0 y
theorem RJ{h w:Int}{st:List Cell}{x y:Cell}(e:tZ h w st x=0)(hy:y∈dh h w x):y∉st:=by
 unfold tZ at e;intro hs;have:=JR.mp e;have m:y∈(dh h w x).filter fun y=>decide (y∈st):=cg.mpr ⟨hy,bT hs⟩
 rw[this] at m;cases m
theorem Reach.inF{h w:Int}{st kn:List Cell}{x0 y:Cell}(h0:inF h w x0)(r:Reach h w st kn x0 y):L2.inF h w y:=by
 induction r with
 |base=>exact h0
 |step _ _ hy _ _=>exact ug hy
theorem Reach.free{h w:Int}{st kn:List Cell}{x0 y:Cell}(h0:x0∉st)(r:Reach h w st kn x0 y):y∉st:=by
 induction r with
 |base=>exact h0
 |step _ e hy _ _=>exact RJ e hy
theorem Reach.new{h w:Int}{st kn:List Cell}{x0 y:Cell}(h0:x0∉kn)(r:Reach h w st kn x0 y):y∉kn:=by
 cases r with
 |base=>exact h0
 |step _ _ _ hk=>exact hk
theorem J1(h w:Int)(x:Cell):(dh h w x).Nodup:=by
 unfold dh;refine Mu wK ?_;unfold List.Nodup;rw[Bc];have o:offs.Pairwise (·≠·):=by decide
 refine o.imp fun {a b} hab e=>hab ?_
 have e1:=congrArg Prod.fst e;have e2:=congrArg Prod.snd e;simp only at e1 e2;exact jJ (by lia) (by lia)
theorem lg{α:Type} [DecidableEq α]:∀ {l1 l2:List α},l1.Nodup->(∀ x∈l1,x∈l2)->l1.length<=l2.length
 |[],_,_,_=>jj _
 |a::l1,l2,hn,hs=>by
  have ha:=hs a dJ;have hn':=Bj.mp hn;have ih:=lg (l1:=l1) (l2:=l2.erase a) hn'.2 fun x hx=>(List.mem_erase_of_ne (fun e:x=a=>hn'.1 (by rw[<- e];exact hx))).mpr (hs x (fK _ hx))
  rw[List.length_erase_of_mem ha] at ih;have:0<l2.length:=Vo ha;rw[gP];lia
structure lV(h w:Int)(st kn:List Cell)(x0:Cell)(cs:List Cell)(at_:Nat):Prop where
 nd:cs.Nodup
 has:x0∈cs
 rch:∀ y∈cs,Reach h w st kn x0 y
 le:at_<=cs.length
 cl:∀ i y,i<at_->cs[i]?=some y->tZ h w st y=0->∀ z∈dh h w y,z∈kn\/z∈cs
theorem lV.done{h w:Int}{st kn:List Cell}{x0:Cell}{cs:List Cell}(o:lV h w st kn x0 cs cs.length)(y:Cell):y∈cs↔Reach h w st kn x0 y:=by
 refine⟨o.rch y,fun r=>?_⟩
 induction r with
 |base=>exact o.has
 |step _ e hy hk ih=>
  obtain⟨i,hi⟩:=Ar ih;have hlt:i<cs.length:=(jw.mp hi).1;rcases o.cl i _ hlt hi e _ hy with z|z
  ·exact absurd z hk
  ·exact z
theorem lV.grow{h w:Int}{st kn:List Cell}{x0 x:Cell}{cs:List Cell}{n:Nat}(o:lV h w st kn x0 cs n)(hx:cs[n]?=some x)(e:tZ h w st x=0) :
  lV h w st kn x0 (cs++(dh h w x).filter fun y=>!decide (y∈kn)&&!decide (y∈cs)) (n+1):=by
 have hn:n<cs.length:=(jw.mp hx).1;have mem:∀ y,y∈((dh h w x).filter fun y=>!decide (y∈kn)&&!decide (y∈cs))↔y∈dh h w x/\y∉kn/\y∉cs:=fun y=>by
  rw[cg];simp
 refine⟨?_,iB _ o.has,fun y hy=>?_,by rw[cM];lia,fun i y hi hy e' z hz=>?_⟩
 ·refine xT.mpr ⟨o.nd,Mu wK (J1 h w x),fun a ha b hb hab=>?_⟩;rw[<- hab] at hb;exact((mem a).mp hb).2.2 ha
 ·rcases cI.mp hy with z|z
  ·exact o.rch y z
  ·obtain⟨z1,z2,z3⟩:=(mem y).mp z;exact .step (o.rch x (fV hx)) e z1 z2
 ·have hi':i<cs.length:=by lia
  rw[Ei hi'] at hy;by_cases hin:i=n
  ·subst hin;rw[hx] at hy;cases hy;by_cases zk:z∈kn
   ·exact .inl zk
   ·by_cases zc:z∈cs
    ·exact .inr (iB _ zc)
    ·exact .inr (je _ ((mem z).mpr ⟨hz,zk,zc⟩))
  ·rcases o.cl i y (by lia) hy e' z hz with q|q
   ·exact .inl q
   ·exact .inr (iB _ q)
theorem lV.skip{h w:Int}{st kn:List Cell}{x0 x:Cell}{cs:List Cell}{n:Nat}(o:lV h w st kn x0 cs n)(hx:cs[n]?=some x)(e:tZ h w st x≠0):lV h w st kn x0 cs (n+1):=by
 have hn:n<cs.length:=(jw.mp hx).1;refine⟨o.nd,o.has,o.rch,hn,fun i y hi hy e' z hz=>?_⟩;by_cases hin:i=n
 ·subst hin;rw[hx] at hy;cases hy;exact absurd e' e
 ·exact o.cl i y (by lia) hy e' z hz
theorem lV.len{h w:Nat}{st kn:List Cell}{x0:Cell}{cs:List Cell}{n:Nat}(o:lV h w st kn x0 cs n)(h0:inF h w x0)(h6:h<=6)(w6:w<=6):cs.length<=36:=by
 have:=lg (l2:=bH h w) o.nd fun y hy=>bL.mpr ((o.rch y hy).inF h0)
 rw[fP] at this;have:h*w<=6*6:=lR h6 w6;lia
end L2
namespace L2
open PySem PySem.Spec PyProof.Rows
theorem ZP{sg:Str}{c:Nat}(h:c∉sg.cps.toList):inS sg c=false:=by
 unfold inS;rw[PySem.W.occ_nil_of_no sg ⟨#[c]⟩ 1 fun i hi=>?_]
 ·rfl
 ·cases e:Builtin.Str.subAt sg ⟨#[c]⟩ i with
  |false=>rfl
  |true=>
   refine absurd ?_ h;have e':sg.cps.extract i (i+1)=#[c]:=jR.mp e;have hm:c∈sg.cps.extract i (i+1):=by rw[e'];simp
   obtain⟨k,hk,e2⟩:=Array.mem_extract_iff_getElem.mp hm;rw[<- e2];exact M5 _
theorem Kr{sg:Str}(h:sg.cps.toList.all (inS sg)=true)(c:Nat):inS sg c=decide (c∈sg.cps.toList):=by
 by_cases hc:c∈sg.cps.toList
 ·rw[bT hc];exact jy.mp h c hc
 ·rw[cB hc];exact ZP hc
def rO(c:Nat):Bool:=decide (c=35\/(48<=c/\c<=56))
theorem Wt(c:Nat):inS "#012345678" c=rO c:=by
 rw[Kr (by decide +kernel)];have e:("#012345678" : Str).cps.toList=[35,48,49,50,51,52,53,54,55,56]:=by decide +kernel
 rw[e];by_cases h:c<57
 ·exact(by decide +kernel:∀ k∈List.range 57,decide (k∈[35,48,49,50,51,52,53,54,55,56])=rO k) c (cJ.mpr h)
 ·have n1:¬c∈[35,48,49,50,51,52,53,54,55,56]:=fun z=>h ((by decide:∀ k∈[35,48,49,50,51,52,53,54,55,56],k<57) c z)
  have n2:rO c=false:=by unfold rO;exact cB (by lia)
  rw[cB n1,n2]
theorem RW(c:Nat):inS "#" c=decide (c=35):=by
 rw[Kr (by decide +kernel)];have e:("#" : Str).cps.toList=[35]:=by decide +kernel
 rw[e];simp
theorem xJ(x:Str)(lo hi:Option Int):(Txt.slice x lo hi).cps.toList=(x.cps.toList.drop (HT.sIx x.length 0 lo)).take (HT.sIx x.length x.length hi-HT.sIx x.length 0 lo):=by
 have e:Builtin.Str.strSliceIndices lo hi 1 x.length=(List.range (HT.sIx x.length x.length hi-HT.sIx x.length 0 lo)).map (HT.sIx x.length 0 lo+·):=by
  obtain⟨h1,h2,_⟩:=uJ lo hi x.length;rw[<- sliceRange_one,<- h1,<- h2];rfl
 unfold Txt.slice;rw[e];have hb:HT.sIx x.length x.length hi<=x.length:=HT.Uj _ _ (bK _) hi;have ha:HT.sIx x.length 0 lo<=x.length:=HT.Uj _ _ (jj _) lo;have hx:x.cps.toList.length=x.length:=jf;split
 ·rename_i hc;simp only[aV,lO,mF,jR] at hc;have h0:HT.sIx x.length x.length hi-HT.sIx x.length 0 lo=x.length:=hc.2;by_cases hz:x.length=0
  ·have:x.cps.toList=[]:=JR.mp (by rw[hx,hz]);rw[this];simp
  ·have e1:HT.sIx x.length 0 lo=0:=by lia
   rw[h0,e1,Hh,<- hx,jO]
 ·show(((List.range _).map _).filterMap (x.cps[·]?)).toArray.toList=_;rw[pick_run]
theorem Uo(x:Str)(n:Nat)(h:n<=x.length):(Txt.slice x none (some (n:Int))).cps.toList=x.cps.toList.take n:=by
 rw[xJ,HT.uE,HT.yJ,Bm h,Hh,Nat.sub_zero]
theorem Lw(x:Str)(n:Nat)(h:n<=x.length):(Txt.slice x (some (n:Int)) none).cps.toList=x.cps.toList.drop n:=by
 rw[xJ,HT.uE,HT.yJ,Bm h];refine Bx ?_;rw[tu,jf];exact bK _
theorem vA(a b:Str):(a++b).cps.toList=a.cps.toList++b.cps.toList:=by
 show(a.cps++b.cps).toList=_;simp
theorem str_len(z:Str):z.length=z.cps.toList.length:=jf.symm
structure Vw(zs:List Str)(w:Nat):Prop extends Rect zs w where
 sg:∀ z∈zs,∀ c∈z.cps.toList,rO c=true
theorem Um{h w:Nat}{st kn:List Cell}(h1:1<=h)(h6:h<=6)(w1:1<=w)(w6:w<=6):Vw (wF h w st kn) w:=by
 have hl:(wF h w st kn).length=h:=by unfold wF;rw[aV,lO]
 refine⟨⟨by lia,by lia,w1,w6,fun z hz=>?_⟩,fun z hz c hc=>?_⟩
 ·obtain⟨r,_,rfl⟩:=cT.mp hz;exact Oh _ _ _ _ _ _
 ·obtain⟨r,_,rfl⟩:=cT.mp hz;unfold rF at hc;simp only[cT] at hc;obtain⟨k,_,rfl⟩:=hc;unfold Lr rO;have:=NQ h w st ((r:Int),(k:Int));split
  ·exact bT (.inr ⟨by lia,by lia⟩)
  ·exact bT (.inl rfl)
def rA(zs:List Str)(r c:Nat)(s:Str):List Str:=zs.take r++[Txt.slice (zs.getD r Str.empty) none (some (c:Int))++s++Txt.slice (zs.getD r Str.empty) (some ((c:Int)+1)) none]++zs.drop (r+1)
theorem a0U{zs:List Str}{w r c:Nat}{s:Str}(v:Vw zs w)(hr:r<zs.length)(hc:c<w)(hs:s.length=1)(hk:∀ k∈s.cps.toList,rO k=true):Vw (rA zs r c s) w/\(rA zs r c s).length=zs.length:=by
 have er:=v.toRect.row hr;have mem:zs.getD r Str.empty∈zs:=by
  have e:zs.getD r Str.empty=zs[r]:=by simp[fX,hr]
  rw[e];exact mG hr
 have s1:=Uo (zs.getD r Str.empty) c (by lia);have s2:(Txt.slice (zs.getD r Str.empty) (some ((c:Int)+1)) none).cps.toList=(zs.getD r Str.empty).cps.toList.drop (c+1):=Lw (zs.getD r Str.empty) (c+1) (by lia);have RN:(Txt.slice (zs.getD r Str.empty) none (some (c:Int))++s++Txt.slice (zs.getD r Str.empty) (some ((c:Int)+1)) none).cps.toList=(zs.getD r Str.empty).cps.toList.take c++s.cps.toList++(zs.getD r Str.empty).cps.toList.drop (c+1):=by
  rw[vA,vA,s1,s2]
 have hll:(rA zs r c s).length=zs.length:=by
  unfold rA;rw[cM,cM,lQ,tu,pC];lia
 have ln:(zs.getD r Str.empty).cps.toList.length=w:=by rw[<- str_len];exact er
 refine⟨⟨⟨by rw[hll];exact v.ne,by rw[hll];exact v.le,v.w1,v.w6,fun z hz=>?_⟩,fun z hz k hk'=>?_⟩,hll⟩
 ·unfold rA at hz;rcases cI.mp hz with hz|hz
  ·rcases cI.mp hz with hz|hz
   ·exact v.len z (BK hz)
   ·rw[dM.mp hz,str_len,RN,cM,cM,lQ,tu,ln,<- str_len,hs];lia
  ·exact v.len z (Gx hz)
 ·unfold rA at hz;rcases cI.mp hz with hz|hz
  ·rcases cI.mp hz with hz|hz
   ·exact v.sg z (BK hz) k hk'
   ·rw[dM.mp hz,RN] at hk';rcases cI.mp hk' with q|q
    ·rcases cI.mp q with q|q
     ·exact v.sg _ mem k (BK q)
     ·exact hk k q
    ·exact v.sg _ mem k (Gx q)
  ·exact v.sg z (Gx hz) k hk'
end L2
namespace L2
open PySem PySem.Spec PyProof.Rows
def zX(z:Str)(n:Int):Bool:=decide ((z.length:Int)=n)&&z.cps.toList.all (inS "#012345678")
def xM:List Str->Bool
 |[]=>false
 |z::zs=>decide ((z::zs).length<=6)&&decide (1<=z.length/\z.length<=6)&&(z::zs).all fun r=>zX r z.length
theorem Aq{z:Str}{zs:List Str}(h1:(z::zs).length<=6)(h2:1<=z.length)(h3:z.length<=6):xM (z::zs)=(z::zs).all fun r=>zX r z.length:=by
 show(decide ((z::zs).length<=6)&&decide (1<=z.length/\z.length<=6)&&_)=_;rw[bT h1,bT (And.intro h2 h3)];rfl
theorem LK{z:Str}{zs:List Str}(h1:¬(z::zs).length<=6):xM (z::zs)=false:=by
 show(decide ((z::zs).length<=6)&&_&&_)=_;rw[cB h1];rfl
theorem LQ{z:Str}{zs:List Str}(h1:¬(1<=z.length/\z.length<=6)):xM (z::zs)=false:=by
 show(_&&decide (1<=z.length/\z.length<=6)&&_)=_;rw[cB h1,Bp];rfl
theorem Vw.ok{zs:List Str}{w:Nat}(v:Vw zs w):xM zs=true:=by
 obtain⟨z,zt,rfl,hz⟩:=v.toRect.head;rw[Aq v.le (by have:=v.w1;lia) (by have:=v.w6;lia),jy];intro r hr;unfold zX;rw[bT (by rw[v.len r hr,hz]),uU,jy];intro c hc;rw[Wt];exact v.sg r hr c hc
def xg(l:Addr)(h w:Int):List (Str×V):=jB "width" (.int w) (jB "height" (.int h) (jB "rows" (.ref l) []))
theorem Ko(l:Addr)(h w:Int):(xg l h w).lookup ("rows" : Str)=some (.ref l):=by
 unfold xg;rw[fZ,aJ (by decide +kernel),fZ,aJ (by decide +kernel),fZ,aL rfl]
theorem zG(l:Addr)(h w:Int):(xg l h w).lookup ("height" : Str)=some (.int h):=by
 unfold xg;rw[fZ,aJ (by decide +kernel),fZ,aL rfl]
theorem Fv(l:Addr)(h w:Int):(xg l h w).lookup ("width" : Str)=some (.int w):=by
 unfold xg;rw[fZ,aL rfl]
structure dB(C:Addr)(H:Hp)(x:Addr)(zs:List Str)(w:Nat):Prop where
 ob:∃ dx l,H x=some (.ins C dx (xg l zs.length w))/\H l=some (.lst (zs.map V.str))
 vw:Vw zs w
theorem dB.mono{C:Addr}{H H':Hp}{x:Addr}{zs:List Str}{w:Nat}(v:dB C H x zs w)(s:Same H H'):dB C H' x zs w:=let ⟨dx,l,a,b⟩:=v.ob;⟨⟨dx,l,s _ _ a,s _ _ b⟩,v.vw⟩
def aK(zs:List Str)(w:Nat)(x:Cell):Bool:=decide (inF zs.length w x)&&decide (codeAt zs (x.1.toNat,x.2.toNat)=35)
def cA(zs:List Str)(w:Nat):List Cell:=(bH zs.length w).filter (aK zs w)
theorem gZ(zs:List Str)(w:Nat):cA zs w=iy zs w "#":=by
 unfold cA iy bH;rw[List.filter_flatMap];have key:∀ r∈List.range zs.length,((List.range w).map fun c:Nat=>((r:Int),(c:Int))).filter (aK zs w)=((List.range w).filter fun c=>inS "#" (codeAt zs (r,c))).map fun c:Nat=>((r:Int),(c:Int)):=by
  intro r hr;rw[List.filter_map];congr 1;refine GK fun c hc=>?_
  rw[cJ] at hr hc;show aK zs w ((r:Int),(c:Int))=_;unfold aK;rw[RW,bT (show inF zs.length w ((r:Int),(c:Int)) from⟨⟨by show(0:Int)<=(r:Int);lia,by show(r:Int)<zs.length;lia⟩,⟨by show(0:Int)<=(c:Int);lia,by show(c:Int)<w;lia⟩⟩),uU];rfl
 have go:∀ l:List Nat,(∀ r∈l,r∈List.range zs.length)->l.flatMap (fun r:Nat=>((List.range w).map fun c:Nat=>((r:Int),(c:Int))).filter (aK zs w))=l.flatMap (fun r:Nat=>((List.range w).filter fun c=>inS "#" (codeAt zs (r,c))).map fun c:Nat=>((r:Int),(c:Int))):=by
  intro l
  induction l with
  |nil=>intro _;rfl
  |cons a l ih=>intro h;rw[xU,xU,key a (h a dJ),ih fun r hr=>h r (fK _ hr)]
 exact go _ fun r hr=>hr
def yx(w:Nat)(x:Cell)(r:Int):List Cell:=((List.range ((min (x.2+2) w)-(max (x.2-1) 0)).toNat).map fun k:Nat=>(r,max (x.2-1) 0+(k:Int))).filter fun y=>!decide (y=x)
def oN(w:Nat)(x:Cell)(lo:Int)(n:Nat):List Cell:=(List.range n).flatMap fun k:Nat=>yx w x (lo+(k:Int))
def Lb(h w:Nat)(x:Cell):List Cell:=oN w x (max (x.1-1) 0) ((min (x.1+2) h)-(max (x.1-1) 0)).toNat
theorem QM:∀ h∈List.range 7,∀ w∈List.range 7,∀ r∈List.range h,∀ c∈List.range w,Lb h w ((r:Int),(c:Int))=dh h w ((r:Int),(c:Int)):=by decide +kernel
theorem Tw{h w:Nat}{x:Cell}(h6:h<=6)(w6:w<=6)(hx:inF h w x):Lb h w x=dh h w x:=by
 obtain⟨⟨a,b⟩,⟨c,d⟩⟩:=hx;have:=QM h (cJ.mpr (by lia)) w (cJ.mpr (by lia)) x.1.toNat (cJ.mpr (by lia)) x.2.toNat (cJ.mpr (by lia));have e:(((x.1.toNat:Nat):Int),((x.2.toNat:Nat):Int))=x:=jJ (by show((x.1.toNat:Nat):Int)=x.1;lia) (by show((x.2.toNat:Nat):Int)=x.2;lia);rw[e] at this;exact this
def aM(zs:List Str)(w:Nat)(x:Cell):List Cell:=(dh zs.length w x).filter fun y=>!aK zs w y
def aB(zs:List Str)(w:Nat)(x:Cell):List Cell:=(dh zs.length w x).filter fun y=>aK zs w y
end L2
namespace L2
open PySem PySem.Spec PyProof.Rows PySem.W
section
variable{prog:Program}{w:World}{A:Around}{E:Value->Shared->Prop}{s:Shared}
abbrev Keeps(h h':Heap):Prop:=∀ b o,h.get? b=some o->h'.get? b=some o
end
def aX(a b:Cell):Prop:=a.1<b.1\/(a.1=b.1/\a.2<b.2)
instance(a b:Cell):Decidable (aX a b):=by unfold aX;infer_instance
section
variable{X:Cx}
theorem kI{pins:List (Addr×Obj)}{zzs:L2.St}{H:Hp}{s:Shared}{v:V}{u:Value}{c:Cell}(I:Inv X pins zzs H s)(d:Den X.K H v (au c))(r:RelV v u):∃(a:Addr)(o:Obj)(t t':Tok)(n:Nat),u=.ref a/\s.heap.get? a=some o/\o.cls=.type "tuple" /\ o.data=.seq #[.int c.1 t,.int c.2 t'] n:=by
 obtain⟨a,rfl,ht,_⟩:=fM d;cases r;obtain⟨its,rv,⟨o,e,hc,n,hd⟩,_⟩:=I.tuple ht;obtain⟨u1,u2,rfl,⟨t,rfl⟩,⟨t',rfl⟩⟩:=vals2 rv;exact⟨a,o,t,t',n,rfl,e,hc,hd⟩
end
end L2
namespace L2
open PySem PySem.Spec PyProof.Rows
section
variable{X:Cx}{K:ao}
theorem Xi:OpR X (compareOp .IsNot) (fun x y H Q=>∃ a b,x=.bl a/\y=.bl b/\Q (.bl (!decide (a=b))) H):=by
 intro pins s zzs H x y v u Q I rx ry h;obtain⟨a,b,rfl,rfl,q⟩:=h;cases rx;cases ry;refine wpAny_isNot_plain (by cases a<;>cases b<;>rfl) (bZ I q ?_);cases a<;>cases b<;>rfl
def YX(K:ao):List V->Hp->VK->Prop:=fun xs H Q=>∃ x c cv,xs=[x,c]/\Zq c=some cv/\∃(a:Addr)(ys:List V)(b:Bool),x=.ref a /\
 ((SqT K H a ys/\PySem.W.kitOne K (.type "tuple") cv=some b)\/(SqL K H a ys/\PySem.W.kitOne K (.type "list") cv=some b))/\Q (.bl b) H
theorem Pk:dZ X (.builtin "isinstance") (YX X.K):=by
 intro pins s zzs H xs us Q I r h;obtain⟨x,c,cv,rfl,hc,a,ys,b,rfl,h,q⟩:=h;obtain⟨u,u',rfl,ru,rc⟩:=vals2 r;have e:=Nt hc rc;subst e;cases ru;rcases h with⟨ht,hk⟩|⟨ht,hk⟩
 ·obtain⟨its,_,⟨o,e1,e2,_⟩,_⟩:=I.tuple ht;exact nQ VL I.kIn ⟨o,e1,e2⟩ hk (by intro z;cases z) fun tk=>⟨.bl b,H,I.tok tk,rfl,q⟩
 ·obtain⟨its,_,⟨o,n,e1,e2,_⟩,_⟩:=I.list ht;exact nQ Mw I.kIn ⟨o,e1,e2⟩ hk (by intro z;cases z) fun tk=>⟨.bl b,H,I.tok tk,rfl,q⟩
theorem S5(hK:X.K=K:=by rfl):dZ X (.builtin "isinstance") (fun xs H Q=>a2m K xs H Q\/YX K xs H Q):=by subst hK;exact Rj.or Pk
end
end L2
namespace L2
open PySem PySem.Spec PyProof.Rows PySem.W
structure jr{α:Type}(lt:α->α->Bool):Prop where
 HF:∀ a b,lt a b=true->lt b a=false
 tr:∀ a b c,lt b a=false->lt c b=false->lt c a=false
 anti:∀ a b,lt a b=false->lt b a=false->a=b
theorem jr.refl{α:Type}{lt:α->α->Bool}(o:jr lt)(a:α):lt a a=false:=by
 cases h:lt a a
 ·rfl
 ·rw[<- h];exact o.HF a a h▸rfl
structure Good(N:Nat)(p:Array Nat):Prop where
 perm:p.toList.Perm (List.range N)
theorem Good.size{N:Nat}{p:Array Nat}(g:Good N p):p.size=N:=by
 have:=g.perm.length_eq;simpa using this
section
variable{α:Type}{lt:α->α->Bool}{f:Nat->α}{N:Nat}{s:Shared}{cmp:Nat->Nat->(Bool->Shared->Prop)->Shared->Prop}
def Ky(f:Nat->α)(p:Array Nat)(i:Nat):α:=f (p.getD i 0)
def Hy(lt:α->α->Bool)(f:Nat->α)(p:Array Nat)(n:Nat):Prop:=∀ i,i+1<n->lt (Ky f p (i+1)) (Ky f p i)=false
theorem Hy.le(o:jr lt){p:Array Nat}{n:Nat}(u:Hy lt f p n):∀ d i,i+d<n->lt (Ky f p (i+d)) (Ky f p i)=false:=by
 intro d
 induction d with
 |zero=>intro i _;exact o.refl _
 |succ d ih=>intro i h;exact o.tr _ _ _ (ih i (by lia)) (u (i+d) (by omega))
end
end L2
namespace L2
open PySem PySem.Spec PyProof.Rows PySem.W
namespace TS
def el(xs:Array Keyed)(i:Nat):Keyed:=xs.getD i (Value.none,Value.none)
theorem vK{xs:Array Keyed}{i:Nat}(h:i<xs.size):el xs i∈xs.toList:=by
 unfold el;rw[mq,jd h];exact M5 h
theorem oF{xs:Array Keyed}{i:Nat}(h:i<xs.size):xs[i]?=some (el xs i):=by
 unfold el;rw[mq,jd h];rfl
section
variable{α:Type}{lt:α->α->Bool}{M:Model}{A:Around}{E:Value->Shared->Prop}{s:Shared}{κ:SortKind}{key:Keyed->α}{a₀:Array Keyed}
structure Env(M:Model)(A:Around)(s:Shared)(κ:SortKind)(key:Keyed->α)(lt:α->α->Bool)(a₀:Array Keyed):Prop where
 o:jr lt
 ask:∀ x y,x∈a₀.toList->y∈a₀.toList->∀ C:Bool->Shared->Prop,C (lt (key x) (key y)) s->wpAny M A (keyLt' κ x.1 y.1) C (fun _ _=>False) s
def Srt(lt:α->α->Bool)(key:Keyed->α)(xs:Array Keyed)(i j:Nat):Prop:=∀ p q,i<=p->p<=q->q<j->lt (key (el xs q)) (key (el xs p))=false
def Fal(lt:α->α->Bool)(key:Keyed->α)(xs:Array Keyed)(i j:Nat):Prop:=∀ p q,i<=p->p<=q->q<j->lt (key (el xs p)) (key (el xs q))=false
theorem JN(e:Env M A s κ key lt a₀){x y:Keyed}(hx:x∈a₀.toList)(hy:y∈a₀.toList){st:SortSt}(hk:kindOf st=κ){Q:Option Bool->SortSt->Prop}(h:Q (some (lt (key x) (key y))) st):wpS M A E s (lt' x y) Q st:=by
 rw[lt'_eq];refine aW (jK ?_);rw[hk];refine aW (tM (wpAny_attempt (iT (e.ask x y hx hy (fun b s'=>s'=s/\b=lt (key x) (key y)) ⟨rfl,rfl⟩) ?_ fun _ _ z=>z.elim)));rintro b s' ⟨rfl,rfl⟩;exact⟨rfl,bf h⟩
theorem dI{xs:Array Keyed}{i:Nat}(h:i<xs.size){st:SortSt}{Q:Keyed->SortSt->Prop}(q:Q (el xs i) st):wpS M A E s (elem' xs i) Q st:=by
 rw[elem'_eq,oF h];exact bf q
theorem zO{xs:Array Keyed}(hp:xs.Perm a₀){i:Nat}(h:i<a₀.size):el xs i∈a₀.toList:=
 hp.toList.mem_iff.mp (vK (by rw[hp.size_eq];exact h))
theorem rC(e:Env M A s κ key lt a₀){st:SortSt}(hk:kindOf st=κ)(hp:(arrOf st).Perm a₀){i j:Nat}(hi:i<a₀.size)(hj:j<a₀.size){Q:Option Bool->SortSt->Prop}(h:Q (some (lt (key (el (arrOf st) i)) (key (el (arrOf st) j)))) st):wpS M A E s (ltAt' i j) Q st:=by
 rw[ltAt'_eq];refine aW (jK ?_);exact aW (dI (by rw[hp.size_eq];exact hi) (aW (dI (by rw[hp.size_eq];exact hj) (JN e (zO hp hi) (zO hp hj) hk h))))
theorem ni{xs ys:Array Keyed}{i j:Nat}(h:xs[i]?=ys[j]?):el xs i=el ys j:=by
 unfold el;rw[mq,mq,h]
theorem qR{xs:Array Keyed}{i j:Nat}(hj:j<=xs.size)(k:Nat):el (mirror xs i j ((j-i) / 2)) k=if i<=k/\k<j then el xs (i+j-1-k) else el xs k:=by
 have e:=getElem?_mirror_all (i:=i) hj k;by_cases h1:i<=k/\k<j
 ·rw[aL h1] at e ⊢;exact ni e
 ·rw[aJ h1] at e ⊢;exact ni e
theorem vI{xs:Array Keyed}{a d:Nat}(hs:a<xs.size)(hd:d<=a)(k:Nat):el (bubble xs a d) k=if k=a-d then el xs a else if a-d<k/\k<=a then el xs (k-1) else el xs k:=by
 have e:=getElem?_bubble hs d hd k;by_cases h1:k=a-d
 ·rw[aL h1] at e ⊢;exact ni e
 ·rw[aJ h1] at e ⊢;by_cases h2:a-d<k/\k<=a
  ·rw[aL h2] at e ⊢;exact ni e
  ·rw[aJ h2] at e ⊢;exact ni e
def Low(xs ys:Array Keyed)(lo:Nat):Prop:=∀ i,i<lo->el xs i=el ys i
theorem Low.refl{xs:Array Keyed}{lo:Nat}:Low xs xs lo:=fun _ _=>rfl
theorem Low.trans{xs ys zs:Array Keyed}{lo:Nat}(h:Low xs ys lo)(g:Low ys zs lo):Low xs zs lo:=fun i hi=>(h i hi).trans (g i hi)
theorem oM{xs:Array Keyed}{i j lo:Nat}(hj:j<=xs.size)(h:lo<=i):Low (mirror xs i j ((j-i) / 2)) xs lo:=fun k hk=>by
 rw[qR hj,aJ (by lia)]
def asl(lo m z:Nat):StateT SortSt Sem (Option Nat):=do
 let mut m:=m
 for _ in [m:z] do
  let some u <- ltAt' (lo+m) (lo+m-1)|return none
  if u then break
  m:=m+1
 return some m
def dsl(lo m z:Nat):StateT SortSt Sem (Option Nat):=do
 (rule "list.sort.descending-run" : Sem Unit)
 let mut m:=m+1
 let mut q:=0
 for _ in [m:z] do
  let some u <- ltAt' (lo+m) (lo+m-1)|return none
  if u then
   if q>0 then reverseSlice' (lo+m-(q+1)) (lo+m)
   q:=0
  else
   let some v <- ltAt' (lo+m-1) (lo+m)|return none
   if v then break
   q:=q+1
  m:=m+1
 if q>0 then
  reverseSlice' (lo+m-(q+1)) (lo+m)
  reverseSlice' lo (lo+m)
  asl lo m z
 else
  reverseSlice' lo (lo+m)
  asl lo m z
theorem Srt.one{xs:Array Keyed}{i:Nat}(o:jr lt):Srt lt key xs i (i+1):=fun p q a b c=>by
 have:p=q:=by lia
 subst this;exact o.refl _
theorem Srt.more{xs:Array Keyed}{lo x:Nat}(o:jr lt)(h1:1<=x)(hs:Srt lt key xs lo (lo+x))(hl:lt (key (el xs (lo+x))) (key (el xs (lo+x-1)))=false):Srt lt key xs lo (lo+(x+1)):=fun p q a b c=>by
 by_cases hq:q<lo+x
 ·exact hs p q a b hq
 ·have:q=lo+x:=by lia
  subst this;by_cases hp:p=lo+x
  ·subst hp;exact o.refl _
  ·exact o.tr _ _ _ (hs p (lo+x-1) a (by lia) (by lia)) hl
theorem Fal.more{xs:Array Keyed}{lo x:Nat}(o:jr lt)(h1:1<=x)(hs:Fal lt key xs lo (lo+x))(hl:lt (key (el xs (lo+x-1))) (key (el xs (lo+x)))=false):Fal lt key xs lo (lo+(x+1)):=fun p q a b c=>by
 by_cases hq:q<lo+x
 ·exact hs p q a b hq
 ·have:q=lo+x:=by lia
  subst this;by_cases hp:p=lo+x
  ·subst hp;exact o.refl _
  ·exact o.tr _ _ _ hl (hs p (lo+x-1) a (by lia) (by lia))
theorem BZ{b:Bool}(h:¬b=true):b=false:=by cases b<;>simp_all
theorem a1o(e:Env M A s κ key lt a₀){st:SortSt}(hk:kindOf st=κ)(hp:(arrOf st).Perm a₀){lo m z:Nat}(h1:1<=m)(h2:m<=z)(hz:lo+z<=a₀.size){Q:Option Nat->SortSt->Prop}(hs:Srt lt key (arrOf st) lo (lo+m))
  (h:∀ n,1<=n->n<=z->Srt lt key (arrOf st) lo (lo+n)->Q (some n) st):wpS M A E s (asl lo m z) Q st:=by
 unfold asl;refine aW (jk (jh (I:=fun x c st'=>st'=st/\c=(none,x)/\Srt lt key (arrOf st) lo (lo+x))
  (Q:=fun c st'=>st'=st/\∃ x,c=(none,x)/\1<=x/\x<=z/\Srt lt key (arrOf st) lo (lo+x)) ?step ?fin ?init) ?post)
 case init=>exact⟨rfl,rfl,hs⟩
 case fin=>
  rintro c st' ⟨rfl,rfl,g⟩;rw[show max m z=z by lia] at g ⊢;exact⟨rfl,z,rfl,by lia,bK _,g⟩
 case step=>
  rintro x c st' hax hxn ⟨rfl,rfl,hs⟩;dsimp only;refine aW (rC e hk hp (by lia) (by lia) ?_);dsimp only;by_cases hb:lt (key (el (arrOf st') (lo+x))) (key (el (arrOf st') (lo+x-1)))=true
  ·rw[aL hb];exact bf ⟨rfl,x,rfl,by lia,by lia,hs⟩
  ·rw[aJ hb];exact bf ⟨rfl,rfl,hs.more e.o (by lia) (BZ hb)⟩
 case post=>
  rintro c st' ⟨rfl,x,rfl,a1,a2,hs⟩;exact bf (h x a1 a2 hs)
theorem Gp{st:SortSt}{i j:Nat}{Q:Unit->SortSt->Prop}(h:Q () (setArr st (mirror (arrOf st) i j ((j-i) / 2)))):wpS M A E s (reverseSlice' i j) Q st:=by
 rw[reverseSlice'_eq];exact nR h
theorem vJ{xs:Array Keyed}{i j:Nat}(hj:j<=xs.size)(he:∀ k,i<=k->k<j->key (el xs k)=key (el xs (j-1)))(k:Nat):key (el (mirror xs i j ((j-i) / 2)) k)=key (el xs k):=by
 rw[qR hj];by_cases h:i<=k/\k<j
 ·rw[aL h,he _ (by lia) (by lia),he k h.1 h.2]
 ·rw[aJ h]
theorem V9(e:Env M A s κ key lt a₀){st:SortSt}(hk:kindOf st=κ)(hp:(arrOf st).Perm a₀){lo m z:Nat}(h2:m+1<=z)(hz:lo+z<=a₀.size){Q:Option Nat->SortSt->Prop}(hs:Fal lt key (arrOf st) lo (lo+(m+1)))
  (h:∀ n xs,xs.Perm a₀->Low xs (arrOf st) lo->1<=n->n<=z->Srt lt key xs lo (lo+n)->Q (some n) (setArr st xs)):wpS M A E s (dsl lo m z) Q st:=by
 unfold dsl;refine aW (tM (qI ⟨rfl,?_⟩))
 let Eq:Array Keyed->Nat->Nat->Prop:=fun xs x q=>∀ i,lo+x-(q+1)<=i->i<lo+x->key (el xs i)=key (el xs (lo+x-1))
 refine aW (jk (jh (I:=fun x c st'=>∃ xs q,st'=setArr st xs/\c=(none,x,q)/\xs.Perm a₀/\Low xs (arrOf st) lo/\Fal lt key xs lo (lo+x)/\q+1<=x/\Eq xs x q)
  (Q:=fun c st'=>∃ xs x q,st'=setArr st xs/\c=(none,x,q)/\xs.Perm a₀/\Low xs (arrOf st) lo/\1<=x/\x<=z/\Fal lt key xs lo (lo+x)/\q+1<=x/\Eq xs x q) ?step ?fin ?init) ?post)
 case init=>
  refine⟨arrOf st,0,rfl,rfl,hp,Low.refl,hs,by lia,fun i a b=>?_⟩;have:i=lo+(m+1)-1:=by lia
  rw[this]
 case fin=>
  rintro c st' ⟨xs,q,rfl,rfl,a1,a2,a3,a4,a5⟩;rw[show max (m+1) z=z by lia] at a3 a4 a5 ⊢;exact⟨xs,z,q,rfl,rfl,a1,a2,by lia,bK _,a3,a4,a5⟩
 case step=>
  rintro x c st' hax hxn ⟨xs,q,rfl,rfl,a1,a2,a3,a4,a5⟩;have sz:xs.size=a₀.size:=a1.size_eq;dsimp only;refine aW (rC e (st:=setArr st xs) hk a1 (by lia) (by lia) ?_);dsimp only;show wpS M A E s _ _ (setArr st xs);by_cases hb:lt (key (el xs (lo+x))) (key (el xs (lo+x-1)))=true
  ·rw[aL hb];have one:∀ ys:Array Keyed,Eq ys (x+1) 0:=fun ys i a b=>by
    have:i=lo+(x+1)-1:=by lia
    rw[this]
   have fm:∀ ys:Array Keyed,(∀ k,key (el ys k)=key (el xs k))->Fal lt key ys lo (lo+(x+1)):=fun ys hy=>by
    have:=a3.more e.o (by lia) (e.o.HF _ _ hb);intro p q b1 b2 b3;rw[hy,hy];exact this p q b1 b2 b3
   by_cases hq:q>0
   ·rw[aL hq];refine aW (Gp (bf ⟨_,0,rfl,rfl,(Bu _ _ _ _).trans a1,(oM (by show _<=xs.size;lia) (by lia)).trans a2,fm _ (vJ (by show _<=xs.size;lia) a5),by lia,one _⟩))
   ·rw[aJ hq];exact bf ⟨xs,0,rfl,rfl,a1,a2,fm _ fun _=>rfl,by lia,one _⟩
  ·rw[aJ hb];refine aW (rC e (st:=setArr st xs) hk a1 (by lia) (by lia) ?_);dsimp only;show wpS M A E s _ _ (setArr st xs);by_cases hd:lt (key (el xs (lo+x-1))) (key (el xs (lo+x)))=true
   ·rw[aL hd];exact bf ⟨xs,x,q,rfl,rfl,a1,a2,by lia,by lia,a3,a4,a5⟩
   ·rw[aJ hd];have ek:key (el xs (lo+x))=key (el xs (lo+x-1)):=e.o.anti _ _ (BZ hb) (BZ hd);refine bf ⟨xs,q+1,rfl,rfl,a1,a2,a3.more e.o (by lia) (BZ hd),by lia,fun i b1 b2=>?_⟩;rw[show lo+(x+1)-1=lo+x by lia];by_cases hi:i=lo+x
    ·rw[hi]
    ·rw[ek];exact a5 i (by lia) (by lia)
 case post=>
  rintro c st' ⟨xs,x,q,rfl,rfl,a1,a2,a3,a4,a5,a6,a7⟩;have sz:xs.size=a₀.size:=a1.size_eq;dsimp only;have fin:∀ ys:Array Keyed,ys.Perm a₀->Low ys (arrOf st) lo->(∀ k,key (el ys k)=key (el xs k))->wpS M A E s (reverseSlice' lo (lo+x) >>= fun _=>asl lo x z) Q (setArr st ys):=fun ys hy ly ky=>by
   have sy:ys.size=a₀.size:=hy.size_eq;refine aW (Gp ?_);show wpS M A E s _ _ (setArr st (mirror ys lo (lo+x) ((lo+x-lo) / 2)));refine a1o e (st:=setArr st (mirror ys lo (lo+x) ((lo+x-lo) / 2))) hk (show(mirror ys lo (lo+x) ((lo+x-lo) / 2)).Perm a₀ from(Bu _ _ _ _).trans hy) a3 a4 hz ?_ fun n n1 n2 n3=>h n _ ((Bu _ _ _ _).trans hy) ((oM (by lia) (bK _)).trans ly) n1 n2 n3
   intro p q b1 b2 b3;show lt (key (el (mirror ys lo (lo+x) ((lo+x-lo) / 2)) q)) (key (el (mirror ys lo (lo+x) ((lo+x-lo) / 2)) p))=false;rw[qR (by lia),qR (by lia),aL (by lia),aL (by lia),ky,ky];exact a5 _ _ (by lia) (by lia) (by lia)
  by_cases hq:q>0
  ·rw[aL hq];refine aW (Gp (fin _ ((Bu _ _ _ _).trans a1) ((oM (by show _<=xs.size;lia) (by lia)).trans a2) (vJ (by show _<=xs.size;lia) a7)))
  ·rw[aJ hq];exact fin xs a1 a2 fun _=>rfl
theorem V8(e:Env M A s κ key lt a₀){st:SortSt}(hk:kindOf st=κ)(hp:(arrOf st).Perm a₀){lo z:Nat}(h1:1<=z)(hz:lo+z<=a₀.size){Q:Option Nat->SortSt->Prop}
  (h:∀ m xs,xs.Perm a₀->Low xs (arrOf st) lo->1<=m->m<=z->Srt lt key xs lo (lo+m)->Q (some m) (setArr st xs)):wpS M A E s (countRun' lo z) Q st:=by
 rw[countRun'_eq];have sz:(arrOf st).size=a₀.size:=hp.size_eq;refine aW (jk (jh (I:=fun x c st'=>st'=st/\c=(none,x)/\Srt lt key (arrOf st) lo (lo+x))
  (Q:=fun c st'=>st'=st/\∃ x,c=(none,x)/\1<=x/\x<=z/\Srt lt key (arrOf st) lo (lo+x)/\(x<z->lt (key (el (arrOf st) (lo+x))) (key (el (arrOf st) (lo+x-1)))=true)) ?step ?fin ?init) ?post)
 case init=>exact⟨rfl,rfl,Srt.one e.o⟩
 case fin=>
  rintro c st' ⟨rfl,rfl,g⟩;rw[show max 1 z=z by lia] at g ⊢;exact⟨rfl,z,rfl,by omega,bK _,g,fun a=>absurd a (qM _)⟩
 case step=>
  rintro x c st' hax hxn ⟨rfl,rfl,hs⟩;dsimp only;refine aW (rC e hk hp (by lia) (by lia) ?_);dsimp only;by_cases hb:lt (key (el (arrOf st') (lo+x))) (key (el (arrOf st') (lo+x-1)))=true
  ·rw[aL hb];exact bf ⟨rfl,x,rfl,by omega,by lia,hs,fun _=>hb⟩
  ·rw[aJ hb];exact bf ⟨rfl,rfl,hs.more e.o (by omega) (BZ hb)⟩
 case post=>
  rintro c st' ⟨rfl,x,rfl,a1,a2,hs,hl⟩;dsimp only;have own:Q (some x) st':=h x (arrOf st') hp Low.refl a1 a2 hs;by_cases hx:x=z
  ·rw[aL (by simpa using hx)];exact bf own
  ·rw[aJ (by simpa using hx)];have hl':=hl (by lia);by_cases hg:x>1
   ·rw[aL hg];refine aW (rC e hk hp (by lia) (by lia) ?_);dsimp only;by_cases hb:lt (key (el (arrOf st') lo)) (key (el (arrOf st') (lo+x-1)))=true
    ·rw[aL hb];exact bf own
    ·rw[aJ hb];have hall:∀ k,lo<=k->k<lo+x->key (el (arrOf st') k)=key (el (arrOf st') (lo+x-1)):=fun k c1 c2=>
      e.o.anti _ _ (e.o.tr _ _ _ (BZ hb) (hs lo k (bK _) c1 c2)) (hs k (lo+x-1) c1 (by lia) (by lia))
     refine aW (Gp ?_);have hm:(mirror (arrOf st') lo (lo+x) ((lo+x-lo) / 2)).Perm a₀:=(Bu _ _ _ _).trans hp;have lm:Low (mirror (arrOf st') lo (lo+x) ((lo+x-lo) / 2)) (arrOf st') lo:=oM (by lia) (bK _);change wpS M A E s (dsl lo x z) Q _;refine V9 e (st:=setArr st' (mirror (arrOf st') lo (lo+x) ((lo+x-lo) / 2))) hk (show(mirror (arrOf st') lo (lo+x) ((lo+x-lo) / 2)).Perm a₀ from hm) (by lia) hz ?_ fun n xs b1 b2 b3 b4 b5=>h n xs b1 (b2.trans lm) b3 b4 b5
     show Fal lt key (mirror (arrOf st') lo (lo+x) ((lo+x-lo) / 2)) lo (lo+(x+1));refine Fal.more e.o (by omega) (fun p q b1 b2 b3=>?_) ?_
     ·rw[vJ (by lia) hall,vJ (by lia) hall,hall p (by omega) (by lia),hall q (by lia) (by omega)];exact e.o.refl _
     ·rw[vJ (by lia) hall,vJ (by lia) hall];exact e.o.HF _ _ hl'
   ·rw[aJ hg];change wpS M A E s (dsl lo x z) Q _;refine V9 e hk hp (by lia) hz ?_ h;have:x=1:=by lia
    subst this;refine Fal.more e.o (by omega) (fun p q b1 b2 b3=>?_) (e.o.HF _ _ hl');have:p=q:=by lia
    subst this;exact e.o.refl _
theorem a1p(e:Env M A s κ key lt a₀){st:SortSt}(hk:kindOf st=κ)(hp:(arrOf st).Perm a₀){lo n m:Nat}(hm:1<=m)(hmn:m<=n)(hz:lo+n<=a₀.size){Q:Bool->SortSt->Prop}(hs:Srt lt key (arrOf st) lo (lo+m))
  (h:∀ xs,xs.Perm a₀->Low xs (arrOf st) lo->Srt lt key xs lo (lo+n)->Q true (setArr st xs)):wpS M A E s (binarySort' lo n m) Q st:=by
 rw[binarySort'_eq];rw[show max m 1=m by lia];refine aW (jk (jh (I:=fun k c st'=>∃ xs,st'=setArr st xs/\c=(none,())/\xs.Perm a₀/\Low xs (arrOf st) lo/\Srt lt key xs lo (lo+k))
  (Q:=fun c st'=>∃ xs,st'=setArr st xs/\c=(none,())/\xs.Perm a₀/\Low xs (arrOf st) lo/\Srt lt key xs lo (lo+n)) ?step ?fin ?init) ?post)
 case init=>exact⟨arrOf st,rfl,rfl,hp,Low.refl,hs⟩
 case fin=>
  rintro c st' ⟨xs,rfl,rfl,a1,a2,a3⟩;rw[show max m n=n by lia] at a3;exact⟨xs,rfl,rfl,a1,a2,a3⟩
 case post=>
  rintro c st' ⟨xs,rfl,rfl,a1,a2,a3⟩;exact bf (h xs a1 a2 a3)
 case step=>
  rintro k c st' hk1 hk2 ⟨xs,rfl,rfl,a1,a2,a3⟩;have sz:xs.size=a₀.size:=a1.size_eq;refine aW (jk (jh (I:=fun x c st'=>st'=setArr st xs/\∃ l r,c=(none,l,r)/\l<=r/\r<=k/\r-l<=k-x /\
    (∀ i,i<l->lt (key (el xs (lo+k))) (key (el xs (lo+i)))=false)/\(∀ i,r<=i->i<k->lt (key (el xs (lo+i))) (key (el xs (lo+k)))=false))
   (Q:=fun c st'=>st'=setArr st xs/\∃ l r,c=(none,l,r)/\l<=k /\
    (∀ i,i<l->lt (key (el xs (lo+k))) (key (el xs (lo+i)))=false)/\(∀ i,l<=i->i<k->lt (key (el xs (lo+i))) (key (el xs (lo+k)))=false)) ?is ?ie ?ii) ?ip)
  case ii=>exact⟨rfl,0,k,rfl,by lia,by lia,by lia,fun i hi=>by lia,fun i b c=>by lia⟩
  case ie=>
   rintro c st' ⟨rfl,l,r,rfl,b1,b2,b3,b4,b5⟩;have:l=r:=by lia
   subst this;exact⟨rfl,l,l,rfl,b2,b4,b5⟩
  case is=>
   rintro x c st' _ hx ⟨rfl,l,r,rfl,b1,b2,b3,b4,b5⟩;dsimp only;by_cases hge:l>=r
   ·rw[aL hge];have:l=r:=by lia
    subst this;exact bf ⟨rfl,l,l,rfl,b2,b4,b5⟩
   ·rw[aJ hge];refine aW (rC e (st:=setArr st xs) hk a1 (by lia) (by lia) ?_);dsimp only;show wpS M A E s _ _ (setArr st xs);by_cases hb:lt (key (el xs (lo+k))) (key (el xs (lo+(l+r) / 2)))=true
    ·rw[aL hb];refine bf ⟨rfl,l,(l+r) / 2,rfl,by lia,by lia,by lia,b4,fun i c1 c2=>?_⟩;exact e.o.tr _ _ _ (e.o.HF _ _ hb) (a3 (lo+(l+r) / 2) (lo+i) (by lia) (by lia) (by lia))
    ·rw[aJ hb];refine bf ⟨rfl,(l+r) / 2+1,r,rfl,by lia,by omega,by lia,fun i c1=>?_,b5⟩;exact e.o.tr _ _ _ (a3 (lo+i) (lo+(l+r) / 2) (by lia) (by lia) (by lia)) (BZ hb)
  case ip=>
   rintro c st' ⟨rfl,l,r,rfl,b2,b4,b5⟩;dsimp only;rw[moveDown'_eq];refine aW (nR (bf ⟨_,rfl,rfl,(bubble_perm _ _ _).trans a1,fun i hi=>?_,?_⟩))
   ·show el (bubble xs (lo+k) (lo+k-(lo+l))) i=_;rw[vI (by lia) (by lia),aJ (by lia),aJ (by lia)];exact a2 i hi
   ·intro p q c1 c2 c3;show lt (key (el (bubble xs (lo+k) (lo+k-(lo+l))) q)) (key (el (bubble xs (lo+k) (lo+k-(lo+l))) p))=false;rw[vI (by lia) (by lia),vI (by lia) (by lia),show lo+k-(lo+k-(lo+l))=lo+l by lia];have b4':∀ i,lo<=i->i<lo+l->lt (key (el xs (lo+k))) (key (el xs i))=false:=fun i d1 d2=>by
     have:=b4 (i-lo) (by lia);rwa[show lo+(i-lo)=i by lia] at this
    have b5':∀ i,lo+l<=i->i<lo+k->lt (key (el xs i)) (key (el xs (lo+k)))=false:=fun i d1 d2=>by
     have:=b5 (i-lo) (by lia) (by lia);rwa[show lo+(i-lo)=i by lia] at this
    repeat' split
    all_goals first
     |(exfalso;lia)
     |exact e.o.refl _
     |exact b4' _ (by omega) (by lia)
     |exact b5' _ (by lia) (by lia)
     |exact a3 _ _ (by lia) (by lia) (by lia)
end
end TS
end L2
namespace L2
open PySem PySem.Spec PyProof.Rows PySem.W
namespace TS
def gal:Bool->Keyed->Array Keyed->Nat->Nat->Nat->StateT SortSt Sem (Option Nat):=sortPriv% PySem.Builtin.gallop
def bey(l:Bool)(y:Keyed)(xs:Array Keyed)(i:Nat):StateT SortSt Sem (Option Bool):=do
 let x <- elem' xs i
 if l then lt' x y else return (<- lt' y x).map (!·)
theorem ZJ(l:Bool)(y:Keyed)(xs:Array Keyed)(b n t:Nat):gal l y xs b n t=(do
 let mut o':=0
 let mut o:=1
 let mut p:=0
 let mut q:=0
 let some r <- bey l y xs (b+t)|return none
 if r then
  let z:=n-t
  for _ in [0:n] do
   if o>=z then break
   let some g <- bey l y xs (b+(t+o))|return none
   if !g then break
   o':=o
   o:=2*o+1
  p:=t+o'+1
  q:=t+min o z
 else
  let z:=t+1
  for _ in [0:n] do
   if o>=z then break
   let some g <- bey l y xs (b+(t-o))|return none
   if g then break
   o':=o
   o:=2*o+1
  p:=t+1-min o z
  q:=t-o'
 for _ in [0:n] do
  if p>=q then break
  let m:=p+(q-p) / 2
  let some g <- bey l y xs (b+m)|return none
  if g then p:=m+1 else q:=m
 return some q):=rfl
section
variable{α:Type}{lt:α->α->Bool}{M:Model}{A:Around}{E:Value->Shared->Prop}{s:Shared}{κ:SortKind}{key:Keyed->α}{a₀:Array Keyed}
def bv(lt:α->α->Bool)(key:Keyed->α)(l:Bool)(y x:Keyed):Bool:=if l then lt (key x) (key y) else !lt (key y) (key x)
theorem Gn(e:Env M A s κ key lt a₀){st:SortSt}(hk:kindOf st=κ){l:Bool}{y:Keyed}{xs:Array Keyed}{i:Nat}(hy:y∈a₀.toList)(hi:i<xs.size)(hx:el xs i∈a₀.toList){Q:Option Bool->SortSt->Prop}(h:Q (some (bv lt key l y (el xs i))) st):wpS M A E s (bey l y xs i) Q st:=by
 unfold bey;refine aW (dI hi ?_);cases l
 ·refine aW (JN e hy hx hk (bf ?_));exact h
 ·exact JN e hx hy hk h
def bsr(l:Bool)(y:Keyed)(xs:Array Keyed)(b n p q:Nat):StateT SortSt Sem (Option Nat):=do
 let mut p:=p
 let mut q:=q
 for _ in [0:n] do
  if p>=q then break
  let m:=p+(q-p) / 2
  let some g <- bey l y xs (b+m)|return none
  if g then p:=m+1 else q:=m
 return some q
theorem V7(e:Env M A s κ key lt a₀){st:SortSt}(hk:kindOf st=κ){l:Bool}{y:Keyed}{xs:Array Keyed}{b n p q:Nat}(hy:y∈a₀.toList)(hz:b+n<=xs.size)(hm:∀ i,i<n->el xs (b+i)∈a₀.toList)
  (mono:∀ i j,i<=j->j<n->bv lt key l y (el xs (b+j))=true->bv lt key l y (el xs (b+i))=true) {Q:Option Nat->SortSt->Prop} (hpq:p<=q) (hq:q<=n)
  (hp':∀ i,i<p->bv lt key l y (el xs (b+i))=true) (hq':∀ i,q<=i->i<n->bv lt key l y (el xs (b+i))=false)
  (h:∀ k,k<=n->(∀ i,i<k->bv lt key l y (el xs (b+i))=true)->(∀ i,k<=i->i<n->bv lt key l y (el xs (b+i))=false)->Q (some k) st):wpS M A E s (bsr l y xs b n p q) Q st:=by
 unfold bsr;refine aW (jk (jh (I:=fun x c st'=>st'=st/\∃ p q,c=(none,p,q)/\p<=q/\q<=n/\q-p<=n-x/\(∀ i,i<p->bv lt key l y (el xs (b+i))=true)/\(∀ i,q<=i->i<n->bv lt key l y (el xs (b+i))=false))
  (Q:=fun c st'=>st'=st/\∃ p q,c=(none,p,q)/\q<=n/\(∀ i,i<q->bv lt key l y (el xs (b+i))=true)/\(∀ i,q<=i->i<n->bv lt key l y (el xs (b+i))=false)) ?step ?fin ?init) ?post)
 case init=>exact⟨rfl,p,q,rfl,hpq,hq,by lia,hp',hq'⟩
 case fin=>
  rintro c st' ⟨rfl,p,q,rfl,a1,a2,a3,a4,a5⟩;have:p=q:=by lia
  subst this;exact⟨rfl,p,p,rfl,a2,a4,a5⟩
 case post=>
  rintro c st' ⟨rfl,p,q,rfl,a1,a4,a5⟩;exact bf (h q a1 a4 a5)
 case step=>
  rintro x c st' _ hx ⟨rfl,p,q,rfl,a1,a2,a3,a4,a5⟩;dsimp only;by_cases hge:p>=q
  ·rw[aL hge];have:p=q:=by lia
   subst this;exact bf ⟨rfl,p,p,rfl,a2,a4,a5⟩
  ·rw[aJ hge];have c1:p<=p+(q-p) / 2:=by lia
   have c2:p+(q-p) / 2<q:=by lia
   generalize p+(q-p) / 2=m at c1 c2;refine aW (Gn e hk hy (by lia) (hm _ (by lia)) ?_);dsimp only;by_cases hb:bv lt key l y (el xs (b+m))=true
   ·rw[aL hb];exact bf ⟨rfl,m+1,q,rfl,by lia,a2,by lia,fun i hi=>mono i m (by lia) (by lia) hb,a5⟩
   ·rw[aJ hb];refine bf ⟨rfl,p,m,rfl,by omega,by lia,by lia,a4,fun i hi hn=>?_⟩;cases hc:bv lt key l y (el xs (b+i))
    ·rfl
    ·exact absurd (mono m i hi hn hc) hb
theorem qH(e:Env M A s κ key lt a₀){st:SortSt}(hk:kindOf st=κ){l:Bool}{y:Keyed}{xs:Array Keyed}{b n t:Nat}(hy:y∈a₀.toList)(hz:b+n<=xs.size)(hm:∀ i,i<n->el xs (b+i)∈a₀.toList)(ht:t<n)
  (mono:∀ i j,i<=j->j<n->bv lt key l y (el xs (b+j))=true->bv lt key l y (el xs (b+i))=true) {Q:Option Nat->SortSt->Prop}
  (h:∀ k,k<=n->(∀ i,i<k->bv lt key l y (el xs (b+i))=true)->(∀ i,k<=i->i<n->bv lt key l y (el xs (b+i))=false)->Q (some k) st):wpS M A E s (gal l y xs b n t) Q st:=by
 rw[ZJ];refine aW (Gn e hk hy (by lia) (hm t ht) ?_);dsimp only;have dn:∀ i j,i<=j->j<n->bv lt key l y (el xs (b+i))=false->bv lt key l y (el xs (b+j))=false:=fun i j h1 h2 h3=>by
  cases hc:bv lt key l y (el xs (b+j))
  ·rfl
  ·rw[mono i j h1 h2 hc] at h3;cases h3
 by_cases hb:bv lt key l y (el xs (b+t))=true
 ·rw[aL hb];refine aW (jk (jh (I:=fun x c st'=>st'=st/\∃ o' o,c=(none,o',o)/\o'<o/\t+o'<n/\x+1<=o/\bv lt key l y (el xs (b+(t+o')))=true)
   (Q:=fun c st'=>st'=st/\∃ o' o,c=(none,o',o)/\o'<o/\t+o'<n/\bv lt key l y (el xs (b+(t+o')))=true/\(o<n-t->bv lt key l y (el xs (b+(t+o)))=false)) ?step ?fin ?init) ?post)
  case init=>exact⟨rfl,0,1,rfl,by lia,by omega,by lia,hb⟩
  case fin=>
   rintro c st' ⟨rfl,o',o,rfl,a1,a2,a3,a4⟩;exact⟨rfl,o',o,rfl,a1,a2,a4,fun z=>by lia⟩
  case step=>
   rintro x c st' _ hx ⟨rfl,o',o,rfl,a1,a2,a3,a4⟩;dsimp only;by_cases hge:o>=n-t
   ·rw[aL hge];exact bf ⟨rfl,o',o,rfl,a1,a2,a4,fun z=>by lia⟩
   ·rw[aJ hge];refine aW (Gn e hk hy (by lia) (hm _ (by lia)) ?_);dsimp only;cases hc:bv lt key l y (el xs (b+(t+o)))
    ·rw[aL (by rfl)];exact bf ⟨rfl,o',o,rfl,a1,a2,a4,fun _=>hc⟩
    ·rw[aJ (by decide)];exact bf ⟨rfl,o,2*o+1,rfl,by lia,by lia,by lia,hc⟩
  case post=>
   rintro c st' ⟨rfl,o',o,rfl,a1,a2,a4,a5⟩;dsimp only;change wpS M A E s (bsr l y xs b n (t+o'+1) (t+min o (n-t))) Q _;refine V7 e hk hy hz hm mono (by lia) (by lia) (fun i hi=>mono i (t+o') (by lia) a2 a4) (fun i h1 h2=>?_) h;exact dn (t+o) i (by lia) h2 (a5 (by lia))
 ·rw[aJ hb];refine aW (jk (jh (I:=fun x c st'=>st'=st/\∃ o' o,c=(none,o',o)/\o'<o/\o'<=t/\x+1<=o/\bv lt key l y (el xs (b+(t-o')))=false)
   (Q:=fun c st'=>st'=st/\∃ o' o,c=(none,o',o)/\o'<o/\o'<=t/\bv lt key l y (el xs (b+(t-o')))=false/\(o<t+1->bv lt key l y (el xs (b+(t-o)))=true)) ?step ?fin ?init) ?post)
  case init=>exact⟨rfl,0,1,rfl,by lia,by lia,by lia,BZ hb⟩
  case fin=>
   rintro c st' ⟨rfl,o',o,rfl,a1,a2,a3,a4⟩;exact⟨rfl,o',o,rfl,a1,a2,a4,fun z=>by lia⟩
  case step=>
   rintro x c st' _ hx ⟨rfl,o',o,rfl,a1,a2,a3,a4⟩;dsimp only;by_cases hge:o>=t+1
   ·rw[aL hge];exact bf ⟨rfl,o',o,rfl,a1,a2,a4,fun z=>by lia⟩
   ·rw[aJ hge];refine aW (Gn e hk hy (by lia) (hm _ (by lia)) ?_);dsimp only;cases hc:bv lt key l y (el xs (b+(t-o)))
    ·rw[aJ (by decide)];exact bf ⟨rfl,o,2*o+1,rfl,by lia,by lia,by lia,hc⟩
    ·rw[aL (by rfl)];exact bf ⟨rfl,o',o,rfl,a1,a2,a4,fun _=>hc⟩
  case post=>
   rintro c st' ⟨rfl,o',o,rfl,a1,a2,a4,a5⟩;dsimp only;change wpS M A E s (bsr l y xs b n (t+1-min o (t+1)) (t-o')) Q _;refine V7 e hk hy hz hm mono (by omega) (by lia) (fun i hi=>?_) (fun i h1 h2=>dn (t-o') i h1 h2 a4) h;exact mono i (t-o) (by lia) (by lia) (a5 (by lia))
end
end TS
end L2
namespace L2
open PySem PySem.Spec PyProof.Rows PySem.W
namespace TS
abbrev cF(st:SortSt)(g:Nat):SortSt:=SortSt.mk' (kindOf st) (arrOf st) (pendingOf st) g (failedOf st)
def mlo:Array Keyed->Array Keyed->StateT SortSt Sem (Array Keyed):=sortPriv% PySem.Builtin.mergeLo
def mhi:Array Keyed->Array Keyed->StateT SortSt Sem (Array Keyed):=sortPriv% PySem.Builtin.mergeHi
theorem a0a(a b:Array Keyed):mlo a b=(do
 (rule "list.sort.merge-lo" : Sem Unit)
 let t:=a.size+b.size
 let fin (o:Array Keyed) (i j:Nat):=o++a.extract i a.size++b.extract j b.size
 let nif (o:Array Keyed) (i j:Nat):=o++b.extract j b.size++a.extract i a.size
 let mut o:Array Keyed:=#[<- elem' b 0]
 let mut i:=0
 let mut j:=1
 if j==b.size then return fin o i j
 if i+1==a.size then return nif o i j
 let mut g:=gallopOf (<- get)
 for _ in [0:t] do
  let mut c:=0
  let mut d:=0
  for _ in [0:t] do
   let some w <- lt' (<- elem' b j) (<- elem' a i)|return fin o i j
   if w then
    o:=o.push (<- elem' b j);j:=j+1;d:=d+1;c:=0
    if j==b.size then return fin o i j
    if d>=g then break
   else
    o:=o.push (<- elem' a i);i:=i+1;c:=c+1;d:=0
    if i+1==a.size then return nif o i j
    if c>=g then break
  (rule "list.sort.gallop" : Sem Unit)
  g:=g+1
  for _ in [0:t] do
   if g>1 then g:=g-1
   modify fun s=>cF s g
   let some k <- gal false (<- elem' b j) a i (a.size-i) 0|return fin o i j
   c:=k
   if k>0 then
    o:=o++a.extract i (i+k);i:=i+k
    if i+1==a.size then return nif o i j
    if i==a.size then return fin o i j
   o:=o.push (<- elem' b j);j:=j+1
   if j==b.size then return fin o i j
   let some k <- gal true (<- elem' a i) b j (b.size-j) 0|return fin o i j
   d:=k
   if k>0 then
    o:=o++b.extract j (j+k);j:=j+k
    if j==b.size then return fin o i j
   o:=o.push (<- elem' a i);i:=i+1
   if i+1==a.size then return nif o i j
   if c<7&&d<7 then break
  g:=g+1
  modify fun s=>cF s g
 unsupported "internal:list.sort.merge-bound"):=rfl
theorem a08(a b:Array Keyed):mhi a b=(do
 (rule "list.sort.merge-hi" : Sem Unit)
 let t:=a.size+b.size
 let fin (o:Array Keyed) (i j:Nat):=a.extract 0 i++b.extract 0 j++o.reverse
 let nif (o:Array Keyed) (i j:Nat):=b.extract 0 j++a.extract 0 i++o.reverse
 let mut i:=a.size-1
 let mut j:=b.size
 let mut o:Array Keyed:=#[<- elem' a i]
 if i==0 then return fin o i j
 if j==1 then return nif o i j
 let mut g:=gallopOf (<- get)
 for _ in [0:t] do
  let mut c:=0
  let mut d:=0
  for _ in [0:t] do
   let some w <- lt' (<- elem' b (j-1)) (<- elem' a (i-1))|return fin o i j
   if w then
    i:=i-1;o:=o.push (<- elem' a i);c:=c+1;d:=0
    if i==0 then return fin o i j
    if c>=g then break
   else
    j:=j-1;o:=o.push (<- elem' b j);d:=d+1;c:=0
    if j==1 then return nif o i j
    if d>=g then break
  (rule "list.sort.gallop" : Sem Unit)
  g:=g+1
  for _ in [0:t] do
   if g>1 then g:=g-1
   modify fun s=>cF s g
   let some p <- gal false (<- elem' b (j-1)) a 0 i (i-1)|return fin o i j
   let k:=i-p
   c:=k
   if k>0 then
    o:=o++(a.extract p i).reverse;i:=p
    if i==0 then return fin o i j
   j:=j-1;o:=o.push (<- elem' b j)
   if j==1 then return nif o i j
   let some p <- gal true (<- elem' a (i-1)) b 0 j (j-1)|return fin o i j
   let k:=j-p
   d:=k
   if k>0 then
    o:=o++(b.extract p j).reverse;j:=p
    if j==1 then return nif o i j
    if j==0 then return fin o i j
   i:=i-1;o:=o.push (<- elem' a i)
   if i==0 then return fin o i j
   if c<7&&d<7 then break
  g:=g+1
  modify fun s=>cF s g
 unsupported "internal:list.sort.merge-bound"):=rfl
section
variable{α:Type}{lt:α->α->Bool}{M:Model}{A:Around}{E:Value->Shared->Prop}{s:Shared}{κ:SortKind}{key:Keyed->α}{a₀:Array Keyed}
structure Mg(R:Keyed->Keyed->Prop)(X Y out x y:List Keyed):Prop where
 perm:(out++(x++y)).Perm (X++Y)
 up:out.Pairwise R
 ab:∀ p∈out,∀ q∈x++y,R p q
 sx:x.Pairwise R
 sy:y.Pairwise R
variable{R:Keyed->Keyed->Prop}{X Y out x y:List Keyed}{p q:Keyed}
theorem Mg.tx(m:Mg R X Y out (p::x) y)(h:∀ q∈y,R p q):Mg R X Y (out++[p]) x y:=by
 obtain⟨h1,h2,h3,h4,h5⟩:=m;rw[qK] at h4;refine⟨by simpa using h1,?_,?_,h4.2,h5⟩
 ·rw[xP];refine⟨h2,Vl _ _,fun a ha b hb=>?_⟩;rw[dM.mp hb];exact h3 a ha p (by simp)
 ·intro a ha b hb;rcases cI.mp ha with z|z
  ·exact h3 a z b (by rcases cI.mp hb with w|w<;>simp[w])
  ·rw[dM.mp z];rcases cI.mp hb with w|w
   ·exact h4.1 b w
   ·exact h b w
theorem Mg.swap(m:Mg R X Y out x y):Mg R Y X out y x:=
 ⟨((Mh (l₁:=y) (l₂:=x)).append_left out).trans (m.perm.trans Mh),m.up,fun a ha b hb=>m.ab a ha b (cI.mpr (cI.mp hb).symm),m.sy,m.sx⟩
theorem Mg.ty(m:Mg R X Y out x (q::y))(h:∀ p∈x,R q p):Mg R X Y (out++[q]) x y:=(m.swap.tx h).swap
theorem Mg.cx:∀(c:List Keyed){out:List Keyed},Mg R X Y out (c++x) y->(∀ p∈c,∀ q∈y,R p q)->Mg R X Y (out++c) x y
 |[],out,m,_=>by simpa using m
 |p::c,out,m,h=>by
  have:=Mg.cx c (m.tx (h p dJ)) fun a ha=>h a (fK _ ha)
  simpa using this
theorem Mg.cy(c:List Keyed)(m:Mg R X Y out x (c++y))(h:∀ p∈c,∀ q∈x,R p q):Mg R X Y (out++c) x y:=(Mg.cx c m.swap h).swap
theorem Mg.a1G(m:Mg R X Y out [] y):(out++y).Perm (X++Y)/\(out++y).Pairwise R:=
 ⟨by simpa using m.perm,xP.mpr ⟨m.up,m.sy,fun a ha b hb=>m.ab a ha b (by simpa using hb)⟩⟩
theorem Mg.Zz(m:Mg R X Y out x []):(out++x).Perm (X++Y)/\(out++x).Pairwise R:=
 ⟨by simpa using m.perm,xP.mpr ⟨m.up,m.sx,fun a ha b hb=>m.ab a ha b (by simpa using hb)⟩⟩
theorem Mg.last(m:Mg R X Y out [p] y)(h:∀ q∈y,R q p):(out++y++[p]).Perm (X++Y)/\(out++y++[p]).Pairwise R:=by
 have:=Mg.Zz (Mg.cy (y:=[]) y (by simpa using m) (fun a ha b hb=>by rw[dM.mp hb];exact h a ha));exact this
def Le(lt:α->α->Bool)(key:Keyed->α)(p q:Keyed):Prop:=lt (key q) (key p)=false
theorem Le.trans(o:jr lt){p q r:Keyed}(h:Le lt key p q)(g:Le lt key q r):Le lt key p r:=o.tr _ _ _ h g
theorem Le.of(o:jr lt){p q:Keyed}(h:lt (key p) (key q)=true):Le lt key p q:=o.HF _ _ h
theorem oE{a:Array Keyed}{i:Nat}(h:i<a.size):a.toList.drop i=el a i::a.toList.drop (i+1):=by
 rw[xO (by simpa using h)];congr 1;have:=oF h;rw[jd h] at this;simpa using iD this
theorem nj{a:Array Keyed}{i:Nat}:(a.extract i a.size).toList=a.toList.drop i:=by
 rw[Vv];refine Bx ?_;simp
theorem jt{a:Array Keyed}{i k:Nat}:(a.extract i (i+k)).toList=(a.toList.drop i).take k:=by
 rw[Vv,List.extract_eq_take_drop,Nat.add_sub_cancel_left]
theorem qZ{a:Array Keyed}{i k:Nat}(h:i+k<=a.size){x:Keyed}(hx:x∈(a.toList.drop i).take k):∃ t,t<k/\x=el a (i+t):=by
 obtain⟨t,ht,e⟩:=Mj.mp hx;rw[lQ,tu,jf] at ht;refine⟨t,by lia,?_⟩;rw[List.getElem_take,List.getElem_drop] at e;have:=oF (xs:=a) (i:=i+t) (by lia);rw[jd (by lia)] at this;rw[<- e];simpa using iD this
theorem wG{a:Array Keyed}(h:a.toList.Pairwise (Le lt key))(o:jr lt){i j:Nat}(hij:i<=j)(hj:j<a.size):Le lt key (el a i) (el a j):=by
 by_cases e:i=j
 ·subst e;exact o.refl _
 ·have:=rP.mp h i j (by simp;lia) (by simpa using hj) (by lia);have e1:=oF (xs:=a) (i:=i) (by lia);have e2:=oF hj;rw[jd (by omega)] at e1 e2;rw[<- iD e1,<- iD e2];simpa using this
theorem qP(o:jr lt){l:Bool}{y:Keyed}{xs:Array Keyed}{b n:Nat}(h:∀ p q,p<=q->q<n->Le lt key (el xs (b+p)) (el xs (b+q))):∀ i j,i<=j->j<n->bv lt key l y (el xs (b+j))=true->bv lt key l y (el xs (b+i))=true:=by
 intro i j hij hj hb;have hl:=h i j hij hj;cases l
 ·unfold bv at hb ⊢;rw[aJ fG] at hb ⊢;have h1:Le lt key (el xs (b+j)) y:=by
   unfold Le;cases hc:lt (key y) (key (el xs (b+j)))
   ·rfl
   ·rw[hc] at hb;cases hb
  have h2:lt (key y) (key (el xs (b+i)))=false:=hl.trans o h1;rw[h2];rfl
 ·unfold bv at hb ⊢;rw[aL rfl] at hb ⊢;cases hc:lt (key (el xs (b+i))) (key y)
  ·have h1:Le lt key y (el xs (b+i)):=hc;have h2:lt (key (el xs (b+j))) (key y)=false:=h1.trans o hl;rw[h2] at hb;cases hb
  ·rfl
theorem bvF{y x:Keyed}:bv lt key false y x=!lt (key y) (key x):=rfl
theorem bvT{y x:Keyed}:bv lt key true y x=lt (key x) (key y):=rfl
structure Two(lt:α->α->Bool)(key:Keyed->α)(a₀ a b:Array Keyed):Prop where
 ma:∀ x∈a.toList,x∈a₀.toList
 mb:∀ x∈b.toList,x∈a₀.toList
 sa:a.toList.Pairwise (Le lt key)
 sb:b.toList.Pairwise (Le lt key)
 za:1<=a.size
 zb:1<=b.size
 first:lt (key (el b 0)) (key (el a 0))=true
 last:∀ y∈b.toList,Le lt key y (el a (a.size-1))
def Res(lt:α->α->Bool)(key:Keyed->α)(a b r:Array Keyed):Prop:=r.toList.Perm (a.toList++b.toList)/\r.toList.Pairwise (Le lt key)
section lo
variable{a b o:Array Keyed}{i j k:Nat}
abbrev Lo(lt:α->α->Bool)(key:Keyed->α)(a b o:Array Keyed)(i j:Nat):Prop:=Mg (Le lt key) a.toList b.toList o.toList (a.toList.drop i) (b.toList.drop j)
theorem Lo.xK(od:jr lt)(m:Lo lt key a b o i j)(hi:i<a.size)(hj:j<b.size)(h:lt (key (el b j)) (key (el a i))=true):Lo lt key a b (o.push (el b j)) i (j+1):=by
 unfold Lo at m ⊢;rw[oE hj] at m;rw[GP];refine m.ty fun p hp=>?_
 have sx:=m.sx;rw[oE hi] at hp sx;rcases cO.mp hp with rfl|z
 ·exact Le.of od h
 ·exact(Le.of od h).trans od ((qK.mp sx).1 p z)
theorem Lo.qF(od:jr lt)(m:Lo lt key a b o i j)(hi:i<a.size)(hj:j<b.size)(h:lt (key (el b j)) (key (el a i))=false):Lo lt key a b (o.push (el a i)) (i+1) j:=by
 unfold Lo at m ⊢;rw[oE hi] at m;rw[GP];refine m.tx fun p hp=>?_
 have sy:=m.sy;rw[oE hj] at hp sy;have h':Le lt key (el a i) (el b j):=h;rcases cO.mp hp with rfl|z
 ·exact h'
 ·exact h'.trans od ((qK.mp sy).1 p z)
theorem Lo.Kc(od:jr lt)(m:Lo lt key a b o i j)(hi:i+k<=a.size)(hj:j<b.size)(h:∀ t,t<k->bv lt key false (el b j) (el a (i+t))=true):Lo lt key a b (o++a.extract i (i+k)) (i+k) j:=by
 unfold Lo at m ⊢;rw[jN,jt];rw[<- BJ k (a.toList.drop i),Hj] at m;refine m.cx _ fun p hp q hq=>?_
 have sy:=m.sy;rw[oE hj] at hq sy;obtain⟨t,ht,rfl⟩:=qZ hi hp;have h1:=h t ht;have h':Le lt key (el a (i+t)) (el b j):=by
  unfold Le;rw[bvF] at h1;cases hc:lt (key (el b j)) (key (el a (i+t)))
  ·rfl
  ·rw[hc] at h1;cases h1
 rcases cO.mp hq with rfl|z
 ·exact h'
 ·exact h'.trans od ((qK.mp sy).1 q z)
theorem Lo.z7(od:jr lt)(m:Lo lt key a b o i j)(hi:i<a.size)(hj:j+k<=b.size)(h:∀ t,t<k->bv lt key true (el a i) (el b (j+t))=true):Lo lt key a b (o++b.extract j (j+k)) i (j+k):=by
 unfold Lo at m ⊢;rw[jN,jt];rw[<- BJ k (b.toList.drop j),Hj] at m;refine m.cy _ fun p hp q hq=>?_
 have sx:=m.sx;rw[oE hi] at hq sx;obtain⟨t,ht,rfl⟩:=qZ hj hp;have h':Le lt key (el b (j+t)) (el a i):=Le.of od (by have:=h t ht;rwa[bvT] at this);rcases cO.mp hq with rfl|z
 ·exact h'
 ·exact h'.trans od ((qK.mp sx).1 q z)
theorem Lo.Fx(m:Lo lt key a b o i j)(hj:j=b.size):Res lt key a b (o++a.extract i a.size++b.extract j b.size):=by
 unfold Lo at m;unfold Res;rw[jN,jN,nj,nj];have e:b.toList.drop j=[]:=by rw[hj];simp
 rw[e] at m ⊢;rw[xW];exact m.Zz
theorem Lo.Fw(m:Lo lt key a b o i j)(hi:i=a.size):Res lt key a b (o++a.extract i a.size++b.extract j b.size):=by
 unfold Lo at m;unfold Res;rw[jN,jN,nj,nj];have e:a.toList.drop i=[]:=by rw[hi];simp
 rw[e] at m ⊢;rw[xW];exact m.a1G
theorem Lo.nif(t:Two lt key a₀ a b)(m:Lo lt key a b o i j)(hi:i+1=a.size):Res lt key a b (o++b.extract j b.size++a.extract i a.size):=by
 unfold Lo at m;unfold Res;rw[jN,jN,nj,nj];have e:a.toList.drop i=[el a i]:=by
  rw[oE (by lia),hi];have:a.toList.drop a.size=[]:=by simp
  rw[this]
 rw[e] at m ⊢;refine m.last fun q hq=>?_
 have:=t.last q (Gx hq);rwa[show a.size-1=i by lia] at this
end lo
theorem a1r(e:Env M A s κ key lt a₀){st:SortSt}(hk:kindOf st=κ){a b:Array Keyed}(t:Two lt key a₀ a b){Q:Array Keyed->SortSt->Prop}
  (h:∀ r g,Res lt key a b r->Q r (cF st g)):wpS M A E s (mlo a b) Q st:=by
 rw[a0a];have ea:∀ i,i<a.size->el a i∈a₀.toList:=fun i hi=>t.ma _ (vK hi)
 have eb:∀ i,i<b.size->el b i∈a₀.toList:=fun i hi=>t.mb _ (vK hi)
 have ma:∀(l:Bool)(y:Keyed)(i:Nat),∀ p q,p<=q->q<a.size-i->bv lt key l y (el a (i+q))=true->bv lt key l y (el a (i+p))=true:=fun l y i=>qP e.o fun p q h1 h2=>wG t.sa e.o (by lia) (by lia)
 have mb:∀(l:Bool)(y:Keyed)(i:Nat),∀ p q,p<=q->q<b.size-i->bv lt key l y (el b (i+q))=true->bv lt key l y (el b (i+p))=true:=fun l y i=>qP e.o fun p q h1 h2=>wG t.sb e.o (by lia) (by lia)
 have za:=t.za;have zb:=t.zb;have hkg:∀ g,kindOf (cF st g)=κ:=fun _=>hk
 refine aW (tM (qI ⟨rfl,?_⟩));refine aW (dI (by lia) ?_);have m0:Lo lt key a b #[el b 0] 0 1:=by
  have:Lo lt key a b #[] 0 0:=⟨by simp,List.Pairwise.nil,(fun p hp=>by cases hp),by simpa using t.sa,by simpa using t.sb⟩
  exact this.xK e.o (by lia) (by lia) t.first
 by_cases c1:1=b.size
 ·rw[aL (by simpa using c1)];exact bf (h _ (gallopOf st) (m0.Fx c1))
 rw[aJ (by simpa using c1)];by_cases c2:0+1=a.size
 ·rw[aL (by simpa using c2)];exact bf (h _ (gallopOf st) (m0.nif t c2))
 rw[aJ (by simpa using c2)];refine aW (jK ?_);dsimp only;refine aW (jk (jh (I:=fun x c st'=>(∃ g',st'=cF st g')/\∃ o i j g,c=(none,o,i,j,g)/\Lo lt key a b o i j/\i+1<a.size/\j<b.size/\x+1<=i+j)
  (Q:=fun c st'=>(∃ g',st'=cF st g')/\∃ r z,c=(some r,z)/\Res lt key a b r) ?step ?fin ?init) ?post)
 case init=>exact⟨⟨gallopOf st,rfl⟩,_,0,1,_,rfl,m0,by lia,by lia,by lia⟩
 case fin=>
  rintro c st' ⟨_,o,i,j,g,rfl,_,b1,b2,b3⟩;exfalso;lia
 case post=>
  rintro c st' ⟨⟨g',rfl⟩,r,z,rfl,hr⟩;exact bf (h r g' hr)
 case step=>
  rintro x c st' _ hx ⟨⟨g',rfl⟩,o,i,j,g,rfl,m1,b1,b2,b3⟩;dsimp only;refine aW (jk (jh (I:=fun y c st'=>(∃ g',st'=cF st g')/\∃ o i j u v,c=(none,o,i,j,u,v)/\Lo lt key a b o i j/\i+1<a.size/\j<b.size/\x+1+y<=i+j)
   (Q:=fun c st'=>(∃ g',st'=cF st g')/\((∃ r z,c=(some r,z)/\Res lt key a b r)\/∃ o i j u v,c=(none,o,i,j,u,v)/\Lo lt key a b o i j/\i+1<a.size/\j<b.size/\x+2<=i+j)) ?s1 ?f1 ?i1) ?p1)
  case i1=>exact⟨⟨g',rfl⟩,o,i,j,0,0,rfl,m1,b1,b2,by omega⟩
  case f1=>
   rintro c st' ⟨_,o,i,j,u,v,rfl,_,b1,b2,b3⟩;exfalso;lia
  case s1=>
   rintro y c st' _ hy ⟨⟨g',rfl⟩,o,i,j,u,v,rfl,m2,d1,d2,d3⟩;dsimp only;refine aW (dI (by omega) (aW (dI (by lia) (aW (JN e (st:=cF st g') (eb j (by omega)) (ea i (by lia)) hk ?_)))));dsimp only;by_cases hb:lt (key (el b j)) (key (el a i))=true
   ·rw[aL hb];refine aW (dI (by omega) ?_);have m3:=m2.xK e.o (by lia) (by omega) hb;by_cases f1:j+1=b.size
    ·rw[aL (by simpa using f1)];exact bf ⟨⟨g',rfl⟩,.inl ⟨_,_,rfl,m3.Fx f1⟩⟩
    ·rw[aJ (by simpa using f1)];by_cases f2:v+1>=g
     ·rw[aL f2];exact bf ⟨⟨g',rfl⟩,.inr ⟨_,_,_,_,_,rfl,m3,d1,by lia,by lia⟩⟩
     ·rw[aJ f2];exact bf ⟨⟨g',rfl⟩,_,_,_,_,_,rfl,m3,d1,by lia,by lia⟩
   ·rw[aJ hb];refine aW (dI (by lia) ?_);have m3:=m2.qF e.o (by lia) (by omega) (BZ hb);by_cases f1:i+1+1=a.size
    ·rw[aL (by simpa using f1)];exact bf ⟨⟨g',rfl⟩,.inl ⟨_,_,rfl,m3.nif t f1⟩⟩
    ·rw[aJ (by simpa using f1)];by_cases f2:u+1>=g
     ·rw[aL f2];exact bf ⟨⟨g',rfl⟩,.inr ⟨_,_,_,_,_,rfl,m3,by lia,by omega,by lia⟩⟩
     ·rw[aJ f2];exact bf ⟨⟨g',rfl⟩,_,_,_,_,_,rfl,m3,by lia,by omega,by lia⟩
  case p1=>
   rintro c st' ⟨⟨g',rfl⟩,⟨r,z,rfl,hr⟩|⟨o,i,j,u,v,rfl,m2,d1,d2,d3⟩⟩
   ·exact bf ⟨⟨g',rfl⟩,r,_,rfl,hr⟩
   dsimp only;refine aW (tM (qI ⟨rfl,?_⟩));refine aW (jk (jh (I:=fun y c st'=>(∃ g',st'=cF st g')/\∃ o i j g u v,c=(none,o,i,j,g,u,v)/\Lo lt key a b o i j/\i+1<a.size/\j<b.size/\x+2+y<=i+j)
    (Q:=fun c st'=>(∃ g',st'=cF st g')/\((∃ r z,c=(some r,z)/\Res lt key a b r)\/∃ o i j g u v,c=(none,o,i,j,g,u,v)/\Lo lt key a b o i j/\i+1<a.size/\j<b.size/\x+2<=i+j)) ?s2 ?f2 ?i2) ?p2)
   case i2=>exact⟨⟨g',rfl⟩,o,i,j,_,u,v,rfl,m2,d1,d2,by omega⟩
   case f2=>
    rintro c st' ⟨_,o,i,j,g,u,v,rfl,_,b1,b2,b3⟩;exfalso;lia
   case p2=>
    rintro c st' ⟨⟨g',rfl⟩,⟨r,z,rfl,hr⟩|⟨o,i,j,g,u,v,rfl,m2,d1,d2,d3⟩⟩
    ·exact bf ⟨⟨g',rfl⟩,r,_,rfl,hr⟩
    ·exact aW (nR (bf ⟨⟨_,rfl⟩,o,i,j,_,rfl,m2,d1,d2,by omega⟩))
   case s2=>
    rintro y c st' _ hy ⟨⟨g',rfl⟩,o,i,j,g,u,v,rfl,m3,d1,d2,d3⟩;dsimp only;by_cases hg:g>1
    all_goals first|rw[aL hg]|rw[aJ hg]
    all_goals
     refine aW (nR (aW (dI (by omega) (aW (qH e (st:=cF st _) (b:=i) (n:=a.size-i) (t:=0) (hkg _) (eb j (by omega)) (by lia) (fun t ht=>ea _ (by lia)) (by lia) (ma _ _ _) ?_)))));intro k k1 k2 k3;dsimp only;have m4:Lo lt key a b (o++a.extract i (i+k)) (i+k) j:=m3.Kc e.o (by lia) (by omega) k2;have lb:i+k<a.size->lt (key (el b j)) (key (el a (i+k)))=true:=fun z=>by
      have:=k3 k (bK _) (by lia);rw[bvF] at this;cases hc:lt (key (el b j)) (key (el a (i+k)))
      ·rw[hc] at this;cases this
      ·rfl
     by_cases hk0:k>0
     ·rw[aL hk0];by_cases f1:i+k+1=a.size
      ·rw[aL (by simpa using f1)];exact bf ⟨⟨_,rfl⟩,.inl ⟨_,_,rfl,m4.nif t f1⟩⟩
      rw[aJ (by simpa using f1)];by_cases f2:i+k=a.size
      ·rw[aL (by simpa using f2)];exact bf ⟨⟨_,rfl⟩,.inl ⟨_,_,rfl,m4.Fw f2⟩⟩
      rw[aJ (by simpa using f2)];have lb':=lb (by lia);have d1':i+k+1<a.size:=by lia
      have d3':x+2+y<=i+k+j:=by lia
      clear lb k2 k3;generalize o++a.extract i (i+k)=o1 at m4 ⊢;generalize i+k=i1 at m4 lb' d1' d3' ⊢;clear m3 d1 d3 k1 f1 f2;refine aW (dI (by omega) ?_);have m5:=m4.xK e.o (by lia) (by omega) lb';by_cases f3:j+1=b.size
      ·rw[aL (by simpa using f3)];exact bf ⟨⟨_,rfl⟩,.inl ⟨_,_,rfl,m5.Fx f3⟩⟩
      rw[aJ (by simpa using f3)];refine aW (dI (by lia) (aW (qH e (st:=cF st _) (b:=j+1) (n:=b.size-(j+1)) (t:=0) (hkg _) (ea i1 (by lia)) (by lia) (fun t ht=>eb _ (by lia)) (by lia) (mb _ _ _) ?_)));intro l l1 l2 l3;dsimp only;have m6:=m5.z7 (k:=l) e.o (by lia) (by lia) l2;have la:j+1+l<b.size->lt (key (el b (j+1+l))) (key (el a i1))=false:=fun z=>by
       have:=l3 l (bK _) (by lia);rwa[bvT] at this
      by_cases hl0:l>0
      ·rw[aL hl0];by_cases f4:j+1+l=b.size
       ·rw[aL (by simpa using f4)];exact bf ⟨⟨_,rfl⟩,.inl ⟨_,_,rfl,m6.Fx f4⟩⟩
       rw[aJ (by simpa using f4)];refine aW (dI (by lia) ?_);have m7:=m6.qF e.o (by lia) (by lia) (la (by lia));by_cases f5:i1+1+1=a.size
       ·rw[aL (by simpa using f5)];exact bf ⟨⟨_,rfl⟩,.inl ⟨_,_,rfl,m7.nif t f5⟩⟩
       rw[aJ (by simpa using f5)];split
       ·exact bf ⟨⟨_,rfl⟩,.inr ⟨_,_,_,_,_,_,rfl,m7,by lia,by lia,by lia⟩⟩
       ·exact bf ⟨⟨_,rfl⟩,_,_,_,_,_,_,rfl,m7,by lia,by lia,by lia⟩
      ·rw[aJ hl0];have:l=0:=by lia
       subst this;have la':=la (by lia);rw[Bt] at la';refine aW (dI (by lia) ?_);have m7:=m5.qF e.o (by lia) (by lia) la';by_cases f5:i1+1+1=a.size
       ·rw[aL (by simpa using f5)];exact bf ⟨⟨_,rfl⟩,.inl ⟨_,_,rfl,m7.nif t f5⟩⟩
       rw[aJ (by simpa using f5)];split
       ·exact bf ⟨⟨_,rfl⟩,.inr ⟨_,_,_,_,_,_,rfl,m7,by lia,by lia,by lia⟩⟩
       ·exact bf ⟨⟨_,rfl⟩,_,_,_,_,_,_,rfl,m7,by lia,by lia,by lia⟩
     ·rw[aJ hk0];have:k=0:=by lia
      subst this;have lb':=lb (by lia);rw[Bt] at lb';refine aW (dI (by omega) ?_);have m5:=m3.xK e.o (by lia) (by omega) lb';by_cases f3:j+1=b.size
      ·rw[aL (by simpa using f3)];exact bf ⟨⟨_,rfl⟩,.inl ⟨_,_,rfl,m5.Fx f3⟩⟩
      rw[aJ (by simpa using f3)];refine aW (dI (by lia) (aW (qH e (st:=cF st _) (b:=j+1) (n:=b.size-(j+1)) (t:=0) (hkg _) (ea i (by lia)) (by lia) (fun t ht=>eb _ (by lia)) (by lia) (mb _ _ _) ?_)));intro l l1 l2 l3;dsimp only;have m6:=m5.z7 (k:=l) e.o (by lia) (by lia) l2;have la:j+1+l<b.size->lt (key (el b (j+1+l))) (key (el a i))=false:=fun z=>by
       have:=l3 l (bK _) (by lia);rwa[bvT] at this
      by_cases hl0:l>0
      ·rw[aL hl0];by_cases f4:j+1+l=b.size
       ·rw[aL (by simpa using f4)];exact bf ⟨⟨_,rfl⟩,.inl ⟨_,_,rfl,m6.Fx f4⟩⟩
       rw[aJ (by simpa using f4)];refine aW (dI (by lia) ?_);have m7:=m6.qF e.o (by lia) (by lia) (la (by lia));by_cases f5:i+1+1=a.size
       ·rw[aL (by simpa using f5)];exact bf ⟨⟨_,rfl⟩,.inl ⟨_,_,rfl,m7.nif t f5⟩⟩
       rw[aJ (by simpa using f5)];split
       ·exact bf ⟨⟨_,rfl⟩,.inr ⟨_,_,_,_,_,_,rfl,m7,by lia,by lia,by lia⟩⟩
       ·exact bf ⟨⟨_,rfl⟩,_,_,_,_,_,_,rfl,m7,by lia,by lia,by lia⟩
      ·rw[aJ hl0];have:l=0:=by lia
       subst this;have la':=la (by lia);rw[Bt] at la';refine aW (dI (by lia) ?_);have m7:=m5.qF e.o (by lia) (by lia) la';by_cases f5:i+1+1=a.size
       ·rw[aL (by simpa using f5)];exact bf ⟨⟨_,rfl⟩,.inl ⟨_,_,rfl,m7.nif t f5⟩⟩
       rw[aJ (by simpa using f5)];split
       ·exact bf ⟨⟨_,rfl⟩,.inr ⟨_,_,_,_,_,_,rfl,m7,by lia,by lia,by lia⟩⟩
       ·exact bf ⟨⟨_,rfl⟩,_,_,_,_,_,_,rfl,m7,by lia,by lia,by lia⟩
end
end TS
end L2
namespace L2
open PySem PySem.Spec PyProof.Rows PySem.W
namespace TS
section
variable{α:Type}{lt:α->α->Bool}{M:Model}{A:Around}{E:Value->Shared->Prop}{s:Shared}{κ:SortKind}{key:Keyed->α}{a₀:Array Keyed}
section hi
variable{a b o:Array Keyed}{i j k p:Nat}
theorem m9(h1:1<=i)(h:i<=a.size):(a.toList.take i).reverse=el a (i-1)::(a.toList.take (i-1)).reverse:=by
 obtain⟨n,rfl⟩:∃ n,i=n+1:=⟨i-1,by lia⟩
 rw[Nat.add_sub_cancel,List.take_add_one,VF];have:=oF (xs:=a) (i:=n) (by lia);have e:a.toList[n]?=some (el a n):=by simpa using this
 rw[e];rfl
abbrev Ge(lt:α->α->Bool)(key:Keyed->α)(p q:Keyed):Prop:=Le lt key q p
abbrev Hi(lt:α->α->Bool)(key:Keyed->α)(a b o:Array Keyed)(i j:Nat):Prop:=Mg (Ge lt key) a.toList.reverse b.toList.reverse o.toList (a.toList.take i).reverse (b.toList.take j).reverse
theorem Hi.qF(od:jr lt)(m:Hi lt key a b o i j)(h1:1<=i)(hi:i<=a.size)(h2:1<=j)(hj:j<=b.size)(h:lt (key (el b (j-1))) (key (el a (i-1)))=true):Hi lt key a b (o.push (el a (i-1))) (i-1) j:=by
 unfold Hi at m ⊢;rw[m9 h1 hi] at m;rw[GP];refine m.tx fun q hq=>?_
 have sy:=m.sy;rw[m9 h2 hj] at hq sy;rcases cO.mp hq with rfl|z
 ·exact Le.of od h
 ·exact Le.trans od ((qK.mp sy).1 q z) (Le.of od h)
theorem Hi.xK(od:jr lt)(m:Hi lt key a b o i j)(h1:1<=i)(hi:i<=a.size)(h2:1<=j)(hj:j<=b.size)(h:lt (key (el b (j-1))) (key (el a (i-1)))=false):Hi lt key a b (o.push (el b (j-1))) i (j-1):=by
 unfold Hi at m ⊢;rw[m9 h2 hj] at m;rw[GP];refine m.ty fun q hq=>?_
 have sx:=m.sx;rw[m9 h1 hi] at hq sx;have h':Le lt key (el a (i-1)) (el b (j-1)):=h;rcases cO.mp hq with rfl|z
 ·exact h'
 ·exact Le.trans od ((qK.mp sx).1 q z) h'
theorem Oj(hp:p<=i):(a.toList.take i).reverse=((a.toList.drop p).take (i-p)).reverse++(a.toList.take p).reverse:=by
 rw[<- VF];congr 1;have:=List.take_add (l:=a.toList) (i:=p) (j:=i-p);rwa[show p+(i-p)=i by lia] at this
theorem NP(hp:p<=i):((a.extract p i).reverse).toList=((a.toList.drop p).take (i-p)).reverse:=by
 rw[Gy];congr 1;have:=jt (a:=a) (i:=p) (k:=i-p);rwa[show p+(i-p)=i by lia] at this
theorem Hi.Kc(od:jr lt)(m:Hi lt key a b o i j)(hp:p<=i)(hi:i<=a.size)(h2:1<=j)(hj:j<=b.size)(h:∀ t,p<=t->t<i->bv lt key false (el b (j-1)) (el a t)=false):Hi lt key a b (o++(a.extract p i).reverse) p j:=by
 unfold Hi at m ⊢;rw[jN,NP hp];rw[Oj hp] at m;refine m.cx _ fun u hu q hq=>?_
 have sy:=m.sy;rw[m9 h2 hj] at hq sy;obtain⟨t,ht,rfl⟩:=qZ (by lia) (GX.mp hu);have h1:=h (p+t) (by lia) (by lia);have h':Le lt key (el b (j-1)) (el a (p+t)):=by
  rw[bvF] at h1;cases hc:lt (key (el b (j-1))) (key (el a (p+t)))
  ·rw[hc] at h1;cases h1
  ·exact Le.of od hc
 rcases cO.mp hq with rfl|z
 ·exact h'
 ·exact Le.trans od ((qK.mp sy).1 q z) h'
theorem Hi.z7(od:jr lt)(m:Hi lt key a b o i j)(hp:p<=j)(hj:j<=b.size)(h1:1<=i)(hi:i<=a.size)(h:∀ t,p<=t->t<j->bv lt key true (el a (i-1)) (el b t)=false):Hi lt key a b (o++(b.extract p j).reverse) i p:=by
 unfold Hi at m ⊢;rw[jN,NP hp];rw[Oj hp] at m;refine m.cy _ fun u hu q hq=>?_
 have sx:=m.sx;rw[m9 h1 hi] at hq sx;obtain⟨t,ht,rfl⟩:=qZ (by lia) (GX.mp hu);have h':Le lt key (el a (i-1)) (el b (p+t)):=by
  have:=h (p+t) (by lia) (by lia);rwa[bvT] at this
 rcases cO.mp hq with rfl|z
 ·exact h'
 ·exact Le.trans od ((qK.mp sx).1 q z) h'
theorem FT{l:List Keyed}{r:Array Keyed}(e:r.toList=l.reverse)(h:l.Perm (a.toList.reverse++b.toList.reverse)/\l.Pairwise (Ge lt key)):Res lt key a b r:=by
 unfold Res;rw[e];refine⟨(Mx l).trans (h.1.trans ((Mx _).append (Mx _))),Mi.mpr h.2⟩
theorem Q5:(a.extract 0 i).toList=a.toList.take i:=by
 have:=jt (a:=a) (i:=0) (k:=i);rwa[tK,Hh] at this
theorem Hi.Fw(m:Hi lt key a b o i j)(hi:i=0):Res lt key a b (a.extract 0 i++b.extract 0 j++o.reverse):=by
 unfold Hi at m;have e:(a.toList.take i).reverse=[]:=by rw[hi];rfl
 rw[e] at m;refine FT ?_ m.a1G;rw[jN,jN,Q5,Q5,Gy,hi];simp
theorem Hi.Fx(m:Hi lt key a b o i j)(hj:j=0):Res lt key a b (a.extract 0 i++b.extract 0 j++o.reverse):=by
 unfold Hi at m;have e:(b.toList.take j).reverse=[]:=by rw[hj];rfl
 rw[e] at m;refine FT ?_ m.Zz;rw[jN,jN,Q5,Q5,Gy,hj];simp
theorem Hi.nif(od:jr lt)(t:Two lt key a₀ a b)(m:Hi lt key a b o i j)(hj:j=1):Res lt key a b (b.extract 0 j++a.extract 0 i++o.reverse):=by
 unfold Hi at m;have zb:=t.zb;have e:(b.toList.take j).reverse=[el b 0]:=by rw[hj,m9 (bK _) zb];simp
 rw[e] at m;have:=m.swap.last fun q hq=>show Le lt key (el b 0) q from by
  obtain⟨n,hn,rfl⟩:=Mj.mp (BK (GX.mp hq));have hn':n<a.size:=by simpa using hn
  have e1:=oF hn';rw[jd hn'] at e1;rw[Ml,iD e1];exact Le.trans od (Le.of od t.first) (wG t.sa od (jj _) hn')
 refine FT ?_ ⟨this.1.trans Mh,this.2⟩;rw[jN,jN,Q5,Q5,Gy];have e2:b.toList.take j=[el b 0]:=by
  have:=congrArg List.reverse e;simpa using this
 rw[e2];simp
end hi
theorem a1q(e:Env M A s κ key lt a₀){st:SortSt}(hk:kindOf st=κ){a b:Array Keyed}(t:Two lt key a₀ a b){Q:Array Keyed->SortSt->Prop}
  (h:∀ r g,Res lt key a b r->Q r (cF st g)):wpS M A E s (mhi a b) Q st:=by
 rw[a08];have ea:∀ i,i<a.size->el a i∈a₀.toList:=fun i hi=>t.ma _ (vK hi)
 have eb:∀ i,i<b.size->el b i∈a₀.toList:=fun i hi=>t.mb _ (vK hi)
 have ma:∀(l:Bool)(y:Keyed)(n:Nat),n<=a.size->∀ p q,p<=q->q<n->bv lt key l y (el a (0+q))=true->bv lt key l y (el a (0+p))=true:=fun l y n hn=>qP e.o fun p q h1 h2=>wG t.sa e.o (by lia) (by lia)
 have mb:∀(l:Bool)(y:Keyed)(n:Nat),n<=b.size->∀ p q,p<=q->q<n->bv lt key l y (el b (0+q))=true->bv lt key l y (el b (0+p))=true:=fun l y n hn=>qP e.o fun p q h1 h2=>wG t.sb e.o (by lia) (by lia)
 have za:=t.za;have zb:=t.zb;have hkg:∀ g,kindOf (cF st g)=κ:=fun _=>hk
 refine aW (tM (qI ⟨rfl,?_⟩));refine aW (dI (by omega) ?_);have m0:Hi lt key a b #[el a (a.size-1)] (a.size-1) b.size:=by
  have:Hi lt key a b #[] a.size b.size:=by
   refine⟨?_,List.Pairwise.nil,(fun p hp=>by cases hp),?_,?_⟩
   ·rw[Bx (by simp),Bx (by simp)];exact .refl _
   ·rw[Bx (by simp)];exact Mi.mpr t.sa
   ·rw[Bx (by simp)];exact Mi.mpr t.sb
  unfold Hi at this ⊢;rw[m9 za (bK _)] at this;refine this.tx fun q hq=>t.last q ?_
  exact BK (GX.mp hq)
 by_cases c1:a.size-1=0
 ·rw[aL (by simpa using c1)];exact bf (h _ (gallopOf st) (m0.Fw c1))
 rw[aJ (by simpa using c1)];by_cases c2:b.size=1
 ·rw[aL (by simpa using c2)];exact bf (h _ (gallopOf st) (m0.nif e.o t c2))
 rw[aJ (by simpa using c2)];refine aW (jK ?_);dsimp only;refine aW (jk (jh (I:=fun x c st'=>(∃ g',st'=cF st g')/\∃ o i j g,c=(none,i,j,o,g)/\Hi lt key a b o i j/\(1<=i/\i<=a.size/\2<=j/\j<=b.size)/\i+j+x+1<=a.size+b.size)
  (Q:=fun c st'=>(∃ g',st'=cF st g')/\∃ r z,c=(some r,z)/\Res lt key a b r) ?step ?fin ?init) ?post)
 case init=>exact⟨⟨gallopOf st,rfl⟩,_,_,_,_,rfl,m0,by lia,by lia⟩
 case fin=>
  rintro c st' ⟨_,o,i,j,g,rfl,_,b1,b3⟩;exfalso;lia
 case post=>
  rintro c st' ⟨⟨g',rfl⟩,r,z,rfl,hr⟩;exact bf (h r g' hr)
 case step=>
  rintro x c st' _ hx ⟨⟨g',rfl⟩,o,i,j,g,rfl,m1,b1,b3⟩;dsimp only;refine aW (jk (jh (I:=fun y c st'=>(∃ g',st'=cF st g')/\∃ o i j u v,c=(none,i,j,o,u,v)/\Hi lt key a b o i j/\(1<=i/\i<=a.size/\2<=j/\j<=b.size)/\i+j+x+1+y<=a.size+b.size)
   (Q:=fun c st'=>(∃ g',st'=cF st g')/\((∃ r z,c=(some r,z)/\Res lt key a b r)\/∃ o i j u v,c=(none,i,j,o,u,v)/\Hi lt key a b o i j/\(1<=i/\i<=a.size/\2<=j/\j<=b.size)/\i+j+x+2<=a.size+b.size)) ?s1 ?f1 ?i1) ?p1)
  case i1=>exact⟨⟨g',rfl⟩,o,i,j,0,0,rfl,m1,b1,by omega⟩
  case f1=>
   rintro c st' ⟨_,o,i,j,u,v,rfl,_,b1,b3⟩;exfalso;lia
  case s1=>
   rintro y c st' _ hy ⟨⟨g',rfl⟩,o,i,j,u,v,rfl,m2,d1,d3⟩;dsimp only;refine aW (dI (by lia) (aW (dI (by lia) (aW (JN e (st:=cF st g') (eb (j-1) (by lia)) (ea (i-1) (by lia)) hk ?_)))));dsimp only;by_cases hb:lt (key (el b (j-1))) (key (el a (i-1)))=true
   ·rw[aL hb];refine aW (dI (by lia) ?_);have m3:=m2.qF e.o (by lia) (by lia) (by lia) (by lia) hb;by_cases f1:i-1=0
    ·rw[aL (by simpa using f1)];exact bf ⟨⟨g',rfl⟩,.inl ⟨_,_,rfl,m3.Fw f1⟩⟩
    ·rw[aJ (by simpa using f1)];by_cases f2:u+1>=g
     ·rw[aL f2];exact bf ⟨⟨g',rfl⟩,.inr ⟨_,_,_,_,_,rfl,m3,by lia,by lia⟩⟩
     ·rw[aJ f2];exact bf ⟨⟨g',rfl⟩,_,_,_,_,_,rfl,m3,by lia,by lia⟩
   ·rw[aJ hb];refine aW (dI (by lia) ?_);have m3:=m2.xK e.o (by lia) (by lia) (by lia) (by lia) (BZ hb);by_cases f1:j-1=1
    ·rw[aL (by simpa using f1)];exact bf ⟨⟨g',rfl⟩,.inl ⟨_,_,rfl,m3.nif e.o t f1⟩⟩
    ·rw[aJ (by simpa using f1)];by_cases f2:v+1>=g
     ·rw[aL f2];exact bf ⟨⟨g',rfl⟩,.inr ⟨_,_,_,_,_,rfl,m3,by lia,by lia⟩⟩
     ·rw[aJ f2];exact bf ⟨⟨g',rfl⟩,_,_,_,_,_,rfl,m3,by lia,by lia⟩
  case p1=>
   rintro c st' ⟨⟨g',rfl⟩,⟨r,z,rfl,hr⟩|⟨o,i,j,u,v,rfl,m2,d1,d3⟩⟩
   ·exact bf ⟨⟨g',rfl⟩,r,_,rfl,hr⟩
   dsimp only;refine aW (tM (qI ⟨rfl,?_⟩));refine aW (jk (jh (I:=fun y c st'=>(∃ g',st'=cF st g')/\∃ o i j g u v,c=(none,i,j,o,g,u,v)/\Hi lt key a b o i j/\(1<=i/\i<=a.size/\2<=j/\j<=b.size)/\i+j+x+2+y<=a.size+b.size)
    (Q:=fun c st'=>(∃ g',st'=cF st g')/\((∃ r z,c=(some r,z)/\Res lt key a b r)\/∃ o i j g u v,c=(none,i,j,o,g,u,v)/\Hi lt key a b o i j/\(1<=i/\i<=a.size/\2<=j/\j<=b.size)/\i+j+x+2<=a.size+b.size)) ?s2 ?f2 ?i2) ?p2)
   case i2=>exact⟨⟨g',rfl⟩,o,i,j,_,u,v,rfl,m2,d1,by omega⟩
   case f2=>
    rintro c st' ⟨_,o,i,j,g,u,v,rfl,_,b1,b3⟩;exfalso;lia
   case p2=>
    rintro c st' ⟨⟨g',rfl⟩,⟨r,z,rfl,hr⟩|⟨o,i,j,g,u,v,rfl,m2,d1,d3⟩⟩
    ·exact bf ⟨⟨g',rfl⟩,r,_,rfl,hr⟩
    ·exact aW (nR (bf ⟨⟨_,rfl⟩,o,i,j,_,rfl,m2,d1,by omega⟩))
   case s2=>
    rintro y c st' _ hy ⟨⟨g',rfl⟩,o,i,j,g,u,v,rfl,m3,d1,d3⟩;dsimp only;by_cases hg:g>1
    all_goals first|rw[aL hg]|rw[aJ hg]
    all_goals
     refine aW (nR (aW (dI (by lia) (aW (qH e (st:=cF st _) (b:=0) (n:=i) (t:=i-1) (hkg _) (eb (j-1) (by lia)) (by lia) (fun t ht=>ea _ (by lia)) (by lia) (ma _ _ _ (by lia)) ?_)))));intro k k1 k2 k3;dsimp only;have m4:=m3.Kc (p:=k) e.o k1 (by lia) (by lia) (by lia) (fun t t1 t2=>by have:=k3 t t1 t2;rwa[tK] at this);have lb:1<=k->lt (key (el b (j-1))) (key (el a (k-1)))=false:=fun z=>by
      have:=k2 (k-1) (by lia);rw[bvF,tK] at this;cases hc:lt (key (el b (j-1))) (key (el a (k-1)))
      ·rfl
      ·rw[hc] at this;cases this
     by_cases hk0:i-k>0
     ·rw[aL hk0];by_cases f1:k=0
      ·rw[aL (by simpa using f1)];exact bf ⟨⟨_,rfl⟩,.inl ⟨_,_,rfl,m4.Fw f1⟩⟩
      rw[aJ (by simpa using f1)];have lb':=lb (by lia);generalize o++(a.extract k i).reverse=o1 at m4 ⊢;refine aW (dI (by lia) ?_);have m5:=m4.xK e.o (by lia) (by lia) (by lia) (by lia) lb';by_cases f3:j-1=1
      ·rw[aL (by simpa using f3)];exact bf ⟨⟨_,rfl⟩,.inl ⟨_,_,rfl,m5.nif e.o t f3⟩⟩
      rw[aJ (by simpa using f3)];refine aW (dI (by lia) (aW (qH e (st:=cF st _) (b:=0) (n:=j-1) (t:=j-1-1) (hkg _) (ea (k-1) (by lia)) (by lia) (fun t ht=>eb _ (by lia)) (by lia) (mb _ _ _ (by lia)) ?_)));intro l l1 l2 l3;dsimp only;have m6:=m5.z7 (p:=l) e.o (by omega) (by lia) (by lia) (by lia) (fun t t1 t2=>by have:=l3 t t1 t2;rwa[tK] at this);have la:1<=l->lt (key (el b (l-1))) (key (el a (k-1)))=true:=fun z=>by
       have:=l2 (l-1) (by lia);rw[bvT,tK] at this;exact this
      by_cases hl0:j-1-l>0
      ·rw[aL hl0];by_cases f4:l=1
       ·rw[aL (by simpa using f4)];exact bf ⟨⟨_,rfl⟩,.inl ⟨_,_,rfl,m6.nif e.o t f4⟩⟩
       rw[aJ (by simpa using f4)];by_cases f7:l=0
       ·rw[aL (by simpa using f7)];exact bf ⟨⟨_,rfl⟩,.inl ⟨_,_,rfl,m6.Fx f7⟩⟩
       rw[aJ (by simpa using f7)];refine aW (dI (by lia) ?_);have m7:=m6.qF e.o (by lia) (by lia) (by lia) (by lia) (la (by lia));by_cases f5:k-1=0
       ·rw[aL (by simpa using f5)];exact bf ⟨⟨_,rfl⟩,.inl ⟨_,_,rfl,m7.Fw f5⟩⟩
       rw[aJ (by simpa using f5)];split
       ·exact bf ⟨⟨_,rfl⟩,.inr ⟨_,_,_,_,_,_,rfl,m7,by lia,by lia⟩⟩
       ·exact bf ⟨⟨_,rfl⟩,_,_,_,_,_,_,rfl,m7,by lia,by lia⟩
      ·rw[aJ hl0];have:l=j-1:=by lia
       subst this;have la':=la (by lia);refine aW (dI (by lia) ?_);have m7:=m5.qF e.o (by lia) (by lia) (by lia) (by lia) la';by_cases f5:k-1=0
       ·rw[aL (by simpa using f5)];exact bf ⟨⟨_,rfl⟩,.inl ⟨_,_,rfl,m7.Fw f5⟩⟩
       rw[aJ (by simpa using f5)];split
       ·exact bf ⟨⟨_,rfl⟩,.inr ⟨_,_,_,_,_,_,rfl,m7,by lia,by lia⟩⟩
       ·exact bf ⟨⟨_,rfl⟩,_,_,_,_,_,_,rfl,m7,by lia,by lia⟩
     ·rw[aJ hk0];have:k=i:=by lia
      subst this;have lb':=lb (by lia);refine aW (dI (by lia) ?_);have m5:=m3.xK e.o (by lia) (by lia) (by lia) (by lia) lb';by_cases f3:j-1=1
      ·rw[aL (by simpa using f3)];exact bf ⟨⟨_,rfl⟩,.inl ⟨_,_,rfl,m5.nif e.o t f3⟩⟩
      rw[aJ (by simpa using f3)];refine aW (dI (by lia) (aW (qH e (st:=cF st _) (b:=0) (n:=j-1) (t:=j-1-1) (hkg _) (ea (k-1) (by lia)) (by lia) (fun t ht=>eb _ (by lia)) (by lia) (mb _ _ _ (by lia)) ?_)));intro l l1 l2 l3;dsimp only;have m6:=m5.z7 (p:=l) e.o (by omega) (by lia) (by lia) (by lia) (fun t t1 t2=>by have:=l3 t t1 t2;rwa[tK] at this);have la:1<=l->lt (key (el b (l-1))) (key (el a (k-1)))=true:=fun z=>by
       have:=l2 (l-1) (by lia);rw[bvT,tK] at this;exact this
      by_cases hl0:j-1-l>0
      ·rw[aL hl0];by_cases f4:l=1
       ·rw[aL (by simpa using f4)];exact bf ⟨⟨_,rfl⟩,.inl ⟨_,_,rfl,m6.nif e.o t f4⟩⟩
       rw[aJ (by simpa using f4)];by_cases f7:l=0
       ·rw[aL (by simpa using f7)];exact bf ⟨⟨_,rfl⟩,.inl ⟨_,_,rfl,m6.Fx f7⟩⟩
       rw[aJ (by simpa using f7)];refine aW (dI (by lia) ?_);have m7:=m6.qF e.o (by lia) (by lia) (by lia) (by lia) (la (by lia));by_cases f5:k-1=0
       ·rw[aL (by simpa using f5)];exact bf ⟨⟨_,rfl⟩,.inl ⟨_,_,rfl,m7.Fw f5⟩⟩
       rw[aJ (by simpa using f5)];split
       ·exact bf ⟨⟨_,rfl⟩,.inr ⟨_,_,_,_,_,_,rfl,m7,by lia,by lia⟩⟩
       ·exact bf ⟨⟨_,rfl⟩,_,_,_,_,_,_,rfl,m7,by lia,by lia⟩
      ·rw[aJ hl0];have:l=j-1:=by lia
       subst this;have la':=la (by lia);refine aW (dI (by lia) ?_);have m7:=m5.qF e.o (by lia) (by lia) (by lia) (by lia) la';by_cases f5:k-1=0
       ·rw[aL (by simpa using f5)];exact bf ⟨⟨_,rfl⟩,.inl ⟨_,_,rfl,m7.Fw f5⟩⟩
       rw[aJ (by simpa using f5)];split
       ·exact bf ⟨⟨_,rfl⟩,.inr ⟨_,_,_,_,_,_,rfl,m7,by lia,by lia⟩⟩
       ·exact bf ⟨⟨_,rfl⟩,_,_,_,_,_,_,rfl,m7,by lia,by lia⟩
end
end TS
end L2
namespace L2
open PySem PySem.Spec PyProof.Rows PySem.W
namespace TS
theorem Kz(i:Nat):mergeAt' i=(do
 let c <- get
 let (some (p,n,w),some (q,m,_)):=((pendingOf c)[i]?,(pendingOf c)[i+1]?)|unsupported "internal:list.sort.pending"
 set (setPending c (((pendingOf c).setIfInBounds i (p,n+m,w)).eraseIdxIfInBounds (i+1)))
 let some k <- gal false (<- elem' (arrOf c) q) (arrOf c) p n 0|return false
 let (p,n):=(p+k,n-k)
 if n==0 then return true
 let some m <- gal true (<- elem' (arrOf c) (p+n-1)) (arrOf c) q m (m-1)|return false
 if m==0 then return true
 let x:=(arrOf c).extract p q
 let y:=(arrOf c).extract q (q+m)
 let r <- if n<=m then mlo x y else mhi x y
 modify fun c=>setArr c (r.toList.zipIdx.foldl (fun a (v,j)=>a.setIfInBounds (p+j) v) (arrOf c))
 return (failedOf (<- get)).isNone):=rfl
theorem bM{β:Type}(p:Nat):∀(l:List β)(n:Nat)(xs:Array β),p+n+l.length<=xs.size ->
  ((l.zipIdx n).foldl (fun a (x:β×Nat)=>a.setIfInBounds (p+x.2) x.1) xs).toList=xs.toList.take (p+n)++l++xs.toList.drop (p+n+l.length)
 |[],n,xs,h=>by simp
 |v::l,n,xs,h=>by
  rw[List.zipIdx_cons,N5];have hl:p+n+(l.length+1)<=xs.size:=h;rw[bM p l (n+1) _ (by rw[Array.size_setIfInBounds];lia)];dsimp only;rw[Ve];have e1:(xs.toList.set (p+n) v).take (p+(n+1))=xs.toList.take (p+n)++[v]:=by
   rw[<- Nat.add_assoc,List.take_add_one,List.take_set_of_le (bK _),M8 (by simp;lia)];rfl
  have e2:(xs.toList.set (p+n) v).drop (p+(n+1)+l.length)=xs.toList.drop (p+n+(v::l).length):=by
   rw[List.drop_set_of_lt (by lia)];congr 1;simp;lia
  rw[e1,e2];simp
def over(xs:Array Keyed)(p:Nat)(r:Array Keyed):Array Keyed:=r.toList.zipIdx.foldl (fun a (x:Keyed×Nat)=>a.setIfInBounds (p+x.2) x.1) xs
theorem xG{xs r:Array Keyed}{p:Nat}(h:p+r.size<=xs.size):(over xs p r).toList=xs.toList.take p++r.toList++xs.toList.drop (p+r.size):=by
 have:=bM p r.toList 0 xs (by simpa using h);simpa [over] using this
theorem yr{xs:Array Keyed}{i:Nat}:el xs i=xs.toList.getD i (Value.none,Value.none):=by
 unfold el;rw[mq,fX,Ej]
theorem Fq{xs r:Array Keyed}{p k:Nat}(h:p+r.size<=xs.size):el (over xs p r) k=if p<=k/\k<p+r.size then el r (k-p) else el xs k:=by
 rw[yr,xG h,yr,yr];simp only[fX];have lt1:(xs.toList.take p).length=p:=by simp;lia
 by_cases h1:k<p
 ·rw[aJ (by lia),xR,Ei (by lia),Vi h1]
 ·by_cases h2:k<p+r.size
  ·rw[aL (by lia),xR,Bw (by lia),lt1,Ei (by simp;lia)]
  ·rw[aJ (by lia),Bw (by simp;lia)];congr 1;rw[cM,lt1,List.getElem?_drop,jf];congr 1;lia
theorem QF{xs r:Array Keyed}{p:Nat}(h:p+r.size<=xs.size)(hr:r.toList.Perm ((xs.toList.drop p).take r.size)):(over xs p r).Perm xs:=by
 rw[Array.perm_iff_toList_perm,xG h];have e:xs.toList=xs.toList.take p++(xs.toList.drop p).take r.size++xs.toList.drop (p+r.size):=by
  rw[<- Hj,xR,BJ,BJ]
 conv=>rhs;rw[e]
 exact((hr.append_left _).append_right _)
theorem Rx{xs:Array Keyed}{i j t:Nat}(hj:j<=xs.size)(ht:t<j-i):el (xs.extract i j) t=el xs (i+t):=by
 refine ni ?_;rw[Array.getElem?_extract,aL (by lia)]
section
variable{α:Type}{lt:α->α->Bool}{M:Model}{A:Around}{E:Value->Shared->Prop}{s:Shared}{κ:SortKind}{key:Keyed->α}{a₀:Array Keyed}
theorem pw_of{a:Array Keyed}(h:∀ i j,i<j->j<a.size->Le lt key (el a i) (el a j)):a.toList.Pairwise (Le lt key):=by
 rw[rP];intro i j hi hj hij;have hj':j<a.size:=by simpa using hj
 have e1:=oF (xs:=a) (i:=i) (by omega);have e2:=oF hj';rw[jd (by omega)] at e1 e2;rw[Ml,Ml,iD e1,iD e2];exact h i j hij hj'
theorem a1s{zzs:Type}{x:zzs}{Q:PUnit->zzs->Prop}{st:zzs}(h:Q ⟨⟩ x):wpS M A E s (set x:StateT zzs Sem PUnit) Q st:=by
 unfold wpS;rw[StateT.run_set];exact cQ ⟨rfl,h⟩
theorem a2L(e:Env M A s κ key lt a₀){st:SortSt}(hk:kindOf st=κ)(hf:failedOf st=none)(hp:(arrOf st).Perm a₀){i p n w q m w':Nat}{L1 L2:List (Nat×Nat×Nat)}
  (hL:(pendingOf st).toList=L1++(p,n,w)::(q,m,w')::L2) (hi:L1.length=i) (hq:q=p+n) (hn:1<=n) (hm:1<=m) (hz:q+m<=a₀.size) (s1:Srt lt key (arrOf st) p (p+n)) (s2:Srt lt key (arrOf st) q (q+m)) {Q:Bool->SortSt->Prop}
  (h:∀ xs g,xs.Perm a₀->(∀ k,k<p\/q+m<=k->el xs k=el (arrOf st) k)->Srt lt key xs p (q+m)->Q true (SortSt.mk' (kindOf st) xs (L1++(p,n+m,w)::L2).toArray g (failedOf st))):wpS M A E s (mergeAt' i) Q st:=by
 rw[Kz];have sz:(arrOf st).size=a₀.size:=hp.size_eq;have g1:(pendingOf st)[i]?=some (p,n,w):=by
  rw[<- Ej,hL,Bw (by lia),hi,Nat.sub_self];rfl
 have g2:(pendingOf st)[i+1]?=some (q,m,w'):=by
  rw[<- Ej,hL,Bw (by lia),hi,show i+1-i=1 by lia];rfl
 refine aW (jK ?_);rw[g1,g2];have ep:((pendingOf st).setIfInBounds i (p,n+m,w)).eraseIdxIfInBounds (i+1)=(L1++(p,n+m,w)::L2).toArray:=by
  apply MK.mp;rw[Array.toList_eraseIdxIfInBounds,Ve,hL];rw[List.set_append_right _ _ (by lia),hi,Nat.sub_self,List.eraseIdx_append_of_length_le (by lia),hi,show i+1-i=1 by lia];rfl
 refine aW (a1s ?_);rw[ep];have hkp:∀ P,kindOf (setPending st P)=κ:=fun _=>hk
 have ea:∀ t,t<a₀.size->el (arrOf st) t∈a₀.toList:=fun t ht=>zO hp ht
 refine aW (dI (by lia) (aW (qH e (st:=setPending st _) (b:=p) (n:=n) (t:=0) (hkp _) (ea q (by lia)) (by lia) (fun t ht=>ea _ (by lia)) (by lia) (qP e.o fun u v h1 h2=>s1 _ _ (by lia) (by lia) (by lia)) ?_)));intro k k1 k2 k3;dsimp only;have cut:∀ t,p<=t->t<p+k->Le lt key (el (arrOf st) t) (el (arrOf st) q):=fun t t1 t2=>by
  have:=k2 (t-p) (by lia);rw[bvF,show p+(t-p)=t by lia] at this;unfold Le;cases hc:lt (key (el (arrOf st) q)) (key (el (arrOf st) t))
  ·rfl
  ·rw[hc] at this;cases this
 by_cases c1:n-k=0
 ·rw[aL (by simpa using c1)];refine bf (h (arrOf st) (gallopOf st) hp (fun _ _=>rfl) fun u v h1 h2 h3=>?_);by_cases hv:v<p+n
  ·exact s1 u v h1 h2 hv
  ·by_cases hu:u<q
   ·exact Le.trans e.o (cut u h1 (by lia)) (s2 q v (bK _) (by lia) h3)
   ·exact s2 u v (by lia) h2 h3
 rw[aJ (by simpa using c1)];have el1:p+k+(n-k)-1=q-1:=by lia
 rw[el1];refine aW (dI (by omega) (aW (qH e (st:=setPending st _) (b:=q) (n:=m) (t:=m-1) (hkp _) (ea (q-1) (by omega)) (by lia) (fun t ht=>ea _ (by lia)) (by lia) (qP e.o fun u v h1 h2=>s2 _ _ (by lia) (by lia) (by lia)) ?_)));intro l l1 l2 l3;dsimp only;have a1A:∀ t,q+l<=t->t<q+m->Le lt key (el (arrOf st) (q-1)) (el (arrOf st) t):=fun t t1 t2=>by
  have:=l3 (t-q) (by lia) (by lia);rw[bvT,show q+(t-q)=t by lia] at this;exact this
 by_cases c2:l=0
 ·rw[aL (by simpa using c2)];refine bf (h (arrOf st) (gallopOf st) hp (fun _ _=>rfl) fun u v h1 h2 h3=>?_);by_cases hv:v<p+n
  ·exact s1 u v h1 h2 hv
  ·by_cases hu:u<q
   ·exact Le.trans e.o (s1 u (q-1) h1 (by omega) (by omega)) (a1A v (by lia) h3)
   ·exact s2 u v (by lia) h2 h3
 rw[aJ (by simpa using c2)];have za:((arrOf st).extract (p+k) q).size=n-k:=by rw[VN];lia
 have zb:((arrOf st).extract q (q+l)).size=l:=by rw[VN];lia
 have ela:∀ t,t<n-k->el ((arrOf st).extract (p+k) q) t=el (arrOf st) (p+k+t):=fun t ht=>Rx (by lia) (by lia)
 have elb:∀ t,t<l->el ((arrOf st).extract q (q+l)) t=el (arrOf st) (q+t):=fun t ht=>Rx (by lia) (by lia)
 have ina:∀ x∈((arrOf st).extract (p+k) q).toList,∃ t,t<n-k/\x=el (arrOf st) (p+k+t):=fun x hx=>by
  have e1:=jt (a:=arrOf st) (i:=p+k) (k:=n-k);rw[show p+k+(n-k)=q by lia] at e1;rw[e1] at hx;exact qZ (by omega) hx
 have inb:∀ x∈((arrOf st).extract q (q+l)).toList,∃ t,t<l/\x=el (arrOf st) (q+t):=fun x hx=>by
  rw[jt] at hx;exact qZ (by lia) hx
 have two:Two lt key a₀ ((arrOf st).extract (p+k) q) ((arrOf st).extract q (q+l)):=by
  refine⟨fun x hx=>?_,fun x hx=>?_,pw_of fun u v h1 h2=>?_,pw_of fun u v h1 h2=>?_,by lia,by lia,?_,fun y hy=>?_⟩
  ·obtain⟨t,ht,rfl⟩:=ina x hx;exact ea _ (by lia)
  ·obtain⟨t,ht,rfl⟩:=inb x hx;exact ea _ (by lia)
  ·rw[ela u (by lia),ela v (by lia)];exact s1 _ _ (by lia) (by lia) (by omega)
  ·rw[elb u (by lia),elb v (by lia)];exact s2 _ _ (by lia) (by lia) (by lia)
  ·rw[ela 0 (by lia),elb 0 (by lia)];have:=k3 k (bK _) (by lia);rw[bvF] at this;rw[Bt,Bt];cases hc:lt (key (el (arrOf st) q)) (key (el (arrOf st) (p+k)))
   ·rw[hc] at this;cases this
   ·rfl
  ·obtain⟨t,ht,rfl⟩:=inb y hy;rw[za,ela _ (by lia),show p+k+(n-k-1)=q-1 by lia];have:=l2 t (by omega);rw[bvT] at this;exact Le.of e.o this
 have done:∀ r g,Res lt key ((arrOf st).extract (p+k) q) ((arrOf st).extract q (q+l)) r->wpS M A E s (do modify fun c=>setArr c (r.toList.zipIdx.foldl (fun a (v,j)=>a.setIfInBounds (p+k+j) v) (arrOf c));return (failedOf (<- get)).isNone) Q (cF (setPending st (L1++(p,n+m,w)::L2).toArray) g):=fun r g hr=>by
  refine aW (nR (aW (jK ?_)));have e0:(failedOf (setArr (cF (setPending st (L1++(p,n+m,w)::L2).toArray) g) (over (arrOf st) (p+k) r))).isNone=true:=by
   show(failedOf st).isNone=true;rw[hf];rfl
  change wpS M A E s (pure (failedOf (setArr (cF (setPending st (L1++(p,n+m,w)::L2).toArray) g) (over (arrOf st) (p+k) r))).isNone) Q (setArr (cF (setPending st (L1++(p,n+m,w)::L2).toArray) g) (over (arrOf st) (p+k) r));rw[e0];have rs:r.size=n-k+l:=by
   have:=hr.1.length_eq;rw[cM,jf,jf,jf,za,zb] at this;exact this
  have hb:p+k+r.size<=(arrOf st).size:=by lia
  have pm:(over (arrOf st) (p+k) r).Perm a₀:=by
   refine(QF hb (hr.1.trans ?_)).trans hp;have e1:=jt (a:=arrOf st) (i:=p+k) (k:=n-k);rw[show p+k+(n-k)=q by lia] at e1;rw[e1,jt,rs,List.take_add,Hj,show p+k+(n-k)=q by lia]
  have mid:∀ t,t<r.size->(∃ t',p+k<=t'/\t'<q/\el r t=el (arrOf st) t')\/(∃ t',q<=t'/\t'<q+l/\el r t=el (arrOf st) t'):=fun t ht=>by
   rcases cI.mp (hr.1.mem_iff.mp (vK ht)) with z|z
   ·obtain⟨u,hu,eu⟩:=ina _ z;exact .inl ⟨p+k+u,by lia,by lia,eu⟩
   ·obtain⟨u,hu,eu⟩:=inb _ z;exact .inr ⟨q+u,by lia,by lia,eu⟩
  refine bf (h (over (arrOf st) (p+k) r) g pm (fun t ht=>?_) fun u v h1 h2 h3=>?_)
  ·rw[Fq hb,aJ (by lia)]
  ·show Le lt key (el (over (arrOf st) (p+k) r) u) (el (over (arrOf st) (p+k) r) v);rw[Fq hb,Fq hb];by_cases hu:u<p+k
   ·rw[aJ (by lia)];by_cases hv:p+k<=v/\v<p+k+r.size
    ·rw[aL hv];rcases mid (v-(p+k)) (by lia) with⟨t',a1,a2,a3⟩|⟨t',a1,a2,a3⟩
     ·rw[a3];exact s1 _ _ h1 (by lia) (by lia)
     ·rw[a3];exact Le.trans e.o (cut u h1 hu) (s2 _ _ (bK _) a1 (by lia))
    ·rw[aJ hv];by_cases hv2:v<p+k
     ·exact s1 _ _ h1 h2 (by lia)
     ·exact Le.trans e.o (cut u h1 hu) (s2 _ _ (bK _) (by lia) h3)
   ·by_cases hu2:u<p+k+r.size
    ·rw[aL (by lia)];by_cases hv:p+k<=v/\v<p+k+r.size
     ·rw[aL hv];exact wG hr.2 e.o (by lia) (by lia)
     ·rw[aJ hv];rcases mid (u-(p+k)) (by lia) with⟨t',a1,a2,a3⟩|⟨t',a1,a2,a3⟩
      ·rw[a3];exact Le.trans e.o (s1 t' (q-1) (by lia) (by lia) (by lia)) (a1A v (by lia) h3)
      ·rw[a3];exact s2 _ _ a1 (by lia) h3
    ·rw[aJ (by lia),aJ (by lia)];exact s2 _ _ (by lia) h2 h3
 by_cases c3:n-k<=l
 ·rw[aL c3];exact aW (a1r e (st:=setPending st _) (hkp _) two fun r g hr=>done r g hr)
 ·rw[aJ c3];exact aW (a1q e (st:=setPending st _) (hkp _) two fun r g hr=>done r g hr)
end
end TS
end L2
namespace L2
open PySem PySem.Spec PyProof.Rows PySem.W
namespace TS
section
variable{α:Type}{lt:α->α->Bool}{M:Model}{A:Around}{E:Value->Shared->Prop}{s:Shared}{κ:SortKind}{key:Keyed->α}{a₀:Array Keyed}
def Runs(lt:α->α->Bool)(key:Keyed->α)(xs:Array Keyed):Nat->List (Nat×Nat×Nat)->Nat->Prop
 |a,[],b=>a=b
 |a,r::l,b=>r.1=a/\1<=r.2.1/\Srt lt key xs a (a+r.2.1)/\Runs lt key xs (a+r.2.1) l b
theorem Runs.le{xs:Array Keyed}:∀ {l:List (Nat×Nat×Nat)} {a b:Nat},Runs lt key xs a l b->a+l.length<=b
 |[],a,b,h=>by cases h;simp
 |r::l,a,b,h=>by
  have:=Runs.le h.2.2.2;have:=h.2.1;simp;lia
theorem Runs.congr{xs ys:Array Keyed}:∀ {l:List (Nat×Nat×Nat)} {a b:Nat},Runs lt key xs a l b->(∀ k,a<=k->k<b->el ys k=el xs k)->Runs lt key ys a l b
 |[],a,b,h,_=>h
 |r::l,a,b,h,e=>by
  have hl:=h.2.2.2.le;refine⟨h.1,h.2.1,fun p q h1 h2 h3=>?_,Runs.congr h.2.2.2 fun k h1 h2=>e k (by lia) h2⟩;rw[e p (by omega) (by lia),e q (by lia) (by lia)];exact h.2.2.1 p q h1 h2 h3
theorem Runs.app{xs:Array Keyed}:∀ {l l':List (Nat×Nat×Nat)} {a b:Nat},Runs lt key xs a (l++l') b↔∃ c,Runs lt key xs a l c/\Runs lt key xs c l' b
 |[],l',a,b=>⟨fun h=>⟨a,rfl,h⟩,fun⟨c,h1,h2⟩=>by cases h1;exact h2⟩
 |r::l,l',a,b=>by
  constructor
  ·intro h;obtain⟨c,h1,h2⟩:=Runs.app.mp h.2.2.2;exact⟨c,⟨h.1,h.2.1,h.2.2.1,h1⟩,h2⟩
  ·rintro⟨c,⟨h1,h2,h3,h4⟩,h5⟩;exact⟨h1,h2,h3,Runs.app.mpr ⟨c,h4,h5⟩⟩
abbrev mkS(st:SortSt)(xs:Array Keyed)(L:List (Nat×Nat×Nat))(g:Nat):SortSt:=SortSt.mk' (kindOf st) xs L.toArray g (failedOf st)
theorem LR(e:Env M A s κ key lt a₀){st:SortSt}(hk:kindOf st=κ)(hf:failedOf st=none){xs:Array Keyed}(hp:xs.Perm a₀){L:List (Nat×Nat×Nat)}{g i lo:Nat}(hi:i+1<L.length)(hR:Runs lt key xs 0 L lo)(hz:lo<=a₀.size){Q:Bool->SortSt->Prop}
  (h:∀ xs' L' g',xs'.Perm a₀->Runs lt key xs' 0 L' lo->L'.length+1=L.length->(∀ k,lo<=k->el xs' k=el xs k)->Q true (mkS st xs' L' g')):wpS M A E s (mergeAt' i) Q (mkS st xs L g):=by
 have e0:L=L.take i++(L[i]::L[i+1]::L.drop (i+2)):=by
  rw[<- xO,<- xO,BJ]
 generalize hx:L[i]=x at e0;generalize hy:L[i+1]=y at e0;generalize h1:L.take i=L1 at e0;generalize h2:L.drop (i+2)=L2 at e0;obtain⟨p,n,w⟩:=x;obtain⟨q,m,w'⟩:=y;have hl1:L1.length=i:=by rw[<- h1,lQ];lia
 rw[e0] at hR;obtain⟨c,r1,r2⟩:=Runs.app.mp hR;obtain⟨a1,a2,a3,b1,b2,b3,b4⟩:=r2;dsimp only at a1 a2 a3 b1 b2 b3 b4;subst a1;subst b1;have le1:=r1.le;have le2:=b4.le;refine a2L e (st:=mkS st xs L g) (L1:=L1) (L2:=L2) (p:=p) (n:=n) (w:=w) (q:=p+n) (m:=m) (w':=w') hk hf hp (by show L.toArray.toList=_;rw[List.toList_toArray];exact e0) hl1 rfl a2 b2 (by lia) a3 b3 ?_;intro ys g' hy1 hy2 hy3;have ZL:∀ k,k<p\/p+n+m<=k->el ys k=el xs k:=hy2;refine h ys _ g' hy1 (Runs.app.mpr ⟨p,r1.congr fun k _ hk=>ZL k (.inl hk),rfl,(show 1<=n+m by lia),?_,?_⟩) ?_ fun k hk=>ZL k (.inr (by lia))
 ·have:p+(n+m)=p+n+m:=by lia
  show Srt lt key ys p (p+(n+m));rw[this];exact hy3
 ·show Runs lt key ys (p+(n+m)) L2 lo;have:p+(n+m)=p+n+m:=by lia
  rw[this];exact b4.congr fun k hk _=>ZL k (.inr hk)
 ·rw[e0];simp;lia
theorem Runs.modify{xs:Array Keyed}{f:Nat×Nat×Nat->Nat×Nat×Nat}(h1:∀ x,(f x).1=x.1)(h2:∀ x,(f x).2.1=x.2.1):∀ {l:List (Nat×Nat×Nat)} {k a b:Nat},Runs lt key xs a l b->Runs lt key xs a (l.modify k f) b
 |[],k,a,b,h=>by simpa using h
 |r::l,0,a,b,h=>by
  rw[List.modify_zero_cons];unfold Runs at h ⊢;rw[h1,h2];exact h
 |r::l,k+1,a,b,h=>by
  rw[List.modify_succ_cons];exact⟨h.1,h.2.1,h.2.2.1,Runs.modify h1 h2 h.2.2.2⟩
theorem Yy(e:Env M A s κ key lt a₀){st:SortSt}(hk:kindOf st=κ)(hf:failedOf st=none)(ha:arrOf st=a₀)(hP:pendingOf st=#[]){Q:Unit->SortSt->Prop}
  (h:∀ st',(arrOf st').Perm a₀->failedOf st'=none->Srt lt key (arrOf st') 0 a₀.size->Q () st'):wpS M A E s sortRuns' Q st:=by
 rw[sortRuns'_eq];refine aW (jK ?_);rw[ha];dsimp only;generalize minRun' a₀.size a₀.size 0=mr;refine aW (jk (jh (I:=fun x c st'=>∃ xs L g lo,st'=mkS st xs L g/\c=(none,lo)/\xs.Perm a₀/\Runs lt key xs 0 L lo/\lo<=a₀.size/\(x<=lo\/lo=a₀.size))
  (Q:=fun c st'=>∃ xs L g,st'=mkS st xs L g/\c=(none,a₀.size)/\xs.Perm a₀/\Runs lt key xs 0 L a₀.size) ?step ?fin ?init) ?post)
 case init=>
  refine⟨a₀,[],gallopOf st,0,?_,rfl,.refl _,rfl,by lia,.inl (bK _)⟩;show st=SortSt.mk' (kindOf st) a₀ #[] (gallopOf st) (failedOf st);rw[<- ha,<- hP]
 case fin=>
  rintro c st' ⟨xs,L,g,lo,rfl,rfl,a1,a2,a3,a4⟩;have:lo=a₀.size:=by lia
  subst this;exact⟨xs,L,g,rfl,rfl,a1,a2⟩
 case step=>
  rintro x c st' _ hx ⟨xs,L,g,lo,rfl,rfl,a1,a2,a3,a4⟩;dsimp only;by_cases hge:lo>=a₀.size
  ·rw[aL hge];have:lo=a₀.size:=by lia
   subst this;exact bf ⟨xs,L,g,rfl,rfl,a1,a2⟩
  rw[aJ hge];refine aW (V8 e (st:=mkS st xs L g) hk a1 (by lia) (by lia) ?_);intro n ys p1 p2 p3 p4 p5;dsimp only;have hy:Low ys xs lo:=p2;by_cases hm:n<mr
  ·rw[aL hm];refine aW (tM (qI ⟨rfl,?_⟩));refine aW (a1p e (st:=mkS st ys L g) hk p1 p3 (by lia) (by lia) p5 fun zs r1 r2 r5=>?_);rw[aJ (by decide)];have r3:1<=min (a₀.size-lo) mr:=by lia
   have r4:lo+min (a₀.size-lo) mr<=a₀.size:=by lia
   have rR:Runs lt key zs 0 L lo:=a2.congr fun k _ hk=>(r2.trans hy) k hk
   show wpS M A E s _ _ (mkS st zs L g);clear p2 hy p5 r2 hm p3 p4 p1;generalize min (a₀.size-lo) mr=n at r3 r4 r5 ⊢;have snoc:∀(ys:Array Keyed)(L':List (Nat×Nat×Nat)),Runs lt key ys 0 L' lo->(∀ k,lo<=k->el ys k=el zs k)->Runs lt key ys 0 (L'++[(lo,n,0)]) (lo+n):=fun ys L' hy he=>
    Runs.app.mpr ⟨lo,hy,rfl,r3,fun p q h1 h2 h3=>by rw[he p h1,he q (by lia)];exact r5 p q h1 h2 h3,rfl⟩
   have push:∀(ys:Array Keyed)(L':List (Nat×Nat×Nat))(g':Nat),setPending (mkS st ys L' g') ((pendingOf (mkS st ys L' g')).push (lo,n,0))=mkS st ys (L'++[(lo,n,0)]) g':=fun ys L' g'=>by
    show SortSt.mk' _ _ (L'.toArray.push (lo,n,0)) _ _=_;rw[List.push_toArray]
   refine aW (jK ?_);have ep:∀(ys:Array Keyed)(L':List (Nat×Nat×Nat))(g':Nat),pendingOf (mkS st ys L' g')=L'.toArray:=fun _ _ _=>rfl
   rw[ep];cases hb:L.toArray.back? with
   |none=>
    dsimp only;refine aW (nR (bf ?_));rw[push];exact⟨zs,_,g,lo+n,rfl,rfl,r1,snoc zs L rR (fun _ _=>rfl),r4,.inl (by lia)⟩
   |some z=>
    obtain⟨u,v,w⟩:=z;dsimp only;refine aW (jk (jh (I:=fun x c st'=>∃ ys L' g',st'=mkS st ys L' g'/\c=(none,())/\ys.Perm a₀/\Runs lt key ys 0 L' lo/\(∀ k,lo<=k->el ys k=el zs k))
     (Q:=fun c st'=>∃ ys L' g',st'=mkS st ys L' g'/\c=(none,())/\ys.Perm a₀/\Runs lt key ys 0 L' lo/\(∀ k,lo<=k->el ys k=el zs k)) ?sti (fun _ _ z=>z) ⟨zs,L,g,rfl,rfl,r1,rR,fun _ _=>rfl⟩) ?poi)
    case sti=>
     rintro y c st' _ hy ⟨ys,L',g',rfl,rfl,b1,b2,b3⟩;refine aW (jK ?_);rw[ep,cR];by_cases hl:L'.length>1
     ·rw[aL hl,Gw,dU (by lia)];generalize L'[L'.length-2]=t;obtain⟨t1,t2,t3⟩:=t;dsimp only;by_cases ho:t3<=power' a₀.size (2*u+v) (2*u+v+v+n) a₀.size
      ·rw[aL ho];exact bf ⟨ys,L',g',rfl,rfl,b1,b2,b3⟩
      ·rw[aJ ho];refine aW (LR e hk hf b1 (by lia) b2 (by omega) fun zs L2 g2 c1 c2 c3 c4=>?_);exact bf ⟨zs,L2,g2,rfl,rfl,c1,c2,fun k hk=>(c4 k hk).trans (b3 k hk)⟩
     ·rw[aJ hl];exact bf ⟨ys,L',g',rfl,rfl,b1,b2,b3⟩
    case poi=>
     rintro c st' ⟨ys,L',g',rfl,rfl,b1,b2,b3⟩;dsimp only;refine aW (nR (aW (nR (bf ?_))));generalize power' a₀.size (2*u+v) (2*u+v+v+n) a₀.size=pw;have em:setPending (mkS st ys L' g') ((pendingOf (mkS st ys L' g')).modify ((pendingOf (mkS st ys L' g')).size-1) fun x=>(x.1,x.2.1,pw))=mkS st ys (L'.modify (L'.length-1) fun x=>(x.1,x.2.1,pw)) g':=by
      show SortSt.mk' _ _ (L'.toArray.modify (L'.toArray.size-1) fun x=>(x.1,x.2.1,pw)) _ _=_;rw[VG,cR]
     rw[em,push];exact⟨ys,_,g',lo+n,rfl,rfl,b1,snoc ys _ (Runs.modify (f:=fun x=>(x.1,x.2.1,pw)) (fun _=>rfl) (fun _=>rfl) b2) b3,r4,.inl (by lia)⟩
  ·rw[aJ hm];have rR:Runs lt key ys 0 L lo:=a2.congr fun k _ hk=>hy k hk
   have r4:lo+n<=a₀.size:=by lia
   show wpS M A E s _ _ (mkS st ys L g);clear hm hy p2;have r5:=p5;have r3:=p3;have r1:=p1;generalize ys=zs at r1 r3 r5 rR ⊢;have snoc:∀(ys:Array Keyed)(L':List (Nat×Nat×Nat)),Runs lt key ys 0 L' lo->(∀ k,lo<=k->el ys k=el zs k)->Runs lt key ys 0 (L'++[(lo,n,0)]) (lo+n):=fun ys L' hy he=>
    Runs.app.mpr ⟨lo,hy,rfl,r3,fun p q h1 h2 h3=>by rw[he p h1,he q (by lia)];exact r5 p q h1 h2 h3,rfl⟩
   have push:∀(ys:Array Keyed)(L':List (Nat×Nat×Nat))(g':Nat),setPending (mkS st ys L' g') ((pendingOf (mkS st ys L' g')).push (lo,n,0))=mkS st ys (L'++[(lo,n,0)]) g':=fun ys L' g'=>by
    show SortSt.mk' _ _ (L'.toArray.push (lo,n,0)) _ _=_;rw[List.push_toArray]
   refine aW (jK ?_);have ep:∀(ys:Array Keyed)(L':List (Nat×Nat×Nat))(g':Nat),pendingOf (mkS st ys L' g')=L'.toArray:=fun _ _ _=>rfl
   rw[ep];cases hb:L.toArray.back? with
   |none=>
    dsimp only;refine aW (nR (bf ?_));rw[push];exact⟨zs,_,g,lo+n,rfl,rfl,r1,snoc zs L rR (fun _ _=>rfl),r4,.inl (by lia)⟩
   |some z=>
    obtain⟨u,v,w⟩:=z;dsimp only;refine aW (jk (jh (I:=fun x c st'=>∃ ys L' g',st'=mkS st ys L' g'/\c=(none,())/\ys.Perm a₀/\Runs lt key ys 0 L' lo/\(∀ k,lo<=k->el ys k=el zs k))
     (Q:=fun c st'=>∃ ys L' g',st'=mkS st ys L' g'/\c=(none,())/\ys.Perm a₀/\Runs lt key ys 0 L' lo/\(∀ k,lo<=k->el ys k=el zs k)) ?sti (fun _ _ z=>z) ⟨zs,L,g,rfl,rfl,r1,rR,fun _ _=>rfl⟩) ?poi)
    case sti=>
     rintro y c st' _ hy ⟨ys,L',g',rfl,rfl,b1,b2,b3⟩;refine aW (jK ?_);rw[ep,cR];by_cases hl:L'.length>1
     ·rw[aL hl,Gw,dU (by lia)];generalize L'[L'.length-2]=t;obtain⟨t1,t2,t3⟩:=t;dsimp only;by_cases ho:t3<=power' a₀.size (2*u+v) (2*u+v+v+n) a₀.size
      ·rw[aL ho];exact bf ⟨ys,L',g',rfl,rfl,b1,b2,b3⟩
      ·rw[aJ ho];refine aW (LR e hk hf b1 (by lia) b2 (by omega) fun zs L2 g2 c1 c2 c3 c4=>?_);exact bf ⟨zs,L2,g2,rfl,rfl,c1,c2,fun k hk=>(c4 k hk).trans (b3 k hk)⟩
     ·rw[aJ hl];exact bf ⟨ys,L',g',rfl,rfl,b1,b2,b3⟩
    case poi=>
     rintro c st' ⟨ys,L',g',rfl,rfl,b1,b2,b3⟩;dsimp only;refine aW (nR (aW (nR (bf ?_))));generalize power' a₀.size (2*u+v) (2*u+v+v+n) a₀.size=pw;have em:setPending (mkS st ys L' g') ((pendingOf (mkS st ys L' g')).modify ((pendingOf (mkS st ys L' g')).size-1) fun x=>(x.1,x.2.1,pw))=mkS st ys (L'.modify (L'.length-1) fun x=>(x.1,x.2.1,pw)) g':=by
      show SortSt.mk' _ _ (L'.toArray.modify (L'.toArray.size-1) fun x=>(x.1,x.2.1,pw)) _ _=_;rw[VG,cR]
     rw[em,push];exact⟨ys,_,g',lo+n,rfl,rfl,b1,snoc ys _ (Runs.modify (f:=fun x=>(x.1,x.2.1,pw)) (fun _=>rfl) (fun _=>rfl) b2) b3,r4,.inl (by lia)⟩
 case post=>
  rintro c st' ⟨xs,L,g,rfl,rfl,a1,a2⟩;dsimp only;have one:∀(xs:Array Keyed)(L:List (Nat×Nat×Nat)),L.length<=1->Runs lt key xs 0 L a₀.size->Srt lt key xs 0 a₀.size:=fun xs L hl hR=>by
   cases L with
   |nil=>
    have:0=a₀.size:=hR;intro p q _ _ hq;lia
   |cons r l=>
    cases l with
    |nil=>
     have h4:0+r.2.1=a₀.size:=hR.2.2.2;have:=hR.2.2.1;rwa[h4] at this
    |cons _ _=>simp at hl
  refine aW (jk (jh (I:=fun x c st'=>∃ xs L g,st'=mkS st xs L g/\c=(none,())/\xs.Perm a₀/\Runs lt key xs 0 L a₀.size/\L.length+x<=a₀.size)
   (Q:=fun c st'=>∃ xs L g,st'=mkS st xs L g/\c=(none,())/\xs.Perm a₀/\Runs lt key xs 0 L a₀.size/\L.length<=1) ?st2 ?fi2 ?in2) ?po2)
  case in2=>
   have:=a2.le;exact⟨xs,L,g,rfl,rfl,a1,a2,by lia⟩
  case fi2=>
   rintro c st' ⟨xs,L,g,rfl,rfl,a1,a2,a3⟩;exact⟨xs,L,g,rfl,rfl,a1,a2,by lia⟩
  case po2=>
   rintro c st' ⟨xs,L,g,rfl,rfl,a1,a2,a3⟩;exact bf (h _ a1 hf (one xs L a3 a2))
  case st2=>
   rintro x c st' _ hx ⟨xs,L,g,rfl,rfl,a1,a2,a3⟩;refine aW (jK ?_);have ep:pendingOf (mkS st xs L g)=L.toArray:=rfl;rw[ep,cR];by_cases hl:L.length<=1
   ·rw[aL hl];exact bf ⟨xs,L,g,rfl,rfl,a1,a2,hl⟩
   ·rw[aJ hl];have hi:∀ c:Prop,[Decidable c]->(if c then L.length-2-1 else L.length-2)+1<L.length:=fun c _=>by split<;>lia
    refine aW (LR e hk hf a1 (hi _) a2 (bK _) fun zs L2 g2 b1 b2 b3 b4=>?_);exact bf ⟨zs,L2,g2,rfl,rfl,b1,b2,by lia⟩
end
end TS
end L2
namespace L2
open PySem PySem.Spec PyProof.Rows PySem.W
theorem QJ{α β:Type}{g:α->β}{l m:List β}(h:l.Perm m):∀ r:List α,m=r.map g->∃ r':List α,r'.Perm r/\l=r'.map g:=by
 induction h with
 |nil=>intro r e;exact⟨[],by cases r<;>simp_all,rfl⟩
 |@cons x l m _ ih=>
  intro r e;cases r with
  |nil=>simp at e
  |cons a r=>
   rw[fH] at e;injection e with e1 e2;obtain⟨r',p,e3⟩:=ih r e2;exact⟨a::r',p.cons a,by rw[fH,<- e1,<- e3]⟩
 |swap x y l=>
  intro r e
  match r,e with
  |a::b::r,e=>
   rw[fH,fH] at e;injection e with e1 e2;injection e2 with e2 e3;exact⟨b::a::r,.swap _ _ _,by rw[fH,fH,<- e1,<- e2,<- e3]⟩
 |trans _ _ ih1 ih2=>
  intro r e;obtain⟨r2,p2,e2⟩:=ih2 r e;obtain⟨r1,p1,e1⟩:=ih1 r2 e2;exact⟨r1,p1.trans p2,e1⟩
section
variable{prog:Program}{w:World}{A:Around}{E:Value->Shared->Prop}{s:Shared}{α:Type}
structure Nb(prog:Program)(w:World)(h:Heap)(vs:List Value)(lt:α->α->Bool)(f:Nat->α):Prop where
 ex:2<=vs.length->∃ κ:SortKind,(∀(A':Around)(E':Value->Shared->Prop)(s':Shared)(Q':SortKind->Shared->Prop),Keeps h s'.heap->Q' κ s'->wpAny (model prog w) A' (keyKind' vs.toArray) Q' E' s') /\
  ∀(A':Around)(s':Shared)(i j:Nat)(C:Bool->Shared->Prop),A'.units+2<cLine->Keeps h s'.heap->i<vs.length->j<vs.length->C (lt (f i) (f j)) s'->wpAny (model prog w) A' (keyLt' κ (vs.getD i Value.none) (vs.getD j Value.none)) C (fun _ _=>False) s'
def byP(vs:List Value)(p:Array Nat):List Value:=p.toList.map fun i=>vs.getD i Value.none
def vg(vs:List Value)(f:Nat->α):Prop:=∀ i j,i<vs.length->j<vs.length->vs.getD i Value.none=vs.getD j Value.none->f i=f j
open Classical in
noncomputable def ZV(vs:List Value)(f:Nat->α)(x:Keyed):α:=f (Classical.epsilon fun i=>i<vs.length/\vs.getD i Value.none=x.1)
theorem yu{vs:List Value}{f:Nat->α}(h1:vg vs f){i:Nat}(hi:i<vs.length){v:Value}:ZV vs f (vs.getD i Value.none,v)=f i:=by
 unfold ZV;have h:=Classical.epsilon_spec (p:=fun j=>j<vs.length/\vs.getD j Value.none=vs.getD i Value.none) ⟨i,hi,rfl⟩;exact h1 _ _ h.1 hi h.2
theorem W8{vs:List Value}{κ:SortKind}{lt:α->α->Bool}{f:Nat->α}(o:jr lt)(h1:vg vs f)
  (a2Y:∀ i j (C:Bool->Shared->Prop),i<vs.length->j<vs.length->C (lt (f i) (f j)) s->wpAny (model prog w) A (keyLt' κ (vs.getD i Value.none) (vs.getD j Value.none)) C (fun _ _=>False) s) :
  wpAny (model prog w) A (sortRuns'.run (SortSt.mk' κ (vs.toArray.zip vs.toArray) #[] 7 none)) (fun r s'=>s'=s/\∃ p,Good vs.length p/\Hy lt f p vs.length/\(arrOf r.2).map (·.2)=(byP vs p).toArray/\failedOf r.2=none) E s:=by
 have ez:(vs.toArray.zip vs.toArray).toList=(List.range vs.length).map fun i=>(vs.getD i Value.none,vs.getD i Value.none):=by
  refine GQ fun i=>?_
  by_cases hi:i<vs.length
  ·simp[hi,fX,List.getElem?_zip_eq_some]
  ·simp[hi]
 have hz:(vs.toArray.zip vs.toArray).size=vs.length:=by simp
 have e:TS.Env (model prog w) A s κ (ZV vs f) lt (vs.toArray.zip vs.toArray):=by
  refine⟨o,fun x y hx hy C hC=>?_⟩;rw[ez] at hx hy;obtain⟨i,hi,rfl⟩:=cT.mp hx;obtain⟨j,hj,rfl⟩:=cT.mp hy;have hi':=cJ.mp hi;have hj':=cJ.mp hj;rw[yu h1 hi',yu h1 hj'] at hC;exact a2Y i j C hi' hj' hC
 refine TS.Yy (Q:=fun _ st=>∃ p,Good vs.length p/\Hy lt f p vs.length/\(arrOf st).map (·.2)=(byP vs p).toArray/\failedOf st=none) e rfl rfl rfl rfl fun st' hp hf hs=>?_
 have hp':=hp.toList;rw[ez] at hp';obtain⟨r,pr,er⟩:=QJ hp' _ rfl;have gd:Good vs.length r.toArray:=⟨by simpa using pr⟩
 have elr:∀ i,(hi:i<r.length)->TS.el (arrOf st') i=(vs.getD r[i] Value.none,vs.getD r[i] Value.none):=fun i hi=>by
  rw[TS.yr,er,fX,cV,dU hi];rfl
 have hr:r.length=vs.length:=by simpa using pr.length_eq
 refine⟨r.toArray,gd,fun i hi=>?_,?_,hf⟩
 ·have h2:=hs i (i+1) (jj _) (tL _) (by rw[hz];exact hi);rw[elr i (by lia),elr (i+1) (by lia)] at h2;have lt1:r[i]<vs.length:=cJ.mp (pr.mem_iff.mp (mG _));have lt2:r[i+1]<vs.length:=cJ.mp (pr.mem_iff.mp (mG _));rw[yu h1 lt1,yu h1 lt2] at h2;unfold Ky;have a1:r.toArray.getD i 0=r[i]:=by
   rw[mq,Gw,dU (by lia)];rfl
  have a2:r.toArray.getD (i+1) 0=r[i+1]:=by
   rw[mq,Gw,dU (by lia)];rfl
  rw[a1,a2];exact h2
 ·apply MK.mp;rw[Array.toList_map,er];unfold byP;simp
theorem HB{a:Addr}{vs:List Value}{n:Nat}{h0:Heap}{lt:α->α->Bool}{f:Nat->α}{P:PySem.Fin->Shared->Prop}(o:jr lt)(h1:vg vs f)(hu:A.units+2<cLine)(hr:Nb prog w h0 vs lt f)(hz:vs.length<=sizeLine) (ho:s.heap.get? a=some (seqObj "list" vs.toArray n)) (hk:∀ b o,h0.get? b=some o->s.heap.get? b=some o/\b≠a)
  (h:∀ p,Good vs.length p->Hy lt f p vs.length->P (.done (.ret .none)) { s with heap:=sortedHeap s.heap a vs (byP vs p).toArray }):wpAny (model prog w) A (Builtin.«list.sort» ⟨[.ref a],[]⟩) P E s:=by
 rw[list_sort_plain];have ha:a<s.heap.objs.size:=bI ho;refine bQ (listItems_at ho rfl (bQ (listUpdate_at ho rfl ?_ (by show vs.toArray.size<=_;rw[cR];omega) (by show(#[]:Array Value).size<=_;simp))));have ho1:=get?_update_seq ho (fun _=>#[]);refine bQ (seqEpoch_at ho1 rfl (bQ (wpAny_newTuple (bQ (wpAny_newList (wO ?_) (by simp))) (by simpa using hz))));show wpAny (model prog w) A _ P E { s with heap:=((s.heap.update a (Obj.mapSeq fun _=>#[])).push (seqObj "tuple" vs.toArray 0)).push (seqObj "list" #[] 0) };have ho6:(((s.heap.update a (Obj.mapSeq fun _=>#[])).push (seqObj "tuple" vs.toArray 0)).push (seqObj "list" #[] 0)).get? a=some _:=gY _ (gY _ ho1);have kp:Keeps h0 (((s.heap.update a (Obj.mapSeq fun _=>#[])).push (seqObj "tuple" vs.toArray 0)).push (seqObj "list" #[] 0)):=fun b o e=>by
  obtain⟨e1,e2⟩:=hk b o e;refine gY _ (gY _ ?_);rw[GC _ _ _ _ e2];exact e1
 dsimp only;by_cases h2:vs.toArray.size<2
 ·rw[aL h2,aL h2];refine bQ (cQ ?_);rw[StateT.run_pure];refine bQ (cQ ?_);dsimp only;have h2':vs.length<2:=by simpa using h2
  have gd:Good vs.length (List.range vs.length).toArray:=⟨.refl _⟩
  have up:Hy lt f (List.range vs.length).toArray vs.length:=fun i hi=>by lia
  have eb:byP vs (List.range vs.length).toArray=vs:=by
   unfold byP;refine GQ fun i=>?_
   simp only[cV];by_cases hi:i<vs.length
   ·simp[hi,fX]
   ·simp[hi]
  have h':=h _ gd up;rw[eb] at h';have eo:(arrOf (SortSt.mk' general' (vs.toArray.zip vs.toArray) #[] 7 none)).map (·.2)=vs.toArray:=by
   show(vs.toArray.zip vs.toArray).map (·.2)=_;apply MK.mp;simp[List.map_snd_zip]
  refine bQ (seqEpoch_at ho6 rfl ?_);rw[eo];refine bQ (listUpdate_at ho6 rfl ?_ (by simp) (by rw[cR];lia));simp only[bne_self_eq_false,BP,lK];exact cQ h'
 ·rw[aJ h2,aJ h2];have h2':2<=vs.length:=by simpa using h2
  obtain⟨κ,hkind,hless⟩:=hr.ex h2';refine bQ (hkind _ _ _ _ kp ?_);refine bQ (iT (W8 (κ:=κ) (f:=f) o h1 fun i j C hi hj hC=>hless A _ i j C hu kp hi hj hC) ?_ fun _ _ e=>e);rintro⟨⟨⟩,st'⟩ s' ⟨rfl,p,g,u,eo,hf⟩;dsimp only;dsimp only at eo hf;refine bQ (seqEpoch_at ho6 rfl ?_);rw[eo];refine bQ (listUpdate_at ho6 rfl ?_ (by simp) ?_)
  ·rw[hf];simp only[bne_self_eq_false,BP,lK];exact cQ (h p g u)
  ·unfold byP;rw[cR,aV,jf,g.size];lia
theorem yS{l:Addr}{vs:List Value}{lt:α->α->Bool}{f:Nat->α}{Q:Value->Shared->Prop}(o:jr lt)(h1:vg vs f)(hu:A.units+10<cLine)(hr:Nb prog w s.heap vs lt f)(hz:vs.length<=sizeLine)(hl:s.heap.IsList l vs.toArray)
  (h:∀ p,Good vs.length p->Hy lt f p vs.length->Q (.ref (s.heap.objs.size+1)) { s with heap:=sortedAll s.heap vs (byP vs p).toArray }):wpAny (model prog w) A (call (.builtin "sorted") [.ref l]) Q E s:=by
 refine Vg kind_sorted plain_sorted entry_sorted (args_sorted1 _) ?_;unfold Builtin.«sorted»;refine bQ (m:=checkCount "sorted" 1 1 _) (cQ (bQ (collect_list hl ?_ hz)));refine bQ (wpAny_newList ?_ (by simpa using hz));have e1:((s.heap.push (seqObj "list" #[] 0)).update s.heap.objs.size (Obj.mapSeq (·++vs.toArray))).objs.size=s.heap.objs.size+1:=by rw[Heap.size_update,size_push']
 have e2:(((s.heap.push (seqObj "list" #[] 0)).update s.heap.objs.size (Obj.mapSeq (·++vs.toArray))).push (seqObj "list" vs.toArray 0)).get? (s.heap.objs.size+1)=some (seqObj "list" vs.toArray 0):=by
  rw[<- e1];exact iR _ rfl
 show wpAny _ _ _ _ _ { s with heap:=((s.heap.push (seqObj "list" #[] 0)).update s.heap.objs.size (Obj.mapSeq (·++vs.toArray))).push (seqObj "list" vs.toArray 0) };rw[e1];refine bQ (wO (MN slot_list_sort ⟨_,e2,rfl⟩ entry_list_sort (HB (h0:=s.heap) o h1 (by show A.units+1+1+2<cLine;lia) hr hz e2 (fun b o e=>⟨?_,fW (Nat.lt_succ_of_lt (bI e))⟩) fun p g u=>⟨_,rfl,cQ ⟨_,rfl,h p g u⟩⟩) (args_list_sort _)));have hlt:b<s.heap.objs.size:=bI e;refine gY _ ?_;rw[GC _ _ _ _ (fW hlt)];exact gY _ e
end
def fO(a b:Cell):Bool:=decide (aX a b)
theorem lW:jr fO:=by
 refine⟨fun a b h=>?_,fun a b c h1 h2=>?_,fun a b h1 h2=>?_⟩
 ·have:=cN h;refine cB ?_;unfold aX at *;lia
 ·have h1':=mD h1;have h2':=mD h2;refine cB ?_;unfold aX at *;lia
 ·have h1':=mD h1;have h2':=mD h2;unfold aX at *;exact jJ (by omega) (by lia)
section
variable{X:Cx}
theorem wW{pins:List (Addr×Obj)}{zzs:L2.St}{H:Hp}{s:Shared}{vs:List V}{us:List Value}{cs:List Cell}(I:Inv X pins zzs H s)(D:aP X.K H vs (cs.map au))(r:Vals vs us):Nb X.prog X.w s.heap us fO fun i=>cs.getD i (0,0):=by
 have hl:us.length=cs.length:=by rw[<- r.length,D.length,aV]
 have at_:∀ i,(hi:i<cs.length)->∃(a:Addr)(o:Obj)(t t':Tok)(n:Nat),us.getD i Value.none=.ref a/\s.heap.get? a=some o/\o.cls=.type "tuple" /\ o.data=.seq #[.int cs[i].1 t,.int cs[i].2 t'] n:=fun i hi=>by
  have hv:i<vs.length:=by rw[r.length,hl];exact hi
  have ev:vs[i]?=some vs[i]:=by simp[hv]
  obtain⟨u,eu,ru⟩:=r.get ev;obtain⟨d,ed,dd⟩:=D.get ev;rw[cV,dU hi] at ed;cases ed;obtain⟨a,o,t,t',n,rfl,h1,h2,h3⟩:=kI I dd ru;exact⟨a,o,t,t',n,by rw[fX,eu];rfl,h1,h2,h3⟩
 refine⟨fun h2=>⟨tuples' true,fun A' E' s' Q' kp q=>?_,fun A' s' i j C hu kp hi hj hC=>?_⟩⟩
 ·have kt:∀(cs:List Cell)(us:List Value),us.length=cs.length->(∀ i,(hi:i<cs.length)->∃(a:Addr)(o:Obj)(t t':Tok)(n:Nat),us.getD i Value.none=.ref a/\s.heap.get? a=some o/\o.cls=.type "tuple" /\ o.data=.seq #[.int cs[i].1 t,.int cs[i].2 t'] n) ->
    ∃ fs:List Value,fs.length=us.length/\(∀ f∈fs,∃ i t,f=Value.int i t)/\KatTups s'.heap us fs:=by
   intro cs
   induction cs with
   |nil=>
    intro us e _;cases us with
    |nil=>exact⟨[],rfl,(fun f hf=>by cases hf),.nil⟩
    |cons a b=>simp at e
   |cons c cs ih=>
    intro us e h;cases us with
    |nil=>simp at e
    |cons u us=>
     obtain⟨a,o,t,t',n,e1,e2,e3,e4⟩:=h 0 (by simp);have eu:u=.ref a:=e1;subst eu;obtain⟨fs,f1,f2,f3⟩:=ih us (by simpa using e) fun i hi=>by
      have:=h (i+1) (by simpa using hi);simpa using this
     refine⟨.int c.1 t::fs,by simp[f1],fun f hf=>?_,KatTups.cons (kp _ _ e2) e3 e4 rfl f3⟩;rcases cO.mp hf with z|z
     ·exact⟨_,_,z⟩
     ·exact f2 f z
  obtain⟨fs,f1,f2,f3⟩:=kt cs us hl at_;refine kat_kind (T:=.type "int") f3 (by lia) (fun v hv=>?_) (by decide) ?_
  ·obtain⟨i,t,rfl⟩:=f2 v hv;exact Looks.of_pure rfl
  ·exact q
 ·rw[hl] at hi hj;obtain⟨a,o,t,t',n,e1,e2,e3,e4⟩:=at_ i hi;obtain⟨b,o2,t2,t2',n2,g1,g2,g3,g4⟩:=at_ j hj;rw[e1,g1];have ci:cs.getD i (0,0)=cs[i]:=by rw[fX,dU hi];rfl
  have cj:cs.getD j (0,0)=cs[j]:=by rw[fX,dU hj];rfl
  rw[ci,cj] at hC;refine kat_lt (kp _ _ e2) e4 (kp _ _ g2) g4 ?_;have out:∀ x:Bool,(x=true↔aX cs[i] cs[j])->C x s':=fun x hx=>by
   have:x=fO cs[i] cs[j]:=by
    unfold fO;cases x
    ·exact(cB fun z=>by have:=hx.mpr z;cases this).symm
    ·exact(bT (hx.mp rfl)).symm
   rw[this];exact hC
  refine kat_cons (qL ?_);by_cases q1:cs[i].1=cs[j].1
  ·rw[show(cs[i].1==cs[j].1)=true from jR.mpr q1];refine kat_yes (kat_cons (qL ?_));by_cases q2:cs[i].2=cs[j].2
   ·rw[show(cs[i].2==cs[j].2)=true from jR.mpr q2];refine kat_yes (kat_nil (out _ ⟨fun z=>?_,fun z=>?_⟩))
    ·have:=cN z;simp at this
    ·unfold aX at z;lia
   ·rw[show(cs[i].2==cs[j].2)=false from mz.mpr q2];refine kat_no (kat_one _ _ (lt_int (out _ ?_)));rw[iC];unfold aX;lia
  ·rw[show(cs[i].1==cs[j].1)=false from mz.mpr q1];refine kat_no (oneLt_int (out _ ?_));rw[iC];unfold aX;lia
theorem CN{pins:List (Addr×Obj)}{zzs:L2.St}{H:Hp}{s:Shared}{vs:List V}{us:List Value}{cs:List Cell}(I:Inv X pins zzs H s)(D:aP X.K H vs (cs.map au))(r:Vals vs us):vg us fun i=>cs.getD i (0,0):=by
 have hl:us.length=cs.length:=by rw[<- r.length,D.length,aV]
 have at_:∀ i,i<us.length->∃(a:Addr)(o:Obj)(t t':Tok)(n:Nat),us.getD i Value.none=.ref a/\s.heap.get? a=some o/\o.data=.seq #[.int (cs.getD i (0,0)).1 t,.int (cs.getD i (0,0)).2 t'] n:=fun i hi=>by
  have hv:i<vs.length:=by rw[r.length];exact hi
  have hi':i<cs.length:=by lia
  have ev:vs[i]?=some vs[i]:=by simp[hv]
  obtain⟨u,eu,ru⟩:=r.get ev;obtain⟨d,ed,dd⟩:=D.get ev;rw[cV,dU hi'] at ed;cases ed;obtain⟨a,o,t,t',n,rfl,h1,_,h3⟩:=kI I dd ru;refine⟨a,o,t,t',n,by rw[fX,eu];rfl,h1,?_⟩;rw[fX,dU hi'];exact h3
 intro i j hi hj e;obtain⟨a,o,t,t',n,e1,e2,e3⟩:=at_ i hi;obtain⟨b,o',v,v',m,g1,g2,g3⟩:=at_ j hj;rw[e1,g1] at e;cases e;rw[e2] at g2;cases g2;rw[e3] at g3;injection g3 with g5 _;have g6:=congrArg Array.toList g5;injection g6 with a1 a2;injection a2 with a2 _;injection a1 with a1 _;injection a2 with a2 _;exact jJ a1 a2
theorem yM{vs:List V}{us:List Value}(r:Vals vs us):∀(ps:List Nat),(∀ i∈ps,i<vs.length)->Vals (ps.map fun i=>vs.getD i .non) (ps.map fun i=>us.getD i Value.none)
 |[],_=>.nil
 |i::ps,h=>by
  have hi:=h i dJ;obtain⟨u,eu,ru⟩:=r.get (show vs[i]?=some vs[i] from by simp[hi]);have e1:vs.getD i .non=vs[i]:=by simp[fX,hi]
  have e2:us.getD i Value.none=u:=by rw[fX,eu];rfl
  rw[fH,fH,e1,e2];exact .cons ru (yM r ps fun j hj=>h j (fK _ hj))
theorem Fp{K:ao}{H:Hp}{vs:List V}{ds:List Dt}{d0:Dt}(D:aP K H vs ds):∀(ps:List Nat),(∀ i∈ps,i<vs.length)->aP K H (ps.map fun i=>vs.getD i .non) (ps.map fun i=>ds.getD i d0)
 |[],_=>.nil
 |i::ps,h=>by
  have hi:=h i dJ;obtain⟨d,ed,dd⟩:=D.get (show vs[i]?=some vs[i] from by simp[hi]);have e1:vs.getD i .non=vs[i]:=by simp[fX,hi]
  have e2:ds.getD i d0=d:=by rw[fX,ed];rfl
  rw[fH,fH,e1,e2];exact .cons dd (Fp D ps fun j hj=>h j (fK _ hj))
theorem ux{β:Type}{xs:List β}{d:β}{ps:List Nat}(h:ps.Perm (List.range xs.length)):(ps.map fun i=>xs.getD i d).Perm xs:=by
 have e:(List.range xs.length).map (fun i=>xs.getD i d)=xs:=by
  refine GQ fun i=>?_
  simp only[cV];by_cases hi:i<xs.length
  ·simp[hi,fX]
  ·simp[hi]
 exact(h.map _).trans (by rw[e])
def Asc(cs:List Cell):Prop:=cs.Pairwise fun a b=>¬aX b a
def U4(K:ao):List V->Hp->VK->Prop:=fun xs H Q=>∃(p:Addr)(vs:List V)(cs:List Cell),xs=[.ref p]/\SqL K H p vs/\aP K H vs (cs.map au)/\cs.length<64/\∀ l ws ds,H l=none->ws.Perm vs->aP K H ws (ds.map au)->ds.Perm cs->Asc ds->Q (.ref l) (upd H l (.lst ws))
theorem K7(hu:X.A.units+60<cLine):dZ X (.builtin "sorted") (U4 X.K):=by
 intro pins s zzs H xs us Q I r h;obtain⟨p,vs,cs,rfl,hS,D,h64,q⟩:=h;obtain⟨u,rfl,ru⟩:=vals1 r;cases ru;obtain⟨its,rv,pl,hz⟩:=I.list hS;have hl:its.length=cs.length:=by rw[<- rv.length,D.length,aV]
 have hv:vs.length=its.length:=rv.length;refine yS lW (CN I D rv) (by lia) (wW I D rv) (by lia) pl.isList fun o g up=>?_
 obtain⟨e,he⟩:=sortedAll_at s.heap its (byP its o).toArray;have hn:H (s.heap.objs.size+1)=none:=I.hok.fresh (tL _);have bd:∀ i∈o.toList,i<vs.length:=fun i hi=>by rw[hv];exact cJ.mp (g.perm.mem_iff.mp hi)
 have rv':Vals (o.toList.map fun i=>vs.getD i .non) (byP its o):=yM rv o.toList bd;have pv:(o.toList.map fun i=>vs.getD i .non).Perm vs:=ux (by rw[hv];exact g.perm);have dv:aP X.K H (o.toList.map fun i=>vs.getD i .non) ((o.toList.map fun i=>cs.getD i (0,0)).map au):=by
  have:=Fp (d0:=au (0,0)) D o.toList bd;have e1:(o.toList.map fun i=>(cs.map au).getD i (au (0,0)))=((o.toList.map fun i=>cs.getD i (0,0)).map au):=by
   rw[mH];refine Ax fun i hi=>?_
   simp only[fX,cV,Function.comp];cases cs[i]?<;>rfl
  rw[<- e1];exact this
 have pc:(o.toList.map fun i=>cs.getD i (0,0)).Perm cs:=ux (by rw[<- hl];exact g.perm);have as:Asc (o.toList.map fun i=>cs.getD i (0,0)):=by
  unfold Asc;rw[rP];intro i j hi hj hij;rw[aV,jf,g.size] at hi hj;have:=up.le lW (j-i) i (by lia);have e1:i+(j-i)=j:=by lia
  rw[e1] at this;have:=mD this;have sz:=g.size;have a1:Ky (fun i=>cs.getD i (0,0)) o i=(o.toList.map fun i=>cs.getD i (0,0))[i]:=by
   unfold Ky;rw[Bf,mq,jd (by lia)];rfl
  have a2:Ky (fun i=>cs.getD i (0,0)) o j=(o.toList.map fun i=>cs.getD i (0,0))[j]:=by
   unfold Ky;rw[Bf,mq,jd (by lia)];rfl
  rw[<- a1,<- a2];exact this
 have hz':(o.toList.map fun i=>vs.getD i .non).length<=sizeLine:=by rw[pv.length_eq];exact hz
 exact⟨.ref (s.heap.objs.size+1),upd H (s.heap.objs.size+1) (.lst (o.toList.map fun i=>vs.getD i .non)),I.laid (a:=s.heap.objs.size+1) (o:=.lst (o.toList.map fun i=>vs.getD i .non)) (t':=s.toks) (fun b o q=>sortedAll_old q) (tL _) ⟨hz',byP its o,e,rv',he⟩,rfl,q _ _ _ hn pv dv pc as⟩
theorem Wx{K:ao}(hu:X.A.units+60<cLine)(hK:X.K=K:=by rfl):dZ X (.builtin "sorted") (U4 K):=by subst hK;exact K7 hu
end
end L2
namespace L2
open PySem PySem.Spec PyProof.Rows PySem.SeqAt PySem.MeetsSeq PySem.MeetsSeq2 PySem.MeetsSeq3
open PySem.AutoSeq1 (wpAny_loadPart')
theorem Jo(A:Around)(s:Shared)(a:Int)(t:Tok)(c:Int)(u:Tok)(prog:Program)(w:World)(E:Value->Shared->Prop)(Q:Value->Shared->Prop)(h:Q (.bool (decide (c<=a))) s):wpAny (model prog w) A (richCompare .GtE (.int a t) (.int c u)) Q E s:=
 (ge_int h:wpAny (model prog w) A (compareOp .GtE (.int a t) (.int c u)) Q E s)
theorem Wq(p q:Addr)(x1 x2 y1 y2:Int)(t1 t2 u1 u2:Tok)(n m:Nat)(d1 d2:Option Addr)(z1 z2:Array (Option Value)):Meets (Builtin.«tuple.__ge__» ⟨[.ref p,.ref q],[]⟩)
  (fun _ R s=>s.heap.get? p=some { cls:=.type "tuple",dict:=d1,data:=.seq #[.int x1 t1,.int x2 t2] n,slots:=z1 }/\s.heap.get? q=some { cls:=.type "tuple",dict:=d2,data:=.seq #[.int y1 u1,.int y2 u2] m,slots:=z2 }/\R (.ok (.ret (.bool (!fO (x1,x2) (y1,y2))))) s):=
 .of_wp fun prog w A R s h=>by
  obtain⟨hp,g,d,tk,os⟩:=s;obtain⟨e1,e2,h⟩:=h;have f2:=M6;have k1:=fun(Q:Bool->Shared->Prop)(E:Value->Shared->Prop)(h:Q (x1==y1) ⟨hp,g,d,tk,os⟩)=>(qL (t:=t1) (u:=u1) h:wpAny (model prog w) A.in1 (eqBool (.int x1 t1) (.int y1 u1)) Q E ⟨hp,g,d,tk,os⟩)
  have k2:=fun(Q:Bool->Shared->Prop)(E:Value->Shared->Prop)(h:Q (x2==y2) ⟨hp,g,d,tk,os⟩)=>(qL (t:=t2) (u:=u2) h:wpAny (model prog w) A.in1 (eqBool (.int x2 t2) (.int y2 u2)) Q E ⟨hp,g,d,tk,os⟩)
  have r1:=Jo A.in1 ⟨hp,g,d,tk,os⟩ x1 t1 y1 u1 prog w;have r2:=Jo A.in1 ⟨hp,g,d,tk,os⟩ x2 t2 y2 u2 prog w;have out:∀ b:Bool,(b=true↔¬aX (x1,x2) (y1,y2))->R (.ok (.ret (.bool b))) ⟨hp,g,d,tk,os⟩:=fun b hb=>by
   have:b=!fO (x1,x2) (y1,y2):=by
    unfold fO;by_cases hc:aX (x1,x2) (y1,y2)
    ·rw[bT hc];cases b
     ·rfl
     ·exact absurd hc (hb.mp rfl)
    ·rw[cB hc];exact hb.mpr hc
   rw[this];exact h
  wp_walk using wpAny_loadPart' e1,wpAny_loadPart' e2,k1,k2
  by_cases q1:x1=y1
  ·rw[show(x1==y1)=true from jR.mpr q1]
   wp_walk using k2
   by_cases q2:x2=y2
   ·rw[show(x2==y2)=true from jR.mpr q2]
    wp_walk
    refine⟨_,rfl,out _ ?_⟩;simp[Builtin.Tuple.tupleCompareSizes,aX,q1,q2]
   ·rw[show(x2==y2)=false from mz.mpr q2]
    wp_walk using r2
    refine⟨_,rfl,out _ ?_⟩;rw[iC];unfold aX;dsimp only;lia
  ·rw[show(x1==y1)=false from mz.mpr q1]
   wp_walk using r1
   refine⟨_,rfl,out _ ?_⟩;rw[iC];unfold aX;dsimp only;omega
section
variable{X:Cx}{K:ao}
def a2j(K:ao):R2:=fun x y H Q=>∃(a b:Cell),Den K H x (au a)/\Den K H y (au b)/\Q (.bl (!fO a b)) H
theorem a0m(hu:X.A.units+60<cLine):OpR X (compareOp .GtE) (a2j X.K):=by
 intro pins s zzs H x y v u Q I rx ry h;obtain⟨a,b,da,db,q⟩:=h;obtain⟨p,o,t1,t2,n,rfl,e1,c1,f1⟩:=kI I da rx;obtain⟨p',o',u1,u2,m,rfl,e2,c2,f2⟩:=kI I db ry;obtain⟨oc,od,of,os⟩:=o;obtain⟨oc',od',of',os'⟩:=o';dsimp only at c1 f1 c2 f2;subst c1 f1 c2 f2;refine M9 (op:=.GtE) ⟨_,e1,rfl⟩ ⟨_,e2,rfl⟩ PySem.F.slot_tuple_ge PySem.F.entry_tuple_ge (PySem.F.args_tuple_ge_2 _ _) (Wq p p' a.1 a.2 b.1 b.2 t1 t2 u1 u2 n m od od' os os') ⟨e1,e2,?_⟩ (by lia);exact(show Value.bool (!fO a b)≠Value.notImplemented/\EP X pins zzs Q (.bool (!fO a b)) s from⟨(fun z=>nomatch z),⟨.bl (!fO a b),H,I,rfl,q⟩⟩)
theorem a1Q(hu:X.A.units+60<cLine)(hK:X.K=K:=by rfl):OpR X (compareOp .GtE) (a2j K):=by subst hK;exact a0m hu
end
end L2
namespace L2
open PySem PySem.Spec PyProof.Rows
section
variable{X:Cx}
def a2l:List V->Hp->VK->Prop:=fun xs H Q=>∃ c:Nat,xs=[.str ⟨#[c]⟩]/\48<=c/\c<=57/\Q (.int ((c:Int)-48)) H
theorem Kl:∀ c∈List.range 58,48<=c->intText? ⟨#[c]⟩=some ((c:Int)-48):=by decide +kernel
theorem CG:dZ X (.type "int") a2l:=by
 intro pins s zzs H xs us Q I r h;obtain⟨c,rfl,h1,h2,q⟩:=h;obtain⟨u,rfl,t,rfl⟩:=vals1 r;exact PySem.W.KIN.call_text (Kl c (cJ.mpr (by lia)) h1) (by show(1:Nat)<=640;decide) ⟨.int _,H,I.tok _,⟨_,rfl⟩,q⟩
end
def fY(zs:List Str)(c:Cell):Int:=(codeAt zs (c.1.toNat,c.2.toNat):Int)-48
def uM(h w:Int)(c:Cell)(cs:List Cell):Nat:=((dh h w c).filter fun y=>decide (y∈cs)).length
def HD(cs:List Cell):Bool:=(List.range (cs.length-1)).all fun j=>fO (cs.getD j (0,0)) (cs.getD (j+1) (0,0))
def layB(zs:List Str)(w:Nat)(cs:List Cell):Bool:=HD cs&&cs.all (aK zs w)
def pB(zs:List Str)(w:Nat)(cs:List Cell)(c:Cell):Bool:=decide (fY zs c=(uM zs.length w c cs:Int))
def iu(zs:List Str)(w:Nat)(cs:List Cell):Bool:=(bH zs.length w).all fun c=>aK zs w c||pB zs w cs c
theorem Pq{a b c:Cell}(h1:aX a b)(h2:aX b c):aX a c:=by unfold aX at *;lia
theorem W5(cs:List Cell):HD cs=true↔cs.Pairwise aX:=by
 unfold HD;rw[jy];constructor
 ·intro h;have step:∀ d i,i+d+1<cs.length->aX (cs.getD i (0,0)) (cs.getD (i+d+1) (0,0)):=by
   intro d
   induction d with
   |zero=>intro i hi;exact cN (h i (cJ.mpr (by lia)))
   |succ d ih=>intro i hi;exact Pq (ih i (by lia)) (cN (h (i+d+1) (cJ.mpr (by lia))))
  rw[rP];intro i j hi hj hij;have:=step (j-i-1) i (by omega);have e:i+(j-i-1)+1=j:=by lia
  rw[e] at this;simpa [fX,hi,hj] using this
 ·intro h j hj;rw[cJ] at hj;have:=(rP.mp h) j (j+1) (by omega) (by omega) (by lia);refine bT ?_;have h1:j<cs.length:=by lia
  have h2:j+1<cs.length:=by omega
  simpa [fX,h1,h2] using this
theorem lay_of{zs:List Str}{w:Nat}{cs:List Cell}(h1:cs.Pairwise aX)(h2:∀ c∈cs,aK zs w c=true):layB zs w cs=true:=by
 unfold layB;rw[(W5 cs).mpr h1,uU,jy];exact h2
theorem qT:∀ h∈List.range 7,∀ w∈List.range 7,(bH h w).Pairwise aX:=by decide +kernel
theorem zH(c:Nat):inS "012345678" c=decide (48<=c/\c<=56):=by
 rw[Kr (by decide +kernel)];have e:("012345678" : Str).cps.toList=[48,49,50,51,52,53,54,55,56]:=by decide +kernel
 rw[e];have:(c∈[48,49,50,51,52,53,54,55,56])↔(48<=c/\c<=56):=by simp;lia
 rw[tD];exact this
theorem zL{zs:List Str}{w:Nat}{sg:Str}{x:Cell}:x∈iy zs w sg↔inF zs.length w x/\inS sg (codeAt zs (x.1.toNat,x.2.toNat))=true:=by
 unfold iy;rw[Bd];constructor
 ·rintro⟨r,hr,hx⟩;obtain⟨c,hc,rfl⟩:=cT.mp hx;rw[cg,cJ] at hc;rw[cJ] at hr;exact⟨⟨⟨by show(0:Int)<=(r:Int);lia,by show(r:Int)<zs.length;lia⟩,⟨by show(0:Int)<=(c:Int);lia,by show(c:Int)<w;lia⟩⟩,hc.2⟩
 ·rintro⟨⟨⟨a,b⟩,⟨c,d⟩⟩,hs⟩;refine⟨x.1.toNat,cJ.mpr (by lia),cT.mpr ⟨x.2.toNat,cg.mpr ⟨cJ.mpr (by lia),hs⟩,?_⟩⟩;exact jJ (by show((x.1.toNat:Nat):Int)=x.1;lia) (by show((x.2.toNat:Nat):Int)=x.2;lia)
theorem Vw.code{zs:List Str}{w:Nat}{x:Cell}(v:Vw zs w)(h:inF zs.length w x):rO (codeAt zs (x.1.toNat,x.2.toNat))=true:=by
 obtain⟨⟨a,b⟩,⟨c,d⟩⟩:=h;have hr:x.1.toNat<zs.length:=by lia
 have e:zs.getD x.1.toNat Str.empty=zs[x.1.toNat]:=by simp[fX,hr]
 have hl:(zs[x.1.toNat]).cps.size=w:=v.len _ (mG hr);refine v.sg _ (mG hr) _ ?_;unfold codeAt;dsimp only;rw[e,mq,jd (by lia)];exact M5 _
theorem zM{zs:List Str}{w:Nat}{x:Cell}(v:Vw zs w):x∈iy zs w "012345678" ↔ inF zs.length w x/\aK zs w x=false:=by
 rw[zL,zH];constructor
 ·rintro⟨h,hc⟩;have:=cN hc;refine⟨h,?_⟩;unfold aK;rw[cB (show ¬codeAt zs (x.1.toNat,x.2.toNat)=35 by lia),Bp]
 ·rintro⟨h,hc⟩;have sg:=cN (v.code h);unfold aK at hc;rw[bT h,uU] at hc;have:=mD hc;exact⟨h,bT (by lia)⟩
theorem Vw.digit{zs:List Str}{w:Nat}{x:Cell}(v:Vw zs w)(h:inF zs.length w x)(hc:aK zs w x=false):48<=codeAt zs (x.1.toNat,x.2.toNat)/\codeAt zs (x.1.toNat,x.2.toNat)<=56:=by
 have:=(zL.mp ((zM v).mpr ⟨h,hc⟩)).2;rw[zH] at this;exact cN this
theorem Pn{zs:List Str}{w:Nat}{x:Cell}:x∈iy zs w "#" ↔ aK zs w x=true:=by
 rw[<- gZ];unfold cA;rw[cg,bL];constructor
 ·exact fun h=>h.2
 ·intro h;refine⟨?_,h⟩;unfold aK at h;rw[mF] at h;exact cN h.1
theorem yV{cs:List Cell}(h:Asc cs)(nd:cs.Nodup):cs.Pairwise aX:=by
 unfold Asc at h;have:cs.Pairwise fun a b=>¬aX b a/\a≠b:=h.and nd
 exact this.imp fun {a b} hab=>by
  obtain⟨h1,h2⟩:=hab;have h3:¬(a.1=b.1/\a.2=b.2):=fun z=>h2 (jJ z.1 z.2)
  unfold aX at *;lia
theorem j9{cs:List Cell}(h:cs.Pairwise aX):cs.Nodup:=h.imp fun {a b} hab e=>by
 subst e;unfold aX at hab;lia
end L2
namespace L2
open PySem PySem.Spec PyProof.Rows
section
variable{κ:Type} [DecidableEq κ]
def uN(kvs:List (κ×V))(k:κ):Option V:=(kvs.find? fun kv=>decide (kv.1=k)).map (·.2)
def putK(kvs:List (κ×V))(k:κ)(v:V):List (κ×V):=
 if(kvs.any fun kv=>decide (kv.1=k))=true then kvs.map (fun kv=>if kv.1=k then(kv.1,v) else kv) else kvs++[(k,v)]
theorem uQ{p:κ×V}{r:List (κ×V)}{k:κ}(e:p.1=k):uN (p::r) k=some p.2:=by simp[uN,wM,e]
theorem uP{p:κ×V}{r:List (κ×V)}{k:κ}(e:¬p.1=k):uN (p::r) k=uN r k:=by simp[uN,wM,e]
theorem uO(k:κ):∀ kvs:List (κ×V),(kvs.any fun kv=>decide (kv.1=k))=(uN kvs k).isSome
 |[]=>rfl
 |p::r=>by
  rw[wQ];by_cases e:p.1=k
  ·simp only[uQ e,bT e,Bool.true_or,Option.isSome_some]
  ·rw[uP e,cB e,Hq];exact uO k r
theorem xr(kvs:List (κ×V))(k:κ)(v:V):(putK kvs k v).length<=kvs.length+1:=by
 unfold putK;split
 ·rw[aV];lia
 ·rw[cM,gP,Bl];lia
theorem TY{kvs:List (κ×V)}{k:κ}(v:V)(h:uN kvs k=none):putK kvs k v=kvs++[(k,v)]:=by
 unfold putK;rw[uO,h];exact aJ (by decide)
theorem yO.vO{o:Option V}{u:Option Value}(r:yO o u):o.isSome=u.isSome:=by
 cases o with
 |none=>cases u with
  |none=>rfl
  |some _=>exact(show False from r).elim
 |some _=>cases u with
  |none=>exact(show False from r).elim
  |some _=>rfl
theorem KV.val{kvs:List (κ×V)}{vs:List (κ×Value)}(r:KV kvs vs)(k:κ):yO (uN kvs k) (valueAt vs k):=by
 unfold KV at r
 induction r with
 |nil=>exact True.intro
 |@cons p q ps qs h t ih=>
  obtain⟨h1,h2⟩:=h;by_cases e:p.1=k
  ·have e':q.1=k:=h1.symm.trans e;have b:valueAt (q::qs) k=some q.2:=by simp[valueAt,wM,e']
   rw[uQ e,b];exact h2
  ·have e':¬q.1=k:=fun z=>e (h1.trans z)
   have b:valueAt (q::qs) k=valueAt qs k:=by simp[valueAt,wM,e']
   rw[uP e,b];exact ih
theorem KV.any{kvs:List (κ×V)}{vs:List (κ×Value)}(r:KV kvs vs)(k:κ):(kvs.any fun kv=>decide (kv.1=k))=vs.any fun kv=>decide (kv.1=k):=by
 unfold KV at r
 induction r with
 |nil=>rfl
 |cons h t ih=>rw[wQ,wQ,ih,h.1]
theorem KV.repl{kvs:List (κ×V)}{vs:List (κ×Value)}(r:KV kvs vs)(k:κ){y:V}{u:Value}(ry:RelV y u) :
  KV (kvs.map fun kv=>if kv.1=k then(kv.1,y) else kv) (vs.map fun kv=>if kv.1=k then(kv.1,u) else kv):=by
 unfold KV at r ⊢
 induction r with
 |nil=>exact .nil
 |@cons p q ps qs h t ih=>
  rw[fH,fH];refine .cons ?_ ih;obtain⟨h1,h2⟩:=h;by_cases e:p.1=k
  ·rw[aL e,aL (h1.symm.trans e)];exact⟨h1,ry⟩
  ·rw[aJ e,aJ (fun z=>e (h1.trans z))];exact⟨h1,h2⟩
theorem KV.put{kvs:List (κ×V)}{vs:List (κ×Value)}(r:KV kvs vs)(k:κ){y:V}{u:Value}(ry:RelV y u):KV (putK kvs k y) (stored vs k u):=by
 unfold putK stored;rw[r.any k];by_cases e:(vs.any fun kv=>decide (kv.1=k))=true
 ·rw[aL e,aL e];exact r.repl k ry
 ·rw[aJ e,aJ e];exact Paired.snoc r ⟨rfl,ry⟩
theorem KV.length{kvs:List (κ×V)}{vs:List (κ×Value)}(r:KV kvs vs):kvs.length=vs.length:=Paired.length r
end
theorem RX{P:Program}{w:World}{k:Key}{u:Value}(r:RelV (kV k) u):(gj P w).is k u=true:=by
 cases k with
 |inl i=>obtain⟨t,e⟩:=(show ∃ t,u=Value.int i t from r);subst e;exact J2 P w i t
 |inr x=>obtain⟨t,e⟩:=(show ∃ t,u=Value.str x t from r);subst e;exact J4 P w x t
theorem Dp{P:Program}{w:World}:∀ {ks:List Key} {us:List Value},Vals (ks.map kV) us->ItemsAre (gj P w) ks us
 |[],_,r=>by rw[Ht] at r;cases r;exact .nil
 |k::ks,_,r=>by
  rw[fH] at r;cases r with
  |cons h t=>exact .cons (RX h) (Dp t)
abbrev KT(H:Hp):List (List Key×V)->List (List Key×Addr×Value)->Prop:=Paired fun p q=>p.1=q.1/\H q.2.1=some (.tup (p.1.map kV))/\RelV p.2 q.2.2
theorem KT.val{H:Hp}{kvs:List (List Key×V)}{xs:List (List Key×Addr×Value)}(r:KT H kvs xs)(k:List Key):yO (uN kvs k) ((atKey xs k).map (·.2)):=by
 induction r with
 |nil=>exact True.intro
 |@cons p q ps qs h t ih=>
  obtain⟨h1,_,h2⟩:=h;by_cases e:p.1=k
  ·have e':q.1=k:=h1.symm.trans e;have b:atKey (q::qs) k=some q.2:=by simp[atKey,wM,e']
   rw[uQ e,b];exact h2
  ·have e':¬q.1=k:=fun z=>e (h1.trans z)
   have b:atKey (q::qs) k=atKey qs k:=by simp[atKey,wM,e']
   rw[uP e,b];exact ih
theorem KT.repl{H:Hp}{kvs:List (List Key×V)}{xs:List (List Key×Addr×Value)}(r:KT H kvs xs)(k:List Key){y:V}{u:Value}(ry:RelV y u) :
  KT H (kvs.map fun kv=>if kv.1=k then(kv.1,y) else kv) (xs.map (putAt k u)):=by
 induction r with
 |nil=>exact .nil
 |@cons p q ps qs h t ih=>
  rw[fH,fH];refine .cons ?_ ih;obtain⟨h1,h2,h3⟩:=h;unfold putAt;by_cases e:p.1=k
  ·rw[aL e,aL (h1.symm.trans e)];exact⟨h1,h2,ry⟩
  ·rw[aJ e,aJ (fun z=>e (h1.trans z))];exact⟨h1,h2,h3⟩
theorem KT.put{H:Hp}{kvs:List (List Key×V)}{xs:List (List Key×Addr×Value)}(r:KT H kvs xs)(k:List Key){b:Addr}{y:V}{u:Value}(hb:H b=some (.tup (k.map kV)))(ry:RelV y u) :
  KT H (putK kvs k y) (storedH xs k b u):=by
 have e:(kvs.any fun kv=>decide (kv.1=k))=(atKey xs k).isSome:=by
  rw[uO,(r.val k).vO,Option.isSome_map]
 unfold putK storedH;rw[e];by_cases q:(atKey xs k).isSome=true
 ·rw[aL q,aL q];exact r.repl k ry
 ·rw[aJ q,aJ q];exact Paired.snoc r ⟨rfl,hb,ry⟩
theorem KT.keeps{H H':Hp}{kvs:List (List Key×V)}{xs:List (List Key×Addr×Value)}(r:KT H kvs xs)(ht:∀ b ys,H b=some (.tup ys)->H' b=some (.tup ys)):KT H' kvs xs:=
 Paired.a05 r fun _ _ z=>⟨z.1,ht _ _ z.2.1,z.2.2⟩
section
variable{P:Program}{w:World}{H:Hp}{h:Heap}{a:Addr}
theorem Z1{u:HO}(ok:HOk P w H h)(e:Rd H a u):eU P w H h a u:=e.ok ok
theorem YJ{kvs:List (Key×V)}(ok:HOk P w H h)(e:Rd H a (.dK kvs)):kvs.length<=sizeLine/\(a==sysModules)=false/\∃ vs,KV kvs vs/\h.DictOf (gj P w) a vs:=
 show eU P w H h a (.dK kvs) from Z1 ok e
theorem a1F{kvs:List (Key×V)}(ok:HOk P w H h)(e:H a=some (.dK kvs)):kvs.length<=sizeLine/\(a==sysModules)=false/\∃ vs,KV kvs vs/\h.DictOf (gj P w) a vs:=YJ ok (.inl e)
theorem FN{ks:List Key}(ok:HOk P w H h)(e:H a=some (.tup (ks.map kV))):(tupleKind (gj P w)).is h ks a:=by
 obtain⟨_,its,r,o,h1,h2,n,h3⟩:=(show eU P w H h a (.tup (ks.map kV)) from ok a _ e)
 exact⟨o,its.toArray,n,h1,h2,h3,by simpa using Dp r⟩
theorem YL{kvs:List (List Key×V)}(ok:HOk P w H h)(e:Rd H a (.dT kvs)):kvs.length<=sizeLine/\(a==sysModules)=false /\
  ∃ xs,KT H kvs xs/\h.DictOfH (tupleKind (gj P w)) a xs:=by
 obtain⟨z,y,xs,r,o,es,ep,h1,h2,h3,h4,h5⟩:=(show eU P w H h a (.dT kvs) from Z1 ok e)
 refine⟨z,y,xs,r,o,es,ep,h1,h2,h3,h4,fun x hx=>?_,h5⟩;have all:∀ {l:List (List Key×V)} {m:List (List Key×Addr×Value)},KT H l m->∀ x∈m,(tupleKind (gj P w)).is h x.1 x.2.1:=by
  intro l m q
  induction q with
  |nil=>intro x hx;exact nomatch hx
  |@cons p q ps qs hq t ih=>
   intro x hx;rcases cO.mp hx with e|hx
   ·subst e;exact FN ok (by rw[<- hq.1];exact hq.2.1)
   ·exact ih x hx
 exact all r x hx
theorem Rw{kvs:List (List Key×V)}(ok:HOk P w H h)(e:H a=some (.dT kvs)):kvs.length<=sizeLine/\(a==sysModules)=false /\
  ∃ xs,KT H kvs xs/\h.DictOfH (tupleKind (gj P w)) a xs:=YL ok (.inl e)
end
def Pb(H:Hp)(a:Addr)(y:V)(r:Option V):Prop:=
 (∃ kvs k,Rd H a (.dK kvs)/\y=kV k/\r=uN kvs k)\/∃ kvs k b,Rd H a (.dT kvs)/\y=.ref b/\H b=some (.tup (k.map kV))/\r=uN kvs k
def Pg(H:Hp)(a:Addr)(y v:V)(H':Hp):Prop:=
 (∃ kvs k,H a=some (.dK kvs)/\y=kV k/\kvs.length<sizeLine/\H'=upd H a (.dK (putK kvs k v))) \/
 ∃ kvs k b,H a=some (.dT kvs)/\y=.ref b/\H b=some (.tup (k.map kV))/\kvs.length<sizeLine/\H'=upd H a (.dT (putK kvs k v))
theorem Pb.t{H:Hp}{a b:Addr}{kvs:List (List Key×V)}{k:List Key}(e:H a=some (.dT kvs))(eb:H b=some (.tup (k.map kV))):Pb H a (.ref b) (uN kvs k):=.inr ⟨kvs,k,b,.inl e,rfl,eb,rfl⟩
theorem Pg.t{H:Hp}{a b:Addr}{kvs:List (List Key×V)}{k:List Key}{v:V}(e:H a=some (.dT kvs))(eb:H b=some (.tup (k.map kV)))(hl:kvs.length<sizeLine) :
  Pg H a (.ref b) v (upd H a (.dT (putK kvs k v))):=.inr ⟨kvs,k,b,e,rfl,eb,hl,rfl⟩
section
variable{X:Cx}{pins:List (Addr×Obj)}{zzs:St}{H:Hp}{s:Shared}{a:Addr}{y v:V}{u r:Value}{o:Option V}{A:Around}{E:Value->Shared->Prop}
theorem Inv.big(I:Inv X pins zzs H s):sysModules<s.heap.objs.size:=by
 have h:mainGlobals<s.heap.objs.size:=(I.mod.glob.keeps I.bk).lt;exact Nat.lt_trans (by decide) h
theorem Wd{Q:Value->Shared->Prop}(hu:A.units+1<cLine)(I:Inv X pins zzs H s)(g:Pb H a y o)(ry:RelV y u)(h:∀ s',Inv X pins zzs H s'->Q (.bool (!o.isSome)) s') :
  wpAny (model X.prog X.w) A (compareOp .NotIn u (.ref a)) Q E s:=by
 rcases g with⟨kvs,k,e,ey,l⟩|⟨kvs,k,b,e,ey,eb,l⟩
 ·subst ey;obtain⟨z,hd,vs,rel,dd⟩:=YJ I.hok e;refine wpAny_notIn_of (RX ry) hd dd.mapOf ?_;rw[<- (rel.val k).vO,<- l];exact h _ (I.tok _)
 ·subst ey;cases (show u=Value.ref b from ry);obtain⟨z,hd,xs,rel,dd⟩:=YL I.hok e;refine wpAny_notIn_heap (tupleKind_room_in1 hu) (FN I.hok eb) hd dd ?_;have q:=(rel.val k).vO;rw[Option.isSome_map] at q;rw[<- q,<- l];exact h _ (I.tok _)
theorem Fo{h':Heap}{t':Nat}{ob:HO}(I:Inv X pins zzs H s)(mu:Mut (H a))(hs:Heap.SameBut a s.heap h')(he:∃ q,h'.get? a=some q)(new:eU X.prog X.w (upd H a ob) h' a ob) :
  Inv X pins zzs (upd H a ob) { s with heap:=h',toks:=t' }:=
 I.write (x:=a) (e:=a) mu (.inl rfl) (fun b q hb z=>(hs.2 b hb).trans z) he new
theorem Zy{P:Program}{w:World}{H':Hp}{h':Heap}{kvs:List (Key×V)}{vs:List (Key×Value)}(z:kvs.length<=sizeLine)(hd:(a==sysModules)=false)(rel:KV kvs vs)(dd:h'.DictOf (gj P w) a vs) :
  eU P w H' h' a (.dK kvs):=⟨z,hd,vs,rel,dd⟩
theorem PN{H':Hp}{Q:Unit->Shared->Prop}(hu:A.units+1<cLine)(I:Inv X pins zzs H s)(g:Pg H a y v H')(ry:RelV y u)(rv:RelV v r)(h:∀ s',Inv X pins zzs H' s'->Q () s') :
  wpAny (model X.prog X.w) A (setItem (.ref a) u r) Q E s:=by
 rcases g with⟨kvs,k,e,ey,l,eH⟩|⟨kvs,k,b,e,ey,eb,l,eH⟩
 ·subst ey eH;obtain⟨z,hd,vs,rel,dd⟩:=a1F I.hok e;have hz:vs.length<=sizeLine:=by rw[<- rel.length];exact z
  have hl:(putK kvs k v).length<=sizeLine:=by have:=xr kvs k v;lia
  refine wpAny_setItem_pairs (hsz:=hz) (RX ry) dd fun h' dd' hs=>h _ ?_
  have he:∃ q,h'.get? a=some q:=let ⟨q,_,_,hq,_⟩:=dd';⟨q,hq⟩;exact Fo I (by rw[e];exact True.intro) hs he (Zy hl hd (rel.put k rv) dd')
 ·subst ey eH;cases (show u=Value.ref b from ry);obtain⟨z,hd,xs,rel,dd⟩:=Rw I.hok e;have hz:xs.length<=sizeLine:=by rw[<- Paired.length rel];exact z
  have hl:(putK kvs k v).length<=sizeLine:=by have:=xr kvs k v;lia
  refine wpAny_setItem_heap (hsz:=hz) (tupleKind_room_in1 hu) (FN I.hok eb) dd fun h' dd' hs=>h _ ?_
  obtain⟨q,es,ep,hq,h2,h3,h4,_,h5⟩:=dd';refine Fo I (by rw[e];exact True.intro) hs ⟨q,hq⟩ ⟨hl,hd,_,(rel.put k eb rv).keeps fun c ys ec=>?_,q,es,ep,hq,h2,h3,h4,h5⟩;rw[bF (qg ec e (fun z=>nomatch z))];exact ec
end
theorem Im{P:Program}{w:World}{H:Hp}(h:Heap)(hb:sysModules<h.objs.size):eU P w H (h.push { cls:=.type "dict",data:=.dict #[] }) h.objs.size (.dT []):=
 ⟨jj _,mz.mpr (lM (fW hb)),[],.nil,_,#[],0,iR _ rfl,⟨rfl,rfl,rfl⟩,rfl,rfl,Hl⟩
def UJ:TE:=fun _ H Q=>∀ p,H p=none->Q (.ref p) (upd H p (.dT []))
section
variable{X:Cx}{pos:Pos}
theorem Tq:PE X (.Dict [] [] pos) UJ:=fun pins s zzs H Q I h=>
 wpAny_Dict_empty ⟨.ref s.heap.objs.size,_,I.laid (a:=s.heap.objs.size) (o:=.dT []) (t':=s.toks) (fun _ _ q=>gY _ q) (bK _) (Im s.heap I.big),rfl,h _ (I.hok.fresh (bK _))⟩
end
def V0:List (TE×TE)->St->Hp->(List (V×V)->Hp->Prop)->Prop
 |[],_,H,Q=>Q [] H
 |(tk,tv)::r,zzs,H,Q=>tk zzs H fun x H1=>tv zzs H1 fun y H2=>V0 r zzs H2 fun ps H3=>Q ((x,y)::ps) H3
abbrev VV:List (V×V)->List (Value×Value)->Prop:=Paired fun p q=>RelV p.1 q.1/\RelV p.2 q.2
def PPs(X:Cx)(pos:Pos)(keys:List (Option Expr))(values:List Expr)(trs:List (TE×TE)):Prop:=
 ∀(pins:List (Addr×Obj))(s:Shared)(zzs:St)(H:Hp)(Q:List (V×V)->Hp->Prop),Inv X pins zzs H s->V0 trs zzs H Q ->
  wpAny (model X.prog X.w) X.A (evalPairs (pairTrees keys values X.env pos)) (fun vs s'=>∃ ps H',Inv X pins zzs H' s'/\VV ps vs/\Q ps H') X.xe s
theorem XF{X:Cx}{pos:Pos}:PPs X pos [] [] []:=fun pins s zzs H Q I h=>pairTrees_nil_walk ⟨[],H,I,.nil,h⟩
theorem Tz{X:Cx}{pos:Pos}{k v:Expr}{ks:List (Option Expr)}{vs:List Expr}{tk tv:TE}{trs:List (TE×TE)}(hk:PE X k tk)(hv:PE X v tv)(hr:PPs X pos ks vs trs) :
  PPs X pos (some k::ks) (v::vs) ((tk,tv)::trs):=fun pins s zzs H Q I h=>
 pairTrees_cons_walk (thn (hk pins s zzs H _ I h) fun u s1 ⟨x,H1,I1,rx,q1⟩=>thn (hv pins s1 zzs H1 _ I1 q1) fun w2 s2 ⟨y,H2,I2,ry,q2⟩=>
  thn (hr pins s2 zzs H2 _ I2 q2) fun ws s3 ⟨ps,H3,I3,rel,q3⟩=>⟨(x,y)::ps,H3,I3,.cons ⟨rx,ry⟩ rel,q3⟩)
end L2
namespace L2
open PySem PySem.Spec PyProof.Rows
section
variable{X:Cx}
def Yd(neg:Bool):R2:=fun y x H Q=>∃ a o,x=.ref a/\Pb H a y o/\Q (.bl (if neg then !o.isSome else o.isSome)) H
theorem ur(hu:X.A.units+60<cLine):OpR X (compareOp .NotIn) (Yd true):=by
 intro pins s zzs H y x u v Q I ry rx h;obtain⟨a,o,rfl,g,q⟩:=h;cases rx;exact Wd (by lia) I g ry fun s3 I3=>⟨.bl (!o.isSome),H,I3,rfl,q⟩
def a2q:V->V->V->Hp->(Hp->Prop)->Prop:=fun o i v H Q=>∃ a H',o=.ref a/\Pg H a i v H'/\Q H'
theorem set_dict(hu:X.A.units+60<cLine):Ze X a2q:=by
 intro pins s zzs H o i v ov iv u Q I ro ri rv h;obtain⟨a,H',rfl,g,q⟩:=h;cases ro;exact PN (by lia) I g ri rv fun s4 I4=>⟨H',I4,q⟩
end
end L2
namespace L2
open PySem PySem.Spec PyProof.Rows
section
variable{X:Cx}{pos:Pos}{k v:Expr}{tk tv:TE}
def UL(tk tv:TE):TE:=fun zzs H Q=>∀ p,H p=none->tk zzs (upd H p (.dT [])) fun x H1=>tv zzs H1 fun y H2=>∃ ks b,H2 p=some (.dT [])/\x=.ref b/\H2 b=some (.tup (ks.map kV))/\Q (.ref p) (upd H2 p (.dT [(ks,y)]))
theorem Tp(hu:X.A.units+60<cLine)(hk:PE X k tk)(hv:PE X v tv):PE X (.Dict [some k] [v] pos) (UL tk tv):=by
 intro pins s zzs H Q I q;have hn:=I.hok.fresh (bK s.heap.objs.size);have I1:=I.laid (a:=s.heap.objs.size) (o:=.dT []) (h':=s.heap.push { cls:=.type "dict",data:=.dict #[] }) (t':=s.toks) (fun _ _ z=>gY _ z) (bK _) (Im s.heap I.big);refine wpAny_Dict_any rfl rfl (by intro z;cases z) (by show 1<=15;decide) ?_;have pp:PPs X pos [some k] [v] [(tk,tv)]:=Tz hk hv XF;refine thn (pp pins _ zzs _ (fun ps H2=>match ps with
  |[(x,y)]=>∃ ks b,H2 s.heap.objs.size=some (.dT [])/\x=.ref b/\H2 b=some (.tup (ks.map kV))/\Q (.ref s.heap.objs.size) (upd H2 s.heap.objs.size (.dT [(ks,y)]))
  |_=>False) I1 (q _ hn)) fun ws s2 h=>?_
 obtain⟨ps,H2,I2,rel,h⟩:=h;cases rel with
 |nil=>exact h.elim
 |@cons p1 w1 ps' ws' r1 a3u=>
  cases a3u with
  |cons _ _=>exact h.elim
  |nil=>
   obtain⟨x,y⟩:=p1;obtain⟨u,r⟩:=w1;obtain⟨ks,b,e,ex,eb,q2⟩:=h;subst ex;obtain⟨ru,ry⟩:=r1;cases (show u=Value.ref b from ru);obtain⟨z,hd,xs,rel,dd⟩:=Rw I2.hok e;cases rel;show wpAny (model X.prog X.w) X.A (storeAll s.heap.objs.size [(.ref b,r)]) _ _ s2;unfold storeAll;rw[List.forIn_cons];refine bQ (bQ (wpAny_dictSet_heap (knd:=tupleKind (gj X.prog X.w)) (show X.A.units<cLine by lia) (FN I2.hok eb) dd fun h' dd' hs=>cQ ?_));dsimp only;rw[List.forIn_nil];refine cQ ?_;obtain⟨o,es,ep,ho,h2,h3,h4,_,h5⟩:=dd';refine⟨.ref s.heap.objs.size,_,Fo (ob:=.dT [(ks,y)]) I2 (by rw[e];exact True.intro) hs ⟨o,ho⟩ ⟨by show 1<=sizeLine;rw[qN];decide,hd,_,(KT.put (kvs:=[]) (xs:=[]) .nil ks eb ry).keeps fun c ys ec=>?_,o,es,ep,ho,h2,h3,h4,h5⟩,rfl,q2⟩;rw[bF (qg ec e (fun z=>nomatch z))];exact ec
theorem Yg(hu:X.A.units+60<cLine)(hk:RE X k tk)(hv:RE X v tv):RE X (.Dict [some k] [v] pos) (UL tk tv):=⟨Tp hu hk.ok hv.ok⟩
theorem Yh:RE X (.Dict [] [] pos) UJ:=⟨Tq⟩
end
end L2
namespace L2
open PySem PySem.Spec PyProof.Rows PySem.SeqAt PySem.MeetsSeq PySem.MeetsSeq2 PySem.MeetsSeq3
open PySem.AutoSeq1 (wpAny_loadPart')
theorem SJ(I d:Addr)(i n ep:Nat)(es:Array DictEntry)(dd d1:Option Addr)(z1 z2:Array (Option Value))(c:Value)(hi:i<es.size)(hn:n=es.size):Meets (Builtin.«dict_keyiterator.__next__» ⟨[.ref I],[]⟩)
  (fun _ R s=>s.heap.get? I=some { cls:=.type "dict_keyiterator",dict:=dd,data:=.fields #[.ref d,.int i 0,.int n 0,.int ep 0],slots:=z1 }/\s.heap.get? d=some { cls:=.type "dict",dict:=none,data:=.dict es ep,slots:=#[] } /\
   ∀ h' tk',h'.get? I=some { cls:=.type "dict_keyiterator",dict:=dd,data:=.fields #[.ref d,.int ((i+1:Nat):Int) 0,.int n 0,.int ep 0],slots:=z1 }->(∀ b o,b≠I->s.heap.get? b=some o->h'.get? b=some o)->R (.ok (.ret es[i].key)) { s with heap:=h',toks:=tk' }):=
 .of_wp fun prog w A R s h=>by
  obtain⟨hp,g,dr,tk,os⟩:=s;obtain⟨e1,e2,h⟩:=h
  wp_walk using wpAny_loadPart' e1,wpAny_loadPart' e2
  have e:(if(i:Int)<0 then none else es[((i:Nat):Int).toNat]?)=some es[i]:=by
   rw[aJ (by lia),jx,jd hi]
  rw[e];dsimp only
  wp_walk using wpAny_loadPart' e1,wpAny_loadPart' e2
  refine⟨_,rfl,h _ tk ?_ fun b o hb eb=>?_⟩
  ·have:=Heap.get?_update_self (Obj.mapFields fun x=>x.setIfInBounds 1 (rawInt ((i:Int)+1))) e1 rfl;exact this
  ·rw[GC _ _ _ _ hb];exact eb
end L2
namespace L2
open PySem PySem.Spec PyProof.Rows
def Hx(H H':Hp):Prop:=∀ b xs,H b=some (.tup xs)->H' b=some (.tup xs)
theorem Hx.put{H:Hp}{x:Addr}{o u:HO}(hx:H x=some o)(no:∀ xs,o≠.tup xs):Hx H (upd H x u):=fun b xs e=>by
 rw[bF (fun z=>by rw[z,hx] at e;exact no xs (iD e))];exact e
section
variable{K:ao}{H H':Hp}
theorem Hx.cell{v:V}{x:Cell}(s:Hx H H')(h:Den K H v (au x)):Den K H' v (au x):=by
 obtain⟨a,rfl,_,ht⟩:=fM h;exact .tup (s _ _ ht) (.cons (.int _) (.cons (.int _) .nil))
theorem Hx.cells(s:Hx H H'):∀ {vs:List V} {cs:List Cell},aP K H vs (cs.map au)->aP K H' vs (cs.map au)
 |[],[],_=>.nil
 |v::vs,c::cs,.cons h t=>.cons (s.cell h) (s.cells t)
end
def kY(c:Cell):List Key:=[.inl c.1,.inl c.2]
theorem S9{a b:Cell}(e:kY a=kY b):a=b:=by
 unfold kY at e;injection e with e1 e2;injection e2 with e2 _;injection e1 with e1;injection e2 with e2;exact jJ e1 e2
end L2
namespace L2
open PySem PySem.Spec PyProof.Rows
end L2
namespace L2
open PySem PySem.Spec PyProof.Rows PySem.SeqAt PySem.MeetsSeq PySem.MeetsSeq2 PySem.MeetsSeq3
open PySem.AutoSeq1 (wpAny_loadPart')
theorem Wk(I d:Addr)(n ep:Nat)(es:Array DictEntry)(z1:Array (Option Value))(hn:n=es.size):Meets (Builtin.«dict_keyiterator.__next__» ⟨[.ref I],[]⟩)
  (fun A R s=>A.handled=none/\s.heap.get? I=some { cls:=.type "dict_keyiterator",dict:=none,data:=.fields #[.ref d,.int n 0,.int n 0,.int ep 0],slots:=z1 }/\s.heap.get? d=some { cls:=.type "dict",dict:=none,data:=.dict es ep,slots:=#[] } /\
   ∀(h':Heap)(e:Addr),(∃ o,h'.get? e=some o/\o.cls=.type "StopIteration")->(∀ b o,b≠I->s.heap.get? b=some o->h'.get? b=some o)->R (.error (.ref e)) { s with heap:=h' }):=
 .of_wp fun prog w A R s h=>by
  obtain⟨hp,g,dr,tk,os⟩:=s;obtain⟨hh,e1,e2,h⟩:=h
  wp_walk using wpAny_loadPart' e1,wpAny_loadPart' e2
  have e:(if(n:Int)<0 then none else es[((n:Nat):Int).toNat]?)=none:=by
   rw[aJ (by lia),jx];exact Vp (by lia)
  rw[e];dsimp only
  wp_walk using wpAny_loadPart' e1,wpAny_loadPart' e2
  unfold raiseNew;refine bQ (wpAny_handled ?_);have hh':A.in1.handled=none:=hh;rw[hh'];refine bQ (cQ (wpAny_throw (h _ _ ⟨_,iR _ rfl,rfl⟩ fun b o hb eb=>gY _ (gY _ ?_))));rw[GC _ _ _ _ hb];exact eb
section
variable{P:Program}{w:World}{A:Around}{E:Value->Shared->Prop}{s:Shared}
def KIt(I d:Addr)(es:Array DictEntry)(ep i:Nat)(h:Heap):Prop:=
 (∃ z1,h.get? I=some { cls:=.type "dict_keyiterator",dict:=none,data:=.fields #[.ref d,.int i 0,.int es.size 0,.int ep 0],slots:=z1 })/\h.get? d=some { cls:=.type "dict",dict:=none,data:=.dict es ep,slots:=#[] }
theorem KIt.ty{I d:Addr}{es:Array DictEntry}{ep i:Nat}(k:KIt I d es ep i s.heap):s.TypeIs (.ref I) "dict_keyiterator":=let ⟨_,e⟩:=k.1;⟨_,e,rfl⟩
theorem Sg{I d:Addr}{es:Array DictEntry}{ep i:Nat}{Q:Option Value->Shared->Prop}(k:KIt I d es ep i s.heap)(ne:d≠I)(hi:i<es.size)
  (hQ:∀ h' tk',KIt I d es ep (i+1) h'->(∀ b o,b≠I->s.heap.get? b=some o->h'.get? b=some o)->Q (some es[i].key) { s with heap:=h',toks:=tk' }):wpAny (model P w) A (pyNext (.ref I)) Q E s:=by
 obtain⟨⟨z1,e1⟩,e2⟩:=id k;unfold pyNext;refine bQ (wpAny_attempt (wpAny_callSpecial?_slot (name:=Str.ofString "__next__") k.ty JQ
  (qJ JQ k.ty Vc (Vb _) (SJ I d i es.size ep es none none z1 #[] .none hi rfl) ⟨e1,e2,fun h' tk' g1 g2=>?_⟩)))
 exact cQ (hQ h' tk' ⟨⟨z1,g1⟩,g2 d _ ne e2⟩ g2)
theorem WK{I d:Addr}{es:Array DictEntry}{ep:Nat}{Q:Option Value->Shared->Prop}(hh:A.handled=none)(k:KIt I d es ep es.size s.heap)
  (hQ:∀ h',(∀ b o,b≠I->s.heap.get? b=some o->h'.get? b=some o)->Q none { s with heap:=h' }):wpAny (model P w) A (pyNext (.ref I)) Q E s:=by
 obtain⟨⟨z1,e1⟩,e2⟩:=id k;unfold pyNext;refine bQ (wpAny_attempt (wpAny_callSpecial?_slot (name:=Str.ofString "__next__") k.ty JQ
  (qJ JQ k.ty Vc (Vb _) (Wk I d es.size ep es z1 rfl) ⟨hh,e1,e2,fun h' e ho g2=>?_⟩)))
 obtain⟨o,h1,h2⟩:=ho;refine bQ (wpAny_isInstance (T:="StopIteration") (b:=true) ⟨o,h1,h2⟩ isSubtype_stop ?_);exact cQ (hQ h' g2)
theorem Sd{d:Addr}{es:Array DictEntry}{ep:Nat}{Q:Value->Shared->Prop}(lo:(d==sysModules)=false) (e:s.heap.get? d=some { cls:=.type "dict",dict:=none,data:=.dict es ep,slots:=#[] })
  (hQ:Q (.ref s.heap.objs.size) { s with heap:=s.heap.push { cls:=.type "dict_keyiterator",dict:=none,data:=.fields #[.ref d,.int 0 0,.int es.size 0,.int ep 0],slots:=#[] } }):wpAny (model P w) A (pyIter (.ref d)) Q E s:=by
 have ty:s.TypeIs (.ref d) "dict":=⟨_,e,rfl⟩
 refine wpAny_pyIter_slot ty Vq (MN Vq ty PySem.F.entry_dict_iter ?_ (PySem.F.args_dict_iter_1 _));unfold Builtin.«dict.__iter__»;refine bQ ?_;unfold Builtin.Dict.dictSlotNone;refine bQ (wpAny_notOrdered_dict ty ?_);refine cQ ?_;show wpAny _ _ (Builtin.Dict.showsAll d >>= _) _ _ s;unfold Builtin.Dict.showsAll;rw[lo,aJ (by decide)];refine bQ (cQ (bQ (wpAny_dictEntries e rfl (bQ (wpAny_dictEpoch e rfl ?_)))));exact bQ (GJ (cQ ⟨_,rfl,"dict_keyiterator",_,⟨_,iR _ rfl,rfl⟩,JQ.lookup,hQ⟩))
theorem Qj(hh:A.handled=none)(I d:Addr)(ne:d≠I)(es:Array DictEntry)(ep:Nat):Walks P w A I [I,d] [I] es.size (fun i v=>∃ h:i<es.size,v=es[i].key) (KIt I d es ep) where
 sub:=fun b hb=>by rw[dM.mp hb];exact dJ
 frame:=fun i h h' st hk=>⟨let ⟨z,e⟩:=st.1;⟨z,hk I dJ _ e⟩,hk d (fK _ dJ) _ st.2⟩
 item:=fun i s Q E hi st hQ=>Sg st ne hi fun h' tk' k' keep=>hQ _ h' tk' ⟨hi,rfl⟩ k' fun b o hb eb=>keep b o (fun z=>hb (by rw[z];exact dM.mpr rfl)) eb
 done:=fun s Q E st hQ=>WK hh st fun h' keep=>hQ h' s.toks fun b o hb eb=>keep b o (fun z=>hb (by rw[z];exact dM.mpr rfl)) eb
 self:=fun i s Q E st hQ=>let ⟨_,e⟩:=st.1;wpAny_pyIter_keyiter ⟨_,e,rfl,rfl⟩ hQ
theorem WL(d:Addr)(lo:(d==sysModules)=false)(es:Array DictEntry)(ep:Nat):PySem.W.KdlSrc P w "dict" d d es.size (fun i v=>∃ h:i<es.size,v=es[i].key) (fun h=>h.get? d=some { cls:=.type "dict",dict:=none,data:=.dict es ep,slots:=#[] }) where
 type:=fun s e=>⟨_,e,rfl⟩
 there:=fun h e=>⟨bI e,bI e⟩
 keep:=fun h h' e hk=>hk d (.inl rfl) _ e
 notList:=by decide
 notTuple:=by decide
 hint:=fun A E s Q e hq=>PySem.W.kdl_hint_dict ⟨_,e,rfl⟩ hq
 iter:=fun A s hh e=>⟨_,_,fun E Q hq=>Sd lo e hq,Qj hh _ d (fW (bI e)) es ep,⟨⟨_,iR _ rfl⟩,gY _ e⟩⟩
theorem IV{T:String}{r d:Addr}{n:Nat}{G:Nat->Value->Prop}{OK:Heap->Prop}{C:List Value->Shared->Prop}(S:PySem.W.KdlSrc P w T r d n G OK)(hh:A.handled=none)(ok:OK s.heap)(hz:n<=sizeLine)
  (fin:∀(hp:Heap)(tk:Nat)(got:Array Value),(∀ b o,s.heap.get? b=some o->hp.get? b=some o)->s.heap.objs.size<=hp.objs.size->ItemsOf G got n->C got.toList { s with heap:=hp,toks:=tk }):wpAny (model P w) A (collect (.ref r)) C E s:=by
 obtain⟨lr,ld⟩:=S.there _ ok;unfold collect;refine bQ (wpAny_runValue (Hg PySem.F.entry_proto_collect ?_));rw[Gz PySem.F.plain_proto_collect _];show wpAny _ A.in1 (newList [] >>= fun q=>again (.builtin "list.__iadd__" ⟨[q,.ref r],[]⟩)) _ _ s;refine bQ (GJ (cQ ⟨plainId_quiet Vm _,Hg PySem.F.entry_list_iadd ?_⟩));rw[Gz Vm _];have new:(s.heap.push { cls:=.type "list",data:=.seq ([]:List Value).toArray }).get? s.heap.objs.size=some { cls:=.type "list",data:=.seq #[] }:=iR _ rfl;have done:∀(hp:Heap)(tk:Nat)(got:Array Value)(c:Nat),(∀ b o,b≠s.heap.objs.size->(s.heap.push { cls:=.type "list",data:=.seq ([]:List Value).toArray }).get? b=some o->hp.get? b=some o)->hp.get? s.heap.objs.size=some { cls:=.type "list",dict:=none,data:=.seq got c,slots:=#[] }->ItemsOf G got n ->
   wpAny (model P w) A (load s.heap.objs.size >>= fun o=>match o.data with|.seq xs _=>pure xs.toList|_=>unsupported "internal:collect") C E { s with heap:=hp,toks:=tk }:=fun hp tk got c k1 k2 k3=>by
  refine bQ (wpAny_load k2 (cQ (fin hp tk got (fun b o e=>k1 b o (fW (bI e)) (gY _ e)) (Hs (bI k2)) k3)))
 have go:=PySem.W.kdl_extend (A:=A) (s:={ s with heap:=s.heap.push { cls:=.type "list",data:=.seq ([]:List Value).toArray } })
  (R:=fun(x:Result)(s2:Shared)=>x=.ok (.ret (.ref s.heap.objs.size))/\wpAny (model P w) A (load s.heap.objs.size >>= fun o=>match o.data with|.seq xs _=>pure xs.toList|_=>unsupported "internal:collect") C E s2)
  S hh (S.keep _ _ ok fun b _ o e=>gY _ e) s.heap.objs.size (Bs lr) (Bs ld) (.ref s.heap.objs.size) 0 new (fun hp tk got c k1 k2 k3=>⟨rfl,done hp tk got c k1 k2 k3⟩) hz
 refine iT go (fun x s2 y=>?_) fun e s2 y=>?_
 ·cases x with
  |done f=>
   obtain⟨e,y⟩:=y;cases e;exact y
  |again c=>
   refine⟨y.1,wR y.2 fun q s3 z=>?_⟩;obtain⟨e,z⟩:=z;subst e;exact z
 ·exact absurd y.1 (by intro z;cases z)
end
open PySem.W
section
variable{X:Cx}
theorem Zf{cs:List Cell}{n:Nat}{o:Array Nat}(hn:n=cs.length)(g:Good n o)(up:Hy fO (fun i=>cs.getD i (0,0)) o n):Asc (o.toList.map fun i=>cs.getD i (0,0)):=by
 unfold Asc;rw[rP];intro i j hi hj hij;rw[aV,jf,g.size] at hi hj;have hle:=up.le lW (j-i) i (by lia);have e1:i+(j-i)=j:=by lia
 rw[e1] at hle;have hno:=mD hle;have sz:=g.size;have key:∀ k,(hk:k<n)->Ky (fun i=>cs.getD i (0,0)) o k=(o.toList.map fun i=>cs.getD i (0,0))[k]'(by rw[aV,jf,sz];exact hk):=fun k hk=>by
  unfold Ky;rw[Bf,mq,jd (by lia)];rfl
 rw[<- key i hi,<- key j hj];exact hno
theorem IK{K:ao}{H:Hp}{f:Cell->V}:∀ {cs:List Cell} {ws:List (List Key×Addr×Value)},KT H (cs.map fun c=>(kY c,f c)) ws->aP K H (ws.map fun x=>V.ref x.2.1) (cs.map au)
 |[],ws,h=>by cases h;exact .nil
 |c::cs,ws,h=>by
  cases h with
  |@cons p q ps qs hq t=>exact .cons (.tup (show H q.2.1=some (.tup [.int c.1,.int c.2]) from hq.2.1) (.cons (.int _) (.cons (.int _) .nil))) (IK t)
theorem Dv:∀(ws:List (List Key×Addr×Value)),Vals (ws.map fun x=>V.ref x.2.1) (ws.map fun x=>Value.ref x.2.1)
 |[]=>.nil
 |x::ws=>.cons rfl (Dv ws)
def U5(K:ao):List V->Hp->VK->Prop:=fun xs H Q=>∃(d:Addr)(cs:List Cell)(f:Cell->V),xs=[.ref d]/\H d=some (.dT (cs.map fun c=>(kY c,f c)))/\cs.length<64/\∀ l ws ds,H l=none->aP K H ws (ds.map au)->ds.Perm cs->Asc ds->Q (.ref l) (upd H l (.lst ws))
theorem K8(hc:X.calm=true)(hu:X.A.units+60<cLine):dZ X (.builtin "sorted") (U5 X.K):=by
 intro pins s zzs H xs us Q I r h;obtain⟨d,cs,f,rfl,e,h64,q⟩:=h;obtain⟨u,rfl,ru⟩:=vals1 r;cases ru;obtain⟨z,lo,ws,rel,ob,es,ep,g1,g2,g3,g4,g5⟩:=Rw I.hok e;have g1':s.heap.get? d=some { cls:=.type "dict",dict:=none,data:=.dict es ep,slots:=#[] }:=by
  obtain⟨c1,c2,c3,c4⟩:=ob;obtain⟨a1,a2,a3⟩:=g2;dsimp only at a1 a2 a3 g3;subst a1 a2 a3 g3;exact g1
 have D:=IK (K:=X.K) rel;have rv:=Dv ws;have nw:es.size=ws.length:=size_of_entries g4;have hl:ws.length=cs.length:=by have:=D.length;rwa[aV,aV] at this
 have hz:es.size<=sizeLine:=by rw[qN];lia
 refine Vg kind_sorted plain_sorted entry_sorted (args_sorted1 _) ?_;unfold Builtin.«sorted»;refine bQ (m:=checkCount "sorted" 1 1 _) (cQ (bQ (IV (WL d lo es ep) (I.ok.hd hc) g1' hz fun hp tk got keep a2B items=>?_)));have eg:got.toList=ws.map fun x=>Value.ref x.2.1:=by
  refine GQ fun j=>?_
  rw[Ej,cV];by_cases hj:j<es.size
  ·have hg:j<got.size:=by rw[items.1];exact hj
   obtain⟨_,ev⟩:=items.2 j got[j] (jd hg);rw[jd hg,ev];have hw:j<ws.length:=by lia
   have:es.toList[j]?=(ws.map (entryOfKey (tupleKind (gj X.prog X.w))))[j]? :=by rw[g4]
   rw[Ej,jd hj,cV,dU hw] at this;rw[dU hw];have e2:=iD this;rw[e2];rfl
  ·rw[Vp (by rw[items.1];lia),Vs (by lia)];rfl
 rw[eg];have lus:(ws.map fun x=>Value.ref x.2.1).length=cs.length:=by rw[aV,hl]
 have lvs:(ws.map fun x=>V.ref x.2.1).length=cs.length:=by rw[aV,hl]
 generalize hvs:(ws.map fun x=>V.ref x.2.1)=vs at D rv lvs;generalize hus:(ws.map fun x=>Value.ref x.2.1)=its at rv lus;have hz2:its.length<=sizeLine:=by rw[qN];lia
 refine bQ (wpAny_newList ?_ (by simpa using hz2));have at0:(hp.push (seqObj "list" its.toArray 0)).get? hp.objs.size=some (seqObj "list" its.toArray 0):=iR _ rfl;show wpAny _ _ _ _ _ { s with heap:=hp.push (seqObj "list" its.toArray 0),toks:=tk };refine bQ (wO (MN slot_list_sort ⟨_,at0,rfl⟩ entry_list_sort (HB (h0:=s.heap) lW (CN I D rv) (by show X.A.units+1+1+2<cLine;lia) (wW I D rv) hz2 at0 (fun b o eb=>⟨gY _ (keep b o eb),fW (bI (keep b o eb))⟩) fun o g up=>⟨_,rfl,cQ ⟨_,rfl,?_⟩⟩) (args_list_sort _)));obtain⟨en,he⟩:=sortedHeap_at (vs:=its) (out:=(byP its o).toArray) at0;have hn:H hp.objs.size=none:=I.hok.fresh a2B;have bd:∀ i∈o.toList,i<vs.length:=fun i hi=>by rw[lvs,<- lus];exact cJ.mp (g.perm.mem_iff.mp hi)
 have rv':Vals (o.toList.map fun i=>vs.getD i .non) (byP its o):=yM rv o.toList bd;have dv:aP X.K H (o.toList.map fun i=>vs.getD i .non) ((o.toList.map fun i=>cs.getD i (0,0)).map au):=by
  have:=Fp (d0:=au (0,0)) D o.toList bd;have e1:(o.toList.map fun i=>(cs.map au).getD i (au (0,0)))=((o.toList.map fun i=>cs.getD i (0,0)).map au):=by
   rw[mH];refine Ax fun i hi=>?_
   simp only[fX,cV,Function.comp];cases cs[i]?<;>rfl
  rw[<- e1];exact this
 have pc:(o.toList.map fun i=>cs.getD i (0,0)).Perm cs:=ux (by rw[<- lus];exact g.perm);have as:Asc (o.toList.map fun i=>cs.getD i (0,0)):=Zf (by omega) g up;have lo':(o.toList.map fun i=>vs.getD i .non).length<=sizeLine:=by
  rw[aV,jf,g.size];exact hz2
 refine⟨.ref hp.objs.size,upd H hp.objs.size (.lst (o.toList.map fun i=>vs.getD i .non)),I.laid (a:=hp.objs.size) (o:=.lst (o.toList.map fun i=>vs.getD i .non)) (t':=tk) (fun b o eb=>?_) a2B ⟨lo',byP its o,en,rv',he⟩,rfl,q _ _ _ hn dv pc as⟩;have eb':=keep b o eb;rw[sortedHeap_old (fW (bI eb')) (by rw[size_push'];exact Nat.lt_succ_of_lt (bI eb'))];exact gY _ eb'
theorem Wy{K:ao}(hc:X.calm=true)(hu:X.A.units+60<cLine)(hK:X.K=K:=by rfl):dZ X (.builtin "sorted") (U5 K):=by subst hK;exact K8 hc hu
end
end L2
namespace L2
open PySem PySem.Spec PyProof.Rows
end L2
namespace L2
open PySem
end L2
namespace L2
open PySem PySem.Spec PyProof.Rows
end L2
namespace L2
open PySem PySem.Spec PyProof.Rows
end L2
namespace L2
open PySem PySem.Spec PyProof.Rows PySem.SeqAt PySem.MeetsSeq PySem.MeetsSeq2 PySem.MeetsSeq3
open PySem.AutoSeq1 (wpAny_loadPart')
namespace SF
end SF
end L2
namespace L2
open PySem PySem.Spec PyProof.Rows PySem.SeqAt PySem.MeetsSeq PySem.MeetsSeq2 PySem.MeetsSeq3
open PySem.AutoSeq1 (wpAny_loadPart')
end L2
namespace L2
open PySem PySem.Spec PyProof.Rows PySem.W
end L2
namespace L2
open PySem PySem.Spec PyProof.Rows PySem.W
end L2
namespace L2
open PySem PySem.Spec PyProof.Rows PySem.SeqAt PySem.MeetsSeq PySem.MeetsSeq2 PySem.MeetsSeq3
open PySem.AutoSeq1 (wpAny_loadPart')
theorem Jq(A:Around)(s:Shared)(a:Int)(t:Tok)(c:Int)(u:Tok)(prog:Program)(w:World)(E:Value->Shared->Prop)(Q:Value->Shared->Prop)(h:Q (.bool (decide (a<c))) s):wpAny (model prog w) A (richCompare .Lt (.int a t) (.int c u)) Q E s:=
 (lt_int h:wpAny (model prog w) A (compareOp .Lt (.int a t) (.int c u)) Q E s)
theorem Jp(A:Around)(s:Shared)(a:Int)(t:Tok)(c:Int)(u:Tok)(prog:Program)(w:World)(E:Value->Shared->Prop)(Q:Value->Shared->Prop)(h:Q (.bool (decide (c<a))) s):wpAny (model prog w) A (richCompare .Gt (.int a t) (.int c u)) Q E s:=
 (gt_int h:wpAny (model prog w) A (compareOp .Gt (.int a t) (.int c u)) Q E s)
theorem WX(p q:Addr)(x1 x2 y1 y2:Int)(t1 t2 u1 u2:Tok)(n m:Nat)(d1 d2:Option Addr)(z1 z2:Array (Option Value)):Meets (Builtin.«tuple.__lt__» ⟨[.ref p,.ref q],[]⟩)
  (fun _ R s=>s.heap.get? p=some { cls:=.type "tuple",dict:=d1,data:=.seq #[.int x1 t1,.int x2 t2] n,slots:=z1 }/\s.heap.get? q=some { cls:=.type "tuple",dict:=d2,data:=.seq #[.int y1 u1,.int y2 u2] m,slots:=z2 }/\R (.ok (.ret (.bool (fO (x1,x2) (y1,y2))))) s):=
 .of_wp fun prog w A R s h=>by
  obtain⟨hp,g,d,tk,os⟩:=s;obtain⟨e1,e2,h⟩:=h;have f2:=M6;have k1:=fun(Q:Bool->Shared->Prop)(E:Value->Shared->Prop)(h:Q (x1==y1) ⟨hp,g,d,tk,os⟩)=>(qL (t:=t1) (u:=u1) h:wpAny (model prog w) A.in1 (eqBool (.int x1 t1) (.int y1 u1)) Q E ⟨hp,g,d,tk,os⟩)
  have k2:=fun(Q:Bool->Shared->Prop)(E:Value->Shared->Prop)(h:Q (x2==y2) ⟨hp,g,d,tk,os⟩)=>(qL (t:=t2) (u:=u2) h:wpAny (model prog w) A.in1 (eqBool (.int x2 t2) (.int y2 u2)) Q E ⟨hp,g,d,tk,os⟩)
  have r1:=Jq A.in1 ⟨hp,g,d,tk,os⟩ x1 t1 y1 u1 prog w;have r2:=Jq A.in1 ⟨hp,g,d,tk,os⟩ x2 t2 y2 u2 prog w;have out:∀ b:Bool,(b=true↔aX (x1,x2) (y1,y2))->R (.ok (.ret (.bool b))) ⟨hp,g,d,tk,os⟩:=fun b hb=>by
   have:b=fO (x1,x2) (y1,y2):=by
    unfold fO;by_cases hc:aX (x1,x2) (y1,y2)
    ·rw[bT hc];exact hb.mpr hc
    ·rw[cB hc];cases b
     ·rfl
     ·exact absurd (hb.mp rfl) hc
   rw[this];exact h
  wp_walk using wpAny_loadPart' e1,wpAny_loadPart' e2,k1,k2
  by_cases q1:x1=y1
  ·rw[show(x1==y1)=true from jR.mpr q1]
   wp_walk using k2
   by_cases q2:x2=y2
   ·rw[show(x2==y2)=true from jR.mpr q2]
    wp_walk
    refine⟨_,rfl,out _ ?_⟩;simp[Builtin.Tuple.tupleCompareSizes,aX,q1,q2]
   ·rw[show(x2==y2)=false from mz.mpr q2]
    wp_walk using r2
    refine⟨_,rfl,out _ ?_⟩;rw[iC];unfold aX;dsimp only;lia
  ·rw[show(x1==y1)=false from mz.mpr q1]
   wp_walk using r1
   refine⟨_,rfl,out _ ?_⟩;rw[iC];unfold aX;dsimp only;lia
theorem Wr(p q:Addr)(x1 x2 y1 y2:Int)(t1 t2 u1 u2:Tok)(n m:Nat)(d1 d2:Option Addr)(z1 z2:Array (Option Value)):Meets (Builtin.«tuple.__gt__» ⟨[.ref p,.ref q],[]⟩)
  (fun _ R s=>s.heap.get? p=some { cls:=.type "tuple",dict:=d1,data:=.seq #[.int x1 t1,.int x2 t2] n,slots:=z1 }/\s.heap.get? q=some { cls:=.type "tuple",dict:=d2,data:=.seq #[.int y1 u1,.int y2 u2] m,slots:=z2 }/\R (.ok (.ret (.bool (fO (y1,y2) (x1,x2))))) s):=
 .of_wp fun prog w A R s h=>by
  obtain⟨hp,g,d,tk,os⟩:=s;obtain⟨e1,e2,h⟩:=h;have f2:=M6;have k1:=fun(Q:Bool->Shared->Prop)(E:Value->Shared->Prop)(h:Q (x1==y1) ⟨hp,g,d,tk,os⟩)=>(qL (t:=t1) (u:=u1) h:wpAny (model prog w) A.in1 (eqBool (.int x1 t1) (.int y1 u1)) Q E ⟨hp,g,d,tk,os⟩)
  have k2:=fun(Q:Bool->Shared->Prop)(E:Value->Shared->Prop)(h:Q (x2==y2) ⟨hp,g,d,tk,os⟩)=>(qL (t:=t2) (u:=u2) h:wpAny (model prog w) A.in1 (eqBool (.int x2 t2) (.int y2 u2)) Q E ⟨hp,g,d,tk,os⟩)
  have r1:=Jp A.in1 ⟨hp,g,d,tk,os⟩ x1 t1 y1 u1 prog w;have r2:=Jp A.in1 ⟨hp,g,d,tk,os⟩ x2 t2 y2 u2 prog w;have out:∀ b:Bool,(b=true↔aX (y1,y2) (x1,x2))->R (.ok (.ret (.bool b))) ⟨hp,g,d,tk,os⟩:=fun b hb=>by
   have:b=fO (y1,y2) (x1,x2):=by
    unfold fO;by_cases hc:aX (y1,y2) (x1,x2)
    ·rw[bT hc];exact hb.mpr hc
    ·rw[cB hc];cases b
     ·rfl
     ·exact absurd (hb.mp rfl) hc
   rw[this];exact h
  wp_walk using wpAny_loadPart' e1,wpAny_loadPart' e2,k1,k2
  by_cases q1:x1=y1
  ·rw[show(x1==y1)=true from jR.mpr q1]
   wp_walk using k2
   by_cases q2:x2=y2
   ·rw[show(x2==y2)=true from jR.mpr q2]
    wp_walk
    refine⟨_,rfl,out _ ?_⟩;simp[Builtin.Tuple.tupleCompareSizes,aX,q1,q2]
   ·rw[show(x2==y2)=false from mz.mpr q2]
    wp_walk using r2
    refine⟨_,rfl,out _ ?_⟩;rw[iC];unfold aX;dsimp only;lia
  ·rw[show(x1==y1)=false from mz.mpr q1]
   wp_walk using r1
   refine⟨_,rfl,out _ ?_⟩;rw[iC];unfold aX;dsimp only;lia
section
variable{X:Cx}{K:ao}
def a2k(K:ao):R2:=fun x y H Q=>∃(a b:Cell),Den K H x (au a)/\Den K H y (au b)/\Q (.bl (fO b a)) H
theorem a0n(hu:X.A.units+60<cLine):OpR X (compareOp .Gt) (a2k X.K):=by
 intro pins s zzs H x y v u Q I rx ry h;obtain⟨a,b,da,db,q⟩:=h;obtain⟨p,o,t1,t2,n,rfl,e1,c1,f1⟩:=kI I da rx;obtain⟨p',o',u1,u2,m,rfl,e2,c2,f2⟩:=kI I db ry;obtain⟨oc,od,of,os⟩:=o;obtain⟨oc',od',of',os'⟩:=o';dsimp only at c1 f1 c2 f2;subst c1 f1 c2 f2;refine M9 (op:=.Gt) ⟨_,e1,rfl⟩ ⟨_,e2,rfl⟩ PySem.F.slot_tuple_gt PySem.F.entry_tuple_gt (PySem.F.args_tuple_gt_2 _ _) (Wr p p' a.1 a.2 b.1 b.2 t1 t2 u1 u2 n m od od' os os') ⟨e1,e2,?_⟩ (by lia);exact(show Value.bool (fO b a)≠Value.notImplemented/\EP X pins zzs Q (.bool (fO b a)) s from⟨(fun z=>nomatch z),⟨.bl (fO b a),H,I,rfl,q⟩⟩)
theorem a1R(hu:X.A.units+60<cLine)(hK:X.K=K:=by rfl):OpR X (compareOp .Gt) (a2k K):=by subst hK;exact a0n hu
end
def llt:List Cell->List Cell->Bool
 |[],[]=>false
 |[],_::_=>true
 |_::_,[]=>false
 |a::x,b::y=>if a=b then llt x y else fO a b
theorem uf:jr llt:=by
 refine⟨?_,?_,?_⟩
 ·intro a
  induction a with
  |nil=>intro b h;cases b<;>first|rfl|(cases h)
  |cons x a ih=>
   intro b h;cases b with
   |nil=>cases h
   |cons y b=>
    unfold llt at h ⊢;by_cases e:x=y
    ·rw[aL e] at h;rw[aL e.symm];exact ih b h
    ·rw[aJ e] at h;rw[aJ (lM e)];exact lW.HF _ _ h
 ·intro a
  induction a with
  |nil=>intro b c _ h;cases c<;>first|rfl|skip;cases b<;>simp_all[llt]
  |cons x a ih=>
   intro b c h1 h2;cases b with
   |nil=>simp[llt] at h1
   |cons y b=>
    cases c with
    |nil=>simp[llt] at h2
    |cons z c=>
     unfold llt at h1 h2 ⊢;by_cases e1:y=x
     ·subst e1;rw[aL rfl] at h1;by_cases e2:z=y
      ·rw[aL e2] at h2 ⊢;exact ih b c h1 h2
      ·rw[aJ e2] at h2 ⊢;exact h2
     ·rw[aJ e1] at h1;by_cases e2:z=y
      ·subst e2;rw[aJ e1];exact h1
      ·rw[aJ e2] at h2;by_cases e3:z=x
       ·subst e3;exact absurd (lW.anti _ _ h1 h2) (by simpa using e1)
       ·rw[aJ e3];exact lW.tr _ _ _ h1 h2
 ·intro a
  induction a with
  |nil=>intro b h1 h2;cases b<;>simp_all[llt]
  |cons x a ih=>
   intro b h1 h2;cases b with
   |nil=>simp[llt] at h2
   |cons y b=>
    unfold llt at h1 h2;by_cases e:x=y
    ·rw[aL e] at h1;rw[aL e.symm] at h2;rw[e,ih b h1 h2]
    ·rw[aJ e] at h1;rw[aJ (lM e)] at h2;exact absurd (lW.anti _ _ h1 h2) e
end L2
namespace L2
open PySem PySem.Spec PyProof.Rows PySem.SeqAt PySem.MeetsSeq PySem.MeetsSeq2 PySem.MeetsSeq3
open PySem.AutoSeq1 (wpAny_loadPart')
def Zd(A:Around)(s:Shared)(y x:Value)(b:Bool):Prop:=
 ∀(prog:Program)(w:World)(E:Value->Shared->Prop)(Q:Value->Shared->Prop),Q (.bool b) s->wpAny (model prog w) A (richCompare .Lt y x) Q E s
theorem WW(l b:Addr)(xs ys:Array Value)(n m:Nat)(d1 d2:Option Addr)(z1 z2:Array (Option Value))(cs ds:List Cell)(hx:xs.size=cs.length)(hy:ys.size=ds.length)(k:Nat) :
  ∀ i:Nat,cs.length-i=k->i<=cs.length->i<=ds.length->Meets (Builtin.«list.__eq__.loop» ⟨[.ref l,.ref b,rawInt i,rawInt 0],[]⟩)
   (fun A R s=>s.heap.get? l=some { cls:=.type "list",dict:=d1,data:=.seq xs n,slots:=z1 }/\s.heap.get? b=some { cls:=.type "list",dict:=d2,data:=.seq ys m,slots:=z2 } /\
    (∀ j (h1:j<xs.size) (h2:j<ys.size) (h3:j<cs.length) (h4:j<ds.length),EqAt A.in1 s xs[j] ys[j] (decide (cs[j]=ds[j]))/\Zd A.in1 s xs[j] ys[j] (fO cs[j] ds[j])) /\
    R (.ok (.ret (.bool (llt (cs.drop i) (ds.drop i))))) s):=by
 have fin:∀ i,i<=cs.length->i<=ds.length->(i=cs.length\/i=ds.length)->llt (cs.drop i) (ds.drop i)=decide (xs.size<ys.size):=fun i i1 i2 ho=>by
  rw[hx,hy];by_cases e1:i=cs.length
  ·rw[Ma (by lia)];by_cases e2:i=ds.length
   ·rw[Ma (by lia),cB (by lia)];rfl
   ·rw[xO (by lia),bT (by lia)];rfl
  ·have e2:i=ds.length:=by lia
   rw[xO (by lia),Ma (l:=ds) (by lia),cB (by lia)];rfl
 induction k with
 |zero=>
  intro i hk i1 i2 prog w A R s h;obtain⟨hp,g,d,tk,os⟩:=s;obtain⟨hl,hb,he,h⟩:=h
  wp_walk using wpAny_loadPart' hl,wpAny_loadPart' hb
  have hi1:xs[((i:Nat):Int).toNat]?=none:=by simp;lia
  rw[hi1];rw[fin i i1 i2 (.inl (by lia))] at h;cases ys[((i:Nat):Int).toNat]?
  all_goals
   wp_walk using wpAny_loadPart' hl,wpAny_loadPart' hb
   exact h
 |succ k ih=>
  intro i hk i1 i2 prog w A R s h;obtain⟨hp,g,d,tk,os⟩:=s;obtain⟨hl,hb,he,h⟩:=h
  wp_walk using wpAny_loadPart' hl,wpAny_loadPart' hb
  have hi1:xs[((i:Nat):Int).toNat]?=some xs[i]:=by
   rw[jx];exact jd (by lia)
  by_cases e2:i=ds.length
  ·have hi2:ys[((i:Nat):Int).toNat]?=none:=by simp;lia
   rw[hi1,hi2];rw[fin i i1 i2 (.inr e2)] at h
   wp_walk using wpAny_loadPart' hl,wpAny_loadPart' hb
   exact h
  ·have hi2:ys[((i:Nat):Int).toNat]?=some ys[i]:=by
    rw[jx];exact jd (by lia)
   have hc:((i:Int)+1)=((i+1:Nat):Int):=by push_cast;rfl
   obtain⟨g1,g2⟩:=he i (by lia) (by lia) (by lia) (by lia);rw[hi1,hi2];rw[xO (by lia),xO (l:=ds) (by lia)] at h;unfold llt at h;refine bQ (g1 prog w _ _ ?_);by_cases e3:cs[i]=ds[i]
   ·rw[aL e3] at h;rw[bT e3]
    wp_walk
    rw[hc];exact⟨plainId_quiet plain_eq_loop _,Hg entry_eq_loop (by
     rw[Gz plain_eq_loop _];exact ih (i+1) (by lia) (by lia) (by lia) prog w A R _ ⟨hl,hb,he,h⟩)⟩
   ·rw[aJ e3] at h;rw[cB e3]
    wp_walk using wpAny_loadPart' hl,wpAny_loadPart' hb
    rw[hi1,hi2];refine bQ (g2 prog w _ _ ?_)
    wp_walk
    exact h
theorem Sq(l b:Addr)(xs ys:Array Value)(n m:Nat)(d1 d2:Option Addr)(z1 z2:Array (Option Value))(cs ds:List Cell)(hx:xs.size=cs.length)(hy:ys.size=ds.length):Meets (Builtin.«list.__lt__» ⟨[.ref l,.ref b],[]⟩)
   (fun A R s=>s.heap.get? l=some { cls:=.type "list",dict:=d1,data:=.seq xs n,slots:=z1 }/\s.heap.get? b=some { cls:=.type "list",dict:=d2,data:=.seq ys m,slots:=z2 } /\
    (∀ j (h1:j<xs.size) (h2:j<ys.size) (h3:j<cs.length) (h4:j<ds.length),EqAt A.in1 s xs[j] ys[j] (decide (cs[j]=ds[j]))/\Zd A.in1 s xs[j] ys[j] (fO cs[j] ds[j])) /\
    R (.ok (.ret (.bool (llt cs ds)))) s):=by
 intro prog w A R s h;obtain⟨hp,g,d,tk,os⟩:=s;obtain⟨hl,hb,he,h⟩:=h;have f3:=AutoSeq1.sub_list_list
 wp_walk using wpAny_loadPart' hl,wpAny_loadPart' hb
 exact⟨plainId_quiet plain_eq_loop _,Hg entry_eq_loop (by
  rw[Gz plain_eq_loop _];exact WW l b xs ys n m d1 d2 z1 z2 cs ds hx hy _ 0 rfl (jj _) (jj _) prog w A R _ ⟨hl,hb,he,h⟩)⟩
end L2
namespace L2
open PySem PySem.Spec PyProof.Rows PySem.W PySem.SeqAt
structure kh(h:Heap)(u:Value)(c:Cell):Prop where
 ex:∃(a:Addr)(o:Obj)(t t':Tok)(n:Nat),u=.ref a/\h.get? a=some o/\o.cls=.type "tuple" /\ o.data=.seq #[.int c.1 t,.int c.2 t'] n
theorem kh.keep{h h':Heap}{u:Value}{c:Cell}(e:kh h u c)(k:Keeps h h'):kh h' u c:=by
 obtain⟨a,o,t,t',n,h1,h2,h3,h4⟩:=e.ex;exact⟨a,o,t,t',n,h1,k _ _ h2,h3,h4⟩
structure pR(h:Heap)(u:Value)(cs:List Cell):Prop where
 ex:∃(a:Addr)(o:Obj)(us:Array Value)(n:Nat),u=.ref a/\h.get? a=some o/\o.cls=.type "list" /\ o.data=.seq us n/\us.size=cs.length/\∀ j (h1:j<us.size) (h2:j<cs.length),kh h us[j] cs[j]
theorem pR.keep{h h':Heap}{u:Value}{cs:List Cell}(e:pR h u cs)(k:Keeps h h'):pR h' u cs:=by
 obtain⟨a,o,us,n,h1,h2,h3,h4,h5,h6⟩:=e.ex;exact⟨a,o,us,n,h1,k _ _ h2,h3,h4,h5,fun j g1 g2=>(h6 j g1 g2).keep k⟩
section
variable{A:Around}{s:Shared}
theorem Q0{x y:Value}{c d:Cell}(hx:kh s.heap x c)(hy:kh s.heap y d)(hu:A.units<cLine):EqAt A s x y (decide (c=d)):=by
 obtain⟨a,o,t,t',n,rfl,h2,h3,h4⟩:=hx.ex;obtain⟨b,o',u,u',m,rfl,g2,g3,g4⟩:=hy.ex;by_cases e:a=b
 ·subst e;rw[h2] at g2;cases g2;rw[h4] at g4;have e1:c=d:=by
   injection g4 with g5 _;have g6:[Value.int c.1 t,Value.int c.2 t']=[Value.int d.1 u,Value.int d.2 u']:=congrArg Array.toList g5;injection g6 with a1 a2;injection a2 with a2 _;injection a1 with a1 _;injection a2 with a2 _;exact jJ a1 a2
  rw[bT e1];exact EqAt.same _
 ·have key:=Hv e (RcAt.tuples (e:=fun j=>if j=0 then c.1==d.1 else c.2==d.2) ⟨o,h2,h3,n,h4⟩ ⟨o',g2,g3,m,g4⟩ hu fun j j1 j2=>?_)
  ·have:((List.range (min (#[Value.int c.1 t,Value.int c.2 t']:Array Value).size (#[Value.int d.1 u,Value.int d.2 u']:Array Value).size)).all (fun j=>if j=0 then c.1==d.1 else c.2==d.2)&&(#[Value.int c.1 t,Value.int c.2 t']:Array Value).size==(#[Value.int d.1 u,Value.int d.2 u']:Array Value).size)=decide (c=d):=by
    show((List.range 2).all (fun j=>if j=0 then c.1==d.1 else c.2==d.2)&&true)=_;have:List.range 2=[0,1]:=rfl;rw[this];simp only[Br,List.all_nil,aL,Bool.and_true];rw[tG];simp[Prod.ext_iff]
   rw[this] at key;exact key
  ·match j,j1,j2 with
   |0,_,_=>exact fun prog w E Q h=>qL h
   |1,_,_=>exact fun prog w E Q h=>qL h
   |j+2,j1,_=>exact absurd j1 (by simp)
theorem Qp{x y:Value}{c d:Cell}(hx:kh s.heap x c)(hy:kh s.heap y d)(hu:A.units<cLine):Zd A s x y (fO c d):=by
 obtain⟨a,o,t,t',n,rfl,h2,h3,h4⟩:=hx.ex;obtain⟨b,o',u,u',m,rfl,g2,g3,g4⟩:=hy.ex;obtain⟨oc,od,of,os⟩:=o;obtain⟨oc',od',of',os'⟩:=o';dsimp only at h3 h4 g3 g4;subst h3 h4 g3 g4;intro prog w E Q q;refine M9 (op:=.Lt) ⟨_,h2,rfl⟩ ⟨_,g2,rfl⟩ PySem.F.slot_tuple_lt PySem.F.entry_tuple_lt (PySem.F.args_tuple_lt_2 _ _) (WX a b c.1 c.2 d.1 d.2 t t' u u' n m od od' os os') ⟨h2,g2,?_⟩ hu;exact(show Value.bool (fO c d)≠Value.notImplemented/\Q (.bool (fO c d)) s from⟨(fun z=>nomatch z),q⟩)
theorem Ss{prog:Program}{w:World}{E:Value->Shared->Prop}{x y:Value}{cs ds:List Cell}(hx:pR s.heap x cs)(hy:pR s.heap y ds)(hu:A.units+2<cLine){Q:Bool->Shared->Prop}(q:Q (llt cs ds) s):wpAny (model prog w) A (keyLt' oneType' x y) Q E s:=by
 obtain⟨a,o,us,n,rfl,h2,h3,h4,h5,h6⟩:=hx.ex;obtain⟨b,o',vs,m,rfl,g2,g3,g4,g5,g6⟩:=hy.ex;obtain⟨oc,od,of,os⟩:=o;obtain⟨oc',od',of',os'⟩:=o';dsimp only at h3 h4 g3 g4;subst h3 h4 g3 g4;rw[keyLt'_oneType,oneLt'_eq];simp only[mV];refine bQ (wpAny_cRoomFor (by lia) ?_);refine bQ (wpAny_callSpecialIfBound?_slot (T:="list") ⟨_,h2,rfl⟩ Vx (qJ Vx ⟨_,h2,rfl⟩ PySem.F.entry_list_lt (PySem.F.args_list_lt_2 _ _) (Sq a b us vs n m od od' os os' cs ds h5 g5) ⟨h2,g2,fun j j1 j2 j3 j4=>⟨Q0 (h6 j j1 j3) (g6 j j2 j4) (by show A.units+1<cLine;lia),Qp (h6 j j1 j3) (g6 j j2 j4) (by show A.units+1<cLine;lia)⟩,?_⟩));exact uR q
end
theorem Lf{P:Program}{w:World}{h:Heap}{us:List Value}{rs:List (List Cell)}(hl:us.length=rs.length)(at_:∀ i,i<rs.length->pR h (us.getD i Value.none) (rs.getD i [])):Nb P w h us llt fun i=>rs.getD i []:=by
 refine⟨fun h2=>⟨oneType',fun A' E' s' Q' kp q=>?_,fun A' s' i j C hu kp hi hj hC=>?_⟩⟩
 ·refine kas_kind (T:=.type "list") h2 (fun v hv=>?_) (by decide) (by decide) q;obtain⟨i,hi,rfl⟩:=Mj.mp hv;have:=at_ i (by lia);rw[fX,dU hi] at this;obtain⟨a,o,us',n,e,h2,h3,_⟩:=this.ex;have e':us[i]=.ref a:=e;rw[e'];refine Looks.keeps ?_ kp;exact fun A Q E s k q=>wpAny_typeOf ⟨o,k _ _ h2,h3⟩ q
 ·exact Ss ((at_ i (by lia)).keep kp) ((at_ j (by lia)).keep kp) hu hC
end L2
namespace L2
open PySem PySem.Spec PyProof.Rows PySem.W
abbrev vZ(cs:List Cell):Dt:=.lst (cs.map au)
theorem kh.det{h:Heap}{u:Value}{c d:Cell}(x:kh h u c)(y:kh h u d):c=d:=by
 obtain⟨a,o,t,t',n,rfl,h2,h3,h4⟩:=x.ex;obtain⟨b,o',v,v',m,e,g2,g3,g4⟩:=y.ex;cases e;rw[h2] at g2;cases g2;rw[h4] at g4;injection g4 with g5 _;have g6:[Value.int c.1 t,Value.int c.2 t']=[Value.int d.1 v,Value.int d.2 v']:=congrArg Array.toList g5;injection g6 with a1 a2;injection a2 with a2 _;injection a1 with a1 _;injection a2 with a2 _;exact jJ a1 a2
theorem pR.det{h:Heap}{u:Value}{cs ds:List Cell}(x:pR h u cs)(y:pR h u ds):cs=ds:=by
 obtain⟨a,o,us,n,rfl,h2,h3,h4,h5,h6⟩:=x.ex;obtain⟨b,o',vs,m,e,g2,g3,g4,g5,g6⟩:=y.ex;cases e;rw[h2] at g2;cases g2;rw[h4] at g4;injection g4 with g5' _;subst g5';refine List.ext_getElem (by lia) fun i i1 i2=>?_
 exact(h6 i (by lia) i1).det (g6 i (by lia) i2)
section
variable{X:Cx}
theorem Yl{pins:List (Addr×Obj)}{zzs:L2.St}{H:Hp}{s:Shared}{v:V}{u:Value}{cs:List Cell}(I:Inv X pins zzs H s)(d:Den X.K H v (vZ cs))(r:RelV v u):pR s.heap u cs:=by
 cases d with
 |@lst a xs _ h hs=>
  cases r;obtain⟨its,rv,⟨o,n,e1,e2,_,e3⟩,_⟩:=I.list h;have hl:its.length=cs.length:=by rw[<- rv.length,hs.length,aV]
  refine⟨a,o,its.toArray,n,rfl,e1,e2,e3,by simpa using hl,fun j j1 j2=>?_⟩;have jv:j<xs.length:=by rw[rv.length,hl];exact j2
  obtain⟨u',eu,ru⟩:=rv.get (show xs[j]?=some xs[j] from by simp[jv]);obtain⟨d',ed,dd⟩:=hs.get (show xs[j]?=some xs[j] from by simp[jv]);rw[cV,dU j2] at ed;cases ed;have e4:its.toArray[j]=u':=by
   rw[dU (by omega)] at eu;simpa using iD eu
  rw[e4];exact⟨kI I dd ru⟩
def Rb(rs:List (List Cell)):Prop:=rs.Pairwise fun a b=>llt b a=false
def U6(K:ao):List V->Hp->VK->Prop:=fun xs H Q=>∃(p:Addr)(vs:List V)(rs:List (List Cell)),xs=[.ref p]/\SqL K H p vs/\aP K H vs (rs.map vZ)/\∀(l:Addr)(o:List Nat),H l=none->o.Perm (List.range vs.length)->Rb (o.map fun i=>rs.getD i [])->Q (.ref l) (upd H l (.lst (o.map fun i=>vs.getD i .non)))
theorem K9(hu:X.A.units+60<cLine):dZ X (.builtin "sorted") (U6 X.K):=by
 intro pins s zzs H xs us Q I r h;obtain⟨p,vs,rs,rfl,hS,D,q⟩:=h;obtain⟨u,rfl,ru⟩:=vals1 r;cases ru;obtain⟨its,rv,pl,hz⟩:=I.list hS;have hl:its.length=rs.length:=by rw[<- rv.length,D.length,aV]
 have hv:vs.length=its.length:=rv.length;have at_:∀ i,i<rs.length->pR s.heap (its.getD i Value.none) (rs.getD i []):=fun i hi=>by
  have hv':i<vs.length:=by lia
  obtain⟨u',eu,ru⟩:=rv.get (show vs[i]?=some vs[i] from by simp[hv']);obtain⟨d',ed,dd⟩:=D.get (show vs[i]?=some vs[i] from by simp[hv']);rw[cV,dU hi] at ed;cases ed;rw[fX,eu,fX,dU hi];exact Yl I dd ru
 have one:vg its fun i=>rs.getD i []:=fun i j hi hj e=>by
  have a1:=at_ i (by lia);have a2:=at_ j (by lia);rw[e] at a1;exact a1.det a2
 refine yS uf one (by lia) (Lf hl at_) (by lia) pl.isList fun o g up=>?_
 obtain⟨e,he⟩:=sortedAll_at s.heap its (byP its o).toArray;have hn:H (s.heap.objs.size+1)=none:=I.hok.fresh (tL _);have bd:∀ i∈o.toList,i<vs.length:=fun i hi=>by rw[hv];exact cJ.mp (g.perm.mem_iff.mp hi)
 have rv':Vals (o.toList.map fun i=>vs.getD i .non) (byP its o):=yM rv o.toList bd;have pv:(o.toList.map fun i=>vs.getD i .non).Perm vs:=ux (by rw[hv];exact g.perm);have as:Rb (o.toList.map fun i=>rs.getD i []):=by
  unfold Rb;rw[rP];intro i j hi hj hij;rw[aV,jf,g.size] at hi hj;have:=up.le uf (j-i) i (by lia);have e1:i+(j-i)=j:=by lia
  rw[e1] at this;have sz:=g.size;have a1:Ky (fun i=>rs.getD i []) o i=(o.toList.map fun i=>rs.getD i [])[i]:=by
   unfold Ky;rw[Bf,mq,jd (by lia)];rfl
  have a2:Ky (fun i=>rs.getD i []) o j=(o.toList.map fun i=>rs.getD i [])[j]:=by
   unfold Ky;rw[Bf,mq,jd (by lia)];rfl
  rw[<- a1,<- a2];exact this
 have hz':(o.toList.map fun i=>vs.getD i .non).length<=sizeLine:=by rw[pv.length_eq];exact hz
 exact⟨.ref (s.heap.objs.size+1),upd H (s.heap.objs.size+1) (.lst (o.toList.map fun i=>vs.getD i .non)),I.laid (a:=s.heap.objs.size+1) (o:=.lst (o.toList.map fun i=>vs.getD i .non)) (t':=s.toks) (fun b o q=>sortedAll_old q) (tL _) ⟨hz',byP its o,e,rv',he⟩,rfl,q _ _ hn (by rw[hv];exact g.perm) as⟩
theorem Wz{K:ao}(hu:X.A.units+60<cLine)(hK:X.K=K:=by rfl):dZ X (.builtin "sorted") (U6 K):=by subst hK;exact K9 hu
theorem Nh{α:Type}{lt:α->α->Bool}(o:jr lt):∀ {xs ys:List α},xs.Perm ys->xs.Pairwise (fun a b=>lt b a=false)->ys.Pairwise (fun a b=>lt b a=false)->xs=ys
 |[],ys,p,_,_=>by rw[List.nil_perm.mp p]
 |x::xs,[],p,_,_=>absurd p.length_eq (by simp)
 |x::xs,y::ys,p,hx,hy=>by
  rw[qK] at hx hy;have e:x=y:=by
   have h1:x∈y::ys:=p.mem_iff.mp dJ;have h2:y∈x::xs:=p.mem_iff.mpr dJ;rcases cO.mp h1 with z|z
   ·exact z
   ·rcases cO.mp h2 with w|w
    ·exact w.symm
    ·exact o.anti _ _ (hy.1 x z) (hx.1 y w)
  subst e;rw[Nh o ((List.perm_cons x).mp p) hx.2 hy.2]
end
end L2
namespace L2
open PySem PySem.Spec PyProof.Rows PySem.W
inductive gJ{α:Type}(R:α->V->Hp->Prop)(H:Hp):List V->List α->Prop
 |nil:gJ R H [] []
 |cons {v:V} {a:α} {vs:List V} {xs:List α} (h:R a v H) (t:gJ R H vs xs):gJ R H (v::vs) (a::xs)
section
variable{α β:Type}{R:α->V->Hp->Prop}{R2:β->V->Hp->Prop}{H H':Hp}
def Cq(R:α->V->Hp->Prop):Prop:=∀ a v H H',Same H H'->R a v H->R a v H'
theorem gJ.mono(hR:Cq R)(s:Same H H'):∀ {vs:List V} {xs:List α},gJ R H vs xs->gJ R H' vs xs
 |_,_,.nil=>.nil
 |_,_,.cons h t=>.cons (hR _ _ _ _ s h) (t.mono hR s)
theorem gJ.length:∀ {vs:List V} {xs:List α},gJ R H vs xs->vs.length=xs.length
 |_,_,.nil=>rfl
 |_,_,.cons _ t=>by rw[gP,gP,t.length]
theorem gJ.append:∀ {vs ws:List V} {xs ys:List α},gJ R H vs xs->gJ R H ws ys->gJ R H (vs++ws) (xs++ys)
 |_,_,_,_,.nil,h=>h
 |_,_,_,_,.cons h t,h2=>.cons h (t.append h2)
theorem gJ.get:∀ {vs:List V} {xs:List α} {i:Nat} {v:V},gJ R H vs xs->vs[i]?=some v->∃ a,xs[i]?=some a/\R a v H
 |_,_,i,v,.nil,h=>by simp at h
 |_,_,0,v,.cons h t,e=>by simp at e;exact⟨_,rfl,by rw[<- e];exact h⟩
 |_,_,i+1,v,.cons h t,e=>by simp at e;obtain⟨a,ea,r⟩:=t.get e;exact⟨a,by simpa using ea,r⟩
theorem gJ.imp{R':α->V->Hp->Prop}(f:∀ a v,R a v H->R' a v H'):∀ {vs:List V} {xs:List α},gJ R H vs xs->gJ R' H' vs xs
 |_,_,.nil=>.nil
 |_,_,.cons h t=>.cons (f _ _ h) (t.imp f)
theorem gJ.Zx{K:ao}{enc:α->Dt}(f:∀ a v,R a v H->Den K H v (enc a)):∀ {vs:List V} {xs:List α},gJ R H vs xs->aP K H vs (xs.map enc)
 |_,_,.nil=>.nil
 |_,_,.cons h t=>.cons (f _ _ h) (t.Zx f)
theorem gJ.by{d0:α}:∀ {vs:List V} {xs:List α} (o:List Nat),gJ R H vs xs->(∀ i∈o,i<vs.length)->gJ R H (o.map fun i=>vs.getD i .non) (o.map fun i=>xs.getD i d0)
 |vs,xs,[],_,_=>.nil
 |vs,xs,i::o,h,hb=>by
  have hi:=hb i dJ;obtain⟨a,ea,r⟩:=h.get (dU hi);rw[fH,fH];refine .cons ?_ (h.by o fun j hj=>hb j (fK _ hj));rw[fX,fX,dU hi,ea];exact r
theorem zj{J:It}{vs:List V}{xs:List α}{tc:TT}{te:TE}{zzs:St}{fin:List V->Hp->Prop}(hR:Cq R)(hR2:Cq R2)(hJ:pN J H vs)(hx:gJ R H vs xs)(hn:xs.length<=sizeLine)(p:α->Bool)(f:α->β)
  (ht:∀ a∈xs,∀ v H',Same H H'->R a v H'->∀ G:Bool->Hp->Prop,(∀ H'',Same H' H''->G (p a) H'')->tc (some v::zzs) H' G)
  (hf:∀ a∈xs,p a=true->∀ v H',Same H H'->R a v H'->∀ G:VK,(∀ y H'',Same H' H''->R2 (f a) y H''->G y H'')->te (some v::zzs) H' G)
  (hd:∀ ys H',Same H H'->gJ R2 H' ys ((xs.filter p).map f)->fin ys H'):∃ W:Nat->Nat->List V->Hp->Prop,(∃ m,W 0 m [] H)/\pJ J tc te zzs fin W:=by
 have hlv:vs.length=xs.length:=hx.length;refine Nu (n:=vs.length) (item:=fun i=>vs.getD i .non) (fun i ys H'=>Same H H'/\gJ R2 H' ys (((xs.take i).filter p).map f)) (by rw[hlv];exact hn) (fun i ys H' hi r=>hJ.go H' i r.1 hi) (fun i ys H' v H'' hi r y=>?_) (fun ys H' r=>hJ.stop H' r.1)
  (fun i ys H' hi r=>?_) ⟨Same.refl _,.nil⟩ (fun i ys H' hi r G hG=>?_) (fun ys H' r=>?_)
 ·obtain⟨e,e'⟩:=hJ.yld H' i v H'' r.1 hi y;exact⟨by rw[fX,e];rfl,e'⟩
 ·rw[r.2.length,aV];exact cP (iw _ _) (by rw[lQ];exact Nat.min_le_left _ _)
 ·obtain⟨s1,D⟩:=r;have hi':i<xs.length:=by lia
  have ev:vs[i]?=some (vs.getD i .non):=by simp[fX,hi]
  obtain⟨d,ed,dv⟩:=hx.get ev;have ea:d=xs[i]:=by
   rw[dU hi'] at ed;exact(iD ed).symm
  subst ea;have tk:xs.take (i+1)=xs.take i++[xs[i]]:=by rw[jP,dU hi'];rfl
  refine ht xs[i] (mG hi') _ H' s1 (hR _ _ _ _ s1 dv) _ fun H2 s2=>?_
  cases hp:p xs[i] with
  |false=>
   refine oJ (hG _ _ ⟨s1.trans s2,?_⟩);rw[tk,xQ,show List.filter p [xs[i]]=[] by simp[hp],xW];exact D.mono hR2 s2
  |true=>
   refine Iz (hf xs[i] (mG hi') hp _ H2 (s1.trans s2) (hR _ _ _ _ (s1.trans s2) dv) _ fun y H3 s3 dy=>hG _ _ ⟨(s1.trans s2).trans s3,?_⟩);rw[tk,xQ,show List.filter p [xs[i]]=[xs[i]] by simp[hp],eG];exact(D.mono hR2 (s2.trans s3)).append (.cons dy .nil)
 ·rw[hlv,jO] at r;exact hd ys H' r.1 r.2
theorem CZ{J:It}{vs:List V}{xs:List α}{te:TE}{zzs:St}{fin:List V->Hp->Prop}(hR:Cq R)(hR2:Cq R2)(hJ:pN J H vs)(hx:gJ R H vs xs)(hn:xs.length<=sizeLine)(f:α->β)
  (hf:∀ a∈xs,∀ v H',Same H H'->R a v H'->∀ G:VK,(∀ y H'',Same H' H''->R2 (f a) y H''->G y H'')->te (some v::zzs) H' G)
  (hd:∀ ys H',Same H H'->gJ R2 H' ys (xs.map f)->fin ys H'):∃ W:Nat->Nat->List V->Hp->Prop,(∃ m,W 0 m [] H)/\pJ J R5 te zzs fin W:=
 zj hR hR2 hJ hx hn (fun _=>true) f (fun a _ v H' _ _ G hG=>hG H' (Same.refl _)) (fun a ha _=>hf a ha) fun ys H' s D=>hd ys H' s (by rw[Aw.mpr (fun _ _=>rfl)] at D;exact D)
end
def del(q:Addr)(H:Hp):Hp:=fun b=>if b=q then none else H b
theorem kJ{q b:Addr}{H:Hp}(n:b≠q):del q H b=H b:=aJ n
theorem zy{q:Addr}{H:Hp}:Same (del q H) H:=fun b o e=>by
 unfold del at e;by_cases h:b=q
 ·rw[aL h] at e;cases e
 ·rwa[aJ h] at e
theorem SameBut.del{q:Addr}{H H':Hp}(s:SameBut q H H'):Same (L2.del q H) (L2.del q H'):=fun b o e=>by
 by_cases h:b=q
 ·subst h;unfold L2.del at e;rw[aL rfl] at e;cases e
 ·rw[kJ h] at e ⊢;exact s _ _ e h
theorem Same.into{q:Addr}{H H':Hp}(s:Same H H')(n:H q=none):Same H (L2.del q H'):=fun b o e=>by
 rw[kJ (bV e n)];exact s _ _ e
section
variable{K:ao}{q:Addr}{H:Hp}{l:List V}
theorem W9:SameBut q H (del q H):=fun b o e n=>by rw[kJ n];exact e
theorem vH{p:Addr}{cs:List Cell}(hq:H q=some (.lst l))(n:p≠q)(h:Ls K H p (cs.map au)):Ls K (del q H) p (cs.map au):=W9.ls hq n h
end
def lU(K:ao)(H0:Hp)(r:List Cell)(v:V)(H:Hp):Prop:=∃ a,v=.ref a/\H0 a=none/\Ls K H a (r.map au)
theorem lU.stays{K:ao}{H0:Hp}:Cq (lU K H0):=fun r v H H' s h=>by
 obtain⟨a,e,n,l⟩:=h;exact⟨a,e,n,l.mono s⟩
theorem lU.den{K:ao}{H0 H:Hp}{r:List Cell}{v:V}(h:lU K H0 r v H):Den K H v (vZ r):=by
 obtain⟨a,rfl,n,l⟩:=h;exact l.den
theorem CK{K:ao}{H:Hp}:∀ {vs:List V} {cs ds:List Cell},aP K H vs (cs.map au)->aP K H vs (ds.map au)->cs=ds
 |[],[],[],_,_=>rfl
 |v::vs,c::cs,d::ds,.cons h t,.cons h' t'=>by
  obtain⟨a,rfl,_,e⟩:=fM h;obtain⟨b,e1,_,e'⟩:=fM h';cases e1;rw[e] at e';injection e' with e';injection e' with e';injection e' with e1 e2;injection e2 with e2 _;injection e1 with e1;injection e2 with e2;rw[CK t t',show c=d from jJ e1 e2]
theorem lU.det{K:ao}{H0 H:Hp}{r r':List Cell}{v:V}(h:lU K H0 r v H)(h':lU K H0 r' v H):r=r':=by
 obtain⟨a,rfl,n,xs,e,D⟩:=h;obtain⟨b,e1,n',xs',e',D'⟩:=h';cases e1;rw[e] at e';cases e';exact CK D D'
end L2
namespace L2
open PySem PySem.Spec PyProof.Rows
section
variable{P:Program}{w:World}{K:ao}{mg:Str->Option Value}{base:Heap}{N:List Str}{qual:Str}{scope:Scope}{f:Addr}{cd:Value}{A:Around}{outer:List Env}{s0:Shared}{H0:Hp}{E:XK}
theorem yD:Passes (CXE P w) (pG (CXE P w) P w K mg base N qual scope f cd A outer s0 H0 E) E:=by
 rintro pins zzs H s e s' I ⟨ea,C,H',rfl,hos,hg,u2,hok,fly,hE⟩;obtain⟨B,t,fw,Bk⟩:=fly.fl;have ZK:∀ b,b∈frs (envOfC qual scope s0.heap.objs.size f cd::outer)->b=s0.heap.objs.size\/b∈frs outer:=fun b hb=>cO.mp (I.sY b hb)
 have sub:∀ b∈frs outer,b∈frs (envOfC qual scope s0.heap.objs.size f cd::outer):=fun b hb=>by
  obtain⟨x,hx,e⟩:=Ay.mp hb;exact Ay.mpr ⟨x,fK _ hx,e⟩
 show wpAny (model P w) (A.deeper (envOfC qual scope s0.heap.objs.size f cd)) (leaving (envOfC qual scope s0.heap.objs.size f cd) (.ref ea)) (fun _ s''=>CXE P w outer H0 s0 E (.ref ea) s'') (fun e' s''=>CXE P w outer H0 s0 E e' s'') s';refine wpAny_leaves_onW I.ok.frames rfl fw fun h' fw' sm=>?_
 have u1:Un (frs outer) [] H0 H s0.heap s.heap:=I.base;have u:Un (frs (envOfC qual scope s0.heap.objs.size f cd::outer)) [] H0 H' s0.heap s'.heap:=(u1.mono sub fun _ z=>z).trans u2;have nx:∀ b:Addr,b∉([]:List Addr):=fun b=>by simp
 have Qs:∀ b o,s0.heap.get? b=some o->b∉frs outer->b∉frs (envOfC qual scope s0.heap.objs.size f cd::outer):=fun b o q n hb=>by
  rcases ZK b hb with z|z
  ·exact fW (bI q) z
  ·exact n z
 have iu:∀ b o,s'.heap.get? b=some o->(H' b≠none\/∃ o',s.heap.get? b=some o')->b∉frs (envOfC qual scope s0.heap.objs.size f cd::outer)->h'.get? b=some o:=fun b o q hb n=>fw'.1 b o (Bk b o q hb n)
 have frm:∀ b,b∈frs (envOfC qual scope s0.heap.objs.size f cd::outer)->H' b=none/\∃ o,s'.heap.get? b=some o/\∀ ws,o.data≠.fields ws:=fun b hb=>by
  obtain⟨_,o,ho,hd⟩:=I.stack.mem hb;have hn:=I.uL b hb;obtain⟨sl,e2⟩:=u2.slot b o ho hn hb (nx b);exact⟨u2.free b o ho hn (nx b),_,e2,hd⟩
 refine⟨ea,C,H',rfl,hos.trans I.os,hg,⟨fun b o q n hb _=>?_,fun b o q n hb _=>?_,fun b o q n _=>u.free b o q n (nx b),fun b o q _=>?_,u.tups,u.qe,u.rG⟩,fun a o q=>?_,⟨fly.free,?_,B,t,fw',fun b o q hb n=>?_⟩,hE⟩
 ·obtain⟨o1,e1⟩:=u1.there b o q (nx b);exact iu b o (u.keep b o q n (Qs b o q hb) (nx b)) (.inr ⟨o1,e1⟩) (Qs b o q hb)
 ·obtain⟨sl,e2⟩:=u.slot b o q n (sub b hb) (nx b);obtain⟨_,o2,eo,hd⟩:=frm b (sub b hb);rw[e2] at eo;cases eo;obtain⟨sl',e3⟩:=sm b _ e2 hd;exact⟨sl',e3⟩
 ·by_cases hb:b∈frs (envOfC qual scope s0.heap.objs.size f cd::outer)
  ·obtain⟨_,o2,eo,hd⟩:=frm b hb;obtain⟨sl',e3⟩:=sm b _ eo hd;exact⟨_,e3⟩
  ·obtain⟨o1,e1⟩:=u1.there b o q (nx b);obtain⟨o2,e2⟩:=u.there b o q (nx b);exact⟨o2,iu b o2 e2 (.inr ⟨o1,e1⟩) hb⟩
 ·refine(hok a o q).stay (fun b v hb z=>iu b v z (.inl ?_) ?_) (fun _ z=>z) fun _ _ z=>z
  ·rcases hb with rfl|hb
   ·rw[q];exact fun z=>by cases z
   ·rw[hb];exact fun z=>by cases z
  ·intro y;have:=(frm b y).1;rcases hb with rfl|hb
   ·rw[q] at this;cases this
   ·rw[hb] at this;cases this
 ·cases q:s0.heap.get? ea with
  |none=>rfl
  |some o=>
   obtain⟨ob,z⟩:=u1.there ea o q (nx ea);rw[fly.new] at z;cases z
 ·have key:∃ o',s'.heap.get? b=some o'/\(H' b≠none\/∃ o',s.heap.get? b=some o')/\b∉frs (envOfC qual scope s0.heap.objs.size f cd::outer):=by
   rcases hb with z|⟨o',z⟩
   ·cases r:H' b with
    |none=>exact absurd r z
    |some v=>
     obtain⟨ob,y⟩:=(hok b v r).there;exact⟨ob,y,.inl (fun z=>by cases z),fun hb=>by have:=(frm b hb).1;rw[r] at this;cases this⟩
   ·obtain⟨o1,e1⟩:=u1.there b o' z (nx b);obtain⟨o2,e2⟩:=u.there b o' z (nx b);exact⟨o2,e2,.inr ⟨o1,e1⟩,Qs b o' z n⟩
  obtain⟨o',y,h1,h2⟩:=key;have:=iu b o' y h1 h2;rw[q] at this;cases this;exact Bk b _ y h1 h2
end
end L2
namespace L2
open PySem PySem.Spec PyProof.Rows
end L2
namespace L2
open PySem PySem.Spec PyProof.Rows PySem.SeqAt
end L2
namespace L2
open PySem PySem.Spec PyProof.Rows
end L2
namespace L2
open PySem PySem.Spec PyProof.Rows PySem.SeqAt
open PySem.AutoSeq1 (wpAny_loadPart')
section
variable{X:Cx}{K:ao}
theorem Q6(l b:Addr)(us ws:Array Value)(n m:Nat)(sl:Array (Option Value))(h0:¬(!us.isEmpty&&Builtin.List.listTooLong (us.size+ws.size))=true)(h1:us.size<=sizeLine)(h2:us.size+ws.size<=sizeLine+1) :
  Meets (Builtin.«list.extend» ⟨[.ref l,.ref b],[]⟩) (fun _ R s=>s.heap.get? l=some { cls:=.type "list",dict:=none,data:=.seq us n,slots:=#[] }/\s.heap.get? b=some { cls:=.type "list",dict:=none,data:=.seq ws m,slots:=sl }/\R (.ok (.ret .none)) { s with heap:=s.heap.update l (Obj.mapSeq fun x=>x++ws),toks:=s.toks }):=by
 refine .of_wp fun prog w A R s h=>?_
 obtain⟨hp,g,d,tk,os⟩:=s;obtain⟨el,eb,h⟩:=h;have f1:=AutoSeq1.idx_int;have f3:=AutoSeq1.sub_list_list;have hz:(us++ws).size<=sizeLine+1:=by rw[Array.size_append];exact h2
 wp_walk using (wpAny_updateSeq el rfl (hz:=h1) (_hz':=hz)),wpAny_loadPart' el,wpAny_loadPart' eb
 exact⟨_,rfl,h⟩
def U3(K:ao):V->List V->Hp->VK->Prop:=fun x vs H Q=>∃ l b xs zs,x=.ref l/\vs=[.ref b]/\H l=some (.lst xs)/\SqL K H b zs/\xs.length+zs.length<=sizeLine/\Q .non (upd H l (.lst (xs++zs)))
theorem RZ(hK:X.K=K:=by rfl):MtM X "list.extend" (U3 K):=by
 subst hK;intro pins s zzs H x vs v us Q I rx rv h;obtain⟨l,b,xs,zs,rfl,rfl,hH,hB,hz,q⟩:=h;cases rx;obtain⟨u,rfl,ru⟩:=rv.one;cases ru;obtain⟨z,its,n,r,hl,e⟩:=I.Qo hH;obtain⟨its2,r2,⟨o,n2,e2,c2,d2,s2⟩,_⟩:=I.list hB;have l1:=r.length;have l2:=r2.length;obtain⟨cls,dd,data,sl⟩:=o;dsimp only at c2 d2 s2;subst c2 d2 s2;have hsz:its.toArray.size+its2.toArray.size<=sizeLine:=by rw[cR,cR];lia
 have RV:¬(!its.toArray.isEmpty&&Builtin.List.listTooLong (its.toArray.size+its2.toArray.size))=true:=by
  rw[Jb hsz,Bp];exact fG
 refine qJ F.slot_list_extend ⟨_,e,rfl⟩ F.entry_list_extend (F.args_list_extend_2 _ _) (Q6 l b its.toArray its2.toArray n n2 sl RV (by rw[cR];lia) (by lia)) ⟨e,e2,?_⟩;refine⟨.non,_,I.a04 (its':=its++its2) hH e (by simp) (r.append r2) ?_,rfl,q⟩;rw[cM];omega
end
end L2
namespace L2
open PySem PySem.Spec PyProof.Rows
end L2
namespace L2
open PySem PySem.Spec PyProof.Rows
def Ft(K:ao)(C C':Addr):Bool:=match K.lookup C with
 |some ⟨.type "type",_,.cls cd,_⟩=>cd.mro.contains (.ref C')
 |_=>false
theorem RQ{K:ao}{C C':Addr}(c:gQ K C)(e:PySem.W.kitOne K (.ref C) (.ref C')=some true):(C=C'\/Ft K C C'=true)/\gQ K C:=by
 refine⟨?_,c⟩;unfold PySem.W.kitOne at e;by_cases q:(Value.ref C==Value.ref C')=true
 ·left;have:=eq_of_beq q;injection this
 right;rw[aJ q] at e;have hx:=c.ex;unfold PySem.W.excIn at hx;split at hx
 ·rename_i dd cd sl ho;have e2:PySem.W.mroIn K C (.ref C')=some true:=by
   have e':(if((PySem.W.clsIn K C').isSome&&PySem.W.typeIn K (.ref C')==some (.type "type"))=true then PySem.W.mroIn K C (.ref C') else none)=some true:=e;split at e'
   ·exact e'
   ·cases e'
  unfold PySem.W.mroIn PySem.W.clsIn at e2;rw[ho] at e2;unfold Ft;rw[ho];have e3:(if cd.mro.isEmpty then none else some (cd.mro.contains (.ref C')))=some true:=e2;split at e3
  ·cases e3
  ·injection e3
 ·cases hx
section
variable{X:Cx}
def V3(K:ao)(C':Addr)(ts:TS)(th:Addr->TS):Addr->TS:=fun C D zzs H=>
 (((C=C'\/Ft K C C'=true)/\gQ K C)/\ts { nx:=fun _ _=>False,rt:=D.rt } zzs H)\/(C≠C'/\gQ K C/\NK K C C'=true/\th C D zzs H)
theorem Xw{x:Str}{np hpos:Pos}{b₀:Stmt}{suite:List Stmt}{rest:List ExceptHandler}{C':Addr}{ts:TS}{th:Addr->TS}
  (hg:Gl X x) (hm:X.mg x=some (.ref C')) (c':gQ X.K C') (hs:∀ ea,PSs (rZ X ea) (b₀::suite) ts) (hr:PH X rest th) (hd:(x==("__debug__" : Str))=false:=by decide) :
  PH X (.ExceptHandler (some (.Name x np)) none (b₀::suite) hpos::rest) (V3 X.K C' ts th):=by
 intro pins zzs H ea C s D a h;have I:=a.inv;refine wpAny_handleBy_cons (codeAny_handlers_test ?_) (by intro q;cases q);refine qY (X:=rZ X ea) (I.hand ea) hg hm ?_ hd;obtain⟨ob,hob,hcls⟩:=a.obj;obtain⟨tl',Na',nm',q',bs',a3C,sn',sub',ab',col',dd',k0',k1',k2',k3',k5',mN',hC',hN2,a3H,T'⟩:=c'.obj I.kIn;have hcB:(Value.ref C'::tl').contains (.type "BaseException")=true:=by rw[List.contains_cons,T'.hasType Gu.hasBase,Bool.or_true]
 have f:=tc_notTuple;rcases h with⟨⟨hit,c⟩,h⟩|⟨hne,c,hmiss,h⟩
 ·obtain⟨tl,Na,nm,q,bs,hdct,sn,sub,ab,col,dd,k0,k1,k2,k3,k5,mN,hC,hN',hni,T⟩:=c.obj I.kIn;obtain⟨hp,g,d,tk,os⟩:=s;have hit':(Value.ref C::tl).contains (.ref C')=true:=by
   rcases hit with rfl|hit
   ·simp
   unfold Ft at hit;split at hit
   ·rename_i dd2 cd2 sl2 ho;have e:=I.kIn _ _ ho;have e2:hp.get? C=some ⟨.type "type",dd2,.cls cd2,sl2⟩:=e;rw[hC] at e2;unfold excClassObj at e2;cases e2;simpa using hit
   ·cases hit
  have key:∀ Q:Bool->Shared->Prop,Q true ⟨hp,g,d,tk,os⟩->wpAny (model X.prog X.w) (rZ X ea).A (excMatches (.ref ea) (.ref C')) Q (notedBy (model X.prog X.w) (X.A.mark (some (.ref ea))) X.env (cameBackBy (model X.prog X.w) X.A X.env X.xe)) ⟨hp,g,d,tk,os⟩:=fun Q hq=>by
   unfold excMatches
   repeat (first|(with_reducible refine GR hob ?_;rw[hcls])|with_reducible refine GR hC' ?_|(with_reducible refine GD hC' ?_;rw[hcB])|(with_reducible refine GD hC ?_;rw[hit'])|wp_step)
   exact hq
  refine key _ ?_;show codeAny _ _ _ _ _;refine codeAny_handlers_suite (a.again fun h' a'=>?_);have J:=a'.inv.hand ea;refine iT (hs ea pins _ _ _ { nx:=fun _ _=>False,rt:=D.rt } J h) (fun f s3 q3=>?_) fun _ _ z=>False.elim z
  cases f with
  |next=>obtain⟨_,_,_,z⟩:=q3;exact False.elim z
  |brk=>obtain⟨_,_,_,z⟩:=q3;exact False.elim z
  |cont=>obtain⟨_,_,_,z⟩:=q3;exact False.elim z
  |ret u=>
   obtain⟨v,bG,H'',J3,rv,q⟩:=q3;exact⟨v,bG,H'',J3.a1n I.ok,rv,q⟩
 ·obtain⟨tl,Na,nm,q,bs,hdct,sn,sub,ab,col,dd,k0,k1,k2,k3,k5,mN,hC,hN',hni,T⟩:=c.obj I.kIn;obtain⟨hp,g,d,tk,os⟩:=s;have miss:(Value.ref C::tl).contains (.ref C')=false:=by
   unfold NK at hmiss;split at hmiss
   ·rename_i dd2 cd2 sl2 ho;have e:=I.kIn _ _ ho;have e2:hp.get? C=some ⟨.type "type",dd2,.cls cd2,sl2⟩:=e;rw[hC] at e2;unfold excClassObj at e2;cases e2;simpa using hmiss
   ·cases hmiss
  have key:∀ Q:Bool->Shared->Prop,Q false ⟨hp,g,d,tk,os⟩->wpAny (model X.prog X.w) (rZ X ea).A (excMatches (.ref ea) (.ref C')) Q (notedBy (model X.prog X.w) (X.A.mark (some (.ref ea))) X.env (cameBackBy (model X.prog X.w) X.A X.env X.xe)) ⟨hp,g,d,tk,os⟩:=fun Q hq=>by
   unfold excMatches
   repeat (first|(with_reducible refine GR hob ?_;rw[hcls])|with_reducible refine GR hC' ?_|(with_reducible refine GD hC' ?_;rw[hcB])|(with_reducible refine GD hC ?_;rw[miss])|wp_step)
   exact hq
  refine key _ ?_;exact hr pins zzs H ea C _ D a h
theorem Yj{x:Str}{np hpos:Pos}{b₀:Stmt}{suite:List Stmt}{hrest:List ExceptHandler}{C':Addr}{ts:TS}{th:Addr->TS}(hg:Gl X x)(hm:X.mg x=some (.ref C'))(c':gQ X.K C')(hs:∀ ea,RSs (rZ X ea) (b₀::suite) ts)(hr:RH X hrest th) (hd:(x==("__debug__" : Str))=false:=by decide) :
  RH X (.ExceptHandler (some (.Name x np)) none (b₀::suite) hpos::hrest) (V3 X.K C' ts th):=⟨Xw hg hm c' (fun ea=>(hs ea).ok) hr.ok hd⟩
end
end L2
namespace L2
open PySem PySem.Spec PyProof.Rows
section
variable{X:Cx}{pins:List (Addr×Obj)}{zzs:L2.St}{H:Hp}{s:Shared}{h':Heap}
theorem Inv.Pa{t':Nat}{ch:List Addr}(I:Inv X pins zzs H s)(k:∀ b o,b∉ch->s.heap.get? b=some o->h'.get? b=some o)(hf:∀ e∈ch,rW X pins H e):Inv X pins zzs H { s with heap:=h',toks:=t' }:=by
 have ne:∀ b u,H b=some u->b∉ch:=fun b u q z=>by rw[(hf b z).1] at q;cases q
 refine I.step (g':=s.gens) (d':=s.drawn) (ch:=ch) (fun b hb=>?_) (fun b o _ _ hc q _=>k b o hc q) (fun b o _ _ hc q _=>⟨o.slots,k b o hc q⟩) (fun _ _ _ _ n=>n)
  (fun b o hc q=>⟨o,k b o hc q⟩) (fun _ _ q=>q) (fun _ _ _ q=>q) (fun b ps q=>⟨#[],by rw[q];simp⟩) (fun m hm=>?_) (fun b u q=>?_) I.bare
 ·obtain⟨e0,e1,e2,e3,e4,e5⟩:=hf b hb;exact⟨e3,e1,e4,e5⟩
 ·obtain⟨o,es,ep,ho,r⟩:=hm;exact⟨o,es,ep,k _ o (fun z=>(hf _ z).2.1 rfl) ho,r⟩
 ·refine(I.hok b u q).stay (fun c v hc w=>?_) (fun _ w=>w) fun _ _ w=>w
  rcases hc with z|z
  ·rw[z] at w ⊢;exact k b v (ne b u q) w
  ·exact k c v (ne c _ z) w
end
def Itz(K:ao)(a b:Addr):It:=
 ⟨fun i H=>∃ xs ys x y,SqL K H a xs/\SqL K H b ys/\xs[i]?=some x/\ys[i]?=some y,
  fun i H v H'=>∃ t x y,(∀ xs,SqL K H a xs->xs[i]?=some x)/\(∀ ys,SqL K H b ys->ys[i]?=some y)/\H t=none/\v=.ref t/\H'=upd H t (.tup [x,y]),
  fun i H=>∃ xs ys,SqL K H a xs/\SqL K H b ys/\(xs.length<=i\/ys.length<=i)⟩
theorem V5{P:Program}{w:World}{K:ao}{elts:List Expr}{k:Nat}{pos:Pos}(a b z TI TO i1 i2:Addr)(D:ZipApart z TI TO i1 i2 a b) :
  Turn P w K (.Tuple elts k pos) (Itz K a b) [z,TI,TO,i1,i2] z (fun i h=>IsZip h z TI TO .none/\IsPair h TI (.ref i1) (.ref i2)/\(∃ x y,IsPair h TO x y)/\h.IsListIter i1 a i/\h.IsListIter i2 b i) where
 mem:=by simp
 obj:=fun i h st c hc=>by
  obtain⟨hz,hTI,⟨x,y,hTO⟩,⟨o1,g1,c1,d1⟩,⟨o2,g2,c2,d2⟩⟩:=st;simp only[cO,Bg,Bv] at hc;rcases hc with rfl|rfl|rfl|rfl|rfl
  ·exact⟨_,hz,fun v q=>by cases q⟩
  ·exact⟨_,hTI,fun v q=>by cases q⟩
  ·exact⟨_,hTO,fun v q=>by cases q⟩
  ·exact⟨o1,g1,fun v q=>by rw[d1] at q;cases q⟩
  ·exact⟨o2,g2,fun v q=>by rw[d2] at q;cases q⟩
 keep:=fun i h h' st kp=>by
  obtain⟨hz,hTI,⟨x,y,hTO⟩,h1,h2⟩:=st;exact⟨kp z (by simp) _ hz,kp TI (by simp) _ hTI,⟨x,y,kp TO (by simp) _ hTO⟩,h1.at fun o q=>kp i1 (by simp) o q,h2.at fun o q=>kp i2 (by simp) o q⟩
 item:=by
  intro X hP hw hK hc i pins s zzs H E I hf st hg;subst hP hw hK;obtain⟨xs,ys,x,y,hq1,hq2,hx,hy⟩:=hg;obtain⟨us,rv,p,_⟩:=I.list hq1;obtain⟨ws,rw',p',_⟩:=I.list hq2;obtain⟨u,hu,ru⟩:=rv.get hx;obtain⟨v,hv,rv2⟩:=rw'.get hy;obtain⟨hz,hTI,⟨x0,y0,hTO⟩,h1,h2⟩:=id st;refine wpAny_pyNext_zip_item D hz hTI hTO h1 h2 p.isList p'.isList (x:=u) (y:=v) (by simpa using hu) (by simpa using hv) fun h' hz' a2X h1' h2' hT hsz hk=>?_
  refine⟨_,rfl,wpAny_letOwnedTupleGo_zip hz' fun h2' hz2 hs2=>?_⟩;have ltz:z<s.heap.objs.size:=bI hz;have kk:∀ c o,c∉[z,TI,TO,i1,i2]->s.heap.get? c=some o->h2'.get? c=some o:=fun c o hc q=>by
   simp only[cO,Bg,Bv,not_or] at hc;exact(hs2.2 c hc.1).trans (hk c o hc.1 hc.2.2.1 hc.2.2.2.1 hc.2.2.2.2 q)
  have I1:Inv X pins zzs H { s with heap:=h2',toks:=s.toks }:=I.Pa (ch:=[z,TI,TO,i1,i2]) kk hf;have hn:H s.heap.objs.size=none:=I.hok.fresh (bK _);obtain⟨t0,t1,t2,t3,t4,t5⟩:=I.Iv (H':=H) (bK _) hn;have hT2:h2'.get? s.heap.objs.size=some { cls:=.type "tuple",data:=.seq #[u,v] }:=(hs2.2 _ (Bs ltz)).trans hT;have I2:Inv X pins zzs (upd H s.heap.objs.size (.tup [x,y])) { s with heap:=h2',toks:=s.toks }:=I1.track hn I.sz t1 t4 t5 ⟨by show 2<=sizeLine;rw[qN];decide,[u,v],.cons ru (.cons rv2 .nil),?_⟩
  ·refine⟨.ref s.heap.objs.size,_,I2,rfl,⟨_,x,y,fun xs' h=>by rw[I.ud h hq1];exact hx,fun ys' h=>by rw[I.ud h hq2];exact hy,hn,rfl,rfl⟩,⟨hz2,(hs2.2 _ D.TIz).trans (hk _ _ D.TIz D.TITO D.TIi1 D.TIi2 hTI),⟨_,_,(hs2.2 _ D.TOz).trans a2X⟩,h1'.at fun o q=>(hs2.2 _ D.i1z).trans q,?_⟩,fun c hc=>?_⟩
   ·rename_i h2i;exact h2i.at fun o q=>(hs2.2 _ D.i2z).trans q
   ·have lt:c<s.heap.objs.size:=by
     obtain⟨o1,g1,_⟩:=h1;obtain⟨o2,g2,_⟩:=h2;simp only[cO,Bg,Bv] at hc;rcases hc with rfl|rfl|rfl|rfl|rfl
     ·exact ltz
     ·exact bI hTI
     ·exact bI hTO
     ·exact bI g1
     ·exact bI g2
    rw[bF (fW lt)];exact(hf c hc).1
  ·exact⟨_,hT2,rfl,0,rfl⟩
 done:=by
  intro X hP hw hK hc i pins s zzs H E I hf st hg;subst hP hw hK;obtain⟨xs,ys,hq1,hq2,hend⟩:=hg;obtain⟨us,rv,p,_⟩:=I.list hq1;obtain⟨ws,rw',p',_⟩:=I.list hq2;obtain⟨hz,hTI,⟨x0,y0,hTO⟩,h1,h2⟩:=id st;have l1:=rv.length;have l2:=rw'.length;refine wpAny_pyNext_zip_end (I.ok.hd hc) D hz hTI hTO h1 h2 p.isList p'.isList ?_ fun h' hk=>⟨rfl,I.Pa (t':=s.toks) (ch:=[z,TI,TO,i1,i2]) (fun c o hc q=>?_) hf⟩
  ·rcases hend with z|z
   ·left;simp;lia
   ·right;simp;lia
  ·simp only[cO,Bg,Bv,not_or] at hc;exact hk c o hc.1 hc.2.2.1 hc.2.2.2.1 hc.2.2.2.2 q
 self:=fun _ _ _ _ _ st h=>wpAny_pyIter_zip st.1 h
section
variable{X:Cx}{elts:List Expr}{k:Nat}{tpos p pos:Pos}{l m:Expr}{ta:TA}
def a1O(K:ao)(ta:TA):TI:=fun zzs H R=>ta zzs H fun vs H1=>∃ a b,vs=[.ref a,.ref b]/\(∃ xs,SqL K H1 a xs)/\(∃ ys,SqL K H1 b ys)/\R (Itz K a b) H1
theorem a0K (hg:Gl X "zip") (hm:X.mg "zip" = none) (ha:PA X [l,m] ta) (hs:starEach [l,m] X.env=(false,eval l X.env)::starEach [m] X.env:=by rfl) (hp:(backTo pos (starEach [m] X.env)).any (·.1)=false:=by rfl):PI X (.Tuple elts k tpos) (.Call (.Name "zip" p) [l,m] [] pos) (a1O X.K ta):=by
 intro pins s zzs H R I h;refine Call_ (vV I hg hm Zj (Gs (thn (ha pos pins s zzs H _ I h) fun us s1 zzy=>?_) hs hp));obtain⟨vs,H1,I1,r1,q1⟩:=zzy;obtain⟨a,b,e,⟨xs,hq1⟩,⟨ys,hq2⟩,q⟩:=q1;subst e;cases r1 with
 |cons r rr=>
  cases rr with
  |cons r' rr=>
   cases rr;cases r;cases r';obtain⟨its,rv,pl,hz⟩:=I1.list hq1;obtain⟨its',rv',pl',hz'⟩:=I1.list hq2;have la:a<s1.heap.objs.size:=by obtain⟨o,_,g,_⟩:=id pl;exact bI g
   have lb:b<s1.heap.objs.size:=by obtain⟨o,_,g,_⟩:=id pl';exact bI g
   refine call_zip_2 pl.isList pl'.isList fun h' hZ hTI hTO h1 h2 hsz keep=>wpAny_pyIter_zip hZ ?_
   refine⟨s1.heap.objs.size+4,[s1.heap.objs.size+4,s1.heap.objs.size+2,s1.heap.objs.size+3,s1.heap.objs.size,s1.heap.objs.size+1],_,_,H1,rfl,I1.kept (t':=s1.toks) keep,V5 a b _ _ _ _ _ (zipApart_new la lb),⟨hZ,hTI,⟨_,_,hTO⟩,h1,h2⟩,fun c hc=>?_,q⟩;have le:s1.heap.objs.size<=c:=by
    simp only[cO,Bg,Bv] at hc;rcases hc with rfl|rfl|rfl|rfl|rfl<;>first|exact bK _|exact Nat.le_add_right _ _
   exact I1.Iv le (I1.hok.fresh le)
theorem WQ{K:ao} (hg:Gl X "zip") (hm:X.mg "zip" = none) (ha:RA X [l,m] ta) (hK:X.K=K:=by rfl) (h1:notStar l=true:=by rfl) (h2:[m].all notStar=true:=by rfl):RI X (.Tuple elts k tpos) (.Call (.Name "zip" p) [l,m] [] pos) (a1O K ta):=by
 subst hK;exact⟨a0K hg hm ha.ok (lH h1) (uo h2)⟩
end
theorem Wo{K:ao}{a b:Addr}{xs ys:List V}{g:TG}{tb:TS}{D:Ends}{zzs:L2.St}{H:Hp}(hl:ys.length=xs.length)(R:Nat->L2.St->Hp->Prop)(h0:R 0 zzs H)(hq:∀ i zzs H,i<=xs.length->R i zzs H->SqL K H a xs/\SqL K H b ys)
  (hs:∀ i x y zzs H t,xs[i]?=some x->ys[i]?=some y->R i zzs H->H t=none->g (.ref t) zzs (upd H t (.tup [x,y])) fun p7 H2=>tb { D with nx:=R (i+1),ct:=R (i+1),bk:=D.nx } p7 H2)
  (hd:∀ zzs H,R xs.length zzs H->D.nx zzs H) :
  ∃ W:Nat->Nat->L2.St->Hp->Prop,(∃ m,W 0 m zzs H)/\∀ i m zzs H,W i m zzs H->((Itz K a b).stop i H/\D.nx zzs H)\/((Itz K a b).go i H/\∃ N:L2.St->Hp->Prop,(∀ bG H',N bG H'->∃ m',m'<m/\W (i+1) m' bG H')/\∀ x H',(Itz K a b).yld i H x H'->g x zzs H' fun p7 H2=>tb { D with nx:=N,ct:=N,bk:=D.nx } p7 H2):=by
 refine⟨fun i m zzs H=>m=xs.length-i/\i<=xs.length/\R i zzs H,⟨xs.length,by lia,jj _,h0⟩,?_⟩;rintro i m zzs H ⟨rfl,hi,r⟩;obtain⟨q1,q2⟩:=hq i zzs H hi r;by_cases hlt:i<xs.length
 ·have hlt':i<ys.length:=by lia
  refine .inr ⟨⟨xs,ys,xs[i],ys[i],q1,q2,by simp[hlt],by simp[hlt']⟩,R (i+1),fun bG H' r'=>⟨xs.length-(i+1),by lia,rfl,hlt,r'⟩,?_⟩;rintro v H' ⟨t,x,y,hx,hy,nt,rfl,rfl⟩;exact hs i x y zzs H t (hx xs q1) (hy ys q2) r nt
 ·have e:i=xs.length:=by lia
  subst e;exact .inl ⟨⟨xs,ys,q1,q2,.inl (bK _)⟩,hd zzs H r⟩
end L2
namespace My
abbrev zzR(a:PySem.Addr):Option L2.V:=some (.ref a)
abbrev zzI(n:Int):Option L2.V:=some (.int n)
abbrev zzN:Option L2.V:=none
end My
namespace My
open PySem L2
def top(i:Nat):Stmt:=PySem.Challenge.pw_dampfield_k09_whole_what_is_shown.main.body.getD i (.Pass ⟨0,0,0,0⟩)
abbrev Ab:Stmt:=top 13
theorem R0:aN ["row","width"] ["row","width"] (aG Ab):=⟨rfl,rfl,rfl,by decide +kernel,rfl,by decide +kernel,by decide +kernel⟩
abbrev wk:Stmt:=top 14
theorem Ln:aN ["height","width"] ["height","width"] (aG wk):=⟨rfl,rfl,rfl,by decide +kernel,rfl,by decide +kernel,by decide +kernel⟩
abbrev wu:Stmt:=top 15
theorem Lp:aN ["rows"] ["rows"] (aG wu):=⟨rfl,rfl,rfl,by decide +kernel,rfl,by decide +kernel,by decide +kernel⟩
abbrev jC:Stmt:=inClass (top 16) 0
theorem wB:aN ["self","rows"] ["self","rows"] (aG jC):=⟨rfl,rfl,rfl,by decide +kernel,rfl,by decide +kernel,by decide +kernel⟩
abbrev sV:Stmt:=top 17
theorem Ju:aN ["view","cell"] ["view","cell"] (aG sV):=⟨rfl,rfl,rfl,by decide +kernel,rfl,by decide +kernel,by decide +kernel⟩
abbrev qx:Stmt:=top 18
theorem Gf:aN ["view","cell"] ["view","cell"] (aG qx):=⟨rfl,rfl,rfl,by decide +kernel,rfl,by decide +kernel,by decide +kernel⟩
abbrev Aa:Stmt:=top 19
theorem QZ:aN ["view","cell"] ["view","cell"] (aG Aa):=⟨rfl,rfl,rfl,by decide +kernel,rfl,by decide +kernel,by decide +kernel⟩
abbrev FZ:Stmt:=top 20
theorem uF:aN ["view","found","row","column"] ["view"] (aG FZ):=⟨rfl,rfl,rfl,by decide +kernel,rfl,by decide +kernel,by decide +kernel⟩
abbrev Li:Stmt:=top 21
theorem yK:aN ["view","cell","found","row","column"] ["view","cell"] (aG Li):=⟨rfl,rfl,rfl,by decide +kernel,rfl,by decide +kernel,by decide +kernel⟩
abbrev mR:Stmt:=top 22
theorem Ae:aN ["view","cell"] ["view","cell"] (aG mR):=⟨rfl,rfl,rfl,by decide +kernel,rfl,by decide +kernel,by decide +kernel⟩
abbrev qz:Stmt:=top 23
theorem Gg:aN ["view","cell"] ["view","cell"] (aG qz):=⟨rfl,rfl,rfl,by decide +kernel,rfl,by decide +kernel,by decide +kernel⟩
abbrev zZ:Stmt:=top 24
theorem QX:aN ["view"] ["view"] (aG zZ):=⟨rfl,rfl,rfl,by decide +kernel,rfl,by decide +kernel,by decide +kernel⟩
abbrev Lh:Stmt:=top 25
theorem Yo:aN ["view"] ["view"] (aG Lh):=⟨rfl,rfl,rfl,by decide +kernel,rfl,by decide +kernel,by decide +kernel⟩
abbrev Uk:Stmt:=top 26
theorem a1e:aN ["view"] ["view"] (aG Uk):=⟨rfl,rfl,rfl,by decide +kernel,rfl,by decide +kernel,by decide +kernel⟩
abbrev qy:Stmt:=top 27
theorem uG:aN ["view","laying","place"] ["view","laying"] (aG qy):=⟨rfl,rfl,rfl,by decide +kernel,rfl,by decide +kernel,by decide +kernel⟩
abbrev mU:Stmt:=top 28
theorem Af:aN ["view","cell","laying"] ["view","cell","laying"] (aG mU):=⟨rfl,rfl,rfl,by decide +kernel,rfl,by decide +kernel,by decide +kernel⟩
abbrev G9:Stmt:=top 29
theorem Jv:aN ["view","laying","cell"] ["view","laying"] (aG G9):=⟨rfl,rfl,rfl,by decide +kernel,rfl,by decide +kernel,by decide +kernel⟩
abbrev Ac:Stmt:=top 32
theorem jZ:aN ["view","cell","found","waiting","member","teller","other"] ["view","cell"] (aG Ac):=⟨rfl,rfl,rfl,by decide +kernel,rfl,by decide +kernel,by decide +kernel⟩
abbrev Ga:Stmt:=top 33
theorem nJ:aN ["view","found","placed","cell","part","member"] ["view"] (aG Ga):=⟨rfl,rfl,rfl,by decide +kernel,rfl,by decide +kernel,by decide +kernel⟩
abbrev wg:Stmt:=top 34
theorem lG:aN ["view","last","found","teller","around","behind"] ["view","last"] (aG wg):=⟨rfl,rfl,rfl,by decide +kernel,rfl,by decide +kernel,by decide +kernel⟩
abbrev sW:Stmt:=top 35
theorem qC:aN ["laying","asked","demand","stones"] ["laying","asked"] (aG sW):=⟨rfl,rfl,rfl,by decide +kernel,rfl,by decide +kernel,by decide +kernel⟩
abbrev wz:Stmt:=top 36
theorem iH:aN ["view","cell","part","begun","member","asked","both"] ["view","cell"] (aG wz):=⟨rfl,rfl,rfl,by decide +kernel,rfl,by decide +kernel,by decide +kernel⟩
abbrev wj:Stmt:=top 37
theorem Lk:aN ["view","cell"] ["view","cell"] (aG wj):=⟨rfl,rfl,rfl,by decide +kernel,rfl,by decide +kernel,by decide +kernel⟩
abbrev lF:Stmt:=top 38
theorem pA:aN ["view","cell"] ["view"] (aG lF):=⟨rfl,rfl,rfl,by decide +kernel,rfl,by decide +kernel,by decide +kernel⟩
abbrev w5:Stmt:=top 39
theorem oX:aN ["view","found","part","cell"] ["view"] (aG w5):=⟨rfl,rfl,rfl,by decide +kernel,rfl,by decide +kernel,by decide +kernel⟩
abbrev wA:Stmt:=top 40
theorem sX:aN ["found","cell","stone","left","choice"] ["found","cell","stone"] (aG wA):=⟨rfl,rfl,rfl,by decide +kernel,rfl,by decide +kernel,by decide +kernel⟩
abbrev lE:Stmt:=top 42
theorem jF:aN ["found","chosen","choice"] ["found"] (aG lE):=⟨rfl,rfl,rfl,by decide +kernel,rfl,by decide +kernel,by decide +kernel⟩
abbrev qw:Stmt:=top 43
theorem jW:aN ["view","cell","found","without","having"] ["view","cell"] (aG qw):=⟨rfl,rfl,rfl,by decide +kernel,rfl,by decide +kernel,by decide +kernel⟩
abbrev Lj:Stmt:=top 44
theorem Oi:aN ["view","cell","found"] ["view","cell"] (aG Lj):=⟨rfl,rfl,rfl,by decide +kernel,rfl,by decide +kernel,by decide +kernel⟩
abbrev Gb:Stmt:=top 45
theorem Jw:aN ["view","cell","found"] ["view","cell"] (aG Gb):=⟨rfl,rfl,rfl,by decide +kernel,rfl,by decide +kernel,by decide +kernel⟩
abbrev lC:Stmt:=top 47
theorem yq:aN ["script","k"] ["script","k"] (aG lC):=⟨rfl,rfl,rfl,by decide +kernel,rfl,by decide +kernel,by decide +kernel⟩
abbrev sU:Stmt:=top 48
theorem m8:aN ["cell","k","many","some","stir"] ["cell","k","many"] (aG sU):=⟨rfl,rfl,rfl,by decide +kernel,rfl,by decide +kernel,by decide +kernel⟩
abbrev qt:Stmt:=top 49
theorem j8:aN ["height","width","cell","found","dr","dc","one"] ["height","width","cell"] (aG qt):=⟨rfl,rfl,rfl,by decide +kernel,rfl,by decide +kernel,by decide +kernel⟩
abbrev oW:Stmt:=top 50
theorem Cm:aN ["rows"] ["rows"] (aG oW):=⟨rfl,rfl,rfl,by decide +kernel,rfl,by decide +kernel,by decide +kernel⟩
abbrev oR:Stmt:=top 51
theorem jq:aN ["rows","signs","found","r"] ["rows","signs"] (aG oR):=⟨rfl,rfl,rfl,by decide +kernel,rfl,by decide +kernel,by decide +kernel⟩
abbrev jD:Stmt:=top 52
theorem cW:aN ["script","most","cell","height","width","thin","stones","r","c"] ["script","most"] (aG jD):=⟨rfl,rfl,rfl,by decide +kernel,rfl,by decide +kernel,by decide +kernel⟩
abbrev mO:Stmt:=top 53
theorem Ad:aN ["height","width","stones","cell"] ["height","width","stones","cell"] (aG mO):=⟨rfl,rfl,rfl,by decide +kernel,rfl,by decide +kernel,by decide +kernel⟩
abbrev oV:Stmt:=top 54
theorem gH:aN ["height","width","stones","known","rows","r","row","c"] ["height","width","stones","known"] (aG oV):=⟨rfl,rfl,rfl,by decide +kernel,rfl,by decide +kernel,by decide +kernel⟩
abbrev mQ:Stmt:=top 55
theorem gV:aN ["height","width","stones","known","cell","found","at"] ["height","width","stones","known","cell"] (aG mQ):=⟨rfl,rfl,rfl,by decide +kernel,rfl,by decide +kernel,by decide +kernel⟩
abbrev lD:Stmt:=top 56
theorem bJ:aN ["script","most","steps","height","width","stones","known","free","r","k","left","cell"] ["script","most","steps"] (aG lD):=⟨rfl,rfl,rfl,by decide +kernel,rfl,by decide +kernel,by decide +kernel⟩
abbrev jE:Stmt:=top 57
theorem fU:aN ["script","rows","cell","r","c","sign","line"] ["script","rows"] (aG jE):=⟨rfl,rfl,rfl,by decide +kernel,rfl,by decide +kernel,by decide +kernel⟩
abbrev oU:Stmt:=top 58
theorem gG:aN ["rows","laying","height","width","hidden","r","c"] ["rows","laying"] (aG oU):=⟨rfl,rfl,rfl,by decide +kernel,rfl,by decide +kernel,by decide +kernel⟩
abbrev qu:Stmt:=top 59
theorem Gd:aN ["view","cell"] ["view","cell"] (aG qu):=⟨rfl,rfl,rfl,by decide +kernel,rfl,by decide +kernel,by decide +kernel⟩
abbrev Ul:Stmt:=top 60
theorem jG:aN ["script","rows","view","hidden","cell","some","kinds","k","pair","laying","one","kind"] ["script"] (aG Ul):=⟨rfl,rfl,rfl,by decide +kernel,rfl,by decide +kernel,by decide +kernel⟩
structure Adr where
 FieldError:Addr
 BadView:Addr
 BadLaying:Addr
 NoCell:Addr
 TooGreat:Addr
 Impossible:Addr
 NotOpen:Addr
 View:Addr
structure Txt(K:ao)(mg:Str->Option Value)(Z:Adr):Prop where
 Nj:mg "all" = none
 Nk:mg "int" = none
 ou:mg "isinstance" = none
 dj:mg "len" = none
 Eu:mg "list" = none
 Rf:mg "max" = none
 Nm:mg "min" = none
 eZ:mg "range" = none
 tO:mg "sorted" = none
 YF:mg "str" = none
 Np:mg "tuple" = none
 YG:mg "zip" = none
 iK:∃ t,mg "MOST_ROWS" = some (.int 6 t)
 fQ:∃ t,mg "MOST_COLUMNS" = some (.int 6 t)
 gC:∃ t,mg "CLOSED_SIGN" = some (.str "#" t)
 qU:∃ t,mg "SIGNS" = some (.str "#012345678" t)
 ig:∃ t,mg "MOST_CELLS" = some (.int 12 t)
 tQ:mg "FieldError" = some (.ref Z.FieldError)
 jX:gQ K Z.FieldError
 Cy:mg "BadView" = some (.ref Z.BadView)
 rD:gQ K Z.BadView
 wU:mg "BadLaying" = some (.ref Z.BadLaying)
 mj:gQ K Z.BadLaying
 tU:mg "NoCell" = some (.ref Z.NoCell)
 nM:gQ K Z.NoCell
 yZ:mg "TooGreat" = some (.ref Z.TooGreat)
 lJ:gQ K Z.TooGreat
 tR:mg "Impossible" = some (.ref Z.Impossible)
 jc:gQ K Z.Impossible
 Cz:mg "NotOpen" = some (.ref Z.NotOpen)
 rE:gQ K Z.NotOpen
 Zk:mg "View" = some (.ref Z.View)
 gb:Cls K Z.View
 gR:nZ K Z.View "rows"
 fJ:nZ K Z.View "height"
 gk:nZ K Z.View "width"
 Y6:PySem.W.kitOne K (.ref Z.TooGreat) (.ref Z.FieldError)=some true
 Y4:PySem.W.kitOne K (.ref Z.Impossible) (.ref Z.FieldError)=some true
 Y7:PySem.W.kitOne K (.type "tuple") (.type "tuple")=some true
 Y5:PySem.W.kitOne K (.type "list") (.type "list")=some true
def Ak(K:ao):Sp:=fun vs H Q _=>∃(a:Addr)(ns:List Int)(k:Int),vs=[.ref a,.int k]/\0<=k/\SqL K H a (ns.map V.int)/\∀ r:Int,Q (.int r) H
def JD:Sp:=fun vs H Q _=>∃(c k m:Int),vs=[.int c,.int k,.int m]/\0<m/\∀(r:Int)(H':Hp),0<=r->r<m->Same H H'->Q (.int r) H'
def Gj(K:ao):Sp:=fun vs H Q _=>∃(h w:Int)(v:V)(x:Cell),vs=[.int h,.int w,v]/\Den K H v (au x)/\∀ p H',Fr K H H' p ((dh h w x).map au)->Q (.ref p) H'
def Ow(K:ao):Sp:=fun vs H Q _=>∃(p:Addr)(zs:List Str)(w:Nat),vs=[.ref p]/\SqL K H p (zs.map V.str)/\Rect zs w/\∀ t H',Same H H'->SqT K H' t [.int zs.length,.int w]->Q (.ref t) H'
def Gi(K:ao):Sp:=fun vs H Q _=>∃(p:Addr)(zs:List Str)(w:Nat)(sg:Str),vs=[.ref p,.str sg]/\SqL K H p (zs.map V.str)/\Rect zs w/\∀ q H',Fr K H H' q ((iy zs w sg).map au)->Q (.ref q) H'
section
variable{P:Program}{w:World}{K:ao}{mg:Str->Option Value}{base:Heap}{Z:Adr}
theorem X8{f:Addr}{fd:FuncData} (F:Fun K "_law_cell_at" "_law_cell_at" lC f fd) (T:Txt K mg Z):cC P w K mg base (CXE P w) 1 f fd ["script","k"] (Ak K):=by
 refine F.rok yq (fun vs H Q E h=>?_) (fun cdv A outer s H vs Q E hr h=>?_)
 ·obtain⟨a,ns,k,rfl,_⟩:=h;rfl
 ·obtain⟨a,ns,k,rfl,h0,hS,hq⟩:=h;refine⟨_,(aA (dR (bA DK (rv 1) (aU (dH (K:=K)) rfl T.dj cu (aj (rv 0) ak)) (bW _)) (aC (aR (cH (cG (K:=K)) (rv 0) (rv 1)))) bN) (aC (aR aH))),?_⟩;refine⟨_,rfl,_,rfl,.inl ⟨a,_,rfl,.inl hS,_,_,rfl,rfl,_,rfl,?_⟩⟩;refine Cj (fun hk=>?_) (fun _=>?_)
  ·have hk':k<ns.length:=by have:=cN hk;simp only[aV] at this;exact this
   obtain⟨v,e⟩:=Ni h0 hk';exact⟨_,rfl,_,rfl,.inl ⟨a,_,_,_,rfl,rfl,hS,e,hq _⟩⟩
  ·exact hq 0
theorem a0g{f:Addr}{fd:FuncData} (F:Fun K "_law_mix" "_law_mix" sU f fd) (T:Txt K mg Z):cC P w K mg base (CXE P w) 1 f fd ["cell","k","many"] JD:=by
 refine F.rok m8 (fun vs H Q E h=>?_) (fun cdv A outer s H vs Q E hr h=>?_)
 ·obtain⟨c,k,m,rfl,_⟩:=h;rfl
 ·obtain⟨c,k,m,rfl,hm,hq⟩:=h;refine⟨_,(aA (aZ (i:=3) m8.nd rfl (Or.inl rfl) (dO (aj aH (aj aH (aj aH (aj aH (aj aH (aj aH (aj aH (aj aH (aj aH (aj aH (aj aH (aj aH (aj aH ak))))))))))))))) (aA (aZ (i:=4) m8.nd rfl (Or.inl rfl) (eV c7 (eV c7 (eV uq (eV c7 (eV qj (rv 0) aH) aH) (cH (cG (K:=K)) (rv 3) (eV qj (rv 1) aH))) (eV uq aH (rv 1))) (eV uq aH (eV Ob (rv 1) aH)))) (aA (aZ (i:=4) m8.nd rfl (Or.inl rfl) (eV qj (rv 4) aH)) (aC (aR (eV qj (eV Ob (eV qj (eV c7 (eV uq (rv 4) (rv 4)) (eV uq aH (rv 1))) aH) aH) (rv 2))))))),?_⟩;refine⟨by decide,fun p hp=>?_⟩;have b0:0<=c%2147483647:=Bo _ (by decide);have b1:c%2147483647<2147483647:=Ba _ (by decide);obtain⟨v,e⟩:=Ni (ns:=[48271,69621,16807,39373,30269,40014,40692,50021,61687,71993,83869,95561,30307]) (i:=k%13) (Bo _ (by decide)) (Ba _ (by decide));refine⟨_,rfl,_,_,rfl,rfl,(by show(0:Int)<2147483647;decide),_,rfl,_,rfl,_,_,rfl,rfl,(by show(0:Int)<13;decide),.inl ⟨p,_,_,_,rfl,rfl,.of aD,e,.inl ⟨by lia,by lia⟩,?_⟩⟩;refine⟨_,rfl,.inl ⟨by lia,by lia⟩,?_⟩;refine⟨_,rfl,_,_,rfl,rfl,⟨by decide,by decide⟩,.inl ⟨by lia,by lia⟩,?_⟩;refine⟨_,rfl,_,_,rfl,rfl,(by show(0:Int)<1000000007;decide),?_⟩;refine⟨_,rfl,_,rfl,.inl ⟨by omega,by omega⟩,?_⟩;refine⟨_,rfl,.inl ⟨by lia,by lia⟩,?_⟩;refine⟨_,_,rfl,rfl,(by show(0:Int)<1000000007;decide),?_⟩;refine⟨_,_,rfl,rfl,⟨by decide,by decide⟩,?_⟩;refine⟨_,rfl,_,_,rfl,rfl,hm,?_⟩;exact hq _ _ (Bo _ (by lia)) (Ba _ hm) (Same.put hp)
theorem Xc{f:Addr}{fd:FuncData} (F:Fun K "_law_near" "_law_near" qt f fd) (T:Txt K mg Z):cC P w K mg base (CXE P w) 1 f fd ["height","width","cell"] (Gj K):=by
 refine F.rok j8 (fun vs H Q E h=>?_) (fun cdv A outer s H vs Q E hr h=>?_)
 ·obtain⟨h,w,v,x,rfl,_⟩:=h;rfl
 ·obtain⟨h,w,v,x,rfl,dv,hq⟩:=h;refine⟨_,(aA (aZ (i:=3) j8.nd rfl (Or.inl rfl) (dO ak)) (aA (cL eO rfl (bx (K:=K) (dO (aj (fu (aj (QW wH aH) (aj (QW wH aH) ak))) (aj (fu (aj (QW wH aH) (aj aH ak))) (aj (fu (aj (QW wH aH) (aj aH ak))) (aj (fu (aj aH (aj (QW wH aH) ak))) (aj (fu (aj aH (aj aH ak))) (aj (fu (aj aH (aj (QW wH aH) ak))) (aj (fu (aj aH (aj aH ak))) (aj (fu (aj aH (aj aH ak))) ak)))))))))) (zW rfl (gU (bC (i:=4) j8.nd rfl (Or.inl rfl)) (gU (bC (i:=5) j8.nd rfl (Or.inl rfl)) uz))) (aA (aZ (i:=6) j8.nd rfl (Or.inl rfl) (fu (aj (eV c7 (cH (cG (K:=K)) (rv 2) aH) (rv 4)) (aj (eV c7 (cH (cG (K:=K)) (rv 2) aH) (rv 5)) ak)))) (aC (dR (yh (sJ (zY rM DK aH (cH (cG (K:=K)) (rv 6) aH) (rv 0)) (oO (zY rM DK aH (cH (cG (K:=K)) (rv 6) aH) (rv 1))))) (aC (gO (lX (K:=K) lN nO nP dX (rv 3) (aj (rv 6) ak)))) bN)))) (aC (aR (rv 3))))),?_⟩;refine aF (fun zzs H1=>∃ p,H p=none/\Same H H1/\H1 p=some (.lst [])/\zzs=[zzI h,zzI w,some v,zzR p,zzN,zzN,zzN]) (fun R hR=>?_) ?_
  ·exact⟨by decide,fun p hp=>hR _ _ ⟨p,hp,Same.put hp,aD,rfl⟩⟩
  rintro zzs H1 ⟨p,np,s1,hp,rfl⟩;refine aF (fun zzs H3=>∃ v4 v5 v6,Fr K H H3 p ((dh h w x).map au)/\zzs=[zzI h,zzI w,some v,zzR p,v4,v5,v6]) (fun R hR=>?_) ?_
  ·refine RK ?_;refine iJ (K:=K) (-1) (-1) (fun _ q=>⟨_,rfl,q⟩) (fun _ q=>⟨_,rfl,q⟩) fun u1 G1 t1 d1=>?_
   refine iJ (K:=K) (-1) 0 (fun _ q=>⟨_,rfl,q⟩) (fun _ q=>q) fun u2 G2 t2 d2=>?_
   refine iJ (K:=K) (-1) 1 (fun _ q=>⟨_,rfl,q⟩) (fun _ q=>q) fun u3 G3 t3 d3=>?_
   refine iJ (K:=K) 0 (-1) (fun _ q=>q) (fun _ q=>⟨_,rfl,q⟩) fun u4 G4 t4 d4=>?_
   refine iJ (K:=K) 0 1 (fun _ q=>q) (fun _ q=>q) fun u5 G5 t5 d5=>?_
   refine iJ (K:=K) 1 (-1) (fun _ q=>q) (fun _ q=>⟨_,rfl,q⟩) fun u6 G6 t6 d6=>?_
   refine iJ (K:=K) 1 0 (fun _ q=>q) (fun _ q=>q) fun u7 G7 t7 d7=>?_
   refine iJ (K:=K) 1 1 (fun _ q=>q) (fun _ q=>q) fun u8 G8 t8 d8=>?_
   refine⟨sz rfl,fun q hq'=>?_⟩;have t9:=Same.put (o:=.lst [u1,u2,u3,u4,u5,u6,u7,u8]) hq';have D:aP K (upd G8 q (.lst [u1,u2,u3,u4,u5,u6,u7,u8])) [u1,u2,u3,u4,u5,u6,u7,u8] (offs.map au):=by
    have r8:=t9;have r7:=t8.trans r8;have r6:=t7.trans r7;have r5:=t6.trans r6;have r4:=t5.trans r5;have r3:=t4.trans r4;have r2:=t3.trans r3;have r1:=t2.trans r2;exact .cons (d1.mono r1) (.cons (d2.mono r2) (.cons (d3.mono r3) (.cons (d4.mono r4) (.cons (d5.mono r5) (.cons (d6.mono r6) (.cons (d7.mono r7) (.cons (d8.mono r8) .nil)))))))
   have tA:=s1.trans (t1.trans (t2.trans (t3.trans (t4.trans (t5.trans (t6.trans (t7.trans (t8.trans t9))))))));have hp9:=(t1.trans (t2.trans (t3.trans (t4.trans (t5.trans (t6.trans (t7.trans (t8.trans t9)))))))) _ _ hp;have nqp:q≠p:=(bV ((t1.trans (t2.trans (t3.trans (t4.trans (t5.trans (t6.trans (t7.trans t8))))))) _ _ hp) hq').symm;refine⟨q,rfl,⟨_,SqL.of aD⟩,?_⟩;refine eE (K:=K) (xs:=[u1,u2,u3,u4,u5,u6,u7,u8]) (fun i zzs H'=>∃ l v4 v5 v6,SameBut p (upd G8 q (.lst [u1,u2,u3,u4,u5,u6,u7,u8])) H'/\H' p=some (.lst l)/\aP K H' l ((((offs.take i).map fun d=>(x.1+d.1,x.2+d.2)).filter fun y=>decide (inF h w y)).map au) /\
    zzs=[zzI h,zzI w,some v,zzR p,v4,v5,v6]) ⟨[],none,none,none,.refl _ _,hp9,.nil,rfl⟩ (fun i zzs H' _ hh=>?_) (fun i u zzs H' hu hh=>?_) (fun zzs H' hh=>?_)
   ·obtain⟨l,_,_,_,sb,_⟩:=hh;exact sb.seq aD nqp
   ·obtain⟨l,v4,v5,v6,sb,hl,Dl,rfl⟩:=hh;obtain⟨d,ed,du⟩:=D.get hu;rw[cV] at ed;obtain⟨o,eo,rfl⟩:=iQ.mp ed;have dv':Den K H' v (au x):=sb.cell hp9 (dv.mono tA);refine Ua (sb.cell hp9 du) ?_;refine⟨_,rfl,sO dv' ⟨_,rfl,_,rfl,sS dv' ⟨_,rfl,sz rfl,fun t ht=>?_⟩⟩⟩;have st:=Same.put (o:=.tup [V.int (x.1+o.1),V.int (x.2+o.2)]) ht;have d1':Den K (upd H' t (.tup [V.int (x.1+o.1),V.int (x.2+o.2)])) (.ref t) (au (x.1+o.1,x.2+o.2)):=gA;have tk:offs.take (i+1)=offs.take i++[o]:=by rw[jP,eo];rfl
    have hll:l.length<=8:=by
     rw[Dl.length,aV];refine cP (iw _ _) ?_;rw[aV,lQ];exact Nat.min_le_right _ _
    have out:∀ b:Bool,b=decide (inF h w (x.1+o.1,x.2+o.2))->(((offs.take (i+1)).map fun d=>(x.1+d.1,x.2+d.2)).filter fun y=>decide (inF h w y))=(((offs.take i).map fun d=>(x.1+d.1,x.2+d.2)).filter fun y=>decide (inF h w y))++(if b=true then [(x.1+o.1,x.2+o.2)] else []):=by
     intro b hb;rw[tk,eG,xQ,hb];congr 1;by_cases hin:inF h w (x.1+o.1,x.2+o.2)<;>simp[hin]
    refine⟨_,rfl,sO d1' ⟨_,_,rfl,rfl,_,rfl,HY (m:=h) (fun _ q=>⟨_,rfl,q⟩) ?_⟩⟩;have a1I:¬inF h w (x.1+o.1,x.2+o.2)->∃ l v4 v5 v6,SameBut p (upd G8 q (.lst [u1,u2,u3,u4,u5,u6,u7,u8])) (upd H' t (.tup [V.int (x.1+o.1),V.int (x.2+o.2)]))/\(upd H' t (.tup [V.int (x.1+o.1),V.int (x.2+o.2)])) p=some (.lst l)/\aP K (upd H' t (.tup [V.int (x.1+o.1),V.int (x.2+o.2)])) l ((((offs.take (i+1)).map fun d=>(x.1+d.1,x.2+d.2)).filter fun y=>decide (inF h w y)).map au) /\
      [zzI h,zzI w,some v,zzR p,zzI o.1,zzI o.2,zzR t]=[zzI h,zzI w,some v,zzR p,v4,v5,v6]:=fun hn=>by
     refine⟨l,_,_,_,sb.and ht,st _ _ hl,?_,rfl⟩;rw[out false (cB hn).symm];simpa using Dl.mono st
    refine dG (fun h1=>?_) (fun h1=>a1I fun hin=>by rw[bT hin.1] at h1;cases h1);refine⟨_,rfl,sS d1' ⟨_,_,rfl,rfl,_,rfl,HY (m:=w) (fun _ q=>⟨_,rfl,q⟩) ?_⟩⟩;refine dG (fun h2=>?_) (fun h2=>a1I fun hin=>by rw[bT hin.2] at h2;cases h2);refine⟨_,rfl,.inl ⟨rfl,_,SqL.of (st _ _ hl)⟩,_,rfl,p,l,_,rfl,rfl,st _ _ hl,ltl (by lia),?_⟩;refine⟨l++[.ref t],_,_,_,(sb.and ht).put,aD,?_,rfl⟩;rw[out true (bT ⟨cN h1,cN h2⟩).symm,eG];exact((SameBut.refl p _).put.cells (st _ _ hl) (Dl.mono st)).append (.cons ((SameBut.refl p _).put.cell (st _ _ hl) d1') .nil)
   ·obtain⟨l,v4,v5,v6,sb,hl,Dl,rfl⟩:=hh;exact hR _ _ ⟨v4,v5,v6,⟨sb.of tA np,np,⟨l,hl,Dl⟩⟩,rfl⟩
  rintro zzs H3 ⟨v4,v5,v6,fr,rfl⟩;exact⟨_,rfl,hq p H3 fr⟩
theorem Tc{f:Addr}{fd:FuncData} (F:Fun K "_law_sizes" "_law_sizes" oW f fd) (T:Txt K mg Z):cC P w K mg base (CXE P w) 1 f fd ["rows"] (Ow K):=by
 refine F.rok Cm (fun vs H Q E h=>?_) (fun cdv A outer s H vs Q E hr h=>?_)
 ·obtain⟨p,zs,w,rfl,_⟩:=h;rfl
 ·obtain⟨p,zs,w,rfl,hS,rc,hq⟩:=h;obtain⟨z,zt,rfl,hz⟩:=rc.head;refine⟨_,(aC (aR (fu (aj (aU (dH (K:=K)) rfl T.dj cu (aj (rv 0) ak)) (aj (aU (dH (K:=K)) rfl T.dj cu (aj (cH (cG (K:=K)) (rv 0) aH) ak)) ak))))),?_⟩;have:=rc.w6;refine⟨_,rfl,.inl ⟨p,_,rfl,.inl hS,_,rfl,.inl ⟨p,_,_,_,rfl,rfl,hS,cZ,.inr ⟨z,rfl,small (by lia),sz rfl,fun t ht=>?_⟩⟩⟩⟩;refine hq t _ (Same.put ht) (SqT.of ?_);rw[aD,aV,hz]
end
end My
namespace My
open PySem L2
def Uq(K:ao):Sp:=fun vs H Q _=>∃(h w:Int)(p:Addr)(v:V)(st:List Cell)(x:Cell),vs=[.int h,.int w,.ref p,v]/\Den K H (.ref p) (.lst (st.map au))/\Den K H v (au x)/\∀ H',Same H H'->Q (.int (tZ h w st x)) H'
def Ol(K:ao):Sp:=fun vs H Q _=>∃(a:Addr)(ns:List Int)(m:Int),vs=[.ref a,.int m]/\SqL K H a (ns.map V.int)/\1<=m/\m<=6/\∀(t p:Addr)(H':Hp)(h w:Nat)(st:List Cell),Same H H'->H p=none->SqT K H' t [.int h,.int w,.ref p]->Ls K H' p (st.map au) ->
 1<=h->(h:Int)<=m->1<=w->(w:Int)<=m->st.Sublist (bH h w)->Q (.ref t) H'
section
variable{P:Program}{w:World}{K:ao}{mg:Str->Option Value}{base:Heap}{Z:Adr}
theorem SQ{f:Addr}{fd:FuncData} (F:Fun K "_law_cells" "_law_cells" oR f fd) (T:Txt K mg Z):cC P w K mg base (CXE P w) 1 f fd ["rows","signs"] (Gi K):=by
 refine F.rok jq (fun vs H Q E h=>?_) (fun cdv A outer s H vs Q E hr h=>?_)
 ·obtain⟨p,zs,w,sg,rfl,_⟩:=h;rfl
 ·obtain⟨p,zs,w,sg,rfl,hS,rc,hq⟩:=h;have hu':=xZ hr;have b1:=rc.le;have b2:=rc.w6;refine⟨_,(aA (aZ (i:=2) jq.nd rfl (Or.inl rfl) (dO ak)) (aA (cL eO rfl (dY rfl T.eZ (aj (aU (dH (K:=K)) rfl T.dj cu (aj (rv 0) ak)) ak)) (bC (i:=3) jq.nd rfl (Or.inr rfl)) (aC (aZ (i:=2) jq.nd rfl (Or.inl rfl) (eV c7 (rv 2) (gK (by rfl) rfl (dY rfl T.eZ (aj (aU (dH (K:=K)) rfl T.dj cu (aj (cH (cG (K:=K)) (rv 0) aH) ak)) ak)) (fun _ _ _=>(fB (bA (eX.or (pq (K:=K) hu')) (cH (cG (K:=K)) (cH (cG (K:=K)) (rv 1) (rv 4)) (rv 0)) (rv 2) (by rfl)))) (fun _ _ _=>(fu (aj (rv 4) (aj (rv 0) ak))))))))) (aC (aR (rv 2))))),?_⟩;refine aF (fun zzs H1=>∃ q,Fr K H H1 q []/\zzs=[zzR p,some (.str sg),zzR q,zzN]) (fun R hR=>?_) ?_
  ·exact⟨by decide,fun q hq'=>hR _ _ ⟨q,⟨Same.put hq',hq',.new hq' .nil⟩,rfl⟩⟩
  rintro zzs H1 ⟨q,fr,rfl⟩;refine aF (fun zzs H3=>∃ q v3,Fr K H H3 q ((iy zs w sg).map au)/\zzs=[zzR p,some (.str sg),zzR q,v3]) (fun R hR=>?_) ?_
  ·refine⟨_,rfl,.inl ⟨p,_,rfl,.inl (fr.same.seq hS),_,rfl,?_⟩⟩;rw[aV];refine⟨by lia,by lia,?_⟩;refine dW (lo:=0) (n:=((zs.length:Nat):Int).toNat) (fun i zzs H'=>∃ q v3,Fr K H H' q ((vD zs w sg i).map au)/\zzs=[zzR p,some (.str sg),zzR q,v3]) ⟨q,none,fr,rfl⟩ (fun i zzs H' hi hh=>?_) (fun zzs H' hh=>?_)
   ·obtain⟨q,v3,fr,rfl⟩:=hh;have hi':i<zs.length:=by lia
    have S':=fr.same.seq hS;obtain⟨z,zt,ez,hz⟩:=rc.head;refine⟨_,rfl,_,rfl,.inl ⟨p,_,_,_,rfl,rfl,S',(by rw[ez];exact cZ),.inr ⟨z,rfl,small (by lia),_,rfl,by lia,by lia,?_⟩⟩⟩;rw[hz,jx];refine dF (K:=K) (xs:=List.range w) (enc:=fun c:Nat=>Dt.int (c:Int)) (qm w) (aP.nats _) (by rw[lO];exact small (by lia)) (fun c=>inS sg (codeAt zs (i,c))) (fun c:Nat=>au ((i:Int),(c:Int))) (fun c hc v H2 s2 D G hG=>?_) (fun c hc _ v H2 s2 D G hG=>?_) (fun ys H2 s2 D q2 hq2=>?_)
    ·cases D;rw[cJ] at hc;have S2:=s2.seq S';refine⟨_,rfl,_,rfl,?_⟩;rw[rQ];exact FQ S2 hi' ⟨_,rfl,yG S2 rc hi' hc ⟨_,rfl,.inl ⟨_,_,rfl,rfl,_,rfl,hG _ (Same.refl _)⟩⟩⟩
    ·cases D;refine⟨_,rfl,_,rfl,sz rfl,fun t ht=>hG _ _ (Same.put ht) ?_⟩;rw[rQ];exact gA
    ·have l1:=Ka zs w sg i;have l2:((List.range w).filter fun c=>inS sg (codeAt zs (i,c))).length<=w:=cP (iw _ _) (by rw[lO];exact bK _);have l3:i*w<=6*6:=lR (by lia) b2;have sq:=Same.put (o:=.lst ys) hq2;refine zU (fr.ls.mono (s2.trans sq)) (Ls.new hq2 D) (by rw[aV,aV];lia) fun r H4 f4=>?_
     refine⟨r,_,⟨fr.same.trans (s2.trans (sq.trans f4.same)),(fr.same.trans (s2.trans sq)).free f4.new,?_⟩,rfl⟩;rw[wV,eG,mH];exact f4.ls
   ·obtain⟨q,v3,fr,rfl⟩:=hh;rw[jx] at fr;exact hR _ _ ⟨q,v3,fr,rfl⟩
  rintro zzs H3 ⟨q,v3,fr,rfl⟩;exact⟨_,rfl,hq q H3 fr⟩
theorem Qv{f:Addr}{fd:FuncData} (F:Fun K "_law_figure" "_law_figure" mO f fd) (T:Txt K mg Z) (eY:Df P w K mg base 1 "_law_near" ["height","width","cell"] (Gj K)):cC P w K mg base (CXE P w) 2 f fd ["height","width","stones","cell"] (Uq K):=by
 refine F.rok Ad (fun vs H Q E h=>?_) (fun cdv A outer s H vs Q E hr h=>?_)
 ·obtain⟨h,w,p,v,st,x,rfl,_⟩:=h;rfl
 ·obtain⟨h,w,p,v,st,x,rfl,dp,dv,hq⟩:=h;have hu':=xZ hr;refine⟨_,(aC (aR (aU (dH (K:=K)) rfl T.dj cu (aj (gK (by rfl) rfl (bx (K:=K) (aO eY hr rfl aQ (aj (rv 0) (aj (rv 1) (aj (rv 3) ak))))) (fun _ _ _=>(fB (bA (eX.or (pq (K:=K) hu')) (rv 0) (rv 3) (by rfl)))) (fun _ _ _=>(rv 0))) ak)))),?_⟩;refine⟨_,rfl,_,rfl,_,rfl,h,w,v,x,rfl,dv,fun q H1 fr=>?_⟩;obtain⟨xs,eq,D⟩:=fr.ls;refine⟨q,rfl,⟨_,SqL.of eq⟩,dF (K:=K) (xs:=dh h w x) (enc:=au) (bM (SqL.of eq)) D (small (by have:=gD h w x;lia)) (fun y=>decide (y∈st)) au (fun y hy v H2 s2 d G hG=>?_) (fun y hy _ v H2 s2 d G hG=>⟨_,rfl,hG _ _ (Same.refl _) d⟩) (fun ys H2 s2 D2 q2 hq2=>?_)⟩
  ·exact⟨_,rfl,_,rfl,.inr (rN d (dp.mono (fr.same.trans s2)) ⟨_,rfl,hG _ (Same.refl _)⟩)⟩
  ·refine .inl ⟨q2,_,rfl,.inl (SqL.of aD),?_⟩;have e:ys.length=tZ h w st x:=by rw[D2.length,aV];rfl
   rw[e];exact hq _ (fr.same.trans (s2.and hq2))
end
end My
namespace My
open PySem L2
section
variable{P:Program}{w:World}{K:ao}{mg:Str->Option Value}{base:Heap}{Z:Adr}
theorem SX{f:Addr}{fd:FuncData} (F:Fun K "_law_field_by" "_law_field_by" jD f fd) (T:Txt K mg Z) (bD:Df P w K mg base 1 "_law_cell_at" ["script","k"] (Ak K)) (bU:Df P w K mg base 1 "_law_mix" ["cell","k","many"] JD) :
  cC P w K mg base (CXE P w) 2 f fd ["script","most"] (Ol K):=by
 refine F.rok cW (fun vs H Q E h=>?_) (fun cdv A outer s H vs Q E hr h=>?_)
 ·obtain⟨a,ns,m,rfl,_⟩:=h;rfl
 ·obtain⟨a,ns,m,rfl,hS,m1,m6,hq⟩:=h;have hu:=jV hr;refine⟨_,(aA (aZ (i:=2) cW.nd rfl (Or.inl rfl) (aO bD hr rfl aQ (aj (rv 0) (aj aH ak)))) (aA (Uh (i:=3) (j:=4) rfl cW.nd rfl rfl (by decide) rfl rfl (aj (eV c7 aH (aO bU hr rfl aQ (aj (rv 2) (aj aH (aj (rv 1) ak))))) (aj (eV c7 aH (aO bU hr rfl aQ (aj (rv 2) (aj aH (aj (rv 1) ak))))) ak)) rfl) (aA (aZ (i:=5) cW.nd rfl (Or.inl rfl) (cH (cG (K:=K)) (dO (aj aH (aj aH (aj aH ak)))) (aO bU hr rfl aQ (aj (rv 2) (aj aH (aj aH ak)))))) (aA (aZ (i:=6) cW.nd rfl (Or.inl rfl) (dO ak)) (aA (cL eO rfl (dY rfl T.eZ (aj (rv 3) ak)) (bC (i:=7) cW.nd rfl (Or.inl rfl)) (aC (cL eO rfl (dY rfl T.eZ (aj (rv 4) ak)) (bC (i:=8) cW.nd rfl (Or.inl rfl)) (aC (dR (bA (nG.or (nD (K:=K) hu)) (aO bU hr rfl aQ (aj (aO bD hr rfl aQ (aj (rv 0) (aj (eV c7 aH (rv 7)) ak))) (aj (rv 8) (aj (rv 5) ak)))) aH (bW _)) (aC (gO (lX (K:=K) lN nO nP dX (rv 6) (aj (fu (aj (rv 7) (aj (rv 8) ak))) ak)))) bN))))) (aC (aR (fu (aj (rv 3) (aj (rv 4) (aj (rv 6) ak))))))))))),?_⟩;refine aF (fun zzs H1=>∃ c:Int,Same H H1/\zzs=[zzR a,zzI m,zzI c,zzN,zzN,zzN,zzN,zzN,zzN]) (fun R hR=>?_) ?_
  ·exact⟨_,rfl,a,ns,0,rfl,by decide,hS,fun r=>hR _ _ ⟨r,Same.refl _,rfl⟩⟩
  rintro zzs H1 ⟨c,s1,rfl⟩;refine aF (fun zzs H2=>∃ h w:Nat,Same H H2/\(1<=h/\(h:Int)<=m)/\(1<=w/\(w:Int)<=m)/\zzs=[zzR a,zzI m,zzI c,zzI h,zzI w,zzN,zzN,zzN,zzN]) (fun R hR=>?_) ?_
  ·refine⟨_,rfl,_,rfl,_,1,_,rfl,by lia,fun r1 H1 a1 b1 t1=>?_⟩;refine⟨_,rfl,_,rfl,_,2,_,rfl,by lia,fun r2 H2 a2 b2 t2=>?_⟩;refine⟨_,_,rfl,hR _ _ ⟨(1+r1).toNat,(1+r2).toNat,s1.trans (t1.trans t2),by lia,by lia,?_⟩⟩;rw[GF (by lia),GF (by lia)];rfl
  rintro zzs H2 ⟨h,w,s2,bh,bw,rfl⟩;refine aF (fun zzs H3=>∃ t:Int,0<t/\Same H H3/\zzs=[zzR a,zzI m,zzI c,zzI h,zzI w,zzI t,zzN,zzN,zzN]) (fun R hR=>?_) ?_
  ·refine⟨sz rfl,fun l hl=>?_⟩;have t1:=Same.put (o:=.lst [V.int 3,V.int 5,V.int 9]) hl;refine⟨_,rfl,_,3,3,rfl,by decide,fun r H3 a3 b3 t3=>?_⟩;obtain⟨v,hv,e⟩:=Et (xs:=([3,5,9]:List Int).map V.int) (i:=r) a3 (by simpa using b3);obtain⟨n,hn,rfl⟩:=cT.mp hv;refine .inl ⟨l,_,_,_,rfl,rfl,SqL.of (t3 _ _ aD),e,hR _ _ ⟨n,?_,s2.trans (t1.trans t3),rfl⟩⟩;exact(by decide:∀ x∈([3,5,9]:List Int),0<x) n hn
  rintro zzs H3 ⟨t,ht,s3,rfl⟩;refine aF (fun zzs H4=>∃ p,H p=none/\Same H H4/\H4 p=some (.lst [])/\zzs=[zzR a,zzI m,zzI c,zzI h,zzI w,zzI t,zzR p,zzN,zzN]) (fun R hR=>?_) ?_
  ·exact⟨by decide,fun p hp=>hR _ _ ⟨p,s3.free hp,s3.and hp,aD,rfl⟩⟩
  rintro zzs H4 ⟨p,np,s4,hp,rfl⟩;have h6:h<=6:=by lia
  have w6:w<=6:=by lia
  refine aF (fun zzs H5=>∃(st:List Cell)(v7 v8:Option V),Same H H5/\Ls K H5 p (st.map au)/\st.Sublist (bH h w)/\zzs=[zzR a,zzI m,zzI c,zzI h,zzI w,zzI t,zzR p,v7,v8]) (fun R hR=>?_) ?_
  ·refine⟨_,rfl,_,rfl,by lia,by lia,?_⟩;rw[jx];refine dW (lo:=0) (n:=h) (fun i zzs H'=>∃(st:List Cell)(v7 v8:Option V),Same H H'/\Ls K H' p (st.map au)/\st.Sublist (bH i w)/\zzs=[zzR a,zzI m,zzI c,zzI h,zzI w,zzI t,zzR p,v7,v8])
    ⟨[],none,none,s4,⟨[],hp,.nil⟩,List.nil_sublist _,rfl⟩ (fun i zzs H' hi hh=>?_) (fun zzs H' hh=>hR _ _ hh)
   obtain⟨st,v7,v8,g1,g2,g3,rfl⟩:=hh;refine⟨_,rfl,_,rfl,by lia,by lia,?_⟩;rw[jx];refine dW (lo:=0) (n:=w) (fun j zzs H'=>∃(st:List Cell)(v8:Option V),Same H H'/\Ls K H' p (st.map au)/\st.Sublist (bH i w++(List.range j).map fun c:Nat=>((i:Int),(c:Int)))/\zzs=[zzR a,zzI m,zzI c,zzI h,zzI w,zzI t,zzR p,zzI (0+i),v8])
    ⟨st,v8,g1,g2,by simpa using g3,rfl⟩ (fun j zzs H' hj hh=>?_) (fun zzs H' hh=>?_)
   ·obtain⟨st,v8,g1,g2,g3,rfl⟩:=hh;have step:bH i w++(List.range (j+1)).map (fun c:Nat=>((i:Int),(c:Int)))=(bH i w++(List.range j).map fun c:Nat=>((i:Int),(c:Int)))++[((i:Int),(j:Int))]:=by
     rw[uT,eG,<- xR];rfl
    have hl:=g3.length_le;rw[cM,fP,aV,lO] at hl;have hl2:i*w<=6*6:=lR (by lia) w6;refine⟨_,rfl,_,rfl,a,ns,_,rfl,by lia,g1.seq hS,fun r=>?_⟩;refine⟨_,rfl,_,rfl,_,_,_,rfl,ht,fun r2 H6 a6 b6 t6=>.inl ⟨rfl,_,rfl,?_⟩⟩;refine Cj (fun _=>?_) (fun _=>?_)
    ·refine⟨_,rfl,.inl ⟨rfl,_,SqL.of (t6 _ _ g2.choose_spec.1)⟩,?_⟩;obtain⟨xs,ex,D⟩:=g2;refine⟨_,rfl,_,rfl,sz rfl,fun u hu=>?_⟩;have su:=Same.put (o:=.tup [V.int (0+i),V.int (0+j)]) hu;refine⟨p,xs,_,rfl,rfl,su _ _ (t6 _ _ ex),ltl (by rw[D.length,aV];lia),?_⟩;refine⟨st++[((i:Int),(j:Int))],_,?_,⟨xs++[.ref u],aD,?_⟩,?_,rfl⟩
     ·exact(SameBut.refl p _).put.of (g1.trans (t6.trans su)) np
     ·rw[eG];refine((SameBut.refl p _).put.cells (su _ _ (t6 _ _ ex)) ((D.mono t6).mono su)).append (.cons ((SameBut.refl p _).put.cell (su _ _ (t6 _ _ ex)) ?_) .nil);rw[rQ,rQ];exact gA
     ·rw[step];exact g3.append (Mz _)
    ·refine⟨st,_,g1.trans t6,g2.mono t6,?_,rfl⟩;rw[step];exact g3.trans (Vk _ _)
   ·obtain⟨st,v8,g1,g2,g3,rfl⟩:=hh;exact⟨st,_,_,g1,g2,by rw[oG];exact g3,rfl⟩
  rintro zzs H5 ⟨st,v7,v8,g1,g2,g3,rfl⟩;refine⟨_,rfl,_,rfl,_,rfl,sz rfl,fun u hu=>?_⟩;exact hq u p _ h w st (g1.and hu) np (SqT.of aD) (g2.mono (Same.put hu)) bh.1 bh.2 bw.1 bw.2 g3
end
end My
namespace My
open PySem L2
def Ov(K:ao):Sp:=fun vs H Q _=>∃(h w:Nat)(p q:Addr)(st kn:List Cell),vs=[.int h,.int w,.ref p,.ref q]/\h<=6/\w<=6/\Den K H (.ref p) (.lst (st.map au))/\Den K H (.ref q) (.lst (kn.map au)) /\
 ∀ r H',Same H H'->H r=none->H' r=some (.lst ((wF h w st kn).map V.str))->Q (.ref r) H'
def JF(K:ao):Sp:=fun vs H Q _=>∃(h w:Nat)(p q:Addr)(v:V)(st kn:List Cell)(x:Cell),vs=[.int h,.int w,.ref p,.ref q,v]/\h<=6/\w<=6/\Den K H (.ref p) (.lst (st.map au))/\Den K H (.ref q) (.lst (kn.map au))/\Den K H v (au x)/\inF h w x /\
 ∀ r H' (cs:List Cell),Fr K H H' r (cs.map au)->cs.Nodup->(∀ y,y∈cs↔Reach h w st kn x y)->Q (.ref r) H'
section
variable{P:Program}{w:World}{K:ao}{mg:Str->Option Value}{base:Heap}{Z:Adr}
theorem T9{f:Addr}{fd:FuncData} (F:Fun K "_law_shown" "_law_shown" oV f fd) (T:Txt K mg Z) (gB:Df P w K mg base 2 "_law_figure" ["height","width","stones","cell"] (Uq K)):cC P w K mg base (CXE P w) 3 f fd ["height","width","stones","known"] (Ov K):=by
 refine F.rok gH (fun vs H Q E h=>?_) (fun cdv A outer s H vs Q E hr h=>?_)
 ·obtain⟨h,w,p,q,st,kn,rfl,_⟩:=h;rfl
 ·obtain⟨h,w,p,q,st,kn,rfl,h6,w6,dp,dq,hq⟩:=h;have hu':=xZ hr;refine⟨_,(aA (aZ (i:=4) gH.nd rfl (Or.inl rfl) (dO ak)) (aA (cL eO rfl (dY rfl T.eZ (aj (rv 0) ak)) (bC (i:=5) gH.nd rfl (Or.inl rfl)) (aA (aZ (i:=6) gH.nd rfl (Or.inl rfl) iz) (aA (cL eO rfl (dY rfl T.eZ (aj (rv 1) ak)) (bC (i:=7) gH.nd rfl (Or.inl rfl)) (aC (aZ (i:=6) gH.nd rfl (Or.inl rfl) (eV c7 (rv 6) (cH (cG (K:=K)) (dO (aj iz (aj (nH Fb rfl T.YF Zi (aj (aO gB hr rfl aQ (aj (rv 0) (aj (rv 1) (aj (rv 2) (aj (fu (aj (rv 5) (aj (rv 7) ak))) ak))))) ak)) ak))) (nH Pj rfl T.Nk K5 (aj (zP (eX.or (pq (K:=K) hu')) (fu (aj (rv 5) (aj (rv 7) ak))) (rv 3) (by rfl)) ak))))))) (aC (gO (lX (K:=K) lN nO nP dX (rv 4) (aj (rv 6) ak))))))) (aC (aR (rv 4))))),?_⟩;refine aF (fun zzs H1=>∃ l,H l=none/\Same H H1/\H1 l=some (.lst [])/\zzs=[zzI h,zzI w,zzR p,zzR q,zzR l,zzN,zzN,zzN]) (fun R hR=>?_) ?_
  ·exact⟨by decide,fun l hl=>hR _ _ ⟨l,hl,Same.put hl,aD,rfl⟩⟩
  rintro zzs H1 ⟨l,nl,s1,hl,rfl⟩;refine aF (fun zzs H2=>∃(v5 v6 v7:Option V),Same H H2/\H2 l=some (.lst ((wF h w st kn).map V.str))/\zzs=[zzI h,zzI w,zzR p,zzR q,zzR l,v5,v6,v7]) (fun R hR=>?_) ?_
  ·refine⟨_,rfl,_,rfl,by lia,by lia,?_⟩;rw[jx];refine dW (lo:=0) (n:=h) (fun i zzs H'=>∃(v5 v6 v7:Option V),Same H H'/\H' l=some (.lst (((List.range i).map fun r:Nat=>rF h w st kn (r:Int) w).map V.str))/\zzs=[zzI h,zzI w,zzR p,zzR q,zzR l,v5,v6,v7])
    ⟨none,none,none,s1,hl,rfl⟩ (fun i zzs H' hi hh=>?_) (fun zzs H' hh=>hR _ _ hh)
   obtain⟨v5,v6,v7,g1,g2,rfl⟩:=hh;refine aF (fun zzs H3=>Same H H3/\H3 l=some (.lst (((List.range i).map fun r:Nat=>rF h w st kn (r:Int) w).map V.str))/\zzs=[zzI h,zzI w,zzR p,zzR q,zzR l,zzI (0+i),some (.str ""),v7]) (fun R' hR'=>hR' _ _ ⟨g1,g2,rfl⟩) ?_;rintro zzs H3 ⟨k1,k2,rfl⟩;refine aF (fun zzs H4=>∃ v7:Option V,Same H H4/\H4 l=some (.lst (((List.range i).map fun r:Nat=>rF h w st kn (r:Int) w).map V.str))/\zzs=[zzI h,zzI w,zzR p,zzR q,zzR l,zzI (0+i),some (.str (rF h w st kn i w)),v7]) (fun R' hR'=>?_) ?_
   ·refine⟨_,rfl,_,rfl,by lia,by lia,?_⟩;rw[jx];refine dW (lo:=0) (n:=w) (fun j zzs H'=>∃ v7:Option V,Same H H'/\H' l=some (.lst (((List.range i).map fun r:Nat=>rF h w st kn (r:Int) w).map V.str))/\zzs=[zzI h,zzI w,zzR p,zzR q,zzR l,zzI (0+i),some (.str (rF h w st kn i j)),v7])
     ⟨v7,k1,k2,rfl⟩ (fun j zzs H' hj hh=>?_) (fun zzs H' hh=>hR' _ _ hh)
    obtain⟨v7,m1,m2,rfl⟩:=hh;have fl:=NQ h w st (0+(i:Int),0+(j:Int));refine⟨_,rfl,_,rfl,_,rfl,_,rfl,_,rfl,_,rfl,sz rfl,fun t ht=>?_⟩;have st1:=Same.put (o:=.tup [V.int (0+i),V.int (0+j)]) ht;refine⟨h,w,p,_,st,(0+(i:Int),0+(j:Int)),rfl,dp.mono (m1.trans st1),gA,fun H5 s5=>?_⟩;refine⟨_,rfl,Wj _ fl,sz rfl,fun u hu=>?_⟩;have s6:=Same.put (o:=.lst [V.str "#",V.str (Str.ofString (toString ((tZ h w st (0+(i:Int),0+(j:Int)):Nat):Int)))]) hu;refine⟨_,rfl,_,rfl,sz rfl,fun t2 ht2=>?_⟩;have s7:=Same.put (o:=.tup [V.int (0+i),V.int (0+j)]) ht2;have sA:=st1.trans (s5.trans (s6.trans s7));refine⟨_,rfl,.inr (rN gA (dq.mono (m1.trans sA)) (.inr ⟨_,rfl,?_⟩))⟩;have e0:((0:Int)+(i:Int),(0:Int)+(j:Int))=((i:Int),(j:Int)):=by rw[rQ,rQ]
    have fin:∀ z:Str,z=⟨#[Lr h w st kn (0+(i:Int),0+(j:Int))]⟩->Ji (.str (rF h w st kn i j)) (.str z) (upd (upd H5 u (.lst [V.str "#",V.str (Str.ofString (toString ((tZ h w st (0+(i:Int),0+(j:Int)):Nat):Int)))])) t2 (.tup [V.int (0+i),V.int (0+j)]))
      (fun x H1=>∃ v7:Option V,Same H H1/\H1 l=some (.lst (((List.range i).map fun r:Nat=>rF h w st kn (r:Int) w).map V.str))/\([zzI h,zzI w,zzR p,zzR q,zzR l,zzI (0+i),some (.str (rF h w st kn i j)),zzI (0+j)]:L2.St).set 6 (some x)=[zzI h,zzI w,zzR p,zzR q,zzR l,zzI (0+i),some (.str (rF h w st kn i (j+1))),v7]):=by
     intro z hz;subst hz;refine⟨?_,some (.int (0+(j:Int))),m1.trans sA,sA _ _ m2,?_⟩
     ·rw[Oh];exact small (by show j+1<=10000;lia)
     ·rw[Ue,<- e0];rfl
    have ed:=dig _ fl;by_cases hk:(0+(i:Int),0+(j:Int))∈kn
    ·rw[bT hk];exact .inl ⟨u,_,_,_,rfl,rfl,SqL.of (s7 _ _ aD),cY (j:=1) rfl,fin _ (by rw[ed];unfold Lr;rw[aL hk])⟩
    ·rw[cB hk];exact .inl ⟨u,_,_,_,rfl,rfl,SqL.of (s7 _ _ aD),cZ,fin _ (by unfold Lr;rw[aJ hk];decide)⟩
   rintro zzs H4 ⟨v7,m1,m2,rfl⟩;refine⟨_,rfl,.inl ⟨rfl,_,SqL.of m2⟩,_,rfl,l,_,_,rfl,rfl,m2,ltl (by rw[aV,aV,lO];lia),?_⟩;refine⟨_,_,_,(SameBut.refl l _).put.of m1 nl,?_,rfl⟩;rw[aD,uT,eG,eG];rfl
  rintro zzs H2 ⟨v5,v6,v7,g1,g2,rfl⟩;exact⟨_,rfl,hq l H2 g1 nl g2⟩
end
end My
namespace My
open PySem L2
def JH(K:ao):Sp:=fun vs H Q _=>∃(a:Addr)(ns:List Int)(m k:Int),vs=[.ref a,.int m,.int k]/\SqL K H a (ns.map V.int)/\1<=m/\m<=6/\1<=k/\k<=10 /\
 ∀(t r p:Addr)(H':Hp)(h w:Nat)(st kn:List Cell),Same H H'->H r=none->H p=none->SqT K H' t [.ref r,.ref p]->H' r=some (.lst ((wF h w st kn).map V.str))->Ls K H' p (st.map au) ->
  1<=h->(h:Int)<=m->1<=w->(w:Int)<=m->st.Sublist (bH h w)->kn.Nodup->(∀ x∈kn,inF h w x/\x∉st)->Q (.ref t) H'
section
variable{P:Program}{w:World}{K:ao}{mg:Str->Option Value}{base:Heap}{Z:Adr}
theorem Qy{f:Addr}{fd:FuncData} (F:Fun K "_law_opened" "_law_opened" mQ f fd) (T:Txt K mg Z) (eY:Df P w K mg base 1 "_law_near" ["height","width","cell"] (Gj K)) (gB:Df P w K mg base 2 "_law_figure" ["height","width","stones","cell"] (Uq K)) :
  cC P w K mg base (CXE P w) 3 f fd ["height","width","stones","known","cell"] (JF K):=by
 refine F.rok gV (fun vs H Q E h=>?_) (fun cdv A outer s H vs Q E hr h=>?_)
 ·obtain⟨h,w,p,q,v,st,kn,x,rfl,_⟩:=h;rfl
 ·obtain⟨h,w,p,q,v,st,kn,x,rfl,h6,w6,dp,dq,dv,hx,hq⟩:=h;have hu:=jV hr;have hu':=xZ hr;refine⟨_,(aA (aZ (i:=5) gV.nd rfl (Or.inr rfl) (dO (aj (rv 4) ak))) (aA (aZ (i:=6) gV.nd rfl (Or.inl rfl) aH) (aA (Jt eO (bA DK (rv 6) (aU (dH (K:=K)) rfl T.dj cu (aj (rv 5) ak)) (bW _)) (aA (dR (bA (nG.or (nD (K:=K) hu)) (aO gB hr rfl aQ (aj (rv 0) (aj (rv 1) (aj (rv 2) (aj (cH (cG (K:=K)) (rv 5) (rv 6)) ak))))) aH (bW _)) (aC (aZ (i:=5) gV.nd rfl (Or.inr rfl) (eV c7 (rv 5) (gK (by rfl) rfl (bx (K:=K) (aO eY hr rfl aQ (aj (rv 0) (aj (rv 1) (aj (cH (cG (K:=K)) (rv 5) (rv 6)) ak))))) (fun _ _ _=>(fB (yh (sJ (bA (gn.or (kW (K:=K) hu')) (rv 0) (rv 4) (by rfl)) (oO (bA (gn.or (kW (K:=K) hu')) (rv 0) (rv 6) (by rfl))))))) (fun _ _ _=>(rv 0)))))) bN) (aC (aZ (i:=6) gV.nd rfl (Or.inl rfl) (eV c7 (rv 6) aH))))) (aC (aR (rv 5)))))),?_⟩;refine aF (fun zzs H1=>∃ l,Fr K H H1 l ([x].map au)/\zzs=[zzI h,zzI w,zzR p,zzR q,some v,zzR l,zzN]) (fun R hR=>?_) ?_
  ·exact⟨_,rfl,sz rfl,fun l hl=>hR _ _ ⟨l,⟨Same.put hl,hl,.new hl (.cons dv .nil)⟩,rfl⟩⟩
  rintro zzs H1 ⟨l,fr,rfl⟩;refine aF (fun zzs H2=>Same H1 H2/\zzs=[zzI h,zzI w,zzR p,zzR q,some v,zzR l,zzI 0]) (fun R hR=>hR _ _ ⟨Same.refl _,rfl⟩) ?_;rintro zzs H2 ⟨s2,rfl⟩;refine aF (fun zzs H3=>∃(l:Addr)(cs:List Cell)(v6:Option V),Fr K H H3 l (cs.map au)/\lV h w st kn x cs cs.length/\zzs=[zzI h,zzI w,zzR p,zzR q,some v,zzR l,v6]) (fun R hR=>?_) ?_
  ·refine⟨fun m zzs H'=>∃(l:Addr)(cs:List Cell)(n:Nat),Fr K H H' l (cs.map au)/\lV h w st kn x cs n/\m=36-n/\zzs=[zzI h,zzI w,zzR p,zzR q,some v,zzR l,zzI n],
    ⟨36,l,[x],0,⟨fr.same.trans s2,fr.new,fr.ls.mono s2⟩,⟨by simp,dM.mpr rfl,fun y hy=>by rw[dM.mp hy];exact .base,jj _,fun i y hi=>absurd hi (Nat.not_lt_zero _)⟩,rfl,rfl⟩,?_⟩
   rintro m zzs H' ⟨l,cs,n,fr,o,rfl,rfl⟩;obtain⟨xs,ex,D⟩:=id fr.ls;have lx:xs.length=cs.length:=by rw[D.length,aV]
   have c36:=o.len hx h6 w6;refine⟨_,rfl,_,rfl,.inl ⟨l,_,rfl,.inl (SqL.of ex),_,_,rfl,rfl,_,rfl,?_⟩⟩;rw[lx];refine Cj (fun hlt=>?_) (fun hlt=>?_)
   ·have hn:n<cs.length:=by have:=cN hlt;lia
    have ec:cs[n]?=some cs[n]:=by simp[hn]
    have exn:xs[n]?=some xs[n]:=by simp[hn,lx]
    have dn:Den K H' xs[n] (au cs[n]):=by
     obtain⟨d,ed,dd⟩:=D.get exn;rw[cV,ec] at ed;cases ed;exact dd
    refine⟨fun bG H2=>∃(l:Addr)(cs:List Cell),Fr K H H2 l (cs.map au)/\lV h w st kn x cs (n+1)/\bG=[zzI h,zzI w,zzR p,zzR q,some v,zzR l,zzI ((n+1:Nat):Int)],fun bG H2 hh=>?_,?_⟩
    ·obtain⟨l,cs,fr,o,rfl⟩:=hh;exact⟨36-(n+1),by lia,l,cs,n+1,fr,o,rfl,rfl⟩
    refine aF (fun zzs H3=>∃(l:Addr)(cs:List Cell),Fr K H H3 l (cs.map au)/\lV h w st kn x cs (n+1)/\zzs=[zzI h,zzI w,zzR p,zzR q,some v,zzR l,zzI n]) (fun R' hR'=>?_) ?_
    ·refine⟨_,rfl,_,rfl,_,rfl,_,rfl,_,rfl,.inl ⟨l,_,_,_,rfl,rfl,SqL.of ex,cY exn,?_⟩⟩;refine⟨h,w,p,_,st,cs[n],rfl,dp.mono fr.same,dn,fun H3 s3=>.inl ⟨rfl,_,rfl,?_⟩⟩;rw[wZ];refine Cj (fun hz=>?_) (fun hz=>?_)
     ·have fz:tZ h w st cs[n]=0:=by have:=cN hz;lia
      refine⟨_,rfl,_,rfl,_,rfl,_,rfl,_,rfl,.inl ⟨l,_,_,_,rfl,rfl,SqL.of (s3 _ _ ex),cY exn,?_⟩⟩;refine⟨h,w,_,cs[n],rfl,dn.mono s3,fun q4 H4 f4=>?_⟩;obtain⟨ys,ey,Dy⟩:=f4.ls;have sA:=fr.same.trans (s3.trans f4.same);refine⟨q4,rfl,⟨_,SqL.of ey⟩,dF (K:=K) (xs:=dh h w cs[n]) (enc:=au) (bM (SqL.of ey)) Dy (small (by have:=gD h w cs[n];lia)) (fun y=>!decide (y∈kn)&&!decide (y∈cs)) au (fun y hy u H5 s5 d G hG=>?_) (fun y hy _ u H5 s5 d G hG=>⟨_,rfl,hG _ _ (Same.refl _) d⟩) (fun us H5 s5 D5 q5 hq5=>?_)⟩
      ·have dk:=dq.mono (sA.trans s5);have dl:=(fr.ls.mono (s3.trans (f4.same.trans s5))).den;have hg:=hG H5 (Same.refl _);refine⟨_,rfl,_,rfl,.inr (lA d dk ⟨_,rfl,?_⟩)⟩;by_cases hk:y∈kn
       ·rw[bT hk] at hg ⊢;exact oJ hg
       ·rw[cB hk] at hg ⊢;refine Iz ⟨_,rfl,_,rfl,.inr (lA d dl ⟨_,rfl,?_⟩)⟩;exact hg
      ·have s6:=Same.put (o:=.lst us) hq5;have nl:((dh h w cs[n]).filter fun y=>!decide (y∈kn)&&!decide (y∈cs)).length<=8:=cP (iw _ _) (gD h w cs[n]);refine zU (fr.ls.mono (s3.trans (f4.same.trans (s5.trans s6)))) (Ls.new hq5 D5) (by rw[aV,aV];lia) fun r H6 f6=>hR' _ _ ⟨r,_,⟨sA.trans (s5.trans (s6.trans f6.same)),(sA.trans (s5.trans s6)).free f6.new,?_⟩,o.grow ec fz,rfl⟩
       rw[eG];exact f6.ls
     ·have fz:tZ h w st cs[n]≠0:=fun e=>hz (bT (by rw[e];rfl))
      exact hR' _ _ ⟨l,cs,⟨fr.same.trans s3,fr.new,fr.ls.mono s3⟩,o.skip ec fz,rfl⟩
    rintro zzs H3 ⟨l,cs,fr,o,rfl⟩;exact⟨_,rfl,l,cs,fr,o,rfl⟩
   ·have hn:n=cs.length:=by
     have h1:=o.le;have h2:¬((n:Int)<(cs.length:Int)):=fun z=>hlt (bT z)
     lia
    subst hn;exact hR _ _ ⟨l,cs,_,fr,o,rfl⟩
  rintro zzs H3 ⟨l,cs,v6,fr,o,rfl⟩;exact⟨_,rfl,hq l H3 cs fr o.nd o.done⟩
end
end My
namespace My
open PySem L2
section
variable{P:Program}{w:World}{K:ao}{mg:Str->Option Value}{base:Heap}{Z:Adr}
def qd(w:Nat)(st:List Cell)(n:Nat):List Cell:=(bH n w).filter fun y=>!decide (y∈st)
theorem Kp(w:Nat)(st:List Cell)(n:Nat):qd w st (n+1)=qd w st n++((List.range w).filter fun c:Nat=>!decide (((n:Int),(c:Int))∈st)).map fun c:Nat=>((n:Int),(c:Int)):=by
 unfold qd;rw[oG,xQ,List.filter_map];rfl
theorem Dh(w:Nat)(st:List Cell)(n:Nat):(qd w st n).length<=n*w:=by
 unfold qd;exact cP (iw _ _) (by rw[fP];exact bK _)
theorem QB{f:Addr}{fd:FuncData} (F:Fun K "_law_view_by" "_law_view_by" lD f fd) (T:Txt K mg Z) (bD:Df P w K mg base 1 "_law_cell_at" ["script","k"] (Ak K)) (bU:Df P w K mg base 1 "_law_mix" ["cell","k","many"] JD)
  (jz:Df P w K mg base 2 "_law_field_by" ["script","most"] (Ol K)) (mJ:Df P w K mg base 3 "_law_opened" ["height","width","stones","known","cell"] (JF K)) (nU:Df P w K mg base 3 "_law_shown" ["height","width","stones","known"] (Ov K)) :
  cC P w K mg base (CXE P w) 4 f fd ["script","most","steps"] (JH K):=by
 refine F.rok bJ (fun vs H Q E h=>?_) (fun cdv A outer s H vs Q E hr h=>?_)
 ·obtain⟨a,ns,m,k,rfl,_⟩:=h;rfl
 ·obtain⟨a,ns,m,k,rfl,hS,m1,m6,k1,k10,hq⟩:=h;have hu:=jV hr;have hu':=xZ hr;refine⟨_,(aA (FW (aO jz hr rfl aQ (aj (rv 0) (aj (rv 1) ak))) (zW rfl (gU (bC (i:=3) bJ.nd rfl (Or.inl rfl)) (gU (bC (i:=4) bJ.nd rfl (Or.inl rfl)) (gU (bC (i:=5) bJ.nd rfl (Or.inr rfl)) uz))))) (aA (aZ (i:=6) bJ.nd rfl (Or.inr rfl) (dO ak)) (aA (aZ (i:=7) bJ.nd rfl (Or.inl rfl) (dO ak)) (aA (cL eO rfl (dY rfl T.eZ (aj (rv 3) ak)) (bC (i:=8) bJ.nd rfl (Or.inr rfl)) (aC (aZ (i:=7) bJ.nd rfl (Or.inl rfl) (eV c7 (rv 7) (gK (by rfl) rfl (dY rfl T.eZ (aj (rv 4) ak)) (fun _ _ _=>(fB (bA (gn.or (kW (K:=K) hu')) (fu (aj (rv 9) (aj (rv 0) ak))) (rv 6) (by rfl)))) (fun _ _ _=>(fu (aj (rv 9) (aj (rv 0) ak))))))))) (aA (cL eO rfl (dY rfl T.eZ (aj (eV qj (aO bD hr rfl aQ (aj (rv 0) (aj aH ak))) (rv 2)) ak)) (bC (i:=9) bJ.nd rfl (Or.inl rfl)) (aA (uD (i:=10) bJ.nd rfl rfl (by rfl) rfl (bx (K:=K) (rv 7)) (fun _ _ _=>(fB (bA (gn.or (kW (K:=K) hu')) (rv 0) (rv 7) (by rfl)))) (fun _ _ _=>(rv 0))) (aC (dR (bA Jg (aU (dH (K:=K)) rfl T.dj cu (aj (rv 10) ak)) aH (bW _)) (aA (aZ (i:=11) bJ.nd rfl (Or.inl rfl) (cH (cG (K:=K)) (rv 10) (aO bU hr rfl aQ (aj (aO bD hr rfl aQ (aj (rv 0) (aj (eV c7 aH (rv 9)) ak))) (aj (rv 9) (aj (aU (dH (K:=K)) rfl T.dj cu (aj (rv 10) ak)) ak)))))) (aC (aZ (i:=6) bJ.nd rfl (Or.inr rfl) (eV c7 (rv 6) (aO mJ hr rfl aQ (aj (rv 3) (aj (rv 4) (aj (rv 5) (aj (rv 6) (aj (rv 11) ak)))))))))) bN)))) (aC (aR (fu (aj (aO nU hr rfl aQ (aj (rv 3) (aj (rv 4) (aj (rv 5) (aj (rv 6) ak))))) (aj (rv 5) ak)))))))))),?_⟩;refine aF (fun zzs H1=>∃(p:Addr)(h w:Nat)(st:List Cell),Same H H1/\H p=none/\Ls K H1 p (st.map au)/\(1<=h/\(h:Int)<=m)/\(1<=w/\(w:Int)<=m)/\st.Sublist (bH h w) /\
   zzs=[zzR a,zzI m,zzI k,zzI h,zzI w,zzR p,zzN,zzN,zzN,zzN,zzN,zzN]) (fun R hR=>?_) ?_
  ·exact⟨_,rfl,_,rfl,a,ns,m,rfl,hS,m1,m6,fun t p H' h w st s' np hT lp a1 a2 a3 a4 a5=>⟨t,_,rfl,hT,rfl,_,_,rfl,_,_,rfl,_,_,rfl,rfl,hR _ _ ⟨p,h,w,st,s',np,lp,⟨a1,a2⟩,⟨a3,a4⟩,a5,rfl⟩⟩⟩
  rintro zzs H1 ⟨p,h,w,st,s1,np,lp,bh,bw,sub,rfl⟩;have h6:h<=6:=by lia
  have w6:w<=6:=by lia
  have a3I:h*w<=6*6:=lR h6 w6;refine aF (fun zzs H2=>∃ l,Fr K H1 H2 l []/\zzs=[zzR a,zzI m,zzI k,zzI h,zzI w,zzR p,zzR l,zzN,zzN,zzN,zzN,zzN]) (fun R hR=>?_) ?_
  ·exact⟨by decide,fun l hl=>hR _ _ ⟨l,⟨Same.put hl,hl,.new hl .nil⟩,rfl⟩⟩
  rintro zzs H2 ⟨l,fl,rfl⟩;refine aF (fun zzs H3=>∃ e,Same H2 H3/\Ls K H3 e []/\zzs=[zzR a,zzI m,zzI k,zzI h,zzI w,zzR p,zzR l,zzR e,zzN,zzN,zzN,zzN]) (fun R hR=>?_) ?_
  ·exact⟨by decide,fun e he=>hR _ _ ⟨e,Same.put he,.new he .nil,rfl⟩⟩
  rintro zzs H3 ⟨e,s3,le,rfl⟩;refine aF (fun zzs H4=>∃(e:Addr)(v8:Option V),Same H2 H4/\Ls K H4 e ((qd w st h).map au)/\zzs=[zzR a,zzI m,zzI k,zzI h,zzI w,zzR p,zzR l,zzR e,v8,zzN,zzN,zzN]) (fun R hR=>?_) ?_
  ·refine⟨_,rfl,_,rfl,by lia,by lia,?_⟩;rw[jx];refine dW (lo:=0) (n:=h) (fun i zzs H4=>∃(e:Addr)(v8:Option V),Same H2 H4/\Ls K H4 e ((qd w st i).map au)/\zzs=[zzR a,zzI m,zzI k,zzI h,zzI w,zzR p,zzR l,zzR e,v8,zzN,zzN,zzN]) ⟨e,none,s3,le,rfl⟩ (fun i zzs H4 hi hh=>?_) (fun zzs H4 hh=>hR _ _ hh);obtain⟨e,v8,g1,g2,rfl⟩:=hh;refine⟨_,rfl,_,rfl,_,rfl,by lia,by lia,?_⟩;rw[jx];have e0:∀ c:Nat,((0:Int)+(i:Int),(c:Int))=((i:Int),(c:Int)):=fun c=>by rw[rQ]
   refine dF (K:=K) (xs:=List.range w) (enc:=fun c:Nat=>Dt.int (c:Int)) (qm w) (aP.nats _) (by rw[lO];exact small (by lia)) (fun c:Nat=>!decide (((i:Int),(c:Int))∈st)) (fun c:Nat=>au ((i:Int),(c:Int))) (fun c hc v H5 s5 D G hG=>?_) (fun c hc _ v H5 s5 D G hG=>?_) (fun ys H5 s5 D q5 hq5=>?_)
   ·cases D;refine⟨_,rfl,_,rfl,sz rfl,fun t ht=>⟨_,rfl,.inr (lA gA (lp.mono (fl.same.trans (g1.trans (s5.and ht)))).den ⟨_,rfl,?_⟩)⟩⟩;rw[e0];exact hG _ (Same.put ht)
   ·cases D;refine⟨_,rfl,_,rfl,sz rfl,fun t ht=>hG _ _ (Same.put ht) ?_⟩;rw[<- e0];exact gA
   ·have l1:=Dh w st i;have l2:((List.range w).filter fun c:Nat=>!decide (((i:Int),(c:Int))∈st)).length<=w:=cP (iw _ _) (by rw[lO];exact bK _);have l3:i*w<=6*6:=lR (by lia) w6;have sq:=Same.put (o:=.lst ys) hq5;refine zU (g2.mono (s5.trans sq)) (Ls.new hq5 D) (by rw[aV,aV];lia) fun r H6 f6=>⟨r,_,g1.trans (s5.trans (sq.trans f6.same)),?_,rfl⟩
    rw[Kp,eG,mH];exact f6.ls
  rintro zzs H4 ⟨e,v8,s4,le4,rfl⟩;refine aF (fun zzs H5=>∃(l:Addr)(kn:List Cell)(v9 v10 v11:Option V),Same H1 H5/\Ls K H5 l (kn.map au)/\kn.Nodup/\(∀ x∈kn,inF h w x/\x∉st)/\zzs=[zzR a,zzI m,zzI k,zzI h,zzI w,zzR p,zzR l,zzR e,v8,v9,v10,v11]) (fun R hR=>?_) ?_
  ·refine⟨_,rfl,a,ns,10,rfl,by decide,(s1.trans (fl.same.trans s4)).seq hS,fun r=>⟨_,rfl,_,_,rfl,rfl,(by lia),?_⟩⟩;have r0:0<=r%k:=Bo _ (by lia);have r1:r%k<k:=Ba _ (by lia);refine⟨_,rfl,by lia,by lia,?_⟩;refine dW (lo:=0) (n:=(r%k).toNat) (fun i zzs H5=>∃(l:Addr)(kn:List Cell)(v9 v10 v11:Option V),Same H4 H5/\Ls K H5 l (kn.map au)/\kn.Nodup/\(∀ x∈kn,inF h w x/\x∉st)/\zzs=[zzR a,zzI m,zzI k,zzI h,zzI w,zzR p,zzR l,zzR e,v8,v9,v10,v11])
    ⟨l,[],none,none,none,Same.refl _,fl.ls.mono s4,Hl,(by intro x hx;cases hx),rfl⟩ (fun i zzs H5 hi hh=>?_) (fun zzs H5 hh=>?_)
   ·obtain⟨l,kn,v9,v10,v11,g1,g2,nd,g3,rfl⟩:=hh;have a3J:kn.length<=36:=by
     have:=lg (l2:=bH h w) nd fun y hy=>bL.mpr (g3 y hy).1
     rw[fP] at this;lia
    have le5:=le4.mono g1;obtain⟨xs,ex,De⟩:=id le5;refine aF (fun zzs H6=>∃ q,Same H5 H6/\Ls K H6 q (((qd w st h).filter fun y=>!decide (y∈kn)).map au)/\zzs=[zzR a,zzI m,zzI k,zzI h,zzI w,zzR p,zzR l,zzR e,v8,zzI (0+i),zzR q,v11]) (fun R' hR'=>?_) ?_
    ·refine⟨_,rfl,e,rfl,⟨_,SqL.of ex⟩,dF (K:=K) (xs:=qd w st h) (enc:=au) (bM (SqL.of ex)) De (small (by have:=Dh w st h;lia)) (fun y=>!decide (y∈kn)) au (fun y hy u H6 s6 d G hG=>?_) (fun y hy _ u H6 s6 d G hG=>⟨_,rfl,hG _ _ (Same.refl _) d⟩) (fun us H6 s6 D6 q6 hq6=>?_)⟩
     ·exact⟨_,rfl,_,rfl,.inr (lA d (g2.mono s6).den ⟨_,rfl,hG _ (Same.refl _)⟩)⟩
     ·exact hR' _ _ ⟨q6,s6.and hq6,.new hq6 D6,rfl⟩
    rintro zzs H6 ⟨q,s6,lq,rfl⟩;obtain⟨ys,ey,Dy⟩:=id lq;have ly:ys.length=((qd w st h).filter fun y=>!decide (y∈kn)).length:=by rw[Dy.length,aV]
    refine⟨_,rfl,.inl ⟨q,_,rfl,.inl (SqL.of ey),_,_,rfl,rfl,_,rfl,?_⟩⟩;refine Cj (fun hpos=>?_) (fun _=>?_)
    ·have hp':0<ys.length:=by have:=cN hpos;lia
     refine aF (fun zzs H7=>∃(u:V)(x:Cell),Same H6 H7/\Den K H7 u (au x)/\x∈((qd w st h).filter fun y=>!decide (y∈kn))/\zzs=[zzR a,zzI m,zzI k,zzI h,zzI w,zzR p,zzR l,zzR e,v8,zzI (0+i),zzR q,some u]) (fun R' hR'=>?_) ?_
     ·refine⟨_,rfl,_,rfl,_,rfl,a,ns,_,rfl,by lia,(s1.trans (fl.same.trans (s4.trans (g1.trans s6)))).seq hS,fun r2=>?_⟩;refine⟨_,rfl,_,rfl,.inl ⟨q,_,rfl,.inl (SqL.of ey),_,_,_,rfl,by lia,fun r3 H7 a7 b7 s7=>?_⟩⟩;obtain⟨n,rfl⟩:=M7 a7;have hn:n<ys.length:=by lia
      have eyn:ys[n]?=some ys[n]:=by simp[hn]
      obtain⟨d,ed,dd⟩:=Dy.get eyn;rw[cV] at ed;obtain⟨x,hx,rfl⟩:=iQ.mp ed;exact .inl ⟨q,_,_,_,rfl,rfl,SqL.of (s7 _ _ ey),cY eyn,hR' _ _ ⟨_,x,s7,dd.mono s7,fV hx,rfl⟩⟩
     rintro zzs H7 ⟨u,x,s7,du,hx,rfl⟩;obtain⟨hx1,hx2⟩:=cg.mp hx;have hxk:x∉kn:=by simpa using hx2
     obtain⟨hx3,hx4⟩:=cg.mp hx1;have hxs:x∉st:=by simpa using hx4
     have hxf:inF h w x:=bL.mp hx3;refine⟨_,rfl,_,rfl,_,rfl,_,rfl,_,rfl,_,rfl,?_⟩;refine⟨h,w,p,l,u,st,kn,x,rfl,h6,w6,(lp.mono (fl.same.trans (s4.trans (g1.trans (s6.trans s7))))).den,(g2.mono (s6.trans s7)).den,du,hxf,fun r8 H8 cs f8 nd8 Ws=>?_⟩;have a3D:cs.length<=36:=by
      have:=lg (l2:=bH h w) nd8 fun y hy=>bL.mpr (((Ws y).mp hy).inF hxf)
      rw[fP] at this;lia
     refine zU (g2.mono (s6.trans (s7.trans f8.same))) f8.ls (by rw[aV,aV];lia) fun r9 H9 f9=>?_
     refine⟨r9,kn++cs,_,_,_,g1.trans (s6.trans (s7.trans (f8.same.trans f9.same))),by rw[eG];exact f9.ls,?_,fun y hy=>?_,rfl⟩
     ·refine xT.mpr ⟨nd,nd8,fun y hy z hz e=>?_⟩;rw[<- e] at hz;exact((Ws y).mp hz).new hxk hy
     ·rcases cI.mp hy with z|z
      ·exact g3 y z
      ·exact⟨((Ws y).mp z).inF hxf,((Ws y).mp z).free hxs⟩
    ·exact⟨l,kn,_,_,_,g1.trans s6,g2.mono s6,nd,g3,rfl⟩
   ·obtain⟨l,kn,v9,v10,v11,g1,g2,nd,g3,rfl⟩:=hh;exact hR _ _ ⟨l,kn,v9,v10,v11,fl.same.trans (s4.trans g1),g2,nd,g3,rfl⟩
  rintro zzs H5 ⟨l,kn,v9,v10,v11,s5,lk,nd,hkn,rfl⟩;refine⟨_,rfl,_,rfl,_,rfl,_,rfl,?_⟩;refine⟨h,w,p,l,st,kn,rfl,h6,w6,(lp.mono s5).den,lk.den,fun r H6 s6 nr hr6=>⟨_,rfl,sz rfl,fun t ht=>?_⟩⟩;have s7:=Same.put (o:=.tup [V.ref r,V.ref p]) ht;exact hq t r p _ h w st kn (s1.trans (s5.trans (s6.trans s7))) ((s1.trans s5).free nr) np (SqT.of aD) (s7 _ _ hr6) (lp.mono (s5.trans (s6.trans s7))) bh.1 bh.2 bw.1 bw.2 sub nd hkn
end
end My
namespace My
open PySem L2
theorem Wa{zs:List Str}{r:Nat}(h:r<=zs.length):Fe (zs.map V.str) none (some (r:Int))=(zs.take r).map V.str:=by
 unfold Fe;rw[aV,HT.uE,HT.yJ,Bm h,Hh,Nat.sub_zero,List.map_take]
theorem Px{zs:List Str}{r:Nat}(h:r<=zs.length):Fe (zs.map V.str) (some (r:Int)) none=(zs.drop r).map V.str:=by
 unfold Fe;rw[aV,HT.uE,HT.yJ,Bm h,List.map_drop];exact Bx (by rw[tu,aV];exact bK _)
theorem Nr{H:Hp}{p l:Addr}{ws us:List Str}{Q:VK}(hp:H p=some (.lst (ws.map V.str)))(hl:H l=some (.lst (us.map V.str)))(hw:ws.length+us.length<=10000)(hq:∀ q,H q=none->Q (.ref q) (upd H q (.lst ((ws++us).map V.str)))):Ji (.ref p) (.ref l) H Q:=
 ⟨_,_,hp,hl,(by rw[aV,aV];exact small hw),fun q h=>by have:=hq q h;rw[eG] at this;exact this⟩
def Oz(K:ao):Sp:=fun vs H Q _=>∃(a p:Addr)(ns:List Int)(zs:List Str)(w:Nat),vs=[.ref a,.ref p]/\SqL K H a (ns.map V.int)/\H p=some (.lst (zs.map V.str))/\Vw zs w /\
 ∀ q zs' H',Same H H'->H' q=some (.lst (zs'.map V.str))->Vw zs' w->zs'.length=zs.length->Q (.ref q) H'
section
variable{P:Program}{w:World}{K:ao}{mg:Str->Option Value}{base:Heap}{Z:Adr}
theorem Te{f:Addr}{fd:FuncData} (F:Fun K "_law_wrong_by" "_law_wrong_by" jE f fd) (T:Txt K mg Z) (bD:Df P w K mg base 1 "_law_cell_at" ["script","k"] (Ak K)) (bU:Df P w K mg base 1 "_law_mix" ["cell","k","many"] JD) :
  cC P w K mg base (CXE P w) 2 f fd ["script","rows"] (Oz K):=by
 refine F.rok fU (fun vs H Q E h=>?_) (fun cdv A outer s H vs Q E hr h=>?_)
 ·obtain⟨a,p,ns,zs,w,rfl,_⟩:=h;rfl
 ·obtain⟨a,p,ns,zs,w,rfl,hS,hp,vw,hq⟩:=h;have hu:=jV hr;have z6:=vw.le;have z1:=vw.ne;have w6:=vw.w6;have w1:=vw.w1;obtain⟨z0,zt,ez,hz0⟩:=vw.toRect.head;refine⟨_,(aA (aZ (i:=2) fU.nd rfl (Or.inl rfl) (aO bD hr rfl aQ (aj (rv 0) (aj aH ak)))) (aA (Uh (i:=3) (j:=4) rfl fU.nd rfl rfl (by decide) rfl rfl (aj (aO bU hr rfl aQ (aj (rv 2) (aj aH (aj (aU (dH (K:=K)) rfl T.dj cu (aj (rv 1) ak)) ak)))) (aj (aO bU hr rfl aQ (aj (rv 2) (aj aH (aj (aU (dH (K:=K)) rfl T.dj cu (aj (cH (cG (K:=K)) (rv 1) aH) ak)) ak)))) ak)) rfl) (aA (aZ (i:=5) fU.nd rfl (Or.inl rfl) (cH (cG (K:=K)) iz (aO bU hr rfl aQ (aj (rv 2) (aj aH (aj aH ak)))))) (aA (dR (bA (DN.or (Dq (K:=K) hu)) (eV qj (rv 2) aH) aH (bW _)) (aC (aR (rv 1))) bN) (aA (aZ (i:=6) fU.nd rfl (Or.inl rfl) (eV c7 (eV c7 (yF (Ww (K:=K)) (cH (cG (K:=K)) (rv 1) (rv 3)) yH (yI (rv 4))) (rv 5)) (yF (Ww (K:=K)) (cH (cG (K:=K)) (rv 1) (rv 3)) (yI (eV c7 (rv 4) aH)) yH))) (aC (aR (eV c7 (eV c7 (yF (Ww (K:=K)) (rv 1) yH (yI (rv 3))) (dO (aj (rv 6) ak))) (yF (Ww (K:=K)) (rv 1) (yI (eV c7 (rv 3) aH)) yH))))))))),?_⟩;refine aF (fun zzs H1=>∃ c:Int,Same H H1/\zzs=[zzR a,zzR p,zzI c,zzN,zzN,zzN,zzN]) (fun R hR=>?_) ?_
  ·exact⟨_,rfl,a,ns,18,rfl,by decide,hS,fun r=>hR _ _ ⟨r,Same.refl _,rfl⟩⟩
  rintro zzs H1 ⟨c,s1,rfl⟩;refine aF (fun zzs H2=>∃ i j:Nat,Same H H2/\i<zs.length/\j<w/\zzs=[zzR a,zzR p,zzI c,zzI i,zzI j,zzN,zzN]) (fun R hR=>?_) ?_
  ·refine⟨_,rfl,_,rfl,.inl ⟨p,_,rfl,.inl (SqL.of (s1 _ _ hp)),_,1,_,rfl,by rw[aV];lia,fun r1 H2 a2 b2 t2=>?_⟩⟩;rw[aV] at b2;refine⟨_,rfl,_,rfl,.inl ⟨p,_,_,_,rfl,rfl,SqL.of (t2 _ _ (s1 _ _ hp)),(by rw[ez];exact cZ),.inr ⟨z0,rfl,small (by lia),_,2,_,rfl,by lia,fun r2 H3 a3 b3 t3=>?_⟩⟩⟩;refine⟨_,_,rfl,hR _ _ ⟨r1.toNat,r2.toNat,s1.trans (t2.trans t3),by lia,by lia,?_⟩⟩;rw[GF a2,GF a3];rfl
  rintro zzs H2 ⟨i,j,s2,hi,hj,rfl⟩;refine aF (fun zzs H3=>∃ k:Nat,rO k=true/\Same H H3/\zzs=[zzR a,zzR p,zzI c,zzI i,zzI j,some (.str ⟨#[k]⟩),zzN]) (fun R hR=>?_) ?_
  ·refine⟨_,rfl,_,3,5,rfl,by decide,fun r H3 a3 b3 t3=>?_⟩;have ml:("#0123" : Str).cps.toList.length=5:=by decide
   obtain⟨k,hk,ek⟩:=Et (xs:=("#0123" : Str).cps.toList) (i:=r) a3 (by rw[ml];exact b3);exact .inr (.inr ⟨_,r,k,rfl,rfl,by decide,ek,hR _ _ ⟨k,(by decide:∀ x∈("#0123" : Str).cps.toList,rO x=true) k hk,s2.trans t3,rfl⟩⟩)
  rintro zzs H3 ⟨k,hk,s3,rfl⟩;have p3:=s3 _ _ hp;refine aF (fun zzs H4=>Same H3 H4/\zzs=[zzR a,zzR p,zzI c,zzI i,zzI j,some (.str ⟨#[k]⟩),zzN]) (fun R hR=>?_) ?_
  ·refine⟨_,rfl,_,_,rfl,rfl,(by show(0:Int)<3;decide),.inl ⟨rfl,_,rfl,?_⟩⟩;refine Cj (fun _=>⟨_,rfl,hq p zs _ s3 p3 vw rfl⟩) (fun _=>hR _ _ ⟨Same.refl _,rfl⟩)
  rintro zzs H4 ⟨s4,rfl⟩;have p4:=s4 _ _ p3;have er:=vw.toRect.row hi;have b1:=VP (zs.getD i Str.empty) none (some (j:Int));have b2:=VP (zs.getD i Str.empty) (some ((j:Int)+1)) none;refine aF (fun zzs H5=>Same H4 H5/\zzs=[zzR a,zzR p,zzI c,zzI i,zzI j,some (.str ⟨#[k]⟩),some (.str (PySem.Txt.slice (zs.getD i Str.empty) none (some (j:Int))++⟨#[k]⟩++PySem.Txt.slice (zs.getD i Str.empty) (some ((j:Int)+1)) none))]) (fun R hR=>?_) ?_
  ·refine⟨_,rfl,_,rfl,.inl ⟨p,_,_,_,rfl,rfl,SqL.of p4,K3 hi,_,rfl,_,rfl,.inr ⟨_,rfl,small (by lia),_,rfl,small (by show _+1<=10000;lia),?_⟩⟩⟩;refine⟨_,rfl,_,rfl,.inl ⟨p,_,_,_,rfl,rfl,SqL.of p4,K3 hi,_,rfl,_,rfl,.inr ⟨_,rfl,small (by lia),?_,hR _ _ ⟨Same.refl _,rfl⟩⟩⟩⟩;rw[str_len,vA,cM,<- str_len];exact small (by show _+1+_<=10000;lia)
  rintro zzs H5 ⟨s5,rfl⟩;have p5:=s5 _ _ p4;refine⟨_,rfl,_,rfl,_,rfl,.inl ⟨p,_,rfl,SqL.of p5,fun l1 hl1=>?_⟩⟩;rw[Wa (by lia)];have t1:=Same.put (o:=.lst ((zs.take i).map V.str)) hl1;refine⟨_,rfl,sz rfl,fun l2 hl2=>?_⟩;have t2:=Same.put (o:=.lst [V.str (PySem.Txt.slice (zs.getD i Str.empty) none (some (j:Int))++⟨#[k]⟩++PySem.Txt.slice (zs.getD i Str.empty) (some ((j:Int)+1)) none)]) hl2;refine Nr (ws:=zs.take i) (us:=[PySem.Txt.slice (zs.getD i Str.empty) none (some (j:Int))++⟨#[k]⟩++PySem.Txt.slice (zs.getD i Str.empty) (some ((j:Int)+1)) none]) (t2 _ _ aD) aD (by rw[lQ];show _+1<=10000;lia) fun l3 hl3=>?_
  have t3:=Same.put (o:=.lst ((zs.take i++[PySem.Txt.slice (zs.getD i Str.empty) none (some (j:Int))++⟨#[k]⟩++PySem.Txt.slice (zs.getD i Str.empty) (some ((j:Int)+1)) none]).map V.str)) hl3;have tA:=t1.trans (t2.trans t3);refine⟨_,rfl,_,rfl,_,rfl,.inl ⟨p,_,rfl,SqL.of (tA _ _ p5),fun l4 hl4=>?_⟩⟩;have ec:Fe (zs.map V.str) (some ((i:Int)+1)) none=(zs.drop (i+1)).map V.str:=Px (r:=i+1) (by lia);rw[ec];have t4:=Same.put (o:=.lst ((zs.drop (i+1)).map V.str)) hl4;refine Nr (ws:=zs.take i++[PySem.Txt.slice (zs.getD i Str.empty) none (some (j:Int))++⟨#[k]⟩++PySem.Txt.slice (zs.getD i Str.empty) (some ((j:Int)+1)) none]) (us:=zs.drop (i+1)) (t4 _ _ aD) aD
   (by rw[cM,lQ,tu];show _+1+_<=10000;lia) fun q hq'=>?_
  have pv:=a0U (s:=⟨#[k]⟩) vw hi hj rfl (fun x hx=>by rw[show x=k by simpa using hx];exact hk);exact hq q _ _ (s3.trans (s4.trans (s5.trans (tA.trans (t4.and hq'))))) aD pv.1 pv.2
end
end My
namespace My
open PySem L2
theorem aP.Z5{K:ao}{H:Hp}{α:Type}{g:α->Str}:∀ xs:List α,aP K H (xs.map (V.str ∘ g)) (xs.map fun x=>Dt.str (g x))
 |[]=>.nil
 |x::xs=>.cons (.str _) (aP.Z5 xs)
theorem R4{K:ao}{H:Hp}{z:Str}{zzs:L2.St}{Q:VK}{te:TE}(hz:z.length<=sizeLine)
  (ht:∀(c:Nat)(H':Hp),∀ G:VK,G (.bl (inS "#012345678" c)) H'->te (some (.str ⟨#[c]⟩)::zzs) H' G)
  (hq:∀ H',Same H H'->Q (.bl (z.cps.toList.all (inS "#012345678"))) H') :
  ∃ W:Nat->Nat->List V->Hp->Prop,(∃ m,W 0 m [] H)/\pJ (Its z) R5 te zzs (fun ys H2=>∀ p,H2 p=none->∃(q:Addr)(bs:List Bool),[V.ref p]=[.ref q]/\SqL K (upd H2 p (.lst ys)) q (bs.map V.bl)/\Q (.bl (bs.all id)) (upd H2 p (.lst ys))) W:=by
 refine comp_map (K:=K) (xs:=z.cps.toList) (enc:=fun c=>Dt.str ⟨#[c]⟩) (Tg z) (by rw[mH];exact aP.Z5 _) (by rw[jf];exact hz) (fun c=>Dt.bl (inS "#012345678" c)) (fun c _ v H' s D G hG=>?_) (fun ys H' s D p hp=>?_)
 ·cases D;exact ht c H' G (hG _ _ (Same.refl _) (.bl _))
 ·have e:ys=(z.cps.toList.map (inS "#012345678")).map V.bl:=by
   refine aP.FP (K:=K) (H:=H') ?_;rw[mH];exact D
  refine⟨p,z.cps.toList.map (inS "#012345678"),rfl,SqL.of (by rw[aD,e]),?_⟩;rw[Hu];exact hq _ (s.and hp)
def Z4:Sp:=fun vs H Q _=>∃(z:Str)(n:Int),vs=[.str z,.int n]/\z.length<=1000/\∀ H',Same H H'->Q (.bl (zX z n)) H'
theorem CP{l n m:Int}{te:TE}{zzs:L2.St}{H:Hp}{G:VK}(he:∀ Q':VK,Q' (.int m) H->te zzs H Q')(hg:G (.bl (decide (l<=n/\n<=m))) H) :
  if decide (l<=n)=true then te zzs H (fun w' H4=>rI0 (fun i j=>.bl (decide (i<=j))) (.int n) w' H4 G) else G (.bl false) H:=by
 refine Cj (fun h1=>he _ ⟨_,_,rfl,rfl,?_⟩) (fun h1=>?_)
 ·have h1':=cN h1;have e:decide (l<=n/\n<=m)=decide (n<=m):=by simp[h1']
  show G (.bl (decide (n<=m))) H;rw[<- e];exact hg
 ·have e:decide (l<=n/\n<=m)=false:=cB fun h=>h1 (bT h.1)
  rw[<- e];exact hg
def Aj(m n:Int):Bool:=decide (1<=m/\m<=6)&&decide (1<=n/\n<=6)
def Uv:Sp:=fun vs H Q _=>∃(m n:Int),vs=[.int m,.int n]/\Q (.bl (Aj m n)) H
def Ux(K:ao):Sp:=fun vs H Q _=>∃(p:Addr)(zs:List Str),vs=[.ref p]/\SqL K H p (zs.map V.str)/\zs.length<=1000/\(∀ z∈zs,z.length<=1000)/\∀ H',Same H H'->Q (.bl (xM zs)) H'
theorem YT{zs:List Str}:(((zs.map V.str).length:Nat):Int)=(zs.length:Int):=by rw[aV]
theorem Ug{K:ao}{H:Hp}{a:Addr}{zs:List Str}{n:Int}{zzs:L2.St}{Q:VK}{te:TE}(hS:SqL K H a (zs.map V.str))(hz:zs.length<=1000)
  (ht:∀ z∈zs,∀(H':Hp),Same H H'->∀ G:VK,(∀ H'',Same H' H''->G (.bl (zX z n)) H'')->te (some (.str z)::zzs) H' G)
  (hq:∀ H',Same H H'->Q (.bl (zs.all fun r=>zX r n)) H') :
  ∃ W:Nat->Nat->List V->Hp->Prop,(∃ m,W 0 m [] H)/\pJ (Itl K a) R5 te zzs (fun ys H2=>∀ p,H2 p=none->a2i K [V.ref p] (upd H2 p (.lst ys)) Q) W:=by
 refine comp_map (K:=K) (xs:=zs) (enc:=Dt.str) (bM hS) (aP.strs zs) (small (by lia)) (fun z=>Dt.bl (zX z n)) (fun z hz v H' s D G hG=>?_) (fun ys H' s D p hp=>?_)
 ·cases D;exact ht z hz H' s G fun H'' s''=>hG _ _ s'' (.bl _)
 ·have e:ys=(zs.map fun z=>zX z n).map V.bl:=by
   refine aP.FP (K:=K) (H:=H') ?_;rw[mH];exact D
  refine⟨p,zs.map fun z=>zX z n,rfl,SqL.of (by rw[aD,e]),?_⟩;rw[Hu];exact hq _ (s.and hp)
section
variable{P:Program}{w:World}{K:ao}{mg:Str->Option Value}{base:Heap}{Z:Adr}
theorem a0h{f:Addr}{fd:FuncData} (F:Fun K "is_row" "is_row" Ab f fd) (T:Txt K mg Z):cC P w K mg base (CXE P w) 1 f fd ["row","width"] Z4:=by
 refine F.rok R0 (fun vs H Q E h=>?_) (fun cdv A outer s H vs Q E hr h=>?_)
 ·obtain⟨z,n,rfl,_⟩:=h;rfl
 ·obtain⟨z,n,rfl,hz,hq⟩:=h;have hu:=jV hr;have hu':=xZ hr;have hz':z.length<=sizeLine:=small (by lia);refine⟨_,(aC (aR (Jj (zP (nG.or (nD (K:=K) hu)) (aU (dH (K:=K)) rfl T.dj cu (aj (rv 0) ak)) (rv 1) (bW _)) (Jk (aU (k_all (K:=K) rfl) rfl T.Nj K4 (aj (gK (by rfl) rfl (a0Z (rv 0)) (fun _ _ _=>rB) (fun _ _ _=>(zP (eX.or (pq (K:=K) hu')) (rv 0) (U7 T.qU rfl) (by rfl)))) ak)))))),?_⟩;refine⟨_,rfl,.inr ⟨z,rfl,hz',_,rfl,.inl ⟨rfl,_,rfl,?_⟩⟩⟩;rw[wZ];refine Cj (fun h1=>?_) (fun h1=>?_)
  ·refine⟨_,rfl,z,rfl,R4 (K:=K) hz' (fun c H' G hG=>⟨_,rfl,.inl ⟨_,_,rfl,rfl,hG⟩⟩) fun H' s'=>?_⟩;have:=hq H' s';unfold zX at this;rw[h1,uU] at this;exact this
  ·have:=hq H (Same.refl _);unfold zX at this;rw[Bool.eq_false_iff.mpr h1,wN] at this;exact this
theorem Xf{f:Addr}{fd:FuncData} (F:Fun K "is_size" "is_size" wk f fd) (T:Txt K mg Z):cC P w K mg base (CXE P w) 1 f fd ["height","width"] Uv:=by
 refine F.rok Ln (fun vs H Q E h=>?_) (fun cdv A outer s H vs Q E hr h=>?_)
 ·obtain⟨m,n,rfl,_⟩:=h;rfl
 ·obtain⟨m,n,rfl,hq⟩:=h;refine⟨_,(aC (aR (Jj (yE rM rM aH (rv 0) (Ld T.iK rfl)) (Jk (yE rM rM aH (rv 1) (Ld T.fQ rfl)))))),?_⟩;refine⟨_,rfl,_,_,rfl,rfl,_,rfl,?_⟩;refine CP (m:=6) (fun _ q=>q) ⟨_,rfl,dG (fun hb=>?_) (fun hb=>?_)⟩
  ·unfold Aj at hq;rw[hb,uU] at hq;refine⟨_,rfl,_,_,rfl,rfl,_,rfl,?_⟩;exact CP (m:=6) (fun _ q=>q) hq
  ·unfold Aj at hq;rw[hb,wN] at hq;exact hq
theorem Jz{m n:Int}:Aj m n=true↔((1<=m/\m<=6)/\(1<=n/\n<=6)):=by
 unfold Aj;rw[mF,iC,iC]
theorem Xh{f:Addr}{fd:FuncData} (F:Fun K "is_view" "is_view" wu f fd) (T:Txt K mg Z) (yN:Df P w K mg base 1 "is_row" ["row","width"] Z4) (uZ:Df P w K mg base 1 "is_size" ["height","width"] Uv):cC P w K mg base (CXE P w) 2 f fd ["rows"] (Ux K):=by
 refine F.rok Lp (fun vs H Q E h=>?_) (fun cdv A outer s H vs Q E hr h=>?_)
 ·obtain⟨p,zs,rfl,_⟩:=h;rfl
 ·obtain⟨p,zs,rfl,hS,hn,hz,hq⟩:=h;have hu:=jV hr;refine⟨_,(aA (dR (yh (xH (bA (nG.or (nD (K:=K) hu)) (aU (dH (K:=K)) rfl T.dj cu (aj (rv 0) ak)) aH (bW _)) (zT (lB (j7 (aO uZ hr rfl aQ (aj (aU (dH (K:=K)) rfl T.dj cu (aj (rv 0) ak)) (aj (aU (dH (K:=K)) rfl T.dj cu (aj (cH (cG (K:=K)) (rv 0) aH) ak)) ak)))))))) (aC (aR pH)) bN) (aC (aR (aU (k_all (K:=K) rfl) rfl T.Nj K4 (aj (gK (by rfl) rfl (bx (K:=K) (rv 0)) (fun _ _ _=>rB) (fun _ _ _=>(aO yN hr rfl aQ (aj (rv 0) (aj (aU (dH (K:=K)) rfl T.dj cu (aj (cH (cG (K:=K)) (rv 1) aH) ak)) ak))))) ak))))),?_⟩;refine⟨_,rfl,.inl ⟨p,_,rfl,.inl hS,.inl ⟨rfl,_,rfl,?_⟩⟩⟩;rw[YT,wZ];refine dG (fun hb=>?_) (fun hb=>?_)
  ·cases zs with
   |nil=>exact hq H (Same.refl _)
   |cons z zs=>have:=cN hb;simp only[gP] at this;lia
  cases zs with
  |nil=>cases hb
  |cons z zs=>
   have z0:=hz z dJ;refine⟨_,rfl,.inl ⟨p,_,rfl,.inl hS,_,rfl,.inl ⟨p,_,_,_,rfl,rfl,hS,cZ,.inr ⟨z,rfl,small (by lia),?_⟩⟩⟩⟩;refine⟨_,_,rfl,?_⟩;rw[YT];refine⟨_,rfl,dG (fun h1=>?_) (fun h1=>?_)⟩
   ·have:=hq H (Same.refl _);have h1:¬Aj ((z::zs).length:Nat) z.length=true:=by simpa using h1
    rw[Jz] at h1;by_cases h2:(z::zs).length<=6
    ·rw[LQ (by simp only[gP] at h1 h2 ⊢;lia)] at this;exact this
    ·rw[LK h2] at this;exact this
   ·have h1:Aj ((z::zs).length:Nat) z.length=true:=by simpa using h1
    rw[Jz] at h1;obtain⟨⟨a1,a2⟩,a3,a4⟩:=h1;refine⟨_,rfl,p,rfl,⟨_,hS⟩,Ug hS hn (n:=z.length) (fun r hr' H' s' G hG=>?_) fun H' s'=>?_⟩
    ·refine⟨_,rfl,_,rfl,.inl ⟨p,_,_,_,rfl,rfl,s'.seq hS,cZ,.inr ⟨z,rfl,small (by lia),?_⟩⟩⟩;exact⟨r,_,rfl,hz r hr',hG⟩
    ·rw[<- Aq (by lia) (by lia) (by lia)];exact hq H' s'
def Us(K:ao)(C B:Addr):Sp:=fun vs H Q E=>∃(x dx p:Addr)(z:List Str),vs=[.ref x,.ref p]/\H x=some (.ins C dx [])/\SqL K H p (z.map V.str)/\z.length<=1000/\(∀ r∈z,r.length<=1000) /\
 (xM z=false->∀ H',Same H H'->E (.ref B) none H')/\(xM z=true->∀ H' (l:Addr) (z0:Str) (zs:List Str),z=z0::zs->H l=none->l≠x->H' l=some (.lst (z.map V.str))->H' x=some (.ins C dx (xg l z.length z0.length))->(∀ b o,H b=some o->b≠x->H' b=some o)->Q .non H')
theorem Uy{K:ao}{H:Hp}{p x C dx:Addr}{xs:List V}{fs:List (Str×V)}{o:HO}(h:SqL K H p xs)(hx:H x=some (.ins C dx fs)):SqL K (upd H x o) p xs:=by
 rcases h with(h|⟨ob,h⟩)|h
 ·exact .inl (.inl (by rw[bF (qg h hx (by intro z;cases z))];exact h))
 ·exact .inl (.inr ⟨ob,by rw[bF (qg h hx (by intro z;cases z))];exact h⟩)
 ·exact .inr h
theorem a2W{a b:Str}{u v:V}:(jB a v (jB b u [])).length<1000:=by
 have h1:=lY a v (jB b u []);have h2:=lY b u [];simp only[Bl] at h2;lia
theorem Xa{f:Addr}{fd:FuncData} (F:Fun K "__init__" "View.__init__" jC f fd) (T:Txt K mg Z) (vd:Df P w K mg base 2 "is_view" ["rows"] (Ux K)):cC P w K mg base (CXE P w) 3 f fd ["self","rows"] (Us K Z.View Z.BadView):=by
 refine F.Js wB (fun vs H Q E h=>?_) (fun cdv A outer s H vs Q E hr h=>?_)
 ·obtain⟨x,dx,p,z,rfl,_⟩:=h;rfl
 ·obtain⟨x,dx,p,z,rfl,hx,hS,hn,hz,hE,hq⟩:=h;have hd:=Dj hr;refine⟨_,(aA (dR (RT.nox (lB (j7 (aO vd hr rfl aQ (aj (rv 1) ak))))) (aC (ju T.rD rfl T.Cy hd (aj iz ak))) bN) (aA (RS.nox (Lg (rv 0) (nH (S6 (K:=K)) rfl T.Eu Ew (aj (rv 1) ak)))) (aA (RS.nox (Lg (rv 0) (aU (dH (K:=K)) rfl T.dj cu (aj (rv 1) ak)))) (aC (RS.nox (Lg (rv 0) (aU (dH (K:=K)) rfl T.dj cu (aj (cH (cG (K:=K)) (rv 1) aH) ak)))))))),?_⟩;refine⟨_,rfl,p,z,rfl,hS,hn,hz,fun H1 s1=>⟨_,rfl,?_⟩⟩;cases hv:xM z with
  |false=>exact Iz ⟨by decide,hE hv H1 s1⟩
  |true=>
   refine oJ ?_;cases z with
   |nil=>exact absurd (show false=true from hv) (by decide)
   |cons z0 zs=>
    have z0':=hz z0 dJ;refine⟨_,rfl,p,_,rfl,.inl (s1.seq hS),fun l hl=>?_⟩;have nlx:l≠x:=(bV (s1 x _ hx) hl).symm;have h1:(upd H1 l (.lst ((z0::zs).map V.str))) x=some (.ins Z.View dx []):=by rw[bF nlx.symm];exact s1 x _ hx
    have S1:SqL K (upd H1 l (.lst ((z0::zs).map V.str))) p ((z0::zs).map V.str):=(s1.and hl).seq hS;refine⟨_,rfl,x,Z.View,dx,_,rfl,h1,T.gb,T.gR,(by show 0<1000;decide),?_⟩;have S2:=Uy (o:=.ins Z.View dx (jB "rows" (.ref l) [])) S1 h1;refine⟨_,rfl,.inl ⟨p,_,rfl,.inl S2,_,rfl,x,Z.View,dx,_,rfl,aD,T.gb,T.fJ,(by show 1<1000;decide),?_⟩⟩;have S3:=Uy (o:=.ins Z.View dx (jB "height" (.int ((z0::zs).map V.str).length) (jB "rows" (.ref l) []))) S2 aD;refine⟨_,rfl,.inl ⟨p,_,_,_,rfl,rfl,S3,cZ,.inr ⟨z0,rfl,small (by lia),_,rfl,x,Z.View,dx,_,rfl,aD,T.gb,T.gk,a2W,?_⟩⟩⟩;refine hq hv _ l z0 zs rfl (s1.free hl) nlx ?_ ?_ (fun b o e hb=>?_)
    ·rw[bF nlx,bF nlx,bF nlx,aD]
    ·rw[aD];rw[aV];rfl
    ·rw[bF hb,bF hb,bF hb];exact(s1.and hl) b o e
end
end My
namespace My
open PySem L2
def Ur(K:ao)(C:Addr):Sp:=fun vs H Q _=>∃(x:Addr)(v:V)(zs:List Str)(w:Nat)(c:Cell),vs=[.ref x,v]/\dB C H x zs w/\Den K H v (au c)/\Q (.bl (decide (inF zs.length w c))) H
def gW(K:ao)(C:Addr):Sp:=fun vs H Q _=>∃(x:Addr)(v:V)(zs:List Str)(w:Nat)(c:Cell),vs=[.ref x,v]/\dB C H x zs w/\Den K H v (au c)/\Q (.bl (aK zs w c)) H
def oY(K:ao)(C:Addr):Sp:=fun vs H Q _=>∃(x:Addr)(zs:List Str)(w:Nat),vs=[.ref x]/\dB C H x zs w/\∀ q H',Fr K H H' q ((bH zs.length w).map au)->Q (.ref q) H'
def yL(K:ao)(C NC:Addr):Sp:=fun vs H Q E=>∃(x:Addr)(v:V)(zs:List Str)(w:Nat)(c:Cell),vs=[.ref x,v]/\dB C H x zs w/\Den K H v (au c)/\(inF zs.length w c->∀ q H',Fr K H H' q ((dh zs.length w c).map au)->Q (.ref q) H')/\(¬inF zs.length w c->∀ H',Same H H'->E (.ref NC) none H')
section
variable{P:Program}{w:World}{K:ao}{mg:Str->Option Value}{base:Heap}{Z:Adr}
theorem a0d{f:Addr}{fd:FuncData} (F:Fun K "has_cell" "has_cell" sV f fd) (T:Txt K mg Z):cC P w K mg base (CXE P w) 1 f fd ["view","cell"] (Ur K Z.View):=by
 refine F.rok Ju (fun vs H Q E h=>?_) (fun cdv A outer s H vs Q E hr h=>?_)
 ·obtain⟨x,v,zs,w,c,rfl,_⟩:=h;rfl
 ·obtain⟨x,v,zs,w,c,rfl,vt,dv,hq⟩:=h;obtain⟨dx,l,hx,hl⟩:=vt.ob;refine⟨_,(aC (aR (Jj (yE rM DK aH (cH (cG (K:=K)) (rv 1) aH) (oK (K:=K) (rv 0))) (Jk (yE rM DK aH (cH (cG (K:=K)) (rv 1) aH) (oK (K:=K) (rv 0))))))),?_⟩;refine⟨_,rfl,sO dv ⟨_,_,rfl,rfl,_,rfl,?_⟩⟩;refine CQ (m:=(zs.length:Int)) (fun Q' q=>⟨_,rfl,x,Z.View,dx,_,_,rfl,hx,T.gb,T.fJ,zG _ _ _,q⟩) ⟨_,rfl,?_⟩;have fin:∀ b:Bool,b=decide (inF zs.length w c)->Q (.bl b) H:=fun b e=>by rw[e];exact hq
  refine dG (fun h1=>?_) (fun h1=>fin _ (cB fun z=>by rw[bT z.1] at h1;cases h1).symm);refine⟨_,rfl,sS dv ⟨_,_,rfl,rfl,_,rfl,?_⟩⟩;refine CQ (m:=(w:Int)) (fun Q' q=>⟨_,rfl,x,Z.View,dx,_,_,rfl,hx,T.gb,T.gk,Fv _ _ _,q⟩) (fin _ ?_);have h1':=cN h1;by_cases h2:0<=c.2/\c.2<(w:Int)
  ·rw[bT h2,bT (show inF zs.length w c from⟨h1',h2⟩)]
  ·rw[cB h2,cB (fun z:inF zs.length w c=>h2 z.2)]
theorem Jd{f:Addr}{fd:FuncData} (F:Fun K "is_closed" "is_closed" qx f fd) (T:Txt K mg Z) (jl:Df P w K mg base 1 "has_cell" ["view","cell"] (Ur K Z.View)):cC P w K mg base (CXE P w) 2 f fd ["view","cell"] (gW K Z.View):=by
 refine F.rok Gf (fun vs H Q E h=>?_) (fun cdv A outer s H vs Q E hr h=>?_)
 ·obtain⟨x,v,zs,w,c,rfl,_⟩:=h;rfl
 ·obtain⟨x,v,zs,w,c,rfl,vt,dv,hq⟩:=h;obtain⟨dx,l,hx,hl⟩:=vt.ob;have hu:=jV hr;refine⟨_,(aC (aR (Jj (aO jl hr rfl aQ (aj (rv 0) (aj (rv 1) ak))) (Jk (zP (nG.or (nD (K:=K) hu)) (cH (cG (K:=K)) (cH (cG (K:=K)) (oK (K:=K) (rv 0)) (cH (cG (K:=K)) (rv 1) aH)) (cH (cG (K:=K)) (rv 1) aH)) (U7 T.gC rfl) (bW _)))))),?_⟩;refine⟨_,rfl,_,rfl,x,v,zs,w,c,rfl,vt,dv,_,rfl,?_⟩;unfold aK at hq;refine dG (fun h1=>?_) (fun h1=>?_)
  ·rw[h1,uU] at hq;obtain⟨⟨a1,a2⟩,⟨a3,a4⟩⟩:=cN h1;have e1:c.1=((c.1.toNat:Nat):Int):=by lia
   have e2:c.2=((c.2.toNat:Nat):Int):=by lia
   have i1:c.1.toNat<zs.length:=by lia
   refine⟨_,rfl,x,Z.View,dx,_,_,rfl,hx,T.gb,T.gR,Ko _ _ _,_,rfl,sO dv ?_⟩;rw[e1];refine FQ (SqL.of hl) i1 ⟨_,rfl,sS dv ?_⟩;rw[e2];refine yG (SqL.of hl) vt.vw.toRect i1 (by lia) (.inl ⟨rfl,?_⟩);have es:decide (V.str ⟨#[codeAt zs (c.1.toNat,c.2.toNat)]⟩=V.str "#")=decide (codeAt zs (c.1.toNat,c.2.toNat)=35):=by
    congr 1;apply propext;have eh:("#" : Str)=⟨#[35]⟩:=by decide +kernel
    rw[eh];constructor
    ·intro z;simpa using z
    ·intro z;rw[z]
   rw[es];exact hq
  ·rw[h1,wN] at hq;exact hq
theorem Jc{f:Addr}{fd:FuncData} (F:Fun K "cells" "cells" FZ f fd) (T:Txt K mg Z):cC P w K mg base (CXE P w) 1 f fd ["view"] (oY K Z.View):=by
 refine F.rok uF (fun vs H Q E h=>?_) (fun cdv A outer s H vs Q E hr h=>?_)
 ·obtain⟨x,zs,w,rfl,_⟩:=h;rfl
 ·obtain⟨x,zs,w,rfl,vt,hq⟩:=h;have z6:=vt.vw.le;have w6:=vt.vw.w6;have l36:zs.length*w<=6*6:=lR z6 w6;refine⟨_,(aA (aZ (i:=1) uF.nd rfl (Or.inl rfl) (dO ak)) (aA (cL eO rfl (dY rfl T.eZ (aj (oK (K:=K) (rv 0)) ak)) (bC (i:=2) uF.nd rfl (Or.inl rfl)) (aC (cL eO rfl (dY rfl T.eZ (aj (oK (K:=K) (rv 0)) ak)) (bC (i:=3) uF.nd rfl (Or.inl rfl)) (aC (gO (lX (K:=K) lN nO nP dX (rv 1) (aj (fu (aj (rv 2) (aj (rv 3) ak))) ak))))))) (aC (aR (rv 1))))),?_⟩;refine aF (fun zzs H1=>∃ q,H q=none/\Same H H1/\H1 q=some (.lst [])/\zzs=[zzR x,zzR q,zzN,zzN]) (fun R hR=>?_) ?_
  ·exact⟨by decide,fun q hq'=>hR _ _ ⟨q,hq',Same.put hq',aD,rfl⟩⟩
  rintro zzs H1 ⟨q,nq,s1,hq1,rfl⟩;refine aF (fun zzs H2=>∃(v2 v3:Option V),Fr K H H2 q ((bH zs.length w).map au)/\zzs=[zzR x,zzR q,v2,v3]) (fun R hR=>?_) ?_
  ·obtain⟨dx,l,hx,hl⟩:=(vt.mono s1).ob;refine⟨_,rfl,x,Z.View,dx,_,_,rfl,hx,T.gb,T.fJ,zG _ _ _,_,rfl,by lia,by lia,?_⟩;rw[jx];refine dW (lo:=0) (n:=zs.length) (fun i zzs H2=>∃(v2 v3:Option V),Same H H2/\Ls K H2 q ((bH i w).map au)/\zzs=[zzR x,zzR q,v2,v3]) ⟨none,none,s1,⟨[],hq1,.nil⟩,rfl⟩ (fun i zzs H2 hi hh=>?_) (fun zzs H2 hh=>?_)
   ·obtain⟨v2,v3,g1,g2,rfl⟩:=hh;obtain⟨dx,l,hx,hl⟩:=(vt.mono g1).ob;refine⟨_,rfl,x,Z.View,dx,_,_,rfl,hx,T.gb,T.gk,Fv _ _ _,_,rfl,by lia,by lia,?_⟩;rw[jx];refine dW (lo:=0) (n:=w) (fun j zzs H2=>∃ v3:Option V,Same H H2/\Ls K H2 q ((bH i w++(List.range j).map fun c:Nat=>((i:Int),(c:Int))).map au)/\zzs=[zzR x,zzR q,zzI (0+i),v3]) ⟨v3,g1,by simpa using g2,rfl⟩ (fun j zzs H2 hj hh=>?_) (fun zzs H2 hh=>?_)
    ·obtain⟨v3,g1,⟨xs,ex,D⟩,rfl⟩:=hh;have step:bH i w++(List.range (j+1)).map (fun c:Nat=>((i:Int),(c:Int)))=(bH i w++(List.range j).map fun c:Nat=>((i:Int),(c:Int)))++[((i:Int),(j:Int))]:=by
      rw[uT,eG,<- xR];rfl
     have ll:=D.length;rw[aV,cM,fP,aV,lO] at ll;have hl2:i*w<=6*6:=lR (by lia) w6;refine⟨_,rfl,.inl ⟨rfl,_,SqL.of ex⟩,_,rfl,_,rfl,sz rfl,fun t ht=>?_⟩;have st:=Same.put (o:=.tup [V.int (0+i),V.int (0+j)]) ht;refine⟨q,xs,_,rfl,rfl,st _ _ ex,ltl (by lia),?_⟩;refine⟨_,(SameBut.refl q _).put.of (g1.trans st) nq,⟨xs++[.ref t],aD,?_⟩,rfl⟩;rw[step,eG];refine((SameBut.refl q _).put.cells (st _ _ ex) (D.mono st)).append (.cons ((SameBut.refl q _).put.cell (st _ _ ex) ?_) .nil);rw[rQ,rQ];exact gA
    ·obtain⟨v3,g1,g2,rfl⟩:=hh;exact⟨_,_,g1,by rw[oG];exact g2,rfl⟩
   ·obtain⟨v2,v3,g1,g2,rfl⟩:=hh;exact hR _ _ ⟨v2,v3,⟨g1,nq,g2⟩,rfl⟩
  rintro zzs H2 ⟨v2,v3,fr,rfl⟩;exact⟨_,rfl,hq q H2 fr⟩
end
end My
namespace My
open PySem L2
def oZ(K:ao)(C:Addr)(g:List Str->Nat->Cell->List Cell):Sp:=fun vs H Q _=>∃(x:Addr)(v:V)(zs:List Str)(w:Nat)(c:Cell),vs=[.ref x,v]/\dB C H x zs w/\Den K H v (au c)/\inF zs.length w c/\∀ q H',Fr K H H' q ((g zs w c).map au)->Q (.ref q) H'
def qD(K:ao)(C:Addr)(g:List Str->Nat->List Cell):Sp:=fun vs H Q _=>∃(x:Addr)(zs:List Str)(w:Nat),vs=[.ref x]/\dB C H x zs w/\∀ q H',Fr K H H' q ((g zs w).map au)->Q (.ref q) H'
def bO(zs:List Str)(w:Nat):List Cell:=(cA zs w).filter fun x=>decide (0<(aM zs w x).length)
def jM(zs:List Str)(w:Nat):List Cell:=(cA zs w).filter fun x=>decide ((aM zs w x).length=0)
theorem dN{zs:List Str}{w:Nat}(v:Vw zs w):(cA zs w).length<=36:=by
 have h1:(cA zs w).length<=(bH zs.length w).length:=iw _ _;rw[fP] at h1;have h2:zs.length*w<=6*6:=lR v.le v.w6;lia
theorem uw(zs:List Str)(w:Nat)(x:Cell):(aM zs w x).length<=8:=cP (iw _ _) (gD _ _ _)
theorem Zw(a b:Cell):(!eqD (au a) (au b))=!decide (a=b):=by rw[Ip]
theorem O6(a:Int):(if(0:Int)>a then(0:Int) else a)=max a 0:=by by_cases h:(0:Int)>a<;>simp only[h,mV,lK]<;>lia
theorem O7(a b:Int):(if b<a then b else a)=min a b:=by by_cases h:b<a<;>simp only[h,mV,lK]<;>lia
theorem Sw{a:Int}(h:a<=6):0<=max a 0/\max a 0<=6:=⟨Int.le_max_right _ _,Int.max_le.mpr ⟨h,by decide⟩⟩
theorem Sy{a b:Int}(h:0<=a)(h0:0<=b)(h2:b<=6):0<=min a b/\min a b<=6:=⟨Int.le_min.mpr ⟨h,h0⟩,Int.le_trans (Int.min_le_right _ _) h2⟩
theorem Ud{i j:Int}(a:0<=i/\i<=6)(b:0<=j/\j<=6) : -(2^62)<=i/\i<2^62 /\ -(2^62)<=j/\j<2^62:=⟨by lia,by omega,by lia,by omega⟩
theorem Rn{a b:Int}{i:Nat}(ha:0<=a)(hb:b<=6)(h:i<(b-a).toNat):i<6:=by lia
theorem Zr{a b:Int}(ha:0<=a)(hb:b<=6):(b-a).toNat<=6:=by lia
theorem a2z{a b n:Nat}(h1:a<=n*6)(h2:b<=6):a+b<=(n+1)*6:=by lia
theorem a1S{a b i j:Nat}(h1:a<=i*6)(h2:b<=j)(hi:i<6)(hj:j<6):a+b<=100:=by lia
section
variable{P:Program}{w:World}{K:ao}{mg:Str->Option Value}{base:Heap}{Z:Adr}
theorem T8{f:Addr}{fd:FuncData} (F:Fun K "near" "near" Li f fd) (T:Txt K mg Z) (jl:Df P w K mg base 1 "has_cell" ["view","cell"] (Ur K Z.View)):cC P w K mg base (CXE P w) 2 f fd ["view","cell"] (yL K Z.View Z.NoCell):=by
 refine F.Js yK (fun vs H Q E h=>?_) (fun cdv A outer s H vs Q E hr h=>?_)
 ·obtain⟨x,v,zs,w,c,rfl,_⟩:=h;rfl
 ·obtain⟨x,v,zs,w,c,rfl,vt,dv,hq,hE⟩:=h;have hu:=jV hr;have hd:=Dj hr;have z6:=vt.vw.le;have w6:=vt.vw.w6;refine⟨_,(aA (dR (RT.nox (lB (j7 (aO jl hr rfl aQ (aj (rv 0) (aj (rv 1) ak)))))) (aC (ju T.nM rfl T.tU hd (aj iz ak))) bN) (aA (RS.nox (aZ (i:=2) yK.nd rfl (Or.inl rfl) (dO ak))) (aA (RS.nox (cL eO rfl (vY rfl T.eZ (aj (aU (CJ rfl) rfl T.Rf Rg (aj (eV KY (cH (cG (K:=K)) (rv 1) aH) aH) (aj aH ak))) (aj (aU (vC rfl) rfl T.Nm K6 (aj (eV c7 (cH (cG (K:=K)) (rv 1) aH) aH) (aj (oK (K:=K) (rv 0)) ak))) ak))) (bC (i:=3) yK.nd rfl (Or.inl rfl)) (aC (cL eO rfl (vY rfl T.eZ (aj (aU (CJ rfl) rfl T.Rf Rg (aj (eV KY (cH (cG (K:=K)) (rv 1) aH) aH) (aj aH ak))) (aj (aU (vC rfl) rfl T.Nm K6 (aj (eV c7 (cH (cG (K:=K)) (rv 1) aH) aH) (aj (oK (K:=K) (rv 0)) ak))) ak))) (bC (i:=4) yK.nd rfl (Or.inl rfl)) (aC (dR (bA (DN.or (Dq (K:=K) hu)) (fu (aj (rv 3) (aj (rv 4) ak))) (rv 1) (bW _)) (aC (gO (lX (K:=K) lN nO nP dX (rv 2) (aj (fu (aj (rv 3) (aj (rv 4) ak))) ak)))) bN)))))) (aC (RS.nox (aR (rv 2))))))),?_⟩;refine aF (fun zzs H1=>inF zs.length w c/\Same H H1/\zzs=[zzR x,some v,zzN,zzN,zzN]) (fun R hR=>?_) ?_
  ·refine⟨_,rfl,_,rfl,x,v,zs,w,c,rfl,vt,dv,_,rfl,?_⟩;refine dG (fun h1=>⟨by decide,hE (mD (by simpa only[pF] using h1)) H (Same.refl _)⟩) (fun h1=>hR _ _ ⟨cN (by simpa only[BR] using h1),Same.refl _,rfl⟩)
  rintro zzs H1 ⟨hin,s1,rfl⟩;have hq':=hq hin;rw[<- Tw z6 w6 hin] at hq';obtain⟨⟨c1,c2⟩,⟨c3,c4⟩⟩:=id hin;refine aF (fun zzs H2=>∃ q,H q=none/\Same H H2/\H2 q=some (.lst [])/\zzs=[zzR x,some v,zzR q,zzN,zzN]) (fun R hR=>?_) ?_
  ·exact⟨by decide,fun q hq'=>hR _ _ ⟨q,s1.free hq',s1.and hq',aD,rfl⟩⟩
  rintro zzs H2 ⟨q,nq,s2,hq2,rfl⟩;have m1:(if(0:Int)>c.1-1 then(0:Int) else c.1-1)=max (c.1-1) 0:=O6 _;have m2:(if(zs.length:Int)<c.1+2 then(zs.length:Int) else c.1+2)=min (c.1+2) zs.length:=O7 _ _;have m3:(if(0:Int)>c.2-1 then(0:Int) else c.2-1)=max (c.2-1) 0:=O6 _;have m4:(if(w:Int)<c.2+2 then(w:Int) else c.2+2)=min (c.2+2) w:=O7 _ _;have bx1:=Sw (a:=c.1-1) (by lia);have bx2:=Sw (a:=c.2-1) (by lia);have bn1:=Sy (a:=c.1+2) (b:=(zs.length:Int)) (by lia) (by lia) (by lia);have bn2:=Sy (a:=c.2+2) (b:=(w:Int)) (by lia) (by lia) (by lia);refine aF (fun zzs H3=>∃(v3 v4:Option V),Fr K H H3 q ((Lb zs.length w c).map au)/\zzs=[zzR x,some v,zzR q,v3,v4]) (fun R hR=>?_) ?_
  ·obtain⟨dx,l,hx,hl⟩:=(vt.mono s2).ob;refine⟨_,rfl,sO (dv.mono s2) ⟨_,_,rfl,rfl,_,_,rfl,?_⟩⟩;refine⟨_,rfl,sO (dv.mono s2) ⟨_,rfl,x,Z.View,dx,_,_,rfl,hx,T.gb,T.fJ,zG _ _ _,_,_,rfl,_,_,rfl,?_⟩⟩;rw[m1,m2];refine⟨Ud bx1 bn1,?_⟩;refine dW (lo:=max (c.1-1) 0) (n:=(min (c.1+2) (zs.length:Int)-max (c.1-1) 0).toNat) (fun i zzs H3=>∃(v3 v4:Option V),Same H H3/\Ls K H3 q ((oN w c (max (c.1-1) 0) i).map au)/\zzs=[zzR x,some v,zzR q,v3,v4]) ⟨none,none,s2,⟨[],hq2,.nil⟩,rfl⟩ (fun i zzs H3 hi hh=>?_) (fun zzs H3 hh=>?_)
   ·obtain⟨v3,v4,g1,g2,rfl⟩:=hh;obtain⟨dx,l,hx,hl⟩:=(vt.mono g1).ob;refine⟨_,rfl,sS (dv.mono g1) ⟨_,_,rfl,rfl,_,_,rfl,?_⟩⟩;refine⟨_,rfl,sS (dv.mono g1) ⟨_,rfl,x,Z.View,dx,_,_,rfl,hx,T.gb,T.gk,Fv _ _ _,_,_,rfl,_,_,rfl,?_⟩⟩;rw[m3,m4];refine⟨Ud bx2 bn2,?_⟩;have base0:oN w c (max (c.1-1) 0) (i+1)=oN w c (max (c.1-1) 0) i++yx w c (max (c.1-1) 0+(i:Int)):=by
     unfold oN;rw[uT,wJ];simp
    have pl:∀ n,(oN w c (max (c.1-1) 0) n).length<=n*6:=by
     intro n
     induction n with
     |zero=>simp[oN]
     |succ n ih=>
      unfold oN at ih ⊢;rw[uT,wJ,cM];have:([n].flatMap fun k:Nat=>yx w c (max (c.1-1) 0+(k:Int))).length<=6:=by
       simp only[xU,List.flatMap_nil,xW];unfold yx;refine cP (iw _ _) ?_;rw[aV,lO];exact Zr bx2.1 bn2.2
      exact a2z ih this
    refine dW (lo:=max (c.2-1) 0) (n:=(min (c.2+2) (w:Int)-max (c.2-1) 0).toNat) (fun j zzs H3=>∃ v4:Option V,Same H H3/\Ls K H3 q ((oN w c (max (c.1-1) 0) i++((List.range j).map fun k:Nat=>(max (c.1-1) 0+(i:Int),max (c.2-1) 0+(k:Int))).filter fun y=>!decide (y=c)).map au)/\zzs=[zzR x,some v,zzR q,zzI (max (c.1-1) 0+(i:Int)),v4])
     ⟨v4,g1,by simpa using g2,rfl⟩ (fun j zzs H3 hj hh=>?_) (fun zzs H3 hh=>?_)
    ·obtain⟨v4,g1,⟨xs,ex,D⟩,rfl⟩:=hh;have step:∀ b:Bool,b=!decide ((max (c.1-1) 0+(i:Int),max (c.2-1) 0+(j:Int))=c)->(((List.range (j+1)).map fun k:Nat=>(max (c.1-1) 0+(i:Int),max (c.2-1) 0+(k:Int))).filter fun y=>!decide (y=c))=(((List.range j).map fun k:Nat=>(max (c.1-1) 0+(i:Int),max (c.2-1) 0+(k:Int))).filter fun y=>!decide (y=c))++(if b=true then [(max (c.1-1) 0+(i:Int),max (c.2-1) 0+(j:Int))] else []):=by
      intro b hb;rw[uT,eG,xQ,fH,Ht,GZ,List.filter_nil,<- hb]
     have ll:xs.length<=100:=by
      rw[D.length,aV,cM];have:=pl i;have h2:(((List.range j).map fun k:Nat=>(max (c.1-1) 0+(i:Int),max (c.2-1) 0+(k:Int))).filter fun y=>!decide (y=c)).length<=j:=cP (iw _ _) (by rw[aV,lO];exact bK _);exact a1S this h2 (Rn bx1.1 bn1.2 hi) (Rn bx2.1 bn2.2 hj)
     refine⟨_,rfl,_,rfl,sz rfl,fun t ht=>?_⟩;have st:=Same.put (o:=.tup [V.int (max (c.1-1) 0+(i:Int)),V.int (max (c.2-1) 0+(j:Int))]) ht;refine⟨_,rfl,.inr ⟨au (max (c.1-1) 0+(i:Int),max (c.2-1) 0+(j:Int)),au c,rfl,gA,dv.mono (g1.trans st),rfl,zA _,?_⟩⟩;refine⟨_,rfl,?_⟩;show if(!eqD _ _)=true then _ else _
     rw[Zw];refine dG (fun hb=>?_) (fun hb=>?_)
     ·refine⟨_,rfl,.inl ⟨rfl,_,SqL.of (st _ _ ex)⟩,_,rfl,_,rfl,sz rfl,fun t2 ht2=>?_⟩;have st2:=Same.put (o:=.tup [V.int (max (c.1-1) 0+(i:Int)),V.int (max (c.2-1) 0+(j:Int))]) ht2;have e2:=st2 _ _ (st _ _ ex);refine⟨q,xs,_,rfl,rfl,e2,ltl (Mt ll (by decide)),?_⟩;refine⟨_,(SameBut.refl q _).put.of (g1.trans (st.trans st2)) nq,⟨xs++[.ref t2],aD,?_⟩,rfl⟩;rw[step true hb.symm,<- xR,eG];exact((SameBut.refl q _).put.cells e2 (D.mono (st.trans st2))).append (.cons ((SameBut.refl q _).put.cell e2 gA) .nil)
     ·refine⟨_,g1.trans st,⟨xs,st _ _ ex,?_⟩,rfl⟩;rw[step false hb.symm];simpa using D.mono st
    ·obtain⟨v4,g1,g2,rfl⟩:=hh;exact⟨_,_,g1,by rw[base0];exact g2,rfl⟩
   ·obtain⟨v3,v4,g1,g2,rfl⟩:=hh;exact hR _ _ ⟨v3,v4,⟨g1,nq,g2⟩,rfl⟩
  rintro zzs H3 ⟨v3,v4,fr,rfl⟩;exact⟨_,rfl,hq' q H3 fr⟩
theorem Jf{f:Addr}{fd:FuncData} (F:Fun K "open_near" "open_near" qz f fd) (T:Txt K mg Z) (nY:Df P w K mg base 2 "near" ["view","cell"] (yL K Z.View Z.NoCell)) (bB:Df P w K mg base 2 "is_closed" ["view","cell"] (gW K Z.View)) :
  cC P w K mg base (CXE P w) 3 f fd ["view","cell"] (oZ K Z.View aM):=by
 refine F.rok Gg (fun vs H Q E h=>?_) (fun cdv A outer s H vs Q E hr h=>?_)
 ·obtain⟨x,v,zs,w,c,rfl,_⟩:=h;rfl
 ·obtain⟨x,v,zs,w,c,rfl,vt,dv,hin,hq⟩:=h;refine⟨_,(aC (aR (gK (by rfl) rfl (bx (K:=K) (aO nY hr rfl aQ (aj (rv 0) (aj (rv 1) ak)))) (fun _ _ _=>(fB (lB (j7 (aO bB hr rfl aQ (aj (rv 1) (aj (rv 0) ak))))))) (fun _ _ _=>(rv 0))))),?_⟩;refine⟨_,rfl,_,rfl,x,v,zs,w,c,rfl,vt,dv,fun _ q H1 fr=>?_,fun z=>absurd hin z⟩;obtain⟨xs,ex,D⟩:=fr.ls;refine⟨q,rfl,⟨_,SqL.of ex⟩,dF (K:=K) (xs:=dh zs.length w c) (enc:=au) (bM (SqL.of ex)) D (small (by have:=gD zs.length w c;lia)) (fun y=>!aK zs w y) au (fun y hy u H2 s2 d G hG=>?_) (fun y hy _ u H2 s2 d G hG=>⟨_,rfl,hG _ _ (Same.refl _) d⟩) (fun ys H2 s2 D2 q2 hq2=>?_)⟩
  ·exact⟨_,rfl,_,rfl,x,u,zs,w,y,rfl,vt.mono (fr.same.trans s2),d,_,rfl,hG _ (Same.refl _)⟩
  ·exact hq q2 _ ⟨fr.same.trans (s2.and hq2),(fr.same.trans s2).free hq2,.new hq2 D2⟩
theorem Ck{f:Addr}{fd:FuncData} (F:Fun K "closed_near" "closed_near" mR f fd) (T:Txt K mg Z) (nY:Df P w K mg base 2 "near" ["view","cell"] (yL K Z.View Z.NoCell)) (bB:Df P w K mg base 2 "is_closed" ["view","cell"] (gW K Z.View)) :
  cC P w K mg base (CXE P w) 3 f fd ["view","cell"] (oZ K Z.View aB):=by
 refine F.rok Ae (fun vs H Q E h=>?_) (fun cdv A outer s H vs Q E hr h=>?_)
 ·obtain⟨x,v,zs,w,c,rfl,_⟩:=h;rfl
 ·obtain⟨x,v,zs,w,c,rfl,vt,dv,hin,hq⟩:=h;refine⟨_,(aC (aR (gK (by rfl) rfl (bx (K:=K) (aO nY hr rfl aQ (aj (rv 0) (aj (rv 1) ak)))) (fun _ _ _=>(fB (j7 (aO bB hr rfl aQ (aj (rv 1) (aj (rv 0) ak)))))) (fun _ _ _=>(rv 0))))),?_⟩;refine⟨_,rfl,_,rfl,x,v,zs,w,c,rfl,vt,dv,fun _ q H1 fr=>?_,fun z=>absurd hin z⟩;obtain⟨xs,ex,D⟩:=fr.ls;refine⟨q,rfl,⟨_,SqL.of ex⟩,dF (K:=K) (xs:=dh zs.length w c) (enc:=au) (bM (SqL.of ex)) D (small (by have:=gD zs.length w c;lia)) (fun y=>aK zs w y) au (fun y hy u H2 s2 d G hG=>?_) (fun y hy _ u H2 s2 d G hG=>⟨_,rfl,hG _ _ (Same.refl _) d⟩) (fun ys H2 s2 D2 q2 hq2=>?_)⟩
  ·exact⟨_,rfl,_,rfl,x,u,zs,w,y,rfl,vt.mono (fr.same.trans s2),d,_,rfl,hG _ (Same.refl _)⟩
  ·exact hq q2 _ ⟨fr.same.trans (s2.and hq2),(fr.same.trans s2).free hq2,.new hq2 D2⟩
theorem Qu{f:Addr}{fd:FuncData} (F:Fun K "closed" "closed" zZ f fd) (T:Txt K mg Z) (jT:Df P w K mg base 1 "cells" ["view"] (oY K Z.View)) (bB:Df P w K mg base 2 "is_closed" ["view","cell"] (gW K Z.View)) :
  cC P w K mg base (CXE P w) 3 f fd ["view"] (qD K Z.View cA):=by
 refine F.rok QX (fun vs H Q E h=>?_) (fun cdv A outer s H vs Q E hr h=>?_)
 ·obtain⟨x,zs,w,rfl,_⟩:=h;rfl
 ·obtain⟨x,zs,w,rfl,vt,hq⟩:=h;have l36:zs.length*w<=6*6:=lR vt.vw.le vt.vw.w6;refine⟨_,(aC (aR (gK (by rfl) rfl (bx (K:=K) (aO jT hr rfl aQ (aj (rv 0) ak))) (fun _ _ _=>(fB (j7 (aO bB hr rfl aQ (aj (rv 1) (aj (rv 0) ak)))))) (fun _ _ _=>(rv 0))))),?_⟩;refine⟨_,rfl,x,zs,w,rfl,vt,fun q H1 fr=>?_⟩;obtain⟨xs,ex,D⟩:=fr.ls;refine⟨q,rfl,⟨_,SqL.of ex⟩,dF (K:=K) (xs:=bH zs.length w) (enc:=au) (bM (SqL.of ex)) D (small (by rw[fP];lia)) (aK zs w) au (fun y hy u H2 s2 d G hG=>?_) (fun y hy _ u H2 s2 d G hG=>⟨_,rfl,hG _ _ (Same.refl _) d⟩) (fun ys H2 s2 D2 q2 hq2=>?_)⟩
  ·exact⟨_,rfl,_,rfl,x,u,zs,w,y,rfl,vt.mono (fr.same.trans s2),d,_,rfl,hG _ (Same.refl _)⟩
  ·exact hq q2 _ ⟨fr.same.trans (s2.and hq2),(fr.same.trans s2).free hq2,.new hq2 D2⟩
theorem T7{f:Addr}{fd:FuncData} (F:Fun K "edge" "edge" Lh f fd) (T:Txt K mg Z) (mW:Df P w K mg base 3 "closed" ["view"] (qD K Z.View cA)) (cU:Df P w K mg base 3 "open_near" ["view","cell"] (oZ K Z.View aM)) :
  cC P w K mg base (CXE P w) 4 f fd ["view"] (qD K Z.View bO):=by
 refine F.rok Yo (fun vs H Q E h=>?_) (fun cdv A outer s H vs Q E hr h=>?_)
 ·obtain⟨x,zs,w,rfl,_⟩:=h;rfl
 ·obtain⟨x,zs,w,rfl,vt,hq⟩:=h;have l36:=dN vt.vw;refine⟨_,(aC (aR (gK (by rfl) rfl (bx (K:=K) (aO mW hr rfl aQ (aj (rv 0) ak))) (fun _ _ _=>(fB (bA Jg (aU (dH (K:=K)) rfl T.dj cu (aj (aO cU hr rfl aQ (aj (rv 1) (aj (rv 0) ak))) ak)) aH (bW _)))) (fun _ _ _=>(rv 0))))),?_⟩;refine⟨_,rfl,x,zs,w,rfl,vt,fun q H1 fr=>?_⟩;obtain⟨xs,ex,D⟩:=fr.ls;refine⟨q,rfl,⟨_,SqL.of ex⟩,dF (K:=K) (xs:=cA zs w) (enc:=au) (bM (SqL.of ex)) D (small (by lia)) (fun y=>decide (0<(aM zs w y).length)) au (fun y hy u H2 s2 d G hG=>?_) (fun y hy _ u H2 s2 d G hG=>⟨_,rfl,hG _ _ (Same.refl _) d⟩) (fun ys H2 s2 D2 q2 hq2=>?_)⟩
  ·refine⟨_,rfl,_,rfl,x,u,zs,w,y,rfl,vt.mono (fr.same.trans s2),d,bL.mp (cg.mp hy).1,fun q3 H3 f3=>?_⟩;obtain⟨ws,e3,D3⟩:=f3.ls;refine .inl ⟨q3,_,rfl,.inl (SqL.of e3),_,_,rfl,rfl,_,rfl,?_⟩;rw[D3.length,aV];have e:decide ((0:Int)<((aM zs w y).length:Nat))=decide (0<(aM zs w y).length):=by congr 1;apply propext;omega
   rw[e];exact hG _ f3.same
  ·exact hq q2 _ ⟨fr.same.trans (s2.and hq2),(fr.same.trans s2).free hq2,.new hq2 D2⟩
theorem Xd{f:Addr}{fd:FuncData} (F:Fun K "far" "far" Uk f fd) (T:Txt K mg Z) (mW:Df P w K mg base 3 "closed" ["view"] (qD K Z.View cA)) (cU:Df P w K mg base 3 "open_near" ["view","cell"] (oZ K Z.View aM)) :
  cC P w K mg base (CXE P w) 4 f fd ["view"] (qD K Z.View jM):=by
 refine F.rok a1e (fun vs H Q E h=>?_) (fun cdv A outer s H vs Q E hr h=>?_)
 ·obtain⟨x,zs,w,rfl,_⟩:=h;rfl
 ·obtain⟨x,zs,w,rfl,vt,hq⟩:=h;have l36:=dN vt.vw;have hu:=jV hr;refine⟨_,(aC (aR (gK (by rfl) rfl (bx (K:=K) (aO mW hr rfl aQ (aj (rv 0) ak))) (fun _ _ _=>(fB (bA (nG.or (nD (K:=K) hu)) (aU (dH (K:=K)) rfl T.dj cu (aj (aO cU hr rfl aQ (aj (rv 1) (aj (rv 0) ak))) ak)) aH (bW _)))) (fun _ _ _=>(rv 0))))),?_⟩;refine⟨_,rfl,x,zs,w,rfl,vt,fun q H1 fr=>?_⟩;obtain⟨xs,ex,D⟩:=fr.ls;refine⟨q,rfl,⟨_,SqL.of ex⟩,dF (K:=K) (xs:=cA zs w) (enc:=au) (bM (SqL.of ex)) D (small (by lia)) (fun y=>decide ((aM zs w y).length=0)) au (fun y hy u H2 s2 d G hG=>?_) (fun y hy _ u H2 s2 d G hG=>⟨_,rfl,hG _ _ (Same.refl _) d⟩) (fun ys H2 s2 D2 q2 hq2=>?_)⟩
  ·refine⟨_,rfl,_,rfl,x,u,zs,w,y,rfl,vt.mono (fr.same.trans s2),d,bL.mp (cg.mp hy).1,fun q3 H3 f3=>?_⟩;obtain⟨ws,e3,D3⟩:=f3.ls;refine .inl ⟨q3,_,rfl,.inl (SqL.of e3),.inl ⟨rfl,_,rfl,?_⟩⟩;rw[D3.length,aV,wZ];have e:decide (((aM zs w y).length:Int)=0)=decide ((aM zs w y).length=0):=by congr 1;apply propext;lia
   rw[e];exact hG _ f3.same
  ·exact hq q2 _ ⟨fr.same.trans (s2.and hq2),(fr.same.trans s2).free hq2,.new hq2 D2⟩
end
end My
namespace My
open PySem L2
theorem zB:∀ cs:List Cell,mZ (cs.map au)<=1
 |[]=>Gv rfl
 |c::cs=>by
  show max (pY (au c)) (mZ (cs.map au))<=1;exact Nat.max_le.mpr ⟨Gv rfl,zB cs⟩
theorem Ik:∀ ws:List Str,mZ (ws.map Dt.str)=0
 |[]=>rfl
 |w::ws=>by rw[fH];unfold mZ;rw[Ik ws];rfl
theorem Wi(ws:List Str):pY (.lst (ws.map Dt.str))<=50:=by unfold pY;rw[Ik];decide
theorem Nz{K:ao}{H:Hp}{p:Addr}{ws:List Str}(h:H p=some (.lst (ws.map V.str))):Den K H (.ref p) (.lst (ws.map Dt.str)):=.lst (SqL.of h) (aP.strs ws)
end My
namespace My
open PySem L2
theorem Rv{K:ao}{H:Hp}{xs:List V}{cs:List Cell}{v:V}(D:aP K H xs (cs.map au))(h:v∈xs):∃ c∈cs,Den K H v (au c):=by
 obtain⟨i,hi⟩:=List.mem_iff_getElem?.mp h;obtain⟨d,ed,dd⟩:=D.get hi;rw[cV] at ed;obtain⟨c,ec,rfl⟩:=iQ.mp ed;exact⟨c,fV ec,dd⟩
theorem Dd{K:ao}{H:Hp}{m:Cell}:∀ {wt:List Cell} {xs:List V},aP K H xs ((wt++[m]).map au)->∃ ys u,xs=ys++[u]/\aP K H ys (wt.map au)/\Den K H u (au m)
 |[],xs,D=>by
  cases D with
  |cons h t=>
   cases t;exact⟨[],_,rfl,.nil,h⟩
 |c::wt,xs,D=>by
  cases D with
  |cons h t=>
   obtain⟨ys,u,rfl,a,b⟩:=Dd (wt:=wt) t;exact⟨_::ys,u,rfl,.cons h a,b⟩
theorem yU{a b:List Cell}(h1:a.Pairwise aX)(h2:b.Pairwise aX)(hm:∀ y,y∈a↔y∈b):a=b:=by
 have pm:a.Perm b:=(Vf (j9 h1) (j9 h2)).mpr hm;refine List.Perm.eq_of_pairwise (le:=aX) (fun x y _ _ h1 h2=>?_) h1 h2 pm;unfold aX at h1 h2;lia
def uK(K:ao)(C:Addr):Sp:=fun vs H Q _=>∃(x:Addr)(v:V)(zs:List Str)(w:Nat)(c:Cell),vs=[.ref x,v]/\dB C H x zs w/\Den K H v (au c)/\inF zs.length w c/\aK zs w c=false/\Q (.int (fY zs c)) H
def JC(K:ao)(C:Addr):Sp:=fun vs H Q _=>∃(x l:Addr)(zs:List Str)(w:Nat)(cs:List Cell),vs=[.ref x,.ref l]/\dB C H x zs w/\Ls K H l (cs.map au)/\cs.length<=1000/\∀ H',Same H H'->Q (.bl (layB zs w cs)) H'
def JG(K:ao)(C:Addr):Sp:=fun vs H Q _=>∃(x l:Addr)(v:V)(zs:List Str)(w:Nat)(c:Cell)(cs:List Cell),vs=[.ref x,v,.ref l]/\dB C H x zs w/\Den K H v (au c)/\inF zs.length w c/\Ls K H l (cs.map au)/\∀ H',Same H H'->Q (.int (uM zs.length w c cs)) H'
def Oo(K:ao)(C BL:Addr):Sp:=fun vs H Q E=>∃(x l:Addr)(zs:List Str)(w:Nat)(cs:List Cell),vs=[.ref x,.ref l]/\dB C H x zs w/\Ls K H l (cs.map au)/\cs.length<=1000 /\
 (layB zs w cs=true->∀ H',Same H H'->Q (.bl (iu zs w cs)) H')/\(layB zs w cs=false->∀ H',Same H H'->E (.ref BL) none H')
section
variable{P:Program}{w:World}{K:ao}{mg:Str->Option Value}{base:Heap}{Z:Adr}
theorem KJ{f:Addr}{fd:FuncData} (F:Fun K "figure" "figure" Aa f fd) (T:Txt K mg Z):cC P w K mg base (CXE P w) 1 f fd ["view","cell"] (uK K Z.View):=by
 refine F.rok QZ (fun vs H Q E h=>?_) (fun cdv A outer s H vs Q E hr h=>?_)
 ·obtain⟨x,v,zs,w,c,rfl,_⟩:=h;rfl
 ·obtain⟨x,v,zs,w,c,rfl,vt,dv,hin,hc,hq⟩:=h;obtain⟨dx,l,hx,hl⟩:=vt.ob;have dg:=vt.vw.digit hin hc;refine⟨_,(aC (aR (nH CG rfl T.Nk K5 (aj (cH (cG (K:=K)) (cH (cG (K:=K)) (oK (K:=K) (rv 0)) (cH (cG (K:=K)) (rv 1) aH)) (cH (cG (K:=K)) (rv 1) aH)) ak)))),?_⟩;obtain⟨⟨a1,a2⟩,⟨a3,a4⟩⟩:=id hin;have e1:c.1=((c.1.toNat:Nat):Int):=by lia
  have e2:c.2=((c.2.toNat:Nat):Int):=by lia
  have i1:c.1.toNat<zs.length:=by lia
  refine⟨_,rfl,x,Z.View,dx,_,_,rfl,hx,T.gb,T.gR,Ko _ _ _,_,rfl,sO dv ?_⟩;rw[e1];refine FQ (SqL.of hl) i1 ⟨_,rfl,sS dv ?_⟩;rw[e2];exact yG (SqL.of hl) vt.vw.toRect i1 (by lia) ⟨_,rfl,dg.1,by lia,hq⟩
theorem Je{f:Addr}{fd:FuncData} (F:Fun K "is_laying" "is_laying" qy f fd) (T:Txt K mg Z) (bB:Df P w K mg base 2 "is_closed" ["view","cell"] (gW K Z.View)):cC P w K mg base (CXE P w) 3 f fd ["view","laying"] (JC K Z.View):=by
 refine F.rok uG (fun vs H Q E h=>?_) (fun cdv A outer s H vs Q E hr h=>?_)
 ·obtain⟨x,l,zs,w,cs,rfl,_⟩:=h;rfl
 ·obtain⟨x,l,zs,w,cs,rfl,vt,⟨us,eu,D⟩,hc,hq⟩:=h;have hu:=jV hr;have lu:us.length=cs.length:=by rw[D.length,aV]
  refine⟨_,(aA (cL eO rfl (vY rfl T.eZ (aj aH (aj (aU (dH (K:=K)) rfl T.dj cu (aj (rv 1) ak)) ak))) (bC (i:=2) uG.nd rfl (Or.inl rfl)) (aC (dR (bA (a1Q (K:=K) hu) (cH (cG (K:=K)) (rv 1) (eV KY (rv 2) aH)) (cH (cG (K:=K)) (rv 1) (rv 2)) (bW _)) (aC (aR pH)) bN))) (aC (aR (aU (k_all (K:=K) rfl) rfl T.Nj K4 (aj (gK (by rfl) rfl (bx (K:=K) (rv 1)) (fun _ _ _=>rB) (fun _ _ _=>(aO bB hr rfl aQ (aj (rv 1) (aj (rv 0) ak))))) ak))))),?_⟩;refine aF (fun zzs H1=>∃ v2:Option V,H1=H/\HD cs=true/\zzs=[zzR x,zzR l,v2]) (fun R hR=>?_) ?_
  ·refine⟨_,rfl,.inl ⟨l,_,rfl,.inl (SqL.of eu),_,_,rfl,?_⟩⟩;refine⟨⟨by omega,by omega,by omega,by omega⟩,?_⟩;refine dW (lo:=1) (n:=((us.length:Int)-1).toNat) (fun i zzs H1=>∃ v2:Option V,H1=H/\(∀ j,j<i->fO (cs.getD j (0,0)) (cs.getD (j+1) (0,0))=true)/\zzs=[zzR x,zzR l,v2]) ⟨none,rfl,fun j hj=>absurd hj (Nat.not_lt_zero _),rfl⟩ (fun i zzs H1 hi hh=>?_) (fun zzs H1 hh=>?_)
   ·obtain⟨v2,rfl,g,rfl⟩:=hh;have b1:i<us.length:=by omega
    have b2:i+1<us.length:=by omega
    have e1:us[i]?=some us[i]:=by simp[b1]
    have e2:us[i+1]?=some us[i+1]:=by simp[b2]
    obtain⟨d1,f1,D1⟩:=D.get e1;obtain⟨d2,f2,D2⟩:=D.get e2;rw[cV] at f1 f2;obtain⟨c1,g1,rfl⟩:=iQ.mp f1;obtain⟨c2,g2,rfl⟩:=iQ.mp f2;have a1:atI us (1+(i:Int)-1)=some us[i]:=by
     have:(1+(i:Int)-1)=((i:Nat):Int):=by omega
     rw[this];exact cY e1
    have a2:atI us (1+(i:Int))=some us[i+1]:=by
     have:(1+(i:Int))=((i+1:Nat):Int):=by omega
     rw[this];exact cY e2
    have k1:cs.getD i (0,0)=c1:=by rw[fX,g1];rfl
    have k2:cs.getD (i+1) (0,0)=c2:=by rw[fX,g2];rfl
    refine⟨_,rfl,_,rfl,_,_,rfl,rfl,.inl ⟨l,_,_,_,rfl,rfl,SqL.of eu,a1,?_⟩⟩;refine⟨_,rfl,_,rfl,.inl ⟨l,_,_,_,rfl,rfl,SqL.of eu,a2,?_⟩⟩;refine⟨c1,c2,D1,D2,_,rfl,?_⟩;refine dG (fun h1=>?_) (fun h1=>?_)
    ·have:layB zs w cs=false:=by
      unfold layB;have:HD cs=false:=by
       cases e:HD cs
       ·rfl
       ·unfold HD at e;rw[jy] at e;have:=e i (cJ.mpr (by omega));rw[k1,k2] at this;rw[this] at h1;cases h1
      rw[this,wN]
     rw[<- this];exact hq _ (Same.refl _)
    ·refine⟨_,rfl,fun j hj=>?_,rfl⟩;by_cases hj':j<i
     ·exact g j hj'
     ·have:j=i:=by omega
      subst this;rw[k1,k2];simpa using h1
   ·obtain⟨v2,rfl,g,rfl⟩:=hh;refine hR _ _ ⟨v2,rfl,?_,rfl⟩;unfold HD;rw[jy];intro j hj;rw[cJ] at hj;exact g j (by omega)
  rintro zzs H1 ⟨v2,rfl,ha,rfl⟩;have eq:layB zs w cs=cs.all (aK zs w):=by unfold layB;rw[ha,uU]
  rw[eq] at hq;refine⟨_,rfl,l,rfl,⟨_,SqL.of eu⟩,comp_map (K:=K) (xs:=cs) (enc:=au) (bM (SqL.of eu)) D (small (by omega)) (fun c=>Dt.bl (aK zs w c)) (fun c hc' v H2 s2 d G hG=>?_) (fun ys H2 s2 D2 p hp=>?_)⟩
  ·exact⟨_,rfl,_,rfl,x,v,zs,w,c,rfl,vt.mono s2,d,hG _ _ (Same.refl _) (.bl _)⟩
  ·have e:ys=(cs.map (aK zs w)).map V.bl:=by
    refine aP.FP (K:=K) (H:=H2) ?_;rw[mH];exact D2
   refine⟨p,cs.map (aK zs w),rfl,SqL.of (by rw[aD,e]),?_⟩;rw[Hu];exact hq _ (s2.and hp)
theorem Qz{f:Addr}{fd:FuncData} (F:Fun K "stones_near" "stones_near" mU f fd) (T:Txt K mg Z) (nY:Df P w K mg base 2 "near" ["view","cell"] (yL K Z.View Z.NoCell)):cC P w K mg base (CXE P w) 3 f fd ["view","cell","laying"] (JG K Z.View):=by
 refine F.rok Af (fun vs H Q E h=>?_) (fun cdv A outer s H vs Q E hr h=>?_)
 ·obtain⟨x,l,v,zs,w,c,cs,rfl,_⟩:=h;rfl
 ·obtain⟨x,l,v,zs,w,c,cs,rfl,vt,dv,hin,hl,hq⟩:=h;have hu:=jV hr;have hu':=xZ hr;refine⟨_,(aC (aR (aU (dH (K:=K)) rfl T.dj cu (aj (gK (by rfl) rfl (bx (K:=K) (aO nY hr rfl aQ (aj (rv 0) (aj (rv 1) ak)))) (fun _ _ _=>(fB (bA (eX.or (pq (K:=K) hu')) (rv 0) (rv 3) (by rfl)))) (fun _ _ _=>(rv 0))) ak)))),?_⟩;refine⟨_,rfl,_,rfl,x,v,zs,w,c,rfl,vt,dv,fun _ q H1 fr=>?_,fun z=>absurd hin z⟩;obtain⟨xs,ex,D⟩:=fr.ls;refine⟨q,rfl,⟨_,SqL.of ex⟩,dF (K:=K) (xs:=dh zs.length w c) (enc:=au) (bM (SqL.of ex)) D (small (by have:=gD zs.length w c;omega)) (fun y=>decide (y∈cs)) au (fun y hy u H2 s2 d G hG=>?_) (fun y hy _ u H2 s2 d G hG=>⟨_,rfl,hG _ _ (Same.refl _) d⟩) (fun ys H2 s2 D2 q2 hq2=>?_)⟩
  ·exact⟨_,rfl,_,rfl,.inr (rN d (hl.mono (fr.same.trans s2)).den ⟨_,rfl,hG _ (Same.refl _)⟩)⟩
  ·refine .inl ⟨q2,_,rfl,.inl (SqL.of aD),?_⟩;rw[D2.length,aV];exact hq _ (fr.same.trans (s2.and hq2))
theorem T4{f:Addr}{fd:FuncData} (F:Fun K "keeps" "keeps" G9 f fd) (T:Txt K mg Z) (pL:Df P w K mg base 3 "is_laying" ["view","laying"] (JC K Z.View)) (jT:Df P w K mg base 1 "cells" ["view"] (oY K Z.View)) (bB:Df P w K mg base 2 "is_closed" ["view","cell"] (gW K Z.View)) (iV:Df P w K mg base 1 "figure" ["view","cell"] (uK K Z.View)) (mK:Df P w K mg base 3 "stones_near" ["view","cell","laying"] (JG K Z.View)) :
  cC P w K mg base (CXE P w) 4 f fd ["view","laying"] (Oo K Z.View Z.BadLaying):=by
 refine F.Js Jv (fun vs H Q E h=>?_) (fun cdv A outer s H vs Q E hr h=>?_)
 ·obtain⟨x,l,zs,w,cs,rfl,_⟩:=h;rfl
 ·obtain⟨x,l,zs,w,cs,rfl,vt,hl,hc,hq,hE⟩:=h;have hd:=Dj hr;have hu:=jV hr;have l36:zs.length*w<=6*6:=lR vt.vw.le vt.vw.w6;refine⟨_,(aA (dR (RT.nox (lB (j7 (aO pL hr rfl aQ (aj (rv 0) (aj (rv 1) ak)))))) (aC (ju T.mj rfl T.wU hd (aj iz ak))) bN) (aA (RS.nox (cL eO rfl (bx (K:=K) (aO jT hr rfl aQ (aj (rv 0) ak))) (bC (i:=2) Jv.nd rfl (Or.inl rfl)) (aC (dR (yh (sJ (lB (j7 (aO bB hr rfl aQ (aj (rv 0) (aj (rv 2) ak))))) (oO (bA (DN.or (Dq (K:=K) hu)) (aO iV hr rfl aQ (aj (rv 0) (aj (rv 2) ak))) (aO mK hr rfl aQ (aj (rv 0) (aj (rv 2) (aj (rv 1) ak)))) (bW _))))) (aC (aR pH)) bN)))) (aC (RS.nox (aR pH))))),?_⟩;refine aF (fun zzs H1=>layB zs w cs=true/\Same H H1/\zzs=[zzR x,zzR l,zzN]) (fun R hR=>?_) ?_
  ·refine⟨_,rfl,_,rfl,x,l,zs,w,cs,rfl,vt,hl,hc,fun H1 s1=>?_⟩;refine⟨_,rfl,?_⟩;refine dG (fun h1=>⟨by decide,hE (by simpa only[pF] using h1) _ s1⟩) (fun h1=>hR _ _ ⟨by simpa only[BR] using h1,s1,rfl⟩)
  rintro zzs H1 ⟨hy,s1,rfl⟩;have hq':=hq hy;refine aF (fun zzs H2=>∃ v2:Option V,Same H H2/\iu zs w cs=true/\zzs=[zzR x,zzR l,v2]) (fun R hR=>?_) ?_
  ·refine⟨_,rfl,x,zs,w,rfl,vt.mono s1,fun q H2 fr=>?_⟩;obtain⟨xs,ex,D⟩:=fr.ls;have lx:xs.length=(bH zs.length w).length:=by rw[D.length,aV]
   refine⟨q,rfl,⟨_,SqL.of ex⟩,?_⟩;refine eE (K:=K) (xs:=xs) (fun i zzs H3=>∃ v2:Option V,Same H2 H3/\(∀ c∈(bH zs.length w).take i,(aK zs w c||pB zs w cs c)=true)/\zzs=[zzR x,zzR l,v2])
    ⟨none,Same.refl _,(fun c hc=>by cases hc),rfl⟩ (fun i zzs H3 _ hh=>by obtain⟨v2,g1,_⟩:=hh;exact SqL.of (g1 _ _ ex)) (fun i u zzs H3 hu hh=>?_) (fun zzs H3 hh=>?_)
   ·obtain⟨v2,g1,g2,rfl⟩:=hh;obtain⟨d,ed,du⟩:=D.get hu;rw[cV] at ed;obtain⟨c,ec,rfl⟩:=iQ.mp ed;have hin:inF zs.length w c:=bL.mp (fV ec);have sA:=s1.trans (fr.same.trans g1);have nxt:∀ H4,Same H3 H4->(aK zs w c||pB zs w cs c)=true->∃ v2:Option V,Same H2 H4/\(∀ c∈(bH zs.length w).take (i+1),(aK zs w c||pB zs w cs c)=true)/\[zzR x,zzR l,some u]=[zzR x,zzR l,v2]:=fun H4 s4 hb=>⟨_,g1.trans s4,fun c' hc'=>by
      rw[jP,ec] at hc';rcases cI.mp hc' with z|z
      ·exact g2 c' z
      ·rw[dM.mp z];exact hb,rfl⟩
    have a3y:∀ b:Bool,aK zs w c=true->(aK zs w c||b)=true:=fun b z=>by rw[z];rfl
    have a3z:∀ b:Bool,pB zs w cs c=true->(b||pB zs w cs c)=true:=fun b z=>by rw[z,Bool.or_true]
    refine⟨_,rfl,_,rfl,x,u,zs,w,c,rfl,vt.mono sA,du.mono g1,?_⟩;refine⟨_,rfl,?_⟩;refine dG (fun h1=>?_) (fun h1=>nxt _ (Same.refl _) (a3y _ (by simpa only[BR] using h1)));have hcl:aK zs w c=false:=by simpa only[pF] using h1
    refine⟨_,rfl,_,rfl,x,u,zs,w,c,rfl,vt.mono sA,du.mono g1,hin,hcl,?_⟩;refine⟨_,rfl,_,rfl,_,rfl,x,l,u,zs,w,c,cs,rfl,vt.mono sA,du.mono g1,hin,hl.mono sA,fun H4 s4=>.inl ⟨rfl,_,rfl,?_⟩⟩;rw[wZ];show if(!pB zs w cs c)=true then _ else _
    refine dG (fun h2=>?_) (fun h2=>nxt _ s4 (a3z _ (by simpa only[BR] using h2)));have hno:pB zs w cs c=false:=by simpa only[pF] using h2
    have:iu zs w cs=false:=by
     cases e:iu zs w cs
     ·rfl
     ·unfold iu at e;rw[jy] at e;have:=e c (bL.mpr hin);rw[hcl,hno] at this;cases this
    rw[<- this];exact hq' _ (sA.trans s4)
   ·obtain⟨v2,g1,g2,rfl⟩:=hh;refine hR _ _ ⟨v2,s1.trans (fr.same.trans g1),?_,rfl⟩;unfold iu;rw[jy];intro c hc;refine g2 c ?_;rw[lx,jO];exact hc
  rintro zzs H2 ⟨v2,s2,hk,rfl⟩;rw[hk] at hq';exact hq' _ s2
end
end My
namespace My
open PySem L2
inductive iU(zs:List Str)(w:Nat)(c:Cell):Cell->Prop
 |base:iU zs w c c
 |step {x t y:Cell}:iU zs w c x->t∈aM zs w x->y∈aB zs w t->iU zs w c y
theorem rK{zs:List Str}{w:Nat}{t y:Cell}(h:y∈aB zs w t):inF zs.length w y/\aK zs w y=true:=by
 unfold aB at h;obtain⟨h1,h2⟩:=cg.mp h;exact⟨ug h1,h2⟩
theorem Jh{zs:List Str}{w:Nat}{t y:Cell}(h:y∈aM zs w t):inF zs.length w y:=by
 unfold aM at h;exact ug (cg.mp h).1
theorem iU.inF{zs:List Str}{w:Nat}{c y:Cell}(h0:L2.inF zs.length w c)(r:iU zs w c y):L2.inF zs.length w y:=by
 cases r with
 |base=>exact h0
 |step _ _ h=>exact(rK h).1
def d9(cs:List Cell):List (List Key×V):=cs.map fun c=>(kY c,V.bl true)
theorem n8(c:Cell):∀ cs:List Cell,uN (d9 cs) (kY c)=if c∈cs then some (.bl true) else none
 |[]=>rfl
 |a::cs=>by
  show uN ((kY a,V.bl true)::d9 cs) (kY c)=_;by_cases e:a=c
  ·subst e;rw[uQ rfl,aL dJ]
  ·rw[uP (fun z=>e (S9 z)),n8 c cs];by_cases m:c∈cs
   ·rw[aL m,aL (fK _ m)]
   ·rw[aJ m,aJ (fun z=>(cO.mp z).elim (fun q=>e q.symm) m)]
theorem Dg(cs:List Cell)(c:Cell)(nc:c∉cs):putK (d9 cs) (kY c) (.bl true)=d9 (cs++[c]):=by
 rw[TY _ (by rw[n8,aJ nc])];unfold d9;rw[eG];rfl
structure pO(zs:List Str)(w:Nat)(c:Cell)(fd wt:List Cell):Prop where
 nd:fd.Nodup
 has:c∈fd
 rch:∀ y∈fd,iU zs w c y
 sub:∀ y∈wt,y∈fd
 cl:∀ x∈fd,x∉wt->∀ t∈aM zs w x,∀ y∈aB zs w t,y∈fd
 ln:wt.length<=fd.length
theorem pO.len{zs:List Str}{w:Nat}{c:Cell}{fd wt:List Cell}(j:pO zs w c fd wt)(h0:inF zs.length w c)(h6:zs.length<=6)(w6:w<=6):fd.length<=36:=by
 have:=lg (l2:=bH zs.length w) j.nd fun y hy=>bL.mpr ((j.rch y hy).inF h0)
 rw[fP] at this;have:zs.length*w<=6*6:=lR h6 w6;lia
theorem pO.done{zs:List Str}{w:Nat}{c:Cell}{fd:List Cell}(j:pO zs w c fd [])(y:Cell):y∈fd↔iU zs w c y:=by
 refine⟨j.rch y,fun r=>?_⟩
 induction r with
 |base=>exact j.has
 |step _ ht hy ih=>exact j.cl _ ih (by intro z;cases z) _ ht _ hy
structure JoP(zs:List Str)(w:Nat)(c m:Cell)(fd wt:List Cell)(Dn:Cell->Prop):Prop where
 nd:fd.Nodup
 has:c∈fd
 rch:∀ y∈fd,iU zs w c y
 sub:∀ y∈wt,y∈fd
 hm:m∈fd
 cl:∀ x∈fd,x∉wt->x≠m->∀ t∈aM zs w x,∀ y∈aB zs w t,y∈fd
 ln:wt.length+1<=fd.length
 dn:∀ y,Dn y->y∈fd
theorem JoP.imp{zs:List Str}{w:Nat}{c m:Cell}{fd wt:List Cell}{Dn Dn':Cell->Prop}(j:JoP zs w c m fd wt Dn)(h:∀ y,Dn' y->y∈fd):JoP zs w c m fd wt Dn':=⟨j.nd,j.has,j.rch,j.sub,j.hm,j.cl,j.ln,h⟩
theorem JoP.add{zs:List Str}{w:Nat}{c m y:Cell}{fd wt:List Cell}{Dn:Cell->Prop}(j:JoP zs w c m fd wt Dn)(ny:y∉fd)(ry:iU zs w c y):JoP zs w c m (fd++[y]) (wt++[y]) Dn:=by
 refine⟨xT.mpr ⟨j.nd,by simp,fun a ha b hb e=>ny (by rw[<- dM.mp hb,<- e];exact ha)⟩,iB _ j.has,fun x hx=>?_,fun x hx=>?_,iB _ j.hm,fun x hx nx xm t ht z hz=>?_,?_,fun x hx=>iB _ (j.dn x hx)⟩
 ·rcases cI.mp hx with q|q
  ·exact j.rch x q
  ·rw[dM.mp q];exact ry
 ·rcases cI.mp hx with q|q
  ·exact iB _ (j.sub x q)
  ·exact je _ q
 ·rcases cI.mp hx with q|q
  ·exact iB _ (j.cl x q (fun q2=>nx (iB _ q2)) xm t ht z hz)
  ·exact absurd (je _ q) nx
 ·have:=j.ln;rw[cM,cM,pC];lia
theorem pO.pop{zs:List Str}{w:Nat}{c m:Cell}{fd wt:List Cell}(j:pO zs w c fd (wt++[m])):JoP zs w c m fd wt (fun _=>False):=by
 refine⟨j.nd,j.has,j.rch,fun y hy=>j.sub y (iB _ hy),j.sub m (je _ (dM.mpr rfl)),fun x hx nx xm=>j.cl x hx fun z=>?_,?_,fun y hy=>hy.elim⟩
 ·rcases cI.mp z with q|q
  ·exact nx q
  ·exact xm (dM.mp q)
 ·have:=j.ln;rw[cM,pC] at this;exact this
theorem JoP.inv{zs:List Str}{w:Nat}{c m:Cell}{fd wt:List Cell}{Dn:Cell->Prop}(j:JoP zs w c m fd wt Dn)(h:∀ t∈aM zs w m,∀ y∈aB zs w t,Dn y):pO zs w c fd wt:=by
 refine⟨j.nd,j.has,j.rch,j.sub,fun x hx nx t ht y hy=>?_,cP (tL _) j.ln⟩;by_cases e:x=m
 ·subst e;exact j.dn y (h t ht y hy)
 ·exact j.cl x hx nx e t ht y hy
theorem JoP.len{zs:List Str}{w:Nat}{c m:Cell}{fd wt:List Cell}{Dn:Cell->Prop}(j:JoP zs w c m fd wt Dn)(h0:inF zs.length w c)(h6:zs.length<=6)(w6:w<=6):fd.length<=36:=by
 have:=lg (l2:=bH zs.length w) j.nd fun y hy=>bL.mpr ((j.rch y hy).inF h0)
 rw[fP] at this;have:zs.length*w<=6*6:=lR h6 w6;lia
def Al(K:ao)(C:Addr):Sp:=fun vs H Q _=>∃(x:Addr)(v:V)(zs:List Str)(w:Nat)(c:Cell),vs=[.ref x,v]/\dB C H x zs w/\Den K H v (au c)/\inF zs.length w c /\
 ∀(q:Addr)(H':Hp)(ds:List Cell),H q=none->Same H H'->Ls K H' q (ds.map au)->ds.Pairwise aX->(∀ y,y∈ds↔iU zs w c y)->Q (.ref q) H'
section
variable{P:Program}{w:World}{K:ao}{mg:Str->Option Value}{base:Heap}{Z:Adr}
theorem Qw{f:Addr}{fd:FuncData} (F:Fun K "joined" "joined" Ac f fd) (T:Txt K mg Z) (cU:Df P w K mg base 3 "open_near" ["view","cell"] (oZ K Z.View aM)) (cX:Df P w K mg base 3 "closed_near" ["view","cell"] (oZ K Z.View aB)) :
  cC P w K mg base (CXE P w) 4 f fd ["view","cell"] (Al K Z.View):=by
 refine F.rok jZ (fun vs H Q E h=>?_) (fun cdv A outer s H vs Q E hr h=>?_)
 ·obtain⟨x,v,zs,w,c,rfl,_⟩:=h;rfl
 ·obtain⟨x,v,zs,w,c,rfl,vt,dv,hin,hq⟩:=h;have hu:=jV hr;have z6:=vt.vw.le;have w6:=vt.vw.w6;obtain⟨tv,rfl,_,htv⟩:=fM dv;refine⟨_,(aA (aZ (i:=2) jZ.nd rfl (Or.inl rfl) (Yg hu (rv 1) pH)) (aA (aZ (i:=3) jZ.nd rfl (Or.inl rfl) (dO (aj (rv 1) ak))) (aA (Jt eO (bA Jg (aU (dH (K:=K)) rfl T.dj cu (aj (rv 3) ak)) aH (bW _)) (aA (aZ (i:=4) jZ.nd rfl (Or.inl rfl) (a02 (K:=K) lN PySem.F.slot_list_pop PySem.F.type_list_pop a0b (rv 3))) (aC (cL eO rfl (bx (K:=K) (aO cU hr rfl aQ (aj (rv 0) (aj (rv 4) ak)))) (bC (i:=5) jZ.nd rfl (Or.inl rfl)) (aC (cL eO rfl (bx (K:=K) (aO cX hr rfl aQ (aj (rv 0) (aj (rv 5) ak)))) (bC (i:=6) jZ.nd rfl (Or.inl rfl)) (aC (dR (bA (ur hu) (rv 6) (rv 2) (by rfl)) (aA (FW pH (Uc (rv 2) (rv 6) (set_dict hu))) (aC (gO (lX (K:=K) lN nO nP dX (rv 3) (aj (rv 6) ak))))) bN)))))))) (aC (aR (aU (Wy (K:=K) rfl hu) rfl T.tO vB (aj (rv 2) ak))))))),?_⟩;refine aF (fun zzs H1=>∃ dd:Addr,H dd=none/\Same H H1/\H1 dd=some (.dT (d9 [c]))/\zzs=[zzR x,zzR tv,zzR dd,zzN,zzN,zzN,zzN]) (fun R hR=>?_) ?_
  ·refine fun dd nd=>⟨_,rfl,kY c,tv,aD,rfl,?_,hR _ _ ⟨dd,nd,(SameBut.refl dd _).put.of (Same.put nd) nd,aD,rfl⟩⟩
   rw[bF (bV htv nd)];exact htv
  rintro zzs H1 ⟨dd,nd,s1,ed,rfl⟩;refine aF (fun zzs H2=>∃ wl:Addr,H wl=none/\wl≠dd/\Same H1 H2/\H2 wl=some (.lst [.ref tv])/\zzs=[zzR x,zzR tv,zzR dd,zzR wl,zzN,zzN,zzN]) (fun R hR=>?_) ?_
  ·exact⟨_,rfl,sz rfl,fun wl nwl=>hR _ _ ⟨wl,s1.free nwl,(bV ed nwl).symm,Same.put nwl,aD,rfl⟩⟩
  rintro zzs H2 ⟨wl,nwl,nwd,s2,ewl,rfl⟩;have start:pO zs w c [c] [c]:=⟨by simp,dM.mpr rfl,fun y hy=>by rw[dM.mp hy];exact .base,fun y hy=>hy,fun x hx nx=>absurd hx nx,bK _⟩
  refine aF (fun zzs H3=>∃(fd:List Cell)(v4 v5 v6:Option V),Same H H3/\H3 dd=some (.dT (d9 fd))/\pO zs w c fd []/\zzs=[zzR x,zzR tv,zzR dd,zzR wl,v4,v5,v6]) (fun R hR=>?_) ?_
  ·refine⟨fun m zzs H'=>∃(fd wt:List Cell)(v4 v5 v6:Option V),Same H H'/\H' dd=some (.dT (d9 fd))/\Ls K H' wl (wt.map au)/\pO zs w c fd wt/\m=(36-fd.length)*2+wt.length/\zzs=[zzR x,zzR tv,zzR dd,zzR wl,v4,v5,v6],
    ⟨_,[c],[c],none,none,none,s1.trans s2,s2 _ _ ed,⟨_,ewl,.cons (dv.mono (s1.trans s2)) .nil⟩,start,rfl,rfl⟩,?_⟩
   rintro m zzs H' ⟨fd,wt,v4,v5,v6,sh,ed',lw,ji,rfl,rfl⟩;obtain⟨xs,ex,D⟩:=id lw;have lx:xs.length=wt.length:=by rw[D.length,aV]
   have f36:=ji.len hin z6 w6;refine⟨_,rfl,.inl ⟨wl,_,rfl,.inl (SqL.of ex),_,_,rfl,rfl,_,rfl,?_⟩⟩;refine dG (fun hlt=>?_) (fun hlt=>?_)
   ·have hlt:(0:Int)<(xs.length:Int):=cN hlt;obtain⟨wt,m,rfl⟩:∃ wt' m,wt=wt'++[m]:=by
     rcases List.eq_nil_or_concat wt with z|⟨l,b,z⟩
     ·rw[z,Bl] at lx;lia
     ·exact⟨l,b,by rw[z];simp⟩
    obtain⟨xs,u,rfl,Dx,du⟩:=Dd D;obtain⟨tm,rfl,_,htm⟩:=fM du;have mfd:=ji.sub m (je _ (dM.mpr rfl));have a3g:=(ji.rch m mfd).inF hin;refine⟨fun bG H4=>∃(fd' wt':List Cell)(v4 v5 v6:Option V),Same H H4/\H4 dd=some (.dT (d9 fd'))/\Ls K H4 wl (wt'.map au)/\pO zs w c fd' wt'/\(36-fd'.length)*2+wt'.length<(36-fd.length)*2+(wt++[m]).length/\bG=[zzR x,zzR tv,zzR dd,zzR wl,v4,v5,v6],fun bG H4 hx=>?_,?_⟩
    ·obtain⟨fd',wt',v4,v5,v6,a1,a2,a3,a4,a5,rfl⟩:=hx;exact⟨_,a5,fd',wt',v4,v5,v6,a1,a2,a3,a4,rfl,rfl⟩
    refine aF (fun zzs H4=>Same H H4/\H4 dd=some (.dT (d9 fd))/\Ls K H4 wl (wt.map au)/\Den K H4 (.ref tm) (au m)/\zzs=[zzR x,zzR tv,zzR dd,zzR wl,zzR tm,v5,v6]) (fun R' hR'=>?_) ?_
    ·refine⟨_,rfl,.inl ⟨rfl,_,SqL.of ex⟩,wl,_,V.ref tm,rfl,rfl,ex,(by simp),?_⟩;rw[List.dropLast_concat];have sw:SameBut wl H' (upd H' wl (.lst xs)):=(SameBut.refl wl _).put;exact hR' _ _ ⟨sw.of sh nwl,sw _ _ ed' nwd.symm,⟨xs,aD,sw.cells ex Dx⟩,sw.cell ex du,rfl⟩
    rintro zzs H4 ⟨sh4,ed4,lw4,dm4,rfl⟩;have a3x:(wt++[m]).length=wt.length+1:=by rw[cM,pC]
    refine⟨_,rfl,_,rfl,x,_,zs,w,m,rfl,vt.mono sh4,dm4,a3g,fun q1 H5 f5=>?_⟩;obtain⟨ts,et,Dt'⟩:=f5.ls;have lt8:=uw zs w m;refine⟨q1,rfl,⟨_,SqL.of et⟩,?_⟩;have nq1:H q1=none:=sh4.free f5.new;refine eE (K:=K) (xs:=ts) (fun i zzs H6=>∃(fd' wt':List Cell)(v5 v6:Option V),Same H H6/\H6 q1=some (.lst ts)/\aP K H6 ts ((aM zs w m).map au)/\H6 dd=some (.dT (d9 fd'))/\Ls K H6 wl (wt'.map au)/\JoP zs w c m fd' wt' (fun y=>∃ t∈(aM zs w m).take i,y∈aB zs w t)/\(36-fd'.length)*2+wt'.length<=(36-fd.length)*2+wt.length/\zzs=[zzR x,zzR tv,zzR dd,zzR wl,zzR tm,v5,v6])
     ⟨fd,wt,v5,v6,sh4.trans f5.same,et,Dt',f5.same _ _ ed4,lw4.mono f5.same,ji.pop.imp (fun y hy=>by obtain⟨t,ht,_⟩:=hy;cases ht),bK _,rfl⟩ (fun i zzs H6 _ hh=>by obtain⟨_,_,_,_,_,e,_⟩:=hh;exact SqL.of e) (fun i u zzs H6 hu' hh=>?_) (fun zzs H6 hh=>?_)
    ·obtain⟨fd1,wt1,v5,v6,sh6,et6,Dt6,ed6,lw6,jp,me,rfl⟩:=hh;obtain⟨dt,edt,du6⟩:=Dt6.get hu';rw[cV] at edt;obtain⟨t,etq,rfl⟩:=iQ.mp edt;have a2J:t∈aM zs w m:=fV etq;refine⟨_,rfl,_,rfl,x,_,zs,w,t,rfl,vt.mono sh6,du6,Jh a2J,fun q2 H7 f7=>?_⟩;obtain⟨os,eo,Do⟩:=f7.ls;refine⟨q2,rfl,⟨_,SqL.of eo⟩,?_⟩;have los:os.length=(aB zs w t).length:=by rw[Do.length,aV]
     refine eE (K:=K) (xs:=os) (fun j zzs H8=>∃(fd' wt':List Cell)(v6:Option V),Same H H8/\H8 q1=some (.lst ts)/\aP K H8 ts ((aM zs w m).map au)/\H8 q2=some (.lst os)/\aP K H8 os ((aB zs w t).map au)/\H8 dd=some (.dT (d9 fd'))/\Ls K H8 wl (wt'.map au)/\JoP zs w c m fd' wt' (fun y=>(∃ t∈(aM zs w m).take i,y∈aB zs w t)\/y∈(aB zs w t).take j)/\(36-fd'.length)*2+wt'.length<=(36-fd.length)*2+wt.length/\zzs=[zzR x,zzR tv,zzR dd,zzR wl,zzR tm,some u,v6])
      ⟨fd1,wt1,v6,sh6.trans f7.same,f7.same _ _ et6,Dt6.mono f7.same,eo,Do,f7.same _ _ ed6,lw6.mono f7.same,jp.imp (fun y hy=>hy.elim (jp.dn y) (fun z=>by cases z)),me,rfl⟩ (fun j zzs H8 _ hh=>by obtain⟨_,_,_,_,_,_,e,_⟩:=hh;exact SqL.of e) (fun j o zzs H8 ho hh=>?_) (fun zzs H8 hh=>?_)
     ·obtain⟨fd2,wt2,v6,sh8,et8,Dt8,eo8,Do8,ed8,lw8,jp2,me2,rfl⟩:=hh;obtain⟨dy,edy,do8⟩:=Do8.get ho;rw[cV] at edy;obtain⟨y,ey,rfl⟩:=iQ.mp edy;have a3A:y∈aB zs w t:=fV ey;obtain⟨ty,rfl,_,hty⟩:=fM do8;have key:H8 ty=some (.tup ((kY y).map kV)):=hty;have a3E:=jp2.len hin z6 w6;have step:∀ z,(∃ t∈(aM zs w m).take i,z∈aB zs w t)\/z∈(aB zs w t).take (j+1)->((∃ t∈(aM zs w m).take i,z∈aB zs w t)\/z∈(aB zs w t).take j)\/z=y:=fun z hz=>by
       rcases hz with q|q
       ·exact .inl (.inl q)
       ·rw[jP,ey] at q;rcases cI.mp q with q|q
        ·exact .inl (.inr q)
        ·exact .inr (dM.mp q)
      refine⟨_,rfl,_,rfl,dd,_,rfl,Pb.t ed8 key,_,rfl,?_⟩;rw[n8];by_cases hf:y∈fd2
      ·rw[aL hf];exact oJ ⟨fd2,wt2,_,sh8,et8,Dt8,eo8,Do8,ed8,lw8,jp2.imp (fun z hz=>(step z hz).elim (jp2.dn z) (fun e=>by rw[e];exact hf)),me2,rfl⟩
      ·rw[aJ hf];refine Iz ?_;have jp3:=jp2.add hf (.step (jp2.rch m jp2.hm) a2J a3A);have a1H:=jp3.len hin z6 w6;rw[cM,pC] at a1H;refine aF (fun zzs H9=>Same H H9/\H9 q1=some (.lst ts)/\aP K H9 ts ((aM zs w m).map au)/\H9 q2=some (.lst os)/\aP K H9 os ((aB zs w t).map au)/\H9 dd=some (.dT (d9 (fd2++[y])))/\Ls K H9 wl (wt2.map au)/\Den K H9 (.ref ty) (au y)/\zzs=[zzR x,zzR tv,zzR dd,zzR wl,zzR tm,some u,zzR ty]) (fun R' hR'=>?_) ?_
       ·refine⟨_,rfl,_,rfl,dd,_,rfl,Pg.t ed8 key (ltl (by unfold d9;rw[aV];lia)),?_⟩;rw[Dg fd2 y hf];have sd:SameBut dd H8 (upd H8 dd (.dT (d9 (fd2++[y])))):=(SameBut.refl dd _).put;have tp:Hx H8 (upd H8 dd (.dT (d9 (fd2++[y])))):=.put ed8 (by intro xs z;cases z);obtain⟨ws,ew,Dw⟩:=lw8;exact hR' _ _ ⟨sd.of sh8 nd,sd _ _ et8 (qg et8 ed8 (by intro z;cases z)),tp.cells Dt8,sd _ _ eo8 (qg eo8 ed8 (by intro z;cases z)),tp.cells Do8,aD,⟨ws,sd _ _ ew nwd,tp.cells Dw⟩,tp.cell do8,rfl⟩
       rintro zzs H9 ⟨sh9,et9,Dt9,eo9,Do9,ed9,⟨ws,ew,Dw⟩,dy9,rfl⟩;have lws:ws.length=wt2.length:=by rw[Dw.length,aV]
       have ln2:=jp2.ln;have a3k:q1≠wl:=fun z=>by
        have e1:=f5.new;rw[z] at e1;obtain⟨_,e2,_⟩:=lw4;rw[e2] at e1;cases e1
       have a3l:q2≠wl:=fun z=>by
        have e1:=f7.new;rw[z] at e1;obtain⟨_,e2,_⟩:=lw6;rw[e2] at e1;cases e1
       refine⟨_,rfl,.inl ⟨rfl,_,SqL.of ew⟩,_,rfl,wl,ws,_,rfl,rfl,ew,ltl (by lia),?_⟩;have sw:SameBut wl H9 (upd H9 wl (.lst (ws++[V.ref ty]))):=(SameBut.refl wl _).put;refine⟨fd2++[y],wt2++[y],_,sw.of sh9 nwl,sw _ _ et9 a3k,sw.cells ew Dt9,sw _ _ eo9 a3l,sw.cells ew Do9,sw _ _ ed9 nwd.symm,⟨_,aD,?_⟩,jp3.imp (fun z hz=>(step z hz).elim (fun q=>iB _ (jp2.dn z q)) (fun e=>je _ (dM.mpr e))),?_,rfl⟩
       ·rw[eG];exact(sw.cells ew Dw).append (.cons (sw.cell ew dy9) .nil)
       ·rw[cM,cM,pC];lia
     ·obtain⟨fd2,wt2,v6,sh8,et8,Dt8,eo8,Do8,ed8,lw8,jp2,me2,rfl⟩:=hh;refine⟨fd2,wt2,_,v6,sh8,et8,Dt8,ed8,lw8,jp2.imp (fun y hy=>?_),me2,rfl⟩;obtain⟨t',ht',hy'⟩:=hy;rw[jP,etq] at ht';rcases cI.mp ht' with q|q
      ·exact jp2.dn y (.inl ⟨t',q,hy'⟩)
      ·rw[dM.mp q] at hy';exact jp2.dn y (.inr (by rw[los,jO];exact hy'))
    ·obtain⟨fd1,wt1,v5,v6,sh6,et6,Dt6,ed6,lw6,jp,me,rfl⟩:=hh;have lts:ts.length=(aM zs w m).length:=by rw[Dt'.length,aV]
     refine⟨fd1,wt1,_,v5,v6,sh6,ed6,lw6,jp.inv fun t ht y hy=>⟨t,by rw[lts,jO];exact ht,hy⟩,by rw[a3x];lia,rfl⟩
   ·have hlt:¬(0:Int)<(xs.length:Int):=mD hlt;have:wt=[]:=JR.mp (by lia);subst this;exact hR _ _ ⟨fd,v4,v5,v6,sh,ed',ji,rfl⟩
  rintro zzs H3 ⟨fd,v4,v5,v6,s3,ed3,ji,rfl⟩;have f36:=ji.len hin z6 w6;refine⟨_,rfl,dd,fd,fun _=>.bl true,rfl,ed3,by lia,fun l ws ds hn D' pc as=>?_⟩;exact hq l _ ds (s3.free hn) (s3.and hn) (.new hn D') (yV as (pc.nodup_iff.mpr ji.nd)) fun y=>by rw[pc.mem_iff];exact ji.done y
end
open Classical in
noncomputable def cD(zs:List Str)(w:Nat)(c:Cell):List Cell:=(bH zs.length w).filter fun y=>decide (iU zs w c y)
open Classical in
theorem dw{zs:List Str}{w:Nat}{c y:Cell}(h0:inF zs.length w c):y∈cD zs w c↔iU zs w c y:=by
 unfold cD;rw[cg,bL,iC];exact⟨fun h=>h.2,fun h=>⟨h.inF h0,h⟩⟩
open Classical in
theorem nC{zs:List Str}{w:Nat}{c:Cell}(h6:zs.length<=6)(w6:w<=6):(cD zs w c).Pairwise aX:=by
 unfold cD;exact(qT zs.length (cJ.mpr (by lia)) w (cJ.mpr (by lia))).filter _
open Classical in
noncomputable def gM(zs:List Str)(w:Nat):List Cell->List (List Cell)->List (List Cell)
 |[],ps=>ps
 |c::cs,ps=>if ∃ p∈ps,c∈p then gM zs w cs ps else gM zs w cs (ps++[cD zs w c])
noncomputable def aY(zs:List Str)(w:Nat):List (List Cell):=gM zs w (bO zs w) []
theorem Il(cs:List Cell)(c:Cell)(hc:c∈cs):putK (d9 cs) (kY c) (.bl true)=d9 cs:=by
 unfold putK;have h1:((d9 cs).any fun kv=>decide (kv.1=kY c))=true:=by
  rw[uO,n8,aL hc];rfl
 rw[aL h1];unfold d9;rw[mH];refine Ax fun a _=>?_
 show(if kY a=kY c then(kY a,V.bl true) else(kY a,V.bl true))=(kY a,V.bl true);by_cases e:kY a=kY c
 ·rw[aL e]
 ·rw[aJ e]
structure pQ(K:ao)(H0 H:Hp)(q:Addr)(qs:List Addr)(ps:List (List Cell)):Prop where
 at_:H q=some (.lst (qs.map V.ref))
 len:qs.length=ps.length
 ls:∀(i:Nat)(a:Addr)(p:List Cell),qs[i]?=some a->ps[i]?=some p->Ls K H a (p.map au)
 new:∀ a∈qs,H0 a=none
 nd:qs.Nodup
 nq:q∉qs
theorem pQ.mono{K:ao}{H0 H H':Hp}{q:Addr}{qs:List Addr}{ps:List (List Cell)}(p:pQ K H0 H q qs ps)(s:Same H H'):pQ K H0 H' q qs ps:=⟨s _ _ p.at_,p.len,fun i a c h1 h2=>(p.ls i a c h1 h2).mono s,p.new,p.nd,p.nq⟩
theorem pQ.snoc{K:ao}{H0 H:Hp}{q a:Addr}{qs:List Addr}{ps:List (List Cell)}{ds:List Cell}(p:pQ K H0 H q qs ps)(la:Ls K H a (ds.map au))(na:H0 a=none)(n1:a∉qs)(n2:a≠q):pQ K H0 (upd H q (.lst (qs.map V.ref++[.ref a]))) q (qs++[a]) (ps++[ds]):=by
 have sb:SameBut q H (upd H q (.lst (qs.map V.ref++[.ref a]))):=(SameBut.refl q _).put;refine⟨by rw[aD,eG];rfl,by rw[cM,cM,p.len];rfl,fun i b c h1 h2=>?_,fun b hb=>?_,?_,fun z=>?_⟩
 ·by_cases hi:i<qs.length
  ·rw[Ei hi] at h1;rw[Ei (by rw[<- p.len];exact hi)] at h2;exact sb.ls p.at_ (fun z=>p.nq (by rw[<- z];exact fV h1)) (p.ls i b c h1 h2)
  ·rw[Bw (by lia)] at h1;rw[Bw (by rw[<- p.len];lia)] at h2;have e1:i-qs.length=0:=by
    by_cases z:i-qs.length=0
    ·exact z
    ·rw[Vs (by rw[pC];lia)] at h1;cases h1
   rw[e1] at h1;rw[<- p.len,e1] at h2;cases h1;cases h2;exact sb.ls p.at_ n2 la
 ·rcases cI.mp hb with z|z
  ·exact p.new b z
  ·rw[dM.mp z];exact na
 ·exact xT.mpr ⟨p.nd,by simp,fun x hx y hy e=>n1 (by rw[<- dM.mp hy,<- e];exact hx)⟩
 ·rcases cI.mp z with y|y
  ·exact p.nq y
  ·exact n2 (dM.mp y).symm
def Ou(K:ao)(C:Addr):Sp:=fun vs H Q _=>∃(x:Addr)(zs:List Str)(w:Nat),vs=[.ref x]/\dB C H x zs w /\
 ∀(q:Addr)(qs:List Addr)(H':Hp),H q=none->Same H H'->pQ K H H' q qs (aY zs w)->Q (.ref q) H'
section
variable{P:Program}{w:World}{K:ao}{mg:Str->Option Value}{base:Heap}{Z:Adr}
theorem T6{f:Addr}{fd:FuncData} (F:Fun K "parts" "parts" Ga f fd) (T:Txt K mg Z) (uX:Df P w K mg base 4 "edge" ["view"] (qD K Z.View bO)) (mX:Df P w K mg base 4 "joined" ["view","cell"] (Al K Z.View)) :
  cC P w K mg base (CXE P w) 5 f fd ["view"] (Ou K Z.View):=by
 refine F.rok nJ (fun vs H Q E h=>?_) (fun cdv A outer s H vs Q E hr h=>?_)
 ·obtain⟨x,zs,w,rfl,_⟩:=h;rfl
 ·obtain⟨x,zs,w,rfl,vt,hq⟩:=h;have hu:=jV hr;have z6:=vt.vw.le;have w6:=vt.vw.w6;refine⟨_,(aA (aZ (i:=1) nJ.nd rfl (Or.inl rfl) (dO ak)) (aA (aZ (i:=2) nJ.nd rfl (Or.inl rfl) Yh) (aA (cL eO rfl (bx (K:=K) (aO uX hr rfl aQ (aj (rv 0) ak))) (bC (i:=3) nJ.nd rfl (Or.inl rfl)) (aC (dR (bA (ur hu) (rv 3) (rv 2) (by rfl)) (aA (aZ (i:=4) nJ.nd rfl (Or.inl rfl) (aO mX hr rfl aQ (aj (rv 0) (aj (rv 3) ak)))) (aA (gO (lX (K:=K) lN nO nP dX (rv 1) (aj (rv 4) ak))) (aC (cL eO rfl (bx (K:=K) (rv 4)) (bC (i:=5) nJ.nd rfl (Or.inl rfl)) (aC (FW pH (Uc (rv 2) (rv 5) (set_dict hu)))))))) bN))) (aC (aR (rv 1)))))),?_⟩;refine aF (fun zzs H1=>∃ q:Addr,H q=none/\Same H H1/\H1 q=some (.lst [])/\zzs=[zzR x,zzR q,zzN,zzN,zzN,zzN]) (fun R hR=>?_) ?_
  ·exact⟨by decide,fun q nq=>hR _ _ ⟨q,nq,Same.put nq,aD,rfl⟩⟩
  rintro zzs H1 ⟨q,nq,s1,eq1,rfl⟩;refine aF (fun zzs H2=>∃ dd:Addr,H dd=none/\dd≠q/\Same H1 H2/\H2 dd=some (.dT (d9 []))/\zzs=[zzR x,zzR q,zzR dd,zzN,zzN,zzN]) (fun R hR=>?_) ?_
  ·exact fun dd nd=>hR _ _ ⟨dd,s1.free nd,(bV eq1 nd).symm,Same.put nd,aD,rfl⟩
  rintro zzs H2 ⟨dd,nd,ndq,s2,ed,rfl⟩;refine aF (fun zzs H3=>∃(qs:List Addr)(v3 v4 v5:Option V),Same H H3/\pQ K H H3 q qs (aY zs w)/\zzs=[zzR x,zzR q,zzR dd,v3,v4,v5]) (fun R hR=>?_) ?_
  ·refine⟨_,rfl,x,zs,w,rfl,vt.mono (s1.trans s2),fun eg H3 fr=>?_⟩;obtain⟨cs,ec,Dc⟩:=fr.ls;have lcs:cs.length=(bO zs w).length:=by rw[Dc.length,aV]
   refine⟨eg,rfl,⟨_,SqL.of ec⟩,?_⟩;have neg:H eg=none:=(s1.trans s2).free fr.new;refine eE (K:=K) (xs:=cs) (fun i zzs H4=>∃(qs:List Addr)(ps:List (List Cell))(pl:List Cell)(v3 v4 v5:Option V),Same H H4/\H4 eg=some (.lst cs)/\aP K H4 cs ((bO zs w).map au)/\pQ K H H4 q qs ps/\H4 dd=some (.dT (d9 pl))/\pl.Nodup/\(∀ y,y∈pl↔∃ p∈ps,y∈p)/\(∀ y∈pl,inF zs.length w y)/\gM zs w ((bO zs w).drop i) ps=aY zs w/\eg≠q/\ps.length<=i/\zzs=[zzR x,zzR q,zzR dd,v3,v4,v5])
    ⟨[],[],[],none,none,none,s1.trans (s2.trans fr.same),ec,Dc,⟨fr.same _ _ (s2 _ _ eq1),rfl,fun i a p h=>(by cases h),fun a ha=>(by cases ha),Hl,fun z=>(by cases z)⟩,fr.same _ _ ed,Hl,fun y=>⟨fun z=>(by cases z),fun⟨p,hp,_⟩=>(by cases hp)⟩,fun y hy=>(by cases hy),rfl,fun z=>(by have:=fr.new;rw[z,s2 _ _ eq1] at this;cases this),bK _,rfl⟩
    (fun i zzs H4 _ hh=>by obtain⟨_,_,_,_,_,_,_,e,_⟩:=hh;exact SqL.of e) (fun i u zzs H4 hu' hh=>?_) (fun zzs H4 hh=>?_)
   ·obtain⟨qs,ps,pl,v3,v4,v5,sh,ec4,Dc4,pa,ed4,ndp,Sx,inp,go,X4,lps,rfl⟩:=hh;obtain⟨dc,edc,du⟩:=Dc4.get hu';rw[cV] at edc;obtain⟨c,ecq,rfl⟩:=iQ.mp edc;have a2V:c∈bO zs w:=fV ecq;have cin:inF zs.length w c:=bL.mp (cg.mp (cg.mp a2V).1).1;obtain⟨tc,rfl,_,htc⟩:=fM du;have key:H4 tc=some (.tup ((kY c).map kV)):=htc;have i36:i<36:=by
     have h1:=(jw.mp ecq).1;have h2:(bO zs w).length<=(cA zs w).length:=iw _ _;have h3:=dN vt.vw;lia
    have dr:(bO zs w).drop i=c::(bO zs w).drop (i+1):=by
     have h1:=(jw.mp ecq)
     rw[xO h1.1,h1.2]
    rw[dr] at go;refine⟨_,rfl,_,rfl,dd,_,rfl,Pb.t ed4 key,_,rfl,?_⟩;rw[n8];by_cases hp:c∈pl
    ·rw[aL hp];unfold gM at go;rw[aL ((Sx c).mp hp)] at go;exact oJ ⟨qs,ps,pl,_,v4,v5,sh,ec4,Dc4,pa,ed4,ndp,Sx,inp,go,X4,by lia,rfl⟩
    rw[aJ hp];unfold gM at go;rw[aJ (fun z=>hp ((Sx c).mpr z))] at go;refine Iz ?_;refine aF (fun zzs H5=>∃ a:Addr,H4 a=none/\Same H4 H5/\Ls K H5 a ((cD zs w c).map au)/\zzs=[zzR x,zzR q,zzR dd,zzR tc,zzR a,v5]) (fun R' hR'=>?_) ?_
    ·refine⟨_,rfl,_,rfl,x,_,zs,w,c,rfl,vt.mono sh,du,cin,fun a H5 ds na s5 la as mm=>?_⟩;have e:ds=cD zs w c:=yU as (nC z6 w6) fun y=>by rw[mm y,dw cin]
     rw[e] at la;exact hR' _ _ ⟨a,na,s5,la,rfl⟩
    rintro zzs H5 ⟨a,na,s5,la,rfl⟩;have pa5:=pa.mono s5;have na0:H a=none:=sh.free na;have naq:a≠q:=fun z=>by rw[z] at na;rw[pa.at_] at na;cases na
    have a3h:a∉qs:=fun z=>by
     obtain⟨j,hj⟩:=Ar z;have hj':j<ps.length:=by rw[<- pa.len];exact(jw.mp hj).1
     obtain⟨_,e,_⟩:=pa.ls j a ps[j] hj (by simp[hj']);rw[e] at na;cases na
    have a3L:dd≠q:=ndq;have lqs:qs.length<=36:=by rw[pa.len];lia
    refine aF (fun zzs H6=>Same H H6/\H6 eg=some (.lst cs)/\aP K H6 cs ((bO zs w).map au)/\pQ K H H6 q (qs++[a]) (ps++[cD zs w c])/\Ls K H6 a ((cD zs w c).map au)/\H6 dd=some (.dT (d9 pl))/\zzs=[zzR x,zzR q,zzR dd,zzR tc,zzR a,v5]) (fun R' hR'=>?_) ?_
    ·refine⟨_,rfl,.inl ⟨rfl,_,SqL.of pa5.at_⟩,_,rfl,q,_,_,rfl,rfl,pa5.at_,ltl (by rw[aV];lia),?_⟩;have sb:SameBut q H5 (upd H5 q (.lst (qs.map V.ref++[V.ref a]))):=(SameBut.refl q _).put;exact hR' _ _ ⟨sb.of (sh.trans s5) nq,sb _ _ (s5 _ _ ec4) X4,sb.cells pa5.at_ (Dc4.mono s5),pa5.snoc la na0 a3h naq,sb.ls pa5.at_ naq la,sb _ _ (s5 _ _ ed4) ndq,rfl⟩
    rintro zzs H6 ⟨sh6,ec6,Dc6,pa6,la6,ed6,rfl⟩;obtain⟨ms,em,Dm⟩:=id la6;have lms:ms.length=(cD zs w c).length:=by rw[Dm.length,aV]
    refine⟨_,rfl,a,rfl,⟨_,SqL.of em⟩,?_⟩;refine eE (K:=K) (xs:=ms) (fun j zzs H7=>∃(pl':List Cell)(v5:Option V),Same H H7/\H7 eg=some (.lst cs)/\aP K H7 cs ((bO zs w).map au)/\pQ K H H7 q (qs++[a]) (ps++[cD zs w c])/\H7 a=some (.lst ms)/\aP K H7 ms ((cD zs w c).map au)/\H7 dd=some (.dT (d9 pl'))/\pl'.Nodup/\(∀ y,y∈pl'↔(y∈pl\/y∈(cD zs w c).take j))/\(∀ y∈pl',inF zs.length w y)/\zzs=[zzR x,zzR q,zzR dd,zzR tc,zzR a,v5])
     ⟨pl,v5,sh6,ec6,Dc6,pa6,em,Dm,ed6,ndp,fun y=>⟨.inl,fun z=>z.elim id (fun z=>by cases z)⟩,inp,rfl⟩ (fun j zzs H7 _ hh=>by obtain⟨_,_,_,_,_,_,e,_⟩:=hh;exact SqL.of e) (fun j o zzs H7 ho hh=>?_) (fun zzs H7 hh=>?_)
    ·obtain⟨pl',v5,sh7,ec7,Dc7,pa7,em7,Dm7,ed7,nd7,a06,in7,rfl⟩:=hh;obtain⟨dy,edy,do7⟩:=Dm7.get ho;rw[cV] at edy;obtain⟨y,ey,rfl⟩:=iQ.mp edy;obtain⟨ty,rfl,_,hty⟩:=fM do7;have a3d:H7 ty=some (.tup ((kY y).map kV)):=hty;have yj:y∈cD zs w c:=fV ey;have yin:inF zs.length w y:=((dw cin).mp yj).inF cin;have l36:pl'.length<=36:=by
      have:=lg (l2:=bH zs.length w) nd7 fun y hy=>bL.mpr (in7 y hy)
      rw[fP] at this;have:zs.length*w<=6*6:=lR z6 w6;lia
     have tk:∀ z,z∈(cD zs w c).take (j+1)↔(z∈(cD zs w c).take j\/z=y):=fun z=>by
      rw[jP,ey,cI];simp
     refine⟨_,rfl,_,rfl,dd,_,rfl,Pg.t ed7 a3d (ltl (by unfold d9;rw[aV];lia)),?_⟩;have mk:∀ pl2:List Cell,pl2.Nodup->(∀ z,z∈pl2↔(z∈pl'\/z=y))->∃(pl':List Cell)(v5:Option V),Same H (upd H7 dd (.dT (d9 pl2)))/\(upd H7 dd (.dT (d9 pl2))) eg=some (.lst cs)/\aP K (upd H7 dd (.dT (d9 pl2))) cs ((bO zs w).map au)/\pQ K H (upd H7 dd (.dT (d9 pl2))) q (qs++[a]) (ps++[cD zs w c])/\(upd H7 dd (.dT (d9 pl2))) a=some (.lst ms)/\aP K (upd H7 dd (.dT (d9 pl2))) ms ((cD zs w c).map au)/\(upd H7 dd (.dT (d9 pl2))) dd=some (.dT (d9 pl'))/\pl'.Nodup/\(∀ y,y∈pl'↔(y∈pl\/y∈(cD zs w c).take (j+1)))/\(∀ y∈pl',inF zs.length w y)/\[some (V.ref x),some (.ref q),some (.ref dd),some (.ref tc),some (.ref a),some (.ref ty)]=[zzR x,zzR q,zzR dd,zzR tc,zzR a,v5]:=fun pl2 n2 m2=>by
      have sd:SameBut dd H7 (upd H7 dd (.dT (d9 pl2))):=(SameBut.refl dd _).put;have tp:Hx H7 (upd H7 dd (.dT (d9 pl2))):=.put ed7 (by intro xs z;cases z);refine⟨pl2,_,sd.of sh7 nd,sd _ _ ec7 (qg ec7 ed7 (by intro z;cases z)),tp.cells Dc7,⟨sd _ _ pa7.at_ (qg pa7.at_ ed7 (by intro z;cases z)),pa7.len,fun i b p h1 h2=>?_,pa7.new,pa7.nd,pa7.nq⟩,sd _ _ em7 (qg em7 ed7 (by intro z;cases z)),tp.cells Dm7,aD,n2,fun z=>?_,fun z hz=>?_,rfl⟩
      ·obtain⟨ws,ew,Dw⟩:=pa7.ls i b p h1 h2;exact⟨ws,sd _ _ ew (qg ew ed7 (by intro z;cases z)),tp.cells Dw⟩
      ·rw[m2 z,a06 z,tk z,or_assoc]
      ·rcases(m2 z).mp hz with q|q
       ·exact in7 z q
       ·rw[q];exact yin
     by_cases hy:y∈pl'
     ·rw[Il pl' y hy];exact mk pl' nd7 fun z=>⟨.inl,fun q=>q.elim id (fun e=>by rw[e];exact hy)⟩
     ·rw[Dg pl' y hy];refine mk (pl'++[y]) (xT.mpr ⟨nd7,by simp,fun a ha b hb e=>hy (by rw[<- dM.mp hb,<- e];exact ha)⟩) fun z=>?_
      rw[cI,dM]
    ·obtain⟨pl',v5,sh7,ec7,Dc7,pa7,em7,Dm7,ed7,nd7,a06,in7,rfl⟩:=hh;refine⟨qs++[a],ps++[cD zs w c],pl',_,_,v5,sh7,ec7,Dc7,pa7,ed7,nd7,fun y=>?_,in7,go,X4,by rw[cM,pC];lia,rfl⟩;rw[a06 y,lms,jO,Sx y];constructor
     ·rintro(⟨p,hp,hy⟩|hy)
      ·exact⟨p,iB _ hp,hy⟩
      ·exact⟨_,je _ (dM.mpr rfl),hy⟩
     ·rintro⟨p,hp,hy⟩;rcases cI.mp hp with z|z
      ·exact .inl ⟨p,z,hy⟩
      ·rw[dM.mp z] at hy;exact .inr hy
   ·obtain⟨qs,ps,pl,v3,v4,v5,sh,ec4,Dc4,pa,ed4,ndp,Sx,inp,go,X4,lps,rfl⟩:=hh;rw[lcs,List.drop_length] at go;have e:ps=aY zs w:=go;exact hR _ _ ⟨qs,v3,v4,v5,sh,by rw[<- e];exact pa,rfl⟩
  rintro zzs H3 ⟨qs,v3,v4,v5,s3,pa,rfl⟩;exact⟨_,rfl,hq q qs _ nq s3 pa⟩
end
end My
namespace My
open PySem L2
theorem SN:∀ d∈offs,(-d.1,-d.2)∈offs:=by decide
theorem nF{h w:Int}{x y:Cell}(hy:y∈dh h w x)(hx:inF h w x):x∈dh h w y:=by
 unfold dh at hy ⊢;obtain⟨h1,_⟩:=cg.mp hy;obtain⟨d,hd,rfl⟩:=cT.mp h1;refine cg.mpr ⟨cT.mpr ⟨_,SN d hd,?_⟩,bT hx⟩;exact jJ (by show x.1+d.1 + -d.1=x.1;lia) (by show x.2+d.2 + -d.2=x.2;lia)
theorem rz{zs:List Str}{w:Nat}{x:Cell}:x∈bO zs w↔aK zs w x=true/\∃ t,t∈aM zs w x:=by
 unfold bO;rw[cg,gZ,Pn,iC];refine and_congr_right fun _=>?_
 constructor
 ·intro h;cases e:aM zs w x with
  |nil=>rw[e] at h;exact absurd h (qM _)
  |cons t ts=>exact⟨t,dJ⟩
 ·rintro⟨t,ht⟩;exact Vo ht
theorem j6{zs:List Str}{w:Nat}{x:Cell}(h:x∈bO zs w):inF zs.length w x:=by
 have:=(rz.mp h).1;unfold aK at this;rw[mF] at this;exact cN this.1
theorem QH{zs:List Str}{w:Nat}(h6:zs.length<=6)(w6:w<=6):(bO zs w).Pairwise aX:=by
 unfold bO cA;exact((qT zs.length (cJ.mpr (by lia)) w (cJ.mpr (by lia))).filter _).filter _
theorem p8{zs:List Str}{w:Nat}{t y:Cell}(hin:inF zs.length w t)(ho:aK zs w t=false)(hy:y∈aB zs w t):y∈bO zs w:=by
 unfold aB at hy;obtain⟨h1,h2⟩:=cg.mp hy;refine rz.mpr ⟨h2,t,?_⟩;unfold aM;exact cg.mpr ⟨nF h1 hin,by rw[ho];rfl⟩
theorem gF{zs:List Str}{w:Nat}{x t:Cell}(h:t∈aM zs w x):inF zs.length w t/\aK zs w t=false/\t∈dh zs.length w x:=by
 unfold aM at h;obtain⟨h1,h2⟩:=cg.mp h;exact⟨ug h1,by simpa using h2,h1⟩
theorem iU.trans{zs:List Str}{w:Nat}{a b c:Cell}(r1:iU zs w a b)(r2:iU zs w b c):iU zs w a c:=by
 induction r2 with
 |base=>exact r1
 |step _ h1 h2 ih=>exact .step ih h1 h2
theorem iU.X6{zs:List Str}{w:Nat}{t x y:Cell}(hin:L2.inF zs.length w t)(ho:aK zs w t=false)(hx:x∈dh zs.length w t)(hy:y∈dh zs.length w t)(cy:aK zs w y=true):iU zs w x y:=by
 refine .step .base (t:=t) ?_ ?_
 ·unfold aM;exact cg.mpr ⟨nF hx hin,by rw[ho];rfl⟩
 ·unfold aB;exact cg.mpr ⟨hy,cy⟩
theorem iU.symm{zs:List Str}{w:Nat}{a b:Cell}(ca:aK zs w a=true)(ia:L2.inF zs.length w a)(r:iU zs w a b):iU zs w b a:=by
 induction r with
 |base=>exact .base
 |@step x t y rx ht hy ih=>
  obtain⟨tin,V4,tx⟩:=gF ht;have xin:=rx.inF ia;have cx:aK zs w x=true:=by
   cases rx with
   |base=>exact ca
   |step _ _ h=>exact(rK h).2
  unfold aB at hy;obtain⟨h1,h2⟩:=cg.mp hy;exact(iU.X6 tin V4 h1 (nF tx xin) cx).trans ih
theorem iU.edge{zs:List Str}{w:Nat}{a b:Cell}(ha:a∈bO zs w)(r:iU zs w a b):b∈bO zs w:=by
 cases r with
 |base=>exact ha
 |step _ ht hy=>
  obtain⟨tin,V4,_⟩:=gF ht;exact p8 tin V4 hy
end My
namespace My
open PySem L2
end My
namespace My
open PySem L2
def layAt(p:Nat->List Cell->Bool)(ps:List Cell):Nat->List (List Cell)
 |0=>[[]]
 |k+1=>(layAt p ps k++(layAt p ps k).map (·++[ps.getD k (0,0)])).filter (p k)
def upto(ps:List Cell)(k:Nat)(l:List Cell):List Cell:=l.filter fun y=>decide (y∈ps.take k)
theorem JM{ps l:List Cell}{k:Nat}(h:∀ y∈l,y∈ps.take k):upto ps k l=l:=by
 unfold upto;exact Aw.mpr fun y hy=>bT (h y hy)
theorem getD_at{ps:List Cell}{k:Nat}(hk:k<ps.length):ps.getD k (0,0)=ps[k]:=by
 rw[fX,dU hk];rfl
theorem jo{ps:List Cell}{k:Nat}(hk:k<ps.length):ps.take (k+1)=ps.take k++[ps.getD k (0,0)]:=by
 rw[jP,dU hk,getD_at hk];rfl
theorem xu{ps:List Cell}(nd:ps.Nodup){k:Nat}(hk:k<ps.length):ps.getD k (0,0)∉ps.take k:=by
 intro h;have h2:(ps.take k++[ps.getD k (0,0)]).Nodup:=by rw[<- jo hk];exact nd.sublist (List.take_sublist _ _)
 exact(xT.mp h2).2.2 _ h _ (dM.mpr rfl) rfl
theorem R6{ps:List Cell}{i j:Nat}(h:i<=j){y:Cell}(hy:y∈ps.take i):y∈ps.take j:=by
 have e:ps.take i=(ps.take j).take i:=by rw[List.take_take,Bm h]
 rw[e] at hy;exact BK hy
theorem vU{p:Nat->List Cell->Bool}{ps:List Cell}(nd:ps.Nodup):∀ k,k<=ps.length->∀ l,l∈layAt p ps k↔(l.Sublist (ps.take k)/\∀ j,j<k->p j (upto ps (j+1) l)=true)
 |0,_,l=>by
  unfold layAt;rw[dM,N6,List.sublist_nil];exact⟨fun h=>⟨h,fun j hj=>absurd hj (by lia)⟩,fun h=>h.1⟩
 |k+1,hk,l=>by
  have ih:=vU (p:=p) nd k (by lia);unfold layAt;have hk':k<ps.length:=by lia
  have nin:=xu nd hk';rw[cg,jo hk'];have a2A:∀ l':List Cell,l'.Sublist (ps.take k)->∀ j,j<k->upto ps (j+1) (l'++[ps.getD k (0,0)])=upto ps (j+1) l':=fun l' _ j hj=>by
   unfold upto;rw[xQ];have:[ps.getD k (0,0)].filter (fun y=>decide (y∈ps.take (j+1)))=[]:=by
    rw[GZ,aJ (by rw[cB (fun z=>nin (R6 (by lia) z))];exact fG)];rfl
   rw[this,xW]
  constructor
  ·rintro⟨hl,hp⟩;have all:∀ l':List Cell,l'.Sublist (ps.take k++[ps.getD k (0,0)])->upto ps (k+1) l'=l':=fun l' h'=>JM fun y hy=>by rw[jo hk'];exact h'.subset hy
   rcases cI.mp hl with z|z
   ·obtain⟨h1,h2⟩:=(ih l).mp z;have hs:l.Sublist (ps.take k++[ps.getD k (0,0)]):=h1.trans (Vk _ _);refine⟨hs,fun j hj=>?_⟩;by_cases e:j=k
    ·subst e;rw[all l hs];exact hp
    ·exact h2 j (by lia)
   ·obtain⟨l',m',rfl⟩:=cT.mp z;obtain⟨h1,h2⟩:=(ih l').mp m';have hs:(l'++[ps.getD k (0,0)]).Sublist (ps.take k++[ps.getD k (0,0)]):=h1.append (Mz _);refine⟨hs,fun j hj=>?_⟩;by_cases e:j=k
    ·subst e;rw[all _ hs];exact hp
    ·rw[a2A l' h1 j (by lia)];exact h2 j (by lia)
  ·rintro⟨hs,hp⟩;have hpk:=hp k (by lia);rw[JM (fun y hy=>by rw[jo hk'];exact hs.subset hy)] at hpk;refine⟨?_,hpk⟩;obtain⟨l1,l2,e,s1,s2⟩:=List.sublist_append_iff.mp hs;subst e;have:l2=[]\/l2=[ps.getD k (0,0)]:=by
    cases l2 with
    |nil=>exact .inl rfl
    |cons a l2=>
     right;exact s2.eq_of_length_le (by simp)
   rcases this with rfl|rfl
   ·refine iB _ ((ih _).mpr ⟨by simpa using s1,fun j hj=>hp j (by lia)⟩)
   ·refine je _ (cT.mpr ⟨l1,(ih l1).mpr ⟨s1,fun j hj=>?_⟩,rfl⟩);have:=hp j (by lia);rwa[a2A l1 s1 j hj] at this
theorem xq{p:Nat->List Cell->Bool}{ps:List Cell}(nd:ps.Nodup):∀ k,k<=ps.length->(layAt p ps k).Nodup
 |0,_=>by unfold layAt;simp
 |k+1,hk=>by
  have ih:=xq (p:=p) nd k (by lia);unfold layAt;refine Mu wK (xT.mpr ⟨ih,?_,fun a ha b hb e=>?_⟩)
  ·exact Bc.mpr (ih.imp fun h e=>h (List.append_cancel_right e))
  ·obtain⟨b',_,rfl⟩:=cT.mp hb;subst e;have:=((vU nd k (by lia) _).mp ha).1;exact xu nd (by lia) (this.subset (by simp))
theorem vR(p:Nat->List Cell->Bool)(ps:List Cell):∀ k,(layAt p ps k).length<=2^k
 |0=>bK _
 |k+1=>by
  unfold layAt;refine cP (iw _ _) ?_;rw[cM,aV,Nat.pow_succ];have:=vR p ps k;lia
theorem qX{p:Nat->List Cell->Bool}{ps:List Cell}:∀ k,∀ l∈layAt p ps k,l.length<=k
 |0,l,h=>by unfold layAt at h;rw[dM.mp h];exact bK _
 |k+1,l,h=>by
  unfold layAt at h;rcases cI.mp (cg.mp h).1 with z|z
  ·have:=qX k l z;lia
  ·obtain⟨l',m',rfl⟩:=cT.mp z;have:=qX k l' m';rw[cM,pC];lia
def mL(N l:List Cell):Nat:=(N.filter fun y=>decide (y∈l)).length
def nA(N:List Cell)(f:Int)(rest:Nat)(l:List Cell):Bool:=decide ((mL N l:Int)<=f)&&decide (f<=(mL N l:Int)+rest)
def yX(N:List Cell)(c:Cell):Nat:=(N.filter fun y=>fO c y).length
def pP(zs:List Str)(w:Nat)(ps:List Cell)(k:Nat)(l:List Cell):Bool:=
 (aM zs w (ps.getD k (0,0))).all fun t=>nA (aB zs w t) (fY zs t) (yX (aB zs w t) (ps.getD k (0,0))) l
def J0(N ps:List Cell)(k:Nat):Nat:=(N.filter fun y=>decide (y∈ps.drop (k+1))).length
theorem NT{N:List Cell}{a b c:Cell->Bool}(h:∀ y∈N,a y=true->b y=true\/c y=true):(N.filter a).length<=(N.filter b).length+(N.filter c).length:=by
 induction N with
 |nil=>simp
 |cons y N ih=>
  have ih':=ih fun z hz=>h z (fK _ hz)
  have hy:=h y dJ;simp only[GZ];cases ha:a y<;>cases hb:b y<;>cases hc:c y<;>simp_all<;>lia
theorem Q7{N:List Cell}{a b:Cell->Bool}(h:∀ y∈N,a y=true->b y=true):(N.filter a).length<=(N.filter b).length:=by
 have:=NT (N:=N) (a:=a) (b:=b) (c:=fun _=>false) fun y hy hz=>.inl (h y hy hz)
 have e:N.filter (fun _=>false)=[]:=Mf.mpr fun _ _=>fG
 rw[e] at this;simpa using this
theorem Q8{N:List Cell}{a:Cell->Bool}(h:∀ y∈N,a y=false):(N.filter a).length=0:=by
 rw[Mf.mpr fun y hy=>by rw[h y hy];exact fG];rfl
theorem vM{N:List Cell}{a b:Cell->Bool}(h:∀ y∈N,a y=b y):(N.filter a).length=(N.filter b).length:=by rw[GK h]
section
variable{zs:List Str}{w:Nat}{ps:List Cell}
structure Part(zs:List Str)(w:Nat)(ps:List Cell):Prop where
 asc:ps.Pairwise aX
 ne:ps≠[]
 cl:∀ x∈ps,aK zs w x=true/\inF zs.length w x
 all:∀ x∈ps,∀ t∈aM zs w x,∀ y∈aB zs w t,y∈ps
theorem Part.join{c:Cell}(h6:zs.length<=6)(w6:w<=6)(hc:c∈bO zs w):Part zs w (cD zs w c):=by
 have hin:=j6 hc;refine⟨nC h6 w6,fun z=>?_,fun x hx=>?_,fun x hx t ht y hy=>?_⟩
 ·have:c∈cD zs w c:=(dw hin).mpr .base;rw[z] at this;cases this
 ·have:=iU.edge hc ((dw hin).mp hx);exact⟨(rz.mp this).1,j6 this⟩
 ·exact(dw hin).mpr (.step ((dw hin).mp hx) ht hy)
theorem Part.nd(p:Part zs w ps):ps.Nodup:=j9 p.asc
theorem Part.near(p:Part zs w ps){x t:Cell}(hx:x∈ps)(ht:t∈aM zs w x):x∈aB zs w t:=by
 obtain⟨h1,h2,h3⟩:=gF ht;exact cg.mpr ⟨nF h3 (p.cl x hx).2,(p.cl x hx).1⟩
theorem Dz{x t:Cell}(hx:x∈aB zs w t)(tin:inF zs.length w t)(to:aK zs w t=false):t∈aM zs w x:=by
 obtain⟨h1,h2⟩:=cg.mp hx;exact cg.mpr ⟨nF h1 tin,by rw[to];rfl⟩
theorem Part.split(p:Part zs w ps){j:Nat}(hj:j<ps.length){y:Cell}(hy:y∈ps):(y∈ps.take (j+1)/\y∉ps.drop (j+1)/\fO (ps.getD j (0,0)) y=false)\/(y∉ps.take (j+1)/\y∈ps.drop (j+1)/\fO (ps.getD j (0,0)) y=true):=by
 have as:=p.asc;have e:=BJ (j+1) ps;have nd:=p.nd;rw[<- e] at as nd;have dis:=(xT.mp nd).2.2;have hjm:ps.getD j (0,0)∈ps.take (j+1):=by rw[jo hj];exact je _ (dM.mpr rfl)
 by_cases h:y∈ps.take (j+1)
 ·left;refine⟨h,fun z=>dis y h y z rfl,?_⟩;rw[jo hj] at h as;rcases cI.mp h with z|z
  ·have h1:=(xP.mp (xP.mp as).1).2.2 y z _ (dM.mpr rfl);exact cB (by unfold aX at *;lia)
  ·rw[dM.mp z];exact cB (by unfold aX;lia)
 ·right;rw[<- e] at hy;have hd:y∈ps.drop (j+1):=(cI.mp hy).resolve_left h;exact⟨h,hd,bT ((xP.mp as).2.2 _ hjm y hd)⟩
theorem Part.beh(p:Part zs w ps){j:Nat}(hj:j<ps.length){N:List Cell}(hN:∀ y∈N,y∈ps):yX N (ps.getD j (0,0))=J0 N ps j:=by
 refine vM fun y hy=>?_
 rcases p.split hj (hN y hy) with⟨_,h2,h3⟩|⟨_,h2,h3⟩
 ·rw[h3,cB h2]
 ·rw[h3,bT h2]
theorem Dk{N l:List Cell}{f:Int}{r:Nat}:nA N f r l=true↔((mL N l:Int)<=f/\f<=(mL N l:Int)+r):=by
 unfold nA;rw[mF,iC,iC]
theorem Part.before(p:Part zs w ps){j:Nat}(hj:j<ps.length){N l:List Cell}(hN:∀ y∈N,y∈ps){f:Int}(h:(mL N l:Int)=f):nA N f (J0 N ps j) (upto ps (j+1) l)=true:=by
 rw[Dk,<- h];constructor
 ·have:=Q7 (N:=N) (a:=fun y=>decide (y∈upto ps (j+1) l)) (b:=fun y=>decide (y∈l)) fun y _ hz=>bT (cg.mp (cN hz)).1
  unfold mL;lia
 ·have:=NT (N:=N) (a:=fun y=>decide (y∈l)) (b:=fun y=>decide (y∈upto ps (j+1) l)) (c:=fun y=>decide (y∈ps.drop (j+1))) fun y hy hz=>by
   rcases p.split hj (hN y hy) with⟨h1,_,_⟩|⟨_,h2,_⟩
   ·exact .inl (bT (cg.mpr ⟨cN hz,bT h1⟩))
   ·exact .inr (bT h2)
  unfold mL J0;lia
theorem Zg{j:Nat}{N l:List Cell}{f:Int}(hN:∀ y∈N,y∈ps.take (j+1))(h0:J0 N ps j=0)(h:nA N f (J0 N ps j) (upto ps (j+1) l)=true):(mL N l:Int)=f:=by
 rw[Dk,h0] at h;have e:mL N (upto ps (j+1) l)=mL N l:=vM fun y hy=>by
  rw[tD];exact⟨fun z=>(cg.mp z).1,fun z=>cg.mpr ⟨z,bT (hN y hy)⟩⟩
 rw[e] at h;lia
theorem WR{N:List Cell}(h0:N≠[])(hN:∀ y∈N,y∈ps):∃ j,j<ps.length/\ps.getD j (0,0)∈N/\∀ y∈N,y∈ps.take (j+1):=by
 have go:∀ k,k<=ps.length->(∀ y∈N,y∈ps.take k)->∃ j,j<ps.length/\ps.getD j (0,0)∈N/\∀ y∈N,y∈ps.take (j+1):=by
  intro k
  induction k with
  |zero=>
   intro _ h;cases N with
   |nil=>exact absurd rfl h0
   |cons a N=>have:=h a dJ;rw[N6] at this;cases this
  |succ k ih=>
   intro hk h;by_cases hh:∀ y∈N,y∈ps.take k
   ·exact ih (by lia) hh
   ·have ⟨y,hy,hn⟩:∃ y,y∈N/\y∉ps.take k:=M4 fun hc=>hh fun y hy=>M4 fun hn=>hc ⟨y,hy,hn⟩
    have:=h y hy;rw[jo (by lia)] at this;have e:y=ps.getD k (0,0):=dM.mp ((cI.mp this).resolve_left hn);exact⟨k,by lia,by rw[<- e];exact hy,h⟩
 exact go ps.length (bK _) (fun y hy=>by rw[jO];exact hN y hy)
def YD(zs:List Str)(w:Nat)(ps l:List Cell):Prop:=∀ x∈ps,∀ t∈aM zs w x,(mL (aB zs w t) l:Int)=fY zs t
theorem Part.a3f(p:Part zs w ps)(l:List Cell):l∈layAt (pP zs w ps) ps ps.length↔(l.Sublist ps/\YD zs w ps l):=by
 rw[vU p.nd _ (bK _),jO];refine and_congr_right fun hs=>⟨fun h x hx t ht=>?_,fun h j hj=>?_⟩
 ·have hN:∀ y∈aB zs w t,y∈ps:=p.all x hx t ht;have hx':=p.near hx ht;obtain⟨j,hj,hm,hl⟩:=WR (fun z=>by rw[z] at hx';cases hx') hN;obtain⟨tin,to,_⟩:=gF ht;have:=jy.mp (h j hj) t (Dz hm tin to);rw[p.beh hj hN] at this;refine Zg hl (Q8 fun y hy=>?_) this;rcases p.split hj (hN y hy) with⟨_,h2,_⟩|⟨h2,_,_⟩
  ·exact cB h2
  ·exact absurd (hl y hy) h2
 ·refine jy.mpr fun t ht=>?_
  have hx:ps.getD j (0,0)∈ps:=by rw[getD_at hj];exact mG _
  have hN:∀ y∈aB zs w t,y∈ps:=p.all _ hx t ht;rw[p.beh hj hN];exact p.before hj hN (h _ hx t ht)
def eF(zs:List Str)(w:Nat)(ps:List Cell):List (List Cell):=(layAt (pP zs w ps) ps ps.length).mergeSort fun a b=>!llt b a
theorem kZ:(eF zs w ps).Perm (layAt (pP zs w ps) ps ps.length):=List.mergeSort_perm _ _
theorem Qk:Rb (eF zs w ps):=by
 have h:(eF zs w ps).Pairwise fun a b=>(!llt b a)=true:=by
  refine List.pairwise_mergeSort (fun a b c h1 h2=>?_) (fun a b=>?_) _
  ·have h1:llt b a=false:=by simpa using h1
   have h2:llt c b=false:=by simpa using h2
   rw[uf.tr _ _ _ h1 h2];rfl
  ·cases h:llt b a
   ·rfl
   ·rw[uf.HF _ _ h];rfl
 exact h.imp fun h=>by simpa using h
theorem Part.lays(p:Part zs w ps){ds:List (List Cell)}(h1:ds.Perm (layAt (pP zs w ps) ps ps.length))(h2:Rb ds):ds=eF zs w ps:=Nh uf (h1.trans kZ.symm) h2 Qk
theorem Part.mem(p:Part zs w ps)(l:List Cell):l∈eF zs w ps↔(l.Sublist ps/\YD zs w ps l):=by rw[kZ.mem_iff,p.a3f]
theorem Ql(h:ps.length<=12):(eF zs w ps).length<=4096:=by
 rw[kZ.length_eq];exact cP (vR _ _ _) (Vy (by decide) h)
theorem Qm{l:List Cell}(hl:l∈eF zs w ps):l.length<=ps.length:=qX _ l (kZ.mem_iff.mp hl)
theorem kO{x y:Cell}(h6:zs.length<=6)(w6:w<=6)(hx:x∈bO zs w)(hy:y∈cD zs w x):cD zs w y=cD zs w x:=by
 have ix:=j6 hx;have c1:=(dw ix).mp hy;have ey:=iU.edge hx c1;have c2:=iU.symm (rz.mp hx).1 ix c1;refine yU (nC h6 w6) (nC h6 w6) fun z=>?_
 rw[dw (j6 ey),dw ix];exact⟨fun c=>c1.trans c,fun c=>c2.trans c⟩
structure W2(zs:List Str)(w:Nat)(ps:List (List Cell)):Prop where
 of:∀ p∈ps,∃ x∈bO zs w,p=cD zs w x
 dis:ps.Pairwise fun a b=>∀ y∈a,y∉b
theorem zN(h6:zs.length<=6)(w6:w<=6):∀(cs:List Cell)(ps:List (List Cell)),(∀ c∈cs,c∈bO zs w)->W2 zs w ps->W2 zs w (gM zs w cs ps)/\(∀ c∈cs,∃ p∈gM zs w cs ps,c∈p)/\(∀ p∈ps,p∈gM zs w cs ps)
 |[],ps,_,ok=>by unfold gM;exact⟨ok,(fun c hc=>by cases hc),fun p hp=>hp⟩
 |c::cs,ps,hcs,ok=>by
  have hc:=hcs c dJ;have ic:=j6 hc;have self:c∈cD zs w c:=(dw ic).mpr .base;unfold gM;by_cases h:∃ p∈ps,c∈p
  ·rw[aL h];obtain⟨a1,a2,a3⟩:=zN h6 w6 cs ps (fun d hd=>hcs d (fK _ hd)) ok;refine⟨a1,fun d hd=>?_,a3⟩;rcases cO.mp hd with z|z
   ·obtain⟨p,hp,hcp⟩:=h;exact⟨p,a3 p hp,by rw[z];exact hcp⟩
   ·exact a2 d z
  ·rw[aJ h];have ok2:W2 zs w (ps++[cD zs w c]):=by
    refine⟨fun p hp=>?_,xP.mpr ⟨ok.dis,Vl _ _,fun a ha b hb y hy hy2=>?_⟩⟩
    ·rcases cI.mp hp with z|z
     ·exact ok.of p z
     ·exact⟨c,hc,dM.mp z⟩
    ·rw[dM.mp hb] at hy2;obtain⟨x,hx,rfl⟩:=ok.of a ha;refine h ⟨_,ha,?_⟩;rw[<- kO h6 w6 hx hy,kO h6 w6 hc hy2];exact self
   obtain⟨a1,a2,a3⟩:=zN h6 w6 cs (ps++[cD zs w c]) (fun d hd=>hcs d (fK _ hd)) ok2;refine⟨a1,fun d hd=>?_,fun p hp=>a3 p (iB _ hp)⟩;rcases cO.mp hd with z|z
   ·exact⟨_,a3 _ (je _ (dM.mpr rfl)),by rw[z];exact self⟩
   ·exact a2 d z
theorem iM(h6:zs.length<=6)(w6:w<=6):W2 zs w (aY zs w)/\∀ c∈bO zs w,∃ p∈aY zs w,c∈p:=by
 obtain⟨a1,a2,_⟩:=zN (zs:=zs) (w:=w) h6 w6 (bO zs w) [] (fun c hc=>hc) ⟨(fun p hp=>by cases hp),.nil⟩;exact⟨a1,a2⟩
end
end My
namespace My
open PySem L2
theorem pX(zs:List Str)(w:Nat)(x:Cell):(aB zs w x).length<=8:=cP (iw _ _) (gD _ _ _)
def Ij(zs:List Str)(w:Nat)(c t:Cell):Dt:=.tup [.int (fY zs t),.lst ((aB zs w t).map au),.int (yX (aB zs w t) c)]
def Ea(K:ao)(C:Addr):Sp:=fun vs H Q _=>∃(x:Addr)(v:V)(zs:List Str)(w:Nat)(c:Cell),vs=[.ref x,v]/\dB C H x zs w/\Den K H v (au c)/\inF zs.length w c/\∀ q H',Fr K H H' q ((aM zs w c).map (Ij zs w c))->Q (.ref q) H'
section
variable{P:Program}{w:World}{K:ao}{mg:Str->Option Value}{base:Heap}{Z:Adr}
theorem KD{f:Addr}{fd:FuncData} (F:Fun K "demands" "demands" wg f fd) (T:Txt K mg Z) (cU:Df P w K mg base 3 "open_near" ["view","cell"] (oZ K Z.View aM)) (cX:Df P w K mg base 3 "closed_near" ["view","cell"] (oZ K Z.View aB)) (iV:Df P w K mg base 1 "figure" ["view","cell"] (uK K Z.View)) :
  cC P w K mg base (CXE P w) 4 f fd ["view","last"] (Ea K Z.View):=by
 refine F.rok lG (fun vs H Q E h=>?_) (fun cdv A outer s H vs Q E hr h=>?_)
 ·obtain⟨x,v,zs,w,c,rfl,_⟩:=h;rfl
 ·obtain⟨x,v,zs,w,c,rfl,vt,dv,hin,hq⟩:=h;have hu:=jV hr;refine⟨_,(aA (aZ (i:=2) lG.nd rfl (Or.inl rfl) (dO ak)) (aA (cL eO rfl (bx (K:=K) (aO cU hr rfl aQ (aj (rv 0) (aj (rv 1) ak)))) (bC (i:=3) lG.nd rfl (Or.inl rfl)) (aA (aZ (i:=4) lG.nd rfl (Or.inl rfl) (aO cX hr rfl aQ (aj (rv 0) (aj (rv 3) ak)))) (aA (uD (i:=5) lG.nd rfl rfl (by rfl) rfl (bx (K:=K) (rv 4)) (fun _ _ _=>(fB (bA (a1R (K:=K) hu) (rv 0) (rv 2) (bW _)))) (fun _ _ _=>(rv 0))) (aC (gO (lX (K:=K) lN nO nP dX (rv 2) (aj (fu (aj (aO iV hr rfl aQ (aj (rv 0) (aj (rv 3) ak))) (aj (rv 4) (aj (aU (dH (K:=K)) rfl T.dj cu (aj (rv 5) ak)) ak)))) ak))))))) (aC (aR (rv 2))))),?_⟩;refine aF (fun zzs H1=>∃ q:Addr,H q=none/\Same H H1/\H1 q=some (.lst [])/\zzs=[zzR x,some v,zzR q,zzN,zzN,zzN]) (fun R hR=>?_) ?_
  ·exact⟨by decide,fun q nq=>hR _ _ ⟨q,nq,Same.put nq,aD,rfl⟩⟩
  rintro zzs H1 ⟨q,nq,s1,eq1,rfl⟩;refine aF (fun zzs H2=>∃(us:List V)(v3 v4 v5:Option V),Same H H2/\H2 q=some (.lst us)/\aP K (del q H2) us ((aM zs w c).map (Ij zs w c))/\zzs=[zzR x,some v,zzR q,v3,v4,v5]) (fun R hR=>?_) ?_
  ·refine⟨_,rfl,_,rfl,x,_,zs,w,c,rfl,vt.mono s1,dv.mono s1,hin,fun tl H2 f2=>?_⟩;obtain⟨ts,et,Dt'⟩:=f2.ls;have lts:ts.length=(aM zs w c).length:=by rw[Dt'.length,aV]
   have lt8:=uw zs w c;have ntq:tl≠q:=fun z=>by have:=f2.new;rw[z,eq1] at this;cases this
   refine⟨tl,rfl,⟨_,SqL.of et⟩,?_⟩;refine eE (K:=K) (xs:=ts) (fun i zzs H3=>∃(us:List V)(v3 v4 v5:Option V),Same H H3/\H3 tl=some (.lst ts)/\aP K H3 ts ((aM zs w c).map au)/\H3 q=some (.lst us)/\aP K (del q H3) us (((aM zs w c).take i).map (Ij zs w c))/\zzs=[zzR x,some v,zzR q,v3,v4,v5])
    ⟨[],none,none,none,s1.trans f2.same,et,Dt',f2.same _ _ eq1,.nil,rfl⟩ (fun i zzs H3 _ hh=>by obtain⟨_,_,_,_,_,e,_⟩:=hh;exact SqL.of e) (fun i u zzs H3 hu' hh=>?_) (fun zzs H3 hh=>?_)
   ·obtain⟨us,v3,v4,v5,sh,et3,Dt3,eq3,D3,rfl⟩:=hh;obtain⟨dt,edt,du⟩:=Dt3.get hu';rw[cV] at edt;obtain⟨t,etq,rfl⟩:=iQ.mp edt;have hi:i<(aM zs w c).length:=(jw.mp etq).1;obtain⟨tin,to,_⟩:=gF (fV etq);refine aF (fun zzs H4=>∃ a:Addr,Same H3 H4/\H3 a=none/\Ls K H4 a ((aB zs w t).map au)/\zzs=[zzR x,some v,zzR q,some u,zzR a,v5]) (fun R' hR'=>?_) ?_
    ·exact⟨_,rfl,_,rfl,x,_,zs,w,t,rfl,vt.mono sh,du,tin,fun a H4 f4=>hR' _ _ ⟨a,f4.same,f4.new,f4.ls,rfl⟩⟩
    rintro zzs H4 ⟨a,s4,na,la,rfl⟩;obtain⟨as,ea,Da⟩:=id la;have lc8:=pX zs w t;refine aF (fun zzs H5=>∃ b:Addr,Same H4 H5/\Ls K H5 b (((aB zs w t).filter fun y=>fO c y).map au)/\zzs=[zzR x,some v,zzR q,some u,zzR a,zzR b]) (fun R' hR'=>?_) ?_
    ·refine⟨_,rfl,a,rfl,⟨_,SqL.of ea⟩,dF (K:=K) (xs:=aB zs w t) (enc:=au) (bM (SqL.of ea)) Da (small (by lia)) (fun y=>fO c y) au (fun y hy u' H5 s5 d G hG=>?_) (fun y hy _ u' H5 s5 d G hG=>⟨_,rfl,hG _ _ (Same.refl _) d⟩) (fun ys H5 s5 D5 b hb=>?_)⟩
     ·exact⟨_,rfl,_,rfl,y,c,d,dv.mono (sh.trans (s4.trans s5)),_,rfl,hG _ (Same.refl _)⟩
     ·exact hR' _ _ ⟨b,s5.and hb,.new hb D5,rfl⟩
    rintro zzs H5 ⟨b,s5,lb,rfl⟩;have eq5:=s5 _ _ (s4 _ _ eq3);have lus:us.length<=8:=by rw[D3.length,aV,lQ];lia
    refine⟨_,rfl,.inl ⟨rfl,_,SqL.of eq5⟩,?_⟩;refine⟨_,rfl,_,rfl,x,_,zs,w,t,rfl,vt.mono (sh.trans (s4.trans s5)),du.mono (s4.trans s5),tin,to,?_⟩;refine⟨_,rfl,_,rfl,?_⟩;dsimp only[sZ];refine zV lb.den ?_;refine⟨sz rfl,fun tt nt=>?_⟩;have s6:=Same.put (o:=.tup [.int (fY zs t),.ref a,.int ((((aB zs w t).filter fun y=>fO c y).map au).length:Int)]) nt;refine jY (K:=K) (s6 _ _ eq5) (by lia) ?_;have sb:SameBut q (upd H5 tt (.tup [.int (fY zs t),.ref a,.int ((((aB zs w t).filter fun y=>fO c y).map au).length:Int)])) (upd (upd H5 tt (.tup [.int (fY zs t),.ref a,.int ((((aB zs w t).filter fun y=>fO c y).map au).length:Int)])) q (.lst (us++[.ref tt]))):=(SameBut.refl q _).put;have naq:a≠q:=fun z=>by rw[z,eq3] at na;cases na
    have a3n:tt≠q:=fun z=>by rw[z,eq5] at nt;cases nt
    have sH:Same H3 (upd H5 tt (.tup [.int (fY zs t),.ref a,.int ((((aB zs w t).filter fun y=>fO c y).map au).length:Int)])):=(s4.trans s5).trans s6;refine⟨us++[.ref tt],_,_,_,sb.of (sh.trans sH) nq,sb _ _ (sH _ _ et3) ntq,sb.cells (s6 _ _ eq5) (Dt3.mono sH),aD,?_,rfl⟩;rw[jP,etq,eG];refine(D3.mono ((sH.but q).trans sb).del).append (.cons ?_ .nil);have dn:Same (del q (upd H5 tt (.tup [.int (fY zs t),.ref a,.int ((((aB zs w t).filter fun y=>fO c y).map au).length:Int)]))) (del q (upd (upd H5 tt (.tup [.int (fY zs t),.ref a,.int ((((aB zs w t).filter fun y=>fO c y).map au).length:Int)])) q (.lst (us++[.ref tt])))):=sb.del;refine Den.mono dn ?_;unfold Ij;refine Den.tup (by rw[kJ a3n];exact aD) (.cons (.int _) (.cons (vH (s6 _ _ eq5) naq (la.mono (s5.trans s6))).den (.cons ?_ .nil)));rw[aV];exact .int _
   ·obtain⟨us,v3,v4,v5,sh,et3,Dt3,eq3,D3,rfl⟩:=hh;rw[lts,jO] at D3;exact hR _ _ ⟨us,v3,v4,v5,sh,eq3,D3,rfl⟩
  rintro zzs H2 ⟨us,v3,v4,v5,s2,eq2,D2,rfl⟩;exact⟨_,rfl,hq q _ ⟨s2,nq,us,eq2,D2.mono zy⟩⟩
theorem Wh{H:Hp}{v:V}{zs:List Str}{wd:Nat}{c t:Cell}(h:Den K H v (Ij zs wd c t)):∃(b:Addr)(y:V),v=.ref b/\H b=some (.tup [.int (fY zs t),y,.int (yX (aB zs wd t) c)])/\Den K H y (.lst ((aB zs wd t).map au)):=by
 unfold Ij at h;cases h with
 |tup ht hs=>
  cases hs with
  |cons h1 hs=>
   cases hs with
   |cons h2 hs=>
    cases hs with
    |cons h3 hs=>
     cases hs;cases h1;cases h3;exact⟨_,_,rfl,ht,h2⟩
def oH(zs:List Str)(wd:Nat)(c:Cell)(ts l:List Cell):Bool:=ts.all fun t=>nA (aB zs wd t) (fY zs t) (yX (aB zs wd t) c) l
def Z2(K:ao):Sp:=fun vs H Q _=>∃(v:V)(q:Addr)(zs:List Str)(wd:Nat)(c:Cell)(ts l:List Cell),vs=[v,.ref q]/\Den K H v (vZ l)/\Ls K H q (ts.map (Ij zs wd c))/\∀ H',Same H H'->Q (.bl (oH zs wd c ts l)) H'
theorem a0f{f:Addr}{fd:FuncData} (F:Fun K "may_hold" "may_hold" sW f fd) (T:Txt K mg Z):cC P w K mg base (CXE P w) 1 f fd ["laying","asked"] (Z2 K):=by
 refine F.rok qC (fun vs H Q E h=>?_) (fun cdv A outer s H vs Q E hr h=>?_)
 ·obtain⟨v,q,zs,w,c,ts,l,rfl,_⟩:=h;rfl
 ·obtain⟨v,q,zs,wd,c,ts,l,rfl,dv,lq,hq⟩:=h;have hu:=jV hr;have hu':=xZ hr;refine⟨_,(aA (cL eO rfl (bx (K:=K) (rv 1)) (bC (i:=2) qC.nd rfl (Or.inl rfl)) (aA (aZ (i:=3) qC.nd rfl (Or.inl rfl) (aU (dH (K:=K)) rfl T.dj cu (aj (gK (by rfl) rfl (bx (K:=K) (cH (cG (K:=K)) (rv 2) aH)) (fun _ _ _=>(fB (bA (eX.or (pq (K:=K) hu')) (rv 0) (rv 1) (by rfl)))) (fun _ _ _=>(rv 0))) ak))) (aC (dR (lB (zY rM rM (rv 3) (cH (cG (K:=K)) (rv 2) aH) (eV c7 (rv 3) (cH (cG (K:=K)) (rv 2) aH)))) (aC (aR pH)) bN)))) (aC (aR pH))),?_⟩;obtain⟨l',rfl⟩:∃ a,v=.ref a:=by cases dv;exact⟨_,rfl⟩
  obtain⟨xs,ex,Dx⟩:=lq;have lx:xs.length=ts.length:=by rw[Dx.length,aV]
  refine aF (fun zzs H1=>∃(v2 v3:Option V),Same H H1/\oH zs wd c ts l=true/\zzs=[zzR l',zzR q,v2,v3]) (fun R hR=>?_) ?_
  ·refine⟨_,rfl,q,rfl,⟨_,SqL.of ex⟩,?_⟩;refine eE (K:=K) (xs:=xs) (fun i zzs H1=>∃(v2 v3:Option V),Same H H1/\(∀ t∈ts.take i,nA (aB zs wd t) (fY zs t) (yX (aB zs wd t) c) l=true)/\zzs=[zzR l',zzR q,v2,v3])
    ⟨none,none,Same.refl _,(fun t ht=>by cases ht),rfl⟩ (fun i zzs H1 _ hh=>by obtain⟨_,_,g,_⟩:=hh;exact SqL.of (g _ _ ex)) (fun i u zzs H1 hi hh=>?_) (fun zzs H1 hh=>?_)
   ·obtain⟨v2,v3,g1,g2,rfl⟩:=hh;obtain⟨d,ed,du⟩:=Dx.get hi;rw[cV] at ed;obtain⟨t,et,rfl⟩:=iQ.mp ed;obtain⟨b,y,rfl,eb,dy⟩:=Wh (du.mono g1);obtain⟨yl,rfl⟩:∃ a,y=.ref a:=by cases dy;exact⟨_,rfl⟩
    have lc8:=pX zs wd t;refine aF (fun zzs H2=>Same H1 H2/\zzs=[zzR l',zzR q,zzR b,zzI (mL (aB zs wd t) l)]) (fun R' hR'=>?_) ?_
    ·refine⟨_,rfl,.inr (.inl ⟨b,_,_,_,rfl,rfl,SqT.of eb,cY (j:=1) rfl,?_⟩)⟩;cases dy with
     |lst hy Dy=>
      refine⟨yl,rfl,⟨_,hy⟩,dF (K:=K) (xs:=aB zs wd t) (enc:=au) (bM hy) Dy (small (by lia)) (fun y=>decide (y∈l)) au (fun y hy u' H5 s5 d G hG=>?_) (fun y hy _ u' H5 s5 d G hG=>⟨_,rfl,hG _ _ (Same.refl _) d⟩) (fun ys H5 s5 D5 n hn=>?_)⟩
      ·exact⟨_,rfl,_,rfl,.inr (rN d (dv.mono (g1.trans s5)) ⟨_,rfl,hG _ (Same.refl _)⟩)⟩
      ·dsimp only[sZ];refine zV (Ls.new hn D5).den ?_;rw[aV];exact hR' _ _ ⟨s5.and hn,rfl⟩
    rintro zzs H2 ⟨s2,rfl⟩;have eb2:=s2 _ _ eb;have nxt:nA (aB zs wd t) (fY zs t) (yX (aB zs wd t) c) l=true->∃(v2 v3:Option V),Same H H2/\(∀ t∈ts.take (i+1),nA (aB zs wd t) (fY zs t) (yX (aB zs wd t) c) l=true)/\[zzR l',zzR q,zzR b,zzI (mL (aB zs wd t) l)]=[some (V.ref l'),some (.ref q),v2,v3]:=fun hb=>⟨_,_,g1.trans s2,fun t' ht'=>by
     rw[jP,et] at ht';rcases cI.mp ht' with z|z
     ·exact g2 t' z
     ·rw[dM.mp z];exact hb,rfl⟩
    have bad:nA (aB zs wd t) (fY zs t) (yX (aB zs wd t) c) l=false->Q (.bl false) H2:=fun hb=>by
     have:oH zs wd c ts l=false:=by
      cases e:oH zs wd c ts l
      ·rfl
      ·have:=jy.mp e t (fV et);rw[hb] at this;cases this
     rw[<- this];exact hq _ (g1.trans s2)
    refine⟨_,rfl,_,rfl,.inr (.inl ⟨b,_,_,_,rfl,rfl,SqT.of eb2,cZ,?_⟩)⟩;refine⟨_,_,rfl,rfl,_,rfl,?_⟩;refine dG (fun h1=>?_) (fun h1=>?_)
    ·refine⟨_,rfl,_,rfl,.inr (.inl ⟨b,_,_,_,rfl,rfl,SqT.of eb2,cY (j:=2) rfl,?_⟩)⟩;refine⟨_,_,rfl,rfl,_,rfl,?_⟩;refine dG (fun h2=>?_) (fun h2=>?_)
     ·refine bad ?_;unfold nA;rw[show decide (fY zs t<=(mL (aB zs wd t) l:Int)+(yX (aB zs wd t) c:Int))=false by simpa only[pF] using h2,Bp]
     ·refine nxt ?_;unfold nA;rw[h1,show decide (fY zs t<=(mL (aB zs wd t) l:Int)+(yX (aB zs wd t) c:Int))=true by simpa only[BR] using h2];rfl
    ·refine⟨_,rfl,Iz ?_⟩;refine bad ?_;unfold nA;rw[h1];rfl
   ·obtain⟨v2,v3,g1,g2,rfl⟩:=hh;rw[lx,jO] at g2;exact hR _ _ ⟨v2,v3,g1,jy.mpr g2,rfl⟩
  rintro zzs H1 ⟨v2,v3,s1,hk,rfl⟩;rw[hk] at hq;exact hq _ s1
theorem DR{K:ao}{H0 H:Hp}:∀ {vs:List V} {rs:List (List Cell)},gJ (lU K H0) H vs rs->∃ qs:List Addr,vs=qs.map V.ref
 |_,_,.nil=>⟨[],rfl⟩
 |_,_,.cons h t=>by
  obtain⟨a,rfl,_⟩:=h;obtain⟨qs,e⟩:=DR t;exact⟨a::qs,by rw[e];rfl⟩
theorem a2h{K:ao}{H0 H:Hp}{q:Addr}{qs:List Addr}{rs:List (List Cell)}(r:gJ (lU K H0) H (qs.map V.ref) rs)(nd:rs.Nodup)(nq:H q=none):pQ K H0 (upd H q (.lst (qs.map V.ref))) q qs rs:=by
 have s1:=Same.put (o:=.lst (qs.map V.ref)) nq;have at_:∀(i:Nat)(a:Addr),qs[i]?=some a->∃ p,rs[i]?=some p/\lU K H0 p (.ref a) H:=fun i a e=>r.get (by rw[cV,e];rfl)
 have len:qs.length=rs.length:=by have:=r.length;rwa[aV] at this
 refine⟨aD,len,fun i a p h1 h2=>?_,fun a ha=>?_,?_,fun z=>?_⟩
 ·obtain⟨p',e,b,eb,_,l⟩:=at_ i a h1;rw[h2] at e;cases e;cases eb;exact l.mono s1
 ·obtain⟨i,hi⟩:=Ar ha;obtain⟨p',e,b,eb,n,l⟩:=at_ i a hi;cases eb;exact n
 ·rw[List.nodup_iff_pairwise_ne,rP];intro i j hi hj hij e;obtain⟨p,ep,rp⟩:=at_ i _ (dU hi);obtain⟨p',ep',rp'⟩:=at_ j _ (dU hj);rw[e] at rp;have:=rp.det rp';subst this;have h1:=(jw.mp ep)
  have h2:=(jw.mp ep')
  have:i=j:=(List.getElem_inj nd).mp (h1.2.trans h2.2.symm);lia
 ·obtain⟨i,hi⟩:=Ar z;obtain⟨p',e,b,eb,n,xs,ex,_⟩:=at_ i q hi;cases eb;rw[ex] at nq;cases nq
def Eb(K:ao)(C NC TG:Addr):Sp:=fun vs H Q E=>∃(x:Addr)(v:V)(zs:List Str)(w:Nat)(c:Cell),vs=[.ref x,v]/\dB C H x zs w/\Den K H v (au c) /\
 (c∉bO zs w->∀ H',Same H H'->E (.ref NC) none H')/\(c∈bO zs w->12<(cD zs w c).length->∀ H',Same H H'->E (.ref TG) none H') /\
 (c∈bO zs w->(cD zs w c).length<=12->∀(q:Addr)(qs:List Addr)(H':Hp),H q=none->Same H H'->pQ K H H' q qs (eF zs w (cD zs w c))->Q (.ref q) H')
theorem KH{f:Addr}{fd:FuncData} (F:Fun K "layings" "layings" wz f fd) (T:Txt K mg Z) (uX:Df P w K mg base 4 "edge" ["view"] (qD K Z.View bO)) (mX:Df P w K mg base 4 "joined" ["view","cell"] (Al K Z.View)) (uW:Df P w K mg base 4 "demands" ["view","last"] (Ea K Z.View)) (rT:Df P w K mg base 1 "may_hold" ["laying","asked"] (Z2 K)) :
  cC P w K mg base (CXE P w) 5 f fd ["view","cell"] (Eb K Z.View Z.NoCell Z.TooGreat):=by
 refine F.Js iH (fun vs H Q E h=>?_) (fun cdv A outer s H vs Q E hr h=>?_)
 ·obtain⟨x,v,zs,w,c,rfl,_⟩:=h;rfl
 ·obtain⟨x,v,zs,w,c,rfl,vt,dv,hN,hT,hq⟩:=h;have hu:=jV hr;have hu':=xZ hr;have hd:=Dj hr;have z6:=vt.vw.le;have w6:=vt.vw.w6;refine⟨_,(aA (dR (RT.nox (bA (gn.or (kW (K:=K) hu')) (rv 1) (aO uX hr rfl aQ (aj (rv 0) ak)) (by rfl))) (aC (ju T.nM rfl T.tU hd (aj iz ak))) bN) (aA (RS.nox (aZ (i:=2) iH.nd rfl (Or.inl rfl) (aO mX hr rfl aQ (aj (rv 0) (aj (rv 1) ak))))) (aA (dR (RT.nox (bA Jg (aU (dH (K:=K)) rfl T.dj cu (aj (rv 2) ak)) (Ld T.ig rfl) (bW _))) (aC (ju T.lJ rfl T.yZ hd (aj iz ak))) bN) (aA (RS.nox (aZ (i:=3) iH.nd rfl (Or.inl rfl) (dO (aj (dO ak) ak)))) (aA (RS.nox (cL eO rfl (bx (K:=K) (rv 2)) (bC (i:=4) iH.nd rfl (Or.inr rfl)) (aA (aZ (i:=5) iH.nd rfl (Or.inr rfl) (aO uW hr rfl aQ (aj (rv 0) (aj (rv 4) ak)))) (aA (aZ (i:=6) iH.nd rfl (Or.inl rfl) (eV c7 (rv 3) (gK (by rfl) rfl (bx (K:=K) (rv 3)) (fun _ _ _=>rB) (fun _ _ _=>(eV c7 (rv 0) (dO (aj (rv 5) ak))))))) (aC (uD (i:=3) iH.nd rfl rfl (by rfl) rfl (bx (K:=K) (rv 6)) (fun _ _ _=>(fB (j7 (aO rT hr rfl aQ (aj (rv 0) (aj (rv 6) ak)))))) (fun _ _ _=>(rv 0)))))))) (aC (RS.nox (aR (aU (Wz (K:=K) hu) rfl T.tO vB (aj (rv 3) ak)))))))))),?_⟩;refine aF (fun zzs H1=>c∈bO zs w/\Same H H1/\zzs=[zzR x,some v,zzN,zzN,zzN,zzN,zzN]) (fun R hR=>?_) ?_
  ·refine⟨_,rfl,_,rfl,x,zs,w,rfl,vt,fun eg H1 fr=>.inr (lA (dv.mono fr.same) fr.ls.den ⟨_,rfl,?_⟩)⟩;refine dG (fun h1=>⟨by decide,hN (mD (by simpa only[pF] using h1)) H1 fr.same⟩) (fun h1=>hR _ _ ⟨cN (by simpa only[BR] using h1),fr.same,rfl⟩)
  rintro zzs H1 ⟨hc,s1,rfl⟩;have hin:=j6 hc;have pt:=Part.join z6 w6 hc;refine aF (fun zzs H2=>∃(pl:Addr)(ms:List V),Same H H2/\H2 pl=some (.lst ms)/\aP K H2 ms ((cD zs w c).map au)/\zzs=[zzR x,some v,zzR pl,zzN,zzN,zzN,zzN]) (fun R hR=>?_) ?_
  ·refine⟨_,rfl,_,rfl,x,_,zs,w,c,rfl,vt.mono s1,dv.mono s1,hin,fun a H2 ds na s2 la as mm=>?_⟩;have e:ds=cD zs w c:=yU as (nC z6 w6) fun y=>by rw[mm y,dw hin]
   rw[e] at la;obtain⟨ms,em,Dm⟩:=la;exact hR _ _ ⟨a,ms,s1.trans s2,em,Dm,rfl⟩
  rintro zzs H2 ⟨pl,ms,s2,em,Dm,rfl⟩;have lms:ms.length=(cD zs w c).length:=by rw[Dm.length,aV]
  refine aF (fun zzs H3=>(cD zs w c).length<=12/\H3=H2/\zzs=[zzR x,some v,zzR pl,zzN,zzN,zzN,zzN]) (fun R hR=>?_) ?_
  ·refine⟨_,rfl,?_⟩;dsimp only[sZ];refine zV (Den.lst (SqL.of em) Dm) ⟨_,_,rfl,rfl,_,rfl,?_⟩;rw[aV];refine dG (fun h1=>⟨by decide,hT hc (by have:=cN h1;lia) H2 s2⟩) (fun h1=>hR _ _ ⟨by have:=mD h1;lia,rfl,rfl⟩)
  rintro zzs H3 ⟨h12,rfl,rfl⟩;have hq':=hq hc h12;clear hN hT hq;generalize hps:cD zs w c=ps at *;refine aF (fun zzs H4=>∃(bl:Addr)(bs:List V),Same H H4/\H4 pl=some (.lst ms)/\aP K H4 ms (ps.map au)/\H4 bl=some (.lst bs)/\gJ (lU K H) H4 bs (layAt (pP zs w ps) ps 0)/\zzs=[zzR x,some v,zzR pl,zzR bl,zzN,zzN,zzN]) (fun R hR=>?_) ?_
  ·refine⟨by decide,fun e0 n0=>?_⟩;dsimp only[sZ];refine⟨sz rfl,fun bl nb=>?_⟩;have t1:=Same.put (o:=.lst []) n0;have t2:=t1.and (o:=.lst [.ref e0]) nb;refine hR _ _ ⟨bl,_,s2.trans t2,t2 _ _ em,Dm.mono t2,aD,.cons ⟨e0,rfl,s2.free n0,[],?_,.nil⟩ .nil,rfl⟩;exact(Same.put nb) _ _ aD
  rintro zzs H4 ⟨bl,bs,s4,em4,Dm4,eb4,rb4,rfl⟩;refine aF (fun zzs H5=>∃(bl:Addr)(bs:List V)(v4 v5 v6:Option V),Same H H5/\H5 bl=some (.lst bs)/\gJ (lU K H) H5 bs (layAt (pP zs w ps) ps ps.length)/\zzs=[zzR x,some v,zzR pl,zzR bl,v4,v5,v6]) (fun R hR=>?_) ?_
  ·refine⟨_,rfl,pl,rfl,⟨_,SqL.of em4⟩,?_⟩;refine eE (K:=K) (xs:=ms) (fun i zzs H5=>∃(bl:Addr)(bs:List V)(v4 v5 v6:Option V),Same H H5/\H5 pl=some (.lst ms)/\aP K H5 ms (ps.map au)/\H5 bl=some (.lst bs)/\gJ (lU K H) H5 bs (layAt (pP zs w ps) ps i)/\zzs=[zzR x,some v,zzR pl,zzR bl,v4,v5,v6])
    ⟨bl,bs,none,none,none,s4,em4,Dm4,eb4,rb4,rfl⟩ (fun i zzs H5 _ hh=>by obtain⟨_,_,_,_,_,_,e,_⟩:=hh;exact SqL.of e) (fun i u zzs H5 hi hh=>?_) (fun zzs H5 hh=>?_)
   ·obtain⟨bl,bs,v4,v5,v6,s5,em5,Dm5,eb5,rb5,rfl⟩:=hh;obtain⟨dm,edm,du⟩:=Dm5.get hi;rw[cV] at edm;obtain⟨m,emq,rfl⟩:=iQ.mp edm;have him:i<ps.length:=(jw.mp emq).1;have eD:ps.getD i (0,0)=m:=by rw[fX,emq];rfl
    have mps:m∈ps:=fV emq;have lb:bs.length<=2048:=by
     rw[rb5.length];exact cP (vR _ _ _) (Vy (by decide) (show i<=11 by lia))
    have lay:(layAt (pP zs w ps) ps i).length<=2048:=by rw[<- rb5.length];exact lb
    refine aF (fun zzs H6=>∃ aq:Addr,Same H5 H6/\Ls K H6 aq ((aM zs w m).map (Ij zs w m))/\zzs=[zzR x,some v,zzR pl,zzR bl,some u,zzR aq,v6]) (fun R' hR'=>?_) ?_
    ·exact⟨_,rfl,_,rfl,x,_,zs,w,m,rfl,vt.mono s5,du,(pt.cl m mps).2,fun aq H6 f6=>hR' _ _ ⟨aq,f6.same,f6.ls,rfl⟩⟩
    rintro zzs H6 ⟨aq,s6,la,rfl⟩;refine aF (fun zzs H7=>∃(bb:Addr)(ws:List V),Same H6 H7/\H7 bb=some (.lst ws)/\gJ (lU K H) H7 ws (layAt (pP zs w ps) ps i++(layAt (pP zs w ps) ps i).map (·++[m]))/\zzs=[zzR x,some v,zzR pl,zzR bl,some u,zzR aq,zzR bb]) (fun R' hR'=>?_) ?_
    ·refine⟨_,rfl,_,rfl,bl,rfl,⟨_,SqL.of (s6 _ _ eb5)⟩,?_⟩;refine CZ (lU.stays) (lU.stays (K:=K) (H0:=H)) (bM (SqL.of (s6 _ _ eb5))) (rb5.mono lU.stays s6) (small (by lia)) (fun l=>l++[m]) (fun l hl y H7 s7 ry G hG=>?_) (fun ys H7 s7 D7 n hn=>?_)
     ·obtain⟨a,rfl,na,la'⟩:=ry;have ll:=qX _ l hl;refine⟨_,rfl,_,rfl,?_⟩;dsimp only[sZ];refine⟨sz rfl,fun p1 n1=>?_⟩;have t1:=Same.put (o:=.lst [u]) n1;refine zU (K:=K) (la'.mono t1) (show Ls K (upd H7 p1 (.lst [u])) p1 ([m].map au) from⟨[u],aD,.cons (du.mono ((s6.trans s7).trans t1)) .nil⟩) (by rw[aV,aV,pC];lia) fun r H8 fr=>?_
      refine hG _ _ (t1.trans fr.same) ⟨r,rfl,(s5.trans ((s6.trans s7).trans t1)).free fr.new,?_⟩;rw[eG];exact fr.ls
     ·have t1:=Same.put (o:=.lst ys) hn;refine⟨bs,ys,t1 _ _ (s7 _ _ (s6 _ _ eb5)),aD,small (by have:=D7.length;rw[aV] at this;lia),fun bb nbb=>?_⟩;have t2:=t1.and (o:=.lst (bs++ys)) nbb;exact hR' _ _ ⟨bb,_,s7.trans t2,aD,(rb5.mono lU.stays (s6.trans (s7.trans t2))).append (D7.mono lU.stays t2),rfl⟩
    rintro zzs H7 ⟨bb,ws,s7,eb7,rb7,rfl⟩;have lw:(layAt (pP zs w ps) ps i++(layAt (pP zs w ps) ps i).map (·++[m])).length<=4096:=by rw[cM,aV];lia
    refine⟨_,rfl,bb,rfl,⟨_,SqL.of eb7⟩,?_⟩;refine zj (lU.stays) (lU.stays (K:=K) (H0:=H)) (bM (SqL.of eb7)) rb7 (small (by lia)) (fun l=>oH zs w m (aM zs w m) l) id (fun l hl y H8 s8 ry G hG=>?_) (fun l hl _ y H8 s8 ry G hG=>⟨_,rfl,hG _ _ (Same.refl _) ry⟩) (fun ys H8 s8 D8 n hn=>?_)
    ·refine⟨_,rfl,_,rfl,y,aq,zs,w,m,aM zs w m,l,rfl,ry.den,la.mono (s7.trans s8),fun H9 s9=>⟨_,rfl,hG _ s9⟩⟩
    ·have t1:=Same.put (o:=.lst ys) hn;have sA:=(s6.trans s7).trans (s8.trans t1);refine⟨n,ys,_,_,_,s5.trans sA,sA _ _ em5,Dm5.mono sA,aD,?_,rfl⟩;have e:layAt (pP zs w ps) ps (i+1)=((layAt (pP zs w ps) ps i++(layAt (pP zs w ps) ps i).map (·++[m])).filter (fun l=>oH zs w m (aM zs w m) l)).map id:=by
      rw[List.map_id];show(layAt (pP zs w ps) ps i++(layAt (pP zs w ps) ps i).map (·++[ps.getD i (0,0)])).filter (pP zs w ps i)=_;unfold pP oH;rw[eD]
     rw[e];exact D8.mono lU.stays t1
   ·obtain⟨bl,bs,v4,v5,v6,s5,em5,Dm5,eb5,rb5,rfl⟩:=hh;rw[lms] at rb5;exact hR _ _ ⟨bl,bs,v4,v5,v6,s5,eb5,rb5,rfl⟩
  rintro zzs H5 ⟨bl,bs,v4,v5,v6,s5,eb5,rb5,rfl⟩;have nd:=xq (p:=pP zs w ps) pt.nd _ (bK ps.length);refine⟨_,rfl,bl,bs,layAt (pP zs w ps) ps ps.length,rfl,SqL.of eb5,rb5.Zx fun a v h=>h.den,fun q o nq po as=>?_⟩;have lo:∀ i∈o,i<bs.length:=fun i hi=>cJ.mp (po.mem_iff.mp hi)
  have ro:=gJ.by (d0:=[]) o rb5 lo;have pd:(o.map fun i=>(layAt (pP zs w ps) ps ps.length).getD i []).Perm (layAt (pP zs w ps) ps ps.length):=ux (by rw[<- rb5.length];exact po);rw[pt.lays pd as] at ro;have ndl:(eF zs w ps).Nodup:=kZ.nodup_iff.mpr nd;obtain⟨qs,eqs⟩:∃ qs:List Addr,(o.map fun i=>bs.getD i .non)=qs.map V.ref:=DR ro;rw[eqs] at ro ⊢;exact hq' q qs _ (s5.free nq) (s5.and nq) (a2h ro ndl nq)
end
end My
namespace My
open PySem L2
end My
namespace My
open PySem L2
def uh(zs:List Str)(w:Nat)(c:Cell):Bool:=!aK zs w c&&decide ((aB zs w c).length=0)
def yW(zs:List Str)(w:Nat)(c:Cell):Bool:=uh zs w c&&decide (0<fY zs c)
def j5(zs:List Str)(w:Nat):List (List Cell):=if(bH zs.length w).any (yW zs w)=true then [] else [[]]
def chD(p:List Cell×List (List Cell)):Dt:=.tup [vZ p.1,.lst (p.2.map vZ)]
noncomputable def chL(zs:List Str)(w:Nat):List (List Cell×List (List Cell)):=([],j5 zs w)::((aY zs w).map (fun p=>(p,eF zs w p))++(jM zs w).map fun c=>([c],[[],[c]]))
def Ut(K:ao)(C:Addr):Sp:=fun vs H Q _=>∃(x:Addr)(v:V)(zs:List Str)(w:Nat)(c:Cell),vs=[.ref x,v]/\dB C H x zs w/\Den K H v (au c)/\inF zs.length w c/\∀ H',Same H H'->Q (.bl (uh zs w c)) H'
def Ot(K:ao)(C:Addr):Sp:=fun vs H Q _=>∃(x:Addr)(zs:List Str)(w:Nat),vs=[.ref x]/\dB C H x zs w/\∀ q H',Same H H'->Ls K H' q ((j5 zs w).map vZ)->Q (.ref q) H'
def DX(K:ao)(C TG:Addr):Sp:=fun vs H Q E=>∃(x:Addr)(zs:List Str)(w:Nat),vs=[.ref x]/\dB C H x zs w /\
 ((∃ p∈aY zs w,12<p.length)->∀ H',Same H H'->E (.ref TG) none H')/\((∀ p∈aY zs w,p.length<=12)->∀ q H',Fr K H H' q ((chL zs w).map chD)->Q (.ref q) H')
section
variable{P:Program}{w:World}{K:ao}{mg:Str->Option Value}{base:Heap}{Z:Adr}
theorem Xb{f:Addr}{fd:FuncData} (F:Fun K "is_lone" "is_lone" wj f fd) (T:Txt K mg Z) (bB:Df P w K mg base 2 "is_closed" ["view","cell"] (gW K Z.View)) (cX:Df P w K mg base 3 "closed_near" ["view","cell"] (oZ K Z.View aB)) :
  cC P w K mg base (CXE P w) 4 f fd ["view","cell"] (Ut K Z.View):=by
 refine F.rok Lk (fun vs H Q E h=>?_) (fun cdv A outer s H vs Q E hr h=>?_)
 ·obtain⟨x,v,zs,w,c,rfl,_⟩:=h;rfl
 ·obtain⟨x,v,zs,w,c,rfl,vt,dv,hin,hq⟩:=h;have hu:=jV hr;refine⟨_,(aC (aR (Jj (a2v (aO bB hr rfl aQ (aj (rv 0) (aj (rv 1) ak)))) (Jk (zP (nG.or (nD (K:=K) hu)) (aU (dH (K:=K)) rfl T.dj cu (aj (aO cX hr rfl aQ (aj (rv 0) (aj (rv 1) ak))) ak)) aH (bW _)))))),?_⟩;refine⟨_,rfl,_,rfl,x,v,zs,w,c,rfl,vt,dv,_,rfl,_,rfl,?_⟩;refine dG (fun h1=>?_) (fun h1=>?_)
  ·refine⟨_,rfl,_,rfl,x,v,zs,w,c,rfl,vt,dv,hin,fun q H' fr=>?_⟩;dsimp only[sZ];refine zV fr.ls.den ?_;refine Or.inl ⟨rfl,?_⟩;rw[wZ,aV];have e:decide ((((aB zs w c).length:Nat):Int)=0)=uh zs w c:=by
    unfold uh;rw[h1,uU,tD];lia
   rw[e];exact hq _ fr.same
  ·have e:false=uh zs w c:=by unfold uh;rw[h1];rfl
   rw[e];exact hq _ (Same.refl _)
theorem T5{f:Addr}{fd:FuncData} (F:Fun K "lone_layings" "lone_layings" lF f fd) (T:Txt K mg Z) (jT:Df P w K mg base 1 "cells" ["view"] (oY K Z.View)) (uY:Df P w K mg base 4 "is_lone" ["view","cell"] (Ut K Z.View)) (iV:Df P w K mg base 1 "figure" ["view","cell"] (uK K Z.View)) :
  cC P w K mg base (CXE P w) 5 f fd ["view"] (Ot K Z.View):=by
 refine F.rok pA (fun vs H Q E h=>?_) (fun cdv A outer s H vs Q E hr h=>?_)
 ·obtain⟨x,zs,w,rfl,_⟩:=h;rfl
 ·obtain⟨x,zs,w,rfl,vt,hq⟩:=h;refine⟨_,(aA (cL eO rfl (bx (K:=K) (aO jT hr rfl aQ (aj (rv 0) ak))) (bC (i:=1) pA.nd rfl (Or.inl rfl)) (aC (dR (yh (sJ (j7 (aO uY hr rfl aQ (aj (rv 0) (aj (rv 1) ak)))) (oO (bA Jg (aO iV hr rfl aQ (aj (rv 0) (aj (rv 1) ak))) aH (bW _))))) (aC (aR (dO ak))) bN))) (aC (aR (dO (aj (dO ak) ak))))),?_⟩;refine aF (fun zzs H1=>Same H H1/\j5 zs w=[[]]) (fun R hR=>?_) ?_
  ·refine⟨_,rfl,x,zs,w,rfl,vt,fun q H1 f1=>?_⟩;obtain⟨us,eu,Du⟩:=f1.ls;have lu:us.length=(bH zs.length w).length:=by rw[Du.length,aV]
   refine⟨q,rfl,⟨_,SqL.of eu⟩,?_⟩;refine eE (K:=K) (xs:=us) (fun i zzs H2=>∃ v1:Option V,Same H1 H2/\(∀ c∈(bH zs.length w).take i,yW zs w c=false)/\zzs=[zzR x,v1])
    ⟨none,Same.refl _,(fun c hc=>by cases hc),rfl⟩ (fun i zzs H2 _ hh=>by obtain⟨_,g,_⟩:=hh;exact SqL.of (g _ _ eu)) (fun i u zzs H2 hi hh=>?_) (fun zzs H2 hh=>?_)
   ·obtain⟨v1,g1,g2,rfl⟩:=hh;obtain⟨d,ed,du⟩:=Du.get hi;rw[cV] at ed;obtain⟨c,ec,rfl⟩:=iQ.mp ed;have cf:=fV ec;have hin:=bL.mp cf;have sA:=f1.same.trans g1;have nxt:∀ H3,Same H2 H3->yW zs w c=false->∃ v1:Option V,Same H1 H3/\(∀ c∈(bH zs.length w).take (i+1),yW zs w c=false)/\[some (V.ref x),some u]=[zzR x,v1]:=fun H3 s3 hb=>⟨_,g1.trans s3,fun y hy=>by
     rw[jP,ec] at hy;rcases cI.mp hy with z|z
     ·exact g2 y z
     ·rw[dM.mp z];exact hb,rfl⟩
    refine⟨_,rfl,_,rfl,x,u,zs,w,c,rfl,vt.mono sA,du.mono g1,hin,fun H3 s3=>⟨_,rfl,?_⟩⟩;refine dG (fun h1=>?_) (fun h1=>?_)
    ·have ho:aK zs w c=false:=by
      unfold uh at h1;rw[mF,pF] at h1;exact h1.1
     refine⟨_,rfl,_,rfl,x,u,zs,w,c,rfl,vt.mono (sA.trans s3),du.mono (g1.trans s3),hin,ho,?_⟩;refine⟨_,_,rfl,rfl,_,rfl,?_⟩;have e:yW zs w c=decide (0<fY zs c):=by unfold yW;rw[h1];rfl
     refine dG (fun h2=>?_) (fun h2=>nxt H3 s3 (by rw[e];exact h2));refine⟨by decide,fun q3 n3=>hq _ _ ((sA.trans s3).and n3) ?_⟩;have:j5 zs w=[]:=aL (Hf.mpr ⟨c,cf,by rw[e];exact h2⟩);rw[this];exact Ls.new n3 .nil
    ·exact nxt H3 s3 (by unfold yW;rw[h1];rfl)
   ·obtain⟨v1,g1,g2,rfl⟩:=hh;rw[lu,jO] at g2;refine hR _ _ ⟨f1.same.trans g1,aJ fun z=>?_⟩;obtain⟨c,hc,hb⟩:=Hf.mp z;rw[g2 c hc] at hb;cases hb
  rintro zzs H1 ⟨s1,e1⟩;refine⟨by decide,fun q1 n1=>⟨sz rfl,fun q2 n2=>?_⟩⟩;have t1:=Same.put (o:=.lst []) n1;refine hq _ _ (s1.trans (t1.and n2)) ?_;rw[e1];exact Ls.new n2 (.cons (Ls.new n1 .nil).den .nil)
theorem DQ{H0 H:Hp}{q:Addr}:∀ {qs:List Addr} {ps:List (List Cell)},qs.length=ps.length->(∀(i:Nat)(a:Addr)(p:List Cell),qs[i]?=some a->ps[i]?=some p->Ls K H a (p.map au))->aP K H (qs.map V.ref) (ps.map vZ)
 |[],[],_,_=>.nil
 |a::qs,p::ps,hl,h=>.cons (h 0 a p rfl rfl).den (DQ (H0:=H0) (q:=q) (Nat.succ.inj hl) fun i b c h1 h2=>h (i+1) b c h1 h2)
theorem TQ{H0 H H':Hp}{q d:Addr}{qs:List Addr}{ps:List (List Cell)}{us:List V}{o:HO}(p:pQ K H0 H q qs ps)(s:SameBut d H H')(e:H d=some (.lst us))(e0:H0 d=some o)(n:q≠d):pQ K H0 H' q qs ps:=
 ⟨s _ _ p.at_ n,p.len,fun i a c h1 h2=>s.ls e (fun z=>by have:=p.new a (fV h1);rw[z,e0] at this;cases this) (p.ls i a c h1 h2),p.new,p.nd,p.nq⟩
theorem vX{zs:List Str}{w:Nat}:∀(cs:List Cell)(ps:List (List Cell)),(gM zs w cs ps).length<=ps.length+cs.length
 |[],ps=>by unfold gM;exact bK _
 |c::cs,ps=>by
  unfold gM;by_cases h:∃ p∈ps,c∈p
  ·rw[aL h];have:=vX (zs:=zs) (w:=w) cs ps;rw[gP];lia
  ·rw[aJ h];have:=vX (zs:=zs) (w:=w) cs (ps++[cD zs w c]);rw[cM,pC] at this;rw[gP];lia
theorem DP{zs:List Str}{w:Nat}(v:Vw zs w):(aY zs w).length<=36:=by
 have h1:=vX (zs:=zs) (w:=w) (bO zs w) [];have h2:(bO zs w).length<=36:=cP (iw _ _) (dN v);unfold aY;rw[Bl] at h1;lia
theorem Er{H H2:Hp}{q:Addr}{us:List V}{ds:List Dt}{v:V}{d:Dt}(D:aP K (del q H) us ds)(s:Same H H2)(dv:Den K (del q H2) v d):aP K (del q (upd H2 q (.lst (us++[v])))) (us++[v]) (ds++[d]):=by
 have sb:SameBut q H2 (upd H2 q (.lst (us++[v]))):=(SameBut.refl q _).put;exact(D.mono ((s.but q).trans sb).del).append (.cons (dv.mono sb.del) .nil)
theorem KC{f:Addr}{fd:FuncData} (F:Fun K "choices" "choices" w5 f fd) (T:Txt K mg Z) (Em:Df P w K mg base 5 "parts" ["view"] (Ou K Z.View)) (vf:Df P w K mg base 5 "layings" ["view","cell"] (Eb K Z.View Z.NoCell Z.TooGreat)) (Rc:Df P w K mg base 4 "far" ["view"] (qD K Z.View jM)) (kE:Df P w K mg base 5 "lone_layings" ["view"] (Ot K Z.View)) :
  cC P w K mg base (CXE P w) 6 f fd ["view"] (DX K Z.View Z.TooGreat):=by
 refine F.Js oX (fun vs H Q E h=>?_) (fun cdv A outer s H vs Q E hr h=>?_)
 ·obtain⟨x,zs,w,rfl,_⟩:=h;rfl
 ·obtain⟨x,zs,w,rfl,vt,he,hq⟩:=h;refine⟨_,(aA (RS.nox (aZ (i:=1) oX.nd rfl (Or.inl rfl) (dO (aj (fu (aj (dO ak) (aj (aO kE hr rfl aQ (aj (rv 0) ak)) ak))) ak)))) (aA (cL PassesOwn.leaving rfl (bx (K:=K) (aO Em hr rfl aQ (aj (rv 0) ak))) (bC (i:=2) oX.nd rfl (Or.inl rfl)) (aC (gO (lX (K:=K) lN nO nP dX (rv 1) (aj (fu (aj (rv 2) (aj (aO vf hr rfl yD (aj (rv 0) (aj (cH (cG (K:=K)) (rv 2) aH) ak))) ak))) ak))))) (aA (RS.nox (cL eO rfl (bx (K:=K) (aO Rc hr rfl aQ (aj (rv 0) ak))) (bC (i:=3) oX.nd rfl (Or.inl rfl)) (aC (gO (lX (K:=K) lN nO nP dX (rv 1) (aj (fu (aj (dO (aj (rv 3) ak)) (aj (dO (aj (dO ak) (aj (dO (aj (rv 3) ak)) ak))) ak))) ak)))))) (aC (RS.nox (aR (rv 1))))))),?_⟩;have h6:=vt.vw.le;have w6:=vt.vw.w6;obtain⟨pok,_⟩:=iM (zs:=zs) (w:=w) h6 w6;refine aF (fun zzs H1=>∃(q:Addr)(us:List V),H q=none/\Same H H1/\H1 q=some (.lst us)/\aP K (del q H1) us [chD ([],j5 zs w)]/\zzs=[zzR x,zzR q,zzN,zzN]) (fun R hR=>?_) ?_
  ·refine⟨by decide,fun q1 n1=>?_⟩;have t1:=Same.put (o:=.lst []) n1;refine⟨_,rfl,x,zs,w,rfl,vt.mono t1,fun ql H1 s1 ll=>⟨sz rfl,fun t nt=>⟨sz rfl,fun q nq=>?_⟩⟩⟩;have t2:=Same.put (o:=.tup [V.ref q1,V.ref ql]) nt;refine hR _ _ ⟨q,_,(t1.trans (s1.trans t2)).free nq,(t1.trans (s1.trans t2)).and nq,aD,?_,rfl⟩;have sd:Same (upd H1 t (.tup [V.ref q1,V.ref ql])) (del q (upd (upd H1 t (.tup [V.ref q1,V.ref ql])) q (.lst [.ref t]))):=fun b o eb=>by
    have nb:b≠q:=fun z=>by rw[z,nq] at eb;cases eb
    rw[kJ nb,bF nb];exact eb
   refine .cons (Den.mono sd ?_) .nil;exact Den.tup aD (.cons (((Ls.new n1 .nil:Ls K _ q1 []).mono (s1.trans t2)).den) (.cons (ll.mono t2).den .nil))
  rintro zzs H1 ⟨q,us,nq,s1,eq1,D1,rfl⟩;refine aF (fun zzs H2=>∃(us:List V)(v2:Option V),Same H H2/\H2 q=some (.lst us)/\aP K (del q H2) us (([],j5 zs w)::(aY zs w).map (fun p=>(p,eF zs w p)) |>.map chD)/\(∀ p∈aY zs w,p.length<=12)/\(aY zs w).length<=36/\zzs=[zzR x,zzR q,v2,zzN]) (fun R hR=>?_) ?_
  ·refine⟨_,rfl,x,zs,w,rfl,vt.mono s1,fun pl qs H2 npl s2 ps=>⟨pl,rfl,⟨_,SqL.of ps.at_⟩,?_⟩⟩;have npq:pl≠q:=(bV eq1 npl).symm;have lpp:=DP vt.vw;refine eE (K:=K) (xs:=qs.map V.ref) (fun i zzs H3=>∃(us:List V)(v2:Option V),Same H H3/\pQ K H1 H3 pl qs (aY zs w)/\H3 q=some (.lst us)/\aP K (del q H3) us (([],j5 zs w)::((aY zs w).take i).map (fun p=>(p,eF zs w p)) |>.map chD)/\(∀ p∈(aY zs w).take i,p.length<=12)/\zzs=[zzR x,zzR q,v2,zzN])
    ⟨us,none,s1.trans s2,ps,s2 _ _ eq1,D1.mono (s2.but q).del,(fun p hp=>by cases hp),rfl⟩ (fun i zzs H3 _ hh=>by obtain⟨_,_,_,p3,_⟩:=hh;exact SqL.of p3.at_) (fun i u zzs H3 hi hh=>?_) (fun zzs H3 hh=>?_)
   ·obtain⟨us,v2,sh,ps3,eq3,D3,W4,rfl⟩:=hh;rw[cV] at hi;obtain⟨a,ea,rfl⟩:=iQ.mp hi;have iq:i<qs.length:=(jw.mp ea).1;have ip:i<(aY zs w).length:=by rw[<- ps.len];exact iq
    have ep:(aY zs w)[i]?=some (aY zs w)[i]:=dU ip;generalize (aY zs w)[i]=p at ep;have la:=ps3.ls i a p ea ep;have pm:p∈aY zs w:=fV ep;obtain⟨y,hy,ey⟩:=pok.of p pm;have pp:Part zs w p:=by rw[ey];exact Part.join h6 w6 hy
    obtain⟨c0,p',rfl⟩:∃ c0 p',p=c0::p':=by
     cases p with
     |nil=>exact absurd rfl pp.ne
     |cons c0 p'=>exact⟨c0,p',rfl⟩
    have c0m:c0∈cD zs w y:=by rw[<- ey];exact dJ
    have ej:cD zs w c0=c0::p':=by rw[kO h6 w6 hy c0m,<- ey]
    have c0e:c0∈bO zs w:=iU.edge hy ((dw (j6 hy)).mp c0m);obtain⟨xs,ex,Dx⟩:=id la;obtain⟨u0,xs',rfl⟩:∃ u0 xs',xs=u0::xs':=by cases Dx;exact⟨_,_,rfl⟩
    have d0:Den K H3 u0 (au c0):=by cases Dx with|cons h _=>exact h
    have lus:us.length<=37:=by rw[D3.length,aV,gP,aV,lQ];lia
    refine⟨_,rfl,.inl ⟨rfl,_,SqL.of eq3⟩,?_⟩;refine⟨_,rfl,_,rfl,_,rfl,.inl ⟨a,_,_,_,rfl,rfl,SqL.of ex,cZ,?_⟩⟩;refine⟨x,u0,zs,w,c0,rfl,vt.mono sh,d0,fun hc=>absurd c0e hc,fun _ hl H' s'=>he ⟨c0::p',pm,by rw[<- ej];exact hl⟩ _ (sh.trans s'),fun _ hl ql qls H4 nql s4 psl=>?_⟩;rw[ej] at hl psl;have eq4:=s4 _ _ eq3;refine⟨sz rfl,fun t nt=>?_⟩;have s5:=Same.put (o:=.tup [V.ref a,V.ref ql]) nt;dsimp only[sZ];refine jY (K:=K) (s5 _ _ eq4) (by lia) ?_;have sH:=s4.trans s5;have sb:SameBut q (upd H4 t (.tup [V.ref a,V.ref ql])) (upd (upd H4 t (.tup [V.ref a,V.ref ql])) q (.lst (us++[.ref t]))):=(SameBut.refl q _).put;have naq:a≠q:=fun z=>by have:=ps3.new a (fV ea);rw[z,eq1] at this;cases this
    have ntq:t≠q:=fun z=>by rw[z,eq4] at nt;cases nt
    have a3m:ql≠q:=fun z=>by rw[z,eq3] at nql;cases nql
    refine⟨us++[.ref t],_,sb.of (sh.trans sH) nq,TQ (ps3.mono sH) sb (s5 _ _ eq4) eq1 npq,aD,?_,fun p hp=>?_,rfl⟩
    ·have et:((aY zs w).take (i+1)).map (fun p=>(p,eF zs w p))=((aY zs w).take i).map (fun p=>(p,eF zs w p))++[(c0::p',eF zs w (c0::p'))]:=by
      rw[jP,ep,eG];rfl
     rw[et,<- List.cons_append,eG];refine Er D3 sH ?_;refine Den.tup (by rw[kJ ntq];exact aD) (.cons (vH (s5 _ _ eq4) naq (la.mono sH)).den (.cons ?_ .nil));refine Den.lst (SqL.of (show del q _ ql=_ by rw[kJ a3m];exact s5 _ _ psl.at_)) (DQ (H0:=H3) (q:=ql) psl.len fun j b r h1 h2=>vH (s5 _ _ eq4) (fun z=>by have:=psl.new b (fV h1);rw[z,eq3] at this;cases this) ((psl.ls j b r h1 h2).mono s5))
    ·rw[jP,ep] at hp;rcases cI.mp hp with z|z
     ·exact W4 p z
     ·rw[dM.mp z];exact hl
   ·obtain⟨us,v2,sh,ps3,eq3,D3,W4,rfl⟩:=hh;rw[aV,ps.len,jO] at D3 W4;exact hR _ _ ⟨us,v2,sh,eq3,D3,W4,lpp,rfl⟩
  rintro zzs H2 ⟨us,v2,s2,eq2,D2,a1w,lp,rfl⟩;refine aF (fun zzs H3=>∃(us:List V)(v2 v3:Option V),Same H H3/\H3 q=some (.lst us)/\aP K (del q H3) us ((chL zs w).map chD)/\zzs=[zzR x,zzR q,v2,v3]) (fun R hR=>?_) ?_
  ·refine⟨_,rfl,x,zs,w,rfl,vt.mono s2,fun fl H3 ff=>?_⟩;obtain⟨fs,ef,Df'⟩:=ff.ls;have lfs:fs.length=(jM zs w).length:=by rw[Df'.length,aV]
   have a3K:(jM zs w).length<=36:=cP (iw _ _) (dN vt.vw);have nfq:fl≠q:=(bV eq2 ff.new).symm;refine⟨fl,rfl,⟨_,SqL.of ef⟩,?_⟩;refine eE (K:=K) (xs:=fs) (fun i zzs H4=>∃(us:List V)(v3:Option V),Same H H4/\H4 fl=some (.lst fs)/\aP K H4 fs ((jM zs w).map au)/\H4 q=some (.lst us)/\aP K (del q H4) us ((([],j5 zs w)::((aY zs w).map (fun p=>(p,eF zs w p))++((jM zs w).take i).map fun c=>([c],[[],[c]]))).map chD)/\zzs=[zzR x,zzR q,v2,v3])
    ⟨us,none,s2.trans ff.same,ef,Df',ff.same _ _ eq2,by rw[N6,Ht,xW];exact D2.mono (ff.same.but q).del,rfl⟩ (fun i zzs H4 _ hh=>by obtain⟨_,_,_,e,_⟩:=hh;exact SqL.of e) (fun i u zzs H4 hi hh=>?_) (fun zzs H4 hh=>?_)
   ·obtain⟨us,v3,sh,ef4,Df4,eq4,D4,rfl⟩:=hh;obtain⟨d,ed,du⟩:=Df4.get hi;rw[cV] at ed;obtain⟨c,ec,rfl⟩:=iQ.mp ed;have lus:us.length<=100:=by rw[D4.length,aV,gP,cM,aV,aV,lQ];lia
    refine⟨_,rfl,.inl ⟨rfl,_,SqL.of eq4⟩,_,rfl,sz rfl,fun q1 n1=>⟨by decide,fun q2 n2=>⟨_,rfl,sz rfl,fun q3 n3=>⟨sz rfl,fun q4 n4=>⟨sz rfl,fun t nt=>?_⟩⟩⟩⟩⟩;have t1:=Same.put (o:=.lst [u]) n1;have t2:=Same.put (o:=.lst []) n2;have t3:=Same.put (o:=.lst [u]) n3;have t4:=Same.put (o:=.lst [V.ref q2,V.ref q3]) n4;have t5:=Same.put (o:=.tup [V.ref q1,V.ref q4]) nt;have s14:=t1.trans (t2.trans (t3.trans t4));have sH:=s14.trans t5;have eqH:=sH _ _ eq4;dsimp only[sZ];refine jY (K:=K) eqH (by lia) ?_;refine⟨_,_,(SameBut.refl q _).put.of (sh.trans sH) nq,(SameBut.refl q _).put _ _ (sH _ _ ef4) nfq,(SameBut.refl q _).put.cells eqH (Df4.mono sH),aD,?_,rfl⟩;have et:(([],j5 zs w)::((aY zs w).map (fun p=>(p,eF zs w p))++((jM zs w).take (i+1)).map fun c=>([c],[[],[c]])))=(([],j5 zs w)::((aY zs w).map (fun p=>(p,eF zs w p))++((jM zs w).take i).map fun c=>([c],[[],[c]])))++[([c],[[],[c]])]:=by
     rw[jP,ec,eG,List.cons_append,xR];rfl
    rw[et,eG];have ne:∀ {b:Addr} {G:Hp},Same H4 G->G b=none->b≠q:=fun g e z=>by rw[z,g _ _ eq4] at e;cases e
    have na:=ne (Same.refl _) n1;have nb:=ne t1 n2;have nc:=ne (t1.trans t2) n3;have nd:=ne (t1.trans (t2.trans t3)) n4;have nt':=ne s14 nt;have l1:Ls K (upd H4 q1 (.lst [u])) q1 ([c].map au):=.new n1 (.cons du .nil);have l2:Ls K (upd (upd H4 q1 (.lst [u])) q2 (.lst [])) q2 (([]:List Cell).map au):=.new n2 .nil;have l3:Ls K (upd (upd (upd H4 q1 (.lst [u])) q2 (.lst [])) q3 (.lst [u])) q3 ([c].map au):=.new n3 (.cons (du.mono (t1.trans t2)) .nil);refine Er D4 sH ?_;refine Den.tup (by rw[kJ nt'];exact aD) (.cons (vH eqH na (l1.mono (t2.trans (t3.trans (t4.trans t5))))).den (.cons ?_ .nil));exact Den.lst (SqL.of (show del q _ q4=_ by rw[kJ nd];exact t5 _ _ aD)) (.cons (vH eqH nb (l2.mono (t3.trans (t4.trans t5)))).den (.cons (vH eqH nc (l3.mono (t4.trans t5))).den .nil))
   ·obtain⟨us,v3,sh,ef4,Df4,eq4,D4,rfl⟩:=hh;rw[lfs,jO] at D4;exact hR _ _ ⟨us,v2,v3,sh,eq4,D4,rfl⟩
  rintro zzs H3 ⟨us,v2,v3,s3,eq3,D3,rfl⟩;exact⟨_,rfl,hq a1w q _ ⟨s3,nq,us,eq3,D3.mono zy⟩⟩
end
end My
namespace My
open PySem L2
def JT(ch:List Cell×List (List Cell)):Prop:=ch.1.length<=36/\(∀ l∈ch.2,l.length<=ch.1.length)/\ch.2.length<=5000
section
variable{P:Program}{w:World}{K:ao}{mg:Str->Option Value}{base:Heap}{Z:Adr}
theorem Ru{H:Hp}{v:V}{ch:List Cell×List (List Cell)}(h:Den K H v (chD ch)):∃(t a b:Addr)(xs ys:List V),v=.ref t/\H t=some (.tup [.ref a,.ref b])/\SqL K H a xs/\aP K H xs (ch.1.map au)/\SqL K H b ys/\aP K H ys (ch.2.map vZ):=by
 unfold chD at h;cases h with
 |tup ht hs=>
  cases hs with
  |cons h1 hs=>
   cases hs with
   |cons h2 hs=>
    cases hs;cases h1 with
    |lst e1 D1=>
     cases h2 with
     |lst e2 D2=>exact⟨_,_,_,_,_,rfl,ht,e1,D1,e2,D2⟩
theorem Zm{zs:List Str}{w:Nat}(v:Vw zs w)(h:∀ p∈aY zs w,p.length<=12):(∀ ch∈chL zs w,JT ch)/\(chL zs w).length<=100:=by
 have h1:=DP v;have h2:(jM zs w).length<=36:=cP (iw _ _) (dN v);constructor
 ·intro ch hc;unfold chL at hc;rcases cO.mp hc with rfl|hc
  ·refine⟨jj _,fun l hl=>?_,?_⟩
   ·unfold j5 at hl;split at hl
    ·cases hl
    ·rw[dM.mp hl];exact bK _
   ·show(j5 zs w).length<=5000;unfold j5;split
    ·exact jj _
    ·show 1<=5000;decide
  rcases cI.mp hc with hc|hc
  ·obtain⟨p,hp,rfl⟩:=cT.mp hc;have:=h p hp;exact⟨by show p.length<=36;lia,fun l hl=>Qm hl,cP (Ql this) (by decide)⟩
  ·obtain⟨c,_,rfl⟩:=cT.mp hc;refine⟨by show 1<=36;decide,fun l hl=>?_,by show 2<=5000;decide⟩;rcases cO.mp hl with rfl|hl
   ·exact jj _
   ·rw[dM.mp hl];exact bK _
 ·unfold chL;rw[gP,cM,aV,aV];lia
end
end My
namespace My
open PySem L2
end My
namespace My
open PySem L2
end My
namespace My
open PySem L2
section
variable{zs:List Str}{w:Nat}
theorem Ti(h6:zs.length<=6)(w6:w<=6):(aY zs w).flatten.Nodup:=by
 obtain⟨ok,_⟩:=iM (zs:=zs) (w:=w) h6 w6;unfold List.Nodup;rw[Vt];refine⟨fun p hp=>?_,ok.dis.imp fun h x hx y hy e=>h x hx (by rw[e];exact hy)⟩;obtain⟨x,hx,rfl⟩:=ok.of p hp;exact(Part.join h6 w6 hx).nd
theorem La(h6:zs.length<=6)(w6:w<=6):(aY zs w).flatten.Perm (bO zs w):=by
 obtain⟨ok,cov⟩:=iM (zs:=zs) (w:=w) h6 w6;refine(Vf (Ti h6 w6) (j9 (QH h6 w6))).mpr fun y=>?_
 rw[List.mem_flatten];constructor
 ·rintro⟨p,hp,hy⟩;obtain⟨x,hx,rfl⟩:=ok.of p hp;exact iU.edge hx ((dw (j6 hx)).mp hy)
 ·intro hy;obtain⟨p,hp,h⟩:=cov y hy;exact⟨p,hp,h⟩
theorem wY(h6:zs.length<=6)(w6:w<=6):((aY zs w).flatten++jM zs w).Perm (cA zs w):=by
 refine((La h6 w6).append_right _).trans ?_;unfold bO jM;have e:(cA zs w).filter (fun x=>decide ((aM zs w x).length=0))=(cA zs w).filter (fun x=>!decide (0<(aM zs w x).length)):=GK fun x _=>by
  rw[tG,iC,pF,decide_eq_false_iff_not];lia
 rw[e];exact List.filter_append_perm _ _
theorem JK{α:Type}:∀ ls:List (List α),(ls.map fun l=>l.length).sum=ls.flatten.length
 |[]=>rfl
 |l::ls=>by rw[fH,Hr,wL,cM,JK ls]
theorem Zo(h6:zs.length<=6)(w6:w<=6):((chL zs w).map fun ch=>ch.1.length).sum=(cA zs w).length:=by
 unfold chL;rw[fH,Hr,eG,List.sum_append,mH,mH];have e1:(aY zs w).map ((fun ch:List Cell×List (List Cell)=>ch.1.length) ∘ fun p=>(p,eF zs w p))=(aY zs w).map fun p=>p.length:=rfl
 have e2:∀ l:List Cell,(l.map ((fun ch:List Cell×List (List Cell)=>ch.1.length) ∘ fun c=>([c],[[],[c]]))).sum=l.length:=fun l=>by
  induction l with
  |nil=>rfl
  |cons a l ih=>rw[fH,Hr,ih,gP];show 1+_=_;lia
 rw[e1,JK,e2,<- (wY h6 w6).length_eq,cM];show 0+_=_;lia
end
end My
namespace My
open PySem L2
def setC(c:Cell)(b:Bool)(ch:List Cell×List (List Cell)):List Cell×List (List Cell):=if c∈ch.1 then(ch.1,ch.2.filter fun l=>decide (decide (c∈l)=b)) else ch
theorem Yp{c:Cell}{b:Bool}{ch:List Cell×List (List Cell)}(h:JT ch):JT (setC c b ch):=by
 unfold setC;by_cases hc:c∈ch.1
 ·rw[aL hc];exact⟨h.1,fun l hl=>h.2.1 l (cg.mp hl).1,cP (iw _ _) h.2.2⟩
 ·rw[aJ hc];exact h
theorem Yr{c:Cell}{b:Bool}{chs:List (List Cell×List (List Cell))}:((chs.map (setC c b)).map fun ch=>ch.1.length)=chs.map fun ch=>ch.1.length:=by
 rw[mH];refine Ax fun d _=>?_
 show(setC c b d).1.length=_;unfold setC;split<;>rfl
def Ec(K:ao):Sp:=fun vs H Q _=>∃(p:Addr)(v:V)(b:Bool)(c:Cell)(chs:List (List Cell×List (List Cell))),vs=[.ref p,v,.bl b]/\Ls K H p (chs.map chD)/\Den K H v (au c)/\(∀ ch∈chs,JT ch)/\chs.length<=100/\∀ q H',Fr K H H' q ((chs.map (setC c b)).map chD)->Q (.ref q) H'
section
variable{P:Program}{w:World}{K:ao}{mg:Str->Option Value}{base:Heap}{Z:Adr}
theorem Og{K:ao}{H G:Hp}{α:Type}{enc:α->Dt}:∀ {vs:List V} {xs:List α},aP K H vs (xs.map enc)->gJ (fun a v _=>Den K H v (enc a)) G vs xs
 |[],[],_=>.nil
 |_::_,_::_,.cons h t=>.cons h (Og t)
theorem KN{f:Addr}{fd:FuncData} (F:Fun K "settled" "settled" wA f fd) (T:Txt K mg Z):cC P w K mg base (CXE P w) 1 f fd ["found","cell","stone"] (Ec K):=by
 refine F.rok sX (fun vs H Q E h=>?_) (fun cdv A outer s H vs Q E hr h=>?_)
 ·obtain⟨p,v,b,c,chs,rfl,_⟩:=h;rfl
 ·obtain⟨p,v,b,c,chs,rfl,hp,dv,hok,h100,hq⟩:=h;have hu:=jV hr;have hu':=xZ hr;refine⟨_,(aA (aZ (i:=3) sX.nd rfl (Or.inl rfl) (dO ak)) (aA (cL eO rfl (bx (K:=K) (rv 0)) (bC (i:=4) sX.nd rfl (Or.inl rfl)) (aC (dR (bA (eX.or (pq (K:=K) hu')) (rv 1) (cH (cG (K:=K)) (rv 4) aH) (by rfl)) (aC (gO (lX (K:=K) lN nO nP dX (rv 3) (aj (fu (aj (cH (cG (K:=K)) (rv 4) aH) (aj (gK (by rfl) rfl (bx (K:=K) (cH (cG (K:=K)) (rv 4) aH)) (fun _ _ _=>(fB (bA (nG.or (nD (K:=K) hu)) (zP (eX.or (pq (K:=K) hu')) (rv 2) (rv 0) (by rfl)) (rv 3) (bW _)))) (fun _ _ _=>(rv 0))) ak))) ak)))) (aC (gO (lX (K:=K) lN nO nP dX (rv 3) (aj (rv 4) ak))))))) (aC (aR (rv 3))))),?_⟩;refine aF (fun zzs H1=>∃ q:Addr,H q=none/\Same H H1/\H1 q=some (.lst [])/\zzs=[zzR p,some v,some (.bl b),zzR q,zzN]) (fun R hR=>?_) ?_
  ·exact⟨by decide,fun q nq=>hR _ _ ⟨q,nq,Same.put nq,aD,rfl⟩⟩
  rintro zzs H1 ⟨q,nq,s1,eq1,rfl⟩;obtain⟨os,eo,Do⟩:=hp;have los:os.length=chs.length:=by rw[Do.length,aV]
  refine aF (fun zzs H2=>∃(us:List V)(v4:Option V),Same H H2/\H2 q=some (.lst us)/\aP K (del q H2) us ((chs.map (setC c b)).map chD)/\zzs=[zzR p,some v,some (.bl b),zzR q,v4]) (fun R hR=>?_) ?_
  ·refine⟨_,rfl,p,rfl,⟨_,SqL.of (s1 _ _ eo)⟩,?_⟩;refine eE (K:=K) (xs:=os) (fun i zzs H2=>∃(us:List V)(v4:Option V),Same H H2/\H2 q=some (.lst us)/\aP K (del q H2) us (((chs.take i).map (setC c b)).map chD)/\zzs=[zzR p,some v,some (.bl b),zzR q,v4])
    ⟨[],none,s1,eq1,.nil,rfl⟩ (fun i zzs H2 _ hh=>by obtain⟨_,_,g,_⟩:=hh;exact SqL.of (g _ _ eo)) (fun i u zzs H2 hi hh=>?_) (fun zzs H2 hh=>?_)
   ·obtain⟨us,v4,g1,g2,D2,rfl⟩:=hh;obtain⟨d,ed,du⟩:=Do.get hi;rw[cV] at ed;obtain⟨ch,ec,rfl⟩:=iQ.mp ed;have cm:=fV ec;obtain⟨h36,hrow,h5k⟩:=hok ch cm;obtain⟨t,a,e,xs,ys,rfl,ht,ha,Da,he,De⟩:=Ru du;have lus:us.length<=100:=by
     have:us.length=(chs.take i).length:=by rw[D2.length,aV,aV]
     rw[this,lQ];lia
    have tk:chs.take (i+1)=chs.take i++[ch]:=by rw[jP,ec];rfl
    have fin:∀(z:V)(H3:Hp),Same H2 H3->Den K (del q H3) z (chD (setC c b ch))->∃(us':List V)(v4:Option V),Same H (upd H3 q (.lst (us++[z])))/\(upd H3 q (.lst (us++[z]))) q=some (.lst us')/\aP K (del q (upd H3 q (.lst (us++[z])))) us' (((chs.take (i+1)).map (setC c b)).map chD)/\([zzR p,some v,some (.bl b),zzR q,zzR t]:L2.St)=[zzR p,some v,some (.bl b),zzR q,v4]:=fun z H3 s3 dz=>by
     refine⟨us++[z],_,(SameBut.refl q _).put.of (g1.trans s3) nq,aD,?_,rfl⟩;rw[tk,eG,eG];exact Er D2 s3 dz
    have sd:∀ {G:Hp},Same H G->Same H (del q G):=fun g=>g.into nq
    refine⟨_,rfl,_,rfl,.inr (.inl ⟨t,_,_,_,rfl,rfl,SqT.of (g1 _ _ ht),cZ,.inr (rN (dv.mono g1) (Den.mono g1 (.lst ha Da)) ⟨_,rfl,?_⟩)⟩)⟩;refine dG (fun h1=>?_) (fun h1=>?_)
    ·have hc:=cN h1;have es:setC c b ch=(ch.1,ch.2.filter fun l=>decide (decide (c∈l)=b)):=aL hc;refine⟨_,rfl,.inl ⟨rfl,_,SqL.of g2⟩,_,rfl,.inr (.inl ⟨t,_,_,_,rfl,rfl,SqT.of (g1 _ _ ht),cZ,?_⟩)⟩;refine⟨_,rfl,.inr (.inl ⟨t,_,_,_,rfl,rfl,SqT.of (g1 _ _ ht),cY (j:=1) rfl,?_⟩)⟩;refine⟨e,rfl,⟨_,g1.seq he⟩,zj (R:=fun(l:List Cell) v _=>Den K H v (vZ l)) (R2:=fun(l:List Cell) v _=>Den K H v (vZ l)) (xs:=ch.2) (fun _ _ _ _ _ h=>h) (fun _ _ _ _ _ h=>h) (bM (g1.seq he)) (Og De) (small (by lia)) (fun l=>decide (decide (c∈l)=b)) id (fun l hl u H3 s3 du G hG=>?_) (fun l hl _ u H3 s3 du G hG=>⟨_,rfl,hG _ _ (Same.refl _) du⟩) (fun zs' H3 s3 D3 n hn=>?_)⟩
     ·obtain⟨a',rfl⟩:∃ a',u=.ref a':=by cases du;exact⟨_,rfl⟩
      refine⟨_,rfl,_,rfl,.inr (rN (dv.mono (g1.trans s3)) (du.mono (g1.trans s3)) ⟨_,rfl,.inl ⟨rfl,_,rfl,?_⟩⟩)⟩;have eb:decide (V.bl (decide (c∈l))=V.bl b)=decide (decide (c∈l)=b):=by
       rw[tD];exact⟨fun z=>by injection z,fun z=>by rw[z]⟩
      rw[eb];exact hG _ (Same.refl _)
     ·rw[List.map_id] at D3;refine⟨sz rfl,fun t2 nt2=>?_⟩;have s4:=Same.put (o:=.lst zs') hn;have s5:=Same.put (o:=.tup [V.ref a,V.ref n]) nt2;have sA:=s3.trans (s4.trans s5);dsimp only[sZ];refine jY (K:=K) (sA _ _ g2) (by lia) ?_;refine fin _ _ sA ?_;rw[es];have nq2:t2≠q:=fun z=>by rw[z,(s3.trans s4) _ _ g2] at nt2;cases nt2
      have nqn:n≠q:=fun z=>by rw[z,s3 _ _ g2] at hn;cases hn
      have sH:Same H (del q (upd (upd H3 n (.lst zs')) t2 (.tup [V.ref a,V.ref n]))):=sd (g1.trans sA);refine Den.tup (by rw[kJ nq2];exact aD) (.cons (Den.mono sH (.lst ha Da)) (.cons (.lst (SqL.of (show del q _ n=_ by rw[kJ nqn];exact s5 _ _ aD)) ?_) .nil));exact(D3.imp (R':=fun(l:List Cell) v G=>Den K G v (vZ l)) fun l v h=>h.mono sH).Zx fun l v h=>h
    ·have hc:=mD h1;have es:setC c b ch=ch:=aJ hc;refine⟨_,rfl,.inl ⟨rfl,_,SqL.of g2⟩,_,rfl,?_⟩;dsimp only[sZ];refine jY (K:=K) g2 (by lia) ?_;exact fin _ _ (Same.refl _) (by rw[es];exact du.mono (sd g1))
   ·obtain⟨us,v4,g1,g2,D2,rfl⟩:=hh;rw[los,jO] at D2;exact hR _ _ ⟨us,v4,g1,g2,D2,rfl⟩
  rintro zzs H2 ⟨us,v4,s2,eq2,D2,rfl⟩;exact⟨_,rfl,hq q _ ⟨s2,nq,us,eq2,D2.mono zy⟩⟩
end
end My
namespace My
open PySem L2
end My
namespace My
open PySem L2
end My
namespace My
open PySem L2
def bR(zs:List Str)(w:Nat)(c:Cell)(b:Bool):Prop:=∃ ch∈(chL zs w).map (setC c b),ch.2=[]
noncomputable def layW(zs:List Str)(w:Nat)(c:Cell)(b:Bool):List Cell:=((chL zs w).map (setC c b)).flatMap fun ch=>ch.2.headD []
def Om(K:ao):Sp:=fun vs H Q _=>∃(p:Addr)(chs:List (List Cell×List (List Cell))),vs=[.ref p]/\Ls K H p (chs.map chD)/\(∀ ch∈chs,JT ch)/\chs.length<=100/\(chs.map fun ch=>ch.1.length).sum<=36 /\
 ((∃ ch∈chs,ch.2=[])->∀ H',Same H H'->Q .non H')/\((¬∃ ch∈chs,ch.2=[])->∀ q H' ds,Fr K H H' q (ds.map au)->ds.Perm (chs.flatMap fun ch=>ch.2.headD [])->Asc ds->Q (.ref q) H')
def mY(K:ao)(H H':Hp)(v:V)(zs:List Str)(w:Nat)(c:Cell)(b:Bool):Prop:=(bR zs w c b/\v=.non)\/(¬bR zs w c b/\∃(q:Addr)(ds:List Cell),v=.ref q/\H q=none/\Ls K H' q (ds.map au)/\ds.Perm (layW zs w c b)/\Asc ds)
theorem mY.mono{K:ao}{H H' H'':Hp}{v:V}{zs:List Str}{w:Nat}{c:Cell}{b:Bool}(h:mY K H H' v zs w c b)(s:Same H' H''):mY K H H'' v zs w c b:=by
 rcases h with h|⟨h,q,ds,e,n,l,r⟩
 ·exact .inl h
 ·exact .inr ⟨h,q,ds,e,n,l.mono s,r⟩
theorem mY.non{K:ao}{H H':Hp}{v:V}{zs:List Str}{w:Nat}{c:Cell}{b:Bool}(h:mY K H H' v zs w c b):decide (v=V.non)=true↔bR zs w c b:=by
 rw[iC];rcases h with⟨h,e⟩|⟨h,q,_,e,_⟩
 ·exact⟨fun _=>h,fun _=>e⟩
 ·exact⟨fun z=>(by rw[e] at z;cases z),fun z=>absurd z h⟩
def Eo(C NC TG IM:Addr)(zs:List Str)(w:Nat)(c:Cell)(H:Hp)(E:XK):Prop:=
 (aK zs w c=false->∀ H',Same H H'->E (.ref NC) none H')/\(aK zs w c=true->(∃ p∈aY zs w,12<p.length)->∀ H',Same H H'->E (.ref TG) none H') /\
 (aK zs w c=true->(∀ p∈aY zs w,p.length<=12)->bR zs w c false->bR zs w c true->∀ H',Same H H'->E (.ref IM) none H')
def Lx(K:ao)(C NC TG IM:Addr):Sp:=fun vs H Q E=>∃(x:Addr)(v:V)(zs:List Str)(w:Nat)(c:Cell),vs=[.ref x,v]/\dB C H x zs w/\Den K H v (au c)/\Eo C NC TG IM zs w c H E /\
 (aK zs w c=true->(∀ p∈aY zs w,p.length<=12)->¬(bR zs w c false/\bR zs w c true)->∀ t v0 v1 H',Same H H'->H' t=some (.tup [v0,v1])->mY K H H' v0 zs w c false->mY K H H' v1 zs w c true->(∀ q:Addr,v0=.ref q->v1≠.ref q)->Q (.ref t) H')
open Classical in
noncomputable def Am(zs:List Str)(w:Nat)(c:Cell):Str:=if bR zs w c false then "stone" else if bR zs w c true then "none" else "open"
def Uw(K:ao)(C NC TG IM:Addr):Sp:=fun vs H Q E=>∃(x:Addr)(v:V)(zs:List Str)(w:Nat)(c:Cell),vs=[.ref x,v]/\dB C H x zs w/\Den K H v (au c)/\Eo C NC TG IM zs w c H E /\
 (aK zs w c=true->(∀ p∈aY zs w,p.length<=12)->¬(bR zs w c false/\bR zs w c true)->∀ H',Same H H'->Q (.str (Am zs w c)) H')
def Uu(K:ao)(C NC TG IM NO:Addr):Sp:=fun vs H Q E=>∃(x:Addr)(v:V)(zs:List Str)(w:Nat)(c:Cell),vs=[.ref x,v]/\dB C H x zs w/\Den K H v (au c)/\Eo C NC TG IM zs w c H E /\
 (aK zs w c=true->(∀ p∈aY zs w,p.length<=12)->¬(bR zs w c false/\bR zs w c true)->bR zs w c false\/bR zs w c true->∀ H',Same H H'->E (.ref NO) none H') /\
 (aK zs w c=true->(∀ p∈aY zs w,p.length<=12)->¬bR zs w c false->¬bR zs w c true->∀ t q0 q1 d0 d1 H',Same H H'->H' t=some (.tup [.ref q0,.ref q1])->H q0=none->H q1=none->q0≠q1->Ls K H' q0 (d0.map au)->Ls K H' q1 (d1.map au)->d0.Perm (layW zs w c false)->Asc d0->d1.Perm (layW zs w c true)->Asc d1->Q (.ref t) H')
section
variable{P:Program}{w:World}{K:ao}{mg:Str->Option Value}{base:Heap}{Z:Adr}
theorem Iu{chs:List (List Cell×List (List Cell))}(h:∀ ch∈chs,JT ch):(chs.flatMap fun ch=>ch.2.headD []).length<=(chs.map fun ch=>ch.1.length).sum:=by
 induction chs with
 |nil=>exact bK _
 |cons ch chs ih=>
  rw[xU,cM,fH,Hr];have h1:=ih fun c hc=>h c (fK _ hc)
  have h2:(ch.2.headD []).length<=ch.1.length:=by
   cases e:ch.2 with
   |nil=>exact jj _
   |cons l ls=>exact(h ch dJ).2.1 l (by rw[e];exact dJ)
  lia
theorem T3{f:Addr}{fd:FuncData} (F:Fun K "first_laying" "first_laying" lE f fd) (T:Txt K mg Z):cC P w K mg base (CXE P w) 1 f fd ["found"] (Om K):=by
 refine F.rok jF (fun vs H Q E h=>?_) (fun cdv A outer s H vs Q E hr h=>?_)
 ·obtain⟨p,chs,rfl,_⟩:=h;rfl
 ·obtain⟨p,chs,rfl,hp,hok,h100,h36,hn,hq⟩:=h;have hu:=jV hr;refine⟨_,(aA (aZ (i:=1) jF.nd rfl (Or.inl rfl) (dO ak)) (aA (cL eO rfl (bx (K:=K) (rv 0)) (bC (i:=2) jF.nd rfl (Or.inl rfl)) (aA (dR (bA (nG.or (nD (K:=K) hu)) (aU (dH (K:=K)) rfl T.dj cu (aj (cH (cG (K:=K)) (rv 2) aH) ak)) aH (bW _)) (aC (aR zQ)) bN) (aC (gO (lX (K:=K) lN PySem.F.slot_list_extend PySem.F.type_list_extend (RZ (K:=K)) (rv 1) (aj (cH (cG (K:=K)) (cH (cG (K:=K)) (rv 2) aH) aH) ak)))))) (aC (aR (aU (Wx (K:=K) hu) rfl T.tO vB (aj (rv 1) ak)))))),?_⟩;refine aF (fun zzs H1=>∃ q:Addr,H q=none/\Same H H1/\H1 q=some (.lst [])/\zzs=[zzR p,zzR q,zzN]) (fun R hR=>?_) ?_
  ·exact⟨by decide,fun q nq=>hR _ _ ⟨q,nq,Same.put nq,aD,rfl⟩⟩
  rintro zzs H1 ⟨q,nq,s1,eq1,rfl⟩;obtain⟨os,eo,Do⟩:=hp;have los:os.length=chs.length:=by rw[Do.length,aV]
  refine aF (fun zzs H2=>∃(us:List V)(v2:Option V),Same H H2/\H2 q=some (.lst us)/\aP K H2 us ((chs.flatMap fun ch=>ch.2.headD []).map au)/\(¬∃ ch∈chs,ch.2=[])/\zzs=[zzR p,zzR q,v2]) (fun R hR=>?_) ?_
  ·refine⟨_,rfl,p,rfl,⟨_,SqL.of (s1 _ _ eo)⟩,?_⟩;refine eE (K:=K) (xs:=os) (fun i zzs H2=>∃(us:List V)(v2:Option V),Same H H2/\H2 q=some (.lst us)/\aP K H2 us (((chs.take i).flatMap fun ch=>ch.2.headD []).map au)/\(¬∃ ch∈chs.take i,ch.2=[])/\zzs=[zzR p,zzR q,v2])
    ⟨[],none,s1,eq1,.nil,(fun⟨_,h,_⟩=>by cases h),rfl⟩ (fun i zzs H2 _ hh=>by obtain⟨_,_,g,_⟩:=hh;exact SqL.of (g _ _ eo)) (fun i u zzs H2 hi hh=>?_) (fun zzs H2 hh=>?_)
   ·obtain⟨us,v2,g1,g2,D2,no,rfl⟩:=hh;obtain⟨d,ed,du⟩:=Do.get hi;rw[cV] at ed;obtain⟨ch,ec,rfl⟩:=iQ.mp ed;have cm:=fV ec;obtain⟨a3F,hrow,h5k⟩:=hok ch cm;obtain⟨t,a,e,xs,ys,rfl,ht,ha,Da,he,De⟩:=Ru du;have tk:chs.take (i+1)=chs.take i++[ch]:=by rw[jP,ec];rfl
    have at1:∀ {Q:VK},Q (.ref e) H2->rIx K (.ref t) (.int 1) H2 Q:=fun q=>.inr (.inl ⟨t,_,_,_,rfl,rfl,SqT.of (g1 _ _ ht),cY (j:=1) rfl,q⟩)
    refine aF (fun zzs H3=>H2=H3/\ch.2≠[]/\zzs=[zzR p,zzR q,zzR t]) (fun R' hR'=>?_) ?_
    ·refine⟨_,rfl,at1 ?_⟩;dsimp only[sZ];refine zV (Den.mono g1 (.lst he De)) (.inl ⟨rfl,_,rfl,?_⟩);rw[wZ,aV];refine dG (fun h1=>?_) (fun h1=>?_)
     ·have h1:=cN h1;exact hn ⟨ch,cm,JR.mp (by lia)⟩ _ g1
     ·have h1:=mD h1;exact hR' _ _ ⟨rfl,fun z=>h1 (by rw[z];rfl),rfl⟩
    rintro zzs H3 ⟨rfl,hne,rfl⟩;obtain⟨l0,lr,el0⟩:∃ l0 lr,ch.2=l0::lr:=by
     cases e':ch.2 with
     |nil=>exact absurd e' hne
     |cons l0 lr=>exact⟨l0,lr,rfl⟩
    rw[el0] at De;obtain⟨u0,ys',rfl⟩:∃ u0 ys',ys=u0::ys':=by cases De;exact⟨_,_,rfl⟩
    have d0:Den K H u0 (vZ l0):=by cases De with|cons h _=>exact h
    cases d0 with
    |@lst b zs' _ hb Db=>
     have h0:l0.length<=ch.1.length:=hrow l0 (by rw[el0];exact dJ);have lz:zs'.length<=36:=by rw[Db.length,aV];lia
     have lus:us.length<=36:=by
      rw[D2.length,aV];refine cP (Iu fun c hc=>hok c (BK hc)) (cP ?_ h36);rw[List.map_take];have:=BJ i (chs.map fun ch=>ch.1.length);have e3:=congrArg List.sum this;rw[List.sum_append] at e3;lia
     refine⟨_,rfl,.inl ⟨rfl,_,SqL.of g2⟩,_,rfl,at1 (.inl ⟨e,_,_,_,rfl,rfl,g1.seq he,cZ,?_⟩)⟩;refine⟨q,b,us,zs',rfl,rfl,g2,g1.seq hb,small (by lia),?_⟩;refine⟨_,_,(SameBut.refl q _).put.of g1 nq,aD,?_,?_,rfl⟩
     ·rw[tk,wJ,eG];have e4:([ch].flatMap fun ch=>ch.2.headD [])=l0:=by
       rw[xU,el0];simp
      rw[e4];exact((SameBut.refl q _).put.cells g2 D2).append ((SameBut.refl q _).put.cells g2 (Db.mono g1))
     ·rw[tk];rintro⟨c,hc,z⟩;rcases cI.mp hc with y|y
      ·exact no ⟨c,y,z⟩
      ·rw[dM.mp y] at z;exact hne z
   ·obtain⟨us,v2,g1,g2,D2,no,rfl⟩:=hh;rw[los,jO] at D2 no;exact hR _ _ ⟨us,v2,g1,g2,D2,no,rfl⟩
  rintro zzs H2 ⟨us,v2,s2,eq2,D2,no,rfl⟩;have fl:=Iu hok;refine⟨_,rfl,q,us,_,rfl,SqL.of eq2,D2,by lia,fun l ws ds nl pm D' pc as=>?_⟩;exact hq no l _ ds ⟨s2.and nl,s2.free nl,.new nl D'⟩ pc as
theorem X7{f:Addr}{fd:FuncData} (F:Fun K "both_ways" "both_ways" qw f fd) (T:Txt K mg Z) (bB:Df P w K mg base 2 "is_closed" ["view","cell"] (gW K Z.View)) (uV:Df P w K mg base 6 "choices" ["view"] (DX K Z.View Z.TooGreat)) (qO:Df P w K mg base 1 "settled" ["found","cell","stone"] (Ec K)) (iW:Df P w K mg base 1 "first_laying" ["found"] (Om K)) :
  cC P w K mg base (CXE P w) 7 f fd ["view","cell"] (Lx K Z.View Z.NoCell Z.TooGreat Z.Impossible):=by
 refine F.Js jW (fun vs H Q E h=>?_) (fun cdv A outer s H vs Q E hr h=>?_)
 ·obtain⟨x,v,zs,w,c,rfl,_⟩:=h;rfl
 ·obtain⟨x,v,zs,w,c,rfl,vt,dv,⟨e1,e2,e3⟩,hq⟩:=h;have hd:=Dj hr;have hu:=jV hr;refine⟨_,(aA (dR (RT.nox (lB (j7 (aO bB hr rfl aQ (aj (rv 0) (aj (rv 1) ak)))))) (aC (ju T.nM rfl T.tU hd (aj iz ak))) bN) (aA (aZ (i:=2) jW.nd rfl (Or.inl rfl) (aO uV hr rfl yD (aj (rv 0) ak))) (aA (RS.nox (aZ (i:=3) jW.nd rfl (Or.inl rfl) (aO iW hr rfl aQ (aj (aO qO hr rfl aQ (aj (rv 2) (aj (rv 1) (aj pH ak)))) ak)))) (aA (RS.nox (aZ (i:=4) jW.nd rfl (Or.inl rfl) (aO iW hr rfl aQ (aj (aO qO hr rfl aQ (aj (rv 2) (aj (rv 1) (aj pH ak)))) ak)))) (aA (dR (RT.nox (yh (sJ (bA vW (rv 3) zQ (bW _)) (oO (bA vW (rv 4) zQ (bW _)))))) (aC (ju T.jc rfl T.tR hd (aj iz ak))) bN) (aC (RS.nox (aR (fu (aj (rv 3) (aj (rv 4) ak))))))))))),?_⟩;refine aF (fun zzs H1=>aK zs w c=true/\H=H1/\zzs=[zzR x,some v,zzN,zzN,zzN]) (fun R hR=>?_) ?_
  ·refine⟨_,rfl,_,rfl,x,v,zs,w,c,rfl,vt,dv,?_⟩;refine⟨_,rfl,?_⟩;exact dG (fun h1=>⟨by decide,e1 (by simpa only[pF] using h1) _ (Same.refl _)⟩) (fun h1=>hR _ _ ⟨by simpa only[BR] using h1,rfl,rfl⟩)
  rintro zzs H1 ⟨hc,rfl,rfl⟩;refine aF (fun zzs H2=>∃ q:Addr,(∀ p∈aY zs w,p.length<=12)/\Same H H2/\Ls K H2 q ((chL zs w).map chD)/\zzs=[zzR x,some v,zzR q,zzN,zzN]) (fun R hR=>?_) ?_
  ·exact⟨_,rfl,x,zs,w,rfl,vt,fun hg H' s'=>e2 hc hg _ s',fun h12 q H2 fr=>hR _ _ ⟨q,h12,fr.same,fr.ls,rfl⟩⟩
  rintro zzs H2 ⟨q,h12,s2,lq,rfl⟩;obtain⟨c1,c2⟩:=Zm vt.vw h12;have csum:∀ b:Bool,(((chL zs w).map (setC c b)).map fun ch=>ch.1.length).sum<=36:=fun b=>by
   rw[Yr,Zo vt.vw.le vt.vw.w6];exact dN vt.vw
  have cok:∀ b:Bool,∀ ch∈(chL zs w).map (setC c b),JT ch:=fun b ch hch=>by
   obtain⟨d,hd',rfl⟩:=cT.mp hch;exact Yp (c1 d hd')
  refine aF (fun zzs H3=>∃ v0:V,Same H2 H3/\mY K H H3 v0 zs w c false/\zzs=[zzR x,some v,zzR q,some v0,zzN]) (fun R hR=>?_) ?_
  ·refine⟨_,rfl,_,rfl,q,v,false,c,chL zs w,rfl,lq,dv.mono s2,c1,c2,fun q5 H5 fr=>?_⟩;refine⟨q5,_,rfl,fr.ls,cok false,by rw[aV];exact c2,csum false,fun hn H' s'=>hR _ _ ⟨_,fr.same.trans s',.inl ⟨hn,rfl⟩,rfl⟩,fun hn q6 H' ds f6 pm as=>hR _ _ ⟨_,fr.same.trans f6.same,.inr ⟨hn,q6,ds,rfl,(s2.trans fr.same).free f6.new,f6.ls,pm,as⟩,rfl⟩⟩
  rintro zzs H3 ⟨v0,s3,w0,rfl⟩;refine aF (fun zzs H4=>∃ v1:V,Same H3 H4/\mY K H H4 v1 zs w c true/\(∀ q:Addr,v0=.ref q->v1≠.ref q)/\zzs=[zzR x,some v,zzR q,some v0,some v1]) (fun R hR=>?_) ?_
  ·refine⟨_,rfl,_,rfl,q,v,true,c,chL zs w,rfl,lq.mono s3,dv.mono (s2.trans s3),c1,c2,fun q5 H5 fr=>?_⟩;refine⟨q5,_,rfl,fr.ls,cok true,by rw[aV];exact c2,csum true,fun hn H' s'=>hR _ _ ⟨_,fr.same.trans s',.inl ⟨hn,rfl⟩,(fun _ _ z=>by cases z),rfl⟩,fun hn q6 H' ds f6 pm as=>hR _ _ ⟨_,fr.same.trans f6.same,.inr ⟨hn,q6,ds,rfl,(s2.trans (s3.trans fr.same)).free f6.new,f6.ls,pm,as⟩,(fun q' e' z=>?_),rfl⟩⟩;injection z with z;rcases w0 with⟨_,e0⟩|⟨_,q0,_,e0,_,⟨_,l0,_⟩,_⟩
   ·rw[e0] at e';cases e'
   ·rw[e0] at e';injection e' with e';have:=f6.new;rw[z,<- e',fr.same _ _ l0] at this;cases this
  rintro zzs H4 ⟨v1,s4,w1,apart,rfl⟩;have sA:=s2.trans (s3.trans s4);refine aF (fun zzs H5=>¬(bR zs w c false/\bR zs w c true)/\H4=H5/\zzs=[zzR x,some v,zzR q,some v0,some v1]) (fun R hR=>?_) ?_
  ·refine⟨_,rfl,rfl,_,rfl,?_⟩;refine dG (fun h1=>⟨_,rfl,rfl,_,rfl,?_⟩) (fun h1=>hR _ _ ⟨fun z=>(by rw[w0.non.mpr z.1] at h1;cases h1),rfl,rfl⟩);exact dG (fun h2=>⟨by decide,e3 hc h12 (w0.non.mp h1) (w1.non.mp h2) _ sA⟩) (fun h2=>hR _ _ ⟨fun z=>(by rw[w1.non.mpr z.2] at h2;cases h2),rfl,rfl⟩)
  rintro zzs H5 ⟨hno,rfl,rfl⟩;exact⟨_,rfl,_,rfl,sz rfl,fun t nt=>hq hc h12 hno t v0 v1 _ (sA.and nt) aD ((w0.mono s4).mono (Same.put nt)) (w1.mono (Same.put nt)) apart⟩
open Classical in
theorem Xg{f:Addr}{fd:FuncData} (F:Fun K "sure" "sure" Lj f fd) (T:Txt K mg Z) (iI:Df P w K mg base 7 "both_ways" ["view","cell"] (Lx K Z.View Z.NoCell Z.TooGreat Z.Impossible)) :
  cC P w K mg base (CXE P w) 8 f fd ["view","cell"] (Uw K Z.View Z.NoCell Z.TooGreat Z.Impossible):=by
 refine F.Js Oi (fun vs H Q E h=>?_) (fun cdv A outer s H vs Q E hr h=>?_)
 ·obtain⟨x,v,zs,w,c,rfl,_⟩:=h;rfl
 ·obtain⟨x,v,zs,w,c,rfl,vt,dv,re,hq⟩:=h;refine⟨_,(aA (aZ (i:=2) Oi.nd rfl (Or.inl rfl) (aO iI hr rfl yD (aj (rv 0) (aj (rv 1) ak)))) (aA (RS.nox (dR (bA vW (cH (cG (K:=K)) (rv 2) aH) zQ (bW _)) (aC (aR iz)) bN)) (aA (RS.nox (dR (bA vW (cH (cG (K:=K)) (rv 2) aH) zQ (bW _)) (aC (aR iz)) bN)) (aC (RS.nox (aR iz)))))),?_⟩;refine aF (fun zzs H1=>∃(t:Addr)(v0 v1:V),aK zs w c=true/\(∀ p∈aY zs w,p.length<=12)/\¬(bR zs w c false/\bR zs w c true)/\Same H H1/\H1 t=some (.tup [v0,v1])/\mY K H H1 v0 zs w c false/\mY K H H1 v1 zs w c true/\(∀ q:Addr,v0=.ref q->v1≠.ref q)/\zzs=[zzR x,some v,zzR t]) (fun R hR=>?_) ?_
  ·exact⟨_,rfl,_,rfl,x,v,zs,w,c,rfl,vt,dv,re,fun hc h12 hno t v0 v1 H' s' et w0 w1 ap=>hR _ _ ⟨t,v0,v1,hc,h12,hno,s',et,w0,w1,ap,rfl⟩⟩
  rintro zzs H1 ⟨t,v0,v1,hc,h12,hno,s1,et,w0,w1,ap,rfl⟩;have hq':=hq hc h12 hno _ s1;unfold Am at hq';refine aF (fun zzs H2=>¬bR zs w c false/\H1=H2/\zzs=[zzR x,some v,zzR t]) (fun R hR=>?_) ?_
  ·refine⟨_,rfl,.inr (.inl ⟨t,_,_,_,rfl,rfl,SqT.of et,cZ,rfl,_,rfl,?_⟩)⟩;refine dG (fun h1=>?_) (fun h1=>hR _ _ ⟨fun z=>(by rw[w0.non.mpr z] at h1;cases h1),rfl,rfl⟩);rw[aL (w0.non.mp h1)] at hq';exact hq'
  rintro zzs H2 ⟨h1,rfl,rfl⟩;rw[aJ h1] at hq';refine aF (fun zzs H2=>¬bR zs w c true/\H1=H2/\zzs=[zzR x,some v,zzR t]) (fun R hR=>?_) ?_
  ·refine⟨_,rfl,.inr (.inl ⟨t,_,_,_,rfl,rfl,SqT.of et,cY (j:=1) rfl,rfl,_,rfl,?_⟩)⟩;refine dG (fun h2=>?_) (fun h2=>hR _ _ ⟨fun z=>(by rw[w1.non.mpr z] at h2;cases h2),rfl,rfl⟩);rw[aL (w1.non.mp h2)] at hq';exact hq'
  rintro zzs H2 ⟨h2,rfl,rfl⟩;rw[aJ h2] at hq';exact hq'
theorem Xe{f:Addr}{fd:FuncData} (F:Fun K "shown" "shown" Gb f fd) (T:Txt K mg Z) (iI:Df P w K mg base 7 "both_ways" ["view","cell"] (Lx K Z.View Z.NoCell Z.TooGreat Z.Impossible)) :
  cC P w K mg base (CXE P w) 8 f fd ["view","cell"] (Uu K Z.View Z.NoCell Z.TooGreat Z.Impossible Z.NotOpen):=by
 refine F.Js Jw (fun vs H Q E h=>?_) (fun cdv A outer s H vs Q E hr h=>?_)
 ·obtain⟨x,v,zs,w,c,rfl,_⟩:=h;rfl
 ·obtain⟨x,v,zs,w,c,rfl,vt,dv,re,e4,hq⟩:=h;have hd:=Dj hr;have hu:=jV hr;refine⟨_,(aA (aZ (i:=2) Jw.nd rfl (Or.inl rfl) (aO iI hr rfl yD (aj (rv 0) (aj (rv 1) ak)))) (aA (dR (RT.nox (yh (xH (bA vW (cH (cG (K:=K)) (rv 2) aH) zQ (bW _)) (zT (bA vW (cH (cG (K:=K)) (rv 2) aH) zQ (bW _)))))) (aC (ju T.rE rfl T.Cz hd (aj iz ak))) bN) (aC (RS.nox (aR (rv 2)))))),?_⟩;refine aF (fun zzs H1=>∃(t:Addr)(v0 v1:V),aK zs w c=true/\(∀ p∈aY zs w,p.length<=12)/\¬(bR zs w c false/\bR zs w c true)/\Same H H1/\H1 t=some (.tup [v0,v1])/\mY K H H1 v0 zs w c false/\mY K H H1 v1 zs w c true/\(∀ q:Addr,v0=.ref q->v1≠.ref q)/\zzs=[zzR x,some v,zzR t]) (fun R hR=>?_) ?_
  ·exact⟨_,rfl,_,rfl,x,v,zs,w,c,rfl,vt,dv,re,fun hc h12 hno t v0 v1 H' s' et w0 w1 ap=>hR _ _ ⟨t,v0,v1,hc,h12,hno,s',et,w0,w1,ap,rfl⟩⟩
  rintro zzs H1 ⟨t,v0,v1,hc,h12,hno,s1,et,w0,w1,ap,rfl⟩;refine aF (fun zzs H2=>¬bR zs w c false/\¬bR zs w c true/\H1=H2/\zzs=[zzR x,some v,zzR t]) (fun R hR=>?_) ?_
  ·refine⟨_,rfl,.inr (.inl ⟨t,_,_,_,rfl,rfl,SqT.of et,cZ,rfl,_,rfl,?_⟩)⟩;refine dG (fun h1=>⟨by decide,e4 hc h12 hno (.inl (w0.non.mp h1)) _ s1⟩) (fun h1=>?_);refine⟨_,rfl,.inr (.inl ⟨t,_,_,_,rfl,rfl,SqT.of et,cY (j:=1) rfl,rfl,_,rfl,?_⟩)⟩;exact dG (fun h2=>⟨by decide,e4 hc h12 hno (.inr (w1.non.mp h2)) _ s1⟩) (fun h2=>hR _ _ ⟨fun z=>by(rw[w0.non.mpr z] at h1;cases h1),fun z=>by(rw[w1.non.mpr z] at h2;cases h2),rfl,rfl⟩)
  rintro zzs H2 ⟨h1,h2,rfl,rfl⟩;rcases w0 with⟨z,_⟩|⟨_,q0,d0,rfl,n0,l0,p0,a0⟩
  ·exact absurd z h1
  rcases w1 with⟨z,_⟩|⟨_,q1,d1,rfl,n1,l1,p1,a1⟩
  ·exact absurd z h2
  exact⟨_,rfl,hq hc h12 h1 h2 t q0 q1 d0 d1 _ s1 et n0 n1 (fun z=>ap q0 rfl (by rw[z])) l0 l1 p0 a0 p1 a1⟩
end
end My
namespace My
open PySem L2
theorem WY{zs:List Str}{w:Nat}{y:Cell}:y∈iy zs w "#" ↔ aK zs w y=true:=by
 rw[<- gZ];unfold cA;rw[cg,bL];refine⟨fun h=>h.2,fun h=>⟨?_,h⟩⟩;unfold aK at h;exact cN (Vz.mp h).1
section
variable{zs:List Str}{w:Nat}{c:Cell}
def rH(zs:List Str)(w:Nat):Prop:=∃ ch∈chL zs w,ch.2=[]
theorem um(b:Bool):bR zs w c b↔(rH zs w\/∃ p∈aY zs w,c∈p/\((eF zs w p).filter fun l=>decide (decide (c∈l)=b))=[]):=by
 constructor
 ·rintro⟨ch',hc',e⟩;obtain⟨ch,hc,rfl⟩:=cT.mp hc';unfold setC at e;by_cases z:c∈ch.1
  ·rw[aL z] at e;have hc0:=hc;unfold chL at hc;rcases cO.mp hc with rfl|hc
   ·cases z
   rcases cI.mp hc with hc|hc
   ·obtain⟨p,hp,rfl⟩:=cT.mp hc;exact .inr ⟨p,hp,z,e⟩
   ·obtain⟨x,_,rfl⟩:=cT.mp hc;exfalso;have zx:c=x:=dM.mp z;subst zx;cases b<;>simp at e
  ·rw[aJ z] at e;exact .inl ⟨ch,hc,e⟩
 ·rintro(⟨ch,hc,e⟩|⟨p,hp,z,e⟩)
  ·refine⟨setC c b ch,cT.mpr ⟨ch,hc,rfl⟩,?_⟩;unfold setC;by_cases z:c∈ch.1
   ·rw[aL z];show ch.2.filter _=[];rw[e];rfl
   ·rw[aJ z];exact e
  ·refine⟨setC c b (p,eF zs w p),cT.mpr ⟨_,fK _ (iB _ (cT.mpr ⟨p,hp,rfl⟩)),rfl⟩,?_⟩;unfold setC;rw[aL (show c∈(p,eF zs w p).1 from z)];exact e
theorem Tf(h6:zs.length<=6)(w6:w<=6){p q:List Cell}(hp:p∈aY zs w)(hq:q∈aY zs w)(cp:c∈p)(cq:c∈q):p=q:=by
 obtain⟨ok,_⟩:=iM (zs:=zs) (w:=w) h6 w6;obtain⟨x,hx,rfl⟩:=ok.of p hp;obtain⟨y,hy,rfl⟩:=ok.of q hq;rw[<- kO h6 w6 hx cp,kO h6 w6 hy cq]
theorem HS(v:Vw zs w):(bR zs w c false/\bR zs w c true)↔rH zs w:=by
 rw[um,um];constructor
 ·rintro⟨h|⟨p,hp,cp,ep⟩,h'|⟨q,hq,cq,eq⟩⟩
  ·exact h
  ·exact h
  ·exact h'
  ·have:=Tf v.le v.w6 hp hq cp cq;subst this;refine⟨(p,eF zs w p),fK _ (iB _ (cT.mpr ⟨p,hp,rfl⟩)),?_⟩;cases e:eF zs w p with
   |nil=>rfl
   |cons l ls=>
    rw[e] at ep eq;rw[GZ] at ep eq;by_cases hl:c∈l
    ·rw[bT hl] at eq;cases eq
    ·rw[cB hl] at ep;cases ep
 ·intro h;exact⟨.inl h,.inl h⟩
end
end My
namespace My
open PySem L2
section
variable{zs:List Str}{w:Nat}
theorem Wm{x:Cell}(h:x∈jM zs w):x∉bO zs w:=fun z=>by
 have h1:=cN (cg.mp h).2;have h2:=cN (cg.mp z).2;lia
theorem Rk(v:Vw zs w):(chL zs w).Pairwise fun a b=>∀ y∈a.1,y∉b.1:=by
 have h6:=v.le;have w6:=v.w6;obtain⟨ok,_⟩:=iM (zs:=zs) (w:=w) h6 w6;unfold chL;refine qK.mpr ⟨fun b _ y hy=>(by cases hy),xP.mpr ⟨?_,?_,?_⟩⟩
 ·exact Bc.mpr ok.dis
 ·refine Bc.mpr ?_;have nd:(jM zs w).Nodup:=by
   unfold jM cA;exact(j9 (qT zs.length (cJ.mpr (by lia)) w (cJ.mpr (by lia)))).sublist (wK.trans wK)
  exact nd.imp fun h y hy z=>h (by rw[<- dM.mp hy,<- dM.mp z])
 ·intro a ha b hb y hy z;obtain⟨p,hp,rfl⟩:=cT.mp ha;obtain⟨x,hx,rfl⟩:=cT.mp hb;have e:=dM.mp z;subst e;obtain⟨q,hq,rfl⟩:=ok.of p hp;exact Wm hx (iU.edge hq ((dw (j6 hq)).mp hy))
theorem Rm(v:Vw zs w):∀ ch∈chL zs w,ch.1.Nodup/\∀ l∈ch.2,l.Sublist ch.1:=fun ch hc=>by
 have h6:=v.le;have w6:=v.w6;obtain⟨ok,_⟩:=iM (zs:=zs) (w:=w) h6 w6;unfold chL at hc;rcases cO.mp hc with rfl|hc
 ·refine⟨.nil,fun l hl=>?_⟩;unfold j5 at hl;split at hl
  ·cases hl
  ·rw[dM.mp hl];exact .slnil
 rcases cI.mp hc with hc|hc
 ·obtain⟨p,hp,rfl⟩:=cT.mp hc;obtain⟨x,hx,rfl⟩:=ok.of p hp;have pp:=Part.join h6 w6 hx;exact⟨pp.nd,fun l hl=>((pp.mem l).mp hl).1⟩
 ·obtain⟨x,_,rfl⟩:=cT.mp hc;refine⟨by simp,fun l hl=>?_⟩;rcases cO.mp hl with rfl|hl
  ·exact List.nil_sublist _
  ·rw[dM.mp hl];exact Mz _
theorem HX(v:Vw zs w):((chL zs w).flatMap fun ch=>ch.1).Perm (cA zs w):=by
 have:((chL zs w).flatMap fun ch=>ch.1)=(aY zs w).flatten++jM zs w:=by
  unfold chL;rw[xU,wJ];have e1:∀ l:List (List Cell),(l.map fun p=>(p,eF zs w p)).flatMap (fun ch=>ch.1)=l.flatten:=fun l=>by
   induction l with
   |nil=>rfl
   |cons a l ih=>rw[fH,xU,ih,wL]
  have e2:∀ l:List Cell,(l.map fun c=>(([c]:List Cell),([[],[c]]:List (List Cell)))).flatMap (fun ch=>ch.1)=l:=fun l=>by
   induction l with
   |nil=>rfl
   |cons a l ih=>rw[fH,xU,ih];rfl
  rw[e1,e2];rfl
 rw[this];exact wY v.le v.w6
end
end My
namespace My
open PySem L2
section
variable{zs:List Str}{w:Nat}{L:List Cell}
theorem vN{a b:List Cell}(ha:a.Pairwise aX)(hb:b.Pairwise aX):a.filter (fun y=>decide (y∈b))=b.filter (fun y=>decide (y∈a)):=by
 refine yU (ha.filter _) (hb.filter _) fun y=>?_
 rw[cg,cg,iC,iC];exact⟨fun h=>⟨h.2,h.1⟩,fun h=>⟨h.2,h.1⟩⟩
theorem z9(hL:∀ c∈L,aK zs w c=true)(t:Cell):uM zs.length w t L=mL (aB zs w t) L:=by
 unfold uM mL aB;rw[List.filter_filter];refine congrArg List.length (GK fun y hy=>?_);by_cases h:y∈L
 ·rw[bT h,hL y h];rfl
 ·rw[cB h];rfl
theorem S8(v:Vw zs w)(hL:∀ c∈L,aK zs w c=true):iu zs w L=true↔∀ t,inF zs.length w t->aK zs w t=false->(mL (aB zs w t) L:Int)=fY zs t:=by
 unfold iu;rw[jy];constructor
 ·intro h t ht ho;have:=h t (bL.mpr ht);rw[ho,Hq] at this;unfold pB at this;have:=cN this;rw[<- z9 hL];lia
 ·intro h t ht;cases ho:aK zs w t
  ·rw[Hq];unfold pB;have:=h t (bL.mp ht) ho;rw[<- z9 hL] at this;exact bT (by lia)
  ·rfl
theorem I8{ps:List Cell}(p:Part zs w ps){x t:Cell}(hx:x∈ps)(ht:t∈aM zs w x):mL (aB zs w t) (L.filter fun y=>decide (y∈ps))=mL (aB zs w t) L:=vM fun y hy=>by
 rw[tD,cg,iC];exact⟨fun h=>h.1,fun h=>⟨h,p.all x hx t ht y hy⟩⟩
theorem ZD(v:Vw zs w){t:Cell}(ht:inF zs.length w t)(ho:aK zs w t=false):0<=fY zs t:=by
 have:=v.digit ht ho;unfold fY;lia
theorem Ks(v:Vw zs w)(la:L.Pairwise aX)(hL:∀ c∈L,aK zs w c=true):iu zs w L=true↔(j5 zs w=[[]]/\∀ p∈aY zs w,(L.filter fun y=>decide (y∈p))∈eF zs w p):=by
 have h6:=v.le;have w6:=v.w6;obtain⟨ok,cov⟩:=iM (zs:=zs) (w:=w) h6 w6;rw[S8 v hL];constructor
 ·intro h;constructor
  ·unfold j5;rw[aJ];rw[Hf];rintro⟨t,ht,hb⟩;unfold yW uh at hb;simp only[mF,pF,iC] at hb;have:=h t (bL.mp ht) hb.1.1;have e:aB zs w t=[]:=JR.mp hb.1.2;rw[e] at this;have z:mL [] L=0:=rfl;rw[z] at this;lia
  ·intro p hp;obtain⟨x,hx,rfl⟩:=ok.of p hp;have pp:=Part.join h6 w6 hx;refine(pp.mem _).mpr ⟨?_,fun y hy t ht=>?_⟩
   ·rw[vN la pp.asc];exact wK
   ·rw[I8 pp hy ht];obtain⟨a,b,_⟩:=gF ht;exact h t a b
 ·rintro⟨h1,h2⟩ t ht ho;by_cases e:aB zs w t=[]
  ·rw[e];show((0:Nat):Int)=_;have nb:yW zs w t=false:=by
    cases z:yW zs w t
    ·rfl
    ·unfold j5 at h1;rw[aL (Hf.mpr ⟨t,bL.mpr ht,z⟩)] at h1;cases h1
   unfold yW uh at nb;rw[ho,e] at nb;have:decide (0<fY zs t)=false:=nb;have:=mD this;have:=ZD v ht ho;lia
  ·obtain⟨y,hy⟩:=List.exists_mem_of_ne_nil _ e;have ye:=p8 ht ho hy;obtain⟨p,hp,hyp⟩:=cov y ye;obtain⟨x,hx,rfl⟩:=ok.of p hp;have pp:=Part.join h6 w6 hx;have hto:=Dz hy ht ho;have:=((pp.mem _).mp (h2 _ hp)).2 y hyp t hto;rw[I8 pp hyp hto] at this;exact this
theorem wX(h6:zs.length<=6)(w6:w<=6):(cA zs w).Pairwise aX:=by
 unfold cA;exact(qT zs.length (cJ.mpr (by lia)) w (cJ.mpr (by lia))).filter _
theorem lZ{y:Cell}:y∈cA zs w↔aK zs w y=true:=by
 unfold cA;rw[cg,bL];refine⟨fun h=>h.2,fun h=>⟨?_,h⟩⟩;unfold aK at h;exact cN (Vz.mp h).1
end
end My
namespace My
open PySem L2
section
variable{zs:List Str}{w:Nat}{c:Cell}{b:Bool}
def qb(c:Cell)(b:Bool)(ch:List Cell×List (List Cell)):List Cell:=(setC c b ch).2.headD []
theorem u9(hn:¬bR zs w c b){ch:List Cell×List (List Cell)}(h:ch∈chL zs w):qb c b ch∈(setC c b ch).2:=by
 unfold qb;cases e:(setC c b ch).2 with
 |nil=>exact absurd ⟨_,cT.mpr ⟨ch,h,rfl⟩,e⟩ hn
 |cons l ls=>exact dJ
theorem Gh{ch:List Cell×List (List Cell)}{l:List Cell}(h:l∈(setC c b ch).2):l∈ch.2/\(c∈ch.1->decide (c∈l)=b):=by
 unfold setC at h;by_cases z:c∈ch.1
 ·rw[aL z] at h;obtain⟨h1,h2⟩:=cg.mp h;exact⟨h1,fun _=>cN h2⟩
 ·rw[aJ z] at h;exact⟨h,fun y=>absurd y z⟩
theorem IW{y:Cell}:y∈layW zs w c b↔∃ ch∈chL zs w,y∈qb c b ch:=by
 unfold layW;rw[Bd];constructor
 ·rintro⟨d,hd,hy⟩;obtain⟨ch,hc,rfl⟩:=cT.mp hd;exact⟨ch,hc,hy⟩
 ·rintro⟨ch,hc,hy⟩;exact⟨_,cT.mpr ⟨ch,hc,rfl⟩,hy⟩
theorem jm(v:Vw zs w)(hn:¬bR zs w c b){ch:List Cell×List (List Cell)}(h:ch∈chL zs w):(qb c b ch).Sublist ch.1:=(Rm v ch h).2 _ (Gh (u9 hn h)).1
theorem Zn(v:Vw zs w){y:Cell}{d e:List Cell×List (List Cell)}(hd:d∈chL zs w)(he:e∈chL zs w)(yd:y∈d.1)(ye:y∈e.1):d=e:=by
 have h:=Rk v;obtain⟨i,hi,rfl⟩:=Mq hd;obtain⟨j,hj,rfl⟩:=Mq he;rcases Nat.lt_trichotomy i j with z|z|z
 ·exact absurd ye (rP.mp h i j hi hj z y yd)
 ·subst z;rfl
 ·exact absurd yd (rP.mp h j i hj hi z y ye)
theorem yw(v:Vw zs w)(hn:¬bR zs w c b){ch:List Cell×List (List Cell)}(h:ch∈chL zs w){y:Cell}(hy:y∈ch.1):y∈layW zs w c b↔y∈qb c b ch:=by
 rw[IW];constructor
 ·rintro⟨d,hd,yd⟩;rw[<- Zn v hd h ((jm v hn hd).subset yd) hy];exact yd
 ·intro z;exact⟨ch,h,z⟩
theorem WT(v:Vw zs w)(hn:¬bR zs w c b):(layW zs w c b).Nodup:=by
 unfold layW List.Nodup;rw[List.flatMap_def,mH,Vt];constructor
 ·intro l hl;obtain⟨ch,hc,rfl⟩:=cT.mp hl;exact(Rm v ch hc).1.sublist (jm v hn hc)
 ·rw[Bc];refine(Rk v).imp_of_mem fun {d e} hd he h x hx y hy z=>?_
  subst z;exact h x ((jm v hn hd).subset hx) ((jm v hn he).subset hy)
theorem Qc(v:Vw zs w){y:Cell}(hy:aK zs w y=true):∃ ch∈chL zs w,y∈ch.1:=by
 have:=(HX v).mem_iff.mpr (lZ.mpr hy);exact Bd.mp this
theorem Ca(v:Vw zs w){y:Cell}{ch:List Cell×List (List Cell)}(h:ch∈chL zs w)(hy:y∈ch.1):aK zs w y=true:=lZ.mp ((HX v).mem_iff.mp (Bd.mpr ⟨ch,h,hy⟩))
variable{d:List Cell}
theorem DW(v:Vw zs w)(hn:¬bR zs w c b)(pm:d.Perm (layW zs w c b))(as:Asc d):d.Pairwise aX:=yV as (pm.nodup_iff.mpr (WT v hn))
theorem uI(v:Vw zs w)(hn:¬bR zs w c b)(pm:d.Perm (layW zs w c b)):∀ y∈d,aK zs w y=true:=fun y hy=>by
 obtain⟨ch,hc,h⟩:=IW.mp (pm.mem_iff.mp hy);exact Ca v hc ((jm v hn hc).subset h)
theorem Ah(v:Vw zs w)(hc:aK zs w c=true)(hn:¬bR zs w c b)(pm:d.Perm (layW zs w c b)):decide (c∈d)=b:=by
 obtain⟨ch,h,hy⟩:=Qc v hc;rw[<- (Gh (u9 hn h)).2 hy,tD,pm.mem_iff,yw v hn h hy]
theorem DG(hn:¬bR zs w c b):¬rH zs w:=fun z=>hn ((um b).mpr (.inl z))
theorem Jy(v:Vw zs w)(hn:¬bR zs w c b)(pm:d.Perm (layW zs w c b))(as:Asc d):iu zs w d=true:=by
 have sa:=DW v hn pm as;refine(Ks v sa (uI v hn pm)).mpr ⟨?_,fun p hp=>?_⟩
 ·have:([],j5 zs w)∈chL zs w:=dJ;unfold j5;split
  ·rename_i z;exact absurd ⟨_,this,aL z⟩ (DG hn)
  ·rfl
 ·have hm:(p,eF zs w p)∈chL zs w:=fK _ (iB _ (cT.mpr ⟨p,hp,rfl⟩));obtain⟨ok,_⟩:=iM (zs:=zs) (w:=w) v.le v.w6;obtain⟨x,hx,rfl⟩:=ok.of p hp;have pp:=Part.join v.le v.w6 hx;have e:d.filter (fun y=>decide (y∈cD zs w x))=qb c b (cD zs w x,eF zs w (cD zs w x)):=by
   refine yU (sa.filter _) (pp.asc.sublist (jm v hn hm)) fun y=>?_
   rw[cg,iC];constructor
   ·rintro⟨h1,h2⟩;exact(yw v hn hm h2).mp (pm.mem_iff.mp h1)
   ·intro h;have h2:=(jm v hn hm).subset h;exact⟨pm.mem_iff.mpr ((yw v hn hm h2).mpr h),h2⟩
  rw[e];exact(Gh (u9 hn hm)).1
theorem Ai(v:Vw zs w)(hn:¬bR zs w c b)(pm:d.Perm (layW zs w c b)){y:Cell}{k:Bool}(hy:bR zs w y k):decide (y∈d)=!k:=by
 rcases(um k).mp hy with z|⟨p,hp,yp,e⟩
 ·exact absurd z (DG hn)
 have hm:(p,eF zs w p)∈chL zs w:=fK _ (iB _ (cT.mpr ⟨p,hp,rfl⟩));have h1:=(Gh (u9 hn hm)).1;have h2:=Mf.mp e _ h1;have h3:decide (y∈d)=decide (y∈qb c b (p,eF zs w p)):=by
  rw[tD,pm.mem_iff,yw v hn hm yp]
 rw[h3];cases k<;>cases z:decide (y∈qb c b (p,eF zs w p))
 ·rw[z] at h2;exact absurd rfl h2
 ·rfl
 ·rfl
 ·rw[z] at h2;exact absurd rfl h2
end
end My
namespace My
open PySem L2
theorem Yi{K:ao}{H:Hp}{p:Addr}{zs:List Str}{w:Nat}{x:Cell}{Q:VK}(hS:SqL K H p (zs.map V.str))(h:inF zs.length w x)(q:Q (.str (zs.getD x.1.toNat Str.empty)) H):rIx K (.ref p) (.int x.1) H Q:=by
 obtain⟨⟨a,b⟩,_⟩:=h;have z:=FQ (r:=x.1.toNat) hS (by lia) q;have e:((x.1.toNat:Nat):Int)=x.1:=by lia
 rw[e] at z;exact z
theorem U9{K:ao}{H:Hp}{p:Addr}{zs:List Str}{w:Nat}{x:Cell}{Q:VK}(hS:SqL K H p (zs.map V.str))(rc:Rect zs w)(h:inF zs.length w x)(q:Q (.str ⟨#[codeAt zs (x.1.toNat,x.2.toNat)]⟩) H):rIx K (.str (zs.getD x.1.toNat Str.empty)) (.int x.2) H Q:=by
 obtain⟨⟨a,b⟩,⟨c,d⟩⟩:=h;have z:=yG (r:=x.1.toNat) (c:=x.2.toNat) hS rc (by lia) (by lia) q;have e:((x.2.toNat:Nat):Int)=x.2:=by lia
 rw[e] at z;exact z
def Ox(K:ao)(C:Addr):Sp:=fun vs H Q _=>∃(x:Addr)(v:V)(zs:List Str)(w:Nat)(c:Cell),vs=[.ref x,v]/\dB C H x zs w/\Den K H v (au c)/\aK zs w c=true /\
 ((∃ p∈aY zs w,12<p.length)\/rH zs w->∀ H',Same H H'->Q (.str "") H')/\((∀ p∈aY zs w,p.length<=12)->¬rH zs w->∀ H',Same H H'->Q (.str (Am zs w c)) H')
def JB(K:ao):Sp:=fun vs H Q _=>∃(p l:Addr)(zs:List Str)(w:Nat)(cs:List Cell),vs=[.ref p,.ref l]/\SqL K H p (zs.map V.str)/\Vw zs w/\Ls K H l (cs.map au)/\cs.Pairwise aX/\(∀ c∈cs,aK zs w c=true)/\iu zs w cs=true/\∀ H',Same H H'->Q (.bl true) H'
section
variable{P:Program}{w:World}{K:ao}{mg:Str->Option Value}{base:Heap}{Z:Adr}
theorem Td{f:Addr}{fd:FuncData} (F:Fun K "_law_told" "_law_told" qu f fd) (T:Txt K mg Z) (JV:Df P w K mg base 8 "sure" ["view","cell"] (Uw K Z.View Z.NoCell Z.TooGreat Z.Impossible)):cC P w K mg base (CXE P w) 9 f fd ["view","cell"] (Ox K Z.View):=by
 refine F.rok Gd (fun vs H Q E h=>?_) (fun cdv A outer s H vs Q E hr h=>?_)
 ·obtain⟨x,v,zs,w,c,rfl,_⟩:=h;rfl
 ·obtain⟨x,v,zs,w,c,rfl,vt,dv,hc,q1,q2⟩:=h;refine⟨_,(aC (a1b rfl rfl (Ym (a1d JV hr rfl (aj (rv 0) (aj (rv 1) ak)))) (Yj rfl T.tQ T.jX (fun _=>(aC (aR iz))) a0Y))),?_⟩;refine⟨_,rfl,_,rfl,x,v,zs,w,c,rfl,vt,dv,⟨fun z=>(by rw[hc] at z;cases z),fun _ hg H' s'=>?_,fun _ hl n0 n1 H' s'=>?_⟩,fun _ hl hno H' s'=>?_⟩
  ·exact⟨Z.TooGreat,rfl,.inl ⟨RQ T.lJ T.Y6,q1 (.inl hg) _ s'⟩⟩
  ·exact⟨Z.Impossible,rfl,.inl ⟨RQ T.jc T.Y4,q1 (.inr ((HS vt.vw).mp ⟨n0,n1⟩)) _ s'⟩⟩
  ·exact q2 hl (fun z=>hno ((HS vt.vw).mpr z)) _ s'
theorem Qx{f:Addr}{fd:FuncData} (F:Fun K "_law_keeps" "_law_keeps" oU f fd) (T:Txt K mg Z) (nW:Df P w K mg base 1 "_law_sizes" ["rows"] (Ow K)) (g8:Df P w K mg base 1 "_law_cells" ["rows","signs"] (Gi K)) (eY:Df P w K mg base 1 "_law_near" ["height","width","cell"] (Gj K)):cC P w K mg base (CXE P w) 2 f fd ["rows","laying"] (JB K):=by
 refine F.rok gG (fun vs H Q E h=>?_) (fun cdv A outer s H vs Q E hr h=>?_)
 ·obtain⟨p,l,zs,w,cs,rfl,_⟩:=h;rfl
 ·obtain⟨p,l,zs,w,cs,rfl,hS,vw,hl,asc,hcl,hk,hq⟩:=h;have hu:=jV hr;have hu':=xZ hr;refine⟨_,(aA (FW (aO nW hr rfl aQ (aj (rv 0) ak)) (zW rfl (gU (bC (i:=2) gG.nd rfl (Or.inl rfl)) (gU (bC (i:=3) gG.nd rfl (Or.inl rfl)) uz)))) (aA (aZ (i:=4) gG.nd rfl (Or.inl rfl) (aO g8 hr rfl aQ (aj (rv 0) (aj iz ak)))) (aA (dR (bA (DN.or (Dq (K:=K) hu)) (rv 1) (gK (by rfl) rfl (bx (K:=K) (rv 4)) (fun _ _ _=>(fB (bA (eX.or (pq (K:=K) hu')) (rv 0) (rv 2) (by rfl)))) (fun _ _ _=>(rv 0))) (bW _)) (aC (aR pH)) bN) (aA (cL eO rfl (bx (K:=K) (aO g8 hr rfl aQ (aj (rv 0) (aj iz ak)))) (zW rfl (gU (bC (i:=5) gG.nd rfl (Or.inl rfl)) (gU (bC (i:=6) gG.nd rfl (Or.inl rfl)) uz))) (aC (dR (bA (DN.or (Dq (K:=K) hu)) (aU (dH (K:=K)) rfl T.dj cu (aj (gK (by rfl) rfl (bx (K:=K) (aO eY hr rfl aQ (aj (rv 2) (aj (rv 3) (aj (fu (aj (rv 5) (aj (rv 6) ak))) ak))))) (fun _ _ _=>(fB (bA (eX.or (pq (K:=K) hu')) (rv 0) (rv 2) (by rfl)))) (fun _ _ _=>(rv 0))) ak)) (nH CG rfl T.Nk K5 (aj (cH (cG (K:=K)) (cH (cG (K:=K)) (rv 0) (rv 5)) (rv 6)) ak)) (bW _)) (aC (aR pH)) bN))) (aC (aR pH)))))),?_⟩;refine aF (fun zzs H1=>Same H H1/\zzs=[zzR p,zzR l,zzI zs.length,zzI w,zzN,zzN,zzN]) (fun R hR=>?_) ?_
  ·exact⟨_,rfl,p,zs,w,rfl,hS,vw.toRect,fun t H' s' hT=>⟨t,_,rfl,hT,rfl,_,_,rfl,_,_,rfl,rfl,hR _ _ ⟨s',rfl⟩⟩⟩
  rintro zzs H1 ⟨s1,rfl⟩;refine aF (fun zzs H2=>∃ q:Addr,Same H H2/\Ls K H2 q ((iy zs w "#").map au)/\zzs=[zzR p,zzR l,zzI zs.length,zzI w,zzR q,zzN,zzN]) (fun R hR=>?_) ?_
  ·exact⟨_,rfl,p,zs,w,"#",rfl,s1.seq hS,vw.toRect,fun q H2 fr=>hR _ _ ⟨q,s1.trans fr.same,fr.ls,rfl⟩⟩
  rintro zzs H2 ⟨q,s2,lq,rfl⟩;have lc:(iy zs w "#").length<=36:=by rw[<- gZ];exact dN vw
  have ecs:(iy zs w "#").filter (fun y=>decide (y∈cs))=cs:=by
   rw[<- gZ,vN (wX vw.le vw.w6) asc];exact Aw.mpr fun y hy=>bT (lZ.mpr (hcl y hy))
  refine aF (fun zzs H3=>Same H H3/\zzs=[zzR p,zzR l,zzI zs.length,zzI w,zzR q,zzN,zzN]) (fun R hR=>?_) ?_
  ·obtain⟨xs,ex,Dx⟩:=lq;refine⟨_,rfl,_,rfl,q,rfl,⟨_,SqL.of ex⟩,dF (K:=K) (xs:=iy zs w "#") (enc:=au) (bM (SqL.of ex)) Dx (small (by lia)) (fun y=>decide (y∈cs)) au (fun y hy u' H6 s6 d G hG=>?_) (fun y hy _ u' H6 s6 d G hG=>⟨_,rfl,hG _ _ (Same.refl _) d⟩) (fun us H6 s6 D6 q6 hq6=>?_)⟩
   ·exact⟨_,rfl,_,rfl,.inr (rN d (hl.mono (s2.trans s6)).den ⟨_,rfl,hG _ (Same.refl _)⟩)⟩
   ·rw[ecs] at D6;have t6:=Same.put (o:=.lst us) hq6;refine .inr ⟨.lst (cs.map au),.lst (cs.map au),rfl,(hl.mono (s2.trans (s6.trans t6))).den,(Ls.new hq6 D6).den,Ag _,?_,?_⟩
    ·show mZ (cs.map au)+1<=50;have:=zB cs;lia
    ·show _;refine⟨_,rfl,?_⟩;show if(!eqD (.lst (cs.map au)) (.lst (cs.map au)))=true then _ else _
     rw[pZ];exact oJ (hR _ _ ⟨s2.trans (s6.trans t6),rfl⟩)
  rintro zzs H3 ⟨s3,rfl⟩;refine aF (fun zzs H4=>∃ v4 v5:Option V,Same H H4/\zzs=[zzR p,zzR l,zzI zs.length,zzI w,zzR q,v4,v5]) (fun R hR=>?_) ?_
  ·refine⟨_,rfl,p,zs,w,"012345678",rfl,s3.seq hS,vw.toRect,fun q2 H4 fr=>?_⟩;obtain⟨xs,ex,D⟩:=fr.ls;refine⟨q2,rfl,⟨_,SqL.of ex⟩,?_⟩;refine eE (K:=K) (xs:=xs) (fun i zzs H5=>∃ v4 v5:Option V,Same H4 H5/\zzs=[zzR p,zzR l,zzI zs.length,zzI w,zzR q,v4,v5])
    ⟨none,none,Same.refl _,rfl⟩ (fun i zzs H5 _ hh=>by obtain⟨v4,v5,g1,_⟩:=hh;exact SqL.of (g1 _ _ ex)) (fun i u zzs H5 hi hh=>?_) (fun zzs H5 hh=>?_)
   ·obtain⟨v4,v5,g1,rfl⟩:=hh;obtain⟨d,ed,du⟩:=D.get hi;rw[cV] at ed;obtain⟨c,ec,rfl⟩:=iQ.mp ed;obtain⟨hin,hcl'⟩:=(zM vw).mp (fV ec);have dg:=vw.digit hin hcl';have sA:=s3.trans (fr.same.trans g1);have tr:pB zs w cs c=true:=by
     unfold iu at hk;have:=jy.mp hk c (bL.mpr hin);rw[hcl',Hq] at this;exact this
    refine Ua (du.mono g1) ?_;refine⟨_,rfl,_,rfl,_,rfl,_,rfl,sz rfl,fun t ht=>?_⟩;have st:=Same.put (o:=.tup [V.int c.1,V.int c.2]) ht;refine⟨zs.length,w,.ref t,c,rfl,gA,fun q5 H6 f5=>?_⟩;obtain⟨ys,ey,Dy⟩:=f5.ls;refine⟨q5,rfl,⟨_,SqL.of ey⟩,dF (K:=K) (xs:=dh zs.length w c) (enc:=au) (bM (SqL.of ey)) Dy (small (by have:=gD zs.length w c;lia)) (fun y=>decide (y∈cs)) au (fun y hy u' H7 s7 d G hG=>?_) (fun y hy _ u' H7 s7 d G hG=>⟨_,rfl,hG _ _ (Same.refl _) d⟩) (fun us H7 s7 D7 q7 hq7=>?_)⟩
    ·exact⟨_,rfl,_,rfl,.inr (rN d (hl.mono (sA.trans (st.trans (f5.same.trans s7)))).den ⟨_,rfl,hG _ (Same.refl _)⟩)⟩
    ·have t7:=Same.put (o:=.lst us) hq7;have tB:=st.trans (f5.same.trans (s7.trans t7));refine .inl ⟨q7,_,rfl,.inl (SqL.of aD),?_⟩;refine⟨_,rfl,_,rfl,Yi ((sA.trans tB).seq hS) hin ⟨_,rfl,U9 ((sA.trans tB).seq hS) vw.toRect hin ⟨_,rfl,dg.1,by lia,.inl ⟨rfl,?_⟩⟩⟩⟩;have el:us.length=uM zs.length w c cs:=by rw[D7.length,aV];rfl
     refine⟨_,rfl,?_⟩;rw[el,wZ];unfold pB fY at tr;have tr:=cN tr;rw[bT tr.symm];exact oJ ⟨_,_,g1.trans tB,rfl⟩
   ·obtain⟨v4,v5,g1,rfl⟩:=hh;exact hR _ _ ⟨v4,v5,s3.trans (fr.same.trans g1),rfl⟩
  rintro zzs H4 ⟨v4,v5,s4,rfl⟩;exact hq _ s4
end
end My
namespace My
open PySem L2
def Oq(K:ao):Sp:=fun vs H Q _=>∃(a:Addr)(ns:List Int),vs=[.ref a]/\SqL K H a (ns.map V.int)/\∀ H',Q (.bl true) H'
theorem Wn{K:ao}{a:Addr}{xs:List V}{g:TG}{tb:TS}{D:Ends}{zzs:L2.St}{H:Hp}(R:Nat->L2.St->Hp->Prop)(h0:R 0 zzs H)(hq:∀ i zzs H,i<=xs.length->R i zzs H->SqT K H a xs)
  (hs:∀ i x zzs H,xs[i]?=some x->R i zzs H->g x zzs H fun p7 H2=>tb { D with nx:=R (i+1),ct:=R (i+1),bk:=D.nx } p7 H2)
  (hd:∀ zzs H,R xs.length zzs H->D.nx zzs H) :
  ∃ W:Nat->Nat->L2.St->Hp->Prop,(∃ m,W 0 m zzs H)/\∀ i m zzs H,W i m zzs H->((Itt K a).stop i H/\D.nx zzs H)\/((Itt K a).go i H/\∃ N:L2.St->Hp->Prop,(∀ bG H',N bG H'->∃ m',m'<m/\W (i+1) m' bG H')/\∀ x H',(Itt K a).yld i H x H'->g x zzs H' fun p7 H2=>tb { D with nx:=N,ct:=N,bk:=D.nx } p7 H2):=by
 refine⟨fun i m zzs H=>m=xs.length-i/\i<=xs.length/\R i zzs H,⟨xs.length,by lia,jj _,h0⟩,?_⟩;rintro i m zzs H ⟨rfl,hi,r⟩;by_cases hlt:i<xs.length
 ·refine .inr ⟨⟨xs,xs[i],hq i zzs H hi r,by simp[hlt]⟩,R (i+1),fun bG H' r'=>⟨xs.length-(i+1),by omega,rfl,hlt,r'⟩,?_⟩;rintro x H' ⟨rfl,hx⟩;exact hs i x zzs _ (hx xs (hq i zzs _ hi r)) r
 ·have e:i=xs.length:=by lia
  subst e;exact .inl ⟨⟨xs,hq _ zzs H (bK _) r,bK _⟩,hd zzs H r⟩
open Classical in
noncomputable def kindS(zs:List Str)(w:Nat)(c:Cell):Str:=if(∃ p∈aY zs w,12<p.length)\/rH zs w then "" else Am zs w c
theorem Qi{zs:List Str}{w:Nat}{c:Cell} (h:kindS zs w c = "open"):(∀ p∈aY zs w,p.length<=12)/\¬rH zs w/\¬bR zs w c false/\¬bR zs w c true:=by
 unfold kindS at h;by_cases z:(∃ p∈aY zs w,12<p.length)\/rH zs w
 ·rw[aL z] at h;exact absurd h (by decide)
 ·rw[aJ z] at h;unfold Am at h;refine⟨fun p hp=>M4 fun y=>z (.inl ⟨p,hp,by lia⟩),fun y=>z (.inr y),fun y=>?_,fun y=>?_⟩
  ·rw[aL y] at h;exact absurd h (by decide)
  ·by_cases x:bR zs w c false
   ·rw[aL x] at h;exact absurd h (by decide)
   ·rw[aJ x,aL y] at h;exact absurd h (by decide)
theorem Ku{zs:List Str}{w:Nat}{c:Cell} (h:kindS zs w c = "stone"):bR zs w c false:=by
 unfold kindS at h;by_cases z:(∃ p∈aY zs w,12<p.length)\/rH zs w
 ·rw[aL z] at h;exact absurd h (by decide)
 ·rw[aJ z] at h;unfold Am at h;by_cases x:bR zs w c false
  ·exact x
  ·rw[aJ x] at h;split at h<;>exact absurd h (by decide)
theorem Qh{zs:List Str}{w:Nat}{c:Cell} (h:kindS zs w c = "none"):bR zs w c true:=by
 unfold kindS at h;by_cases z:(∃ p∈aY zs w,12<p.length)\/rH zs w
 ·rw[aL z] at h;exact absurd h (by decide)
 ·rw[aJ z] at h;unfold Am at h;by_cases x:bR zs w c false
  ·rw[aL x] at h;exact absurd h (by decide)
  ·rw[aJ x] at h;by_cases y:bR zs w c true
   ·exact y
   ·rw[aJ y] at h;exact absurd h (by decide)
theorem Oe{K:ao}{H:Hp}{α:Type}{p:Cell->Prop}:∀ {us:List V} {xs:List α},gJ (fun _ v H=>∃ y,p y/\Den K H v (au y)) H us xs->∃ ys:List Cell,(∀ y∈ys,p y)/\aP K H us (ys.map au)
 |_,_,.nil=>⟨[],(fun y h=>by cases h),.nil⟩
 |_,_,.cons h t=>by
  obtain⟨y,py,hy⟩:=h;obtain⟨ys,pys,hs⟩:=Oe t;exact⟨y::ys,fun z hz=>by rcases cO.mp hz with e|e;(rw[e];exact py);exact pys z e,.cons hy hs⟩
theorem Jr{H:Hp}:∀ l:List Nat,gJ (fun(i:Nat) v _=>v=V.int (i:Int)) H (l.map fun i:Nat=>V.int (i:Int)) l
 |[]=>.nil
 |_::l=>.cons rfl (Jr l)
section
variable{P:Program}{w:World}{K:ao}{mg:Str->Option Value}{base:Heap}{Z:Adr}
theorem a0e{f:Addr}{fd:FuncData} (F:Fun K "law" "law" Ul f fd) (T:Txt K mg Z) (bD:Df P w K mg base 1 "_law_cell_at" ["script","k"] (Ak K)) (bU:Df P w K mg base 1 "_law_mix" ["cell","k","many"] JD) (kj:Df P w K mg base 4 "_law_view_by" ["script","most","steps"] (JH K)) (jA:Df P w K mg base 2 "_law_wrong_by" ["script","rows"] (Oz K))
  (JX:Md P w K mg base 3 "View" ["self","rows"] Z.View (Us K Z.View Z.BadView)) (g8:Df P w K mg base 1 "_law_cells" ["rows","signs"] (Gi K)) (pK:Df P w K mg base 9 "_law_told" ["view","cell"] (Ox K Z.View)) (nT:Df P w K mg base 2 "_law_keeps" ["rows","laying"] (JB K))
  (En:Df P w K mg base 8 "shown" ["view","cell"] (Uu K Z.View Z.NoCell Z.TooGreat Z.Impossible Z.NotOpen)) (El:Df P w K mg base 4 "keeps" ["view","laying"] (Oo K Z.View Z.BadLaying)) :
  cC P w K mg base (CXE P w) 10 f fd ["script"] (Oq K):=by
 refine F.rok jG (fun vs H Q E h=>?_) (fun cdv A outer s H vs Q E hr h=>?_)
 ·obtain⟨a,ns,rfl,_⟩:=h;rfl
 ·obtain⟨a,ns,rfl,hS,hq⟩:=h;have hu:=jV hr;have hu':=xZ hr;refine⟨_,(aA (aZ (i:=1) jG.nd rfl (Or.inl rfl) (aO jA hr rfl aQ (aj (rv 0) (aj (cH (cG (K:=K)) (aO kj hr rfl aQ (aj (rv 0) (aj (cH (cG (K:=K)) (dO (aj aH (aj aH (aj aH ak)))) (eV qj (aO bD hr rfl aQ (aj (rv 0) (aj aH ak))) aH)) (aj aH ak)))) aH) ak)))) (aA (aZ (i:=2) jG.nd rfl (Or.inr rfl) (a0W JX hr rfl aQ (aj (nH (S6 (K:=K)) rfl T.Eu Ew (aj (rv 1) ak)) ak))) (aA (aZ (i:=3) jG.nd rfl (Or.inr rfl) (aO g8 hr rfl aQ (aj (rv 1) (aj iz ak)))) (aA (aZ (i:=4) jG.nd rfl (Or.inr rfl) (aO bD hr rfl aQ (aj (rv 0) (aj aH ak)))) (aA (uD (i:=5) jG.nd rfl rfl (by rfl) rfl (dY rfl T.eZ (aj (aU (vC rfl) rfl T.Nm K6 (aj aH (aj (aU (dH (K:=K)) rfl T.dj cu (aj (rv 3) ak)) ak))) ak)) (fun _ _ _=>rB) (fun _ _ _=>(cH (cG (K:=K)) (rv 4) (aO bU hr rfl aQ (aj (rv 5) (aj (rv 0) (aj (aU (dH (K:=K)) rfl T.dj cu (aj (rv 4) ak)) ak))))))) (aA (uD (i:=6) jG.nd rfl rfl (by rfl) rfl (bx (K:=K) (rv 5)) (fun _ _ _=>rB) (fun _ _ _=>(aO pK hr rfl aQ (aj (rv 3) (aj (rv 0) ak))))) (aA (cL eO rfl (dY rfl T.eZ (aj (aU (dH (K:=K)) rfl T.dj cu (aj (rv 5) ak)) ak)) (bC (i:=7) jG.nd rfl (Or.inl rfl)) (aC (dR (bA (nG.or (nD (K:=K) hu)) (cH (cG (K:=K)) (rv 6) (rv 7)) iz (bW _)) (aA (aZ (i:=8) jG.nd rfl (Or.inl rfl) (aO En hr rfl aQ (aj (rv 2) (aj (cH (cG (K:=K)) (rv 5) (rv 7)) ak)))) (aA (dR (yh (xH (lB (j7 (aU (S5 (K:=K)) rfl T.ou rJ (aj (rv 8) (aj (a2w T.Np rfl Rh) ak))))) (xH (bA (DN.or (Dq (K:=K) hu)) (aU (dH (K:=K)) rfl T.dj cu (aj (rv 8) ak)) aH (bW _)) (xH (bA (eX.or (pq (K:=K) hu')) (cH (cG (K:=K)) (rv 5) (rv 7)) (cH (cG (K:=K)) (rv 8) aH) (by rfl)) (zT (bA (gn.or (kW (K:=K) hu')) (cH (cG (K:=K)) (rv 5) (rv 7)) (cH (cG (K:=K)) (rv 8) aH) (by rfl))))))) (aC (aR pH)) bN) (aC (cL eO rfl (WM (K:=K) (rv 8)) (bC (i:=9) jG.nd rfl (Or.inl rfl)) (aA (dR (yh (xH (lB (j7 (aU (S5 (K:=K)) rfl T.ou rJ (aj (rv 9) (aj (a2w T.Eu rfl Ew) ak))))) (xH (lB (j7 (aO nT hr rfl aQ (aj (rv 1) (aj (rv 9) ak))))) (zT (bA Xi (aO El hr rfl aQ (aj (rv 2) (aj (rv 9) ak))) pH (bW _)))))) (aC (aR pH)) bN) (aA (cL eO rfl (WQ (K:=K) rfl T.YG (aj (rv 5) (aj (rv 6) ak))) (zW rfl (gU (bC (i:=10) jG.nd rfl (Or.inl rfl)) (gU (bC (i:=11) jG.nd rfl (Or.inl rfl)) uz))) (aC (dR (yh (xH (yh (sJ (bA (nG.or (nD (K:=K) hu)) (rv 11) iz (bW _)) (oO (bA (gn.or (kW (K:=K) hu')) (rv 10) (rv 9) (by rfl))))) (zT (yh (sJ (bA (nG.or (nD (K:=K) hu)) (rv 11) iz (bW _)) (oO (bA (eX.or (pq (K:=K) hu')) (rv 10) (rv 9) (by rfl)))))))) (aC (aR pH)) bN))) (aC (gO (lX (K:=K) lN nO nP dX (rv 9) (aj (fu (aj aH (aj aH ak))) ak)))))))))) bN))) (aC (aR (zP (nG.or (nD (K:=K) hu)) (oK (K:=K) (rv 2)) (rv 1) (bW _))))))))))),?_⟩;refine aF (fun zzs H1=>∃(p:Addr)(zs:List Str)(w:Nat),Same H H1/\H1 p=some (.lst (zs.map V.str))/\Vw zs w/\zzs=[zzR a,zzR p,zzN,zzN,zzN,zzN,zzN,zzN,zzN,zzN,zzN,zzN]) (fun R hR=>?_) ?_
  ·refine⟨_,rfl,_,rfl,sz rfl,fun l hl=>?_⟩;have t1:=Same.put (o:=.lst [V.int 4,V.int 4,V.int 6]) hl;refine⟨_,rfl,a,ns,20,rfl,by decide,t1.seq hS,fun r0=>⟨_,_,rfl,rfl,(by show(0:Int)<3;decide),?_⟩⟩;obtain⟨v,hv,e⟩:=Et (xs:=([4,4,6]:List Int).map V.int) (i:=r0%3) (Bo _ (by decide)) (by simpa using Ba r0 (by decide:(0:Int)<3));obtain⟨n,hn,rfl⟩:=cT.mp hv;have n6:1<=n/\n<=6:=(by decide:∀ x∈([4,4,6]:List Int),1<=x/\x<=6) n hn;refine .inl ⟨l,_,_,_,rfl,rfl,SqL.of aD,e,?_⟩;refine⟨a,ns,n,4,rfl,t1.seq hS,n6.1,n6.2,by decide,by decide,fun t r p H1 h w st kn s1 nr np ht hr' hls h1 h6 w1 w6 sub nd kk=>?_⟩;refine .inr (.inl ⟨t,_,_,_,rfl,rfl,ht,cZ,?_⟩);refine⟨a,r,ns,_,w,rfl,(t1.trans s1).seq hS,hr',Um h1 (by lia) w1 (by lia),fun q zs' H2 s2 hq2 vw e=>?_⟩;exact hR _ _ ⟨q,zs',w,t1.trans (s1.trans s2),hq2,vw,rfl⟩
  rintro zzs H1 ⟨p,zs,w,s1,hp,vw,rfl⟩;refine aF (fun zzs H2=>∃(x:Addr),Same H1 H2/\dB Z.View H2 x zs w/\zzs=[zzR a,zzR p,zzR x,zzN,zzN,zzN,zzN,zzN,zzN,zzN,zzN,zzN]) (fun R hR=>?_) ?_
  ·refine⟨_,rfl,p,_,rfl,.inl (SqL.of hp),fun l hl=>?_⟩;intro x dx nx ndx nex;have n2:(upd (upd H1 l (.lst (zs.map V.str))) dx (.own x)) x=none:=by rw[bF nex.symm];exact nx
   have s6:Same (upd H1 l (.lst (zs.map V.str))) (upd (upd (upd H1 l (.lst (zs.map V.str))) dx (.own x)) x (.ins Z.View dx [])):=(Same.put ndx).and n2;have z6:=vw.le;have w6:=vw.w6;refine⟨x,dx,l,zs,rfl,aD,SqL.of (s6 _ _ aD),by lia,fun r hr'=>by have:=vw.len r hr';lia,fun hv=>(by rw[vw.ok] at hv;cases hv),fun _ H' lr z0' zt' e nlr nlx hlr hx' keep=>⟨rfl,?_⟩⟩;have e0:z0'.length=w:=vw.len z0' (by rw[e];exact dJ);have n1:H1 x=none:=by
    have:(upd H1 l (.lst (zs.map V.str))) x=none:=nx;by_cases hx:x=l
    ·subst hx;rw[aD] at this;cases this
    ·rwa[bF hx] at this
   refine hR _ _ ⟨x,fun b o hb=>keep b o (s6 _ _ ((Same.put hl) _ _ hb)) (bV hb n1),⟨⟨dx,lr,?_,hlr⟩,vw⟩,rfl⟩;rw[<- e0];exact hx'
  rintro zzs H2 ⟨x,s2,vt,rfl⟩;have hp2:=s2 _ _ hp;refine aF (fun zzs H3=>∃(q:Addr),Same H2 H3/\Ls K H3 q ((iy zs w "#").map au)/\zzs=[zzR a,zzR p,zzR x,zzR q,zzN,zzN,zzN,zzN,zzN,zzN,zzN,zzN]) (fun R hR=>?_) ?_
  ·exact⟨_,rfl,p,zs,w,"#",rfl,SqL.of hp2,vw.toRect,fun q H3 fr=>hR _ _ ⟨q,fr.same,fr.ls,rfl⟩⟩
  rintro zzs H3 ⟨q,s3,lq,rfl⟩;have hp3:=s3 _ _ hp2;have vt3:=vt.mono s3;have lc:(iy zs w "#").length<=36:=by rw[<- gZ];exact dN vw
  refine aF (fun zzs H4=>∃ c:Int,H3=H4/\zzs=[zzR a,zzR p,zzR x,zzR q,zzI c,zzN,zzN,zzN,zzN,zzN,zzN,zzN]) (fun R hR=>?_) ?_
  ·exact⟨_,rfl,a,ns,19,rfl,by decide,(s1.trans (s2.trans s3)).seq hS,fun r=>hR _ _ ⟨r,rfl,rfl⟩⟩
  rintro zzs H4 ⟨c,rfl,rfl⟩;refine aF (fun zzs H5=>∃(sm:Addr)(us:List V)(ys:List Cell),Same H3 H5/\H5 sm=some (.lst us)/\aP K H5 us (ys.map au)/\us.length<=6/\(∀ y∈ys,aK zs w y=true)/\zzs=[zzR a,zzR p,zzR x,zzR q,zzI c,zzR sm,zzN,zzN,zzN,zzN,zzN,zzN]) (fun R hR=>?_) ?_
  ·obtain⟨xs,ex,Dx⟩:=lq;have lx:xs.length=(iy zs w "#").length:=by rw[Dx.length,aV]
   obtain⟨n,en,n3,nx⟩:∃ n:Nat,(if((xs.length:Nat):Int)<6 then((xs.length:Nat):Int) else 6)=(n:Int)/\n<=6/\n<=xs.length:=by
    by_cases h:((xs.length:Nat):Int)<6
    ·exact⟨xs.length,aL h,by lia,bK _⟩
    ·exact⟨6,aJ h,by lia,by lia⟩
   refine⟨_,rfl,.inl ⟨q,_,rfl,.inl (SqL.of ex),6,_,rfl,?_⟩⟩;rw[en];refine⟨n,rfl,by lia,by lia,?_⟩;rw[jx];refine CZ (R:=fun(i:Nat) v _=>v=V.int (i:Int)) (R2:=fun(_:Nat) v H=>∃ y,aK zs w y=true/\Den K H v (au y)) (xs:=List.range n) (fun _ _ _ _ _ h=>h) (fun _ _ _ _ s h=>by obtain⟨y,hy,h⟩:=h;exact⟨y,hy,h.mono s⟩) (qm n) (Jr _) (by rw[lO];exact small (by lia)) id (fun i hi u H5 s5 ru G hG=>?_) (fun us H5 s5 D5 r nr=>?_)
   ·subst ru;have i1:=cJ.mp hi;refine⟨_,rfl,_,rfl,_,rfl,_,rfl,.inl ⟨q,_,rfl,.inl (SqL.of (s5 _ _ ex)),c,_,(xs.length:Int),rfl,by lia,fun r H6 r0 r1 t6=>?_⟩⟩;obtain⟨u,hu',e⟩:=Et (xs:=xs) (i:=r) r0 r1;obtain⟨y,ym,dy⟩:=Rv Dx hu';exact .inl ⟨q,_,_,_,rfl,rfl,SqL.of ((s5.trans t6) _ _ ex),e,hG _ _ t6 ⟨y,WY.mp ym,dy.mono (s5.trans t6)⟩⟩
   ·have l5:us.length=n:=by rw[D5.length,aV,lO]
    obtain⟨ys,cy,Dy⟩:=Oe D5;exact hR _ _ ⟨r,us,ys,s5.and nr,aD,Dy.mono (Same.put nr),by lia,cy,rfl⟩
  rintro zzs H5 ⟨sm,us,ys,s5,es,Ds,l6,cy,rfl⟩;have ly:ys.length=us.length:=by rw[Ds.length,aV]
  have vt5:=vt3.mono s5;have hp5:=s5 _ _ hp3;refine aF (fun zzs H6=>∃ kd:Addr,Same H5 H6/\H6 kd=some (.lst (ys.map fun y=>V.str (kindS zs w y)))/\zzs=[zzR a,zzR p,zzR x,zzR q,zzI c,zzR sm,zzR kd,zzN,zzN,zzN,zzN,zzN]) (fun R hR=>?_) ?_
  ·refine⟨_,rfl,sm,rfl,⟨_,SqL.of es⟩,comp_map (K:=K) (xs:=ys) (enc:=au) (bM (SqL.of es)) Ds (small (by lia)) (fun y=>Dt.str (kindS zs w y)) (fun y hy u H6 s6 d G hG=>?_) (fun vs H6 s6 D6 n hn=>?_)⟩
   ·refine⟨_,rfl,_,rfl,x,u,zs,w,y,rfl,vt5.mono s6,d,cy y hy,fun z H7 s7=>?_,fun h12 hno H7 s7=>?_⟩
    ·refine hG _ _ s7 ?_;unfold kindS;rw[aL z];exact .str _
    ·refine hG _ _ s7 ?_;unfold kindS;rw[aJ (fun z=>z.elim (fun⟨r,hr',y⟩=>by have:=h12 r hr';lia) hno)];exact .str _
   ·have ev:vs=ys.map fun y=>V.str (kindS zs w y):=by
     have go:∀ {vs:List V} {ls:List Cell},aP K H6 vs (ls.map fun y=>Dt.str (kindS zs w y))->vs=ls.map fun y=>V.str (kindS zs w y):=by
      intro vs ls
      induction ls generalizing vs with
      |nil=>intro h;cases h;rfl
      |cons a l ih=>
       intro h;cases h with
       |cons h t=>cases h;rw[ih t];rfl
     exact go D6
    subst ev;exact hR _ _ ⟨n,s6.and hn,aD,rfl⟩
  rintro zzs H6 ⟨kd,s6,ek,rfl⟩;have es6:=s6 _ _ es;have Ds6:=Ds.mono s6;have vt6:=vt5.mono s6;have hp6:=s6 _ _ hp5;refine aF (fun zzs H8=>∃ v7 v8 v9 v10 v11:Option V,Same H6 H8/\zzs=[zzR a,zzR p,zzR x,zzR q,zzI c,zzR sm,zzR kd,v7,v8,v9,v10,v11]) (fun R hR=>?_) ?_
  ·refine⟨_,rfl,.inl ⟨sm,_,rfl,.inl (SqL.of es6),us.length,rfl,by lia,by lia,?_⟩⟩;rw[jx];refine dW (lo:=0) (n:=us.length) (fun i zzs H8=>∃ v7 v8 v9 v10 v11:Option V,Same H6 H8/\zzs=[zzR a,zzR p,zzR x,zzR q,zzI c,zzR sm,zzR kd,v7,v8,v9,v10,v11])
    ⟨none,none,none,none,none,Same.refl _,rfl⟩ (fun i zzs H8 hi hh=>?_) (fun zzs H8 hh=>hR _ _ hh)
   obtain⟨v7,v8,v9,v10,v11,s8,rfl⟩:=hh;have hy:i<ys.length:=by lia
   have eu:us[i]?=some us[i]:=dU hi;obtain⟨d,ed,du⟩:=Ds6.get eu;rw[cV,dU hy] at ed;cases ed;have cyi:=cy _ (mG hy);generalize us[i]=u at eu du;generalize hyi:ys[i]=y at du cyi;have i0:(0:Int)+(i:Int)=(i:Int):=rQ _;have atk:∀ {G:Hp} {Q:VK},Same H6 G->Q (.str (kindS zs w y)) G->rIx K (.ref kd) (.int (0+(i:Int))) G Q:=fun g q=>.inl ⟨kd,_,_,_,rfl,rfl,SqL.of (g _ _ ek),by rw[i0];exact cY (by rw[cV,dU hy,hyi];rfl),q⟩
   have ats:∀ {G:Hp} {Q:VK},Same H6 G->Q u G->rIx K (.ref sm) (.int (0+(i:Int))) G Q:=fun g q=>.inl ⟨sm,_,_,_,rfl,rfl,SqL.of (g _ _ es6),by rw[i0];exact cY eu,q⟩
   refine⟨_,rfl,_,rfl,atk s8 (.inl ⟨rfl,_,rfl,?_⟩)⟩;refine dG (fun h1=>?_) (fun _=>⟨_,_,_,_,_,s8,rfl⟩);have ho:kindS zs w y = "open":=by
    have:=cN h1;injection this
   obtain⟨h12,hno,n0,n1⟩:=Qi ho;refine aF (fun zzs H9=>∃(t q0 q1:Addr)(d0 d1:List Cell),Same H8 H9/\H9 t=some (.tup [.ref q0,.ref q1])/\H8 q0=none/\H8 q1=none/\q0≠q1/\Ls K H9 q0 (d0.map au)/\Ls K H9 q1 (d1.map au)/\d0.Perm (layW zs w y false)/\Asc d0/\d1.Perm (layW zs w y true)/\Asc d1/\zzs=[zzR a,zzR p,zzR x,zzR q,zzI c,zzR sm,zzR kd,zzI (0+(i:Int)),zzR t,v9,v10,v11]) (fun R' hR'=>?_) ?_
   ·refine⟨_,rfl,_,rfl,_,rfl,ats s8 ?_⟩;refine⟨x,u,zs,w,y,rfl,vt6.mono s8,du.mono s8,⟨fun z=>(by rw[cyi] at z;cases z),fun _ ⟨r,hr',z⟩=>(by have:=h12 r hr';lia),fun _ _ z _=>absurd z n0⟩,fun _ _ _ z=>(z.elim n0 n1).elim,fun _ _ _ _ t q0 q1 d0 d1 H9 s9 et f0 f1 ne l0 l1 p0 a0 p1 a1=>hR' _ _ ⟨t,q0,q1,d0,d1,s9,et,f0,f1,ne,l0,l1,p0,a0,p1,a1,rfl⟩⟩
   rintro zzs H9 ⟨t,q0,q1,d0,d1,s9,et,f0,f1,ne,l0,l1,p0,a0,p1,a1,rfl⟩;have s89:=s8.trans s9;refine aF (fun zzs H10=>H9=H10/\zzs=[zzR a,zzR p,zzR x,zzR q,zzI c,zzR sm,zzR kd,zzI (0+(i:Int)),zzR t,v9,v10,v11]) (fun R' hR'=>?_) ?_
   ·refine⟨_,rfl,.inr ⟨_,_,_,rfl,rfl,t,_,true,rfl,.inl ⟨SqT.of et,T.Y7⟩,_,rfl,oJ ?_⟩⟩;refine⟨_,rfl,.inl ⟨t,_,rfl,.inr (SqT.of et),.inl ⟨rfl,_,rfl,oJ ?_⟩⟩⟩;refine⟨_,rfl,_,rfl,ats s89 ⟨_,rfl,.inr (.inl ⟨t,_,_,_,rfl,rfl,SqT.of et,cZ,.inr (rN (du.mono s89) l0.den ⟨_,rfl,?_⟩)⟩)⟩⟩;rw[Ah vw cyi n0 p0];refine oJ ⟨_,rfl,_,rfl,ats s89 ⟨_,rfl,.inr (.inl ⟨t,_,_,_,rfl,rfl,SqT.of et,cY (j:=1) rfl,.inr (lA (du.mono s89) l1.den ⟨_,rfl,?_⟩)⟩)⟩⟩;rw[Ah vw cyi n1 p1];exact oJ (hR' _ _ ⟨rfl,rfl⟩)
   rintro zzs H10 ⟨rfl,rfl⟩;have nt0:t≠q0:=fun z=>by obtain⟨_,e,_⟩:=l0;rw[<- z,et] at e;cases e
   have nt1:t≠q1:=fun z=>by obtain⟨_,e,_⟩:=l1;rw[<- z,et] at e;cases e
   refine⟨_,rfl,t,rfl,⟨_,SqT.of et⟩,?_⟩;refine Wn (K:=K) (xs:=[.ref q0,.ref q1]) (fun j zzs H10=>∃ v9 v10 v11:Option V,Same H8 H10/\H10 t=some (.tup [.ref q0,.ref q1])/\(j=0->Ls K H10 q0 (d0.map au))/\(j<=1->Ls K H10 q1 (d1.map au))/\zzs=[zzR a,zzR p,zzR x,zzR q,zzI c,zzR sm,zzR kd,zzI (0+(i:Int)),zzR t,v9,v10,v11])
    ⟨v9,v10,v11,s9,et,fun _=>l0,fun _=>l1,rfl⟩ (fun j zzs H10 _ hh=>by obtain⟨_,_,_,_,e,_⟩:=hh;exact SqT.of e) (fun j lv zzs H10 hj hh=>?_) (fun zzs H10 hh=>?_)
   ·obtain⟨v9,v10,v11,g1,g2,g3,g4,rfl⟩:=hh;have pick:∃(qq:Addr)(dd:List Cell)(bb:Bool),lv=.ref qq/\H8 qq=none/\t≠qq/\Ls K H10 qq (dd.map au)/\dd.Perm (layW zs w y bb)/\Asc dd/\¬bR zs w y bb/\(j+1<=1->qq≠q1):=by
     match j,hj with
     |0,hj=>cases hj;exact⟨q0,d0,false,rfl,f0,nt0,g3 rfl,p0,a0,n0,fun _=>ne⟩
     |1,hj=>cases hj;exact⟨q1,d1,true,rfl,f1,nt1,g4 (bK _),p1,a1,n1,fun z=>by lia⟩
    obtain⟨qq,dd,bb,rfl,fq,ntq,lq',pm,as,nb,nq1⟩:=pick;have asc:=DW vw nb pm as;have dcl:=uI vw nb pm;have dk:=Jy vw nb pm as;have sA:=s8.trans g1;obtain⟨xs,ex,Dx⟩:=id lq';have dl:dd.length<=36:=by
     have e:(cA zs w).filter (fun y=>decide (y∈dd))=dd:=by
      rw[vN (wX vw.le vw.w6) asc];exact Aw.mpr fun z hz=>bT (lZ.mpr (dcl z hz))
     rw[<- e];exact cP (iw _ _) (dN vw)
    refine aF (fun zzs H11=>Same H10 H11/\zzs=[zzR a,zzR p,zzR x,zzR q,zzI c,zzR sm,zzR kd,zzI (0+(i:Int)),zzR t,zzR qq,v10,v11]) (fun R' hR'=>?_) ?_
    ·refine⟨_,rfl,.inr ⟨_,_,_,rfl,rfl,qq,_,true,rfl,.inr ⟨SqL.of ex,T.Y5⟩,_,rfl,oJ ?_⟩⟩;refine⟨_,rfl,_,rfl,p,qq,zs,w,dd,rfl,SqL.of (sA _ _ hp6),vw,lq',asc,dcl,dk,fun H11 s11=>⟨true,rfl,oJ ?_⟩⟩;refine⟨_,rfl,_,rfl,x,qq,zs,w,dd,rfl,vt6.mono (sA.trans s11),lq'.mono s11,by lia,fun _ H12 s12=>?_,fun z=>(by rw[lay_of asc dcl] at z;cases z)⟩;rw[dk];exact⟨_,_,rfl,rfl,_,rfl,oJ (hR' _ _ ⟨s11.trans s12,rfl⟩)⟩
    rintro zzs H11 ⟨s11,rfl⟩;refine aF (fun zzs H12=>∃ v10 v11:Option V,Same H11 H12/\zzs=[zzR a,zzR p,zzR x,zzR q,zzI c,zzR sm,zzR kd,zzI (0+(i:Int)),zzR t,zzR qq,v10,v11]) (fun R' hR'=>?_) ?_
    ·refine⟨_,rfl,_,rfl,sm,kd,rfl,⟨_,SqL.of ((sA.trans s11) _ _ es6)⟩,⟨_,SqL.of ((sA.trans s11) _ _ ek)⟩,?_⟩;refine Wo (K:=K) (xs:=us) (ys:=ys.map fun y=>V.str (kindS zs w y)) (by rw[aV];exact ly) (fun j zzs H12=>∃ v10 v11:Option V,Same H11 H12/\zzs=[zzR a,zzR p,zzR x,zzR q,zzI c,zzR sm,zzR kd,zzI (0+(i:Int)),zzR t,zzR qq,v10,v11])
      ⟨v10,v11,Same.refl _,rfl⟩ (fun j zzs H12 _ hh=>by obtain⟨_,_,g,_⟩:=hh;exact⟨SqL.of ((sA.trans (s11.trans g)) _ _ es6),SqL.of ((sA.trans (s11.trans g)) _ _ ek)⟩) (fun j ov kv zzs H12 t' hj1 hj2 hh nt'=>?_) (fun zzs H12 hh=>hR' _ _ hh)
     obtain⟨v10,v11,k1,rfl⟩:=hh;rw[cV] at hj2;obtain⟨o,eo,rfl⟩:=iQ.mp hj2;obtain⟨dt,edt,dov⟩:=Ds6.get hj1;rw[cV,eo] at edt;cases edt;have sp:=Same.put (o:=.tup [ov,V.str (kindS zs w o)]) nt';have sB:=sA.trans (s11.trans (k1.trans sp));refine⟨t',_,rfl,SqT.of aD,rfl,_,_,rfl,_,_,rfl,rfl,?_⟩;have fin:∃ v10 v11:Option V,Same H11 (upd H12 t' (.tup [ov,V.str (kindS zs w o)]))/\([zzR a,zzR p,zzR x,zzR q,zzI c,zzR sm,zzR kd,zzI (0+(i:Int)),zzR t,zzR qq,some ov,some (.str (kindS zs w o))]:L2.St)=[zzR a,zzR p,zzR x,zzR q,zzI c,zzR sm,zzR kd,zzI (0+(i:Int)),zzR t,zzR qq,v10,v11]:=⟨_,_,k1.trans sp,rfl⟩
     have dq:=(lq'.mono (s11.trans (k1.trans sp))).den;have do':=dov.mono sB;refine⟨_,rfl,.inl ⟨rfl,_,rfl,?_⟩⟩;refine dG (fun z1=>?_) (fun z1=>?_)
     ·have e1:kindS zs w o = "stone":=by have:=cN z1;injection this
      refine⟨_,rfl,_,rfl,.inr (lA do' dq ⟨_,rfl,?_⟩)⟩;rw[Ai vw nb pm (Ku e1)];refine oJ ⟨_,rfl,.inl ⟨rfl,_,rfl,?_⟩⟩;rw[e1];rw[e1] at fin;exact oJ fin
     ·refine⟨_,rfl,.inl ⟨rfl,_,rfl,?_⟩⟩;refine dG (fun z2=>?_) (fun _=>fin);have e2:kindS zs w o = "none":=by have:=cN z2;injection this
      refine⟨_,rfl,_,rfl,.inr (rN do' dq ⟨_,rfl,?_⟩)⟩;rw[Ai vw nb pm (Qh e2)];exact oJ fin
    rintro zzs H12 ⟨v10,v11,s12,rfl⟩;have ZC:=(s11.trans s12) _ _ ex;refine⟨_,rfl,.inl ⟨rfl,_,SqL.of ZC⟩,sz rfl,fun t9 n9=>?_⟩;have t9':=Same.put (o:=.tup [V.int 9,V.int 9]) n9;have lx:xs.length<=36:=by rw[Dx.length,aV];exact dl
    dsimp only[sZ];refine jY (K:=K) (t9' _ _ ZC) (by lia) ?_;have sb:SameBut qq (upd H12 t9 (.tup [V.int 9,V.int 9])) (upd (upd H12 t9 (.tup [V.int 9,V.int 9])) qq (.lst (xs++[.ref t9]))):=(SameBut.refl qq _).put;have sC:=s11.trans (s12.trans t9');refine⟨_,_,_,sb.of (g1.trans sC) fq,sb _ _ (sC _ _ g2) ntq,fun z=>absurd z (by lia),fun z=>?_,rfl⟩;exact sb.ls (t9' _ _ ZC) (nq1 z).symm ((g4 (by lia)).mono sC)
   ·obtain⟨v9,v10,v11,g1,_,_,_,rfl⟩:=hh;exact⟨_,_,_,_,_,s8.trans g1,rfl⟩
  rintro zzs H8 ⟨v7,v8,v9,v10,v11,s8,rfl⟩;obtain⟨dx,l,hx,hl⟩:=(vt6.mono s8).ob;refine⟨_,rfl,x,Z.View,dx,_,_,rfl,hx,T.gb,T.gR,Ko _ _ _,_,rfl,.inr ⟨_,_,rfl,Nz hl,Nz (s8 _ _ hp6),Ag _,Wi zs,?_⟩⟩;show Q (.bl (eqD _ _)) _;rw[pZ];exact hq _
end
end My
namespace My
open PySem L2
def pI(x q:Str)(st:Stmt)(ps:List Str):Prop:=∀(kV doc pm:Value)(an:Option Addr)(cdv ct:Value)(us:List Value),us.length=ps.length->bindArgs (PySem.W.fnOf x q (iG st) (fL st) (aG st) .none kV doc pm an cdv ct) ⟨us,[]⟩=pure (ps.zip us)
theorem sE{us:List Value}{n:Nat}(h:us.length=n+1):∃ u us',us=u::us'/\us'.length=n:=by
 cases us with
 |nil=>cases h
 |cons u t=>exact⟨u,t,rfl,Nat.succ.inj h⟩
theorem bind1{x q:Str}{st:Stmt}{p0:Str}(h:∀(kV doc pm:Value) (an:Option Addr) (cdv ct u0:Value),bindArgs (PySem.W.fnOf x q (iG st) (fL st) (aG st) .none kV doc pm an cdv ct) ⟨[u0],[]⟩=pure [(p0,u0)]):pI x q st [p0]:=fun kV doc pm an cdv ct us hl=>by
 obtain⟨u0,t0,rfl,g0⟩:=sE (n:=0) hl;cases t0 with
 |nil=>exact h kV doc pm an cdv ct u0
 |cons _ _=>cases g0
theorem gw{x q:Str}{st:Stmt}{p0 p1:Str}(h:∀(kV doc pm:Value) (an:Option Addr) (cdv ct u0 u1:Value),bindArgs (PySem.W.fnOf x q (iG st) (fL st) (aG st) .none kV doc pm an cdv ct) ⟨[u0,u1],[]⟩=pure [(p0,u0),(p1,u1)]):pI x q st [p0,p1]:=fun kV doc pm an cdv ct us hl=>by
 obtain⟨u0,t0,rfl,g0⟩:=sE (n:=1) hl;obtain⟨u1,t1,rfl,g1⟩:=sE (n:=0) g0;cases t1 with
 |nil=>exact h kV doc pm an cdv ct u0 u1
 |cons _ _=>cases g1
theorem HN{x q:Str}{st:Stmt}{p0 p1 p2:Str}(h:∀(kV doc pm:Value) (an:Option Addr) (cdv ct u0 u1 u2:Value),bindArgs (PySem.W.fnOf x q (iG st) (fL st) (aG st) .none kV doc pm an cdv ct) ⟨[u0,u1,u2],[]⟩=pure [(p0,u0),(p1,u1),(p2,u2)]):pI x q st [p0,p1,p2]:=fun kV doc pm an cdv ct us hl=>by
 obtain⟨u0,t0,rfl,g0⟩:=sE (n:=2) hl;obtain⟨u1,t1,rfl,g1⟩:=sE (n:=1) g0;obtain⟨u2,t2,rfl,g2⟩:=sE (n:=0) g1;cases t2 with
 |nil=>exact h kV doc pm an cdv ct u0 u1 u2
 |cons _ _=>cases g2
theorem YH{x q:Str}{st:Stmt}{p0 p1 p2 p3:Str}(h:∀(kV doc pm:Value) (an:Option Addr) (cdv ct u0 u1 u2 u3:Value),bindArgs (PySem.W.fnOf x q (iG st) (fL st) (aG st) .none kV doc pm an cdv ct) ⟨[u0,u1,u2,u3],[]⟩=pure [(p0,u0),(p1,u1),(p2,u2),(p3,u3)]):pI x q st [p0,p1,p2,p3]:=fun kV doc pm an cdv ct us hl=>by
 obtain⟨u0,t0,rfl,g0⟩:=sE (n:=3) hl;obtain⟨u1,t1,rfl,g1⟩:=sE (n:=2) g0;obtain⟨u2,t2,rfl,g2⟩:=sE (n:=1) g1;obtain⟨u3,t3,rfl,g3⟩:=sE (n:=0) g2;cases t3 with
 |nil=>exact h kV doc pm an cdv ct u0 u1 u2 u3
 |cons _ _=>cases g3
theorem a1y{x q:Str}{st:Stmt}{p0 p1 p2 p3 p4:Str}(h:∀(kV doc pm:Value) (an:Option Addr) (cdv ct u0 u1 u2 u3 u4:Value),bindArgs (PySem.W.fnOf x q (iG st) (fL st) (aG st) .none kV doc pm an cdv ct) ⟨[u0,u1,u2,u3,u4],[]⟩=pure [(p0,u0),(p1,u1),(p2,u2),(p3,u3),(p4,u4)]):pI x q st [p0,p1,p2,p3,p4]:=fun kV doc pm an cdv ct us hl=>by
 obtain⟨u0,t0,rfl,g0⟩:=sE (n:=4) hl;obtain⟨u1,t1,rfl,g1⟩:=sE (n:=3) g0;obtain⟨u2,t2,rfl,g2⟩:=sE (n:=2) g1;obtain⟨u3,t3,rfl,g3⟩:=sE (n:=1) g2;obtain⟨u4,t4,rfl,g4⟩:=sE (n:=0) g3;cases t4 with
 |nil=>exact h kV doc pm an cdv ct u0 u1 u2 u3 u4
 |cons _ _=>cases g4
section
variable{P:Program}{w:World}{K:ao}{mg:Str->Option Value}{base h:Heap}
def bY(K:ao)(x:Str)(st:Stmt):Prop:=∃ f,PySem.W.nsIn K mainGlobals x=some (some (.ref f))/\∃ fd,Fun K x x st f fd
def JZ(K:ao)(C:Addr)(m q:Str)(st:Stmt):Prop:=∃ f,(PySem.W.findIn K (.ref C) m=some (some (.ref f))/\PySem.W.isFn K (.ref f)=true)/\∃ fd,Fun K m q st f fd
section
variable{x q:Str}{st:Stmt}{f C:Addr}{oc:Value}{od an:Option Addr}{osl:Array (Option Value)}{kV doc pm cdv ct:Value}
theorem a1D(a:PySem.W.nsIn K mainGlobals x=some (some (.ref f)))(l:K.lookup f=some ⟨oc,od,.func (PySem.W.fnOf x x (iG st) (fL st) (aG st) .none kV doc pm an cdv ct),osl⟩)(c:PySem.W.codeIn K cdv x=true)(k:PySem.W.keepIn K (.ref f)=true):bY K x st:=⟨f,a,_,RL l c k⟩
theorem a07(a:PySem.W.findIn K (.ref C) x=some (some (.ref f)))(i:PySem.W.isFn K (.ref f)=true)(l:K.lookup f=some ⟨oc,od,.func (PySem.W.fnOf x q (iG st) (fL st) (aG st) .none kV doc pm an cdv ct),osl⟩)(c:PySem.W.codeIn K cdv q=true)(k:PySem.W.keepIn K (.ref f)=true):JZ K C x q st:=⟨f,⟨a,i⟩,_,RL l c k⟩
end
theorem a2K{x:Str}{v:Int}{t:Tok}(h:PySem.W.nsIn K mainGlobals x=some (some (.int v t))):∃ t,PySem.W.nsIn K mainGlobals x=some (some (.int v t)):=⟨t,h⟩
theorem a3v{x v:Str}{t:Tok}(h:PySem.W.nsIn K mainGlobals x=some (some (.str v t))):∃ t,PySem.W.nsIn K mainGlobals x=some (some (.str v t)):=⟨t,h⟩
theorem a1E(X:K.In h)(G:h.Ns mainGlobals mg){x:Str}{st:Stmt}{k:Nat}{ps:List Str}{sp:Sp}(d:bY K x st)(hb:pI x x st ps)(ok:∀ f fd,Fun K x x st f fd->cC P w K mg base (CXE P w) k f fd ps sp):Df P w K mg base k x ps sp:=by
 obtain⟨f,a,fd,F⟩:=d;exact⟨⟨f,fd,ok f fd F,jQ X G a,F.kp,F.binds hb⟩⟩
theorem a03(X:K.In h)(G:h.Ns mainGlobals mg){fa:Addr}{st:Stmt}{k:Nat}{sp:Sp} (hfa:mg "law" = some (.ref fa)) (d:bY K "law" st) (hb:pI "law" "law" st ["script"]) (ok:∀ base f fd,Fun K "law" "law" st f fd->cC P w K mg base (CXE P w) k f fd ["script"] sp) :
  ∃ fd:FuncData,(∀(s:Shared)(v:Value),BindsTo s fd ⟨[v],[]⟩ [("script",v)])/\∀ base:Heap,K.In base->base.Ns mainGlobals mg->cC P w K mg base (CXE P w) k fa fd ["script"] sp:=by
 obtain⟨f,a,fd,F⟩:=d;have e:=hfa.symm.trans (jQ X G a);cases e;refine⟨fd,fun s v=>?_,fun base _ _=>ok base _ _ F⟩;obtain⟨oc,od,kV,doc,pm,an,cdv,ct,osl,rfl,lk,hcd⟩:=F.ex;exact .of_eq (hb kV doc pm an cdv ct [v] rfl)
theorem a1U(X:K.In h)(G:h.Ns mainGlobals mg){x q:Str}{st:Stmt}{C:Addr}{k:Nat}{ps:List Str}{sp:Sp}(a:PySem.W.nsIn K mainGlobals x=some (some (.ref C)))(mk:PySem.W.makesIn K C=true)(kc:PySem.W.keepIn K (.ref C)=true) (m:JZ K C "__init__" q st) (hb:pI "__init__" q st ps) (ok:∀ f fd,Fun K "__init__" q st f fd->cC P w K mg base (CXE P w) k f fd ps sp):Md P w K mg base k x ps C sp:=by
 obtain⟨f,⟨b,i⟩,fd,F⟩:=m;exact⟨⟨f,fd,⟨mk,b,i,kc⟩,ok f fd F,jQ X G a,F.binds hb⟩⟩
end
theorem all_mk{l:PySem.W.OpenLaw}{w:World}{K:ao}{h:Heap}{mg:Str->Option Value}{fa:Addr}(X:K.In h)(G:h.Ns mainGlobals mg) (hfa:mg "law" = some (.ref fa))
  {iY:Addr}
  {vm:Addr}
  {pU:Addr}
  {yP:Addr}
  {o7:Addr}
  {jU:Addr}
  {vo:Addr}
  {o8:Addr}
  (o9:PySem.W.nsIn K mainGlobals "FieldError" = some (some (.ref iY)))
  (vp:PySem.W.nsIn K mainGlobals "BadView" = some (some (.ref vm)))
  (pW:PySem.W.nsIn K mainGlobals "BadLaying" = some (some (.ref pU)))
  (yQ:PySem.W.nsIn K mainGlobals "NoCell" = some (some (.ref yP)))
  (rY:PySem.W.nsIn K mainGlobals "TooGreat" = some (some (.ref o7)))
  (oh:PySem.W.nsIn K mainGlobals "Impossible" = some (some (.ref jU)))
  (vq:PySem.W.nsIn K mainGlobals "NotOpen" = some (some (.ref vo)))
  (Ep:PySem.W.nsIn K mainGlobals "View" = some (some (.ref o8)))
  (jX:PySem.W.excIn K iY [.type "ValueError",.type "Exception",.type "BaseException",.type "object"] "ValueError.__new__" = true)
  (rD:PySem.W.excIn K vm [.type "ValueError",.type "Exception",.type "BaseException",.type "object"] "ValueError.__new__" = true)
  (mj:PySem.W.excIn K pU [.type "ValueError",.type "Exception",.type "BaseException",.type "object"] "ValueError.__new__" = true)
  (nM:PySem.W.excIn K yP [.type "ValueError",.type "Exception",.type "BaseException",.type "object"] "ValueError.__new__" = true)
  (lJ:PySem.W.excIn K o7 [.type "ValueError",.type "Exception",.type "BaseException",.type "object"] "ValueError.__new__" = true)
  (jc:PySem.W.excIn K jU [.type "ValueError",.type "Exception",.type "BaseException",.type "object"] "ValueError.__new__" = true)
  (rE:PySem.W.excIn K vo [.type "ValueError",.type "Exception",.type "BaseException",.type "object"] "ValueError.__new__" = true)
  (yg:JZ K o8 "__init__" "View.__init__" jC)
  (gb:Cls K o8)
  (X3:PySem.W.makesIn K o8=true)
  (WD:PySem.W.keepIn K (.ref o8)=true)
  (gR:PySem.W.findIn K (.ref o8) "rows" = some none)
  (fJ:PySem.W.findIn K (.ref o8) "height" = some none)
  (gk:PySem.W.findIn K (.ref o8) "width" = some none)
  (iK:∃ t,PySem.W.nsIn K mainGlobals "MOST_ROWS" = some (some (.int 6 t)))
  (fQ:∃ t,PySem.W.nsIn K mainGlobals "MOST_COLUMNS" = some (some (.int 6 t)))
  (gC:∃ t,PySem.W.nsIn K mainGlobals "CLOSED_SIGN" = some (some (.str "#" t)))
  (qU:∃ t,PySem.W.nsIn K mainGlobals "SIGNS" = some (some (.str "#012345678" t)))
  (ig:∃ t,PySem.W.nsIn K mainGlobals "MOST_CELLS" = some (some (.int 12 t)))
  (a2M:PySem.W.nsIn K mainGlobals "all" = some none)
  (a2N:PySem.W.nsIn K mainGlobals "int" = some none)
  (Gq:PySem.W.nsIn K mainGlobals "isinstance" = some none)
  (a2O:PySem.W.nsIn K mainGlobals "len" = some none)
  (a1t:PySem.W.nsIn K mainGlobals "list" = some none)
  (a2P:PySem.W.nsIn K mainGlobals "max" = some none)
  (a2Q:PySem.W.nsIn K mainGlobals "min" = some none)
  (YB:PySem.W.nsIn K mainGlobals "range" = some none)
  (Va:PySem.W.nsIn K mainGlobals "sorted" = some none)
  (a2R:PySem.W.nsIn K mainGlobals "str" = some none)
  (YC:PySem.W.nsIn K mainGlobals "tuple" = some none)
  (a2S:PySem.W.nsIn K mainGlobals "zip" = some none)
  (Y6:PySem.W.kitOne K (.ref o7) (.ref iY)=some true)
  (Y4:PySem.W.kitOne K (.ref jU) (.ref iY)=some true)
  (Y7:PySem.W.kitOne K (.type "tuple") (.type "tuple")=some true)
  (Y5:PySem.W.kitOne K (.type "list") (.type "list")=some true)
  (zm:bY K "_law_cell_at" lC)
  (Kf:bY K "_law_mix" sU)
  (Ia:bY K "_law_near" qt)
  (Fl:bY K "_law_sizes" oW)
  (Fg:bY K "_law_cells" oR)
  (Cd:bY K "_law_figure" mO)
  (xX:bY K "_law_field_by" jD)
  (Fj:bY K "_law_shown" oV)
  (Ce:bY K "_law_opened" mQ)
  (zp:bY K "_law_view_by" lD)
  (xY:bY K "_law_wrong_by" jE)
  (Rq:bY K "is_row" Ab)
  (PJ:bY K "is_size" wk)
  (PK:bY K "is_view" wu)
  (Kg:bY K "has_cell" sV)
  (Ig:bY K "is_closed" qx)
  (Wb:bY K "cells" FZ)
  (Zu:bY K "near" Li)
  (Ii:bY K "open_near" qz)
  (Cg:bY K "closed_near" mR)
  (Ro:bY K "closed" zZ)
  (Zt:bY K "edge" Lh)
  (a1B:bY K "far" Uk)
  (Rp:bY K "figure" Aa)
  (Ih:bY K "is_laying" qy)
  (Ci:bY K "stones_near" mU)
  (Wc:bY K "keeps" G9)
  (Rr:bY K "joined" Ac)
  (Wf:bY K "parts" Ga)
  (Pz:bY K "demands" wg)
  (Kh:bY K "may_hold" sW)
  (PL:bY K "layings" wz)
  (PB:bY K "is_lone" wj)
  (zu:bY K "lone_layings" lF)
  (Py:bY K "choices" w5)
  (PX:bY K "settled" wA)
  (zq:bY K "first_laying" lE)
  (Ie:bY K "both_ways" qw)
  (Zv:bY K "sure" Lj)
  (Wg:bY K "shown" Gb)
  (Ib:bY K "_law_told" qu)
  (Fi:bY K "_law_keeps" oU)
  (a1C:bY K "law" Ul) :
  ∃ fd:FuncData,(∀(s:Shared)(v:Value),BindsTo s fd ⟨[v],[]⟩ [("script",v)])/\∀ base:Heap,K.In base->base.Ns mainGlobals mg->cC l.prog w K mg base (CXE l.prog w) 10 fa fd ["script"] (Oq K):=by
 obtain⟨_,iK⟩:=iK;obtain⟨_,fQ⟩:=fQ;obtain⟨_,gC⟩:=gC;obtain⟨_,qU⟩:=qU;obtain⟨_,ig⟩:=ig;have T:Txt K mg ⟨iY,vm,pU,yP,o7,jU,vo,o8⟩:={ Nj:=pD X G a2M,Nk:=pD X G a2N,ou:=pD X G Gq,dj:=pD X G a2O,Eu:=pD X G a1t,Rf:=pD X G a2P,Nm:=pD X G a2Q,eZ:=pD X G YB,tO:=pD X G Va,YF:=pD X G a2R,Np:=pD X G YC,YG:=pD X G a2S,iK:=⟨_,jQ X G iK⟩,fQ:=⟨_,jQ X G fQ⟩,gC:=⟨_,jQ X G gC⟩,qU:=⟨_,jQ X G qU⟩,ig:=⟨_,jQ X G ig⟩,tQ:=jQ X G o9,jX:=⟨jX⟩,Cy:=jQ X G vp,rD:=⟨rD⟩,wU:=jQ X G pW,mj:=⟨mj⟩,tU:=jQ X G yQ,nM:=⟨nM⟩,yZ:=jQ X G rY,lJ:=⟨lJ⟩,tR:=jQ X G oh,jc:=⟨jc⟩,Cz:=jQ X G vq,rE:=⟨rE⟩,Zk:=jQ X G Ep,gb:=gb,gR:=gR,fJ:=fJ,gk:=gk,Y6:=Y6,Y4:=Y4,Y7:=Y7,Y5:=Y5 }
 refine a03 X G hfa a1C (bind1 fun _ _ _ _ _ _ _=>rfl) fun base _ _ F=>?_
 have dm:=@a1E l.prog w K mg base h X G;have cm:=@a1U l.prog w K mg base h X G;have bD:=dm zm (gw fun _ _ _ _ _ _ _ _=>rfl) fun _ _ F=>X8 F T
 have bU:=dm Kf (HN fun _ _ _ _ _ _ _ _ _=>rfl) fun _ _ F=>a0g F T
 have eY:=dm Ia (HN fun _ _ _ _ _ _ _ _ _=>rfl) fun _ _ F=>Xc F T
 have nW:=dm Fl (bind1 fun _ _ _ _ _ _ _=>rfl) fun _ _ F=>Tc F T
 have g8:=dm Fg (gw fun _ _ _ _ _ _ _ _=>rfl) fun _ _ F=>SQ F T
 have gB:=dm Cd (YH fun _ _ _ _ _ _ _ _ _ _=>rfl) fun _ _ F=>Qv F T eY
 have jz:=dm xX (gw fun _ _ _ _ _ _ _ _=>rfl) fun _ _ F=>SX F T bD bU
 have nU:=dm Fj (YH fun _ _ _ _ _ _ _ _ _ _=>rfl) fun _ _ F=>T9 F T gB
 have mJ:=dm Ce (a1y fun _ _ _ _ _ _ _ _ _ _ _=>rfl) fun _ _ F=>Qy F T eY gB
 have kj:=dm zp (HN fun _ _ _ _ _ _ _ _ _=>rfl) fun _ _ F=>QB F T bD bU jz mJ nU
 have jA:=dm xY (gw fun _ _ _ _ _ _ _ _=>rfl) fun _ _ F=>Te F T bD bU
 have yN:=dm Rq (gw fun _ _ _ _ _ _ _ _=>rfl) fun _ _ F=>a0h F T
 have uZ:=dm PJ (gw fun _ _ _ _ _ _ _ _=>rfl) fun _ _ F=>Xf F T
 have vd:=dm PK (bind1 fun _ _ _ _ _ _ _=>rfl) fun _ _ F=>Xh F T yN uZ
 have JX:=cm Ep X3 WD yg (gw fun _ _ _ _ _ _ _ _=>rfl) fun _ _ F=>Xa F T vd
 have jl:=dm Kg (gw fun _ _ _ _ _ _ _ _=>rfl) fun _ _ F=>a0d F T
 have bB:=dm Ig (gw fun _ _ _ _ _ _ _ _=>rfl) fun _ _ F=>Jd F T jl
 have jT:=dm Wb (bind1 fun _ _ _ _ _ _ _=>rfl) fun _ _ F=>Jc F T
 have nY:=dm Zu (gw fun _ _ _ _ _ _ _ _=>rfl) fun _ _ F=>T8 F T jl
 have cU:=dm Ii (gw fun _ _ _ _ _ _ _ _=>rfl) fun _ _ F=>Jf F T nY bB
 have cX:=dm Cg (gw fun _ _ _ _ _ _ _ _=>rfl) fun _ _ F=>Ck F T nY bB
 have mW:=dm Ro (bind1 fun _ _ _ _ _ _ _=>rfl) fun _ _ F=>Qu F T jT bB
 have uX:=dm Zt (bind1 fun _ _ _ _ _ _ _=>rfl) fun _ _ F=>T7 F T mW cU
 have Rc:=dm a1B (bind1 fun _ _ _ _ _ _ _=>rfl) fun _ _ F=>Xd F T mW cU
 have iV:=dm Rp (gw fun _ _ _ _ _ _ _ _=>rfl) fun _ _ F=>KJ F T
 have pL:=dm Ih (gw fun _ _ _ _ _ _ _ _=>rfl) fun _ _ F=>Je F T bB
 have mK:=dm Ci (HN fun _ _ _ _ _ _ _ _ _=>rfl) fun _ _ F=>Qz F T nY
 have El:=dm Wc (gw fun _ _ _ _ _ _ _ _=>rfl) fun _ _ F=>T4 F T pL jT bB iV mK
 have mX:=dm Rr (gw fun _ _ _ _ _ _ _ _=>rfl) fun _ _ F=>Qw F T cU cX
 have Em:=dm Wf (bind1 fun _ _ _ _ _ _ _=>rfl) fun _ _ F=>T6 F T uX mX
 have uW:=dm Pz (gw fun _ _ _ _ _ _ _ _=>rfl) fun _ _ F=>KD F T cU cX iV
 have rT:=dm Kh (gw fun _ _ _ _ _ _ _ _=>rfl) fun _ _ F=>a0f F T
 have vf:=dm PL (gw fun _ _ _ _ _ _ _ _=>rfl) fun _ _ F=>KH F T uX mX uW rT
 have uY:=dm PB (gw fun _ _ _ _ _ _ _ _=>rfl) fun _ _ F=>Xb F T bB cX
 have kE:=dm zu (bind1 fun _ _ _ _ _ _ _=>rfl) fun _ _ F=>T5 F T jT uY iV
 have uV:=dm Py (bind1 fun _ _ _ _ _ _ _=>rfl) fun _ _ F=>KC F T Em vf Rc kE
 have qO:=dm PX (HN fun _ _ _ _ _ _ _ _ _=>rfl) fun _ _ F=>KN F T
 have iW:=dm zq (bind1 fun _ _ _ _ _ _ _=>rfl) fun _ _ F=>T3 F T
 have iI:=dm Ie (gw fun _ _ _ _ _ _ _ _=>rfl) fun _ _ F=>X7 F T bB uV qO iW
 have JV:=dm Zv (gw fun _ _ _ _ _ _ _ _=>rfl) fun _ _ F=>Xg F T iI
 have En:=dm Wg (gw fun _ _ _ _ _ _ _ _=>rfl) fun _ _ F=>Xe F T iI
 have pK:=dm Ib (gw fun _ _ _ _ _ _ _ _=>rfl) fun _ _ F=>Td F T JV
 have nT:=dm Fi (gw fun _ _ _ _ _ _ _ _=>rfl) fun _ _ F=>Qx F T nW g8 eY
 exact a0e F T bD bU kj jA JX g8 pK nT En El
theorem walk{l:PySem.W.OpenLaw}{q:Program}{loose:List Str}{XP:(Str->Option Value)->Heap->Prop}{YP:World->Heap->Prop}{d:DefRec}{K:Params->ao}(hn:l.most=some 63)(hdf:d.params.defaults=[])
  (hY:∀(w:World)(h:Heap),YP w h->(K w.params).In h)
  (F:∀(w:World)(mg:Str->Option Value)(fa:Addr)(h:Heap),(K w.params).In h->h.Ns mainGlobals mg->mg d.name=some (.ref fa) ->
   ∃ fd:FuncData,(∀(s:Shared)(u:Value),BindsTo s fd ⟨[u],[]⟩ [("script",u)])/\∀ base:Heap,(K w.params).In base->base.Ns mainGlobals mg->cC l.prog w (K w.params) mg base (CXE l.prog w) 10 fa fd ["script"] (Oq (K w.params))) :
  PySem.W.WalkO q loose XP YP l.row.toRowW d [] (fun f vs=>PySem.call f vs):=
 L2.Yv (n:=63) (k:=10) (x:="script") (CX:=fun w=>CXE l.prog w) (sp:=fun w=>Oq (K w.params)) hn (by decide) hdf ⟨rfl,by decide,by decide⟩ hY F (fun _ _ a ns hl _ hS=>⟨a,ns,rfl,hS,fun _=>rfl⟩) fun _ _ _ _ _ z=>by
  obtain⟨_,_,_,_,_,_,_,_,_,z⟩:=z;exact z
end My
namespace PySem.W.Fast
def tw167009067549500201:=0
def tw4798648465810621434:=0
def tw17310876148474896040:=0
def tw4691986693695737823:=0
def tw9442111904705237535:=0
def tw11126095220893941837:=0
def tw2469242704760550823:=0
def tw2243014861960679593:=0
def tw6134784326528859960:=0
def tw16693519834543203303:=0
def tw15114586481578004938:=0
def tw8351299955224906739:=0
def tw18345653013928379490:=0
def tw14661563326592182026:=0
def tw4772245331321394280:=0
def tw8073359922312491804:=0
def tw8975898809411944116:=0
def tw7145052809267245868:=0
def tw3998089332310279658:=0
def tw16602488784940487951:=0
def tw11384267507517029398:=0
def tw291959406882144966:=0
def tw13438645759921005813:=0
def tw9261712735771034398:=0
def tw16275571755738915385:=0
def tw10999676934731829688:=0
def tw7901674577093384265:=0
def tw10610764786391123666:=0
def tw5892693991215195666:=0
def tw7751273894624780382:=0
def tw8410844178908947279:=0
def tw14098022273305696420:=0
def tw15401046647457617240:=0
def tw16928005978807190013:=0
def tw5914979099884904041:=0
def tw4351386663729617383:=0
def tw18183307616659167055:=0
def tw17025687728965835299:=0
def tw13178853123794494971:=0
def tw5938322679559182786:=0
def tw3009191457951547465:=0
def tw1837666712540909588:=0
def tw16877979455903116634:=0
def tw809090846111619977:=0
def tw15419041487223265756:=0
def tw9833313008589125958:=0
def tw3049034128194211119:=0
def tw14999820847763727100:=0
def tw14188919265005402272:=0
def tw15336605922670094608:=0
def tw10170389958673546923:=0
def tw13187207507991983048:=0
def tw12147036415326054121:=0
def tw16755157919271204452:=0
def tw6404047546332656750:=0
def tw1906822188072712067:=0
def tw2639180637075240489:=0
def tw10204430426294734349:=0
def tw564180368750257767:=0
def tw15199600819973744433:=0
def tw9986844219576758159:=0
def tw13268077906295873193:=0
def tw15938347100255849672:=0
def tw7716077338039572112:=0
def tw1043811315461657063:=0
def tw3194863250618165254:=0
def tw9295530713216220478:=0
def tw17850743259492980413:=0
def tw18211698227092233071:=0
def tw7945216263658091416:=0
def tw8784159698806506299:=0
def tw13631280491039931235:=0
def tw17268310047965514511:=0
def tw1484681955993632547:=0
def tw4304022225169115296:=0
def tw11368261392998467255:=0
def tw17724950414443825236:=0
def tw6319081757362347847:=0
def tw12935902611048160240:=0
def tw14582529985796427433:=0
def tw4149263471359860764:=0
def tw7323536674049583663:=0
def tw13247906997629749704:=0
def tw12633402830027539317:=0
def tw7690253444472226617:=0
def tw1071541268139543431:=0
def tw12848494537696413293:=0
def tw16682117963727684406:=0
def tw11515902907139003518:=0
def tw5091401927322727721:=0
def tw8715531629046322319:=0
def tw11786576359054868452:=0
def tw11230200078445354682:=0
def tw17335496899013746447:=0
def tw2143287503918572245:=0
def tw17416659072047637391:=0
def tw5885753591937722948:=0
def tw69519242546869630:=0
def tw13766618882426068279:=0
def tw10269968471522123750:=0
def tw10743034807110626084:=0
def tw10586051756759291133:=0
def tw4988090772079391083:=0
def tw8749008602395464507:=0
def tw7003582880762963853:=0
def tw9883289802680084484:=0
def tw2190654833281342583:=0
def tw13394694156554571808:=0
def tw12584390510497166403:=0
def tw9581555247610365593:=0
def tw267930110175584514:=0
def tw10288567977871071947:=0
def tw1777495321931182097:=0
def tw765884598720775572:=0
def tw15522890552740869413:=0
def tw14533799372948463510:=0
def tw17686444606862731451:=0
def tw10786900193273883871:=0
def tw16514578634162291145:=0
def tw10065965845079376209:=0
def tw4431621951522800547:=0
def tw14748063703173248503:=0
def tw16587585572308979298:=0
def tw18037486800287445198:=0
def tw15644230187567316668:=0
def tw1893107009605581284:=0
def tw13288350720312019358:=0
def tw13594133136546207645:=0
def tw4367305280272147850:=0
def tw16657940117296898010:=0
def tw18347422635454463510:=0
def tw13395243728304503721:=0
def tw13058627348385631721:=0
def tw7557587019821974966:=0
def tw5277474784248518730:=0
def tw840993775714355830:=0
def tw2053389015695348591:=0
def tw11345967553681066594:=0
def tw8447779883696309198:=0
def tw2722699321459661333:=0
def tw8750278866796521641:=0
def tw14884045623770092287:=0
def tw4200218739863818564:=0
def tw7630196854842237451:=0
def tw17202425816504312431:=0
def tw6673683592028750203:=0
def tw3204005145085547446:=0
def tw13966407019337090111:=0
def tw7674791929853905455:=0
def tw3152277735222686611:=0
def tw1077390588353997791:=0
def tw9772096530022272761:=0
def tw581968279162847018:=0
def tw9837477104981127075:=0
def tw15087163037828246243:=0
def tw18164575776873401722:=0
def tw5929568274117618094:=0
def tw12312520198740144710:=0
def tw10523647268915988735:=0
def tw11130504171200561999:=0
def tw5010071683756465547:=0
def tw4845551876815576129:=0
def tw14365203428266964003:=0
def tw2912872365113832448:=0
def tw8242689105596324381:=0
def tw15637266510798146354:=0
def tw6700949863221347500:=0
def tw4714708438080931724:=0
def tw11996944940995732142:=0
def tw995400539281002993:=0
def tw11118142890052913935:=0
def tw14998852838800882781:=0
def tw17838099134648522383:=0
def tw6037373283605318018:=0
def tw1724447563970919749:=0
def tw18013757010065755677:=0
def tw14625032928145870303:=0
def tw8842450551653796126:=0
def tw17999083941748843992:=0
def tw15795005225563261613:=0
def tw2253457608234703552:=0
def tw6132987823975985483:=0
def tw10576364763889364335:=0
def tw449362597146368878:=0
def tw206991698709611122:=0
def tw14812552761998767458:=0
def tw8686721466680337434:=0
def tw6332826878678784472:=0
def tw3552921062047015229:=0
def tw12927668108877180977:=0
def tw9018575612878246846:=0
def tw2902748596011997397:=0
def tw12277729384067502987:=0
def tw9252658757031502565:=0
def tw1410878154966626813:=0
def tw1027408530244802889:=0
def tw14931851608188831476:=0
def tw4650894569266449006:=0
def tw9947466222519115617:=0
def tw14332808661583635424:=0
def tw9641805889783100893:=0
def tw13128572772221880234:=0
def tw18012902792279315680:=0
def tw13225830091346133383:=0
def tw8485949793791989255:=0
def tw708566426951218220:=0
def tw16158037928207426013:=0
def tw14157570371479066994:=0
def tw11183293234146443885:=0
def tw16213458437590695234:=0
def tw3625917069189759388:=0
def tw5726235610820157206:=0
def tw7949827753496482353:=0
def tw13287173881680684249:=0
def tw14322698338073176589:=0
def tw3546311990053019957:=0
def tw362778889354847779:=0
def tw8207944075597120062:=0
def tw3900901405065312000:=0
def tw16483388906359937057:=0
def tw12352413562014037968:=0
def tw17940479843982892583:=0
def tw15083800674551033610:=0
def tw16002737553963823762:=0
def tw1821112779149331195:=0
def tw17095048659941245541:=0
def tw11210960138422977447:=0
def tw17179325754689424913:=0
def tw11899340571697501388:=0
def tw4212724676428421071:=0
def tw4243591856022848952:=0
def tw8340218362096130786:=0
def tw2628141907535128486:=0
def tw9411237401892449667:=0
def tw9815293644051974326:=0
def tw11697626785484661604:=0
def tw86726665192000954:=0
def tw14369398290502485864:=0
def tw13781016074743441918:=0
def tw3674757286161309207:=0
def tw3020411910196451673:=0
def tw13581229348228639631:=0
def tw12536891457169996101:=0
def tw10619696545950661842:=0
def tw11981888851065539473:=0
end PySem.W.Fast
open PySem PySem.W PyProof.Rows
set_option maxRecDepth 100000 in
set_option maxHeartbeats 0 in
theorem PySem.Challenge.cw_dampfield_k09_whole_what_is_shown_holds : PySem.Challenge.rw_dampfield_k09_whole_what_is_shown.Holds := by
 w_on;o_law;k_head;(case hw=>w_witness2)
 k_fill
 refine My.walk (l:=PySem.Challenge.rw_dampfield_k09_whole_what_is_shown) rfl rfl (fun w h Y=>PySem.W.kIn_of Y) ?F
 case F=>
  intro w mg fa h KX G hmg
  refine' My.all_mk KX G hmg ?o9 ?vp ?pW ?yQ ?rY ?oh ?vq ?Ep ?_ ?_ ?_ ?_ ?_ ?_ ?_ ?_ ?_ ?_ ?_ ?_ ?_ ?_ ?_ ?_ ?_ ?_ ?_ ?_ ?_ ?_ ?_ ?_ ?_ ?_ ?_ ?_ ?_ ?_ ?_ ?_ ?_ ?_ ?_ ?_ ?_ ?_ ?_ ?_ ?_ ?_ ?_ ?_ ?_ ?_ ?_ ?_ ?_ ?_ ?_ ?_ ?_ ?_ ?_ ?_ ?_ ?_ ?_ ?_ ?_ ?_ ?_ ?_ ?_ ?_ ?_ ?_ ?_ ?_ ?_ ?_ ?_ ?_ ?_ ?_ ?_ ?_
  (case o9=>k_is)
  (case vp=>k_is)
  (case pW=>k_is)
  (case yQ=>k_is)
  (case rY=>k_is)
  (case oh=>k_is)
  (case vq=>k_is)
  (case Ep=>k_is)
  iterate 7 k_exc
  iterate 1 (refine' My.a07 ?a ?i ?b ?c ?d;(case a=>k_is);(case i=>k_is);(case b=>k_is);(case c=>k_is);(case d=>k_is))
  iterate 1 (refine' ⟨?_,?_,?_,?_⟩<;>k_is)
  iterate 5 k_is
  iterate 2 (refine' My.a2K ?a;(case a=>k_is))
  iterate 2 (refine' My.a3v ?a;(case a=>k_is))
  iterate 1 (refine' My.a2K ?a;(case a=>k_is))
  iterate 12 k_is
  iterate 4 kit_is
  iterate 43 (refine' My.a1D ?a ?b ?c ?d;(case a=>k_is);(case b=>k_is);(case c=>k_is);(case d=>k_is))
