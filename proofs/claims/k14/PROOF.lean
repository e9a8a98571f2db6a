import PyProof.Rows.All
import Wide.All
import OpenK.AllK
import Wide.FinOn
import Lean
import PyProof.EqAt
import PyProof.EqKinds
import PyProof.TupleCall
import PySem.Challenge.RW_dampfield_k14_whole_counts_together
set_option maxHeartbeats 4000000
set_option Elab.async false
set_option linter.all false
set_option maxRecDepth 100000
def aJ:=@if_neg
def aK:=@if_pos
def bG:=@decide_eq_true
def bV:=@decide_eq_false
def dN:=@of_decide_eq_true
def iw:=@decide_eq_true_iff
def lX:=@beq_eq_false_iff_ne
def pK:=@of_decide_eq_false
def iM:=@beq_iff_eq
def jD:=@if_false
def jT:=@if_true
def Bu:=@decide_eq_decide
def Ny:=@beq_self_eq_true
open Array renaming getElem?_eq_getElem->jK,length_toList->jk,getD_eq_getD_getElem?->pJ,toList_append->jW,getElem?_toList->wU,toList_reverse->GQ,getElem?_eq_some_iff->Mx,getElem_mem_toList->Mz,toList_push->Hu,getElem_toList->Ni,toList_setIfInBounds->Ws,toList_inj->Nz,getElem?_eq_none->WL,toList_extract->WW,append_assoc->X7,size_extract->Xb
open Bool renaming false_ne_true->fW,and_eq_true->jY,not_eq_true'->lY,false_eq_true->vB,true_and->pN,eq_iff_iff->sZ,false_and->vD,not_eq_false'->uf,and_false->BJ,or_eq_true->NT,beq_eq_decide_eq->WR,and_true->O2,false_or->O4,or_eq_true_iff->X6
def Bh:=@Classical.byContradiction
open Int renaming toNat_natCast->jm,zero_add->nT,add_zero->pF,eq_ofNat_of_zero_le->Gy,emod_lt_of_pos->Br,toNat_of_nonneg->Ho,emod_nonneg->Bx,natCast_nonneg->Hr,one_mul->xK,mul_nonneg->O1,zero_mul->O6,mul_one->O7,le_refl->O8
open List renaming length_map->aN,getD_eq_getElem?_getD->dj,mem_singleton->dU,getElem?_eq_getElem->gP,length_append->cL,mem_cons_self->cU,mem_cons_of_mem->dI,getElem?_map->cM,size_toArray->cN,mem_filter->cB,mem_append->cD,mem_of_getElem?->eO,mem_cons->bW,mem_range->cR,getElem?_eq_some_iff->iI,mem_append_right->gn,length_cons->dY,map_append->dZ,map_cons->dJ,length_filter_le->iJ,mem_map->dR,mem_append_left->jj,take_length->iK,length_range->jo,take_succ->iC,all_eq_true->jq,length_singleton->nQ,length_take->jX,getElem_mem->lZ,drop_eq_getElem_cons->yw,getElem?_append_right->BZ,filter_append->sU,pairwise_cons->sV,pairwise_iff_getElem->Ca,mem_of_mem_take->yx,map_map->nR,take_of_length_le->Cd,replicate_succ->yC,getElem?_append_left->Ep,range_succ->tu,take_append_drop->Ce,pairwise_append->Cg,append_assoc->yD,nodup_append->yE,foldl_cons->vC,sum_cons->tD,lookup_cons->yF,append_nil->qX,flatten_cons->ug,length_drop->uh,filter_cons->um,mem_filterMap->wV,length_replicate->Bj,getElem?_eq_none->Bl,getElem?_of_mem->Bm,mem_of_mem_drop->Bo,any_eq_true->wY,length_eq_zero_iff->Gz,pairwise_singleton->GC,length_nil->wZ,find?_cons->xg,sum_append->xq,filter_eq_nil_iff->GF,ext_getElem?->Bs,getElem?_toArray->GK,any_cons->xu,filter_eq_self->GZ,map_congr_left->Hf,flatMap_append->Hg,filter_sublist->Hh,nodup_cons->Bv,getElem?_replicate->MJ,getElem?_cons_succ->MK,filter_congr->Ht,foldl_append->Hw,getElem?_set_self->MP,drop_of_length_le->N7,all_cons->BP,mem_reverse->Hx,perm_append_comm->Nb,pairwise_reverse->Nf,length_set->Hz,nil_append->HB,mem_iff_getElem->Nh,filterMap_cons->Nj,getElem?_range->Nk,drop_zero->HF,drop_drop->HJ,nodup_nil->HN,perm_ext_iff_of_nodup->Wt,flatMap_cons->Nt,reverse_perm->Nu,getElem?_take_of_lt->Ww,map_nil->HW,all_map->HX,getElem_map->NP,sublist_append_left->Wx,of_mem_zip->NQ,range_succ_eq_map->WD,length_pos_of_mem->WK,contains_iff_mem->WQ,take_zero->NZ,getElem?_set_ne->WT,reverse_append->X4,modify_toArray->X5,map_replicate->Xd
def Nq:=@List.Nodup.sublist
def Nv:=@List.Sublist.refl
open Nat renaming le_refl->bK,le_trans->cO,ne_of_lt->dO,lt_of_lt_of_le->jl,mul_le_mul->jZ,lt_irrefl->kh,zero_le->kj,zero_add->pD,lt_succ_of_lt->wX,le_of_ble_eq_true->GJ,lt_succ_self->Bt,pow_le_pow_right->GX,min_eq_left->Bw,ne_of_gt->xG,add_zero->xH,le_succ->BW,lt_of_le_of_lt->Np,le_of_lt->HS,add_le_add_left->X3,succ_mul->O5
def ig:=@Ne.symm
open Option renaming map_eq_some_iff->j9,map_some->pL,isSome_iff_exists->Wv
open Option.some renaming inj->iy,injEq->sY
def jh:=@Prod.ext
open PyProof.Rows renaming wpS_bind->aX,wpS_pure->aZ,wpS_forRange->jt,wpS_mono->ju,wpS_modify->nU,wpS_get->jU,callWith_type1->Mw,wpS_lift->uw,mirror_perm->BX,assignInOrder_cons->Nm
open PySem renaming wpAny_bind->aO,wpAny_pure->cF,wpAny_mono->fX,wpAny_eqBool_int->qZ,wpAny_truthy_bool->sX,sizeLine_eq->mZ,wpAny_passesOwn->uo,wpAny_newObj_type->wW,wpAny_comprehension_free->Gx,mem_of_lookup->Bp,lookup_relabel_local->GP,wpAny_holding->xr,wpAny_isSubtype_exc->Hl,wpAny_Call_Name_kw->Hq,wpAny_rule->uq,call_meets->ur,wpAny_list_append_plain->MN,wpAny_assign_Name->Hs,wpAny_loadPart_at->Hv,codeAny_compStart_list->N5,richCompare_meets_room->N6,wpAny_standAt->BK,wpAny_execs_nil->Hy,codeAny_mono->BR,wpAny_newFunctionEnv->Ng,codeAny_builtin->HD,wpAny_pyIter_list->Nr,wpAny_execs_cons->Nx,wpAny_call_entry->NK,wpAny_field->I8
def GR:=@PySem.Around.under_plainId
def MF:=@PySem.AutoSeq1.sub_tuple_tuple
open PySem.Calls renaming Name_function_global->Wr,call_function_entry->Wu
open PySem.F renaming plainAttrs_list->qY,slot_list_append->sO,type_list_append->sS,slot_dict_keyiterator_next->K7,excBase_ValueError->Gw,args_dict_keyiterator_next_1->Wo,entry_dict_keyiterator_next->Wq,plain_list_iadd->Wy,slot_dict_iter->WM,slot_list_lt->WX
open PySem.Heap renaming get?_push_of_some->fu,lt_size->bD,get?_push_size->iu,of_hide->mY,get?_update_other->GD,get?_update_ne->Hj,hide_ne->xJ,get?_update_self->N8
def eE:=@PySem.PassesOwn.never
def HY:=@PySem.SeqAt.EqAt.of_refs
def Xc:=@PySem.Txt.slice_le
open PySem.W renaming mg_of->mK,mg_none_of->sW,cellsFrom_some->Wz,hideAll_get->WY,of_hideAll->X8,callWith_K->Xa
abbrev ao:=PySem.W.Frag
namespace L2
open PySem PySem.Spec PyProof.Rows
abbrev Key:=Sum Int Str
def DQ:Key->Value->Bool
 |.inl k,v=>Value.isInt k v
 |.inr x,v=>Value.isStrOf x v
def a3F(w:World):Key->Int
 |.inl k=>hashInt k
 |.inr x=>hashStr w x
theorem eZ:∀ {k:Key} {v:Value},DQ k v=true->(∃ i t,k=Sum.inl i/\v=Value.int i t)\/(∃ x t,k=Sum.inr x/\v=Value.str x t)
 |.inl i,v,h=>by
  obtain⟨t,e⟩:=Value.isInt_shape (k:=i) (v:=v) h;exact .inl ⟨i,t,rfl,e⟩
 |.inr x,v,h=>by
  obtain⟨t,e⟩:=Value.isStrOf_shape (x:=x) (v:=v) h;exact .inr ⟨x,t,rfl,e⟩
theorem R8(i:Int)(t:Tok):DQ (.inl i) (.int i t)=true:=by simp[DQ,Value.isInt]
theorem R9(x:Str)(t:Tok):DQ (.inr x) (.str x t)=true:=by simp[DQ,Value.isStrOf]
theorem a0w(a b:Int):decide ((Sum.inl a:Key)=Sum.inl b)=(a==b):=by
 by_cases e:a=b
 ·subst e;simp
 ·have h:¬(Sum.inl a:Key)=Sum.inl b:=fun q=>e (Sum.inl.inj q)
  rw[bV h];exact(lX.mpr e).symm
theorem a0z(a b:Str):decide ((Sum.inr a:Key)=Sum.inr b)=decide (a=b):=by
 by_cases e:a=b
 ·subst e;simp
 ·have h:¬(Sum.inr a:Key)=Sum.inr b:=fun q=>e (Sum.inr.inj q)
  rw[bV h,bV e]
theorem a0x(a:Int)(b:Str):decide ((Sum.inl a:Key)=Sum.inr b)=false:=bV (fun q=>nomatch q)
theorem a0y(a:Str)(b:Int):decide ((Sum.inr a:Key)=Sum.inl b)=false:=bV (fun q=>nomatch q)
def fY(prog:Program)(w:World):PySem.KeyKind prog w Key where
 is:=DQ
 hash:=a3F w
 inj:=fun v a b ha hb=>by
  rcases eZ ha with⟨i,t,rfl,rfl⟩|⟨x,t,rfl,rfl⟩
  ·rcases eZ hb with⟨j,u,rfl,e⟩|⟨y,u,rfl,e⟩
   ·injection e with e1 _;rw[e1]
   ·exact nomatch e
  ·rcases eZ hb with⟨j,u,rfl,e⟩|⟨y,u,rfl,e⟩
   ·exact nomatch e
   ·injection e with e1 _;rw[e1]
 byValue:=fun k v h=>by
  rcases eZ h with⟨i,t,rfl,rfl⟩|⟨x,t,rfl,rfl⟩<;>rfl
 pyHash:=fun hv h=>by
  rcases eZ hv with⟨i,t,rfl,rfl⟩|⟨x,t,rfl,rfl⟩
  ·exact wpAny_pyHash_int h
  ·exact wpAny_pyHash_str h
 eqBool:=fun hu hv h=>by
  rcases eZ hu with⟨i,t,rfl,rfl⟩|⟨x,t,rfl,rfl⟩
  ·rcases eZ hv with⟨j,u,rfl,rfl⟩|⟨y,u,rfl,rfl⟩
   ·rw[a0w] at h;exact qZ h
   ·rw[a0x] at h;exact SeqAt.EqAt.int_str i t y u _ _ _ _ h
  ·rcases eZ hv with⟨j,u,rfl,rfl⟩|⟨y,u,rfl,rfl⟩
   ·rw[a0y] at h;exact SeqAt.EqAt.str_int x t j u _ _ _ _ h
   ·rw[a0z] at h;exact wpAny_eqBool_str h
 «strs»:=fun k x t v h=>by
  rcases eZ h with⟨i,u,rfl,e⟩|⟨y,u,rfl,e⟩
  ·exact nomatch e
  ·injection e with e1 _;subst e1;cases v<;>rfl
theorem Jj(prog:Program)(w:World)(i:Int)(t:Tok):(fY prog w).is (.inl i) (.int i t)=true:=R8 i t
theorem Jk(prog:Program)(w:World)(x:Str)(t:Tok):(fY prog w).is (.inr x) (.str x t)=true:=R9 x t
inductive V where
 |non|bl (b:Bool)|int (i:Int)|str (x:Str)|byt (b:Array UInt8)|flt (b:UInt64)|ref (a:Addr)|ty (n:String)
 deriving DecidableEq
def RelV:V->Value->Prop
 |.non,u=>u=Value.none
 |.bl b,u=>u=Value.bool b
 |.int i,u=>∃ t,u=Value.int i t
 |.str x,u=>∃ t,u=Value.str x t
 |.byt b,u=>∃ t,u=Value.bytes b t
 |.flt b,u=>∃ t,u=Value.float b t
 |.ref a,u=>u=Value.ref a
 |.ty n,u=>u=Value.type n
abbrev Vals:List V->List Value->Prop:=Paired RelV
theorem Vals.length{xs:List V}{us:List Value}(r:Vals xs us):xs.length=us.length:=Paired.length r
theorem Vals.get:∀ {xs:List V} {us:List Value} {i:Nat} {x:V},Vals xs us->xs[i]?=some x->∃ u,us[i]?=some u/\RelV x u
 |_,_,_,_,.nil,e=>by simp at e
 |_,_,0,_,.cons r _,e=>by simp at e;subst e;exact⟨_,rfl,r⟩
 |_,_,i+1,x,.cons _ t,e=>by
  obtain⟨u,h1,h2⟩:=Vals.get (i:=i) (x:=x) t (by simpa using e);exact⟨u,by simpa using h1,h2⟩
theorem Vals.set{x:V}{u:Value}(r:RelV x u):∀ {xs:List V} {us:List Value} (i:Nat),Vals xs us->Vals (xs.set i x) (us.set i u)
 |_,_,_,.nil=>.nil
 |_,_,0,.cons _ t=>.cons r t
 |_,_,i+1,.cons q t=>.cons q (Vals.set r i t)
theorem Vals.append:∀ {xs ys:List V} {us ws:List Value},Vals xs us->Vals ys ws->Vals (xs++ys) (us++ws)
 |_,_,_,_,.nil,s=>s
 |_,_,_,_,.cons r t,s=>.cons r (Vals.append t s)
theorem Vals.take:∀ {xs:List V} {us:List Value} (n:Nat),Vals xs us->Vals (xs.take n) (us.take n)
 |_,_,0,_=>.nil
 |_,_,_+1,.nil=>.nil
 |_,_,n+1,.cons r t=>.cons r (Vals.take n t)
theorem Vals.drop:∀ {xs:List V} {us:List Value} (n:Nat),Vals xs us->Vals (xs.drop n) (us.drop n)
 |_,_,0,r=>r
 |_,_,_+1,.nil=>.nil
 |_,_,n+1,.cons _ t=>Vals.drop n t
def zq:Option V->Option Value->Prop
 |some v,some u=>RelV v u
 |none,none=>True
 |_,_=>False
def KV{κ:Type}:List (κ×V)->List (κ×Value)->Prop:=Paired fun(p:κ×V)(q:κ×Value)=>p.1=q.1/\RelV p.2 q.2
def kV:Key->V
 |.inl i=>.int i
 |.inr x=>.str x
inductive HO where
 |lst (xs:List V)
 |tup (xs:List V)
 |dK (kvs:List (Key×V))|dT (kvs:List (List Key×V))
 |set (S:Int->Bool) (n:Nat)
 |ins (C dx:Addr) (fs:List (Str×V))
 |own (x:Addr)
 |xd (fs:List (Str×V))
 |met (f x:Addr)
 |rng (lo hi:Int)
 |frz (o:Obj) (u:HO)
 |tbl (ps:Array Value)
 |ext (φ:Heap->Prop)
abbrev Hp:=Addr->Option HO
def upd(H:Hp)(a:Addr)(o:HO):Hp:=fun b=>if b=a then some o else H b
theorem aD{H:Hp}{a:Addr}{o:HO}:upd H a o a=some o:=by unfold upd;rw[aK rfl]
theorem bF{H:Hp}{a b:Addr}{o:HO}(h:b≠a):upd H a o b=H b:=by unfold upd;rw[aJ h]
theorem qy{H:Hp}{a b:Addr}{o u:HO}(h:H a=some o)(h':H b=some u)(d:o≠u):a≠b:=by
 intro e;subst e;rw[h] at h';exact d (iy h')
theorem bU{H:Hp}{a b:Addr}{o:HO}(h:H a=some o)(h':H b=none):a≠b:=by
 intro e;subst e;rw[h] at h';cases h'
section
variable(P:Program)(w:World)
def gG(H:Hp)(h:Heap)(a:Addr):HO->Prop
 |.lst xs=>xs.length<=sizeLine/\∃(its:List Value)(n:Nat),Vals xs its/\h.get? a=some { cls:=.type "list",data:=.seq its.toArray n }
 |.tup xs=>xs.length<=sizeLine/\∃ its:List Value,Vals xs its/\IsTup h a its.toArray
 |.dK kvs=>kvs.length<=sizeLine/\(a==sysModules)=false/\∃ vs,KV kvs vs/\h.DictOf (fY P w) a vs
 |.dT kvs=>kvs.length<=sizeLine/\(a==sysModules)=false/\∃ xs:List (List Key×Addr×Value),
   Paired (fun(p:List Key×V)(q:List Key×Addr×Value)=>p.1=q.1/\H q.2.1=some (.tup (p.1.map kV))/\RelV p.2 q.2.2) kvs xs /\
   ∃ o es ep,h.get? a=some o/\o.ExactDict/\o.data=.dict es ep/\es.toList=xs.map (entryOfKey (tupleKind (fY P w)))/\(xs.map (·.1)).Nodup
 |.set S n=>h.SetOf (intKind P w) a S n
 |.ins C dx fs=>H dx=some (.own a)/\fs.length<=1000/\dx≠a/\h.get? a=some (PySem.W.instObj C dx) /\
   ∃ mA,h.Ns1 dx mA/\(∀ f,zq (fs.lookup f) (mA f))/\PySem.Within mA (fs.map (·.1))
 |.own _=>∃ o,h.get? a=some o
 |.xd fs=>∃ mA,h.Ns1 a mA/\∀ f,zq (fs.lookup f) (mA f)
 |.rng lo hi=>∃ t u v,h.get? a=some { cls:=.type "range",data:=.fields #[.int lo t,.int hi u,.int 1 v] }
 |.frz o u=>h.get? a=some o/\gG H h a u
 |.tbl ps=>h.get? a=some { cls:=.none,data:=.fields ps }
 |.met f x=>h.get? a=some (PySem.W.methodObj (.ref f) (.ref x))
 |.ext φ=>φ h/\(∃ o,h.get? a=some o)/\∀ h1 h2:Heap,φ h1->(∀ o,h1.get? a=some o->h2.get? a=some o)->φ h2
def HOk(H:Hp)(h:Heap):Prop:=∀ a o,H a=some o->gG P w H h a o
end
section
variable{P:Program}{w:World}{H H':Hp}{h h':Heap}{a:Addr}{o:HO}
theorem gG.lt(x:gG P w H h a o):a<h.objs.size:=by
 cases o with
 |lst xs=>obtain⟨_,_,_,_,e⟩:=x;exact bD e
 |tup xs=>obtain⟨_,_,_,p⟩:=x;exact p.lt
 |dK kvs=>obtain⟨_,_,_,_,o,_,_,e,_⟩:=x;exact bD e
 |dT kvs=>obtain⟨_,_,_,_,o,_,_,e,_⟩:=x;exact bD e
 |set S n=>obtain⟨o,_,_,_,e,_⟩:=x;exact bD e
 |ins C dx fs=>obtain⟨_,_,_,e,_⟩:=x;exact bD e
 |own y=>obtain⟨_,e⟩:=x;exact bD e
 |xd fs=>obtain⟨_,⟨_,_,_,e,_⟩,_⟩:=x;exact bD e
 |rng lo hi=>obtain⟨_,_,_,e⟩:=x;exact bD e
 |frz ob u=>obtain⟨e,_⟩:=x;exact bD e
 |tbl ps=>exact bD (show h.get? a=some _ from x)
 |met f y=>exact bD (show h.get? a=some _ from x)
 |ext φ=>obtain⟨_,⟨_,e⟩,_⟩:=x;exact bD e
theorem Paired.a0D{α β:Type}{F G:α->β->Prop}:∀ {l₁:List α} {l₂:List β},Paired F l₁ l₂->(∀ a b,F a b->G a b)->Paired G l₁ l₂
 |_,_,.nil,_=>.nil
 |_,_,.cons r t,f=>.cons (f _ _ r) (Paired.a0D t f)
theorem gG.stay(x:gG P w H h a o)(k:∀ b u,(b=a\/H b=some (.own a))->h.get? b=some u->h'.get? b=some u)
  (ho:∀ b,H b=some (.own a)->H' b=some (.own a)) (ht:∀ b xs,H b=some (.tup xs)->H' b=some (.tup xs)):gG P w H' h' a o:=by
 induction o with
 |lst xs=>obtain⟨z,its,n,r,e⟩:=x;exact⟨z,its,n,r,k _ _ (.inl rfl) e⟩
 |tup xs=>obtain⟨z,its,r,ob,e,c⟩:=x;exact⟨z,its,r,ob,k _ _ (.inl rfl) e,c⟩
 |dK kvs=>obtain⟨z,y,vs,r,ob,es,ep,e,c⟩:=x;exact⟨z,y,vs,r,ob,es,ep,k _ _ (.inl rfl) e,c⟩
 |dT kvs=>
  obtain⟨z,y,xs,r,ob,es,ep,e,c⟩:=x;exact⟨z,y,xs,Paired.a0D r fun p q z=>⟨z.1,ht _ _ z.2.1,z.2.2⟩,ob,es,ep,k _ _ (.inl rfl) e,c⟩
 |set S n=>obtain⟨ob,es,ep,t,e,c⟩:=x;exact⟨ob,es,ep,t,k _ _ (.inl rfl) e,c⟩
 |ins C dx fs=>
  obtain⟨d,z,ne,e,mA,⟨od,es,ep,e2,c⟩,r⟩:=x;exact⟨ho _ d,z,ne,k _ _ (.inl rfl) e,mA,⟨od,es,ep,k _ _ (.inr d) e2,c⟩,r⟩
 |own y=>obtain⟨ob,e⟩:=x;exact⟨ob,k _ _ (.inl rfl) e⟩
 |xd fs=>obtain⟨mA,⟨od,es,ep,e,c⟩,r⟩:=x;exact⟨mA,⟨od,es,ep,k _ _ (.inl rfl) e,c⟩,r⟩
 |rng lo hi=>obtain⟨t,u,v,e⟩:=x;exact⟨t,u,v,k _ _ (.inl rfl) e⟩
 |frz ob u ih=>obtain⟨e,q⟩:=x;exact⟨k _ _ (.inl rfl) e,ih q⟩
 |tbl ps=>
  have e:h.get? a=some { cls:=.none,data:=.fields ps }:=x;show h'.get? a=some { cls:=.none,data:=.fields ps };exact k a _ (.inl rfl) e
 |met f y=>
  have e:h.get? a=some (PySem.W.methodObj (.ref f) (.ref y)):=x;show h'.get? a=some (PySem.W.methodObj (.ref f) (.ref y));exact k a _ (.inl rfl) e
 |ext φ=>obtain⟨p,⟨o,e⟩,st⟩:=x;exact⟨st _ _ p fun o q=>k _ _ (.inl rfl) q,⟨o,k _ _ (.inl rfl) e⟩,st⟩
theorem HOk.lt(x:HOk P w H h)(e:H a=some o):a<h.objs.size:=(x a o e).lt
theorem HOk.fresh(x:HOk P w H h)(e:h.objs.size<=a):H a=none:=by
 cases q:H a with
 |none=>rfl
 |some u=>exact absurd (jl (x.lt q) e) (kh _)
theorem HOk.kept(x:HOk P w H h)(k:∀ b u,h.get? b=some u->h'.get? b=some u):HOk P w H h':=fun a o e=>
 (x a o e).stay (fun b u _ q=>k b u q) (fun _ q=>q) fun _ _ q=>q
theorem HOk.laid(x:HOk P w H h)(k:∀ b u,h.get? b=some u->h'.get? b=some u)(hp:h.objs.size<=a)(new:gG P w (upd H a o) h' a o):HOk P w (upd H a o) h':=fun b u e=>by
 have hn:=x.fresh hp;by_cases hb:b=a
 ·subst hb;rw[aD] at e;cases e;exact new
 ·rw[bF hb] at e;exact(x b u e).stay (fun c v _ q=>k c v q) (fun c q=>by rw[bF (bU q hn)];exact q) fun c xs q=>by rw[bF (bU q hn)];exact q
end
def Rd(H:Hp)(a:Addr)(u:HO):Prop:=H a=some u\/∃ o,H a=some (.frz o u)
theorem Rd.ok{P:Program}{w:World}{H:Hp}{h:Heap}{a:Addr}{u:HO}(r:Rd H a u)(x:HOk P w H h):gG P w H h a u:=by
 rcases r with r|⟨o,r⟩
 ·exact x a u r
 ·obtain⟨_,q⟩:=x a _ r;exact q
def Mut:Option HO->Prop
 |some (.lst _)=>True
 |some (.dK _)=>True
 |some (.dT _)=>True
 |some (.set _ _)=>True
 |some (.ins _ _ _)=>True
 |some (.ext _)=>True
 |_=>False
section
variable{P:Program}{w:World}{H:Hp}{h h':Heap}{x e:Addr}{o':HO}
theorem HOk.write(ok:HOk P w H h)(mu:Mut (H x))(he:e=x\/H e=some (.own x))(k:∀ b u,b≠e->h.get? b=some u->h'.get? b=some u)(heo:∃ u,h'.get? e=some u)
  (new:gG P w (upd H x o') h' x o'):HOk P w (upd H x o') h':=fun b u q=>by
 have a2z:∀ c y,H c=some (.own y)->c≠x:=fun c y r z=>by subst z;rw[r] at mu;exact mu
 have a3Q:∀ c xs,H c=some (.tup xs)->c≠x:=fun c xs r z=>by subst z;rw[r] at mu;exact mu
 by_cases hb:b=x
 ·subst hb;rw[aD] at q;cases q;exact new
 ·rw[bF hb] at q;by_cases hbe:b=e
  ·have q':H b=some (.own x):=by
    rcases he with z|z
    ·exact absurd (hbe.trans z) hb
    ·rw[hbe];exact z
   rw[q] at q';cases q';obtain⟨v,hv⟩:=heo;exact⟨v,by rw[hbe];exact hv⟩
  ·refine(ok b u q).stay (fun c v hc r=>k c v ?_ r) (fun c r=>by rw[bF (a2z c b r)];exact r) fun c xs r=>by rw[bF (a3Q c xs r)];exact r
   rcases hc with rfl|hc
   ·exact hbe
   ·rintro rfl;rcases he with z|z
    ·exact a2z c b hc z
    ·rw[hc] at z;cases z;exact hb rfl
end
structure Un(fs ex:List Addr)(H H':Hp)(h h':Heap):Prop where
 keep:∀ b o,h.get? b=some o->H b=none->b∉fs->b∉ex->h'.get? b=some o
 slot:∀ b o,h.get? b=some o->H b=none->b∈fs->b∉ex->∃ sl,h'.get? b=some { o with slots:=sl }
 free:∀ b o,h.get? b=some o->H b=none->b∉ex->H' b=none
 there:∀ b o,h.get? b=some o->b∉ex->∃ o',h'.get? b=some o'
 tups:∀ b xs,H b=some (.tup xs)->H' b=some (.tup xs)
 pQ:∀ b o u,H b=some (.frz o u)->H' b=some (.frz o u)
 qR:∀ b ps,H b=some (.tbl ps)->∃ more,H' b=some (.tbl (ps++more))
section
variable{fs fs' ex ex':List Addr}{H H1 H2:Hp}{h h1 h2 h':Heap}{a x e:Addr}{o:HO}
theorem Un.any(u:Un fs ex H H1 h h1){b:Addr}{ob:Obj}(q:h.get? b=some ob)(n:H b=none)(hx:b∉ex):∃ sl,h1.get? b=some { ob with slots:=sl }:=by
 by_cases hb:b∈fs
 ·exact u.slot b ob q n hb hx
 ·exact⟨ob.slots,u.keep b ob q n hb hx⟩
theorem Un.trans(a:Un fs ex H H1 h h1)(b:Un fs ex H1 H2 h1 h2):Un fs ex H H2 h h2 where
 keep:=fun c ob q n hc hx=>b.keep c ob (a.keep c ob q n hc hx) (a.free c ob q n hx) hc hx
 slot:=fun c ob q n hc hx=>by
  obtain⟨sl,e1⟩:=a.slot c ob q n hc hx;obtain⟨sl',e2⟩:=b.slot c _ e1 (a.free c ob q n hx) hc hx;exact⟨sl',e2⟩
 free:=fun c ob q n hx=>by
  obtain⟨o',e1⟩:=a.there c ob q hx;exact b.free c o' e1 (a.free c ob q n hx) hx
 there:=fun c ob q hx=>by
  obtain⟨o',e1⟩:=a.there c ob q hx;exact b.there c o' e1 hx
 tups:=fun c xs q=>b.tups c xs (a.tups c xs q)
 pQ:=fun c ob xs q=>b.pQ c ob xs (a.pQ c ob xs q)
 qR:=fun c ps q=>by
  obtain⟨m1,e1⟩:=a.qR c ps q;obtain⟨m2,e2⟩:=b.qR c _ e1;exact⟨m1++m2,by rw[e2,X7]⟩
theorem Un.kept(k:∀ b u,h.get? b=some u->h'.get? b=some u):Un fs ex H H h h':=
 ⟨fun b ob q _ _ _=>k b ob q,fun b ob q _ _ _=>⟨ob.slots,k b ob q⟩,fun _ _ _ n _=>n,fun b ob q _=>⟨ob,k b ob q⟩,fun _ _ q=>q,fun _ _ _ q=>q,fun _ ps q=>⟨#[],by rw[q];simp⟩⟩
theorem Un.refl:Un fs ex H H h h:=Un.kept fun _ _ q=>q
theorem Un.laid(k:∀ b u,h.get? b=some u->h'.get? b=some u)(hp:h.objs.size<=a)(hn:H a=none):Un fs ex H (upd H a o) h h' where
 keep:=fun b u q _ _ _=>k b u q
 slot:=fun b u q _ _ _=>⟨u.slots,k b u q⟩
 free:=fun b u q n _=>by rw[bF (dO (jl (bD q) hp))];exact n
 there:=fun b u q _=>⟨u,k b u q⟩
 tups:=fun b xs q=>by rw[bF (bU q hn)];exact q
 pQ:=fun b u xs q=>by rw[bF (bU q hn)];exact q
 qR:=fun b ps q=>⟨#[],by rw[bF (bU q hn),q];simp⟩
theorem Un.write(mu:Mut (H x))(he:e=x\/H e=some (.own x))(k:∀ b u,b≠e->h.get? b=some u->h'.get? b=some u)(heo:∃ u,h'.get? e=some u):Un fs ex H (upd H x o) h h':=by
 have hx:∀ b,H b=none->b≠x:=fun b n z=>by subst z;rw[n] at mu;exact mu
 have hb:∀ b,H b=none->b≠e:=fun b n z=>by
  subst z;rcases he with r|r
  ·exact hx b n r
  ·rw[n] at r;cases r
 have hm:∀ b u,H b=some u->¬Mut (some u)->b≠x:=fun b u q nm z=>by subst z;rw[q] at mu;exact nm mu
 refine⟨fun b u q n _ _=>k b u (hb b n) q,fun b u q n _ _=>⟨u.slots,k b u (hb b n) q⟩,fun b u q n _=>by rw[bF (hx b n)];exact n,fun b u q _=>?_,
  fun b xs q=>by rw[bF (hm b _ q fun z=>z)];exact q,fun b u xs q=>by rw[bF (hm b _ q fun z=>z)];exact q,fun b ps q=>⟨#[],by rw[bF (hm b _ q fun z=>z),q];simp⟩⟩
 by_cases hbe:b=e
 ·subst hbe;exact heo
 ·exact⟨u,k b u hbe q⟩
theorem Un.mono(u:Un fs ex H H1 h h1)(hs:∀ b∈fs,b∈fs')(hx:∀ b∈ex,b∈ex'):Un fs' ex' H H1 h h1:=
 ⟨fun b ob q n hb he=>u.keep b ob q n (fun z=>hb (hs b z)) fun z=>he (hx b z),fun _ _ q n _ he=>u.any q n fun z=>he (hx _ z),fun b ob q n he=>u.free b ob q n fun z=>he (hx b z),fun b ob q he=>u.there b ob q fun z=>he (hx b z),u.tups,u.pQ,u.qR⟩
end
def trk(h:Heap)(H:Hp):List Addr:=(List.range h.objs.size).filter fun a=>(H a).isSome
def Fx(h:Heap)(H:Hp):Heap:=PySem.W.hideAll h (trk h H)
theorem R5(h:Heap)(H:Hp):(Fx h H).objs.size=h.objs.size:=PySem.W.hideAll_size _ _
theorem TX{h:Heap}{H:Hp}{b:Addr}{o:Obj}(e:h.get? b=some o)(n:H b=none):(Fx h H).get? b=some o:=
 WY _ e fun hm=>by
  have q:(H b).isSome=true:=(cB.mp hm).2;rw[n] at q;simp at q
theorem Yj{h:Heap}{H:Hp}{b:Addr}{o:Obj}(e:(Fx h H).get? b=some o):h.get? b=some o/\H b=none:=by
 have e':h.get? b=some o:=X8 (trk h H) e;refine⟨e',?_⟩;cases q:H b with
 |none=>rfl
 |some x=>
  have hm:b∈trk h H:=cB.mpr ⟨cR.mpr (bD e'),by simp[q]⟩;have z:(Fx h H).get? b=none:=PySem.W.hideAll_none (trk h H) hm;rw[z] at e;cases e
structure Mod(K:ao)(mg:Str->Option Value)(base:Heap):Prop where
 kin:K.In base
 glob:base.Ns mainGlobals mg
 blt:∃ mb,base.Ns builtinsNs mb/\∀ x:Str,x ≠ "__name__" -> mb x=bootBuiltins x
 nolimit:base.NoLimit
structure Cx where
 prog:Program
 w:World
 K:ao
 mg:Str->Option Value
 base:Heap
 A:Around
 N:List Str
 s₀:Shared
 H₀:Hp
 env:Env
 outer:List Env
 stack:List Env
 ex:List Addr
 fn:Str->Bool
 calm:Bool
 pn:List (Addr×Obj)
 xe:Value->Shared->Prop
def frs(l:List Env):List Addr:=l.filterMap (·.frame)
abbrev Cx.fs(X:Cx):List Addr:=frs X.outer
def Vis(sc:Scope)(x:Str):Prop:=sc.names.lookup x=some .local\/sc.names.lookup x=some .cell\/sc.names.lookup x=some .free
def Loc(sc:Scope)(x:Str):Prop:=sc.names.lookup x=some .local\/sc.names.lookup x=some .cell
def Look(env:Env)(h:Heap)(m:Str->Option Value)(x:Str)(u:Value):Prop:=
 (env.kindOf x=some .local/\m x=some u)\/((env.kindOf x=some .cell\/env.kindOf x=some .free)/\∃ c,env.cells.lookup x=some c/\h.IsCell c (some u))
structure Cx.Ok(X:Cx):Prop where
 mod:Mod X.K X.mg X.base
 kind:X.env.scope.kind=.function
 glob:X.env.globals=mainGlobals
 blt:X.env.builtins=builtinsNs
 above:X.s₀.heap.objs.size<=X.env.locals
 inj:∀ x y c,X.env.cells.lookup x=some c->X.env.cells.lookup y=some c->x=y
 has:∀ x,(X.env.kindOf x=some .cell\/X.env.kindOf x=some .free)->∃ c,X.env.cells.lookup x=some c
 cab:∀ x c,X.fn x=true->X.env.cells.lookup x=some c->X.s₀.heap.objs.size<=c
 hd:X.calm=true->X.A.handled=none
 frames:X.A.frames=some X.stack
 stk:X.stack=X.outer\/(X.stack=X.env::X.outer/\X.env.frame=some X.env.locals)
 exf:∀ b∈X.ex,b≠X.env.locals/\∀ x c,X.env.cells.lookup x=some c->c≠b
 bs:∀ b o,X.base.get? b=some o->X.s₀.heap.get? b=some o/\X.H₀ b=none
 bsz:X.base.objs.size<=X.s₀.heap.objs.size
 Lk:∀ b o,X.base.get? b=some o->b∉X.ex
 Tr:∀ b∈X.ex,b∉X.fs
 uK:X.s₀.heap.FunFrames X.base X.outer
 frf:∀ b∈X.fs,X.H₀ b=none
structure Inv(X:Cx)(pins:List (Addr×Obj))(zzs:List (Option V))(H:Hp)(s:Shared):Prop where
 ok:X.Ok
 os:s.os=X.s₀.os
 bare:AllBare s.gens
 base:Un X.fs X.ex X.H₀ H X.s₀.heap s.heap
 loc:∃ m,s.heap.Ns X.env.locals m/\∀(i:Nat)(x:Str)(v:V),X.N[i]?=some x->zzs[i]?=some (some v)->Vis X.env.scope x->∃ u,RelV v u/\Look X.env s.heap m x u
 cell:∀ x c,X.env.cells.lookup x=some c->∃ v,s.heap.IsCell c v
 free:H X.env.locals=none
 mq:∀ x c,X.env.cells.lookup x=some c->H c=none
 pin:∀ p∈X.pn++pins,s.heap.get? p.1=some p.2/\H p.1=none/\p.1≠X.env.locals/\p.1∉X.fs/\∀ v,p.2.data≠.cell v
 hok:HOk X.prog X.w H s.heap
 len:zzs.length=X.N.length
section
variable{X:Cx}{pins:List (Addr×Obj)}{zzs:List (Option V)}{H H':Hp}{s:Shared}{h':Heap}
theorem Cx.Ok.a3K(ok:X.Ok){b:Addr}{o:Obj}(e:X.base.get? b=some o):b∉X.fs:=fun hb=>by
 have:=(ok.uK.mem hb).1;rw[e] at this;cases this
theorem Inv.bs(I:Inv X pins zzs H s):∀ b o,X.base.get? b=some o->s.heap.get? b=some o/\H b=none:=fun b o e=>
 ⟨I.base.keep b o (I.ok.bs b o e).1 (I.ok.bs b o e).2 (I.ok.a3K e) (I.ok.Lk b o e),I.base.free b o (I.ok.bs b o e).1 (I.ok.bs b o e).2 (I.ok.Lk b o e)⟩
theorem Inv.bk(I:Inv X pins zzs H s):∀ b o,X.base.get? b=some o->s.heap.get? b=some o:=fun b o e=>(I.bs b o e).1
theorem Inv.mod(I:Inv X pins zzs H s):Mod X.K X.mg X.base:=I.ok.mod
theorem Inv.kIn(I:Inv X pins zzs H s):X.K.In s.heap:=I.ok.mod.kin.keeps I.bk
theorem Inv.lt(I:Inv X pins zzs H s):X.env.locals<s.heap.objs.size:=let ⟨_,hn,_⟩:=I.loc;hn.lt
theorem Inv.sz(I:Inv X pins zzs H s):X.s₀.heap.objs.size<=s.heap.objs.size:=cO I.ok.above (HS I.lt)
theorem Inv.a3L(I:Inv X pins zzs H s){a:Addr}(h:s.heap.objs.size<=a):a∉X.fs:=fun hb=>by
 obtain⟨_,o,ho,_⟩:=I.ok.uK.mem hb;exact absurd (jl (bD ho) (cO I.sz h)) (kh _)
theorem Inv.cne(I:Inv X pins zzs H s):∀ x c,X.env.cells.lookup x=some c->c≠X.env.locals:=fun x c e z=>by
 obtain⟨v,o,ho,hd⟩:=I.cell x c e;obtain⟨m,⟨o',es,ep,ho',hd',_⟩,_⟩:=I.loc;rw[z,ho'] at ho;cases ho;rw[hd'] at hd;cases hd
theorem Inv.uK(I:Inv X pins zzs H s):s.heap.FunFrames X.base X.outer:=by
 have all:∀(l:List Env),(∀ b∈frs l,b∈X.fs)->X.s₀.heap.FunFrames X.base l->s.heap.FunFrames X.base l:=by
  intro l
  induction l with
  |nil=>intro _ _;trivial
  |cons env r ih=>
   intro hs hl;obtain⟨hk,⟨L,o,hf,hn,ho,hd⟩,hr⟩:=hl;have hL:L∈X.fs:=hs L (by unfold frs;rw[Nj,hf];exact cU);obtain⟨sl,e⟩:=I.base.slot L o ho (I.ok.frf L hL) hL fun z=>I.ok.Tr L z hL
   exact⟨hk,⟨L,_,hf,hn,e,hd⟩,ih (fun b hb=>hs b (by unfold frs;rw[Nj,hf];exact dI _ hb)) hr⟩
 exact all X.outer (fun _ hb=>hb) I.ok.uK
theorem Inv.stack(I:Inv X pins zzs H s):s.heap.FunFrames X.base X.stack:=by
 rcases I.ok.stk with e|⟨e,hf⟩
 ·rw[e];exact I.uK
 ·rw[e];obtain⟨m,hn,_⟩:=I.loc;refine .cons (by rw[I.ok.kind];decide) hf hn ?_ I.uK;exact Heap.get?_none_of_le (cO I.ok.bsz I.ok.above)
theorem Inv.jA(I:Inv X pins zzs H s):∀ b∈frs X.stack,b∈X.env.locals::X.fs:=fun b hb=>by
 rcases I.ok.stk with e|⟨e,hf⟩
 ·rw[e] at hb;exact dI _ hb
 ·rw[e] at hb;unfold frs at hb;rw[Nj,hf] at hb;exact hb
theorem Inv.rT(I:Inv X pins zzs H s):∀ b∈frs X.stack,H b=none:=fun b hb=>by
 rcases bW.mp (I.jA b hb) with e|hb
 ·rw[e];exact I.free
 ·obtain⟨_,o,ho,_⟩:=I.ok.uK.mem hb;exact I.base.free b o ho (I.ok.frf b hb) fun z=>I.ok.Tr b z hb
theorem Inv.step{g':Array GenState}{t':Nat}{d':Drawn}{ch:List Addr}(I:Inv X pins zzs H s)
  (hch:∀ b∈ch,(b∈X.ex\/X.s₀.heap.objs.size<=b)/\b≠X.env.locals/\(∀ x c,X.env.cells.lookup x=some c->c≠b)/\∀ p∈X.pn++pins,p.1≠b)
  (keep:∀ b o,b≠X.env.locals->b∉X.fs->b∉ch->s.heap.get? b=some o->H b=none->h'.get? b=some o)
  (slot:∀ b o,b≠X.env.locals->b∈X.fs->b∉ch->s.heap.get? b=some o->H b=none->∃ sl,h'.get? b=some { o with slots:=sl }) (free:∀ b o,b∉ch->s.heap.get? b=some o->H b=none->H' b=none)
  (there:∀ b o,b∉ch->s.heap.get? b=some o->∃ o',h'.get? b=some o')
  (tups:∀ b xs,H b=some (.tup xs)->H' b=some (.tup xs)) (pQ:∀ b o u,H b=some (.frz o u)->H' b=some (.frz o u)) (qR:∀ b ps,H b=some (.tbl ps)->∃ more,H' b=some (.tbl (ps++more)))
  (ns:∀ m,s.heap.Ns X.env.locals m->h'.Ns X.env.locals m) (hok:HOk X.prog X.w H' h') (hg:AllBare g') :
  Inv X pins zzs H' { s with heap:=h',gens:=g',drawn:=d',toks:=t' }:=by
 have neL:∀ b o,X.s₀.heap.get? b=some o->b≠X.env.locals:=fun b o e=>dO (jl (bD e) I.ok.above)
 have neC:∀ b o,X.s₀.heap.get? b=some o->b∉X.ex->b∉ch:=fun b o e hx hb=>by
  rcases(hch b hb).1 with z|z
  ·exact hx z
  ·exact absurd (jl (bD e) z) (kh _)
 have cellK:∀ x c,X.env.cells.lookup x=some c->∀ v,s.heap.IsCell c v->h'.IsCell c v:=fun x c e v ⟨o,ho,hd⟩=>by
  have nch:c∉ch:=fun z=>(hch c z).2.2.1 x c e rfl
  by_cases hc:c∈X.fs
  ·obtain⟨sl,q⟩:=slot c o (I.cne x c e) hc nch ho (I.mq x c e);exact⟨_,q,hd⟩
  ·exact⟨o,keep c o (I.cne x c e) hc nch ho (I.mq x c e),hd⟩
 refine⟨I.ok,I.os,hg,⟨fun b o e n hb hx=>?_,fun b o e n hb hx=>?_,fun b o e n hx=>?_,fun b o e hx=>?_,fun b xs e=>tups b xs (I.base.tups b xs e),fun b o xs e=>pQ b o xs (I.base.pQ b o xs e),fun b ps e=>?_⟩,?_,fun x c e=>?_,?_,fun x c e=>?_,fun p hp=>?_,hok,I.len⟩
 ·exact keep b o (neL b o e) hb (neC b o e hx) (I.base.keep b o e n hb hx) (I.base.free b o e n hx)
 ·obtain⟨sl,e1⟩:=I.base.slot b o e n hb hx;obtain⟨sl',e2⟩:=slot b _ (neL b o e) hb (neC b o e hx) e1 (I.base.free b o e n hx);exact⟨sl',e2⟩
 ·obtain⟨o',e1⟩:=I.base.there b o e hx;exact free b o' (neC b o e hx) e1 (I.base.free b o e n hx)
 ·obtain⟨o',e1⟩:=I.base.there b o e hx;exact there b o' (neC b o e hx) e1
 ·obtain⟨m1,e1⟩:=I.base.qR b ps e;obtain⟨m2,e2⟩:=qR b _ e1;exact⟨m1++m2,by rw[e2,X7]⟩
 ·obtain⟨m,hn,hl⟩:=I.loc;refine⟨m,ns m hn,fun i x v e1 e2 e3=>?_⟩;obtain⟨u,r,l⟩:=hl i x v e1 e2 e3;refine⟨u,r,?_⟩;rcases l with l|⟨k,c,e,z⟩
  ·exact .inl l
  ·exact .inr ⟨k,c,e,cellK x c e _ z⟩
 ·obtain⟨v,z⟩:=I.cell x c e;exact⟨v,cellK x c e v z⟩
 ·obtain⟨m,⟨o,_,_,ho,_⟩,_⟩:=I.loc;exact free _ o (fun z=>(hch _ z).2.1 rfl) ho I.free
 ·obtain⟨v,o,ho,hd⟩:=I.cell x c e;exact free c o (fun z=>(hch c z).2.2.1 x c e rfl) ho (I.mq x c e)
 ·obtain⟨e,n,ne,nf,d⟩:=I.pin p hp;have nch:p.1∉ch:=fun z=>(hch p.1 z).2.2.2 p hp rfl
  exact⟨keep p.1 p.2 ne nf nch e n,free p.1 p.2 nch e n,ne,nf,d⟩
theorem Inv.un{t':Nat}(I:Inv X pins zzs H s)(u:Un X.fs [] H H' s.heap h')(hok:HOk X.prog X.w H' h'):Inv X pins zzs H' { s with heap:=h',toks:=t' }:=by
 obtain⟨m,⟨o,es,ep,ho,r⟩,_⟩:=id I.loc;obtain⟨sl,hL⟩:=u.any ho I.free (by simp);exact I.step (g':=s.gens) (d':=s.drawn) (ch:=[]) (fun _ z=>nomatch z) (fun b o _ hb _ e n=>u.keep b o e n hb (by simp)) (fun b o _ hb _ e n=>u.slot b o e n hb (by simp)) (fun b o _ e n=>u.free b o e n (by simp)) (fun b o _ e=>u.there b o e (by simp)) u.tups u.pQ u.qR (fun m' hm=>by
  obtain⟨o',es',ep',ho',r'⟩:=hm;rw[ho] at ho';cases ho';exact⟨_,es',ep',hL,r'⟩) hok I.bare
theorem Inv.call{g':Array GenState}{t':Nat}{d':Drawn}{ch:List Addr}(I:Inv X pins zzs H s)(u:Un (frs X.stack) ch H H' s.heap h')(hok:HOk X.prog X.w H' h')(hg:AllBare g')
  (hch:∀ b∈ch,(b∈X.ex\/X.s₀.heap.objs.size<=b)/\b≠X.env.locals/\(∀ x c,X.env.cells.lookup x=some c->c≠b)/\∀ p∈X.pn++pins,p.1≠b) :
  Inv X pins zzs H' { s with heap:=h',gens:=g',drawn:=d',toks:=t' }:=by
 obtain⟨m,⟨o,es,ep,ho,r⟩,_⟩:=id I.loc;obtain⟨sl,hL⟩:=u.any ho I.free fun z=>(hch _ z).2.1 rfl
 exact I.step (ch:=ch) hch (fun b o hL hb hc e n=>u.keep b o e n (fun z=>(bW.mp (I.jA b z)).elim hL hb) hc) (fun b o _ _ hc e n=>u.any e n hc) (fun b o hc e n=>u.free b o e n hc) (fun b o hc e=>u.there b o e hc) u.tups u.pQ u.qR (fun m' hm=>by
  obtain⟨o',es',ep',ho',r'⟩:=hm;rw[ho] at ho';cases ho';exact⟨_,es',ep',hL,r'⟩) hok hg
theorem Inv.turned{t':Nat}{it:Addr}(I:Inv X pins zzs H s)(k:∀ b o,b≠it->s.heap.get? b=some o->h'.get? b=some o)(hn:H it=none)(hL:it≠X.env.locals)
  (h1:it∈X.ex\/X.s₀.heap.objs.size<=it) (h2:∀ x c,X.env.cells.lookup x=some c->c≠it) (h3:∀ p∈X.pn++pins,p.1≠it):Inv X pins zzs H { s with heap:=h',toks:=t' }:=by
 have nit:∀ b u,H b=some u->b≠it:=fun b u e z=>by rw[z,hn] at e;cases e
 refine I.step (g':=s.gens) (d':=s.drawn) (ch:=[it]) (fun b hb=>?_) (fun b o _ _ hc e _=>k b o (fun z=>hc (by simp[z])) e) (fun b o _ _ hc e _=>⟨o.slots,k b o (fun z=>hc (by simp[z])) e⟩) (fun _ _ _ _ n=>n)
  (fun b o hc e=>⟨o,k b o (fun z=>hc (by simp[z])) e⟩) (fun _ _ e=>e) (fun _ _ _ e=>e) (fun b ps e=>⟨#[],by rw[e];simp⟩) (fun m hm=>?_) (fun b u e=>?_) I.bare
 ·have e:b=it:=by simpa using hb
  subst e;exact⟨h1,hL,h2,h3⟩
 ·obtain⟨o,es,ep,ho,r⟩:=hm;exact⟨o,es,ep,k _ o (ig hL) ho,r⟩
 ·refine(I.hok b u e).stay (fun c v hc q=>k c v ?_ q) (fun _ q=>q) fun _ _ q=>q
  rcases hc with z|z
  ·rw[z];exact nit b u e
  ·exact nit c _ z
theorem Inv.tok(I:Inv X pins zzs H s)(t:Nat):Inv X pins zzs H { s with toks:=t }:=I.un (h':=s.heap) (t':=t) Un.refl I.hok
theorem Inv.kept{t':Nat}(I:Inv X pins zzs H s)(k:∀ b u,s.heap.get? b=some u->h'.get? b=some u):Inv X pins zzs H { s with heap:=h',toks:=t' }:=I.un (Un.kept k) (I.hok.kept k)
theorem Inv.laid{a:Addr}{o:HO}{t':Nat}(I:Inv X pins zzs H s)(k:∀ b u,s.heap.get? b=some u->h'.get? b=some u)(hp:s.heap.objs.size<=a)(new:gG X.prog X.w (upd H a o) h' a o) :
  Inv X pins zzs (upd H a o) { s with heap:=h',toks:=t' }:=I.un (Un.laid k hp (I.hok.fresh hp)) (I.hok.laid k hp new)
theorem Inv.write{x e:Addr}{o:HO}{t':Nat}(I:Inv X pins zzs H s)(mu:Mut (H x))(he:e=x\/H e=some (.own x))(k:∀ b u,b≠e->s.heap.get? b=some u->h'.get? b=some u)(heo:∃ u,h'.get? e=some u)
  (new:gG X.prog X.w (upd H x o) h' x o):Inv X pins zzs (upd H x o) { s with heap:=h',toks:=t' }:=I.un (Un.write mu he k heo) (I.hok.write mu he k heo new)
theorem Inv.jf{Ed:List (Addr×Obj)}(I:Inv X pins zzs H s)(h:∀ p∈Ed,s.heap.get? p.1=some p.2/\H p.1=none/\p.1≠X.env.locals/\p.1∉X.fs/\∀ v,p.2.data≠.cell v):Inv X Ed zzs H s:=
 ⟨I.ok,I.os,I.bare,I.base,I.loc,I.cell,I.free,I.mq,fun p hp=>(cD.mp hp).elim (fun z=>I.pin p (jj _ z)) (h p),I.hok,I.len⟩
theorem Jm{N:List Str}(hN:N.Nodup){i j:Nat}{x:Str}(a:N[i]?=some x)(b:N[j]?=some x):i=j:=by
 obtain⟨h1,e1⟩:=iI.mp a;obtain⟨h2,e2⟩:=iI.mp b;exact(List.getElem_inj hN).mp (e1.trans e2.symm)
theorem En{M:Model}{A:Around}{E:Value->Shared->Prop}{i:Nat}{x:Str}{v:V}{u:Value}{Q:Unit->Shared->Prop}(I:Inv X pins zzs H s)(hN:X.N.Nodup)(hi:X.N[i]?=some x)(hx:Loc X.env.scope x)(r:RelV v u)
  (h:∀ s',Inv X pins (zzs.set i (some v)) H s'->(∃ a,Heap.SameBut a s.heap s'.heap/\(a=X.env.locals\/X.env.cells.lookup x=some a))->Q () s') (hf:X.fn x=true\/X.env.scope.names.lookup x=some .local:=by first|exact .inl rfl|exact .inr rfl|assumption):wpAny M A (storeName X.env x u) Q E s:=by
 obtain⟨m,hn,hl⟩:=id I.loc;have hcls:(X.env.scope.kind==.class||(X.env.scope.kind==.module&&X.env.locals != X.env.globals))=false:=by rw[I.ok.kind];rfl
 have Zw:i<zzs.length:=by rw[I.len];exact(iI.mp hi).1
 have cne:=I.cne;have tracked:∀ {a:Addr} {h':Heap},(∃ o,s.heap.get? a=some o/\H a=none)->Heap.SameBut a s.heap h'->HOk X.prog X.w H h':=fun {a h'} ha hs b ob e=>by
  obtain⟨_,_,hfree⟩:=ha;refine(I.hok b ob e).stay (fun c w' hc q=>(hs.2 c ?_).trans q) (fun _ q=>q) fun _ _ q=>q
  rintro rfl;rcases hc with rfl|hc
  ·rw[hfree] at e;cases e
  ·rw[hfree] at hc;cases hc
 rcases hx with hk|hk
 ·refine wpAny_storeName_local hk hn (fun h' hn' hs=>?_) hcls;obtain⟨oL,_,_,hoL,_⟩:=id hn;refine h _ ⟨I.ok,I.os,I.bare,⟨fun b o e n hb hx=>?_,fun b o e n hb hx=>?_,I.base.free,fun b o e hx=>?_,I.base.tups,I.base.pQ,I.base.qR⟩,⟨_,hn',fun j y v' e1 e2 e3=>?_⟩,fun y c e=>?_,I.free,I.mq,fun p hp=>?_,tracked ⟨oL,hoL,I.free⟩ hs,by simpa using I.len⟩ ⟨_,hs,.inl rfl⟩
  ·exact(hs.2 b (dO (jl (bD e) I.ok.above))).trans (I.base.keep b o e n hb hx)
  ·obtain⟨sl,e1⟩:=I.base.slot b o e n hb hx;exact⟨sl,(hs.2 b (dO (jl (bD e) I.ok.above))).trans e1⟩
  ·obtain⟨o',e1⟩:=I.base.there b o e hx;exact⟨o',(hs.2 b (dO (jl (bD e) I.ok.above))).trans e1⟩
  ·by_cases hj:j=i
   ·subst hj;rw[hi] at e1;cases e1;rw[MP Zw] at e2;cases e2;exact⟨u,r,.inl ⟨hk,by simp⟩⟩
   ·rw[WT (ig hj)] at e2;obtain⟨u',r',q⟩:=hl j y v' e1 e2 e3;refine⟨u',r',?_⟩;rcases q with⟨k,e⟩|⟨k,c,e,z⟩
    ·refine .inl ⟨k,?_⟩;have:y≠x:=fun e=>hj (Jm hN e1 (e▸hi))
     simp[this,e]
    ·exact .inr ⟨k,c,e,z.sameBut hs (cne y c e)⟩
  ·obtain⟨w',z⟩:=I.cell y c e;exact⟨w',z.sameBut hs (cne y c e)⟩
  ·obtain⟨e,n,ne,nf,d⟩:=I.pin p hp;exact⟨(hs.2 p.1 ne).trans e,n,ne,nf,d⟩
 ·have hfn:X.fn x=true:=by
   rcases hf with z|z
   ·exact z
   ·rw[z] at hk;cases hk
  obtain⟨c,hc⟩:=I.ok.has x (.inl hk);obtain⟨w',z⟩:=I.cell x c hc;refine wpAny_storeName_cell I.ok.kind hk hc z (fun h' hc' hs=>?_);obtain⟨oc,hoc,a3D⟩:=id z;refine h { s with heap:=h' } ⟨I.ok,I.os,I.bare,⟨fun b o e n hb hx=>?_,fun b o e n hb hx=>?_,I.base.free,fun b o e hx=>?_,I.base.tups,I.base.pQ,I.base.qR⟩,⟨m,hn.sameBut hs (ig (cne x c hc)),fun j y v' e1 e2 e3=>?_⟩,fun y c' e=>?_,I.free,I.mq,fun p hp=>?_,tracked ⟨oc,hoc,I.mq x c hc⟩ hs,by simpa using I.len⟩ ⟨c,hs,.inr hc⟩
  ·exact(hs.2 b (dO (jl (bD e) (I.ok.cab x c hfn hc)))).trans (I.base.keep b o e n hb hx)
  ·obtain⟨sl,e1⟩:=I.base.slot b o e n hb hx;exact⟨sl,(hs.2 b (dO (jl (bD e) (I.ok.cab x c hfn hc)))).trans e1⟩
  ·obtain⟨o',e1⟩:=I.base.there b o e hx;exact⟨o',(hs.2 b (dO (jl (bD e) (I.ok.cab x c hfn hc)))).trans e1⟩
  ·by_cases hj:j=i
   ·subst hj;rw[hi] at e1;cases e1;rw[MP Zw] at e2;cases e2;exact⟨u,r,.inr ⟨.inl hk,c,hc,hc'⟩⟩
   ·rw[WT (ig hj)] at e2;obtain⟨u',r',q⟩:=hl j y v' e1 e2 e3;refine⟨u',r',?_⟩;rcases q with q|⟨k,c',e,z'⟩
    ·exact .inl q
    ·refine .inr ⟨k,c',e,z'.sameBut hs ?_⟩;rintro rfl;exact hj (Jm hN e1 (I.ok.inj _ _ _ e hc▸hi))
  ·by_cases hcc:c'=c
   ·subst hcc;exact⟨_,hc'⟩
   ·obtain⟨w2,z2⟩:=I.cell y c' e;exact⟨w2,z2.sameBut hs hcc⟩
  ·obtain⟨e,n,ne,nf,d⟩:=I.pin p hp;refine⟨(hs.2 p.1 ?_).trans e,n,ne,nf,d⟩;intro q;rw[q,hoc] at e;have q':oc=p.2:=iy e;exact d w' (by rw[<- q'];exact a3D)
theorem nP{M:Model}{A:Around}{E:Value->Shared->Prop}{i:Nat}{x:Str}{v:V}{u:Value}{Q:Unit->Shared->Prop}(I:Inv X pins zzs H s)(hN:X.N.Nodup)(hi:X.N[i]?=some x)(hx:Loc X.env.scope x)(r:RelV v u)
  (h:∀ s',Inv X pins (zzs.set i (some v)) H s'->Q () s') (hf:X.fn x=true\/X.env.scope.names.lookup x=some .local:=by first|exact .inl rfl|exact .inr rfl|assumption):wpAny M A (storeName X.env x u) Q E s:=
 En I hN hi hx r (fun s' I' _=>h s' I') hf
theorem Inv.call'{s':Shared}{ch:List Addr}(I:Inv X pins zzs H s)(ho:s'.os=s.os)(u:Un (frs X.stack) ch H H' s.heap s'.heap)(hok:HOk X.prog X.w H' s'.heap)(hg:AllBare s'.gens)
  (hch:∀ b∈ch,(b∈X.ex\/X.s₀.heap.objs.size<=b)/\b≠X.env.locals/\(∀ x c,X.env.cells.lookup x=some c->c≠b)/\∀ p∈X.pn++pins,p.1≠b):Inv X pins zzs H' s':=by
 obtain⟨h',g',d',t',o'⟩:=s';have e:o'=s.os:=ho;subst e;exact I.call (g':=g') (t':=t') (d':=d') u hok hg hch
end
abbrev XK:=Value->Option Addr->Hp->Prop
abbrev St:=List (Option V)
abbrev VK:=V->Hp->Prop
abbrev TE:=St->Hp->VK->Prop
abbrev TT:=St->Hp->(Bool->Hp->Prop)->Prop
abbrev TA:=St->Hp->(List V->Hp->Prop)->Prop
structure Ends where
 nx:St->Hp->Prop
 rt:VK
 bk:St->Hp->Prop:=fun _ _=>False
 ct:St->Hp->Prop:=fun _ _=>False
abbrev TS:=Ends->St->Hp->Prop
def EP(X:Cx)(pins:List (Addr×Obj))(zzs:St)(Q:VK)(u:Value)(s':Shared):Prop:=∃ v H',Inv X pins zzs H' s'/\RelV v u/\Q v H'
def TP(X:Cx)(pins:List (Addr×Obj))(zzs:St)(Q:Bool->Hp->Prop)(b:Bool)(s':Shared):Prop:=∃ H',Inv X pins zzs H' s'/\Q b H'
def AP(X:Cx)(pins:List (Addr×Obj))(zzs:St)(Q:List V->Hp->Prop)(us:List Value)(s':Shared):Prop:=∃ vs H',Inv X pins zzs H' s'/\Vals vs us/\Q vs H'
def SP(X:Cx)(pins:List (Addr×Obj))(D:Ends)(f:Flow)(s':Shared):Prop:=
 match f with
 |.next=>∃ bJ H',Inv X pins bJ H' s'/\D.nx bJ H'
 |.brk=>∃ bJ H',Inv X pins bJ H' s'/\D.bk bJ H'
 |.cont=>∃ bJ H',Inv X pins bJ H' s'/\D.ct bJ H'
 |.ret u=>∃ v bJ H',Inv X pins bJ H' s'/\RelV v u/\D.rt v H'
def PE(X:Cx)(e:Expr)(t:TE):Prop:=
 ∀(pins:List (Addr×Obj))(s:Shared)(zzs:St)(H:Hp)(Q:VK),Inv X pins zzs H s->t zzs H Q->wpAny (model X.prog X.w) X.A (eval e X.env) (EP X pins zzs Q) X.xe s
def PT(X:Cx)(e:Expr)(t:TT):Prop:=
 ∀(pins:List (Addr×Obj))(s:Shared)(zzs:St)(H:Hp)(Q:Bool->Hp->Prop),Inv X pins zzs H s->t zzs H Q->wpAny (model X.prog X.w) X.A (isTrue e X.env (eval e X.env)) (TP X pins zzs Q) X.xe s
def PW(X:Cx)(e:Expr)(t:TT):Prop:=
 ∀(whole:Sem Value)(pins:List (Addr×Obj))(s:Shared)(zzs:St)(H:Hp)(Q:Bool->Hp->Prop),Inv X pins zzs H s->t zzs H Q->wpAny (model X.prog X.w) X.A (isTrue e X.env whole) (TP X pins zzs Q) X.xe s
theorem PW.pt{X:Cx}{e:Expr}{t:TT}(h:PW X e t):PT X e t:=h _
def PA(X:Cx)(es:List Expr)(t:TA):Prop:=
 ∀(pos:Pos)(pins:List (Addr×Obj))(s:Shared)(zzs:St)(H:Hp)(Q:List V->Hp->Prop),Inv X pins zzs H s->t zzs H Q->wpAny (model X.prog X.w) X.A (spliced (backTo pos (starEach es X.env))) (AP X pins zzs Q) X.xe s
def PS(X:Cx)(st:Stmt)(t:TS):Prop:=
 ∀(pins:List (Addr×Obj))(s:Shared)(zzs:St)(H:Hp)(D:Ends),Inv X pins zzs H s->t D zzs H->wpAny (model X.prog X.w) X.A (exec st X.env) (SP X pins D) X.xe s
def PSs(X:Cx)(st:List Stmt)(t:TS):Prop:=
 ∀(pins:List (Addr×Obj))(s:Shared)(zzs:St)(H:Hp)(D:Ends),Inv X pins zzs H s->t D zzs H->wpAny (model X.prog X.w) X.A (execs st X.env) (SP X pins D) X.xe s
theorem thn{α:Type}{t:Sem α}{Q Q':α->Shared->Prop}{M:Model}{A:Around}{E:Value->Shared->Prop}{s:Shared}(h:wpAny M A t Q E s)(hQ:∀ a s,Q a s->Q' a s):wpAny M A t Q' E s:=fX h hQ fun _ _ x=>x
section
variable{X:Cx}
def a3l(i:Nat):TE:=fun zzs H Q=>∃ v,zzs[i]?=some (some v)/\Q v H
def tC(v:V):TE:=fun _ H Q=>Q v H
theorem a1n{i:Nat}{x:Str}{pos:Pos}(hN:X.N[i]?=some x)(hv:Vis X.env.scope x) (hd:(x==("__debug__" : Str))=false:=by decide) (hcd:(x==("__classdict__" : Str))=false:=by decide):PE X (.Name x pos) (a3l i):=by
 intro pins s zzs H Q I h;obtain⟨v,e,h⟩:=h;obtain⟨m,hn,hl⟩:=I.loc;obtain⟨u,r,l⟩:=hl i x v hN e hv;have fin:EP X pins zzs Q u s:=⟨v,H,I,r,h⟩
 rcases l with⟨hk,hm⟩|⟨hk,c,hc,hcell⟩
 ·exact wpAny_Name (wpAny_loadName_local I.ok.kind hk hn hm fin) hd
 ·rcases hk with hk|hk
  ·exact wpAny_Name (wpAny_loadName_cell I.ok.kind hk hc hcell fin) hd
  ·exact wpAny_Name (wpAny_loadName_free I.ok.kind hk hc hcell fin hcd) hd
theorem a1h {i j pos}:PE X (.Constant (.int i) j pos) (tC (.int i)):=fun _ _ _ H _ I h=>wpAny_Constant_int ⟨.int i,H,I.tok _,⟨_,rfl⟩,h⟩
theorem a2B {b j pos}:PE X (.Constant (.bool b) j pos) (tC (.bl b)):=fun _ _ _ H _ I h=>Constant_bool ⟨.bl b,H,I,rfl,h⟩
theorem a1l {x j pos}:PE X (.Constant (.str x) j pos) (tC (.str x)):=fun _ _ _ H _ I h=>Calls.Constant_str ⟨.str x,H,I.tok _,⟨_,rfl⟩,h⟩
def Gl(X:Cx)(x:Str):Prop:=X.env.kindOf x=some .globalImplicit
theorem uN{E:Value->Shared->Prop}{pins:List (Addr×Obj)}{s:Shared}{zzs:St}{H:Hp}{x:Str}{u:Value}{pos:Pos}{Q:Value->Shared->Prop}(I:Inv X pins zzs H s)(hg:Gl X x)(hm:X.mg x=some u)(h:Q u s)
  (hd:(x==("__debug__" : Str))=false:=by decide):wpAny (model X.prog X.w) X.A (eval (.Name x pos) X.env) Q E s:=
 Wr I.ok.kind hg (Calls.loadGlobal_global (by rw[I.ok.glob];exact I.mod.glob.keeps I.bk) hm h) hd
theorem FN{E:Value->Shared->Prop}{pins:List (Addr×Obj)}{s:Shared}{zzs:St}{H:Hp}{x:Str}{u:Value}{pos:Pos}{Q:Value->Shared->Prop}(I:Inv X pins zzs H s)(hg:Gl X x)(hm:X.mg x=none)(hv:bootBuiltins x=some u)(h:Q u s)
  (hn:x ≠ "__name__":=by decide) (hd:(x==("__debug__" : Str))=false:=by decide):wpAny (model X.prog X.w) X.A (eval (.Name x pos) X.env) Q E s:=by
 obtain⟨mb,h1,h2⟩:=I.mod.blt;exact Wr I.ok.kind hg (Calls.loadGlobal_builtin (by rw[I.ok.glob];exact I.mod.glob.keeps I.bk) hm (by rw[I.ok.blt];exact h1.keeps I.bk) ((h2 x hn).trans hv) h) hd
theorem PJ{x:Str}{v:V}{u:Value}{pos:Pos}(hg:Gl X x)(hm:X.mg x=some u)(r:RelV v u) (hd:(x==("__debug__" : Str))=false:=by decide):PE X (.Name x pos) (tC v):=
 fun _ _ _ H _ I h=>uN I hg hm ⟨v,H,I,r,h⟩ hd
variable{a b:Expr}{ta tb:TE}{pos:Pos}
def tB(t:TE):TT:=fun zzs H Q=>t zzs H fun x H1=>∃ c,x=.bl c/\Q c H1
theorem a1y{e:Expr}{t:TE}(h:PE X e t)(he:∀ whole,isTrue e X.env whole=(do let v <- whole;standAt e.pos;holding [v] (truthy v)):=by intro _;rfl):PT X e (tB t):=by
 intro pins s zzs H Q I hw;refine isTrue_plain (thn (h pins s zzs H _ I hw) fun v s1 zzy=>?_) (he _);obtain⟨x,H1,I1,r1,q1⟩:=zzy;obtain⟨d,rfl,q⟩:=q1;cases r1;exact sX ⟨H1,I1,q⟩
variable{tA tB':TT}{rest:List Expr}
def a3e(t u:TT):TT:=fun zzs H Q=>t zzs H fun c H1=>if c=true then u zzs H1 Q else Q false H1
def tOr(t u:TT):TT:=fun zzs H Q=>t zzs H fun c H1=>if c=true then Q true H1 else u zzs H1 Q
def a3g(t:TT):TT:=fun zzs H Q=>t zzs H fun c H1=>Q (!c) H1
theorem pw_and1(ha:PT X a tA):PW X (.BoolOp .And [a] pos) tA:=by
 intro wh pins s zzs H Q I h;refine isTrue_and (thn (ha pins s zzs H Q I h) fun c s1 e=>?_);cases c with
 |true=>exact isTrue_and_nil e
 |false=>exact e
theorem pw_or1(ha:PT X a tA):PW X (.BoolOp .Or [a] pos) tA:=by
 intro wh pins s zzs H Q I h;refine isTrue_or (thn (ha pins s zzs H Q I h) fun c s1 e=>?_);cases c with
 |false=>exact isTrue_or_nil e
 |true=>exact e
theorem pw_and(ha:PT X a tA)(hb:PW X (.BoolOp .And (b::rest) pos) tB'):PW X (.BoolOp .And (a::b::rest) pos) (a3e tA tB'):=by
 intro wh pins s zzs H Q I h;refine isTrue_and (thn (ha pins s zzs H _ I h) fun c s1 zzy=>?_);obtain⟨H1,I1,q1⟩:=zzy;cases c with
 |true=>exact hb wh pins s1 zzs H1 Q I1 q1
 |false=>exact⟨H1,I1,q1⟩
theorem pw_or(ha:PT X a tA)(hb:PW X (.BoolOp .Or (b::rest) pos) tB'):PW X (.BoolOp .Or (a::b::rest) pos) (tOr tA tB'):=by
 intro wh pins s zzs H Q I h;refine isTrue_or (thn (ha pins s zzs H _ I h) fun c s1 zzy=>?_);obtain⟨H1,I1,q1⟩:=zzy;cases c with
 |true=>exact⟨H1,I1,q1⟩
 |false=>exact hb wh pins s1 zzs H1 Q I1 q1
theorem a1x(ha:PT X a tA):PT X (.UnaryOp .Not a pos) (a3g tA):=by
 intro pins s zzs H Q I h;exact isTrue_not (ha pins s zzs H (fun c H1=>Q (!c) H1) I h)
def ZS(ta tb:TE):TE:=fun zzs H Q=>ta zzs H fun x H1=>∃ c,x=.bl c/\if c=true then tb zzs H1 Q else Q (.bl false) H1
def a3h(ta tb:TE):TE:=fun zzs H Q=>ta zzs H fun x H1=>∃ c,x=.bl c/\if c=true then Q (.bl true) H1 else tb zzs H1 Q
def a01(ta:TE):TE:=fun zzs H Q=>ta zzs H fun x H1=>∃ c,x=.bl c/\Q (.bl (!c)) H1
theorem a1k {op} {t:TE} (h:PE X a t):PE X (.BoolOp op [a] pos) t:=fun pins s zzs H Q I hw=>BoolOp_one (h pins s zzs H Q I hw)
theorem a1d(ha:PE X a ta)(hb:PE X (.BoolOp .And (b::rest) pos) tb):PE X (.BoolOp .And (a::b::rest) pos) (ZS ta tb):=by
 intro pins s zzs H Q I h;refine BoolOp_and (thn (ha pins s zzs H _ I h) fun v s1 zzy=>?_);obtain⟨x,H1,I1,r1,q1⟩:=zzy;obtain⟨c,rfl,q1⟩:=q1;cases r1;refine sX ?_;cases c with
 |true=>exact hb pins s1 zzs H1 Q I1 q1
 |false=>exact⟨.bl false,H1,I1,rfl,q1⟩
theorem a2F(ha:PE X a ta)(hb:PE X (.BoolOp .Or (b::rest) pos) tb):PE X (.BoolOp .Or (a::b::rest) pos) (a3h ta tb):=by
 intro pins s zzs H Q I h;refine BoolOp_or (thn (ha pins s zzs H _ I h) fun v s1 zzy=>?_);obtain⟨x,H1,I1,r1,q1⟩:=zzy;obtain⟨c,rfl,q1⟩:=q1;cases r1;refine sX ?_;cases c with
 |false=>exact hb pins s1 zzs H1 Q I1 q1
 |true=>exact⟨.bl true,H1,I1,rfl,q1⟩
theorem a1j(ha:PE X a ta):PE X (.UnaryOp .Not a pos) (a01 ta):=by
 intro pins s zzs H Q I h;refine UnaryOp_ (thn (ha pins s zzs H _ I h) fun v s1 zzy=>?_);obtain⟨x,H1,I1,r1,q1⟩:=zzy;obtain⟨c,rfl,q1⟩:=q1;cases r1;exact not_of (sX ⟨.bl (!c),H1,I1,rfl,q1⟩)
end
def SqL(K:ao)(H:Hp)(a:Addr)(xs:List V):Prop:=
 Rd H a (.lst xs) \/
  ∃(o:Obj)(its:Array Value)(n:Nat),K.lookup a=some o/\o.cls=.type "list" /\ o.dict=none/\o.data=.seq its n/\its.size<=sizeLine/\Vals xs its.toList
def SqT(K:ao)(H:Hp)(a:Addr)(xs:List V):Prop:=
 Rd H a (.tup xs) \/
  ∃(o:Obj)(its:Array Value)(n:Nat),K.lookup a=some o/\o.cls=.type "tuple" /\ o.data=.seq its n/\its.size<=sizeLine/\Vals xs its.toList
def a3y:Value->Option V
 |.none=>some .non
 |.bool b=>some (.bl b)
 |.int i _=>some (.int i)
 |.str x _=>some (.str x)
 |.bytes b _=>some (.byt b)
 |.float b _=>some (.flt b)
 |.ref a=>some (.ref a)
 |.type n=>some (.ty n)
 |_=>none
theorem RelV.abs{x:V}{u:Value}(r:RelV x u):a3y u=some x:=by
 cases x with
 |non=>cases r;rfl
 |bl _=>cases r;rfl
 |int _=>obtain⟨t,rfl⟩:=r;rfl
 |str _=>obtain⟨t,rfl⟩:=r;rfl
 |byt _=>obtain⟨t,rfl⟩:=r;rfl
 |flt _=>obtain⟨t,rfl⟩:=r;rfl
 |ref _=>cases r;rfl
 |ty _=>cases r;rfl
theorem RelV.inj{x y:V}{u:Value}(r:RelV x u)(q:RelV y u):x=y:=iy (r.abs.symm.trans q.abs)
theorem Vals.inj:∀ {xs ys:List V} {us:List Value},Vals xs us->Vals ys us->xs=ys:=by
 intro xs ys us h
 induction h generalizing ys with
 |nil=>intro h;cases h;rfl
 |cons r _ ih=>intro h;cases h with|cons r' t'=>rw[r.inj r',ih t']
section
variable{X:Cx}{pins:List (Addr×Obj)}{zzs:St}{H:Hp}{s:Shared}{a:Addr}{xs ys:List V}
theorem SqL.of{K:ao}(h:H a=some (.lst xs)):SqL K H a xs:=.inl (.inl h)
theorem SqT.of{K:ao}(h:H a=some (.tup xs)):SqT K H a xs:=.inl (.inl h)
theorem Inv.list(I:Inv X pins zzs H s)(h:SqL X.K H a xs):∃ its:List Value,Vals xs its/\PlainL s.heap a its.toArray/\xs.length<=sizeLine:=by
 rcases h with h|⟨o,its,n,hk,hc,hd,hs,hz,r⟩
 ·obtain⟨z,its,n,r,e⟩:=h.ok I.hok;exact⟨its,r,⟨_,n,e,rfl,rfl,rfl⟩,z⟩
 ·refine⟨its.toList,r,⟨o,n,I.kIn a o hk,hc,hd,by simpa using hs⟩,?_⟩;have e:=r.length;simp only[jk] at e;lia
theorem Inv.tuple(I:Inv X pins zzs H s)(h:SqT X.K H a xs):∃ its:List Value,Vals xs its/\IsTup s.heap a its.toArray/\xs.length<=sizeLine:=by
 rcases h with h|⟨o,its,n,hk,hc,hs,hz,r⟩
 ·obtain⟨z,its,r,p⟩:=h.ok I.hok;exact⟨its,r,p,z⟩
 ·refine⟨its.toList,r,⟨o,I.kIn a o hk,hc,n,by simpa using hs⟩,?_⟩;have e:=r.length;simp only[jk] at e;lia
theorem Inv.Jg(I:Inv X pins zzs H s)(h:SqL X.K H a xs)(h':SqL X.K H a ys):xs=ys:=by
 obtain⟨its,r,⟨o,n,e,_,_,d⟩,_⟩:=I.list h;obtain⟨its',r',⟨o',n',e',_,_,d'⟩,_⟩:=I.list h';rw[e] at e';cases e';rw[d] at d';injection d' with d1 _;have:its=its':=by simpa using congrArg Array.toList d1
 subst this;exact r.inj r'
theorem Inv.S8(I:Inv X pins zzs H s)(h:SqT X.K H a xs)(h':SqT X.K H a ys):xs=ys:=by
 obtain⟨its,r,⟨o,e,_,n,d⟩,_⟩:=I.tuple h;obtain⟨its',r',⟨o',e',_,n',d'⟩,_⟩:=I.tuple h';rw[e] at e';cases e';rw[d] at d';injection d' with d1 _;have:its=its':=by simpa using congrArg Array.toList d1
 subst this;exact r.inj r'
end
abbrev Cx.wish(X:Cx)(E:Value->Shared->Prop):Cx:={ X with xe:=E }
abbrev Cx.nox(X:Cx):Cx:=X.wish fun _ _=>False
theorem Cx.Ok.wish{X:Cx}(ok:X.Ok)(E:Value->Shared->Prop):(X.wish E).Ok:=
 ⟨ok.mod,ok.kind,ok.glob,ok.blt,ok.above,ok.inj,ok.has,ok.cab,ok.hd,ok.frames,ok.stk,ok.exf,ok.bs,ok.bsz,ok.Lk,ok.Tr,ok.uK,ok.frf⟩
theorem Cx.Ok.lW{X:Cx}{E:Value->Shared->Prop}(ok:(X.wish E).Ok):X.Ok:=
 ⟨ok.mod,ok.kind,ok.glob,ok.blt,ok.above,ok.inj,ok.has,ok.cab,ok.hd,ok.frames,ok.stk,ok.exf,ok.bs,ok.bsz,ok.Lk,ok.Tr,ok.uK,ok.frf⟩
section
variable{X:Cx}{pins:List (Addr×Obj)}{zzs:St}{H:Hp}{s:Shared}{E:Value->Shared->Prop}
theorem Inv.wish(I:Inv X pins zzs H s)(E:Value->Shared->Prop):Inv (X.wish E) pins zzs H s:=⟨I.ok.wish E,I.os,I.bare,I.base,I.loc,I.cell,I.free,I.mq,I.pin,I.hok,I.len⟩
theorem Inv.lW(I:Inv (X.wish E) pins zzs H s):Inv X pins zzs H s:=⟨I.ok.lW,I.os,I.bare,I.base,I.loc,I.cell,I.free,I.mq,I.pin,I.hok,I.len⟩
theorem SP.lW{D:Ends}{f:Flow}{s':Shared}(h:SP (X.wish E) pins D f s'):SP X pins D f s':=by
 cases f with
 |next=>obtain⟨bJ,H',I,q⟩:=h;exact⟨bJ,H',I.lW,q⟩
 |brk=>obtain⟨bJ,H',I,q⟩:=h;exact⟨bJ,H',I.lW,q⟩
 |cont=>obtain⟨bJ,H',I,q⟩:=h;exact⟨bJ,H',I.lW,q⟩
 |ret u=>obtain⟨v,bJ,H',I,r,q⟩:=h;exact⟨v,bJ,H',I.lW,r,q⟩
theorem PT.nox{e:Expr}{t:TT}(h:PT X.nox e t):PT X e t:=fun pins s zzs H Q I hw=>
 fX (h pins s zzs H Q (I.wish _) hw) (fun _ _ ⟨H',I',q⟩=>⟨H',I'.lW,q⟩) fun _ _ z=>False.elim z
theorem PSs.nox{st:List Stmt}{t:TS}(h:PSs X.nox st t):PSs X st t:=fun pins s zzs H D I hw=>
 fX (h pins s zzs H D (I.wish _) hw) (fun _ _ q=>q.lW) fun _ _ z=>False.elim z
end
section
variable{X:Cx}{st:Stmt}{rest:List Stmt}{t u:TS}{e:Expr}{te:TE}{pos:Pos}
def a00:TS:=fun D zzs H=>D.nx zzs H
def a1M(t u:TS):TS:=fun D zzs H=>t { D with nx:=u D } zzs H
theorem YT:PSs X [] a00:=fun _ _ zzs H _ I h=>Hy ⟨zzs,H,I,h⟩
theorem Vf(h1:PS X st t)(h2:PSs X rest u):PSs X (st::rest) (a1M t u):=by
 intro pins s zzs H D I h;refine Nx (thn (h1 pins s zzs H { D with nx:=u D } I h) fun f s1 q=>?_);cases f with
 |next=>
  obtain⟨bJ,H',I',q⟩:=q;exact h2 pins s1 bJ H' D I' q
 |ret v=>exact q
 |brk=>exact q
 |cont=>exact q
theorem YW(h1:PS X st t):PSs X [st] t:=by
 intro pins s zzs H D I h;refine Nx (thn (h1 pins s zzs H D I h) fun f s1 q=>?_);cases f with
 |next=>exact Hy q
 |ret v=>exact q
 |brk=>exact q
 |cont=>exact q
theorem Inv.quiet{pins:List (Addr×Obj)}{zzs:St}{H:Hp}{s:Shared}(I:Inv X pins zzs H s):interactive X.env=false:=by simp[interactive,I.ok.kind]
def ZX(te:TE):TS:=fun D zzs H=>te zzs H fun _ H1=>D.nx zzs H1
theorem YS(he:PE X e te)(hs:swapsWith e none pos.line X.env=pure false:=by rfl):PS X (.Expr e pos) (ZX te):=by
 intro pins s zzs H D I h;exact wpAny_Expr_any (thn (he pins s zzs H _ I h) fun v s1 ⟨x,H1,I1,r1,q1⟩=>⟨zzs,H1,I1,q1⟩) I.quiet hs
def a3j(te:TE):TS:=fun D zzs H=>te zzs H D.rt
theorem a1v(he:PE X e te):PS X (.Return (some e) pos) (a3j te):=by
 intro pins s zzs H D I h;exact wpAny_Return_some (thn (he pins s zzs H _ I h) fun v s1 ⟨x,H1,I1,r1,q1⟩=>⟨x,zzs,H1,I1,r1,q1⟩)
def a3f(c:TT)(t u:TS):TS:=fun D zzs H=>c zzs H fun b H1=>if b=true then t D zzs H1 else u D zzs H1
theorem a2I{c:Expr}{a b:List Stmt}{tc:TT}(hc:PT X c tc)(ha:PSs X a t)(hb:PSs X b u):PS X (.If c a b pos) (a3f tc t u):=by
 intro pins s zzs H D I h;refine wpAny_If (thn (hc pins s zzs H _ I h) fun d s1 zzy=>?_);obtain⟨H1,I1,q1⟩:=zzy;cases d with
 |true=>exact ha pins s1 zzs H1 D I1 q1
 |false=>exact hb pins s1 zzs H1 D I1 q1
end
abbrev TG:=V->St->Hp->(St->Hp->Prop)->Prop
abbrev TGs:=List V->St->Hp->(St->Hp->Prop)->Prop
def PG(X:Cx)(target:Expr)(t:TG):Prop:=
 ∀(pins:List (Addr×Obj))(s:Shared)(zzs:St)(H:Hp)(v:V)(u:Value)(Q:St->Hp->Prop),Inv X pins zzs H s->RelV v u->t v zzs H Q ->
  wpAny (model X.prog X.w) X.A (assign target X.env u) (fun _ s'=>∃ bJ H',Inv X pins bJ H' s'/\Q bJ H') X.xe s
def PGs(X:Cx)(ts:List Expr)(t:TGs):Prop:=
 ∀(pins:List (Addr×Obj))(s:Shared)(zzs:St)(H:Hp)(vs:List V)(us:List Value)(Q:St->Hp->Prop),Inv X pins zzs H s->Vals vs us->t vs zzs H Q ->
  wpAny (model X.prog X.w) X.A (assignInOrder ((assignEach ts X.env).map (·.2)) us) (fun _ s'=>∃ bJ H',Inv X pins bJ H' s'/\Q bJ H') X.xe s
abbrev Qt:=V->V->V->Hp->(Hp->Prop)->Prop
def Sq(X:Cx)(t:Qt):Prop:=
 ∀(pins:List (Addr×Obj))(s:Shared)(zzs:St)(H:Hp)(o i v:V)(ov iv u:Value)(Q:Hp->Prop),Inv X pins zzs H s->RelV o ov->RelV i iv->RelV v u->t o i v H Q ->
  wpAny (model X.prog X.w) X.A (setItem ov iv u) (fun _ s'=>∃ H',Inv X pins zzs H' s'/\Q H') X.xe s
abbrev TIp:=V->V->Hp->VK->Prop
def PIp(X:Cx)(op:Operator)(t:TIp):Prop:=
 ∀(pins:List (Addr×Obj))(s:Shared)(zzs:St)(H:Hp)(x y:V)(v u:Value)(Q:VK),Inv X pins zzs H s->RelV x v->RelV y u->t x y H Q ->
  wpAny (model X.prog X.w) X.A (inplaceOp op v u) (EP X pins zzs Q) X.xe s
section
variable{X:Cx}{pos:Pos}
def sE(i:Nat):TG:=fun v zzs H Q=>Q (zzs.set i (some v)) H
theorem FW{i:Nat}{x:Str}(hN:X.N.Nodup)(hi:X.N[i]?=some x)(hx:Loc X.env.scope x)(hf:X.fn x=true\/X.env.scope.names.lookup x=some .local:=by first|exact .inl rfl|exact .inr rfl|assumption):PG X (.Name x pos) (sE i):=by
 intro pins s zzs H v u Q I r h;exact Hs (nP I hN hi hx r (fun s' I'=>⟨_,H,I',h⟩) hf)
def TJ:TGs:=fun vs zzs H Q=>vs=[]/\Q zzs H
def xW(t:TG)(u:TGs):TGs:=fun vs zzs H Q=>∃ v r,vs=v::r/\t v zzs H fun bJ H'=>u r bJ H' Q
theorem PK:PGs X [] TJ:=by
 intro pins s zzs H vs us Q I r h;obtain⟨e,h⟩:=h;subst e;cases r;exact assignInOrder_nil ⟨zzs,H,I,h⟩
theorem Af{e:Expr}{es:List Expr}{t:TG}{u:TGs}(h1:PG X e t)(h2:PGs X es u)
  (hs:(assignEach (e::es) X.env).map (·.2)=assign e X.env::(assignEach es X.env).map (·.2):=by rfl):PGs X (e::es) (xW t u):=by
 intro pins s zzs H vs us Q I r h;obtain⟨v,vr,e1,h⟩:=h;subst e1;cases r with
 |cons r rr=>
  rw[hs];refine Nm (thn (h1 pins s zzs H _ _ _ I r h) fun _ s1 zzy=>?_);obtain⟨ux,H1,I1,q1⟩:=zzy;exact h2 pins s1 ux H1 _ _ Q I1 rr q1
def TQ(K:ao)(n:Nat)(t:TGs):TG:=fun v zzs H Q=>∃ a xs,v=.ref a/\SqT K H a xs/\xs.length=n/\t xs zzs H Q
theorem V9{es:List Expr}{k:Nat}{t:TGs}{n:Nat}(hc:X.calm=true)(h:PGs X es t)
  (hn:(assignEach es X.env).length=n:=by rfl) (hst:(assignEach es X.env).findIdx? (·.1)=none:=by rfl):PG X (.Tuple es k pos) (TQ X.K n t):=by
 intro pins s zzs H v u Q I r hw;obtain⟨a,xs,e1,hq,hl,hw⟩:=hw;subst e1;cases r;obtain⟨its,rv,ht,hz⟩:=I.tuple hq;refine assign_Tuple_tuple (I.ok.hd hc) ht (by simp[hn,<- hl,rv.length]) hst fun h' hx=>?_
 have I1:Inv X pins zzs H { s with heap:=h' }:=I.kept (t':=s.toks) fun b o e=>hx b o (dO (bD e)) e
 exact h pins _ zzs H xs _ Q I1 (by simpa using rv) hw
def a2l(to ti:TE)(t:Qt):TG:=fun v zzs H Q=>to zzs H fun o H1=>ti zzs H1 fun i H2=>t o i v H2 fun H3=>Q zzs H3
theorem a1o{o i:Expr}{to ti:TE}{t:Qt}(ho:PE X o to)(hi:PE X i ti)(hs:Sq X t)
  (ha:∀ v,assign (.Subscript o i pos) X.env v=(do
   let ov <- holding [v] (eval o X.env)
   let iv <- holding [v,ov] (eval i X.env)
   standAt pos
   holding [v,ov,iv] (setItem ov iv v)
   release [v,ov,iv] []):=by intro _;rfl):PG X (.Subscript o i pos) (a2l to ti t):=by
 intro pins s zzs H v u Q I r h;rw[ha];refine aO (xr (thn (ho pins s zzs H _ I h) fun ov s1 zzy=>?_));obtain⟨x,H1,I1,r1,q1⟩:=zzy;refine aO (xr (thn (hi pins s1 zzs H1 _ I1 q1) fun iv s2 zzy=>?_));obtain⟨y,H2,I2,r2,q2⟩:=zzy;refine aO (BK (aO (xr (thn (hs pins s2 zzs H2 x y v ov iv u _ I2 r1 r2 r q2) fun _ s3 zzy=>?_))));obtain⟨H3,I3,q3⟩:=zzy;exact wpAny_release ⟨zzs,H3,I3,q3⟩
def Zg(te:TE)(g:TG):TS:=fun D zzs H=>te zzs H fun x H1=>g x zzs H1 D.nx
theorem a1r{tg e:Expr}{te:TE}{g:TG}(he:PE X e te)(hg:PG X tg g)(hs:swapsWithSole [tg] e pos.line X.env=pure false:=by rfl)(hw:swappedStores [tg] e X.env=pure none:=by rfl)
  (h1:(assignEach [tg] X.env).map (·.2)=[assign tg X.env]:=by rfl):PS X (.Assign [tg] e pos) (Zg te g):=by
 intro pins s zzs H D I h;refine wpAny_Assign_stores (thn (he pins s zzs H _ I h) fun v s1 zzy=>?_) hs hw;obtain⟨x,H1,I1,r1,q1⟩:=zzy;rw[h1];exact thn (hg pins s1 zzs H1 x v _ I1 r1 q1) fun _ s2 q=>q
theorem a1w{i:Nat}{x:Str}{e:Expr}{te:TE}{pos':Pos}(hN:X.N.Nodup)(hi:X.N[i]?=some x)(hx:Loc X.env.scope x)(he:PE X e te)(hs:swapsWith e (some (.Name x pos')) pos.line X.env=pure false:=by rfl)(hf:X.fn x=true\/X.env.scope.names.lookup x=some .local:=by first|exact .inl rfl|exact .inr rfl|assumption) :
  PS X (.Assign [.Name x pos'] e pos) (Zg te (sE i)):=by
 intro pins s zzs H D I h;refine wpAny_Assign_Name (thn (he pins s zzs H _ I h) fun v s1 zzy=>?_) hs;obtain⟨y,H1,I1,r1,q1⟩:=zzy;exact nP I1 hN hi hx r1 (fun s2 I2=>⟨_,H1,I2,q1⟩) hf
def a3i(i j:Nat)(ta:TA):TS:=fun D zzs H=>ta zzs H fun vs H1=>∃ v w,vs=[v,w]/\D.nx ((zzs.set i (some v)).set j (some w)) H1
theorem a1u{i j:Nat}{x y:Str}{a b:Expr}{ta:TA}{px py pt:Pos} {kt k2 pt2} (hc:X.calm=true) (hN:X.N.Nodup) (hi:X.N[i]?=some x) (hj:X.N[j]?=some y) (hij:i≠j)
  (hx:X.env.scope.names.lookup x=some .local) (hy:X.env.scope.names.lookup y=some .local) (ha:PA X [a,b] ta)
  (hw:swappedStores [.Tuple [.Name x px,.Name y py] kt pt] (.Tuple [a,b] k2 pt2) X.env=pure (some [x,y]))
  (hs:swapsWithSole [.Tuple [.Name x px,.Name y py] kt pt] (.Tuple [a,b] k2 pt2) pos.line X.env=pure false:=by rfl) :
  PS X (.Assign [.Tuple [.Name x px,.Name y py] kt pt] (.Tuple [a,b] k2 pt2) pos) (a3i i j ta):=by
 intro pins s zzs H D I h;rw[exec_Assign_arm];refine aO (BK ?_);rw[hs];refine aO (cF ?_);rw[aJ (by decide)];refine aO (Tuple_ (thn (ha _ pins s zzs H _ I h) fun us s1 zzy=>?_));obtain⟨vs,H1,I1,r1,q1⟩:=zzy;obtain⟨v,w,e1,q1⟩:=q1;subst e1;obtain⟨u1,u2,rfl,rv,rw'⟩:∃ u1 u2,us=[u1,u2]/\RelV v u1/\RelV w u2:=by
  cases r1 with
  |cons p q=>
   cases q with
   |cons p' q'=>
    cases q';exact⟨_,_,rfl,p,p'⟩
 refine wW ?_ (by show 2<=sizeLine;decide);have I2:Inv X pins zzs H1 { s1 with heap:=s1.heap.push { cls:=.type "tuple",data:=.seq [u1,u2].toArray } }:=I1.kept (t':=s1.toks) fun b o e=>fu _ e
 rw[hw];refine aO (cF ?_);show wpAny (model X.prog X.w) X.A (do rule "assign.swapped-stores";let items <- unpackItems (.ref s1.heap.objs.size) 2 none;assignInOrder [fun v=>bindName X.env y v,fun v=>bindName X.env x v] items.reverse;pure Flow.next) _ _ _;refine aO (uq (aO (unpackItems_tuple (items:=#[u1,u2]) (I.ok.hd hc) (IsTup.new s1.heap _) fun h' hx'=>?_)));have I3:=I2.kept (h':=h') (t':=s1.toks) fun b o e=>hx' b o (dO (bD e)) e
 show wpAny _ _ (assignInOrder [fun v=>bindName X.env y v,fun v=>bindName X.env x v] [u2,u1] >>= fun _=>pure Flow.next) _ _ _;refine aO (Nm (wpAny_bindName (nP I3 hN hj (.inl hy) rw' (fun s2 I4=>?_) (.inr hy))));refine Nm (wpAny_bindName (nP I4 hN hi (.inl hx) rv (fun s3 I5=>assignInOrder_nil (cF ?_)) (.inr hx)));rw[List.set_comm _ _ (ig hij)] at I5;exact⟨_,H1,I5,q1⟩
def ZV(to ti te:TE)(Zh:V->V->Hp->VK->Prop)(tip:TIp)(Zj:Qt):TS:=fun D zzs H=>to zzs H fun o H1=>ti zzs H1 fun i H2=>Zh o i H2 fun x H3=>te zzs H3 fun y H4=>tip x y H4 fun z H5=>Zj o i z H5 fun H6=>D.nx zzs H6
def a1W(X:Cx)(t:V->V->Hp->VK->Prop):Prop:=
 ∀(pins:List (Addr×Obj))(s:Shared)(zzs:St)(H:Hp)(o i:V)(ov iv:Value)(Q:VK),Inv X pins zzs H s->RelV o ov->RelV i iv->t o i H Q ->
  wpAny (model X.prog X.w) X.A (getItem ov iv) (EP X pins zzs Q) X.xe s
theorem YM{o i e:Expr}{to ti te:TE}{Zh:V->V->Hp->VK->Prop}{tip:TIp}{Zj:Qt}{op:Operator}{tpos:Pos}(ho:PE X o to)(hi:PE X i ti)(hg:a1W X Zh)(he:PE X e te)(hp:PIp X op tip)(hs:Sq X Zj)
  (ha:∀ ov iv new,augStore i ov iv new=(do holding [new,ov,iv] (setItem ov iv new);release [new,ov,iv] [];pure .next):=by intros;rfl):PS X (.AugAssign (.Subscript o i tpos) op e pos) (ZV to ti te Zh tip Zj):=by
 intro pins s zzs H D I h;refine wpAny_AugAssign_SubscriptAny (thn (ho pins s zzs H _ I h) fun ov s1 zzy=>?_) ha;obtain⟨x1,H1,I1,r1,q1⟩:=zzy;refine thn (hi pins s1 zzs H1 _ I1 q1) fun iv s2 zzy=>?_
 obtain⟨x2,H2,I2,r2,q2⟩:=zzy;refine thn (hg pins s2 zzs H2 x1 x2 ov iv _ I2 r1 r2 q2) fun old s3 zzy=>?_
 obtain⟨x3,H3,I3,r3,q3⟩:=zzy;refine thn (he pins s3 zzs H3 _ I3 q3) fun v s4 zzy=>?_
 obtain⟨x4,H4,I4,r4,q4⟩:=zzy;refine thn (hp pins s4 zzs H4 x3 x4 old v _ I4 r3 r4 q4) fun new s5 zzy=>?_
 obtain⟨x5,H5,I5,r5,q5⟩:=zzy;exact thn (hs pins s5 zzs H5 x1 x2 x5 ov iv new _ I5 r1 r2 r5 q5) fun _ s6 ⟨H6,I6,q6⟩=>⟨zzs,H6,I6,q6⟩
def ipI(f:Int->Int->Int):TIp:=fun x y H Q=>∃ i j,x=.int i/\y=.int j/\Q (.int (f i j)) H
theorem a0q:PIp X .Add (ipI fun i j=>i+j):=by
 intro pins s zzs H x y v u Q I r1 r2 h;obtain⟨i,j,e1,e2,q⟩:=h;subst e1;subst e2;obtain⟨t,rfl⟩:=r1;obtain⟨t',rfl⟩:=r2;exact iadd_int ⟨.int _,H,I.tok _,⟨_,rfl⟩,q⟩
end
section
variable{X:Cx}{pos:Pos}
def Wf(c:TT)(tb:TS):TS:=fun D zzs H=>∃ W:Nat->St->Hp->Prop,(∃ m,W m zzs H)/\∀ m zzs H,W m zzs H ->
 c zzs H fun b H1=>if b=true then ∃ N:St->Hp->Prop,(∀ bJ H',N bJ H'->∃ m',m'<m/\W m' bJ H')/\tb { D with nx:=N,ct:=N,bk:=D.nx } zzs H1 else D.nx zzs H1
theorem Vd{c:Expr}{body:List Stmt}{tc:TT}{tb:TS}(hp:PassesOwn (model X.prog X.w) X.A X.env X.xe)(hc:PT X c tc)(hb:PSs X body tb):PS X (.While c body [] pos) (Wf tc tb):=by
 intro pins s zzs H D I h;obtain⟨W,⟨m0,w0⟩,turn⟩:=h;refine wpAny_While (codeAny_whileLoop (fun n s'=>∃ bJ H',Inv X pins bJ H' s'/\W n bJ H') ?_ m0 ⟨zzs,H,I,w0⟩);rintro n s1 ⟨ux,H1,I1,w1⟩;refine uo hp (thn (hc pins s1 ux H1 _ I1 (turn n ux H1 w1)) fun b s2 zzy=>?_);obtain⟨H2,I2,q2⟩:=zzy;cases b with
 |true=>
  obtain⟨N,hN,q2⟩:=q2;rw[aK rfl];refine uo hp (thn (hb pins s2 ux H2 _ I2 q2) fun f s3 q3=>?_);cases f with
  |next=>
   obtain⟨Ci,H3,I3,n3⟩:=q3;obtain⟨m',hm,w3⟩:=hN Ci H3 n3;exact⟨m',hm,Ci,H3,I3,w3⟩
  |cont=>
   obtain⟨Ci,H3,I3,n3⟩:=q3;obtain⟨m',hm,w3⟩:=hN Ci H3 n3;exact⟨m',hm,Ci,H3,I3,w3⟩
  |brk=>exact q3
  |ret v=>exact q3
 |false=>
  rw[aJ fW];exact Hy ⟨ux,H2,I2,q2⟩
end
structure It where
 go:Nat->Hp->Prop
 yld:Nat->Hp->V->Hp->Prop
 stop:Nat->Hp->Prop
def iR(X:Cx)(pins:List (Addr×Obj))(H:Hp)(b:Addr):Prop:=
 H b=none/\b≠X.env.locals/\b∉X.fs/\(b∈X.ex\/X.s₀.heap.objs.size<=b)/\(∀ x c,X.env.cells.lookup x=some c->c≠b)/\∀ p∈X.pn++pins,p.1≠b
theorem Inv.Cu{X:Cx}{pins:List (Addr×Obj)}{zzs:St}{H H':Hp}{s:Shared}{b:Addr}(I:Inv X pins zzs H s)(hb:s.heap.objs.size<=b)(hn:H' b=none):iR X pins H' b:=by
 refine⟨hn,xG (jl I.lt hb),I.a3L hb,.inr (cO I.sz hb),fun x c e z=>?_,fun p hp z=>?_⟩
 ·obtain⟨v,q⟩:=I.cell x c e;exact absurd (jl q.lt (by rw[z];exact hb)) (kh _)
 ·exact absurd (jl (bD (I.pin p hp).1) (by rw[z];exact hb)) (kh _)
structure Turn(P:Program)(w:World)(K:ao)(tg:Expr)(J:It)(fp:List Addr)(it:Addr)(tn:Nat->Heap->Prop):Prop where
 mem:it∈fp
 obj:∀ i h,tn i h->∀ b∈fp,∃ o,h.get? b=some o/\∀ v,o.data≠.cell v
 keep:∀ i h h',tn i h->(∀ b∈fp,∀ o,h.get? b=some o->h'.get? b=some o)->tn i h'
 item:∀(X:Cx),X.prog=P->X.w=w->X.K=K->X.calm=true->∀(i:Nat)(pins:List (Addr×Obj))(s:Shared)(zzs:St)(H:Hp)(E:Value->Shared->Prop),Inv X pins zzs H s->(∀ b∈fp,iR X pins H b)->tn i s.heap->J.go i H ->
  wpAny (model P w) X.A (pyNext (.ref it)) (fun r s1=>∃ u,r=some u /\
   wpAny (model P w) X.A (letOwnedTupleGo tg (.ref it) u) (fun _ s2=>∃ x H',Inv X pins zzs H' s2/\RelV x u/\J.yld i H x H'/\tn (i+1) s2.heap/\∀ b∈fp,H' b=none) E s1) E s
 done:∀(X:Cx),X.prog=P->X.w=w->X.K=K->X.calm=true->∀(i:Nat)(pins:List (Addr×Obj))(s:Shared)(zzs:St)(H:Hp)(E:Value->Shared->Prop),Inv X pins zzs H s->(∀ b∈fp,iR X pins H b)->tn i s.heap->J.stop i H ->
  wpAny (model P w) X.A (pyNext (.ref it)) (fun r s1=>r=none/\Inv X pins zzs H s1) E s
 self:∀(A:Around)(i:Nat)(s:Shared)(Q:Value->Shared->Prop)(E:Value->Shared->Prop),tn i s.heap->Q (.ref it) s->wpAny (model P w) A (pyIter (.ref it)) Q E s
abbrev TI:=St->Hp->(It->Hp->Prop)->Prop
def PIE(X:Cx)(pins:List (Addr×Obj))(zzs:St)(tg:Expr)(R:It->Hp->Prop)(itv:Value)(s2:Shared):Prop:=
 ∃(it:Addr)(fp:List Addr)(tn:Nat->Heap->Prop)(J:It)(H':Hp),itv=.ref it/\Inv X pins zzs H' s2/\Turn X.prog X.w X.K tg J fp it tn/\tn 0 s2.heap/\(∀ b∈fp,iR X pins H' b)/\R J H'
def PI(X:Cx)(tg iter:Expr)(wi:TI):Prop:=
 ∀(pins:List (Addr×Obj))(s:Shared)(zzs:St)(H:Hp)(R:It->Hp->Prop),Inv X pins zzs H s->wi zzs H R ->
  wpAny (model X.prog X.w) X.A (eval iter X.env) (fun v s1=>wpAny (model X.prog X.w) X.A (pyIter v) (PIE X pins zzs tg R) X.xe s1) X.xe s
theorem OJ{M:Model}{A:Around}{E:Value->Shared->Prop}{s:Shared}{tg:Expr}{it:Addr}{u:Value}{o:Obj}{n:String}{vs:Array Value}{Q:Unit->Shared->Prop}(ho:s.heap.get? it=some o)(hc:o.cls=.type n)(hd:o.data=.fields vs)
  (hn:["enumerate","zip","dict_itemiterator","dict_reverseitemiterator","odict_iterator","itertools.zip_longest","itertools.pairwise"].contains n=false) (hQ:Q () s):wpAny M A (letOwnedTupleGo tg (.ref it) u) Q E s:=by
 unfold letOwnedTupleGo;cases tg<;>first
  |exact cF hQ
  |(cases u<;>first
    |exact cF hQ
    |(refine aO (wpAny_load ho ?_)
      rw[hc,hd];show wpAny M A (if(["enumerate","zip","dict_itemiterator","dict_reverseitemiterator","odict_iterator","itertools.zip_longest","itertools.pairwise"].contains n&&vs[0]?==some (rawInt _))=true then _ else _) Q E s;rw[aJ (by intro h;rw[hn,vD] at h;cases h)];exact cF hQ))
def Itl(K:ao)(a:Addr):It:=
 ⟨fun i H=>∃ xs x,SqL K H a xs/\xs[i]?=some x,fun i H x H'=>H'=H/\∀ xs,SqL K H a xs->xs[i]?=some x,fun i H=>∃ xs,SqL K H a xs/\xs.length<=i⟩
def Itr(lo:Int)(n:Nat):It:=⟨fun i _=>i<n,fun i H x H'=>H'=H/\x=.int (lo+i),fun i _=>n<=i⟩
theorem S9{P:Program}{w:World}{K:ao}{tg:Expr}(a it:Addr):Turn P w K tg (Itl K a) [it] it (fun i h=>h.IsListIter it a i) where
 mem:=by simp
 obj:=fun i h st b hb=>by
  have e:b=it:=by simpa using hb
  subst e;obtain⟨o,e,c,d⟩:=st;exact⟨o,e,fun v z=>by rw[d] at z;cases z⟩
 keep:=fun i h h' st k=>st.at fun o e=>k it (by simp) o e
 item:=by
  intro X hP hw hK hc i pins s zzs H E I hf st hg;subst hP hw hK;obtain⟨xs,x,hq,hx⟩:=hg;obtain⟨its,rv,p,hz⟩:=I.list hq;obtain⟨u,hu,ru⟩:=rv.get hx;obtain⟨f0,f1,f2,f3,f4,f5⟩:=hf it (by simp);refine wpAny_pyNext_list_item st p.isList (x:=u) (by simpa using hu) fun h' st' sb=>?_
  have I1:Inv X pins zzs H { s with heap:=h' }:=I.turned (t':=s.toks) (fun b o hb e=>(sb.2 b hb).trans e) f0 f1 f3 f4 f5;obtain⟨o,e,c,d⟩:=id st';exact⟨u,rfl,OJ (s:={ s with heap:=h' }) e c d (by decide) ⟨x,H,I1,ru,⟨rfl,fun ys hy=>by rw[I.Jg hy hq];exact hx⟩,st',fun b hb=>(hf b hb).1⟩⟩
 done:=by
  intro X hP hw hK hc i pins s zzs H E I hf st hg;subst hP hw hK;obtain⟨xs,hq,hx⟩:=hg;obtain⟨its,rv,p,hz⟩:=I.list hq;obtain⟨f0,f1,f2,f3,f4,f5⟩:=hf it (by simp);have hl:=rv.length;exact wpAny_pyNext_list_end (I.ok.hd hc) st p.isList (by simp;lia) fun h' eb=>⟨rfl,I.turned (t':=s.toks) (fun b o hb e=>eb b o hb e) f0 f1 f3 f4 f5⟩
 self:=fun _ _ _ _ _ st h=>wpAny_pyIter_listiter st h
theorem Ms{P:Program}{w:World}{K:ao}{tg:Expr}(it:Addr)(lo:Int)(n:Nat):Turn P w K tg (Itr lo n) [it] it (fun i h=>IsRangeIter h it (lo+(i:Nat)*1) ((n:Int)-(i:Nat)) 1) where
 mem:=by simp
 obj:=fun i h st b hb=>by
  have e:b=it:=by simpa using hb
  subst e;exact⟨_,st,fun v z=>by
   have z':Data.fields _=Data.cell v:=z;cases z'⟩
 keep:=fun i h h' st k=>k it (by simp) _ st
 item:=by
  intro X hP hw hK hc i pins s zzs H E I hf st hg;subst hP hw hK;obtain⟨f0,f1,f2,f3,f4,f5⟩:=hf it (by simp);have W:=Walks.range (prog:=X.prog) (w:=X.w) (I.ok.hd hc) it lo 1 n;refine W.item i s _ _ hg st fun v h' tk hv st' kk=>?_
  obtain⟨t,rfl⟩:=hv;have I1:Inv X pins zzs H { s with heap:=h',toks:=tk }:=I.turned (fun b o hb e=>kk b o (by simpa using hb) e) f0 f1 f3 f4 f5;refine⟨_,rfl,OJ (s:={ s with heap:=h',toks:=tk }) (n:="range_iterator") st' rfl rfl (by decide) ⟨.int (lo+i),H,I1,⟨t,?_⟩,⟨rfl,rfl⟩,st',fun b hb=>(hf b hb).1⟩⟩;rw[O7]
 done:=by
  intro X hP hw hK hc i pins s zzs H E I hf st hg;subst hP hw hK;obtain⟨f0,f1,f2,f3,f4,f5⟩:=hf it (by simp);exact wpAny_pyNext_range_end (I.ok.hd hc) st (by have:n<=i:=hg;lia) fun h' eb=>⟨rfl,I.turned (t':=s.toks) (fun b o hb e=>eb b o hb e) f0 f1 f3 f4 f5⟩
 self:=fun _ _ _ _ _ st h=>wpAny_pyIter_rangeiter st h
section
variable{X:Cx}{tg:Expr}
def Pa(K:ao)(tl:TE):TI:=fun zzs H R=>tl zzs H fun x H1=>∃ a,x=.ref a/\(∃ xs,SqL K H1 a xs)/\R (Itl K a) H1
theorem YF{l:Expr}{tl:TE}(hl:PE X l tl):PI X tg l (Pa X.K tl):=by
 intro pins s zzs H R I h;refine thn (hl pins s zzs H _ I h) fun v s1 zzy=>?_
 obtain⟨x,H1,I1,r1,q1⟩:=zzy;obtain⟨a,e,⟨xs,hq⟩,q⟩:=q1;subst e;cases r1;obtain⟨its,rv,p,hz⟩:=I1.list hq;refine Nr p.isList ?_;refine⟨s1.heap.objs.size,[s1.heap.objs.size],_,_,H1,rfl,I1.kept (t':=s1.toks) fun b o e=>fu _ e,S9 a _,⟨_,iu _ rfl,rfl,rfl⟩,fun b hb=>?_,q⟩;have e:b=s1.heap.objs.size:=by simpa using hb
 subst e;exact I1.Cu (bK _) (I1.hok.fresh (bK _))
theorem JB{pins:List (Addr×Obj)}{zzs:St}{H:Hp}{s:Shared}{R:It->Hp->Prop}{E:Value->Shared->Prop}{lo hi:Int}{t u v:Tok}{tk:Nat}(I:Inv X pins zzs H s)(h1 : -(2^62)<=lo)(h2:lo<2^62)(h3 : -(2^62)<=hi)(h4:hi<2^62)
  (q:R (Itr lo (hi-lo).toNat) H):wpAny (model X.prog X.w) X.A (pyIter (.ref s.heap.objs.size)) (PIE X pins zzs tg R) E { s with heap:=s.heap.push { cls:=.type "range",data:=.fields #[.int lo t,.int hi u,.int 1 v] },toks:=tk }:=by
 refine wpAny_pyIter_range (IsRange.new ..) (small_one h1 h2 h3 h4) ?_;have I1:Inv X pins zzs H { s with heap:=s.heap.push { cls:=.type "range",data:=.fields #[.int lo t,.int hi u,.int 1 v] },toks:=tk }:=I.kept fun b o e=>fu _ e
 refine⟨(s.heap.push { cls:=.type "range",data:=.fields #[.int lo t,.int hi u,.int 1 v] }).objs.size,[(s.heap.push { cls:=.type "range",data:=.fields #[.int lo t,.int hi u,.int 1 v] }).objs.size],_,_,H,rfl,
  I1.kept (t':=tk) fun b o e=>fu _ e,Ms _ lo (hi-lo).toNat,?_,fun b hb=>?_,q⟩
 ·have e1:lo+((0:Nat):Int)*1=lo:=by simp
  have e2:(((hi-lo).toNat:Nat):Int)-((0:Nat):Int)=Builtin.Range.rangeSize lo hi 1:=by rw[rangeSize_one];split<;>lia
  show IsRangeIter _ _ (lo+((0:Nat):Int)*1) ((((hi-lo).toNat:Nat):Int)-((0:Nat):Int)) 1;rw[e1,e2];exact iu _ rfl
 ·have e:b=(s.heap.push { cls:=.type "range",data:=.fields #[.int lo t,.int hi u,.int 1 v] }).objs.size:=by simpa using hb
  subst e;exact I1.Cu (bK _) (I1.hok.fresh (bK _))
def Zx(ta:TA):TI:=fun zzs H R=>ta zzs H fun vs H1=>∃ j:Int,vs=[.int j] /\ -(2^62)<=j/\j<2^62/\R (Itr 0 j.toNat) H1
def Zy(ta:TA):TI:=fun zzs H R=>ta zzs H fun vs H1=>∃ i j:Int,vs=[.int i,.int j]/\(-(2^62)<=i/\i<2^62 /\ -(2^62)<=j/\j<2^62)/\R (Itr i (j-i).toNat) H1
theorem RJ{a:Expr}{ta:TA}{p pos:Pos} (hg:Gl X "range") (hm:X.mg "range" = none) (ha:PA X [a] ta) (hs:starEach [a] X.env=[(false,eval a X.env)]:=by rfl):PI X tg (.Call (.Name "range" p) [a] [] pos) (Zx ta):=by
 intro pins s zzs H R I h;refine Call_ (FN I hg hm boot_range (Mw (thn (ha pos pins s zzs H _ I h) fun us s1 zzy=>?_) hs rfl));obtain⟨vs,H1,I1,r1,q1⟩:=zzy;obtain⟨j,e,q1,q2,q⟩:=q1;subst e;cases r1 with
 |cons r rr=>
  cases rr;obtain⟨t,rfl⟩:=r;exact call_range_1 (JB I1 (by lia) (by lia) q1 q2 (by simpa using q))
theorem RK{a b:Expr}{ta:TA}{p pos:Pos} (hg:Gl X "range") (hm:X.mg "range" = none) (ha:PA X [a,b] ta) (hs:starEach [a,b] X.env=[(false,eval a X.env),(false,eval b X.env)]:=by rfl) (hs2:starEach [b] X.env=[(false,eval b X.env)]:=by rfl) :
  PI X tg (.Call (.Name "range" p) [a,b] [] pos) (Zy ta):=by
 intro pins s zzs H R I h;refine Call_ (FN I hg hm boot_range (Mw (thn (ha pos pins s zzs H _ I h) fun us s1 zzy=>?_) (by rw[hs,hs2]) (by rw[hs2];rfl)));obtain⟨vs,H1,I1,r1,q1⟩:=zzy;obtain⟨i,j,e,⟨q1,q2,q3,q4⟩,q⟩:=q1;subst e;cases r1 with
 |cons r rr=>
  cases rr with
  |cons r' rr=>
   cases rr;obtain⟨t,rfl⟩:=r;obtain⟨t',rfl⟩:=r';exact call_range_2 (JB I1 q1 q2 q3 q4 q)
def a1K(wi:TI)(g:TG)(tb:TS):TS:=fun D zzs H=>wi zzs H fun J H1=>∃ W:Nat->Nat->St->Hp->Prop,(∃ m,W 0 m zzs H1)/\∀ i m zzs H,W i m zzs H ->
 (J.stop i H/\D.nx zzs H)\/(J.go i H/\∃ N:St->Hp->Prop,(∀ bJ H',N bJ H'->∃ m',m'<m/\W (i+1) m' bJ H')/\∀ x H',J.yld i H x H'->g x zzs H' fun pG H2=>tb { D with nx:=N,ct:=N,bk:=D.nx } pG H2)
def jN(fp:List Addr)(h:Heap):List (Addr×Obj):=fp.filterMap fun b=>(h.get? b).map fun o=>(b,o)
theorem lJ{fp:List Addr}{h:Heap}{b:Addr}{o:Obj}(hb:b∈fp)(e:h.get? b=some o):(b,o)∈jN fp h:=wV.mpr ⟨b,hb,by rw[e];rfl⟩
theorem Rm{fp:List Addr}{h:Heap}{p:Addr×Obj}(hp:p∈jN fp h):p.1∈fp/\h.get? p.1=some p.2:=by
 obtain⟨b,hb,e⟩:=wV.mp hp;cases q:h.get? b with
 |none=>rw[q] at e;cases e
 |some o=>
  rw[q] at e;have e':(b,o)=p:=iy e;subst e';exact⟨hb,q⟩
theorem Inv.pinned{pins:List (Addr×Obj)}{zzs:St}{H:Hp}{s:Shared}{fp:List Addr}(I:Inv X pins zzs H s)(hf:∀ b∈fp,iR X pins H b)(ho:∀ b∈fp,∃ o,s.heap.get? b=some o/\∀ v,o.data≠.cell v):Inv X (pins++jN fp s.heap) zzs H s:=
 I.jf fun p hp=>(cD.mp hp).elim (fun z=>I.pin p (gn _ z)) fun z=>by
  obtain⟨hb,e⟩:=Rm z;obtain⟨f0,f1,f2,_⟩:=hf p.1 hb;obtain⟨o,e',d⟩:=ho p.1 hb;rw[e] at e';cases e';exact⟨e,f0,f1,f2,d⟩
theorem Inv.Bf{pins pl:List (Addr×Obj)}{zzs:St}{H:Hp}{s:Shared}(I:Inv X (pins++pl) zzs H s):Inv X pins zzs H s:=I.jf fun p hp=>I.pin p (gn _ (jj _ hp))
theorem a1t{iter:Expr}{body:List Stmt}{wi:TI}{g:TG}{tb:TS}{pos:Pos}(hp:PassesOwn (model X.prog X.w) X.A X.env X.xe)(hc:X.calm=true)(hi:PI X tg iter wi)(hg:PG X tg g)(hb:PSs X body tb)
  (hs:∀ x,foldedSetIterable iter X.env x=pure x:=by intro _;rfl):PS X (.For tg iter body [] pos) (a1K wi g tb):=by
 intro pins s zzs H D I h;refine wpAny_For (thn (hi pins s zzs H _ I h) fun v s1 h1=>thn h1 fun itv s2 h2=>?_) hs;obtain⟨it,fp,tn,J,H2,e,I2,T,st2,f2,W,⟨m0,w0⟩,turn⟩:=h2;subst e;have stat:∀ {H':Hp},(∀ b∈fp,H' b=none)->∀ b∈fp,iR X pins H' b:=fun hn b hb=>⟨hn b hb,(f2 b hb).2⟩
 refine codeAny_forLoop_any (fun n s'=>∃ i bJ H',Inv X pins bJ H' s'/\tn i s'.heap/\(∀ b∈fp,H' b=none)/\W i n bJ H') ?_ m0 ⟨0,zzs,H2,I2,st2,fun b hb=>(f2 b hb).1,w0⟩;rintro n s3 ⟨i,Ci,H3,I3,st3,fr3,w3⟩;rcases turn i n Ci H3 w3 with⟨stop,qn⟩|⟨go,N,hN,step⟩
 ·refine uo hp (thn (T.done X rfl rfl rfl hc i pins s3 Ci H3 X.xe I3 (stat fr3) st3 stop) fun r s4 zzy=>?_);obtain⟨hr,I4⟩:=zzy;subst hr;exact Hy ⟨Ci,H3,I4,qn⟩
 ·refine uo hp (thn (T.item X rfl rfl rfl hc i pins s3 Ci H3 X.xe I3 (stat fr3) st3 go) fun r s4 zzy=>?_);obtain⟨u,hr,h4⟩:=zzy;subst hr;refine uo hp (thn h4 fun _ s5 zzy=>?_);obtain⟨x,H5,I5,r5,y5,st5,fr5⟩:=zzy;have I5':=I5.pinned (stat fr5) (T.obj _ _ st5);refine uo hp (thn (hg _ s5 Ci H5 x u _ I5' r5 (step x H5 y5)) fun _ s6 zzy=>?_);obtain⟨a4f,H6,I6,q6⟩:=zzy;refine uo hp (thn (hb _ s6 a4f H6 _ I6 q6) fun f s7 q7=>?_);have again:∀ {yL:St} {H7:Hp},Inv X (pins++jN fp s5.heap) yL H7 s7->N yL H7->∃ m,m<n/\∃ i bJ H',Inv X pins bJ H' s7/\tn i s7.heap/\(∀ b∈fp,H' b=none)/\W i m bJ H':=fun {yL H7} I7 n7=>by
   obtain⟨m',hm,w7⟩:=hN yL H7 n7;refine⟨m',hm,i+1,yL,H7,I7.Bf,T.keep _ _ _ st5 fun b hb o e=>(I7.pin (b,o) (gn _ (gn _ (lJ hb e)))).1,fun b hb=>?_,w7⟩;obtain⟨o,e,d⟩:=T.obj _ _ st5 b hb;exact(I7.pin (b,o) (gn _ (gn _ (lJ hb e)))).2.1
  cases f with
  |next=>obtain⟨yL,H7,I7,n7⟩:=q7;exact again I7 n7
  |cont=>obtain⟨yL,H7,I7,n7⟩:=q7;exact again I7 n7
  |brk=>obtain⟨yL,H7,I7,q7⟩:=q7;exact⟨yL,H7,I7.Bf,q7⟩
  |ret v=>obtain⟨x7,yL,H7,I7,r7,q7⟩:=q7;exact⟨x7,yL,H7,I7.Bf,r7,q7⟩
end
theorem d9{K:ao}{a:Addr}{xs:List V}{g:TG}{tb:TS}{D:Ends}{zzs:St}{H:Hp}(Pv:Nat->St->Hp->Prop)(h0:Pv 0 zzs H)(hl:∀ i zzs H,i<=xs.length->Pv i zzs H->SqL K H a xs)
  (hs:∀ i x zzs H,xs[i]?=some x->Pv i zzs H->g x zzs H fun pG H2=>tb { D with nx:=Pv (i+1),ct:=Pv (i+1),bk:=D.nx } pG H2) (hd:∀ zzs H,Pv xs.length zzs H->D.nx zzs H) :
  ∃ W:Nat->Nat->St->Hp->Prop,(∃ m,W 0 m zzs H)/\∀ i m zzs H,W i m zzs H ->
   ((Itl K a).stop i H/\D.nx zzs H)\/((Itl K a).go i H/\∃ N:St->Hp->Prop,(∀ bJ H',N bJ H'->∃ m',m'<m/\W (i+1) m' bJ H')/\∀ x H',(Itl K a).yld i H x H'->g x zzs H' fun pG H2=>tb { D with nx:=N,ct:=N,bk:=D.nx } pG H2):=by
 refine⟨fun i m zzs H=>m=xs.length-i/\i<=xs.length/\Pv i zzs H,⟨xs.length,by simp,kj _,h0⟩,?_⟩;rintro i m zzs H ⟨rfl,hi,p⟩;have q:=hl i zzs H hi p;by_cases hlt:i<xs.length
 ·refine .inr ⟨⟨xs,xs[i],q,by simp[hlt]⟩,Pv (i+1),fun bJ H' p'=>⟨xs.length-(i+1),by omega,rfl,hlt,p'⟩,fun x H' y=>?_⟩;obtain⟨e,y⟩:=y;subst e;exact hs i x zzs _ (y xs q) p
 ·have e:i=xs.length:=by lia
  subst e;exact .inl ⟨⟨xs,q,bK _⟩,hd zzs H p⟩
theorem dD{lo:Int}{n:Nat}{g:TG}{tb:TS}{D:Ends}{zzs:St}{H:Hp}(Pv:Nat->St->Hp->Prop)(h0:Pv 0 zzs H)
  (hs:∀ i zzs H,i<n->Pv i zzs H->g (.int (lo+i)) zzs H fun pG H2=>tb { D with nx:=Pv (i+1),ct:=Pv (i+1),bk:=D.nx } pG H2) (hd:∀ zzs H,Pv n zzs H->D.nx zzs H) :
  ∃ W:Nat->Nat->St->Hp->Prop,(∃ m,W 0 m zzs H)/\∀ i m zzs H,W i m zzs H ->
   ((Itr lo n).stop i H/\D.nx zzs H)\/((Itr lo n).go i H/\∃ N:St->Hp->Prop,(∀ bJ H',N bJ H'->∃ m',m'<m/\W (i+1) m' bJ H')/\∀ x H',(Itr lo n).yld i H x H'->g x zzs H' fun pG H2=>tb { D with nx:=N,ct:=N,bk:=D.nx } pG H2):=by
 refine⟨fun i m zzs H=>m=n-i/\i<=n/\Pv i zzs H,⟨n,by simp,kj _,h0⟩,?_⟩;rintro i m zzs H ⟨rfl,hi,p⟩;by_cases hlt:i<n
 ·refine .inr ⟨hlt,Pv (i+1),fun bJ H' p'=>⟨n-(i+1),by lia,rfl,hlt,p'⟩,fun x H' y=>?_⟩;obtain⟨e,y⟩:=y;subst e y;exact hs i zzs _ hlt p
 ·have e:i=n:=by lia
  subst e;exact .inl ⟨bK _,hd zzs H p⟩
abbrev R2:=V->V->Hp->VK->Prop
def OpR(X:Cx)(f:Value->Value->Sem Value)(r:R2):Prop:=
 ∀(pins:List (Addr×Obj))(s:Shared)(zzs:St)(H:Hp)(x y:V)(v u:Value)(Q:VK),Inv X pins zzs H s->RelV x v->RelV y u->r x y H Q ->
  wpAny (model X.prog X.w) X.A (f v u) (EP X pins zzs Q) X.xe s
def UnR(X:Cx)(f:Value->Sem Value)(r:V->Hp->VK->Prop):Prop:=
 ∀(pins:List (Addr×Obj))(s:Shared)(zzs:St)(H:Hp)(x:V)(v:Value)(Q:VK),Inv X pins zzs H s->RelV x v->r x H Q ->
  wpAny (model X.prog X.w) X.A (f v) (EP X pins zzs Q) X.xe s
def fB(X:Cx)(f:Value)(r:List V->Hp->VK->Prop):Prop:=
 ∀(pins:List (Addr×Obj))(s:Shared)(zzs:St)(H:Hp)(xs:List V)(us:List Value)(Q:VK),Inv X pins zzs H s->Vals xs us->r xs H Q ->
  wpAny (model X.prog X.w) X.A (call f us) (EP X pins zzs Q) X.xe s
def tOp(r:R2)(ta tb:TE):TE:=fun zzs H Q=>ta zzs H fun x H1=>tb zzs H1 fun y H2=>r x y H2 Q
def tUn(r:V->Hp->VK->Prop)(ta:TE):TE:=fun zzs H Q=>ta zzs H fun x H1=>r x H1 Q
def rI(C:Int->Int->Prop)(g:Int->Int->V):R2:=fun x y H Q=>∃ i j,x=.int i/\y=.int j/\C i j/\Q (g i j) H
def rI0(g:Int->Int->V):R2:=fun x y H Q=>∃ i j,x=.int i/\y=.int j/\Q (g i j) H
def rU(g:Int->V):V->Hp->VK->Prop:=fun x H Q=>∃ i,x=.int i/\Q (g i) H
section
variable{X:Cx}{a b c:Expr}{ta tb tc:TE}{pos:Pos}
theorem a06(ha:PE X a ta)(hb:PE X b tb){pins:List (Addr×Obj)}{s:Shared}{zzs:St}{H:Hp}{R:V->V->Hp->Prop}(I:Inv X pins zzs H s)
  (h:ta zzs H fun x H1=>tb zzs H1 fun y H2=>R x y H2) {Q:Value->Shared->Prop} {f:Value->Value->Sem Value}
  (hf:∀ v u s2 x y H2,Inv X pins zzs H2 s2->RelV x v->RelV y u->R x y H2->wpAny (model X.prog X.w) X.A (f v u) Q X.xe s2) :
  wpAny (model X.prog X.w) X.A (eval a X.env) (fun v s₁=>wpAny (model X.prog X.w) X.A (eval b X.env) (fun u s₂=>wpAny (model X.prog X.w) X.A (f v u) Q X.xe s₂) X.xe s₁) X.xe s:=by
 refine thn (ha pins s zzs H _ I h) fun v s1 zzy=>?_
 obtain⟨x,H1,I1,r1,q1⟩:=zzy;refine thn (hb pins s1 zzs H1 _ I1 q1) fun u s2 zzy=>?_
 obtain⟨y,H2,I2,r2,q2⟩:=zzy;exact hf v u s2 x y H2 I2 r1 r2 q2
theorem a2E{op:Operator}{r:R2}(ho:OpR X (binaryOp op) r)(ha:PE X a ta)(hb:PE X b tb):PE X (.BinOp a op b pos) (tOp r ta tb):=by
 intro pins s zzs H Q I h;exact wpAny_BinOp (a06 ha hb I h fun v u s2 x y H2 I2 rx ry q=>ho pins s2 zzs H2 x y v u Q I2 rx ry q)
theorem a2G{op:UnaryOp}{r:V->Hp->VK->Prop}(ho:UnR X (unaryOp op) r)(ha:PE X a ta):PE X (.UnaryOp op a pos) (tUn r ta):=by
 intro pins s zzs H Q I h;exact UnaryOp_ (thn (ha pins s zzs H _ I h) fun v s1 ⟨x,H1,I1,r1,q1⟩=>ho pins s1 zzs H1 x v Q I1 r1 q1)
theorem opI{f:Value->Value->Sem Value}{C:Int->Int->Prop}{g:Int->Int->Int}
  (rule:∀(i j:Int)(t u:Tok)(s:Shared)(Q:Value->Shared->Prop)(E:Value->Shared->Prop),C i j->Q (.int (g i j) s.toks) { s with toks:=s.toks+1 }->wpAny (model X.prog X.w) X.A (f (.int i t) (.int j u)) Q E s) :
  OpR X f (rI C fun i j=>.int (g i j)):=by
 intro pins s zzs H x y v u Q I rx ry h;obtain⟨i,j,rfl,rfl,hc,q⟩:=h;obtain⟨t,rfl⟩:=rx;obtain⟨t',rfl⟩:=ry;exact rule i j t t' s _ _ hc ⟨.int (g i j),H,I.tok _,⟨_,rfl⟩,q⟩
theorem a2A{f:Value->Value->Sem Value}{g:Int->Int->Int}
  (rule:∀(i j:Int)(t u:Tok)(s:Shared)(Q:Value->Shared->Prop)(E:Value->Shared->Prop),Q (.int (g i j) s.toks) { s with toks:=s.toks+1 }->wpAny (model X.prog X.w) X.A (f (.int i t) (.int j u)) Q E s) :
  OpR X f (rI0 fun i j=>.int (g i j)):=by
 intro pins s zzs H x y v u Q I rx ry h;obtain⟨i,j,rfl,rfl,q⟩:=h;obtain⟨t,rfl⟩:=rx;obtain⟨t',rfl⟩:=ry;exact rule i j t t' s _ _ ⟨.int (g i j),H,I.tok _,⟨_,rfl⟩,q⟩
theorem a0R{f:Value->Value->Sem Value}{g:Int->Int->Bool}
  (rule:∀(i j:Int)(t u:Tok)(s:Shared)(Q:Value->Shared->Prop)(E:Value->Shared->Prop),Q (.bool (g i j)) s->wpAny (model X.prog X.w) X.A (f (.int i t) (.int j u)) Q E s) :
  OpR X f (rI0 fun i j=>.bl (g i j)):=by
 intro pins s zzs H x y v u Q I rx ry h;obtain⟨i,j,rfl,rfl,q⟩:=h;obtain⟨t,rfl⟩:=rx;obtain⟨t',rfl⟩:=ry;exact rule i j t t' s _ _ ⟨.bl (g i j),H,I,rfl,q⟩
def a3x(i j:Int):Prop:=0<j/\j<1073741824
def Xe(i j:Int):Prop:=(-(2^64)<i/\i<2^64)\/(-(2^64)<j/\j<2^64)
theorem Xe.ok{i j:Int}(h:Xe i j):IntMulOk i j:=by
 rcases h with⟨h1,h2⟩|⟨h1,h2⟩
 ·exact .of_left (intBits_le_64 h1 h2)
 ·exact .of_right (intBits_le_64 h1 h2)
theorem a0S:OpR X (binaryOp .Add) (rI0 fun i j=>.int (i+j)):=a2A fun _ _ _ _ _ _ _ q=>add_int q
theorem FQ:OpR X (binaryOp .Sub) (rI0 fun i j=>.int (i-j)):=a2A fun _ _ _ _ _ _ _ q=>sub_int q
theorem a0Z:OpR X (binaryOp .Mult) (rI Xe fun i j=>.int (i*j)):=opI fun _ _ _ _ _ _ _ hc q=>mul_int q hc.ok
theorem Pz:OpR X (binaryOp .FloorDiv) (rI a3x fun i j=>.int (i / j)):=opI fun i j _ _ _ _ _ hc q=>by
 have h1:(0:Int)<j:=hc.1;have h2:j<1073741824:=hc.2;exact floordiv_int (by lia) (by rw[Int.fdiv_eq_ediv_of_nonneg i (by lia)];exact q) (.inl (PyProof.noPylong_small (by omega)))
theorem qD:OpR X (binaryOp .Mod) (rI (fun _ j=>0<j) fun i j=>.int (i%j)):=opI fun i j _ _ _ _ _ hc q=>by
 have h1:(0:Int)<j:=hc;exact mod_int' (by lia) (by rw[Int.fmod_eq_emod_of_nonneg i (by lia)];exact q)
theorem unI{f:Value->Sem Value}{g:Int->Int}
  (rule:∀(i:Int)(t:Tok)(s:Shared)(Q:Value->Shared->Prop)(E:Value->Shared->Prop),Q (.int (g i) s.toks) { s with toks:=s.toks+1 }->wpAny (model X.prog X.w) X.A (f (.int i t)) Q E s) :
  UnR X f (rU fun i=>.int (g i)):=by
 intro pins s zzs H x v Q I rx h;obtain⟨i,rfl,q⟩:=h;obtain⟨t,rfl⟩:=rx;exact rule i t s _ _ ⟨.int (g i),H,I.tok _,⟨_,rfl⟩,q⟩
theorem ud:UnR X (unaryOp .USub) (rU fun i=>.int (-i)):=unI fun _ _ _ _ _ q=>neg_int q
end
def a2Z:V->V->Bool
 |.non,.non=>true|.non,.int _=>true|.int _,.non=>true|.non,.bl _=>true|.bl _,.non=>true|.non,.str _=>true|.str _,.non=>true
 |.int _,.int _=>true|.bl _,.bl _=>true|.str _,.str _=>true|.byt _,.byt _=>true
 |.int _,.str _=>true|.str _,.int _=>true|.bl _,.str _=>true|.str _,.bl _=>true
 |_,_=>false
def rEq:R2:=fun x y H Q=>a2Z x y=true/\Q (.bl (decide (x=y))) H
def rNe:R2:=fun x y H Q=>a2Z x y=true/\Q (.bl (!decide (x=y))) H
theorem Oq{i j:Int}:decide (V.int i=V.int j)=(i==j):=by
 rw[sZ];simp
theorem Ti{i j:Bool}:decide (V.bl i=V.bl j)=(i==j):=by
 rw[sZ];simp
theorem Ot{i j:Str}:decide (V.str i=V.str j)=(i==j):=by
 rw[sZ];simp
theorem Oo{i j:Array UInt8}:decide (V.byt i=V.byt j)=(i.toList==j.toList):=by
 rw[sZ];cases i;cases j;simp
section
variable{X:Cx}{a b c:Expr}{ta tb tc:TE}{pos:Pos}
theorem bY{pins:List (Addr×Obj)}{zzs:St}{H:Hp}{s:Shared}{Q:VK}{k k':Bool}(I:Inv X pins zzs H s)(q:Q (.bl k) H)(e:k=k'):EP X pins zzs Q (.bool k') s:=by
 subst e;exact⟨.bl k,H,I,rfl,q⟩
theorem yh:OpR X (compareOp .Eq) rEq:=by
 intro pins s zzs H x y v u Q I rx ry h;obtain⟨hs,q⟩:=h;cases x with
 |non=>
  cases rx;cases y with
  |non=>cases ry;exact PySem.EqNone.eq_none_none (bY I q (by simp))
  |bl j=>cases ry;exact PySem.EqNone.eq_none_bool (bY I q (by simp))
  |int j=>obtain⟨t',rfl⟩:=ry;exact PySem.EqNone.eq_none_int (bY I q (by simp))
  |str j=>obtain⟨t',rfl⟩:=ry;exact PySem.EqNone.eq_none_str (bY I q (by simp))
  |_=>exact absurd (show false=true from hs) fW
 |bl i=>
  cases rx;cases y with
  |non=>cases ry;exact PySem.EqNone.eq_bool_none (bY I q (by simp))
  |bl j=>cases ry;exact eq_bool (bY I q Ti)
  |str j=>obtain⟨t',rfl⟩:=ry;exact PySem.EqMixed.eq_bool_str (bY I q (by simp))
  |_=>exact absurd (show false=true from hs) fW
 |int i=>
  obtain⟨t,rfl⟩:=rx;cases y with
  |non=>cases ry;exact PySem.EqNone.eq_int_none (bY I q (by simp))
  |int j=>obtain⟨t',rfl⟩:=ry;exact eq_int (bY I q Oq)
  |str j=>obtain⟨t',rfl⟩:=ry;exact PySem.EqMixed.eq_int_str (bY I q (by simp))
  |_=>exact absurd (show false=true from hs) fW
 |str i=>
  obtain⟨t,rfl⟩:=rx;cases y with
  |non=>cases ry;exact PySem.EqNone.eq_str_none (bY I q (by simp))
  |bl j=>cases ry;exact PySem.EqMixed.eq_str_bool (bY I q (by simp))
  |int j=>obtain⟨t',rfl⟩:=ry;exact PySem.EqMixed.eq_str_int (bY I q (by simp))
  |str j=>obtain⟨t',rfl⟩:=ry;exact eq_str (bY I q Ot)
  |_=>exact absurd (show false=true from hs) fW
 |byt i=>
  obtain⟨t,rfl⟩:=rx;cases y with
  |byt j=>obtain⟨t',rfl⟩:=ry;exact PySem.W.eq_bytes (bY I q Oo)
  |_=>exact absurd (show false=true from hs) fW
 |_=>cases y<;>exact absurd (show false=true from hs) fW
theorem Eb:OpR X (compareOp .NotEq) rNe:=by
 intro pins s zzs H x y v u Q I rx ry h;obtain⟨hs,q⟩:=h;cases x with
 |non=>
  cases rx;cases y with
  |non=>cases ry;exact PySem.EqNone.ne_none_none (bY I q (by simp))
  |bl j=>cases ry;exact PySem.EqNone.ne_none_bool (bY I q (by simp))
  |int j=>obtain⟨t',rfl⟩:=ry;exact PySem.EqNone.ne_none_int (bY I q (by simp))
  |str j=>obtain⟨t',rfl⟩:=ry;exact PySem.EqNone.ne_none_str (bY I q (by simp))
  |_=>exact absurd (show false=true from hs) fW
 |bl i=>
  cases rx;cases y with
  |non=>cases ry;exact PySem.EqNone.ne_bool_none (bY I q (by simp))
  |bl j=>cases ry;exact ne_bool (bY I q (congrArg not Ti))
  |str j=>obtain⟨t',rfl⟩:=ry;exact PySem.EqMixed.ne_bool_str (bY I q (by simp))
  |_=>exact absurd (show false=true from hs) fW
 |int i=>
  obtain⟨t,rfl⟩:=rx;cases y with
  |non=>cases ry;exact PySem.EqNone.ne_int_none (bY I q (by simp))
  |int j=>obtain⟨t',rfl⟩:=ry;exact ne_int (bY I q (congrArg not Oq))
  |str j=>obtain⟨t',rfl⟩:=ry;exact PySem.EqMixed.ne_int_str (bY I q (by simp))
  |_=>exact absurd (show false=true from hs) fW
 |str i=>
  obtain⟨t,rfl⟩:=rx;cases y with
  |non=>cases ry;exact PySem.EqNone.ne_str_none (bY I q (by simp))
  |bl j=>cases ry;exact PySem.EqMixed.ne_str_bool (bY I q (by simp))
  |int j=>obtain⟨t',rfl⟩:=ry;exact PySem.EqMixed.ne_str_int (bY I q (by simp))
  |str j=>obtain⟨t',rfl⟩:=ry;exact ne_str (bY I q (congrArg not Ot))
  |_=>exact absurd (show false=true from hs) fW
 |byt i=>
  obtain⟨t,rfl⟩:=rx;cases y with
  |byt j=>obtain⟨t',rfl⟩:=ry;exact PySem.W.ne_bytes (bY I q (congrArg not Oo))
  |_=>exact absurd (show false=true from hs) fW
 |_=>cases y<;>exact absurd (show false=true from hs) fW
theorem Ac:OpR X (compareOp .Lt) (rI0 fun i j=>.bl (decide (i<j))):=a0R fun _ _ _ _ _ _ _ q=>lt_int q
theorem qC:OpR X (compareOp .LtE) (rI0 fun i j=>.bl (decide (i<=j))):=a0R fun _ _ _ _ _ _ _ q=>le_int q
theorem Ea:OpR X (compareOp .Gt) (rI0 fun i j=>.bl (decide (j<i))):=a0R fun _ _ _ _ _ _ _ q=>gt_int q
theorem jy:OpR X (compareOp .In) (fun x y H Q=>∃ i j,x=.str i/\y=.str j/\Q (.bl (!(Builtin.Str.occurrences j i 0 j.length 1).isEmpty)) H):=by
 intro pins s zzs H x y v u Q I rx ry h;obtain⟨i,j,rfl,rfl,q⟩:=h;obtain⟨t,rfl⟩:=rx;obtain⟨t',rfl⟩:=ry;exact in_str (bY I q rfl)
theorem iB:OpR X (compareOp .NotIn) (fun x y H Q=>∃ i j,x=.str i/\y=.str j/\Q (.bl (!(!(Builtin.Str.occurrences j i 0 j.length 1).isEmpty))) H):=by
 intro pins s zzs H x y v u Q I rx ry h;obtain⟨i,j,rfl,rfl,q⟩:=h;obtain⟨t,rfl⟩:=rx;obtain⟨t',rfl⟩:=ry;exact notIn_str (bY I q rfl)
theorem OpR.or{f:Value->Value->Sem Value}{r r':R2}(h:OpR X f r)(h':OpR X f r'):OpR X f (fun x y H Q=>r x y H Q\/r' x y H Q):=by
 intro pins s zzs H x y v u Q I rx ry q;rcases q with q|q
 ·exact h pins s zzs H x y v u Q I rx ry q
 ·exact h' pins s zzs H x y v u Q I rx ry q
theorem dh(b:Expr){op:CmpOp}(h:op≠.In:=by decide)(h2:op≠.NotIn:=by decide):behindInMarks op b=false:=by
 have e1:(op==CmpOp.In)=false:=by cases op<;>first|rfl|exact absurd rfl h
 have e2:(op==CmpOp.NotIn)=false:=by cases op<;>first|rfl|exact absurd rfl h2
 cases b<;>simp[behindInMarks,e1,e2]
theorem Yv{op:CmpOp}{r:R2}(ho:OpR X (compareOp op) r)(ha:PE X a ta)(hb:PE X b tb)(hm:behindInMarks op b=false):PE X (.Compare a [op] [b] pos) (tOp r ta tb):=by
 intro pins s zzs H Q I h;exact wpAny_Compare1 (a06 ha hb I h fun v u s2 x y H2 I2 rx ry q=>ho pins s2 zzs H2 x y v u Q I2 rx ry q) hm
def Ql(t:TE):TT:=fun zzs H Q=>t zzs H fun x H'=>∃ k,x=.bl k/\Q k H'
theorem YX{op:CmpOp}{r:R2}(ho:OpR X (compareOp op) r)(ha:PE X a ta)(hb:PE X b tb)(hm:behindInMarks op b=false):PT X (.Compare a [op] [b] pos) (Ql (tOp r ta tb)):=by
 intro pins s zzs H Q I h;refine wpAny_isTrue_Compare1 (thn (ha pins s zzs H _ I h) fun v s1 ⟨x,H1,I1,r1,q1⟩=>thn (hb pins s1 zzs H1 _ I1 q1) fun u s2 ⟨y,H2,I2,r2,q2⟩=>
  thn (ho pins s2 zzs H2 x y v u _ I2 r1 r2 q2) fun c s3 ⟨z,H3,I3,r3,k,e,q3⟩=>?_) hm
 subst e;cases r3;exact sX ⟨H3,I3,q3⟩
def Gq(r r':R2)(ta tb tc:TE):TE:=fun zzs H Q=>ta zzs H fun x H1=>tb zzs H1 fun y H2=>r x y H2 fun z H3=>∃ k,z=.bl k /\
 (if k=true then tc zzs H3 fun w' H4=>r' y w' H4 Q else Q (.bl false) H3)
theorem V4{op op':CmpOp}{r r':R2}(ho:OpR X (compareOp op) r)(ho':OpR X (compareOp op') r')(ha:PE X a ta)(hb:PE X b tb)(hc:PE X c tc)
  (hm:lastMarks [op,op'] [b,c]=false:=by with_unfolding_all rfl):PE X (.Compare a [op,op'] [b,c] pos) (Gq r r' ta tb tc):=by
 intro pins s zzs H Q I h;refine Compare_chain (thn (ha pins s zzs H _ I h) fun v s1 ⟨x,H1,I1,r1,q1⟩=>chain_link (thn (hb pins s1 zzs H1 _ I1 q1) fun u s2 ⟨y,H2,I2,r2,q2⟩=>
  thn (ho pins s2 zzs H2 x y v u _ I2 r1 r2 q2) fun d s3 ⟨z,H3,I3,r3,k,e,q3⟩=>?_)) hm
 subst e;cases r3;refine sX ?_;cases k with
 |false=>exact ite_ff ⟨.bl false,H3,I3,rfl,q3⟩
 |true=>exact ite_tt (chain_last (thn (hc pins s3 zzs H3 _ I3 q3) fun w' s4 ⟨z',H4,I4,r4,q4⟩=>ho' pins s4 zzs H4 y z' u w' Q I4 r2 r4 q4))
theorem Vg{op op':CmpOp}{r r':R2}(ho:OpR X (compareOp op) r)(ho':OpR X (compareOp op') r')(ha:PE X a ta)(hb:PE X b tb)(hc:PE X c tc)
  (hm:lastMarks [op,op'] [b,c]=false:=by with_unfolding_all rfl):PT X (.Compare a [op,op'] [b,c] pos) (Ql (Gq r r' ta tb tc)):=by
 intro pins s zzs H Q I h;refine isTrue_chain (thn (ha pins s zzs H _ I h) fun v s1 ⟨x,H1,I1,r1,q1⟩=>test_link (thn (hb pins s1 zzs H1 _ I1 q1) fun u s2 ⟨y,H2,I2,r2,q2⟩=>
  thn (ho pins s2 zzs H2 x y v u _ I2 r1 r2 q2) fun d s3 ⟨z,H3,I3,r3,k,e,q3⟩=>?_)) hm
 subst e;cases r3;refine sX ?_;cases k with
 |false=>
  obtain⟨k',e',q'⟩:=q3;cases e';exact ite_ff ⟨H3,I3,q'⟩
 |true=>
  refine ite_tt (test_last (thn (hc pins s3 zzs H3 _ I3 q3) fun w' s4 ⟨z',H4,I4,r4,q4⟩=>thn (ho' pins s4 zzs H4 y z' u w' _ I4 r2 r4 q4) fun d' s5 zzy=>?_));obtain⟨z2,H5,I5,r5,k2,e2,q5⟩:=zzy;subst e2;cases r5;exact sX ⟨H5,I5,q5⟩
theorem tW:(sizeLine:Nat)<2^63:=by rw[mZ];decide
theorem Lx:OpR X (binaryOp .Add) (fun x y H Q=>∃ i j,x=.str i/\y=.str j/\i.length+j.length<=sizeLine/\Q (.str (i++j)) H):=by
 intro pins s zzs H x y v u Q I rx ry h;obtain⟨i,j,rfl,rfl,hz,q⟩:=h;obtain⟨t,rfl⟩:=rx;obtain⟨t',rfl⟩:=ry;exact add_str (fun t' tk=>⟨.str (i++j),H,I.tok _,⟨_,rfl⟩,q⟩) hz
theorem vals1{x:V}{us:List Value}(r:Vals [x] us):∃ u,us=[u]/\RelV x u:=by
 cases r with
 |cons r1 r2=>cases r2;exact⟨_,rfl,r1⟩
theorem vals2{x y:V}{us:List Value}(r:Vals [x,y] us):∃ u w',us=[u,w']/\RelV x u/\RelV y w':=by
 cases r with
 |cons r1 r2=>
  cases r2 with
  |cons r3 r4=>cases r4;exact⟨_,_,rfl,r1,r3⟩
theorem Dh(hc:X.calm=true):fB X (.builtin "max") (fun xs H Q=>∃ i j,xs=[.int i,.int j]/\Q (.int (if j>i then j else i)) H):=by
 intro pins s zzs H xs us Q I r h;obtain⟨i,j,rfl,q⟩:=h;obtain⟨u,w',rfl,⟨t,rfl⟩,⟨t',rfl⟩⟩:=vals2 r;refine max_two_ints (I.ok.hd hc) fun h' tk k=>⟨_,H,I.kept k,?_,q⟩
 by_cases hj:j>i
 ·rw[aK hj,aK hj];exact⟨_,rfl⟩
 ·rw[aJ hj,aJ hj];exact⟨_,rfl⟩
theorem Di(hc:X.calm=true):fB X (.builtin "min") (fun xs H Q=>∃ i j,xs=[.int i,.int j]/\Q (.int (if j<i then j else i)) H):=by
 intro pins s zzs H xs us Q I r h;obtain⟨i,j,rfl,q⟩:=h;obtain⟨u,w',rfl,⟨t,rfl⟩,⟨t',rfl⟩⟩:=vals2 r;refine min_two_ints (I.ok.hd hc) fun h' tk k=>⟨_,H,I.kept k,?_,q⟩
 by_cases hj:j<i
 ·rw[aK hj,aK hj];exact⟨_,rfl⟩
 ·rw[aJ hj,aJ hj];exact⟨_,rfl⟩
theorem Qu:fB X (.type "int") (fun xs H Q=>(∃ i,xs=[.int i]/\Q (.int i) H)\/∃ k,xs=[.bl k]/\Q (.int (if k then 1 else 0)) H):=by
 intro pins s zzs H xs us Q I r h;rcases h with⟨i,rfl,q⟩|⟨k,rfl,q⟩
 ·obtain⟨u,rfl,t,rfl⟩:=vals1 r;exact call_int_int ⟨.int i,H,I,⟨_,rfl⟩,q⟩
 ·obtain⟨u,rfl,r1⟩:=vals1 r;cases r1;exact call_int_bool ⟨.int (if k then 1 else 0),H,I.tok _,⟨_,rfl⟩,q⟩
theorem Fd:fB X (.type "str") (fun xs H Q=>∃ i,xs=[.int i]/\i.natAbs.log2<1920/\Q (.str (toString i)) H):=by
 intro pins s zzs H xs us Q I r h;obtain⟨i,rfl,hz,q⟩:=h;obtain⟨u,rfl,t,rfl⟩:=vals1 r;exact PySem.P.str_of_int hz ⟨.str _,H,I.tok _,⟨_,rfl⟩,q⟩
end
structure Qs(h:Heap)(x dx C:Addr)(mA:Str->Option Value):Prop where
 obj:h.get? x=some (PySem.W.instObj C dx)
 ns:h.Ns1 dx mA
 ne:dx≠x
theorem Rh{h:Heap}{dx:Addr}{mA:Str->Option Value}(n:h.Ns1 dx mA):∃ od,h.get? dx=some od/\∀ name,PySem.W.lookIn name od=some (mA name):=by
 obtain⟨o,es,ep,ho,hd,hk,_,hm⟩:=n;refine⟨o,ho,fun name=>?_⟩;have e:=hm name;unfold nsFind findBy at e;rw[<- Array.find?_toList] at e;unfold PySem.W.lookIn;rw[hd];dsimp only;split
 ·rename_i y q;rw[q] at e;exact congrArg some e
 ·rename_i q;rw[q] at e;have a:es.toList.any (·.refKey)=false:=by
   rw[List.any_eq_false];intro y hy;obtain⟨z,t,hkey⟩:=hk y (Array.mem_toList_iff.mp hy);simp[DictEntry.refKey,hkey]
  have a':¬es.toList.any (·.refKey)=true:=by rw[a];exact fW
  rw[aJ a'];exact congrArg some e
theorem Qs.look{h:Heap}{x dx C:Addr}{mA:Str->Option Value}(I:Qs h x dx C mA):∃ od,PySem.W.InstAt h x (PySem.W.instObj C dx) C (some od)/\∀ name,PySem.W.lookIn name od=some (mA name):=
 let ⟨od,ho,hl⟩:=Rh I.ns
 ⟨od,⟨I.obj,rfl,rfl,ho⟩,hl⟩
section
variable{prog:Program}{w:World}{A:Around}{E:Value->Shared->Prop}{s:Shared}{K:ao}{x dx C f:Addr}{mA:Str->Option Value}{name:Str}{v:Value}
theorem get_map{expr:Bool}{Q:Value->Shared->Prop}(X:K.In s.heap)(I:Qs s.heap x dx C mA)(hg:PySem.W.plainGet K C name=true)(hh:PySem.W.hasDictIn K C=true)
  (ha:PySem.W.findIn K (.ref C) name=some none) (hv:mA name=some v) (hv':PySem.W.handedIn v=true) (h:Q v { s with toks:=s.toks+1 }) :
  wpAny (model prog w) A (getAttr (.ref x) name expr) Q E s:=by
 obtain⟨od,J,hl⟩:=I.look;exact PySem.W.get_value X J (PySem.W.plainGet_of hg).1 (PySem.W.findObj_own hh ha rfl (by rw[hl,hv])) hv' h
theorem Ze{ns:List Str}{Q:Unit->Shared->Prop}(X:K.In s.heap)(I:Qs s.heap x dx C mA)
  (hs:PySem.W.findIn K (.ref C) "__setattr__" = some (some (.builtin "object.__setattr__"))) (hp:PySem.W.plainOver K C=true) (ht:PySem.W.takerIn K C name=some none) (hh:PySem.W.hasDictIn K C=true)
  (hw:PySem.Within mA ns) (hsz:ns.length<=sizeLine)
  (h:∀ h',Qs h' x dx C (fun y=>if y=name then some v else mA y)->Heap.SameBut dx s.heap h'->Q () { s with heap:=h',toks:=s.toks+2 }) :
  wpAny (model prog w) A (setAttr (.ref x) name v) Q E s:=by
 obtain⟨od,J,hl⟩:=I.look;refine PySem.W.set_plain X J hs (PySem.W.osa_open (s:={ s with toks:=s.toks+1 }) (r:=none) X J hp ht fun b=>?_);obtain⟨cd,hc,hd'⟩:=PySem.W.any_some hh;have hx:s.heap.get? x=some ⟨.ref C,some dx,.plain,#[]⟩:=I.obj;refine aO (cF (aO (aO (wpAny_loadPart hx (aO (PySem.W.Looks.here (s:={ s with toks:=s.toks+1 }) (PySem.W.looks_clsIn X hc) ?_))))));rw[hd'];refine cF (a:=some dx) (aO (cF (aO ?_)));refine wpAny_nsSet1 (s:={ s with toks:=s.toks+1 }) I.ns fun h' hn2 hs2=>?_
 obtain⟨oD,esD,epD,hoD,hdD,hcD⟩:=hn2.count (PySem.Within.cons name v hw);refine aO (wpAny_lookBehind hoD (by rw[hdD];exact pastItsLine_dict (cO hcD (by rw[dY];lia))) ?_);exact cF (h _ ⟨(hs2.2 _ (ig I.ne)).trans I.obj,hn2,I.ne⟩ hs2)
theorem Uh{R:Result->Shared->Prop}{vs:List Value}{kw:List (Str×Value)}(X:K.In s.heap)(hm:PySem.W.makesIn K C=true)
  (hi:PySem.W.findIn K (.ref C) "__init__" = some (some (.ref f))) (hf:PySem.W.typeIn K (.ref f)=some (.type "function"))
  (h:codeAny (model prog w) (A.under (.builtin "type.__call__" ⟨.ref C::vs,kw⟩)) (.call (.ref f) ⟨.ref (s.heap.objs.size+1)::vs,kw⟩) (PySem.W.InitBack (s.heap.objs.size+1) R)
   { s with heap:=(s.heap.push PySem.W.emptyDict).push (PySem.W.instObj C s.heap.objs.size) }) :
  codeAny (model prog w) A (.call (.ref C) ⟨vs,kw⟩) R s:=by
 obtain⟨hh,g,d,t,os⟩:=s;exact PySem.W.make_core (PySem.W.makes_of X hm) (PySem.W.looks_findIn X hi) (fun self=>PySem.W.bind_fn X self hf) (.inl rfl) h
end
def jO(f:Str)(v:V):List (Str×V)->List (Str×V)
 |[]=>[(f,v)]
 |(g,x)::r=>if g=f then(g,v)::r else(g,x)::jO f v r
theorem fU(f g:Str)(v:V):∀ fs:List (Str×V),(jO f v fs).lookup g=if g=f then some v else fs.lookup g
 |[]=>by
  show List.lookup g [(f,v)]=_;by_cases h:g=f
  ·have hb:(g==f)=true:=iM.mpr h;simp only[List.lookup,hb,aK h]
  ·have hb:(g==f)=false:=lX.mpr h;simp only[List.lookup,hb,aJ h]
 |(k,x)::r=>by
  have ih:=fU f g v r;rw[show jO f v ((k,x)::r)=(if k=f then(k,v)::r else(k,x)::jO f v r) from rfl];by_cases hk:k=f
  ·rw[aK hk];by_cases h:g=k
   ·have hb:(g==k)=true:=iM.mpr h;simp only[List.lookup,hb,aK (h.trans hk)]
   ·have hb:(g==k)=false:=lX.mpr h;simp only[List.lookup,hb,aJ (fun e:g=f=>h (e.trans hk.symm))]
  ·rw[aJ hk];by_cases h:g=k
   ·have hb:(g==k)=true:=iM.mpr h;simp only[List.lookup,hb,aJ (fun e:g=f=>hk (h.symm.trans e))]
   ·have hb:(g==k)=false:=lX.mpr h;simp only[List.lookup,hb];exact ih
theorem wz(f:Str)(v:V):∀ fs:List (Str×V),f∈(jO f v fs).map (·.1)/\∀ g,g∈fs.map (·.1)->g∈(jO f v fs).map (·.1)
 |[]=>⟨by simp[jO],fun g h=>by simp at h⟩
 |(k,x)::r=>by
  obtain⟨i1,i2⟩:=wz f v r;rw[show jO f v ((k,x)::r)=(if k=f then(k,v)::r else(k,x)::jO f v r) from rfl];by_cases hk:k=f
  ·rw[aK hk];subst hk;exact⟨by simp,fun g h=>by simpa using h⟩
  ·rw[aJ hk];refine⟨?_,fun g h=>?_⟩
   ·rw[dJ];exact dI _ i1
   ·rw[dJ] at h ⊢;rcases bW.mp h with e|e
    ·exact bW.mpr (.inl e)
    ·exact dI _ (i2 g e)
theorem mD(f:Str)(v:V):∀ fs:List (Str×V),(jO f v fs).length<=fs.length+1
 |[]=>by simp[jO]
 |(k,x)::r=>by
  have ih:=mD f v r;rw[show jO f v ((k,x)::r)=(if k=f then(k,v)::r else(k,x)::jO f v r) from rfl];by_cases hk:k=f
  ·rw[aK hk,dY,dY];lia
  ·rw[aJ hk,dY,dY];lia
theorem zq.some_of{v:V}{o:Option Value}(r:zq (some v) o):∃ u,o=some u/\RelV v u:=by
 cases o with
 |none=>exact(show False from r).elim
 |some u=>exact⟨u,rfl,r⟩
theorem R4{v:V}{u:Value}(r:RelV v u):PySem.W.handedIn u=true:=by
 cases v with
 |non=>cases (show u=Value.none from r);rfl
 |bl b=>cases (show u=Value.bool b from r);rfl
 |int i=>obtain⟨t,e⟩:=(show ∃ t,u=Value.int i t from r);cases e;rfl
 |str x=>obtain⟨t,e⟩:=(show ∃ t,u=Value.str x t from r);cases e;rfl
 |byt b=>obtain⟨t,e⟩:=(show ∃ t,u=Value.bytes b t from r);cases e;rfl
 |flt b=>obtain⟨t,e⟩:=(show ∃ t,u=Value.float b t from r);cases e;rfl
 |ref a=>cases (show u=Value.ref a from r);rfl
 |ty n=>cases (show u=Value.type n from r);rfl
section
variable{P:Program}{w:World}{H H':Hp}{h h':Heap}{a C dx:Addr}{fs fs':List (Str×V)}
theorem Pb(hok:HOk P w H h)(e:H a=some (.ins C dx fs)):∃ mA,Qs h a dx C mA/\(∀ f,zq (fs.lookup f) (mA f))/\PySem.Within mA (fs.map (·.1))/\fs.length<=1000/\H dx=some (.own a):=by
 obtain⟨d,z,ne,ob,mA,n,r,q⟩:=(show gG P w H h a (.ins C dx fs) from hok a _ e)
 exact⟨mA,⟨ob,n,ne⟩,r,q,z,d⟩
end
structure Cls(K:ao)(C:Addr):Prop where
 pg:PySem.W.plainGet K C Str.empty=true
 hd:PySem.W.hasDictIn K C=true
 po:PySem.W.plainOver K C=true
 sa:PySem.W.findIn K (.ref C) "__setattr__" = some (some (.builtin "object.__setattr__"))
theorem Cls.get{K:ao}{C:Addr}(c:Cls K C)(f:Str):PySem.W.plainGet K C f=true:=c.pg
def oh(K:ao)(C:Addr)(f:Str):Prop:=PySem.W.findIn K (.ref C) f=some none
theorem oh.taker{K:ao}{C:Addr}{f:Str}(n:oh K C f):PySem.W.takerIn K C f=some none:=by
 unfold PySem.W.takerIn;rw[show PySem.W.findIn K (.ref C) f=some none from n];rfl
section
variable{X:Cx}{pins:List (Addr×Obj)}{zzs:St}{H:Hp}{s:Shared}{a C dx:Addr}{fs:List (Str×V)}{f:Str}{v:V}{A:Around}{E:Value->Shared->Prop}
theorem Ld{b:Bool}{Q:Value->Shared->Prop}(I:Inv X pins zzs H s)(e:H a=some (.ins C dx fs))(c:Cls X.K C)(n:oh X.K C f)(l:fs.lookup f=some v)
  (h:∀ u s',Inv X pins zzs H s'->RelV v u->Q u s'):wpAny (model X.prog X.w) A (getAttr (.ref a) f b) Q E s:=by
 obtain⟨mA,O,r,_,_,_⟩:=Pb I.hok e;obtain⟨u,hu,ru⟩:=zq.some_of (v:=v) (o:=mA f) (by rw[<- l];exact r f);exact get_map I.kIn O (c.get f) c.hd n hu (R4 ru) (h u _ (I.tok _) ru)
theorem Mi{y:V}{u:Value}{Q:Unit->Shared->Prop}(I:Inv X pins zzs H s)(e:H a=some (.ins C dx fs))(c:Cls X.K C)(n:oh X.K C f)(hl:fs.length<1000)(ry:RelV y u)
  (h:∀ s',Inv X pins zzs (upd H a (.ins C dx (jO f y fs))) s'->Q () s'):wpAny (model X.prog X.w) A (setAttr (.ref a) f u) Q E s:=by
 obtain⟨mA,O,r,wi,_,ho⟩:=Pb I.hok e;have hz:(fs.map (·.1)).length<=sizeLine:=by rw[aN,mZ];lia
 refine Ze I.kIn O c.sa c.po n.taker c.hd wi hz fun h' O' sb=>h _ ?_
 have hd:∃ o,h'.get? dx=some o:=let ⟨o,_,_,e',_⟩:=O'.ns;⟨o,e'⟩;refine I.write (x:=a) (e:=dx) (by rw[e];exact True.intro) (.inr ho) (fun b q hb z=>(sb.2 b hb).trans z) hd ?_;refine⟨by rw[bF O.ne];exact ho,?_,O.ne,O'.obj,_,O'.ns,fun g=>?_,fun g hg=>?_⟩
 ·have:=mD f y fs;lia
 ·show zq ((jO f y fs).lookup g) (if g=f then some u else mA g);rw[fU];by_cases q:g=f
  ·rw[aK q,aK q];exact ry
  ·rw[aJ q,aJ q];exact r g
 ·by_cases q:g=f
  ·rw[q];exact(wz f y fs).1
  ·refine(wz f y fs).2 g (wi g fun z=>hg ?_);show(if g=f then some u else mA g)=none;rw[aJ q];exact z
theorem Inv.made(I:Inv X pins zzs H s):Inv X pins zzs (upd (upd H s.heap.objs.size (.own (s.heap.objs.size+1))) (s.heap.objs.size+1) (.ins C s.heap.objs.size []))
  { s with heap:=(s.heap.push PySem.W.emptyDict).push (PySem.W.instObj C s.heap.objs.size) }:=by
 have e1:(s.heap.push PySem.W.emptyDict).get? s.heap.objs.size=some PySem.W.emptyDict:=iu s.heap rfl;have e2:((s.heap.push PySem.W.emptyDict).push (PySem.W.instObj C s.heap.objs.size)).get? (s.heap.objs.size+1)=some (PySem.W.instObj C s.heap.objs.size):=by
  have:=iu (s.heap.push PySem.W.emptyDict) (o:=PySem.W.instObj C s.heap.objs.size) rfl;rwa[Heap.size_push] at this
 have e3:(s.heap.push PySem.W.emptyDict).Ns s.heap.objs.size (fun _=>none):=⟨PySem.W.emptyDict,#[],_,e1,rfl,(fun e he=>absurd he (by simp)),fun _=>rfl⟩
 have I1:=I.laid (a:=s.heap.objs.size) (o:=.own (s.heap.objs.size+1)) (h':=s.heap.push PySem.W.emptyDict) (t':=s.toks) (fun b u q=>fu _ q) (bK _) ⟨_,e1⟩;refine I1.laid (a:=s.heap.objs.size+1) (o:=.ins C s.heap.objs.size []) (t':=s.toks) (fun b u q=>fu _ q) (Nat.le_of_eq (Heap.size_push _ _)) ?_;have ne:s.heap.objs.size≠s.heap.objs.size+1:=dO (Bt _);refine⟨by rw[bF ne,aD],kj _,ne,e2,fun _=>none,(Heap.Ns1.of_empty e3).at fun o q=>fu _ q,fun _=>True.intro,fun y hy=>absurd rfl hy⟩
theorem Xl{prog:Program}{w:World}{env:Env}{e:Expr}{f:Str}{pos:Pos}{s:Shared}{Q:Value->Shared->Prop}(hb:attributeBase e f env (eval e env)=eval e env)
  (h:wpAny (model prog w) A (eval e env) (fun o s₁=>wpAny (model prog w) A (getAttr o f true) Q E s₁) E s):wpAny (model prog w) A (eval (.Attribute e f pos) env) Q E s:=
 Attribute_any_ h (by rw[arm_eval_Attribute,hb])
end
def a1J(K:ao)(ta:TE)(f:Str):TE:=fun zzs H Q=>ta zzs H fun x H1=>∃ a C dx fs v,x=.ref a/\H1 a=some (.ins C dx fs)/\Cls K C/\oh K C f/\fs.lookup f=some v/\Q v H1
def a2Y(K:ao)(ta tv:TE)(f:Str):TS:=fun D zzs H=>tv zzs H fun y H1=>ta zzs H1 fun x H2=>∃ a C dx fs,x=.ref a/\H2 a=some (.ins C dx fs)/\Cls K C/\oh K C f/\fs.length<1000 /\
 D.nx zzs (upd H2 a (.ins C dx (jO f y fs)))
section
variable{X:Cx}{o e value:Expr}{f:Str}{pos pos' tpos:Pos}{ta tv:TE}
theorem a1g(he:PE X e ta)(hb:attributeBase e f X.env (eval e X.env)=eval e X.env):PE X (.Attribute e f pos) (a1J X.K ta f):=by
 intro pins s zzs H Q I h;refine Xl hb (thn (he pins s zzs H _ I h) fun u s1 zzy=>?_);obtain⟨x,H1,I1,rx,a,C,dx,fs,v,ex,ea,c,n,l,q⟩:=zzy;subst ex;obtain rfl:u=Value.ref a:=rx;exact Ld I1 ea c n l fun u' s2 I2 ru=>⟨v,H1,I2,ru,q⟩
theorem a1s(ha:PE X o ta)(hv:PE X value tv)(hs:swapsWith value (some (.Attribute o f pos')) pos.line X.env=pure false):PS X (.Assign [.Attribute o f pos'] value pos) (a2Y X.K ta tv f):=by
 intro pins s zzs H D I h;refine plainObj_wpAny_Assign_Attribute (thn (hv pins s zzs H _ I h) fun u s1 ⟨y,H1,I1,ry,q⟩=>thn (ha pins s1 zzs H1 _ I1 q) fun ov s2 zzy=>?_) hs;obtain⟨x,H2,I2,rx,a,C,dx,fs,ex,ea,c,n,l,q2⟩:=zzy;subst ex;obtain rfl:ov=Value.ref a:=rx;exact Mi I2 ea c n l ry fun s3 I3=>⟨zzs,_,I3,q2⟩
end
structure iG(k:Nat)(A:Around):Prop where
 hd:A.handled=none
 dp:A.depth+3*k+5<recursionLimit
 un:A.units+16*k+200<cLine
theorem iG.mono{j k:Nat}{A:Around}(r:iG k A)(h:j<=k):iG j A:=⟨r.hd,by have:=r.dp;lia,by have:=r.un;lia⟩
theorem iG.deeper{k:Nat}{A:Around}(r:iG (k+1) A)(env:Env):iG k (A.deeper env):=
 ⟨r.hd,by have:=r.dp;show A.depth+1+3*k+5<_;lia,by have:=r.un;show A.units+3+16*k+200<_;lia⟩
theorem Lg{A:Around}{C:Addr}{us:List Value}{kw:List (Str×Value)}:(A.under (.builtin "type.__call__" ⟨.ref C::us,kw⟩)).depth=A.depth+1:=by
 first|rfl|simp[Around.under,Code.weight,Code.isCreation,Code.isGuard,Code.isCaller,Code.frames,Code.isFrame,guardIds]
theorem Lh{A:Around}{C:Addr}{us:List Value}{kw:List (Str×Value)}:(A.under (.builtin "type.__call__" ⟨.ref C::us,kw⟩)).units=A.units+1:=by
 first|rfl|simp[Around.under,Code.cUnits,Code.frames,Code.isFrame]
theorem iG.make{k:Nat}{A:Around}(r:iG (k+1) A)(C:Addr)(us:List Value)(kw:List (Str×Value)):iG k (A.under (.builtin "type.__call__" ⟨.ref C::us,kw⟩)):=
 ⟨r.hd,by have:=r.dp;rw[Lg];lia,by have:=r.un;rw[Lh];lia⟩
theorem iG.depth{k:Nat}{A:Around}(r:iG k A):A.depth<recursionLimit:=by have:=r.dp;lia
theorem iG.units{k:Nat}{A:Around}(r:iG k A):A.units+64<cLine:=by have:=r.un;lia
def vm:TA:=fun _ H Q=>Q [] H
def K3(ta:TE)(tr:TA):TA:=fun zzs H Q=>ta zzs H fun x H1=>tr zzs H1 fun xs H2=>Q (x::xs) H2
section
variable{X:Cx}{e:Expr}{es:List Expr}{te:TE}{t:TA}{pos:Pos}
theorem a1c:PA X [] vm:=fun _ _ _ _ H Q I h=>Calls.spliced_nil ⟨[],H,I,.nil,h⟩
theorem Yt(ha:PE X e te)(hr:PA X es t)(hs:starEach (e::es) X.env=(false,eval e X.env)::starEach es X.env:=by rfl):PA X (e::es) (K3 te t):=by
 intro pos pins s zzs H Q I h;rw[hs];show wpAny _ _ (spliced ((false,eval e X.env)::backTo pos (starEach es X.env))) _ _ s;refine Calls.spliced_cons (thn (ha pins s zzs H _ I h) fun u s1 zzy=>?_);obtain⟨x,H1,I1,r1,q1⟩:=zzy;exact thn (hr pos pins s1 zzs H1 _ I1 q1) fun us s2 ⟨xs,H2,I2,r2,q2⟩=>⟨x::xs,H2,I2,.cons r1 r2,q2⟩
def a1N(t:TA):TE:=fun zzs H Q=>t zzs H fun xs H1=>xs.length<=sizeLine/\∀ p,H1 p=none->Q (.ref p) (upd H1 p (.tup xs))
def a1L(t:TA):TE:=fun zzs H Q=>t zzs H fun xs H1=>xs.length<=sizeLine/\∀ p,H1 p=none->Q (.ref p) (upd H1 p (.lst xs))
theorem a1m {x1} (h:PA X es t):PE X (.Tuple es x1 pos) (a1N t):=by
 intro pins s zzs H Q I hq;refine wpAny_Tuple_spliced (thn (h pos pins s zzs H _ I hq) fun us s1 ⟨xs,H1,I1,r,z,q⟩=>⟨by rw[<- r.length];exact z,?_⟩);have hf:H1 s1.heap.objs.size=none:=I1.hok.fresh (bK _);refine⟨.ref s1.heap.objs.size,upd H1 s1.heap.objs.size (.tup xs),I1.laid (t':=s1.toks) (fun b u e=>fu _ e) (bK _) ?_,rfl,q _ hf⟩;exact⟨z,us,r,⟨_,iu _ rfl,rfl,_,rfl⟩⟩
theorem a1i(h:PA X es t):PE X (.List es pos) (a1L t):=by
 intro pins s zzs H Q I hq;refine wpAny_List_spliced (thn (h pos pins s zzs H _ I hq) fun us s1 ⟨xs,H1,I1,r,z,q⟩=>⟨by rw[<- r.length];exact z,?_⟩);have hf:H1 s1.heap.objs.size=none:=I1.hok.fresh (bK _);refine⟨.ref s1.heap.objs.size,upd H1 s1.heap.objs.size (.lst xs),I1.laid (t':=s1.toks) (fun b u e=>fu _ e) (bK _) ?_,rfl,q _ hf⟩;exact⟨z,us,0,r,iu _ rfl⟩
end
abbrev Sp:=List V->Hp->VK->XK->Prop
abbrev CXT:=List Env->Hp->Shared->XK->Value->Shared->Prop
structure K8(P:Program)(w:World)(K:ao)(mg:Str->Option Value)(base:Heap)(A:Around)(outer:List Env)(s:Shared)(H:Hp):Prop where
 frames:A.frames=some outer
 mod:Mod K mg base
 bs:∀ b o,base.get? b=some o->s.heap.get? b=some o/\H b=none
 bsz:base.objs.size<=s.heap.objs.size
 uK:s.heap.FunFrames base outer
 frf:∀ b∈frs outer,H b=none
 hok:HOk P w H s.heap
 bare:AllBare s.gens
def CE(outer:List Env)(P:Program)(w:World)(H:Hp)(s:Shared)(Q:VK)(u:Value)(s':Shared):Prop:=
 ∃ v H',s'.os=s.os/\AllBare s'.gens/\Un (frs outer) [] H H' s.heap s'.heap/\HOk P w H' s'.heap/\RelV v u/\Q v H'
def CR(CX:CXT)(outer:List Env)(P:Program)(w:World)(H:Hp)(s:Shared)(Q:VK)(E:XK)(r:Result)(s':Shared):Prop:=
 match r with
 |.ok (.ret u)=>CE outer P w H s Q u s'
 |.ok _=>False
 |.error e=>CX outer H s E e s'
structure cH(P:Program)(w:World)(K:ao)(mg:Str->Option Value)(base:Heap)(CX:CXT)(k:Nat)(f:Addr)(fd:FuncData)(ps:List Str)(sp:Sp):Prop where
 len:∀ vs H Q E,sp vs H Q E->vs.length=ps.length
 run:∀(A:Around)(outer:List Env)(s:Shared)(H:Hp)(args:Args)(us:List Value)(vs:List V)(Q:VK)(E:XK),iG k A->K8 P w K mg base A outer s H->BindsTo s fd args (ps.zip us)->Vals vs us->sp vs H Q E ->
  codeAny (model P w) A (.call (.ref f) args) (CR CX outer P w H s Q E) s
theorem K8.make{P:Program}{w:World}{K:ao}{mg:Str->Option Value}{base:Heap}{A:Around}{outer:List Env}{s:Shared}{H:Hp}(e:K8 P w K mg base A outer s H)(C:Addr)(us:List Value)(kw:List (Str×Value)) :
  K8 P w K mg base (A.under (.builtin "type.__call__" ⟨.ref C::us,kw⟩)) outer s H:=⟨by first|exact e.frames|(simpa [Around.under,Code.envs,Code.isFrame,pushEnvs] using e.frames),e.mod,e.bs,e.bsz,e.uK,e.frf,e.hok,e.bare⟩
section
variable{X:Cx}{pins:List (Addr×Obj)}{zzs:St}{H:Hp}{s s':Shared}
theorem Inv.env0(I:Inv X pins zzs H s):K8 X.prog X.w X.K X.mg X.base X.A X.stack s H:=
 ⟨I.ok.frames,I.ok.mod,I.bs,cO I.ok.bsz I.sz,I.stack,I.rT,I.hok,I.bare⟩
theorem Inv.after{Q:VK}{u:Value}(I:Inv X pins zzs H s)(h:CE X.stack X.prog X.w H s Q u s'):EP X pins zzs Q u s':=by
 obtain⟨v,H',os,bare,un,hok,r,q⟩:=h;obtain⟨hh,g,d,t,os'⟩:=s';obtain rfl:os'=s.os:=os;exact⟨v,H',I.call (h':=hh) (g':=g) (d':=d) (t':=t) (ch:=[]) un hok bare (fun b z=>absurd z (by simp)),r,q⟩
end
def Qj(sp:Sp)(dvs:List V)(E:XK)(t:TA):TE:=fun zzs H Q=>t zzs H fun vs H1=>sp (vs++dvs) H1 Q E
def Wb(C:Addr)(sp:Sp)(dvs:List V)(E:XK)(t:TA):TE:=fun zzs H Q=>t zzs H fun vs H1=>∀ x dx,H1 x=none->H1 dx=none->dx≠x ->
 sp (.ref x::(vs++dvs)) (upd (upd H1 dx (.own x)) x (.ins C dx [])) (fun v H2=>v=.non/\Q (.ref x) H2) E
def Binds(K:ao)(fd:FuncData)(ps:List Str)(ds:List Value):Prop:=
 ∀(s:Shared)(us:List Value),K.In s.heap->(us++ds).length=ps.length->BindsTo s fd ⟨us,[]⟩ (ps.zip (us++ds))
theorem Binds.all{K:ao}{fd:FuncData}{ps:List Str}(h:∀ us:List Value,us.length=ps.length->bindArgs fd ⟨us,[]⟩=pure (ps.zip us)):Binds K fd ps []:=fun s us _ hl=>by
 rw[qX] at hl ⊢;exact .of_eq (h us hl)
def Passes(CX:CXT)(X:Cx)(E:XK):Prop:=∀(pins:List (Addr×Obj))(zzs:St)(H:Hp)(s:Shared)(e:Value)(s':Shared),Inv X pins zzs H s->CX X.stack H s E e s'->X.xe e s'
section
variable{X:Cx}{CX:CXT}{k:Nat}{f C:Addr}{fd:FuncData}{ps:List Str}{sp:Sp}{dvs:List V}{ds:List Value}{E:XK}{x m:Str}{p pos apos:Pos}{e o:Expr}{es:List Expr}{ta:TE}{t:TA}
theorem a1E{pins:List (Addr×Obj)}{zzs:St}{H:Hp}{s:Shared}{Q:VK}{us:List Value}{vs:List V}(F:cH X.prog X.w X.K X.mg X.base CX k f fd ps sp)(hr:iG k X.A)(hb:Binds X.K fd ps ds)(hd:Vals dvs ds)(hx:Passes CX X E)
  (I:Inv X pins zzs H s) (r:Vals vs us) (h:sp (vs++dvs) H Q E):wpAny (model X.prog X.w) X.A (call (.ref f) us) (EP X pins zzs Q) X.xe s:=by
 have r2:Vals (vs++dvs) (us++ds):=r.append hd;have hl:(us++ds).length=ps.length:=by rw[<- r2.length];exact F.len _ _ _ _ h
 refine wpAny_call (BR (F.run X.A X.stack s H ⟨us,[]⟩ (us++ds) (vs++dvs) Q E hr I.env0 (hb s us I.kIn hl) r2 h) fun r s' hq=>?_);cases r with
 |error e=>exact hx pins zzs H s e s' I hq
 |ok fl=>
  cases fl with
  |ret u=>exact I.after hq
  |next=>exact False.elim hq
  |brk=>exact False.elim hq
  |cont=>exact False.elim hq
theorem Yu(F:cH X.prog X.w X.K X.mg X.base CX k f fd ps sp)(hr:iG k X.A)(hg:Gl X x)(hm:X.mg x=some (.ref f))(hk:PySem.W.keepIn X.K (.ref f)=true)(hb:Binds X.K fd ps ds)(hd:Vals dvs ds)(hx:Passes CX X E)
  (ha:PA X (e::es) t) (hdb:(x==("__debug__" : Str))=false:=by decide) (he:starEach (e::es) X.env=(false,eval e X.env)::starEach es X.env:=by rfl) (hpl:(backTo pos (starEach es X.env)).any (·.1)=false:=by rfl) :
  PE X (.Call (.Name x p) (e::es) [] pos) (Qj sp dvs E t):=by
 intro pins s zzs H Q I h;refine Hq (uN I hg hm ?_ hdb);refine Xa (h₀:=X.base) I.ok.mod.kin hk (thn (ha pos pins s zzs H _ I h) fun us s1 ⟨vs,H1,I1,r,q⟩=>⟨I1.kIn,?_⟩) he hpl;exact a1E F hr hb hd hx I1 r q
structure Mk(K:ao)(C f:Addr):Prop where
 makes:PySem.W.makesIn K C=true
 init:PySem.W.findIn K (.ref C) "__init__" = some (some (.ref f))
 fn:PySem.W.isFn K (.ref f)=true
 kp:PySem.W.keepIn K (.ref C)=true
theorem Vy{pins:List (Addr×Obj)}{zzs:St}{H:Hp}{s:Shared}{Q:VK}{us:List Value}{vs:List V}(M:Mk X.K C f)(F:cH X.prog X.w X.K X.mg X.base CX k f fd ps sp)(hr:iG (k+1) X.A)(hb:Binds X.K fd ps ds)(hd:Vals dvs ds)
  (hx:Passes CX X E) (I:Inv X pins zzs H s) (r:Vals vs us)
  (h:∀ x dx,H x=none->H dx=none->dx≠x->sp (.ref x::(vs++dvs)) (upd (upd H dx (.own x)) x (.ins C dx [])) (fun v H2=>v=.non/\Q (.ref x) H2) E) :
  wpAny (model X.prog X.w) X.A (call (.ref C) us) (EP X pins zzs Q) X.xe s:=by
 have hq:=h (s.heap.objs.size+1) s.heap.objs.size (I.hok.fresh (BW _)) (I.hok.fresh (bK _)) (dO (Bt _));have I2:=Inv.made (C:=C) I;have r2:Vals (V.ref (s.heap.objs.size+1)::(vs++dvs)) (Value.ref (s.heap.objs.size+1)::(us++ds)):=.cons rfl (r.append hd);have hl:(Value.ref (s.heap.objs.size+1)::us++ds).length=ps.length:=by
  have e:=r2.length;rw[F.len _ _ _ _ hq] at e;exact e.symm
 refine wpAny_call (Uh (f:=f) I.kIn M.makes M.init (iM.mp M.fn) (BR (F.run _ X.stack _ _ ⟨Value.ref (s.heap.objs.size+1)::us,[]⟩ (Value.ref (s.heap.objs.size+1)::(us++ds)) _ _ E (hr.make C us [])
  (I2.env0.make C us []) (hb _ (Value.ref (s.heap.objs.size+1)::us) I2.kIn hl) r2 hq) fun r s' hq'=>?_))
 cases r with
 |error e=>exact hx pins zzs _ _ e s' I2 hq'
 |ok fl=>
  cases fl with
  |ret u=>
   obtain⟨v,H',I3,rv,ev,q3⟩:=I2.after hq';subst ev;exact⟨rv,⟨V.ref (s.heap.objs.size+1),H',I3,rfl,q3⟩⟩
  |next=>exact False.elim hq'
  |brk=>exact False.elim hq'
  |cont=>exact False.elim hq'
theorem YC(M:Mk X.K C f)(F:cH X.prog X.w X.K X.mg X.base CX k f fd ps sp)(hr:iG (k+1) X.A)(hg:Gl X x)(hm:X.mg x=some (.ref C))(hb:Binds X.K fd ps ds)(hd:Vals dvs ds)(hx:Passes CX X E)
  (ha:PA X (e::es) t) (hdb:(x==("__debug__" : Str))=false:=by decide) (he:starEach (e::es) X.env=(false,eval e X.env)::starEach es X.env:=by rfl) (hpl:(backTo pos (starEach es X.env)).any (·.1)=false:=by rfl) :
  PE X (.Call (.Name x p) (e::es) [] pos) (Wb C sp dvs E t):=by
 intro pins s zzs H Q I h;refine Hq (uN I hg hm ?_ hdb);refine Xa (h₀:=X.base) I.ok.mod.kin M.kp (thn (ha pos pins s zzs H _ I h) fun us s1 ⟨vs,H1,I1,r,q⟩=>⟨I1.kIn,?_⟩) he hpl;exact Vy M F hr hb hd hx I1 r q
end
structure aU(N P:List Str)(sc:Scope):Prop where
 kind:sc.kind=.function
 co:sc.isCoroutine=false
 gen:sc.isGenerator=false
 nd:N.Nodup
 pre:N.take P.length=P
 par:∀ x∈P,sc.names.lookup x=some .local\/sc.names.lookup x=some .cell
 a0K:∀ y∈sc.names,y.2≠.free
theorem CZ{kindOf:Str->Option NameKind}{x:Str}:∀ {binds:List (Str×Value)} {m:Str->Option Value},(∀ v,(x,v)∉binds)->bindL kindOf binds m x=m x
 |[],_,_=>rfl
 |(n,v)::r,m,h=>by
  unfold bindL;rw[CZ fun w hw=>h w (dI _ hw)];split
  ·have:x≠n:=by rintro rfl;exact h v cU
   simp[this]
  ·rfl
theorem CV{kindOf:Str->Option NameKind}{x:Str}:∀ {binds:List (Str×Value)} {m:Str->Option Value},(∀ v,(x,v)∉binds)->bindC kindOf binds m x=m x
 |[],_,_=>rfl
 |(n,v)::r,m,h=>by
  unfold bindC;rw[CV fun w hw=>h w (dI _ hw)];split
  ·rfl
  ·have:x≠n:=by rintro rfl;exact h v cU
   simp[this]
theorem CW{kindOf:Str->Option NameKind}{x:Str}{v:Value}:∀ {P:List Str} {vs:List Value} {i:Nat} {m:Str->Option Value},P.Nodup->P[i]?=some x->vs[i]?=some v->kindOf x=some .local ->
  bindL kindOf (P.zip vs) m x=some v
 |[],_,_,_,_,h,_,_=>by simp at h
 |_::_,[],_,_,_,_,h,_=>by simp at h
 |p::P,w::vs,0,m,nd,h1,h2,hk=>by
  simp at h1 h2;subst h1;subst h2;show bindL kindOf ((p,w)::P.zip vs) m p=_;unfold bindL;rw[CZ fun v hv=>(Bv.mp nd).1 (NQ hv).1,aK hk];simp
 |p::P,w::vs,i+1,m,nd,h1,h2,hk=>by
  show bindL kindOf ((p,w)::P.zip vs) m x=_;unfold bindL;exact CW (i:=i) (Bv.mp nd).2 (by simpa using h1) (by simpa using h2) hk
theorem CT{kindOf:Str->Option NameKind}{x:Str}{v:Value}:∀ {P:List Str} {vs:List Value} {i:Nat} {m:Str->Option Value},P.Nodup->P[i]?=some x->vs[i]?=some v->kindOf x≠some .local ->
  bindC kindOf (P.zip vs) m x=some v
 |[],_,_,_,_,h,_,_=>by simp at h
 |_::_,[],_,_,_,_,h,_=>by simp at h
 |p::P,w::vs,0,m,nd,h1,h2,hk=>by
  simp at h1 h2;subst h1;subst h2;show bindC kindOf ((p,w)::P.zip vs) m p=_;unfold bindC;rw[CV fun v hv=>(Bv.mp nd).1 (NQ hv).1,aJ hk];simp
 |p::P,w::vs,i+1,m,nd,h1,h2,hk=>by
  show bindC kindOf ((p,w)::P.zip vs) m x=_;unfold bindC;exact CT (i:=i) (Bv.mp nd).2 (by simpa using h1) (by simpa using h2) hk
def start(N:List Str)(vs:List V):St:=vs.map some++List.replicate (N.length-vs.length) none
def pO(CX:CXT)(P:Program)(w:World)(K:ao)(mg:Str->Option Value)(base:Heap)(N:List Str)(qual:Str)(scope:Scope)(f:Addr)(cd:Value)(A:Around)(outer:List Env)(s:Shared)(H:Hp)(E:XK):Cx where
 prog:=P
 w:=w
 K:=K
 mg:=mg
 base:=base
 A:=A.deeper (envOfC qual scope s.heap.objs.size f cd)
 N:=N
 s₀:=s
 H₀:=H
 env:=envOfC qual scope s.heap.objs.size f cd
 outer:=outer
 stack:=envOfC qual scope s.heap.objs.size f cd::outer
 ex:=[]
 calm:=true
 fn:=fun _=>true
 pn:=[]
 xe:=fun e s'=>wpAny (model P w) (A.deeper (envOfC qual scope s.heap.objs.size f cd)) (leaving (envOfC qual scope s.heap.objs.size f cd) e) (fun _ s''=>CX outer H s E e s'') (fun e' s''=>CX outer H s E e' s'') s'
theorem Ij{sc:Scope}{n:Nat}{x:Str}(h:sc.names.lookup x=some .cell):∃ c,(cellsFrom n sc.names []).lookup x=some c:=by
 have q:=Wz sc.names n [] (.inl h);exact Wv.mp q
theorem R7{CX:CXT}{P:Program}{w:World}{K:ao}{mg:Str->Option Value}{base:Heap}{N ps:List Str}{qual:Str}{scope:Scope}{f:Addr}{cd:Value}{A:Around}{outer:List Env}{s s1:Shared}{H:Hp}{E:XK}{us:List Value}{vs:List V}
  (S:aU N ps scope) (hd:A.handled=none) (e0:K8 P w K mg base A outer s H) (hl:vs.length=ps.length) (r:Vals vs us)
  (x:InCallC s s.heap.objs.size (bindL (envOfC qual scope s.heap.objs.size f cd).kindOf (ps.zip us) fun _=>none) (cellsFrom (s.heap.objs.size+1) scope.names []) (bindC (envOfC qual scope s.heap.objs.size f cd).kindOf (ps.zip us) fun _=>none) s1) :
  Inv (pO CX P w K mg base N qual scope f cd A outer s H E) [] (start N vs) H s1:=by
 have hpl:ps.length<=N.length:=by have:=congrArg List.length S.pre;rw[jX] at this;lia
 obtain⟨h1,tk,rfl,hk⟩:=x.done;have noA:∀ b:Addr,b∉(pO CX P w K mg base N qual scope f cd A outer s H E).ex:=fun b z=>absurd (show b∈([]:List Addr) from z) (by simp)
 refine⟨⟨e0.mod,S.kind,rfl,rfl,bK _,fun y z c h1 h2=>?_,fun y hy=>?_,fun y c _ h=>?_,fun _=>hd,Around.frames_deeper e0.frames,.inr ⟨rfl,rfl⟩,fun b z=>absurd z (noA b),e0.bs,e0.bsz,fun b _ _=>noA b,fun b z=>absurd z (noA b),e0.uK,e0.frf⟩,
  rfl,e0.bare,Un.kept hk,⟨_,x.toInCall.ns,fun i y v h1 h2 h3=>?_⟩,fun y c h=>⟨_,x.cell y c h⟩,e0.hok.fresh (bK _),fun y c h=>?_,fun p hp=>absurd (show p∈([]:List (Addr×Obj)) from hp) (by simp),e0.hok.kept hk,?_⟩
 ·exact name_of_addr x.apart (Bp h1) (Bp h2)
 ·have hy:scope.names.lookup y=some .cell\/scope.names.lookup y=some .free:=hy;rcases hy with hy|hy
  ·exact Ij hy
  ·exact absurd rfl (S.a0K _ (Bp hy))
 ·exact HS (x.above y c (Bp h))
 ·have hi:i<vs.length:=by
   unfold start at h2;by_cases hi:i<vs.length
   ·exact hi
   ·rw[BZ (by simpa using hi)] at h2;rw[MJ] at h2;split at h2<;>cases h2
  have ha:vs[i]?=some v:=by
   unfold start at h2;rw[Ep (by simpa using hi),cM] at h2;cases e:vs[i]? with
   |none=>rw[e] at h2;cases h2
   |some a=>rw[e] at h2;cases h2;rfl
  obtain⟨u,hu,rv⟩:=r.get ha;have hp:ps[i]?=some y:=by
   rw[<- S.pre,Ww (by lia)];exact h1
  have ndP:ps.Nodup:=by rw[<- S.pre];exact S.nd.sublist (List.take_sublist _ _)
  refine⟨u,rv,?_⟩;rcases S.par y (eO hp) with k|k
  ·exact .inl ⟨k,CW ndP hp hu k⟩
  ·obtain⟨c,e⟩:=Ij (n:=s.heap.objs.size+1) k;refine .inr ⟨.inl k,c,e,?_⟩;have q:=x.cell y c e;rw[CT ndP hp hu (by show scope.names.lookup y≠_;rw[k];decide)] at q;exact q
 ·exact e0.hok.fresh (HS (x.above y c (Bp h)))
 ·unfold start;show _=N.length;rw[cL,aN,Bj];lia
theorem a2k{CX:CXT}{P:Program}{w:World}{K:ao}{mg:Str->Option Value}{base:Heap}{k:Nat}{f:Addr}{name qual:Str}{params:Arguments}{body:List Stmt}{scope:Scope}{dV kV doc pm cdv ct oc:Value}{an od:Option Addr}
  {osl:Array (Option Value)} {N ps:List Str} {sp:Sp} (lk:K.lookup f=some ⟨oc,od,.func (PySem.W.fnOf name qual params body scope dV kV doc pm an cdv ct),osl⟩) (hcd:PySem.W.codeIn K cdv qual=true) (S:aU N ps scope)
  (len:∀ vs H Q E,sp vs H Q E->vs.length=ps.length)
  (hbody:∀(A:Around)(outer:List Env)(s:Shared)(H:Hp)(vs:List V)(Q:VK)(E:XK),iG k (A.deeper (envOfC qual scope s.heap.objs.size f cdv))->sp vs H Q E ->
   ∃ t,PSs (pO CX P w K mg base N qual scope f cdv A outer s H E) body t/\t { nx:=fun _ H'=>Q .non H',rt:=Q } (start N vs) H) :
  cH P w K mg base CX (k+1) f (PySem.W.fnOf name qual params body scope dV kV doc pm an cdv ct) ps sp:=by
 refine⟨len,fun A outer s H args us vs Q E hr e0 hb r hsp=>?_⟩;have hl:=len _ _ _ _ hsp;have KX:K.In s.heap:=e0.mod.kin.keeps fun b o e=>(e0.bs b o e).1
 have lim:s.heap.NoLimit:=e0.mod.nolimit.keeps fun b o e=>(e0.bs b o e).1
 have hkind:∀ y∈ps.zip us,scope.names.lookup y.1=some .local\/(scope.names.lookup y.1=some .cell/\((cellsFrom (s.heap.objs.size+1) scope.names []).lookup y.1).isSome=true):=fun⟨n,v⟩ hy=>by
  rcases S.par n (NQ hy).1 with q|q
  ·exact .inl q
  ·exact .inr ⟨q,Wz _ _ _ (.inl q)⟩
 refine codeAny_call_function hr.depth (KX _ _ lk) rfl S.co S.gen rfl (PySem.W.codeRec_of KX hcd) (hb _ _ _ _ ?_);refine wpAny_newFunctionEnv_cells S.kind hkind fun env he s1 x=>?_
 subst he;refine⟨lim.keeps x.toInCall.keep,codeAny_func ?_⟩;obtain⟨t,ht,hq⟩:=hbody A outer s H vs Q E (hr.deeper _) hsp;have I:Inv (pO CX P w K mg base N qual scope f cdv A outer s H E) [] (start N vs) H s1:=R7 S hr.hd e0 hl r x;refine fX (ht [] s1 (start N vs) H _ I hq) (fun fl s' hs=>?_) fun e s' hs=>hs
 have fin:∀ {bJ:St} {H':Hp} {v:V} {u:Value},Inv (pO CX P w K mg base N qual scope f cdv A outer s H E) [] bJ H' s'->RelV v u->Q v H'->CE outer P w H s Q u s':=
  fun {bJ H' v u} J rv q=>⟨v,H',J.os,J.bare,J.base,J.hok,rv,q⟩
 cases fl with
 |ret u=>
  obtain⟨v,bJ,H',J,rv,q⟩:=hs;exact fin J rv q
 |next=>
  obtain⟨bJ,H',J,q⟩:=hs;exact fin (v:=V.non) (u:=Value.none) J rfl q
 |brk=>
  obtain⟨_,_,_,q⟩:=hs;exact False.elim q
 |cont=>
  obtain⟨_,_,_,q⟩:=hs;exact False.elim q
section
variable{X:Cx}{x:Str}{p pos:Pos}{e:Expr}{es:List Expr}{t:TA}{id T:String}{r:List V->Hp->VK->Prop}
def tCB(r:List V->Hp->VK->Prop)(t:TA):TE:=fun zzs H Q=>t zzs H fun vs H1=>r vs H1 Q
theorem V3(hc:fB X (.builtin id) r)(hg:Gl X x)(hm:X.mg x=none)(hv:bootBuiltins x=some (.builtin id))(ha:PA X (e::es) t) (hn:x ≠ "__name__":=by decide) (hdb:(x==("__debug__" : Str))=false:=by decide)
  (he:starEach (e::es) X.env=(false,eval e X.env)::starEach es X.env:=by rfl) (hpl:(backTo pos (starEach es X.env)).any (·.1)=false:=by rfl):PE X (.Call (.Name x p) (e::es) [] pos) (tCB r t):=by
 intro pins s zzs H Q I h;refine Hq (FN I hg hm hv ?_ hn hdb);exact PyProof.Rows.callWith_builtin1 (thn (ha pos pins s zzs H _ I h) fun us s1 ⟨vs,H1,I1,r1,q1⟩=>hc pins s1 zzs H1 vs us Q I1 r1 q1) he hpl
theorem Ry(hc:fB X (.type T) r)(hg:Gl X x)(hm:X.mg x=none)(hv:bootBuiltins x=some (.type T))(ha:PA X (e::es) t) (hn:x ≠ "__name__":=by decide) (hdb:(x==("__debug__" : Str))=false:=by decide)
  (he:starEach (e::es) X.env=(false,eval e X.env)::starEach es X.env:=by rfl) (hpl:(backTo pos (starEach es X.env)).any (·.1)=false:=by rfl):PE X (.Call (.Name x p) (e::es) [] pos) (tCB r t):=by
 intro pins s zzs H Q I h;refine Hq (FN I hg hm hv ?_ hn hdb);exact Mw (thn (ha pos pins s zzs H _ I h) fun us s1 ⟨vs,H1,I1,r1,q1⟩=>hc pins s1 zzs H1 vs us Q I1 r1 q1) he hpl
end
end L2
namespace HT
open PySem PyProof.Rows
section
open PySem.SeqAt
open PySem.AutoSeq1 (wpAny_loadPart')
open PySem.MeetsSeq PySem.MeetsSeq2 PySem.MeetsSeq3
end
section
variable{prog:Program}{w:World}{A:Around}{E:Value->Shared->Prop}{s:Shared}
def sIx(n d:Nat):Option Int->Nat
 |none=>d
 |some v=>if v<0 then(v+(n:Int)).toNat else min v.toNat n
theorem uX(n d:Nat):sIx n d none=d:=rfl
theorem z9(n d k:Nat):sIx n d (some (k:Int))=min k n:=by
 show(if(k:Int)<0 then((k:Int)+(n:Int)).toNat else min (k:Int).toNat n)=min k n;rw[aJ (by lia),jm]
theorem Vz(n d:Nat)(hd:d<=n)(o:Option Int):sIx n d o<=n:=by
 cases o with
 |none=>exact hd
 |some v=>
  show(if v<0 then(v+(n:Int)).toNat else min v.toNat n)<=n;by_cases hv:v<0
  ·rw[aK hv];lia
  ·rw[aJ hv];exact Nat.min_le_right _ _
end
end HT
namespace L2
open PySem PySem.Spec PyProof.Rows
abbrev TO:=St->Hp->(Option Int->Hp->Prop)->Prop
def PO(X:Cx)(e:Option Expr)(t:TO):Prop:=
 ∀(pins:List (Addr×Obj))(s:Shared)(zzs:St)(H:Hp)(Q:Option Int->Hp->Prop),Inv X pins zzs H s->t zzs H Q ->
  wpAny (model X.prog X.w) X.A (evalPart e X.env) (fun u s'=>∃ o H',Inv X pins zzs H' s'/\IsPart u o/\Q o H') X.xe s
def Qk:TO:=fun _ H Q=>Q none H
def a02(t:TE):TO:=fun zzs H Q=>t zzs H fun x H1=>∃ i,x=.int i/\Q (some i) H1
section
variable{X:Cx}{e:Expr}{te:TE}{lo hi:Option Expr}{tl th:TO}{pos p2:Pos}
theorem YH:PO X none Qk:=by
 intro pins s zzs H Q I h;rw[evalPart_none];exact cF ⟨none,H,I,.none,h⟩
theorem YJ(h:PE X e te):PO X (some e) (a02 te):=by
 intro pins s zzs H Q I hw;rw[evalPart_some];refine thn (h pins s zzs H _ I hw) fun u s1 zzy=>?_
 obtain⟨x,H1,I1,r1,q1⟩:=zzy;obtain⟨i,rfl,q⟩:=q1;obtain⟨t,rfl⟩:=r1;exact⟨some i,H1,I1,.int i t,q⟩
def SlR(X:Cx)(r:V->Option Int->Option Int->Hp->VK->Prop):Prop:=
 ∀(pins:List (Addr×Obj))(s:Shared)(zzs:St)(H:Hp)(x:V)(v vl vu:Value)(lo hi:Option Int)(sl:Addr)(Q:VK),Inv X pins zzs H s->RelV x v->s.heap.IsSliceOf sl vl vu .none->IsPart vl lo->IsPart vu hi->r x lo hi H Q ->
  ∃ T id,typeLookup (.type T) "__getitem__" = pure (some (.builtin id))/\s.TypeIs v T/\wpAny (model X.prog X.w) X.A (getItem v (.ref sl)) (EP X pins zzs Q) X.xe s
theorem SlR.or{r r':V->Option Int->Option Int->Hp->VK->Prop}(h:SlR X r)(h':SlR X r'):SlR X (fun x lo hi H Q=>r x lo hi H Q\/r' x lo hi H Q):=by
 intro pins s zzs H x v vl vu lo hi sl Q I rx hs pl pu q;rcases q with q|q
 ·exact h pins s zzs H x v vl vu lo hi sl Q I rx hs pl pu q
 ·exact h' pins s zzs H x v vl vu lo hi sl Q I rx hs pl pu q
def tSl(r:V->Option Int->Option Int->Hp->VK->Prop)(te:TE)(tl th:TO):TE:=fun zzs H Q=>te zzs H fun x H1=>tl zzs H1 fun l H2=>th zzs H2 fun u H3=>r x l u H3 Q
theorem V8{r:V->Option Int->Option Int->Hp->VK->Prop}(hr:SlR X r)(he:PE X e te)(hl:PO X lo tl)(hu:PO X hi th):PE X (.Subscript e (.Slice lo hi none p2) pos) (tSl r te tl th):=by
 intro pins s zzs H Q I h;refine Subscript_ (thn (he pins s zzs H _ I h) fun v s1 zzy=>?_);obtain⟨x,H1,I1,r1,q1⟩:=zzy;refine wpAny_Slice (thn (hl pins s1 zzs H1 _ I1 q1) fun vl s2 ⟨l,H2,I2,pl,q2⟩=>thn (hu pins s2 zzs H2 _ I2 q2) fun vu s3 zzy=>?_);obtain⟨u,H3,I3,pu,q3⟩:=zzy;rw[evalPart_none];refine cF ?_;have I4:Inv X pins zzs H3 { s3 with heap:=s3.heap.push { cls:=.type "slice",data:=.fields #[vl,vu,.none] } }:=I3.kept (t':=s3.toks) fun b ob q=>fu _ q
 obtain⟨T,id,hT,ht,hg⟩:=hr pins { s3 with heap:=s3.heap.push { cls:=.type "slice",data:=.fields #[vl,vu,.none] } } zzs H3 x v vl vu l u s3.heap.objs.size Q I4 r1 (Heap.IsSliceOf.new ..) pl pu q3;show wpAny (model X.prog X.w) X.A (subscriptTail e (.Slice lo hi none p2) v (.ref s3.heap.objs.size)) (EP X pins zzs Q) X.xe { s3 with heap:=s3.heap.push { cls:=.type "slice",data:=.fields #[vl,vu,.none] } };exact tail_any (ops:=[.ref s3.heap.objs.size,v]) ht hT hg (by with_unfolding_all rfl)
def Fg(xs:List V)(lo hi:Option Int):List V:=(xs.drop (HT.sIx xs.length 0 lo)).take (HT.sIx xs.length xs.length hi-HT.sIx xs.length 0 lo)
theorem Ip(xs:List V)(lo hi:Option Int):(Fg xs lo hi).length<=xs.length:=by
 unfold Fg;rw[jX,uh];lia
end
def ixN(n:Nat)(i:Int):Option Nat:=if 0<=i then(if i<n then some i.toNat else none) else if -(n:Int)<=i then some (i+n).toNat else none
def atI{α:Type}(xs:List α)(i:Int):Option α:=(ixN xs.length i).bind fun j=>xs[j]?
theorem Pg{n:Nat}{i:Int}{j:Nat}(h:ixN n i=some j):seqIndex? i n=some j/\j<n /\ -(n:Int)<=i/\i<n:=by
 unfold ixN at h;by_cases h0:0<=i
 ·rw[aK h0] at h;by_cases h1:i<n
  ·rw[aK h1] at h;have e:i.toNat=j:=iy h;exact⟨by rw[seqIndex_of h0 h1,e],by lia,by lia,h1⟩
  ·rw[aJ h1] at h;cases h
 ·rw[aJ h0] at h;by_cases h1 : -(n:Int)<=i
  ·rw[aK h1] at h;have e:(i+n).toNat=j:=iy h;exact⟨by rw[seqIndex_neg (by lia) h1,e],by lia,h1,by lia⟩
  ·rw[aJ h1] at h;cases h
theorem Ew{α:Type}{xs:List α}{i:Int}{v:α}(h:atI xs i=some v):∃ j,seqIndex? i xs.length=some j/\xs[j]?=some v/\j<xs.length /\ -(xs.length:Int)<=i/\i<xs.length:=by
 unfold atI at h;cases e:ixN xs.length i with
 |none=>rw[e] at h;cases h
 |some j=>
  rw[e] at h;obtain⟨h1,h2,h3,h4⟩:=Pg e;exact⟨j,h1,h,h2,h3,h4⟩
theorem dB{α:Type}{xs:List α}{j:Nat}{v:α}(h:xs[j]?=some v):atI xs (j:Int)=some v:=by
 have hj:j<xs.length:=(iI.mp h).1;have e:ixN xs.length (j:Int)=some j:=by
  unfold ixN;rw[aK (by lia),aK (by lia)];simp
 unfold atI;rw[e];exact h
def Oa(b:Expr):Prop:=∀ o i,subscripted b false o i=operate [o,i] (getItem o i)
def IxR(X:Cx)(r:R2):Prop:=
 ∀(value slice:Expr)(pins:List (Addr×Obj))(s:Shared)(zzs:St)(H:Hp)(x y:V)(v u:Value)(Q:VK),Inv X pins zzs H s->RelV x v->RelV y u->r x y H Q ->
  subscripted slice false v u=operate [v,u] (getItem v u)->wpAny (model X.prog X.w) X.A (subscriptTail value slice v u) (EP X pins zzs Q) X.xe s
def MtR(X:Cx)(id:String)(r:V->List V->Hp->VK->Prop):Prop:=
 ∀(pins:List (Addr×Obj))(s:Shared)(zzs:St)(H:Hp)(x:V)(xs:List V)(v:Value)(us:List Value)(Q:VK),Inv X pins zzs H s->RelV x v->Vals xs us->r x xs H Q ->
  wpAny (model X.prog X.w) X.A (call (.builtin id) (v::us)) (EP X pins zzs Q) X.xe s
section
variable{X:Cx}{a b:Expr}{ta tb:TE}{pos:Pos}
theorem IxR.or{r r':R2}(h:IxR X r)(h':IxR X r'):IxR X (fun x y H Q=>r x y H Q\/r' x y H Q):=by
 intro value slice pins s zzs H x y v u Q I rx ry q hs;rcases q with q|q
 ·exact h value slice pins s zzs H x y v u Q I rx ry q hs
 ·exact h' value slice pins s zzs H x y v u Q I rx ry q hs
theorem a2D{r:R2}(hr:IxR X r)(ha:PE X a ta)(hb:PE X b tb)(hs:Oa b):PE X (.Subscript a b pos) (tOp r ta tb):=by
 intro pins s zzs H Q I h;exact Subscript_ (a06 ha hb I h fun v u s2 x y H2 I2 rx ry q=>hr a b pins s2 zzs H2 x y v u Q I2 rx ry q (hs _ _))
def a2O(K:ao):R2:=fun x y H Q=>∃ p xs i v,x=.ref p/\y=.int i/\SqL K H p xs/\atI xs i=some v/\Q v H
def a2Q(K:ao):R2:=fun x y H Q=>∃ p xs i v,x=.ref p/\y=.int i/\SqT K H p xs/\atI xs i=some v/\Q v H
def a2P:R2:=fun x y H Q=>∃ z i c,x=.str z/\y=.int i/\z.length<=sizeLine/\atI z.cps.toList i=some c/\Q (.str ⟨#[c]⟩) H
theorem XR:IxR X (a2O X.K):=by
 intro value slice pins s zzs H x y v u Q I rx ry h hs;obtain⟨p,xs,i,z,rfl,rfl,hq,he,q⟩:=h;cases rx;obtain⟨t,rfl⟩:=ry;obtain⟨its,r,pl,hz⟩:=I.list hq;obtain⟨j,h1,h2,h3,h4,h5⟩:=Ew he;obtain⟨w,ew,rw'⟩:=r.get h2;have hl:=r.length;have hn:=tW;have fin:EP X pins zzs Q w s:=⟨z,H,I,rw',q⟩
 by_cases h0:0<=i
 ·have hj:i.toNat=j:=by
   rw[seqIndex_of h0 h5] at h1;exact iy h1
  exact item_listR pl.isList h0 (by lia) (by rw[hj];simpa using ew) fin hs
 ·have hj:(i+(its.toArray.size:Int)).toNat=j:=by
   rw[seqIndex_neg (by lia) h4] at h1;rw[cN,<- hl];exact iy h1
  exact subscriptTail_builtinR (x:=w) pl.isList.typeIs slot_list_getitem.lookup
   (wpAny_getItem_list_neg (Q:=fun r s'=>r=w/\EP X pins zzs Q r s') pl.isList (by lia) (by rw[cN]<;>lia) (by lia) (by rw[hj];simpa using ew) ⟨rfl,fin⟩) hs
theorem a0t:IxR X (a2Q X.K):=by
 intro value slice pins s zzs H x y v u Q I rx ry h hs;obtain⟨p,xs,i,z,rfl,rfl,hq,he,q⟩:=h;cases rx;obtain⟨t,rfl⟩:=ry;obtain⟨its,r,pl,hz⟩:=I.tuple hq;obtain⟨j,h1,h2,h3,h4,h5⟩:=Ew he;obtain⟨w,ew,rw'⟩:=r.get h2;have hl:=r.length;have hn:=tW;have fin:EP X pins zzs Q w s:=⟨z,H,I,rw',q⟩
 exact subscriptTail_builtinR (x:=w) pl.typeIs slot_tuple_getitem.lookup
  (getItem_tuple (j:=j) (Q:=fun r s'=>r=w/\EP X pins zzs Q r s') pl (by lia) (by lia) (by rw[cN,<- hl];exact h1) (by simpa using ew) ⟨rfl,fin⟩) hs
theorem a0s:IxR X a2P:=by
 intro value slice pins s zzs H x y v u Q I rx ry h hs;obtain⟨z,i,c,rfl,rfl,hz,he,q⟩:=h;obtain⟨t,rfl⟩:=rx;obtain⟨t',rfl⟩:=ry;obtain⟨j,h1,h2,h3,h4,h5⟩:=Ew he;have hl:z.cps.toList.length=z.length:=by simp[Str.length]
 rw[hl] at h1 h4 h5;have hn:=tW;exact tail_any (typeIs_str s z t) slot_str_getitem.lookup (getItem_str (c:=c) (by
  have e1:decide (i < -(2^63:Int))=false:=bV (by lia);have e2:decide (i>=2^63)=false:=bV (by lia);rw[e1,e2,Bool.or_false]) (by rw[h1];simpa using h2) ⟨.str ⟨#[c]⟩,H,I.tok _,⟨_,rfl⟩,q⟩) hs
def rIx(K:ao):R2:=fun x y H Q=>a2O K x y H Q\/a2Q K x y H Q\/a2P x y H Q
theorem a0r:IxR X (rIx X.K):=XR.or (a0t.or a0s)
theorem Li(its:List Value)(n j:Nat)(u:Value):Obj.mapSeq (·.setIfInBounds j u) { cls:=.type "list",data:=.seq its.toArray n }={ cls:=.type "list",data:=.seq (its.set j u).toArray n }:=by
 simp[Obj.mapSeq]
theorem Inv.lst{pins:List (Addr×Obj)}{zzs:St}{H:Hp}{s:Shared}{p:Addr}{xs:List V}(I:Inv X pins zzs H s)(h:H p=some (.lst xs)) :
  ∃(its:List Value)(n:Nat),Vals xs its/\s.heap.get? p=some { cls:=.type "list",data:=.seq its.toArray n }/\xs.length<=sizeLine:=by
 obtain⟨z,its,n,r,e⟩:=I.hok p _ h;exact⟨its,n,r,e,z⟩
theorem Inv.a0C{pins:List (Addr×Obj)}{zzs:St}{H:Hp}{s:Shared}{p:Addr}{xs ys:List V}{its its':List Value}{n n':Nat}{f:Obj->Obj}(I:Inv X pins zzs H s)(h:H p=some (.lst xs))
  (ho:s.heap.get? p=some { cls:=.type "list",data:=.seq its.toArray n }) (hf:f { cls:=.type "list",data:=.seq its.toArray n }={ cls:=.type "list",data:=.seq its'.toArray n' }) (r:Vals ys its') (hz:ys.length<=sizeLine) (t:Nat) :
  Inv X pins zzs (upd H p (.lst ys)) { s with heap:=s.heap.update p f,toks:=t }:=by
 have e:(s.heap.update p f).get? p=some { cls:=.type "list",data:=.seq its'.toArray n' }:=by
  rw[N8 f ho (by rw[hf]<;>rfl),hf]
 refine I.write (x:=p) (e:=p) (by rw[h];trivial) (.inl rfl) (fun b u hb q=>(GD _ _ (ig hb)).trans q) ⟨_,e⟩ ?_;exact⟨hz,its',n',r,e⟩
def ZG:V->V->V->Hp->(Hp->Prop)->Prop:=fun o i v H Q=>∃ p xs k j,o=.ref p/\i=.int k/\H p=some (.lst xs)/\ixN xs.length k=some j/\Q (upd H p (.lst (xs.set j v)))
theorem set_list:Sq X ZG:=by
 intro pins s zzs H o i v ov iv u Q I ro ri rv h;obtain⟨p,xs,k,j,rfl,rfl,hp,hj,q⟩:=h;cases ro;obtain⟨t,rfl⟩:=ri;obtain⟨its,n,r,ho,hz⟩:=I.lst hp;obtain⟨h1,h2,h3,h4⟩:=Pg hj;have hl:=r.length;have hn:=tW;have I':Inv X pins zzs (upd H p (.lst (xs.set j v))) { s with heap:=s.heap.update p (Obj.mapSeq (·.setIfInBounds j u)) }:=
  I.a0C hp ho (Li its n j u) (r.set rv j) (by rw[Hz];exact hz) s.toks
 by_cases h0:0<=k
 ·have hk:k.toNat=j:=by
   rw[seqIndex_of h0 h4] at h1;exact iy h1
  exact PySem.W.ki_setAt ho h0 (by lia) (by rw[cN,<- hl];exact h4) (by rw[hk];exact⟨_,I',q⟩)
 ·have hk:(k+(its.toArray.size:Int)).toNat=j:=by
   rw[seqIndex_neg (by lia) h3] at h1;rw[cN,<- hl];exact iy h1
  exact PySem.W.ki_setBack ho (by lia) (by rw[cN,<- hl];exact h3) (by lia) (by rw[hk];exact⟨_,I',q⟩)
theorem vf(lo hi:Option Int)(n:Nat):(sliceBounds lo hi none n).1=((HT.sIx n 0 lo:Nat):Int)/\(sliceBounds lo hi none n).2.1=((HT.sIx n n hi:Nat):Int)/\(sliceBounds lo hi none n).2.2=1:=by
 refine⟨?_,?_,rfl⟩
 ·cases lo with
  |none=>simp[sliceBounds,HT.sIx]
  |some i=>
   simp only[sliceBounds,HT.sIx,Option.getD_none,show(1:Int)>0 by decide,jT];by_cases h:i<0
   ·simp only[h,jT]<;>lia
   ·simp only[h,jD]<;>lia
 ·cases hi with
  |none=>simp[sliceBounds,HT.sIx]
  |some i=>
   simp only[sliceBounds,HT.sIx,Option.getD_none,show(1:Int)>0 by decide,jT];by_cases h:i<0
   ·simp only[h,jT]<;>lia
   ·simp only[h,jD]<;>lia
theorem CN(its:List Value)(lo hi:Option Int):slicePick its.toArray lo hi none=((its.drop (HT.sIx its.length 0 lo)).take (HT.sIx its.length its.length hi-HT.sIx its.length 0 lo)).toArray:=by
 obtain⟨h1,h2,h3⟩:=vf lo hi its.toArray.size;unfold slicePick;rw[h1,h2,h3];simp only[sliceRange_one,pick_run,cN]<;>rfl
def a2S(K:ao):V->Option Int->Option Int->Hp->VK->Prop:=fun x lo hi H Q=>∃ a xs,x=.ref a/\SqL K H a xs/\∀ p,H p=none->Q (.ref p) (upd H p (.lst (Fg xs lo hi)))
theorem Zf:SlR X (a2S X.K):=by
 intro pins s zzs H x v vl vu lo hi sl Q I rx hs pl pu h;obtain⟨a,xs,rfl,hx,q⟩:=h;cases rx;obtain⟨its,r,ht,hz⟩:=I.list hx;have hlen:=r.length;refine⟨"list",_,slot_list_getitem.lookup,ht.isList.typeIs,?_⟩;refine wpAny_getItem_list_slice ht.isList hs pl pu .none (by simp) ?_ (by rw[cN]<;>lia);rw[CN,<- hlen];refine⟨.ref s.heap.objs.size,_,I.laid (t':=s.toks) (o:=.lst (Fg xs lo hi)) (fun b ob q=>fu _ q) (bK _) ?_,rfl,q _ (I.hok.fresh (bK _))⟩;exact⟨cO (Ip xs lo hi) hz,_,0,(r.drop (HT.sIx xs.length 0 lo)).take (HT.sIx xs.length xs.length hi-HT.sIx xs.length 0 lo),iu _ rfl⟩
def OD:V->Bool
 |.non=>true
 |.bl _=>true
 |.int _=>true
 |.str _=>true
 |_=>false
def eqV:V->V->Bool
 |.non,.non=>true
 |.bl a,.bl b=>a==b
 |.bl a,.int b=>(if a then 1 else 0)==b
 |.int a,.bl b=>a==(if b then 1 else 0)
 |.int a,.int b=>a==b
 |.str a,.str b=>a==b
 |_,_=>false
theorem Tp{A:Around}{s:Shared}{y x:V}{u v:Value}(ry:RelV y u)(rx:RelV x v)(fy:OD y=true)(fx:OD x=true):SeqAt.EqAt A s u v (eqV y x):=by
 cases y with
 |non=>
  cases ry;cases x with
  |non=>cases rx;exact SeqAt.EqAt.same _
  |bl b=>cases rx;exact SeqAt.EqAt.none_bool b
  |int b=>obtain⟨t,rfl⟩:=rx;exact SeqAt.EqAt.none_int b t
  |str b=>obtain⟨t,rfl⟩:=rx;exact SeqAt.EqAt.none_str b t
  |_=>exact absurd (show false=true from fx) fW
 |bl a=>
  cases ry;cases x with
  |non=>cases rx;exact SeqAt.EqAt.bool_none a
  |bl b=>cases rx;exact SeqAt.EqAt.bool_bool a b
  |int b=>obtain⟨t,rfl⟩:=rx;exact SeqAt.EqAt.bool_int a b t
  |str b=>obtain⟨t,rfl⟩:=rx;exact SeqAt.EqAt.bool_str a b t
  |_=>exact absurd (show false=true from fx) fW
 |int a=>
  obtain⟨t',rfl⟩:=ry;cases x with
  |non=>cases rx;exact SeqAt.EqAt.int_none a t'
  |bl b=>cases rx;exact SeqAt.EqAt.int_bool a t' b
  |int b=>obtain⟨t,rfl⟩:=rx;exact SeqAt.EqAt.int_int a t' b t
  |str b=>obtain⟨t,rfl⟩:=rx;exact SeqAt.EqAt.int_str a t' b t
  |_=>exact absurd (show false=true from fx) fW
 |str a=>
  obtain⟨t',rfl⟩:=ry;cases x with
  |non=>cases rx;exact SeqAt.EqAt.str_none a t'
  |bl b=>cases rx;exact SeqAt.EqAt.str_bool a t' b
  |int b=>obtain⟨t,rfl⟩:=rx;exact SeqAt.EqAt.str_int a t' b t
  |str b=>obtain⟨t,rfl⟩:=rx;exact SeqAt.EqAt.str_str a t' b t
  |_=>exact absurd (show false=true from fx) fW
 |_=>exact absurd (show false=true from fy) fW
theorem Ez:fB X (.builtin "len") (fun xs H Q=>∃ p ys,xs=[.ref p]/\(SqL X.K H p ys\/SqT X.K H p ys)/\Q (.int ys.length) H):=by
 intro pins s zzs H xs us Q I r h;obtain⟨p,ys,rfl,hq,q⟩:=h;obtain⟨u,rfl,rx⟩:=vals1 r;cases rx;have hn:=tW;rcases hq with hq|hq
 ·obtain⟨its,r',pl,hz⟩:=I.list hq;have hlen:=r'.length;exact Calls.call_len_list pl.isList (by simp only[cN]<;>lia) ⟨.int ys.length,H,I.tok _,⟨s.toks+1,by rw[cN,hlen]⟩,q⟩
 ·obtain⟨its,r',pl,hz⟩:=I.tuple hq;have hlen:=r'.length;exact len_tuple pl (by simp only[cN]<;>lia) ⟨.int ys.length,H,I.tok _,⟨s.toks+1,by rw[cN,hlen]⟩,q⟩
theorem EY:fB X (.builtin "len") (fun xs H Q=>∃ z,xs=[.str z]/\z.length<=sizeLine/\Q (.int z.length) H):=by
 intro pins s zzs H xs us Q I r h;obtain⟨z,rfl,hz,q⟩:=h;obtain⟨u,rfl,t,rfl⟩:=vals1 r;have hn:=tW;exact len_str (by lia) ⟨.int z.length,H,I.tok _,⟨_,rfl⟩,q⟩
theorem fB.or{f:Value}{r r':List V->Hp->VK->Prop}(h:fB X f r)(h':fB X f r'):fB X f (fun xs H Q=>r xs H Q\/r' xs H Q):=by
 intro pins s zzs H xs us Q I rs q;rcases q with q|q
 ·exact h pins s zzs H xs us Q I rs q
 ·exact h' pins s zzs H xs us Q I rs q
theorem Fb:fB X (.type "list") (fun xs H Q=>∃ p ys,xs=[.ref p]/\(SqL X.K H p ys\/SqT X.K H p ys)/\∀ l,H l=none->Q (.ref l) (upd H l (.lst ys))):=by
 intro pins s zzs H xs us Q I r h;obtain⟨p,ys,rfl,hq,q⟩:=h;obtain⟨u,rfl,rx⟩:=vals1 r;cases rx;have fin:∀(its:List Value),Vals ys its->ys.length<=sizeLine->∀(h':Heap)(c':Nat),(∀ b o',s.heap.get? b=some o'->h'.get? b=some o') ->
   h'.get? s.heap.objs.size=some { cls:=.type "list",dict:=none,data:=.seq its.toArray c',slots:=#[] }->EP X pins zzs Q (.ref s.heap.objs.size) { s with heap:=h' }:=fun its r' hz h' c' kp e=>
  ⟨.ref s.heap.objs.size,_,I.laid (t':=s.toks) kp (bK _) (show gG X.prog X.w _ h' _ (.lst ys) from⟨hz,its,c',r',e⟩),rfl,q _ (I.hok.fresh (bK _))⟩
 rcases hq with hq|hq
 ·obtain⟨its,r',pl,hz⟩:=I.list hq;have hlen:=r'.length;obtain⟨o,ho,hc,n,hd⟩:=pl.isList;exact call_list_seq p (.inl rfl) ho hc hd (fun h' c' kp e=>fin its r' hz h' c' kp e) (by simp only[cN]<;>lia)
 ·obtain⟨its,r',pl,hz⟩:=I.tuple hq;have hlen:=r'.length;obtain⟨o,ho,hc,n,hd⟩:=pl;exact call_list_seq p (.inr rfl) ho hc hd (fun h' c' kp e=>fin its r' hz h' c' kp e) (by simp only[cN]<;>lia)
def tyV(K:ao)(T:String)(x:V)(H:Hp):Prop:=match x with
 |.str _=>T = "str"
 |.int _=>T = "int"
 |.ref p=>(T = "list" /\ ∃ xs,SqL K H p xs)\/(T = "tuple" /\ ∃ o,K.lookup p=some o/\o.cls=.type "tuple" /\ o.dict=none) \/
   (T = "dict" /\ ((∃ kvs,H p=some (.dK kvs))\/∃ kvs,H p=some (.dT kvs)))\/(T = "set" /\ ∃ S n,H p=some (.set S n))
 |_=>False
theorem Wi{pins:List (Addr×Obj)}{zzs:St}{H:Hp}{s:Shared}{T:String}{x:V}{v:Value}(I:Inv X pins zzs H s)(r:RelV x v)(ty:tyV X.K T x H) :
  s.TypeIs v T/\∀ a,v=.ref a->∃ ob,s.heap.get? a=some ob/\ob.dict=none:=by
 cases x with
 |str z=>
  obtain⟨t,rfl⟩:=r;cases (show T = "str" from ty);exact⟨typeIs_str s z t,fun _ e=>nomatch e⟩
 |int i=>
  obtain⟨t,rfl⟩:=r;cases (show T = "int" from ty);exact⟨typeIs_int s i t,fun _ e=>nomatch e⟩
 |ref p=>
  cases r;rcases ty with⟨rfl,xs,hq⟩|⟨rfl,o,hk,hc,hd⟩|⟨rfl,hk⟩|⟨rfl,S,n,hk⟩
  ·obtain⟨its,_,pl,_⟩:=I.list hq;refine⟨pl.isList.typeIs,fun a e=>?_⟩;cases e;obtain⟨o,n,e,c,hd,_⟩:=pl;exact⟨o,e,hd⟩
  ·refine⟨⟨o,I.kIn p o hk,hc⟩,fun a e=>?_⟩;cases e;exact⟨o,I.kIn _ o hk,hd⟩
  ·have z:∃ o,s.heap.get? p=some o/\o.ExactDict:=by
    rcases hk with⟨kvs,hk⟩|⟨kvs,hk⟩
    ·obtain⟨_,_,_,_,o,_,_,e,ex,_⟩:=I.hok p _ hk;exact⟨o,e,ex⟩
    ·obtain⟨_,_,_,_,o,_,_,e,ex,_⟩:=I.hok p _ hk;exact⟨o,e,ex⟩
   obtain⟨o,e,ex⟩:=z;refine⟨⟨o,e,ex.1⟩,fun a e2=>?_⟩;cases e2;exact⟨o,e,ex.2.1⟩
  ·obtain⟨o,_,_,_,e,ex,_⟩:=I.hok p _ hk;refine⟨⟨o,e,ex.1⟩,fun a e2=>?_⟩;cases e2;exact⟨o,e,ex.2.1⟩
 |_=>exact False.elim ty
def a1I(K:ao)(T:String)(r:V->List V->Hp->VK->Prop)(to:TE):TE:=fun zzs H Q=>to zzs H fun x H1=>tyV K T x H1/\r x [] H1 Q
def tBM(K:ao)(T:String)(r:V->List V->Hp->VK->Prop)(to:TE)(t:TA):TE:=fun zzs H Q=>to zzs H fun x H1=>tyV K T x H1/\t zzs H1 fun xs H2=>r x xs H2 Q
variable{o e:Expr}{es:List Expr}{to:TE}{t:TA}{name:Str}{apos cpos:Pos}{T id:String}{r:V->List V->Hp->VK->Prop}
theorem a1e(pa:PlainAttrs T)(slot:Slot T name id) (hty:typeOf (.builtin id)=pure (.type "method_descriptor")) (hm:MtR X id r) (ho:PE X o to)
  (hbase:attributeBase o name X.env (eval o X.env)=eval o X.env:=by rfl) (hline:(apos.endLine==cpos.line)=true:=by rfl):PE X (.Call (.Attribute o name apos) [] [] cpos) (a1I X.K T r to):=by
 intro pins s zzs H Q I h;refine wpAny_Call_method0_late hbase hline (thn (ho pins s zzs H _ I h) fun v s1 zzy=>?_);obtain⟨x,H1,I1,r1,ty,q1⟩:=zzy;obtain⟨h1,h2⟩:=Wi I1 r1 ty;exact⟨T,id,pa,slot,hty,h1,h2,Calls.callWith_builtin rfl (PySem.evalArgs_none (hm pins s1 zzs H1 x [] v [] Q I1 r1 .nil q1))⟩
theorem a2C(pa:PlainAttrs T)(slot:Slot T name id) (hty:typeOf (.builtin id)=pure (.type "method_descriptor")) (hm:MtR X id r) (ho:PE X o to) (ha:PA X (e::es) t)
  (hbase:attributeBase o name X.env (eval o X.env)=eval o X.env:=by rfl)
  (hfew:((backTo cpos (starEach (e::es) X.env)).all (fun x=>!x.1)&&(backToKw cpos (keywordEach [] X.env)).all (fun x=>x.1.isSome)
   && decide ((e::es).length+([]:List Keyword).length+(if([]:List Keyword).isEmpty then 0 else 1)<30))=true:=by rfl)
  (hline:(apos.endLine==cpos.line)=true:=by rfl) (hs:starEach (e::es) X.env=(false,eval e X.env)::starEach es X.env:=by rfl) (hplain:(backTo cpos (starEach es X.env)).any (·.1)=false:=by rfl) :
  PE X (.Call (.Attribute o name apos) (e::es) [] cpos) (tBM X.K T r to t):=by
 intro pins s zzs H Q I h;refine wpAny_Call_method_late hbase hfew hline rfl (thn (ho pins s zzs H _ I h) fun v s1 zzy=>?_);obtain⟨x,H1,I1,r1,ty,q1⟩:=zzy;obtain⟨h1,h2⟩:=Wi I1 r1 ty;refine⟨T,id,pa,slot,hty,h1,h2,?_⟩;have hA:=ha cpos pins s1 zzs H1 _ I1 q1;rw[hs] at hA ⊢;refine Calls.callWith_builtin (by show(false||(backTo cpos (starEach es X.env)).any (·.1))=false;rw[hplain]<;>rfl) (Calls.evalArgs_plain ?_);exact thn hA fun us s2 ⟨vs,H2,I2,r2,q2⟩=>hm pins s2 zzs H2 x vs v us Q I2 r1 r2 q2
end
def MtM(X:Cx)(id:String)(r:V->List V->Hp->VK->Prop):Prop:=
 ∀(pins:List (Addr×Obj))(s:Shared)(zzs:St)(H:Hp)(x:V)(xs:List V)(v:Value)(us:List Value)(Q:VK),Inv X pins zzs H s->RelV x v->Vals xs us->r x xs H Q ->
  wpAny (model X.prog X.w) X.A (call (.builtin id) (v::us)) (EP X pins zzs Q) X.xe s
theorem Vals.one{x:V}{us:List Value}(h:Vals [x] us):∃ u,us=[u]/\RelV x u:=by
 cases h with
 |cons r t=>cases t;exact⟨_,rfl,r⟩
theorem Vals.zero:∀ {us:List Value},Vals [] us->us=[]
 |_,.nil=>rfl
theorem Vals.dropLast{xs:List V}{us:List Value}(h:Vals xs us):Vals xs.dropLast us.dropLast:=by
 induction h with
 |nil=>exact .nil
 |cons r t ih=>
  cases t with
  |nil=>exact .nil
  |cons q t'=>exact .cons r ih
theorem Vals.rep{xs:List V}{us:List Value}(h:Vals xs us):∀ k:Nat,Vals (List.replicate k xs).flatten (List.replicate k us).flatten
 |0=>.nil
 |k+1=>by
  rw[yC,yC,ug,ug];exact Vals.append h (Vals.rep h k)
theorem KY{α:Type}(l:List α):l.eraseIdx (l.length-1)=l.dropLast:=by
 induction l with
 |nil=>rfl
 |cons a r ih=>
  cases r with
  |nil=>rfl
  |cons b r=>
   have e:(a::b::r).length-1=((b::r).length-1)+1:=by
    have h1:(a::b::r).length=r.length+2:=rfl;have h2:(b::r).length=r.length+1:=rfl;lia
   rw[e,List.eraseIdx_cons_succ,ih]
   all_goals rfl
theorem foldl_rep(its:List Value):∀(k:Nat)(acc:List Value),
  List.foldl (fun x1 x2=>x1++x2) acc.toArray (List.replicate k its.toArray)=(acc++(List.replicate k its).flatten).toArray
 |0,acc=>by simp
 |k+1,acc=>by
  have e:acc.toArray++its.toArray=(acc++its).toArray:=by simp
  have e2:(acc++its)++(List.replicate k its).flatten=acc++(List.replicate (k+1) its).flatten:=by
   rw[yC,ug,yD]
  rw[<- e2,<- foldl_rep its k (acc++its),<- e,yC,vC]
section
variable{X:Cx}{pins:List (Addr×Obj)}{zzs:St}{H:Hp}{s:Shared}{l b:Addr}{xs ys zs:List V}
theorem Inv.a2x{its its':List Value}{n:Nat}{f:Array Value->Array Value}{t':Nat}(I:Inv X pins zzs H s)(hH:H l=some (.lst xs))
  (e:s.heap.get? l=some { cls:=.type "list",data:=.seq its.toArray n }) (hf:f its.toArray=its'.toArray) (hv:Vals ys its') (hz:ys.length<=sizeLine) :
  Inv X pins zzs (upd H l (.lst ys)) { s with heap:=s.heap.update l (Obj.mapSeq f),toks:=t' }:=by
 have q:=PySem.IsL.update e f;rw[hf] at q;refine I.write (x:=l) (e:=l) (by rw[hH];exact trivial) (.inl rfl) (fun b' u hb hu=>(GD s.heap (Obj.mapSeq f) (ig hb)).trans hu) ⟨_,q⟩ ?_;exact⟨hz,its',_,hv,q⟩
theorem Inv.a2w{its:List Value}{t':Nat}(I:Inv X pins zzs H s)(hv:Vals ys its)(hz:ys.length<=sizeLine) :
  Inv X pins zzs (upd H s.heap.objs.size (.lst ys)) { s with heap:=s.heap.push { cls:=.type "list",data:=.seq its.toArray },toks:=t' }:=
 I.laid (fun _ _ q=>fu _ q) (bK _) ⟨hz,its,0,hv,iu _ rfl⟩
theorem Inv.fresh(I:Inv X pins zzs H s):H s.heap.objs.size=none:=I.hok.fresh (bK _)
theorem Inv.Ue(I:Inv X pins zzs H s)(hH:H l=some (.lst xs)):xs.length<=sizeLine/\∃(its:List Value)(n:Nat),Vals xs its/\xs.length=its.length/\s.heap.get? l=some { cls:=.type "list",data:=.seq its.toArray n }:=by
 obtain⟨z,its,n,r,e⟩:=I.hok l _ hH;exact⟨z,its,n,r,r.length,e⟩
theorem Um{n:Nat}(h:n<=sizeLine):Builtin.List.listTooLong n=false:=by
 unfold Builtin.List.listTooLong;exact bV (by lia)
end
section
variable{X:Cx}
def PX:V->List V->Hp->VK->Prop:=fun x vs H Q=>∃ l xs y,x=.ref l/\vs=[y]/\H l=some (.lst xs)/\xs.length<sizeLine/\Q .non (upd H l (.lst (xs++[y])))
theorem gB:MtM X "list.append" PX:=by
 intro pins s zzs H x vs v us Q I rx rv h;obtain⟨l,xs,y,rfl,rfl,hH,hz,q⟩:=h;cases rx;obtain⟨u,rfl,ru⟩:=rv.one;obtain⟨z,its,n,r,hl,e⟩:=I.Ue hH;refine ur F.slot_list_append ⟨_,e,rfl⟩ F.entry_list_append (F.args_list_append_2 _ _) (PySem.list_append l its.toArray n u (by rw[cN];lia)) ⟨e,?_⟩;refine⟨.non,_,I.a2x (its':=its++[u]) hH e (by simp) (r.append (.cons ru .nil)) ?_,rfl,q⟩;rw[cL,nQ];lia
def a3T:V->List V->Hp->VK->Prop:=fun x vs H Q=>∃ l xs y,x=.ref l/\vs=[]/\H l=some (.lst xs)/\xs[xs.length-1]?=some y/\Q y (upd H l (.lst xs.dropLast))
theorem a0J:MtM X "list.pop" a3T:=by
 intro pins s zzs H x vs v us Q I rx rv h;obtain⟨l,xs,y,rfl,rfl,hH,hy,q⟩:=h;cases rx;have hus:=rv.zero;subst hus;obtain⟨z,its,n,r,hl,e⟩:=I.Ue hH;obtain⟨u,hu,ru⟩:=r.get hy;have hy':its.toArray[its.toArray.size-1]?=some u:=by
  show its.toArray[its.length-1]?=some u;rw[<- wU,<- hl];exact hu
 refine ur F.slot_list_pop ⟨_,e,rfl⟩ F.entry_list_pop (F.args_list_pop_1 _) (MeetsSeq.list_pop_last l its.toArray n u hy' (by rw[cN];lia)) ⟨e,?_⟩;refine⟨y,_,I.a2x (its':=its.dropLast) hH e ?_ r.dropLast ?_,ru,q⟩
 ·show its.toArray.eraseIdxIfInBounds (its.toArray.size-1)=its.dropLast.toArray;rw[cN,List.eraseIdxIfInBounds_toArray,KY]
 ·rw[List.length_dropLast];lia
def a3S:R2:=fun x y H Q=>∃ l b xs zs,x=.ref l/\y=.ref b/\H l=some (.lst xs)/\H b=some (.lst zs)/\xs.length+zs.length<=sizeLine/\∀ p,H p=none->Q (.ref p) (upd H p (.lst (xs++zs)))
theorem a0T:OpR X (binaryOp .Add) a3S:=by
 intro pins s zzs H x y v u Q I rx ry h;obtain⟨l,b,xs,zs,rfl,rfl,hH,hB,hz,q⟩:=h;cases rx;cases ry;obtain⟨z,its,n,r,hl,e⟩:=I.Ue hH;obtain⟨z2,its2,n2,r2,hl2,e2⟩:=I.Ue hB;refine PySem.P.add_list e e2 ?_ (by rw[cN,cN];lia);have ea:its.toArray++its2.toArray=(its++its2).toArray:=by simp
 rw[ea];exact⟨.ref _,_,I.a2w (t':=s.toks) (r.append r2) (by rw[cL];omega),rfl,q _ I.fresh⟩
def a3U:R2:=fun x y H Q=>∃ l k xs,x=.ref l/\y=.int k/\H l=some (.lst xs) /\ -(2^63)<=k/\k<2^63/\xs.length*k.toNat<=sizeLine /\
 ∀ p,H p=none->Q (.ref p) (upd H p (.lst (List.replicate k.toNat xs).flatten))
theorem len_rep{α:Type}(xs:List α)(k:Nat):(List.replicate k xs).flatten.length=k*xs.length:=by
 induction k with
 |zero=>simp
 |succ k ih=>rw[yC,ug,cL,ih,O5,Nat.add_comm]
theorem a1b:OpR X (binaryOp .Mult) a3U:=by
 intro pins s zzs H x y v u Q I rx ry h;obtain⟨l,k,xs,rfl,rfl,hH,h1,h2,hz,q⟩:=h;cases rx;obtain⟨t,rfl⟩:=ry;obtain⟨z,its,n,r,hl,e⟩:=I.Ue hH;have hlen:its.toArray.size*k.toNat<=sizeLine:=by rw[cN,<- hl];exact hz
 have hcap:¬its.toArray.size*k.toNat>(2^63-1) / 8:=by
  have:(sizeLine:Nat)<=(2^63-1) / 8:=by decide
  lia
 have hfit:¬(!Builtin.List.listFitsIndex k)=true:=by
  rw[fitsIndex_both h1 h2];exact fW
 have a2p:¬Builtin.List.listTooLong (its.toArray.size*k.toNat)=true:=by
  rw[Um hlen];exact fW
 have hnew:List.foldl (fun x1 x2=>x1++x2) #[] (List.replicate (if its.toArray.isEmpty=true then 0 else k.toNat) its.toArray)=(List.replicate k.toNat its).flatten.toArray:=by
  have f0:∀ m:Nat,List.foldl (fun x1 x2=>x1++x2) #[] (List.replicate m its.toArray)=(List.replicate m its).flatten.toArray:=fun m=>by
   have:=foldl_rep its m [];rw[HB] at this;exact this
  rw[f0];cases its with
  |nil=>simp
  |cons a r'=>rw[aJ (by simp)]
 refine wpAny_binaryOp_repeat_ref (T:="list") (U:="int") (by decide) ⟨_,e,rfl⟩ (fun s'=>typeIs_int s' k t) noFill_list_mul F.fills_int_mul F.slot_int_rmul repeat_list F.slot_int_index.lookup
  (ur F.slot_int_rmul (typeIs_int s k t) F.entry_int_rmul (F.args_int_rmul_2 _ _) (int___rmul___int_list k t l its.toArray n)
   ⟨e,rfl,⟨_,e,rfl⟩,ur F.slot_list_mul ⟨_,e,rfl⟩ F.entry_list_mul (F.args_list_mul_2 _ _) (AutoListH.list___mul___list_int_3 l its.toArray n k t hfit hcap a2p) ⟨e,?_⟩⟩)
 rw[hnew];exact⟨.ref _,_,I.a2w (t':=s.toks) (r.rep k.toNat) (by rw[len_rep,Nat.mul_comm];exact hz),rfl,q _ I.fresh⟩
end
end L2
namespace Att
open PySem PySem.W PySem.Calls PyProof.Rows
theorem yI{P:Params}{h:Heap}:∀(ns:List Int)(vs:List Value),WellAll P h vs (ns.map WData.int)->IntsAre vs ns:=by
 intro ns
 induction ns with
 |nil=>
  intro vs w;rw[HW] at w;cases w;exact .nil
 |cons n ns ih=>
  intro vs w;rw[dJ] at w;cases w with
  |cons a b=>
   cases a;exact .cons _ _ (ih _ b)
theorem S5{l:OpenLaw}{n:Nat}(hn:l.most=some n){P:Params}{h:Heap}{args:List WData}{vals:List Value}
  (hpre:l.row.toRowW.claim.pre args=true) (hwl:WellAll P h vals args) :
  ∃ a vs ns,vals=[Value.ref a]/\args=[WData.list (ns.map WData.int)]/\h.get? a=some { cls:=.type "list",data:=.seq vs.toArray }/\IntsAre vs ns/\ns.length<=n:=by
 have hsh:WShape.hasAll [] args [.list .int]=true:=(pre_splitW hpre).1;have hc:l.pre.holds [] { args:=args }=true:=(pre_splitW hpre).2;obtain⟨d,r,rfl,h1,h2⟩:=hasAllW_cons hsh;obtain rfl:=hasAllW_nil h2;obtain⟨xs,rfl,h3⟩:=hasW_list h1;obtain⟨ns,rfl⟩:=items_int h3;have hlen:ns.length<=n:=by
  unfold OpenLaw.pre at hc;have h4:(WTm.not (.lt (.lit (.int (n:Int))) (.len (.arg 0)))).holds [] { args:=[.list (ns.map .int)] }=true:=by
   have h4:=(holds_andW hc).1;rw[hn] at h4;exact h4
  have h5:=condW_of h4 (w_not (w_lt w_lit (w_len_list (w_arg rfl))));rw[aN] at h5;refine Nat.le_of_not_lt fun q=>?_
  have q':(n:Int)<((ns.length:Nat):Int):=by omega
  first
   |(rw[bG q'] at h5;exact absurd h5 (by decide))
   |(simp at h5;omega)
 cases hwl with
 |cons w1 w2=>
  cases w2;cases w1 with
  |list ho hall=>exact⟨_,_,ns,rfl,rfl,ho,yI ns _ hall,hlen⟩
theorem RM(l:OpenLaw)(args:List WData):l.row.toRowW.claim.post args (.bool true) args=true:=
 postW_of (r:=l.row.toRowW) (X:=(true==true))
  (show WShape.has [] (.bool true) .bool=true by first|rfl|decide|simp[WShape.has,WShape.arms,WShape.armsAll])
  (show(WTm.eq .res (.lit (.bool true))).value [] { args:=args,res:=some (.bool true),after:=args }=some (.bool (true==true)) from w_eq_bool (w_res rfl) w_lit) rfl
theorem Ii{l:OpenLaw}{n:Nat}{q:Program}{loose:List Str}{XP:(Str->Option Value)->Heap->Prop}{YP:World->Heap->Prop}{d:DefRec}
  (hn:l.most=some n) (hdf:d.params.defaults=[])
  (call:∀(w:World)(s₀ s₁:Shared)(mg mb:Str->Option Value)(fa:Addr)(o:Obj)(pm cd doc:Value)(a:Addr)(vs:List Value)(ns:List Int),
   Ground q loose [] XP w s₀ mg mb s₁.heap->YP w s₁.heap ->
   s₁.heap.get? fa=some o->o.data=.func (docDef d.name d.params d.body d.scope pm cd doc)->s₁.heap.CodeRec cd d.name->mg d.name=some (.ref fa) ->
   s₁.heap.get? a=some { cls:=.type "list",data:=.seq vs.toArray }->IntsAre vs ns->ns.length<=n->s₁.gens=#[] ->
   codeAny (model l.prog w) callerA (.call (.ref fa) ⟨[.ref a],[]⟩) (fun r s'=>r=.ok (.ret (.bool true))/\OldK s₁.heap s'.heap/\s'.os=s₁.os/\AllBare s'.gens) s₁) :
  WalkO q loose XP YP l.row.toRowW d [] (fun f vs=>PySem.call f vs):=by
 intro w s₀ s₁ mg mb G Y fa o pm cd doc dV kV ho hd hcd hD hmg hg args vals as hpre hlay hrd hwl hlo;obtain rfl:dV=.none:=Dflts.none hD hdf;obtain rfl:kV=.none:=Dflts.noKw hD;obtain⟨a,vs,ns,rfl,rfl,hobj,hints,hlen⟩:=S5 hn hpre hwl;refine enter_call (BR (call w s₀ s₁ mg mb fa o pm cd doc a vs ns G Y ho (fd_plain hd) hcd hmg hobj hints hlen hg) fun r s' hq=>?_);obtain⟨rfl,h2,h3,h4⟩:=hq;exact⟨.inl ⟨.bool true,.bool true,[],rfl,fun _=>rfl,.bool true,RM l _,fun _=>⟨List.Pairwise.nil,fun _ hm=>(nomatch hm)⟩⟩,h2,h3,h4⟩
end Att
namespace L2
open PySem PySem.Spec PyProof.Rows
theorem Eo:∀ {vs:List Value} {ns:List Int},IntsAre vs ns->Vals (ns.map V.int) vs
 |_,_,.nil=>.nil
 |_,_,.cons n t h=>.cons ⟨t,rfl⟩ (Eo h)
def Only(H:Hp):Prop:=∀ b,H b=none\/∃ o xs,H b=some (.frz o (.lst xs))
theorem Uc{P:Program}{w:World}{K:ao}{mg mb:Str->Option Value}{CX:CXT}{k:Nat}{fa a:Addr}{fd:FuncData}{x:Str}{sp:Sp}{s₁:Shared}{vs:List Value}{ns:List Int}
  (KX:K.In s₁.heap) (hns:s₁.heap.Ns mainGlobals mg) (hb:s₁.heap.Ns builtinsNs mb) (hbb:∀ x:Str,x ≠ "__name__" -> mb x=bootBuiltins x) (hlim:s₁.heap.NoLimit) (hg:s₁.gens=#[])
  (ha:s₁.heap.get? a=some { cls:=.type "list",data:=.seq vs.toArray }) (hi:IntsAre vs ns) (hl:ns.length<=sizeLine) (hr:iG k callerA)
  (F:∀ base:Heap,K.In base->base.Ns mainGlobals mg->cH P w K mg base CX k fa fd [x] sp) (hbind:∀(s:Shared)(u:Value),BindsTo s fd ⟨[u],[]⟩ [(x,u)])
  (hsp:∀ H:Hp,Only H->SqL K H a (ns.map V.int)->sp [.ref a] H (fun v _=>v=.bl true) fun _ _ _=>False)
  (hCX:∀ H e s',CX [] H s₁ (fun _ _ _=>False) e s'->False) :
  codeAny (model P w) callerA (.call (.ref fa) ⟨[.ref a],[]⟩) (fun r s'=>r=.ok (.ret (.bool true))/\OldK s₁.heap s'.heap/\s'.os=s₁.os/\AllBare s'.gens) s₁:=by
 have rv:=Eo hi;have lenV:=hi.length;have core:∀ H:Hp,Only H->SqL K H a (ns.map V.int)->HOk P w H s₁.heap->(∀ b,H b≠none->b=a)->(H a≠none->K.lookup a=none) ->
   codeAny (model P w) callerA (.call (.ref fa) ⟨[.ref a],[]⟩) (fun r s'=>r=.ok (.ret (.bool true))/\OldK s₁.heap s'.heap/\s'.os=s₁.os/\AllBare s'.gens) s₁:=by
  intro H hO hS hok hA hK;have Og:∀ {b:Addr} {o:Obj},s₁.heap.get? b=some o->H b=none->(Fx s₁.heap H).get? b=some o:=fun e n=>TX e n
  have noA:∀ {b:Addr} {o:Obj} {es:Array DictEntry} {ep:Nat},s₁.heap.get? b=some o->o.data=.dict es ep->H b=none:=fun {b o es ep} e d=>by
   cases q:H b with
   |none=>rfl
   |some u=>
    have e':b=a:=hA b (by rw[q];simp);subst e';rw[ha] at e;cases e;have d':Data.seq vs.toArray _=Data.dict es ep:=d;cases d'
  have nsK:∀ {b:Addr} {m:Str->Option Value},s₁.heap.Ns b m->(Fx s₁.heap H).Ns b m:=fun {b m} ⟨o,es,ep,e,d,r⟩=>⟨o,es,ep,Og e (noA e d),d,r⟩
  have hKb:K.In (Fx s₁.heap H):=fun b o e=>Og (KX b o e) (by
   cases q:H b with
   |none=>rfl
   |some u=>
    have e':b=a:=hA b (by rw[q];simp);subst e';rw[hK (by rw[q];simp)] at e;cases e)
  have hM:Mod K mg (Fx s₁.heap H):=⟨hKb,nsK hns,⟨mb,nsK hb,hbb⟩,let ⟨mc,h1,h2⟩:=hlim;⟨mc,nsK h1,h2⟩⟩
  have e0:K8 P w K mg (Fx s₁.heap H) callerA [] s₁ H:=⟨rfl,hM,fun b o e=>Yj e,Nat.le_of_eq (R5 _ _),trivial,fun b hb=>absurd (show b∈([]:List Addr) from hb) (by simp),hok,.of_eq hg⟩
  refine BR ((F _ hKb (nsK hns)).run callerA [] s₁ H ⟨[.ref a],[]⟩ [.ref a] [.ref a] _ _ hr e0 (hbind s₁ (.ref a)) (.cons rfl .nil) (hsp H hO hS)) fun r s' h=>?_
  cases r with
  |error e=>exact(hCX H e s' h).elim
  |ok fl=>
   cases fl with
   |next=>exact False.elim h
   |brk=>exact False.elim h
   |cont=>exact False.elim h
   |ret u=>
    obtain⟨v,H',os,bare,un,hok',r',q⟩:=h;have q':v=.bl true:=q;subst q';obtain rfl:u=Value.bool true:=r';refine⟨rfl,OldK.of_keep fun b o e=>?_,os,bare⟩;cases q:H b with
    |none=>exact un.keep b o e q (by intro z;exact absurd (show b∈([]:List Addr) from z) (by simp)) (by simp)
    |some u=>
     rcases hO b with z|⟨ob,xs,z⟩
     ·rw[q] at z;cases z
     ·have z2:=un.pQ b ob _ z;obtain⟨e1,_⟩:=hok b _ z;obtain⟨e2,_⟩:=hok' b _ z2;rw[e] at e1;cases e1;exact e2
 cases hk:K.lookup a with
 |some o=>
  have e:=KX a o hk;rw[ha] at e;cases e;refine core (fun _=>none) (fun _=>.inl rfl) (.inr ⟨_,vs.toArray,_,hk,rfl,rfl,rfl,by rw[cN,lenV];exact hl,by simpa using rv⟩) (fun b u z=>by have z':(none:Option HO)=some u:=z;cases z') (fun b z=>absurd rfl z) fun z=>absurd rfl z
 |none=>
  refine core (fun b=>if b=a then some (.frz { cls:=.type "list",data:=.seq vs.toArray } (.lst (ns.map V.int))) else none) (fun b=>?_) (.inl (.inr ⟨{ cls:=.type "list",data:=.seq vs.toArray },aK rfl⟩)) (fun b u z=>?_) (fun b z=>?_) fun _=>hk
  ·by_cases hb:b=a
   ·exact .inr ⟨_,_,aK hb⟩
   ·exact .inl (aJ hb)
  ·by_cases hb:b=a
   ·have z':=(aK hb).symm.trans z;cases z';subst hb;exact⟨ha,by rw[aN];exact hl,vs,_,rv,ha⟩
   ·have z':=(aJ hb).symm.trans z;cases z'
  ·by_cases hb:b=a
   ·exact hb
   ·exact absurd (aJ hb) z
theorem Zk{l:PySem.W.OpenLaw}{n k:Nat}{q:Program}{loose:List Str}{XP:(Str->Option Value)->Heap->Prop}{YP:World->Heap->Prop}{d:DefRec}{K:Params->ao}{CX:World->CXT}{sp:World->Sp}{x:Str}
  (hn:l.most=some n) (hn2:n<=sizeLine) (hdf:d.params.defaults=[]) (hr:iG k callerA)
  (hY:∀(w:World)(h:Heap),YP w h->(K w.params).In h)
  (F:∀(w:World)(mg:Str->Option Value)(fa:Addr)(h:Heap),(K w.params).In h->h.Ns mainGlobals mg->mg d.name=some (.ref fa) ->
   ∃ fd:FuncData,(∀(s:Shared)(u:Value),BindsTo s fd ⟨[u],[]⟩ [(x,u)]) /\
    ∀ base:Heap,(K w.params).In base->base.Ns mainGlobals mg->cH l.prog w (K w.params) mg base (CX w) k fa fd [x] (sp w))
  (hsp:∀(w:World)(H:Hp)(a:Addr)(ns:List Int),ns.length<=n->Only H->SqL (K w.params) H a (ns.map V.int)->sp w [.ref a] H (fun v _=>v=.bl true) fun _ _ _=>False)
  (hCX:∀(w:World)(H:Hp)(s:Shared)(e:Value)(s':Shared),CX w [] H s (fun _ _ _=>False) e s'->False) :
  PySem.W.WalkO q loose XP YP l.row.toRowW d [] (fun f vs=>PySem.call f vs):=by
 refine Att.Ii hn hdf fun w s₀ s₁ mg mb fa o pm cd doc a vs ns G Y ho hd hcd hmg hobj hints hlen hg=>?_
 have KX:=hY w _ Y;obtain⟨fd,hb,hF⟩:=F w mg fa _ KX G.T.g hmg;exact Uc KX G.T.g G.T.b G.T.builtins G.T.nolimit hg hobj hints (cO hlen hn2) hr hF hb (fun H hO hS=>hsp w H a ns hlen hO hS) fun H e s'=>hCX w H s₁ e s'
def inClass(s:Stmt)(j:Nat):Stmt:=match s with
 |.ClassDef _ _ _ body _ _ _ _ _ _ _=>body.getD j (.Pass ⟨0,0,0,0⟩)
 |_=>.Pass ⟨0,0,0,0⟩
def iQ(s:Stmt):Arguments:=match s with
 |.FunctionDef _ a _ _ _ _ _ _ _ _=>a
 |_=>{ posonlyargs:=[],args:=[],vararg:=none,kwonlyargs:=[],kw_defaults:=[],kwarg:=none,defaults:=[] }
def fJ(s:Stmt):List Stmt:=match s with
 |.FunctionDef _ _ b _ _ _ _ _ _ _=>b
 |_=>[]
def aH(s:Stmt):Scope:=match s with
 |.FunctionDef _ _ _ _ _ _ sc _ _ _=>sc
 |_=>{ kind:=.function,names:=[],isGenerator:=false,isCoroutine:=false }
abbrev E0:XK:=fun _ _ _=>False
structure Fun(K:ao)(x qual:Str)(st:Stmt)(f:Addr)(fd:FuncData):Prop where
 ex:∃(oc:Value)(od:Option Addr)(kV doc pm:Value)(an:Option Addr)(cdv ct:Value)(osl:Array (Option Value)),
  fd=PySem.W.fnOf x qual (iQ st) (fJ st) (aH st) .none kV doc pm an cdv ct/\K.lookup f=some ⟨oc,od,.func fd,osl⟩/\PySem.W.codeIn K cdv qual=true
 kp:PySem.W.keepIn K (.ref f)=true
section
variable{P:Program}{w:World}{K:ao}{mg:Str->Option Value}{base:Heap}
theorem Fun.binds{x qual:Str}{st:Stmt}{f:Addr}{fd:FuncData}{ps:List Str}(F:Fun K x qual st f fd)
  (h:∀(kV doc pm:Value)(an:Option Addr)(cdv ct:Value)(us:List Value),us.length=ps.length->bindArgs (PySem.W.fnOf x qual (iQ st) (fJ st) (aH st) .none kV doc pm an cdv ct) ⟨us,[]⟩=pure (ps.zip us)):Binds K fd ps []:=by
 obtain⟨oc,od,kV,doc,pm,an,cdv,ct,osl,rfl,lk,hcd⟩:=F.ex;exact .all (h kV doc pm an cdv ct)
theorem TF{x qual:Str}{st:Stmt}{f:Addr}{oc:Value}{od an:Option Addr}{osl:Array (Option Value)}{kV doc pm cdv ct:Value}(l:K.lookup f=some ⟨oc,od,.func (PySem.W.fnOf x qual (iQ st) (fJ st) (aH st) .none kV doc pm an cdv ct),osl⟩)
  (c:PySem.W.codeIn K cdv qual=true) (k:PySem.W.keepIn K (.ref f)=true):Fun K x qual st f (PySem.W.fnOf x qual (iQ st) (fJ st) (aH st) .none kV doc pm an cdv ct):=⟨⟨oc,od,kV,doc,pm,an,cdv,ct,osl,rfl,l,c⟩,k⟩
end
theorem wu{A B:Prop}(h:B):if false=true then A else B:=by
 rw[aJ fW];exact h
theorem Cy{A B:Prop}(h:A):if true=true then A else B:=by
 rw[aK rfl];exact h
theorem Cw{c A B:Prop} [Decidable c] (h1:c->A) (h2:¬c->B):if c then A else B:=by
 by_cases h:c
 ·rw[aK h];exact h1 h
 ·rw[aJ h];exact h2 h
def Same(H H':Hp):Prop:=∀ b o,H b=some o->H' b=some o
theorem Same.refl(H:Hp):Same H H:=fun _ _ h=>h
theorem Same.trans{H H1 H2:Hp}(a:Same H H1)(b:Same H1 H2):Same H H2:=fun c o h=>b c o (a c o h)
theorem Same.free{H H':Hp}(e:Same H H'){l:Addr}(h:H' l=Option.none):H l=Option.none:=by
 cases q:H l with
 |none=>rfl
 |some o=>
  rw[e l o q] at h;cases h
theorem Same.seq{K:ao}{H H':Hp}{a:Addr}{xs:List V}(e:Same H H')(h:SqL K H a xs):SqL K H' a xs:=by
 rcases h with(h|⟨o,h⟩)|h
 ·exact .inl (.inl (e _ _ h))
 ·exact .inl (.inr ⟨o,e _ _ h⟩)
 ·exact .inr h
theorem Vals.Tc{x:V}{u:Value}(r:RelV x u):Vals [x] [u]:=.cons r .nil
theorem Inv.track{X:Cx}{pins:List (Addr×Obj)}{zzs:St}{H:Hp}{s:Shared}{D:Addr}{o:HO}(I:Inv X pins zzs H s)(hn:H D=none)(h0:X.s₀.heap.objs.size<=D)(hL:D≠X.env.locals)
  (hc:∀ x c,X.env.cells.lookup x=some c->c≠D) (hp:∀ p∈X.pn++pins,p.1≠D) (new:gG X.prog X.w (upd H D o) s.heap D o):Inv X pins zzs (upd H D o) s:=by
 have ne:∀ b u,H b=some u->b≠D:=fun b u e=>bU e hn
 refine⟨I.ok,I.os,I.bare,⟨I.base.keep,I.base.slot,fun b u e n hx=>?_,I.base.there,fun b xs e=>?_,fun b u xs e=>?_,fun b ps e=>?_⟩,I.loc,I.cell,?_,fun x c e=>?_,fun p q=>?_,fun b u e=>?_,I.len⟩
 ·rw[bF (dO (jl (bD e) h0))];exact I.base.free b u e n hx
 ·have e':=I.base.tups b xs e;rw[bF (ne b _ e')];exact e'
 ·have e':=I.base.pQ b u xs e;rw[bF (ne b _ e')];exact e'
 ·obtain⟨more,e'⟩:=I.base.qR b ps e;exact⟨more,by rw[bF (ne b _ e')];exact e'⟩
 ·rw[bF (ig hL)];exact I.free
 ·rw[bF (hc x c e)];exact I.mq x c e
 ·obtain⟨a1,a2,a3,a4,a5⟩:=I.pin p q;exact⟨a1,by rw[bF (hp p q)];exact a2,a3,a4,a5⟩
 ·by_cases hb:b=D
  ·subst hb;rw[aD] at e;cases e;exact new
  ·rw[bF hb] at e;exact(I.hok b u e).stay (fun c v _ q=>q) (fun c q=>by rw[bF (ne c _ q)];exact q) fun c xs q=>by rw[bF (ne c _ q)];exact q
def bR:List (Str×NameKind)->List (Str×Addr)->List (Str×Addr)->List (Str×Addr)
 |[],_,acc=>acc
 |(n,k)::r,cells,acc=>if k==.free then bR r cells ((n,(cells.lookup n).getD 0)::acc) else bR r cells acc
theorem Kp{env:Env}:∀(names:List (Str×NameKind))(acc:List (Str×Addr)),(∀ y∈names,y.2=.free->∃ c,env.cells.lookup y.1=some c) ->
  (forIn names acc fun x cs=>(if x.2==NameKind.free then do let a <- cellOf env x.1;pure (ForInStep.yield ((x.1,a)::cs)) else pure (ForInStep.yield cs):Sem (ForInStep (List (Str×Addr)))))=pure (bR names env.cells acc):=by
 intro names
 induction names with
 |nil=>intro acc _;rfl
 |cons p r ih=>
  intro acc h;obtain⟨n,k⟩:=p;rw[List.forIn_cons];have hr:∀ y∈r,y.2=.free->∃ c,env.cells.lookup y.1=some c:=fun y hy=>h y (dI _ hy)
  by_cases hk:k=.free
  ·subst hk;obtain⟨c,hc⟩:=h (n,.free) cU rfl;have hc':env.cells.lookup n=some c:=hc;have e1:cellOf env n=pure c:=by unfold cellOf;rw[hc']
   have e2:bR ((n,NameKind.free)::r) env.cells acc=bR r env.cells ((n,c)::acc):=by
    show(if(NameKind.free==NameKind.free)=true then _ else _)=_;rw[aK (by decide),hc'];rfl
   rw[e2,<- ih ((n,c)::acc) hr];simp only[Ny,jT,e1,pure_bind]
  ·have hb:(k==NameKind.free)=false:=by simpa using hk
   have e2:bR ((n,k)::r) env.cells acc=bR r env.cells acc:=by
    show(if(k==NameKind.free)=true then _ else _)=_;rw[hb];rfl
   rw[e2,<- ih acc hr];simp only[hb,vB,jD,pure_bind]
theorem oF{env:Env}{scope:Scope}(h:∀ y∈scope.names,y.2=.free->∃ c,env.cells.lookup y.1=some c):closureFor scope env=pure (bR scope.names env.cells []):=by
 rw[<- Kp scope.names [] h];unfold closureFor;simp only[bind_pure]
theorem eX:∀(names:List (Str×NameKind)){cells acc:List (Str×Addr)}{x:Str}{c:Addr},(∀ y∈names,y.2=.free->∃ c,cells.lookup y.1=some c)->(∀ y d,acc.lookup y=some d->cells.lookup y=some d) ->
  (bR names cells acc).lookup x=some c->cells.lookup x=some c:=by
 intro names
 induction names with
 |nil=>intro cells acc x c _ h e;exact h x c e
 |cons p r ih=>
  intro cells acc x c h ha e;obtain⟨n,k⟩:=p;have hr:∀ y∈r,y.2=.free->∃ c,cells.lookup y.1=some c:=fun y hy=>h y (dI _ hy)
  by_cases hk:k=.free
  ·subst hk;obtain⟨d,hd⟩:=h (n,.free) cU rfl;have hd':cells.lookup n=some d:=hd;have e2:bR ((n,NameKind.free)::r) cells acc=bR r cells ((n,d)::acc):=by
    show(if(NameKind.free==NameKind.free)=true then _ else _)=_;rw[aK (by decide),hd'];rfl
   rw[e2] at e;refine ih hr (fun y q z=>?_) e;rw[yF] at z;split at z
   ·rename_i hy;have hy':y=n:=by simpa using hy
    subst hy';cases z;exact hd'
   ·exact ha y q z
  ·have hb:(k==NameKind.free)=false:=by simpa using hk
   have e2:bR ((n,k)::r) cells acc=bR r cells acc:=by
    show(if(k==NameKind.free)=true then _ else _)=_;rw[hb];rfl
   rw[e2] at e;exact ih hr ha e
theorem rC:∀(names:List (Str×NameKind)){cells acc:List (Str×Addr)}{x:Str},((x,NameKind.free)∈names\/∃ d,acc.lookup x=some d)->∃ c,(bR names cells acc).lookup x=some c:=by
 intro names
 induction names with
 |nil=>
  intro cells acc x h;rcases h with h|h
  ·exact absurd h (by simp)
  ·exact h
 |cons p r ih=>
  intro cells acc x h;obtain⟨n,k⟩:=p;by_cases hk:k=.free
  ·subst hk;have e2:bR ((n,NameKind.free)::r) cells acc=bR r cells ((n,(cells.lookup n).getD 0)::acc):=by
    show(if(NameKind.free==NameKind.free)=true then _ else _)=_;rw[aK (by decide)]
   rw[e2];refine ih ?_;by_cases hx:x=n
   ·exact .inr ⟨(cells.lookup n).getD 0,by subst hx;simp[yF]⟩
   ·rcases h with h|⟨d,h⟩
    ·rcases bW.mp h with q|q
     ·exact absurd (congrArg Prod.fst q) hx
     ·exact .inl q
    ·refine .inr ⟨d,?_⟩;rw[yF];have:(x==n)=false:=by simpa using hx
     rw[this];exact h
  ·have hb:(k==NameKind.free)=false:=by simpa using hk
   have e2:bR ((n,k)::r) cells acc=bR r cells acc:=by
    show(if(k==NameKind.free)=true then _ else _)=_;rw[hb];rfl
   rw[e2];refine ih ?_;rcases h with h|h
   ·rcases bW.mp h with q|q
    ·exact absurd (congrArg Prod.snd q).symm hk
    ·exact .inl q
   ·exact .inr h
theorem lM{env:Env}:∀(names:List (Str×NameKind))(x:Str),
  (names.map fun(n,k)=>if(k==NameKind.free&&env.scope.kind==.function&&env.kindOf n==some .cell) then(n,NameKind.cell) else(n,k)).lookup x =
   (names.lookup x).map fun k=>if(k==NameKind.free&&env.scope.kind==.function&&env.kindOf x==some .cell) then NameKind.cell else k
 |[],_=>rfl
 |(n,k)::r,x=>by
  have ih:=@lM env r x;show List.lookup x ((if(k==NameKind.free&&env.scope.kind==.function&&env.kindOf n==some .cell)=true then(n,NameKind.cell) else(n,k))::_)=_;by_cases hx:x=n
  ·subst hx;by_cases hc:(k==NameKind.free&&env.scope.kind==.function&&env.kindOf x==some .cell)=true
   ·rw[aK hc];simp only[yF,Ny,pL];rw[aK hc]
   ·rw[aJ hc];simp only[yF,Ny,pL];rw[aJ hc]
  ·have hb:(x==n)=false:=by simpa using hx
   by_cases hc:(k==NameKind.free&&env.scope.kind==.function&&env.kindOf n==some .cell)=true
   ·rw[aK hc];simp only[yF,hb];exact ih
   ·rw[aJ hc];simp only[yF,hb];exact ih
def tM(scope outer:Scope)(N:List Str)(x:Str):Bool:=
 (scope.kind==.function)&&scope.names.all (fun y=>!(y.2==.cell))&&scope.names.all (fun y=>!(y.2==.local)||(y.1==x||y.1 == ".0")) &&
  scope.names.all (fun y=>!(y.2==.local)||scope.names.lookup y.1==some .local)&&(scope.names.lookup x==some .local) &&
  scope.names.all (fun y=>!(y.2==.free)||(outer.names.lookup y.1==some .cell||outer.names.lookup y.1==some .free)) &&
  !(N.contains ".0")&&(scope.names.lookup (x ++ "'")==none)&&decide (x::N.map fun y=>if y=x then x ++ "'" else y).Nodup
def Dp(N:List Str)(x:Str):List Str:=x::N.map fun y=>if y=x then x ++ "'" else y
structure vG(scope outer:Scope)(N:List Str)(x:Str):Prop where
 kind:scope.kind=.function
 wC:∀ y∈scope.names,y.2≠.cell
 loc:∀ y∈scope.names,y.2=.local->y.1=x\/y.1 = ".0"
 names:∀ y∈scope.names,y.2=.local->scope.names.lookup y.1=some .local
 own:scope.names.lookup x=some .local
 free:∀ y∈scope.names,y.2=.free->outer.names.lookup y.1=some .cell\/outer.names.lookup y.1=some .free
 dot:(".0" : Str)∉N
 prime:scope.names.lookup (x ++ "'")=none
 nd:(Dp N x).Nodup
theorem tO{scope outer:Scope}{N:List Str}{x:Str}(h:tM scope outer N x=true):vG scope outer N x:=by
 unfold tM at h;simp only[jY,jq,NT,lY,iM,lX,decide_eq_true_eq] at h;obtain⟨⟨⟨⟨⟨⟨⟨⟨h1,h2⟩,h3⟩,h4⟩,h5⟩,h6⟩,h7⟩,h8⟩,h9⟩:=h;refine⟨h1,h2,fun y hy e=>?_,fun y hy e=>?_,h5,fun y hy e=>?_,?_,h8,h9⟩
 ·rcases h3 y hy with z|z
  ·exact absurd e z
  ·exact z
 ·rcases h4 y hy with z|z
  ·exact absurd e z
  ·exact z
 ·rcases h6 y hy with z|z
  ·exact absurd e z
  ·exact z
 ·intro z;have:N.contains ".0" = true:=WQ.mpr z;rw[this] at h7;cases h7
theorem uE{prog:Program}{w:World}{A:Around}{R:Result->Shared->Prop}{s:Shared}{elt target iter:Expr}{ifs:List Expr}{scope:Scope}{pos:Pos}{it acc:Value}{env:Env}(I:Nat->Shared->Prop)
  (turn:∀ n s,I n s->wpAny (model prog w) A (pyNext it) (fun r s₁=>match r with
   |none=>R (.ok .next) s₁
   |some v=>wpAny (model prog w) A (letOwnedTupleGo target it v) (fun _ s₁=>wpAny (model prog w) A (assign target env v) (fun _ s₂=>
     wpAny (model prog w) A (forIn ifs true fun c r=>if r=true then do let ok <- isTrue c env (eval c env);pure (ForInStep.yield ok) else pure (ForInStep.yield r)) (fun ok s₃=>
      if ok=true then wpAny (model prog w) A (eval elt env) (fun x s₄=>
       wpAny (model prog w) A (call (.builtin "list.append") [acc,x]) (fun _ s₅=>∃ m,m<n/\I m s₅) (fun _ _=>False) s₄) (fun _ _=>False) s₃
      else ∃ m,m<n/\I m s₃) (fun _ _=>False) s₂) (fun _ _=>False) s₁) (fun _ _=>False) s₁) (fun _ _=>False) s)
  (n:Nat) (h:I n s) :
  codeAny (model prog w) A (.compLoop (.ListComp elt [⟨target,iter,ifs,0⟩] scope pos) 0 it acc env) R s:=by
 refine codeAny_loop rfl I (fun n s hI=>?_) n h;show wpAny _ A ((compTurn (.ListComp elt [⟨target,iter,ifs,0⟩] scope pos) 0 it acc env).onRaise (fun x=>do noteFrame x env;theTreesLotGoes x)) _ _ s;refine wpAny_noted ?_;rw[compTurn_list];refine aO (BK (aO (fX (turn n s hI) (fun r s₁ h₁=>?_) fun _ _ h'=>h'.elim)));cases r with
 |none=>exact cF h₁
 |some v=>
  refine aO (fX h₁ (fun _ s₁ h₁=>?_) fun _ _ h'=>h'.elim);refine aO (fX h₁ (fun _ s₂ h₂=>aO (fX h₂ (fun ok s₃ h₃=>?_) fun _ _ h'=>h'.elim)) fun _ _ h'=>h'.elim);cases ok with
  |false=>exact cF ⟨rfl,h₃⟩
  |true=>
   exact aO (aO (fX h₃ (fun x s₄ h₄=>aO (fX h₄ (fun _ s₅ h₅=>cF (cF ⟨rfl,h₅⟩)) fun _ _ h'=>h'.elim)) fun _ _ h'=>h'.elim))
section
variable{X:Cx}
def tG(X:Cx)(ifs:List Expr)(t:TT):Prop:=
 ∀(pins:List (Addr×Obj))(s:Shared)(zzs:St)(H:Hp)(Q:Bool->Hp->Prop),Inv X pins zzs H s->t zzs H Q ->
  wpAny (model X.prog X.w) X.A (forIn ifs true fun c r=>if r=true then do let ok <- isTrue c X.env (eval c X.env);pure (ForInStep.yield ok) else pure (ForInStep.yield r)) (TP X pins zzs Q) X.xe s
def K4:TT:=fun _ H Q=>Q true H
theorem PL:tG X [] K4:=fun _ _ _ H _ I h=>wpAny_tests_nil ⟨H,I,h⟩
theorem YG{c:Expr}{t:TT}(h:PT X c t):tG X [c] t:=fun pins s zzs H Q I hw=>wpAny_tests_one (h pins s zzs H Q I hw)
def dX(X:Cx)(x:Str)(scope:Scope)(s:Shared)(H:Hp)(ex:List Addr):Cx:=
 { X with
  N:=Dp X.N x
  s₀:=s
  H₀:=H
  env:=compEnvC scope (bR scope.names X.env.cells []) s.heap.objs.size X.env
  outer:=X.stack
  stack:=X.stack
  ex:=ex
  fn:=fun _=>false
  pn:=[]
  xe:=fun _ _=>False }
def m9(J:It)(tc:TT)(te:TE)(zzs:St)(fin:List V->Hp->Prop)(W:Nat->Nat->List V->Hp->Prop):Prop:=
 ∀ i m ys H,W i m ys H->ys.length<=sizeLine/\((J.stop i H/\fin ys H) \/
  (J.go i H/\∀ v H',J.yld i H v H'->tc (some v::zzs) H' fun b H2=>if b=true then te (some v::zzs) H2 fun y H3=>∃ m',m'<m/\W (i+1) m' (ys++[y]) H3 else ∃ m',m'<m/\W (i+1) m' ys H2))
theorem lookup_mem{α:Type}:∀ {l:List (Str×α)} {x:Str} {k:α},l.lookup x=some k->(x,k)∈l
 |[],_,_,h=>by simp at h
 |(n,k')::r,x,k,h=>by
  rw[yF] at h;split at h
  ·rename_i hx;have:x=n:=by simpa using hx
   subst this;cases h;exact cU
  ·exact dI _ (lookup_mem h)
theorem QD{N:List Str}{x y:Str}{i:Nat}(h:(Dp N x)[i+1]?=some y):(N[i]?=some y/\y≠x)\/y=x ++ "'":=by
 unfold Dp at h;rw[MK,cM] at h;cases e:N[i]? with
 |none=>rw[e] at h;cases h
 |some z=>
  rw[e] at h;have h':(if z=x then x ++ "'" else z)=y:=by simpa using h
  by_cases hz:z=x
  ·rw[aK hz] at h';exact .inr h'.symm
  ·rw[aJ hz] at h';subst h';exact .inl ⟨rfl,hz⟩
theorem zL{x:Str}{scope:Scope}{pins:List (Addr×Obj)}{zzs:St}{H:Hp}{s:Shared}{h₁:Heap}{ex:List Addr}(ok:vG scope X.env.scope X.N x)(hc:X.calm=true)(I:Inv X pins zzs H s)
  (hns:h₁.Ns s.heap.objs.size fun _=>none) (hk:∀ b o,s.heap.get? b=some o->h₁.get? b=some o)
  (hex:∀ b∈ex,b<s.heap.objs.size/\b≠X.env.locals/\b∉X.fs/\H b=none/\(b∈X.ex\/X.s₀.heap.objs.size<=b)/\(∀ y c,X.env.cells.lookup y=some c->c≠b)) {tk:Nat} :
  Inv (dX X x scope s H ex) [] (none::zzs) H { s with heap:=h₁,toks:=tk }:=by
 have hfree:∀ y∈scope.names,y.2=.free->∃ c,X.env.cells.lookup y.1=some c:=fun y hy e=>I.ok.has y.1 (ok.free y hy e)
 have cl:∀ y c,(bR scope.names X.env.cells []).lookup y=some c->X.env.cells.lookup y=some c:=fun y c e=>eX scope.names hfree (fun _ _ z=>by simp at z) e
 have clt:∀ y c,X.env.cells.lookup y=some c->c<s.heap.objs.size:=fun y c e=>by
  obtain⟨v,q⟩:=I.cell y c e;exact q.lt
 have uM:∀ y,(compEnvC scope (bR scope.names X.env.cells []) s.heap.objs.size X.env).kindOf y=(scope.names.lookup y).map fun k=>if(k==NameKind.free&&X.env.scope.kind==.function&&X.env.kindOf y==some .cell) then NameKind.cell else k:=fun y=>lM scope.names y
 have freeOf:∀ y,(∃ k,(compEnvC scope (bR scope.names X.env.cells []) s.heap.objs.size X.env).kindOf y=some k/\(k=.cell\/k=.free))->(y,NameKind.free)∈scope.names:=fun y ⟨k,e,hk⟩=>by
  rw[uM] at e;cases q:scope.names.lookup y with
  |none=>rw[q] at e;cases e
  |some k'=>
   have mem:=lookup_mem q;by_cases hf:k'=.free
   ·subst hf;exact mem
   ·rw[q] at e;have hb:(k'==NameKind.free)=false:=by simpa using hf
    simp only[pL,hb,vD,vB,jD,sY] at e;subst e;rcases hk with z|z
    ·exact absurd z (ok.wC _ mem)
    ·exact absurd z hf
 have Gp:∀ b∈frs X.stack,b=X.env.locals\/b∈X.fs:=fun b hb=>bW.mp (I.jA b hb)
 refine⟨⟨I.ok.mod,?_,I.ok.glob,I.ok.blt,bK _,fun y z c e1 e2=>?_,fun y hy=>?_,fun y c z _=>?_,fun _=>I.ok.hd hc,I.ok.frames,.inl rfl,fun b hb=>⟨?_,fun y c e=>?_⟩,fun b o e=>?_,?_,fun b o e hb=>?_,fun b hb hf=>?_,?_,fun b hb=>?_⟩,
  rfl,I.bare,Un.kept hk,⟨_,hns,fun i y v e1 e2 e3=>?_⟩,fun y c e=>?_,I.hok.fresh (bK _),fun y c e=>I.mq y c (cl y c e),fun p hp=>?_,I.hok.kept hk,?_⟩
 ·exact ok.kind
 ·exact I.ok.inj y z c (cl y c e1) (cl z c e2)
 ·have hm:(y,NameKind.free)∈scope.names:=by
   rcases hy with z|z
   ·exact freeOf y ⟨_,z,.inl rfl⟩
   ·exact freeOf y ⟨_,z,.inr rfl⟩
  exact rC scope.names (.inl hm)
 ·exact absurd (show false=true from z) (by decide)
 ·exact dO (hex b hb).1
 ·exact(hex b hb).2.2.2.2.2 y c (cl y c e)
 ·obtain⟨e1,e2⟩:=I.bs b o e;exact⟨e1,e2⟩
 ·exact cO I.ok.bsz I.sz
 ·rcases(hex b hb).2.2.2.2.1 with z|z
  ·exact I.ok.Lk b o e z
  ·exact absurd (jl (bD (I.ok.bs b o e).1) z) (kh _)
 ·rcases Gp b hf with z|z
  ·exact(hex b hb).2.1 z
  ·exact(hex b hb).2.2.1 z
 ·exact I.stack
 ·exact I.rT b hb
 ·cases i with
  |zero=>
   have:(none::zzs)[0]?=some (some v):=e2;simp at this
  |succ i=>
   have e2':zzs[i]?=some (some v):=by simpa using e2
   have vis:Vis (relabel scope X.env) y:=e3;rcases QD e1 with⟨eN,hyx⟩|hp
   ·
    have kf:(y,NameKind.free)∈scope.names:=by
     have k3:∃ k,(compEnvC scope (bR scope.names X.env.cells []) s.heap.objs.size X.env).kindOf y=some k/\(k=.local\/k=.cell\/k=.free):=by
      rcases vis with z|z|z
      ·exact⟨_,z,.inl rfl⟩
      ·exact⟨_,z,.inr (.inl rfl)⟩
      ·exact⟨_,z,.inr (.inr rfl)⟩
     obtain⟨k,e,hk3⟩:=k3;rcases hk3 with hl|hk3
     ·subst hl;have e':=e;rw[uM] at e';cases q:scope.names.lookup y with
      |none=>rw[q] at e';cases e'
      |some k'=>
       have mem:=lookup_mem q;rw[q] at e';have hk':k'=.local:=by
        by_cases zW:(k'==NameKind.free&&X.env.scope.kind==.function&&X.env.kindOf y==some .cell)=true
        ·simp only[pL,zW,jT,sY] at e';cases e'
        ·simp only[pL,zW,vB,jD,sY] at e';exact e'
       subst hk';rcases ok.loc _ mem rfl with z|z
       ·exact absurd z hyx
       ·have:y = ".0":=z;subst this;exact absurd (eO eN) ok.dot
     ·exact freeOf y ⟨k,e,hk3⟩
    have hout:=ok.free _ kf rfl;have a1P:Vis X.env.scope y:=by
     rcases hout with z|z
     ·exact .inr (.inl z)
     ·exact .inr (.inr z)
    obtain⟨m,hn,hl⟩:=I.loc;obtain⟨u,ru,lk⟩:=hl i y v eN e2' a1P;refine⟨u,ru,?_⟩;rcases lk with⟨lk,_⟩|⟨_,c,ec,hcell⟩
    ·have lk':X.env.scope.names.lookup y=some .local:=lk;rcases hout with z|z<;>(have z':X.env.scope.names.lookup y=_:=z;rw[lk'] at z';cases z')
    ·obtain⟨c',ec'⟩:=rC (cells:=X.env.cells) (acc:=[]) scope.names (.inl kf);have:c'=c:=by
      have:=cl y c' ec';rw[ec] at this;cases this;rfl
     subst this;have kk:(compEnvC scope (bR scope.names X.env.cells []) s.heap.objs.size X.env).kindOf y=some .cell\/(compEnvC scope (bR scope.names X.env.cells []) s.heap.objs.size X.env).kindOf y=some .free:=by
      rcases vis with z|z|z
      ·
       have z':(compEnvC scope (bR scope.names X.env.cells []) s.heap.objs.size X.env).kindOf y=some .local:=z;rw[uM] at z';cases q:scope.names.lookup y with
       |none=>rw[q] at z';cases z'
       |some k'=>
        have mem:=lookup_mem q;rw[q] at z';have hk':k'=.local:=by
         by_cases zW:(k'==NameKind.free&&X.env.scope.kind==.function&&X.env.kindOf y==some .cell)=true
         ·simp only[pL,zW,jT,sY] at z';cases z'
         ·simp only[pL,zW,vB,jD,sY] at z';exact z'
        subst hk';rcases ok.loc _ mem rfl with zz|zz
        ·exact absurd zz hyx
        ·have:y = ".0":=zz;subst this;exact absurd (eO eN) ok.dot
      ·exact .inl z
      ·exact .inr z
     refine .inr ⟨kk,c',ec',?_⟩;obtain⟨oc,hoc,hd⟩:=hcell;exact⟨oc,hk _ _ hoc,hd⟩
   ·subst hp;exfalso;have kn:(compEnvC scope (bR scope.names X.env.cells []) s.heap.objs.size X.env).kindOf (x ++ "'")=none:=by rw[uM,ok.prime];rfl
    rcases vis with z|z|z
    ·have z':(compEnvC scope (bR scope.names X.env.cells []) s.heap.objs.size X.env).kindOf (x ++ "'")=some .local:=z;rw[kn] at z';cases z'
    ·have z':(compEnvC scope (bR scope.names X.env.cells []) s.heap.objs.size X.env).kindOf (x ++ "'")=some .cell:=z;rw[kn] at z';cases z'
    ·have z':(compEnvC scope (bR scope.names X.env.cells []) s.heap.objs.size X.env).kindOf (x ++ "'")=some .free:=z;rw[kn] at z';cases z'
 ·obtain⟨v,oc,hoc,hd⟩:=I.cell y c (cl y c e);exact⟨v,oc,hk _ _ hoc,hd⟩
 ·exact absurd (show p∈([]:List (Addr×Obj)) from hp) (by simp)
 ·show(none::zzs).length=(Dp X.N x).length;unfold Dp;rw[dY,dY,aN,I.len]
end
section
variable{X:Cx}
theorem Heap.SameBut.keeps{a:Addr}{h h':Heap}(k:Heap.SameBut a h h'){b:Addr}{o:Obj}(hb:b≠a)(e:h.get? b=some o):h'.get? b=some o:=(k.2 b hb).trans e
theorem QF{x:Str}{px pos:Pos}{scope:Scope}{elt iter:Expr}{ifs:List Expr}{tc:TT}{te:TE}{pins:List (Addr×Obj)}{zzs:St}{H₂:Hp}{s₃:Shared}{h₁:Heap}{tk:Nat}{it D:Addr}{fp:List Addr}{tn:Nat->Heap->Prop}{J:It}{fin:List V->Hp->Prop}
  {W:Nat->Nat->List V->Hp->Prop} {RR:Value->Addr->Result->Shared->Prop}
  (ok:vG scope X.env.scope X.N x) (hc:X.calm=true) (hif:∀ s H ex,tG (dX X x scope s H ex) ifs tc) (he:∀ s H ex,PE (dX X x scope s H ex) elt te)
  (I3:Inv X pins zzs H₂ s₃) (T:Turn X.prog X.w X.K (.Name x px) J fp it tn) (st:tn 0 s₃.heap) (f2:∀ b∈fp,iR X pins H₂ b) (w0:∃ m,W 0 m [] H₂) (hW:m9 J tc te zzs fin W)
  (gJ:H₂ D=none) (fD:iR X pins H₂ D) (h0D:X.s₀.heap.objs.size<=D) (mz:s₃.heap.get? D=some { cls:=.type "list",dict:=none,data:=.seq ([]:List Value).toArray }) (Dfp:D∉fp)
  (hns₁:h₁.Ns s₃.heap.objs.size fun _=>none) (fO:∀ b o,s₃.heap.get? b=some o->h₁.get? b=some o)
  (hRR:∀ D C ys H' s',H' D=none->fin ys H'->Inv X pins zzs (upd H' D (.lst ys)) s'->iR X pins (upd H' D (.lst ys)) C->(∃ m,s'.heap.Ns C m)->RR (.ref D) C (.ok .next) s') :
  codeAny (model X.prog X.w) X.A (.compLoop (.ListComp elt [⟨.Name x px,iter,ifs,0⟩] scope pos) 0 (.ref it) (.ref D) (compEnvC scope (bR scope.names X.env.cells []) s₃.heap.objs.size X.env)) (RR (.ref D) s₃.heap.objs.size) { s₃ with heap:=h₁,toks:=tk }:=by
 have Jc:∀ b∈fp,∃ o,s₃.heap.get? b=some o/\∀ v,o.data≠.cell v:=T.obj 0 s₃.heap st;have hex:∀ b∈D::fp,b<s₃.heap.objs.size/\b≠X.env.locals/\b∉X.fs/\H₂ b=none/\(b∈X.ex\/X.s₀.heap.objs.size<=b)/\(∀ y c,X.env.cells.lookup y=some c->c≠b):=fun b hb=>by
  rcases bW.mp hb with e|hb
  ·subst e;obtain⟨g0,g1,g2,g3,g4,g5⟩:=fD;exact⟨bD mz,g1,g2,g0,g3,g4⟩
  ·obtain⟨g0,g1,g2,g3,g4,g5⟩:=f2 b hb;obtain⟨o,eo,_⟩:=Jc b hb;exact⟨bD eo,g1,g2,g0,g3,g4⟩
 have I4:=zL (ex:=D::fp) (tk:=tk) ok hc I3 hns₁ fO hex;generalize hY:dX X x scope s₃ H₂ (D::fp)=Y at I4;have jr:Y.prog=X.prog:=by rw[<- hY];rfl
 have Yw:Y.w=X.w:=by rw[<- hY];rfl
 have YK:Y.K=X.K:=by rw[<- hY];rfl
 have YA:Y.A=X.A:=by rw[<- hY];rfl
 have Yc:Y.calm=true:=by rw[<- hY];exact hc
 have YN:Y.N.Nodup:=by rw[<- hY];exact ok.nd
 have Y0:Y.N[0]?=some x:=by rw[<- hY];rfl
 have lD:Y.env=compEnvC scope (bR scope.names X.env.cells []) s₃.heap.objs.size X.env:=by rw[<- hY];rfl
 have Yx:Y.env.scope.names.lookup x=some .local:=by rw[lD];exact GP ok.own
 have Yfs:Y.fs=frs X.stack:=by rw[<- hY];rfl
 have Yex:Y.ex=D::fp:=by rw[<- hY];rfl
 have Ys0:Y.s₀=s₃:=by rw[<- hY];rfl
 have YH0:Y.H₀=H₂:=by rw[<- hY];rfl
 have Ypn:Y.pn=[]:=by rw[<- hY];rfl
 have Yxe:Y.xe=fun _ _=>False:=by rw[<- hY];rfl
 have TY:tG Y ifs tc:=by rw[<- hY];exact hif _ _ _
 have he':PE Y elt te:=by rw[<- hY];exact he _ _ _
 have Dne:D≠Y.env.locals:=by rw[lD];exact dO (bD mz)
 have Dfs:D∉Y.fs:=by
  rw[Yfs];intro hb;rcases bW.mp (I3.jA D hb) with z|z
  ·exact fD.2.1 z
  ·exact fD.2.2.1 z
 have I9:∀ y c,Y.env.cells.lookup y=some c->c≠D:=fun y c e=>by
  have hfree:∀ y∈scope.names,y.2=.free->∃ c,X.env.cells.lookup y.1=some c:=fun y hy e=>I3.ok.has y.1 (ok.free y hy e)
  rw[lD] at e;exact fD.2.2.2.2.1 y c (eX scope.names hfree (fun _ _ z=>by simp at z) e)
 have fpY:∀ {H':Hp} {pl:List (Addr×Obj)},(∀ b∈fp,H' b=none)->(∀ p∈pl,p.1∉fp)->∀ b∈fp,iR Y pl H' b:=fun {H' pl} hn hp b hb=>by
  obtain⟨g0,g1,g2,g3,g4,g5⟩:=f2 b hb;have hlt:=(hex b (dI _ hb)).1;refine⟨hn b hb,?_,?_,.inl (by rw[Yex];exact dI _ hb),fun y c e=>?_,fun p q z=>?_⟩
  ·rw[lD];exact dO hlt
  ·rw[Yfs];intro z;rcases bW.mp (I3.jA b z) with z|z
   ·exact g1 z
   ·exact g2 z
  ·have hfree:∀ y∈scope.names,y.2=.free->∃ c,X.env.cells.lookup y.1=some c:=fun y hy e=>I3.ok.has y.1 (ok.free y hy e)
   rw[lD] at e;exact g4 y c (eX scope.names hfree (fun _ _ z=>by simp at z) e)
  ·rw[Ypn,HB] at q;exact hp p q (by rw[z];exact hb)
 have DY:∀ {H':Hp},H' D=none->iR Y [] H' D:=fun {H'} hn=>⟨hn,Dne,Dfs,.inl (by rw[Yex];exact cU),I9,fun p q=>absurd (show p∈([]:List (Addr×Obj)) by rw[Ypn] at q;exact q) (by simp)⟩
 have Jv:∀ {bJ:St} {H':Hp} {s':Shared} {its:Array Value} {n:Nat},Inv Y [] bJ H' s'->H' D=none->s'.heap.get? D=some { cls:=.type "list",data:=.seq its n }->Inv Y [(D,{ cls:=.type "list",data:=.seq its n })] bJ H' s':=fun {bJ H' s' its n} J' hn e=>by
  refine J'.jf fun p hp=>?_
  have:p=(D,{ cls:=.type "list",data:=.seq its n }):=by simpa using hp
  subst this;exact⟨e,hn,Dne,Dfs,fun v z=>by
   have z':Data.seq its n=Data.cell v:=z;cases z'⟩
 rw[<- lD];obtain⟨m0,w0⟩:=w0;refine uE (fun m s'=>∃ i ys kO H' its n,Inv Y [(D,{ cls:=.type "list",data:=.seq its n })] (kO::zzs) H' s'/\tn i s'.heap/\(∀ b∈fp,H' b=none)/\Vals ys its.toList/\W i m ys H') ?_ m0
  ⟨0,[],none,H₂,_,_,Jv I4 gJ (fO D _ mz),T.keep 0 _ _ st (fun b _ o e=>fO b o e),fun b hb=>(f2 b hb).1,.nil,w0⟩
 rintro m s' ⟨i,ys,kO,H',its,n,J',st',fr',rv,w'⟩;obtain⟨hle,hW'⟩:=hW i m ys H' w';have hDn:H' D=none:=(J'.pin (D,{ cls:=.type "list",data:=.seq its n }) (by simp)).2.1;have fpn:∀ p∈[((D,{ cls:=.type "list",data:=.seq its n }):Addr×Obj)],p.1∉fp:=fun p hp=>by
  have:p=(D,{ cls:=.type "list",data:=.seq its n }):=by simpa using hp
  subst this;exact Dfp
 rcases hW' with⟨stop,hf⟩|⟨go,step⟩
 ·
  have h9:=T.done Y jr Yw YK Yc i _ s' (kO::zzs) H' (fun _ _=>False) J' (fpY fr' fpn) st' stop;rw[YA] at h9;refine thn h9 fun r s5 zzy=>?_
  obtain⟨hr,J5⟩:=zzy;subst hr;show RR (.ref D) s₃.heap.objs.size (.ok .next) s5;have eD:=(J5.pin (D,{ cls:=.type "list",data:=.seq its n }) (by simp)).1;have un:Un (frs X.stack) (D::fp) H₂ H' s₃.heap s5.heap:=by
   have:=J5.base;rw[Yfs,Yex,YH0,Ys0] at this;exact this
  have U0:HOk X.prog X.w H' s5.heap:=by
   have:=J5.hok;rw[jr,Yw] at this;exact this
  have os5:s5.os=s₃.os:=by have:=J5.os;rw[Ys0] at this;exact this
  have I5:Inv X pins zzs H' s5:=I3.call' os5 un U0 J5.bare fun b hb=>by
   rcases bW.mp hb with e|hb
   ·subst e;exact⟨fD.2.2.2.1,fD.2.1,fD.2.2.2.2.1,fD.2.2.2.2.2⟩
   ·obtain⟨g0,g1,g2,g3,g4,g5⟩:=f2 b hb;exact⟨g3,g1,g4,g5⟩
  have I6:Inv X pins zzs (upd H' D (.lst ys)) s5:=I5.track hDn h0D fD.2.1 fD.2.2.2.2.1 fD.2.2.2.2.2 ⟨hle,its.toList,n,rv,by simpa using eD⟩;obtain⟨mC,hnC,_⟩:=J5.loc;have eL:Y.env.locals=s₃.heap.objs.size:=by rw[lD];rfl
  have hCn:H' s₃.heap.objs.size=none:=by have:=J5.free;rw[eL] at this;exact this
  refine hRR D s₃.heap.objs.size ys H' s5 hDn hf I6 ?_ ⟨mC,by rw[<- eL];exact hnC⟩;exact I3.Cu (bK _) (by rw[bF (xG (bD mz))];exact hCn)
 ·
  have h9:=T.item Y jr Yw YK Yc i _ s' (kO::zzs) H' (fun _ _=>False) J' (fpY fr' fpn) st' go;rw[YA] at h9;refine thn h9 fun r s5 zzy=>?_
  obtain⟨u,hr,h5⟩:=zzy;subst hr;refine thn h5 fun _ s6 zzy=>?_
  obtain⟨v,H6,J6,rv6,y6,st6,fr6⟩:=zzy;have a2m:H6 D=none:=(J6.pin (D,{ cls:=.type "list",data:=.seq its n }) (by simp)).2.1;have J6':=J6.pinned (fp:=fp) (fpY fr6 fpn) (T.obj _ _ st6);have hst:=step v H6 y6;refine Hs ?_;have a0n:∀ Q',(∀ s7,Inv Y ([(D,{ cls:=.type "list",data:=.seq its n })]++jN fp s6.heap) (some v::zzs) H6 s7->Q' () s7)->wpAny (model X.prog X.w) X.A (storeName Y.env x u) Q' (fun _ _=>False) s6:=fun Q' hQ'=>
   nP (i:=0) (zzs:=kO::zzs) J6' YN Y0 (.inl Yx) rv6 (fun s7 J7=>hQ' s7 J7) (.inr Yx)
  refine a0n _ fun s7 J7=>?_
  have h10:=TY _ s7 (some v::zzs) H6 _ J7 hst;rw[jr,Yw,YA,Yxe] at h10;refine thn h10 fun b s8 zzy=>?_
  obtain⟨H8,J8,q8⟩:=zzy;have again:∀ {s9:Shared} {H9:Hp} {ys':List V} {its':Array Value} {n':Nat},Inv Y [] (some v::zzs) H9 s9->(∀ b∈fp,H9 b=none/\∀ o,s6.heap.get? b=some o->s9.heap.get? b=some o)->H9 D=none ->
    s9.heap.get? D=some { cls:=.type "list",data:=.seq its' n' }->Vals ys' its'.toList->(∃ m',m'<m/\W (i+1) m' ys' H9) ->
    ∃ m',m'<m/\∃ i ys kO H' its n,Inv Y [(D,{ cls:=.type "list",data:=.seq its n })] (kO::zzs) H' s9/\tn i s9.heap/\(∀ b∈fp,H' b=none)/\Vals ys its.toList/\W i m' ys H':=fun {s9 H9 ys' its' n'} J9 Jb hD9 eD9 rv9 hw9=>by
   obtain⟨m',hm,w9⟩:=hw9;exact⟨m',hm,i+1,ys',some v,H9,its',n',Jv J9 hD9 eD9,T.keep _ _ _ st6 (fun b hb o e=>(Jb b hb).2 o e),fun b hb=>(Jb b hb).1,rv9,w9⟩
  have Jw:∀ {rz:St} {H9:Hp} {s9:Shared},Inv Y ([(D,{ cls:=.type "list",data:=.seq its n })]++jN fp s6.heap) rz H9 s9->∀ b∈fp,H9 b=none/\∀ o,s6.heap.get? b=some o->s9.heap.get? b=some o:=fun {rz H9 s9} J9 b hb=>by
   obtain⟨o,eo,_⟩:=T.obj _ _ st6 b hb;have p:=J9.pin (b,o) (gn _ (gn _ (lJ hb eo)));exact⟨p.2.1,fun o' e'=>by rw[eo] at e';cases e';exact p.1⟩
  have Jx:∀ {rz:St} {H9:Hp} {s9:Shared},Inv Y ([(D,{ cls:=.type "list",data:=.seq its n })]++jN fp s6.heap) rz H9 s9->s9.heap.get? D=some { cls:=.type "list",data:=.seq its n }/\H9 D=none:=fun {rz H9 s9} J9=>by
   have p:=J9.pin (D,{ cls:=.type "list",data:=.seq its n }) (gn _ (jj _ (by simp)));exact⟨p.1,p.2.1⟩
  cases b with
  |false=>
   show ∃ m',m'<m/\_;have q8':∃ m',m'<m/\W (i+1) m' ys H8:=q8;obtain⟨eD8,hD8⟩:=Jx J8;exact again (J8.jf fun p hp=>absurd hp (by simp)) (Jw J8) hD8 eD8 rv q8'
  |true=>
   show wpAny _ _ _ _ _ _;have q8':te (some v::zzs) H8 fun y H3=>∃ m',m'<m/\W (i+1) m' (ys++[y]) H3:=q8
   have h11:=he' _ s8 (some v::zzs) H8 _ J8 q8';rw[jr,Yw,YA,Yxe] at h11;refine thn h11 fun yv s9 zzy=>?_
   obtain⟨y,H9,J9,ry,q9⟩:=zzy;obtain⟨eD9,hD9⟩:=Jx J9;have hz:its.size<=sizeLine:=by have:=rv.length;simp only[jk] at this;lia
   refine MN (hsz:=hz) ⟨n,eD9⟩ fun h' hl' hsb'=>?_
   obtain⟨n',eD'⟩:=hl';have J9':Inv Y [] (some v::zzs) H9 s9:=J9.jf fun p hp=>absurd hp (by simp)
   obtain⟨g0,g1,g2,g3,g4,g5⟩:=DY hD9;have J10:Inv Y [] (some v::zzs) H9 { s9 with heap:=h' }:=J9'.turned (t':=s9.toks) (fun b o hb e=>Heap.SameBut.keeps hsb' hb e) g0 g1 g3 g4 g5;refine again J10 (fun b hb=>?_) hD9 eD' (by simpa using rv.append (Vals.Tc ry)) q9;have p9:=Jw J9 b hb;exact⟨p9.1,fun o e=>Heap.SameBut.keeps hsb' (fun z=>Dfp (z▸hb)) (p9.2 o e)⟩
theorem Dq{x:Str}{px pos:Pos}{scope:Scope}{elt iter:Expr}{ifs:List Expr}{tc:TT}{te:TE}{pins:List (Addr×Obj)}{zzs:St}{H₂:Hp}{s₂:Shared}{it:Addr}{fp:List Addr}{tn:Nat->Heap->Prop}{J:It}{fin:List V->Hp->Prop}
  {W:Nat->Nat->List V->Hp->Prop} {RR:Value->Addr->Result->Shared->Prop} {E:Value->Shared->Prop}
  (ok:vG scope X.env.scope X.N x) (hc:X.calm=true) (hif:∀ s H ex,tG (dX X x scope s H ex) ifs tc) (he:∀ s H ex,PE (dX X x scope s H ex) elt te)
  (I2:Inv X pins zzs H₂ s₂) (T:Turn X.prog X.w X.K (.Name x px) J fp it tn) (st:tn 0 s₂.heap) (f2:∀ b∈fp,iR X pins H₂ b) (w0:∃ m,W 0 m [] H₂) (hW:m9 J tc te zzs fin W)
  (hRR:∀ D C ys H' s',H' D=none->fin ys H'->Inv X pins zzs (upd H' D (.lst ys)) s'->iR X pins (upd H' D (.lst ys)) C->(∃ m,s'.heap.Ns C m)->RR (.ref D) C (.ok .next) s') :
  wpAny (model X.prog X.w) X.A (newList []) (fun acc s₃=>wpAny (model X.prog X.w) X.A (newFunctionEnv scope X.env.globals (bR scope.names X.env.cells []) [] X.env.qual none .none (some X.env)) (fun cenv s₄=>
   codeAny (model X.prog X.w) X.A (.compStart (.ListComp elt [⟨.Name x px,iter,ifs,0⟩] scope pos) 0 (.ref it) acc { cenv with scope:=relabel scope X.env }) (RR acc cenv.locals) s₄) E s₃) E s₂:=by
 refine wW (Ng ok.wC (by intro y hy;simp at hy) (fun h₁ hns₁ hsb₁=>?_) ok.kind);have I3:Inv X pins zzs H₂ { s₂ with heap:=s₂.heap.push { cls:=.type "list",dict:=none,data:=.seq ([]:List Value).toArray } }:=I2.kept (t':=s₂.toks) fun b o e=>fu _ e
 have fO:∀ b o,(s₂.heap.push { cls:=.type "list",dict:=none,data:=.seq ([]:List Value).toArray }).get? b=some o->h₁.get? b=some o:=fun b o e=>Heap.SameBut.keeps hsb₁ (dO (bD e)) (fu _ e)
 have qt:∀ b o,s₂.heap.get? b=some o->(s₂.heap.push { cls:=.type "list",dict:=none,data:=.seq ([]:List Value).toArray }).get? b=some o:=fun b o e=>fu _ e
 have gJ:H₂ s₂.heap.objs.size=none:=I2.hok.fresh (bK _);have loop:=QF (RR:=RR) (s₃:={ s₂ with heap:=s₂.heap.push { cls:=.type "list",dict:=none,data:=.seq ([]:List Value).toArray } }) (h₁:=h₁) (tk:=s₂.toks+([]:List (Str×Value)).length) (iter:=iter) (pos:=pos)
  ok hc hif he I3 T (T.keep 0 _ _ st fun b _ o e=>qt b o e) f2 w0 hW gJ (I2.Cu (bK _) gJ) I2.sz (iu _ rfl) (fun hb=>by
   obtain⟨o,e,_⟩:=T.obj 0 _ st _ hb;exact kh _ (bD e)) (by simpa using hns₁) fO hRR
 exact N5 loop (T.self _ 0 _ _ _ (T.keep 0 _ _ st fun b _ o e=>fO b o (qt b o e)) loop)
def ZW(wi:TI)(tc:TT)(te:TE):TE:=fun zzs H Q=>wi zzs H fun J H1=>∃ W:Nat->Nat->List V->Hp->Prop,(∃ m,W 0 m [] H1)/\m9 J tc te zzs (fun ys H2=>∀ p,H2 p=none->Q (.ref p) (upd H2 p (.lst ys))) W
theorem Yy{x:Str}{px pos:Pos}{scope:Scope}{elt iter:Expr}{ifs:List Expr}{wi:TI}{tc:TT}{te:TE}(ok:tM scope X.env.scope X.N x=true)(hc:X.calm=true)(hi:PI X (.Name x px) iter wi)
  (hif:∀ s H ex,tG (dX X x scope s H ex) ifs tc) (he:∀ s H ex,PE (dX X x scope s H ex) elt te) (hs:∀ v,foldedSetIterable iter X.env v=pure v:=by intro _;rfl) :
  PE X (.ListComp elt [⟨.Name x px,iter,ifs,0⟩] scope pos) (ZW wi tc te):=by
 intro pins s zzs H Q I h;have ok':=tO ok;have hfree:∀ y∈scope.names,y.2=.free->∃ c,X.env.cells.lookup y.1=some c:=fun y hy e=>I.ok.has y.1 (ok'.free y hy e)
 rw[eval_ListComp];refine Gx (use:=none) rfl hs (oF hfree) ok'.kind ok'.names (thn (hi pins s zzs H _ I h) fun v s1 h1=>thn h1 fun itv s2 h2=>?_);obtain⟨it,fp,tn,J,H2,e,I2,T,st2,f2,W,w0,hW⟩:=h2;subst e;refine Dq (RR:=fun acc C=>compPost (model X.prog X.w) X.A X.xe none (EP X pins zzs Q) acc C) ok' hc hif he I2 T st2 f2 w0 hW fun D C ys H' s' hD fin I' fC hm=>?_
 obtain⟨m,hm⟩:=hm;refine⟨m,hm,fun h' hsb=>?_⟩;obtain⟨g0,g1,g2,g3,g4,g5⟩:=fC;exact⟨.ref D,_,I'.turned (t':=s'.toks) (fun b o hb e=>Heap.SameBut.keeps hsb hb e) g0 g1 g3 g4 g5,rfl,fin D hD⟩
def W8(i:Nat)(wi:TI)(tc:TT)(te:TE):TS:=fun D zzs H=>wi zzs H fun J H1=>∃ W:Nat->Nat->List V->Hp->Prop,(∃ m,W 0 m [] H1)/\m9 J tc te zzs (fun ys H2=>∀ p,H2 p=none->D.nx (zzs.set i (some (.ref p))) (upd H2 p (.lst ys))) W
theorem YQ{i:Nat}{y x:Str}{py px pos spos:Pos}{scope:Scope}{elt iter:Expr}{ifs:List Expr}{wi:TI}{tc:TT}{te:TE}(hN:X.N.Nodup)(hiy:X.N[i]?=some y)(hy:X.env.scope.names.lookup y=some .local)
  (ok:tM scope X.env.scope X.N x=true) (hc:X.calm=true) (hi:PI X (.Name x px) iter wi)
  (hif:∀ s H ex,tG (dX X x scope s H ex) ifs tc) (he:∀ s H ex,PE (dX X x scope s H ex) elt te)
  (hsw:swapsWith (.ListComp elt [⟨.Name x px,iter,ifs,0⟩] scope pos) (some (.Name y py)) spos.line X.env=pure true:=by rfl) (hs:∀ v,foldedSetIterable iter X.env v=pure v:=by intro _;rfl) :
  PS X (.Assign [.Name y py] (.ListComp elt [⟨.Name x px,iter,ifs,0⟩] scope pos) spos) (W8 i wi tc te):=by
 intro pins s zzs H Dn I h;have ok':=tO ok;have hfree:∀ y∈scope.names,y.2=.free->∃ c,X.env.cells.lookup y.1=some c:=fun y hy e=>I.ok.has y.1 (ok'.free y hy e)
 rw[exec_Assign_Name_used _ _ _ _ hsw];refine aO (BK (aO ?_));show wpAny _ X.A (do let _ <- comprehension (.ListComp elt [⟨.Name x px,iter,ifs,0⟩] scope pos) scope X.env _ (newList []) false (eval iter X.env) (some (assign (.Name y py) X.env))) _ _ s;refine aO (fX (Gx (use:=some (assign (.Name y py) X.env)) (Q:=fun _ s'=>SP X pins Dn .next s') rfl hs (oF hfree) ok'.kind ok'.names
  (thn (hi pins s zzs H _ I h) fun v s1 h1=>thn h1 fun itv s2 h2=>?_)) (fun _ s' hq=>cF (cF hq)) fun _ _ e=>e)
 obtain⟨it,fp,tn,J,H2,e,I2,T,st2,f2,W,w0,hW⟩:=h2;subst e;refine Dq (RR:=fun acc C=>compPost (model X.prog X.w) X.A X.xe (some (assign (.Name y py) X.env)) (fun _ s'=>SP X pins Dn .next s') acc C) ok' hc hif he I2 T st2 f2 w0 hW fun D C ys H' s' hD fin I' fC hm=>?_
 obtain⟨m,hm⟩:=hm;show wpAny _ X.A (assign (.Name y py) X.env (.ref D)) _ _ _;obtain⟨g0,g1,g2,g3,g4,g5⟩:=fC;refine Hs (En (i:=i) (v:=.ref D) I' hN hiy (.inl hy) rfl (fun s'' I'' hch=>?_) (.inr hy));obtain⟨a,hsb,ha⟩:=hch;have hCa:C≠a:=by
  rcases ha with z|z
  ·rw[z];exact g1
  ·exact fun z'=>g4 _ _ z z'.symm
 refine⟨m,hm.sameBut hsb hCa,fun h' hsb'=>?_⟩;exact⟨_,_,I''.turned (t':=s''.toks) (fun b o hb e=>Heap.SameBut.keeps hsb' hb e) g0 g1 g3 g4 g5,fin D hD⟩
end
theorem gG.there{P:Program}{w:World}{H:Hp}{h:Heap}{a:Addr}{o:HO}(x:gG P w H h a o):∃ ob,h.get? a=some ob:=by
 cases o with
 |lst xs=>obtain⟨_,_,_,_,e⟩:=x;exact⟨_,e⟩
 |tup xs=>obtain⟨_,_,_,ob,e,_⟩:=x;exact⟨_,e⟩
 |dK kvs=>obtain⟨_,_,_,_,o,_,_,e,_⟩:=x;exact⟨_,e⟩
 |dT kvs=>obtain⟨_,_,_,_,o,_,_,e,_⟩:=x;exact⟨_,e⟩
 |set S n=>obtain⟨o,_,_,_,e,_⟩:=x;exact⟨_,e⟩
 |ins C dx fs=>obtain⟨_,_,_,e,_⟩:=x;exact⟨_,e⟩
 |own y=>obtain⟨_,e⟩:=x;exact⟨_,e⟩
 |xd fs=>obtain⟨_,⟨_,_,_,e,_⟩,_⟩:=x;exact⟨_,e⟩
 |rng lo hi=>obtain⟨_,_,_,e⟩:=x;exact⟨_,e⟩
 |frz ob u=>obtain⟨e,_⟩:=x;exact⟨_,e⟩
 |tbl ps=>exact⟨_,show h.get? a=some _ from x⟩
 |met f y=>exact⟨_,show h.get? a=some _ from x⟩
 |ext φ=>obtain⟨_,e,_⟩:=x;exact e
structure Fly(outer:List Env)(H':Hp)(h0:Heap)(ea C:Addr)(h:Heap):Prop where
 free:H' ea=none
 new:h0.get? ea=none
 fl:∃(B:Heap)(t:Addr),Heap.FlyingW B outer ea (.ref C) (.ref t) h/\∀ b o,h.get? b=some o->(H' b≠none\/∃ o',h0.get? b=some o')->b∉frs outer->B.get? b=some o
def CXE(P:Program)(w:World):CXT:=fun outer H s E e s'=>∃ ea C H',e=.ref ea/\s'.os=s.os/\AllBare s'.gens/\Un (frs outer) [] H H' s.heap s'.heap/\HOk P w H' s'.heap/\Fly outer H' s.heap ea C s'.heap/\E (.ref C) none H'
section
variable{P:Program}{w:World}{K:ao}{mg:Str->Option Value}{base:Heap}{N:List Str}{qual:Str}{scope:Scope}{f:Addr}{cd:Value}{A:Around}{outer:List Env}{s0:Shared}{H0:Hp}{E:XK}
theorem Vn{pins:List (Addr×Obj)}{zzs:St}{H:Hp}{s:Shared}{h':Heap}{e C:Addr}{vs:List Value}(I:Inv (pO (CXE P w) P w K mg base N qual scope f cd A outer s0 H0 E) pins zzs H s)
  (hx:Heap.MadeExcOf s.heap h' e (.ref C) vs) (hE:E (.ref C) none H):(pO (CXE P w) P w K mg base N qual scope f cd A outer s0 H0 E).xe (.ref e) { s with heap:=h' }:=by
 have a0m:∀ b,b∈frs (envOfC qual scope s0.heap.objs.size f cd::outer)->b=s0.heap.objs.size\/b∈frs outer:=fun b hb=>bW.mp (I.jA b hb)
 have hB:∀ b o,s.heap.get? b=some o->b∉frs (envOfC qual scope s0.heap.objs.size f cd::outer)->(PySem.W.hideAll s.heap (frs (envOfC qual scope s0.heap.objs.size f cd::outer))).get? b=some o:=fun b o e n=>WY _ e n
 show wpAny (model P w) (A.deeper (envOfC qual scope s0.heap.objs.size f cd)) (leaving (envOfC qual scope s0.heap.objs.size f cd) (.ref e)) (fun _ s''=>CXE P w outer H0 s0 E (.ref e) s'') (fun e' s''=>CXE P w outer H0 s0 E e' s'') { s with heap:=h' };refine wpAny_leaves_madeW (base:=PySem.W.hideAll s.heap (frs (envOfC qual scope s0.heap.objs.size f cd::outer))) (h:=s.heap) I.ok.frames rfl (fun b o q=>X8 _ q)
  (PySem.W.funFrames_hide I.stack fun env he a ha=>wV.mpr ⟨env,he,ha⟩) hx fun h'' t fl _ _ sm=>?_
 have new:s.heap.get? e=none:=hx.new;have sm':s.heap.UpToSlots h'':=(Heap.UpToSlots.of_keeps hx.keeps).trans sm;have stays:=fl.1;have gV:∀ b o,s.heap.get? b=some o->b∉frs (envOfC qual scope s0.heap.objs.size f cd::outer)->h''.get? b=some o:=fun b o q n=>stays b o (hB b o q n)
 have Rj:∀ b o,s0.heap.get? b=some o->b∉frs outer->b∉frs (envOfC qual scope s0.heap.objs.size f cd::outer):=fun b o q n hb=>by
  rcases a0m b hb with z|z
  ·exact dO (bD q) z
  ·exact n z
 have trk:∀ b u,H b=some u->b∉frs (envOfC qual scope s0.heap.objs.size f cd::outer):=fun b u q hb=>by
  have:=I.rT b hb;rw[q] at this;cases this
 have Mr:∀ b o,s0.heap.get? b=some o->∃ o',s.heap.get? b=some o':=fun b o q=>I.base.there b o q (by show b∉[];simp)
 refine⟨e,C,H,rfl,I.os,I.bare,⟨fun b o q n hb _=>?_,fun b o q n hb _=>?_,fun b o q n hx'=>I.base.free b o q n (by show b∉[];simp),fun b o q _=>?_,I.base.tups,I.base.pQ,I.base.qR⟩,fun a o q=>?_,⟨?_,?_,?_⟩,hE⟩
 ·exact gV b o (I.base.keep b o q n hb (by show b∉[];simp)) (Rj b o q hb)
 ·obtain⟨sl,e1⟩:=I.base.slot b o q n hb (by show b∉[];simp);obtain⟨_,o',ho',hd⟩:=I.uK.mem hb;rw[e1] at ho';cases ho';obtain⟨sl',e2⟩:=sm' b _ e1 hd;exact⟨sl',e2⟩
 ·obtain⟨o',e1⟩:=Mr b o q;by_cases hb:b∈frs (envOfC qual scope s0.heap.objs.size f cd::outer)
  ·obtain⟨_,o2,ho2,hd⟩:=I.stack.mem hb;obtain⟨sl',e2⟩:=sm' b _ ho2 hd;exact⟨_,e2⟩
  ·exact⟨o',gV b o' e1 hb⟩
 ·refine(I.hok a o q).stay (fun b u hb z=>gV b u z ?_) (fun _ z=>z) fun _ _ z=>z
  rcases hb with rfl|hb
  ·exact trk b o q
  ·exact trk b _ hb
 ·cases q:H e with
  |none=>rfl
  |some o=>
   obtain⟨ob,z⟩:=(I.hok e o q).there;rw[new] at z;cases z
 ·cases q:s0.heap.get? e with
  |none=>rfl
  |some o=>
   obtain⟨ob,z⟩:=Mr e o q;rw[new] at z;cases z
 ·refine⟨_,t,fl,fun b o q hb n=>?_⟩;have key:∃ o',s.heap.get? b=some o'/\b∉frs (envOfC qual scope s0.heap.objs.size f cd::outer):=by
   rcases hb with z|⟨o',z⟩
   ·cases r:H b with
    |none=>exact absurd r z
    |some u=>
     obtain⟨ob,y⟩:=(I.hok b u r).there;exact⟨ob,y,trk b u r⟩
   ·obtain⟨o2,y⟩:=Mr b o' z;exact⟨o2,y,Rj b o' z n⟩
  obtain⟨o',y,n'⟩:=key;have:=gV b o' y n';rw[q] at this;cases this;exact hB b o y n'
end
structure jx(K:ao)(C:Addr):Prop where
 ex:PySem.W.excIn K C [.type "ValueError",.type "Exception",.type "BaseException",.type "object"] "ValueError.__new__" = true
theorem jx.obj{K:ao}{C:Addr}(c:jx K C){h:Heap}(X:K.In h):∃ tl N nm q bs hdct sn sub ab col dd k0 k1 k2 k3 k5 mN,h.get? C=some (excClassObj nm q C N bs tl hdct sn sub ab col dd k0 k1 k2 k3 k5 "ValueError.__new__")/\h.Ns N mN/\mN "__init__" = none /\
  OwnTail h [.type "ValueError",.type "Exception",.type "BaseException",.type "object"] tl:=by
 have q:=c.ex;unfold PySem.W.excIn at q;split at q
 ·rename_i dd cd sl ho;split at q
  ·rename_i C' bm k0 k1 k2 k3 n k5 hm hs;simp only[jY,iM,lY] at q;obtain⟨⟨⟨⟨⟨rfl,rfl⟩,hdel⟩,ht⟩,hok⟩,hni⟩:=q;obtain⟨nm,bs,mro,ns,qn,hd,sn,sub,ab,col,del⟩:=cd;dsimp only at hm hdel hok hni;subst hm hdel;have hsl:sl=#[k0,k1,k2,k3,some (.builtin "ValueError.__new__"),k5]:=by
    obtain⟨l⟩:=sl;simp only at hs;rw[hs]
   subst hsl;exact⟨bm,ns,nm,qn,bs,hd,sn,sub,ab,col,dd,k0,k1,k2,k3,k5,_,X _ _ ho,.of_isNs (PySem.W.isNs_of_in X hok),PySem.W.nsMap_none_of_in X hok hni,PySem.W.tail_of_in X ht⟩
  ·cases q
 ·cases q
def Wd(t:TA)(C:Addr)(E:XK):TS:=fun _ zzs H=>t zzs H fun vs H1=>vs.length<=sizeLine/\E (.ref C) none H1
section
variable{P:Program}{w:World}{K:ao}{mg:Str->Option Value}{base:Heap}{N:List Str}{qual:Str}{scope:Scope}{f:Addr}{cd:Value}{A:Around}{outer:List Env}{s0:Shared}{H0:Hp}{E:XK}
theorem Vc{x:Str}{np cpos pos:Pos}{e₀:Expr}{rest:List Expr}{t:TA}{C:Addr}(c:jx K C)(hg:Gl (pO (CXE P w) P w K mg base N qual scope f cd A outer s0 H0 E) x)(hm:mg x=some (.ref C))(hh:A.handled=none)
  (ha:PA (pO (CXE P w) P w K mg base N qual scope f cd A outer s0 H0 E) (e₀::rest) t) (hd:(x==("__debug__" : Str))=false:=by decide)
  (he:starEach (e₀::rest) (envOfC qual scope s0.heap.objs.size f cd)=(false,eval e₀ (envOfC qual scope s0.heap.objs.size f cd))::starEach rest (envOfC qual scope s0.heap.objs.size f cd):=by rfl)
  (hplain:(backTo cpos (starEach rest (envOfC qual scope s0.heap.objs.size f cd))).any (·.1)=false:=by rfl) :
  PS (pO (CXE P w) P w K mg base N qual scope f cd A outer s0 H0 E) (.Raise (some (.Call (.Name x np) (e₀::rest) [] cpos)) none pos) (Wd t C E):=by
 intro pins s zzs H D I h;obtain⟨tl,Na,nm,q,bs,hdct,sn,sub,ab,col,dd,k0,k1,k2,k3,k5,mN,hC,hN,hni,T⟩:=c.obj I.mod.kin;refine wpAny_Raise_call_subU (C:=C) (nm:=nm) (q:=q) (N:=Na) (bs:=bs) (bm:=tl) (hdct:=hdct) (sn:=sn) (sub:=sub) (ab:=ab) (col:=col) (dd:=dd) (k0:=k0) (k1:=k1) (k2:=k2) (k3:=k3) (k5:=k5)
  Gw (by decide) Gw (mN:=mN) (T.hasType Gw.hasBase) hh (by
   show(backTo cpos (starEach (e₀::rest) (envOfC qual scope s0.heap.objs.size f cd))).any (·.1)=false;rw[he];show(false||(backTo cpos (starEach rest (envOfC qual scope s0.heap.objs.size f cd))).any (·.1))=false;rw[hplain];rfl) hni (uN I hg hm ⟨rfl,?_⟩ hd)
 have h2:=ha cpos pins s zzs H _ I h;show wpAny (model P w) _ (evalArgs (.ref C) true (backTo cpos (starEach (e₀::rest) (envOfC qual scope s0.heap.objs.size f cd))) []) _ _ s;have h3:wpAny (model P w) (A.deeper (envOfC qual scope s0.heap.objs.size f cd)) (spliced (backTo cpos (starEach (e₀::rest) (envOfC qual scope s0.heap.objs.size f cd)))) _ _ s:=h2;rw[he] at h3 ⊢;refine Calls.evalArgs_plain (fX h3 (fun vs s₂ h₂=>?_) fun _ _ y=>y);obtain⟨xs,H1,I1,r,hz,hE⟩:=h₂;have keep:∀ b o,base.get? b=some o->s₂.heap.get? b=some o:=I1.bk;exact⟨rfl,by rw[<- r.length];exact hz,keep _ _ hC,hN.keeps keep,T.keeps keep,fun h' e hx=>Vn I1 hx hE⟩
end
section
variable{X:Cx}
def tQ(X:Cx)(ea:Addr):Cx:={ X with A:=X.A.mark (some (.ref ea)),calm:=false,xe:=fun _ _=>False }
theorem Inv.hand{pins:List (Addr×Obj)}{zzs:St}{H:Hp}{s:Shared}(I:Inv X pins zzs H s)(ea:Addr):Inv (tQ X ea) pins zzs H s:=
 ⟨⟨I.ok.mod,I.ok.kind,I.ok.glob,I.ok.blt,I.ok.above,I.ok.inj,I.ok.has,I.ok.cab,fun z=>absurd (show false=true from z) (by decide),I.ok.frames,I.ok.stk,I.ok.exf,I.ok.bs,I.ok.bsz,I.ok.Lk,I.ok.Tr,I.ok.uK,I.ok.frf⟩,
  I.os,I.bare,I.base,I.loc,I.cell,I.free,I.mq,I.pin,I.hok,I.len⟩
theorem Inv.a1O{ea:Addr}{pins:List (Addr×Obj)}{zzs:St}{H:Hp}{s:Shared}(ok:X.Ok)(I:Inv (tQ X ea) pins zzs H s):Inv X pins zzs H s:=
 ⟨ok,I.os,I.bare,I.base,I.loc,I.cell,I.free,I.mq,I.pin,I.hok,I.len⟩
theorem land{pins:List (Addr×Obj)}{zzs:St}{H H':Hp}{s s' s'':Shared}{B:Heap}(I:Inv X pins zzs H s)(os:s'.os=s.os)(un:Un (frs X.stack) [] H H' s.heap s'.heap)(hok:HOk X.prog X.w H' s'.heap)
  (KB:∀ b o,s'.heap.get? b=some o->(H' b≠none\/∃ o',s.heap.get? b=some o')->b∉frs X.stack->B.get? b=some o) (st:B.StaysIn s''.heap) (sm:s'.heap.UpToSlots s''.heap) (Rw:s''.os=s'.os) (bare:AllBare s''.gens):Inv X pins zzs H' s'':=by
 have fr:∀ b∈frs X.stack,∃ o sl,s.heap.get? b=some o/\(∀ vs,o.data≠.fields vs)/\H b=none/\s'.heap.get? b=some { o with slots:=sl }/\H' b=none:=fun b hb=>by
  obtain⟨_,o,ho,hd⟩:=I.stack.mem hb;have hn:=I.rT b hb;obtain⟨sl,e⟩:=un.slot b o ho hn hb (by simp);exact⟨o,sl,ho,hd,hn,e,un.free b o ho hn (by simp)⟩
 refine I.call' (Rw.trans os) (ch:=[]) ⟨fun b o e n hb hx=>?_,fun b o e n hb hx=>?_,un.free,fun b o e hx=>?_,un.tups,un.pQ,un.qR⟩ (fun a o e=>?_) bare (fun b hb=>absurd hb (by simp))
 ·exact st b o (KB b o (un.keep b o e n hb hx) (.inr ⟨o,e⟩) hb)
 ·obtain⟨o1,sl,e1,hd,_,e2,_⟩:=fr b hb;rw[e] at e1;cases e1;obtain⟨sl',e3⟩:=sm b _ e2 hd;exact⟨sl',e3⟩
 ·by_cases hb:b∈frs X.stack
  ·obtain⟨o1,sl,e1,hd,_,e2,_⟩:=fr b hb;obtain⟨sl',e3⟩:=sm b _ e2 hd;exact⟨_,e3⟩
  ·obtain⟨o',e1⟩:=un.there b o e hx;exact⟨o',st b o' (KB b o' e1 (.inr ⟨o,e⟩) hb)⟩
 ·have nf:∀ b u,H' b=some u->b∉frs X.stack:=fun b u q hb=>by
   obtain⟨_,_,_,_,_,_,z⟩:=fr b hb;rw[q] at z;cases z
  refine(hok a o e).stay (fun b u hb q=>?_) (fun _ q=>q) fun _ _ q=>q
  rcases hb with rfl|hb
  ·exact st b u (KB b u q (.inl (by rw[e];simp)) (nf b o e))
  ·exact st b u (KB b u q (.inl (by rw[hb];simp)) (nf b _ hb))
structure Air(X:Cx)(pins:List (Addr×Obj))(zzs:St)(H':Hp)(ea C:Addr)(s'':Shared):Prop where
 ex:∃(H:Hp)(s s':Shared)(B:Heap)(t:Addr),Inv X pins zzs H s/\s'.os=s.os/\Un (frs X.stack) [] H H' s.heap s'.heap/\HOk X.prog X.w H' s'.heap /\
  (∀ b o,s'.heap.get? b=some o->(H' b≠none\/∃ o',s.heap.get? b=some o')->b∉frs X.stack->B.get? b=some o)/\Heap.FlyingW B X.stack ea (.ref C) (.ref t) s''.heap/\s'.heap.UpToSlots s''.heap/\s''.os=s'.os/\AllBare s''.gens/\s.heap.get? ea=none/\H' ea=none
theorem Air.inv{pins:List (Addr×Obj)}{zzs:St}{H':Hp}{ea C:Addr}{s'':Shared}(a:Air X pins zzs H' ea C s''):Inv X pins zzs H' s'':=by
 obtain⟨H,s,s',B,t,I,os,un,hok,KB,fl,sm,Rw,bare,_,_⟩:=a.ex;exact land I os un hok KB fl.1 sm Rw bare
theorem Air.obj{pins:List (Addr×Obj)}{zzs:St}{H':Hp}{ea C:Addr}{s'':Shared}(a:Air X pins zzs H' ea C s''):∃ ob,s''.heap.get? ea=some ob/\ob.cls=.ref C:=by
 obtain⟨H,s,s',B,t,I,os,un,hok,KB,fl,sm,Rw,bare,_,_⟩:=a.ex;exact fl.there
theorem Air.again{pins:List (Addr×Obj)}{zzs:St}{H':Hp}{ea C:Addr}{s'':Shared}{M:Model}{A:Around}{E:Value->Shared->Prop}{Q:Unit->Shared->Prop}(a:Air X pins zzs H' ea C s'')
  (hQ:∀ h',Air X pins zzs H' ea C { s'' with heap:=h' }->Q () { s'' with heap:=h' }):wpAny M A (setFlight (.ref ea) none) Q E s'':=by
 obtain⟨H,s,s',B,t,I,os,un,hok,KB,fl,sm,Rw,bare,n1,n2⟩:=a.ex;exact lands_againW fl fun h' fl' sm'=>hQ h' ⟨H,s,s',B,t,I,os,un,hok,KB,fl',sm.trans sm',Rw,bare,n1,n2⟩
def PH(X:Cx)(hs:List ExceptHandler)(th:Addr->TS):Prop:=
 ∀(pins:List (Addr×Obj))(zzs:St)(H:Hp)(ea C:Addr)(s:Shared)(D:Ends),Air X pins zzs H ea C s->th C D zzs H->wpAny (model X.prog X.w) X.A (handleBy (.ref ea) X.env hs) (SP X pins D) X.xe s
def Ov(K:ao)(C C':Addr):Bool:=match K.lookup C with
 |some ⟨.type "type",_,.cls cd,_⟩=>!(cd.mro.contains (.ref C'))
 |_=>false
theorem a1p:PH X [] (fun _ _ _ _=>False):=fun _ _ _ _ _ _ _ _ h=>h.elim
end
def Its(z:Str):It:=⟨fun i _=>i<z.cps.size,fun i H x H'=>H'=H/\∃ c,z.cps[i]?=some c/\x=.str ⟨#[c]⟩,fun i _=>z.cps.size<=i⟩
theorem Sd{P:Program}{w:World}{K:ao}{tg:Expr}(z:Str)(t:Tok)(it:Addr):Turn P w K tg (Its z) [it] it (fun i h=>h.IsStrIter it "str_ascii_iterator" z t i) where
 mem:=by simp
 obj:=fun i h st b hb=>by
  have e:b=it:=by simpa using hb
  subst e;obtain⟨o,e,c,d⟩:=st;exact⟨o,e,fun v q=>by rw[d] at q;cases q⟩
 keep:=fun i h h' st k=>by
  obtain⟨o,e,c,d⟩:=st;exact⟨o,k it (by simp) o e,c,d⟩
 item:=by
  intro X hP hw hK hc i pins s zzs H E I hf st hg;subst hP hw hK;obtain⟨f0,f1,f2,f3,f4,f5⟩:=hf it (by simp);have hgi:i<z.cps.size:=hg;refine wpAny_pyNext_ascii_item st (c:=z.cps[i]) (by simp[hgi]) fun h' st' sb=>?_
  have I1:Inv X pins zzs H { s with heap:=h',toks:=s.toks+1 }:=I.turned (fun b o hb e=>(sb.2 b hb).trans e) f0 f1 f3 f4 f5;obtain⟨o,e,c,d⟩:=id st';exact⟨_,rfl,OJ (s:={ s with heap:=h',toks:=s.toks+1 }) e c d (by decide) ⟨.str ⟨#[z.cps[i]]⟩,H,I1,⟨_,rfl⟩,⟨rfl,z.cps[i],by simp[hgi],rfl⟩,st',fun b hb=>(hf b hb).1⟩⟩
 done:=by
  intro X hP hw hK hc i pins s zzs H E I hf st hg;subst hP hw hK;obtain⟨f0,f1,f2,f3,f4,f5⟩:=hf it (by simp);have hgi:z.cps.size<=i:=hg;exact wpAny_pyNext_ascii_end (I.ok.hd hc) st (by simp[hgi]) fun h' eb=>⟨rfl,I.turned (t':=s.toks) (fun b o hb e=>eb b o hb e) f0 f1 f3 f4 f5⟩
 self:=fun _ _ _ _ _ st h=>wpAny_pyIter_striter_ascii st h
theorem Sg{P:Program}{w:World}{K:ao}{tg:Expr}(z:Str)(t:Tok)(it:Addr):Turn P w K tg (Its z) [it] it (fun i h=>h.IsStrIter it "str_iterator" z t i) where
 mem:=by simp
 obj:=fun i h st b hb=>by
  have e:b=it:=by simpa using hb
  subst e;obtain⟨o,e,c,d⟩:=st;exact⟨o,e,fun v q=>by rw[d] at q;cases q⟩
 keep:=fun i h h' st k=>by
  obtain⟨o,e,c,d⟩:=st;exact⟨o,k it (by simp) o e,c,d⟩
 item:=by
  intro X hP hw hK hc i pins s zzs H E I hf st hg;subst hP hw hK;obtain⟨f0,f1,f2,f3,f4,f5⟩:=hf it (by simp);have hgi:i<z.cps.size:=hg;refine wpAny_pyNext_wide_item st (c:=z.cps[i]) (by simp[hgi]) fun h' st' sb=>?_
  have I1:Inv X pins zzs H { s with heap:=h',toks:=s.toks+1 }:=I.turned (fun b o hb e=>(sb.2 b hb).trans e) f0 f1 f3 f4 f5;obtain⟨o,e,c,d⟩:=id st';exact⟨_,rfl,OJ (s:={ s with heap:=h',toks:=s.toks+1 }) e c d (by decide) ⟨.str ⟨#[z.cps[i]]⟩,H,I1,⟨_,rfl⟩,⟨rfl,z.cps[i],by simp[hgi],rfl⟩,st',fun b hb=>(hf b hb).1⟩⟩
 done:=by
  intro X hP hw hK hc i pins s zzs H E I hf st hg;subst hP hw hK;obtain⟨f0,f1,f2,f3,f4,f5⟩:=hf it (by simp);have hgi:z.cps.size<=i:=hg;exact wpAny_pyNext_wide_end (I.ok.hd hc) st (by simp[hgi]) fun h' eb=>⟨rfl,I.turned (t':=s.toks) (fun b o hb e=>eb b o hb e) f0 f1 f3 f4 f5⟩
 self:=fun _ _ _ _ _ st h=>wpAny_pyIter_striter_wide st h
section
variable{X:Cx}{tg:Expr}
def a2q(te:TE):TI:=fun zzs H R=>te zzs H fun x H1=>∃ z,x=.str z/\R (Its z) H1
theorem a1q{l:Expr}{te:TE}(hl:PE X l te):PI X tg l (a2q te):=by
 intro pins s zzs H R I h;refine thn (hl pins s zzs H _ I h) fun v s1 zzy=>?_
 obtain⟨x,H1,I1,r1,q1⟩:=zzy;obtain⟨z,e,q⟩:=q1;subst e;obtain⟨t,rfl⟩:=r1;have fp:∀ b∈[s1.heap.objs.size],iR X pins H1 b:=fun b hb=>by
  have e:b=s1.heap.objs.size:=by simpa using hb
  subst e;exact I1.Cu (bK _) (I1.hok.fresh (bK _))
 cases ha:z.cps.all (·<128)
 ·exact wpAny_pyIter_wide ha ⟨s1.heap.objs.size,[s1.heap.objs.size],_,_,H1,rfl,I1.kept (t':=s1.toks) fun b o e=>fu _ e,Sg z t _,⟨_,iu _ rfl,rfl,rfl⟩,fp,q⟩
 ·exact wpAny_pyIter_ascii ha ⟨s1.heap.objs.size,[s1.heap.objs.size],_,_,H1,rfl,I1.kept (t':=s1.toks) fun b o e=>fu _ e,Sd z t _,⟨_,iu _ rfl,rfl,rfl⟩,fp,q⟩
def a2T:V->Option Int->Option Int->Hp->VK->Prop:=fun x lo hi H Q=>∃ z,x=.str z/\z.length<=sizeLine/\Q (.str (Txt.slice z lo hi)) H
theorem zX{u:Value}{o:Option Int}(p:IsPart u o):∃ l:Option (Int×Tok),u=partValue l/\o=l.map (·.1):=by
 cases p with
 |none=>exact⟨none,rfl,rfl⟩
 |int i t=>exact⟨some (i,t),rfl,rfl⟩
theorem a1H:SlR X a2T:=by
 intro pins s zzs H x v vl vu lo hi sl Q I rx hs pl pu h;obtain⟨z,rfl,hz,q⟩:=h;obtain⟨t,rfl⟩:=rx;obtain⟨l,rfl,rfl⟩:=zX pl;obtain⟨u,rfl,rfl⟩:=zX pu;refine⟨"str",_,F.slot_str_getitem.lookup,typeIs_str _ _ _,wpAny_getItem_str_slice (l:=l) (u:=u) (st:=none) hs rfl ?_⟩;exact post_val_or_str ⟨cO (Txt.slice_le z _ _) hz,fun t' k=>⟨.str _,H,I.tok _,⟨_,rfl⟩,q⟩⟩
def a1B(z:Str)(n:Int):Str:=if n<1 then Str.empty else if(n==1||z.length==0)=true then z else⟨(List.replicate n.toNat z.cps).foldl (·++·) #[]⟩
theorem Ly:OpR X (binaryOp .Mult) (fun x y H Q=>∃ z n,x=.str z/\y=.int n/\z.length<=1000 /\ -1000<=n/\n<=1000/\Q (.str (a1B z n)) H):=by
 intro pins s zzs H x y v u Q I rx ry h;obtain⟨z,n,rfl,rfl,hz,h1,h2,q⟩:=h;obtain⟨t,rfl⟩:=rx;obtain⟨t',rfl⟩:=ry;refine P.mul_str (by rw[bV (by lia),bV (by lia)];rfl) (fun hn _=>?_) (fun hn _=>?_) ?_
 ·have:(1000:Int)<=(2^63-1) / n:=by
   rw[Int.le_ediv_iff_mul_le (by lia)];lia
  lia
 ·have:z.length*n.toNat<=1000*1000:=jZ hz (by lia);show decide (z.length*n.toNat>sizeLine)=false;rw[mZ];exact bV (by lia)
 ·unfold a1B at q;by_cases h3:n<1
  ·rw[aK h3] at q ⊢;exact⟨by decide,⟨.str _,H,I.tok _,⟨_,rfl⟩,q⟩⟩
  ·rw[aJ h3] at q ⊢;by_cases h4:(n==1||z.length==0)=true
   ·rw[aK h4] at q ⊢;exact⟨.str _,H,I,⟨_,rfl⟩,q⟩
   ·rw[aJ h4] at q ⊢;refine⟨?_,⟨.str _,H,I.tok _,⟨_,rfl⟩,q⟩⟩;have e:∀(k:Nat)(acc:Array Nat),((List.replicate k z.cps).foldl (·++·) acc).size=acc.size+k*z.cps.size:=by
     intro k
     induction k with
     |zero=>intro acc;simp
     |succ k ih=>
      intro acc;rw[yC,vC,ih,Array.size_append,Nat.add_mul,Nat.one_mul];lia
    have e2:=e n.toNat #[];have hz':z.cps.size<=1000:=hz;have:n.toNat*z.cps.size<=1000*1000:=jZ (by lia) hz';show((List.replicate n.toNat z.cps).foldl (·++·) #[]).size<=sizeLine;rw[e2,mZ];simp only[cN,wZ];lia
theorem SN(hc:X.calm=true):fB X (.builtin "all") (fun xs H Q=>∃(p:Addr)(bs:List Bool),xs=[.ref p]/\SqL X.K H p (bs.map V.bl)/\Q (.bl (bs.all id)) H):=by
 intro pins s zzs H xs us Q I r h;obtain⟨p,bs,rfl,hq,q⟩:=h;obtain⟨u,rfl,ru⟩:=vals1 r;cases ru;obtain⟨its,rv,pl,hz⟩:=I.list hq;have hl:its.length=bs.length:=by have:=rv.length;simpa using this.symm
 have item:∀(i:Nat)(v:Value),its[i]?=some v->v=.bool (bs.getD i true):=fun i v e=>by
  have hi:i<bs.length:=by rw[<- hl];exact(iI.mp e).1
  have hx:(bs.map V.bl)[i]?=some (V.bl bs[i]):=by simp[hi]
  obtain⟨w',e',rw'⟩:=rv.get hx;rw[e] at e';cases e';have:bs.getD i true=bs[i]:=by simp[dj,hi]
  rw[this];exact rw'
 have hne:p≠s.heap.objs.size:=fun z=>by
  obtain⟨o,n,e,_⟩:=pl;exact kh _ (z▸bD e)
 refine call_all_walk (Nr pl.isList ?_);refine⟨s.heap.objs.size,[s.heap.objs.size,p],[s.heap.objs.size],its.toArray.size,fun i v=>its.toArray[i]?=some v,fun i h=>h.IsListIter s.heap.objs.size p i/\h.IsList p its.toArray,fun i=>bs.getD i true,rfl,
  Walks.list (A:=X.A.in1) (I.ok.hd hc) _ p hne its.toArray,⟨⟨_,iu _ rfl,rfl,rfl⟩,pl.isList.at fun o e=>fu _ e⟩,fun i v s' Q' E' hP hQ=>?_,fun h' tk kk=>?_⟩
 ·have:=item i v (by simpa using hP);subst this;exact sX hQ
 ·have hb:(List.range its.toArray.size).all (fun i=>bs.getD i true)=bs.all id:=by
   rw[cN,hl];apply sZ.mpr;simp only[jq,cR,id];constructor
   ·intro h x hx;obtain⟨i,hi,rfl⟩:=List.getElem_of_mem hx;have:=h i hi;simpa [dj,hi] using this
   ·intro h i hi;have:=h bs[i] (lZ hi);simpa [dj,hi] using this
  rw[hb];have I1:Inv X pins zzs H { s with heap:=h',toks:=tk }:=I.kept fun b o e=>kk b o (fun z=>by
   have z':b=s.heap.objs.size:=by simpa using z
   exact kh _ (z'▸bD e)) (fu _ e)
  exact⟨.bl _,H,I1,rfl,q⟩
end
open PySem.SeqAt
inductive Dt where
 |non|bl (b:Bool)|int (i:Int)|str (x:Str)|tup (ds:List Dt)|lst (ds:List Dt)
mutual
inductive Den(K:ao)(H:Hp):V->Dt->Prop
 |non:Den K H .non .non
 |bl (b:Bool):Den K H (.bl b) (.bl b)
 |int (i:Int):Den K H (.int i) (.int i)
 |str (x:Str):Den K H (.str x) (.str x)
 |tup {a:Addr} {xs:List V} {ds:List Dt} (h:H a=some (.tup xs)) (hs:aY K H xs ds):Den K H (.ref a) (.tup ds)
 |lst {a:Addr} {xs:List V} {ds:List Dt} (h:SqL K H a xs) (hs:aY K H xs ds):Den K H (.ref a) (.lst ds)
inductive aY(K:ao)(H:Hp):List V->List Dt->Prop
 |nil:aY K H [] []
 |cons {x:V} {d:Dt} {xs:List V} {ds:List Dt} (h:Den K H x d) (t:aY K H xs ds):aY K H (x::xs) (d::ds)
end
def jV:Dt->Option V
 |.non=>some .non
 |.bl b=>some (.bl b)
 |.int i=>some (.int i)
 |.str x=>some (.str x)
 |_=>none
mutual
def eqD:Dt->Dt->Bool
 |.tup a,.tup b=>uH a b
 |.lst a,.lst b=>uH a b
 |.non,e=>match jV e with|some y=>eqV .non y|none=>false
 |.bl x,e=>match jV e with|some y=>eqV (.bl x) y|none=>false
 |.int x,e=>match jV e with|some y=>eqV (.int x) y|none=>false
 |.str x,e=>match jV e with|some y=>eqV (.str x) y|none=>false
 |.tup _,_=>false
 |.lst _,_=>false
def uH:List Dt->List Dt->Bool
 |[],[]=>true
 |a::as,b::bs=>eqD a b&&uH as bs
 |[],_::_=>false
 |_::_,[]=>false
end
def a0H:Dt->Dt->Bool
 |.tup _,e=>(jV e).isSome
 |_,_=>false
mutual
def shD:Dt->Dt->Bool
 |.tup a,.tup b=>Ba a b
 |.lst a,.lst b=>Ba a b
 |.non,e=>(jV e).isSome
 |.bl _,e=>(jV e).isSome
 |.int _,e=>(jV e).isSome
 |.str _,e=>(jV e).isSome
 |.tup _,_=>false
 |.lst _,_=>false
def Ba:List Dt->List Dt->Bool
 |a::as,b::bs=>(shD a b||a0H a b)&&Ba as bs
 |_,_=>true
end
mutual
def uF:Dt->Nat
 |.tup a=>xU a+1
 |.lst a=>xU a+1
 |_=>0
def xU:List Dt->Nat
 |[]=>0
 |a::as=>max (uF a) (xU as)
end
theorem aY.length{K:ao}{H:Hp}:∀ {xs:List V} {ds:List Dt},aY K H xs ds->xs.length=ds.length
 |_,_,.nil=>rfl
 |_,_,.cons _ t=>by rw[dY,dY,t.length]
theorem aY.get{K:ao}{H:Hp}:∀ {xs:List V} {ds:List Dt} {i:Nat} {x:V},aY K H xs ds->xs[i]?=some x->∃ d,ds[i]?=some d/\Den K H x d
 |_,_,_,_,.nil,e=>by simp at e
 |_,_,0,_,.cons h _,e=>by simp at e;subst e;exact⟨_,rfl,h⟩
 |_,_,i+1,x,.cons _ t,e=>by
  obtain⟨d,h1,h2⟩:=aY.get (i:=i) (x:=x) t (by simpa using e);exact⟨d,by simpa using h1,h2⟩
theorem aY.get'{K:ao}{H:Hp}:∀ {xs:List V} {ds:List Dt} {i:Nat} {d:Dt},aY K H xs ds->ds[i]?=some d->∃ x,xs[i]?=some x/\Den K H x d
 |_,_,_,_,.nil,e=>by simp at e
 |_,_,0,_,.cons h _,e=>by simp at e;subst e;exact⟨_,rfl,h⟩
 |_,_,i+1,d,.cons _ t,e=>by
  obtain⟨x,h1,h2⟩:=aY.get' (i:=i) (d:=d) t (by simpa using e);exact⟨x,by simpa using h1,h2⟩
theorem aY.append{K:ao}{H:Hp}:∀ {xs ys:List V} {ds es:List Dt},aY K H xs ds->aY K H ys es->aY K H (xs++ys) (ds++es)
 |_,_,_,_,.nil,s=>s
 |_,_,_,_,.cons h t,s=>.cons h (t.append s)
theorem rF:∀ {ds:List Dt} {d:Dt},d∈ds->uF d<=xU ds
 |a::as,d,h=>by
  unfold xU;rcases bW.mp h with e|e
  ·rw[e];exact Nat.le_max_left _ _
  ·exact cO (rF e) (Nat.le_max_right _ _)
theorem vd:∀ {as bs:List Dt} {i:Nat} {a b:Dt},Ba as bs=true->as[i]?=some a->bs[i]?=some b->shD a b=true\/a0H a b=true
 |x::as,y::bs,0,a,b,h,e1,e2=>by
  simp at e1 e2;subst e1;subst e2;unfold Ba at h;simp only[jY,NT] at h;exact h.1
 |x::as,y::bs,i+1,a,b,h,e1,e2=>by
  unfold Ba at h;simp only[jY] at h;exact vd (i:=i) h.2 (by simpa using e1) (by simpa using e2)
 |[],_,_,_,_,_,e1,_=>by simp at e1
 |_::_,[],_,_,_,_,_,e2=>by simp at e2
def atD(as bs:List Dt)(j:Nat):Bool:=eqD (as.getD j .non) (bs.getD j .non)
theorem Ah(n:Nat)(p:Nat->Bool):(List.range (n+1)).all p=(p 0&&(List.range n).all fun j=>p (j+1)):=by
 rw[WD,BP,HX];rfl
theorem uI:∀ {as bs:List Dt},as.length=bs.length->(List.range as.length).all (atD as bs)=uH as bs
 |[],[],_=>rfl
 |a::as,b::bs,h=>by
  have ih:=@uI as bs (by simpa using h);rw[dY,Ah];unfold uH;rw[<- ih];rfl
 |[],_::_,h=>by simp at h
 |_::_,[],h=>by simp at h
theorem uJ:∀ {as bs:List Dt},as.length≠bs.length->uH as bs=false
 |[],[],h=>absurd rfl h
 |a::as,b::bs,h=>by
  unfold uH;rw[uJ (as:=as) (bs:=bs) (fun z=>h (by rw[dY,dY,z])),BJ]
 |[],_::_,_=>rfl
 |_::_,[],_=>rfl
theorem Ja:∀ {as bs:List Dt},((List.range (min as.length bs.length)).all (atD as bs)&&as.length==bs.length)=uH as bs:=by
 intro as bs;by_cases h:as.length=bs.length
 ·rw[<- h,Nat.min_self,uI h];simp
 ·rw[uJ h];simp[h]
theorem zU:∀ {x:V},OD x=true->eqV x x=true
 |.non,_=>rfl
 |.bl b,_=>by simp[eqV]
 |.int i,_=>by simp[eqV]
 |.str x,_=>by simp[eqV]
mutual
theorem zT:∀ d:Dt,eqD d d=true
 |.non=>rfl
 |.bl b=>by show eqV (.bl b) (.bl b)=true;exact zU rfl
 |.int i=>by show eqV (.int i) (.int i)=true;exact zU rfl
 |.str x=>by show eqV (.str x) (.str x)=true;exact zU rfl
 |.tup ds=>by unfold eqD;exact wg ds
 |.lst ds=>by unfold eqD;exact wg ds
theorem wg:∀ ds:List Dt,uH ds ds=true
 |[]=>rfl
 |a::as=>by unfold uH;rw[zT a,wg as];rfl
end
theorem Pr{X:Cx}{pins:List (Addr×Obj)}{zzs:St}{H:Hp}{s:Shared}{a:Addr}{xs ys:List V}(I:Inv X pins zzs H s)(h:SqT X.K H a xs)(h':SqL X.K H a ys):False:=by
 obtain⟨_,_,⟨o,e,c,_⟩,_⟩:=I.tuple h;obtain⟨_,_,⟨o',_,e',c',_⟩,_⟩:=I.list h';rw[e] at e';cases e';rw[c] at c';exact absurd c' (by decide)
mutual
theorem Den.inj{X:Cx}{pins:List (Addr×Obj)}{zzs:St}{H:Hp}{s:Shared}(I:Inv X pins zzs H s):∀ {d:Dt} {e:Dt} {x:V},Den X.K H x d->Den X.K H x e->d=e
 |.tup ds,_,_,.tup h hs,he=>by
  cases he with
  |tup h' hs'=>
   have e:=I.S8 (SqT.of h) (SqT.of h');subst e;rw[aY.inj I hs hs']
  |lst h' hs'=>exact(Pr I (SqT.of h) h').elim
 |.lst ds,_,_,.lst h hs,he=>by
  cases he with
  |lst h' hs'=>
   have e:=I.Jg h h';subst e;rw[aY.inj I hs hs']
  |tup h' hs'=>exact(Pr I (SqT.of h') h).elim
 |.non,_,_,.non,he=>by cases he;rfl
 |.bl _,_,_,.bl _,he=>by cases he;rfl
 |.int _,_,_,.int _,he=>by cases he;rfl
 |.str _,_,_,.str _,he=>by cases he;rfl
theorem aY.inj{X:Cx}{pins:List (Addr×Obj)}{zzs:St}{H:Hp}{s:Shared}(I:Inv X pins zzs H s):∀ {ds es:List Dt} {xs:List V},aY X.K H xs ds->aY X.K H xs es->ds=es
 |[],_,_,.nil,he=>by cases he;rfl
 |d::ds,_,_,.cons h t,he=>by
  cases he with
  |cons h' t'=>rw[Den.inj I h h',aY.inj I t t']
end
theorem aY.getD{K:ao}{H:Hp}{xs:List V}{ds:List Dt}{us:List Value}{j:Nat}(D:aY K H xs ds)(r:Vals xs us)(h:j<us.length):∃ x,RelV x us[j]/\Den K H x (ds.getD j .non)/\ds[j]?=some (ds.getD j .non):=by
 have hl:=r.length;have hx:xs[j]?=some xs[j]:=by simp[hl,h]
 obtain⟨u,hu,ru⟩:=r.get hx;obtain⟨d,hd,dd⟩:=D.get hx;have eu:us[j]=u:=by
  rw[gP h] at hu;exact iy hu
 have ed:ds.getD j .non=d:=by rw[dj,hd];rfl
 rw[eu,ed];exact⟨_,ru,dd,hd⟩
theorem Den.flat{K:ao}{H:Hp}{x:V}{d:Dt}{y:V}(h:Den K H x d)(e:jV d=some y):x=y/\OD x=true:=by
 cases h with
 |non=>cases e;exact⟨rfl,rfl⟩
 |bl b=>cases e;exact⟨rfl,rfl⟩
 |int i=>cases e;exact⟨rfl,rfl⟩
 |str z=>cases e;exact⟨rfl,rfl⟩
 |tup _ _=>cases e
 |lst _ _=>cases e
theorem uG{d e:Dt}{x y:V}(h1:jV d=some x)(h2:jV e=some y):eqD d e=eqV x y:=by
 cases d<;>first
  |(cases h1;simp only[eqD,h2])
  |cases h1
theorem JQ{d e:Dt}{x:V}(h1:jV d=some x)(h:shD d e=true):∃ y,jV e=some y:=by
 cases d<;>first
  |(cases h1;unfold shD at h;exact Wv.mp h)
  |cases h1
theorem zR{X:Cx}{pins:List (Addr×Obj)}{zzs:St}{H:Hp}{s:Shared}(I:Inv X pins zzs H s){d e:Dt}{x y:V}{u v:Value}{A:Around}(hu:A.units<cLine)(hx:Den X.K H x d)(hy:Den X.K H y e)(rx:RelV x u)(ry:RelV y v)(mx:a0H d e=true):EqAt A s u v (eqD d e):=by
 cases hx with
 |@tup a xs ds h hs=>
  cases rx;obtain⟨us,r,ht,_⟩:=I.tuple (SqT.of h);cases hy with
  |non=>cases ry;exact EqAt.tuple_none ht hu
  |bl b=>cases ry;exact EqAt.tuple_bool b ht hu
  |int i=>obtain⟨t,rfl⟩:=ry;exact EqAt.tuple_int i t ht hu
  |str z=>obtain⟨t,rfl⟩:=ry;exact EqAt.tuple_str z t ht hu
  |tup _ _=>cases mx
  |lst _ _=>cases mx
 |_=>cases mx
theorem J2{X:Cx}{pins:List (Addr×Obj)}{zzs:St}{H:Hp}{s:Shared}(I:Inv X pins zzs H s):∀(n:Nat){d e:Dt}{x y:V}{u v:Value}{A:Around},uF d<=n->A.units+n<cLine->Den X.K H x d->Den X.K H y e->RelV x u->RelV y v->shD d e=true->EqAt A s u v (eqD d e):=by
 intro n
 induction n with
 |zero=>
  intro d e x y u v A hn hu hx hy rx ry sh;cases fd:jV d with
  |some x'=>
   obtain⟨y',fe⟩:=JQ fd sh;obtain⟨rfl,f1⟩:=hx.flat fd;obtain⟨rfl,f2⟩:=hy.flat fe;rw[uG fd fe];exact Tp rx ry f1 f2
  |none=>
   cases d with
   |tup ds=>unfold uF at hn;exact absurd hn (by lia)
   |lst ds=>unfold uF at hn;exact absurd hn (by lia)
   |_=>cases fd
 |succ n ih=>
  intro d e x y u v A hn hu hx hy rx ry sh;cases fd:jV d with
  |some x'=>
   obtain⟨y',fe⟩:=JQ fd sh;obtain⟨rfl,f1⟩:=hx.flat fd;obtain⟨rfl,f2⟩:=hy.flat fe;rw[uG fd fe];exact Tp rx ry f1 f2
  |none=>
   cases d with
   |tup ds=>
    cases e with
    |tup es=>
     cases hx with
     |@tup a xs _ h hs=>
      cases hy with
      |@tup b ys _ h' hs'=>
       cases rx;cases ry;by_cases hab:a=b
       ·subst hab;have e:=Den.inj I (.tup h hs) (.tup h' hs');rw[e,zT];exact EqAt.same _
       ·obtain⟨us,r,ht,_⟩:=I.tuple (SqT.of h);obtain⟨ws,r',ht',_⟩:=I.tuple (SqT.of h');have sh':Ba ds es=true:=by unfold shD at sh;exact sh
        rw[show eqD (.tup ds) (.tup es)=uH ds es from by unfold eqD;rfl];rw[<- Ja];have l1:us.toArray.size=ds.length:=by rw[cN,<- r.length,hs.length]
        have l2:ws.toArray.size=es.length:=by rw[cN,<- r'.length,hs'.length]
        rw[<- l1,<- l2];refine HY hab (RcAt.tuples ht ht' (by lia) fun j h1 h2=>?_);obtain⟨p,rp,dp,ep⟩:=hs.getD r (j:=j) (by simpa using h1);obtain⟨q,rq,dq,eq⟩:=hs'.getD r' (j:=j) (by simpa using h2);unfold uF at hn;have hd:=rF (eO ep);exact(vd sh' ep eq).elim (fun z=>ih (A:=A.in1) (by lia) (by show A.units+1+n<cLine;lia) dp dq (by simpa using rp) (by simpa using rq) z) (fun z=>zR (A:=A.in1) I (by show A.units+1<cLine;lia) dp dq (by simpa using rp) (by simpa using rq) z)
    |_=>unfold shD at sh;cases sh
   |lst ds=>
    cases e with
    |lst es=>
     cases hx with
     |@lst a xs _ h hs=>
      cases hy with
      |@lst b ys _ h' hs'=>
       cases rx;cases ry;by_cases hab:a=b
       ·subst hab;have e:=Den.inj I (.lst h hs) (.lst h' hs');rw[e,zT];exact EqAt.same _
       ·obtain⟨us,r,ht,_⟩:=I.list h;obtain⟨ws,r',ht',_⟩:=I.list h';have sh':Ba ds es=true:=by unfold shD at sh;exact sh
        rw[show eqD (.lst ds) (.lst es)=uH ds es from by unfold eqD;rfl];have l1:us.toArray.size=ds.length:=by rw[cN,<- r.length,hs.length]
        have l2:ws.toArray.size=es.length:=by rw[cN,<- r'.length,hs'.length]
        by_cases hl:ds.length=es.length
        ·rw[<- uI hl,<- l1];refine HY hab (RcAt.lists ht.isList ht'.isList (by rw[l1,l2];exact hl) (by lia) fun j h1 h2=>?_);obtain⟨p,rp,dp,ep⟩:=hs.getD r (j:=j) (by simpa using h1);obtain⟨q,rq,dq,eq⟩:=hs'.getD r' (j:=j) (by simpa using h2);unfold uF at hn;have hd:=rF (eO ep);exact(vd sh' ep eq).elim (fun z=>ih (A:=A.in1) (by lia) (by show A.units+1+n<cLine;lia) dp dq (by simpa using rp) (by simpa using rq) z) (fun z=>zR (A:=A.in1) I (by show A.units+1<cLine;lia) dp dq (by simpa using rp) (by simpa using rq) z)
        ·rw[uJ hl];exact HY hab (RcAt.lists_lengths ht.isList ht'.isList (by rw[l1,l2];simpa using hl) (by lia))
    |_=>unfold shD at sh;cases sh
   |_=>cases fd
section
variable{X:Cx}{pins:List (Addr×Obj)}{zzs:St}{H:Hp}{s:Shared}
def a1G:Dt->Option (List Dt)
 |.tup ds=>some ds
 |.lst ds=>some ds
 |_=>none
theorem rM{n:Nat}{A:Around}(I:Inv X pins zzs H s){xs ys:List V}{ds es:List Dt}{us ws:List Value}(hn:xU ds<=n)(hu:A.units+(n+1)<cLine)(hs:aY X.K H xs ds)(hs':aY X.K H ys es)(r:Vals xs us)(r':Vals ys ws)
  (sh:Ba ds es=true) (j:Nat) (h1:j<us.toArray.size) (h2:j<ws.toArray.size):EqAt A.in1 s us.toArray[j] ws.toArray[j] (atD ds es j):=by
 obtain⟨p,rp,dp,ep⟩:=hs.getD r (j:=j) (by simpa using h1);obtain⟨q,rq,dq,eq⟩:=hs'.getD r' (j:=j) (by simpa using h2);have hd:=rF (eO ep);exact(vd sh ep eq).elim (fun z=>J2 I n (A:=A.in1) (by lia) (by show A.units+1+n<cLine;lia) dp dq (by simpa using rp) (by simpa using rq) z) (fun z=>zR (A:=A.in1) I (by show A.units+1<cLine;lia) dp dq (by simpa using rp) (by simpa using rq) z)
theorem JC{A:Around}(I:Inv X pins zzs H s){d e:Dt}{a b:Addr}(hq:(a1G d).isSome=true)(hu:A.units+60<cLine)(hn:uF d<=50)(hx:Den X.K H (.ref a) d)(hy:Den X.K H (.ref b) e)(sh:shD d e=true):RcAt A s (.ref a) (.ref b) (eqD d e)/\RcNeAt A s (.ref a) (.ref b) (!eqD d e):=by
 cases d with
 |tup ds=>
  cases e with
  |tup es=>
   cases hx with
   |tup h hs=>
    cases hy with
    |tup h' hs'=>
     obtain⟨us,r,ht,_⟩:=I.tuple (SqT.of h);obtain⟨ws,r',ht',_⟩:=I.tuple (SqT.of h');have sh':Ba ds es=true:=by unfold shD at sh;exact sh
     have hn':xU ds<=49:=by unfold uF at hn;lia
     rw[show eqD (.tup ds) (.tup es)=uH ds es from by unfold eqD;rfl,<- Ja];have l1:us.toArray.size=ds.length:=by rw[cN,<- r.length,hs.length]
     have l2:ws.toArray.size=es.length:=by rw[cN,<- r'.length,hs'.length]
     rw[<- l1,<- l2];exact⟨RcAt.tuples ht ht' (by lia) (rM I hn' (by lia) hs hs' r r' sh'),RcNeAt.tuples ht ht' (by lia) (rM I hn' (by lia) hs hs' r r' sh')⟩
  |_=>unfold shD at sh;cases sh
 |lst ds=>
  cases e with
  |lst es=>
   cases hx with
   |lst h hs=>
    cases hy with
    |lst h' hs'=>
     obtain⟨us,r,ht,_⟩:=I.list h;obtain⟨ws,r',ht',_⟩:=I.list h';have sh':Ba ds es=true:=by unfold shD at sh;exact sh
     have hn':xU ds<=49:=by unfold uF at hn;lia
     rw[show eqD (.lst ds) (.lst es)=uH ds es from by unfold eqD;rfl];have l1:us.toArray.size=ds.length:=by rw[cN,<- r.length,hs.length]
     have l2:ws.toArray.size=es.length:=by rw[cN,<- r'.length,hs'.length]
     by_cases hl:ds.length=es.length
     ·rw[<- uI hl,<- l1];exact⟨RcAt.lists ht.isList ht'.isList (by rw[l1,l2];exact hl) (by lia) (rM I hn' (by lia) hs hs' r r' sh'),RcNeAt.lists ht.isList ht'.isList (by rw[l1,l2];exact hl) (by lia) (rM I hn' (by lia) hs hs' r r' sh')⟩
     ·rw[uJ hl];exact⟨RcAt.lists_lengths ht.isList ht'.isList (by rw[l1,l2];simpa using hl) (by lia),RcNeAt.lists_lengths ht.isList ht'.isList (by rw[l1,l2];simpa using hl) (by lia)⟩
  |_=>unfold shD at sh;cases sh
 |_=>cases hq
def Z0(K:ao)(neg:Bool):R2:=fun x y H Q=>∃ d e,(a1G d).isSome=true/\Den K H x d/\Den K H y e/\shD d e=true/\uF d<=50/\Q (.bl (if neg then !eqD d e else eqD d e)) H
theorem Den.Vr{K:ao}{x:V}{d e:Dt}{y:V}(hq:(a1G d).isSome=true)(hx:Den K H x d)(hy:Den K H y e)(sh:shD d e=true):∃ a b,x=.ref a/\y=.ref b:=by
 cases hx with
 |@tup a _ _ _ _=>
  cases hy with
  |@tup b _ _ _ _=>exact⟨a,b,rfl,rfl⟩
  |_=>unfold shD at sh;cases sh
 |@lst a _ _ _ _=>
  cases hy with
  |@lst b _ _ _ _=>exact⟨a,b,rfl,rfl⟩
  |_=>unfold shD at sh;cases sh
 |_=>cases hq
theorem a0U(hu:X.A.units+60<cLine):OpR X (compareOp .Eq) (Z0 X.K false):=by
 intro pins s zzs H x y v u Q I rx ry h;obtain⟨d,e,hq,hx,hy,sh,hn,q⟩:=h;obtain⟨a,b,rfl,rfl⟩:=Den.Vr hq hx hy sh;cases rx;cases ry;exact(JC I hq hu hn hx hy sh).1 _ _ _ _ ⟨.bl _,H,I,rfl,q⟩
theorem a1a(hu:X.A.units+60<cLine):OpR X (compareOp .NotEq) (Z0 X.K true):=by
 intro pins s zzs H x y v u Q I rx ry h;obtain⟨d,e,hq,hx,hy,sh,hn,q⟩:=h;obtain⟨a,b,rfl,rfl⟩:=Den.Vr hq hx hy sh;cases rx;cases ry;exact(JC I hq hu hn hx hy sh).2 _ _ _ _ ⟨.bl _,H,I,rfl,q⟩
def RP(K:ao)(neg:Bool):R2:=fun x y H Q=>∃ d es p,y=.ref p/\Den K H x d/\(Den K H y (.lst es)\/Den K H y (.tup es))/\(∀ e∈es,shD e d=true/\uF e<=50)/\Q (.bl (if neg then !(es.any fun e=>eqD e d) else es.any fun e=>eqD e d)) H
theorem Xi{K:ao}{d:Dt}{P:Value->Bool}:∀ {xs:List V} {es:List Dt} {us:List Value},aY K H xs es->Vals xs us->(∀(j:Nat)(u:Value)(e:Dt),us[j]?=some u->es[j]?=some e->P u=eqD e d)->us.any P=es.any fun e=>eqD e d:=by
 intro xs es us D r
 induction r generalizing es with
 |nil=>intro h;cases D;rfl
 |cons _ r ih=>
  intro h;cases D with
  |cons _ t=>rw[xu,xu,h 0 _ _ rfl rfl,ih t fun j u e h1 h2=>h (j+1) u e (by simpa using h1) (by simpa using h2)]
open Classical in
theorem Fz(I:Inv X pins zzs H s){x:V}{v:Value}{d:Dt}{ys:List V}{es:List Dt}{us:List Value}{A:Around}(hu:A.units+60<cLine)(rx:RelV x v)(hx:Den X.K H x d)(hs:aY X.K H ys es)(r:Vals ys us)(hsh:∀ e∈es,shD e d=true/\uF e<=50) :
  ∃ P:Value->Bool,(∀ u∈us,EqAt A s u v (P u))/\us.any P=es.any fun e=>eqD e d:=by
 have key:∀(j:Nat)(u:Value)(e:Dt),us[j]?=some u->es[j]?=some e->EqAt A s u v (eqD e d)/\∃ y,RelV y u/\Den X.K H y e:=fun j u e h1 h2=>by
  obtain⟨y,h3,dy⟩:=hs.get' h2;obtain⟨u',h4,ry⟩:=r.get h3;rw[h1] at h4;cases h4;obtain⟨a1,a2⟩:=hsh e (eO h2);exact⟨J2 I 50 a2 (by lia) dy hx ry rx a1,y,ry,dy⟩
 have one:∀(j:Nat)(u:Value)(e:Dt),us[j]?=some u->es[j]?=some e->decide (∃ y e,RelV y u/\Den X.K H y e/\eqD e d=true)=eqD e d:=fun j u e h1 h2=>by
  obtain⟨_,y,ry,dy⟩:=key j u e h1 h2;cases q:eqD e d with
  |true=>exact bG ⟨y,_,ry,dy,q⟩
  |false=>
   refine bV fun zzy=>?_
   obtain⟨y',e',ry',dy',q'⟩:=zzy;have ey:=ry.inj ry';subst ey;rw[Den.inj I dy' dy,q] at q';cases q'
 refine⟨fun u=>decide (∃ y e,RelV y u/\Den X.K H y e/\eqD e d=true),fun u hu'=>?_,Xi hs r one⟩;obtain⟨j,hj⟩:=Bm hu';have hl:j<es.length:=by rw[<- hs.length,r.length];exact(iI.mp hj).1
 have e1:=(key j u es[j] hj (by simp[hl])).1;show EqAt A s u v (decide _);rw[one j u es[j] hj (by simp[hl])];exact e1
theorem a0X(hu:X.A.units+61<cLine):OpR X (compareOp .In) (RP X.K false):=by
 intro pins s zzs H x y v u Q I rx ry h;obtain⟨d,es,p,rfl,hx,hy,hsh,q⟩:=h;cases ry;rcases hy with hy|hy
 ·cases hy with
  |lst h' hs=>
   obtain⟨us,r,ht,_⟩:=I.list h';obtain⟨P,hP,e⟩:=Fz (A:=X.A.in1) I (by show X.A.units+1+60<cLine;omega) rx hx hs r hsh;exact in_listAt P ht.isList (fun z hz=>hP z (by simpa using hz)) ⟨.bl _,H,I,by rw[<- e];simp<;>rfl,q⟩
 ·cases hy with
  |tup h' hs=>
   obtain⟨us,r,ht,_⟩:=I.tuple (SqT.of h');obtain⟨P,hP,e⟩:=Fz (A:=X.A.in1) I (by show X.A.units+1+60<cLine;omega) rx hx hs r hsh;exact in_tupleAt P ht (fun z hz=>hP z (by simpa using hz)) ⟨.bl _,H,I,by rw[<- e];simp<;>rfl,q⟩
theorem Rv(hu:X.A.units+61<cLine):OpR X (compareOp .NotIn) (RP X.K true):=by
 intro pins s zzs H x y v u Q I rx ry h;obtain⟨d,es,p,rfl,hx,hy,hsh,q⟩:=h;cases ry;rcases hy with hy|hy
 ·cases hy with
  |lst h' hs=>
   obtain⟨us,r,ht,_⟩:=I.list h';obtain⟨P,hP,e⟩:=Fz (A:=X.A.in1) I (by show X.A.units+1+60<cLine;omega) rx hx hs r hsh;exact notIn_listAt P ht.isList (fun z hz=>hP z (by simpa using hz)) ⟨.bl _,H,I,by rw[<- e];simp<;>rfl,q⟩
 ·cases hy with
  |tup h' hs=>
   obtain⟨us,r,ht,_⟩:=I.tuple (SqT.of h');obtain⟨P,hP,e⟩:=Fz (A:=X.A.in1) I (by show X.A.units+1+60<cLine;omega) rx hx hs r hsh;exact notIn_tupleAt P ht (fun z hz=>hP z (by simpa using hz)) ⟨.bl _,H,I,by rw[<- e];simp<;>rfl,q⟩
end
structure Df(P:Program)(w:World)(K:ao)(mg:Str->Option Value)(base:Heap)(k:Nat)(x:Str)(ps:List Str)(sp:Sp):Prop where
 ex:∃ f fd,cH P w K mg base (CXE P w) k f fd ps sp/\mg x=some (.ref f)/\PySem.W.keepIn K (.ref f)=true/\Binds K fd ps []
theorem aR{X:Cx}:Passes (CXE X.prog X.w) X E0:=by
 intro pins zzs H s e s' I h;obtain⟨ea,C,H',_,_,_,_,_,_,z⟩:=h;exact z.elim
section
variable{P:Program}{w:World}{K:ao}{mg:Str->Option Value}{base:Heap}
theorem Fun.okE{x qual:Str}{st:Stmt}{f:Addr}{fd:FuncData}{N ps:List Str}{k:Nat}{sp:Sp}(F:Fun K x qual st f fd)(S:aU N ps (aH st))(len:∀ vs H Q E,sp vs H Q E->vs.length=ps.length)
  (hbody:∀(cdv:Value)(A:Around)(outer:List Env)(s:Shared)(H:Hp)(vs:List V)(Q:VK)(E:XK),iG k (A.deeper (envOfC qual (aH st) s.heap.objs.size f cdv))->sp vs H Q E ->
   ∃ t,PSs (pO (CXE P w) P w K mg base N qual (aH st) f cdv A outer s H E) (fJ st) t/\t { nx:=fun _ H'=>Q .non H',rt:=Q } (start N vs) H):cH P w K mg base (CXE P w) (k+1) f fd ps sp:=by
 obtain⟨oc,od,kV,doc,pm,an,cdv,ct,osl,rfl,lk,hcd⟩:=F.ex;exact a2k lk hcd S len fun A outer s H vs Q E hr hsp=>hbody cdv A outer s H vs Q E hr hsp
theorem Fun.ok0{x qual:Str}{st:Stmt}{f:Addr}{fd:FuncData}{N ps:List Str}{k:Nat}{sp:Sp}(F:Fun K x qual st f fd)(S:aU N ps (aH st))(len:∀ vs H Q E,sp vs H Q E->vs.length=ps.length)
  (hbody:∀(cdv:Value)(A:Around)(outer:List Env)(s:Shared)(H:Hp)(vs:List V)(Q:VK)(E:XK),iG k (A.deeper (envOfC qual (aH st) s.heap.objs.size f cdv))->sp vs H Q E ->
   ∃ t,PSs (pO (CXE P w) P w K mg base N qual (aH st) f cdv A outer s H E).nox (fJ st) t/\t { nx:=fun _ H'=>Q .non H',rt:=Q } (start N vs) H):cH P w K mg base (CXE P w) (k+1) f fd ps sp:=
 F.okE S len fun cdv A outer s H vs Q E hr hsp=>let ⟨t,h,q⟩:=hbody cdv A outer s H vs Q E hr hsp;⟨t,h.nox,q⟩
end
theorem PS.nox{X:Cx}{st:Stmt}{t:TS}(h:PS X.nox st t):PS X st t:=fun pins s zzs H D I hw=>
 fX (h pins s zzs H D (I.wish _) hw) (fun _ _ q=>SP.lW q) fun _ _ z=>False.elim z
section
variable{X:Cx}{k j:Nat}{ps:List Str}{sp:Sp}{E:XK}{x:Str}{p pos:Pos}{e:Expr}{es:List Expr}{t:TA}
theorem a1f(D:Df X.prog X.w X.K X.mg X.base k x ps sp)(hr:iG j X.A)(hg:Gl X x)(hx:Passes (CXE X.prog X.w) X E)(ha:PA X (e::es) t)(hk:k<=j:=by decide)
  (hdb:(x==("__debug__" : Str))=false:=by decide) (he:starEach (e::es) X.env=(false,eval e X.env)::starEach es X.env:=by rfl) (hpl:(backTo pos (starEach es X.env)).any (·.1)=false:=by rfl) :
  PE X (.Call (.Name x p) (e::es) [] pos) (Qj sp [] E t):=by
 obtain⟨f,fd,F,hm,kp,hb⟩:=D.ex;exact Yu F (hr.mono hk) hg hm kp hb .nil hx ha hdb he hpl
end
section
variable{X:Cx}{x:Str}{pos:Pos}
theorem Yz{i:Int}(h:∃ t,X.mg x=some (.int i t))(hg:Gl X x) (hd:(x==("__debug__" : Str))=false:=by decide):PE X (.Name x pos) (tC (.int i)):=by
 obtain⟨t,h⟩:=h;exact PJ hg h ⟨t,rfl⟩ hd
theorem YB{z:Str}(h:∃ t,X.mg x=some (.str z t))(hg:Gl X x) (hd:(x==("__debug__" : Str))=false:=by decide):PE X (.Name x pos) (tC (.str z)):=by
 obtain⟨t,h⟩:=h;exact PJ hg h ⟨t,rfl⟩ hd
end
section
variable{X:Cx}
def Eh:R2:=fun x y H Q=>match x,y with
 |.int i,.int j=>Q (.int (i+j)) H
 |.str i,.str j=>i.length+j.length<=sizeLine/\Q (.str (i++j)) H
 |.ref l,.ref b=>∃ xs zs,H l=some (.lst xs)/\H b=some (.lst zs)/\xs.length+zs.length<=sizeLine/\∀ p,H p=none->Q (.ref p) (upd H p (.lst (xs++zs)))
 |_,_=>False
theorem bQ:OpR X (binaryOp .Add) Eh:=by
 intro pins s zzs H x y v u Q I rx ry h;unfold Eh at h;split at h
 ·exact a0S pins s zzs H _ _ v u Q I rx ry ⟨_,_,rfl,rfl,h⟩
 ·exact Lx pins s zzs H _ _ v u Q I rx ry ⟨_,_,rfl,rfl,h.1,h.2⟩
 ·obtain⟨xs,zs,h1,h2,h3,h4⟩:=h;exact a0T pins s zzs H _ _ v u Q I rx ry ⟨_,_,xs,zs,rfl,rfl,h1,h2,h3,h4⟩
 ·exact h.elim
def ZF:R2:=fun x y H Q=>match x,y with
 |.int i,.int j=>Xe i j/\Q (.int (i*j)) H
 |.str z,.int n=>z.length<=1000 /\ -1000<=n/\n<=1000/\Q (.str (a1B z n)) H
 |.ref l,.int k=>∃ xs,H l=some (.lst xs) /\ -(2^63)<=k/\k<2^63/\xs.length*k.toNat<=sizeLine/\∀ p,H p=none->Q (.ref p) (upd H p (.lst (List.replicate k.toNat xs).flatten))
 |_,_=>False
theorem jE:OpR X (binaryOp .Mult) ZF:=by
 intro pins s zzs H x y v u Q I rx ry h;unfold ZF at h;split at h
 ·exact a0Z pins s zzs H _ _ v u Q I rx ry ⟨_,_,rfl,rfl,h.1,h.2⟩
 ·exact Ly pins s zzs H _ _ v u Q I rx ry ⟨_,_,rfl,rfl,h.1,h.2.1,h.2.2.1,h.2.2.2⟩
 ·obtain⟨xs,h1,h2,h3,h4,h5⟩:=h;exact a1b pins s zzs H _ _ v u Q I rx ry ⟨_,_,xs,rfl,rfl,h1,h2,h3,h4,h5⟩
 ·exact h.elim
end
theorem Om{J:It}{n:Nat}{item:Nat->V}{tc:TT}{te:TE}{zzs:St}{fin:List V->Hp->Prop}{H:Hp}(R:Nat->List V->Hp->Prop)(hn:n<=sizeLine)
  (hgo:∀ i ys H,i<n->R i ys H->J.go i H) (hy:∀ i ys H v H',i<n->R i ys H->J.yld i H v H'->v=item i/\H'=H) (hstop:∀ ys H,R n ys H->J.stop n H)
  (hl:∀ i ys H,i<=n->R i ys H->ys.length<=i) (h0:R 0 [] H)
  (hs:∀ i ys H,i<n->R i ys H->∀ G:List V->Hp->Prop,(∀ ys' H',R (i+1) ys' H'->G ys' H')->tc (some (item i)::zzs) H fun b H2=>if b=true then te (some (item i)::zzs) H2 fun y H3=>G (ys++[y]) H3 else G ys H2)
  (hd:∀ ys H,R n ys H->fin ys H):∃ W:Nat->Nat->List V->Hp->Prop,(∃ m,W 0 m [] H)/\m9 J tc te zzs fin W:=by
 refine⟨fun i m ys H=>m=n-i/\i<=n/\R i ys H,⟨n,by lia,kj _,h0⟩,?_⟩;rintro i m ys H ⟨rfl,hi,r⟩;refine⟨cO (hl i ys H hi r) (cO hi hn),?_⟩;by_cases hlt:i<n
 ·refine .inr ⟨hgo i ys H hlt r,fun v H' y=>?_⟩;obtain⟨rfl,rfl⟩:=hy i ys H v H' hlt r y;exact hs i ys _ hlt r (fun ys' H2=>∃ m',m'<n-i/\(m'=n-(i+1)/\i+1<=n/\R (i+1) ys' H2)) fun ys' H2 r'=>⟨n-(i+1),by lia,rfl,hlt,r'⟩
 ·have e:i=n:=by lia
  subst e;exact .inl ⟨hstop ys H r,hd ys H r⟩
theorem Same.put{H:Hp}{p:Addr}{o:HO}(h:H p=none):Same H (upd H p o):=fun b u e=>by
 rw[bF (bU e h)];exact e
theorem Same.and{H H':Hp}{p:Addr}{o:HO}(s:Same H H')(h:H' p=none):Same H (L2.upd H' p o):=s.trans (Same.put h)
theorem small{n:Nat}(h:n<=10000):n<=sizeLine:=cO h (by rw[mZ];decide)
theorem Od{ns:List Int}{i:Int}(h0:0<=i)(h1:i<ns.length):∃ v,atI (ns.map V.int) i=some (V.int v):=by
 obtain⟨k,rfl⟩:=Gy h0;have hk:k<ns.length:=by lia
 exact⟨ns[k],dB (by simp[hk])⟩
theorem Kd{α:Type}{xs:List α}{i:Int}(h0:0<=i)(h1:i<xs.length):∃ v,v∈xs/\atI xs i=some v:=by
 obtain⟨k,rfl⟩:=Gy h0;have hk:k<xs.length:=by lia
 exact⟨xs[k],lZ hk,dB (by simp[hk])⟩
theorem oN{A:Around}{k:Nat}(hr:iG k A):A.units+60<cLine:=Np (X3 (by decide:60<=64) _) hr.units
theorem Cv{A:Around}{k:Nat}(hr:iG k A):A.units+61<cLine:=Np (X3 (by decide:61<=64) _) hr.units
def notStar:Expr->Bool
 |.Starred _ _=>false
 |_=>true
theorem nO{env:Env}{e:Expr}{es:List Expr}(h:notStar e=true):starEach (e::es) env=(false,eval e env)::starEach es env:=by
 cases e<;>first|rfl|cases h
theorem Ab{env:Env}{pos:Pos}:∀ {es:List Expr},es.all notStar=true->(backTo pos (starEach es env)).any (·.1)=false
 |[],_=>rfl
 |e::es,h=>by
  rw[BP,jY] at h;rw[nO h.1];show(false||(backTo pos (starEach es env)).any (·.1))=false;rw[Ab h.2];rfl
section
variable{X:Cx}{k j:Nat}{ps:List Str}{sp:Sp}{E:XK}{x:Str}{p pos:Pos}{e:Expr}{es:List Expr}{te:TE}{t:TA}{id T:String}{r:List V->Hp->VK->Prop}{C f:Addr}{fd:FuncData}
theorem a1A(D:Df X.prog X.w X.K X.mg X.base k x ps sp)(hr:iG j X.A)(hg:Gl X x)(hx:Passes (CXE X.prog X.w) X E)(ha:PA X (e::es) t)(hk:k<=j:=by decide)(h1:notStar e=true:=by rfl)(h2:es.all notStar=true:=by rfl)
  (hdb:(x==("__debug__" : Str))=false:=by decide):PE X (.Call (.Name x p) (e::es) [] pos) (Qj sp [] E t):=a1f D hr hg hx ha hk hdb (nO h1) (Ab h2)
theorem Vi(hc:fB X (.builtin id) r)(hg:Gl X x)(hm:X.mg x=none)(hv:bootBuiltins x=some (.builtin id))(ha:PA X (e::es) t)(h1:notStar e=true:=by rfl)(h2:es.all notStar=true:=by rfl) (hn:x ≠ "__name__":=by decide)
  (hdb:(x==("__debug__" : Str))=false:=by decide):PE X (.Call (.Name x p) (e::es) [] pos) (tCB r t):=V3 hc hg hm hv ha hn hdb (nO h1) (Ab h2)
theorem RN(hc:fB X (.type T) r)(hg:Gl X x)(hm:X.mg x=none)(hv:bootBuiltins x=some (.type T))(ha:PA X (e::es) t)(h1:notStar e=true:=by rfl)(h2:es.all notStar=true:=by rfl) (hn:x ≠ "__name__":=by decide)
  (hdb:(x==("__debug__" : Str))=false:=by decide):PE X (.Call (.Name x p) (e::es) [] pos) (tCB r t):=Ry hc hg hm hv ha hn hdb (nO h1) (Ab h2)
end
structure Md(P:Program)(w:World)(K:ao)(mg:Str->Option Value)(base:Heap)(k:Nat)(x:Str)(ps:List Str)(C:Addr)(sp:Sp):Prop where
 ex:∃ f fd,Mk K C f/\cH P w K mg base (CXE P w) k f fd ps sp/\mg x=some (.ref C)/\Binds K fd ps []
section
variable{X:Cx}{k j:Nat}{ps:List Str}{sp:Sp}{E:XK}{x:Str}{p pos:Pos}{e:Expr}{es:List Expr}{te:TE}{t:TA}{C:Addr}
theorem YZ(D:Md X.prog X.w X.K X.mg X.base k x ps C sp)(hr:iG j X.A)(hg:Gl X x)(hx:Passes (CXE X.prog X.w) X E)(ha:PA X (e::es) t)(hk:k+1<=j:=by decide)(h1:notStar e=true:=by rfl)(h2:es.all notStar=true:=by rfl)
  (hdb:(x==("__debug__" : Str))=false:=by decide):PE X (.Call (.Name x p) (e::es) [] pos) (Wb C sp [] E t):=by
 obtain⟨f,fd,M,F,hm,hb⟩:=D.ex;exact YC M F (hr.mono hk) hg hm hb .nil hx ha hdb (nO h1) (Ab h2)
end
structure RE(X:Cx)(e:Expr)(t:TE):Prop where ok:PE X e t
structure RT(X:Cx)(e:Expr)(t:TT):Prop where ok:PT X e t
structure RB(X:Cx)(e:Expr)(t:TT):Prop where ok:PW X e t
structure RA(X:Cx)(es:List Expr)(t:TA):Prop where ok:PA X es t
structure RS(X:Cx)(st:Stmt)(t:TS):Prop where ok:PS X st t
structure RSs(X:Cx)(st:List Stmt)(t:TS):Prop where ok:PSs X st t
structure RI(X:Cx)(tg iter:Expr)(t:TI):Prop where ok:PI X tg iter t
structure RG(X:Cx)(tg:Expr)(t:TG):Prop where ok:PG X tg t
structure RGs(X:Cx)(ts:List Expr)(t:TGs):Prop where ok:PGs X ts t
structure RO(X:Cx)(e:Option Expr)(t:TO):Prop where ok:PO X e t
structure RIf(X:Cx)(ifs:List Expr)(t:TT):Prop where ok:tG X ifs t
structure RH(X:Cx)(hs:List ExceptHandler)(th:Addr->TS):Prop where ok:PH X hs th
def yS:Expr->Bool
 |.ListComp _ _ _ _=>false
 |.SetComp _ _ _ _=>false
 |.DictComp _ _ _ _ _=>false
 |_=>true
theorem W7{e:Expr}{t:Option Expr}{n:Nat}{env:Env}(h:yS e=true):swapsWith e t n env=pure false:=by
 cases e<;>first|rfl|cases h
def plainT:Expr->Bool
 |.Call _ _ _ _=>true
 |.Name _ _=>true
 |.Constant _ _ _=>true
 |.Attribute _ _ _=>true
 |.Subscript _ _ _=>true
 |_=>false
theorem a2H{e:Expr}{env:Env}(h:plainT e=true):∀ whole,isTrue e env whole=(do let v <- whole;standAt e.pos;holding [v] (truthy v)):=by
 intro whole;cases e<;>first|rfl|cases h
def Pn:Expr->Bool
 |.Name _ _=>true
 |.Constant _ _ _=>true
 |.BinOp _ _ _ _=>true
 |.UnaryOp _ _ _=>true
 |.Call _ _ _ _=>true
 |.Subscript _ _ _=>true
 |.Attribute _ _ _=>true
 |_=>false
theorem a2r{b:Expr}(h:Pn b=true):Oa b:=by
 intro o i;cases b<;>first|rfl|cases h
section
variable{X:Cx}{a b c e o:Expr}{es rest:List Expr}{ta tb tc te to:TE}{t:TA}{tA tB':TT}{pos p:Pos}{i:Nat}{x:Str}
theorem rv(i:Nat)(hN:X.N[i]?=some x:=by rfl)(hv:Vis X.env.scope x:=by first|exact Or.inl rfl|exact Or.inr (Or.inl rfl)|exact Or.inr (Or.inr rfl)) (hd:(x==("__debug__" : Str))=false:=by decide)
  (hcd:(x==("__classdict__" : Str))=false:=by decide):RE X (.Name x pos) (a3l i):=⟨a1n hN hv hd hcd⟩
theorem aG {i j pos}:RE X (.Constant (.int i) j pos) (tC (.int i)):=⟨a1h⟩
theorem uR {b j pos}:RE X (.Constant (.bool b) j pos) (tC (.bl b)):=⟨a2B⟩
theorem sI {z j pos}:RE X (.Constant (.str z) j pos) (tC (.str z)):=⟨a1l⟩
theorem LR{i:Int}(h:∃ t,X.mg x=some (.int i t))(hg:Gl X x) (hd:(x==("__debug__" : Str))=false:=by decide):RE X (.Name x pos) (tC (.int i)):=⟨Yz h hg hd⟩
theorem Vl{z:Str}(h:∃ t,X.mg x=some (.str z t))(hg:Gl X x) (hd:(x==("__debug__" : Str))=false:=by decide):RE X (.Name x pos) (tC (.str z)):=⟨YB h hg hd⟩
theorem cV{op:Operator}{r:R2}(ho:OpR X (binaryOp op) r)(ha:RE X a ta)(hb:RE X b tb):RE X (.BinOp a op b pos) (tOp r ta tb):=⟨a2E ho ha.ok hb.ok⟩
theorem M4{op:UnaryOp}{r:V->Hp->VK->Prop}(ho:UnR X (unaryOp op) r)(ha:RE X a ta):RE X (.UnaryOp op a pos) (tUn r ta):=⟨a2G ho ha.ok⟩
theorem Ag{op:CmpOp}{r:R2}(ho:OpR X (compareOp op) r)(ha:RE X a ta)(hb:RE X b tb)(hm:behindInMarks op b=false):RE X (.Compare a [op] [b] pos) (tOp r ta tb):=⟨Yv ho ha.ok hb.ok hm⟩
theorem c7{op:CmpOp}{r:R2}(ho:OpR X (compareOp op) r)(ha:RE X a ta)(hb:RE X b tb)(hm:behindInMarks op b=false):RT X (.Compare a [op] [b] pos) (Ql (tOp r ta tb)):=⟨YX ho ha.ok hb.ok hm⟩
theorem yU{op op':CmpOp}{r r':R2}(ho:OpR X (compareOp op) r)(ho':OpR X (compareOp op') r')(ha:RE X a ta)(hb:RE X b tb)(hc:RE X c tc)
  (hm:lastMarks [op,op'] [b,c]=false:=by with_unfolding_all rfl):RE X (.Compare a [op,op'] [b,c] pos) (Gq r r' ta tb tc):=⟨V4 ho ho' ha.ok hb.ok hc.ok hm⟩
theorem uW{op op':CmpOp}{r r':R2}(ho:OpR X (compareOp op) r)(ho':OpR X (compareOp op') r')(ha:RE X a ta)(hb:RE X b tb)(hc:RE X c tc)
  (hm:lastMarks [op,op'] [b,c]=false:=by with_unfolding_all rfl):RT X (.Compare a [op,op'] [b,c] pos) (Ql (Gq r r' ta tb tc)):=⟨Vg ho ho' ha.ok hb.ok hc.ok hm⟩
theorem mR(h:RE X e te)(he:plainT e=true:=by rfl):RT X e (L2.tB te):=⟨a1y h.ok (a2H he)⟩
theorem yW(ha:RT X a tA):RB X (.BoolOp .And [a] pos) tA:=⟨pw_and1 ha.ok⟩
theorem Vp(ha:RT X a tA):RB X (.BoolOp .Or [a] pos) tA:=⟨pw_or1 ha.ok⟩
theorem FZ(ha:RT X a tA)(hb:RB X (.BoolOp .And (b::rest) pos) tB'):RB X (.BoolOp .And (a::b::rest) pos) (a3e tA tB'):=⟨pw_and ha.ok hb.ok⟩
theorem Vo(ha:RT X a tA)(hb:RB X (.BoolOp .Or (b::rest) pos) tB'):RB X (.BoolOp .Or (a::b::rest) pos) (tOr tA tB'):=⟨pw_or ha.ok hb.ok⟩
theorem RV(h:RB X e tA):RT X e tA:=⟨h.ok.pt⟩
theorem qI(ha:RT X a tA):RT X (.UnaryOp .Not a pos) (a3g tA):=⟨a1x ha.ok⟩
theorem Ei {op} {t:TE} (h:RE X a t):RE X (.BoolOp op [a] pos) t:=⟨a1k h.ok⟩
theorem Jz(ha:RE X a ta)(hb:RE X (.BoolOp .And (b::rest) pos) tb):RE X (.BoolOp .And (a::b::rest) pos) (ZS ta tb):=⟨a1d ha.ok hb.ok⟩
theorem a3X(ha:RE X a ta)(hb:RE X (.BoolOp .Or (b::rest) pos) tb):RE X (.BoolOp .Or (a::b::rest) pos) (a3h ta tb):=⟨a2F ha.ok hb.ok⟩
theorem a2X(ha:RE X a ta):RE X (.UnaryOp .Not a pos) (a01 ta):=⟨a1j ha.ok⟩
theorem ak:RA X [] vm:=⟨a1c⟩
theorem aj(ha:RE X e te)(hr:RA X es t)(hs:notStar e=true:=by rfl):RA X (e::es) (K3 te t):=⟨Yt ha.ok hr.ok (nO hs)⟩
theorem fV {x1} (h:RA X es t):RE X (.Tuple es x1 pos) (a1N t):=⟨a1m h.ok⟩
theorem dG(h:RA X es t):RE X (.List es pos) (a1L t):=⟨a1i h.ok⟩
theorem dz{r:R2}(hr:IxR X r)(ha:RE X a ta)(hb:RE X b tb)(hs:Pn b=true:=by rfl):RE X (.Subscript a b pos) (tOp r ta tb):=⟨a2D hr ha.ok hb.ok (a2r hs)⟩
theorem yZ:RO X none Qk:=⟨YH⟩
theorem z7(h:RE X e te):RO X (some e) (a02 te):=⟨YJ h.ok⟩
theorem yV{lo hi:Option Expr}{tl th:TO}{p2:Pos}{r:V->Option Int->Option Int->Hp->VK->Prop}(hr:SlR X r)(he:RE X e te)(hl:RO X lo tl)(hu:RO X hi th):RE X (.Subscript e (.Slice lo hi none p2) pos) (tSl r te tl th):=⟨V8 hr he.ok hl.ok hu.ok⟩
theorem a2W{f:Str}(he:RE X e ta)(hb:attributeBase e f X.env (eval e X.env)=eval e X.env:=by rfl):RE X (.Attribute e f pos) (a1J X.K ta f):=⟨a1g he.ok hb⟩
variable{k j:Nat}{ps:List Str}{sp:Sp}{E:XK}{id T:String}{r:List V->Hp->VK->Prop}{C:Addr}
theorem aP(D:Df X.prog X.w X.K X.mg X.base k x ps sp)(hr:iG j X.A)(hg:Gl X x)(hx:Passes (CXE X.prog X.w) X E)(ha:RA X (e::es) t)(hk:k<=j:=by decide)(h1:notStar e=true:=by rfl)(h2:es.all notStar=true:=by rfl)
  (hdb:(x==("__debug__" : Str))=false:=by decide):RE X (.Call (.Name x p) (e::es) [] pos) (Qj sp [] E t):=⟨a1A D hr hg hx ha.ok hk h1 h2 hdb⟩
theorem Vm(D:Md X.prog X.w X.K X.mg X.base k x ps C sp)(hr:iG j X.A)(hg:Gl X x)(hx:Passes (CXE X.prog X.w) X E)(ha:RA X (e::es) t)(hk:k+1<=j:=by decide)(h1:notStar e=true:=by rfl)(h2:es.all notStar=true:=by rfl)
  (hdb:(x==("__debug__" : Str))=false:=by decide):RE X (.Call (.Name x p) (e::es) [] pos) (Wb C sp [] E t):=⟨YZ D hr hg hx ha.ok hk h1 h2 hdb⟩
theorem aQ(hc:fB X (.builtin id) r)(hg:Gl X x)(hm:X.mg x=none)(hv:bootBuiltins x=some (.builtin id))(ha:RA X (e::es) t)(h1:notStar e=true:=by rfl)(h2:es.all notStar=true:=by rfl) (hn:x ≠ "__name__":=by decide)
  (hdb:(x==("__debug__" : Str))=false:=by decide):RE X (.Call (.Name x p) (e::es) [] pos) (tCB r t):=⟨Vi hc hg hm hv ha.ok h1 h2 hn hdb⟩
theorem uT(hc:fB X (.type T) r)(hg:Gl X x)(hm:X.mg x=none)(hv:bootBuiltins x=some (.type T))(ha:RA X (e::es) t)(h1:notStar e=true:=by rfl)(h2:es.all notStar=true:=by rfl) (hn:x ≠ "__name__":=by decide)
  (hdb:(x==("__debug__" : Str))=false:=by decide):RE X (.Call (.Name x p) (e::es) [] pos) (tCB r t):=⟨RN hc hg hm hv ha.ok h1 h2 hn hdb⟩
theorem Tv{env:Env}{cpos:Pos}:∀ {es:List Expr},es.all notStar=true->(backTo cpos (starEach es env)).all (fun x=>!x.1)=true
 |[],_=>rfl
 |e::es,h=>by
  rw[BP,jY] at h;rw[nO h.1];show((!false)&&(backTo cpos (starEach es env)).all (fun x=>!x.1))=true;rw[Tv h.2];rfl
variable{name:Str}{apos cpos:Pos}{rm:V->List V->Hp->VK->Prop}
theorem a3W(pa:PlainAttrs T)(slot:Slot T name id) (hty:typeOf (.builtin id)=pure (.type "method_descriptor")) (hm:MtR X id rm) (ho:RE X o to) (ha:RA X (e::es) t) (h1:(e::es).all notStar=true:=by rfl)
  (hbase:attributeBase o name X.env (eval o X.env)=eval o X.env:=by rfl) (hlen:decide ((e::es).length<30)=true:=by rfl) (hline:(apos.endLine==cpos.line)=true:=by rfl):RE X (.Call (.Attribute o name apos) (e::es) [] cpos) (tBM X.K T rm to t):=by
 have h1':=h1;rw[BP,jY] at h1';refine⟨a2C pa slot hty hm ho.ok ha.ok hbase ?_ hline (nO h1'.1) (Ab h1'.2)⟩;rw[Tv h1];have:decide ((e::es).length+([]:List Keyword).length+(if([]:List Keyword).isEmpty then 0 else 1)<30)=true:=by simpa using hlen
 rw[this];rfl
theorem a2V(pa:PlainAttrs T)(slot:Slot T name id) (hty:typeOf (.builtin id)=pure (.type "method_descriptor")) (hm:MtR X id rm) (ho:RE X o to)
  (hbase:attributeBase o name X.env (eval o X.env)=eval o X.env:=by rfl) (hline:(apos.endLine==cpos.line)=true:=by rfl):RE X (.Call (.Attribute o name apos) [] [] cpos) (a1I X.K T rm to):=⟨a1e pa slot hty hm ho.ok hbase hline⟩
end
section
variable{X:Cx}{tg l:Expr}{te:TE}{ta:TA}{p pos:Pos}
theorem Za(hl:RE X l te):RI X tg l (Pa X.K te):=⟨YF hl.ok⟩
theorem a1D(hl:RE X l te):RI X tg l (a2q te):=⟨a1q hl.ok⟩
theorem dH{a:Expr} (hg:Gl X "range") (hm:X.mg "range" = none) (ha:RA X [a] ta) (hs:notStar a=true:=by rfl):RI X tg (.Call (.Name "range" p) [a] [] pos) (Zx ta):=⟨RJ hg hm ha.ok (nO hs)⟩
theorem wG{a b:Expr} (hg:Gl X "range") (hm:X.mg "range" = none) (ha:RA X [a,b] ta) (hs:notStar a=true:=by rfl) (hs2:notStar b=true:=by rfl):RI X tg (.Call (.Name "range" p) [a,b] [] pos) (Zy ta):=
 ⟨RK hg hm ha.ok (by rw[nO hs,nO hs2];rfl) (nO hs2)⟩
theorem uV:RIf X [] K4:=⟨PL⟩
theorem gb{c:Expr}{t:TT}(h:RT X c t):RIf X [c] t:=⟨YG h.ok⟩
theorem iW{x:Str}{px:Pos}{scope:Scope}{elt iter:Expr}{ifs:List Expr}{wi:TI}{tc:TT}(ok:tM scope X.env.scope X.N x=true)(hc:X.calm=true)(hi:RI X (.Name x px) iter wi)
  (hif:∀ s H ex,RIf (dX X x scope s H ex) ifs tc) (he:∀ s H ex,RE (dX X x scope s H ex) elt te) (hs:∀ v,foldedSetIterable iter X.env v=pure v:=by intro _;rfl) :
  RE X (.ListComp elt [⟨.Name x px,iter,ifs,0⟩] scope pos) (ZW wi tc te):=⟨Yy ok hc hi.ok (fun s H ex=>(hif s H ex).ok) (fun s H ex=>(he s H ex).ok) hs⟩
end
section
variable{X:Cx}{st:Stmt}{rest body:List Stmt}{t u tb:TS}{e tg iter:Expr}{te:TE}{pos:Pos}{i:Nat}{x:Str}
theorem cG:RSs X [] a00:=⟨YT⟩
theorem aB(h1:RS X st t)(h2:RSs X rest u):RSs X (st::rest) (a1M t u):=⟨Vf h1.ok h2.ok⟩
theorem aC(h1:RS X st t):RSs X [st] t:=⟨YW h1.ok⟩
theorem jF(he:RE X e te)(hs:yS e=true:=by rfl):RS X (.Expr e pos) (ZX te):=⟨YS he.ok (W7 hs)⟩
theorem bf(he:RE X e te):RS X (.Return (some e) pos) (a3j te):=⟨a1v he.ok⟩
theorem gM{c:Expr}{a b:List Stmt}{tc:TT}(hc:RT X c tc)(ha:RSs X a t)(hb:RSs X b u):RS X (.If c a b pos) (a3f tc t u):=⟨a2I hc.ok ha.ok hb.ok⟩
theorem bC(hN:X.N.Nodup)(hi:X.N[i]?=some x)(hx:Loc X.env.scope x)(hf:X.fn x=true\/X.env.scope.names.lookup x=some .local:=by first|exact .inl rfl|exact .inr rfl|assumption):RG X (.Name x pos) (sE i):=⟨FW hN hi hx hf⟩
theorem uU:RGs X [] TJ:=⟨PK⟩
def Pq:Expr->Bool
 |.Name _ _=>true
 |.Subscript _ _ _=>true
 |_=>false
theorem a1Y{es:List Expr}{env:Env}(h:Pq e=true):(assignEach (e::es) env).map (·.2)=assign e env::(assignEach es env).map (·.2):=by
 cases e<;>first|rfl|cases h
theorem gW{es:List Expr}{t:TG}{u:TGs}(h1:RG X e t)(h2:RGs X es u)(hs:Pq e=true:=by rfl):RGs X (e::es) (xW t u):=⟨Af h1.ok h2.ok (a1Y hs)⟩
theorem Al{es:List Expr}{k:Nat}{t:TGs}{n:Nat}(hc:X.calm=true)(h:RGs X es t)(hn:(assignEach es X.env).length=n:=by rfl)(hst:(assignEach es X.env).findIdx? (·.1)=none:=by rfl):RG X (.Tuple es k pos) (TQ X.K n t):=⟨V9 hc h.ok hn hst⟩
theorem Vs{o i:Expr}{to ti:TE}{t:Qt}(ho:RE X o to)(hi:RE X i ti)(hs:Sq X t) (ha:∀ v,assign (.Subscript o i pos) X.env v=(do
   let ov <- holding [v] (eval o X.env)
   let iv <- holding [v,ov] (eval i X.env)
   standAt pos
   holding [v,ov,iv] (setItem ov iv v)
   release [v,ov,iv] []):=by intro _;rfl):RG X (.Subscript o i pos) (a2l to ti t):=⟨a1o ho.ok hi.ok hs ha⟩
theorem Ao{g:TG}(he:RE X e te)(hg:RG X tg g)(hs:swapsWithSole [tg] e pos.line X.env=pure false:=by rfl)(hw:swappedStores [tg] e X.env=pure none:=by rfl)(h1:(assignEach [tg] X.env).map (·.2)=[assign tg X.env]:=by rfl):RS X (.Assign [tg] e pos) (Zg te g):=⟨a1r he.ok hg.ok hs hw h1⟩
theorem bx{pos':Pos}(hN:X.N.Nodup)(hi:X.N[i]?=some x)(hx:Loc X.env.scope x)(he:RE X e te)(hs:yS e=true:=by rfl)(hf:X.fn x=true\/X.env.scope.names.lookup x=some .local:=by first|exact .inl rfl|exact .inr rfl|assumption) :
  RS X (.Assign [.Name x pos'] e pos) (Zg te (sE i)):=⟨a1w hN hi hx he.ok (W7 hs) hf⟩
theorem Vx{j:Nat}{y:Str}{a b:Expr}{ta:TA}{px py pt:Pos} {kt k2 pt2} (hc:X.calm=true) (hN:X.N.Nodup) (hi:X.N[i]?=some x) (hj:X.N[j]?=some y) (hij:i≠j)
  (hx:X.env.scope.names.lookup x=some .local) (hy:X.env.scope.names.lookup y=some .local) (ha:RA X [a,b] ta) (hw:swappedStores [.Tuple [.Name x px,.Name y py] kt pt] (.Tuple [a,b] k2 pt2) X.env=pure (some [x,y])) :
  RS X (.Assign [.Tuple [.Name x px,.Name y py] kt pt] (.Tuple [a,b] k2 pt2) pos) (a3i i j ta):=⟨a1u hc hN hi hj hij hx hy ha.ok hw⟩
theorem cC{wi:TI}{g:TG}(hp:PassesOwn (model X.prog X.w) X.A X.env X.xe)(hc:X.calm=true)(hi:RI X tg iter wi)(hg:RG X tg g)(hb:RSs X body tb)(hs:∀ x,foldedSetIterable iter X.env x=pure x:=by intro _;rfl) :
  RS X (.For tg iter body [] pos) (a1K wi g tb):=⟨a1t hp hc hi.ok hg.ok hb.ok hs⟩
theorem JL{c:Expr}{tc:TT}(hp:PassesOwn (model X.prog X.w) X.A X.env X.xe)(hc:RT X c tc)(hb:RSs X body tb):RS X (.While c body [] pos) (Wf tc tb):=⟨Vd hp hc.ok hb.ok⟩
theorem M7{o value:Expr}{f:Str}{ta tv:TE}{pos':Pos}(ha:RE X o ta)(hv:RE X value tv)(hs:yS value=true:=by rfl):RS X (.Assign [.Attribute o f pos'] value pos) (a2Y X.K ta tv f):=⟨a1s ha.ok hv.ok (W7 hs)⟩
theorem z8{y:Str}{py px spos:Pos}{scope:Scope}{elt:Expr}{ifs:List Expr}{wi:TI}{tc:TT}(hN:X.N.Nodup)(hiy:X.N[i]?=some y)(hy:X.env.scope.names.lookup y=some .local)
  (ok:tM scope X.env.scope X.N x=true) (hc:X.calm=true) (hi:RI X (.Name x px) iter wi) (hif:∀ s H ex,RIf (dX X x scope s H ex) ifs tc) (he:∀ s H ex,RE (dX X x scope s H ex) elt te)
  (hsw:swapsWith (.ListComp elt [⟨.Name x px,iter,ifs,0⟩] scope pos) (some (.Name y py)) spos.line X.env=pure true:=by rfl) (hs:∀ v,foldedSetIterable iter X.env v=pure v:=by intro _;rfl) :
  RS X (.Assign [.Name y py] (.ListComp elt [⟨.Name x px,iter,ifs,0⟩] scope pos) spos) (W8 i wi tc te):=⟨YQ hN hiy hy ok hc hi.ok (fun s H ex=>(hif s H ex).ok) (fun s H ex=>(he s H ex).ok) hsw hs⟩
theorem RS.nox(h:RS X.nox st t):RS X st t:=⟨PS.nox h.ok⟩
theorem RT.nox{tt:TT}(h:RT X.nox e tt):RT X e tt:=⟨PT.nox h.ok⟩
theorem a1C:RH X [] (fun _ _ _ _=>False):=⟨a1p⟩
end
section
variable{P:Program}{w:World}{K:ao}{mg:Str->Option Value}{base:Heap}{N:List Str}{qual:Str}{scope:Scope}{f:Addr}{cd:Value}{A:Around}{outer:List Env}{s0:Shared}{H0:Hp}{E:XK}
theorem qH{x:Str}{np cpos pos:Pos}{e₀:Expr}{rest:List Expr}{t:TA}{C:Addr}(c:jx K C)(hg:Gl (pO (CXE P w) P w K mg base N qual scope f cd A outer s0 H0 E) x)(hm:mg x=some (.ref C))(hh:A.handled=none)
  (ha:RA (pO (CXE P w) P w K mg base N qual scope f cd A outer s0 H0 E) (e₀::rest) t) (h1:notStar e₀=true:=by rfl) (h2:rest.all notStar=true:=by rfl) (hd:(x==("__debug__" : Str))=false:=by decide) :
  RS (pO (CXE P w) P w K mg base N qual scope f cd A outer s0 H0 E) (.Raise (some (.Call (.Name x np) (e₀::rest) [] cpos)) none pos) (Wd t C E):=⟨Vc c hg hm hh ha.ok hd (nO h1) (Ab h2)⟩
theorem Fun.RQ{x qual:Str}{st:Stmt}{f:Addr}{fd:FuncData}{N ps:List Str}{k:Nat}{sp:Sp}(F:Fun K x qual st f fd)(S:aU N ps (aH st))(len:∀ vs H Q E,sp vs H Q E->vs.length=ps.length)
  (hbody:∀(cdv:Value)(A:Around)(outer:List Env)(s:Shared)(H:Hp)(vs:List V)(Q:VK)(E:XK),iG k (A.deeper (envOfC qual (aH st) s.heap.objs.size f cdv))->sp vs H Q E ->
   ∃ t,RSs (pO (CXE P w) P w K mg base N qual (aH st) f cdv A outer s H E) (fJ st) t/\t { nx:=fun _ H'=>Q .non H',rt:=Q } (start N vs) H):cH P w K mg base (CXE P w) (k+1) f fd ps sp:=
 F.okE S len fun cdv A outer s H vs Q E hr hsp=>let ⟨t,h,q⟩:=hbody cdv A outer s H vs Q E hr hsp;⟨t,h.ok,q⟩
theorem Fun.rok{x qual:Str}{st:Stmt}{f:Addr}{fd:FuncData}{N ps:List Str}{k:Nat}{sp:Sp}(F:Fun K x qual st f fd)(S:aU N ps (aH st))(len:∀ vs H Q E,sp vs H Q E->vs.length=ps.length)
  (hbody:∀(cdv:Value)(A:Around)(outer:List Env)(s:Shared)(H:Hp)(vs:List V)(Q:VK)(E:XK),iG k (A.deeper (envOfC qual (aH st) s.heap.objs.size f cdv))->sp vs H Q E ->
   ∃ t,RSs (pO (CXE P w) P w K mg base N qual (aH st) f cdv A outer s H E).nox (fJ st) t/\t { nx:=fun _ H'=>Q .non H',rt:=Q } (start N vs) H):cH P w K mg base (CXE P w) (k+1) f fd ps sp:=
 F.ok0 S len fun cdv A outer s H vs Q E hr hsp=>let ⟨t,h,q⟩:=hbody cdv A outer s H vs Q E hr hsp;⟨t,h.ok,q⟩
end
mutual
theorem Den.mono{K:ao}{H H':Hp}(s:Same H H'):∀ {v:V} {d:Dt},Den K H v d->Den K H' v d
 |_,_,.non=>.non
 |_,_,.bl b=>.bl b
 |_,_,.int i=>.int i
 |_,_,.str x=>.str x
 |_,_,.tup h hs=>.tup (s _ _ h) (aY.mono s hs)
 |_,_,.lst h hs=>.lst (s.seq h) (aY.mono s hs)
theorem aY.mono{K:ao}{H H':Hp}(s:Same H H'):∀ {vs:List V} {ds:List Dt},aY K H vs ds->aY K H' vs ds
 |_,_,.nil=>.nil
 |_,_,.cons h t=>.cons (Den.mono s h) (aY.mono s t)
end
theorem aY.strs{K:ao}{H:Hp}:∀ zs:List Str,aY K H (zs.map V.str) (zs.map Dt.str)
 |[]=>.nil
 |z::zs=>.cons (.str z) (aY.strs zs)
theorem aY.FP{K:ao}{H:Hp}:∀ {bs:List Bool} {vs:List V},aY K H vs (bs.map Dt.bl)->vs=bs.map V.bl
 |[],_,.nil=>rfl
 |n::ns,_,.cons h t=>by cases h;rw[aY.FP t];rfl
structure pY(J:It)(H:Hp)(vs:List V):Prop where
 go:∀ H' i,Same H H'->i<vs.length->J.go i H'
 yld:∀ H' i v H'',Same H H'->i<vs.length->J.yld i H' v H''->vs[i]?=some v/\H''=H'
 stop:∀ H',Same H H'->J.stop vs.length H'
theorem bZ{K:ao}{H:Hp}{a:Addr}{vs:List V}(h:SqL K H a vs):pY (Itl K a) H vs:=
 ⟨fun H' i s hi=>⟨vs,vs[i],s.seq h,by simp[hi]⟩,fun H' i v H'' s hi y=>⟨y.2 vs (s.seq h),y.1⟩,fun H' s=>⟨vs,s.seq h,bK _⟩⟩
theorem Lz{H:Hp}(lo:Int)(n:Nat):pY (Itr lo n) H (((List.range n).map fun i:Nat=>lo+(i:Int)).map V.int):=by
 have hl:(((List.range n).map fun i:Nat=>lo+(i:Int)).map V.int).length=n:=by simp
 refine⟨fun H' i _ hi=>?_,fun H' i v H'' _ hi y=>⟨?_,y.1⟩,fun H' _=>?_⟩
 ·rw[hl] at hi;exact hi
 ·rw[hl] at hi;rw[y.2];simp[hi]
 ·rw[hl];exact bK _
theorem V1{H:Hp}(z:Str):pY (Its z) H ((z.cps.toList.map fun c=>(⟨#[c]⟩:Str)).map V.str):=by
 have hl:((z.cps.toList.map fun c=>(⟨#[c]⟩:Str)).map V.str).length=z.cps.size:=by simp
 refine⟨fun H' i _ hi=>?_,fun H' i v H'' _ hi y=>?_,fun H' _=>?_⟩
 ·rw[hl] at hi;exact hi
 ·rw[hl] at hi;obtain⟨e,c,ec,y⟩:=y;have:z.cps.toList[i]?=some c:=by simpa using ec
  exact⟨by rw[y];simp[this],e⟩
 ·rw[hl];exact bK _
theorem eF{α:Type}{K:ao}{J:It}{H:Hp}{vs:List V}{xs:List α}{enc:α->Dt}{tc:TT}{te:TE}{zzs:St}{fin:List V->Hp->Prop}(hJ:pY J H vs)(hx:aY K H vs (xs.map enc))(hn:xs.length<=sizeLine)(p:α->Bool)(f:α->Dt)
  (ht:∀ a∈xs,∀ v H',Same H H'->Den K H' v (enc a)->∀ G:Bool->Hp->Prop,(∀ H'',Same H' H''->G (p a) H'')->tc (some v::zzs) H' G)
  (hf:∀ a∈xs,p a=true->∀ v H',Same H H'->Den K H' v (enc a)->∀ G:VK,(∀ y H'',Same H' H''->Den K H'' y (f a)->G y H'')->te (some v::zzs) H' G)
  (hd:∀ ys H',Same H H'->aY K H' ys ((xs.filter p).map f)->fin ys H'):∃ W:Nat->Nat->List V->Hp->Prop,(∃ m,W 0 m [] H)/\m9 J tc te zzs fin W:=by
 have hlv:vs.length=xs.length:=by rw[hx.length,aN]
 refine Om (n:=vs.length) (item:=fun i=>vs.getD i .non) (fun i ys H'=>Same H H'/\aY K H' ys (((xs.take i).filter p).map f)) (by rw[hlv];exact hn) (fun i ys H' hi r=>hJ.go H' i r.1 hi) (fun i ys H' v H'' hi r y=>?_) (fun ys H' r=>hJ.stop H' r.1)
  (fun i ys H' hi r=>?_) ⟨Same.refl _,.nil⟩ (fun i ys H' hi r G hG=>?_) (fun ys H' r=>?_)
 ·obtain⟨e,e'⟩:=hJ.yld H' i v H'' r.1 hi y;exact⟨by rw[dj,e];rfl,e'⟩
 ·rw[r.2.length,aN];exact cO (iJ _ _) (by rw[jX];exact Nat.min_le_left _ _)
 ·obtain⟨s1,D⟩:=r;have hi':i<xs.length:=by lia
  have ev:vs[i]?=some (vs.getD i .non):=by simp[dj,hi]
  obtain⟨d,ed,dv⟩:=hx.get ev;have ea:d=enc xs[i]:=by
   rw[cM,gP hi'] at ed;exact(iy ed).symm
  subst ea;have tk:xs.take (i+1)=xs.take i++[xs[i]]:=by rw[iC,gP hi'];rfl
  refine ht xs[i] (lZ hi') _ H' s1 (dv.mono s1) _ fun H2 s2=>?_
  cases hp:p xs[i] with
  |false=>
   refine wu (hG _ _ ⟨s1.trans s2,?_⟩);rw[tk,sU,show List.filter p [xs[i]]=[] by simp[hp],qX];exact D.mono s2
  |true=>
   refine Cy (hf xs[i] (lZ hi') hp _ H2 (s1.trans s2) (dv.mono (s1.trans s2)) _ fun y H3 s3 dy=>hG _ _ ⟨(s1.trans s2).trans s3,?_⟩);rw[tk,sU,show List.filter p [xs[i]]=[xs[i]] by simp[hp],dZ];exact(D.mono (s2.trans s3)).append (.cons dy .nil)
 ·rw[hlv,iK] at r;exact hd ys H' r.1 r.2
theorem comp_map{α:Type}{K:ao}{J:It}{H:Hp}{vs:List V}{xs:List α}{enc:α->Dt}{te:TE}{zzs:St}{fin:List V->Hp->Prop}(hJ:pY J H vs)(hx:aY K H vs (xs.map enc))(hn:xs.length<=sizeLine)(f:α->Dt)
  (hf:∀ a∈xs,∀ v H',Same H H'->Den K H' v (enc a)->∀ G:VK,(∀ y H'',Same H' H''->Den K H'' y (f a)->G y H'')->te (some v::zzs) H' G)
  (hd:∀ ys H',Same H H'->aY K H' ys (xs.map f)->fin ys H'):∃ W:Nat->Nat->List V->Hp->Prop,(∃ m,W 0 m [] H)/\m9 J K4 te zzs fin W:=
 eF hJ hx hn (fun _=>true) f (fun a _ v H' _ _ G hG=>hG H' (Same.refl _)) (fun a ha _=>hf a ha) fun ys H' s D=>hd ys H' s (by rw[GZ.mpr (fun _ _=>rfl)] at D;exact D)
section
variable{X:Cx}{K:ao}
theorem xY(hu:X.A.units+60<cLine)(hK:X.K=K:=by rfl):OpR X (compareOp .Eq) (Z0 K false):=by subst hK;exact a0U hu
theorem DP(hu:X.A.units+60<cLine)(hK:X.K=K:=by rfl):OpR X (compareOp .NotEq) (Z0 K true):=by subst hK;exact a1a hu
theorem zY(hu:X.A.units+61<cLine)(hK:X.K=K:=by rfl):OpR X (compareOp .In) (RP K false):=by subst hK;exact a0X hu
theorem nC(hu:X.A.units+61<cLine)(hK:X.K=K:=by rfl):OpR X (compareOp .NotIn) (RP K true):=by subst hK;exact Rv hu
theorem dw(hK:X.K=K:=by rfl):IxR X (rIx K):=by subst hK;exact a0r
def ZD(K:ao):List V->Hp->VK->Prop:=fun xs H Q=>(∃ p ys,xs=[.ref p]/\(SqL K H p ys\/SqT K H p ys)/\Q (.int ys.length) H)\/(∃ z,xs=[.str z]/\z.length<=sizeLine/\Q (.int z.length) H)
theorem cQ(hK:X.K=K:=by rfl):fB X (.builtin "len") (ZD K):=by subst hK;exact Ez.or EY
def a3V(K:ao):V->Option Int->Option Int->Hp->VK->Prop:=fun x lo hi H Q=>a2S K x lo hi H Q\/a2T x lo hi H Q
theorem XS(hK:X.K=K:=by rfl):SlR X (a3V K):=by subst hK;exact Zf.or a1H
def Z2(K:ao):List V->Hp->VK->Prop:=fun xs H Q=>∃ p ys,xs=[.ref p]/\(SqL K H p ys\/SqT K H p ys)/\∀ l,H l=none->Q (.ref l) (upd H l (.lst ys))
theorem a0u(hK:X.K=K:=by rfl):fB X (.type "list") (Z2 K):=by subst hK;exact Fb
def a2K(K:ao):List V->Hp->VK->Prop:=fun xs H Q=>∃(p:Addr)(bs:List Bool),xs=[.ref p]/\SqL K H p (bs.map V.bl)/\Q (.bl (bs.all id)) H
theorem k_all(hc:X.calm=true)(hK:X.K=K:=by rfl):fB X (.builtin "all") (a2K K):=by subst hK;exact SN hc
end
section
variable{X:Cx}{K:ao}{tg l e o:Expr}{es:List Expr}{te ta to:TE}{t:TA}{pos apos cpos:Pos}{f name:Str}{T id:String}{rm:V->List V->Hp->VK->Prop}
theorem bB(hl:RE X l te)(hK:X.K=K:=by rfl):RI X tg l (Pa K te):=by subst hK;exact Za hl
theorem qu(he:RE X e ta)(hK:X.K=K:=by rfl)(hb:attributeBase e f X.env (eval e X.env)=eval e X.env:=by rfl):RE X (.Attribute e f pos) (a1J K ta f):=by subst hK;exact a2W he hb
theorem sG(pa:PlainAttrs T)(slot:Slot T name id) (hty:typeOf (.builtin id)=pure (.type "method_descriptor")) (hm:MtR X id rm) (ho:RE X o to) (ha:RA X (e::es) t) (hK:X.K=K:=by rfl) (h1:(e::es).all notStar=true:=by rfl)
  (hbase:attributeBase o name X.env (eval o X.env)=eval o X.env:=by rfl) (hlen:decide ((e::es).length<30)=true:=by rfl) (hline:(apos.endLine==cpos.line)=true:=by rfl):RE X (.Call (.Attribute o name apos) (e::es) [] cpos) (tBM K T rm to t):=by
 subst hK;exact a3W pa slot hty hm ho ha h1 hbase hlen hline
theorem a0A(pa:PlainAttrs T)(slot:Slot T name id) (hty:typeOf (.builtin id)=pure (.type "method_descriptor")) (hm:MtR X id rm) (ho:RE X o to) (hK:X.K=K:=by rfl)
  (hbase:attributeBase o name X.env (eval o X.env)=eval o X.env:=by rfl) (hline:(apos.endLine==cpos.line)=true:=by rfl):RE X (.Call (.Attribute o name apos) [] [] cpos) (a1I K T rm to):=by
 subst hK;exact a2V pa slot hty hm ho hbase hline
end
theorem bO:bootBuiltins "len" = some (.builtin "len"):=by decide +kernel
theorem Kf:bootBuiltins "all" = some (.builtin "all"):=by decide +kernel
theorem Dd:bootBuiltins "sorted" = some (.builtin "sorted"):=by decide +kernel
theorem SM:bootBuiltins "min" = some (.builtin "min"):=by decide +kernel
theorem SJ:bootBuiltins "max" = some (.builtin "max"):=by decide +kernel
theorem a08:bootBuiltins "sum" = some (.builtin "sum"):=by decide +kernel
theorem Sy:bootBuiltins "int" = some (.type "int"):=by decide +kernel
theorem a07:bootBuiltins "str" = some (.type "str"):=by decide +kernel
theorem Xn:bootBuiltins "list" = some (.type "list"):=by decide +kernel
theorem aF{t u:TS}{D:Ends}{zzs:L2.St}{H:Hp}(Mid:L2.St->Hp->Prop)(h:∀ R:L2.St->Hp->Prop,(∀ bJ H',Mid bJ H'->R bJ H')->t { D with nx:=R } zzs H)(k:∀ bJ H',Mid bJ H'->u D bJ H'):a1M t u D zzs H:=h (u D) k
theorem a4a{A Bq:Hp->Prop}{zzs:L2.St}{H:Hp}(h:A H):K4 zzs H (fun b H2=>if b=true then A H2 else Bq H2):=by
 show if true=true then A H else Bq H
 rw[aK rfl];exact h
theorem sz{n:Nat}(h:Nat.ble n 10000=true):n<=sizeLine:=small (GJ h)
theorem xT{i j:Int}:decide (V.int i=V.int j)=decide (i=j):=by simp
theorem gQ{α:Type}{x:α}{xs:List α}:atI (x::xs) 0=some x:=dB (j:=0) rfl
theorem P0{A:Around}{k:Nat}{env:Env}(hr:iG k (A.deeper env)):A.handled=none:=hr.hd
theorem gU{b:Bool}{A Bq:Prop}(h1:b=true->A)(h2:b=false->Bq):if b=true then A else Bq:=by
 cases b with
 |true=>exact Cy (h1 rfl)
 |false=>exact wu (h2 rfl)
theorem zF{l n m:Int}{te:TE}{zzs:L2.St}{H:Hp}{G:Bool->Hp->Prop}(he:∀ Q':VK,Q' (.int m) H->te zzs H Q')(hg:G (decide (l<=n/\n<m)) H) :
  if decide (l<=n)=true then te zzs H (fun w' H4=>rI0 (fun i j=>.bl (decide (i<j))) (.int n) w' H4 fun x H'=>∃ k,x=.bl k/\G k H') else ∃ k,V.bl false=.bl k/\G k H:=by
 refine Cw (fun h1=>he _ ⟨_,_,rfl,rfl,_,rfl,?_⟩) (fun h1=>⟨_,rfl,?_⟩)
 ·have h1':=dN h1;have e:decide (l<=n/\n<m)=decide (n<m):=by simp[h1']
  rw[<- e];exact hg
 ·have e:decide (l<=n/\n<m)=false:=bV fun h=>h1 (bG h.1)
  rw[<- e];exact hg
theorem Dk{l n m:Int}{te:TE}{zzs:L2.St}{H:Hp}{G:VK}(he:∀ Q':VK,Q' (.int m) H->te zzs H Q')(hg:G (.bl (decide (l<=n/\n<m))) H) :
  if decide (l<=n)=true then te zzs H (fun w' H4=>rI0 (fun i j=>.bl (decide (i<j))) (.int n) w' H4 G) else G (.bl false) H:=by
 refine Cw (fun h1=>he _ ⟨_,_,rfl,rfl,?_⟩) (fun h1=>?_)
 ·have h1':=dN h1;have e:decide (l<=n/\n<m)=decide (n<m):=by simp[h1']
  show G (.bl (decide (n<m))) H;rw[<- e];exact hg
 ·have e:decide (l<=n/\n<m)=false:=bV fun h=>h1 (bG h.1)
  rw[<- e];exact hg
abbrev Cell:=Int×Int
def aA(x:Cell):Dt:=.tup [.int x.1,.int x.2]
theorem J4(a b:Cell):eqD (aA a) (aA b)=decide (a=b):=by
 have e1:eqD (.int a.1) (.int b.1)=decide (a.1=b.1):=by rw[uG rfl rfl];exact(WR _ _)
 have e2:eqD (.int a.2) (.int b.2)=decide (a.2=b.2):=by rw[uG rfl rfl];exact(WR _ _)
 show(eqD (.int a.1) (.int b.1)&&(eqD (.int a.2) (.int b.2)&&true))=_;rw[e1,e2,O2];by_cases h1:a.1=b.1<;>by_cases h2:a.2=b.2<;>simp[h1,h2,Prod.ext_iff]
theorem zP(a:Cell):uF (aA a)<=50:=GJ rfl
theorem zy(x:Cell):∀ cs:List Cell,((cs.map aA).any fun e=>eqD e (aA x))=decide (x∈cs)
 |[]=>by simp
 |c::cs=>by
  rw[dJ,xu,J4,zy x cs];by_cases h:c=x<;>by_cases h2:x∈cs<;>simp[h,h2,eq_comm]
  intro e;exact absurd e.symm h
def Ls(K:ao)(H:Hp)(p:Addr)(ds:List Dt):Prop:=∃ xs,H p=some (.lst xs)/\aY K H xs ds
theorem Ls.den{K:ao}{H:Hp}{p:Addr}{ds:List Dt}(h:Ls K H p ds):Den K H (.ref p) (.lst ds):=let ⟨_,e,D⟩:=h;.lst (SqL.of e) D
theorem Ls.mono{K:ao}{H H':Hp}{p:Addr}{ds:List Dt}(h:Ls K H p ds)(s:Same H H'):Ls K H' p ds:=let ⟨xs,e,D⟩:=h;⟨xs,s _ _ e,D.mono s⟩
theorem Ls.new{K:ao}{H:Hp}{p:Addr}{xs:List V}{ds:List Dt}(hp:H p=none)(D:aY K H xs ds):Ls K (upd H p (.lst xs)) p ds:=⟨xs,aD,D.mono (Same.put hp)⟩
structure Fr(K:ao)(H H':Hp)(p:Addr)(ds:List Dt):Prop where
 same:Same H H'
 new:H p=none
 ls:Ls K H' p ds
theorem fK{K:ao}{H:Hp}{v:V}{x:Cell}(h:Den K H v (aA x)):∃ a,v=.ref a/\SqT K H a [.int x.1,.int x.2]/\H a=some (.tup [.int x.1,.int x.2]):=by
 cases h with
 |tup ht hs=>
  cases hs with
  |cons h1 hs=>
   cases hs with
   |cons h2 hs=>
    cases hs;cases h1;cases h2;exact⟨_,rfl,SqT.of ht,ht⟩
theorem gk{K:ao}{H:Hp}{p:Addr}{a b:Int}:Den K (upd H p (.tup [.int a,.int b])) (.ref p) (aA (a,b)):=.tup aD (.cons (.int _) (.cons (.int _) .nil))
section
variable{K:ao}{H:Hp}{v:V}{x:Cell}{p:Addr}{cs:List Cell}{Q:VK}
theorem tX(d:Den K H v (aA x))(q:Q (.int x.1) H):rIx K v (.int 0) H Q:=by
 obtain⟨a,rfl,h,_⟩:=fK d;exact .inr (.inl ⟨a,_,_,_,rfl,rfl,h,gQ,q⟩)
theorem tY(d:Den K H v (aA x))(q:Q (.int x.2) H):rIx K v (.int 1) H Q:=by
 obtain⟨a,rfl,h,_⟩:=fK d;exact .inr (.inl ⟨a,_,_,_,rfl,rfl,h,dB (j:=1) rfl,q⟩)
theorem JH(d:Den K H v (aA x))(h:Den K H (.ref p) (.lst (cs.map aA)))(q:Q (.bl (decide (x∈cs))) H):RP K false v (.ref p) H Q:=by
 refine⟨aA x,cs.map aA,p,rfl,d,.inl h,fun e he=>?_,?_⟩
 ·obtain⟨c,_,rfl⟩:=dR.mp he;exact⟨rfl,zP c⟩
 ·show Q (.bl ((cs.map aA).any fun e=>eqD e (aA x))) H;rw[zy];exact q
theorem qG(d:Den K H v (aA x))(h:Den K H (.ref p) (.lst (cs.map aA)))(q:Q (.bl (!decide (x∈cs))) H):RP K true v (.ref p) H Q:=by
 refine⟨aA x,cs.map aA,p,rfl,d,.inl h,fun e he=>?_,?_⟩
 ·obtain⟨c,_,rfl⟩:=dR.mp he;exact⟨rfl,zP c⟩
 ·show Q (.bl (!(cs.map aA).any fun e=>eqD e (aA x))) H;rw[zy];exact q
theorem Aj{ds:List Dt}(h:Den K H (.ref p) (.lst ds))(q:Q (.int ds.length) H):ZD K [.ref p] H Q:=by
 cases h with
 |lst hl D=>exact .inl ⟨p,_,rfl,.inl hl,by rw[D.length];exact q⟩
theorem M5{zzs:L2.St}{i j:Nat}{N:L2.St->Hp->Prop}(d:Den K H v (aA x))(q:N ((zzs.set i (some (.int x.1))).set j (some (.int x.2))) H):TQ K 2 (xW (sE i) (xW (sE j) TJ)) v zzs H N:=by
 obtain⟨a,rfl,h,_⟩:=fK d;exact⟨a,_,rfl,h,rfl,_,_,rfl,_,_,rfl,rfl,q⟩
theorem Ai{q':Addr}{ds es:List Dt}(h:Ls K H p ds)(h2:Ls K H q' es)(hz:ds.length+es.length<=10000)(q:∀ r H',Fr K H H' r (ds++es)->Q (.ref r) H'):Eh (.ref p) (.ref q') H Q:=by
 obtain⟨xs,e,D⟩:=h;obtain⟨ys,e2,D2⟩:=h2;exact⟨xs,ys,e,e2,by rw[D.length,D2.length];exact small hz,fun r hr=>q r _ ⟨Same.put hr,hr,.new hr (D.append D2)⟩⟩
end
def inF(h w:Int)(x:Cell):Prop:=(0<=x.1/\x.1<h)/\(0<=x.2/\x.2<w)
instance(h w:Int)(x:Cell):Decidable (inF h w x):=by unfold inF;infer_instance
def offs:List Cell:=[(-1,-1),(-1,0),(-1,1),(0,-1),(0,1),(1,-1),(1,0),(1,1)]
def cJ(h w:Int)(x:Cell):List Cell:=(offs.map fun d=>(x.1+d.1,x.2+d.2)).filter fun y=>decide (inF h w y)
def bH(h w:Nat):List Cell:=(List.range h).flatMap fun r:Nat=>(List.range w).map fun c:Nat=>((r:Int),(c:Int))
def tR(h w:Int)(st:List Cell)(x:Cell):Nat:=((cJ h w x).filter fun y=>decide (y∈st)).length
def inS(sg:Str)(c:Nat):Bool:=!(Builtin.Str.occurrences sg ⟨#[c]⟩ 0 sg.length 1).isEmpty
def codeAt(zs:List Str)(x:Nat×Nat):Nat:=(zs.getD x.1 Str.empty).cps.getD x.2 0
def iT(zs:List Str)(w:Nat)(sg:Str):List Cell:=(List.range zs.length).flatMap fun r:Nat=>((List.range w).filter fun c=>inS sg (codeAt zs (r,c))).map fun c:Nat=>((r:Int),(c:Int))
structure Rect(zs:List Str)(w:Nat):Prop where
 ne:1<=zs.length
 le:zs.length<=6
 w1:1<=w
 w6:w<=6
 len:∀ z∈zs,z.length=w
theorem Rect.head{zs:List Str}{w:Nat}(h:Rect zs w):∃ z zt,zs=z::zt/\z.length=w:=by
 cases zs with
 |nil=>exact absurd h.ne (by decide)
 |cons z zt=>exact⟨z,zt,rfl,h.len z cU⟩
def SameBut(p:Addr)(H H':Hp):Prop:=∀ b o,H b=some o->b≠p->H' b=some o
theorem SameBut.refl(p:Addr)(H:Hp):SameBut p H H:=fun _ _ e _=>e
theorem SameBut.trans{p:Addr}{H H1 H2:Hp}(a:SameBut p H H1)(b:SameBut p H1 H2):SameBut p H H2:=fun c o e n=>b c o (a c o e n) n
theorem Same.but{H H':Hp}(s:Same H H')(p:Addr):SameBut p H H':=fun b o e _=>s b o e
theorem SameBut.put{p:Addr}{H H':Hp}{o:HO}(s:SameBut p H H'):SameBut p H (upd H' p o):=fun b u e n=>by rw[bF n];exact s b u e n
theorem SameBut.and{p q:Addr}{H H':Hp}{o:HO}(s:SameBut p H H')(hq:H' q=none):SameBut p H (upd H' q o):=fun b u e n=>(Same.put hq) b u (s b u e n)
theorem SameBut.of{p:Addr}{H H0 H':Hp}(s:SameBut p H0 H')(a:Same H H0)(np:H p=none):Same H H':=fun b o e=>s b o (a b o e) (bU e np)
section
variable{K:ao}{p:Addr}{H H':Hp}{l:List V}
theorem SameBut.seq{a:Addr}{xs:List V}(s:SameBut p H H')(ha:H a=some (.lst xs))(n:a≠p):SqL K H' a xs:=SqL.of (s _ _ ha n)
theorem SameBut.cell{v:V}{x:Cell}(s:SameBut p H H')(hp:H p=some (.lst l))(h:Den K H v (aA x)):Den K H' v (aA x):=by
 obtain⟨a,rfl,_,ht⟩:=fK h;exact .tup (s _ _ ht (qy ht hp (by intro z;cases z))) (.cons (.int _) (.cons (.int _) .nil))
theorem SameBut.cells(s:SameBut p H H')(hp:H p=some (.lst l)):∀ {vs:List V} {cs:List Cell},aY K H vs (cs.map aA)->aY K H' vs (cs.map aA):=by
 intro vs cs D
 induction cs generalizing vs with
 |nil=>cases D;exact .nil
 |cons c cs ih=>cases D with|cons h t=>exact .cons (s.cell hp h) (ih t)
theorem SameBut.ls{q:Addr}{cs:List Cell}(s:SameBut p H H')(hp:H p=some (.lst l))(n:q≠p)(h:Ls K H q (cs.map aA)):Ls K H' q (cs.map aA):=let ⟨xs,e,D⟩:=h;⟨xs,s _ _ e n,s.cells hp D⟩
end
theorem j5{K:ao}{ta tb:TE}{tr:TA}{zzs:L2.St}{H:Hp}{Q:List V->Hp->Prop}(a b:Int)(ha:∀ Q':VK,Q' (.int a) H->ta zzs H Q')(hb:∀ Q':VK,Q' (.int b) H->tb zzs H Q')
  (h:∀ v H',Same H H'->Den K H' v (aA (a,b))->tr zzs H' fun xs H2=>Q (v::xs) H2):K3 (a1N (K3 ta (K3 tb vm))) tr zzs H Q:=
 ha _ (hb _ ⟨sz rfl,fun p hp=>h _ _ (Same.put hp) gk⟩)
theorem Tz{K:ao}{ta:TA}{g:TG}{tb:TS}{D:Ends}{zzs:L2.St}{H:Hp}
  (h:ta zzs H fun xs H1=>xs.length<=sizeLine/\∀ p,H1 p=none->∃ a,V.ref p=.ref a/\(∃ ys,SqL K (upd H1 p (.lst xs)) a ys)/\∃ W:Nat->Nat->L2.St->Hp->Prop,(∃ m,W 0 m zzs (upd H1 p (.lst xs)))/\∀ i m zzs H,W i m zzs H ->
   ((Itl K a).stop i H/\D.nx zzs H)\/((Itl K a).go i H/\∃ N:L2.St->Hp->Prop,(∀ bJ H',N bJ H'->∃ m',m'<m/\W (i+1) m' bJ H')/\∀ x H',(Itl K a).yld i H x H'->g x zzs H' fun pG H2=>tb { D with nx:=N,ct:=N,bk:=D.nx } pG H2)) :
  a1K (Pa K (a1L ta)) g tb D zzs H:=h
theorem ltl{n:Nat}(h:n<10000):n<sizeLine:=jl h (by rw[mZ];decide)
theorem wF{K:ao}{p:Addr}{H:Hp}{l:List V}{v:V}{Q:VK}(hp:H p=some (.lst l))(hz:l.length<10000)(q:Q .non (upd H p (.lst (l++[v])))):PX (.ref p) [v] H Q:=
 ⟨p,l,v,rfl,rfl,hp,jl hz (by rw[mZ];decide),q⟩
theorem Ke{zs:List Str}{r:Nat}(h:r<zs.length):atI (zs.map V.str) (r:Int)=some (.str (zs.getD r Str.empty)):=dB (by simp[dj,h])
theorem Xk{z:Str}{c:Nat}(h:c<z.length):atI z.cps.toList (c:Int)=some (z.cps.getD c 0):=by
 have h':c<z.cps.size:=h;exact dB (by simp[pJ,h'])
theorem Rect.row{zs:List Str}{w r:Nat}(h:Rect zs w)(hr:r<zs.length):(zs.getD r Str.empty).length=w:=by
 have e:zs.getD r Str.empty=zs[r]:=by simp[dj,hr]
 rw[e];exact h.len _ (lZ hr)
theorem yX{K:ao}{H:Hp}{p:Addr}{zs:List Str}{w r c:Nat}{Q:VK}(hS:SqL K H p (zs.map V.str))(rc:Rect zs w)(hr:r<zs.length)(hc:c<w)(q:Q (.str ⟨#[codeAt zs (r,c)]⟩) H):rIx K (.str (zs.getD r Str.empty)) (.int (c:Int)) H Q:=by
 have e:=rc.row hr;exact .inr (.inr ⟨_,_,_,rfl,rfl,small (by have:=rc.w6;lia),Xk (by lia),q⟩)
theorem G9{K:ao}{H:Hp}{p:Addr}{zs:List Str}{r:Nat}{Q:VK}(hS:SqL K H p (zs.map V.str))(hr:r<zs.length)(q:Q (.str (zs.getD r Str.empty)) H):rIx K (.ref p) (.int (r:Int)) H Q:=
 .inl ⟨p,_,_,_,rfl,rfl,hS,Ke hr,q⟩
theorem mF{H:Hp}(n:Nat):pY (Itr 0 n) H ((List.range n).map fun i:Nat=>V.int (i:Int)):=by
 have h:=Lz (H:=H) 0 n;have e:(((List.range n).map fun i:Nat=>(0:Int)+(i:Int)).map V.int)=(List.range n).map fun i:Nat=>V.int (i:Int):=by
  rw[nR];refine Hf fun i _=>?_
  simp
 rw[e] at h;exact h
theorem aY.nats{K:ao}{H:Hp}:∀ l:List Nat,aY K H (l.map fun i:Nat=>V.int (i:Int)) (l.map fun i:Nat=>Dt.int (i:Int))
 |[]=>.nil
 |_::l=>.cons (.int _) (aY.nats l)
theorem bL{h w:Nat}{x:Cell}:x∈bH h w↔inF h w x:=by
 unfold bH inF;rw[List.mem_flatMap];constructor
 ·rintro⟨r,hr,hx⟩;obtain⟨c,hc,rfl⟩:=dR.mp hx;rw[cR] at hr hc;exact⟨⟨by show(0:Int)<=(r:Int);lia,by show(r:Int)<h;lia⟩,⟨by show(0:Int)<=(c:Int);lia,by show(c:Int)<w;lia⟩⟩
 ·rintro⟨⟨a,b⟩,⟨c,d⟩⟩;refine⟨x.1.toNat,cR.mpr (by lia),dR.mpr ⟨x.2.toNat,cR.mpr (by lia),?_⟩⟩;exact jh (by show((x.1.toNat:Nat):Int)=x.1;lia) (by show((x.2.toNat:Nat):Int)=x.2;lia)
theorem oJ(h w:Nat):bH (h+1) w=bH h w++(List.range w).map fun c:Nat=>((h:Int),(c:Int)):=by
 unfold bH;rw[tu,Hg];simp
theorem eU(h w:Nat):(bH h w).length=h*w:=by
 induction h with
 |zero=>simp[bH]
 |succ h ih=>rw[oJ,cL,ih,aN,jo,O5]
theorem gA(h w:Int)(x:Cell):(cJ h w x).length<=8:=by
 unfold cJ;exact cO (iJ _ _) (by rw[aN];decide)
theorem Ox(h w:Int)(st:List Cell)(x:Cell):tR h w st x<=8:=cO (iJ _ _) (gA h w x)
theorem lG{h w:Int}{x y:Cell}(hy:y∈cJ h w x):inF h w y:=by
 unfold cJ at hy;exact dN (cB.mp hy).2
def vU(zs:List Str)(w:Nat)(sg:Str)(n:Nat):List Cell:=(List.range n).flatMap fun r:Nat=>((List.range w).filter fun c=>inS sg (codeAt zs (r,c))).map fun c:Nat=>((r:Int),(c:Int))
theorem xO(zs:List Str)(w:Nat)(sg:Str)(n:Nat):vU zs w sg (n+1)=vU zs w sg n++((List.range w).filter fun c=>inS sg (codeAt zs (n,c))).map fun c:Nat=>((n:Int),(c:Int)):=by
 unfold vU;rw[tu,Hg];simp
theorem Km(zs:List Str)(w:Nat)(sg:Str):∀ n,(vU zs w sg n).length<=n*w:=by
 intro n
 induction n with
 |zero=>simp[vU]
 |succ n ih=>
  rw[xO,cL,O5,aN];exact Nat.add_le_add ih (cO (iJ _ _) (by rw[jo];exact bK _))
def CK(h w:Int)(st kn:List Cell)(x:Cell):Nat:=if x∈kn then 48+tR h w st x else 35
def nJ(h w:Int)(st kn:List Cell)(r:Int)(n:Nat):Str:=⟨((List.range n).map fun c:Nat=>CK h w st kn (r,(c:Int))).toArray⟩
def gF(h w:Nat)(st kn:List Cell):List Str:=(List.range h).map fun r:Nat=>nJ h w st kn (r:Int) w
theorem Vu(h w:Int)(st kn:List Cell)(r:Int)(n:Nat):nJ h w st kn r (n+1)=nJ h w st kn r n++⟨#[CK h w st kn (r,(n:Int))]⟩:=by
 unfold nJ;rw[tu,dZ];show(⟨_⟩:Str)=⟨_++_⟩;simp
theorem Q0(h w:Int)(st kn:List Cell)(r:Int)(n:Nat):(nJ h w st kn r n).length=n:=by
 show(((List.range n).map fun c:Nat=>CK h w st kn (r,(c:Int))).toArray).size=n;simp
theorem dig:∀ n,n<=8->(Str.ofString (toString ((n:Nat):Int)):Str)=⟨#[48+n]⟩:=by
 intro n hn;have:=(by decide +kernel:∀ k∈List.range 9,(Str.ofString (toString ((k:Nat):Int)):Str)=⟨#[48+k]⟩)
 exact this n (cR.mpr (by lia))
theorem XD(n:Nat)(h:n<=8):((n:Nat):Int).natAbs.log2<1920:=by
 have e:((n:Nat):Int).natAbs=n:=Int.natAbs_natCast n;rw[e];have:=(by decide:∀ k∈List.range 9,k.log2<1920)
 exact this n (cR.mpr (by lia))
inductive Reach(h w:Int)(st kn:List Cell)(x0:Cell):Cell->Prop
 |base:Reach h w st kn x0 x0
 |step {x y:Cell}:Reach h w st kn x0 x->tR h w st x=0->y∈cJ h w x->y∉kn->Reach h w st kn x0 y
theorem Tw{h w:Int}{st:List Cell}{x y:Cell}(e:tR h w st x=0)(hy:y∈cJ h w x):y∉st:=by
 unfold tR at e;intro hs;have:=Gz.mp e;have m:y∈(cJ h w x).filter fun y=>decide (y∈st):=cB.mpr ⟨hy,bG hs⟩
 rw[this] at m;cases m
theorem Reach.inF{h w:Int}{st kn:List Cell}{x0 y:Cell}(h0:inF h w x0)(r:Reach h w st kn x0 y):L2.inF h w y:=by
 induction r with
 |base=>exact h0
 |step _ _ hy _ _=>exact lG hy
theorem Reach.free{h w:Int}{st kn:List Cell}{x0 y:Cell}(h0:x0∉st)(r:Reach h w st kn x0 y):y∉st:=by
 induction r with
 |base=>exact h0
 |step _ e hy _ _=>exact Tw e hy
theorem Reach.new{h w:Int}{st kn:List Cell}{x0 y:Cell}(h0:x0∉kn)(r:Reach h w st kn x0 y):y∉kn:=by
 cases r with
 |base=>exact h0
 |step _ _ _ hk=>exact hk
theorem Jh(h w:Int)(x:Cell):(cJ h w x).Nodup:=by
 unfold cJ;refine Nq Hh ?_;unfold List.Nodup;rw[List.pairwise_map];have o:offs.Pairwise (·≠·):=by decide
 refine o.imp fun {a b} hab e=>hab ?_
 have e1:=congrArg Prod.fst e;have e2:=congrArg Prod.snd e;simp only at e1 e2;exact jh (by lia) (by lia)
theorem lK{α:Type} [DecidableEq α]:∀ {l1 l2:List α},l1.Nodup->(∀ x∈l1,x∈l2)->l1.length<=l2.length
 |[],_,_,_=>kj _
 |a::l1,l2,hn,hs=>by
  have ha:=hs a cU;have hn':=Bv.mp hn;have ih:=lK (l1:=l1) (l2:=l2.erase a) hn'.2 fun x hx=>(List.mem_erase_of_ne (fun e:x=a=>hn'.1 (by rw[<- e];exact hx))).mpr (hs x (dI _ hx))
  rw[List.length_erase_of_mem ha] at ih;have:0<l2.length:=WK ha;rw[dY];lia
structure mj(h w:Int)(st kn:List Cell)(x0:Cell)(cs:List Cell)(at_:Nat):Prop where
 nd:cs.Nodup
 has:x0∈cs
 rch:∀ y∈cs,Reach h w st kn x0 y
 le:at_<=cs.length
 cl:∀ i y,i<at_->cs[i]?=some y->tR h w st y=0->∀ z∈cJ h w y,z∈kn\/z∈cs
theorem mj.done{h w:Int}{st kn:List Cell}{x0:Cell}{cs:List Cell}(o:mj h w st kn x0 cs cs.length)(y:Cell):y∈cs↔Reach h w st kn x0 y:=by
 refine⟨o.rch y,fun r=>?_⟩
 induction r with
 |base=>exact o.has
 |step _ e hy hk ih=>
  obtain⟨i,hi⟩:=Bm ih;have hlt:i<cs.length:=(iI.mp hi).1;rcases o.cl i _ hlt hi e _ hy with z|z
  ·exact absurd z hk
  ·exact z
theorem mj.grow{h w:Int}{st kn:List Cell}{x0 x:Cell}{cs:List Cell}{n:Nat}(o:mj h w st kn x0 cs n)(hx:cs[n]?=some x)(e:tR h w st x=0) :
  mj h w st kn x0 (cs++(cJ h w x).filter fun y=>!decide (y∈kn)&&!decide (y∈cs)) (n+1):=by
 have hn:n<cs.length:=(iI.mp hx).1;have mem:∀ y,y∈((cJ h w x).filter fun y=>!decide (y∈kn)&&!decide (y∈cs))↔y∈cJ h w x/\y∉kn/\y∉cs:=fun y=>by
  rw[cB];simp
 refine⟨?_,jj _ o.has,fun y hy=>?_,by rw[cL];lia,fun i y hi hy e' z hz=>?_⟩
 ·refine yE.mpr ⟨o.nd,Nq Hh (Jh h w x),fun a ha b hb hab=>?_⟩;rw[<- hab] at hb;exact((mem a).mp hb).2.2 ha
 ·rcases cD.mp hy with z|z
  ·exact o.rch y z
  ·obtain⟨z1,z2,z3⟩:=(mem y).mp z;exact .step (o.rch x (eO hx)) e z1 z2
 ·have hi':i<cs.length:=by lia
  rw[Ep hi'] at hy;by_cases hin:i=n
  ·subst hin;rw[hx] at hy;cases hy;by_cases zk:z∈kn
   ·exact .inl zk
   ·by_cases zc:z∈cs
    ·exact .inr (jj _ zc)
    ·exact .inr (gn _ ((mem z).mpr ⟨hz,zk,zc⟩))
  ·rcases o.cl i y (by lia) hy e' z hz with q|q
   ·exact .inl q
   ·exact .inr (jj _ q)
theorem mj.skip{h w:Int}{st kn:List Cell}{x0 x:Cell}{cs:List Cell}{n:Nat}(o:mj h w st kn x0 cs n)(hx:cs[n]?=some x)(e:tR h w st x≠0):mj h w st kn x0 cs (n+1):=by
 have hn:n<cs.length:=(iI.mp hx).1;refine⟨o.nd,o.has,o.rch,hn,fun i y hi hy e' z hz=>?_⟩;by_cases hin:i=n
 ·subst hin;rw[hx] at hy;cases hy;exact absurd e' e
 ·exact o.cl i y (by lia) hy e' z hz
theorem mj.len{h w:Nat}{st kn:List Cell}{x0:Cell}{cs:List Cell}{n:Nat}(o:mj h w st kn x0 cs n)(h0:inF h w x0)(h6:h<=6)(w6:w<=6):cs.length<=36:=by
 have:=lK (l2:=bH h w) o.nd fun y hy=>bL.mpr ((o.rch y hy).inF h0)
 rw[eU] at this;have:h*w<=6*6:=jZ h6 w6;lia
theorem a0p{sg:Str}{c:Nat}(h:c∉sg.cps.toList):inS sg c=false:=by
 unfold inS;rw[PySem.W.occ_nil_of_no sg ⟨#[c]⟩ 1 fun i hi=>?_]
 ·rfl
 ·cases e:Builtin.Str.subAt sg ⟨#[c]⟩ i with
  |false=>rfl
  |true=>
   refine absurd ?_ h;have e':sg.cps.extract i (i+1)=#[c]:=iM.mp e;have hm:c∈sg.cps.extract i (i+1):=by rw[e'];simp
   obtain⟨k,hk,e2⟩:=Array.mem_extract_iff_getElem.mp hm;rw[<- e2];exact Mz _
theorem Fy{sg:Str}(h:sg.cps.toList.all (inS sg)=true)(c:Nat):inS sg c=decide (c∈sg.cps.toList):=by
 by_cases hc:c∈sg.cps.toList
 ·rw[bG hc];exact jq.mp h c hc
 ·rw[bV hc];exact a0p hc
def sJ(c:Nat):Bool:=decide (c=35\/(48<=c/\c<=56))
theorem XQ(c:Nat):inS "#012345678" c=sJ c:=by
 rw[Fy (by decide +kernel)];have e:("#012345678" : Str).cps.toList=[35,48,49,50,51,52,53,54,55,56]:=by decide +kernel
 rw[e];by_cases h:c<57
 ·exact(by decide +kernel:∀ k∈List.range 57,decide (k∈[35,48,49,50,51,52,53,54,55,56])=sJ k) c (cR.mpr h)
 ·have n1:¬c∈[35,48,49,50,51,52,53,54,55,56]:=fun z=>h ((by decide:∀ k∈[35,48,49,50,51,52,53,54,55,56],k<57) c z)
  have n2:sJ c=false:=by unfold sJ;exact bV (by lia)
  rw[bV n1,n2]
theorem U4(c:Nat):inS "#" c=decide (c=35):=by
 rw[Fy (by decide +kernel)];have e:("#" : Str).cps.toList=[35]:=by decide +kernel
 rw[e];simp
theorem yr(x:Str)(lo hi:Option Int):(Txt.slice x lo hi).cps.toList=(x.cps.toList.drop (HT.sIx x.length 0 lo)).take (HT.sIx x.length x.length hi-HT.sIx x.length 0 lo):=by
 have e:Builtin.Str.strSliceIndices lo hi 1 x.length=(List.range (HT.sIx x.length x.length hi-HT.sIx x.length 0 lo)).map (HT.sIx x.length 0 lo+·):=by
  obtain⟨h1,h2,_⟩:=vf lo hi x.length;rw[<- sliceRange_one,<- h1,<- h2];rfl
 unfold Txt.slice;rw[e];have hb:HT.sIx x.length x.length hi<=x.length:=HT.Vz _ _ (bK _) hi;have ha:HT.sIx x.length 0 lo<=x.length:=HT.Vz _ _ (kj _) lo;have hx:x.cps.toList.length=x.length:=jk;split
 ·rename_i hc;simp only[aN,jo,jY,iM] at hc;have h0:HT.sIx x.length x.length hi-HT.sIx x.length 0 lo=x.length:=hc.2;by_cases hz:x.length=0
  ·have:x.cps.toList=[]:=Gz.mp (by rw[hx,hz]);rw[this];simp
  ·have e1:HT.sIx x.length 0 lo=0:=by lia
   rw[h0,e1,HF,<- hx,iK]
 ·show(((List.range _).map _).filterMap (x.cps[·]?)).toArray.toList=_;rw[pick_run]
theorem VH(x:Str)(n:Nat)(h:n<=x.length):(Txt.slice x none (some (n:Int))).cps.toList=x.cps.toList.take n:=by
 rw[yr,HT.uX,HT.z9,Bw h,HF,Nat.sub_zero]
theorem Mj(x:Str)(n:Nat)(h:n<=x.length):(Txt.slice x (some (n:Int)) none).cps.toList=x.cps.toList.drop n:=by
 rw[yr,HT.uX,HT.z9,Bw h];refine Cd ?_;rw[uh,jk];exact bK _
theorem vR(a b:Str):(a++b).cps.toList=a.cps.toList++b.cps.toList:=by
 show(a.cps++b.cps).toList=_;simp
theorem str_len(z:Str):z.length=z.cps.toList.length:=jk.symm
structure Vw(zs:List Str)(w:Nat):Prop extends Rect zs w where
 sg:∀ z∈zs,∀ c∈z.cps.toList,sJ c=true
theorem VG{h w:Nat}{st kn:List Cell}(h1:1<=h)(h6:h<=6)(w1:1<=w)(w6:w<=6):Vw (gF h w st kn) w:=by
 have hl:(gF h w st kn).length=h:=by unfold gF;rw[aN,jo]
 refine⟨⟨by lia,by lia,w1,w6,fun z hz=>?_⟩,fun z hz c hc=>?_⟩
 ·obtain⟨r,_,rfl⟩:=dR.mp hz;exact Q0 _ _ _ _ _ _
 ·obtain⟨r,_,rfl⟩:=dR.mp hz;unfold nJ at hc;simp only[dR] at hc;obtain⟨k,_,rfl⟩:=hc;unfold CK sJ;have:=Ox h w st ((r:Int),(k:Int));split
  ·exact bG (.inr ⟨by lia,by lia⟩)
  ·exact bG (.inl rfl)
def rQ(zs:List Str)(r c:Nat)(s:Str):List Str:=zs.take r++[Txt.slice (zs.getD r Str.empty) none (some (c:Int))++s++Txt.slice (zs.getD r Str.empty) (some ((c:Int)+1)) none]++zs.drop (r+1)
theorem a1z{zs:List Str}{w r c:Nat}{s:Str}(v:Vw zs w)(hr:r<zs.length)(hc:c<w)(hs:s.length=1)(hk:∀ k∈s.cps.toList,sJ k=true):Vw (rQ zs r c s) w/\(rQ zs r c s).length=zs.length:=by
 have er:=v.toRect.row hr;have mem:zs.getD r Str.empty∈zs:=by
  have e:zs.getD r Str.empty=zs[r]:=by simp[dj,hr]
  rw[e];exact lZ hr
 have s1:=VH (zs.getD r Str.empty) c (by lia);have s2:(Txt.slice (zs.getD r Str.empty) (some ((c:Int)+1)) none).cps.toList=(zs.getD r Str.empty).cps.toList.drop (c+1):=Mj (zs.getD r Str.empty) (c+1) (by lia);have TV:(Txt.slice (zs.getD r Str.empty) none (some (c:Int))++s++Txt.slice (zs.getD r Str.empty) (some ((c:Int)+1)) none).cps.toList=(zs.getD r Str.empty).cps.toList.take c++s.cps.toList++(zs.getD r Str.empty).cps.toList.drop (c+1):=by
  rw[vR,vR,s1,s2]
 have hll:(rQ zs r c s).length=zs.length:=by
  unfold rQ;rw[cL,cL,jX,uh,nQ];lia
 have ln:(zs.getD r Str.empty).cps.toList.length=w:=by rw[<- str_len];exact er
 refine⟨⟨⟨by rw[hll];exact v.ne,by rw[hll];exact v.le,v.w1,v.w6,fun z hz=>?_⟩,fun z hz k hk'=>?_⟩,hll⟩
 ·unfold rQ at hz;rcases cD.mp hz with hz|hz
  ·rcases cD.mp hz with hz|hz
   ·exact v.len z (yx hz)
   ·rw[dU.mp hz,str_len,TV,cL,cL,jX,uh,ln,<- str_len,hs];lia
  ·exact v.len z (Bo hz)
 ·unfold rQ at hz;rcases cD.mp hz with hz|hz
  ·rcases cD.mp hz with hz|hz
   ·exact v.sg z (yx hz) k hk'
   ·rw[dU.mp hz,TV] at hk';rcases cD.mp hk' with q|q
    ·rcases cD.mp q with q|q
     ·exact v.sg _ mem k (yx q)
     ·exact hk k q
    ·exact v.sg _ mem k (Bo q)
  ·exact v.sg z (Bo hz) k hk'
def Am(z:Str)(n:Int):Bool:=decide ((z.length:Int)=n)&&z.cps.toList.all (inS "#012345678")
def yu:List Str->Bool
 |[]=>false
 |z::zs=>decide ((z::zs).length<=6)&&decide (1<=z.length/\z.length<=6)&&(z::zs).all fun r=>Am r z.length
theorem Bg{z:Str}{zs:List Str}(h1:(z::zs).length<=6)(h2:1<=z.length)(h3:z.length<=6):yu (z::zs)=(z::zs).all fun r=>Am r z.length:=by
 show(decide ((z::zs).length<=6)&&decide (1<=z.length/\z.length<=6)&&_)=_;rw[bG h1,bG (And.intro h2 h3)];rfl
theorem Mt{z:Str}{zs:List Str}(h1:¬(z::zs).length<=6):yu (z::zs)=false:=by
 show(decide ((z::zs).length<=6)&&_&&_)=_;rw[bV h1];rfl
theorem Mu{z:Str}{zs:List Str}(h1:¬(1<=z.length/\z.length<=6)):yu (z::zs)=false:=by
 show(_&&decide (1<=z.length/\z.length<=6)&&_)=_;rw[bV h1,BJ];rfl
theorem Vw.ok{zs:List Str}{w:Nat}(v:Vw zs w):yu zs=true:=by
 obtain⟨z,zt,rfl,hz⟩:=v.toRect.head;rw[Bg v.le (by have:=v.w1;lia) (by have:=v.w6;lia),jq];intro r hr;unfold Am;rw[bG (by rw[v.len r hr,hz]),pN,jq];intro c hc;rw[XQ];exact v.sg r hr c hc
def xV(l:Addr)(h w:Int):List (Str×V):=jO "width" (.int w) (jO "height" (.int h) (jO "rows" (.ref l) []))
theorem Tt(l:Addr)(h w:Int):(xV l h w).lookup ("rows" : Str)=some (.ref l):=by
 unfold xV;rw[fU,aJ (by decide +kernel),fU,aJ (by decide +kernel),fU,aK rfl]
theorem zV(l:Addr)(h w:Int):(xV l h w).lookup ("height" : Str)=some (.int h):=by
 unfold xV;rw[fU,aJ (by decide +kernel),fU,aK rfl]
theorem Ft(l:Addr)(h w:Int):(xV l h w).lookup ("width" : Str)=some (.int w):=by
 unfold xV;rw[fU,aK rfl]
structure dW(C:Addr)(H:Hp)(x:Addr)(zs:List Str)(w:Nat):Prop where
 ob:∃ dx l,H x=some (.ins C dx (xV l zs.length w))/\H l=some (.lst (zs.map V.str))
 vw:Vw zs w
theorem dW.mono{C:Addr}{H H':Hp}{x:Addr}{zs:List Str}{w:Nat}(v:dW C H x zs w)(s:Same H H'):dW C H' x zs w:=let ⟨dx,l,a,b⟩:=v.ob;⟨⟨dx,l,s _ _ a,s _ _ b⟩,v.vw⟩
def aM(zs:List Str)(w:Nat)(x:Cell):Bool:=decide (inF zs.length w x)&&decide (codeAt zs (x.1.toNat,x.2.toNat)=35)
def bA(zs:List Str)(w:Nat):List Cell:=(bH zs.length w).filter (aM zs w)
theorem uz(zs:List Str)(w:Nat):bA zs w=iT zs w "#":=by
 unfold bA iT bH;rw[List.filter_flatMap];have key:∀ r∈List.range zs.length,((List.range w).map fun c:Nat=>((r:Int),(c:Int))).filter (aM zs w)=((List.range w).filter fun c=>inS "#" (codeAt zs (r,c))).map fun c:Nat=>((r:Int),(c:Int)):=by
  intro r hr;rw[List.filter_map];congr 1;refine Ht fun c hc=>?_
  rw[cR] at hr hc;show aM zs w ((r:Int),(c:Int))=_;unfold aM;rw[U4,bG (show inF zs.length w ((r:Int),(c:Int)) from⟨⟨by show(0:Int)<=(r:Int);lia,by show(r:Int)<zs.length;lia⟩,⟨by show(0:Int)<=(c:Int);lia,by show(c:Int)<w;lia⟩⟩),pN];rfl
 have go:∀ l:List Nat,(∀ r∈l,r∈List.range zs.length)->l.flatMap (fun r:Nat=>((List.range w).map fun c:Nat=>((r:Int),(c:Int))).filter (aM zs w))=l.flatMap (fun r:Nat=>((List.range w).filter fun c=>inS "#" (codeAt zs (r,c))).map fun c:Nat=>((r:Int),(c:Int))):=by
  intro l
  induction l with
  |nil=>intro _;rfl
  |cons a l ih=>intro h;rw[Nt,Nt,key a (h a cU),ih fun r hr=>h r (dI _ hr)]
 exact go _ fun r hr=>hr
def yR(w:Nat)(x:Cell)(r:Int):List Cell:=((List.range ((min (x.2+2) w)-(max (x.2-1) 0)).toNat).map fun k:Nat=>(r,max (x.2-1) 0+(k:Int))).filter fun y=>!decide (y=x)
def oV(w:Nat)(x:Cell)(lo:Int)(n:Nat):List Cell:=(List.range n).flatMap fun k:Nat=>yR w x (lo+(k:Int))
def LK(h w:Nat)(x:Cell):List Cell:=oV w x (max (x.1-1) 0) ((min (x.1+2) h)-(max (x.1-1) 0)).toNat
theorem RL:∀ h∈List.range 7,∀ w∈List.range 7,∀ r∈List.range h,∀ c∈List.range w,LK h w ((r:Int),(c:Int))=cJ h w ((r:Int),(c:Int)):=by decide +kernel
theorem Va{h w:Nat}{x:Cell}(h6:h<=6)(w6:w<=6)(hx:inF h w x):LK h w x=cJ h w x:=by
 obtain⟨⟨a,b⟩,⟨c,d⟩⟩:=hx;have:=RL h (cR.mpr (by lia)) w (cR.mpr (by lia)) x.1.toNat (cR.mpr (by lia)) x.2.toNat (cR.mpr (by lia));have e:(((x.1.toNat:Nat):Int),((x.2.toNat:Nat):Int))=x:=jh (by show((x.1.toNat:Nat):Int)=x.1;lia) (by show((x.2.toNat:Nat):Int)=x.2;lia);rw[e] at this;exact this
def aL(zs:List Str)(w:Nat)(x:Cell):List Cell:=(cJ zs.length w x).filter fun y=>!aM zs w y
def au(zs:List Str)(w:Nat)(x:Cell):List Cell:=(cJ zs.length w x).filter fun y=>aM zs w y
open PySem.W
section
variable{prog:Program}{w:World}{A:Around}{E:Value->Shared->Prop}{s:Shared}
abbrev Keeps(h h':Heap):Prop:=∀ b o,h.get? b=some o->h'.get? b=some o
end
def aV(a b:Cell):Prop:=a.1<b.1\/(a.1=b.1/\a.2<b.2)
instance(a b:Cell):Decidable (aV a b):=by unfold aV;infer_instance
section
variable{X:Cx}
theorem lE{pins:List (Addr×Obj)}{zzs:L2.St}{H:Hp}{s:Shared}{v:V}{u:Value}{c:Cell}(I:Inv X pins zzs H s)(d:Den X.K H v (aA c))(r:RelV v u):∃(a:Addr)(o:Obj)(t t':Tok)(n:Nat),u=.ref a/\s.heap.get? a=some o/\o.cls=.type "tuple" /\ o.data=.seq #[.int c.1 t,.int c.2 t'] n:=by
 obtain⟨a,rfl,ht,_⟩:=fK d;cases r;obtain⟨its,rv,⟨o,e,hc,n,hd⟩,_⟩:=I.tuple ht;obtain⟨u1,u2,rfl,⟨t,rfl⟩,⟨t',rfl⟩⟩:=vals2 rv;exact⟨a,o,t,t',n,rfl,e,hc,hd⟩
end
section
variable{X:Cx}{K:ao}
theorem a0Y:OpR X (compareOp .Is) (fun x y H Q=>∃ a b,x=.bl a/\y=.bl b/\Q (.bl (decide (a=b))) H):=by
 intro pins s zzs H x y v u Q I rx ry h;obtain⟨a,b,rfl,rfl,q⟩:=h;cases rx;cases ry;refine wpAny_is_plain (by cases a<;>cases b<;>rfl) (bY I q ?_);cases a<;>cases b<;>rfl
theorem Ys:OpR X (compareOp .IsNot) (fun x y H Q=>∃ a b,x=.bl a/\y=.bl b/\Q (.bl (!decide (a=b))) H):=by
 intro pins s zzs H x y v u Q I rx ry h;obtain⟨a,b,rfl,rfl,q⟩:=h;cases rx;cases ry;refine wpAny_isNot_plain (by cases a<;>cases b<;>rfl) (bY I q ?_);cases a<;>cases b<;>rfl
end
structure jH{α:Type}(lt:α->α->Bool):Prop where
 Ih:∀ a b,lt a b=true->lt b a=false
 tr:∀ a b c,lt b a=false->lt c b=false->lt c a=false
 anti:∀ a b,lt a b=false->lt b a=false->a=b
theorem jH.refl{α:Type}{lt:α->α->Bool}(o:jH lt)(a:α):lt a a=false:=by
 cases h:lt a a
 ·rfl
 ·rw[<- h];exact o.Ih a a h▸rfl
structure Good(N:Nat)(p:Array Nat):Prop where
 perm:p.toList.Perm (List.range N)
theorem Good.size{N:Nat}{p:Array Nat}(g:Good N p):p.size=N:=by
 have:=g.perm.length_eq;simpa using this
section
variable{α:Type}{lt:α->α->Bool}{f:Nat->α}{N:Nat}{s:Shared}{cmp:Nat->Nat->(Bool->Shared->Prop)->Shared->Prop}
def Ky(f:Nat->α)(p:Array Nat)(i:Nat):α:=f (p.getD i 0)
def Ib(lt:α->α->Bool)(f:Nat->α)(p:Array Nat)(n:Nat):Prop:=∀ i,i+1<n->lt (Ky f p (i+1)) (Ky f p i)=false
theorem Ib.le(o:jH lt){p:Array Nat}{n:Nat}(u:Ib lt f p n):∀ d i,i+d<n->lt (Ky f p (i+d)) (Ky f p i)=false:=by
 intro d
 induction d with
 |zero=>intro i _;exact o.refl _
 |succ d ih=>intro i h;exact o.tr _ _ _ (ih i (by lia)) (u (i+d) (by omega))
end
namespace TS
def el(xs:Array Keyed)(i:Nat):Keyed:=xs.getD i (Value.none,Value.none)
theorem w5{xs:Array Keyed}{i:Nat}(h:i<xs.size):el xs i∈xs.toList:=by
 unfold el;rw[pJ,jK h];exact Mz h
theorem oH{xs:Array Keyed}{i:Nat}(h:i<xs.size):xs[i]?=some (el xs i):=by
 unfold el;rw[pJ,jK h];rfl
section
variable{α:Type}{lt:α->α->Bool}{M:Model}{A:Around}{E:Value->Shared->Prop}{s:Shared}{κ:SortKind}{key:Keyed->α}{a₀:Array Keyed}
structure Env(M:Model)(A:Around)(s:Shared)(κ:SortKind)(key:Keyed->α)(lt:α->α->Bool)(a₀:Array Keyed):Prop where
 o:jH lt
 ask:∀ x y,x∈a₀.toList->y∈a₀.toList->∀ C:Bool->Shared->Prop,C (lt (key x) (key y)) s->wpAny M A (keyLt' κ x.1 y.1) C (fun _ _=>False) s
def Srt(lt:α->α->Bool)(key:Keyed->α)(xs:Array Keyed)(i j:Nat):Prop:=∀ p q,i<=p->p<=q->q<j->lt (key (el xs q)) (key (el xs p))=false
def Fal(lt:α->α->Bool)(key:Keyed->α)(xs:Array Keyed)(i j:Nat):Prop:=∀ p q,i<=p->p<=q->q<j->lt (key (el xs p)) (key (el xs q))=false
theorem K6(e:Env M A s κ key lt a₀){x y:Keyed}(hx:x∈a₀.toList)(hy:y∈a₀.toList){st:SortSt}(hk:kindOf st=κ){Q:Option Bool->SortSt->Prop}(h:Q (some (lt (key x) (key y))) st):wpS M A E s (lt' x y) Q st:=by
 rw[lt'_eq];refine aX (jU ?_);rw[hk];refine aX (uw (wpAny_attempt (fX (e.ask x y hx hy (fun b s'=>s'=s/\b=lt (key x) (key y)) ⟨rfl,rfl⟩) ?_ fun _ _ z=>z.elim)));rintro b s' ⟨rfl,rfl⟩;exact⟨rfl,aZ h⟩
theorem dM{xs:Array Keyed}{i:Nat}(h:i<xs.size){st:SortSt}{Q:Keyed->SortSt->Prop}(q:Q (el xs i) st):wpS M A E s (elem' xs i) Q st:=by
 rw[elem'_eq,oH h];exact aZ q
theorem Ae{xs:Array Keyed}(hp:xs.Perm a₀){i:Nat}(h:i<a₀.size):el xs i∈a₀.toList:=
 hp.toList.mem_iff.mp (w5 (by rw[hp.size_eq];exact h))
theorem rW(e:Env M A s κ key lt a₀){st:SortSt}(hk:kindOf st=κ)(hp:(arrOf st).Perm a₀){i j:Nat}(hi:i<a₀.size)(hj:j<a₀.size){Q:Option Bool->SortSt->Prop}(h:Q (some (lt (key (el (arrOf st) i)) (key (el (arrOf st) j)))) st):wpS M A E s (ltAt' i j) Q st:=by
 rw[ltAt'_eq];refine aX (jU ?_);exact aX (dM (by rw[hp.size_eq];exact hi) (aX (dM (by rw[hp.size_eq];exact hj) (K6 e (Ae hp hi) (Ae hp hj) hk h))))
theorem nj{xs ys:Array Keyed}{i j:Nat}(h:xs[i]?=ys[j]?):el xs i=el ys j:=by
 unfold el;rw[pJ,pJ,h]
theorem rG{xs:Array Keyed}{i j:Nat}(hj:j<=xs.size)(k:Nat):el (mirror xs i j ((j-i) / 2)) k=if i<=k/\k<j then el xs (i+j-1-k) else el xs k:=by
 have e:=getElem?_mirror_all (i:=i) hj k;by_cases h1:i<=k/\k<j
 ·rw[aK h1] at e ⊢;exact nj e
 ·rw[aJ h1] at e ⊢;exact nj e
theorem vY{xs:Array Keyed}{a d:Nat}(hs:a<xs.size)(hd:d<=a)(k:Nat):el (bubble xs a d) k=if k=a-d then el xs a else if a-d<k/\k<=a then el xs (k-1) else el xs k:=by
 have e:=getElem?_bubble hs d hd k;by_cases h1:k=a-d
 ·rw[aK h1] at e ⊢;exact nj e
 ·rw[aJ h1] at e ⊢;by_cases h2:a-d<k/\k<=a
  ·rw[aK h2] at e ⊢;exact nj e
  ·rw[aJ h2] at e ⊢;exact nj e
def Low(xs ys:Array Keyed)(lo:Nat):Prop:=∀ i,i<lo->el xs i=el ys i
theorem Low.refl{xs:Array Keyed}{lo:Nat}:Low xs xs lo:=fun _ _=>rfl
theorem Low.trans{xs ys zs:Array Keyed}{lo:Nat}(h:Low xs ys lo)(g:Low ys zs lo):Low xs zs lo:=fun i hi=>(h i hi).trans (g i hi)
theorem oR{xs:Array Keyed}{i j lo:Nat}(hj:j<=xs.size)(h:lo<=i):Low (mirror xs i j ((j-i) / 2)) xs lo:=fun k hk=>by
 rw[rG hj,aJ (by lia)]
def asl(lo m z:Nat):StateT SortSt Sem (Option Nat):=do
 let mut m:=m
 for _ in [m:z] do
  let some u <- ltAt' (lo+m) (lo+m-1)|return none
  if u then break
  m:=m+1
 return some m
def dsl(lo m z:Nat):StateT SortSt Sem (Option Nat):=do
 (rule "list.sort.descending-run" : Sem Unit)
 let mut m:=m+1
 let mut q:=0
 for _ in [m:z] do
  let some u <- ltAt' (lo+m) (lo+m-1)|return none
  if u then
   if q>0 then reverseSlice' (lo+m-(q+1)) (lo+m)
   q:=0
  else
   let some v <- ltAt' (lo+m-1) (lo+m)|return none
   if v then break
   q:=q+1
  m:=m+1
 if q>0 then
  reverseSlice' (lo+m-(q+1)) (lo+m)
  reverseSlice' lo (lo+m)
  asl lo m z
 else
  reverseSlice' lo (lo+m)
  asl lo m z
theorem Srt.one{xs:Array Keyed}{i:Nat}(o:jH lt):Srt lt key xs i (i+1):=fun p q a b c=>by
 have:p=q:=by lia
 subst this;exact o.refl _
theorem Srt.more{xs:Array Keyed}{lo x:Nat}(o:jH lt)(h1:1<=x)(hs:Srt lt key xs lo (lo+x))(hl:lt (key (el xs (lo+x))) (key (el xs (lo+x-1)))=false):Srt lt key xs lo (lo+(x+1)):=fun p q a b c=>by
 by_cases hq:q<lo+x
 ·exact hs p q a b hq
 ·have:q=lo+x:=by lia
  subst this;by_cases hp:p=lo+x
  ·subst hp;exact o.refl _
  ·exact o.tr _ _ _ (hs p (lo+x-1) a (by lia) (by lia)) hl
theorem Fal.more{xs:Array Keyed}{lo x:Nat}(o:jH lt)(h1:1<=x)(hs:Fal lt key xs lo (lo+x))(hl:lt (key (el xs (lo+x-1))) (key (el xs (lo+x)))=false):Fal lt key xs lo (lo+(x+1)):=fun p q a b c=>by
 by_cases hq:q<lo+x
 ·exact hs p q a b hq
 ·have:q=lo+x:=by lia
  subst this;by_cases hp:p=lo+x
  ·subst hp;exact o.refl _
  ·exact o.tr _ _ _ hl (hs p (lo+x-1) a (by lia) (by lia))
theorem Cj{b:Bool}(h:¬b=true):b=false:=by cases b<;>simp_all
theorem a1Q(e:Env M A s κ key lt a₀){st:SortSt}(hk:kindOf st=κ)(hp:(arrOf st).Perm a₀){lo m z:Nat}(h1:1<=m)(h2:m<=z)(hz:lo+z<=a₀.size){Q:Option Nat->SortSt->Prop}(hs:Srt lt key (arrOf st) lo (lo+m))
  (h:∀ n,1<=n->n<=z->Srt lt key (arrOf st) lo (lo+n)->Q (some n) st):wpS M A E s (asl lo m z) Q st:=by
 unfold asl;refine aX (ju (jt (I:=fun x c st'=>st'=st/\c=(none,x)/\Srt lt key (arrOf st) lo (lo+x))
  (Q:=fun c st'=>st'=st/\∃ x,c=(none,x)/\1<=x/\x<=z/\Srt lt key (arrOf st) lo (lo+x)) ?step ?fin ?init) ?post)
 case init=>exact⟨rfl,rfl,hs⟩
 case fin=>
  rintro c st' ⟨rfl,rfl,g⟩;rw[show max m z=z by lia] at g ⊢;exact⟨rfl,z,rfl,by lia,bK _,g⟩
 case step=>
  rintro x c st' hax hxn ⟨rfl,rfl,hs⟩;dsimp only;refine aX (rW e hk hp (by lia) (by lia) ?_);dsimp only;by_cases hb:lt (key (el (arrOf st') (lo+x))) (key (el (arrOf st') (lo+x-1)))=true
  ·rw[aK hb];exact aZ ⟨rfl,x,rfl,by lia,by lia,hs⟩
  ·rw[aJ hb];exact aZ ⟨rfl,rfl,hs.more e.o (by lia) (Cj hb)⟩
 case post=>
  rintro c st' ⟨rfl,x,rfl,a1,a2,hs⟩;exact aZ (h x a1 a2 hs)
theorem Gv{st:SortSt}{i j:Nat}{Q:Unit->SortSt->Prop}(h:Q () (setArr st (mirror (arrOf st) i j ((j-i) / 2)))):wpS M A E s (reverseSlice' i j) Q st:=by
 rw[reverseSlice'_eq];exact nU h
theorem vZ{xs:Array Keyed}{i j:Nat}(hj:j<=xs.size)(he:∀ k,i<=k->k<j->key (el xs k)=key (el xs (j-1)))(k:Nat):key (el (mirror xs i j ((j-i) / 2)) k)=key (el xs k):=by
 rw[rG hj];by_cases h:i<=k/\k<j
 ·rw[aK h,he _ (by lia) (by lia),he k h.1 h.2]
 ·rw[aJ h]
theorem Wm(e:Env M A s κ key lt a₀){st:SortSt}(hk:kindOf st=κ)(hp:(arrOf st).Perm a₀){lo m z:Nat}(h2:m+1<=z)(hz:lo+z<=a₀.size){Q:Option Nat->SortSt->Prop}(hs:Fal lt key (arrOf st) lo (lo+(m+1)))
  (h:∀ n xs,xs.Perm a₀->Low xs (arrOf st) lo->1<=n->n<=z->Srt lt key xs lo (lo+n)->Q (some n) (setArr st xs)):wpS M A E s (dsl lo m z) Q st:=by
 unfold dsl;refine aX (uw (uq ⟨rfl,?_⟩))
 let Eq:Array Keyed->Nat->Nat->Prop:=fun xs x q=>∀ i,lo+x-(q+1)<=i->i<lo+x->key (el xs i)=key (el xs (lo+x-1))
 refine aX (ju (jt (I:=fun x c st'=>∃ xs q,st'=setArr st xs/\c=(none,x,q)/\xs.Perm a₀/\Low xs (arrOf st) lo/\Fal lt key xs lo (lo+x)/\q+1<=x/\Eq xs x q)
  (Q:=fun c st'=>∃ xs x q,st'=setArr st xs/\c=(none,x,q)/\xs.Perm a₀/\Low xs (arrOf st) lo/\1<=x/\x<=z/\Fal lt key xs lo (lo+x)/\q+1<=x/\Eq xs x q) ?step ?fin ?init) ?post)
 case init=>
  refine⟨arrOf st,0,rfl,rfl,hp,Low.refl,hs,by lia,fun i a b=>?_⟩;have:i=lo+(m+1)-1:=by lia
  rw[this]
 case fin=>
  rintro c st' ⟨xs,q,rfl,rfl,a1,a2,a3,a4,a5⟩;rw[show max (m+1) z=z by lia] at a3 a4 a5 ⊢;exact⟨xs,z,q,rfl,rfl,a1,a2,by lia,bK _,a3,a4,a5⟩
 case step=>
  rintro x c st' hax hxn ⟨xs,q,rfl,rfl,a1,a2,a3,a4,a5⟩;have sz:xs.size=a₀.size:=a1.size_eq;dsimp only;refine aX (rW e (st:=setArr st xs) hk a1 (by lia) (by lia) ?_);dsimp only;show wpS M A E s _ _ (setArr st xs);by_cases hb:lt (key (el xs (lo+x))) (key (el xs (lo+x-1)))=true
  ·rw[aK hb];have one:∀ ys:Array Keyed,Eq ys (x+1) 0:=fun ys i a b=>by
    have:i=lo+(x+1)-1:=by lia
    rw[this]
   have fm:∀ ys:Array Keyed,(∀ k,key (el ys k)=key (el xs k))->Fal lt key ys lo (lo+(x+1)):=fun ys hy=>by
    have:=a3.more e.o (by lia) (e.o.Ih _ _ hb);intro p q b1 b2 b3;rw[hy,hy];exact this p q b1 b2 b3
   by_cases hq:q>0
   ·rw[aK hq];refine aX (Gv (aZ ⟨_,0,rfl,rfl,(BX _ _ _ _).trans a1,(oR (by show _<=xs.size;lia) (by lia)).trans a2,fm _ (vZ (by show _<=xs.size;lia) a5),by lia,one _⟩))
   ·rw[aJ hq];exact aZ ⟨xs,0,rfl,rfl,a1,a2,fm _ fun _=>rfl,by lia,one _⟩
  ·rw[aJ hb];refine aX (rW e (st:=setArr st xs) hk a1 (by lia) (by lia) ?_);dsimp only;show wpS M A E s _ _ (setArr st xs);by_cases hd:lt (key (el xs (lo+x-1))) (key (el xs (lo+x)))=true
   ·rw[aK hd];exact aZ ⟨xs,x,q,rfl,rfl,a1,a2,by lia,by lia,a3,a4,a5⟩
   ·rw[aJ hd];have ek:key (el xs (lo+x))=key (el xs (lo+x-1)):=e.o.anti _ _ (Cj hb) (Cj hd);refine aZ ⟨xs,q+1,rfl,rfl,a1,a2,a3.more e.o (by lia) (Cj hd),by lia,fun i b1 b2=>?_⟩;rw[show lo+(x+1)-1=lo+x by lia];by_cases hi:i=lo+x
    ·rw[hi]
    ·rw[ek];exact a5 i (by lia) (by lia)
 case post=>
  rintro c st' ⟨xs,x,q,rfl,rfl,a1,a2,a3,a4,a5,a6,a7⟩;have sz:xs.size=a₀.size:=a1.size_eq;dsimp only;have fin:∀ ys:Array Keyed,ys.Perm a₀->Low ys (arrOf st) lo->(∀ k,key (el ys k)=key (el xs k))->wpS M A E s (reverseSlice' lo (lo+x) >>= fun _=>asl lo x z) Q (setArr st ys):=fun ys hy ly ky=>by
   have sy:ys.size=a₀.size:=hy.size_eq;refine aX (Gv ?_);show wpS M A E s _ _ (setArr st (mirror ys lo (lo+x) ((lo+x-lo) / 2)));refine a1Q e (st:=setArr st (mirror ys lo (lo+x) ((lo+x-lo) / 2))) hk (show(mirror ys lo (lo+x) ((lo+x-lo) / 2)).Perm a₀ from(BX _ _ _ _).trans hy) a3 a4 hz ?_ fun n n1 n2 n3=>h n _ ((BX _ _ _ _).trans hy) ((oR (by lia) (bK _)).trans ly) n1 n2 n3
   intro p q b1 b2 b3;show lt (key (el (mirror ys lo (lo+x) ((lo+x-lo) / 2)) q)) (key (el (mirror ys lo (lo+x) ((lo+x-lo) / 2)) p))=false;rw[rG (by lia),rG (by lia),aK (by lia),aK (by lia),ky,ky];exact a5 _ _ (by lia) (by lia) (by lia)
  by_cases hq:q>0
  ·rw[aK hq];refine aX (Gv (fin _ ((BX _ _ _ _).trans a1) ((oR (by show _<=xs.size;lia) (by lia)).trans a2) (vZ (by show _<=xs.size;lia) a7)))
  ·rw[aJ hq];exact fin xs a1 a2 fun _=>rfl
theorem Wk(e:Env M A s κ key lt a₀){st:SortSt}(hk:kindOf st=κ)(hp:(arrOf st).Perm a₀){lo z:Nat}(h1:1<=z)(hz:lo+z<=a₀.size){Q:Option Nat->SortSt->Prop}
  (h:∀ m xs,xs.Perm a₀->Low xs (arrOf st) lo->1<=m->m<=z->Srt lt key xs lo (lo+m)->Q (some m) (setArr st xs)):wpS M A E s (countRun' lo z) Q st:=by
 rw[countRun'_eq];have sz:(arrOf st).size=a₀.size:=hp.size_eq;refine aX (ju (jt (I:=fun x c st'=>st'=st/\c=(none,x)/\Srt lt key (arrOf st) lo (lo+x))
  (Q:=fun c st'=>st'=st/\∃ x,c=(none,x)/\1<=x/\x<=z/\Srt lt key (arrOf st) lo (lo+x)/\(x<z->lt (key (el (arrOf st) (lo+x))) (key (el (arrOf st) (lo+x-1)))=true)) ?step ?fin ?init) ?post)
 case init=>exact⟨rfl,rfl,Srt.one e.o⟩
 case fin=>
  rintro c st' ⟨rfl,rfl,g⟩;rw[show max 1 z=z by lia] at g ⊢;exact⟨rfl,z,rfl,by omega,bK _,g,fun a=>absurd a (kh _)⟩
 case step=>
  rintro x c st' hax hxn ⟨rfl,rfl,hs⟩;dsimp only;refine aX (rW e hk hp (by lia) (by lia) ?_);dsimp only;by_cases hb:lt (key (el (arrOf st') (lo+x))) (key (el (arrOf st') (lo+x-1)))=true
  ·rw[aK hb];exact aZ ⟨rfl,x,rfl,by omega,by lia,hs,fun _=>hb⟩
  ·rw[aJ hb];exact aZ ⟨rfl,rfl,hs.more e.o (by omega) (Cj hb)⟩
 case post=>
  rintro c st' ⟨rfl,x,rfl,a1,a2,hs,hl⟩;dsimp only;have own:Q (some x) st':=h x (arrOf st') hp Low.refl a1 a2 hs;by_cases hx:x=z
  ·rw[aK (by simpa using hx)];exact aZ own
  ·rw[aJ (by simpa using hx)];have hl':=hl (by lia);by_cases hg:x>1
   ·rw[aK hg];refine aX (rW e hk hp (by lia) (by lia) ?_);dsimp only;by_cases hb:lt (key (el (arrOf st') lo)) (key (el (arrOf st') (lo+x-1)))=true
    ·rw[aK hb];exact aZ own
    ·rw[aJ hb];have hall:∀ k,lo<=k->k<lo+x->key (el (arrOf st') k)=key (el (arrOf st') (lo+x-1)):=fun k c1 c2=>
      e.o.anti _ _ (e.o.tr _ _ _ (Cj hb) (hs lo k (bK _) c1 c2)) (hs k (lo+x-1) c1 (by lia) (by lia))
     refine aX (Gv ?_);have hm:(mirror (arrOf st') lo (lo+x) ((lo+x-lo) / 2)).Perm a₀:=(BX _ _ _ _).trans hp;have lm:Low (mirror (arrOf st') lo (lo+x) ((lo+x-lo) / 2)) (arrOf st') lo:=oR (by lia) (bK _);change wpS M A E s (dsl lo x z) Q _;refine Wm e (st:=setArr st' (mirror (arrOf st') lo (lo+x) ((lo+x-lo) / 2))) hk (show(mirror (arrOf st') lo (lo+x) ((lo+x-lo) / 2)).Perm a₀ from hm) (by lia) hz ?_ fun n xs b1 b2 b3 b4 b5=>h n xs b1 (b2.trans lm) b3 b4 b5
     show Fal lt key (mirror (arrOf st') lo (lo+x) ((lo+x-lo) / 2)) lo (lo+(x+1));refine Fal.more e.o (by omega) (fun p q b1 b2 b3=>?_) ?_
     ·rw[vZ (by lia) hall,vZ (by lia) hall,hall p (by omega) (by lia),hall q (by lia) (by omega)];exact e.o.refl _
     ·rw[vZ (by lia) hall,vZ (by lia) hall];exact e.o.Ih _ _ hl'
   ·rw[aJ hg];change wpS M A E s (dsl lo x z) Q _;refine Wm e hk hp (by lia) hz ?_ h;have:x=1:=by lia
    subst this;refine Fal.more e.o (by omega) (fun p q b1 b2 b3=>?_) (e.o.Ih _ _ hl');have:p=q:=by lia
    subst this;exact e.o.refl _
theorem a1R(e:Env M A s κ key lt a₀){st:SortSt}(hk:kindOf st=κ)(hp:(arrOf st).Perm a₀){lo n m:Nat}(hm:1<=m)(hmn:m<=n)(hz:lo+n<=a₀.size){Q:Bool->SortSt->Prop}(hs:Srt lt key (arrOf st) lo (lo+m))
  (h:∀ xs,xs.Perm a₀->Low xs (arrOf st) lo->Srt lt key xs lo (lo+n)->Q true (setArr st xs)):wpS M A E s (binarySort' lo n m) Q st:=by
 rw[binarySort'_eq];rw[show max m 1=m by lia];refine aX (ju (jt (I:=fun k c st'=>∃ xs,st'=setArr st xs/\c=(none,())/\xs.Perm a₀/\Low xs (arrOf st) lo/\Srt lt key xs lo (lo+k))
  (Q:=fun c st'=>∃ xs,st'=setArr st xs/\c=(none,())/\xs.Perm a₀/\Low xs (arrOf st) lo/\Srt lt key xs lo (lo+n)) ?step ?fin ?init) ?post)
 case init=>exact⟨arrOf st,rfl,rfl,hp,Low.refl,hs⟩
 case fin=>
  rintro c st' ⟨xs,rfl,rfl,a1,a2,a3⟩;rw[show max m n=n by lia] at a3;exact⟨xs,rfl,rfl,a1,a2,a3⟩
 case post=>
  rintro c st' ⟨xs,rfl,rfl,a1,a2,a3⟩;exact aZ (h xs a1 a2 a3)
 case step=>
  rintro k c st' hk1 hk2 ⟨xs,rfl,rfl,a1,a2,a3⟩;have sz:xs.size=a₀.size:=a1.size_eq;refine aX (ju (jt (I:=fun x c st'=>st'=setArr st xs/\∃ l r,c=(none,l,r)/\l<=r/\r<=k/\r-l<=k-x /\
    (∀ i,i<l->lt (key (el xs (lo+k))) (key (el xs (lo+i)))=false)/\(∀ i,r<=i->i<k->lt (key (el xs (lo+i))) (key (el xs (lo+k)))=false))
   (Q:=fun c st'=>st'=setArr st xs/\∃ l r,c=(none,l,r)/\l<=k /\
    (∀ i,i<l->lt (key (el xs (lo+k))) (key (el xs (lo+i)))=false)/\(∀ i,l<=i->i<k->lt (key (el xs (lo+i))) (key (el xs (lo+k)))=false)) ?is ?ie ?ii) ?ip)
  case ii=>exact⟨rfl,0,k,rfl,by lia,by lia,by lia,fun i hi=>by lia,fun i b c=>by lia⟩
  case ie=>
   rintro c st' ⟨rfl,l,r,rfl,b1,b2,b3,b4,b5⟩;have:l=r:=by lia
   subst this;exact⟨rfl,l,l,rfl,b2,b4,b5⟩
  case is=>
   rintro x c st' _ hx ⟨rfl,l,r,rfl,b1,b2,b3,b4,b5⟩;dsimp only;by_cases hge:l>=r
   ·rw[aK hge];have:l=r:=by lia
    subst this;exact aZ ⟨rfl,l,l,rfl,b2,b4,b5⟩
   ·rw[aJ hge];refine aX (rW e (st:=setArr st xs) hk a1 (by lia) (by lia) ?_);dsimp only;show wpS M A E s _ _ (setArr st xs);by_cases hb:lt (key (el xs (lo+k))) (key (el xs (lo+(l+r) / 2)))=true
    ·rw[aK hb];refine aZ ⟨rfl,l,(l+r) / 2,rfl,by lia,by lia,by lia,b4,fun i c1 c2=>?_⟩;exact e.o.tr _ _ _ (e.o.Ih _ _ hb) (a3 (lo+(l+r) / 2) (lo+i) (by lia) (by lia) (by lia))
    ·rw[aJ hb];refine aZ ⟨rfl,(l+r) / 2+1,r,rfl,by lia,by omega,by lia,fun i c1=>?_,b5⟩;exact e.o.tr _ _ _ (a3 (lo+i) (lo+(l+r) / 2) (by lia) (by lia) (by lia)) (Cj hb)
  case ip=>
   rintro c st' ⟨rfl,l,r,rfl,b2,b4,b5⟩;dsimp only;rw[moveDown'_eq];refine aX (nU (aZ ⟨_,rfl,rfl,(bubble_perm _ _ _).trans a1,fun i hi=>?_,?_⟩))
   ·show el (bubble xs (lo+k) (lo+k-(lo+l))) i=_;rw[vY (by lia) (by lia),aJ (by lia),aJ (by lia)];exact a2 i hi
   ·intro p q c1 c2 c3;show lt (key (el (bubble xs (lo+k) (lo+k-(lo+l))) q)) (key (el (bubble xs (lo+k) (lo+k-(lo+l))) p))=false;rw[vY (by lia) (by lia),vY (by lia) (by lia),show lo+k-(lo+k-(lo+l))=lo+l by lia];have b4':∀ i,lo<=i->i<lo+l->lt (key (el xs (lo+k))) (key (el xs i))=false:=fun i d1 d2=>by
     have:=b4 (i-lo) (by lia);rwa[show lo+(i-lo)=i by lia] at this
    have b5':∀ i,lo+l<=i->i<lo+k->lt (key (el xs i)) (key (el xs (lo+k)))=false:=fun i d1 d2=>by
     have:=b5 (i-lo) (by lia) (by lia);rwa[show lo+(i-lo)=i by lia] at this
    repeat' split
    all_goals first
     |(exfalso;lia)
     |exact e.o.refl _
     |exact b4' _ (by omega) (by lia)
     |exact b5' _ (by lia) (by lia)
     |exact a3 _ _ (by lia) (by lia) (by lia)
end
end TS
end L2
namespace L2
open PySem PySem.Spec PyProof.Rows PySem.W
namespace TS
def gal:Bool->Keyed->Array Keyed->Nat->Nat->Nat->StateT SortSt Sem (Option Nat):=sortPriv% PySem.Builtin.gallop
def bey(l:Bool)(y:Keyed)(xs:Array Keyed)(i:Nat):StateT SortSt Sem (Option Bool):=do
 let x <- elem' xs i
 if l then lt' x y else return (<- lt' y x).map (!·)
theorem a0l(l:Bool)(y:Keyed)(xs:Array Keyed)(b n t:Nat):gal l y xs b n t=(do
 let mut o':=0
 let mut o:=1
 let mut p:=0
 let mut q:=0
 let some r <- bey l y xs (b+t)|return none
 if r then
  let z:=n-t
  for _ in [0:n] do
   if o>=z then break
   let some g <- bey l y xs (b+(t+o))|return none
   if !g then break
   o':=o
   o:=2*o+1
  p:=t+o'+1
  q:=t+min o z
 else
  let z:=t+1
  for _ in [0:n] do
   if o>=z then break
   let some g <- bey l y xs (b+(t-o))|return none
   if g then break
   o':=o
   o:=2*o+1
  p:=t+1-min o z
  q:=t-o'
 for _ in [0:n] do
  if p>=q then break
  let m:=p+(q-p) / 2
  let some g <- bey l y xs (b+m)|return none
  if g then p:=m+1 else q:=m
 return some q):=rfl
section
variable{α:Type}{lt:α->α->Bool}{M:Model}{A:Around}{E:Value->Shared->Prop}{s:Shared}{κ:SortKind}{key:Keyed->α}{a₀:Array Keyed}
def bv(lt:α->α->Bool)(key:Keyed->α)(l:Bool)(y x:Keyed):Bool:=if l then lt (key x) (key y) else !lt (key y) (key x)
theorem Gu(e:Env M A s κ key lt a₀){st:SortSt}(hk:kindOf st=κ){l:Bool}{y:Keyed}{xs:Array Keyed}{i:Nat}(hy:y∈a₀.toList)(hi:i<xs.size)(hx:el xs i∈a₀.toList){Q:Option Bool->SortSt->Prop}(h:Q (some (bv lt key l y (el xs i))) st):wpS M A E s (bey l y xs i) Q st:=by
 unfold bey;refine aX (dM hi ?_);cases l
 ·refine aX (K6 e hy hx hk (aZ ?_));exact h
 ·exact K6 e hx hy hk h
def bsr(l:Bool)(y:Keyed)(xs:Array Keyed)(b n p q:Nat):StateT SortSt Sem (Option Nat):=do
 let mut p:=p
 let mut q:=q
 for _ in [0:n] do
  if p>=q then break
  let m:=p+(q-p) / 2
  let some g <- bey l y xs (b+m)|return none
  if g then p:=m+1 else q:=m
 return some q
theorem Wj(e:Env M A s κ key lt a₀){st:SortSt}(hk:kindOf st=κ){l:Bool}{y:Keyed}{xs:Array Keyed}{b n p q:Nat}(hy:y∈a₀.toList)(hz:b+n<=xs.size)(hm:∀ i,i<n->el xs (b+i)∈a₀.toList)
  (mono:∀ i j,i<=j->j<n->bv lt key l y (el xs (b+j))=true->bv lt key l y (el xs (b+i))=true) {Q:Option Nat->SortSt->Prop} (hpq:p<=q) (hq:q<=n)
  (hp':∀ i,i<p->bv lt key l y (el xs (b+i))=true) (hq':∀ i,q<=i->i<n->bv lt key l y (el xs (b+i))=false)
  (h:∀ k,k<=n->(∀ i,i<k->bv lt key l y (el xs (b+i))=true)->(∀ i,k<=i->i<n->bv lt key l y (el xs (b+i))=false)->Q (some k) st):wpS M A E s (bsr l y xs b n p q) Q st:=by
 unfold bsr;refine aX (ju (jt (I:=fun x c st'=>st'=st/\∃ p q,c=(none,p,q)/\p<=q/\q<=n/\q-p<=n-x/\(∀ i,i<p->bv lt key l y (el xs (b+i))=true)/\(∀ i,q<=i->i<n->bv lt key l y (el xs (b+i))=false))
  (Q:=fun c st'=>st'=st/\∃ p q,c=(none,p,q)/\q<=n/\(∀ i,i<q->bv lt key l y (el xs (b+i))=true)/\(∀ i,q<=i->i<n->bv lt key l y (el xs (b+i))=false)) ?step ?fin ?init) ?post)
 case init=>exact⟨rfl,p,q,rfl,hpq,hq,by lia,hp',hq'⟩
 case fin=>
  rintro c st' ⟨rfl,p,q,rfl,a1,a2,a3,a4,a5⟩;have:p=q:=by lia
  subst this;exact⟨rfl,p,p,rfl,a2,a4,a5⟩
 case post=>
  rintro c st' ⟨rfl,p,q,rfl,a1,a4,a5⟩;exact aZ (h q a1 a4 a5)
 case step=>
  rintro x c st' _ hx ⟨rfl,p,q,rfl,a1,a2,a3,a4,a5⟩;dsimp only;by_cases hge:p>=q
  ·rw[aK hge];have:p=q:=by lia
   subst this;exact aZ ⟨rfl,p,p,rfl,a2,a4,a5⟩
  ·rw[aJ hge];have c1:p<=p+(q-p) / 2:=by lia
   have c2:p+(q-p) / 2<q:=by lia
   generalize p+(q-p) / 2=m at c1 c2;refine aX (Gu e hk hy (by lia) (hm _ (by lia)) ?_);dsimp only;by_cases hb:bv lt key l y (el xs (b+m))=true
   ·rw[aK hb];exact aZ ⟨rfl,m+1,q,rfl,by lia,a2,by lia,fun i hi=>mono i m (by lia) (by lia) hb,a5⟩
   ·rw[aJ hb];refine aZ ⟨rfl,p,m,rfl,by omega,by lia,by lia,a4,fun i hi hn=>?_⟩;cases hc:bv lt key l y (el xs (b+i))
    ·rfl
    ·exact absurd (mono m i hi hn hc) hb
theorem qU(e:Env M A s κ key lt a₀){st:SortSt}(hk:kindOf st=κ){l:Bool}{y:Keyed}{xs:Array Keyed}{b n t:Nat}(hy:y∈a₀.toList)(hz:b+n<=xs.size)(hm:∀ i,i<n->el xs (b+i)∈a₀.toList)(ht:t<n)
  (mono:∀ i j,i<=j->j<n->bv lt key l y (el xs (b+j))=true->bv lt key l y (el xs (b+i))=true) {Q:Option Nat->SortSt->Prop}
  (h:∀ k,k<=n->(∀ i,i<k->bv lt key l y (el xs (b+i))=true)->(∀ i,k<=i->i<n->bv lt key l y (el xs (b+i))=false)->Q (some k) st):wpS M A E s (gal l y xs b n t) Q st:=by
 rw[a0l];refine aX (Gu e hk hy (by lia) (hm t ht) ?_);dsimp only;have dn:∀ i j,i<=j->j<n->bv lt key l y (el xs (b+i))=false->bv lt key l y (el xs (b+j))=false:=fun i j h1 h2 h3=>by
  cases hc:bv lt key l y (el xs (b+j))
  ·rfl
  ·rw[mono i j h1 h2 hc] at h3;cases h3
 by_cases hb:bv lt key l y (el xs (b+t))=true
 ·rw[aK hb];refine aX (ju (jt (I:=fun x c st'=>st'=st/\∃ o' o,c=(none,o',o)/\o'<o/\t+o'<n/\x+1<=o/\bv lt key l y (el xs (b+(t+o')))=true)
   (Q:=fun c st'=>st'=st/\∃ o' o,c=(none,o',o)/\o'<o/\t+o'<n/\bv lt key l y (el xs (b+(t+o')))=true/\(o<n-t->bv lt key l y (el xs (b+(t+o)))=false)) ?step ?fin ?init) ?post)
  case init=>exact⟨rfl,0,1,rfl,by lia,by omega,by lia,hb⟩
  case fin=>
   rintro c st' ⟨rfl,o',o,rfl,a1,a2,a3,a4⟩;exact⟨rfl,o',o,rfl,a1,a2,a4,fun z=>by lia⟩
  case step=>
   rintro x c st' _ hx ⟨rfl,o',o,rfl,a1,a2,a3,a4⟩;dsimp only;by_cases hge:o>=n-t
   ·rw[aK hge];exact aZ ⟨rfl,o',o,rfl,a1,a2,a4,fun z=>by lia⟩
   ·rw[aJ hge];refine aX (Gu e hk hy (by lia) (hm _ (by lia)) ?_);dsimp only;cases hc:bv lt key l y (el xs (b+(t+o)))
    ·rw[aK (by rfl)];exact aZ ⟨rfl,o',o,rfl,a1,a2,a4,fun _=>hc⟩
    ·rw[aJ (by decide)];exact aZ ⟨rfl,o,2*o+1,rfl,by lia,by lia,by lia,hc⟩
  case post=>
   rintro c st' ⟨rfl,o',o,rfl,a1,a2,a4,a5⟩;dsimp only;change wpS M A E s (bsr l y xs b n (t+o'+1) (t+min o (n-t))) Q _;refine Wj e hk hy hz hm mono (by lia) (by lia) (fun i hi=>mono i (t+o') (by lia) a2 a4) (fun i h1 h2=>?_) h;exact dn (t+o) i (by lia) h2 (a5 (by lia))
 ·rw[aJ hb];refine aX (ju (jt (I:=fun x c st'=>st'=st/\∃ o' o,c=(none,o',o)/\o'<o/\o'<=t/\x+1<=o/\bv lt key l y (el xs (b+(t-o')))=false)
   (Q:=fun c st'=>st'=st/\∃ o' o,c=(none,o',o)/\o'<o/\o'<=t/\bv lt key l y (el xs (b+(t-o')))=false/\(o<t+1->bv lt key l y (el xs (b+(t-o)))=true)) ?step ?fin ?init) ?post)
  case init=>exact⟨rfl,0,1,rfl,by lia,by lia,by lia,Cj hb⟩
  case fin=>
   rintro c st' ⟨rfl,o',o,rfl,a1,a2,a3,a4⟩;exact⟨rfl,o',o,rfl,a1,a2,a4,fun z=>by lia⟩
  case step=>
   rintro x c st' _ hx ⟨rfl,o',o,rfl,a1,a2,a3,a4⟩;dsimp only;by_cases hge:o>=t+1
   ·rw[aK hge];exact aZ ⟨rfl,o',o,rfl,a1,a2,a4,fun z=>by lia⟩
   ·rw[aJ hge];refine aX (Gu e hk hy (by lia) (hm _ (by lia)) ?_);dsimp only;cases hc:bv lt key l y (el xs (b+(t-o)))
    ·rw[aJ (by decide)];exact aZ ⟨rfl,o,2*o+1,rfl,by lia,by lia,by lia,hc⟩
    ·rw[aK (by rfl)];exact aZ ⟨rfl,o',o,rfl,a1,a2,a4,fun _=>hc⟩
  case post=>
   rintro c st' ⟨rfl,o',o,rfl,a1,a2,a4,a5⟩;dsimp only;change wpS M A E s (bsr l y xs b n (t+1-min o (t+1)) (t-o')) Q _;refine Wj e hk hy hz hm mono (by omega) (by lia) (fun i hi=>?_) (fun i h1 h2=>dn (t-o') i h1 h2 a4) h;exact mono i (t-o) (by lia) (by lia) (a5 (by lia))
end
end TS
end L2
namespace L2
open PySem PySem.Spec PyProof.Rows PySem.W
namespace TS
abbrev cA(st:SortSt)(g:Nat):SortSt:=SortSt.mk' (kindOf st) (arrOf st) (pendingOf st) g (failedOf st)
def mlo:Array Keyed->Array Keyed->StateT SortSt Sem (Array Keyed):=sortPriv% PySem.Builtin.mergeLo
def mhi:Array Keyed->Array Keyed->StateT SortSt Sem (Array Keyed):=sortPriv% PySem.Builtin.mergeHi
theorem a0I(a b:Array Keyed):mlo a b=(do
 (rule "list.sort.merge-lo" : Sem Unit)
 let t:=a.size+b.size
 let fin (o:Array Keyed) (i j:Nat):=o++a.extract i a.size++b.extract j b.size
 let nif (o:Array Keyed) (i j:Nat):=o++b.extract j b.size++a.extract i a.size
 let mut o:Array Keyed:=#[<- elem' b 0]
 let mut i:=0
 let mut j:=1
 if j==b.size then return fin o i j
 if i+1==a.size then return nif o i j
 let mut g:=gallopOf (<- get)
 for _ in [0:t] do
  let mut c:=0
  let mut d:=0
  for _ in [0:t] do
   let some w <- lt' (<- elem' b j) (<- elem' a i)|return fin o i j
   if w then
    o:=o.push (<- elem' b j);j:=j+1;d:=d+1;c:=0
    if j==b.size then return fin o i j
    if d>=g then break
   else
    o:=o.push (<- elem' a i);i:=i+1;c:=c+1;d:=0
    if i+1==a.size then return nif o i j
    if c>=g then break
  (rule "list.sort.gallop" : Sem Unit)
  g:=g+1
  for _ in [0:t] do
   if g>1 then g:=g-1
   modify fun s=>cA s g
   let some k <- gal false (<- elem' b j) a i (a.size-i) 0|return fin o i j
   c:=k
   if k>0 then
    o:=o++a.extract i (i+k);i:=i+k
    if i+1==a.size then return nif o i j
    if i==a.size then return fin o i j
   o:=o.push (<- elem' b j);j:=j+1
   if j==b.size then return fin o i j
   let some k <- gal true (<- elem' a i) b j (b.size-j) 0|return fin o i j
   d:=k
   if k>0 then
    o:=o++b.extract j (j+k);j:=j+k
    if j==b.size then return fin o i j
   o:=o.push (<- elem' a i);i:=i+1
   if i+1==a.size then return nif o i j
   if c<7&&d<7 then break
  g:=g+1
  modify fun s=>cA s g
 unsupported "internal:list.sort.merge-bound"):=rfl
theorem a0G(a b:Array Keyed):mhi a b=(do
 (rule "list.sort.merge-hi" : Sem Unit)
 let t:=a.size+b.size
 let fin (o:Array Keyed) (i j:Nat):=a.extract 0 i++b.extract 0 j++o.reverse
 let nif (o:Array Keyed) (i j:Nat):=b.extract 0 j++a.extract 0 i++o.reverse
 let mut i:=a.size-1
 let mut j:=b.size
 let mut o:Array Keyed:=#[<- elem' a i]
 if i==0 then return fin o i j
 if j==1 then return nif o i j
 let mut g:=gallopOf (<- get)
 for _ in [0:t] do
  let mut c:=0
  let mut d:=0
  for _ in [0:t] do
   let some w <- lt' (<- elem' b (j-1)) (<- elem' a (i-1))|return fin o i j
   if w then
    i:=i-1;o:=o.push (<- elem' a i);c:=c+1;d:=0
    if i==0 then return fin o i j
    if c>=g then break
   else
    j:=j-1;o:=o.push (<- elem' b j);d:=d+1;c:=0
    if j==1 then return nif o i j
    if d>=g then break
  (rule "list.sort.gallop" : Sem Unit)
  g:=g+1
  for _ in [0:t] do
   if g>1 then g:=g-1
   modify fun s=>cA s g
   let some p <- gal false (<- elem' b (j-1)) a 0 i (i-1)|return fin o i j
   let k:=i-p
   c:=k
   if k>0 then
    o:=o++(a.extract p i).reverse;i:=p
    if i==0 then return fin o i j
   j:=j-1;o:=o.push (<- elem' b j)
   if j==1 then return nif o i j
   let some p <- gal true (<- elem' a (i-1)) b 0 j (j-1)|return fin o i j
   let k:=j-p
   d:=k
   if k>0 then
    o:=o++(b.extract p j).reverse;j:=p
    if j==1 then return nif o i j
    if j==0 then return fin o i j
   i:=i-1;o:=o.push (<- elem' a i)
   if i==0 then return fin o i j
   if c<7&&d<7 then break
  g:=g+1
  modify fun s=>cA s g
 unsupported "internal:list.sort.merge-bound"):=rfl
section
variable{α:Type}{lt:α->α->Bool}{M:Model}{A:Around}{E:Value->Shared->Prop}{s:Shared}{κ:SortKind}{key:Keyed->α}{a₀:Array Keyed}
structure Mg(R:Keyed->Keyed->Prop)(X Y out x y:List Keyed):Prop where
 perm:(out++(x++y)).Perm (X++Y)
 up:out.Pairwise R
 ab:∀ p∈out,∀ q∈x++y,R p q
 sx:x.Pairwise R
 sy:y.Pairwise R
variable{R:Keyed->Keyed->Prop}{X Y out x y:List Keyed}{p q:Keyed}
theorem Mg.tx(m:Mg R X Y out (p::x) y)(h:∀ q∈y,R p q):Mg R X Y (out++[p]) x y:=by
 obtain⟨h1,h2,h3,h4,h5⟩:=m;rw[sV] at h4;refine⟨by simpa using h1,?_,?_,h4.2,h5⟩
 ·rw[Cg];refine⟨h2,GC _ _,fun a ha b hb=>?_⟩;rw[dU.mp hb];exact h3 a ha p (by simp)
 ·intro a ha b hb;rcases cD.mp ha with z|z
  ·exact h3 a z b (by rcases cD.mp hb with w|w<;>simp[w])
  ·rw[dU.mp z];rcases cD.mp hb with w|w
   ·exact h4.1 b w
   ·exact h b w
theorem Mg.swap(m:Mg R X Y out x y):Mg R Y X out y x:=
 ⟨((Nb (l₁:=y) (l₂:=x)).append_left out).trans (m.perm.trans Nb),m.up,fun a ha b hb=>m.ab a ha b (cD.mpr (cD.mp hb).symm),m.sy,m.sx⟩
theorem Mg.ty(m:Mg R X Y out x (q::y))(h:∀ p∈x,R q p):Mg R X Y (out++[q]) x y:=(m.swap.tx h).swap
theorem Mg.cx:∀(c:List Keyed){out:List Keyed},Mg R X Y out (c++x) y->(∀ p∈c,∀ q∈y,R p q)->Mg R X Y (out++c) x y
 |[],out,m,_=>by simpa using m
 |p::c,out,m,h=>by
  have:=Mg.cx c (m.tx (h p cU)) fun a ha=>h a (dI _ ha)
  simpa using this
theorem Mg.cy(c:List Keyed)(m:Mg R X Y out x (c++y))(h:∀ p∈c,∀ q∈x,R p q):Mg R X Y (out++c) x y:=(Mg.cx c m.swap h).swap
theorem Mg.a2h(m:Mg R X Y out [] y):(out++y).Perm (X++Y)/\(out++y).Pairwise R:=
 ⟨by simpa using m.perm,Cg.mpr ⟨m.up,m.sy,fun a ha b hb=>m.ab a ha b (by simpa using hb)⟩⟩
theorem Mg.a0j(m:Mg R X Y out x []):(out++x).Perm (X++Y)/\(out++x).Pairwise R:=
 ⟨by simpa using m.perm,Cg.mpr ⟨m.up,m.sx,fun a ha b hb=>m.ab a ha b (by simpa using hb)⟩⟩
theorem Mg.last(m:Mg R X Y out [p] y)(h:∀ q∈y,R q p):(out++y++[p]).Perm (X++Y)/\(out++y++[p]).Pairwise R:=by
 have:=Mg.a0j (Mg.cy (y:=[]) y (by simpa using m) (fun a ha b hb=>by rw[dU.mp hb];exact h a ha));exact this
def Le(lt:α->α->Bool)(key:Keyed->α)(p q:Keyed):Prop:=lt (key q) (key p)=false
theorem Le.trans(o:jH lt){p q r:Keyed}(h:Le lt key p q)(g:Le lt key q r):Le lt key p r:=o.tr _ _ _ h g
theorem Le.of(o:jH lt){p q:Keyed}(h:lt (key p) (key q)=true):Le lt key p q:=o.Ih _ _ h
theorem oG{a:Array Keyed}{i:Nat}(h:i<a.size):a.toList.drop i=el a i::a.toList.drop (i+1):=by
 rw[yw (by simpa using h)];congr 1;have:=oH h;rw[jK h] at this;simpa using iy this
theorem nu{a:Array Keyed}{i:Nat}:(a.extract i a.size).toList=a.toList.drop i:=by
 rw[WW];refine Cd ?_;simp
theorem jJ{a:Array Keyed}{i k:Nat}:(a.extract i (i+k)).toList=(a.toList.drop i).take k:=by
 rw[WW,List.extract_eq_take_drop,Nat.add_sub_cancel_left]
theorem rO{a:Array Keyed}{i k:Nat}(h:i+k<=a.size){x:Keyed}(hx:x∈(a.toList.drop i).take k):∃ t,t<k/\x=el a (i+t):=by
 obtain⟨t,ht,e⟩:=Nh.mp hx;rw[jX,uh,jk] at ht;refine⟨t,by lia,?_⟩;rw[List.getElem_take,List.getElem_drop] at e;have:=oH (xs:=a) (i:=i+t) (by lia);rw[jK (by lia)] at this;rw[<- e];simpa using iy this
theorem wR{a:Array Keyed}(h:a.toList.Pairwise (Le lt key))(o:jH lt){i j:Nat}(hij:i<=j)(hj:j<a.size):Le lt key (el a i) (el a j):=by
 by_cases e:i=j
 ·subst e;exact o.refl _
 ·have:=Ca.mp h i j (by simp;lia) (by simpa using hj) (by lia);have e1:=oH (xs:=a) (i:=i) (by lia);have e2:=oH hj;rw[jK (by omega)] at e1 e2;rw[<- iy e1,<- iy e2];simpa using this
theorem rB(o:jH lt){l:Bool}{y:Keyed}{xs:Array Keyed}{b n:Nat}(h:∀ p q,p<=q->q<n->Le lt key (el xs (b+p)) (el xs (b+q))):∀ i j,i<=j->j<n->bv lt key l y (el xs (b+j))=true->bv lt key l y (el xs (b+i))=true:=by
 intro i j hij hj hb;have hl:=h i j hij hj;cases l
 ·unfold bv at hb ⊢;rw[aJ fW] at hb ⊢;have h1:Le lt key (el xs (b+j)) y:=by
   unfold Le;cases hc:lt (key y) (key (el xs (b+j)))
   ·rfl
   ·rw[hc] at hb;cases hb
  have h2:lt (key y) (key (el xs (b+i)))=false:=hl.trans o h1;rw[h2];rfl
 ·unfold bv at hb ⊢;rw[aK rfl] at hb ⊢;cases hc:lt (key (el xs (b+i))) (key y)
  ·have h1:Le lt key y (el xs (b+i)):=hc;have h2:lt (key (el xs (b+j))) (key y)=false:=h1.trans o hl;rw[h2] at hb;cases hb
  ·rfl
theorem bvF{y x:Keyed}:bv lt key false y x=!lt (key y) (key x):=rfl
theorem bvT{y x:Keyed}:bv lt key true y x=lt (key x) (key y):=rfl
structure Two(lt:α->α->Bool)(key:Keyed->α)(a₀ a b:Array Keyed):Prop where
 ma:∀ x∈a.toList,x∈a₀.toList
 mb:∀ x∈b.toList,x∈a₀.toList
 sa:a.toList.Pairwise (Le lt key)
 sb:b.toList.Pairwise (Le lt key)
 za:1<=a.size
 zb:1<=b.size
 first:lt (key (el b 0)) (key (el a 0))=true
 last:∀ y∈b.toList,Le lt key y (el a (a.size-1))
def Res(lt:α->α->Bool)(key:Keyed->α)(a b r:Array Keyed):Prop:=r.toList.Perm (a.toList++b.toList)/\r.toList.Pairwise (Le lt key)
section lo
variable{a b o:Array Keyed}{i j k:Nat}
abbrev Lo(lt:α->α->Bool)(key:Keyed->α)(a b o:Array Keyed)(i j:Nat):Prop:=Mg (Le lt key) a.toList b.toList o.toList (a.toList.drop i) (b.toList.drop j)
theorem Lo.yt(od:jH lt)(m:Lo lt key a b o i j)(hi:i<a.size)(hj:j<b.size)(h:lt (key (el b j)) (key (el a i))=true):Lo lt key a b (o.push (el b j)) i (j+1):=by
 unfold Lo at m ⊢;rw[oG hj] at m;rw[Hu];refine m.ty fun p hp=>?_
 have sx:=m.sx;rw[oG hi] at hp sx;rcases bW.mp hp with rfl|z
 ·exact Le.of od h
 ·exact(Le.of od h).trans od ((sV.mp sx).1 p z)
theorem Lo.qQ(od:jH lt)(m:Lo lt key a b o i j)(hi:i<a.size)(hj:j<b.size)(h:lt (key (el b j)) (key (el a i))=false):Lo lt key a b (o.push (el a i)) (i+1) j:=by
 unfold Lo at m ⊢;rw[oG hi] at m;rw[Hu];refine m.tx fun p hp=>?_
 have sy:=m.sy;rw[oG hj] at hp sy;have h':Le lt key (el a i) (el b j):=h;rcases bW.mp hp with rfl|z
 ·exact h'
 ·exact h'.trans od ((sV.mp sy).1 p z)
theorem Lo.Ko(od:jH lt)(m:Lo lt key a b o i j)(hi:i+k<=a.size)(hj:j<b.size)(h:∀ t,t<k->bv lt key false (el b j) (el a (i+t))=true):Lo lt key a b (o++a.extract i (i+k)) (i+k) j:=by
 unfold Lo at m ⊢;rw[jW,jJ];rw[<- Ce k (a.toList.drop i),HJ] at m;refine m.cx _ fun p hp q hq=>?_
 have sy:=m.sy;rw[oG hj] at hq sy;obtain⟨t,ht,rfl⟩:=rO hi hp;have h1:=h t ht;have h':Le lt key (el a (i+t)) (el b j):=by
  unfold Le;rw[bvF] at h1;cases hc:lt (key (el b j)) (key (el a (i+t)))
  ·rfl
  ·rw[hc] at h1;cases h1
 rcases bW.mp hq with rfl|z
 ·exact h'
 ·exact h'.trans od ((sV.mp sy).1 q z)
theorem Lo.zG(od:jH lt)(m:Lo lt key a b o i j)(hi:i<a.size)(hj:j+k<=b.size)(h:∀ t,t<k->bv lt key true (el a i) (el b (j+t))=true):Lo lt key a b (o++b.extract j (j+k)) i (j+k):=by
 unfold Lo at m ⊢;rw[jW,jJ];rw[<- Ce k (b.toList.drop j),HJ] at m;refine m.cy _ fun p hp q hq=>?_
 have sx:=m.sx;rw[oG hi] at hq sx;obtain⟨t,ht,rfl⟩:=rO hj hp;have h':Le lt key (el b (j+t)) (el a i):=Le.of od (by have:=h t ht;rwa[bvT] at this);rcases bW.mp hq with rfl|z
 ·exact h'
 ·exact h'.trans od ((sV.mp sx).1 q z)
theorem Lo.Fw(m:Lo lt key a b o i j)(hj:j=b.size):Res lt key a b (o++a.extract i a.size++b.extract j b.size):=by
 unfold Lo at m;unfold Res;rw[jW,jW,nu,nu];have e:b.toList.drop j=[]:=by rw[hj];simp
 rw[e] at m ⊢;rw[qX];exact m.a0j
theorem Lo.Fv(m:Lo lt key a b o i j)(hi:i=a.size):Res lt key a b (o++a.extract i a.size++b.extract j b.size):=by
 unfold Lo at m;unfold Res;rw[jW,jW,nu,nu];have e:a.toList.drop i=[]:=by rw[hi];simp
 rw[e] at m ⊢;rw[qX];exact m.a2h
theorem Lo.nif(t:Two lt key a₀ a b)(m:Lo lt key a b o i j)(hi:i+1=a.size):Res lt key a b (o++b.extract j b.size++a.extract i a.size):=by
 unfold Lo at m;unfold Res;rw[jW,jW,nu,nu];have e:a.toList.drop i=[el a i]:=by
  rw[oG (by lia),hi];have:a.toList.drop a.size=[]:=by simp
  rw[this]
 rw[e] at m ⊢;refine m.last fun q hq=>?_
 have:=t.last q (Bo hq);rwa[show a.size-1=i by lia] at this
end lo
theorem a1T(e:Env M A s κ key lt a₀){st:SortSt}(hk:kindOf st=κ){a b:Array Keyed}(t:Two lt key a₀ a b){Q:Array Keyed->SortSt->Prop}
  (h:∀ r g,Res lt key a b r->Q r (cA st g)):wpS M A E s (mlo a b) Q st:=by
 rw[a0I];have ea:∀ i,i<a.size->el a i∈a₀.toList:=fun i hi=>t.ma _ (w5 hi)
 have eb:∀ i,i<b.size->el b i∈a₀.toList:=fun i hi=>t.mb _ (w5 hi)
 have ma:∀(l:Bool)(y:Keyed)(i:Nat),∀ p q,p<=q->q<a.size-i->bv lt key l y (el a (i+q))=true->bv lt key l y (el a (i+p))=true:=fun l y i=>rB e.o fun p q h1 h2=>wR t.sa e.o (by lia) (by lia)
 have mb:∀(l:Bool)(y:Keyed)(i:Nat),∀ p q,p<=q->q<b.size-i->bv lt key l y (el b (i+q))=true->bv lt key l y (el b (i+p))=true:=fun l y i=>rB e.o fun p q h1 h2=>wR t.sb e.o (by lia) (by lia)
 have za:=t.za;have zb:=t.zb;have hkg:∀ g,kindOf (cA st g)=κ:=fun _=>hk
 refine aX (uw (uq ⟨rfl,?_⟩));refine aX (dM (by lia) ?_);have m0:Lo lt key a b #[el b 0] 0 1:=by
  have:Lo lt key a b #[] 0 0:=⟨by simp,List.Pairwise.nil,(fun p hp=>by cases hp),by simpa using t.sa,by simpa using t.sb⟩
  exact this.yt e.o (by lia) (by lia) t.first
 by_cases c1:1=b.size
 ·rw[aK (by simpa using c1)];exact aZ (h _ (gallopOf st) (m0.Fw c1))
 rw[aJ (by simpa using c1)];by_cases c2:0+1=a.size
 ·rw[aK (by simpa using c2)];exact aZ (h _ (gallopOf st) (m0.nif t c2))
 rw[aJ (by simpa using c2)];refine aX (jU ?_);dsimp only;refine aX (ju (jt (I:=fun x c st'=>(∃ g',st'=cA st g')/\∃ o i j g,c=(none,o,i,j,g)/\Lo lt key a b o i j/\i+1<a.size/\j<b.size/\x+1<=i+j)
  (Q:=fun c st'=>(∃ g',st'=cA st g')/\∃ r z,c=(some r,z)/\Res lt key a b r) ?step ?fin ?init) ?post)
 case init=>exact⟨⟨gallopOf st,rfl⟩,_,0,1,_,rfl,m0,by lia,by lia,by lia⟩
 case fin=>
  rintro c st' ⟨_,o,i,j,g,rfl,_,b1,b2,b3⟩;exfalso;lia
 case post=>
  rintro c st' ⟨⟨g',rfl⟩,r,z,rfl,hr⟩;exact aZ (h r g' hr)
 case step=>
  rintro x c st' _ hx ⟨⟨g',rfl⟩,o,i,j,g,rfl,m1,b1,b2,b3⟩;dsimp only;refine aX (ju (jt (I:=fun y c st'=>(∃ g',st'=cA st g')/\∃ o i j u v,c=(none,o,i,j,u,v)/\Lo lt key a b o i j/\i+1<a.size/\j<b.size/\x+1+y<=i+j)
   (Q:=fun c st'=>(∃ g',st'=cA st g')/\((∃ r z,c=(some r,z)/\Res lt key a b r)\/∃ o i j u v,c=(none,o,i,j,u,v)/\Lo lt key a b o i j/\i+1<a.size/\j<b.size/\x+2<=i+j)) ?s1 ?f1 ?i1) ?p1)
  case i1=>exact⟨⟨g',rfl⟩,o,i,j,0,0,rfl,m1,b1,b2,by omega⟩
  case f1=>
   rintro c st' ⟨_,o,i,j,u,v,rfl,_,b1,b2,b3⟩;exfalso;lia
  case s1=>
   rintro y c st' _ hy ⟨⟨g',rfl⟩,o,i,j,u,v,rfl,m2,d1,d2,d3⟩;dsimp only;refine aX (dM (by omega) (aX (dM (by lia) (aX (K6 e (st:=cA st g') (eb j (by omega)) (ea i (by lia)) hk ?_)))));dsimp only;by_cases hb:lt (key (el b j)) (key (el a i))=true
   ·rw[aK hb];refine aX (dM (by omega) ?_);have m3:=m2.yt e.o (by lia) (by omega) hb;by_cases f1:j+1=b.size
    ·rw[aK (by simpa using f1)];exact aZ ⟨⟨g',rfl⟩,.inl ⟨_,_,rfl,m3.Fw f1⟩⟩
    ·rw[aJ (by simpa using f1)];by_cases f2:v+1>=g
     ·rw[aK f2];exact aZ ⟨⟨g',rfl⟩,.inr ⟨_,_,_,_,_,rfl,m3,d1,by lia,by lia⟩⟩
     ·rw[aJ f2];exact aZ ⟨⟨g',rfl⟩,_,_,_,_,_,rfl,m3,d1,by lia,by lia⟩
   ·rw[aJ hb];refine aX (dM (by lia) ?_);have m3:=m2.qQ e.o (by lia) (by omega) (Cj hb);by_cases f1:i+1+1=a.size
    ·rw[aK (by simpa using f1)];exact aZ ⟨⟨g',rfl⟩,.inl ⟨_,_,rfl,m3.nif t f1⟩⟩
    ·rw[aJ (by simpa using f1)];by_cases f2:u+1>=g
     ·rw[aK f2];exact aZ ⟨⟨g',rfl⟩,.inr ⟨_,_,_,_,_,rfl,m3,by lia,by omega,by lia⟩⟩
     ·rw[aJ f2];exact aZ ⟨⟨g',rfl⟩,_,_,_,_,_,rfl,m3,by lia,by omega,by lia⟩
  case p1=>
   rintro c st' ⟨⟨g',rfl⟩,⟨r,z,rfl,hr⟩|⟨o,i,j,u,v,rfl,m2,d1,d2,d3⟩⟩
   ·exact aZ ⟨⟨g',rfl⟩,r,_,rfl,hr⟩
   dsimp only;refine aX (uw (uq ⟨rfl,?_⟩));refine aX (ju (jt (I:=fun y c st'=>(∃ g',st'=cA st g')/\∃ o i j g u v,c=(none,o,i,j,g,u,v)/\Lo lt key a b o i j/\i+1<a.size/\j<b.size/\x+2+y<=i+j)
    (Q:=fun c st'=>(∃ g',st'=cA st g')/\((∃ r z,c=(some r,z)/\Res lt key a b r)\/∃ o i j g u v,c=(none,o,i,j,g,u,v)/\Lo lt key a b o i j/\i+1<a.size/\j<b.size/\x+2<=i+j)) ?s2 ?f2 ?i2) ?p2)
   case i2=>exact⟨⟨g',rfl⟩,o,i,j,_,u,v,rfl,m2,d1,d2,by omega⟩
   case f2=>
    rintro c st' ⟨_,o,i,j,g,u,v,rfl,_,b1,b2,b3⟩;exfalso;lia
   case p2=>
    rintro c st' ⟨⟨g',rfl⟩,⟨r,z,rfl,hr⟩|⟨o,i,j,g,u,v,rfl,m2,d1,d2,d3⟩⟩
    ·exact aZ ⟨⟨g',rfl⟩,r,_,rfl,hr⟩
    ·exact aX (nU (aZ ⟨⟨_,rfl⟩,o,i,j,_,rfl,m2,d1,d2,by omega⟩))
   case s2=>
    rintro y c st' _ hy ⟨⟨g',rfl⟩,o,i,j,g,u,v,rfl,m3,d1,d2,d3⟩;dsimp only;by_cases hg:g>1
    all_goals first|rw[aK hg]|rw[aJ hg]
    all_goals
     refine aX (nU (aX (dM (by omega) (aX (qU e (st:=cA st _) (b:=i) (n:=a.size-i) (t:=0) (hkg _) (eb j (by omega)) (by lia) (fun t ht=>ea _ (by lia)) (by lia) (ma _ _ _) ?_)))));intro k k1 k2 k3;dsimp only;have m4:Lo lt key a b (o++a.extract i (i+k)) (i+k) j:=m3.Ko e.o (by lia) (by omega) k2;have lb:i+k<a.size->lt (key (el b j)) (key (el a (i+k)))=true:=fun z=>by
      have:=k3 k (bK _) (by lia);rw[bvF] at this;cases hc:lt (key (el b j)) (key (el a (i+k)))
      ·rw[hc] at this;cases this
      ·rfl
     by_cases hk0:k>0
     ·rw[aK hk0];by_cases f1:i+k+1=a.size
      ·rw[aK (by simpa using f1)];exact aZ ⟨⟨_,rfl⟩,.inl ⟨_,_,rfl,m4.nif t f1⟩⟩
      rw[aJ (by simpa using f1)];by_cases f2:i+k=a.size
      ·rw[aK (by simpa using f2)];exact aZ ⟨⟨_,rfl⟩,.inl ⟨_,_,rfl,m4.Fv f2⟩⟩
      rw[aJ (by simpa using f2)];have lb':=lb (by lia);have d1':i+k+1<a.size:=by lia
      have d3':x+2+y<=i+k+j:=by lia
      clear lb k2 k3;generalize o++a.extract i (i+k)=o1 at m4 ⊢;generalize i+k=i1 at m4 lb' d1' d3' ⊢;clear m3 d1 d3 k1 f1 f2;refine aX (dM (by omega) ?_);have m5:=m4.yt e.o (by lia) (by omega) lb';by_cases f3:j+1=b.size
      ·rw[aK (by simpa using f3)];exact aZ ⟨⟨_,rfl⟩,.inl ⟨_,_,rfl,m5.Fw f3⟩⟩
      rw[aJ (by simpa using f3)];refine aX (dM (by lia) (aX (qU e (st:=cA st _) (b:=j+1) (n:=b.size-(j+1)) (t:=0) (hkg _) (ea i1 (by lia)) (by lia) (fun t ht=>eb _ (by lia)) (by lia) (mb _ _ _) ?_)));intro l l1 l2 l3;dsimp only;have m6:=m5.zG (k:=l) e.o (by lia) (by lia) l2;have la:j+1+l<b.size->lt (key (el b (j+1+l))) (key (el a i1))=false:=fun z=>by
       have:=l3 l (bK _) (by lia);rwa[bvT] at this
      by_cases hl0:l>0
      ·rw[aK hl0];by_cases f4:j+1+l=b.size
       ·rw[aK (by simpa using f4)];exact aZ ⟨⟨_,rfl⟩,.inl ⟨_,_,rfl,m6.Fw f4⟩⟩
       rw[aJ (by simpa using f4)];refine aX (dM (by lia) ?_);have m7:=m6.qQ e.o (by lia) (by lia) (la (by lia));by_cases f5:i1+1+1=a.size
       ·rw[aK (by simpa using f5)];exact aZ ⟨⟨_,rfl⟩,.inl ⟨_,_,rfl,m7.nif t f5⟩⟩
       rw[aJ (by simpa using f5)];split
       ·exact aZ ⟨⟨_,rfl⟩,.inr ⟨_,_,_,_,_,_,rfl,m7,by lia,by lia,by lia⟩⟩
       ·exact aZ ⟨⟨_,rfl⟩,_,_,_,_,_,_,rfl,m7,by lia,by lia,by lia⟩
      ·rw[aJ hl0];have:l=0:=by lia
       subst this;have la':=la (by lia);rw[xH] at la';refine aX (dM (by lia) ?_);have m7:=m5.qQ e.o (by lia) (by lia) la';by_cases f5:i1+1+1=a.size
       ·rw[aK (by simpa using f5)];exact aZ ⟨⟨_,rfl⟩,.inl ⟨_,_,rfl,m7.nif t f5⟩⟩
       rw[aJ (by simpa using f5)];split
       ·exact aZ ⟨⟨_,rfl⟩,.inr ⟨_,_,_,_,_,_,rfl,m7,by lia,by lia,by lia⟩⟩
       ·exact aZ ⟨⟨_,rfl⟩,_,_,_,_,_,_,rfl,m7,by lia,by lia,by lia⟩
     ·rw[aJ hk0];have:k=0:=by lia
      subst this;have lb':=lb (by lia);rw[xH] at lb';refine aX (dM (by omega) ?_);have m5:=m3.yt e.o (by lia) (by omega) lb';by_cases f3:j+1=b.size
      ·rw[aK (by simpa using f3)];exact aZ ⟨⟨_,rfl⟩,.inl ⟨_,_,rfl,m5.Fw f3⟩⟩
      rw[aJ (by simpa using f3)];refine aX (dM (by lia) (aX (qU e (st:=cA st _) (b:=j+1) (n:=b.size-(j+1)) (t:=0) (hkg _) (ea i (by lia)) (by lia) (fun t ht=>eb _ (by lia)) (by lia) (mb _ _ _) ?_)));intro l l1 l2 l3;dsimp only;have m6:=m5.zG (k:=l) e.o (by lia) (by lia) l2;have la:j+1+l<b.size->lt (key (el b (j+1+l))) (key (el a i))=false:=fun z=>by
       have:=l3 l (bK _) (by lia);rwa[bvT] at this
      by_cases hl0:l>0
      ·rw[aK hl0];by_cases f4:j+1+l=b.size
       ·rw[aK (by simpa using f4)];exact aZ ⟨⟨_,rfl⟩,.inl ⟨_,_,rfl,m6.Fw f4⟩⟩
       rw[aJ (by simpa using f4)];refine aX (dM (by lia) ?_);have m7:=m6.qQ e.o (by lia) (by lia) (la (by lia));by_cases f5:i+1+1=a.size
       ·rw[aK (by simpa using f5)];exact aZ ⟨⟨_,rfl⟩,.inl ⟨_,_,rfl,m7.nif t f5⟩⟩
       rw[aJ (by simpa using f5)];split
       ·exact aZ ⟨⟨_,rfl⟩,.inr ⟨_,_,_,_,_,_,rfl,m7,by lia,by lia,by lia⟩⟩
       ·exact aZ ⟨⟨_,rfl⟩,_,_,_,_,_,_,rfl,m7,by lia,by lia,by lia⟩
      ·rw[aJ hl0];have:l=0:=by lia
       subst this;have la':=la (by lia);rw[xH] at la';refine aX (dM (by lia) ?_);have m7:=m5.qQ e.o (by lia) (by lia) la';by_cases f5:i+1+1=a.size
       ·rw[aK (by simpa using f5)];exact aZ ⟨⟨_,rfl⟩,.inl ⟨_,_,rfl,m7.nif t f5⟩⟩
       rw[aJ (by simpa using f5)];split
       ·exact aZ ⟨⟨_,rfl⟩,.inr ⟨_,_,_,_,_,_,rfl,m7,by lia,by lia,by lia⟩⟩
       ·exact aZ ⟨⟨_,rfl⟩,_,_,_,_,_,_,rfl,m7,by lia,by lia,by lia⟩
end
end TS
end L2
namespace L2
open PySem PySem.Spec PyProof.Rows PySem.W
namespace TS
section
variable{α:Type}{lt:α->α->Bool}{M:Model}{A:Around}{E:Value->Shared->Prop}{s:Shared}{κ:SortKind}{key:Keyed->α}{a₀:Array Keyed}
section hi
variable{a b o:Array Keyed}{i j k p:Nat}
theorem mH(h1:1<=i)(h:i<=a.size):(a.toList.take i).reverse=el a (i-1)::(a.toList.take (i-1)).reverse:=by
 obtain⟨n,rfl⟩:∃ n,i=n+1:=⟨i-1,by lia⟩
 rw[Nat.add_sub_cancel,List.take_add_one,X4];have:=oH (xs:=a) (i:=n) (by lia);have e:a.toList[n]?=some (el a n):=by simpa using this
 rw[e];rfl
abbrev Ge(lt:α->α->Bool)(key:Keyed->α)(p q:Keyed):Prop:=Le lt key q p
abbrev Hi(lt:α->α->Bool)(key:Keyed->α)(a b o:Array Keyed)(i j:Nat):Prop:=Mg (Ge lt key) a.toList.reverse b.toList.reverse o.toList (a.toList.take i).reverse (b.toList.take j).reverse
theorem Hi.qQ(od:jH lt)(m:Hi lt key a b o i j)(h1:1<=i)(hi:i<=a.size)(h2:1<=j)(hj:j<=b.size)(h:lt (key (el b (j-1))) (key (el a (i-1)))=true):Hi lt key a b (o.push (el a (i-1))) (i-1) j:=by
 unfold Hi at m ⊢;rw[mH h1 hi] at m;rw[Hu];refine m.tx fun q hq=>?_
 have sy:=m.sy;rw[mH h2 hj] at hq sy;rcases bW.mp hq with rfl|z
 ·exact Le.of od h
 ·exact Le.trans od ((sV.mp sy).1 q z) (Le.of od h)
theorem Hi.yt(od:jH lt)(m:Hi lt key a b o i j)(h1:1<=i)(hi:i<=a.size)(h2:1<=j)(hj:j<=b.size)(h:lt (key (el b (j-1))) (key (el a (i-1)))=false):Hi lt key a b (o.push (el b (j-1))) i (j-1):=by
 unfold Hi at m ⊢;rw[mH h2 hj] at m;rw[Hu];refine m.ty fun q hq=>?_
 have sx:=m.sx;rw[mH h1 hi] at hq sx;have h':Le lt key (el a (i-1)) (el b (j-1)):=h;rcases bW.mp hq with rfl|z
 ·exact h'
 ·exact Le.trans od ((sV.mp sx).1 q z) h'
theorem Q6(hp:p<=i):(a.toList.take i).reverse=((a.toList.drop p).take (i-p)).reverse++(a.toList.take p).reverse:=by
 rw[<- X4];congr 1;have:=List.take_add (l:=a.toList) (i:=p) (j:=i-p);rwa[show p+(i-p)=i by lia] at this
theorem Ow(hp:p<=i):((a.extract p i).reverse).toList=((a.toList.drop p).take (i-p)).reverse:=by
 rw[GQ];congr 1;have:=jJ (a:=a) (i:=p) (k:=i-p);rwa[show p+(i-p)=i by lia] at this
theorem Hi.Ko(od:jH lt)(m:Hi lt key a b o i j)(hp:p<=i)(hi:i<=a.size)(h2:1<=j)(hj:j<=b.size)(h:∀ t,p<=t->t<i->bv lt key false (el b (j-1)) (el a t)=false):Hi lt key a b (o++(a.extract p i).reverse) p j:=by
 unfold Hi at m ⊢;rw[jW,Ow hp];rw[Q6 hp] at m;refine m.cx _ fun u hu q hq=>?_
 have sy:=m.sy;rw[mH h2 hj] at hq sy;obtain⟨t,ht,rfl⟩:=rO (by lia) (Hx.mp hu);have h1:=h (p+t) (by lia) (by lia);have h':Le lt key (el b (j-1)) (el a (p+t)):=by
  rw[bvF] at h1;cases hc:lt (key (el b (j-1))) (key (el a (p+t)))
  ·rw[hc] at h1;cases h1
  ·exact Le.of od hc
 rcases bW.mp hq with rfl|z
 ·exact h'
 ·exact Le.trans od ((sV.mp sy).1 q z) h'
theorem Hi.zG(od:jH lt)(m:Hi lt key a b o i j)(hp:p<=j)(hj:j<=b.size)(h1:1<=i)(hi:i<=a.size)(h:∀ t,p<=t->t<j->bv lt key true (el a (i-1)) (el b t)=false):Hi lt key a b (o++(b.extract p j).reverse) i p:=by
 unfold Hi at m ⊢;rw[jW,Ow hp];rw[Q6 hp] at m;refine m.cy _ fun u hu q hq=>?_
 have sx:=m.sx;rw[mH h1 hi] at hq sx;obtain⟨t,ht,rfl⟩:=rO (by lia) (Hx.mp hu);have h':Le lt key (el a (i-1)) (el b (p+t)):=by
  have:=h (p+t) (by lia) (by lia);rwa[bvT] at this
 rcases bW.mp hq with rfl|z
 ·exact h'
 ·exact Le.trans od ((sV.mp sx).1 q z) h'
theorem Ga{l:List Keyed}{r:Array Keyed}(e:r.toList=l.reverse)(h:l.Perm (a.toList.reverse++b.toList.reverse)/\l.Pairwise (Ge lt key)):Res lt key a b r:=by
 unfold Res;rw[e];refine⟨(Nu l).trans (h.1.trans ((Nu _).append (Nu _))),Nf.mpr h.2⟩
theorem QX:(a.extract 0 i).toList=a.toList.take i:=by
 have:=jJ (a:=a) (i:=0) (k:=i);rwa[pD,HF] at this
theorem Hi.Fv(m:Hi lt key a b o i j)(hi:i=0):Res lt key a b (a.extract 0 i++b.extract 0 j++o.reverse):=by
 unfold Hi at m;have e:(a.toList.take i).reverse=[]:=by rw[hi];rfl
 rw[e] at m;refine Ga ?_ m.a2h;rw[jW,jW,QX,QX,GQ,hi];simp
theorem Hi.Fw(m:Hi lt key a b o i j)(hj:j=0):Res lt key a b (a.extract 0 i++b.extract 0 j++o.reverse):=by
 unfold Hi at m;have e:(b.toList.take j).reverse=[]:=by rw[hj];rfl
 rw[e] at m;refine Ga ?_ m.a0j;rw[jW,jW,QX,QX,GQ,hj];simp
theorem Hi.nif(od:jH lt)(t:Two lt key a₀ a b)(m:Hi lt key a b o i j)(hj:j=1):Res lt key a b (b.extract 0 j++a.extract 0 i++o.reverse):=by
 unfold Hi at m;have zb:=t.zb;have e:(b.toList.take j).reverse=[el b 0]:=by rw[hj,mH (bK _) zb];simp
 rw[e] at m;have:=m.swap.last fun q hq=>show Le lt key (el b 0) q from by
  obtain⟨n,hn,rfl⟩:=Nh.mp (yx (Hx.mp hq));have hn':n<a.size:=by simpa using hn
  have e1:=oH hn';rw[jK hn'] at e1;rw[Ni,iy e1];exact Le.trans od (Le.of od t.first) (wR t.sa od (kj _) hn')
 refine Ga ?_ ⟨this.1.trans Nb,this.2⟩;rw[jW,jW,QX,QX,GQ];have e2:b.toList.take j=[el b 0]:=by
  have:=congrArg List.reverse e;simpa using this
 rw[e2];simp
end hi
theorem a1S(e:Env M A s κ key lt a₀){st:SortSt}(hk:kindOf st=κ){a b:Array Keyed}(t:Two lt key a₀ a b){Q:Array Keyed->SortSt->Prop}
  (h:∀ r g,Res lt key a b r->Q r (cA st g)):wpS M A E s (mhi a b) Q st:=by
 rw[a0G];have ea:∀ i,i<a.size->el a i∈a₀.toList:=fun i hi=>t.ma _ (w5 hi)
 have eb:∀ i,i<b.size->el b i∈a₀.toList:=fun i hi=>t.mb _ (w5 hi)
 have ma:∀(l:Bool)(y:Keyed)(n:Nat),n<=a.size->∀ p q,p<=q->q<n->bv lt key l y (el a (0+q))=true->bv lt key l y (el a (0+p))=true:=fun l y n hn=>rB e.o fun p q h1 h2=>wR t.sa e.o (by lia) (by lia)
 have mb:∀(l:Bool)(y:Keyed)(n:Nat),n<=b.size->∀ p q,p<=q->q<n->bv lt key l y (el b (0+q))=true->bv lt key l y (el b (0+p))=true:=fun l y n hn=>rB e.o fun p q h1 h2=>wR t.sb e.o (by lia) (by lia)
 have za:=t.za;have zb:=t.zb;have hkg:∀ g,kindOf (cA st g)=κ:=fun _=>hk
 refine aX (uw (uq ⟨rfl,?_⟩));refine aX (dM (by omega) ?_);have m0:Hi lt key a b #[el a (a.size-1)] (a.size-1) b.size:=by
  have:Hi lt key a b #[] a.size b.size:=by
   refine⟨?_,List.Pairwise.nil,(fun p hp=>by cases hp),?_,?_⟩
   ·rw[Cd (by simp),Cd (by simp)];exact .refl _
   ·rw[Cd (by simp)];exact Nf.mpr t.sa
   ·rw[Cd (by simp)];exact Nf.mpr t.sb
  unfold Hi at this ⊢;rw[mH za (bK _)] at this;refine this.tx fun q hq=>t.last q ?_
  exact yx (Hx.mp hq)
 by_cases c1:a.size-1=0
 ·rw[aK (by simpa using c1)];exact aZ (h _ (gallopOf st) (m0.Fv c1))
 rw[aJ (by simpa using c1)];by_cases c2:b.size=1
 ·rw[aK (by simpa using c2)];exact aZ (h _ (gallopOf st) (m0.nif e.o t c2))
 rw[aJ (by simpa using c2)];refine aX (jU ?_);dsimp only;refine aX (ju (jt (I:=fun x c st'=>(∃ g',st'=cA st g')/\∃ o i j g,c=(none,i,j,o,g)/\Hi lt key a b o i j/\(1<=i/\i<=a.size/\2<=j/\j<=b.size)/\i+j+x+1<=a.size+b.size)
  (Q:=fun c st'=>(∃ g',st'=cA st g')/\∃ r z,c=(some r,z)/\Res lt key a b r) ?step ?fin ?init) ?post)
 case init=>exact⟨⟨gallopOf st,rfl⟩,_,_,_,_,rfl,m0,by lia,by lia⟩
 case fin=>
  rintro c st' ⟨_,o,i,j,g,rfl,_,b1,b3⟩;exfalso;lia
 case post=>
  rintro c st' ⟨⟨g',rfl⟩,r,z,rfl,hr⟩;exact aZ (h r g' hr)
 case step=>
  rintro x c st' _ hx ⟨⟨g',rfl⟩,o,i,j,g,rfl,m1,b1,b3⟩;dsimp only;refine aX (ju (jt (I:=fun y c st'=>(∃ g',st'=cA st g')/\∃ o i j u v,c=(none,i,j,o,u,v)/\Hi lt key a b o i j/\(1<=i/\i<=a.size/\2<=j/\j<=b.size)/\i+j+x+1+y<=a.size+b.size)
   (Q:=fun c st'=>(∃ g',st'=cA st g')/\((∃ r z,c=(some r,z)/\Res lt key a b r)\/∃ o i j u v,c=(none,i,j,o,u,v)/\Hi lt key a b o i j/\(1<=i/\i<=a.size/\2<=j/\j<=b.size)/\i+j+x+2<=a.size+b.size)) ?s1 ?f1 ?i1) ?p1)
  case i1=>exact⟨⟨g',rfl⟩,o,i,j,0,0,rfl,m1,b1,by omega⟩
  case f1=>
   rintro c st' ⟨_,o,i,j,u,v,rfl,_,b1,b3⟩;exfalso;lia
  case s1=>
   rintro y c st' _ hy ⟨⟨g',rfl⟩,o,i,j,u,v,rfl,m2,d1,d3⟩;dsimp only;refine aX (dM (by lia) (aX (dM (by lia) (aX (K6 e (st:=cA st g') (eb (j-1) (by lia)) (ea (i-1) (by lia)) hk ?_)))));dsimp only;by_cases hb:lt (key (el b (j-1))) (key (el a (i-1)))=true
   ·rw[aK hb];refine aX (dM (by lia) ?_);have m3:=m2.qQ e.o (by lia) (by lia) (by lia) (by lia) hb;by_cases f1:i-1=0
    ·rw[aK (by simpa using f1)];exact aZ ⟨⟨g',rfl⟩,.inl ⟨_,_,rfl,m3.Fv f1⟩⟩
    ·rw[aJ (by simpa using f1)];by_cases f2:u+1>=g
     ·rw[aK f2];exact aZ ⟨⟨g',rfl⟩,.inr ⟨_,_,_,_,_,rfl,m3,by lia,by lia⟩⟩
     ·rw[aJ f2];exact aZ ⟨⟨g',rfl⟩,_,_,_,_,_,rfl,m3,by lia,by lia⟩
   ·rw[aJ hb];refine aX (dM (by lia) ?_);have m3:=m2.yt e.o (by lia) (by lia) (by lia) (by lia) (Cj hb);by_cases f1:j-1=1
    ·rw[aK (by simpa using f1)];exact aZ ⟨⟨g',rfl⟩,.inl ⟨_,_,rfl,m3.nif e.o t f1⟩⟩
    ·rw[aJ (by simpa using f1)];by_cases f2:v+1>=g
     ·rw[aK f2];exact aZ ⟨⟨g',rfl⟩,.inr ⟨_,_,_,_,_,rfl,m3,by lia,by lia⟩⟩
     ·rw[aJ f2];exact aZ ⟨⟨g',rfl⟩,_,_,_,_,_,rfl,m3,by lia,by lia⟩
  case p1=>
   rintro c st' ⟨⟨g',rfl⟩,⟨r,z,rfl,hr⟩|⟨o,i,j,u,v,rfl,m2,d1,d3⟩⟩
   ·exact aZ ⟨⟨g',rfl⟩,r,_,rfl,hr⟩
   dsimp only;refine aX (uw (uq ⟨rfl,?_⟩));refine aX (ju (jt (I:=fun y c st'=>(∃ g',st'=cA st g')/\∃ o i j g u v,c=(none,i,j,o,g,u,v)/\Hi lt key a b o i j/\(1<=i/\i<=a.size/\2<=j/\j<=b.size)/\i+j+x+2+y<=a.size+b.size)
    (Q:=fun c st'=>(∃ g',st'=cA st g')/\((∃ r z,c=(some r,z)/\Res lt key a b r)\/∃ o i j g u v,c=(none,i,j,o,g,u,v)/\Hi lt key a b o i j/\(1<=i/\i<=a.size/\2<=j/\j<=b.size)/\i+j+x+2<=a.size+b.size)) ?s2 ?f2 ?i2) ?p2)
   case i2=>exact⟨⟨g',rfl⟩,o,i,j,_,u,v,rfl,m2,d1,by omega⟩
   case f2=>
    rintro c st' ⟨_,o,i,j,g,u,v,rfl,_,b1,b3⟩;exfalso;lia
   case p2=>
    rintro c st' ⟨⟨g',rfl⟩,⟨r,z,rfl,hr⟩|⟨o,i,j,g,u,v,rfl,m2,d1,d3⟩⟩
    ·exact aZ ⟨⟨g',rfl⟩,r,_,rfl,hr⟩
    ·exact aX (nU (aZ ⟨⟨_,rfl⟩,o,i,j,_,rfl,m2,d1,by omega⟩))
   case s2=>
    rintro y c st' _ hy ⟨⟨g',rfl⟩,o,i,j,g,u,v,rfl,m3,d1,d3⟩;dsimp only;by_cases hg:g>1
    all_goals first|rw[aK hg]|rw[aJ hg]
    all_goals
     refine aX (nU (aX (dM (by lia) (aX (qU e (st:=cA st _) (b:=0) (n:=i) (t:=i-1) (hkg _) (eb (j-1) (by lia)) (by lia) (fun t ht=>ea _ (by lia)) (by lia) (ma _ _ _ (by lia)) ?_)))));intro k k1 k2 k3;dsimp only;have m4:=m3.Ko (p:=k) e.o k1 (by lia) (by lia) (by lia) (fun t t1 t2=>by have:=k3 t t1 t2;rwa[pD] at this);have lb:1<=k->lt (key (el b (j-1))) (key (el a (k-1)))=false:=fun z=>by
      have:=k2 (k-1) (by lia);rw[bvF,pD] at this;cases hc:lt (key (el b (j-1))) (key (el a (k-1)))
      ·rfl
      ·rw[hc] at this;cases this
     by_cases hk0:i-k>0
     ·rw[aK hk0];by_cases f1:k=0
      ·rw[aK (by simpa using f1)];exact aZ ⟨⟨_,rfl⟩,.inl ⟨_,_,rfl,m4.Fv f1⟩⟩
      rw[aJ (by simpa using f1)];have lb':=lb (by lia);generalize o++(a.extract k i).reverse=o1 at m4 ⊢;refine aX (dM (by lia) ?_);have m5:=m4.yt e.o (by lia) (by lia) (by lia) (by lia) lb';by_cases f3:j-1=1
      ·rw[aK (by simpa using f3)];exact aZ ⟨⟨_,rfl⟩,.inl ⟨_,_,rfl,m5.nif e.o t f3⟩⟩
      rw[aJ (by simpa using f3)];refine aX (dM (by lia) (aX (qU e (st:=cA st _) (b:=0) (n:=j-1) (t:=j-1-1) (hkg _) (ea (k-1) (by lia)) (by lia) (fun t ht=>eb _ (by lia)) (by lia) (mb _ _ _ (by lia)) ?_)));intro l l1 l2 l3;dsimp only;have m6:=m5.zG (p:=l) e.o (by omega) (by lia) (by lia) (by lia) (fun t t1 t2=>by have:=l3 t t1 t2;rwa[pD] at this);have la:1<=l->lt (key (el b (l-1))) (key (el a (k-1)))=true:=fun z=>by
       have:=l2 (l-1) (by lia);rw[bvT,pD] at this;exact this
      by_cases hl0:j-1-l>0
      ·rw[aK hl0];by_cases f4:l=1
       ·rw[aK (by simpa using f4)];exact aZ ⟨⟨_,rfl⟩,.inl ⟨_,_,rfl,m6.nif e.o t f4⟩⟩
       rw[aJ (by simpa using f4)];by_cases f7:l=0
       ·rw[aK (by simpa using f7)];exact aZ ⟨⟨_,rfl⟩,.inl ⟨_,_,rfl,m6.Fw f7⟩⟩
       rw[aJ (by simpa using f7)];refine aX (dM (by lia) ?_);have m7:=m6.qQ e.o (by lia) (by lia) (by lia) (by lia) (la (by lia));by_cases f5:k-1=0
       ·rw[aK (by simpa using f5)];exact aZ ⟨⟨_,rfl⟩,.inl ⟨_,_,rfl,m7.Fv f5⟩⟩
       rw[aJ (by simpa using f5)];split
       ·exact aZ ⟨⟨_,rfl⟩,.inr ⟨_,_,_,_,_,_,rfl,m7,by lia,by lia⟩⟩
       ·exact aZ ⟨⟨_,rfl⟩,_,_,_,_,_,_,rfl,m7,by lia,by lia⟩
      ·rw[aJ hl0];have:l=j-1:=by lia
       subst this;have la':=la (by lia);refine aX (dM (by lia) ?_);have m7:=m5.qQ e.o (by lia) (by lia) (by lia) (by lia) la';by_cases f5:k-1=0
       ·rw[aK (by simpa using f5)];exact aZ ⟨⟨_,rfl⟩,.inl ⟨_,_,rfl,m7.Fv f5⟩⟩
       rw[aJ (by simpa using f5)];split
       ·exact aZ ⟨⟨_,rfl⟩,.inr ⟨_,_,_,_,_,_,rfl,m7,by lia,by lia⟩⟩
       ·exact aZ ⟨⟨_,rfl⟩,_,_,_,_,_,_,rfl,m7,by lia,by lia⟩
     ·rw[aJ hk0];have:k=i:=by lia
      subst this;have lb':=lb (by lia);refine aX (dM (by lia) ?_);have m5:=m3.yt e.o (by lia) (by lia) (by lia) (by lia) lb';by_cases f3:j-1=1
      ·rw[aK (by simpa using f3)];exact aZ ⟨⟨_,rfl⟩,.inl ⟨_,_,rfl,m5.nif e.o t f3⟩⟩
      rw[aJ (by simpa using f3)];refine aX (dM (by lia) (aX (qU e (st:=cA st _) (b:=0) (n:=j-1) (t:=j-1-1) (hkg _) (ea (k-1) (by lia)) (by lia) (fun t ht=>eb _ (by lia)) (by lia) (mb _ _ _ (by lia)) ?_)));intro l l1 l2 l3;dsimp only;have m6:=m5.zG (p:=l) e.o (by omega) (by lia) (by lia) (by lia) (fun t t1 t2=>by have:=l3 t t1 t2;rwa[pD] at this);have la:1<=l->lt (key (el b (l-1))) (key (el a (k-1)))=true:=fun z=>by
       have:=l2 (l-1) (by lia);rw[bvT,pD] at this;exact this
      by_cases hl0:j-1-l>0
      ·rw[aK hl0];by_cases f4:l=1
       ·rw[aK (by simpa using f4)];exact aZ ⟨⟨_,rfl⟩,.inl ⟨_,_,rfl,m6.nif e.o t f4⟩⟩
       rw[aJ (by simpa using f4)];by_cases f7:l=0
       ·rw[aK (by simpa using f7)];exact aZ ⟨⟨_,rfl⟩,.inl ⟨_,_,rfl,m6.Fw f7⟩⟩
       rw[aJ (by simpa using f7)];refine aX (dM (by lia) ?_);have m7:=m6.qQ e.o (by lia) (by lia) (by lia) (by lia) (la (by lia));by_cases f5:k-1=0
       ·rw[aK (by simpa using f5)];exact aZ ⟨⟨_,rfl⟩,.inl ⟨_,_,rfl,m7.Fv f5⟩⟩
       rw[aJ (by simpa using f5)];split
       ·exact aZ ⟨⟨_,rfl⟩,.inr ⟨_,_,_,_,_,_,rfl,m7,by lia,by lia⟩⟩
       ·exact aZ ⟨⟨_,rfl⟩,_,_,_,_,_,_,rfl,m7,by lia,by lia⟩
      ·rw[aJ hl0];have:l=j-1:=by lia
       subst this;have la':=la (by lia);refine aX (dM (by lia) ?_);have m7:=m5.qQ e.o (by lia) (by lia) (by lia) (by lia) la';by_cases f5:k-1=0
       ·rw[aK (by simpa using f5)];exact aZ ⟨⟨_,rfl⟩,.inl ⟨_,_,rfl,m7.Fv f5⟩⟩
       rw[aJ (by simpa using f5)];split
       ·exact aZ ⟨⟨_,rfl⟩,.inr ⟨_,_,_,_,_,_,rfl,m7,by lia,by lia⟩⟩
       ·exact aZ ⟨⟨_,rfl⟩,_,_,_,_,_,_,rfl,m7,by lia,by lia⟩
end
end TS
end L2
namespace L2
open PySem PySem.Spec PyProof.Rows PySem.W
namespace TS
theorem Lj(i:Nat):mergeAt' i=(do
 let c <- get
 let (some (p,n,w),some (q,m,_)):=((pendingOf c)[i]?,(pendingOf c)[i+1]?)|unsupported "internal:list.sort.pending"
 set (setPending c (((pendingOf c).setIfInBounds i (p,n+m,w)).eraseIdxIfInBounds (i+1)))
 let some k <- gal false (<- elem' (arrOf c) q) (arrOf c) p n 0|return false
 let (p,n):=(p+k,n-k)
 if n==0 then return true
 let some m <- gal true (<- elem' (arrOf c) (p+n-1)) (arrOf c) q m (m-1)|return false
 if m==0 then return true
 let x:=(arrOf c).extract p q
 let y:=(arrOf c).extract q (q+m)
 let r <- if n<=m then mlo x y else mhi x y
 modify fun c=>setArr c (r.toList.zipIdx.foldl (fun a (v,j)=>a.setIfInBounds (p+j) v) (arrOf c))
 return (failedOf (<- get)).isNone):=rfl
theorem bZ{β:Type}(p:Nat):∀(l:List β)(n:Nat)(xs:Array β),p+n+l.length<=xs.size ->
  ((l.zipIdx n).foldl (fun a (x:β×Nat)=>a.setIfInBounds (p+x.2) x.1) xs).toList=xs.toList.take (p+n)++l++xs.toList.drop (p+n+l.length)
 |[],n,xs,h=>by simp
 |v::l,n,xs,h=>by
  rw[List.zipIdx_cons,vC];have hl:p+n+(l.length+1)<=xs.size:=h;rw[bZ p l (n+1) _ (by rw[Array.size_setIfInBounds];lia)];dsimp only;rw[Ws];have e1:(xs.toList.set (p+n) v).take (p+(n+1))=xs.toList.take (p+n)++[v]:=by
   rw[<- Nat.add_assoc,List.take_add_one,List.take_set_of_le (bK _),MP (by simp;lia)];rfl
  have e2:(xs.toList.set (p+n) v).drop (p+(n+1)+l.length)=xs.toList.drop (p+n+(v::l).length):=by
   rw[List.drop_set_of_lt (by lia)];congr 1;simp;lia
  rw[e1,e2];simp
def over(xs:Array Keyed)(p:Nat)(r:Array Keyed):Array Keyed:=r.toList.zipIdx.foldl (fun a (x:Keyed×Nat)=>a.setIfInBounds (p+x.2) x.1) xs
theorem yp{xs r:Array Keyed}{p:Nat}(h:p+r.size<=xs.size):(over xs p r).toList=xs.toList.take p++r.toList++xs.toList.drop (p+r.size):=by
 have:=bZ p r.toList 0 xs (by simpa using h);simpa [over] using this
theorem yP{xs:Array Keyed}{i:Nat}:el xs i=xs.toList.getD i (Value.none,Value.none):=by
 unfold el;rw[pJ,dj,wU]
theorem Fq{xs r:Array Keyed}{p k:Nat}(h:p+r.size<=xs.size):el (over xs p r) k=if p<=k/\k<p+r.size then el r (k-p) else el xs k:=by
 rw[yP,yp h,yP,yP];simp only[dj];have lt1:(xs.toList.take p).length=p:=by simp;lia
 by_cases h1:k<p
 ·rw[aJ (by lia),yD,Ep (by lia),Ww h1]
 ·by_cases h2:k<p+r.size
  ·rw[aK (by lia),yD,BZ (by lia),lt1,Ep (by simp;lia)]
  ·rw[aJ (by lia),BZ (by simp;lia)];congr 1;rw[cL,lt1,List.getElem?_drop,jk];congr 1;lia
theorem Rx{xs r:Array Keyed}{p:Nat}(h:p+r.size<=xs.size)(hr:r.toList.Perm ((xs.toList.drop p).take r.size)):(over xs p r).Perm xs:=by
 rw[Array.perm_iff_toList_perm,yp h];have e:xs.toList=xs.toList.take p++(xs.toList.drop p).take r.size++xs.toList.drop (p+r.size):=by
  rw[<- HJ,yD,Ce,Ce]
 conv=>rhs;rw[e]
 exact((hr.append_left _).append_right _)
theorem Tn{xs:Array Keyed}{i j t:Nat}(hj:j<=xs.size)(ht:t<j-i):el (xs.extract i j) t=el xs (i+t):=by
 refine nj ?_;rw[Array.getElem?_extract,aK (by lia)]
section
variable{α:Type}{lt:α->α->Bool}{M:Model}{A:Around}{E:Value->Shared->Prop}{s:Shared}{κ:SortKind}{key:Keyed->α}{a₀:Array Keyed}
theorem pw_of{a:Array Keyed}(h:∀ i j,i<j->j<a.size->Le lt key (el a i) (el a j)):a.toList.Pairwise (Le lt key):=by
 rw[Ca];intro i j hi hj hij;have hj':j<a.size:=by simpa using hj
 have e1:=oH (xs:=a) (i:=i) (by omega);have e2:=oH hj';rw[jK (by omega)] at e1 e2;rw[Ni,Ni,iy e1,iy e2];exact h i j hij hj'
theorem a1U{zzs:Type}{x:zzs}{Q:PUnit->zzs->Prop}{st:zzs}(h:Q ⟨⟩ x):wpS M A E s (set x:StateT zzs Sem PUnit) Q st:=by
 unfold wpS;rw[StateT.run_set];exact cF ⟨rfl,h⟩
theorem a3p(e:Env M A s κ key lt a₀){st:SortSt}(hk:kindOf st=κ)(hf:failedOf st=none)(hp:(arrOf st).Perm a₀){i p n w q m w':Nat}{L1 L2:List (Nat×Nat×Nat)}
  (hL:(pendingOf st).toList=L1++(p,n,w)::(q,m,w')::L2) (hi:L1.length=i) (hq:q=p+n) (hn:1<=n) (hm:1<=m) (hz:q+m<=a₀.size) (s1:Srt lt key (arrOf st) p (p+n)) (s2:Srt lt key (arrOf st) q (q+m)) {Q:Bool->SortSt->Prop}
  (h:∀ xs g,xs.Perm a₀->(∀ k,k<p\/q+m<=k->el xs k=el (arrOf st) k)->Srt lt key xs p (q+m)->Q true (SortSt.mk' (kindOf st) xs (L1++(p,n+m,w)::L2).toArray g (failedOf st))):wpS M A E s (mergeAt' i) Q st:=by
 rw[Lj];have sz:(arrOf st).size=a₀.size:=hp.size_eq;have g1:(pendingOf st)[i]?=some (p,n,w):=by
  rw[<- wU,hL,BZ (by lia),hi,Nat.sub_self];rfl
 have g2:(pendingOf st)[i+1]?=some (q,m,w'):=by
  rw[<- wU,hL,BZ (by lia),hi,show i+1-i=1 by lia];rfl
 refine aX (jU ?_);rw[g1,g2];have ep:((pendingOf st).setIfInBounds i (p,n+m,w)).eraseIdxIfInBounds (i+1)=(L1++(p,n+m,w)::L2).toArray:=by
  apply Nz.mp;rw[Array.toList_eraseIdxIfInBounds,Ws,hL];rw[List.set_append_right _ _ (by lia),hi,Nat.sub_self,List.eraseIdx_append_of_length_le (by lia),hi,show i+1-i=1 by lia];rfl
 refine aX (a1U ?_);rw[ep];have hkp:∀ P,kindOf (setPending st P)=κ:=fun _=>hk
 have ea:∀ t,t<a₀.size->el (arrOf st) t∈a₀.toList:=fun t ht=>Ae hp ht
 refine aX (dM (by lia) (aX (qU e (st:=setPending st _) (b:=p) (n:=n) (t:=0) (hkp _) (ea q (by lia)) (by lia) (fun t ht=>ea _ (by lia)) (by lia) (rB e.o fun u v h1 h2=>s1 _ _ (by lia) (by lia) (by lia)) ?_)));intro k k1 k2 k3;dsimp only;have cut:∀ t,p<=t->t<p+k->Le lt key (el (arrOf st) t) (el (arrOf st) q):=fun t t1 t2=>by
  have:=k2 (t-p) (by lia);rw[bvF,show p+(t-p)=t by lia] at this;unfold Le;cases hc:lt (key (el (arrOf st) q)) (key (el (arrOf st) t))
  ·rfl
  ·rw[hc] at this;cases this
 by_cases c1:n-k=0
 ·rw[aK (by simpa using c1)];refine aZ (h (arrOf st) (gallopOf st) hp (fun _ _=>rfl) fun u v h1 h2 h3=>?_);by_cases hv:v<p+n
  ·exact s1 u v h1 h2 hv
  ·by_cases hu:u<q
   ·exact Le.trans e.o (cut u h1 (by lia)) (s2 q v (bK _) (by lia) h3)
   ·exact s2 u v (by lia) h2 h3
 rw[aJ (by simpa using c1)];have el1:p+k+(n-k)-1=q-1:=by lia
 rw[el1];refine aX (dM (by omega) (aX (qU e (st:=setPending st _) (b:=q) (n:=m) (t:=m-1) (hkp _) (ea (q-1) (by omega)) (by lia) (fun t ht=>ea _ (by lia)) (by lia) (rB e.o fun u v h1 h2=>s2 _ _ (by lia) (by lia) (by lia)) ?_)));intro l l1 l2 l3;dsimp only;have a2b:∀ t,q+l<=t->t<q+m->Le lt key (el (arrOf st) (q-1)) (el (arrOf st) t):=fun t t1 t2=>by
  have:=l3 (t-q) (by lia) (by lia);rw[bvT,show q+(t-q)=t by lia] at this;exact this
 by_cases c2:l=0
 ·rw[aK (by simpa using c2)];refine aZ (h (arrOf st) (gallopOf st) hp (fun _ _=>rfl) fun u v h1 h2 h3=>?_);by_cases hv:v<p+n
  ·exact s1 u v h1 h2 hv
  ·by_cases hu:u<q
   ·exact Le.trans e.o (s1 u (q-1) h1 (by omega) (by omega)) (a2b v (by lia) h3)
   ·exact s2 u v (by lia) h2 h3
 rw[aJ (by simpa using c2)];have za:((arrOf st).extract (p+k) q).size=n-k:=by rw[Xb];lia
 have zb:((arrOf st).extract q (q+l)).size=l:=by rw[Xb];lia
 have ela:∀ t,t<n-k->el ((arrOf st).extract (p+k) q) t=el (arrOf st) (p+k+t):=fun t ht=>Tn (by lia) (by lia)
 have elb:∀ t,t<l->el ((arrOf st).extract q (q+l)) t=el (arrOf st) (q+t):=fun t ht=>Tn (by lia) (by lia)
 have ina:∀ x∈((arrOf st).extract (p+k) q).toList,∃ t,t<n-k/\x=el (arrOf st) (p+k+t):=fun x hx=>by
  have e1:=jJ (a:=arrOf st) (i:=p+k) (k:=n-k);rw[show p+k+(n-k)=q by lia] at e1;rw[e1] at hx;exact rO (by omega) hx
 have inb:∀ x∈((arrOf st).extract q (q+l)).toList,∃ t,t<l/\x=el (arrOf st) (q+t):=fun x hx=>by
  rw[jJ] at hx;exact rO (by lia) hx
 have two:Two lt key a₀ ((arrOf st).extract (p+k) q) ((arrOf st).extract q (q+l)):=by
  refine⟨fun x hx=>?_,fun x hx=>?_,pw_of fun u v h1 h2=>?_,pw_of fun u v h1 h2=>?_,by lia,by lia,?_,fun y hy=>?_⟩
  ·obtain⟨t,ht,rfl⟩:=ina x hx;exact ea _ (by lia)
  ·obtain⟨t,ht,rfl⟩:=inb x hx;exact ea _ (by lia)
  ·rw[ela u (by lia),ela v (by lia)];exact s1 _ _ (by lia) (by lia) (by omega)
  ·rw[elb u (by lia),elb v (by lia)];exact s2 _ _ (by lia) (by lia) (by lia)
  ·rw[ela 0 (by lia),elb 0 (by lia)];have:=k3 k (bK _) (by lia);rw[bvF] at this;rw[xH,xH];cases hc:lt (key (el (arrOf st) q)) (key (el (arrOf st) (p+k)))
   ·rw[hc] at this;cases this
   ·rfl
  ·obtain⟨t,ht,rfl⟩:=inb y hy;rw[za,ela _ (by lia),show p+k+(n-k-1)=q-1 by lia];have:=l2 t (by omega);rw[bvT] at this;exact Le.of e.o this
 have done:∀ r g,Res lt key ((arrOf st).extract (p+k) q) ((arrOf st).extract q (q+l)) r->wpS M A E s (do modify fun c=>setArr c (r.toList.zipIdx.foldl (fun a (v,j)=>a.setIfInBounds (p+k+j) v) (arrOf c));return (failedOf (<- get)).isNone) Q (cA (setPending st (L1++(p,n+m,w)::L2).toArray) g):=fun r g hr=>by
  refine aX (nU (aX (jU ?_)));have e0:(failedOf (setArr (cA (setPending st (L1++(p,n+m,w)::L2).toArray) g) (over (arrOf st) (p+k) r))).isNone=true:=by
   show(failedOf st).isNone=true;rw[hf];rfl
  change wpS M A E s (pure (failedOf (setArr (cA (setPending st (L1++(p,n+m,w)::L2).toArray) g) (over (arrOf st) (p+k) r))).isNone) Q (setArr (cA (setPending st (L1++(p,n+m,w)::L2).toArray) g) (over (arrOf st) (p+k) r));rw[e0];have rs:r.size=n-k+l:=by
   have:=hr.1.length_eq;rw[cL,jk,jk,jk,za,zb] at this;exact this
  have hb:p+k+r.size<=(arrOf st).size:=by lia
  have pm:(over (arrOf st) (p+k) r).Perm a₀:=by
   refine(Rx hb (hr.1.trans ?_)).trans hp;have e1:=jJ (a:=arrOf st) (i:=p+k) (k:=n-k);rw[show p+k+(n-k)=q by lia] at e1;rw[e1,jJ,rs,List.take_add,HJ,show p+k+(n-k)=q by lia]
  have mid:∀ t,t<r.size->(∃ t',p+k<=t'/\t'<q/\el r t=el (arrOf st) t')\/(∃ t',q<=t'/\t'<q+l/\el r t=el (arrOf st) t'):=fun t ht=>by
   rcases cD.mp (hr.1.mem_iff.mp (w5 ht)) with z|z
   ·obtain⟨u,hu,eu⟩:=ina _ z;exact .inl ⟨p+k+u,by lia,by lia,eu⟩
   ·obtain⟨u,hu,eu⟩:=inb _ z;exact .inr ⟨q+u,by lia,by lia,eu⟩
  refine aZ (h (over (arrOf st) (p+k) r) g pm (fun t ht=>?_) fun u v h1 h2 h3=>?_)
  ·rw[Fq hb,aJ (by lia)]
  ·show Le lt key (el (over (arrOf st) (p+k) r) u) (el (over (arrOf st) (p+k) r) v);rw[Fq hb,Fq hb];by_cases hu:u<p+k
   ·rw[aJ (by lia)];by_cases hv:p+k<=v/\v<p+k+r.size
    ·rw[aK hv];rcases mid (v-(p+k)) (by lia) with⟨t',a1,a2,a3⟩|⟨t',a1,a2,a3⟩
     ·rw[a3];exact s1 _ _ h1 (by lia) (by lia)
     ·rw[a3];exact Le.trans e.o (cut u h1 hu) (s2 _ _ (bK _) a1 (by lia))
    ·rw[aJ hv];by_cases hv2:v<p+k
     ·exact s1 _ _ h1 h2 (by lia)
     ·exact Le.trans e.o (cut u h1 hu) (s2 _ _ (bK _) (by lia) h3)
   ·by_cases hu2:u<p+k+r.size
    ·rw[aK (by lia)];by_cases hv:p+k<=v/\v<p+k+r.size
     ·rw[aK hv];exact wR hr.2 e.o (by lia) (by lia)
     ·rw[aJ hv];rcases mid (u-(p+k)) (by lia) with⟨t',a1,a2,a3⟩|⟨t',a1,a2,a3⟩
      ·rw[a3];exact Le.trans e.o (s1 t' (q-1) (by lia) (by lia) (by lia)) (a2b v (by lia) h3)
      ·rw[a3];exact s2 _ _ a1 (by lia) h3
    ·rw[aJ (by lia),aJ (by lia)];exact s2 _ _ (by lia) h2 h3
 by_cases c3:n-k<=l
 ·rw[aK c3];exact aX (a1T e (st:=setPending st _) (hkp _) two fun r g hr=>done r g hr)
 ·rw[aJ c3];exact aX (a1S e (st:=setPending st _) (hkp _) two fun r g hr=>done r g hr)
end
end TS
end L2
namespace L2
open PySem PySem.Spec PyProof.Rows PySem.W
namespace TS
section
variable{α:Type}{lt:α->α->Bool}{M:Model}{A:Around}{E:Value->Shared->Prop}{s:Shared}{κ:SortKind}{key:Keyed->α}{a₀:Array Keyed}
def Runs(lt:α->α->Bool)(key:Keyed->α)(xs:Array Keyed):Nat->List (Nat×Nat×Nat)->Nat->Prop
 |a,[],b=>a=b
 |a,r::l,b=>r.1=a/\1<=r.2.1/\Srt lt key xs a (a+r.2.1)/\Runs lt key xs (a+r.2.1) l b
theorem Runs.le{xs:Array Keyed}:∀ {l:List (Nat×Nat×Nat)} {a b:Nat},Runs lt key xs a l b->a+l.length<=b
 |[],a,b,h=>by cases h;simp
 |r::l,a,b,h=>by
  have:=Runs.le h.2.2.2;have:=h.2.1;simp;lia
theorem Runs.congr{xs ys:Array Keyed}:∀ {l:List (Nat×Nat×Nat)} {a b:Nat},Runs lt key xs a l b->(∀ k,a<=k->k<b->el ys k=el xs k)->Runs lt key ys a l b
 |[],a,b,h,_=>h
 |r::l,a,b,h,e=>by
  have hl:=h.2.2.2.le;refine⟨h.1,h.2.1,fun p q h1 h2 h3=>?_,Runs.congr h.2.2.2 fun k h1 h2=>e k (by lia) h2⟩;rw[e p (by omega) (by lia),e q (by lia) (by lia)];exact h.2.2.1 p q h1 h2 h3
theorem Runs.app{xs:Array Keyed}:∀ {l l':List (Nat×Nat×Nat)} {a b:Nat},Runs lt key xs a (l++l') b↔∃ c,Runs lt key xs a l c/\Runs lt key xs c l' b
 |[],l',a,b=>⟨fun h=>⟨a,rfl,h⟩,fun⟨c,h1,h2⟩=>by cases h1;exact h2⟩
 |r::l,l',a,b=>by
  constructor
  ·intro h;obtain⟨c,h1,h2⟩:=Runs.app.mp h.2.2.2;exact⟨c,⟨h.1,h.2.1,h.2.2.1,h1⟩,h2⟩
  ·rintro⟨c,⟨h1,h2,h3,h4⟩,h5⟩;exact⟨h1,h2,h3,Runs.app.mpr ⟨c,h4,h5⟩⟩
abbrev mkS(st:SortSt)(xs:Array Keyed)(L:List (Nat×Nat×Nat))(g:Nat):SortSt:=SortSt.mk' (kindOf st) xs L.toArray g (failedOf st)
theorem Mv(e:Env M A s κ key lt a₀){st:SortSt}(hk:kindOf st=κ)(hf:failedOf st=none){xs:Array Keyed}(hp:xs.Perm a₀){L:List (Nat×Nat×Nat)}{g i lo:Nat}(hi:i+1<L.length)(hR:Runs lt key xs 0 L lo)(hz:lo<=a₀.size){Q:Bool->SortSt->Prop}
  (h:∀ xs' L' g',xs'.Perm a₀->Runs lt key xs' 0 L' lo->L'.length+1=L.length->(∀ k,lo<=k->el xs' k=el xs k)->Q true (mkS st xs' L' g')):wpS M A E s (mergeAt' i) Q (mkS st xs L g):=by
 have e0:L=L.take i++(L[i]::L[i+1]::L.drop (i+2)):=by
  rw[<- yw,<- yw,Ce]
 generalize hx:L[i]=x at e0;generalize hy:L[i+1]=y at e0;generalize h1:L.take i=L1 at e0;generalize h2:L.drop (i+2)=L2 at e0;obtain⟨p,n,w⟩:=x;obtain⟨q,m,w'⟩:=y;have hl1:L1.length=i:=by rw[<- h1,jX];lia
 rw[e0] at hR;obtain⟨c,r1,r2⟩:=Runs.app.mp hR;obtain⟨a1,a2,a3,b1,b2,b3,b4⟩:=r2;dsimp only at a1 a2 a3 b1 b2 b3 b4;subst a1;subst b1;have le1:=r1.le;have le2:=b4.le;refine a3p e (st:=mkS st xs L g) (L1:=L1) (L2:=L2) (p:=p) (n:=n) (w:=w) (q:=p+n) (m:=m) (w':=w') hk hf hp (by show L.toArray.toList=_;rw[List.toList_toArray];exact e0) hl1 rfl a2 b2 (by lia) a3 b3 ?_;intro ys g' hy1 hy2 hy3;have a0o:∀ k,k<p\/p+n+m<=k->el ys k=el xs k:=hy2;refine h ys _ g' hy1 (Runs.app.mpr ⟨p,r1.congr fun k _ hk=>a0o k (.inl hk),rfl,(show 1<=n+m by lia),?_,?_⟩) ?_ fun k hk=>a0o k (.inr (by lia))
 ·have:p+(n+m)=p+n+m:=by lia
  show Srt lt key ys p (p+(n+m));rw[this];exact hy3
 ·show Runs lt key ys (p+(n+m)) L2 lo;have:p+(n+m)=p+n+m:=by lia
  rw[this];exact b4.congr fun k hk _=>a0o k (.inr hk)
 ·rw[e0];simp;lia
theorem Runs.modify{xs:Array Keyed}{f:Nat×Nat×Nat->Nat×Nat×Nat}(h1:∀ x,(f x).1=x.1)(h2:∀ x,(f x).2.1=x.2.1):∀ {l:List (Nat×Nat×Nat)} {k a b:Nat},Runs lt key xs a l b->Runs lt key xs a (l.modify k f) b
 |[],k,a,b,h=>by simpa using h
 |r::l,0,a,b,h=>by
  rw[List.modify_zero_cons];unfold Runs at h ⊢;rw[h1,h2];exact h
 |r::l,k+1,a,b,h=>by
  rw[List.modify_succ_cons];exact⟨h.1,h.2.1,h.2.2.1,Runs.modify h1 h2 h.2.2.2⟩
theorem Zm(e:Env M A s κ key lt a₀){st:SortSt}(hk:kindOf st=κ)(hf:failedOf st=none)(ha:arrOf st=a₀)(hP:pendingOf st=#[]){Q:Unit->SortSt->Prop}
  (h:∀ st',(arrOf st').Perm a₀->failedOf st'=none->Srt lt key (arrOf st') 0 a₀.size->Q () st'):wpS M A E s sortRuns' Q st:=by
 rw[sortRuns'_eq];refine aX (jU ?_);rw[ha];dsimp only;generalize minRun' a₀.size a₀.size 0=mr;refine aX (ju (jt (I:=fun x c st'=>∃ xs L g lo,st'=mkS st xs L g/\c=(none,lo)/\xs.Perm a₀/\Runs lt key xs 0 L lo/\lo<=a₀.size/\(x<=lo\/lo=a₀.size))
  (Q:=fun c st'=>∃ xs L g,st'=mkS st xs L g/\c=(none,a₀.size)/\xs.Perm a₀/\Runs lt key xs 0 L a₀.size) ?step ?fin ?init) ?post)
 case init=>
  refine⟨a₀,[],gallopOf st,0,?_,rfl,.refl _,rfl,by lia,.inl (bK _)⟩;show st=SortSt.mk' (kindOf st) a₀ #[] (gallopOf st) (failedOf st);rw[<- ha,<- hP]
 case fin=>
  rintro c st' ⟨xs,L,g,lo,rfl,rfl,a1,a2,a3,a4⟩;have:lo=a₀.size:=by lia
  subst this;exact⟨xs,L,g,rfl,rfl,a1,a2⟩
 case step=>
  rintro x c st' _ hx ⟨xs,L,g,lo,rfl,rfl,a1,a2,a3,a4⟩;dsimp only;by_cases hge:lo>=a₀.size
  ·rw[aK hge];have:lo=a₀.size:=by lia
   subst this;exact aZ ⟨xs,L,g,rfl,rfl,a1,a2⟩
  rw[aJ hge];refine aX (Wk e (st:=mkS st xs L g) hk a1 (by lia) (by lia) ?_);intro n ys p1 p2 p3 p4 p5;dsimp only;have hy:Low ys xs lo:=p2;by_cases hm:n<mr
  ·rw[aK hm];refine aX (uw (uq ⟨rfl,?_⟩));refine aX (a1R e (st:=mkS st ys L g) hk p1 p3 (by lia) (by lia) p5 fun zs r1 r2 r5=>?_);rw[aJ (by decide)];have r3:1<=min (a₀.size-lo) mr:=by lia
   have r4:lo+min (a₀.size-lo) mr<=a₀.size:=by lia
   have rR:Runs lt key zs 0 L lo:=a2.congr fun k _ hk=>(r2.trans hy) k hk
   show wpS M A E s _ _ (mkS st zs L g);clear p2 hy p5 r2 hm p3 p4 p1;generalize min (a₀.size-lo) mr=n at r3 r4 r5 ⊢;have snoc:∀(ys:Array Keyed)(L':List (Nat×Nat×Nat)),Runs lt key ys 0 L' lo->(∀ k,lo<=k->el ys k=el zs k)->Runs lt key ys 0 (L'++[(lo,n,0)]) (lo+n):=fun ys L' hy he=>
    Runs.app.mpr ⟨lo,hy,rfl,r3,fun p q h1 h2 h3=>by rw[he p h1,he q (by lia)];exact r5 p q h1 h2 h3,rfl⟩
   have push:∀(ys:Array Keyed)(L':List (Nat×Nat×Nat))(g':Nat),setPending (mkS st ys L' g') ((pendingOf (mkS st ys L' g')).push (lo,n,0))=mkS st ys (L'++[(lo,n,0)]) g':=fun ys L' g'=>by
    show SortSt.mk' _ _ (L'.toArray.push (lo,n,0)) _ _=_;rw[List.push_toArray]
   refine aX (jU ?_);have ep:∀(ys:Array Keyed)(L':List (Nat×Nat×Nat))(g':Nat),pendingOf (mkS st ys L' g')=L'.toArray:=fun _ _ _=>rfl
   rw[ep];cases hb:L.toArray.back? with
   |none=>
    dsimp only;refine aX (nU (aZ ?_));rw[push];exact⟨zs,_,g,lo+n,rfl,rfl,r1,snoc zs L rR (fun _ _=>rfl),r4,.inl (by lia)⟩
   |some z=>
    obtain⟨u,v,w⟩:=z;dsimp only;refine aX (ju (jt (I:=fun x c st'=>∃ ys L' g',st'=mkS st ys L' g'/\c=(none,())/\ys.Perm a₀/\Runs lt key ys 0 L' lo/\(∀ k,lo<=k->el ys k=el zs k))
     (Q:=fun c st'=>∃ ys L' g',st'=mkS st ys L' g'/\c=(none,())/\ys.Perm a₀/\Runs lt key ys 0 L' lo/\(∀ k,lo<=k->el ys k=el zs k)) ?sti (fun _ _ z=>z) ⟨zs,L,g,rfl,rfl,r1,rR,fun _ _=>rfl⟩) ?poi)
    case sti=>
     rintro y c st' _ hy ⟨ys,L',g',rfl,rfl,b1,b2,b3⟩;refine aX (jU ?_);rw[ep,cN];by_cases hl:L'.length>1
     ·rw[aK hl,GK,gP (by lia)];generalize L'[L'.length-2]=t;obtain⟨t1,t2,t3⟩:=t;dsimp only;by_cases ho:t3<=power' a₀.size (2*u+v) (2*u+v+v+n) a₀.size
      ·rw[aK ho];exact aZ ⟨ys,L',g',rfl,rfl,b1,b2,b3⟩
      ·rw[aJ ho];refine aX (Mv e hk hf b1 (by lia) b2 (by omega) fun zs L2 g2 c1 c2 c3 c4=>?_);exact aZ ⟨zs,L2,g2,rfl,rfl,c1,c2,fun k hk=>(c4 k hk).trans (b3 k hk)⟩
     ·rw[aJ hl];exact aZ ⟨ys,L',g',rfl,rfl,b1,b2,b3⟩
    case poi=>
     rintro c st' ⟨ys,L',g',rfl,rfl,b1,b2,b3⟩;dsimp only;refine aX (nU (aX (nU (aZ ?_))));generalize power' a₀.size (2*u+v) (2*u+v+v+n) a₀.size=pw;have em:setPending (mkS st ys L' g') ((pendingOf (mkS st ys L' g')).modify ((pendingOf (mkS st ys L' g')).size-1) fun x=>(x.1,x.2.1,pw))=mkS st ys (L'.modify (L'.length-1) fun x=>(x.1,x.2.1,pw)) g':=by
      show SortSt.mk' _ _ (L'.toArray.modify (L'.toArray.size-1) fun x=>(x.1,x.2.1,pw)) _ _=_;rw[X5,cN]
     rw[em,push];exact⟨ys,_,g',lo+n,rfl,rfl,b1,snoc ys _ (Runs.modify (f:=fun x=>(x.1,x.2.1,pw)) (fun _=>rfl) (fun _=>rfl) b2) b3,r4,.inl (by lia)⟩
  ·rw[aJ hm];have rR:Runs lt key ys 0 L lo:=a2.congr fun k _ hk=>hy k hk
   have r4:lo+n<=a₀.size:=by lia
   show wpS M A E s _ _ (mkS st ys L g);clear hm hy p2;have r5:=p5;have r3:=p3;have r1:=p1;generalize ys=zs at r1 r3 r5 rR ⊢;have snoc:∀(ys:Array Keyed)(L':List (Nat×Nat×Nat)),Runs lt key ys 0 L' lo->(∀ k,lo<=k->el ys k=el zs k)->Runs lt key ys 0 (L'++[(lo,n,0)]) (lo+n):=fun ys L' hy he=>
    Runs.app.mpr ⟨lo,hy,rfl,r3,fun p q h1 h2 h3=>by rw[he p h1,he q (by lia)];exact r5 p q h1 h2 h3,rfl⟩
   have push:∀(ys:Array Keyed)(L':List (Nat×Nat×Nat))(g':Nat),setPending (mkS st ys L' g') ((pendingOf (mkS st ys L' g')).push (lo,n,0))=mkS st ys (L'++[(lo,n,0)]) g':=fun ys L' g'=>by
    show SortSt.mk' _ _ (L'.toArray.push (lo,n,0)) _ _=_;rw[List.push_toArray]
   refine aX (jU ?_);have ep:∀(ys:Array Keyed)(L':List (Nat×Nat×Nat))(g':Nat),pendingOf (mkS st ys L' g')=L'.toArray:=fun _ _ _=>rfl
   rw[ep];cases hb:L.toArray.back? with
   |none=>
    dsimp only;refine aX (nU (aZ ?_));rw[push];exact⟨zs,_,g,lo+n,rfl,rfl,r1,snoc zs L rR (fun _ _=>rfl),r4,.inl (by lia)⟩
   |some z=>
    obtain⟨u,v,w⟩:=z;dsimp only;refine aX (ju (jt (I:=fun x c st'=>∃ ys L' g',st'=mkS st ys L' g'/\c=(none,())/\ys.Perm a₀/\Runs lt key ys 0 L' lo/\(∀ k,lo<=k->el ys k=el zs k))
     (Q:=fun c st'=>∃ ys L' g',st'=mkS st ys L' g'/\c=(none,())/\ys.Perm a₀/\Runs lt key ys 0 L' lo/\(∀ k,lo<=k->el ys k=el zs k)) ?sti (fun _ _ z=>z) ⟨zs,L,g,rfl,rfl,r1,rR,fun _ _=>rfl⟩) ?poi)
    case sti=>
     rintro y c st' _ hy ⟨ys,L',g',rfl,rfl,b1,b2,b3⟩;refine aX (jU ?_);rw[ep,cN];by_cases hl:L'.length>1
     ·rw[aK hl,GK,gP (by lia)];generalize L'[L'.length-2]=t;obtain⟨t1,t2,t3⟩:=t;dsimp only;by_cases ho:t3<=power' a₀.size (2*u+v) (2*u+v+v+n) a₀.size
      ·rw[aK ho];exact aZ ⟨ys,L',g',rfl,rfl,b1,b2,b3⟩
      ·rw[aJ ho];refine aX (Mv e hk hf b1 (by lia) b2 (by omega) fun zs L2 g2 c1 c2 c3 c4=>?_);exact aZ ⟨zs,L2,g2,rfl,rfl,c1,c2,fun k hk=>(c4 k hk).trans (b3 k hk)⟩
     ·rw[aJ hl];exact aZ ⟨ys,L',g',rfl,rfl,b1,b2,b3⟩
    case poi=>
     rintro c st' ⟨ys,L',g',rfl,rfl,b1,b2,b3⟩;dsimp only;refine aX (nU (aX (nU (aZ ?_))));generalize power' a₀.size (2*u+v) (2*u+v+v+n) a₀.size=pw;have em:setPending (mkS st ys L' g') ((pendingOf (mkS st ys L' g')).modify ((pendingOf (mkS st ys L' g')).size-1) fun x=>(x.1,x.2.1,pw))=mkS st ys (L'.modify (L'.length-1) fun x=>(x.1,x.2.1,pw)) g':=by
      show SortSt.mk' _ _ (L'.toArray.modify (L'.toArray.size-1) fun x=>(x.1,x.2.1,pw)) _ _=_;rw[X5,cN]
     rw[em,push];exact⟨ys,_,g',lo+n,rfl,rfl,b1,snoc ys _ (Runs.modify (f:=fun x=>(x.1,x.2.1,pw)) (fun _=>rfl) (fun _=>rfl) b2) b3,r4,.inl (by lia)⟩
 case post=>
  rintro c st' ⟨xs,L,g,rfl,rfl,a1,a2⟩;dsimp only;have one:∀(xs:Array Keyed)(L:List (Nat×Nat×Nat)),L.length<=1->Runs lt key xs 0 L a₀.size->Srt lt key xs 0 a₀.size:=fun xs L hl hR=>by
   cases L with
   |nil=>
    have:0=a₀.size:=hR;intro p q _ _ hq;lia
   |cons r l=>
    cases l with
    |nil=>
     have h4:0+r.2.1=a₀.size:=hR.2.2.2;have:=hR.2.2.1;rwa[h4] at this
    |cons _ _=>simp at hl
  refine aX (ju (jt (I:=fun x c st'=>∃ xs L g,st'=mkS st xs L g/\c=(none,())/\xs.Perm a₀/\Runs lt key xs 0 L a₀.size/\L.length+x<=a₀.size)
   (Q:=fun c st'=>∃ xs L g,st'=mkS st xs L g/\c=(none,())/\xs.Perm a₀/\Runs lt key xs 0 L a₀.size/\L.length<=1) ?st2 ?fi2 ?in2) ?po2)
  case in2=>
   have:=a2.le;exact⟨xs,L,g,rfl,rfl,a1,a2,by lia⟩
  case fi2=>
   rintro c st' ⟨xs,L,g,rfl,rfl,a1,a2,a3⟩;exact⟨xs,L,g,rfl,rfl,a1,a2,by lia⟩
  case po2=>
   rintro c st' ⟨xs,L,g,rfl,rfl,a1,a2,a3⟩;exact aZ (h _ a1 hf (one xs L a3 a2))
  case st2=>
   rintro x c st' _ hx ⟨xs,L,g,rfl,rfl,a1,a2,a3⟩;refine aX (jU ?_);have ep:pendingOf (mkS st xs L g)=L.toArray:=rfl;rw[ep,cN];by_cases hl:L.length<=1
   ·rw[aK hl];exact aZ ⟨xs,L,g,rfl,rfl,a1,a2,hl⟩
   ·rw[aJ hl];have hi:∀ c:Prop,[Decidable c]->(if c then L.length-2-1 else L.length-2)+1<L.length:=fun c _=>by split<;>lia
    refine aX (Mv e hk hf a1 (hi _) a2 (bK _) fun zs L2 g2 b1 b2 b3 b4=>?_);exact aZ ⟨zs,L2,g2,rfl,rfl,b1,b2,by lia⟩
end
end TS
end L2
namespace L2
open PySem PySem.Spec PyProof.Rows PySem.W
theorem RD{α β:Type}{g:α->β}{l m:List β}(h:l.Perm m):∀ r:List α,m=r.map g->∃ r':List α,r'.Perm r/\l=r'.map g:=by
 induction h with
 |nil=>intro r e;exact⟨[],by cases r<;>simp_all,rfl⟩
 |@cons x l m _ ih=>
  intro r e;cases r with
  |nil=>simp at e
  |cons a r=>
   rw[dJ] at e;injection e with e1 e2;obtain⟨r',p,e3⟩:=ih r e2;exact⟨a::r',p.cons a,by rw[dJ,<- e1,<- e3]⟩
 |swap x y l=>
  intro r e
  match r,e with
  |a::b::r,e=>
   rw[dJ,dJ] at e;injection e with e1 e2;injection e2 with e2 e3;exact⟨b::a::r,.swap _ _ _,by rw[dJ,dJ,<- e1,<- e2,<- e3]⟩
 |trans _ _ ih1 ih2=>
  intro r e;obtain⟨r2,p2,e2⟩:=ih2 r e;obtain⟨r1,p1,e1⟩:=ih1 r2 e2;exact⟨r1,p1.trans p2,e1⟩
section
variable{prog:Program}{w:World}{A:Around}{E:Value->Shared->Prop}{s:Shared}{α:Type}
structure O9(prog:Program)(w:World)(h:Heap)(vs:List Value)(lt:α->α->Bool)(f:Nat->α):Prop where
 ex:2<=vs.length->∃ κ:SortKind,(∀(A':Around)(E':Value->Shared->Prop)(s':Shared)(Q':SortKind->Shared->Prop),Keeps h s'.heap->Q' κ s'->wpAny (model prog w) A' (keyKind' vs.toArray) Q' E' s') /\
  ∀(A':Around)(s':Shared)(i j:Nat)(C:Bool->Shared->Prop),A'.units+2<cLine->Keeps h s'.heap->i<vs.length->j<vs.length->C (lt (f i) (f j)) s'->wpAny (model prog w) A' (keyLt' κ (vs.getD i Value.none) (vs.getD j Value.none)) C (fun _ _=>False) s'
def byP(vs:List Value)(p:Array Nat):List Value:=p.toList.map fun i=>vs.getD i Value.none
def vO(vs:List Value)(f:Nat->α):Prop:=∀ i j,i<vs.length->j<vs.length->vs.getD i Value.none=vs.getD j Value.none->f i=f j
open Classical in
noncomputable def a0v(vs:List Value)(f:Nat->α)(x:Keyed):α:=f (Classical.epsilon fun i=>i<vs.length/\vs.getD i Value.none=x.1)
theorem yQ{vs:List Value}{f:Nat->α}(h1:vO vs f){i:Nat}(hi:i<vs.length){v:Value}:a0v vs f (vs.getD i Value.none,v)=f i:=by
 unfold a0v;have h:=Classical.epsilon_spec (p:=fun j=>j<vs.length/\vs.getD j Value.none=vs.getD i Value.none) ⟨i,hi,rfl⟩;exact h1 _ _ h.1 hi h.2
theorem Xm{vs:List Value}{κ:SortKind}{lt:α->α->Bool}{f:Nat->α}(o:jH lt)(h1:vO vs f)
  (a3C:∀ i j (C:Bool->Shared->Prop),i<vs.length->j<vs.length->C (lt (f i) (f j)) s->wpAny (model prog w) A (keyLt' κ (vs.getD i Value.none) (vs.getD j Value.none)) C (fun _ _=>False) s) :
  wpAny (model prog w) A (sortRuns'.run (SortSt.mk' κ (vs.toArray.zip vs.toArray) #[] 7 none)) (fun r s'=>s'=s/\∃ p,Good vs.length p/\Ib lt f p vs.length/\(arrOf r.2).map (·.2)=(byP vs p).toArray/\failedOf r.2=none) E s:=by
 have ez:(vs.toArray.zip vs.toArray).toList=(List.range vs.length).map fun i=>(vs.getD i Value.none,vs.getD i Value.none):=by
  refine Bs fun i=>?_
  by_cases hi:i<vs.length
  ·simp[hi,dj,List.getElem?_zip_eq_some]
  ·simp[hi]
 have hz:(vs.toArray.zip vs.toArray).size=vs.length:=by simp
 have e:TS.Env (model prog w) A s κ (a0v vs f) lt (vs.toArray.zip vs.toArray):=by
  refine⟨o,fun x y hx hy C hC=>?_⟩;rw[ez] at hx hy;obtain⟨i,hi,rfl⟩:=dR.mp hx;obtain⟨j,hj,rfl⟩:=dR.mp hy;have hi':=cR.mp hi;have hj':=cR.mp hj;rw[yQ h1 hi',yQ h1 hj'] at hC;exact a3C i j C hi' hj' hC
 refine TS.Zm (Q:=fun _ st=>∃ p,Good vs.length p/\Ib lt f p vs.length/\(arrOf st).map (·.2)=(byP vs p).toArray/\failedOf st=none) e rfl rfl rfl rfl fun st' hp hf hs=>?_
 have hp':=hp.toList;rw[ez] at hp';obtain⟨r,pr,er⟩:=RD hp' _ rfl;have gd:Good vs.length r.toArray:=⟨by simpa using pr⟩
 have elr:∀ i,(hi:i<r.length)->TS.el (arrOf st') i=(vs.getD r[i] Value.none,vs.getD r[i] Value.none):=fun i hi=>by
  rw[TS.yP,er,dj,cM,gP hi];rfl
 have hr:r.length=vs.length:=by simpa using pr.length_eq
 refine⟨r.toArray,gd,fun i hi=>?_,?_,hf⟩
 ·have h2:=hs i (i+1) (kj _) (BW _) (by rw[hz];exact hi);rw[elr i (by lia),elr (i+1) (by lia)] at h2;have lt1:r[i]<vs.length:=cR.mp (pr.mem_iff.mp (lZ _));have lt2:r[i+1]<vs.length:=cR.mp (pr.mem_iff.mp (lZ _));rw[yQ h1 lt1,yQ h1 lt2] at h2;unfold Ky;have a1:r.toArray.getD i 0=r[i]:=by
   rw[pJ,GK,gP (by lia)];rfl
  have a2:r.toArray.getD (i+1) 0=r[i+1]:=by
   rw[pJ,GK,gP (by lia)];rfl
  rw[a1,a2];exact h2
 ·apply Nz.mp;rw[Array.toList_map,er];unfold byP;simp
theorem Ie{a:Addr}{vs:List Value}{n:Nat}{h0:Heap}{lt:α->α->Bool}{f:Nat->α}{P:PySem.Fin->Shared->Prop}(o:jH lt)(h1:vO vs f)(hu:A.units+2<cLine)(hr:O9 prog w h0 vs lt f)(hz:vs.length<=sizeLine) (ho:s.heap.get? a=some (seqObj "list" vs.toArray n)) (hk:∀ b o,h0.get? b=some o->s.heap.get? b=some o/\b≠a)
  (h:∀ p,Good vs.length p->Ib lt f p vs.length->P (.done (.ret .none)) { s with heap:=sortedHeap s.heap a vs (byP vs p).toArray }):wpAny (model prog w) A (Builtin.«list.sort» ⟨[.ref a],[]⟩) P E s:=by
 rw[list_sort_plain];have ha:a<s.heap.objs.size:=bD ho;refine aO (listItems_at ho rfl (aO (listUpdate_at ho rfl ?_ (by show vs.toArray.size<=_;rw[cN];omega) (by show(#[]:Array Value).size<=_;simp))));have ho1:=get?_update_seq ho (fun _=>#[]);refine aO (seqEpoch_at ho1 rfl (aO (wpAny_newTuple (aO (wpAny_newList (xr ?_) (by simp))) (by simpa using hz))));show wpAny (model prog w) A _ P E { s with heap:=((s.heap.update a (Obj.mapSeq fun _=>#[])).push (seqObj "tuple" vs.toArray 0)).push (seqObj "list" #[] 0) };have ho6:(((s.heap.update a (Obj.mapSeq fun _=>#[])).push (seqObj "tuple" vs.toArray 0)).push (seqObj "list" #[] 0)).get? a=some _:=fu _ (fu _ ho1);have kp:Keeps h0 (((s.heap.update a (Obj.mapSeq fun _=>#[])).push (seqObj "tuple" vs.toArray 0)).push (seqObj "list" #[] 0)):=fun b o e=>by
  obtain⟨e1,e2⟩:=hk b o e;refine fu _ (fu _ ?_);rw[Hj _ _ _ _ e2];exact e1
 dsimp only;by_cases h2:vs.toArray.size<2
 ·rw[aK h2,aK h2];refine aO (cF ?_);rw[StateT.run_pure];refine aO (cF ?_);dsimp only;have h2':vs.length<2:=by simpa using h2
  have gd:Good vs.length (List.range vs.length).toArray:=⟨.refl _⟩
  have up:Ib lt f (List.range vs.length).toArray vs.length:=fun i hi=>by lia
  have eb:byP vs (List.range vs.length).toArray=vs:=by
   unfold byP;refine Bs fun i=>?_
   simp only[cM];by_cases hi:i<vs.length
   ·simp[hi,dj]
   ·simp[hi]
  have h':=h _ gd up;rw[eb] at h';have eo:(arrOf (SortSt.mk' general' (vs.toArray.zip vs.toArray) #[] 7 none)).map (·.2)=vs.toArray:=by
   show(vs.toArray.zip vs.toArray).map (·.2)=_;apply Nz.mp;simp[List.map_snd_zip]
  refine aO (seqEpoch_at ho6 rfl ?_);rw[eo];refine aO (listUpdate_at ho6 rfl ?_ (by simp) (by rw[cN];lia));simp only[bne_self_eq_false,vB,jD];exact cF h'
 ·rw[aJ h2,aJ h2];have h2':2<=vs.length:=by simpa using h2
  obtain⟨κ,hkind,hless⟩:=hr.ex h2';refine aO (hkind _ _ _ _ kp ?_);refine aO (fX (Xm (κ:=κ) (f:=f) o h1 fun i j C hi hj hC=>hless A _ i j C hu kp hi hj hC) ?_ fun _ _ e=>e);rintro⟨⟨⟩,st'⟩ s' ⟨rfl,p,g,u,eo,hf⟩;dsimp only;dsimp only at eo hf;refine aO (seqEpoch_at ho6 rfl ?_);rw[eo];refine aO (listUpdate_at ho6 rfl ?_ (by simp) ?_)
  ·rw[hf];simp only[bne_self_eq_false,vB,jD];exact cF (h p g u)
  ·unfold byP;rw[cN,aN,jk,g.size];lia
theorem Ka{l:Addr}{vs:List Value}{lt:α->α->Bool}{f:Nat->α}{Q:Value->Shared->Prop}(o:jH lt)(h1:vO vs f)(hu:A.units+10<cLine)(hr:O9 prog w s.heap vs lt f)(hz:vs.length<=sizeLine)(hl:s.heap.IsList l vs.toArray)
  (h:∀ p,Good vs.length p->Ib lt f p vs.length->Q (.ref (s.heap.objs.size+1)) { s with heap:=sortedAll s.heap vs (byP vs p).toArray }):wpAny (model prog w) A (call (.builtin "sorted") [.ref l]) Q E s:=by
 refine Wu kind_sorted plain_sorted entry_sorted (args_sorted1 _) ?_;unfold Builtin.«sorted»;refine aO (m:=checkCount "sorted" 1 1 _) (cF (aO (collect_list hl ?_ hz)));refine aO (wpAny_newList ?_ (by simpa using hz));have e1:((s.heap.push (seqObj "list" #[] 0)).update s.heap.objs.size (Obj.mapSeq (·++vs.toArray))).objs.size=s.heap.objs.size+1:=by rw[Heap.size_update,size_push']
 have e2:(((s.heap.push (seqObj "list" #[] 0)).update s.heap.objs.size (Obj.mapSeq (·++vs.toArray))).push (seqObj "list" vs.toArray 0)).get? (s.heap.objs.size+1)=some (seqObj "list" vs.toArray 0):=by
  rw[<- e1];exact iu _ rfl
 show wpAny _ _ _ _ _ { s with heap:=((s.heap.push (seqObj "list" #[] 0)).update s.heap.objs.size (Obj.mapSeq (·++vs.toArray))).push (seqObj "list" vs.toArray 0) };rw[e1];refine aO (xr (NK slot_list_sort ⟨_,e2,rfl⟩ entry_list_sort (Ie (h0:=s.heap) o h1 (by show A.units+1+1+2<cLine;lia) hr hz e2 (fun b o e=>⟨?_,dO (wX (bD e))⟩) fun p g u=>⟨_,rfl,cF ⟨_,rfl,h p g u⟩⟩) (args_list_sort _)));have hlt:b<s.heap.objs.size:=bD e;refine fu _ ?_;rw[Hj _ _ _ _ (dO hlt)];exact fu _ e
end
def fL(a b:Cell):Bool:=decide (aV a b)
theorem rD:jH fL:=by
 refine⟨fun a b h=>?_,fun a b c h1 h2=>?_,fun a b h1 h2=>?_⟩
 ·have:=dN h;refine bV ?_;unfold aV at *;lia
 ·have h1':=pK h1;have h2':=pK h2;refine bV ?_;unfold aV at *;lia
 ·have h1':=pK h1;have h2':=pK h2;unfold aV at *;exact jh (by omega) (by lia)
section
variable{X:Cx}
theorem Ik{pins:List (Addr×Obj)}{zzs:L2.St}{H:Hp}{s:Shared}{vs:List V}{us:List Value}{cs:List Cell}(I:Inv X pins zzs H s)(D:aY X.K H vs (cs.map aA))(r:Vals vs us):O9 X.prog X.w s.heap us fL fun i=>cs.getD i (0,0):=by
 have hl:us.length=cs.length:=by rw[<- r.length,D.length,aN]
 have at_:∀ i,(hi:i<cs.length)->∃(a:Addr)(o:Obj)(t t':Tok)(n:Nat),us.getD i Value.none=.ref a/\s.heap.get? a=some o/\o.cls=.type "tuple" /\ o.data=.seq #[.int cs[i].1 t,.int cs[i].2 t'] n:=fun i hi=>by
  have hv:i<vs.length:=by rw[r.length,hl];exact hi
  have ev:vs[i]?=some vs[i]:=by simp[hv]
  obtain⟨u,eu,ru⟩:=r.get ev;obtain⟨d,ed,dd⟩:=D.get ev;rw[cM,gP hi] at ed;cases ed;obtain⟨a,o,t,t',n,rfl,h1,h2,h3⟩:=lE I dd ru;exact⟨a,o,t,t',n,by rw[dj,eu];rfl,h1,h2,h3⟩
 refine⟨fun h2=>⟨tuples' true,fun A' E' s' Q' kp q=>?_,fun A' s' i j C hu kp hi hj hC=>?_⟩⟩
 ·have kt:∀(cs:List Cell)(us:List Value),us.length=cs.length->(∀ i,(hi:i<cs.length)->∃(a:Addr)(o:Obj)(t t':Tok)(n:Nat),us.getD i Value.none=.ref a/\s.heap.get? a=some o/\o.cls=.type "tuple" /\ o.data=.seq #[.int cs[i].1 t,.int cs[i].2 t'] n) ->
    ∃ fs:List Value,fs.length=us.length/\(∀ f∈fs,∃ i t,f=Value.int i t)/\KatTups s'.heap us fs:=by
   intro cs
   induction cs with
   |nil=>
    intro us e _;cases us with
    |nil=>exact⟨[],rfl,(fun f hf=>by cases hf),.nil⟩
    |cons a b=>simp at e
   |cons c cs ih=>
    intro us e h;cases us with
    |nil=>simp at e
    |cons u us=>
     obtain⟨a,o,t,t',n,e1,e2,e3,e4⟩:=h 0 (by simp);have eu:u=.ref a:=e1;subst eu;obtain⟨fs,f1,f2,f3⟩:=ih us (by simpa using e) fun i hi=>by
      have:=h (i+1) (by simpa using hi);simpa using this
     refine⟨.int c.1 t::fs,by simp[f1],fun f hf=>?_,KatTups.cons (kp _ _ e2) e3 e4 rfl f3⟩;rcases bW.mp hf with z|z
     ·exact⟨_,_,z⟩
     ·exact f2 f z
  obtain⟨fs,f1,f2,f3⟩:=kt cs us hl at_;refine kat_kind (T:=.type "int") f3 (by lia) (fun v hv=>?_) (by decide) ?_
  ·obtain⟨i,t,rfl⟩:=f2 v hv;exact Looks.of_pure rfl
  ·exact q
 ·rw[hl] at hi hj;obtain⟨a,o,t,t',n,e1,e2,e3,e4⟩:=at_ i hi;obtain⟨b,o2,t2,t2',n2,g1,g2,g3,g4⟩:=at_ j hj;rw[e1,g1];have ci:cs.getD i (0,0)=cs[i]:=by rw[dj,gP hi];rfl
  have cj:cs.getD j (0,0)=cs[j]:=by rw[dj,gP hj];rfl
  rw[ci,cj] at hC;refine kat_lt (kp _ _ e2) e4 (kp _ _ g2) g4 ?_;have out:∀ x:Bool,(x=true↔aV cs[i] cs[j])->C x s':=fun x hx=>by
   have:x=fL cs[i] cs[j]:=by
    unfold fL;cases x
    ·exact(bV fun z=>by have:=hx.mpr z;cases this).symm
    ·exact(bG (hx.mp rfl)).symm
   rw[this];exact hC
  refine kat_cons (qZ ?_);by_cases q1:cs[i].1=cs[j].1
  ·rw[show(cs[i].1==cs[j].1)=true from iM.mpr q1];refine kat_yes (kat_cons (qZ ?_));by_cases q2:cs[i].2=cs[j].2
   ·rw[show(cs[i].2==cs[j].2)=true from iM.mpr q2];refine kat_yes (kat_nil (out _ ⟨fun z=>?_,fun z=>?_⟩))
    ·have:=dN z;simp at this
    ·unfold aV at z;lia
   ·rw[show(cs[i].2==cs[j].2)=false from lX.mpr q2];refine kat_no (kat_one _ _ (lt_int (out _ ?_)));rw[iw];unfold aV;lia
  ·rw[show(cs[i].1==cs[j].1)=false from lX.mpr q1];refine kat_no (oneLt_int (out _ ?_));rw[iw];unfold aV;lia
theorem Qy{pins:List (Addr×Obj)}{zzs:L2.St}{H:Hp}{s:Shared}{vs:List V}{us:List Value}{cs:List Cell}(I:Inv X pins zzs H s)(D:aY X.K H vs (cs.map aA))(r:Vals vs us):vO us fun i=>cs.getD i (0,0):=by
 have hl:us.length=cs.length:=by rw[<- r.length,D.length,aN]
 have at_:∀ i,i<us.length->∃(a:Addr)(o:Obj)(t t':Tok)(n:Nat),us.getD i Value.none=.ref a/\s.heap.get? a=some o/\o.data=.seq #[.int (cs.getD i (0,0)).1 t,.int (cs.getD i (0,0)).2 t'] n:=fun i hi=>by
  have hv:i<vs.length:=by rw[r.length];exact hi
  have hi':i<cs.length:=by lia
  have ev:vs[i]?=some vs[i]:=by simp[hv]
  obtain⟨u,eu,ru⟩:=r.get ev;obtain⟨d,ed,dd⟩:=D.get ev;rw[cM,gP hi'] at ed;cases ed;obtain⟨a,o,t,t',n,rfl,h1,_,h3⟩:=lE I dd ru;refine⟨a,o,t,t',n,by rw[dj,eu];rfl,h1,?_⟩;rw[dj,gP hi'];exact h3
 intro i j hi hj e;obtain⟨a,o,t,t',n,e1,e2,e3⟩:=at_ i hi;obtain⟨b,o',v,v',m,g1,g2,g3⟩:=at_ j hj;rw[e1,g1] at e;cases e;rw[e2] at g2;cases g2;rw[e3] at g3;injection g3 with g5 _;have g6:=congrArg Array.toList g5;injection g6 with a1 a2;injection a2 with a2 _;injection a1 with a1 _;injection a2 with a2 _;exact jh a1 a2
theorem Gs{vs:List V}{us:List Value}(r:Vals vs us):∀(ps:List Nat),(∀ i∈ps,i<vs.length)->Vals (ps.map fun i=>vs.getD i .non) (ps.map fun i=>us.getD i Value.none)
 |[],_=>.nil
 |i::ps,h=>by
  have hi:=h i cU;obtain⟨u,eu,ru⟩:=r.get (show vs[i]?=some vs[i] from by simp[hi]);have e1:vs.getD i .non=vs[i]:=by simp[dj,hi]
  have e2:us.getD i Value.none=u:=by rw[dj,eu];rfl
  rw[dJ,dJ,e1,e2];exact .cons ru (Gs r ps fun j hj=>h j (dI _ hj))
theorem Ou{K:ao}{H:Hp}{vs:List V}{ds:List Dt}{d0:Dt}(D:aY K H vs ds):∀(ps:List Nat),(∀ i∈ps,i<vs.length)->aY K H (ps.map fun i=>vs.getD i .non) (ps.map fun i=>ds.getD i d0)
 |[],_=>.nil
 |i::ps,h=>by
  have hi:=h i cU;obtain⟨d,ed,dd⟩:=D.get (show vs[i]?=some vs[i] from by simp[hi]);have e1:vs.getD i .non=vs[i]:=by simp[dj,hi]
  have e2:ds.getD i d0=d:=by rw[dj,ed];rfl
  rw[dJ,dJ,e1,e2];exact .cons dd (Ou D ps fun j hj=>h j (dI _ hj))
theorem FT{β:Type}{xs:List β}{d:β}{ps:List Nat}(h:ps.Perm (List.range xs.length)):(ps.map fun i=>xs.getD i d).Perm xs:=by
 have e:(List.range xs.length).map (fun i=>xs.getD i d)=xs:=by
  refine Bs fun i=>?_
  simp only[cM];by_cases hi:i<xs.length
  ·simp[hi,dj]
  ·simp[hi]
 exact(h.map _).trans (by rw[e])
def Asc(cs:List Cell):Prop:=cs.Pairwise fun a b=>¬aV b a
end
end L2
namespace L2
open PySem PySem.Spec PyProof.Rows PySem.SeqAt PySem.MeetsSeq PySem.MeetsSeq2 PySem.MeetsSeq3
open PySem.AutoSeq1 (wpAny_loadPart')
theorem JD(A:Around)(s:Shared)(a:Int)(t:Tok)(c:Int)(u:Tok)(prog:Program)(w:World)(E:Value->Shared->Prop)(Q:Value->Shared->Prop)(h:Q (.bool (decide (c<=a))) s):wpAny (model prog w) A (richCompare .GtE (.int a t) (.int c u)) Q E s:=
 (ge_int h:wpAny (model prog w) A (compareOp .GtE (.int a t) (.int c u)) Q E s)
theorem XH(p q:Addr)(x1 x2 y1 y2:Int)(t1 t2 u1 u2:Tok)(n m:Nat)(d1 d2:Option Addr)(z1 z2:Array (Option Value)):Meets (Builtin.«tuple.__ge__» ⟨[.ref p,.ref q],[]⟩)
  (fun _ R s=>s.heap.get? p=some { cls:=.type "tuple",dict:=d1,data:=.seq #[.int x1 t1,.int x2 t2] n,slots:=z1 }/\s.heap.get? q=some { cls:=.type "tuple",dict:=d2,data:=.seq #[.int y1 u1,.int y2 u2] m,slots:=z2 }/\R (.ok (.ret (.bool (!fL (x1,x2) (y1,y2))))) s):=
 .of_wp fun prog w A R s h=>by
  obtain⟨hp,g,d,tk,os⟩:=s;obtain⟨e1,e2,h⟩:=h;have f2:=MF;have k1:=fun(Q:Bool->Shared->Prop)(E:Value->Shared->Prop)(h:Q (x1==y1) ⟨hp,g,d,tk,os⟩)=>(qZ (t:=t1) (u:=u1) h:wpAny (model prog w) A.in1 (eqBool (.int x1 t1) (.int y1 u1)) Q E ⟨hp,g,d,tk,os⟩)
  have k2:=fun(Q:Bool->Shared->Prop)(E:Value->Shared->Prop)(h:Q (x2==y2) ⟨hp,g,d,tk,os⟩)=>(qZ (t:=t2) (u:=u2) h:wpAny (model prog w) A.in1 (eqBool (.int x2 t2) (.int y2 u2)) Q E ⟨hp,g,d,tk,os⟩)
  have r1:=JD A.in1 ⟨hp,g,d,tk,os⟩ x1 t1 y1 u1 prog w;have r2:=JD A.in1 ⟨hp,g,d,tk,os⟩ x2 t2 y2 u2 prog w;have out:∀ b:Bool,(b=true↔¬aV (x1,x2) (y1,y2))->R (.ok (.ret (.bool b))) ⟨hp,g,d,tk,os⟩:=fun b hb=>by
   have:b=!fL (x1,x2) (y1,y2):=by
    unfold fL;by_cases hc:aV (x1,x2) (y1,y2)
    ·rw[bG hc];cases b
     ·rfl
     ·exact absurd hc (hb.mp rfl)
    ·rw[bV hc];exact hb.mpr hc
   rw[this];exact h
  wp_walk using wpAny_loadPart' e1,wpAny_loadPart' e2,k1,k2
  by_cases q1:x1=y1
  ·rw[show(x1==y1)=true from iM.mpr q1]
   wp_walk using k2
   by_cases q2:x2=y2
   ·rw[show(x2==y2)=true from iM.mpr q2]
    wp_walk
    refine⟨_,rfl,out _ ?_⟩;simp[Builtin.Tuple.tupleCompareSizes,aV,q1,q2]
   ·rw[show(x2==y2)=false from lX.mpr q2]
    wp_walk using r2
    refine⟨_,rfl,out _ ?_⟩;rw[iw];unfold aV;dsimp only;lia
  ·rw[show(x1==y1)=false from lX.mpr q1]
   wp_walk using r1
   refine⟨_,rfl,out _ ?_⟩;rw[iw];unfold aV;dsimp only;omega
section
variable{X:Cx}{K:ao}
def a2L(K:ao):R2:=fun x y H Q=>∃(a b:Cell),Den K H x (aA a)/\Den K H y (aA b)/\Q (.bl (!fL a b)) H
theorem a0V(hu:X.A.units+60<cLine):OpR X (compareOp .GtE) (a2L X.K):=by
 intro pins s zzs H x y v u Q I rx ry h;obtain⟨a,b,da,db,q⟩:=h;obtain⟨p,o,t1,t2,n,rfl,e1,c1,f1⟩:=lE I da rx;obtain⟨p',o',u1,u2,m,rfl,e2,c2,f2⟩:=lE I db ry;obtain⟨oc,od,of,os⟩:=o;obtain⟨oc',od',of',os'⟩:=o';dsimp only at c1 f1 c2 f2;subst c1 f1 c2 f2;refine N6 (op:=.GtE) ⟨_,e1,rfl⟩ ⟨_,e2,rfl⟩ PySem.F.slot_tuple_ge PySem.F.entry_tuple_ge (PySem.F.args_tuple_ge_2 _ _) (XH p p' a.1 a.2 b.1 b.2 t1 t2 u1 u2 n m od od' os os') ⟨e1,e2,?_⟩ (by lia);exact(show Value.bool (!fL a b)≠Value.notImplemented/\EP X pins zzs Q (.bool (!fL a b)) s from⟨(fun z=>nomatch z),⟨.bl (!fL a b),H,I,rfl,q⟩⟩)
theorem a2s(hu:X.A.units+60<cLine)(hK:X.K=K:=by rfl):OpR X (compareOp .GtE) (a2L K):=by subst hK;exact a0V hu
end
end L2
namespace L2
open PySem PySem.Spec PyProof.Rows
section
variable{X:Cx}
def a2N:List V->Hp->VK->Prop:=fun xs H Q=>∃ c:Nat,xs=[.str ⟨#[c]⟩]/\48<=c/\c<=57/\Q (.int ((c:Int)-48)) H
theorem KR:∀ c∈List.range 58,48<=c->intText? ⟨#[c]⟩=some ((c:Int)-48):=by decide +kernel
theorem Qv:fB X (.type "int") a2N:=by
 intro pins s zzs H xs us Q I r h;obtain⟨c,rfl,h1,h2,q⟩:=h;obtain⟨u,rfl,t,rfl⟩:=vals1 r;exact PySem.W.KIN.call_text (KR c (cR.mpr (by lia)) h1) (by show(1:Nat)<=640;decide) ⟨.int _,H,I.tok _,⟨_,rfl⟩,q⟩
end
def fG(zs:List Str)(c:Cell):Int:=(codeAt zs (c.1.toNat,c.2.toNat):Int)-48
def vh(h w:Int)(c:Cell)(cs:List Cell):Nat:=((cJ h w c).filter fun y=>decide (y∈cs)).length
def Ig(cs:List Cell):Bool:=(List.range (cs.length-1)).all fun j=>fL (cs.getD j (0,0)) (cs.getD (j+1) (0,0))
def layB(zs:List Str)(w:Nat)(cs:List Cell):Bool:=Ig cs&&cs.all (aM zs w)
def qT(zs:List Str)(w:Nat)(cs:List Cell)(c:Cell):Bool:=decide (fG zs c=(vh zs.length w c cs:Int))
def gV(zs:List Str)(w:Nat)(cs:List Cell):Bool:=(bH zs.length w).all fun c=>aM zs w c||qT zs w cs c
theorem QB{a b c:Cell}(h1:aV a b)(h2:aV b c):aV a c:=by unfold aV at *;lia
theorem Xj(cs:List Cell):Ig cs=true↔cs.Pairwise aV:=by
 unfold Ig;rw[jq];constructor
 ·intro h;have step:∀ d i,i+d+1<cs.length->aV (cs.getD i (0,0)) (cs.getD (i+d+1) (0,0)):=by
   intro d
   induction d with
   |zero=>intro i hi;exact dN (h i (cR.mpr (by lia)))
   |succ d ih=>intro i hi;exact QB (ih i (by lia)) (dN (h (i+d+1) (cR.mpr (by lia))))
  rw[Ca];intro i j hi hj hij;have:=step (j-i-1) i (by omega);have e:i+(j-i-1)+1=j:=by lia
  rw[e] at this;simpa [dj,hi,hj] using this
 ·intro h j hj;rw[cR] at hj;have:=(Ca.mp h) j (j+1) (by omega) (by omega) (by lia);refine bG ?_;have h1:j<cs.length:=by lia
  have h2:j+1<cs.length:=by omega
  simpa [dj,h1,h2] using this
theorem lay_of{zs:List Str}{w:Nat}{cs:List Cell}(h1:cs.Pairwise aV)(h2:∀ c∈cs,aM zs w c=true):layB zs w cs=true:=by
 unfold layB;rw[(Xj cs).mpr h1,pN,jq];exact h2
theorem rH:∀ h∈List.range 7,∀ w∈List.range 7,(bH h w).Pairwise aV:=by decide +kernel
theorem tU(c:Nat):inS "012345678" c=decide (48<=c/\c<=56):=by
 rw[Fy (by decide +kernel)];have e:("012345678" : Str).cps.toList=[48,49,50,51,52,53,54,55,56]:=by decide +kernel
 rw[e];have:(c∈[48,49,50,51,52,53,54,55,56])↔(48<=c/\c<=56):=by simp;lia
 rw[Bu];exact this
theorem oU{zs:List Str}{w:Nat}{sg:Str}{x:Cell}:x∈iT zs w sg↔inF zs.length w x/\inS sg (codeAt zs (x.1.toNat,x.2.toNat))=true:=by
 unfold iT;rw[List.mem_flatMap];constructor
 ·rintro⟨r,hr,hx⟩;obtain⟨c,hc,rfl⟩:=dR.mp hx;rw[cB,cR] at hc;rw[cR] at hr;exact⟨⟨⟨by show(0:Int)<=(r:Int);lia,by show(r:Int)<zs.length;lia⟩,⟨by show(0:Int)<=(c:Int);lia,by show(c:Int)<w;lia⟩⟩,hc.2⟩
 ·rintro⟨⟨⟨a,b⟩,⟨c,d⟩⟩,hs⟩;refine⟨x.1.toNat,cR.mpr (by lia),dR.mpr ⟨x.2.toNat,cB.mpr ⟨cR.mpr (by lia),hs⟩,?_⟩⟩;exact jh (by show((x.1.toNat:Nat):Int)=x.1;lia) (by show((x.2.toNat:Nat):Int)=x.2;lia)
theorem Vw.code{zs:List Str}{w:Nat}{x:Cell}(v:Vw zs w)(h:inF zs.length w x):sJ (codeAt zs (x.1.toNat,x.2.toNat))=true:=by
 obtain⟨⟨a,b⟩,⟨c,d⟩⟩:=h;have hr:x.1.toNat<zs.length:=by lia
 have e:zs.getD x.1.toNat Str.empty=zs[x.1.toNat]:=by simp[dj,hr]
 have hl:(zs[x.1.toNat]).cps.size=w:=v.len _ (lZ hr);refine v.sg _ (lZ hr) _ ?_;unfold codeAt;dsimp only;rw[e,pJ,jK (by lia)];exact Mz _
theorem Aa{zs:List Str}{w:Nat}{x:Cell}(v:Vw zs w):x∈iT zs w "012345678" ↔ inF zs.length w x/\aM zs w x=false:=by
 rw[oU,tU];constructor
 ·rintro⟨h,hc⟩;have:=dN hc;refine⟨h,?_⟩;unfold aM;rw[bV (show ¬codeAt zs (x.1.toNat,x.2.toNat)=35 by lia),BJ]
 ·rintro⟨h,hc⟩;have sg:=dN (v.code h);unfold aM at hc;rw[bG h,pN] at hc;have:=pK hc;exact⟨h,bG (by lia)⟩
theorem Vw.digit{zs:List Str}{w:Nat}{x:Cell}(v:Vw zs w)(h:inF zs.length w x)(hc:aM zs w x=false):48<=codeAt zs (x.1.toNat,x.2.toNat)/\codeAt zs (x.1.toNat,x.2.toNat)<=56:=by
 have:=(oU.mp ((Aa v).mpr ⟨h,hc⟩)).2;rw[tU] at this;exact dN this
theorem Qz{zs:List Str}{w:Nat}{x:Cell}:x∈iT zs w "#" ↔ aM zs w x=true:=by
 rw[<- uz];unfold bA;rw[cB,bL];constructor
 ·exact fun h=>h.2
 ·intro h;refine⟨?_,h⟩;unfold aM at h;rw[jY] at h;exact dN h.1
theorem Kc{cs:List Cell}(h:Asc cs)(nd:cs.Nodup):cs.Pairwise aV:=by
 unfold Asc at h;have:cs.Pairwise fun a b=>¬aV b a/\a≠b:=h.and nd
 exact this.imp fun {a b} hab=>by
  obtain⟨h1,h2⟩:=hab;have h3:¬(a.1=b.1/\a.2=b.2):=fun z=>h2 (jh z.1 z.2)
  unfold aV at *;lia
theorem kJ{cs:List Cell}(h:cs.Pairwise aV):cs.Nodup:=h.imp fun {a b} hab e=>by
 subst e;unfold aV at hab;lia
section
variable{κ:Type} [DecidableEq κ]
def vo(kvs:List (κ×V))(k:κ):Option V:=(kvs.find? fun kv=>decide (kv.1=k)).map (·.2)
def putK(kvs:List (κ×V))(k:κ)(v:V):List (κ×V):=
 if(kvs.any fun kv=>decide (kv.1=k))=true then kvs.map (fun kv=>if kv.1=k then(kv.1,v) else kv) else kvs++[(k,v)]
theorem vA{p:κ×V}{r:List (κ×V)}{k:κ}(e:p.1=k):vo (p::r) k=some p.2:=by simp[vo,xg,e]
theorem vq{p:κ×V}{r:List (κ×V)}{k:κ}(e:¬p.1=k):vo (p::r) k=vo r k:=by simp[vo,xg,e]
theorem vp(k:κ):∀ kvs:List (κ×V),(kvs.any fun kv=>decide (kv.1=k))=(vo kvs k).isSome
 |[]=>rfl
 |p::r=>by
  rw[xu];by_cases e:p.1=k
  ·simp only[vA e,bG e,Bool.true_or,Option.isSome_some]
  ·rw[vq e,bV e,O4];exact vp k r
theorem yc(kvs:List (κ×V))(k:κ)(v:V):(putK kvs k v).length<=kvs.length+1:=by
 unfold putK;split
 ·rw[aN];lia
 ·rw[cL,dY,wZ];lia
theorem Vh{kvs:List (κ×V)}{k:κ}(v:V)(h:vo kvs k=none):putK kvs k v=kvs++[(k,v)]:=by
 unfold putK;rw[vp,h];exact aJ (by decide)
theorem zq.wk{o:Option V}{u:Option Value}(r:zq o u):o.isSome=u.isSome:=by
 cases o with
 |none=>cases u with
  |none=>rfl
  |some _=>exact(show False from r).elim
 |some _=>cases u with
  |none=>exact(show False from r).elim
  |some _=>rfl
theorem KV.val{kvs:List (κ×V)}{vs:List (κ×Value)}(r:KV kvs vs)(k:κ):zq (vo kvs k) (valueAt vs k):=by
 unfold KV at r
 induction r with
 |nil=>exact True.intro
 |@cons p q ps qs h t ih=>
  obtain⟨h1,h2⟩:=h;by_cases e:p.1=k
  ·have e':q.1=k:=h1.symm.trans e;have b:valueAt (q::qs) k=some q.2:=by simp[valueAt,xg,e']
   rw[vA e,b];exact h2
  ·have e':¬q.1=k:=fun z=>e (h1.trans z)
   have b:valueAt (q::qs) k=valueAt qs k:=by simp[valueAt,xg,e']
   rw[vq e,b];exact ih
theorem KV.any{kvs:List (κ×V)}{vs:List (κ×Value)}(r:KV kvs vs)(k:κ):(kvs.any fun kv=>decide (kv.1=k))=vs.any fun kv=>decide (kv.1=k):=by
 unfold KV at r
 induction r with
 |nil=>rfl
 |cons h t ih=>rw[xu,xu,ih,h.1]
theorem KV.repl{kvs:List (κ×V)}{vs:List (κ×Value)}(r:KV kvs vs)(k:κ){y:V}{u:Value}(ry:RelV y u) :
  KV (kvs.map fun kv=>if kv.1=k then(kv.1,y) else kv) (vs.map fun kv=>if kv.1=k then(kv.1,u) else kv):=by
 unfold KV at r ⊢
 induction r with
 |nil=>exact .nil
 |@cons p q ps qs h t ih=>
  rw[dJ,dJ];refine .cons ?_ ih;obtain⟨h1,h2⟩:=h;by_cases e:p.1=k
  ·rw[aK e,aK (h1.symm.trans e)];exact⟨h1,ry⟩
  ·rw[aJ e,aJ (fun z=>e (h1.trans z))];exact⟨h1,h2⟩
theorem KV.put{kvs:List (κ×V)}{vs:List (κ×Value)}(r:KV kvs vs)(k:κ){y:V}{u:Value}(ry:RelV y u):KV (putK kvs k y) (stored vs k u):=by
 unfold putK stored;rw[r.any k];by_cases e:(vs.any fun kv=>decide (kv.1=k))=true
 ·rw[aK e,aK e];exact r.repl k ry
 ·rw[aJ e,aJ e];exact Paired.snoc r ⟨rfl,ry⟩
theorem KV.length{kvs:List (κ×V)}{vs:List (κ×Value)}(r:KV kvs vs):kvs.length=vs.length:=Paired.length r
end
theorem U7{P:Program}{w:World}{k:Key}{u:Value}(r:RelV (kV k) u):(fY P w).is k u=true:=by
 cases k with
 |inl i=>obtain⟨t,e⟩:=(show ∃ t,u=Value.int i t from r);subst e;exact Jj P w i t
 |inr x=>obtain⟨t,e⟩:=(show ∃ t,u=Value.str x t from r);subst e;exact Jk P w x t
theorem DN{P:Program}{w:World}:∀ {ks:List Key} {us:List Value},Vals (ks.map kV) us->ItemsAre (fY P w) ks us
 |[],_,r=>by rw[HW] at r;cases r;exact .nil
 |k::ks,_,r=>by
  rw[dJ] at r;cases r with
  |cons h t=>exact .cons (U7 h) (DN t)
abbrev KT(H:Hp):List (List Key×V)->List (List Key×Addr×Value)->Prop:=Paired fun p q=>p.1=q.1/\H q.2.1=some (.tup (p.1.map kV))/\RelV p.2 q.2.2
theorem KT.val{H:Hp}{kvs:List (List Key×V)}{xs:List (List Key×Addr×Value)}(r:KT H kvs xs)(k:List Key):zq (vo kvs k) ((atKey xs k).map (·.2)):=by
 induction r with
 |nil=>exact True.intro
 |@cons p q ps qs h t ih=>
  obtain⟨h1,_,h2⟩:=h;by_cases e:p.1=k
  ·have e':q.1=k:=h1.symm.trans e;have b:atKey (q::qs) k=some q.2:=by simp[atKey,xg,e']
   rw[vA e,b];exact h2
  ·have e':¬q.1=k:=fun z=>e (h1.trans z)
   have b:atKey (q::qs) k=atKey qs k:=by simp[atKey,xg,e']
   rw[vq e,b];exact ih
theorem KT.repl{H:Hp}{kvs:List (List Key×V)}{xs:List (List Key×Addr×Value)}(r:KT H kvs xs)(k:List Key){y:V}{u:Value}(ry:RelV y u) :
  KT H (kvs.map fun kv=>if kv.1=k then(kv.1,y) else kv) (xs.map (putAt k u)):=by
 induction r with
 |nil=>exact .nil
 |@cons p q ps qs h t ih=>
  rw[dJ,dJ];refine .cons ?_ ih;obtain⟨h1,h2,h3⟩:=h;unfold putAt;by_cases e:p.1=k
  ·rw[aK e,aK (h1.symm.trans e)];exact⟨h1,h2,ry⟩
  ·rw[aJ e,aJ (fun z=>e (h1.trans z))];exact⟨h1,h2,h3⟩
theorem KT.put{H:Hp}{kvs:List (List Key×V)}{xs:List (List Key×Addr×Value)}(r:KT H kvs xs)(k:List Key){b:Addr}{y:V}{u:Value}(hb:H b=some (.tup (k.map kV)))(ry:RelV y u) :
  KT H (putK kvs k y) (storedH xs k b u):=by
 have e:(kvs.any fun kv=>decide (kv.1=k))=(atKey xs k).isSome:=by
  rw[vp,(r.val k).wk,Option.isSome_map]
 unfold putK storedH;rw[e];by_cases q:(atKey xs k).isSome=true
 ·rw[aK q,aK q];exact r.repl k ry
 ·rw[aJ q,aJ q];exact Paired.snoc r ⟨rfl,hb,ry⟩
theorem KT.keeps{H H':Hp}{kvs:List (List Key×V)}{xs:List (List Key×Addr×Value)}(r:KT H kvs xs)(ht:∀ b ys,H b=some (.tup ys)->H' b=some (.tup ys)):KT H' kvs xs:=
 Paired.a0D r fun _ _ z=>⟨z.1,ht _ _ z.2.1,z.2.2⟩
section
variable{P:Program}{w:World}{H:Hp}{h:Heap}{a:Addr}
theorem ZJ{u:HO}(ok:HOk P w H h)(e:Rd H a u):gG P w H h a u:=e.ok ok
theorem Zu{kvs:List (Key×V)}(ok:HOk P w H h)(e:Rd H a (.dK kvs)):kvs.length<=sizeLine/\(a==sysModules)=false/\∃ vs,KV kvs vs/\h.DictOf (fY P w) a vs:=
 show gG P w H h a (.dK kvs) from ZJ ok e
theorem a2g{kvs:List (Key×V)}(ok:HOk P w H h)(e:H a=some (.dK kvs)):kvs.length<=sizeLine/\(a==sysModules)=false/\∃ vs,KV kvs vs/\h.DictOf (fY P w) a vs:=Zu ok (.inl e)
theorem FJ{ks:List Key}(ok:HOk P w H h)(e:H a=some (.tup (ks.map kV))):(tupleKind (fY P w)).is h ks a:=by
 obtain⟨_,its,r,o,h1,h2,n,h3⟩:=(show gG P w H h a (.tup (ks.map kV)) from ok a _ e)
 exact⟨o,its.toArray,n,h1,h2,h3,by simpa using DN r⟩
theorem Zv{kvs:List (List Key×V)}(ok:HOk P w H h)(e:Rd H a (.dT kvs)):kvs.length<=sizeLine/\(a==sysModules)=false /\
  ∃ xs,KT H kvs xs/\h.DictOfH (tupleKind (fY P w)) a xs:=by
 obtain⟨z,y,xs,r,o,es,ep,h1,h2,h3,h4,h5⟩:=(show gG P w H h a (.dT kvs) from ZJ ok e)
 refine⟨z,y,xs,r,o,es,ep,h1,h2,h3,h4,fun x hx=>?_,h5⟩;have all:∀ {l:List (List Key×V)} {m:List (List Key×Addr×Value)},KT H l m->∀ x∈m,(tupleKind (fY P w)).is h x.1 x.2.1:=by
  intro l m q
  induction q with
  |nil=>intro x hx;exact nomatch hx
  |@cons p q ps qs hq t ih=>
   intro x hx;rcases bW.mp hx with e|hx
   ·subst e;exact FJ ok (by rw[<- hq.1];exact hq.2.1)
   ·exact ih x hx
 exact all r x hx
theorem Tj{kvs:List (List Key×V)}(ok:HOk P w H h)(e:H a=some (.dT kvs)):kvs.length<=sizeLine/\(a==sysModules)=false /\
  ∃ xs,KT H kvs xs/\h.DictOfH (tupleKind (fY P w)) a xs:=Zv ok (.inl e)
end
def Qp(H:Hp)(a:Addr)(y:V)(r:Option V):Prop:=
 (∃ kvs k,Rd H a (.dK kvs)/\y=kV k/\r=vo kvs k)\/∃ kvs k b,Rd H a (.dT kvs)/\y=.ref b/\H b=some (.tup (k.map kV))/\r=vo kvs k
def Qq(H:Hp)(a:Addr)(y v:V)(H':Hp):Prop:=
 (∃ kvs k,H a=some (.dK kvs)/\y=kV k/\kvs.length<sizeLine/\H'=upd H a (.dK (putK kvs k v))) \/
 ∃ kvs k b,H a=some (.dT kvs)/\y=.ref b/\H b=some (.tup (k.map kV))/\kvs.length<sizeLine/\H'=upd H a (.dT (putK kvs k v))
theorem Qp.t{H:Hp}{a b:Addr}{kvs:List (List Key×V)}{k:List Key}(e:H a=some (.dT kvs))(eb:H b=some (.tup (k.map kV))):Qp H a (.ref b) (vo kvs k):=.inr ⟨kvs,k,b,.inl e,rfl,eb,rfl⟩
theorem Qq.t{H:Hp}{a b:Addr}{kvs:List (List Key×V)}{k:List Key}{v:V}(e:H a=some (.dT kvs))(eb:H b=some (.tup (k.map kV)))(hl:kvs.length<sizeLine) :
  Qq H a (.ref b) v (upd H a (.dT (putK kvs k v))):=.inr ⟨kvs,k,b,e,rfl,eb,hl,rfl⟩
section
variable{X:Cx}{pins:List (Addr×Obj)}{zzs:St}{H:Hp}{s:Shared}{a:Addr}{y v:V}{u r:Value}{o:Option V}{A:Around}{E:Value->Shared->Prop}
theorem Inv.big(I:Inv X pins zzs H s):sysModules<s.heap.objs.size:=by
 have h:mainGlobals<s.heap.objs.size:=(I.mod.glob.keeps I.bk).lt;exact Nat.lt_trans (by decide) h
theorem Xy{Q:Value->Shared->Prop}(hu:A.units+1<cLine)(I:Inv X pins zzs H s)(g:Qp H a y o)(ry:RelV y u)(h:∀ s',Inv X pins zzs H s'->Q (.bool (!o.isSome)) s') :
  wpAny (model X.prog X.w) A (compareOp .NotIn u (.ref a)) Q E s:=by
 rcases g with⟨kvs,k,e,ey,l⟩|⟨kvs,k,b,e,ey,eb,l⟩
 ·subst ey;obtain⟨z,hd,vs,rel,dd⟩:=Zu I.hok e;refine wpAny_notIn_of (U7 ry) hd dd.mapOf ?_;rw[<- (rel.val k).wk,<- l];exact h _ (I.tok _)
 ·subst ey;cases (show u=Value.ref b from ry);obtain⟨z,hd,xs,rel,dd⟩:=Zv I.hok e;refine wpAny_notIn_heap (tupleKind_room_in1 hu) (FJ I.hok eb) hd dd ?_;have q:=(rel.val k).wk;rw[Option.isSome_map] at q;rw[<- q,<- l];exact h _ (I.tok _)
theorem Fp{h':Heap}{t':Nat}{ob:HO}(I:Inv X pins zzs H s)(mu:Mut (H a))(hs:Heap.SameBut a s.heap h')(he:∃ q,h'.get? a=some q)(new:gG X.prog X.w (upd H a ob) h' a ob) :
  Inv X pins zzs (upd H a ob) { s with heap:=h',toks:=t' }:=
 I.write (x:=a) (e:=a) mu (.inl rfl) (fun b q hb z=>(hs.2 b hb).trans z) he new
theorem a0i{P:Program}{w:World}{H':Hp}{h':Heap}{kvs:List (Key×V)}{vs:List (Key×Value)}(z:kvs.length<=sizeLine)(hd:(a==sysModules)=false)(rel:KV kvs vs)(dd:h'.DictOf (fY P w) a vs) :
  gG P w H' h' a (.dK kvs):=⟨z,hd,vs,rel,dd⟩
theorem QV{H':Hp}{Q:Unit->Shared->Prop}(hu:A.units+1<cLine)(I:Inv X pins zzs H s)(g:Qq H a y v H')(ry:RelV y u)(rv:RelV v r)(h:∀ s',Inv X pins zzs H' s'->Q () s') :
  wpAny (model X.prog X.w) A (setItem (.ref a) u r) Q E s:=by
 rcases g with⟨kvs,k,e,ey,l,eH⟩|⟨kvs,k,b,e,ey,eb,l,eH⟩
 ·subst ey eH;obtain⟨z,hd,vs,rel,dd⟩:=a2g I.hok e;have hz:vs.length<=sizeLine:=by rw[<- rel.length];exact z
  have hl:(putK kvs k v).length<=sizeLine:=by have:=yc kvs k v;lia
  refine wpAny_setItem_pairs (hsz:=hz) (U7 ry) dd fun h' dd' hs=>h _ ?_
  have he:∃ q,h'.get? a=some q:=let ⟨q,_,_,hq,_⟩:=dd';⟨q,hq⟩;exact Fp I (by rw[e];exact True.intro) hs he (a0i hl hd (rel.put k rv) dd')
 ·subst ey eH;cases (show u=Value.ref b from ry);obtain⟨z,hd,xs,rel,dd⟩:=Tj I.hok e;have hz:xs.length<=sizeLine:=by rw[<- Paired.length rel];exact z
  have hl:(putK kvs k v).length<=sizeLine:=by have:=yc kvs k v;lia
  refine wpAny_setItem_heap (hsz:=hz) (tupleKind_room_in1 hu) (FJ I.hok eb) dd fun h' dd' hs=>h _ ?_
  obtain⟨q,es,ep,hq,h2,h3,h4,_,h5⟩:=dd';refine Fp I (by rw[e];exact True.intro) hs ⟨q,hq⟩ ⟨hl,hd,_,(rel.put k eb rv).keeps fun c ys ec=>?_,q,es,ep,hq,h2,h3,h4,h5⟩;rw[bF (qy ec e (fun z=>nomatch z))];exact ec
end
theorem J1{P:Program}{w:World}{H:Hp}(h:Heap)(hb:sysModules<h.objs.size):gG P w H (h.push { cls:=.type "dict",data:=.dict #[] }) h.objs.size (.dT []):=
 ⟨kj _,lX.mpr (ig (dO hb)),[],.nil,_,#[],0,iu _ rfl,⟨rfl,rfl,rfl⟩,rfl,rfl,HN⟩
def W9:TE:=fun _ H Q=>∀ p,H p=none->Q (.ref p) (upd H p (.dT []))
section
variable{X:Cx}{pos:Pos}
theorem V7:PE X (.Dict [] [] pos) W9:=fun pins s zzs H Q I h=>
 wpAny_Dict_empty ⟨.ref s.heap.objs.size,_,I.laid (a:=s.heap.objs.size) (o:=.dT []) (t':=s.toks) (fun _ _ q=>fu _ q) (bK _) (J1 s.heap I.big),rfl,h _ (I.hok.fresh (bK _))⟩
end
def Wc:List (TE×TE)->St->Hp->(List (V×V)->Hp->Prop)->Prop
 |[],_,H,Q=>Q [] H
 |(tk,tv)::r,zzs,H,Q=>tk zzs H fun x H1=>tv zzs H1 fun y H2=>Wc r zzs H2 fun ps H3=>Q ((x,y)::ps) H3
abbrev VV:List (V×V)->List (Value×Value)->Prop:=Paired fun p q=>RelV p.1 q.1/\RelV p.2 q.2
def PPs(X:Cx)(pos:Pos)(keys:List (Option Expr))(values:List Expr)(trs:List (TE×TE)):Prop:=
 ∀(pins:List (Addr×Obj))(s:Shared)(zzs:St)(H:Hp)(Q:List (V×V)->Hp->Prop),Inv X pins zzs H s->Wc trs zzs H Q ->
  wpAny (model X.prog X.w) X.A (evalPairs (pairTrees keys values X.env pos)) (fun vs s'=>∃ ps H',Inv X pins zzs H' s'/\VV ps vs/\Q ps H') X.xe s
theorem YL{X:Cx}{pos:Pos}:PPs X pos [] [] []:=fun pins s zzs H Q I h=>pairTrees_nil_walk ⟨[],H,I,.nil,h⟩
theorem Vb{X:Cx}{pos:Pos}{k v:Expr}{ks:List (Option Expr)}{vs:List Expr}{tk tv:TE}{trs:List (TE×TE)}(hk:PE X k tk)(hv:PE X v tv)(hr:PPs X pos ks vs trs) :
  PPs X pos (some k::ks) (v::vs) ((tk,tv)::trs):=fun pins s zzs H Q I h=>
 pairTrees_cons_walk (thn (hk pins s zzs H _ I h) fun u s1 ⟨x,H1,I1,rx,q1⟩=>thn (hv pins s1 zzs H1 _ I1 q1) fun w2 s2 ⟨y,H2,I2,ry,q2⟩=>
  thn (hr pins s2 zzs H2 _ I2 q2) fun ws s3 ⟨ps,H3,I3,rel,q3⟩=>⟨(x,y)::ps,H3,I3,.cons ⟨rx,ry⟩ rel,q3⟩)
section
variable{X:Cx}
def Z1(neg:Bool):R2:=fun y x H Q=>∃ a o,x=.ref a/\Qp H a y o/\Q (.bl (if neg then !o.isSome else o.isSome)) H
theorem uP(hu:X.A.units+60<cLine):OpR X (compareOp .NotIn) (Z1 true):=by
 intro pins s zzs H y x u v Q I ry rx h;obtain⟨a,o,rfl,g,q⟩:=h;cases rx;exact Xy (by lia) I g ry fun s3 I3=>⟨.bl (!o.isSome),H,I3,rfl,q⟩
def a2R:V->V->V->Hp->(Hp->Prop)->Prop:=fun o i v H Q=>∃ a H',o=.ref a/\Qq H a i v H'/\Q H'
theorem set_dict(hu:X.A.units+60<cLine):Sq X a2R:=by
 intro pins s zzs H o i v ov iv u Q I ro ri rv h;obtain⟨a,H',rfl,g,q⟩:=h;cases ro;exact QV (by lia) I g ri rv fun s4 I4=>⟨H',I4,q⟩
end
section
variable{X:Cx}{pos:Pos}{k v:Expr}{tk tv:TE}
def Wa(tk tv:TE):TE:=fun zzs H Q=>∀ p,H p=none->tk zzs (upd H p (.dT [])) fun x H1=>tv zzs H1 fun y H2=>∃ ks b,H2 p=some (.dT [])/\x=.ref b/\H2 b=some (.tup (ks.map kV))/\Q (.ref p) (upd H2 p (.dT [(ks,y)]))
theorem V6(hu:X.A.units+60<cLine)(hk:PE X k tk)(hv:PE X v tv):PE X (.Dict [some k] [v] pos) (Wa tk tv):=by
 intro pins s zzs H Q I q;have hn:=I.hok.fresh (bK s.heap.objs.size);have I1:=I.laid (a:=s.heap.objs.size) (o:=.dT []) (h':=s.heap.push { cls:=.type "dict",data:=.dict #[] }) (t':=s.toks) (fun _ _ z=>fu _ z) (bK _) (J1 s.heap I.big);refine wpAny_Dict_any rfl rfl (by intro z;cases z) (by show 1<=15;decide) ?_;have pp:PPs X pos [some k] [v] [(tk,tv)]:=Vb hk hv YL;refine thn (pp pins _ zzs _ (fun ps H2=>match ps with
  |[(x,y)]=>∃ ks b,H2 s.heap.objs.size=some (.dT [])/\x=.ref b/\H2 b=some (.tup (ks.map kV))/\Q (.ref s.heap.objs.size) (upd H2 s.heap.objs.size (.dT [(ks,y)]))
  |_=>False) I1 (q _ hn)) fun ws s2 h=>?_
 obtain⟨ps,H2,I2,rel,h⟩:=h;cases rel with
 |nil=>exact h.elim
 |@cons p1 w1 ps' ws' r1 a3Y=>
  cases a3Y with
  |cons _ _=>exact h.elim
  |nil=>
   obtain⟨x,y⟩:=p1;obtain⟨u,r⟩:=w1;obtain⟨ks,b,e,ex,eb,q2⟩:=h;subst ex;obtain⟨ru,ry⟩:=r1;cases (show u=Value.ref b from ru);obtain⟨z,hd,xs,rel,dd⟩:=Tj I2.hok e;cases rel;show wpAny (model X.prog X.w) X.A (storeAll s.heap.objs.size [(.ref b,r)]) _ _ s2;unfold storeAll;rw[List.forIn_cons];refine aO (aO (wpAny_dictSet_heap (knd:=tupleKind (fY X.prog X.w)) (show X.A.units<cLine by lia) (FJ I2.hok eb) dd fun h' dd' hs=>cF ?_));dsimp only;rw[List.forIn_nil];refine cF ?_;obtain⟨o,es,ep,ho,h2,h3,h4,_,h5⟩:=dd';refine⟨.ref s.heap.objs.size,_,Fp (ob:=.dT [(ks,y)]) I2 (by rw[e];exact True.intro) hs ⟨o,ho⟩ ⟨by show 1<=sizeLine;rw[mZ];decide,hd,_,(KT.put (kvs:=[]) (xs:=[]) .nil ks eb ry).keeps fun c ys ec=>?_,o,es,ep,ho,h2,h3,h4,h5⟩,rfl,q2⟩;rw[bF (qy ec e (fun z=>nomatch z))];exact ec
theorem Z5(hu:X.A.units+60<cLine)(hk:RE X k tk)(hv:RE X v tv):RE X (.Dict [some k] [v] pos) (Wa tk tv):=⟨V6 hu hk.ok hv.ok⟩
theorem Z6:RE X (.Dict [] [] pos) W9:=⟨V7⟩
end
end L2
namespace L2
open PySem PySem.Spec PyProof.Rows PySem.SeqAt PySem.MeetsSeq PySem.MeetsSeq2 PySem.MeetsSeq3
open PySem.AutoSeq1 (wpAny_loadPart')
theorem Ul(I d:Addr)(i n ep:Nat)(es:Array DictEntry)(dd d1:Option Addr)(z1 z2:Array (Option Value))(c:Value)(hi:i<es.size)(hn:n=es.size):Meets (Builtin.«dict_keyiterator.__next__» ⟨[.ref I],[]⟩)
  (fun _ R s=>s.heap.get? I=some { cls:=.type "dict_keyiterator",dict:=dd,data:=.fields #[.ref d,.int i 0,.int n 0,.int ep 0],slots:=z1 }/\s.heap.get? d=some { cls:=.type "dict",dict:=none,data:=.dict es ep,slots:=#[] } /\
   ∀ h' tk',h'.get? I=some { cls:=.type "dict_keyiterator",dict:=dd,data:=.fields #[.ref d,.int ((i+1:Nat):Int) 0,.int n 0,.int ep 0],slots:=z1 }->(∀ b o,b≠I->s.heap.get? b=some o->h'.get? b=some o)->R (.ok (.ret es[i].key)) { s with heap:=h',toks:=tk' }):=
 .of_wp fun prog w A R s h=>by
  obtain⟨hp,g,dr,tk,os⟩:=s;obtain⟨e1,e2,h⟩:=h
  wp_walk using wpAny_loadPart' e1,wpAny_loadPart' e2
  have e:(if(i:Int)<0 then none else es[((i:Nat):Int).toNat]?)=some es[i]:=by
   rw[aJ (by lia),jm,jK hi]
  rw[e];dsimp only
  wp_walk using wpAny_loadPart' e1,wpAny_loadPart' e2
  refine⟨_,rfl,h _ tk ?_ fun b o hb eb=>?_⟩
  ·have:=N8 (Obj.mapFields fun x=>x.setIfInBounds 1 (rawInt ((i:Int)+1))) e1 rfl;exact this
  ·rw[Hj _ _ _ _ hb];exact eb
end L2
namespace L2
open PySem PySem.Spec PyProof.Rows
def Ia(H H':Hp):Prop:=∀ b xs,H b=some (.tup xs)->H' b=some (.tup xs)
theorem Ia.put{H:Hp}{x:Addr}{o u:HO}(hx:H x=some o)(no:∀ xs,o≠.tup xs):Ia H (upd H x u):=fun b xs e=>by
 rw[bF (fun z=>by rw[z,hx] at e;exact no xs (iy e))];exact e
section
variable{K:ao}{H H':Hp}
theorem Ia.cell{v:V}{x:Cell}(s:Ia H H')(h:Den K H v (aA x)):Den K H' v (aA x):=by
 obtain⟨a,rfl,_,ht⟩:=fK h;exact .tup (s _ _ ht) (.cons (.int _) (.cons (.int _) .nil))
theorem Ia.cells(s:Ia H H'):∀ {vs:List V} {cs:List Cell},aY K H vs (cs.map aA)->aY K H' vs (cs.map aA)
 |[],[],_=>.nil
 |v::vs,c::cs,.cons h t=>.cons (s.cell h) (s.cells t)
end
def lF(c:Cell):List Key:=[.inl c.1,.inl c.2]
theorem U9{a b:Cell}(e:lF a=lF b):a=b:=by
 unfold lF at e;injection e with e1 e2;injection e2 with e2 _;injection e1 with e1;injection e2 with e2;exact jh e1 e2
theorem zK{h w:Nat}{st kn:List Cell}{r c:Nat}(hr:r<h)(hc:c<w):codeAt (gF h w st kn) (r,c)=CK h w st kn ((r:Int),(c:Int)):=by
 unfold codeAt gF;have e:(((List.range h).map fun r:Nat=>nJ h w st kn (r:Int) w).getD r Str.empty)=nJ h w st kn (r:Int) w:=by
  rw[dj,cM,Nk hr];rfl
 show(((List.range h).map fun r:Nat=>nJ h w st kn (r:Int) w).getD r Str.empty).cps.getD c 0=_;rw[e];unfold nJ;simp[Array.getD,hc]
theorem uD{h w:Nat}{st kn:List Cell}{x:Cell}:aM (gF h w st kn) w x=(decide (inF h w x)&&!decide (x∈kn)):=by
 have ll:(gF h w st kn).length=h:=by unfold gF;rw[aN,jo]
 unfold aM;rw[ll];by_cases hi:inF h w x
 ·obtain⟨⟨a1,a2⟩,a3,a4⟩:=id hi;have e1:x=(((x.1.toNat:Nat):Int),((x.2.toNat:Nat):Int)):=jh (by show x.1=_;lia) (by show x.2=_;lia);rw[bG hi,pN,pN,zK (by lia) (by lia),<- e1];unfold CK;by_cases hk:x∈kn
  ·rw[aK hk,bG hk];exact bV (by lia)
  ·rw[aJ hk,bV hk];rfl
 ·rw[bV hi,vD,vD]
def rE(scope outer:Scope)(N:List Str)(x z:Str):Bool:=
 (scope.kind==.function)&&scope.names.all (fun y=>!(y.2==.cell))&&scope.names.all (fun y=>!(y.2==.local)||(y.1==x||(y.1==z||y.1 == ".0"))) &&
  scope.names.all (fun y=>!(y.2==.local)||scope.names.lookup y.1==some .local)&&(scope.names.lookup x==some .local)&&(scope.names.lookup z==some .local) &&
  scope.names.all (fun y=>!(y.2==.free)||(outer.names.lookup y.1==some .cell||outer.names.lookup y.1==some .free)) &&
  !(N.contains ".0")&&(scope.names.lookup (x ++ "'")==none)&&(scope.names.lookup (z ++ "'")==none)&&decide (x::z::N.map fun y=>if y=x\/y=z then y ++ "'" else y).Nodup
def vV(N:List Str)(x z:Str):List Str:=x::z::N.map fun y=>if y=x\/y=z then y ++ "'" else y
structure yM(scope outer:Scope)(N:List Str)(x z:Str):Prop where
 kind:scope.kind=.function
 wC:∀ y∈scope.names,y.2≠.cell
 loc:∀ y∈scope.names,y.2=.local->y.1=x\/y.1=z\/y.1 = ".0"
 names:∀ y∈scope.names,y.2=.local->scope.names.lookup y.1=some .local
 own:scope.names.lookup x=some .local
 a3R:scope.names.lookup z=some .local
 free:∀ y∈scope.names,y.2=.free->outer.names.lookup y.1=some .cell\/outer.names.lookup y.1=some .free
 dot:(".0" : Str)∉N
 prime:∀ y,y=x\/y=z->scope.names.lookup (y ++ "'")=none
 nd:(vV N x z).Nodup
theorem xR{scope outer:Scope}{N:List Str}{x z:Str}(h:rE scope outer N x z=true):yM scope outer N x z:=by
 unfold rE at h;simp only[jY,jq,NT,lY,iM,lX,decide_eq_true_eq] at h;obtain⟨⟨⟨⟨⟨⟨⟨⟨⟨⟨h1,h2⟩,h3⟩,h4⟩,h5⟩,h5'⟩,h6⟩,h7⟩,h8⟩,h8'⟩,h9⟩:=h;refine⟨h1,h2,fun y hy e=>(h3 y hy).resolve_left (fun q=>q e),fun y hy e=>(h4 y hy).resolve_left (fun q=>q e),h5,h5',fun y hy e=>(h6 y hy).resolve_left (fun q=>q e),?_,fun y hy=>?_,h9⟩
 ·intro q;have:N.contains ".0" = true:=WQ.mpr q;rw[this] at h7;cases h7
 ·rcases hy with rfl|rfl
  ·exact h8
  ·exact h8'
section
variable{X:Cx}
def cY(X:Cx)(x z:Str)(scope:Scope)(s:Shared)(H:Hp)(ex:List Addr):Cx:={ dX X x scope s H ex with N:=vV X.N x z }
def Er(J:It)(g:TG)(tc:TT)(te:TE)(zzs:St)(fin:List V->Hp->Prop)(W:Nat->Nat->List V->Hp->Prop):Prop:=
 ∀ i m ys H,W i m ys H->ys.length<=sizeLine/\((J.stop i H/\fin ys H) \/
  (J.go i H/\∀ a b v H',J.yld i H v H'->g v (a::b::zzs) H' fun pG H2=>∃ a' b',pG=a'::b'::zzs/\tc pG H2 fun ok H3=>if ok=true then te pG H3 fun y H4=>∃ m',m'<m/\W (i+1) m' (ys++[y]) H4 else ∃ m',m'<m/\W (i+1) m' ys H3))
theorem Kv{N:List Str}{x z y:Str}{i:Nat}(h:(vV N x z)[i+2]?=some y):(N[i]?=some y/\y≠x/\y≠z)\/y=x ++ "'" \/ y=z ++ "'":=by
 unfold vV at h;rw[MK,MK,cM] at h;cases e:N[i]? with
 |none=>rw[e] at h;cases h
 |some q=>
  rw[e] at h;have h':(if q=x\/q=z then q ++ "'" else q)=y:=by simpa using h
  by_cases hz:q=x\/q=z
  ·rw[aK hz] at h';rcases hz with rfl|rfl
   ·exact .inr (.inl h'.symm)
   ·exact .inr (.inr h'.symm)
  ·rw[aJ hz] at h';subst h';exact .inl ⟨rfl,fun w=>hz (.inl w),fun w=>hz (.inr w)⟩
theorem Io{x z:Str}{scope:Scope}{pins:List (Addr×Obj)}{zzs:St}{H:Hp}{s:Shared}{h₁:Heap}{ex:List Addr}(ok:yM scope X.env.scope X.N x z)(hc:X.calm=true)(I:Inv X pins zzs H s)
  (hns:h₁.Ns s.heap.objs.size fun _=>none) (hk:∀ b o,s.heap.get? b=some o->h₁.get? b=some o)
  (hex:∀ b∈ex,b<s.heap.objs.size/\b≠X.env.locals/\b∉X.fs/\H b=none/\(b∈X.ex\/X.s₀.heap.objs.size<=b)/\(∀ y c,X.env.cells.lookup y=some c->c≠b)) {tk:Nat} :
  Inv (cY X x z scope s H ex) [] (none::none::zzs) H { s with heap:=h₁,toks:=tk }:=by
 have hfree:∀ y∈scope.names,y.2=.free->∃ c,X.env.cells.lookup y.1=some c:=fun y hy e=>I.ok.has y.1 (ok.free y hy e)
 have cl:∀ y c,(bR scope.names X.env.cells []).lookup y=some c->X.env.cells.lookup y=some c:=fun y c e=>eX scope.names hfree (fun _ _ z=>by simp at z) e
 have clt:∀ y c,X.env.cells.lookup y=some c->c<s.heap.objs.size:=fun y c e=>by
  obtain⟨v,q⟩:=I.cell y c e;exact q.lt
 have uM:∀ y,(compEnvC scope (bR scope.names X.env.cells []) s.heap.objs.size X.env).kindOf y=(scope.names.lookup y).map fun k=>if(k==NameKind.free&&X.env.scope.kind==.function&&X.env.kindOf y==some .cell) then NameKind.cell else k:=fun y=>lM scope.names y
 have freeOf:∀ y,(∃ k,(compEnvC scope (bR scope.names X.env.cells []) s.heap.objs.size X.env).kindOf y=some k/\(k=.cell\/k=.free))->(y,NameKind.free)∈scope.names:=fun y ⟨k,e,hk⟩=>by
  rw[uM] at e;cases q:scope.names.lookup y with
  |none=>rw[q] at e;cases e
  |some k'=>
   have mem:=lookup_mem q;by_cases hf:k'=.free
   ·subst hf;exact mem
   ·rw[q] at e;have hb:(k'==NameKind.free)=false:=by simpa using hf
    simp only[pL,hb,vD,vB,jD,sY] at e;subst e;rcases hk with z|z
    ·exact absurd z (ok.wC _ mem)
    ·exact absurd z hf
 have Gp:∀ b∈frs X.stack,b=X.env.locals\/b∈X.fs:=fun b hb=>bW.mp (I.jA b hb)
 refine⟨⟨I.ok.mod,?_,I.ok.glob,I.ok.blt,bK _,fun y z c e1 e2=>?_,fun y hy=>?_,fun y c z _=>?_,fun _=>I.ok.hd hc,I.ok.frames,.inl rfl,fun b hb=>⟨?_,fun y c e=>?_⟩,fun b o e=>?_,?_,fun b o e hb=>?_,fun b hb hf=>?_,?_,fun b hb=>?_⟩,
  rfl,I.bare,Un.kept hk,⟨_,hns,fun i y v e1 e2 e3=>?_⟩,fun y c e=>?_,I.hok.fresh (bK _),fun y c e=>I.mq y c (cl y c e),fun p hp=>?_,I.hok.kept hk,?_⟩
 ·exact ok.kind
 ·exact I.ok.inj y z c (cl y c e1) (cl z c e2)
 ·have hm:(y,NameKind.free)∈scope.names:=by
   rcases hy with z|z
   ·exact freeOf y ⟨_,z,.inl rfl⟩
   ·exact freeOf y ⟨_,z,.inr rfl⟩
  exact rC scope.names (.inl hm)
 ·exact absurd (show false=true from z) (by decide)
 ·exact dO (hex b hb).1
 ·exact(hex b hb).2.2.2.2.2 y c (cl y c e)
 ·obtain⟨e1,e2⟩:=I.bs b o e;exact⟨e1,e2⟩
 ·exact cO I.ok.bsz I.sz
 ·rcases(hex b hb).2.2.2.2.1 with z|z
  ·exact I.ok.Lk b o e z
  ·exact absurd (jl (bD (I.ok.bs b o e).1) z) (kh _)
 ·rcases Gp b hf with z|z
  ·exact(hex b hb).2.1 z
  ·exact(hex b hb).2.2.1 z
 ·exact I.stack
 ·exact I.rT b hb
 ·cases i with
  |zero=>
   have:(none::none::zzs)[0]?=some (some v):=e2;simp at this
  |succ i=>cases i with
  |zero=>
   have:(none::none::zzs)[1]?=some (some v):=e2;simp at this
  |succ i=>
   have e2':zzs[i]?=some (some v):=by simpa using e2
   have vis:Vis (relabel scope X.env) y:=e3;rcases Kv e1 with⟨eN,hyx,hyz⟩|hp
   ·
    have kf:(y,NameKind.free)∈scope.names:=by
     have k3:∃ k,(compEnvC scope (bR scope.names X.env.cells []) s.heap.objs.size X.env).kindOf y=some k/\(k=.local\/k=.cell\/k=.free):=by
      rcases vis with z|z|z
      ·exact⟨_,z,.inl rfl⟩
      ·exact⟨_,z,.inr (.inl rfl)⟩
      ·exact⟨_,z,.inr (.inr rfl)⟩
     obtain⟨k,e,hk3⟩:=k3;rcases hk3 with hl|hk3
     ·subst hl;have e':=e;rw[uM] at e';cases q:scope.names.lookup y with
      |none=>rw[q] at e';cases e'
      |some k'=>
       have mem:=lookup_mem q;rw[q] at e';have hk':k'=.local:=by
        by_cases zW:(k'==NameKind.free&&X.env.scope.kind==.function&&X.env.kindOf y==some .cell)=true
        ·simp only[pL,zW,jT,sY] at e';cases e'
        ·simp only[pL,zW,vB,jD,sY] at e';exact e'
       subst hk';rcases ok.loc _ mem rfl with z|z|z
       ·exact absurd z hyx
       ·exact absurd z hyz
       ·have:y = ".0":=z;subst this;exact absurd (eO eN) ok.dot
     ·exact freeOf y ⟨k,e,hk3⟩
    have hout:=ok.free _ kf rfl;have a1P:Vis X.env.scope y:=by
     rcases hout with z|z
     ·exact .inr (.inl z)
     ·exact .inr (.inr z)
    obtain⟨m,hn,hl⟩:=I.loc;obtain⟨u,ru,lk⟩:=hl i y v eN e2' a1P;refine⟨u,ru,?_⟩;rcases lk with⟨lk,_⟩|⟨_,c,ec,hcell⟩
    ·have lk':X.env.scope.names.lookup y=some .local:=lk;rcases hout with z|z<;>(have z':X.env.scope.names.lookup y=_:=z;rw[lk'] at z';cases z')
    ·obtain⟨c',ec'⟩:=rC (cells:=X.env.cells) (acc:=[]) scope.names (.inl kf);have:c'=c:=by
      have:=cl y c' ec';rw[ec] at this;cases this;rfl
     subst this;have kk:(compEnvC scope (bR scope.names X.env.cells []) s.heap.objs.size X.env).kindOf y=some .cell\/(compEnvC scope (bR scope.names X.env.cells []) s.heap.objs.size X.env).kindOf y=some .free:=by
      rcases vis with z|z|z
      ·
       have z':(compEnvC scope (bR scope.names X.env.cells []) s.heap.objs.size X.env).kindOf y=some .local:=z;rw[uM] at z';cases q:scope.names.lookup y with
       |none=>rw[q] at z';cases z'
       |some k'=>
        have mem:=lookup_mem q;rw[q] at z';have hk':k'=.local:=by
         by_cases zW:(k'==NameKind.free&&X.env.scope.kind==.function&&X.env.kindOf y==some .cell)=true
         ·simp only[pL,zW,jT,sY] at z';cases z'
         ·simp only[pL,zW,vB,jD,sY] at z';exact z'
        subst hk';rcases ok.loc _ mem rfl with zz|zz|zz
        ·exact absurd zz hyx
        ·exact absurd zz hyz
        ·have:y = ".0":=zz;subst this;exact absurd (eO eN) ok.dot
      ·exact .inl z
      ·exact .inr z
     refine .inr ⟨kk,c',ec',?_⟩;obtain⟨oc,hoc,hd⟩:=hcell;exact⟨oc,hk _ _ hoc,hd⟩
   ·exfalso;have hp':∃ q,(q=x\/q=z)/\y=q ++ "'":=by
     rcases hp with e|e
     ·exact⟨x,.inl rfl,e⟩
     ·exact⟨z,.inr rfl,e⟩
    obtain⟨q,hq,rfl⟩:=hp';have kn:(compEnvC scope (bR scope.names X.env.cells []) s.heap.objs.size X.env).kindOf (q ++ "'")=none:=by rw[uM,ok.prime q hq];rfl
    rcases vis with z|z|z
    ·have z':(compEnvC scope (bR scope.names X.env.cells []) s.heap.objs.size X.env).kindOf (q ++ "'")=some .local:=z;rw[kn] at z';cases z'
    ·have z':(compEnvC scope (bR scope.names X.env.cells []) s.heap.objs.size X.env).kindOf (q ++ "'")=some .cell:=z;rw[kn] at z';cases z'
    ·have z':(compEnvC scope (bR scope.names X.env.cells []) s.heap.objs.size X.env).kindOf (q ++ "'")=some .free:=z;rw[kn] at z';cases z'
 ·obtain⟨v,oc,hoc,hd⟩:=I.cell y c (cl y c e);exact⟨v,oc,hk _ _ hoc,hd⟩
 ·exact absurd (show p∈([]:List (Addr×Obj)) from hp) (by simp)
 ·show(none::none::zzs).length=(vV X.N x z).length;unfold vV;rw[dY,dY,dY,dY,aN,I.len]
theorem KD{x z:Str}{tg:Expr}{pos:Pos}{g:TG}{scope:Scope}{elt iter:Expr}{ifs:List Expr}{tc:TT}{te:TE}{pins:List (Addr×Obj)}{zzs:St}{H₂:Hp}{s₃:Shared}{h₁:Heap}{tk:Nat}{it D:Addr}{fp:List Addr}{tn:Nat->Heap->Prop}{J:It}{fin:List V->Hp->Prop}
  {W:Nat->Nat->List V->Hp->Prop} {RR:Value->Addr->Result->Shared->Prop}
  (ok:yM scope X.env.scope X.N x z) (hc:X.calm=true) (hg:∀ s H ex,PG (cY X x z scope s H ex) tg g) (hif:∀ s H ex,tG (cY X x z scope s H ex) ifs tc) (he:∀ s H ex,PE (cY X x z scope s H ex) elt te)
  (I3:Inv X pins zzs H₂ s₃) (T:Turn X.prog X.w X.K tg J fp it tn) (st:tn 0 s₃.heap) (f2:∀ b∈fp,iR X pins H₂ b) (w0:∃ m,W 0 m [] H₂) (hW:Er J g tc te zzs fin W)
  (gJ:H₂ D=none) (fD:iR X pins H₂ D) (h0D:X.s₀.heap.objs.size<=D) (mz:s₃.heap.get? D=some { cls:=.type "list",dict:=none,data:=.seq ([]:List Value).toArray }) (Dfp:D∉fp)
  (hns₁:h₁.Ns s₃.heap.objs.size fun _=>none) (fO:∀ b o,s₃.heap.get? b=some o->h₁.get? b=some o)
  (hRR:∀ D C ys H' s',H' D=none->fin ys H'->Inv X pins zzs (upd H' D (.lst ys)) s'->iR X pins (upd H' D (.lst ys)) C->(∃ m,s'.heap.Ns C m)->RR (.ref D) C (.ok .next) s') :
  codeAny (model X.prog X.w) X.A (.compLoop (.ListComp elt [⟨tg,iter,ifs,0⟩] scope pos) 0 (.ref it) (.ref D) (compEnvC scope (bR scope.names X.env.cells []) s₃.heap.objs.size X.env)) (RR (.ref D) s₃.heap.objs.size) { s₃ with heap:=h₁,toks:=tk }:=by
 have Jc:∀ b∈fp,∃ o,s₃.heap.get? b=some o/\∀ v,o.data≠.cell v:=T.obj 0 s₃.heap st;have hex:∀ b∈D::fp,b<s₃.heap.objs.size/\b≠X.env.locals/\b∉X.fs/\H₂ b=none/\(b∈X.ex\/X.s₀.heap.objs.size<=b)/\(∀ y c,X.env.cells.lookup y=some c->c≠b):=fun b hb=>by
  rcases bW.mp hb with e|hb
  ·subst e;obtain⟨g0,g1,g2,g3,g4,g5⟩:=fD;exact⟨bD mz,g1,g2,g0,g3,g4⟩
  ·obtain⟨g0,g1,g2,g3,g4,g5⟩:=f2 b hb;obtain⟨o,eo,_⟩:=Jc b hb;exact⟨bD eo,g1,g2,g0,g3,g4⟩
 have I4:=Io (ex:=D::fp) (tk:=tk) ok hc I3 hns₁ fO hex;generalize hY:cY X x z scope s₃ H₂ (D::fp)=Y at I4;have jr:Y.prog=X.prog:=by rw[<- hY];rfl
 have Yw:Y.w=X.w:=by rw[<- hY];rfl
 have YK:Y.K=X.K:=by rw[<- hY];rfl
 have YA:Y.A=X.A:=by rw[<- hY];rfl
 have Yc:Y.calm=true:=by rw[<- hY];exact hc
 have lD:Y.env=compEnvC scope (bR scope.names X.env.cells []) s₃.heap.objs.size X.env:=by rw[<- hY];rfl
 have hg':PG Y tg g:=by rw[<- hY];exact hg _ _ _
 have Yfs:Y.fs=frs X.stack:=by rw[<- hY];rfl
 have Yex:Y.ex=D::fp:=by rw[<- hY];rfl
 have Ys0:Y.s₀=s₃:=by rw[<- hY];rfl
 have YH0:Y.H₀=H₂:=by rw[<- hY];rfl
 have Ypn:Y.pn=[]:=by rw[<- hY];rfl
 have Yxe:Y.xe=fun _ _=>False:=by rw[<- hY];rfl
 have TY:tG Y ifs tc:=by rw[<- hY];exact hif _ _ _
 have he':PE Y elt te:=by rw[<- hY];exact he _ _ _
 have Dne:D≠Y.env.locals:=by rw[lD];exact dO (bD mz)
 have Dfs:D∉Y.fs:=by
  rw[Yfs];intro hb;rcases bW.mp (I3.jA D hb) with z|z
  ·exact fD.2.1 z
  ·exact fD.2.2.1 z
 have I9:∀ y c,Y.env.cells.lookup y=some c->c≠D:=fun y c e=>by
  have hfree:∀ y∈scope.names,y.2=.free->∃ c,X.env.cells.lookup y.1=some c:=fun y hy e=>I3.ok.has y.1 (ok.free y hy e)
  rw[lD] at e;exact fD.2.2.2.2.1 y c (eX scope.names hfree (fun _ _ z=>by simp at z) e)
 have fpY:∀ {H':Hp} {pl:List (Addr×Obj)},(∀ b∈fp,H' b=none)->(∀ p∈pl,p.1∉fp)->∀ b∈fp,iR Y pl H' b:=fun {H' pl} hn hp b hb=>by
  obtain⟨g0,g1,g2,g3,g4,g5⟩:=f2 b hb;have hlt:=(hex b (dI _ hb)).1;refine⟨hn b hb,?_,?_,.inl (by rw[Yex];exact dI _ hb),fun y c e=>?_,fun p q z=>?_⟩
  ·rw[lD];exact dO hlt
  ·rw[Yfs];intro z;rcases bW.mp (I3.jA b z) with z|z
   ·exact g1 z
   ·exact g2 z
  ·have hfree:∀ y∈scope.names,y.2=.free->∃ c,X.env.cells.lookup y.1=some c:=fun y hy e=>I3.ok.has y.1 (ok.free y hy e)
   rw[lD] at e;exact g4 y c (eX scope.names hfree (fun _ _ z=>by simp at z) e)
  ·rw[Ypn,HB] at q;exact hp p q (by rw[z];exact hb)
 have DY:∀ {H':Hp},H' D=none->iR Y [] H' D:=fun {H'} hn=>⟨hn,Dne,Dfs,.inl (by rw[Yex];exact cU),I9,fun p q=>absurd (show p∈([]:List (Addr×Obj)) by rw[Ypn] at q;exact q) (by simp)⟩
 have Jv:∀ {bJ:St} {H':Hp} {s':Shared} {its:Array Value} {n:Nat},Inv Y [] bJ H' s'->H' D=none->s'.heap.get? D=some { cls:=.type "list",data:=.seq its n }->Inv Y [(D,{ cls:=.type "list",data:=.seq its n })] bJ H' s':=fun {bJ H' s' its n} J' hn e=>by
  refine J'.jf fun p hp=>?_
  have:p=(D,{ cls:=.type "list",data:=.seq its n }):=by simpa using hp
  subst this;exact⟨e,hn,Dne,Dfs,fun v z=>by
   have z':Data.seq its n=Data.cell v:=z;cases z'⟩
 rw[<- lD];obtain⟨m0,w0⟩:=w0;refine uE (fun m s'=>∃ i ys kO ux H' its n,Inv Y [(D,{ cls:=.type "list",data:=.seq its n })] (kO::ux::zzs) H' s'/\tn i s'.heap/\(∀ b∈fp,H' b=none)/\Vals ys its.toList/\W i m ys H') ?_ m0
  ⟨0,[],none,none,H₂,_,_,Jv I4 gJ (fO D _ mz),T.keep 0 _ _ st (fun b _ o e=>fO b o e),fun b hb=>(f2 b hb).1,.nil,w0⟩
 rintro m s' ⟨i,ys,kO,ux,H',its,n,J',st',fr',rv,w'⟩;obtain⟨hle,hW'⟩:=hW i m ys H' w';have hDn:H' D=none:=(J'.pin (D,{ cls:=.type "list",data:=.seq its n }) (by simp)).2.1;have fpn:∀ p∈[((D,{ cls:=.type "list",data:=.seq its n }):Addr×Obj)],p.1∉fp:=fun p hp=>by
  have:p=(D,{ cls:=.type "list",data:=.seq its n }):=by simpa using hp
  subst this;exact Dfp
 rcases hW' with⟨stop,hf⟩|⟨go,step⟩
 ·
  have h9:=T.done Y jr Yw YK Yc i _ s' (kO::ux::zzs) H' (fun _ _=>False) J' (fpY fr' fpn) st' stop;rw[YA] at h9;refine thn h9 fun r s5 zzy=>?_
  obtain⟨hr,J5⟩:=zzy;subst hr;show RR (.ref D) s₃.heap.objs.size (.ok .next) s5;have eD:=(J5.pin (D,{ cls:=.type "list",data:=.seq its n }) (by simp)).1;have un:Un (frs X.stack) (D::fp) H₂ H' s₃.heap s5.heap:=by
   have:=J5.base;rw[Yfs,Yex,YH0,Ys0] at this;exact this
  have U0:HOk X.prog X.w H' s5.heap:=by
   have:=J5.hok;rw[jr,Yw] at this;exact this
  have os5:s5.os=s₃.os:=by have:=J5.os;rw[Ys0] at this;exact this
  have I5:Inv X pins zzs H' s5:=I3.call' os5 un U0 J5.bare fun b hb=>by
   rcases bW.mp hb with e|hb
   ·subst e;exact⟨fD.2.2.2.1,fD.2.1,fD.2.2.2.2.1,fD.2.2.2.2.2⟩
   ·obtain⟨g0,g1,g2,g3,g4,g5⟩:=f2 b hb;exact⟨g3,g1,g4,g5⟩
  have I6:Inv X pins zzs (upd H' D (.lst ys)) s5:=I5.track hDn h0D fD.2.1 fD.2.2.2.2.1 fD.2.2.2.2.2 ⟨hle,its.toList,n,rv,by simpa using eD⟩;obtain⟨mC,hnC,_⟩:=J5.loc;have eL:Y.env.locals=s₃.heap.objs.size:=by rw[lD];rfl
  have hCn:H' s₃.heap.objs.size=none:=by have:=J5.free;rw[eL] at this;exact this
  refine hRR D s₃.heap.objs.size ys H' s5 hDn hf I6 ?_ ⟨mC,by rw[<- eL];exact hnC⟩;exact I3.Cu (bK _) (by rw[bF (xG (bD mz))];exact hCn)
 ·
  have h9:=T.item Y jr Yw YK Yc i _ s' (kO::ux::zzs) H' (fun _ _=>False) J' (fpY fr' fpn) st' go;rw[YA] at h9;refine thn h9 fun r s5 zzy=>?_
  obtain⟨u,hr,h5⟩:=zzy;subst hr;refine thn h5 fun _ s6 zzy=>?_
  obtain⟨v,H6,J6,rv6,y6,st6,fr6⟩:=zzy;have a2m:H6 D=none:=(J6.pin (D,{ cls:=.type "list",data:=.seq its n }) (by simp)).2.1;have J6':=J6.pinned (fp:=fp) (fpY fr6 fpn) (T.obj _ _ st6);have hst:=step kO ux v H6 y6;have h10:=hg' _ s6 (kO::ux::zzs) H6 v u _ J6' rv6 hst;rw[jr,Yw,YA,Yxe] at h10;refine thn h10 fun _ s7 zzy=>?_
  obtain⟨yL,H7,J7,a7,b7,e7,q7⟩:=zzy;subst e7;have h10:=TY _ s7 (a7::b7::zzs) H7 _ J7 q7;rw[jr,Yw,YA,Yxe] at h10;refine thn h10 fun b s8 zzy=>?_
  obtain⟨H8,J8,q8⟩:=zzy;have again:∀ {s9:Shared} {H9:Hp} {ys':List V} {its':Array Value} {n':Nat},Inv Y [] (a7::b7::zzs) H9 s9->(∀ b∈fp,H9 b=none/\∀ o,s6.heap.get? b=some o->s9.heap.get? b=some o)->H9 D=none ->
    s9.heap.get? D=some { cls:=.type "list",data:=.seq its' n' }->Vals ys' its'.toList->(∃ m',m'<m/\W (i+1) m' ys' H9) ->
    ∃ m',m'<m/\∃ i ys kO ux H' its n,Inv Y [(D,{ cls:=.type "list",data:=.seq its n })] (kO::ux::zzs) H' s9/\tn i s9.heap/\(∀ b∈fp,H' b=none)/\Vals ys its.toList/\W i m' ys H':=fun {s9 H9 ys' its' n'} J9 Jb hD9 eD9 rv9 hw9=>by
   obtain⟨m',hm,w9⟩:=hw9;exact⟨m',hm,i+1,ys',a7,b7,H9,its',n',Jv J9 hD9 eD9,T.keep _ _ _ st6 (fun b hb o e=>(Jb b hb).2 o e),fun b hb=>(Jb b hb).1,rv9,w9⟩
  have Jw:∀ {rz:St} {H9:Hp} {s9:Shared},Inv Y ([(D,{ cls:=.type "list",data:=.seq its n })]++jN fp s6.heap) rz H9 s9->∀ b∈fp,H9 b=none/\∀ o,s6.heap.get? b=some o->s9.heap.get? b=some o:=fun {rz H9 s9} J9 b hb=>by
   obtain⟨o,eo,_⟩:=T.obj _ _ st6 b hb;have p:=J9.pin (b,o) (gn _ (gn _ (lJ hb eo)));exact⟨p.2.1,fun o' e'=>by rw[eo] at e';cases e';exact p.1⟩
  have Jx:∀ {rz:St} {H9:Hp} {s9:Shared},Inv Y ([(D,{ cls:=.type "list",data:=.seq its n })]++jN fp s6.heap) rz H9 s9->s9.heap.get? D=some { cls:=.type "list",data:=.seq its n }/\H9 D=none:=fun {rz H9 s9} J9=>by
   have p:=J9.pin (D,{ cls:=.type "list",data:=.seq its n }) (gn _ (jj _ (by simp)));exact⟨p.1,p.2.1⟩
  cases b with
  |false=>
   show ∃ m',m'<m/\_;have q8':∃ m',m'<m/\W (i+1) m' ys H8:=q8;obtain⟨eD8,hD8⟩:=Jx J8;exact again (J8.jf fun p hp=>absurd hp (by simp)) (Jw J8) hD8 eD8 rv q8'
  |true=>
   show wpAny _ _ _ _ _ _;have q8':te (a7::b7::zzs) H8 fun y H3=>∃ m',m'<m/\W (i+1) m' (ys++[y]) H3:=q8
   have h11:=he' _ s8 (a7::b7::zzs) H8 _ J8 q8';rw[jr,Yw,YA,Yxe] at h11;refine thn h11 fun yv s9 zzy=>?_
   obtain⟨y,H9,J9,ry,q9⟩:=zzy;obtain⟨eD9,hD9⟩:=Jx J9;have hz:its.size<=sizeLine:=by have:=rv.length;simp only[jk] at this;lia
   refine MN (hsz:=hz) ⟨n,eD9⟩ fun h' hl' hsb'=>?_
   obtain⟨n',eD'⟩:=hl';have J9':Inv Y [] (a7::b7::zzs) H9 s9:=J9.jf fun p hp=>absurd hp (by simp)
   obtain⟨g0,g1,g2,g3,g4,g5⟩:=DY hD9;have J10:Inv Y [] (a7::b7::zzs) H9 { s9 with heap:=h' }:=J9'.turned (t':=s9.toks) (fun b o hb e=>Heap.SameBut.keeps hsb' hb e) g0 g1 g3 g4 g5;refine again J10 (fun b hb=>?_) hD9 eD' (by simpa using rv.append (Vals.Tc ry)) q9;have p9:=Jw J9 b hb;exact⟨p9.1,fun o e=>Heap.SameBut.keeps hsb' (fun z=>Dfp (z▸hb)) (p9.2 o e)⟩
theorem Kz{x z:Str}{tg:Expr}{pos:Pos}{g:TG}{scope:Scope}{elt iter:Expr}{ifs:List Expr}{tc:TT}{te:TE}{pins:List (Addr×Obj)}{zzs:St}{H₂:Hp}{s₂:Shared}{it:Addr}{fp:List Addr}{tn:Nat->Heap->Prop}{J:It}{fin:List V->Hp->Prop}
  {W:Nat->Nat->List V->Hp->Prop} {RR:Value->Addr->Result->Shared->Prop} {E:Value->Shared->Prop}
  (ok:yM scope X.env.scope X.N x z) (hc:X.calm=true) (hg:∀ s H ex,PG (cY X x z scope s H ex) tg g) (hif:∀ s H ex,tG (cY X x z scope s H ex) ifs tc) (he:∀ s H ex,PE (cY X x z scope s H ex) elt te)
  (I2:Inv X pins zzs H₂ s₂) (T:Turn X.prog X.w X.K tg J fp it tn) (st:tn 0 s₂.heap) (f2:∀ b∈fp,iR X pins H₂ b) (w0:∃ m,W 0 m [] H₂) (hW:Er J g tc te zzs fin W)
  (hRR:∀ D C ys H' s',H' D=none->fin ys H'->Inv X pins zzs (upd H' D (.lst ys)) s'->iR X pins (upd H' D (.lst ys)) C->(∃ m,s'.heap.Ns C m)->RR (.ref D) C (.ok .next) s') :
  wpAny (model X.prog X.w) X.A (newList []) (fun acc s₃=>wpAny (model X.prog X.w) X.A (newFunctionEnv scope X.env.globals (bR scope.names X.env.cells []) [] X.env.qual none .none (some X.env)) (fun cenv s₄=>
   codeAny (model X.prog X.w) X.A (.compStart (.ListComp elt [⟨tg,iter,ifs,0⟩] scope pos) 0 (.ref it) acc { cenv with scope:=relabel scope X.env }) (RR acc cenv.locals) s₄) E s₃) E s₂:=by
 refine wW (Ng ok.wC (by intro y hy;simp at hy) (fun h₁ hns₁ hsb₁=>?_) ok.kind);have I3:Inv X pins zzs H₂ { s₂ with heap:=s₂.heap.push { cls:=.type "list",dict:=none,data:=.seq ([]:List Value).toArray } }:=I2.kept (t':=s₂.toks) fun b o e=>fu _ e
 have fO:∀ b o,(s₂.heap.push { cls:=.type "list",dict:=none,data:=.seq ([]:List Value).toArray }).get? b=some o->h₁.get? b=some o:=fun b o e=>Heap.SameBut.keeps hsb₁ (dO (bD e)) (fu _ e)
 have qt:∀ b o,s₂.heap.get? b=some o->(s₂.heap.push { cls:=.type "list",dict:=none,data:=.seq ([]:List Value).toArray }).get? b=some o:=fun b o e=>fu _ e
 have gJ:H₂ s₂.heap.objs.size=none:=I2.hok.fresh (bK _);have loop:=KD (RR:=RR) (s₃:={ s₂ with heap:=s₂.heap.push { cls:=.type "list",dict:=none,data:=.seq ([]:List Value).toArray } }) (h₁:=h₁) (tk:=s₂.toks+([]:List (Str×Value)).length) (iter:=iter) (pos:=pos)
  ok hc hg hif he I3 T (T.keep 0 _ _ st fun b _ o e=>qt b o e) f2 w0 hW gJ (I2.Cu (bK _) gJ) I2.sz (iu _ rfl) (fun hb=>by
   obtain⟨o,e,_⟩:=T.obj 0 _ st _ hb;exact kh _ (bD e)) (by simpa using hns₁) fO hRR
 exact N5 loop (T.self _ 0 _ _ _ (T.keep 0 _ _ st fun b _ o e=>fO b o (qt b o e)) loop)
def Mq(g:TG)(wi:TI)(tc:TT)(te:TE):TE:=fun zzs H Q=>wi zzs H fun J H1=>∃ W:Nat->Nat->List V->Hp->Prop,(∃ m,W 0 m [] H1)/\Er J g tc te zzs (fun ys H2=>∀ p,H2 p=none->Q (.ref p) (upd H2 p (.lst ys))) W
theorem V5{x z:Str}{tg:Expr}{pos:Pos}{g:TG}{scope:Scope}{elt iter:Expr}{ifs:List Expr}{wi:TI}{tc:TT}{te:TE}(ok:rE scope X.env.scope X.N x z=true)(hc:X.calm=true)(hi:PI X tg iter wi)
  (hg:∀ s H ex,PG (cY X x z scope s H ex) tg g) (hif:∀ s H ex,tG (cY X x z scope s H ex) ifs tc) (he:∀ s H ex,PE (cY X x z scope s H ex) elt te) (hs:∀ v,foldedSetIterable iter X.env v=pure v:=by intro _;rfl) :
  PE X (.ListComp elt [⟨tg,iter,ifs,0⟩] scope pos) (Mq g wi tc te):=by
 intro pins s zzs H Q I h;have ok':=xR ok;have hfree:∀ y∈scope.names,y.2=.free->∃ c,X.env.cells.lookup y.1=some c:=fun y hy e=>I.ok.has y.1 (ok'.free y hy e)
 rw[eval_ListComp];refine Gx (use:=none) rfl hs (oF hfree) ok'.kind ok'.names (thn (hi pins s zzs H _ I h) fun v s1 h1=>thn h1 fun itv s2 h2=>?_);obtain⟨it,fp,tn,J,H2,e,I2,T,st2,f2,W,w0,hW⟩:=h2;subst e;refine Kz (RR:=fun acc C=>compPost (model X.prog X.w) X.A X.xe none (EP X pins zzs Q) acc C) ok' hc hg hif he I2 T st2 f2 w0 hW fun D C ys H' s' hD fin I' fC hm=>?_
 obtain⟨m,hm⟩:=hm;refine⟨m,hm,fun h' hsb=>?_⟩;obtain⟨g0,g1,g2,g3,g4,g5⟩:=fC;exact⟨.ref D,_,I'.turned (t':=s'.toks) (fun b o hb e=>Heap.SameBut.keeps hsb hb e) g0 g1 g3 g4 g5,rfl,fin D hD⟩
theorem Z4{x z:Str}{tg elt iter:Expr}{ifs:List Expr}{pos:Pos}{scope:Scope}{g:TG}{wi:TI}{tc:TT}{te:TE}(ok:rE scope X.env.scope X.N x z=true)(hc:X.calm=true)(hi:RI X tg iter wi)(hg:∀ s H ex,RG (cY X x z scope s H ex) tg g)
  (hif:∀ s H ex,RIf (cY X x z scope s H ex) ifs tc) (he:∀ s H ex,RE (cY X x z scope s H ex) elt te) (hs:∀ v,foldedSetIterable iter X.env v=pure v:=by intro _;rfl) :
  RE X (.ListComp elt [⟨tg,iter,ifs,0⟩] scope pos) (Mq g wi tc te):=⟨V5 ok hc hi.ok (fun s H ex=>(hg s H ex).ok) (fun s H ex=>(hif s H ex).ok) (fun s H ex=>(he s H ex).ok) hs⟩
theorem Z8{x z:Str}{px pz tpos:Pos}{n:Nat}{scope:Scope}(ok:rE scope X.env.scope X.N x z=true)(hc:X.calm=true)(s:Shared)(H:Hp)(ex:List Addr) :
  RG (cY X x z scope s H ex) (.Tuple [.Name x px,.Name z pz] n tpos) (TQ X.K 2 (xW (sE 0) (xW (sE 1) TJ))):=by
 have o:=xR ok;have lx:(cY X x z scope s H ex).env.scope.names.lookup x=some .local:=GP o.own;have lz:(cY X x z scope s H ex).env.scope.names.lookup z=some .local:=GP o.a3R;have nd:(cY X x z scope s H ex).N.Nodup:=o.nd;exact⟨V9 (X:=cY X x z scope s H ex) hc (Af (FW (i:=0) nd rfl (.inl lx) (.inr lx)) (Af (FW (i:=1) nd rfl (.inl lz) (.inr lz)) PK))⟩
theorem LQ{K:ao}{x z:Str}{px pz tpos pos:Pos}{n:Nat}{elt iter:Expr}{ifs:List Expr}{scope:Scope}{wi:TI}{tc:TT}{te:TE}(ok:rE scope X.env.scope X.N x z=true)(hc:X.calm=true)(hi:RI X (.Tuple [.Name x px,.Name z pz] n tpos) iter wi)
  (hif:∀ s H ex,RIf (cY X x z scope s H ex) ifs tc) (he:∀ s H ex,RE (cY X x z scope s H ex) elt te) (hK:X.K=K:=by rfl) (hs:∀ v,foldedSetIterable iter X.env v=pure v:=by intro _;rfl) :
  RE X (.ListComp elt [⟨.Tuple [.Name x px,.Name z pz] n tpos,iter,ifs,0⟩] scope pos) (Mq (TQ K 2 (xW (sE 0) (xW (sE 1) TJ))) wi tc te):=by
 subst hK;exact Z4 ok hc hi (Z8 ok hc) hif he hs
theorem Kw{K:ao}{a:Addr}{xs:List V}{g:TG}{tc:TT}{te:TE}{zzs:St}{fin:List V->Hp->Prop}{H:Hp}(R:Nat->List V->Hp->Prop)(hn:xs.length<=sizeLine)
  (hq:∀ i ys H,i<=xs.length->R i ys H->SqL K H a xs) (hl:∀ i ys H,i<=xs.length->R i ys H->ys.length<=i) (h0:R 0 [] H)
  (hs:∀ i x ys H p q,xs[i]?=some x->R i ys H->∀ G:List V->Hp->Prop,(∀ ys' H',R (i+1) ys' H'->G ys' H')->g x (p::q::zzs) H fun pG H2=>∃ p' q',pG=p'::q'::zzs/\tc pG H2 fun ok H3=>if ok=true then te pG H3 fun y H4=>G (ys++[y]) H4 else G ys H3)
  (hd:∀ ys H,R xs.length ys H->fin ys H):∃ W:Nat->Nat->List V->Hp->Prop,(∃ m,W 0 m [] H)/\Er (Itl K a) g tc te zzs fin W:=by
 refine⟨fun i m ys H=>m=xs.length-i/\i<=xs.length/\R i ys H,⟨xs.length,by lia,kj _,h0⟩,?_⟩;rintro i m ys H ⟨rfl,hi,r⟩;refine⟨cO (hl i ys H hi r) (cO hi hn),?_⟩;by_cases hlt:i<xs.length
 ·refine .inr ⟨⟨xs,xs[i],hq i ys H hi r,by simp[hlt]⟩,fun p q v H' y=>?_⟩;obtain⟨rfl,y⟩:=y;have e:=y xs (hq i ys _ hi r);exact hs i v ys _ p q e r (fun ys' H2=>∃ m',m'<xs.length-i/\(m'=xs.length-(i+1)/\i+1<=xs.length/\R (i+1) ys' H2)) fun ys' H2 r'=>⟨xs.length-(i+1),by lia,rfl,hlt,r'⟩
 ·have e:i=xs.length:=by lia
  subst e;exact .inl ⟨⟨xs,hq _ ys H (bK _) r,bK _⟩,hd ys H r⟩
end
end L2
namespace L2
open PySem PySem.Spec PyProof.Rows PySem.SeqAt PySem.MeetsSeq PySem.MeetsSeq2 PySem.MeetsSeq3
open PySem.AutoSeq1 (wpAny_loadPart')
theorem XF(I d:Addr)(n ep:Nat)(es:Array DictEntry)(z1:Array (Option Value))(hn:n=es.size):Meets (Builtin.«dict_keyiterator.__next__» ⟨[.ref I],[]⟩)
  (fun A R s=>A.handled=none/\s.heap.get? I=some { cls:=.type "dict_keyiterator",dict:=none,data:=.fields #[.ref d,.int n 0,.int n 0,.int ep 0],slots:=z1 }/\s.heap.get? d=some { cls:=.type "dict",dict:=none,data:=.dict es ep,slots:=#[] } /\
   ∀(h':Heap)(e:Addr),(∃ o,h'.get? e=some o/\o.cls=.type "StopIteration")->(∀ b o,b≠I->s.heap.get? b=some o->h'.get? b=some o)->R (.error (.ref e)) { s with heap:=h' }):=
 .of_wp fun prog w A R s h=>by
  obtain⟨hp,g,dr,tk,os⟩:=s;obtain⟨hh,e1,e2,h⟩:=h
  wp_walk using wpAny_loadPart' e1,wpAny_loadPart' e2
  have e:(if(n:Int)<0 then none else es[((n:Nat):Int).toNat]?)=none:=by
   rw[aJ (by lia),jm];exact WL (by lia)
  rw[e];dsimp only
  wp_walk using wpAny_loadPart' e1,wpAny_loadPart' e2
  unfold raiseNew;refine aO (wpAny_handled ?_);have hh':A.in1.handled=none:=hh;rw[hh'];refine aO (cF (wpAny_throw (h _ _ ⟨_,iu _ rfl,rfl⟩ fun b o hb eb=>fu _ (fu _ ?_))));rw[Hj _ _ _ _ hb];exact eb
section
variable{P:Program}{w:World}{A:Around}{E:Value->Shared->Prop}{s:Shared}
def KIt(I d:Addr)(es:Array DictEntry)(ep i:Nat)(h:Heap):Prop:=
 (∃ z1,h.get? I=some { cls:=.type "dict_keyiterator",dict:=none,data:=.fields #[.ref d,.int i 0,.int es.size 0,.int ep 0],slots:=z1 })/\h.get? d=some { cls:=.type "dict",dict:=none,data:=.dict es ep,slots:=#[] }
theorem KIt.ty{I d:Addr}{es:Array DictEntry}{ep i:Nat}(k:KIt I d es ep i s.heap):s.TypeIs (.ref I) "dict_keyiterator":=let ⟨_,e⟩:=k.1;⟨_,e,rfl⟩
theorem Ub{I d:Addr}{es:Array DictEntry}{ep i:Nat}{Q:Option Value->Shared->Prop}(k:KIt I d es ep i s.heap)(ne:d≠I)(hi:i<es.size)
  (hQ:∀ h' tk',KIt I d es ep (i+1) h'->(∀ b o,b≠I->s.heap.get? b=some o->h'.get? b=some o)->Q (some es[i].key) { s with heap:=h',toks:=tk' }):wpAny (model P w) A (pyNext (.ref I)) Q E s:=by
 obtain⟨⟨z1,e1⟩,e2⟩:=id k;unfold pyNext;refine aO (wpAny_attempt (wpAny_callSpecial?_slot (name:=Str.ofString "__next__") k.ty K7
  (ur K7 k.ty Wq (Wo _) (Ul I d i es.size ep es none none z1 #[] .none hi rfl) ⟨e1,e2,fun h' tk' g1 g2=>?_⟩)))
 exact cF (hQ h' tk' ⟨⟨z1,g1⟩,g2 d _ ne e2⟩ g2)
theorem Y7{I d:Addr}{es:Array DictEntry}{ep:Nat}{Q:Option Value->Shared->Prop}(hh:A.handled=none)(k:KIt I d es ep es.size s.heap)
  (hQ:∀ h',(∀ b o,b≠I->s.heap.get? b=some o->h'.get? b=some o)->Q none { s with heap:=h' }):wpAny (model P w) A (pyNext (.ref I)) Q E s:=by
 obtain⟨⟨z1,e1⟩,e2⟩:=id k;unfold pyNext;refine aO (wpAny_attempt (wpAny_callSpecial?_slot (name:=Str.ofString "__next__") k.ty K7
  (ur K7 k.ty Wq (Wo _) (XF I d es.size ep es z1 rfl) ⟨hh,e1,e2,fun h' e ho g2=>?_⟩)))
 obtain⟨o,h1,h2⟩:=ho;refine aO (wpAny_isInstance (T:="StopIteration") (b:=true) ⟨o,h1,h2⟩ isSubtype_stop ?_);exact cF (hQ h' g2)
theorem Ua{d:Addr}{es:Array DictEntry}{ep:Nat}{Q:Value->Shared->Prop}(lo:(d==sysModules)=false) (e:s.heap.get? d=some { cls:=.type "dict",dict:=none,data:=.dict es ep,slots:=#[] })
  (hQ:Q (.ref s.heap.objs.size) { s with heap:=s.heap.push { cls:=.type "dict_keyiterator",dict:=none,data:=.fields #[.ref d,.int 0 0,.int es.size 0,.int ep 0],slots:=#[] } }):wpAny (model P w) A (pyIter (.ref d)) Q E s:=by
 have ty:s.TypeIs (.ref d) "dict":=⟨_,e,rfl⟩
 refine wpAny_pyIter_slot ty WM (NK WM ty PySem.F.entry_dict_iter ?_ (PySem.F.args_dict_iter_1 _));unfold Builtin.«dict.__iter__»;refine aO ?_;unfold Builtin.Dict.dictSlotNone;refine aO (wpAny_notOrdered_dict ty ?_);refine cF ?_;show wpAny _ _ (Builtin.Dict.showsAll d >>= _) _ _ s;unfold Builtin.Dict.showsAll;rw[lo,aJ (by decide)];refine aO (cF (aO (wpAny_dictEntries e rfl (aO (wpAny_dictEpoch e rfl ?_)))));exact aO (wW (cF ⟨_,rfl,"dict_keyiterator",_,⟨_,iu _ rfl,rfl⟩,K7.lookup,hQ⟩))
theorem Ra(hh:A.handled=none)(I d:Addr)(ne:d≠I)(es:Array DictEntry)(ep:Nat):Walks P w A I [I,d] [I] es.size (fun i v=>∃ h:i<es.size,v=es[i].key) (KIt I d es ep) where
 sub:=fun b hb=>by rw[dU.mp hb];exact cU
 frame:=fun i h h' st hk=>⟨let ⟨z,e⟩:=st.1;⟨z,hk I cU _ e⟩,hk d (dI _ cU) _ st.2⟩
 item:=fun i s Q E hi st hQ=>Ub st ne hi fun h' tk' k' keep=>hQ _ h' tk' ⟨hi,rfl⟩ k' fun b o hb eb=>keep b o (fun z=>hb (by rw[z];exact dU.mpr rfl)) eb
 done:=fun s Q E st hQ=>Y7 hh st fun h' keep=>hQ h' s.toks fun b o hb eb=>keep b o (fun z=>hb (by rw[z];exact dU.mpr rfl)) eb
 self:=fun i s Q E st hQ=>let ⟨_,e⟩:=st.1;wpAny_pyIter_keyiter ⟨_,e,rfl,rfl⟩ hQ
theorem Y8(d:Addr)(lo:(d==sysModules)=false)(es:Array DictEntry)(ep:Nat):PySem.W.KdlSrc P w "dict" d d es.size (fun i v=>∃ h:i<es.size,v=es[i].key) (fun h=>h.get? d=some { cls:=.type "dict",dict:=none,data:=.dict es ep,slots:=#[] }) where
 type:=fun s e=>⟨_,e,rfl⟩
 there:=fun h e=>⟨bD e,bD e⟩
 keep:=fun h h' e hk=>hk d (.inl rfl) _ e
 notList:=by decide
 notTuple:=by decide
 hint:=fun A E s Q e hq=>PySem.W.kdl_hint_dict ⟨_,e,rfl⟩ hq
 iter:=fun A s hh e=>⟨_,_,fun E Q hq=>Ua lo e hq,Ra hh _ d (dO (bD e)) es ep,⟨⟨_,iu _ rfl⟩,fu _ e⟩⟩
theorem Je{T:String}{r d:Addr}{n:Nat}{G:Nat->Value->Prop}{OK:Heap->Prop}{C:List Value->Shared->Prop}(S:PySem.W.KdlSrc P w T r d n G OK)(hh:A.handled=none)(ok:OK s.heap)(hz:n<=sizeLine)
  (fin:∀(hp:Heap)(tk:Nat)(got:Array Value),(∀ b o,s.heap.get? b=some o->hp.get? b=some o)->s.heap.objs.size<=hp.objs.size->ItemsOf G got n->C got.toList { s with heap:=hp,toks:=tk }):wpAny (model P w) A (collect (.ref r)) C E s:=by
 obtain⟨lr,ld⟩:=S.there _ ok;unfold collect;refine aO (wpAny_runValue (HD PySem.F.entry_proto_collect ?_));rw[GR PySem.F.plain_proto_collect _];show wpAny _ A.in1 (newList [] >>= fun q=>again (.builtin "list.__iadd__" ⟨[q,.ref r],[]⟩)) _ _ s;refine aO (wW (cF ⟨plainId_quiet Wy _,HD PySem.F.entry_list_iadd ?_⟩));rw[GR Wy _];have new:(s.heap.push { cls:=.type "list",data:=.seq ([]:List Value).toArray }).get? s.heap.objs.size=some { cls:=.type "list",data:=.seq #[] }:=iu _ rfl;have done:∀(hp:Heap)(tk:Nat)(got:Array Value)(c:Nat),(∀ b o,b≠s.heap.objs.size->(s.heap.push { cls:=.type "list",data:=.seq ([]:List Value).toArray }).get? b=some o->hp.get? b=some o)->hp.get? s.heap.objs.size=some { cls:=.type "list",dict:=none,data:=.seq got c,slots:=#[] }->ItemsOf G got n ->
   wpAny (model P w) A (load s.heap.objs.size >>= fun o=>match o.data with|.seq xs _=>pure xs.toList|_=>unsupported "internal:collect") C E { s with heap:=hp,toks:=tk }:=fun hp tk got c k1 k2 k3=>by
  refine aO (wpAny_load k2 (cF (fin hp tk got (fun b o e=>k1 b o (dO (bD e)) (fu _ e)) (HS (bD k2)) k3)))
 have go:=PySem.W.kdl_extend (A:=A) (s:={ s with heap:=s.heap.push { cls:=.type "list",data:=.seq ([]:List Value).toArray } })
  (R:=fun(x:Result)(s2:Shared)=>x=.ok (.ret (.ref s.heap.objs.size))/\wpAny (model P w) A (load s.heap.objs.size >>= fun o=>match o.data with|.seq xs _=>pure xs.toList|_=>unsupported "internal:collect") C E s2)
  S hh (S.keep _ _ ok fun b _ o e=>fu _ e) s.heap.objs.size (xG lr) (xG ld) (.ref s.heap.objs.size) 0 new (fun hp tk got c k1 k2 k3=>⟨rfl,done hp tk got c k1 k2 k3⟩) hz
 refine fX go (fun x s2 y=>?_) fun e s2 y=>?_
 ·cases x with
  |done f=>
   obtain⟨e,y⟩:=y;cases e;exact y
  |again c=>
   refine⟨y.1,BR y.2 fun q s3 z=>?_⟩;obtain⟨e,z⟩:=z;subst e;exact z
 ·exact absurd y.1 (by intro z;cases z)
end
open PySem.W
section
variable{X:Cx}
theorem a04{cs:List Cell}{n:Nat}{o:Array Nat}(hn:n=cs.length)(g:Good n o)(up:Ib fL (fun i=>cs.getD i (0,0)) o n):Asc (o.toList.map fun i=>cs.getD i (0,0)):=by
 unfold Asc;rw[Ca];intro i j hi hj hij;rw[aN,jk,g.size] at hi hj;have hle:=up.le rD (j-i) i (by lia);have e1:i+(j-i)=j:=by lia
 rw[e1] at hle;have hno:=pK hle;have sz:=g.size;have key:∀ k,(hk:k<n)->Ky (fun i=>cs.getD i (0,0)) o k=(o.toList.map fun i=>cs.getD i (0,0))[k]'(by rw[aN,jk,sz];exact hk):=fun k hk=>by
  unfold Ky;rw[NP,pJ,jK (by lia)];rfl
 rw[<- key i hi,<- key j hj];exact hno
theorem Jd{K:ao}{H:Hp}{f:Cell->V}:∀ {cs:List Cell} {ws:List (List Key×Addr×Value)},KT H (cs.map fun c=>(lF c,f c)) ws->aY K H (ws.map fun x=>V.ref x.2.1) (cs.map aA)
 |[],ws,h=>by cases h;exact .nil
 |c::cs,ws,h=>by
  cases h with
  |@cons p q ps qs hq t=>exact .cons (.tup (show H q.2.1=some (.tup [.int c.1,.int c.2]) from hq.2.1) (.cons (.int _) (.cons (.int _) .nil))) (Jd t)
theorem DR:∀(ws:List (List Key×Addr×Value)),Vals (ws.map fun x=>V.ref x.2.1) (ws.map fun x=>Value.ref x.2.1)
 |[]=>.nil
 |x::ws=>.cons rfl (DR ws)
def Vj(K:ao):List V->Hp->VK->Prop:=fun xs H Q=>∃(d:Addr)(cs:List Cell)(f:Cell->V),xs=[.ref d]/\H d=some (.dT (cs.map fun c=>(lF c,f c)))/\cs.length<64/\∀ l ws ds,H l=none->aY K H ws (ds.map aA)->ds.Perm cs->Asc ds->Q (.ref l) (upd H l (.lst ws))
theorem Kg(hc:X.calm=true)(hu:X.A.units+60<cLine):fB X (.builtin "sorted") (Vj X.K):=by
 intro pins s zzs H xs us Q I r h;obtain⟨d,cs,f,rfl,e,h64,q⟩:=h;obtain⟨u,rfl,ru⟩:=vals1 r;cases ru;obtain⟨z,lo,ws,rel,ob,es,ep,g1,g2,g3,g4,g5⟩:=Tj I.hok e;have g1':s.heap.get? d=some { cls:=.type "dict",dict:=none,data:=.dict es ep,slots:=#[] }:=by
  obtain⟨c1,c2,c3,c4⟩:=ob;obtain⟨a1,a2,a3⟩:=g2;dsimp only at a1 a2 a3 g3;subst a1 a2 a3 g3;exact g1
 have D:=Jd (K:=X.K) rel;have rv:=DR ws;have nw:es.size=ws.length:=size_of_entries g4;have hl:ws.length=cs.length:=by have:=D.length;rwa[aN,aN] at this
 have hz:es.size<=sizeLine:=by rw[mZ];lia
 refine Wu kind_sorted plain_sorted entry_sorted (args_sorted1 _) ?_;unfold Builtin.«sorted»;refine aO (m:=checkCount "sorted" 1 1 _) (cF (aO (Je (Y8 d lo es ep) (I.ok.hd hc) g1' hz fun hp tk got keep a3d items=>?_)));have eg:got.toList=ws.map fun x=>Value.ref x.2.1:=by
  refine Bs fun j=>?_
  rw[wU,cM];by_cases hj:j<es.size
  ·have hg:j<got.size:=by rw[items.1];exact hj
   obtain⟨_,ev⟩:=items.2 j got[j] (jK hg);rw[jK hg,ev];have hw:j<ws.length:=by lia
   have:es.toList[j]?=(ws.map (entryOfKey (tupleKind (fY X.prog X.w))))[j]? :=by rw[g4]
   rw[wU,jK hj,cM,gP hw] at this;rw[gP hw];have e2:=iy this;rw[e2];rfl
  ·rw[WL (by rw[items.1];lia),Bl (by lia)];rfl
 rw[eg];have lus:(ws.map fun x=>Value.ref x.2.1).length=cs.length:=by rw[aN,hl]
 have lvs:(ws.map fun x=>V.ref x.2.1).length=cs.length:=by rw[aN,hl]
 generalize hvs:(ws.map fun x=>V.ref x.2.1)=vs at D rv lvs;generalize hus:(ws.map fun x=>Value.ref x.2.1)=its at rv lus;have hz2:its.length<=sizeLine:=by rw[mZ];lia
 refine aO (wpAny_newList ?_ (by simpa using hz2));have at0:(hp.push (seqObj "list" its.toArray 0)).get? hp.objs.size=some (seqObj "list" its.toArray 0):=iu _ rfl;show wpAny _ _ _ _ _ { s with heap:=hp.push (seqObj "list" its.toArray 0),toks:=tk };refine aO (xr (NK slot_list_sort ⟨_,at0,rfl⟩ entry_list_sort (Ie (h0:=s.heap) rD (Qy I D rv) (by show X.A.units+1+1+2<cLine;lia) (Ik I D rv) hz2 at0 (fun b o eb=>⟨fu _ (keep b o eb),dO (bD (keep b o eb))⟩) fun o g up=>⟨_,rfl,cF ⟨_,rfl,?_⟩⟩) (args_list_sort _)));obtain⟨en,he⟩:=sortedHeap_at (vs:=its) (out:=(byP its o).toArray) at0;have hn:H hp.objs.size=none:=I.hok.fresh a3d;have bd:∀ i∈o.toList,i<vs.length:=fun i hi=>by rw[lvs,<- lus];exact cR.mp (g.perm.mem_iff.mp hi)
 have rv':Vals (o.toList.map fun i=>vs.getD i .non) (byP its o):=Gs rv o.toList bd;have dv:aY X.K H (o.toList.map fun i=>vs.getD i .non) ((o.toList.map fun i=>cs.getD i (0,0)).map aA):=by
  have:=Ou (d0:=aA (0,0)) D o.toList bd;have e1:(o.toList.map fun i=>(cs.map aA).getD i (aA (0,0)))=((o.toList.map fun i=>cs.getD i (0,0)).map aA):=by
   rw[nR];refine Hf fun i hi=>?_
   simp only[dj,cM,Function.comp];cases cs[i]?<;>rfl
  rw[<- e1];exact this
 have pc:(o.toList.map fun i=>cs.getD i (0,0)).Perm cs:=FT (by rw[<- lus];exact g.perm);have as:Asc (o.toList.map fun i=>cs.getD i (0,0)):=a04 (by omega) g up;have lo':(o.toList.map fun i=>vs.getD i .non).length<=sizeLine:=by
  rw[aN,jk,g.size];exact hz2
 refine⟨.ref hp.objs.size,upd H hp.objs.size (.lst (o.toList.map fun i=>vs.getD i .non)),I.laid (a:=hp.objs.size) (o:=.lst (o.toList.map fun i=>vs.getD i .non)) (t':=tk) (fun b o eb=>?_) a3d ⟨lo',byP its o,en,rv',he⟩,rfl,q _ _ _ hn dv pc as⟩;have eb':=keep b o eb;rw[sortedHeap_old (dO (bD eb')) (by rw[size_push'];exact wX (bD eb'))];exact fu _ eb'
theorem Y4{K:ao}(hc:X.calm=true)(hu:X.A.units+60<cLine)(hK:X.K=K:=by rfl):fB X (.builtin "sorted") (Vj K):=by subst hK;exact Kg hc hu
end
end L2
namespace L2
open PySem PySem.Spec PyProof.Rows
end L2
namespace L2
open PySem PySem.Spec PyProof.Rows PySem.SeqAt PySem.MeetsSeq PySem.MeetsSeq2 PySem.MeetsSeq3
open PySem.AutoSeq1 (wpAny_loadPart')
namespace SF
end SF
end L2
namespace L2
open PySem PySem.Spec PyProof.Rows PySem.SeqAt PySem.MeetsSeq PySem.MeetsSeq2 PySem.MeetsSeq3
open PySem.AutoSeq1 (wpAny_loadPart')
end L2
namespace L2
open PySem PySem.Spec PyProof.Rows PySem.W
end L2
namespace L2
open PySem PySem.Spec PyProof.Rows PySem.SeqAt PySem.MeetsSeq PySem.MeetsSeq2 PySem.MeetsSeq3
open PySem.AutoSeq1 (wpAny_loadPart')
theorem JG(A:Around)(s:Shared)(a:Int)(t:Tok)(c:Int)(u:Tok)(prog:Program)(w:World)(E:Value->Shared->Prop)(Q:Value->Shared->Prop)(h:Q (.bool (decide (a<c))) s):wpAny (model prog w) A (richCompare .Lt (.int a t) (.int c u)) Q E s:=
 (lt_int h:wpAny (model prog w) A (compareOp .Lt (.int a t) (.int c u)) Q E s)
theorem JF(A:Around)(s:Shared)(a:Int)(t:Tok)(c:Int)(u:Tok)(prog:Program)(w:World)(E:Value->Shared->Prop)(Q:Value->Shared->Prop)(h:Q (.bool (decide (c<a))) s):wpAny (model prog w) A (richCompare .Gt (.int a t) (.int c u)) Q E s:=
 (gt_int h:wpAny (model prog w) A (compareOp .Gt (.int a t) (.int c u)) Q E s)
theorem Ye(p q:Addr)(x1 x2 y1 y2:Int)(t1 t2 u1 u2:Tok)(n m:Nat)(d1 d2:Option Addr)(z1 z2:Array (Option Value)):Meets (Builtin.«tuple.__lt__» ⟨[.ref p,.ref q],[]⟩)
  (fun _ R s=>s.heap.get? p=some { cls:=.type "tuple",dict:=d1,data:=.seq #[.int x1 t1,.int x2 t2] n,slots:=z1 }/\s.heap.get? q=some { cls:=.type "tuple",dict:=d2,data:=.seq #[.int y1 u1,.int y2 u2] m,slots:=z2 }/\R (.ok (.ret (.bool (fL (x1,x2) (y1,y2))))) s):=
 .of_wp fun prog w A R s h=>by
  obtain⟨hp,g,d,tk,os⟩:=s;obtain⟨e1,e2,h⟩:=h;have f2:=MF;have k1:=fun(Q:Bool->Shared->Prop)(E:Value->Shared->Prop)(h:Q (x1==y1) ⟨hp,g,d,tk,os⟩)=>(qZ (t:=t1) (u:=u1) h:wpAny (model prog w) A.in1 (eqBool (.int x1 t1) (.int y1 u1)) Q E ⟨hp,g,d,tk,os⟩)
  have k2:=fun(Q:Bool->Shared->Prop)(E:Value->Shared->Prop)(h:Q (x2==y2) ⟨hp,g,d,tk,os⟩)=>(qZ (t:=t2) (u:=u2) h:wpAny (model prog w) A.in1 (eqBool (.int x2 t2) (.int y2 u2)) Q E ⟨hp,g,d,tk,os⟩)
  have r1:=JG A.in1 ⟨hp,g,d,tk,os⟩ x1 t1 y1 u1 prog w;have r2:=JG A.in1 ⟨hp,g,d,tk,os⟩ x2 t2 y2 u2 prog w;have out:∀ b:Bool,(b=true↔aV (x1,x2) (y1,y2))->R (.ok (.ret (.bool b))) ⟨hp,g,d,tk,os⟩:=fun b hb=>by
   have:b=fL (x1,x2) (y1,y2):=by
    unfold fL;by_cases hc:aV (x1,x2) (y1,y2)
    ·rw[bG hc];exact hb.mpr hc
    ·rw[bV hc];cases b
     ·rfl
     ·exact absurd (hb.mp rfl) hc
   rw[this];exact h
  wp_walk using wpAny_loadPart' e1,wpAny_loadPart' e2,k1,k2
  by_cases q1:x1=y1
  ·rw[show(x1==y1)=true from iM.mpr q1]
   wp_walk using k2
   by_cases q2:x2=y2
   ·rw[show(x2==y2)=true from iM.mpr q2]
    wp_walk
    refine⟨_,rfl,out _ ?_⟩;simp[Builtin.Tuple.tupleCompareSizes,aV,q1,q2]
   ·rw[show(x2==y2)=false from lX.mpr q2]
    wp_walk using r2
    refine⟨_,rfl,out _ ?_⟩;rw[iw];unfold aV;dsimp only;lia
  ·rw[show(x1==y1)=false from lX.mpr q1]
   wp_walk using r1
   refine⟨_,rfl,out _ ?_⟩;rw[iw];unfold aV;dsimp only;lia
theorem XJ(p q:Addr)(x1 x2 y1 y2:Int)(t1 t2 u1 u2:Tok)(n m:Nat)(d1 d2:Option Addr)(z1 z2:Array (Option Value)):Meets (Builtin.«tuple.__gt__» ⟨[.ref p,.ref q],[]⟩)
  (fun _ R s=>s.heap.get? p=some { cls:=.type "tuple",dict:=d1,data:=.seq #[.int x1 t1,.int x2 t2] n,slots:=z1 }/\s.heap.get? q=some { cls:=.type "tuple",dict:=d2,data:=.seq #[.int y1 u1,.int y2 u2] m,slots:=z2 }/\R (.ok (.ret (.bool (fL (y1,y2) (x1,x2))))) s):=
 .of_wp fun prog w A R s h=>by
  obtain⟨hp,g,d,tk,os⟩:=s;obtain⟨e1,e2,h⟩:=h;have f2:=MF;have k1:=fun(Q:Bool->Shared->Prop)(E:Value->Shared->Prop)(h:Q (x1==y1) ⟨hp,g,d,tk,os⟩)=>(qZ (t:=t1) (u:=u1) h:wpAny (model prog w) A.in1 (eqBool (.int x1 t1) (.int y1 u1)) Q E ⟨hp,g,d,tk,os⟩)
  have k2:=fun(Q:Bool->Shared->Prop)(E:Value->Shared->Prop)(h:Q (x2==y2) ⟨hp,g,d,tk,os⟩)=>(qZ (t:=t2) (u:=u2) h:wpAny (model prog w) A.in1 (eqBool (.int x2 t2) (.int y2 u2)) Q E ⟨hp,g,d,tk,os⟩)
  have r1:=JF A.in1 ⟨hp,g,d,tk,os⟩ x1 t1 y1 u1 prog w;have r2:=JF A.in1 ⟨hp,g,d,tk,os⟩ x2 t2 y2 u2 prog w;have out:∀ b:Bool,(b=true↔aV (y1,y2) (x1,x2))->R (.ok (.ret (.bool b))) ⟨hp,g,d,tk,os⟩:=fun b hb=>by
   have:b=fL (y1,y2) (x1,x2):=by
    unfold fL;by_cases hc:aV (y1,y2) (x1,x2)
    ·rw[bG hc];exact hb.mpr hc
    ·rw[bV hc];cases b
     ·rfl
     ·exact absurd (hb.mp rfl) hc
   rw[this];exact h
  wp_walk using wpAny_loadPart' e1,wpAny_loadPart' e2,k1,k2
  by_cases q1:x1=y1
  ·rw[show(x1==y1)=true from iM.mpr q1]
   wp_walk using k2
   by_cases q2:x2=y2
   ·rw[show(x2==y2)=true from iM.mpr q2]
    wp_walk
    refine⟨_,rfl,out _ ?_⟩;simp[Builtin.Tuple.tupleCompareSizes,aV,q1,q2]
   ·rw[show(x2==y2)=false from lX.mpr q2]
    wp_walk using r2
    refine⟨_,rfl,out _ ?_⟩;rw[iw];unfold aV;dsimp only;lia
  ·rw[show(x1==y1)=false from lX.mpr q1]
   wp_walk using r1
   refine⟨_,rfl,out _ ?_⟩;rw[iw];unfold aV;dsimp only;lia
section
variable{X:Cx}{K:ao}
def a2M(K:ao):R2:=fun x y H Q=>∃(a b:Cell),Den K H x (aA a)/\Den K H y (aA b)/\Q (.bl (fL b a)) H
theorem a0W(hu:X.A.units+60<cLine):OpR X (compareOp .Gt) (a2M X.K):=by
 intro pins s zzs H x y v u Q I rx ry h;obtain⟨a,b,da,db,q⟩:=h;obtain⟨p,o,t1,t2,n,rfl,e1,c1,f1⟩:=lE I da rx;obtain⟨p',o',u1,u2,m,rfl,e2,c2,f2⟩:=lE I db ry;obtain⟨oc,od,of,os⟩:=o;obtain⟨oc',od',of',os'⟩:=o';dsimp only at c1 f1 c2 f2;subst c1 f1 c2 f2;refine N6 (op:=.Gt) ⟨_,e1,rfl⟩ ⟨_,e2,rfl⟩ PySem.F.slot_tuple_gt PySem.F.entry_tuple_gt (PySem.F.args_tuple_gt_2 _ _) (XJ p p' a.1 a.2 b.1 b.2 t1 t2 u1 u2 n m od od' os os') ⟨e1,e2,?_⟩ (by lia);exact(show Value.bool (fL b a)≠Value.notImplemented/\EP X pins zzs Q (.bool (fL b a)) s from⟨(fun z=>nomatch z),⟨.bl (fL b a),H,I,rfl,q⟩⟩)
theorem a2t(hu:X.A.units+60<cLine)(hK:X.K=K:=by rfl):OpR X (compareOp .Gt) (a2M K):=by subst hK;exact a0W hu
end
def llt:List Cell->List Cell->Bool
 |[],[]=>false
 |[],_::_=>true
 |_::_,[]=>false
 |a::x,b::y=>if a=b then llt x y else fL a b
theorem uO:jH llt:=by
 refine⟨?_,?_,?_⟩
 ·intro a
  induction a with
  |nil=>intro b h;cases b<;>first|rfl|(cases h)
  |cons x a ih=>
   intro b h;cases b with
   |nil=>cases h
   |cons y b=>
    unfold llt at h ⊢;by_cases e:x=y
    ·rw[aK e] at h;rw[aK e.symm];exact ih b h
    ·rw[aJ e] at h;rw[aJ (ig e)];exact rD.Ih _ _ h
 ·intro a
  induction a with
  |nil=>intro b c _ h;cases c<;>first|rfl|skip;cases b<;>simp_all[llt]
  |cons x a ih=>
   intro b c h1 h2;cases b with
   |nil=>simp[llt] at h1
   |cons y b=>
    cases c with
    |nil=>simp[llt] at h2
    |cons z c=>
     unfold llt at h1 h2 ⊢;by_cases e1:y=x
     ·subst e1;rw[aK rfl] at h1;by_cases e2:z=y
      ·rw[aK e2] at h2 ⊢;exact ih b c h1 h2
      ·rw[aJ e2] at h2 ⊢;exact h2
     ·rw[aJ e1] at h1;by_cases e2:z=y
      ·subst e2;rw[aJ e1];exact h1
      ·rw[aJ e2] at h2;by_cases e3:z=x
       ·subst e3;exact absurd (rD.anti _ _ h1 h2) (by simpa using e1)
       ·rw[aJ e3];exact rD.tr _ _ _ h1 h2
 ·intro a
  induction a with
  |nil=>intro b h1 h2;cases b<;>simp_all[llt]
  |cons x a ih=>
   intro b h1 h2;cases b with
   |nil=>simp[llt] at h2
   |cons y b=>
    unfold llt at h1 h2;by_cases e:x=y
    ·rw[aK e] at h1;rw[aK e.symm] at h2;rw[e,ih b h1 h2]
    ·rw[aJ e] at h1;rw[aJ (ig e)] at h2;exact absurd (rD.anti _ _ h1 h2) e
def a03(A:Around)(s:Shared)(y x:Value)(b:Bool):Prop:=
 ∀(prog:Program)(w:World)(E:Value->Shared->Prop)(Q:Value->Shared->Prop),Q (.bool b) s->wpAny (model prog w) A (richCompare .Lt y x) Q E s
theorem Yd(l b:Addr)(xs ys:Array Value)(n m:Nat)(d1 d2:Option Addr)(z1 z2:Array (Option Value))(cs ds:List Cell)(hx:xs.size=cs.length)(hy:ys.size=ds.length)(k:Nat) :
  ∀ i:Nat,cs.length-i=k->i<=cs.length->i<=ds.length->Meets (Builtin.«list.__eq__.loop» ⟨[.ref l,.ref b,rawInt i,rawInt 0],[]⟩)
   (fun A R s=>s.heap.get? l=some { cls:=.type "list",dict:=d1,data:=.seq xs n,slots:=z1 }/\s.heap.get? b=some { cls:=.type "list",dict:=d2,data:=.seq ys m,slots:=z2 } /\
    (∀ j (h1:j<xs.size) (h2:j<ys.size) (h3:j<cs.length) (h4:j<ds.length),EqAt A.in1 s xs[j] ys[j] (decide (cs[j]=ds[j]))/\a03 A.in1 s xs[j] ys[j] (fL cs[j] ds[j])) /\
    R (.ok (.ret (.bool (llt (cs.drop i) (ds.drop i))))) s):=by
 have fin:∀ i,i<=cs.length->i<=ds.length->(i=cs.length\/i=ds.length)->llt (cs.drop i) (ds.drop i)=decide (xs.size<ys.size):=fun i i1 i2 ho=>by
  rw[hx,hy];by_cases e1:i=cs.length
  ·rw[N7 (by lia)];by_cases e2:i=ds.length
   ·rw[N7 (by lia),bV (by lia)];rfl
   ·rw[yw (by lia),bG (by lia)];rfl
  ·have e2:i=ds.length:=by lia
   rw[yw (by lia),N7 (l:=ds) (by lia),bV (by lia)];rfl
 induction k with
 |zero=>
  intro i hk i1 i2 prog w A R s h;obtain⟨hp,g,d,tk,os⟩:=s;obtain⟨hl,hb,he,h⟩:=h
  wp_walk using wpAny_loadPart' hl,wpAny_loadPart' hb
  have hi1:xs[((i:Nat):Int).toNat]?=none:=by simp;lia
  rw[hi1];rw[fin i i1 i2 (.inl (by lia))] at h;cases ys[((i:Nat):Int).toNat]?
  all_goals
   wp_walk using wpAny_loadPart' hl,wpAny_loadPart' hb
   exact h
 |succ k ih=>
  intro i hk i1 i2 prog w A R s h;obtain⟨hp,g,d,tk,os⟩:=s;obtain⟨hl,hb,he,h⟩:=h
  wp_walk using wpAny_loadPart' hl,wpAny_loadPart' hb
  have hi1:xs[((i:Nat):Int).toNat]?=some xs[i]:=by
   rw[jm];exact jK (by lia)
  by_cases e2:i=ds.length
  ·have hi2:ys[((i:Nat):Int).toNat]?=none:=by simp;lia
   rw[hi1,hi2];rw[fin i i1 i2 (.inr e2)] at h
   wp_walk using wpAny_loadPart' hl,wpAny_loadPart' hb
   exact h
  ·have hi2:ys[((i:Nat):Int).toNat]?=some ys[i]:=by
    rw[jm];exact jK (by lia)
   have hc:((i:Int)+1)=((i+1:Nat):Int):=by push_cast;rfl
   obtain⟨g1,g2⟩:=he i (by lia) (by lia) (by lia) (by lia);rw[hi1,hi2];rw[yw (by lia),yw (l:=ds) (by lia)] at h;unfold llt at h;refine aO (g1 prog w _ _ ?_);by_cases e3:cs[i]=ds[i]
   ·rw[aK e3] at h;rw[bG e3]
    wp_walk
    rw[hc];exact⟨plainId_quiet plain_eq_loop _,HD entry_eq_loop (by
     rw[GR plain_eq_loop _];exact ih (i+1) (by lia) (by lia) (by lia) prog w A R _ ⟨hl,hb,he,h⟩)⟩
   ·rw[aJ e3] at h;rw[bV e3]
    wp_walk using wpAny_loadPart' hl,wpAny_loadPart' hb
    rw[hi1,hi2];refine aO (g2 prog w _ _ ?_)
    wp_walk
    exact h
theorem Ud(l b:Addr)(xs ys:Array Value)(n m:Nat)(d1 d2:Option Addr)(z1 z2:Array (Option Value))(cs ds:List Cell)(hx:xs.size=cs.length)(hy:ys.size=ds.length):Meets (Builtin.«list.__lt__» ⟨[.ref l,.ref b],[]⟩)
   (fun A R s=>s.heap.get? l=some { cls:=.type "list",dict:=d1,data:=.seq xs n,slots:=z1 }/\s.heap.get? b=some { cls:=.type "list",dict:=d2,data:=.seq ys m,slots:=z2 } /\
    (∀ j (h1:j<xs.size) (h2:j<ys.size) (h3:j<cs.length) (h4:j<ds.length),EqAt A.in1 s xs[j] ys[j] (decide (cs[j]=ds[j]))/\a03 A.in1 s xs[j] ys[j] (fL cs[j] ds[j])) /\
    R (.ok (.ret (.bool (llt cs ds)))) s):=by
 intro prog w A R s h;obtain⟨hp,g,d,tk,os⟩:=s;obtain⟨hl,hb,he,h⟩:=h;have f3:=AutoSeq1.sub_list_list
 wp_walk using wpAny_loadPart' hl,wpAny_loadPart' hb
 exact⟨plainId_quiet plain_eq_loop _,HD entry_eq_loop (by
  rw[GR plain_eq_loop _];exact Yd l b xs ys n m d1 d2 z1 z2 cs ds hx hy _ 0 rfl (kj _) (kj _) prog w A R _ ⟨hl,hb,he,h⟩)⟩
end L2
namespace L2
open PySem PySem.Spec PyProof.Rows PySem.W PySem.SeqAt
structure lA(h:Heap)(u:Value)(c:Cell):Prop where
 ex:∃(a:Addr)(o:Obj)(t t':Tok)(n:Nat),u=.ref a/\h.get? a=some o/\o.cls=.type "tuple" /\ o.data=.seq #[.int c.1 t,.int c.2 t'] n
theorem lA.keep{h h':Heap}{u:Value}{c:Cell}(e:lA h u c)(k:Keeps h h'):lA h' u c:=by
 obtain⟨a,o,t,t',n,h1,h2,h3,h4⟩:=e.ex;exact⟨a,o,t,t',n,h1,k _ _ h2,h3,h4⟩
structure qd(h:Heap)(u:Value)(cs:List Cell):Prop where
 ex:∃(a:Addr)(o:Obj)(us:Array Value)(n:Nat),u=.ref a/\h.get? a=some o/\o.cls=.type "list" /\ o.data=.seq us n/\us.size=cs.length/\∀ j (h1:j<us.size) (h2:j<cs.length),lA h us[j] cs[j]
theorem qd.keep{h h':Heap}{u:Value}{cs:List Cell}(e:qd h u cs)(k:Keeps h h'):qd h' u cs:=by
 obtain⟨a,o,us,n,h1,h2,h3,h4,h5,h6⟩:=e.ex;exact⟨a,o,us,n,h1,k _ _ h2,h3,h4,h5,fun j g1 g2=>(h6 j g1 g2).keep k⟩
section
variable{A:Around}{s:Shared}
theorem QW{x y:Value}{c d:Cell}(hx:lA s.heap x c)(hy:lA s.heap y d)(hu:A.units<cLine):EqAt A s x y (decide (c=d)):=by
 obtain⟨a,o,t,t',n,rfl,h2,h3,h4⟩:=hx.ex;obtain⟨b,o',u,u',m,rfl,g2,g3,g4⟩:=hy.ex;by_cases e:a=b
 ·subst e;rw[h2] at g2;cases g2;rw[h4] at g4;have e1:c=d:=by
   injection g4 with g5 _;have g6:[Value.int c.1 t,Value.int c.2 t']=[Value.int d.1 u,Value.int d.2 u']:=congrArg Array.toList g5;injection g6 with a1 a2;injection a2 with a2 _;injection a1 with a1 _;injection a2 with a2 _;exact jh a1 a2
  rw[bG e1];exact EqAt.same _
 ·have key:=HY e (RcAt.tuples (e:=fun j=>if j=0 then c.1==d.1 else c.2==d.2) ⟨o,h2,h3,n,h4⟩ ⟨o',g2,g3,m,g4⟩ hu fun j j1 j2=>?_)
  ·have:((List.range (min (#[Value.int c.1 t,Value.int c.2 t']:Array Value).size (#[Value.int d.1 u,Value.int d.2 u']:Array Value).size)).all (fun j=>if j=0 then c.1==d.1 else c.2==d.2)&&(#[Value.int c.1 t,Value.int c.2 t']:Array Value).size==(#[Value.int d.1 u,Value.int d.2 u']:Array Value).size)=decide (c=d):=by
    show((List.range 2).all (fun j=>if j=0 then c.1==d.1 else c.2==d.2)&&true)=_;have:List.range 2=[0,1]:=rfl;rw[this];simp only[BP,List.all_nil,aK,O2];rw[sZ];simp[Prod.ext_iff]
   rw[this] at key;exact key
  ·match j,j1,j2 with
   |0,_,_=>exact fun prog w E Q h=>qZ h
   |1,_,_=>exact fun prog w E Q h=>qZ h
   |j+2,j1,_=>exact absurd j1 (by simp)
theorem Ri{x y:Value}{c d:Cell}(hx:lA s.heap x c)(hy:lA s.heap y d)(hu:A.units<cLine):a03 A s x y (fL c d):=by
 obtain⟨a,o,t,t',n,rfl,h2,h3,h4⟩:=hx.ex;obtain⟨b,o',u,u',m,rfl,g2,g3,g4⟩:=hy.ex;obtain⟨oc,od,of,os⟩:=o;obtain⟨oc',od',of',os'⟩:=o';dsimp only at h3 h4 g3 g4;subst h3 h4 g3 g4;intro prog w E Q q;refine N6 (op:=.Lt) ⟨_,h2,rfl⟩ ⟨_,g2,rfl⟩ PySem.F.slot_tuple_lt PySem.F.entry_tuple_lt (PySem.F.args_tuple_lt_2 _ _) (Ye a b c.1 c.2 d.1 d.2 t t' u u' n m od od' os os') ⟨h2,g2,?_⟩ hu;exact(show Value.bool (fL c d)≠Value.notImplemented/\Q (.bool (fL c d)) s from⟨(fun z=>nomatch z),q⟩)
theorem Ug{prog:Program}{w:World}{E:Value->Shared->Prop}{x y:Value}{cs ds:List Cell}(hx:qd s.heap x cs)(hy:qd s.heap y ds)(hu:A.units+2<cLine){Q:Bool->Shared->Prop}(q:Q (llt cs ds) s):wpAny (model prog w) A (keyLt' oneType' x y) Q E s:=by
 obtain⟨a,o,us,n,rfl,h2,h3,h4,h5,h6⟩:=hx.ex;obtain⟨b,o',vs,m,rfl,g2,g3,g4,g5,g6⟩:=hy.ex;obtain⟨oc,od,of,os⟩:=o;obtain⟨oc',od',of',os'⟩:=o';dsimp only at h3 h4 g3 g4;subst h3 h4 g3 g4;rw[keyLt'_oneType,oneLt'_eq];simp only[jT];refine aO (wpAny_cRoomFor (by lia) ?_);refine aO (wpAny_callSpecialIfBound?_slot (T:="list") ⟨_,h2,rfl⟩ WX (ur WX ⟨_,h2,rfl⟩ PySem.F.entry_list_lt (PySem.F.args_list_lt_2 _ _) (Ud a b us vs n m od od' os os' cs ds h5 g5) ⟨h2,g2,fun j j1 j2 j3 j4=>⟨QW (h6 j j1 j3) (g6 j j2 j4) (by show A.units+1<cLine;lia),Ri (h6 j j1 j3) (g6 j j2 j4) (by show A.units+1<cLine;lia)⟩,?_⟩));exact sX q
end
theorem M6{P:Program}{w:World}{h:Heap}{us:List Value}{rs:List (List Cell)}(hl:us.length=rs.length)(at_:∀ i,i<rs.length->qd h (us.getD i Value.none) (rs.getD i [])):O9 P w h us llt fun i=>rs.getD i []:=by
 refine⟨fun h2=>⟨oneType',fun A' E' s' Q' kp q=>?_,fun A' s' i j C hu kp hi hj hC=>?_⟩⟩
 ·refine kas_kind (T:=.type "list") h2 (fun v hv=>?_) (by decide) (by decide) q;obtain⟨i,hi,rfl⟩:=Nh.mp hv;have:=at_ i (by lia);rw[dj,gP hi] at this;obtain⟨a,o,us',n,e,h2,h3,_⟩:=this.ex;have e':us[i]=.ref a:=e;rw[e'];refine Looks.keeps ?_ kp;exact fun A Q E s k q=>wpAny_typeOf ⟨o,k _ _ h2,h3⟩ q
 ·exact Ug ((at_ i (by lia)).keep kp) ((at_ j (by lia)).keep kp) hu hC
abbrev Gb(cs:List Cell):Dt:=.lst (cs.map aA)
theorem lA.det{h:Heap}{u:Value}{c d:Cell}(x:lA h u c)(y:lA h u d):c=d:=by
 obtain⟨a,o,t,t',n,rfl,h2,h3,h4⟩:=x.ex;obtain⟨b,o',v,v',m,e,g2,g3,g4⟩:=y.ex;cases e;rw[h2] at g2;cases g2;rw[h4] at g4;injection g4 with g5 _;have g6:[Value.int c.1 t,Value.int c.2 t']=[Value.int d.1 v,Value.int d.2 v']:=congrArg Array.toList g5;injection g6 with a1 a2;injection a2 with a2 _;injection a1 with a1 _;injection a2 with a2 _;exact jh a1 a2
theorem qd.det{h:Heap}{u:Value}{cs ds:List Cell}(x:qd h u cs)(y:qd h u ds):cs=ds:=by
 obtain⟨a,o,us,n,rfl,h2,h3,h4,h5,h6⟩:=x.ex;obtain⟨b,o',vs,m,e,g2,g3,g4,g5,g6⟩:=y.ex;cases e;rw[h2] at g2;cases g2;rw[h4] at g4;injection g4 with g5' _;subst g5';refine List.ext_getElem (by lia) fun i i1 i2=>?_
 exact(h6 i (by lia) i1).det (g6 i (by lia) i2)
section
variable{X:Cx}
theorem Zb{pins:List (Addr×Obj)}{zzs:L2.St}{H:Hp}{s:Shared}{v:V}{u:Value}{cs:List Cell}(I:Inv X pins zzs H s)(d:Den X.K H v (Gb cs))(r:RelV v u):qd s.heap u cs:=by
 cases d with
 |@lst a xs _ h hs=>
  cases r;obtain⟨its,rv,⟨o,n,e1,e2,_,e3⟩,_⟩:=I.list h;have hl:its.length=cs.length:=by rw[<- rv.length,hs.length,aN]
  refine⟨a,o,its.toArray,n,rfl,e1,e2,e3,by simpa using hl,fun j j1 j2=>?_⟩;have jv:j<xs.length:=by rw[rv.length,hl];exact j2
  obtain⟨u',eu,ru⟩:=rv.get (show xs[j]?=some xs[j] from by simp[jv]);obtain⟨d',ed,dd⟩:=hs.get (show xs[j]?=some xs[j] from by simp[jv]);rw[cM,gP j2] at ed;cases ed;have e4:its.toArray[j]=u':=by
   rw[gP (by omega)] at eu;simpa using iy eu
  rw[e4];exact⟨lE I dd ru⟩
def Sh(rs:List (List Cell)):Prop:=rs.Pairwise fun a b=>llt b a=false
def Vk(K:ao):List V->Hp->VK->Prop:=fun xs H Q=>∃(p:Addr)(vs:List V)(rs:List (List Cell)),xs=[.ref p]/\SqL K H p vs/\aY K H vs (rs.map Gb)/\∀(l:Addr)(o:List Nat),H l=none->o.Perm (List.range vs.length)->Sh (o.map fun i=>rs.getD i [])->Q (.ref l) (upd H l (.lst (o.map fun i=>vs.getD i .non)))
theorem Kl(hu:X.A.units+60<cLine):fB X (.builtin "sorted") (Vk X.K):=by
 intro pins s zzs H xs us Q I r h;obtain⟨p,vs,rs,rfl,hS,D,q⟩:=h;obtain⟨u,rfl,ru⟩:=vals1 r;cases ru;obtain⟨its,rv,pl,hz⟩:=I.list hS;have hl:its.length=rs.length:=by rw[<- rv.length,D.length,aN]
 have hv:vs.length=its.length:=rv.length;have at_:∀ i,i<rs.length->qd s.heap (its.getD i Value.none) (rs.getD i []):=fun i hi=>by
  have hv':i<vs.length:=by lia
  obtain⟨u',eu,ru⟩:=rv.get (show vs[i]?=some vs[i] from by simp[hv']);obtain⟨d',ed,dd⟩:=D.get (show vs[i]?=some vs[i] from by simp[hv']);rw[cM,gP hi] at ed;cases ed;rw[dj,eu,dj,gP hi];exact Zb I dd ru
 have one:vO its fun i=>rs.getD i []:=fun i j hi hj e=>by
  have a1:=at_ i (by lia);have a2:=at_ j (by lia);rw[e] at a1;exact a1.det a2
 refine Ka uO one (by lia) (M6 hl at_) (by lia) pl.isList fun o g up=>?_
 obtain⟨e,he⟩:=sortedAll_at s.heap its (byP its o).toArray;have hn:H (s.heap.objs.size+1)=none:=I.hok.fresh (BW _);have bd:∀ i∈o.toList,i<vs.length:=fun i hi=>by rw[hv];exact cR.mp (g.perm.mem_iff.mp hi)
 have rv':Vals (o.toList.map fun i=>vs.getD i .non) (byP its o):=Gs rv o.toList bd;have pv:(o.toList.map fun i=>vs.getD i .non).Perm vs:=FT (by rw[hv];exact g.perm);have as:Sh (o.toList.map fun i=>rs.getD i []):=by
  unfold Sh;rw[Ca];intro i j hi hj hij;rw[aN,jk,g.size] at hi hj;have:=up.le uO (j-i) i (by lia);have e1:i+(j-i)=j:=by lia
  rw[e1] at this;have sz:=g.size;have a1:Ky (fun i=>rs.getD i []) o i=(o.toList.map fun i=>rs.getD i [])[i]:=by
   unfold Ky;rw[NP,pJ,jK (by lia)];rfl
  have a2:Ky (fun i=>rs.getD i []) o j=(o.toList.map fun i=>rs.getD i [])[j]:=by
   unfold Ky;rw[NP,pJ,jK (by lia)];rfl
  rw[<- a1,<- a2];exact this
 have hz':(o.toList.map fun i=>vs.getD i .non).length<=sizeLine:=by rw[pv.length_eq];exact hz
 exact⟨.ref (s.heap.objs.size+1),upd H (s.heap.objs.size+1) (.lst (o.toList.map fun i=>vs.getD i .non)),I.laid (a:=s.heap.objs.size+1) (o:=.lst (o.toList.map fun i=>vs.getD i .non)) (t':=s.toks) (fun b o q=>sortedAll_old q) (BW _) ⟨hz',byP its o,e,rv',he⟩,rfl,q _ _ hn (by rw[hv];exact g.perm) as⟩
theorem Y5{K:ao}(hu:X.A.units+60<cLine)(hK:X.K=K:=by rfl):fB X (.builtin "sorted") (Vk K):=by subst hK;exact Kl hu
theorem Oc{α:Type}{lt:α->α->Bool}(o:jH lt):∀ {xs ys:List α},xs.Perm ys->xs.Pairwise (fun a b=>lt b a=false)->ys.Pairwise (fun a b=>lt b a=false)->xs=ys
 |[],ys,p,_,_=>by rw[List.nil_perm.mp p]
 |x::xs,[],p,_,_=>absurd p.length_eq (by simp)
 |x::xs,y::ys,p,hx,hy=>by
  rw[sV] at hx hy;have e:x=y:=by
   have h1:x∈y::ys:=p.mem_iff.mp cU;have h2:y∈x::xs:=p.mem_iff.mpr cU;rcases bW.mp h1 with z|z
   ·exact z
   ·rcases bW.mp h2 with w|w
    ·exact w.symm
    ·exact o.anti _ _ (hy.1 x z) (hx.1 y w)
  subst e;rw[Oc o ((List.perm_cons x).mp p) hx.2 hy.2]
end
inductive iD{α:Type}(R:α->V->Hp->Prop)(H:Hp):List V->List α->Prop
 |nil:iD R H [] []
 |cons {v:V} {a:α} {vs:List V} {xs:List α} (h:R a v H) (t:iD R H vs xs):iD R H (v::vs) (a::xs)
section
variable{α β:Type}{R:α->V->Hp->Prop}{R2:β->V->Hp->Prop}{H H':Hp}
def CQ(R:α->V->Hp->Prop):Prop:=∀ a v H H',Same H H'->R a v H->R a v H'
theorem iD.mono(hR:CQ R)(s:Same H H'):∀ {vs:List V} {xs:List α},iD R H vs xs->iD R H' vs xs:=by
 intro vs xs h
 induction h with
 |nil=>exact .nil
 |cons h _ ih=>exact .cons (hR _ _ _ _ s h) ih
theorem iD.length:∀ {vs:List V} {xs:List α},iD R H vs xs->vs.length=xs.length
 |_,_,.nil=>rfl
 |_,_,.cons _ t=>by rw[dY,dY,t.length]
theorem iD.append:∀ {vs ws:List V} {xs ys:List α},iD R H vs xs->iD R H ws ys->iD R H (vs++ws) (xs++ys):=by
 intro vs ws xs ys h h2
 induction h with
 |nil=>exact h2
 |cons h _ ih=>exact .cons h ih
theorem iD.get:∀ {vs:List V} {xs:List α} {i:Nat} {v:V},iD R H vs xs->vs[i]?=some v->∃ a,xs[i]?=some a/\R a v H
 |_,_,i,v,.nil,h=>by simp at h
 |_,_,0,v,.cons h t,e=>by simp at e;exact⟨_,rfl,by rw[<- e];exact h⟩
 |_,_,i+1,v,.cons h t,e=>by simp at e;obtain⟨a,ea,r⟩:=t.get e;exact⟨a,by simpa using ea,r⟩
theorem iD.a3A{K:ao}{enc:α->Dt}(f:∀ a v,R a v H->Den K H v (enc a)):∀ {vs:List V} {xs:List α},iD R H vs xs->aY K H vs (xs.map enc):=by
 intro vs xs h
 induction h with
 |nil=>exact .nil
 |cons h _ ih=>exact .cons (f _ _ h) ih
theorem iD.by{d0:α}:∀ {vs:List V} {xs:List α} (o:List Nat),iD R H vs xs->(∀ i∈o,i<vs.length)->iD R H (o.map fun i=>vs.getD i .non) (o.map fun i=>xs.getD i d0)
 |vs,xs,[],_,_=>.nil
 |vs,xs,i::o,h,hb=>by
  have hi:=hb i cU;obtain⟨a,ea,r⟩:=h.get (gP hi);rw[dJ,dJ];refine .cons ?_ (h.by o fun j hj=>hb j (dI _ hj));rw[dj,dj,gP hi,ea];exact r
theorem Im{J:It}{vs:List V}{xs:List α}{tc:TT}{te:TE}{zzs:St}{fin:List V->Hp->Prop}(hR:CQ R)(hR2:CQ R2)(hJ:pY J H vs)(hx:iD R H vs xs)(hn:xs.length<=sizeLine)(p:α->Bool)(f:α->β)
  (ht:∀ a∈xs,∀ v H',Same H H'->R a v H'->∀ G:Bool->Hp->Prop,(∀ H'',Same H' H''->G (p a) H'')->tc (some v::zzs) H' G)
  (hf:∀ a∈xs,p a=true->∀ v H',Same H H'->R a v H'->∀ G:VK,(∀ y H'',Same H' H''->R2 (f a) y H''->G y H'')->te (some v::zzs) H' G)
  (hd:∀ ys H',Same H H'->iD R2 H' ys ((xs.filter p).map f)->fin ys H'):∃ W:Nat->Nat->List V->Hp->Prop,(∃ m,W 0 m [] H)/\m9 J tc te zzs fin W:=by
 have hlv:vs.length=xs.length:=hx.length;refine Om (n:=vs.length) (item:=fun i=>vs.getD i .non) (fun i ys H'=>Same H H'/\iD R2 H' ys (((xs.take i).filter p).map f)) (by rw[hlv];exact hn) (fun i ys H' hi r=>hJ.go H' i r.1 hi) (fun i ys H' v H'' hi r y=>?_) (fun ys H' r=>hJ.stop H' r.1)
  (fun i ys H' hi r=>?_) ⟨Same.refl _,.nil⟩ (fun i ys H' hi r G hG=>?_) (fun ys H' r=>?_)
 ·obtain⟨e,e'⟩:=hJ.yld H' i v H'' r.1 hi y;exact⟨by rw[dj,e];rfl,e'⟩
 ·rw[r.2.length,aN];exact cO (iJ _ _) (by rw[jX];exact Nat.min_le_left _ _)
 ·obtain⟨s1,D⟩:=r;have hi':i<xs.length:=by lia
  have ev:vs[i]?=some (vs.getD i .non):=by simp[dj,hi]
  obtain⟨d,ed,dv⟩:=hx.get ev;have ea:d=xs[i]:=by
   rw[gP hi'] at ed;exact(iy ed).symm
  subst ea;have tk:xs.take (i+1)=xs.take i++[xs[i]]:=by rw[iC,gP hi'];rfl
  refine ht xs[i] (lZ hi') _ H' s1 (hR _ _ _ _ s1 dv) _ fun H2 s2=>?_
  cases hp:p xs[i] with
  |false=>
   refine wu (hG _ _ ⟨s1.trans s2,?_⟩);rw[tk,sU,show List.filter p [xs[i]]=[] by simp[hp],qX];exact D.mono hR2 s2
  |true=>
   refine Cy (hf xs[i] (lZ hi') hp _ H2 (s1.trans s2) (hR _ _ _ _ (s1.trans s2) dv) _ fun y H3 s3 dy=>hG _ _ ⟨(s1.trans s2).trans s3,?_⟩);rw[tk,sU,show List.filter p [xs[i]]=[xs[i]] by simp[hp],dZ];exact(D.mono hR2 (s2.trans s3)).append (.cons dy .nil)
 ·rw[hlv,iK] at r;exact hd ys H' r.1 r.2
theorem vW{J:It}{vs:List V}{xs:List α}{te:TE}{zzs:St}{fin:List V->Hp->Prop}(hR:CQ R)(hR2:CQ R2)(hJ:pY J H vs)(hx:iD R H vs xs)(hn:xs.length<=sizeLine)(f:α->β)
  (hf:∀ a∈xs,∀ v H',Same H H'->R a v H'->∀ G:VK,(∀ y H'',Same H' H''->R2 (f a) y H''->G y H'')->te (some v::zzs) H' G)
  (hd:∀ ys H',Same H H'->iD R2 H' ys (xs.map f)->fin ys H'):∃ W:Nat->Nat->List V->Hp->Prop,(∃ m,W 0 m [] H)/\m9 J K4 te zzs fin W:=
 Im hR hR2 hJ hx hn (fun _=>true) f (fun a _ v H' _ _ G hG=>hG H' (Same.refl _)) (fun a ha _=>hf a ha) fun ys H' s D=>hd ys H' s (by rw[GZ.mpr (fun _ _=>rfl)] at D;exact D)
end
def del(q:Addr)(H:Hp):Hp:=fun b=>if b=q then none else H b
theorem qm{q b:Addr}{H:Hp}(n:b≠q):del q H b=H b:=aJ n
theorem IV{q:Addr}{H:Hp}:Same (del q H) H:=fun b o e=>by
 unfold del at e;by_cases h:b=q
 ·rw[aK h] at e;cases e
 ·rwa[aJ h] at e
theorem SameBut.del{q:Addr}{H H':Hp}(s:SameBut q H H'):Same (L2.del q H) (L2.del q H'):=fun b o e=>by
 by_cases h:b=q
 ·subst h;unfold L2.del at e;rw[aK rfl] at e;cases e
 ·rw[qm h] at e ⊢;exact s _ _ e h
section
variable{K:ao}{q:Addr}{H:Hp}{l:List V}
theorem Xo:SameBut q H (del q H):=fun b o e n=>by rw[qm n];exact e
theorem vX{p:Addr}{cs:List Cell}(hq:H q=some (.lst l))(n:p≠q)(h:Ls K H p (cs.map aA)):Ls K (del q H) p (cs.map aA):=Xo.ls hq n h
end
def m8(K:ao)(H0:Hp)(r:List Cell)(v:V)(H:Hp):Prop:=∃ a,v=.ref a/\H0 a=none/\Ls K H a (r.map aA)
theorem m8.stays{K:ao}{H0:Hp}:CQ (m8 K H0):=fun r v H H' s h=>by
 obtain⟨a,e,n,l⟩:=h;exact⟨a,e,n,l.mono s⟩
theorem m8.den{K:ao}{H0 H:Hp}{r:List Cell}{v:V}(h:m8 K H0 r v H):Den K H v (Gb r):=by
 obtain⟨a,rfl,n,l⟩:=h;exact l.den
theorem Qx{K:ao}{H:Hp}:∀ {vs:List V} {cs ds:List Cell},aY K H vs (cs.map aA)->aY K H vs (ds.map aA)->cs=ds:=by
 intro vs cs ds D D'
 induction cs generalizing vs ds with
 |nil=>cases D;cases ds with|nil=>rfl|cons _ _=>cases D'
 |cons c cs ih=>
  cases ds with
  |nil=>cases D';cases D
  |cons d ds=>
  cases D with
  |cons h t=>
  cases D' with
  |cons h' t'=>
  obtain⟨a,rfl,_,e⟩:=fK h;obtain⟨b,e1,_,e'⟩:=fK h';cases e1;rw[e] at e';injection e' with e';injection e' with e';injection e' with e1 e2;injection e2 with e2 _;injection e1 with e1;injection e2 with e2;rw[ih t t',show c=d from jh e1 e2]
theorem m8.det{K:ao}{H0 H:Hp}{r r':List Cell}{v:V}(h:m8 K H0 r v H)(h':m8 K H0 r' v H):r=r':=by
 obtain⟨a,rfl,n,xs,e,D⟩:=h;obtain⟨b,e1,n',xs',e',D'⟩:=h';cases e1;rw[e] at e';cases e';exact Qx D D'
section
variable{P:Program}{w:World}{K:ao}{mg:Str->Option Value}{base:Heap}{N:List Str}{qual:Str}{scope:Scope}{f:Addr}{cd:Value}{A:Around}{outer:List Env}{s0:Shared}{H0:Hp}{E:XK}
theorem PB:Passes (CXE P w) (pO (CXE P w) P w K mg base N qual scope f cd A outer s0 H0 E) E:=by
 rintro pins zzs H s e s' I ⟨ea,C,H',rfl,hos,hg,u2,hok,fly,hE⟩;obtain⟨B,t,fw,Bk⟩:=fly.fl;have a0m:∀ b,b∈frs (envOfC qual scope s0.heap.objs.size f cd::outer)->b=s0.heap.objs.size\/b∈frs outer:=fun b hb=>bW.mp (I.jA b hb)
 have sub:∀ b∈frs outer,b∈frs (envOfC qual scope s0.heap.objs.size f cd::outer):=fun b hb=>by
  obtain⟨x,hx,e⟩:=wV.mp hb;exact wV.mpr ⟨x,dI _ hx,e⟩
 show wpAny (model P w) (A.deeper (envOfC qual scope s0.heap.objs.size f cd)) (leaving (envOfC qual scope s0.heap.objs.size f cd) (.ref ea)) (fun _ s''=>CXE P w outer H0 s0 E (.ref ea) s'') (fun e' s''=>CXE P w outer H0 s0 E e' s'') s';refine wpAny_leaves_onW I.ok.frames rfl fw fun h' fw' sm=>?_
 have u1:Un (frs outer) [] H0 H s0.heap s.heap:=I.base;have u:Un (frs (envOfC qual scope s0.heap.objs.size f cd::outer)) [] H0 H' s0.heap s'.heap:=(u1.mono sub fun _ z=>z).trans u2;have nx:∀ b:Addr,b∉([]:List Addr):=fun b=>by simp
 have Rj:∀ b o,s0.heap.get? b=some o->b∉frs outer->b∉frs (envOfC qual scope s0.heap.objs.size f cd::outer):=fun b o q n hb=>by
  rcases a0m b hb with z|z
  ·exact dO (bD q) z
  ·exact n z
 have gV:∀ b o,s'.heap.get? b=some o->(H' b≠none\/∃ o',s.heap.get? b=some o')->b∉frs (envOfC qual scope s0.heap.objs.size f cd::outer)->h'.get? b=some o:=fun b o q hb n=>fw'.1 b o (Bk b o q hb n)
 have frm:∀ b,b∈frs (envOfC qual scope s0.heap.objs.size f cd::outer)->H' b=none/\∃ o,s'.heap.get? b=some o/\∀ ws,o.data≠.fields ws:=fun b hb=>by
  obtain⟨_,o,ho,hd⟩:=I.stack.mem hb;have hn:=I.rT b hb;obtain⟨sl,e2⟩:=u2.slot b o ho hn hb (nx b);exact⟨u2.free b o ho hn (nx b),_,e2,hd⟩
 refine⟨ea,C,H',rfl,hos.trans I.os,hg,⟨fun b o q n hb _=>?_,fun b o q n hb _=>?_,fun b o q n _=>u.free b o q n (nx b),fun b o q _=>?_,u.tups,u.pQ,u.qR⟩,fun a o q=>?_,⟨fly.free,?_,B,t,fw',fun b o q hb n=>?_⟩,hE⟩
 ·obtain⟨o1,e1⟩:=u1.there b o q (nx b);exact gV b o (u.keep b o q n (Rj b o q hb) (nx b)) (.inr ⟨o1,e1⟩) (Rj b o q hb)
 ·obtain⟨sl,e2⟩:=u.slot b o q n (sub b hb) (nx b);obtain⟨_,o2,eo,hd⟩:=frm b (sub b hb);rw[e2] at eo;cases eo;obtain⟨sl',e3⟩:=sm b _ e2 hd;exact⟨sl',e3⟩
 ·by_cases hb:b∈frs (envOfC qual scope s0.heap.objs.size f cd::outer)
  ·obtain⟨_,o2,eo,hd⟩:=frm b hb;obtain⟨sl',e3⟩:=sm b _ eo hd;exact⟨_,e3⟩
  ·obtain⟨o1,e1⟩:=u1.there b o q (nx b);obtain⟨o2,e2⟩:=u.there b o q (nx b);exact⟨o2,gV b o2 e2 (.inr ⟨o1,e1⟩) hb⟩
 ·refine(hok a o q).stay (fun b v hb z=>gV b v z (.inl ?_) ?_) (fun _ z=>z) fun _ _ z=>z
  ·rcases hb with rfl|hb
   ·rw[q];exact fun z=>by cases z
   ·rw[hb];exact fun z=>by cases z
  ·intro y;have:=(frm b y).1;rcases hb with rfl|hb
   ·rw[q] at this;cases this
   ·rw[hb] at this;cases this
 ·cases q:s0.heap.get? ea with
  |none=>rfl
  |some o=>
   obtain⟨ob,z⟩:=u1.there ea o q (nx ea);rw[fly.new] at z;cases z
 ·have key:∃ o',s'.heap.get? b=some o'/\(H' b≠none\/∃ o',s.heap.get? b=some o')/\b∉frs (envOfC qual scope s0.heap.objs.size f cd::outer):=by
   rcases hb with z|⟨o',z⟩
   ·cases r:H' b with
    |none=>exact absurd r z
    |some v=>
     obtain⟨ob,y⟩:=(hok b v r).there;exact⟨ob,y,.inl (fun z=>by cases z),fun hb=>by have:=(frm b hb).1;rw[r] at this;cases this⟩
   ·obtain⟨o1,e1⟩:=u1.there b o' z (nx b);obtain⟨o2,e2⟩:=u.there b o' z (nx b);exact⟨o2,e2,.inr ⟨o1,e1⟩,Rj b o' z n⟩
  obtain⟨o',y,h1,h2⟩:=key;have:=gV b o' y h1 h2;rw[q] at this;cases this;exact Bk b _ y h1 h2
end
section
variable{X:Cx}{e o i:Expr}{te to ti:TE}{pos tpos:Pos}
def ZC(K:ao):V->V->Hp->VK->Prop:=fun x y H Q=>∃ p xs,∃ j:Nat,∃ v,x=.ref p/\y=.int j/\SqL K H p xs/\xs[j]?=some v/\Q v H
theorem R3:a1W X (ZC X.K):=by
 intro pins s zzs H o i ov iv Q I ro ri h;obtain⟨p,xs,j,v,rfl,rfl,hq,hv,q⟩:=h;cases ro;obtain⟨t,rfl⟩:=ri;obtain⟨its,r,pl,hz⟩:=I.list hq;obtain⟨w,ew,rw'⟩:=r.get hv;have hl:=r.length;have hn:=tW;have hj:j<xs.length:=(iI.mp hv).1;exact wpAny_getItem_list pl.isList (Hr j) (by lia) (by simpa using ew) ⟨v,H,I,rw',q⟩
theorem Q5{K:ao}(ho:RE X o to)(hi:RE X i ti)(he:RE X e te)(ha:∀ ov iv new,augStore i ov iv new=(do holding [new,ov,iv] (setItem ov iv new);release [new,ov,iv] [];pure .next):=by intros;rfl)(hK:X.K=K:=by rfl) :
  RS X (.AugAssign (.Subscript o i tpos) .Add e pos) (ZV to ti te (ZC K) (ipI fun i j=>i+j) ZG):=by subst hK;exact⟨YM ho.ok hi.ok R3 he.ok a0q set_list ha⟩
end
end L2
namespace L2
open PySem PySem.Spec PyProof.Rows PySem.SeqAt
open PySem.AutoSeq1 (wpAny_loadPart')
end L2
namespace L2
open PySem PySem.Spec PyProof.Rows
def Tq(K:ao)(C C':Addr):Bool:=match K.lookup C with
 |some ⟨.type "type",_,.cls cd,_⟩=>cd.mro.contains (.ref C')
 |_=>false
section
variable{X:Cx}
def Wg(K:ao)(C':Addr)(ts:TS)(th:Addr->TS):Addr->TS:=fun C D zzs H=>
 (((C=C'\/Tq K C C'=true)/\jx K C)/\ts { nx:=fun _ _=>False,rt:=D.rt } zzs H)\/(C≠C'/\jx K C/\Ov K C C'=true/\th C D zzs H)
theorem YD{x:Str}{np hpos:Pos}{b₀:Stmt}{suite:List Stmt}{rest:List ExceptHandler}{C':Addr}{ts:TS}{th:Addr->TS}
  (hg:Gl X x) (hm:X.mg x=some (.ref C')) (c':jx X.K C') (hs:∀ ea,PSs (tQ X ea) (b₀::suite) ts) (hr:PH X rest th) (hd:(x==("__debug__" : Str))=false:=by decide) :
  PH X (.ExceptHandler (some (.Name x np)) none (b₀::suite) hpos::rest) (Wg X.K C' ts th):=by
 intro pins zzs H ea C s D a h;have I:=a.inv;refine wpAny_handleBy_cons (codeAny_handlers_test ?_) (by intro q;cases q);refine uN (X:=tQ X ea) (I.hand ea) hg hm ?_ hd;obtain⟨ob,hob,hcls⟩:=a.obj;obtain⟨tl',Na',nm',q',bs',a4g,sn',sub',ab',col',dd',k0',k1',k2',k3',k5',mN',hC',hN2,a4j,T'⟩:=c'.obj I.kIn;have hcB:(Value.ref C'::tl').contains (.type "BaseException")=true:=by rw[List.contains_cons,T'.hasType Gw.hasBase,Bool.or_true]
 have f:=tc_notTuple;rcases h with⟨⟨hit,c⟩,h⟩|⟨hne,c,hmiss,h⟩
 ·obtain⟨tl,Na,nm,q,bs,hdct,sn,sub,ab,col,dd,k0,k1,k2,k3,k5,mN,hC,hN',hni,T⟩:=c.obj I.kIn;obtain⟨hp,g,d,tk,os⟩:=s;have hit':(Value.ref C::tl).contains (.ref C')=true:=by
   rcases hit with rfl|hit
   ·simp
   unfold Tq at hit;split at hit
   ·rename_i dd2 cd2 sl2 ho;have e:=I.kIn _ _ ho;have e2:hp.get? C=some ⟨.type "type",dd2,.cls cd2,sl2⟩:=e;rw[hC] at e2;unfold excClassObj at e2;cases e2;simpa using hit
   ·cases hit
  have key:∀ Q:Bool->Shared->Prop,Q true ⟨hp,g,d,tk,os⟩->wpAny (model X.prog X.w) (tQ X ea).A (excMatches (.ref ea) (.ref C')) Q (notedBy (model X.prog X.w) (X.A.mark (some (.ref ea))) X.env (cameBackBy (model X.prog X.w) X.A X.env X.xe)) ⟨hp,g,d,tk,os⟩:=fun Q hq=>by
   unfold excMatches
   repeat (first|(with_reducible refine Hv hob ?_;rw[hcls])|with_reducible refine Hv hC' ?_|(with_reducible refine Hl hC' ?_;rw[hcB])|(with_reducible refine Hl hC ?_;rw[hit'])|wp_step)
   exact hq
  refine key _ ?_;show codeAny _ _ _ _ _;refine codeAny_handlers_suite (a.again fun h' a'=>?_);have J:=a'.inv.hand ea;refine fX (hs ea pins _ _ _ { nx:=fun _ _=>False,rt:=D.rt } J h) (fun f s3 q3=>?_) fun _ _ z=>False.elim z
  cases f with
  |next=>obtain⟨_,_,_,z⟩:=q3;exact False.elim z
  |brk=>obtain⟨_,_,_,z⟩:=q3;exact False.elim z
  |cont=>obtain⟨_,_,_,z⟩:=q3;exact False.elim z
  |ret u=>
   obtain⟨v,bJ,H'',J3,rv,q⟩:=q3;exact⟨v,bJ,H'',J3.a1O I.ok,rv,q⟩
 ·obtain⟨tl,Na,nm,q,bs,hdct,sn,sub,ab,col,dd,k0,k1,k2,k3,k5,mN,hC,hN',hni,T⟩:=c.obj I.kIn;obtain⟨hp,g,d,tk,os⟩:=s;have miss:(Value.ref C::tl).contains (.ref C')=false:=by
   unfold Ov at hmiss;split at hmiss
   ·rename_i dd2 cd2 sl2 ho;have e:=I.kIn _ _ ho;have e2:hp.get? C=some ⟨.type "type",dd2,.cls cd2,sl2⟩:=e;rw[hC] at e2;unfold excClassObj at e2;cases e2;simpa using hmiss
   ·cases hmiss
  have key:∀ Q:Bool->Shared->Prop,Q false ⟨hp,g,d,tk,os⟩->wpAny (model X.prog X.w) (tQ X ea).A (excMatches (.ref ea) (.ref C')) Q (notedBy (model X.prog X.w) (X.A.mark (some (.ref ea))) X.env (cameBackBy (model X.prog X.w) X.A X.env X.xe)) ⟨hp,g,d,tk,os⟩:=fun Q hq=>by
   unfold excMatches
   repeat (first|(with_reducible refine Hv hob ?_;rw[hcls])|with_reducible refine Hv hC' ?_|(with_reducible refine Hl hC' ?_;rw[hcB])|(with_reducible refine Hl hC ?_;rw[miss])|wp_step)
   exact hq
  refine key _ ?_;exact hr pins zzs H ea C _ D a h
theorem Z9{x:Str}{np hpos:Pos}{b₀:Stmt}{suite:List Stmt}{hrest:List ExceptHandler}{C':Addr}{ts:TS}{th:Addr->TS}(hg:Gl X x)(hm:X.mg x=some (.ref C'))(c':jx X.K C')(hs:∀ ea,RSs (tQ X ea) (b₀::suite) ts)(hr:RH X hrest th) (hd:(x==("__debug__" : Str))=false:=by decide) :
  RH X (.ExceptHandler (some (.Name x np)) none (b₀::suite) hpos::hrest) (Wg X.K C' ts th):=⟨YD hg hm c' (fun ea=>(hs ea).ok) hr.ok hd⟩
end
theorem funFrames_base{h base base':Heap}(hb:∀ a,base.get? a=none->base'.get? a=none):∀ {l:List Env},h.FunFrames base l->h.FunFrames base' l
 |[],_=>trivial
 |_::_,⟨hk,⟨L,o,hf,hn,ho,hd⟩,hr⟩=>⟨hk,⟨L,o,hf,hb L hn,ho,hd⟩,funFrames_base hb hr⟩
theorem rK{h:Heap}{a b:Addr}(e:h.get? b=none):(h.hide a).get? b=none:=by
 cases q:(h.hide a).get? b with
 |none=>rfl
 |some o=>rw[mY q] at e;cases e
theorem oK{h:Heap}{a b:Addr}{o:Obj}(e:(h.hide a).get? b=some o):b≠a:=fun z=>by
 rw[z,Heap.hide_self] at e;cases e
section
variable{M:Model}{A:Around}{E:Value->Shared->Prop}{s:Shared}{base:Heap}{env:Env}{outer l:List Env}{L e:Addr}{cls a0 fl:Value}{Q:Unit->Shared->Prop}
theorem Uo(hfr:A.frames=some (env::outer))(hf:env.frame=some L)(f1:base.StaysIn s.heap)(f2:base.get? e=none)(f3:s.heap.FunFrames base (env::outer))(f4:s.heap.TracedAtW base e cls a0 fl)
  (hQ:∀ h',Heap.HeldW base (env::outer) e cls a0 L h'->s.heap.UpToSlots h'->Q () { s with heap:=h' }):wpAny M A (noteFrame (.ref e) env) Q E s:=by
 by_cases hfl:fl=rawInt L
 ·subst hfl;exact wpAny_noteFrame_againW hf f4 (hQ s.heap ⟨f1,f2,f3,f4⟩ (Heap.UpToSlots.refl _))
 ·obtain⟨oe,vs,T,oT,ts,he,⟨hcls,h0⟩,hd,h1,hnT,hTe,hT,hdT,h3⟩:=f4;subst hcls;have i1:=(Mx.mp h1).1;have i3:=(Mx.mp h3).1;unfold noteFrame;simp only[hf];refine aO (I8 he hd h1 ?_);rw[aK (by simp:(Value.ref T != Value.none)=true)];refine aO (I8 hT hdT h3 ?_);rw[aJ (fun z=>hfl (iM.mp z))];refine aO (wpAny_setField hT hdT i3 ?_);have oth:∀ b,b≠T->(s.heap.update T (Obj.mapFields (·.setIfInBounds 3 Value.none))).get? b=s.heap.get? b:=fun b hb=>GD _ _ (ig hb)
  have Uq:∀ b o,s.heap.get? b=some o->(∀ vs,o.data≠.fields vs)->b≠T:=fun b o hb hn q=>by
   subst q;rw[hT] at hb;cases hb;exact hn _ hdT
  refine wpAny_entryW hfr (f3.of_keeps fun b o hb hn=>⟨o,(oth b (Uq b o hb hn)).trans hb,rfl⟩) hf ((oth e (ig hTe)).trans he) (fun b o hb=>(oth b fun q=>by rw[q,hnT] at hb;cases hb).trans (f1 b o hb)) f2 hd i1 h0 fun h' hN=>?_
  obtain⟨k1,k2,k3,k4⟩:=hN;exact hQ h' ⟨k1,f2,k2,k3⟩ fun b o hb hn=>k4 b o ((oth b (Uq b o hb hn)).trans hb) hn
theorem La{fr:Option Addr}(f1:base.StaysIn s.heap)(f3:s.heap.FunFrames base l)(f4:s.heap.TracedAtW base e cls a0 fl)
  (hQ:∀ h' fl',base.StaysIn h'->h'.FunFrames base l->h'.TracedAtW base e cls a0 fl'->s.heap.UpToSlots h'->Q () { s with heap:=h' }):wpAny M A (setFlight (.ref e) fr) Q E s:=by
 obtain⟨oe,vs,T,oT,ts,he,hcls,hd,h1,hnT,hTe,hT,hdT,h3⟩:=f4;have i3:=(Mx.mp h3).1;unfold setFlight;refine aO (I8 he hd h1 ?_);rw[aK (by simp:(Value.ref T != Value.none)=true)];refine wpAny_setField hT hdT i3 ?_;have oth:∀ b,b≠T->(s.heap.update T (Obj.mapFields (·.setIfInBounds 3 (fr.elim Value.none fun f=>rawInt f)))).get? b=s.heap.get? b:=fun b hb=>GD _ _ (ig hb)
 have Uq:∀ b o,s.heap.get? b=some o->(∀ vs,o.data≠.fields vs)->b≠T:=fun b o hb hn q=>by
  subst q;rw[hT] at hb;cases hb;exact hn _ hdT
 refine hQ _ (fr.elim Value.none fun f=>rawInt f) (fun b o hb=>(oth b fun q=>by rw[q,hnT] at hb;cases hb).trans (f1 b o hb)) (f3.of_keeps fun b o hb hn=>⟨o,(oth b (Uq b o hb hn)).trans hb,rfl⟩) ?_ fun b o hb hn=>⟨o.slots,(oth b (Uq b o hb hn)).trans hb⟩
 exact⟨oe,vs,T,_,_,(oth e (ig hTe)).trans he,hcls,hd,h1,hnT,hTe,N8 _ hT (Obj.isFreed_of_fields (Obj.data_mapFields hdT _)),Obj.data_mapFields hdT _,by simp[i3]⟩
end
section
variable{X:Cx}
theorem T9{pins:List (Addr×Obj)}{zzs:St}{H1:Hp}{s2 s1:Shared}{C:Addr}{ev acc:Value}{E:XK}{Q:Value->Shared->Prop}{Kh E1:Value->Shared->Prop}
  (hst:X.stack=X.env::X.outer) (hfr:X.env.frame=some X.env.locals) (I:Inv X pins zzs H1 s2) (fC:iR X pins H1 C) (hns:∃ m,s2.heap.Ns C m) (cx:CXE X.prog X.w X.stack H1 s2 E ev s1)
  (hK:∀ ea Cc H' s7,ev=.ref ea->E (.ref Cc) none H'->Air X pins zzs H' ea Cc s7->Kh ev s7) {R:Value->Shared->Prop} (hR:R=fun e s''=>compPost (model X.prog X.w) X.A (fun e s'=>wpAny (model X.prog X.w) X.A (noteFrame e X.env) (fun _ s₂=>wpAny (model X.prog X.w) X.A (setFlight e none) (fun _ s₃=>Kh e s₃) E1 s₂) E1 s') none Q acc C (.error e) s'') :
  wpAny (model X.prog X.w) X.A (noteFrame ev X.env) (fun _ s''=>R ev s'') R s1:=by
 subst hR;obtain⟨ea,Cc,H',rfl,os,bare,un,hok,fly,hE⟩:=cx;obtain⟨B,t,fl,KB⟩:=fly.fl;obtain⟨m,hm⟩:=hns;obtain⟨g0,g1,g2,g3,g4,g5⟩:=fC;obtain⟨oC,es,ep,hoC,hdC,hsC⟩:=id hm;have nst:C∉frs X.stack:=fun hb=>by
  rcases bW.mp (I.jA C hb) with z|z
  ·exact g1 z
  ·exact g2 z
 have nx:∀ b:Addr,b∉([]:List Addr):=fun b=>by simp
 have C1:s1.heap.get? C=some oC:=un.keep C oC hoC g0 nst (nx C);have CB:B.get? C=some oC:=KB C oC C1 (.inr ⟨oC,hoC⟩) nst;have HC:H' C=none:=un.free C oC hoC g0 (nx C);have m1:s1.heap.Ns C m:=⟨oC,es,ep,C1,hdC,hsC⟩
 have fl0:=fl;rw[hst] at fl0;refine wpAny_looks_onW (by rw[<- hst];exact I.ok.frames) hfr fl0 fun h4 held sm4=>?_
 refine⟨m,sm4.ns m1,fun h5 hsb cenv' _=>?_⟩;obtain⟨k1,k2,k3,oe,vs,T,oT,ts,he,hcls,hd,h1,hnT,hTe,hT,hdT,h3⟩:=held;have eC:ea≠C:=fun z=>by rw[z,CB] at k2;cases k2
 have TC:T≠C:=fun z=>by rw[z,CB] at hnT;cases hnT
 have b1:(B.hide C).StaysIn h5:=fun b o e=>(hsb.2 b (oK e)).trans (k1 b o (mY e))
 have b3:h5.FunFrames (B.hide C) (X.env::X.outer):=by
  refine funFrames_base (base:=B) (fun a z=>rK z) ?_;refine(PySem.W.funFrames_hideAll (as:=[C]) k3 (fun env he a ha z=>?_)).of_keeps fun b o e hn=>⟨o,?_,rfl⟩
  ·have:a=C:=by simpa using ha
   subst this;exact nst (by rw[hst];exact wV.mpr ⟨env,he,z⟩)
  ·have e':(h4.hide C).get? b=some o:=e;exact(hsb.2 b (oK e')).trans (mY e')
 have b4:h5.TracedAtW (B.hide C) ea (.ref Cc) (.ref t) (rawInt X.env.locals):=⟨oe,vs,T,oT,ts,(hsb.2 ea eC).trans he,hcls,hd,h1,rK hnT,hTe,(hsb.2 T TC).trans hT,hdT,h3⟩
 unfold PySem.passOn;refine aO (I8 ((hsb.2 ea eC).trans he) hd h1 ?_);rw[aJ (by simp:¬((Value.ref T==Value.none)=true))];refine aO (La (s:={ s1 with heap:=h5 }) b1 b3 b4 fun h6 fl' c1 c3 c4 sm6=>?_);refine wpAny_throw ?_;show wpAny _ _ _ _ _ _;refine Uo (s:={ s1 with heap:=h6 }) (by rw[<- hst];exact I.ok.frames) hfr c1 (rK k2) c3 c4 fun h7 a2o sm7=>?_
 refine wpAny_landsW a2o fun h8 fl8 sm8=>?_
 rw[<- hst] at fl8;have sm5:(s1.heap.hide C).UpToSlots h5:=fun b o e hn=>by
  obtain⟨sl,q⟩:=sm4 b o (mY e) hn;exact⟨sl,(hsb.2 b (oK e)).trans q⟩
 refine hK ea Cc H' _ rfl hE ⟨H1,{ s2 with heap:=s2.heap.hide C },{ s1 with heap:=s1.heap.hide C },B.hide C,t,I.turned (t':=s2.toks) (fun b o hb e=>(xJ _ hb).trans e) g0 g1 g3 g4 g5,os,?_,fun a o q=>?_,fun b o q hb n=>?_,fl8,((sm5.trans sm6).trans sm7).trans sm8,rfl,bare,rK fly.new,fly.free⟩
 ·refine⟨fun b o q n hb hx=>(xJ _ (oK q)).trans (un.keep b o (mY q) n hb hx),fun b o q n hb hx=>?_,fun b o q n hx=>un.free b o (mY q) n hx,fun b o q hx=>?_,un.tups,un.pQ,un.qR⟩
  ·obtain⟨sl,z⟩:=un.slot b o (mY q) n hb hx;exact⟨sl,(xJ _ (oK q)).trans z⟩
  ·obtain⟨o',z⟩:=un.there b o (mY q) hx;exact⟨o',(xJ _ (oK q)).trans z⟩
 ·refine(hok a o q).stay (fun b v hb z=>(xJ _ ?_).trans z) (fun _ z=>z) fun _ _ z=>z
  rintro rfl;rcases hb with rfl|hb
  ·rw[HC] at q;cases q
  ·rw[HC] at hb;cases hb
 ·refine(xJ _ (oK q)).trans (KB b o (mY q) ?_ n);rcases hb with z|⟨o',z⟩
  ·exact .inl z
  ·exact .inr ⟨o',mY z⟩
end
theorem Ck{prog:Program}{w:World}{A:Around}{R:Result->Shared->Prop}{s:Shared}{elt target iter:Expr}{ifs:List Expr}{scope:Scope}{pos:Pos}{it acc:Value}{env:Env}(XE:Value->Shared->Prop)
  (hXE:∀ e s',XE e s'->notedBy (model prog w) A env (fun e s'=>R (.error e) s') e s') (I:Nat->Shared->Prop)
  (turn:∀ n s,I n s->wpAny (model prog w) A (pyNext it) (fun r s₁=>match r with
   |none=>R (.ok .next) s₁
   |some v=>wpAny (model prog w) A (letOwnedTupleGo target it v) (fun _ s₁=>wpAny (model prog w) A (assign target env v) (fun _ s₂=>
     wpAny (model prog w) A (forIn ifs true fun c r=>if r=true then do let ok <- isTrue c env (eval c env);pure (ForInStep.yield ok) else pure (ForInStep.yield r)) (fun ok s₃=>
      if ok=true then wpAny (model prog w) A (eval elt env) (fun x s₄=>
       wpAny (model prog w) A (call (.builtin "list.append") [acc,x]) (fun _ s₅=>∃ m,m<n/\I m s₅) (fun _ _=>False) s₄) XE s₃
      else ∃ m,m<n/\I m s₃) XE s₂) (fun _ _=>False) s₁) (fun _ _=>False) s₁) (fun _ _=>False) s)
  (n:Nat) (h:I n s) :
  codeAny (model prog w) A (.compLoop (.ListComp elt [⟨target,iter,ifs,0⟩] scope pos) 0 it acc env) R s:=by
 refine codeAny_loop rfl I (fun n s hI=>?_) n h;show wpAny _ A ((compTurn (.ListComp elt [⟨target,iter,ifs,0⟩] scope pos) 0 it acc env).onRaise (fun x=>do noteFrame x env;theTreesLotGoes x)) _ _ s;refine wpAny_noted ?_;rw[compTurn_list];refine aO (BK (aO (fX (turn n s hI) (fun r s₁ h₁=>?_) fun _ _ h'=>h'.elim)));cases r with
 |none=>exact cF h₁
 |some v=>
  refine aO (fX h₁ (fun _ s₁ h₁=>?_) fun _ _ h'=>h'.elim);refine aO (fX h₁ (fun _ s₂ h₂=>aO (fX h₂ (fun ok s₃ h₃=>?_) hXE)) fun _ _ h'=>h'.elim);cases ok with
  |false=>exact cF ⟨rfl,h₃⟩
  |true=>
   exact aO (aO (fX h₃ (fun x s₄ h₄=>aO (fX h₄ (fun _ s₅ h₅=>cF (cF ⟨rfl,h₅⟩)) fun _ _ h'=>h'.elim)) hXE))
section
variable{X:Cx}
theorem KH{x:Str}{px pos:Pos}{scope:Scope}{elt iter:Expr}{ifs:List Expr}{tc:TT}{te:TE}{pins:List (Addr×Obj)}{zzs:St}{H₂:Hp}{s₃:Shared}{h₁:Heap}{tk:Nat}{it D:Addr}{fp:List Addr}{tn:Nat->Heap->Prop}{J:It}{fin:List V->Hp->Prop}
  {W:Nat->Nat->List V->Hp->Prop} {RR:Value->Addr->Result->Shared->Prop} {E:XK}
  (ok:vG scope X.env.scope X.N x) (hc:X.calm=true) (hif:∀ s H ex XE,tG ((dX X x scope s H ex).wish XE) ifs tc) (he:∀ s H ex XE,Passes (CXE X.prog X.w) ((dX X x scope s H ex).wish XE) E->PE ((dX X x scope s H ex).wish XE) elt te)
  (I3:Inv X pins zzs H₂ s₃) (T:Turn X.prog X.w X.K (.Name x px) J fp it tn) (st:tn 0 s₃.heap) (f2:∀ b∈fp,iR X pins H₂ b) (w0:∃ m,W 0 m [] H₂) (hW:m9 J tc te zzs fin W)
  (gJ:H₂ D=none) (fD:iR X pins H₂ D) (h0D:X.s₀.heap.objs.size<=D) (mz:s₃.heap.get? D=some { cls:=.type "list",dict:=none,data:=.seq ([]:List Value).toArray }) (Dfp:D∉fp)
  (hns₁:h₁.Ns s₃.heap.objs.size fun _=>none) (fO:∀ b o,s₃.heap.get? b=some o->h₁.get? b=some o)
  (hRR:∀ D C ys H' s',H' D=none->fin ys H'->Inv X pins zzs (upd H' D (.lst ys)) s'->iR X pins (upd H' D (.lst ys)) C->(∃ m,s'.heap.Ns C m)->RR (.ref D) C (.ok .next) s')
  (hRX:∀ D C H1 s2 e s',Inv X pins zzs H1 s2->iR X pins H1 C->(∃ m,s2.heap.Ns C m)->CXE X.prog X.w X.stack H1 s2 E e s'->wpAny (model X.prog X.w) X.A (noteFrame e X.env) (fun _ s''=>RR (.ref D) C (.error e) s'') (fun e s''=>RR (.ref D) C (.error e) s'') s') :
  codeAny (model X.prog X.w) X.A (.compLoop (.ListComp elt [⟨.Name x px,iter,ifs,0⟩] scope pos) 0 (.ref it) (.ref D) (compEnvC scope (bR scope.names X.env.cells []) s₃.heap.objs.size X.env)) (RR (.ref D) s₃.heap.objs.size) { s₃ with heap:=h₁,toks:=tk }:=by
 have Jc:∀ b∈fp,∃ o,s₃.heap.get? b=some o/\∀ v,o.data≠.cell v:=T.obj 0 s₃.heap st;have hex:∀ b∈D::fp,b<s₃.heap.objs.size/\b≠X.env.locals/\b∉X.fs/\H₂ b=none/\(b∈X.ex\/X.s₀.heap.objs.size<=b)/\(∀ y c,X.env.cells.lookup y=some c->c≠b):=fun b hb=>by
  rcases bW.mp hb with e|hb
  ·subst e;obtain⟨g0,g1,g2,g3,g4,g5⟩:=fD;exact⟨bD mz,g1,g2,g0,g3,g4⟩
  ·obtain⟨g0,g1,g2,g3,g4,g5⟩:=f2 b hb;obtain⟨o,eo,_⟩:=Jc b hb;exact⟨bD eo,g1,g2,g0,g3,g4⟩
 have I4:=Inv.wish (zL (ex:=D::fp) (tk:=tk) ok hc I3 hns₁ fO hex) (notedBy (model X.prog X.w) X.A (compEnvC scope (bR scope.names X.env.cells []) s₃.heap.objs.size X.env) fun e s'=>RR (.ref D) s₃.heap.objs.size (.error e) s');generalize hXE:(notedBy (model X.prog X.w) X.A (compEnvC scope (bR scope.names X.env.cells []) s₃.heap.objs.size X.env) fun e s'=>RR (.ref D) s₃.heap.objs.size (.error e) s')=XE at I4;generalize hY:(dX X x scope s₃ H₂ (D::fp)).wish XE=Y at I4;have jr:Y.prog=X.prog:=by rw[<- hY];rfl
 have Yw:Y.w=X.w:=by rw[<- hY];rfl
 have YK:Y.K=X.K:=by rw[<- hY];rfl
 have YA:Y.A=X.A:=by rw[<- hY];rfl
 have Yc:Y.calm=true:=by rw[<- hY];exact hc
 have YN:Y.N.Nodup:=by rw[<- hY];exact ok.nd
 have Y0:Y.N[0]?=some x:=by rw[<- hY];rfl
 have lD:Y.env=compEnvC scope (bR scope.names X.env.cells []) s₃.heap.objs.size X.env:=by rw[<- hY];rfl
 have Yx:Y.env.scope.names.lookup x=some .local:=by rw[lD];exact GP ok.own
 have Yfs:Y.fs=frs X.stack:=by rw[<- hY];rfl
 have Yex:Y.ex=D::fp:=by rw[<- hY];rfl
 have Ys0:Y.s₀=s₃:=by rw[<- hY];rfl
 have YH0:Y.H₀=H₂:=by rw[<- hY];rfl
 have Ypn:Y.pn=[]:=by rw[<- hY];rfl
 have Yxe:Y.xe=XE:=by rw[<- hY]
 have Yst:Y.stack=X.stack:=by rw[<- hY];rfl
 have around:∀ {Ed:List (Addr×Obj)} {bJ:St} {H':Hp} {s5:Shared},Inv Y Ed bJ H' s5->Inv X pins zzs H' s5:=fun {Ed bJ H' s5} J5=>by
  have un:Un (frs X.stack) (D::fp) H₂ H' s₃.heap s5.heap:=by
   have:=J5.base;rw[Yfs,Yex,YH0,Ys0] at this;exact this
  have U0:HOk X.prog X.w H' s5.heap:=by
   have:=J5.hok;rw[jr,Yw] at this;exact this
  have os5:s5.os=s₃.os:=by have:=J5.os;rw[Ys0] at this;exact this
  exact I3.call' os5 un U0 J5.bare fun b hb=>by
   rcases bW.mp hb with e|hb
   ·subst e;exact⟨fD.2.2.2.1,fD.2.1,fD.2.2.2.2.1,fD.2.2.2.2.2⟩
   ·obtain⟨g0,g1,g2,g3,g4,g5⟩:=f2 b hb;exact⟨g3,g1,g4,g5⟩
 have eL:Y.env.locals=s₃.heap.objs.size:=by rw[lD];rfl
 have hpY:Passes (CXE X.prog X.w) Y E:=fun Ed bJ H1 s2 e s' J cx=>by
  rw[Yst] at cx;obtain⟨mC,hnC,_⟩:=J.loc;have hCn:H1 s₃.heap.objs.size=none:=by have:=J.free;rw[eL] at this;exact this
  rw[Yxe,<- hXE];exact hRX D s₃.heap.objs.size H1 s2 e s' (around J) (I3.Cu (bK _) hCn) ⟨mC,by rw[<- eL];exact hnC⟩ cx
 have TY:tG Y ifs tc:=by rw[<- hY];exact hif _ _ _ _
 have he':PE Y elt te:=by rw[<- hY];rw[<- hY] at hpY;exact he _ _ _ _ hpY
 have Dne:D≠Y.env.locals:=by rw[lD];exact dO (bD mz)
 have Dfs:D∉Y.fs:=by
  rw[Yfs];intro hb;rcases bW.mp (I3.jA D hb) with z|z
  ·exact fD.2.1 z
  ·exact fD.2.2.1 z
 have I9:∀ y c,Y.env.cells.lookup y=some c->c≠D:=fun y c e=>by
  have hfree:∀ y∈scope.names,y.2=.free->∃ c,X.env.cells.lookup y.1=some c:=fun y hy e=>I3.ok.has y.1 (ok.free y hy e)
  rw[lD] at e;exact fD.2.2.2.2.1 y c (eX scope.names hfree (fun _ _ z=>by simp at z) e)
 have fpY:∀ {H':Hp} {pl:List (Addr×Obj)},(∀ b∈fp,H' b=none)->(∀ p∈pl,p.1∉fp)->∀ b∈fp,iR Y pl H' b:=fun {H' pl} hn hp b hb=>by
  obtain⟨g0,g1,g2,g3,g4,g5⟩:=f2 b hb;have hlt:=(hex b (dI _ hb)).1;refine⟨hn b hb,?_,?_,.inl (by rw[Yex];exact dI _ hb),fun y c e=>?_,fun p q z=>?_⟩
  ·rw[lD];exact dO hlt
  ·rw[Yfs];intro z;rcases bW.mp (I3.jA b z) with z|z
   ·exact g1 z
   ·exact g2 z
  ·have hfree:∀ y∈scope.names,y.2=.free->∃ c,X.env.cells.lookup y.1=some c:=fun y hy e=>I3.ok.has y.1 (ok.free y hy e)
   rw[lD] at e;exact g4 y c (eX scope.names hfree (fun _ _ z=>by simp at z) e)
  ·rw[Ypn,HB] at q;exact hp p q (by rw[z];exact hb)
 have DY:∀ {H':Hp},H' D=none->iR Y [] H' D:=fun {H'} hn=>⟨hn,Dne,Dfs,.inl (by rw[Yex];exact cU),I9,fun p q=>absurd (show p∈([]:List (Addr×Obj)) by rw[Ypn] at q;exact q) (by simp)⟩
 have Jv:∀ {bJ:St} {H':Hp} {s':Shared} {its:Array Value} {n:Nat},Inv Y [] bJ H' s'->H' D=none->s'.heap.get? D=some { cls:=.type "list",data:=.seq its n }->Inv Y [(D,{ cls:=.type "list",data:=.seq its n })] bJ H' s':=fun {bJ H' s' its n} J' hn e=>by
  refine J'.jf fun p hp=>?_
  have:p=(D,{ cls:=.type "list",data:=.seq its n }):=by simpa using hp
  subst this;exact⟨e,hn,Dne,Dfs,fun v z=>by
   have z':Data.seq its n=Data.cell v:=z;cases z'⟩
 rw[<- lD];obtain⟨m0,w0⟩:=w0;refine Ck XE (fun e s' z=>by rw[<- hXE] at z;rw[lD];exact z) (fun m s'=>∃ i ys kO H' its n,Inv Y [(D,{ cls:=.type "list",data:=.seq its n })] (kO::zzs) H' s'/\tn i s'.heap/\(∀ b∈fp,H' b=none)/\Vals ys its.toList/\W i m ys H') ?_ m0
  ⟨0,[],none,H₂,_,_,Jv I4 gJ (fO D _ mz),T.keep 0 _ _ st (fun b _ o e=>fO b o e),fun b hb=>(f2 b hb).1,.nil,w0⟩
 rintro m s' ⟨i,ys,kO,H',its,n,J',st',fr',rv,w'⟩;obtain⟨hle,hW'⟩:=hW i m ys H' w';have hDn:H' D=none:=(J'.pin (D,{ cls:=.type "list",data:=.seq its n }) (by simp)).2.1;have fpn:∀ p∈[((D,{ cls:=.type "list",data:=.seq its n }):Addr×Obj)],p.1∉fp:=fun p hp=>by
  have:p=(D,{ cls:=.type "list",data:=.seq its n }):=by simpa using hp
  subst this;exact Dfp
 rcases hW' with⟨stop,hf⟩|⟨go,step⟩
 ·
  have h9:=T.done Y jr Yw YK Yc i _ s' (kO::zzs) H' (fun _ _=>False) J' (fpY fr' fpn) st' stop;rw[YA] at h9;refine thn h9 fun r s5 zzy=>?_
  obtain⟨hr,J5⟩:=zzy;subst hr;show RR (.ref D) s₃.heap.objs.size (.ok .next) s5;have eD:=(J5.pin (D,{ cls:=.type "list",data:=.seq its n }) (by simp)).1;have I5:Inv X pins zzs H' s5:=around J5;have I6:Inv X pins zzs (upd H' D (.lst ys)) s5:=I5.track hDn h0D fD.2.1 fD.2.2.2.2.1 fD.2.2.2.2.2 ⟨hle,its.toList,n,rv,by simpa using eD⟩;obtain⟨mC,hnC,_⟩:=J5.loc;have hCn:H' s₃.heap.objs.size=none:=by have:=J5.free;rw[eL] at this;exact this
  refine hRR D s₃.heap.objs.size ys H' s5 hDn hf I6 ?_ ⟨mC,by rw[<- eL];exact hnC⟩;exact I3.Cu (bK _) (by rw[bF (xG (bD mz))];exact hCn)
 ·
  have h9:=T.item Y jr Yw YK Yc i _ s' (kO::zzs) H' (fun _ _=>False) J' (fpY fr' fpn) st' go;rw[YA] at h9;refine thn h9 fun r s5 zzy=>?_
  obtain⟨u,hr,h5⟩:=zzy;subst hr;refine thn h5 fun _ s6 zzy=>?_
  obtain⟨v,H6,J6,rv6,y6,st6,fr6⟩:=zzy;have a2m:H6 D=none:=(J6.pin (D,{ cls:=.type "list",data:=.seq its n }) (by simp)).2.1;have J6':=J6.pinned (fp:=fp) (fpY fr6 fpn) (T.obj _ _ st6);have hst:=step v H6 y6;refine Hs ?_;have a0n:∀ Q',(∀ s7,Inv Y ([(D,{ cls:=.type "list",data:=.seq its n })]++jN fp s6.heap) (some v::zzs) H6 s7->Q' () s7)->wpAny (model X.prog X.w) X.A (storeName Y.env x u) Q' (fun _ _=>False) s6:=fun Q' hQ'=>
   nP (i:=0) (zzs:=kO::zzs) J6' YN Y0 (.inl Yx) rv6 (fun s7 J7=>hQ' s7 J7) (.inr Yx)
  refine a0n _ fun s7 J7=>?_
  have h10:=TY _ s7 (some v::zzs) H6 _ J7 hst;rw[jr,Yw,YA,Yxe] at h10;refine thn h10 fun b s8 zzy=>?_
  obtain⟨H8,J8,q8⟩:=zzy;have again:∀ {s9:Shared} {H9:Hp} {ys':List V} {its':Array Value} {n':Nat},Inv Y [] (some v::zzs) H9 s9->(∀ b∈fp,H9 b=none/\∀ o,s6.heap.get? b=some o->s9.heap.get? b=some o)->H9 D=none ->
    s9.heap.get? D=some { cls:=.type "list",data:=.seq its' n' }->Vals ys' its'.toList->(∃ m',m'<m/\W (i+1) m' ys' H9) ->
    ∃ m',m'<m/\∃ i ys kO H' its n,Inv Y [(D,{ cls:=.type "list",data:=.seq its n })] (kO::zzs) H' s9/\tn i s9.heap/\(∀ b∈fp,H' b=none)/\Vals ys its.toList/\W i m' ys H':=fun {s9 H9 ys' its' n'} J9 Jb hD9 eD9 rv9 hw9=>by
   obtain⟨m',hm,w9⟩:=hw9;exact⟨m',hm,i+1,ys',some v,H9,its',n',Jv J9 hD9 eD9,T.keep _ _ _ st6 (fun b hb o e=>(Jb b hb).2 o e),fun b hb=>(Jb b hb).1,rv9,w9⟩
  have Jw:∀ {rz:St} {H9:Hp} {s9:Shared},Inv Y ([(D,{ cls:=.type "list",data:=.seq its n })]++jN fp s6.heap) rz H9 s9->∀ b∈fp,H9 b=none/\∀ o,s6.heap.get? b=some o->s9.heap.get? b=some o:=fun {rz H9 s9} J9 b hb=>by
   obtain⟨o,eo,_⟩:=T.obj _ _ st6 b hb;have p:=J9.pin (b,o) (gn _ (gn _ (lJ hb eo)));exact⟨p.2.1,fun o' e'=>by rw[eo] at e';cases e';exact p.1⟩
  have Jx:∀ {rz:St} {H9:Hp} {s9:Shared},Inv Y ([(D,{ cls:=.type "list",data:=.seq its n })]++jN fp s6.heap) rz H9 s9->s9.heap.get? D=some { cls:=.type "list",data:=.seq its n }/\H9 D=none:=fun {rz H9 s9} J9=>by
   have p:=J9.pin (D,{ cls:=.type "list",data:=.seq its n }) (gn _ (jj _ (by simp)));exact⟨p.1,p.2.1⟩
  cases b with
  |false=>
   show ∃ m',m'<m/\_;have q8':∃ m',m'<m/\W (i+1) m' ys H8:=q8;obtain⟨eD8,hD8⟩:=Jx J8;exact again (J8.jf fun p hp=>absurd hp (by simp)) (Jw J8) hD8 eD8 rv q8'
  |true=>
   show wpAny _ _ _ _ _ _;have q8':te (some v::zzs) H8 fun y H3=>∃ m',m'<m/\W (i+1) m' (ys++[y]) H3:=q8
   have h11:=he' _ s8 (some v::zzs) H8 _ J8 q8';rw[jr,Yw,YA,Yxe] at h11;refine thn h11 fun yv s9 zzy=>?_
   obtain⟨y,H9,J9,ry,q9⟩:=zzy;obtain⟨eD9,hD9⟩:=Jx J9;have hz:its.size<=sizeLine:=by have:=rv.length;simp only[jk] at this;lia
   refine MN (hsz:=hz) ⟨n,eD9⟩ fun h' hl' hsb'=>?_
   obtain⟨n',eD'⟩:=hl';have J9':Inv Y [] (some v::zzs) H9 s9:=J9.jf fun p hp=>absurd hp (by simp)
   obtain⟨g0,g1,g2,g3,g4,g5⟩:=DY hD9;have J10:Inv Y [] (some v::zzs) H9 { s9 with heap:=h' }:=J9'.turned (t':=s9.toks) (fun b o hb e=>Heap.SameBut.keeps hsb' hb e) g0 g1 g3 g4 g5;refine again J10 (fun b hb=>?_) hD9 eD' (by simpa using rv.append (Vals.Tc ry)) q9;have p9:=Jw J9 b hb;exact⟨p9.1,fun o e=>Heap.SameBut.keeps hsb' (fun z=>Dfp (z▸hb)) (p9.2 o e)⟩
theorem KC{x:Str}{px pos:Pos}{scope:Scope}{elt iter:Expr}{ifs:List Expr}{tc:TT}{te:TE}{pins:List (Addr×Obj)}{zzs:St}{H₂:Hp}{s₂:Shared}{it:Addr}{fp:List Addr}{tn:Nat->Heap->Prop}{J:It}{fin:List V->Hp->Prop}
  {W:Nat->Nat->List V->Hp->Prop} {RR:Value->Addr->Result->Shared->Prop} {E:Value->Shared->Prop} {Ek:XK}
  (ok:vG scope X.env.scope X.N x) (hc:X.calm=true) (hif:∀ s H ex XE,tG ((dX X x scope s H ex).wish XE) ifs tc) (he:∀ s H ex XE,Passes (CXE X.prog X.w) ((dX X x scope s H ex).wish XE) Ek->PE ((dX X x scope s H ex).wish XE) elt te)
  (I2:Inv X pins zzs H₂ s₂) (T:Turn X.prog X.w X.K (.Name x px) J fp it tn) (st:tn 0 s₂.heap) (f2:∀ b∈fp,iR X pins H₂ b) (w0:∃ m,W 0 m [] H₂) (hW:m9 J tc te zzs fin W)
  (hRR:∀ D C ys H' s',H' D=none->fin ys H'->Inv X pins zzs (upd H' D (.lst ys)) s'->iR X pins (upd H' D (.lst ys)) C->(∃ m,s'.heap.Ns C m)->RR (.ref D) C (.ok .next) s')
  (hRX:∀ D C H1 s2 e s',Inv X pins zzs H1 s2->iR X pins H1 C->(∃ m,s2.heap.Ns C m)->CXE X.prog X.w X.stack H1 s2 Ek e s'->wpAny (model X.prog X.w) X.A (noteFrame e X.env) (fun _ s''=>RR (.ref D) C (.error e) s'') (fun e s''=>RR (.ref D) C (.error e) s'') s') :
  wpAny (model X.prog X.w) X.A (newList []) (fun acc s₃=>wpAny (model X.prog X.w) X.A (newFunctionEnv scope X.env.globals (bR scope.names X.env.cells []) [] X.env.qual none .none (some X.env)) (fun cenv s₄=>
   codeAny (model X.prog X.w) X.A (.compStart (.ListComp elt [⟨.Name x px,iter,ifs,0⟩] scope pos) 0 (.ref it) acc { cenv with scope:=relabel scope X.env }) (RR acc cenv.locals) s₄) E s₃) E s₂:=by
 refine wW (Ng ok.wC (by intro y hy;simp at hy) (fun h₁ hns₁ hsb₁=>?_) ok.kind);have I3:Inv X pins zzs H₂ { s₂ with heap:=s₂.heap.push { cls:=.type "list",dict:=none,data:=.seq ([]:List Value).toArray } }:=I2.kept (t':=s₂.toks) fun b o e=>fu _ e
 have fO:∀ b o,(s₂.heap.push { cls:=.type "list",dict:=none,data:=.seq ([]:List Value).toArray }).get? b=some o->h₁.get? b=some o:=fun b o e=>Heap.SameBut.keeps hsb₁ (dO (bD e)) (fu _ e)
 have qt:∀ b o,s₂.heap.get? b=some o->(s₂.heap.push { cls:=.type "list",dict:=none,data:=.seq ([]:List Value).toArray }).get? b=some o:=fun b o e=>fu _ e
 have gJ:H₂ s₂.heap.objs.size=none:=I2.hok.fresh (bK _);have loop:=KH (RR:=RR) (s₃:={ s₂ with heap:=s₂.heap.push { cls:=.type "list",dict:=none,data:=.seq ([]:List Value).toArray } }) (h₁:=h₁) (tk:=s₂.toks+([]:List (Str×Value)).length) (iter:=iter) (pos:=pos)
  ok hc hif he I3 T (T.keep 0 _ _ st fun b _ o e=>qt b o e) f2 w0 hW gJ (I2.Cu (bK _) gJ) I2.sz (iu _ rfl) (fun hb=>by
   obtain⟨o,e,_⟩:=T.obj 0 _ st _ hb;exact kh _ (bD e)) (by simpa using hns₁) fO hRR hRX
 exact N5 loop (T.self _ 0 _ _ _ (T.keep 0 _ _ st fun b _ o e=>fO b o (qt b o e)) loop)
def a3k(wi:TI)(te:XK->TE)(th:Addr->TS):TS:=fun D zzs H=>wi zzs H fun J H1=>∃ W:Nat->Nat->List V->Hp->Prop,(∃ m,W 0 m [] H1) /\
 m9 J K4 (te fun c _ H'=>∃ C,c=.ref C/\th C D zzs H') zzs (fun ys H2=>∀ p,H2 p=none->D.rt (.ref p) (upd H2 p (.lst ys))) W
theorem Zc{x:Str}{px pos rpos tpos:Pos}{scope:Scope}{elt iter:Expr}{wi:TI}{te:XK->TE}{h₀:ExceptHandler}{hs:List ExceptHandler}{th:Addr->TS}(hst:X.stack=X.env::X.outer)(hfr:X.env.frame=some X.env.locals)
  (ok:tM scope X.env.scope X.N x=true) (hc:X.calm=true) (hi:RI X.nox (.Name x px) iter wi) (he:∀ s H ex XE E,Passes (CXE X.prog X.w) ((dX X x scope s H ex).wish XE) E->RE ((dX X x scope s H ex).wish XE) elt (te E))
  (hh:RH X (h₀::hs) th) (hs':∀ v,foldedSetIterable iter X.env v=pure v:=by intro _;rfl) :
  RS X (.Try [.Return (some (.ListComp elt [⟨.Name x px,iter,[],0⟩] scope pos)) rpos] (h₀::hs) [] [] tpos) (a3k wi te th):=by
 refine⟨fun pins s zzs H D I h=>?_⟩;have ok':=tO ok;have hfree:∀ y∈scope.names,y.2=.free->∃ c,X.env.cells.lookup y.1=some c:=fun y hy e=>I.ok.has y.1 (ok'.free y hy e)
 refine wpAny_Try_except ?_;refine Nx (wpAny_Return_some (fX (Q:=EP X pins zzs D.rt) ?_ (fun v s1 ⟨y,H1,I1,r1,q1⟩=>⟨y,zzs,H1,I1,r1,q1⟩) fun _ _ z=>z));rw[eval_ListComp];refine Gx (use:=none) rfl hs' (oF hfree) ok'.kind ok'.names (fX (hi.ok pins s zzs H _ (I.wish _) h) (fun v s1 h1=>fX h1 (fun itv s2 h2=>?_) fun _ _ z=>z.elim) fun _ _ z=>z.elim);obtain⟨it,fp,tn,J,H2,e,I2,T,st2,f2,W,w0,hW⟩:=h2;subst e;refine KC (RR:=fun acc C=>compPost (model X.prog X.w) X.A _ none (EP X pins zzs D.rt) acc C) (Ek:=fun c _ H'=>∃ C,c=.ref C/\th C D zzs H') ok' hc (fun _ _ _ _=>PL) (fun s H ex XE hp=>(he s H ex XE _ hp).ok) I2.lW T st2 f2 w0 hW (fun D C ys H' s' hD fin I' fC hm=>?_) fun D' C H1 s2 e s' I1 fC hm cx=>?_
 ·obtain⟨m,hm⟩:=hm;refine⟨m,hm,fun h' hsb=>?_⟩;obtain⟨g0,g1,g2,g3,g4,g5⟩:=fC;exact⟨.ref D,_,I'.turned (t':=s'.toks) (fun b o hb e=>Heap.SameBut.keeps hsb hb e) g0 g1 g3 g4 g5,rfl,fin D hD⟩
 ·refine T9 (R:=fun e s''=>_) hst hfr I1 fC hm cx (fun ea Cc H' s7 ee hE air=>?_) rfl;obtain⟨C',e2,ht⟩:=hE;cases e2;subst ee;exact hh.ok pins zzs H' ea Cc s7 D air ht
end
theorem qF(ns:List Int):∀ k,k<=ns.length->preSum (fun i=>ns.getD i 0) k=(ns.take k).sum
 |0,_=>rfl
 |k+1,h=>by
  show preSum (fun i=>ns.getD i 0) k+ns.getD k 0=_;have e:ns[k]?=some ns[k]:=gP (by lia);rw[qF ns k (by lia),iC,xq,dj,e];show _+ns[k]=_+(ns[k]+0);rw[pF]
theorem Mp:∀ {ns:List Int},(∀ x∈ns,0<=x)->0<=ns.sum
 |[],_=>O8 0
 |n::ns,h=>by
  have:=Mp fun x hx=>h x (dI _ hx)
  have:=h n cU;rw[tD];lia
section
variable{X:Cx}
def a2U(K:ao):List V->Hp->VK->Prop:=fun xs H Q=>∃(p:Addr)(ns:List Int),xs=[.ref p]/\SqL K H p (ns.map V.int)/\(∀ x∈ns,0<=x)/\ns.sum<2^63/\Q (.int ns.sum) H
theorem Qw(hc:X.calm=true):fB X (.builtin "sum") (a2U X.K):=by
 intro pins s zzs H xs us Q I r h;obtain⟨p,ns,rfl,hq,nn,lt,q⟩:=h;obtain⟨u,rfl,ru⟩:=vals1 r;cases ru;obtain⟨its,rv,pl,hz⟩:=I.list hq;have hl:its.length=ns.length:=by have:=rv.length;simpa using this.symm
 have item:∀(i:Nat)(v:Value),its[i]?=some v->∃ t,v=.int (ns.getD i 0) t:=fun i v e=>by
  have hi:i<ns.length:=by rw[<- hl];exact(iI.mp e).1
  have hx:(ns.map V.int)[i]?=some (V.int ns[i]):=by simp[hi]
  obtain⟨w',e',rw'⟩:=rv.get hx;rw[e] at e';cases e';have:ns.getD i 0=ns[i]:=by simp[dj,hi]
  rw[this];exact rw'
 have hne:p≠s.heap.objs.size:=fun z=>by
  obtain⟨o,n,e,_⟩:=pl;exact kh _ (z▸bD e)
 have pre:∀ k,k<=ns.length->0<=(ns.take k).sum/\(ns.take k).sum<=ns.sum:=fun k hk=>by
  have h1:0<=(ns.take k).sum:=Mp fun x hx=>nn x (yx hx)
  have h2:0<=(ns.drop k).sum:=Mp fun x hx=>nn x (Bo hx)
  have h3:(ns.take k).sum+(ns.drop k).sum=ns.sum:=by rw[<- xq,Ce]
  exact⟨h1,by lia⟩
 refine call_sum_walk (Nr pl.isList ?_);refine⟨s.heap.objs.size,[s.heap.objs.size,p],[s.heap.objs.size],its.toArray.size,fun i v=>its.toArray[i]?=some v,fun i h=>h.IsListIter s.heap.objs.size p i/\h.IsList p its.toArray,fun i=>ns.getD i 0,rfl,
  Walks.list (A:=X.A.in1) (I.ok.hd hc) _ p hne its.toArray,⟨⟨_,iu _ rfl,rfl,rfl⟩,pl.isList.at fun o e=>fu _ e⟩,fun b hb=>?_,fun i v hP=>item i v (by simpa using hP),fun j hj=>?_,fun h' tk t' kk=>?_⟩
 ·rcases bW.mp hb with rfl|hb
  ·exact bD (iu _ rfl)
  ·obtain⟨o,n,e,_⟩:=pl;rw[dU.mp hb];exact bD (fu _ e)
 ·have hj':j<ns.length:=by rw[<- hl];simpa using hj
  rw[qF ns (j+1) (by lia)];have p1:=pre (j+1) (by lia);have p0:=pre j (by lia);have e:ns.getD j 0=ns[j]:=by simp[dj,hj']
  have e1:(ns.take (j+1)).sum=(ns.take j).sum+ns[j]:=by
   rw[iC,xq,gP hj'];show _+(ns[j]+0)=_;rw[pF]
  have g:=nn ns[j] (lZ hj');show InLong (ns.getD j 0)/\_;rw[e];unfold InLong;lia
 ·have hb:preSum (fun i=>ns.getD i 0) its.toArray.size=ns.sum:=by
   rw[cN,hl,qF ns _ (bK _),iK]
  rw[hb];have I1:Inv X pins zzs H { s with heap:=h',toks:=tk }:=I.kept fun b o e=>kk b o (fun z=>by
   have z':b=s.heap.objs.size:=by simpa using z
   exact kh _ (z'▸bD e)) (fu _ e)
  exact⟨.int _,H,I1,⟨_,rfl⟩,q⟩
theorem a2u{K:ao}(hc:X.calm=true)(hK:X.K=K:=by rfl):fB X (.builtin "sum") (a2U K):=by subst hK;exact Qw hc
end
end L2
namespace My
abbrev zzR(a:PySem.Addr):Option L2.V:=some (.ref a)
abbrev zzI(n:Int):Option L2.V:=some (.int n)
abbrev zzN:Option L2.V:=none
open PySem L2
def top(i:Nat):Stmt:=PySem.Challenge.pw_dampfield_k14_whole_counts_together.main.body.getD i (.Pass ⟨0,0,0,0⟩)
abbrev Av:Stmt:=top 11
theorem RZ:aU ["row","width"] ["row","width"] (aH Av):=⟨rfl,rfl,rfl,by decide +kernel,rfl,by decide +kernel,by decide +kernel⟩
abbrev wK:Stmt:=top 12
theorem Mf:aU ["height","width"] ["height","width"] (aH wK):=⟨rfl,rfl,rfl,by decide +kernel,rfl,by decide +kernel,by decide +kernel⟩
abbrev wL:Stmt:=top 13
theorem Mh:aU ["rows"] ["rows"] (aH wL):=⟨rfl,rfl,rfl,by decide +kernel,rfl,by decide +kernel,by decide +kernel⟩
abbrev jP:Stmt:=inClass (top 14) 0
theorem wO:aU ["self","rows"] ["self","rows"] (aH jP):=⟨rfl,rfl,rfl,by decide +kernel,rfl,by decide +kernel,by decide +kernel⟩
abbrev u9:Stmt:=top 15
theorem JM:aU ["view","cell"] ["view","cell"] (aH u9):=⟨rfl,rfl,rfl,by decide +kernel,rfl,by decide +kernel,by decide +kernel⟩
abbrev qL:Stmt:=top 16
theorem Gi:aU ["view","cell"] ["view","cell"] (aH qL):=⟨rfl,rfl,rfl,by decide +kernel,rfl,by decide +kernel,by decide +kernel⟩
abbrev Ar:Stmt:=top 17
theorem RX:aU ["view","cell"] ["view","cell"] (aH Ar):=⟨rfl,rfl,rfl,by decide +kernel,rfl,by decide +kernel,by decide +kernel⟩
abbrev Gd:Stmt:=top 18
theorem uY:aU ["view","found","row","column"] ["view"] (aH Gd):=⟨rfl,rfl,rfl,by decide +kernel,rfl,by decide +kernel,by decide +kernel⟩
abbrev M9:Stmt:=top 19
theorem zf:aU ["view","cell","found","row","column"] ["view","cell"] (aH M9):=⟨rfl,rfl,rfl,by decide +kernel,rfl,by decide +kernel,by decide +kernel⟩
abbrev mW:Stmt:=top 20
theorem Ay:aU ["view","cell"] ["view","cell"] (aH mW):=⟨rfl,rfl,rfl,by decide +kernel,rfl,by decide +kernel,by decide +kernel⟩
abbrev qO:Stmt:=top 21
theorem Gj:aU ["view","cell"] ["view","cell"] (aH qO):=⟨rfl,rfl,rfl,by decide +kernel,rfl,by decide +kernel,by decide +kernel⟩
abbrev Aq:Stmt:=top 22
theorem RW:aU ["view"] ["view"] (aH Aq):=⟨rfl,rfl,rfl,by decide +kernel,rfl,by decide +kernel,by decide +kernel⟩
abbrev M8:Stmt:=top 23
theorem Zd:aU ["view"] ["view"] (aH M8):=⟨rfl,rfl,rfl,by decide +kernel,rfl,by decide +kernel,by decide +kernel⟩
abbrev VB:Stmt:=top 24
theorem a1F:aU ["view"] ["view"] (aH VB):=⟨rfl,rfl,rfl,by decide +kernel,rfl,by decide +kernel,by decide +kernel⟩
abbrev qM:Stmt:=top 25
theorem uZ:aU ["view","laying","place"] ["view","laying"] (aH qM):=⟨rfl,rfl,rfl,by decide +kernel,rfl,by decide +kernel,by decide +kernel⟩
abbrev mX:Stmt:=top 26
theorem Az:aU ["view","cell","laying"] ["view","cell","laying"] (aH mX):=⟨rfl,rfl,rfl,by decide +kernel,rfl,by decide +kernel,by decide +kernel⟩
abbrev Gg:Stmt:=top 27
theorem JN:aU ["view","laying","cell"] ["view","laying"] (aH Gg):=⟨rfl,rfl,rfl,by decide +kernel,rfl,by decide +kernel,by decide +kernel⟩
abbrev Aw:Stmt:=top 30
theorem lg:aU ["view","cell","found","waiting","member","teller","other"] ["view","cell"] (aH Aw):=⟨rfl,rfl,rfl,by decide +kernel,rfl,by decide +kernel,by decide +kernel⟩
abbrev Gh:Stmt:=top 31
theorem nM:aU ["view","found","placed","cell","part","member"] ["view"] (aH Gh):=⟨rfl,rfl,rfl,by decide +kernel,rfl,by decide +kernel,by decide +kernel⟩
abbrev wI:Stmt:=top 32
theorem lR:aU ["view","last","found","teller","around","behind"] ["view","last"] (aH wI):=⟨rfl,rfl,rfl,by decide +kernel,rfl,by decide +kernel,by decide +kernel⟩
abbrev uc:Stmt:=top 33
theorem qP:aU ["laying","asked","demand","stones"] ["laying","asked"] (aH uc):=⟨rfl,rfl,rfl,by decide +kernel,rfl,by decide +kernel,by decide +kernel⟩
abbrev wM:Stmt:=top 34
theorem iY:aU ["view","cell","part","begun","member","asked","both"] ["view","cell"] (aH wM):=⟨rfl,rfl,rfl,by decide +kernel,rfl,by decide +kernel,by decide +kernel⟩
abbrev wJ:Stmt:=top 35
theorem Ma:aU ["view","cell"] ["view","cell"] (aH wJ):=⟨rfl,rfl,rfl,by decide +kernel,rfl,by decide +kernel,by decide +kernel⟩
abbrev lQ:Stmt:=top 36
theorem pI:aU ["view","cell"] ["view"] (aH lQ):=⟨rfl,rfl,rfl,by decide +kernel,rfl,by decide +kernel,by decide +kernel⟩
abbrev wH:Stmt:=top 37
theorem p8:aU ["view","found","part","cell"] ["view"] (aH wH):=⟨rfl,rfl,rfl,by decide +kernel,rfl,by decide +kernel,by decide +kernel⟩
abbrev qK:Stmt:=top 39
theorem p7:aU ["choice","numbers","laying"] ["choice"] (aH qK):=⟨rfl,rfl,rfl,by decide +kernel,rfl,by decide +kernel,by decide +kernel⟩
abbrev wN:Stmt:=top 40
theorem pq:aU ["one","other","found","place","further"] ["one","other"] (aH wN):=⟨rfl,rfl,rfl,by decide +kernel,rfl,by decide +kernel,by decide +kernel⟩
abbrev qN:Stmt:=top 41
theorem kI:aU ["found","stones","numbers","choice"] ["found","stones"] (aH qN):=⟨rfl,rfl,rfl,by decide +kernel,rfl,by decide +kernel,by decide +kernel⟩
abbrev Gf:Stmt:=top 42
theorem VF:aU ["view","stones"] ["view","stones"] (aH Gf):=⟨rfl,rfl,rfl,by decide +kernel,rfl,by decide +kernel,by decide +kernel⟩
abbrev lN:Stmt:=top 44
theorem yK:aU ["script","k"] ["script","k"] (aH lN):=⟨rfl,rfl,rfl,by decide +kernel,rfl,by decide +kernel,by decide +kernel⟩
abbrev tZ:Stmt:=top 45
theorem mG:aU ["cell","k","many","some","stir"] ["cell","k","many"] (aH tZ):=⟨rfl,rfl,rfl,by decide +kernel,rfl,by decide +kernel,by decide +kernel⟩
abbrev qJ:Stmt:=top 46
theorem jg:aU ["height","width","cell","found","dr","dc","one"] ["height","width","cell"] (aH qJ):=⟨rfl,rfl,rfl,by decide +kernel,rfl,by decide +kernel,by decide +kernel⟩
abbrev oY:Stmt:=top 47
theorem CG:aU ["rows"] ["rows"] (aH oY):=⟨rfl,rfl,rfl,by decide +kernel,rfl,by decide +kernel,by decide +kernel⟩
abbrev oW:Stmt:=top 48
theorem jG:aU ["rows","signs","found","r"] ["rows","signs"] (aH oW):=⟨rfl,rfl,rfl,by decide +kernel,rfl,by decide +kernel,by decide +kernel⟩
abbrev jQ:Stmt:=top 49
theorem cW:aU ["script","most","cell","height","width","thin","stones","r","c"] ["script","most"] (aH jQ):=⟨rfl,rfl,rfl,by decide +kernel,rfl,by decide +kernel,by decide +kernel⟩
abbrev mU:Stmt:=top 50
theorem Ax:aU ["height","width","stones","cell"] ["height","width","stones","cell"] (aH mU):=⟨rfl,rfl,rfl,by decide +kernel,rfl,by decide +kernel,by decide +kernel⟩
abbrev oX:Stmt:=top 51
theorem gD:aU ["height","width","stones","known","rows","r","row","c"] ["height","width","stones","known"] (aH oX):=⟨rfl,rfl,rfl,by decide +kernel,rfl,by decide +kernel,by decide +kernel⟩
abbrev mV:Stmt:=top 52
theorem gY:aU ["height","width","stones","known","cell","found","at"] ["height","width","stones","known","cell"] (aH mV):=⟨rfl,rfl,rfl,by decide +kernel,rfl,by decide +kernel,by decide +kernel⟩
abbrev lO:Stmt:=top 53
theorem bN:aU ["script","most","steps","height","width","stones","known","free","r","k","left","cell"] ["script","most","steps"] (aH lO):=⟨rfl,rfl,rfl,by decide +kernel,rfl,by decide +kernel,by decide +kernel⟩
abbrev jR:Stmt:=top 54
theorem fP:aU ["script","rows","cell","r","c","sign","line"] ["script","rows"] (aH jR):=⟨rfl,rfl,rfl,by decide +kernel,rfl,by decide +kernel,by decide +kernel⟩
abbrev oZ:Stmt:=top 55
theorem CJ:aU ["view"] ["view"] (aH oZ):=⟨rfl,rfl,rfl,by decide +kernel,rfl,by decide +kernel,by decide +kernel⟩
abbrev VD:Stmt:=top 56
theorem gZ:aU ["script","rows","stones","view","some","due","part","cell","height","width","r","c","own"] ["script"] (aH VD):=⟨rfl,rfl,rfl,by decide +kernel,rfl,by decide +kernel,by decide +kernel⟩
structure Adr where
 FieldError:Addr
 BadView:Addr
 BadLaying:Addr
 NoCell:Addr
 TooGreat:Addr
 View:Addr
structure Txt(K:ao)(mg:Str->Option Value)(Z:Adr):Prop where
 Oe:mg "all" = none
 Ss:mg "int" = none
 cI:mg "len" = none
 Sv:mg "list" = none
 Sw:mg "max" = none
 Sx:mg "min" = none
 eG:mg "range" = none
 zA:mg "sorted" = none
 Zq:mg "str" = none
 Zr:mg "sum" = none
 j6:∃ t,mg "MOST_ROWS" = some (.int 6 t)
 fM:∃ t,mg "MOST_COLUMNS" = some (.int 6 t)
 gw:∃ t,mg "CLOSED_SIGN" = some (.str "#" t)
 rJ:∃ t,mg "SIGNS" = some (.str "#012345678" t)
 iz:∃ t,mg "MOST_CELLS" = some (.int 12 t)
 Ey:mg "FieldError" = some (.ref Z.FieldError)
 pC:jx K Z.FieldError
 Dg:mg "BadView" = some (.ref Z.BadView)
 rY:jx K Z.BadView
 xM:mg "BadLaying" = some (.ref Z.BadLaying)
 mJ:jx K Z.BadLaying
 zE:mg "NoCell" = some (.ref Z.NoCell)
 qW:jx K Z.NoCell
 tL:mg "TooGreat" = some (.ref Z.TooGreat)
 jC:jx K Z.TooGreat
 a09:mg "View" = some (.ref Z.View)
 gH:Cls K Z.View
 j7:oh K Z.View "rows"
 fj:oh K Z.View "height"
 fZ:oh K Z.View "width"
def Bc(K:ao):Sp:=fun vs H Q _=>∃(a:Addr)(ns:List Int)(k:Int),vs=[.ref a,.int k]/\0<=k/\SqL K H a (ns.map V.int)/\∀ r:Int,Q (.int r) H
def Qe:Sp:=fun vs H Q _=>∃(c k m:Int),vs=[.int c,.int k,.int m]/\0<m/\∀(r:Int)(H':Hp),0<=r->r<m->Same H H'->Q (.int r) H'
def Gm(K:ao):Sp:=fun vs H Q _=>∃(h w:Int)(v:V)(x:Cell),vs=[.int h,.int w,v]/\Den K H v (aA x)/\∀ p H',Fr K H H' p ((cJ h w x).map aA)->Q (.ref p) H'
def Qg(K:ao):Sp:=fun vs H Q _=>∃(p:Addr)(zs:List Str)(w:Nat),vs=[.ref p]/\SqL K H p (zs.map V.str)/\Rect zs w/\∀ t H',Same H H'->SqT K H' t [.int zs.length,.int w]->Q (.ref t) H'
def Q8(K:ao):Sp:=fun vs H Q _=>∃(p:Addr)(zs:List Str)(w:Nat)(sg:Str),vs=[.ref p,.str sg]/\SqL K H p (zs.map V.str)/\Rect zs w/\∀ q H',Fr K H H' q ((iT zs w sg).map aA)->Q (.ref q) H'
section
variable{P:Program}{w:World}{K:ao}{mg:Str->Option Value}{base:Heap}{Z:Adr}
theorem Yl{f:Addr}{fd:FuncData} (F:Fun K "_law_cell_at" "_law_cell_at" lN f fd) (T:Txt K mg Z):cH P w K mg base (CXE P w) 1 f fd ["script","k"] (Bc K):=by
 refine F.rok yK (fun vs H Q E h=>?_) (fun cdv A outer s H vs Q E hr h=>?_)
 ·obtain⟨a,ns,k,rfl,_⟩:=h;rfl
 ·obtain⟨a,ns,k,rfl,h0,hS,hq⟩:=h;refine⟨_,(aB (gM (c7 Ac (rv 1) (aQ (cQ (K:=K)) rfl T.cI bO (aj (rv 0) ak)) (dh _)) (aC (bf (dz (dw (K:=K)) (rv 0) (rv 1)))) cG) (aC (bf aG))),?_⟩;refine⟨_,rfl,_,rfl,.inl ⟨a,_,rfl,.inl hS,_,_,rfl,rfl,_,rfl,?_⟩⟩;refine Cw (fun hk=>?_) (fun _=>?_)
  ·have hk':k<ns.length:=by have:=dN hk;simp only[aN] at this;exact this
   obtain⟨v,e⟩:=Od h0 hk';exact⟨_,rfl,_,rfl,.inl ⟨a,_,_,_,rfl,rfl,hS,e,hq _⟩⟩
  ·exact hq 0
theorem a0P{f:Addr}{fd:FuncData} (F:Fun K "_law_mix" "_law_mix" tZ f fd) (T:Txt K mg Z):cH P w K mg base (CXE P w) 1 f fd ["cell","k","many"] Qe:=by
 refine F.rok mG (fun vs H Q E h=>?_) (fun cdv A outer s H vs Q E hr h=>?_)
 ·obtain⟨c,k,m,rfl,_⟩:=h;rfl
 ·obtain⟨c,k,m,rfl,hm,hq⟩:=h;refine⟨_,(aB (bx (i:=3) mG.nd rfl (Or.inl rfl) (dG (aj aG (aj aG (aj aG (aj aG (aj aG (aj aG (aj aG (aj aG (aj aG (aj aG (aj aG (aj aG (aj aG ak))))))))))))))) (aB (bx (i:=4) mG.nd rfl (Or.inl rfl) (cV bQ (cV bQ (cV jE (cV bQ (cV qD (rv 0) aG) aG) (dz (dw (K:=K)) (rv 3) (cV qD (rv 1) aG))) (cV jE aG (rv 1))) (cV jE aG (cV Pz (rv 1) aG)))) (aB (bx (i:=4) mG.nd rfl (Or.inl rfl) (cV qD (rv 4) aG)) (aC (bf (cV qD (cV Pz (cV qD (cV bQ (cV jE (rv 4) (rv 4)) (cV jE aG (rv 1))) aG) aG) (rv 2))))))),?_⟩;refine⟨by decide,fun p hp=>?_⟩;have b0:0<=c%2147483647:=Bx _ (by decide);have b1:c%2147483647<2147483647:=Br _ (by decide);obtain⟨v,e⟩:=Od (ns:=[48271,69621,16807,39373,30269,40014,40692,50021,61687,71993,83869,95561,30307]) (i:=k%13) (Bx _ (by decide)) (Br _ (by decide));refine⟨_,rfl,_,_,rfl,rfl,(by show(0:Int)<2147483647;decide),_,rfl,_,rfl,_,_,rfl,rfl,(by show(0:Int)<13;decide),.inl ⟨p,_,_,_,rfl,rfl,.of aD,e,.inl ⟨by lia,by lia⟩,?_⟩⟩;refine⟨_,rfl,.inl ⟨by lia,by lia⟩,?_⟩;refine⟨_,rfl,_,_,rfl,rfl,⟨by decide,by decide⟩,.inl ⟨by lia,by lia⟩,?_⟩;refine⟨_,rfl,_,_,rfl,rfl,(by show(0:Int)<1000000007;decide),?_⟩;refine⟨_,rfl,_,rfl,.inl ⟨by omega,by omega⟩,?_⟩;refine⟨_,rfl,.inl ⟨by lia,by lia⟩,?_⟩;refine⟨_,_,rfl,rfl,(by show(0:Int)<1000000007;decide),?_⟩;refine⟨_,_,rfl,rfl,⟨by decide,by decide⟩,?_⟩;refine⟨_,rfl,_,_,rfl,rfl,hm,?_⟩;exact hq _ _ (Bx _ (by lia)) (Br _ hm) (Same.put hp)
theorem Yo{f:Addr}{fd:FuncData} (F:Fun K "_law_near" "_law_near" qJ f fd) (T:Txt K mg Z):cH P w K mg base (CXE P w) 1 f fd ["height","width","cell"] (Gm K):=by
 refine F.rok jg (fun vs H Q E h=>?_) (fun cdv A outer s H vs Q E hr h=>?_)
 ·obtain⟨h,w,v,x,rfl,_⟩:=h;rfl
 ·obtain⟨h,w,v,x,rfl,dv,hq⟩:=h;refine⟨_,(aB (bx (i:=3) jg.nd rfl (Or.inl rfl) (dG ak)) (aB (cC eE rfl (bB (K:=K) (dG (aj (fV (aj (M4 ud aG) (aj (M4 ud aG) ak))) (aj (fV (aj (M4 ud aG) (aj aG ak))) (aj (fV (aj (M4 ud aG) (aj aG ak))) (aj (fV (aj aG (aj (M4 ud aG) ak))) (aj (fV (aj aG (aj aG ak))) (aj (fV (aj aG (aj (M4 ud aG) ak))) (aj (fV (aj aG (aj aG ak))) (aj (fV (aj aG (aj aG ak))) ak)))))))))) (Al rfl (gW (bC (i:=4) jg.nd rfl (Or.inl rfl)) (gW (bC (i:=5) jg.nd rfl (Or.inl rfl)) uU))) (aB (bx (i:=6) jg.nd rfl (Or.inl rfl) (fV (aj (cV bQ (dz (dw (K:=K)) (rv 2) aG) (rv 4)) (aj (cV bQ (dz (dw (K:=K)) (rv 2) aG) (rv 5)) ak)))) (aC (gM (RV (FZ (uW qC Ac aG (dz (dw (K:=K)) (rv 6) aG) (rv 0)) (yW (uW qC Ac aG (dz (dw (K:=K)) (rv 6) aG) (rv 1))))) (aC (jF (sG (K:=K) qY sO sS gB (rv 3) (aj (rv 6) ak)))) cG)))) (aC (bf (rv 3))))),?_⟩;refine aF (fun zzs H1=>∃ p,H p=none/\Same H H1/\H1 p=some (.lst [])/\zzs=[zzI h,zzI w,some v,zzR p,zzN,zzN,zzN]) (fun R hR=>?_) ?_
  ·exact⟨by decide,fun p hp=>hR _ _ ⟨p,hp,Same.put hp,aD,rfl⟩⟩
  rintro zzs H1 ⟨p,np,s1,hp,rfl⟩;refine aF (fun zzs H3=>∃ v4 v5 v6,Fr K H H3 p ((cJ h w x).map aA)/\zzs=[zzI h,zzI w,some v,zzR p,v4,v5,v6]) (fun R hR=>?_) ?_
  ·refine Tz ?_;refine j5 (K:=K) (-1) (-1) (fun _ q=>⟨_,rfl,q⟩) (fun _ q=>⟨_,rfl,q⟩) fun u1 G1 t1 d1=>?_
   refine j5 (K:=K) (-1) 0 (fun _ q=>⟨_,rfl,q⟩) (fun _ q=>q) fun u2 G2 t2 d2=>?_
   refine j5 (K:=K) (-1) 1 (fun _ q=>⟨_,rfl,q⟩) (fun _ q=>q) fun u3 G3 t3 d3=>?_
   refine j5 (K:=K) 0 (-1) (fun _ q=>q) (fun _ q=>⟨_,rfl,q⟩) fun u4 G4 t4 d4=>?_
   refine j5 (K:=K) 0 1 (fun _ q=>q) (fun _ q=>q) fun u5 G5 t5 d5=>?_
   refine j5 (K:=K) 1 (-1) (fun _ q=>q) (fun _ q=>⟨_,rfl,q⟩) fun u6 G6 t6 d6=>?_
   refine j5 (K:=K) 1 0 (fun _ q=>q) (fun _ q=>q) fun u7 G7 t7 d7=>?_
   refine j5 (K:=K) 1 1 (fun _ q=>q) (fun _ q=>q) fun u8 G8 t8 d8=>?_
   refine⟨sz rfl,fun q hq'=>?_⟩;have t9:=Same.put (o:=.lst [u1,u2,u3,u4,u5,u6,u7,u8]) hq';have D:aY K (upd G8 q (.lst [u1,u2,u3,u4,u5,u6,u7,u8])) [u1,u2,u3,u4,u5,u6,u7,u8] (offs.map aA):=by
    have r8:=t9;have r7:=t8.trans r8;have r6:=t7.trans r7;have r5:=t6.trans r6;have r4:=t5.trans r5;have r3:=t4.trans r4;have r2:=t3.trans r3;have r1:=t2.trans r2;exact .cons (d1.mono r1) (.cons (d2.mono r2) (.cons (d3.mono r3) (.cons (d4.mono r4) (.cons (d5.mono r5) (.cons (d6.mono r6) (.cons (d7.mono r7) (.cons (d8.mono r8) .nil)))))))
   have tA:=s1.trans (t1.trans (t2.trans (t3.trans (t4.trans (t5.trans (t6.trans (t7.trans (t8.trans t9))))))));have hp9:=(t1.trans (t2.trans (t3.trans (t4.trans (t5.trans (t6.trans (t7.trans (t8.trans t9)))))))) _ _ hp;have nqp:q≠p:=(bU ((t1.trans (t2.trans (t3.trans (t4.trans (t5.trans (t6.trans (t7.trans t8))))))) _ _ hp) hq').symm;refine⟨q,rfl,⟨_,SqL.of aD⟩,?_⟩;refine d9 (K:=K) (xs:=[u1,u2,u3,u4,u5,u6,u7,u8]) (fun i zzs H'=>∃ l v4 v5 v6,SameBut p (upd G8 q (.lst [u1,u2,u3,u4,u5,u6,u7,u8])) H'/\H' p=some (.lst l)/\aY K H' l ((((offs.take i).map fun d=>(x.1+d.1,x.2+d.2)).filter fun y=>decide (inF h w y)).map aA) /\
    zzs=[zzI h,zzI w,some v,zzR p,v4,v5,v6]) ⟨[],none,none,none,.refl _ _,hp9,.nil,rfl⟩ (fun i zzs H' _ hh=>?_) (fun i u zzs H' hu hh=>?_) (fun zzs H' hh=>?_)
   ·obtain⟨l,_,_,_,sb,_⟩:=hh;exact sb.seq aD nqp
   ·obtain⟨l,v4,v5,v6,sb,hl,Dl,rfl⟩:=hh;obtain⟨d,ed,du⟩:=D.get hu;rw[cM] at ed;obtain⟨o,eo,rfl⟩:=j9.mp ed;have dv':Den K H' v (aA x):=sb.cell hp9 (dv.mono tA);refine M5 (sb.cell hp9 du) ?_;refine⟨_,rfl,tX dv' ⟨_,rfl,_,rfl,tY dv' ⟨_,rfl,sz rfl,fun t ht=>?_⟩⟩⟩;have st:=Same.put (o:=.tup [V.int (x.1+o.1),V.int (x.2+o.2)]) ht;have d1':Den K (upd H' t (.tup [V.int (x.1+o.1),V.int (x.2+o.2)])) (.ref t) (aA (x.1+o.1,x.2+o.2)):=gk;have tk:offs.take (i+1)=offs.take i++[o]:=by rw[iC,eo];rfl
    have hll:l.length<=8:=by
     rw[Dl.length,aN];refine cO (iJ _ _) ?_;rw[aN,jX];exact Nat.min_le_right _ _
    have out:∀ b:Bool,b=decide (inF h w (x.1+o.1,x.2+o.2))->(((offs.take (i+1)).map fun d=>(x.1+d.1,x.2+d.2)).filter fun y=>decide (inF h w y))=(((offs.take i).map fun d=>(x.1+d.1,x.2+d.2)).filter fun y=>decide (inF h w y))++(if b=true then [(x.1+o.1,x.2+o.2)] else []):=by
     intro b hb;rw[tk,dZ,sU,hb];congr 1;by_cases hin:inF h w (x.1+o.1,x.2+o.2)<;>simp[hin]
    refine⟨_,rfl,tX d1' ⟨_,_,rfl,rfl,_,rfl,zF (m:=h) (fun _ q=>⟨_,rfl,q⟩) ?_⟩⟩;have a2j:¬inF h w (x.1+o.1,x.2+o.2)->∃ l v4 v5 v6,SameBut p (upd G8 q (.lst [u1,u2,u3,u4,u5,u6,u7,u8])) (upd H' t (.tup [V.int (x.1+o.1),V.int (x.2+o.2)]))/\(upd H' t (.tup [V.int (x.1+o.1),V.int (x.2+o.2)])) p=some (.lst l)/\aY K (upd H' t (.tup [V.int (x.1+o.1),V.int (x.2+o.2)])) l ((((offs.take (i+1)).map fun d=>(x.1+d.1,x.2+d.2)).filter fun y=>decide (inF h w y)).map aA) /\
      [zzI h,zzI w,some v,zzR p,zzI o.1,zzI o.2,zzR t]=[zzI h,zzI w,some v,zzR p,v4,v5,v6]:=fun hn=>by
     refine⟨l,_,_,_,sb.and ht,st _ _ hl,?_,rfl⟩;rw[out false (bV hn).symm];simpa using Dl.mono st
    refine gU (fun h1=>?_) (fun h1=>a2j fun hin=>by rw[bG hin.1] at h1;cases h1);refine⟨_,rfl,tY d1' ⟨_,_,rfl,rfl,_,rfl,zF (m:=w) (fun _ q=>⟨_,rfl,q⟩) ?_⟩⟩;refine gU (fun h2=>?_) (fun h2=>a2j fun hin=>by rw[bG hin.2] at h2;cases h2);refine⟨_,rfl,.inl ⟨rfl,_,SqL.of (st _ _ hl)⟩,_,rfl,p,l,_,rfl,rfl,st _ _ hl,ltl (by lia),?_⟩;refine⟨l++[.ref t],_,_,_,(sb.and ht).put,aD,?_,rfl⟩;rw[out true (bG ⟨dN h1,dN h2⟩).symm,dZ];exact((SameBut.refl p _).put.cells (st _ _ hl) (Dl.mono st)).append (.cons ((SameBut.refl p _).put.cell (st _ _ hl) d1') .nil)
   ·obtain⟨l,v4,v5,v6,sb,hl,Dl,rfl⟩:=hh;exact hR _ _ ⟨v4,v5,v6,⟨sb.of tA np,np,⟨l,hl,Dl⟩⟩,rfl⟩
  rintro zzs H3 ⟨v4,v5,v6,fr,rfl⟩;exact⟨_,rfl,hq p H3 fr⟩
theorem UL{f:Addr}{fd:FuncData} (F:Fun K "_law_sizes" "_law_sizes" oY f fd) (T:Txt K mg Z):cH P w K mg base (CXE P w) 1 f fd ["rows"] (Qg K):=by
 refine F.rok CG (fun vs H Q E h=>?_) (fun cdv A outer s H vs Q E hr h=>?_)
 ·obtain⟨p,zs,w,rfl,_⟩:=h;rfl
 ·obtain⟨p,zs,w,rfl,hS,rc,hq⟩:=h;obtain⟨z,zt,rfl,hz⟩:=rc.head;refine⟨_,(aC (bf (fV (aj (aQ (cQ (K:=K)) rfl T.cI bO (aj (rv 0) ak)) (aj (aQ (cQ (K:=K)) rfl T.cI bO (aj (dz (dw (K:=K)) (rv 0) aG) ak)) ak))))),?_⟩;have:=rc.w6;refine⟨_,rfl,.inl ⟨p,_,rfl,.inl hS,_,rfl,.inl ⟨p,_,_,_,rfl,rfl,hS,gQ,.inr ⟨z,rfl,small (by lia),sz rfl,fun t ht=>?_⟩⟩⟩⟩;refine hq t _ (Same.put ht) (SqT.of ?_);rw[aD,aN,hz]
end
def VP(K:ao):Sp:=fun vs H Q _=>∃(h w:Int)(p:Addr)(v:V)(st:List Cell)(x:Cell),vs=[.int h,.int w,.ref p,v]/\Den K H (.ref p) (.lst (st.map aA))/\Den K H v (aA x)/\∀ H',Same H H'->Q (.int (tR h w st x)) H'
def Q9(K:ao):Sp:=fun vs H Q _=>∃(a:Addr)(ns:List Int)(m:Int),vs=[.ref a,.int m]/\SqL K H a (ns.map V.int)/\1<=m/\m<=6/\∀(t p:Addr)(H':Hp)(h w:Nat)(st:List Cell),Same H H'->H p=none->SqT K H' t [.int h,.int w,.ref p]->Ls K H' p (st.map aA) ->
 1<=h->(h:Int)<=m->1<=w->(w:Int)<=m->st.Sublist (bH h w)->Q (.ref t) H'
section
variable{P:Program}{w:World}{K:ao}{mg:Str->Option Value}{base:Heap}{Z:Adr}
theorem Ut{f:Addr}{fd:FuncData} (F:Fun K "_law_cells" "_law_cells" oW f fd) (T:Txt K mg Z):cH P w K mg base (CXE P w) 1 f fd ["rows","signs"] (Q8 K):=by
 refine F.rok jG (fun vs H Q E h=>?_) (fun cdv A outer s H vs Q E hr h=>?_)
 ·obtain⟨p,zs,w,sg,rfl,_⟩:=h;rfl
 ·obtain⟨p,zs,w,sg,rfl,hS,rc,hq⟩:=h;have hu':=Cv hr;have b1:=rc.le;have b2:=rc.w6;refine⟨_,(aB (bx (i:=2) jG.nd rfl (Or.inl rfl) (dG ak)) (aB (cC eE rfl (dH rfl T.eG (aj (aQ (cQ (K:=K)) rfl T.cI bO (aj (rv 0) ak)) ak)) (bC (i:=3) jG.nd rfl (Or.inr rfl)) (aC (bx (i:=2) jG.nd rfl (Or.inl rfl) (cV bQ (rv 2) (iW (by rfl) rfl (dH rfl T.eG (aj (aQ (cQ (K:=K)) rfl T.cI bO (aj (dz (dw (K:=K)) (rv 0) aG) ak)) ak)) (fun _ _ _=>(gb (c7 (jy.or (zY (K:=K) hu')) (dz (dw (K:=K)) (dz (dw (K:=K)) (rv 1) (rv 4)) (rv 0)) (rv 2) (by rfl)))) (fun _ _ _=>(fV (aj (rv 4) (aj (rv 0) ak))))))))) (aC (bf (rv 2))))),?_⟩;refine aF (fun zzs H1=>∃ q,Fr K H H1 q []/\zzs=[zzR p,some (.str sg),zzR q,zzN]) (fun R hR=>?_) ?_
  ·exact⟨by decide,fun q hq'=>hR _ _ ⟨q,⟨Same.put hq',hq',.new hq' .nil⟩,rfl⟩⟩
  rintro zzs H1 ⟨q,fr,rfl⟩;refine aF (fun zzs H3=>∃ q v3,Fr K H H3 q ((iT zs w sg).map aA)/\zzs=[zzR p,some (.str sg),zzR q,v3]) (fun R hR=>?_) ?_
  ·refine⟨_,rfl,.inl ⟨p,_,rfl,.inl (fr.same.seq hS),_,rfl,?_⟩⟩;rw[aN];refine⟨by lia,by lia,?_⟩;refine dD (lo:=0) (n:=((zs.length:Nat):Int).toNat) (fun i zzs H'=>∃ q v3,Fr K H H' q ((vU zs w sg i).map aA)/\zzs=[zzR p,some (.str sg),zzR q,v3]) ⟨q,none,fr,rfl⟩ (fun i zzs H' hi hh=>?_) (fun zzs H' hh=>?_)
   ·obtain⟨q,v3,fr,rfl⟩:=hh;have hi':i<zs.length:=by lia
    have S':=fr.same.seq hS;obtain⟨z,zt,ez,hz⟩:=rc.head;refine⟨_,rfl,_,rfl,.inl ⟨p,_,_,_,rfl,rfl,S',(by rw[ez];exact gQ),.inr ⟨z,rfl,small (by lia),_,rfl,by lia,by lia,?_⟩⟩⟩;rw[hz,jm];refine eF (K:=K) (xs:=List.range w) (enc:=fun c:Nat=>Dt.int (c:Int)) (mF w) (aY.nats _) (by rw[jo];exact small (by lia)) (fun c=>inS sg (codeAt zs (i,c))) (fun c:Nat=>aA ((i:Int),(c:Int))) (fun c hc v H2 s2 D G hG=>?_) (fun c hc _ v H2 s2 D G hG=>?_) (fun ys H2 s2 D q2 hq2=>?_)
    ·cases D;rw[cR] at hc;have S2:=s2.seq S';refine⟨_,rfl,_,rfl,?_⟩;rw[nT];exact G9 S2 hi' ⟨_,rfl,yX S2 rc hi' hc ⟨_,rfl,.inl ⟨_,_,rfl,rfl,_,rfl,hG _ (Same.refl _)⟩⟩⟩
    ·cases D;refine⟨_,rfl,_,rfl,sz rfl,fun t ht=>hG _ _ (Same.put ht) ?_⟩;rw[nT];exact gk
    ·have l1:=Km zs w sg i;have l2:((List.range w).filter fun c=>inS sg (codeAt zs (i,c))).length<=w:=cO (iJ _ _) (by rw[jo];exact bK _);have l3:i*w<=6*6:=jZ (by lia) b2;have sq:=Same.put (o:=.lst ys) hq2;refine Ai (fr.ls.mono (s2.trans sq)) (Ls.new hq2 D) (by rw[aN,aN];lia) fun r H4 f4=>?_
     refine⟨r,_,⟨fr.same.trans (s2.trans (sq.trans f4.same)),(fr.same.trans (s2.trans sq)).free f4.new,?_⟩,rfl⟩;rw[xO,dZ,nR];exact f4.ls
   ·obtain⟨q,v3,fr,rfl⟩:=hh;rw[jm] at fr;exact hR _ _ ⟨q,v3,fr,rfl⟩
  rintro zzs H3 ⟨q,v3,fr,rfl⟩;exact⟨_,rfl,hq q H3 fr⟩
theorem Ro{f:Addr}{fd:FuncData} (F:Fun K "_law_figure" "_law_figure" mU f fd) (T:Txt K mg Z) (eV:Df P w K mg base 1 "_law_near" ["height","width","cell"] (Gm K)):cH P w K mg base (CXE P w) 2 f fd ["height","width","stones","cell"] (VP K):=by
 refine F.rok Ax (fun vs H Q E h=>?_) (fun cdv A outer s H vs Q E hr h=>?_)
 ·obtain⟨h,w,p,v,st,x,rfl,_⟩:=h;rfl
 ·obtain⟨h,w,p,v,st,x,rfl,dp,dv,hq⟩:=h;have hu':=Cv hr;refine⟨_,(aC (bf (aQ (cQ (K:=K)) rfl T.cI bO (aj (iW (by rfl) rfl (bB (K:=K) (aP eV hr rfl aR (aj (rv 0) (aj (rv 1) (aj (rv 3) ak))))) (fun _ _ _=>(gb (c7 (jy.or (zY (K:=K) hu')) (rv 0) (rv 3) (by rfl)))) (fun _ _ _=>(rv 0))) ak)))),?_⟩;refine⟨_,rfl,_,rfl,_,rfl,h,w,v,x,rfl,dv,fun q H1 fr=>?_⟩;obtain⟨xs,eq,D⟩:=fr.ls;refine⟨q,rfl,⟨_,SqL.of eq⟩,eF (K:=K) (xs:=cJ h w x) (enc:=aA) (bZ (SqL.of eq)) D (small (by have:=gA h w x;lia)) (fun y=>decide (y∈st)) aA (fun y hy v H2 s2 d G hG=>?_) (fun y hy _ v H2 s2 d G hG=>⟨_,rfl,hG _ _ (Same.refl _) d⟩) (fun ys H2 s2 D2 q2 hq2=>?_)⟩
  ·exact⟨_,rfl,_,rfl,.inr (JH d (dp.mono (fr.same.trans s2)) ⟨_,rfl,hG _ (Same.refl _)⟩)⟩
  ·refine .inl ⟨q2,_,rfl,.inl (SqL.of aD),?_⟩;have e:ys.length=tR h w st x:=by rw[D2.length,aN];rfl
   rw[e];exact hq _ (fr.same.trans (s2.and hq2))
end
section
variable{P:Program}{w:World}{K:ao}{mg:Str->Option Value}{base:Heap}{Z:Adr}
theorem Uv{f:Addr}{fd:FuncData} (F:Fun K "_law_field_by" "_law_field_by" jQ f fd) (T:Txt K mg Z) (bI:Df P w K mg base 1 "_law_cell_at" ["script","k"] (Bc K)) (cP:Df P w K mg base 1 "_law_mix" ["cell","k","many"] Qe) :
  cH P w K mg base (CXE P w) 2 f fd ["script","most"] (Q9 K):=by
 refine F.rok cW (fun vs H Q E h=>?_) (fun cdv A outer s H vs Q E hr h=>?_)
 ·obtain⟨a,ns,m,rfl,_⟩:=h;rfl
 ·obtain⟨a,ns,m,rfl,hS,m1,m6,hq⟩:=h;have hu:=oN hr;refine⟨_,(aB (bx (i:=2) cW.nd rfl (Or.inl rfl) (aP bI hr rfl aR (aj (rv 0) (aj aG ak)))) (aB (Vx (i:=3) (j:=4) rfl cW.nd rfl rfl (by decide) rfl rfl (aj (cV bQ aG (aP cP hr rfl aR (aj (rv 2) (aj aG (aj (rv 1) ak))))) (aj (cV bQ aG (aP cP hr rfl aR (aj (rv 2) (aj aG (aj (rv 1) ak))))) ak)) rfl) (aB (bx (i:=5) cW.nd rfl (Or.inl rfl) (dz (dw (K:=K)) (dG (aj aG (aj aG (aj aG ak)))) (aP cP hr rfl aR (aj (rv 2) (aj aG (aj aG ak)))))) (aB (bx (i:=6) cW.nd rfl (Or.inl rfl) (dG ak)) (aB (cC eE rfl (dH rfl T.eG (aj (rv 3) ak)) (bC (i:=7) cW.nd rfl (Or.inl rfl)) (aC (cC eE rfl (dH rfl T.eG (aj (rv 4) ak)) (bC (i:=8) cW.nd rfl (Or.inl rfl)) (aC (gM (c7 (yh.or (xY (K:=K) hu)) (aP cP hr rfl aR (aj (aP bI hr rfl aR (aj (rv 0) (aj (cV bQ aG (rv 7)) ak))) (aj (rv 8) (aj (rv 5) ak)))) aG (dh _)) (aC (jF (sG (K:=K) qY sO sS gB (rv 6) (aj (fV (aj (rv 7) (aj (rv 8) ak))) ak)))) cG))))) (aC (bf (fV (aj (rv 3) (aj (rv 4) (aj (rv 6) ak))))))))))),?_⟩;refine aF (fun zzs H1=>∃ c:Int,Same H H1/\zzs=[zzR a,zzI m,zzI c,zzN,zzN,zzN,zzN,zzN,zzN]) (fun R hR=>?_) ?_
  ·exact⟨_,rfl,a,ns,0,rfl,by decide,hS,fun r=>hR _ _ ⟨r,Same.refl _,rfl⟩⟩
  rintro zzs H1 ⟨c,s1,rfl⟩;refine aF (fun zzs H2=>∃ h w:Nat,Same H H2/\(1<=h/\(h:Int)<=m)/\(1<=w/\(w:Int)<=m)/\zzs=[zzR a,zzI m,zzI c,zzI h,zzI w,zzN,zzN,zzN,zzN]) (fun R hR=>?_) ?_
  ·refine⟨_,rfl,_,rfl,_,1,_,rfl,by lia,fun r1 H1 a1 b1 t1=>?_⟩;refine⟨_,rfl,_,rfl,_,2,_,rfl,by lia,fun r2 H2 a2 b2 t2=>?_⟩;refine⟨_,_,rfl,hR _ _ ⟨(1+r1).toNat,(1+r2).toNat,s1.trans (t1.trans t2),by lia,by lia,?_⟩⟩;rw[Ho (by lia),Ho (by lia)];rfl
  rintro zzs H2 ⟨h,w,s2,bh,bw,rfl⟩;refine aF (fun zzs H3=>∃ t:Int,0<t/\Same H H3/\zzs=[zzR a,zzI m,zzI c,zzI h,zzI w,zzI t,zzN,zzN,zzN]) (fun R hR=>?_) ?_
  ·refine⟨sz rfl,fun l hl=>?_⟩;have t1:=Same.put (o:=.lst [V.int 3,V.int 5,V.int 9]) hl;refine⟨_,rfl,_,3,3,rfl,by decide,fun r H3 a3 b3 t3=>?_⟩;obtain⟨v,hv,e⟩:=Kd (xs:=([3,5,9]:List Int).map V.int) (i:=r) a3 (by simpa using b3);obtain⟨n,hn,rfl⟩:=dR.mp hv;refine .inl ⟨l,_,_,_,rfl,rfl,SqL.of (t3 _ _ aD),e,hR _ _ ⟨n,?_,s2.trans (t1.trans t3),rfl⟩⟩;exact(by decide:∀ x∈([3,5,9]:List Int),0<x) n hn
  rintro zzs H3 ⟨t,ht,s3,rfl⟩;refine aF (fun zzs H4=>∃ p,H p=none/\Same H H4/\H4 p=some (.lst [])/\zzs=[zzR a,zzI m,zzI c,zzI h,zzI w,zzI t,zzR p,zzN,zzN]) (fun R hR=>?_) ?_
  ·exact⟨by decide,fun p hp=>hR _ _ ⟨p,s3.free hp,s3.and hp,aD,rfl⟩⟩
  rintro zzs H4 ⟨p,np,s4,hp,rfl⟩;have h6:h<=6:=by lia
  have w6:w<=6:=by lia
  refine aF (fun zzs H5=>∃(st:List Cell)(v7 v8:Option V),Same H H5/\Ls K H5 p (st.map aA)/\st.Sublist (bH h w)/\zzs=[zzR a,zzI m,zzI c,zzI h,zzI w,zzI t,zzR p,v7,v8]) (fun R hR=>?_) ?_
  ·refine⟨_,rfl,_,rfl,by lia,by lia,?_⟩;rw[jm];refine dD (lo:=0) (n:=h) (fun i zzs H'=>∃(st:List Cell)(v7 v8:Option V),Same H H'/\Ls K H' p (st.map aA)/\st.Sublist (bH i w)/\zzs=[zzR a,zzI m,zzI c,zzI h,zzI w,zzI t,zzR p,v7,v8])
    ⟨[],none,none,s4,⟨[],hp,.nil⟩,List.nil_sublist _,rfl⟩ (fun i zzs H' hi hh=>?_) (fun zzs H' hh=>hR _ _ hh)
   obtain⟨st,v7,v8,g1,g2,g3,rfl⟩:=hh;refine⟨_,rfl,_,rfl,by lia,by lia,?_⟩;rw[jm];refine dD (lo:=0) (n:=w) (fun j zzs H'=>∃(st:List Cell)(v8:Option V),Same H H'/\Ls K H' p (st.map aA)/\st.Sublist (bH i w++(List.range j).map fun c:Nat=>((i:Int),(c:Int)))/\zzs=[zzR a,zzI m,zzI c,zzI h,zzI w,zzI t,zzR p,zzI (0+i),v8])
    ⟨st,v8,g1,g2,by simpa using g3,rfl⟩ (fun j zzs H' hj hh=>?_) (fun zzs H' hh=>?_)
   ·obtain⟨st,v8,g1,g2,g3,rfl⟩:=hh;have step:bH i w++(List.range (j+1)).map (fun c:Nat=>((i:Int),(c:Int)))=(bH i w++(List.range j).map fun c:Nat=>((i:Int),(c:Int)))++[((i:Int),(j:Int))]:=by
     rw[tu,dZ,<- yD];rfl
    have hl:=g3.length_le;rw[cL,eU,aN,jo] at hl;have hl2:i*w<=6*6:=jZ (by lia) w6;refine⟨_,rfl,_,rfl,a,ns,_,rfl,by lia,g1.seq hS,fun r=>?_⟩;refine⟨_,rfl,_,rfl,_,_,_,rfl,ht,fun r2 H6 a6 b6 t6=>.inl ⟨rfl,_,rfl,?_⟩⟩;refine Cw (fun _=>?_) (fun _=>?_)
    ·refine⟨_,rfl,.inl ⟨rfl,_,SqL.of (t6 _ _ g2.choose_spec.1)⟩,?_⟩;obtain⟨xs,ex,D⟩:=g2;refine⟨_,rfl,_,rfl,sz rfl,fun u hu=>?_⟩;have su:=Same.put (o:=.tup [V.int (0+i),V.int (0+j)]) hu;refine⟨p,xs,_,rfl,rfl,su _ _ (t6 _ _ ex),ltl (by rw[D.length,aN];lia),?_⟩;refine⟨st++[((i:Int),(j:Int))],_,?_,⟨xs++[.ref u],aD,?_⟩,?_,rfl⟩
     ·exact(SameBut.refl p _).put.of (g1.trans (t6.trans su)) np
     ·rw[dZ];refine((SameBut.refl p _).put.cells (su _ _ (t6 _ _ ex)) ((D.mono t6).mono su)).append (.cons ((SameBut.refl p _).put.cell (su _ _ (t6 _ _ ex)) ?_) .nil);rw[nT,nT];exact gk
     ·rw[step];exact g3.append (Nv _)
    ·refine⟨st,_,g1.trans t6,g2.mono t6,?_,rfl⟩;rw[step];exact g3.trans (Wx _ _)
   ·obtain⟨st,v8,g1,g2,g3,rfl⟩:=hh;exact⟨st,_,_,g1,g2,by rw[oJ];exact g3,rfl⟩
  rintro zzs H5 ⟨st,v7,v8,g1,g2,g3,rfl⟩;refine⟨_,rfl,_,rfl,_,rfl,sz rfl,fun u hu=>?_⟩;exact hq u p _ h w st (g1.and hu) np (SqT.of aD) (g2.mono (Same.put hu)) bh.1 bh.2 bw.1 bw.2 g3
end
def Qf(K:ao):Sp:=fun vs H Q _=>∃(h w:Nat)(p q:Addr)(st kn:List Cell),vs=[.int h,.int w,.ref p,.ref q]/\h<=6/\w<=6/\Den K H (.ref p) (.lst (st.map aA))/\Den K H (.ref q) (.lst (kn.map aA)) /\
 ∀ r H',Same H H'->H r=none->H' r=some (.lst ((gF h w st kn).map V.str))->Q (.ref r) H'
def JW(K:ao):Sp:=fun vs H Q _=>∃(h w:Nat)(p q:Addr)(v:V)(st kn:List Cell)(x:Cell),vs=[.int h,.int w,.ref p,.ref q,v]/\h<=6/\w<=6/\Den K H (.ref p) (.lst (st.map aA))/\Den K H (.ref q) (.lst (kn.map aA))/\Den K H v (aA x)/\inF h w x /\
 ∀ r H' (cs:List Cell),Fr K H H' r (cs.map aA)->cs.Nodup->(∀ y,y∈cs↔Reach h w st kn x y)->Q (.ref r) H'
section
variable{P:Program}{w:World}{K:ao}{mg:Str->Option Value}{base:Heap}{Z:Adr}
theorem UJ{f:Addr}{fd:FuncData} (F:Fun K "_law_shown" "_law_shown" oX f fd) (T:Txt K mg Z) (gq:Df P w K mg base 2 "_law_figure" ["height","width","stones","cell"] (VP K)):cH P w K mg base (CXE P w) 3 f fd ["height","width","stones","known"] (Qf K):=by
 refine F.rok gD (fun vs H Q E h=>?_) (fun cdv A outer s H vs Q E hr h=>?_)
 ·obtain⟨h,w,p,q,st,kn,rfl,_⟩:=h;rfl
 ·obtain⟨h,w,p,q,st,kn,rfl,h6,w6,dp,dq,hq⟩:=h;have hu':=Cv hr;refine⟨_,(aB (bx (i:=4) gD.nd rfl (Or.inl rfl) (dG ak)) (aB (cC eE rfl (dH rfl T.eG (aj (rv 0) ak)) (bC (i:=5) gD.nd rfl (Or.inl rfl)) (aB (bx (i:=6) gD.nd rfl (Or.inl rfl) sI) (aB (cC eE rfl (dH rfl T.eG (aj (rv 1) ak)) (bC (i:=7) gD.nd rfl (Or.inl rfl)) (aC (bx (i:=6) gD.nd rfl (Or.inl rfl) (cV bQ (rv 6) (dz (dw (K:=K)) (dG (aj sI (aj (uT Fd rfl T.Zq a07 (aj (aP gq hr rfl aR (aj (rv 0) (aj (rv 1) (aj (rv 2) (aj (fV (aj (rv 5) (aj (rv 7) ak))) ak))))) ak)) ak))) (uT Qu rfl T.Ss Sy (aj (Ag (jy.or (zY (K:=K) hu')) (fV (aj (rv 5) (aj (rv 7) ak))) (rv 3) (by rfl)) ak))))))) (aC (jF (sG (K:=K) qY sO sS gB (rv 4) (aj (rv 6) ak))))))) (aC (bf (rv 4))))),?_⟩;refine aF (fun zzs H1=>∃ l,H l=none/\Same H H1/\H1 l=some (.lst [])/\zzs=[zzI h,zzI w,zzR p,zzR q,zzR l,zzN,zzN,zzN]) (fun R hR=>?_) ?_
  ·exact⟨by decide,fun l hl=>hR _ _ ⟨l,hl,Same.put hl,aD,rfl⟩⟩
  rintro zzs H1 ⟨l,nl,s1,hl,rfl⟩;refine aF (fun zzs H2=>∃(v5 v6 v7:Option V),Same H H2/\H2 l=some (.lst ((gF h w st kn).map V.str))/\zzs=[zzI h,zzI w,zzR p,zzR q,zzR l,v5,v6,v7]) (fun R hR=>?_) ?_
  ·refine⟨_,rfl,_,rfl,by lia,by lia,?_⟩;rw[jm];refine dD (lo:=0) (n:=h) (fun i zzs H'=>∃(v5 v6 v7:Option V),Same H H'/\H' l=some (.lst (((List.range i).map fun r:Nat=>nJ h w st kn (r:Int) w).map V.str))/\zzs=[zzI h,zzI w,zzR p,zzR q,zzR l,v5,v6,v7])
    ⟨none,none,none,s1,hl,rfl⟩ (fun i zzs H' hi hh=>?_) (fun zzs H' hh=>hR _ _ hh)
   obtain⟨v5,v6,v7,g1,g2,rfl⟩:=hh;refine aF (fun zzs H3=>Same H H3/\H3 l=some (.lst (((List.range i).map fun r:Nat=>nJ h w st kn (r:Int) w).map V.str))/\zzs=[zzI h,zzI w,zzR p,zzR q,zzR l,zzI (0+i),some (.str ""),v7]) (fun R' hR'=>hR' _ _ ⟨g1,g2,rfl⟩) ?_;rintro zzs H3 ⟨k1,k2,rfl⟩;refine aF (fun zzs H4=>∃ v7:Option V,Same H H4/\H4 l=some (.lst (((List.range i).map fun r:Nat=>nJ h w st kn (r:Int) w).map V.str))/\zzs=[zzI h,zzI w,zzR p,zzR q,zzR l,zzI (0+i),some (.str (nJ h w st kn i w)),v7]) (fun R' hR'=>?_) ?_
   ·refine⟨_,rfl,_,rfl,by lia,by lia,?_⟩;rw[jm];refine dD (lo:=0) (n:=w) (fun j zzs H'=>∃ v7:Option V,Same H H'/\H' l=some (.lst (((List.range i).map fun r:Nat=>nJ h w st kn (r:Int) w).map V.str))/\zzs=[zzI h,zzI w,zzR p,zzR q,zzR l,zzI (0+i),some (.str (nJ h w st kn i j)),v7])
     ⟨v7,k1,k2,rfl⟩ (fun j zzs H' hj hh=>?_) (fun zzs H' hh=>hR' _ _ hh)
    obtain⟨v7,m1,m2,rfl⟩:=hh;have fl:=Ox h w st (0+(i:Int),0+(j:Int));refine⟨_,rfl,_,rfl,_,rfl,_,rfl,_,rfl,_,rfl,sz rfl,fun t ht=>?_⟩;have st1:=Same.put (o:=.tup [V.int (0+i),V.int (0+j)]) ht;refine⟨h,w,p,_,st,(0+(i:Int),0+(j:Int)),rfl,dp.mono (m1.trans st1),gk,fun H5 s5=>?_⟩;refine⟨_,rfl,XD _ fl,sz rfl,fun u hu=>?_⟩;have s6:=Same.put (o:=.lst [V.str "#",V.str (Str.ofString (toString ((tR h w st (0+(i:Int),0+(j:Int)):Nat):Int)))]) hu;refine⟨_,rfl,_,rfl,sz rfl,fun t2 ht2=>?_⟩;have s7:=Same.put (o:=.tup [V.int (0+i),V.int (0+j)]) ht2;have sA:=st1.trans (s5.trans (s6.trans s7));refine⟨_,rfl,.inr (JH gk (dq.mono (m1.trans sA)) (.inr ⟨_,rfl,?_⟩))⟩;have e0:((0:Int)+(i:Int),(0:Int)+(j:Int))=((i:Int),(j:Int)):=by rw[nT,nT]
    have fin:∀ z:Str,z=⟨#[CK h w st kn (0+(i:Int),0+(j:Int))]⟩->Eh (.str (nJ h w st kn i j)) (.str z) (upd (upd H5 u (.lst [V.str "#",V.str (Str.ofString (toString ((tR h w st (0+(i:Int),0+(j:Int)):Nat):Int)))])) t2 (.tup [V.int (0+i),V.int (0+j)]))
      (fun x H1=>∃ v7:Option V,Same H H1/\H1 l=some (.lst (((List.range i).map fun r:Nat=>nJ h w st kn (r:Int) w).map V.str))/\([zzI h,zzI w,zzR p,zzR q,zzR l,zzI (0+i),some (.str (nJ h w st kn i j)),zzI (0+j)]:L2.St).set 6 (some x)=[zzI h,zzI w,zzR p,zzR q,zzR l,zzI (0+i),some (.str (nJ h w st kn i (j+1))),v7]):=by
     intro z hz;subst hz;refine⟨?_,some (.int (0+(j:Int))),m1.trans sA,sA _ _ m2,?_⟩
     ·rw[Q0];exact small (by show j+1<=10000;lia)
     ·rw[Vu,<- e0];rfl
    have ed:=dig _ fl;by_cases hk:(0+(i:Int),0+(j:Int))∈kn
    ·rw[bG hk];exact .inl ⟨u,_,_,_,rfl,rfl,SqL.of (s7 _ _ aD),dB (j:=1) rfl,fin _ (by rw[ed];unfold CK;rw[aK hk])⟩
    ·rw[bV hk];exact .inl ⟨u,_,_,_,rfl,rfl,SqL.of (s7 _ _ aD),gQ,fin _ (by unfold CK;rw[aJ hk];decide)⟩
   rintro zzs H4 ⟨v7,m1,m2,rfl⟩;refine⟨_,rfl,.inl ⟨rfl,_,SqL.of m2⟩,_,rfl,l,_,_,rfl,rfl,m2,ltl (by rw[aN,aN,jo];lia),?_⟩;refine⟨_,_,_,(SameBut.refl l _).put.of m1 nl,?_,rfl⟩;rw[aD,tu,dZ,dZ];rfl
  rintro zzs H2 ⟨v5,v6,v7,g1,g2,rfl⟩;exact⟨_,rfl,hq l H2 g1 nl g2⟩
end
def JZ(K:ao):Sp:=fun vs H Q _=>∃(a:Addr)(ns:List Int)(m k:Int),vs=[.ref a,.int m,.int k]/\SqL K H a (ns.map V.int)/\1<=m/\m<=6/\1<=k/\k<=10 /\
 ∀(t r p:Addr)(H':Hp)(h w:Nat)(st kn:List Cell),Same H H'->H r=none->H p=none->SqT K H' t [.ref r,.ref p]->H' r=some (.lst ((gF h w st kn).map V.str))->Ls K H' p (st.map aA) ->
  1<=h->(h:Int)<=m->1<=w->(w:Int)<=m->st.Sublist (bH h w)->kn.Nodup->(∀ x∈kn,inF h w x/\x∉st)->Q (.ref t) H'
section
variable{P:Program}{w:World}{K:ao}{mg:Str->Option Value}{base:Heap}{Z:Adr}
theorem Rr{f:Addr}{fd:FuncData} (F:Fun K "_law_opened" "_law_opened" mV f fd) (T:Txt K mg Z) (eV:Df P w K mg base 1 "_law_near" ["height","width","cell"] (Gm K)) (gq:Df P w K mg base 2 "_law_figure" ["height","width","stones","cell"] (VP K)) :
  cH P w K mg base (CXE P w) 3 f fd ["height","width","stones","known","cell"] (JW K):=by
 refine F.rok gY (fun vs H Q E h=>?_) (fun cdv A outer s H vs Q E hr h=>?_)
 ·obtain⟨h,w,p,q,v,st,kn,x,rfl,_⟩:=h;rfl
 ·obtain⟨h,w,p,q,v,st,kn,x,rfl,h6,w6,dp,dq,dv,hx,hq⟩:=h;have hu:=oN hr;have hu':=Cv hr;refine⟨_,(aB (bx (i:=5) gY.nd rfl (Or.inr rfl) (dG (aj (rv 4) ak))) (aB (bx (i:=6) gY.nd rfl (Or.inl rfl) aG) (aB (JL eE (c7 Ac (rv 6) (aQ (cQ (K:=K)) rfl T.cI bO (aj (rv 5) ak)) (dh _)) (aB (gM (c7 (yh.or (xY (K:=K) hu)) (aP gq hr rfl aR (aj (rv 0) (aj (rv 1) (aj (rv 2) (aj (dz (dw (K:=K)) (rv 5) (rv 6)) ak))))) aG (dh _)) (aC (bx (i:=5) gY.nd rfl (Or.inr rfl) (cV bQ (rv 5) (iW (by rfl) rfl (bB (K:=K) (aP eV hr rfl aR (aj (rv 0) (aj (rv 1) (aj (dz (dw (K:=K)) (rv 5) (rv 6)) ak))))) (fun _ _ _=>(gb (RV (FZ (c7 (iB.or (nC (K:=K) hu')) (rv 0) (rv 4) (by rfl)) (yW (c7 (iB.or (nC (K:=K) hu')) (rv 0) (rv 6) (by rfl))))))) (fun _ _ _=>(rv 0)))))) cG) (aC (bx (i:=6) gY.nd rfl (Or.inl rfl) (cV bQ (rv 6) aG))))) (aC (bf (rv 5)))))),?_⟩;refine aF (fun zzs H1=>∃ l,Fr K H H1 l ([x].map aA)/\zzs=[zzI h,zzI w,zzR p,zzR q,some v,zzR l,zzN]) (fun R hR=>?_) ?_
  ·exact⟨_,rfl,sz rfl,fun l hl=>hR _ _ ⟨l,⟨Same.put hl,hl,.new hl (.cons dv .nil)⟩,rfl⟩⟩
  rintro zzs H1 ⟨l,fr,rfl⟩;refine aF (fun zzs H2=>Same H1 H2/\zzs=[zzI h,zzI w,zzR p,zzR q,some v,zzR l,zzI 0]) (fun R hR=>hR _ _ ⟨Same.refl _,rfl⟩) ?_;rintro zzs H2 ⟨s2,rfl⟩;refine aF (fun zzs H3=>∃(l:Addr)(cs:List Cell)(v6:Option V),Fr K H H3 l (cs.map aA)/\mj h w st kn x cs cs.length/\zzs=[zzI h,zzI w,zzR p,zzR q,some v,zzR l,v6]) (fun R hR=>?_) ?_
  ·refine⟨fun m zzs H'=>∃(l:Addr)(cs:List Cell)(n:Nat),Fr K H H' l (cs.map aA)/\mj h w st kn x cs n/\m=36-n/\zzs=[zzI h,zzI w,zzR p,zzR q,some v,zzR l,zzI n],
    ⟨36,l,[x],0,⟨fr.same.trans s2,fr.new,fr.ls.mono s2⟩,⟨by simp,dU.mpr rfl,fun y hy=>by rw[dU.mp hy];exact .base,kj _,fun i y hi=>absurd hi (Nat.not_lt_zero _)⟩,rfl,rfl⟩,?_⟩
   rintro m zzs H' ⟨l,cs,n,fr,o,rfl,rfl⟩;obtain⟨xs,ex,D⟩:=id fr.ls;have lx:xs.length=cs.length:=by rw[D.length,aN]
   have c36:=o.len hx h6 w6;refine⟨_,rfl,_,rfl,.inl ⟨l,_,rfl,.inl (SqL.of ex),_,_,rfl,rfl,_,rfl,?_⟩⟩;rw[lx];refine Cw (fun hlt=>?_) (fun hlt=>?_)
   ·have hn:n<cs.length:=by have:=dN hlt;lia
    have ec:cs[n]?=some cs[n]:=by simp[hn]
    have exn:xs[n]?=some xs[n]:=by simp[hn,lx]
    have dn:Den K H' xs[n] (aA cs[n]):=by
     obtain⟨d,ed,dd⟩:=D.get exn;rw[cM,ec] at ed;cases ed;exact dd
    refine⟨fun bJ H2=>∃(l:Addr)(cs:List Cell),Fr K H H2 l (cs.map aA)/\mj h w st kn x cs (n+1)/\bJ=[zzI h,zzI w,zzR p,zzR q,some v,zzR l,zzI ((n+1:Nat):Int)],fun bJ H2 hh=>?_,?_⟩
    ·obtain⟨l,cs,fr,o,rfl⟩:=hh;exact⟨36-(n+1),by lia,l,cs,n+1,fr,o,rfl,rfl⟩
    refine aF (fun zzs H3=>∃(l:Addr)(cs:List Cell),Fr K H H3 l (cs.map aA)/\mj h w st kn x cs (n+1)/\zzs=[zzI h,zzI w,zzR p,zzR q,some v,zzR l,zzI n]) (fun R' hR'=>?_) ?_
    ·refine⟨_,rfl,_,rfl,_,rfl,_,rfl,_,rfl,.inl ⟨l,_,_,_,rfl,rfl,SqL.of ex,dB exn,?_⟩⟩;refine⟨h,w,p,_,st,cs[n],rfl,dp.mono fr.same,dn,fun H3 s3=>.inl ⟨rfl,_,rfl,?_⟩⟩;rw[xT];refine Cw (fun hz=>?_) (fun hz=>?_)
     ·have fz:tR h w st cs[n]=0:=by have:=dN hz;lia
      refine⟨_,rfl,_,rfl,_,rfl,_,rfl,_,rfl,.inl ⟨l,_,_,_,rfl,rfl,SqL.of (s3 _ _ ex),dB exn,?_⟩⟩;refine⟨h,w,_,cs[n],rfl,dn.mono s3,fun q4 H4 f4=>?_⟩;obtain⟨ys,ey,Dy⟩:=f4.ls;have sA:=fr.same.trans (s3.trans f4.same);refine⟨q4,rfl,⟨_,SqL.of ey⟩,eF (K:=K) (xs:=cJ h w cs[n]) (enc:=aA) (bZ (SqL.of ey)) Dy (small (by have:=gA h w cs[n];lia)) (fun y=>!decide (y∈kn)&&!decide (y∈cs)) aA (fun y hy u H5 s5 d G hG=>?_) (fun y hy _ u H5 s5 d G hG=>⟨_,rfl,hG _ _ (Same.refl _) d⟩) (fun us H5 s5 D5 q5 hq5=>?_)⟩
      ·have dk:=dq.mono (sA.trans s5);have dl:=(fr.ls.mono (s3.trans (f4.same.trans s5))).den;have hg:=hG H5 (Same.refl _);refine⟨_,rfl,_,rfl,.inr (qG d dk ⟨_,rfl,?_⟩)⟩;by_cases hk:y∈kn
       ·rw[bG hk] at hg ⊢;exact wu hg
       ·rw[bV hk] at hg ⊢;refine Cy ⟨_,rfl,_,rfl,.inr (qG d dl ⟨_,rfl,?_⟩)⟩;exact hg
      ·have s6:=Same.put (o:=.lst us) hq5;have nl:((cJ h w cs[n]).filter fun y=>!decide (y∈kn)&&!decide (y∈cs)).length<=8:=cO (iJ _ _) (gA h w cs[n]);refine Ai (fr.ls.mono (s3.trans (f4.same.trans (s5.trans s6)))) (Ls.new hq5 D5) (by rw[aN,aN];lia) fun r H6 f6=>hR' _ _ ⟨r,_,⟨sA.trans (s5.trans (s6.trans f6.same)),(sA.trans (s5.trans s6)).free f6.new,?_⟩,o.grow ec fz,rfl⟩
       rw[dZ];exact f6.ls
     ·have fz:tR h w st cs[n]≠0:=fun e=>hz (bG (by rw[e];rfl))
      exact hR' _ _ ⟨l,cs,⟨fr.same.trans s3,fr.new,fr.ls.mono s3⟩,o.skip ec fz,rfl⟩
    rintro zzs H3 ⟨l,cs,fr,o,rfl⟩;exact⟨_,rfl,l,cs,fr,o,rfl⟩
   ·have hn:n=cs.length:=by
     have h1:=o.le;have h2:¬((n:Int)<(cs.length:Int)):=fun z=>hlt (bG z)
     lia
    subst hn;exact hR _ _ ⟨l,cs,_,fr,o,rfl⟩
  rintro zzs H3 ⟨l,cs,v6,fr,o,rfl⟩;exact⟨_,rfl,hq l H3 cs fr o.nd o.done⟩
end
section
variable{P:Program}{w:World}{K:ao}{mg:Str->Option Value}{base:Heap}{Z:Adr}
def qp(w:Nat)(st:List Cell)(n:Nat):List Cell:=(bH n w).filter fun y=>!decide (y∈st)
theorem Lb(w:Nat)(st:List Cell)(n:Nat):qp w st (n+1)=qp w st n++((List.range w).filter fun c:Nat=>!decide (((n:Int),(c:Int))∈st)).map fun c:Nat=>((n:Int),(c:Int)):=by
 unfold qp;rw[oJ,sU,List.filter_map];rfl
theorem Dz(w:Nat)(st:List Cell)(n:Nat):(qp w st n).length<=n*w:=by
 unfold qp;exact cO (iJ _ _) (by rw[eU];exact bK _)
theorem Ru{f:Addr}{fd:FuncData} (F:Fun K "_law_view_by" "_law_view_by" lO f fd) (T:Txt K mg Z) (bI:Df P w K mg base 1 "_law_cell_at" ["script","k"] (Bc K)) (cP:Df P w K mg base 1 "_law_mix" ["cell","k","many"] Qe)
  (jL:Df P w K mg base 2 "_law_field_by" ["script","most"] (Q9 K)) (mL:Df P w K mg base 3 "_law_opened" ["height","width","stones","known","cell"] (JW K)) (nY:Df P w K mg base 3 "_law_shown" ["height","width","stones","known"] (Qf K)) :
  cH P w K mg base (CXE P w) 4 f fd ["script","most","steps"] (JZ K):=by
 refine F.rok bN (fun vs H Q E h=>?_) (fun cdv A outer s H vs Q E hr h=>?_)
 ·obtain⟨a,ns,m,k,rfl,_⟩:=h;rfl
 ·obtain⟨a,ns,m,k,rfl,hS,m1,m6,k1,k10,hq⟩:=h;have hu:=oN hr;have hu':=Cv hr;refine⟨_,(aB (Ao (aP jL hr rfl aR (aj (rv 0) (aj (rv 1) ak))) (Al rfl (gW (bC (i:=3) bN.nd rfl (Or.inl rfl)) (gW (bC (i:=4) bN.nd rfl (Or.inl rfl)) (gW (bC (i:=5) bN.nd rfl (Or.inr rfl)) uU))))) (aB (bx (i:=6) bN.nd rfl (Or.inr rfl) (dG ak)) (aB (bx (i:=7) bN.nd rfl (Or.inl rfl) (dG ak)) (aB (cC eE rfl (dH rfl T.eG (aj (rv 3) ak)) (bC (i:=8) bN.nd rfl (Or.inr rfl)) (aC (bx (i:=7) bN.nd rfl (Or.inl rfl) (cV bQ (rv 7) (iW (by rfl) rfl (dH rfl T.eG (aj (rv 4) ak)) (fun _ _ _=>(gb (c7 (iB.or (nC (K:=K) hu')) (fV (aj (rv 9) (aj (rv 0) ak))) (rv 6) (by rfl)))) (fun _ _ _=>(fV (aj (rv 9) (aj (rv 0) ak))))))))) (aB (cC eE rfl (dH rfl T.eG (aj (cV qD (aP bI hr rfl aR (aj (rv 0) (aj aG ak))) (rv 2)) ak)) (bC (i:=9) bN.nd rfl (Or.inl rfl)) (aB (z8 (i:=10) bN.nd rfl rfl (by rfl) rfl (bB (K:=K) (rv 7)) (fun _ _ _=>(gb (c7 (iB.or (nC (K:=K) hu')) (rv 0) (rv 7) (by rfl)))) (fun _ _ _=>(rv 0))) (aC (gM (c7 Ea (aQ (cQ (K:=K)) rfl T.cI bO (aj (rv 10) ak)) aG (dh _)) (aB (bx (i:=11) bN.nd rfl (Or.inl rfl) (dz (dw (K:=K)) (rv 10) (aP cP hr rfl aR (aj (aP bI hr rfl aR (aj (rv 0) (aj (cV bQ aG (rv 9)) ak))) (aj (rv 9) (aj (aQ (cQ (K:=K)) rfl T.cI bO (aj (rv 10) ak)) ak)))))) (aC (bx (i:=6) bN.nd rfl (Or.inr rfl) (cV bQ (rv 6) (aP mL hr rfl aR (aj (rv 3) (aj (rv 4) (aj (rv 5) (aj (rv 6) (aj (rv 11) ak)))))))))) cG)))) (aC (bf (fV (aj (aP nY hr rfl aR (aj (rv 3) (aj (rv 4) (aj (rv 5) (aj (rv 6) ak))))) (aj (rv 5) ak)))))))))),?_⟩;refine aF (fun zzs H1=>∃(p:Addr)(h w:Nat)(st:List Cell),Same H H1/\H p=none/\Ls K H1 p (st.map aA)/\(1<=h/\(h:Int)<=m)/\(1<=w/\(w:Int)<=m)/\st.Sublist (bH h w) /\
   zzs=[zzR a,zzI m,zzI k,zzI h,zzI w,zzR p,zzN,zzN,zzN,zzN,zzN,zzN]) (fun R hR=>?_) ?_
  ·exact⟨_,rfl,_,rfl,a,ns,m,rfl,hS,m1,m6,fun t p H' h w st s' np hT lp a1 a2 a3 a4 a5=>⟨t,_,rfl,hT,rfl,_,_,rfl,_,_,rfl,_,_,rfl,rfl,hR _ _ ⟨p,h,w,st,s',np,lp,⟨a1,a2⟩,⟨a3,a4⟩,a5,rfl⟩⟩⟩
  rintro zzs H1 ⟨p,h,w,st,s1,np,lp,bh,bw,sub,rfl⟩;have h6:h<=6:=by lia
  have w6:w<=6:=by lia
  have a4k:h*w<=6*6:=jZ h6 w6;refine aF (fun zzs H2=>∃ l,Fr K H1 H2 l []/\zzs=[zzR a,zzI m,zzI k,zzI h,zzI w,zzR p,zzR l,zzN,zzN,zzN,zzN,zzN]) (fun R hR=>?_) ?_
  ·exact⟨by decide,fun l hl=>hR _ _ ⟨l,⟨Same.put hl,hl,.new hl .nil⟩,rfl⟩⟩
  rintro zzs H2 ⟨l,fl,rfl⟩;refine aF (fun zzs H3=>∃ e,Same H2 H3/\Ls K H3 e []/\zzs=[zzR a,zzI m,zzI k,zzI h,zzI w,zzR p,zzR l,zzR e,zzN,zzN,zzN,zzN]) (fun R hR=>?_) ?_
  ·exact⟨by decide,fun e he=>hR _ _ ⟨e,Same.put he,.new he .nil,rfl⟩⟩
  rintro zzs H3 ⟨e,s3,le,rfl⟩;refine aF (fun zzs H4=>∃(e:Addr)(v8:Option V),Same H2 H4/\Ls K H4 e ((qp w st h).map aA)/\zzs=[zzR a,zzI m,zzI k,zzI h,zzI w,zzR p,zzR l,zzR e,v8,zzN,zzN,zzN]) (fun R hR=>?_) ?_
  ·refine⟨_,rfl,_,rfl,by lia,by lia,?_⟩;rw[jm];refine dD (lo:=0) (n:=h) (fun i zzs H4=>∃(e:Addr)(v8:Option V),Same H2 H4/\Ls K H4 e ((qp w st i).map aA)/\zzs=[zzR a,zzI m,zzI k,zzI h,zzI w,zzR p,zzR l,zzR e,v8,zzN,zzN,zzN]) ⟨e,none,s3,le,rfl⟩ (fun i zzs H4 hi hh=>?_) (fun zzs H4 hh=>hR _ _ hh);obtain⟨e,v8,g1,g2,rfl⟩:=hh;refine⟨_,rfl,_,rfl,_,rfl,by lia,by lia,?_⟩;rw[jm];have e0:∀ c:Nat,((0:Int)+(i:Int),(c:Int))=((i:Int),(c:Int)):=fun c=>by rw[nT]
   refine eF (K:=K) (xs:=List.range w) (enc:=fun c:Nat=>Dt.int (c:Int)) (mF w) (aY.nats _) (by rw[jo];exact small (by lia)) (fun c:Nat=>!decide (((i:Int),(c:Int))∈st)) (fun c:Nat=>aA ((i:Int),(c:Int))) (fun c hc v H5 s5 D G hG=>?_) (fun c hc _ v H5 s5 D G hG=>?_) (fun ys H5 s5 D q5 hq5=>?_)
   ·cases D;refine⟨_,rfl,_,rfl,sz rfl,fun t ht=>⟨_,rfl,.inr (qG gk (lp.mono (fl.same.trans (g1.trans (s5.and ht)))).den ⟨_,rfl,?_⟩)⟩⟩;rw[e0];exact hG _ (Same.put ht)
   ·cases D;refine⟨_,rfl,_,rfl,sz rfl,fun t ht=>hG _ _ (Same.put ht) ?_⟩;rw[<- e0];exact gk
   ·have l1:=Dz w st i;have l2:((List.range w).filter fun c:Nat=>!decide (((i:Int),(c:Int))∈st)).length<=w:=cO (iJ _ _) (by rw[jo];exact bK _);have l3:i*w<=6*6:=jZ (by lia) w6;have sq:=Same.put (o:=.lst ys) hq5;refine Ai (g2.mono (s5.trans sq)) (Ls.new hq5 D) (by rw[aN,aN];lia) fun r H6 f6=>⟨r,_,g1.trans (s5.trans (sq.trans f6.same)),?_,rfl⟩
    rw[Lb,dZ,nR];exact f6.ls
  rintro zzs H4 ⟨e,v8,s4,le4,rfl⟩;refine aF (fun zzs H5=>∃(l:Addr)(kn:List Cell)(v9 v10 v11:Option V),Same H1 H5/\Ls K H5 l (kn.map aA)/\kn.Nodup/\(∀ x∈kn,inF h w x/\x∉st)/\zzs=[zzR a,zzI m,zzI k,zzI h,zzI w,zzR p,zzR l,zzR e,v8,v9,v10,v11]) (fun R hR=>?_) ?_
  ·refine⟨_,rfl,a,ns,10,rfl,by decide,(s1.trans (fl.same.trans s4)).seq hS,fun r=>⟨_,rfl,_,_,rfl,rfl,(by lia),?_⟩⟩;have r0:0<=r%k:=Bx _ (by lia);have r1:r%k<k:=Br _ (by lia);refine⟨_,rfl,by lia,by lia,?_⟩;refine dD (lo:=0) (n:=(r%k).toNat) (fun i zzs H5=>∃(l:Addr)(kn:List Cell)(v9 v10 v11:Option V),Same H4 H5/\Ls K H5 l (kn.map aA)/\kn.Nodup/\(∀ x∈kn,inF h w x/\x∉st)/\zzs=[zzR a,zzI m,zzI k,zzI h,zzI w,zzR p,zzR l,zzR e,v8,v9,v10,v11])
    ⟨l,[],none,none,none,Same.refl _,fl.ls.mono s4,HN,(by intro x hx;cases hx),rfl⟩ (fun i zzs H5 hi hh=>?_) (fun zzs H5 hh=>?_)
   ·obtain⟨l,kn,v9,v10,v11,g1,g2,nd,g3,rfl⟩:=hh;have a4l:kn.length<=36:=by
     have:=lK (l2:=bH h w) nd fun y hy=>bL.mpr (g3 y hy).1
     rw[eU] at this;lia
    have le5:=le4.mono g1;obtain⟨xs,ex,De⟩:=id le5;refine aF (fun zzs H6=>∃ q,Same H5 H6/\Ls K H6 q (((qp w st h).filter fun y=>!decide (y∈kn)).map aA)/\zzs=[zzR a,zzI m,zzI k,zzI h,zzI w,zzR p,zzR l,zzR e,v8,zzI (0+i),zzR q,v11]) (fun R' hR'=>?_) ?_
    ·refine⟨_,rfl,e,rfl,⟨_,SqL.of ex⟩,eF (K:=K) (xs:=qp w st h) (enc:=aA) (bZ (SqL.of ex)) De (small (by have:=Dz w st h;lia)) (fun y=>!decide (y∈kn)) aA (fun y hy u H6 s6 d G hG=>?_) (fun y hy _ u H6 s6 d G hG=>⟨_,rfl,hG _ _ (Same.refl _) d⟩) (fun us H6 s6 D6 q6 hq6=>?_)⟩
     ·exact⟨_,rfl,_,rfl,.inr (qG d (g2.mono s6).den ⟨_,rfl,hG _ (Same.refl _)⟩)⟩
     ·exact hR' _ _ ⟨q6,s6.and hq6,.new hq6 D6,rfl⟩
    rintro zzs H6 ⟨q,s6,lq,rfl⟩;obtain⟨ys,ey,Dy⟩:=id lq;have ly:ys.length=((qp w st h).filter fun y=>!decide (y∈kn)).length:=by rw[Dy.length,aN]
    refine⟨_,rfl,.inl ⟨q,_,rfl,.inl (SqL.of ey),_,_,rfl,rfl,_,rfl,?_⟩⟩;refine Cw (fun hpos=>?_) (fun _=>?_)
    ·have hp':0<ys.length:=by have:=dN hpos;lia
     refine aF (fun zzs H7=>∃(u:V)(x:Cell),Same H6 H7/\Den K H7 u (aA x)/\x∈((qp w st h).filter fun y=>!decide (y∈kn))/\zzs=[zzR a,zzI m,zzI k,zzI h,zzI w,zzR p,zzR l,zzR e,v8,zzI (0+i),zzR q,some u]) (fun R' hR'=>?_) ?_
     ·refine⟨_,rfl,_,rfl,_,rfl,a,ns,_,rfl,by lia,(s1.trans (fl.same.trans (s4.trans (g1.trans s6)))).seq hS,fun r2=>?_⟩;refine⟨_,rfl,_,rfl,.inl ⟨q,_,rfl,.inl (SqL.of ey),_,_,_,rfl,by lia,fun r3 H7 a7 b7 s7=>?_⟩⟩;obtain⟨n,rfl⟩:=Gy a7;have hn:n<ys.length:=by lia
      have eyn:ys[n]?=some ys[n]:=by simp[hn]
      obtain⟨d,ed,dd⟩:=Dy.get eyn;rw[cM] at ed;obtain⟨x,hx,rfl⟩:=j9.mp ed;exact .inl ⟨q,_,_,_,rfl,rfl,SqL.of (s7 _ _ ey),dB eyn,hR' _ _ ⟨_,x,s7,dd.mono s7,eO hx,rfl⟩⟩
     rintro zzs H7 ⟨u,x,s7,du,hx,rfl⟩;obtain⟨hx1,hx2⟩:=cB.mp hx;have hxk:x∉kn:=by simpa using hx2
     obtain⟨hx3,hx4⟩:=cB.mp hx1;have hxs:x∉st:=by simpa using hx4
     have hxf:inF h w x:=bL.mp hx3;refine⟨_,rfl,_,rfl,_,rfl,_,rfl,_,rfl,_,rfl,?_⟩;refine⟨h,w,p,l,u,st,kn,x,rfl,h6,w6,(lp.mono (fl.same.trans (s4.trans (g1.trans (s6.trans s7))))).den,(g2.mono (s6.trans s7)).den,du,hxf,fun r8 H8 cs f8 nd8 XM=>?_⟩;have a4h:cs.length<=36:=by
      have:=lK (l2:=bH h w) nd8 fun y hy=>bL.mpr (((XM y).mp hy).inF hxf)
      rw[eU] at this;lia
     refine Ai (g2.mono (s6.trans (s7.trans f8.same))) f8.ls (by rw[aN,aN];lia) fun r9 H9 f9=>?_
     refine⟨r9,kn++cs,_,_,_,g1.trans (s6.trans (s7.trans (f8.same.trans f9.same))),by rw[dZ];exact f9.ls,?_,fun y hy=>?_,rfl⟩
     ·refine yE.mpr ⟨nd,nd8,fun y hy z hz e=>?_⟩;rw[<- e] at hz;exact((XM y).mp hz).new hxk hy
     ·rcases cD.mp hy with z|z
      ·exact g3 y z
      ·exact⟨((XM y).mp z).inF hxf,((XM y).mp z).free hxs⟩
    ·exact⟨l,kn,_,_,_,g1.trans s6,g2.mono s6,nd,g3,rfl⟩
   ·obtain⟨l,kn,v9,v10,v11,g1,g2,nd,g3,rfl⟩:=hh;exact hR _ _ ⟨l,kn,v9,v10,v11,fl.same.trans (s4.trans g1),g2,nd,g3,rfl⟩
  rintro zzs H5 ⟨l,kn,v9,v10,v11,s5,lk,nd,hkn,rfl⟩;refine⟨_,rfl,_,rfl,_,rfl,_,rfl,?_⟩;refine⟨h,w,p,l,st,kn,rfl,h6,w6,(lp.mono s5).den,lk.den,fun r H6 s6 nr hr6=>⟨_,rfl,sz rfl,fun t ht=>?_⟩⟩;have s7:=Same.put (o:=.tup [V.ref r,V.ref p]) ht;exact hq t r p _ h w st kn (s1.trans (s5.trans (s6.trans s7))) ((s1.trans s5).free nr) np (SqT.of aD) (s7 _ _ hr6) (lp.mono (s5.trans (s6.trans s7))) bh.1 bh.2 bw.1 bw.2 sub nd hkn
end
theorem Xu{zs:List Str}{r:Nat}(h:r<=zs.length):Fg (zs.map V.str) none (some (r:Int))=(zs.take r).map V.str:=by
 unfold Fg;rw[aN,HT.uX,HT.z9,Bw h,HF,Nat.sub_zero,List.map_take]
theorem QG{zs:List Str}{r:Nat}(h:r<=zs.length):Fg (zs.map V.str) (some (r:Int)) none=(zs.drop r).map V.str:=by
 unfold Fg;rw[aN,HT.uX,HT.z9,Bw h,List.map_drop];exact Cd (by rw[uh,aN];exact bK _)
theorem Oi{H:Hp}{p l:Addr}{ws us:List Str}{Q:VK}(hp:H p=some (.lst (ws.map V.str)))(hl:H l=some (.lst (us.map V.str)))(hw:ws.length+us.length<=10000)(hq:∀ q,H q=none->Q (.ref q) (upd H q (.lst ((ws++us).map V.str)))):Eh (.ref p) (.ref l) H Q:=
 ⟨_,_,hp,hl,(by rw[aN,aN];exact small hw),fun q h=>by have:=hq q h;rw[dZ] at this;exact this⟩
def Qi(K:ao):Sp:=fun vs H Q _=>∃(a p:Addr)(ns:List Int)(zs:List Str)(w:Nat),vs=[.ref a,.ref p]/\SqL K H a (ns.map V.int)/\H p=some (.lst (zs.map V.str))/\Vw zs w /\
 ∀ q zs' H',Same H H'->H' q=some (.lst (zs'.map V.str))->Vw zs' w->zs'.length=zs.length->Q (.ref q) H'
section
variable{P:Program}{w:World}{K:ao}{mg:Str->Option Value}{base:Heap}{Z:Adr}
theorem V0{f:Addr}{fd:FuncData} (F:Fun K "_law_wrong_by" "_law_wrong_by" jR f fd) (T:Txt K mg Z) (bI:Df P w K mg base 1 "_law_cell_at" ["script","k"] (Bc K)) (cP:Df P w K mg base 1 "_law_mix" ["cell","k","many"] Qe) :
  cH P w K mg base (CXE P w) 2 f fd ["script","rows"] (Qi K):=by
 refine F.rok fP (fun vs H Q E h=>?_) (fun cdv A outer s H vs Q E hr h=>?_)
 ·obtain⟨a,p,ns,zs,w,rfl,_⟩:=h;rfl
 ·obtain⟨a,p,ns,zs,w,rfl,hS,hp,vw,hq⟩:=h;have hu:=oN hr;have z6:=vw.le;have z1:=vw.ne;have w6:=vw.w6;have w1:=vw.w1;obtain⟨z0,zt,ez,hz0⟩:=vw.toRect.head;refine⟨_,(aB (bx (i:=2) fP.nd rfl (Or.inl rfl) (aP bI hr rfl aR (aj (rv 0) (aj aG ak)))) (aB (Vx (i:=3) (j:=4) rfl fP.nd rfl rfl (by decide) rfl rfl (aj (aP cP hr rfl aR (aj (rv 2) (aj aG (aj (aQ (cQ (K:=K)) rfl T.cI bO (aj (rv 1) ak)) ak)))) (aj (aP cP hr rfl aR (aj (rv 2) (aj aG (aj (aQ (cQ (K:=K)) rfl T.cI bO (aj (dz (dw (K:=K)) (rv 1) aG) ak)) ak)))) ak)) rfl) (aB (bx (i:=5) fP.nd rfl (Or.inl rfl) (dz (dw (K:=K)) sI (aP cP hr rfl aR (aj (rv 2) (aj aG (aj aG ak)))))) (aB (gM (c7 (Eb.or (DP (K:=K) hu)) (cV qD (rv 2) aG) aG (dh _)) (aC (bf (rv 1))) cG) (aB (bx (i:=6) fP.nd rfl (Or.inl rfl) (cV bQ (cV bQ (yV (XS (K:=K)) (dz (dw (K:=K)) (rv 1) (rv 3)) yZ (z7 (rv 4))) (rv 5)) (yV (XS (K:=K)) (dz (dw (K:=K)) (rv 1) (rv 3)) (z7 (cV bQ (rv 4) aG)) yZ))) (aC (bf (cV bQ (cV bQ (yV (XS (K:=K)) (rv 1) yZ (z7 (rv 3))) (dG (aj (rv 6) ak))) (yV (XS (K:=K)) (rv 1) (z7 (cV bQ (rv 3) aG)) yZ))))))))),?_⟩;refine aF (fun zzs H1=>∃ c:Int,Same H H1/\zzs=[zzR a,zzR p,zzI c,zzN,zzN,zzN,zzN]) (fun R hR=>?_) ?_
  ·exact⟨_,rfl,a,ns,18,rfl,by decide,hS,fun r=>hR _ _ ⟨r,Same.refl _,rfl⟩⟩
  rintro zzs H1 ⟨c,s1,rfl⟩;refine aF (fun zzs H2=>∃ i j:Nat,Same H H2/\i<zs.length/\j<w/\zzs=[zzR a,zzR p,zzI c,zzI i,zzI j,zzN,zzN]) (fun R hR=>?_) ?_
  ·refine⟨_,rfl,_,rfl,.inl ⟨p,_,rfl,.inl (SqL.of (s1 _ _ hp)),_,1,_,rfl,by rw[aN];lia,fun r1 H2 a2 b2 t2=>?_⟩⟩;rw[aN] at b2;refine⟨_,rfl,_,rfl,.inl ⟨p,_,_,_,rfl,rfl,SqL.of (t2 _ _ (s1 _ _ hp)),(by rw[ez];exact gQ),.inr ⟨z0,rfl,small (by lia),_,2,_,rfl,by lia,fun r2 H3 a3 b3 t3=>?_⟩⟩⟩;refine⟨_,_,rfl,hR _ _ ⟨r1.toNat,r2.toNat,s1.trans (t2.trans t3),by lia,by lia,?_⟩⟩;rw[Ho a2,Ho a3];rfl
  rintro zzs H2 ⟨i,j,s2,hi,hj,rfl⟩;refine aF (fun zzs H3=>∃ k:Nat,sJ k=true/\Same H H3/\zzs=[zzR a,zzR p,zzI c,zzI i,zzI j,some (.str ⟨#[k]⟩),zzN]) (fun R hR=>?_) ?_
  ·refine⟨_,rfl,_,3,5,rfl,by decide,fun r H3 a3 b3 t3=>?_⟩;have ml:("#0123" : Str).cps.toList.length=5:=by decide
   obtain⟨k,hk,ek⟩:=Kd (xs:=("#0123" : Str).cps.toList) (i:=r) a3 (by rw[ml];exact b3);exact .inr (.inr ⟨_,r,k,rfl,rfl,by decide,ek,hR _ _ ⟨k,(by decide:∀ x∈("#0123" : Str).cps.toList,sJ x=true) k hk,s2.trans t3,rfl⟩⟩)
  rintro zzs H3 ⟨k,hk,s3,rfl⟩;have p3:=s3 _ _ hp;refine aF (fun zzs H4=>Same H3 H4/\zzs=[zzR a,zzR p,zzI c,zzI i,zzI j,some (.str ⟨#[k]⟩),zzN]) (fun R hR=>?_) ?_
  ·refine⟨_,rfl,_,_,rfl,rfl,(by show(0:Int)<3;decide),.inl ⟨rfl,_,rfl,?_⟩⟩;refine Cw (fun _=>⟨_,rfl,hq p zs _ s3 p3 vw rfl⟩) (fun _=>hR _ _ ⟨Same.refl _,rfl⟩)
  rintro zzs H4 ⟨s4,rfl⟩;have p4:=s4 _ _ p3;have er:=vw.toRect.row hi;have b1:=Xc (zs.getD i Str.empty) none (some (j:Int));have b2:=Xc (zs.getD i Str.empty) (some ((j:Int)+1)) none;refine aF (fun zzs H5=>Same H4 H5/\zzs=[zzR a,zzR p,zzI c,zzI i,zzI j,some (.str ⟨#[k]⟩),some (.str (PySem.Txt.slice (zs.getD i Str.empty) none (some (j:Int))++⟨#[k]⟩++PySem.Txt.slice (zs.getD i Str.empty) (some ((j:Int)+1)) none))]) (fun R hR=>?_) ?_
  ·refine⟨_,rfl,_,rfl,.inl ⟨p,_,_,_,rfl,rfl,SqL.of p4,Ke hi,_,rfl,_,rfl,.inr ⟨_,rfl,small (by lia),_,rfl,small (by show _+1<=10000;lia),?_⟩⟩⟩;refine⟨_,rfl,_,rfl,.inl ⟨p,_,_,_,rfl,rfl,SqL.of p4,Ke hi,_,rfl,_,rfl,.inr ⟨_,rfl,small (by lia),?_,hR _ _ ⟨Same.refl _,rfl⟩⟩⟩⟩;rw[str_len,vR,cL,<- str_len];exact small (by show _+1+_<=10000;lia)
  rintro zzs H5 ⟨s5,rfl⟩;have p5:=s5 _ _ p4;refine⟨_,rfl,_,rfl,_,rfl,.inl ⟨p,_,rfl,SqL.of p5,fun l1 hl1=>?_⟩⟩;rw[Xu (by lia)];have t1:=Same.put (o:=.lst ((zs.take i).map V.str)) hl1;refine⟨_,rfl,sz rfl,fun l2 hl2=>?_⟩;have t2:=Same.put (o:=.lst [V.str (PySem.Txt.slice (zs.getD i Str.empty) none (some (j:Int))++⟨#[k]⟩++PySem.Txt.slice (zs.getD i Str.empty) (some ((j:Int)+1)) none)]) hl2;refine Oi (ws:=zs.take i) (us:=[PySem.Txt.slice (zs.getD i Str.empty) none (some (j:Int))++⟨#[k]⟩++PySem.Txt.slice (zs.getD i Str.empty) (some ((j:Int)+1)) none]) (t2 _ _ aD) aD (by rw[jX];show _+1<=10000;lia) fun l3 hl3=>?_
  have t3:=Same.put (o:=.lst ((zs.take i++[PySem.Txt.slice (zs.getD i Str.empty) none (some (j:Int))++⟨#[k]⟩++PySem.Txt.slice (zs.getD i Str.empty) (some ((j:Int)+1)) none]).map V.str)) hl3;have tA:=t1.trans (t2.trans t3);refine⟨_,rfl,_,rfl,_,rfl,.inl ⟨p,_,rfl,SqL.of (tA _ _ p5),fun l4 hl4=>?_⟩⟩;have ec:Fg (zs.map V.str) (some ((i:Int)+1)) none=(zs.drop (i+1)).map V.str:=QG (r:=i+1) (by lia);rw[ec];have t4:=Same.put (o:=.lst ((zs.drop (i+1)).map V.str)) hl4;refine Oi (ws:=zs.take i++[PySem.Txt.slice (zs.getD i Str.empty) none (some (j:Int))++⟨#[k]⟩++PySem.Txt.slice (zs.getD i Str.empty) (some ((j:Int)+1)) none]) (us:=zs.drop (i+1)) (t4 _ _ aD) aD
   (by rw[cL,jX,uh];show _+1+_<=10000;lia) fun q hq'=>?_
  have pv:=a1z (s:=⟨#[k]⟩) vw hi hj rfl (fun x hx=>by rw[show x=k by simpa using hx];exact hk);exact hq q _ _ (s3.trans (s4.trans (s5.trans (tA.trans (t4.and hq'))))) aD pv.1 pv.2
end
theorem aY.ZR{K:ao}{H:Hp}{α:Type}{g:α->Str}:∀ xs:List α,aY K H (xs.map (V.str ∘ g)) (xs.map fun x=>Dt.str (g x))
 |[]=>.nil
 |x::xs=>.cons (.str _) (aY.ZR xs)
theorem S6{K:ao}{H:Hp}{z:Str}{zzs:L2.St}{Q:VK}{te:TE}(hz:z.length<=sizeLine)
  (ht:∀(c:Nat)(H':Hp),∀ G:VK,G (.bl (inS "#012345678" c)) H'->te (some (.str ⟨#[c]⟩)::zzs) H' G)
  (hq:∀ H',Same H H'->Q (.bl (z.cps.toList.all (inS "#012345678"))) H') :
  ∃ W:Nat->Nat->List V->Hp->Prop,(∃ m,W 0 m [] H)/\m9 (Its z) K4 te zzs (fun ys H2=>∀ p,H2 p=none->∃(q:Addr)(bs:List Bool),[V.ref p]=[.ref q]/\SqL K (upd H2 p (.lst ys)) q (bs.map V.bl)/\Q (.bl (bs.all id)) (upd H2 p (.lst ys))) W:=by
 refine comp_map (K:=K) (xs:=z.cps.toList) (enc:=fun c=>Dt.str ⟨#[c]⟩) (V1 z) (by rw[nR];exact aY.ZR _) (by rw[jk];exact hz) (fun c=>Dt.bl (inS "#012345678" c)) (fun c _ v H' s D G hG=>?_) (fun ys H' s D p hp=>?_)
 ·cases D;exact ht c H' G (hG _ _ (Same.refl _) (.bl _))
 ·have e:ys=(z.cps.toList.map (inS "#012345678")).map V.bl:=by
   refine aY.FP (K:=K) (H:=H') ?_;rw[nR];exact D
  refine⟨p,z.cps.toList.map (inS "#012345678"),rfl,SqL.of (by rw[aD,e]),?_⟩;rw[HX];exact hq _ (s.and hp)
def ZQ:Sp:=fun vs H Q _=>∃(z:Str)(n:Int),vs=[.str z,.int n]/\z.length<=1000/\∀ H',Same H H'->Q (.bl (Am z n)) H'
theorem Dj{l n m:Int}{te:TE}{zzs:L2.St}{H:Hp}{G:VK}(he:∀ Q':VK,Q' (.int m) H->te zzs H Q')(hg:G (.bl (decide (l<=n/\n<=m))) H) :
  if decide (l<=n)=true then te zzs H (fun w' H4=>rI0 (fun i j=>.bl (decide (i<=j))) (.int n) w' H4 G) else G (.bl false) H:=by
 refine Cw (fun h1=>he _ ⟨_,_,rfl,rfl,?_⟩) (fun h1=>?_)
 ·have h1':=dN h1;have e:decide (l<=n/\n<=m)=decide (n<=m):=by simp[h1']
  show G (.bl (decide (n<=m))) H;rw[<- e];exact hg
 ·have e:decide (l<=n/\n<=m)=false:=bV fun h=>h1 (bG h.1)
  rw[<- e];exact hg
def Bb(m n:Int):Bool:=decide (1<=m/\m<=6)&&decide (1<=n/\n<=6)
def W3:Sp:=fun vs H Q _=>∃(m n:Int),vs=[.int m,.int n]/\Q (.bl (Bb m n)) H
def W4(K:ao):Sp:=fun vs H Q _=>∃(p:Addr)(zs:List Str),vs=[.ref p]/\SqL K H p (zs.map V.str)/\zs.length<=1000/\(∀ z∈zs,z.length<=1000)/\∀ H',Same H H'->Q (.bl (yu zs)) H'
theorem Zz{zs:List Str}:(((zs.map V.str).length:Nat):Int)=(zs.length:Int):=by rw[aN]
theorem Vv{K:ao}{H:Hp}{a:Addr}{zs:List Str}{n:Int}{zzs:L2.St}{Q:VK}{te:TE}(hS:SqL K H a (zs.map V.str))(hz:zs.length<=1000)
  (ht:∀ z∈zs,∀(H':Hp),Same H H'->∀ G:VK,(∀ H'',Same H' H''->G (.bl (Am z n)) H'')->te (some (.str z)::zzs) H' G)
  (hq:∀ H',Same H H'->Q (.bl (zs.all fun r=>Am r n)) H') :
  ∃ W:Nat->Nat->List V->Hp->Prop,(∃ m,W 0 m [] H)/\m9 (Itl K a) K4 te zzs (fun ys H2=>∀ p,H2 p=none->a2K K [V.ref p] (upd H2 p (.lst ys)) Q) W:=by
 refine comp_map (K:=K) (xs:=zs) (enc:=Dt.str) (bZ hS) (aY.strs zs) (small (by lia)) (fun z=>Dt.bl (Am z n)) (fun z hz v H' s D G hG=>?_) (fun ys H' s D p hp=>?_)
 ·cases D;exact ht z hz H' s G fun H'' s''=>hG _ _ s'' (.bl _)
 ·have e:ys=(zs.map fun z=>Am z n).map V.bl:=by
   refine aY.FP (K:=K) (H:=H') ?_;rw[nR];exact D
  refine⟨p,zs.map fun z=>Am z n,rfl,SqL.of (by rw[aD,e]),?_⟩;rw[HX];exact hq _ (s.and hp)
section
variable{P:Program}{w:World}{K:ao}{mg:Str->Option Value}{base:Heap}{Z:Adr}
theorem a0Q{f:Addr}{fd:FuncData} (F:Fun K "is_row" "is_row" Av f fd) (T:Txt K mg Z):cH P w K mg base (CXE P w) 1 f fd ["row","width"] ZQ:=by
 refine F.rok RZ (fun vs H Q E h=>?_) (fun cdv A outer s H vs Q E hr h=>?_)
 ·obtain⟨z,n,rfl,_⟩:=h;rfl
 ·obtain⟨z,n,rfl,hz,hq⟩:=h;have hu:=oN hr;have hu':=Cv hr;have hz':z.length<=sizeLine:=small (by lia);refine⟨_,(aC (bf (Jz (Ag (yh.or (xY (K:=K) hu)) (aQ (cQ (K:=K)) rfl T.cI bO (aj (rv 0) ak)) (rv 1) (dh _)) (Ei (aQ (k_all (K:=K) rfl) rfl T.Oe Kf (aj (iW (by rfl) rfl (a1D (rv 0)) (fun _ _ _=>uV) (fun _ _ _=>(Ag (jy.or (zY (K:=K) hu')) (rv 0) (Vl T.rJ rfl) (by rfl)))) ak)))))),?_⟩;refine⟨_,rfl,.inr ⟨z,rfl,hz',_,rfl,.inl ⟨rfl,_,rfl,?_⟩⟩⟩;rw[xT];refine Cw (fun h1=>?_) (fun h1=>?_)
  ·refine⟨_,rfl,z,rfl,S6 (K:=K) hz' (fun c H' G hG=>⟨_,rfl,.inl ⟨_,_,rfl,rfl,hG⟩⟩) fun H' s'=>?_⟩;have:=hq H' s';unfold Am at this;rw[h1,pN] at this;exact this
  ·have:=hq H (Same.refl _);unfold Am at this;rw[Bool.eq_false_iff.mpr h1,vD] at this;exact this
theorem Yq{f:Addr}{fd:FuncData} (F:Fun K "is_size" "is_size" wK f fd) (T:Txt K mg Z):cH P w K mg base (CXE P w) 1 f fd ["height","width"] W3:=by
 refine F.rok Mf (fun vs H Q E h=>?_) (fun cdv A outer s H vs Q E hr h=>?_)
 ·obtain⟨m,n,rfl,_⟩:=h;rfl
 ·obtain⟨m,n,rfl,hq⟩:=h;refine⟨_,(aC (bf (Jz (yU qC qC aG (rv 0) (LR T.j6 rfl)) (Ei (yU qC qC aG (rv 1) (LR T.fM rfl)))))),?_⟩;refine⟨_,rfl,_,_,rfl,rfl,_,rfl,?_⟩;refine Dj (m:=6) (fun _ q=>q) ⟨_,rfl,gU (fun hb=>?_) (fun hb=>?_)⟩
  ·unfold Bb at hq;rw[hb,pN] at hq;refine⟨_,rfl,_,_,rfl,rfl,_,rfl,?_⟩;exact Dj (m:=6) (fun _ q=>q) hq
  ·unfold Bb at hq;rw[hb,vD] at hq;exact hq
theorem JT{m n:Int}:Bb m n=true↔((1<=m/\m<=6)/\(1<=n/\n<=6)):=by
 unfold Bb;rw[jY,iw,iw]
theorem Yr{f:Addr}{fd:FuncData} (F:Fun K "is_view" "is_view" wL f fd) (T:Txt K mg Z) (zp:Df P w K mg base 1 "is_row" ["row","width"] ZQ) (vL:Df P w K mg base 1 "is_size" ["height","width"] W3):cH P w K mg base (CXE P w) 2 f fd ["rows"] (W4 K):=by
 refine F.rok Mh (fun vs H Q E h=>?_) (fun cdv A outer s H vs Q E hr h=>?_)
 ·obtain⟨p,zs,rfl,_⟩:=h;rfl
 ·obtain⟨p,zs,rfl,hS,hn,hz,hq⟩:=h;have hu:=oN hr;refine⟨_,(aB (gM (RV (Vo (c7 (yh.or (xY (K:=K) hu)) (aQ (cQ (K:=K)) rfl T.cI bO (aj (rv 0) ak)) aG (dh _)) (Vp (qI (mR (aP vL hr rfl aR (aj (aQ (cQ (K:=K)) rfl T.cI bO (aj (rv 0) ak)) (aj (aQ (cQ (K:=K)) rfl T.cI bO (aj (dz (dw (K:=K)) (rv 0) aG) ak)) ak)))))))) (aC (bf uR)) cG) (aC (bf (aQ (k_all (K:=K) rfl) rfl T.Oe Kf (aj (iW (by rfl) rfl (bB (K:=K) (rv 0)) (fun _ _ _=>uV) (fun _ _ _=>(aP zp hr rfl aR (aj (rv 0) (aj (aQ (cQ (K:=K)) rfl T.cI bO (aj (dz (dw (K:=K)) (rv 1) aG) ak)) ak))))) ak))))),?_⟩;refine⟨_,rfl,.inl ⟨p,_,rfl,.inl hS,.inl ⟨rfl,_,rfl,?_⟩⟩⟩;rw[Zz,xT];refine gU (fun hb=>?_) (fun hb=>?_)
  ·cases zs with
   |nil=>exact hq H (Same.refl _)
   |cons z zs=>have:=dN hb;simp only[dY] at this;lia
  cases zs with
  |nil=>cases hb
  |cons z zs=>
   have z0:=hz z cU;refine⟨_,rfl,.inl ⟨p,_,rfl,.inl hS,_,rfl,.inl ⟨p,_,_,_,rfl,rfl,hS,gQ,.inr ⟨z,rfl,small (by lia),?_⟩⟩⟩⟩;refine⟨_,_,rfl,?_⟩;rw[Zz];refine⟨_,rfl,gU (fun h1=>?_) (fun h1=>?_)⟩
   ·have:=hq H (Same.refl _);have h1:¬Bb ((z::zs).length:Nat) z.length=true:=by simpa using h1
    rw[JT] at h1;by_cases h2:(z::zs).length<=6
    ·rw[Mu (by simp only[dY] at h1 h2 ⊢;lia)] at this;exact this
    ·rw[Mt h2] at this;exact this
   ·have h1:Bb ((z::zs).length:Nat) z.length=true:=by simpa using h1
    rw[JT] at h1;obtain⟨⟨a1,a2⟩,a3,a4⟩:=h1;refine⟨_,rfl,p,rfl,⟨_,hS⟩,Vv hS hn (n:=z.length) (fun r hr' H' s' G hG=>?_) fun H' s'=>?_⟩
    ·refine⟨_,rfl,_,rfl,.inl ⟨p,_,_,_,rfl,rfl,s'.seq hS,gQ,.inr ⟨z,rfl,small (by lia),?_⟩⟩⟩;exact⟨r,_,rfl,hz r hr',hG⟩
    ·rw[<- Bg (by lia) (by lia) (by lia)];exact hq H' s'
def Ml(K:ao)(C B:Addr):Sp:=fun vs H Q E=>∃(x dx p:Addr)(z:List Str),vs=[.ref x,.ref p]/\H x=some (.ins C dx [])/\SqL K H p (z.map V.str)/\z.length<=1000/\(∀ r∈z,r.length<=1000) /\
 (yu z=false->∀ H',Same H H'->E (.ref B) none H')/\(yu z=true->∀ H' (l:Addr) (z0:Str) (zs:List Str),z=z0::zs->H l=none->l≠x->H' l=some (.lst (z.map V.str))->H' x=some (.ins C dx (xV l z.length z0.length))->(∀ b o,H b=some o->b≠x->H' b=some o)->Q .non H')
theorem W5{K:ao}{H:Hp}{p x C dx:Addr}{xs:List V}{fs:List (Str×V)}{o:HO}(h:SqL K H p xs)(hx:H x=some (.ins C dx fs)):SqL K (upd H x o) p xs:=by
 rcases h with(h|⟨ob,h⟩)|h
 ·exact .inl (.inl (by rw[bF (qy h hx (by intro z;cases z))];exact h))
 ·exact .inl (.inr ⟨ob,by rw[bF (qy h hx (by intro z;cases z))];exact h⟩)
 ·exact .inr h
theorem a3B{a b:Str}{u v:V}:(jO a v (jO b u [])).length<1000:=by
 have h1:=mD a v (jO b u []);have h2:=mD b u [];simp only[wZ] at h2;lia
theorem Ym{f:Addr}{fd:FuncData} (F:Fun K "__init__" "View.__init__" jP f fd) (T:Txt K mg Z) (vM:Df P w K mg base 2 "is_view" ["rows"] (W4 K)):cH P w K mg base (CXE P w) 3 f fd ["self","rows"] (Ml K Z.View Z.BadView):=by
 refine F.RQ wO (fun vs H Q E h=>?_) (fun cdv A outer s H vs Q E hr h=>?_)
 ·obtain⟨x,dx,p,z,rfl,_⟩:=h;rfl
 ·obtain⟨x,dx,p,z,rfl,hx,hS,hn,hz,hE,hq⟩:=h;have hd:=P0 hr;refine⟨_,(aB (gM (RT.nox (qI (mR (aP vM hr rfl aR (aj (rv 1) ak))))) (aC (qH T.rY rfl T.Dg hd (aj sI ak))) cG) (aB (RS.nox (M7 (rv 0) (uT (a0u (K:=K)) rfl T.Sv Xn (aj (rv 1) ak)))) (aB (RS.nox (M7 (rv 0) (aQ (cQ (K:=K)) rfl T.cI bO (aj (rv 1) ak)))) (aC (RS.nox (M7 (rv 0) (aQ (cQ (K:=K)) rfl T.cI bO (aj (dz (dw (K:=K)) (rv 1) aG) ak)))))))),?_⟩;refine⟨_,rfl,p,z,rfl,hS,hn,hz,fun H1 s1=>⟨_,rfl,?_⟩⟩;cases hv:yu z with
  |false=>exact Cy ⟨by decide,hE hv H1 s1⟩
  |true=>
   refine wu ?_;cases z with
   |nil=>exact absurd (show false=true from hv) (by decide)
   |cons z0 zs=>
    have z0':=hz z0 cU;refine⟨_,rfl,p,_,rfl,.inl (s1.seq hS),fun l hl=>?_⟩;have nlx:l≠x:=(bU (s1 x _ hx) hl).symm;have h1:(upd H1 l (.lst ((z0::zs).map V.str))) x=some (.ins Z.View dx []):=by rw[bF nlx.symm];exact s1 x _ hx
    have S1:SqL K (upd H1 l (.lst ((z0::zs).map V.str))) p ((z0::zs).map V.str):=(s1.and hl).seq hS;refine⟨_,rfl,x,Z.View,dx,_,rfl,h1,T.gH,T.j7,(by show 0<1000;decide),?_⟩;have S2:=W5 (o:=.ins Z.View dx (jO "rows" (.ref l) [])) S1 h1;refine⟨_,rfl,.inl ⟨p,_,rfl,.inl S2,_,rfl,x,Z.View,dx,_,rfl,aD,T.gH,T.fj,(by show 1<1000;decide),?_⟩⟩;have S3:=W5 (o:=.ins Z.View dx (jO "height" (.int ((z0::zs).map V.str).length) (jO "rows" (.ref l) []))) S2 aD;refine⟨_,rfl,.inl ⟨p,_,_,_,rfl,rfl,S3,gQ,.inr ⟨z0,rfl,small (by lia),_,rfl,x,Z.View,dx,_,rfl,aD,T.gH,T.fZ,a3B,?_⟩⟩⟩;refine hq hv _ l z0 zs rfl (s1.free hl) nlx ?_ ?_ (fun b o e hb=>?_)
    ·rw[bF nlx,bF nlx,bF nlx,aD]
    ·rw[aD];rw[aN];rfl
    ·rw[bF hb,bF hb,bF hb];exact(s1.and hl) b o e
end
def VR(K:ao)(C:Addr):Sp:=fun vs H Q _=>∃(x:Addr)(v:V)(zs:List Str)(w:Nat)(c:Cell),vs=[.ref x,v]/\dW C H x zs w/\Den K H v (aA c)/\Q (.bl (decide (inF zs.length w c))) H
def iZ(K:ao)(C:Addr):Sp:=fun vs H Q _=>∃(x:Addr)(v:V)(zs:List Str)(w:Nat)(c:Cell),vs=[.ref x,v]/\dW C H x zs w/\Den K H v (aA c)/\Q (.bl (aM zs w c)) H
def pA(K:ao)(C:Addr):Sp:=fun vs H Q _=>∃(x:Addr)(zs:List Str)(w:Nat),vs=[.ref x]/\dW C H x zs w/\∀ q H',Fr K H H' q ((bH zs.length w).map aA)->Q (.ref q) H'
def zm(K:ao)(C NC:Addr):Sp:=fun vs H Q E=>∃(x:Addr)(v:V)(zs:List Str)(w:Nat)(c:Cell),vs=[.ref x,v]/\dW C H x zs w/\Den K H v (aA c)/\(inF zs.length w c->∀ q H',Fr K H H' q ((cJ zs.length w c).map aA)->Q (.ref q) H')/\(¬inF zs.length w c->∀ H',Same H H'->E (.ref NC) none H')
section
variable{P:Program}{w:World}{K:ao}{mg:Str->Option Value}{base:Heap}{Z:Adr}
theorem a0M{f:Addr}{fd:FuncData} (F:Fun K "has_cell" "has_cell" u9 f fd) (T:Txt K mg Z):cH P w K mg base (CXE P w) 1 f fd ["view","cell"] (VR K Z.View):=by
 refine F.rok JM (fun vs H Q E h=>?_) (fun cdv A outer s H vs Q E hr h=>?_)
 ·obtain⟨x,v,zs,w,c,rfl,_⟩:=h;rfl
 ·obtain⟨x,v,zs,w,c,rfl,vt,dv,hq⟩:=h;obtain⟨dx,l,hx,hl⟩:=vt.ob;refine⟨_,(aC (bf (Jz (yU qC Ac aG (dz (dw (K:=K)) (rv 1) aG) (qu (K:=K) (rv 0))) (Ei (yU qC Ac aG (dz (dw (K:=K)) (rv 1) aG) (qu (K:=K) (rv 0))))))),?_⟩;refine⟨_,rfl,tX dv ⟨_,_,rfl,rfl,_,rfl,?_⟩⟩;refine Dk (m:=(zs.length:Int)) (fun Q' q=>⟨_,rfl,x,Z.View,dx,_,_,rfl,hx,T.gH,T.fj,zV _ _ _,q⟩) ⟨_,rfl,?_⟩;have fin:∀ b:Bool,b=decide (inF zs.length w c)->Q (.bl b) H:=fun b e=>by rw[e];exact hq
  refine gU (fun h1=>?_) (fun h1=>fin _ (bV fun z=>by rw[bG z.1] at h1;cases h1).symm);refine⟨_,rfl,tY dv ⟨_,_,rfl,rfl,_,rfl,?_⟩⟩;refine Dk (m:=(w:Int)) (fun Q' q=>⟨_,rfl,x,Z.View,dx,_,_,rfl,hx,T.gH,T.fZ,Ft _ _ _,q⟩) (fin _ ?_);have h1':=dN h1;by_cases h2:0<=c.2/\c.2<(w:Int)
  ·rw[bG h2,bG (show inF zs.length w c from⟨h1',h2⟩)]
  ·rw[bV h2,bV (fun z:inF zs.length w c=>h2 z.2)]
theorem Jr{f:Addr}{fd:FuncData} (F:Fun K "is_closed" "is_closed" qL f fd) (T:Txt K mg Z) (jw:Df P w K mg base 1 "has_cell" ["view","cell"] (VR K Z.View)):cH P w K mg base (CXE P w) 2 f fd ["view","cell"] (iZ K Z.View):=by
 refine F.rok Gi (fun vs H Q E h=>?_) (fun cdv A outer s H vs Q E hr h=>?_)
 ·obtain⟨x,v,zs,w,c,rfl,_⟩:=h;rfl
 ·obtain⟨x,v,zs,w,c,rfl,vt,dv,hq⟩:=h;obtain⟨dx,l,hx,hl⟩:=vt.ob;have hu:=oN hr;refine⟨_,(aC (bf (Jz (aP jw hr rfl aR (aj (rv 0) (aj (rv 1) ak))) (Ei (Ag (yh.or (xY (K:=K) hu)) (dz (dw (K:=K)) (dz (dw (K:=K)) (qu (K:=K) (rv 0)) (dz (dw (K:=K)) (rv 1) aG)) (dz (dw (K:=K)) (rv 1) aG)) (Vl T.gw rfl) (dh _)))))),?_⟩;refine⟨_,rfl,_,rfl,x,v,zs,w,c,rfl,vt,dv,_,rfl,?_⟩;unfold aM at hq;refine gU (fun h1=>?_) (fun h1=>?_)
  ·rw[h1,pN] at hq;obtain⟨⟨a1,a2⟩,⟨a3,a4⟩⟩:=dN h1;have e1:c.1=((c.1.toNat:Nat):Int):=by lia
   have e2:c.2=((c.2.toNat:Nat):Int):=by lia
   have i1:c.1.toNat<zs.length:=by lia
   refine⟨_,rfl,x,Z.View,dx,_,_,rfl,hx,T.gH,T.j7,Tt _ _ _,_,rfl,tX dv ?_⟩;rw[e1];refine G9 (SqL.of hl) i1 ⟨_,rfl,tY dv ?_⟩;rw[e2];refine yX (SqL.of hl) vt.vw.toRect i1 (by lia) (.inl ⟨rfl,?_⟩);have es:decide (V.str ⟨#[codeAt zs (c.1.toNat,c.2.toNat)]⟩=V.str "#")=decide (codeAt zs (c.1.toNat,c.2.toNat)=35):=by
    congr 1;apply propext;have eh:("#" : Str)=⟨#[35]⟩:=by decide +kernel
    rw[eh];constructor
    ·intro z;simpa using z
    ·intro z;rw[z]
   rw[es];exact hq
  ·rw[h1,vD] at hq;exact hq
theorem Jp{f:Addr}{fd:FuncData} (F:Fun K "cells" "cells" Gd f fd) (T:Txt K mg Z):cH P w K mg base (CXE P w) 1 f fd ["view"] (pA K Z.View):=by
 refine F.rok uY (fun vs H Q E h=>?_) (fun cdv A outer s H vs Q E hr h=>?_)
 ·obtain⟨x,zs,w,rfl,_⟩:=h;rfl
 ·obtain⟨x,zs,w,rfl,vt,hq⟩:=h;have z6:=vt.vw.le;have w6:=vt.vw.w6;have l36:zs.length*w<=6*6:=jZ z6 w6;refine⟨_,(aB (bx (i:=1) uY.nd rfl (Or.inl rfl) (dG ak)) (aB (cC eE rfl (dH rfl T.eG (aj (qu (K:=K) (rv 0)) ak)) (bC (i:=2) uY.nd rfl (Or.inl rfl)) (aC (cC eE rfl (dH rfl T.eG (aj (qu (K:=K) (rv 0)) ak)) (bC (i:=3) uY.nd rfl (Or.inl rfl)) (aC (jF (sG (K:=K) qY sO sS gB (rv 1) (aj (fV (aj (rv 2) (aj (rv 3) ak))) ak))))))) (aC (bf (rv 1))))),?_⟩;refine aF (fun zzs H1=>∃ q,H q=none/\Same H H1/\H1 q=some (.lst [])/\zzs=[zzR x,zzR q,zzN,zzN]) (fun R hR=>?_) ?_
  ·exact⟨by decide,fun q hq'=>hR _ _ ⟨q,hq',Same.put hq',aD,rfl⟩⟩
  rintro zzs H1 ⟨q,nq,s1,hq1,rfl⟩;refine aF (fun zzs H2=>∃(v2 v3:Option V),Fr K H H2 q ((bH zs.length w).map aA)/\zzs=[zzR x,zzR q,v2,v3]) (fun R hR=>?_) ?_
  ·obtain⟨dx,l,hx,hl⟩:=(vt.mono s1).ob;refine⟨_,rfl,x,Z.View,dx,_,_,rfl,hx,T.gH,T.fj,zV _ _ _,_,rfl,by lia,by lia,?_⟩;rw[jm];refine dD (lo:=0) (n:=zs.length) (fun i zzs H2=>∃(v2 v3:Option V),Same H H2/\Ls K H2 q ((bH i w).map aA)/\zzs=[zzR x,zzR q,v2,v3]) ⟨none,none,s1,⟨[],hq1,.nil⟩,rfl⟩ (fun i zzs H2 hi hh=>?_) (fun zzs H2 hh=>?_)
   ·obtain⟨v2,v3,g1,g2,rfl⟩:=hh;obtain⟨dx,l,hx,hl⟩:=(vt.mono g1).ob;refine⟨_,rfl,x,Z.View,dx,_,_,rfl,hx,T.gH,T.fZ,Ft _ _ _,_,rfl,by lia,by lia,?_⟩;rw[jm];refine dD (lo:=0) (n:=w) (fun j zzs H2=>∃ v3:Option V,Same H H2/\Ls K H2 q ((bH i w++(List.range j).map fun c:Nat=>((i:Int),(c:Int))).map aA)/\zzs=[zzR x,zzR q,zzI (0+i),v3]) ⟨v3,g1,by simpa using g2,rfl⟩ (fun j zzs H2 hj hh=>?_) (fun zzs H2 hh=>?_)
    ·obtain⟨v3,g1,⟨xs,ex,D⟩,rfl⟩:=hh;have step:bH i w++(List.range (j+1)).map (fun c:Nat=>((i:Int),(c:Int)))=(bH i w++(List.range j).map fun c:Nat=>((i:Int),(c:Int)))++[((i:Int),(j:Int))]:=by
      rw[tu,dZ,<- yD];rfl
     have ll:=D.length;rw[aN,cL,eU,aN,jo] at ll;have hl2:i*w<=6*6:=jZ (by lia) w6;refine⟨_,rfl,.inl ⟨rfl,_,SqL.of ex⟩,_,rfl,_,rfl,sz rfl,fun t ht=>?_⟩;have st:=Same.put (o:=.tup [V.int (0+i),V.int (0+j)]) ht;refine⟨q,xs,_,rfl,rfl,st _ _ ex,ltl (by lia),?_⟩;refine⟨_,(SameBut.refl q _).put.of (g1.trans st) nq,⟨xs++[.ref t],aD,?_⟩,rfl⟩;rw[step,dZ];refine((SameBut.refl q _).put.cells (st _ _ ex) (D.mono st)).append (.cons ((SameBut.refl q _).put.cell (st _ _ ex) ?_) .nil);rw[nT,nT];exact gk
    ·obtain⟨v3,g1,g2,rfl⟩:=hh;exact⟨_,_,g1,by rw[oJ];exact g2,rfl⟩
   ·obtain⟨v2,v3,g1,g2,rfl⟩:=hh;exact hR _ _ ⟨v2,v3,⟨g1,nq,g2⟩,rfl⟩
  rintro zzs H2 ⟨v2,v3,fr,rfl⟩;exact⟨_,rfl,hq q H2 fr⟩
end
def pB(K:ao)(C:Addr)(g:List Str->Nat->Cell->List Cell):Sp:=fun vs H Q _=>∃(x:Addr)(v:V)(zs:List Str)(w:Nat)(c:Cell),vs=[.ref x,v]/\dW C H x zs w/\Den K H v (aA c)/\inF zs.length w c/\∀ q H',Fr K H H' q ((g zs w c).map aA)->Q (.ref q) H'
def lV(K:ao)(C:Addr)(g:List Str->Nat->List Cell):Sp:=fun vs H Q _=>∃(x:Addr)(zs:List Str)(w:Nat),vs=[.ref x]/\dW C H x zs w/\∀ q H',Fr K H H' q ((g zs w).map aA)->Q (.ref q) H'
def bT(zs:List Str)(w:Nat):List Cell:=(bA zs w).filter fun x=>decide (0<(aL zs w x).length)
def j8(zs:List Str)(w:Nat):List Cell:=(bA zs w).filter fun x=>decide ((aL zs w x).length=0)
theorem eY{zs:List Str}{w:Nat}(v:Vw zs w):(bA zs w).length<=36:=by
 have h1:(bA zs w).length<=(bH zs.length w).length:=iJ _ _;rw[eU] at h1;have h2:zs.length*w<=6*6:=jZ v.le v.w6;lia
theorem uQ(zs:List Str)(w:Nat)(x:Cell):(aL zs w x).length<=8:=cO (iJ _ _) (gA _ _ _)
theorem a0g(a b:Cell):(!eqD (aA a) (aA b))=!decide (a=b):=by rw[J4]
theorem Pj(a:Int):(if(0:Int)>a then(0:Int) else a)=max a 0:=by by_cases h:(0:Int)>a<;>simp only[h,jT,jD]<;>lia
theorem Pk(a b:Int):(if b<a then b else a)=min a b:=by by_cases h:b<a<;>simp only[h,jT,jD]<;>lia
theorem Ui{a:Int}(h:a<=6):0<=max a 0/\max a 0<=6:=⟨Int.le_max_right _ _,Int.max_le.mpr ⟨h,by decide⟩⟩
theorem Uk{a b:Int}(h:0<=a)(h0:0<=b)(h2:b<=6):0<=min a b/\min a b<=6:=⟨Int.le_min.mpr ⟨h,h0⟩,Int.le_trans (Int.min_le_right _ _) h2⟩
theorem Vt{i j:Int}(a:0<=i/\i<=6)(b:0<=j/\j<=6) : -(2^62)<=i/\i<2^62 /\ -(2^62)<=j/\j<2^62:=⟨by lia,by omega,by lia,by omega⟩
theorem T4{a b:Int}{i:Nat}(ha:0<=a)(hb:b<=6)(h:i<(b-a).toNat):i<6:=by lia
theorem a0c{a b:Int}(ha:0<=a)(hb:b<=6):(b-a).toNat<=6:=by lia
theorem a3b{a b n:Nat}(h1:a<=n*6)(h2:b<=6):a+b<=(n+1)*6:=by lia
theorem a2v{a b i j:Nat}(h1:a<=i*6)(h2:b<=j)(hi:i<6)(hj:j<6):a+b<=100:=by lia
section
variable{P:Program}{w:World}{K:ao}{mg:Str->Option Value}{base:Heap}{Z:Adr}
theorem UG{f:Addr}{fd:FuncData} (F:Fun K "near" "near" M9 f fd) (T:Txt K mg Z) (jw:Df P w K mg base 1 "has_cell" ["view","cell"] (VR K Z.View)):cH P w K mg base (CXE P w) 2 f fd ["view","cell"] (zm K Z.View Z.NoCell):=by
 refine F.RQ zf (fun vs H Q E h=>?_) (fun cdv A outer s H vs Q E hr h=>?_)
 ·obtain⟨x,v,zs,w,c,rfl,_⟩:=h;rfl
 ·obtain⟨x,v,zs,w,c,rfl,vt,dv,hq,hE⟩:=h;have hu:=oN hr;have hd:=P0 hr;have z6:=vt.vw.le;have w6:=vt.vw.w6;refine⟨_,(aB (gM (RT.nox (qI (mR (aP jw hr rfl aR (aj (rv 0) (aj (rv 1) ak)))))) (aC (qH T.qW rfl T.zE hd (aj sI ak))) cG) (aB (RS.nox (bx (i:=2) zf.nd rfl (Or.inl rfl) (dG ak))) (aB (RS.nox (cC eE rfl (wG rfl T.eG (aj (aQ (Dh rfl) rfl T.Sw SJ (aj (cV FQ (dz (dw (K:=K)) (rv 1) aG) aG) (aj aG ak))) (aj (aQ (Di rfl) rfl T.Sx SM (aj (cV bQ (dz (dw (K:=K)) (rv 1) aG) aG) (aj (qu (K:=K) (rv 0)) ak))) ak))) (bC (i:=3) zf.nd rfl (Or.inl rfl)) (aC (cC eE rfl (wG rfl T.eG (aj (aQ (Dh rfl) rfl T.Sw SJ (aj (cV FQ (dz (dw (K:=K)) (rv 1) aG) aG) (aj aG ak))) (aj (aQ (Di rfl) rfl T.Sx SM (aj (cV bQ (dz (dw (K:=K)) (rv 1) aG) aG) (aj (qu (K:=K) (rv 0)) ak))) ak))) (bC (i:=4) zf.nd rfl (Or.inl rfl)) (aC (gM (c7 (Eb.or (DP (K:=K) hu)) (fV (aj (rv 3) (aj (rv 4) ak))) (rv 1) (dh _)) (aC (jF (sG (K:=K) qY sO sS gB (rv 2) (aj (fV (aj (rv 3) (aj (rv 4) ak))) ak)))) cG)))))) (aC (RS.nox (bf (rv 2))))))),?_⟩;refine aF (fun zzs H1=>inF zs.length w c/\Same H H1/\zzs=[zzR x,some v,zzN,zzN,zzN]) (fun R hR=>?_) ?_
  ·refine⟨_,rfl,_,rfl,x,v,zs,w,c,rfl,vt,dv,_,rfl,?_⟩;refine gU (fun h1=>⟨by decide,hE (pK (by simpa only[lY] using h1)) H (Same.refl _)⟩) (fun h1=>hR _ _ ⟨dN (by simpa only[uf] using h1),Same.refl _,rfl⟩)
  rintro zzs H1 ⟨hin,s1,rfl⟩;have hq':=hq hin;rw[<- Va z6 w6 hin] at hq';obtain⟨⟨c1,c2⟩,⟨c3,c4⟩⟩:=id hin;refine aF (fun zzs H2=>∃ q,H q=none/\Same H H2/\H2 q=some (.lst [])/\zzs=[zzR x,some v,zzR q,zzN,zzN]) (fun R hR=>?_) ?_
  ·exact⟨by decide,fun q hq'=>hR _ _ ⟨q,s1.free hq',s1.and hq',aD,rfl⟩⟩
  rintro zzs H2 ⟨q,nq,s2,hq2,rfl⟩;have m1:(if(0:Int)>c.1-1 then(0:Int) else c.1-1)=max (c.1-1) 0:=Pj _;have m2:(if(zs.length:Int)<c.1+2 then(zs.length:Int) else c.1+2)=min (c.1+2) zs.length:=Pk _ _;have m3:(if(0:Int)>c.2-1 then(0:Int) else c.2-1)=max (c.2-1) 0:=Pj _;have m4:(if(w:Int)<c.2+2 then(w:Int) else c.2+2)=min (c.2+2) w:=Pk _ _;have bx1:=Ui (a:=c.1-1) (by lia);have bx2:=Ui (a:=c.2-1) (by lia);have bn1:=Uk (a:=c.1+2) (b:=(zs.length:Int)) (by lia) (by lia) (by lia);have bn2:=Uk (a:=c.2+2) (b:=(w:Int)) (by lia) (by lia) (by lia);refine aF (fun zzs H3=>∃(v3 v4:Option V),Fr K H H3 q ((LK zs.length w c).map aA)/\zzs=[zzR x,some v,zzR q,v3,v4]) (fun R hR=>?_) ?_
  ·obtain⟨dx,l,hx,hl⟩:=(vt.mono s2).ob;refine⟨_,rfl,tX (dv.mono s2) ⟨_,_,rfl,rfl,_,_,rfl,?_⟩⟩;refine⟨_,rfl,tX (dv.mono s2) ⟨_,rfl,x,Z.View,dx,_,_,rfl,hx,T.gH,T.fj,zV _ _ _,_,_,rfl,_,_,rfl,?_⟩⟩;rw[m1,m2];refine⟨Vt bx1 bn1,?_⟩;refine dD (lo:=max (c.1-1) 0) (n:=(min (c.1+2) (zs.length:Int)-max (c.1-1) 0).toNat) (fun i zzs H3=>∃(v3 v4:Option V),Same H H3/\Ls K H3 q ((oV w c (max (c.1-1) 0) i).map aA)/\zzs=[zzR x,some v,zzR q,v3,v4]) ⟨none,none,s2,⟨[],hq2,.nil⟩,rfl⟩ (fun i zzs H3 hi hh=>?_) (fun zzs H3 hh=>?_)
   ·obtain⟨v3,v4,g1,g2,rfl⟩:=hh;obtain⟨dx,l,hx,hl⟩:=(vt.mono g1).ob;refine⟨_,rfl,tY (dv.mono g1) ⟨_,_,rfl,rfl,_,_,rfl,?_⟩⟩;refine⟨_,rfl,tY (dv.mono g1) ⟨_,rfl,x,Z.View,dx,_,_,rfl,hx,T.gH,T.fZ,Ft _ _ _,_,_,rfl,_,_,rfl,?_⟩⟩;rw[m3,m4];refine⟨Vt bx2 bn2,?_⟩;have base0:oV w c (max (c.1-1) 0) (i+1)=oV w c (max (c.1-1) 0) i++yR w c (max (c.1-1) 0+(i:Int)):=by
     unfold oV;rw[tu,Hg];simp
    have pl:∀ n,(oV w c (max (c.1-1) 0) n).length<=n*6:=by
     intro n
     induction n with
     |zero=>simp[oV]
     |succ n ih=>
      unfold oV at ih ⊢;rw[tu,Hg,cL];have:([n].flatMap fun k:Nat=>yR w c (max (c.1-1) 0+(k:Int))).length<=6:=by
       simp only[Nt,List.flatMap_nil,qX];unfold yR;refine cO (iJ _ _) ?_;rw[aN,jo];exact a0c bx2.1 bn2.2
      exact a3b ih this
    refine dD (lo:=max (c.2-1) 0) (n:=(min (c.2+2) (w:Int)-max (c.2-1) 0).toNat) (fun j zzs H3=>∃ v4:Option V,Same H H3/\Ls K H3 q ((oV w c (max (c.1-1) 0) i++((List.range j).map fun k:Nat=>(max (c.1-1) 0+(i:Int),max (c.2-1) 0+(k:Int))).filter fun y=>!decide (y=c)).map aA)/\zzs=[zzR x,some v,zzR q,zzI (max (c.1-1) 0+(i:Int)),v4])
     ⟨v4,g1,by simpa using g2,rfl⟩ (fun j zzs H3 hj hh=>?_) (fun zzs H3 hh=>?_)
    ·obtain⟨v4,g1,⟨xs,ex,D⟩,rfl⟩:=hh;have step:∀ b:Bool,b=!decide ((max (c.1-1) 0+(i:Int),max (c.2-1) 0+(j:Int))=c)->(((List.range (j+1)).map fun k:Nat=>(max (c.1-1) 0+(i:Int),max (c.2-1) 0+(k:Int))).filter fun y=>!decide (y=c))=(((List.range j).map fun k:Nat=>(max (c.1-1) 0+(i:Int),max (c.2-1) 0+(k:Int))).filter fun y=>!decide (y=c))++(if b=true then [(max (c.1-1) 0+(i:Int),max (c.2-1) 0+(j:Int))] else []):=by
      intro b hb;rw[tu,dZ,sU,dJ,HW,um,List.filter_nil,<- hb]
     have ll:xs.length<=100:=by
      rw[D.length,aN,cL];have:=pl i;have h2:(((List.range j).map fun k:Nat=>(max (c.1-1) 0+(i:Int),max (c.2-1) 0+(k:Int))).filter fun y=>!decide (y=c)).length<=j:=cO (iJ _ _) (by rw[aN,jo];exact bK _);exact a2v this h2 (T4 bx1.1 bn1.2 hi) (T4 bx2.1 bn2.2 hj)
     refine⟨_,rfl,_,rfl,sz rfl,fun t ht=>?_⟩;have st:=Same.put (o:=.tup [V.int (max (c.1-1) 0+(i:Int)),V.int (max (c.2-1) 0+(j:Int))]) ht;refine⟨_,rfl,.inr ⟨aA (max (c.1-1) 0+(i:Int),max (c.2-1) 0+(j:Int)),aA c,rfl,gk,dv.mono (g1.trans st),rfl,zP _,?_⟩⟩;refine⟨_,rfl,?_⟩;show if(!eqD _ _)=true then _ else _
     rw[a0g];refine gU (fun hb=>?_) (fun hb=>?_)
     ·refine⟨_,rfl,.inl ⟨rfl,_,SqL.of (st _ _ ex)⟩,_,rfl,_,rfl,sz rfl,fun t2 ht2=>?_⟩;have st2:=Same.put (o:=.tup [V.int (max (c.1-1) 0+(i:Int)),V.int (max (c.2-1) 0+(j:Int))]) ht2;have e2:=st2 _ _ (st _ _ ex);refine⟨q,xs,_,rfl,rfl,e2,ltl (Np ll (by decide)),?_⟩;refine⟨_,(SameBut.refl q _).put.of (g1.trans (st.trans st2)) nq,⟨xs++[.ref t2],aD,?_⟩,rfl⟩;rw[step true hb.symm,<- yD,dZ];exact((SameBut.refl q _).put.cells e2 (D.mono (st.trans st2))).append (.cons ((SameBut.refl q _).put.cell e2 gk) .nil)
     ·refine⟨_,g1.trans st,⟨xs,st _ _ ex,?_⟩,rfl⟩;rw[step false hb.symm];simpa using D.mono st
    ·obtain⟨v4,g1,g2,rfl⟩:=hh;exact⟨_,_,g1,by rw[base0];exact g2,rfl⟩
   ·obtain⟨v3,v4,g1,g2,rfl⟩:=hh;exact hR _ _ ⟨v3,v4,⟨g1,nq,g2⟩,rfl⟩
  rintro zzs H3 ⟨v3,v4,fr,rfl⟩;exact⟨_,rfl,hq' q H3 fr⟩
theorem Jt{f:Addr}{fd:FuncData} (F:Fun K "open_near" "open_near" qO f fd) (T:Txt K mg Z) (o9:Df P w K mg base 2 "near" ["view","cell"] (zm K Z.View Z.NoCell)) (bM:Df P w K mg base 2 "is_closed" ["view","cell"] (iZ K Z.View)) :
  cH P w K mg base (CXE P w) 3 f fd ["view","cell"] (pB K Z.View aL):=by
 refine F.rok Gj (fun vs H Q E h=>?_) (fun cdv A outer s H vs Q E hr h=>?_)
 ·obtain⟨x,v,zs,w,c,rfl,_⟩:=h;rfl
 ·obtain⟨x,v,zs,w,c,rfl,vt,dv,hin,hq⟩:=h;refine⟨_,(aC (bf (iW (by rfl) rfl (bB (K:=K) (aP o9 hr rfl aR (aj (rv 0) (aj (rv 1) ak)))) (fun _ _ _=>(gb (qI (mR (aP bM hr rfl aR (aj (rv 1) (aj (rv 0) ak))))))) (fun _ _ _=>(rv 0))))),?_⟩;refine⟨_,rfl,_,rfl,x,v,zs,w,c,rfl,vt,dv,fun _ q H1 fr=>?_,fun z=>absurd hin z⟩;obtain⟨xs,ex,D⟩:=fr.ls;refine⟨q,rfl,⟨_,SqL.of ex⟩,eF (K:=K) (xs:=cJ zs.length w c) (enc:=aA) (bZ (SqL.of ex)) D (small (by have:=gA zs.length w c;lia)) (fun y=>!aM zs w y) aA (fun y hy u H2 s2 d G hG=>?_) (fun y hy _ u H2 s2 d G hG=>⟨_,rfl,hG _ _ (Same.refl _) d⟩) (fun ys H2 s2 D2 q2 hq2=>?_)⟩
  ·exact⟨_,rfl,_,rfl,x,u,zs,w,y,rfl,vt.mono (fr.same.trans s2),d,_,rfl,hG _ (Same.refl _)⟩
  ·exact hq q2 _ ⟨fr.same.trans (s2.and hq2),(fr.same.trans s2).free hq2,.new hq2 D2⟩
theorem Cz{f:Addr}{fd:FuncData} (F:Fun K "closed_near" "closed_near" mW f fd) (T:Txt K mg Z) (o9:Df P w K mg base 2 "near" ["view","cell"] (zm K Z.View Z.NoCell)) (bM:Df P w K mg base 2 "is_closed" ["view","cell"] (iZ K Z.View)) :
  cH P w K mg base (CXE P w) 3 f fd ["view","cell"] (pB K Z.View au):=by
 refine F.rok Ay (fun vs H Q E h=>?_) (fun cdv A outer s H vs Q E hr h=>?_)
 ·obtain⟨x,v,zs,w,c,rfl,_⟩:=h;rfl
 ·obtain⟨x,v,zs,w,c,rfl,vt,dv,hin,hq⟩:=h;refine⟨_,(aC (bf (iW (by rfl) rfl (bB (K:=K) (aP o9 hr rfl aR (aj (rv 0) (aj (rv 1) ak)))) (fun _ _ _=>(gb (mR (aP bM hr rfl aR (aj (rv 1) (aj (rv 0) ak)))))) (fun _ _ _=>(rv 0))))),?_⟩;refine⟨_,rfl,_,rfl,x,v,zs,w,c,rfl,vt,dv,fun _ q H1 fr=>?_,fun z=>absurd hin z⟩;obtain⟨xs,ex,D⟩:=fr.ls;refine⟨q,rfl,⟨_,SqL.of ex⟩,eF (K:=K) (xs:=cJ zs.length w c) (enc:=aA) (bZ (SqL.of ex)) D (small (by have:=gA zs.length w c;lia)) (fun y=>aM zs w y) aA (fun y hy u H2 s2 d G hG=>?_) (fun y hy _ u H2 s2 d G hG=>⟨_,rfl,hG _ _ (Same.refl _) d⟩) (fun ys H2 s2 D2 q2 hq2=>?_)⟩
  ·exact⟨_,rfl,_,rfl,x,u,zs,w,y,rfl,vt.mono (fr.same.trans s2),d,_,rfl,hG _ (Same.refl _)⟩
  ·exact hq q2 _ ⟨fr.same.trans (s2.and hq2),(fr.same.trans s2).free hq2,.new hq2 D2⟩
theorem Rn{f:Addr}{fd:FuncData} (F:Fun K "closed" "closed" Aq f fd) (T:Txt K mg Z) (kE:Df P w K mg base 1 "cells" ["view"] (pA K Z.View)) (bM:Df P w K mg base 2 "is_closed" ["view","cell"] (iZ K Z.View)) :
  cH P w K mg base (CXE P w) 3 f fd ["view"] (lV K Z.View bA):=by
 refine F.rok RW (fun vs H Q E h=>?_) (fun cdv A outer s H vs Q E hr h=>?_)
 ·obtain⟨x,zs,w,rfl,_⟩:=h;rfl
 ·obtain⟨x,zs,w,rfl,vt,hq⟩:=h;have l36:zs.length*w<=6*6:=jZ vt.vw.le vt.vw.w6;refine⟨_,(aC (bf (iW (by rfl) rfl (bB (K:=K) (aP kE hr rfl aR (aj (rv 0) ak))) (fun _ _ _=>(gb (mR (aP bM hr rfl aR (aj (rv 1) (aj (rv 0) ak)))))) (fun _ _ _=>(rv 0))))),?_⟩;refine⟨_,rfl,x,zs,w,rfl,vt,fun q H1 fr=>?_⟩;obtain⟨xs,ex,D⟩:=fr.ls;refine⟨q,rfl,⟨_,SqL.of ex⟩,eF (K:=K) (xs:=bH zs.length w) (enc:=aA) (bZ (SqL.of ex)) D (small (by rw[eU];lia)) (aM zs w) aA (fun y hy u H2 s2 d G hG=>?_) (fun y hy _ u H2 s2 d G hG=>⟨_,rfl,hG _ _ (Same.refl _) d⟩) (fun ys H2 s2 D2 q2 hq2=>?_)⟩
  ·exact⟨_,rfl,_,rfl,x,u,zs,w,y,rfl,vt.mono (fr.same.trans s2),d,_,rfl,hG _ (Same.refl _)⟩
  ·exact hq q2 _ ⟨fr.same.trans (s2.and hq2),(fr.same.trans s2).free hq2,.new hq2 D2⟩
theorem Uz{f:Addr}{fd:FuncData} (F:Fun K "edge" "edge" M8 f fd) (T:Txt K mg Z) (gj:Df P w K mg base 3 "closed" ["view"] (lV K Z.View bA)) (cT:Df P w K mg base 3 "open_near" ["view","cell"] (pB K Z.View aL)) :
  cH P w K mg base (CXE P w) 4 f fd ["view"] (lV K Z.View bT):=by
 refine F.rok Zd (fun vs H Q E h=>?_) (fun cdv A outer s H vs Q E hr h=>?_)
 ·obtain⟨x,zs,w,rfl,_⟩:=h;rfl
 ·obtain⟨x,zs,w,rfl,vt,hq⟩:=h;have l36:=eY vt.vw;refine⟨_,(aC (bf (iW (by rfl) rfl (bB (K:=K) (aP gj hr rfl aR (aj (rv 0) ak))) (fun _ _ _=>(gb (c7 Ea (aQ (cQ (K:=K)) rfl T.cI bO (aj (aP cT hr rfl aR (aj (rv 1) (aj (rv 0) ak))) ak)) aG (dh _)))) (fun _ _ _=>(rv 0))))),?_⟩;refine⟨_,rfl,x,zs,w,rfl,vt,fun q H1 fr=>?_⟩;obtain⟨xs,ex,D⟩:=fr.ls;refine⟨q,rfl,⟨_,SqL.of ex⟩,eF (K:=K) (xs:=bA zs w) (enc:=aA) (bZ (SqL.of ex)) D (small (by lia)) (fun y=>decide (0<(aL zs w y).length)) aA (fun y hy u H2 s2 d G hG=>?_) (fun y hy _ u H2 s2 d G hG=>⟨_,rfl,hG _ _ (Same.refl _) d⟩) (fun ys H2 s2 D2 q2 hq2=>?_)⟩
  ·refine⟨_,rfl,_,rfl,x,u,zs,w,y,rfl,vt.mono (fr.same.trans s2),d,bL.mp (cB.mp hy).1,fun q3 H3 f3=>?_⟩;obtain⟨ws,e3,D3⟩:=f3.ls;refine .inl ⟨q3,_,rfl,.inl (SqL.of e3),_,_,rfl,rfl,_,rfl,?_⟩;rw[D3.length,aN];have e:decide ((0:Int)<((aL zs w y).length:Nat))=decide (0<(aL zs w y).length):=by congr 1;apply propext;omega
   rw[e];exact hG _ f3.same
  ·exact hq q2 _ ⟨fr.same.trans (s2.and hq2),(fr.same.trans s2).free hq2,.new hq2 D2⟩
theorem Yp{f:Addr}{fd:FuncData} (F:Fun K "far" "far" VB f fd) (T:Txt K mg Z) (gj:Df P w K mg base 3 "closed" ["view"] (lV K Z.View bA)) (cT:Df P w K mg base 3 "open_near" ["view","cell"] (pB K Z.View aL)) :
  cH P w K mg base (CXE P w) 4 f fd ["view"] (lV K Z.View j8):=by
 refine F.rok a1F (fun vs H Q E h=>?_) (fun cdv A outer s H vs Q E hr h=>?_)
 ·obtain⟨x,zs,w,rfl,_⟩:=h;rfl
 ·obtain⟨x,zs,w,rfl,vt,hq⟩:=h;have l36:=eY vt.vw;have hu:=oN hr;refine⟨_,(aC (bf (iW (by rfl) rfl (bB (K:=K) (aP gj hr rfl aR (aj (rv 0) ak))) (fun _ _ _=>(gb (c7 (yh.or (xY (K:=K) hu)) (aQ (cQ (K:=K)) rfl T.cI bO (aj (aP cT hr rfl aR (aj (rv 1) (aj (rv 0) ak))) ak)) aG (dh _)))) (fun _ _ _=>(rv 0))))),?_⟩;refine⟨_,rfl,x,zs,w,rfl,vt,fun q H1 fr=>?_⟩;obtain⟨xs,ex,D⟩:=fr.ls;refine⟨q,rfl,⟨_,SqL.of ex⟩,eF (K:=K) (xs:=bA zs w) (enc:=aA) (bZ (SqL.of ex)) D (small (by lia)) (fun y=>decide ((aL zs w y).length=0)) aA (fun y hy u H2 s2 d G hG=>?_) (fun y hy _ u H2 s2 d G hG=>⟨_,rfl,hG _ _ (Same.refl _) d⟩) (fun ys H2 s2 D2 q2 hq2=>?_)⟩
  ·refine⟨_,rfl,_,rfl,x,u,zs,w,y,rfl,vt.mono (fr.same.trans s2),d,bL.mp (cB.mp hy).1,fun q3 H3 f3=>?_⟩;obtain⟨ws,e3,D3⟩:=f3.ls;refine .inl ⟨q3,_,rfl,.inl (SqL.of e3),.inl ⟨rfl,_,rfl,?_⟩⟩;rw[D3.length,aN,xT];have e:decide (((aL zs w y).length:Int)=0)=decide ((aL zs w y).length=0):=by congr 1;apply propext;lia
   rw[e];exact hG _ f3.same
  ·exact hq q2 _ ⟨fr.same.trans (s2.and hq2),(fr.same.trans s2).free hq2,.new hq2 D2⟩
end
theorem Dr{K:ao}{H:Hp}{m:Cell}:∀ {wt:List Cell} {xs:List V},aY K H xs ((wt++[m]).map aA)->∃ ys u,xs=ys++[u]/\aY K H ys (wt.map aA)/\Den K H u (aA m)
 |[],xs,D=>by
  cases D with
  |cons h t=>
   cases t;exact⟨[],_,rfl,.nil,h⟩
 |c::wt,xs,D=>by
  cases D with
  |cons h t=>
   obtain⟨ys,u,rfl,a,b⟩:=Dr (wt:=wt) t;exact⟨_::ys,u,rfl,.cons h a,b⟩
theorem Eu{a b:List Cell}(h1:a.Pairwise aV)(h2:b.Pairwise aV)(hm:∀ y,y∈a↔y∈b):a=b:=by
 have pm:a.Perm b:=(Wt (kJ h1) (kJ h2)).mpr hm;refine List.Perm.eq_of_pairwise (le:=aV) (fun x y _ _ h1 h2=>?_) h1 h2 pm;unfold aV at h1 h2;lia
def vg(K:ao)(C:Addr):Sp:=fun vs H Q _=>∃(x:Addr)(v:V)(zs:List Str)(w:Nat)(c:Cell),vs=[.ref x,v]/\dW C H x zs w/\Den K H v (aA c)/\inF zs.length w c/\aM zs w c=false/\Q (.int (fG zs c)) H
def JV(K:ao)(C:Addr):Sp:=fun vs H Q _=>∃(x l:Addr)(zs:List Str)(w:Nat)(cs:List Cell),vs=[.ref x,.ref l]/\dW C H x zs w/\Ls K H l (cs.map aA)/\cs.length<=1000/\∀ H',Same H H'->Q (.bl (layB zs w cs)) H'
def JX(K:ao)(C:Addr):Sp:=fun vs H Q _=>∃(x l:Addr)(v:V)(zs:List Str)(w:Nat)(c:Cell)(cs:List Cell),vs=[.ref x,v,.ref l]/\dW C H x zs w/\Den K H v (aA c)/\inF zs.length w c/\Ls K H l (cs.map aA)/\∀ H',Same H H'->Q (.int (vh zs.length w c cs)) H'
def Qa(K:ao)(C BL:Addr):Sp:=fun vs H Q E=>∃(x l:Addr)(zs:List Str)(w:Nat)(cs:List Cell),vs=[.ref x,.ref l]/\dW C H x zs w/\Ls K H l (cs.map aA)/\cs.length<=1000 /\
 (layB zs w cs=true->∀ H',Same H H'->Q (.bl (gV zs w cs)) H')/\(layB zs w cs=false->∀ H',Same H H'->E (.ref BL) none H')
section
variable{P:Program}{w:World}{K:ao}{mg:Str->Option Value}{base:Heap}{Z:Adr}
theorem Lr{f:Addr}{fd:FuncData} (F:Fun K "figure" "figure" Ar f fd) (T:Txt K mg Z):cH P w K mg base (CXE P w) 1 f fd ["view","cell"] (vg K Z.View):=by
 refine F.rok RX (fun vs H Q E h=>?_) (fun cdv A outer s H vs Q E hr h=>?_)
 ·obtain⟨x,v,zs,w,c,rfl,_⟩:=h;rfl
 ·obtain⟨x,v,zs,w,c,rfl,vt,dv,hin,hc,hq⟩:=h;obtain⟨dx,l,hx,hl⟩:=vt.ob;have dg:=vt.vw.digit hin hc;refine⟨_,(aC (bf (uT Qv rfl T.Ss Sy (aj (dz (dw (K:=K)) (dz (dw (K:=K)) (qu (K:=K) (rv 0)) (dz (dw (K:=K)) (rv 1) aG)) (dz (dw (K:=K)) (rv 1) aG)) ak)))),?_⟩;obtain⟨⟨a1,a2⟩,⟨a3,a4⟩⟩:=id hin;have e1:c.1=((c.1.toNat:Nat):Int):=by lia
  have e2:c.2=((c.2.toNat:Nat):Int):=by lia
  have i1:c.1.toNat<zs.length:=by lia
  refine⟨_,rfl,x,Z.View,dx,_,_,rfl,hx,T.gH,T.j7,Tt _ _ _,_,rfl,tX dv ?_⟩;rw[e1];refine G9 (SqL.of hl) i1 ⟨_,rfl,tY dv ?_⟩;rw[e2];exact yX (SqL.of hl) vt.vw.toRect i1 (by lia) ⟨_,rfl,dg.1,by lia,hq⟩
theorem Js{f:Addr}{fd:FuncData} (F:Fun K "is_laying" "is_laying" qM f fd) (T:Txt K mg Z) (bM:Df P w K mg base 2 "is_closed" ["view","cell"] (iZ K Z.View)):cH P w K mg base (CXE P w) 3 f fd ["view","laying"] (JV K Z.View):=by
 refine F.rok uZ (fun vs H Q E h=>?_) (fun cdv A outer s H vs Q E hr h=>?_)
 ·obtain⟨x,l,zs,w,cs,rfl,_⟩:=h;rfl
 ·obtain⟨x,l,zs,w,cs,rfl,vt,⟨us,eu,D⟩,hc,hq⟩:=h;have hu:=oN hr;have lu:us.length=cs.length:=by rw[D.length,aN]
  refine⟨_,(aB (cC eE rfl (wG rfl T.eG (aj aG (aj (aQ (cQ (K:=K)) rfl T.cI bO (aj (rv 1) ak)) ak))) (bC (i:=2) uZ.nd rfl (Or.inl rfl)) (aC (gM (c7 (a2s (K:=K) hu) (dz (dw (K:=K)) (rv 1) (cV FQ (rv 2) aG)) (dz (dw (K:=K)) (rv 1) (rv 2)) (dh _)) (aC (bf uR)) cG))) (aC (bf (aQ (k_all (K:=K) rfl) rfl T.Oe Kf (aj (iW (by rfl) rfl (bB (K:=K) (rv 1)) (fun _ _ _=>uV) (fun _ _ _=>(aP bM hr rfl aR (aj (rv 1) (aj (rv 0) ak))))) ak))))),?_⟩;refine aF (fun zzs H1=>∃ v2:Option V,H1=H/\Ig cs=true/\zzs=[zzR x,zzR l,v2]) (fun R hR=>?_) ?_
  ·refine⟨_,rfl,.inl ⟨l,_,rfl,.inl (SqL.of eu),_,_,rfl,?_⟩⟩;refine⟨⟨by omega,by omega,by omega,by omega⟩,?_⟩;refine dD (lo:=1) (n:=((us.length:Int)-1).toNat) (fun i zzs H1=>∃ v2:Option V,H1=H/\(∀ j,j<i->fL (cs.getD j (0,0)) (cs.getD (j+1) (0,0))=true)/\zzs=[zzR x,zzR l,v2]) ⟨none,rfl,fun j hj=>absurd hj (Nat.not_lt_zero _),rfl⟩ (fun i zzs H1 hi hh=>?_) (fun zzs H1 hh=>?_)
   ·obtain⟨v2,rfl,g,rfl⟩:=hh;have b1:i<us.length:=by omega
    have b2:i+1<us.length:=by omega
    have e1:us[i]?=some us[i]:=by simp[b1]
    have e2:us[i+1]?=some us[i+1]:=by simp[b2]
    obtain⟨d1,f1,D1⟩:=D.get e1;obtain⟨d2,f2,D2⟩:=D.get e2;rw[cM] at f1 f2;obtain⟨c1,g1,rfl⟩:=j9.mp f1;obtain⟨c2,g2,rfl⟩:=j9.mp f2;have a1:atI us (1+(i:Int)-1)=some us[i]:=by
     have:(1+(i:Int)-1)=((i:Nat):Int):=by omega
     rw[this];exact dB e1
    have a2:atI us (1+(i:Int))=some us[i+1]:=by
     have:(1+(i:Int))=((i+1:Nat):Int):=by omega
     rw[this];exact dB e2
    have k1:cs.getD i (0,0)=c1:=by rw[dj,g1];rfl
    have k2:cs.getD (i+1) (0,0)=c2:=by rw[dj,g2];rfl
    refine⟨_,rfl,_,rfl,_,_,rfl,rfl,.inl ⟨l,_,_,_,rfl,rfl,SqL.of eu,a1,?_⟩⟩;refine⟨_,rfl,_,rfl,.inl ⟨l,_,_,_,rfl,rfl,SqL.of eu,a2,?_⟩⟩;refine⟨c1,c2,D1,D2,_,rfl,?_⟩;refine gU (fun h1=>?_) (fun h1=>?_)
    ·have:layB zs w cs=false:=by
      unfold layB;have:Ig cs=false:=by
       cases e:Ig cs
       ·rfl
       ·unfold Ig at e;rw[jq] at e;have:=e i (cR.mpr (by omega));rw[k1,k2] at this;rw[this] at h1;cases h1
      rw[this,vD]
     rw[<- this];exact hq _ (Same.refl _)
    ·refine⟨_,rfl,fun j hj=>?_,rfl⟩;by_cases hj':j<i
     ·exact g j hj'
     ·have:j=i:=by omega
      subst this;rw[k1,k2];simpa using h1
   ·obtain⟨v2,rfl,g,rfl⟩:=hh;refine hR _ _ ⟨v2,rfl,?_,rfl⟩;unfold Ig;rw[jq];intro j hj;rw[cR] at hj;exact g j (by omega)
  rintro zzs H1 ⟨v2,rfl,ha,rfl⟩;have eq:layB zs w cs=cs.all (aM zs w):=by unfold layB;rw[ha,pN]
  rw[eq] at hq;refine⟨_,rfl,l,rfl,⟨_,SqL.of eu⟩,comp_map (K:=K) (xs:=cs) (enc:=aA) (bZ (SqL.of eu)) D (small (by omega)) (fun c=>Dt.bl (aM zs w c)) (fun c hc' v H2 s2 d G hG=>?_) (fun ys H2 s2 D2 p hp=>?_)⟩
  ·exact⟨_,rfl,_,rfl,x,v,zs,w,c,rfl,vt.mono s2,d,hG _ _ (Same.refl _) (.bl _)⟩
  ·have e:ys=(cs.map (aM zs w)).map V.bl:=by
    refine aY.FP (K:=K) (H:=H2) ?_;rw[nR];exact D2
   refine⟨p,cs.map (aM zs w),rfl,SqL.of (by rw[aD,e]),?_⟩;rw[HX];exact hq _ (s2.and hp)
theorem Rt{f:Addr}{fd:FuncData} (F:Fun K "stones_near" "stones_near" mX f fd) (T:Txt K mg Z) (o9:Df P w K mg base 2 "near" ["view","cell"] (zm K Z.View Z.NoCell)):cH P w K mg base (CXE P w) 3 f fd ["view","cell","laying"] (JX K Z.View):=by
 refine F.rok Az (fun vs H Q E h=>?_) (fun cdv A outer s H vs Q E hr h=>?_)
 ·obtain⟨x,l,v,zs,w,c,cs,rfl,_⟩:=h;rfl
 ·obtain⟨x,l,v,zs,w,c,cs,rfl,vt,dv,hin,hl,hq⟩:=h;have hu:=oN hr;have hu':=Cv hr;refine⟨_,(aC (bf (aQ (cQ (K:=K)) rfl T.cI bO (aj (iW (by rfl) rfl (bB (K:=K) (aP o9 hr rfl aR (aj (rv 0) (aj (rv 1) ak)))) (fun _ _ _=>(gb (c7 (jy.or (zY (K:=K) hu')) (rv 0) (rv 3) (by rfl)))) (fun _ _ _=>(rv 0))) ak)))),?_⟩;refine⟨_,rfl,_,rfl,x,v,zs,w,c,rfl,vt,dv,fun _ q H1 fr=>?_,fun z=>absurd hin z⟩;obtain⟨xs,ex,D⟩:=fr.ls;refine⟨q,rfl,⟨_,SqL.of ex⟩,eF (K:=K) (xs:=cJ zs.length w c) (enc:=aA) (bZ (SqL.of ex)) D (small (by have:=gA zs.length w c;omega)) (fun y=>decide (y∈cs)) aA (fun y hy u H2 s2 d G hG=>?_) (fun y hy _ u H2 s2 d G hG=>⟨_,rfl,hG _ _ (Same.refl _) d⟩) (fun ys H2 s2 D2 q2 hq2=>?_)⟩
  ·exact⟨_,rfl,_,rfl,.inr (JH d (hl.mono (fr.same.trans s2)).den ⟨_,rfl,hG _ (Same.refl _)⟩)⟩
  ·refine .inl ⟨q2,_,rfl,.inl (SqL.of aD),?_⟩;rw[D2.length,aN];exact hq _ (fr.same.trans (s2.and hq2))
theorem Uw{f:Addr}{fd:FuncData} (F:Fun K "keeps" "keeps" Gg f fd) (T:Txt K mg Z) (pW:Df P w K mg base 3 "is_laying" ["view","laying"] (JV K Z.View)) (kE:Df P w K mg base 1 "cells" ["view"] (pA K Z.View)) (bM:Df P w K mg base 2 "is_closed" ["view","cell"] (iZ K Z.View)) (jd:Df P w K mg base 1 "figure" ["view","cell"] (vg K Z.View)) (mO:Df P w K mg base 3 "stones_near" ["view","cell","laying"] (JX K Z.View)) :
  cH P w K mg base (CXE P w) 4 f fd ["view","laying"] (Qa K Z.View Z.BadLaying):=by
 refine F.RQ JN (fun vs H Q E h=>?_) (fun cdv A outer s H vs Q E hr h=>?_)
 ·obtain⟨x,l,zs,w,cs,rfl,_⟩:=h;rfl
 ·obtain⟨x,l,zs,w,cs,rfl,vt,hl,hc,hq,hE⟩:=h;have hd:=P0 hr;have hu:=oN hr;have l36:zs.length*w<=6*6:=jZ vt.vw.le vt.vw.w6;refine⟨_,(aB (gM (RT.nox (qI (mR (aP pW hr rfl aR (aj (rv 0) (aj (rv 1) ak)))))) (aC (qH T.mJ rfl T.xM hd (aj sI ak))) cG) (aB (RS.nox (cC eE rfl (bB (K:=K) (aP kE hr rfl aR (aj (rv 0) ak))) (bC (i:=2) JN.nd rfl (Or.inl rfl)) (aC (gM (RV (FZ (qI (mR (aP bM hr rfl aR (aj (rv 0) (aj (rv 2) ak))))) (yW (c7 (Eb.or (DP (K:=K) hu)) (aP jd hr rfl aR (aj (rv 0) (aj (rv 2) ak))) (aP mO hr rfl aR (aj (rv 0) (aj (rv 2) (aj (rv 1) ak)))) (dh _))))) (aC (bf uR)) cG)))) (aC (RS.nox (bf uR))))),?_⟩;refine aF (fun zzs H1=>layB zs w cs=true/\Same H H1/\zzs=[zzR x,zzR l,zzN]) (fun R hR=>?_) ?_
  ·refine⟨_,rfl,_,rfl,x,l,zs,w,cs,rfl,vt,hl,hc,fun H1 s1=>?_⟩;refine⟨_,rfl,?_⟩;refine gU (fun h1=>⟨by decide,hE (by simpa only[lY] using h1) _ s1⟩) (fun h1=>hR _ _ ⟨by simpa only[uf] using h1,s1,rfl⟩)
  rintro zzs H1 ⟨hy,s1,rfl⟩;have hq':=hq hy;refine aF (fun zzs H2=>∃ v2:Option V,Same H H2/\gV zs w cs=true/\zzs=[zzR x,zzR l,v2]) (fun R hR=>?_) ?_
  ·refine⟨_,rfl,x,zs,w,rfl,vt.mono s1,fun q H2 fr=>?_⟩;obtain⟨xs,ex,D⟩:=fr.ls;have lx:xs.length=(bH zs.length w).length:=by rw[D.length,aN]
   refine⟨q,rfl,⟨_,SqL.of ex⟩,?_⟩;refine d9 (K:=K) (xs:=xs) (fun i zzs H3=>∃ v2:Option V,Same H2 H3/\(∀ c∈(bH zs.length w).take i,(aM zs w c||qT zs w cs c)=true)/\zzs=[zzR x,zzR l,v2])
    ⟨none,Same.refl _,(fun c hc=>by cases hc),rfl⟩ (fun i zzs H3 _ hh=>by obtain⟨v2,g1,_⟩:=hh;exact SqL.of (g1 _ _ ex)) (fun i u zzs H3 hu hh=>?_) (fun zzs H3 hh=>?_)
   ·obtain⟨v2,g1,g2,rfl⟩:=hh;obtain⟨d,ed,du⟩:=D.get hu;rw[cM] at ed;obtain⟨c,ec,rfl⟩:=j9.mp ed;have hin:inF zs.length w c:=bL.mp (eO ec);have sA:=s1.trans (fr.same.trans g1);have nxt:∀ H4,Same H3 H4->(aM zs w c||qT zs w cs c)=true->∃ v2:Option V,Same H2 H4/\(∀ c∈(bH zs.length w).take (i+1),(aM zs w c||qT zs w cs c)=true)/\[zzR x,zzR l,some u]=[zzR x,zzR l,v2]:=fun H4 s4 hb=>⟨_,g1.trans s4,fun c' hc'=>by
      rw[iC,ec] at hc';rcases cD.mp hc' with z|z
      ·exact g2 c' z
      ·rw[dU.mp z];exact hb,rfl⟩
    have a4c:∀ b:Bool,aM zs w c=true->(aM zs w c||b)=true:=fun b z=>by rw[z];rfl
    have a4d:∀ b:Bool,qT zs w cs c=true->(b||qT zs w cs c)=true:=fun b z=>by rw[z,Bool.or_true]
    refine⟨_,rfl,_,rfl,x,u,zs,w,c,rfl,vt.mono sA,du.mono g1,?_⟩;refine⟨_,rfl,?_⟩;refine gU (fun h1=>?_) (fun h1=>nxt _ (Same.refl _) (a4c _ (by simpa only[uf] using h1)));have hcl:aM zs w c=false:=by simpa only[lY] using h1
    refine⟨_,rfl,_,rfl,x,u,zs,w,c,rfl,vt.mono sA,du.mono g1,hin,hcl,?_⟩;refine⟨_,rfl,_,rfl,_,rfl,x,l,u,zs,w,c,cs,rfl,vt.mono sA,du.mono g1,hin,hl.mono sA,fun H4 s4=>.inl ⟨rfl,_,rfl,?_⟩⟩;rw[xT];show if(!qT zs w cs c)=true then _ else _
    refine gU (fun h2=>?_) (fun h2=>nxt _ s4 (a4d _ (by simpa only[uf] using h2)));have hno:qT zs w cs c=false:=by simpa only[lY] using h2
    have:gV zs w cs=false:=by
     cases e:gV zs w cs
     ·rfl
     ·unfold gV at e;rw[jq] at e;have:=e c (bL.mpr hin);rw[hcl,hno] at this;cases this
    rw[<- this];exact hq' _ (sA.trans s4)
   ·obtain⟨v2,g1,g2,rfl⟩:=hh;refine hR _ _ ⟨v2,s1.trans (fr.same.trans g1),?_,rfl⟩;unfold gV;rw[jq];intro c hc;refine g2 c ?_;rw[lx,iK];exact hc
  rintro zzs H2 ⟨v2,s2,hk,rfl⟩;rw[hk] at hq';exact hq' _ s2
end
inductive jc(zs:List Str)(w:Nat)(c:Cell):Cell->Prop
 |base:jc zs w c c
 |step {x t y:Cell}:jc zs w c x->t∈aL zs w x->y∈au zs w t->jc zs w c y
theorem rZ{zs:List Str}{w:Nat}{t y:Cell}(h:y∈au zs w t):inF zs.length w y/\aM zs w y=true:=by
 unfold au at h;obtain⟨h1,h2⟩:=cB.mp h;exact⟨lG h1,h2⟩
theorem Ju{zs:List Str}{w:Nat}{t y:Cell}(h:y∈aL zs w t):inF zs.length w y:=by
 unfold aL at h;exact lG (cB.mp h).1
theorem jc.inF{zs:List Str}{w:Nat}{c y:Cell}(h0:L2.inF zs.length w c)(r:jc zs w c y):L2.inF zs.length w y:=by
 cases r with
 |base=>exact h0
 |step _ _ h=>exact(rZ h).1
def cZ(cs:List Cell):List (List Key×V):=cs.map fun c=>(lF c,V.bl true)
theorem ni(c:Cell):∀ cs:List Cell,vo (cZ cs) (lF c)=if c∈cs then some (.bl true) else none
 |[]=>rfl
 |a::cs=>by
  show vo ((lF a,V.bl true)::cZ cs) (lF c)=_;by_cases e:a=c
  ·subst e;rw[vA rfl,aK cU]
  ·rw[vq (fun z=>e (U9 z)),ni c cs];by_cases m:c∈cs
   ·rw[aK m,aK (dI _ m)]
   ·rw[aJ m,aJ (fun z=>(bW.mp z).elim (fun q=>e q.symm) m)]
theorem Ds(cs:List Cell)(c:Cell)(nc:c∉cs):putK (cZ cs) (lF c) (.bl true)=cZ (cs++[c]):=by
 rw[Vh _ (by rw[ni,aJ nc])];unfold cZ;rw[dZ];rfl
structure pZ(zs:List Str)(w:Nat)(c:Cell)(fd wt:List Cell):Prop where
 nd:fd.Nodup
 has:c∈fd
 rch:∀ y∈fd,jc zs w c y
 sub:∀ y∈wt,y∈fd
 cl:∀ x∈fd,x∉wt->∀ t∈aL zs w x,∀ y∈au zs w t,y∈fd
 ln:wt.length<=fd.length
theorem pZ.len{zs:List Str}{w:Nat}{c:Cell}{fd wt:List Cell}(j:pZ zs w c fd wt)(h0:inF zs.length w c)(h6:zs.length<=6)(w6:w<=6):fd.length<=36:=by
 have:=lK (l2:=bH zs.length w) j.nd fun y hy=>bL.mpr ((j.rch y hy).inF h0)
 rw[eU] at this;have:zs.length*w<=6*6:=jZ h6 w6;lia
theorem pZ.done{zs:List Str}{w:Nat}{c:Cell}{fd:List Cell}(j:pZ zs w c fd [])(y:Cell):y∈fd↔jc zs w c y:=by
 refine⟨j.rch y,fun r=>?_⟩
 induction r with
 |base=>exact j.has
 |step _ ht hy ih=>exact j.cl _ ih (by intro z;cases z) _ ht _ hy
structure JoP(zs:List Str)(w:Nat)(c m:Cell)(fd wt:List Cell)(Dn:Cell->Prop):Prop where
 nd:fd.Nodup
 has:c∈fd
 rch:∀ y∈fd,jc zs w c y
 sub:∀ y∈wt,y∈fd
 hm:m∈fd
 cl:∀ x∈fd,x∉wt->x≠m->∀ t∈aL zs w x,∀ y∈au zs w t,y∈fd
 ln:wt.length+1<=fd.length
 dn:∀ y,Dn y->y∈fd
theorem JoP.imp{zs:List Str}{w:Nat}{c m:Cell}{fd wt:List Cell}{Dn Dn':Cell->Prop}(j:JoP zs w c m fd wt Dn)(h:∀ y,Dn' y->y∈fd):JoP zs w c m fd wt Dn':=⟨j.nd,j.has,j.rch,j.sub,j.hm,j.cl,j.ln,h⟩
theorem JoP.add{zs:List Str}{w:Nat}{c m y:Cell}{fd wt:List Cell}{Dn:Cell->Prop}(j:JoP zs w c m fd wt Dn)(ny:y∉fd)(ry:jc zs w c y):JoP zs w c m (fd++[y]) (wt++[y]) Dn:=by
 refine⟨yE.mpr ⟨j.nd,by simp,fun a ha b hb e=>ny (by rw[<- dU.mp hb,<- e];exact ha)⟩,jj _ j.has,fun x hx=>?_,fun x hx=>?_,jj _ j.hm,fun x hx nx xm t ht z hz=>?_,?_,fun x hx=>jj _ (j.dn x hx)⟩
 ·rcases cD.mp hx with q|q
  ·exact j.rch x q
  ·rw[dU.mp q];exact ry
 ·rcases cD.mp hx with q|q
  ·exact jj _ (j.sub x q)
  ·exact gn _ q
 ·rcases cD.mp hx with q|q
  ·exact jj _ (j.cl x q (fun q2=>nx (jj _ q2)) xm t ht z hz)
  ·exact absurd (gn _ q) nx
 ·have:=j.ln;rw[cL,cL,nQ];lia
theorem pZ.pop{zs:List Str}{w:Nat}{c m:Cell}{fd wt:List Cell}(j:pZ zs w c fd (wt++[m])):JoP zs w c m fd wt (fun _=>False):=by
 refine⟨j.nd,j.has,j.rch,fun y hy=>j.sub y (jj _ hy),j.sub m (gn _ (dU.mpr rfl)),fun x hx nx xm=>j.cl x hx fun z=>?_,?_,fun y hy=>hy.elim⟩
 ·rcases cD.mp z with q|q
  ·exact nx q
  ·exact xm (dU.mp q)
 ·have:=j.ln;rw[cL,nQ] at this;exact this
theorem JoP.inv{zs:List Str}{w:Nat}{c m:Cell}{fd wt:List Cell}{Dn:Cell->Prop}(j:JoP zs w c m fd wt Dn)(h:∀ t∈aL zs w m,∀ y∈au zs w t,Dn y):pZ zs w c fd wt:=by
 refine⟨j.nd,j.has,j.rch,j.sub,fun x hx nx t ht y hy=>?_,cO (BW _) j.ln⟩;by_cases e:x=m
 ·subst e;exact j.dn y (h t ht y hy)
 ·exact j.cl x hx nx e t ht y hy
theorem JoP.len{zs:List Str}{w:Nat}{c m:Cell}{fd wt:List Cell}{Dn:Cell->Prop}(j:JoP zs w c m fd wt Dn)(h0:inF zs.length w c)(h6:zs.length<=6)(w6:w<=6):fd.length<=36:=by
 have:=lK (l2:=bH zs.length w) j.nd fun y hy=>bL.mpr ((j.rch y hy).inF h0)
 rw[eU] at this;have:zs.length*w<=6*6:=jZ h6 w6;lia
def Bd(K:ao)(C:Addr):Sp:=fun vs H Q _=>∃(x:Addr)(v:V)(zs:List Str)(w:Nat)(c:Cell),vs=[.ref x,v]/\dW C H x zs w/\Den K H v (aA c)/\inF zs.length w c /\
 ∀(q:Addr)(H':Hp)(ds:List Cell),H q=none->Same H H'->Ls K H' q (ds.map aA)->ds.Pairwise aV->(∀ y,y∈ds↔jc zs w c y)->Q (.ref q) H'
section
variable{P:Program}{w:World}{K:ao}{mg:Str->Option Value}{base:Heap}{Z:Adr}
theorem Rp{f:Addr}{fd:FuncData} (F:Fun K "joined" "joined" Aw f fd) (T:Txt K mg Z) (cT:Df P w K mg base 3 "open_near" ["view","cell"] (pB K Z.View aL)) (cX:Df P w K mg base 3 "closed_near" ["view","cell"] (pB K Z.View au)) :
  cH P w K mg base (CXE P w) 4 f fd ["view","cell"] (Bd K Z.View):=by
 refine F.rok lg (fun vs H Q E h=>?_) (fun cdv A outer s H vs Q E hr h=>?_)
 ·obtain⟨x,v,zs,w,c,rfl,_⟩:=h;rfl
 ·obtain⟨x,v,zs,w,c,rfl,vt,dv,hin,hq⟩:=h;have hu:=oN hr;have z6:=vt.vw.le;have w6:=vt.vw.w6;obtain⟨tv,rfl,_,htv⟩:=fK dv;refine⟨_,(aB (bx (i:=2) lg.nd rfl (Or.inl rfl) (Z5 hu (rv 1) uR)) (aB (bx (i:=3) lg.nd rfl (Or.inl rfl) (dG (aj (rv 1) ak))) (aB (JL eE (c7 Ea (aQ (cQ (K:=K)) rfl T.cI bO (aj (rv 3) ak)) aG (dh _)) (aB (bx (i:=4) lg.nd rfl (Or.inl rfl) (a0A (K:=K) qY PySem.F.slot_list_pop PySem.F.type_list_pop a0J (rv 3))) (aC (cC eE rfl (bB (K:=K) (aP cT hr rfl aR (aj (rv 0) (aj (rv 4) ak)))) (bC (i:=5) lg.nd rfl (Or.inl rfl)) (aC (cC eE rfl (bB (K:=K) (aP cX hr rfl aR (aj (rv 0) (aj (rv 5) ak)))) (bC (i:=6) lg.nd rfl (Or.inl rfl)) (aC (gM (c7 (uP hu) (rv 6) (rv 2) (by rfl)) (aB (Ao uR (Vs (rv 2) (rv 6) (set_dict hu))) (aC (jF (sG (K:=K) qY sO sS gB (rv 3) (aj (rv 6) ak))))) cG)))))))) (aC (bf (aQ (Y4 (K:=K) rfl hu) rfl T.zA Dd (aj (rv 2) ak))))))),?_⟩;refine aF (fun zzs H1=>∃ dd:Addr,H dd=none/\Same H H1/\H1 dd=some (.dT (cZ [c]))/\zzs=[zzR x,zzR tv,zzR dd,zzN,zzN,zzN,zzN]) (fun R hR=>?_) ?_
  ·refine fun dd nd=>⟨_,rfl,lF c,tv,aD,rfl,?_,hR _ _ ⟨dd,nd,(SameBut.refl dd _).put.of (Same.put nd) nd,aD,rfl⟩⟩
   rw[bF (bU htv nd)];exact htv
  rintro zzs H1 ⟨dd,nd,s1,ed,rfl⟩;refine aF (fun zzs H2=>∃ wl:Addr,H wl=none/\wl≠dd/\Same H1 H2/\H2 wl=some (.lst [.ref tv])/\zzs=[zzR x,zzR tv,zzR dd,zzR wl,zzN,zzN,zzN]) (fun R hR=>?_) ?_
  ·exact⟨_,rfl,sz rfl,fun wl nwl=>hR _ _ ⟨wl,s1.free nwl,(bU ed nwl).symm,Same.put nwl,aD,rfl⟩⟩
  rintro zzs H2 ⟨wl,nwl,nwd,s2,ewl,rfl⟩;have start:pZ zs w c [c] [c]:=⟨by simp,dU.mpr rfl,fun y hy=>by rw[dU.mp hy];exact .base,fun y hy=>hy,fun x hx nx=>absurd hx nx,bK _⟩
  refine aF (fun zzs H3=>∃(fd:List Cell)(v4 v5 v6:Option V),Same H H3/\H3 dd=some (.dT (cZ fd))/\pZ zs w c fd []/\zzs=[zzR x,zzR tv,zzR dd,zzR wl,v4,v5,v6]) (fun R hR=>?_) ?_
  ·refine⟨fun m zzs H'=>∃(fd wt:List Cell)(v4 v5 v6:Option V),Same H H'/\H' dd=some (.dT (cZ fd))/\Ls K H' wl (wt.map aA)/\pZ zs w c fd wt/\m=(36-fd.length)*2+wt.length/\zzs=[zzR x,zzR tv,zzR dd,zzR wl,v4,v5,v6],
    ⟨_,[c],[c],none,none,none,s1.trans s2,s2 _ _ ed,⟨_,ewl,.cons (dv.mono (s1.trans s2)) .nil⟩,start,rfl,rfl⟩,?_⟩
   rintro m zzs H' ⟨fd,wt,v4,v5,v6,sh,ed',lw,ji,rfl,rfl⟩;obtain⟨xs,ex,D⟩:=id lw;have lx:xs.length=wt.length:=by rw[D.length,aN]
   have f36:=ji.len hin z6 w6;refine⟨_,rfl,.inl ⟨wl,_,rfl,.inl (SqL.of ex),_,_,rfl,rfl,_,rfl,?_⟩⟩;refine gU (fun hlt=>?_) (fun hlt=>?_)
   ·have hlt:(0:Int)<(xs.length:Int):=dN hlt;obtain⟨wt,m,rfl⟩:∃ wt' m,wt=wt'++[m]:=by
     rcases List.eq_nil_or_concat wt with z|⟨l,b,z⟩
     ·rw[z,wZ] at lx;lia
     ·exact⟨l,b,by rw[z];simp⟩
    obtain⟨xs,u,rfl,Dx,du⟩:=Dr D;obtain⟨tm,rfl,_,htm⟩:=fK du;have mfd:=ji.sub m (gn _ (dU.mpr rfl));have a3I:=(ji.rch m mfd).inF hin;refine⟨fun bJ H4=>∃(fd' wt':List Cell)(v4 v5 v6:Option V),Same H H4/\H4 dd=some (.dT (cZ fd'))/\Ls K H4 wl (wt'.map aA)/\pZ zs w c fd' wt'/\(36-fd'.length)*2+wt'.length<(36-fd.length)*2+(wt++[m]).length/\bJ=[zzR x,zzR tv,zzR dd,zzR wl,v4,v5,v6],fun bJ H4 hx=>?_,?_⟩
    ·obtain⟨fd',wt',v4,v5,v6,a1,a2,a3,a4,a5,rfl⟩:=hx;exact⟨_,a5,fd',wt',v4,v5,v6,a1,a2,a3,a4,rfl,rfl⟩
    refine aF (fun zzs H4=>Same H H4/\H4 dd=some (.dT (cZ fd))/\Ls K H4 wl (wt.map aA)/\Den K H4 (.ref tm) (aA m)/\zzs=[zzR x,zzR tv,zzR dd,zzR wl,zzR tm,v5,v6]) (fun R' hR'=>?_) ?_
    ·refine⟨_,rfl,.inl ⟨rfl,_,SqL.of ex⟩,wl,_,V.ref tm,rfl,rfl,ex,(by simp),?_⟩;rw[List.dropLast_concat];have sw:SameBut wl H' (upd H' wl (.lst xs)):=(SameBut.refl wl _).put;exact hR' _ _ ⟨sw.of sh nwl,sw _ _ ed' nwd.symm,⟨xs,aD,sw.cells ex Dx⟩,sw.cell ex du,rfl⟩
    rintro zzs H4 ⟨sh4,ed4,lw4,dm4,rfl⟩;have a4b:(wt++[m]).length=wt.length+1:=by rw[cL,nQ]
    refine⟨_,rfl,_,rfl,x,_,zs,w,m,rfl,vt.mono sh4,dm4,a3I,fun q1 H5 f5=>?_⟩;obtain⟨ts,et,Dt'⟩:=f5.ls;have lt8:=uQ zs w m;refine⟨q1,rfl,⟨_,SqL.of et⟩,?_⟩;have nq1:H q1=none:=sh4.free f5.new;refine d9 (K:=K) (xs:=ts) (fun i zzs H6=>∃(fd' wt':List Cell)(v5 v6:Option V),Same H H6/\H6 q1=some (.lst ts)/\aY K H6 ts ((aL zs w m).map aA)/\H6 dd=some (.dT (cZ fd'))/\Ls K H6 wl (wt'.map aA)/\JoP zs w c m fd' wt' (fun y=>∃ t∈(aL zs w m).take i,y∈au zs w t)/\(36-fd'.length)*2+wt'.length<=(36-fd.length)*2+wt.length/\zzs=[zzR x,zzR tv,zzR dd,zzR wl,zzR tm,v5,v6])
     ⟨fd,wt,v5,v6,sh4.trans f5.same,et,Dt',f5.same _ _ ed4,lw4.mono f5.same,ji.pop.imp (fun y hy=>by obtain⟨t,ht,_⟩:=hy;cases ht),bK _,rfl⟩ (fun i zzs H6 _ hh=>by obtain⟨_,_,_,_,_,e,_⟩:=hh;exact SqL.of e) (fun i u zzs H6 hu' hh=>?_) (fun zzs H6 hh=>?_)
    ·obtain⟨fd1,wt1,v5,v6,sh6,et6,Dt6,ed6,lw6,jp,me,rfl⟩:=hh;obtain⟨dt,edt,du6⟩:=Dt6.get hu';rw[cM] at edt;obtain⟨t,etq,rfl⟩:=j9.mp edt;have a3m:t∈aL zs w m:=eO etq;refine⟨_,rfl,_,rfl,x,_,zs,w,t,rfl,vt.mono sh6,du6,Ju a3m,fun q2 H7 f7=>?_⟩;obtain⟨os,eo,Do⟩:=f7.ls;refine⟨q2,rfl,⟨_,SqL.of eo⟩,?_⟩;have los:os.length=(au zs w t).length:=by rw[Do.length,aN]
     refine d9 (K:=K) (xs:=os) (fun j zzs H8=>∃(fd' wt':List Cell)(v6:Option V),Same H H8/\H8 q1=some (.lst ts)/\aY K H8 ts ((aL zs w m).map aA)/\H8 q2=some (.lst os)/\aY K H8 os ((au zs w t).map aA)/\H8 dd=some (.dT (cZ fd'))/\Ls K H8 wl (wt'.map aA)/\JoP zs w c m fd' wt' (fun y=>(∃ t∈(aL zs w m).take i,y∈au zs w t)\/y∈(au zs w t).take j)/\(36-fd'.length)*2+wt'.length<=(36-fd.length)*2+wt.length/\zzs=[zzR x,zzR tv,zzR dd,zzR wl,zzR tm,some u,v6])
      ⟨fd1,wt1,v6,sh6.trans f7.same,f7.same _ _ et6,Dt6.mono f7.same,eo,Do,f7.same _ _ ed6,lw6.mono f7.same,jp.imp (fun y hy=>hy.elim (jp.dn y) (fun z=>by cases z)),me,rfl⟩ (fun j zzs H8 _ hh=>by obtain⟨_,_,_,_,_,_,e,_⟩:=hh;exact SqL.of e) (fun j o zzs H8 ho hh=>?_) (fun zzs H8 hh=>?_)
     ·obtain⟨fd2,wt2,v6,sh8,et8,Dt8,eo8,Do8,ed8,lw8,jp2,me2,rfl⟩:=hh;obtain⟨dy,edy,do8⟩:=Do8.get ho;rw[cM] at edy;obtain⟨y,ey,rfl⟩:=j9.mp edy;have a4e:y∈au zs w t:=eO ey;obtain⟨ty,rfl,_,hty⟩:=fK do8;have key:H8 ty=some (.tup ((lF y).map kV)):=hty;have a4i:=jp2.len hin z6 w6;have step:∀ z,(∃ t∈(aL zs w m).take i,z∈au zs w t)\/z∈(au zs w t).take (j+1)->((∃ t∈(aL zs w m).take i,z∈au zs w t)\/z∈(au zs w t).take j)\/z=y:=fun z hz=>by
       rcases hz with q|q
       ·exact .inl (.inl q)
       ·rw[iC,ey] at q;rcases cD.mp q with q|q
        ·exact .inl (.inr q)
        ·exact .inr (dU.mp q)
      refine⟨_,rfl,_,rfl,dd,_,rfl,Qp.t ed8 key,_,rfl,?_⟩;rw[ni];by_cases hf:y∈fd2
      ·rw[aK hf];exact wu ⟨fd2,wt2,_,sh8,et8,Dt8,eo8,Do8,ed8,lw8,jp2.imp (fun z hz=>(step z hz).elim (jp2.dn z) (fun e=>by rw[e];exact hf)),me2,rfl⟩
      ·rw[aJ hf];refine Cy ?_;have jp3:=jp2.add hf (.step (jp2.rch m jp2.hm) a3m a4e);have a2i:=jp3.len hin z6 w6;rw[cL,nQ] at a2i;refine aF (fun zzs H9=>Same H H9/\H9 q1=some (.lst ts)/\aY K H9 ts ((aL zs w m).map aA)/\H9 q2=some (.lst os)/\aY K H9 os ((au zs w t).map aA)/\H9 dd=some (.dT (cZ (fd2++[y])))/\Ls K H9 wl (wt2.map aA)/\Den K H9 (.ref ty) (aA y)/\zzs=[zzR x,zzR tv,zzR dd,zzR wl,zzR tm,some u,zzR ty]) (fun R' hR'=>?_) ?_
       ·refine⟨_,rfl,_,rfl,dd,_,rfl,Qq.t ed8 key (ltl (by unfold cZ;rw[aN];lia)),?_⟩;rw[Ds fd2 y hf];have sd:SameBut dd H8 (upd H8 dd (.dT (cZ (fd2++[y])))):=(SameBut.refl dd _).put;have tp:Ia H8 (upd H8 dd (.dT (cZ (fd2++[y])))):=.put ed8 (by intro xs z;cases z);obtain⟨ws,ew,Dw⟩:=lw8;exact hR' _ _ ⟨sd.of sh8 nd,sd _ _ et8 (qy et8 ed8 (by intro z;cases z)),tp.cells Dt8,sd _ _ eo8 (qy eo8 ed8 (by intro z;cases z)),tp.cells Do8,aD,⟨ws,sd _ _ ew nwd,tp.cells Dw⟩,tp.cell do8,rfl⟩
       rintro zzs H9 ⟨sh9,et9,Dt9,eo9,Do9,ed9,⟨ws,ew,Dw⟩,dy9,rfl⟩;have lws:ws.length=wt2.length:=by rw[Dw.length,aN]
       have ln2:=jp2.ln;have a3M:q1≠wl:=fun z=>by
        have e1:=f5.new;rw[z] at e1;obtain⟨_,e2,_⟩:=lw4;rw[e2] at e1;cases e1
       have a3N:q2≠wl:=fun z=>by
        have e1:=f7.new;rw[z] at e1;obtain⟨_,e2,_⟩:=lw6;rw[e2] at e1;cases e1
       refine⟨_,rfl,.inl ⟨rfl,_,SqL.of ew⟩,_,rfl,wl,ws,_,rfl,rfl,ew,ltl (by lia),?_⟩;have sw:SameBut wl H9 (upd H9 wl (.lst (ws++[V.ref ty]))):=(SameBut.refl wl _).put;refine⟨fd2++[y],wt2++[y],_,sw.of sh9 nwl,sw _ _ et9 a3M,sw.cells ew Dt9,sw _ _ eo9 a3N,sw.cells ew Do9,sw _ _ ed9 nwd.symm,⟨_,aD,?_⟩,jp3.imp (fun z hz=>(step z hz).elim (fun q=>jj _ (jp2.dn z q)) (fun e=>gn _ (dU.mpr e))),?_,rfl⟩
       ·rw[dZ];exact(sw.cells ew Dw).append (.cons (sw.cell ew dy9) .nil)
       ·rw[cL,cL,nQ];lia
     ·obtain⟨fd2,wt2,v6,sh8,et8,Dt8,eo8,Do8,ed8,lw8,jp2,me2,rfl⟩:=hh;refine⟨fd2,wt2,_,v6,sh8,et8,Dt8,ed8,lw8,jp2.imp (fun y hy=>?_),me2,rfl⟩;obtain⟨t',ht',hy'⟩:=hy;rw[iC,etq] at ht';rcases cD.mp ht' with q|q
      ·exact jp2.dn y (.inl ⟨t',q,hy'⟩)
      ·rw[dU.mp q] at hy';exact jp2.dn y (.inr (by rw[los,iK];exact hy'))
    ·obtain⟨fd1,wt1,v5,v6,sh6,et6,Dt6,ed6,lw6,jp,me,rfl⟩:=hh;have lts:ts.length=(aL zs w m).length:=by rw[Dt'.length,aN]
     refine⟨fd1,wt1,_,v5,v6,sh6,ed6,lw6,jp.inv fun t ht y hy=>⟨t,by rw[lts,iK];exact ht,hy⟩,by rw[a4b];lia,rfl⟩
   ·have hlt:¬(0:Int)<(xs.length:Int):=pK hlt;have:wt=[]:=Gz.mp (by lia);subst this;exact hR _ _ ⟨fd,v4,v5,v6,sh,ed',ji,rfl⟩
  rintro zzs H3 ⟨fd,v4,v5,v6,s3,ed3,ji,rfl⟩;have f36:=ji.len hin z6 w6;refine⟨_,rfl,dd,fd,fun _=>.bl true,rfl,ed3,by lia,fun l ws ds hn D' pc as=>?_⟩;exact hq l _ ds (s3.free hn) (s3.and hn) (.new hn D') (Kc as (pc.nodup_iff.mpr ji.nd)) fun y=>by rw[pc.mem_iff];exact ji.done y
end
open Classical in
noncomputable def cu(zs:List Str)(w:Nat)(c:Cell):List Cell:=(bH zs.length w).filter fun y=>decide (jc zs w c y)
open Classical in
theorem dF{zs:List Str}{w:Nat}{c y:Cell}(h0:inF zs.length w c):y∈cu zs w c↔jc zs w c y:=by
 unfold cu;rw[cB,bL,iw];exact⟨fun h=>h.2,fun h=>⟨h.inF h0,h⟩⟩
open Classical in
theorem kZ{zs:List Str}{w:Nat}{c:Cell}(h6:zs.length<=6)(w6:w<=6):(cu zs w c).Pairwise aV:=by
 unfold cu;exact(rH zs.length (cR.mpr (by lia)) w (cR.mpr (by lia))).filter _
open Classical in
noncomputable def gK(zs:List Str)(w:Nat):List Cell->List (List Cell)->List (List Cell)
 |[],ps=>ps
 |c::cs,ps=>if ∃ p∈ps,c∈p then gK zs w cs ps else gK zs w cs (ps++[cu zs w c])
noncomputable def aW(zs:List Str)(w:Nat):List (List Cell):=gK zs w (bT zs w) []
theorem J0(cs:List Cell)(c:Cell)(hc:c∈cs):putK (cZ cs) (lF c) (.bl true)=cZ cs:=by
 unfold putK;have h1:((cZ cs).any fun kv=>decide (kv.1=lF c))=true:=by
  rw[vp,ni,aK hc];rfl
 rw[aK h1];unfold cZ;rw[nR];refine Hf fun a _=>?_
 show(if lF a=lF c then(lF a,V.bl true) else(lF a,V.bl true))=(lF a,V.bl true);by_cases e:lF a=lF c
 ·rw[aK e]
 ·rw[aJ e]
structure qb(K:ao)(H0 H:Hp)(q:Addr)(qs:List Addr)(ps:List (List Cell)):Prop where
 at_:H q=some (.lst (qs.map V.ref))
 len:qs.length=ps.length
 ls:∀(i:Nat)(a:Addr)(p:List Cell),qs[i]?=some a->ps[i]?=some p->Ls K H a (p.map aA)
 new:∀ a∈qs,H0 a=none
 nd:qs.Nodup
 nq:q∉qs
theorem qb.mono{K:ao}{H0 H H':Hp}{q:Addr}{qs:List Addr}{ps:List (List Cell)}(p:qb K H0 H q qs ps)(s:Same H H'):qb K H0 H' q qs ps:=⟨s _ _ p.at_,p.len,fun i a c h1 h2=>(p.ls i a c h1 h2).mono s,p.new,p.nd,p.nq⟩
theorem qb.snoc{K:ao}{H0 H:Hp}{q a:Addr}{qs:List Addr}{ps:List (List Cell)}{ds:List Cell}(p:qb K H0 H q qs ps)(la:Ls K H a (ds.map aA))(na:H0 a=none)(n1:a∉qs)(n2:a≠q):qb K H0 (upd H q (.lst (qs.map V.ref++[.ref a]))) q (qs++[a]) (ps++[ds]):=by
 have sb:SameBut q H (upd H q (.lst (qs.map V.ref++[.ref a]))):=(SameBut.refl q _).put;refine⟨by rw[aD,dZ];rfl,by rw[cL,cL,p.len];rfl,fun i b c h1 h2=>?_,fun b hb=>?_,?_,fun z=>?_⟩
 ·by_cases hi:i<qs.length
  ·rw[Ep hi] at h1;rw[Ep (by rw[<- p.len];exact hi)] at h2;exact sb.ls p.at_ (fun z=>p.nq (by rw[<- z];exact eO h1)) (p.ls i b c h1 h2)
  ·rw[BZ (by lia)] at h1;rw[BZ (by rw[<- p.len];lia)] at h2;have e1:i-qs.length=0:=by
    by_cases z:i-qs.length=0
    ·exact z
    ·rw[Bl (by rw[nQ];lia)] at h1;cases h1
   rw[e1] at h1;rw[<- p.len,e1] at h2;cases h1;cases h2;exact sb.ls p.at_ n2 la
 ·rcases cD.mp hb with z|z
  ·exact p.new b z
  ·rw[dU.mp z];exact na
 ·exact yE.mpr ⟨p.nd,by simp,fun x hx y hy e=>n1 (by rw[<- dU.mp hy,<- e];exact hx)⟩
 ·rcases cD.mp z with y|y
  ·exact p.nq y
  ·exact n2 (dU.mp y).symm
def Gn(K:ao)(C:Addr):Sp:=fun vs H Q _=>∃(x:Addr)(zs:List Str)(w:Nat),vs=[.ref x]/\dW C H x zs w /\
 ∀(q:Addr)(qs:List Addr)(H':Hp),H q=none->Same H H'->qb K H H' q qs (aW zs w)->Q (.ref q) H'
section
variable{P:Program}{w:World}{K:ao}{mg:Str->Option Value}{base:Heap}{Z:Adr}
theorem Uy{f:Addr}{fd:FuncData} (F:Fun K "parts" "parts" Gh f fd) (T:Txt K mg Z) (vJ:Df P w K mg base 4 "edge" ["view"] (lV K Z.View bT)) (n8:Df P w K mg base 4 "joined" ["view","cell"] (Bd K Z.View)) :
  cH P w K mg base (CXE P w) 5 f fd ["view"] (Gn K Z.View):=by
 refine F.rok nM (fun vs H Q E h=>?_) (fun cdv A outer s H vs Q E hr h=>?_)
 ·obtain⟨x,zs,w,rfl,_⟩:=h;rfl
 ·obtain⟨x,zs,w,rfl,vt,hq⟩:=h;have hu:=oN hr;have z6:=vt.vw.le;have w6:=vt.vw.w6;refine⟨_,(aB (bx (i:=1) nM.nd rfl (Or.inl rfl) (dG ak)) (aB (bx (i:=2) nM.nd rfl (Or.inl rfl) Z6) (aB (cC eE rfl (bB (K:=K) (aP vJ hr rfl aR (aj (rv 0) ak))) (bC (i:=3) nM.nd rfl (Or.inl rfl)) (aC (gM (c7 (uP hu) (rv 3) (rv 2) (by rfl)) (aB (bx (i:=4) nM.nd rfl (Or.inl rfl) (aP n8 hr rfl aR (aj (rv 0) (aj (rv 3) ak)))) (aB (jF (sG (K:=K) qY sO sS gB (rv 1) (aj (rv 4) ak))) (aC (cC eE rfl (bB (K:=K) (rv 4)) (bC (i:=5) nM.nd rfl (Or.inl rfl)) (aC (Ao uR (Vs (rv 2) (rv 5) (set_dict hu)))))))) cG))) (aC (bf (rv 1)))))),?_⟩;refine aF (fun zzs H1=>∃ q:Addr,H q=none/\Same H H1/\H1 q=some (.lst [])/\zzs=[zzR x,zzR q,zzN,zzN,zzN,zzN]) (fun R hR=>?_) ?_
  ·exact⟨by decide,fun q nq=>hR _ _ ⟨q,nq,Same.put nq,aD,rfl⟩⟩
  rintro zzs H1 ⟨q,nq,s1,eq1,rfl⟩;refine aF (fun zzs H2=>∃ dd:Addr,H dd=none/\dd≠q/\Same H1 H2/\H2 dd=some (.dT (cZ []))/\zzs=[zzR x,zzR q,zzR dd,zzN,zzN,zzN]) (fun R hR=>?_) ?_
  ·exact fun dd nd=>hR _ _ ⟨dd,s1.free nd,(bU eq1 nd).symm,Same.put nd,aD,rfl⟩
  rintro zzs H2 ⟨dd,nd,ndq,s2,ed,rfl⟩;refine aF (fun zzs H3=>∃(qs:List Addr)(v3 v4 v5:Option V),Same H H3/\qb K H H3 q qs (aW zs w)/\zzs=[zzR x,zzR q,zzR dd,v3,v4,v5]) (fun R hR=>?_) ?_
  ·refine⟨_,rfl,x,zs,w,rfl,vt.mono (s1.trans s2),fun eg H3 fr=>?_⟩;obtain⟨cs,ec,Dc⟩:=fr.ls;have lcs:cs.length=(bT zs w).length:=by rw[Dc.length,aN]
   refine⟨eg,rfl,⟨_,SqL.of ec⟩,?_⟩;have neg:H eg=none:=(s1.trans s2).free fr.new;refine d9 (K:=K) (xs:=cs) (fun i zzs H4=>∃(qs:List Addr)(ps:List (List Cell))(pl:List Cell)(v3 v4 v5:Option V),Same H H4/\H4 eg=some (.lst cs)/\aY K H4 cs ((bT zs w).map aA)/\qb K H H4 q qs ps/\H4 dd=some (.dT (cZ pl))/\pl.Nodup/\(∀ y,y∈pl↔∃ p∈ps,y∈p)/\(∀ y∈pl,inF zs.length w y)/\gK zs w ((bT zs w).drop i) ps=aW zs w/\eg≠q/\ps.length<=i/\zzs=[zzR x,zzR q,zzR dd,v3,v4,v5])
    ⟨[],[],[],none,none,none,s1.trans (s2.trans fr.same),ec,Dc,⟨fr.same _ _ (s2 _ _ eq1),rfl,fun i a p h=>(by cases h),fun a ha=>(by cases ha),HN,fun z=>(by cases z)⟩,fr.same _ _ ed,HN,fun y=>⟨fun z=>(by cases z),fun⟨p,hp,_⟩=>(by cases hp)⟩,fun y hy=>(by cases hy),rfl,fun z=>(by have:=fr.new;rw[z,s2 _ _ eq1] at this;cases this),bK _,rfl⟩
    (fun i zzs H4 _ hh=>by obtain⟨_,_,_,_,_,_,_,e,_⟩:=hh;exact SqL.of e) (fun i u zzs H4 hu' hh=>?_) (fun zzs H4 hh=>?_)
   ·obtain⟨qs,ps,pl,v3,v4,v5,sh,ec4,Dc4,pa,ed4,ndp,Uj,inp,go,Yi,lps,rfl⟩:=hh;obtain⟨dc,edc,du⟩:=Dc4.get hu';rw[cM] at edc;obtain⟨c,ecq,rfl⟩:=j9.mp edc;have a3z:c∈bT zs w:=eO ecq;have cin:inF zs.length w c:=bL.mp (cB.mp (cB.mp a3z).1).1;obtain⟨tc,rfl,_,htc⟩:=fK du;have key:H4 tc=some (.tup ((lF c).map kV)):=htc;have i36:i<36:=by
     have h1:=(iI.mp ecq).1;have h2:(bT zs w).length<=(bA zs w).length:=iJ _ _;have h3:=eY vt.vw;lia
    have dr:(bT zs w).drop i=c::(bT zs w).drop (i+1):=by
     have h1:=(iI.mp ecq)
     rw[yw h1.1,h1.2]
    rw[dr] at go;refine⟨_,rfl,_,rfl,dd,_,rfl,Qp.t ed4 key,_,rfl,?_⟩;rw[ni];by_cases hp:c∈pl
    ·rw[aK hp];unfold gK at go;rw[aK ((Uj c).mp hp)] at go;exact wu ⟨qs,ps,pl,_,v4,v5,sh,ec4,Dc4,pa,ed4,ndp,Uj,inp,go,Yi,by lia,rfl⟩
    rw[aJ hp];unfold gK at go;rw[aJ (fun z=>hp ((Uj c).mpr z))] at go;refine Cy ?_;refine aF (fun zzs H5=>∃ a:Addr,H4 a=none/\Same H4 H5/\Ls K H5 a ((cu zs w c).map aA)/\zzs=[zzR x,zzR q,zzR dd,zzR tc,zzR a,v5]) (fun R' hR'=>?_) ?_
    ·refine⟨_,rfl,_,rfl,x,_,zs,w,c,rfl,vt.mono sh,du,cin,fun a H5 ds na s5 la as mm=>?_⟩;have e:ds=cu zs w c:=Eu as (kZ z6 w6) fun y=>by rw[mm y,dF cin]
     rw[e] at la;exact hR' _ _ ⟨a,na,s5,la,rfl⟩
    rintro zzs H5 ⟨a,na,s5,la,rfl⟩;have pa5:=pa.mono s5;have na0:H a=none:=sh.free na;have naq:a≠q:=fun z=>by rw[z] at na;rw[pa.at_] at na;cases na
    have a3J:a∉qs:=fun z=>by
     obtain⟨j,hj⟩:=Bm z;have hj':j<ps.length:=by rw[<- pa.len];exact(iI.mp hj).1
     obtain⟨_,e,_⟩:=pa.ls j a ps[j] hj (by simp[hj']);rw[e] at na;cases na
    have a4o:dd≠q:=ndq;have lqs:qs.length<=36:=by rw[pa.len];lia
    refine aF (fun zzs H6=>Same H H6/\H6 eg=some (.lst cs)/\aY K H6 cs ((bT zs w).map aA)/\qb K H H6 q (qs++[a]) (ps++[cu zs w c])/\Ls K H6 a ((cu zs w c).map aA)/\H6 dd=some (.dT (cZ pl))/\zzs=[zzR x,zzR q,zzR dd,zzR tc,zzR a,v5]) (fun R' hR'=>?_) ?_
    ·refine⟨_,rfl,.inl ⟨rfl,_,SqL.of pa5.at_⟩,_,rfl,q,_,_,rfl,rfl,pa5.at_,ltl (by rw[aN];lia),?_⟩;have sb:SameBut q H5 (upd H5 q (.lst (qs.map V.ref++[V.ref a]))):=(SameBut.refl q _).put;exact hR' _ _ ⟨sb.of (sh.trans s5) nq,sb _ _ (s5 _ _ ec4) Yi,sb.cells pa5.at_ (Dc4.mono s5),pa5.snoc la na0 a3J naq,sb.ls pa5.at_ naq la,sb _ _ (s5 _ _ ed4) ndq,rfl⟩
    rintro zzs H6 ⟨sh6,ec6,Dc6,pa6,la6,ed6,rfl⟩;obtain⟨ms,em,Dm⟩:=id la6;have lms:ms.length=(cu zs w c).length:=by rw[Dm.length,aN]
    refine⟨_,rfl,a,rfl,⟨_,SqL.of em⟩,?_⟩;refine d9 (K:=K) (xs:=ms) (fun j zzs H7=>∃(pl':List Cell)(v5:Option V),Same H H7/\H7 eg=some (.lst cs)/\aY K H7 cs ((bT zs w).map aA)/\qb K H H7 q (qs++[a]) (ps++[cu zs w c])/\H7 a=some (.lst ms)/\aY K H7 ms ((cu zs w c).map aA)/\H7 dd=some (.dT (cZ pl'))/\pl'.Nodup/\(∀ y,y∈pl'↔(y∈pl\/y∈(cu zs w c).take j))/\(∀ y∈pl',inF zs.length w y)/\zzs=[zzR x,zzR q,zzR dd,zzR tc,zzR a,v5])
     ⟨pl,v5,sh6,ec6,Dc6,pa6,em,Dm,ed6,ndp,fun y=>⟨.inl,fun z=>z.elim id (fun z=>by cases z)⟩,inp,rfl⟩ (fun j zzs H7 _ hh=>by obtain⟨_,_,_,_,_,_,e,_⟩:=hh;exact SqL.of e) (fun j o zzs H7 ho hh=>?_) (fun zzs H7 hh=>?_)
    ·obtain⟨pl',v5,sh7,ec7,Dc7,pa7,em7,Dm7,ed7,nd7,a0E,in7,rfl⟩:=hh;obtain⟨dy,edy,do7⟩:=Dm7.get ho;rw[cM] at edy;obtain⟨y,ey,rfl⟩:=j9.mp edy;obtain⟨ty,rfl,_,hty⟩:=fK do7;have a3E:H7 ty=some (.tup ((lF y).map kV)):=hty;have yj:y∈cu zs w c:=eO ey;have yin:inF zs.length w y:=((dF cin).mp yj).inF cin;have l36:pl'.length<=36:=by
      have:=lK (l2:=bH zs.length w) nd7 fun y hy=>bL.mpr (in7 y hy)
      rw[eU] at this;have:zs.length*w<=6*6:=jZ z6 w6;lia
     have tk:∀ z,z∈(cu zs w c).take (j+1)↔(z∈(cu zs w c).take j\/z=y):=fun z=>by
      rw[iC,ey,cD];simp
     refine⟨_,rfl,_,rfl,dd,_,rfl,Qq.t ed7 a3E (ltl (by unfold cZ;rw[aN];lia)),?_⟩;have mk:∀ pl2:List Cell,pl2.Nodup->(∀ z,z∈pl2↔(z∈pl'\/z=y))->∃(pl':List Cell)(v5:Option V),Same H (upd H7 dd (.dT (cZ pl2)))/\(upd H7 dd (.dT (cZ pl2))) eg=some (.lst cs)/\aY K (upd H7 dd (.dT (cZ pl2))) cs ((bT zs w).map aA)/\qb K H (upd H7 dd (.dT (cZ pl2))) q (qs++[a]) (ps++[cu zs w c])/\(upd H7 dd (.dT (cZ pl2))) a=some (.lst ms)/\aY K (upd H7 dd (.dT (cZ pl2))) ms ((cu zs w c).map aA)/\(upd H7 dd (.dT (cZ pl2))) dd=some (.dT (cZ pl'))/\pl'.Nodup/\(∀ y,y∈pl'↔(y∈pl\/y∈(cu zs w c).take (j+1)))/\(∀ y∈pl',inF zs.length w y)/\[some (V.ref x),some (.ref q),some (.ref dd),some (.ref tc),some (.ref a),some (.ref ty)]=[zzR x,zzR q,zzR dd,zzR tc,zzR a,v5]:=fun pl2 n2 m2=>by
      have sd:SameBut dd H7 (upd H7 dd (.dT (cZ pl2))):=(SameBut.refl dd _).put;have tp:Ia H7 (upd H7 dd (.dT (cZ pl2))):=.put ed7 (by intro xs z;cases z);refine⟨pl2,_,sd.of sh7 nd,sd _ _ ec7 (qy ec7 ed7 (by intro z;cases z)),tp.cells Dc7,⟨sd _ _ pa7.at_ (qy pa7.at_ ed7 (by intro z;cases z)),pa7.len,fun i b p h1 h2=>?_,pa7.new,pa7.nd,pa7.nq⟩,sd _ _ em7 (qy em7 ed7 (by intro z;cases z)),tp.cells Dm7,aD,n2,fun z=>?_,fun z hz=>?_,rfl⟩
      ·obtain⟨ws,ew,Dw⟩:=pa7.ls i b p h1 h2;exact⟨ws,sd _ _ ew (qy ew ed7 (by intro z;cases z)),tp.cells Dw⟩
      ·rw[m2 z,a0E z,tk z,or_assoc]
      ·rcases(m2 z).mp hz with q|q
       ·exact in7 z q
       ·rw[q];exact yin
     by_cases hy:y∈pl'
     ·rw[J0 pl' y hy];exact mk pl' nd7 fun z=>⟨.inl,fun q=>q.elim id (fun e=>by rw[e];exact hy)⟩
     ·rw[Ds pl' y hy];refine mk (pl'++[y]) (yE.mpr ⟨nd7,by simp,fun a ha b hb e=>hy (by rw[<- dU.mp hb,<- e];exact ha)⟩) fun z=>?_
      rw[cD,dU]
    ·obtain⟨pl',v5,sh7,ec7,Dc7,pa7,em7,Dm7,ed7,nd7,a0E,in7,rfl⟩:=hh;refine⟨qs++[a],ps++[cu zs w c],pl',_,_,v5,sh7,ec7,Dc7,pa7,ed7,nd7,fun y=>?_,in7,go,Yi,by rw[cL,nQ];lia,rfl⟩;rw[a0E y,lms,iK,Uj y];constructor
     ·rintro(⟨p,hp,hy⟩|hy)
      ·exact⟨p,jj _ hp,hy⟩
      ·exact⟨_,gn _ (dU.mpr rfl),hy⟩
     ·rintro⟨p,hp,hy⟩;rcases cD.mp hp with z|z
      ·exact .inl ⟨p,z,hy⟩
      ·rw[dU.mp z] at hy;exact .inr hy
   ·obtain⟨qs,ps,pl,v3,v4,v5,sh,ec4,Dc4,pa,ed4,ndp,Uj,inp,go,Yi,lps,rfl⟩:=hh;rw[lcs,List.drop_length] at go;have e:ps=aW zs w:=go;exact hR _ _ ⟨qs,v3,v4,v5,sh,by rw[<- e];exact pa,rfl⟩
  rintro zzs H3 ⟨qs,v3,v4,v5,s3,pa,rfl⟩;exact⟨_,rfl,hq q qs _ nq s3 pa⟩
end
theorem Us:∀ d∈offs,(-d.1,-d.2)∈offs:=by decide
theorem nF{h w:Int}{x y:Cell}(hy:y∈cJ h w x)(hx:inF h w x):x∈cJ h w y:=by
 unfold cJ at hy ⊢;obtain⟨h1,_⟩:=cB.mp hy;obtain⟨d,hd,rfl⟩:=dR.mp h1;refine cB.mpr ⟨dR.mpr ⟨_,Us d hd,?_⟩,bG hx⟩;exact jh (by show x.1+d.1 + -d.1=x.1;lia) (by show x.2+d.2 + -d.2=x.2;lia)
theorem rP{zs:List Str}{w:Nat}{x:Cell}:x∈bT zs w↔aM zs w x=true/\∃ t,t∈aL zs w x:=by
 unfold bT;rw[cB,uz,Qz,iw];refine and_congr_right fun _=>?_
 constructor
 ·intro h;cases e:aL zs w x with
  |nil=>rw[e] at h;exact absurd h (kh _)
  |cons t ts=>exact⟨t,cU⟩
 ·rintro⟨t,ht⟩;exact WK ht
theorem je{zs:List Str}{w:Nat}{x:Cell}(h:x∈bT zs w):inF zs.length w x:=by
 have:=(rP.mp h).1;unfold aM at this;rw[jY] at this;exact dN this.1
theorem Rz{zs:List Str}{w:Nat}(h6:zs.length<=6)(w6:w<=6):(bT zs w).Pairwise aV:=by
 unfold bT bA;exact((rH zs.length (cR.mpr (by lia)) w (cR.mpr (by lia))).filter _).filter _
theorem pH{zs:List Str}{w:Nat}{t y:Cell}(hin:inF zs.length w t)(ho:aM zs w t=false)(hy:y∈au zs w t):y∈bT zs w:=by
 unfold au at hy;obtain⟨h1,h2⟩:=cB.mp hy;refine rP.mpr ⟨h2,t,?_⟩;unfold aL;exact cB.mpr ⟨nF h1 hin,by rw[ho];rfl⟩
theorem gC{zs:List Str}{w:Nat}{x t:Cell}(h:t∈aL zs w x):inF zs.length w t/\aM zs w t=false/\t∈cJ zs.length w x:=by
 unfold aL at h;obtain⟨h1,h2⟩:=cB.mp h;exact⟨lG h1,by simpa using h2,h1⟩
theorem jc.trans{zs:List Str}{w:Nat}{a b c:Cell}(r1:jc zs w a b)(r2:jc zs w b c):jc zs w a c:=by
 induction r2 with
 |base=>exact r1
 |step _ h1 h2 ih=>exact .step ih h1 h2
theorem jc.Yk{zs:List Str}{w:Nat}{t x y:Cell}(hin:L2.inF zs.length w t)(ho:aM zs w t=false)(hx:x∈cJ zs.length w t)(hy:y∈cJ zs.length w t)(cy:aM zs w y=true):jc zs w x y:=by
 refine .step .base (t:=t) ?_ ?_
 ·unfold aL;exact cB.mpr ⟨nF hx hin,by rw[ho];rfl⟩
 ·unfold au;exact cB.mpr ⟨hy,cy⟩
theorem jc.symm{zs:List Str}{w:Nat}{a b:Cell}(ca:aM zs w a=true)(ia:L2.inF zs.length w a)(r:jc zs w a b):jc zs w b a:=by
 induction r with
 |base=>exact .base
 |@step x t y rx ht hy ih=>
  obtain⟨tin,Wh,tx⟩:=gC ht;have xin:=rx.inF ia;have cx:aM zs w x=true:=by
   cases rx with
   |base=>exact ca
   |step _ _ h=>exact(rZ h).2
  unfold au at hy;obtain⟨h1,h2⟩:=cB.mp hy;exact(jc.Yk tin Wh h1 (nF tx xin) cx).trans ih
theorem jc.edge{zs:List Str}{w:Nat}{a b:Cell}(ha:a∈bT zs w)(r:jc zs w a b):b∈bT zs w:=by
 cases r with
 |base=>exact ha
 |step _ ht hy=>
  obtain⟨tin,Wh,_⟩:=gC ht;exact pH tin Wh hy
def layAt(p:Nat->List Cell->Bool)(ps:List Cell):Nat->List (List Cell)
 |0=>[[]]
 |k+1=>(layAt p ps k++(layAt p ps k).map (·++[ps.getD k (0,0)])).filter (p k)
def upto(ps:List Cell)(k:Nat)(l:List Cell):List Cell:=l.filter fun y=>decide (y∈ps.take k)
theorem K5{ps l:List Cell}{k:Nat}(h:∀ y∈l,y∈ps.take k):upto ps k l=l:=by
 unfold upto;exact GZ.mpr fun y hy=>bG (h y hy)
theorem getD_at{ps:List Cell}{k:Nat}(hk:k<ps.length):ps.getD k (0,0)=ps[k]:=by
 rw[dj,gP hk];rfl
theorem jB{ps:List Cell}{k:Nat}(hk:k<ps.length):ps.take (k+1)=ps.take k++[ps.getD k (0,0)]:=by
 rw[iC,gP hk,getD_at hk];rfl
theorem yg{ps:List Cell}(nd:ps.Nodup){k:Nat}(hk:k<ps.length):ps.getD k (0,0)∉ps.take k:=by
 intro h;have h2:(ps.take k++[ps.getD k (0,0)]).Nodup:=by rw[<- jB hk];exact nd.sublist (List.take_sublist _ _)
 exact(yE.mp h2).2.2 _ h _ (dU.mpr rfl) rfl
theorem S7{ps:List Cell}{i j:Nat}(h:i<=j){y:Cell}(hy:y∈ps.take i):y∈ps.take j:=by
 have e:ps.take i=(ps.take j).take i:=by rw[List.take_take,Bw h]
 rw[e] at hy;exact yx hy
theorem wA{p:Nat->List Cell->Bool}{ps:List Cell}(nd:ps.Nodup):∀ k,k<=ps.length->∀ l,l∈layAt p ps k↔(l.Sublist (ps.take k)/\∀ j,j<k->p j (upto ps (j+1) l)=true)
 |0,_,l=>by
  unfold layAt;rw[dU,NZ,List.sublist_nil];exact⟨fun h=>⟨h,fun j hj=>absurd hj (by lia)⟩,fun h=>h.1⟩
 |k+1,hk,l=>by
  have ih:=wA (p:=p) nd k (by lia);unfold layAt;have hk':k<ps.length:=by lia
  have nin:=yg nd hk';rw[cB,jB hk'];have a3c:∀ l':List Cell,l'.Sublist (ps.take k)->∀ j,j<k->upto ps (j+1) (l'++[ps.getD k (0,0)])=upto ps (j+1) l':=fun l' _ j hj=>by
   unfold upto;rw[sU];have:[ps.getD k (0,0)].filter (fun y=>decide (y∈ps.take (j+1)))=[]:=by
    rw[um,aJ (by rw[bV (fun z=>nin (S7 (by lia) z))];exact fW)];rfl
   rw[this,qX]
  constructor
  ·rintro⟨hl,hp⟩;have all:∀ l':List Cell,l'.Sublist (ps.take k++[ps.getD k (0,0)])->upto ps (k+1) l'=l':=fun l' h'=>K5 fun y hy=>by rw[jB hk'];exact h'.subset hy
   rcases cD.mp hl with z|z
   ·obtain⟨h1,h2⟩:=(ih l).mp z;have hs:l.Sublist (ps.take k++[ps.getD k (0,0)]):=h1.trans (Wx _ _);refine⟨hs,fun j hj=>?_⟩;by_cases e:j=k
    ·subst e;rw[all l hs];exact hp
    ·exact h2 j (by lia)
   ·obtain⟨l',m',rfl⟩:=dR.mp z;obtain⟨h1,h2⟩:=(ih l').mp m';have hs:(l'++[ps.getD k (0,0)]).Sublist (ps.take k++[ps.getD k (0,0)]):=h1.append (Nv _);refine⟨hs,fun j hj=>?_⟩;by_cases e:j=k
    ·subst e;rw[all _ hs];exact hp
    ·rw[a3c l' h1 j (by lia)];exact h2 j (by lia)
  ·rintro⟨hs,hp⟩;have hpk:=hp k (by lia);rw[K5 (fun y hy=>by rw[jB hk'];exact hs.subset hy)] at hpk;refine⟨?_,hpk⟩;obtain⟨l1,l2,e,s1,s2⟩:=List.sublist_append_iff.mp hs;subst e;have:l2=[]\/l2=[ps.getD k (0,0)]:=by
    cases l2 with
    |nil=>exact .inl rfl
    |cons a l2=>
     right;exact s2.eq_of_length_le (by simp)
   rcases this with rfl|rfl
   ·refine jj _ ((ih _).mpr ⟨by simpa using s1,fun j hj=>hp j (by lia)⟩)
   ·refine gn _ (dR.mpr ⟨l1,(ih l1).mpr ⟨s1,fun j hj=>?_⟩,rfl⟩);have:=hp j (by lia);rwa[a3c l1 s1 j hj] at this
theorem xZ{p:Nat->List Cell->Bool}{ps:List Cell}(nd:ps.Nodup):∀ k,k<=ps.length->(layAt p ps k).Nodup
 |0,_=>by unfold layAt;simp
 |k+1,hk=>by
  have ih:=xZ (p:=p) nd k (by lia);unfold layAt;refine Nq Hh (yE.mpr ⟨ih,?_,fun a ha b hb e=>?_⟩)
  ·exact List.pairwise_map.mpr (ih.imp fun h e=>h (List.append_cancel_right e))
  ·obtain⟨b',_,rfl⟩:=dR.mp hb;subst e;have:=((wA nd k (by lia) _).mp ha).1;exact yg nd (by lia) (this.subset (by simp))
theorem nD(p:Nat->List Cell->Bool)(ps:List Cell):∀ k,(layAt p ps k).length<=2^k
 |0=>bK _
 |k+1=>by
  unfold layAt;refine cO (iJ _ _) ?_;rw[cL,aN,Nat.pow_succ];have:=nD p ps k;lia
theorem rN{p:Nat->List Cell->Bool}{ps:List Cell}:∀ k,∀ l∈layAt p ps k,l.length<=k
 |0,l,h=>by unfold layAt at h;rw[dU.mp h];exact bK _
 |k+1,l,h=>by
  unfold layAt at h;rcases cD.mp (cB.mp h).1 with z|z
  ·have:=rN k l z;lia
  ·obtain⟨l',m',rfl⟩:=dR.mp z;have:=rN k l' m';rw[cL,nQ];lia
def mQ(N l:List Cell):Nat:=(N.filter fun y=>decide (y∈l)).length
def nA(N:List Cell)(f:Int)(rest:Nat)(l:List Cell):Bool:=decide ((mQ N l:Int)<=f)&&decide (f<=(mQ N l:Int)+rest)
def zB(N:List Cell)(c:Cell):Nat:=(N.filter fun y=>fL c y).length
def pP(zs:List Str)(w:Nat)(ps:List Cell)(k:Nat)(l:List Cell):Bool:=
 (aL zs w (ps.getD k (0,0))).all fun t=>nA (au zs w t) (fG zs t) (zB (au zs w t) (ps.getD k (0,0))) l
def Jf(N ps:List Cell)(k:Nat):Nat:=(N.filter fun y=>decide (y∈ps.drop (k+1))).length
theorem Oz{N:List Cell}{a b c:Cell->Bool}(h:∀ y∈N,a y=true->b y=true\/c y=true):(N.filter a).length<=(N.filter b).length+(N.filter c).length:=by
 induction N with
 |nil=>simp
 |cons y N ih=>
  have ih':=ih fun z hz=>h z (dI _ hz)
  have hy:=h y cU;simp only[um];cases ha:a y<;>cases hb:b y<;>cases hc:c y<;>simp_all<;>lia
theorem QZ{N:List Cell}{a b:Cell->Bool}(h:∀ y∈N,a y=true->b y=true):(N.filter a).length<=(N.filter b).length:=by
 have:=Oz (N:=N) (a:=a) (b:=b) (c:=fun _=>false) fun y hy hz=>.inl (h y hy hz)
 have e:N.filter (fun _=>false)=[]:=GF.mpr fun _ _=>fW
 rw[e] at this;simpa using this
theorem R0{N:List Cell}{a:Cell->Bool}(h:∀ y∈N,a y=false):(N.filter a).length=0:=by
 rw[GF.mpr fun y hy=>by rw[h y hy];exact fW];rfl
theorem wj{N:List Cell}{a b:Cell->Bool}(h:∀ y∈N,a y=b y):(N.filter a).length=(N.filter b).length:=by rw[Ht h]
section
variable{zs:List Str}{w:Nat}{ps:List Cell}
structure Part(zs:List Str)(w:Nat)(ps:List Cell):Prop where
 asc:ps.Pairwise aV
 ne:ps≠[]
 cl:∀ x∈ps,aM zs w x=true/\inF zs.length w x
 all:∀ x∈ps,∀ t∈aL zs w x,∀ y∈au zs w t,y∈ps
theorem Part.join{c:Cell}(h6:zs.length<=6)(w6:w<=6)(hc:c∈bT zs w):Part zs w (cu zs w c):=by
 have hin:=je hc;refine⟨kZ h6 w6,fun z=>?_,fun x hx=>?_,fun x hx t ht y hy=>?_⟩
 ·have:c∈cu zs w c:=(dF hin).mpr .base;rw[z] at this;cases this
 ·have:=jc.edge hc ((dF hin).mp hx);exact⟨(rP.mp this).1,je this⟩
 ·exact(dF hin).mpr (.step ((dF hin).mp hx) ht hy)
theorem Part.nd(p:Part zs w ps):ps.Nodup:=kJ p.asc
theorem Part.near(p:Part zs w ps){x t:Cell}(hx:x∈ps)(ht:t∈aL zs w x):x∈au zs w t:=by
 obtain⟨h1,h2,h3⟩:=gC ht;exact cB.mpr ⟨nF h3 (p.cl x hx).2,(p.cl x hx).1⟩
theorem DX{x t:Cell}(hx:x∈au zs w t)(tin:inF zs.length w t)(to:aM zs w t=false):t∈aL zs w x:=by
 obtain⟨h1,h2⟩:=cB.mp hx;exact cB.mpr ⟨nF h1 tin,by rw[to];rfl⟩
theorem Part.split(p:Part zs w ps){j:Nat}(hj:j<ps.length){y:Cell}(hy:y∈ps):(y∈ps.take (j+1)/\y∉ps.drop (j+1)/\fL (ps.getD j (0,0)) y=false)\/(y∉ps.take (j+1)/\y∈ps.drop (j+1)/\fL (ps.getD j (0,0)) y=true):=by
 have as:=p.asc;have e:=Ce (j+1) ps;have nd:=p.nd;rw[<- e] at as nd;have dis:=(yE.mp nd).2.2;have hjm:ps.getD j (0,0)∈ps.take (j+1):=by rw[jB hj];exact gn _ (dU.mpr rfl)
 by_cases h:y∈ps.take (j+1)
 ·left;refine⟨h,fun z=>dis y h y z rfl,?_⟩;rw[jB hj] at h as;rcases cD.mp h with z|z
  ·have h1:=(Cg.mp (Cg.mp as).1).2.2 y z _ (dU.mpr rfl);exact bV (by unfold aV at *;lia)
  ·rw[dU.mp z];exact bV (by unfold aV;lia)
 ·right;rw[<- e] at hy;have hd:y∈ps.drop (j+1):=(cD.mp hy).resolve_left h;exact⟨h,hd,bG ((Cg.mp as).2.2 _ hjm y hd)⟩
theorem Part.beh(p:Part zs w ps){j:Nat}(hj:j<ps.length){N:List Cell}(hN:∀ y∈N,y∈ps):zB N (ps.getD j (0,0))=Jf N ps j:=by
 refine wj fun y hy=>?_
 rcases p.split hj (hN y hy) with⟨_,h2,h3⟩|⟨_,h2,h3⟩
 ·rw[h3,bV h2]
 ·rw[h3,bG h2]
theorem DG{N l:List Cell}{f:Int}{r:Nat}:nA N f r l=true↔((mQ N l:Int)<=f/\f<=(mQ N l:Int)+r):=by
 unfold nA;rw[jY,iw,iw]
theorem Part.before(p:Part zs w ps){j:Nat}(hj:j<ps.length){N l:List Cell}(hN:∀ y∈N,y∈ps){f:Int}(h:(mQ N l:Int)=f):nA N f (Jf N ps j) (upto ps (j+1) l)=true:=by
 rw[DG,<- h];constructor
 ·have:=QZ (N:=N) (a:=fun y=>decide (y∈upto ps (j+1) l)) (b:=fun y=>decide (y∈l)) fun y _ hz=>bG (cB.mp (dN hz)).1
  unfold mQ;lia
 ·have:=Oz (N:=N) (a:=fun y=>decide (y∈l)) (b:=fun y=>decide (y∈upto ps (j+1) l)) (c:=fun y=>decide (y∈ps.drop (j+1))) fun y hy hz=>by
   rcases p.split hj (hN y hy) with⟨h1,_,_⟩|⟨_,h2,_⟩
   ·exact .inl (bG (cB.mpr ⟨dN hz,bG h1⟩))
   ·exact .inr (bG h2)
  unfold mQ Jf;lia
theorem a05{j:Nat}{N l:List Cell}{f:Int}(hN:∀ y∈N,y∈ps.take (j+1))(h0:Jf N ps j=0)(h:nA N f (Jf N ps j) (upto ps (j+1) l)=true):(mQ N l:Int)=f:=by
 rw[DG,h0] at h;have e:mQ N (upto ps (j+1) l)=mQ N l:=wj fun y hy=>by
  rw[Bu];exact⟨fun z=>(cB.mp z).1,fun z=>cB.mpr ⟨z,bG (hN y hy)⟩⟩
 rw[e] at h;lia
theorem Y9{N:List Cell}(h0:N≠[])(hN:∀ y∈N,y∈ps):∃ j,j<ps.length/\ps.getD j (0,0)∈N/\∀ y∈N,y∈ps.take (j+1):=by
 have go:∀ k,k<=ps.length->(∀ y∈N,y∈ps.take k)->∃ j,j<ps.length/\ps.getD j (0,0)∈N/\∀ y∈N,y∈ps.take (j+1):=by
  intro k
  induction k with
  |zero=>
   intro _ h;cases N with
   |nil=>exact absurd rfl h0
   |cons a N=>have:=h a cU;rw[NZ] at this;cases this
  |succ k ih=>
   intro hk h;by_cases hh:∀ y∈N,y∈ps.take k
   ·exact ih (by lia) hh
   ·have ⟨y,hy,hn⟩:∃ y,y∈N/\y∉ps.take k:=Bh fun hc=>hh fun y hy=>Bh fun hn=>hc ⟨y,hy,hn⟩
    have:=h y hy;rw[jB (by lia)] at this;have e:y=ps.getD k (0,0):=dU.mp ((cD.mp this).resolve_left hn);exact⟨k,by lia,by rw[<- e];exact hy,h⟩
 exact go ps.length (bK _) (fun y hy=>by rw[iK];exact hN y hy)
def Zo(zs:List Str)(w:Nat)(ps l:List Cell):Prop:=∀ x∈ps,∀ t∈aL zs w x,(mQ (au zs w t) l:Int)=fG zs t
theorem Part.a3H(p:Part zs w ps)(l:List Cell):l∈layAt (pP zs w ps) ps ps.length↔(l.Sublist ps/\Zo zs w ps l):=by
 rw[wA p.nd _ (bK _),iK];refine and_congr_right fun hs=>⟨fun h x hx t ht=>?_,fun h j hj=>?_⟩
 ·have hN:∀ y∈au zs w t,y∈ps:=p.all x hx t ht;have hx':=p.near hx ht;obtain⟨j,hj,hm,hl⟩:=Y9 (fun z=>by rw[z] at hx';cases hx') hN;obtain⟨tin,to,_⟩:=gC ht;have:=jq.mp (h j hj) t (DX hm tin to);rw[p.beh hj hN] at this;refine a05 hl (R0 fun y hy=>?_) this;rcases p.split hj (hN y hy) with⟨_,h2,_⟩|⟨h2,_,_⟩
  ·exact bV h2
  ·exact absurd (hl y hy) h2
 ·refine jq.mpr fun t ht=>?_
  have hx:ps.getD j (0,0)∈ps:=by rw[getD_at hj];exact lZ _
  have hN:∀ y∈au zs w t,y∈ps:=p.all _ hx t ht;rw[p.beh hj hN];exact p.before hj hN (h _ hx t ht)
def fQ(zs:List Str)(w:Nat)(ps:List Cell):List (List Cell):=(layAt (pP zs w ps) ps ps.length).mergeSort fun a b=>!llt b a
theorem iV:(fQ zs w ps).Perm (layAt (pP zs w ps) ps ps.length):=List.mergeSort_perm _ _
theorem Rb:Sh (fQ zs w ps):=by
 have h:(fQ zs w ps).Pairwise fun a b=>(!llt b a)=true:=by
  refine List.pairwise_mergeSort (fun a b c h1 h2=>?_) (fun a b=>?_) _
  ·have h1:llt b a=false:=by simpa using h1
   have h2:llt c b=false:=by simpa using h2
   rw[uO.tr _ _ _ h1 h2];rfl
  ·cases h:llt b a
   ·rfl
   ·rw[uO.Ih _ _ h];rfl
 exact h.imp fun h=>by simpa using h
theorem Part.lays(p:Part zs w ps){ds:List (List Cell)}(h1:ds.Perm (layAt (pP zs w ps) ps ps.length))(h2:Sh ds):ds=fQ zs w ps:=Oc uO (h1.trans iV.symm) h2 Rb
theorem Part.mem(p:Part zs w ps)(l:List Cell):l∈fQ zs w ps↔(l.Sublist ps/\Zo zs w ps l):=by rw[iV.mem_iff,p.a3H]
theorem Rc(h:ps.length<=12):(fQ zs w ps).length<=4096:=by
 rw[iV.length_eq];exact cO (nD _ _ _) (GX (by decide) h)
theorem Rf{l:List Cell}(hl:l∈fQ zs w ps):l.length<=ps.length:=rN _ l (iV.mem_iff.mp hl)
theorem oO{x y:Cell}(h6:zs.length<=6)(w6:w<=6)(hx:x∈bT zs w)(hy:y∈cu zs w x):cu zs w y=cu zs w x:=by
 have ix:=je hx;have c1:=(dF ix).mp hy;have ey:=jc.edge hx c1;have c2:=jc.symm (rP.mp hx).1 ix c1;refine Eu (kZ h6 w6) (kZ h6 w6) fun z=>?_
 rw[dF (je ey),dF ix];exact⟨fun c=>c1.trans c,fun c=>c2.trans c⟩
structure Xg(zs:List Str)(w:Nat)(ps:List (List Cell)):Prop where
 of:∀ p∈ps,∃ x∈bT zs w,p=cu zs w x
 dis:ps.Pairwise fun a b=>∀ y∈a,y∉b
theorem Ad(h6:zs.length<=6)(w6:w<=6):∀(cs:List Cell)(ps:List (List Cell)),(∀ c∈cs,c∈bT zs w)->Xg zs w ps->Xg zs w (gK zs w cs ps)/\(∀ c∈cs,∃ p∈gK zs w cs ps,c∈p)/\(∀ p∈ps,p∈gK zs w cs ps)
 |[],ps,_,ok=>by unfold gK;exact⟨ok,(fun c hc=>by cases hc),fun p hp=>hp⟩
 |c::cs,ps,hcs,ok=>by
  have hc:=hcs c cU;have ic:=je hc;have self:c∈cu zs w c:=(dF ic).mpr .base;unfold gK;by_cases h:∃ p∈ps,c∈p
  ·rw[aK h];obtain⟨a1,a2,a3⟩:=Ad h6 w6 cs ps (fun d hd=>hcs d (dI _ hd)) ok;refine⟨a1,fun d hd=>?_,a3⟩;rcases bW.mp hd with z|z
   ·obtain⟨p,hp,hcp⟩:=h;exact⟨p,a3 p hp,by rw[z];exact hcp⟩
   ·exact a2 d z
  ·rw[aJ h];have ok2:Xg zs w (ps++[cu zs w c]):=by
    refine⟨fun p hp=>?_,Cg.mpr ⟨ok.dis,GC _ _,fun a ha b hb y hy hy2=>?_⟩⟩
    ·rcases cD.mp hp with z|z
     ·exact ok.of p z
     ·exact⟨c,hc,dU.mp z⟩
    ·rw[dU.mp hb] at hy2;obtain⟨x,hx,rfl⟩:=ok.of a ha;refine h ⟨_,ha,?_⟩;rw[<- oO h6 w6 hx hy,oO h6 w6 hc hy2];exact self
   obtain⟨a1,a2,a3⟩:=Ad h6 w6 cs (ps++[cu zs w c]) (fun d hd=>hcs d (dI _ hd)) ok2;refine⟨a1,fun d hd=>?_,fun p hp=>a3 p (jj _ hp)⟩;rcases bW.mp hd with z|z
   ·exact⟨_,a3 _ (gn _ (dU.mpr rfl)),by rw[z];exact self⟩
   ·exact a2 d z
theorem jz(h6:zs.length<=6)(w6:w<=6):Xg zs w (aW zs w)/\∀ c∈bT zs w,∃ p∈aW zs w,c∈p:=by
 obtain⟨a1,a2,_⟩:=Ad (zs:=zs) (w:=w) h6 w6 (bT zs w) [] (fun c hc=>hc) ⟨(fun p hp=>by cases hp),.nil⟩;exact⟨a1,a2⟩
end
theorem qj(zs:List Str)(w:Nat)(x:Cell):(au zs w x).length<=8:=cO (iJ _ _) (gA _ _ _)
def IW(zs:List Str)(w:Nat)(c t:Cell):Dt:=.tup [.int (fG zs t),.lst ((au zs w t).map aA),.int (zB (au zs w t) c)]
def Em(K:ao)(C:Addr):Sp:=fun vs H Q _=>∃(x:Addr)(v:V)(zs:List Str)(w:Nat)(c:Cell),vs=[.ref x,v]/\dW C H x zs w/\Den K H v (aA c)/\inF zs.length w c/\∀ q H',Fr K H H' q ((aL zs w c).map (IW zs w c))->Q (.ref q) H'
section
variable{P:Program}{w:World}{K:ao}{mg:Str->Option Value}{base:Heap}{Z:Adr}
theorem Lp{f:Addr}{fd:FuncData} (F:Fun K "demands" "demands" wI f fd) (T:Txt K mg Z) (cT:Df P w K mg base 3 "open_near" ["view","cell"] (pB K Z.View aL)) (cX:Df P w K mg base 3 "closed_near" ["view","cell"] (pB K Z.View au)) (jd:Df P w K mg base 1 "figure" ["view","cell"] (vg K Z.View)) :
  cH P w K mg base (CXE P w) 4 f fd ["view","last"] (Em K Z.View):=by
 refine F.rok lR (fun vs H Q E h=>?_) (fun cdv A outer s H vs Q E hr h=>?_)
 ·obtain⟨x,v,zs,w,c,rfl,_⟩:=h;rfl
 ·obtain⟨x,v,zs,w,c,rfl,vt,dv,hin,hq⟩:=h;have hu:=oN hr;refine⟨_,(aB (bx (i:=2) lR.nd rfl (Or.inl rfl) (dG ak)) (aB (cC eE rfl (bB (K:=K) (aP cT hr rfl aR (aj (rv 0) (aj (rv 1) ak)))) (bC (i:=3) lR.nd rfl (Or.inl rfl)) (aB (bx (i:=4) lR.nd rfl (Or.inl rfl) (aP cX hr rfl aR (aj (rv 0) (aj (rv 3) ak)))) (aB (z8 (i:=5) lR.nd rfl rfl (by rfl) rfl (bB (K:=K) (rv 4)) (fun _ _ _=>(gb (c7 (a2t (K:=K) hu) (rv 0) (rv 2) (dh _)))) (fun _ _ _=>(rv 0))) (aC (jF (sG (K:=K) qY sO sS gB (rv 2) (aj (fV (aj (aP jd hr rfl aR (aj (rv 0) (aj (rv 3) ak))) (aj (rv 4) (aj (aQ (cQ (K:=K)) rfl T.cI bO (aj (rv 5) ak)) ak)))) ak))))))) (aC (bf (rv 2))))),?_⟩;refine aF (fun zzs H1=>∃ q:Addr,H q=none/\Same H H1/\H1 q=some (.lst [])/\zzs=[zzR x,some v,zzR q,zzN,zzN,zzN]) (fun R hR=>?_) ?_
  ·exact⟨by decide,fun q nq=>hR _ _ ⟨q,nq,Same.put nq,aD,rfl⟩⟩
  rintro zzs H1 ⟨q,nq,s1,eq1,rfl⟩;refine aF (fun zzs H2=>∃(us:List V)(v3 v4 v5:Option V),Same H H2/\H2 q=some (.lst us)/\aY K (del q H2) us ((aL zs w c).map (IW zs w c))/\zzs=[zzR x,some v,zzR q,v3,v4,v5]) (fun R hR=>?_) ?_
  ·refine⟨_,rfl,_,rfl,x,_,zs,w,c,rfl,vt.mono s1,dv.mono s1,hin,fun tl H2 f2=>?_⟩;obtain⟨ts,et,Dt'⟩:=f2.ls;have lts:ts.length=(aL zs w c).length:=by rw[Dt'.length,aN]
   have lt8:=uQ zs w c;have ntq:tl≠q:=fun z=>by have:=f2.new;rw[z,eq1] at this;cases this
   refine⟨tl,rfl,⟨_,SqL.of et⟩,?_⟩;refine d9 (K:=K) (xs:=ts) (fun i zzs H3=>∃(us:List V)(v3 v4 v5:Option V),Same H H3/\H3 tl=some (.lst ts)/\aY K H3 ts ((aL zs w c).map aA)/\H3 q=some (.lst us)/\aY K (del q H3) us (((aL zs w c).take i).map (IW zs w c))/\zzs=[zzR x,some v,zzR q,v3,v4,v5])
    ⟨[],none,none,none,s1.trans f2.same,et,Dt',f2.same _ _ eq1,.nil,rfl⟩ (fun i zzs H3 _ hh=>by obtain⟨_,_,_,_,_,e,_⟩:=hh;exact SqL.of e) (fun i u zzs H3 hu' hh=>?_) (fun zzs H3 hh=>?_)
   ·obtain⟨us,v3,v4,v5,sh,et3,Dt3,eq3,D3,rfl⟩:=hh;obtain⟨dt,edt,du⟩:=Dt3.get hu';rw[cM] at edt;obtain⟨t,etq,rfl⟩:=j9.mp edt;have hi:i<(aL zs w c).length:=(iI.mp etq).1;obtain⟨tin,to,_⟩:=gC (eO etq);refine aF (fun zzs H4=>∃ a:Addr,Same H3 H4/\H3 a=none/\Ls K H4 a ((au zs w t).map aA)/\zzs=[zzR x,some v,zzR q,some u,zzR a,v5]) (fun R' hR'=>?_) ?_
    ·exact⟨_,rfl,_,rfl,x,_,zs,w,t,rfl,vt.mono sh,du,tin,fun a H4 f4=>hR' _ _ ⟨a,f4.same,f4.new,f4.ls,rfl⟩⟩
    rintro zzs H4 ⟨a,s4,na,la,rfl⟩;obtain⟨as,ea,Da⟩:=id la;have lc8:=qj zs w t;refine aF (fun zzs H5=>∃ b:Addr,Same H4 H5/\Ls K H5 b (((au zs w t).filter fun y=>fL c y).map aA)/\zzs=[zzR x,some v,zzR q,some u,zzR a,zzR b]) (fun R' hR'=>?_) ?_
    ·refine⟨_,rfl,a,rfl,⟨_,SqL.of ea⟩,eF (K:=K) (xs:=au zs w t) (enc:=aA) (bZ (SqL.of ea)) Da (small (by lia)) (fun y=>fL c y) aA (fun y hy u' H5 s5 d G hG=>?_) (fun y hy _ u' H5 s5 d G hG=>⟨_,rfl,hG _ _ (Same.refl _) d⟩) (fun ys H5 s5 D5 b hb=>?_)⟩
     ·exact⟨_,rfl,_,rfl,y,c,d,dv.mono (sh.trans (s4.trans s5)),_,rfl,hG _ (Same.refl _)⟩
     ·exact hR' _ _ ⟨b,s5.and hb,.new hb D5,rfl⟩
    rintro zzs H5 ⟨b,s5,lb,rfl⟩;have eq5:=s5 _ _ (s4 _ _ eq3);have lus:us.length<=8:=by rw[D3.length,aN,jX];lia
    refine⟨_,rfl,.inl ⟨rfl,_,SqL.of eq5⟩,?_⟩;refine⟨_,rfl,_,rfl,x,_,zs,w,t,rfl,vt.mono (sh.trans (s4.trans s5)),du.mono (s4.trans s5),tin,to,?_⟩;refine⟨_,rfl,_,rfl,?_⟩;dsimp only[vm];refine Aj lb.den ?_;refine⟨sz rfl,fun tt nt=>?_⟩;have s6:=Same.put (o:=.tup [.int (fG zs t),.ref a,.int ((((au zs w t).filter fun y=>fL c y).map aA).length:Int)]) nt;refine wF (K:=K) (s6 _ _ eq5) (by lia) ?_;have sb:SameBut q (upd H5 tt (.tup [.int (fG zs t),.ref a,.int ((((au zs w t).filter fun y=>fL c y).map aA).length:Int)])) (upd (upd H5 tt (.tup [.int (fG zs t),.ref a,.int ((((au zs w t).filter fun y=>fL c y).map aA).length:Int)])) q (.lst (us++[.ref tt]))):=(SameBut.refl q _).put;have naq:a≠q:=fun z=>by rw[z,eq3] at na;cases na
    have a3P:tt≠q:=fun z=>by rw[z,eq5] at nt;cases nt
    have sH:Same H3 (upd H5 tt (.tup [.int (fG zs t),.ref a,.int ((((au zs w t).filter fun y=>fL c y).map aA).length:Int)])):=(s4.trans s5).trans s6;refine⟨us++[.ref tt],_,_,_,sb.of (sh.trans sH) nq,sb _ _ (sH _ _ et3) ntq,sb.cells (s6 _ _ eq5) (Dt3.mono sH),aD,?_,rfl⟩;rw[iC,etq,dZ];refine(D3.mono ((sH.but q).trans sb).del).append (.cons ?_ .nil);have dn:Same (del q (upd H5 tt (.tup [.int (fG zs t),.ref a,.int ((((au zs w t).filter fun y=>fL c y).map aA).length:Int)]))) (del q (upd (upd H5 tt (.tup [.int (fG zs t),.ref a,.int ((((au zs w t).filter fun y=>fL c y).map aA).length:Int)])) q (.lst (us++[.ref tt])))):=sb.del;refine Den.mono dn ?_;unfold IW;refine Den.tup (by rw[qm a3P];exact aD) (.cons (.int _) (.cons (vX (s6 _ _ eq5) naq (la.mono (s5.trans s6))).den (.cons ?_ .nil)));rw[aN];exact .int _
   ·obtain⟨us,v3,v4,v5,sh,et3,Dt3,eq3,D3,rfl⟩:=hh;rw[lts,iK] at D3;exact hR _ _ ⟨us,v3,v4,v5,sh,eq3,D3,rfl⟩
  rintro zzs H2 ⟨us,v3,v4,v5,s2,eq2,D2,rfl⟩;exact⟨_,rfl,hq q _ ⟨s2,nq,us,eq2,D2.mono IV⟩⟩
theorem XC{H:Hp}{v:V}{zs:List Str}{wd:Nat}{c t:Cell}(h:Den K H v (IW zs wd c t)):∃(b:Addr)(y:V),v=.ref b/\H b=some (.tup [.int (fG zs t),y,.int (zB (au zs wd t) c)])/\Den K H y (.lst ((au zs wd t).map aA)):=by
 unfold IW at h;cases h with
 |tup ht hs=>
  cases hs with
  |cons h1 hs=>
   cases hs with
   |cons h2 hs=>
    cases hs with
    |cons h3 hs=>
     cases hs;cases h1;cases h3;exact⟨_,_,rfl,ht,h2⟩
def oM(zs:List Str)(wd:Nat)(c:Cell)(ts l:List Cell):Bool:=ts.all fun t=>nA (au zs wd t) (fG zs t) (zB (au zs wd t) c) l
def ZM(K:ao):Sp:=fun vs H Q _=>∃(v:V)(q:Addr)(zs:List Str)(wd:Nat)(c:Cell)(ts l:List Cell),vs=[v,.ref q]/\Den K H v (Gb l)/\Ls K H q (ts.map (IW zs wd c))/\∀ H',Same H H'->Q (.bl (oM zs wd c ts l)) H'
theorem a0O{f:Addr}{fd:FuncData} (F:Fun K "may_hold" "may_hold" uc f fd) (T:Txt K mg Z):cH P w K mg base (CXE P w) 1 f fd ["laying","asked"] (ZM K):=by
 refine F.rok qP (fun vs H Q E h=>?_) (fun cdv A outer s H vs Q E hr h=>?_)
 ·obtain⟨v,q,zs,w,c,ts,l,rfl,_⟩:=h;rfl
 ·obtain⟨v,q,zs,wd,c,ts,l,rfl,dv,lq,hq⟩:=h;have hu:=oN hr;have hu':=Cv hr;refine⟨_,(aB (cC eE rfl (bB (K:=K) (rv 1)) (bC (i:=2) qP.nd rfl (Or.inl rfl)) (aB (bx (i:=3) qP.nd rfl (Or.inl rfl) (aQ (cQ (K:=K)) rfl T.cI bO (aj (iW (by rfl) rfl (bB (K:=K) (dz (dw (K:=K)) (rv 2) aG)) (fun _ _ _=>(gb (c7 (jy.or (zY (K:=K) hu')) (rv 0) (rv 1) (by rfl)))) (fun _ _ _=>(rv 0))) ak))) (aC (gM (qI (uW qC qC (rv 3) (dz (dw (K:=K)) (rv 2) aG) (cV bQ (rv 3) (dz (dw (K:=K)) (rv 2) aG)))) (aC (bf uR)) cG)))) (aC (bf uR))),?_⟩;obtain⟨l',rfl⟩:∃ a,v=.ref a:=by cases dv;exact⟨_,rfl⟩
  obtain⟨xs,ex,Dx⟩:=lq;have lx:xs.length=ts.length:=by rw[Dx.length,aN]
  refine aF (fun zzs H1=>∃(v2 v3:Option V),Same H H1/\oM zs wd c ts l=true/\zzs=[zzR l',zzR q,v2,v3]) (fun R hR=>?_) ?_
  ·refine⟨_,rfl,q,rfl,⟨_,SqL.of ex⟩,?_⟩;refine d9 (K:=K) (xs:=xs) (fun i zzs H1=>∃(v2 v3:Option V),Same H H1/\(∀ t∈ts.take i,nA (au zs wd t) (fG zs t) (zB (au zs wd t) c) l=true)/\zzs=[zzR l',zzR q,v2,v3])
    ⟨none,none,Same.refl _,(fun t ht=>by cases ht),rfl⟩ (fun i zzs H1 _ hh=>by obtain⟨_,_,g,_⟩:=hh;exact SqL.of (g _ _ ex)) (fun i u zzs H1 hi hh=>?_) (fun zzs H1 hh=>?_)
   ·obtain⟨v2,v3,g1,g2,rfl⟩:=hh;obtain⟨d,ed,du⟩:=Dx.get hi;rw[cM] at ed;obtain⟨t,et,rfl⟩:=j9.mp ed;obtain⟨b,y,rfl,eb,dy⟩:=XC (du.mono g1);obtain⟨yl,rfl⟩:∃ a,y=.ref a:=by cases dy;exact⟨_,rfl⟩
    have lc8:=qj zs wd t;refine aF (fun zzs H2=>Same H1 H2/\zzs=[zzR l',zzR q,zzR b,zzI (mQ (au zs wd t) l)]) (fun R' hR'=>?_) ?_
    ·refine⟨_,rfl,.inr (.inl ⟨b,_,_,_,rfl,rfl,SqT.of eb,dB (j:=1) rfl,?_⟩)⟩;cases dy with
     |lst hy Dy=>
      refine⟨yl,rfl,⟨_,hy⟩,eF (K:=K) (xs:=au zs wd t) (enc:=aA) (bZ hy) Dy (small (by lia)) (fun y=>decide (y∈l)) aA (fun y hy u' H5 s5 d G hG=>?_) (fun y hy _ u' H5 s5 d G hG=>⟨_,rfl,hG _ _ (Same.refl _) d⟩) (fun ys H5 s5 D5 n hn=>?_)⟩
      ·exact⟨_,rfl,_,rfl,.inr (JH d (dv.mono (g1.trans s5)) ⟨_,rfl,hG _ (Same.refl _)⟩)⟩
      ·dsimp only[vm];refine Aj (Ls.new hn D5).den ?_;rw[aN];exact hR' _ _ ⟨s5.and hn,rfl⟩
    rintro zzs H2 ⟨s2,rfl⟩;have eb2:=s2 _ _ eb;have nxt:nA (au zs wd t) (fG zs t) (zB (au zs wd t) c) l=true->∃(v2 v3:Option V),Same H H2/\(∀ t∈ts.take (i+1),nA (au zs wd t) (fG zs t) (zB (au zs wd t) c) l=true)/\[zzR l',zzR q,zzR b,zzI (mQ (au zs wd t) l)]=[some (V.ref l'),some (.ref q),v2,v3]:=fun hb=>⟨_,_,g1.trans s2,fun t' ht'=>by
     rw[iC,et] at ht';rcases cD.mp ht' with z|z
     ·exact g2 t' z
     ·rw[dU.mp z];exact hb,rfl⟩
    have bad:nA (au zs wd t) (fG zs t) (zB (au zs wd t) c) l=false->Q (.bl false) H2:=fun hb=>by
     have:oM zs wd c ts l=false:=by
      cases e:oM zs wd c ts l
      ·rfl
      ·have:=jq.mp e t (eO et);rw[hb] at this;cases this
     rw[<- this];exact hq _ (g1.trans s2)
    refine⟨_,rfl,_,rfl,.inr (.inl ⟨b,_,_,_,rfl,rfl,SqT.of eb2,gQ,?_⟩)⟩;refine⟨_,_,rfl,rfl,_,rfl,?_⟩;refine gU (fun h1=>?_) (fun h1=>?_)
    ·refine⟨_,rfl,_,rfl,.inr (.inl ⟨b,_,_,_,rfl,rfl,SqT.of eb2,dB (j:=2) rfl,?_⟩)⟩;refine⟨_,_,rfl,rfl,_,rfl,?_⟩;refine gU (fun h2=>?_) (fun h2=>?_)
     ·refine bad ?_;unfold nA;rw[show decide (fG zs t<=(mQ (au zs wd t) l:Int)+(zB (au zs wd t) c:Int))=false by simpa only[lY] using h2,BJ]
     ·refine nxt ?_;unfold nA;rw[h1,show decide (fG zs t<=(mQ (au zs wd t) l:Int)+(zB (au zs wd t) c:Int))=true by simpa only[uf] using h2];rfl
    ·refine⟨_,rfl,Cy ?_⟩;refine bad ?_;unfold nA;rw[h1];rfl
   ·obtain⟨v2,v3,g1,g2,rfl⟩:=hh;rw[lx,iK] at g2;exact hR _ _ ⟨v2,v3,g1,jq.mpr g2,rfl⟩
  rintro zzs H1 ⟨v2,v3,s1,hk,rfl⟩;rw[hk] at hq;exact hq _ s1
theorem Ej{K:ao}{H0 H:Hp}:∀ {vs:List V} {rs:List (List Cell)},iD (m8 K H0) H vs rs->∃ qs:List Addr,vs=qs.map V.ref
 |_,_,.nil=>⟨[],rfl⟩
 |_,_,.cons h t=>by
  obtain⟨a,rfl,_⟩:=h;obtain⟨qs,e⟩:=Ej t;exact⟨a::qs,by rw[e];rfl⟩
theorem a2J{K:ao}{H0 H:Hp}{q:Addr}{qs:List Addr}{rs:List (List Cell)}(r:iD (m8 K H0) H (qs.map V.ref) rs)(nd:rs.Nodup)(nq:H q=none):qb K H0 (upd H q (.lst (qs.map V.ref))) q qs rs:=by
 have s1:=Same.put (o:=.lst (qs.map V.ref)) nq;have at_:∀(i:Nat)(a:Addr),qs[i]?=some a->∃ p,rs[i]?=some p/\m8 K H0 p (.ref a) H:=fun i a e=>r.get (by rw[cM,e];rfl)
 have len:qs.length=rs.length:=by have:=r.length;rwa[aN] at this
 refine⟨aD,len,fun i a p h1 h2=>?_,fun a ha=>?_,?_,fun z=>?_⟩
 ·obtain⟨p',e,b,eb,_,l⟩:=at_ i a h1;rw[h2] at e;cases e;cases eb;exact l.mono s1
 ·obtain⟨i,hi⟩:=Bm ha;obtain⟨p',e,b,eb,n,l⟩:=at_ i a hi;cases eb;exact n
 ·rw[List.nodup_iff_pairwise_ne,Ca];intro i j hi hj hij e;obtain⟨p,ep,rp⟩:=at_ i _ (gP hi);obtain⟨p',ep',rp'⟩:=at_ j _ (gP hj);rw[e] at rp;have:=rp.det rp';subst this;have h1:=(iI.mp ep)
  have h2:=(iI.mp ep')
  have:i=j:=(List.getElem_inj nd).mp (h1.2.trans h2.2.symm);lia
 ·obtain⟨i,hi⟩:=Bm z;obtain⟨p',e,b,eb,n,xs,ex,_⟩:=at_ i q hi;cases eb;rw[ex] at nq;cases nq
def wQ(K:ao)(C NC TG:Addr):Sp:=fun vs H Q E=>∃(x:Addr)(v:V)(zs:List Str)(w:Nat)(c:Cell),vs=[.ref x,v]/\dW C H x zs w/\Den K H v (aA c) /\
 (c∉bT zs w->∀ H',Same H H'->E (.ref NC) none H')/\(c∈bT zs w->12<(cu zs w c).length->∀ H',Same H H'->E (.ref TG) none H') /\
 (c∈bT zs w->(cu zs w c).length<=12->∀(q:Addr)(qs:List Addr)(H':Hp),H q=none->Same H H'->qb K H H' q qs (fQ zs w (cu zs w c))->Q (.ref q) H')
theorem Lq{f:Addr}{fd:FuncData} (F:Fun K "layings" "layings" wM f fd) (T:Txt K mg Z) (vJ:Df P w K mg base 4 "edge" ["view"] (lV K Z.View bT)) (n8:Df P w K mg base 4 "joined" ["view","cell"] (Bd K Z.View)) (vI:Df P w K mg base 4 "demands" ["view","last"] (Em K Z.View)) (tE:Df P w K mg base 1 "may_hold" ["laying","asked"] (ZM K)) :
  cH P w K mg base (CXE P w) 5 f fd ["view","cell"] (wQ K Z.View Z.NoCell Z.TooGreat):=by
 refine F.RQ iY (fun vs H Q E h=>?_) (fun cdv A outer s H vs Q E hr h=>?_)
 ·obtain⟨x,v,zs,w,c,rfl,_⟩:=h;rfl
 ·obtain⟨x,v,zs,w,c,rfl,vt,dv,hN,hT,hq⟩:=h;have hu:=oN hr;have hu':=Cv hr;have hd:=P0 hr;have z6:=vt.vw.le;have w6:=vt.vw.w6;refine⟨_,(aB (gM (RT.nox (c7 (iB.or (nC (K:=K) hu')) (rv 1) (aP vJ hr rfl aR (aj (rv 0) ak)) (by rfl))) (aC (qH T.qW rfl T.zE hd (aj sI ak))) cG) (aB (RS.nox (bx (i:=2) iY.nd rfl (Or.inl rfl) (aP n8 hr rfl aR (aj (rv 0) (aj (rv 1) ak))))) (aB (gM (RT.nox (c7 Ea (aQ (cQ (K:=K)) rfl T.cI bO (aj (rv 2) ak)) (LR T.iz rfl) (dh _))) (aC (qH T.jC rfl T.tL hd (aj sI ak))) cG) (aB (RS.nox (bx (i:=3) iY.nd rfl (Or.inl rfl) (dG (aj (dG ak) ak)))) (aB (RS.nox (cC eE rfl (bB (K:=K) (rv 2)) (bC (i:=4) iY.nd rfl (Or.inr rfl)) (aB (bx (i:=5) iY.nd rfl (Or.inr rfl) (aP vI hr rfl aR (aj (rv 0) (aj (rv 4) ak)))) (aB (bx (i:=6) iY.nd rfl (Or.inl rfl) (cV bQ (rv 3) (iW (by rfl) rfl (bB (K:=K) (rv 3)) (fun _ _ _=>uV) (fun _ _ _=>(cV bQ (rv 0) (dG (aj (rv 5) ak))))))) (aC (z8 (i:=3) iY.nd rfl rfl (by rfl) rfl (bB (K:=K) (rv 6)) (fun _ _ _=>(gb (mR (aP tE hr rfl aR (aj (rv 0) (aj (rv 6) ak)))))) (fun _ _ _=>(rv 0)))))))) (aC (RS.nox (bf (aQ (Y5 (K:=K) hu) rfl T.zA Dd (aj (rv 3) ak)))))))))),?_⟩;refine aF (fun zzs H1=>c∈bT zs w/\Same H H1/\zzs=[zzR x,some v,zzN,zzN,zzN,zzN,zzN]) (fun R hR=>?_) ?_
  ·refine⟨_,rfl,_,rfl,x,zs,w,rfl,vt,fun eg H1 fr=>.inr (qG (dv.mono fr.same) fr.ls.den ⟨_,rfl,?_⟩)⟩;refine gU (fun h1=>⟨by decide,hN (pK (by simpa only[lY] using h1)) H1 fr.same⟩) (fun h1=>hR _ _ ⟨dN (by simpa only[uf] using h1),fr.same,rfl⟩)
  rintro zzs H1 ⟨hc,s1,rfl⟩;have hin:=je hc;have pt:=Part.join z6 w6 hc;refine aF (fun zzs H2=>∃(pl:Addr)(ms:List V),Same H H2/\H2 pl=some (.lst ms)/\aY K H2 ms ((cu zs w c).map aA)/\zzs=[zzR x,some v,zzR pl,zzN,zzN,zzN,zzN]) (fun R hR=>?_) ?_
  ·refine⟨_,rfl,_,rfl,x,_,zs,w,c,rfl,vt.mono s1,dv.mono s1,hin,fun a H2 ds na s2 la as mm=>?_⟩;have e:ds=cu zs w c:=Eu as (kZ z6 w6) fun y=>by rw[mm y,dF hin]
   rw[e] at la;obtain⟨ms,em,Dm⟩:=la;exact hR _ _ ⟨a,ms,s1.trans s2,em,Dm,rfl⟩
  rintro zzs H2 ⟨pl,ms,s2,em,Dm,rfl⟩;have lms:ms.length=(cu zs w c).length:=by rw[Dm.length,aN]
  refine aF (fun zzs H3=>(cu zs w c).length<=12/\H3=H2/\zzs=[zzR x,some v,zzR pl,zzN,zzN,zzN,zzN]) (fun R hR=>?_) ?_
  ·refine⟨_,rfl,?_⟩;dsimp only[vm];refine Aj (Den.lst (SqL.of em) Dm) ⟨_,_,rfl,rfl,_,rfl,?_⟩;rw[aN];refine gU (fun h1=>⟨by decide,hT hc (by have:=dN h1;lia) H2 s2⟩) (fun h1=>hR _ _ ⟨by have:=pK h1;lia,rfl,rfl⟩)
  rintro zzs H3 ⟨h12,rfl,rfl⟩;have hq':=hq hc h12;clear hN hT hq;generalize hps:cu zs w c=ps at *;refine aF (fun zzs H4=>∃(bl:Addr)(bs:List V),Same H H4/\H4 pl=some (.lst ms)/\aY K H4 ms (ps.map aA)/\H4 bl=some (.lst bs)/\iD (m8 K H) H4 bs (layAt (pP zs w ps) ps 0)/\zzs=[zzR x,some v,zzR pl,zzR bl,zzN,zzN,zzN]) (fun R hR=>?_) ?_
  ·refine⟨by decide,fun e0 n0=>?_⟩;dsimp only[vm];refine⟨sz rfl,fun bl nb=>?_⟩;have t1:=Same.put (o:=.lst []) n0;have t2:=t1.and (o:=.lst [.ref e0]) nb;refine hR _ _ ⟨bl,_,s2.trans t2,t2 _ _ em,Dm.mono t2,aD,.cons ⟨e0,rfl,s2.free n0,[],?_,.nil⟩ .nil,rfl⟩;exact(Same.put nb) _ _ aD
  rintro zzs H4 ⟨bl,bs,s4,em4,Dm4,eb4,rb4,rfl⟩;refine aF (fun zzs H5=>∃(bl:Addr)(bs:List V)(v4 v5 v6:Option V),Same H H5/\H5 bl=some (.lst bs)/\iD (m8 K H) H5 bs (layAt (pP zs w ps) ps ps.length)/\zzs=[zzR x,some v,zzR pl,zzR bl,v4,v5,v6]) (fun R hR=>?_) ?_
  ·refine⟨_,rfl,pl,rfl,⟨_,SqL.of em4⟩,?_⟩;refine d9 (K:=K) (xs:=ms) (fun i zzs H5=>∃(bl:Addr)(bs:List V)(v4 v5 v6:Option V),Same H H5/\H5 pl=some (.lst ms)/\aY K H5 ms (ps.map aA)/\H5 bl=some (.lst bs)/\iD (m8 K H) H5 bs (layAt (pP zs w ps) ps i)/\zzs=[zzR x,some v,zzR pl,zzR bl,v4,v5,v6])
    ⟨bl,bs,none,none,none,s4,em4,Dm4,eb4,rb4,rfl⟩ (fun i zzs H5 _ hh=>by obtain⟨_,_,_,_,_,_,e,_⟩:=hh;exact SqL.of e) (fun i u zzs H5 hi hh=>?_) (fun zzs H5 hh=>?_)
   ·obtain⟨bl,bs,v4,v5,v6,s5,em5,Dm5,eb5,rb5,rfl⟩:=hh;obtain⟨dm,edm,du⟩:=Dm5.get hi;rw[cM] at edm;obtain⟨m,emq,rfl⟩:=j9.mp edm;have him:i<ps.length:=(iI.mp emq).1;have eD:ps.getD i (0,0)=m:=by rw[dj,emq];rfl
    have mps:m∈ps:=eO emq;have lb:bs.length<=2048:=by
     rw[rb5.length];exact cO (nD _ _ _) (GX (by decide) (show i<=11 by lia))
    have lay:(layAt (pP zs w ps) ps i).length<=2048:=by rw[<- rb5.length];exact lb
    refine aF (fun zzs H6=>∃ aq:Addr,Same H5 H6/\Ls K H6 aq ((aL zs w m).map (IW zs w m))/\zzs=[zzR x,some v,zzR pl,zzR bl,some u,zzR aq,v6]) (fun R' hR'=>?_) ?_
    ·exact⟨_,rfl,_,rfl,x,_,zs,w,m,rfl,vt.mono s5,du,(pt.cl m mps).2,fun aq H6 f6=>hR' _ _ ⟨aq,f6.same,f6.ls,rfl⟩⟩
    rintro zzs H6 ⟨aq,s6,la,rfl⟩;refine aF (fun zzs H7=>∃(bb:Addr)(ws:List V),Same H6 H7/\H7 bb=some (.lst ws)/\iD (m8 K H) H7 ws (layAt (pP zs w ps) ps i++(layAt (pP zs w ps) ps i).map (·++[m]))/\zzs=[zzR x,some v,zzR pl,zzR bl,some u,zzR aq,zzR bb]) (fun R' hR'=>?_) ?_
    ·refine⟨_,rfl,_,rfl,bl,rfl,⟨_,SqL.of (s6 _ _ eb5)⟩,?_⟩;refine vW (m8.stays) (m8.stays (K:=K) (H0:=H)) (bZ (SqL.of (s6 _ _ eb5))) (rb5.mono m8.stays s6) (small (by lia)) (fun l=>l++[m]) (fun l hl y H7 s7 ry G hG=>?_) (fun ys H7 s7 D7 n hn=>?_)
     ·obtain⟨a,rfl,na,la'⟩:=ry;have ll:=rN _ l hl;refine⟨_,rfl,_,rfl,?_⟩;dsimp only[vm];refine⟨sz rfl,fun p1 n1=>?_⟩;have t1:=Same.put (o:=.lst [u]) n1;refine Ai (K:=K) (la'.mono t1) (show Ls K (upd H7 p1 (.lst [u])) p1 ([m].map aA) from⟨[u],aD,.cons (du.mono ((s6.trans s7).trans t1)) .nil⟩) (by rw[aN,aN,nQ];lia) fun r H8 fr=>?_
      refine hG _ _ (t1.trans fr.same) ⟨r,rfl,(s5.trans ((s6.trans s7).trans t1)).free fr.new,?_⟩;rw[dZ];exact fr.ls
     ·have t1:=Same.put (o:=.lst ys) hn;refine⟨bs,ys,t1 _ _ (s7 _ _ (s6 _ _ eb5)),aD,small (by have:=D7.length;rw[aN] at this;lia),fun bb nbb=>?_⟩;have t2:=t1.and (o:=.lst (bs++ys)) nbb;exact hR' _ _ ⟨bb,_,s7.trans t2,aD,(rb5.mono m8.stays (s6.trans (s7.trans t2))).append (D7.mono m8.stays t2),rfl⟩
    rintro zzs H7 ⟨bb,ws,s7,eb7,rb7,rfl⟩;have lw:(layAt (pP zs w ps) ps i++(layAt (pP zs w ps) ps i).map (·++[m])).length<=4096:=by rw[cL,aN];lia
    refine⟨_,rfl,bb,rfl,⟨_,SqL.of eb7⟩,?_⟩;refine Im (m8.stays) (m8.stays (K:=K) (H0:=H)) (bZ (SqL.of eb7)) rb7 (small (by lia)) (fun l=>oM zs w m (aL zs w m) l) id (fun l hl y H8 s8 ry G hG=>?_) (fun l hl _ y H8 s8 ry G hG=>⟨_,rfl,hG _ _ (Same.refl _) ry⟩) (fun ys H8 s8 D8 n hn=>?_)
    ·refine⟨_,rfl,_,rfl,y,aq,zs,w,m,aL zs w m,l,rfl,ry.den,la.mono (s7.trans s8),fun H9 s9=>⟨_,rfl,hG _ s9⟩⟩
    ·have t1:=Same.put (o:=.lst ys) hn;have sA:=(s6.trans s7).trans (s8.trans t1);refine⟨n,ys,_,_,_,s5.trans sA,sA _ _ em5,Dm5.mono sA,aD,?_,rfl⟩;have e:layAt (pP zs w ps) ps (i+1)=((layAt (pP zs w ps) ps i++(layAt (pP zs w ps) ps i).map (·++[m])).filter (fun l=>oM zs w m (aL zs w m) l)).map id:=by
      rw[List.map_id];show(layAt (pP zs w ps) ps i++(layAt (pP zs w ps) ps i).map (·++[ps.getD i (0,0)])).filter (pP zs w ps i)=_;unfold pP oM;rw[eD]
     rw[e];exact D8.mono m8.stays t1
   ·obtain⟨bl,bs,v4,v5,v6,s5,em5,Dm5,eb5,rb5,rfl⟩:=hh;rw[lms] at rb5;exact hR _ _ ⟨bl,bs,v4,v5,v6,s5,eb5,rb5,rfl⟩
  rintro zzs H5 ⟨bl,bs,v4,v5,v6,s5,eb5,rb5,rfl⟩;have nd:=xZ (p:=pP zs w ps) pt.nd _ (bK ps.length);refine⟨_,rfl,bl,bs,layAt (pP zs w ps) ps ps.length,rfl,SqL.of eb5,rb5.a3A fun a v h=>h.den,fun q o nq po as=>?_⟩;have lo:∀ i∈o,i<bs.length:=fun i hi=>cR.mp (po.mem_iff.mp hi)
  have ro:=iD.by (d0:=[]) o rb5 lo;have pd:(o.map fun i=>(layAt (pP zs w ps) ps ps.length).getD i []).Perm (layAt (pP zs w ps) ps ps.length):=FT (by rw[<- rb5.length];exact po);rw[pt.lays pd as] at ro;have ndl:(fQ zs w ps).Nodup:=iV.nodup_iff.mpr nd;obtain⟨qs,eqs⟩:∃ qs:List Addr,(o.map fun i=>bs.getD i .non)=qs.map V.ref:=Ej ro;rw[eqs] at ro ⊢;exact hq' q qs _ (s5.free nq) (s5.and nq) (a2J ro ndl nq)
end
def qw(zs:List Str)(w:Nat)(c:Cell):Bool:=!aM zs w c&&decide ((au zs w c).length=0)
def uy(zs:List Str)(w:Nat)(c:Cell):Bool:=qw zs w c&&decide (0<fG zs c)
def fH(zs:List Str)(w:Nat):List (List Cell):=if(bH zs.length w).any (uy zs w)=true then [] else [[]]
def chD(p:List Cell×List (List Cell)):Dt:=.tup [Gb p.1,.lst (p.2.map Gb)]
noncomputable def chL(zs:List Str)(w:Nat):List (List Cell×List (List Cell)):=([],fH zs w)::((aW zs w).map (fun p=>(p,fQ zs w p))++(j8 zs w).map fun c=>([c],[[],[c]]))
def W0(K:ao)(C:Addr):Sp:=fun vs H Q _=>∃(x:Addr)(v:V)(zs:List Str)(w:Nat)(c:Cell),vs=[.ref x,v]/\dW C H x zs w/\Den K H v (aA c)/\inF zs.length w c/\∀ H',Same H H'->Q (.bl (qw zs w c)) H'
def Qd(K:ao)(C:Addr):Sp:=fun vs H Q _=>∃(x:Addr)(zs:List Str)(w:Nat),vs=[.ref x]/\dW C H x zs w/\∀ q H',Same H H'->Ls K H' q ((fH zs w).map Gb)->Q (.ref q) H'
def El(K:ao)(C TG:Addr):Sp:=fun vs H Q E=>∃(x:Addr)(zs:List Str)(w:Nat),vs=[.ref x]/\dW C H x zs w /\
 ((∃ p∈aW zs w,12<p.length)->∀ H',Same H H'->E (.ref TG) none H')/\((∀ p∈aW zs w,p.length<=12)->∀ q H',Fr K H H' q ((chL zs w).map chD)->Q (.ref q) H')
section
variable{P:Program}{w:World}{K:ao}{mg:Str->Option Value}{base:Heap}{Z:Adr}
theorem Yn{f:Addr}{fd:FuncData} (F:Fun K "is_lone" "is_lone" wJ f fd) (T:Txt K mg Z) (bM:Df P w K mg base 2 "is_closed" ["view","cell"] (iZ K Z.View)) (cX:Df P w K mg base 3 "closed_near" ["view","cell"] (pB K Z.View au)) :
  cH P w K mg base (CXE P w) 4 f fd ["view","cell"] (W0 K Z.View):=by
 refine F.rok Ma (fun vs H Q E h=>?_) (fun cdv A outer s H vs Q E hr h=>?_)
 ·obtain⟨x,v,zs,w,c,rfl,_⟩:=h;rfl
 ·obtain⟨x,v,zs,w,c,rfl,vt,dv,hin,hq⟩:=h;have hu:=oN hr;refine⟨_,(aC (bf (Jz (a2X (aP bM hr rfl aR (aj (rv 0) (aj (rv 1) ak)))) (Ei (Ag (yh.or (xY (K:=K) hu)) (aQ (cQ (K:=K)) rfl T.cI bO (aj (aP cX hr rfl aR (aj (rv 0) (aj (rv 1) ak))) ak)) aG (dh _)))))),?_⟩;refine⟨_,rfl,_,rfl,x,v,zs,w,c,rfl,vt,dv,_,rfl,_,rfl,?_⟩;refine gU (fun h1=>?_) (fun h1=>?_)
  ·refine⟨_,rfl,_,rfl,x,v,zs,w,c,rfl,vt,dv,hin,fun q H' fr=>?_⟩;dsimp only[vm];refine Aj fr.ls.den ?_;refine Or.inl ⟨rfl,?_⟩;rw[xT,aN];have e:decide ((((au zs w c).length:Nat):Int)=0)=qw zs w c:=by
    unfold qw;rw[h1,pN,Bu];lia
   rw[e];exact hq _ fr.same
  ·have e:false=qw zs w c:=by unfold qw;rw[h1];rfl
   rw[e];exact hq _ (Same.refl _)
theorem Ux{f:Addr}{fd:FuncData} (F:Fun K "lone_layings" "lone_layings" lQ f fd) (T:Txt K mg Z) (kE:Df P w K mg base 1 "cells" ["view"] (pA K Z.View)) (vK:Df P w K mg base 4 "is_lone" ["view","cell"] (W0 K Z.View)) (jd:Df P w K mg base 1 "figure" ["view","cell"] (vg K Z.View)) :
  cH P w K mg base (CXE P w) 5 f fd ["view"] (Qd K Z.View):=by
 refine F.rok pI (fun vs H Q E h=>?_) (fun cdv A outer s H vs Q E hr h=>?_)
 ·obtain⟨x,zs,w,rfl,_⟩:=h;rfl
 ·obtain⟨x,zs,w,rfl,vt,hq⟩:=h;refine⟨_,(aB (cC eE rfl (bB (K:=K) (aP kE hr rfl aR (aj (rv 0) ak))) (bC (i:=1) pI.nd rfl (Or.inl rfl)) (aC (gM (RV (FZ (mR (aP vK hr rfl aR (aj (rv 0) (aj (rv 1) ak)))) (yW (c7 Ea (aP jd hr rfl aR (aj (rv 0) (aj (rv 1) ak))) aG (dh _))))) (aC (bf (dG ak))) cG))) (aC (bf (dG (aj (dG ak) ak))))),?_⟩;refine aF (fun zzs H1=>Same H H1/\fH zs w=[[]]) (fun R hR=>?_) ?_
  ·refine⟨_,rfl,x,zs,w,rfl,vt,fun q H1 f1=>?_⟩;obtain⟨us,eu,Du⟩:=f1.ls;have lu:us.length=(bH zs.length w).length:=by rw[Du.length,aN]
   refine⟨q,rfl,⟨_,SqL.of eu⟩,?_⟩;refine d9 (K:=K) (xs:=us) (fun i zzs H2=>∃ v1:Option V,Same H1 H2/\(∀ c∈(bH zs.length w).take i,uy zs w c=false)/\zzs=[zzR x,v1])
    ⟨none,Same.refl _,(fun c hc=>by cases hc),rfl⟩ (fun i zzs H2 _ hh=>by obtain⟨_,g,_⟩:=hh;exact SqL.of (g _ _ eu)) (fun i u zzs H2 hi hh=>?_) (fun zzs H2 hh=>?_)
   ·obtain⟨v1,g1,g2,rfl⟩:=hh;obtain⟨d,ed,du⟩:=Du.get hi;rw[cM] at ed;obtain⟨c,ec,rfl⟩:=j9.mp ed;have cf:=eO ec;have hin:=bL.mp cf;have sA:=f1.same.trans g1;have nxt:∀ H3,Same H2 H3->uy zs w c=false->∃ v1:Option V,Same H1 H3/\(∀ c∈(bH zs.length w).take (i+1),uy zs w c=false)/\[some (V.ref x),some u]=[zzR x,v1]:=fun H3 s3 hb=>⟨_,g1.trans s3,fun y hy=>by
     rw[iC,ec] at hy;rcases cD.mp hy with z|z
     ·exact g2 y z
     ·rw[dU.mp z];exact hb,rfl⟩
    refine⟨_,rfl,_,rfl,x,u,zs,w,c,rfl,vt.mono sA,du.mono g1,hin,fun H3 s3=>⟨_,rfl,?_⟩⟩;refine gU (fun h1=>?_) (fun h1=>?_)
    ·have ho:aM zs w c=false:=by
      unfold qw at h1;rw[jY,lY] at h1;exact h1.1
     refine⟨_,rfl,_,rfl,x,u,zs,w,c,rfl,vt.mono (sA.trans s3),du.mono (g1.trans s3),hin,ho,?_⟩;refine⟨_,_,rfl,rfl,_,rfl,?_⟩;have e:uy zs w c=decide (0<fG zs c):=by unfold uy;rw[h1];rfl
     refine gU (fun h2=>?_) (fun h2=>nxt H3 s3 (by rw[e];exact h2));refine⟨by decide,fun q3 n3=>hq _ _ ((sA.trans s3).and n3) ?_⟩;have:fH zs w=[]:=aK (wY.mpr ⟨c,cf,by rw[e];exact h2⟩);rw[this];exact Ls.new n3 .nil
    ·exact nxt H3 s3 (by unfold uy;rw[h1];rfl)
   ·obtain⟨v1,g1,g2,rfl⟩:=hh;rw[lu,iK] at g2;refine hR _ _ ⟨f1.same.trans g1,aJ fun z=>?_⟩;obtain⟨c,hc,hb⟩:=wY.mp z;rw[g2 c hc] at hb;cases hb
  rintro zzs H1 ⟨s1,e1⟩;refine⟨by decide,fun q1 n1=>⟨sz rfl,fun q2 n2=>?_⟩⟩;have t1:=Same.put (o:=.lst []) n1;refine hq _ _ (s1.trans (t1.and n2)) ?_;rw[e1];exact Ls.new n2 (.cons (Ls.new n1 .nil).den .nil)
theorem Ef{H0 H:Hp}{q:Addr}:∀ {qs:List Addr} {ps:List (List Cell)},qs.length=ps.length->(∀(i:Nat)(a:Addr)(p:List Cell),qs[i]?=some a->ps[i]?=some p->Ls K H a (p.map aA))->aY K H (qs.map V.ref) (ps.map Gb)
 |[],[],_,_=>.nil
 |a::qs,p::ps,hl,h=>.cons (h 0 a p rfl rfl).den (Ef (H0:=H0) (q:=q) (Nat.succ.inj hl) fun i b c h1 h2=>h (i+1) b c h1 h2)
theorem Ve{H0 H H':Hp}{q d:Addr}{qs:List Addr}{ps:List (List Cell)}{us:List V}{o:HO}(p:qb K H0 H q qs ps)(s:SameBut d H H')(e:H d=some (.lst us))(e0:H0 d=some o)(n:q≠d):qb K H0 H' q qs ps:=
 ⟨s _ _ p.at_ n,p.len,fun i a c h1 h2=>s.ls e (fun z=>by have:=p.new a (eO h1);rw[z,e0] at this;cases this) (p.ls i a c h1 h2),p.new,p.nd,p.nq⟩
theorem wD{zs:List Str}{w:Nat}:∀(cs:List Cell)(ps:List (List Cell)),(gK zs w cs ps).length<=ps.length+cs.length
 |[],ps=>by unfold gK;exact bK _
 |c::cs,ps=>by
  unfold gK;by_cases h:∃ p∈ps,c∈p
  ·rw[aK h];have:=wD (zs:=zs) (w:=w) cs ps;rw[dY];lia
  ·rw[aJ h];have:=wD (zs:=zs) (w:=w) cs (ps++[cu zs w c]);rw[cL,nQ] at this;rw[dY];lia
theorem Ec{zs:List Str}{w:Nat}(v:Vw zs w):(aW zs w).length<=36:=by
 have h1:=wD (zs:=zs) (w:=w) (bT zs w) [];have h2:(bT zs w).length<=36:=cO (iJ _ _) (eY v);unfold aW;rw[wZ] at h1;lia
theorem Ob{H H2:Hp}{q:Addr}{us:List V}{ds:List Dt}{v:V}{d:Dt}(D:aY K (del q H) us ds)(s:Same H H2)(dv:Den K (del q H2) v d):aY K (del q (upd H2 q (.lst (us++[v])))) (us++[v]) (ds++[d]):=by
 have sb:SameBut q H2 (upd H2 q (.lst (us++[v]))):=(SameBut.refl q _).put;exact(D.mono ((s.but q).trans sb).del).append (.cons (dv.mono sb.del) .nil)
theorem Ln{f:Addr}{fd:FuncData} (F:Fun K "choices" "choices" wH f fd) (T:Txt K mg Z) (rA:Df P w K mg base 5 "parts" ["view"] (Gn K Z.View)) (kW:Df P w K mg base 5 "layings" ["view","cell"] (wQ K Z.View Z.NoCell Z.TooGreat)) (CP:Df P w K mg base 4 "far" ["view"] (lV K Z.View j8)) (lC:Df P w K mg base 5 "lone_layings" ["view"] (Qd K Z.View)) :
  cH P w K mg base (CXE P w) 6 f fd ["view"] (El K Z.View Z.TooGreat):=by
 refine F.RQ p8 (fun vs H Q E h=>?_) (fun cdv A outer s H vs Q E hr h=>?_)
 ·obtain⟨x,zs,w,rfl,_⟩:=h;rfl
 ·obtain⟨x,zs,w,rfl,vt,he,hq⟩:=h;refine⟨_,(aB (RS.nox (bx (i:=1) p8.nd rfl (Or.inl rfl) (dG (aj (fV (aj (dG ak) (aj (aP lC hr rfl aR (aj (rv 0) ak)) ak))) ak)))) (aB (cC PassesOwn.leaving rfl (bB (K:=K) (aP rA hr rfl aR (aj (rv 0) ak))) (bC (i:=2) p8.nd rfl (Or.inl rfl)) (aC (jF (sG (K:=K) qY sO sS gB (rv 1) (aj (fV (aj (rv 2) (aj (aP kW hr rfl PB (aj (rv 0) (aj (dz (dw (K:=K)) (rv 2) aG) ak))) ak))) ak))))) (aB (RS.nox (cC eE rfl (bB (K:=K) (aP CP hr rfl aR (aj (rv 0) ak))) (bC (i:=3) p8.nd rfl (Or.inl rfl)) (aC (jF (sG (K:=K) qY sO sS gB (rv 1) (aj (fV (aj (dG (aj (rv 3) ak)) (aj (dG (aj (dG ak) (aj (dG (aj (rv 3) ak)) ak))) ak))) ak)))))) (aC (RS.nox (bf (rv 1))))))),?_⟩;have h6:=vt.vw.le;have w6:=vt.vw.w6;obtain⟨pok,_⟩:=jz (zs:=zs) (w:=w) h6 w6;refine aF (fun zzs H1=>∃(q:Addr)(us:List V),H q=none/\Same H H1/\H1 q=some (.lst us)/\aY K (del q H1) us [chD ([],fH zs w)]/\zzs=[zzR x,zzR q,zzN,zzN]) (fun R hR=>?_) ?_
  ·refine⟨by decide,fun q1 n1=>?_⟩;have t1:=Same.put (o:=.lst []) n1;refine⟨_,rfl,x,zs,w,rfl,vt.mono t1,fun ql H1 s1 ll=>⟨sz rfl,fun t nt=>⟨sz rfl,fun q nq=>?_⟩⟩⟩;have t2:=Same.put (o:=.tup [V.ref q1,V.ref ql]) nt;refine hR _ _ ⟨q,_,(t1.trans (s1.trans t2)).free nq,(t1.trans (s1.trans t2)).and nq,aD,?_,rfl⟩;have sd:Same (upd H1 t (.tup [V.ref q1,V.ref ql])) (del q (upd (upd H1 t (.tup [V.ref q1,V.ref ql])) q (.lst [.ref t]))):=fun b o eb=>by
    have nb:b≠q:=fun z=>by rw[z,nq] at eb;cases eb
    rw[qm nb,bF nb];exact eb
   refine .cons (Den.mono sd ?_) .nil;exact Den.tup aD (.cons (((Ls.new n1 .nil:Ls K _ q1 []).mono (s1.trans t2)).den) (.cons (ll.mono t2).den .nil))
  rintro zzs H1 ⟨q,us,nq,s1,eq1,D1,rfl⟩;refine aF (fun zzs H2=>∃(us:List V)(v2:Option V),Same H H2/\H2 q=some (.lst us)/\aY K (del q H2) us (([],fH zs w)::(aW zs w).map (fun p=>(p,fQ zs w p)) |>.map chD)/\(∀ p∈aW zs w,p.length<=12)/\(aW zs w).length<=36/\zzs=[zzR x,zzR q,v2,zzN]) (fun R hR=>?_) ?_
  ·refine⟨_,rfl,x,zs,w,rfl,vt.mono s1,fun pl qs H2 npl s2 ps=>⟨pl,rfl,⟨_,SqL.of ps.at_⟩,?_⟩⟩;have npq:pl≠q:=(bU eq1 npl).symm;have lpp:=Ec vt.vw;refine d9 (K:=K) (xs:=qs.map V.ref) (fun i zzs H3=>∃(us:List V)(v2:Option V),Same H H3/\qb K H1 H3 pl qs (aW zs w)/\H3 q=some (.lst us)/\aY K (del q H3) us (([],fH zs w)::((aW zs w).take i).map (fun p=>(p,fQ zs w p)) |>.map chD)/\(∀ p∈(aW zs w).take i,p.length<=12)/\zzs=[zzR x,zzR q,v2,zzN])
    ⟨us,none,s1.trans s2,ps,s2 _ _ eq1,D1.mono (s2.but q).del,(fun p hp=>by cases hp),rfl⟩ (fun i zzs H3 _ hh=>by obtain⟨_,_,_,p3,_⟩:=hh;exact SqL.of p3.at_) (fun i u zzs H3 hi hh=>?_) (fun zzs H3 hh=>?_)
   ·obtain⟨us,v2,sh,ps3,eq3,D3,Xh,rfl⟩:=hh;rw[cM] at hi;obtain⟨a,ea,rfl⟩:=j9.mp hi;have iq:i<qs.length:=(iI.mp ea).1;have ip:i<(aW zs w).length:=by rw[<- ps.len];exact iq
    have ep:(aW zs w)[i]?=some (aW zs w)[i]:=gP ip;generalize (aW zs w)[i]=p at ep;have la:=ps3.ls i a p ea ep;have pm:p∈aW zs w:=eO ep;obtain⟨y,hy,ey⟩:=pok.of p pm;have pp:Part zs w p:=by rw[ey];exact Part.join h6 w6 hy
    obtain⟨c0,p',rfl⟩:∃ c0 p',p=c0::p':=by
     cases p with
     |nil=>exact absurd rfl pp.ne
     |cons c0 p'=>exact⟨c0,p',rfl⟩
    have c0m:c0∈cu zs w y:=by rw[<- ey];exact cU
    have ej:cu zs w c0=c0::p':=by rw[oO h6 w6 hy c0m,<- ey]
    have c0e:c0∈bT zs w:=jc.edge hy ((dF (je hy)).mp c0m);obtain⟨xs,ex,Dx⟩:=id la;obtain⟨u0,xs',rfl⟩:∃ u0 xs',xs=u0::xs':=by cases Dx;exact⟨_,_,rfl⟩
    have d0:Den K H3 u0 (aA c0):=by cases Dx with|cons h _=>exact h
    have lus:us.length<=37:=by rw[D3.length,aN,dY,aN,jX];lia
    refine⟨_,rfl,.inl ⟨rfl,_,SqL.of eq3⟩,?_⟩;refine⟨_,rfl,_,rfl,_,rfl,.inl ⟨a,_,_,_,rfl,rfl,SqL.of ex,gQ,?_⟩⟩;refine⟨x,u0,zs,w,c0,rfl,vt.mono sh,d0,fun hc=>absurd c0e hc,fun _ hl H' s'=>he ⟨c0::p',pm,by rw[<- ej];exact hl⟩ _ (sh.trans s'),fun _ hl ql qls H4 nql s4 psl=>?_⟩;rw[ej] at hl psl;have eq4:=s4 _ _ eq3;refine⟨sz rfl,fun t nt=>?_⟩;have s5:=Same.put (o:=.tup [V.ref a,V.ref ql]) nt;dsimp only[vm];refine wF (K:=K) (s5 _ _ eq4) (by lia) ?_;have sH:=s4.trans s5;have sb:SameBut q (upd H4 t (.tup [V.ref a,V.ref ql])) (upd (upd H4 t (.tup [V.ref a,V.ref ql])) q (.lst (us++[.ref t]))):=(SameBut.refl q _).put;have naq:a≠q:=fun z=>by have:=ps3.new a (eO ea);rw[z,eq1] at this;cases this
    have ntq:t≠q:=fun z=>by rw[z,eq4] at nt;cases nt
    have a3O:ql≠q:=fun z=>by rw[z,eq3] at nql;cases nql
    refine⟨us++[.ref t],_,sb.of (sh.trans sH) nq,Ve (ps3.mono sH) sb (s5 _ _ eq4) eq1 npq,aD,?_,fun p hp=>?_,rfl⟩
    ·have et:((aW zs w).take (i+1)).map (fun p=>(p,fQ zs w p))=((aW zs w).take i).map (fun p=>(p,fQ zs w p))++[(c0::p',fQ zs w (c0::p'))]:=by
      rw[iC,ep,dZ];rfl
     rw[et,<- List.cons_append,dZ];refine Ob D3 sH ?_;refine Den.tup (by rw[qm ntq];exact aD) (.cons (vX (s5 _ _ eq4) naq (la.mono sH)).den (.cons ?_ .nil));refine Den.lst (SqL.of (show del q _ ql=_ by rw[qm a3O];exact s5 _ _ psl.at_)) (Ef (H0:=H3) (q:=ql) psl.len fun j b r h1 h2=>vX (s5 _ _ eq4) (fun z=>by have:=psl.new b (eO h1);rw[z,eq3] at this;cases this) ((psl.ls j b r h1 h2).mono s5))
    ·rw[iC,ep] at hp;rcases cD.mp hp with z|z
     ·exact Xh p z
     ·rw[dU.mp z];exact hl
   ·obtain⟨us,v2,sh,ps3,eq3,D3,Xh,rfl⟩:=hh;rw[aN,ps.len,iK] at D3 Xh;exact hR _ _ ⟨us,v2,sh,eq3,D3,Xh,lpp,rfl⟩
  rintro zzs H2 ⟨us,v2,s2,eq2,D2,a1X,lp,rfl⟩;refine aF (fun zzs H3=>∃(us:List V)(v2 v3:Option V),Same H H3/\H3 q=some (.lst us)/\aY K (del q H3) us ((chL zs w).map chD)/\zzs=[zzR x,zzR q,v2,v3]) (fun R hR=>?_) ?_
  ·refine⟨_,rfl,x,zs,w,rfl,vt.mono s2,fun fl H3 ff=>?_⟩;obtain⟨fs,ef,Df'⟩:=ff.ls;have lfs:fs.length=(j8 zs w).length:=by rw[Df'.length,aN]
   have a4n:(j8 zs w).length<=36:=cO (iJ _ _) (eY vt.vw);have nfq:fl≠q:=(bU eq2 ff.new).symm;refine⟨fl,rfl,⟨_,SqL.of ef⟩,?_⟩;refine d9 (K:=K) (xs:=fs) (fun i zzs H4=>∃(us:List V)(v3:Option V),Same H H4/\H4 fl=some (.lst fs)/\aY K H4 fs ((j8 zs w).map aA)/\H4 q=some (.lst us)/\aY K (del q H4) us ((([],fH zs w)::((aW zs w).map (fun p=>(p,fQ zs w p))++((j8 zs w).take i).map fun c=>([c],[[],[c]]))).map chD)/\zzs=[zzR x,zzR q,v2,v3])
    ⟨us,none,s2.trans ff.same,ef,Df',ff.same _ _ eq2,by rw[NZ,HW,qX];exact D2.mono (ff.same.but q).del,rfl⟩ (fun i zzs H4 _ hh=>by obtain⟨_,_,_,e,_⟩:=hh;exact SqL.of e) (fun i u zzs H4 hi hh=>?_) (fun zzs H4 hh=>?_)
   ·obtain⟨us,v3,sh,ef4,Df4,eq4,D4,rfl⟩:=hh;obtain⟨d,ed,du⟩:=Df4.get hi;rw[cM] at ed;obtain⟨c,ec,rfl⟩:=j9.mp ed;have lus:us.length<=100:=by rw[D4.length,aN,dY,cL,aN,aN,jX];lia
    refine⟨_,rfl,.inl ⟨rfl,_,SqL.of eq4⟩,_,rfl,sz rfl,fun q1 n1=>⟨by decide,fun q2 n2=>⟨_,rfl,sz rfl,fun q3 n3=>⟨sz rfl,fun q4 n4=>⟨sz rfl,fun t nt=>?_⟩⟩⟩⟩⟩;have t1:=Same.put (o:=.lst [u]) n1;have t2:=Same.put (o:=.lst []) n2;have t3:=Same.put (o:=.lst [u]) n3;have t4:=Same.put (o:=.lst [V.ref q2,V.ref q3]) n4;have t5:=Same.put (o:=.tup [V.ref q1,V.ref q4]) nt;have s14:=t1.trans (t2.trans (t3.trans t4));have sH:=s14.trans t5;have eqH:=sH _ _ eq4;dsimp only[vm];refine wF (K:=K) eqH (by lia) ?_;refine⟨_,_,(SameBut.refl q _).put.of (sh.trans sH) nq,(SameBut.refl q _).put _ _ (sH _ _ ef4) nfq,(SameBut.refl q _).put.cells eqH (Df4.mono sH),aD,?_,rfl⟩;have et:(([],fH zs w)::((aW zs w).map (fun p=>(p,fQ zs w p))++((j8 zs w).take (i+1)).map fun c=>([c],[[],[c]])))=(([],fH zs w)::((aW zs w).map (fun p=>(p,fQ zs w p))++((j8 zs w).take i).map fun c=>([c],[[],[c]])))++[([c],[[],[c]])]:=by
     rw[iC,ec,dZ,List.cons_append,yD];rfl
    rw[et,dZ];have ne:∀ {b:Addr} {G:Hp},Same H4 G->G b=none->b≠q:=fun g e z=>by rw[z,g _ _ eq4] at e;cases e
    have na:=ne (Same.refl _) n1;have nb:=ne t1 n2;have nc:=ne (t1.trans t2) n3;have nd:=ne (t1.trans (t2.trans t3)) n4;have nt':=ne s14 nt;have l1:Ls K (upd H4 q1 (.lst [u])) q1 ([c].map aA):=.new n1 (.cons du .nil);have l2:Ls K (upd (upd H4 q1 (.lst [u])) q2 (.lst [])) q2 (([]:List Cell).map aA):=.new n2 .nil;have l3:Ls K (upd (upd (upd H4 q1 (.lst [u])) q2 (.lst [])) q3 (.lst [u])) q3 ([c].map aA):=.new n3 (.cons (du.mono (t1.trans t2)) .nil);refine Ob D4 sH ?_;refine Den.tup (by rw[qm nt'];exact aD) (.cons (vX eqH na (l1.mono (t2.trans (t3.trans (t4.trans t5))))).den (.cons ?_ .nil));exact Den.lst (SqL.of (show del q _ q4=_ by rw[qm nd];exact t5 _ _ aD)) (.cons (vX eqH nb (l2.mono (t3.trans (t4.trans t5)))).den (.cons (vX eqH nc (l3.mono (t4.trans t5))).den .nil))
   ·obtain⟨us,v3,sh,ef4,Df4,eq4,D4,rfl⟩:=hh;rw[lfs,iK] at D4;exact hR _ _ ⟨us,v2,v3,sh,eq4,D4,rfl⟩
  rintro zzs H3 ⟨us,v2,v3,s3,eq3,D3,rfl⟩;exact⟨_,rfl,hq a1X q _ ⟨s3,nq,us,eq3,D3.mono IV⟩⟩
end
def iU(n:Nat)(ls:List (List Cell)):List Int:=(List.range (n+1)).map fun k:Nat=>(((ls.map fun r=>(r.length:Int)).count (k:Int):Nat):Int)
theorem iH(n:Nat)(ls:List (List Cell)):(iU n ls).length=n+1:=by unfold iU;rw[aN,jo]
theorem yO{n:Nat}{ls:List (List Cell)}{k:Nat}(hk:k<=n):(iU n ls)[k]?=some (((ls.map fun r=>(r.length:Int)).count (k:Int):Nat):Int):=by
 unfold iU;rw[cM,Nk (by lia)];rfl
theorem T3(n:Nat):iU n []=List.replicate (n+1) 0:=by
 refine List.eq_replicate_iff.mpr ⟨iH _ _,fun x hx=>?_⟩;obtain⟨k,_,rfl⟩:=dR.mp hx;rfl
theorem QC{n:Nat}{ls:List (List Cell)}{l:List Cell}(hl:l.length<=n):iU n (ls++[l])=(iU n ls).set l.length ((((ls.map fun r=>(r.length:Int)).count (l.length:Int):Nat):Int)+1):=by
 refine Bs fun k=>?_
 by_cases hk:k<=n
 ·rw[yO hk,List.getElem?_set,dZ,List.count_append];by_cases e:l.length=k
  ·rw[aK e,aK (by rw[iH];lia),<- e];simp
  ·rw[aJ e,yO hk];have:List.count (k:Int) (List.map (fun r:List Cell=>(r.length:Int)) [l])=0:=List.count_eq_zero.mpr (by simp;lia);rw[this,xH]
 ·rw[Bl (by rw[iH];lia),Bl (by rw[Hz,iH];lia)]
theorem Kq{n:Nat}{ls:List (List Cell)}(h:ls.length<=5000):∀ x∈iU n ls,0<=x/\x<2^64:=fun x hx=>by
 obtain⟨k,_,rfl⟩:=dR.mp hx;have:=List.count_le_length (a:=(k:Int)) (l:=ls.map fun r:List Cell=>(r.length:Int));rw[aN] at this;lia
def Ph(a b:List Int)(j k:Nat)(c:List Int):List Int:=c.set (j+k) (c.getD (j+k) 0+a.getD j 0*b.getD k 0)
def wB(a b:List Int)(j:Nat):Nat->List Int->List Int
 |0,c=>c
 |k+1,c=>Ph a b j k (wB a b j k c)
def zZ(a b:List Int):Nat->List Int->List Int
 |0,c=>c
 |j+1,c=>wB a b j b.length (zZ a b j c)
def mulL(a b:List Int):List Int:=zZ a b a.length (List.replicate (a.length+b.length-1) 0)
theorem lH(a b:List Int)(j:Nat):∀(k:Nat)(c:List Int),(wB a b j k c).length=c.length
 |0,_=>rfl
 |k+1,c=>by unfold wB Ph;rw[Hz,lH]
theorem qx(a b:List Int):∀(j:Nat)(c:List Int),(zZ a b j c).length=c.length
 |0,_=>rfl
 |j+1,c=>by unfold zZ;rw[lH,qx]
theorem Jl(a b:List Int):(mulL a b).length=a.length+b.length-1:=by unfold mulL;rw[qx,Bj]
def gO(a:List Int)(chs:List (List Cell×List (List Cell))):List Int:=chs.foldl (fun a ch=>mulL a (iU ch.1.length ch.2)) a
def qz(a:List Int)(n:Int):Int:=if 0<=n/\n<a.length then a.getD n.toNat 0 else 0
theorem U6{n j:Nat}(h:j<n):ixN n (j:Int)=some j:=by
 unfold ixN;rw[aK (by lia),aK (by lia)];simp
theorem ints_set(ns:List Int)(j:Nat)(x:Int):(ns.map V.int).set j (.int x)=(ns.set j x).map V.int:=List.map_set.symm
theorem uL{ns:List Int}{j:Nat}(h:j<ns.length):(ns.map V.int)[j]?=some (.int (ns.getD j 0)):=by
 rw[cM,gP h,dj,gP h];rfl
theorem KZ(z:V):∀ k:Nat,(List.replicate k [z]).flatten=List.replicate k z
 |0=>rfl
 |k+1=>by rw[yC,ug,KZ z k,yC];rfl
def Xf(ch:List Cell×List (List Cell)):Prop:=ch.1.length<=36/\(∀ l∈ch.2,l.length<=ch.1.length)/\ch.2.length<=5000
def a3a(K:ao):Sp:=fun vs H Q _=>∃(v:V)(ch:List Cell×List (List Cell)),vs=[v]/\Den K H v (chD ch)/\Xf ch/\∀ q H',Same H H'->H q=none->H' q=some (.lst ((iU ch.1.length ch.2).map V.int))->Q (.ref q) H'
def W2(K:ao):Sp:=fun vs H Q _=>∃(p q:Addr)(a b:List Int),vs=[.ref p,.ref q]/\H p=some (.lst (a.map V.int))/\H q=some (.lst (b.map V.int))/\1<=a.length/\a.length<=5000/\b.length<=40/\(∀ x∈b,0<=x/\x<2^64)/\∀ r H',Same H H'->H r=none->H' r=some (.lst ((mulL a b).map V.int))->Q (.ref r) H'
def ZP(K:ao):Sp:=fun vs H Q _=>∃(p:Addr)(n:Int)(chs:List (List Cell×List (List Cell))),vs=[.ref p,.int n]/\Ls K H p (chs.map chD)/\(∀ ch∈chs,Xf ch)/\chs.length<=100/\∀ H',Same H H'->Q (.int (qz (gO [1] chs) n)) H'
def Gk(K:ao)(C TG:Addr):Sp:=fun vs H Q E=>∃(x:Addr)(n:Int)(zs:List Str)(w:Nat),vs=[.ref x,.int n]/\dW C H x zs w /\
 ((∃ p∈aW zs w,12<p.length)->∀ H',Same H H'->E (.ref TG) none H')/\((∀ p∈aW zs w,p.length<=12)->∀ H',Same H H'->Q (.int (qz (gO [1] (chL zs w)) n)) H')
section
variable{P:Program}{w:World}{K:ao}{mg:Str->Option Value}{base:Heap}{Z:Adr}
theorem a0h{H:Hp}{v:V}{ch:List Cell×List (List Cell)}(h:Den K H v (chD ch)):∃(t a b:Addr)(xs ys:List V),v=.ref t/\H t=some (.tup [.ref a,.ref b])/\SqL K H a xs/\aY K H xs (ch.1.map aA)/\SqL K H b ys/\aY K H ys (ch.2.map Gb):=by
 unfold chD at h;cases h with
 |tup ht hs=>
  cases hs with
  |cons h1 hs=>
   cases hs with
   |cons h2 hs=>
    cases hs;cases h1 with
    |lst e1 D1=>
     cases h2 with
     |lst e2 D2=>exact⟨_,_,_,_,_,rfl,ht,e1,D1,e2,D2⟩
theorem Jq{f:Addr}{fd:FuncData} (F:Fun K "by_stones" "by_stones" qK f fd) (T:Txt K mg Z) :
  cH P w K mg base (CXE P w) 1 f fd ["choice"] (a3a K):=by
 refine F.rok p7 (fun vs H Q E h=>?_) (fun cdv A outer s H vs Q E hr h=>?_)
 ·obtain⟨v,ch,rfl,_⟩:=h;rfl
 ·obtain⟨v,ch,rfl,dv,⟨h36,hrow,h50⟩,hq⟩:=h;refine⟨_,(aB (bx (i:=1) p7.nd rfl (Or.inl rfl) (cV jE (dG (aj aG ak)) (cV bQ (aQ (cQ (K:=K)) rfl T.cI bO (aj (dz (dw (K:=K)) (rv 0) aG) ak)) aG))) (aB (cC eE rfl (bB (K:=K) (dz (dw (K:=K)) (rv 0) aG)) (bC (i:=2) p7.nd rfl (Or.inl rfl)) (aC (Q5 (K:=K) (rv 1) (aQ (cQ (K:=K)) rfl T.cI bO (aj (rv 2) ak)) aG))) (aC (bf (rv 1))))),?_⟩;obtain⟨t,a,b,xs,ys,rfl,et,ea,Da,eb,Db⟩:=a0h dv;have lxs:xs.length=ch.1.length:=by rw[Da.length,aN]
  have lys:ys.length=ch.2.length:=by rw[Db.length,aN]
  refine aF (fun zzs H1=>∃ q:Addr,H q=none/\Same H H1/\H1 q=some (.lst ((iU ch.1.length []).map V.int))/\zzs=[zzR t,zzR q,zzN]) (fun R hR=>?_) ?_
  ·refine⟨sz rfl,fun q1 n1=>?_⟩;have t1:=Same.put (o:=.lst [V.int 0]) n1;refine⟨_,rfl,.inr (.inl ⟨t,_,_,_,rfl,rfl,SqT.of (t1 _ _ et),dB (j:=0) rfl,?_⟩)⟩;refine .inl ⟨a,_,rfl,.inl (t1.seq ea),?_⟩;refine⟨_,aD,?_,?_,?_,fun q nq=>?_⟩
   ·lia
   ·lia
   ·exact small (by show 1*(_:Nat)<=10000;lia)
   ·refine hR _ _ ⟨q,t1.free nq,t1.and nq,?_,rfl⟩;rw[aD,T3,Xd];have e:((xs.length:Int)+1).toNat=ch.1.length+1:=by lia
    rw[e,KZ]
  rintro zzs H1 ⟨q,nq,s1,eq1,rfl⟩;refine aF (fun zzs H2=>∃ v2:Option V,Same H H2/\H2 q=some (.lst ((iU ch.1.length ch.2).map V.int))/\zzs=[zzR t,zzR q,v2]) (fun R hR=>?_) ?_
  ·refine⟨_,rfl,.inr (.inl ⟨t,_,_,_,rfl,rfl,SqT.of (s1 _ _ et),dB (j:=1) rfl,?_⟩)⟩;refine⟨b,rfl,⟨_,s1.seq eb⟩,?_⟩;refine d9 (K:=K) (xs:=ys) (fun i zzs H2=>∃ v2:Option V,Same H H2/\H2 q=some (.lst ((iU ch.1.length (ch.2.take i)).map V.int))/\zzs=[zzR t,zzR q,v2])
    ⟨none,s1,eq1,rfl⟩ (fun i zzs H2 _ hh=>by obtain⟨_,g,_⟩:=hh;exact g.seq eb) (fun i u zzs H2 hi hh=>?_) (fun zzs H2 hh=>?_)
   ·obtain⟨v2,g1,g2,rfl⟩:=hh;obtain⟨d,ed,du⟩:=Db.get hi;rw[cM] at ed;obtain⟨l,el,rfl⟩:=j9.mp ed;have hl:=hrow l (eO el);obtain⟨la,rfl⟩:∃ a,u=.ref a:=by cases du;exact⟨_,rfl⟩
    refine⟨_,rfl,_,rfl,?_⟩;dsimp only[vm];refine Aj (du.mono g1) ?_;rw[aN];have hj:l.length<(iU ch.1.length (ch.2.take i)).length:=by rw[iH];lia
    refine⟨q,_,l.length,_,rfl,rfl,SqL.of g2,uL hj,_,_,rfl,rfl,q,_,_,l.length,rfl,rfl,g2,U6 (by rw[aN];exact hj),?_⟩;refine⟨_,(SameBut.refl q _).put.of g1 nq,?_,rfl⟩;have e:(iU ch.1.length (ch.2.take i)).getD l.length 0=((((ch.2.take i).map fun r=>(r.length:Int)).count (l.length:Int):Nat):Int):=by
     rw[dj,yO hl];rfl
    rw[aD,ints_set,iC,el,e];exact congrArg (fun x=>some (HO.lst (x.map V.int))) (QC hl).symm
   ·obtain⟨v2,g1,g2,rfl⟩:=hh;rw[lys,iK] at g2;exact hR _ _ ⟨v2,g1,g2,rfl⟩
  rintro zzs H2 ⟨v2,s2,e2,rfl⟩;exact⟨_,rfl,hq q _ s2 nq e2⟩
theorem Lw{f:Addr}{fd:FuncData} (F:Fun K "product" "product" wN f fd) (T:Txt K mg Z) :
  cH P w K mg base (CXE P w) 1 f fd ["one","other"] (W2 K):=by
 refine F.rok pq (fun vs H Q E h=>?_) (fun cdv A outer s H vs Q E hr h=>?_)
 ·obtain⟨p,q,a,b,rfl,_⟩:=h;rfl
 ·obtain⟨p,q,a,b,rfl,ep,eq,a1,a5,b4,bs,hq⟩:=h;refine⟨_,(aB (bx (i:=2) pq.nd rfl (Or.inl rfl) (cV jE (dG (aj aG ak)) (cV FQ (cV bQ (aQ (cQ (K:=K)) rfl T.cI bO (aj (rv 0) ak)) (aQ (cQ (K:=K)) rfl T.cI bO (aj (rv 1) ak))) aG))) (aB (cC eE rfl (dH rfl T.eG (aj (aQ (cQ (K:=K)) rfl T.cI bO (aj (rv 0) ak)) ak)) (bC (i:=3) pq.nd rfl (Or.inl rfl)) (aC (cC eE rfl (dH rfl T.eG (aj (aQ (cQ (K:=K)) rfl T.cI bO (aj (rv 1) ak)) ak)) (bC (i:=4) pq.nd rfl (Or.inl rfl)) (aC (Q5 (K:=K) (rv 2) (cV bQ (rv 3) (rv 4)) (cV jE (dz (dw (K:=K)) (rv 0) (rv 3)) (dz (dw (K:=K)) (rv 1) (rv 4)))))))) (aC (bf (rv 2))))),?_⟩;refine aF (fun zzs H1=>∃ r:Addr,H r=none/\Same H H1/\H1 r=some (.lst ((List.replicate (a.length+b.length-1) 0).map V.int))/\zzs=[zzR p,zzR q,zzR r,zzN,zzN]) (fun R hR=>?_) ?_
  ·refine⟨sz rfl,fun q1 n1=>?_⟩;have t1:=Same.put (o:=.lst [V.int 0]) n1;refine⟨_,rfl,.inl ⟨p,_,rfl,.inl (SqL.of (t1 _ _ ep)),?_⟩⟩;refine⟨_,rfl,.inl ⟨q,_,rfl,.inl (SqL.of (t1 _ _ eq)),?_⟩⟩;refine⟨_,_,rfl,rfl,?_⟩;rw[aN,aN];have e:((a.length:Int)+(b.length:Int)-1).toNat=a.length+b.length-1:=by lia
   refine⟨_,aD,?_,?_,?_,fun r nr=>?_⟩
   ·lia
   ·lia
   ·exact small (by show 1*(_:Nat)<=10000;lia)
   ·refine hR _ _ ⟨r,t1.free nr,t1.and nr,?_,rfl⟩;rw[aD,e,KZ,Xd]
  rintro zzs H1 ⟨r,nr,s1,er,rfl⟩;have npr:p≠r:=bU ep nr;have nqr:q≠r:=bU eq nr;have keep:∀ {H2:Hp} {us:List V},Same H H2->Same H (upd H2 r (.lst us)):=fun g=>(SameBut.refl r _).put.of g nr
  refine aF (fun zzs H2=>∃ v3 v4:Option V,Same H H2/\H2 r=some (.lst ((mulL a b).map V.int))/\zzs=[zzR p,zzR q,zzR r,v3,v4]) (fun R hR=>?_) ?_
  ·refine⟨_,rfl,.inl ⟨p,_,rfl,.inl (SqL.of (s1 _ _ ep)),_,rfl,?_,?_,?_⟩⟩
   ·rw[aN];lia
   ·rw[aN];lia
   rw[aN,jm];refine dD (lo:=0) (n:=a.length) (fun j zzs H2=>∃ v3 v4:Option V,Same H H2/\H2 r=some (.lst ((zZ a b j (List.replicate (a.length+b.length-1) 0)).map V.int))/\zzs=[zzR p,zzR q,zzR r,v3,v4])
    ⟨none,none,s1,er,rfl⟩ (fun j zzs H2 hj hh=>?_) (fun zzs H2 hh=>hR _ _ hh)
   obtain⟨v3,v4,g1,g2,rfl⟩:=hh;refine⟨_,rfl,.inl ⟨q,_,rfl,.inl (SqL.of (g1 _ _ eq)),_,rfl,?_,?_,?_⟩⟩
   ·rw[aN];lia
   ·rw[aN];lia
   rw[aN,jm];refine dD (lo:=0) (n:=b.length) (fun k zzs H3=>∃ v4:Option V,Same H H3/\H3 r=some (.lst ((wB a b j k (zZ a b j (List.replicate (a.length+b.length-1) 0))).map V.int))/\zzs=[zzR p,zzR q,zzR r,zzI (0+j),v4])
    ⟨v4,g1,g2,rfl⟩ (fun k zzs H3 hk hh=>?_) (fun zzs H3 hh=>by obtain⟨v4,g3,g4,rfl⟩:=hh;exact⟨_,v4,g3,g4,rfl⟩)
   obtain⟨v4,g3,g4,rfl⟩:=hh;have hjk:j+k<(wB a b j k (zZ a b j (List.replicate (a.length+b.length-1) 0))).length:=by rw[lH,qx,Bj];lia
   have e0:(0:Int)+(j:Int)+(0+(k:Int))=((j+k:Nat):Int):=by lia
   refine⟨_,rfl,_,rfl,_,rfl,?_⟩;dsimp only[Eh];rw[e0];refine⟨r,_,j+k,_,rfl,rfl,SqL.of g4,uL hjk,?_⟩;refine⟨_,rfl,_,rfl,.inl ⟨p,_,_,.int (a.getD j 0),rfl,rfl,SqL.of (g3 _ _ ep),?_,?_⟩⟩
   ·rw[nT];exact dB (uL hj)
   refine⟨_,rfl,_,rfl,.inl ⟨q,_,_,.int (b.getD k 0),rfl,rfl,SqL.of (g3 _ _ eq),?_,?_⟩⟩
   ·rw[nT];exact dB (uL hk)
   refine⟨.inr ?_,_,_,rfl,rfl,r,_,_,j+k,rfl,rfl,g4,U6 (by rw[aN];exact hjk),?_⟩
   ·have hb:b.getD k 0∈b:=by rw[dj,gP hk];exact lZ _
    have:=bs _ hb;lia
   ·refine⟨_,keep g3,?_,rfl⟩;rw[aD,ints_set];rfl
  rintro zzs H2 ⟨v3,v4,s2,e2,rfl⟩;exact⟨_,rfl,hq r _ s2 nr e2⟩
theorem Rk(a:List Int)(chs:List (List Cell×List (List Cell)))(ch:List Cell×List (List Cell)):gO a (chs++[ch])=mulL (gO a chs) (iU ch.1.length ch.2):=by unfold gO;rw[Hw];rfl
theorem Jo:∀(chs:List (List Cell×List (List Cell)))(a:List Int)(m:Nat),1<=a.length->a.length<=m->(∀ ch∈chs,Xf ch)->1<=(gO a chs).length/\(gO a chs).length<=m+chs.length*36
 |[],a,m,h1,h2,_=>⟨h1,by rw[wZ];unfold gO;rw[List.foldl_nil];omega⟩
 |ch::chs,a,m,h1,h2,h=>by
  have c:=(h ch cU).1;have e:(mulL a (iU ch.1.length ch.2)).length=a.length+ch.1.length:=by rw[Jl,iH];lia
  have ih:=Jo chs (mulL a (iU ch.1.length ch.2)) (m+36) (by rw[e];lia) (by rw[e];lia) fun x hx=>h x (dI _ hx)
  rw[dY];unfold gO at *;rw[vC];lia
theorem Rq{f:Addr}{fd:FuncData} (F:Fun K "number_of" "number_of" qN f fd) (T:Txt K mg Z) (vN:Df P w K mg base 1 "product" ["one","other"] (W2 K)) (pU:Df P w K mg base 1 "by_stones" ["choice"] (a3a K)) :
  cH P w K mg base (CXE P w) 2 f fd ["found","stones"] (ZP K):=by
 refine F.rok kI (fun vs H Q E h=>?_) (fun cdv A outer s H vs Q E hr h=>?_)
 ·obtain⟨p,n,chs,rfl,_⟩:=h;rfl
 ·obtain⟨p,n,chs,rfl,lp,ok,a4m,hq⟩:=h;refine⟨_,(aB (bx (i:=2) kI.nd rfl (Or.inl rfl) (dG (aj aG ak))) (aB (cC eE rfl (bB (K:=K) (rv 0)) (bC (i:=3) kI.nd rfl (Or.inl rfl)) (aC (bx (i:=2) kI.nd rfl (Or.inl rfl) (aP vN hr rfl aR (aj (rv 2) (aj (aP pU hr rfl aR (aj (rv 3) ak)) ak)))))) (aB (gM (qI (uW qC Ac aG (rv 1) (aQ (cQ (K:=K)) rfl T.cI bO (aj (rv 2) ak)))) (aC (bf aG)) cG) (aC (bf (dz (dw (K:=K)) (rv 2) (rv 1))))))),?_⟩;obtain⟨us,eu,Du⟩:=lp;have lus:us.length=chs.length:=by rw[Du.length,aN]
  refine aF (fun zzs H1=>∃ q:Addr,Same H H1/\H1 q=some (.lst (([1]:List Int).map V.int))/\zzs=[zzR p,zzI n,zzR q,zzN]) (fun R hR=>?_) ?_
  ·exact⟨sz rfl,fun q nq=>hR _ _ ⟨q,Same.put nq,aD,rfl⟩⟩
  rintro zzs H1 ⟨q,s1,eq1,rfl⟩;refine aF (fun zzs H2=>∃(q:Addr)(v3:Option V),Same H H2/\H2 q=some (.lst ((gO [1] chs).map V.int))/\zzs=[zzR p,zzI n,zzR q,v3]) (fun R hR=>?_) ?_
  ·refine⟨_,rfl,p,rfl,⟨_,SqL.of (s1 _ _ eu)⟩,?_⟩;refine d9 (K:=K) (xs:=us) (fun i zzs H2=>∃(q:Addr)(v3:Option V),Same H H2/\H2 q=some (.lst ((gO [1] (chs.take i)).map V.int))/\zzs=[zzR p,zzI n,zzR q,v3])
    ⟨q,none,s1,eq1,rfl⟩ (fun i zzs H2 _ hh=>by obtain⟨_,_,g,_⟩:=hh;exact SqL.of (g _ _ eu)) (fun i u zzs H2 hi hh=>?_) (fun zzs H2 hh=>?_)
   ·obtain⟨q,v3,g1,g2,rfl⟩:=hh;obtain⟨d,ed,du⟩:=Du.get hi;rw[cM] at ed;obtain⟨ch,ec,rfl⟩:=j9.mp ed;have co:=ok ch (eO ec);have ht:(chs.take i).length<=100:=by rw[jX];lia
    have hl:=Jo (chs.take i) [1] 1 (bK _) (bK _) fun x hx=>ok x (yx hx)
    refine⟨_,rfl,_,rfl,u,ch,rfl,du.mono g1,co,fun q2 H3 s3 n3 e3=>?_⟩;refine⟨q,q2,gO [1] (chs.take i),iU ch.1.length ch.2,rfl,s3 _ _ g2,e3,hl.1,by lia,by rw[iH];have:=co.1;lia,Kq co.2.2,fun r H4 s4 n4 e4=>?_⟩;refine⟨r,_,(g1.trans s3).trans s4,?_,rfl⟩;rw[iC,ec];show H4 r=some (.lst ((gO [1] (chs.take i++[ch])).map V.int));rw[Rk];exact e4
   ·obtain⟨q,v3,g1,g2,rfl⟩:=hh;rw[lus,iK] at g2;exact hR _ _ ⟨q,v3,g1,g2,rfl⟩
  rintro zzs H2 ⟨q,v3,s2,e2,rfl⟩;refine aF (fun zzs H3=>H3=H2/\(0<=n/\n<(gO [1] chs).length)/\zzs=[zzR p,zzI n,zzR q,v3]) (fun R hR=>?_) ?_
  ·refine⟨_,rfl,_,_,rfl,rfl,_,rfl,zF (m:=((gO [1] chs).length:Int)) (fun _ q'=>⟨_,rfl,.inl ⟨q,_,rfl,.inl (SqL.of e2),by rw[aN];exact q'⟩⟩) (gU (fun hb=>?_) (fun hb=>hR _ _ ⟨rfl,dN (by simpa only[uf] using hb),rfl⟩))⟩;have hn:=pK (by simpa only[lY] using hb);have e:qz (gO [1] chs) n=0:=by unfold qz;rw[aJ hn]
   rw[<- e];exact hq _ s2
  rintro zzs H3 ⟨rfl,hn,rfl⟩;obtain⟨k,rfl⟩:=Gy hn.1;refine⟨_,rfl,_,rfl,.inl ⟨q,_,_,_,rfl,rfl,SqL.of e2,dB (uL (j:=k) (by lia)),?_⟩⟩;have e:qz (gO [1] chs) (k:Int)=(gO [1] chs).getD k 0:=by unfold qz;rw[aK hn,jm]
  rw[<- e];exact hq _ s2
theorem a0a{zs:List Str}{w:Nat}(v:Vw zs w)(h:∀ p∈aW zs w,p.length<=12):(∀ ch∈chL zs w,Xf ch)/\(chL zs w).length<=100:=by
 have h1:=Ec v;have h2:(j8 zs w).length<=36:=cO (iJ _ _) (eY v);constructor
 ·intro ch hc;unfold chL at hc;rcases bW.mp hc with rfl|hc
  ·refine⟨kj _,fun l hl=>?_,?_⟩
   ·unfold fH at hl;split at hl
    ·cases hl
    ·rw[dU.mp hl];exact bK _
   ·show(fH zs w).length<=5000;unfold fH;split
    ·exact kj _
    ·show 1<=5000;decide
  rcases cD.mp hc with hc|hc
  ·obtain⟨p,hp,rfl⟩:=dR.mp hc;have:=h p hp;exact⟨by show p.length<=36;lia,fun l hl=>Rf hl,cO (Rc this) (by decide)⟩
  ·obtain⟨c,_,rfl⟩:=dR.mp hc;refine⟨by show 1<=36;decide,fun l hl=>?_,by show 2<=5000;decide⟩;rcases bW.mp hl with rfl|hl
   ·exact kj _
   ·rw[dU.mp hl];exact bK _
 ·unfold chL;rw[dY,cL,aN,aN];lia
theorem Uu{f:Addr}{fd:FuncData} (F:Fun K "count" "count" Gf f fd) (T:Txt K mg Z) (pX:Df P w K mg base 2 "number_of" ["found","stones"] (ZP K)) (vH:Df P w K mg base 6 "choices" ["view"] (El K Z.View Z.TooGreat)) :
  cH P w K mg base (CXE P w) 7 f fd ["view","stones"] (Gk K Z.View Z.TooGreat):=by
 refine F.RQ VF (fun vs H Q E h=>?_) (fun cdv A outer s H vs Q E hr h=>?_)
 ·obtain⟨x,n,zs,w,rfl,_⟩:=h;rfl
 ·obtain⟨x,n,zs,w,rfl,vt,he,hq⟩:=h;refine⟨_,(aC (bf (aP pX hr rfl aR (aj (aP vH hr rfl PB (aj (rv 0) ak)) (aj (rv 1) ak))))),?_⟩;refine⟨_,rfl,x,zs,w,rfl,vt,he,fun h12 q H1 fr=>?_⟩;obtain⟨c1,c2⟩:=a0a vt.vw h12;exact⟨_,rfl,q,n,chL zs w,rfl,fr.ls,c1,c2,fun H' s'=>hq h12 _ (fr.same.trans s')⟩
end
theorem U5(c:Nat):inS "12345678" c=decide (49<=c/\c<=56):=by
 rw[Fy (by decide +kernel)];have e:("12345678" : Str).cps.toList=[49,50,51,52,53,54,55,56]:=by decide +kernel
 rw[e];have:(c∈[49,50,51,52,53,54,55,56])↔(49<=c/\c<=56):=by simp;lia
 rw[Bu];exact this
def DK(zs:List Str)(w:Nat):Bool:=(iT zs w "12345678").all fun t=>decide (0<(au zs w t).length)
theorem Ji{zs:List Str}{w:Nat}{x:Cell}(v:Vw zs w):x∈iT zs w "12345678" ↔ inF zs.length w x/\aM zs w x=false/\0<fG zs x:=by
 rw[oU,U5,iw];unfold fG;constructor
 ·rintro⟨h,hc⟩;exact⟨h,((Aa v).mp (oU.mpr ⟨h,by rw[tU];exact bG (by lia)⟩)).2,by lia⟩
 ·rintro⟨h,hc,hf⟩;have:=v.digit h hc;exact⟨h,by lia⟩
theorem Rg{zs:List Str}{w:Nat}(v:Vw zs w):fH zs w=if DK zs w=true then [[]] else []:=by
 unfold fH;have:(bH zs.length w).any (uy zs w)=!DK zs w:=by
  rw[sZ,lY,wY];unfold DK;rw[Bool.eq_false_iff,ne_eq,jq];constructor
  ·rintro⟨c,hc,hb⟩ h;unfold uy qw at hb;simp only[jY,lY,iw] at hb;have:=dN (h c ((Ji v).mpr ⟨bL.mp hc,hb.1.1,hb.2⟩));lia
  ·intro h;refine Bh fun n=>h fun c hc=>bG (Bh fun z=>n ⟨c,?_⟩)
   obtain⟨h1,h2,h3⟩:=(Ji v).mp hc;refine⟨bL.mpr h1,?_⟩;unfold uy qw;rw[h2,bG h3,bG (by lia:(au zs w c).length=0)];rfl
 rw[this];cases DK zs w<;>rfl
def co(a:List Int)(n:Nat):Int:=a.getD n 0
def sm(f:Nat->Int):Nat->Int
 |0=>0
 |n+1=>sm f n+f n
theorem lU{f g:Nat->Int}:∀ {n:Nat},(∀ i,i<n->f i=g i)->sm f n=sm g n
 |0,_=>rfl
 |n+1,h=>by
  show sm f n+f n=sm g n+g n;rw[lU fun i hi=>h i (wX hi),h n (Bt n)]
theorem zj:∀ n,sm (fun _=>0) n=0
 |0=>rfl
 |n+1=>by show sm (fun _=>0) n+0=0;rw[zj n];rfl
theorem Q7{f:Nat->Int}{n:Nat}:∀ {d:Nat},(∀ i,n<=i->f i=0)->sm f (n+d)=sm f n
 |0,_=>rfl
 |d+1,h=>by show sm f (n+d)+f (n+d)=sm f n;rw[Q7 h,h _ (Nat.le_add_right _ _),pF]
theorem ZL{f:Nat->Int}{n m:Nat}(hm:n<=m)(h:∀ i,n<=i->f i=0):sm f m=sm f n:=by
 obtain⟨d,rfl⟩:=Nat.exists_eq_add_of_le hm;exact Q7 h
theorem VJ{f g:Nat->Int}:∀ n,sm (fun i=>f i+g i) n=sm f n+sm g n
 |0=>rfl
 |n+1=>by show sm (fun i=>f i+g i) n+(f n+g n)=(sm f n+f n)+(sm g n+g n);rw[VJ n];lia
theorem T8{c:List Int}{i n:Nat}{x:Int}(hi:i<c.length):co (c.set i x) n=if n=i then x else co c n:=by
 unfold co;rw[dj,List.getElem?_set];by_cases h:i=n
 ·rw[aK h,aK (by omega),aK h.symm];rfl
 ·rw[aJ h,aJ (ig h),<- dj]
theorem Ku{a b:List Int}{j:Nat}:∀ {k:Nat} {c:List Int} (n:Nat),j+k<=c.length->co (wB a b j k c) n=co c n+if j<=n/\n<j+k then co a j*co b (n-j) else 0
 |0,c,n,_=>by
  rw[aJ (by lia),pF];rfl
 |k+1,c,n,h=>by
  unfold wB Ph;rw[T8 (by rw[lH];lia)];by_cases e:n=j+k
  ·rw[aK e,aK (by lia)];have:=Ku (a:=a) (b:=b) (j:=j) (k:=k) (c:=c) (j+k) (by lia);rw[aJ (by lia),pF] at this;show co (wB a b j k c) (j+k)+co a j*co b k=_;rw[this,e,show j+k-j=k from by lia]
  ·rw[aJ e,Ku n (by lia)];by_cases h2:j<=n/\n<j+k
   ·rw[aK h2,aK (by lia)]
   ·rw[aJ h2,aJ (by lia)]
theorem T6{a b:List Int}:∀ {j:Nat} {c:List Int} (n:Nat),j<=a.length->a.length+b.length-1<=c.length->co (zZ a b j c) n=co c n+sm (fun i=>if i<=n/\n<i+b.length then co a i*co b (n-i) else 0) j
 |0,c,n,_,_=>by show co c n=co c n+0;rw[pF]
 |j+1,c,n,h,hc=>by
  unfold zZ;rw[Ku n (by rw[qx];lia),T6 n (by lia) hc];show _=_+(sm _ j+_);rw[Int.add_assoc]
theorem Ks{a:List Int}{n:Nat}(h:a.length<=n):co a n=0:=by
 unfold co;rw[dj,Bl h];rfl
def cv(f g:Nat->Int)(n:Nat):Int:=sm (fun i=>f i*g (n-i)) (n+1)
theorem T7(a b:List Int)(n:Nat):co (mulL a b) n=cv (co a) (co b) n:=by
 unfold mulL;rw[T6 n (bK _) (by rw[Bj];lia)];have e0:co (List.replicate (a.length+b.length-1) 0) n=0:=by
  unfold co;rw[dj,MJ];split<;>rfl
 rw[e0,nT];have e1:sm (fun i=>if i<=n/\n<i+b.length then co a i*co b (n-i) else 0) a.length=sm (fun i=>if i<=n then co a i*co b (n-i) else 0) a.length:=lU fun i _=>by
  by_cases h:i<=n
  ·by_cases h2:n<i+b.length
   ·rw[aK ⟨h,h2⟩,aK h]
   ·rw[aJ (by lia),aK h,Ks (a:=b) (by lia),Int.mul_zero]
  ·rw[aJ (by lia),aJ h]
 rw[e1];have e2:sm (fun i=>if i<=n then co a i*co b (n-i) else 0) (n+1)=cv (co a) (co b) n:=lU fun i hi=>aK (by lia)
 rw[<- e2];rcases Nat.le_total a.length (n+1) with h|h
 ·refine(ZL h fun i hi=>?_).symm;rw[Ks (a:=a) hi];split
  ·exact O6 _
  ·rfl
 ·refine ZL h fun i hi=>aJ (by lia)
def tot(a:List Int):Int:=sm (co a) a.length
theorem VN{c:List Int}{i:Nat}{y:Int}(hi:i<c.length):∀ n,sm (co (c.set i y)) n=sm (co c) n+if i<n then y-co c i else 0
 |0=>rfl
 |n+1=>by
  show sm (co (c.set i y)) n+co (c.set i y) n=sm (co c) n+co c n+_;rw[VN hi n,T8 hi];by_cases e:n=i
  ·rw[aK e,aJ (by lia),aK (by lia),e];lia
  ·rw[aJ e];by_cases h:i<n
   ·rw[aK h,aK (by lia)];lia
   ·rw[aJ h,aJ (by lia)];lia
theorem Qo{a b:List Int}{j:Nat}:∀ {k:Nat} {c:List Int},j+k<=c.length->tot (wB a b j k c)=tot c+co a j*sm (co b) k
 |0,c,_=>by
  show tot c=tot c+co a j*0;rw[Int.mul_zero,pF]
 |k+1,c,h=>by
  unfold wB Ph;have ih:=Qo (a:=a) (b:=b) (j:=j) (k:=k) (c:=c) (by lia);unfold tot at ih ⊢;rw[lH] at ih;rw[Hz,lH,VN (by rw[lH];lia),aK (by lia),ih];show _+(co (wB a b j k c) (j+k)+co a j*co b k-co (wB a b j k c) (j+k))=_+co a j*(sm (co b) k+co b k);rw[Int.mul_add];lia
theorem Qn{a b:List Int}:∀ {j:Nat} {c:List Int},j<=a.length->a.length+b.length-1<=c.length->tot (zZ a b j c)=tot c+sm (co a) j*tot b
 |0,c,_,_=>by
  show tot c=tot c+0*tot b;rw[O6,pF]
 |j+1,c,h,hc=>by
  unfold zZ;rw[Qo (by rw[qx];lia),Qn (by lia) hc];show _+co a j*tot b=_+(sm (co a) j+co a j)*tot b;rw[Int.add_mul];lia
theorem Zi(a b:List Int):tot (mulL a b)=tot a*tot b:=by
 unfold mulL;rw[Qn (bK _) (by rw[Bj];lia)];have e:tot (List.replicate (a.length+b.length-1) 0)=0:=by
  unfold tot;have:sm (co (List.replicate (a.length+b.length-1) 0)) (List.replicate (a.length+b.length-1) (0:Int)).length=sm (fun _=>0) (List.replicate (a.length+b.length-1) (0:Int)).length:=lU fun i _=>by
   unfold co;rw[dj,MJ];split<;>rfl
  rw[this,zj]
 rw[e,nT];rfl
theorem VL{f:Nat->Int}:∀ {n:Nat},(∀ i,i<n->0<=f i)->0<=sm f n
 |0,_=>O8 0
 |n+1,h=>by
  have:=VL fun i hi=>h i (wX hi)
  have:=h n (Bt n);show 0<=sm f n+f n;lia
theorem ZK{f:Nat->Int}:∀ {n i:Nat},(∀ i,i<n->0<=f i)->i<n->f i<=sm f n
 |n+1,i,h,hi=>by
  show f i<=sm f n+f n;have h1:=VL fun i hi=>h i (wX hi)
  have h2:=h n (Bt n);by_cases e:i=n
  ·subst e;lia
  ·have:=ZK (n:=n) (i:=i) (fun i hi=>h i (wX hi)) (by lia);lia
def Nn(a:List Int):Prop:=∀ n,0<=co a n
theorem Nn.mul{a b:List Int}(ha:Nn a)(hb:Nn b):Nn (mulL a b):=fun n=>by
 rw[T7];exact VL fun i _=>O1 (ha i) (hb _)
theorem Nn.of{a:List Int}(h:∀ x∈a,0<=x):Nn a:=fun n=>by
 unfold co;rw[dj];cases e:a[n]? with
 |none=>exact O8 0
 |some x=>exact h x (eO e)
theorem a2a{a b:List Int}(ha:Nn a)(hb:Nn b)(i j:Nat):co a i*co b j<=co (mulL a b) (i+j):=by
 rw[T7];have:=ZK (f:=fun k=>co a k*co b (i+j-k)) (n:=i+j+1) (i:=i) (fun k _=>O1 (ha k) (hb _)) (by lia);rw[show i+j-i=j from by lia] at this;exact this
theorem Fe{n:Nat}{ls:List (List Cell)}{k:Nat}(hk:k<=n):co (iU n ls) k=(((ls.map fun r=>(r.length:Int)).count (k:Int):Nat):Int):=by
 unfold co;rw[dj,yO hk];rfl
theorem T5(n:Nat)(ls:List (List Cell)):Nn (iU n ls):=Nn.of fun x hx=>by
 obtain⟨k,_,rfl⟩:=dR.mp hx;exact Hr _
theorem Xq{n:Nat}{ls:List (List Cell)}{l:List Cell}(h:l∈ls)(hl:l.length<=n):1<=co (iU n ls) l.length:=by
 rw[Fe hl];have:=List.count_pos_iff.mpr (dR.mpr ⟨l,h,rfl⟩:(l.length:Int)∈ls.map fun r=>(r.length:Int));lia
theorem Qm{n:Nat}:∀ {ls:List (List Cell)},(∀ l∈ls,l.length<=n)->tot (iU n ls)=ls.length
 |[],_=>by
  unfold tot;rw[lU (g:=fun _=>0) fun i hi=>?_,zj];rfl;rw[iH] at hi;rw[Fe (by lia)];rfl
 |l::ls,h=>by
  have ih:=Qm (ls:=ls) fun x hx=>h x (dI _ hx)
  unfold tot at ih ⊢;rw[iH] at ih ⊢;have hl:=h l cU;have e:sm (co (iU n (l::ls))) (n+1)=sm (fun i=>co (iU n ls) i+(if i=l.length then 1 else 0)) (n+1):=lU fun i hi=>by
   rw[Fe (by lia),Fe (by lia),dJ,List.count_cons];by_cases q:i=l.length
   ·rw[aK q,aK (by rw[iM];lia)];rfl
   ·rw[aJ q,aJ (by rw[iM];lia)];rfl
  have one:∀ m,l.length<m->sm (fun i=>if i=l.length then 1 else 0) m=1:=fun m hm=>by
   induction m with
   |zero=>lia
   |succ m ih=>
    show sm (fun i=>if i=l.length then 1 else 0) m+(if m=l.length then 1 else 0)=1;by_cases q:l.length<m
    ·rw[ih q,aJ (by lia)];rfl
    ·rw[aK (by lia),lU (g:=fun _=>0) fun i hi=>aJ (by lia),zj];rfl
  rw[e,VJ,ih,one _ (by lia),dY];lia
theorem Ur:∀ {chs:List (List Cell×List (List Cell))} {a:List Int},Nn a->Nn (gO a chs)
 |[],_,h=>h
 |ch::chs,a,h=>Ur (chs:=chs) (h.mul (T5 _ _))
theorem Pu:∀ {chs:List (List Cell×List (List Cell))} {a:List Int},1<=a.length->(gO a chs).length=a.length+(chs.map fun ch=>ch.1.length).sum
 |[],a,_=>by show a.length=a.length+0;rfl
 |ch::chs,a,h=>by
  have e:=Jl a (iU ch.1.length ch.2);rw[iH] at e;have:=Pu (chs:=chs) (a:=mulL a (iU ch.1.length ch.2)) (by lia);show(gO (mulL a (iU ch.1.length ch.2)) chs).length=_;rw[this,dJ,tD];lia
def nG(chs:List (List Cell×List (List Cell))):Int:=chs.foldl (fun a ch=>a*(ch.2.length:Int)) 1
theorem nH:∀(chs:List (List Cell×List (List Cell)))(a:Int),chs.foldl (fun a ch=>a*(ch.2.length:Int)) a=a*nG chs
 |[],a=>(O7 a).symm
 |ch::chs,a=>by
  unfold nG;rw[vC,vC,nH chs,nH chs (1*_),xK,Int.mul_assoc]
theorem Py:∀ {chs:List (List Cell×List (List Cell))} {a:List Int},(∀ ch∈chs,∀ l∈ch.2,l.length<=ch.1.length)->tot (gO a chs)=tot a*nG chs
 |[],a,_=>(O7 _).symm
 |ch::chs,a,h=>by
  show tot (gO (mulL a (iU ch.1.length ch.2)) chs)=_;rw[Py fun c hc=>h c (dI _ hc),Zi,Qm (h ch cU)];unfold nG;rw[vC,nH chs (1*_),xK,Int.mul_assoc];rfl
theorem Px:∀ {chs:List (List Cell×List (List Cell))} {a:List Int} {i:Nat} (f:List Cell->List Cell),Nn a->1<=co a i->(∀ ch∈chs,f ch.1∈ch.2/\(f ch.1).length<=ch.1.length)->1<=co (gO a chs) (i+(chs.map fun ch=>(f ch.1).length).sum)
 |[],a,i,f,_,h,_=>h
 |ch::chs,a,i,f,ha,h,hf=>by
  obtain⟨h1,h2⟩:=hf ch cU;have hn:=T5 ch.1.length ch.2;have g1:=Xq h1 h2;have g2:=a2a ha hn i (f ch.1).length;have g3:1*1<=co a i*co (iU ch.1.length ch.2) (f ch.1).length:=Int.mul_le_mul h g1 (by decide) (by lia);have:=Px (chs:=chs) (a:=mulL a (iU ch.1.length ch.2)) (i:=i+(f ch.1).length) f (ha.mul hn) (by lia) fun c hc=>hf c (dI _ hc)
  rw[dJ,tD,<- Nat.add_assoc];exact this
theorem Kr{a:List Int}(n:Nat):qz a n=co a n:=by
 unfold qz;by_cases h:n<a.length
 ·rw[aK (by lia),jm];rfl
 ·rw[aJ (by lia),Ks (by lia)]
section
variable{zs:List Str}{w:Nat}
theorem V2(h6:zs.length<=6)(w6:w<=6):(aW zs w).flatten.Nodup:=by
 obtain⟨ok,_⟩:=jz (zs:=zs) (w:=w) h6 w6;unfold List.Nodup;rw[List.pairwise_flatten];refine⟨fun p hp=>?_,ok.dis.imp fun h x hx y hy e=>h x hx (by rw[e];exact hy)⟩;obtain⟨x,hx,rfl⟩:=ok.of p hp;exact(Part.join h6 w6 hx).nd
theorem LC(h6:zs.length<=6)(w6:w<=6):(aW zs w).flatten.Perm (bT zs w):=by
 obtain⟨ok,cov⟩:=jz (zs:=zs) (w:=w) h6 w6;refine(Wt (V2 h6 w6) (kJ (Rz h6 w6))).mpr fun y=>?_
 rw[List.mem_flatten];constructor
 ·rintro⟨p,hp,hy⟩;obtain⟨x,hx,rfl⟩:=ok.of p hp;exact jc.edge hx ((dF (je hx)).mp hy)
 ·intro hy;obtain⟨p,hp,h⟩:=cov y hy;exact⟨p,hp,h⟩
theorem xQ(h6:zs.length<=6)(w6:w<=6):((aW zs w).flatten++j8 zs w).Perm (bA zs w):=by
 refine((LC h6 w6).append_right _).trans ?_;unfold bT j8;have e:(bA zs w).filter (fun x=>decide ((aL zs w x).length=0))=(bA zs w).filter (fun x=>!decide (0<(aL zs w x).length)):=Ht fun x _=>by
  rw[sZ,iw,lY,decide_eq_false_iff_not];lia
 rw[e];exact List.filter_append_perm _ _
theorem K1{α:Type}:∀ ls:List (List α),(ls.map fun l=>l.length).sum=ls.flatten.length
 |[]=>rfl
 |l::ls=>by rw[dJ,tD,ug,cL,K1 ls]
theorem SX(h6:zs.length<=6)(w6:w<=6):((chL zs w).map fun ch=>ch.1.length).sum=(bA zs w).length:=by
 unfold chL;rw[dJ,tD,dZ,xq,nR,nR];have e1:(aW zs w).map ((fun ch:List Cell×List (List Cell)=>ch.1.length) ∘ fun p=>(p,fQ zs w p))=(aW zs w).map fun p=>p.length:=rfl
 have e2:∀ l:List Cell,(l.map ((fun ch:List Cell×List (List Cell)=>ch.1.length) ∘ fun c=>([c],[[],[c]]))).sum=l.length:=fun l=>by
  induction l with
  |nil=>rfl
  |cons a l ih=>rw[dJ,tD,ih,dY];show 1+_=_;lia
 rw[e1,K1,e2,<- (xQ h6 w6).length_eq,cL];show 0+_=_;lia
theorem PN:∀ {chs:List (List Cell×List (List Cell))},(∀ ch∈chs,ch.2.length<=2^ch.1.length)->0<=nG chs/\nG chs<=((2^(chs.map fun ch=>ch.1.length).sum:Nat):Int)
 |[],_=>⟨by decide,by decide⟩
 |ch::chs,h=>by
  obtain⟨i0,i1⟩:=PN (chs:=chs) fun c hc=>h c (dI _ hc)
  have h1:=h ch cU;have e:nG (ch::chs)=(ch.2.length:Int)*nG chs:=by
   unfold nG;rw[vC,nH chs (1*_),xK];rfl
  rw[e,dJ,tD,Nat.pow_add,Int.natCast_mul];exact⟨O1 (Hr _) i0,Int.mul_le_mul (by lia) i1 i0 (Hr _)⟩
theorem a0b(v:Vw zs w)(h12:∀ p∈aW zs w,p.length<=12):∀ ch∈chL zs w,ch.2.length<=2^ch.1.length:=fun ch hc=>by
 unfold chL at hc;rcases bW.mp hc with rfl|hc
 ·unfold fH;split<;>exact GJ rfl
 rcases cD.mp hc with hc|hc
 ·obtain⟨p,hp,rfl⟩:=dR.mp hc;show(fQ zs w p).length<=2^p.length;rw[iV.length_eq];exact nD _ _ _
 ·obtain⟨c,_,rfl⟩:=dR.mp hc;exact GJ rfl
end
section
variable{zs:List Str}{w:Nat}
theorem SQ(v:Vw zs w):∀ ch∈chL zs w,ch.1.Nodup/\∀ l∈ch.2,l.Sublist ch.1:=fun ch hc=>by
 have h6:=v.le;have w6:=v.w6;obtain⟨ok,_⟩:=jz (zs:=zs) (w:=w) h6 w6;unfold chL at hc;rcases bW.mp hc with rfl|hc
 ·refine⟨.nil,fun l hl=>?_⟩;unfold fH at hl;split at hl
  ·cases hl
  ·rw[dU.mp hl];exact .slnil
 rcases cD.mp hc with hc|hc
 ·obtain⟨p,hp,rfl⟩:=dR.mp hc;obtain⟨x,hx,rfl⟩:=ok.of p hp;have pp:=Part.join h6 w6 hx;exact⟨pp.nd,fun l hl=>((pp.mem l).mp hl).1⟩
 ·obtain⟨x,_,rfl⟩:=dR.mp hc;refine⟨by simp,fun l hl=>?_⟩;rcases bW.mp hl with rfl|hl
  ·exact List.nil_sublist _
  ·rw[dU.mp hl];exact Nv _
end
section
variable{zs:List Str}{w:Nat}{L:List Cell}
theorem kY{a b:List Cell}(ha:a.Pairwise aV)(hb:b.Pairwise aV):a.filter (fun y=>decide (y∈b))=b.filter (fun y=>decide (y∈a)):=by
 refine Eu (ha.filter _) (hb.filter _) fun y=>?_
 rw[cB,cB,iw,iw];exact⟨fun h=>⟨h.2,h.1⟩,fun h=>⟨h.2,h.1⟩⟩
theorem zJ(hL:∀ c∈L,aM zs w c=true)(t:Cell):vh zs.length w t L=mQ (au zs w t) L:=by
 unfold vh mQ au;rw[List.filter_filter];refine congrArg List.length (Ht fun y hy=>?_);by_cases h:y∈L
 ·rw[bG h,hL y h];rfl
 ·rw[bV h];rfl
theorem U8(v:Vw zs w)(hL:∀ c∈L,aM zs w c=true):gV zs w L=true↔∀ t,inF zs.length w t->aM zs w t=false->(mQ (au zs w t) L:Int)=fG zs t:=by
 unfold gV;rw[jq];constructor
 ·intro h t ht ho;have:=h t (bL.mpr ht);rw[ho,O4] at this;unfold qT at this;have:=dN this;rw[<- zJ hL];lia
 ·intro h t ht;cases ho:aM zs w t
  ·rw[O4];unfold qT;have:=h t (bL.mp ht) ho;rw[<- zJ hL] at this;exact bG (by lia)
  ·rfl
theorem Il{ps:List Cell}(p:Part zs w ps){x t:Cell}(hx:x∈ps)(ht:t∈aL zs w x):mQ (au zs w t) (L.filter fun y=>decide (y∈ps))=mQ (au zs w t) L:=wj fun y hy=>by
 rw[Bu,cB,iw];exact⟨fun h=>h.1,fun h=>⟨h,p.all x hx t ht y hy⟩⟩
theorem a0k(v:Vw zs w){t:Cell}(ht:inF zs.length w t)(ho:aM zs w t=false):0<=fG zs t:=by
 have:=v.digit ht ho;unfold fG;lia
theorem Lf(v:Vw zs w)(la:L.Pairwise aV)(hL:∀ c∈L,aM zs w c=true):gV zs w L=true↔(fH zs w=[[]]/\∀ p∈aW zs w,(L.filter fun y=>decide (y∈p))∈fQ zs w p):=by
 have h6:=v.le;have w6:=v.w6;obtain⟨ok,cov⟩:=jz (zs:=zs) (w:=w) h6 w6;rw[U8 v hL];constructor
 ·intro h;constructor
  ·unfold fH;rw[aJ];rw[wY];rintro⟨t,ht,hb⟩;unfold uy qw at hb;simp only[jY,lY,iw] at hb;have:=h t (bL.mp ht) hb.1.1;have e:au zs w t=[]:=Gz.mp hb.1.2;rw[e] at this;have z:mQ [] L=0:=rfl;rw[z] at this;lia
  ·intro p hp;obtain⟨x,hx,rfl⟩:=ok.of p hp;have pp:=Part.join h6 w6 hx;refine(pp.mem _).mpr ⟨?_,fun y hy t ht=>?_⟩
   ·rw[kY la pp.asc];exact Hh
   ·rw[Il pp hy ht];obtain⟨a,b,_⟩:=gC ht;exact h t a b
 ·rintro⟨h1,h2⟩ t ht ho;by_cases e:au zs w t=[]
  ·rw[e];show((0:Nat):Int)=_;have nb:uy zs w t=false:=by
    cases z:uy zs w t
    ·rfl
    ·unfold fH at h1;rw[aK (wY.mpr ⟨t,bL.mpr ht,z⟩)] at h1;cases h1
   unfold uy qw at nb;rw[ho,e] at nb;have:decide (0<fG zs t)=false:=nb;have:=pK this;have:=a0k v ht ho;lia
  ·obtain⟨y,hy⟩:=List.exists_mem_of_ne_nil _ e;have ye:=pH ht ho hy;obtain⟨p,hp,hyp⟩:=cov y ye;obtain⟨x,hx,rfl⟩:=ok.of p hp;have pp:=Part.join h6 w6 hx;have hto:=DX hy ht ho;have:=((pp.mem _).mp (h2 _ hp)).2 y hyp t hto;rw[Il pp hyp hto] at this;exact this
theorem xP(h6:zs.length<=6)(w6:w<=6):(bA zs w).Pairwise aV:=by
 unfold bA;exact(rH zs.length (cR.mpr (by lia)) w (cR.mpr (by lia))).filter _
theorem yd{y:Cell}:y∈bA zs w↔aM zs w y=true:=by
 unfold bA;rw[cB,bL];refine⟨fun h=>h.2,fun h=>⟨?_,h⟩⟩;unfold aM at h;exact dN (Bool.and_eq_true_iff.mp h).1
theorem Dv{f:Cell->Bool}:∀ ls:List (List Cell),(ls.flatten.filter f).length=(ls.map fun l=>(l.filter f).length).sum
 |[]=>rfl
 |l::ls=>by rw[ug,sU,cL,Dv ls,dJ,tD]
theorem Yb(v:Vw zs w)(la:L.Pairwise aV)(hL:∀ c∈L,aM zs w c=true):((chL zs w).map fun ch=>(L.filter fun y=>decide (y∈ch.1)).length).sum=L.length:=by
 have h6:=v.le;have w6:=v.w6;obtain⟨ok,cov⟩:=jz (zs:=zs) (w:=w) h6 w6;unfold chL;rw[dJ,tD,dZ,xq,nR,nR];have e0:(L.filter fun y=>decide (y∈([]:List Cell))).length=0:=by
  rw[GF.mpr fun y _=>by simp];rfl
 have e1:(aW zs w).map ((fun ch:List Cell×List (List Cell)=>(L.filter fun y=>decide (y∈ch.1)).length) ∘ fun p=>(p,fQ zs w p))=(aW zs w).map fun p=>(p.filter fun y=>decide (y∈L)).length:=Hf fun p hp=>by
  obtain⟨x,hx,rfl⟩:=ok.of p hp;show(L.filter fun y=>decide (y∈cu zs w x)).length=_;rw[kY la (kZ h6 w6)]
 have e2:∀ l:List Cell,(l.map ((fun ch:List Cell×List (List Cell)=>(L.filter fun y=>decide (y∈ch.1)).length) ∘ fun c=>([c],[[],[c]]))).sum=(l.filter fun y=>decide (y∈L)).length:=fun l=>by
  induction l with
  |nil=>rfl
  |cons a l ih=>
   rw[dJ,tD,ih,um];show(L.filter fun y=>decide (y∈[a])).length+_=_;have s1:([a]:List Cell).Pairwise aV:=GC _ _;rw[kY la s1,um];by_cases h:a∈L
   ·rw[aK (bG h),aK (bG h),dY,dY];show 0+1+_=_;lia
   ·rw[aJ (by simpa using h),aJ (by simpa using h)];show 0+_=_;lia
 rw[e0,e1,e2,<- Dv,pD,<- cL,<- sU,((xQ h6 w6).filter _).length_eq];have cl:(bA zs w).Pairwise aV:=xP h6 w6;rw[kY cl la,GZ.mpr fun y hy=>bG ?_];exact yd.mpr (hL y hy)
end
theorem Z7{K:ao}{H:Hp}{p:Addr}{zs:List Str}{w:Nat}{x:Cell}{Q:VK}(hS:SqL K H p (zs.map V.str))(h:inF zs.length w x)(q:Q (.str (zs.getD x.1.toNat Str.empty)) H):rIx K (.ref p) (.int x.1) H Q:=by
 obtain⟨⟨a1,a2⟩,_⟩:=h;have e:x.1=((x.1.toNat:Nat):Int):=by lia
 rw[e];exact G9 hS (by lia) q
theorem Vq{K:ao}{H:Hp}{p:Addr}{zs:List Str}{w:Nat}{x:Cell}{Q:VK}(hS:SqL K H p (zs.map V.str))(rc:Rect zs w)(h:inF zs.length w x)(q:Q (.str ⟨#[codeAt zs (x.1.toNat,x.2.toNat)]⟩) H):rIx K (.str (zs.getD x.1.toNat Str.empty)) (.int x.2) H Q:=by
 obtain⟨⟨a1,a2⟩,a3,a4⟩:=h;have e:x.2=((x.2.toNat:Nat):Int):=by lia
 rw[e];exact yX hS rc (by lia) (by lia) q
theorem JR{h w:Nat}{st kn:List Cell}(h6:h<=6)(w6:w<=6)(sub:st.Sublist (bH h w))(hk:∀ x∈kn,inF h w x/\x∉st) :
  (gF h w st kn).length=h/\st.Pairwise aV/\(∀ c∈st,aM (gF h w st kn) w c=true)/\gV (gF h w st kn) w st=true:=by
 have el:(gF h w st kn).length=h:=by unfold gF;rw[aN,jo]
 refine⟨el,(rH h (cR.mpr (by lia)) w (cR.mpr (by lia))).sublist sub,fun c hc=>?_,?_⟩
 ·rw[uD,bG (bL.mp (sub.subset hc)),bV fun z=>(hk c z).2 hc];rfl
 ·unfold gV;rw[jq,el];intro c hc;have hi:=bL.mp hc;by_cases z:c∈kn
  ·refine X6.mpr (.inr ?_);unfold qT;refine bG ?_;obtain⟨⟨a1,a2⟩,a3,a4⟩:=hi;unfold fG;rw[el,zK (by lia) (by lia)];have e:(((c.1.toNat:Nat):Int),((c.2.toNat:Nat):Int))=c:=jh (by show _=c.1;lia) (by show _=c.2;lia);rw[e];unfold CK;rw[aK z];have:tR h w st c=vh h w c st:=rfl;lia
  ·refine X6.mpr (.inl ?_);rw[uD,bG hi,bV z];rfl
section
variable{zs:List Str}{w:Nat}{L:List Cell}
theorem own_one(v:Vw zs w)(la:L.Pairwise aV)(hL:∀ c∈L,aM zs w c=true)(hk:gV zs w L=true):1<=qz (gO [1] (chL zs w)) (L.length:Nat):=by
 obtain⟨h1,h2⟩:=(Lf v la hL).mp hk;rw[Kr];have key:=Px (chs:=chL zs w) (a:=[1]) (i:=0) (fun p=>L.filter fun y=>decide (y∈p)) (Nn.of fun x hx=>by rw[dU.mp hx];decide) (by decide) fun ch hc=>by
  have hm:(L.filter fun y=>decide (y∈ch.1))∈ch.2:=by
   have hc':=hc;unfold chL at hc';rcases bW.mp hc' with rfl|hc'
   ·show(L.filter fun y=>decide (y∈([]:List Cell)))∈fH zs w;rw[h1,GF.mpr fun y _=>by simp];exact dU.mpr rfl
   rcases cD.mp hc' with hc'|hc'
   ·obtain⟨p,hp,rfl⟩:=dR.mp hc';exact h2 p hp
   ·obtain⟨c,_,rfl⟩:=dR.mp hc';show(L.filter fun y=>decide (y∈[c]))∈[[],[c]];rw[kY la (GC _ _)];by_cases z:c∈L
    ·rw[um,aK (bG z)];exact dI _ (dU.mpr rfl)
    ·rw[um,aJ (by simpa using z)];exact cU
  exact⟨hm,((SQ v ch hc).2 _ hm).length_le⟩
 rw[Yb v la hL,pD] at key;exact key
theorem W6(f:Nat->Int):∀ n,((List.range n).map f).sum=sm f n
 |0=>rfl
 |n+1=>by
  rw[tu,dZ,xq,W6 f n];show sm f n+(f n+0)=sm f n+f n;rw[pF]
noncomputable def zH(zs:List Str)(w:Nat):List Int:=(List.range ((bA zs w).length+1)).map fun n:Nat=>qz (gO [1] (chL zs w)) (n:Int)
noncomputable def zQ(zs:List Str)(w:Nat):Int:=(j8 zs w).foldl (fun a _=>a*2) ((aW zs w).foldl (fun a p=>a*((fQ zs w p).length:Int)) 1)
theorem Jy:nG (chL zs w)=((fH zs w).length:Int)*zQ zs w:=by
 unfold nG chL;rw[vC,nH,xK];unfold nG zQ;rw[Hw,List.foldl_map,List.foldl_map];rfl
theorem Oj(v:Vw zs w):(gO [1] (chL zs w)).length=(bA zs w).length+1:=by
 rw[Pu (by decide),SX v.le v.w6,nQ];lia
theorem Ol(v:Vw zs w):(zH zs w).sum=((fH zs w).length:Int)*zQ zs w:=by
 unfold zH;rw[show(fun n:Nat=>qz (gO [1] (chL zs w)) (n:Int))=co (gO [1] (chL zs w)) from funext fun n=>Kr n,W6,<- Oj v];have t1:tot (gO [1] (chL zs w))=nG (chL zs w):=by
  rw[Py fun ch hc l hl=>((SQ v ch hc).2 l hl).length_le];exact xK _
 show tot (gO [1] (chL zs w))=_;rw[t1,Jy]
theorem Xp(v:Vw zs w):∀ x∈zH zs w,0<=x:=fun x hx=>by
 obtain⟨n,_,rfl⟩:=dR.mp hx;rw[Kr];exact Ur (Nn.of fun x hx=>by rw[dU.mp hx];decide) n
theorem a0d(v:Vw zs w)(h12:∀ p∈aW zs w,p.length<=12):(zH zs w).sum<2^63:=by
 rw[Ol v,<- Jy];obtain⟨_,p1⟩:=PN (a0b v h12);rw[SX v.le v.w6] at p1;have p2:2^(bA zs w).length<=2^36:=GX (by decide) (eY v);omega
theorem Xr(v:Vw zs w):qz (gO [1] (chL zs w)) (((bA zs w).length+1:Nat):Int)=0/\qz (gO [1] (chL zs w)) (-1)=0:=by
 unfold qz;rw[Oj v,aJ (by lia),aJ (by omega)];exact⟨rfl,rfl⟩
theorem yq{y:Cell}(yin:inF zs.length w y):eqD (.str ⟨#[codeAt zs (y.1.toNat,y.2.toNat)]⟩) (.str "#")=aM zs w y:=by
 show((⟨#[codeAt zs (y.1.toNat,y.2.toNat)]⟩:Str) == "#")=aM zs w y;unfold aM;rw[bG yin,pN,sZ,iM,iw];constructor
 ·intro z;have:=congrArg (fun q:Str=>q.cps.getD 0 0) z;exact this
 ·intro z;rw[z];rfl
theorem Yh{t:Cell}:((cJ zs.length w t).map fun y=>Dt.str ⟨#[codeAt zs (y.1.toNat,y.2.toNat)]⟩).any (fun e=>eqD e (.str "#"))=decide (0<(au zs w t).length):=by
 rw[List.any_map,sZ,wY,iw];unfold au;rw[List.length_pos_iff_exists_mem];constructor
 ·rintro⟨y,hy,z⟩;exact⟨y,cB.mpr ⟨hy,by rw[<- yq (lG hy)];exact z⟩⟩
 ·rintro⟨y,hy⟩;obtain⟨h1,h2⟩:=cB.mp hy;exact⟨y,h1,by show eqD _ _=true;rw[yq (lG h1)];exact h2⟩
def xX(zs:List Str)(w:Nat)(i:Nat):Bool:=((iT zs w "12345678").take i).all fun t=>decide (0<(au zs w t).length)
theorem R6(v:Vw zs w):((fH zs w).length:Int)=if xX zs w (iT zs w "12345678").length=true then 1 else 0:=by
 unfold xX;rw[iK,Rg v];show _=if DK zs w=true then(1:Int) else 0
 cases DK zs w<;>rfl
theorem U3(v:Vw zs w):(if xX zs w (iT zs w "12345678").length=true then zQ zs w else 0)=((fH zs w).length:Int)*zQ zs w:=by
 rw[R6 v];by_cases z:xX zs w (iT zs w "12345678").length=true
 ·rw[aK z,aK z,xK]
 ·rw[aJ z,aJ z,O6]
end
def Qc(K:ao):Sp:=fun vs H Q _=>∃(a:Addr)(ns:List Int),vs=[.ref a]/\SqL K H a (ns.map V.int)/\∀ H',Q (.bl true) H'
def Qh(K:ao)(C:Addr):Sp:=fun vs H Q _=>∃(x:Addr)(zs:List Str)(w:Nat),vs=[.ref x]/\dW C H x zs w /\
 ((∃ p∈aW zs w,12<p.length)->∀ q H',Same H H'->H' q=some (.lst [])->Q (.ref q) H')/\((∀ p∈aW zs w,p.length<=12)->∀ q H',Same H H'->H' q=some (.lst ((zH zs w).map V.int))->Q (.ref q) H')
theorem Ak{H:Hp}:∀ l:List Nat,iD (fun(i:Nat) v _=>v=V.int (i:Int)) H (l.map fun i:Nat=>V.int (i:Int)) l
 |[]=>.nil
 |_::l=>.cons rfl (Ak l)
theorem JK{H:Hp}{f:Nat->Int}:∀ {l:List Nat} {us:List V},iD (fun(m:Int) v _=>v=V.int m) H us (l.map f)->us=(l.map f).map V.int
 |[],us,h=>by cases h;rfl
 |n::l,us,h=>by
  rw[dJ] at h ⊢;cases h with
  |cons h1 h2=>rw[h1,JK h2];rfl
section
variable{P:Program}{w:World}{K:ao}{mg:Str->Option Value}{base:Heap}{Z:Adr}
theorem UW{f:Addr}{fd:FuncData} (F:Fun K "_law_total" "_law_total" oZ f fd) (T:Txt K mg Z) (o8:Df P w K mg base 7 "count" ["view","stones"] (Gk K Z.View Z.TooGreat)) (gj:Df P w K mg base 3 "closed" ["view"] (lV K Z.View bA)):cH P w K mg base (CXE P w) 8 f fd ["view"] (Qh K Z.View):=by
 refine F.rok CJ (fun vs H Q E h=>?_) (fun cdv A outer s H vs Q E hr h=>?_)
 ·obtain⟨x,zs,w,rfl,_⟩:=h;rfl
 ·obtain⟨x,zs,w,rfl,vt,q1,q2⟩:=h;refine⟨_,(aC (Zc rfl rfl (by rfl) rfl (dH rfl T.eG (aj (cV bQ (aQ (cQ (K:=K)) rfl T.cI bO (aj (aP gj hr rfl aR (aj (rv 0) ak)) ak)) aG) ak)) (fun _ _ _ _ _ hpass=>(aP o8 hr rfl hpass (aj (rv 1) (aj (rv 0) ak)))) (Z9 rfl T.tL T.jC (fun _=>(aC (bf (dG ak)))) a1C))),?_⟩;refine⟨_,rfl,x,zs,w,rfl,vt,fun cl H1 fr=>?_⟩;obtain⟨os,eo,Do⟩:=fr.ls;have los:os.length=(bA zs w).length:=by rw[Do.length,aN]
  have l36:=eY vt.vw;refine .inl ⟨cl,_,rfl,.inl (SqL.of eo),?_⟩;refine⟨_,rfl,by lia,by lia,?_⟩;have en:((os.length:Int)+1).toNat=(bA zs w).length+1:=by lia
  rw[en];by_cases hg:∃ p∈aW zs w,12<p.length
  ·refine vW (R:=fun(i:Nat) v _=>v=V.int (i:Int)) (R2:=fun(_:Nat) _ _=>False) (xs:=List.range ((bA zs w).length+1)) (fun _ _ _ _ _ h=>h) (fun _ _ _ _ _ h=>h) (mF _) (Ak _) (by rw[jo];exact small (by lia)) id (fun i hi u H5 s5 ru G hG=>?_) (fun us H5 s5 D5 r nr=>?_)
   ·subst ru;refine⟨_,rfl,_,rfl,x,i,zs,w,rfl,vt.mono (fr.same.trans s5),fun _ H6 s6=>⟨Z.TooGreat,rfl,.inl ⟨⟨.inl rfl,T.jC⟩,?_⟩⟩,fun z=>?_⟩
    ·exact⟨by decide,fun q nq=>q1 hg q _ ((fr.same.trans (s5.trans s6)).and nq) aD⟩
    ·obtain⟨p,hp,y⟩:=hg;have:=z p hp;lia
   ·rw[WD,dJ] at D5;cases D5 with|cons h _=>exact h.elim
  ·have h12:∀ p∈aW zs w,p.length<=12:=fun p hp=>Bh fun z=>hg ⟨p,hp,by lia⟩
   refine vW (R:=fun(i:Nat) v _=>v=V.int (i:Int)) (R2:=fun(m:Int) v _=>v=V.int m) (xs:=List.range ((bA zs w).length+1)) (fun _ _ _ _ _ h=>h) (fun _ _ _ _ _ h=>h) (mF _) (Ak _) (by rw[jo];exact small (by lia)) (fun n:Nat=>qz (gO [1] (chL zs w)) (n:Int)) (fun i hi u H5 s5 ru G hG=>?_) (fun us H5 s5 D5 r nr=>?_)
   ·subst ru;exact⟨_,rfl,_,rfl,x,i,zs,w,rfl,vt.mono (fr.same.trans s5),fun z=>absurd z hg,fun _ H6 s6=>hG _ _ s6 rfl⟩
   ·rw[JK D5];exact q2 h12 r _ (fr.same.trans (s5.and nr)) aD
theorem DW{G:Hp}{pp:Addr}{zz:List Str}{ww:Nat}{Q:Addr->Hp->Prop}{E:XK}(hp:G pp=some (.lst (zz.map V.str)))(vw:Vw zz ww)(q:∀ x G',Same G G'->dW Z.View G' x zz ww->Q x G')(x dx:Addr)(nx:G x=none)(ndx:G dx=none)(nex:dx≠x) :
  Ml K Z.View Z.BadView (.ref x::([.ref pp]++[])) (upd (upd G dx (.own x)) x (.ins Z.View dx [])) (fun v H2=>v=.non/\Q x H2) E:=by
 have n2:(upd G dx (.own x)) x=none:=by rw[bF nex.symm];exact nx
 have s6:Same G (upd (upd G dx (.own x)) x (.ins Z.View dx [])):=(Same.put ndx).and n2;have z6:=vw.le;have w6:=vw.w6;refine⟨x,dx,pp,zz,rfl,aD,SqL.of (s6 _ _ hp),by lia,fun r hr'=>by have:=vw.len r hr';lia,fun hv=>(by rw[vw.ok] at hv;cases hv),fun _ H' lr z0' zt' e nlr nlx hlr hx' keep=>⟨rfl,?_⟩⟩;have e0:z0'.length=ww:=vw.len z0' (by rw[e];exact cU);refine q x H' (fun b o hb=>keep b o (s6 _ _ hb) (bU hb nx)) ⟨⟨dx,lr,?_,hlr⟩,vw⟩;rw[<- e0];exact hx'
theorem a0N{f:Addr}{fd:FuncData} (F:Fun K "law" "law" VD f fd) (T:Txt K mg Z) (bI:Df P w K mg base 1 "_law_cell_at" ["script","k"] (Bc K)) (lB:Df P w K mg base 4 "_law_view_by" ["script","most","steps"] (JZ K)) (jM:Df P w K mg base 2 "_law_wrong_by" ["script","rows"] (Qi K))
  (Es:Md P w K mg base 3 "View" ["self","rows"] Z.View (Ml K Z.View Z.BadView)) (yN:Df P w K mg base 4 "keeps" ["view","laying"] (Qa K Z.View Z.BadLaying)) (o7:Df P w K mg base 8 "_law_total" ["view"] (Qh K Z.View)) (rA:Df P w K mg base 5 "parts" ["view"] (Gn K Z.View))
  (kW:Df P w K mg base 5 "layings" ["view","cell"] (wQ K Z.View Z.NoCell Z.TooGreat)) (CP:Df P w K mg base 4 "far" ["view"] (lV K Z.View j8)) (nZ:Df P w K mg base 1 "_law_sizes" ["rows"] (Qg K)) (nW:Df P w K mg base 1 "_law_cells" ["rows","signs"] (Q8 K))
  (eV:Df P w K mg base 1 "_law_near" ["height","width","cell"] (Gm K)) (o8:Df P w K mg base 7 "count" ["view","stones"] (Gk K Z.View Z.TooGreat)) (gj:Df P w K mg base 3 "closed" ["view"] (lV K Z.View bA)) :
  cH P w K mg base (CXE P w) 9 f fd ["script"] (Qc K):=by
 refine F.rok gZ (fun vs H Q E h=>?_) (fun cdv A outer s H vs Q E hr h=>?_)
 ·obtain⟨a,ns,rfl,_⟩:=h;rfl
 ·obtain⟨a,ns,rfl,hS,hq⟩:=h;have hu:=oN hr;have hu':=Cv hr;refine⟨_,(aB (Ao (aP lB hr rfl aR (aj (rv 0) (aj (dz (dw (K:=K)) (dG (aj aG (aj aG (aj aG ak)))) (cV qD (aP bI hr rfl aR (aj (rv 0) (aj aG ak))) aG)) (aj aG ak)))) (Al rfl (gW (bC (i:=1) gZ.nd rfl (Or.inr rfl)) (gW (bC (i:=2) gZ.nd rfl (Or.inl rfl)) uU)))) (aB (gM (c7 Ys (aP yN hr rfl aR (aj (Vm Es hr rfl aR (aj (rv 1) ak)) (aj (rv 2) ak))) uR (dh _)) (aC (bf uR)) cG) (aB (bx (i:=1) gZ.nd rfl (Or.inr rfl) (aP jM hr rfl aR (aj (rv 0) (aj (rv 1) ak)))) (aB (bx (i:=3) gZ.nd rfl (Or.inr rfl) (Vm Es hr rfl aR (aj (rv 1) ak))) (aB (bx (i:=4) gZ.nd rfl (Or.inl rfl) (aP o7 hr rfl aR (aj (rv 3) ak))) (aB (gM (c7 (yh.or (xY (K:=K) hu)) (aQ (cQ (K:=K)) rfl T.cI bO (aj (rv 4) ak)) aG (dh _)) (aC (bf uR)) cG) (aB (bx (i:=5) gZ.nd rfl (Or.inl rfl) aG) (aB (cC eE rfl (bB (K:=K) (aP rA hr rfl aR (aj (rv 3) ak))) (bC (i:=6) gZ.nd rfl (Or.inl rfl)) (aC (bx (i:=5) gZ.nd rfl (Or.inl rfl) (cV jE (rv 5) (aQ (cQ (K:=K)) rfl T.cI bO (aj (aP kW hr rfl aR (aj (rv 3) (aj (dz (dw (K:=K)) (rv 6) aG) ak))) ak)))))) (aB (cC eE rfl (bB (K:=K) (aP CP hr rfl aR (aj (rv 3) ak))) (bC (i:=7) gZ.nd rfl (Or.inl rfl)) (aC (bx (i:=5) gZ.nd rfl (Or.inl rfl) (cV jE (rv 5) aG)))) (aB (Ao (aP nZ hr rfl aR (aj (rv 1) ak)) (Al rfl (gW (bC (i:=8) gZ.nd rfl (Or.inl rfl)) (gW (bC (i:=9) gZ.nd rfl (Or.inl rfl)) uU)))) (aB (cC eE rfl (bB (K:=K) (aP nW hr rfl aR (aj (rv 1) (aj sI ak)))) (Al rfl (gW (bC (i:=10) gZ.nd rfl (Or.inl rfl)) (gW (bC (i:=11) gZ.nd rfl (Or.inl rfl)) uU))) (aC (gM (c7 (iB.or (nC (K:=K) hu')) sI (LQ (K:=K) (x:="x") (z:="y") (by rfl) rfl (bB (K:=K) (aP eV hr rfl aR (aj (rv 8) (aj (rv 9) (aj (fV (aj (rv 10) (aj (rv 11) ak))) ak))))) (fun _ _ _=>uV) (fun _ _ _=>(dz (dw (K:=K)) (dz (dw (K:=K)) (rv 3) (rv 0)) (rv 1)))) (by rfl)) (aC (bx (i:=5) gZ.nd rfl (Or.inl rfl) aG)) cG))) (aB (gM (RV (Vo (c7 (Eb.or (DP (K:=K) hu)) (aQ (a2u (K:=K) rfl) rfl T.Zr a08 (aj (rv 4) ak)) (rv 5) (dh _)) (Vo (c7 (Eb.or (DP (K:=K) hu)) (aP o8 hr rfl aR (aj (rv 3) (aj (aQ (cQ (K:=K)) rfl T.cI bO (aj (rv 4) ak)) ak))) aG (dh _)) (Vp (c7 (Eb.or (DP (K:=K) hu)) (aP o8 hr rfl aR (aj (rv 3) (aj (M4 ud aG) ak))) aG (dh _)))))) (aC (bf uR)) cG) (aB (z8 (i:=12) gZ.nd rfl rfl (by rfl) rfl (bB (K:=K) (rv 2)) (fun _ _ _=>(gb (c7 (jy.or (zY (K:=K) hu')) (rv 0) (aP gj hr rfl aR (aj (rv 4) ak)) (by rfl)))) (fun _ _ _=>(rv 0))) (aC (bf (a3X (Ag a0Y (aP yN hr rfl aR (aj (rv 3) (aj (rv 12) ak))) uR (dh _)) (Ei (Ag Ea (dz (dw (K:=K)) (rv 4) (aQ (cQ (K:=K)) rfl T.cI bO (aj (rv 12) ak))) aG (dh _))))))))))))))))))),?_⟩;refine aF (fun zzs H1=>∃(p q:Addr)(h w:Nat)(st kn:List Cell),Same H H1/\H1 p=some (.lst ((gF h w st kn).map V.str))/\Ls K H1 q (st.map aA)/\1<=h/\h<=6/\1<=w/\w<=6/\st.Sublist (bH h w)/\(∀ x∈kn,inF h w x/\x∉st)/\zzs=[zzR a,zzR p,zzR q,zzN,zzN,zzN,zzN,zzN,zzN,zzN,zzN,zzN,zzN]) (fun R hR=>?_) ?_
  ·refine⟨_,rfl,sz rfl,fun l hl=>?_⟩;have t1:=Same.put (o:=.lst [V.int 4,V.int 4,V.int 6]) hl;refine⟨_,rfl,a,ns,20,rfl,by decide,t1.seq hS,fun r0=>⟨_,_,rfl,rfl,(by show(0:Int)<3;decide),?_⟩⟩;obtain⟨v,hv,e⟩:=Kd (xs:=([4,4,6]:List Int).map V.int) (i:=r0%3) (Bx _ (by decide)) (by simpa using Br r0 (by decide:(0:Int)<3));obtain⟨n,hn,rfl⟩:=dR.mp hv;have n6:1<=n/\n<=6:=(by decide:∀ x∈([4,4,6]:List Int),1<=x/\x<=6) n hn;refine .inl ⟨l,_,_,_,rfl,rfl,SqL.of aD,e,?_⟩;refine⟨a,ns,n,4,rfl,t1.seq hS,n6.1,n6.2,by decide,by decide,fun t r p H1 h w st kn s1 nr np ht hr' hls h1 h6 w1 w6 sub nd kk=>?_⟩;exact⟨t,_,rfl,ht,rfl,_,_,rfl,_,_,rfl,rfl,hR _ _ ⟨r,p,h,w,st,kn,t1.trans s1,hr',hls,h1,by lia,w1,by lia,sub,kk,rfl⟩⟩
  rintro zzs H1 ⟨p,q,h,w,st,kn,s1,hp,lq,h1,h6,w1,w6,sub,kk,rfl⟩;obtain⟨el,asc,scl,skp⟩:=JR h6 w6 sub kk;have vw0:Vw (gF h w st kn) w:=VG h1 h6 w1 w6;have a4p:st.length<=36:=by
   have:=sub.length_le;rw[eU] at this;have h36:h*w<=6*6:=jZ h6 w6;lia
  refine aF (fun zzs H2=>Same H1 H2/\zzs=[zzR a,zzR p,zzR q,zzN,zzN,zzN,zzN,zzN,zzN,zzN,zzN,zzN,zzN]) (fun R hR=>?_) ?_
  ·refine⟨_,rfl,?_⟩;dsimp only[vm];refine DW hp vw0 fun x H2 s2 vt=>?_
   refine⟨_,rfl,x,q,_,w,st,rfl,vt,lq.mono s2,by lia,fun _ H3 s3=>?_,fun z=>(by rw[lay_of asc scl] at z;cases z)⟩;rw[skp];exact⟨_,_,rfl,rfl,_,rfl,wu (hR _ _ ⟨s2.trans s3,rfl⟩)⟩
  rintro zzs H2 ⟨s2,rfl⟩;refine aF (fun zzs H3=>∃(p':Addr)(zs:List Str),Same H2 H3/\H3 p'=some (.lst (zs.map V.str))/\Vw zs w/\zzs=[zzR a,zzR p',zzR q,zzN,zzN,zzN,zzN,zzN,zzN,zzN,zzN,zzN,zzN]) (fun R hR=>?_) ?_
  ·exact⟨_,rfl,_,rfl,a,p,ns,_,w,rfl,(s1.trans s2).seq hS,s2 _ _ hp,vw0,fun p' zs H3 s3 e3 vw _=>hR _ _ ⟨p',zs,s3,e3,vw,rfl⟩⟩
  rintro zzs H3 ⟨p',zs,s3,e3,vw,rfl⟩;have lq3:=lq.mono (s2.trans s3);clear hp vw0 scl skp;refine aF (fun zzs H4=>∃ x:Addr,Same H3 H4/\dW Z.View H4 x zs w/\zzs=[zzR a,zzR p',zzR q,zzR x,zzN,zzN,zzN,zzN,zzN,zzN,zzN,zzN,zzN]) (fun R hR=>?_) ?_
  ·refine⟨_,rfl,?_⟩;dsimp only[vm];exact DW e3 vw fun x H4 s4 vt=>hR _ _ ⟨x,s4,vt,rfl⟩
  rintro zzs H4 ⟨x,s4,vt,rfl⟩;have e4:=s4 _ _ e3;have lq4:=lq3.mono s4;refine aF (fun zzs H5=>∃ sm:Addr,Same H4 H5/\(H5 sm=some (.lst [])\/(H5 sm=some (.lst ((zH zs w).map V.int))/\∀ p∈aW zs w,p.length<=12))/\zzs=[zzR a,zzR p',zzR q,zzR x,zzR sm,zzN,zzN,zzN,zzN,zzN,zzN,zzN,zzN]) (fun R hR=>?_) ?_
  ·exact⟨_,rfl,x,zs,w,rfl,vt,fun _ sm H5 s5 es=>hR _ _ ⟨sm,s5,.inl es,rfl⟩,fun h12 sm H5 s5 es=>hR _ _ ⟨sm,s5,.inr ⟨es,h12⟩,rfl⟩⟩
  rintro zzs H5 ⟨sm,s5,hes,rfl⟩;have lcs:(zH zs w).length=(bA zs w).length+1:=by unfold zH;rw[aN,jo]
  have l36:=eY vw;refine aF (fun zzs H6=>H5=H6/\H5 sm=some (.lst ((zH zs w).map V.int))/\(∀ p∈aW zs w,p.length<=12)/\zzs=[zzR a,zzR p',zzR q,zzR x,zzR sm,zzN,zzN,zzN,zzN,zzN,zzN,zzN,zzN]) (fun R hR=>?_) ?_
  ·rcases hes with es|⟨es,h12⟩
   ·exact⟨_,rfl,.inl ⟨sm,_,rfl,.inl (SqL.of es),.inl ⟨rfl,_,rfl,Cy (hq _)⟩⟩⟩
   ·refine⟨_,rfl,.inl ⟨sm,_,rfl,.inl (SqL.of es),.inl ⟨rfl,_,rfl,?_⟩⟩⟩;rw[xT,bV (by rw[aN,lcs];lia)];exact wu (hR _ _ ⟨rfl,es,h12,rfl⟩)
  rintro zzs H6 ⟨rfl,es,h12,rfl⟩;clear hes;have vt5:=vt.mono s5;have e5:=s5 _ _ e4;have lq5:=lq4.mono s5;obtain⟨pok,_⟩:=jz (zs:=zs) (w:=w) vw.le vw.w6;refine aF (fun zzs H6=>H5=H6/\zzs=[zzR a,zzR p',zzR q,zzR x,zzR sm,zzI 1,zzN,zzN,zzN,zzN,zzN,zzN,zzN]) (fun R hR=>?_) ?_
  ·exact hR _ _ ⟨rfl,rfl⟩
  rintro zzs H6 ⟨rfl,rfl⟩;refine aF (fun zzs H6=>∃ v6:Option V,Same H5 H6/\zzs=[zzR a,zzR p',zzR q,zzR x,zzR sm,zzI ((aW zs w).foldl (fun a p=>a*((fQ zs w p).length:Int)) 1),v6,zzN,zzN,zzN,zzN,zzN,zzN]) (fun R hR=>?_) ?_
  ·refine⟨_,rfl,x,zs,w,rfl,vt5,fun pl qs H6 npl s6 ps=>⟨pl,rfl,⟨_,SqL.of ps.at_⟩,?_⟩⟩;refine d9 (K:=K) (xs:=qs.map V.ref) (fun i zzs H7=>∃ v6:Option V,Same H6 H7/\zzs=[zzR a,zzR p',zzR q,zzR x,zzR sm,zzI (((aW zs w).take i).foldl (fun a p=>a*((fQ zs w p).length:Int)) 1),v6,zzN,zzN,zzN,zzN,zzN,zzN])
    ⟨none,Same.refl _,rfl⟩ (fun i zzs H7 _ hh=>by obtain⟨_,g,_⟩:=hh;exact SqL.of (g _ _ ps.at_)) (fun i u zzs H7 hi hh=>?_) (fun zzs H7 hh=>?_)
   ·obtain⟨v6,g7,rfl⟩:=hh;have ps7:=ps.mono g7;rw[cM] at hi;obtain⟨b,eb,rfl⟩:=j9.mp hi;have iq:i<qs.length:=(iI.mp eb).1;have ip:i<(aW zs w).length:=by rw[<- ps.len];exact iq
    have ep:(aW zs w)[i]?=some (aW zs w)[i]:=gP ip;generalize (aW zs w)[i]=pt at ep;have la:=ps7.ls i b pt eb ep;have pm:pt∈aW zs w:=eO ep;obtain⟨y,hy,ey⟩:=pok.of pt pm;have pp:Part zs w pt:=by rw[ey];exact Part.join vw.le vw.w6 hy
    obtain⟨c0,pt',rfl⟩:∃ c0 pt',pt=c0::pt':=by
     cases pt with
     |nil=>exact absurd rfl pp.ne
     |cons c0 pt'=>exact⟨c0,pt',rfl⟩
    have c0m:c0∈cu zs w y:=by rw[<- ey];exact cU
    have ej:cu zs w c0=c0::pt':=by rw[oO vw.le vw.w6 hy c0m,<- ey]
    have c0e:c0∈bT zs w:=jc.edge hy ((dF (je hy)).mp c0m);obtain⟨xs,ex,Dx⟩:=id la;obtain⟨u0,xs',rfl⟩:∃ u0 xs',xs=u0::xs':=by cases Dx;exact⟨_,_,rfl⟩
    have d0:Den K H7 u0 (aA c0):=by cases Dx with|cons h _=>exact h
    have l12:=h12 _ pm;have tk:(aW zs w).take (i+1)=(aW zs w).take i++[c0::pt']:=by rw[iC,ep];rfl
    refine⟨_,rfl,_,rfl,_,rfl,.inl ⟨b,_,_,_,rfl,rfl,SqL.of ex,gQ,?_⟩⟩;refine⟨x,u0,zs,w,c0,rfl,vt5.mono (s6.trans g7),d0,fun hc=>absurd c0e hc,fun _ hl=>(by rw[ej] at hl;lia),fun _ hl ql qls H8 nql s8 psl=>?_⟩;rw[ej] at psl;have ll:qls.length<=4096:=by
     rw[psl.len,iV.length_eq];refine cO (nD _ _ _) ?_;exact GX (by decide) l12
    refine .inl ⟨ql,_,rfl,.inl (SqL.of psl.at_),?_⟩;rw[aN];refine⟨.inr ⟨by lia,by lia⟩,some (.ref b),g7.trans s8,?_⟩;rw[tk,Hw,psl.len];rfl
   ·obtain⟨v6,g7,rfl⟩:=hh;rw[aN,ps.len,iK];exact hR _ _ ⟨v6,s6.trans g7,rfl⟩
  rintro zzs H6 ⟨v6,s6,rfl⟩;refine aF (fun zzs H7=>∃ v7:Option V,Same H6 H7/\zzs=[zzR a,zzR p',zzR q,zzR x,zzR sm,zzI (zQ zs w),v6,v7,zzN,zzN,zzN,zzN,zzN]) (fun R hR=>?_) ?_
  ·refine⟨_,rfl,x,zs,w,rfl,vt5.mono s6,fun fl H7 ff=>?_⟩;obtain⟨fs,ef,Dff⟩:=ff.ls;have lfs:fs.length=(j8 zs w).length:=by rw[Dff.length,aN]
   refine⟨fl,rfl,⟨_,SqL.of ef⟩,?_⟩;refine d9 (K:=K) (xs:=fs) (fun i zzs H8=>∃ v7:Option V,Same H7 H8/\zzs=[zzR a,zzR p',zzR q,zzR x,zzR sm,zzI (((j8 zs w).take i).foldl (fun a _=>a*2) ((aW zs w).foldl (fun a p=>a*((fQ zs w p).length:Int)) 1)),v6,v7,zzN,zzN,zzN,zzN,zzN])
    ⟨none,Same.refl _,rfl⟩ (fun i zzs H8 _ hh=>by obtain⟨_,g,_⟩:=hh;exact SqL.of (g _ _ ef)) (fun i u zzs H8 hi hh=>?_) (fun zzs H8 hh=>?_)
   ·obtain⟨v7,g8,rfl⟩:=hh;have ip:i<(j8 zs w).length:=by rw[<- lfs];exact(iI.mp hi).1
    have tk:(j8 zs w).take (i+1)=(j8 zs w).take i++[(j8 zs w)[i]]:=by rw[iC,gP ip];rfl
    refine⟨_,rfl,.inr ⟨by decide,by decide⟩,some u,g8,?_⟩;rw[tk,Hw];rfl
   ·obtain⟨v7,g8,rfl⟩:=hh;rw[lfs,iK];exact hR _ _ ⟨v7,ff.same.trans g8,rfl⟩
  rintro zzs H7 ⟨v7,s7,rfl⟩;have sA:=s6.trans s7;refine aF (fun zzs H8=>Same H7 H8/\zzs=[zzR a,zzR p',zzR q,zzR x,zzR sm,zzI (zQ zs w),v6,v7,zzI zs.length,zzI w,zzN,zzN,zzN]) (fun R hR=>?_) ?_
  ·exact⟨_,rfl,p',zs,w,rfl,SqL.of (sA _ _ e5),vw.toRect,fun t H8 s8 hT=>⟨t,_,rfl,hT,rfl,_,_,rfl,_,_,rfl,rfl,hR _ _ ⟨s8,rfl⟩⟩⟩
  rintro zzs H8 ⟨s8,rfl⟩;have e8:=(sA.trans s8) _ _ e5;refine aF (fun zzs H9=>∃ v10 v11:Option V,Same H8 H9/\zzs=[zzR a,zzR p',zzR q,zzR x,zzR sm,zzI (((fH zs w).length:Int)*zQ zs w),v6,v7,zzI zs.length,zzI w,v10,v11,zzN]) (fun R hR=>?_) ?_
  ·refine⟨_,rfl,p',zs,w,"12345678",rfl,SqL.of e8,vw.toRect,fun ol H9 fr=>?_⟩;obtain⟨os,eo,Do⟩:=fr.ls;have los:os.length=(iT zs w "12345678").length:=by rw[Do.length,aN]
   refine⟨ol,rfl,⟨_,SqL.of eo⟩,?_⟩;refine d9 (K:=K) (xs:=os) (fun i zzs H10=>∃ v10 v11:Option V,Same H9 H10/\zzs=[zzR a,zzR p',zzR q,zzR x,zzR sm,zzI (if xX zs w i=true then zQ zs w else 0),v6,v7,zzI zs.length,zzI w,v10,v11,zzN])
    ⟨none,none,Same.refl _,rfl⟩ (fun i zzs H10 _ hh=>by obtain⟨_,_,g,_⟩:=hh;exact SqL.of (g _ _ eo)) (fun i u zzs H10 hi hh=>?_) (fun zzs H10 hh=>?_)
   ·obtain⟨v10,v11,g10,rfl⟩:=hh;obtain⟨dt,edt,du⟩:=Do.get hi;rw[cM] at edt;obtain⟨t,et,rfl⟩:=j9.mp edt;have tk:xX zs w (i+1)=(xX zs w i&&decide (0<(au zs w t).length)):=by
     unfold xX;rw[iC,et,List.all_append];simp
    refine M5 (du.mono g10) ?_;refine⟨_,rfl,_,rfl,_,rfl,_,rfl,sz rfl,fun tt ntt=>?_⟩;have t1:=Same.put (o:=.tup [V.int t.1,V.int t.2]) ntt;refine⟨zs.length,w,.ref tt,t,rfl,gk,fun nl H11 f11=>?_⟩;obtain⟨us,eu,Du⟩:=f11.ls;have lus:us.length=(cJ zs.length w t).length:=by rw[Du.length,aN]
    have l8:=gA zs.length w t;have a2n:∀ {G:Hp},Same H11 G->SqL K G p' (zs.map V.str):=fun g=>SqL.of ((fr.same.trans (g10.trans (t1.trans (f11.same.trans g)))) _ _ e8)
    refine⟨nl,rfl,⟨_,SqL.of eu⟩,Kw (K:=K) (xs:=us) (fun j ys H12=>Same H11 H12/\ys=((cJ zs.length w t).take j).map fun y=>V.str ⟨#[codeAt zs (y.1.toNat,y.2.toNat)]⟩) (small (by lia)) (fun j ys H12 _ r=>SqL.of (r.1 _ _ eu)) (fun j ys H12 _ r=>by rw[r.2,aN,jX];lia) ⟨Same.refl _,rfl⟩ (fun j u' ys H12 p1 q1 hj r G hG=>?_) (fun ys H12 r=>?_)⟩
    ·obtain⟨s12,rfl⟩:=r;obtain⟨dy,edy,dyu⟩:=Du.get hj;rw[cM] at edy;obtain⟨y,ey,rfl⟩:=j9.mp edy;have yin:=lG (eO ey);refine M5 (dyu.mono s12) ⟨_,_,rfl,?_⟩;refine a4a ⟨_,rfl,_,rfl,Z7 (a2n s12) yin ⟨_,rfl,Vq (a2n s12) vw.toRect yin ?_⟩⟩;refine hG _ _ ⟨s12,?_⟩;rw[iC,ey,dZ];rfl
    ·obtain⟨s12,rfl⟩:=r;intro pl npl;rw[lus,iK];have sB:=t1.trans (f11.same.trans (s12.and (o:=.lst ((cJ zs.length w t).map fun y=>V.str ⟨#[codeAt zs (y.1.toNat,y.2.toNat)]⟩)) npl));refine .inr ⟨.str "#",(cJ zs.length w t).map fun y=>Dt.str ⟨#[codeAt zs (y.1.toNat,y.2.toNat)]⟩,pl,rfl,.str "#",.inl (.lst (SqL.of aD) ?_),fun e he=>?_,_,rfl,?_⟩
     ·have:∀ l:List Cell,aY K (upd H12 pl (.lst ((cJ zs.length w t).map fun y=>V.str ⟨#[codeAt zs (y.1.toNat,y.2.toNat)]⟩))) (l.map fun y=>V.str ⟨#[codeAt zs (y.1.toNat,y.2.toNat)]⟩) (l.map fun y=>Dt.str ⟨#[codeAt zs (y.1.toNat,y.2.toNat)]⟩):=fun l=>by
       induction l with
       |nil=>exact .nil
       |cons y l ih=>exact .cons (.str _) ih
      exact this _
     ·obtain⟨y,_,rfl⟩:=dR.mp he;exact⟨rfl,by show 0<=50;decide⟩
     ·rw[Yh];refine gU (fun z=>?_) (fun z=>?_)
      ·have z':decide (0<(au zs w t).length)=false:=by simpa using z
       refine⟨some (.int t.1),some (.int t.2),g10.trans sB,?_⟩;rw[tk,z',BJ];rfl
      ·have z':decide (0<(au zs w t).length)=true:=by simpa using z
       refine⟨some (.int t.1),some (.int t.2),g10.trans sB,?_⟩;rw[tk,z',O2];rfl
   ·obtain⟨v10,v11,g10,rfl⟩:=hh;rw[los,U3 vw];exact hR _ _ ⟨v10,v11,fr.same.trans g10,rfl⟩
  rintro zzs H9 ⟨v10,v11,s9,rfl⟩;have sC:=sA.trans (s8.trans s9);have es9:=sC _ _ es;have vt9:=vt5.mono sC;have big:(∃ p∈aW zs w,12<p.length)->False:=fun⟨r,hr',y⟩=>by have:=h12 r hr';lia
  obtain⟨o1,o2⟩:=Xr vw;refine aF (fun zzs H10=>Same H9 H10/\zzs=[zzR a,zzR p',zzR q,zzR x,zzR sm,zzI (((fH zs w).length:Int)*zQ zs w),v6,v7,zzI zs.length,zzI w,v10,v11,zzN]) (fun R hR=>?_) ?_
  ·refine⟨_,rfl,sm,_,rfl,SqL.of es9,Xp vw,a0d vw h12,_,rfl,.inl ⟨rfl,_,rfl,?_⟩⟩;rw[xT,bG (Ol vw)];refine wu ⟨_,rfl,_,rfl,.inl ⟨sm,_,rfl,.inl (SqL.of es9),x,_,zs,w,rfl,vt9,fun z=>(big z).elim,fun _ H10 s10=>?_⟩⟩;rw[aN,lcs,o1];refine .inl ⟨rfl,_,rfl,wu ?_⟩;refine⟨_,rfl,_,rfl,x,_,zs,w,rfl,vt9.mono s10,fun z=>(big z).elim,fun _ H11 s11=>?_⟩;rw[o2];exact .inl ⟨rfl,_,rfl,wu (hR _ _ ⟨s10.trans s11,rfl⟩)⟩
  rintro zzs H10 ⟨s10,rfl⟩;have sD:=sC.trans s10;have a3o:=vt5.mono sD;have a3G:=lq5.mono sD;refine aF (fun zzs H11=>∃(ow:Addr),Same H10 H11/\Ls K H11 ow ((st.filter fun y=>decide (y∈bA zs w)).map aA)/\zzs=[zzR a,zzR p',zzR q,zzR x,zzR sm,zzI (((fH zs w).length:Int)*zQ zs w),v6,v7,zzI zs.length,zzI w,v10,v11,zzR ow]) (fun R hR=>?_) ?_
  ·obtain⟨xs,ex,Dx⟩:=id a3G;refine⟨_,rfl,q,rfl,⟨_,SqL.of ex⟩,eF (K:=K) (xs:=st) (enc:=aA) (bZ (SqL.of ex)) Dx (small (by lia)) (fun y=>decide (y∈bA zs w)) aA (fun y hy u H11 s11 d G hG=>?_) (fun y hy _ u H11 s11 d G hG=>⟨_,rfl,hG _ _ (Same.refl _) d⟩) (fun us H11 s11 D11 ow now=>?_)⟩
   ·exact⟨_,rfl,_,rfl,x,zs,w,rfl,a3o.mono s11,fun ql H12 f12=>.inr (JH (d.mono f12.same) f12.ls.den ⟨_,rfl,hG _ f12.same⟩)⟩
   ·exact hR _ _ ⟨ow,s11.and now,.new now D11,rfl⟩
  rintro zzs H11 ⟨ow,s11,low,rfl⟩;have a0L:(st.filter fun y=>decide (y∈bA zs w)).Pairwise aV:=asc.filter _;have ocl:∀ c∈st.filter (fun y=>decide (y∈bA zs w)),aM zs w c=true:=fun c hc=>yd.mp (dN (cB.mp hc).2)
  have ole:(st.filter fun y=>decide (y∈bA zs w)).length<=(bA zs w).length:=by
   rw[kY asc (xP vw.le vw.w6)];exact iJ _ _
  have one:=own_one vw a0L ocl;generalize (st.filter fun y=>decide (y∈bA zs w))=O at low a0L ocl ole one;refine⟨_,rfl,_,rfl,x,ow,zs,w,O,rfl,a3o.mono s11,low,by lia,fun _ H12 s12=>?_,fun z=>(by rw[lay_of a0L ocl] at z;cases z)⟩;cases hk:gV zs w O with
  |false=>exact⟨_,_,rfl,rfl,_,rfl,Cy (hq _)⟩
  |true=>
   obtain⟨xs,ex,Dx⟩:=id low;have lx:xs.length=O.length:=by rw[Dx.length,aN]
   refine⟨_,_,rfl,rfl,_,rfl,wu ?_⟩;have eat:((zH zs w).map V.int)[O.length]?=some (V.int (qz (gO [1] (chL zs w)) (O.length:Nat))):=by
    unfold zH;rw[cM,cM,Nk (by lia)];rfl
   refine⟨_,rfl,_,rfl,.inl ⟨ow,_,rfl,.inl (SqL.of (s12 _ _ ex)),.inl ⟨sm,_,_,_,rfl,rfl,SqL.of ((s10.trans (s11.trans s12)) _ _ es9),dB (by rw[lx];exact eat),_,_,rfl,rfl,?_⟩⟩⟩;show Q (.bl (decide (0<qz (gO [1] (chL zs w)) (O.length:Nat)))) _;rw[bG (by have:=one hk;lia)];exact hq _
end
def pR(x q:Str)(st:Stmt)(ps:List Str):Prop:=∀(kV doc pm:Value)(an:Option Addr)(cdv ct:Value)(us:List Value),us.length=ps.length->bindArgs (PySem.W.fnOf x q (iQ st) (fJ st) (aH st) .none kV doc pm an cdv ct) ⟨us,[]⟩=pure (ps.zip us)
theorem tV{us:List Value}{n:Nat}(h:us.length=n+1):∃ u us',us=u::us'/\us'.length=n:=by
 cases us with
 |nil=>cases h
 |cons u t=>exact⟨u,t,rfl,Nat.succ.inj h⟩
theorem bind1{x q:Str}{st:Stmt}{p0:Str}(h:∀(kV doc pm:Value) (an:Option Addr) (cdv ct u0:Value),bindArgs (PySem.W.fnOf x q (iQ st) (fJ st) (aH st) .none kV doc pm an cdv ct) ⟨[u0],[]⟩=pure [(p0,u0)]):pR x q st [p0]:=fun kV doc pm an cdv ct us hl=>by
 obtain⟨u0,t0,rfl,g0⟩:=tV (n:=0) hl;cases t0 with
 |nil=>exact h kV doc pm an cdv ct u0
 |cons _ _=>cases g0
theorem gR{x q:Str}{st:Stmt}{p0 p1:Str}(h:∀(kV doc pm:Value) (an:Option Addr) (cdv ct u0 u1:Value),bindArgs (PySem.W.fnOf x q (iQ st) (fJ st) (aH st) .none kV doc pm an cdv ct) ⟨[u0,u1],[]⟩=pure [(p0,u0),(p1,u1)]):pR x q st [p0,p1]:=fun kV doc pm an cdv ct us hl=>by
 obtain⟨u0,t0,rfl,g0⟩:=tV (n:=1) hl;obtain⟨u1,t1,rfl,g1⟩:=tV (n:=0) g0;cases t1 with
 |nil=>exact h kV doc pm an cdv ct u0 u1
 |cons _ _=>cases g1
theorem Oh{x q:Str}{st:Stmt}{p0 p1 p2:Str}(h:∀(kV doc pm:Value) (an:Option Addr) (cdv ct u0 u1 u2:Value),bindArgs (PySem.W.fnOf x q (iQ st) (fJ st) (aH st) .none kV doc pm an cdv ct) ⟨[u0,u1,u2],[]⟩=pure [(p0,u0),(p1,u1),(p2,u2)]):pR x q st [p0,p1,p2]:=fun kV doc pm an cdv ct us hl=>by
 obtain⟨u0,t0,rfl,g0⟩:=tV (n:=2) hl;obtain⟨u1,t1,rfl,g1⟩:=tV (n:=1) g0;obtain⟨u2,t2,rfl,g2⟩:=tV (n:=0) g1;cases t2 with
 |nil=>exact h kV doc pm an cdv ct u0 u1 u2
 |cons _ _=>cases g2
theorem Zt{x q:Str}{st:Stmt}{p0 p1 p2 p3:Str}(h:∀(kV doc pm:Value) (an:Option Addr) (cdv ct u0 u1 u2 u3:Value),bindArgs (PySem.W.fnOf x q (iQ st) (fJ st) (aH st) .none kV doc pm an cdv ct) ⟨[u0,u1,u2,u3],[]⟩=pure [(p0,u0),(p1,u1),(p2,u2),(p3,u3)]):pR x q st [p0,p1,p2,p3]:=fun kV doc pm an cdv ct us hl=>by
 obtain⟨u0,t0,rfl,g0⟩:=tV (n:=3) hl;obtain⟨u1,t1,rfl,g1⟩:=tV (n:=2) g0;obtain⟨u2,t2,rfl,g2⟩:=tV (n:=1) g1;obtain⟨u3,t3,rfl,g3⟩:=tV (n:=0) g2;cases t3 with
 |nil=>exact h kV doc pm an cdv ct u0 u1 u2 u3
 |cons _ _=>cases g3
theorem a1Z{x q:Str}{st:Stmt}{p0 p1 p2 p3 p4:Str}(h:∀(kV doc pm:Value) (an:Option Addr) (cdv ct u0 u1 u2 u3 u4:Value),bindArgs (PySem.W.fnOf x q (iQ st) (fJ st) (aH st) .none kV doc pm an cdv ct) ⟨[u0,u1,u2,u3,u4],[]⟩=pure [(p0,u0),(p1,u1),(p2,u2),(p3,u3),(p4,u4)]):pR x q st [p0,p1,p2,p3,p4]:=fun kV doc pm an cdv ct us hl=>by
 obtain⟨u0,t0,rfl,g0⟩:=tV (n:=4) hl;obtain⟨u1,t1,rfl,g1⟩:=tV (n:=3) g0;obtain⟨u2,t2,rfl,g2⟩:=tV (n:=2) g1;obtain⟨u3,t3,rfl,g3⟩:=tV (n:=1) g2;obtain⟨u4,t4,rfl,g4⟩:=tV (n:=0) g3;cases t4 with
 |nil=>exact h kV doc pm an cdv ct u0 u1 u2 u3 u4
 |cons _ _=>cases g4
section
variable{P:Program}{w:World}{K:ao}{mg:Str->Option Value}{base h:Heap}
def cg(K:ao)(x:Str)(st:Stmt):Prop:=∃ f,PySem.W.nsIn K mainGlobals x=some (some (.ref f))/\∃ fd,Fun K x x st f fd
def K9(K:ao)(C:Addr)(m q:Str)(st:Stmt):Prop:=∃ f,(PySem.W.findIn K (.ref C) m=some (some (.ref f))/\PySem.W.isFn K (.ref f)=true)/\∃ fd,Fun K m q st f fd
section
variable{x q:Str}{st:Stmt}{f C:Addr}{oc:Value}{od an:Option Addr}{osl:Array (Option Value)}{kV doc pm cdv ct:Value}
theorem a2e(a:PySem.W.nsIn K mainGlobals x=some (some (.ref f)))(l:K.lookup f=some ⟨oc,od,.func (PySem.W.fnOf x x (iQ st) (fJ st) (aH st) .none kV doc pm an cdv ct),osl⟩)(c:PySem.W.codeIn K cdv x=true)(k:PySem.W.keepIn K (.ref f)=true):cg K x st:=⟨f,a,_,TF l c k⟩
theorem a0F(a:PySem.W.findIn K (.ref C) x=some (some (.ref f)))(i:PySem.W.isFn K (.ref f)=true)(l:K.lookup f=some ⟨oc,od,.func (PySem.W.fnOf x q (iQ st) (fJ st) (aH st) .none kV doc pm an cdv ct),osl⟩)(c:PySem.W.codeIn K cdv q=true)(k:PySem.W.keepIn K (.ref f)=true):K9 K C x q st:=⟨f,⟨a,i⟩,_,TF l c k⟩
end
theorem a3n{x:Str}{v:Int}{t:Tok}(h:PySem.W.nsIn K mainGlobals x=some (some (.int v t))):∃ t,PySem.W.nsIn K mainGlobals x=some (some (.int v t)):=⟨t,h⟩
theorem a3Z{x v:Str}{t:Tok}(h:PySem.W.nsIn K mainGlobals x=some (some (.str v t))):∃ t,PySem.W.nsIn K mainGlobals x=some (some (.str v t)):=⟨t,h⟩
theorem a2f(X:K.In h)(G:h.Ns mainGlobals mg){x:Str}{st:Stmt}{k:Nat}{ps:List Str}{sp:Sp}(d:cg K x st)(hb:pR x x st ps)(ok:∀ f fd,Fun K x x st f fd->cH P w K mg base (CXE P w) k f fd ps sp):Df P w K mg base k x ps sp:=by
 obtain⟨f,a,fd,F⟩:=d;exact⟨⟨f,fd,ok f fd F,mK X G a,F.kp,F.binds hb⟩⟩
theorem a0B(X:K.In h)(G:h.Ns mainGlobals mg){fa:Addr}{st:Stmt}{k:Nat}{sp:Sp} (hfa:mg "law" = some (.ref fa)) (d:cg K "law" st) (hb:pR "law" "law" st ["script"]) (ok:∀ base f fd,Fun K "law" "law" st f fd->cH P w K mg base (CXE P w) k f fd ["script"] sp) :
  ∃ fd:FuncData,(∀(s:Shared)(v:Value),BindsTo s fd ⟨[v],[]⟩ [("script",v)])/\∀ base:Heap,K.In base->base.Ns mainGlobals mg->cH P w K mg base (CXE P w) k fa fd ["script"] sp:=by
 obtain⟨f,a,fd,F⟩:=d;have e:=hfa.symm.trans (mK X G a);cases e;refine⟨fd,fun s v=>?_,fun base _ _=>ok base _ _ F⟩;obtain⟨oc,od,kV,doc,pm,an,cdv,ct,osl,rfl,lk,hcd⟩:=F.ex;exact .of_eq (hb kV doc pm an cdv ct [v] rfl)
theorem a2y(X:K.In h)(G:h.Ns mainGlobals mg){x q:Str}{st:Stmt}{C:Addr}{k:Nat}{ps:List Str}{sp:Sp}(a:PySem.W.nsIn K mainGlobals x=some (some (.ref C)))(mk:PySem.W.makesIn K C=true)(kc:PySem.W.keepIn K (.ref C)=true) (m:K9 K C "__init__" q st) (hb:pR "__init__" q st ps) (ok:∀ f fd,Fun K "__init__" q st f fd->cH P w K mg base (CXE P w) k f fd ps sp):Md P w K mg base k x ps C sp:=by
 obtain⟨f,⟨b,i⟩,fd,F⟩:=m;exact⟨⟨f,fd,⟨mk,b,i,kc⟩,ok f fd F,mK X G a,F.binds hb⟩⟩
end
theorem all_mk{l:PySem.W.OpenLaw}{w:World}{K:ao}{h:Heap}{mg:Str->Option Value}{fa:Addr}(X:K.In h)(G:h.Ns mainGlobals mg) (hfa:mg "law" = some (.ref fa))
  {ou:Addr}
  {vP:Addr}
  {qe:Addr}
  {zu:Addr}
  {tH:Addr}
  {oA:Addr}
  (oE:PySem.W.nsIn K mainGlobals "FieldError" = some (some (.ref ou)))
  (vQ:PySem.W.nsIn K mainGlobals "BadView" = some (some (.ref vP)))
  (qg:PySem.W.nsIn K mainGlobals "BadLaying" = some (some (.ref qe)))
  (zx:PySem.W.nsIn K mainGlobals "NoCell" = some (some (.ref zu)))
  (tK:PySem.W.nsIn K mainGlobals "TooGreat" = some (some (.ref tH)))
  (Et:PySem.W.nsIn K mainGlobals "View" = some (some (.ref oA)))
  (pC:PySem.W.excIn K ou [.type "ValueError",.type "Exception",.type "BaseException",.type "object"] "ValueError.__new__" = true)
  (rY:PySem.W.excIn K vP [.type "ValueError",.type "Exception",.type "BaseException",.type "object"] "ValueError.__new__" = true)
  (mJ:PySem.W.excIn K qe [.type "ValueError",.type "Exception",.type "BaseException",.type "object"] "ValueError.__new__" = true)
  (qW:PySem.W.excIn K zu [.type "ValueError",.type "Exception",.type "BaseException",.type "object"] "ValueError.__new__" = true)
  (jC:PySem.W.excIn K tH [.type "ValueError",.type "Exception",.type "BaseException",.type "object"] "ValueError.__new__" = true)
  (yJ:K9 K oA "__init__" "View.__init__" jP)
  (gH:Cls K oA)
  (Yg:PySem.W.makesIn K oA=true)
  (Y6:PySem.W.keepIn K (.ref oA)=true)
  (j7:PySem.W.findIn K (.ref oA) "rows" = some none)
  (fj:PySem.W.findIn K (.ref oA) "height" = some none)
  (fZ:PySem.W.findIn K (.ref oA) "width" = some none)
  (j6:∃ t,PySem.W.nsIn K mainGlobals "MOST_ROWS" = some (some (.int 6 t)))
  (fM:∃ t,PySem.W.nsIn K mainGlobals "MOST_COLUMNS" = some (some (.int 6 t)))
  (gw:∃ t,PySem.W.nsIn K mainGlobals "CLOSED_SIGN" = some (some (.str "#" t)))
  (rJ:∃ t,PySem.W.nsIn K mainGlobals "SIGNS" = some (some (.str "#012345678" t)))
  (iz:∃ t,PySem.W.nsIn K mainGlobals "MOST_CELLS" = some (some (.int 12 t)))
  (a3q:PySem.W.nsIn K mainGlobals "all" = some none)
  (a3r:PySem.W.nsIn K mainGlobals "int" = some none)
  (a3s:PySem.W.nsIn K mainGlobals "len" = some none)
  (a1V:PySem.W.nsIn K mainGlobals "list" = some none)
  (a3t:PySem.W.nsIn K mainGlobals "max" = some none)
  (a3u:PySem.W.nsIn K mainGlobals "min" = some none)
  (Zn:PySem.W.nsIn K mainGlobals "range" = some none)
  (Wn:PySem.W.nsIn K mainGlobals "sorted" = some none)
  (a3v:PySem.W.nsIn K mainGlobals "str" = some none)
  (a3w:PySem.W.nsIn K mainGlobals "sum" = some none)
  (zM:cg K "_law_cell_at" lN)
  (KJ:cg K "_law_mix" tZ)
  (Ir:cg K "_law_near" qJ)
  (Fl:cg K "_law_sizes" oY)
  (Fi:cg K "_law_cells" oW)
  (Cm:cg K "_law_figure" mU)
  (yG:cg K "_law_field_by" jQ)
  (Fj:cg K "_law_shown" oX)
  (Cp:cg K "_law_opened" mV)
  (zN:cg K "_law_view_by" lO)
  (yH:cg K "_law_wrong_by" jR)
  (Tf:cg K "is_row" Av)
  (QL:cg K "is_size" wK)
  (QM:cg K "is_view" wL)
  (KN:cg K "has_cell" u9)
  (Iv:cg K "is_closed" qL)
  (Xv:cg K "cells" Gd)
  (a0f:cg K "near" M9)
  (IK:cg K "open_near" qO)
  (Cq:cg K "closed_near" mW)
  (Td:cg K "closed" Aq)
  (a0e:cg K "edge" M8)
  (a2c:cg K "far" VB)
  (Te:cg K "figure" Ar)
  (Iw:cg K "is_laying" qM)
  (Cr:cg K "stones_near" mX)
  (Xx:cg K "keeps" Gg)
  (Tg:cg K "joined" Aw)
  (Xz:cg K "parts" Gh)
  (QJ:cg K "demands" wI)
  (KQ:cg K "may_hold" uc)
  (QS:cg K "layings" wM)
  (QK:cg K "is_lone" wJ)
  (zO:cg K "lone_layings" lQ)
  (QH:cg K "choices" wH)
  (Iu:cg K "by_stones" qK)
  (QT:cg K "product" wN)
  (Iz:cg K "number_of" qN)
  (Xw:cg K "count" Gf)
  (Fo:cg K "_law_total" oZ)
  (a2d:cg K "law" VD) :
  ∃ fd:FuncData,(∀(s:Shared)(v:Value),BindsTo s fd ⟨[v],[]⟩ [("script",v)])/\∀ base:Heap,K.In base->base.Ns mainGlobals mg->cH l.prog w K mg base (CXE l.prog w) 9 fa fd ["script"] (Qc K):=by
 obtain⟨_,j6⟩:=j6;obtain⟨_,fM⟩:=fM;obtain⟨_,gw⟩:=gw;obtain⟨_,rJ⟩:=rJ;obtain⟨_,iz⟩:=iz;have T:Txt K mg ⟨ou,vP,qe,zu,tH,oA⟩:={ Oe:=sW X G a3q,Ss:=sW X G a3r,cI:=sW X G a3s,Sv:=sW X G a1V,Sw:=sW X G a3t,Sx:=sW X G a3u,eG:=sW X G Zn,zA:=sW X G Wn,Zq:=sW X G a3v,Zr:=sW X G a3w,j6:=⟨_,mK X G j6⟩,fM:=⟨_,mK X G fM⟩,gw:=⟨_,mK X G gw⟩,rJ:=⟨_,mK X G rJ⟩,iz:=⟨_,mK X G iz⟩,Ey:=mK X G oE,pC:=⟨pC⟩,Dg:=mK X G vQ,rY:=⟨rY⟩,xM:=mK X G qg,mJ:=⟨mJ⟩,zE:=mK X G zx,qW:=⟨qW⟩,tL:=mK X G tK,jC:=⟨jC⟩,a09:=mK X G Et,gH:=gH,j7:=j7,fj:=fj,fZ:=fZ }
 refine a0B X G hfa a2d (bind1 fun _ _ _ _ _ _ _=>rfl) fun base _ _ F=>?_
 have dm:=@a2f l.prog w K mg base h X G;have cm:=@a2y l.prog w K mg base h X G;have bI:=dm zM (gR fun _ _ _ _ _ _ _ _=>rfl) fun _ _ F=>Yl F T
 have cP:=dm KJ (Oh fun _ _ _ _ _ _ _ _ _=>rfl) fun _ _ F=>a0P F T
 have eV:=dm Ir (Oh fun _ _ _ _ _ _ _ _ _=>rfl) fun _ _ F=>Yo F T
 have nZ:=dm Fl (bind1 fun _ _ _ _ _ _ _=>rfl) fun _ _ F=>UL F T
 have nW:=dm Fi (gR fun _ _ _ _ _ _ _ _=>rfl) fun _ _ F=>Ut F T
 have gq:=dm Cm (Zt fun _ _ _ _ _ _ _ _ _ _=>rfl) fun _ _ F=>Ro F T eV
 have jL:=dm yG (gR fun _ _ _ _ _ _ _ _=>rfl) fun _ _ F=>Uv F T bI cP
 have nY:=dm Fj (Zt fun _ _ _ _ _ _ _ _ _ _=>rfl) fun _ _ F=>UJ F T gq
 have mL:=dm Cp (a1Z fun _ _ _ _ _ _ _ _ _ _ _=>rfl) fun _ _ F=>Rr F T eV gq
 have lB:=dm zN (Oh fun _ _ _ _ _ _ _ _ _=>rfl) fun _ _ F=>Ru F T bI cP jL mL nY
 have jM:=dm yH (gR fun _ _ _ _ _ _ _ _=>rfl) fun _ _ F=>V0 F T bI cP
 have zp:=dm Tf (gR fun _ _ _ _ _ _ _ _=>rfl) fun _ _ F=>a0Q F T
 have vL:=dm QL (gR fun _ _ _ _ _ _ _ _=>rfl) fun _ _ F=>Yq F T
 have vM:=dm QM (bind1 fun _ _ _ _ _ _ _=>rfl) fun _ _ F=>Yr F T zp vL
 have Es:=cm Et Yg Y6 yJ (gR fun _ _ _ _ _ _ _ _=>rfl) fun _ _ F=>Ym F T vM
 have jw:=dm KN (gR fun _ _ _ _ _ _ _ _=>rfl) fun _ _ F=>a0M F T
 have bM:=dm Iv (gR fun _ _ _ _ _ _ _ _=>rfl) fun _ _ F=>Jr F T jw
 have kE:=dm Xv (bind1 fun _ _ _ _ _ _ _=>rfl) fun _ _ F=>Jp F T
 have o9:=dm a0f (gR fun _ _ _ _ _ _ _ _=>rfl) fun _ _ F=>UG F T jw
 have cT:=dm IK (gR fun _ _ _ _ _ _ _ _=>rfl) fun _ _ F=>Jt F T o9 bM
 have cX:=dm Cq (gR fun _ _ _ _ _ _ _ _=>rfl) fun _ _ F=>Cz F T o9 bM
 have gj:=dm Td (bind1 fun _ _ _ _ _ _ _=>rfl) fun _ _ F=>Rn F T kE bM
 have vJ:=dm a0e (bind1 fun _ _ _ _ _ _ _=>rfl) fun _ _ F=>Uz F T gj cT
 have CP:=dm a2c (bind1 fun _ _ _ _ _ _ _=>rfl) fun _ _ F=>Yp F T gj cT
 have jd:=dm Te (gR fun _ _ _ _ _ _ _ _=>rfl) fun _ _ F=>Lr F T
 have pW:=dm Iw (gR fun _ _ _ _ _ _ _ _=>rfl) fun _ _ F=>Js F T bM
 have mO:=dm Cr (Oh fun _ _ _ _ _ _ _ _ _=>rfl) fun _ _ F=>Rt F T o9
 have yN:=dm Xx (gR fun _ _ _ _ _ _ _ _=>rfl) fun _ _ F=>Uw F T pW kE bM jd mO
 have n8:=dm Tg (gR fun _ _ _ _ _ _ _ _=>rfl) fun _ _ F=>Rp F T cT cX
 have rA:=dm Xz (bind1 fun _ _ _ _ _ _ _=>rfl) fun _ _ F=>Uy F T vJ n8
 have vI:=dm QJ (gR fun _ _ _ _ _ _ _ _=>rfl) fun _ _ F=>Lp F T cT cX jd
 have tE:=dm KQ (gR fun _ _ _ _ _ _ _ _=>rfl) fun _ _ F=>a0O F T
 have kW:=dm QS (gR fun _ _ _ _ _ _ _ _=>rfl) fun _ _ F=>Lq F T vJ n8 vI tE
 have vK:=dm QK (gR fun _ _ _ _ _ _ _ _=>rfl) fun _ _ F=>Yn F T bM cX
 have lC:=dm zO (bind1 fun _ _ _ _ _ _ _=>rfl) fun _ _ F=>Ux F T kE vK jd
 have vH:=dm QH (bind1 fun _ _ _ _ _ _ _=>rfl) fun _ _ F=>Ln F T rA kW CP lC
 have pU:=dm Iu (bind1 fun _ _ _ _ _ _ _=>rfl) fun _ _ F=>Jq F T
 have vN:=dm QT (gR fun _ _ _ _ _ _ _ _=>rfl) fun _ _ F=>Lw F T
 have pX:=dm Iz (gR fun _ _ _ _ _ _ _ _=>rfl) fun _ _ F=>Rq F T vN pU
 have o8:=dm Xw (gR fun _ _ _ _ _ _ _ _=>rfl) fun _ _ F=>Uu F T pX vH
 have o7:=dm Fo (bind1 fun _ _ _ _ _ _ _=>rfl) fun _ _ F=>UW F T o8 gj
 exact a0N F T bI lB jM Es yN o7 rA kW CP nZ nW eV o8 gj
theorem walk{l:PySem.W.OpenLaw}{q:Program}{loose:List Str}{XP:(Str->Option Value)->Heap->Prop}{YP:World->Heap->Prop}{d:DefRec}{K:Params->ao}(hn:l.most=some 63)(hdf:d.params.defaults=[])
  (hY:∀(w:World)(h:Heap),YP w h->(K w.params).In h)
  (F:∀(w:World)(mg:Str->Option Value)(fa:Addr)(h:Heap),(K w.params).In h->h.Ns mainGlobals mg->mg d.name=some (.ref fa) ->
   ∃ fd:FuncData,(∀(s:Shared)(u:Value),BindsTo s fd ⟨[u],[]⟩ [("script",u)])/\∀ base:Heap,(K w.params).In base->base.Ns mainGlobals mg->cH l.prog w (K w.params) mg base (CXE l.prog w) 9 fa fd ["script"] (Qc (K w.params))) :
  PySem.W.WalkO q loose XP YP l.row.toRowW d [] (fun f vs=>PySem.call f vs):=
 L2.Zk (n:=63) (k:=9) (x:="script") (CX:=fun w=>CXE l.prog w) (sp:=fun w=>Qc (K w.params)) hn (by decide) hdf ⟨rfl,by decide,by decide⟩ hY F (fun _ _ a ns hl _ hS=>⟨a,ns,rfl,hS,fun _=>rfl⟩) fun _ _ _ _ _ z=>by
  obtain⟨_,_,_,_,_,_,_,_,_,z⟩:=z;exact z
end My
namespace PySem.W.Fast
def tw6244435333635575587:=0
def tw4082379843676248219:=0
def tw3170882448343648813:=0
def tw15598226181914261174:=0
def tw1081209148278564603:=0
def tw2896324226396333823:=0
def tw11377112715329996541:=0
def tw17565807369355164945:=0
def tw6571328997080369044:=0
def tw11501934233040248769:=0
def tw5804444983515350167:=0
def tw17161948849426633910:=0
def tw11291810479857537841:=0
def tw11924437791628356068:=0
def tw5832449745162977881:=0
def tw16208435590402634111:=0
def tw1118202560637097878:=0
def tw4275948379544759571:=0
def tw17941955876291940514:=0
def tw5898600893793812835:=0
def tw17717393758346356859:=0
def tw16113465010063183663:=0
def tw10141962604242136686:=0
def tw5973158507562419756:=0
def tw17250119520459680195:=0
def tw15802778143136514451:=0
def tw10691584058266565276:=0
def tw8357944516689837842:=0
def tw16169759273687316016:=0
def tw3701071093473551600:=0
def tw6612904272064388975:=0
def tw14656732938878130375:=0
def tw4440965960022548712:=0
def tw12057872698755336580:=0
def tw11196845219411492582:=0
def tw5224338681401637217:=0
def tw8666531189712068961:=0
def tw13855475624539304553:=0
def tw16165510190346898104:=0
def tw1262051662852284451:=0
def tw16385117244202282169:=0
def tw12113075578034503725:=0
def tw12316276704695355844:=0
def tw17776484622532248926:=0
def tw13782310407308707110:=0
def tw18251885881520148939:=0
def tw10441820179331609209:=0
def tw3042958558272884047:=0
def tw9603940380093072652:=0
def tw5933730081345253240:=0
def tw18115944281320790282:=0
def tw10576990830193219406:=0
def tw3571482002473136181:=0
def tw5093806651279526468:=0
def tw3908390932751424030:=0
def tw5572402275074456752:=0
def tw7216592895020439294:=0
def tw13290166927635611918:=0
def tw6337399104805254100:=0
def tw12871624374402216787:=0
def tw12012734354346640832:=0
def tw13973891978335285121:=0
def tw2648182512427476886:=0
def tw13886611099395229433:=0
def tw11341117049983173769:=0
def tw6043746230865485763:=0
def tw14118137445452651724:=0
def tw12519052977349409114:=0
def tw6962695534227284338:=0
def tw1629949847809710301:=0
def tw10386986168582708190:=0
def tw1036001100316989417:=0
def tw6922279621905386269:=0
def tw1059672300950509932:=0
def tw8532940328105302596:=0
def tw10771000732141366168:=0
def tw4470014582581243518:=0
def tw6455951189258559825:=0
def tw2605808357245466685:=0
def tw13172501379342577328:=0
def tw4293020076713378152:=0
def tw10027162282861198744:=0
def tw15035404417024722712:=0
def tw12796249223436622326:=0
def tw158121203761315762:=0
def tw7447584946578875585:=0
def tw11174444209513721984:=0
def tw12343326450985353980:=0
def tw18109678310873444639:=0
def tw56475144411401163:=0
def tw11040302928687856919:=0
def tw1804186016766232985:=0
def tw13782952443326251340:=0
def tw6349553585202934008:=0
def tw13992821395697714580:=0
def tw12302080700801371768:=0
def tw9675231307514990332:=0
def tw10653240048227998283:=0
def tw5909723806315588985:=0
def tw16502953158372156722:=0
def tw5818638350190456183:=0
def tw12518459143125309765:=0
def tw15703700978338978712:=0
def tw5884449446405572954:=0
def tw503208757652126581:=0
def tw321863212943802652:=0
def tw12797003833256564717:=0
def tw1767189194088258583:=0
def tw10361962259751289561:=0
def tw12082339770140257063:=0
def tw10720561387695351243:=0
def tw17535966360458550393:=0
def tw1157294673633991831:=0
def tw13711950265368903838:=0
def tw16698798831162184755:=0
def tw16027205920631981511:=0
def tw3181539172792733061:=0
def tw13449492948110448375:=0
def tw12198323295299386635:=0
def tw296105708765118415:=0
def tw24247375310804655:=0
def tw15756049663901558303:=0
def tw17192906019046281368:=0
def tw11328284228224795224:=0
def tw3496619787779692255:=0
def tw16721127342936925508:=0
def tw11383766356603784987:=0
def tw13186263860893366429:=0
def tw6140220757848631549:=0
def tw11503835010679171722:=0
def tw15848459928338482458:=0
def tw5721033426209606879:=0
def tw14454403020605888598:=0
def tw5543842694502278758:=0
def tw11318180050375693058:=0
def tw9089339474124837192:=0
def tw6549352740499108715:=0
def tw4315581353693754309:=0
def tw8752901153958148018:=0
def tw17967241824287314683:=0
def tw14571356222298102941:=0
def tw10172222357182271061:=0
def tw9652005377050120756:=0
def tw4725245013130519018:=0
def tw3092155947407871975:=0
def tw5588530167080021556:=0
def tw4208846897359591718:=0
def tw10880511550545408705:=0
def tw8136977629699680353:=0
def tw9178995236593809623:=0
def tw4771903371685697332:=0
def tw17588514185481947586:=0
def tw1376626623420444430:=0
def tw12455852434659062973:=0
def tw9807192386682624058:=0
def tw2468463933057519608:=0
def tw2558201549068630252:=0
def tw12924520162402700806:=0
def tw18390073239359828516:=0
def tw9956855106368514014:=0
def tw9944963169423979423:=0
def tw5199312946753218820:=0
def tw16024044939972246882:=0
def tw9710201344491048983:=0
def tw5646110375131028373:=0
def tw9122539822587529423:=0
def tw12485776585973647693:=0
def tw12648498796111388212:=0
def tw3817455417033470902:=0
def tw13418736794538561231:=0
def tw4368919263058125033:=0
def tw16432477761700747947:=0
def tw10362337819678359154:=0
def tw452040770000084440:=0
def tw7007212791863499806:=0
def tw2607850186020883139:=0
def tw16985903808031981958:=0
def tw6520262279720313820:=0
def tw14737381159530243271:=0
def tw14142595331392751206:=0
def tw4279735857048081373:=0
def tw5759513590488223858:=0
def tw9686744229234623400:=0
def tw16624631035383688231:=0
def tw6967774696370634852:=0
def tw14541535343335460104:=0
def tw16446018444273868942:=0
def tw5949248100692822037:=0
def tw16774360897499235428:=0
def tw6904550679176677332:=0
def tw1922848388329158375:=0
def tw4138892256209917609:=0
def tw3404887329470545279:=0
def tw8872941898738059503:=0
def tw5554609355877525177:=0
def tw12148636127385079118:=0
def tw16314401210494422794:=0
def tw10087729058568301958:=0
def tw1838106736958676512:=0
def tw7253072808652862347:=0
def tw13536979499650805251:=0
def tw419211558603094938:=0
def tw3985872179173607891:=0
def tw16885523917428583347:=0
def tw9522840390747287238:=0
def tw738937783777244809:=0
def tw14951835220258212078:=0
def tw12003326814443650096:=0
def tw8838711287812015491:=0
def tw9272558065675465085:=0
def tw3952448391595086932:=0
def tw2473431929550559711:=0
def tw982227769802990811:=0
def tw11723926031853374339:=0
def tw1760571197606866108:=0
def tw2238330147322580564:=0
def tw10141680740549232176:=0
def tw2888103808418366198:=0
def tw13819626867292672984:=0
def tw7081311654343180985:=0
def tw17124439250027809541:=0
def tw14257098933450892955:=0
def tw14899395269156492305:=0
def tw8020125118707632727:=0
def tw9232358305032082645:=0
def tw4642863866225168397:=0
def tw6945468337957838919:=0
def tw17115277732545979044:=0
def tw213151715996037846:=0
def tw930347927923600231:=0
def tw17041302786496000245:=0
def tw10268155252065209005:=0
def tw4186328153639365121:=0
def tw9122115973113270502:=0
def tw11387762358028764840:=0
def tw10114863746157517927:=0
def tw2146592242330688795:=0
def tw16921039449978540883:=0
end PySem.W.Fast
open PySem PySem.W PyProof.Rows
set_option maxRecDepth 100000 in
set_option maxHeartbeats 0 in
theorem PySem.Challenge.cw_dampfield_k14_whole_counts_together_holds : PySem.Challenge.rw_dampfield_k14_whole_counts_together.Holds := by
 w_on;o_law;k_head;(case hw=>w_witness2)
 k_fill
 refine My.walk (l:=PySem.Challenge.rw_dampfield_k14_whole_counts_together) rfl rfl (fun w h Y=>PySem.W.kIn_of Y) ?F
 case F=>
  intro w mg fa h KX G hmg
  refine' My.all_mk KX G hmg ?oE ?vQ ?qg ?zx ?tK ?Et ?_ ?_ ?_ ?_ ?_ ?_ ?_ ?_ ?_ ?_ ?_ ?_ ?_ ?_ ?_ ?_ ?_ ?_ ?_ ?_ ?_ ?_ ?_ ?_ ?_ ?_ ?_ ?_ ?_ ?_ ?_ ?_ ?_ ?_ ?_ ?_ ?_ ?_ ?_ ?_ ?_ ?_ ?_ ?_ ?_ ?_ ?_ ?_ ?_ ?_ ?_ ?_ ?_ ?_ ?_ ?_ ?_ ?_ ?_ ?_ ?_ ?_ ?_ ?_ ?_ ?_ ?_ ?_
  (case oE=>k_is)
  (case vQ=>k_is)
  (case qg=>k_is)
  (case zx=>k_is)
  (case tK=>k_is)
  (case Et=>k_is)
  iterate 5 k_exc
  iterate 1 (refine' My.a0F ?a ?i ?b ?c ?d;(case a=>k_is);(case i=>k_is);(case b=>k_is);(case c=>k_is);(case d=>k_is))
  iterate 1 (refine' ⟨?_,?_,?_,?_⟩<;>k_is)
  iterate 5 k_is
  iterate 2 (refine' My.a3n ?a;(case a=>k_is))
  iterate 2 (refine' My.a3Z ?a;(case a=>k_is))
  iterate 1 (refine' My.a3n ?a;(case a=>k_is))
  iterate 10 k_is
  iterate 41 (refine' My.a2e ?a ?b ?c ?d;(case a=>k_is);(case b=>k_is);(case c=>k_is);(case d=>k_is))
