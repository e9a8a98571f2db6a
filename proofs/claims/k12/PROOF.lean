import PyProof.Rows.All
import Wide.All
import OpenK.AllK
import Wide.FinOn
import Lean
import PyProof.EqAt
import PyProof.EqKinds
import PyProof.TupleCall
import PySem.Challenge.RW_dampfield_k12_whole_sure_is_true_and_sta
set_option maxHeartbeats 4000000
set_option Elab.async false
set_option linter.all false
set_option maxRecDepth 100000
def aG:=@if_neg
def aJ:=@if_pos
def cR:=@decide_eq_true
def dB:=@decide_eq_false
def cJ:=@of_decide_eq_true
def gq:=@decide_eq_true_iff
def jl:=@of_decide_eq_false
def n8:=@beq_eq_false_iff_ne
def kJ:=@beq_iff_eq
def vo:=@decide_eq_decide
def Lh:=@decide_eq_false_iff_not
def rE:=@if_false
def uf:=@if_true
def Mi:=@beq_self_eq_true
open Array renaming getElem?_eq_getElem->jk,getD_eq_getD_getElem?->mY,toList_append->kh,length_toList->mD,getElem?_toList->Dk,toList_reverse->Fw,getElem_mem_toList->Lb,toList_push->FZ,getElem_toList->Lz,toList_setIfInBounds->Uw,toList_inj->Mj,getElem?_eq_none->V5,toList_extract->Vi,append_assoc->Vr,size_extract->Vt
open Bool renaming false_ne_true->fH,not_eq_true'->jr,and_eq_true->kj,not_eq_false'->rG,true_and->rM,false_and->xV,and_false->rD,false_eq_true->wL,eq_iff_iff->tW,or_eq_true_iff->FP,false_or->Gp,beq_eq_decide_eq->V9,or_true->Mr
def Fq:=@Classical.byContradiction
open Int renaming toNat_natCast->jm,emod_lt_of_pos->wM,emod_nonneg->wN,zero_add->u6,eq_ofNat_of_zero_le->Lf,toNat_of_nonneg->Vq
open List renaming length_map->aZ,mem_singleton->cL,getD_eq_getElem?_getD->fU,length_append->cC,getElem?_eq_getElem->eZ,size_toArray->cI,mem_filter->bZ,mem_cons_self->cZ,mem_append->cB,mem_cons_of_mem->f9,getElem?_map->dG,mem_range->cH,mem_append_right->fV,mem_of_getElem?->fQ,mem_append_left->fW,mem_map->cD,mem_cons->cW,map_append->eE,map_cons->dM,length_cons->fX,length_singleton->jK,length_filter_le->jL,getElem?_eq_some_iff->mZ,length_range->jM,all_eq_true->jt,take_length->kE,pairwise_iff_getElem->sS,take_succ->kI,drop_eq_getElem_cons->xM,pairwise_cons->rF,getElem_mem->pZ,getElem?_append_right->Bo,map_map->ni,append_nil->rJ,length_take->sU,pairwise_append->xO,append_assoc->vh,nodup_append->vm,replicate_succ->xP,take_append_drop->Bp,flatMap_cons->xQ,lookup_cons->xR,filter_append->Br,getElem?_append_left->Jc,length_nil->xT,range_succ->xU,flatten_cons->Bs,length_eq_zero_iff->Jd,take_of_length_le->Av,find?_cons->tY,map_congr_left->Ax,flatMap_append->Ay,mem_filterMap->Az,getElem?_toArray->Ft,getElem?_of_mem->Fv,mem_flatMap->Bc,mem_of_mem_take->Fx,getElem_map->Bd,all_cons->wO,any_cons->wQ,perm_ext_iff_of_nodup->KZ,filter_sublist->FN,nodup_cons->Bg,filter_congr->FW,ext_getElem?->G7,pairwise_map->Gb,getElem?_set_self->Li,drop_of_length_le->Ln,filter_eq_nil_iff->Lp,sum_cons->Bh,mem_reverse->Gd,filter_cons->Gf,any_eq_true->Gg,perm_append_comm->Lq,pairwise_reverse->Lr,foldl_cons->Gh,map_nil->Bl,mem_iff_getElem->Ly,filterMap_cons->LC,getElem_of_mem->LQ,filter_eq_self->LR,drop_drop->Gj,nodup_nil->Gk,take_sublist->M9,reverse_perm->Ma,getElem?_take_of_lt->Uy,all_map->Gu,sublist_append_left->UG,pairwise_singleton->UW,of_mem_zip->Mp,length_pos_of_mem->V3,getElem?_eq_none->Vb,eq_nil_or_concat->Ve,take_zero->Mq,pairwise_flatten->Vf,eq_replicate_iff->Vg,getElem?_set_ne->Vh,dropLast_concat->Vk,reverse_append->Vo,modify_toArray->Vp
def Mh:=@List.Sublist.refl
open Nat renaming le_refl->bB,le_trans->dN,lt_of_lt_of_le->jq,ne_of_lt->fZ,mul_le_mul->mF,zero_le->mG,lt_irrefl->rK,zero_add->u5,le_succ->u9,add_zero->wR,lt_of_le_of_lt->M7,le_of_lt->Gq,ne_of_gt->Gs,le_of_ble_eq_true->V8,pow_le_pow_right->Vl,add_le_add_left->Vn
def mz:=@Ne.symm
open Option renaming map_eq_some_iff->j8,map_some->tX,isSome_map->Mf,isSome_iff_exists->Ux
open Option.some renaming inj->iJ,injEq->Bb
def jD:=@Prod.ext
open PyProof.Rows renaming wpS_bind->aW,wpS_pure->bf,wpS_forRange->ju,wpS_mono->jx,wpS_modify->oG,wpS_get->jW,callWith_type1->KY,wpS_lift->ud,mirror_perm->Bm,assignInOrder_cons->M4
open PySem renaming wpAny_bind->bN,wpAny_pure->cQ,wpAny_mono->jw,wpAny_eqBool_int->rH,wpAny_truthy_bool->vg,sizeLine_eq->rN,wpAny_passesOwn->tV,mem_of_lookup->Aw,wpAny_holding->tZ,call_meets->pN,tupleKind_room_in1->Ba,wpAny_isSubtype_exc->FJ,wpAny_execs_nil->Bf,wpAny_Call_Name_kw->FQ,wpAny_rule->uc,wpAny_callSpecial?_slot->Lg,wpAny_newObj_type->FT,wpAny_loadPart_at->Ga,richCompare_meets_room->Lk,codeAny_mono->Bj,codeAny_builtin->Gi,wpAny_standAt->Gn,wpAny_assign_Name->M8,wpAny_comprehension_free->Uz,wpAny_call_entry->Ml
def Fy:=@PySem.Around.under_plainId
def Ld:=@PySem.AutoSeq1.sub_tuple_tuple
open PySem.Calls renaming call_function_entry->La,callWith_builtin->Lj,evalArgs_plain->Lx,spliced_cons->M5,Name_function_global->Uv
open PySem.F renaming plainAttrs_list->jZ,slot_list_append->pX,type_list_append->pY,slot_dict_keyiterator_next->Jb,excBase_ValueError->Fp,args_dict_keyiterator_next_1->Ut,entry_dict_keyiterator_next->Uu,slot_dict_get->Lw,slot_list_extend->UJ,type_list_extend->UL,args_dict_get_3->V0,plain_list_iadd->V1,entry_dict_get->V4,slot_dict_iter->V6,slot_dict_len->Va,slot_list_pop->Vc,type_list_pop->Vd,slot_list_lt->Vj
open PySem.Heap renaming get?_push_of_some->dW,lt_size->bR,get?_push_size->jo,get?_update_ne->Fz
def Gm:=@PySem.Paired.length
def fY:=@PySem.PassesOwn.never
def Gv:=@PySem.SeqAt.EqAt.of_refs
open PySem.W renaming mg_of->jN,mg_none_of->vf,plainGet_of->LK,callWith_K->M6,cellsFrom_some->V2,methodCall_KW->V7,hideAll_get->Vm,of_hideAll->Vs
abbrev ak:=PySem.W.Frag
namespace L2
open PySem PySem.Spec PyProof.Rows
abbrev Key:=Sum Int Str
def CG:Key->Value->Bool
 |.inl k,v=>Value.isInt k v
 |.inr x,v=>Value.isStrOf x v
def a2n(w:World):Key->Int
 |.inl k=>hashInt k
 |.inr x=>hashStr w x
theorem eU:∀ {k:Key} {v:Value},CG k v=true->(∃ i t,k=Sum.inl i/\v=Value.int i t)\/(∃ x t,k=Sum.inr x/\v=Value.str x t)
 |.inl i,v,h=>by
  obtain⟨t,e⟩:=Value.isInt_shape (k:=i) (v:=v) h;exact .inl ⟨i,t,rfl,e⟩
 |.inr x,v,h=>by
  obtain⟨t,e⟩:=Value.isStrOf_shape (x:=x) (v:=v) h;exact .inr ⟨x,t,rfl,e⟩
theorem Pz(i:Int)(t:Tok):CG (.inl i) (.int i t)=true:=by simp[CG,Value.isInt]
theorem PB(x:Str)(t:Tok):CG (.inr x) (.str x t)=true:=by simp[CG,Value.isStrOf]
theorem Ze(a b:Int):decide ((Sum.inl a:Key)=Sum.inl b)=(a==b):=by
 by_cases e:a=b
 ·subst e;simp
 ·have h:¬(Sum.inl a:Key)=Sum.inl b:=fun q=>e (Sum.inl.inj q)
  rw[dB h];exact(n8.mpr e).symm
theorem Zh(a b:Str):decide ((Sum.inr a:Key)=Sum.inr b)=decide (a=b):=by
 by_cases e:a=b
 ·subst e;simp
 ·have h:¬(Sum.inr a:Key)=Sum.inr b:=fun q=>e (Sum.inr.inj q)
  rw[dB h,dB e]
theorem Zf(a:Int)(b:Str):decide ((Sum.inl a:Key)=Sum.inr b)=false:=dB (fun q=>nomatch q)
theorem Zg(a:Str)(b:Int):decide ((Sum.inr a:Key)=Sum.inl b)=false:=dB (fun q=>nomatch q)
def eX(prog:Program)(w:World):PySem.KeyKind prog w Key where
 is:=CG
 hash:=a2n w
 inj:=fun v a b ha hb=>by
  rcases eU ha with⟨i,t,rfl,rfl⟩|⟨x,t,rfl,rfl⟩
  ·rcases eU hb with⟨j,u,rfl,e⟩|⟨y,u,rfl,e⟩
   ·injection e with e1 _;rw[e1]
   ·exact nomatch e
  ·rcases eU hb with⟨j,u,rfl,e⟩|⟨y,u,rfl,e⟩
   ·exact nomatch e
   ·injection e with e1 _;rw[e1]
 byValue:=fun k v h=>by
  rcases eU h with⟨i,t,rfl,rfl⟩|⟨x,t,rfl,rfl⟩<;>rfl
 pyHash:=fun hv h=>by
  rcases eU hv with⟨i,t,rfl,rfl⟩|⟨x,t,rfl,rfl⟩
  ·exact wpAny_pyHash_int h
  ·exact wpAny_pyHash_str h
 eqBool:=fun hu hv h=>by
  rcases eU hu with⟨i,t,rfl,rfl⟩|⟨x,t,rfl,rfl⟩
  ·rcases eU hv with⟨j,u,rfl,rfl⟩|⟨y,u,rfl,rfl⟩
   ·rw[Ze] at h;exact rH h
   ·rw[Zf] at h;exact SeqAt.EqAt.int_str i t y u _ _ _ _ h
  ·rcases eU hv with⟨j,u,rfl,rfl⟩|⟨y,u,rfl,rfl⟩
   ·rw[Zg] at h;exact SeqAt.EqAt.str_int x t j u _ _ _ _ h
   ·rw[Zh] at h;exact wpAny_eqBool_str h
 «strs»:=fun k x t v h=>by
  rcases eU h with⟨i,u,rfl,e⟩|⟨y,u,rfl,e⟩
  ·exact nomatch e
  ·injection e with e1 _;subst e1;cases v<;>rfl
theorem HX(prog:Program)(w:World)(i:Int)(t:Tok):(eX prog w).is (.inl i) (.int i t)=true:=Pz i t
theorem HY(prog:Program)(w:World)(x:Str)(t:Tok):(eX prog w).is (.inr x) (.str x t)=true:=PB x t
inductive V where
 |non|bl (b:Bool)|int (i:Int)|str (x:Str)|byt (b:Array UInt8)|flt (b:UInt64)|ref (a:Addr)|ty (n:String)
 deriving DecidableEq
def RelV:V->Value->Prop
 |.non,u=>u=Value.none
 |.bl b,u=>u=Value.bool b
 |.int i,u=>∃ t,u=Value.int i t
 |.str x,u=>∃ t,u=Value.str x t
 |.byt b,u=>∃ t,u=Value.bytes b t
 |.flt b,u=>∃ t,u=Value.float b t
 |.ref a,u=>u=Value.ref a
 |.ty n,u=>u=Value.type n
abbrev Vals:List V->List Value->Prop:=Paired RelV
theorem Vals.length{xs:List V}{us:List Value}(r:Vals xs us):xs.length=us.length:=Gm r
theorem Vals.get:∀ {xs:List V} {us:List Value} {i:Nat} {x:V},Vals xs us->xs[i]?=some x->∃ u,us[i]?=some u/\RelV x u
 |_,_,_,_,.nil,e=>by simp at e
 |_,_,0,_,.cons r _,e=>by simp at e;subst e;exact⟨_,rfl,r⟩
 |_,_,i+1,x,.cons _ t,e=>by
  obtain⟨u,h1,h2⟩:=Vals.get (i:=i) (x:=x) t (by simpa using e);exact⟨u,by simpa using h1,h2⟩
theorem Vals.append:∀ {xs ys:List V} {us ws:List Value},Vals xs us->Vals ys ws->Vals (xs++ys) (us++ws)
 |_,_,_,_,.nil,s=>s
 |_,_,_,_,.cons r t,s=>.cons r (Vals.append t s)
def qb:Option V->Option Value->Prop
 |some v,some u=>RelV v u
 |none,none=>True
 |_,_=>False
def KV{κ:Type}:List (κ×V)->List (κ×Value)->Prop:=Paired fun(p:κ×V)(q:κ×Value)=>p.1=q.1/\RelV p.2 q.2
def kV:Key->V
 |.inl i=>.int i
 |.inr x=>.str x
inductive HO where
 |lst (xs:List V)
 |tup (xs:List V)
 |dK (kvs:List (Key×V))|dT (kvs:List (List Key×V))
 |set (S:Int->Bool) (n:Nat)
 |ins (C dx:Addr) (fs:List (Str×V))
 |own (x:Addr)
 |xd (fs:List (Str×V))
 |met (f x:Addr)
 |rng (lo hi:Int)
 |frz (o:Obj) (u:HO)
 |tbl (ps:Array Value)
 |ext (φ:Heap->Prop)
abbrev Hp:=Addr->Option HO
def upd(H:Hp)(a:Addr)(o:HO):Hp:=fun b=>if b=a then some o else H b
theorem aC{H:Hp}{a:Addr}{o:HO}:upd H a o a=some o:=by unfold upd;rw[aJ rfl]
theorem aN{H:Hp}{a b:Addr}{o:HO}(h:b≠a):upd H a o b=H b:=by unfold upd;rw[aG h]
theorem fB{H:Hp}{a b:Addr}{o u:HO}(h:H a=some o)(h':H b=some u)(d:o≠u):a≠b:=by
 intro e;subst e;rw[h] at h';exact d (iJ h')
theorem aQ{H:Hp}{a b:Addr}{o:HO}(h:H a=some o)(h':H b=none):a≠b:=by
 intro e;subst e;rw[h] at h';cases h'
section
variable(P:Program)(w:World)
def gF(H:Hp)(h:Heap)(a:Addr):HO->Prop
 |.lst xs=>xs.length<=sizeLine/\∃(its:List Value)(n:Nat),Vals xs its/\h.get? a=some { cls:=.type "list",data:=.seq its.toArray n }
 |.tup xs=>xs.length<=sizeLine/\∃ its:List Value,Vals xs its/\IsTup h a its.toArray
 |.dK kvs=>kvs.length<=sizeLine/\(a==sysModules)=false/\∃ vs,KV kvs vs/\h.DictOf (eX P w) a vs
 |.dT kvs=>kvs.length<=sizeLine/\(a==sysModules)=false/\∃ xs:List (List Key×Addr×Value),
   Paired (fun(p:List Key×V)(q:List Key×Addr×Value)=>p.1=q.1/\H q.2.1=some (.tup (p.1.map kV))/\RelV p.2 q.2.2) kvs xs /\
   ∃ o es ep,h.get? a=some o/\o.ExactDict/\o.data=.dict es ep/\es.toList=xs.map (entryOfKey (tupleKind (eX P w)))/\(xs.map (·.1)).Nodup
 |.set S n=>h.SetOf (intKind P w) a S n
 |.ins C dx fs=>H dx=some (.own a)/\fs.length<=1000/\dx≠a/\h.get? a=some (PySem.W.instObj C dx) /\
   ∃ mA,h.Ns1 dx mA/\(∀ f,qb (fs.lookup f) (mA f))/\PySem.Within mA (fs.map (·.1))
 |.own _=>∃ o,h.get? a=some o
 |.xd fs=>∃ mA,h.Ns1 a mA/\∀ f,qb (fs.lookup f) (mA f)
 |.rng lo hi=>∃ t u v,h.get? a=some { cls:=.type "range",data:=.fields #[.int lo t,.int hi u,.int 1 v] }
 |.frz o u=>h.get? a=some o/\gF H h a u
 |.tbl ps=>h.get? a=some { cls:=.none,data:=.fields ps }
 |.met f x=>h.get? a=some (PySem.W.methodObj (.ref f) (.ref x))
 |.ext φ=>φ h/\(∃ o,h.get? a=some o)/\∀ h1 h2:Heap,φ h1->(∀ o,h1.get? a=some o->h2.get? a=some o)->φ h2
def HOk(H:Hp)(h:Heap):Prop:=∀ a o,H a=some o->gF P w H h a o
end
section
variable{P:Program}{w:World}{H H':Hp}{h h':Heap}{a:Addr}{o:HO}
theorem gF.lt(x:gF P w H h a o):a<h.objs.size:=by
 cases o with
 |lst xs=>obtain⟨_,_,_,_,e⟩:=x;exact bR e
 |tup xs=>obtain⟨_,_,_,p⟩:=x;exact p.lt
 |dK kvs=>obtain⟨_,_,_,_,o,_,_,e,_⟩:=x;exact bR e
 |dT kvs=>obtain⟨_,_,_,_,o,_,_,e,_⟩:=x;exact bR e
 |set S n=>obtain⟨o,_,_,_,e,_⟩:=x;exact bR e
 |ins C dx fs=>obtain⟨_,_,_,e,_⟩:=x;exact bR e
 |own y=>obtain⟨_,e⟩:=x;exact bR e
 |xd fs=>obtain⟨_,⟨_,_,_,e,_⟩,_⟩:=x;exact bR e
 |rng lo hi=>obtain⟨_,_,_,e⟩:=x;exact bR e
 |frz ob u=>obtain⟨e,_⟩:=x;exact bR e
 |tbl ps=>exact bR (show h.get? a=some _ from x)
 |met f y=>exact bR (show h.get? a=some _ from x)
 |ext φ=>obtain⟨_,⟨_,e⟩,_⟩:=x;exact bR e
theorem Paired.Zj{α β:Type}{F G:α->β->Prop}:∀ {l₁:List α} {l₂:List β},Paired F l₁ l₂->(∀ a b,F a b->G a b)->Paired G l₁ l₂
 |_,_,.nil,_=>.nil
 |_,_,.cons r t,f=>.cons (f _ _ r) (Paired.Zj t f)
theorem gF.stay(x:gF P w H h a o)(k:∀ b u,(b=a\/H b=some (.own a))->h.get? b=some u->h'.get? b=some u)
  (ho:∀ b,H b=some (.own a)->H' b=some (.own a)) (ht:∀ b xs,H b=some (.tup xs)->H' b=some (.tup xs)):gF P w H' h' a o:=by
 induction o with
 |lst xs=>obtain⟨z,its,n,r,e⟩:=x;exact⟨z,its,n,r,k _ _ (.inl rfl) e⟩
 |tup xs=>obtain⟨z,its,r,ob,e,c⟩:=x;exact⟨z,its,r,ob,k _ _ (.inl rfl) e,c⟩
 |dK kvs=>obtain⟨z,y,vs,r,ob,es,ep,e,c⟩:=x;exact⟨z,y,vs,r,ob,es,ep,k _ _ (.inl rfl) e,c⟩
 |dT kvs=>
  obtain⟨z,y,xs,r,ob,es,ep,e,c⟩:=x;exact⟨z,y,xs,Paired.Zj r fun p q z=>⟨z.1,ht _ _ z.2.1,z.2.2⟩,ob,es,ep,k _ _ (.inl rfl) e,c⟩
 |set S n=>obtain⟨ob,es,ep,t,e,c⟩:=x;exact⟨ob,es,ep,t,k _ _ (.inl rfl) e,c⟩
 |ins C dx fs=>
  obtain⟨d,z,ne,e,mA,⟨od,es,ep,e2,c⟩,r⟩:=x;exact⟨ho _ d,z,ne,k _ _ (.inl rfl) e,mA,⟨od,es,ep,k _ _ (.inr d) e2,c⟩,r⟩
 |own y=>obtain⟨ob,e⟩:=x;exact⟨ob,k _ _ (.inl rfl) e⟩
 |xd fs=>obtain⟨mA,⟨od,es,ep,e,c⟩,r⟩:=x;exact⟨mA,⟨od,es,ep,k _ _ (.inl rfl) e,c⟩,r⟩
 |rng lo hi=>obtain⟨t,u,v,e⟩:=x;exact⟨t,u,v,k _ _ (.inl rfl) e⟩
 |frz ob u ih=>obtain⟨e,q⟩:=x;exact⟨k _ _ (.inl rfl) e,ih q⟩
 |tbl ps=>
  have e:h.get? a=some { cls:=.none,data:=.fields ps }:=x;show h'.get? a=some { cls:=.none,data:=.fields ps };exact k a _ (.inl rfl) e
 |met f y=>
  have e:h.get? a=some (PySem.W.methodObj (.ref f) (.ref y)):=x;show h'.get? a=some (PySem.W.methodObj (.ref f) (.ref y));exact k a _ (.inl rfl) e
 |ext φ=>obtain⟨p,⟨o,e⟩,st⟩:=x;exact⟨st _ _ p fun o q=>k _ _ (.inl rfl) q,⟨o,k _ _ (.inl rfl) e⟩,st⟩
theorem HOk.lt(x:HOk P w H h)(e:H a=some o):a<h.objs.size:=(x a o e).lt
theorem HOk.fresh(x:HOk P w H h)(e:h.objs.size<=a):H a=none:=by
 cases q:H a with
 |none=>rfl
 |some u=>exact absurd (jq (x.lt q) e) (rK _)
theorem HOk.kept(x:HOk P w H h)(k:∀ b u,h.get? b=some u->h'.get? b=some u):HOk P w H h':=fun a o e=>
 (x a o e).stay (fun b u _ q=>k b u q) (fun _ q=>q) fun _ _ q=>q
theorem HOk.laid(x:HOk P w H h)(k:∀ b u,h.get? b=some u->h'.get? b=some u)(hp:h.objs.size<=a)(new:gF P w (upd H a o) h' a o):HOk P w (upd H a o) h':=fun b u e=>by
 have hn:=x.fresh hp;by_cases hb:b=a
 ·subst hb;rw[aC] at e;cases e;exact new
 ·rw[aN hb] at e;exact(x b u e).stay (fun c v _ q=>k c v q) (fun c q=>by rw[aN (aQ q hn)];exact q) fun c xs q=>by rw[aN (aQ q hn)];exact q
end
def Rd(H:Hp)(a:Addr)(u:HO):Prop:=H a=some u\/∃ o,H a=some (.frz o u)
theorem Rd.ok{P:Program}{w:World}{H:Hp}{h:Heap}{a:Addr}{u:HO}(r:Rd H a u)(x:HOk P w H h):gF P w H h a u:=by
 rcases r with r|⟨o,r⟩
 ·exact x a u r
 ·obtain⟨_,q⟩:=x a _ r;exact q
def Mut:Option HO->Prop
 |some (.lst _)=>True
 |some (.dK _)=>True
 |some (.dT _)=>True
 |some (.set _ _)=>True
 |some (.ins _ _ _)=>True
 |some (.ext _)=>True
 |_=>False
section
variable{P:Program}{w:World}{H:Hp}{h h':Heap}{x e:Addr}{o':HO}
theorem HOk.write(ok:HOk P w H h)(mu:Mut (H x))(he:e=x\/H e=some (.own x))(k:∀ b u,b≠e->h.get? b=some u->h'.get? b=some u)(heo:∃ u,h'.get? e=some u)
  (new:gF P w (upd H x o') h' x o'):HOk P w (upd H x o') h':=fun b u q=>by
 have a1e:∀ c y,H c=some (.own y)->c≠x:=fun c y r z=>by subst z;rw[r] at mu;exact mu
 have a2z:∀ c xs,H c=some (.tup xs)->c≠x:=fun c xs r z=>by subst z;rw[r] at mu;exact mu
 by_cases hb:b=x
 ·subst hb;rw[aC] at q;cases q;exact new
 ·rw[aN hb] at q;by_cases hbe:b=e
  ·have q':H b=some (.own x):=by
    rcases he with z|z
    ·exact absurd (hbe.trans z) hb
    ·rw[hbe];exact z
   rw[q] at q';cases q';obtain⟨v,hv⟩:=heo;exact⟨v,by rw[hbe];exact hv⟩
  ·refine(ok b u q).stay (fun c v hc r=>k c v ?_ r) (fun c r=>by rw[aN (a1e c b r)];exact r) fun c xs r=>by rw[aN (a2z c xs r)];exact r
   rcases hc with rfl|hc
   ·exact hbe
   ·rintro rfl;rcases he with z|z
    ·exact a1e c b hc z
    ·rw[hc] at z;cases z;exact hb rfl
end
structure Un(fs ex:List Addr)(H H':Hp)(h h':Heap):Prop where
 keep:∀ b o,h.get? b=some o->H b=none->b∉fs->b∉ex->h'.get? b=some o
 slot:∀ b o,h.get? b=some o->H b=none->b∈fs->b∉ex->∃ sl,h'.get? b=some { o with slots:=sl }
 free:∀ b o,h.get? b=some o->H b=none->b∉ex->H' b=none
 there:∀ b o,h.get? b=some o->b∉ex->∃ o',h'.get? b=some o'
 tups:∀ b xs,H b=some (.tup xs)->H' b=some (.tup xs)
 qH:∀ b o u,H b=some (.frz o u)->H' b=some (.frz o u)
 sI:∀ b ps,H b=some (.tbl ps)->∃ more,H' b=some (.tbl (ps++more))
section
variable{fs fs' ex ex':List Addr}{H H1 H2:Hp}{h h1 h2 h':Heap}{a x e:Addr}{o:HO}
theorem Un.any(u:Un fs ex H H1 h h1){b:Addr}{ob:Obj}(q:h.get? b=some ob)(n:H b=none)(hx:b∉ex):∃ sl,h1.get? b=some { ob with slots:=sl }:=by
 by_cases hb:b∈fs
 ·exact u.slot b ob q n hb hx
 ·exact⟨ob.slots,u.keep b ob q n hb hx⟩
theorem Un.trans(a:Un fs ex H H1 h h1)(b:Un fs ex H1 H2 h1 h2):Un fs ex H H2 h h2 where
 keep:=fun c ob q n hc hx=>b.keep c ob (a.keep c ob q n hc hx) (a.free c ob q n hx) hc hx
 slot:=fun c ob q n hc hx=>by
  obtain⟨sl,e1⟩:=a.slot c ob q n hc hx;obtain⟨sl',e2⟩:=b.slot c _ e1 (a.free c ob q n hx) hc hx;exact⟨sl',e2⟩
 free:=fun c ob q n hx=>by
  obtain⟨o',e1⟩:=a.there c ob q hx;exact b.free c o' e1 (a.free c ob q n hx) hx
 there:=fun c ob q hx=>by
  obtain⟨o',e1⟩:=a.there c ob q hx;exact b.there c o' e1 hx
 tups:=fun c xs q=>b.tups c xs (a.tups c xs q)
 qH:=fun c ob xs q=>b.qH c ob xs (a.qH c ob xs q)
 sI:=fun c ps q=>by
  obtain⟨m1,e1⟩:=a.sI c ps q;obtain⟨m2,e2⟩:=b.sI c _ e1;exact⟨m1++m2,by rw[e2,Vr]⟩
theorem Un.kept(k:∀ b u,h.get? b=some u->h'.get? b=some u):Un fs ex H H h h':=
 ⟨fun b ob q _ _ _=>k b ob q,fun b ob q _ _ _=>⟨ob.slots,k b ob q⟩,fun _ _ _ n _=>n,fun b ob q _=>⟨ob,k b ob q⟩,fun _ _ q=>q,fun _ _ _ q=>q,fun _ ps q=>⟨#[],by rw[q];simp⟩⟩
theorem Un.refl:Un fs ex H H h h:=Un.kept fun _ _ q=>q
theorem Un.laid(k:∀ b u,h.get? b=some u->h'.get? b=some u)(hp:h.objs.size<=a)(hn:H a=none):Un fs ex H (upd H a o) h h' where
 keep:=fun b u q _ _ _=>k b u q
 slot:=fun b u q _ _ _=>⟨u.slots,k b u q⟩
 free:=fun b u q n _=>by rw[aN (fZ (jq (bR q) hp))];exact n
 there:=fun b u q _=>⟨u,k b u q⟩
 tups:=fun b xs q=>by rw[aN (aQ q hn)];exact q
 qH:=fun b u xs q=>by rw[aN (aQ q hn)];exact q
 sI:=fun b ps q=>⟨#[],by rw[aN (aQ q hn),q];simp⟩
theorem Un.write(mu:Mut (H x))(he:e=x\/H e=some (.own x))(k:∀ b u,b≠e->h.get? b=some u->h'.get? b=some u)(heo:∃ u,h'.get? e=some u):Un fs ex H (upd H x o) h h':=by
 have hx:∀ b,H b=none->b≠x:=fun b n z=>by subst z;rw[n] at mu;exact mu
 have hb:∀ b,H b=none->b≠e:=fun b n z=>by
  subst z;rcases he with r|r
  ·exact hx b n r
  ·rw[n] at r;cases r
 have hm:∀ b u,H b=some u->¬Mut (some u)->b≠x:=fun b u q nm z=>by subst z;rw[q] at mu;exact nm mu
 refine⟨fun b u q n _ _=>k b u (hb b n) q,fun b u q n _ _=>⟨u.slots,k b u (hb b n) q⟩,fun b u q n _=>by rw[aN (hx b n)];exact n,fun b u q _=>?_,
  fun b xs q=>by rw[aN (hm b _ q fun z=>z)];exact q,fun b u xs q=>by rw[aN (hm b _ q fun z=>z)];exact q,fun b ps q=>⟨#[],by rw[aN (hm b _ q fun z=>z),q];simp⟩⟩
 by_cases hbe:b=e
 ·subst hbe;exact heo
 ·exact⟨u,k b u hbe q⟩
theorem Un.mono(u:Un fs ex H H1 h h1)(hs:∀ b∈fs,b∈fs')(hx:∀ b∈ex,b∈ex'):Un fs' ex' H H1 h h1:=
 ⟨fun b ob q n hb he=>u.keep b ob q n (fun z=>hb (hs b z)) fun z=>he (hx b z),fun _ _ q n _ he=>u.any q n fun z=>he (hx _ z),fun b ob q n he=>u.free b ob q n fun z=>he (hx b z),fun b ob q he=>u.there b ob q fun z=>he (hx b z),u.tups,u.qH,u.sI⟩
end
def trk(h:Heap)(H:Hp):List Addr:=(List.range h.objs.size).filter fun a=>(H a).isSome
def Eh(h:Heap)(H:Hp):Heap:=PySem.W.hideAll h (trk h H)
theorem Pu(h:Heap)(H:Hp):(Eh h H).objs.size=h.objs.size:=PySem.W.hideAll_size _ _
theorem Ro{h:Heap}{H:Hp}{b:Addr}{o:Obj}(e:h.get? b=some o)(n:H b=none):(Eh h H).get? b=some o:=
 Vm _ e fun hm=>by
  have q:(H b).isSome=true:=(bZ.mp hm).2;rw[n] at q;simp at q
theorem Wt{h:Heap}{H:Hp}{b:Addr}{o:Obj}(e:(Eh h H).get? b=some o):h.get? b=some o/\H b=none:=by
 have e':h.get? b=some o:=Vs (trk h H) e;refine⟨e',?_⟩;cases q:H b with
 |none=>rfl
 |some x=>
  have hm:b∈trk h H:=bZ.mpr ⟨cH.mpr (bR e'),by simp[q]⟩;have z:(Eh h H).get? b=none:=PySem.W.hideAll_none (trk h H) hm;rw[z] at e;cases e
structure Mod(K:ak)(mg:Str->Option Value)(base:Heap):Prop where
 kin:K.In base
 glob:base.Ns mainGlobals mg
 blt:∃ mb,base.Ns builtinsNs mb/\∀ x:Str,x ≠ "__name__" -> mb x=bootBuiltins x
 nolimit:base.NoLimit
structure Cx where
 prog:Program
 w:World
 K:ak
 mg:Str->Option Value
 base:Heap
 A:Around
 N:List Str
 s₀:Shared
 H₀:Hp
 env:Env
 outer:List Env
 stack:List Env
 ex:List Addr
 fn:Str->Bool
 calm:Bool
 pn:List (Addr×Obj)
 xe:Value->Shared->Prop
def frs(l:List Env):List Addr:=l.filterMap (·.frame)
abbrev Cx.fs(X:Cx):List Addr:=frs X.outer
def Vis(sc:Scope)(x:Str):Prop:=sc.names.lookup x=some .local\/sc.names.lookup x=some .cell\/sc.names.lookup x=some .free
def Loc(sc:Scope)(x:Str):Prop:=sc.names.lookup x=some .local\/sc.names.lookup x=some .cell
def Look(env:Env)(h:Heap)(m:Str->Option Value)(x:Str)(u:Value):Prop:=
 (env.kindOf x=some .local/\m x=some u)\/((env.kindOf x=some .cell\/env.kindOf x=some .free)/\∃ c,env.cells.lookup x=some c/\h.IsCell c (some u))
structure Cx.Ok(X:Cx):Prop where
 mod:Mod X.K X.mg X.base
 kind:X.env.scope.kind=.function
 glob:X.env.globals=mainGlobals
 blt:X.env.builtins=builtinsNs
 above:X.s₀.heap.objs.size<=X.env.locals
 inj:∀ x y c,X.env.cells.lookup x=some c->X.env.cells.lookup y=some c->x=y
 has:∀ x,(X.env.kindOf x=some .cell\/X.env.kindOf x=some .free)->∃ c,X.env.cells.lookup x=some c
 cab:∀ x c,X.fn x=true->X.env.cells.lookup x=some c->X.s₀.heap.objs.size<=c
 hd:X.calm=true->X.A.handled=none
 frames:X.A.frames=some X.stack
 stk:X.stack=X.outer\/(X.stack=X.env::X.outer/\X.env.frame=some X.env.locals)
 exf:∀ b∈X.ex,b≠X.env.locals/\∀ x c,X.env.cells.lookup x=some c->c≠b
 bs:∀ b o,X.base.get? b=some o->X.s₀.heap.get? b=some o/\X.H₀ b=none
 bsz:X.base.objs.size<=X.s₀.heap.objs.size
 JT:∀ b o,X.base.get? b=some o->b∉X.ex
 P0:∀ b∈X.ex,b∉X.fs
 tu:X.s₀.heap.FunFrames X.base X.outer
 frf:∀ b∈X.fs,X.H₀ b=none
structure Inv(X:Cx)(pins:List (Addr×Obj))(zzs:List (Option V))(H:Hp)(s:Shared):Prop where
 ok:X.Ok
 os:s.os=X.s₀.os
 bare:AllBare s.gens
 base:Un X.fs X.ex X.H₀ H X.s₀.heap s.heap
 loc:∃ m,s.heap.Ns X.env.locals m/\∀(i:Nat)(x:Str)(v:V),X.N[i]?=some x->zzs[i]?=some (some v)->Vis X.env.scope x->∃ u,RelV v u/\Look X.env s.heap m x u
 cell:∀ x c,X.env.cells.lookup x=some c->∃ v,s.heap.IsCell c v
 free:H X.env.locals=none
 lO:∀ x c,X.env.cells.lookup x=some c->H c=none
 pin:∀ p∈X.pn++pins,s.heap.get? p.1=some p.2/\H p.1=none/\p.1≠X.env.locals/\p.1∉X.fs/\∀ v,p.2.data≠.cell v
 hok:HOk X.prog X.w H s.heap
 len:zzs.length=X.N.length
section
variable{X:Cx}{pins:List (Addr×Obj)}{zzs:List (Option V)}{H H':Hp}{s:Shared}{h':Heap}
theorem Cx.Ok.a2t(ok:X.Ok){b:Addr}{o:Obj}(e:X.base.get? b=some o):b∉X.fs:=fun hb=>by
 have:=(ok.tu.mem hb).1;rw[e] at this;cases this
theorem Inv.bs(I:Inv X pins zzs H s):∀ b o,X.base.get? b=some o->s.heap.get? b=some o/\H b=none:=fun b o e=>
 ⟨I.base.keep b o (I.ok.bs b o e).1 (I.ok.bs b o e).2 (I.ok.a2t e) (I.ok.JT b o e),I.base.free b o (I.ok.bs b o e).1 (I.ok.bs b o e).2 (I.ok.JT b o e)⟩
theorem Inv.bk(I:Inv X pins zzs H s):∀ b o,X.base.get? b=some o->s.heap.get? b=some o:=fun b o e=>(I.bs b o e).1
theorem Inv.mod(I:Inv X pins zzs H s):Mod X.K X.mg X.base:=I.ok.mod
theorem Inv.kIn(I:Inv X pins zzs H s):X.K.In s.heap:=I.ok.mod.kin.keeps I.bk
theorem Inv.lt(I:Inv X pins zzs H s):X.env.locals<s.heap.objs.size:=let ⟨_,hn,_⟩:=I.loc;hn.lt
theorem Inv.sz(I:Inv X pins zzs H s):X.s₀.heap.objs.size<=s.heap.objs.size:=dN I.ok.above (Gq I.lt)
theorem Inv.a2u(I:Inv X pins zzs H s){a:Addr}(h:s.heap.objs.size<=a):a∉X.fs:=fun hb=>by
 obtain⟨_,o,ho,_⟩:=I.ok.tu.mem hb;exact absurd (jq (bR ho) (dN I.sz h)) (rK _)
theorem Inv.cne(I:Inv X pins zzs H s):∀ x c,X.env.cells.lookup x=some c->c≠X.env.locals:=fun x c e z=>by
 obtain⟨v,o,ho,hd⟩:=I.cell x c e;obtain⟨m,⟨o',es,ep,ho',hd',_⟩,_⟩:=I.loc;rw[z,ho'] at ho;cases ho;rw[hd'] at hd;cases hd
theorem Inv.tu(I:Inv X pins zzs H s):s.heap.FunFrames X.base X.outer:=by
 have all:∀(l:List Env),(∀ b∈frs l,b∈X.fs)->X.s₀.heap.FunFrames X.base l->s.heap.FunFrames X.base l:=by
  intro l
  induction l with
  |nil=>intro _ _;trivial
  |cons env r ih=>
   intro hs hl;obtain⟨hk,⟨L,o,hf,hn,ho,hd⟩,hr⟩:=hl;have hL:L∈X.fs:=hs L (by unfold frs;rw[LC,hf];exact cZ);obtain⟨sl,e⟩:=I.base.slot L o ho (I.ok.frf L hL) hL fun z=>I.ok.P0 L z hL
   exact⟨hk,⟨L,_,hf,hn,e,hd⟩,ih (fun b hb=>hs b (by unfold frs;rw[LC,hf];exact f9 _ hb)) hr⟩
 exact all X.outer (fun _ hb=>hb) I.ok.tu
theorem Inv.stack(I:Inv X pins zzs H s):s.heap.FunFrames X.base X.stack:=by
 rcases I.ok.stk with e|⟨e,hf⟩
 ·rw[e];exact I.tu
 ·rw[e];obtain⟨m,hn,_⟩:=I.loc;refine .cons (by rw[I.ok.kind];decide) hf hn ?_ I.tu;exact Heap.get?_none_of_le (dN I.ok.bsz I.ok.above)
theorem Inv.tR(I:Inv X pins zzs H s):∀ b∈frs X.stack,b∈X.env.locals::X.fs:=fun b hb=>by
 rcases I.ok.stk with e|⟨e,hf⟩
 ·rw[e] at hb;exact f9 _ hb
 ·rw[e] at hb;unfold frs at hb;rw[LC,hf] at hb;exact hb
theorem Inv.uZ(I:Inv X pins zzs H s):∀ b∈frs X.stack,H b=none:=fun b hb=>by
 rcases cW.mp (I.tR b hb) with e|hb
 ·rw[e];exact I.free
 ·obtain⟨_,o,ho,_⟩:=I.ok.tu.mem hb;exact I.base.free b o ho (I.ok.frf b hb) fun z=>I.ok.P0 b z hb
theorem Inv.step{g':Array GenState}{t':Nat}{d':Drawn}{ch:List Addr}(I:Inv X pins zzs H s)
  (hch:∀ b∈ch,(b∈X.ex\/X.s₀.heap.objs.size<=b)/\b≠X.env.locals/\(∀ x c,X.env.cells.lookup x=some c->c≠b)/\∀ p∈X.pn++pins,p.1≠b)
  (keep:∀ b o,b≠X.env.locals->b∉X.fs->b∉ch->s.heap.get? b=some o->H b=none->h'.get? b=some o)
  (slot:∀ b o,b≠X.env.locals->b∈X.fs->b∉ch->s.heap.get? b=some o->H b=none->∃ sl,h'.get? b=some { o with slots:=sl }) (free:∀ b o,b∉ch->s.heap.get? b=some o->H b=none->H' b=none)
  (there:∀ b o,b∉ch->s.heap.get? b=some o->∃ o',h'.get? b=some o')
  (tups:∀ b xs,H b=some (.tup xs)->H' b=some (.tup xs)) (qH:∀ b o u,H b=some (.frz o u)->H' b=some (.frz o u)) (sI:∀ b ps,H b=some (.tbl ps)->∃ more,H' b=some (.tbl (ps++more)))
  (ns:∀ m,s.heap.Ns X.env.locals m->h'.Ns X.env.locals m) (hok:HOk X.prog X.w H' h') (hg:AllBare g') :
  Inv X pins zzs H' { s with heap:=h',gens:=g',drawn:=d',toks:=t' }:=by
 have neL:∀ b o,X.s₀.heap.get? b=some o->b≠X.env.locals:=fun b o e=>fZ (jq (bR e) I.ok.above)
 have neC:∀ b o,X.s₀.heap.get? b=some o->b∉X.ex->b∉ch:=fun b o e hx hb=>by
  rcases(hch b hb).1 with z|z
  ·exact hx z
  ·exact absurd (jq (bR e) z) (rK _)
 have cellK:∀ x c,X.env.cells.lookup x=some c->∀ v,s.heap.IsCell c v->h'.IsCell c v:=fun x c e v ⟨o,ho,hd⟩=>by
  have nch:c∉ch:=fun z=>(hch c z).2.2.1 x c e rfl
  by_cases hc:c∈X.fs
  ·obtain⟨sl,q⟩:=slot c o (I.cne x c e) hc nch ho (I.lO x c e);exact⟨_,q,hd⟩
  ·exact⟨o,keep c o (I.cne x c e) hc nch ho (I.lO x c e),hd⟩
 refine⟨I.ok,I.os,hg,⟨fun b o e n hb hx=>?_,fun b o e n hb hx=>?_,fun b o e n hx=>?_,fun b o e hx=>?_,fun b xs e=>tups b xs (I.base.tups b xs e),fun b o xs e=>qH b o xs (I.base.qH b o xs e),fun b ps e=>?_⟩,?_,fun x c e=>?_,?_,fun x c e=>?_,fun p hp=>?_,hok,I.len⟩
 ·exact keep b o (neL b o e) hb (neC b o e hx) (I.base.keep b o e n hb hx) (I.base.free b o e n hx)
 ·obtain⟨sl,e1⟩:=I.base.slot b o e n hb hx;obtain⟨sl',e2⟩:=slot b _ (neL b o e) hb (neC b o e hx) e1 (I.base.free b o e n hx);exact⟨sl',e2⟩
 ·obtain⟨o',e1⟩:=I.base.there b o e hx;exact free b o' (neC b o e hx) e1 (I.base.free b o e n hx)
 ·obtain⟨o',e1⟩:=I.base.there b o e hx;exact there b o' (neC b o e hx) e1
 ·obtain⟨m1,e1⟩:=I.base.sI b ps e;obtain⟨m2,e2⟩:=sI b _ e1;exact⟨m1++m2,by rw[e2,Vr]⟩
 ·obtain⟨m,hn,hl⟩:=I.loc;refine⟨m,ns m hn,fun i x v e1 e2 e3=>?_⟩;obtain⟨u,r,l⟩:=hl i x v e1 e2 e3;refine⟨u,r,?_⟩;rcases l with l|⟨k,c,e,z⟩
  ·exact .inl l
  ·exact .inr ⟨k,c,e,cellK x c e _ z⟩
 ·obtain⟨v,z⟩:=I.cell x c e;exact⟨v,cellK x c e v z⟩
 ·obtain⟨m,⟨o,_,_,ho,_⟩,_⟩:=I.loc;exact free _ o (fun z=>(hch _ z).2.1 rfl) ho I.free
 ·obtain⟨v,o,ho,hd⟩:=I.cell x c e;exact free c o (fun z=>(hch c z).2.2.1 x c e rfl) ho (I.lO x c e)
 ·obtain⟨e,n,ne,nf,d⟩:=I.pin p hp;have nch:p.1∉ch:=fun z=>(hch p.1 z).2.2.2 p hp rfl
  exact⟨keep p.1 p.2 ne nf nch e n,free p.1 p.2 nch e n,ne,nf,d⟩
theorem Inv.un{t':Nat}(I:Inv X pins zzs H s)(u:Un X.fs [] H H' s.heap h')(hok:HOk X.prog X.w H' h'):Inv X pins zzs H' { s with heap:=h',toks:=t' }:=by
 obtain⟨m,⟨o,es,ep,ho,r⟩,_⟩:=id I.loc;obtain⟨sl,hL⟩:=u.any ho I.free (by simp);exact I.step (g':=s.gens) (d':=s.drawn) (ch:=[]) (fun _ z=>nomatch z) (fun b o _ hb _ e n=>u.keep b o e n hb (by simp)) (fun b o _ hb _ e n=>u.slot b o e n hb (by simp)) (fun b o _ e n=>u.free b o e n (by simp)) (fun b o _ e=>u.there b o e (by simp)) u.tups u.qH u.sI (fun m' hm=>by
  obtain⟨o',es',ep',ho',r'⟩:=hm;rw[ho] at ho';cases ho';exact⟨_,es',ep',hL,r'⟩) hok I.bare
theorem Inv.call{g':Array GenState}{t':Nat}{d':Drawn}{ch:List Addr}(I:Inv X pins zzs H s)(u:Un (frs X.stack) ch H H' s.heap h')(hok:HOk X.prog X.w H' h')(hg:AllBare g')
  (hch:∀ b∈ch,(b∈X.ex\/X.s₀.heap.objs.size<=b)/\b≠X.env.locals/\(∀ x c,X.env.cells.lookup x=some c->c≠b)/\∀ p∈X.pn++pins,p.1≠b) :
  Inv X pins zzs H' { s with heap:=h',gens:=g',drawn:=d',toks:=t' }:=by
 obtain⟨m,⟨o,es,ep,ho,r⟩,_⟩:=id I.loc;obtain⟨sl,hL⟩:=u.any ho I.free fun z=>(hch _ z).2.1 rfl
 exact I.step (ch:=ch) hch (fun b o hL hb hc e n=>u.keep b o e n (fun z=>(cW.mp (I.tR b z)).elim hL hb) hc) (fun b o _ _ hc e n=>u.any e n hc) (fun b o hc e n=>u.free b o e n hc) (fun b o hc e=>u.there b o e hc) u.tups u.qH u.sI (fun m' hm=>by
  obtain⟨o',es',ep',ho',r'⟩:=hm;rw[ho] at ho';cases ho';exact⟨_,es',ep',hL,r'⟩) hok hg
theorem Inv.turned{t':Nat}{it:Addr}(I:Inv X pins zzs H s)(k:∀ b o,b≠it->s.heap.get? b=some o->h'.get? b=some o)(hn:H it=none)(hL:it≠X.env.locals)
  (h1:it∈X.ex\/X.s₀.heap.objs.size<=it) (h2:∀ x c,X.env.cells.lookup x=some c->c≠it) (h3:∀ p∈X.pn++pins,p.1≠it):Inv X pins zzs H { s with heap:=h',toks:=t' }:=by
 have nit:∀ b u,H b=some u->b≠it:=fun b u e z=>by rw[z,hn] at e;cases e
 refine I.step (g':=s.gens) (d':=s.drawn) (ch:=[it]) (fun b hb=>?_) (fun b o _ _ hc e _=>k b o (fun z=>hc (by simp[z])) e) (fun b o _ _ hc e _=>⟨o.slots,k b o (fun z=>hc (by simp[z])) e⟩) (fun _ _ _ _ n=>n)
  (fun b o hc e=>⟨o,k b o (fun z=>hc (by simp[z])) e⟩) (fun _ _ e=>e) (fun _ _ _ e=>e) (fun b ps e=>⟨#[],by rw[e];simp⟩) (fun m hm=>?_) (fun b u e=>?_) I.bare
 ·have e:b=it:=by simpa using hb
  subst e;exact⟨h1,hL,h2,h3⟩
 ·obtain⟨o,es,ep,ho,r⟩:=hm;exact⟨o,es,ep,k _ o (mz hL) ho,r⟩
 ·refine(I.hok b u e).stay (fun c v hc q=>k c v ?_ q) (fun _ q=>q) fun _ _ q=>q
  rcases hc with z|z
  ·rw[z];exact nit b u e
  ·exact nit c _ z
theorem Inv.tok(I:Inv X pins zzs H s)(t:Nat):Inv X pins zzs H { s with toks:=t }:=I.un (h':=s.heap) (t':=t) Un.refl I.hok
theorem Inv.kept{t':Nat}(I:Inv X pins zzs H s)(k:∀ b u,s.heap.get? b=some u->h'.get? b=some u):Inv X pins zzs H { s with heap:=h',toks:=t' }:=I.un (Un.kept k) (I.hok.kept k)
theorem Inv.laid{a:Addr}{o:HO}{t':Nat}(I:Inv X pins zzs H s)(k:∀ b u,s.heap.get? b=some u->h'.get? b=some u)(hp:s.heap.objs.size<=a)(new:gF X.prog X.w (upd H a o) h' a o) :
  Inv X pins zzs (upd H a o) { s with heap:=h',toks:=t' }:=I.un (Un.laid k hp (I.hok.fresh hp)) (I.hok.laid k hp new)
theorem Inv.write{x e:Addr}{o:HO}{t':Nat}(I:Inv X pins zzs H s)(mu:Mut (H x))(he:e=x\/H e=some (.own x))(k:∀ b u,b≠e->s.heap.get? b=some u->h'.get? b=some u)(heo:∃ u,h'.get? e=some u)
  (new:gF X.prog X.w (upd H x o) h' x o):Inv X pins zzs (upd H x o) { s with heap:=h',toks:=t' }:=I.un (Un.write mu he k heo) (I.hok.write mu he k heo new)
theorem Inv.uN{Ij:List (Addr×Obj)}(I:Inv X pins zzs H s)(h:∀ p∈Ij,s.heap.get? p.1=some p.2/\H p.1=none/\p.1≠X.env.locals/\p.1∉X.fs/\∀ v,p.2.data≠.cell v):Inv X Ij zzs H s:=
 ⟨I.ok,I.os,I.bare,I.base,I.loc,I.cell,I.free,I.lO,fun p hp=>(cB.mp hp).elim (fun z=>I.pin p (fW _ z)) (h p),I.hok,I.len⟩
theorem I8{N:List Str}(hN:N.Nodup){i j:Nat}{x:Str}(a:N[i]?=some x)(b:N[j]?=some x):i=j:=by
 obtain⟨h1,e1⟩:=mZ.mp a;obtain⟨h2,e2⟩:=mZ.mp b;exact(List.getElem_inj hN).mp (e1.trans e2.symm)
theorem Di{M:Model}{A:Around}{E:Value->Shared->Prop}{i:Nat}{x:Str}{v:V}{u:Value}{Q:Unit->Shared->Prop}(I:Inv X pins zzs H s)(hN:X.N.Nodup)(hi:X.N[i]?=some x)(hx:Loc X.env.scope x)(r:RelV v u)
  (h:∀ s',Inv X pins (zzs.set i (some v)) H s'->(∃ a,Heap.SameBut a s.heap s'.heap/\(a=X.env.locals\/X.env.cells.lookup x=some a))->Q () s') (hf:X.fn x=true\/X.env.scope.names.lookup x=some .local:=by first|exact .inl rfl|exact .inr rfl|assumption):wpAny M A (storeName X.env x u) Q E s:=by
 obtain⟨m,hn,hl⟩:=id I.loc;have hcls:(X.env.scope.kind==.class||(X.env.scope.kind==.module&&X.env.locals != X.env.globals))=false:=by rw[I.ok.kind];rfl
 have Y9:i<zzs.length:=by rw[I.len];exact(mZ.mp hi).1
 have cne:=I.cne;have tracked:∀ {a:Addr} {h':Heap},(∃ o,s.heap.get? a=some o/\H a=none)->Heap.SameBut a s.heap h'->HOk X.prog X.w H h':=fun {a h'} ha hs b ob e=>by
  obtain⟨_,_,hfree⟩:=ha;refine(I.hok b ob e).stay (fun c w' hc q=>(hs.2 c ?_).trans q) (fun _ q=>q) fun _ _ q=>q
  rintro rfl;rcases hc with rfl|hc
  ·rw[hfree] at e;cases e
  ·rw[hfree] at hc;cases hc
 rcases hx with hk|hk
 ·refine wpAny_storeName_local hk hn (fun h' hn' hs=>?_) hcls;obtain⟨oL,_,_,hoL,_⟩:=id hn;refine h _ ⟨I.ok,I.os,I.bare,⟨fun b o e n hb hx=>?_,fun b o e n hb hx=>?_,I.base.free,fun b o e hx=>?_,I.base.tups,I.base.qH,I.base.sI⟩,⟨_,hn',fun j y v' e1 e2 e3=>?_⟩,fun y c e=>?_,I.free,I.lO,fun p hp=>?_,tracked ⟨oL,hoL,I.free⟩ hs,by simpa using I.len⟩ ⟨_,hs,.inl rfl⟩
  ·exact(hs.2 b (fZ (jq (bR e) I.ok.above))).trans (I.base.keep b o e n hb hx)
  ·obtain⟨sl,e1⟩:=I.base.slot b o e n hb hx;exact⟨sl,(hs.2 b (fZ (jq (bR e) I.ok.above))).trans e1⟩
  ·obtain⟨o',e1⟩:=I.base.there b o e hx;exact⟨o',(hs.2 b (fZ (jq (bR e) I.ok.above))).trans e1⟩
  ·by_cases hj:j=i
   ·subst hj;rw[hi] at e1;cases e1;rw[Li Y9] at e2;cases e2;exact⟨u,r,.inl ⟨hk,by simp⟩⟩
   ·rw[Vh (mz hj)] at e2;obtain⟨u',r',q⟩:=hl j y v' e1 e2 e3;refine⟨u',r',?_⟩;rcases q with⟨k,e⟩|⟨k,c,e,z⟩
    ·refine .inl ⟨k,?_⟩;have:y≠x:=fun e=>hj (I8 hN e1 (e▸hi))
     simp[this,e]
    ·exact .inr ⟨k,c,e,z.sameBut hs (cne y c e)⟩
  ·obtain⟨w',z⟩:=I.cell y c e;exact⟨w',z.sameBut hs (cne y c e)⟩
  ·obtain⟨e,n,ne,nf,d⟩:=I.pin p hp;exact⟨(hs.2 p.1 ne).trans e,n,ne,nf,d⟩
 ·have hfn:X.fn x=true:=by
   rcases hf with z|z
   ·exact z
   ·rw[z] at hk;cases hk
  obtain⟨c,hc⟩:=I.ok.has x (.inl hk);obtain⟨w',z⟩:=I.cell x c hc;refine wpAny_storeName_cell I.ok.kind hk hc z (fun h' hc' hs=>?_);obtain⟨oc,hoc,a2i⟩:=id z;refine h { s with heap:=h' } ⟨I.ok,I.os,I.bare,⟨fun b o e n hb hx=>?_,fun b o e n hb hx=>?_,I.base.free,fun b o e hx=>?_,I.base.tups,I.base.qH,I.base.sI⟩,⟨m,hn.sameBut hs (mz (cne x c hc)),fun j y v' e1 e2 e3=>?_⟩,fun y c' e=>?_,I.free,I.lO,fun p hp=>?_,tracked ⟨oc,hoc,I.lO x c hc⟩ hs,by simpa using I.len⟩ ⟨c,hs,.inr hc⟩
  ·exact(hs.2 b (fZ (jq (bR e) (I.ok.cab x c hfn hc)))).trans (I.base.keep b o e n hb hx)
  ·obtain⟨sl,e1⟩:=I.base.slot b o e n hb hx;exact⟨sl,(hs.2 b (fZ (jq (bR e) (I.ok.cab x c hfn hc)))).trans e1⟩
  ·obtain⟨o',e1⟩:=I.base.there b o e hx;exact⟨o',(hs.2 b (fZ (jq (bR e) (I.ok.cab x c hfn hc)))).trans e1⟩
  ·by_cases hj:j=i
   ·subst hj;rw[hi] at e1;cases e1;rw[Li Y9] at e2;cases e2;exact⟨u,r,.inr ⟨.inl hk,c,hc,hc'⟩⟩
   ·rw[Vh (mz hj)] at e2;obtain⟨u',r',q⟩:=hl j y v' e1 e2 e3;refine⟨u',r',?_⟩;rcases q with q|⟨k,c',e,z'⟩
    ·exact .inl q
    ·refine .inr ⟨k,c',e,z'.sameBut hs ?_⟩;rintro rfl;exact hj (I8 hN e1 (I.ok.inj _ _ _ e hc▸hi))
  ·by_cases hcc:c'=c
   ·subst hcc;exact⟨_,hc'⟩
   ·obtain⟨w2,z2⟩:=I.cell y c' e;exact⟨w2,z2.sameBut hs hcc⟩
  ·obtain⟨e,n,ne,nf,d⟩:=I.pin p hp;refine⟨(hs.2 p.1 ?_).trans e,n,ne,nf,d⟩;intro q;rw[q,hoc] at e;have q':oc=p.2:=iJ e;exact d w' (by rw[<- q'];exact a2i)
theorem qZ{M:Model}{A:Around}{E:Value->Shared->Prop}{i:Nat}{x:Str}{v:V}{u:Value}{Q:Unit->Shared->Prop}(I:Inv X pins zzs H s)(hN:X.N.Nodup)(hi:X.N[i]?=some x)(hx:Loc X.env.scope x)(r:RelV v u)
  (h:∀ s',Inv X pins (zzs.set i (some v)) H s'->Q () s') (hf:X.fn x=true\/X.env.scope.names.lookup x=some .local:=by first|exact .inl rfl|exact .inr rfl|assumption):wpAny M A (storeName X.env x u) Q E s:=
 Di I hN hi hx r (fun s' I' _=>h s' I') hf
theorem Inv.call'{s':Shared}{ch:List Addr}(I:Inv X pins zzs H s)(ho:s'.os=s.os)(u:Un (frs X.stack) ch H H' s.heap s'.heap)(hok:HOk X.prog X.w H' s'.heap)(hg:AllBare s'.gens)
  (hch:∀ b∈ch,(b∈X.ex\/X.s₀.heap.objs.size<=b)/\b≠X.env.locals/\(∀ x c,X.env.cells.lookup x=some c->c≠b)/\∀ p∈X.pn++pins,p.1≠b):Inv X pins zzs H' s':=by
 obtain⟨h',g',d',t',o'⟩:=s';have e:o'=s.os:=ho;subst e;exact I.call (g':=g') (t':=t') (d':=d') u hok hg hch
end
abbrev XK:=Value->Option Addr->Hp->Prop
abbrev St:=List (Option V)
abbrev VK:=V->Hp->Prop
abbrev TE:=St->Hp->VK->Prop
abbrev TT:=St->Hp->(Bool->Hp->Prop)->Prop
abbrev TA:=St->Hp->(List V->Hp->Prop)->Prop
structure Ends where
 nx:St->Hp->Prop
 rt:VK
 bk:St->Hp->Prop:=fun _ _=>False
 ct:St->Hp->Prop:=fun _ _=>False
abbrev TS:=Ends->St->Hp->Prop
def EP(X:Cx)(pins:List (Addr×Obj))(zzs:St)(Q:VK)(u:Value)(s':Shared):Prop:=∃ v H',Inv X pins zzs H' s'/\RelV v u/\Q v H'
def TP(X:Cx)(pins:List (Addr×Obj))(zzs:St)(Q:Bool->Hp->Prop)(b:Bool)(s':Shared):Prop:=∃ H',Inv X pins zzs H' s'/\Q b H'
def AP(X:Cx)(pins:List (Addr×Obj))(zzs:St)(Q:List V->Hp->Prop)(us:List Value)(s':Shared):Prop:=∃ vs H',Inv X pins zzs H' s'/\Vals vs us/\Q vs H'
def SP(X:Cx)(pins:List (Addr×Obj))(D:Ends)(f:Flow)(s':Shared):Prop:=
 match f with
 |.next=>∃ bH H',Inv X pins bH H' s'/\D.nx bH H'
 |.brk=>∃ bH H',Inv X pins bH H' s'/\D.bk bH H'
 |.cont=>∃ bH H',Inv X pins bH H' s'/\D.ct bH H'
 |.ret u=>∃ v bH H',Inv X pins bH H' s'/\RelV v u/\D.rt v H'
def PE(X:Cx)(e:Expr)(t:TE):Prop:=
 ∀(pins:List (Addr×Obj))(s:Shared)(zzs:St)(H:Hp)(Q:VK),Inv X pins zzs H s->t zzs H Q->wpAny (model X.prog X.w) X.A (eval e X.env) (EP X pins zzs Q) X.xe s
def PT(X:Cx)(e:Expr)(t:TT):Prop:=
 ∀(pins:List (Addr×Obj))(s:Shared)(zzs:St)(H:Hp)(Q:Bool->Hp->Prop),Inv X pins zzs H s->t zzs H Q->wpAny (model X.prog X.w) X.A (isTrue e X.env (eval e X.env)) (TP X pins zzs Q) X.xe s
def PW(X:Cx)(e:Expr)(t:TT):Prop:=
 ∀(whole:Sem Value)(pins:List (Addr×Obj))(s:Shared)(zzs:St)(H:Hp)(Q:Bool->Hp->Prop),Inv X pins zzs H s->t zzs H Q->wpAny (model X.prog X.w) X.A (isTrue e X.env whole) (TP X pins zzs Q) X.xe s
theorem PW.pt{X:Cx}{e:Expr}{t:TT}(h:PW X e t):PT X e t:=h _
def PA(X:Cx)(es:List Expr)(t:TA):Prop:=
 ∀(pos:Pos)(pins:List (Addr×Obj))(s:Shared)(zzs:St)(H:Hp)(Q:List V->Hp->Prop),Inv X pins zzs H s->t zzs H Q->wpAny (model X.prog X.w) X.A (spliced (backTo pos (starEach es X.env))) (AP X pins zzs Q) X.xe s
def PS(X:Cx)(st:Stmt)(t:TS):Prop:=
 ∀(pins:List (Addr×Obj))(s:Shared)(zzs:St)(H:Hp)(D:Ends),Inv X pins zzs H s->t D zzs H->wpAny (model X.prog X.w) X.A (exec st X.env) (SP X pins D) X.xe s
def PSs(X:Cx)(st:List Stmt)(t:TS):Prop:=
 ∀(pins:List (Addr×Obj))(s:Shared)(zzs:St)(H:Hp)(D:Ends),Inv X pins zzs H s->t D zzs H->wpAny (model X.prog X.w) X.A (execs st X.env) (SP X pins D) X.xe s
theorem thn{α:Type}{t:Sem α}{Q Q':α->Shared->Prop}{M:Model}{A:Around}{E:Value->Shared->Prop}{s:Shared}(h:wpAny M A t Q E s)(hQ:∀ a s,Q a s->Q' a s):wpAny M A t Q' E s:=jw h hQ fun _ _ x=>x
section
variable{X:Cx}
def a1P(i:Nat):TE:=fun zzs H Q=>∃ v,zzs[i]?=some (some v)/\Q v H
def tC(v:V):TE:=fun _ H Q=>Q v H
theorem a06{i:Nat}{x:Str}{pos:Pos}(hN:X.N[i]?=some x)(hv:Vis X.env.scope x) (hd:(x==("__debug__" : Str))=false:=by decide) (hcd:(x==("__classdict__" : Str))=false:=by decide):PE X (.Name x pos) (a1P i):=by
 intro pins s zzs H Q I h;obtain⟨v,e,h⟩:=h;obtain⟨m,hn,hl⟩:=I.loc;obtain⟨u,r,l⟩:=hl i x v hN e hv;have fin:EP X pins zzs Q u s:=⟨v,H,I,r,h⟩
 rcases l with⟨hk,hm⟩|⟨hk,c,hc,hcell⟩
 ·exact wpAny_Name (wpAny_loadName_local I.ok.kind hk hn hm fin) hd
 ·rcases hk with hk|hk
  ·exact wpAny_Name (wpAny_loadName_cell I.ok.kind hk hc hcell fin) hd
  ·exact wpAny_Name (wpAny_loadName_free I.ok.kind hk hc hcell fin hcd) hd
theorem ZX {i j pos}:PE X (.Constant (.int i) j pos) (tC (.int i)):=fun _ _ _ H _ I h=>wpAny_Constant_int ⟨.int i,H,I.tok _,⟨_,rfl⟩,h⟩
theorem a1g {b j pos}:PE X (.Constant (.bool b) j pos) (tC (.bl b)):=fun _ _ _ H _ I h=>Constant_bool ⟨.bl b,H,I,rfl,h⟩
theorem a01 {j pos}:PE X (.Constant .none j pos) (tC .non):=fun _ _ _ H _ I h=>Constant_none ⟨.non,H,I,rfl,h⟩
theorem a04 {x j pos}:PE X (.Constant (.str x) j pos) (tC (.str x)):=fun _ _ _ H _ I h=>Calls.Constant_str ⟨.str x,H,I.tok _,⟨_,rfl⟩,h⟩
def Gl(X:Cx)(x:Str):Prop:=X.env.kindOf x=some .globalImplicit
theorem uH{E:Value->Shared->Prop}{pins:List (Addr×Obj)}{s:Shared}{zzs:St}{H:Hp}{x:Str}{u:Value}{pos:Pos}{Q:Value->Shared->Prop}(I:Inv X pins zzs H s)(hg:Gl X x)(hm:X.mg x=some u)(h:Q u s)
  (hd:(x==("__debug__" : Str))=false:=by decide):wpAny (model X.prog X.w) X.A (eval (.Name x pos) X.env) Q E s:=
 Uv I.ok.kind hg (Calls.loadGlobal_global (by rw[I.ok.glob];exact I.mod.glob.keeps I.bk) hm h) hd
theorem Em{E:Value->Shared->Prop}{pins:List (Addr×Obj)}{s:Shared}{zzs:St}{H:Hp}{x:Str}{u:Value}{pos:Pos}{Q:Value->Shared->Prop}(I:Inv X pins zzs H s)(hg:Gl X x)(hm:X.mg x=none)(hv:bootBuiltins x=some u)(h:Q u s)
  (hn:x ≠ "__name__":=by decide) (hd:(x==("__debug__" : Str))=false:=by decide):wpAny (model X.prog X.w) X.A (eval (.Name x pos) X.env) Q E s:=by
 obtain⟨mb,h1,h2⟩:=I.mod.blt;exact Uv I.ok.kind hg (Calls.loadGlobal_builtin (by rw[I.ok.glob];exact I.mod.glob.keeps I.bk) hm (by rw[I.ok.blt];exact h1.keeps I.bk) ((h2 x hn).trans hv) h) hd
theorem Ny{x:Str}{v:V}{u:Value}{pos:Pos}(hg:Gl X x)(hm:X.mg x=some u)(r:RelV v u) (hd:(x==("__debug__" : Str))=false:=by decide):PE X (.Name x pos) (tC v):=
 fun _ _ _ H _ I h=>uH I hg hm ⟨v,H,I,r,h⟩ hd
variable{a b:Expr}{ta tb:TE}{pos:Pos}
def tB(t:TE):TT:=fun zzs H Q=>t zzs H fun x H1=>∃ c,x=.bl c/\Q c H1
theorem a0i{e:Expr}{t:TE}(h:PE X e t)(he:∀ whole,isTrue e X.env whole=(do let v <- whole;standAt e.pos;holding [v] (truthy v)):=by intro _;rfl):PT X e (tB t):=by
 intro pins s zzs H Q I hw;refine isTrue_plain (thn (h pins s zzs H _ I hw) fun v s1 zzy=>?_) (he _);obtain⟨x,H1,I1,r1,q1⟩:=zzy;obtain⟨d,rfl,q⟩:=q1;cases r1;exact vg ⟨H1,I1,q⟩
variable{tA tB':TT}{rest:List Expr}
def a1H(t u:TT):TT:=fun zzs H Q=>t zzs H fun c H1=>if c=true then u zzs H1 Q else Q false H1
def tOr(t u:TT):TT:=fun zzs H Q=>t zzs H fun c H1=>if c=true then Q true H1 else u zzs H1 Q
def a1L(t:TT):TT:=fun zzs H Q=>t zzs H fun c H1=>Q (!c) H1
theorem pw_and1(ha:PT X a tA):PW X (.BoolOp .And [a] pos) tA:=by
 intro wh pins s zzs H Q I h;refine isTrue_and (thn (ha pins s zzs H Q I h) fun c s1 e=>?_);cases c with
 |true=>exact isTrue_and_nil e
 |false=>exact e
theorem pw_or1(ha:PT X a tA):PW X (.BoolOp .Or [a] pos) tA:=by
 intro wh pins s zzs H Q I h;refine isTrue_or (thn (ha pins s zzs H Q I h) fun c s1 e=>?_);cases c with
 |false=>exact isTrue_or_nil e
 |true=>exact e
theorem pw_and(ha:PT X a tA)(hb:PW X (.BoolOp .And (b::rest) pos) tB'):PW X (.BoolOp .And (a::b::rest) pos) (a1H tA tB'):=by
 intro wh pins s zzs H Q I h;refine isTrue_and (thn (ha pins s zzs H _ I h) fun c s1 zzy=>?_);obtain⟨H1,I1,q1⟩:=zzy;cases c with
 |true=>exact hb wh pins s1 zzs H1 Q I1 q1
 |false=>exact⟨H1,I1,q1⟩
theorem pw_or(ha:PT X a tA)(hb:PW X (.BoolOp .Or (b::rest) pos) tB'):PW X (.BoolOp .Or (a::b::rest) pos) (tOr tA tB'):=by
 intro wh pins s zzs H Q I h;refine isTrue_or (thn (ha pins s zzs H _ I h) fun c s1 zzy=>?_);obtain⟨H1,I1,q1⟩:=zzy;cases c with
 |true=>exact⟨H1,I1,q1⟩
 |false=>exact hb wh pins s1 zzs H1 Q I1 q1
theorem a0h(ha:PT X a tA):PT X (.UnaryOp .Not a pos) (a1L tA):=by
 intro pins s zzs H Q I h;exact isTrue_not (ha pins s zzs H (fun c H1=>Q (!c) H1) I h)
def Ym(ta tb:TE):TE:=fun zzs H Q=>ta zzs H fun x H1=>∃ c,x=.bl c/\if c=true then tb zzs H1 Q else Q (.bl false) H1
def Yr(ta:TE):TE:=fun zzs H Q=>ta zzs H fun x H1=>∃ c,x=.bl c/\Q (.bl (!c)) H1
theorem a03 {op} {t:TE} (h:PE X a t):PE X (.BoolOp op [a] pos) t:=fun pins s zzs H Q I hw=>BoolOp_one (h pins s zzs H Q I hw)
theorem ZR(ha:PE X a ta)(hb:PE X (.BoolOp .And (b::rest) pos) tb):PE X (.BoolOp .And (a::b::rest) pos) (Ym ta tb):=by
 intro pins s zzs H Q I h;refine BoolOp_and (thn (ha pins s zzs H _ I h) fun v s1 zzy=>?_);obtain⟨x,H1,I1,r1,q1⟩:=zzy;obtain⟨c,rfl,q1⟩:=q1;cases r1;refine vg ?_;cases c with
 |true=>exact hb pins s1 zzs H1 Q I1 q1
 |false=>exact⟨.bl false,H1,I1,rfl,q1⟩
theorem a02(ha:PE X a ta):PE X (.UnaryOp .Not a pos) (Yr ta):=by
 intro pins s zzs H Q I h;refine UnaryOp_ (thn (ha pins s zzs H _ I h) fun v s1 zzy=>?_);obtain⟨x,H1,I1,r1,q1⟩:=zzy;obtain⟨c,rfl,q1⟩:=q1;cases r1;exact not_of (vg ⟨.bl (!c),H1,I1,rfl,q1⟩)
end
def SqL(K:ak)(H:Hp)(a:Addr)(xs:List V):Prop:=
 Rd H a (.lst xs) \/
  ∃(o:Obj)(its:Array Value)(n:Nat),K.lookup a=some o/\o.cls=.type "list" /\ o.dict=none/\o.data=.seq its n/\its.size<=sizeLine/\Vals xs its.toList
def SqT(K:ak)(H:Hp)(a:Addr)(xs:List V):Prop:=
 Rd H a (.tup xs) \/
  ∃(o:Obj)(its:Array Value)(n:Nat),K.lookup a=some o/\o.cls=.type "tuple" /\ o.data=.seq its n/\its.size<=sizeLine/\Vals xs its.toList
def a2b:Value->Option V
 |.none=>some .non
 |.bool b=>some (.bl b)
 |.int i _=>some (.int i)
 |.str x _=>some (.str x)
 |.bytes b _=>some (.byt b)
 |.float b _=>some (.flt b)
 |.ref a=>some (.ref a)
 |.type n=>some (.ty n)
 |_=>none
theorem RelV.abs{x:V}{u:Value}(r:RelV x u):a2b u=some x:=by
 cases x with
 |non=>cases r;rfl
 |bl _=>cases r;rfl
 |int _=>obtain⟨t,rfl⟩:=r;rfl
 |str _=>obtain⟨t,rfl⟩:=r;rfl
 |byt _=>obtain⟨t,rfl⟩:=r;rfl
 |flt _=>obtain⟨t,rfl⟩:=r;rfl
 |ref _=>cases r;rfl
 |ty _=>cases r;rfl
theorem RelV.inj{x y:V}{u:Value}(r:RelV x u)(q:RelV y u):x=y:=iJ (r.abs.symm.trans q.abs)
theorem Vals.inj:∀ {xs ys:List V} {us:List Value},Vals xs us->Vals ys us->xs=ys:=by
 intro xs ys us h
 induction h generalizing ys with
 |nil=>intro h;cases h;rfl
 |cons r _ ih=>intro h;cases h with|cons r' t'=>rw[r.inj r',ih t']
section
variable{X:Cx}{pins:List (Addr×Obj)}{zzs:St}{H:Hp}{s:Shared}{a:Addr}{xs ys:List V}
theorem SqL.of{K:ak}(h:H a=some (.lst xs)):SqL K H a xs:=.inl (.inl h)
theorem SqT.of{K:ak}(h:H a=some (.tup xs)):SqT K H a xs:=.inl (.inl h)
theorem Inv.list(I:Inv X pins zzs H s)(h:SqL X.K H a xs):∃ its:List Value,Vals xs its/\PlainL s.heap a its.toArray/\xs.length<=sizeLine:=by
 rcases h with h|⟨o,its,n,hk,hc,hd,hs,hz,r⟩
 ·obtain⟨z,its,n,r,e⟩:=h.ok I.hok;exact⟨its,r,⟨_,n,e,rfl,rfl,rfl⟩,z⟩
 ·refine⟨its.toList,r,⟨o,n,I.kIn a o hk,hc,hd,by simpa using hs⟩,?_⟩;have e:=r.length;simp only[mD] at e;lia
theorem Inv.tuple(I:Inv X pins zzs H s)(h:SqT X.K H a xs):∃ its:List Value,Vals xs its/\IsTup s.heap a its.toArray/\xs.length<=sizeLine:=by
 rcases h with h|⟨o,its,n,hk,hc,hs,hz,r⟩
 ·obtain⟨z,its,r,p⟩:=h.ok I.hok;exact⟨its,r,p,z⟩
 ·refine⟨its.toList,r,⟨o,I.kIn a o hk,hc,n,by simpa using hs⟩,?_⟩;have e:=r.length;simp only[mD] at e;lia
theorem Inv.HN(I:Inv X pins zzs H s)(h:SqL X.K H a xs)(h':SqL X.K H a ys):xs=ys:=by
 obtain⟨its,r,⟨o,n,e,_,_,d⟩,_⟩:=I.list h;obtain⟨its',r',⟨o',n',e',_,_,d'⟩,_⟩:=I.list h';rw[e] at e';cases e';rw[d] at d';injection d' with d1 _;have:its=its':=by simpa using congrArg Array.toList d1
 subst this;exact r.inj r'
theorem Inv.QC(I:Inv X pins zzs H s)(h:SqT X.K H a xs)(h':SqT X.K H a ys):xs=ys:=by
 obtain⟨its,r,⟨o,e,_,n,d⟩,_⟩:=I.tuple h;obtain⟨its',r',⟨o',e',_,n',d'⟩,_⟩:=I.tuple h';rw[e] at e';cases e';rw[d] at d';injection d' with d1 _;have:its=its':=by simpa using congrArg Array.toList d1
 subst this;exact r.inj r'
end
abbrev Cx.wish(X:Cx)(E:Value->Shared->Prop):Cx:={ X with xe:=E }
abbrev Cx.nox(X:Cx):Cx:=X.wish fun _ _=>False
theorem Cx.Ok.wish{X:Cx}(ok:X.Ok)(E:Value->Shared->Prop):(X.wish E).Ok:=
 ⟨ok.mod,ok.kind,ok.glob,ok.blt,ok.above,ok.inj,ok.has,ok.cab,ok.hd,ok.frames,ok.stk,ok.exf,ok.bs,ok.bsz,ok.JT,ok.P0,ok.tu,ok.frf⟩
theorem Cx.Ok.nF{X:Cx}{E:Value->Shared->Prop}(ok:(X.wish E).Ok):X.Ok:=
 ⟨ok.mod,ok.kind,ok.glob,ok.blt,ok.above,ok.inj,ok.has,ok.cab,ok.hd,ok.frames,ok.stk,ok.exf,ok.bs,ok.bsz,ok.JT,ok.P0,ok.tu,ok.frf⟩
section
variable{X:Cx}{pins:List (Addr×Obj)}{zzs:St}{H:Hp}{s:Shared}{E:Value->Shared->Prop}
theorem Inv.wish(I:Inv X pins zzs H s)(E:Value->Shared->Prop):Inv (X.wish E) pins zzs H s:=⟨I.ok.wish E,I.os,I.bare,I.base,I.loc,I.cell,I.free,I.lO,I.pin,I.hok,I.len⟩
theorem Inv.nF(I:Inv (X.wish E) pins zzs H s):Inv X pins zzs H s:=⟨I.ok.nF,I.os,I.bare,I.base,I.loc,I.cell,I.free,I.lO,I.pin,I.hok,I.len⟩
theorem SP.nF{D:Ends}{f:Flow}{s':Shared}(h:SP (X.wish E) pins D f s'):SP X pins D f s':=by
 cases f with
 |next=>obtain⟨bH,H',I,q⟩:=h;exact⟨bH,H',I.nF,q⟩
 |brk=>obtain⟨bH,H',I,q⟩:=h;exact⟨bH,H',I.nF,q⟩
 |cont=>obtain⟨bH,H',I,q⟩:=h;exact⟨bH,H',I.nF,q⟩
 |ret u=>obtain⟨v,bH,H',I,r,q⟩:=h;exact⟨v,bH,H',I.nF,r,q⟩
theorem PT.nox{e:Expr}{t:TT}(h:PT X.nox e t):PT X e t:=fun pins s zzs H Q I hw=>
 jw (h pins s zzs H Q (I.wish _) hw) (fun _ _ ⟨H',I',q⟩=>⟨H',I'.nF,q⟩) fun _ _ z=>False.elim z
theorem PSs.nox{st:List Stmt}{t:TS}(h:PSs X.nox st t):PSs X st t:=fun pins s zzs H D I hw=>
 jw (h pins s zzs H D (I.wish _) hw) (fun _ _ q=>q.nF) fun _ _ z=>False.elim z
end
section
variable{X:Cx}{st:Stmt}{rest:List Stmt}{t u:TS}{e:Expr}{te:TE}{pos:Pos}
def Yq:TS:=fun D zzs H=>D.nx zzs H
def a0s(t u:TS):TS:=fun D zzs H=>t { D with nx:=u D } zzs H
theorem Xg:PSs X [] Yq:=fun _ _ zzs H _ I h=>Bf ⟨zzs,H,I,h⟩
theorem Te(h1:PS X st t)(h2:PSs X rest u):PSs X (st::rest) (a0s t u):=by
 intro pins s zzs H D I h;refine wpAny_execs_cons (thn (h1 pins s zzs H { D with nx:=u D } I h) fun f s1 q=>?_);cases f with
 |next=>
  obtain⟨bH,H',I',q⟩:=q;exact h2 pins s1 bH H' D I' q
 |ret v=>exact q
 |brk=>exact q
 |cont=>exact q
theorem Xh(h1:PS X st t):PSs X [st] t:=by
 intro pins s zzs H D I h;refine wpAny_execs_cons (thn (h1 pins s zzs H D I h) fun f s1 q=>?_);cases f with
 |next=>exact Bf q
 |ret v=>exact q
 |brk=>exact q
 |cont=>exact q
theorem Inv.quiet{pins:List (Addr×Obj)}{zzs:St}{H:Hp}{s:Shared}(I:Inv X pins zzs H s):interactive X.env=false:=by simp[interactive,I.ok.kind]
def Yp(te:TE):TS:=fun D zzs H=>te zzs H fun _ H1=>D.nx zzs H1
theorem Xe(he:PE X e te)(hs:swapsWith e none pos.line X.env=pure false:=by rfl):PS X (.Expr e pos) (Yp te):=by
 intro pins s zzs H D I h;exact wpAny_Expr_any (thn (he pins s zzs H _ I h) fun v s1 ⟨x,H1,I1,r1,q1⟩=>⟨zzs,H1,I1,q1⟩) I.quiet hs
def a1N(te:TE):TS:=fun D zzs H=>te zzs H D.rt
theorem a0f(he:PE X e te):PS X (.Return (some e) pos) (a1N te):=by
 intro pins s zzs H D I h;exact wpAny_Return_some (thn (he pins s zzs H _ I h) fun v s1 ⟨x,H1,I1,r1,q1⟩=>⟨x,zzs,H1,I1,r1,q1⟩)
def a1J(c:TT)(t u:TS):TS:=fun D zzs H=>c zzs H fun b H1=>if b=true then t D zzs H1 else u D zzs H1
theorem a1o{c:Expr}{a b:List Stmt}{tc:TT}(hc:PT X c tc)(ha:PSs X a t)(hb:PSs X b u):PS X (.If c a b pos) (a1J tc t u):=by
 intro pins s zzs H D I h;refine wpAny_If (thn (hc pins s zzs H _ I h) fun d s1 zzy=>?_);obtain⟨H1,I1,q1⟩:=zzy;cases d with
 |true=>exact ha pins s1 zzs H1 D I1 q1
 |false=>exact hb pins s1 zzs H1 D I1 q1
end
abbrev TG:=V->St->Hp->(St->Hp->Prop)->Prop
abbrev TGs:=List V->St->Hp->(St->Hp->Prop)->Prop
def PG(X:Cx)(target:Expr)(t:TG):Prop:=
 ∀(pins:List (Addr×Obj))(s:Shared)(zzs:St)(H:Hp)(v:V)(u:Value)(Q:St->Hp->Prop),Inv X pins zzs H s->RelV v u->t v zzs H Q ->
  wpAny (model X.prog X.w) X.A (assign target X.env u) (fun _ s'=>∃ bH H',Inv X pins bH H' s'/\Q bH H') X.xe s
def PGs(X:Cx)(ts:List Expr)(t:TGs):Prop:=
 ∀(pins:List (Addr×Obj))(s:Shared)(zzs:St)(H:Hp)(vs:List V)(us:List Value)(Q:St->Hp->Prop),Inv X pins zzs H s->Vals vs us->t vs zzs H Q ->
  wpAny (model X.prog X.w) X.A (assignInOrder ((assignEach ts X.env).map (·.2)) us) (fun _ s'=>∃ bH H',Inv X pins bH H' s'/\Q bH H') X.xe s
abbrev Vy:=V->V->V->Hp->(Hp->Prop)->Prop
def Yu(X:Cx)(t:Vy):Prop:=
 ∀(pins:List (Addr×Obj))(s:Shared)(zzs:St)(H:Hp)(o i v:V)(ov iv u:Value)(Q:Hp->Prop),Inv X pins zzs H s->RelV o ov->RelV i iv->RelV v u->t o i v H Q ->
  wpAny (model X.prog X.w) X.A (setItem ov iv u) (fun _ s'=>∃ H',Inv X pins zzs H' s'/\Q H') X.xe s
section
variable{X:Cx}{pos:Pos}
def Nf(i:Nat):TG:=fun v zzs H Q=>Q (zzs.set i (some v)) H
theorem X5{i:Nat}{x:Str}(hN:X.N.Nodup)(hi:X.N[i]?=some x)(hx:Loc X.env.scope x)(hf:X.fn x=true\/X.env.scope.names.lookup x=some .local:=by first|exact .inl rfl|exact .inr rfl|assumption):PG X (.Name x pos) (Nf i):=by
 intro pins s zzs H v u Q I r h;exact M8 (qZ I hN hi hx r (fun s' I'=>⟨_,H,I',h⟩) hf)
def a0R:TGs:=fun vs zzs H Q=>vs=[]/\Q zzs H
def Y8(t:TG)(u:TGs):TGs:=fun vs zzs H Q=>∃ v r,vs=v::r/\t v zzs H fun bH H'=>u r bH H' Q
theorem X6:PGs X [] a0R:=by
 intro pins s zzs H vs us Q I r h;obtain⟨e,h⟩:=h;subst e;cases r;exact assignInOrder_nil ⟨zzs,H,I,h⟩
theorem T6{e:Expr}{es:List Expr}{t:TG}{u:TGs}(h1:PG X e t)(h2:PGs X es u)
  (hs:(assignEach (e::es) X.env).map (·.2)=assign e X.env::(assignEach es X.env).map (·.2):=by rfl):PGs X (e::es) (Y8 t u):=by
 intro pins s zzs H vs us Q I r h;obtain⟨v,vr,e1,h⟩:=h;subst e1;cases r with
 |cons r rr=>
  rw[hs];refine M4 (thn (h1 pins s zzs H _ _ _ I r h) fun _ s1 zzy=>?_);obtain⟨QH,H1,I1,q1⟩:=zzy;exact h2 pins s1 QH H1 _ _ Q I1 rr q1
def a0T(K:ak)(n:Nat)(t:TGs):TG:=fun v zzs H Q=>∃ a xs,v=.ref a/\SqT K H a xs/\xs.length=n/\t xs zzs H Q
theorem a08{es:List Expr}{k:Nat}{t:TGs}{n:Nat}(hc:X.calm=true)(h:PGs X es t)
  (hn:(assignEach es X.env).length=n:=by rfl) (hst:(assignEach es X.env).findIdx? (·.1)=none:=by rfl):PG X (.Tuple es k pos) (a0T X.K n t):=by
 intro pins s zzs H v u Q I r hw;obtain⟨a,xs,e1,hq,hl,hw⟩:=hw;subst e1;cases r;obtain⟨its,rv,ht,hz⟩:=I.tuple hq;refine assign_Tuple_tuple (I.ok.hd hc) ht (by simp[hn,<- hl,rv.length]) hst fun h' hx=>?_
 have I1:Inv X pins zzs H { s with heap:=h' }:=I.kept (t':=s.toks) fun b o e=>hx b o (fZ (bR e)) e
 exact h pins _ zzs H xs _ Q I1 (by simpa using rv) hw
def a0S(to ti:TE)(t:Vy):TG:=fun v zzs H Q=>to zzs H fun o H1=>ti zzs H1 fun i H2=>t o i v H2 fun H3=>Q zzs H3
theorem a07{o i:Expr}{to ti:TE}{t:Vy}(ho:PE X o to)(hi:PE X i ti)(hs:Yu X t)
  (ha:∀ v,assign (.Subscript o i pos) X.env v=(do
   let ov <- holding [v] (eval o X.env)
   let iv <- holding [v,ov] (eval i X.env)
   standAt pos
   holding [v,ov,iv] (setItem ov iv v)
   release [v,ov,iv] []):=by intro _;rfl):PG X (.Subscript o i pos) (a0S to ti t):=by
 intro pins s zzs H v u Q I r h;rw[ha];refine bN (tZ (thn (ho pins s zzs H _ I h) fun ov s1 zzy=>?_));obtain⟨x,H1,I1,r1,q1⟩:=zzy;refine bN (tZ (thn (hi pins s1 zzs H1 _ I1 q1) fun iv s2 zzy=>?_));obtain⟨y,H2,I2,r2,q2⟩:=zzy;refine bN (Gn (bN (tZ (thn (hs pins s2 zzs H2 x y v ov iv u _ I2 r1 r2 r q2) fun _ s3 zzy=>?_))));obtain⟨H3,I3,q3⟩:=zzy;exact wpAny_release ⟨zzs,H3,I3,q3⟩
def XJ(te:TE)(g:TG):TS:=fun D zzs H=>te zzs H fun x H1=>g x zzs H1 D.nx
theorem a0b{tg e:Expr}{te:TE}{g:TG}(he:PE X e te)(hg:PG X tg g)(hs:swapsWithSole [tg] e pos.line X.env=pure false:=by rfl)(hw:swappedStores [tg] e X.env=pure none:=by rfl)
  (h1:(assignEach [tg] X.env).map (·.2)=[assign tg X.env]:=by rfl):PS X (.Assign [tg] e pos) (XJ te g):=by
 intro pins s zzs H D I h;refine wpAny_Assign_stores (thn (he pins s zzs H _ I h) fun v s1 zzy=>?_) hs hw;obtain⟨x,H1,I1,r1,q1⟩:=zzy;rw[h1];exact thn (hg pins s1 zzs H1 x v _ I1 r1 q1) fun _ s2 q=>q
theorem a0g{i:Nat}{x:Str}{e:Expr}{te:TE}{pos':Pos}(hN:X.N.Nodup)(hi:X.N[i]?=some x)(hx:Loc X.env.scope x)(he:PE X e te)(hs:swapsWith e (some (.Name x pos')) pos.line X.env=pure false:=by rfl)(hf:X.fn x=true\/X.env.scope.names.lookup x=some .local:=by first|exact .inl rfl|exact .inr rfl|assumption) :
  PS X (.Assign [.Name x pos'] e pos) (XJ te (Nf i)):=by
 intro pins s zzs H D I h;refine wpAny_Assign_Name (thn (he pins s zzs H _ I h) fun v s1 zzy=>?_) hs;obtain⟨y,H1,I1,r1,q1⟩:=zzy;exact qZ I1 hN hi hx r1 (fun s2 I2=>⟨_,H1,I2,q1⟩) hf
def a1M(i j:Nat)(ta:TA):TS:=fun D zzs H=>ta zzs H fun vs H1=>∃ v w,vs=[v,w]/\D.nx ((zzs.set i (some v)).set j (some w)) H1
theorem a0e{i j:Nat}{x y:Str}{a b:Expr}{ta:TA}{px py pt:Pos} {kt k2 pt2} (hc:X.calm=true) (hN:X.N.Nodup) (hi:X.N[i]?=some x) (hj:X.N[j]?=some y) (hij:i≠j)
  (hx:X.env.scope.names.lookup x=some .local) (hy:X.env.scope.names.lookup y=some .local) (ha:PA X [a,b] ta)
  (hw:swappedStores [.Tuple [.Name x px,.Name y py] kt pt] (.Tuple [a,b] k2 pt2) X.env=pure (some [x,y]))
  (hs:swapsWithSole [.Tuple [.Name x px,.Name y py] kt pt] (.Tuple [a,b] k2 pt2) pos.line X.env=pure false:=by rfl) :
  PS X (.Assign [.Tuple [.Name x px,.Name y py] kt pt] (.Tuple [a,b] k2 pt2) pos) (a1M i j ta):=by
 intro pins s zzs H D I h;rw[exec_Assign_arm];refine bN (Gn ?_);rw[hs];refine bN (cQ ?_);rw[aG (by decide)];refine bN (Tuple_ (thn (ha _ pins s zzs H _ I h) fun us s1 zzy=>?_));obtain⟨vs,H1,I1,r1,q1⟩:=zzy;obtain⟨v,w,e1,q1⟩:=q1;subst e1;obtain⟨u1,u2,rfl,rv,rw'⟩:∃ u1 u2,us=[u1,u2]/\RelV v u1/\RelV w u2:=by
  cases r1 with
  |cons p q=>
   cases q with
   |cons p' q'=>
    cases q';exact⟨_,_,rfl,p,p'⟩
 refine FT ?_ (by show 2<=sizeLine;decide);have I2:Inv X pins zzs H1 { s1 with heap:=s1.heap.push { cls:=.type "tuple",data:=.seq [u1,u2].toArray } }:=I1.kept (t':=s1.toks) fun b o e=>dW _ e
 rw[hw];refine bN (cQ ?_);show wpAny (model X.prog X.w) X.A (do rule "assign.swapped-stores";let items <- unpackItems (.ref s1.heap.objs.size) 2 none;assignInOrder [fun v=>bindName X.env y v,fun v=>bindName X.env x v] items.reverse;pure Flow.next) _ _ _;refine bN (uc (bN (unpackItems_tuple (items:=#[u1,u2]) (I.ok.hd hc) (IsTup.new s1.heap _) fun h' hx'=>?_)));have I3:=I2.kept (h':=h') (t':=s1.toks) fun b o e=>hx' b o (fZ (bR e)) e
 show wpAny _ _ (assignInOrder [fun v=>bindName X.env y v,fun v=>bindName X.env x v] [u2,u1] >>= fun _=>pure Flow.next) _ _ _;refine bN (M4 (wpAny_bindName (qZ I3 hN hj (.inl hy) rw' (fun s2 I4=>?_) (.inr hy))));refine M4 (wpAny_bindName (qZ I4 hN hi (.inl hx) rv (fun s3 I5=>assignInOrder_nil (cQ ?_)) (.inr hx)));rw[List.set_comm _ _ (mz hij)] at I5;exact⟨_,H1,I5,q1⟩
end
section
variable{X:Cx}{pos:Pos}
def Uj(c:TT)(tb:TS):TS:=fun D zzs H=>∃ W:Nat->St->Hp->Prop,(∃ m,W m zzs H)/\∀ m zzs H,W m zzs H ->
 c zzs H fun b H1=>if b=true then ∃ N:St->Hp->Prop,(∀ bH H',N bH H'->∃ m',m'<m/\W m' bH H')/\tb { D with nx:=N,ct:=N,bk:=D.nx } zzs H1 else D.nx zzs H1
theorem Tc{c:Expr}{body:List Stmt}{tc:TT}{tb:TS}(hp:PassesOwn (model X.prog X.w) X.A X.env X.xe)(hc:PT X c tc)(hb:PSs X body tb):PS X (.While c body [] pos) (Uj tc tb):=by
 intro pins s zzs H D I h;obtain⟨W,⟨m0,w0⟩,turn⟩:=h;refine wpAny_While (codeAny_whileLoop (fun n s'=>∃ bH H',Inv X pins bH H' s'/\W n bH H') ?_ m0 ⟨zzs,H,I,w0⟩);rintro n s1 ⟨QH,H1,I1,w1⟩;refine tV hp (thn (hc pins s1 QH H1 _ I1 (turn n QH H1 w1)) fun b s2 zzy=>?_);obtain⟨H2,I2,q2⟩:=zzy;cases b with
 |true=>
  obtain⟨N,hN,q2⟩:=q2;rw[aJ rfl];refine tV hp (thn (hb pins s2 QH H2 _ I2 q2) fun f s3 q3=>?_);cases f with
  |next=>
   obtain⟨Bt,H3,I3,n3⟩:=q3;obtain⟨m',hm,w3⟩:=hN Bt H3 n3;exact⟨m',hm,Bt,H3,I3,w3⟩
  |cont=>
   obtain⟨Bt,H3,I3,n3⟩:=q3;obtain⟨m',hm,w3⟩:=hN Bt H3 n3;exact⟨m',hm,Bt,H3,I3,w3⟩
  |brk=>exact q3
  |ret v=>exact q3
 |false=>
  rw[aG fH];exact Bf ⟨QH,H2,I2,q2⟩
end
structure It where
 go:Nat->Hp->Prop
 yld:Nat->Hp->V->Hp->Prop
 stop:Nat->Hp->Prop
def ug(X:Cx)(pins:List (Addr×Obj))(H:Hp)(b:Addr):Prop:=
 H b=none/\b≠X.env.locals/\b∉X.fs/\(b∈X.ex\/X.s₀.heap.objs.size<=b)/\(∀ x c,X.env.cells.lookup x=some c->c≠b)/\∀ p∈X.pn++pins,p.1≠b
theorem Inv.Rj{X:Cx}{pins:List (Addr×Obj)}{zzs:St}{H H':Hp}{s:Shared}{b:Addr}(I:Inv X pins zzs H s)(hb:s.heap.objs.size<=b)(hn:H' b=none):ug X pins H' b:=by
 refine⟨hn,Gs (jq I.lt hb),I.a2u hb,.inr (dN I.sz hb),fun x c e z=>?_,fun p hp z=>?_⟩
 ·obtain⟨v,q⟩:=I.cell x c e;exact absurd (jq q.lt (by rw[z];exact hb)) (rK _)
 ·exact absurd (jq (bR (I.pin p hp).1) (by rw[z];exact hb)) (rK _)
structure Turn(P:Program)(w:World)(K:ak)(tg:Expr)(J:It)(fp:List Addr)(it:Addr)(tn:Nat->Heap->Prop):Prop where
 mem:it∈fp
 obj:∀ i h,tn i h->∀ b∈fp,∃ o,h.get? b=some o/\∀ v,o.data≠.cell v
 keep:∀ i h h',tn i h->(∀ b∈fp,∀ o,h.get? b=some o->h'.get? b=some o)->tn i h'
 item:∀(X:Cx),X.prog=P->X.w=w->X.K=K->X.calm=true->∀(i:Nat)(pins:List (Addr×Obj))(s:Shared)(zzs:St)(H:Hp)(E:Value->Shared->Prop),Inv X pins zzs H s->(∀ b∈fp,ug X pins H b)->tn i s.heap->J.go i H ->
  wpAny (model P w) X.A (pyNext (.ref it)) (fun r s1=>∃ u,r=some u /\
   wpAny (model P w) X.A (letOwnedTupleGo tg (.ref it) u) (fun _ s2=>∃ x H',Inv X pins zzs H' s2/\RelV x u/\J.yld i H x H'/\tn (i+1) s2.heap/\∀ b∈fp,H' b=none) E s1) E s
 done:∀(X:Cx),X.prog=P->X.w=w->X.K=K->X.calm=true->∀(i:Nat)(pins:List (Addr×Obj))(s:Shared)(zzs:St)(H:Hp)(E:Value->Shared->Prop),Inv X pins zzs H s->(∀ b∈fp,ug X pins H b)->tn i s.heap->J.stop i H ->
  wpAny (model P w) X.A (pyNext (.ref it)) (fun r s1=>r=none/\Inv X pins zzs H s1) E s
 self:∀(A:Around)(i:Nat)(s:Shared)(Q:Value->Shared->Prop)(E:Value->Shared->Prop),tn i s.heap->Q (.ref it) s->wpAny (model P w) A (pyIter (.ref it)) Q E s
abbrev TI:=St->Hp->(It->Hp->Prop)->Prop
def PIE(X:Cx)(pins:List (Addr×Obj))(zzs:St)(tg:Expr)(R:It->Hp->Prop)(itv:Value)(s2:Shared):Prop:=
 ∃(it:Addr)(fp:List Addr)(tn:Nat->Heap->Prop)(J:It)(H':Hp),itv=.ref it/\Inv X pins zzs H' s2/\Turn X.prog X.w X.K tg J fp it tn/\tn 0 s2.heap/\(∀ b∈fp,ug X pins H' b)/\R J H'
def PI(X:Cx)(tg iter:Expr)(wi:TI):Prop:=
 ∀(pins:List (Addr×Obj))(s:Shared)(zzs:St)(H:Hp)(R:It->Hp->Prop),Inv X pins zzs H s->wi zzs H R ->
  wpAny (model X.prog X.w) X.A (eval iter X.env) (fun v s1=>wpAny (model X.prog X.w) X.A (pyIter v) (PIE X pins zzs tg R) X.xe s1) X.xe s
theorem Ng{M:Model}{A:Around}{E:Value->Shared->Prop}{s:Shared}{tg:Expr}{it:Addr}{u:Value}{o:Obj}{n:String}{vs:Array Value}{Q:Unit->Shared->Prop}(ho:s.heap.get? it=some o)(hc:o.cls=.type n)(hd:o.data=.fields vs)
  (hn:["enumerate","zip","dict_itemiterator","dict_reverseitemiterator","odict_iterator","itertools.zip_longest","itertools.pairwise"].contains n=false) (hQ:Q () s):wpAny M A (letOwnedTupleGo tg (.ref it) u) Q E s:=by
 unfold letOwnedTupleGo;cases tg<;>first
  |exact cQ hQ
  |(cases u<;>first
    |exact cQ hQ
    |(refine bN (wpAny_load ho ?_)
      rw[hc,hd];show wpAny M A (if(["enumerate","zip","dict_itemiterator","dict_reverseitemiterator","odict_iterator","itertools.zip_longest","itertools.pairwise"].contains n&&vs[0]?==some (rawInt _))=true then _ else _) Q E s;rw[aG (by intro h;rw[hn,xV] at h;cases h)];exact cQ hQ))
def Itl(K:ak)(a:Addr):It:=
 ⟨fun i H=>∃ xs x,SqL K H a xs/\xs[i]?=some x,fun i H x H'=>H'=H/\∀ xs,SqL K H a xs->xs[i]?=some x,fun i H=>∃ xs,SqL K H a xs/\xs.length<=i⟩
def Itr(lo:Int)(n:Nat):It:=⟨fun i _=>i<n,fun i H x H'=>H'=H/\x=.int (lo+i),fun i _=>n<=i⟩
theorem QD{P:Program}{w:World}{K:ak}{tg:Expr}(a it:Addr):Turn P w K tg (Itl K a) [it] it (fun i h=>h.IsListIter it a i) where
 mem:=by simp
 obj:=fun i h st b hb=>by
  have e:b=it:=by simpa using hb
  subst e;obtain⟨o,e,c,d⟩:=st;exact⟨o,e,fun v z=>by rw[d] at z;cases z⟩
 keep:=fun i h h' st k=>st.at fun o e=>k it (by simp) o e
 item:=by
  intro X hP hw hK hc i pins s zzs H E I hf st hg;subst hP hw hK;obtain⟨xs,x,hq,hx⟩:=hg;obtain⟨its,rv,p,hz⟩:=I.list hq;obtain⟨u,hu,ru⟩:=rv.get hx;obtain⟨f0,f1,f2,f3,f4,f5⟩:=hf it (by simp);refine wpAny_pyNext_list_item st p.isList (x:=u) (by simpa using hu) fun h' st' sb=>?_
  have I1:Inv X pins zzs H { s with heap:=h' }:=I.turned (t':=s.toks) (fun b o hb e=>(sb.2 b hb).trans e) f0 f1 f3 f4 f5;obtain⟨o,e,c,d⟩:=id st';exact⟨u,rfl,Ng (s:={ s with heap:=h' }) e c d (by decide) ⟨x,H,I1,ru,⟨rfl,fun ys hy=>by rw[I.HN hy hq];exact hx⟩,st',fun b hb=>(hf b hb).1⟩⟩
 done:=by
  intro X hP hw hK hc i pins s zzs H E I hf st hg;subst hP hw hK;obtain⟨xs,hq,hx⟩:=hg;obtain⟨its,rv,p,hz⟩:=I.list hq;obtain⟨f0,f1,f2,f3,f4,f5⟩:=hf it (by simp);have hl:=rv.length;exact wpAny_pyNext_list_end (I.ok.hd hc) st p.isList (by simp;lia) fun h' eb=>⟨rfl,I.turned (t':=s.toks) (fun b o hb e=>eb b o hb e) f0 f1 f3 f4 f5⟩
 self:=fun _ _ _ _ _ st h=>wpAny_pyIter_listiter st h
theorem KJ{P:Program}{w:World}{K:ak}{tg:Expr}(it:Addr)(lo:Int)(n:Nat):Turn P w K tg (Itr lo n) [it] it (fun i h=>IsRangeIter h it (lo+(i:Nat)*1) ((n:Int)-(i:Nat)) 1) where
 mem:=by simp
 obj:=fun i h st b hb=>by
  have e:b=it:=by simpa using hb
  subst e;exact⟨_,st,fun v z=>by
   have z':Data.fields _=Data.cell v:=z;cases z'⟩
 keep:=fun i h h' st k=>k it (by simp) _ st
 item:=by
  intro X hP hw hK hc i pins s zzs H E I hf st hg;subst hP hw hK;obtain⟨f0,f1,f2,f3,f4,f5⟩:=hf it (by simp);have W:=Walks.range (prog:=X.prog) (w:=X.w) (I.ok.hd hc) it lo 1 n;refine W.item i s _ _ hg st fun v h' tk hv st' kk=>?_
  obtain⟨t,rfl⟩:=hv;have I1:Inv X pins zzs H { s with heap:=h',toks:=tk }:=I.turned (fun b o hb e=>kk b o (by simpa using hb) e) f0 f1 f3 f4 f5;refine⟨_,rfl,Ng (s:={ s with heap:=h',toks:=tk }) (n:="range_iterator") st' rfl rfl (by decide) ⟨.int (lo+i),H,I1,⟨t,?_⟩,⟨rfl,rfl⟩,st',fun b hb=>(hf b hb).1⟩⟩;rw[Int.mul_one]
 done:=by
  intro X hP hw hK hc i pins s zzs H E I hf st hg;subst hP hw hK;obtain⟨f0,f1,f2,f3,f4,f5⟩:=hf it (by simp);exact wpAny_pyNext_range_end (I.ok.hd hc) st (by have:n<=i:=hg;lia) fun h' eb=>⟨rfl,I.turned (t':=s.toks) (fun b o hb e=>eb b o hb e) f0 f1 f3 f4 f5⟩
 self:=fun _ _ _ _ _ st h=>wpAny_pyIter_rangeiter st h
section
variable{X:Cx}{tg:Expr}
def Rp(K:ak)(tl:TE):TI:=fun zzs H R=>tl zzs H fun x H1=>∃ a,x=.ref a/\(∃ xs,SqL K H1 a xs)/\R (Itl K a) H1
theorem X8{l:Expr}{tl:TE}(hl:PE X l tl):PI X tg l (Rp X.K tl):=by
 intro pins s zzs H R I h;refine thn (hl pins s zzs H _ I h) fun v s1 zzy=>?_
 obtain⟨x,H1,I1,r1,q1⟩:=zzy;obtain⟨a,e,⟨xs,hq⟩,q⟩:=q1;subst e;cases r1;obtain⟨its,rv,p,hz⟩:=I1.list hq;refine wpAny_pyIter_list p.isList ?_;refine⟨s1.heap.objs.size,[s1.heap.objs.size],_,_,H1,rfl,I1.kept (t':=s1.toks) fun b o e=>dW _ e,QD a _,⟨_,jo _ rfl,rfl,rfl⟩,fun b hb=>?_,q⟩;have e:b=s1.heap.objs.size:=by simpa using hb
 subst e;exact I1.Rj (bB _) (I1.hok.fresh (bB _))
theorem Io{pins:List (Addr×Obj)}{zzs:St}{H:Hp}{s:Shared}{R:It->Hp->Prop}{E:Value->Shared->Prop}{lo hi:Int}{t u v:Tok}{tk:Nat}(I:Inv X pins zzs H s)(h1 : -(2^62)<=lo)(h2:lo<2^62)(h3 : -(2^62)<=hi)(h4:hi<2^62)
  (q:R (Itr lo (hi-lo).toNat) H):wpAny (model X.prog X.w) X.A (pyIter (.ref s.heap.objs.size)) (PIE X pins zzs tg R) E { s with heap:=s.heap.push { cls:=.type "range",data:=.fields #[.int lo t,.int hi u,.int 1 v] },toks:=tk }:=by
 refine wpAny_pyIter_range (IsRange.new ..) (small_one h1 h2 h3 h4) ?_;have I1:Inv X pins zzs H { s with heap:=s.heap.push { cls:=.type "range",data:=.fields #[.int lo t,.int hi u,.int 1 v] },toks:=tk }:=I.kept fun b o e=>dW _ e
 refine⟨(s.heap.push { cls:=.type "range",data:=.fields #[.int lo t,.int hi u,.int 1 v] }).objs.size,[(s.heap.push { cls:=.type "range",data:=.fields #[.int lo t,.int hi u,.int 1 v] }).objs.size],_,_,H,rfl,
  I1.kept (t':=tk) fun b o e=>dW _ e,KJ _ lo (hi-lo).toNat,?_,fun b hb=>?_,q⟩
 ·have e1:lo+((0:Nat):Int)*1=lo:=by simp
  have e2:(((hi-lo).toNat:Nat):Int)-((0:Nat):Int)=Builtin.Range.rangeSize lo hi 1:=by rw[rangeSize_one];split<;>lia
  show IsRangeIter _ _ (lo+((0:Nat):Int)*1) ((((hi-lo).toNat:Nat):Int)-((0:Nat):Int)) 1;rw[e1,e2];exact jo _ rfl
 ·have e:b=(s.heap.push { cls:=.type "range",data:=.fields #[.int lo t,.int hi u,.int 1 v] }).objs.size:=by simpa using hb
  subst e;exact I1.Rj (bB _) (I1.hok.fresh (bB _))
def Yb(ta:TA):TI:=fun zzs H R=>ta zzs H fun vs H1=>∃ j:Int,vs=[.int j] /\ -(2^62)<=j/\j<2^62/\R (Itr 0 j.toNat) H1
def Yd(ta:TA):TI:=fun zzs H R=>ta zzs H fun vs H1=>∃ i j:Int,vs=[.int i,.int j]/\(-(2^62)<=i/\i<2^62 /\ -(2^62)<=j/\j<2^62)/\R (Itr i (j-i).toNat) H1
theorem Qm{a:Expr}{ta:TA}{p pos:Pos} (hg:Gl X "range") (hm:X.mg "range" = none) (ha:PA X [a] ta) (hs:starEach [a] X.env=[(false,eval a X.env)]:=by rfl):PI X tg (.Call (.Name "range" p) [a] [] pos) (Yb ta):=by
 intro pins s zzs H R I h;refine Call_ (Em I hg hm boot_range (KY (thn (ha pos pins s zzs H _ I h) fun us s1 zzy=>?_) hs rfl));obtain⟨vs,H1,I1,r1,q1⟩:=zzy;obtain⟨j,e,q1,q2,q⟩:=q1;subst e;cases r1 with
 |cons r rr=>
  cases rr;obtain⟨t,rfl⟩:=r;exact call_range_1 (Io I1 (by lia) (by lia) q1 q2 (by simpa using q))
theorem Qn{a b:Expr}{ta:TA}{p pos:Pos} (hg:Gl X "range") (hm:X.mg "range" = none) (ha:PA X [a,b] ta) (hs:starEach [a,b] X.env=[(false,eval a X.env),(false,eval b X.env)]:=by rfl) (hs2:starEach [b] X.env=[(false,eval b X.env)]:=by rfl) :
  PI X tg (.Call (.Name "range" p) [a,b] [] pos) (Yd ta):=by
 intro pins s zzs H R I h;refine Call_ (Em I hg hm boot_range (KY (thn (ha pos pins s zzs H _ I h) fun us s1 zzy=>?_) (by rw[hs,hs2]) (by rw[hs2];rfl)));obtain⟨vs,H1,I1,r1,q1⟩:=zzy;obtain⟨i,j,e,⟨q1,q2,q3,q4⟩,q⟩:=q1;subst e;cases r1 with
 |cons r rr=>
  cases rr with
  |cons r' rr=>
   cases rr;obtain⟨t,rfl⟩:=r;obtain⟨t',rfl⟩:=r';exact call_range_2 (Io I1 q1 q2 q3 q4 q)
def a1I(wi:TI)(g:TG)(tb:TS):TS:=fun D zzs H=>wi zzs H fun J H1=>∃ W:Nat->Nat->St->Hp->Prop,(∃ m,W 0 m zzs H1)/\∀ i m zzs H,W i m zzs H ->
 (J.stop i H/\D.nx zzs H)\/(J.go i H/\∃ N:St->Hp->Prop,(∀ bH H',N bH H'->∃ m',m'<m/\W (i+1) m' bH H')/\∀ x H',J.yld i H x H'->g x zzs H' fun Gw H2=>tb { D with nx:=N,ct:=N,bk:=D.nx } Gw H2)
def tH(fp:List Addr)(h:Heap):List (Addr×Obj):=fp.filterMap fun b=>(h.get? b).map fun o=>(b,o)
theorem tG{fp:List Addr}{h:Heap}{b:Addr}{o:Obj}(hb:b∈fp)(e:h.get? b=some o):(b,o)∈tH fp h:=Az.mpr ⟨b,hb,by rw[e];rfl⟩
theorem Q8{fp:List Addr}{h:Heap}{p:Addr×Obj}(hp:p∈tH fp h):p.1∈fp/\h.get? p.1=some p.2:=by
 obtain⟨b,hb,e⟩:=Az.mp hp;cases q:h.get? b with
 |none=>rw[q] at e;cases e
 |some o=>
  rw[q] at e;have e':(b,o)=p:=iJ e;subst e';exact⟨hb,q⟩
theorem Inv.pinned{pins:List (Addr×Obj)}{zzs:St}{H:Hp}{s:Shared}{fp:List Addr}(I:Inv X pins zzs H s)(hf:∀ b∈fp,ug X pins H b)(ho:∀ b∈fp,∃ o,s.heap.get? b=some o/\∀ v,o.data≠.cell v):Inv X (pins++tH fp s.heap) zzs H s:=
 I.uN fun p hp=>(cB.mp hp).elim (fun z=>I.pin p (fV _ z)) fun z=>by
  obtain⟨hb,e⟩:=Q8 z;obtain⟨f0,f1,f2,_⟩:=hf p.1 hb;obtain⟨o,e',d⟩:=ho p.1 hb;rw[e] at e';cases e';exact⟨e,f0,f1,f2,d⟩
theorem Inv.Aq{pins pl:List (Addr×Obj)}{zzs:St}{H:Hp}{s:Shared}(I:Inv X (pins++pl) zzs H s):Inv X pins zzs H s:=I.uN fun p hp=>I.pin p (fV _ (fW _ hp))
theorem a0d{iter:Expr}{body:List Stmt}{wi:TI}{g:TG}{tb:TS}{pos:Pos}(hp:PassesOwn (model X.prog X.w) X.A X.env X.xe)(hc:X.calm=true)(hi:PI X tg iter wi)(hg:PG X tg g)(hb:PSs X body tb)
  (hs:∀ x,foldedSetIterable iter X.env x=pure x:=by intro _;rfl):PS X (.For tg iter body [] pos) (a1I wi g tb):=by
 intro pins s zzs H D I h;refine wpAny_For (thn (hi pins s zzs H _ I h) fun v s1 h1=>thn h1 fun itv s2 h2=>?_) hs;obtain⟨it,fp,tn,J,H2,e,I2,T,st2,f2,W,⟨m0,w0⟩,turn⟩:=h2;subst e;have stat:∀ {H':Hp},(∀ b∈fp,H' b=none)->∀ b∈fp,ug X pins H' b:=fun hn b hb=>⟨hn b hb,(f2 b hb).2⟩
 refine codeAny_forLoop_any (fun n s'=>∃ i bH H',Inv X pins bH H' s'/\tn i s'.heap/\(∀ b∈fp,H' b=none)/\W i n bH H') ?_ m0 ⟨0,zzs,H2,I2,st2,fun b hb=>(f2 b hb).1,w0⟩;rintro n s3 ⟨i,Bt,H3,I3,st3,fr3,w3⟩;rcases turn i n Bt H3 w3 with⟨stop,qn⟩|⟨go,N,hN,step⟩
 ·refine tV hp (thn (T.done X rfl rfl rfl hc i pins s3 Bt H3 X.xe I3 (stat fr3) st3 stop) fun r s4 zzy=>?_);obtain⟨hr,I4⟩:=zzy;subst hr;exact Bf ⟨Bt,H3,I4,qn⟩
 ·refine tV hp (thn (T.item X rfl rfl rfl hc i pins s3 Bt H3 X.xe I3 (stat fr3) st3 go) fun r s4 zzy=>?_);obtain⟨u,hr,h4⟩:=zzy;subst hr;refine tV hp (thn h4 fun _ s5 zzy=>?_);obtain⟨x,H5,I5,r5,y5,st5,fr5⟩:=zzy;have I5':=I5.pinned (stat fr5) (T.obj _ _ st5);refine tV hp (thn (hg _ s5 Bt H5 x u _ I5' r5 (step x H5 y5)) fun _ s6 zzy=>?_);obtain⟨a2Q,H6,I6,q6⟩:=zzy;refine tV hp (thn (hb _ s6 a2Q H6 _ I6 q6) fun f s7 q7=>?_);have again:∀ {Bu:St} {H7:Hp},Inv X (pins++tH fp s5.heap) Bu H7 s7->N Bu H7->∃ m,m<n/\∃ i bH H',Inv X pins bH H' s7/\tn i s7.heap/\(∀ b∈fp,H' b=none)/\W i m bH H':=fun {Bu H7} I7 n7=>by
   obtain⟨m',hm,w7⟩:=hN Bu H7 n7;refine⟨m',hm,i+1,Bu,H7,I7.Aq,T.keep _ _ _ st5 fun b hb o e=>(I7.pin (b,o) (fV _ (fV _ (tG hb e)))).1,fun b hb=>?_,w7⟩;obtain⟨o,e,d⟩:=T.obj _ _ st5 b hb;exact(I7.pin (b,o) (fV _ (fV _ (tG hb e)))).2.1
  cases f with
  |next=>obtain⟨Bu,H7,I7,n7⟩:=q7;exact again I7 n7
  |cont=>obtain⟨Bu,H7,I7,n7⟩:=q7;exact again I7 n7
  |brk=>obtain⟨Bu,H7,I7,q7⟩:=q7;exact⟨Bu,H7,I7.Aq,q7⟩
  |ret v=>obtain⟨x7,Bu,H7,I7,r7,q7⟩:=q7;exact⟨x7,Bu,H7,I7.Aq,r7,q7⟩
end
theorem dI{K:ak}{a:Addr}{xs:List V}{g:TG}{tb:TS}{D:Ends}{zzs:St}{H:Hp}(Pv:Nat->St->Hp->Prop)(h0:Pv 0 zzs H)(hl:∀ i zzs H,i<=xs.length->Pv i zzs H->SqL K H a xs)
  (hs:∀ i x zzs H,xs[i]?=some x->Pv i zzs H->g x zzs H fun Gw H2=>tb { D with nx:=Pv (i+1),ct:=Pv (i+1),bk:=D.nx } Gw H2) (hd:∀ zzs H,Pv xs.length zzs H->D.nx zzs H) :
  ∃ W:Nat->Nat->St->Hp->Prop,(∃ m,W 0 m zzs H)/\∀ i m zzs H,W i m zzs H ->
   ((Itl K a).stop i H/\D.nx zzs H)\/((Itl K a).go i H/\∃ N:St->Hp->Prop,(∀ bH H',N bH H'->∃ m',m'<m/\W (i+1) m' bH H')/\∀ x H',(Itl K a).yld i H x H'->g x zzs H' fun Gw H2=>tb { D with nx:=N,ct:=N,bk:=D.nx } Gw H2):=by
 refine⟨fun i m zzs H=>m=xs.length-i/\i<=xs.length/\Pv i zzs H,⟨xs.length,by simp,mG _,h0⟩,?_⟩;rintro i m zzs H ⟨rfl,hi,p⟩;have q:=hl i zzs H hi p;by_cases hlt:i<xs.length
 ·refine .inr ⟨⟨xs,xs[i],q,by simp[hlt]⟩,Pv (i+1),fun bH H' p'=>⟨xs.length-(i+1),by omega,rfl,hlt,p'⟩,fun x H' y=>?_⟩;obtain⟨e,y⟩:=y;subst e;exact hs i x zzs _ (y xs q) p
 ·have e:i=xs.length:=by lia
  subst e;exact .inl ⟨⟨xs,q,bB _⟩,hd zzs H p⟩
theorem gA{lo:Int}{n:Nat}{g:TG}{tb:TS}{D:Ends}{zzs:St}{H:Hp}(Pv:Nat->St->Hp->Prop)(h0:Pv 0 zzs H)
  (hs:∀ i zzs H,i<n->Pv i zzs H->g (.int (lo+i)) zzs H fun Gw H2=>tb { D with nx:=Pv (i+1),ct:=Pv (i+1),bk:=D.nx } Gw H2) (hd:∀ zzs H,Pv n zzs H->D.nx zzs H) :
  ∃ W:Nat->Nat->St->Hp->Prop,(∃ m,W 0 m zzs H)/\∀ i m zzs H,W i m zzs H ->
   ((Itr lo n).stop i H/\D.nx zzs H)\/((Itr lo n).go i H/\∃ N:St->Hp->Prop,(∀ bH H',N bH H'->∃ m',m'<m/\W (i+1) m' bH H')/\∀ x H',(Itr lo n).yld i H x H'->g x zzs H' fun Gw H2=>tb { D with nx:=N,ct:=N,bk:=D.nx } Gw H2):=by
 refine⟨fun i m zzs H=>m=n-i/\i<=n/\Pv i zzs H,⟨n,by simp,mG _,h0⟩,?_⟩;rintro i m zzs H ⟨rfl,hi,p⟩;by_cases hlt:i<n
 ·refine .inr ⟨hlt,Pv (i+1),fun bH H' p'=>⟨n-(i+1),by lia,rfl,hlt,p'⟩,fun x H' y=>?_⟩;obtain⟨e,y⟩:=y;subst e y;exact hs i zzs _ hlt p
 ·have e:i=n:=by lia
  subst e;exact .inl ⟨bB _,hd zzs H p⟩
abbrev R2:=V->V->Hp->VK->Prop
def OpR(X:Cx)(f:Value->Value->Sem Value)(r:R2):Prop:=
 ∀(pins:List (Addr×Obj))(s:Shared)(zzs:St)(H:Hp)(x y:V)(v u:Value)(Q:VK),Inv X pins zzs H s->RelV x v->RelV y u->r x y H Q ->
  wpAny (model X.prog X.w) X.A (f v u) (EP X pins zzs Q) X.xe s
def dX(X:Cx)(f:Value)(r:List V->Hp->VK->Prop):Prop:=
 ∀(pins:List (Addr×Obj))(s:Shared)(zzs:St)(H:Hp)(xs:List V)(us:List Value)(Q:VK),Inv X pins zzs H s->Vals xs us->r xs H Q ->
  wpAny (model X.prog X.w) X.A (call f us) (EP X pins zzs Q) X.xe s
def tOp(r:R2)(ta tb:TE):TE:=fun zzs H Q=>ta zzs H fun x H1=>tb zzs H1 fun y H2=>r x y H2 Q
def rI(C:Int->Int->Prop)(g:Int->Int->V):R2:=fun x y H Q=>∃ i j,x=.int i/\y=.int j/\C i j/\Q (g i j) H
def rI0(g:Int->Int->V):R2:=fun x y H Q=>∃ i j,x=.int i/\y=.int j/\Q (g i j) H
section
variable{X:Cx}{a b c:Expr}{ta tb tc:TE}{pos:Pos}
theorem YB(ha:PE X a ta)(hb:PE X b tb){pins:List (Addr×Obj)}{s:Shared}{zzs:St}{H:Hp}{R:V->V->Hp->Prop}(I:Inv X pins zzs H s)
  (h:ta zzs H fun x H1=>tb zzs H1 fun y H2=>R x y H2) {Q:Value->Shared->Prop} {f:Value->Value->Sem Value}
  (hf:∀ v u s2 x y H2,Inv X pins zzs H2 s2->RelV x v->RelV y u->R x y H2->wpAny (model X.prog X.w) X.A (f v u) Q X.xe s2) :
  wpAny (model X.prog X.w) X.A (eval a X.env) (fun v s₁=>wpAny (model X.prog X.w) X.A (eval b X.env) (fun u s₂=>wpAny (model X.prog X.w) X.A (f v u) Q X.xe s₂) X.xe s₁) X.xe s:=by
 refine thn (ha pins s zzs H _ I h) fun v s1 zzy=>?_
 obtain⟨x,H1,I1,r1,q1⟩:=zzy;refine thn (hb pins s1 zzs H1 _ I1 q1) fun u s2 zzy=>?_
 obtain⟨y,H2,I2,r2,q2⟩:=zzy;exact hf v u s2 x y H2 I2 r1 r2 q2
theorem a1j{op:Operator}{r:R2}(ho:OpR X (binaryOp op) r)(ha:PE X a ta)(hb:PE X b tb):PE X (.BinOp a op b pos) (tOp r ta tb):=by
 intro pins s zzs H Q I h;exact wpAny_BinOp (YB ha hb I h fun v u s2 x y H2 I2 rx ry q=>ho pins s2 zzs H2 x y v u Q I2 rx ry q)
theorem opI{f:Value->Value->Sem Value}{C:Int->Int->Prop}{g:Int->Int->Int}
  (rule:∀(i j:Int)(t u:Tok)(s:Shared)(Q:Value->Shared->Prop)(E:Value->Shared->Prop),C i j->Q (.int (g i j) s.toks) { s with toks:=s.toks+1 }->wpAny (model X.prog X.w) X.A (f (.int i t) (.int j u)) Q E s) :
  OpR X f (rI C fun i j=>.int (g i j)):=by
 intro pins s zzs H x y v u Q I rx ry h;obtain⟨i,j,rfl,rfl,hc,q⟩:=h;obtain⟨t,rfl⟩:=rx;obtain⟨t',rfl⟩:=ry;exact rule i j t t' s _ _ hc ⟨.int (g i j),H,I.tok _,⟨_,rfl⟩,q⟩
theorem a1f{f:Value->Value->Sem Value}{g:Int->Int->Int}
  (rule:∀(i j:Int)(t u:Tok)(s:Shared)(Q:Value->Shared->Prop)(E:Value->Shared->Prop),Q (.int (g i j) s.toks) { s with toks:=s.toks+1 }->wpAny (model X.prog X.w) X.A (f (.int i t) (.int j u)) Q E s) :
  OpR X f (rI0 fun i j=>.int (g i j)):=by
 intro pins s zzs H x y v u Q I rx ry h;obtain⟨i,j,rfl,rfl,q⟩:=h;obtain⟨t,rfl⟩:=rx;obtain⟨t',rfl⟩:=ry;exact rule i j t t' s _ _ ⟨.int (g i j),H,I.tok _,⟨_,rfl⟩,q⟩
theorem Zz{f:Value->Value->Sem Value}{g:Int->Int->Bool}
  (rule:∀(i j:Int)(t u:Tok)(s:Shared)(Q:Value->Shared->Prop)(E:Value->Shared->Prop),Q (.bool (g i j)) s->wpAny (model X.prog X.w) X.A (f (.int i t) (.int j u)) Q E s) :
  OpR X f (rI0 fun i j=>.bl (g i j)):=by
 intro pins s zzs H x y v u Q I rx ry h;obtain⟨i,j,rfl,rfl,q⟩:=h;obtain⟨t,rfl⟩:=rx;obtain⟨t',rfl⟩:=ry;exact rule i j t t' s _ _ ⟨.bl (g i j),H,I,rfl,q⟩
def a2a(i j:Int):Prop:=0<j/\j<1073741824
def Vv(i j:Int):Prop:=(-(2^64)<i/\i<2^64)\/(-(2^64)<j/\j<2^64)
theorem Vv.ok{i j:Int}(h:Vv i j):IntMulOk i j:=by
 rcases h with⟨h1,h2⟩|⟨h1,h2⟩
 ·exact .of_left (intBits_le_64 h1 h2)
 ·exact .of_right (intBits_le_64 h1 h2)
theorem ZC:OpR X (binaryOp .Add) (rI0 fun i j=>.int (i+j)):=a1f fun _ _ _ _ _ _ _ q=>add_int q
theorem K6:OpR X (binaryOp .Sub) (rI0 fun i j=>.int (i-j)):=a1f fun _ _ _ _ _ _ _ q=>sub_int q
theorem ZL:OpR X (binaryOp .Mult) (rI Vv fun i j=>.int (i*j)):=opI fun _ _ _ _ _ _ _ hc q=>mul_int q hc.ok
theorem Nv:OpR X (binaryOp .FloorDiv) (rI a2a fun i j=>.int (i / j)):=opI fun i j _ _ _ _ _ hc q=>by
 have h1:(0:Int)<j:=hc.1;have h2:j<1073741824:=hc.2;exact floordiv_int (by lia) (by rw[Int.fdiv_eq_ediv_of_nonneg i (by lia)];exact q) (.inl (PyProof.noPylong_small (by omega)))
theorem qL:OpR X (binaryOp .Mod) (rI (fun _ j=>0<j) fun i j=>.int (i%j)):=opI fun i j _ _ _ _ _ hc q=>by
 have h1:(0:Int)<j:=hc;exact mod_int' (by lia) (by rw[Int.fmod_eq_emod_of_nonneg i (by lia)];exact q)
end
def a1E:V->V->Bool
 |.non,.non=>true|.non,.int _=>true|.int _,.non=>true|.non,.bl _=>true|.bl _,.non=>true|.non,.str _=>true|.str _,.non=>true
 |.int _,.int _=>true|.bl _,.bl _=>true|.str _,.str _=>true|.byt _,.byt _=>true
 |.int _,.str _=>true|.str _,.int _=>true|.bl _,.str _=>true|.str _,.bl _=>true
 |_,_=>false
def rEq:R2:=fun x y H Q=>a1E x y=true/\Q (.bl (decide (x=y))) H
def rNe:R2:=fun x y H Q=>a1E x y=true/\Q (.bl (!decide (x=y))) H
theorem MK{i j:Int}:decide (V.int i=V.int j)=(i==j):=by
 rw[tW];simp
theorem Rb{i j:Bool}:decide (V.bl i=V.bl j)=(i==j):=by
 rw[tW];simp
theorem MN{i j:Str}:decide (V.str i=V.str j)=(i==j):=by
 rw[tW];simp
theorem MJ{i j:Array UInt8}:decide (V.byt i=V.byt j)=(i.toList==j.toList):=by
 rw[tW];cases i;cases j;simp
section
variable{X:Cx}{a b c:Expr}{ta tb tc:TE}{pos:Pos}
theorem bY{pins:List (Addr×Obj)}{zzs:St}{H:Hp}{s:Shared}{Q:VK}{k k':Bool}(I:Inv X pins zzs H s)(q:Q (.bl k) H)(e:k=k'):EP X pins zzs Q (.bool k') s:=by
 subst e;exact⟨.bl k,H,I,rfl,q⟩
theorem o7:OpR X (compareOp .Eq) rEq:=by
 intro pins s zzs H x y v u Q I rx ry h;obtain⟨hs,q⟩:=h;cases x with
 |non=>
  cases rx;cases y with
  |non=>cases ry;exact PySem.EqNone.eq_none_none (bY I q (by simp))
  |bl j=>cases ry;exact PySem.EqNone.eq_none_bool (bY I q (by simp))
  |int j=>obtain⟨t',rfl⟩:=ry;exact PySem.EqNone.eq_none_int (bY I q (by simp))
  |str j=>obtain⟨t',rfl⟩:=ry;exact PySem.EqNone.eq_none_str (bY I q (by simp))
  |_=>exact absurd (show false=true from hs) fH
 |bl i=>
  cases rx;cases y with
  |non=>cases ry;exact PySem.EqNone.eq_bool_none (bY I q (by simp))
  |bl j=>cases ry;exact eq_bool (bY I q Rb)
  |str j=>obtain⟨t',rfl⟩:=ry;exact PySem.EqMixed.eq_bool_str (bY I q (by simp))
  |_=>exact absurd (show false=true from hs) fH
 |int i=>
  obtain⟨t,rfl⟩:=rx;cases y with
  |non=>cases ry;exact PySem.EqNone.eq_int_none (bY I q (by simp))
  |int j=>obtain⟨t',rfl⟩:=ry;exact eq_int (bY I q MK)
  |str j=>obtain⟨t',rfl⟩:=ry;exact PySem.EqMixed.eq_int_str (bY I q (by simp))
  |_=>exact absurd (show false=true from hs) fH
 |str i=>
  obtain⟨t,rfl⟩:=rx;cases y with
  |non=>cases ry;exact PySem.EqNone.eq_str_none (bY I q (by simp))
  |bl j=>cases ry;exact PySem.EqMixed.eq_str_bool (bY I q (by simp))
  |int j=>obtain⟨t',rfl⟩:=ry;exact PySem.EqMixed.eq_str_int (bY I q (by simp))
  |str j=>obtain⟨t',rfl⟩:=ry;exact eq_str (bY I q MN)
  |_=>exact absurd (show false=true from hs) fH
 |byt i=>
  obtain⟨t,rfl⟩:=rx;cases y with
  |byt j=>obtain⟨t',rfl⟩:=ry;exact PySem.W.eq_bytes (bY I q MJ)
  |_=>exact absurd (show false=true from hs) fH
 |_=>cases y<;>exact absurd (show false=true from hs) fH
theorem Ig:OpR X (compareOp .NotEq) rNe:=by
 intro pins s zzs H x y v u Q I rx ry h;obtain⟨hs,q⟩:=h;cases x with
 |non=>
  cases rx;cases y with
  |non=>cases ry;exact PySem.EqNone.ne_none_none (bY I q (by simp))
  |bl j=>cases ry;exact PySem.EqNone.ne_none_bool (bY I q (by simp))
  |int j=>obtain⟨t',rfl⟩:=ry;exact PySem.EqNone.ne_none_int (bY I q (by simp))
  |str j=>obtain⟨t',rfl⟩:=ry;exact PySem.EqNone.ne_none_str (bY I q (by simp))
  |_=>exact absurd (show false=true from hs) fH
 |bl i=>
  cases rx;cases y with
  |non=>cases ry;exact PySem.EqNone.ne_bool_none (bY I q (by simp))
  |bl j=>cases ry;exact ne_bool (bY I q (congrArg not Rb))
  |str j=>obtain⟨t',rfl⟩:=ry;exact PySem.EqMixed.ne_bool_str (bY I q (by simp))
  |_=>exact absurd (show false=true from hs) fH
 |int i=>
  obtain⟨t,rfl⟩:=rx;cases y with
  |non=>cases ry;exact PySem.EqNone.ne_int_none (bY I q (by simp))
  |int j=>obtain⟨t',rfl⟩:=ry;exact ne_int (bY I q (congrArg not MK))
  |str j=>obtain⟨t',rfl⟩:=ry;exact PySem.EqMixed.ne_int_str (bY I q (by simp))
  |_=>exact absurd (show false=true from hs) fH
 |str i=>
  obtain⟨t,rfl⟩:=rx;cases y with
  |non=>cases ry;exact PySem.EqNone.ne_str_none (bY I q (by simp))
  |bl j=>cases ry;exact PySem.EqMixed.ne_str_bool (bY I q (by simp))
  |int j=>obtain⟨t',rfl⟩:=ry;exact PySem.EqMixed.ne_str_int (bY I q (by simp))
  |str j=>obtain⟨t',rfl⟩:=ry;exact ne_str (bY I q (congrArg not MN))
  |_=>exact absurd (show false=true from hs) fH
 |byt i=>
  obtain⟨t,rfl⟩:=rx;cases y with
  |byt j=>obtain⟨t',rfl⟩:=ry;exact PySem.W.ne_bytes (bY I q (congrArg not MJ))
  |_=>exact absurd (show false=true from hs) fH
 |_=>cases y<;>exact absurd (show false=true from hs) fH
theorem Sx:OpR X (compareOp .Lt) (rI0 fun i j=>.bl (decide (i<j))):=Zz fun _ _ _ _ _ _ _ q=>lt_int q
theorem xG:OpR X (compareOp .LtE) (rI0 fun i j=>.bl (decide (i<=j))):=Zz fun _ _ _ _ _ _ _ q=>le_int q
theorem CN:OpR X (compareOp .Gt) (rI0 fun i j=>.bl (decide (j<i))):=Zz fun _ _ _ _ _ _ _ q=>gt_int q
theorem j6:OpR X (compareOp .In) (fun x y H Q=>∃ i j,x=.str i/\y=.str j/\Q (.bl (!(Builtin.Str.occurrences j i 0 j.length 1).isEmpty)) H):=by
 intro pins s zzs H x y v u Q I rx ry h;obtain⟨i,j,rfl,rfl,q⟩:=h;obtain⟨t,rfl⟩:=rx;obtain⟨t',rfl⟩:=ry;exact in_str (bY I q rfl)
theorem Ep:OpR X (compareOp .Is) (fun x y H Q=>y=.non/\Q (.bl (decide (x=.non))) H):=by
 intro pins s zzs H x y v u Q I rx ry h;obtain⟨rfl,q⟩:=h;cases ry;refine is_none_gen (bY I q ?_);cases x<;>first
  |(cases rx;rfl)
  |(obtain⟨t,rfl⟩:=rx;rfl)
theorem pA:OpR X (compareOp .NotIn) (fun x y H Q=>∃ i j,x=.str i/\y=.str j/\Q (.bl (!(!(Builtin.Str.occurrences j i 0 j.length 1).isEmpty))) H):=by
 intro pins s zzs H x y v u Q I rx ry h;obtain⟨i,j,rfl,rfl,q⟩:=h;obtain⟨t,rfl⟩:=rx;obtain⟨t',rfl⟩:=ry;exact notIn_str (bY I q rfl)
theorem OpR.or{f:Value->Value->Sem Value}{r r':R2}(h:OpR X f r)(h':OpR X f r'):OpR X f (fun x y H Q=>r x y H Q\/r' x y H Q):=by
 intro pins s zzs H x y v u Q I rx ry q;rcases q with q|q
 ·exact h pins s zzs H x y v u Q I rx ry q
 ·exact h' pins s zzs H x y v u Q I rx ry q
theorem c7(b:Expr){op:CmpOp}(h:op≠.In:=by decide)(h2:op≠.NotIn:=by decide):behindInMarks op b=false:=by
 have e1:(op==CmpOp.In)=false:=by cases op<;>first|rfl|exact absurd rfl h
 have e2:(op==CmpOp.NotIn)=false:=by cases op<;>first|rfl|exact absurd rfl h2
 cases b<;>simp[behindInMarks,e1,e2]
theorem WT{op:CmpOp}{r:R2}(ho:OpR X (compareOp op) r)(ha:PE X a ta)(hb:PE X b tb)(hm:behindInMarks op b=false):PE X (.Compare a [op] [b] pos) (tOp r ta tb):=by
 intro pins s zzs H Q I h;exact wpAny_Compare1 (YB ha hb I h fun v u s2 x y H2 I2 rx ry q=>ho pins s2 zzs H2 x y v u Q I2 rx ry q) hm
def Oa(t:TE):TT:=fun zzs H Q=>t zzs H fun x H'=>∃ k,x=.bl k/\Q k H'
theorem Xi{op:CmpOp}{r:R2}(ho:OpR X (compareOp op) r)(ha:PE X a ta)(hb:PE X b tb)(hm:behindInMarks op b=false):PT X (.Compare a [op] [b] pos) (Oa (tOp r ta tb)):=by
 intro pins s zzs H Q I h;refine wpAny_isTrue_Compare1 (thn (ha pins s zzs H _ I h) fun v s1 ⟨x,H1,I1,r1,q1⟩=>thn (hb pins s1 zzs H1 _ I1 q1) fun u s2 ⟨y,H2,I2,r2,q2⟩=>
  thn (ho pins s2 zzs H2 x y v u _ I2 r1 r2 q2) fun c s3 ⟨z,H3,I3,r3,k,e,q3⟩=>?_) hm
 subst e;cases r3;exact vg ⟨H3,I3,q3⟩
def Fi(r r':R2)(ta tb tc:TE):TE:=fun zzs H Q=>ta zzs H fun x H1=>tb zzs H1 fun y H2=>r x y H2 fun z H3=>∃ k,z=.bl k /\
 (if k=true then tc zzs H3 fun w' H4=>r' y w' H4 Q else Q (.bl false) H3)
theorem SQ{op op':CmpOp}{r r':R2}(ho:OpR X (compareOp op) r)(ho':OpR X (compareOp op') r')(ha:PE X a ta)(hb:PE X b tb)(hc:PE X c tc)
  (hm:lastMarks [op,op'] [b,c]=false:=by with_unfolding_all rfl):PE X (.Compare a [op,op'] [b,c] pos) (Fi r r' ta tb tc):=by
 intro pins s zzs H Q I h;refine Compare_chain (thn (ha pins s zzs H _ I h) fun v s1 ⟨x,H1,I1,r1,q1⟩=>chain_link (thn (hb pins s1 zzs H1 _ I1 q1) fun u s2 ⟨y,H2,I2,r2,q2⟩=>
  thn (ho pins s2 zzs H2 x y v u _ I2 r1 r2 q2) fun d s3 ⟨z,H3,I3,r3,k,e,q3⟩=>?_)) hm
 subst e;cases r3;refine vg ?_;cases k with
 |false=>exact ite_ff ⟨.bl false,H3,I3,rfl,q3⟩
 |true=>exact ite_tt (chain_last (thn (hc pins s3 zzs H3 _ I3 q3) fun w' s4 ⟨z',H4,I4,r4,q4⟩=>ho' pins s4 zzs H4 y z' u w' Q I4 r2 r4 q4))
theorem Tf{op op':CmpOp}{r r':R2}(ho:OpR X (compareOp op) r)(ho':OpR X (compareOp op') r')(ha:PE X a ta)(hb:PE X b tb)(hc:PE X c tc)
  (hm:lastMarks [op,op'] [b,c]=false:=by with_unfolding_all rfl):PT X (.Compare a [op,op'] [b,c] pos) (Oa (Fi r r' ta tb tc)):=by
 intro pins s zzs H Q I h;refine isTrue_chain (thn (ha pins s zzs H _ I h) fun v s1 ⟨x,H1,I1,r1,q1⟩=>test_link (thn (hb pins s1 zzs H1 _ I1 q1) fun u s2 ⟨y,H2,I2,r2,q2⟩=>
  thn (ho pins s2 zzs H2 x y v u _ I2 r1 r2 q2) fun d s3 ⟨z,H3,I3,r3,k,e,q3⟩=>?_)) hm
 subst e;cases r3;refine vg ?_;cases k with
 |false=>
  obtain⟨k',e',q'⟩:=q3;cases e';exact ite_ff ⟨H3,I3,q'⟩
 |true=>
  refine ite_tt (test_last (thn (hc pins s3 zzs H3 _ I3 q3) fun w' s4 ⟨z',H4,I4,r4,q4⟩=>thn (ho' pins s4 zzs H4 y z' u w' _ I4 r2 r4 q4) fun d' s5 zzy=>?_));obtain⟨z2,H5,I5,r5,k2,e2,q5⟩:=zzy;subst e2;cases r5;exact vg ⟨H5,I5,q5⟩
theorem zK:(sizeLine:Nat)<2^63:=by rw[rN];decide
theorem K4:OpR X (binaryOp .Add) (fun x y H Q=>∃ i j,x=.str i/\y=.str j/\i.length+j.length<=sizeLine/\Q (.str (i++j)) H):=by
 intro pins s zzs H x y v u Q I rx ry h;obtain⟨i,j,rfl,rfl,hz,q⟩:=h;obtain⟨t,rfl⟩:=rx;obtain⟨t',rfl⟩:=ry;exact add_str (fun t' tk=>⟨.str (i++j),H,I.tok _,⟨_,rfl⟩,q⟩) hz
theorem vals1{x:V}{us:List Value}(r:Vals [x] us):∃ u,us=[u]/\RelV x u:=by
 cases r with
 |cons r1 r2=>cases r2;exact⟨_,rfl,r1⟩
theorem vals2{x y:V}{us:List Value}(r:Vals [x,y] us):∃ u w',us=[u,w']/\RelV x u/\RelV y w':=by
 cases r with
 |cons r1 r2=>
  cases r2 with
  |cons r3 r4=>cases r4;exact⟨_,_,rfl,r1,r3⟩
theorem Cg(hc:X.calm=true):dX X (.builtin "max") (fun xs H Q=>∃ i j,xs=[.int i,.int j]/\Q (.int (if j>i then j else i)) H):=by
 intro pins s zzs H xs us Q I r h;obtain⟨i,j,rfl,q⟩:=h;obtain⟨u,w',rfl,⟨t,rfl⟩,⟨t',rfl⟩⟩:=vals2 r;refine max_two_ints (I.ok.hd hc) fun h' tk k=>⟨_,H,I.kept k,?_,q⟩
 by_cases hj:j>i
 ·rw[aJ hj,aJ hj];exact⟨_,rfl⟩
 ·rw[aG hj,aG hj];exact⟨_,rfl⟩
theorem Ci(hc:X.calm=true):dX X (.builtin "min") (fun xs H Q=>∃ i j,xs=[.int i,.int j]/\Q (.int (if j<i then j else i)) H):=by
 intro pins s zzs H xs us Q I r h;obtain⟨i,j,rfl,q⟩:=h;obtain⟨u,w',rfl,⟨t,rfl⟩,⟨t',rfl⟩⟩:=vals2 r;refine min_two_ints (I.ok.hd hc) fun h' tk k=>⟨_,H,I.kept k,?_,q⟩
 by_cases hj:j<i
 ·rw[aJ hj,aJ hj];exact⟨_,rfl⟩
 ·rw[aG hj,aG hj];exact⟨_,rfl⟩
theorem DR:dX X (.type "str") (fun xs H Q=>∃ i,xs=[.int i]/\i.natAbs.log2<1920/\Q (.str (toString i)) H):=by
 intro pins s zzs H xs us Q I r h;obtain⟨i,rfl,hz,q⟩:=h;obtain⟨u,rfl,t,rfl⟩:=vals1 r;exact PySem.P.str_of_int hz ⟨.str _,H,I.tok _,⟨_,rfl⟩,q⟩
end
structure Jj(h:Heap)(x dx C:Addr)(mA:Str->Option Value):Prop where
 obj:h.get? x=some (PySem.W.instObj C dx)
 ns:h.Ns1 dx mA
 ne:dx≠x
theorem PX{h:Heap}{dx:Addr}{mA:Str->Option Value}(n:h.Ns1 dx mA):∃ od,h.get? dx=some od/\∀ name,PySem.W.lookIn name od=some (mA name):=by
 obtain⟨o,es,ep,ho,hd,hk,_,hm⟩:=n;refine⟨o,ho,fun name=>?_⟩;have e:=hm name;unfold nsFind findBy at e;rw[<- Array.find?_toList] at e;unfold PySem.W.lookIn;rw[hd];dsimp only;split
 ·rename_i y q;rw[q] at e;exact congrArg some e
 ·rename_i q;rw[q] at e;have a:es.toList.any (·.refKey)=false:=by
   rw[List.any_eq_false];intro y hy;obtain⟨z,t,hkey⟩:=hk y (Array.mem_toList_iff.mp hy);simp[DictEntry.refKey,hkey]
  have a':¬es.toList.any (·.refKey)=true:=by rw[a];exact fH
  rw[aG a'];exact congrArg some e
theorem Jj.look{h:Heap}{x dx C:Addr}{mA:Str->Option Value}(I:Jj h x dx C mA):∃ od,PySem.W.InstAt h x (PySem.W.instObj C dx) C (some od)/\∀ name,PySem.W.lookIn name od=some (mA name):=
 let ⟨od,ho,hl⟩:=PX I.ns
 ⟨od,⟨I.obj,rfl,rfl,ho⟩,hl⟩
section
variable{prog:Program}{w:World}{A:Around}{E:Value->Shared->Prop}{s:Shared}{K:ak}{x dx C f:Addr}{mA:Str->Option Value}{name:Str}{v:Value}
theorem get_map{expr:Bool}{Q:Value->Shared->Prop}(X:K.In s.heap)(I:Jj s.heap x dx C mA)(hg:PySem.W.plainGet K C name=true)(hh:PySem.W.hasDictIn K C=true)
  (ha:PySem.W.findIn K (.ref C) name=some none) (hv:mA name=some v) (hv':PySem.W.handedIn v=true) (h:Q v { s with toks:=s.toks+1 }) :
  wpAny (model prog w) A (getAttr (.ref x) name expr) Q E s:=by
 obtain⟨od,J,hl⟩:=I.look;exact PySem.W.get_value X J (LK hg).1 (PySem.W.findObj_own hh ha rfl (by rw[hl,hv])) hv' h
theorem Rm{pl:Sem Bool}{Q:Value×List Value->Shared->Prop}(X:K.In s.heap)(I:Jj s.heap x dx C mA)(hg:PySem.W.plainGet K C name=true)
  (hf:PySem.W.findIn K (.ref C) name=some (some (.ref f))) (ht:PySem.W.isFn K (.ref f)=true) (hv:mA name=none) (h:Q (.ref f,[.ref x]) s) :
  wpAny (model prog w) A (getMethod (.ref x) name pl) Q E s:=by
 obtain⟨od,J,hl⟩:=I.look;exact PySem.W.method_fn X J (LK hg).1 (LK hg).2 hf (kJ.mp ht) (by show(PySem.W.lookIn name od).map (·.isSome)=some false;rw[hl,hv];rfl) h
theorem XD{ns:List Str}{Q:Unit->Shared->Prop}(X:K.In s.heap)(I:Jj s.heap x dx C mA)
  (hs:PySem.W.findIn K (.ref C) "__setattr__" = some (some (.builtin "object.__setattr__"))) (hp:PySem.W.plainOver K C=true) (ht:PySem.W.takerIn K C name=some none) (hh:PySem.W.hasDictIn K C=true)
  (hw:PySem.Within mA ns) (hsz:ns.length<=sizeLine)
  (h:∀ h',Jj h' x dx C (fun y=>if y=name then some v else mA y)->Heap.SameBut dx s.heap h'->Q () { s with heap:=h',toks:=s.toks+2 }) :
  wpAny (model prog w) A (setAttr (.ref x) name v) Q E s:=by
 obtain⟨od,J,hl⟩:=I.look;refine PySem.W.set_plain X J hs (PySem.W.osa_open (s:={ s with toks:=s.toks+1 }) (r:=none) X J hp ht fun b=>?_);obtain⟨cd,hc,hd'⟩:=PySem.W.any_some hh;have hx:s.heap.get? x=some ⟨.ref C,some dx,.plain,#[]⟩:=I.obj;refine bN (cQ (bN (bN (wpAny_loadPart hx (bN (PySem.W.Looks.here (s:={ s with toks:=s.toks+1 }) (PySem.W.looks_clsIn X hc) ?_))))));rw[hd'];refine cQ (a:=some dx) (bN (cQ (bN ?_)));refine wpAny_nsSet1 (s:={ s with toks:=s.toks+1 }) I.ns fun h' hn2 hs2=>?_
 obtain⟨oD,esD,epD,hoD,hdD,hcD⟩:=hn2.count (PySem.Within.cons name v hw);refine bN (wpAny_lookBehind hoD (by rw[hdD];exact pastItsLine_dict (dN hcD (by rw[fX];lia))) ?_);exact cQ (h _ ⟨(hs2.2 _ (mz I.ne)).trans I.obj,hn2,I.ne⟩ hs2)
theorem RM{R:Result->Shared->Prop}{vs:List Value}{kw:List (Str×Value)}(X:K.In s.heap)(hm:PySem.W.makesIn K C=true)
  (hi:PySem.W.findIn K (.ref C) "__init__" = some (some (.ref f))) (hf:PySem.W.typeIn K (.ref f)=some (.type "function"))
  (h:codeAny (model prog w) (A.under (.builtin "type.__call__" ⟨.ref C::vs,kw⟩)) (.call (.ref f) ⟨.ref (s.heap.objs.size+1)::vs,kw⟩) (PySem.W.InitBack (s.heap.objs.size+1) R)
   { s with heap:=(s.heap.push PySem.W.emptyDict).push (PySem.W.instObj C s.heap.objs.size) }) :
  codeAny (model prog w) A (.call (.ref C) ⟨vs,kw⟩) R s:=by
 obtain⟨hh,g,d,t,os⟩:=s;exact PySem.W.make_core (PySem.W.makes_of X hm) (PySem.W.looks_findIn X hi) (fun self=>PySem.W.bind_fn X self hf) (.inl rfl) h
end
def cX(f:Str)(v:V):List (Str×V)->List (Str×V)
 |[]=>[(f,v)]
 |(g,x)::r=>if g=f then(g,v)::r else(g,x)::cX f v r
theorem bA(f g:Str)(v:V):∀ fs:List (Str×V),(cX f v fs).lookup g=if g=f then some v else fs.lookup g
 |[]=>by
  show List.lookup g [(f,v)]=_;by_cases h:g=f
  ·have hb:(g==f)=true:=kJ.mpr h;simp only[List.lookup,hb,aJ h]
  ·have hb:(g==f)=false:=n8.mpr h;simp only[List.lookup,hb,aG h]
 |(k,x)::r=>by
  have ih:=bA f g v r;rw[show cX f v ((k,x)::r)=(if k=f then(k,v)::r else(k,x)::cX f v r) from rfl];by_cases hk:k=f
  ·rw[aJ hk];by_cases h:g=k
   ·have hb:(g==k)=true:=kJ.mpr h;simp only[List.lookup,hb,aJ (h.trans hk)]
   ·have hb:(g==k)=false:=n8.mpr h;simp only[List.lookup,hb,aG (fun e:g=f=>h (e.trans hk.symm))]
  ·rw[aG hk];by_cases h:g=k
   ·have hb:(g==k)=true:=kJ.mpr h;simp only[List.lookup,hb,aG (fun e:g=f=>hk (h.symm.trans e))]
   ·have hb:(g==k)=false:=n8.mpr h;simp only[List.lookup,hb];exact ih
theorem wg(f:Str)(v:V):∀ fs:List (Str×V),f∈(cX f v fs).map (·.1)/\∀ g,g∈fs.map (·.1)->g∈(cX f v fs).map (·.1)
 |[]=>⟨by simp[cX],fun g h=>by simp at h⟩
 |(k,x)::r=>by
  obtain⟨i1,i2⟩:=wg f v r;rw[show cX f v ((k,x)::r)=(if k=f then(k,v)::r else(k,x)::cX f v r) from rfl];by_cases hk:k=f
  ·rw[aJ hk];subst hk;exact⟨by simp,fun g h=>by simpa using h⟩
  ·rw[aG hk];refine⟨?_,fun g h=>?_⟩
   ·rw[dM];exact f9 _ i1
   ·rw[dM] at h ⊢;rcases cW.mp h with e|e
    ·exact cW.mpr (.inl e)
    ·exact f9 _ (i2 g e)
theorem dj(f:Str)(v:V):∀ fs:List (Str×V),(cX f v fs).length<=fs.length+1
 |[]=>by simp[cX]
 |(k,x)::r=>by
  have ih:=dj f v r;rw[show cX f v ((k,x)::r)=(if k=f then(k,v)::r else(k,x)::cX f v r) from rfl];by_cases hk:k=f
  ·rw[aJ hk,fX,fX];lia
  ·rw[aG hk,fX,fX];lia
theorem qb.some_of{v:V}{o:Option Value}(r:qb (some v) o):∃ u,o=some u/\RelV v u:=by
 cases o with
 |none=>exact(show False from r).elim
 |some u=>exact⟨u,rfl,r⟩
theorem qb.none_of{o:Option Value}(r:qb none o):o=none:=by
 cases o with
 |none=>rfl
 |some u=>exact(show False from r).elim
theorem Pr{v:V}{u:Value}(r:RelV v u):PySem.W.handedIn u=true:=by
 cases v with
 |non=>cases (show u=Value.none from r);rfl
 |bl b=>cases (show u=Value.bool b from r);rfl
 |int i=>obtain⟨t,e⟩:=(show ∃ t,u=Value.int i t from r);cases e;rfl
 |str x=>obtain⟨t,e⟩:=(show ∃ t,u=Value.str x t from r);cases e;rfl
 |byt b=>obtain⟨t,e⟩:=(show ∃ t,u=Value.bytes b t from r);cases e;rfl
 |flt b=>obtain⟨t,e⟩:=(show ∃ t,u=Value.float b t from r);cases e;rfl
 |ref a=>cases (show u=Value.ref a from r);rfl
 |ty n=>cases (show u=Value.type n from r);rfl
section
variable{P:Program}{w:World}{H H':Hp}{h h':Heap}{a C dx:Addr}{fs fs':List (Str×V)}
theorem Ej(hok:HOk P w H h)(e:H a=some (.ins C dx fs)):∃ mA,Jj h a dx C mA/\(∀ f,qb (fs.lookup f) (mA f))/\PySem.Within mA (fs.map (·.1))/\fs.length<=1000/\H dx=some (.own a):=by
 obtain⟨d,z,ne,ob,mA,n,r,q⟩:=(show gF P w H h a (.ins C dx fs) from hok a _ e)
 exact⟨mA,⟨ob,n,ne⟩,r,q,z,d⟩
end
structure Cls(K:ak)(C:Addr):Prop where
 pg:PySem.W.plainGet K C Str.empty=true
 hd:PySem.W.hasDictIn K C=true
 po:PySem.W.plainOver K C=true
 sa:PySem.W.findIn K (.ref C) "__setattr__" = some (some (.builtin "object.__setattr__"))
theorem Cls.get{K:ak}{C:Addr}(c:Cls K C)(f:Str):PySem.W.plainGet K C f=true:=c.pg
def je(K:ak)(C:Addr)(f:Str):Prop:=PySem.W.findIn K (.ref C) f=some none
theorem je.taker{K:ak}{C:Addr}{f:Str}(n:je K C f):PySem.W.takerIn K C f=some none:=by
 unfold PySem.W.takerIn;rw[show PySem.W.findIn K (.ref C) f=some none from n];rfl
structure Meth(K:ak)(C:Addr)(m:Str)(f:Addr):Prop where
 at_:PySem.W.findIn K (.ref C) m=some (some (.ref f))
 fn:PySem.W.isFn K (.ref f)=true
 kp:PySem.W.keepIn K (.ref f)=true
section
variable{X:Cx}{pins:List (Addr×Obj)}{zzs:St}{H:Hp}{s:Shared}{a C dx:Addr}{fs:List (Str×V)}{f:Str}{v:V}{A:Around}{E:Value->Shared->Prop}
theorem JH{b:Bool}{Q:Value->Shared->Prop}(I:Inv X pins zzs H s)(e:H a=some (.ins C dx fs))(c:Cls X.K C)(n:je X.K C f)(l:fs.lookup f=some v)
  (h:∀ u s',Inv X pins zzs H s'->RelV v u->Q u s'):wpAny (model X.prog X.w) A (getAttr (.ref a) f b) Q E s:=by
 obtain⟨mA,O,r,_,_,_⟩:=Ej I.hok e;obtain⟨u,hu,ru⟩:=qb.some_of (v:=v) (o:=mA f) (by rw[<- l];exact r f);exact get_map I.kIn O (c.get f) c.hd n hu (Pr ru) (h u _ (I.tok _) ru)
theorem zy{m:Str}{g:Addr}{pl:Sem Bool}{Q:Value×List Value->Shared->Prop}(I:Inv X pins zzs H s)(e:H a=some (.ins C dx fs))(c:Cls X.K C)(k:Meth X.K C m g)(l:fs.lookup m=none)
  (h:Q (.ref g,[.ref a]) s):wpAny (model X.prog X.w) A (getMethod (.ref a) m pl) Q E s:=by
 obtain⟨mA,O,r,_,_,_⟩:=Ej I.hok e;have hn:mA m=none:=qb.none_of (by rw[<- l];exact r m);exact Rm I.kIn O (c.get m) k.at_ k.fn hn h
theorem Kq{y:V}{u:Value}{Q:Unit->Shared->Prop}(I:Inv X pins zzs H s)(e:H a=some (.ins C dx fs))(c:Cls X.K C)(n:je X.K C f)(hl:fs.length<1000)(ry:RelV y u)
  (h:∀ s',Inv X pins zzs (upd H a (.ins C dx (cX f y fs))) s'->Q () s'):wpAny (model X.prog X.w) A (setAttr (.ref a) f u) Q E s:=by
 obtain⟨mA,O,r,wi,_,ho⟩:=Ej I.hok e;have hz:(fs.map (·.1)).length<=sizeLine:=by rw[aZ,rN];lia
 refine XD I.kIn O c.sa c.po n.taker c.hd wi hz fun h' O' sb=>h _ ?_
 have hd:∃ o,h'.get? dx=some o:=let ⟨o,_,_,e',_⟩:=O'.ns;⟨o,e'⟩;refine I.write (x:=a) (e:=dx) (by rw[e];exact True.intro) (.inr ho) (fun b q hb z=>(sb.2 b hb).trans z) hd ?_;refine⟨by rw[aN O.ne];exact ho,?_,O.ne,O'.obj,_,O'.ns,fun g=>?_,fun g hg=>?_⟩
 ·have:=dj f y fs;lia
 ·show qb ((cX f y fs).lookup g) (if g=f then some u else mA g);rw[bA];by_cases q:g=f
  ·rw[aJ q,aJ q];exact ry
  ·rw[aG q,aG q];exact r g
 ·by_cases q:g=f
  ·rw[q];exact(wg f y fs).1
  ·refine(wg f y fs).2 g (wi g fun z=>hg ?_);show(if g=f then some u else mA g)=none;rw[aG q];exact z
theorem Inv.made(I:Inv X pins zzs H s):Inv X pins zzs (upd (upd H s.heap.objs.size (.own (s.heap.objs.size+1))) (s.heap.objs.size+1) (.ins C s.heap.objs.size []))
  { s with heap:=(s.heap.push PySem.W.emptyDict).push (PySem.W.instObj C s.heap.objs.size) }:=by
 have e1:(s.heap.push PySem.W.emptyDict).get? s.heap.objs.size=some PySem.W.emptyDict:=jo s.heap rfl;have e2:((s.heap.push PySem.W.emptyDict).push (PySem.W.instObj C s.heap.objs.size)).get? (s.heap.objs.size+1)=some (PySem.W.instObj C s.heap.objs.size):=by
  have:=jo (s.heap.push PySem.W.emptyDict) (o:=PySem.W.instObj C s.heap.objs.size) rfl;rwa[Heap.size_push] at this
 have e3:(s.heap.push PySem.W.emptyDict).Ns s.heap.objs.size (fun _=>none):=⟨PySem.W.emptyDict,#[],_,e1,rfl,(fun e he=>absurd he (by simp)),fun _=>rfl⟩
 have I1:=I.laid (a:=s.heap.objs.size) (o:=.own (s.heap.objs.size+1)) (h':=s.heap.push PySem.W.emptyDict) (t':=s.toks) (fun b u q=>dW _ q) (bB _) ⟨_,e1⟩;refine I1.laid (a:=s.heap.objs.size+1) (o:=.ins C s.heap.objs.size []) (t':=s.toks) (fun b u q=>dW _ q) (Nat.le_of_eq (Heap.size_push _ _)) ?_;have ne:s.heap.objs.size≠s.heap.objs.size+1:=fZ (Nat.lt_succ_self _);refine⟨by rw[aN ne,aC],mG _,ne,e2,fun _=>none,(Heap.Ns1.of_empty e3).at fun o q=>dW _ q,fun _=>True.intro,fun y hy=>absurd rfl hy⟩
theorem VG{prog:Program}{w:World}{env:Env}{e:Expr}{f:Str}{pos:Pos}{s:Shared}{Q:Value->Shared->Prop}(hb:attributeBase e f env (eval e env)=eval e env)
  (h:wpAny (model prog w) A (eval e env) (fun o s₁=>wpAny (model prog w) A (getAttr o f true) Q E s₁) E s):wpAny (model prog w) A (eval (.Attribute e f pos) env) Q E s:=
 Attribute_any_ h (by rw[arm_eval_Attribute,hb])
end
def XM(K:ak)(ta:TE)(f:Str):TE:=fun zzs H Q=>ta zzs H fun x H1=>∃ a C dx fs v,x=.ref a/\H1 a=some (.ins C dx fs)/\Cls K C/\je K C f/\fs.lookup f=some v/\Q v H1
def a1D(K:ak)(ta tv:TE)(f:Str):TS:=fun D zzs H=>tv zzs H fun y H1=>ta zzs H1 fun x H2=>∃ a C dx fs,x=.ref a/\H2 a=some (.ins C dx fs)/\Cls K C/\je K C f/\fs.length<1000 /\
 D.nx zzs (upd H2 a (.ins C dx (cX f y fs)))
section
variable{X:Cx}{o e value:Expr}{f:Str}{pos pos' tpos:Pos}{ta tv:TE}
theorem ZW(he:PE X e ta)(hb:attributeBase e f X.env (eval e X.env)=eval e X.env):PE X (.Attribute e f pos) (XM X.K ta f):=by
 intro pins s zzs H Q I h;refine VG hb (thn (he pins s zzs H _ I h) fun u s1 zzy=>?_);obtain⟨x,H1,I1,rx,a,C,dx,fs,v,ex,ea,c,n,l,q⟩:=zzy;subst ex;obtain rfl:u=Value.ref a:=rx;exact JH I1 ea c n l fun u' s2 I2 ru=>⟨v,H1,I2,ru,q⟩
theorem a0c(ha:PE X o ta)(hv:PE X value tv)(hs:swapsWith value (some (.Attribute o f pos')) pos.line X.env=pure false):PS X (.Assign [.Attribute o f pos'] value pos) (a1D X.K ta tv f):=by
 intro pins s zzs H D I h;refine plainObj_wpAny_Assign_Attribute (thn (hv pins s zzs H _ I h) fun u s1 ⟨y,H1,I1,ry,q⟩=>thn (ha pins s1 zzs H1 _ I1 q) fun ov s2 zzy=>?_) hs;obtain⟨x,H2,I2,rx,a,C,dx,fs,ex,ea,c,n,l,q2⟩:=zzy;subst ex;obtain rfl:ov=Value.ref a:=rx;exact Kq I2 ea c n l ry fun s3 I3=>⟨zzs,_,I3,q2⟩
end
structure gC(k:Nat)(A:Around):Prop where
 hd:A.handled=none
 dp:A.depth+3*k+5<recursionLimit
 un:A.units+16*k+200<cLine
theorem gC.mono{j k:Nat}{A:Around}(r:gC k A)(h:j<=k):gC j A:=⟨r.hd,by have:=r.dp;lia,by have:=r.un;lia⟩
theorem gC.deeper{k:Nat}{A:Around}(r:gC (k+1) A)(env:Env):gC k (A.deeper env):=
 ⟨r.hd,by have:=r.dp;show A.depth+1+3*k+5<_;lia,by have:=r.un;show A.units+3+16*k+200<_;lia⟩
theorem JM{A:Around}{C:Addr}{us:List Value}{kw:List (Str×Value)}:(A.under (.builtin "type.__call__" ⟨.ref C::us,kw⟩)).depth=A.depth+1:=by
 first|rfl|simp[Around.under,Code.weight,Code.isCreation,Code.isGuard,Code.isCaller,Code.frames,Code.isFrame,guardIds]
theorem JN{A:Around}{C:Addr}{us:List Value}{kw:List (Str×Value)}:(A.under (.builtin "type.__call__" ⟨.ref C::us,kw⟩)).units=A.units+1:=by
 first|rfl|simp[Around.under,Code.cUnits,Code.frames,Code.isFrame]
theorem gC.make{k:Nat}{A:Around}(r:gC (k+1) A)(C:Addr)(us:List Value)(kw:List (Str×Value)):gC k (A.under (.builtin "type.__call__" ⟨.ref C::us,kw⟩)):=
 ⟨r.hd,by have:=r.dp;rw[JM];lia,by have:=r.un;rw[JN];lia⟩
theorem gC.depth{k:Nat}{A:Around}(r:gC k A):A.depth<recursionLimit:=by have:=r.dp;lia
theorem gC.units{k:Nat}{A:Around}(r:gC k A):A.units+64<cLine:=by have:=r.un;lia
def nD:TA:=fun _ H Q=>Q [] H
def Yo(ta:TE)(tr:TA):TA:=fun zzs H Q=>ta zzs H fun x H1=>tr zzs H1 fun xs H2=>Q (x::xs) H2
section
variable{X:Cx}{e:Expr}{es:List Expr}{te:TE}{t:TA}{pos:Pos}
theorem ZQ:PA X [] nD:=fun _ _ _ _ H Q I h=>Calls.spliced_nil ⟨[],H,I,.nil,h⟩
theorem WQ(ha:PE X e te)(hr:PA X es t)(hs:starEach (e::es) X.env=(false,eval e X.env)::starEach es X.env:=by rfl):PA X (e::es) (Yo te t):=by
 intro pos pins s zzs H Q I h;rw[hs];show wpAny _ _ (spliced ((false,eval e X.env)::backTo pos (starEach es X.env))) _ _ s;refine M5 (thn (ha pins s zzs H _ I h) fun u s1 zzy=>?_);obtain⟨x,H1,I1,r1,q1⟩:=zzy;exact thn (hr pos pins s1 zzs H1 _ I1 q1) fun us s2 ⟨xs,H2,I2,r2,q2⟩=>⟨x::xs,H2,I2,.cons r1 r2,q2⟩
def a1O(t:TA):TE:=fun zzs H Q=>t zzs H fun xs H1=>xs.length<=sizeLine/\∀ p,H1 p=none->Q (.ref p) (upd H1 p (.tup xs))
def a1K(t:TA):TE:=fun zzs H Q=>t zzs H fun xs H1=>xs.length<=sizeLine/\∀ p,H1 p=none->Q (.ref p) (upd H1 p (.lst xs))
theorem a05 {x1} (h:PA X es t):PE X (.Tuple es x1 pos) (a1O t):=by
 intro pins s zzs H Q I hq;refine wpAny_Tuple_spliced (thn (h pos pins s zzs H _ I hq) fun us s1 ⟨xs,H1,I1,r,z,q⟩=>⟨by rw[<- r.length];exact z,?_⟩);have hf:H1 s1.heap.objs.size=none:=I1.hok.fresh (bB _);refine⟨.ref s1.heap.objs.size,upd H1 s1.heap.objs.size (.tup xs),I1.laid (t':=s1.toks) (fun b u e=>dW _ e) (bB _) ?_,rfl,q _ hf⟩;exact⟨z,us,r,⟨_,jo _ rfl,rfl,_,rfl⟩⟩
theorem a00(h:PA X es t):PE X (.List es pos) (a1K t):=by
 intro pins s zzs H Q I hq;refine wpAny_List_spliced (thn (h pos pins s zzs H _ I hq) fun us s1 ⟨xs,H1,I1,r,z,q⟩=>⟨by rw[<- r.length];exact z,?_⟩);have hf:H1 s1.heap.objs.size=none:=I1.hok.fresh (bB _);refine⟨.ref s1.heap.objs.size,upd H1 s1.heap.objs.size (.lst xs),I1.laid (t':=s1.toks) (fun b u e=>dW _ e) (bB _) ?_,rfl,q _ hf⟩;exact⟨z,us,0,r,jo _ rfl⟩
end
abbrev Sp:=List V->Hp->VK->XK->Prop
abbrev CXT:=List Env->Hp->Shared->XK->Value->Shared->Prop
structure Jh(P:Program)(w:World)(K:ak)(mg:Str->Option Value)(base:Heap)(A:Around)(outer:List Env)(s:Shared)(H:Hp):Prop where
 frames:A.frames=some outer
 mod:Mod K mg base
 bs:∀ b o,base.get? b=some o->s.heap.get? b=some o/\H b=none
 bsz:base.objs.size<=s.heap.objs.size
 tu:s.heap.FunFrames base outer
 frf:∀ b∈frs outer,H b=none
 hok:HOk P w H s.heap
 bare:AllBare s.gens
def CE(outer:List Env)(P:Program)(w:World)(H:Hp)(s:Shared)(Q:VK)(u:Value)(s':Shared):Prop:=
 ∃ v H',s'.os=s.os/\AllBare s'.gens/\Un (frs outer) [] H H' s.heap s'.heap/\HOk P w H' s'.heap/\RelV v u/\Q v H'
def CR(CX:CXT)(outer:List Env)(P:Program)(w:World)(H:Hp)(s:Shared)(Q:VK)(E:XK)(r:Result)(s':Shared):Prop:=
 match r with
 |.ok (.ret u)=>CE outer P w H s Q u s'
 |.ok _=>False
 |.error e=>CX outer H s E e s'
structure cF(P:Program)(w:World)(K:ak)(mg:Str->Option Value)(base:Heap)(CX:CXT)(k:Nat)(f:Addr)(fd:FuncData)(ps:List Str)(sp:Sp):Prop where
 len:∀ vs H Q E,sp vs H Q E->vs.length=ps.length
 run:∀(A:Around)(outer:List Env)(s:Shared)(H:Hp)(args:Args)(us:List Value)(vs:List V)(Q:VK)(E:XK),gC k A->Jh P w K mg base A outer s H->BindsTo s fd args (ps.zip us)->Vals vs us->sp vs H Q E ->
  codeAny (model P w) A (.call (.ref f) args) (CR CX outer P w H s Q E) s
theorem Jh.make{P:Program}{w:World}{K:ak}{mg:Str->Option Value}{base:Heap}{A:Around}{outer:List Env}{s:Shared}{H:Hp}(e:Jh P w K mg base A outer s H)(C:Addr)(us:List Value)(kw:List (Str×Value)) :
  Jh P w K mg base (A.under (.builtin "type.__call__" ⟨.ref C::us,kw⟩)) outer s H:=⟨by first|exact e.frames|(simpa [Around.under,Code.envs,Code.isFrame,pushEnvs] using e.frames),e.mod,e.bs,e.bsz,e.tu,e.frf,e.hok,e.bare⟩
section
variable{X:Cx}{pins:List (Addr×Obj)}{zzs:St}{H:Hp}{s s':Shared}
theorem Inv.env0(I:Inv X pins zzs H s):Jh X.prog X.w X.K X.mg X.base X.A X.stack s H:=
 ⟨I.ok.frames,I.ok.mod,I.bs,dN I.ok.bsz I.sz,I.stack,I.uZ,I.hok,I.bare⟩
theorem Inv.after{Q:VK}{u:Value}(I:Inv X pins zzs H s)(h:CE X.stack X.prog X.w H s Q u s'):EP X pins zzs Q u s':=by
 obtain⟨v,H',os,bare,un,hok,r,q⟩:=h;obtain⟨hh,g,d,t,os'⟩:=s';obtain rfl:os'=s.os:=os;exact⟨v,H',I.call (h':=hh) (g':=g) (d':=d) (t':=t) (ch:=[]) un hok bare (fun b z=>absurd z (by simp)),r,q⟩
end
def O9(sp:Sp)(dvs:List V)(E:XK)(t:TA):TE:=fun zzs H Q=>t zzs H fun vs H1=>sp (vs++dvs) H1 Q E
def J2(C:Addr)(m:Str)(sp:Sp)(dvs:List V)(E:XK)(ta:TE)(t:TA):TE:=fun zzs H Q=>ta zzs H fun x H1=>∃ a dx fs,x=.ref a/\H1 a=some (.ins C dx fs)/\fs.lookup m=none /\
 t zzs H1 fun vs H2=>sp (x::(vs++dvs)) H2 Q E
def Ug(C:Addr)(sp:Sp)(dvs:List V)(E:XK)(t:TA):TE:=fun zzs H Q=>t zzs H fun vs H1=>∀ x dx,H1 x=none->H1 dx=none->dx≠x ->
 sp (.ref x::(vs++dvs)) (upd (upd H1 dx (.own x)) x (.ins C dx [])) (fun v H2=>v=.non/\Q (.ref x) H2) E
def Binds(K:ak)(fd:FuncData)(ps:List Str)(ds:List Value):Prop:=
 ∀(s:Shared)(us:List Value),K.In s.heap->(us++ds).length=ps.length->BindsTo s fd ⟨us,[]⟩ (ps.zip (us++ds))
theorem Binds.all{K:ak}{fd:FuncData}{ps:List Str}(h:∀ us:List Value,us.length=ps.length->bindArgs fd ⟨us,[]⟩=pure (ps.zip us)):Binds K fd ps []:=fun s us _ hl=>by
 rw[rJ] at hl ⊢;exact .of_eq (h us hl)
def Passes(CX:CXT)(X:Cx)(E:XK):Prop:=∀(pins:List (Addr×Obj))(zzs:St)(H:Hp)(s:Shared)(e:Value)(s':Shared),Inv X pins zzs H s->CX X.stack H s E e s'->X.xe e s'
section
variable{X:Cx}{CX:CXT}{k:Nat}{f C:Addr}{fd:FuncData}{ps:List Str}{sp:Sp}{dvs:List V}{ds:List Value}{E:XK}{x m:Str}{p pos apos:Pos}{e o:Expr}{es:List Expr}{ta:TE}{t:TA}
theorem Ke{pins:List (Addr×Obj)}{zzs:St}{H:Hp}{s:Shared}{Q:VK}{us:List Value}{vs:List V}(F:cF X.prog X.w X.K X.mg X.base CX k f fd ps sp)(hr:gC k X.A)(hb:Binds X.K fd ps ds)(hd:Vals dvs ds)(hx:Passes CX X E)
  (I:Inv X pins zzs H s) (r:Vals vs us) (h:sp (vs++dvs) H Q E):wpAny (model X.prog X.w) X.A (call (.ref f) us) (EP X pins zzs Q) X.xe s:=by
 have r2:Vals (vs++dvs) (us++ds):=r.append hd;have hl:(us++ds).length=ps.length:=by rw[<- r2.length];exact F.len _ _ _ _ h
 refine wpAny_call (Bj (F.run X.A X.stack s H ⟨us,[]⟩ (us++ds) (vs++dvs) Q E hr I.env0 (hb s us I.kIn hl) r2 h) fun r s' hq=>?_);cases r with
 |error e=>exact hx pins zzs H s e s' I hq
 |ok fl=>
  cases fl with
  |ret u=>exact I.after hq
  |next=>exact False.elim hq
  |brk=>exact False.elim hq
  |cont=>exact False.elim hq
theorem WR(F:cF X.prog X.w X.K X.mg X.base CX k f fd ps sp)(hr:gC k X.A)(hg:Gl X x)(hm:X.mg x=some (.ref f))(hk:PySem.W.keepIn X.K (.ref f)=true)(hb:Binds X.K fd ps ds)(hd:Vals dvs ds)(hx:Passes CX X E)
  (ha:PA X (e::es) t) (hdb:(x==("__debug__" : Str))=false:=by decide) (he:starEach (e::es) X.env=(false,eval e X.env)::starEach es X.env:=by rfl) (hpl:(backTo pos (starEach es X.env)).any (·.1)=false:=by rfl) :
  PE X (.Call (.Name x p) (e::es) [] pos) (O9 sp dvs E t):=by
 intro pins s zzs H Q I h;refine FQ (uH I hg hm ?_ hdb);refine M6 (h₀:=X.base) I.ok.mod.kin hk (thn (ha pos pins s zzs H _ I h) fun us s1 ⟨vs,H1,I1,r,q⟩=>⟨I1.kIn,?_⟩) he hpl;exact Ke F hr hb hd hx I1 r q
theorem X4{pl:Sem Bool}(he:PE X o ta)(c:Cls X.K C)(hm:Meth X.K C m f)(F:cF X.prog X.w X.K X.mg X.base CX k f fd ps sp)(hr:gC k X.A)(hb:Binds X.K fd ps ds)(hd:Vals dvs ds)(hx:Passes CX X E)(ha:PA X (e::es) t)
  (hst:starEach (e::es) X.env=(false,eval e X.env)::starEach es X.env:=by rfl) (hpl:(backTo pos (starEach es X.env)).any (·.1)=false:=by rfl)
  (ht:eval (.Call (.Attribute o m apos) (e::es) [] pos) X.env=(do
   let ov <- eval o X.env
   standAt apos.atName
   let (f,first) <- holding [ov] (getMethod ov m pl)
   callWith pos f first (backTo pos (starEach (e::es) X.env)) (backToKw pos (keywordEach [] X.env))):=by rfl) :
  PE X (.Call (.Attribute o m apos) (e::es) [] pos) (J2 C m sp dvs E ta t):=by
 intro pins s zzs H Q I h;refine V7 (pl:=pl) (thn (he pins s zzs H _ I h) fun u s1 zzy=>?_) ht;obtain⟨x,H1,I1,rx,a,dx,fs,ex,ea,l,q⟩:=zzy;subst ex;obtain rfl:u=Value.ref a:=rx;refine zy I1 ea c hm l ?_;refine M6 (first:=[.ref a]) (h₀:=X.base) I.ok.mod.kin hm.kp (thn (ha pos pins s1 zzs H1 _ I1 q) fun us s2 ⟨vs,H2,I2,r,q2⟩=>⟨I2.kIn,?_⟩) hst hpl;exact Ke (us:=.ref a::us) (vs:=.ref a::vs) F hr hb hd hx I2 (.cons rfl r) q2
theorem T5{pl:Sem Bool}(he:PE X o ta)(c:Cls X.K C)(hm:Meth X.K C m f)(F:cF X.prog X.w X.K X.mg X.base CX k f fd ps sp)(hr:gC k X.A)(hb:Binds X.K fd ps ds)(hd:Vals dvs ds)(hx:Passes CX X E)
  (ht:eval (.Call (.Attribute o m apos) [] [] pos) X.env=(do
   let ov <- eval o X.env
   standAt apos.atName
   let (f,first) <- holding [ov] (getMethod ov m pl)
   callWith pos f first (backTo pos (starEach [] X.env)) (backToKw pos (keywordEach [] X.env))):=by rfl) :
  PE X (.Call (.Attribute o m apos) [] [] pos) (J2 C m sp dvs E ta nD):=by
 intro pins s zzs H Q I h;refine V7 (pl:=pl) (thn (he pins s zzs H _ I h) fun u s1 zzy=>?_) ht;obtain⟨x,H1,I1,rx,a,dx,fs,ex,ea,l,q⟩:=zzy;subst ex;obtain rfl:u=Value.ref a:=rx;refine zy I1 ea c hm l ?_;exact PySem.W.callWith_K0 (first:=[.ref a]) I1.kIn hm.kp (Ke (us:=[.ref a]) (vs:=[.ref a]) F hr hb hd hx I1 (.cons rfl .nil) q)
structure Mk(K:ak)(C f:Addr):Prop where
 makes:PySem.W.makesIn K C=true
 init:PySem.W.findIn K (.ref C) "__init__" = some (some (.ref f))
 fn:PySem.W.isFn K (.ref f)=true
 kp:PySem.W.keepIn K (.ref C)=true
theorem TX{pins:List (Addr×Obj)}{zzs:St}{H:Hp}{s:Shared}{Q:VK}{us:List Value}{vs:List V}(M:Mk X.K C f)(F:cF X.prog X.w X.K X.mg X.base CX k f fd ps sp)(hr:gC (k+1) X.A)(hb:Binds X.K fd ps ds)(hd:Vals dvs ds)
  (hx:Passes CX X E) (I:Inv X pins zzs H s) (r:Vals vs us)
  (h:∀ x dx,H x=none->H dx=none->dx≠x->sp (.ref x::(vs++dvs)) (upd (upd H dx (.own x)) x (.ins C dx [])) (fun v H2=>v=.non/\Q (.ref x) H2) E) :
  wpAny (model X.prog X.w) X.A (call (.ref C) us) (EP X pins zzs Q) X.xe s:=by
 have hq:=h (s.heap.objs.size+1) s.heap.objs.size (I.hok.fresh (u9 _)) (I.hok.fresh (bB _)) (fZ (Nat.lt_succ_self _));have I2:=Inv.made (C:=C) I;have r2:Vals (V.ref (s.heap.objs.size+1)::(vs++dvs)) (Value.ref (s.heap.objs.size+1)::(us++ds)):=.cons rfl (r.append hd);have hl:(Value.ref (s.heap.objs.size+1)::us++ds).length=ps.length:=by
  have e:=r2.length;rw[F.len _ _ _ _ hq] at e;exact e.symm
 refine wpAny_call (RM (f:=f) I.kIn M.makes M.init (kJ.mp M.fn) (Bj (F.run _ X.stack _ _ ⟨Value.ref (s.heap.objs.size+1)::us,[]⟩ (Value.ref (s.heap.objs.size+1)::(us++ds)) _ _ E (hr.make C us [])
  (I2.env0.make C us []) (hb _ (Value.ref (s.heap.objs.size+1)::us) I2.kIn hl) r2 hq) fun r s' hq'=>?_))
 cases r with
 |error e=>exact hx pins zzs _ _ e s' I2 hq'
 |ok fl=>
  cases fl with
  |ret u=>
   obtain⟨v,H',I3,rv,ev,q3⟩:=I2.after hq';subst ev;exact⟨rv,⟨V.ref (s.heap.objs.size+1),H',I3,rfl,q3⟩⟩
  |next=>exact False.elim hq'
  |brk=>exact False.elim hq'
  |cont=>exact False.elim hq'
theorem X3(M:Mk X.K C f)(F:cF X.prog X.w X.K X.mg X.base CX k f fd ps sp)(hr:gC (k+1) X.A)(hg:Gl X x)(hm:X.mg x=some (.ref C))(hb:Binds X.K fd ps ds)(hd:Vals dvs ds)(hx:Passes CX X E)
  (ha:PA X (e::es) t) (hdb:(x==("__debug__" : Str))=false:=by decide) (he:starEach (e::es) X.env=(false,eval e X.env)::starEach es X.env:=by rfl) (hpl:(backTo pos (starEach es X.env)).any (·.1)=false:=by rfl) :
  PE X (.Call (.Name x p) (e::es) [] pos) (Ug C sp dvs E t):=by
 intro pins s zzs H Q I h;refine FQ (uH I hg hm ?_ hdb);refine M6 (h₀:=X.base) I.ok.mod.kin M.kp (thn (ha pos pins s zzs H _ I h) fun us s1 ⟨vs,H1,I1,r,q⟩=>⟨I1.kIn,?_⟩) he hpl;exact TX M F hr hb hd hx I1 r q
end
structure aY(N P:List Str)(sc:Scope):Prop where
 kind:sc.kind=.function
 co:sc.isCoroutine=false
 gen:sc.isGenerator=false
 nd:N.Nodup
 pre:N.take P.length=P
 par:∀ x∈P,sc.names.lookup x=some .local\/sc.names.lookup x=some .cell
 Zr:∀ y∈sc.names,y.2≠.free
theorem Ce{kindOf:Str->Option NameKind}{x:Str}:∀ {binds:List (Str×Value)} {m:Str->Option Value},(∀ v,(x,v)∉binds)->bindL kindOf binds m x=m x
 |[],_,_=>rfl
 |(n,v)::r,m,h=>by
  unfold bindL;rw[Ce fun w hw=>h w (f9 _ hw)];split
  ·have:x≠n:=by rintro rfl;exact h v cZ
   simp[this]
  ·rfl
theorem Ca{kindOf:Str->Option NameKind}{x:Str}:∀ {binds:List (Str×Value)} {m:Str->Option Value},(∀ v,(x,v)∉binds)->bindC kindOf binds m x=m x
 |[],_,_=>rfl
 |(n,v)::r,m,h=>by
  unfold bindC;rw[Ca fun w hw=>h w (f9 _ hw)];split
  ·rfl
  ·have:x≠n:=by rintro rfl;exact h v cZ
   simp[this]
theorem Cd{kindOf:Str->Option NameKind}{x:Str}{v:Value}:∀ {P:List Str} {vs:List Value} {i:Nat} {m:Str->Option Value},P.Nodup->P[i]?=some x->vs[i]?=some v->kindOf x=some .local ->
  bindL kindOf (P.zip vs) m x=some v
 |[],_,_,_,_,h,_,_=>by simp at h
 |_::_,[],_,_,_,_,h,_=>by simp at h
 |p::P,w::vs,0,m,nd,h1,h2,hk=>by
  simp at h1 h2;subst h1;subst h2;show bindL kindOf ((p,w)::P.zip vs) m p=_;unfold bindL;rw[Ce fun v hv=>(Bg.mp nd).1 (Mp hv).1,aJ hk];simp
 |p::P,w::vs,i+1,m,nd,h1,h2,hk=>by
  show bindL kindOf ((p,w)::P.zip vs) m x=_;unfold bindL;exact Cd (i:=i) (Bg.mp nd).2 (by simpa using h1) (by simpa using h2) hk
theorem BZ{kindOf:Str->Option NameKind}{x:Str}{v:Value}:∀ {P:List Str} {vs:List Value} {i:Nat} {m:Str->Option Value},P.Nodup->P[i]?=some x->vs[i]?=some v->kindOf x≠some .local ->
  bindC kindOf (P.zip vs) m x=some v
 |[],_,_,_,_,h,_,_=>by simp at h
 |_::_,[],_,_,_,_,h,_=>by simp at h
 |p::P,w::vs,0,m,nd,h1,h2,hk=>by
  simp at h1 h2;subst h1;subst h2;show bindC kindOf ((p,w)::P.zip vs) m p=_;unfold bindC;rw[Ca fun v hv=>(Bg.mp nd).1 (Mp hv).1,aG hk];simp
 |p::P,w::vs,i+1,m,nd,h1,h2,hk=>by
  show bindC kindOf ((p,w)::P.zip vs) m x=_;unfold bindC;exact BZ (i:=i) (Bg.mp nd).2 (by simpa using h1) (by simpa using h2) hk
def start(N:List Str)(vs:List V):St:=vs.map some++List.replicate (N.length-vs.length) none
def qd(CX:CXT)(P:Program)(w:World)(K:ak)(mg:Str->Option Value)(base:Heap)(N:List Str)(qual:Str)(scope:Scope)(f:Addr)(cd:Value)(A:Around)(outer:List Env)(s:Shared)(H:Hp)(E:XK):Cx where
 prog:=P
 w:=w
 K:=K
 mg:=mg
 base:=base
 A:=A.deeper (envOfC qual scope s.heap.objs.size f cd)
 N:=N
 s₀:=s
 H₀:=H
 env:=envOfC qual scope s.heap.objs.size f cd
 outer:=outer
 stack:=envOfC qual scope s.heap.objs.size f cd::outer
 ex:=[]
 calm:=true
 fn:=fun _=>true
 pn:=[]
 xe:=fun e s'=>wpAny (model P w) (A.deeper (envOfC qual scope s.heap.objs.size f cd)) (leaving (envOfC qual scope s.heap.objs.size f cd) e) (fun _ s''=>CX outer H s E e s'') (fun e' s''=>CX outer H s E e' s'') s'
theorem GQ{sc:Scope}{n:Nat}{x:Str}(h:sc.names.lookup x=some .cell):∃ c,(cellsFrom n sc.names []).lookup x=some c:=by
 have q:=V2 sc.names n [] (.inl h);exact Ux.mp q
theorem Py{CX:CXT}{P:Program}{w:World}{K:ak}{mg:Str->Option Value}{base:Heap}{N ps:List Str}{qual:Str}{scope:Scope}{f:Addr}{cd:Value}{A:Around}{outer:List Env}{s s1:Shared}{H:Hp}{E:XK}{us:List Value}{vs:List V}
  (S:aY N ps scope) (hd:A.handled=none) (e0:Jh P w K mg base A outer s H) (hl:vs.length=ps.length) (r:Vals vs us)
  (x:InCallC s s.heap.objs.size (bindL (envOfC qual scope s.heap.objs.size f cd).kindOf (ps.zip us) fun _=>none) (cellsFrom (s.heap.objs.size+1) scope.names []) (bindC (envOfC qual scope s.heap.objs.size f cd).kindOf (ps.zip us) fun _=>none) s1) :
  Inv (qd CX P w K mg base N qual scope f cd A outer s H E) [] (start N vs) H s1:=by
 have hpl:ps.length<=N.length:=by have:=congrArg List.length S.pre;rw[sU] at this;lia
 obtain⟨h1,tk,rfl,hk⟩:=x.done;have noA:∀ b:Addr,b∉(qd CX P w K mg base N qual scope f cd A outer s H E).ex:=fun b z=>absurd (show b∈([]:List Addr) from z) (by simp)
 refine⟨⟨e0.mod,S.kind,rfl,rfl,bB _,fun y z c h1 h2=>?_,fun y hy=>?_,fun y c _ h=>?_,fun _=>hd,Around.frames_deeper e0.frames,.inr ⟨rfl,rfl⟩,fun b z=>absurd z (noA b),e0.bs,e0.bsz,fun b _ _=>noA b,fun b z=>absurd z (noA b),e0.tu,e0.frf⟩,
  rfl,e0.bare,Un.kept hk,⟨_,x.toInCall.ns,fun i y v h1 h2 h3=>?_⟩,fun y c h=>⟨_,x.cell y c h⟩,e0.hok.fresh (bB _),fun y c h=>?_,fun p hp=>absurd (show p∈([]:List (Addr×Obj)) from hp) (by simp),e0.hok.kept hk,?_⟩
 ·exact name_of_addr x.apart (Aw h1) (Aw h2)
 ·have hy:scope.names.lookup y=some .cell\/scope.names.lookup y=some .free:=hy;rcases hy with hy|hy
  ·exact GQ hy
  ·exact absurd rfl (S.Zr _ (Aw hy))
 ·exact Gq (x.above y c (Aw h))
 ·have hi:i<vs.length:=by
   unfold start at h2;by_cases hi:i<vs.length
   ·exact hi
   ·rw[Bo (by simpa using hi)] at h2;rw[List.getElem?_replicate] at h2;split at h2<;>cases h2
  have ha:vs[i]?=some v:=by
   unfold start at h2;rw[Jc (by simpa using hi),dG] at h2;cases e:vs[i]? with
   |none=>rw[e] at h2;cases h2
   |some a=>rw[e] at h2;cases h2;rfl
  obtain⟨u,hu,rv⟩:=r.get ha;have hp:ps[i]?=some y:=by
   rw[<- S.pre,Uy (by lia)];exact h1
  have ndP:ps.Nodup:=by rw[<- S.pre];exact S.nd.sublist (M9 _ _)
  refine⟨u,rv,?_⟩;rcases S.par y (fQ hp) with k|k
  ·exact .inl ⟨k,Cd ndP hp hu k⟩
  ·obtain⟨c,e⟩:=GQ (n:=s.heap.objs.size+1) k;refine .inr ⟨.inl k,c,e,?_⟩;have q:=x.cell y c e;rw[BZ ndP hp hu (by show scope.names.lookup y≠_;rw[k];decide)] at q;exact q
 ·exact e0.hok.fresh (Gq (x.above y c (Aw h)))
 ·unfold start;show _=N.length;rw[cC,aZ,List.length_replicate];lia
theorem a0P{CX:CXT}{P:Program}{w:World}{K:ak}{mg:Str->Option Value}{base:Heap}{k:Nat}{f:Addr}{name qual:Str}{params:Arguments}{body:List Stmt}{scope:Scope}{dV kV doc pm cdv ct oc:Value}{an od:Option Addr}
  {osl:Array (Option Value)} {N ps:List Str} {sp:Sp} (lk:K.lookup f=some ⟨oc,od,.func (PySem.W.fnOf name qual params body scope dV kV doc pm an cdv ct),osl⟩) (hcd:PySem.W.codeIn K cdv qual=true) (S:aY N ps scope)
  (len:∀ vs H Q E,sp vs H Q E->vs.length=ps.length)
  (hbody:∀(A:Around)(outer:List Env)(s:Shared)(H:Hp)(vs:List V)(Q:VK)(E:XK),gC k (A.deeper (envOfC qual scope s.heap.objs.size f cdv))->sp vs H Q E ->
   ∃ t,PSs (qd CX P w K mg base N qual scope f cdv A outer s H E) body t/\t { nx:=fun _ H'=>Q .non H',rt:=Q } (start N vs) H) :
  cF P w K mg base CX (k+1) f (PySem.W.fnOf name qual params body scope dV kV doc pm an cdv ct) ps sp:=by
 refine⟨len,fun A outer s H args us vs Q E hr e0 hb r hsp=>?_⟩;have hl:=len _ _ _ _ hsp;have KX:K.In s.heap:=e0.mod.kin.keeps fun b o e=>(e0.bs b o e).1
 have lim:s.heap.NoLimit:=e0.mod.nolimit.keeps fun b o e=>(e0.bs b o e).1
 have hkind:∀ y∈ps.zip us,scope.names.lookup y.1=some .local\/(scope.names.lookup y.1=some .cell/\((cellsFrom (s.heap.objs.size+1) scope.names []).lookup y.1).isSome=true):=fun⟨n,v⟩ hy=>by
  rcases S.par n (Mp hy).1 with q|q
  ·exact .inl q
  ·exact .inr ⟨q,V2 _ _ _ (.inl q)⟩
 refine codeAny_call_function hr.depth (KX _ _ lk) rfl S.co S.gen rfl (PySem.W.codeRec_of KX hcd) (hb _ _ _ _ ?_);refine wpAny_newFunctionEnv_cells S.kind hkind fun env he s1 x=>?_
 subst he;refine⟨lim.keeps x.toInCall.keep,codeAny_func ?_⟩;obtain⟨t,ht,hq⟩:=hbody A outer s H vs Q E (hr.deeper _) hsp;have I:Inv (qd CX P w K mg base N qual scope f cdv A outer s H E) [] (start N vs) H s1:=Py S hr.hd e0 hl r x;refine jw (ht [] s1 (start N vs) H _ I hq) (fun fl s' hs=>?_) fun e s' hs=>hs
 have fin:∀ {bH:St} {H':Hp} {v:V} {u:Value},Inv (qd CX P w K mg base N qual scope f cdv A outer s H E) [] bH H' s'->RelV v u->Q v H'->CE outer P w H s Q u s':=
  fun {bH H' v u} J rv q=>⟨v,H',J.os,J.bare,J.base,J.hok,rv,q⟩
 cases fl with
 |ret u=>
  obtain⟨v,bH,H',J,rv,q⟩:=hs;exact fin J rv q
 |next=>
  obtain⟨bH,H',J,q⟩:=hs;exact fin (v:=V.non) (u:=Value.none) J rfl q
 |brk=>
  obtain⟨_,_,_,q⟩:=hs;exact False.elim q
 |cont=>
  obtain⟨_,_,_,q⟩:=hs;exact False.elim q
section
variable{X:Cx}{x:Str}{p pos:Pos}{e:Expr}{es:List Expr}{t:TA}{id T:String}{r:List V->Hp->VK->Prop}
def tCB(r:List V->Hp->VK->Prop)(t:TA):TE:=fun zzs H Q=>t zzs H fun vs H1=>r vs H1 Q
theorem SN(hc:dX X (.builtin id) r)(hg:Gl X x)(hm:X.mg x=none)(hv:bootBuiltins x=some (.builtin id))(ha:PA X (e::es) t) (hn:x ≠ "__name__":=by decide) (hdb:(x==("__debug__" : Str))=false:=by decide)
  (he:starEach (e::es) X.env=(false,eval e X.env)::starEach es X.env:=by rfl) (hpl:(backTo pos (starEach es X.env)).any (·.1)=false:=by rfl):PE X (.Call (.Name x p) (e::es) [] pos) (tCB r t):=by
 intro pins s zzs H Q I h;refine FQ (Em I hg hm hv ?_ hn hdb);exact PyProof.Rows.callWith_builtin1 (thn (ha pos pins s zzs H _ I h) fun us s1 ⟨vs,H1,I1,r1,q1⟩=>hc pins s1 zzs H1 vs us Q I1 r1 q1) he hpl
theorem Qj(hc:dX X (.type T) r)(hg:Gl X x)(hm:X.mg x=none)(hv:bootBuiltins x=some (.type T))(ha:PA X (e::es) t) (hn:x ≠ "__name__":=by decide) (hdb:(x==("__debug__" : Str))=false:=by decide)
  (he:starEach (e::es) X.env=(false,eval e X.env)::starEach es X.env:=by rfl) (hpl:(backTo pos (starEach es X.env)).any (·.1)=false:=by rfl):PE X (.Call (.Name x p) (e::es) [] pos) (tCB r t):=by
 intro pins s zzs H Q I h;refine FQ (Em I hg hm hv ?_ hn hdb);exact KY (thn (ha pos pins s zzs H _ I h) fun us s1 ⟨vs,H1,I1,r1,q1⟩=>hc pins s1 zzs H1 vs us Q I1 r1 q1) he hpl
end
end L2
namespace HT
open PySem PyProof.Rows
section
open PySem.SeqAt
open PySem.AutoSeq1 (wpAny_loadPart')
open PySem.MeetsSeq PySem.MeetsSeq2 PySem.MeetsSeq3
end
end HT
namespace L2
open PySem PySem.Spec PyProof.Rows
def ixN(n:Nat)(i:Int):Option Nat:=if 0<=i then(if i<n then some i.toNat else none) else if -(n:Int)<=i then some (i+n).toNat else none
def atI{α:Type}(xs:List α)(i:Int):Option α:=(ixN xs.length i).bind fun j=>xs[j]?
theorem Wa{n:Nat}{i:Int}{j:Nat}(h:ixN n i=some j):seqIndex? i n=some j/\j<n /\ -(n:Int)<=i/\i<n:=by
 unfold ixN at h;by_cases h0:0<=i
 ·rw[aJ h0] at h;by_cases h1:i<n
  ·rw[aJ h1] at h;have e:i.toNat=j:=iJ h;exact⟨by rw[seqIndex_of h0 h1,e],by lia,by lia,h1⟩
  ·rw[aG h1] at h;cases h
 ·rw[aG h0] at h;by_cases h1 : -(n:Int)<=i
  ·rw[aJ h1] at h;have e:(i+n).toNat=j:=iJ h;exact⟨by rw[seqIndex_neg (by lia) h1,e],by lia,h1,by lia⟩
  ·rw[aG h1] at h;cases h
theorem Dv{α:Type}{xs:List α}{i:Int}{v:α}(h:atI xs i=some v):∃ j,seqIndex? i xs.length=some j/\xs[j]?=some v/\j<xs.length /\ -(xs.length:Int)<=i/\i<xs.length:=by
 unfold atI at h;cases e:ixN xs.length i with
 |none=>rw[e] at h;cases h
 |some j=>
  rw[e] at h;obtain⟨h1,h2,h3,h4⟩:=Wa e;exact⟨j,h1,h,h2,h3,h4⟩
theorem gG{α:Type}{xs:List α}{j:Nat}{v:α}(h:xs[j]?=some v):atI xs (j:Int)=some v:=by
 have hj:j<xs.length:=(mZ.mp h).1;have e:ixN xs.length (j:Int)=some j:=by
  unfold ixN;rw[aJ (by lia),aJ (by lia)];simp
 unfold atI;rw[e];exact h
def Mu(b:Expr):Prop:=∀ o i,subscripted b false o i=operate [o,i] (getItem o i)
def IxR(X:Cx)(r:R2):Prop:=
 ∀(value slice:Expr)(pins:List (Addr×Obj))(s:Shared)(zzs:St)(H:Hp)(x y:V)(v u:Value)(Q:VK),Inv X pins zzs H s->RelV x v->RelV y u->r x y H Q ->
  subscripted slice false v u=operate [v,u] (getItem v u)->wpAny (model X.prog X.w) X.A (subscriptTail value slice v u) (EP X pins zzs Q) X.xe s
def MtR(X:Cx)(id:String)(r:V->List V->Hp->VK->Prop):Prop:=
 ∀(pins:List (Addr×Obj))(s:Shared)(zzs:St)(H:Hp)(x:V)(xs:List V)(v:Value)(us:List Value)(Q:VK),Inv X pins zzs H s->RelV x v->Vals xs us->r x xs H Q ->
  wpAny (model X.prog X.w) X.A (call (.builtin id) (v::us)) (EP X pins zzs Q) X.xe s
section
variable{X:Cx}{a b:Expr}{ta tb:TE}{pos:Pos}
theorem IxR.or{r r':R2}(h:IxR X r)(h':IxR X r'):IxR X (fun x y H Q=>r x y H Q\/r' x y H Q):=by
 intro value slice pins s zzs H x y v u Q I rx ry q hs;rcases q with q|q
 ·exact h value slice pins s zzs H x y v u Q I rx ry q hs
 ·exact h' value slice pins s zzs H x y v u Q I rx ry q hs
theorem a1i{r:R2}(hr:IxR X r)(ha:PE X a ta)(hb:PE X b tb)(hs:Mu b):PE X (.Subscript a b pos) (tOp r ta tb):=by
 intro pins s zzs H Q I h;exact Subscript_ (YB ha hb I h fun v u s2 x y H2 I2 rx ry q=>hr a b pins s2 zzs H2 x y v u Q I2 rx ry q (hs _ _))
def a1u(K:ak):R2:=fun x y H Q=>∃ p xs i v,x=.ref p/\y=.int i/\SqL K H p xs/\atI xs i=some v/\Q v H
def a1w(K:ak):R2:=fun x y H Q=>∃ p xs i v,x=.ref p/\y=.int i/\SqT K H p xs/\atI xs i=some v/\Q v H
def a1v:R2:=fun x y H Q=>∃ z i c,x=.str z/\y=.int i/\z.length<=sizeLine/\atI z.cps.toList i=some c/\Q (.str ⟨#[c]⟩) H
theorem Wb:IxR X (a1u X.K):=by
 intro value slice pins s zzs H x y v u Q I rx ry h hs;obtain⟨p,xs,i,z,rfl,rfl,hq,he,q⟩:=h;cases rx;obtain⟨t,rfl⟩:=ry;obtain⟨its,r,pl,hz⟩:=I.list hq;obtain⟨j,h1,h2,h3,h4,h5⟩:=Dv he;obtain⟨w,ew,rw'⟩:=r.get h2;have hl:=r.length;have hn:=zK;have fin:EP X pins zzs Q w s:=⟨z,H,I,rw',q⟩
 by_cases h0:0<=i
 ·have hj:i.toNat=j:=by
   rw[seqIndex_of h0 h5] at h1;exact iJ h1
  exact item_listR pl.isList h0 (by lia) (by rw[hj];simpa using ew) fin hs
 ·have hj:(i+(its.toArray.size:Int)).toNat=j:=by
   rw[seqIndex_neg (by lia) h4] at h1;rw[cI,<- hl];exact iJ h1
  exact subscriptTail_builtinR (x:=w) pl.isList.typeIs slot_list_getitem.lookup
   (wpAny_getItem_list_neg (Q:=fun r s'=>r=w/\EP X pins zzs Q r s') pl.isList (by lia) (by rw[cI]<;>lia) (by lia) (by rw[hj];simpa using ew) ⟨rfl,fin⟩) hs
theorem Zb:IxR X (a1w X.K):=by
 intro value slice pins s zzs H x y v u Q I rx ry h hs;obtain⟨p,xs,i,z,rfl,rfl,hq,he,q⟩:=h;cases rx;obtain⟨t,rfl⟩:=ry;obtain⟨its,r,pl,hz⟩:=I.tuple hq;obtain⟨j,h1,h2,h3,h4,h5⟩:=Dv he;obtain⟨w,ew,rw'⟩:=r.get h2;have hl:=r.length;have hn:=zK;have fin:EP X pins zzs Q w s:=⟨z,H,I,rw',q⟩
 exact subscriptTail_builtinR (x:=w) pl.typeIs slot_tuple_getitem.lookup
  (getItem_tuple (j:=j) (Q:=fun r s'=>r=w/\EP X pins zzs Q r s') pl (by lia) (by lia) (by rw[cI,<- hl];exact h1) (by simpa using ew) ⟨rfl,fin⟩) hs
theorem Za:IxR X a1v:=by
 intro value slice pins s zzs H x y v u Q I rx ry h hs;obtain⟨z,i,c,rfl,rfl,hz,he,q⟩:=h;obtain⟨t,rfl⟩:=rx;obtain⟨t',rfl⟩:=ry;obtain⟨j,h1,h2,h3,h4,h5⟩:=Dv he;have hl:z.cps.toList.length=z.length:=by simp[Str.length]
 rw[hl] at h1 h4 h5;have hn:=zK;exact tail_any (typeIs_str s z t) slot_str_getitem.lookup (getItem_str (c:=c) (by
  have e1:decide (i < -(2^63:Int))=false:=dB (by lia);have e2:decide (i>=2^63)=false:=dB (by lia);rw[e1,e2,Bool.or_false]) (by rw[h1];simpa using h2) ⟨.str ⟨#[c]⟩,H,I.tok _,⟨_,rfl⟩,q⟩) hs
def rIx(K:ak):R2:=fun x y H Q=>a1u K x y H Q\/a1w K x y H Q\/a1v x y H Q
theorem Z9:IxR X (rIx X.K):=Wb.or (Zb.or Za)
def Nb:V->Bool
 |.non=>true
 |.bl _=>true
 |.int _=>true
 |.str _=>true
 |_=>false
def eqV:V->V->Bool
 |.non,.non=>true
 |.bl a,.bl b=>a==b
 |.bl a,.int b=>(if a then 1 else 0)==b
 |.int a,.bl b=>a==(if b then 1 else 0)
 |.int a,.int b=>a==b
 |.str a,.str b=>a==b
 |_,_=>false
theorem Rg{A:Around}{s:Shared}{y x:V}{u v:Value}(ry:RelV y u)(rx:RelV x v)(fy:Nb y=true)(fx:Nb x=true):SeqAt.EqAt A s u v (eqV y x):=by
 cases y with
 |non=>
  cases ry;cases x with
  |non=>cases rx;exact SeqAt.EqAt.same _
  |bl b=>cases rx;exact SeqAt.EqAt.none_bool b
  |int b=>obtain⟨t,rfl⟩:=rx;exact SeqAt.EqAt.none_int b t
  |str b=>obtain⟨t,rfl⟩:=rx;exact SeqAt.EqAt.none_str b t
  |_=>exact absurd (show false=true from fx) fH
 |bl a=>
  cases ry;cases x with
  |non=>cases rx;exact SeqAt.EqAt.bool_none a
  |bl b=>cases rx;exact SeqAt.EqAt.bool_bool a b
  |int b=>obtain⟨t,rfl⟩:=rx;exact SeqAt.EqAt.bool_int a b t
  |str b=>obtain⟨t,rfl⟩:=rx;exact SeqAt.EqAt.bool_str a b t
  |_=>exact absurd (show false=true from fx) fH
 |int a=>
  obtain⟨t',rfl⟩:=ry;cases x with
  |non=>cases rx;exact SeqAt.EqAt.int_none a t'
  |bl b=>cases rx;exact SeqAt.EqAt.int_bool a t' b
  |int b=>obtain⟨t,rfl⟩:=rx;exact SeqAt.EqAt.int_int a t' b t
  |str b=>obtain⟨t,rfl⟩:=rx;exact SeqAt.EqAt.int_str a t' b t
  |_=>exact absurd (show false=true from fx) fH
 |str a=>
  obtain⟨t',rfl⟩:=ry;cases x with
  |non=>cases rx;exact SeqAt.EqAt.str_none a t'
  |bl b=>cases rx;exact SeqAt.EqAt.str_bool a t' b
  |int b=>obtain⟨t,rfl⟩:=rx;exact SeqAt.EqAt.str_int a t' b t
  |str b=>obtain⟨t,rfl⟩:=rx;exact SeqAt.EqAt.str_str a t' b t
  |_=>exact absurd (show false=true from fx) fH
 |_=>exact absurd (show false=true from fy) fH
theorem DN:dX X (.builtin "len") (fun xs H Q=>∃ p ys,xs=[.ref p]/\(SqL X.K H p ys\/SqT X.K H p ys)/\Q (.int ys.length) H):=by
 intro pins s zzs H xs us Q I r h;obtain⟨p,ys,rfl,hq,q⟩:=h;obtain⟨u,rfl,rx⟩:=vals1 r;cases rx;have hn:=zK;rcases hq with hq|hq
 ·obtain⟨its,r',pl,hz⟩:=I.list hq;have hlen:=r'.length;exact Calls.call_len_list pl.isList (by simp only[cI]<;>lia) ⟨.int ys.length,H,I.tok _,⟨s.toks+1,by rw[cI,hlen]⟩,q⟩
 ·obtain⟨its,r',pl,hz⟩:=I.tuple hq;have hlen:=r'.length;exact len_tuple pl (by simp only[cI]<;>lia) ⟨.int ys.length,H,I.tok _,⟨s.toks+1,by rw[cI,hlen]⟩,q⟩
theorem DP:dX X (.builtin "len") (fun xs H Q=>∃ z,xs=[.str z]/\z.length<=sizeLine/\Q (.int z.length) H):=by
 intro pins s zzs H xs us Q I r h;obtain⟨z,rfl,hz,q⟩:=h;obtain⟨u,rfl,t,rfl⟩:=vals1 r;have hn:=zK;exact len_str (by lia) ⟨.int z.length,H,I.tok _,⟨_,rfl⟩,q⟩
theorem dX.or{f:Value}{r r':List V->Hp->VK->Prop}(h:dX X f r)(h':dX X f r'):dX X f (fun xs H Q=>r xs H Q\/r' xs H Q):=by
 intro pins s zzs H xs us Q I rs q;rcases q with q|q
 ·exact h pins s zzs H xs us Q I rs q
 ·exact h' pins s zzs H xs us Q I rs q
theorem DQ:dX X (.type "list") (fun xs H Q=>∃ p ys,xs=[.ref p]/\(SqL X.K H p ys\/SqT X.K H p ys)/\∀ l,H l=none->Q (.ref l) (upd H l (.lst ys))):=by
 intro pins s zzs H xs us Q I r h;obtain⟨p,ys,rfl,hq,q⟩:=h;obtain⟨u,rfl,rx⟩:=vals1 r;cases rx;have fin:∀(its:List Value),Vals ys its->ys.length<=sizeLine->∀(h':Heap)(c':Nat),(∀ b o',s.heap.get? b=some o'->h'.get? b=some o') ->
   h'.get? s.heap.objs.size=some { cls:=.type "list",dict:=none,data:=.seq its.toArray c',slots:=#[] }->EP X pins zzs Q (.ref s.heap.objs.size) { s with heap:=h' }:=fun its r' hz h' c' kp e=>
  ⟨.ref s.heap.objs.size,_,I.laid (t':=s.toks) kp (bB _) (show gF X.prog X.w _ h' _ (.lst ys) from⟨hz,its,c',r',e⟩),rfl,q _ (I.hok.fresh (bB _))⟩
 rcases hq with hq|hq
 ·obtain⟨its,r',pl,hz⟩:=I.list hq;have hlen:=r'.length;obtain⟨o,ho,hc,n,hd⟩:=pl.isList;exact call_list_seq p (.inl rfl) ho hc hd (fun h' c' kp e=>fin its r' hz h' c' kp e) (by simp only[cI]<;>lia)
 ·obtain⟨its,r',pl,hz⟩:=I.tuple hq;have hlen:=r'.length;obtain⟨o,ho,hc,n,hd⟩:=pl;exact call_list_seq p (.inr rfl) ho hc hd (fun h' c' kp e=>fin its r' hz h' c' kp e) (by simp only[cI]<;>lia)
def tyV(K:ak)(T:String)(x:V)(H:Hp):Prop:=match x with
 |.str _=>T = "str"
 |.int _=>T = "int"
 |.ref p=>(T = "list" /\ ∃ xs,SqL K H p xs)\/(T = "tuple" /\ ∃ o,K.lookup p=some o/\o.cls=.type "tuple" /\ o.dict=none) \/
   (T = "dict" /\ ((∃ kvs,H p=some (.dK kvs))\/∃ kvs,H p=some (.dT kvs)))\/(T = "set" /\ ∃ S n,H p=some (.set S n))
 |_=>False
theorem Um{pins:List (Addr×Obj)}{zzs:St}{H:Hp}{s:Shared}{T:String}{x:V}{v:Value}(I:Inv X pins zzs H s)(r:RelV x v)(ty:tyV X.K T x H) :
  s.TypeIs v T/\∀ a,v=.ref a->∃ ob,s.heap.get? a=some ob/\ob.dict=none:=by
 cases x with
 |str z=>
  obtain⟨t,rfl⟩:=r;cases (show T = "str" from ty);exact⟨typeIs_str s z t,fun _ e=>nomatch e⟩
 |int i=>
  obtain⟨t,rfl⟩:=r;cases (show T = "int" from ty);exact⟨typeIs_int s i t,fun _ e=>nomatch e⟩
 |ref p=>
  cases r;rcases ty with⟨rfl,xs,hq⟩|⟨rfl,o,hk,hc,hd⟩|⟨rfl,hk⟩|⟨rfl,S,n,hk⟩
  ·obtain⟨its,_,pl,_⟩:=I.list hq;refine⟨pl.isList.typeIs,fun a e=>?_⟩;cases e;obtain⟨o,n,e,c,hd,_⟩:=pl;exact⟨o,e,hd⟩
  ·refine⟨⟨o,I.kIn p o hk,hc⟩,fun a e=>?_⟩;cases e;exact⟨o,I.kIn _ o hk,hd⟩
  ·have z:∃ o,s.heap.get? p=some o/\o.ExactDict:=by
    rcases hk with⟨kvs,hk⟩|⟨kvs,hk⟩
    ·obtain⟨_,_,_,_,o,_,_,e,ex,_⟩:=I.hok p _ hk;exact⟨o,e,ex⟩
    ·obtain⟨_,_,_,_,o,_,_,e,ex,_⟩:=I.hok p _ hk;exact⟨o,e,ex⟩
   obtain⟨o,e,ex⟩:=z;refine⟨⟨o,e,ex.1⟩,fun a e2=>?_⟩;cases e2;exact⟨o,e,ex.2.1⟩
  ·obtain⟨o,_,_,_,e,ex,_⟩:=I.hok p _ hk;refine⟨⟨o,e,ex.1⟩,fun a e2=>?_⟩;cases e2;exact⟨o,e,ex.2.1⟩
 |_=>exact False.elim ty
def a0r(K:ak)(T:String)(r:V->List V->Hp->VK->Prop)(to:TE):TE:=fun zzs H Q=>to zzs H fun x H1=>tyV K T x H1/\r x [] H1 Q
def tBM(K:ak)(T:String)(r:V->List V->Hp->VK->Prop)(to:TE)(t:TA):TE:=fun zzs H Q=>to zzs H fun x H1=>tyV K T x H1/\t zzs H1 fun xs H2=>r x xs H2 Q
variable{o e:Expr}{es:List Expr}{to:TE}{t:TA}{name:Str}{apos cpos:Pos}{T id:String}{r:V->List V->Hp->VK->Prop}
theorem ZS(pa:PlainAttrs T)(slot:Slot T name id) (hty:typeOf (.builtin id)=pure (.type "method_descriptor")) (hm:MtR X id r) (ho:PE X o to)
  (hbase:attributeBase o name X.env (eval o X.env)=eval o X.env:=by rfl) (hline:(apos.endLine==cpos.line)=true:=by rfl):PE X (.Call (.Attribute o name apos) [] [] cpos) (a0r X.K T r to):=by
 intro pins s zzs H Q I h;refine wpAny_Call_method0_late hbase hline (thn (ho pins s zzs H _ I h) fun v s1 zzy=>?_);obtain⟨x,H1,I1,r1,ty,q1⟩:=zzy;obtain⟨h1,h2⟩:=Um I1 r1 ty;exact⟨T,id,pa,slot,hty,h1,h2,Lj rfl (PySem.evalArgs_none (hm pins s1 zzs H1 x [] v [] Q I1 r1 .nil q1))⟩
theorem a1h(pa:PlainAttrs T)(slot:Slot T name id) (hty:typeOf (.builtin id)=pure (.type "method_descriptor")) (hm:MtR X id r) (ho:PE X o to) (ha:PA X (e::es) t)
  (hbase:attributeBase o name X.env (eval o X.env)=eval o X.env:=by rfl)
  (hfew:((backTo cpos (starEach (e::es) X.env)).all (fun x=>!x.1)&&(backToKw cpos (keywordEach [] X.env)).all (fun x=>x.1.isSome)
   && decide ((e::es).length+([]:List Keyword).length+(if([]:List Keyword).isEmpty then 0 else 1)<30))=true:=by rfl)
  (hline:(apos.endLine==cpos.line)=true:=by rfl) (hs:starEach (e::es) X.env=(false,eval e X.env)::starEach es X.env:=by rfl) (hplain:(backTo cpos (starEach es X.env)).any (·.1)=false:=by rfl) :
  PE X (.Call (.Attribute o name apos) (e::es) [] cpos) (tBM X.K T r to t):=by
 intro pins s zzs H Q I h;refine wpAny_Call_method_late hbase hfew hline rfl (thn (ho pins s zzs H _ I h) fun v s1 zzy=>?_);obtain⟨x,H1,I1,r1,ty,q1⟩:=zzy;obtain⟨h1,h2⟩:=Um I1 r1 ty;refine⟨T,id,pa,slot,hty,h1,h2,?_⟩;have hA:=ha cpos pins s1 zzs H1 _ I1 q1;rw[hs] at hA ⊢;refine Lj (by show(false||(backTo cpos (starEach es X.env)).any (·.1))=false;rw[hplain]<;>rfl) (Lx ?_);exact thn hA fun us s2 ⟨vs,H2,I2,r2,q2⟩=>hm pins s2 zzs H2 x vs v us Q I2 r1 r2 q2
end
def MtM(X:Cx)(id:String)(r:V->List V->Hp->VK->Prop):Prop:=
 ∀(pins:List (Addr×Obj))(s:Shared)(zzs:St)(H:Hp)(x:V)(xs:List V)(v:Value)(us:List Value)(Q:VK),Inv X pins zzs H s->RelV x v->Vals xs us->r x xs H Q ->
  wpAny (model X.prog X.w) X.A (call (.builtin id) (v::us)) (EP X pins zzs Q) X.xe s
theorem Vals.one{x:V}{us:List Value}(h:Vals [x] us):∃ u,us=[u]/\RelV x u:=by
 cases h with
 |cons r t=>cases t;exact⟨_,rfl,r⟩
theorem Vals.zero:∀ {us:List Value},Vals [] us->us=[]
 |_,.nil=>rfl
theorem Vals.dropLast{xs:List V}{us:List Value}(h:Vals xs us):Vals xs.dropLast us.dropLast:=by
 induction h with
 |nil=>exact .nil
 |cons r t ih=>
  cases t with
  |nil=>exact .nil
  |cons q t'=>exact .cons r ih
theorem Vals.rep{xs:List V}{us:List Value}(h:Vals xs us):∀ k:Nat,Vals (List.replicate k xs).flatten (List.replicate k us).flatten
 |0=>.nil
 |k+1=>by
  rw[xP,xP,Bs,Bs];exact Vals.append h (Vals.rep h k)
theorem JB{α:Type}(l:List α):l.eraseIdx (l.length-1)=l.dropLast:=by
 induction l with
 |nil=>rfl
 |cons a r ih=>
  cases r with
  |nil=>rfl
  |cons b r=>
   have e:(a::b::r).length-1=((b::r).length-1)+1:=by
    have h1:(a::b::r).length=r.length+2:=rfl;have h2:(b::r).length=r.length+1:=rfl;lia
   rw[e,List.eraseIdx_cons_succ,ih]
   all_goals rfl
theorem foldl_rep(its:List Value):∀(k:Nat)(acc:List Value),
  List.foldl (fun x1 x2=>x1++x2) acc.toArray (List.replicate k its.toArray)=(acc++(List.replicate k its).flatten).toArray
 |0,acc=>by simp
 |k+1,acc=>by
  have e:acc.toArray++its.toArray=(acc++its).toArray:=by simp
  have e2:(acc++its)++(List.replicate k its).flatten=acc++(List.replicate (k+1) its).flatten:=by
   rw[xP,Bs,vh]
  rw[<- e2,<- foldl_rep its k (acc++its),<- e,xP,Gh]
section
variable{X:Cx}{pins:List (Addr×Obj)}{zzs:St}{H:Hp}{s:Shared}{l b:Addr}{xs ys zs:List V}
theorem Inv.Wj{its its':List Value}{n:Nat}{f:Array Value->Array Value}{t':Nat}(I:Inv X pins zzs H s)(hH:H l=some (.lst xs))
  (e:s.heap.get? l=some { cls:=.type "list",data:=.seq its.toArray n }) (hf:f its.toArray=its'.toArray) (hv:Vals ys its') (hz:ys.length<=sizeLine) :
  Inv X pins zzs (upd H l (.lst ys)) { s with heap:=s.heap.update l (Obj.mapSeq f),toks:=t' }:=by
 have q:=PySem.IsL.update e f;rw[hf] at q;refine I.write (x:=l) (e:=l) (by rw[hH];exact trivial) (.inl rfl) (fun b' u hb hu=>(Heap.get?_update_other s.heap (Obj.mapSeq f) (mz hb)).trans hu) ⟨_,q⟩ ?_;exact⟨hz,its',_,hv,q⟩
theorem Inv.a1c{its:List Value}{t':Nat}(I:Inv X pins zzs H s)(hv:Vals ys its)(hz:ys.length<=sizeLine) :
  Inv X pins zzs (upd H s.heap.objs.size (.lst ys)) { s with heap:=s.heap.push { cls:=.type "list",data:=.seq its.toArray },toks:=t' }:=
 I.laid (fun _ _ q=>dW _ q) (bB _) ⟨hz,its,0,hv,jo _ rfl⟩
theorem Inv.fresh(I:Inv X pins zzs H s):H s.heap.objs.size=none:=I.hok.fresh (bB _)
theorem Inv.HS(I:Inv X pins zzs H s)(hH:H l=some (.lst xs)):xs.length<=sizeLine/\∃(its:List Value)(n:Nat),Vals xs its/\xs.length=its.length/\s.heap.get? l=some { cls:=.type "list",data:=.seq its.toArray n }:=by
 obtain⟨z,its,n,r,e⟩:=I.hok l _ hH;exact⟨z,its,n,r,r.length,e⟩
theorem zN{n:Nat}(h:n<=sizeLine):Builtin.List.listTooLong n=false:=by
 unfold Builtin.List.listTooLong;exact dB (by lia)
end
section
variable{X:Cx}
def Nz:V->List V->Hp->VK->Prop:=fun x vs H Q=>∃ l xs y,x=.ref l/\vs=[y]/\H l=some (.lst xs)/\xs.length<sizeLine/\Q .non (upd H l (.lst (xs++[y])))
theorem eG:MtM X "list.append" Nz:=by
 intro pins s zzs H x vs v us Q I rx rv h;obtain⟨l,xs,y,rfl,rfl,hH,hz,q⟩:=h;cases rx;obtain⟨u,rfl,ru⟩:=rv.one;obtain⟨z,its,n,r,hl,e⟩:=I.HS hH;refine pN F.slot_list_append ⟨_,e,rfl⟩ F.entry_list_append (F.args_list_append_2 _ _) (PySem.list_append l its.toArray n u (by rw[cI];lia)) ⟨e,?_⟩;refine⟨.non,_,I.Wj (its':=its++[u]) hH e (by simp) (r.append (.cons ru .nil)) ?_,rfl,q⟩;rw[cC,jK];lia
def Xm:V->List V->Hp->VK->Prop:=fun x vs H Q=>∃ l b xs zs,x=.ref l/\vs=[.ref b]/\H l=some (.lst xs)/\H b=some (.lst zs)/\xs.length+zs.length<=sizeLine/\Q .non (upd H l (.lst (xs++zs)))
theorem Q5:MtM X "list.extend" Xm:=by
 intro pins s zzs H x vs v us Q I rx rv h;obtain⟨l,b,xs,zs,rfl,rfl,hH,hB,hz,q⟩:=h;cases rx;obtain⟨u,rfl,ru⟩:=rv.one;cases ru;obtain⟨z,its,n,r,hl,e⟩:=I.HS hH;obtain⟨z2,its2,n2,r2,hl2,e2⟩:=I.HS hB;have hsz:its.toArray.size+its2.toArray.size<=sizeLine:=by rw[cI,cI];lia
 have Hx:¬(!its.toArray.isEmpty&&Builtin.List.listTooLong (its.toArray.size+its2.toArray.size))=true:=by
  rw[zN hsz,rD];exact fH
 refine pN F.slot_list_extend ⟨_,e,rfl⟩ F.entry_list_extend (F.args_list_extend_2 _ _)
  (AutoSeq1.list_extend_list_list_0 l its.toArray n b its2.toArray n2 Hx (by rw[cI];lia) (by lia)) ⟨e,e2,?_⟩
 refine⟨.non,_,I.Wj (its':=its++its2) hH e (by simp) (r.append r2) ?_,rfl,q⟩;rw[cC];omega
def a2D:V->List V->Hp->VK->Prop:=fun x vs H Q=>∃ l xs y,x=.ref l/\vs=[]/\H l=some (.lst xs)/\xs[xs.length-1]?=some y/\Q y (upd H l (.lst xs.dropLast))
theorem RW:MtM X "list.pop" a2D:=by
 intro pins s zzs H x vs v us Q I rx rv h;obtain⟨l,xs,y,rfl,rfl,hH,hy,q⟩:=h;cases rx;have hus:=rv.zero;subst hus;obtain⟨z,its,n,r,hl,e⟩:=I.HS hH;obtain⟨u,hu,ru⟩:=r.get hy;have hy':its.toArray[its.toArray.size-1]?=some u:=by
  show its.toArray[its.length-1]?=some u;rw[<- Dk,<- hl];exact hu
 refine pN F.slot_list_pop ⟨_,e,rfl⟩ F.entry_list_pop (F.args_list_pop_1 _) (MeetsSeq.list_pop_last l its.toArray n u hy' (by rw[cI];lia)) ⟨e,?_⟩;refine⟨y,_,I.Wj (its':=its.dropLast) hH e ?_ r.dropLast ?_,ru,q⟩
 ·show its.toArray.eraseIdxIfInBounds (its.toArray.size-1)=its.dropLast.toArray;rw[cI,List.eraseIdxIfInBounds_toArray,JB]
 ·rw[List.length_dropLast];lia
def a2B:R2:=fun x y H Q=>∃ l b xs zs,x=.ref l/\y=.ref b/\H l=some (.lst xs)/\H b=some (.lst zs)/\xs.length+zs.length<=sizeLine/\∀ p,H p=none->Q (.ref p) (upd H p (.lst (xs++zs)))
theorem ZD:OpR X (binaryOp .Add) a2B:=by
 intro pins s zzs H x y v u Q I rx ry h;obtain⟨l,b,xs,zs,rfl,rfl,hH,hB,hz,q⟩:=h;cases rx;cases ry;obtain⟨z,its,n,r,hl,e⟩:=I.HS hH;obtain⟨z2,its2,n2,r2,hl2,e2⟩:=I.HS hB;refine PySem.P.add_list e e2 ?_ (by rw[cI,cI];lia);have ea:its.toArray++its2.toArray=(its++its2).toArray:=by simp
 rw[ea];exact⟨.ref _,_,I.a1c (t':=s.toks) (r.append r2) (by rw[cC];omega),rfl,q _ I.fresh⟩
def a2E:R2:=fun x y H Q=>∃ l k xs,x=.ref l/\y=.int k/\H l=some (.lst xs) /\ -(2^63)<=k/\k<2^63/\xs.length*k.toNat<=sizeLine /\
 ∀ p,H p=none->Q (.ref p) (upd H p (.lst (List.replicate k.toNat xs).flatten))
theorem len_rep{α:Type}(xs:List α)(k:Nat):(List.replicate k xs).flatten.length=k*xs.length:=by
 induction k with
 |zero=>simp
 |succ k ih=>rw[xP,Bs,cC,ih,Nat.succ_mul,Nat.add_comm]
theorem ZP:OpR X (binaryOp .Mult) a2E:=by
 intro pins s zzs H x y v u Q I rx ry h;obtain⟨l,k,xs,rfl,rfl,hH,h1,h2,hz,q⟩:=h;cases rx;obtain⟨t,rfl⟩:=ry;obtain⟨z,its,n,r,hl,e⟩:=I.HS hH;have hlen:its.toArray.size*k.toNat<=sizeLine:=by rw[cI,<- hl];exact hz
 have hcap:¬its.toArray.size*k.toNat>(2^63-1) / 8:=by
  have:(sizeLine:Nat)<=(2^63-1) / 8:=by decide
  lia
 have hfit:¬(!Builtin.List.listFitsIndex k)=true:=by
  rw[fitsIndex_both h1 h2];exact fH
 have Hx:¬Builtin.List.listTooLong (its.toArray.size*k.toNat)=true:=by
  rw[zN hlen];exact fH
 have hnew:List.foldl (fun x1 x2=>x1++x2) #[] (List.replicate (if its.toArray.isEmpty=true then 0 else k.toNat) its.toArray)=(List.replicate k.toNat its).flatten.toArray:=by
  have f0:∀ m:Nat,List.foldl (fun x1 x2=>x1++x2) #[] (List.replicate m its.toArray)=(List.replicate m its).flatten.toArray:=fun m=>by
   have:=foldl_rep its m [];rw[List.nil_append] at this;exact this
  rw[f0];cases its with
  |nil=>simp
  |cons a r'=>rw[aG (by simp)]
 refine wpAny_binaryOp_repeat_ref (T:="list") (U:="int") (by decide) ⟨_,e,rfl⟩ (fun s'=>typeIs_int s' k t) noFill_list_mul F.fills_int_mul F.slot_int_rmul repeat_list F.slot_int_index.lookup
  (pN F.slot_int_rmul (typeIs_int s k t) F.entry_int_rmul (F.args_int_rmul_2 _ _) (int___rmul___int_list k t l its.toArray n)
   ⟨e,rfl,⟨_,e,rfl⟩,pN F.slot_list_mul ⟨_,e,rfl⟩ F.entry_list_mul (F.args_list_mul_2 _ _) (AutoListH.list___mul___list_int_3 l its.toArray n k t hfit hcap Hx) ⟨e,?_⟩⟩)
 rw[hnew];exact⟨.ref _,_,I.a1c (t':=s.toks) (r.rep k.toNat) (by rw[len_rep,Nat.mul_comm];exact hz),rfl,q _ I.fresh⟩
end
end L2
namespace Att
open PySem PySem.W PySem.Calls PyProof.Rows
theorem xX{P:Params}{h:Heap}:∀(ns:List Int)(vs:List Value),WellAll P h vs (ns.map WData.int)->IntsAre vs ns:=by
 intro ns
 induction ns with
 |nil=>
  intro vs w;rw[Bl] at w;cases w;exact .nil
 |cons n ns ih=>
  intro vs w;rw[dM] at w;cases w with
  |cons a b=>
   cases a;exact .cons _ _ (ih _ b)
theorem Qw{l:OpenLaw}{n:Nat}(hn:l.most=some n){P:Params}{h:Heap}{args:List WData}{vals:List Value}
  (hpre:l.row.toRowW.claim.pre args=true) (hwl:WellAll P h vals args) :
  ∃ a vs ns,vals=[Value.ref a]/\args=[WData.list (ns.map WData.int)]/\h.get? a=some { cls:=.type "list",data:=.seq vs.toArray }/\IntsAre vs ns/\ns.length<=n:=by
 have hsh:WShape.hasAll [] args [.list .int]=true:=(pre_splitW hpre).1;have hc:l.pre.holds [] { args:=args }=true:=(pre_splitW hpre).2;obtain⟨d,r,rfl,h1,h2⟩:=hasAllW_cons hsh;obtain rfl:=hasAllW_nil h2;obtain⟨xs,rfl,h3⟩:=hasW_list h1;obtain⟨ns,rfl⟩:=items_int h3;have hlen:ns.length<=n:=by
  unfold OpenLaw.pre at hc;have h4:(WTm.not (.lt (.lit (.int (n:Int))) (.len (.arg 0)))).holds [] { args:=[.list (ns.map .int)] }=true:=by
   have h4:=(holds_andW hc).1;rw[hn] at h4;exact h4
  have h5:=condW_of h4 (w_not (w_lt w_lit (w_len_list (w_arg rfl))));rw[aZ] at h5;refine Nat.le_of_not_lt fun q=>?_
  have q':(n:Int)<((ns.length:Nat):Int):=by omega
  first
   |(rw[cR q'] at h5;exact absurd h5 (by decide))
   |(simp at h5;omega)
 cases hwl with
 |cons w1 w2=>
  cases w2;cases w1 with
  |list ho hall=>exact⟨_,_,ns,rfl,rfl,ho,xX ns _ hall,hlen⟩
theorem Qp(l:OpenLaw)(args:List WData):l.row.toRowW.claim.post args (.bool true) args=true:=
 postW_of (r:=l.row.toRowW) (X:=(true==true))
  (show WShape.has [] (.bool true) .bool=true by first|rfl|decide|simp[WShape.has,WShape.arms,WShape.armsAll])
  (show(WTm.eq .res (.lit (.bool true))).value [] { args:=args,res:=some (.bool true),after:=args }=some (.bool (true==true)) from w_eq_bool (w_res rfl) w_lit) rfl
theorem GK{l:OpenLaw}{n:Nat}{q:Program}{loose:List Str}{XP:(Str->Option Value)->Heap->Prop}{YP:World->Heap->Prop}{d:DefRec}
  (hn:l.most=some n) (hdf:d.params.defaults=[])
  (call:∀(w:World)(s₀ s₁:Shared)(mg mb:Str->Option Value)(fa:Addr)(o:Obj)(pm cd doc:Value)(a:Addr)(vs:List Value)(ns:List Int),
   Ground q loose [] XP w s₀ mg mb s₁.heap->YP w s₁.heap ->
   s₁.heap.get? fa=some o->o.data=.func (docDef d.name d.params d.body d.scope pm cd doc)->s₁.heap.CodeRec cd d.name->mg d.name=some (.ref fa) ->
   s₁.heap.get? a=some { cls:=.type "list",data:=.seq vs.toArray }->IntsAre vs ns->ns.length<=n->s₁.gens=#[] ->
   codeAny (model l.prog w) callerA (.call (.ref fa) ⟨[.ref a],[]⟩) (fun r s'=>r=.ok (.ret (.bool true))/\OldK s₁.heap s'.heap/\s'.os=s₁.os/\AllBare s'.gens) s₁) :
  WalkO q loose XP YP l.row.toRowW d [] (fun f vs=>PySem.call f vs):=by
 intro w s₀ s₁ mg mb G Y fa o pm cd doc dV kV ho hd hcd hD hmg hg args vals as hpre hlay hrd hwl hlo;obtain rfl:dV=.none:=Dflts.none hD hdf;obtain rfl:kV=.none:=Dflts.noKw hD;obtain⟨a,vs,ns,rfl,rfl,hobj,hints,hlen⟩:=Qw hn hpre hwl;refine enter_call (Bj (call w s₀ s₁ mg mb fa o pm cd doc a vs ns G Y ho (fd_plain hd) hcd hmg hobj hints hlen hg) fun r s' hq=>?_);obtain⟨rfl,h2,h3,h4⟩:=hq;exact⟨.inl ⟨.bool true,.bool true,[],rfl,fun _=>rfl,.bool true,Qp l _,fun _=>⟨List.Pairwise.nil,fun _ hm=>(nomatch hm)⟩⟩,h2,h3,h4⟩
end Att
namespace L2
open PySem PySem.Spec PyProof.Rows
theorem Dj:∀ {vs:List Value} {ns:List Int},IntsAre vs ns->Vals (ns.map V.int) vs
 |_,_,.nil=>.nil
 |_,_,.cons n t h=>.cons ⟨t,rfl⟩ (Dj h)
def Only(H:Hp):Prop:=∀ b,H b=none\/∃ o xs,H b=some (.frz o (.lst xs))
theorem RJ{P:Program}{w:World}{K:ak}{mg mb:Str->Option Value}{CX:CXT}{k:Nat}{fa a:Addr}{fd:FuncData}{x:Str}{sp:Sp}{s₁:Shared}{vs:List Value}{ns:List Int}
  (KX:K.In s₁.heap) (hns:s₁.heap.Ns mainGlobals mg) (hb:s₁.heap.Ns builtinsNs mb) (hbb:∀ x:Str,x ≠ "__name__" -> mb x=bootBuiltins x) (hlim:s₁.heap.NoLimit) (hg:s₁.gens=#[])
  (ha:s₁.heap.get? a=some { cls:=.type "list",data:=.seq vs.toArray }) (hi:IntsAre vs ns) (hl:ns.length<=sizeLine) (hr:gC k callerA)
  (F:∀ base:Heap,K.In base->base.Ns mainGlobals mg->cF P w K mg base CX k fa fd [x] sp) (hbind:∀(s:Shared)(u:Value),BindsTo s fd ⟨[u],[]⟩ [(x,u)])
  (hsp:∀ H:Hp,Only H->SqL K H a (ns.map V.int)->sp [.ref a] H (fun v _=>v=.bl true) fun _ _ _=>False)
  (hCX:∀ H e s',CX [] H s₁ (fun _ _ _=>False) e s'->False) :
  codeAny (model P w) callerA (.call (.ref fa) ⟨[.ref a],[]⟩) (fun r s'=>r=.ok (.ret (.bool true))/\OldK s₁.heap s'.heap/\s'.os=s₁.os/\AllBare s'.gens) s₁:=by
 have rv:=Dj hi;have lenV:=hi.length;have core:∀ H:Hp,Only H->SqL K H a (ns.map V.int)->HOk P w H s₁.heap->(∀ b,H b≠none->b=a)->(H a≠none->K.lookup a=none) ->
   codeAny (model P w) callerA (.call (.ref fa) ⟨[.ref a],[]⟩) (fun r s'=>r=.ok (.ret (.bool true))/\OldK s₁.heap s'.heap/\s'.os=s₁.os/\AllBare s'.gens) s₁:=by
  intro H hO hS hok hA hK;have MF:∀ {b:Addr} {o:Obj},s₁.heap.get? b=some o->H b=none->(Eh s₁.heap H).get? b=some o:=fun e n=>Ro e n
  have noA:∀ {b:Addr} {o:Obj} {es:Array DictEntry} {ep:Nat},s₁.heap.get? b=some o->o.data=.dict es ep->H b=none:=fun {b o es ep} e d=>by
   cases q:H b with
   |none=>rfl
   |some u=>
    have e':b=a:=hA b (by rw[q];simp);subst e';rw[ha] at e;cases e;have d':Data.seq vs.toArray _=Data.dict es ep:=d;cases d'
  have nsK:∀ {b:Addr} {m:Str->Option Value},s₁.heap.Ns b m->(Eh s₁.heap H).Ns b m:=fun {b m} ⟨o,es,ep,e,d,r⟩=>⟨o,es,ep,MF e (noA e d),d,r⟩
  have hKb:K.In (Eh s₁.heap H):=fun b o e=>MF (KX b o e) (by
   cases q:H b with
   |none=>rfl
   |some u=>
    have e':b=a:=hA b (by rw[q];simp);subst e';rw[hK (by rw[q];simp)] at e;cases e)
  have hM:Mod K mg (Eh s₁.heap H):=⟨hKb,nsK hns,⟨mb,nsK hb,hbb⟩,let ⟨mc,h1,h2⟩:=hlim;⟨mc,nsK h1,h2⟩⟩
  have e0:Jh P w K mg (Eh s₁.heap H) callerA [] s₁ H:=⟨rfl,hM,fun b o e=>Wt e,Nat.le_of_eq (Pu _ _),trivial,fun b hb=>absurd (show b∈([]:List Addr) from hb) (by simp),hok,.of_eq hg⟩
  refine Bj ((F _ hKb (nsK hns)).run callerA [] s₁ H ⟨[.ref a],[]⟩ [.ref a] [.ref a] _ _ hr e0 (hbind s₁ (.ref a)) (.cons rfl .nil) (hsp H hO hS)) fun r s' h=>?_
  cases r with
  |error e=>exact(hCX H e s' h).elim
  |ok fl=>
   cases fl with
   |next=>exact False.elim h
   |brk=>exact False.elim h
   |cont=>exact False.elim h
   |ret u=>
    obtain⟨v,H',os,bare,un,hok',r',q⟩:=h;have q':v=.bl true:=q;subst q';obtain rfl:u=Value.bool true:=r';refine⟨rfl,OldK.of_keep fun b o e=>?_,os,bare⟩;cases q:H b with
    |none=>exact un.keep b o e q (by intro z;exact absurd (show b∈([]:List Addr) from z) (by simp)) (by simp)
    |some u=>
     rcases hO b with z|⟨ob,xs,z⟩
     ·rw[q] at z;cases z
     ·have z2:=un.qH b ob _ z;obtain⟨e1,_⟩:=hok b _ z;obtain⟨e2,_⟩:=hok' b _ z2;rw[e] at e1;cases e1;exact e2
 cases hk:K.lookup a with
 |some o=>
  have e:=KX a o hk;rw[ha] at e;cases e;refine core (fun _=>none) (fun _=>.inl rfl) (.inr ⟨_,vs.toArray,_,hk,rfl,rfl,rfl,by rw[cI,lenV];exact hl,by simpa using rv⟩) (fun b u z=>by have z':(none:Option HO)=some u:=z;cases z') (fun b z=>absurd rfl z) fun z=>absurd rfl z
 |none=>
  refine core (fun b=>if b=a then some (.frz { cls:=.type "list",data:=.seq vs.toArray } (.lst (ns.map V.int))) else none) (fun b=>?_) (.inl (.inr ⟨{ cls:=.type "list",data:=.seq vs.toArray },aJ rfl⟩)) (fun b u z=>?_) (fun b z=>?_) fun _=>hk
  ·by_cases hb:b=a
   ·exact .inr ⟨_,_,aJ hb⟩
   ·exact .inl (aG hb)
  ·by_cases hb:b=a
   ·have z':=(aJ hb).symm.trans z;cases z';subst hb;exact⟨ha,by rw[aZ];exact hl,vs,_,rv,ha⟩
   ·have z':=(aG hb).symm.trans z;cases z'
  ·by_cases hb:b=a
   ·exact hb
   ·exact absurd (aG hb) z
theorem XQ{l:PySem.W.OpenLaw}{n k:Nat}{q:Program}{loose:List Str}{XP:(Str->Option Value)->Heap->Prop}{YP:World->Heap->Prop}{d:DefRec}{K:Params->ak}{CX:World->CXT}{sp:World->Sp}{x:Str}
  (hn:l.most=some n) (hn2:n<=sizeLine) (hdf:d.params.defaults=[]) (hr:gC k callerA)
  (hY:∀(w:World)(h:Heap),YP w h->(K w.params).In h)
  (F:∀(w:World)(mg:Str->Option Value)(fa:Addr)(h:Heap),(K w.params).In h->h.Ns mainGlobals mg->mg d.name=some (.ref fa) ->
   ∃ fd:FuncData,(∀(s:Shared)(u:Value),BindsTo s fd ⟨[u],[]⟩ [(x,u)]) /\
    ∀ base:Heap,(K w.params).In base->base.Ns mainGlobals mg->cF l.prog w (K w.params) mg base (CX w) k fa fd [x] (sp w))
  (hsp:∀(w:World)(H:Hp)(a:Addr)(ns:List Int),ns.length<=n->Only H->SqL (K w.params) H a (ns.map V.int)->sp w [.ref a] H (fun v _=>v=.bl true) fun _ _ _=>False)
  (hCX:∀(w:World)(H:Hp)(s:Shared)(e:Value)(s':Shared),CX w [] H s (fun _ _ _=>False) e s'->False) :
  PySem.W.WalkO q loose XP YP l.row.toRowW d [] (fun f vs=>PySem.call f vs):=by
 refine Att.GK hn hdf fun w s₀ s₁ mg mb fa o pm cd doc a vs ns G Y ho hd hcd hmg hobj hints hlen hg=>?_
 have KX:=hY w _ Y;obtain⟨fd,hb,hF⟩:=F w mg fa _ KX G.T.g hmg;exact RJ KX G.T.g G.T.b G.T.builtins G.T.nolimit hg hobj hints (dN hlen hn2) hr hF hb (fun H hO hS=>hsp w H a ns hlen hO hS) fun H e s'=>hCX w H s₁ e s'
def inClass(s:Stmt)(j:Nat):Stmt:=match s with
 |.ClassDef _ _ _ body _ _ _ _ _ _ _=>body.getD j (.Pass ⟨0,0,0,0⟩)
 |_=>.Pass ⟨0,0,0,0⟩
def jg(s:Stmt):Arguments:=match s with
 |.FunctionDef _ a _ _ _ _ _ _ _ _=>a
 |_=>{ posonlyargs:=[],args:=[],vararg:=none,kwonlyargs:=[],kw_defaults:=[],kwarg:=none,defaults:=[] }
def gj(s:Stmt):List Stmt:=match s with
 |.FunctionDef _ _ b _ _ _ _ _ _ _=>b
 |_=>[]
def aK(s:Stmt):Scope:=match s with
 |.FunctionDef _ _ _ _ _ _ sc _ _ _=>sc
 |_=>{ kind:=.function,names:=[],isGenerator:=false,isCoroutine:=false }
abbrev E0:XK:=fun _ _ _=>False
structure Fun(K:ak)(x qual:Str)(st:Stmt)(f:Addr)(fd:FuncData):Prop where
 ex:∃(oc:Value)(od:Option Addr)(kV doc pm:Value)(an:Option Addr)(cdv ct:Value)(osl:Array (Option Value)),
  fd=PySem.W.fnOf x qual (jg st) (gj st) (aK st) .none kV doc pm an cdv ct/\K.lookup f=some ⟨oc,od,.func fd,osl⟩/\PySem.W.codeIn K cdv qual=true
 kp:PySem.W.keepIn K (.ref f)=true
section
variable{P:Program}{w:World}{K:ak}{mg:Str->Option Value}{base:Heap}
theorem Fun.binds{x qual:Str}{st:Stmt}{f:Addr}{fd:FuncData}{ps:List Str}(F:Fun K x qual st f fd)
  (h:∀(kV doc pm:Value)(an:Option Addr)(cdv ct:Value)(us:List Value),us.length=ps.length->bindArgs (PySem.W.fnOf x qual (jg st) (gj st) (aK st) .none kV doc pm an cdv ct) ⟨us,[]⟩=pure (ps.zip us)):Binds K fd ps []:=by
 obtain⟨oc,od,kV,doc,pm,an,cdv,ct,osl,rfl,lk,hcd⟩:=F.ex;exact .all (h kV doc pm an cdv ct)
theorem Rk{x qual:Str}{st:Stmt}{f:Addr}{oc:Value}{od an:Option Addr}{osl:Array (Option Value)}{kV doc pm cdv ct:Value}(l:K.lookup f=some ⟨oc,od,.func (PySem.W.fnOf x qual (jg st) (gj st) (aK st) .none kV doc pm an cdv ct),osl⟩)
  (c:PySem.W.codeIn K cdv qual=true) (k:PySem.W.keepIn K (.ref f)=true):Fun K x qual st f (PySem.W.fnOf x qual (jg st) (gj st) (aK st) .none kV doc pm an cdv ct):=⟨⟨oc,od,kV,doc,pm,an,cdv,ct,osl,rfl,l,c⟩,k⟩
end
theorem qJ{A B:Prop}(h:B):if false=true then A else B:=by
 rw[aG fH];exact h
theorem BJ{A B:Prop}(h:A):if true=true then A else B:=by
 rw[aJ rfl];exact h
theorem Rr{c A B:Prop} [Decidable c] (h1:c->A) (h2:¬c->B):if c then A else B:=by
 by_cases h:c
 ·rw[aJ h];exact h1 h
 ·rw[aG h];exact h2 h
def Same(H H':Hp):Prop:=∀ b o,H b=some o->H' b=some o
theorem Same.refl(H:Hp):Same H H:=fun _ _ h=>h
theorem Same.trans{H H1 H2:Hp}(a:Same H H1)(b:Same H1 H2):Same H H2:=fun c o h=>b c o (a c o h)
theorem Same.free{H H':Hp}(e:Same H H'){l:Addr}(h:H' l=Option.none):H l=Option.none:=by
 cases q:H l with
 |none=>rfl
 |some o=>
  rw[e l o q] at h;cases h
theorem Same.seq{K:ak}{H H':Hp}{a:Addr}{xs:List V}(e:Same H H')(h:SqL K H a xs):SqL K H' a xs:=by
 rcases h with(h|⟨o,h⟩)|h
 ·exact .inl (.inl (e _ _ h))
 ·exact .inl (.inr ⟨o,e _ _ h⟩)
 ·exact .inr h
theorem Vals.a0D{x:V}{u:Value}(r:RelV x u):Vals [x] [u]:=.cons r .nil
theorem Inv.track{X:Cx}{pins:List (Addr×Obj)}{zzs:St}{H:Hp}{s:Shared}{D:Addr}{o:HO}(I:Inv X pins zzs H s)(hn:H D=none)(h0:X.s₀.heap.objs.size<=D)(hL:D≠X.env.locals)
  (hc:∀ x c,X.env.cells.lookup x=some c->c≠D) (hp:∀ p∈X.pn++pins,p.1≠D) (new:gF X.prog X.w (upd H D o) s.heap D o):Inv X pins zzs (upd H D o) s:=by
 have ne:∀ b u,H b=some u->b≠D:=fun b u e=>aQ e hn
 refine⟨I.ok,I.os,I.bare,⟨I.base.keep,I.base.slot,fun b u e n hx=>?_,I.base.there,fun b xs e=>?_,fun b u xs e=>?_,fun b ps e=>?_⟩,I.loc,I.cell,?_,fun x c e=>?_,fun p q=>?_,fun b u e=>?_,I.len⟩
 ·rw[aN (fZ (jq (bR e) h0))];exact I.base.free b u e n hx
 ·have e':=I.base.tups b xs e;rw[aN (ne b _ e')];exact e'
 ·have e':=I.base.qH b u xs e;rw[aN (ne b _ e')];exact e'
 ·obtain⟨more,e'⟩:=I.base.sI b ps e;exact⟨more,by rw[aN (ne b _ e')];exact e'⟩
 ·rw[aN (mz hL)];exact I.free
 ·rw[aN (hc x c e)];exact I.lO x c e
 ·obtain⟨a1,a2,a3,a4,a5⟩:=I.pin p q;exact⟨a1,by rw[aN (hp p q)];exact a2,a3,a4,a5⟩
 ·by_cases hb:b=D
  ·subst hb;rw[aC] at e;cases e;exact new
  ·rw[aN hb] at e;exact(I.hok b u e).stay (fun c v _ q=>q) (fun c q=>by rw[aN (ne c _ q)];exact q) fun c xs q=>by rw[aN (ne c _ q)];exact q
def dH:List (Str×NameKind)->List (Str×Addr)->List (Str×Addr)->List (Str×Addr)
 |[],_,acc=>acc
 |(n,k)::r,cells,acc=>if k==.free then dH r cells ((n,(cells.lookup n).getD 0)::acc) else dH r cells acc
theorem Jt{env:Env}:∀(names:List (Str×NameKind))(acc:List (Str×Addr)),(∀ y∈names,y.2=.free->∃ c,env.cells.lookup y.1=some c) ->
  (forIn names acc fun x cs=>(if x.2==NameKind.free then do let a <- cellOf env x.1;pure (ForInStep.yield ((x.1,a)::cs)) else pure (ForInStep.yield cs):Sem (ForInStep (List (Str×Addr)))))=pure (dH names env.cells acc):=by
 intro names
 induction names with
 |nil=>intro acc _;rfl
 |cons p r ih=>
  intro acc h;obtain⟨n,k⟩:=p;rw[List.forIn_cons];have hr:∀ y∈r,y.2=.free->∃ c,env.cells.lookup y.1=some c:=fun y hy=>h y (f9 _ hy)
  by_cases hk:k=.free
  ·subst hk;obtain⟨c,hc⟩:=h (n,.free) cZ rfl;have hc':env.cells.lookup n=some c:=hc;have e1:cellOf env n=pure c:=by unfold cellOf;rw[hc']
   have e2:dH ((n,NameKind.free)::r) env.cells acc=dH r env.cells ((n,c)::acc):=by
    show(if(NameKind.free==NameKind.free)=true then _ else _)=_;rw[aJ (by decide),hc'];rfl
   rw[e2,<- ih ((n,c)::acc) hr];simp only[Mi,uf,e1,pure_bind]
  ·have hb:(k==NameKind.free)=false:=by simpa using hk
   have e2:dH ((n,k)::r) env.cells acc=dH r env.cells acc:=by
    show(if(k==NameKind.free)=true then _ else _)=_;rw[hb];rfl
   rw[e2,<- ih acc hr];simp only[hb,wL,rE,pure_bind]
theorem yP{env:Env}{scope:Scope}(h:∀ y∈scope.names,y.2=.free->∃ c,env.cells.lookup y.1=some c):closureFor scope env=pure (dH scope.names env.cells []):=by
 rw[<- Jt scope.names [] h];unfold closureFor;simp only[bind_pure]
theorem oR:∀(names:List (Str×NameKind)){cells acc:List (Str×Addr)}{x:Str}{c:Addr},(∀ y∈names,y.2=.free->∃ c,cells.lookup y.1=some c)->(∀ y d,acc.lookup y=some d->cells.lookup y=some d) ->
  (dH names cells acc).lookup x=some c->cells.lookup x=some c:=by
 intro names
 induction names with
 |nil=>intro cells acc x c _ h e;exact h x c e
 |cons p r ih=>
  intro cells acc x c h ha e;obtain⟨n,k⟩:=p;have hr:∀ y∈r,y.2=.free->∃ c,cells.lookup y.1=some c:=fun y hy=>h y (f9 _ hy)
  by_cases hk:k=.free
  ·subst hk;obtain⟨d,hd⟩:=h (n,.free) cZ rfl;have hd':cells.lookup n=some d:=hd;have e2:dH ((n,NameKind.free)::r) cells acc=dH r cells ((n,d)::acc):=by
    show(if(NameKind.free==NameKind.free)=true then _ else _)=_;rw[aJ (by decide),hd'];rfl
   rw[e2] at e;refine ih hr (fun y q z=>?_) e;rw[xR] at z;split at z
   ·rename_i hy;have hy':y=n:=by simpa using hy
    subst hy';cases z;exact hd'
   ·exact ha y q z
  ·have hb:(k==NameKind.free)=false:=by simpa using hk
   have e2:dH ((n,k)::r) cells acc=dH r cells acc:=by
    show(if(k==NameKind.free)=true then _ else _)=_;rw[hb];rfl
   rw[e2] at e;exact ih hr ha e
theorem Cp:∀(names:List (Str×NameKind)){cells acc:List (Str×Addr)}{x:Str},((x,NameKind.free)∈names\/∃ d,acc.lookup x=some d)->∃ c,(dH names cells acc).lookup x=some c:=by
 intro names
 induction names with
 |nil=>
  intro cells acc x h;rcases h with h|h
  ·exact absurd h (by simp)
  ·exact h
 |cons p r ih=>
  intro cells acc x h;obtain⟨n,k⟩:=p;by_cases hk:k=.free
  ·subst hk;have e2:dH ((n,NameKind.free)::r) cells acc=dH r cells ((n,(cells.lookup n).getD 0)::acc):=by
    show(if(NameKind.free==NameKind.free)=true then _ else _)=_;rw[aJ (by decide)]
   rw[e2];refine ih ?_;by_cases hx:x=n
   ·exact .inr ⟨(cells.lookup n).getD 0,by subst hx;simp[xR]⟩
   ·rcases h with h|⟨d,h⟩
    ·rcases cW.mp h with q|q
     ·exact absurd (congrArg Prod.fst q) hx
     ·exact .inl q
    ·refine .inr ⟨d,?_⟩;rw[xR];have:(x==n)=false:=by simpa using hx
     rw[this];exact h
  ·have hb:(k==NameKind.free)=false:=by simpa using hk
   have e2:dH ((n,k)::r) cells acc=dH r cells acc:=by
    show(if(k==NameKind.free)=true then _ else _)=_;rw[hb];rfl
   rw[e2];refine ih ?_;rcases h with h|h
   ·rcases cW.mp h with q|q
    ·exact absurd (congrArg Prod.snd q).symm hk
    ·exact .inl q
   ·exact .inr h
theorem qN{env:Env}:∀(names:List (Str×NameKind))(x:Str),
  (names.map fun(n,k)=>if(k==NameKind.free&&env.scope.kind==.function&&env.kindOf n==some .cell) then(n,NameKind.cell) else(n,k)).lookup x =
   (names.lookup x).map fun k=>if(k==NameKind.free&&env.scope.kind==.function&&env.kindOf x==some .cell) then NameKind.cell else k
 |[],_=>rfl
 |(n,k)::r,x=>by
  have ih:=@qN env r x;show List.lookup x ((if(k==NameKind.free&&env.scope.kind==.function&&env.kindOf n==some .cell)=true then(n,NameKind.cell) else(n,k))::_)=_;by_cases hx:x=n
  ·subst hx;by_cases hc:(k==NameKind.free&&env.scope.kind==.function&&env.kindOf x==some .cell)=true
   ·rw[aJ hc];simp only[xR,Mi,tX];rw[aJ hc]
   ·rw[aG hc];simp only[xR,Mi,tX];rw[aG hc]
  ·have hb:(x==n)=false:=by simpa using hx
   by_cases hc:(k==NameKind.free&&env.scope.kind==.function&&env.kindOf n==some .cell)=true
   ·rw[aJ hc];simp only[xR,hb];exact ih
   ·rw[aG hc];simp only[xR,hb];exact ih
def vO(scope outer:Scope)(N:List Str)(x:Str):Bool:=
 (scope.kind==.function)&&scope.names.all (fun y=>!(y.2==.cell))&&scope.names.all (fun y=>!(y.2==.local)||(y.1==x||y.1 == ".0")) &&
  scope.names.all (fun y=>!(y.2==.local)||scope.names.lookup y.1==some .local)&&(scope.names.lookup x==some .local) &&
  scope.names.all (fun y=>!(y.2==.free)||(outer.names.lookup y.1==some .cell||outer.names.lookup y.1==some .free)) &&
  !(N.contains ".0")&&(scope.names.lookup (x ++ "'")==none)&&decide (x::N.map fun y=>if y=x then x ++ "'" else y).Nodup
def Cq(N:List Str)(x:Str):List Str:=x::N.map fun y=>if y=x then x ++ "'" else y
structure Dl(scope outer:Scope)(N:List Str)(x:Str):Prop where
 kind:scope.kind=.function
 RZ:∀ y∈scope.names,y.2≠.cell
 loc:∀ y∈scope.names,y.2=.local->y.1=x\/y.1 = ".0"
 names:∀ y∈scope.names,y.2=.local->scope.names.lookup y.1=some .local
 own:scope.names.lookup x=some .local
 free:∀ y∈scope.names,y.2=.free->outer.names.lookup y.1=some .cell\/outer.names.lookup y.1=some .free
 dot:(".0" : Str)∉N
 prime:scope.names.lookup (x ++ "'")=none
 nd:(Cq N x).Nodup
theorem yS{scope outer:Scope}{N:List Str}{x:Str}(h:vO scope outer N x=true):Dl scope outer N x:=by
 unfold vO at h;simp only[kj,jt,Bool.or_eq_true,jr,kJ,n8,decide_eq_true_eq] at h;obtain⟨⟨⟨⟨⟨⟨⟨⟨h1,h2⟩,h3⟩,h4⟩,h5⟩,h6⟩,h7⟩,h8⟩,h9⟩:=h;refine⟨h1,h2,fun y hy e=>?_,fun y hy e=>?_,h5,fun y hy e=>?_,?_,h8,h9⟩
 ·rcases h3 y hy with z|z
  ·exact absurd e z
  ·exact z
 ·rcases h4 y hy with z|z
  ·exact absurd e z
  ·exact z
 ·rcases h6 y hy with z|z
  ·exact absurd e z
  ·exact z
 ·intro z;have:N.contains ".0" = true:=List.contains_iff_mem.mpr z;rw[this] at h7;cases h7
theorem DW{prog:Program}{w:World}{A:Around}{R:Result->Shared->Prop}{s:Shared}{elt target iter:Expr}{ifs:List Expr}{scope:Scope}{pos:Pos}{it acc:Value}{env:Env}(I:Nat->Shared->Prop)
  (turn:∀ n s,I n s->wpAny (model prog w) A (pyNext it) (fun r s₁=>match r with
   |none=>R (.ok .next) s₁
   |some v=>wpAny (model prog w) A (letOwnedTupleGo target it v) (fun _ s₁=>wpAny (model prog w) A (assign target env v) (fun _ s₂=>
     wpAny (model prog w) A (forIn ifs true fun c r=>if r=true then do let ok <- isTrue c env (eval c env);pure (ForInStep.yield ok) else pure (ForInStep.yield r)) (fun ok s₃=>
      if ok=true then wpAny (model prog w) A (eval elt env) (fun x s₄=>
       wpAny (model prog w) A (call (.builtin "list.append") [acc,x]) (fun _ s₅=>∃ m,m<n/\I m s₅) (fun _ _=>False) s₄) (fun _ _=>False) s₃
      else ∃ m,m<n/\I m s₃) (fun _ _=>False) s₂) (fun _ _=>False) s₁) (fun _ _=>False) s₁) (fun _ _=>False) s)
  (n:Nat) (h:I n s) :
  codeAny (model prog w) A (.compLoop (.ListComp elt [⟨target,iter,ifs,0⟩] scope pos) 0 it acc env) R s:=by
 refine codeAny_loop rfl I (fun n s hI=>?_) n h;show wpAny _ A ((compTurn (.ListComp elt [⟨target,iter,ifs,0⟩] scope pos) 0 it acc env).onRaise (fun x=>do noteFrame x env;theTreesLotGoes x)) _ _ s;refine wpAny_noted ?_;rw[compTurn_list];refine bN (Gn (bN (jw (turn n s hI) (fun r s₁ h₁=>?_) fun _ _ h'=>h'.elim)));cases r with
 |none=>exact cQ h₁
 |some v=>
  refine bN (jw h₁ (fun _ s₁ h₁=>?_) fun _ _ h'=>h'.elim);refine bN (jw h₁ (fun _ s₂ h₂=>bN (jw h₂ (fun ok s₃ h₃=>?_) fun _ _ h'=>h'.elim)) fun _ _ h'=>h'.elim);cases ok with
  |false=>exact cQ ⟨rfl,h₃⟩
  |true=>
   exact bN (bN (jw h₃ (fun x s₄ h₄=>bN (jw h₄ (fun _ s₅ h₅=>cQ (cQ ⟨rfl,h₅⟩)) fun _ _ h'=>h'.elim)) fun _ _ h'=>h'.elim))
section
variable{X:Cx}
def Gy(X:Cx)(ifs:List Expr)(t:TT):Prop:=
 ∀(pins:List (Addr×Obj))(s:Shared)(zzs:St)(H:Hp)(Q:Bool->Hp->Prop),Inv X pins zzs H s->t zzs H Q ->
  wpAny (model X.prog X.w) X.A (forIn ifs true fun c r=>if r=true then do let ok <- isTrue c X.env (eval c X.env);pure (ForInStep.yield ok) else pure (ForInStep.yield r)) (TP X pins zzs Q) X.xe s
def KD:TT:=fun _ H Q=>Q true H
theorem Xa:Gy X [] KD:=fun _ _ _ H _ I h=>wpAny_tests_nil ⟨H,I,h⟩
theorem Xb{c:Expr}{t:TT}(h:PT X c t):Gy X [c] t:=fun pins s zzs H Q I hw=>wpAny_tests_one (h pins s zzs H Q I hw)
def jf(X:Cx)(x:Str)(scope:Scope)(s:Shared)(H:Hp)(ex:List Addr):Cx:=
 { X with
  N:=Cq X.N x
  s₀:=s
  H₀:=H
  env:=compEnvC scope (dH scope.names X.env.cells []) s.heap.objs.size X.env
  outer:=X.stack
  stack:=X.stack
  ex:=ex
  fn:=fun _=>false
  pn:=[]
  xe:=fun _ _=>False }
def pO(J:It)(tc:TT)(te:TE)(zzs:St)(fin:List V->Hp->Prop)(W:Nat->Nat->List V->Hp->Prop):Prop:=
 ∀ i m ys H,W i m ys H->ys.length<=sizeLine/\((J.stop i H/\fin ys H) \/
  (J.go i H/\∀ v H',J.yld i H v H'->tc (some v::zzs) H' fun b H2=>if b=true then te (some v::zzs) H2 fun y H3=>∃ m',m'<m/\W (i+1) m' (ys++[y]) H3 else ∃ m',m'<m/\W (i+1) m' ys H2))
theorem lookup_mem{α:Type}:∀ {l:List (Str×α)} {x:Str} {k:α},l.lookup x=some k->(x,k)∈l
 |[],_,_,h=>by simp at h
 |(n,k')::r,x,k,h=>by
  rw[xR] at h;split at h
  ·rename_i hx;have:x=n:=by simpa using hx
   subst this;cases h;exact cZ
  ·exact f9 _ (lookup_mem h)
theorem Oj{N:List Str}{x y:Str}{i:Nat}(h:(Cq N x)[i+1]?=some y):(N[i]?=some y/\y≠x)\/y=x ++ "'":=by
 unfold Cq at h;rw[List.getElem?_cons_succ,dG] at h;cases e:N[i]? with
 |none=>rw[e] at h;cases h
 |some z=>
  rw[e] at h;have h':(if z=x then x ++ "'" else z)=y:=by simpa using h
  by_cases hz:z=x
  ·rw[aJ hz] at h';exact .inr h'.symm
  ·rw[aG hz] at h';subst h';exact .inl ⟨rfl,hz⟩
theorem Jv{x:Str}{scope:Scope}{pins:List (Addr×Obj)}{zzs:St}{H:Hp}{s:Shared}{h₁:Heap}{ex:List Addr}(ok:Dl scope X.env.scope X.N x)(hc:X.calm=true)(I:Inv X pins zzs H s)
  (hns:h₁.Ns s.heap.objs.size fun _=>none) (hk:∀ b o,s.heap.get? b=some o->h₁.get? b=some o)
  (hex:∀ b∈ex,b<s.heap.objs.size/\b≠X.env.locals/\b∉X.fs/\H b=none/\(b∈X.ex\/X.s₀.heap.objs.size<=b)/\(∀ y c,X.env.cells.lookup y=some c->c≠b)) {tk:Nat} :
  Inv (jf X x scope s H ex) [] (none::zzs) H { s with heap:=h₁,toks:=tk }:=by
 have hfree:∀ y∈scope.names,y.2=.free->∃ c,X.env.cells.lookup y.1=some c:=fun y hy e=>I.ok.has y.1 (ok.free y hy e)
 have cl:∀ y c,(dH scope.names X.env.cells []).lookup y=some c->X.env.cells.lookup y=some c:=fun y c e=>oR scope.names hfree (fun _ _ z=>by simp at z) e
 have clt:∀ y c,X.env.cells.lookup y=some c->c<s.heap.objs.size:=fun y c e=>by
  obtain⟨v,q⟩:=I.cell y c e;exact q.lt
 have Nj:∀ y,(compEnvC scope (dH scope.names X.env.cells []) s.heap.objs.size X.env).kindOf y=(scope.names.lookup y).map fun k=>if(k==NameKind.free&&X.env.scope.kind==.function&&X.env.kindOf y==some .cell) then NameKind.cell else k:=fun y=>qN scope.names y
 have freeOf:∀ y,(∃ k,(compEnvC scope (dH scope.names X.env.cells []) s.heap.objs.size X.env).kindOf y=some k/\(k=.cell\/k=.free))->(y,NameKind.free)∈scope.names:=fun y ⟨k,e,hk⟩=>by
  rw[Nj] at e;cases q:scope.names.lookup y with
  |none=>rw[q] at e;cases e
  |some k'=>
   have mem:=lookup_mem q;by_cases hf:k'=.free
   ·subst hf;exact mem
   ·rw[q] at e;have hb:(k'==NameKind.free)=false:=by simpa using hf
    simp only[tX,hb,xV,wL,rE,Bb] at e;subst e;rcases hk with z|z
    ·exact absurd z (ok.RZ _ mem)
    ·exact absurd z hf
 have XH:∀ b∈frs X.stack,b=X.env.locals\/b∈X.fs:=fun b hb=>cW.mp (I.tR b hb)
 refine⟨⟨I.ok.mod,?_,I.ok.glob,I.ok.blt,bB _,fun y z c e1 e2=>?_,fun y hy=>?_,fun y c z _=>?_,fun _=>I.ok.hd hc,I.ok.frames,.inl rfl,fun b hb=>⟨?_,fun y c e=>?_⟩,fun b o e=>?_,?_,fun b o e hb=>?_,fun b hb hf=>?_,?_,fun b hb=>?_⟩,
  rfl,I.bare,Un.kept hk,⟨_,hns,fun i y v e1 e2 e3=>?_⟩,fun y c e=>?_,I.hok.fresh (bB _),fun y c e=>I.lO y c (cl y c e),fun p hp=>?_,I.hok.kept hk,?_⟩
 ·exact ok.kind
 ·exact I.ok.inj y z c (cl y c e1) (cl z c e2)
 ·have hm:(y,NameKind.free)∈scope.names:=by
   rcases hy with z|z
   ·exact freeOf y ⟨_,z,.inl rfl⟩
   ·exact freeOf y ⟨_,z,.inr rfl⟩
  exact Cp scope.names (.inl hm)
 ·exact absurd (show false=true from z) (by decide)
 ·exact fZ (hex b hb).1
 ·exact(hex b hb).2.2.2.2.2 y c (cl y c e)
 ·obtain⟨e1,e2⟩:=I.bs b o e;exact⟨e1,e2⟩
 ·exact dN I.ok.bsz I.sz
 ·rcases(hex b hb).2.2.2.2.1 with z|z
  ·exact I.ok.JT b o e z
  ·exact absurd (jq (bR (I.ok.bs b o e).1) z) (rK _)
 ·rcases XH b hf with z|z
  ·exact(hex b hb).2.1 z
  ·exact(hex b hb).2.2.1 z
 ·exact I.stack
 ·exact I.uZ b hb
 ·cases i with
  |zero=>
   have:(none::zzs)[0]?=some (some v):=e2;simp at this
  |succ i=>
   have e2':zzs[i]?=some (some v):=by simpa using e2
   have vis:Vis (relabel scope X.env) y:=e3;rcases Oj e1 with⟨eN,hyx⟩|hp
   ·
    have kf:(y,NameKind.free)∈scope.names:=by
     have k3:∃ k,(compEnvC scope (dH scope.names X.env.cells []) s.heap.objs.size X.env).kindOf y=some k/\(k=.local\/k=.cell\/k=.free):=by
      rcases vis with z|z|z
      ·exact⟨_,z,.inl rfl⟩
      ·exact⟨_,z,.inr (.inl rfl)⟩
      ·exact⟨_,z,.inr (.inr rfl)⟩
     obtain⟨k,e,hk3⟩:=k3;rcases hk3 with hl|hk3
     ·subst hl;have e':=e;rw[Nj] at e';cases q:scope.names.lookup y with
      |none=>rw[q] at e';cases e'
      |some k'=>
       have mem:=lookup_mem q;rw[q] at e';have hk':k'=.local:=by
        by_cases Rn:(k'==NameKind.free&&X.env.scope.kind==.function&&X.env.kindOf y==some .cell)=true
        ·simp only[tX,Rn,uf,Bb] at e';cases e'
        ·simp only[tX,Rn,wL,rE,Bb] at e';exact e'
       subst hk';rcases ok.loc _ mem rfl with z|z
       ·exact absurd z hyx
       ·have:y = ".0":=z;subst this;exact absurd (fQ eN) ok.dot
     ·exact freeOf y ⟨k,e,hk3⟩
    have hout:=ok.free _ kf rfl;have a2K:Vis X.env.scope y:=by
     rcases hout with z|z
     ·exact .inr (.inl z)
     ·exact .inr (.inr z)
    obtain⟨m,hn,hl⟩:=I.loc;obtain⟨u,ru,lk⟩:=hl i y v eN e2' a2K;refine⟨u,ru,?_⟩;rcases lk with⟨lk,_⟩|⟨_,c,ec,hcell⟩
    ·have lk':X.env.scope.names.lookup y=some .local:=lk;rcases hout with z|z<;>(have z':X.env.scope.names.lookup y=_:=z;rw[lk'] at z';cases z')
    ·obtain⟨c',ec'⟩:=Cp (cells:=X.env.cells) (acc:=[]) scope.names (.inl kf);have:c'=c:=by
      have:=cl y c' ec';rw[ec] at this;cases this;rfl
     subst this;have kk:(compEnvC scope (dH scope.names X.env.cells []) s.heap.objs.size X.env).kindOf y=some .cell\/(compEnvC scope (dH scope.names X.env.cells []) s.heap.objs.size X.env).kindOf y=some .free:=by
      rcases vis with z|z|z
      ·
       have z':(compEnvC scope (dH scope.names X.env.cells []) s.heap.objs.size X.env).kindOf y=some .local:=z;rw[Nj] at z';cases q:scope.names.lookup y with
       |none=>rw[q] at z';cases z'
       |some k'=>
        have mem:=lookup_mem q;rw[q] at z';have hk':k'=.local:=by
         by_cases Rn:(k'==NameKind.free&&X.env.scope.kind==.function&&X.env.kindOf y==some .cell)=true
         ·simp only[tX,Rn,uf,Bb] at z';cases z'
         ·simp only[tX,Rn,wL,rE,Bb] at z';exact z'
        subst hk';rcases ok.loc _ mem rfl with zz|zz
        ·exact absurd zz hyx
        ·have:y = ".0":=zz;subst this;exact absurd (fQ eN) ok.dot
      ·exact .inl z
      ·exact .inr z
     refine .inr ⟨kk,c',ec',?_⟩;obtain⟨oc,hoc,hd⟩:=hcell;exact⟨oc,hk _ _ hoc,hd⟩
   ·subst hp;exfalso;have kn:(compEnvC scope (dH scope.names X.env.cells []) s.heap.objs.size X.env).kindOf (x ++ "'")=none:=by rw[Nj,ok.prime];rfl
    rcases vis with z|z|z
    ·have z':(compEnvC scope (dH scope.names X.env.cells []) s.heap.objs.size X.env).kindOf (x ++ "'")=some .local:=z;rw[kn] at z';cases z'
    ·have z':(compEnvC scope (dH scope.names X.env.cells []) s.heap.objs.size X.env).kindOf (x ++ "'")=some .cell:=z;rw[kn] at z';cases z'
    ·have z':(compEnvC scope (dH scope.names X.env.cells []) s.heap.objs.size X.env).kindOf (x ++ "'")=some .free:=z;rw[kn] at z';cases z'
 ·obtain⟨v,oc,hoc,hd⟩:=I.cell y c (cl y c e);exact⟨v,oc,hk _ _ hoc,hd⟩
 ·exact absurd (show p∈([]:List (Addr×Obj)) from hp) (by simp)
 ·show(none::zzs).length=(Cq X.N x).length;unfold Cq;rw[fX,fX,aZ,I.len]
end
section
variable{X:Cx}
theorem Heap.SameBut.keeps{a:Addr}{h h':Heap}(k:Heap.SameBut a h h'){b:Addr}{o:Obj}(hb:b≠a)(e:h.get? b=some o):h'.get? b=some o:=(k.2 b hb).trans e
theorem Ol{x:Str}{px pos:Pos}{scope:Scope}{elt iter:Expr}{ifs:List Expr}{tc:TT}{te:TE}{pins:List (Addr×Obj)}{zzs:St}{H₂:Hp}{s₃:Shared}{h₁:Heap}{tk:Nat}{it D:Addr}{fp:List Addr}{tn:Nat->Heap->Prop}{J:It}{fin:List V->Hp->Prop}
  {W:Nat->Nat->List V->Hp->Prop} {RR:Value->Addr->Result->Shared->Prop}
  (ok:Dl scope X.env.scope X.N x) (hc:X.calm=true) (hif:∀ s H ex,Gy (jf X x scope s H ex) ifs tc) (he:∀ s H ex,PE (jf X x scope s H ex) elt te)
  (I3:Inv X pins zzs H₂ s₃) (T:Turn X.prog X.w X.K (.Name x px) J fp it tn) (st:tn 0 s₃.heap) (f2:∀ b∈fp,ug X pins H₂ b) (w0:∃ m,W 0 m [] H₂) (hW:pO J tc te zzs fin W)
  (yp:H₂ D=none) (fD:ug X pins H₂ D) (h0D:X.s₀.heap.objs.size<=D) (Nh:s₃.heap.get? D=some { cls:=.type "list",dict:=none,data:=.seq ([]:List Value).toArray }) (Dfp:D∉fp)
  (hns₁:h₁.Ns s₃.heap.objs.size fun _=>none) (w5:∀ b o,s₃.heap.get? b=some o->h₁.get? b=some o)
  (hRR:∀ D C ys H' s',H' D=none->fin ys H'->Inv X pins zzs (upd H' D (.lst ys)) s'->ug X pins (upd H' D (.lst ys)) C->(∃ m,s'.heap.Ns C m)->RR (.ref D) C (.ok .next) s') :
  codeAny (model X.prog X.w) X.A (.compLoop (.ListComp elt [⟨.Name x px,iter,ifs,0⟩] scope pos) 0 (.ref it) (.ref D) (compEnvC scope (dH scope.names X.env.cells []) s₃.heap.objs.size X.env)) (RR (.ref D) s₃.heap.objs.size) { s₃ with heap:=h₁,toks:=tk }:=by
 have a0V:∀ b∈fp,∃ o,s₃.heap.get? b=some o/\∀ v,o.data≠.cell v:=T.obj 0 s₃.heap st;have hex:∀ b∈D::fp,b<s₃.heap.objs.size/\b≠X.env.locals/\b∉X.fs/\H₂ b=none/\(b∈X.ex\/X.s₀.heap.objs.size<=b)/\(∀ y c,X.env.cells.lookup y=some c->c≠b):=fun b hb=>by
  rcases cW.mp hb with e|hb
  ·subst e;obtain⟨g0,g1,g2,g3,g4,g5⟩:=fD;exact⟨bR Nh,g1,g2,g0,g3,g4⟩
  ·obtain⟨g0,g1,g2,g3,g4,g5⟩:=f2 b hb;obtain⟨o,eo,_⟩:=a0V b hb;exact⟨bR eo,g1,g2,g0,g3,g4⟩
 have I4:=Jv (ex:=D::fp) (tk:=tk) ok hc I3 hns₁ w5 hex;generalize hY:jf X x scope s₃ H₂ (D::fp)=Y at I4;have GC:Y.prog=X.prog:=by rw[<- hY];rfl
 have Yw:Y.w=X.w:=by rw[<- hY];rfl
 have YK:Y.K=X.K:=by rw[<- hY];rfl
 have YA:Y.A=X.A:=by rw[<- hY];rfl
 have Yc:Y.calm=true:=by rw[<- hY];exact hc
 have YN:Y.N.Nodup:=by rw[<- hY];exact ok.nd
 have Y0:Y.N[0]?=some x:=by rw[<- hY];rfl
 have Jk:Y.env=compEnvC scope (dH scope.names X.env.cells []) s₃.heap.objs.size X.env:=by rw[<- hY];rfl
 have Yx:Y.env.scope.names.lookup x=some .local:=by rw[Jk];exact lookup_relabel_local ok.own
 have Yfs:Y.fs=frs X.stack:=by rw[<- hY];rfl
 have Yex:Y.ex=D::fp:=by rw[<- hY];rfl
 have Ys0:Y.s₀=s₃:=by rw[<- hY];rfl
 have YH0:Y.H₀=H₂:=by rw[<- hY];rfl
 have Ypn:Y.pn=[]:=by rw[<- hY];rfl
 have Yxe:Y.xe=fun _ _=>False:=by rw[<- hY];rfl
 have a2h:Gy Y ifs tc:=by rw[<- hY];exact hif _ _ _
 have he':PE Y elt te:=by rw[<- hY];exact he _ _ _
 have Dne:D≠Y.env.locals:=by rw[Jk];exact fZ (bR Nh)
 have Dfs:D∉Y.fs:=by
  rw[Yfs];intro hb;rcases cW.mp (I3.tR D hb) with z|z
  ·exact fD.2.1 z
  ·exact fD.2.2.1 z
 have a0A:∀ y c,Y.env.cells.lookup y=some c->c≠D:=fun y c e=>by
  have hfree:∀ y∈scope.names,y.2=.free->∃ c,X.env.cells.lookup y.1=some c:=fun y hy e=>I3.ok.has y.1 (ok.free y hy e)
  rw[Jk] at e;exact fD.2.2.2.2.1 y c (oR scope.names hfree (fun _ _ z=>by simp at z) e)
 have fpY:∀ {H':Hp} {pl:List (Addr×Obj)},(∀ b∈fp,H' b=none)->(∀ p∈pl,p.1∉fp)->∀ b∈fp,ug Y pl H' b:=fun {H' pl} hn hp b hb=>by
  obtain⟨g0,g1,g2,g3,g4,g5⟩:=f2 b hb;have hlt:=(hex b (f9 _ hb)).1;refine⟨hn b hb,?_,?_,.inl (by rw[Yex];exact f9 _ hb),fun y c e=>?_,fun p q z=>?_⟩
  ·rw[Jk];exact fZ hlt
  ·rw[Yfs];intro z;rcases cW.mp (I3.tR b z) with z|z
   ·exact g1 z
   ·exact g2 z
  ·have hfree:∀ y∈scope.names,y.2=.free->∃ c,X.env.cells.lookup y.1=some c:=fun y hy e=>I3.ok.has y.1 (ok.free y hy e)
   rw[Jk] at e;exact g4 y c (oR scope.names hfree (fun _ _ z=>by simp at z) e)
  ·rw[Ypn,List.nil_append] at q;exact hp p q (by rw[z];exact hb)
 have DY:∀ {H':Hp},H' D=none->ug Y [] H' D:=fun {H'} hn=>⟨hn,Dne,Dfs,.inl (by rw[Yex];exact cZ),a0A,fun p q=>absurd (show p∈([]:List (Addr×Obj)) by rw[Ypn] at q;exact q) (by simp)⟩
 have a1k:∀ {bH:St} {H':Hp} {s':Shared} {its:Array Value} {n:Nat},Inv Y [] bH H' s'->H' D=none->s'.heap.get? D=some { cls:=.type "list",data:=.seq its n }->Inv Y [(D,{ cls:=.type "list",data:=.seq its n })] bH H' s':=fun {bH H' s' its n} J' hn e=>by
  refine J'.uN fun p hp=>?_
  have:p=(D,{ cls:=.type "list",data:=.seq its n }):=by simpa using hp
  subst this;exact⟨e,hn,Dne,Dfs,fun v z=>by
   have z':Data.seq its n=Data.cell v:=z;cases z'⟩
 rw[<- Jk];obtain⟨m0,w0⟩:=w0;refine DW (fun m s'=>∃ i ys Ms H' its n,Inv Y [(D,{ cls:=.type "list",data:=.seq its n })] (Ms::zzs) H' s'/\tn i s'.heap/\(∀ b∈fp,H' b=none)/\Vals ys its.toList/\W i m ys H') ?_ m0
  ⟨0,[],none,H₂,_,_,a1k I4 yp (w5 D _ Nh),T.keep 0 _ _ st (fun b _ o e=>w5 b o e),fun b hb=>(f2 b hb).1,.nil,w0⟩
 rintro m s' ⟨i,ys,Ms,H',its,n,J',st',fr',rv,w'⟩;obtain⟨hle,hW'⟩:=hW i m ys H' w';have hDn:H' D=none:=(J'.pin (D,{ cls:=.type "list",data:=.seq its n }) (by simp)).2.1;have fpn:∀ p∈[((D,{ cls:=.type "list",data:=.seq its n }):Addr×Obj)],p.1∉fp:=fun p hp=>by
  have:p=(D,{ cls:=.type "list",data:=.seq its n }):=by simpa using hp
  subst this;exact Dfp
 rcases hW' with⟨stop,hf⟩|⟨go,step⟩
 ·
  have h9:=T.done Y GC Yw YK Yc i _ s' (Ms::zzs) H' (fun _ _=>False) J' (fpY fr' fpn) st' stop;rw[YA] at h9;refine thn h9 fun r s5 zzy=>?_
  obtain⟨hr,J5⟩:=zzy;subst hr;show RR (.ref D) s₃.heap.objs.size (.ok .next) s5;have eD:=(J5.pin (D,{ cls:=.type "list",data:=.seq its n }) (by simp)).1;have un:Un (frs X.stack) (D::fp) H₂ H' s₃.heap s5.heap:=by
   have:=J5.base;rw[Yfs,Yex,YH0,Ys0] at this;exact this
  have a2j:HOk X.prog X.w H' s5.heap:=by
   have:=J5.hok;rw[GC,Yw] at this;exact this
  have os5:s5.os=s₃.os:=by have:=J5.os;rw[Ys0] at this;exact this
  have I5:Inv X pins zzs H' s5:=I3.call' os5 un a2j J5.bare fun b hb=>by
   rcases cW.mp hb with e|hb
   ·subst e;exact⟨fD.2.2.2.1,fD.2.1,fD.2.2.2.2.1,fD.2.2.2.2.2⟩
   ·obtain⟨g0,g1,g2,g3,g4,g5⟩:=f2 b hb;exact⟨g3,g1,g4,g5⟩
  have I6:Inv X pins zzs (upd H' D (.lst ys)) s5:=I5.track hDn h0D fD.2.1 fD.2.2.2.2.1 fD.2.2.2.2.2 ⟨hle,its.toList,n,rv,by simpa using eD⟩;obtain⟨mC,hnC,_⟩:=J5.loc;have eL:Y.env.locals=s₃.heap.objs.size:=by rw[Jk];rfl
  have hCn:H' s₃.heap.objs.size=none:=by have:=J5.free;rw[eL] at this;exact this
  refine hRR D s₃.heap.objs.size ys H' s5 hDn hf I6 ?_ ⟨mC,by rw[<- eL];exact hnC⟩;exact I3.Rj (bB _) (by rw[aN (Gs (bR Nh))];exact hCn)
 ·
  have h9:=T.item Y GC Yw YK Yc i _ s' (Ms::zzs) H' (fun _ _=>False) J' (fpY fr' fpn) st' go;rw[YA] at h9;refine thn h9 fun r s5 zzy=>?_
  obtain⟨u,hr,h5⟩:=zzy;subst hr;refine thn h5 fun _ s6 zzy=>?_
  obtain⟨v,H6,J6,rv6,y6,st6,fr6⟩:=zzy;have a2V:H6 D=none:=(J6.pin (D,{ cls:=.type "list",data:=.seq its n }) (by simp)).2.1;have J6':=J6.pinned (fp:=fp) (fpY fr6 fpn) (T.obj _ _ st6);have hst:=step v H6 y6;refine M8 ?_;have a2k:∀ Q',(∀ s7,Inv Y ([(D,{ cls:=.type "list",data:=.seq its n })]++tH fp s6.heap) (some v::zzs) H6 s7->Q' () s7)->wpAny (model X.prog X.w) X.A (storeName Y.env x u) Q' (fun _ _=>False) s6:=fun Q' hQ'=>
   qZ (i:=0) (zzs:=Ms::zzs) J6' YN Y0 (.inl Yx) rv6 (fun s7 J7=>hQ' s7 J7) (.inr Yx)
  refine a2k _ fun s7 J7=>?_
  have h10:=a2h _ s7 (some v::zzs) H6 _ J7 hst;rw[GC,Yw,YA,Yxe] at h10;refine thn h10 fun b s8 zzy=>?_
  obtain⟨H8,J8,q8⟩:=zzy;have again:∀ {s9:Shared} {H9:Hp} {ys':List V} {its':Array Value} {n':Nat},Inv Y [] (some v::zzs) H9 s9->(∀ b∈fp,H9 b=none/\∀ o,s6.heap.get? b=some o->s9.heap.get? b=some o)->H9 D=none ->
    s9.heap.get? D=some { cls:=.type "list",data:=.seq its' n' }->Vals ys' its'.toList->(∃ m',m'<m/\W (i+1) m' ys' H9) ->
    ∃ m',m'<m/\∃ i ys Ms H' its n,Inv Y [(D,{ cls:=.type "list",data:=.seq its n })] (Ms::zzs) H' s9/\tn i s9.heap/\(∀ b∈fp,H' b=none)/\Vals ys its.toList/\W i m' ys H':=fun {s9 H9 ys' its' n'} J9 a0U hD9 eD9 rv9 hw9=>by
   obtain⟨m',hm,w9⟩:=hw9;exact⟨m',hm,i+1,ys',some v,H9,its',n',a1k J9 hD9 eD9,T.keep _ _ _ st6 (fun b hb o e=>(a0U b hb).2 o e),fun b hb=>(a0U b hb).1,rv9,w9⟩
  have a1l:∀ {Vu:St} {H9:Hp} {s9:Shared},Inv Y ([(D,{ cls:=.type "list",data:=.seq its n })]++tH fp s6.heap) Vu H9 s9->∀ b∈fp,H9 b=none/\∀ o,s6.heap.get? b=some o->s9.heap.get? b=some o:=fun {Vu H9 s9} J9 b hb=>by
   obtain⟨o,eo,_⟩:=T.obj _ _ st6 b hb;have p:=J9.pin (b,o) (fV _ (fV _ (tG hb eo)));exact⟨p.2.1,fun o' e'=>by rw[eo] at e';cases e';exact p.1⟩
  have a1m:∀ {Vu:St} {H9:Hp} {s9:Shared},Inv Y ([(D,{ cls:=.type "list",data:=.seq its n })]++tH fp s6.heap) Vu H9 s9->s9.heap.get? D=some { cls:=.type "list",data:=.seq its n }/\H9 D=none:=fun {Vu H9 s9} J9=>by
   have p:=J9.pin (D,{ cls:=.type "list",data:=.seq its n }) (fV _ (fW _ (by simp)));exact⟨p.1,p.2.1⟩
  cases b with
  |false=>
   show ∃ m',m'<m/\_;have q8':∃ m',m'<m/\W (i+1) m' ys H8:=q8;obtain⟨eD8,hD8⟩:=a1m J8;exact again (J8.uN fun p hp=>absurd hp (by simp)) (a1l J8) hD8 eD8 rv q8'
  |true=>
   show wpAny _ _ _ _ _ _;have q8':te (some v::zzs) H8 fun y H3=>∃ m',m'<m/\W (i+1) m' (ys++[y]) H3:=q8
   have h11:=he' _ s8 (some v::zzs) H8 _ J8 q8';rw[GC,Yw,YA,Yxe] at h11;refine thn h11 fun yv s9 zzy=>?_
   obtain⟨y,H9,J9,ry,q9⟩:=zzy;obtain⟨eD9,hD9⟩:=a1m J9;have hz:its.size<=sizeLine:=by have:=rv.length;simp only[mD] at this;lia
   refine wpAny_list_append_plain (hsz:=hz) ⟨n,eD9⟩ fun h' hl' hsb'=>?_
   obtain⟨n',eD'⟩:=hl';have J9':Inv Y [] (some v::zzs) H9 s9:=J9.uN fun p hp=>absurd hp (by simp)
   obtain⟨g0,g1,g2,g3,g4,g5⟩:=DY hD9;have J10:Inv Y [] (some v::zzs) H9 { s9 with heap:=h' }:=J9'.turned (t':=s9.toks) (fun b o hb e=>Heap.SameBut.keeps hsb' hb e) g0 g1 g3 g4 g5;refine again J10 (fun b hb=>?_) hD9 eD' (by simpa using rv.append (Vals.a0D ry)) q9;have p9:=a1l J9 b hb;exact⟨p9.1,fun o e=>Heap.SameBut.keeps hsb' (fun z=>Dfp (z▸hb)) (p9.2 o e)⟩
theorem Cr{x:Str}{px pos:Pos}{scope:Scope}{elt iter:Expr}{ifs:List Expr}{tc:TT}{te:TE}{pins:List (Addr×Obj)}{zzs:St}{H₂:Hp}{s₂:Shared}{it:Addr}{fp:List Addr}{tn:Nat->Heap->Prop}{J:It}{fin:List V->Hp->Prop}
  {W:Nat->Nat->List V->Hp->Prop} {RR:Value->Addr->Result->Shared->Prop} {E:Value->Shared->Prop}
  (ok:Dl scope X.env.scope X.N x) (hc:X.calm=true) (hif:∀ s H ex,Gy (jf X x scope s H ex) ifs tc) (he:∀ s H ex,PE (jf X x scope s H ex) elt te)
  (I2:Inv X pins zzs H₂ s₂) (T:Turn X.prog X.w X.K (.Name x px) J fp it tn) (st:tn 0 s₂.heap) (f2:∀ b∈fp,ug X pins H₂ b) (w0:∃ m,W 0 m [] H₂) (hW:pO J tc te zzs fin W)
  (hRR:∀ D C ys H' s',H' D=none->fin ys H'->Inv X pins zzs (upd H' D (.lst ys)) s'->ug X pins (upd H' D (.lst ys)) C->(∃ m,s'.heap.Ns C m)->RR (.ref D) C (.ok .next) s') :
  wpAny (model X.prog X.w) X.A (newList []) (fun acc s₃=>wpAny (model X.prog X.w) X.A (newFunctionEnv scope X.env.globals (dH scope.names X.env.cells []) [] X.env.qual none .none (some X.env)) (fun cenv s₄=>
   codeAny (model X.prog X.w) X.A (.compStart (.ListComp elt [⟨.Name x px,iter,ifs,0⟩] scope pos) 0 (.ref it) acc { cenv with scope:=relabel scope X.env }) (RR acc cenv.locals) s₄) E s₃) E s₂:=by
 refine FT (wpAny_newFunctionEnv ok.RZ (by intro y hy;simp at hy) (fun h₁ hns₁ hsb₁=>?_) ok.kind);have I3:Inv X pins zzs H₂ { s₂ with heap:=s₂.heap.push { cls:=.type "list",dict:=none,data:=.seq ([]:List Value).toArray } }:=I2.kept (t':=s₂.toks) fun b o e=>dW _ e
 have w5:∀ b o,(s₂.heap.push { cls:=.type "list",dict:=none,data:=.seq ([]:List Value).toArray }).get? b=some o->h₁.get? b=some o:=fun b o e=>Heap.SameBut.keeps hsb₁ (fZ (bR e)) (dW _ e)
 have Rw:∀ b o,s₂.heap.get? b=some o->(s₂.heap.push { cls:=.type "list",dict:=none,data:=.seq ([]:List Value).toArray }).get? b=some o:=fun b o e=>dW _ e
 have yp:H₂ s₂.heap.objs.size=none:=I2.hok.fresh (bB _);have loop:=Ol (RR:=RR) (s₃:={ s₂ with heap:=s₂.heap.push { cls:=.type "list",dict:=none,data:=.seq ([]:List Value).toArray } }) (h₁:=h₁) (tk:=s₂.toks+([]:List (Str×Value)).length) (iter:=iter) (pos:=pos)
  ok hc hif he I3 T (T.keep 0 _ _ st fun b _ o e=>Rw b o e) f2 w0 hW yp (I2.Rj (bB _) yp) I2.sz (jo _ rfl) (fun hb=>by
   obtain⟨o,e,_⟩:=T.obj 0 _ st _ hb;exact rK _ (bR e)) (by simpa using hns₁) w5 hRR
 exact codeAny_compStart_list loop (T.self _ 0 _ _ _ (T.keep 0 _ _ st fun b _ o e=>w5 b o (Rw b o e)) loop)
def Yn(wi:TI)(tc:TT)(te:TE):TE:=fun zzs H Q=>wi zzs H fun J H1=>∃ W:Nat->Nat->List V->Hp->Prop,(∃ m,W 0 m [] H1)/\pO J tc te zzs (fun ys H2=>∀ p,H2 p=none->Q (.ref p) (upd H2 p (.lst ys))) W
theorem WW{x:Str}{px pos:Pos}{scope:Scope}{elt iter:Expr}{ifs:List Expr}{wi:TI}{tc:TT}{te:TE}(ok:vO scope X.env.scope X.N x=true)(hc:X.calm=true)(hi:PI X (.Name x px) iter wi)
  (hif:∀ s H ex,Gy (jf X x scope s H ex) ifs tc) (he:∀ s H ex,PE (jf X x scope s H ex) elt te) (hs:∀ v,foldedSetIterable iter X.env v=pure v:=by intro _;rfl) :
  PE X (.ListComp elt [⟨.Name x px,iter,ifs,0⟩] scope pos) (Yn wi tc te):=by
 intro pins s zzs H Q I h;have ok':=yS ok;have hfree:∀ y∈scope.names,y.2=.free->∃ c,X.env.cells.lookup y.1=some c:=fun y hy e=>I.ok.has y.1 (ok'.free y hy e)
 rw[eval_ListComp];refine Uz (use:=none) rfl hs (yP hfree) ok'.kind ok'.names (thn (hi pins s zzs H _ I h) fun v s1 h1=>thn h1 fun itv s2 h2=>?_);obtain⟨it,fp,tn,J,H2,e,I2,T,st2,f2,W,w0,hW⟩:=h2;subst e;refine Cr (RR:=fun acc C=>compPost (model X.prog X.w) X.A X.xe none (EP X pins zzs Q) acc C) ok' hc hif he I2 T st2 f2 w0 hW fun D C ys H' s' hD fin I' fC hm=>?_
 obtain⟨m,hm⟩:=hm;refine⟨m,hm,fun h' hsb=>?_⟩;obtain⟨g0,g1,g2,g3,g4,g5⟩:=fC;exact⟨.ref D,_,I'.turned (t':=s'.toks) (fun b o hb e=>Heap.SameBut.keeps hsb hb e) g0 g1 g3 g4 g5,rfl,fin D hD⟩
def Ub(i:Nat)(wi:TI)(tc:TT)(te:TE):TS:=fun D zzs H=>wi zzs H fun J H1=>∃ W:Nat->Nat->List V->Hp->Prop,(∃ m,W 0 m [] H1)/\pO J tc te zzs (fun ys H2=>∀ p,H2 p=none->D.nx (zzs.set i (some (.ref p))) (upd H2 p (.lst ys))) W
theorem Xd{i:Nat}{y x:Str}{py px pos spos:Pos}{scope:Scope}{elt iter:Expr}{ifs:List Expr}{wi:TI}{tc:TT}{te:TE}(hN:X.N.Nodup)(hiy:X.N[i]?=some y)(hy:X.env.scope.names.lookup y=some .local)
  (ok:vO scope X.env.scope X.N x=true) (hc:X.calm=true) (hi:PI X (.Name x px) iter wi)
  (hif:∀ s H ex,Gy (jf X x scope s H ex) ifs tc) (he:∀ s H ex,PE (jf X x scope s H ex) elt te)
  (hsw:swapsWith (.ListComp elt [⟨.Name x px,iter,ifs,0⟩] scope pos) (some (.Name y py)) spos.line X.env=pure true:=by rfl) (hs:∀ v,foldedSetIterable iter X.env v=pure v:=by intro _;rfl) :
  PS X (.Assign [.Name y py] (.ListComp elt [⟨.Name x px,iter,ifs,0⟩] scope pos) spos) (Ub i wi tc te):=by
 intro pins s zzs H Dn I h;have ok':=yS ok;have hfree:∀ y∈scope.names,y.2=.free->∃ c,X.env.cells.lookup y.1=some c:=fun y hy e=>I.ok.has y.1 (ok'.free y hy e)
 rw[exec_Assign_Name_used _ _ _ _ hsw];refine bN (Gn (bN ?_));show wpAny _ X.A (do let _ <- comprehension (.ListComp elt [⟨.Name x px,iter,ifs,0⟩] scope pos) scope X.env _ (newList []) false (eval iter X.env) (some (assign (.Name y py) X.env))) _ _ s;refine bN (jw (Uz (use:=some (assign (.Name y py) X.env)) (Q:=fun _ s'=>SP X pins Dn .next s') rfl hs (yP hfree) ok'.kind ok'.names
  (thn (hi pins s zzs H _ I h) fun v s1 h1=>thn h1 fun itv s2 h2=>?_)) (fun _ s' hq=>cQ (cQ hq)) fun _ _ e=>e)
 obtain⟨it,fp,tn,J,H2,e,I2,T,st2,f2,W,w0,hW⟩:=h2;subst e;refine Cr (RR:=fun acc C=>compPost (model X.prog X.w) X.A X.xe (some (assign (.Name y py) X.env)) (fun _ s'=>SP X pins Dn .next s') acc C) ok' hc hif he I2 T st2 f2 w0 hW fun D C ys H' s' hD fin I' fC hm=>?_
 obtain⟨m,hm⟩:=hm;show wpAny _ X.A (assign (.Name y py) X.env (.ref D)) _ _ _;obtain⟨g0,g1,g2,g3,g4,g5⟩:=fC;refine M8 (Di (i:=i) (v:=.ref D) I' hN hiy (.inl hy) rfl (fun s'' I'' hch=>?_) (.inr hy));obtain⟨a,hsb,ha⟩:=hch;have hCa:C≠a:=by
  rcases ha with z|z
  ·rw[z];exact g1
  ·exact fun z'=>g4 _ _ z z'.symm
 refine⟨m,hm.sameBut hsb hCa,fun h' hsb'=>?_⟩;exact⟨_,_,I''.turned (t':=s''.toks) (fun b o hb e=>Heap.SameBut.keeps hsb' hb e) g0 g1 g3 g4 g5,fin D hD⟩
end
theorem gF.there{P:Program}{w:World}{H:Hp}{h:Heap}{a:Addr}{o:HO}(x:gF P w H h a o):∃ ob,h.get? a=some ob:=by
 cases o with
 |lst xs=>obtain⟨_,_,_,_,e⟩:=x;exact⟨_,e⟩
 |tup xs=>obtain⟨_,_,_,ob,e,_⟩:=x;exact⟨_,e⟩
 |dK kvs=>obtain⟨_,_,_,_,o,_,_,e,_⟩:=x;exact⟨_,e⟩
 |dT kvs=>obtain⟨_,_,_,_,o,_,_,e,_⟩:=x;exact⟨_,e⟩
 |set S n=>obtain⟨o,_,_,_,e,_⟩:=x;exact⟨_,e⟩
 |ins C dx fs=>obtain⟨_,_,_,e,_⟩:=x;exact⟨_,e⟩
 |own y=>obtain⟨_,e⟩:=x;exact⟨_,e⟩
 |xd fs=>obtain⟨_,⟨_,_,_,e,_⟩,_⟩:=x;exact⟨_,e⟩
 |rng lo hi=>obtain⟨_,_,_,e⟩:=x;exact⟨_,e⟩
 |frz ob u=>obtain⟨e,_⟩:=x;exact⟨_,e⟩
 |tbl ps=>exact⟨_,show h.get? a=some _ from x⟩
 |met f y=>exact⟨_,show h.get? a=some _ from x⟩
 |ext φ=>obtain⟨_,e,_⟩:=x;exact e
structure Fly(outer:List Env)(H':Hp)(h0:Heap)(ea C:Addr)(h:Heap):Prop where
 free:H' ea=none
 new:h0.get? ea=none
 fl:∃(B:Heap)(t:Addr),Heap.FlyingW B outer ea (.ref C) (.ref t) h/\∀ b o,h.get? b=some o->(H' b≠none\/∃ o',h0.get? b=some o')->b∉frs outer->B.get? b=some o
def CXE(P:Program)(w:World):CXT:=fun outer H s E e s'=>∃ ea C H',e=.ref ea/\s'.os=s.os/\AllBare s'.gens/\Un (frs outer) [] H H' s.heap s'.heap/\HOk P w H' s'.heap/\Fly outer H' s.heap ea C s'.heap/\E (.ref C) none H'
section
variable{P:Program}{w:World}{K:ak}{mg:Str->Option Value}{base:Heap}{N:List Str}{qual:Str}{scope:Scope}{f:Addr}{cd:Value}{A:Around}{outer:List Env}{s0:Shared}{H0:Hp}{E:XK}
theorem Tv{pins:List (Addr×Obj)}{zzs:St}{H:Hp}{s:Shared}{h':Heap}{e C:Addr}{vs:List Value}(I:Inv (qd (CXE P w) P w K mg base N qual scope f cd A outer s0 H0 E) pins zzs H s)
  (hx:Heap.MadeExcOf s.heap h' e (.ref C) vs) (hE:E (.ref C) none H):(qd (CXE P w) P w K mg base N qual scope f cd A outer s0 H0 E).xe (.ref e) { s with heap:=h' }:=by
 have Z5:∀ b,b∈frs (envOfC qual scope s0.heap.objs.size f cd::outer)->b=s0.heap.objs.size\/b∈frs outer:=fun b hb=>cW.mp (I.tR b hb)
 have hB:∀ b o,s.heap.get? b=some o->b∉frs (envOfC qual scope s0.heap.objs.size f cd::outer)->(PySem.W.hideAll s.heap (frs (envOfC qual scope s0.heap.objs.size f cd::outer))).get? b=some o:=fun b o e n=>Vm _ e n
 show wpAny (model P w) (A.deeper (envOfC qual scope s0.heap.objs.size f cd)) (leaving (envOfC qual scope s0.heap.objs.size f cd) (.ref e)) (fun _ s''=>CXE P w outer H0 s0 E (.ref e) s'') (fun e' s''=>CXE P w outer H0 s0 E e' s'') { s with heap:=h' };refine wpAny_leaves_madeW (base:=PySem.W.hideAll s.heap (frs (envOfC qual scope s0.heap.objs.size f cd::outer))) (h:=s.heap) I.ok.frames rfl (fun b o q=>Vs _ q)
  (PySem.W.funFrames_hide I.stack fun env he a ha=>Az.mpr ⟨env,he,ha⟩) hx fun h'' t fl _ _ sm=>?_
 have new:s.heap.get? e=none:=hx.new;have sm':s.heap.UpToSlots h'':=(Heap.UpToSlots.of_keeps hx.keeps).trans sm;have stays:=fl.1;have fu:∀ b o,s.heap.get? b=some o->b∉frs (envOfC qual scope s0.heap.objs.size f cd::outer)->h''.get? b=some o:=fun b o q n=>stays b o (hB b o q n)
 have Q7:∀ b o,s0.heap.get? b=some o->b∉frs outer->b∉frs (envOfC qual scope s0.heap.objs.size f cd::outer):=fun b o q n hb=>by
  rcases Z5 b hb with z|z
  ·exact fZ (bR q) z
  ·exact n z
 have trk:∀ b u,H b=some u->b∉frs (envOfC qual scope s0.heap.objs.size f cd::outer):=fun b u q hb=>by
  have:=I.uZ b hb;rw[q] at this;cases this
 have KH:∀ b o,s0.heap.get? b=some o->∃ o',s.heap.get? b=some o':=fun b o q=>I.base.there b o q (by show b∉[];simp)
 refine⟨e,C,H,rfl,I.os,I.bare,⟨fun b o q n hb _=>?_,fun b o q n hb _=>?_,fun b o q n hx'=>I.base.free b o q n (by show b∉[];simp),fun b o q _=>?_,I.base.tups,I.base.qH,I.base.sI⟩,fun a o q=>?_,⟨?_,?_,?_⟩,hE⟩
 ·exact fu b o (I.base.keep b o q n hb (by show b∉[];simp)) (Q7 b o q hb)
 ·obtain⟨sl,e1⟩:=I.base.slot b o q n hb (by show b∉[];simp);obtain⟨_,o',ho',hd⟩:=I.tu.mem hb;rw[e1] at ho';cases ho';obtain⟨sl',e2⟩:=sm' b _ e1 hd;exact⟨sl',e2⟩
 ·obtain⟨o',e1⟩:=KH b o q;by_cases hb:b∈frs (envOfC qual scope s0.heap.objs.size f cd::outer)
  ·obtain⟨_,o2,ho2,hd⟩:=I.stack.mem hb;obtain⟨sl',e2⟩:=sm' b _ ho2 hd;exact⟨_,e2⟩
  ·exact⟨o',fu b o' e1 hb⟩
 ·refine(I.hok a o q).stay (fun b u hb z=>fu b u z ?_) (fun _ z=>z) fun _ _ z=>z
  rcases hb with rfl|hb
  ·exact trk b o q
  ·exact trk b _ hb
 ·cases q:H e with
  |none=>rfl
  |some o=>
   obtain⟨ob,z⟩:=(I.hok e o q).there;rw[new] at z;cases z
 ·cases q:s0.heap.get? e with
  |none=>rfl
  |some o=>
   obtain⟨ob,z⟩:=KH e o q;rw[new] at z;cases z
 ·refine⟨_,t,fl,fun b o q hb n=>?_⟩;have key:∃ o',s.heap.get? b=some o'/\b∉frs (envOfC qual scope s0.heap.objs.size f cd::outer):=by
   rcases hb with z|⟨o',z⟩
   ·cases r:H b with
    |none=>exact absurd r z
    |some u=>
     obtain⟨ob,y⟩:=(I.hok b u r).there;exact⟨ob,y,trk b u r⟩
   ·obtain⟨o2,y⟩:=KH b o' z;exact⟨o2,y,Q7 b o' z n⟩
  obtain⟨o',y,n'⟩:=key;have:=fu b o' y n';rw[q] at this;cases this;exact hB b o y n'
end
structure iQ(K:ak)(C:Addr):Prop where
 ex:PySem.W.excIn K C [.type "ValueError",.type "Exception",.type "BaseException",.type "object"] "ValueError.__new__" = true
theorem iQ.obj{K:ak}{C:Addr}(c:iQ K C){h:Heap}(X:K.In h):∃ tl N nm q bs hdct sn sub ab col dd k0 k1 k2 k3 k5 mN,h.get? C=some (excClassObj nm q C N bs tl hdct sn sub ab col dd k0 k1 k2 k3 k5 "ValueError.__new__")/\h.Ns N mN/\mN "__init__" = none /\
  OwnTail h [.type "ValueError",.type "Exception",.type "BaseException",.type "object"] tl:=by
 have q:=c.ex;unfold PySem.W.excIn at q;split at q
 ·rename_i dd cd sl ho;split at q
  ·rename_i C' bm k0 k1 k2 k3 n k5 hm hs;simp only[kj,kJ,jr] at q;obtain⟨⟨⟨⟨⟨rfl,rfl⟩,hdel⟩,ht⟩,hok⟩,hni⟩:=q;obtain⟨nm,bs,mro,ns,qn,hd,sn,sub,ab,col,del⟩:=cd;dsimp only at hm hdel hok hni;subst hm hdel;have hsl:sl=#[k0,k1,k2,k3,some (.builtin "ValueError.__new__"),k5]:=by
    obtain⟨l⟩:=sl;simp only at hs;rw[hs]
   subst hsl;exact⟨bm,ns,nm,qn,bs,hd,sn,sub,ab,col,dd,k0,k1,k2,k3,k5,_,X _ _ ho,.of_isNs (PySem.W.isNs_of_in X hok),PySem.W.nsMap_none_of_in X hok hni,PySem.W.tail_of_in X ht⟩
  ·cases q
 ·cases q
def Ui(t:TA)(C:Addr)(E:XK):TS:=fun _ zzs H=>t zzs H fun vs H1=>vs.length<=sizeLine/\E (.ref C) none H1
section
variable{P:Program}{w:World}{K:ak}{mg:Str->Option Value}{base:Heap}{N:List Str}{qual:Str}{scope:Scope}{f:Addr}{cd:Value}{A:Around}{outer:List Env}{s0:Shared}{H0:Hp}{E:XK}
theorem T9{x:Str}{np cpos pos:Pos}{e₀:Expr}{rest:List Expr}{t:TA}{C:Addr}(c:iQ K C)(hg:Gl (qd (CXE P w) P w K mg base N qual scope f cd A outer s0 H0 E) x)(hm:mg x=some (.ref C))(hh:A.handled=none)
  (ha:PA (qd (CXE P w) P w K mg base N qual scope f cd A outer s0 H0 E) (e₀::rest) t) (hd:(x==("__debug__" : Str))=false:=by decide)
  (he:starEach (e₀::rest) (envOfC qual scope s0.heap.objs.size f cd)=(false,eval e₀ (envOfC qual scope s0.heap.objs.size f cd))::starEach rest (envOfC qual scope s0.heap.objs.size f cd):=by rfl)
  (hplain:(backTo cpos (starEach rest (envOfC qual scope s0.heap.objs.size f cd))).any (·.1)=false:=by rfl) :
  PS (qd (CXE P w) P w K mg base N qual scope f cd A outer s0 H0 E) (.Raise (some (.Call (.Name x np) (e₀::rest) [] cpos)) none pos) (Ui t C E):=by
 intro pins s zzs H D I h;obtain⟨tl,Na,nm,q,bs,hdct,sn,sub,ab,col,dd,k0,k1,k2,k3,k5,mN,hC,hN,hni,T⟩:=c.obj I.mod.kin;refine wpAny_Raise_call_subU (C:=C) (nm:=nm) (q:=q) (N:=Na) (bs:=bs) (bm:=tl) (hdct:=hdct) (sn:=sn) (sub:=sub) (ab:=ab) (col:=col) (dd:=dd) (k0:=k0) (k1:=k1) (k2:=k2) (k3:=k3) (k5:=k5)
  Fp (by decide) Fp (mN:=mN) (T.hasType Fp.hasBase) hh (by
   show(backTo cpos (starEach (e₀::rest) (envOfC qual scope s0.heap.objs.size f cd))).any (·.1)=false;rw[he];show(false||(backTo cpos (starEach rest (envOfC qual scope s0.heap.objs.size f cd))).any (·.1))=false;rw[hplain];rfl) hni (uH I hg hm ⟨rfl,?_⟩ hd)
 have h2:=ha cpos pins s zzs H _ I h;show wpAny (model P w) _ (evalArgs (.ref C) true (backTo cpos (starEach (e₀::rest) (envOfC qual scope s0.heap.objs.size f cd))) []) _ _ s;have h3:wpAny (model P w) (A.deeper (envOfC qual scope s0.heap.objs.size f cd)) (spliced (backTo cpos (starEach (e₀::rest) (envOfC qual scope s0.heap.objs.size f cd)))) _ _ s:=h2;rw[he] at h3 ⊢;refine Lx (jw h3 (fun vs s₂ h₂=>?_) fun _ _ y=>y);obtain⟨xs,H1,I1,r,hz,hE⟩:=h₂;have keep:∀ b o,base.get? b=some o->s₂.heap.get? b=some o:=I1.bk;exact⟨rfl,by rw[<- r.length];exact hz,keep _ _ hC,hN.keeps keep,T.keeps keep,fun h' e hx=>Tv I1 hx hE⟩
end
section
variable{X:Cx}
def sZ(X:Cx)(ea:Addr):Cx:={ X with A:=X.A.mark (some (.ref ea)),calm:=false,xe:=fun _ _=>False }
theorem Inv.hand{pins:List (Addr×Obj)}{zzs:St}{H:Hp}{s:Shared}(I:Inv X pins zzs H s)(ea:Addr):Inv (sZ X ea) pins zzs H s:=
 ⟨⟨I.ok.mod,I.ok.kind,I.ok.glob,I.ok.blt,I.ok.above,I.ok.inj,I.ok.has,I.ok.cab,fun z=>absurd (show false=true from z) (by decide),I.ok.frames,I.ok.stk,I.ok.exf,I.ok.bs,I.ok.bsz,I.ok.JT,I.ok.P0,I.ok.tu,I.ok.frf⟩,
  I.os,I.bare,I.base,I.loc,I.cell,I.free,I.lO,I.pin,I.hok,I.len⟩
theorem Inv.a0t{ea:Addr}{pins:List (Addr×Obj)}{zzs:St}{H:Hp}{s:Shared}(ok:X.Ok)(I:Inv (sZ X ea) pins zzs H s):Inv X pins zzs H s:=
 ⟨ok,I.os,I.bare,I.base,I.loc,I.cell,I.free,I.lO,I.pin,I.hok,I.len⟩
theorem land{pins:List (Addr×Obj)}{zzs:St}{H H':Hp}{s s' s'':Shared}{B:Heap}(I:Inv X pins zzs H s)(os:s'.os=s.os)(un:Un (frs X.stack) [] H H' s.heap s'.heap)(hok:HOk X.prog X.w H' s'.heap)
  (KB:∀ b o,s'.heap.get? b=some o->(H' b≠none\/∃ o',s.heap.get? b=some o')->b∉frs X.stack->B.get? b=some o) (st:B.StaysIn s''.heap) (sm:s'.heap.UpToSlots s''.heap) (Qh:s''.os=s'.os) (bare:AllBare s''.gens):Inv X pins zzs H' s'':=by
 have fr:∀ b∈frs X.stack,∃ o sl,s.heap.get? b=some o/\(∀ vs,o.data≠.fields vs)/\H b=none/\s'.heap.get? b=some { o with slots:=sl }/\H' b=none:=fun b hb=>by
  obtain⟨_,o,ho,hd⟩:=I.stack.mem hb;have hn:=I.uZ b hb;obtain⟨sl,e⟩:=un.slot b o ho hn hb (by simp);exact⟨o,sl,ho,hd,hn,e,un.free b o ho hn (by simp)⟩
 refine I.call' (Qh.trans os) (ch:=[]) ⟨fun b o e n hb hx=>?_,fun b o e n hb hx=>?_,un.free,fun b o e hx=>?_,un.tups,un.qH,un.sI⟩ (fun a o e=>?_) bare (fun b hb=>absurd hb (by simp))
 ·exact st b o (KB b o (un.keep b o e n hb hx) (.inr ⟨o,e⟩) hb)
 ·obtain⟨o1,sl,e1,hd,_,e2,_⟩:=fr b hb;rw[e] at e1;cases e1;obtain⟨sl',e3⟩:=sm b _ e2 hd;exact⟨sl',e3⟩
 ·by_cases hb:b∈frs X.stack
  ·obtain⟨o1,sl,e1,hd,_,e2,_⟩:=fr b hb;obtain⟨sl',e3⟩:=sm b _ e2 hd;exact⟨_,e3⟩
  ·obtain⟨o',e1⟩:=un.there b o e hx;exact⟨o',st b o' (KB b o' e1 (.inr ⟨o,e⟩) hb)⟩
 ·have nf:∀ b u,H' b=some u->b∉frs X.stack:=fun b u q hb=>by
   obtain⟨_,_,_,_,_,_,z⟩:=fr b hb;rw[q] at z;cases z
  refine(hok a o e).stay (fun b u hb q=>?_) (fun _ q=>q) fun _ _ q=>q
  rcases hb with rfl|hb
  ·exact st b u (KB b u q (.inl (by rw[e];simp)) (nf b o e))
  ·exact st b u (KB b u q (.inl (by rw[hb];simp)) (nf b _ hb))
structure Air(X:Cx)(pins:List (Addr×Obj))(zzs:St)(H':Hp)(ea C:Addr)(s'':Shared):Prop where
 ex:∃(H:Hp)(s s':Shared)(B:Heap)(t:Addr),Inv X pins zzs H s/\s'.os=s.os/\Un (frs X.stack) [] H H' s.heap s'.heap/\HOk X.prog X.w H' s'.heap /\
  (∀ b o,s'.heap.get? b=some o->(H' b≠none\/∃ o',s.heap.get? b=some o')->b∉frs X.stack->B.get? b=some o)/\Heap.FlyingW B X.stack ea (.ref C) (.ref t) s''.heap/\s'.heap.UpToSlots s''.heap/\s''.os=s'.os/\AllBare s''.gens/\s.heap.get? ea=none/\H' ea=none
theorem Air.inv{pins:List (Addr×Obj)}{zzs:St}{H':Hp}{ea C:Addr}{s'':Shared}(a:Air X pins zzs H' ea C s''):Inv X pins zzs H' s'':=by
 obtain⟨H,s,s',B,t,I,os,un,hok,KB,fl,sm,Qh,bare,_,_⟩:=a.ex;exact land I os un hok KB fl.1 sm Qh bare
theorem Air.obj{pins:List (Addr×Obj)}{zzs:St}{H':Hp}{ea C:Addr}{s'':Shared}(a:Air X pins zzs H' ea C s''):∃ ob,s''.heap.get? ea=some ob/\ob.cls=.ref C:=by
 obtain⟨H,s,s',B,t,I,os,un,hok,KB,fl,sm,Qh,bare,_,_⟩:=a.ex;exact fl.there
theorem Air.again{pins:List (Addr×Obj)}{zzs:St}{H':Hp}{ea C:Addr}{s'':Shared}{M:Model}{A:Around}{E:Value->Shared->Prop}{Q:Unit->Shared->Prop}(a:Air X pins zzs H' ea C s'')
  (hQ:∀ h',Air X pins zzs H' ea C { s'' with heap:=h' }->Q () { s'' with heap:=h' }):wpAny M A (setFlight (.ref ea) none) Q E s'':=by
 obtain⟨H,s,s',B,t,I,os,un,hok,KB,fl,sm,Qh,bare,n1,n2⟩:=a.ex;exact lands_againW fl fun h' fl' sm'=>hQ h' ⟨H,s,s',B,t,I,os,un,hok,KB,fl',sm.trans sm',Qh,bare,n1,n2⟩
def PH(X:Cx)(hs:List ExceptHandler)(th:Addr->TS):Prop:=
 ∀(pins:List (Addr×Obj))(zzs:St)(H:Hp)(ea C:Addr)(s:Shared)(D:Ends),Air X pins zzs H ea C s->th C D zzs H->wpAny (model X.prog X.w) X.A (handleBy (.ref ea) X.env hs) (SP X pins D) X.xe s
def N5(K:ak)(C C':Addr):Bool:=match K.lookup C with
 |some ⟨.type "type",_,.cls cd,_⟩=>!(cd.mro.contains (.ref C'))
 |_=>false
theorem a09:PH X [] (fun _ _ _ _=>False):=fun _ _ _ _ _ _ _ _ h=>h.elim
end
def Its(z:Str):It:=⟨fun i _=>i<z.cps.size,fun i H x H'=>H'=H/\∃ c,z.cps[i]?=some c/\x=.str ⟨#[c]⟩,fun i _=>z.cps.size<=i⟩
theorem QF{P:Program}{w:World}{K:ak}{tg:Expr}(z:Str)(t:Tok)(it:Addr):Turn P w K tg (Its z) [it] it (fun i h=>h.IsStrIter it "str_ascii_iterator" z t i) where
 mem:=by simp
 obj:=fun i h st b hb=>by
  have e:b=it:=by simpa using hb
  subst e;obtain⟨o,e,c,d⟩:=st;exact⟨o,e,fun v q=>by rw[d] at q;cases q⟩
 keep:=fun i h h' st k=>by
  obtain⟨o,e,c,d⟩:=st;exact⟨o,k it (by simp) o e,c,d⟩
 item:=by
  intro X hP hw hK hc i pins s zzs H E I hf st hg;subst hP hw hK;obtain⟨f0,f1,f2,f3,f4,f5⟩:=hf it (by simp);have hgi:i<z.cps.size:=hg;refine wpAny_pyNext_ascii_item st (c:=z.cps[i]) (by simp[hgi]) fun h' st' sb=>?_
  have I1:Inv X pins zzs H { s with heap:=h',toks:=s.toks+1 }:=I.turned (fun b o hb e=>(sb.2 b hb).trans e) f0 f1 f3 f4 f5;obtain⟨o,e,c,d⟩:=id st';exact⟨_,rfl,Ng (s:={ s with heap:=h',toks:=s.toks+1 }) e c d (by decide) ⟨.str ⟨#[z.cps[i]]⟩,H,I1,⟨_,rfl⟩,⟨rfl,z.cps[i],by simp[hgi],rfl⟩,st',fun b hb=>(hf b hb).1⟩⟩
 done:=by
  intro X hP hw hK hc i pins s zzs H E I hf st hg;subst hP hw hK;obtain⟨f0,f1,f2,f3,f4,f5⟩:=hf it (by simp);have hgi:z.cps.size<=i:=hg;exact wpAny_pyNext_ascii_end (I.ok.hd hc) st (by simp[hgi]) fun h' eb=>⟨rfl,I.turned (t':=s.toks) (fun b o hb e=>eb b o hb e) f0 f1 f3 f4 f5⟩
 self:=fun _ _ _ _ _ st h=>wpAny_pyIter_striter_ascii st h
theorem QG{P:Program}{w:World}{K:ak}{tg:Expr}(z:Str)(t:Tok)(it:Addr):Turn P w K tg (Its z) [it] it (fun i h=>h.IsStrIter it "str_iterator" z t i) where
 mem:=by simp
 obj:=fun i h st b hb=>by
  have e:b=it:=by simpa using hb
  subst e;obtain⟨o,e,c,d⟩:=st;exact⟨o,e,fun v q=>by rw[d] at q;cases q⟩
 keep:=fun i h h' st k=>by
  obtain⟨o,e,c,d⟩:=st;exact⟨o,k it (by simp) o e,c,d⟩
 item:=by
  intro X hP hw hK hc i pins s zzs H E I hf st hg;subst hP hw hK;obtain⟨f0,f1,f2,f3,f4,f5⟩:=hf it (by simp);have hgi:i<z.cps.size:=hg;refine wpAny_pyNext_wide_item st (c:=z.cps[i]) (by simp[hgi]) fun h' st' sb=>?_
  have I1:Inv X pins zzs H { s with heap:=h',toks:=s.toks+1 }:=I.turned (fun b o hb e=>(sb.2 b hb).trans e) f0 f1 f3 f4 f5;obtain⟨o,e,c,d⟩:=id st';exact⟨_,rfl,Ng (s:={ s with heap:=h',toks:=s.toks+1 }) e c d (by decide) ⟨.str ⟨#[z.cps[i]]⟩,H,I1,⟨_,rfl⟩,⟨rfl,z.cps[i],by simp[hgi],rfl⟩,st',fun b hb=>(hf b hb).1⟩⟩
 done:=by
  intro X hP hw hK hc i pins s zzs H E I hf st hg;subst hP hw hK;obtain⟨f0,f1,f2,f3,f4,f5⟩:=hf it (by simp);have hgi:z.cps.size<=i:=hg;exact wpAny_pyNext_wide_end (I.ok.hd hc) st (by simp[hgi]) fun h' eb=>⟨rfl,I.turned (t':=s.toks) (fun b o hb e=>eb b o hb e) f0 f1 f3 f4 f5⟩
 self:=fun _ _ _ _ _ st h=>wpAny_pyIter_striter_wide st h
section
variable{X:Cx}{tg:Expr}
def a0X(te:TE):TI:=fun zzs H R=>te zzs H fun x H1=>∃ z,x=.str z/\R (Its z) H1
theorem a0a{l:Expr}{te:TE}(hl:PE X l te):PI X tg l (a0X te):=by
 intro pins s zzs H R I h;refine thn (hl pins s zzs H _ I h) fun v s1 zzy=>?_
 obtain⟨x,H1,I1,r1,q1⟩:=zzy;obtain⟨z,e,q⟩:=q1;subst e;obtain⟨t,rfl⟩:=r1;have fp:∀ b∈[s1.heap.objs.size],ug X pins H1 b:=fun b hb=>by
  have e:b=s1.heap.objs.size:=by simpa using hb
  subst e;exact I1.Rj (bB _) (I1.hok.fresh (bB _))
 cases ha:z.cps.all (·<128)
 ·exact wpAny_pyIter_wide ha ⟨s1.heap.objs.size,[s1.heap.objs.size],_,_,H1,rfl,I1.kept (t':=s1.toks) fun b o e=>dW _ e,QG z t _,⟨_,jo _ rfl,rfl,rfl⟩,fp,q⟩
 ·exact wpAny_pyIter_ascii ha ⟨s1.heap.objs.size,[s1.heap.objs.size],_,_,H1,rfl,I1.kept (t':=s1.toks) fun b o e=>dW _ e,QF z t _,⟨_,jo _ rfl,rfl,rfl⟩,fp,q⟩
def BR(z:Str)(n:Int):Str:=if n<1 then Str.empty else if(n==1||z.length==0)=true then z else⟨(List.replicate n.toNat z.cps).foldl (·++·) #[]⟩
theorem K5:OpR X (binaryOp .Mult) (fun x y H Q=>∃ z n,x=.str z/\y=.int n/\z.length<=1000 /\ -1000<=n/\n<=1000/\Q (.str (BR z n)) H):=by
 intro pins s zzs H x y v u Q I rx ry h;obtain⟨z,n,rfl,rfl,hz,h1,h2,q⟩:=h;obtain⟨t,rfl⟩:=rx;obtain⟨t',rfl⟩:=ry;refine P.mul_str (by rw[dB (by lia),dB (by lia)];rfl) (fun hn _=>?_) (fun hn _=>?_) ?_
 ·have:(1000:Int)<=(2^63-1) / n:=by
   rw[Int.le_ediv_iff_mul_le (by lia)];lia
  lia
 ·have:z.length*n.toNat<=1000*1000:=mF hz (by lia);show decide (z.length*n.toNat>sizeLine)=false;rw[rN];exact dB (by lia)
 ·unfold BR at q;by_cases h3:n<1
  ·rw[aJ h3] at q ⊢;exact⟨by decide,⟨.str _,H,I.tok _,⟨_,rfl⟩,q⟩⟩
  ·rw[aG h3] at q ⊢;by_cases h4:(n==1||z.length==0)=true
   ·rw[aJ h4] at q ⊢;exact⟨.str _,H,I,⟨_,rfl⟩,q⟩
   ·rw[aG h4] at q ⊢;refine⟨?_,⟨.str _,H,I.tok _,⟨_,rfl⟩,q⟩⟩;have e:∀(k:Nat)(acc:Array Nat),((List.replicate k z.cps).foldl (·++·) acc).size=acc.size+k*z.cps.size:=by
     intro k
     induction k with
     |zero=>intro acc;simp
     |succ k ih=>
      intro acc;rw[xP,Gh,ih,Array.size_append,Nat.add_mul,Nat.one_mul];lia
    have e2:=e n.toNat #[];have hz':z.cps.size<=1000:=hz;have:n.toNat*z.cps.size<=1000*1000:=mF (by lia) hz';show((List.replicate n.toNat z.cps).foldl (·++·) #[]).size<=sizeLine;rw[e2,rN];simp only[cI,xT];lia
theorem R3(hc:X.calm=true):dX X (.builtin "all") (fun xs H Q=>∃(p:Addr)(bs:List Bool),xs=[.ref p]/\SqL X.K H p (bs.map V.bl)/\Q (.bl (bs.all id)) H):=by
 intro pins s zzs H xs us Q I r h;obtain⟨p,bs,rfl,hq,q⟩:=h;obtain⟨u,rfl,ru⟩:=vals1 r;cases ru;obtain⟨its,rv,pl,hz⟩:=I.list hq;have hl:its.length=bs.length:=by have:=rv.length;simpa using this.symm
 have item:∀(i:Nat)(v:Value),its[i]?=some v->v=.bool (bs.getD i true):=fun i v e=>by
  have hi:i<bs.length:=by rw[<- hl];exact(mZ.mp e).1
  have hx:(bs.map V.bl)[i]?=some (V.bl bs[i]):=by simp[hi]
  obtain⟨w',e',rw'⟩:=rv.get hx;rw[e] at e';cases e';have:bs.getD i true=bs[i]:=by simp[fU,hi]
  rw[this];exact rw'
 have hne:p≠s.heap.objs.size:=fun z=>by
  obtain⟨o,n,e,_⟩:=pl;exact rK _ (z▸bR e)
 refine call_all_walk (wpAny_pyIter_list pl.isList ?_);refine⟨s.heap.objs.size,[s.heap.objs.size,p],[s.heap.objs.size],its.toArray.size,fun i v=>its.toArray[i]?=some v,fun i h=>h.IsListIter s.heap.objs.size p i/\h.IsList p its.toArray,fun i=>bs.getD i true,rfl,
  Walks.list (A:=X.A.in1) (I.ok.hd hc) _ p hne its.toArray,⟨⟨_,jo _ rfl,rfl,rfl⟩,pl.isList.at fun o e=>dW _ e⟩,fun i v s' Q' E' hP hQ=>?_,fun h' tk kk=>?_⟩
 ·have:=item i v (by simpa using hP);subst this;exact vg hQ
 ·have hb:(List.range its.toArray.size).all (fun i=>bs.getD i true)=bs.all id:=by
   rw[cI,hl];apply tW.mpr;simp only[jt,cH,id];constructor
   ·intro h x hx;obtain⟨i,hi,rfl⟩:=LQ hx;have:=h i hi;simpa [fU,hi] using this
   ·intro h i hi;have:=h bs[i] (pZ hi);simpa [fU,hi] using this
  rw[hb];have I1:Inv X pins zzs H { s with heap:=h',toks:=tk }:=I.kept fun b o e=>kk b o (fun z=>by
   have z':b=s.heap.objs.size:=by simpa using z
   exact rK _ (z'▸bR e)) (dW _ e)
  exact⟨.bl _,H,I1,rfl,q⟩
theorem Kw{ys:List Str}:∀ {us:List Value},Vals (ys.map V.str) us->StrsAre us ys:=by
 induction ys with
 |nil=>intro us r;rw[Bl] at r;cases r;exact .nil
 |cons n ns ih=>
  intro us r;rw[dM] at r;cases r with
  |cons r1 r2=>
   obtain⟨t,e⟩:=r1;subst e;exact .cons n t (ih r2)
def rJoin(K:ak):V->List V->Hp->VK->Prop:=fun x vs H Q=>∃(sep:Str)(p:Addr)(ys:List Str),x=.str sep/\vs=[.ref p]/\SqL K H p (ys.map V.str)/\(ys.map (·.length)).sum+ys.length*sep.length<=16777216/\Q (.str (Txt.join sep ys)) H
theorem Wr:MtR X "str.join" (rJoin X.K):=by
 intro pins s zzs H x xs v us Q I rx rs h;obtain⟨sep,p,ys,rfl,rfl,hq,hz,q⟩:=h;obtain⟨t,rfl⟩:=rx;obtain⟨u,rfl,ru⟩:=vals1 rs;cases ru;obtain⟨its,rv,pl,_⟩:=I.list hq;exact join_list pl.isList (by simpa using Kw rv) hz fun t' k=>⟨.str _,H,I.tok _,⟨_,rfl⟩,q⟩
end
open PySem.SeqAt
inductive Dt where
 |non|bl (b:Bool)|int (i:Int)|str (x:Str)|tup (ds:List Dt)|lst (ds:List Dt)
mutual
inductive Den(K:ak)(H:Hp):V->Dt->Prop
 |non:Den K H .non .non
 |bl (b:Bool):Den K H (.bl b) (.bl b)
 |int (i:Int):Den K H (.int i) (.int i)
 |str (x:Str):Den K H (.str x) (.str x)
 |tup {a:Addr} {xs:List V} {ds:List Dt} (h:H a=some (.tup xs)) (hs:aV K H xs ds):Den K H (.ref a) (.tup ds)
 |lst {a:Addr} {xs:List V} {ds:List Dt} (h:SqL K H a xs) (hs:aV K H xs ds):Den K H (.ref a) (.lst ds)
inductive aV(K:ak)(H:Hp):List V->List Dt->Prop
 |nil:aV K H [] []
 |cons {x:V} {d:Dt} {xs:List V} {ds:List Dt} (h:Den K H x d) (t:aV K H xs ds):aV K H (x::xs) (d::ds)
end
def jX:Dt->Option V
 |.non=>some .non
 |.bl b=>some (.bl b)
 |.int i=>some (.int i)
 |.str x=>some (.str x)
 |_=>none
mutual
def eqD:Dt->Dt->Bool
 |.tup a,.tup b=>uw a b
 |.lst a,.lst b=>uw a b
 |.non,e=>match jX e with|some y=>eqV .non y|none=>false
 |.bl x,e=>match jX e with|some y=>eqV (.bl x) y|none=>false
 |.int x,e=>match jX e with|some y=>eqV (.int x) y|none=>false
 |.str x,e=>match jX e with|some y=>eqV (.str x) y|none=>false
 |.tup _,_=>false
 |.lst _,_=>false
def uw:List Dt->List Dt->Bool
 |[],[]=>true
 |a::as,b::bs=>eqD a b&&uw as bs
 |[],_::_=>false
 |_::_,[]=>false
end
def Zn:Dt->Dt->Bool
 |.tup _,e=>(jX e).isSome
 |_,_=>false
mutual
def shD:Dt->Dt->Bool
 |.tup a,.tup b=>Aj a b
 |.lst a,.lst b=>Aj a b
 |.non,e=>(jX e).isSome
 |.bl _,e=>(jX e).isSome
 |.int _,e=>(jX e).isSome
 |.str _,e=>(jX e).isSome
 |.tup _,_=>false
 |.lst _,_=>false
def Aj:List Dt->List Dt->Bool
 |a::as,b::bs=>(shD a b||Zn a b)&&Aj as bs
 |_,_=>true
end
mutual
def uq:Dt->Nat
 |.tup a=>wY a+1
 |.lst a=>wY a+1
 |_=>0
def wY:List Dt->Nat
 |[]=>0
 |a::as=>max (uq a) (wY as)
end
theorem aV.length{K:ak}{H:Hp}:∀ {xs:List V} {ds:List Dt},aV K H xs ds->xs.length=ds.length
 |_,_,.nil=>rfl
 |_,_,.cons _ t=>by rw[fX,fX,t.length]
theorem aV.get{K:ak}{H:Hp}:∀ {xs:List V} {ds:List Dt} {i:Nat} {x:V},aV K H xs ds->xs[i]?=some x->∃ d,ds[i]?=some d/\Den K H x d
 |_,_,_,_,.nil,e=>by simp at e
 |_,_,0,_,.cons h _,e=>by simp at e;subst e;exact⟨_,rfl,h⟩
 |_,_,i+1,x,.cons _ t,e=>by
  obtain⟨d,h1,h2⟩:=aV.get (i:=i) (x:=x) t (by simpa using e);exact⟨d,by simpa using h1,h2⟩
theorem aV.get'{K:ak}{H:Hp}:∀ {xs:List V} {ds:List Dt} {i:Nat} {d:Dt},aV K H xs ds->ds[i]?=some d->∃ x,xs[i]?=some x/\Den K H x d
 |_,_,_,_,.nil,e=>by simp at e
 |_,_,0,_,.cons h _,e=>by simp at e;subst e;exact⟨_,rfl,h⟩
 |_,_,i+1,d,.cons _ t,e=>by
  obtain⟨x,h1,h2⟩:=aV.get' (i:=i) (d:=d) t (by simpa using e);exact⟨x,by simpa using h1,h2⟩
theorem aV.append{K:ak}{H:Hp}:∀ {xs ys:List V} {ds es:List Dt},aV K H xs ds->aV K H ys es->aV K H (xs++ys) (ds++es)
 |_,_,_,_,.nil,s=>s
 |_,_,_,_,.cons h t,s=>.cons h (t.append s)
theorem rQ:∀ {ds:List Dt} {d:Dt},d∈ds->uq d<=wY ds
 |a::as,d,h=>by
  unfold wY;rcases cW.mp h with e|e
  ·rw[e];exact Nat.le_max_left _ _
  ·exact dN (rQ e) (Nat.le_max_right _ _)
theorem uU:∀ {as bs:List Dt} {i:Nat} {a b:Dt},Aj as bs=true->as[i]?=some a->bs[i]?=some b->shD a b=true\/Zn a b=true
 |x::as,y::bs,0,a,b,h,e1,e2=>by
  simp at e1 e2;subst e1;subst e2;unfold Aj at h;simp only[kj,Bool.or_eq_true] at h;exact h.1
 |x::as,y::bs,i+1,a,b,h,e1,e2=>by
  unfold Aj at h;simp only[kj] at h;exact uU (i:=i) h.2 (by simpa using e1) (by simpa using e2)
 |[],_,_,_,_,_,e1,_=>by simp at e1
 |_::_,[],_,_,_,_,_,e2=>by simp at e2
def atD(as bs:List Dt)(j:Nat):Bool:=eqD (as.getD j .non) (bs.getD j .non)
theorem zR(n:Nat)(p:Nat->Bool):(List.range (n+1)).all p=(p 0&&(List.range n).all fun j=>p (j+1)):=by
 rw[List.range_succ_eq_map,wO,Gu];rfl
theorem ux:∀ {as bs:List Dt},as.length=bs.length->(List.range as.length).all (atD as bs)=uw as bs
 |[],[],_=>rfl
 |a::as,b::bs,h=>by
  have ih:=@ux as bs (by simpa using h);rw[fX,zR];unfold uw;rw[<- ih];rfl
 |[],_::_,h=>by simp at h
 |_::_,[],h=>by simp at h
theorem uy:∀ {as bs:List Dt},as.length≠bs.length->uw as bs=false
 |[],[],h=>absurd rfl h
 |a::as,b::bs,h=>by
  unfold uw;rw[uy (as:=as) (bs:=bs) (fun z=>h (by rw[fX,fX,z])),rD]
 |[],_::_,_=>rfl
 |_::_,[],_=>rfl
theorem Hu:∀ {as bs:List Dt},((List.range (min as.length bs.length)).all (atD as bs)&&as.length==bs.length)=uw as bs:=by
 intro as bs;by_cases h:as.length=bs.length
 ·rw[<- h,Nat.min_self,ux h];simp
 ·rw[uy h];simp[h]
theorem zj:∀ {x:V},Nb x=true->eqV x x=true
 |.non,_=>rfl
 |.bl b,_=>by simp[eqV]
 |.int i,_=>by simp[eqV]
 |.str x,_=>by simp[eqV]
mutual
theorem zf:∀ d:Dt,eqD d d=true
 |.non=>rfl
 |.bl b=>by show eqV (.bl b) (.bl b)=true;exact zj rfl
 |.int i=>by show eqV (.int i) (.int i)=true;exact zj rfl
 |.str x=>by show eqV (.str x) (.str x)=true;exact zj rfl
 |.tup ds=>by unfold eqD;exact vX ds
 |.lst ds=>by unfold eqD;exact vX ds
theorem vX:∀ ds:List Dt,uw ds ds=true
 |[]=>rfl
 |a::as=>by unfold uw;rw[zf a,vX as];rfl
end
theorem Nu{X:Cx}{pins:List (Addr×Obj)}{zzs:St}{H:Hp}{s:Shared}{a:Addr}{xs ys:List V}(I:Inv X pins zzs H s)(h:SqT X.K H a xs)(h':SqL X.K H a ys):False:=by
 obtain⟨_,_,⟨o,e,c,_⟩,_⟩:=I.tuple h;obtain⟨_,_,⟨o',_,e',c',_⟩,_⟩:=I.list h';rw[e] at e';cases e';rw[c] at c';exact absurd c' (by decide)
mutual
theorem Den.inj{X:Cx}{pins:List (Addr×Obj)}{zzs:St}{H:Hp}{s:Shared}(I:Inv X pins zzs H s):∀ {d:Dt} {e:Dt} {x:V},Den X.K H x d->Den X.K H x e->d=e
 |.tup ds,_,_,.tup h hs,he=>by
  cases he with
  |tup h' hs'=>
   have e:=I.QC (SqT.of h) (SqT.of h');subst e;rw[aV.inj I hs hs']
  |lst h' hs'=>exact(Nu I (SqT.of h) h').elim
 |.lst ds,_,_,.lst h hs,he=>by
  cases he with
  |lst h' hs'=>
   have e:=I.HN h h';subst e;rw[aV.inj I hs hs']
  |tup h' hs'=>exact(Nu I (SqT.of h') h).elim
 |.non,_,_,.non,he=>by cases he;rfl
 |.bl _,_,_,.bl _,he=>by cases he;rfl
 |.int _,_,_,.int _,he=>by cases he;rfl
 |.str _,_,_,.str _,he=>by cases he;rfl
theorem aV.inj{X:Cx}{pins:List (Addr×Obj)}{zzs:St}{H:Hp}{s:Shared}(I:Inv X pins zzs H s):∀ {ds es:List Dt} {xs:List V},aV X.K H xs ds->aV X.K H xs es->ds=es
 |[],_,_,.nil,he=>by cases he;rfl
 |d::ds,_,_,.cons h t,he=>by
  cases he with
  |cons h' t'=>rw[Den.inj I h h',aV.inj I t t']
end
theorem aV.getD{K:ak}{H:Hp}{xs:List V}{ds:List Dt}{us:List Value}{j:Nat}(D:aV K H xs ds)(r:Vals xs us)(h:j<us.length):∃ x,RelV x us[j]/\Den K H x (ds.getD j .non)/\ds[j]?=some (ds.getD j .non):=by
 have hl:=r.length;have hx:xs[j]?=some xs[j]:=by simp[hl,h]
 obtain⟨u,hu,ru⟩:=r.get hx;obtain⟨d,hd,dd⟩:=D.get hx;have eu:us[j]=u:=by
  rw[eZ h] at hu;exact iJ hu
 have ed:ds.getD j .non=d:=by rw[fU,hd];rfl
 rw[eu,ed];exact⟨_,ru,dd,hd⟩
theorem Den.flat{K:ak}{H:Hp}{x:V}{d:Dt}{y:V}(h:Den K H x d)(e:jX d=some y):x=y/\Nb x=true:=by
 cases h with
 |non=>cases e;exact⟨rfl,rfl⟩
 |bl b=>cases e;exact⟨rfl,rfl⟩
 |int i=>cases e;exact⟨rfl,rfl⟩
 |str z=>cases e;exact⟨rfl,rfl⟩
 |tup _ _=>cases e
 |lst _ _=>cases e
theorem ur{d e:Dt}{x y:V}(h1:jX d=some x)(h2:jX e=some y):eqD d e=eqV x y:=by
 cases d<;>first
  |(cases h1;simp only[eqD,h2])
  |cases h1
theorem IV{d e:Dt}{x:V}(h1:jX d=some x)(h:shD d e=true):∃ y,jX e=some y:=by
 cases d<;>first
  |(cases h1;unfold shD at h;exact Ux.mp h)
  |cases h1
theorem zc{X:Cx}{pins:List (Addr×Obj)}{zzs:St}{H:Hp}{s:Shared}(I:Inv X pins zzs H s){d e:Dt}{x y:V}{u v:Value}{A:Around}(hu:A.units<cLine)(hx:Den X.K H x d)(hy:Den X.K H y e)(rx:RelV x u)(ry:RelV y v)(mx:Zn d e=true):EqAt A s u v (eqD d e):=by
 cases hx with
 |@tup a xs ds h hs=>
  cases rx;obtain⟨us,r,ht,_⟩:=I.tuple (SqT.of h);cases hy with
  |non=>cases ry;exact EqAt.tuple_none ht hu
  |bl b=>cases ry;exact EqAt.tuple_bool b ht hu
  |int i=>obtain⟨t,rfl⟩:=ry;exact EqAt.tuple_int i t ht hu
  |str z=>obtain⟨t,rfl⟩:=ry;exact EqAt.tuple_str z t ht hu
  |tup _ _=>cases mx
  |lst _ _=>cases mx
 |_=>cases mx
theorem Hs{X:Cx}{pins:List (Addr×Obj)}{zzs:St}{H:Hp}{s:Shared}(I:Inv X pins zzs H s):∀(n:Nat){d e:Dt}{x y:V}{u v:Value}{A:Around},uq d<=n->A.units+n<cLine->Den X.K H x d->Den X.K H y e->RelV x u->RelV y v->shD d e=true->EqAt A s u v (eqD d e):=by
 intro n
 induction n with
 |zero=>
  intro d e x y u v A hn hu hx hy rx ry sh;cases fd:jX d with
  |some x'=>
   obtain⟨y',fe⟩:=IV fd sh;obtain⟨rfl,f1⟩:=hx.flat fd;obtain⟨rfl,f2⟩:=hy.flat fe;rw[ur fd fe];exact Rg rx ry f1 f2
  |none=>
   cases d with
   |tup ds=>unfold uq at hn;exact absurd hn (by lia)
   |lst ds=>unfold uq at hn;exact absurd hn (by lia)
   |_=>cases fd
 |succ n ih=>
  intro d e x y u v A hn hu hx hy rx ry sh;cases fd:jX d with
  |some x'=>
   obtain⟨y',fe⟩:=IV fd sh;obtain⟨rfl,f1⟩:=hx.flat fd;obtain⟨rfl,f2⟩:=hy.flat fe;rw[ur fd fe];exact Rg rx ry f1 f2
  |none=>
   cases d with
   |tup ds=>
    cases e with
    |tup es=>
     cases hx with
     |@tup a xs _ h hs=>
      cases hy with
      |@tup b ys _ h' hs'=>
       cases rx;cases ry;by_cases hab:a=b
       ·subst hab;have e:=Den.inj I (.tup h hs) (.tup h' hs');rw[e,zf];exact EqAt.same _
       ·obtain⟨us,r,ht,_⟩:=I.tuple (SqT.of h);obtain⟨ws,r',ht',_⟩:=I.tuple (SqT.of h');have sh':Aj ds es=true:=by unfold shD at sh;exact sh
        rw[show eqD (.tup ds) (.tup es)=uw ds es from by unfold eqD;rfl];rw[<- Hu];have l1:us.toArray.size=ds.length:=by rw[cI,<- r.length,hs.length]
        have l2:ws.toArray.size=es.length:=by rw[cI,<- r'.length,hs'.length]
        rw[<- l1,<- l2];refine Gv hab (RcAt.tuples ht ht' (by lia) fun j h1 h2=>?_);obtain⟨p,rp,dp,ep⟩:=hs.getD r (j:=j) (by simpa using h1);obtain⟨q,rq,dq,eq⟩:=hs'.getD r' (j:=j) (by simpa using h2);unfold uq at hn;have hd:=rQ (fQ ep);exact(uU sh' ep eq).elim (fun z=>ih (A:=A.in1) (by lia) (by show A.units+1+n<cLine;lia) dp dq (by simpa using rp) (by simpa using rq) z) (fun z=>zc (A:=A.in1) I (by show A.units+1<cLine;lia) dp dq (by simpa using rp) (by simpa using rq) z)
    |_=>unfold shD at sh;cases sh
   |lst ds=>
    cases e with
    |lst es=>
     cases hx with
     |@lst a xs _ h hs=>
      cases hy with
      |@lst b ys _ h' hs'=>
       cases rx;cases ry;by_cases hab:a=b
       ·subst hab;have e:=Den.inj I (.lst h hs) (.lst h' hs');rw[e,zf];exact EqAt.same _
       ·obtain⟨us,r,ht,_⟩:=I.list h;obtain⟨ws,r',ht',_⟩:=I.list h';have sh':Aj ds es=true:=by unfold shD at sh;exact sh
        rw[show eqD (.lst ds) (.lst es)=uw ds es from by unfold eqD;rfl];have l1:us.toArray.size=ds.length:=by rw[cI,<- r.length,hs.length]
        have l2:ws.toArray.size=es.length:=by rw[cI,<- r'.length,hs'.length]
        by_cases hl:ds.length=es.length
        ·rw[<- ux hl,<- l1];refine Gv hab (RcAt.lists ht.isList ht'.isList (by rw[l1,l2];exact hl) (by lia) fun j h1 h2=>?_);obtain⟨p,rp,dp,ep⟩:=hs.getD r (j:=j) (by simpa using h1);obtain⟨q,rq,dq,eq⟩:=hs'.getD r' (j:=j) (by simpa using h2);unfold uq at hn;have hd:=rQ (fQ ep);exact(uU sh' ep eq).elim (fun z=>ih (A:=A.in1) (by lia) (by show A.units+1+n<cLine;lia) dp dq (by simpa using rp) (by simpa using rq) z) (fun z=>zc (A:=A.in1) I (by show A.units+1<cLine;lia) dp dq (by simpa using rp) (by simpa using rq) z)
        ·rw[uy hl];exact Gv hab (RcAt.lists_lengths ht.isList ht'.isList (by rw[l1,l2];simpa using hl) (by lia))
    |_=>unfold shD at sh;cases sh
   |_=>cases fd
section
variable{X:Cx}{pins:List (Addr×Obj)}{zzs:St}{H:Hp}{s:Shared}
def a0q:Dt->Option (List Dt)
 |.tup ds=>some ds
 |.lst ds=>some ds
 |_=>none
theorem rW{n:Nat}{A:Around}(I:Inv X pins zzs H s){xs ys:List V}{ds es:List Dt}{us ws:List Value}(hn:wY ds<=n)(hu:A.units+(n+1)<cLine)(hs:aV X.K H xs ds)(hs':aV X.K H ys es)(r:Vals xs us)(r':Vals ys ws)
  (sh:Aj ds es=true) (j:Nat) (h1:j<us.toArray.size) (h2:j<ws.toArray.size):EqAt A.in1 s us.toArray[j] ws.toArray[j] (atD ds es j):=by
 obtain⟨p,rp,dp,ep⟩:=hs.getD r (j:=j) (by simpa using h1);obtain⟨q,rq,dq,eq⟩:=hs'.getD r' (j:=j) (by simpa using h2);have hd:=rQ (fQ ep);exact(uU sh ep eq).elim (fun z=>Hs I n (A:=A.in1) (by lia) (by show A.units+1+n<cLine;lia) dp dq (by simpa using rp) (by simpa using rq) z) (fun z=>zc (A:=A.in1) I (by show A.units+1<cLine;lia) dp dq (by simpa using rp) (by simpa using rq) z)
theorem Ip{A:Around}(I:Inv X pins zzs H s){d e:Dt}{a b:Addr}(hq:(a0q d).isSome=true)(hu:A.units+60<cLine)(hn:uq d<=50)(hx:Den X.K H (.ref a) d)(hy:Den X.K H (.ref b) e)(sh:shD d e=true):RcAt A s (.ref a) (.ref b) (eqD d e)/\RcNeAt A s (.ref a) (.ref b) (!eqD d e):=by
 cases d with
 |tup ds=>
  cases e with
  |tup es=>
   cases hx with
   |tup h hs=>
    cases hy with
    |tup h' hs'=>
     obtain⟨us,r,ht,_⟩:=I.tuple (SqT.of h);obtain⟨ws,r',ht',_⟩:=I.tuple (SqT.of h');have sh':Aj ds es=true:=by unfold shD at sh;exact sh
     have hn':wY ds<=49:=by unfold uq at hn;lia
     rw[show eqD (.tup ds) (.tup es)=uw ds es from by unfold eqD;rfl,<- Hu];have l1:us.toArray.size=ds.length:=by rw[cI,<- r.length,hs.length]
     have l2:ws.toArray.size=es.length:=by rw[cI,<- r'.length,hs'.length]
     rw[<- l1,<- l2];exact⟨RcAt.tuples ht ht' (by lia) (rW I hn' (by lia) hs hs' r r' sh'),RcNeAt.tuples ht ht' (by lia) (rW I hn' (by lia) hs hs' r r' sh')⟩
  |_=>unfold shD at sh;cases sh
 |lst ds=>
  cases e with
  |lst es=>
   cases hx with
   |lst h hs=>
    cases hy with
    |lst h' hs'=>
     obtain⟨us,r,ht,_⟩:=I.list h;obtain⟨ws,r',ht',_⟩:=I.list h';have sh':Aj ds es=true:=by unfold shD at sh;exact sh
     have hn':wY ds<=49:=by unfold uq at hn;lia
     rw[show eqD (.lst ds) (.lst es)=uw ds es from by unfold eqD;rfl];have l1:us.toArray.size=ds.length:=by rw[cI,<- r.length,hs.length]
     have l2:ws.toArray.size=es.length:=by rw[cI,<- r'.length,hs'.length]
     by_cases hl:ds.length=es.length
     ·rw[<- ux hl,<- l1];exact⟨RcAt.lists ht.isList ht'.isList (by rw[l1,l2];exact hl) (by lia) (rW I hn' (by lia) hs hs' r r' sh'),RcNeAt.lists ht.isList ht'.isList (by rw[l1,l2];exact hl) (by lia) (rW I hn' (by lia) hs hs' r r' sh')⟩
     ·rw[uy hl];exact⟨RcAt.lists_lengths ht.isList ht'.isList (by rw[l1,l2];simpa using hl) (by lia),RcNeAt.lists_lengths ht.isList ht'.isList (by rw[l1,l2];simpa using hl) (by lia)⟩
  |_=>unfold shD at sh;cases sh
 |_=>cases hq
def Xl(K:ak)(neg:Bool):R2:=fun x y H Q=>∃ d e,(a0q d).isSome=true/\Den K H x d/\Den K H y e/\shD d e=true/\uq d<=50/\Q (.bl (if neg then !eqD d e else eqD d e)) H
theorem Den.TF{K:ak}{x:V}{d e:Dt}{y:V}(hq:(a0q d).isSome=true)(hx:Den K H x d)(hy:Den K H y e)(sh:shD d e=true):∃ a b,x=.ref a/\y=.ref b:=by
 cases hx with
 |@tup a _ _ _ _=>
  cases hy with
  |@tup b _ _ _ _=>exact⟨a,b,rfl,rfl⟩
  |_=>unfold shD at sh;cases sh
 |@lst a _ _ _ _=>
  cases hy with
  |@lst b _ _ _ _=>exact⟨a,b,rfl,rfl⟩
  |_=>unfold shD at sh;cases sh
 |_=>cases hq
theorem ZF(hu:X.A.units+60<cLine):OpR X (compareOp .Eq) (Xl X.K false):=by
 intro pins s zzs H x y v u Q I rx ry h;obtain⟨d,e,hq,hx,hy,sh,hn,q⟩:=h;obtain⟨a,b,rfl,rfl⟩:=Den.TF hq hx hy sh;cases rx;cases ry;exact(Ip I hq hu hn hx hy sh).1 _ _ _ _ ⟨.bl _,H,I,rfl,q⟩
theorem ZM(hu:X.A.units+60<cLine):OpR X (compareOp .NotEq) (Xl X.K true):=by
 intro pins s zzs H x y v u Q I rx ry h;obtain⟨d,e,hq,hx,hy,sh,hn,q⟩:=h;obtain⟨a,b,rfl,rfl⟩:=Den.TF hq hx hy sh;cases rx;cases ry;exact(Ip I hq hu hn hx hy sh).2 _ _ _ _ ⟨.bl _,H,I,rfl,q⟩
def Qs(K:ak)(neg:Bool):R2:=fun x y H Q=>∃ d es p,y=.ref p/\Den K H x d/\(Den K H y (.lst es)\/Den K H y (.tup es))/\(∀ e∈es,shD e d=true/\uq e<=50)/\Q (.bl (if neg then !(es.any fun e=>eqD e d) else es.any fun e=>eqD e d)) H
theorem VB{K:ak}{d:Dt}{P:Value->Bool}:∀ {xs:List V} {es:List Dt} {us:List Value},aV K H xs es->Vals xs us->(∀(j:Nat)(u:Value)(e:Dt),us[j]?=some u->es[j]?=some e->P u=eqD e d)->us.any P=es.any fun e=>eqD e d:=by
 intro xs es us D r
 induction r generalizing es with
 |nil=>intro h;cases D;rfl
 |cons _ r ih=>
  intro h;cases D with
  |cons _ t=>rw[wQ,wQ,h 0 _ _ rfl rfl,ih t fun j u e h1 h2=>h (j+1) u e (by simpa using h1) (by simpa using h2)]
open Classical in
theorem Ei(I:Inv X pins zzs H s){x:V}{v:Value}{d:Dt}{ys:List V}{es:List Dt}{us:List Value}{A:Around}(hu:A.units+60<cLine)(rx:RelV x v)(hx:Den X.K H x d)(hs:aV X.K H ys es)(r:Vals ys us)(hsh:∀ e∈es,shD e d=true/\uq e<=50) :
  ∃ P:Value->Bool,(∀ u∈us,EqAt A s u v (P u))/\us.any P=es.any fun e=>eqD e d:=by
 have key:∀(j:Nat)(u:Value)(e:Dt),us[j]?=some u->es[j]?=some e->EqAt A s u v (eqD e d)/\∃ y,RelV y u/\Den X.K H y e:=fun j u e h1 h2=>by
  obtain⟨y,h3,dy⟩:=hs.get' h2;obtain⟨u',h4,ry⟩:=r.get h3;rw[h1] at h4;cases h4;obtain⟨a1,a2⟩:=hsh e (fQ h2);exact⟨Hs I 50 a2 (by lia) dy hx ry rx a1,y,ry,dy⟩
 have one:∀(j:Nat)(u:Value)(e:Dt),us[j]?=some u->es[j]?=some e->decide (∃ y e,RelV y u/\Den X.K H y e/\eqD e d=true)=eqD e d:=fun j u e h1 h2=>by
  obtain⟨_,y,ry,dy⟩:=key j u e h1 h2;cases q:eqD e d with
  |true=>exact cR ⟨y,_,ry,dy,q⟩
  |false=>
   refine dB fun zzy=>?_
   obtain⟨y',e',ry',dy',q'⟩:=zzy;have ey:=ry.inj ry';subst ey;rw[Den.inj I dy' dy,q] at q';cases q'
 refine⟨fun u=>decide (∃ y e,RelV y u/\Den X.K H y e/\eqD e d=true),fun u hu'=>?_,VB hs r one⟩;obtain⟨j,hj⟩:=Fv hu';have hl:j<es.length:=by rw[<- hs.length,r.length];exact(mZ.mp hj).1
 have e1:=(key j u es[j] hj (by simp[hl])).1;show EqAt A s u v (decide _);rw[one j u es[j] hj (by simp[hl])];exact e1
theorem ZK(hu:X.A.units+61<cLine):OpR X (compareOp .In) (Qs X.K false):=by
 intro pins s zzs H x y v u Q I rx ry h;obtain⟨d,es,p,rfl,hx,hy,hsh,q⟩:=h;cases ry;rcases hy with hy|hy
 ·cases hy with
  |lst h' hs=>
   obtain⟨us,r,ht,_⟩:=I.list h';obtain⟨P,hP,e⟩:=Ei (A:=X.A.in1) I (by show X.A.units+1+60<cLine;omega) rx hx hs r hsh;exact in_listAt P ht.isList (fun z hz=>hP z (by simpa using hz)) ⟨.bl _,H,I,by rw[<- e];simp<;>rfl,q⟩
 ·cases hy with
  |tup h' hs=>
   obtain⟨us,r,ht,_⟩:=I.tuple (SqT.of h');obtain⟨P,hP,e⟩:=Ei (A:=X.A.in1) I (by show X.A.units+1+60<cLine;omega) rx hx hs r hsh;exact in_tupleAt P ht (fun z hz=>hP z (by simpa using hz)) ⟨.bl _,H,I,by rw[<- e];simp<;>rfl,q⟩
theorem Qg(hu:X.A.units+61<cLine):OpR X (compareOp .NotIn) (Qs X.K true):=by
 intro pins s zzs H x y v u Q I rx ry h;obtain⟨d,es,p,rfl,hx,hy,hsh,q⟩:=h;cases ry;rcases hy with hy|hy
 ·cases hy with
  |lst h' hs=>
   obtain⟨us,r,ht,_⟩:=I.list h';obtain⟨P,hP,e⟩:=Ei (A:=X.A.in1) I (by show X.A.units+1+60<cLine;omega) rx hx hs r hsh;exact notIn_listAt P ht.isList (fun z hz=>hP z (by simpa using hz)) ⟨.bl _,H,I,by rw[<- e];simp<;>rfl,q⟩
 ·cases hy with
  |tup h' hs=>
   obtain⟨us,r,ht,_⟩:=I.tuple (SqT.of h');obtain⟨P,hP,e⟩:=Ei (A:=X.A.in1) I (by show X.A.units+1+60<cLine;omega) rx hx hs r hsh;exact notIn_tupleAt P ht (fun z hz=>hP z (by simpa using hz)) ⟨.bl _,H,I,by rw[<- e];simp<;>rfl,q⟩
end
structure Df(P:Program)(w:World)(K:ak)(mg:Str->Option Value)(base:Heap)(k:Nat)(x:Str)(ps:List Str)(sp:Sp):Prop where
 ex:∃ f fd,cF P w K mg base (CXE P w) k f fd ps sp/\mg x=some (.ref f)/\PySem.W.keepIn K (.ref f)=true/\Binds K fd ps []
theorem aR{X:Cx}:Passes (CXE X.prog X.w) X E0:=by
 intro pins zzs H s e s' I h;obtain⟨ea,C,H',_,_,_,_,_,_,z⟩:=h;exact z.elim
section
variable{P:Program}{w:World}{K:ak}{mg:Str->Option Value}{base:Heap}
theorem Fun.okE{x qual:Str}{st:Stmt}{f:Addr}{fd:FuncData}{N ps:List Str}{k:Nat}{sp:Sp}(F:Fun K x qual st f fd)(S:aY N ps (aK st))(len:∀ vs H Q E,sp vs H Q E->vs.length=ps.length)
  (hbody:∀(cdv:Value)(A:Around)(outer:List Env)(s:Shared)(H:Hp)(vs:List V)(Q:VK)(E:XK),gC k (A.deeper (envOfC qual (aK st) s.heap.objs.size f cdv))->sp vs H Q E ->
   ∃ t,PSs (qd (CXE P w) P w K mg base N qual (aK st) f cdv A outer s H E) (gj st) t/\t { nx:=fun _ H'=>Q .non H',rt:=Q } (start N vs) H):cF P w K mg base (CXE P w) (k+1) f fd ps sp:=by
 obtain⟨oc,od,kV,doc,pm,an,cdv,ct,osl,rfl,lk,hcd⟩:=F.ex;exact a0P lk hcd S len fun A outer s H vs Q E hr hsp=>hbody cdv A outer s H vs Q E hr hsp
theorem Fun.ok0{x qual:Str}{st:Stmt}{f:Addr}{fd:FuncData}{N ps:List Str}{k:Nat}{sp:Sp}(F:Fun K x qual st f fd)(S:aY N ps (aK st))(len:∀ vs H Q E,sp vs H Q E->vs.length=ps.length)
  (hbody:∀(cdv:Value)(A:Around)(outer:List Env)(s:Shared)(H:Hp)(vs:List V)(Q:VK)(E:XK),gC k (A.deeper (envOfC qual (aK st) s.heap.objs.size f cdv))->sp vs H Q E ->
   ∃ t,PSs (qd (CXE P w) P w K mg base N qual (aK st) f cdv A outer s H E).nox (gj st) t/\t { nx:=fun _ H'=>Q .non H',rt:=Q } (start N vs) H):cF P w K mg base (CXE P w) (k+1) f fd ps sp:=
 F.okE S len fun cdv A outer s H vs Q E hr hsp=>let ⟨t,h,q⟩:=hbody cdv A outer s H vs Q E hr hsp;⟨t,h.nox,q⟩
end
theorem PS.nox{X:Cx}{st:Stmt}{t:TS}(h:PS X.nox st t):PS X st t:=fun pins s zzs H D I hw=>
 jw (h pins s zzs H D (I.wish _) hw) (fun _ _ q=>SP.nF q) fun _ _ z=>False.elim z
section
variable{X:Cx}{k j:Nat}{ps:List Str}{sp:Sp}{E:XK}{x:Str}{p pos:Pos}{e:Expr}{es:List Expr}{t:TA}
theorem ZV(D:Df X.prog X.w X.K X.mg X.base k x ps sp)(hr:gC j X.A)(hg:Gl X x)(hx:Passes (CXE X.prog X.w) X E)(ha:PA X (e::es) t)(hk:k<=j:=by decide)
  (hdb:(x==("__debug__" : Str))=false:=by decide) (he:starEach (e::es) X.env=(false,eval e X.env)::starEach es X.env:=by rfl) (hpl:(backTo pos (starEach es X.env)).any (·.1)=false:=by rfl) :
  PE X (.Call (.Name x p) (e::es) [] pos) (O9 sp [] E t):=by
 obtain⟨f,fd,F,hm,kp,hb⟩:=D.ex;exact WR F (hr.mono hk) hg hm kp hb .nil hx ha hdb he hpl
end
section
variable{X:Cx}{x:Str}{pos:Pos}
theorem WX{i:Int}(h:∃ t,X.mg x=some (.int i t))(hg:Gl X x) (hd:(x==("__debug__" : Str))=false:=by decide):PE X (.Name x pos) (tC (.int i)):=by
 obtain⟨t,h⟩:=h;exact Ny hg h ⟨t,rfl⟩ hd
theorem WY{z:Str}(h:∃ t,X.mg x=some (.str z t))(hg:Gl X x) (hd:(x==("__debug__" : Str))=false:=by decide):PE X (.Name x pos) (tC (.str z)):=by
 obtain⟨t,h⟩:=h;exact Ny hg h ⟨t,rfl⟩ hd
end
section
variable{X:Cx}
def Tj:R2:=fun x y H Q=>match x,y with
 |.int i,.int j=>Q (.int (i+j)) H
 |.str i,.str j=>i.length+j.length<=sizeLine/\Q (.str (i++j)) H
 |.ref l,.ref b=>∃ xs zs,H l=some (.lst xs)/\H b=some (.lst zs)/\xs.length+zs.length<=sizeLine/\∀ p,H p=none->Q (.ref p) (upd H p (.lst (xs++zs)))
 |_,_=>False
theorem gJ:OpR X (binaryOp .Add) Tj:=by
 intro pins s zzs H x y v u Q I rx ry h;unfold Tj at h;split at h
 ·exact ZC pins s zzs H _ _ v u Q I rx ry ⟨_,_,rfl,rfl,h⟩
 ·exact K4 pins s zzs H _ _ v u Q I rx ry ⟨_,_,rfl,rfl,h.1,h.2⟩
 ·obtain⟨xs,zs,h1,h2,h3,h4⟩:=h;exact ZD pins s zzs H _ _ v u Q I rx ry ⟨_,_,xs,zs,rfl,rfl,h1,h2,h3,h4⟩
 ·exact h.elim
def Yh:R2:=fun x y H Q=>match x,y with
 |.int i,.int j=>Vv i j/\Q (.int (i*j)) H
 |.str z,.int n=>z.length<=1000 /\ -1000<=n/\n<=1000/\Q (.str (BR z n)) H
 |.ref l,.int k=>∃ xs,H l=some (.lst xs) /\ -(2^63)<=k/\k<2^63/\xs.length*k.toNat<=sizeLine/\∀ p,H p=none->Q (.ref p) (upd H p (.lst (List.replicate k.toNat xs).flatten))
 |_,_=>False
theorem mL:OpR X (binaryOp .Mult) Yh:=by
 intro pins s zzs H x y v u Q I rx ry h;unfold Yh at h;split at h
 ·exact ZL pins s zzs H _ _ v u Q I rx ry ⟨_,_,rfl,rfl,h.1,h.2⟩
 ·exact K5 pins s zzs H _ _ v u Q I rx ry ⟨_,_,rfl,rfl,h.1,h.2.1,h.2.2.1,h.2.2.2⟩
 ·obtain⟨xs,h1,h2,h3,h4,h5⟩:=h;exact ZP pins s zzs H _ _ v u Q I rx ry ⟨_,_,xs,rfl,rfl,h1,h2,h3,h4,h5⟩
 ·exact h.elim
end
theorem DX{J:It}{n:Nat}{item:Nat->V}{tc:TT}{te:TE}{zzs:St}{fin:List V->Hp->Prop}{H:Hp}(R:Nat->List V->Hp->Prop)(hn:n<=sizeLine)
  (hgo:∀ i ys H,i<n->R i ys H->J.go i H) (hy:∀ i ys H v H',i<n->R i ys H->J.yld i H v H'->v=item i/\H'=H) (hstop:∀ ys H,R n ys H->J.stop n H)
  (hl:∀ i ys H,i<=n->R i ys H->ys.length<=i) (h0:R 0 [] H)
  (hs:∀ i ys H,i<n->R i ys H->∀ G:List V->Hp->Prop,(∀ ys' H',R (i+1) ys' H'->G ys' H')->tc (some (item i)::zzs) H fun b H2=>if b=true then te (some (item i)::zzs) H2 fun y H3=>G (ys++[y]) H3 else G ys H2)
  (hd:∀ ys H,R n ys H->fin ys H):∃ W:Nat->Nat->List V->Hp->Prop,(∃ m,W 0 m [] H)/\pO J tc te zzs fin W:=by
 refine⟨fun i m ys H=>m=n-i/\i<=n/\R i ys H,⟨n,by lia,mG _,h0⟩,?_⟩;rintro i m ys H ⟨rfl,hi,r⟩;refine⟨dN (hl i ys H hi r) (dN hi hn),?_⟩;by_cases hlt:i<n
 ·refine .inr ⟨hgo i ys H hlt r,fun v H' y=>?_⟩;obtain⟨rfl,rfl⟩:=hy i ys H v H' hlt r y;exact hs i ys _ hlt r (fun ys' H2=>∃ m',m'<n-i/\(m'=n-(i+1)/\i+1<=n/\R (i+1) ys' H2)) fun ys' H2 r'=>⟨n-(i+1),by lia,rfl,hlt,r'⟩
 ·have e:i=n:=by lia
  subst e;exact .inl ⟨hstop ys H r,hd ys H r⟩
theorem Ju{lo:Int}{n:Nat}{tc:TT}{te:TE}{zzs:St}{fin:List V->Hp->Prop}{H:Hp}(R:Nat->List V->Hp->Prop)(hn:n<=sizeLine)
  (hl:∀ i ys H,i<=n->R i ys H->ys.length<=i) (h0:R 0 [] H)
  (hs:∀ i ys H,i<n->R i ys H->∀ G:List V->Hp->Prop,(∀ ys' H',R (i+1) ys' H'->G ys' H')->tc (some (.int (lo+i))::zzs) H fun b H2=>if b=true then te (some (.int (lo+i))::zzs) H2 fun y H3=>G (ys++[y]) H3 else G ys H2)
  (hd:∀ ys H,R n ys H->fin ys H):∃ W:Nat->Nat->List V->Hp->Prop,(∃ m,W 0 m [] H)/\pO (Itr lo n) tc te zzs fin W:=
 DX (n:=n) (item:=fun i=>.int (lo+i)) R hn (fun i ys H hi r=>hi) (fun i ys H v H' hi r y=>⟨y.2,y.1⟩) (fun ys H r=>bB _) hl h0 hs hd
theorem Same.put{H:Hp}{p:Addr}{o:HO}(h:H p=none):Same H (upd H p o):=fun b u e=>by
 rw[aN (aQ e h)];exact e
theorem Same.and{H H':Hp}{p:Addr}{o:HO}(s:Same H H')(h:H' p=none):Same H (L2.upd H' p o):=s.trans (Same.put h)
theorem small{n:Nat}(h:n<=10000):n<=sizeLine:=dN h (by rw[rN];decide)
theorem Mx{ns:List Int}{i:Int}(h0:0<=i)(h1:i<ns.length):∃ v,atI (ns.map V.int) i=some (V.int v):=by
 obtain⟨k,rfl⟩:=Lf h0;have hk:k<ns.length:=by lia
 exact⟨ns[k],gG (by simp[hk])⟩
theorem QL{α:Type}{xs:List α}{i:Int}(h0:0<=i)(h1:i<xs.length):∃ v,v∈xs/\atI xs i=some v:=by
 obtain⟨k,rfl⟩:=Lf h0;have hk:k<xs.length:=by lia
 exact⟨xs[k],pZ hk,gG (by simp[hk])⟩
theorem jQ{A:Around}{k:Nat}(hr:gC k A):A.units+60<cLine:=M7 (Vn (by decide:60<=64) _) hr.units
theorem Hy{A:Around}{k:Nat}(hr:gC k A):A.units+61<cLine:=M7 (Vn (by decide:61<=64) _) hr.units
def notStar:Expr->Bool
 |.Starred _ _=>false
 |_=>true
theorem mV{env:Env}{e:Expr}{es:List Expr}(h:notStar e=true):starEach (e::es) env=(false,eval e env)::starEach es env:=by
 cases e<;>first|rfl|cases h
theorem xu{env:Env}{pos:Pos}:∀ {es:List Expr},es.all notStar=true->(backTo pos (starEach es env)).any (·.1)=false
 |[],_=>rfl
 |e::es,h=>by
  rw[wO,kj] at h;rw[mV h.1];show(false||(backTo pos (starEach es env)).any (·.1))=false;rw[xu h.2];rfl
section
variable{X:Cx}{k j:Nat}{ps:List Str}{sp:Sp}{E:XK}{x:Str}{p pos:Pos}{e:Expr}{es:List Expr}{te:TE}{t:TA}{id T:String}{r:List V->Hp->VK->Prop}{C f:Addr}{fd:FuncData}
theorem a0j(D:Df X.prog X.w X.K X.mg X.base k x ps sp)(hr:gC j X.A)(hg:Gl X x)(hx:Passes (CXE X.prog X.w) X E)(ha:PA X (e::es) t)(hk:k<=j:=by decide)(h1:notStar e=true:=by rfl)(h2:es.all notStar=true:=by rfl)
  (hdb:(x==("__debug__" : Str))=false:=by decide):PE X (.Call (.Name x p) (e::es) [] pos) (O9 sp [] E t):=ZV D hr hg hx ha hk hdb (mV h1) (xu h2)
theorem Ti(hc:dX X (.builtin id) r)(hg:Gl X x)(hm:X.mg x=none)(hv:bootBuiltins x=some (.builtin id))(ha:PA X (e::es) t)(h1:notStar e=true:=by rfl)(h2:es.all notStar=true:=by rfl) (hn:x ≠ "__name__":=by decide)
  (hdb:(x==("__debug__" : Str))=false:=by decide):PE X (.Call (.Name x p) (e::es) [] pos) (tCB r t):=SN hc hg hm hv ha hn hdb (mV h1) (xu h2)
theorem Qq(hc:dX X (.type T) r)(hg:Gl X x)(hm:X.mg x=none)(hv:bootBuiltins x=some (.type T))(ha:PA X (e::es) t)(h1:notStar e=true:=by rfl)(h2:es.all notStar=true:=by rfl) (hn:x ≠ "__name__":=by decide)
  (hdb:(x==("__debug__" : Str))=false:=by decide):PE X (.Call (.Name x p) (e::es) [] pos) (tCB r t):=Qj hc hg hm hv ha hn hdb (mV h1) (xu h2)
end
structure Md(P:Program)(w:World)(K:ak)(mg:Str->Option Value)(base:Heap)(k:Nat)(x:Str)(ps:List Str)(C:Addr)(sp:Sp):Prop where
 ex:∃ f fd,Mk K C f/\cF P w K mg base (CXE P w) k f fd ps sp/\mg x=some (.ref C)/\Binds K fd ps []
section
variable{X:Cx}{k j:Nat}{ps:List Str}{sp:Sp}{E:XK}{x:Str}{p pos:Pos}{e:Expr}{es:List Expr}{te:TE}{t:TA}{C:Addr}
theorem Xk(D:Md X.prog X.w X.K X.mg X.base k x ps C sp)(hr:gC j X.A)(hg:Gl X x)(hx:Passes (CXE X.prog X.w) X E)(ha:PA X (e::es) t)(hk:k+1<=j:=by decide)(h1:notStar e=true:=by rfl)(h2:es.all notStar=true:=by rfl)
  (hdb:(x==("__debug__" : Str))=false:=by decide):PE X (.Call (.Name x p) (e::es) [] pos) (Ug C sp [] E t):=by
 obtain⟨f,fd,M,F,hm,hb⟩:=D.ex;exact X3 M F (hr.mono hk) hg hm hb .nil hx ha hdb (mV h1) (xu h2)
end
structure RE(X:Cx)(e:Expr)(t:TE):Prop where ok:PE X e t
structure RT(X:Cx)(e:Expr)(t:TT):Prop where ok:PT X e t
structure RB(X:Cx)(e:Expr)(t:TT):Prop where ok:PW X e t
structure RA(X:Cx)(es:List Expr)(t:TA):Prop where ok:PA X es t
structure RS(X:Cx)(st:Stmt)(t:TS):Prop where ok:PS X st t
structure RSs(X:Cx)(st:List Stmt)(t:TS):Prop where ok:PSs X st t
structure RI(X:Cx)(tg iter:Expr)(t:TI):Prop where ok:PI X tg iter t
structure RG(X:Cx)(tg:Expr)(t:TG):Prop where ok:PG X tg t
structure RGs(X:Cx)(ts:List Expr)(t:TGs):Prop where ok:PGs X ts t
structure RIf(X:Cx)(ifs:List Expr)(t:TT):Prop where ok:Gy X ifs t
structure RH(X:Cx)(hs:List ExceptHandler)(th:Addr->TS):Prop where ok:PH X hs th
def yt:Expr->Bool
 |.ListComp _ _ _ _=>false
 |.SetComp _ _ _ _=>false
 |.DictComp _ _ _ _ _=>false
 |_=>true
theorem Ua{e:Expr}{t:Option Expr}{n:Nat}{env:Env}(h:yt e=true):swapsWith e t n env=pure false:=by
 cases e<;>first|rfl|cases h
def plainT:Expr->Bool
 |.Call _ _ _ _=>true
 |.Name _ _=>true
 |.Constant _ _ _=>true
 |.Attribute _ _ _=>true
 |.Subscript _ _ _=>true
 |_=>false
theorem a1n{e:Expr}{env:Env}(h:plainT e=true):∀ whole,isTrue e env whole=(do let v <- whole;standAt e.pos;holding [v] (truthy v)):=by
 intro whole;cases e<;>first|rfl|cases h
def Nr:Expr->Bool
 |.Name _ _=>true
 |.Constant _ _ _=>true
 |.BinOp _ _ _ _=>true
 |.UnaryOp _ _ _=>true
 |.Call _ _ _ _=>true
 |.Subscript _ _ _=>true
 |.Attribute _ _ _=>true
 |_=>false
theorem a0Y{b:Expr}(h:Nr b=true):Mu b:=by
 intro o i;cases b<;>first|rfl|cases h
section
variable{X:Cx}{a b c e o:Expr}{es rest:List Expr}{ta tb tc te to:TE}{t:TA}{tA tB':TT}{pos p:Pos}{i:Nat}{x:Str}
theorem rv(i:Nat)(hN:X.N[i]?=some x:=by rfl)(hv:Vis X.env.scope x:=by first|exact Or.inl rfl|exact Or.inr (Or.inl rfl)|exact Or.inr (Or.inr rfl)) (hd:(x==("__debug__" : Str))=false:=by decide)
  (hcd:(x==("__classdict__" : Str))=false:=by decide):RE X (.Name x pos) (a1P i):=⟨a06 hN hv hd hcd⟩
theorem aM {i j pos}:RE X (.Constant (.int i) j pos) (tC (.int i)):=⟨ZX⟩
theorem pC {b j pos}:RE X (.Constant (.bool b) j pos) (tC (.bl b)):=⟨a1g⟩
theorem CT {j pos}:RE X (.Constant .none j pos) (tC .non):=⟨a01⟩
theorem gM {z j pos}:RE X (.Constant (.str z) j pos) (tC (.str z)):=⟨a04⟩
theorem Ka{i:Int}(h:∃ t,X.mg x=some (.int i t))(hg:Gl X x) (hd:(x==("__debug__" : Str))=false:=by decide):RE X (.Name x pos) (tC (.int i)):=⟨WX h hg hd⟩
theorem Es{z:Str}(h:∃ t,X.mg x=some (.str z t))(hg:Gl X x) (hd:(x==("__debug__" : Str))=false:=by decide):RE X (.Name x pos) (tC (.str z)):=⟨WY h hg hd⟩
theorem gW{op:Operator}{r:R2}(ho:OpR X (binaryOp op) r)(ha:RE X a ta)(hb:RE X b tb):RE X (.BinOp a op b pos) (tOp r ta tb):=⟨a1j ho ha.ok hb.ok⟩
theorem Il{op:CmpOp}{r:R2}(ho:OpR X (compareOp op) r)(ha:RE X a ta)(hb:RE X b tb)(hm:behindInMarks op b=false):RE X (.Compare a [op] [b] pos) (tOp r ta tb):=⟨WT ho ha.ok hb.ok hm⟩
theorem bJ{op:CmpOp}{r:R2}(ho:OpR X (compareOp op) r)(ha:RE X a ta)(hb:RE X b tb)(hm:behindInMarks op b=false):RT X (.Compare a [op] [b] pos) (Oa (tOp r ta tb)):=⟨Xi ho ha.ok hb.ok hm⟩
theorem yu{op op':CmpOp}{r r':R2}(ho:OpR X (compareOp op) r)(ho':OpR X (compareOp op') r')(ha:RE X a ta)(hb:RE X b tb)(hc:RE X c tc)
  (hm:lastMarks [op,op'] [b,c]=false:=by with_unfolding_all rfl):RE X (.Compare a [op,op'] [b,c] pos) (Fi r r' ta tb tc):=⟨SQ ho ho' ha.ok hb.ok hc.ok hm⟩
theorem TV{op op':CmpOp}{r r':R2}(ho:OpR X (compareOp op) r)(ho':OpR X (compareOp op') r')(ha:RE X a ta)(hb:RE X b tb)(hc:RE X c tc)
  (hm:lastMarks [op,op'] [b,c]=false:=by with_unfolding_all rfl):RT X (.Compare a [op,op'] [b,c] pos) (Oa (Fi r r' ta tb tc)):=⟨Tf ho ho' ha.ok hb.ok hc.ok hm⟩
theorem iR(h:RE X e te)(he:plainT e=true:=by rfl):RT X e (L2.tB te):=⟨a0i h.ok (a1n he)⟩
theorem pD(ha:RT X a tA):RB X (.BoolOp .And [a] pos) tA:=⟨pw_and1 ha.ok⟩
theorem Et(ha:RT X a tA):RB X (.BoolOp .Or [a] pos) tA:=⟨pw_or1 ha.ok⟩
theorem tK(ha:RT X a tA)(hb:RB X (.BoolOp .And (b::rest) pos) tB'):RB X (.BoolOp .And (a::b::rest) pos) (a1H tA tB'):=⟨pw_and ha.ok hb.ok⟩
theorem NQ(ha:RT X a tA)(hb:RB X (.BoolOp .Or (b::rest) pos) tB'):RB X (.BoolOp .Or (a::b::rest) pos) (tOr tA tB'):=⟨pw_or ha.ok hb.ok⟩
theorem Ab(h:RB X e tA):RT X e tA:=⟨h.ok.pt⟩
theorem lW(ha:RT X a tA):RT X (.UnaryOp .Not a pos) (a1L tA):=⟨a0h ha.ok⟩
theorem Im {op} {t:TE} (h:RE X a t):RE X (.BoolOp op [a] pos) t:=⟨a03 h.ok⟩
theorem Ik(ha:RE X a ta)(hb:RE X (.BoolOp .And (b::rest) pos) tb):RE X (.BoolOp .And (a::b::rest) pos) (Ym ta tb):=⟨ZR ha.ok hb.ok⟩
theorem a1C(ha:RE X a ta):RE X (.UnaryOp .Not a pos) (Yr ta):=⟨a02 ha.ok⟩
theorem ao:RA X [] nD:=⟨ZQ⟩
theorem aj(ha:RE X e te)(hr:RA X es t)(hs:notStar e=true:=by rfl):RA X (e::es) (Yo te t):=⟨WQ ha.ok hr.ok (mV hs)⟩
theorem mO {x1} (h:RA X es t):RE X (.Tuple es x1 pos) (a1O t):=⟨a05 h.ok⟩
theorem fG(h:RA X es t):RE X (.List es pos) (a1K t):=⟨a00 h.ok⟩
theorem fP{r:R2}(hr:IxR X r)(ha:RE X a ta)(hb:RE X b tb)(hs:Nr b=true:=by rfl):RE X (.Subscript a b pos) (tOp r ta tb):=⟨a1i hr ha.ok hb.ok (a0Y hs)⟩
theorem a1B{f:Str}(he:RE X e ta)(hb:attributeBase e f X.env (eval e X.env)=eval e X.env:=by rfl):RE X (.Attribute e f pos) (XM X.K ta f):=⟨ZW he.ok hb⟩
variable{k j:Nat}{ps:List Str}{sp:Sp}{E:XK}{id T:String}{r:List V->Hp->VK->Prop}{C:Addr}
theorem aX(D:Df X.prog X.w X.K X.mg X.base k x ps sp)(hr:gC j X.A)(hg:Gl X x)(hx:Passes (CXE X.prog X.w) X E)(ha:RA X (e::es) t)(hk:k<=j:=by decide)(h1:notStar e=true:=by rfl)(h2:es.all notStar=true:=by rfl)
  (hdb:(x==("__debug__" : Str))=false:=by decide):RE X (.Call (.Name x p) (e::es) [] pos) (O9 sp [] E t):=⟨a0j D hr hg hx ha.ok hk h1 h2 hdb⟩
theorem Kc(D:Md X.prog X.w X.K X.mg X.base k x ps C sp)(hr:gC j X.A)(hg:Gl X x)(hx:Passes (CXE X.prog X.w) X E)(ha:RA X (e::es) t)(hk:k+1<=j:=by decide)(h1:notStar e=true:=by rfl)(h2:es.all notStar=true:=by rfl)
  (hdb:(x==("__debug__" : Str))=false:=by decide):RE X (.Call (.Name x p) (e::es) [] pos) (Ug C sp [] E t):=⟨Xk D hr hg hx ha.ok hk h1 h2 hdb⟩
theorem bF(hc:dX X (.builtin id) r)(hg:Gl X x)(hm:X.mg x=none)(hv:bootBuiltins x=some (.builtin id))(ha:RA X (e::es) t)(h1:notStar e=true:=by rfl)(h2:es.all notStar=true:=by rfl) (hn:x ≠ "__name__":=by decide)
  (hdb:(x==("__debug__" : Str))=false:=by decide):RE X (.Call (.Name x p) (e::es) [] pos) (tCB r t):=⟨Ti hc hg hm hv ha.ok h1 h2 hn hdb⟩
theorem lV(hc:dX X (.type T) r)(hg:Gl X x)(hm:X.mg x=none)(hv:bootBuiltins x=some (.type T))(ha:RA X (e::es) t)(h1:notStar e=true:=by rfl)(h2:es.all notStar=true:=by rfl) (hn:x ≠ "__name__":=by decide)
  (hdb:(x==("__debug__" : Str))=false:=by decide):RE X (.Call (.Name x p) (e::es) [] pos) (tCB r t):=⟨Qq hc hg hm hv ha.ok h1 h2 hn hdb⟩
theorem JD{env:Env}{cpos:Pos}:∀ {es:List Expr},es.all notStar=true->(backTo cpos (starEach es env)).all (fun x=>!x.1)=true
 |[],_=>rfl
 |e::es,h=>by
  rw[wO,kj] at h;rw[mV h.1];show((!false)&&(backTo cpos (starEach es env)).all (fun x=>!x.1))=true;rw[JD h.2];rfl
variable{name:Str}{apos cpos:Pos}{rm:V->List V->Hp->VK->Prop}
theorem a2F(pa:PlainAttrs T)(slot:Slot T name id) (hty:typeOf (.builtin id)=pure (.type "method_descriptor")) (hm:MtR X id rm) (ho:RE X o to) (ha:RA X (e::es) t) (h1:(e::es).all notStar=true:=by rfl)
  (hbase:attributeBase o name X.env (eval o X.env)=eval o X.env:=by rfl) (hlen:decide ((e::es).length<30)=true:=by rfl) (hline:(apos.endLine==cpos.line)=true:=by rfl):RE X (.Call (.Attribute o name apos) (e::es) [] cpos) (tBM X.K T rm to t):=by
 have h1':=h1;rw[wO,kj] at h1';refine⟨a1h pa slot hty hm ho.ok ha.ok hbase ?_ hline (mV h1'.1) (xu h1'.2)⟩;rw[JD h1];have:decide ((e::es).length+([]:List Keyword).length+(if([]:List Keyword).isEmpty then 0 else 1)<30)=true:=by simpa using hlen
 rw[this];rfl
theorem a1A(pa:PlainAttrs T)(slot:Slot T name id) (hty:typeOf (.builtin id)=pure (.type "method_descriptor")) (hm:MtR X id rm) (ho:RE X o to)
  (hbase:attributeBase o name X.env (eval o X.env)=eval o X.env:=by rfl) (hline:(apos.endLine==cpos.line)=true:=by rfl):RE X (.Call (.Attribute o name apos) [] [] cpos) (a0r X.K T rm to):=⟨ZS pa slot hty hm ho.ok hbase hline⟩
end
section
variable{X:Cx}{tg l:Expr}{te:TE}{ta:TA}{p pos:Pos}
theorem Xv(hl:RE X l te):RI X tg l (Rp X.K te):=⟨X8 hl.ok⟩
theorem a0n(hl:RE X l te):RI X tg l (a0X te):=⟨a0a hl.ok⟩
theorem iC{a:Expr} (hg:Gl X "range") (hm:X.mg "range" = none) (ha:RA X [a] ta) (hs:notStar a=true:=by rfl):RI X tg (.Call (.Name "range" p) [a] [] pos) (Yb ta):=⟨Qm hg hm ha.ok (mV hs)⟩
theorem wz{a b:Expr} (hg:Gl X "range") (hm:X.mg "range" = none) (ha:RA X [a,b] ta) (hs:notStar a=true:=by rfl) (hs2:notStar b=true:=by rfl):RI X tg (.Call (.Name "range" p) [a,b] [] pos) (Yd ta):=
 ⟨Qn hg hm ha.ok (by rw[mV hs,mV hs2];rfl) (mV hs2)⟩
theorem uP:RIf X [] KD:=⟨Xa⟩
theorem iK{c:Expr}{t:TT}(h:RT X c t):RIf X [c] t:=⟨Xb h.ok⟩
theorem jz{x:Str}{px:Pos}{scope:Scope}{elt iter:Expr}{ifs:List Expr}{wi:TI}{tc:TT}(ok:vO scope X.env.scope X.N x=true)(hc:X.calm=true)(hi:RI X (.Name x px) iter wi)
  (hif:∀ s H ex,RIf (jf X x scope s H ex) ifs tc) (he:∀ s H ex,RE (jf X x scope s H ex) elt te) (hs:∀ v,foldedSetIterable iter X.env v=pure v:=by intro _;rfl) :
  RE X (.ListComp elt [⟨.Name x px,iter,ifs,0⟩] scope pos) (Yn wi tc te):=⟨WW ok hc hi.ok (fun s H ex=>(hif s H ex).ok) (fun s H ex=>(he s H ex).ok) hs⟩
end
section
variable{X:Cx}{st:Stmt}{rest body:List Stmt}{t u tb:TS}{e tg iter:Expr}{te:TE}{pos:Pos}{i:Nat}{x:Str}
theorem bL:RSs X [] Yq:=⟨Xg⟩
theorem aA(h1:RS X st t)(h2:RSs X rest u):RSs X (st::rest) (a0s t u):=⟨Te h1.ok h2.ok⟩
theorem aD(h1:RS X st t):RSs X [st] t:=⟨Xh h1.ok⟩
theorem eY(he:RE X e te)(hs:yt e=true:=by rfl):RS X (.Expr e pos) (Yp te):=⟨Xe he.ok (Ua hs)⟩
theorem bx(he:RE X e te):RS X (.Return (some e) pos) (a1N te):=⟨a0f he.ok⟩
theorem dF{c:Expr}{a b:List Stmt}{tc:TT}(hc:RT X c tc)(ha:RSs X a t)(hb:RSs X b u):RS X (.If c a b pos) (a1J tc t u):=⟨a1o hc.ok ha.ok hb.ok⟩
theorem bQ(hN:X.N.Nodup)(hi:X.N[i]?=some x)(hx:Loc X.env.scope x)(hf:X.fn x=true\/X.env.scope.names.lookup x=some .local:=by first|exact .inl rfl|exact .inr rfl|assumption):RG X (.Name x pos) (Nf i):=⟨X5 hN hi hx hf⟩
theorem Xr:RGs X [] a0R:=⟨X6⟩
def Nt:Expr->Bool
 |.Name _ _=>true
 |.Subscript _ _ _=>true
 |_=>false
theorem a0C{es:List Expr}{env:Env}(h:Nt e=true):(assignEach (e::es) env).map (·.2)=assign e env::(assignEach es env).map (·.2):=by
 cases e<;>first|rfl|cases h
theorem zY{es:List Expr}{t:TG}{u:TGs}(h1:RG X e t)(h2:RGs X es u)(hs:Nt e=true:=by rfl):RGs X (e::es) (Y8 t u):=⟨T6 h1.ok h2.ok (a0C hs)⟩
theorem a0l{es:List Expr}{k:Nat}{t:TGs}{n:Nat}(hc:X.calm=true)(h:RGs X es t)(hn:(assignEach es X.env).length=n:=by rfl)(hst:(assignEach es X.env).findIdx? (·.1)=none:=by rfl):RG X (.Tuple es k pos) (a0T X.K n t):=⟨a08 hc h.ok hn hst⟩
theorem Ew{o i:Expr}{to ti:TE}{t:Vy}(ho:RE X o to)(hi:RE X i ti)(hs:Yu X t) (ha:∀ v,assign (.Subscript o i pos) X.env v=(do
   let ov <- holding [v] (eval o X.env)
   let iv <- holding [v,ov] (eval i X.env)
   standAt pos
   holding [v,ov,iv] (setItem ov iv v)
   release [v,ov,iv] []):=by intro _;rfl):RG X (.Subscript o i pos) (a0S to ti t):=⟨a07 ho.ok hi.ok hs ha⟩
theorem Aa{g:TG}(he:RE X e te)(hg:RG X tg g)(hs:swapsWithSole [tg] e pos.line X.env=pure false:=by rfl)(hw:swappedStores [tg] e X.env=pure none:=by rfl)(h1:(assignEach [tg] X.env).map (·.2)=[assign tg X.env]:=by rfl):RS X (.Assign [tg] e pos) (XJ te g):=⟨a0b he.ok hg.ok hs hw h1⟩
theorem bK{pos':Pos}(hN:X.N.Nodup)(hi:X.N[i]?=some x)(hx:Loc X.env.scope x)(he:RE X e te)(hs:yt e=true:=by rfl)(hf:X.fn x=true\/X.env.scope.names.lookup x=some .local:=by first|exact .inl rfl|exact .inr rfl|assumption) :
  RS X (.Assign [.Name x pos'] e pos) (XJ te (Nf i)):=⟨a0g hN hi hx he.ok (Ua hs) hf⟩
theorem a0o{j:Nat}{y:Str}{a b:Expr}{ta:TA}{px py pt:Pos} {kt k2 pt2} (hc:X.calm=true) (hN:X.N.Nodup) (hi:X.N[i]?=some x) (hj:X.N[j]?=some y) (hij:i≠j)
  (hx:X.env.scope.names.lookup x=some .local) (hy:X.env.scope.names.lookup y=some .local) (ha:RA X [a,b] ta) (hw:swappedStores [.Tuple [.Name x px,.Name y py] kt pt] (.Tuple [a,b] k2 pt2) X.env=pure (some [x,y])) :
  RS X (.Assign [.Tuple [.Name x px,.Name y py] kt pt] (.Tuple [a,b] k2 pt2) pos) (a1M i j ta):=⟨a0e hc hN hi hj hij hx hy ha.ok hw⟩
theorem dw{wi:TI}{g:TG}(hp:PassesOwn (model X.prog X.w) X.A X.env X.xe)(hc:X.calm=true)(hi:RI X tg iter wi)(hg:RG X tg g)(hb:RSs X body tb)(hs:∀ x,foldedSetIterable iter X.env x=pure x:=by intro _;rfl) :
  RS X (.For tg iter body [] pos) (a1I wi g tb):=⟨a0d hp hc hi.ok hg.ok hb.ok hs⟩
theorem Iw{c:Expr}{tc:TT}(hp:PassesOwn (model X.prog X.w) X.A X.env X.xe)(hc:RT X c tc)(hb:RSs X body tb):RS X (.While c body [] pos) (Uj tc tb):=⟨Tc hp hc.ok hb.ok⟩
theorem qO{o value:Expr}{f:Str}{ta tv:TE}{pos':Pos}(ha:RE X o ta)(hv:RE X value tv)(hs:yt value=true:=by rfl):RS X (.Assign [.Attribute o f pos'] value pos) (a1D X.K ta tv f):=⟨a0c ha.ok hv.ok (Ua hs)⟩
theorem yx{y:Str}{py px spos:Pos}{scope:Scope}{elt:Expr}{ifs:List Expr}{wi:TI}{tc:TT}(hN:X.N.Nodup)(hiy:X.N[i]?=some y)(hy:X.env.scope.names.lookup y=some .local)
  (ok:vO scope X.env.scope X.N x=true) (hc:X.calm=true) (hi:RI X (.Name x px) iter wi) (hif:∀ s H ex,RIf (jf X x scope s H ex) ifs tc) (he:∀ s H ex,RE (jf X x scope s H ex) elt te)
  (hsw:swapsWith (.ListComp elt [⟨.Name x px,iter,ifs,0⟩] scope pos) (some (.Name y py)) spos.line X.env=pure true:=by rfl) (hs:∀ v,foldedSetIterable iter X.env v=pure v:=by intro _;rfl) :
  RS X (.Assign [.Name y py] (.ListComp elt [⟨.Name x px,iter,ifs,0⟩] scope pos) spos) (Ub i wi tc te):=⟨Xd hN hiy hy ok hc hi.ok (fun s H ex=>(hif s H ex).ok) (fun s H ex=>(he s H ex).ok) hsw hs⟩
theorem RS.nox(h:RS X.nox st t):RS X st t:=⟨PS.nox h.ok⟩
theorem RT.nox{tt:TT}(h:RT X.nox e tt):RT X e tt:=⟨PT.nox h.ok⟩
theorem a0m:RH X [] (fun _ _ _ _=>False):=⟨a09⟩
end
section
variable{P:Program}{w:World}{K:ak}{mg:Str->Option Value}{base:Heap}{N:List Str}{qual:Str}{scope:Scope}{f:Addr}{cd:Value}{A:Around}{outer:List Env}{s0:Shared}{H0:Hp}{E:XK}
theorem gY{x:Str}{np cpos pos:Pos}{e₀:Expr}{rest:List Expr}{t:TA}{C:Addr}(c:iQ K C)(hg:Gl (qd (CXE P w) P w K mg base N qual scope f cd A outer s0 H0 E) x)(hm:mg x=some (.ref C))(hh:A.handled=none)
  (ha:RA (qd (CXE P w) P w K mg base N qual scope f cd A outer s0 H0 E) (e₀::rest) t) (h1:notStar e₀=true:=by rfl) (h2:rest.all notStar=true:=by rfl) (hd:(x==("__debug__" : Str))=false:=by decide) :
  RS (qd (CXE P w) P w K mg base N qual scope f cd A outer s0 H0 E) (.Raise (some (.Call (.Name x np) (e₀::rest) [] cpos)) none pos) (Ui t C E):=⟨T9 c hg hm hh ha.ok hd (mV h1) (xu h2)⟩
theorem Fun.Ey{x qual:Str}{st:Stmt}{f:Addr}{fd:FuncData}{N ps:List Str}{k:Nat}{sp:Sp}(F:Fun K x qual st f fd)(S:aY N ps (aK st))(len:∀ vs H Q E,sp vs H Q E->vs.length=ps.length)
  (hbody:∀(cdv:Value)(A:Around)(outer:List Env)(s:Shared)(H:Hp)(vs:List V)(Q:VK)(E:XK),gC k (A.deeper (envOfC qual (aK st) s.heap.objs.size f cdv))->sp vs H Q E ->
   ∃ t,RSs (qd (CXE P w) P w K mg base N qual (aK st) f cdv A outer s H E) (gj st) t/\t { nx:=fun _ H'=>Q .non H',rt:=Q } (start N vs) H):cF P w K mg base (CXE P w) (k+1) f fd ps sp:=
 F.okE S len fun cdv A outer s H vs Q E hr hsp=>let ⟨t,h,q⟩:=hbody cdv A outer s H vs Q E hr hsp;⟨t,h.ok,q⟩
theorem Fun.rok{x qual:Str}{st:Stmt}{f:Addr}{fd:FuncData}{N ps:List Str}{k:Nat}{sp:Sp}(F:Fun K x qual st f fd)(S:aY N ps (aK st))(len:∀ vs H Q E,sp vs H Q E->vs.length=ps.length)
  (hbody:∀(cdv:Value)(A:Around)(outer:List Env)(s:Shared)(H:Hp)(vs:List V)(Q:VK)(E:XK),gC k (A.deeper (envOfC qual (aK st) s.heap.objs.size f cdv))->sp vs H Q E ->
   ∃ t,RSs (qd (CXE P w) P w K mg base N qual (aK st) f cdv A outer s H E).nox (gj st) t/\t { nx:=fun _ H'=>Q .non H',rt:=Q } (start N vs) H):cF P w K mg base (CXE P w) (k+1) f fd ps sp:=
 F.ok0 S len fun cdv A outer s H vs Q E hr hsp=>let ⟨t,h,q⟩:=hbody cdv A outer s H vs Q E hr hsp;⟨t,h.ok,q⟩
end
mutual
theorem Den.mono{K:ak}{H H':Hp}(s:Same H H'):∀ {v:V} {d:Dt},Den K H v d->Den K H' v d
 |_,_,.non=>.non
 |_,_,.bl b=>.bl b
 |_,_,.int i=>.int i
 |_,_,.str x=>.str x
 |_,_,.tup h hs=>.tup (s _ _ h) (aV.mono s hs)
 |_,_,.lst h hs=>.lst (s.seq h) (aV.mono s hs)
theorem aV.mono{K:ak}{H H':Hp}(s:Same H H'):∀ {vs:List V} {ds:List Dt},aV K H vs ds->aV K H' vs ds
 |_,_,.nil=>.nil
 |_,_,.cons h t=>.cons (Den.mono s h) (aV.mono s t)
end
theorem aV.strs{K:ak}{H:Hp}:∀ zs:List Str,aV K H (zs.map V.str) (zs.map Dt.str)
 |[]=>.nil
 |z::zs=>.cons (.str z) (aV.strs zs)
theorem aV.Eo{K:ak}{H:Hp}:∀ {bs:List Bool} {vs:List V},aV K H vs (bs.map Dt.bl)->vs=bs.map V.bl
 |[],_,.nil=>rfl
 |n::ns,_,.cons h t=>by cases h;rw[aV.Eo t];rfl
structure qm(J:It)(H:Hp)(vs:List V):Prop where
 go:∀ H' i,Same H H'->i<vs.length->J.go i H'
 yld:∀ H' i v H'',Same H H'->i<vs.length->J.yld i H' v H''->vs[i]?=some v/\H''=H'
 stop:∀ H',Same H H'->J.stop vs.length H'
theorem cG{K:ak}{H:Hp}{a:Addr}{vs:List V}(h:SqL K H a vs):qm (Itl K a) H vs:=
 ⟨fun H' i s hi=>⟨vs,vs[i],s.seq h,by simp[hi]⟩,fun H' i v H'' s hi y=>⟨y.2 vs (s.seq h),y.1⟩,fun H' s=>⟨vs,s.seq h,bB _⟩⟩
theorem K7{H:Hp}(lo:Int)(n:Nat):qm (Itr lo n) H (((List.range n).map fun i:Nat=>lo+(i:Int)).map V.int):=by
 have hl:(((List.range n).map fun i:Nat=>lo+(i:Int)).map V.int).length=n:=by simp
 refine⟨fun H' i _ hi=>?_,fun H' i v H'' _ hi y=>⟨?_,y.1⟩,fun H' _=>?_⟩
 ·rw[hl] at hi;exact hi
 ·rw[hl] at hi;rw[y.2];simp[hi]
 ·rw[hl];exact bB _
theorem SJ{H:Hp}(z:Str):qm (Its z) H ((z.cps.toList.map fun c=>(⟨#[c]⟩:Str)).map V.str):=by
 have hl:((z.cps.toList.map fun c=>(⟨#[c]⟩:Str)).map V.str).length=z.cps.size:=by simp
 refine⟨fun H' i _ hi=>?_,fun H' i v H'' _ hi y=>?_,fun H' _=>?_⟩
 ·rw[hl] at hi;exact hi
 ·rw[hl] at hi;obtain⟨e,c,ec,y⟩:=y;have:z.cps.toList[i]?=some c:=by simpa using ec
  exact⟨by rw[y];simp[this],e⟩
 ·rw[hl];exact bB _
theorem gU{α:Type}{K:ak}{J:It}{H:Hp}{vs:List V}{xs:List α}{enc:α->Dt}{tc:TT}{te:TE}{zzs:St}{fin:List V->Hp->Prop}(hJ:qm J H vs)(hx:aV K H vs (xs.map enc))(hn:xs.length<=sizeLine)(p:α->Bool)(f:α->Dt)
  (ht:∀ a∈xs,∀ v H',Same H H'->Den K H' v (enc a)->∀ G:Bool->Hp->Prop,(∀ H'',Same H' H''->G (p a) H'')->tc (some v::zzs) H' G)
  (hf:∀ a∈xs,p a=true->∀ v H',Same H H'->Den K H' v (enc a)->∀ G:VK,(∀ y H'',Same H' H''->Den K H'' y (f a)->G y H'')->te (some v::zzs) H' G)
  (hd:∀ ys H',Same H H'->aV K H' ys ((xs.filter p).map f)->fin ys H'):∃ W:Nat->Nat->List V->Hp->Prop,(∃ m,W 0 m [] H)/\pO J tc te zzs fin W:=by
 have hlv:vs.length=xs.length:=by rw[hx.length,aZ]
 refine DX (n:=vs.length) (item:=fun i=>vs.getD i .non) (fun i ys H'=>Same H H'/\aV K H' ys (((xs.take i).filter p).map f)) (by rw[hlv];exact hn) (fun i ys H' hi r=>hJ.go H' i r.1 hi) (fun i ys H' v H'' hi r y=>?_) (fun ys H' r=>hJ.stop H' r.1)
  (fun i ys H' hi r=>?_) ⟨Same.refl _,.nil⟩ (fun i ys H' hi r G hG=>?_) (fun ys H' r=>?_)
 ·obtain⟨e,e'⟩:=hJ.yld H' i v H'' r.1 hi y;exact⟨by rw[fU,e];rfl,e'⟩
 ·rw[r.2.length,aZ];exact dN (jL _ _) (by rw[sU];exact Nat.min_le_left _ _)
 ·obtain⟨s1,D⟩:=r;have hi':i<xs.length:=by lia
  have ev:vs[i]?=some (vs.getD i .non):=by simp[fU,hi]
  obtain⟨d,ed,dv⟩:=hx.get ev;have ea:d=enc xs[i]:=by
   rw[dG,eZ hi'] at ed;exact(iJ ed).symm
  subst ea;have tk:xs.take (i+1)=xs.take i++[xs[i]]:=by rw[kI,eZ hi'];rfl
  refine ht xs[i] (pZ hi') _ H' s1 (dv.mono s1) _ fun H2 s2=>?_
  cases hp:p xs[i] with
  |false=>
   refine qJ (hG _ _ ⟨s1.trans s2,?_⟩);rw[tk,Br,show List.filter p [xs[i]]=[] by simp[hp],rJ];exact D.mono s2
  |true=>
   refine BJ (hf xs[i] (pZ hi') hp _ H2 (s1.trans s2) (dv.mono (s1.trans s2)) _ fun y H3 s3 dy=>hG _ _ ⟨(s1.trans s2).trans s3,?_⟩);rw[tk,Br,show List.filter p [xs[i]]=[xs[i]] by simp[hp],eE];exact(D.mono (s2.trans s3)).append (.cons dy .nil)
 ·rw[hlv,kE] at r;exact hd ys H' r.1 r.2
theorem comp_map{α:Type}{K:ak}{J:It}{H:Hp}{vs:List V}{xs:List α}{enc:α->Dt}{te:TE}{zzs:St}{fin:List V->Hp->Prop}(hJ:qm J H vs)(hx:aV K H vs (xs.map enc))(hn:xs.length<=sizeLine)(f:α->Dt)
  (hf:∀ a∈xs,∀ v H',Same H H'->Den K H' v (enc a)->∀ G:VK,(∀ y H'',Same H' H''->Den K H'' y (f a)->G y H'')->te (some v::zzs) H' G)
  (hd:∀ ys H',Same H H'->aV K H' ys (xs.map f)->fin ys H'):∃ W:Nat->Nat->List V->Hp->Prop,(∃ m,W 0 m [] H)/\pO J KD te zzs fin W:=
 gU hJ hx hn (fun _=>true) f (fun a _ v H' _ _ G hG=>hG H' (Same.refl _)) (fun a ha _=>hf a ha) fun ys H' s D=>hd ys H' s (by rw[LR.mpr (fun _ _=>rfl)] at D;exact D)
section
variable{X:Cx}{K:ak}
theorem nW(hu:X.A.units+60<cLine)(hK:X.K=K:=by rfl):OpR X (compareOp .Eq) (Xl K false):=by subst hK;exact ZF hu
theorem Hz(hu:X.A.units+60<cLine)(hK:X.K=K:=by rfl):OpR X (compareOp .NotEq) (Xl K true):=by subst hK;exact ZM hu
theorem wZ(hu:X.A.units+61<cLine)(hK:X.K=K:=by rfl):OpR X (compareOp .In) (Qs K false):=by subst hK;exact ZK hu
theorem zF(hu:X.A.units+61<cLine)(hK:X.K=K:=by rfl):OpR X (compareOp .NotIn) (Qs K true):=by subst hK;exact Qg hu
theorem gP(hK:X.K=K:=by rfl):IxR X (rIx K):=by subst hK;exact Z9
def Tp(K:ak):List V->Hp->VK->Prop:=fun xs H Q=>(∃ p ys,xs=[.ref p]/\(SqL K H p ys\/SqT K H p ys)/\Q (.int ys.length) H)\/(∃ z,xs=[.str z]/\z.length<=sizeLine/\Q (.int z.length) H)
theorem iD(hK:X.K=K:=by rfl):dX X (.builtin "len") (Tp K):=by subst hK;exact DN.or DP
def Xn(K:ak):List V->Hp->VK->Prop:=fun xs H Q=>∃ p ys,xs=[.ref p]/\(SqL K H p ys\/SqT K H p ys)/\∀ l,H l=none->Q (.ref l) (upd H l (.lst ys))
theorem zE(hK:X.K=K:=by rfl):dX X (.type "list") (Xn K):=by subst hK;exact DQ
def a1q(K:ak):List V->Hp->VK->Prop:=fun xs H Q=>∃(p:Addr)(bs:List Bool),xs=[.ref p]/\SqL K H p (bs.map V.bl)/\Q (.bl (bs.all id)) H
theorem k_all(hc:X.calm=true)(hK:X.K=K:=by rfl):dX X (.builtin "all") (a1q K):=by subst hK;exact R3 hc
theorem Zc(hK:X.K=K:=by rfl):MtR X "str.join" (rJoin K):=by subst hK;exact Wr
end
section
variable{X:Cx}{K:ak}{tg l e o:Expr}{es:List Expr}{te ta to:TE}{t:TA}{pos apos cpos:Pos}{f name:Str}{T id:String}{rm:V->List V->Hp->VK->Prop}
theorem bD(hl:RE X l te)(hK:X.K=K:=by rfl):RI X tg l (Rp K te):=by subst hK;exact Xv hl
theorem cO(he:RE X e ta)(hK:X.K=K:=by rfl)(hb:attributeBase e f X.env (eval e X.env)=eval e X.env:=by rfl):RE X (.Attribute e f pos) (XM K ta f):=by subst hK;exact a1B he hb
theorem lR(pa:PlainAttrs T)(slot:Slot T name id) (hty:typeOf (.builtin id)=pure (.type "method_descriptor")) (hm:MtR X id rm) (ho:RE X o to) (ha:RA X (e::es) t) (hK:X.K=K:=by rfl) (h1:(e::es).all notStar=true:=by rfl)
  (hbase:attributeBase o name X.env (eval o X.env)=eval o X.env:=by rfl) (hlen:decide ((e::es).length<30)=true:=by rfl) (hline:(apos.endLine==cpos.line)=true:=by rfl):RE X (.Call (.Attribute o name apos) (e::es) [] cpos) (tBM K T rm to t):=by
 subst hK;exact a2F pa slot hty hm ho ha h1 hbase hlen hline
theorem RD(pa:PlainAttrs T)(slot:Slot T name id) (hty:typeOf (.builtin id)=pure (.type "method_descriptor")) (hm:MtR X id rm) (ho:RE X o to) (hK:X.K=K:=by rfl)
  (hbase:attributeBase o name X.env (eval o X.env)=eval o X.env:=by rfl) (hline:(apos.endLine==cpos.line)=true:=by rfl):RE X (.Call (.Attribute o name apos) [] [] cpos) (a0r K T rm to):=by
 subst hK;exact a1A pa slot hty hm ho hbase hline
end
theorem dY:bootBuiltins "len" = some (.builtin "len"):=by decide +kernel
theorem Jo:bootBuiltins "all" = some (.builtin "all"):=by decide +kernel
theorem lB:bootBuiltins "sorted" = some (.builtin "sorted"):=by decide +kernel
theorem QX:bootBuiltins "min" = some (.builtin "min"):=by decide +kernel
theorem QW:bootBuiltins "max" = some (.builtin "max"):=by decide +kernel
theorem YC:bootBuiltins "int" = some (.type "int"):=by decide +kernel
theorem YD:bootBuiltins "str" = some (.type "str"):=by decide +kernel
theorem uh:bootBuiltins "list" = some (.type "list"):=by decide +kernel
theorem aF{t u:TS}{D:Ends}{zzs:L2.St}{H:Hp}(Mid:L2.St->Hp->Prop)(h:∀ R:L2.St->Hp->Prop,(∀ bH H',Mid bH H'->R bH H')->t { D with nx:=R } zzs H)(k:∀ bH H',Mid bH H'->u D bH H'):a0s t u D zzs H:=h (u D) k
theorem a2J{A Bq:Hp->Prop}{zzs:L2.St}{H:Hp}(h:A H):KD zzs H (fun b H2=>if b=true then A H2 else Bq H2):=by
 show if true=true then A H else Bq H
 rw[aJ rfl];exact h
theorem sz{n:Nat}(h:Nat.ble n 10000=true):n<=sizeLine:=small (V8 h)
theorem wX{i j:Int}:decide (V.int i=V.int j)=decide (i=j):=by simp
theorem iG{α:Type}{x:α}{xs:List α}:atI (x::xs) 0=some x:=gG (j:=0) rfl
theorem zA{A:Around}{k:Nat}{env:Env}(hr:gC k (A.deeper env)):A.handled=none:=hr.hd
theorem cN{b:Bool}{A Bq:Prop}(h1:b=true->A)(h2:b=false->Bq):if b=true then A else Bq:=by
 cases b with
 |true=>exact BJ (h1 rfl)
 |false=>exact qJ (h2 rfl)
theorem Cm{l n m:Int}{te:TE}{zzs:L2.St}{H:Hp}{G:VK}(he:∀ Q':VK,Q' (.int m) H->te zzs H Q')(hg:G (.bl (decide (l<=n/\n<m))) H) :
  if decide (l<=n)=true then te zzs H (fun w' H4=>rI0 (fun i j=>.bl (decide (i<j))) (.int n) w' H4 G) else G (.bl false) H:=by
 refine Rr (fun h1=>he _ ⟨_,_,rfl,rfl,?_⟩) (fun h1=>?_)
 ·have h1':=cJ h1;have e:decide (l<=n/\n<m)=decide (n<m):=by simp[h1']
  show G (.bl (decide (n<m))) H;rw[<- e];exact hg
 ·have e:decide (l<=n/\n<m)=false:=dB fun h=>h1 (cR h.1)
  rw[<- e];exact hg
abbrev Cell:=Int×Int
def au(x:Cell):Dt:=.tup [.int x.1,.int x.2]
theorem Ht(a b:Cell):eqD (au a) (au b)=decide (a=b):=by
 have e1:eqD (.int a.1) (.int b.1)=decide (a.1=b.1):=by rw[ur rfl rfl];exact(V9 _ _)
 have e2:eqD (.int a.2) (.int b.2)=decide (a.2=b.2):=by rw[ur rfl rfl];exact(V9 _ _)
 show(eqD (.int a.1) (.int b.1)&&(eqD (.int a.2) (.int b.2)&&true))=_;rw[e1,e2,Bool.and_true];by_cases h1:a.1=b.1<;>by_cases h2:a.2=b.2<;>simp[h1,h2,Prod.ext_iff]
theorem z7(a:Cell):uq (au a)<=50:=V8 rfl
theorem yI(x:Cell):∀ cs:List Cell,((cs.map au).any fun e=>eqD e (au x))=decide (x∈cs)
 |[]=>by simp
 |c::cs=>by
  rw[dM,wQ,Ht,yI x cs];by_cases h:c=x<;>by_cases h2:x∈cs<;>simp[h,h2,eq_comm]
  intro e;exact absurd e.symm h
def Ls(K:ak)(H:Hp)(p:Addr)(ds:List Dt):Prop:=∃ xs,H p=some (.lst xs)/\aV K H xs ds
theorem Ls.den{K:ak}{H:Hp}{p:Addr}{ds:List Dt}(h:Ls K H p ds):Den K H (.ref p) (.lst ds):=let ⟨_,e,D⟩:=h;.lst (SqL.of e) D
theorem Ls.mono{K:ak}{H H':Hp}{p:Addr}{ds:List Dt}(h:Ls K H p ds)(s:Same H H'):Ls K H' p ds:=let ⟨xs,e,D⟩:=h;⟨xs,s _ _ e,D.mono s⟩
theorem Ls.new{K:ak}{H:Hp}{p:Addr}{xs:List V}{ds:List Dt}(hp:H p=none)(D:aV K H xs ds):Ls K (upd H p (.lst xs)) p ds:=⟨xs,aC,D.mono (Same.put hp)⟩
structure Fr(K:ak)(H H':Hp)(p:Addr)(ds:List Dt):Prop where
 same:Same H H'
 new:H p=none
 ls:Ls K H' p ds
theorem cV{K:ak}{H:Hp}{v:V}{x:Cell}(h:Den K H v (au x)):∃ a,v=.ref a/\SqT K H a [.int x.1,.int x.2]/\H a=some (.tup [.int x.1,.int x.2]):=by
 cases h with
 |tup ht hs=>
  cases hs with
  |cons h1 hs=>
   cases hs with
   |cons h2 hs=>
    cases hs;cases h1;cases h2;exact⟨_,rfl,SqT.of ht,ht⟩
theorem nH{K:ak}{H:Hp}{p:Addr}{a b:Int}:Den K (upd H p (.tup [.int a,.int b])) (.ref p) (au (a,b)):=.tup aC (.cons (.int _) (.cons (.int _) .nil))
section
variable{K:ak}{H:Hp}{v:V}{x:Cell}{p:Addr}{cs:List Cell}{Q:VK}
theorem zT(d:Den K H v (au x))(q:Q (.int x.1) H):rIx K v (.int 0) H Q:=by
 obtain⟨a,rfl,h,_⟩:=cV d;exact .inr (.inl ⟨a,_,_,_,rfl,rfl,h,iG,q⟩)
theorem zX(d:Den K H v (au x))(q:Q (.int x.2) H):rIx K v (.int 1) H Q:=by
 obtain⟨a,rfl,h,_⟩:=cV d;exact .inr (.inl ⟨a,_,_,_,rfl,rfl,h,gG (j:=1) rfl,q⟩)
theorem zU(d:Den K H v (au x))(h:Den K H (.ref p) (.lst (cs.map au)))(q:Q (.bl (decide (x∈cs))) H):Qs K false v (.ref p) H Q:=by
 refine⟨au x,cs.map au,p,rfl,d,.inl h,fun e he=>?_,?_⟩
 ·obtain⟨c,_,rfl⟩:=cD.mp he;exact⟨rfl,z7 c⟩
 ·show Q (.bl ((cs.map au).any fun e=>eqD e (au x))) H;rw[yI];exact q
theorem zW(d:Den K H v (au x))(h:Den K H (.ref p) (.lst (cs.map au)))(q:Q (.bl (!decide (x∈cs))) H):Qs K true v (.ref p) H Q:=by
 refine⟨au x,cs.map au,p,rfl,d,.inl h,fun e he=>?_,?_⟩
 ·obtain⟨c,_,rfl⟩:=cD.mp he;exact⟨rfl,z7 c⟩
 ·show Q (.bl (!(cs.map au).any fun e=>eqD e (au x))) H;rw[yI];exact q
theorem zV{ds:List Dt}(h:Den K H (.ref p) (.lst ds))(q:Q (.int ds.length) H):Tp K [.ref p] H Q:=by
 cases h with
 |lst hl D=>exact .inl ⟨p,_,rfl,.inl hl,by rw[D.length];exact q⟩
theorem Tw{q':Addr}{ds es:List Dt}(h:Ls K H p ds)(h2:Ls K H q' es)(hz:ds.length+es.length<=10000)(q:∀ r H',Fr K H H' r (ds++es)->Q (.ref r) H'):Tj (.ref p) (.ref q') H Q:=by
 obtain⟨xs,e,D⟩:=h;obtain⟨ys,e2,D2⟩:=h2;exact⟨xs,ys,e,e2,by rw[D.length,D2.length];exact small hz,fun r hr=>q r _ ⟨Same.put hr,hr,.new hr (D.append D2)⟩⟩
end
def inF(h w:Int)(x:Cell):Prop:=(0<=x.1/\x.1<h)/\(0<=x.2/\x.2<w)
instance(h w:Int)(x:Cell):Decidable (inF h w x):=by unfold inF;infer_instance
def offs:List Cell:=[(-1,-1),(-1,0),(-1,1),(0,-1),(0,1),(1,-1),(1,0),(1,1)]
def fO(h w:Int)(x:Cell):List Cell:=(offs.map fun d=>(x.1+d.1,x.2+d.2)).filter fun y=>decide (inF h w y)
def bI(h w:Nat):List Cell:=(List.range h).flatMap fun r:Nat=>(List.range w).map fun c:Nat=>((r:Int),(c:Int))
def oX(h w:Int)(st:List Cell)(x:Cell):Nat:=((fO h w x).filter fun y=>decide (y∈st)).length
def inS(sg:Str)(c:Nat):Bool:=!(Builtin.Str.occurrences sg ⟨#[c]⟩ 0 sg.length 1).isEmpty
def codeAt(zs:List Str)(x:Nat×Nat):Nat:=(zs.getD x.1 Str.empty).cps.getD x.2 0
def vN(zs:List Str)(w:Nat)(sg:Str):List Cell:=(List.range zs.length).flatMap fun r:Nat=>((List.range w).filter fun c=>inS sg (codeAt zs (r,c))).map fun c:Nat=>((r:Int),(c:Int))
structure Rect(zs:List Str)(w:Nat):Prop where
 ne:1<=zs.length
 le:zs.length<=6
 w1:1<=w
 w6:w<=6
 len:∀ z∈zs,z.length=w
theorem Rect.head{zs:List Str}{w:Nat}(h:Rect zs w):∃ z zt,zs=z::zt/\z.length=w:=by
 cases zs with
 |nil=>exact absurd h.ne (by decide)
 |cons z zt=>exact⟨z,zt,rfl,h.len z cZ⟩
def SameBut(p:Addr)(H H':Hp):Prop:=∀ b o,H b=some o->b≠p->H' b=some o
theorem SameBut.refl(p:Addr)(H:Hp):SameBut p H H:=fun _ _ e _=>e
theorem SameBut.trans{p:Addr}{H H1 H2:Hp}(a:SameBut p H H1)(b:SameBut p H1 H2):SameBut p H H2:=fun c o e n=>b c o (a c o e n) n
theorem Same.but{H H':Hp}(s:Same H H')(p:Addr):SameBut p H H':=fun b o e _=>s b o e
theorem SameBut.put{p:Addr}{H H':Hp}{o:HO}(s:SameBut p H H'):SameBut p H (upd H' p o):=fun b u e n=>by rw[aN n];exact s b u e n
theorem SameBut.and{p q:Addr}{H H':Hp}{o:HO}(s:SameBut p H H')(hq:H' q=none):SameBut p H (upd H' q o):=fun b u e n=>(Same.put hq) b u (s b u e n)
theorem SameBut.of{p:Addr}{H H0 H':Hp}(s:SameBut p H0 H')(a:Same H H0)(np:H p=none):Same H H':=fun b o e=>s b o (a b o e) (aQ e np)
section
variable{K:ak}{p:Addr}{H H':Hp}{l:List V}
theorem SameBut.cell{v:V}{x:Cell}(s:SameBut p H H')(hp:H p=some (.lst l))(h:Den K H v (au x)):Den K H' v (au x):=by
 obtain⟨a,rfl,_,ht⟩:=cV h;exact .tup (s _ _ ht (fB ht hp (by intro z;cases z))) (.cons (.int _) (.cons (.int _) .nil))
theorem SameBut.cells(s:SameBut p H H')(hp:H p=some (.lst l)):∀ {vs:List V} {cs:List Cell},aV K H vs (cs.map au)->aV K H' vs (cs.map au):=by
 intro vs cs D
 induction cs generalizing vs with
 |nil=>cases D;exact .nil
 |cons c cs ih=>cases D with|cons h t=>exact .cons (s.cell hp h) (ih t)
theorem SameBut.ls{q:Addr}{cs:List Cell}(s:SameBut p H H')(hp:H p=some (.lst l))(n:q≠p)(h:Ls K H q (cs.map au)):Ls K H' q (cs.map au):=let ⟨xs,e,D⟩:=h;⟨xs,s _ _ e n,s.cells hp D⟩
end
theorem ltl{n:Nat}(h:n<10000):n<sizeLine:=jq h (by rw[rN];decide)
theorem o8{K:ak}{p:Addr}{H:Hp}{l:List V}{v:V}{Q:VK}(hp:H p=some (.lst l))(hz:l.length<10000)(q:Q .non (upd H p (.lst (l++[v])))):Nz (.ref p) [v] H Q:=
 ⟨p,l,v,rfl,rfl,hp,jq hz (by rw[rN];decide),q⟩
theorem Yz{zs:List Str}{r:Nat}(h:r<zs.length):atI (zs.map V.str) (r:Int)=some (.str (zs.getD r Str.empty)):=gG (by simp[fU,h])
theorem VF{z:Str}{c:Nat}(h:c<z.length):atI z.cps.toList (c:Int)=some (z.cps.getD c 0):=by
 have h':c<z.cps.size:=h;exact gG (by simp[mY,h'])
theorem Rect.row{zs:List Str}{w r:Nat}(h:Rect zs w)(hr:r<zs.length):(zs.getD r Str.empty).length=w:=by
 have e:zs.getD r Str.empty=zs[r]:=by simp[fU,hr]
 rw[e];exact h.len _ (pZ hr)
theorem NT{K:ak}{H:Hp}{p:Addr}{zs:List Str}{w r c:Nat}{Q:VK}(hS:SqL K H p (zs.map V.str))(rc:Rect zs w)(hr:r<zs.length)(hc:c<w)(q:Q (.str ⟨#[codeAt zs (r,c)]⟩) H):rIx K (.str (zs.getD r Str.empty)) (.int (c:Int)) H Q:=by
 have e:=rc.row hr;exact .inr (.inr ⟨_,_,_,rfl,rfl,small (by have:=rc.w6;lia),VF (by lia),q⟩)
theorem Tz{K:ak}{H:Hp}{p:Addr}{zs:List Str}{r:Nat}{Q:VK}(hS:SqL K H p (zs.map V.str))(hr:r<zs.length)(q:Q (.str (zs.getD r Str.empty)) H):rIx K (.ref p) (.int (r:Int)) H Q:=
 .inl ⟨p,_,_,_,rfl,rfl,hS,Yz hr,q⟩
theorem Ii{H:Hp}(n:Nat):qm (Itr 0 n) H ((List.range n).map fun i:Nat=>V.int (i:Int)):=by
 have h:=K7 (H:=H) 0 n;have e:(((List.range n).map fun i:Nat=>(0:Int)+(i:Int)).map V.int)=(List.range n).map fun i:Nat=>V.int (i:Int):=by
  rw[ni];refine Ax fun i _=>?_
  simp
 rw[e] at h;exact h
theorem aV.nats{K:ak}{H:Hp}:∀ l:List Nat,aV K H (l.map fun i:Nat=>V.int (i:Int)) (l.map fun i:Nat=>Dt.int (i:Int))
 |[]=>.nil
 |_::l=>.cons (.int _) (aV.nats l)
theorem bM{h w:Nat}{x:Cell}:x∈bI h w↔inF h w x:=by
 unfold bI inF;rw[Bc];constructor
 ·rintro⟨r,hr,hx⟩;obtain⟨c,hc,rfl⟩:=cD.mp hx;rw[cH] at hr hc;exact⟨⟨by show(0:Int)<=(r:Int);lia,by show(r:Int)<h;lia⟩,⟨by show(0:Int)<=(c:Int);lia,by show(c:Int)<w;lia⟩⟩
 ·rintro⟨⟨a,b⟩,⟨c,d⟩⟩;refine⟨x.1.toNat,cH.mpr (by lia),cD.mpr ⟨x.2.toNat,cH.mpr (by lia),?_⟩⟩;exact jD (by show((x.1.toNat:Nat):Int)=x.1;lia) (by show((x.2.toNat:Nat):Int)=x.2;lia)
theorem oW(h w:Nat):bI (h+1) w=bI h w++(List.range w).map fun c:Nat=>((h:Int),(c:Int)):=by
 unfold bI;rw[xU,Ay];simp
theorem fK(h w:Nat):(bI h w).length=h*w:=by
 induction h with
 |zero=>simp[bI]
 |succ h ih=>rw[oW,cC,ih,aZ,jM,Nat.succ_mul]
theorem iB(h w:Int)(x:Cell):(fO h w x).length<=8:=by
 unfold fO;exact dN (jL _ _) (by rw[aZ];decide)
theorem N7(h w:Int)(st:List Cell)(x:Cell):oX h w st x<=8:=dN (jL _ _) (iB h w x)
theorem qK{h w:Int}{x y:Cell}(hy:y∈fO h w x):inF h w y:=by
 unfold fO at hy;exact cJ (bZ.mp hy).2
def qe(h w:Int)(st kn:List Cell)(x:Cell):Nat:=if x∈kn then 48+oX h w st x else 35
def uQ(h w:Int)(st kn:List Cell)(r:Int)(n:Nat):Str:=⟨((List.range n).map fun c:Nat=>qe h w st kn (r,(c:Int))).toArray⟩
def aO(h w:Nat)(st kn:List Cell):List Str:=(List.range h).map fun r:Nat=>uQ h w st kn (r:Int) w
theorem Xw(h w:Int)(st kn:List Cell)(r:Int)(n:Nat):(uQ h w st kn r n).length=n:=by
 show(((List.range n).map fun c:Nat=>qe h w st kn (r,(c:Int))).toArray).size=n;simp
theorem dig:∀ n,n<=8->(Str.ofString (toString ((n:Nat):Int)):Str)=⟨#[48+n]⟩:=by
 intro n hn;have:=(by decide +kernel:∀ k∈List.range 9,(Str.ofString (toString ((k:Nat):Int)):Str)=⟨#[48+k]⟩)
 exact this n (cH.mpr (by lia))
theorem W3(n:Nat)(h:n<=8):((n:Nat):Int).natAbs.log2<1920:=by
 have e:((n:Nat):Int).natAbs=n:=Int.natAbs_natCast n;rw[e];have:=(by decide:∀ k∈List.range 9,k.log2<1920)
 exact this n (cH.mpr (by lia))
inductive Reach(h w:Int)(st kn:List Cell)(x0:Cell):Cell->Prop
 |base:Reach h w st kn x0 x0
 |step {x y:Cell}:Reach h w st kn x0 x->oX h w st x=0->y∈fO h w x->y∉kn->Reach h w st kn x0 y
theorem Ri{h w:Int}{st:List Cell}{x y:Cell}(e:oX h w st x=0)(hy:y∈fO h w x):y∉st:=by
 unfold oX at e;intro hs;have:=Jd.mp e;have m:y∈(fO h w x).filter fun y=>decide (y∈st):=bZ.mpr ⟨hy,cR hs⟩
 rw[this] at m;cases m
theorem Reach.inF{h w:Int}{st kn:List Cell}{x0 y:Cell}(h0:inF h w x0)(r:Reach h w st kn x0 y):L2.inF h w y:=by
 induction r with
 |base=>exact h0
 |step _ _ hy _ _=>exact qK hy
theorem Reach.free{h w:Int}{st kn:List Cell}{x0 y:Cell}(h0:x0∉st)(r:Reach h w st kn x0 y):y∉st:=by
 induction r with
 |base=>exact h0
 |step _ e hy _ _=>exact Ri e hy
theorem Reach.new{h w:Int}{st kn:List Cell}{x0 y:Cell}(h0:x0∉kn)(r:Reach h w st kn x0 y):y∉kn:=by
 cases r with
 |base=>exact h0
 |step _ _ _ hk=>exact hk
theorem nZ{α:Type} [DecidableEq α]:∀ {l1 l2:List α},l1.Nodup->(∀ x∈l1,x∈l2)->l1.length<=l2.length
 |[],_,_,_=>mG _
 |a::l1,l2,hn,hs=>by
  have ha:=hs a cZ;have hn':=Bg.mp hn;have ih:=nZ (l1:=l1) (l2:=l2.erase a) hn'.2 fun x hx=>(List.mem_erase_of_ne (fun e:x=a=>hn'.1 (by rw[<- e];exact hx))).mpr (hs x (f9 _ hx))
  rw[List.length_erase_of_mem ha] at ih;have:0<l2.length:=V3 ha;rw[fX];lia
theorem Z7{sg:Str}{c:Nat}(h:c∉sg.cps.toList):inS sg c=false:=by
 unfold inS;rw[PySem.W.occ_nil_of_no sg ⟨#[c]⟩ 1 fun i hi=>?_]
 ·rfl
 ·cases e:Builtin.Str.subAt sg ⟨#[c]⟩ i with
  |false=>rfl
  |true=>
   refine absurd ?_ h;have e':sg.cps.extract i (i+1)=#[c]:=kJ.mp e;have hm:c∈sg.cps.extract i (i+1):=by rw[e'];simp
   obtain⟨k,hk,e2⟩:=Array.mem_extract_iff_getElem.mp hm;rw[<- e2];exact Lb _
theorem JK{sg:Str}(h:sg.cps.toList.all (inS sg)=true)(c:Nat):inS sg c=decide (c∈sg.cps.toList):=by
 by_cases hc:c∈sg.cps.toList
 ·rw[cR hc];exact jt.mp h c hc
 ·rw[dB hc];exact Z7 hc
def Ai(c:Nat):Bool:=decide (c=35\/(48<=c/\c<=56))
theorem W9(c:Nat):inS "#012345678" c=Ai c:=by
 rw[JK (by decide +kernel)];have e:("#012345678" : Str).cps.toList=[35,48,49,50,51,52,53,54,55,56]:=by decide +kernel
 rw[e];by_cases h:c<57
 ·exact(by decide +kernel:∀ k∈List.range 57,decide (k∈[35,48,49,50,51,52,53,54,55,56])=Ai k) c (cH.mpr h)
 ·have n1:¬c∈[35,48,49,50,51,52,53,54,55,56]:=fun z=>h ((by decide:∀ k∈[35,48,49,50,51,52,53,54,55,56],k<57) c z)
  have n2:Ai c=false:=by unfold Ai;exact dB (by lia)
  rw[dB n1,n2]
theorem Rq(c:Nat):inS "#" c=decide (c=35):=by
 rw[JK (by decide +kernel)];have e:("#" : Str).cps.toList=[35]:=by decide +kernel
 rw[e];simp
structure Vw(zs:List Str)(w:Nat):Prop extends Rect zs w where
 sg:∀ z∈zs,∀ c∈z.cps.toList,Ai c=true
theorem uW{h w:Nat}{st kn:List Cell}(h1:1<=h)(h6:h<=6)(w1:1<=w)(w6:w<=6):Vw (aO h w st kn) w:=by
 have hl:(aO h w st kn).length=h:=by unfold aO;rw[aZ,jM]
 refine⟨⟨by lia,by lia,w1,w6,fun z hz=>?_⟩,fun z hz c hc=>?_⟩
 ·obtain⟨r,_,rfl⟩:=cD.mp hz;exact Xw _ _ _ _ _ _
 ·obtain⟨r,_,rfl⟩:=cD.mp hz;unfold uQ at hc;simp only[cD] at hc;obtain⟨k,_,rfl⟩:=hc;unfold qe Ai;have:=N7 h w st ((r:Int),(k:Int));split
  ·exact cR (.inr ⟨by lia,by lia⟩)
  ·exact cR (.inl rfl)
def zZ(z:Str)(n:Int):Bool:=decide ((z.length:Int)=n)&&z.cps.toList.all (inS "#012345678")
def xK:List Str->Bool
 |[]=>false
 |z::zs=>decide ((z::zs).length<=6)&&decide (1<=z.length/\z.length<=6)&&(z::zs).all fun r=>zZ r z.length
theorem Ar{z:Str}{zs:List Str}(h1:(z::zs).length<=6)(h2:1<=z.length)(h3:z.length<=6):xK (z::zs)=(z::zs).all fun r=>zZ r z.length:=by
 show(decide ((z::zs).length<=6)&&decide (1<=z.length/\z.length<=6)&&_)=_;rw[cR h1,cR (And.intro h2 h3)];rfl
theorem KN{z:Str}{zs:List Str}(h1:¬(z::zs).length<=6):xK (z::zs)=false:=by
 show(decide ((z::zs).length<=6)&&_&&_)=_;rw[dB h1];rfl
theorem KQ{z:Str}{zs:List Str}(h1:¬(1<=z.length/\z.length<=6)):xK (z::zs)=false:=by
 show(_&&decide (1<=z.length/\z.length<=6)&&_)=_;rw[dB h1,rD];rfl
theorem Vw.ok{zs:List Str}{w:Nat}(v:Vw zs w):xK zs=true:=by
 obtain⟨z,zt,rfl,hz⟩:=v.toRect.head;rw[Ar v.le (by have:=v.w1;lia) (by have:=v.w6;lia),jt];intro r hr;unfold zZ;rw[cR (by rw[v.len r hr,hz]),rM,jt];intro c hc;rw[W9];exact v.sg r hr c hc
def uz(l:Addr)(h w:Int):List (Str×V):=cX "width" (.int w) (cX "height" (.int h) (cX "rows" (.ref l) []))
theorem JC(l:Addr)(h w:Int):(uz l h w).lookup ("rows" : Str)=some (.ref l):=by
 unfold uz;rw[bA,aG (by decide +kernel),bA,aG (by decide +kernel),bA,aJ rfl]
theorem qG(l:Addr)(h w:Int):(uz l h w).lookup ("height" : Str)=some (.int h):=by
 unfold uz;rw[bA,aG (by decide +kernel),bA,aJ rfl]
theorem uD(l:Addr)(h w:Int):(uz l h w).lookup ("width" : Str)=some (.int w):=by
 unfold uz;rw[bA,aJ rfl]
structure bW(C:Addr)(H:Hp)(x:Addr)(zs:List Str)(w:Nat):Prop where
 ob:∃ dx l,H x=some (.ins C dx (uz l zs.length w))/\H l=some (.lst (zs.map V.str))
 vw:Vw zs w
theorem bW.mono{C:Addr}{H H':Hp}{x:Addr}{zs:List Str}{w:Nat}(v:bW C H x zs w)(s:Same H H'):bW C H' x zs w:=let ⟨dx,l,a,b⟩:=v.ob;⟨⟨dx,l,s _ _ a,s _ _ b⟩,v.vw⟩
def aH(zs:List Str)(w:Nat)(x:Cell):Bool:=decide (inF zs.length w x)&&decide (codeAt zs (x.1.toNat,x.2.toNat)=35)
def aU(zs:List Str)(w:Nat):List Cell:=(bI zs.length w).filter (aH zs w)
theorem uo(zs:List Str)(w:Nat):aU zs w=vN zs w "#":=by
 unfold aU vN bI;rw[List.filter_flatMap];have key:∀ r∈List.range zs.length,((List.range w).map fun c:Nat=>((r:Int),(c:Int))).filter (aH zs w)=((List.range w).filter fun c=>inS "#" (codeAt zs (r,c))).map fun c:Nat=>((r:Int),(c:Int)):=by
  intro r hr;rw[List.filter_map];congr 1;refine FW fun c hc=>?_
  rw[cH] at hr hc;show aH zs w ((r:Int),(c:Int))=_;unfold aH;rw[Rq,cR (show inF zs.length w ((r:Int),(c:Int)) from⟨⟨by show(0:Int)<=(r:Int);lia,by show(r:Int)<zs.length;lia⟩,⟨by show(0:Int)<=(c:Int);lia,by show(c:Int)<w;lia⟩⟩),rM];rfl
 have go:∀ l:List Nat,(∀ r∈l,r∈List.range zs.length)->l.flatMap (fun r:Nat=>((List.range w).map fun c:Nat=>((r:Int),(c:Int))).filter (aH zs w))=l.flatMap (fun r:Nat=>((List.range w).filter fun c=>inS "#" (codeAt zs (r,c))).map fun c:Nat=>((r:Int),(c:Int))):=by
  intro l
  induction l with
  |nil=>intro _;rfl
  |cons a l ih=>intro h;rw[xQ,xQ,key a (h a cZ),ih fun r hr=>h r (f9 _ hr)]
 exact go _ fun r hr=>hr
def yr(w:Nat)(x:Cell)(r:Int):List Cell:=((List.range ((min (x.2+2) w)-(max (x.2-1) 0)).toNat).map fun k:Nat=>(r,max (x.2-1) 0+(k:Int))).filter fun y=>!decide (y=x)
def pB(w:Nat)(x:Cell)(lo:Int)(n:Nat):List Cell:=(List.range n).flatMap fun k:Nat=>yr w x (lo+(k:Int))
def K9(h w:Nat)(x:Cell):List Cell:=pB w x (max (x.1-1) 0) ((min (x.1+2) h)-(max (x.1-1) 0)).toNat
theorem Qo:∀ h∈List.range 7,∀ w∈List.range 7,∀ r∈List.range h,∀ c∈List.range w,K9 h w ((r:Int),(c:Int))=fO h w ((r:Int),(c:Int)):=by decide +kernel
theorem T7{h w:Nat}{x:Cell}(h6:h<=6)(w6:w<=6)(hx:inF h w x):K9 h w x=fO h w x:=by
 obtain⟨⟨a,b⟩,⟨c,d⟩⟩:=hx;have:=Qo h (cH.mpr (by lia)) w (cH.mpr (by lia)) x.1.toNat (cH.mpr (by lia)) x.2.toNat (cH.mpr (by lia));have e:(((x.1.toNat:Nat):Int),((x.2.toNat:Nat):Int))=x:=jD (by show((x.1.toNat:Nat):Int)=x.1;lia) (by show((x.2.toNat:Nat):Int)=x.2;lia);rw[e] at this;exact this
def aL(zs:List Str)(w:Nat)(x:Cell):List Cell:=(fO zs.length w x).filter fun y=>!aH zs w y
def aB(zs:List Str)(w:Nat)(x:Cell):List Cell:=(fO zs.length w x).filter fun y=>aH zs w y
open PySem.W
section
variable{prog:Program}{w:World}{A:Around}{E:Value->Shared->Prop}{s:Shared}
abbrev Keeps(h h':Heap):Prop:=∀ b o,h.get? b=some o->h'.get? b=some o
end
def aP(a b:Cell):Prop:=a.1<b.1\/(a.1=b.1/\a.2<b.2)
instance(a b:Cell):Decidable (aP a b):=by unfold aP;infer_instance
section
variable{X:Cx}
theorem lK{pins:List (Addr×Obj)}{zzs:L2.St}{H:Hp}{s:Shared}{v:V}{u:Value}{c:Cell}(I:Inv X pins zzs H s)(d:Den X.K H v (au c))(r:RelV v u):∃(a:Addr)(o:Obj)(t t':Tok)(n:Nat),u=.ref a/\s.heap.get? a=some o/\o.cls=.type "tuple" /\ o.data=.seq #[.int c.1 t,.int c.2 t'] n:=by
 obtain⟨a,rfl,ht,_⟩:=cV d;cases r;obtain⟨its,rv,⟨o,e,hc,n,hd⟩,_⟩:=I.tuple ht;obtain⟨u1,u2,rfl,⟨t,rfl⟩,⟨t',rfl⟩⟩:=vals2 rv;exact⟨a,o,t,t',n,rfl,e,hc,hd⟩
end
section
variable{X:Cx}{K:ak}
theorem Nx:OpR X (compareOp .IsNot) (fun x y H Q=>∃ a b,x=.bl a/\y=.bl b/\Q (.bl (!decide (a=b))) H):=by
 intro pins s zzs H x y v u Q I rx ry h;obtain⟨a,b,rfl,rfl,q⟩:=h;cases rx;cases ry;refine wpAny_isNot_plain (by cases a<;>cases b<;>rfl) (bY I q ?_);cases a<;>cases b<;>rfl
end
structure jF{α:Type}(lt:α->α->Bool):Prop where
 GJ:∀ a b,lt a b=true->lt b a=false
 tr:∀ a b c,lt b a=false->lt c b=false->lt c a=false
 anti:∀ a b,lt a b=false->lt b a=false->a=b
theorem jF.refl{α:Type}{lt:α->α->Bool}(o:jF lt)(a:α):lt a a=false:=by
 cases h:lt a a
 ·rfl
 ·rw[<- h];exact o.GJ a a h▸rfl
structure Good(N:Nat)(p:Array Nat):Prop where
 perm:p.toList.Perm (List.range N)
theorem Good.size{N:Nat}{p:Array Nat}(g:Good N p):p.size=N:=by
 have:=g.perm.length_eq;simpa using this
section
variable{α:Type}{lt:α->α->Bool}{f:Nat->α}{N:Nat}{s:Shared}{cmp:Nat->Nat->(Bool->Shared->Prop)->Shared->Prop}
def Ky(f:Nat->α)(p:Array Nat)(i:Nat):α:=f (p.getD i 0)
def Gz(lt:α->α->Bool)(f:Nat->α)(p:Array Nat)(n:Nat):Prop:=∀ i,i+1<n->lt (Ky f p (i+1)) (Ky f p i)=false
theorem Gz.le(o:jF lt){p:Array Nat}{n:Nat}(u:Gz lt f p n):∀ d i,i+d<n->lt (Ky f p (i+d)) (Ky f p i)=false:=by
 intro d
 induction d with
 |zero=>intro i _;exact o.refl _
 |succ d ih=>intro i h;exact o.tr _ _ _ (ih i (by lia)) (u (i+d) (by omega))
end
namespace TS
def el(xs:Array Keyed)(i:Nat):Keyed:=xs.getD i (Value.none,Value.none)
theorem vW{xs:Array Keyed}{i:Nat}(h:i<xs.size):el xs i∈xs.toList:=by
 unfold el;rw[mY,jk h];exact Lb h
theorem oV{xs:Array Keyed}{i:Nat}(h:i<xs.size):xs[i]?=some (el xs i):=by
 unfold el;rw[mY,jk h];rfl
section
variable{α:Type}{lt:α->α->Bool}{M:Model}{A:Around}{E:Value->Shared->Prop}{s:Shared}{κ:SortKind}{key:Keyed->α}{a₀:Array Keyed}
structure Env(M:Model)(A:Around)(s:Shared)(κ:SortKind)(key:Keyed->α)(lt:α->α->Bool)(a₀:Array Keyed):Prop where
 o:jF lt
 ask:∀ x y,x∈a₀.toList->y∈a₀.toList->∀ C:Bool->Shared->Prop,C (lt (key x) (key y)) s->wpAny M A (keyLt' κ x.1 y.1) C (fun _ _=>False) s
def Srt(lt:α->α->Bool)(key:Keyed->α)(xs:Array Keyed)(i j:Nat):Prop:=∀ p q,i<=p->p<=q->q<j->lt (key (el xs q)) (key (el xs p))=false
def Fal(lt:α->α->Bool)(key:Keyed->α)(xs:Array Keyed)(i j:Nat):Prop:=∀ p q,i<=p->p<=q->q<j->lt (key (el xs p)) (key (el xs q))=false
theorem Ja(e:Env M A s κ key lt a₀){x y:Keyed}(hx:x∈a₀.toList)(hy:y∈a₀.toList){st:SortSt}(hk:kindOf st=κ){Q:Option Bool->SortSt->Prop}(h:Q (some (lt (key x) (key y))) st):wpS M A E s (lt' x y) Q st:=by
 rw[lt'_eq];refine aW (jW ?_);rw[hk];refine aW (ud (wpAny_attempt (jw (e.ask x y hx hy (fun b s'=>s'=s/\b=lt (key x) (key y)) ⟨rfl,rfl⟩) ?_ fun _ _ z=>z.elim)));rintro b s' ⟨rfl,rfl⟩;exact⟨rfl,bf h⟩
theorem dJ{xs:Array Keyed}{i:Nat}(h:i<xs.size){st:SortSt}{Q:Keyed->SortSt->Prop}(q:Q (el xs i) st):wpS M A E s (elem' xs i) Q st:=by
 rw[elem'_eq,oV h];exact bf q
theorem zP{xs:Array Keyed}(hp:xs.Perm a₀){i:Nat}(h:i<a₀.size):el xs i∈a₀.toList:=
 hp.toList.mem_iff.mp (vW (by rw[hp.size_eq];exact h))
theorem sG(e:Env M A s κ key lt a₀){st:SortSt}(hk:kindOf st=κ)(hp:(arrOf st).Perm a₀){i j:Nat}(hi:i<a₀.size)(hj:j<a₀.size){Q:Option Bool->SortSt->Prop}(h:Q (some (lt (key (el (arrOf st) i)) (key (el (arrOf st) j)))) st):wpS M A E s (ltAt' i j) Q st:=by
 rw[ltAt'_eq];refine aW (jW ?_);exact aW (dJ (by rw[hp.size_eq];exact hi) (aW (dJ (by rw[hp.size_eq];exact hj) (Ja e (zP hp hi) (zP hp hj) hk h))))
theorem nM{xs ys:Array Keyed}{i j:Nat}(h:xs[i]?=ys[j]?):el xs i=el ys j:=by
 unfold el;rw[mY,mY,h]
theorem rT{xs:Array Keyed}{i j:Nat}(hj:j<=xs.size)(k:Nat):el (mirror xs i j ((j-i) / 2)) k=if i<=k/\k<j then el xs (i+j-1-k) else el xs k:=by
 have e:=getElem?_mirror_all (i:=i) hj k;by_cases h1:i<=k/\k<j
 ·rw[aJ h1] at e ⊢;exact nM e
 ·rw[aG h1] at e ⊢;exact nM e
theorem vU{xs:Array Keyed}{a d:Nat}(hs:a<xs.size)(hd:d<=a)(k:Nat):el (bubble xs a d) k=if k=a-d then el xs a else if a-d<k/\k<=a then el xs (k-1) else el xs k:=by
 have e:=getElem?_bubble hs d hd k;by_cases h1:k=a-d
 ·rw[aJ h1] at e ⊢;exact nM e
 ·rw[aG h1] at e ⊢;by_cases h2:a-d<k/\k<=a
  ·rw[aJ h2] at e ⊢;exact nM e
  ·rw[aG h2] at e ⊢;exact nM e
def Low(xs ys:Array Keyed)(lo:Nat):Prop:=∀ i,i<lo->el xs i=el ys i
theorem Low.refl{xs:Array Keyed}{lo:Nat}:Low xs xs lo:=fun _ _=>rfl
theorem Low.trans{xs ys zs:Array Keyed}{lo:Nat}(h:Low xs ys lo)(g:Low ys zs lo):Low xs zs lo:=fun i hi=>(h i hi).trans (g i hi)
theorem p8{xs:Array Keyed}{i j lo:Nat}(hj:j<=xs.size)(h:lo<=i):Low (mirror xs i j ((j-i) / 2)) xs lo:=fun k hk=>by
 rw[rT hj,aG (by lia)]
def asl(lo m z:Nat):StateT SortSt Sem (Option Nat):=do
 let mut m:=m
 for _ in [m:z] do
  let some u <- ltAt' (lo+m) (lo+m-1)|return none
  if u then break
  m:=m+1
 return some m
def dsl(lo m z:Nat):StateT SortSt Sem (Option Nat):=do
 (rule "list.sort.descending-run" : Sem Unit)
 let mut m:=m+1
 let mut q:=0
 for _ in [m:z] do
  let some u <- ltAt' (lo+m) (lo+m-1)|return none
  if u then
   if q>0 then reverseSlice' (lo+m-(q+1)) (lo+m)
   q:=0
  else
   let some v <- ltAt' (lo+m-1) (lo+m)|return none
   if v then break
   q:=q+1
  m:=m+1
 if q>0 then
  reverseSlice' (lo+m-(q+1)) (lo+m)
  reverseSlice' lo (lo+m)
  asl lo m z
 else
  reverseSlice' lo (lo+m)
  asl lo m z
theorem Srt.one{xs:Array Keyed}{i:Nat}(o:jF lt):Srt lt key xs i (i+1):=fun p q a b c=>by
 have:p=q:=by lia
 subst this;exact o.refl _
theorem Srt.more{xs:Array Keyed}{lo x:Nat}(o:jF lt)(h1:1<=x)(hs:Srt lt key xs lo (lo+x))(hl:lt (key (el xs (lo+x))) (key (el xs (lo+x-1)))=false):Srt lt key xs lo (lo+(x+1)):=fun p q a b c=>by
 by_cases hq:q<lo+x
 ·exact hs p q a b hq
 ·have:q=lo+x:=by lia
  subst this;by_cases hp:p=lo+x
  ·subst hp;exact o.refl _
  ·exact o.tr _ _ _ (hs p (lo+x-1) a (by lia) (by lia)) hl
theorem Fal.more{xs:Array Keyed}{lo x:Nat}(o:jF lt)(h1:1<=x)(hs:Fal lt key xs lo (lo+x))(hl:lt (key (el xs (lo+x-1))) (key (el xs (lo+x)))=false):Fal lt key xs lo (lo+(x+1)):=fun p q a b c=>by
 by_cases hq:q<lo+x
 ·exact hs p q a b hq
 ·have:q=lo+x:=by lia
  subst this;by_cases hp:p=lo+x
  ·subst hp;exact o.refl _
  ·exact o.tr _ _ _ hl (hs p (lo+x-1) a (by lia) (by lia))
theorem Bv{b:Bool}(h:¬b=true):b=false:=by cases b<;>simp_all
theorem a0u(e:Env M A s κ key lt a₀){st:SortSt}(hk:kindOf st=κ)(hp:(arrOf st).Perm a₀){lo m z:Nat}(h1:1<=m)(h2:m<=z)(hz:lo+z<=a₀.size){Q:Option Nat->SortSt->Prop}(hs:Srt lt key (arrOf st) lo (lo+m))
  (h:∀ n,1<=n->n<=z->Srt lt key (arrOf st) lo (lo+n)->Q (some n) st):wpS M A E s (asl lo m z) Q st:=by
 unfold asl;refine aW (jx (ju (I:=fun x c st'=>st'=st/\c=(none,x)/\Srt lt key (arrOf st) lo (lo+x))
  (Q:=fun c st'=>st'=st/\∃ x,c=(none,x)/\1<=x/\x<=z/\Srt lt key (arrOf st) lo (lo+x)) ?step ?fin ?init) ?post)
 case init=>exact⟨rfl,rfl,hs⟩
 case fin=>
  rintro c st' ⟨rfl,rfl,g⟩;rw[show max m z=z by lia] at g ⊢;exact⟨rfl,z,rfl,by lia,bB _,g⟩
 case step=>
  rintro x c st' hax hxn ⟨rfl,rfl,hs⟩;dsimp only;refine aW (sG e hk hp (by lia) (by lia) ?_);dsimp only;by_cases hb:lt (key (el (arrOf st') (lo+x))) (key (el (arrOf st') (lo+x-1)))=true
  ·rw[aJ hb];exact bf ⟨rfl,x,rfl,by lia,by lia,hs⟩
  ·rw[aG hb];exact bf ⟨rfl,rfl,hs.more e.o (by lia) (Bv hb)⟩
 case post=>
  rintro c st' ⟨rfl,x,rfl,a1,a2,hs⟩;exact bf (h x a1 a2 hs)
theorem Fl{st:SortSt}{i j:Nat}{Q:Unit->SortSt->Prop}(h:Q () (setArr st (mirror (arrOf st) i j ((j-i) / 2)))):wpS M A E s (reverseSlice' i j) Q st:=by
 rw[reverseSlice'_eq];exact oG h
theorem vV{xs:Array Keyed}{i j:Nat}(hj:j<=xs.size)(he:∀ k,i<=k->k<j->key (el xs k)=key (el xs (j-1)))(k:Nat):key (el (mirror xs i j ((j-i) / 2)) k)=key (el xs k):=by
 rw[rT hj];by_cases h:i<=k/\k<j
 ·rw[aJ h,he _ (by lia) (by lia),he k h.1 h.2]
 ·rw[aG h]
theorem Ur(e:Env M A s κ key lt a₀){st:SortSt}(hk:kindOf st=κ)(hp:(arrOf st).Perm a₀){lo m z:Nat}(h2:m+1<=z)(hz:lo+z<=a₀.size){Q:Option Nat->SortSt->Prop}(hs:Fal lt key (arrOf st) lo (lo+(m+1)))
  (h:∀ n xs,xs.Perm a₀->Low xs (arrOf st) lo->1<=n->n<=z->Srt lt key xs lo (lo+n)->Q (some n) (setArr st xs)):wpS M A E s (dsl lo m z) Q st:=by
 unfold dsl;refine aW (ud (uc ⟨rfl,?_⟩))
 let Eq:Array Keyed->Nat->Nat->Prop:=fun xs x q=>∀ i,lo+x-(q+1)<=i->i<lo+x->key (el xs i)=key (el xs (lo+x-1))
 refine aW (jx (ju (I:=fun x c st'=>∃ xs q,st'=setArr st xs/\c=(none,x,q)/\xs.Perm a₀/\Low xs (arrOf st) lo/\Fal lt key xs lo (lo+x)/\q+1<=x/\Eq xs x q)
  (Q:=fun c st'=>∃ xs x q,st'=setArr st xs/\c=(none,x,q)/\xs.Perm a₀/\Low xs (arrOf st) lo/\1<=x/\x<=z/\Fal lt key xs lo (lo+x)/\q+1<=x/\Eq xs x q) ?step ?fin ?init) ?post)
 case init=>
  refine⟨arrOf st,0,rfl,rfl,hp,Low.refl,hs,by lia,fun i a b=>?_⟩;have:i=lo+(m+1)-1:=by lia
  rw[this]
 case fin=>
  rintro c st' ⟨xs,q,rfl,rfl,a1,a2,a3,a4,a5⟩;rw[show max (m+1) z=z by lia] at a3 a4 a5 ⊢;exact⟨xs,z,q,rfl,rfl,a1,a2,by lia,bB _,a3,a4,a5⟩
 case step=>
  rintro x c st' hax hxn ⟨xs,q,rfl,rfl,a1,a2,a3,a4,a5⟩;have sz:xs.size=a₀.size:=a1.size_eq;dsimp only;refine aW (sG e (st:=setArr st xs) hk a1 (by lia) (by lia) ?_);dsimp only;show wpS M A E s _ _ (setArr st xs);by_cases hb:lt (key (el xs (lo+x))) (key (el xs (lo+x-1)))=true
  ·rw[aJ hb];have one:∀ ys:Array Keyed,Eq ys (x+1) 0:=fun ys i a b=>by
    have:i=lo+(x+1)-1:=by lia
    rw[this]
   have fm:∀ ys:Array Keyed,(∀ k,key (el ys k)=key (el xs k))->Fal lt key ys lo (lo+(x+1)):=fun ys hy=>by
    have:=a3.more e.o (by lia) (e.o.GJ _ _ hb);intro p q b1 b2 b3;rw[hy,hy];exact this p q b1 b2 b3
   by_cases hq:q>0
   ·rw[aJ hq];refine aW (Fl (bf ⟨_,0,rfl,rfl,(Bm _ _ _ _).trans a1,(p8 (by show _<=xs.size;lia) (by lia)).trans a2,fm _ (vV (by show _<=xs.size;lia) a5),by lia,one _⟩))
   ·rw[aG hq];exact bf ⟨xs,0,rfl,rfl,a1,a2,fm _ fun _=>rfl,by lia,one _⟩
  ·rw[aG hb];refine aW (sG e (st:=setArr st xs) hk a1 (by lia) (by lia) ?_);dsimp only;show wpS M A E s _ _ (setArr st xs);by_cases hd:lt (key (el xs (lo+x-1))) (key (el xs (lo+x)))=true
   ·rw[aJ hd];exact bf ⟨xs,x,q,rfl,rfl,a1,a2,by lia,by lia,a3,a4,a5⟩
   ·rw[aG hd];have ek:key (el xs (lo+x))=key (el xs (lo+x-1)):=e.o.anti _ _ (Bv hb) (Bv hd);refine bf ⟨xs,q+1,rfl,rfl,a1,a2,a3.more e.o (by lia) (Bv hd),by lia,fun i b1 b2=>?_⟩;rw[show lo+(x+1)-1=lo+x by lia];by_cases hi:i=lo+x
    ·rw[hi]
    ·rw[ek];exact a5 i (by lia) (by lia)
 case post=>
  rintro c st' ⟨xs,x,q,rfl,rfl,a1,a2,a3,a4,a5,a6,a7⟩;have sz:xs.size=a₀.size:=a1.size_eq;dsimp only;have fin:∀ ys:Array Keyed,ys.Perm a₀->Low ys (arrOf st) lo->(∀ k,key (el ys k)=key (el xs k))->wpS M A E s (reverseSlice' lo (lo+x) >>= fun _=>asl lo x z) Q (setArr st ys):=fun ys hy ly ky=>by
   have sy:ys.size=a₀.size:=hy.size_eq;refine aW (Fl ?_);show wpS M A E s _ _ (setArr st (mirror ys lo (lo+x) ((lo+x-lo) / 2)));refine a0u e (st:=setArr st (mirror ys lo (lo+x) ((lo+x-lo) / 2))) hk (show(mirror ys lo (lo+x) ((lo+x-lo) / 2)).Perm a₀ from(Bm _ _ _ _).trans hy) a3 a4 hz ?_ fun n n1 n2 n3=>h n _ ((Bm _ _ _ _).trans hy) ((p8 (by lia) (bB _)).trans ly) n1 n2 n3
   intro p q b1 b2 b3;show lt (key (el (mirror ys lo (lo+x) ((lo+x-lo) / 2)) q)) (key (el (mirror ys lo (lo+x) ((lo+x-lo) / 2)) p))=false;rw[rT (by lia),rT (by lia),aJ (by lia),aJ (by lia),ky,ky];exact a5 _ _ (by lia) (by lia) (by lia)
  by_cases hq:q>0
  ·rw[aJ hq];refine aW (Fl (fin _ ((Bm _ _ _ _).trans a1) ((p8 (by show _<=xs.size;lia) (by lia)).trans a2) (vV (by show _<=xs.size;lia) a7)))
  ·rw[aG hq];exact fin xs a1 a2 fun _=>rfl
theorem Uq(e:Env M A s κ key lt a₀){st:SortSt}(hk:kindOf st=κ)(hp:(arrOf st).Perm a₀){lo z:Nat}(h1:1<=z)(hz:lo+z<=a₀.size){Q:Option Nat->SortSt->Prop}
  (h:∀ m xs,xs.Perm a₀->Low xs (arrOf st) lo->1<=m->m<=z->Srt lt key xs lo (lo+m)->Q (some m) (setArr st xs)):wpS M A E s (countRun' lo z) Q st:=by
 rw[countRun'_eq];have sz:(arrOf st).size=a₀.size:=hp.size_eq;refine aW (jx (ju (I:=fun x c st'=>st'=st/\c=(none,x)/\Srt lt key (arrOf st) lo (lo+x))
  (Q:=fun c st'=>st'=st/\∃ x,c=(none,x)/\1<=x/\x<=z/\Srt lt key (arrOf st) lo (lo+x)/\(x<z->lt (key (el (arrOf st) (lo+x))) (key (el (arrOf st) (lo+x-1)))=true)) ?step ?fin ?init) ?post)
 case init=>exact⟨rfl,rfl,Srt.one e.o⟩
 case fin=>
  rintro c st' ⟨rfl,rfl,g⟩;rw[show max 1 z=z by lia] at g ⊢;exact⟨rfl,z,rfl,by omega,bB _,g,fun a=>absurd a (rK _)⟩
 case step=>
  rintro x c st' hax hxn ⟨rfl,rfl,hs⟩;dsimp only;refine aW (sG e hk hp (by lia) (by lia) ?_);dsimp only;by_cases hb:lt (key (el (arrOf st') (lo+x))) (key (el (arrOf st') (lo+x-1)))=true
  ·rw[aJ hb];exact bf ⟨rfl,x,rfl,by omega,by lia,hs,fun _=>hb⟩
  ·rw[aG hb];exact bf ⟨rfl,rfl,hs.more e.o (by omega) (Bv hb)⟩
 case post=>
  rintro c st' ⟨rfl,x,rfl,a1,a2,hs,hl⟩;dsimp only;have own:Q (some x) st':=h x (arrOf st') hp Low.refl a1 a2 hs;by_cases hx:x=z
  ·rw[aJ (by simpa using hx)];exact bf own
  ·rw[aG (by simpa using hx)];have hl':=hl (by lia);by_cases hg:x>1
   ·rw[aJ hg];refine aW (sG e hk hp (by lia) (by lia) ?_);dsimp only;by_cases hb:lt (key (el (arrOf st') lo)) (key (el (arrOf st') (lo+x-1)))=true
    ·rw[aJ hb];exact bf own
    ·rw[aG hb];have hall:∀ k,lo<=k->k<lo+x->key (el (arrOf st') k)=key (el (arrOf st') (lo+x-1)):=fun k c1 c2=>
      e.o.anti _ _ (e.o.tr _ _ _ (Bv hb) (hs lo k (bB _) c1 c2)) (hs k (lo+x-1) c1 (by lia) (by lia))
     refine aW (Fl ?_);have hm:(mirror (arrOf st') lo (lo+x) ((lo+x-lo) / 2)).Perm a₀:=(Bm _ _ _ _).trans hp;have lm:Low (mirror (arrOf st') lo (lo+x) ((lo+x-lo) / 2)) (arrOf st') lo:=p8 (by lia) (bB _);change wpS M A E s (dsl lo x z) Q _;refine Ur e (st:=setArr st' (mirror (arrOf st') lo (lo+x) ((lo+x-lo) / 2))) hk (show(mirror (arrOf st') lo (lo+x) ((lo+x-lo) / 2)).Perm a₀ from hm) (by lia) hz ?_ fun n xs b1 b2 b3 b4 b5=>h n xs b1 (b2.trans lm) b3 b4 b5
     show Fal lt key (mirror (arrOf st') lo (lo+x) ((lo+x-lo) / 2)) lo (lo+(x+1));refine Fal.more e.o (by omega) (fun p q b1 b2 b3=>?_) ?_
     ·rw[vV (by lia) hall,vV (by lia) hall,hall p (by omega) (by lia),hall q (by lia) (by omega)];exact e.o.refl _
     ·rw[vV (by lia) hall,vV (by lia) hall];exact e.o.GJ _ _ hl'
   ·rw[aG hg];change wpS M A E s (dsl lo x z) Q _;refine Ur e hk hp (by lia) hz ?_ h;have:x=1:=by lia
    subst this;refine Fal.more e.o (by omega) (fun p q b1 b2 b3=>?_) (e.o.GJ _ _ hl');have:p=q:=by lia
    subst this;exact e.o.refl _
theorem a0v(e:Env M A s κ key lt a₀){st:SortSt}(hk:kindOf st=κ)(hp:(arrOf st).Perm a₀){lo n m:Nat}(hm:1<=m)(hmn:m<=n)(hz:lo+n<=a₀.size){Q:Bool->SortSt->Prop}(hs:Srt lt key (arrOf st) lo (lo+m))
  (h:∀ xs,xs.Perm a₀->Low xs (arrOf st) lo->Srt lt key xs lo (lo+n)->Q true (setArr st xs)):wpS M A E s (binarySort' lo n m) Q st:=by
 rw[binarySort'_eq];rw[show max m 1=m by lia];refine aW (jx (ju (I:=fun k c st'=>∃ xs,st'=setArr st xs/\c=(none,())/\xs.Perm a₀/\Low xs (arrOf st) lo/\Srt lt key xs lo (lo+k))
  (Q:=fun c st'=>∃ xs,st'=setArr st xs/\c=(none,())/\xs.Perm a₀/\Low xs (arrOf st) lo/\Srt lt key xs lo (lo+n)) ?step ?fin ?init) ?post)
 case init=>exact⟨arrOf st,rfl,rfl,hp,Low.refl,hs⟩
 case fin=>
  rintro c st' ⟨xs,rfl,rfl,a1,a2,a3⟩;rw[show max m n=n by lia] at a3;exact⟨xs,rfl,rfl,a1,a2,a3⟩
 case post=>
  rintro c st' ⟨xs,rfl,rfl,a1,a2,a3⟩;exact bf (h xs a1 a2 a3)
 case step=>
  rintro k c st' hk1 hk2 ⟨xs,rfl,rfl,a1,a2,a3⟩;have sz:xs.size=a₀.size:=a1.size_eq;refine aW (jx (ju (I:=fun x c st'=>st'=setArr st xs/\∃ l r,c=(none,l,r)/\l<=r/\r<=k/\r-l<=k-x /\
    (∀ i,i<l->lt (key (el xs (lo+k))) (key (el xs (lo+i)))=false)/\(∀ i,r<=i->i<k->lt (key (el xs (lo+i))) (key (el xs (lo+k)))=false))
   (Q:=fun c st'=>st'=setArr st xs/\∃ l r,c=(none,l,r)/\l<=k /\
    (∀ i,i<l->lt (key (el xs (lo+k))) (key (el xs (lo+i)))=false)/\(∀ i,l<=i->i<k->lt (key (el xs (lo+i))) (key (el xs (lo+k)))=false)) ?is ?ie ?ii) ?ip)
  case ii=>exact⟨rfl,0,k,rfl,by lia,by lia,by lia,fun i hi=>by lia,fun i b c=>by lia⟩
  case ie=>
   rintro c st' ⟨rfl,l,r,rfl,b1,b2,b3,b4,b5⟩;have:l=r:=by lia
   subst this;exact⟨rfl,l,l,rfl,b2,b4,b5⟩
  case is=>
   rintro x c st' _ hx ⟨rfl,l,r,rfl,b1,b2,b3,b4,b5⟩;dsimp only;by_cases hge:l>=r
   ·rw[aJ hge];have:l=r:=by lia
    subst this;exact bf ⟨rfl,l,l,rfl,b2,b4,b5⟩
   ·rw[aG hge];refine aW (sG e (st:=setArr st xs) hk a1 (by lia) (by lia) ?_);dsimp only;show wpS M A E s _ _ (setArr st xs);by_cases hb:lt (key (el xs (lo+k))) (key (el xs (lo+(l+r) / 2)))=true
    ·rw[aJ hb];refine bf ⟨rfl,l,(l+r) / 2,rfl,by lia,by lia,by lia,b4,fun i c1 c2=>?_⟩;exact e.o.tr _ _ _ (e.o.GJ _ _ hb) (a3 (lo+(l+r) / 2) (lo+i) (by lia) (by lia) (by lia))
    ·rw[aG hb];refine bf ⟨rfl,(l+r) / 2+1,r,rfl,by lia,by omega,by lia,fun i c1=>?_,b5⟩;exact e.o.tr _ _ _ (a3 (lo+i) (lo+(l+r) / 2) (by lia) (by lia) (by lia)) (Bv hb)
  case ip=>
   rintro c st' ⟨rfl,l,r,rfl,b2,b4,b5⟩;dsimp only;rw[moveDown'_eq];refine aW (oG (bf ⟨_,rfl,rfl,(bubble_perm _ _ _).trans a1,fun i hi=>?_,?_⟩))
   ·show el (bubble xs (lo+k) (lo+k-(lo+l))) i=_;rw[vU (by lia) (by lia),aG (by lia),aG (by lia)];exact a2 i hi
   ·intro p q c1 c2 c3;show lt (key (el (bubble xs (lo+k) (lo+k-(lo+l))) q)) (key (el (bubble xs (lo+k) (lo+k-(lo+l))) p))=false;rw[vU (by lia) (by lia),vU (by lia) (by lia),show lo+k-(lo+k-(lo+l))=lo+l by lia];have b4':∀ i,lo<=i->i<lo+l->lt (key (el xs (lo+k))) (key (el xs i))=false:=fun i d1 d2=>by
     have:=b4 (i-lo) (by lia);rwa[show lo+(i-lo)=i by lia] at this
    have b5':∀ i,lo+l<=i->i<lo+k->lt (key (el xs i)) (key (el xs (lo+k)))=false:=fun i d1 d2=>by
     have:=b5 (i-lo) (by lia) (by lia);rwa[show lo+(i-lo)=i by lia] at this
    repeat' split
    all_goals first
     |(exfalso;lia)
     |exact e.o.refl _
     |exact b4' _ (by omega) (by lia)
     |exact b5' _ (by lia) (by lia)
     |exact a3 _ _ (by lia) (by lia) (by lia)
end
end TS
end L2
namespace L2
open PySem PySem.Spec PyProof.Rows PySem.W
namespace TS
def gal:Bool->Keyed->Array Keyed->Nat->Nat->Nat->StateT SortSt Sem (Option Nat):=sortPriv% PySem.Builtin.gallop
def bey(l:Bool)(y:Keyed)(xs:Array Keyed)(i:Nat):StateT SortSt Sem (Option Bool):=do
 let x <- elem' xs i
 if l then lt' x y else return (<- lt' y x).map (!·)
theorem Z4(l:Bool)(y:Keyed)(xs:Array Keyed)(b n t:Nat):gal l y xs b n t=(do
 let mut o':=0
 let mut o:=1
 let mut p:=0
 let mut q:=0
 let some r <- bey l y xs (b+t)|return none
 if r then
  let z:=n-t
  for _ in [0:n] do
   if o>=z then break
   let some g <- bey l y xs (b+(t+o))|return none
   if !g then break
   o':=o
   o:=2*o+1
  p:=t+o'+1
  q:=t+min o z
 else
  let z:=t+1
  for _ in [0:n] do
   if o>=z then break
   let some g <- bey l y xs (b+(t-o))|return none
   if g then break
   o':=o
   o:=2*o+1
  p:=t+1-min o z
  q:=t-o'
 for _ in [0:n] do
  if p>=q then break
  let m:=p+(q-p) / 2
  let some g <- bey l y xs (b+m)|return none
  if g then p:=m+1 else q:=m
 return some q):=rfl
section
variable{α:Type}{lt:α->α->Bool}{M:Model}{A:Around}{E:Value->Shared->Prop}{s:Shared}{κ:SortKind}{key:Keyed->α}{a₀:Array Keyed}
def bv(lt:α->α->Bool)(key:Keyed->α)(l:Bool)(y x:Keyed):Bool:=if l then lt (key x) (key y) else !lt (key y) (key x)
theorem Fj(e:Env M A s κ key lt a₀){st:SortSt}(hk:kindOf st=κ){l:Bool}{y:Keyed}{xs:Array Keyed}{i:Nat}(hy:y∈a₀.toList)(hi:i<xs.size)(hx:el xs i∈a₀.toList){Q:Option Bool->SortSt->Prop}(h:Q (some (bv lt key l y (el xs i))) st):wpS M A E s (bey l y xs i) Q st:=by
 unfold bey;refine aW (dJ hi ?_);cases l
 ·refine aW (Ja e hy hx hk (bf ?_));exact h
 ·exact Ja e hx hy hk h
def bsr(l:Bool)(y:Keyed)(xs:Array Keyed)(b n p q:Nat):StateT SortSt Sem (Option Nat):=do
 let mut p:=p
 let mut q:=q
 for _ in [0:n] do
  if p>=q then break
  let m:=p+(q-p) / 2
  let some g <- bey l y xs (b+m)|return none
  if g then p:=m+1 else q:=m
 return some q
theorem Uo(e:Env M A s κ key lt a₀){st:SortSt}(hk:kindOf st=κ){l:Bool}{y:Keyed}{xs:Array Keyed}{b n p q:Nat}(hy:y∈a₀.toList)(hz:b+n<=xs.size)(hm:∀ i,i<n->el xs (b+i)∈a₀.toList)
  (mono:∀ i j,i<=j->j<n->bv lt key l y (el xs (b+j))=true->bv lt key l y (el xs (b+i))=true) {Q:Option Nat->SortSt->Prop} (hpq:p<=q) (hq:q<=n)
  (hp':∀ i,i<p->bv lt key l y (el xs (b+i))=true) (hq':∀ i,q<=i->i<n->bv lt key l y (el xs (b+i))=false)
  (h:∀ k,k<=n->(∀ i,i<k->bv lt key l y (el xs (b+i))=true)->(∀ i,k<=i->i<n->bv lt key l y (el xs (b+i))=false)->Q (some k) st):wpS M A E s (bsr l y xs b n p q) Q st:=by
 unfold bsr;refine aW (jx (ju (I:=fun x c st'=>st'=st/\∃ p q,c=(none,p,q)/\p<=q/\q<=n/\q-p<=n-x/\(∀ i,i<p->bv lt key l y (el xs (b+i))=true)/\(∀ i,q<=i->i<n->bv lt key l y (el xs (b+i))=false))
  (Q:=fun c st'=>st'=st/\∃ p q,c=(none,p,q)/\q<=n/\(∀ i,i<q->bv lt key l y (el xs (b+i))=true)/\(∀ i,q<=i->i<n->bv lt key l y (el xs (b+i))=false)) ?step ?fin ?init) ?post)
 case init=>exact⟨rfl,p,q,rfl,hpq,hq,by lia,hp',hq'⟩
 case fin=>
  rintro c st' ⟨rfl,p,q,rfl,a1,a2,a3,a4,a5⟩;have:p=q:=by lia
  subst this;exact⟨rfl,p,p,rfl,a2,a4,a5⟩
 case post=>
  rintro c st' ⟨rfl,p,q,rfl,a1,a4,a5⟩;exact bf (h q a1 a4 a5)
 case step=>
  rintro x c st' _ hx ⟨rfl,p,q,rfl,a1,a2,a3,a4,a5⟩;dsimp only;by_cases hge:p>=q
  ·rw[aJ hge];have:p=q:=by lia
   subst this;exact bf ⟨rfl,p,p,rfl,a2,a4,a5⟩
  ·rw[aG hge];have c1:p<=p+(q-p) / 2:=by lia
   have c2:p+(q-p) / 2<q:=by lia
   generalize p+(q-p) / 2=m at c1 c2;refine aW (Fj e hk hy (by lia) (hm _ (by lia)) ?_);dsimp only;by_cases hb:bv lt key l y (el xs (b+m))=true
   ·rw[aJ hb];exact bf ⟨rfl,m+1,q,rfl,by lia,a2,by lia,fun i hi=>mono i m (by lia) (by lia) hb,a5⟩
   ·rw[aG hb];refine bf ⟨rfl,p,m,rfl,by omega,by lia,by lia,a4,fun i hi hn=>?_⟩;cases hc:bv lt key l y (el xs (b+i))
    ·rfl
    ·exact absurd (mono m i hi hn hc) hb
theorem rC(e:Env M A s κ key lt a₀){st:SortSt}(hk:kindOf st=κ){l:Bool}{y:Keyed}{xs:Array Keyed}{b n t:Nat}(hy:y∈a₀.toList)(hz:b+n<=xs.size)(hm:∀ i,i<n->el xs (b+i)∈a₀.toList)(ht:t<n)
  (mono:∀ i j,i<=j->j<n->bv lt key l y (el xs (b+j))=true->bv lt key l y (el xs (b+i))=true) {Q:Option Nat->SortSt->Prop}
  (h:∀ k,k<=n->(∀ i,i<k->bv lt key l y (el xs (b+i))=true)->(∀ i,k<=i->i<n->bv lt key l y (el xs (b+i))=false)->Q (some k) st):wpS M A E s (gal l y xs b n t) Q st:=by
 rw[Z4];refine aW (Fj e hk hy (by lia) (hm t ht) ?_);dsimp only;have dn:∀ i j,i<=j->j<n->bv lt key l y (el xs (b+i))=false->bv lt key l y (el xs (b+j))=false:=fun i j h1 h2 h3=>by
  cases hc:bv lt key l y (el xs (b+j))
  ·rfl
  ·rw[mono i j h1 h2 hc] at h3;cases h3
 by_cases hb:bv lt key l y (el xs (b+t))=true
 ·rw[aJ hb];refine aW (jx (ju (I:=fun x c st'=>st'=st/\∃ o' o,c=(none,o',o)/\o'<o/\t+o'<n/\x+1<=o/\bv lt key l y (el xs (b+(t+o')))=true)
   (Q:=fun c st'=>st'=st/\∃ o' o,c=(none,o',o)/\o'<o/\t+o'<n/\bv lt key l y (el xs (b+(t+o')))=true/\(o<n-t->bv lt key l y (el xs (b+(t+o)))=false)) ?step ?fin ?init) ?post)
  case init=>exact⟨rfl,0,1,rfl,by lia,by omega,by lia,hb⟩
  case fin=>
   rintro c st' ⟨rfl,o',o,rfl,a1,a2,a3,a4⟩;exact⟨rfl,o',o,rfl,a1,a2,a4,fun z=>by lia⟩
  case step=>
   rintro x c st' _ hx ⟨rfl,o',o,rfl,a1,a2,a3,a4⟩;dsimp only;by_cases hge:o>=n-t
   ·rw[aJ hge];exact bf ⟨rfl,o',o,rfl,a1,a2,a4,fun z=>by lia⟩
   ·rw[aG hge];refine aW (Fj e hk hy (by lia) (hm _ (by lia)) ?_);dsimp only;cases hc:bv lt key l y (el xs (b+(t+o)))
    ·rw[aJ (by rfl)];exact bf ⟨rfl,o',o,rfl,a1,a2,a4,fun _=>hc⟩
    ·rw[aG (by decide)];exact bf ⟨rfl,o,2*o+1,rfl,by lia,by lia,by lia,hc⟩
  case post=>
   rintro c st' ⟨rfl,o',o,rfl,a1,a2,a4,a5⟩;dsimp only;change wpS M A E s (bsr l y xs b n (t+o'+1) (t+min o (n-t))) Q _;refine Uo e hk hy hz hm mono (by lia) (by lia) (fun i hi=>mono i (t+o') (by lia) a2 a4) (fun i h1 h2=>?_) h;exact dn (t+o) i (by lia) h2 (a5 (by lia))
 ·rw[aG hb];refine aW (jx (ju (I:=fun x c st'=>st'=st/\∃ o' o,c=(none,o',o)/\o'<o/\o'<=t/\x+1<=o/\bv lt key l y (el xs (b+(t-o')))=false)
   (Q:=fun c st'=>st'=st/\∃ o' o,c=(none,o',o)/\o'<o/\o'<=t/\bv lt key l y (el xs (b+(t-o')))=false/\(o<t+1->bv lt key l y (el xs (b+(t-o)))=true)) ?step ?fin ?init) ?post)
  case init=>exact⟨rfl,0,1,rfl,by lia,by lia,by lia,Bv hb⟩
  case fin=>
   rintro c st' ⟨rfl,o',o,rfl,a1,a2,a3,a4⟩;exact⟨rfl,o',o,rfl,a1,a2,a4,fun z=>by lia⟩
  case step=>
   rintro x c st' _ hx ⟨rfl,o',o,rfl,a1,a2,a3,a4⟩;dsimp only;by_cases hge:o>=t+1
   ·rw[aJ hge];exact bf ⟨rfl,o',o,rfl,a1,a2,a4,fun z=>by lia⟩
   ·rw[aG hge];refine aW (Fj e hk hy (by lia) (hm _ (by lia)) ?_);dsimp only;cases hc:bv lt key l y (el xs (b+(t-o)))
    ·rw[aG (by decide)];exact bf ⟨rfl,o,2*o+1,rfl,by lia,by lia,by lia,hc⟩
    ·rw[aJ (by rfl)];exact bf ⟨rfl,o',o,rfl,a1,a2,a4,fun _=>hc⟩
  case post=>
   rintro c st' ⟨rfl,o',o,rfl,a1,a2,a4,a5⟩;dsimp only;change wpS M A E s (bsr l y xs b n (t+1-min o (t+1)) (t-o')) Q _;refine Uo e hk hy hz hm mono (by omega) (by lia) (fun i hi=>?_) (fun i h1 h2=>dn (t-o') i h1 h2 a4) h;exact mono i (t-o) (by lia) (by lia) (a5 (by lia))
end
end TS
end L2
namespace L2
open PySem PySem.Spec PyProof.Rows PySem.W
namespace TS
abbrev cA(st:SortSt)(g:Nat):SortSt:=SortSt.mk' (kindOf st) (arrOf st) (pendingOf st) g (failedOf st)
def mlo:Array Keyed->Array Keyed->StateT SortSt Sem (Array Keyed):=sortPriv% PySem.Builtin.mergeLo
def mhi:Array Keyed->Array Keyed->StateT SortSt Sem (Array Keyed):=sortPriv% PySem.Builtin.mergeHi
theorem Zo(a b:Array Keyed):mlo a b=(do
 (rule "list.sort.merge-lo" : Sem Unit)
 let t:=a.size+b.size
 let fin (o:Array Keyed) (i j:Nat):=o++a.extract i a.size++b.extract j b.size
 let nif (o:Array Keyed) (i j:Nat):=o++b.extract j b.size++a.extract i a.size
 let mut o:Array Keyed:=#[<- elem' b 0]
 let mut i:=0
 let mut j:=1
 if j==b.size then return fin o i j
 if i+1==a.size then return nif o i j
 let mut g:=gallopOf (<- get)
 for _ in [0:t] do
  let mut c:=0
  let mut d:=0
  for _ in [0:t] do
   let some w <- lt' (<- elem' b j) (<- elem' a i)|return fin o i j
   if w then
    o:=o.push (<- elem' b j);j:=j+1;d:=d+1;c:=0
    if j==b.size then return fin o i j
    if d>=g then break
   else
    o:=o.push (<- elem' a i);i:=i+1;c:=c+1;d:=0
    if i+1==a.size then return nif o i j
    if c>=g then break
  (rule "list.sort.gallop" : Sem Unit)
  g:=g+1
  for _ in [0:t] do
   if g>1 then g:=g-1
   modify fun s=>cA s g
   let some k <- gal false (<- elem' b j) a i (a.size-i) 0|return fin o i j
   c:=k
   if k>0 then
    o:=o++a.extract i (i+k);i:=i+k
    if i+1==a.size then return nif o i j
    if i==a.size then return fin o i j
   o:=o.push (<- elem' b j);j:=j+1
   if j==b.size then return fin o i j
   let some k <- gal true (<- elem' a i) b j (b.size-j) 0|return fin o i j
   d:=k
   if k>0 then
    o:=o++b.extract j (j+k);j:=j+k
    if j==b.size then return fin o i j
   o:=o.push (<- elem' a i);i:=i+1
   if i+1==a.size then return nif o i j
   if c<7&&d<7 then break
  g:=g+1
  modify fun s=>cA s g
 unsupported "internal:list.sort.merge-bound"):=rfl
theorem Zm(a b:Array Keyed):mhi a b=(do
 (rule "list.sort.merge-hi" : Sem Unit)
 let t:=a.size+b.size
 let fin (o:Array Keyed) (i j:Nat):=a.extract 0 i++b.extract 0 j++o.reverse
 let nif (o:Array Keyed) (i j:Nat):=b.extract 0 j++a.extract 0 i++o.reverse
 let mut i:=a.size-1
 let mut j:=b.size
 let mut o:Array Keyed:=#[<- elem' a i]
 if i==0 then return fin o i j
 if j==1 then return nif o i j
 let mut g:=gallopOf (<- get)
 for _ in [0:t] do
  let mut c:=0
  let mut d:=0
  for _ in [0:t] do
   let some w <- lt' (<- elem' b (j-1)) (<- elem' a (i-1))|return fin o i j
   if w then
    i:=i-1;o:=o.push (<- elem' a i);c:=c+1;d:=0
    if i==0 then return fin o i j
    if c>=g then break
   else
    j:=j-1;o:=o.push (<- elem' b j);d:=d+1;c:=0
    if j==1 then return nif o i j
    if d>=g then break
  (rule "list.sort.gallop" : Sem Unit)
  g:=g+1
  for _ in [0:t] do
   if g>1 then g:=g-1
   modify fun s=>cA s g
   let some p <- gal false (<- elem' b (j-1)) a 0 i (i-1)|return fin o i j
   let k:=i-p
   c:=k
   if k>0 then
    o:=o++(a.extract p i).reverse;i:=p
    if i==0 then return fin o i j
   j:=j-1;o:=o.push (<- elem' b j)
   if j==1 then return nif o i j
   let some p <- gal true (<- elem' a (i-1)) b 0 j (j-1)|return fin o i j
   let k:=j-p
   d:=k
   if k>0 then
    o:=o++(b.extract p j).reverse;j:=p
    if j==1 then return nif o i j
    if j==0 then return fin o i j
   i:=i-1;o:=o.push (<- elem' a i)
   if i==0 then return fin o i j
   if c<7&&d<7 then break
  g:=g+1
  modify fun s=>cA s g
 unsupported "internal:list.sort.merge-bound"):=rfl
section
variable{α:Type}{lt:α->α->Bool}{M:Model}{A:Around}{E:Value->Shared->Prop}{s:Shared}{κ:SortKind}{key:Keyed->α}{a₀:Array Keyed}
structure Mg(R:Keyed->Keyed->Prop)(X Y out x y:List Keyed):Prop where
 perm:(out++(x++y)).Perm (X++Y)
 up:out.Pairwise R
 ab:∀ p∈out,∀ q∈x++y,R p q
 sx:x.Pairwise R
 sy:y.Pairwise R
variable{R:Keyed->Keyed->Prop}{X Y out x y:List Keyed}{p q:Keyed}
theorem Mg.tx(m:Mg R X Y out (p::x) y)(h:∀ q∈y,R p q):Mg R X Y (out++[p]) x y:=by
 obtain⟨h1,h2,h3,h4,h5⟩:=m;rw[rF] at h4;refine⟨by simpa using h1,?_,?_,h4.2,h5⟩
 ·rw[xO];refine⟨h2,UW _ _,fun a ha b hb=>?_⟩;rw[cL.mp hb];exact h3 a ha p (by simp)
 ·intro a ha b hb;rcases cB.mp ha with z|z
  ·exact h3 a z b (by rcases cB.mp hb with w|w<;>simp[w])
  ·rw[cL.mp z];rcases cB.mp hb with w|w
   ·exact h4.1 b w
   ·exact h b w
theorem Mg.swap(m:Mg R X Y out x y):Mg R Y X out y x:=
 ⟨((Lq (l₁:=y) (l₂:=x)).append_left out).trans (m.perm.trans Lq),m.up,fun a ha b hb=>m.ab a ha b (cB.mpr (cB.mp hb).symm),m.sy,m.sx⟩
theorem Mg.ty(m:Mg R X Y out x (q::y))(h:∀ p∈x,R q p):Mg R X Y (out++[q]) x y:=(m.swap.tx h).swap
theorem Mg.cx:∀(c:List Keyed){out:List Keyed},Mg R X Y out (c++x) y->(∀ p∈c,∀ q∈y,R p q)->Mg R X Y (out++c) x y
 |[],out,m,_=>by simpa using m
 |p::c,out,m,h=>by
  have:=Mg.cx c (m.tx (h p cZ)) fun a ha=>h a (f9 _ ha)
  simpa using this
theorem Mg.cy(c:List Keyed)(m:Mg R X Y out x (c++y))(h:∀ p∈c,∀ q∈x,R p q):Mg R X Y (out++c) x y:=(Mg.cx c m.swap h).swap
theorem Mg.a0L(m:Mg R X Y out [] y):(out++y).Perm (X++Y)/\(out++y).Pairwise R:=
 ⟨by simpa using m.perm,xO.mpr ⟨m.up,m.sy,fun a ha b hb=>m.ab a ha b (by simpa using hb)⟩⟩
theorem Mg.Z0(m:Mg R X Y out x []):(out++x).Perm (X++Y)/\(out++x).Pairwise R:=
 ⟨by simpa using m.perm,xO.mpr ⟨m.up,m.sx,fun a ha b hb=>m.ab a ha b (by simpa using hb)⟩⟩
theorem Mg.last(m:Mg R X Y out [p] y)(h:∀ q∈y,R q p):(out++y++[p]).Perm (X++Y)/\(out++y++[p]).Pairwise R:=by
 have:=Mg.Z0 (Mg.cy (y:=[]) y (by simpa using m) (fun a ha b hb=>by rw[cL.mp hb];exact h a ha));exact this
def Le(lt:α->α->Bool)(key:Keyed->α)(p q:Keyed):Prop:=lt (key q) (key p)=false
theorem Le.trans(o:jF lt){p q r:Keyed}(h:Le lt key p q)(g:Le lt key q r):Le lt key p r:=o.tr _ _ _ h g
theorem Le.of(o:jF lt){p q:Keyed}(h:lt (key p) (key q)=true):Le lt key p q:=o.GJ _ _ h
theorem oU{a:Array Keyed}{i:Nat}(h:i<a.size):a.toList.drop i=el a i::a.toList.drop (i+1):=by
 rw[xM (by simpa using h)];congr 1;have:=oV h;rw[jk h] at this;simpa using iJ this
theorem nO{a:Array Keyed}{i:Nat}:(a.extract i a.size).toList=a.toList.drop i:=by
 rw[Vi];refine Av ?_;simp
theorem jG{a:Array Keyed}{i k:Nat}:(a.extract i (i+k)).toList=(a.toList.drop i).take k:=by
 rw[Vi,List.extract_eq_take_drop,Nat.add_sub_cancel_left]
theorem rZ{a:Array Keyed}{i k:Nat}(h:i+k<=a.size){x:Keyed}(hx:x∈(a.toList.drop i).take k):∃ t,t<k/\x=el a (i+t):=by
 obtain⟨t,ht,e⟩:=Ly.mp hx;rw[sU,List.length_drop,mD] at ht;refine⟨t,by lia,?_⟩;rw[List.getElem_take,List.getElem_drop] at e;have:=oV (xs:=a) (i:=i+t) (by lia);rw[jk (by lia)] at this;rw[<- e];simpa using iJ this
theorem wK{a:Array Keyed}(h:a.toList.Pairwise (Le lt key))(o:jF lt){i j:Nat}(hij:i<=j)(hj:j<a.size):Le lt key (el a i) (el a j):=by
 by_cases e:i=j
 ·subst e;exact o.refl _
 ·have:=sS.mp h i j (by simp;lia) (by simpa using hj) (by lia);have e1:=oV (xs:=a) (i:=i) (by lia);have e2:=oV hj;rw[jk (by omega)] at e1 e2;rw[<- iJ e1,<- iJ e2];simpa using this
theorem rP(o:jF lt){l:Bool}{y:Keyed}{xs:Array Keyed}{b n:Nat}(h:∀ p q,p<=q->q<n->Le lt key (el xs (b+p)) (el xs (b+q))):∀ i j,i<=j->j<n->bv lt key l y (el xs (b+j))=true->bv lt key l y (el xs (b+i))=true:=by
 intro i j hij hj hb;have hl:=h i j hij hj;cases l
 ·unfold bv at hb ⊢;rw[aG fH] at hb ⊢;have h1:Le lt key (el xs (b+j)) y:=by
   unfold Le;cases hc:lt (key y) (key (el xs (b+j)))
   ·rfl
   ·rw[hc] at hb;cases hb
  have h2:lt (key y) (key (el xs (b+i)))=false:=hl.trans o h1;rw[h2];rfl
 ·unfold bv at hb ⊢;rw[aJ rfl] at hb ⊢;cases hc:lt (key (el xs (b+i))) (key y)
  ·have h1:Le lt key y (el xs (b+i)):=hc;have h2:lt (key (el xs (b+j))) (key y)=false:=h1.trans o hl;rw[h2] at hb;cases hb
  ·rfl
theorem bvF{y x:Keyed}:bv lt key false y x=!lt (key y) (key x):=rfl
theorem bvT{y x:Keyed}:bv lt key true y x=lt (key x) (key y):=rfl
structure Two(lt:α->α->Bool)(key:Keyed->α)(a₀ a b:Array Keyed):Prop where
 ma:∀ x∈a.toList,x∈a₀.toList
 mb:∀ x∈b.toList,x∈a₀.toList
 sa:a.toList.Pairwise (Le lt key)
 sb:b.toList.Pairwise (Le lt key)
 za:1<=a.size
 zb:1<=b.size
 first:lt (key (el b 0)) (key (el a 0))=true
 last:∀ y∈b.toList,Le lt key y (el a (a.size-1))
def Res(lt:α->α->Bool)(key:Keyed->α)(a b r:Array Keyed):Prop:=r.toList.Perm (a.toList++b.toList)/\r.toList.Pairwise (Le lt key)
section lo
variable{a b o:Array Keyed}{i j k:Nat}
abbrev Lo(lt:α->α->Bool)(key:Keyed->α)(a b o:Array Keyed)(i j:Nat):Prop:=Mg (Le lt key) a.toList b.toList o.toList (a.toList.drop i) (b.toList.drop j)
theorem Lo.xJ(od:jF lt)(m:Lo lt key a b o i j)(hi:i<a.size)(hj:j<b.size)(h:lt (key (el b j)) (key (el a i))=true):Lo lt key a b (o.push (el b j)) i (j+1):=by
 unfold Lo at m ⊢;rw[oU hj] at m;rw[FZ];refine m.ty fun p hp=>?_
 have sx:=m.sx;rw[oU hi] at hp sx;rcases cW.mp hp with rfl|z
 ·exact Le.of od h
 ·exact(Le.of od h).trans od ((rF.mp sx).1 p z)
theorem Lo.qY(od:jF lt)(m:Lo lt key a b o i j)(hi:i<a.size)(hj:j<b.size)(h:lt (key (el b j)) (key (el a i))=false):Lo lt key a b (o.push (el a i)) (i+1) j:=by
 unfold Lo at m ⊢;rw[oU hi] at m;rw[FZ];refine m.tx fun p hp=>?_
 have sy:=m.sy;rw[oU hj] at hp sy;have h':Le lt key (el a i) (el b j):=h;rcases cW.mp hp with rfl|z
 ·exact h'
 ·exact h'.trans od ((rF.mp sy).1 p z)
theorem Lo.Js(od:jF lt)(m:Lo lt key a b o i j)(hi:i+k<=a.size)(hj:j<b.size)(h:∀ t,t<k->bv lt key false (el b j) (el a (i+t))=true):Lo lt key a b (o++a.extract i (i+k)) (i+k) j:=by
 unfold Lo at m ⊢;rw[kh,jG];rw[<- Bp k (a.toList.drop i),Gj] at m;refine m.cx _ fun p hp q hq=>?_
 have sy:=m.sy;rw[oU hj] at hq sy;obtain⟨t,ht,rfl⟩:=rZ hi hp;have h1:=h t ht;have h':Le lt key (el a (i+t)) (el b j):=by
  unfold Le;rw[bvF] at h1;cases hc:lt (key (el b j)) (key (el a (i+t)))
  ·rfl
  ·rw[hc] at h1;cases h1
 rcases cW.mp hq with rfl|z
 ·exact h'
 ·exact h'.trans od ((rF.mp sy).1 q z)
theorem Lo.yO(od:jF lt)(m:Lo lt key a b o i j)(hi:i<a.size)(hj:j+k<=b.size)(h:∀ t,t<k->bv lt key true (el a i) (el b (j+t))=true):Lo lt key a b (o++b.extract j (j+k)) i (j+k):=by
 unfold Lo at m ⊢;rw[kh,jG];rw[<- Bp k (b.toList.drop j),Gj] at m;refine m.cy _ fun p hp q hq=>?_
 have sx:=m.sx;rw[oU hi] at hq sx;obtain⟨t,ht,rfl⟩:=rZ hj hp;have h':Le lt key (el b (j+t)) (el a i):=Le.of od (by have:=h t ht;rwa[bvT] at this);rcases cW.mp hq with rfl|z
 ·exact h'
 ·exact h'.trans od ((rF.mp sx).1 q z)
theorem Lo.Ef(m:Lo lt key a b o i j)(hj:j=b.size):Res lt key a b (o++a.extract i a.size++b.extract j b.size):=by
 unfold Lo at m;unfold Res;rw[kh,kh,nO,nO];have e:b.toList.drop j=[]:=by rw[hj];simp
 rw[e] at m ⊢;rw[rJ];exact m.Z0
theorem Lo.Ed(m:Lo lt key a b o i j)(hi:i=a.size):Res lt key a b (o++a.extract i a.size++b.extract j b.size):=by
 unfold Lo at m;unfold Res;rw[kh,kh,nO,nO];have e:a.toList.drop i=[]:=by rw[hi];simp
 rw[e] at m ⊢;rw[rJ];exact m.a0L
theorem Lo.nif(t:Two lt key a₀ a b)(m:Lo lt key a b o i j)(hi:i+1=a.size):Res lt key a b (o++b.extract j b.size++a.extract i a.size):=by
 unfold Lo at m;unfold Res;rw[kh,kh,nO,nO];have e:a.toList.drop i=[el a i]:=by
  rw[oU (by lia),hi];have:a.toList.drop a.size=[]:=by simp
  rw[this]
 rw[e] at m ⊢;refine m.last fun q hq=>?_
 have:=t.last q (List.mem_of_mem_drop hq);rwa[show a.size-1=i by lia] at this
end lo
theorem a0x(e:Env M A s κ key lt a₀){st:SortSt}(hk:kindOf st=κ){a b:Array Keyed}(t:Two lt key a₀ a b){Q:Array Keyed->SortSt->Prop}
  (h:∀ r g,Res lt key a b r->Q r (cA st g)):wpS M A E s (mlo a b) Q st:=by
 rw[Zo];have ea:∀ i,i<a.size->el a i∈a₀.toList:=fun i hi=>t.ma _ (vW hi)
 have eb:∀ i,i<b.size->el b i∈a₀.toList:=fun i hi=>t.mb _ (vW hi)
 have ma:∀(l:Bool)(y:Keyed)(i:Nat),∀ p q,p<=q->q<a.size-i->bv lt key l y (el a (i+q))=true->bv lt key l y (el a (i+p))=true:=fun l y i=>rP e.o fun p q h1 h2=>wK t.sa e.o (by lia) (by lia)
 have mb:∀(l:Bool)(y:Keyed)(i:Nat),∀ p q,p<=q->q<b.size-i->bv lt key l y (el b (i+q))=true->bv lt key l y (el b (i+p))=true:=fun l y i=>rP e.o fun p q h1 h2=>wK t.sb e.o (by lia) (by lia)
 have za:=t.za;have zb:=t.zb;have hkg:∀ g,kindOf (cA st g)=κ:=fun _=>hk
 refine aW (ud (uc ⟨rfl,?_⟩));refine aW (dJ (by lia) ?_);have m0:Lo lt key a b #[el b 0] 0 1:=by
  have:Lo lt key a b #[] 0 0:=⟨by simp,List.Pairwise.nil,(fun p hp=>by cases hp),by simpa using t.sa,by simpa using t.sb⟩
  exact this.xJ e.o (by lia) (by lia) t.first
 by_cases c1:1=b.size
 ·rw[aJ (by simpa using c1)];exact bf (h _ (gallopOf st) (m0.Ef c1))
 rw[aG (by simpa using c1)];by_cases c2:0+1=a.size
 ·rw[aJ (by simpa using c2)];exact bf (h _ (gallopOf st) (m0.nif t c2))
 rw[aG (by simpa using c2)];refine aW (jW ?_);dsimp only;refine aW (jx (ju (I:=fun x c st'=>(∃ g',st'=cA st g')/\∃ o i j g,c=(none,o,i,j,g)/\Lo lt key a b o i j/\i+1<a.size/\j<b.size/\x+1<=i+j)
  (Q:=fun c st'=>(∃ g',st'=cA st g')/\∃ r z,c=(some r,z)/\Res lt key a b r) ?step ?fin ?init) ?post)
 case init=>exact⟨⟨gallopOf st,rfl⟩,_,0,1,_,rfl,m0,by lia,by lia,by lia⟩
 case fin=>
  rintro c st' ⟨_,o,i,j,g,rfl,_,b1,b2,b3⟩;exfalso;lia
 case post=>
  rintro c st' ⟨⟨g',rfl⟩,r,z,rfl,hr⟩;exact bf (h r g' hr)
 case step=>
  rintro x c st' _ hx ⟨⟨g',rfl⟩,o,i,j,g,rfl,m1,b1,b2,b3⟩;dsimp only;refine aW (jx (ju (I:=fun y c st'=>(∃ g',st'=cA st g')/\∃ o i j u v,c=(none,o,i,j,u,v)/\Lo lt key a b o i j/\i+1<a.size/\j<b.size/\x+1+y<=i+j)
   (Q:=fun c st'=>(∃ g',st'=cA st g')/\((∃ r z,c=(some r,z)/\Res lt key a b r)\/∃ o i j u v,c=(none,o,i,j,u,v)/\Lo lt key a b o i j/\i+1<a.size/\j<b.size/\x+2<=i+j)) ?s1 ?f1 ?i1) ?p1)
  case i1=>exact⟨⟨g',rfl⟩,o,i,j,0,0,rfl,m1,b1,b2,by omega⟩
  case f1=>
   rintro c st' ⟨_,o,i,j,u,v,rfl,_,b1,b2,b3⟩;exfalso;lia
  case s1=>
   rintro y c st' _ hy ⟨⟨g',rfl⟩,o,i,j,u,v,rfl,m2,d1,d2,d3⟩;dsimp only;refine aW (dJ (by omega) (aW (dJ (by lia) (aW (Ja e (st:=cA st g') (eb j (by omega)) (ea i (by lia)) hk ?_)))));dsimp only;by_cases hb:lt (key (el b j)) (key (el a i))=true
   ·rw[aJ hb];refine aW (dJ (by omega) ?_);have m3:=m2.xJ e.o (by lia) (by omega) hb;by_cases f1:j+1=b.size
    ·rw[aJ (by simpa using f1)];exact bf ⟨⟨g',rfl⟩,.inl ⟨_,_,rfl,m3.Ef f1⟩⟩
    ·rw[aG (by simpa using f1)];by_cases f2:v+1>=g
     ·rw[aJ f2];exact bf ⟨⟨g',rfl⟩,.inr ⟨_,_,_,_,_,rfl,m3,d1,by lia,by lia⟩⟩
     ·rw[aG f2];exact bf ⟨⟨g',rfl⟩,_,_,_,_,_,rfl,m3,d1,by lia,by lia⟩
   ·rw[aG hb];refine aW (dJ (by lia) ?_);have m3:=m2.qY e.o (by lia) (by omega) (Bv hb);by_cases f1:i+1+1=a.size
    ·rw[aJ (by simpa using f1)];exact bf ⟨⟨g',rfl⟩,.inl ⟨_,_,rfl,m3.nif t f1⟩⟩
    ·rw[aG (by simpa using f1)];by_cases f2:u+1>=g
     ·rw[aJ f2];exact bf ⟨⟨g',rfl⟩,.inr ⟨_,_,_,_,_,rfl,m3,by lia,by omega,by lia⟩⟩
     ·rw[aG f2];exact bf ⟨⟨g',rfl⟩,_,_,_,_,_,rfl,m3,by lia,by omega,by lia⟩
  case p1=>
   rintro c st' ⟨⟨g',rfl⟩,⟨r,z,rfl,hr⟩|⟨o,i,j,u,v,rfl,m2,d1,d2,d3⟩⟩
   ·exact bf ⟨⟨g',rfl⟩,r,_,rfl,hr⟩
   dsimp only;refine aW (ud (uc ⟨rfl,?_⟩));refine aW (jx (ju (I:=fun y c st'=>(∃ g',st'=cA st g')/\∃ o i j g u v,c=(none,o,i,j,g,u,v)/\Lo lt key a b o i j/\i+1<a.size/\j<b.size/\x+2+y<=i+j)
    (Q:=fun c st'=>(∃ g',st'=cA st g')/\((∃ r z,c=(some r,z)/\Res lt key a b r)\/∃ o i j g u v,c=(none,o,i,j,g,u,v)/\Lo lt key a b o i j/\i+1<a.size/\j<b.size/\x+2<=i+j)) ?s2 ?f2 ?i2) ?p2)
   case i2=>exact⟨⟨g',rfl⟩,o,i,j,_,u,v,rfl,m2,d1,d2,by omega⟩
   case f2=>
    rintro c st' ⟨_,o,i,j,g,u,v,rfl,_,b1,b2,b3⟩;exfalso;lia
   case p2=>
    rintro c st' ⟨⟨g',rfl⟩,⟨r,z,rfl,hr⟩|⟨o,i,j,g,u,v,rfl,m2,d1,d2,d3⟩⟩
    ·exact bf ⟨⟨g',rfl⟩,r,_,rfl,hr⟩
    ·exact aW (oG (bf ⟨⟨_,rfl⟩,o,i,j,_,rfl,m2,d1,d2,by omega⟩))
   case s2=>
    rintro y c st' _ hy ⟨⟨g',rfl⟩,o,i,j,g,u,v,rfl,m3,d1,d2,d3⟩;dsimp only;by_cases hg:g>1
    all_goals first|rw[aJ hg]|rw[aG hg]
    all_goals
     refine aW (oG (aW (dJ (by omega) (aW (rC e (st:=cA st _) (b:=i) (n:=a.size-i) (t:=0) (hkg _) (eb j (by omega)) (by lia) (fun t ht=>ea _ (by lia)) (by lia) (ma _ _ _) ?_)))));intro k k1 k2 k3;dsimp only;have m4:Lo lt key a b (o++a.extract i (i+k)) (i+k) j:=m3.Js e.o (by lia) (by omega) k2;have lb:i+k<a.size->lt (key (el b j)) (key (el a (i+k)))=true:=fun z=>by
      have:=k3 k (bB _) (by lia);rw[bvF] at this;cases hc:lt (key (el b j)) (key (el a (i+k)))
      ·rw[hc] at this;cases this
      ·rfl
     by_cases hk0:k>0
     ·rw[aJ hk0];by_cases f1:i+k+1=a.size
      ·rw[aJ (by simpa using f1)];exact bf ⟨⟨_,rfl⟩,.inl ⟨_,_,rfl,m4.nif t f1⟩⟩
      rw[aG (by simpa using f1)];by_cases f2:i+k=a.size
      ·rw[aJ (by simpa using f2)];exact bf ⟨⟨_,rfl⟩,.inl ⟨_,_,rfl,m4.Ed f2⟩⟩
      rw[aG (by simpa using f2)];have lb':=lb (by lia);have d1':i+k+1<a.size:=by lia
      have d3':x+2+y<=i+k+j:=by lia
      clear lb k2 k3;generalize o++a.extract i (i+k)=o1 at m4 ⊢;generalize i+k=i1 at m4 lb' d1' d3' ⊢;clear m3 d1 d3 k1 f1 f2;refine aW (dJ (by omega) ?_);have m5:=m4.xJ e.o (by lia) (by omega) lb';by_cases f3:j+1=b.size
      ·rw[aJ (by simpa using f3)];exact bf ⟨⟨_,rfl⟩,.inl ⟨_,_,rfl,m5.Ef f3⟩⟩
      rw[aG (by simpa using f3)];refine aW (dJ (by lia) (aW (rC e (st:=cA st _) (b:=j+1) (n:=b.size-(j+1)) (t:=0) (hkg _) (ea i1 (by lia)) (by lia) (fun t ht=>eb _ (by lia)) (by lia) (mb _ _ _) ?_)));intro l l1 l2 l3;dsimp only;have m6:=m5.yO (k:=l) e.o (by lia) (by lia) l2;have la:j+1+l<b.size->lt (key (el b (j+1+l))) (key (el a i1))=false:=fun z=>by
       have:=l3 l (bB _) (by lia);rwa[bvT] at this
      by_cases hl0:l>0
      ·rw[aJ hl0];by_cases f4:j+1+l=b.size
       ·rw[aJ (by simpa using f4)];exact bf ⟨⟨_,rfl⟩,.inl ⟨_,_,rfl,m6.Ef f4⟩⟩
       rw[aG (by simpa using f4)];refine aW (dJ (by lia) ?_);have m7:=m6.qY e.o (by lia) (by lia) (la (by lia));by_cases f5:i1+1+1=a.size
       ·rw[aJ (by simpa using f5)];exact bf ⟨⟨_,rfl⟩,.inl ⟨_,_,rfl,m7.nif t f5⟩⟩
       rw[aG (by simpa using f5)];split
       ·exact bf ⟨⟨_,rfl⟩,.inr ⟨_,_,_,_,_,_,rfl,m7,by lia,by lia,by lia⟩⟩
       ·exact bf ⟨⟨_,rfl⟩,_,_,_,_,_,_,rfl,m7,by lia,by lia,by lia⟩
      ·rw[aG hl0];have:l=0:=by lia
       subst this;have la':=la (by lia);rw[wR] at la';refine aW (dJ (by lia) ?_);have m7:=m5.qY e.o (by lia) (by lia) la';by_cases f5:i1+1+1=a.size
       ·rw[aJ (by simpa using f5)];exact bf ⟨⟨_,rfl⟩,.inl ⟨_,_,rfl,m7.nif t f5⟩⟩
       rw[aG (by simpa using f5)];split
       ·exact bf ⟨⟨_,rfl⟩,.inr ⟨_,_,_,_,_,_,rfl,m7,by lia,by lia,by lia⟩⟩
       ·exact bf ⟨⟨_,rfl⟩,_,_,_,_,_,_,rfl,m7,by lia,by lia,by lia⟩
     ·rw[aG hk0];have:k=0:=by lia
      subst this;have lb':=lb (by lia);rw[wR] at lb';refine aW (dJ (by omega) ?_);have m5:=m3.xJ e.o (by lia) (by omega) lb';by_cases f3:j+1=b.size
      ·rw[aJ (by simpa using f3)];exact bf ⟨⟨_,rfl⟩,.inl ⟨_,_,rfl,m5.Ef f3⟩⟩
      rw[aG (by simpa using f3)];refine aW (dJ (by lia) (aW (rC e (st:=cA st _) (b:=j+1) (n:=b.size-(j+1)) (t:=0) (hkg _) (ea i (by lia)) (by lia) (fun t ht=>eb _ (by lia)) (by lia) (mb _ _ _) ?_)));intro l l1 l2 l3;dsimp only;have m6:=m5.yO (k:=l) e.o (by lia) (by lia) l2;have la:j+1+l<b.size->lt (key (el b (j+1+l))) (key (el a i))=false:=fun z=>by
       have:=l3 l (bB _) (by lia);rwa[bvT] at this
      by_cases hl0:l>0
      ·rw[aJ hl0];by_cases f4:j+1+l=b.size
       ·rw[aJ (by simpa using f4)];exact bf ⟨⟨_,rfl⟩,.inl ⟨_,_,rfl,m6.Ef f4⟩⟩
       rw[aG (by simpa using f4)];refine aW (dJ (by lia) ?_);have m7:=m6.qY e.o (by lia) (by lia) (la (by lia));by_cases f5:i+1+1=a.size
       ·rw[aJ (by simpa using f5)];exact bf ⟨⟨_,rfl⟩,.inl ⟨_,_,rfl,m7.nif t f5⟩⟩
       rw[aG (by simpa using f5)];split
       ·exact bf ⟨⟨_,rfl⟩,.inr ⟨_,_,_,_,_,_,rfl,m7,by lia,by lia,by lia⟩⟩
       ·exact bf ⟨⟨_,rfl⟩,_,_,_,_,_,_,rfl,m7,by lia,by lia,by lia⟩
      ·rw[aG hl0];have:l=0:=by lia
       subst this;have la':=la (by lia);rw[wR] at la';refine aW (dJ (by lia) ?_);have m7:=m5.qY e.o (by lia) (by lia) la';by_cases f5:i+1+1=a.size
       ·rw[aJ (by simpa using f5)];exact bf ⟨⟨_,rfl⟩,.inl ⟨_,_,rfl,m7.nif t f5⟩⟩
       rw[aG (by simpa using f5)];split
       ·exact bf ⟨⟨_,rfl⟩,.inr ⟨_,_,_,_,_,_,rfl,m7,by lia,by lia,by lia⟩⟩
       ·exact bf ⟨⟨_,rfl⟩,_,_,_,_,_,_,rfl,m7,by lia,by lia,by lia⟩
end
end TS
end L2
namespace L2
open PySem PySem.Spec PyProof.Rows PySem.W
namespace TS
section
variable{α:Type}{lt:α->α->Bool}{M:Model}{A:Around}{E:Value->Shared->Prop}{s:Shared}{κ:SortKind}{key:Keyed->α}{a₀:Array Keyed}
section hi
variable{a b o:Array Keyed}{i j k p:Nat}
theorem mX(h1:1<=i)(h:i<=a.size):(a.toList.take i).reverse=el a (i-1)::(a.toList.take (i-1)).reverse:=by
 obtain⟨n,rfl⟩:∃ n,i=n+1:=⟨i-1,by lia⟩
 rw[Nat.add_sub_cancel,List.take_add_one,Vo];have:=oV (xs:=a) (i:=n) (by lia);have e:a.toList[n]?=some (el a n):=by simpa using this
 rw[e];rfl
abbrev Ge(lt:α->α->Bool)(key:Keyed->α)(p q:Keyed):Prop:=Le lt key q p
abbrev Hi(lt:α->α->Bool)(key:Keyed->α)(a b o:Array Keyed)(i j:Nat):Prop:=Mg (Ge lt key) a.toList.reverse b.toList.reverse o.toList (a.toList.take i).reverse (b.toList.take j).reverse
theorem Hi.qY(od:jF lt)(m:Hi lt key a b o i j)(h1:1<=i)(hi:i<=a.size)(h2:1<=j)(hj:j<=b.size)(h:lt (key (el b (j-1))) (key (el a (i-1)))=true):Hi lt key a b (o.push (el a (i-1))) (i-1) j:=by
 unfold Hi at m ⊢;rw[mX h1 hi] at m;rw[FZ];refine m.tx fun q hq=>?_
 have sy:=m.sy;rw[mX h2 hj] at hq sy;rcases cW.mp hq with rfl|z
 ·exact Le.of od h
 ·exact Le.trans od ((rF.mp sy).1 q z) (Le.of od h)
theorem Hi.xJ(od:jF lt)(m:Hi lt key a b o i j)(h1:1<=i)(hi:i<=a.size)(h2:1<=j)(hj:j<=b.size)(h:lt (key (el b (j-1))) (key (el a (i-1)))=false):Hi lt key a b (o.push (el b (j-1))) i (j-1):=by
 unfold Hi at m ⊢;rw[mX h2 hj] at m;rw[FZ];refine m.ty fun q hq=>?_
 have sx:=m.sx;rw[mX h1 hi] at hq sx;have h':Le lt key (el a (i-1)) (el b (j-1)):=h;rcases cW.mp hq with rfl|z
 ·exact h'
 ·exact Le.trans od ((rF.mp sx).1 q z) h'
theorem O1(hp:p<=i):(a.toList.take i).reverse=((a.toList.drop p).take (i-p)).reverse++(a.toList.take p).reverse:=by
 rw[<- Vo];congr 1;have:=List.take_add (l:=a.toList) (i:=p) (j:=i-p);rwa[show p+(i-p)=i by lia] at this
theorem N6(hp:p<=i):((a.extract p i).reverse).toList=((a.toList.drop p).take (i-p)).reverse:=by
 rw[Fw];congr 1;have:=jG (a:=a) (i:=p) (k:=i-p);rwa[show p+(i-p)=i by lia] at this
theorem Hi.Js(od:jF lt)(m:Hi lt key a b o i j)(hp:p<=i)(hi:i<=a.size)(h2:1<=j)(hj:j<=b.size)(h:∀ t,p<=t->t<i->bv lt key false (el b (j-1)) (el a t)=false):Hi lt key a b (o++(a.extract p i).reverse) p j:=by
 unfold Hi at m ⊢;rw[kh,N6 hp];rw[O1 hp] at m;refine m.cx _ fun u hu q hq=>?_
 have sy:=m.sy;rw[mX h2 hj] at hq sy;obtain⟨t,ht,rfl⟩:=rZ (by lia) (Gd.mp hu);have h1:=h (p+t) (by lia) (by lia);have h':Le lt key (el b (j-1)) (el a (p+t)):=by
  rw[bvF] at h1;cases hc:lt (key (el b (j-1))) (key (el a (p+t)))
  ·rw[hc] at h1;cases h1
  ·exact Le.of od hc
 rcases cW.mp hq with rfl|z
 ·exact h'
 ·exact Le.trans od ((rF.mp sy).1 q z) h'
theorem Hi.yO(od:jF lt)(m:Hi lt key a b o i j)(hp:p<=j)(hj:j<=b.size)(h1:1<=i)(hi:i<=a.size)(h:∀ t,p<=t->t<j->bv lt key true (el a (i-1)) (el b t)=false):Hi lt key a b (o++(b.extract p j).reverse) i p:=by
 unfold Hi at m ⊢;rw[kh,N6 hp];rw[O1 hp] at m;refine m.cy _ fun u hu q hq=>?_
 have sx:=m.sx;rw[mX h1 hi] at hq sx;obtain⟨t,ht,rfl⟩:=rZ (by lia) (Gd.mp hu);have h':Le lt key (el a (i-1)) (el b (p+t)):=by
  have:=h (p+t) (by lia) (by lia);rwa[bvT] at this
 rcases cW.mp hq with rfl|z
 ·exact h'
 ·exact Le.trans od ((rF.mp sx).1 q z) h'
theorem Eu{l:List Keyed}{r:Array Keyed}(e:r.toList=l.reverse)(h:l.Perm (a.toList.reverse++b.toList.reverse)/\l.Pairwise (Ge lt key)):Res lt key a b r:=by
 unfold Res;rw[e];refine⟨(Ma l).trans (h.1.trans ((Ma _).append (Ma _))),Lr.mpr h.2⟩
theorem Pa:(a.extract 0 i).toList=a.toList.take i:=by
 have:=jG (a:=a) (i:=0) (k:=i);rwa[u5,List.drop_zero] at this
theorem Hi.Ed(m:Hi lt key a b o i j)(hi:i=0):Res lt key a b (a.extract 0 i++b.extract 0 j++o.reverse):=by
 unfold Hi at m;have e:(a.toList.take i).reverse=[]:=by rw[hi];rfl
 rw[e] at m;refine Eu ?_ m.a0L;rw[kh,kh,Pa,Pa,Fw,hi];simp
theorem Hi.Ef(m:Hi lt key a b o i j)(hj:j=0):Res lt key a b (a.extract 0 i++b.extract 0 j++o.reverse):=by
 unfold Hi at m;have e:(b.toList.take j).reverse=[]:=by rw[hj];rfl
 rw[e] at m;refine Eu ?_ m.Z0;rw[kh,kh,Pa,Pa,Fw,hj];simp
theorem Hi.nif(od:jF lt)(t:Two lt key a₀ a b)(m:Hi lt key a b o i j)(hj:j=1):Res lt key a b (b.extract 0 j++a.extract 0 i++o.reverse):=by
 unfold Hi at m;have zb:=t.zb;have e:(b.toList.take j).reverse=[el b 0]:=by rw[hj,mX (bB _) zb];simp
 rw[e] at m;have:=m.swap.last fun q hq=>show Le lt key (el b 0) q from by
  obtain⟨n,hn,rfl⟩:=Ly.mp (Fx (Gd.mp hq));have hn':n<a.size:=by simpa using hn
  have e1:=oV hn';rw[jk hn'] at e1;rw[Lz,iJ e1];exact Le.trans od (Le.of od t.first) (wK t.sa od (mG _) hn')
 refine Eu ?_ ⟨this.1.trans Lq,this.2⟩;rw[kh,kh,Pa,Pa,Fw];have e2:b.toList.take j=[el b 0]:=by
  have:=congrArg List.reverse e;simpa using this
 rw[e2];simp
end hi
theorem a0w(e:Env M A s κ key lt a₀){st:SortSt}(hk:kindOf st=κ){a b:Array Keyed}(t:Two lt key a₀ a b){Q:Array Keyed->SortSt->Prop}
  (h:∀ r g,Res lt key a b r->Q r (cA st g)):wpS M A E s (mhi a b) Q st:=by
 rw[Zm];have ea:∀ i,i<a.size->el a i∈a₀.toList:=fun i hi=>t.ma _ (vW hi)
 have eb:∀ i,i<b.size->el b i∈a₀.toList:=fun i hi=>t.mb _ (vW hi)
 have ma:∀(l:Bool)(y:Keyed)(n:Nat),n<=a.size->∀ p q,p<=q->q<n->bv lt key l y (el a (0+q))=true->bv lt key l y (el a (0+p))=true:=fun l y n hn=>rP e.o fun p q h1 h2=>wK t.sa e.o (by lia) (by lia)
 have mb:∀(l:Bool)(y:Keyed)(n:Nat),n<=b.size->∀ p q,p<=q->q<n->bv lt key l y (el b (0+q))=true->bv lt key l y (el b (0+p))=true:=fun l y n hn=>rP e.o fun p q h1 h2=>wK t.sb e.o (by lia) (by lia)
 have za:=t.za;have zb:=t.zb;have hkg:∀ g,kindOf (cA st g)=κ:=fun _=>hk
 refine aW (ud (uc ⟨rfl,?_⟩));refine aW (dJ (by omega) ?_);have m0:Hi lt key a b #[el a (a.size-1)] (a.size-1) b.size:=by
  have:Hi lt key a b #[] a.size b.size:=by
   refine⟨?_,List.Pairwise.nil,(fun p hp=>by cases hp),?_,?_⟩
   ·rw[Av (by simp),Av (by simp)];exact .refl _
   ·rw[Av (by simp)];exact Lr.mpr t.sa
   ·rw[Av (by simp)];exact Lr.mpr t.sb
  unfold Hi at this ⊢;rw[mX za (bB _)] at this;refine this.tx fun q hq=>t.last q ?_
  exact Fx (Gd.mp hq)
 by_cases c1:a.size-1=0
 ·rw[aJ (by simpa using c1)];exact bf (h _ (gallopOf st) (m0.Ed c1))
 rw[aG (by simpa using c1)];by_cases c2:b.size=1
 ·rw[aJ (by simpa using c2)];exact bf (h _ (gallopOf st) (m0.nif e.o t c2))
 rw[aG (by simpa using c2)];refine aW (jW ?_);dsimp only;refine aW (jx (ju (I:=fun x c st'=>(∃ g',st'=cA st g')/\∃ o i j g,c=(none,i,j,o,g)/\Hi lt key a b o i j/\(1<=i/\i<=a.size/\2<=j/\j<=b.size)/\i+j+x+1<=a.size+b.size)
  (Q:=fun c st'=>(∃ g',st'=cA st g')/\∃ r z,c=(some r,z)/\Res lt key a b r) ?step ?fin ?init) ?post)
 case init=>exact⟨⟨gallopOf st,rfl⟩,_,_,_,_,rfl,m0,by lia,by lia⟩
 case fin=>
  rintro c st' ⟨_,o,i,j,g,rfl,_,b1,b3⟩;exfalso;lia
 case post=>
  rintro c st' ⟨⟨g',rfl⟩,r,z,rfl,hr⟩;exact bf (h r g' hr)
 case step=>
  rintro x c st' _ hx ⟨⟨g',rfl⟩,o,i,j,g,rfl,m1,b1,b3⟩;dsimp only;refine aW (jx (ju (I:=fun y c st'=>(∃ g',st'=cA st g')/\∃ o i j u v,c=(none,i,j,o,u,v)/\Hi lt key a b o i j/\(1<=i/\i<=a.size/\2<=j/\j<=b.size)/\i+j+x+1+y<=a.size+b.size)
   (Q:=fun c st'=>(∃ g',st'=cA st g')/\((∃ r z,c=(some r,z)/\Res lt key a b r)\/∃ o i j u v,c=(none,i,j,o,u,v)/\Hi lt key a b o i j/\(1<=i/\i<=a.size/\2<=j/\j<=b.size)/\i+j+x+2<=a.size+b.size)) ?s1 ?f1 ?i1) ?p1)
  case i1=>exact⟨⟨g',rfl⟩,o,i,j,0,0,rfl,m1,b1,by omega⟩
  case f1=>
   rintro c st' ⟨_,o,i,j,u,v,rfl,_,b1,b3⟩;exfalso;lia
  case s1=>
   rintro y c st' _ hy ⟨⟨g',rfl⟩,o,i,j,u,v,rfl,m2,d1,d3⟩;dsimp only;refine aW (dJ (by lia) (aW (dJ (by lia) (aW (Ja e (st:=cA st g') (eb (j-1) (by lia)) (ea (i-1) (by lia)) hk ?_)))));dsimp only;by_cases hb:lt (key (el b (j-1))) (key (el a (i-1)))=true
   ·rw[aJ hb];refine aW (dJ (by lia) ?_);have m3:=m2.qY e.o (by lia) (by lia) (by lia) (by lia) hb;by_cases f1:i-1=0
    ·rw[aJ (by simpa using f1)];exact bf ⟨⟨g',rfl⟩,.inl ⟨_,_,rfl,m3.Ed f1⟩⟩
    ·rw[aG (by simpa using f1)];by_cases f2:u+1>=g
     ·rw[aJ f2];exact bf ⟨⟨g',rfl⟩,.inr ⟨_,_,_,_,_,rfl,m3,by lia,by lia⟩⟩
     ·rw[aG f2];exact bf ⟨⟨g',rfl⟩,_,_,_,_,_,rfl,m3,by lia,by lia⟩
   ·rw[aG hb];refine aW (dJ (by lia) ?_);have m3:=m2.xJ e.o (by lia) (by lia) (by lia) (by lia) (Bv hb);by_cases f1:j-1=1
    ·rw[aJ (by simpa using f1)];exact bf ⟨⟨g',rfl⟩,.inl ⟨_,_,rfl,m3.nif e.o t f1⟩⟩
    ·rw[aG (by simpa using f1)];by_cases f2:v+1>=g
     ·rw[aJ f2];exact bf ⟨⟨g',rfl⟩,.inr ⟨_,_,_,_,_,rfl,m3,by lia,by lia⟩⟩
     ·rw[aG f2];exact bf ⟨⟨g',rfl⟩,_,_,_,_,_,rfl,m3,by lia,by lia⟩
  case p1=>
   rintro c st' ⟨⟨g',rfl⟩,⟨r,z,rfl,hr⟩|⟨o,i,j,u,v,rfl,m2,d1,d3⟩⟩
   ·exact bf ⟨⟨g',rfl⟩,r,_,rfl,hr⟩
   dsimp only;refine aW (ud (uc ⟨rfl,?_⟩));refine aW (jx (ju (I:=fun y c st'=>(∃ g',st'=cA st g')/\∃ o i j g u v,c=(none,i,j,o,g,u,v)/\Hi lt key a b o i j/\(1<=i/\i<=a.size/\2<=j/\j<=b.size)/\i+j+x+2+y<=a.size+b.size)
    (Q:=fun c st'=>(∃ g',st'=cA st g')/\((∃ r z,c=(some r,z)/\Res lt key a b r)\/∃ o i j g u v,c=(none,i,j,o,g,u,v)/\Hi lt key a b o i j/\(1<=i/\i<=a.size/\2<=j/\j<=b.size)/\i+j+x+2<=a.size+b.size)) ?s2 ?f2 ?i2) ?p2)
   case i2=>exact⟨⟨g',rfl⟩,o,i,j,_,u,v,rfl,m2,d1,by omega⟩
   case f2=>
    rintro c st' ⟨_,o,i,j,g,u,v,rfl,_,b1,b3⟩;exfalso;lia
   case p2=>
    rintro c st' ⟨⟨g',rfl⟩,⟨r,z,rfl,hr⟩|⟨o,i,j,g,u,v,rfl,m2,d1,d3⟩⟩
    ·exact bf ⟨⟨g',rfl⟩,r,_,rfl,hr⟩
    ·exact aW (oG (bf ⟨⟨_,rfl⟩,o,i,j,_,rfl,m2,d1,by omega⟩))
   case s2=>
    rintro y c st' _ hy ⟨⟨g',rfl⟩,o,i,j,g,u,v,rfl,m3,d1,d3⟩;dsimp only;by_cases hg:g>1
    all_goals first|rw[aJ hg]|rw[aG hg]
    all_goals
     refine aW (oG (aW (dJ (by lia) (aW (rC e (st:=cA st _) (b:=0) (n:=i) (t:=i-1) (hkg _) (eb (j-1) (by lia)) (by lia) (fun t ht=>ea _ (by lia)) (by lia) (ma _ _ _ (by lia)) ?_)))));intro k k1 k2 k3;dsimp only;have m4:=m3.Js (p:=k) e.o k1 (by lia) (by lia) (by lia) (fun t t1 t2=>by have:=k3 t t1 t2;rwa[u5] at this);have lb:1<=k->lt (key (el b (j-1))) (key (el a (k-1)))=false:=fun z=>by
      have:=k2 (k-1) (by lia);rw[bvF,u5] at this;cases hc:lt (key (el b (j-1))) (key (el a (k-1)))
      ·rfl
      ·rw[hc] at this;cases this
     by_cases hk0:i-k>0
     ·rw[aJ hk0];by_cases f1:k=0
      ·rw[aJ (by simpa using f1)];exact bf ⟨⟨_,rfl⟩,.inl ⟨_,_,rfl,m4.Ed f1⟩⟩
      rw[aG (by simpa using f1)];have lb':=lb (by lia);generalize o++(a.extract k i).reverse=o1 at m4 ⊢;refine aW (dJ (by lia) ?_);have m5:=m4.xJ e.o (by lia) (by lia) (by lia) (by lia) lb';by_cases f3:j-1=1
      ·rw[aJ (by simpa using f3)];exact bf ⟨⟨_,rfl⟩,.inl ⟨_,_,rfl,m5.nif e.o t f3⟩⟩
      rw[aG (by simpa using f3)];refine aW (dJ (by lia) (aW (rC e (st:=cA st _) (b:=0) (n:=j-1) (t:=j-1-1) (hkg _) (ea (k-1) (by lia)) (by lia) (fun t ht=>eb _ (by lia)) (by lia) (mb _ _ _ (by lia)) ?_)));intro l l1 l2 l3;dsimp only;have m6:=m5.yO (p:=l) e.o (by omega) (by lia) (by lia) (by lia) (fun t t1 t2=>by have:=l3 t t1 t2;rwa[u5] at this);have la:1<=l->lt (key (el b (l-1))) (key (el a (k-1)))=true:=fun z=>by
       have:=l2 (l-1) (by lia);rw[bvT,u5] at this;exact this
      by_cases hl0:j-1-l>0
      ·rw[aJ hl0];by_cases f4:l=1
       ·rw[aJ (by simpa using f4)];exact bf ⟨⟨_,rfl⟩,.inl ⟨_,_,rfl,m6.nif e.o t f4⟩⟩
       rw[aG (by simpa using f4)];by_cases f7:l=0
       ·rw[aJ (by simpa using f7)];exact bf ⟨⟨_,rfl⟩,.inl ⟨_,_,rfl,m6.Ef f7⟩⟩
       rw[aG (by simpa using f7)];refine aW (dJ (by lia) ?_);have m7:=m6.qY e.o (by lia) (by lia) (by lia) (by lia) (la (by lia));by_cases f5:k-1=0
       ·rw[aJ (by simpa using f5)];exact bf ⟨⟨_,rfl⟩,.inl ⟨_,_,rfl,m7.Ed f5⟩⟩
       rw[aG (by simpa using f5)];split
       ·exact bf ⟨⟨_,rfl⟩,.inr ⟨_,_,_,_,_,_,rfl,m7,by lia,by lia⟩⟩
       ·exact bf ⟨⟨_,rfl⟩,_,_,_,_,_,_,rfl,m7,by lia,by lia⟩
      ·rw[aG hl0];have:l=j-1:=by lia
       subst this;have la':=la (by lia);refine aW (dJ (by lia) ?_);have m7:=m5.qY e.o (by lia) (by lia) (by lia) (by lia) la';by_cases f5:k-1=0
       ·rw[aJ (by simpa using f5)];exact bf ⟨⟨_,rfl⟩,.inl ⟨_,_,rfl,m7.Ed f5⟩⟩
       rw[aG (by simpa using f5)];split
       ·exact bf ⟨⟨_,rfl⟩,.inr ⟨_,_,_,_,_,_,rfl,m7,by lia,by lia⟩⟩
       ·exact bf ⟨⟨_,rfl⟩,_,_,_,_,_,_,rfl,m7,by lia,by lia⟩
     ·rw[aG hk0];have:k=i:=by lia
      subst this;have lb':=lb (by lia);refine aW (dJ (by lia) ?_);have m5:=m3.xJ e.o (by lia) (by lia) (by lia) (by lia) lb';by_cases f3:j-1=1
      ·rw[aJ (by simpa using f3)];exact bf ⟨⟨_,rfl⟩,.inl ⟨_,_,rfl,m5.nif e.o t f3⟩⟩
      rw[aG (by simpa using f3)];refine aW (dJ (by lia) (aW (rC e (st:=cA st _) (b:=0) (n:=j-1) (t:=j-1-1) (hkg _) (ea (k-1) (by lia)) (by lia) (fun t ht=>eb _ (by lia)) (by lia) (mb _ _ _ (by lia)) ?_)));intro l l1 l2 l3;dsimp only;have m6:=m5.yO (p:=l) e.o (by omega) (by lia) (by lia) (by lia) (fun t t1 t2=>by have:=l3 t t1 t2;rwa[u5] at this);have la:1<=l->lt (key (el b (l-1))) (key (el a (k-1)))=true:=fun z=>by
       have:=l2 (l-1) (by lia);rw[bvT,u5] at this;exact this
      by_cases hl0:j-1-l>0
      ·rw[aJ hl0];by_cases f4:l=1
       ·rw[aJ (by simpa using f4)];exact bf ⟨⟨_,rfl⟩,.inl ⟨_,_,rfl,m6.nif e.o t f4⟩⟩
       rw[aG (by simpa using f4)];by_cases f7:l=0
       ·rw[aJ (by simpa using f7)];exact bf ⟨⟨_,rfl⟩,.inl ⟨_,_,rfl,m6.Ef f7⟩⟩
       rw[aG (by simpa using f7)];refine aW (dJ (by lia) ?_);have m7:=m6.qY e.o (by lia) (by lia) (by lia) (by lia) (la (by lia));by_cases f5:k-1=0
       ·rw[aJ (by simpa using f5)];exact bf ⟨⟨_,rfl⟩,.inl ⟨_,_,rfl,m7.Ed f5⟩⟩
       rw[aG (by simpa using f5)];split
       ·exact bf ⟨⟨_,rfl⟩,.inr ⟨_,_,_,_,_,_,rfl,m7,by lia,by lia⟩⟩
       ·exact bf ⟨⟨_,rfl⟩,_,_,_,_,_,_,rfl,m7,by lia,by lia⟩
      ·rw[aG hl0];have:l=j-1:=by lia
       subst this;have la':=la (by lia);refine aW (dJ (by lia) ?_);have m7:=m5.qY e.o (by lia) (by lia) (by lia) (by lia) la';by_cases f5:k-1=0
       ·rw[aJ (by simpa using f5)];exact bf ⟨⟨_,rfl⟩,.inl ⟨_,_,rfl,m7.Ed f5⟩⟩
       rw[aG (by simpa using f5)];split
       ·exact bf ⟨⟨_,rfl⟩,.inr ⟨_,_,_,_,_,_,rfl,m7,by lia,by lia⟩⟩
       ·exact bf ⟨⟨_,rfl⟩,_,_,_,_,_,_,rfl,m7,by lia,by lia⟩
end
end TS
end L2
namespace L2
open PySem PySem.Spec PyProof.Rows PySem.W
namespace TS
theorem JR(i:Nat):mergeAt' i=(do
 let c <- get
 let (some (p,n,w),some (q,m,_)):=((pendingOf c)[i]?,(pendingOf c)[i+1]?)|unsupported "internal:list.sort.pending"
 set (setPending c (((pendingOf c).setIfInBounds i (p,n+m,w)).eraseIdxIfInBounds (i+1)))
 let some k <- gal false (<- elem' (arrOf c) q) (arrOf c) p n 0|return false
 let (p,n):=(p+k,n-k)
 if n==0 then return true
 let some m <- gal true (<- elem' (arrOf c) (p+n-1)) (arrOf c) q m (m-1)|return false
 if m==0 then return true
 let x:=(arrOf c).extract p q
 let y:=(arrOf c).extract q (q+m)
 let r <- if n<=m then mlo x y else mhi x y
 modify fun c=>setArr c (r.toList.zipIdx.foldl (fun a (v,j)=>a.setIfInBounds (p+j) v) (arrOf c))
 return (failedOf (<- get)).isNone):=rfl
theorem cG{β:Type}(p:Nat):∀(l:List β)(n:Nat)(xs:Array β),p+n+l.length<=xs.size ->
  ((l.zipIdx n).foldl (fun a (x:β×Nat)=>a.setIfInBounds (p+x.2) x.1) xs).toList=xs.toList.take (p+n)++l++xs.toList.drop (p+n+l.length)
 |[],n,xs,h=>by simp
 |v::l,n,xs,h=>by
  rw[List.zipIdx_cons,Gh];have hl:p+n+(l.length+1)<=xs.size:=h;rw[cG p l (n+1) _ (by rw[Array.size_setIfInBounds];lia)];dsimp only;rw[Uw];have e1:(xs.toList.set (p+n) v).take (p+(n+1))=xs.toList.take (p+n)++[v]:=by
   rw[<- Nat.add_assoc,List.take_add_one,List.take_set_of_le (bB _),Li (by simp;lia)];rfl
  have e2:(xs.toList.set (p+n) v).drop (p+(n+1)+l.length)=xs.toList.drop (p+n+(v::l).length):=by
   rw[List.drop_set_of_lt (by lia)];congr 1;simp;lia
  rw[e1,e2];simp
def over(xs:Array Keyed)(p:Nat)(r:Array Keyed):Array Keyed:=r.toList.zipIdx.foldl (fun a (x:Keyed×Nat)=>a.setIfInBounds (p+x.2) x.1) xs
theorem xH{xs r:Array Keyed}{p:Nat}(h:p+r.size<=xs.size):(over xs p r).toList=xs.toList.take p++r.toList++xs.toList.drop (p+r.size):=by
 have:=cG p r.toList 0 xs (by simpa using h);simpa [over] using this
theorem yh{xs:Array Keyed}{i:Nat}:el xs i=xs.toList.getD i (Value.none,Value.none):=by
 unfold el;rw[mY,fU,Dk]
theorem Ec{xs r:Array Keyed}{p k:Nat}(h:p+r.size<=xs.size):el (over xs p r) k=if p<=k/\k<p+r.size then el r (k-p) else el xs k:=by
 rw[yh,xH h,yh,yh];simp only[fU];have lt1:(xs.toList.take p).length=p:=by simp;lia
 by_cases h1:k<p
 ·rw[aG (by lia),vh,Jc (by lia),Uy h1]
 ·by_cases h2:k<p+r.size
  ·rw[aJ (by lia),vh,Bo (by lia),lt1,Jc (by simp;lia)]
  ·rw[aG (by lia),Bo (by simp;lia)];congr 1;rw[cC,lt1,List.getElem?_drop,mD];congr 1;lia
theorem Qi{xs r:Array Keyed}{p:Nat}(h:p+r.size<=xs.size)(hr:r.toList.Perm ((xs.toList.drop p).take r.size)):(over xs p r).Perm xs:=by
 rw[Array.perm_iff_toList_perm,xH h];have e:xs.toList=xs.toList.take p++(xs.toList.drop p).take r.size++xs.toList.drop (p+r.size):=by
  rw[<- Gj,vh,Bp,Bp]
 conv=>rhs;rw[e]
 exact((hr.append_left _).append_right _)
theorem Rf{xs:Array Keyed}{i j t:Nat}(hj:j<=xs.size)(ht:t<j-i):el (xs.extract i j) t=el xs (i+t):=by
 refine nM ?_;rw[Array.getElem?_extract,aJ (by lia)]
section
variable{α:Type}{lt:α->α->Bool}{M:Model}{A:Around}{E:Value->Shared->Prop}{s:Shared}{κ:SortKind}{key:Keyed->α}{a₀:Array Keyed}
theorem pw_of{a:Array Keyed}(h:∀ i j,i<j->j<a.size->Le lt key (el a i) (el a j)):a.toList.Pairwise (Le lt key):=by
 rw[sS];intro i j hi hj hij;have hj':j<a.size:=by simpa using hj
 have e1:=oV (xs:=a) (i:=i) (by omega);have e2:=oV hj';rw[jk (by omega)] at e1 e2;rw[Lz,Lz,iJ e1,iJ e2];exact h i j hij hj'
theorem a0y{zzs:Type}{x:zzs}{Q:PUnit->zzs->Prop}{st:zzs}(h:Q ⟨⟩ x):wpS M A E s (set x:StateT zzs Sem PUnit) Q st:=by
 unfold wpS;rw[StateT.run_set];exact cQ ⟨rfl,h⟩
theorem a1T(e:Env M A s κ key lt a₀){st:SortSt}(hk:kindOf st=κ)(hf:failedOf st=none)(hp:(arrOf st).Perm a₀){i p n w q m w':Nat}{L1 L2:List (Nat×Nat×Nat)}
  (hL:(pendingOf st).toList=L1++(p,n,w)::(q,m,w')::L2) (hi:L1.length=i) (hq:q=p+n) (hn:1<=n) (hm:1<=m) (hz:q+m<=a₀.size) (s1:Srt lt key (arrOf st) p (p+n)) (s2:Srt lt key (arrOf st) q (q+m)) {Q:Bool->SortSt->Prop}
  (h:∀ xs g,xs.Perm a₀->(∀ k,k<p\/q+m<=k->el xs k=el (arrOf st) k)->Srt lt key xs p (q+m)->Q true (SortSt.mk' (kindOf st) xs (L1++(p,n+m,w)::L2).toArray g (failedOf st))):wpS M A E s (mergeAt' i) Q st:=by
 rw[JR];have sz:(arrOf st).size=a₀.size:=hp.size_eq;have g1:(pendingOf st)[i]?=some (p,n,w):=by
  rw[<- Dk,hL,Bo (by lia),hi,Nat.sub_self];rfl
 have g2:(pendingOf st)[i+1]?=some (q,m,w'):=by
  rw[<- Dk,hL,Bo (by lia),hi,show i+1-i=1 by lia];rfl
 refine aW (jW ?_);rw[g1,g2];have ep:((pendingOf st).setIfInBounds i (p,n+m,w)).eraseIdxIfInBounds (i+1)=(L1++(p,n+m,w)::L2).toArray:=by
  apply Mj.mp;rw[Array.toList_eraseIdxIfInBounds,Uw,hL];rw[List.set_append_right _ _ (by lia),hi,Nat.sub_self,List.eraseIdx_append_of_length_le (by lia),hi,show i+1-i=1 by lia];rfl
 refine aW (a0y ?_);rw[ep];have hkp:∀ P,kindOf (setPending st P)=κ:=fun _=>hk
 have ea:∀ t,t<a₀.size->el (arrOf st) t∈a₀.toList:=fun t ht=>zP hp ht
 refine aW (dJ (by lia) (aW (rC e (st:=setPending st _) (b:=p) (n:=n) (t:=0) (hkp _) (ea q (by lia)) (by lia) (fun t ht=>ea _ (by lia)) (by lia) (rP e.o fun u v h1 h2=>s1 _ _ (by lia) (by lia) (by lia)) ?_)));intro k k1 k2 k3;dsimp only;have cut:∀ t,p<=t->t<p+k->Le lt key (el (arrOf st) t) (el (arrOf st) q):=fun t t1 t2=>by
  have:=k2 (t-p) (by lia);rw[bvF,show p+(t-p)=t by lia] at this;unfold Le;cases hc:lt (key (el (arrOf st) q)) (key (el (arrOf st) t))
  ·rfl
  ·rw[hc] at this;cases this
 by_cases c1:n-k=0
 ·rw[aJ (by simpa using c1)];refine bf (h (arrOf st) (gallopOf st) hp (fun _ _=>rfl) fun u v h1 h2 h3=>?_);by_cases hv:v<p+n
  ·exact s1 u v h1 h2 hv
  ·by_cases hu:u<q
   ·exact Le.trans e.o (cut u h1 (by lia)) (s2 q v (bB _) (by lia) h3)
   ·exact s2 u v (by lia) h2 h3
 rw[aG (by simpa using c1)];have el1:p+k+(n-k)-1=q-1:=by lia
 rw[el1];refine aW (dJ (by omega) (aW (rC e (st:=setPending st _) (b:=q) (n:=m) (t:=m-1) (hkp _) (ea (q-1) (by omega)) (by lia) (fun t ht=>ea _ (by lia)) (by lia) (rP e.o fun u v h1 h2=>s2 _ _ (by lia) (by lia) (by lia)) ?_)));intro l l1 l2 l3;dsimp only;have a0E:∀ t,q+l<=t->t<q+m->Le lt key (el (arrOf st) (q-1)) (el (arrOf st) t):=fun t t1 t2=>by
  have:=l3 (t-q) (by lia) (by lia);rw[bvT,show q+(t-q)=t by lia] at this;exact this
 by_cases c2:l=0
 ·rw[aJ (by simpa using c2)];refine bf (h (arrOf st) (gallopOf st) hp (fun _ _=>rfl) fun u v h1 h2 h3=>?_);by_cases hv:v<p+n
  ·exact s1 u v h1 h2 hv
  ·by_cases hu:u<q
   ·exact Le.trans e.o (s1 u (q-1) h1 (by omega) (by omega)) (a0E v (by lia) h3)
   ·exact s2 u v (by lia) h2 h3
 rw[aG (by simpa using c2)];have za:((arrOf st).extract (p+k) q).size=n-k:=by rw[Vt];lia
 have zb:((arrOf st).extract q (q+l)).size=l:=by rw[Vt];lia
 have ela:∀ t,t<n-k->el ((arrOf st).extract (p+k) q) t=el (arrOf st) (p+k+t):=fun t ht=>Rf (by lia) (by lia)
 have elb:∀ t,t<l->el ((arrOf st).extract q (q+l)) t=el (arrOf st) (q+t):=fun t ht=>Rf (by lia) (by lia)
 have ina:∀ x∈((arrOf st).extract (p+k) q).toList,∃ t,t<n-k/\x=el (arrOf st) (p+k+t):=fun x hx=>by
  have e1:=jG (a:=arrOf st) (i:=p+k) (k:=n-k);rw[show p+k+(n-k)=q by lia] at e1;rw[e1] at hx;exact rZ (by omega) hx
 have inb:∀ x∈((arrOf st).extract q (q+l)).toList,∃ t,t<l/\x=el (arrOf st) (q+t):=fun x hx=>by
  rw[jG] at hx;exact rZ (by lia) hx
 have two:Two lt key a₀ ((arrOf st).extract (p+k) q) ((arrOf st).extract q (q+l)):=by
  refine⟨fun x hx=>?_,fun x hx=>?_,pw_of fun u v h1 h2=>?_,pw_of fun u v h1 h2=>?_,by lia,by lia,?_,fun y hy=>?_⟩
  ·obtain⟨t,ht,rfl⟩:=ina x hx;exact ea _ (by lia)
  ·obtain⟨t,ht,rfl⟩:=inb x hx;exact ea _ (by lia)
  ·rw[ela u (by lia),ela v (by lia)];exact s1 _ _ (by lia) (by lia) (by omega)
  ·rw[elb u (by lia),elb v (by lia)];exact s2 _ _ (by lia) (by lia) (by lia)
  ·rw[ela 0 (by lia),elb 0 (by lia)];have:=k3 k (bB _) (by lia);rw[bvF] at this;rw[wR,wR];cases hc:lt (key (el (arrOf st) q)) (key (el (arrOf st) (p+k)))
   ·rw[hc] at this;cases this
   ·rfl
  ·obtain⟨t,ht,rfl⟩:=inb y hy;rw[za,ela _ (by lia),show p+k+(n-k-1)=q-1 by lia];have:=l2 t (by omega);rw[bvT] at this;exact Le.of e.o this
 have done:∀ r g,Res lt key ((arrOf st).extract (p+k) q) ((arrOf st).extract q (q+l)) r->wpS M A E s (do modify fun c=>setArr c (r.toList.zipIdx.foldl (fun a (v,j)=>a.setIfInBounds (p+k+j) v) (arrOf c));return (failedOf (<- get)).isNone) Q (cA (setPending st (L1++(p,n+m,w)::L2).toArray) g):=fun r g hr=>by
  refine aW (oG (aW (jW ?_)));have e0:(failedOf (setArr (cA (setPending st (L1++(p,n+m,w)::L2).toArray) g) (over (arrOf st) (p+k) r))).isNone=true:=by
   show(failedOf st).isNone=true;rw[hf];rfl
  change wpS M A E s (pure (failedOf (setArr (cA (setPending st (L1++(p,n+m,w)::L2).toArray) g) (over (arrOf st) (p+k) r))).isNone) Q (setArr (cA (setPending st (L1++(p,n+m,w)::L2).toArray) g) (over (arrOf st) (p+k) r));rw[e0];have rs:r.size=n-k+l:=by
   have:=hr.1.length_eq;rw[cC,mD,mD,mD,za,zb] at this;exact this
  have hb:p+k+r.size<=(arrOf st).size:=by lia
  have pm:(over (arrOf st) (p+k) r).Perm a₀:=by
   refine(Qi hb (hr.1.trans ?_)).trans hp;have e1:=jG (a:=arrOf st) (i:=p+k) (k:=n-k);rw[show p+k+(n-k)=q by lia] at e1;rw[e1,jG,rs,List.take_add,Gj,show p+k+(n-k)=q by lia]
  have mid:∀ t,t<r.size->(∃ t',p+k<=t'/\t'<q/\el r t=el (arrOf st) t')\/(∃ t',q<=t'/\t'<q+l/\el r t=el (arrOf st) t'):=fun t ht=>by
   rcases cB.mp (hr.1.mem_iff.mp (vW ht)) with z|z
   ·obtain⟨u,hu,eu⟩:=ina _ z;exact .inl ⟨p+k+u,by lia,by lia,eu⟩
   ·obtain⟨u,hu,eu⟩:=inb _ z;exact .inr ⟨q+u,by lia,by lia,eu⟩
  refine bf (h (over (arrOf st) (p+k) r) g pm (fun t ht=>?_) fun u v h1 h2 h3=>?_)
  ·rw[Ec hb,aG (by lia)]
  ·show Le lt key (el (over (arrOf st) (p+k) r) u) (el (over (arrOf st) (p+k) r) v);rw[Ec hb,Ec hb];by_cases hu:u<p+k
   ·rw[aG (by lia)];by_cases hv:p+k<=v/\v<p+k+r.size
    ·rw[aJ hv];rcases mid (v-(p+k)) (by lia) with⟨t',a1,a2,a3⟩|⟨t',a1,a2,a3⟩
     ·rw[a3];exact s1 _ _ h1 (by lia) (by lia)
     ·rw[a3];exact Le.trans e.o (cut u h1 hu) (s2 _ _ (bB _) a1 (by lia))
    ·rw[aG hv];by_cases hv2:v<p+k
     ·exact s1 _ _ h1 h2 (by lia)
     ·exact Le.trans e.o (cut u h1 hu) (s2 _ _ (bB _) (by lia) h3)
   ·by_cases hu2:u<p+k+r.size
    ·rw[aJ (by lia)];by_cases hv:p+k<=v/\v<p+k+r.size
     ·rw[aJ hv];exact wK hr.2 e.o (by lia) (by lia)
     ·rw[aG hv];rcases mid (u-(p+k)) (by lia) with⟨t',a1,a2,a3⟩|⟨t',a1,a2,a3⟩
      ·rw[a3];exact Le.trans e.o (s1 t' (q-1) (by lia) (by lia) (by lia)) (a0E v (by lia) h3)
      ·rw[a3];exact s2 _ _ a1 (by lia) h3
    ·rw[aG (by lia),aG (by lia)];exact s2 _ _ (by lia) h2 h3
 by_cases c3:n-k<=l
 ·rw[aJ c3];exact aW (a0x e (st:=setPending st _) (hkp _) two fun r g hr=>done r g hr)
 ·rw[aG c3];exact aW (a0w e (st:=setPending st _) (hkp _) two fun r g hr=>done r g hr)
end
end TS
end L2
namespace L2
open PySem PySem.Spec PyProof.Rows PySem.W
namespace TS
section
variable{α:Type}{lt:α->α->Bool}{M:Model}{A:Around}{E:Value->Shared->Prop}{s:Shared}{κ:SortKind}{key:Keyed->α}{a₀:Array Keyed}
def Runs(lt:α->α->Bool)(key:Keyed->α)(xs:Array Keyed):Nat->List (Nat×Nat×Nat)->Nat->Prop
 |a,[],b=>a=b
 |a,r::l,b=>r.1=a/\1<=r.2.1/\Srt lt key xs a (a+r.2.1)/\Runs lt key xs (a+r.2.1) l b
theorem Runs.le{xs:Array Keyed}:∀ {l:List (Nat×Nat×Nat)} {a b:Nat},Runs lt key xs a l b->a+l.length<=b
 |[],a,b,h=>by cases h;simp
 |r::l,a,b,h=>by
  have:=Runs.le h.2.2.2;have:=h.2.1;simp;lia
theorem Runs.congr{xs ys:Array Keyed}:∀ {l:List (Nat×Nat×Nat)} {a b:Nat},Runs lt key xs a l b->(∀ k,a<=k->k<b->el ys k=el xs k)->Runs lt key ys a l b
 |[],a,b,h,_=>h
 |r::l,a,b,h,e=>by
  have hl:=h.2.2.2.le;refine⟨h.1,h.2.1,fun p q h1 h2 h3=>?_,Runs.congr h.2.2.2 fun k h1 h2=>e k (by lia) h2⟩;rw[e p (by omega) (by lia),e q (by lia) (by lia)];exact h.2.2.1 p q h1 h2 h3
theorem Runs.app{xs:Array Keyed}:∀ {l l':List (Nat×Nat×Nat)} {a b:Nat},Runs lt key xs a (l++l') b↔∃ c,Runs lt key xs a l c/\Runs lt key xs c l' b
 |[],l',a,b=>⟨fun h=>⟨a,rfl,h⟩,fun⟨c,h1,h2⟩=>by cases h1;exact h2⟩
 |r::l,l',a,b=>by
  constructor
  ·intro h;obtain⟨c,h1,h2⟩:=Runs.app.mp h.2.2.2;exact⟨c,⟨h.1,h.2.1,h.2.2.1,h1⟩,h2⟩
  ·rintro⟨c,⟨h1,h2,h3,h4⟩,h5⟩;exact⟨h1,h2,h3,Runs.app.mpr ⟨c,h4,h5⟩⟩
abbrev mkS(st:SortSt)(xs:Array Keyed)(L:List (Nat×Nat×Nat))(g:Nat):SortSt:=SortSt.mk' (kindOf st) xs L.toArray g (failedOf st)
theorem KR(e:Env M A s κ key lt a₀){st:SortSt}(hk:kindOf st=κ)(hf:failedOf st=none){xs:Array Keyed}(hp:xs.Perm a₀){L:List (Nat×Nat×Nat)}{g i lo:Nat}(hi:i+1<L.length)(hR:Runs lt key xs 0 L lo)(hz:lo<=a₀.size){Q:Bool->SortSt->Prop}
  (h:∀ xs' L' g',xs'.Perm a₀->Runs lt key xs' 0 L' lo->L'.length+1=L.length->(∀ k,lo<=k->el xs' k=el xs k)->Q true (mkS st xs' L' g')):wpS M A E s (mergeAt' i) Q (mkS st xs L g):=by
 have e0:L=L.take i++(L[i]::L[i+1]::L.drop (i+2)):=by
  rw[<- xM,<- xM,Bp]
 generalize hx:L[i]=x at e0;generalize hy:L[i+1]=y at e0;generalize h1:L.take i=L1 at e0;generalize h2:L.drop (i+2)=L2 at e0;obtain⟨p,n,w⟩:=x;obtain⟨q,m,w'⟩:=y;have hl1:L1.length=i:=by rw[<- h1,sU];lia
 rw[e0] at hR;obtain⟨c,r1,r2⟩:=Runs.app.mp hR;obtain⟨a1,a2,a3,b1,b2,b3,b4⟩:=r2;dsimp only at a1 a2 a3 b1 b2 b3 b4;subst a1;subst b1;have le1:=r1.le;have le2:=b4.le;refine a1T e (st:=mkS st xs L g) (L1:=L1) (L2:=L2) (p:=p) (n:=n) (w:=w) (q:=p+n) (m:=m) (w':=w') hk hf hp (by show L.toArray.toList=_;rw[List.toList_toArray];exact e0) hl1 rfl a2 b2 (by lia) a3 b3 ?_;intro ys g' hy1 hy2 hy3;have Z6:∀ k,k<p\/p+n+m<=k->el ys k=el xs k:=hy2;refine h ys _ g' hy1 (Runs.app.mpr ⟨p,r1.congr fun k _ hk=>Z6 k (.inl hk),rfl,(show 1<=n+m by lia),?_,?_⟩) ?_ fun k hk=>Z6 k (.inr (by lia))
 ·have:p+(n+m)=p+n+m:=by lia
  show Srt lt key ys p (p+(n+m));rw[this];exact hy3
 ·show Runs lt key ys (p+(n+m)) L2 lo;have:p+(n+m)=p+n+m:=by lia
  rw[this];exact b4.congr fun k hk _=>Z6 k (.inr hk)
 ·rw[e0];simp;lia
theorem Runs.modify{xs:Array Keyed}{f:Nat×Nat×Nat->Nat×Nat×Nat}(h1:∀ x,(f x).1=x.1)(h2:∀ x,(f x).2.1=x.2.1):∀ {l:List (Nat×Nat×Nat)} {k a b:Nat},Runs lt key xs a l b->Runs lt key xs a (l.modify k f) b
 |[],k,a,b,h=>by simpa using h
 |r::l,0,a,b,h=>by
  rw[List.modify_zero_cons];unfold Runs at h ⊢;rw[h1,h2];exact h
 |r::l,k+1,a,b,h=>by
  rw[List.modify_succ_cons];exact⟨h.1,h.2.1,h.2.2.1,Runs.modify h1 h2 h.2.2.2⟩
theorem XR(e:Env M A s κ key lt a₀){st:SortSt}(hk:kindOf st=κ)(hf:failedOf st=none)(ha:arrOf st=a₀)(hP:pendingOf st=#[]){Q:Unit->SortSt->Prop}
  (h:∀ st',(arrOf st').Perm a₀->failedOf st'=none->Srt lt key (arrOf st') 0 a₀.size->Q () st'):wpS M A E s sortRuns' Q st:=by
 rw[sortRuns'_eq];refine aW (jW ?_);rw[ha];dsimp only;generalize minRun' a₀.size a₀.size 0=mr;refine aW (jx (ju (I:=fun x c st'=>∃ xs L g lo,st'=mkS st xs L g/\c=(none,lo)/\xs.Perm a₀/\Runs lt key xs 0 L lo/\lo<=a₀.size/\(x<=lo\/lo=a₀.size))
  (Q:=fun c st'=>∃ xs L g,st'=mkS st xs L g/\c=(none,a₀.size)/\xs.Perm a₀/\Runs lt key xs 0 L a₀.size) ?step ?fin ?init) ?post)
 case init=>
  refine⟨a₀,[],gallopOf st,0,?_,rfl,.refl _,rfl,by lia,.inl (bB _)⟩;show st=SortSt.mk' (kindOf st) a₀ #[] (gallopOf st) (failedOf st);rw[<- ha,<- hP]
 case fin=>
  rintro c st' ⟨xs,L,g,lo,rfl,rfl,a1,a2,a3,a4⟩;have:lo=a₀.size:=by lia
  subst this;exact⟨xs,L,g,rfl,rfl,a1,a2⟩
 case step=>
  rintro x c st' _ hx ⟨xs,L,g,lo,rfl,rfl,a1,a2,a3,a4⟩;dsimp only;by_cases hge:lo>=a₀.size
  ·rw[aJ hge];have:lo=a₀.size:=by lia
   subst this;exact bf ⟨xs,L,g,rfl,rfl,a1,a2⟩
  rw[aG hge];refine aW (Uq e (st:=mkS st xs L g) hk a1 (by lia) (by lia) ?_);intro n ys p1 p2 p3 p4 p5;dsimp only;have hy:Low ys xs lo:=p2;by_cases hm:n<mr
  ·rw[aJ hm];refine aW (ud (uc ⟨rfl,?_⟩));refine aW (a0v e (st:=mkS st ys L g) hk p1 p3 (by lia) (by lia) p5 fun zs r1 r2 r5=>?_);rw[aG (by decide)];have r3:1<=min (a₀.size-lo) mr:=by lia
   have r4:lo+min (a₀.size-lo) mr<=a₀.size:=by lia
   have rR:Runs lt key zs 0 L lo:=a2.congr fun k _ hk=>(r2.trans hy) k hk
   show wpS M A E s _ _ (mkS st zs L g);clear p2 hy p5 r2 hm p3 p4 p1;generalize min (a₀.size-lo) mr=n at r3 r4 r5 ⊢;have snoc:∀(ys:Array Keyed)(L':List (Nat×Nat×Nat)),Runs lt key ys 0 L' lo->(∀ k,lo<=k->el ys k=el zs k)->Runs lt key ys 0 (L'++[(lo,n,0)]) (lo+n):=fun ys L' hy he=>
    Runs.app.mpr ⟨lo,hy,rfl,r3,fun p q h1 h2 h3=>by rw[he p h1,he q (by lia)];exact r5 p q h1 h2 h3,rfl⟩
   have push:∀(ys:Array Keyed)(L':List (Nat×Nat×Nat))(g':Nat),setPending (mkS st ys L' g') ((pendingOf (mkS st ys L' g')).push (lo,n,0))=mkS st ys (L'++[(lo,n,0)]) g':=fun ys L' g'=>by
    show SortSt.mk' _ _ (L'.toArray.push (lo,n,0)) _ _=_;rw[List.push_toArray]
   refine aW (jW ?_);have ep:∀(ys:Array Keyed)(L':List (Nat×Nat×Nat))(g':Nat),pendingOf (mkS st ys L' g')=L'.toArray:=fun _ _ _=>rfl
   rw[ep];cases hb:L.toArray.back? with
   |none=>
    dsimp only;refine aW (oG (bf ?_));rw[push];exact⟨zs,_,g,lo+n,rfl,rfl,r1,snoc zs L rR (fun _ _=>rfl),r4,.inl (by lia)⟩
   |some z=>
    obtain⟨u,v,w⟩:=z;dsimp only;refine aW (jx (ju (I:=fun x c st'=>∃ ys L' g',st'=mkS st ys L' g'/\c=(none,())/\ys.Perm a₀/\Runs lt key ys 0 L' lo/\(∀ k,lo<=k->el ys k=el zs k))
     (Q:=fun c st'=>∃ ys L' g',st'=mkS st ys L' g'/\c=(none,())/\ys.Perm a₀/\Runs lt key ys 0 L' lo/\(∀ k,lo<=k->el ys k=el zs k)) ?sti (fun _ _ z=>z) ⟨zs,L,g,rfl,rfl,r1,rR,fun _ _=>rfl⟩) ?poi)
    case sti=>
     rintro y c st' _ hy ⟨ys,L',g',rfl,rfl,b1,b2,b3⟩;refine aW (jW ?_);rw[ep,cI];by_cases hl:L'.length>1
     ·rw[aJ hl,Ft,eZ (by lia)];generalize L'[L'.length-2]=t;obtain⟨t1,t2,t3⟩:=t;dsimp only;by_cases ho:t3<=power' a₀.size (2*u+v) (2*u+v+v+n) a₀.size
      ·rw[aJ ho];exact bf ⟨ys,L',g',rfl,rfl,b1,b2,b3⟩
      ·rw[aG ho];refine aW (KR e hk hf b1 (by lia) b2 (by omega) fun zs L2 g2 c1 c2 c3 c4=>?_);exact bf ⟨zs,L2,g2,rfl,rfl,c1,c2,fun k hk=>(c4 k hk).trans (b3 k hk)⟩
     ·rw[aG hl];exact bf ⟨ys,L',g',rfl,rfl,b1,b2,b3⟩
    case poi=>
     rintro c st' ⟨ys,L',g',rfl,rfl,b1,b2,b3⟩;dsimp only;refine aW (oG (aW (oG (bf ?_))));generalize power' a₀.size (2*u+v) (2*u+v+v+n) a₀.size=pw;have em:setPending (mkS st ys L' g') ((pendingOf (mkS st ys L' g')).modify ((pendingOf (mkS st ys L' g')).size-1) fun x=>(x.1,x.2.1,pw))=mkS st ys (L'.modify (L'.length-1) fun x=>(x.1,x.2.1,pw)) g':=by
      show SortSt.mk' _ _ (L'.toArray.modify (L'.toArray.size-1) fun x=>(x.1,x.2.1,pw)) _ _=_;rw[Vp,cI]
     rw[em,push];exact⟨ys,_,g',lo+n,rfl,rfl,b1,snoc ys _ (Runs.modify (f:=fun x=>(x.1,x.2.1,pw)) (fun _=>rfl) (fun _=>rfl) b2) b3,r4,.inl (by lia)⟩
  ·rw[aG hm];have rR:Runs lt key ys 0 L lo:=a2.congr fun k _ hk=>hy k hk
   have r4:lo+n<=a₀.size:=by lia
   show wpS M A E s _ _ (mkS st ys L g);clear hm hy p2;have r5:=p5;have r3:=p3;have r1:=p1;generalize ys=zs at r1 r3 r5 rR ⊢;have snoc:∀(ys:Array Keyed)(L':List (Nat×Nat×Nat)),Runs lt key ys 0 L' lo->(∀ k,lo<=k->el ys k=el zs k)->Runs lt key ys 0 (L'++[(lo,n,0)]) (lo+n):=fun ys L' hy he=>
    Runs.app.mpr ⟨lo,hy,rfl,r3,fun p q h1 h2 h3=>by rw[he p h1,he q (by lia)];exact r5 p q h1 h2 h3,rfl⟩
   have push:∀(ys:Array Keyed)(L':List (Nat×Nat×Nat))(g':Nat),setPending (mkS st ys L' g') ((pendingOf (mkS st ys L' g')).push (lo,n,0))=mkS st ys (L'++[(lo,n,0)]) g':=fun ys L' g'=>by
    show SortSt.mk' _ _ (L'.toArray.push (lo,n,0)) _ _=_;rw[List.push_toArray]
   refine aW (jW ?_);have ep:∀(ys:Array Keyed)(L':List (Nat×Nat×Nat))(g':Nat),pendingOf (mkS st ys L' g')=L'.toArray:=fun _ _ _=>rfl
   rw[ep];cases hb:L.toArray.back? with
   |none=>
    dsimp only;refine aW (oG (bf ?_));rw[push];exact⟨zs,_,g,lo+n,rfl,rfl,r1,snoc zs L rR (fun _ _=>rfl),r4,.inl (by lia)⟩
   |some z=>
    obtain⟨u,v,w⟩:=z;dsimp only;refine aW (jx (ju (I:=fun x c st'=>∃ ys L' g',st'=mkS st ys L' g'/\c=(none,())/\ys.Perm a₀/\Runs lt key ys 0 L' lo/\(∀ k,lo<=k->el ys k=el zs k))
     (Q:=fun c st'=>∃ ys L' g',st'=mkS st ys L' g'/\c=(none,())/\ys.Perm a₀/\Runs lt key ys 0 L' lo/\(∀ k,lo<=k->el ys k=el zs k)) ?sti (fun _ _ z=>z) ⟨zs,L,g,rfl,rfl,r1,rR,fun _ _=>rfl⟩) ?poi)
    case sti=>
     rintro y c st' _ hy ⟨ys,L',g',rfl,rfl,b1,b2,b3⟩;refine aW (jW ?_);rw[ep,cI];by_cases hl:L'.length>1
     ·rw[aJ hl,Ft,eZ (by lia)];generalize L'[L'.length-2]=t;obtain⟨t1,t2,t3⟩:=t;dsimp only;by_cases ho:t3<=power' a₀.size (2*u+v) (2*u+v+v+n) a₀.size
      ·rw[aJ ho];exact bf ⟨ys,L',g',rfl,rfl,b1,b2,b3⟩
      ·rw[aG ho];refine aW (KR e hk hf b1 (by lia) b2 (by omega) fun zs L2 g2 c1 c2 c3 c4=>?_);exact bf ⟨zs,L2,g2,rfl,rfl,c1,c2,fun k hk=>(c4 k hk).trans (b3 k hk)⟩
     ·rw[aG hl];exact bf ⟨ys,L',g',rfl,rfl,b1,b2,b3⟩
    case poi=>
     rintro c st' ⟨ys,L',g',rfl,rfl,b1,b2,b3⟩;dsimp only;refine aW (oG (aW (oG (bf ?_))));generalize power' a₀.size (2*u+v) (2*u+v+v+n) a₀.size=pw;have em:setPending (mkS st ys L' g') ((pendingOf (mkS st ys L' g')).modify ((pendingOf (mkS st ys L' g')).size-1) fun x=>(x.1,x.2.1,pw))=mkS st ys (L'.modify (L'.length-1) fun x=>(x.1,x.2.1,pw)) g':=by
      show SortSt.mk' _ _ (L'.toArray.modify (L'.toArray.size-1) fun x=>(x.1,x.2.1,pw)) _ _=_;rw[Vp,cI]
     rw[em,push];exact⟨ys,_,g',lo+n,rfl,rfl,b1,snoc ys _ (Runs.modify (f:=fun x=>(x.1,x.2.1,pw)) (fun _=>rfl) (fun _=>rfl) b2) b3,r4,.inl (by lia)⟩
 case post=>
  rintro c st' ⟨xs,L,g,rfl,rfl,a1,a2⟩;dsimp only;have one:∀(xs:Array Keyed)(L:List (Nat×Nat×Nat)),L.length<=1->Runs lt key xs 0 L a₀.size->Srt lt key xs 0 a₀.size:=fun xs L hl hR=>by
   cases L with
   |nil=>
    have:0=a₀.size:=hR;intro p q _ _ hq;lia
   |cons r l=>
    cases l with
    |nil=>
     have h4:0+r.2.1=a₀.size:=hR.2.2.2;have:=hR.2.2.1;rwa[h4] at this
    |cons _ _=>simp at hl
  refine aW (jx (ju (I:=fun x c st'=>∃ xs L g,st'=mkS st xs L g/\c=(none,())/\xs.Perm a₀/\Runs lt key xs 0 L a₀.size/\L.length+x<=a₀.size)
   (Q:=fun c st'=>∃ xs L g,st'=mkS st xs L g/\c=(none,())/\xs.Perm a₀/\Runs lt key xs 0 L a₀.size/\L.length<=1) ?st2 ?fi2 ?in2) ?po2)
  case in2=>
   have:=a2.le;exact⟨xs,L,g,rfl,rfl,a1,a2,by lia⟩
  case fi2=>
   rintro c st' ⟨xs,L,g,rfl,rfl,a1,a2,a3⟩;exact⟨xs,L,g,rfl,rfl,a1,a2,by lia⟩
  case po2=>
   rintro c st' ⟨xs,L,g,rfl,rfl,a1,a2,a3⟩;exact bf (h _ a1 hf (one xs L a3 a2))
  case st2=>
   rintro x c st' _ hx ⟨xs,L,g,rfl,rfl,a1,a2,a3⟩;refine aW (jW ?_);have ep:pendingOf (mkS st xs L g)=L.toArray:=rfl;rw[ep,cI];by_cases hl:L.length<=1
   ·rw[aJ hl];exact bf ⟨xs,L,g,rfl,rfl,a1,a2,hl⟩
   ·rw[aG hl];have hi:∀ c:Prop,[Decidable c]->(if c then L.length-2-1 else L.length-2)+1<L.length:=fun c _=>by split<;>lia
    refine aW (KR e hk hf a1 (hi _) a2 (bB _) fun zs L2 g2 b1 b2 b3 b4=>?_);exact bf ⟨zs,L2,g2,rfl,rfl,b1,b2,by lia⟩
end
end TS
end L2
namespace L2
open PySem PySem.Spec PyProof.Rows PySem.W
theorem Ql{α β:Type}{g:α->β}{l m:List β}(h:l.Perm m):∀ r:List α,m=r.map g->∃ r':List α,r'.Perm r/\l=r'.map g:=by
 induction h with
 |nil=>intro r e;exact⟨[],by cases r<;>simp_all,rfl⟩
 |@cons x l m _ ih=>
  intro r e;cases r with
  |nil=>simp at e
  |cons a r=>
   rw[dM] at e;injection e with e1 e2;obtain⟨r',p,e3⟩:=ih r e2;exact⟨a::r',p.cons a,by rw[dM,<- e1,<- e3]⟩
 |swap x y l=>
  intro r e
  match r,e with
  |a::b::r,e=>
   rw[dM,dM] at e;injection e with e1 e2;injection e2 with e2 e3;exact⟨b::a::r,.swap _ _ _,by rw[dM,dM,<- e1,<- e2,<- e3]⟩
 |trans _ _ ih1 ih2=>
  intro r e;obtain⟨r2,p2,e2⟩:=ih2 r e;obtain⟨r1,p1,e1⟩:=ih1 r2 e2;exact⟨r1,p1.trans p2,e1⟩
section
variable{prog:Program}{w:World}{A:Around}{E:Value->Shared->Prop}{s:Shared}{α:Type}
structure Mt(prog:Program)(w:World)(h:Heap)(vs:List Value)(lt:α->α->Bool)(f:Nat->α):Prop where
 ex:2<=vs.length->∃ κ:SortKind,(∀(A':Around)(E':Value->Shared->Prop)(s':Shared)(Q':SortKind->Shared->Prop),Keeps h s'.heap->Q' κ s'->wpAny (model prog w) A' (keyKind' vs.toArray) Q' E' s') /\
  ∀(A':Around)(s':Shared)(i j:Nat)(C:Bool->Shared->Prop),A'.units+2<cLine->Keeps h s'.heap->i<vs.length->j<vs.length->C (lt (f i) (f j)) s'->wpAny (model prog w) A' (keyLt' κ (vs.getD i Value.none) (vs.getD j Value.none)) C (fun _ _=>False) s'
def byP(vs:List Value)(p:Array Nat):List Value:=p.toList.map fun i=>vs.getD i Value.none
def vH(vs:List Value)(f:Nat->α):Prop:=∀ i j,i<vs.length->j<vs.length->vs.getD i Value.none=vs.getD j Value.none->f i=f j
open Classical in
noncomputable def Zd(vs:List Value)(f:Nat->α)(x:Keyed):α:=f (Classical.epsilon fun i=>i<vs.length/\vs.getD i Value.none=x.1)
theorem yq{vs:List Value}{f:Nat->α}(h1:vH vs f){i:Nat}(hi:i<vs.length){v:Value}:Zd vs f (vs.getD i Value.none,v)=f i:=by
 unfold Zd;have h:=Classical.epsilon_spec (p:=fun j=>j<vs.length/\vs.getD j Value.none=vs.getD i Value.none) ⟨i,hi,rfl⟩;exact h1 _ _ h.1 hi h.2
theorem VH{vs:List Value}{κ:SortKind}{lt:α->α->Bool}{f:Nat->α}(o:jF lt)(h1:vH vs f)
  (a2g:∀ i j (C:Bool->Shared->Prop),i<vs.length->j<vs.length->C (lt (f i) (f j)) s->wpAny (model prog w) A (keyLt' κ (vs.getD i Value.none) (vs.getD j Value.none)) C (fun _ _=>False) s) :
  wpAny (model prog w) A (sortRuns'.run (SortSt.mk' κ (vs.toArray.zip vs.toArray) #[] 7 none)) (fun r s'=>s'=s/\∃ p,Good vs.length p/\Gz lt f p vs.length/\(arrOf r.2).map (·.2)=(byP vs p).toArray/\failedOf r.2=none) E s:=by
 have ez:(vs.toArray.zip vs.toArray).toList=(List.range vs.length).map fun i=>(vs.getD i Value.none,vs.getD i Value.none):=by
  refine G7 fun i=>?_
  by_cases hi:i<vs.length
  ·simp[hi,fU,List.getElem?_zip_eq_some]
  ·simp[hi]
 have hz:(vs.toArray.zip vs.toArray).size=vs.length:=by simp
 have e:TS.Env (model prog w) A s κ (Zd vs f) lt (vs.toArray.zip vs.toArray):=by
  refine⟨o,fun x y hx hy C hC=>?_⟩;rw[ez] at hx hy;obtain⟨i,hi,rfl⟩:=cD.mp hx;obtain⟨j,hj,rfl⟩:=cD.mp hy;have hi':=cH.mp hi;have hj':=cH.mp hj;rw[yq h1 hi',yq h1 hj'] at hC;exact a2g i j C hi' hj' hC
 refine TS.XR (Q:=fun _ st=>∃ p,Good vs.length p/\Gz lt f p vs.length/\(arrOf st).map (·.2)=(byP vs p).toArray/\failedOf st=none) e rfl rfl rfl rfl fun st' hp hf hs=>?_
 have hp':=hp.toList;rw[ez] at hp';obtain⟨r,pr,er⟩:=Ql hp' _ rfl;have gd:Good vs.length r.toArray:=⟨by simpa using pr⟩
 have elr:∀ i,(hi:i<r.length)->TS.el (arrOf st') i=(vs.getD r[i] Value.none,vs.getD r[i] Value.none):=fun i hi=>by
  rw[TS.yh,er,fU,dG,eZ hi];rfl
 have hr:r.length=vs.length:=by simpa using pr.length_eq
 refine⟨r.toArray,gd,fun i hi=>?_,?_,hf⟩
 ·have h2:=hs i (i+1) (mG _) (u9 _) (by rw[hz];exact hi);rw[elr i (by lia),elr (i+1) (by lia)] at h2;have lt1:r[i]<vs.length:=cH.mp (pr.mem_iff.mp (pZ _));have lt2:r[i+1]<vs.length:=cH.mp (pr.mem_iff.mp (pZ _));rw[yq h1 lt1,yq h1 lt2] at h2;unfold Ky;have a1:r.toArray.getD i 0=r[i]:=by
   rw[mY,Ft,eZ (by lia)];rfl
  have a2:r.toArray.getD (i+1) 0=r[i+1]:=by
   rw[mY,Ft,eZ (by lia)];rfl
  rw[a1,a2];exact h2
 ·apply Mj.mp;rw[Array.toList_map,er];unfold byP;simp
theorem GD{a:Addr}{vs:List Value}{n:Nat}{h0:Heap}{lt:α->α->Bool}{f:Nat->α}{P:PySem.Fin->Shared->Prop}(o:jF lt)(h1:vH vs f)(hu:A.units+2<cLine)(hr:Mt prog w h0 vs lt f)(hz:vs.length<=sizeLine) (ho:s.heap.get? a=some (seqObj "list" vs.toArray n)) (hk:∀ b o,h0.get? b=some o->s.heap.get? b=some o/\b≠a)
  (h:∀ p,Good vs.length p->Gz lt f p vs.length->P (.done (.ret .none)) { s with heap:=sortedHeap s.heap a vs (byP vs p).toArray }):wpAny (model prog w) A (Builtin.«list.sort» ⟨[.ref a],[]⟩) P E s:=by
 rw[list_sort_plain];have ha:a<s.heap.objs.size:=bR ho;refine bN (listItems_at ho rfl (bN (listUpdate_at ho rfl ?_ (by show vs.toArray.size<=_;rw[cI];omega) (by show(#[]:Array Value).size<=_;simp))));have ho1:=get?_update_seq ho (fun _=>#[]);refine bN (seqEpoch_at ho1 rfl (bN (wpAny_newTuple (bN (wpAny_newList (tZ ?_) (by simp))) (by simpa using hz))));show wpAny (model prog w) A _ P E { s with heap:=((s.heap.update a (Obj.mapSeq fun _=>#[])).push (seqObj "tuple" vs.toArray 0)).push (seqObj "list" #[] 0) };have ho6:(((s.heap.update a (Obj.mapSeq fun _=>#[])).push (seqObj "tuple" vs.toArray 0)).push (seqObj "list" #[] 0)).get? a=some _:=dW _ (dW _ ho1);have kp:Keeps h0 (((s.heap.update a (Obj.mapSeq fun _=>#[])).push (seqObj "tuple" vs.toArray 0)).push (seqObj "list" #[] 0)):=fun b o e=>by
  obtain⟨e1,e2⟩:=hk b o e;refine dW _ (dW _ ?_);rw[Fz _ _ _ _ e2];exact e1
 dsimp only;by_cases h2:vs.toArray.size<2
 ·rw[aJ h2,aJ h2];refine bN (cQ ?_);rw[StateT.run_pure];refine bN (cQ ?_);dsimp only;have h2':vs.length<2:=by simpa using h2
  have gd:Good vs.length (List.range vs.length).toArray:=⟨.refl _⟩
  have up:Gz lt f (List.range vs.length).toArray vs.length:=fun i hi=>by lia
  have eb:byP vs (List.range vs.length).toArray=vs:=by
   unfold byP;refine G7 fun i=>?_
   simp only[dG];by_cases hi:i<vs.length
   ·simp[hi,fU]
   ·simp[hi]
  have h':=h _ gd up;rw[eb] at h';have eo:(arrOf (SortSt.mk' general' (vs.toArray.zip vs.toArray) #[] 7 none)).map (·.2)=vs.toArray:=by
   show(vs.toArray.zip vs.toArray).map (·.2)=_;apply Mj.mp;simp[List.map_snd_zip]
  refine bN (seqEpoch_at ho6 rfl ?_);rw[eo];refine bN (listUpdate_at ho6 rfl ?_ (by simp) (by rw[cI];lia));simp only[bne_self_eq_false,wL,rE];exact cQ h'
 ·rw[aG h2,aG h2];have h2':2<=vs.length:=by simpa using h2
  obtain⟨κ,hkind,hless⟩:=hr.ex h2';refine bN (hkind _ _ _ _ kp ?_);refine bN (jw (VH (κ:=κ) (f:=f) o h1 fun i j C hi hj hC=>hless A _ i j C hu kp hi hj hC) ?_ fun _ _ e=>e);rintro⟨⟨⟩,st'⟩ s' ⟨rfl,p,g,u,eo,hf⟩;dsimp only;dsimp only at eo hf;refine bN (seqEpoch_at ho6 rfl ?_);rw[eo];refine bN (listUpdate_at ho6 rfl ?_ (by simp) ?_)
  ·rw[hf];simp only[bne_self_eq_false,wL,rE];exact cQ (h p g u)
  ·unfold byP;rw[cI,aZ,mD,g.size];lia
theorem yJ{l:Addr}{vs:List Value}{lt:α->α->Bool}{f:Nat->α}{Q:Value->Shared->Prop}(o:jF lt)(h1:vH vs f)(hu:A.units+10<cLine)(hr:Mt prog w s.heap vs lt f)(hz:vs.length<=sizeLine)(hl:s.heap.IsList l vs.toArray)
  (h:∀ p,Good vs.length p->Gz lt f p vs.length->Q (.ref (s.heap.objs.size+1)) { s with heap:=sortedAll s.heap vs (byP vs p).toArray }):wpAny (model prog w) A (call (.builtin "sorted") [.ref l]) Q E s:=by
 refine La kind_sorted plain_sorted entry_sorted (args_sorted1 _) ?_;unfold Builtin.«sorted»;refine bN (m:=checkCount "sorted" 1 1 _) (cQ (bN (collect_list hl ?_ hz)));refine bN (wpAny_newList ?_ (by simpa using hz));have e1:((s.heap.push (seqObj "list" #[] 0)).update s.heap.objs.size (Obj.mapSeq (·++vs.toArray))).objs.size=s.heap.objs.size+1:=by rw[Heap.size_update,size_push']
 have e2:(((s.heap.push (seqObj "list" #[] 0)).update s.heap.objs.size (Obj.mapSeq (·++vs.toArray))).push (seqObj "list" vs.toArray 0)).get? (s.heap.objs.size+1)=some (seqObj "list" vs.toArray 0):=by
  rw[<- e1];exact jo _ rfl
 show wpAny _ _ _ _ _ { s with heap:=((s.heap.push (seqObj "list" #[] 0)).update s.heap.objs.size (Obj.mapSeq (·++vs.toArray))).push (seqObj "list" vs.toArray 0) };rw[e1];refine bN (tZ (Ml slot_list_sort ⟨_,e2,rfl⟩ entry_list_sort (GD (h0:=s.heap) o h1 (by show A.units+1+1+2<cLine;lia) hr hz e2 (fun b o e=>⟨?_,fZ (Nat.lt_succ_of_lt (bR e))⟩) fun p g u=>⟨_,rfl,cQ ⟨_,rfl,h p g u⟩⟩) (args_list_sort _)));have hlt:b<s.heap.objs.size:=bR e;refine dW _ ?_;rw[Fz _ _ _ _ (fZ hlt)];exact dW _ e
end
def fJ(a b:Cell):Bool:=decide (aP a b)
theorem mK:jF fJ:=by
 refine⟨fun a b h=>?_,fun a b c h1 h2=>?_,fun a b h1 h2=>?_⟩
 ·have:=cJ h;refine dB ?_;unfold aP at *;lia
 ·have h1':=jl h1;have h2':=jl h2;refine dB ?_;unfold aP at *;lia
 ·have h1':=jl h1;have h2':=jl h2;unfold aP at *;exact jD (by omega) (by lia)
section
variable{X:Cx}
theorem wU{pins:List (Addr×Obj)}{zzs:L2.St}{H:Hp}{s:Shared}{vs:List V}{us:List Value}{cs:List Cell}(I:Inv X pins zzs H s)(D:aV X.K H vs (cs.map au))(r:Vals vs us):Mt X.prog X.w s.heap us fJ fun i=>cs.getD i (0,0):=by
 have hl:us.length=cs.length:=by rw[<- r.length,D.length,aZ]
 have at_:∀ i,(hi:i<cs.length)->∃(a:Addr)(o:Obj)(t t':Tok)(n:Nat),us.getD i Value.none=.ref a/\s.heap.get? a=some o/\o.cls=.type "tuple" /\ o.data=.seq #[.int cs[i].1 t,.int cs[i].2 t'] n:=fun i hi=>by
  have hv:i<vs.length:=by rw[r.length,hl];exact hi
  have ev:vs[i]?=some vs[i]:=by simp[hv]
  obtain⟨u,eu,ru⟩:=r.get ev;obtain⟨d,ed,dd⟩:=D.get ev;rw[dG,eZ hi] at ed;cases ed;obtain⟨a,o,t,t',n,rfl,h1,h2,h3⟩:=lK I dd ru;exact⟨a,o,t,t',n,by rw[fU,eu];rfl,h1,h2,h3⟩
 refine⟨fun h2=>⟨tuples' true,fun A' E' s' Q' kp q=>?_,fun A' s' i j C hu kp hi hj hC=>?_⟩⟩
 ·have kt:∀(cs:List Cell)(us:List Value),us.length=cs.length->(∀ i,(hi:i<cs.length)->∃(a:Addr)(o:Obj)(t t':Tok)(n:Nat),us.getD i Value.none=.ref a/\s.heap.get? a=some o/\o.cls=.type "tuple" /\ o.data=.seq #[.int cs[i].1 t,.int cs[i].2 t'] n) ->
    ∃ fs:List Value,fs.length=us.length/\(∀ f∈fs,∃ i t,f=Value.int i t)/\KatTups s'.heap us fs:=by
   intro cs
   induction cs with
   |nil=>
    intro us e _;cases us with
    |nil=>exact⟨[],rfl,(fun f hf=>by cases hf),.nil⟩
    |cons a b=>simp at e
   |cons c cs ih=>
    intro us e h;cases us with
    |nil=>simp at e
    |cons u us=>
     obtain⟨a,o,t,t',n,e1,e2,e3,e4⟩:=h 0 (by simp);have eu:u=.ref a:=e1;subst eu;obtain⟨fs,f1,f2,f3⟩:=ih us (by simpa using e) fun i hi=>by
      have:=h (i+1) (by simpa using hi);simpa using this
     refine⟨.int c.1 t::fs,by simp[f1],fun f hf=>?_,KatTups.cons (kp _ _ e2) e3 e4 rfl f3⟩;rcases cW.mp hf with z|z
     ·exact⟨_,_,z⟩
     ·exact f2 f z
  obtain⟨fs,f1,f2,f3⟩:=kt cs us hl at_;refine kat_kind (T:=.type "int") f3 (by lia) (fun v hv=>?_) (by decide) ?_
  ·obtain⟨i,t,rfl⟩:=f2 v hv;exact Looks.of_pure rfl
  ·exact q
 ·rw[hl] at hi hj;obtain⟨a,o,t,t',n,e1,e2,e3,e4⟩:=at_ i hi;obtain⟨b,o2,t2,t2',n2,g1,g2,g3,g4⟩:=at_ j hj;rw[e1,g1];have ci:cs.getD i (0,0)=cs[i]:=by rw[fU,eZ hi];rfl
  have cj:cs.getD j (0,0)=cs[j]:=by rw[fU,eZ hj];rfl
  rw[ci,cj] at hC;refine kat_lt (kp _ _ e2) e4 (kp _ _ g2) g4 ?_;have out:∀ x:Bool,(x=true↔aP cs[i] cs[j])->C x s':=fun x hx=>by
   have:x=fJ cs[i] cs[j]:=by
    unfold fJ;cases x
    ·exact(dB fun z=>by have:=hx.mpr z;cases this).symm
    ·exact(cR (hx.mp rfl)).symm
   rw[this];exact hC
  refine kat_cons (rH ?_);by_cases q1:cs[i].1=cs[j].1
  ·rw[show(cs[i].1==cs[j].1)=true from kJ.mpr q1];refine kat_yes (kat_cons (rH ?_));by_cases q2:cs[i].2=cs[j].2
   ·rw[show(cs[i].2==cs[j].2)=true from kJ.mpr q2];refine kat_yes (kat_nil (out _ ⟨fun z=>?_,fun z=>?_⟩))
    ·have:=cJ z;simp at this
    ·unfold aP at z;lia
   ·rw[show(cs[i].2==cs[j].2)=false from n8.mpr q2];refine kat_no (kat_one _ _ (lt_int (out _ ?_)));rw[gq];unfold aP;lia
  ·rw[show(cs[i].1==cs[j].1)=false from n8.mpr q1];refine kat_no (oneLt_int (out _ ?_));rw[gq];unfold aP;lia
theorem Cj{pins:List (Addr×Obj)}{zzs:L2.St}{H:Hp}{s:Shared}{vs:List V}{us:List Value}{cs:List Cell}(I:Inv X pins zzs H s)(D:aV X.K H vs (cs.map au))(r:Vals vs us):vH us fun i=>cs.getD i (0,0):=by
 have hl:us.length=cs.length:=by rw[<- r.length,D.length,aZ]
 have at_:∀ i,i<us.length->∃(a:Addr)(o:Obj)(t t':Tok)(n:Nat),us.getD i Value.none=.ref a/\s.heap.get? a=some o/\o.data=.seq #[.int (cs.getD i (0,0)).1 t,.int (cs.getD i (0,0)).2 t'] n:=fun i hi=>by
  have hv:i<vs.length:=by rw[r.length];exact hi
  have hi':i<cs.length:=by lia
  have ev:vs[i]?=some vs[i]:=by simp[hv]
  obtain⟨u,eu,ru⟩:=r.get ev;obtain⟨d,ed,dd⟩:=D.get ev;rw[dG,eZ hi'] at ed;cases ed;obtain⟨a,o,t,t',n,rfl,h1,_,h3⟩:=lK I dd ru;refine⟨a,o,t,t',n,by rw[fU,eu];rfl,h1,?_⟩;rw[fU,eZ hi'];exact h3
 intro i j hi hj e;obtain⟨a,o,t,t',n,e1,e2,e3⟩:=at_ i hi;obtain⟨b,o',v,v',m,g1,g2,g3⟩:=at_ j hj;rw[e1,g1] at e;cases e;rw[e2] at g2;cases g2;rw[e3] at g3;injection g3 with g5 _;have g6:=congrArg Array.toList g5;injection g6 with a1 a2;injection a2 with a2 _;injection a1 with a1 _;injection a2 with a2 _;exact jD a1 a2
theorem yE{vs:List V}{us:List Value}(r:Vals vs us):∀(ps:List Nat),(∀ i∈ps,i<vs.length)->Vals (ps.map fun i=>vs.getD i .non) (ps.map fun i=>us.getD i Value.none)
 |[],_=>.nil
 |i::ps,h=>by
  have hi:=h i cZ;obtain⟨u,eu,ru⟩:=r.get (show vs[i]?=some vs[i] from by simp[hi]);have e1:vs.getD i .non=vs[i]:=by simp[fU,hi]
  have e2:us.getD i Value.none=u:=by rw[fU,eu];rfl
  rw[dM,dM,e1,e2];exact .cons ru (yE r ps fun j hj=>h j (f9 _ hj))
theorem Eb{K:ak}{H:Hp}{vs:List V}{ds:List Dt}{d0:Dt}(D:aV K H vs ds):∀(ps:List Nat),(∀ i∈ps,i<vs.length)->aV K H (ps.map fun i=>vs.getD i .non) (ps.map fun i=>ds.getD i d0)
 |[],_=>.nil
 |i::ps,h=>by
  have hi:=h i cZ;obtain⟨d,ed,dd⟩:=D.get (show vs[i]?=some vs[i] from by simp[hi]);have e1:vs.getD i .non=vs[i]:=by simp[fU,hi]
  have e2:ds.getD i d0=d:=by rw[fU,ed];rfl
  rw[dM,dM,e1,e2];exact .cons dd (Eb D ps fun j hj=>h j (f9 _ hj))
theorem uM{β:Type}{xs:List β}{d:β}{ps:List Nat}(h:ps.Perm (List.range xs.length)):(ps.map fun i=>xs.getD i d).Perm xs:=by
 have e:(List.range xs.length).map (fun i=>xs.getD i d)=xs:=by
  refine G7 fun i=>?_
  simp only[dG];by_cases hi:i<xs.length
  ·simp[hi,fU]
  ·simp[hi]
 exact(h.map _).trans (by rw[e])
def Asc(cs:List Cell):Prop:=cs.Pairwise fun a b=>¬aP b a
def Tq(K:ak):List V->Hp->VK->Prop:=fun xs H Q=>∃(p:Addr)(vs:List V)(cs:List Cell),xs=[.ref p]/\SqL K H p vs/\aV K H vs (cs.map au)/\cs.length<64/\∀ l ws ds,H l=none->ws.Perm vs->aV K H ws (ds.map au)->ds.Perm cs->Asc ds->Q (.ref l) (upd H l (.lst ws))
theorem Jp(hu:X.A.units+60<cLine):dX X (.builtin "sorted") (Tq X.K):=by
 intro pins s zzs H xs us Q I r h;obtain⟨p,vs,cs,rfl,hS,D,h64,q⟩:=h;obtain⟨u,rfl,ru⟩:=vals1 r;cases ru;obtain⟨its,rv,pl,hz⟩:=I.list hS;have hl:its.length=cs.length:=by rw[<- rv.length,D.length,aZ]
 have hv:vs.length=its.length:=rv.length;refine yJ mK (Cj I D rv) (by lia) (wU I D rv) (by lia) pl.isList fun o g up=>?_
 obtain⟨e,he⟩:=sortedAll_at s.heap its (byP its o).toArray;have hn:H (s.heap.objs.size+1)=none:=I.hok.fresh (u9 _);have bd:∀ i∈o.toList,i<vs.length:=fun i hi=>by rw[hv];exact cH.mp (g.perm.mem_iff.mp hi)
 have rv':Vals (o.toList.map fun i=>vs.getD i .non) (byP its o):=yE rv o.toList bd;have pv:(o.toList.map fun i=>vs.getD i .non).Perm vs:=uM (by rw[hv];exact g.perm);have dv:aV X.K H (o.toList.map fun i=>vs.getD i .non) ((o.toList.map fun i=>cs.getD i (0,0)).map au):=by
  have:=Eb (d0:=au (0,0)) D o.toList bd;have e1:(o.toList.map fun i=>(cs.map au).getD i (au (0,0)))=((o.toList.map fun i=>cs.getD i (0,0)).map au):=by
   rw[ni];refine Ax fun i hi=>?_
   simp only[fU,dG,Function.comp];cases cs[i]?<;>rfl
  rw[<- e1];exact this
 have pc:(o.toList.map fun i=>cs.getD i (0,0)).Perm cs:=uM (by rw[<- hl];exact g.perm);have as:Asc (o.toList.map fun i=>cs.getD i (0,0)):=by
  unfold Asc;rw[sS];intro i j hi hj hij;rw[aZ,mD,g.size] at hi hj;have:=up.le mK (j-i) i (by lia);have e1:i+(j-i)=j:=by lia
  rw[e1] at this;have:=jl this;have sz:=g.size;have a1:Ky (fun i=>cs.getD i (0,0)) o i=(o.toList.map fun i=>cs.getD i (0,0))[i]:=by
   unfold Ky;rw[Bd,mY,jk (by lia)];rfl
  have a2:Ky (fun i=>cs.getD i (0,0)) o j=(o.toList.map fun i=>cs.getD i (0,0))[j]:=by
   unfold Ky;rw[Bd,mY,jk (by lia)];rfl
  rw[<- a1,<- a2];exact this
 have hz':(o.toList.map fun i=>vs.getD i .non).length<=sizeLine:=by rw[pv.length_eq];exact hz
 exact⟨.ref (s.heap.objs.size+1),upd H (s.heap.objs.size+1) (.lst (o.toList.map fun i=>vs.getD i .non)),I.laid (a:=s.heap.objs.size+1) (o:=.lst (o.toList.map fun i=>vs.getD i .non)) (t':=s.toks) (fun b o q=>sortedAll_old q) (u9 _) ⟨hz',byP its o,e,rv',he⟩,rfl,q _ _ _ hn pv dv pc as⟩
theorem Ni{K:ak}(hu:X.A.units+60<cLine)(hK:X.K=K:=by rfl):dX X (.builtin "sorted") (Tq K):=by subst hK;exact Jp hu
end
end L2
namespace L2
open PySem PySem.Spec PyProof.Rows PySem.SeqAt PySem.MeetsSeq PySem.MeetsSeq2 PySem.MeetsSeq3
open PySem.AutoSeq1 (wpAny_loadPart')
theorem Ir(A:Around)(s:Shared)(a:Int)(t:Tok)(c:Int)(u:Tok)(prog:Program)(w:World)(E:Value->Shared->Prop)(Q:Value->Shared->Prop)(h:Q (.bool (decide (c<=a))) s):wpAny (model prog w) A (richCompare .GtE (.int a t) (.int c u)) Q E s:=
 (ge_int h:wpAny (model prog w) A (compareOp .GtE (.int a t) (.int c u)) Q E s)
theorem W6(p q:Addr)(x1 x2 y1 y2:Int)(t1 t2 u1 u2:Tok)(n m:Nat)(d1 d2:Option Addr)(z1 z2:Array (Option Value)):Meets (Builtin.«tuple.__ge__» ⟨[.ref p,.ref q],[]⟩)
  (fun _ R s=>s.heap.get? p=some { cls:=.type "tuple",dict:=d1,data:=.seq #[.int x1 t1,.int x2 t2] n,slots:=z1 }/\s.heap.get? q=some { cls:=.type "tuple",dict:=d2,data:=.seq #[.int y1 u1,.int y2 u2] m,slots:=z2 }/\R (.ok (.ret (.bool (!fJ (x1,x2) (y1,y2))))) s):=
 .of_wp fun prog w A R s h=>by
  obtain⟨hp,g,d,tk,os⟩:=s;obtain⟨e1,e2,h⟩:=h;have f2:=Ld;have k1:=fun(Q:Bool->Shared->Prop)(E:Value->Shared->Prop)(h:Q (x1==y1) ⟨hp,g,d,tk,os⟩)=>(rH (t:=t1) (u:=u1) h:wpAny (model prog w) A.in1 (eqBool (.int x1 t1) (.int y1 u1)) Q E ⟨hp,g,d,tk,os⟩)
  have k2:=fun(Q:Bool->Shared->Prop)(E:Value->Shared->Prop)(h:Q (x2==y2) ⟨hp,g,d,tk,os⟩)=>(rH (t:=t2) (u:=u2) h:wpAny (model prog w) A.in1 (eqBool (.int x2 t2) (.int y2 u2)) Q E ⟨hp,g,d,tk,os⟩)
  have r1:=Ir A.in1 ⟨hp,g,d,tk,os⟩ x1 t1 y1 u1 prog w;have r2:=Ir A.in1 ⟨hp,g,d,tk,os⟩ x2 t2 y2 u2 prog w;have out:∀ b:Bool,(b=true↔¬aP (x1,x2) (y1,y2))->R (.ok (.ret (.bool b))) ⟨hp,g,d,tk,os⟩:=fun b hb=>by
   have:b=!fJ (x1,x2) (y1,y2):=by
    unfold fJ;by_cases hc:aP (x1,x2) (y1,y2)
    ·rw[cR hc];cases b
     ·rfl
     ·exact absurd hc (hb.mp rfl)
    ·rw[dB hc];exact hb.mpr hc
   rw[this];exact h
  wp_walk using wpAny_loadPart' e1,wpAny_loadPart' e2,k1,k2
  by_cases q1:x1=y1
  ·rw[show(x1==y1)=true from kJ.mpr q1]
   wp_walk using k2
   by_cases q2:x2=y2
   ·rw[show(x2==y2)=true from kJ.mpr q2]
    wp_walk
    refine⟨_,rfl,out _ ?_⟩;simp[Builtin.Tuple.tupleCompareSizes,aP,q1,q2]
   ·rw[show(x2==y2)=false from n8.mpr q2]
    wp_walk using r2
    refine⟨_,rfl,out _ ?_⟩;rw[gq];unfold aP;dsimp only;lia
  ·rw[show(x1==y1)=false from n8.mpr q1]
   wp_walk using r1
   refine⟨_,rfl,out _ ?_⟩;rw[gq];unfold aP;dsimp only;omega
section
variable{X:Cx}{K:ak}
def a1r(K:ak):R2:=fun x y H Q=>∃(a b:Cell),Den K H x (au a)/\Den K H y (au b)/\Q (.bl (!fJ a b)) H
theorem ZG(hu:X.A.units+60<cLine):OpR X (compareOp .GtE) (a1r X.K):=by
 intro pins s zzs H x y v u Q I rx ry h;obtain⟨a,b,da,db,q⟩:=h;obtain⟨p,o,t1,t2,n,rfl,e1,c1,f1⟩:=lK I da rx;obtain⟨p',o',u1,u2,m,rfl,e2,c2,f2⟩:=lK I db ry;obtain⟨oc,od,of,os⟩:=o;obtain⟨oc',od',of',os'⟩:=o';dsimp only at c1 f1 c2 f2;subst c1 f1 c2 f2;refine Lk (op:=.GtE) ⟨_,e1,rfl⟩ ⟨_,e2,rfl⟩ PySem.F.slot_tuple_ge PySem.F.entry_tuple_ge (PySem.F.args_tuple_ge_2 _ _) (W6 p p' a.1 a.2 b.1 b.2 t1 t2 u1 u2 n m od od' os os') ⟨e1,e2,?_⟩ (by lia);exact(show Value.bool (!fJ a b)≠Value.notImplemented/\EP X pins zzs Q (.bool (!fJ a b)) s from⟨(fun z=>nomatch z),⟨.bl (!fJ a b),H,I,rfl,q⟩⟩)
theorem a0Z(hu:X.A.units+60<cLine)(hK:X.K=K:=by rfl):OpR X (compareOp .GtE) (a1r K):=by subst hK;exact ZG hu
end
end L2
namespace L2
open PySem PySem.Spec PyProof.Rows
section
variable{X:Cx}
def a1t:List V->Hp->VK->Prop:=fun xs H Q=>∃ c:Nat,xs=[.str ⟨#[c]⟩]/\48<=c/\c<=57/\Q (.int ((c:Int)-48)) H
theorem Jz:∀ c∈List.range 58,48<=c->intText? ⟨#[c]⟩=some ((c:Int)-48):=by decide +kernel
theorem Oc:dX X (.type "int") a1t:=by
 intro pins s zzs H xs us Q I r h;obtain⟨c,rfl,h1,h2,q⟩:=h;obtain⟨u,rfl,t,rfl⟩:=vals1 r;exact PySem.W.KIN.call_text (Jz c (cH.mpr (by lia)) h1) (by show(1:Nat)<=640;decide) ⟨.int _,H,I.tok _,⟨_,rfl⟩,q⟩
end
def fL(zs:List Str)(c:Cell):Int:=(codeAt zs (c.1.toNat,c.2.toNat):Int)-48
def mW(h w:Int)(c:Cell)(cs:List Cell):Nat:=((fO h w c).filter fun y=>decide (y∈cs)).length
def GF(cs:List Cell):Bool:=(List.range (cs.length-1)).all fun j=>fJ (cs.getD j (0,0)) (cs.getD (j+1) (0,0))
def layB(zs:List Str)(w:Nat)(cs:List Cell):Bool:=GF cs&&cs.all (aH zs w)
def pW(zs:List Str)(w:Nat)(cs:List Cell)(c:Cell):Bool:=decide (fL zs c=(mW zs.length w c cs:Int))
def fu(zs:List Str)(w:Nat)(cs:List Cell):Bool:=(bI zs.length w).all fun c=>aH zs w c||pW zs w cs c
theorem Oi{a b c:Cell}(h1:aP a b)(h2:aP b c):aP a c:=by unfold aP at *;lia
theorem VD(cs:List Cell):GF cs=true↔cs.Pairwise aP:=by
 unfold GF;rw[jt];constructor
 ·intro h;have step:∀ d i,i+d+1<cs.length->aP (cs.getD i (0,0)) (cs.getD (i+d+1) (0,0)):=by
   intro d
   induction d with
   |zero=>intro i hi;exact cJ (h i (cH.mpr (by lia)))
   |succ d ih=>intro i hi;exact Oi (ih i (by lia)) (cJ (h (i+d+1) (cH.mpr (by lia))))
  rw[sS];intro i j hi hj hij;have:=step (j-i-1) i (by omega);have e:i+(j-i-1)+1=j:=by lia
  rw[e] at this;simpa [fU,hi,hj] using this
 ·intro h j hj;rw[cH] at hj;have:=(sS.mp h) j (j+1) (by omega) (by omega) (by lia);refine cR ?_;have h1:j<cs.length:=by lia
  have h2:j+1<cs.length:=by omega
  simpa [fU,h1,h2] using this
theorem lay_of{zs:List Str}{w:Nat}{cs:List Cell}(h1:cs.Pairwise aP)(h2:∀ c∈cs,aH zs w c=true):layB zs w cs=true:=by
 unfold layB;rw[(VD cs).mpr h1,rM,jt];exact h2
theorem nP:∀ h∈List.range 7,∀ w∈List.range 7,(bI h w).Pairwise aP:=by decide +kernel
theorem zB(c:Nat):inS "012345678" c=decide (48<=c/\c<=56):=by
 rw[JK (by decide +kernel)];have e:("012345678" : Str).cps.toList=[48,49,50,51,52,53,54,55,56]:=by decide +kernel
 rw[e];have:(c∈[48,49,50,51,52,53,54,55,56])↔(48<=c/\c<=56):=by simp;lia
 rw[vo];exact this
theorem zM{zs:List Str}{w:Nat}{sg:Str}{x:Cell}:x∈vN zs w sg↔inF zs.length w x/\inS sg (codeAt zs (x.1.toNat,x.2.toNat))=true:=by
 unfold vN;rw[Bc];constructor
 ·rintro⟨r,hr,hx⟩;obtain⟨c,hc,rfl⟩:=cD.mp hx;rw[bZ,cH] at hc;rw[cH] at hr;exact⟨⟨⟨by show(0:Int)<=(r:Int);lia,by show(r:Int)<zs.length;lia⟩,⟨by show(0:Int)<=(c:Int);lia,by show(c:Int)<w;lia⟩⟩,hc.2⟩
 ·rintro⟨⟨⟨a,b⟩,⟨c,d⟩⟩,hs⟩;refine⟨x.1.toNat,cH.mpr (by lia),cD.mpr ⟨x.2.toNat,bZ.mpr ⟨cH.mpr (by lia),hs⟩,?_⟩⟩;exact jD (by show((x.1.toNat:Nat):Int)=x.1;lia) (by show((x.2.toNat:Nat):Int)=x.2;lia)
theorem Vw.code{zs:List Str}{w:Nat}{x:Cell}(v:Vw zs w)(h:inF zs.length w x):Ai (codeAt zs (x.1.toNat,x.2.toNat))=true:=by
 obtain⟨⟨a,b⟩,⟨c,d⟩⟩:=h;have hr:x.1.toNat<zs.length:=by lia
 have e:zs.getD x.1.toNat Str.empty=zs[x.1.toNat]:=by simp[fU,hr]
 have hl:(zs[x.1.toNat]).cps.size=w:=v.len _ (pZ hr);refine v.sg _ (pZ hr) _ ?_;unfold codeAt;dsimp only;rw[e,mY,jk (by lia)];exact Lb _
theorem JQ{zs:List Str}{w:Nat}{x:Cell}(v:Vw zs w):x∈vN zs w "012345678" ↔ inF zs.length w x/\aH zs w x=false:=by
 rw[zM,zB];constructor
 ·rintro⟨h,hc⟩;have:=cJ hc;refine⟨h,?_⟩;unfold aH;rw[dB (show ¬codeAt zs (x.1.toNat,x.2.toNat)=35 by lia),rD]
 ·rintro⟨h,hc⟩;have sg:=cJ (v.code h);unfold aH at hc;rw[cR h,rM] at hc;have:=jl hc;exact⟨h,cR (by lia)⟩
theorem Vw.digit{zs:List Str}{w:Nat}{x:Cell}(v:Vw zs w)(h:inF zs.length w x)(hc:aH zs w x=false):48<=codeAt zs (x.1.toNat,x.2.toNat)/\codeAt zs (x.1.toNat,x.2.toNat)<=56:=by
 have:=(zM.mp ((JQ v).mpr ⟨h,hc⟩)).2;rw[zB] at this;exact cJ this
theorem Oh{zs:List Str}{w:Nat}{x:Cell}:x∈vN zs w "#" ↔ aH zs w x=true:=by
 rw[<- uo];unfold aU;rw[bZ,bM];constructor
 ·exact fun h=>h.2
 ·intro h;refine⟨?_,h⟩;unfold aH at h;rw[kj] at h;exact cJ h.1
theorem yL{cs:List Cell}(h:Asc cs)(nd:cs.Nodup):cs.Pairwise aP:=by
 unfold Asc at h;have:cs.Pairwise fun a b=>¬aP b a/\a≠b:=h.and nd
 exact this.imp fun {a b} hab=>by
  obtain⟨h1,h2⟩:=hab;have h3:¬(a.1=b.1/\a.2=b.2):=fun z=>h2 (jD z.1 z.2)
  unfold aP at *;lia
theorem gk{cs:List Cell}(h:cs.Pairwise aP):cs.Nodup:=h.imp fun {a b} hab e=>by
 subst e;unfold aP at hab;lia
section
variable{κ:Type} [DecidableEq κ]
def pK(kvs:List (κ×V))(k:κ):Option V:=(kvs.find? fun kv=>decide (kv.1=k)).map (·.2)
def putK(kvs:List (κ×V))(k:κ)(v:V):List (κ×V):=
 if(kvs.any fun kv=>decide (kv.1=k))=true then kvs.map (fun kv=>if kv.1=k then(kv.1,v) else kv) else kvs++[(k,v)]
theorem rB{p:κ×V}{r:List (κ×V)}{k:κ}(e:p.1=k):pK (p::r) k=some p.2:=by simp[pK,tY,e]
theorem rA{p:κ×V}{r:List (κ×V)}{k:κ}(e:¬p.1=k):pK (p::r) k=pK r k:=by simp[pK,tY,e]
theorem vd(k:κ):∀ kvs:List (κ×V),(kvs.any fun kv=>decide (kv.1=k))=(pK kvs k).isSome
 |[]=>rfl
 |p::r=>by
  rw[wQ];by_cases e:p.1=k
  ·simp only[rB e,cR e,Bool.true_or,Option.isSome_some]
  ·rw[rA e,dB e,Gp];exact vd k r
theorem xq(kvs:List (κ×V))(k:κ)(v:V):(putK kvs k v).length<=kvs.length+1:=by
 unfold putK;split
 ·rw[aZ];lia
 ·rw[cC,fX,xT];lia
theorem zQ{kvs:List (κ×V)}{k:κ}(v:V)(h:pK kvs k=none):putK kvs k v=kvs++[(k,v)]:=by
 unfold putK;rw[vd,h];exact aG (by decide)
theorem qb.nT{o:Option V}{u:Option Value}(r:qb o u):o.isSome=u.isSome:=by
 cases o with
 |none=>cases u with
  |none=>rfl
  |some _=>exact(show False from r).elim
 |some _=>cases u with
  |none=>exact(show False from r).elim
  |some _=>rfl
theorem qb.getD{o:Option V}{u:Option Value}{d:V}{d':Value}(r:qb o u)(rd:RelV d d'):RelV (o.getD d) (u.getD d'):=by
 cases o with
 |none=>cases u with
  |none=>exact rd
  |some _=>exact(show False from r).elim
 |some _=>cases u with
  |none=>exact(show False from r).elim
  |some _=>exact r
theorem KV.val{kvs:List (κ×V)}{vs:List (κ×Value)}(r:KV kvs vs)(k:κ):qb (pK kvs k) (valueAt vs k):=by
 unfold KV at r
 induction r with
 |nil=>exact True.intro
 |@cons p q ps qs h t ih=>
  obtain⟨h1,h2⟩:=h;by_cases e:p.1=k
  ·have e':q.1=k:=h1.symm.trans e;have b:valueAt (q::qs) k=some q.2:=by simp[valueAt,tY,e']
   rw[rB e,b];exact h2
  ·have e':¬q.1=k:=fun z=>e (h1.trans z)
   have b:valueAt (q::qs) k=valueAt qs k:=by simp[valueAt,tY,e']
   rw[rA e,b];exact ih
theorem KV.any{kvs:List (κ×V)}{vs:List (κ×Value)}(r:KV kvs vs)(k:κ):(kvs.any fun kv=>decide (kv.1=k))=vs.any fun kv=>decide (kv.1=k):=by
 unfold KV at r
 induction r with
 |nil=>rfl
 |cons h t ih=>rw[wQ,wQ,ih,h.1]
theorem KV.repl{kvs:List (κ×V)}{vs:List (κ×Value)}(r:KV kvs vs)(k:κ){y:V}{u:Value}(ry:RelV y u) :
  KV (kvs.map fun kv=>if kv.1=k then(kv.1,y) else kv) (vs.map fun kv=>if kv.1=k then(kv.1,u) else kv):=by
 unfold KV at r ⊢
 induction r with
 |nil=>exact .nil
 |@cons p q ps qs h t ih=>
  rw[dM,dM];refine .cons ?_ ih;obtain⟨h1,h2⟩:=h;by_cases e:p.1=k
  ·rw[aJ e,aJ (h1.symm.trans e)];exact⟨h1,ry⟩
  ·rw[aG e,aG (fun z=>e (h1.trans z))];exact⟨h1,h2⟩
theorem KV.put{kvs:List (κ×V)}{vs:List (κ×Value)}(r:KV kvs vs)(k:κ){y:V}{u:Value}(ry:RelV y u):KV (putK kvs k y) (stored vs k u):=by
 unfold putK stored;rw[r.any k];by_cases e:(vs.any fun kv=>decide (kv.1=k))=true
 ·rw[aJ e,aJ e];exact r.repl k ry
 ·rw[aG e,aG e];exact Paired.snoc r ⟨rfl,ry⟩
theorem KV.length{kvs:List (κ×V)}{vs:List (κ×Value)}(r:KV kvs vs):kvs.length=vs.length:=Gm r
end
theorem Cz{P:Program}{w:World}{k:Key}{u:Value}(r:RelV (kV k) u):(eX P w).is k u=true:=by
 cases k with
 |inl i=>obtain⟨t,e⟩:=(show ∃ t,u=Value.int i t from r);subst e;exact HX P w i t
 |inr x=>obtain⟨t,e⟩:=(show ∃ t,u=Value.str x t from r);subst e;exact HY P w x t
theorem Cy{P:Program}{w:World}:∀ {ks:List Key} {us:List Value},Vals (ks.map kV) us->ItemsAre (eX P w) ks us
 |[],_,r=>by rw[Bl] at r;cases r;exact .nil
 |k::ks,_,r=>by
  rw[dM] at r;cases r with
  |cons h t=>exact .cons (Cz h) (Cy t)
abbrev KT(H:Hp):List (List Key×V)->List (List Key×Addr×Value)->Prop:=Paired fun p q=>p.1=q.1/\H q.2.1=some (.tup (p.1.map kV))/\RelV p.2 q.2.2
theorem KT.val{H:Hp}{kvs:List (List Key×V)}{xs:List (List Key×Addr×Value)}(r:KT H kvs xs)(k:List Key):qb (pK kvs k) ((atKey xs k).map (·.2)):=by
 induction r with
 |nil=>exact True.intro
 |@cons p q ps qs h t ih=>
  obtain⟨h1,_,h2⟩:=h;by_cases e:p.1=k
  ·have e':q.1=k:=h1.symm.trans e;have b:atKey (q::qs) k=some q.2:=by simp[atKey,tY,e']
   rw[rB e,b];exact h2
  ·have e':¬q.1=k:=fun z=>e (h1.trans z)
   have b:atKey (q::qs) k=atKey qs k:=by simp[atKey,tY,e']
   rw[rA e,b];exact ih
theorem KT.repl{H:Hp}{kvs:List (List Key×V)}{xs:List (List Key×Addr×Value)}(r:KT H kvs xs)(k:List Key){y:V}{u:Value}(ry:RelV y u) :
  KT H (kvs.map fun kv=>if kv.1=k then(kv.1,y) else kv) (xs.map (putAt k u)):=by
 induction r with
 |nil=>exact .nil
 |@cons p q ps qs h t ih=>
  rw[dM,dM];refine .cons ?_ ih;obtain⟨h1,h2,h3⟩:=h;unfold putAt;by_cases e:p.1=k
  ·rw[aJ e,aJ (h1.symm.trans e)];exact⟨h1,h2,ry⟩
  ·rw[aG e,aG (fun z=>e (h1.trans z))];exact⟨h1,h2,h3⟩
theorem KT.put{H:Hp}{kvs:List (List Key×V)}{xs:List (List Key×Addr×Value)}(r:KT H kvs xs)(k:List Key){b:Addr}{y:V}{u:Value}(hb:H b=some (.tup (k.map kV)))(ry:RelV y u) :
  KT H (putK kvs k y) (storedH xs k b u):=by
 have e:(kvs.any fun kv=>decide (kv.1=k))=(atKey xs k).isSome:=by
  rw[vd,(r.val k).nT,Mf]
 unfold putK storedH;rw[e];by_cases q:(atKey xs k).isSome=true
 ·rw[aJ q,aJ q];exact r.repl k ry
 ·rw[aG q,aG q];exact Paired.snoc r ⟨rfl,hb,ry⟩
theorem KT.keeps{H H':Hp}{kvs:List (List Key×V)}{xs:List (List Key×Addr×Value)}(r:KT H kvs xs)(ht:∀ b ys,H b=some (.tup ys)->H' b=some (.tup ys)):KT H' kvs xs:=
 Paired.Zj r fun _ _ z=>⟨z.1,ht _ _ z.2.1,z.2.2⟩
section
variable{P:Program}{w:World}{H:Hp}{h:Heap}{a:Addr}
theorem Yi{u:HO}(ok:HOk P w H h)(e:Rd H a u):gF P w H h a u:=e.ok ok
theorem z8{kvs:List (Key×V)}(ok:HOk P w H h)(e:Rd H a (.dK kvs)):kvs.length<=sizeLine/\(a==sysModules)=false/\∃ vs,KV kvs vs/\h.DictOf (eX P w) a vs:=
 show gF P w H h a (.dK kvs) from Yi ok e
theorem a0K{kvs:List (Key×V)}(ok:HOk P w H h)(e:H a=some (.dK kvs)):kvs.length<=sizeLine/\(a==sysModules)=false/\∃ vs,KV kvs vs/\h.DictOf (eX P w) a vs:=z8 ok (.inl e)
theorem tE{ks:List Key}(ok:HOk P w H h)(e:H a=some (.tup (ks.map kV))):(tupleKind (eX P w)).is h ks a:=by
 obtain⟨_,its,r,o,h1,h2,n,h3⟩:=(show gF P w H h a (.tup (ks.map kV)) from ok a _ e)
 exact⟨o,its.toArray,n,h1,h2,h3,by simpa using Cy r⟩
theorem z9{kvs:List (List Key×V)}(ok:HOk P w H h)(e:Rd H a (.dT kvs)):kvs.length<=sizeLine/\(a==sysModules)=false /\
  ∃ xs,KT H kvs xs/\h.DictOfH (tupleKind (eX P w)) a xs:=by
 obtain⟨z,y,xs,r,o,es,ep,h1,h2,h3,h4,h5⟩:=(show gF P w H h a (.dT kvs) from Yi ok e)
 refine⟨z,y,xs,r,o,es,ep,h1,h2,h3,h4,fun x hx=>?_,h5⟩;have all:∀ {l:List (List Key×V)} {m:List (List Key×Addr×Value)},KT H l m->∀ x∈m,(tupleKind (eX P w)).is h x.1 x.2.1:=by
  intro l m q
  induction q with
  |nil=>intro x hx;exact nomatch hx
  |@cons p q ps qs hq t ih=>
   intro x hx;rcases cW.mp hx with e|hx
   ·subst e;exact tE ok (by rw[<- hq.1];exact hq.2.1)
   ·exact ih x hx
 exact all r x hx
theorem MP{kvs:List (List Key×V)}(ok:HOk P w H h)(e:H a=some (.dT kvs)):kvs.length<=sizeLine/\(a==sysModules)=false /\
  ∃ xs,KT H kvs xs/\h.DictOfH (tupleKind (eX P w)) a xs:=z9 ok (.inl e)
end
def oH(H:Hp)(a:Addr)(y:V)(r:Option V):Prop:=
 (∃ kvs k,Rd H a (.dK kvs)/\y=kV k/\r=pK kvs k)\/∃ kvs k b,Rd H a (.dT kvs)/\y=.ref b/\H b=some (.tup (k.map kV))/\r=pK kvs k
def Jf(H:Hp)(a:Addr)(y v:V)(H':Hp):Prop:=
 (∃ kvs k,H a=some (.dK kvs)/\y=kV k/\kvs.length<sizeLine/\H'=upd H a (.dK (putK kvs k v))) \/
 ∃ kvs k b,H a=some (.dT kvs)/\y=.ref b/\H b=some (.tup (k.map kV))/\kvs.length<sizeLine/\H'=upd H a (.dT (putK kvs k v))
theorem oH.t{H:Hp}{a b:Addr}{kvs:List (List Key×V)}{k:List Key}(e:H a=some (.dT kvs))(eb:H b=some (.tup (k.map kV))):oH H a (.ref b) (pK kvs k):=.inr ⟨kvs,k,b,.inl e,rfl,eb,rfl⟩
theorem Jf.t{H:Hp}{a b:Addr}{kvs:List (List Key×V)}{k:List Key}{v:V}(e:H a=some (.dT kvs))(eb:H b=some (.tup (k.map kV)))(hl:kvs.length<sizeLine) :
  Jf H a (.ref b) v (upd H a (.dT (putK kvs k v))):=.inr ⟨kvs,k,b,e,rfl,eb,hl,rfl⟩
section
variable{X:Cx}{pins:List (Addr×Obj)}{zzs:St}{H:Hp}{s:Shared}{a:Addr}{y v:V}{u r:Value}{o:Option V}{A:Around}{E:Value->Shared->Prop}
theorem Inv.big(I:Inv X pins zzs H s):sysModules<s.heap.objs.size:=by
 have h:mainGlobals<s.heap.objs.size:=(I.mod.glob.keeps I.bk).lt;exact Nat.lt_trans (by decide) h
theorem Ot{Q:Value->Shared->Prop}(hu:A.units+1<cLine)(I:Inv X pins zzs H s)(g:oH H a y (some v))(ry:RelV y u)(h:∀ w' s',Inv X pins zzs H s'->RelV v w'->Q w' s') :
  wpAny (model X.prog X.w) A (getItem (.ref a) u) Q E s:=by
 rcases g with⟨kvs,k,e,ey,l⟩|⟨kvs,k,b,e,ey,eb,l⟩
 ·subst ey;obtain⟨z,hd,vs,rel,dd⟩:=z8 I.hok e;obtain⟨w',hw,rw'⟩:=qb.some_of (v:=v) (o:=valueAt vs k) (by rw[l];exact rel.val k);exact wpAny_getItem_of (Cz ry) dd.mapOf hw (h w' _ (I.tok _) rw')
 ·subst ey;cases (show u=Value.ref b from ry);obtain⟨z,hd,xs,rel,dd⟩:=z9 I.hok e;obtain⟨w',hw,rw'⟩:=qb.some_of (v:=v) (o:=(atKey xs k).map (·.2)) (by rw[l];exact rel.val k);obtain⟨p,hp,hp2⟩:=j8.mp hw;refine wpAny_getItem_heap (Ba hu) (tE I.hok eb) dd hp ?_;rw[hp2];exact h w' _ (I.tok _) rw'
theorem a2d{Q:Value->Shared->Prop}(hu:A.units+1<cLine)(I:Inv X pins zzs H s)(g:oH H a y o)(ry:RelV y u)(h:∀ s',Inv X pins zzs H s'->Q (.bool o.isSome) s') :
  wpAny (model X.prog X.w) A (compareOp .In u (.ref a)) Q E s:=by
 rcases g with⟨kvs,k,e,ey,l⟩|⟨kvs,k,b,e,ey,eb,l⟩
 ·subst ey;obtain⟨z,hd,vs,rel,dd⟩:=z8 I.hok e;refine wpAny_in_of (Cz ry) hd dd.mapOf ?_;rw[<- (rel.val k).nT,<- l];exact h _ (I.tok _)
 ·subst ey;cases (show u=Value.ref b from ry);obtain⟨z,hd,xs,rel,dd⟩:=z9 I.hok e;refine wpAny_in_heap (Ba hu) (tE I.hok eb) hd dd ?_;have q:=(rel.val k).nT;rw[Mf] at q;rw[<- q,<- l];exact h _ (I.tok _)
theorem VR{Q:Value->Shared->Prop}(hu:A.units+1<cLine)(I:Inv X pins zzs H s)(g:oH H a y o)(ry:RelV y u)(h:∀ s',Inv X pins zzs H s'->Q (.bool (!o.isSome)) s') :
  wpAny (model X.prog X.w) A (compareOp .NotIn u (.ref a)) Q E s:=by
 rcases g with⟨kvs,k,e,ey,l⟩|⟨kvs,k,b,e,ey,eb,l⟩
 ·subst ey;obtain⟨z,hd,vs,rel,dd⟩:=z8 I.hok e;refine wpAny_notIn_of (Cz ry) hd dd.mapOf ?_;rw[<- (rel.val k).nT,<- l];exact h _ (I.tok _)
 ·subst ey;cases (show u=Value.ref b from ry);obtain⟨z,hd,xs,rel,dd⟩:=z9 I.hok e;refine wpAny_notIn_heap (Ba hu) (tE I.hok eb) hd dd ?_;have q:=(rel.val k).nT;rw[Mf] at q;rw[<- q,<- l];exact h _ (I.tok _)
theorem Ea{h':Heap}{t':Nat}{ob:HO}(I:Inv X pins zzs H s)(mu:Mut (H a))(hs:Heap.SameBut a s.heap h')(he:∃ q,h'.get? a=some q)(new:gF X.prog X.w (upd H a ob) h' a ob) :
  Inv X pins zzs (upd H a ob) { s with heap:=h',toks:=t' }:=
 I.write (x:=a) (e:=a) mu (.inl rfl) (fun b q hb z=>(hs.2 b hb).trans z) he new
theorem YZ{P:Program}{w:World}{H':Hp}{h':Heap}{kvs:List (Key×V)}{vs:List (Key×Value)}(z:kvs.length<=sizeLine)(hd:(a==sysModules)=false)(rel:KV kvs vs)(dd:h'.DictOf (eX P w) a vs) :
  gF P w H' h' a (.dK kvs):=⟨z,hd,vs,rel,dd⟩
theorem Oz{H':Hp}{Q:Unit->Shared->Prop}(hu:A.units+1<cLine)(I:Inv X pins zzs H s)(g:Jf H a y v H')(ry:RelV y u)(rv:RelV v r)(h:∀ s',Inv X pins zzs H' s'->Q () s') :
  wpAny (model X.prog X.w) A (setItem (.ref a) u r) Q E s:=by
 rcases g with⟨kvs,k,e,ey,l,eH⟩|⟨kvs,k,b,e,ey,eb,l,eH⟩
 ·subst ey eH;obtain⟨z,hd,vs,rel,dd⟩:=a0K I.hok e;have hz:vs.length<=sizeLine:=by rw[<- rel.length];exact z
  have hl:(putK kvs k v).length<=sizeLine:=by have:=xq kvs k v;lia
  refine wpAny_setItem_pairs (hsz:=hz) (Cz ry) dd fun h' dd' hs=>h _ ?_
  have he:∃ q,h'.get? a=some q:=let ⟨q,_,_,hq,_⟩:=dd';⟨q,hq⟩;exact Ea I (by rw[e];exact True.intro) hs he (YZ hl hd (rel.put k rv) dd')
 ·subst ey eH;cases (show u=Value.ref b from ry);obtain⟨z,hd,xs,rel,dd⟩:=MP I.hok e;have hz:xs.length<=sizeLine:=by rw[<- Gm rel];exact z
  have hl:(putK kvs k v).length<=sizeLine:=by have:=xq kvs k v;lia
  refine wpAny_setItem_heap (hsz:=hz) (Ba hu) (tE I.hok eb) dd fun h' dd' hs=>h _ ?_
  obtain⟨q,es,ep,hq,h2,h3,h4,_,h5⟩:=dd';refine Ea I (by rw[e];exact True.intro) hs ⟨q,hq⟩ ⟨hl,hd,_,(rel.put k eb rv).keeps fun c ys ec=>?_,q,es,ep,hq,h2,h3,h4,h5⟩;rw[aN (fB ec e (fun z=>nomatch z))];exact ec
end
theorem Hq{X:Cx}{pins:List (Addr×Obj)}{zzs:St}{H:Hp}{s:Shared}{a:Addr}{y:V}{o:Option V}(I:Inv X pins zzs H s)(g:oH H a y o):s.TypeIs (.ref a) "dict":=by
 rcases g with⟨kvs,k,e,_,_⟩|⟨kvs,k,b,e,_,_,_⟩
 ·obtain⟨_,_,vs,_,dd⟩:=z8 I.hok e;exact dd.typeIs
 ·obtain⟨_,_,xs,_,dd⟩:=z9 I.hok e;exact dd.typeIs
theorem Hr{P:Program}{w:World}{H:Hp}(h:Heap)(hb:sysModules<h.objs.size):gF P w H (h.push { cls:=.type "dict",data:=.dict #[] }) h.objs.size (.dT []):=
 ⟨mG _,n8.mpr (mz (fZ hb)),[],.nil,_,#[],0,jo _ rfl,⟨rfl,rfl,rfl⟩,rfl,rfl,Gk⟩
def Ud:TE:=fun _ H Q=>∀ p,H p=none->Q (.ref p) (upd H p (.dT []))
section
variable{X:Cx}{pos:Pos}
theorem T4:PE X (.Dict [] [] pos) Ud:=fun pins s zzs H Q I h=>
 wpAny_Dict_empty ⟨.ref s.heap.objs.size,_,I.laid (a:=s.heap.objs.size) (o:=.dT []) (t':=s.toks) (fun _ _ q=>dW _ q) (bB _) (Hr s.heap I.big),rfl,h _ (I.hok.fresh (bB _))⟩
end
def Uh:List (TE×TE)->St->Hp->(List (V×V)->Hp->Prop)->Prop
 |[],_,H,Q=>Q [] H
 |(tk,tv)::r,zzs,H,Q=>tk zzs H fun x H1=>tv zzs H1 fun y H2=>Uh r zzs H2 fun ps H3=>Q ((x,y)::ps) H3
abbrev VV:List (V×V)->List (Value×Value)->Prop:=Paired fun p q=>RelV p.1 q.1/\RelV p.2 q.2
def PPs(X:Cx)(pos:Pos)(keys:List (Option Expr))(values:List Expr)(trs:List (TE×TE)):Prop:=
 ∀(pins:List (Addr×Obj))(s:Shared)(zzs:St)(H:Hp)(Q:List (V×V)->Hp->Prop),Inv X pins zzs H s->Uh trs zzs H Q ->
  wpAny (model X.prog X.w) X.A (evalPairs (pairTrees keys values X.env pos)) (fun vs s'=>∃ ps H',Inv X pins zzs H' s'/\VV ps vs/\Q ps H') X.xe s
theorem Xc{X:Cx}{pos:Pos}:PPs X pos [] [] []:=fun pins s zzs H Q I h=>pairTrees_nil_walk ⟨[],H,I,.nil,h⟩
theorem T8{X:Cx}{pos:Pos}{k v:Expr}{ks:List (Option Expr)}{vs:List Expr}{tk tv:TE}{trs:List (TE×TE)}(hk:PE X k tk)(hv:PE X v tv)(hr:PPs X pos ks vs trs) :
  PPs X pos (some k::ks) (v::vs) ((tk,tv)::trs):=fun pins s zzs H Q I h=>
 pairTrees_cons_walk (thn (hk pins s zzs H _ I h) fun u s1 ⟨x,H1,I1,rx,q1⟩=>thn (hv pins s1 zzs H1 _ I1 q1) fun w2 s2 ⟨y,H2,I2,ry,q2⟩=>
  thn (hr pins s2 zzs H2 _ I2 q2) fun ws s3 ⟨ps,H3,I3,rel,q3⟩=>⟨(x,y)::ps,H3,I3,.cons ⟨rx,ry⟩ rel,q3⟩)
structure M2(X:Cx)(o:Expr)(m:Str)(apos:Pos)(e f:Expr)(cpos:Pos):Prop where
 base:attributeBase o m X.env (eval o X.env)=eval o X.env
 few:((backTo cpos (starEach [e,f] X.env)).all (fun x=>!x.1)&&(backToKw cpos (keywordEach [] X.env)).all (fun x=>x.1.isSome)
  && decide (([e,f]:List Expr).length+([]:List Keyword).length+(if([]:List Keyword).isEmpty then 0 else 1)<30))=true
 line:(apos.endLine==cpos.line)=true
 trees:backTo cpos (starEach [e,f] X.env)=[(false,eval e X.env),(false,eval f X.env)]
def IsD(H:Hp)(a:Addr):Prop:=(∃ kvs,Rd H a (.dK kvs))\/∃ kvs,Rd H a (.dT kvs)
theorem Z8{X:Cx}{pins:List (Addr×Obj)}{zzs:St}{H:Hp}{s:Shared}{a:Addr}(I:Inv X pins zzs H s)(d:IsD H a) :
  s.TypeIs (.ref a) "dict" /\ (∀ b,Value.ref a=.ref b->∃ ob,s.heap.get? b=some ob/\ob.dict=none)/\(a==sysModules)=false:=by
 rcases d with⟨kvs,e⟩|⟨kvs,e⟩
 ·obtain⟨_,hd,vs,_,dd⟩:=z8 I.hok e;refine⟨dd.typeIs,fun b q=>?_,hd⟩;cases q;obtain⟨ob,_,_,h1,h2,_⟩:=dd;exact⟨ob,h1,h2.2.1⟩
 ·obtain⟨_,hd,xs,_,dd⟩:=z9 I.hok e;refine⟨dd.typeIs,fun b q=>?_,hd⟩;cases q;obtain⟨ob,_,_,h1,h2,_⟩:=dd;exact⟨ob,h1,h2.2.1⟩
section
variable{X:Cx}{pins:List (Addr×Obj)}{zzs:St}{H:Hp}{s:Shared}{a:Addr}{y d:V}{u r:Value}{o:Option V}{A:Around}{E:Value->Shared->Prop}
theorem YS{Q:Value->Shared->Prop}(hu:A.units+1<cLine)(I:Inv X pins zzs H s)(g:oH H a y o)(ry:RelV y u)(rd:RelV d r)(h:∀ w' s',Inv X pins zzs H s'->RelV (o.getD d) w'->Q w' s') :
  wpAny (model X.prog X.w) A (call (.builtin "dict.get") [.ref a,u,r]) Q E s:=by
 rcases g with⟨kvs,k,e,ey,l⟩|⟨kvs,k,b,e,ey,eb,l⟩
 ·subst ey;obtain⟨z,hd,vs,rel,dd⟩:=z8 I.hok e;refine call_meetsIn Lw dd.typeIs V4 (V0 _ _ _) (meets_dict_get_default (eX X.prog X.w) a (Cz ry) hd r) ⟨_,dd.mapOf,h _ _ (I.tok _) ?_⟩;rw[l];exact(rel.val k).getD rd
 ·subst ey;cases (show u=Value.ref b from ry);obtain⟨z,hd,xs,rel,dd⟩:=z9 I.hok e;refine call_meetsIn Lw dd.typeIs V4 (V0 _ _ _) (meetsH_dict_get_default (tupleKind (eX X.prog X.w)) a b hd r) ⟨Ba hu,k,xs,tE I.hok eb,dd,h _ _ (I.tok _) ?_⟩;rw[l];exact(rel.val k).getD rd
end
def Uc(td ty tx:TE):TE:=fun zzs H Q=>td zzs H fun x H1=>∃ a,x=.ref a/\IsD H1 a/\ty zzs H1 fun y H2=>tx zzs H2 fun z H3=>∃ o,oH H3 a y o/\Q (o.getD z) H3
section
variable{X:Cx}{o e f:Expr}{apos cpos:Pos}{td ty tx:TE}
theorem SX(hu:X.A.units+1<cLine)(ho:PE X o td)(he:PE X e ty)(hf:PE X f tx) (m:M2 X o "get" apos e f cpos):PE X (.Call (.Attribute o "get" apos) [e,f] [] cpos) (Uc td ty tx):=by
 intro pins s zzs H Q I h;refine wpAny_Call_method m.base m.few m.line PySem.F.plainAttrs_dict Lw PySem.F.type_dict_get (thn (ho pins s zzs H _ I h) fun u s1 zzy=>?_);obtain⟨x,H1,I1,rx,a,ex,d,q1⟩:=zzy;subst ex;obtain rfl:u=Value.ref a:=rx;obtain⟨t1,t2,_⟩:=Z8 I1 d;refine⟨t1,t2,?_⟩;rw[m.trees];refine Lj rfl (Lx (M5 (thn (he pins s1 zzs H1 _ I1 q1) fun iv s2 ⟨y,H2,I2,ry,q2⟩=>
  M5 (thn (hf pins s2 zzs H2 _ I2 q2) fun fv s3 ⟨z,H3,I3,rz,ov,g,q3⟩=>Calls.spliced_nil ?_))))
 exact YS hu I3 g ry rz fun w' s4 I4 rw'=>⟨_,H3,I4,rw',q3⟩
end
section
variable{X:Cx}
def a2C:R2:=fun x y H Q=>∃ a v,x=.ref a/\oH H a y (some v)/\Q v H
theorem uF(hu:X.A.units+60<cLine):IxR X a2C:=by
 intro value slice pins s zzs H x y v u Q I rx ry h hs;obtain⟨a,z,rfl,g,q⟩:=h;cases rx;exact tail_any (ops:=[.ref a,u]) (Hq I g) PySem.F.slot_dict_getitem.lookup (Ot (by lia) I g ry fun w' s3 I3 rw'=>⟨z,H,I3,rw',q⟩) hs
def NK(neg:Bool):R2:=fun y x H Q=>∃ a o,x=.ref a/\oH H a y o/\Q (.bl (if neg then !o.isSome else o.isSome)) H
theorem Qf(hu:X.A.units+60<cLine):OpR X (compareOp .In) (NK false):=by
 intro pins s zzs H y x u v Q I ry rx h;obtain⟨a,o,rfl,g,q⟩:=h;cases rx;exact a2d (by lia) I g ry fun s3 I3=>⟨.bl o.isSome,H,I3,rfl,q⟩
theorem pq(hu:X.A.units+60<cLine):OpR X (compareOp .NotIn) (NK true):=by
 intro pins s zzs H y x u v Q I ry rx h;obtain⟨a,o,rfl,g,q⟩:=h;cases rx;exact VR (by lia) I g ry fun s3 I3=>⟨.bl (!o.isSome),H,I3,rfl,q⟩
def a1y:V->V->V->Hp->(Hp->Prop)->Prop:=fun o i v H Q=>∃ a H',o=.ref a/\Jf H a i v H'/\Q H'
theorem set_dict(hu:X.A.units+60<cLine):Yu X a1y:=by
 intro pins s zzs H o i v ov iv u Q I ro ri rv h;obtain⟨a,H',rfl,g,q⟩:=h;cases ro;exact Oz (by lia) I g ri rv fun s4 I4=>⟨H',I4,q⟩
end
section
variable{X:Cx}{pos:Pos}{k v:Expr}{tk tv:TE}
def Ue(tk tv:TE):TE:=fun zzs H Q=>∀ p,H p=none->tk zzs (upd H p (.dT [])) fun x H1=>tv zzs H1 fun y H2=>∃ ks b,H2 p=some (.dT [])/\x=.ref b/\H2 b=some (.tup (ks.map kV))/\Q (.ref p) (upd H2 p (.dT [(ks,y)]))
theorem T3(hu:X.A.units+60<cLine)(hk:PE X k tk)(hv:PE X v tv):PE X (.Dict [some k] [v] pos) (Ue tk tv):=by
 intro pins s zzs H Q I q;have hn:=I.hok.fresh (bB s.heap.objs.size);have I1:=I.laid (a:=s.heap.objs.size) (o:=.dT []) (h':=s.heap.push { cls:=.type "dict",data:=.dict #[] }) (t':=s.toks) (fun _ _ z=>dW _ z) (bB _) (Hr s.heap I.big);refine wpAny_Dict_any rfl rfl (by intro z;cases z) (by show 1<=15;decide) ?_;have pp:PPs X pos [some k] [v] [(tk,tv)]:=T8 hk hv Xc;refine thn (pp pins _ zzs _ (fun ps H2=>match ps with
  |[(x,y)]=>∃ ks b,H2 s.heap.objs.size=some (.dT [])/\x=.ref b/\H2 b=some (.tup (ks.map kV))/\Q (.ref s.heap.objs.size) (upd H2 s.heap.objs.size (.dT [(ks,y)]))
  |_=>False) I1 (q _ hn)) fun ws s2 h=>?_
 obtain⟨ps,H2,I2,rel,h⟩:=h;cases rel with
 |nil=>exact h.elim
 |@cons p1 w1 ps' ws' r1 a2G=>
  cases a2G with
  |cons _ _=>exact h.elim
  |nil=>
   obtain⟨x,y⟩:=p1;obtain⟨u,r⟩:=w1;obtain⟨ks,b,e,ex,eb,q2⟩:=h;subst ex;obtain⟨ru,ry⟩:=r1;cases (show u=Value.ref b from ru);obtain⟨z,hd,xs,rel,dd⟩:=MP I2.hok e;cases rel;show wpAny (model X.prog X.w) X.A (storeAll s.heap.objs.size [(.ref b,r)]) _ _ s2;unfold storeAll;rw[List.forIn_cons];refine bN (bN (wpAny_dictSet_heap (knd:=tupleKind (eX X.prog X.w)) (show X.A.units<cLine by lia) (tE I2.hok eb) dd fun h' dd' hs=>cQ ?_));dsimp only;rw[List.forIn_nil];refine cQ ?_;obtain⟨o,es,ep,ho,h2,h3,h4,_,h5⟩:=dd';refine⟨.ref s.heap.objs.size,_,Ea (ob:=.dT [(ks,y)]) I2 (by rw[e];exact True.intro) hs ⟨o,ho⟩ ⟨by show 1<=sizeLine;rw[rN];decide,hd,_,(KT.put (kvs:=[]) (xs:=[]) .nil ks eb ry).keeps fun c ys ec=>?_,o,es,ep,ho,h2,h3,h4,h5⟩,rfl,q2⟩;rw[aN (fB ec e (fun z=>nomatch z))];exact ec
theorem Xo(hu:X.A.units+60<cLine)(hk:RE X k tk)(hv:RE X v tv):RE X (.Dict [some k] [v] pos) (Ue tk tv):=⟨T3 hu hk.ok hv.ok⟩
theorem yw:RE X (.Dict [] [] pos) Ud:=⟨T4⟩
end
end L2
namespace L2
open PySem PySem.Spec PyProof.Rows PySem.SeqAt PySem.MeetsSeq PySem.MeetsSeq2 PySem.MeetsSeq3
open PySem.AutoSeq1 (wpAny_loadPart')
theorem RX(I d:Addr)(i n ep:Nat)(es:Array DictEntry)(dd d1:Option Addr)(z1 z2:Array (Option Value))(c:Value)(hi:i<es.size)(hn:n=es.size):Meets (Builtin.«dict_keyiterator.__next__» ⟨[.ref I],[]⟩)
  (fun _ R s=>s.heap.get? I=some { cls:=.type "dict_keyiterator",dict:=dd,data:=.fields #[.ref d,.int i 0,.int n 0,.int ep 0],slots:=z1 }/\s.heap.get? d=some { cls:=.type "dict",dict:=none,data:=.dict es ep,slots:=#[] } /\
   ∀ h' tk',h'.get? I=some { cls:=.type "dict_keyiterator",dict:=dd,data:=.fields #[.ref d,.int ((i+1:Nat):Int) 0,.int n 0,.int ep 0],slots:=z1 }->(∀ b o,b≠I->s.heap.get? b=some o->h'.get? b=some o)->R (.ok (.ret es[i].key)) { s with heap:=h',toks:=tk' }):=
 .of_wp fun prog w A R s h=>by
  obtain⟨hp,g,dr,tk,os⟩:=s;obtain⟨e1,e2,h⟩:=h
  wp_walk using wpAny_loadPart' e1,wpAny_loadPart' e2
  have e:(if(i:Int)<0 then none else es[((i:Nat):Int).toNat]?)=some es[i]:=by
   rw[aG (by lia),jm,jk hi]
  rw[e];dsimp only
  wp_walk using wpAny_loadPart' e1,wpAny_loadPart' e2
  refine⟨_,rfl,h _ tk ?_ fun b o hb eb=>?_⟩
  ·have:=Heap.get?_update_self (Obj.mapFields fun x=>x.setIfInBounds 1 (rawInt ((i:Int)+1))) e1 rfl;exact this
  ·rw[Fz _ _ _ _ hb];exact eb
end L2
namespace L2
open PySem PySem.Spec PyProof.Rows
structure Mth(P:Program)(w:World)(K:ak)(mg:Str->Option Value)(base:Heap)(k:Nat)(C:Addr)(m:Str)(ps:List Str)(sp:Sp):Prop where
 ex:∃ f fd,Meth K C m f/\cF P w K mg base (CXE P w) k f fd ps sp/\Binds K fd ps []
 cl:Cls K C
section
variable{X:Cx}{k j:Nat}{ps:List Str}{sp:Sp}{E:XK}{m:Str}{pos apos:Pos}{o e:Expr}{es:List Expr}{ta:TE}{t:TA}{C:Addr}
theorem Np{env:Env}{args:List Expr}(hbase:attributeBase o m env (eval o env)=eval o env)(hs:args.all notStar=true)(hlen:decide (args.length<30)=true)(hline:(apos.endLine==pos.line)=true) :
  eval (.Call (.Attribute o m apos) args [] pos) env=(do
   let v <- eval o env
   standAt apos.atName
   let (g,before) <- holding [v] (getMethod v m (do return (<- importBound o env).getD true))
   callWith pos g before (backTo pos (starEach args env)) (backToKw pos (keywordEach [] env))):=by
 have form:methodCallForm (args.length+([]:List Keyword).length) (backTo pos (starEach args env)) (backToKw pos (keywordEach [] env))=true:=by
  unfold methodCallForm;rw[JD hs];have:decide (args.length+([]:List Keyword).length+(if(backToKw pos (keywordEach [] env)).isEmpty then 0 else 1)<30)=true:=by
   have:=cJ hlen;exact cR (by show args.length+0+0<30;omega)
  rw[this];rfl
 rw[arm_eval_Call,hbase];unfold methodCall calleeOf methodCallPos;rw[form];simp only[hline,uf,Mr,pure_bind]
theorem uO(D:Mth X.prog X.w X.K X.mg X.base k C m ps sp)(hr:gC j X.A)(hx:Passes (CXE X.prog X.w) X E)(ho:RE X o ta)(hk:k<=j:=by decide)
  (hbase:attributeBase o m X.env (eval o X.env)=eval o X.env:=by rfl) (hline:(apos.endLine==pos.line)=true:=by rfl):RE X (.Call (.Attribute o m apos) [] [] pos) (J2 C m sp [] E ta nD):=by
 obtain⟨f,fd,M,F,hb⟩:=D.ex;exact⟨T5 ho.ok D.cl M F (hr.mono hk) hb .nil hx (ht:=Np hbase rfl rfl hline)⟩
theorem a0k(D:Mth X.prog X.w X.K X.mg X.base k C m ps sp)(hr:gC j X.A)(hx:Passes (CXE X.prog X.w) X E)(ho:RE X o ta)(ha:RA X (e::es) t)(hk:k<=j:=by decide)(h1:(e::es).all notStar=true:=by rfl)
  (hbase:attributeBase o m X.env (eval o X.env)=eval o X.env:=by rfl) (hlen:decide ((e::es).length<30)=true:=by rfl) (hline:(apos.endLine==pos.line)=true:=by rfl) :
  RE X (.Call (.Attribute o m apos) (e::es) [] pos) (J2 C m sp [] E ta t):=by
 obtain⟨f,fd,M,F,hb⟩:=D.ex;have h1':=h1;rw[wO,kj] at h1';exact⟨X4 ho.ok D.cl M F (hr.mono hk) hb .nil hx ha.ok (hst:=mV h1'.1) (hpl:=xu h1'.2) (ht:=Np hbase h1 hlen hline)⟩
variable{f:Expr}{td ty tx:TE}
theorem NP(hu:X.A.units+60<cLine)(ho:RE X o td)(he:RE X e ty)(hf:RE X f tx) (m:M2 X o "get" apos e f pos):RE X (.Call (.Attribute o "get" apos) [e,f] [] pos) (Uc td ty tx):=⟨SX (by lia) ho.ok he.ok hf.ok m⟩
end
section
variable{P:Program}{w:World}
theorem JL{κ:Type} [DecidableEq κ] (knd:HeapKind P w κ) (d:Addr) (lo:(d==sysModules)=false) :
  MeetsIn P w (Builtin.«dict.__len__» ⟨[.ref d],[]⟩) (fun _ R s=>∃ xs,s.heap.DictOfH knd d xs/\∀ t t',R (.ok (.ret (.int xs.length t))) { s with toks:=t' }):=
 .of_wp fun A R s hyp=>by
  obtain⟨xs,dd,q⟩:=hyp;obtain⟨ob,en,ep,g1,g2,g3,g4,g5⟩:=dd;have n:en.size=xs.length:=size_of_entries g4;show wpAny _ _ (dictSize d >>= _) _ _ s;unfold dictSize;refine bN (bN (wpAny_dictEntries g1 g3 (cQ ?_)));show wpAny _ _ (Builtin.Dict.pendingCount d >>= _) _ _ s;refine bN (wpAny_pendingCount_other lo (wpAny_ret_mkInt ?_));rw[wR,n];exact q _ _
end
section
variable{X:Cx}
def Yg:List V->Hp->VK->Prop:=fun xs H Q=>∃ a kvs,xs=[.ref a]/\H a=some (.dT kvs)/\Q (.int kvs.length) H
theorem Od:dX X (.builtin "len") Yg:=by
 intro pins s zzs H xs us Q I r h;obtain⟨a,kvs,rfl,e,q⟩:=h;obtain⟨u,rfl,ru⟩:=vals1 r;cases ru;obtain⟨z,lo,ws,rel,dd⟩:=MP I.hok e;have n:ws.length=kvs.length:=(Gm rel).symm;have a2H:((kvs.length:Nat):Int)<2^63:=by rw[rN] at z;lia
 refine La kind_len plain_len entry_len (args_len1 _) ?_;unfold Builtin.«len»;refine bN (m:=oneArg "len" _) (cQ (bN (m:=callSpecial? (.ref a) (Str.ofString "__len__")) ?_));refine Lg (name:=Str.ofString "__len__") dd.typeIs Va (call_meetsIn Va dd.typeIs PySem.F.entry_dict_len (PySem.F.args_dict_len_1 _) (JL _ a lo) ⟨ws,dd,fun t t'=>?_⟩);rw[n];refine bN (tZ (cQ (bN (wpAny_letGo ?_))));show wpAny _ _ (if((kvs.length:Nat):Int)<0 then _ else _) _ _ _;rw[aG (by lia)];show wpAny _ _ (if((kvs.length:Nat):Int)>=2^63 then _ else _) _ _ _;rw[aG (by lia)];exact bN (wpAny_mkInt (cQ ⟨_,rfl,.int kvs.length,H,I.tok _,⟨_,rfl⟩,q⟩))
def a1z:List V->Hp->VK->Prop:=fun xs H Q=>(∃ i:Int,xs=[.int i]/\i.natAbs.log2<1920/\Q (.str (toString i)) H)\/∃ z:Str,xs=[.str z]/\Q (.str z) H
theorem Oe:dX X (.type "str") a1z:=by
 intro pins s zzs H xs us Q I r h;rcases h with h|⟨z,rfl,q⟩
 ·exact DR pins s zzs H xs us Q I r h
 ·obtain⟨u,rfl,t,rfl⟩:=vals1 r;exact PySem.P.str_of_str ⟨.str _,H,I,⟨_,rfl⟩,q⟩
def a1x(K:ak):List V->Hp->VK->Prop:=fun xs H Q=>Tp K xs H Q\/Yg xs H Q
theorem Rv{K:ak}(hK:X.K=K:=by rfl):dX X (.builtin "len") (a1x K):=by subst hK;exact dX.or iD Od
end
def vI(H H':Hp):Prop:=∀ b xs,H b=some (.tup xs)->H' b=some (.tup xs)
theorem vI.put{H:Hp}{x:Addr}{o u:HO}(hx:H x=some o)(no:∀ xs,o≠.tup xs):vI H (upd H x u):=fun b xs e=>by
 rw[aN (fun z=>by rw[z,hx] at e;exact no xs (iJ e))];exact e
section
variable{K:ak}{H H':Hp}
theorem vI.cell{v:V}{x:Cell}(s:vI H H')(h:Den K H v (au x)):Den K H' v (au x):=by
 obtain⟨a,rfl,_,ht⟩:=cV h;exact .tup (s _ _ ht) (.cons (.int _) (.cons (.int _) .nil))
theorem vI.cells(s:vI H H'):∀ {vs:List V} {cs:List Cell},aV K H vs (cs.map au)->aV K H' vs (cs.map au)
 |[],[],_=>.nil
 |v::vs,c::cs,.cons h t=>.cons (s.cell h) (s.cells t)
end
def eO(c:Cell):List Key:=[.inl c.1,.inl c.2]
def iI(f h d:Addr)(b:Bool):List (Str×V):=cX "lost" (.bl b) (cX "figures" (.ref d) (cX "hidden" (.ref h) (cX "field" (.ref f) [])))
theorem Z2(f h d:Addr)(b:Bool):(iI f h d b).lookup ("lost" : Str)=some (.bl b):=by
 unfold iI;rw[bA,aJ rfl]
theorem lC(f h d:Addr)(b:Bool):(iI f h d b).lookup ("figures" : Str)=some (.ref d):=by
 unfold iI;rw[bA,aG (by decide +kernel),bA,aJ rfl]
theorem zp(f h d:Addr)(b:Bool):(iI f h d b).lookup ("hidden" : Str)=some (.ref h):=by
 unfold iI;rw[bA,aG (by decide +kernel),bA,aG (by decide +kernel),bA,aJ rfl]
theorem oY(f h d:Addr)(b:Bool):(iI f h d b).lookup ("field" : Str)=some (.ref f):=by
 unfold iI;rw[bA,aG (by decide +kernel),bA,aG (by decide +kernel),bA,aG (by decide +kernel),bA,aJ rfl]
theorem JG(f h d:Addr)(b:Bool){m:Str} (h1:m ≠ "lost") (h2:m ≠ "figures") (h3:m ≠ "hidden") (h4:m ≠ "field"):(iI f h d b).lookup m=none:=by
 unfold iI;rw[bA,aG h1,bA,aG h2,bA,aG h3,bA,aG h4];rfl
def lN(h w:Int)(st kn:List Cell):List (List Key×V):=kn.map fun c=>(eO c,V.int (oX h w st c))
theorem zH{a b:Cell}(e:eO a=eO b):a=b:=by
 unfold eO at e;injection e with e1 e2;injection e2 with e2 _;injection e1 with e1;injection e2 with e2;exact jD e1 e2
theorem nQ(h w:Int)(st:List Cell)(c:Cell):∀ kn:List Cell,pK (lN h w st kn) (eO c)=if c∈kn then some (.int (oX h w st c)) else none
 |[]=>rfl
 |a::kn=>by
  show pK ((eO a,V.int (oX h w st a))::lN h w st kn) (eO c)=_;by_cases e:a=c
  ·subst e;rw[rB rfl,aJ cZ]
  ·rw[rA (fun z=>e (zH z)),nQ h w st c kn];by_cases m:c∈kn
   ·rw[aJ m,aJ (f9 _ m)]
   ·rw[aG m,aG (fun z=>(cW.mp z).elim (fun q=>e q.symm) m)]
def gD(h w:Nat):List Str:=aO h w [] []
theorem yR{h w:Nat}{st kn:List Cell}{r c:Nat}(hr:r<h)(hc:c<w):codeAt (aO h w st kn) (r,c)=qe h w st kn ((r:Int),(c:Int)):=by
 unfold codeAt aO;have e:(((List.range h).map fun r:Nat=>uQ h w st kn (r:Int) w).getD r Str.empty)=uQ h w st kn (r:Int) w:=by
  rw[fU,dG,List.getElem?_range hr];rfl
 show(((List.range h).map fun r:Nat=>uQ h w st kn (r:Int) w).getD r Str.empty).cps.getD c 0=_;rw[e];unfold uQ;simp[Array.getD,hc]
theorem d8{h w:Nat}{st kn:List Cell}{x:Cell}:aH (aO h w st kn) w x=(decide (inF h w x)&&!decide (x∈kn)):=by
 have ll:(aO h w st kn).length=h:=by unfold aO;rw[aZ,jM]
 unfold aH;rw[ll];by_cases hi:inF h w x
 ·obtain⟨⟨a1,a2⟩,a3,a4⟩:=id hi;have e1:x=(((x.1.toNat:Nat):Int),((x.2.toNat:Nat):Int)):=jD (by show x.1=_;lia) (by show x.2=_;lia);rw[cR hi,rM,rM,yR (by lia) (by lia),<- e1];unfold qe;by_cases hk:x∈kn
  ·rw[aJ hk,cR hk];exact dB (by lia)
  ·rw[aG hk,dB hk];rfl
 ·rw[dB hi,xV,xV]
structure bT(K:ak)(C CV:Addr)(H:Hp)(g:Addr)(h w:Nat)(st kn:List Cell)(lost:Bool)(f hd d:Addr):Prop where
 ob:∃ dx,H g=some (.ins C dx (iI f hd d lost))
 fl:bW CV H f (gD h w) w
 hs:Ls K H hd (st.map au)
 dc:H d=some (.dT (lN h w st kn))
theorem bT.mono{K:ak}{C CV:Addr}{H H':Hp}{g:Addr}{h w:Nat}{st kn:List Cell}{lost:Bool}{f hd d:Addr}(G:bT K C CV H g h w st kn lost f hd d)(s:Same H H'):bT K C CV H' g h w st kn lost f hd d:=
 ⟨let ⟨dx,e⟩:=G.ob;⟨dx,s _ _ e⟩,G.fl.mono s,G.hs.mono s,s _ _ G.dc⟩
end L2
namespace L2
open PySem PySem.Spec PyProof.Rows PySem.SeqAt PySem.MeetsSeq PySem.MeetsSeq2 PySem.MeetsSeq3
open PySem.AutoSeq1 (wpAny_loadPart')
theorem W4(I d:Addr)(n ep:Nat)(es:Array DictEntry)(z1:Array (Option Value))(hn:n=es.size):Meets (Builtin.«dict_keyiterator.__next__» ⟨[.ref I],[]⟩)
  (fun A R s=>A.handled=none/\s.heap.get? I=some { cls:=.type "dict_keyiterator",dict:=none,data:=.fields #[.ref d,.int n 0,.int n 0,.int ep 0],slots:=z1 }/\s.heap.get? d=some { cls:=.type "dict",dict:=none,data:=.dict es ep,slots:=#[] } /\
   ∀(h':Heap)(e:Addr),(∃ o,h'.get? e=some o/\o.cls=.type "StopIteration")->(∀ b o,b≠I->s.heap.get? b=some o->h'.get? b=some o)->R (.error (.ref e)) { s with heap:=h' }):=
 .of_wp fun prog w A R s h=>by
  obtain⟨hp,g,dr,tk,os⟩:=s;obtain⟨hh,e1,e2,h⟩:=h
  wp_walk using wpAny_loadPart' e1,wpAny_loadPart' e2
  have e:(if(n:Int)<0 then none else es[((n:Nat):Int).toNat]?)=none:=by
   rw[aG (by lia),jm];exact V5 (by lia)
  rw[e];dsimp only
  wp_walk using wpAny_loadPart' e1,wpAny_loadPart' e2
  unfold raiseNew;refine bN (wpAny_handled ?_);have hh':A.in1.handled=none:=hh;rw[hh'];refine bN (cQ (wpAny_throw (h _ _ ⟨_,jo _ rfl,rfl⟩ fun b o hb eb=>dW _ (dW _ ?_))));rw[Fz _ _ _ _ hb];exact eb
section
variable{P:Program}{w:World}{A:Around}{E:Value->Shared->Prop}{s:Shared}
def KIt(I d:Addr)(es:Array DictEntry)(ep i:Nat)(h:Heap):Prop:=
 (∃ z1,h.get? I=some { cls:=.type "dict_keyiterator",dict:=none,data:=.fields #[.ref d,.int i 0,.int es.size 0,.int ep 0],slots:=z1 })/\h.get? d=some { cls:=.type "dict",dict:=none,data:=.dict es ep,slots:=#[] }
theorem KIt.ty{I d:Addr}{es:Array DictEntry}{ep i:Nat}(k:KIt I d es ep i s.heap):s.TypeIs (.ref I) "dict_keyiterator":=let ⟨_,e⟩:=k.1;⟨_,e,rfl⟩
theorem Rz{I d:Addr}{es:Array DictEntry}{ep i:Nat}{Q:Option Value->Shared->Prop}(k:KIt I d es ep i s.heap)(ne:d≠I)(hi:i<es.size)
  (hQ:∀ h' tk',KIt I d es ep (i+1) h'->(∀ b o,b≠I->s.heap.get? b=some o->h'.get? b=some o)->Q (some es[i].key) { s with heap:=h',toks:=tk' }):wpAny (model P w) A (pyNext (.ref I)) Q E s:=by
 obtain⟨⟨z1,e1⟩,e2⟩:=id k;unfold pyNext;refine bN (wpAny_attempt (Lg (name:=Str.ofString "__next__") k.ty Jb
  (pN Jb k.ty Uu (Ut _) (RX I d i es.size ep es none none z1 #[] .none hi rfl) ⟨e1,e2,fun h' tk' g1 g2=>?_⟩)))
 exact cQ (hQ h' tk' ⟨⟨z1,g1⟩,g2 d _ ne e2⟩ g2)
theorem Wg{I d:Addr}{es:Array DictEntry}{ep:Nat}{Q:Option Value->Shared->Prop}(hh:A.handled=none)(k:KIt I d es ep es.size s.heap)
  (hQ:∀ h',(∀ b o,b≠I->s.heap.get? b=some o->h'.get? b=some o)->Q none { s with heap:=h' }):wpAny (model P w) A (pyNext (.ref I)) Q E s:=by
 obtain⟨⟨z1,e1⟩,e2⟩:=id k;unfold pyNext;refine bN (wpAny_attempt (Lg (name:=Str.ofString "__next__") k.ty Jb
  (pN Jb k.ty Uu (Ut _) (W4 I d es.size ep es z1 rfl) ⟨hh,e1,e2,fun h' e ho g2=>?_⟩)))
 obtain⟨o,h1,h2⟩:=ho;refine bN (wpAny_isInstance (T:="StopIteration") (b:=true) ⟨o,h1,h2⟩ isSubtype_stop ?_);exact cQ (hQ h' g2)
theorem Ry{d:Addr}{es:Array DictEntry}{ep:Nat}{Q:Value->Shared->Prop}(lo:(d==sysModules)=false) (e:s.heap.get? d=some { cls:=.type "dict",dict:=none,data:=.dict es ep,slots:=#[] })
  (hQ:Q (.ref s.heap.objs.size) { s with heap:=s.heap.push { cls:=.type "dict_keyiterator",dict:=none,data:=.fields #[.ref d,.int 0 0,.int es.size 0,.int ep 0],slots:=#[] } }):wpAny (model P w) A (pyIter (.ref d)) Q E s:=by
 have ty:s.TypeIs (.ref d) "dict":=⟨_,e,rfl⟩
 refine wpAny_pyIter_slot ty V6 (Ml V6 ty PySem.F.entry_dict_iter ?_ (PySem.F.args_dict_iter_1 _));unfold Builtin.«dict.__iter__»;refine bN ?_;unfold Builtin.Dict.dictSlotNone;refine bN (wpAny_notOrdered_dict ty ?_);refine cQ ?_;show wpAny _ _ (Builtin.Dict.showsAll d >>= _) _ _ s;unfold Builtin.Dict.showsAll;rw[lo,aG (by decide)];refine bN (cQ (bN (wpAny_dictEntries e rfl (bN (wpAny_dictEpoch e rfl ?_)))));exact bN (FT (cQ ⟨_,rfl,"dict_keyiterator",_,⟨_,jo _ rfl,rfl⟩,Jb.lookup,hQ⟩))
theorem PJ(hh:A.handled=none)(I d:Addr)(ne:d≠I)(es:Array DictEntry)(ep:Nat):Walks P w A I [I,d] [I] es.size (fun i v=>∃ h:i<es.size,v=es[i].key) (KIt I d es ep) where
 sub:=fun b hb=>by rw[cL.mp hb];exact cZ
 frame:=fun i h h' st hk=>⟨let ⟨z,e⟩:=st.1;⟨z,hk I cZ _ e⟩,hk d (f9 _ cZ) _ st.2⟩
 item:=fun i s Q E hi st hQ=>Rz st ne hi fun h' tk' k' keep=>hQ _ h' tk' ⟨hi,rfl⟩ k' fun b o hb eb=>keep b o (fun z=>hb (by rw[z];exact cL.mpr rfl)) eb
 done:=fun s Q E st hQ=>Wg hh st fun h' keep=>hQ h' s.toks fun b o hb eb=>keep b o (fun z=>hb (by rw[z];exact cL.mpr rfl)) eb
 self:=fun i s Q E st hQ=>let ⟨_,e⟩:=st.1;wpAny_pyIter_keyiter ⟨_,e,rfl,rfl⟩ hQ
theorem Wh(d:Addr)(lo:(d==sysModules)=false)(es:Array DictEntry)(ep:Nat):PySem.W.KdlSrc P w "dict" d d es.size (fun i v=>∃ h:i<es.size,v=es[i].key) (fun h=>h.get? d=some { cls:=.type "dict",dict:=none,data:=.dict es ep,slots:=#[] }) where
 type:=fun s e=>⟨_,e,rfl⟩
 there:=fun h e=>⟨bR e,bR e⟩
 keep:=fun h h' e hk=>hk d (.inl rfl) _ e
 notList:=by decide
 notTuple:=by decide
 hint:=fun A E s Q e hq=>PySem.W.kdl_hint_dict ⟨_,e,rfl⟩ hq
 iter:=fun A s hh e=>⟨_,_,fun E Q hq=>Ry lo e hq,PJ hh _ d (fZ (bR e)) es ep,⟨⟨_,jo _ rfl⟩,dW _ e⟩⟩
theorem HD{T:String}{r d:Addr}{n:Nat}{G:Nat->Value->Prop}{OK:Heap->Prop}{C:List Value->Shared->Prop}(S:PySem.W.KdlSrc P w T r d n G OK)(hh:A.handled=none)(ok:OK s.heap)(hz:n<=sizeLine)
  (fin:∀(hp:Heap)(tk:Nat)(got:Array Value),(∀ b o,s.heap.get? b=some o->hp.get? b=some o)->s.heap.objs.size<=hp.objs.size->ItemsOf G got n->C got.toList { s with heap:=hp,toks:=tk }):wpAny (model P w) A (collect (.ref r)) C E s:=by
 obtain⟨lr,ld⟩:=S.there _ ok;unfold collect;refine bN (wpAny_runValue (Gi PySem.F.entry_proto_collect ?_));rw[Fy PySem.F.plain_proto_collect _];show wpAny _ A.in1 (newList [] >>= fun q=>again (.builtin "list.__iadd__" ⟨[q,.ref r],[]⟩)) _ _ s;refine bN (FT (cQ ⟨plainId_quiet V1 _,Gi PySem.F.entry_list_iadd ?_⟩));rw[Fy V1 _];have new:(s.heap.push { cls:=.type "list",data:=.seq ([]:List Value).toArray }).get? s.heap.objs.size=some { cls:=.type "list",data:=.seq #[] }:=jo _ rfl;have done:∀(hp:Heap)(tk:Nat)(got:Array Value)(c:Nat),(∀ b o,b≠s.heap.objs.size->(s.heap.push { cls:=.type "list",data:=.seq ([]:List Value).toArray }).get? b=some o->hp.get? b=some o)->hp.get? s.heap.objs.size=some { cls:=.type "list",dict:=none,data:=.seq got c,slots:=#[] }->ItemsOf G got n ->
   wpAny (model P w) A (load s.heap.objs.size >>= fun o=>match o.data with|.seq xs _=>pure xs.toList|_=>unsupported "internal:collect") C E { s with heap:=hp,toks:=tk }:=fun hp tk got c k1 k2 k3=>by
  refine bN (wpAny_load k2 (cQ (fin hp tk got (fun b o e=>k1 b o (fZ (bR e)) (dW _ e)) (Gq (bR k2)) k3)))
 have go:=PySem.W.kdl_extend (A:=A) (s:={ s with heap:=s.heap.push { cls:=.type "list",data:=.seq ([]:List Value).toArray } })
  (R:=fun(x:Result)(s2:Shared)=>x=.ok (.ret (.ref s.heap.objs.size))/\wpAny (model P w) A (load s.heap.objs.size >>= fun o=>match o.data with|.seq xs _=>pure xs.toList|_=>unsupported "internal:collect") C E s2)
  S hh (S.keep _ _ ok fun b _ o e=>dW _ e) s.heap.objs.size (Gs lr) (Gs ld) (.ref s.heap.objs.size) 0 new (fun hp tk got c k1 k2 k3=>⟨rfl,done hp tk got c k1 k2 k3⟩) hz
 refine jw go (fun x s2 y=>?_) fun e s2 y=>?_
 ·cases x with
  |done f=>
   obtain⟨e,y⟩:=y;cases e;exact y
  |again c=>
   refine⟨y.1,Bj y.2 fun q s3 z=>?_⟩;obtain⟨e,z⟩:=z;subst e;exact z
 ·exact absurd y.1 (by intro z;cases z)
end
open PySem.W
section
variable{X:Cx}
theorem Yv{cs:List Cell}{n:Nat}{o:Array Nat}(hn:n=cs.length)(g:Good n o)(up:Gz fJ (fun i=>cs.getD i (0,0)) o n):Asc (o.toList.map fun i=>cs.getD i (0,0)):=by
 unfold Asc;rw[sS];intro i j hi hj hij;rw[aZ,mD,g.size] at hi hj;have hle:=up.le mK (j-i) i (by lia);have e1:i+(j-i)=j:=by lia
 rw[e1] at hle;have hno:=jl hle;have sz:=g.size;have key:∀ k,(hk:k<n)->Ky (fun i=>cs.getD i (0,0)) o k=(o.toList.map fun i=>cs.getD i (0,0))[k]'(by rw[aZ,mD,sz];exact hk):=fun k hk=>by
  unfold Ky;rw[Bd,mY,jk (by lia)];rfl
 rw[<- key i hi,<- key j hj];exact hno
theorem HB{K:ak}{H:Hp}{f:Cell->V}:∀ {cs:List Cell} {ws:List (List Key×Addr×Value)},KT H (cs.map fun c=>(eO c,f c)) ws->aV K H (ws.map fun x=>V.ref x.2.1) (cs.map au)
 |[],ws,h=>by cases h;exact .nil
 |c::cs,ws,h=>by
  cases h with
  |@cons p q ps qs hq t=>exact .cons (.tup (show H q.2.1=some (.tup [.int c.1,.int c.2]) from hq.2.1) (.cons (.int _) (.cons (.int _) .nil))) (HB t)
theorem CJ:∀(ws:List (List Key×Addr×Value)),Vals (ws.map fun x=>V.ref x.2.1) (ws.map fun x=>Value.ref x.2.1)
 |[]=>.nil
 |x::ws=>.cons rfl (CJ ws)
def Tr(K:ak):List V->Hp->VK->Prop:=fun xs H Q=>∃(d:Addr)(cs:List Cell)(f:Cell->V),xs=[.ref d]/\H d=some (.dT (cs.map fun c=>(eO c,f c)))/\cs.length<64/\∀ l ws ds,H l=none->aV K H ws (ds.map au)->ds.Perm cs->Asc ds->Q (.ref l) (upd H l (.lst ws))
theorem Jq(hc:X.calm=true)(hu:X.A.units+60<cLine):dX X (.builtin "sorted") (Tr X.K):=by
 intro pins s zzs H xs us Q I r h;obtain⟨d,cs,f,rfl,e,h64,q⟩:=h;obtain⟨u,rfl,ru⟩:=vals1 r;cases ru;obtain⟨z,lo,ws,rel,ob,es,ep,g1,g2,g3,g4,g5⟩:=MP I.hok e;have g1':s.heap.get? d=some { cls:=.type "dict",dict:=none,data:=.dict es ep,slots:=#[] }:=by
  obtain⟨c1,c2,c3,c4⟩:=ob;obtain⟨a1,a2,a3⟩:=g2;dsimp only at a1 a2 a3 g3;subst a1 a2 a3 g3;exact g1
 have D:=HB (K:=X.K) rel;have rv:=CJ ws;have nw:es.size=ws.length:=size_of_entries g4;have hl:ws.length=cs.length:=by have:=D.length;rwa[aZ,aZ] at this
 have hz:es.size<=sizeLine:=by rw[rN];lia
 refine La kind_sorted plain_sorted entry_sorted (args_sorted1 _) ?_;unfold Builtin.«sorted»;refine bN (m:=checkCount "sorted" 1 1 _) (cQ (bN (HD (Wh d lo es ep) (I.ok.hd hc) g1' hz fun hp tk got keep a1G items=>?_)));have eg:got.toList=ws.map fun x=>Value.ref x.2.1:=by
  refine G7 fun j=>?_
  rw[Dk,dG];by_cases hj:j<es.size
  ·have hg:j<got.size:=by rw[items.1];exact hj
   obtain⟨_,ev⟩:=items.2 j got[j] (jk hg);rw[jk hg,ev];have hw:j<ws.length:=by lia
   have:es.toList[j]?=(ws.map (entryOfKey (tupleKind (eX X.prog X.w))))[j]? :=by rw[g4]
   rw[Dk,jk hj,dG,eZ hw] at this;rw[eZ hw];have e2:=iJ this;rw[e2];rfl
  ·rw[V5 (by rw[items.1];lia),Vb (by lia)];rfl
 rw[eg];have lus:(ws.map fun x=>Value.ref x.2.1).length=cs.length:=by rw[aZ,hl]
 have lvs:(ws.map fun x=>V.ref x.2.1).length=cs.length:=by rw[aZ,hl]
 generalize hvs:(ws.map fun x=>V.ref x.2.1)=vs at D rv lvs;generalize hus:(ws.map fun x=>Value.ref x.2.1)=its at rv lus;have hz2:its.length<=sizeLine:=by rw[rN];lia
 refine bN (wpAny_newList ?_ (by simpa using hz2));have at0:(hp.push (seqObj "list" its.toArray 0)).get? hp.objs.size=some (seqObj "list" its.toArray 0):=jo _ rfl;show wpAny _ _ _ _ _ { s with heap:=hp.push (seqObj "list" its.toArray 0),toks:=tk };refine bN (tZ (Ml slot_list_sort ⟨_,at0,rfl⟩ entry_list_sort (GD (h0:=s.heap) mK (Cj I D rv) (by show X.A.units+1+1+2<cLine;lia) (wU I D rv) hz2 at0 (fun b o eb=>⟨dW _ (keep b o eb),fZ (bR (keep b o eb))⟩) fun o g up=>⟨_,rfl,cQ ⟨_,rfl,?_⟩⟩) (args_list_sort _)));obtain⟨en,he⟩:=sortedHeap_at (vs:=its) (out:=(byP its o).toArray) at0;have hn:H hp.objs.size=none:=I.hok.fresh a1G;have bd:∀ i∈o.toList,i<vs.length:=fun i hi=>by rw[lvs,<- lus];exact cH.mp (g.perm.mem_iff.mp hi)
 have rv':Vals (o.toList.map fun i=>vs.getD i .non) (byP its o):=yE rv o.toList bd;have dv:aV X.K H (o.toList.map fun i=>vs.getD i .non) ((o.toList.map fun i=>cs.getD i (0,0)).map au):=by
  have:=Eb (d0:=au (0,0)) D o.toList bd;have e1:(o.toList.map fun i=>(cs.map au).getD i (au (0,0)))=((o.toList.map fun i=>cs.getD i (0,0)).map au):=by
   rw[ni];refine Ax fun i hi=>?_
   simp only[fU,dG,Function.comp];cases cs[i]?<;>rfl
  rw[<- e1];exact this
 have pc:(o.toList.map fun i=>cs.getD i (0,0)).Perm cs:=uM (by rw[<- lus];exact g.perm);have as:Asc (o.toList.map fun i=>cs.getD i (0,0)):=Yv (by omega) g up;have lo':(o.toList.map fun i=>vs.getD i .non).length<=sizeLine:=by
  rw[aZ,mD,g.size];exact hz2
 refine⟨.ref hp.objs.size,upd H hp.objs.size (.lst (o.toList.map fun i=>vs.getD i .non)),I.laid (a:=hp.objs.size) (o:=.lst (o.toList.map fun i=>vs.getD i .non)) (t':=tk) (fun b o eb=>?_) a1G ⟨lo',byP its o,en,rv',he⟩,rfl,q _ _ _ hn dv pc as⟩;have eb':=keep b o eb;rw[sortedHeap_old (fZ (bR eb')) (by rw[size_push'];exact Nat.lt_succ_of_lt (bR eb'))];exact dW _ eb'
theorem Ek{K:ak}(hc:X.calm=true)(hu:X.A.units+60<cLine)(hK:X.K=K:=by rfl):dX X (.builtin "sorted") (Tr K):=by subst hK;exact Jq hc hu
end
end L2
namespace L2
open PySem PySem.Spec PyProof.Rows
end L2
namespace L2
open PySem PySem.Spec PyProof.Rows PySem.SeqAt PySem.MeetsSeq PySem.MeetsSeq2 PySem.MeetsSeq3
open PySem.AutoSeq1 (wpAny_loadPart')
namespace SF
end SF
end L2
namespace L2
open PySem PySem.Spec PyProof.Rows PySem.SeqAt PySem.MeetsSeq PySem.MeetsSeq2 PySem.MeetsSeq3
open PySem.AutoSeq1 (wpAny_loadPart')
end L2
namespace L2
open PySem PySem.Spec PyProof.Rows PySem.W
end L2
namespace L2
open PySem PySem.Spec PyProof.Rows PySem.SeqAt PySem.MeetsSeq PySem.MeetsSeq2 PySem.MeetsSeq3
open PySem.AutoSeq1 (wpAny_loadPart')
theorem Iv(A:Around)(s:Shared)(a:Int)(t:Tok)(c:Int)(u:Tok)(prog:Program)(w:World)(E:Value->Shared->Prop)(Q:Value->Shared->Prop)(h:Q (.bool (decide (a<c))) s):wpAny (model prog w) A (richCompare .Lt (.int a t) (.int c u)) Q E s:=
 (lt_int h:wpAny (model prog w) A (compareOp .Lt (.int a t) (.int c u)) Q E s)
theorem Iu(A:Around)(s:Shared)(a:Int)(t:Tok)(c:Int)(u:Tok)(prog:Program)(w:World)(E:Value->Shared->Prop)(Q:Value->Shared->Prop)(h:Q (.bool (decide (c<a))) s):wpAny (model prog w) A (richCompare .Gt (.int a t) (.int c u)) Q E s:=
 (gt_int h:wpAny (model prog w) A (compareOp .Gt (.int a t) (.int c u)) Q E s)
theorem Wm(p q:Addr)(x1 x2 y1 y2:Int)(t1 t2 u1 u2:Tok)(n m:Nat)(d1 d2:Option Addr)(z1 z2:Array (Option Value)):Meets (Builtin.«tuple.__lt__» ⟨[.ref p,.ref q],[]⟩)
  (fun _ R s=>s.heap.get? p=some { cls:=.type "tuple",dict:=d1,data:=.seq #[.int x1 t1,.int x2 t2] n,slots:=z1 }/\s.heap.get? q=some { cls:=.type "tuple",dict:=d2,data:=.seq #[.int y1 u1,.int y2 u2] m,slots:=z2 }/\R (.ok (.ret (.bool (fJ (x1,x2) (y1,y2))))) s):=
 .of_wp fun prog w A R s h=>by
  obtain⟨hp,g,d,tk,os⟩:=s;obtain⟨e1,e2,h⟩:=h;have f2:=Ld;have k1:=fun(Q:Bool->Shared->Prop)(E:Value->Shared->Prop)(h:Q (x1==y1) ⟨hp,g,d,tk,os⟩)=>(rH (t:=t1) (u:=u1) h:wpAny (model prog w) A.in1 (eqBool (.int x1 t1) (.int y1 u1)) Q E ⟨hp,g,d,tk,os⟩)
  have k2:=fun(Q:Bool->Shared->Prop)(E:Value->Shared->Prop)(h:Q (x2==y2) ⟨hp,g,d,tk,os⟩)=>(rH (t:=t2) (u:=u2) h:wpAny (model prog w) A.in1 (eqBool (.int x2 t2) (.int y2 u2)) Q E ⟨hp,g,d,tk,os⟩)
  have r1:=Iv A.in1 ⟨hp,g,d,tk,os⟩ x1 t1 y1 u1 prog w;have r2:=Iv A.in1 ⟨hp,g,d,tk,os⟩ x2 t2 y2 u2 prog w;have out:∀ b:Bool,(b=true↔aP (x1,x2) (y1,y2))->R (.ok (.ret (.bool b))) ⟨hp,g,d,tk,os⟩:=fun b hb=>by
   have:b=fJ (x1,x2) (y1,y2):=by
    unfold fJ;by_cases hc:aP (x1,x2) (y1,y2)
    ·rw[cR hc];exact hb.mpr hc
    ·rw[dB hc];cases b
     ·rfl
     ·exact absurd (hb.mp rfl) hc
   rw[this];exact h
  wp_walk using wpAny_loadPart' e1,wpAny_loadPart' e2,k1,k2
  by_cases q1:x1=y1
  ·rw[show(x1==y1)=true from kJ.mpr q1]
   wp_walk using k2
   by_cases q2:x2=y2
   ·rw[show(x2==y2)=true from kJ.mpr q2]
    wp_walk
    refine⟨_,rfl,out _ ?_⟩;simp[Builtin.Tuple.tupleCompareSizes,aP,q1,q2]
   ·rw[show(x2==y2)=false from n8.mpr q2]
    wp_walk using r2
    refine⟨_,rfl,out _ ?_⟩;rw[gq];unfold aP;dsimp only;lia
  ·rw[show(x1==y1)=false from n8.mpr q1]
   wp_walk using r1
   refine⟨_,rfl,out _ ?_⟩;rw[gq];unfold aP;dsimp only;lia
theorem W7(p q:Addr)(x1 x2 y1 y2:Int)(t1 t2 u1 u2:Tok)(n m:Nat)(d1 d2:Option Addr)(z1 z2:Array (Option Value)):Meets (Builtin.«tuple.__gt__» ⟨[.ref p,.ref q],[]⟩)
  (fun _ R s=>s.heap.get? p=some { cls:=.type "tuple",dict:=d1,data:=.seq #[.int x1 t1,.int x2 t2] n,slots:=z1 }/\s.heap.get? q=some { cls:=.type "tuple",dict:=d2,data:=.seq #[.int y1 u1,.int y2 u2] m,slots:=z2 }/\R (.ok (.ret (.bool (fJ (y1,y2) (x1,x2))))) s):=
 .of_wp fun prog w A R s h=>by
  obtain⟨hp,g,d,tk,os⟩:=s;obtain⟨e1,e2,h⟩:=h;have f2:=Ld;have k1:=fun(Q:Bool->Shared->Prop)(E:Value->Shared->Prop)(h:Q (x1==y1) ⟨hp,g,d,tk,os⟩)=>(rH (t:=t1) (u:=u1) h:wpAny (model prog w) A.in1 (eqBool (.int x1 t1) (.int y1 u1)) Q E ⟨hp,g,d,tk,os⟩)
  have k2:=fun(Q:Bool->Shared->Prop)(E:Value->Shared->Prop)(h:Q (x2==y2) ⟨hp,g,d,tk,os⟩)=>(rH (t:=t2) (u:=u2) h:wpAny (model prog w) A.in1 (eqBool (.int x2 t2) (.int y2 u2)) Q E ⟨hp,g,d,tk,os⟩)
  have r1:=Iu A.in1 ⟨hp,g,d,tk,os⟩ x1 t1 y1 u1 prog w;have r2:=Iu A.in1 ⟨hp,g,d,tk,os⟩ x2 t2 y2 u2 prog w;have out:∀ b:Bool,(b=true↔aP (y1,y2) (x1,x2))->R (.ok (.ret (.bool b))) ⟨hp,g,d,tk,os⟩:=fun b hb=>by
   have:b=fJ (y1,y2) (x1,x2):=by
    unfold fJ;by_cases hc:aP (y1,y2) (x1,x2)
    ·rw[cR hc];exact hb.mpr hc
    ·rw[dB hc];cases b
     ·rfl
     ·exact absurd (hb.mp rfl) hc
   rw[this];exact h
  wp_walk using wpAny_loadPart' e1,wpAny_loadPart' e2,k1,k2
  by_cases q1:x1=y1
  ·rw[show(x1==y1)=true from kJ.mpr q1]
   wp_walk using k2
   by_cases q2:x2=y2
   ·rw[show(x2==y2)=true from kJ.mpr q2]
    wp_walk
    refine⟨_,rfl,out _ ?_⟩;simp[Builtin.Tuple.tupleCompareSizes,aP,q1,q2]
   ·rw[show(x2==y2)=false from n8.mpr q2]
    wp_walk using r2
    refine⟨_,rfl,out _ ?_⟩;rw[gq];unfold aP;dsimp only;lia
  ·rw[show(x1==y1)=false from n8.mpr q1]
   wp_walk using r1
   refine⟨_,rfl,out _ ?_⟩;rw[gq];unfold aP;dsimp only;lia
section
variable{X:Cx}{K:ak}
def a1s(K:ak):R2:=fun x y H Q=>∃(a b:Cell),Den K H x (au a)/\Den K H y (au b)/\Q (.bl (fJ b a)) H
theorem ZJ(hu:X.A.units+60<cLine):OpR X (compareOp .Gt) (a1s X.K):=by
 intro pins s zzs H x y v u Q I rx ry h;obtain⟨a,b,da,db,q⟩:=h;obtain⟨p,o,t1,t2,n,rfl,e1,c1,f1⟩:=lK I da rx;obtain⟨p',o',u1,u2,m,rfl,e2,c2,f2⟩:=lK I db ry;obtain⟨oc,od,of,os⟩:=o;obtain⟨oc',od',of',os'⟩:=o';dsimp only at c1 f1 c2 f2;subst c1 f1 c2 f2;refine Lk (op:=.Gt) ⟨_,e1,rfl⟩ ⟨_,e2,rfl⟩ PySem.F.slot_tuple_gt PySem.F.entry_tuple_gt (PySem.F.args_tuple_gt_2 _ _) (W7 p p' a.1 a.2 b.1 b.2 t1 t2 u1 u2 n m od od' os os') ⟨e1,e2,?_⟩ (by lia);exact(show Value.bool (fJ b a)≠Value.notImplemented/\EP X pins zzs Q (.bool (fJ b a)) s from⟨(fun z=>nomatch z),⟨.bl (fJ b a),H,I,rfl,q⟩⟩)
theorem a1a(hu:X.A.units+60<cLine)(hK:X.K=K:=by rfl):OpR X (compareOp .Gt) (a1s K):=by subst hK;exact ZJ hu
end
def llt:List Cell->List Cell->Bool
 |[],[]=>false
 |[],_::_=>true
 |_::_,[]=>false
 |a::x,b::y=>if a=b then llt x y else fJ a b
theorem uI:jF llt:=by
 refine⟨?_,?_,?_⟩
 ·intro a
  induction a with
  |nil=>intro b h;cases b<;>first|rfl|(cases h)
  |cons x a ih=>
   intro b h;cases b with
   |nil=>cases h
   |cons y b=>
    unfold llt at h ⊢;by_cases e:x=y
    ·rw[aJ e] at h;rw[aJ e.symm];exact ih b h
    ·rw[aG e] at h;rw[aG (mz e)];exact mK.GJ _ _ h
 ·intro a
  induction a with
  |nil=>intro b c _ h;cases c<;>first|rfl|skip;cases b<;>simp_all[llt]
  |cons x a ih=>
   intro b c h1 h2;cases b with
   |nil=>simp[llt] at h1
   |cons y b=>
    cases c with
    |nil=>simp[llt] at h2
    |cons z c=>
     unfold llt at h1 h2 ⊢;by_cases e1:y=x
     ·subst e1;rw[aJ rfl] at h1;by_cases e2:z=y
      ·rw[aJ e2] at h2 ⊢;exact ih b c h1 h2
      ·rw[aG e2] at h2 ⊢;exact h2
     ·rw[aG e1] at h1;by_cases e2:z=y
      ·subst e2;rw[aG e1];exact h1
      ·rw[aG e2] at h2;by_cases e3:z=x
       ·subst e3;exact absurd (mK.anti _ _ h1 h2) (by simpa using e1)
       ·rw[aG e3];exact mK.tr _ _ _ h1 h2
 ·intro a
  induction a with
  |nil=>intro b h1 h2;cases b<;>simp_all[llt]
  |cons x a ih=>
   intro b h1 h2;cases b with
   |nil=>simp[llt] at h2
   |cons y b=>
    unfold llt at h1 h2;by_cases e:x=y
    ·rw[aJ e] at h1;rw[aJ e.symm] at h2;rw[e,ih b h1 h2]
    ·rw[aG e] at h1;rw[aG (mz e)] at h2;exact absurd (mK.anti _ _ h1 h2) e
def Yt(A:Around)(s:Shared)(y x:Value)(b:Bool):Prop:=
 ∀(prog:Program)(w:World)(E:Value->Shared->Prop)(Q:Value->Shared->Prop),Q (.bool b) s->wpAny (model prog w) A (richCompare .Lt y x) Q E s
theorem Wk(l b:Addr)(xs ys:Array Value)(n m:Nat)(d1 d2:Option Addr)(z1 z2:Array (Option Value))(cs ds:List Cell)(hx:xs.size=cs.length)(hy:ys.size=ds.length)(k:Nat) :
  ∀ i:Nat,cs.length-i=k->i<=cs.length->i<=ds.length->Meets (Builtin.«list.__eq__.loop» ⟨[.ref l,.ref b,rawInt i,rawInt 0],[]⟩)
   (fun A R s=>s.heap.get? l=some { cls:=.type "list",dict:=d1,data:=.seq xs n,slots:=z1 }/\s.heap.get? b=some { cls:=.type "list",dict:=d2,data:=.seq ys m,slots:=z2 } /\
    (∀ j (h1:j<xs.size) (h2:j<ys.size) (h3:j<cs.length) (h4:j<ds.length),EqAt A.in1 s xs[j] ys[j] (decide (cs[j]=ds[j]))/\Yt A.in1 s xs[j] ys[j] (fJ cs[j] ds[j])) /\
    R (.ok (.ret (.bool (llt (cs.drop i) (ds.drop i))))) s):=by
 have fin:∀ i,i<=cs.length->i<=ds.length->(i=cs.length\/i=ds.length)->llt (cs.drop i) (ds.drop i)=decide (xs.size<ys.size):=fun i i1 i2 ho=>by
  rw[hx,hy];by_cases e1:i=cs.length
  ·rw[Ln (by lia)];by_cases e2:i=ds.length
   ·rw[Ln (by lia),dB (by lia)];rfl
   ·rw[xM (by lia),cR (by lia)];rfl
  ·have e2:i=ds.length:=by lia
   rw[xM (by lia),Ln (l:=ds) (by lia),dB (by lia)];rfl
 induction k with
 |zero=>
  intro i hk i1 i2 prog w A R s h;obtain⟨hp,g,d,tk,os⟩:=s;obtain⟨hl,hb,he,h⟩:=h
  wp_walk using wpAny_loadPart' hl,wpAny_loadPart' hb
  have hi1:xs[((i:Nat):Int).toNat]?=none:=by simp;lia
  rw[hi1];rw[fin i i1 i2 (.inl (by lia))] at h;cases ys[((i:Nat):Int).toNat]?
  all_goals
   wp_walk using wpAny_loadPart' hl,wpAny_loadPart' hb
   exact h
 |succ k ih=>
  intro i hk i1 i2 prog w A R s h;obtain⟨hp,g,d,tk,os⟩:=s;obtain⟨hl,hb,he,h⟩:=h
  wp_walk using wpAny_loadPart' hl,wpAny_loadPart' hb
  have hi1:xs[((i:Nat):Int).toNat]?=some xs[i]:=by
   rw[jm];exact jk (by lia)
  by_cases e2:i=ds.length
  ·have hi2:ys[((i:Nat):Int).toNat]?=none:=by simp;lia
   rw[hi1,hi2];rw[fin i i1 i2 (.inr e2)] at h
   wp_walk using wpAny_loadPart' hl,wpAny_loadPart' hb
   exact h
  ·have hi2:ys[((i:Nat):Int).toNat]?=some ys[i]:=by
    rw[jm];exact jk (by lia)
   have hc:((i:Int)+1)=((i+1:Nat):Int):=by push_cast;rfl
   obtain⟨g1,g2⟩:=he i (by lia) (by lia) (by lia) (by lia);rw[hi1,hi2];rw[xM (by lia),xM (l:=ds) (by lia)] at h;unfold llt at h;refine bN (g1 prog w _ _ ?_);by_cases e3:cs[i]=ds[i]
   ·rw[aJ e3] at h;rw[cR e3]
    wp_walk
    rw[hc];exact⟨plainId_quiet plain_eq_loop _,Gi entry_eq_loop (by
     rw[Fy plain_eq_loop _];exact ih (i+1) (by lia) (by lia) (by lia) prog w A R _ ⟨hl,hb,he,h⟩)⟩
   ·rw[aG e3] at h;rw[dB e3]
    wp_walk using wpAny_loadPart' hl,wpAny_loadPart' hb
    rw[hi1,hi2];refine bN (g2 prog w _ _ ?_)
    wp_walk
    exact h
theorem RK(l b:Addr)(xs ys:Array Value)(n m:Nat)(d1 d2:Option Addr)(z1 z2:Array (Option Value))(cs ds:List Cell)(hx:xs.size=cs.length)(hy:ys.size=ds.length):Meets (Builtin.«list.__lt__» ⟨[.ref l,.ref b],[]⟩)
   (fun A R s=>s.heap.get? l=some { cls:=.type "list",dict:=d1,data:=.seq xs n,slots:=z1 }/\s.heap.get? b=some { cls:=.type "list",dict:=d2,data:=.seq ys m,slots:=z2 } /\
    (∀ j (h1:j<xs.size) (h2:j<ys.size) (h3:j<cs.length) (h4:j<ds.length),EqAt A.in1 s xs[j] ys[j] (decide (cs[j]=ds[j]))/\Yt A.in1 s xs[j] ys[j] (fJ cs[j] ds[j])) /\
    R (.ok (.ret (.bool (llt cs ds)))) s):=by
 intro prog w A R s h;obtain⟨hp,g,d,tk,os⟩:=s;obtain⟨hl,hb,he,h⟩:=h;have f3:=AutoSeq1.sub_list_list
 wp_walk using wpAny_loadPart' hl,wpAny_loadPart' hb
 exact⟨plainId_quiet plain_eq_loop _,Gi entry_eq_loop (by
  rw[Fy plain_eq_loop _];exact Wk l b xs ys n m d1 d2 z1 z2 cs ds hx hy _ 0 rfl (mG _) (mG _) prog w A R _ ⟨hl,hb,he,h⟩)⟩
end L2
namespace L2
open PySem PySem.Spec PyProof.Rows PySem.W PySem.SeqAt
structure lE(h:Heap)(u:Value)(c:Cell):Prop where
 ex:∃(a:Addr)(o:Obj)(t t':Tok)(n:Nat),u=.ref a/\h.get? a=some o/\o.cls=.type "tuple" /\ o.data=.seq #[.int c.1 t,.int c.2 t'] n
theorem lE.keep{h h':Heap}{u:Value}{c:Cell}(e:lE h u c)(k:Keeps h h'):lE h' u c:=by
 obtain⟨a,o,t,t',n,h1,h2,h3,h4⟩:=e.ex;exact⟨a,o,t,t',n,h1,k _ _ h2,h3,h4⟩
structure qw(h:Heap)(u:Value)(cs:List Cell):Prop where
 ex:∃(a:Addr)(o:Obj)(us:Array Value)(n:Nat),u=.ref a/\h.get? a=some o/\o.cls=.type "list" /\ o.data=.seq us n/\us.size=cs.length/\∀ j (h1:j<us.size) (h2:j<cs.length),lE h us[j] cs[j]
theorem qw.keep{h h':Heap}{u:Value}{cs:List Cell}(e:qw h u cs)(k:Keeps h h'):qw h' u cs:=by
 obtain⟨a,o,us,n,h1,h2,h3,h4,h5,h6⟩:=e.ex;exact⟨a,o,us,n,h1,k _ _ h2,h3,h4,h5,fun j g1 g2=>(h6 j g1 g2).keep k⟩
section
variable{A:Around}{s:Shared}
theorem OJ{x y:Value}{c d:Cell}(hx:lE s.heap x c)(hy:lE s.heap y d)(hu:A.units<cLine):EqAt A s x y (decide (c=d)):=by
 obtain⟨a,o,t,t',n,rfl,h2,h3,h4⟩:=hx.ex;obtain⟨b,o',u,u',m,rfl,g2,g3,g4⟩:=hy.ex;by_cases e:a=b
 ·subst e;rw[h2] at g2;cases g2;rw[h4] at g4;have e1:c=d:=by
   injection g4 with g5 _;have g6:[Value.int c.1 t,Value.int c.2 t']=[Value.int d.1 u,Value.int d.2 u']:=congrArg Array.toList g5;injection g6 with a1 a2;injection a2 with a2 _;injection a1 with a1 _;injection a2 with a2 _;exact jD a1 a2
  rw[cR e1];exact EqAt.same _
 ·have key:=Gv e (RcAt.tuples (e:=fun j=>if j=0 then c.1==d.1 else c.2==d.2) ⟨o,h2,h3,n,h4⟩ ⟨o',g2,g3,m,g4⟩ hu fun j j1 j2=>?_)
  ·have:((List.range (min (#[Value.int c.1 t,Value.int c.2 t']:Array Value).size (#[Value.int d.1 u,Value.int d.2 u']:Array Value).size)).all (fun j=>if j=0 then c.1==d.1 else c.2==d.2)&&(#[Value.int c.1 t,Value.int c.2 t']:Array Value).size==(#[Value.int d.1 u,Value.int d.2 u']:Array Value).size)=decide (c=d):=by
    show((List.range 2).all (fun j=>if j=0 then c.1==d.1 else c.2==d.2)&&true)=_;have:List.range 2=[0,1]:=rfl;rw[this];simp only[wO,List.all_nil,aJ,Bool.and_true];rw[tW];simp[Prod.ext_iff]
   rw[this] at key;exact key
  ·match j,j1,j2 with
   |0,_,_=>exact fun prog w E Q h=>rH h
   |1,_,_=>exact fun prog w E Q h=>rH h
   |j+2,j1,_=>exact absurd j1 (by simp)
theorem Q0{x y:Value}{c d:Cell}(hx:lE s.heap x c)(hy:lE s.heap y d)(hu:A.units<cLine):Yt A s x y (fJ c d):=by
 obtain⟨a,o,t,t',n,rfl,h2,h3,h4⟩:=hx.ex;obtain⟨b,o',u,u',m,rfl,g2,g3,g4⟩:=hy.ex;obtain⟨oc,od,of,os⟩:=o;obtain⟨oc',od',of',os'⟩:=o';dsimp only at h3 h4 g3 g4;subst h3 h4 g3 g4;intro prog w E Q q;refine Lk (op:=.Lt) ⟨_,h2,rfl⟩ ⟨_,g2,rfl⟩ PySem.F.slot_tuple_lt PySem.F.entry_tuple_lt (PySem.F.args_tuple_lt_2 _ _) (Wm a b c.1 c.2 d.1 d.2 t t' u u' n m od od' os os') ⟨h2,g2,?_⟩ hu;exact(show Value.bool (fJ c d)≠Value.notImplemented/\Q (.bool (fJ c d)) s from⟨(fun z=>nomatch z),q⟩)
theorem RL{prog:Program}{w:World}{E:Value->Shared->Prop}{x y:Value}{cs ds:List Cell}(hx:qw s.heap x cs)(hy:qw s.heap y ds)(hu:A.units+2<cLine){Q:Bool->Shared->Prop}(q:Q (llt cs ds) s):wpAny (model prog w) A (keyLt' oneType' x y) Q E s:=by
 obtain⟨a,o,us,n,rfl,h2,h3,h4,h5,h6⟩:=hx.ex;obtain⟨b,o',vs,m,rfl,g2,g3,g4,g5,g6⟩:=hy.ex;obtain⟨oc,od,of,os⟩:=o;obtain⟨oc',od',of',os'⟩:=o';dsimp only at h3 h4 g3 g4;subst h3 h4 g3 g4;rw[keyLt'_oneType,oneLt'_eq];simp only[uf];refine bN (wpAny_cRoomFor (by lia) ?_);refine bN (wpAny_callSpecialIfBound?_slot (T:="list") ⟨_,h2,rfl⟩ Vj (pN Vj ⟨_,h2,rfl⟩ PySem.F.entry_list_lt (PySem.F.args_list_lt_2 _ _) (RK a b us vs n m od od' os os' cs ds h5 g5) ⟨h2,g2,fun j j1 j2 j3 j4=>⟨OJ (h6 j j1 j3) (g6 j j2 j4) (by show A.units+1<cLine;lia),Q0 (h6 j j1 j3) (g6 j j2 j4) (by show A.units+1<cLine;lia)⟩,?_⟩));exact vg q
end
theorem Kd{P:Program}{w:World}{h:Heap}{us:List Value}{rs:List (List Cell)}(hl:us.length=rs.length)(at_:∀ i,i<rs.length->qw h (us.getD i Value.none) (rs.getD i [])):Mt P w h us llt fun i=>rs.getD i []:=by
 refine⟨fun h2=>⟨oneType',fun A' E' s' Q' kp q=>?_,fun A' s' i j C hu kp hi hj hC=>?_⟩⟩
 ·refine kas_kind (T:=.type "list") h2 (fun v hv=>?_) (by decide) (by decide) q;obtain⟨i,hi,rfl⟩:=Ly.mp hv;have:=at_ i (by lia);rw[fU,eZ hi] at this;obtain⟨a,o,us',n,e,h2,h3,_⟩:=this.ex;have e':us[i]=.ref a:=e;rw[e'];refine Looks.keeps ?_ kp;exact fun A Q E s k q=>wpAny_typeOf ⟨o,k _ _ h2,h3⟩ q
 ·exact RL ((at_ i (by lia)).keep kp) ((at_ j (by lia)).keep kp) hu hC
abbrev wA(cs:List Cell):Dt:=.lst (cs.map au)
theorem lE.det{h:Heap}{u:Value}{c d:Cell}(x:lE h u c)(y:lE h u d):c=d:=by
 obtain⟨a,o,t,t',n,rfl,h2,h3,h4⟩:=x.ex;obtain⟨b,o',v,v',m,e,g2,g3,g4⟩:=y.ex;cases e;rw[h2] at g2;cases g2;rw[h4] at g4;injection g4 with g5 _;have g6:[Value.int c.1 t,Value.int c.2 t']=[Value.int d.1 v,Value.int d.2 v']:=congrArg Array.toList g5;injection g6 with a1 a2;injection a2 with a2 _;injection a1 with a1 _;injection a2 with a2 _;exact jD a1 a2
theorem qw.det{h:Heap}{u:Value}{cs ds:List Cell}(x:qw h u cs)(y:qw h u ds):cs=ds:=by
 obtain⟨a,o,us,n,rfl,h2,h3,h4,h5,h6⟩:=x.ex;obtain⟨b,o',vs,m,e,g2,g3,g4,g5,g6⟩:=y.ex;cases e;rw[h2] at g2;cases g2;rw[h4] at g4;injection g4 with g5' _;subst g5';refine List.ext_getElem (by lia) fun i i1 i2=>?_
 exact(h6 i (by lia) i1).det (g6 i (by lia) i2)
section
variable{X:Cx}
theorem Xx{pins:List (Addr×Obj)}{zzs:L2.St}{H:Hp}{s:Shared}{v:V}{u:Value}{cs:List Cell}(I:Inv X pins zzs H s)(d:Den X.K H v (wA cs))(r:RelV v u):qw s.heap u cs:=by
 cases d with
 |@lst a xs _ h hs=>
  cases r;obtain⟨its,rv,⟨o,n,e1,e2,_,e3⟩,_⟩:=I.list h;have hl:its.length=cs.length:=by rw[<- rv.length,hs.length,aZ]
  refine⟨a,o,its.toArray,n,rfl,e1,e2,e3,by simpa using hl,fun j j1 j2=>?_⟩;have jv:j<xs.length:=by rw[rv.length,hl];exact j2
  obtain⟨u',eu,ru⟩:=rv.get (show xs[j]?=some xs[j] from by simp[jv]);obtain⟨d',ed,dd⟩:=hs.get (show xs[j]?=some xs[j] from by simp[jv]);rw[dG,eZ j2] at ed;cases ed;have e4:its.toArray[j]=u':=by
   rw[eZ (by omega)] at eu;simpa using iJ eu
  rw[e4];exact⟨lK I dd ru⟩
def QJ(rs:List (List Cell)):Prop:=rs.Pairwise fun a b=>llt b a=false
def Tt(K:ak):List V->Hp->VK->Prop:=fun xs H Q=>∃(p:Addr)(vs:List V)(rs:List (List Cell)),xs=[.ref p]/\SqL K H p vs/\aV K H vs (rs.map wA)/\∀(l:Addr)(o:List Nat),H l=none->o.Perm (List.range vs.length)->QJ (o.map fun i=>rs.getD i [])->Q (.ref l) (upd H l (.lst (o.map fun i=>vs.getD i .non)))
theorem Jr(hu:X.A.units+60<cLine):dX X (.builtin "sorted") (Tt X.K):=by
 intro pins s zzs H xs us Q I r h;obtain⟨p,vs,rs,rfl,hS,D,q⟩:=h;obtain⟨u,rfl,ru⟩:=vals1 r;cases ru;obtain⟨its,rv,pl,hz⟩:=I.list hS;have hl:its.length=rs.length:=by rw[<- rv.length,D.length,aZ]
 have hv:vs.length=its.length:=rv.length;have at_:∀ i,i<rs.length->qw s.heap (its.getD i Value.none) (rs.getD i []):=fun i hi=>by
  have hv':i<vs.length:=by lia
  obtain⟨u',eu,ru⟩:=rv.get (show vs[i]?=some vs[i] from by simp[hv']);obtain⟨d',ed,dd⟩:=D.get (show vs[i]?=some vs[i] from by simp[hv']);rw[dG,eZ hi] at ed;cases ed;rw[fU,eu,fU,eZ hi];exact Xx I dd ru
 have one:vH its fun i=>rs.getD i []:=fun i j hi hj e=>by
  have a1:=at_ i (by lia);have a2:=at_ j (by lia);rw[e] at a1;exact a1.det a2
 refine yJ uI one (by lia) (Kd hl at_) (by lia) pl.isList fun o g up=>?_
 obtain⟨e,he⟩:=sortedAll_at s.heap its (byP its o).toArray;have hn:H (s.heap.objs.size+1)=none:=I.hok.fresh (u9 _);have bd:∀ i∈o.toList,i<vs.length:=fun i hi=>by rw[hv];exact cH.mp (g.perm.mem_iff.mp hi)
 have rv':Vals (o.toList.map fun i=>vs.getD i .non) (byP its o):=yE rv o.toList bd;have pv:(o.toList.map fun i=>vs.getD i .non).Perm vs:=uM (by rw[hv];exact g.perm);have as:QJ (o.toList.map fun i=>rs.getD i []):=by
  unfold QJ;rw[sS];intro i j hi hj hij;rw[aZ,mD,g.size] at hi hj;have:=up.le uI (j-i) i (by lia);have e1:i+(j-i)=j:=by lia
  rw[e1] at this;have sz:=g.size;have a1:Ky (fun i=>rs.getD i []) o i=(o.toList.map fun i=>rs.getD i [])[i]:=by
   unfold Ky;rw[Bd,mY,jk (by lia)];rfl
  have a2:Ky (fun i=>rs.getD i []) o j=(o.toList.map fun i=>rs.getD i [])[j]:=by
   unfold Ky;rw[Bd,mY,jk (by lia)];rfl
  rw[<- a1,<- a2];exact this
 have hz':(o.toList.map fun i=>vs.getD i .non).length<=sizeLine:=by rw[pv.length_eq];exact hz
 exact⟨.ref (s.heap.objs.size+1),upd H (s.heap.objs.size+1) (.lst (o.toList.map fun i=>vs.getD i .non)),I.laid (a:=s.heap.objs.size+1) (o:=.lst (o.toList.map fun i=>vs.getD i .non)) (t':=s.toks) (fun b o q=>sortedAll_old q) (u9 _) ⟨hz',byP its o,e,rv',he⟩,rfl,q _ _ hn (by rw[hv];exact g.perm) as⟩
theorem Wc{K:ak}(hu:X.A.units+60<cLine)(hK:X.K=K:=by rfl):dX X (.builtin "sorted") (Tt K):=by subst hK;exact Jr hu
theorem Mw{α:Type}{lt:α->α->Bool}(o:jF lt):∀ {xs ys:List α},xs.Perm ys->xs.Pairwise (fun a b=>lt b a=false)->ys.Pairwise (fun a b=>lt b a=false)->xs=ys
 |[],ys,p,_,_=>by rw[List.nil_perm.mp p]
 |x::xs,[],p,_,_=>absurd p.length_eq (by simp)
 |x::xs,y::ys,p,hx,hy=>by
  rw[rF] at hx hy;have e:x=y:=by
   have h1:x∈y::ys:=p.mem_iff.mp cZ;have h2:y∈x::xs:=p.mem_iff.mpr cZ;rcases cW.mp h1 with z|z
   ·exact z
   ·rcases cW.mp h2 with w|w
    ·exact w.symm
    ·exact o.anti _ _ (hy.1 x z) (hx.1 y w)
  subst e;rw[Mw o ((List.perm_cons x).mp p) hx.2 hy.2]
end
inductive gR{α:Type}(R:α->V->Hp->Prop)(H:Hp):List V->List α->Prop
 |nil:gR R H [] []
 |cons {v:V} {a:α} {vs:List V} {xs:List α} (h:R a v H) (t:gR R H vs xs):gR R H (v::vs) (a::xs)
section
variable{α β:Type}{R:α->V->Hp->Prop}{R2:β->V->Hp->Prop}{H H':Hp}
def BX(R:α->V->Hp->Prop):Prop:=∀ a v H H',Same H H'->R a v H->R a v H'
theorem gR.mono(hR:BX R)(s:Same H H'):∀ {vs:List V} {xs:List α},gR R H vs xs->gR R H' vs xs:=by
 intro vs xs h
 induction h with
 |nil=>exact .nil
 |cons h _ ih=>exact .cons (hR _ _ _ _ s h) ih
theorem gR.length:∀ {vs:List V} {xs:List α},gR R H vs xs->vs.length=xs.length
 |_,_,.nil=>rfl
 |_,_,.cons _ t=>by rw[fX,fX,t.length]
theorem gR.append:∀ {vs ws:List V} {xs ys:List α},gR R H vs xs->gR R H ws ys->gR R H (vs++ws) (xs++ys):=by
 intro vs ws xs ys h h2
 induction h with
 |nil=>exact h2
 |cons h _ ih=>exact .cons h ih
theorem gR.get:∀ {vs:List V} {xs:List α} {i:Nat} {v:V},gR R H vs xs->vs[i]?=some v->∃ a,xs[i]?=some a/\R a v H
 |_,_,i,v,.nil,h=>by simp at h
 |_,_,0,v,.cons h t,e=>by simp at e;exact⟨_,rfl,by rw[<- e];exact h⟩
 |_,_,i+1,v,.cons h t,e=>by simp at e;obtain⟨a,ea,r⟩:=t.get e;exact⟨a,by simpa using ea,r⟩
theorem gR.imp{R':α->V->Hp->Prop}(f:∀ a v,R a v H->R' a v H'):∀ {vs:List V} {xs:List α},gR R H vs xs->gR R' H' vs xs:=by
 intro vs xs h
 induction h with
 |nil=>exact .nil
 |cons h _ ih=>exact .cons (f _ _ h) ih
theorem gR.a0I{K:ak}{enc:α->Dt}(f:∀ a v,R a v H->Den K H v (enc a)):∀ {vs:List V} {xs:List α},gR R H vs xs->aV K H vs (xs.map enc):=by
 intro vs xs h
 induction h with
 |nil=>exact .nil
 |cons h _ ih=>exact .cons (f _ _ h) ih
theorem gR.by{d0:α}:∀ {vs:List V} {xs:List α} (o:List Nat),gR R H vs xs->(∀ i∈o,i<vs.length)->gR R H (o.map fun i=>vs.getD i .non) (o.map fun i=>xs.getD i d0)
 |vs,xs,[],_,_=>.nil
 |vs,xs,i::o,h,hb=>by
  have hi:=hb i cZ;obtain⟨a,ea,r⟩:=h.get (eZ hi);rw[dM,dM];refine .cons ?_ (h.by o fun j hj=>hb j (f9 _ hj));rw[fU,fU,eZ hi,ea];exact r
theorem yU{J:It}{vs:List V}{xs:List α}{tc:TT}{te:TE}{zzs:St}{fin:List V->Hp->Prop}(hR:BX R)(hR2:BX R2)(hJ:qm J H vs)(hx:gR R H vs xs)(hn:xs.length<=sizeLine)(p:α->Bool)(f:α->β)
  (ht:∀ a∈xs,∀ v H',Same H H'->R a v H'->∀ G:Bool->Hp->Prop,(∀ H'',Same H' H''->G (p a) H'')->tc (some v::zzs) H' G)
  (hf:∀ a∈xs,p a=true->∀ v H',Same H H'->R a v H'->∀ G:VK,(∀ y H'',Same H' H''->R2 (f a) y H''->G y H'')->te (some v::zzs) H' G)
  (hd:∀ ys H',Same H H'->gR R2 H' ys ((xs.filter p).map f)->fin ys H'):∃ W:Nat->Nat->List V->Hp->Prop,(∃ m,W 0 m [] H)/\pO J tc te zzs fin W:=by
 have hlv:vs.length=xs.length:=hx.length;refine DX (n:=vs.length) (item:=fun i=>vs.getD i .non) (fun i ys H'=>Same H H'/\gR R2 H' ys (((xs.take i).filter p).map f)) (by rw[hlv];exact hn) (fun i ys H' hi r=>hJ.go H' i r.1 hi) (fun i ys H' v H'' hi r y=>?_) (fun ys H' r=>hJ.stop H' r.1)
  (fun i ys H' hi r=>?_) ⟨Same.refl _,.nil⟩ (fun i ys H' hi r G hG=>?_) (fun ys H' r=>?_)
 ·obtain⟨e,e'⟩:=hJ.yld H' i v H'' r.1 hi y;exact⟨by rw[fU,e];rfl,e'⟩
 ·rw[r.2.length,aZ];exact dN (jL _ _) (by rw[sU];exact Nat.min_le_left _ _)
 ·obtain⟨s1,D⟩:=r;have hi':i<xs.length:=by lia
  have ev:vs[i]?=some (vs.getD i .non):=by simp[fU,hi]
  obtain⟨d,ed,dv⟩:=hx.get ev;have ea:d=xs[i]:=by
   rw[eZ hi'] at ed;exact(iJ ed).symm
  subst ea;have tk:xs.take (i+1)=xs.take i++[xs[i]]:=by rw[kI,eZ hi'];rfl
  refine ht xs[i] (pZ hi') _ H' s1 (hR _ _ _ _ s1 dv) _ fun H2 s2=>?_
  cases hp:p xs[i] with
  |false=>
   refine qJ (hG _ _ ⟨s1.trans s2,?_⟩);rw[tk,Br,show List.filter p [xs[i]]=[] by simp[hp],rJ];exact D.mono hR2 s2
  |true=>
   refine BJ (hf xs[i] (pZ hi') hp _ H2 (s1.trans s2) (hR _ _ _ _ (s1.trans s2) dv) _ fun y H3 s3 dy=>hG _ _ ⟨(s1.trans s2).trans s3,?_⟩);rw[tk,Br,show List.filter p [xs[i]]=[xs[i]] by simp[hp],eE];exact(D.mono hR2 (s2.trans s3)).append (.cons dy .nil)
 ·rw[hlv,kE] at r;exact hd ys H' r.1 r.2
theorem Om{J:It}{vs:List V}{xs:List α}{te:TE}{zzs:St}{fin:List V->Hp->Prop}(hR:BX R)(hR2:BX R2)(hJ:qm J H vs)(hx:gR R H vs xs)(hn:xs.length<=sizeLine)(f:α->β)
  (hf:∀ a∈xs,∀ v H',Same H H'->R a v H'->∀ G:VK,(∀ y H'',Same H' H''->R2 (f a) y H''->G y H'')->te (some v::zzs) H' G)
  (hd:∀ ys H',Same H H'->gR R2 H' ys (xs.map f)->fin ys H'):∃ W:Nat->Nat->List V->Hp->Prop,(∃ m,W 0 m [] H)/\pO J KD te zzs fin W:=
 yU hR hR2 hJ hx hn (fun _=>true) f (fun a _ v H' _ _ G hG=>hG H' (Same.refl _)) (fun a ha _=>hf a ha) fun ys H' s D=>hd ys H' s (by rw[LR.mpr (fun _ _=>rfl)] at D;exact D)
end
def del(q:Addr)(H:Hp):Hp:=fun b=>if b=q then none else H b
theorem lM{q b:Addr}{H:Hp}(n:b≠q):del q H b=H b:=aG n
theorem yZ{q:Addr}{H:Hp}:Same (del q H) H:=fun b o e=>by
 unfold del at e;by_cases h:b=q
 ·rw[aJ h] at e;cases e
 ·rwa[aG h] at e
theorem SameBut.del{q:Addr}{H H':Hp}(s:SameBut q H H'):Same (L2.del q H) (L2.del q H'):=fun b o e=>by
 by_cases h:b=q
 ·subst h;unfold L2.del at e;rw[aJ rfl] at e;cases e
 ·rw[lM h] at e ⊢;exact s _ _ e h
theorem Same.into{q:Addr}{H H':Hp}(s:Same H H')(n:H q=none):Same H (L2.del q H'):=fun b o e=>by
 rw[lM (aQ e n)];exact s _ _ e
section
variable{K:ak}{q:Addr}{H:Hp}{l:List V}
theorem VJ:SameBut q H (del q H):=fun b o e n=>by rw[lM n];exact e
theorem vQ{p:Addr}{cs:List Cell}(hq:H q=some (.lst l))(n:p≠q)(h:Ls K H p (cs.map au)):Ls K (del q H) p (cs.map au):=VJ.ls hq n h
end
def mH(K:ak)(H0:Hp)(r:List Cell)(v:V)(H:Hp):Prop:=∃ a,v=.ref a/\H0 a=none/\Ls K H a (r.map au)
theorem mH.stays{K:ak}{H0:Hp}:BX (mH K H0):=fun r v H H' s h=>by
 obtain⟨a,e,n,l⟩:=h;exact⟨a,e,n,l.mono s⟩
theorem mH.den{K:ak}{H0 H:Hp}{r:List Cell}{v:V}(h:mH K H0 r v H):Den K H v (wA r):=by
 obtain⟨a,rfl,n,l⟩:=h;exact l.den
theorem Og{K:ak}{H:Hp}:∀ {vs:List V} {cs ds:List Cell},aV K H vs (cs.map au)->aV K H vs (ds.map au)->cs=ds:=by
 intro vs cs ds D D'
 induction cs generalizing vs ds with
 |nil=>cases D;cases ds with|nil=>rfl|cons _ _=>cases D'
 |cons c cs ih=>
  cases ds with
  |nil=>cases D';cases D
  |cons d ds=>
  cases D with
  |cons h t=>
  cases D' with
  |cons h' t'=>
  obtain⟨a,rfl,_,e⟩:=cV h;obtain⟨b,e1,_,e'⟩:=cV h';cases e1;rw[e] at e';injection e' with e';injection e' with e';injection e' with e1 e2;injection e2 with e2 _;injection e1 with e1;injection e2 with e2;rw[ih t t',show c=d from jD e1 e2]
theorem mH.det{K:ak}{H0 H:Hp}{r r':List Cell}{v:V}(h:mH K H0 r v H)(h':mH K H0 r' v H):r=r':=by
 obtain⟨a,rfl,n,xs,e,D⟩:=h;obtain⟨b,e1,n',xs',e',D'⟩:=h';cases e1;rw[e] at e';cases e';exact Og D D'
section
variable{P:Program}{w:World}{K:ak}{mg:Str->Option Value}{base:Heap}{N:List Str}{qual:Str}{scope:Scope}{f:Addr}{cd:Value}{A:Around}{outer:List Env}{s0:Shared}{H0:Hp}{E:XK}
theorem Er:Passes (CXE P w) (qd (CXE P w) P w K mg base N qual scope f cd A outer s0 H0 E) E:=by
 rintro pins zzs H s e s' I ⟨ea,C,H',rfl,hos,hg,u2,hok,fly,hE⟩;obtain⟨B,t,fw,Bk⟩:=fly.fl;have Z5:∀ b,b∈frs (envOfC qual scope s0.heap.objs.size f cd::outer)->b=s0.heap.objs.size\/b∈frs outer:=fun b hb=>cW.mp (I.tR b hb)
 have sub:∀ b∈frs outer,b∈frs (envOfC qual scope s0.heap.objs.size f cd::outer):=fun b hb=>by
  obtain⟨x,hx,e⟩:=Az.mp hb;exact Az.mpr ⟨x,f9 _ hx,e⟩
 show wpAny (model P w) (A.deeper (envOfC qual scope s0.heap.objs.size f cd)) (leaving (envOfC qual scope s0.heap.objs.size f cd) (.ref ea)) (fun _ s''=>CXE P w outer H0 s0 E (.ref ea) s'') (fun e' s''=>CXE P w outer H0 s0 E e' s'') s';refine wpAny_leaves_onW I.ok.frames rfl fw fun h' fw' sm=>?_
 have u1:Un (frs outer) [] H0 H s0.heap s.heap:=I.base;have u:Un (frs (envOfC qual scope s0.heap.objs.size f cd::outer)) [] H0 H' s0.heap s'.heap:=(u1.mono sub fun _ z=>z).trans u2;have nx:∀ b:Addr,b∉([]:List Addr):=fun b=>by simp
 have Q7:∀ b o,s0.heap.get? b=some o->b∉frs outer->b∉frs (envOfC qual scope s0.heap.objs.size f cd::outer):=fun b o q n hb=>by
  rcases Z5 b hb with z|z
  ·exact fZ (bR q) z
  ·exact n z
 have fu:∀ b o,s'.heap.get? b=some o->(H' b≠none\/∃ o',s.heap.get? b=some o')->b∉frs (envOfC qual scope s0.heap.objs.size f cd::outer)->h'.get? b=some o:=fun b o q hb n=>fw'.1 b o (Bk b o q hb n)
 have frm:∀ b,b∈frs (envOfC qual scope s0.heap.objs.size f cd::outer)->H' b=none/\∃ o,s'.heap.get? b=some o/\∀ ws,o.data≠.fields ws:=fun b hb=>by
  obtain⟨_,o,ho,hd⟩:=I.stack.mem hb;have hn:=I.uZ b hb;obtain⟨sl,e2⟩:=u2.slot b o ho hn hb (nx b);exact⟨u2.free b o ho hn (nx b),_,e2,hd⟩
 refine⟨ea,C,H',rfl,hos.trans I.os,hg,⟨fun b o q n hb _=>?_,fun b o q n hb _=>?_,fun b o q n _=>u.free b o q n (nx b),fun b o q _=>?_,u.tups,u.qH,u.sI⟩,fun a o q=>?_,⟨fly.free,?_,B,t,fw',fun b o q hb n=>?_⟩,hE⟩
 ·obtain⟨o1,e1⟩:=u1.there b o q (nx b);exact fu b o (u.keep b o q n (Q7 b o q hb) (nx b)) (.inr ⟨o1,e1⟩) (Q7 b o q hb)
 ·obtain⟨sl,e2⟩:=u.slot b o q n (sub b hb) (nx b);obtain⟨_,o2,eo,hd⟩:=frm b (sub b hb);rw[e2] at eo;cases eo;obtain⟨sl',e3⟩:=sm b _ e2 hd;exact⟨sl',e3⟩
 ·by_cases hb:b∈frs (envOfC qual scope s0.heap.objs.size f cd::outer)
  ·obtain⟨_,o2,eo,hd⟩:=frm b hb;obtain⟨sl',e3⟩:=sm b _ eo hd;exact⟨_,e3⟩
  ·obtain⟨o1,e1⟩:=u1.there b o q (nx b);obtain⟨o2,e2⟩:=u.there b o q (nx b);exact⟨o2,fu b o2 e2 (.inr ⟨o1,e1⟩) hb⟩
 ·refine(hok a o q).stay (fun b v hb z=>fu b v z (.inl ?_) ?_) (fun _ z=>z) fun _ _ z=>z
  ·rcases hb with rfl|hb
   ·rw[q];exact fun z=>by cases z
   ·rw[hb];exact fun z=>by cases z
  ·intro y;have:=(frm b y).1;rcases hb with rfl|hb
   ·rw[q] at this;cases this
   ·rw[hb] at this;cases this
 ·cases q:s0.heap.get? ea with
  |none=>rfl
  |some o=>
   obtain⟨ob,z⟩:=u1.there ea o q (nx ea);rw[fly.new] at z;cases z
 ·have key:∃ o',s'.heap.get? b=some o'/\(H' b≠none\/∃ o',s.heap.get? b=some o')/\b∉frs (envOfC qual scope s0.heap.objs.size f cd::outer):=by
   rcases hb with z|⟨o',z⟩
   ·cases r:H' b with
    |none=>exact absurd r z
    |some v=>
     obtain⟨ob,y⟩:=(hok b v r).there;exact⟨ob,y,.inl (fun z=>by cases z),fun hb=>by have:=(frm b hb).1;rw[r] at this;cases this⟩
   ·obtain⟨o1,e1⟩:=u1.there b o' z (nx b);obtain⟨o2,e2⟩:=u.there b o' z (nx b);exact⟨o2,e2,.inr ⟨o1,e1⟩,Q7 b o' z n⟩
  obtain⟨o',y,h1,h2⟩:=key;have:=fu b o' y h1 h2;rw[q] at this;cases this;exact Bk b _ y h1 h2
end
end L2
namespace L2
open PySem PySem.Spec PyProof.Rows PySem.SeqAt
open PySem.AutoSeq1 (wpAny_loadPart')
section
variable{X:Cx}{K:ak}
theorem Pb(l b:Addr)(us ws:Array Value)(n m:Nat)(sl:Array (Option Value))(h0:¬(!us.isEmpty&&Builtin.List.listTooLong (us.size+ws.size))=true)(h1:us.size<=sizeLine)(h2:us.size+ws.size<=sizeLine+1) :
  Meets (Builtin.«list.extend» ⟨[.ref l,.ref b],[]⟩) (fun _ R s=>s.heap.get? l=some { cls:=.type "list",dict:=none,data:=.seq us n,slots:=#[] }/\s.heap.get? b=some { cls:=.type "list",dict:=none,data:=.seq ws m,slots:=sl }/\R (.ok (.ret .none)) { s with heap:=s.heap.update l (Obj.mapSeq fun x=>x++ws),toks:=s.toks }):=by
 refine .of_wp fun prog w A R s h=>?_
 obtain⟨hp,g,d,tk,os⟩:=s;obtain⟨el,eb,h⟩:=h;have f1:=AutoSeq1.idx_int;have f3:=AutoSeq1.sub_list_list;have hz:(us++ws).size<=sizeLine+1:=by rw[Array.size_append];exact h2
 wp_walk using (wpAny_updateSeq el rfl (hz:=h1) (_hz':=hz)),wpAny_loadPart' el,wpAny_loadPart' eb
 exact⟨_,rfl,h⟩
def Tn(K:ak):V->List V->Hp->VK->Prop:=fun x vs H Q=>∃ l b xs zs,x=.ref l/\vs=[.ref b]/\H l=some (.lst xs)/\SqL K H b zs/\xs.length+zs.length<=sizeLine/\Q .non (upd H l (.lst (xs++zs)))
theorem Ru(hK:X.K=K:=by rfl):MtM X "list.extend" (Tn K):=by
 subst hK;intro pins s zzs H x vs v us Q I rx rv h;obtain⟨l,b,xs,zs,rfl,rfl,hH,hB,hz,q⟩:=h;cases rx;obtain⟨u,rfl,ru⟩:=rv.one;cases ru;obtain⟨z,its,n,r,hl,e⟩:=I.HS hH;obtain⟨its2,r2,⟨o,n2,e2,c2,d2,s2⟩,_⟩:=I.list hB;have l1:=r.length;have l2:=r2.length;obtain⟨cls,dd,data,sl⟩:=o;dsimp only at c2 d2 s2;subst c2 d2 s2;have hsz:its.toArray.size+its2.toArray.size<=sizeLine:=by rw[cI,cI];lia
 have Hx:¬(!its.toArray.isEmpty&&Builtin.List.listTooLong (its.toArray.size+its2.toArray.size))=true:=by
  rw[zN hsz,rD];exact fH
 refine pN F.slot_list_extend ⟨_,e,rfl⟩ F.entry_list_extend (F.args_list_extend_2 _ _) (Pb l b its.toArray its2.toArray n n2 sl Hx (by rw[cI];lia) (by lia)) ⟨e,e2,?_⟩;refine⟨.non,_,I.Wj (its':=its++its2) hH e (by simp) (r.append r2) ?_,rfl,q⟩;rw[cC];omega
end
end L2
namespace L2
open PySem PySem.Spec PyProof.Rows
def Rh(K:ak)(C C':Addr):Bool:=match K.lookup C with
 |some ⟨.type "type",_,.cls cd,_⟩=>cd.mro.contains (.ref C')
 |_=>false
section
variable{X:Cx}
def Uk(K:ak)(C':Addr)(ts:TS)(th:Addr->TS):Addr->TS:=fun C D zzs H=>
 (((C=C'\/Rh K C C'=true)/\iQ K C)/\ts { nx:=fun _ _=>False,rt:=D.rt } zzs H)\/(C≠C'/\iQ K C/\N5 K C C'=true/\th C D zzs H)
theorem X7{x:Str}{np hpos:Pos}{b₀:Stmt}{suite:List Stmt}{rest:List ExceptHandler}{C':Addr}{ts:TS}{th:Addr->TS}
  (hg:Gl X x) (hm:X.mg x=some (.ref C')) (c':iQ X.K C') (hs:∀ ea,PSs (sZ X ea) (b₀::suite) ts) (hr:PH X rest th) (hd:(x==("__debug__" : Str))=false:=by decide) :
  PH X (.ExceptHandler (some (.Name x np)) none (b₀::suite) hpos::rest) (Uk X.K C' ts th):=by
 intro pins zzs H ea C s D a h;have I:=a.inv;refine wpAny_handleBy_cons (codeAny_handlers_test ?_) (by intro q;cases q);refine uH (X:=sZ X ea) (I.hand ea) hg hm ?_ hd;obtain⟨ob,hob,hcls⟩:=a.obj;obtain⟨tl',Na',nm',q',bs',a2R,sn',sub',ab',col',dd',k0',k1',k2',k3',k5',mN',hC',hN2,a2W,T'⟩:=c'.obj I.kIn;have hcB:(Value.ref C'::tl').contains (.type "BaseException")=true:=by rw[List.contains_cons,T'.hasType Fp.hasBase,Mr]
 have f:=tc_notTuple;rcases h with⟨⟨hit,c⟩,h⟩|⟨hne,c,hmiss,h⟩
 ·obtain⟨tl,Na,nm,q,bs,hdct,sn,sub,ab,col,dd,k0,k1,k2,k3,k5,mN,hC,hN',hni,T⟩:=c.obj I.kIn;obtain⟨hp,g,d,tk,os⟩:=s;have hit':(Value.ref C::tl).contains (.ref C')=true:=by
   rcases hit with rfl|hit
   ·simp
   unfold Rh at hit;split at hit
   ·rename_i dd2 cd2 sl2 ho;have e:=I.kIn _ _ ho;have e2:hp.get? C=some ⟨.type "type",dd2,.cls cd2,sl2⟩:=e;rw[hC] at e2;unfold excClassObj at e2;cases e2;simpa using hit
   ·cases hit
  have key:∀ Q:Bool->Shared->Prop,Q true ⟨hp,g,d,tk,os⟩->wpAny (model X.prog X.w) (sZ X ea).A (excMatches (.ref ea) (.ref C')) Q (notedBy (model X.prog X.w) (X.A.mark (some (.ref ea))) X.env (cameBackBy (model X.prog X.w) X.A X.env X.xe)) ⟨hp,g,d,tk,os⟩:=fun Q hq=>by
   unfold excMatches
   repeat (first|(with_reducible refine Ga hob ?_;rw[hcls])|with_reducible refine Ga hC' ?_|(with_reducible refine FJ hC' ?_;rw[hcB])|(with_reducible refine FJ hC ?_;rw[hit'])|wp_step)
   exact hq
  refine key _ ?_;show codeAny _ _ _ _ _;refine codeAny_handlers_suite (a.again fun h' a'=>?_);have J:=a'.inv.hand ea;refine jw (hs ea pins _ _ _ { nx:=fun _ _=>False,rt:=D.rt } J h) (fun f s3 q3=>?_) fun _ _ z=>False.elim z
  cases f with
  |next=>obtain⟨_,_,_,z⟩:=q3;exact False.elim z
  |brk=>obtain⟨_,_,_,z⟩:=q3;exact False.elim z
  |cont=>obtain⟨_,_,_,z⟩:=q3;exact False.elim z
  |ret u=>
   obtain⟨v,bH,H'',J3,rv,q⟩:=q3;exact⟨v,bH,H'',J3.a0t I.ok,rv,q⟩
 ·obtain⟨tl,Na,nm,q,bs,hdct,sn,sub,ab,col,dd,k0,k1,k2,k3,k5,mN,hC,hN',hni,T⟩:=c.obj I.kIn;obtain⟨hp,g,d,tk,os⟩:=s;have miss:(Value.ref C::tl).contains (.ref C')=false:=by
   unfold N5 at hmiss;split at hmiss
   ·rename_i dd2 cd2 sl2 ho;have e:=I.kIn _ _ ho;have e2:hp.get? C=some ⟨.type "type",dd2,.cls cd2,sl2⟩:=e;rw[hC] at e2;unfold excClassObj at e2;cases e2;simpa using hmiss
   ·cases hmiss
  have key:∀ Q:Bool->Shared->Prop,Q false ⟨hp,g,d,tk,os⟩->wpAny (model X.prog X.w) (sZ X ea).A (excMatches (.ref ea) (.ref C')) Q (notedBy (model X.prog X.w) (X.A.mark (some (.ref ea))) X.env (cameBackBy (model X.prog X.w) X.A X.env X.xe)) ⟨hp,g,d,tk,os⟩:=fun Q hq=>by
   unfold excMatches
   repeat (first|(with_reducible refine Ga hob ?_;rw[hcls])|with_reducible refine Ga hC' ?_|(with_reducible refine FJ hC' ?_;rw[hcB])|(with_reducible refine FJ hC ?_;rw[miss])|wp_step)
   exact hq
  refine key _ ?_;exact hr pins zzs H ea C _ D a h
theorem Xu{x:Str}{np hpos:Pos}{b₀:Stmt}{suite:List Stmt}{hrest:List ExceptHandler}{C':Addr}{ts:TS}{th:Addr->TS}(hg:Gl X x)(hm:X.mg x=some (.ref C'))(c':iQ X.K C')(hs:∀ ea,RSs (sZ X ea) (b₀::suite) ts)(hr:RH X hrest th) (hd:(x==("__debug__" : Str))=false:=by decide) :
  RH X (.ExceptHandler (some (.Name x np)) none (b₀::suite) hpos::hrest) (Uk X.K C' ts th):=⟨X7 hg hm c' (fun ea=>(hs ea).ok) hr.ok hd⟩
end
abbrev Cx.pinned(X:Cx)(pn:List (Addr×Obj))(E:Value->Shared->Prop):Cx:={ X with pn:=pn,xe:=E }
section
variable{X:Cx}{pins:List (Addr×Obj)}{zzs:St}{H:Hp}{s:Shared}{E:Value->Shared->Prop}
theorem Cx.Ok.pinned(ok:X.Ok)(pn:List (Addr×Obj))(E:Value->Shared->Prop):(X.pinned pn E).Ok:=
 ⟨ok.mod,ok.kind,ok.glob,ok.blt,ok.above,ok.inj,ok.has,ok.cab,ok.hd,ok.frames,ok.stk,ok.exf,ok.bs,ok.bsz,ok.JT,ok.P0,ok.tu,ok.frf⟩
theorem Inv.look(I:Inv X pins zzs H s)(E:Value->Shared->Prop):Inv (X.pinned (X.pn++pins) E) [] zzs H s:=
 ⟨I.ok.pinned _ E,I.os,I.bare,I.base,I.loc,I.cell,I.free,I.lO,fun p hp=>I.pin p (by rw[rJ] at hp;exact hp),I.hok,I.len⟩
theorem Inv.tU{Ij:List (Addr×Obj)}(ok:X.Ok)(I:Inv (X.pinned (X.pn++pins) E) Ij zzs H s):Inv X pins zzs H s:=
 ⟨ok,I.os,I.bare,I.base,I.loc,I.cell,I.free,I.lO,fun p hp=>I.pin p (fW _ hp),I.hok,I.len⟩
theorem SP.tU{D:Ends}{f:Flow}{s':Shared}(ok:X.Ok)(h:SP (X.pinned (X.pn++pins) E) [] D f s'):SP X pins D f s':=by
 cases f with
 |next=>obtain⟨bH,H',I,q⟩:=h;exact⟨bH,H',I.tU ok,q⟩
 |brk=>obtain⟨bH,H',I,q⟩:=h;exact⟨bH,H',I.tU ok,q⟩
 |cont=>obtain⟨bH,H',I,q⟩:=h;exact⟨bH,H',I.tU ok,q⟩
 |ret u=>obtain⟨v,bH,H',I,r,q⟩:=h;exact⟨v,bH,H',I.tU ok,r,q⟩
def Ys(tb:XK->TS)(th:Addr->TS):TS:=fun D zzs H=>tb (fun c _ H'=>∃ C,c=.ref C/\∀ bH,th C D bH H') D zzs H
theorem Xf{body:List Stmt}{h₀:ExceptHandler}{hs:List ExceptHandler}{pos:Pos}{tb:XK->TS}{th:Addr->TS}(hst:X.stack=X.env::X.outer)(hfr:X.env.frame=some X.env.locals)
  (hb:∀(pn:List (Addr×Obj))(xe:Value->Shared->Prop)(E:XK),PassesOwn (model X.prog X.w) X.A X.env xe->Passes (CXE X.prog X.w) (X.pinned pn xe) E->PSs (X.pinned pn xe) body (tb E)) (hh:PH X (h₀::hs) th) :
  PS X (.Try body (h₀::hs) [] [] pos) (Ys tb th):=by
 intro pins s zzs H D I h;refine wpAny_Try_except ?_;refine jw (hb (X.pn++pins) _ _ PassesOwn.looking ?_ [] s zzs H D (I.look _) h) (fun f s1 q=>?_) fun ev s1 q=>q
 ·intro Ij bH H1 s2 e s1 I2 hx;obtain⟨ea,C,H',rfl,os,bare,un,hok,fly,C',e,th'⟩:=hx;cases e;have I2':Inv X pins bH H1 s2:=I2.tU I.ok;obtain⟨B,t,fl,KB⟩:=fly.fl;have fl0:=fl;rw[show(X.pinned (X.pn++pins) _).stack=X.stack from rfl,hst] at fl0;refine wpAny_looks_onW (by rw[<- hst];exact I2'.ok.frames) hfr fl0 fun h4 held sm4=>?_
  refine wpAny_landsW held fun h5 fl5 sm5=>?_
  rw[<- hst] at fl5;exact hh pins bH H' ea C _ D ⟨H1,s2,s1,B,t,I2',os,un,hok,KB,fl5,sm4.trans sm5,rfl,bare,fly.new,fly.free⟩ (th' bH)
 ·have q':=SP.tU (pins:=pins) I.ok q;cases f with
  |next=>exact Bf q'
  |ret v=>exact q'
  |brk=>exact q'
  |cont=>exact q'
theorem Xy{body:List Stmt}{h₀:ExceptHandler}{hs:List ExceptHandler}{pos:Pos}{tb:XK->TS}{th:Addr->TS}(hst:X.stack=X.env::X.outer)(hfr:X.env.frame=some X.env.locals)
  (hb:∀(pn:List (Addr×Obj))(xe:Value->Shared->Prop)(E:XK),PassesOwn (model X.prog X.w) X.A X.env xe->Passes (CXE X.prog X.w) (X.pinned pn xe) E->RSs (X.pinned pn xe) body (tb E)) (hh:RH X (h₀::hs) th) :
  RS X (.Try body (h₀::hs) [] [] pos) (Ys tb th):=⟨Xf hst hfr (fun pn xe E h1 h2=>(hb pn xe E h1 h2).ok) hh.ok⟩
end
end L2
namespace My
abbrev zzR(a:PySem.Addr):Option L2.V:=some (.ref a)
abbrev zzI(n:Int):Option L2.V:=some (.int n)
abbrev zzN:Option L2.V:=none
open PySem L2
def top(i:Nat):Stmt:=PySem.Challenge.pw_dampfield_k12_whole_sure_is_true_and_sta.main.body.getD i (.Pass ⟨0,0,0,0⟩)
abbrev Ae:Stmt:=top 13
theorem Qv:aY ["row","width"] ["row","width"] (aK Ae):=⟨rfl,rfl,rfl,by decide +kernel,rfl,by decide +kernel,by decide +kernel⟩
abbrev wF:Stmt:=top 14
theorem Km:aY ["height","width"] ["height","width"] (aK wF):=⟨rfl,rfl,rfl,by decide +kernel,rfl,by decide +kernel,by decide +kernel⟩
abbrev wG:Stmt:=top 15
theorem Ko:aY ["rows"] ["rows"] (aK wG):=⟨rfl,rfl,rfl,by decide +kernel,rfl,by decide +kernel,by decide +kernel⟩
abbrev jT:Stmt:=inClass (top 16) 0
theorem wJ:aY ["self","rows"] ["self","rows"] (aK jT):=⟨rfl,rfl,rfl,by decide +kernel,rfl,by decide +kernel,by decide +kernel⟩
abbrev tM:Stmt:=top 17
theorem Iz:aY ["view","cell"] ["view","cell"] (aK tM):=⟨rfl,rfl,rfl,by decide +kernel,rfl,by decide +kernel,by decide +kernel⟩
abbrev qT:Stmt:=top 18
theorem Fd:aY ["view","cell"] ["view","cell"] (aK qT):=⟨rfl,rfl,rfl,by decide +kernel,rfl,by decide +kernel,by decide +kernel⟩
abbrev Ad:Stmt:=top 19
theorem Qu:aY ["view","cell"] ["view","cell"] (aK Ad):=⟨rfl,rfl,rfl,by decide +kernel,rfl,by decide +kernel,by decide +kernel⟩
abbrev Ez:Stmt:=top 20
theorem uR:aY ["view","found","row","column"] ["view"] (aK Ez):=⟨rfl,rfl,rfl,by decide +kernel,rfl,by decide +kernel,by decide +kernel⟩
abbrev Kg:Stmt:=top 21
theorem yC:aY ["view","cell","found","row","column"] ["view","cell"] (aK Kg):=⟨rfl,rfl,rfl,by decide +kernel,rfl,by decide +kernel,by decide +kernel⟩
abbrev nu:Stmt:=top 22
theorem Ag:aY ["view","cell"] ["view","cell"] (aK nu):=⟨rfl,rfl,rfl,by decide +kernel,rfl,by decide +kernel,by decide +kernel⟩
abbrev qW:Stmt:=top 23
theorem Fe:aY ["view","cell"] ["view","cell"] (aK qW):=⟨rfl,rfl,rfl,by decide +kernel,rfl,by decide +kernel,by decide +kernel⟩
abbrev Ac:Stmt:=top 24
theorem Qt:aY ["view"] ["view"] (aK Ac):=⟨rfl,rfl,rfl,by decide +kernel,rfl,by decide +kernel,by decide +kernel⟩
abbrev Kf:Stmt:=top 25
theorem Xz:aY ["view"] ["view"] (aK Kf):=⟨rfl,rfl,rfl,by decide +kernel,rfl,by decide +kernel,by decide +kernel⟩
abbrev TY:Stmt:=top 26
theorem a0p:aY ["view"] ["view"] (aK TY):=⟨rfl,rfl,rfl,by decide +kernel,rfl,by decide +kernel,by decide +kernel⟩
abbrev qU:Stmt:=top 27
theorem uT:aY ["view","laying","place"] ["view","laying"] (aK qU):=⟨rfl,rfl,rfl,by decide +kernel,rfl,by decide +kernel,by decide +kernel⟩
abbrev nA:Stmt:=top 28
theorem Ah:aY ["view","cell","laying"] ["view","cell","laying"] (aK nA):=⟨rfl,rfl,rfl,by decide +kernel,rfl,by decide +kernel,by decide +kernel⟩
abbrev EY:Stmt:=top 29
theorem IK:aY ["view","laying","cell"] ["view","laying"] (aK EY):=⟨rfl,rfl,rfl,by decide +kernel,rfl,by decide +kernel,by decide +kernel⟩
abbrev Af:Stmt:=top 32
theorem lD:aY ["view","cell","found","waiting","member","teller","other"] ["view","cell"] (aK Af):=⟨rfl,rfl,rfl,by decide +kernel,rfl,by decide +kernel,by decide +kernel⟩
abbrev Fb:Stmt:=top 33
theorem oh:aY ["view","found","placed","cell","part","member"] ["view"] (aK Fb):=⟨rfl,rfl,rfl,by decide +kernel,rfl,by decide +kernel,by decide +kernel⟩
abbrev wC:Stmt:=top 34
theorem m9:aY ["view","last","found","teller","around","behind"] ["view","last"] (aK wC):=⟨rfl,rfl,rfl,by decide +kernel,rfl,by decide +kernel,by decide +kernel⟩
abbrev tO:Stmt:=top 35
theorem qX:aY ["laying","asked","demand","stones"] ["laying","asked"] (aK tO):=⟨rfl,rfl,rfl,by decide +kernel,rfl,by decide +kernel,by decide +kernel⟩
abbrev wH:Stmt:=top 36
theorem iT:aY ["view","cell","part","begun","member","asked","both"] ["view","cell"] (aK wH):=⟨rfl,rfl,rfl,by decide +kernel,rfl,by decide +kernel,by decide +kernel⟩
abbrev wD:Stmt:=top 37
theorem Kl:aY ["view","cell"] ["view","cell"] (aK wD):=⟨rfl,rfl,rfl,by decide +kernel,rfl,by decide +kernel,by decide +kernel⟩
abbrev m8:Stmt:=top 38
theorem pR:aY ["view","cell"] ["view"] (aK m8):=⟨rfl,rfl,rfl,by decide +kernel,rfl,by decide +kernel,by decide +kernel⟩
abbrev wB:Stmt:=top 39
theorem pH:aY ["view","found","part","cell"] ["view"] (aK wB):=⟨rfl,rfl,rfl,by decide +kernel,rfl,by decide +kernel,by decide +kernel⟩
abbrev wI:Stmt:=top 40
theorem tQ:aY ["found","cell","stone","left","choice"] ["found","cell","stone"] (aK wI):=⟨rfl,rfl,rfl,by decide +kernel,rfl,by decide +kernel,by decide +kernel⟩
abbrev lZ:Stmt:=top 42
theorem jV:aY ["found","chosen","choice"] ["found"] (aK lZ):=⟨rfl,rfl,rfl,by decide +kernel,rfl,by decide +kernel,by decide +kernel⟩
abbrev qR:Stmt:=top 43
theorem kY:aY ["view","cell","found","without","having"] ["view","cell"] (aK qR):=⟨rfl,rfl,rfl,by decide +kernel,rfl,by decide +kernel,by decide +kernel⟩
abbrev Kh:Stmt:=top 44
theorem NZ:aY ["view","cell","found"] ["view","cell"] (aK Kh):=⟨rfl,rfl,rfl,by decide +kernel,rfl,by decide +kernel,by decide +kernel⟩
abbrev jR:Stmt:=inClass (top 46) 0
theorem o9:aY ["self","height","width","stones","field"] ["self","height","width","stones"] (aK jR):=⟨rfl,rfl,rfl,by decide +kernel,rfl,by decide +kernel,by decide +kernel⟩
abbrev lX:Stmt:=inClass (top 46) 1
theorem iM:aY ["self","cell","opened","waiting","member"] ["self","cell"] (aK lX):=⟨rfl,rfl,rfl,by decide +kernel,rfl,by decide +kernel,by decide +kernel⟩
abbrev qP:Stmt:=inClass (top 46) 2
theorem kW:aY ["self","rows","row","signs"] ["self"] (aK qP):=⟨rfl,rfl,rfl,by decide +kernel,rfl,by decide +kernel,by decide +kernel⟩
abbrev pF:Stmt:=inClass (top 46) 3
theorem BW:aY ["self"] ["self"] (aK pF):=⟨rfl,rfl,rfl,by decide +kernel,rfl,by decide +kernel,by decide +kernel⟩
abbrev lY:Stmt:=top 48
theorem yc:aY ["script","k"] ["script","k"] (aK lY):=⟨rfl,rfl,rfl,by decide +kernel,rfl,by decide +kernel,by decide +kernel⟩
abbrev tL:Stmt:=top 49
theorem mQ:aY ["cell","k","many","some","stir"] ["cell","k","many"] (aK tL):=⟨rfl,rfl,rfl,by decide +kernel,rfl,by decide +kernel,by decide +kernel⟩
abbrev jU:Stmt:=top 53
theorem cY:aY ["script","most","cell","height","width","thin","stones","r","c"] ["script","most"] (aK jU):=⟨rfl,rfl,rfl,by decide +kernel,rfl,by decide +kernel,by decide +kernel⟩
abbrev jA:Stmt:=top 57
theorem gO:aY ["game","free","cell","many","k","hidden","left"] ["game","free","cell","many"] (aK jA):=⟨rfl,rfl,rfl,by decide +kernel,rfl,by decide +kernel,by decide +kernel⟩
abbrev qQ:Stmt:=top 58
theorem pG:aY ["view","found","cell"] ["view"] (aK qQ):=⟨rfl,rfl,rfl,by decide +kernel,rfl,by decide +kernel,by decide +kernel⟩
abbrev U0:Stmt:=top 59
theorem jj:aY ["script","height","width","stones","free","r","game","first","told","cell","later","again"] ["script"] (aK U0):=⟨rfl,rfl,rfl,by decide +kernel,rfl,by decide +kernel,by decide +kernel⟩
structure Adr where
 FieldError:Addr
 BadView:Addr
 BadLaying:Addr
 NoCell:Addr
 TooGreat:Addr
 Impossible:Addr
 Over:Addr
 View:Addr
 Game:Addr
structure Txt(K:ak)(mg:Str->Option Value)(Z:Adr):Prop where
 Mz:mg "all" = none
 Y5:mg "int" = none
 gH:mg "len" = none
 vL:mg "list" = none
 QM:mg "max" = none
 QS:mg "min" = none
 iy:mg "range" = none
 lJ:mg "sorted" = none
 Y6:mg "str" = none
 iW:∃ t,mg "MOST_ROWS" = some (.int 6 t)
 fM:∃ t,mg "MOST_COLUMNS" = some (.int 6 t)
 dU:∃ t,mg "CLOSED_SIGN" = some (.str "#" t)
 rU:∃ t,mg "SIGNS" = some (.str "#012345678" t)
 iz:∃ t,mg "MOST_CELLS" = some (.int 12 t)
 DK:mg "FieldError" = some (.ref Z.FieldError)
 pL:iQ K Z.FieldError
 vM:mg "BadView" = some (.ref Z.BadView)
 oF:iQ K Z.BadView
 qC:mg "BadLaying" = some (.ref Z.BadLaying)
 jJ:iQ K Z.BadLaying
 qD:mg "NoCell" = some (.ref Z.NoCell)
 mq:iQ K Z.NoCell
 sY:mg "TooGreat" = some (.ref Z.TooGreat)
 jC:iQ K Z.TooGreat
 um:mg "Impossible" = some (.ref Z.Impossible)
 kZ:iQ K Z.Impossible
 R0:mg "Over" = some (.ref Z.Over)
 Fo:iQ K Z.Over
 YG:mg "View" = some (.ref Z.View)
 dZ:Cls K Z.View
 j5:je K Z.View "rows"
 d9:je K Z.View "height"
 dO:je K Z.View "width"
 YF:mg "Game" = some (.ref Z.Game)
 bU:Cls K Z.Game
 cP:je K Z.Game "field"
 fj:je K Z.Game "hidden"
 cu:je K Z.Game "figures"
 iZ:je K Z.Game "lost"
def Ks(K:ak):Sp:=fun vs H Q _=>∃(a:Addr)(ns:List Int)(k:Int),vs=[.ref a,.int k]/\0<=k/\SqL K H a (ns.map V.int)/\∀ r:Int,Q (.int r) H
def U5:Sp:=fun vs H Q _=>∃(c k m:Int),vs=[.int c,.int k,.int m]/\0<m/\∀(r:Int)(H':Hp),0<=r->r<m->Same H H'->Q (.int r) H'
section
variable{P:Program}{w:World}{K:ak}{mg:Str->Option Value}{base:Heap}{Z:Adr}
theorem Ww{f:Addr}{fd:FuncData} (F:Fun K "_law_cell_at" "_law_cell_at" lY f fd) (T:Txt K mg Z):cF P w K mg base (CXE P w) 1 f fd ["script","k"] (Ks K):=by
 refine F.rok yc (fun vs H Q E h=>?_) (fun cdv A outer s H vs Q E hr h=>?_)
 ·obtain⟨a,ns,k,rfl,_⟩:=h;rfl
 ·obtain⟨a,ns,k,rfl,h0,hS,hq⟩:=h;refine⟨_,(aA (dF (bJ Sx (rv 1) (bF (iD (K:=K)) rfl T.gH dY (aj (rv 0) ao)) (c7 _)) (aD (bx (fP (gP (K:=K)) (rv 0) (rv 1)))) bL) (aD (bx aM))),?_⟩;refine⟨_,rfl,_,rfl,.inl ⟨a,_,rfl,.inl hS,_,_,rfl,rfl,_,rfl,?_⟩⟩;refine Rr (fun hk=>?_) (fun _=>?_)
  ·have hk':k<ns.length:=by have:=cJ hk;simp only[aZ] at this;exact this
   obtain⟨v,e⟩:=Mx h0 hk';exact⟨_,rfl,_,rfl,.inl ⟨a,_,_,_,rfl,rfl,hS,e,hq _⟩⟩
  ·exact hq 0
theorem Zx{f:Addr}{fd:FuncData} (F:Fun K "_law_mix" "_law_mix" tL f fd) (T:Txt K mg Z):cF P w K mg base (CXE P w) 1 f fd ["cell","k","many"] U5:=by
 refine F.rok mQ (fun vs H Q E h=>?_) (fun cdv A outer s H vs Q E hr h=>?_)
 ·obtain⟨c,k,m,rfl,_⟩:=h;rfl
 ·obtain⟨c,k,m,rfl,hm,hq⟩:=h;refine⟨_,(aA (bK (i:=3) mQ.nd rfl (Or.inl rfl) (fG (aj aM (aj aM (aj aM (aj aM (aj aM (aj aM (aj aM (aj aM (aj aM (aj aM (aj aM (aj aM (aj aM ao))))))))))))))) (aA (bK (i:=4) mQ.nd rfl (Or.inl rfl) (gW gJ (gW gJ (gW mL (gW gJ (gW qL (rv 0) aM) aM) (fP (gP (K:=K)) (rv 3) (gW qL (rv 1) aM))) (gW mL aM (rv 1))) (gW mL aM (gW Nv (rv 1) aM)))) (aA (bK (i:=4) mQ.nd rfl (Or.inl rfl) (gW qL (rv 4) aM)) (aD (bx (gW qL (gW Nv (gW qL (gW gJ (gW mL (rv 4) (rv 4)) (gW mL aM (rv 1))) aM) aM) (rv 2))))))),?_⟩;refine⟨by decide,fun p hp=>?_⟩;have b0:0<=c%2147483647:=wN _ (by decide);have b1:c%2147483647<2147483647:=wM _ (by decide);obtain⟨v,e⟩:=Mx (ns:=[48271,69621,16807,39373,30269,40014,40692,50021,61687,71993,83869,95561,30307]) (i:=k%13) (wN _ (by decide)) (wM _ (by decide));refine⟨_,rfl,_,_,rfl,rfl,(by show(0:Int)<2147483647;decide),_,rfl,_,rfl,_,_,rfl,rfl,(by show(0:Int)<13;decide),.inl ⟨p,_,_,_,rfl,rfl,.of aC,e,.inl ⟨by lia,by lia⟩,?_⟩⟩;refine⟨_,rfl,.inl ⟨by lia,by lia⟩,?_⟩;refine⟨_,rfl,_,_,rfl,rfl,⟨by decide,by decide⟩,.inl ⟨by lia,by lia⟩,?_⟩;refine⟨_,rfl,_,_,rfl,rfl,(by show(0:Int)<1000000007;decide),?_⟩;refine⟨_,rfl,_,rfl,.inl ⟨by omega,by omega⟩,?_⟩;refine⟨_,rfl,.inl ⟨by lia,by lia⟩,?_⟩;refine⟨_,_,rfl,rfl,(by show(0:Int)<1000000007;decide),?_⟩;refine⟨_,_,rfl,rfl,⟨by decide,by decide⟩,?_⟩;refine⟨_,rfl,_,_,rfl,rfl,hm,?_⟩;exact hq _ _ (wN _ (by lia)) (wM _ hm) (Same.put hp)
end
def O2(K:ak):Sp:=fun vs H Q _=>∃(a:Addr)(ns:List Int)(m:Int),vs=[.ref a,.int m]/\SqL K H a (ns.map V.int)/\1<=m/\m<=6/\∀(t p:Addr)(H':Hp)(h w:Nat)(st:List Cell),Same H H'->H p=none->SqT K H' t [.int h,.int w,.ref p]->Ls K H' p (st.map au) ->
 1<=h->(h:Int)<=m->1<=w->(w:Int)<=m->st.Sublist (bI h w)->Q (.ref t) H'
section
variable{P:Program}{w:World}{K:ak}{mg:Str->Option Value}{base:Heap}{Z:Adr}
theorem S7{f:Addr}{fd:FuncData} (F:Fun K "_law_field_by" "_law_field_by" jU f fd) (T:Txt K mg Z) (bV:Df P w K mg base 1 "_law_cell_at" ["script","k"] (Ks K)) (g8:Df P w K mg base 1 "_law_mix" ["cell","k","many"] U5) :
  cF P w K mg base (CXE P w) 2 f fd ["script","most"] (O2 K):=by
 refine F.rok cY (fun vs H Q E h=>?_) (fun cdv A outer s H vs Q E hr h=>?_)
 ·obtain⟨a,ns,m,rfl,_⟩:=h;rfl
 ·obtain⟨a,ns,m,rfl,hS,m1,m6,hq⟩:=h;have hu:=jQ hr;refine⟨_,(aA (bK (i:=2) cY.nd rfl (Or.inl rfl) (aX bV hr rfl aR (aj (rv 0) (aj aM ao)))) (aA (a0o (i:=3) (j:=4) rfl cY.nd rfl rfl (by decide) rfl rfl (aj (gW gJ aM (aX g8 hr rfl aR (aj (rv 2) (aj aM (aj (rv 1) ao))))) (aj (gW gJ aM (aX g8 hr rfl aR (aj (rv 2) (aj aM (aj (rv 1) ao))))) ao)) rfl) (aA (bK (i:=5) cY.nd rfl (Or.inl rfl) (fP (gP (K:=K)) (fG (aj aM (aj aM (aj aM ao)))) (aX g8 hr rfl aR (aj (rv 2) (aj aM (aj aM ao)))))) (aA (bK (i:=6) cY.nd rfl (Or.inl rfl) (fG ao)) (aA (dw fY rfl (iC rfl T.iy (aj (rv 3) ao)) (bQ (i:=7) cY.nd rfl (Or.inl rfl)) (aD (dw fY rfl (iC rfl T.iy (aj (rv 4) ao)) (bQ (i:=8) cY.nd rfl (Or.inl rfl)) (aD (dF (bJ (o7.or (nW (K:=K) hu)) (aX g8 hr rfl aR (aj (aX bV hr rfl aR (aj (rv 0) (aj (gW gJ aM (rv 7)) ao))) (aj (rv 8) (aj (rv 5) ao)))) aM (c7 _)) (aD (eY (lR (K:=K) jZ pX pY eG (rv 6) (aj (mO (aj (rv 7) (aj (rv 8) ao))) ao)))) bL))))) (aD (bx (mO (aj (rv 3) (aj (rv 4) (aj (rv 6) ao))))))))))),?_⟩;refine aF (fun zzs H1=>∃ c:Int,Same H H1/\zzs=[zzR a,zzI m,zzI c,zzN,zzN,zzN,zzN,zzN,zzN]) (fun R hR=>?_) ?_
  ·exact⟨_,rfl,a,ns,0,rfl,by decide,hS,fun r=>hR _ _ ⟨r,Same.refl _,rfl⟩⟩
  rintro zzs H1 ⟨c,s1,rfl⟩;refine aF (fun zzs H2=>∃ h w:Nat,Same H H2/\(1<=h/\(h:Int)<=m)/\(1<=w/\(w:Int)<=m)/\zzs=[zzR a,zzI m,zzI c,zzI h,zzI w,zzN,zzN,zzN,zzN]) (fun R hR=>?_) ?_
  ·refine⟨_,rfl,_,rfl,_,1,_,rfl,by lia,fun r1 H1 a1 b1 t1=>?_⟩;refine⟨_,rfl,_,rfl,_,2,_,rfl,by lia,fun r2 H2 a2 b2 t2=>?_⟩;refine⟨_,_,rfl,hR _ _ ⟨(1+r1).toNat,(1+r2).toNat,s1.trans (t1.trans t2),by lia,by lia,?_⟩⟩;rw[Vq (by lia),Vq (by lia)];rfl
  rintro zzs H2 ⟨h,w,s2,bh,bw,rfl⟩;refine aF (fun zzs H3=>∃ t:Int,0<t/\Same H H3/\zzs=[zzR a,zzI m,zzI c,zzI h,zzI w,zzI t,zzN,zzN,zzN]) (fun R hR=>?_) ?_
  ·refine⟨sz rfl,fun l hl=>?_⟩;have t1:=Same.put (o:=.lst [V.int 3,V.int 5,V.int 9]) hl;refine⟨_,rfl,_,3,3,rfl,by decide,fun r H3 a3 b3 t3=>?_⟩;obtain⟨v,hv,e⟩:=QL (xs:=([3,5,9]:List Int).map V.int) (i:=r) a3 (by simpa using b3);obtain⟨n,hn,rfl⟩:=cD.mp hv;refine .inl ⟨l,_,_,_,rfl,rfl,SqL.of (t3 _ _ aC),e,hR _ _ ⟨n,?_,s2.trans (t1.trans t3),rfl⟩⟩;exact(by decide:∀ x∈([3,5,9]:List Int),0<x) n hn
  rintro zzs H3 ⟨t,ht,s3,rfl⟩;refine aF (fun zzs H4=>∃ p,H p=none/\Same H H4/\H4 p=some (.lst [])/\zzs=[zzR a,zzI m,zzI c,zzI h,zzI w,zzI t,zzR p,zzN,zzN]) (fun R hR=>?_) ?_
  ·exact⟨by decide,fun p hp=>hR _ _ ⟨p,s3.free hp,s3.and hp,aC,rfl⟩⟩
  rintro zzs H4 ⟨p,np,s4,hp,rfl⟩;have h6:h<=6:=by lia
  have w6:w<=6:=by lia
  refine aF (fun zzs H5=>∃(st:List Cell)(v7 v8:Option V),Same H H5/\Ls K H5 p (st.map au)/\st.Sublist (bI h w)/\zzs=[zzR a,zzI m,zzI c,zzI h,zzI w,zzI t,zzR p,v7,v8]) (fun R hR=>?_) ?_
  ·refine⟨_,rfl,_,rfl,by lia,by lia,?_⟩;rw[jm];refine gA (lo:=0) (n:=h) (fun i zzs H'=>∃(st:List Cell)(v7 v8:Option V),Same H H'/\Ls K H' p (st.map au)/\st.Sublist (bI i w)/\zzs=[zzR a,zzI m,zzI c,zzI h,zzI w,zzI t,zzR p,v7,v8])
    ⟨[],none,none,s4,⟨[],hp,.nil⟩,List.nil_sublist _,rfl⟩ (fun i zzs H' hi hh=>?_) (fun zzs H' hh=>hR _ _ hh)
   obtain⟨st,v7,v8,g1,g2,g3,rfl⟩:=hh;refine⟨_,rfl,_,rfl,by lia,by lia,?_⟩;rw[jm];refine gA (lo:=0) (n:=w) (fun j zzs H'=>∃(st:List Cell)(v8:Option V),Same H H'/\Ls K H' p (st.map au)/\st.Sublist (bI i w++(List.range j).map fun c:Nat=>((i:Int),(c:Int)))/\zzs=[zzR a,zzI m,zzI c,zzI h,zzI w,zzI t,zzR p,zzI (0+i),v8])
    ⟨st,v8,g1,g2,by simpa using g3,rfl⟩ (fun j zzs H' hj hh=>?_) (fun zzs H' hh=>?_)
   ·obtain⟨st,v8,g1,g2,g3,rfl⟩:=hh;have step:bI i w++(List.range (j+1)).map (fun c:Nat=>((i:Int),(c:Int)))=(bI i w++(List.range j).map fun c:Nat=>((i:Int),(c:Int)))++[((i:Int),(j:Int))]:=by
     rw[xU,eE,<- vh];rfl
    have hl:=g3.length_le;rw[cC,fK,aZ,jM] at hl;have hl2:i*w<=6*6:=mF (by lia) w6;refine⟨_,rfl,_,rfl,a,ns,_,rfl,by lia,g1.seq hS,fun r=>?_⟩;refine⟨_,rfl,_,rfl,_,_,_,rfl,ht,fun r2 H6 a6 b6 t6=>.inl ⟨rfl,_,rfl,?_⟩⟩;refine Rr (fun _=>?_) (fun _=>?_)
    ·refine⟨_,rfl,.inl ⟨rfl,_,SqL.of (t6 _ _ g2.choose_spec.1)⟩,?_⟩;obtain⟨xs,ex,D⟩:=g2;refine⟨_,rfl,_,rfl,sz rfl,fun u hu=>?_⟩;have su:=Same.put (o:=.tup [V.int (0+i),V.int (0+j)]) hu;refine⟨p,xs,_,rfl,rfl,su _ _ (t6 _ _ ex),ltl (by rw[D.length,aZ];lia),?_⟩;refine⟨st++[((i:Int),(j:Int))],_,?_,⟨xs++[.ref u],aC,?_⟩,?_,rfl⟩
     ·exact(SameBut.refl p _).put.of (g1.trans (t6.trans su)) np
     ·rw[eE];refine((SameBut.refl p _).put.cells (su _ _ (t6 _ _ ex)) ((D.mono t6).mono su)).append (.cons ((SameBut.refl p _).put.cell (su _ _ (t6 _ _ ex)) ?_) .nil);rw[u6,u6];exact nH
     ·rw[step];exact g3.append (Mh _)
    ·refine⟨st,_,g1.trans t6,g2.mono t6,?_,rfl⟩;rw[step];exact g3.trans (UG _ _)
   ·obtain⟨st,v8,g1,g2,g3,rfl⟩:=hh;exact⟨st,_,_,g1,g2,by rw[oW];exact g3,rfl⟩
  rintro zzs H5 ⟨st,v7,v8,g1,g2,g3,rfl⟩;refine⟨_,rfl,_,rfl,_,rfl,sz rfl,fun u hu=>?_⟩;exact hq u p _ h w st (g1.and hu) np (SqT.of aC) (g2.mono (Same.put hu)) bh.1 bh.2 bw.1 bw.2 g3
end
section
variable{P:Program}{w:World}{K:ak}{mg:Str->Option Value}{base:Heap}{Z:Adr}
def uE(w:Nat)(st:List Cell)(n:Nat):List Cell:=(bI n w).filter fun y=>!decide (y∈st)
theorem JF(w:Nat)(st:List Cell)(n:Nat):uE w st (n+1)=uE w st n++((List.range w).filter fun c:Nat=>!decide (((n:Int),(c:Int))∈st)).map fun c:Nat=>((n:Int),(c:Int)):=by
 unfold uE;rw[oW,Br,List.filter_map];rfl
theorem Cv(w:Nat)(st:List Cell)(n:Nat):(uE w st n).length<=n*w:=by
 unfold uE;exact dN (jL _ _) (by rw[fK];exact bB _)
end
theorem aV.Yl{K:ak}{H:Hp}{α:Type}{g:α->Str}:∀ xs:List α,aV K H (xs.map (V.str ∘ g)) (xs.map fun x=>Dt.str (g x))
 |[]=>.nil
 |x::xs=>.cons (.str _) (aV.Yl xs)
theorem Qy{K:ak}{H:Hp}{z:Str}{zzs:L2.St}{Q:VK}{te:TE}(hz:z.length<=sizeLine)
  (ht:∀(c:Nat)(H':Hp),∀ G:VK,G (.bl (inS "#012345678" c)) H'->te (some (.str ⟨#[c]⟩)::zzs) H' G)
  (hq:∀ H',Same H H'->Q (.bl (z.cps.toList.all (inS "#012345678"))) H') :
  ∃ W:Nat->Nat->List V->Hp->Prop,(∃ m,W 0 m [] H)/\pO (Its z) KD te zzs (fun ys H2=>∀ p,H2 p=none->∃(q:Addr)(bs:List Bool),[V.ref p]=[.ref q]/\SqL K (upd H2 p (.lst ys)) q (bs.map V.bl)/\Q (.bl (bs.all id)) (upd H2 p (.lst ys))) W:=by
 refine comp_map (K:=K) (xs:=z.cps.toList) (enc:=fun c=>Dt.str ⟨#[c]⟩) (SJ z) (by rw[ni];exact aV.Yl _) (by rw[mD];exact hz) (fun c=>Dt.bl (inS "#012345678" c)) (fun c _ v H' s D G hG=>?_) (fun ys H' s D p hp=>?_)
 ·cases D;exact ht c H' G (hG _ _ (Same.refl _) (.bl _))
 ·have e:ys=(z.cps.toList.map (inS "#012345678")).map V.bl:=by
   refine aV.Eo (K:=K) (H:=H') ?_;rw[ni];exact D
  refine⟨p,z.cps.toList.map (inS "#012345678"),rfl,SqL.of (by rw[aC,e]),?_⟩;rw[Gu];exact hq _ (s.and hp)
def Yk:Sp:=fun vs H Q _=>∃(z:Str)(n:Int),vs=[.str z,.int n]/\z.length<=1000/\∀ H',Same H H'->Q (.bl (zZ z n)) H'
theorem Ck{l n m:Int}{te:TE}{zzs:L2.St}{H:Hp}{G:VK}(he:∀ Q':VK,Q' (.int m) H->te zzs H Q')(hg:G (.bl (decide (l<=n/\n<=m))) H) :
  if decide (l<=n)=true then te zzs H (fun w' H4=>rI0 (fun i j=>.bl (decide (i<=j))) (.int n) w' H4 G) else G (.bl false) H:=by
 refine Rr (fun h1=>he _ ⟨_,_,rfl,rfl,?_⟩) (fun h1=>?_)
 ·have h1':=cJ h1;have e:decide (l<=n/\n<=m)=decide (n<=m):=by simp[h1']
  show G (.bl (decide (n<=m))) H;rw[<- e];exact hg
 ·have e:decide (l<=n/\n<=m)=false:=dB fun h=>h1 (cR h.1)
  rw[<- e];exact hg
def ou(m n:Int):Bool:=decide (1<=m/\m<=6)&&decide (1<=n/\n<=6)
def Kv:Sp:=fun vs H Q _=>∃(m n:Int),vs=[.int m,.int n]/\Q (.bl (ou m n)) H
def U8(K:ak):Sp:=fun vs H Q _=>∃(p:Addr)(zs:List Str),vs=[.ref p]/\SqL K H p (zs.map V.str)/\zs.length<=1000/\(∀ z∈zs,z.length<=1000)/\∀ H',Same H H'->Q (.bl (xK zs)) H'
theorem Ye{zs:List Str}:(((zs.map V.str).length:Nat):Int)=(zs.length:Int):=by rw[aZ]
theorem TQ{K:ak}{H:Hp}{a:Addr}{zs:List Str}{n:Int}{zzs:L2.St}{Q:VK}{te:TE}(hS:SqL K H a (zs.map V.str))(hz:zs.length<=1000)
  (ht:∀ z∈zs,∀(H':Hp),Same H H'->∀ G:VK,(∀ H'',Same H' H''->G (.bl (zZ z n)) H'')->te (some (.str z)::zzs) H' G)
  (hq:∀ H',Same H H'->Q (.bl (zs.all fun r=>zZ r n)) H') :
  ∃ W:Nat->Nat->List V->Hp->Prop,(∃ m,W 0 m [] H)/\pO (Itl K a) KD te zzs (fun ys H2=>∀ p,H2 p=none->a1q K [V.ref p] (upd H2 p (.lst ys)) Q) W:=by
 refine comp_map (K:=K) (xs:=zs) (enc:=Dt.str) (cG hS) (aV.strs zs) (small (by lia)) (fun z=>Dt.bl (zZ z n)) (fun z hz v H' s D G hG=>?_) (fun ys H' s D p hp=>?_)
 ·cases D;exact ht z hz H' s G fun H'' s''=>hG _ _ s'' (.bl _)
 ·have e:ys=(zs.map fun z=>zZ z n).map V.bl:=by
   refine aV.Eo (K:=K) (H:=H') ?_;rw[ni];exact D
  refine⟨p,zs.map fun z=>zZ z n,rfl,SqL.of (by rw[aC,e]),?_⟩;rw[Gu];exact hq _ (s.and hp)
section
variable{P:Program}{w:World}{K:ak}{mg:Str->Option Value}{base:Heap}{Z:Adr}
theorem Zy{f:Addr}{fd:FuncData} (F:Fun K "is_row" "is_row" Ae f fd) (T:Txt K mg Z):cF P w K mg base (CXE P w) 1 f fd ["row","width"] Yk:=by
 refine F.rok Qv (fun vs H Q E h=>?_) (fun cdv A outer s H vs Q E hr h=>?_)
 ·obtain⟨z,n,rfl,_⟩:=h;rfl
 ·obtain⟨z,n,rfl,hz,hq⟩:=h;have hu:=jQ hr;have hu':=Hy hr;have hz':z.length<=sizeLine:=small (by lia);refine⟨_,(aD (bx (Ik (Il (o7.or (nW (K:=K) hu)) (bF (iD (K:=K)) rfl T.gH dY (aj (rv 0) ao)) (rv 1) (c7 _)) (Im (bF (k_all (K:=K) rfl) rfl T.Mz Jo (aj (jz (by rfl) rfl (a0n (rv 0)) (fun _ _ _=>uP) (fun _ _ _=>(Il (j6.or (wZ (K:=K) hu')) (rv 0) (Es T.rU rfl) (by rfl)))) ao)))))),?_⟩;refine⟨_,rfl,.inr ⟨z,rfl,hz',_,rfl,.inl ⟨rfl,_,rfl,?_⟩⟩⟩;rw[wX];refine Rr (fun h1=>?_) (fun h1=>?_)
  ·refine⟨_,rfl,z,rfl,Qy (K:=K) hz' (fun c H' G hG=>⟨_,rfl,.inl ⟨_,_,rfl,rfl,hG⟩⟩) fun H' s'=>?_⟩;have:=hq H' s';unfold zZ at this;rw[h1,rM] at this;exact this
  ·have:=hq H (Same.refl _);unfold zZ at this;rw[Bool.eq_false_iff.mpr h1,xV] at this;exact this
theorem WD{f:Addr}{fd:FuncData} (F:Fun K "is_size" "is_size" wF f fd) (T:Txt K mg Z):cF P w K mg base (CXE P w) 1 f fd ["height","width"] Kv:=by
 refine F.rok Km (fun vs H Q E h=>?_) (fun cdv A outer s H vs Q E hr h=>?_)
 ·obtain⟨m,n,rfl,_⟩:=h;rfl
 ·obtain⟨m,n,rfl,hq⟩:=h;refine⟨_,(aD (bx (Ik (yu xG xG aM (rv 0) (Ka T.iW rfl)) (Im (yu xG xG aM (rv 1) (Ka T.fM rfl)))))),?_⟩;refine⟨_,rfl,_,_,rfl,rfl,_,rfl,?_⟩;refine Ck (m:=6) (fun _ q=>q) ⟨_,rfl,cN (fun hb=>?_) (fun hb=>?_)⟩
  ·unfold ou at hq;rw[hb,rM] at hq;refine⟨_,rfl,_,_,rfl,rfl,_,rfl,?_⟩;exact Ck (m:=6) (fun _ q=>q) hq
  ·unfold ou at hq;rw[hb,xV] at hq;exact hq
theorem uX{m n:Int}:ou m n=true↔((1<=m/\m<=6)/\(1<=n/\n<=6)):=by
 unfold ou;rw[kj,gq,gq]
theorem WM{f:Addr}{fd:FuncData} (F:Fun K "is_view" "is_view" wG f fd) (T:Txt K mg Z) (yF:Df P w K mg base 1 "is_row" ["row","width"] Yk) (lA:Df P w K mg base 1 "is_size" ["height","width"] Kv):cF P w K mg base (CXE P w) 2 f fd ["rows"] (U8 K):=by
 refine F.rok Ko (fun vs H Q E h=>?_) (fun cdv A outer s H vs Q E hr h=>?_)
 ·obtain⟨p,zs,rfl,_⟩:=h;rfl
 ·obtain⟨p,zs,rfl,hS,hn,hz,hq⟩:=h;have hu:=jQ hr;refine⟨_,(aA (dF (Ab (NQ (bJ (o7.or (nW (K:=K) hu)) (bF (iD (K:=K)) rfl T.gH dY (aj (rv 0) ao)) aM (c7 _)) (Et (lW (iR (aX lA hr rfl aR (aj (bF (iD (K:=K)) rfl T.gH dY (aj (rv 0) ao)) (aj (bF (iD (K:=K)) rfl T.gH dY (aj (fP (gP (K:=K)) (rv 0) aM) ao)) ao)))))))) (aD (bx pC)) bL) (aD (bx (bF (k_all (K:=K) rfl) rfl T.Mz Jo (aj (jz (by rfl) rfl (bD (K:=K) (rv 0)) (fun _ _ _=>uP) (fun _ _ _=>(aX yF hr rfl aR (aj (rv 0) (aj (bF (iD (K:=K)) rfl T.gH dY (aj (fP (gP (K:=K)) (rv 1) aM) ao)) ao))))) ao))))),?_⟩;refine⟨_,rfl,.inl ⟨p,_,rfl,.inl hS,.inl ⟨rfl,_,rfl,?_⟩⟩⟩;rw[Ye,wX];refine cN (fun hb=>?_) (fun hb=>?_)
  ·cases zs with
   |nil=>exact hq H (Same.refl _)
   |cons z zs=>have:=cJ hb;simp only[fX] at this;lia
  cases zs with
  |nil=>cases hb
  |cons z zs=>
   have z0:=hz z cZ;refine⟨_,rfl,.inl ⟨p,_,rfl,.inl hS,_,rfl,.inl ⟨p,_,_,_,rfl,rfl,hS,iG,.inr ⟨z,rfl,small (by lia),?_⟩⟩⟩⟩;refine⟨_,_,rfl,?_⟩;rw[Ye];refine⟨_,rfl,cN (fun h1=>?_) (fun h1=>?_)⟩
   ·have:=hq H (Same.refl _);have h1:¬ou ((z::zs).length:Nat) z.length=true:=by simpa using h1
    rw[uX] at h1;by_cases h2:(z::zs).length<=6
    ·rw[KQ (by simp only[fX] at h1 h2 ⊢;lia)] at this;exact this
    ·rw[KN h2] at this;exact this
   ·have h1:ou ((z::zs).length:Nat) z.length=true:=by simpa using h1
    rw[uX] at h1;obtain⟨⟨a1,a2⟩,a3,a4⟩:=h1;refine⟨_,rfl,p,rfl,⟨_,hS⟩,TQ hS hn (n:=z.length) (fun r hr' H' s' G hG=>?_) fun H' s'=>?_⟩
    ·refine⟨_,rfl,_,rfl,.inl ⟨p,_,_,_,rfl,rfl,s'.seq hS,iG,.inr ⟨z,rfl,small (by lia),?_⟩⟩⟩;exact⟨r,_,rfl,hz r hr',hG⟩
    ·rw[<- Ar (by lia) (by lia) (by lia)];exact hq H' s'
def Ku(K:ak)(C B:Addr):Sp:=fun vs H Q E=>∃(x dx p:Addr)(z:List Str),vs=[.ref x,.ref p]/\H x=some (.ins C dx [])/\SqL K H p (z.map V.str)/\z.length<=1000/\(∀ r∈z,r.length<=1000) /\
 (xK z=false->∀ H',Same H H'->E (.ref B) none H')/\(xK z=true->∀ H' (l:Addr) (z0:Str) (zs:List Str),z=z0::zs->H l=none->l≠x->H' l=some (.lst (z.map V.str))->H' x=some (.ins C dx (uz l z.length z0.length))->(∀ b o,H b=some o->b≠x->H' b=some o)->Q .non H')
theorem U9{K:ak}{H:Hp}{p x C dx:Addr}{xs:List V}{fs:List (Str×V)}{o:HO}(h:SqL K H p xs)(hx:H x=some (.ins C dx fs)):SqL K (upd H x o) p xs:=by
 rcases h with(h|⟨ob,h⟩)|h
 ·exact .inl (.inl (by rw[aN (fB h hx (by intro z;cases z))];exact h))
 ·exact .inl (.inr ⟨ob,by rw[aN (fB h hx (by intro z;cases z))];exact h⟩)
 ·exact .inr h
theorem a0N{a b:Str}{u v:V}:(cX a v (cX b u [])).length<1000:=by
 have h1:=dj a v (cX b u []);have h2:=dj b u [];simp only[xT] at h2;lia
theorem Wx{f:Addr}{fd:FuncData} (F:Fun K "__init__" "View.__init__" jT f fd) (T:Txt K mg Z) (vC:Df P w K mg base 2 "is_view" ["rows"] (U8 K)):cF P w K mg base (CXE P w) 3 f fd ["self","rows"] (Ku K Z.View Z.BadView):=by
 refine F.Ey wJ (fun vs H Q E h=>?_) (fun cdv A outer s H vs Q E hr h=>?_)
 ·obtain⟨x,dx,p,z,rfl,_⟩:=h;rfl
 ·obtain⟨x,dx,p,z,rfl,hx,hS,hn,hz,hE,hq⟩:=h;have hd:=zA hr;refine⟨_,(aA (dF (RT.nox (lW (iR (aX vC hr rfl aR (aj (rv 1) ao))))) (aD (gY T.oF rfl T.vM hd (aj gM ao))) bL) (aA (RS.nox (qO (rv 0) (lV (zE (K:=K)) rfl T.vL uh (aj (rv 1) ao)))) (aA (RS.nox (qO (rv 0) (bF (iD (K:=K)) rfl T.gH dY (aj (rv 1) ao)))) (aD (RS.nox (qO (rv 0) (bF (iD (K:=K)) rfl T.gH dY (aj (fP (gP (K:=K)) (rv 1) aM) ao)))))))),?_⟩;refine⟨_,rfl,p,z,rfl,hS,hn,hz,fun H1 s1=>⟨_,rfl,?_⟩⟩;cases hv:xK z with
  |false=>exact BJ ⟨by decide,hE hv H1 s1⟩
  |true=>
   refine qJ ?_;cases z with
   |nil=>exact absurd (show false=true from hv) (by decide)
   |cons z0 zs=>
    have z0':=hz z0 cZ;refine⟨_,rfl,p,_,rfl,.inl (s1.seq hS),fun l hl=>?_⟩;have nlx:l≠x:=(aQ (s1 x _ hx) hl).symm;have h1:(upd H1 l (.lst ((z0::zs).map V.str))) x=some (.ins Z.View dx []):=by rw[aN nlx.symm];exact s1 x _ hx
    have S1:SqL K (upd H1 l (.lst ((z0::zs).map V.str))) p ((z0::zs).map V.str):=(s1.and hl).seq hS;refine⟨_,rfl,x,Z.View,dx,_,rfl,h1,T.dZ,T.j5,(by show 0<1000;decide),?_⟩;have S2:=U9 (o:=.ins Z.View dx (cX "rows" (.ref l) [])) S1 h1;refine⟨_,rfl,.inl ⟨p,_,rfl,.inl S2,_,rfl,x,Z.View,dx,_,rfl,aC,T.dZ,T.d9,(by show 1<1000;decide),?_⟩⟩;have S3:=U9 (o:=.ins Z.View dx (cX "height" (.int ((z0::zs).map V.str).length) (cX "rows" (.ref l) []))) S2 aC;refine⟨_,rfl,.inl ⟨p,_,_,_,rfl,rfl,S3,iG,.inr ⟨z0,rfl,small (by lia),_,rfl,x,Z.View,dx,_,rfl,aC,T.dZ,T.dO,a0N,?_⟩⟩⟩;refine hq hv _ l z0 zs rfl (s1.free hl) nlx ?_ ?_ (fun b o e hb=>?_)
    ·rw[aN nlx,aN nlx,aN nlx,aC]
    ·rw[aC];rw[aZ];rfl
    ·rw[aN hb,aN hb,aN hb];exact(s1.and hl) b o e
end
def Ak(K:ak)(C:Addr):Sp:=fun vs H Q _=>∃(x:Addr)(v:V)(zs:List Str)(w:Nat)(c:Cell),vs=[.ref x,v]/\bW C H x zs w/\Den K H v (au c)/\Q (.bl (decide (inF zs.length w c))) H
def gZ(K:ak)(C:Addr):Sp:=fun vs H Q _=>∃(x:Addr)(v:V)(zs:List Str)(w:Nat)(c:Cell),vs=[.ref x,v]/\bW C H x zs w/\Den K H v (au c)/\Q (.bl (aH zs w c)) H
def pI(K:ak)(C:Addr):Sp:=fun vs H Q _=>∃(x:Addr)(zs:List Str)(w:Nat),vs=[.ref x]/\bW C H x zs w/\∀ q H',Fr K H H' q ((bI zs.length w).map au)->Q (.ref q) H'
def mU(K:ak)(C NC:Addr):Sp:=fun vs H Q E=>∃(x:Addr)(v:V)(zs:List Str)(w:Nat)(c:Cell),vs=[.ref x,v]/\bW C H x zs w/\Den K H v (au c)/\(inF zs.length w c->∀ q H',Fr K H H' q ((fO zs.length w c).map au)->Q (.ref q) H')/\(¬inF zs.length w c->∀ H',Same H H'->E (.ref NC) none H')
section
variable{P:Program}{w:World}{K:ak}{mg:Str->Option Value}{base:Heap}{Z:Adr}
theorem Zu{f:Addr}{fd:FuncData} (F:Fun K "has_cell" "has_cell" tM f fd) (T:Txt K mg Z):cF P w K mg base (CXE P w) 1 f fd ["view","cell"] (Ak K Z.View):=by
 refine F.rok Iz (fun vs H Q E h=>?_) (fun cdv A outer s H vs Q E hr h=>?_)
 ·obtain⟨x,v,zs,w,c,rfl,_⟩:=h;rfl
 ·obtain⟨x,v,zs,w,c,rfl,vt,dv,hq⟩:=h;obtain⟨dx,l,hx,hl⟩:=vt.ob;refine⟨_,(aD (bx (Ik (yu xG Sx aM (fP (gP (K:=K)) (rv 1) aM) (cO (K:=K) (rv 0))) (Im (yu xG Sx aM (fP (gP (K:=K)) (rv 1) aM) (cO (K:=K) (rv 0))))))),?_⟩;refine⟨_,rfl,zT dv ⟨_,_,rfl,rfl,_,rfl,?_⟩⟩;refine Cm (m:=(zs.length:Int)) (fun Q' q=>⟨_,rfl,x,Z.View,dx,_,_,rfl,hx,T.dZ,T.d9,qG _ _ _,q⟩) ⟨_,rfl,?_⟩;have fin:∀ b:Bool,b=decide (inF zs.length w c)->Q (.bl b) H:=fun b e=>by rw[e];exact hq
  refine cN (fun h1=>?_) (fun h1=>fin _ (dB fun z=>by rw[cR z.1] at h1;cases h1).symm);refine⟨_,rfl,zX dv ⟨_,_,rfl,rfl,_,rfl,?_⟩⟩;refine Cm (m:=(w:Int)) (fun Q' q=>⟨_,rfl,x,Z.View,dx,_,_,rfl,hx,T.dZ,T.dO,uD _ _ _,q⟩) (fin _ ?_);have h1':=cJ h1;by_cases h2:0<=c.2/\c.2<(w:Int)
  ·rw[cR h2,cR (show inF zs.length w c from⟨h1',h2⟩)]
  ·rw[dB h2,dB (fun z:inF zs.length w c=>h2 z.2)]
theorem Ia{f:Addr}{fd:FuncData} (F:Fun K "is_closed" "is_closed" qT f fd) (T:Txt K mg Z) (gb:Df P w K mg base 1 "has_cell" ["view","cell"] (Ak K Z.View)):cF P w K mg base (CXE P w) 2 f fd ["view","cell"] (gZ K Z.View):=by
 refine F.rok Fd (fun vs H Q E h=>?_) (fun cdv A outer s H vs Q E hr h=>?_)
 ·obtain⟨x,v,zs,w,c,rfl,_⟩:=h;rfl
 ·obtain⟨x,v,zs,w,c,rfl,vt,dv,hq⟩:=h;obtain⟨dx,l,hx,hl⟩:=vt.ob;have hu:=jQ hr;refine⟨_,(aD (bx (Ik (aX gb hr rfl aR (aj (rv 0) (aj (rv 1) ao))) (Im (Il (o7.or (nW (K:=K) hu)) (fP (gP (K:=K)) (fP (gP (K:=K)) (cO (K:=K) (rv 0)) (fP (gP (K:=K)) (rv 1) aM)) (fP (gP (K:=K)) (rv 1) aM)) (Es T.dU rfl) (c7 _)))))),?_⟩;refine⟨_,rfl,_,rfl,x,v,zs,w,c,rfl,vt,dv,_,rfl,?_⟩;unfold aH at hq;refine cN (fun h1=>?_) (fun h1=>?_)
  ·rw[h1,rM] at hq;obtain⟨⟨a1,a2⟩,⟨a3,a4⟩⟩:=cJ h1;have e1:c.1=((c.1.toNat:Nat):Int):=by lia
   have e2:c.2=((c.2.toNat:Nat):Int):=by lia
   have i1:c.1.toNat<zs.length:=by lia
   refine⟨_,rfl,x,Z.View,dx,_,_,rfl,hx,T.dZ,T.j5,JC _ _ _,_,rfl,zT dv ?_⟩;rw[e1];refine Tz (SqL.of hl) i1 ⟨_,rfl,zX dv ?_⟩;rw[e2];refine NT (SqL.of hl) vt.vw.toRect i1 (by lia) (.inl ⟨rfl,?_⟩);have es:decide (V.str ⟨#[codeAt zs (c.1.toNat,c.2.toNat)]⟩=V.str "#")=decide (codeAt zs (c.1.toNat,c.2.toNat)=35):=by
    congr 1;apply propext;have eh:("#" : Str)=⟨#[35]⟩:=by decide +kernel
    rw[eh];constructor
    ·intro z;simpa using z
    ·intro z;rw[z]
   rw[es];exact hq
  ·rw[h1,xV] at hq;exact hq
theorem I9{f:Addr}{fd:FuncData} (F:Fun K "cells" "cells" Ez f fd) (T:Txt K mg Z):cF P w K mg base (CXE P w) 1 f fd ["view"] (pI K Z.View):=by
 refine F.rok uR (fun vs H Q E h=>?_) (fun cdv A outer s H vs Q E hr h=>?_)
 ·obtain⟨x,zs,w,rfl,_⟩:=h;rfl
 ·obtain⟨x,zs,w,rfl,vt,hq⟩:=h;have z6:=vt.vw.le;have w6:=vt.vw.w6;have l36:zs.length*w<=6*6:=mF z6 w6;refine⟨_,(aA (bK (i:=1) uR.nd rfl (Or.inl rfl) (fG ao)) (aA (dw fY rfl (iC rfl T.iy (aj (cO (K:=K) (rv 0)) ao)) (bQ (i:=2) uR.nd rfl (Or.inl rfl)) (aD (dw fY rfl (iC rfl T.iy (aj (cO (K:=K) (rv 0)) ao)) (bQ (i:=3) uR.nd rfl (Or.inl rfl)) (aD (eY (lR (K:=K) jZ pX pY eG (rv 1) (aj (mO (aj (rv 2) (aj (rv 3) ao))) ao))))))) (aD (bx (rv 1))))),?_⟩;refine aF (fun zzs H1=>∃ q,H q=none/\Same H H1/\H1 q=some (.lst [])/\zzs=[zzR x,zzR q,zzN,zzN]) (fun R hR=>?_) ?_
  ·exact⟨by decide,fun q hq'=>hR _ _ ⟨q,hq',Same.put hq',aC,rfl⟩⟩
  rintro zzs H1 ⟨q,nq,s1,hq1,rfl⟩;refine aF (fun zzs H2=>∃(v2 v3:Option V),Fr K H H2 q ((bI zs.length w).map au)/\zzs=[zzR x,zzR q,v2,v3]) (fun R hR=>?_) ?_
  ·obtain⟨dx,l,hx,hl⟩:=(vt.mono s1).ob;refine⟨_,rfl,x,Z.View,dx,_,_,rfl,hx,T.dZ,T.d9,qG _ _ _,_,rfl,by lia,by lia,?_⟩;rw[jm];refine gA (lo:=0) (n:=zs.length) (fun i zzs H2=>∃(v2 v3:Option V),Same H H2/\Ls K H2 q ((bI i w).map au)/\zzs=[zzR x,zzR q,v2,v3]) ⟨none,none,s1,⟨[],hq1,.nil⟩,rfl⟩ (fun i zzs H2 hi hh=>?_) (fun zzs H2 hh=>?_)
   ·obtain⟨v2,v3,g1,g2,rfl⟩:=hh;obtain⟨dx,l,hx,hl⟩:=(vt.mono g1).ob;refine⟨_,rfl,x,Z.View,dx,_,_,rfl,hx,T.dZ,T.dO,uD _ _ _,_,rfl,by lia,by lia,?_⟩;rw[jm];refine gA (lo:=0) (n:=w) (fun j zzs H2=>∃ v3:Option V,Same H H2/\Ls K H2 q ((bI i w++(List.range j).map fun c:Nat=>((i:Int),(c:Int))).map au)/\zzs=[zzR x,zzR q,zzI (0+i),v3]) ⟨v3,g1,by simpa using g2,rfl⟩ (fun j zzs H2 hj hh=>?_) (fun zzs H2 hh=>?_)
    ·obtain⟨v3,g1,⟨xs,ex,D⟩,rfl⟩:=hh;have step:bI i w++(List.range (j+1)).map (fun c:Nat=>((i:Int),(c:Int)))=(bI i w++(List.range j).map fun c:Nat=>((i:Int),(c:Int)))++[((i:Int),(j:Int))]:=by
      rw[xU,eE,<- vh];rfl
     have ll:=D.length;rw[aZ,cC,fK,aZ,jM] at ll;have hl2:i*w<=6*6:=mF (by lia) w6;refine⟨_,rfl,.inl ⟨rfl,_,SqL.of ex⟩,_,rfl,_,rfl,sz rfl,fun t ht=>?_⟩;have st:=Same.put (o:=.tup [V.int (0+i),V.int (0+j)]) ht;refine⟨q,xs,_,rfl,rfl,st _ _ ex,ltl (by lia),?_⟩;refine⟨_,(SameBut.refl q _).put.of (g1.trans st) nq,⟨xs++[.ref t],aC,?_⟩,rfl⟩;rw[step,eE];refine((SameBut.refl q _).put.cells (st _ _ ex) (D.mono st)).append (.cons ((SameBut.refl q _).put.cell (st _ _ ex) ?_) .nil);rw[u6,u6];exact nH
    ·obtain⟨v3,g1,g2,rfl⟩:=hh;exact⟨_,_,g1,by rw[oW];exact g2,rfl⟩
   ·obtain⟨v2,v3,g1,g2,rfl⟩:=hh;exact hR _ _ ⟨v2,v3,⟨g1,nq,g2⟩,rfl⟩
  rintro zzs H2 ⟨v2,v3,fr,rfl⟩;exact⟨_,rfl,hq q H2 fr⟩
end
def pJ(K:ak)(C:Addr)(g:List Str->Nat->Cell->List Cell):Sp:=fun vs H Q _=>∃(x:Addr)(v:V)(zs:List Str)(w:Nat)(c:Cell),vs=[.ref x,v]/\bW C H x zs w/\Den K H v (au c)/\inF zs.length w c/\∀ q H',Fr K H H' q ((g zs w c).map au)->Q (.ref q) H'
def nC(K:ak)(C:Addr)(g:List Str->Nat->List Cell):Sp:=fun vs H Q _=>∃(x:Addr)(zs:List Str)(w:Nat),vs=[.ref x]/\bW C H x zs w/\∀ q H',Fr K H H' q ((g zs w).map au)->Q (.ref q) H'
def bO(zs:List Str)(w:Nat):List Cell:=(aU zs w).filter fun x=>decide (0<(aL zs w x).length)
def jY(zs:List Str)(w:Nat):List Cell:=(aU zs w).filter fun x=>decide ((aL zs w x).length=0)
theorem dR{zs:List Str}{w:Nat}(v:Vw zs w):(aU zs w).length<=36:=by
 have h1:(aU zs w).length<=(bI zs.length w).length:=jL _ _;rw[fK] at h1;have h2:zs.length*w<=6*6:=mF v.le v.w6;lia
theorem uL(zs:List Str)(w:Nat)(x:Cell):(aL zs w x).length<=8:=dN (jL _ _) (iB _ _ _)
theorem YX(a b:Cell):(!eqD (au a) (au b))=!decide (a=b):=by rw[Ht]
theorem Nm(a:Int):(if(0:Int)>a then(0:Int) else a)=max a 0:=by by_cases h:(0:Int)>a<;>simp only[h,uf,rE]<;>lia
theorem Nq(a b:Int):(if b<a then b else a)=min a b:=by by_cases h:b<a<;>simp only[h,uf,rE]<;>lia
theorem RN{a:Int}(h:a<=6):0<=max a 0/\max a 0<=6:=⟨Int.le_max_right _ _,Int.max_le.mpr ⟨h,by decide⟩⟩
theorem RV{a b:Int}(h:0<=a)(h0:0<=b)(h2:b<=6):0<=min a b/\min a b<=6:=⟨Int.le_min.mpr ⟨h,h0⟩,Int.le_trans (Int.min_le_right _ _) h2⟩
theorem TJ{i j:Int}(a:0<=i/\i<=6)(b:0<=j/\j<=6) : -(2^62)<=i/\i<2^62 /\ -(2^62)<=j/\j<2^62:=⟨by lia,by omega,by lia,by omega⟩
theorem R6{a b:Int}{i:Nat}(ha:0<=a)(hb:b<=6)(h:i<(b-a).toNat):i<6:=by lia
theorem YM{a b:Int}(ha:0<=a)(hb:b<=6):(b-a).toNat<=6:=by lia
theorem a1F{a b n:Nat}(h1:a<=n*6)(h2:b<=6):a+b<=(n+1)*6:=by lia
theorem a1b{a b i j:Nat}(h1:a<=i*6)(h2:b<=j)(hi:i<6)(hj:j<6):a+b<=100:=by lia
section
variable{P:Program}{w:World}{K:ak}{mg:Str->Option Value}{base:Heap}{Z:Adr}
theorem Sv{f:Addr}{fd:FuncData} (F:Fun K "near" "near" Kg f fd) (T:Txt K mg Z) (gb:Df P w K mg base 1 "has_cell" ["view","cell"] (Ak K Z.View)):cF P w K mg base (CXE P w) 2 f fd ["view","cell"] (mU K Z.View Z.NoCell):=by
 refine F.Ey yC (fun vs H Q E h=>?_) (fun cdv A outer s H vs Q E hr h=>?_)
 ·obtain⟨x,v,zs,w,c,rfl,_⟩:=h;rfl
 ·obtain⟨x,v,zs,w,c,rfl,vt,dv,hq,hE⟩:=h;have hu:=jQ hr;have hd:=zA hr;have z6:=vt.vw.le;have w6:=vt.vw.w6;refine⟨_,(aA (dF (RT.nox (lW (iR (aX gb hr rfl aR (aj (rv 0) (aj (rv 1) ao)))))) (aD (gY T.mq rfl T.qD hd (aj gM ao))) bL) (aA (RS.nox (bK (i:=2) yC.nd rfl (Or.inl rfl) (fG ao))) (aA (RS.nox (dw fY rfl (wz rfl T.iy (aj (bF (Cg rfl) rfl T.QM QW (aj (gW K6 (fP (gP (K:=K)) (rv 1) aM) aM) (aj aM ao))) (aj (bF (Ci rfl) rfl T.QS QX (aj (gW gJ (fP (gP (K:=K)) (rv 1) aM) aM) (aj (cO (K:=K) (rv 0)) ao))) ao))) (bQ (i:=3) yC.nd rfl (Or.inl rfl)) (aD (dw fY rfl (wz rfl T.iy (aj (bF (Cg rfl) rfl T.QM QW (aj (gW K6 (fP (gP (K:=K)) (rv 1) aM) aM) (aj aM ao))) (aj (bF (Ci rfl) rfl T.QS QX (aj (gW gJ (fP (gP (K:=K)) (rv 1) aM) aM) (aj (cO (K:=K) (rv 0)) ao))) ao))) (bQ (i:=4) yC.nd rfl (Or.inl rfl)) (aD (dF (bJ (Ig.or (Hz (K:=K) hu)) (mO (aj (rv 3) (aj (rv 4) ao))) (rv 1) (c7 _)) (aD (eY (lR (K:=K) jZ pX pY eG (rv 2) (aj (mO (aj (rv 3) (aj (rv 4) ao))) ao)))) bL)))))) (aD (RS.nox (bx (rv 2))))))),?_⟩;refine aF (fun zzs H1=>inF zs.length w c/\Same H H1/\zzs=[zzR x,some v,zzN,zzN,zzN]) (fun R hR=>?_) ?_
  ·refine⟨_,rfl,_,rfl,x,v,zs,w,c,rfl,vt,dv,_,rfl,?_⟩;refine cN (fun h1=>⟨by decide,hE (jl (by simpa only[jr] using h1)) H (Same.refl _)⟩) (fun h1=>hR _ _ ⟨cJ (by simpa only[rG] using h1),Same.refl _,rfl⟩)
  rintro zzs H1 ⟨hin,s1,rfl⟩;have hq':=hq hin;rw[<- T7 z6 w6 hin] at hq';obtain⟨⟨c1,c2⟩,⟨c3,c4⟩⟩:=id hin;refine aF (fun zzs H2=>∃ q,H q=none/\Same H H2/\H2 q=some (.lst [])/\zzs=[zzR x,some v,zzR q,zzN,zzN]) (fun R hR=>?_) ?_
  ·exact⟨by decide,fun q hq'=>hR _ _ ⟨q,s1.free hq',s1.and hq',aC,rfl⟩⟩
  rintro zzs H2 ⟨q,nq,s2,hq2,rfl⟩;have m1:(if(0:Int)>c.1-1 then(0:Int) else c.1-1)=max (c.1-1) 0:=Nm _;have m2:(if(zs.length:Int)<c.1+2 then(zs.length:Int) else c.1+2)=min (c.1+2) zs.length:=Nq _ _;have m3:(if(0:Int)>c.2-1 then(0:Int) else c.2-1)=max (c.2-1) 0:=Nm _;have m4:(if(w:Int)<c.2+2 then(w:Int) else c.2+2)=min (c.2+2) w:=Nq _ _;have bx1:=RN (a:=c.1-1) (by lia);have bx2:=RN (a:=c.2-1) (by lia);have bn1:=RV (a:=c.1+2) (b:=(zs.length:Int)) (by lia) (by lia) (by lia);have bn2:=RV (a:=c.2+2) (b:=(w:Int)) (by lia) (by lia) (by lia);refine aF (fun zzs H3=>∃(v3 v4:Option V),Fr K H H3 q ((K9 zs.length w c).map au)/\zzs=[zzR x,some v,zzR q,v3,v4]) (fun R hR=>?_) ?_
  ·obtain⟨dx,l,hx,hl⟩:=(vt.mono s2).ob;refine⟨_,rfl,zT (dv.mono s2) ⟨_,_,rfl,rfl,_,_,rfl,?_⟩⟩;refine⟨_,rfl,zT (dv.mono s2) ⟨_,rfl,x,Z.View,dx,_,_,rfl,hx,T.dZ,T.d9,qG _ _ _,_,_,rfl,_,_,rfl,?_⟩⟩;rw[m1,m2];refine⟨TJ bx1 bn1,?_⟩;refine gA (lo:=max (c.1-1) 0) (n:=(min (c.1+2) (zs.length:Int)-max (c.1-1) 0).toNat) (fun i zzs H3=>∃(v3 v4:Option V),Same H H3/\Ls K H3 q ((pB w c (max (c.1-1) 0) i).map au)/\zzs=[zzR x,some v,zzR q,v3,v4]) ⟨none,none,s2,⟨[],hq2,.nil⟩,rfl⟩ (fun i zzs H3 hi hh=>?_) (fun zzs H3 hh=>?_)
   ·obtain⟨v3,v4,g1,g2,rfl⟩:=hh;obtain⟨dx,l,hx,hl⟩:=(vt.mono g1).ob;refine⟨_,rfl,zX (dv.mono g1) ⟨_,_,rfl,rfl,_,_,rfl,?_⟩⟩;refine⟨_,rfl,zX (dv.mono g1) ⟨_,rfl,x,Z.View,dx,_,_,rfl,hx,T.dZ,T.dO,uD _ _ _,_,_,rfl,_,_,rfl,?_⟩⟩;rw[m3,m4];refine⟨TJ bx2 bn2,?_⟩;have base0:pB w c (max (c.1-1) 0) (i+1)=pB w c (max (c.1-1) 0) i++yr w c (max (c.1-1) 0+(i:Int)):=by
     unfold pB;rw[xU,Ay];simp
    have pl:∀ n,(pB w c (max (c.1-1) 0) n).length<=n*6:=by
     intro n
     induction n with
     |zero=>simp[pB]
     |succ n ih=>
      unfold pB at ih ⊢;rw[xU,Ay,cC];have:([n].flatMap fun k:Nat=>yr w c (max (c.1-1) 0+(k:Int))).length<=6:=by
       simp only[xQ,List.flatMap_nil,rJ];unfold yr;refine dN (jL _ _) ?_;rw[aZ,jM];exact YM bx2.1 bn2.2
      exact a1F ih this
    refine gA (lo:=max (c.2-1) 0) (n:=(min (c.2+2) (w:Int)-max (c.2-1) 0).toNat) (fun j zzs H3=>∃ v4:Option V,Same H H3/\Ls K H3 q ((pB w c (max (c.1-1) 0) i++((List.range j).map fun k:Nat=>(max (c.1-1) 0+(i:Int),max (c.2-1) 0+(k:Int))).filter fun y=>!decide (y=c)).map au)/\zzs=[zzR x,some v,zzR q,zzI (max (c.1-1) 0+(i:Int)),v4])
     ⟨v4,g1,by simpa using g2,rfl⟩ (fun j zzs H3 hj hh=>?_) (fun zzs H3 hh=>?_)
    ·obtain⟨v4,g1,⟨xs,ex,D⟩,rfl⟩:=hh;have step:∀ b:Bool,b=!decide ((max (c.1-1) 0+(i:Int),max (c.2-1) 0+(j:Int))=c)->(((List.range (j+1)).map fun k:Nat=>(max (c.1-1) 0+(i:Int),max (c.2-1) 0+(k:Int))).filter fun y=>!decide (y=c))=(((List.range j).map fun k:Nat=>(max (c.1-1) 0+(i:Int),max (c.2-1) 0+(k:Int))).filter fun y=>!decide (y=c))++(if b=true then [(max (c.1-1) 0+(i:Int),max (c.2-1) 0+(j:Int))] else []):=by
      intro b hb;rw[xU,eE,Br,dM,Bl,Gf,List.filter_nil,<- hb]
     have ll:xs.length<=100:=by
      rw[D.length,aZ,cC];have:=pl i;have h2:(((List.range j).map fun k:Nat=>(max (c.1-1) 0+(i:Int),max (c.2-1) 0+(k:Int))).filter fun y=>!decide (y=c)).length<=j:=dN (jL _ _) (by rw[aZ,jM];exact bB _);exact a1b this h2 (R6 bx1.1 bn1.2 hi) (R6 bx2.1 bn2.2 hj)
     refine⟨_,rfl,_,rfl,sz rfl,fun t ht=>?_⟩;have st:=Same.put (o:=.tup [V.int (max (c.1-1) 0+(i:Int)),V.int (max (c.2-1) 0+(j:Int))]) ht;refine⟨_,rfl,.inr ⟨au (max (c.1-1) 0+(i:Int),max (c.2-1) 0+(j:Int)),au c,rfl,nH,dv.mono (g1.trans st),rfl,z7 _,?_⟩⟩;refine⟨_,rfl,?_⟩;show if(!eqD _ _)=true then _ else _
     rw[YX];refine cN (fun hb=>?_) (fun hb=>?_)
     ·refine⟨_,rfl,.inl ⟨rfl,_,SqL.of (st _ _ ex)⟩,_,rfl,_,rfl,sz rfl,fun t2 ht2=>?_⟩;have st2:=Same.put (o:=.tup [V.int (max (c.1-1) 0+(i:Int)),V.int (max (c.2-1) 0+(j:Int))]) ht2;have e2:=st2 _ _ (st _ _ ex);refine⟨q,xs,_,rfl,rfl,e2,ltl (M7 ll (by decide)),?_⟩;refine⟨_,(SameBut.refl q _).put.of (g1.trans (st.trans st2)) nq,⟨xs++[.ref t2],aC,?_⟩,rfl⟩;rw[step true hb.symm,<- vh,eE];exact((SameBut.refl q _).put.cells e2 (D.mono (st.trans st2))).append (.cons ((SameBut.refl q _).put.cell e2 nH) .nil)
     ·refine⟨_,g1.trans st,⟨xs,st _ _ ex,?_⟩,rfl⟩;rw[step false hb.symm];simpa using D.mono st
    ·obtain⟨v4,g1,g2,rfl⟩:=hh;exact⟨_,_,g1,by rw[base0];exact g2,rfl⟩
   ·obtain⟨v3,v4,g1,g2,rfl⟩:=hh;exact hR _ _ ⟨v3,v4,⟨g1,nq,g2⟩,rfl⟩
  rintro zzs H3 ⟨v3,v4,fr,rfl⟩;exact⟨_,rfl,hq' q H3 fr⟩
theorem Ie{f:Addr}{fd:FuncData} (F:Fun K "open_near" "open_near" qW f fd) (T:Txt K mg Z) (jP:Df P w K mg base 2 "near" ["view","cell"] (mU K Z.View Z.NoCell)) (bC:Df P w K mg base 2 "is_closed" ["view","cell"] (gZ K Z.View)) :
  cF P w K mg base (CXE P w) 3 f fd ["view","cell"] (pJ K Z.View aL):=by
 refine F.rok Fe (fun vs H Q E h=>?_) (fun cdv A outer s H vs Q E hr h=>?_)
 ·obtain⟨x,v,zs,w,c,rfl,_⟩:=h;rfl
 ·obtain⟨x,v,zs,w,c,rfl,vt,dv,hin,hq⟩:=h;refine⟨_,(aD (bx (jz (by rfl) rfl (bD (K:=K) (aX jP hr rfl aR (aj (rv 0) (aj (rv 1) ao)))) (fun _ _ _=>(iK (lW (iR (aX bC hr rfl aR (aj (rv 1) (aj (rv 0) ao))))))) (fun _ _ _=>(rv 0))))),?_⟩;refine⟨_,rfl,_,rfl,x,v,zs,w,c,rfl,vt,dv,fun _ q H1 fr=>?_,fun z=>absurd hin z⟩;obtain⟨xs,ex,D⟩:=fr.ls;refine⟨q,rfl,⟨_,SqL.of ex⟩,gU (K:=K) (xs:=fO zs.length w c) (enc:=au) (cG (SqL.of ex)) D (small (by have:=iB zs.length w c;lia)) (fun y=>!aH zs w y) au (fun y hy u H2 s2 d G hG=>?_) (fun y hy _ u H2 s2 d G hG=>⟨_,rfl,hG _ _ (Same.refl _) d⟩) (fun ys H2 s2 D2 q2 hq2=>?_)⟩
  ·exact⟨_,rfl,_,rfl,x,u,zs,w,y,rfl,vt.mono (fr.same.trans s2),d,_,rfl,hG _ (Same.refl _)⟩
  ·exact hq q2 _ ⟨fr.same.trans (s2.and hq2),(fr.same.trans s2).free hq2,.new hq2 D2⟩
theorem BP{f:Addr}{fd:FuncData} (F:Fun K "closed_near" "closed_near" nu f fd) (T:Txt K mg Z) (jP:Df P w K mg base 2 "near" ["view","cell"] (mU K Z.View Z.NoCell)) (bC:Df P w K mg base 2 "is_closed" ["view","cell"] (gZ K Z.View)) :
  cF P w K mg base (CXE P w) 3 f fd ["view","cell"] (pJ K Z.View aB):=by
 refine F.rok Ag (fun vs H Q E h=>?_) (fun cdv A outer s H vs Q E hr h=>?_)
 ·obtain⟨x,v,zs,w,c,rfl,_⟩:=h;rfl
 ·obtain⟨x,v,zs,w,c,rfl,vt,dv,hin,hq⟩:=h;refine⟨_,(aD (bx (jz (by rfl) rfl (bD (K:=K) (aX jP hr rfl aR (aj (rv 0) (aj (rv 1) ao)))) (fun _ _ _=>(iK (iR (aX bC hr rfl aR (aj (rv 1) (aj (rv 0) ao)))))) (fun _ _ _=>(rv 0))))),?_⟩;refine⟨_,rfl,_,rfl,x,v,zs,w,c,rfl,vt,dv,fun _ q H1 fr=>?_,fun z=>absurd hin z⟩;obtain⟨xs,ex,D⟩:=fr.ls;refine⟨q,rfl,⟨_,SqL.of ex⟩,gU (K:=K) (xs:=fO zs.length w c) (enc:=au) (cG (SqL.of ex)) D (small (by have:=iB zs.length w c;lia)) (fun y=>aH zs w y) au (fun y hy u H2 s2 d G hG=>?_) (fun y hy _ u H2 s2 d G hG=>⟨_,rfl,hG _ _ (Same.refl _) d⟩) (fun ys H2 s2 D2 q2 hq2=>?_)⟩
  ·exact⟨_,rfl,_,rfl,x,u,zs,w,y,rfl,vt.mono (fr.same.trans s2),d,_,rfl,hG _ (Same.refl _)⟩
  ·exact hq q2 _ ⟨fr.same.trans (s2.and hq2),(fr.same.trans s2).free hq2,.new hq2 D2⟩
theorem Q9{f:Addr}{fd:FuncData} (F:Fun K "closed" "closed" Ac f fd) (T:Txt K mg Z) (kO:Df P w K mg base 1 "cells" ["view"] (pI K Z.View)) (bC:Df P w K mg base 2 "is_closed" ["view","cell"] (gZ K Z.View)) :
  cF P w K mg base (CXE P w) 3 f fd ["view"] (nC K Z.View aU):=by
 refine F.rok Qt (fun vs H Q E h=>?_) (fun cdv A outer s H vs Q E hr h=>?_)
 ·obtain⟨x,zs,w,rfl,_⟩:=h;rfl
 ·obtain⟨x,zs,w,rfl,vt,hq⟩:=h;have l36:zs.length*w<=6*6:=mF vt.vw.le vt.vw.w6;refine⟨_,(aD (bx (jz (by rfl) rfl (bD (K:=K) (aX kO hr rfl aR (aj (rv 0) ao))) (fun _ _ _=>(iK (iR (aX bC hr rfl aR (aj (rv 1) (aj (rv 0) ao)))))) (fun _ _ _=>(rv 0))))),?_⟩;refine⟨_,rfl,x,zs,w,rfl,vt,fun q H1 fr=>?_⟩;obtain⟨xs,ex,D⟩:=fr.ls;refine⟨q,rfl,⟨_,SqL.of ex⟩,gU (K:=K) (xs:=bI zs.length w) (enc:=au) (cG (SqL.of ex)) D (small (by rw[fK];lia)) (aH zs w) au (fun y hy u H2 s2 d G hG=>?_) (fun y hy _ u H2 s2 d G hG=>⟨_,rfl,hG _ _ (Same.refl _) d⟩) (fun ys H2 s2 D2 q2 hq2=>?_)⟩
  ·exact⟨_,rfl,_,rfl,x,u,zs,w,y,rfl,vt.mono (fr.same.trans s2),d,_,rfl,hG _ (Same.refl _)⟩
  ·exact hq q2 _ ⟨fr.same.trans (s2.and hq2),(fr.same.trans s2).free hq2,.new hq2 D2⟩
theorem Ss{f:Addr}{fd:FuncData} (F:Fun K "edge" "edge" Kf f fd) (T:Txt K mg Z) (gn:Df P w K mg base 3 "closed" ["view"] (nC K Z.View aU)) (cT:Df P w K mg base 3 "open_near" ["view","cell"] (pJ K Z.View aL)) :
  cF P w K mg base (CXE P w) 4 f fd ["view"] (nC K Z.View bO):=by
 refine F.rok Xz (fun vs H Q E h=>?_) (fun cdv A outer s H vs Q E hr h=>?_)
 ·obtain⟨x,zs,w,rfl,_⟩:=h;rfl
 ·obtain⟨x,zs,w,rfl,vt,hq⟩:=h;have l36:=dR vt.vw;refine⟨_,(aD (bx (jz (by rfl) rfl (bD (K:=K) (aX gn hr rfl aR (aj (rv 0) ao))) (fun _ _ _=>(iK (bJ CN (bF (iD (K:=K)) rfl T.gH dY (aj (aX cT hr rfl aR (aj (rv 1) (aj (rv 0) ao))) ao)) aM (c7 _)))) (fun _ _ _=>(rv 0))))),?_⟩;refine⟨_,rfl,x,zs,w,rfl,vt,fun q H1 fr=>?_⟩;obtain⟨xs,ex,D⟩:=fr.ls;refine⟨q,rfl,⟨_,SqL.of ex⟩,gU (K:=K) (xs:=aU zs w) (enc:=au) (cG (SqL.of ex)) D (small (by lia)) (fun y=>decide (0<(aL zs w y).length)) au (fun y hy u H2 s2 d G hG=>?_) (fun y hy _ u H2 s2 d G hG=>⟨_,rfl,hG _ _ (Same.refl _) d⟩) (fun ys H2 s2 D2 q2 hq2=>?_)⟩
  ·refine⟨_,rfl,_,rfl,x,u,zs,w,y,rfl,vt.mono (fr.same.trans s2),d,bM.mp (bZ.mp hy).1,fun q3 H3 f3=>?_⟩;obtain⟨ws,e3,D3⟩:=f3.ls;refine .inl ⟨q3,_,rfl,.inl (SqL.of e3),_,_,rfl,rfl,_,rfl,?_⟩;rw[D3.length,aZ];have e:decide ((0:Int)<((aL zs w y).length:Nat))=decide (0<(aL zs w y).length):=by congr 1;apply propext;omega
   rw[e];exact hG _ f3.same
  ·exact hq q2 _ ⟨fr.same.trans (s2.and hq2),(fr.same.trans s2).free hq2,.new hq2 D2⟩
theorem Wz{f:Addr}{fd:FuncData} (F:Fun K "far" "far" TY f fd) (T:Txt K mg Z) (gn:Df P w K mg base 3 "closed" ["view"] (nC K Z.View aU)) (cT:Df P w K mg base 3 "open_near" ["view","cell"] (pJ K Z.View aL)) :
  cF P w K mg base (CXE P w) 4 f fd ["view"] (nC K Z.View jY):=by
 refine F.rok a0p (fun vs H Q E h=>?_) (fun cdv A outer s H vs Q E hr h=>?_)
 ·obtain⟨x,zs,w,rfl,_⟩:=h;rfl
 ·obtain⟨x,zs,w,rfl,vt,hq⟩:=h;have l36:=dR vt.vw;have hu:=jQ hr;refine⟨_,(aD (bx (jz (by rfl) rfl (bD (K:=K) (aX gn hr rfl aR (aj (rv 0) ao))) (fun _ _ _=>(iK (bJ (o7.or (nW (K:=K) hu)) (bF (iD (K:=K)) rfl T.gH dY (aj (aX cT hr rfl aR (aj (rv 1) (aj (rv 0) ao))) ao)) aM (c7 _)))) (fun _ _ _=>(rv 0))))),?_⟩;refine⟨_,rfl,x,zs,w,rfl,vt,fun q H1 fr=>?_⟩;obtain⟨xs,ex,D⟩:=fr.ls;refine⟨q,rfl,⟨_,SqL.of ex⟩,gU (K:=K) (xs:=aU zs w) (enc:=au) (cG (SqL.of ex)) D (small (by lia)) (fun y=>decide ((aL zs w y).length=0)) au (fun y hy u H2 s2 d G hG=>?_) (fun y hy _ u H2 s2 d G hG=>⟨_,rfl,hG _ _ (Same.refl _) d⟩) (fun ys H2 s2 D2 q2 hq2=>?_)⟩
  ·refine⟨_,rfl,_,rfl,x,u,zs,w,y,rfl,vt.mono (fr.same.trans s2),d,bM.mp (bZ.mp hy).1,fun q3 H3 f3=>?_⟩;obtain⟨ws,e3,D3⟩:=f3.ls;refine .inl ⟨q3,_,rfl,.inl (SqL.of e3),.inl ⟨rfl,_,rfl,?_⟩⟩;rw[D3.length,aZ,wX];have e:decide (((aL zs w y).length:Int)=0)=decide ((aL zs w y).length=0):=by congr 1;apply propext;lia
   rw[e];exact hG _ f3.same
  ·exact hq q2 _ ⟨fr.same.trans (s2.and hq2),(fr.same.trans s2).free hq2,.new hq2 D2⟩
end
theorem vR{K:ak}{H:Hp}{m:Cell}:∀ {wt:List Cell} {xs:List V},aV K H xs ((wt++[m]).map au)->∃ ys u,xs=ys++[u]/\aV K H ys (wt.map au)/\Den K H u (au m)
 |[],xs,D=>by
  cases D with
  |cons h t=>
   cases t;exact⟨[],_,rfl,.nil,h⟩
 |c::wt,xs,D=>by
  cases D with
  |cons h t=>
   obtain⟨ys,u,rfl,a,b⟩:=vR (wt:=wt) t;exact⟨_::ys,u,rfl,.cons h a,b⟩
theorem yK{a b:List Cell}(h1:a.Pairwise aP)(h2:b.Pairwise aP)(hm:∀ y,y∈a↔y∈b):a=b:=by
 have pm:a.Perm b:=(KZ (gk h1) (gk h2)).mpr hm;refine List.Perm.eq_of_pairwise (le:=aP) (fun x y _ _ h1 h2=>?_) h1 h2 pm;unfold aP at h1 h2;lia
def uY(K:ak)(C:Addr):Sp:=fun vs H Q _=>∃(x:Addr)(v:V)(zs:List Str)(w:Nat)(c:Cell),vs=[.ref x,v]/\bW C H x zs w/\Den K H v (au c)/\inF zs.length w c/\aH zs w c=false/\Q (.int (fL zs c)) H
def Am(K:ak)(C:Addr):Sp:=fun vs H Q _=>∃(x l:Addr)(zs:List Str)(w:Nat)(cs:List Cell),vs=[.ref x,.ref l]/\bW C H x zs w/\Ls K H l (cs.map au)/\cs.length<=1000/\∀ H',Same H H'->Q (.bl (layB zs w cs)) H'
def oA(K:ak)(C:Addr):Sp:=fun vs H Q _=>∃(x l:Addr)(v:V)(zs:List Str)(w:Nat)(c:Cell)(cs:List Cell),vs=[.ref x,v,.ref l]/\bW C H x zs w/\Den K H v (au c)/\inF zs.length w c/\Ls K H l (cs.map au)/\∀ H',Same H H'->Q (.int (mW zs.length w c cs)) H'
def O5(K:ak)(C BL:Addr):Sp:=fun vs H Q E=>∃(x l:Addr)(zs:List Str)(w:Nat)(cs:List Cell),vs=[.ref x,.ref l]/\bW C H x zs w/\Ls K H l (cs.map au)/\cs.length<=1000 /\
 (layB zs w cs=true->∀ H',Same H H'->Q (.bl (fu zs w cs)) H')/\(layB zs w cs=false->∀ H',Same H H'->E (.ref BL) none H')
section
variable{P:Program}{w:World}{K:ak}{mg:Str->Option Value}{base:Heap}{Z:Adr}
theorem JZ{f:Addr}{fd:FuncData} (F:Fun K "figure" "figure" Ad f fd) (T:Txt K mg Z):cF P w K mg base (CXE P w) 1 f fd ["view","cell"] (uY K Z.View):=by
 refine F.rok Qu (fun vs H Q E h=>?_) (fun cdv A outer s H vs Q E hr h=>?_)
 ·obtain⟨x,v,zs,w,c,rfl,_⟩:=h;rfl
 ·obtain⟨x,v,zs,w,c,rfl,vt,dv,hin,hc,hq⟩:=h;obtain⟨dx,l,hx,hl⟩:=vt.ob;have dg:=vt.vw.digit hin hc;refine⟨_,(aD (bx (lV Oc rfl T.Y5 YC (aj (fP (gP (K:=K)) (fP (gP (K:=K)) (cO (K:=K) (rv 0)) (fP (gP (K:=K)) (rv 1) aM)) (fP (gP (K:=K)) (rv 1) aM)) ao)))),?_⟩;obtain⟨⟨a1,a2⟩,⟨a3,a4⟩⟩:=id hin;have e1:c.1=((c.1.toNat:Nat):Int):=by lia
  have e2:c.2=((c.2.toNat:Nat):Int):=by lia
  have i1:c.1.toNat<zs.length:=by lia
  refine⟨_,rfl,x,Z.View,dx,_,_,rfl,hx,T.dZ,T.j5,JC _ _ _,_,rfl,zT dv ?_⟩;rw[e1];refine Tz (SqL.of hl) i1 ⟨_,rfl,zX dv ?_⟩;rw[e2];exact NT (SqL.of hl) vt.vw.toRect i1 (by lia) ⟨_,rfl,dg.1,by lia,hq⟩
theorem Ib{f:Addr}{fd:FuncData} (F:Fun K "is_laying" "is_laying" qU f fd) (T:Txt K mg Z) (bC:Df P w K mg base 2 "is_closed" ["view","cell"] (gZ K Z.View)):cF P w K mg base (CXE P w) 3 f fd ["view","laying"] (Am K Z.View):=by
 refine F.rok uT (fun vs H Q E h=>?_) (fun cdv A outer s H vs Q E hr h=>?_)
 ·obtain⟨x,l,zs,w,cs,rfl,_⟩:=h;rfl
 ·obtain⟨x,l,zs,w,cs,rfl,vt,⟨us,eu,D⟩,hc,hq⟩:=h;have hu:=jQ hr;have lu:us.length=cs.length:=by rw[D.length,aZ]
  refine⟨_,(aA (dw fY rfl (wz rfl T.iy (aj aM (aj (bF (iD (K:=K)) rfl T.gH dY (aj (rv 1) ao)) ao))) (bQ (i:=2) uT.nd rfl (Or.inl rfl)) (aD (dF (bJ (a0Z (K:=K) hu) (fP (gP (K:=K)) (rv 1) (gW K6 (rv 2) aM)) (fP (gP (K:=K)) (rv 1) (rv 2)) (c7 _)) (aD (bx pC)) bL))) (aD (bx (bF (k_all (K:=K) rfl) rfl T.Mz Jo (aj (jz (by rfl) rfl (bD (K:=K) (rv 1)) (fun _ _ _=>uP) (fun _ _ _=>(aX bC hr rfl aR (aj (rv 1) (aj (rv 0) ao))))) ao))))),?_⟩;refine aF (fun zzs H1=>∃ v2:Option V,H1=H/\GF cs=true/\zzs=[zzR x,zzR l,v2]) (fun R hR=>?_) ?_
  ·refine⟨_,rfl,.inl ⟨l,_,rfl,.inl (SqL.of eu),_,_,rfl,?_⟩⟩;refine⟨⟨by omega,by omega,by omega,by omega⟩,?_⟩;refine gA (lo:=1) (n:=((us.length:Int)-1).toNat) (fun i zzs H1=>∃ v2:Option V,H1=H/\(∀ j,j<i->fJ (cs.getD j (0,0)) (cs.getD (j+1) (0,0))=true)/\zzs=[zzR x,zzR l,v2]) ⟨none,rfl,fun j hj=>absurd hj (Nat.not_lt_zero _),rfl⟩ (fun i zzs H1 hi hh=>?_) (fun zzs H1 hh=>?_)
   ·obtain⟨v2,rfl,g,rfl⟩:=hh;have b1:i<us.length:=by omega
    have b2:i+1<us.length:=by omega
    have e1:us[i]?=some us[i]:=by simp[b1]
    have e2:us[i+1]?=some us[i+1]:=by simp[b2]
    obtain⟨d1,f1,D1⟩:=D.get e1;obtain⟨d2,f2,D2⟩:=D.get e2;rw[dG] at f1 f2;obtain⟨c1,g1,rfl⟩:=j8.mp f1;obtain⟨c2,g2,rfl⟩:=j8.mp f2;have a1:atI us (1+(i:Int)-1)=some us[i]:=by
     have:(1+(i:Int)-1)=((i:Nat):Int):=by omega
     rw[this];exact gG e1
    have a2:atI us (1+(i:Int))=some us[i+1]:=by
     have:(1+(i:Int))=((i+1:Nat):Int):=by omega
     rw[this];exact gG e2
    have k1:cs.getD i (0,0)=c1:=by rw[fU,g1];rfl
    have k2:cs.getD (i+1) (0,0)=c2:=by rw[fU,g2];rfl
    refine⟨_,rfl,_,rfl,_,_,rfl,rfl,.inl ⟨l,_,_,_,rfl,rfl,SqL.of eu,a1,?_⟩⟩;refine⟨_,rfl,_,rfl,.inl ⟨l,_,_,_,rfl,rfl,SqL.of eu,a2,?_⟩⟩;refine⟨c1,c2,D1,D2,_,rfl,?_⟩;refine cN (fun h1=>?_) (fun h1=>?_)
    ·have:layB zs w cs=false:=by
      unfold layB;have:GF cs=false:=by
       cases e:GF cs
       ·rfl
       ·unfold GF at e;rw[jt] at e;have:=e i (cH.mpr (by omega));rw[k1,k2] at this;rw[this] at h1;cases h1
      rw[this,xV]
     rw[<- this];exact hq _ (Same.refl _)
    ·refine⟨_,rfl,fun j hj=>?_,rfl⟩;by_cases hj':j<i
     ·exact g j hj'
     ·have:j=i:=by omega
      subst this;rw[k1,k2];simpa using h1
   ·obtain⟨v2,rfl,g,rfl⟩:=hh;refine hR _ _ ⟨v2,rfl,?_,rfl⟩;unfold GF;rw[jt];intro j hj;rw[cH] at hj;exact g j (by omega)
  rintro zzs H1 ⟨v2,rfl,ha,rfl⟩;have eq:layB zs w cs=cs.all (aH zs w):=by unfold layB;rw[ha,rM]
  rw[eq] at hq;refine⟨_,rfl,l,rfl,⟨_,SqL.of eu⟩,comp_map (K:=K) (xs:=cs) (enc:=au) (cG (SqL.of eu)) D (small (by omega)) (fun c=>Dt.bl (aH zs w c)) (fun c hc' v H2 s2 d G hG=>?_) (fun ys H2 s2 D2 p hp=>?_)⟩
  ·exact⟨_,rfl,_,rfl,x,v,zs,w,c,rfl,vt.mono s2,d,hG _ _ (Same.refl _) (.bl _)⟩
  ·have e:ys=(cs.map (aH zs w)).map V.bl:=by
    refine aV.Eo (K:=K) (H:=H2) ?_;rw[ni];exact D2
   refine⟨p,cs.map (aH zs w),rfl,SqL.of (by rw[aC,e]),?_⟩;rw[Gu];exact hq _ (s2.and hp)
theorem Qd{f:Addr}{fd:FuncData} (F:Fun K "stones_near" "stones_near" nA f fd) (T:Txt K mg Z) (jP:Df P w K mg base 2 "near" ["view","cell"] (mU K Z.View Z.NoCell)):cF P w K mg base (CXE P w) 3 f fd ["view","cell","laying"] (oA K Z.View):=by
 refine F.rok Ah (fun vs H Q E h=>?_) (fun cdv A outer s H vs Q E hr h=>?_)
 ·obtain⟨x,l,v,zs,w,c,cs,rfl,_⟩:=h;rfl
 ·obtain⟨x,l,v,zs,w,c,cs,rfl,vt,dv,hin,hl,hq⟩:=h;have hu:=jQ hr;have hu':=Hy hr;refine⟨_,(aD (bx (bF (iD (K:=K)) rfl T.gH dY (aj (jz (by rfl) rfl (bD (K:=K) (aX jP hr rfl aR (aj (rv 0) (aj (rv 1) ao)))) (fun _ _ _=>(iK (bJ (j6.or (wZ (K:=K) hu')) (rv 0) (rv 3) (by rfl)))) (fun _ _ _=>(rv 0))) ao)))),?_⟩;refine⟨_,rfl,_,rfl,x,v,zs,w,c,rfl,vt,dv,fun _ q H1 fr=>?_,fun z=>absurd hin z⟩;obtain⟨xs,ex,D⟩:=fr.ls;refine⟨q,rfl,⟨_,SqL.of ex⟩,gU (K:=K) (xs:=fO zs.length w c) (enc:=au) (cG (SqL.of ex)) D (small (by have:=iB zs.length w c;omega)) (fun y=>decide (y∈cs)) au (fun y hy u H2 s2 d G hG=>?_) (fun y hy _ u H2 s2 d G hG=>⟨_,rfl,hG _ _ (Same.refl _) d⟩) (fun ys H2 s2 D2 q2 hq2=>?_)⟩
  ·exact⟨_,rfl,_,rfl,.inr (zU d (hl.mono (fr.same.trans s2)).den ⟨_,rfl,hG _ (Same.refl _)⟩)⟩
  ·refine .inl ⟨q2,_,rfl,.inl (SqL.of aC),?_⟩;rw[D2.length,aZ];exact hq _ (fr.same.trans (s2.and hq2))
theorem Sg{f:Addr}{fd:FuncData} (F:Fun K "keeps" "keeps" EY f fd) (T:Txt K mg Z) (iU:Df P w K mg base 3 "is_laying" ["view","laying"] (Am K Z.View)) (kO:Df P w K mg base 1 "cells" ["view"] (pI K Z.View)) (bC:Df P w K mg base 2 "is_closed" ["view","cell"] (gZ K Z.View)) (jc:Df P w K mg base 1 "figure" ["view","cell"] (uY K Z.View)) (gw:Df P w K mg base 3 "stones_near" ["view","cell","laying"] (oA K Z.View)) :
  cF P w K mg base (CXE P w) 4 f fd ["view","laying"] (O5 K Z.View Z.BadLaying):=by
 refine F.Ey IK (fun vs H Q E h=>?_) (fun cdv A outer s H vs Q E hr h=>?_)
 ·obtain⟨x,l,zs,w,cs,rfl,_⟩:=h;rfl
 ·obtain⟨x,l,zs,w,cs,rfl,vt,hl,hc,hq,hE⟩:=h;have hd:=zA hr;have hu:=jQ hr;have l36:zs.length*w<=6*6:=mF vt.vw.le vt.vw.w6;refine⟨_,(aA (dF (RT.nox (lW (iR (aX iU hr rfl aR (aj (rv 0) (aj (rv 1) ao)))))) (aD (gY T.jJ rfl T.qC hd (aj gM ao))) bL) (aA (RS.nox (dw fY rfl (bD (K:=K) (aX kO hr rfl aR (aj (rv 0) ao))) (bQ (i:=2) IK.nd rfl (Or.inl rfl)) (aD (dF (Ab (tK (lW (iR (aX bC hr rfl aR (aj (rv 0) (aj (rv 2) ao))))) (pD (bJ (Ig.or (Hz (K:=K) hu)) (aX jc hr rfl aR (aj (rv 0) (aj (rv 2) ao))) (aX gw hr rfl aR (aj (rv 0) (aj (rv 2) (aj (rv 1) ao)))) (c7 _))))) (aD (bx pC)) bL)))) (aD (RS.nox (bx pC))))),?_⟩;refine aF (fun zzs H1=>layB zs w cs=true/\Same H H1/\zzs=[zzR x,zzR l,zzN]) (fun R hR=>?_) ?_
  ·refine⟨_,rfl,_,rfl,x,l,zs,w,cs,rfl,vt,hl,hc,fun H1 s1=>?_⟩;refine⟨_,rfl,?_⟩;refine cN (fun h1=>⟨by decide,hE (by simpa only[jr] using h1) _ s1⟩) (fun h1=>hR _ _ ⟨by simpa only[rG] using h1,s1,rfl⟩)
  rintro zzs H1 ⟨hy,s1,rfl⟩;have hq':=hq hy;refine aF (fun zzs H2=>∃ v2:Option V,Same H H2/\fu zs w cs=true/\zzs=[zzR x,zzR l,v2]) (fun R hR=>?_) ?_
  ·refine⟨_,rfl,x,zs,w,rfl,vt.mono s1,fun q H2 fr=>?_⟩;obtain⟨xs,ex,D⟩:=fr.ls;have lx:xs.length=(bI zs.length w).length:=by rw[D.length,aZ]
   refine⟨q,rfl,⟨_,SqL.of ex⟩,?_⟩;refine dI (K:=K) (xs:=xs) (fun i zzs H3=>∃ v2:Option V,Same H2 H3/\(∀ c∈(bI zs.length w).take i,(aH zs w c||pW zs w cs c)=true)/\zzs=[zzR x,zzR l,v2])
    ⟨none,Same.refl _,(fun c hc=>by cases hc),rfl⟩ (fun i zzs H3 _ hh=>by obtain⟨v2,g1,_⟩:=hh;exact SqL.of (g1 _ _ ex)) (fun i u zzs H3 hu hh=>?_) (fun zzs H3 hh=>?_)
   ·obtain⟨v2,g1,g2,rfl⟩:=hh;obtain⟨d,ed,du⟩:=D.get hu;rw[dG] at ed;obtain⟨c,ec,rfl⟩:=j8.mp ed;have hin:inF zs.length w c:=bM.mp (fQ ec);have sA:=s1.trans (fr.same.trans g1);have nxt:∀ H4,Same H3 H4->(aH zs w c||pW zs w cs c)=true->∃ v2:Option V,Same H2 H4/\(∀ c∈(bI zs.length w).take (i+1),(aH zs w c||pW zs w cs c)=true)/\[zzR x,zzR l,some u]=[zzR x,zzR l,v2]:=fun H4 s4 hb=>⟨_,g1.trans s4,fun c' hc'=>by
      rw[kI,ec] at hc';rcases cB.mp hc' with z|z
      ·exact g2 c' z
      ·rw[cL.mp z];exact hb,rfl⟩
    have a2N:∀ b:Bool,aH zs w c=true->(aH zs w c||b)=true:=fun b z=>by rw[z];rfl
    have a2O:∀ b:Bool,pW zs w cs c=true->(b||pW zs w cs c)=true:=fun b z=>by rw[z,Mr]
    refine⟨_,rfl,_,rfl,x,u,zs,w,c,rfl,vt.mono sA,du.mono g1,?_⟩;refine⟨_,rfl,?_⟩;refine cN (fun h1=>?_) (fun h1=>nxt _ (Same.refl _) (a2N _ (by simpa only[rG] using h1)));have hcl:aH zs w c=false:=by simpa only[jr] using h1
    refine⟨_,rfl,_,rfl,x,u,zs,w,c,rfl,vt.mono sA,du.mono g1,hin,hcl,?_⟩;refine⟨_,rfl,_,rfl,_,rfl,x,l,u,zs,w,c,cs,rfl,vt.mono sA,du.mono g1,hin,hl.mono sA,fun H4 s4=>.inl ⟨rfl,_,rfl,?_⟩⟩;rw[wX];show if(!pW zs w cs c)=true then _ else _
    refine cN (fun h2=>?_) (fun h2=>nxt _ s4 (a2O _ (by simpa only[rG] using h2)));have hno:pW zs w cs c=false:=by simpa only[jr] using h2
    have:fu zs w cs=false:=by
     cases e:fu zs w cs
     ·rfl
     ·unfold fu at e;rw[jt] at e;have:=e c (bM.mpr hin);rw[hcl,hno] at this;cases this
    rw[<- this];exact hq' _ (sA.trans s4)
   ·obtain⟨v2,g1,g2,rfl⟩:=hh;refine hR _ _ ⟨v2,s1.trans (fr.same.trans g1),?_,rfl⟩;unfold fu;rw[jt];intro c hc;refine g2 c ?_;rw[lx,kE];exact hc
  rintro zzs H2 ⟨v2,s2,hk,rfl⟩;rw[hk] at hq';exact hq' _ s2
end
inductive j9(zs:List Str)(w:Nat)(c:Cell):Cell->Prop
 |base:j9 zs w c c
 |step {x t y:Cell}:j9 zs w c x->t∈aL zs w x->y∈aB zs w t->j9 zs w c y
theorem sO{zs:List Str}{w:Nat}{t y:Cell}(h:y∈aB zs w t):inF zs.length w y/\aH zs w y=true:=by
 unfold aB at h;obtain⟨h1,h2⟩:=bZ.mp h;exact⟨qK h1,h2⟩
theorem Ih{zs:List Str}{w:Nat}{t y:Cell}(h:y∈aL zs w t):inF zs.length w y:=by
 unfold aL at h;exact qK (bZ.mp h).1
theorem j9.inF{zs:List Str}{w:Nat}{c y:Cell}(h0:L2.inF zs.length w c)(r:j9 zs w c y):L2.inF zs.length w y:=by
 cases r with
 |base=>exact h0
 |step _ _ h=>exact(sO h).1
def dh(cs:List Cell):List (List Key×V):=cs.map fun c=>(eO c,V.bl true)
theorem nJ(c:Cell):∀ cs:List Cell,pK (dh cs) (eO c)=if c∈cs then some (.bl true) else none
 |[]=>rfl
 |a::cs=>by
  show pK ((eO a,V.bl true)::dh cs) (eO c)=_;by_cases e:a=c
  ·subst e;rw[rB rfl,aJ cZ]
  ·rw[rA (fun z=>e (zH z)),nJ c cs];by_cases m:c∈cs
   ·rw[aJ m,aJ (f9 _ m)]
   ·rw[aG m,aG (fun z=>(cW.mp z).elim (fun q=>e q.symm) m)]
theorem Cu(cs:List Cell)(c:Cell)(nc:c∉cs):putK (dh cs) (eO c) (.bl true)=dh (cs++[c]):=by
 rw[zQ _ (by rw[nJ,aG nc])];unfold dh;rw[eE];rfl
structure qp(zs:List Str)(w:Nat)(c:Cell)(fd wt:List Cell):Prop where
 nd:fd.Nodup
 has:c∈fd
 rch:∀ y∈fd,j9 zs w c y
 sub:∀ y∈wt,y∈fd
 cl:∀ x∈fd,x∉wt->∀ t∈aL zs w x,∀ y∈aB zs w t,y∈fd
 ln:wt.length<=fd.length
theorem qp.len{zs:List Str}{w:Nat}{c:Cell}{fd wt:List Cell}(j:qp zs w c fd wt)(h0:inF zs.length w c)(h6:zs.length<=6)(w6:w<=6):fd.length<=36:=by
 have:=nZ (l2:=bI zs.length w) j.nd fun y hy=>bM.mpr ((j.rch y hy).inF h0)
 rw[fK] at this;have:zs.length*w<=6*6:=mF h6 w6;lia
theorem qp.done{zs:List Str}{w:Nat}{c:Cell}{fd:List Cell}(j:qp zs w c fd [])(y:Cell):y∈fd↔j9 zs w c y:=by
 refine⟨j.rch y,fun r=>?_⟩
 induction r with
 |base=>exact j.has
 |step _ ht hy ih=>exact j.cl _ ih (by intro z;cases z) _ ht _ hy
structure JoP(zs:List Str)(w:Nat)(c m:Cell)(fd wt:List Cell)(Dn:Cell->Prop):Prop where
 nd:fd.Nodup
 has:c∈fd
 rch:∀ y∈fd,j9 zs w c y
 sub:∀ y∈wt,y∈fd
 hm:m∈fd
 cl:∀ x∈fd,x∉wt->x≠m->∀ t∈aL zs w x,∀ y∈aB zs w t,y∈fd
 ln:wt.length+1<=fd.length
 dn:∀ y,Dn y->y∈fd
theorem JoP.imp{zs:List Str}{w:Nat}{c m:Cell}{fd wt:List Cell}{Dn Dn':Cell->Prop}(j:JoP zs w c m fd wt Dn)(h:∀ y,Dn' y->y∈fd):JoP zs w c m fd wt Dn':=⟨j.nd,j.has,j.rch,j.sub,j.hm,j.cl,j.ln,h⟩
theorem JoP.add{zs:List Str}{w:Nat}{c m y:Cell}{fd wt:List Cell}{Dn:Cell->Prop}(j:JoP zs w c m fd wt Dn)(ny:y∉fd)(ry:j9 zs w c y):JoP zs w c m (fd++[y]) (wt++[y]) Dn:=by
 refine⟨vm.mpr ⟨j.nd,by simp,fun a ha b hb e=>ny (by rw[<- cL.mp hb,<- e];exact ha)⟩,fW _ j.has,fun x hx=>?_,fun x hx=>?_,fW _ j.hm,fun x hx nx xm t ht z hz=>?_,?_,fun x hx=>fW _ (j.dn x hx)⟩
 ·rcases cB.mp hx with q|q
  ·exact j.rch x q
  ·rw[cL.mp q];exact ry
 ·rcases cB.mp hx with q|q
  ·exact fW _ (j.sub x q)
  ·exact fV _ q
 ·rcases cB.mp hx with q|q
  ·exact fW _ (j.cl x q (fun q2=>nx (fW _ q2)) xm t ht z hz)
  ·exact absurd (fV _ q) nx
 ·have:=j.ln;rw[cC,cC,jK];lia
theorem qp.pop{zs:List Str}{w:Nat}{c m:Cell}{fd wt:List Cell}(j:qp zs w c fd (wt++[m])):JoP zs w c m fd wt (fun _=>False):=by
 refine⟨j.nd,j.has,j.rch,fun y hy=>j.sub y (fW _ hy),j.sub m (fV _ (cL.mpr rfl)),fun x hx nx xm=>j.cl x hx fun z=>?_,?_,fun y hy=>hy.elim⟩
 ·rcases cB.mp z with q|q
  ·exact nx q
  ·exact xm (cL.mp q)
 ·have:=j.ln;rw[cC,jK] at this;exact this
theorem JoP.inv{zs:List Str}{w:Nat}{c m:Cell}{fd wt:List Cell}{Dn:Cell->Prop}(j:JoP zs w c m fd wt Dn)(h:∀ t∈aL zs w m,∀ y∈aB zs w t,Dn y):qp zs w c fd wt:=by
 refine⟨j.nd,j.has,j.rch,j.sub,fun x hx nx t ht y hy=>?_,dN (u9 _) j.ln⟩;by_cases e:x=m
 ·subst e;exact j.dn y (h t ht y hy)
 ·exact j.cl x hx nx e t ht y hy
theorem JoP.len{zs:List Str}{w:Nat}{c m:Cell}{fd wt:List Cell}{Dn:Cell->Prop}(j:JoP zs w c m fd wt Dn)(h0:inF zs.length w c)(h6:zs.length<=6)(w6:w<=6):fd.length<=36:=by
 have:=nZ (l2:=bI zs.length w) j.nd fun y hy=>bM.mpr ((j.rch y hy).inF h0)
 rw[fK] at this;have:zs.length*w<=6*6:=mF h6 w6;lia
def Al(K:ak)(C:Addr):Sp:=fun vs H Q _=>∃(x:Addr)(v:V)(zs:List Str)(w:Nat)(c:Cell),vs=[.ref x,v]/\bW C H x zs w/\Den K H v (au c)/\inF zs.length w c /\
 ∀(q:Addr)(H':Hp)(ds:List Cell),H q=none->Same H H'->Ls K H' q (ds.map au)->ds.Pairwise aP->(∀ y,y∈ds↔j9 zs w c y)->Q (.ref q) H'
section
variable{P:Program}{w:World}{K:ak}{mg:Str->Option Value}{base:Heap}{Z:Adr}
theorem Qc{f:Addr}{fd:FuncData} (F:Fun K "joined" "joined" Af f fd) (T:Txt K mg Z) (cT:Df P w K mg base 3 "open_near" ["view","cell"] (pJ K Z.View aL)) (d7:Df P w K mg base 3 "closed_near" ["view","cell"] (pJ K Z.View aB)) :
  cF P w K mg base (CXE P w) 4 f fd ["view","cell"] (Al K Z.View):=by
 refine F.rok lD (fun vs H Q E h=>?_) (fun cdv A outer s H vs Q E hr h=>?_)
 ·obtain⟨x,v,zs,w,c,rfl,_⟩:=h;rfl
 ·obtain⟨x,v,zs,w,c,rfl,vt,dv,hin,hq⟩:=h;have hu:=jQ hr;have z6:=vt.vw.le;have w6:=vt.vw.w6;obtain⟨tv,rfl,_,htv⟩:=cV dv;refine⟨_,(aA (bK (i:=2) lD.nd rfl (Or.inl rfl) (Xo hu (rv 1) pC)) (aA (bK (i:=3) lD.nd rfl (Or.inl rfl) (fG (aj (rv 1) ao))) (aA (Iw fY (bJ CN (bF (iD (K:=K)) rfl T.gH dY (aj (rv 3) ao)) aM (c7 _)) (aA (bK (i:=4) lD.nd rfl (Or.inl rfl) (RD (K:=K) jZ Vc Vd RW (rv 3))) (aD (dw fY rfl (bD (K:=K) (aX cT hr rfl aR (aj (rv 0) (aj (rv 4) ao)))) (bQ (i:=5) lD.nd rfl (Or.inl rfl)) (aD (dw fY rfl (bD (K:=K) (aX d7 hr rfl aR (aj (rv 0) (aj (rv 5) ao)))) (bQ (i:=6) lD.nd rfl (Or.inl rfl)) (aD (dF (bJ (pq hu) (rv 6) (rv 2) (by rfl)) (aA (Aa pC (Ew (rv 2) (rv 6) (set_dict hu))) (aD (eY (lR (K:=K) jZ pX pY eG (rv 3) (aj (rv 6) ao))))) bL)))))))) (aD (bx (bF (Ek (K:=K) rfl hu) rfl T.lJ lB (aj (rv 2) ao))))))),?_⟩;refine aF (fun zzs H1=>∃ dd:Addr,H dd=none/\Same H H1/\H1 dd=some (.dT (dh [c]))/\zzs=[zzR x,zzR tv,zzR dd,zzN,zzN,zzN,zzN]) (fun R hR=>?_) ?_
  ·refine fun dd nd=>⟨_,rfl,eO c,tv,aC,rfl,?_,hR _ _ ⟨dd,nd,(SameBut.refl dd _).put.of (Same.put nd) nd,aC,rfl⟩⟩
   rw[aN (aQ htv nd)];exact htv
  rintro zzs H1 ⟨dd,nd,s1,ed,rfl⟩;refine aF (fun zzs H2=>∃ wl:Addr,H wl=none/\wl≠dd/\Same H1 H2/\H2 wl=some (.lst [.ref tv])/\zzs=[zzR x,zzR tv,zzR dd,zzR wl,zzN,zzN,zzN]) (fun R hR=>?_) ?_
  ·exact⟨_,rfl,sz rfl,fun wl nwl=>hR _ _ ⟨wl,s1.free nwl,(aQ ed nwl).symm,Same.put nwl,aC,rfl⟩⟩
  rintro zzs H2 ⟨wl,nwl,nwd,s2,ewl,rfl⟩;have start:qp zs w c [c] [c]:=⟨by simp,cL.mpr rfl,fun y hy=>by rw[cL.mp hy];exact .base,fun y hy=>hy,fun x hx nx=>absurd hx nx,bB _⟩
  refine aF (fun zzs H3=>∃(fd:List Cell)(v4 v5 v6:Option V),Same H H3/\H3 dd=some (.dT (dh fd))/\qp zs w c fd []/\zzs=[zzR x,zzR tv,zzR dd,zzR wl,v4,v5,v6]) (fun R hR=>?_) ?_
  ·refine⟨fun m zzs H'=>∃(fd wt:List Cell)(v4 v5 v6:Option V),Same H H'/\H' dd=some (.dT (dh fd))/\Ls K H' wl (wt.map au)/\qp zs w c fd wt/\m=(36-fd.length)*2+wt.length/\zzs=[zzR x,zzR tv,zzR dd,zzR wl,v4,v5,v6],
    ⟨_,[c],[c],none,none,none,s1.trans s2,s2 _ _ ed,⟨_,ewl,.cons (dv.mono (s1.trans s2)) .nil⟩,start,rfl,rfl⟩,?_⟩
   rintro m zzs H' ⟨fd,wt,v4,v5,v6,sh,ed',lw,ji,rfl,rfl⟩;obtain⟨xs,ex,D⟩:=id lw;have lx:xs.length=wt.length:=by rw[D.length,aZ]
   have f36:=ji.len hin z6 w6;refine⟨_,rfl,.inl ⟨wl,_,rfl,.inl (SqL.of ex),_,_,rfl,rfl,_,rfl,?_⟩⟩;refine cN (fun hlt=>?_) (fun hlt=>?_)
   ·have hlt:(0:Int)<(xs.length:Int):=cJ hlt;obtain⟨wt,m,rfl⟩:∃ wt' m,wt=wt'++[m]:=by
     rcases Ve wt with z|⟨l,b,z⟩
     ·rw[z,xT] at lx;lia
     ·exact⟨l,b,by rw[z];simp⟩
    obtain⟨xs,u,rfl,Dx,du⟩:=vR D;obtain⟨tm,rfl,_,htm⟩:=cV du;have mfd:=ji.sub m (fV _ (cL.mpr rfl));have Wn:=(ji.rch m mfd).inF hin;refine⟨fun bH H4=>∃(fd' wt':List Cell)(v4 v5 v6:Option V),Same H H4/\H4 dd=some (.dT (dh fd'))/\Ls K H4 wl (wt'.map au)/\qp zs w c fd' wt'/\(36-fd'.length)*2+wt'.length<(36-fd.length)*2+(wt++[m]).length/\bH=[zzR x,zzR tv,zzR dd,zzR wl,v4,v5,v6],fun bH H4 hx=>?_,?_⟩
    ·obtain⟨fd',wt',v4,v5,v6,a1,a2,a3,a4,a5,rfl⟩:=hx;exact⟨_,a5,fd',wt',v4,v5,v6,a1,a2,a3,a4,rfl,rfl⟩
    refine aF (fun zzs H4=>Same H H4/\H4 dd=some (.dT (dh fd))/\Ls K H4 wl (wt.map au)/\Den K H4 (.ref tm) (au m)/\zzs=[zzR x,zzR tv,zzR dd,zzR wl,zzR tm,v5,v6]) (fun R' hR'=>?_) ?_
    ·refine⟨_,rfl,.inl ⟨rfl,_,SqL.of ex⟩,wl,_,V.ref tm,rfl,rfl,ex,(by simp),?_⟩;rw[Vk];have sw:SameBut wl H' (upd H' wl (.lst xs)):=(SameBut.refl wl _).put;exact hR' _ _ ⟨sw.of sh nwl,sw _ _ ed' nwd.symm,⟨xs,aC,sw.cells ex Dx⟩,sw.cell ex du,rfl⟩
    rintro zzs H4 ⟨sh4,ed4,lw4,dm4,rfl⟩;have a2M:(wt++[m]).length=wt.length+1:=by rw[cC,jK]
    refine⟨_,rfl,_,rfl,x,_,zs,w,m,rfl,vt.mono sh4,dm4,Wn,fun q1 H5 f5=>?_⟩;obtain⟨ts,et,Dt'⟩:=f5.ls;have lt8:=uL zs w m;refine⟨q1,rfl,⟨_,SqL.of et⟩,?_⟩;have nq1:H q1=none:=sh4.free f5.new;refine dI (K:=K) (xs:=ts) (fun i zzs H6=>∃(fd' wt':List Cell)(v5 v6:Option V),Same H H6/\H6 q1=some (.lst ts)/\aV K H6 ts ((aL zs w m).map au)/\H6 dd=some (.dT (dh fd'))/\Ls K H6 wl (wt'.map au)/\JoP zs w c m fd' wt' (fun y=>∃ t∈(aL zs w m).take i,y∈aB zs w t)/\(36-fd'.length)*2+wt'.length<=(36-fd.length)*2+wt.length/\zzs=[zzR x,zzR tv,zzR dd,zzR wl,zzR tm,v5,v6])
     ⟨fd,wt,v5,v6,sh4.trans f5.same,et,Dt',f5.same _ _ ed4,lw4.mono f5.same,ji.pop.imp (fun y hy=>by obtain⟨t,ht,_⟩:=hy;cases ht),bB _,rfl⟩ (fun i zzs H6 _ hh=>by obtain⟨_,_,_,_,_,e,_⟩:=hh;exact SqL.of e) (fun i u zzs H6 hu' hh=>?_) (fun zzs H6 hh=>?_)
    ·obtain⟨fd1,wt1,v5,v6,sh6,et6,Dt6,ed6,lw6,jp,me,rfl⟩:=hh;obtain⟨dt,edt,du6⟩:=Dt6.get hu';rw[dG] at edt;obtain⟨t,etq,rfl⟩:=j8.mp edt;have a1Q:t∈aL zs w m:=fQ etq;refine⟨_,rfl,_,rfl,x,_,zs,w,t,rfl,vt.mono sh6,du6,Ih a1Q,fun q2 H7 f7=>?_⟩;obtain⟨os,eo,Do⟩:=f7.ls;refine⟨q2,rfl,⟨_,SqL.of eo⟩,?_⟩;have los:os.length=(aB zs w t).length:=by rw[Do.length,aZ]
     refine dI (K:=K) (xs:=os) (fun j zzs H8=>∃(fd' wt':List Cell)(v6:Option V),Same H H8/\H8 q1=some (.lst ts)/\aV K H8 ts ((aL zs w m).map au)/\H8 q2=some (.lst os)/\aV K H8 os ((aB zs w t).map au)/\H8 dd=some (.dT (dh fd'))/\Ls K H8 wl (wt'.map au)/\JoP zs w c m fd' wt' (fun y=>(∃ t∈(aL zs w m).take i,y∈aB zs w t)\/y∈(aB zs w t).take j)/\(36-fd'.length)*2+wt'.length<=(36-fd.length)*2+wt.length/\zzs=[zzR x,zzR tv,zzR dd,zzR wl,zzR tm,some u,v6])
      ⟨fd1,wt1,v6,sh6.trans f7.same,f7.same _ _ et6,Dt6.mono f7.same,eo,Do,f7.same _ _ ed6,lw6.mono f7.same,jp.imp (fun y hy=>hy.elim (jp.dn y) (fun z=>by cases z)),me,rfl⟩ (fun j zzs H8 _ hh=>by obtain⟨_,_,_,_,_,_,e,_⟩:=hh;exact SqL.of e) (fun j o zzs H8 ho hh=>?_) (fun zzs H8 hh=>?_)
     ·obtain⟨fd2,wt2,v6,sh8,et8,Dt8,eo8,Do8,ed8,lw8,jp2,me2,rfl⟩:=hh;obtain⟨dy,edy,do8⟩:=Do8.get ho;rw[dG] at edy;obtain⟨y,ey,rfl⟩:=j8.mp edy;have a2P:y∈aB zs w t:=fQ ey;obtain⟨ty,rfl,_,hty⟩:=cV do8;have key:H8 ty=some (.tup ((eO y).map kV)):=hty;have a2T:=jp2.len hin z6 w6;have step:∀ z,(∃ t∈(aL zs w m).take i,z∈aB zs w t)\/z∈(aB zs w t).take (j+1)->((∃ t∈(aL zs w m).take i,z∈aB zs w t)\/z∈(aB zs w t).take j)\/z=y:=fun z hz=>by
       rcases hz with q|q
       ·exact .inl (.inl q)
       ·rw[kI,ey] at q;rcases cB.mp q with q|q
        ·exact .inl (.inr q)
        ·exact .inr (cL.mp q)
      refine⟨_,rfl,_,rfl,dd,_,rfl,oH.t ed8 key,_,rfl,?_⟩;rw[nJ];by_cases hf:y∈fd2
      ·rw[aJ hf];exact qJ ⟨fd2,wt2,_,sh8,et8,Dt8,eo8,Do8,ed8,lw8,jp2.imp (fun z hz=>(step z hz).elim (jp2.dn z) (fun e=>by rw[e];exact hf)),me2,rfl⟩
      ·rw[aG hf];refine BJ ?_;have jp3:=jp2.add hf (.step (jp2.rch m jp2.hm) a1Q a2P);have a0M:=jp3.len hin z6 w6;rw[cC,jK] at a0M;refine aF (fun zzs H9=>Same H H9/\H9 q1=some (.lst ts)/\aV K H9 ts ((aL zs w m).map au)/\H9 q2=some (.lst os)/\aV K H9 os ((aB zs w t).map au)/\H9 dd=some (.dT (dh (fd2++[y])))/\Ls K H9 wl (wt2.map au)/\Den K H9 (.ref ty) (au y)/\zzs=[zzR x,zzR tv,zzR dd,zzR wl,zzR tm,some u,zzR ty]) (fun R' hR'=>?_) ?_
       ·refine⟨_,rfl,_,rfl,dd,_,rfl,Jf.t ed8 key (ltl (by unfold dh;rw[aZ];lia)),?_⟩;rw[Cu fd2 y hf];have sd:SameBut dd H8 (upd H8 dd (.dT (dh (fd2++[y])))):=(SameBut.refl dd _).put;have tp:vI H8 (upd H8 dd (.dT (dh (fd2++[y])))):=.put ed8 (by intro xs z;cases z);obtain⟨ws,ew,Dw⟩:=lw8;exact hR' _ _ ⟨sd.of sh8 nd,sd _ _ et8 (fB et8 ed8 (by intro z;cases z)),tp.cells Dt8,sd _ _ eo8 (fB eo8 ed8 (by intro z;cases z)),tp.cells Do8,aC,⟨ws,sd _ _ ew nwd,tp.cells Dw⟩,tp.cell do8,rfl⟩
       rintro zzs H9 ⟨sh9,et9,Dt9,eo9,Do9,ed9,⟨ws,ew,Dw⟩,dy9,rfl⟩;have lws:ws.length=wt2.length:=by rw[Dw.length,aZ]
       have ln2:=jp2.ln;have a2v:q1≠wl:=fun z=>by
        have e1:=f5.new;rw[z] at e1;obtain⟨_,e2,_⟩:=lw4;rw[e2] at e1;cases e1
       have a2w:q2≠wl:=fun z=>by
        have e1:=f7.new;rw[z] at e1;obtain⟨_,e2,_⟩:=lw6;rw[e2] at e1;cases e1
       refine⟨_,rfl,.inl ⟨rfl,_,SqL.of ew⟩,_,rfl,wl,ws,_,rfl,rfl,ew,ltl (by lia),?_⟩;have sw:SameBut wl H9 (upd H9 wl (.lst (ws++[V.ref ty]))):=(SameBut.refl wl _).put;refine⟨fd2++[y],wt2++[y],_,sw.of sh9 nwl,sw _ _ et9 a2v,sw.cells ew Dt9,sw _ _ eo9 a2w,sw.cells ew Do9,sw _ _ ed9 nwd.symm,⟨_,aC,?_⟩,jp3.imp (fun z hz=>(step z hz).elim (fun q=>fW _ (jp2.dn z q)) (fun e=>fV _ (cL.mpr e))),?_,rfl⟩
       ·rw[eE];exact(sw.cells ew Dw).append (.cons (sw.cell ew dy9) .nil)
       ·rw[cC,cC,jK];lia
     ·obtain⟨fd2,wt2,v6,sh8,et8,Dt8,eo8,Do8,ed8,lw8,jp2,me2,rfl⟩:=hh;refine⟨fd2,wt2,_,v6,sh8,et8,Dt8,ed8,lw8,jp2.imp (fun y hy=>?_),me2,rfl⟩;obtain⟨t',ht',hy'⟩:=hy;rw[kI,etq] at ht';rcases cB.mp ht' with q|q
      ·exact jp2.dn y (.inl ⟨t',q,hy'⟩)
      ·rw[cL.mp q] at hy';exact jp2.dn y (.inr (by rw[los,kE];exact hy'))
    ·obtain⟨fd1,wt1,v5,v6,sh6,et6,Dt6,ed6,lw6,jp,me,rfl⟩:=hh;have lts:ts.length=(aL zs w m).length:=by rw[Dt'.length,aZ]
     refine⟨fd1,wt1,_,v5,v6,sh6,ed6,lw6,jp.inv fun t ht y hy=>⟨t,by rw[lts,kE];exact ht,hy⟩,by rw[a2M];lia,rfl⟩
   ·have hlt:¬(0:Int)<(xs.length:Int):=jl hlt;have:wt=[]:=Jd.mp (by lia);subst this;exact hR _ _ ⟨fd,v4,v5,v6,sh,ed',ji,rfl⟩
  rintro zzs H3 ⟨fd,v4,v5,v6,s3,ed3,ji,rfl⟩;have f36:=ji.len hin z6 w6;refine⟨_,rfl,dd,fd,fun _=>.bl true,rfl,ed3,by lia,fun l ws ds hn D' pc as=>?_⟩;exact hq l _ ds (s3.free hn) (s3.and hn) (.new hn D') (yL as (pc.nodup_iff.mpr ji.nd)) fun y=>by rw[pc.mem_iff];exact ji.done y
end
open Classical in
noncomputable def cg(zs:List Str)(w:Nat)(c:Cell):List Cell:=(bI zs.length w).filter fun y=>decide (j9 zs w c y)
open Classical in
theorem dD{zs:List Str}{w:Nat}{c y:Cell}(h0:inF zs.length w c):y∈cg zs w c↔j9 zs w c y:=by
 unfold cg;rw[bZ,bM,gq];exact⟨fun h=>h.2,fun h=>⟨h.inF h0,h⟩⟩
open Classical in
theorem nU{zs:List Str}{w:Nat}{c:Cell}(h6:zs.length<=6)(w6:w<=6):(cg zs w c).Pairwise aP:=by
 unfold cg;exact(nP zs.length (cH.mpr (by lia)) w (cH.mpr (by lia))).filter _
open Classical in
noncomputable def gK(zs:List Str)(w:Nat):List Cell->List (List Cell)->List (List Cell)
 |[],ps=>ps
 |c::cs,ps=>if ∃ p∈ps,c∈p then gK zs w cs ps else gK zs w cs (ps++[cg zs w c])
noncomputable def bG(zs:List Str)(w:Nat):List (List Cell):=gK zs w (bO zs w) []
theorem Ho(cs:List Cell)(c:Cell)(hc:c∈cs):putK (dh cs) (eO c) (.bl true)=dh cs:=by
 unfold putK;have h1:((dh cs).any fun kv=>decide (kv.1=eO c))=true:=by
  rw[vd,nJ,aJ hc];rfl
 rw[aJ h1];unfold dh;rw[ni];refine Ax fun a _=>?_
 show(if eO a=eO c then(eO a,V.bl true) else(eO a,V.bl true))=(eO a,V.bl true);by_cases e:eO a=eO c
 ·rw[aJ e]
 ·rw[aG e]
structure qu(K:ak)(H0 H:Hp)(q:Addr)(qs:List Addr)(ps:List (List Cell)):Prop where
 at_:H q=some (.lst (qs.map V.ref))
 len:qs.length=ps.length
 ls:∀(i:Nat)(a:Addr)(p:List Cell),qs[i]?=some a->ps[i]?=some p->Ls K H a (p.map au)
 new:∀ a∈qs,H0 a=none
 nd:qs.Nodup
 nq:q∉qs
theorem qu.mono{K:ak}{H0 H H':Hp}{q:Addr}{qs:List Addr}{ps:List (List Cell)}(p:qu K H0 H q qs ps)(s:Same H H'):qu K H0 H' q qs ps:=⟨s _ _ p.at_,p.len,fun i a c h1 h2=>(p.ls i a c h1 h2).mono s,p.new,p.nd,p.nq⟩
theorem qu.snoc{K:ak}{H0 H:Hp}{q a:Addr}{qs:List Addr}{ps:List (List Cell)}{ds:List Cell}(p:qu K H0 H q qs ps)(la:Ls K H a (ds.map au))(na:H0 a=none)(n1:a∉qs)(n2:a≠q):qu K H0 (upd H q (.lst (qs.map V.ref++[.ref a]))) q (qs++[a]) (ps++[ds]):=by
 have sb:SameBut q H (upd H q (.lst (qs.map V.ref++[.ref a]))):=(SameBut.refl q _).put;refine⟨by rw[aC,eE];rfl,by rw[cC,cC,p.len];rfl,fun i b c h1 h2=>?_,fun b hb=>?_,?_,fun z=>?_⟩
 ·by_cases hi:i<qs.length
  ·rw[Jc hi] at h1;rw[Jc (by rw[<- p.len];exact hi)] at h2;exact sb.ls p.at_ (fun z=>p.nq (by rw[<- z];exact fQ h1)) (p.ls i b c h1 h2)
  ·rw[Bo (by lia)] at h1;rw[Bo (by rw[<- p.len];lia)] at h2;have e1:i-qs.length=0:=by
    by_cases z:i-qs.length=0
    ·exact z
    ·rw[Vb (by rw[jK];lia)] at h1;cases h1
   rw[e1] at h1;rw[<- p.len,e1] at h2;cases h1;cases h2;exact sb.ls p.at_ n2 la
 ·rcases cB.mp hb with z|z
  ·exact p.new b z
  ·rw[cL.mp z];exact na
 ·exact vm.mpr ⟨p.nd,by simp,fun x hx y hy e=>n1 (by rw[<- cL.mp hy,<- e];exact hx)⟩
 ·rcases cB.mp z with y|y
  ·exact p.nq y
  ·exact n2 (cL.mp y).symm
def O8(K:ak)(C:Addr):Sp:=fun vs H Q _=>∃(x:Addr)(zs:List Str)(w:Nat),vs=[.ref x]/\bW C H x zs w /\
 ∀(q:Addr)(qs:List Addr)(H':Hp),H q=none->Same H H'->qu K H H' q qs (bG zs w)->Q (.ref q) H'
section
variable{P:Program}{w:World}{K:ak}{mg:Str->Option Value}{base:Heap}{Z:Adr}
theorem Sq{f:Addr}{fd:FuncData} (F:Fun K "parts" "parts" Fb f fd) (T:Txt K mg Z) (vA:Df P w K mg base 4 "edge" ["view"] (nC K Z.View bO)) (nG:Df P w K mg base 4 "joined" ["view","cell"] (Al K Z.View)) :
  cF P w K mg base (CXE P w) 5 f fd ["view"] (O8 K Z.View):=by
 refine F.rok oh (fun vs H Q E h=>?_) (fun cdv A outer s H vs Q E hr h=>?_)
 ·obtain⟨x,zs,w,rfl,_⟩:=h;rfl
 ·obtain⟨x,zs,w,rfl,vt,hq⟩:=h;have hu:=jQ hr;have z6:=vt.vw.le;have w6:=vt.vw.w6;refine⟨_,(aA (bK (i:=1) oh.nd rfl (Or.inl rfl) (fG ao)) (aA (bK (i:=2) oh.nd rfl (Or.inl rfl) yw) (aA (dw fY rfl (bD (K:=K) (aX vA hr rfl aR (aj (rv 0) ao))) (bQ (i:=3) oh.nd rfl (Or.inl rfl)) (aD (dF (bJ (pq hu) (rv 3) (rv 2) (by rfl)) (aA (bK (i:=4) oh.nd rfl (Or.inl rfl) (aX nG hr rfl aR (aj (rv 0) (aj (rv 3) ao)))) (aA (eY (lR (K:=K) jZ pX pY eG (rv 1) (aj (rv 4) ao))) (aD (dw fY rfl (bD (K:=K) (rv 4)) (bQ (i:=5) oh.nd rfl (Or.inl rfl)) (aD (Aa pC (Ew (rv 2) (rv 5) (set_dict hu)))))))) bL))) (aD (bx (rv 1)))))),?_⟩;refine aF (fun zzs H1=>∃ q:Addr,H q=none/\Same H H1/\H1 q=some (.lst [])/\zzs=[zzR x,zzR q,zzN,zzN,zzN,zzN]) (fun R hR=>?_) ?_
  ·exact⟨by decide,fun q nq=>hR _ _ ⟨q,nq,Same.put nq,aC,rfl⟩⟩
  rintro zzs H1 ⟨q,nq,s1,eq1,rfl⟩;refine aF (fun zzs H2=>∃ dd:Addr,H dd=none/\dd≠q/\Same H1 H2/\H2 dd=some (.dT (dh []))/\zzs=[zzR x,zzR q,zzR dd,zzN,zzN,zzN]) (fun R hR=>?_) ?_
  ·exact fun dd nd=>hR _ _ ⟨dd,s1.free nd,(aQ eq1 nd).symm,Same.put nd,aC,rfl⟩
  rintro zzs H2 ⟨dd,nd,ndq,s2,ed,rfl⟩;refine aF (fun zzs H3=>∃(qs:List Addr)(v3 v4 v5:Option V),Same H H3/\qu K H H3 q qs (bG zs w)/\zzs=[zzR x,zzR q,zzR dd,v3,v4,v5]) (fun R hR=>?_) ?_
  ·refine⟨_,rfl,x,zs,w,rfl,vt.mono (s1.trans s2),fun eg H3 fr=>?_⟩;obtain⟨cs,ec,Dc⟩:=fr.ls;have lcs:cs.length=(bO zs w).length:=by rw[Dc.length,aZ]
   refine⟨eg,rfl,⟨_,SqL.of ec⟩,?_⟩;have neg:H eg=none:=(s1.trans s2).free fr.new;refine dI (K:=K) (xs:=cs) (fun i zzs H4=>∃(qs:List Addr)(ps:List (List Cell))(pl:List Cell)(v3 v4 v5:Option V),Same H H4/\H4 eg=some (.lst cs)/\aV K H4 cs ((bO zs w).map au)/\qu K H H4 q qs ps/\H4 dd=some (.dT (dh pl))/\pl.Nodup/\(∀ y,y∈pl↔∃ p∈ps,y∈p)/\(∀ y∈pl,inF zs.length w y)/\gK zs w ((bO zs w).drop i) ps=bG zs w/\eg≠q/\ps.length<=i/\zzs=[zzR x,zzR q,zzR dd,v3,v4,v5])
    ⟨[],[],[],none,none,none,s1.trans (s2.trans fr.same),ec,Dc,⟨fr.same _ _ (s2 _ _ eq1),rfl,fun i a p h=>(by cases h),fun a ha=>(by cases ha),Gk,fun z=>(by cases z)⟩,fr.same _ _ ed,Gk,fun y=>⟨fun z=>(by cases z),fun⟨p,hp,_⟩=>(by cases hp)⟩,fun y hy=>(by cases hy),rfl,fun z=>(by have:=fr.new;rw[z,s2 _ _ eq1] at this;cases this),bB _,rfl⟩
    (fun i zzs H4 _ hh=>by obtain⟨_,_,_,_,_,_,_,e,_⟩:=hh;exact SqL.of e) (fun i u zzs H4 hu' hh=>?_) (fun zzs H4 hh=>?_)
   ·obtain⟨qs,ps,pl,v3,v4,v5,sh,ec4,Dc4,pa,ed4,ndp,RP,inp,go,Ws,lps,rfl⟩:=hh;obtain⟨dc,edc,du⟩:=Dc4.get hu';rw[dG] at edc;obtain⟨c,ecq,rfl⟩:=j8.mp edc;have a2c:c∈bO zs w:=fQ ecq;have cin:inF zs.length w c:=bM.mp (bZ.mp (bZ.mp a2c).1).1;obtain⟨tc,rfl,_,htc⟩:=cV du;have key:H4 tc=some (.tup ((eO c).map kV)):=htc;have i36:i<36:=by
     have h1:=(mZ.mp ecq).1;have h2:(bO zs w).length<=(aU zs w).length:=jL _ _;have h3:=dR vt.vw;lia
    have dr:(bO zs w).drop i=c::(bO zs w).drop (i+1):=by
     have h1:=(mZ.mp ecq)
     rw[xM h1.1,h1.2]
    rw[dr] at go;refine⟨_,rfl,_,rfl,dd,_,rfl,oH.t ed4 key,_,rfl,?_⟩;rw[nJ];by_cases hp:c∈pl
    ·rw[aJ hp];unfold gK at go;rw[aJ ((RP c).mp hp)] at go;exact qJ ⟨qs,ps,pl,_,v4,v5,sh,ec4,Dc4,pa,ed4,ndp,RP,inp,go,Ws,by lia,rfl⟩
    rw[aG hp];unfold gK at go;rw[aG (fun z=>hp ((RP c).mpr z))] at go;refine BJ ?_;refine aF (fun zzs H5=>∃ a:Addr,H4 a=none/\Same H4 H5/\Ls K H5 a ((cg zs w c).map au)/\zzs=[zzR x,zzR q,zzR dd,zzR tc,zzR a,v5]) (fun R' hR'=>?_) ?_
    ·refine⟨_,rfl,_,rfl,x,_,zs,w,c,rfl,vt.mono sh,du,cin,fun a H5 ds na s5 la as mm=>?_⟩;have e:ds=cg zs w c:=yK as (nU z6 w6) fun y=>by rw[mm y,dD cin]
     rw[e] at la;exact hR' _ _ ⟨a,na,s5,la,rfl⟩
    rintro zzs H5 ⟨a,na,s5,la,rfl⟩;have pa5:=pa.mono s5;have na0:H a=none:=sh.free na;have naq:a≠q:=fun z=>by rw[z] at na;rw[pa.at_] at na;cases na
    have a2r:a∉qs:=fun z=>by
     obtain⟨j,hj⟩:=Fv z;have hj':j<ps.length:=by rw[<- pa.len];exact(mZ.mp hj).1
     obtain⟨_,e,_⟩:=pa.ls j a ps[j] hj (by simp[hj']);rw[e] at na;cases na
    have a2Y:dd≠q:=ndq;have lqs:qs.length<=36:=by rw[pa.len];lia
    refine aF (fun zzs H6=>Same H H6/\H6 eg=some (.lst cs)/\aV K H6 cs ((bO zs w).map au)/\qu K H H6 q (qs++[a]) (ps++[cg zs w c])/\Ls K H6 a ((cg zs w c).map au)/\H6 dd=some (.dT (dh pl))/\zzs=[zzR x,zzR q,zzR dd,zzR tc,zzR a,v5]) (fun R' hR'=>?_) ?_
    ·refine⟨_,rfl,.inl ⟨rfl,_,SqL.of pa5.at_⟩,_,rfl,q,_,_,rfl,rfl,pa5.at_,ltl (by rw[aZ];lia),?_⟩;have sb:SameBut q H5 (upd H5 q (.lst (qs.map V.ref++[V.ref a]))):=(SameBut.refl q _).put;exact hR' _ _ ⟨sb.of (sh.trans s5) nq,sb _ _ (s5 _ _ ec4) Ws,sb.cells pa5.at_ (Dc4.mono s5),pa5.snoc la na0 a2r naq,sb.ls pa5.at_ naq la,sb _ _ (s5 _ _ ed4) ndq,rfl⟩
    rintro zzs H6 ⟨sh6,ec6,Dc6,pa6,la6,ed6,rfl⟩;obtain⟨ms,em,Dm⟩:=id la6;have lms:ms.length=(cg zs w c).length:=by rw[Dm.length,aZ]
    refine⟨_,rfl,a,rfl,⟨_,SqL.of em⟩,?_⟩;refine dI (K:=K) (xs:=ms) (fun j zzs H7=>∃(pl':List Cell)(v5:Option V),Same H H7/\H7 eg=some (.lst cs)/\aV K H7 cs ((bO zs w).map au)/\qu K H H7 q (qs++[a]) (ps++[cg zs w c])/\H7 a=some (.lst ms)/\aV K H7 ms ((cg zs w c).map au)/\H7 dd=some (.dT (dh pl'))/\pl'.Nodup/\(∀ y,y∈pl'↔(y∈pl\/y∈(cg zs w c).take j))/\(∀ y∈pl',inF zs.length w y)/\zzs=[zzR x,zzR q,zzR dd,zzR tc,zzR a,v5])
     ⟨pl,v5,sh6,ec6,Dc6,pa6,em,Dm,ed6,ndp,fun y=>⟨.inl,fun z=>z.elim id (fun z=>by cases z)⟩,inp,rfl⟩ (fun j zzs H7 _ hh=>by obtain⟨_,_,_,_,_,_,e,_⟩:=hh;exact SqL.of e) (fun j o zzs H7 ho hh=>?_) (fun zzs H7 hh=>?_)
    ·obtain⟨pl',v5,sh7,ec7,Dc7,pa7,em7,Dm7,ed7,nd7,Zk,in7,rfl⟩:=hh;obtain⟨dy,edy,do7⟩:=Dm7.get ho;rw[dG] at edy;obtain⟨y,ey,rfl⟩:=j8.mp edy;obtain⟨ty,rfl,_,hty⟩:=cV do7;have a2m:H7 ty=some (.tup ((eO y).map kV)):=hty;have yj:y∈cg zs w c:=fQ ey;have yin:inF zs.length w y:=((dD cin).mp yj).inF cin;have l36:pl'.length<=36:=by
      have:=nZ (l2:=bI zs.length w) nd7 fun y hy=>bM.mpr (in7 y hy)
      rw[fK] at this;have:zs.length*w<=6*6:=mF z6 w6;lia
     have tk:∀ z,z∈(cg zs w c).take (j+1)↔(z∈(cg zs w c).take j\/z=y):=fun z=>by
      rw[kI,ey,cB];simp
     refine⟨_,rfl,_,rfl,dd,_,rfl,Jf.t ed7 a2m (ltl (by unfold dh;rw[aZ];lia)),?_⟩;have mk:∀ pl2:List Cell,pl2.Nodup->(∀ z,z∈pl2↔(z∈pl'\/z=y))->∃(pl':List Cell)(v5:Option V),Same H (upd H7 dd (.dT (dh pl2)))/\(upd H7 dd (.dT (dh pl2))) eg=some (.lst cs)/\aV K (upd H7 dd (.dT (dh pl2))) cs ((bO zs w).map au)/\qu K H (upd H7 dd (.dT (dh pl2))) q (qs++[a]) (ps++[cg zs w c])/\(upd H7 dd (.dT (dh pl2))) a=some (.lst ms)/\aV K (upd H7 dd (.dT (dh pl2))) ms ((cg zs w c).map au)/\(upd H7 dd (.dT (dh pl2))) dd=some (.dT (dh pl'))/\pl'.Nodup/\(∀ y,y∈pl'↔(y∈pl\/y∈(cg zs w c).take (j+1)))/\(∀ y∈pl',inF zs.length w y)/\[some (V.ref x),some (.ref q),some (.ref dd),some (.ref tc),some (.ref a),some (.ref ty)]=[zzR x,zzR q,zzR dd,zzR tc,zzR a,v5]:=fun pl2 n2 m2=>by
      have sd:SameBut dd H7 (upd H7 dd (.dT (dh pl2))):=(SameBut.refl dd _).put;have tp:vI H7 (upd H7 dd (.dT (dh pl2))):=.put ed7 (by intro xs z;cases z);refine⟨pl2,_,sd.of sh7 nd,sd _ _ ec7 (fB ec7 ed7 (by intro z;cases z)),tp.cells Dc7,⟨sd _ _ pa7.at_ (fB pa7.at_ ed7 (by intro z;cases z)),pa7.len,fun i b p h1 h2=>?_,pa7.new,pa7.nd,pa7.nq⟩,sd _ _ em7 (fB em7 ed7 (by intro z;cases z)),tp.cells Dm7,aC,n2,fun z=>?_,fun z hz=>?_,rfl⟩
      ·obtain⟨ws,ew,Dw⟩:=pa7.ls i b p h1 h2;exact⟨ws,sd _ _ ew (fB ew ed7 (by intro z;cases z)),tp.cells Dw⟩
      ·rw[m2 z,Zk z,tk z,or_assoc]
      ·rcases(m2 z).mp hz with q|q
       ·exact in7 z q
       ·rw[q];exact yin
     by_cases hy:y∈pl'
     ·rw[Ho pl' y hy];exact mk pl' nd7 fun z=>⟨.inl,fun q=>q.elim id (fun e=>by rw[e];exact hy)⟩
     ·rw[Cu pl' y hy];refine mk (pl'++[y]) (vm.mpr ⟨nd7,by simp,fun a ha b hb e=>hy (by rw[<- cL.mp hb,<- e];exact ha)⟩) fun z=>?_
      rw[cB,cL]
    ·obtain⟨pl',v5,sh7,ec7,Dc7,pa7,em7,Dm7,ed7,nd7,Zk,in7,rfl⟩:=hh;refine⟨qs++[a],ps++[cg zs w c],pl',_,_,v5,sh7,ec7,Dc7,pa7,ed7,nd7,fun y=>?_,in7,go,Ws,by rw[cC,jK];lia,rfl⟩;rw[Zk y,lms,kE,RP y];constructor
     ·rintro(⟨p,hp,hy⟩|hy)
      ·exact⟨p,fW _ hp,hy⟩
      ·exact⟨_,fV _ (cL.mpr rfl),hy⟩
     ·rintro⟨p,hp,hy⟩;rcases cB.mp hp with z|z
      ·exact .inl ⟨p,z,hy⟩
      ·rw[cL.mp z] at hy;exact .inr hy
   ·obtain⟨qs,ps,pl,v3,v4,v5,sh,ec4,Dc4,pa,ed4,ndp,RP,inp,go,Ws,lps,rfl⟩:=hh;rw[lcs,List.drop_length] at go;have e:ps=bG zs w:=go;exact hR _ _ ⟨qs,v3,v4,v5,sh,by rw[<- e];exact pa,rfl⟩
  rintro zzs H3 ⟨qs,v3,v4,v5,s3,pa,rfl⟩;exact⟨_,rfl,hq q qs _ nq s3 pa⟩
end
theorem S6:∀ d∈offs,(-d.1,-d.2)∈offs:=by decide
theorem nY{h w:Int}{x y:Cell}(hy:y∈fO h w x)(hx:inF h w x):x∈fO h w y:=by
 unfold fO at hy ⊢;obtain⟨h1,_⟩:=bZ.mp hy;obtain⟨d,hd,rfl⟩:=cD.mp h1;refine bZ.mpr ⟨cD.mpr ⟨_,S6 d hd,?_⟩,cR hx⟩;exact jD (by show x.1+d.1 + -d.1=x.1;lia) (by show x.2+d.2 + -d.2=x.2;lia)
theorem sE{zs:List Str}{w:Nat}{x:Cell}:x∈bO zs w↔aH zs w x=true/\∃ t,t∈aL zs w x:=by
 unfold bO;rw[bZ,uo,Oh,gq];refine and_congr_right fun _=>?_
 constructor
 ·intro h;cases e:aL zs w x with
  |nil=>rw[e] at h;exact absurd h (rK _)
  |cons t ts=>exact⟨t,cZ⟩
 ·rintro⟨t,ht⟩;exact V3 ht
theorem jh{zs:List Str}{w:Nat}{x:Cell}(h:x∈bO zs w):inF zs.length w x:=by
 have:=(sE.mp h).1;unfold aH at this;rw[kj] at this;exact cJ this.1
theorem Qk{zs:List Str}{w:Nat}(h6:zs.length<=6)(w6:w<=6):(bO zs w).Pairwise aP:=by
 unfold bO aU;exact((nP zs.length (cH.mpr (by lia)) w (cH.mpr (by lia))).filter _).filter _
theorem pQ{zs:List Str}{w:Nat}{t y:Cell}(hin:inF zs.length w t)(ho:aH zs w t=false)(hy:y∈aB zs w t):y∈bO zs w:=by
 unfold aB at hy;obtain⟨h1,h2⟩:=bZ.mp hy;refine sE.mpr ⟨h2,t,?_⟩;unfold aL;exact bZ.mpr ⟨nY h1 hin,by rw[ho];rfl⟩
theorem gB{zs:List Str}{w:Nat}{x t:Cell}(h:t∈aL zs w x):inF zs.length w t/\aH zs w t=false/\t∈fO zs.length w x:=by
 unfold aL at h;obtain⟨h1,h2⟩:=bZ.mp h;exact⟨qK h1,by simpa using h2,h1⟩
theorem j9.trans{zs:List Str}{w:Nat}{a b c:Cell}(r1:j9 zs w a b)(r2:j9 zs w b c):j9 zs w a c:=by
 induction r2 with
 |base=>exact r1
 |step _ h1 h2 ih=>exact .step ih h1 h2
theorem j9.Wu{zs:List Str}{w:Nat}{t x y:Cell}(hin:L2.inF zs.length w t)(ho:aH zs w t=false)(hx:x∈fO zs.length w t)(hy:y∈fO zs.length w t)(cy:aH zs w y=true):j9 zs w x y:=by
 refine .step .base (t:=t) ?_ ?_
 ·unfold aL;exact bZ.mpr ⟨nY hx hin,by rw[ho];rfl⟩
 ·unfold aB;exact bZ.mpr ⟨hy,cy⟩
theorem j9.symm{zs:List Str}{w:Nat}{a b:Cell}(ca:aH zs w a=true)(ia:L2.inF zs.length w a)(r:j9 zs w a b):j9 zs w b a:=by
 induction r with
 |base=>exact .base
 |@step x t y rx ht hy ih=>
  obtain⟨tin,Ul,tx⟩:=gB ht;have xin:=rx.inF ia;have cx:aH zs w x=true:=by
   cases rx with
   |base=>exact ca
   |step _ _ h=>exact(sO h).2
  unfold aB at hy;obtain⟨h1,h2⟩:=bZ.mp hy;exact(j9.Wu tin Ul h1 (nY tx xin) cx).trans ih
theorem j9.edge{zs:List Str}{w:Nat}{a b:Cell}(ha:a∈bO zs w)(r:j9 zs w a b):b∈bO zs w:=by
 cases r with
 |base=>exact ha
 |step _ ht hy=>
  obtain⟨tin,Ul,_⟩:=gB ht;exact pQ tin Ul hy
def layAt(p:Nat->List Cell->Bool)(ps:List Cell):Nat->List (List Cell)
 |0=>[[]]
 |k+1=>(layAt p ps k++(layAt p ps k).map (·++[ps.getD k (0,0)])).filter (p k)
def upto(ps:List Cell)(k:Nat)(l:List Cell):List Cell:=l.filter fun y=>decide (y∈ps.take k)
theorem J4{ps l:List Cell}{k:Nat}(h:∀ y∈l,y∈ps.take k):upto ps k l=l:=by
 unfold upto;exact LR.mpr fun y hy=>cR (h y hy)
theorem getD_at{ps:List Cell}{k:Nat}(hk:k<ps.length):ps.getD k (0,0)=ps[k]:=by
 rw[fU,eZ hk];rfl
theorem jB{ps:List Cell}{k:Nat}(hk:k<ps.length):ps.take (k+1)=ps.take k++[ps.getD k (0,0)]:=by
 rw[kI,eZ hk,getD_at hk];rfl
theorem xr{ps:List Cell}(nd:ps.Nodup){k:Nat}(hk:k<ps.length):ps.getD k (0,0)∉ps.take k:=by
 intro h;have h2:(ps.take k++[ps.getD k (0,0)]).Nodup:=by rw[<- jB hk];exact nd.sublist (M9 _ _)
 exact(vm.mp h2).2.2 _ h _ (cL.mpr rfl) rfl
theorem QB{ps:List Cell}{i j:Nat}(h:i<=j){y:Cell}(hy:y∈ps.take i):y∈ps.take j:=by
 have e:ps.take i=(ps.take j).take i:=by rw[List.take_take,Nat.min_eq_left h]
 rw[e] at hy;exact Fx hy
theorem wk{p:Nat->List Cell->Bool}{ps:List Cell}(nd:ps.Nodup):∀ k,k<=ps.length->∀ l,l∈layAt p ps k↔(l.Sublist (ps.take k)/\∀ j,j<k->p j (upto ps (j+1) l)=true)
 |0,_,l=>by
  unfold layAt;rw[cL,Mq,List.sublist_nil];exact⟨fun h=>⟨h,fun j hj=>absurd hj (by lia)⟩,fun h=>h.1⟩
 |k+1,hk,l=>by
  have ih:=wk (p:=p) nd k (by lia);unfold layAt;have hk':k<ps.length:=by lia
  have nin:=xr nd hk';rw[bZ,jB hk'];have Kz:∀ l':List Cell,l'.Sublist (ps.take k)->∀ j,j<k->upto ps (j+1) (l'++[ps.getD k (0,0)])=upto ps (j+1) l':=fun l' _ j hj=>by
   unfold upto;rw[Br];have:[ps.getD k (0,0)].filter (fun y=>decide (y∈ps.take (j+1)))=[]:=by
    rw[Gf,aG (by rw[dB (fun z=>nin (QB (by lia) z))];exact fH)];rfl
   rw[this,rJ]
  constructor
  ·rintro⟨hl,hp⟩;have all:∀ l':List Cell,l'.Sublist (ps.take k++[ps.getD k (0,0)])->upto ps (k+1) l'=l':=fun l' h'=>J4 fun y hy=>by rw[jB hk'];exact h'.subset hy
   rcases cB.mp hl with z|z
   ·obtain⟨h1,h2⟩:=(ih l).mp z;have hs:l.Sublist (ps.take k++[ps.getD k (0,0)]):=h1.trans (UG _ _);refine⟨hs,fun j hj=>?_⟩;by_cases e:j=k
    ·subst e;rw[all l hs];exact hp
    ·exact h2 j (by lia)
   ·obtain⟨l',m',rfl⟩:=cD.mp z;obtain⟨h1,h2⟩:=(ih l').mp m';have hs:(l'++[ps.getD k (0,0)]).Sublist (ps.take k++[ps.getD k (0,0)]):=h1.append (Mh _);refine⟨hs,fun j hj=>?_⟩;by_cases e:j=k
    ·subst e;rw[all _ hs];exact hp
    ·rw[Kz l' h1 j (by lia)];exact h2 j (by lia)
  ·rintro⟨hs,hp⟩;have hpk:=hp k (by lia);rw[J4 (fun y hy=>by rw[jB hk'];exact hs.subset hy)] at hpk;refine⟨?_,hpk⟩;obtain⟨l1,l2,e,s1,s2⟩:=List.sublist_append_iff.mp hs;subst e;have:l2=[]\/l2=[ps.getD k (0,0)]:=by
    cases l2 with
    |nil=>exact .inl rfl
    |cons a l2=>
     right;exact s2.eq_of_length_le (by simp)
   rcases this with rfl|rfl
   ·refine fW _ ((ih _).mpr ⟨by simpa using s1,fun j hj=>hp j (by lia)⟩)
   ·refine fV _ (cD.mpr ⟨l1,(ih l1).mpr ⟨s1,fun j hj=>?_⟩,rfl⟩);have:=hp j (by lia);rwa[Kz l1 s1 j hj] at this
theorem xg{p:Nat->List Cell->Bool}{ps:List Cell}(nd:ps.Nodup):∀ k,k<=ps.length->(layAt p ps k).Nodup
 |0,_=>by unfold layAt;simp
 |k+1,hk=>by
  have ih:=xg (p:=p) nd k (by lia);unfold layAt;refine List.Nodup.sublist FN (vm.mpr ⟨ih,?_,fun a ha b hb e=>?_⟩)
  ·exact Gb.mpr (ih.imp fun h e=>h (List.append_cancel_right e))
  ·obtain⟨b',_,rfl⟩:=cD.mp hb;subst e;have:=((wk nd k (by lia) _).mp ha).1;exact xr nd (by lia) (this.subset (by simp))
theorem wj(p:Nat->List Cell->Bool)(ps:List Cell):∀ k,(layAt p ps k).length<=2^k
 |0=>bB _
 |k+1=>by
  unfold layAt;refine dN (jL _ _) ?_;rw[cC,aZ,Nat.pow_succ];have:=wj p ps k;lia
theorem rY{p:Nat->List Cell->Bool}{ps:List Cell}:∀ k,∀ l∈layAt p ps k,l.length<=k
 |0,l,h=>by unfold layAt at h;rw[cL.mp h];exact bB _
 |k+1,l,h=>by
  unfold layAt at h;rcases cB.mp (bZ.mp h).1 with z|z
  ·have:=rY k l z;lia
  ·obtain⟨l',m',rfl⟩:=cD.mp z;have:=rY k l' m';rw[cC,jK];lia
def nj(N l:List Cell):Nat:=(N.filter fun y=>decide (y∈l)).length
def nR(N:List Cell)(f:Int)(rest:Nat)(l:List Cell):Bool:=decide ((nj N l:Int)<=f)&&decide (f<=(nj N l:Int)+rest)
def yN(N:List Cell)(c:Cell):Nat:=(N.filter fun y=>fJ c y).length
def pP(zs:List Str)(w:Nat)(ps:List Cell)(k:Nat)(l:List Cell):Bool:=
 (aL zs w (ps.getD k (0,0))).all fun t=>nR (aB zs w t) (fL zs t) (yN (aB zs w t) (ps.getD k (0,0))) l
def HJ(N ps:List Cell)(k:Nat):Nat:=(N.filter fun y=>decide (y∈ps.drop (k+1))).length
theorem N8{N:List Cell}{a b c:Cell->Bool}(h:∀ y∈N,a y=true->b y=true\/c y=true):(N.filter a).length<=(N.filter b).length+(N.filter c).length:=by
 induction N with
 |nil=>simp
 |cons y N ih=>
  have ih':=ih fun z hz=>h z (f9 _ hz)
  have hy:=h y cZ;simp only[Gf];cases ha:a y<;>cases hb:b y<;>cases hc:c y<;>simp_all<;>lia
theorem Ph{N:List Cell}{a b:Cell->Bool}(h:∀ y∈N,a y=true->b y=true):(N.filter a).length<=(N.filter b).length:=by
 have:=N8 (N:=N) (a:=a) (b:=b) (c:=fun _=>false) fun y hy hz=>.inl (h y hy hz)
 have e:N.filter (fun _=>false)=[]:=Lp.mpr fun _ _=>fH
 rw[e] at this;simpa using this
theorem Pj{N:List Cell}{a:Cell->Bool}(h:∀ y∈N,a y=false):(N.filter a).length=0:=by
 rw[Lp.mpr fun y hy=>by rw[h y hy];exact fH];rfl
theorem vY{N:List Cell}{a b:Cell->Bool}(h:∀ y∈N,a y=b y):(N.filter a).length=(N.filter b).length:=by rw[FW h]
section
variable{zs:List Str}{w:Nat}{ps:List Cell}
structure Part(zs:List Str)(w:Nat)(ps:List Cell):Prop where
 asc:ps.Pairwise aP
 ne:ps≠[]
 cl:∀ x∈ps,aH zs w x=true/\inF zs.length w x
 all:∀ x∈ps,∀ t∈aL zs w x,∀ y∈aB zs w t,y∈ps
theorem Part.join{c:Cell}(h6:zs.length<=6)(w6:w<=6)(hc:c∈bO zs w):Part zs w (cg zs w c):=by
 have hin:=jh hc;refine⟨nU h6 w6,fun z=>?_,fun x hx=>?_,fun x hx t ht y hy=>?_⟩
 ·have:c∈cg zs w c:=(dD hin).mpr .base;rw[z] at this;cases this
 ·have:=j9.edge hc ((dD hin).mp hx);exact⟨(sE.mp this).1,jh this⟩
 ·exact(dD hin).mpr (.step ((dD hin).mp hx) ht hy)
theorem Part.nd(p:Part zs w ps):ps.Nodup:=gk p.asc
theorem Part.near(p:Part zs w ps){x t:Cell}(hx:x∈ps)(ht:t∈aL zs w x):x∈aB zs w t:=by
 obtain⟨h1,h2,h3⟩:=gB ht;exact bZ.mpr ⟨nY h3 (p.cl x hx).2,(p.cl x hx).1⟩
theorem CK{x t:Cell}(hx:x∈aB zs w t)(tin:inF zs.length w t)(to:aH zs w t=false):t∈aL zs w x:=by
 obtain⟨h1,h2⟩:=bZ.mp hx;exact bZ.mpr ⟨nY h1 tin,by rw[to];rfl⟩
theorem Part.split(p:Part zs w ps){j:Nat}(hj:j<ps.length){y:Cell}(hy:y∈ps):(y∈ps.take (j+1)/\y∉ps.drop (j+1)/\fJ (ps.getD j (0,0)) y=false)\/(y∉ps.take (j+1)/\y∈ps.drop (j+1)/\fJ (ps.getD j (0,0)) y=true):=by
 have as:=p.asc;have e:=Bp (j+1) ps;have nd:=p.nd;rw[<- e] at as nd;have dis:=(vm.mp nd).2.2;have hjm:ps.getD j (0,0)∈ps.take (j+1):=by rw[jB hj];exact fV _ (cL.mpr rfl)
 by_cases h:y∈ps.take (j+1)
 ·left;refine⟨h,fun z=>dis y h y z rfl,?_⟩;rw[jB hj] at h as;rcases cB.mp h with z|z
  ·have h1:=(xO.mp (xO.mp as).1).2.2 y z _ (cL.mpr rfl);exact dB (by unfold aP at *;lia)
  ·rw[cL.mp z];exact dB (by unfold aP;lia)
 ·right;rw[<- e] at hy;have hd:y∈ps.drop (j+1):=(cB.mp hy).resolve_left h;exact⟨h,hd,cR ((xO.mp as).2.2 _ hjm y hd)⟩
theorem Part.beh(p:Part zs w ps){j:Nat}(hj:j<ps.length){N:List Cell}(hN:∀ y∈N,y∈ps):yN N (ps.getD j (0,0))=HJ N ps j:=by
 refine vY fun y hy=>?_
 rcases p.split hj (hN y hy) with⟨_,h2,h3⟩|⟨_,h2,h3⟩
 ·rw[h3,dB h2]
 ·rw[h3,cR h2]
theorem Cw{N l:List Cell}{f:Int}{r:Nat}:nR N f r l=true↔((nj N l:Int)<=f/\f<=(nj N l:Int)+r):=by
 unfold nR;rw[kj,gq,gq]
theorem Part.before(p:Part zs w ps){j:Nat}(hj:j<ps.length){N l:List Cell}(hN:∀ y∈N,y∈ps){f:Int}(h:(nj N l:Int)=f):nR N f (HJ N ps j) (upto ps (j+1) l)=true:=by
 rw[Cw,<- h];constructor
 ·have:=Ph (N:=N) (a:=fun y=>decide (y∈upto ps (j+1) l)) (b:=fun y=>decide (y∈l)) fun y _ hz=>cR (bZ.mp (cJ hz)).1
  unfold nj;lia
 ·have:=N8 (N:=N) (a:=fun y=>decide (y∈l)) (b:=fun y=>decide (y∈upto ps (j+1) l)) (c:=fun y=>decide (y∈ps.drop (j+1))) fun y hy hz=>by
   rcases p.split hj (hN y hy) with⟨h1,_,_⟩|⟨_,h2,_⟩
   ·exact .inl (cR (bZ.mpr ⟨cJ hz,cR h1⟩))
   ·exact .inr (cR h2)
  unfold nj HJ;lia
theorem Yy{j:Nat}{N l:List Cell}{f:Int}(hN:∀ y∈N,y∈ps.take (j+1))(h0:HJ N ps j=0)(h:nR N f (HJ N ps j) (upto ps (j+1) l)=true):(nj N l:Int)=f:=by
 rw[Cw,h0] at h;have e:nj N (upto ps (j+1) l)=nj N l:=vY fun y hy=>by
  rw[vo];exact⟨fun z=>(bZ.mp z).1,fun z=>bZ.mpr ⟨z,cR (hN y hy)⟩⟩
 rw[e] at h;lia
theorem Wi{N:List Cell}(h0:N≠[])(hN:∀ y∈N,y∈ps):∃ j,j<ps.length/\ps.getD j (0,0)∈N/\∀ y∈N,y∈ps.take (j+1):=by
 have go:∀ k,k<=ps.length->(∀ y∈N,y∈ps.take k)->∃ j,j<ps.length/\ps.getD j (0,0)∈N/\∀ y∈N,y∈ps.take (j+1):=by
  intro k
  induction k with
  |zero=>
   intro _ h;cases N with
   |nil=>exact absurd rfl h0
   |cons a N=>have:=h a cZ;rw[Mq] at this;cases this
  |succ k ih=>
   intro hk h;by_cases hh:∀ y∈N,y∈ps.take k
   ·exact ih (by lia) hh
   ·have ⟨y,hy,hn⟩:∃ y,y∈N/\y∉ps.take k:=Fq fun hc=>hh fun y hy=>Fq fun hn=>hc ⟨y,hy,hn⟩
    have:=h y hy;rw[jB (by lia)] at this;have e:y=ps.getD k (0,0):=cL.mp ((cB.mp this).resolve_left hn);exact⟨k,by lia,by rw[<- e];exact hy,h⟩
 exact go ps.length (bB _) (fun y hy=>by rw[kE];exact hN y hy)
def Y4(zs:List Str)(w:Nat)(ps l:List Cell):Prop:=∀ x∈ps,∀ t∈aL zs w x,(nj (aB zs w t) l:Int)=fL zs t
theorem Part.a2q(p:Part zs w ps)(l:List Cell):l∈layAt (pP zs w ps) ps ps.length↔(l.Sublist ps/\Y4 zs w ps l):=by
 rw[wk p.nd _ (bB _),kE];refine and_congr_right fun hs=>⟨fun h x hx t ht=>?_,fun h j hj=>?_⟩
 ·have hN:∀ y∈aB zs w t,y∈ps:=p.all x hx t ht;have hx':=p.near hx ht;obtain⟨j,hj,hm,hl⟩:=Wi (fun z=>by rw[z] at hx';cases hx') hN;obtain⟨tin,to,_⟩:=gB ht;have:=jt.mp (h j hj) t (CK hm tin to);rw[p.beh hj hN] at this;refine Yy hl (Pj fun y hy=>?_) this;rcases p.split hj (hN y hy) with⟨_,h2,_⟩|⟨h2,_,_⟩
  ·exact dB h2
  ·exact absurd (hl y hy) h2
 ·refine jt.mpr fun t ht=>?_
  have hx:ps.getD j (0,0)∈ps:=by rw[getD_at hj];exact pZ _
  have hN:∀ y∈aB zs w t,y∈ps:=p.all _ hx t ht;rw[p.beh hj hN];exact p.before hj hN (h _ hx t ht)
def eV(zs:List Str)(w:Nat)(ps:List Cell):List (List Cell):=(layAt (pP zs w ps) ps ps.length).mergeSort fun a b=>!llt b a
theorem lU:(eV zs w ps).Perm (layAt (pP zs w ps) ps ps.length):=List.mergeSort_perm _ _
theorem PK:QJ (eV zs w ps):=by
 have h:(eV zs w ps).Pairwise fun a b=>(!llt b a)=true:=by
  refine List.pairwise_mergeSort (fun a b c h1 h2=>?_) (fun a b=>?_) _
  ·have h1:llt b a=false:=by simpa using h1
   have h2:llt c b=false:=by simpa using h2
   rw[uI.tr _ _ _ h1 h2];rfl
  ·cases h:llt b a
   ·rfl
   ·rw[uI.GJ _ _ h];rfl
 exact h.imp fun h=>by simpa using h
theorem Part.lays(p:Part zs w ps){ds:List (List Cell)}(h1:ds.Perm (layAt (pP zs w ps) ps ps.length))(h2:QJ ds):ds=eV zs w ps:=Mw uI (h1.trans lU.symm) h2 PK
theorem Part.mem(p:Part zs w ps)(l:List Cell):l∈eV zs w ps↔(l.Sublist ps/\Y4 zs w ps l):=by rw[lU.mem_iff,p.a2q]
theorem PL(h:ps.length<=12):(eV zs w ps).length<=4096:=by
 rw[lU.length_eq];exact dN (wj _ _ _) (Vl (by decide) h)
theorem PN{l:List Cell}(hl:l∈eV zs w ps):l.length<=ps.length:=rY _ l (lU.mem_iff.mp hl)
theorem lQ{x y:Cell}(h6:zs.length<=6)(w6:w<=6)(hx:x∈bO zs w)(hy:y∈cg zs w x):cg zs w y=cg zs w x:=by
 have ix:=jh hx;have c1:=(dD ix).mp hy;have ey:=j9.edge hx c1;have c2:=j9.symm (sE.mp hx).1 ix c1;refine yK (nU h6 w6) (nU h6 w6) fun z=>?_
 rw[dD (jh ey),dD ix];exact⟨fun c=>c1.trans c,fun c=>c2.trans c⟩
structure Vx(zs:List Str)(w:Nat)(ps:List (List Cell)):Prop where
 of:∀ p∈ps,∃ x∈bO zs w,p=cg zs w x
 dis:ps.Pairwise fun a b=>∀ y∈a,y∉b
theorem zO(h6:zs.length<=6)(w6:w<=6):∀(cs:List Cell)(ps:List (List Cell)),(∀ c∈cs,c∈bO zs w)->Vx zs w ps->Vx zs w (gK zs w cs ps)/\(∀ c∈cs,∃ p∈gK zs w cs ps,c∈p)/\(∀ p∈ps,p∈gK zs w cs ps)
 |[],ps,_,ok=>by unfold gK;exact⟨ok,(fun c hc=>by cases hc),fun p hp=>hp⟩
 |c::cs,ps,hcs,ok=>by
  have hc:=hcs c cZ;have ic:=jh hc;have self:c∈cg zs w c:=(dD ic).mpr .base;unfold gK;by_cases h:∃ p∈ps,c∈p
  ·rw[aJ h];obtain⟨a1,a2,a3⟩:=zO h6 w6 cs ps (fun d hd=>hcs d (f9 _ hd)) ok;refine⟨a1,fun d hd=>?_,a3⟩;rcases cW.mp hd with z|z
   ·obtain⟨p,hp,hcp⟩:=h;exact⟨p,a3 p hp,by rw[z];exact hcp⟩
   ·exact a2 d z
  ·rw[aG h];have ok2:Vx zs w (ps++[cg zs w c]):=by
    refine⟨fun p hp=>?_,xO.mpr ⟨ok.dis,UW _ _,fun a ha b hb y hy hy2=>?_⟩⟩
    ·rcases cB.mp hp with z|z
     ·exact ok.of p z
     ·exact⟨c,hc,cL.mp z⟩
    ·rw[cL.mp hb] at hy2;obtain⟨x,hx,rfl⟩:=ok.of a ha;refine h ⟨_,ha,?_⟩;rw[<- lQ h6 w6 hx hy,lQ h6 w6 hc hy2];exact self
   obtain⟨a1,a2,a3⟩:=zO h6 w6 cs (ps++[cg zs w c]) (fun d hd=>hcs d (f9 _ hd)) ok2;refine⟨a1,fun d hd=>?_,fun p hp=>a3 p (fW _ hp)⟩;rcases cW.mp hd with z|z
   ·exact⟨_,a3 _ (fV _ (cL.mpr rfl)),by rw[z];exact self⟩
   ·exact a2 d z
theorem j7(h6:zs.length<=6)(w6:w<=6):Vx zs w (bG zs w)/\∀ c∈bO zs w,∃ p∈bG zs w,c∈p:=by
 obtain⟨a1,a2,_⟩:=zO (zs:=zs) (w:=w) h6 w6 (bO zs w) [] (fun c hc=>hc) ⟨(fun p hp=>by cases hp),.nil⟩;exact⟨a1,a2⟩
end
theorem qF(zs:List Str)(w:Nat)(x:Cell):(aB zs w x).length<=8:=dN (jL _ _) (iB _ _ _)
def Hl(zs:List Str)(w:Nat)(c t:Cell):Dt:=.tup [.int (fL zs t),.lst ((aB zs w t).map au),.int (yN (aB zs w t) c)]
def Dd(K:ak)(C:Addr):Sp:=fun vs H Q _=>∃(x:Addr)(v:V)(zs:List Str)(w:Nat)(c:Cell),vs=[.ref x,v]/\bW C H x zs w/\Den K H v (au c)/\inF zs.length w c/\∀ q H',Fr K H H' q ((aL zs w c).map (Hl zs w c))->Q (.ref q) H'
section
variable{P:Program}{w:World}{K:ak}{mg:Str->Option Value}{base:Heap}{Z:Adr}
theorem JW{f:Addr}{fd:FuncData} (F:Fun K "demands" "demands" wC f fd) (T:Txt K mg Z) (cT:Df P w K mg base 3 "open_near" ["view","cell"] (pJ K Z.View aL)) (d7:Df P w K mg base 3 "closed_near" ["view","cell"] (pJ K Z.View aB)) (jc:Df P w K mg base 1 "figure" ["view","cell"] (uY K Z.View)) :
  cF P w K mg base (CXE P w) 4 f fd ["view","last"] (Dd K Z.View):=by
 refine F.rok m9 (fun vs H Q E h=>?_) (fun cdv A outer s H vs Q E hr h=>?_)
 ·obtain⟨x,v,zs,w,c,rfl,_⟩:=h;rfl
 ·obtain⟨x,v,zs,w,c,rfl,vt,dv,hin,hq⟩:=h;have hu:=jQ hr;refine⟨_,(aA (bK (i:=2) m9.nd rfl (Or.inl rfl) (fG ao)) (aA (dw fY rfl (bD (K:=K) (aX cT hr rfl aR (aj (rv 0) (aj (rv 1) ao)))) (bQ (i:=3) m9.nd rfl (Or.inl rfl)) (aA (bK (i:=4) m9.nd rfl (Or.inl rfl) (aX d7 hr rfl aR (aj (rv 0) (aj (rv 3) ao)))) (aA (yx (i:=5) m9.nd rfl rfl (by rfl) rfl (bD (K:=K) (rv 4)) (fun _ _ _=>(iK (bJ (a1a (K:=K) hu) (rv 0) (rv 2) (c7 _)))) (fun _ _ _=>(rv 0))) (aD (eY (lR (K:=K) jZ pX pY eG (rv 2) (aj (mO (aj (aX jc hr rfl aR (aj (rv 0) (aj (rv 3) ao))) (aj (rv 4) (aj (bF (iD (K:=K)) rfl T.gH dY (aj (rv 5) ao)) ao)))) ao))))))) (aD (bx (rv 2))))),?_⟩;refine aF (fun zzs H1=>∃ q:Addr,H q=none/\Same H H1/\H1 q=some (.lst [])/\zzs=[zzR x,some v,zzR q,zzN,zzN,zzN]) (fun R hR=>?_) ?_
  ·exact⟨by decide,fun q nq=>hR _ _ ⟨q,nq,Same.put nq,aC,rfl⟩⟩
  rintro zzs H1 ⟨q,nq,s1,eq1,rfl⟩;refine aF (fun zzs H2=>∃(us:List V)(v3 v4 v5:Option V),Same H H2/\H2 q=some (.lst us)/\aV K (del q H2) us ((aL zs w c).map (Hl zs w c))/\zzs=[zzR x,some v,zzR q,v3,v4,v5]) (fun R hR=>?_) ?_
  ·refine⟨_,rfl,_,rfl,x,_,zs,w,c,rfl,vt.mono s1,dv.mono s1,hin,fun tl H2 f2=>?_⟩;obtain⟨ts,et,Dt'⟩:=f2.ls;have lts:ts.length=(aL zs w c).length:=by rw[Dt'.length,aZ]
   have lt8:=uL zs w c;have ntq:tl≠q:=fun z=>by have:=f2.new;rw[z,eq1] at this;cases this
   refine⟨tl,rfl,⟨_,SqL.of et⟩,?_⟩;refine dI (K:=K) (xs:=ts) (fun i zzs H3=>∃(us:List V)(v3 v4 v5:Option V),Same H H3/\H3 tl=some (.lst ts)/\aV K H3 ts ((aL zs w c).map au)/\H3 q=some (.lst us)/\aV K (del q H3) us (((aL zs w c).take i).map (Hl zs w c))/\zzs=[zzR x,some v,zzR q,v3,v4,v5])
    ⟨[],none,none,none,s1.trans f2.same,et,Dt',f2.same _ _ eq1,.nil,rfl⟩ (fun i zzs H3 _ hh=>by obtain⟨_,_,_,_,_,e,_⟩:=hh;exact SqL.of e) (fun i u zzs H3 hu' hh=>?_) (fun zzs H3 hh=>?_)
   ·obtain⟨us,v3,v4,v5,sh,et3,Dt3,eq3,D3,rfl⟩:=hh;obtain⟨dt,edt,du⟩:=Dt3.get hu';rw[dG] at edt;obtain⟨t,etq,rfl⟩:=j8.mp edt;have hi:i<(aL zs w c).length:=(mZ.mp etq).1;obtain⟨tin,to,_⟩:=gB (fQ etq);refine aF (fun zzs H4=>∃ a:Addr,Same H3 H4/\H3 a=none/\Ls K H4 a ((aB zs w t).map au)/\zzs=[zzR x,some v,zzR q,some u,zzR a,v5]) (fun R' hR'=>?_) ?_
    ·exact⟨_,rfl,_,rfl,x,_,zs,w,t,rfl,vt.mono sh,du,tin,fun a H4 f4=>hR' _ _ ⟨a,f4.same,f4.new,f4.ls,rfl⟩⟩
    rintro zzs H4 ⟨a,s4,na,la,rfl⟩;obtain⟨as,ea,Da⟩:=id la;have lc8:=qF zs w t;refine aF (fun zzs H5=>∃ b:Addr,Same H4 H5/\Ls K H5 b (((aB zs w t).filter fun y=>fJ c y).map au)/\zzs=[zzR x,some v,zzR q,some u,zzR a,zzR b]) (fun R' hR'=>?_) ?_
    ·refine⟨_,rfl,a,rfl,⟨_,SqL.of ea⟩,gU (K:=K) (xs:=aB zs w t) (enc:=au) (cG (SqL.of ea)) Da (small (by lia)) (fun y=>fJ c y) au (fun y hy u' H5 s5 d G hG=>?_) (fun y hy _ u' H5 s5 d G hG=>⟨_,rfl,hG _ _ (Same.refl _) d⟩) (fun ys H5 s5 D5 b hb=>?_)⟩
     ·exact⟨_,rfl,_,rfl,y,c,d,dv.mono (sh.trans (s4.trans s5)),_,rfl,hG _ (Same.refl _)⟩
     ·exact hR' _ _ ⟨b,s5.and hb,.new hb D5,rfl⟩
    rintro zzs H5 ⟨b,s5,lb,rfl⟩;have eq5:=s5 _ _ (s4 _ _ eq3);have lus:us.length<=8:=by rw[D3.length,aZ,sU];lia
    refine⟨_,rfl,.inl ⟨rfl,_,SqL.of eq5⟩,?_⟩;refine⟨_,rfl,_,rfl,x,_,zs,w,t,rfl,vt.mono (sh.trans (s4.trans s5)),du.mono (s4.trans s5),tin,to,?_⟩;refine⟨_,rfl,_,rfl,?_⟩;dsimp only[nD];refine zV lb.den ?_;refine⟨sz rfl,fun tt nt=>?_⟩;have s6:=Same.put (o:=.tup [.int (fL zs t),.ref a,.int ((((aB zs w t).filter fun y=>fJ c y).map au).length:Int)]) nt;refine o8 (K:=K) (s6 _ _ eq5) (by lia) ?_;have sb:SameBut q (upd H5 tt (.tup [.int (fL zs t),.ref a,.int ((((aB zs w t).filter fun y=>fJ c y).map au).length:Int)])) (upd (upd H5 tt (.tup [.int (fL zs t),.ref a,.int ((((aB zs w t).filter fun y=>fJ c y).map au).length:Int)])) q (.lst (us++[.ref tt]))):=(SameBut.refl q _).put;have naq:a≠q:=fun z=>by rw[z,eq3] at na;cases na
    have a2y:tt≠q:=fun z=>by rw[z,eq5] at nt;cases nt
    have sH:Same H3 (upd H5 tt (.tup [.int (fL zs t),.ref a,.int ((((aB zs w t).filter fun y=>fJ c y).map au).length:Int)])):=(s4.trans s5).trans s6;refine⟨us++[.ref tt],_,_,_,sb.of (sh.trans sH) nq,sb _ _ (sH _ _ et3) ntq,sb.cells (s6 _ _ eq5) (Dt3.mono sH),aC,?_,rfl⟩;rw[kI,etq,eE];refine(D3.mono ((sH.but q).trans sb).del).append (.cons ?_ .nil);have dn:Same (del q (upd H5 tt (.tup [.int (fL zs t),.ref a,.int ((((aB zs w t).filter fun y=>fJ c y).map au).length:Int)]))) (del q (upd (upd H5 tt (.tup [.int (fL zs t),.ref a,.int ((((aB zs w t).filter fun y=>fJ c y).map au).length:Int)])) q (.lst (us++[.ref tt])))):=sb.del;refine Den.mono dn ?_;unfold Hl;refine Den.tup (by rw[lM a2y];exact aC) (.cons (.int _) (.cons (vQ (s6 _ _ eq5) naq (la.mono (s5.trans s6))).den (.cons ?_ .nil)));rw[aZ];exact .int _
   ·obtain⟨us,v3,v4,v5,sh,et3,Dt3,eq3,D3,rfl⟩:=hh;rw[lts,kE] at D3;exact hR _ _ ⟨us,v3,v4,v5,sh,eq3,D3,rfl⟩
  rintro zzs H2 ⟨us,v3,v4,v5,s2,eq2,D2,rfl⟩;exact⟨_,rfl,hq q _ ⟨s2,nq,us,eq2,D2.mono yZ⟩⟩
theorem W2{H:Hp}{v:V}{zs:List Str}{wd:Nat}{c t:Cell}(h:Den K H v (Hl zs wd c t)):∃(b:Addr)(y:V),v=.ref b/\H b=some (.tup [.int (fL zs t),y,.int (yN (aB zs wd t) c)])/\Den K H y (.lst ((aB zs wd t).map au)):=by
 unfold Hl at h;cases h with
 |tup ht hs=>
  cases hs with
  |cons h1 hs=>
   cases hs with
   |cons h2 hs=>
    cases hs with
    |cons h3 hs=>
     cases hs;cases h1;cases h3;exact⟨_,_,rfl,ht,h2⟩
def p7(zs:List Str)(wd:Nat)(c:Cell)(ts l:List Cell):Bool:=ts.all fun t=>nR (aB zs wd t) (fL zs t) (yN (aB zs wd t) c) l
def Yj(K:ak):Sp:=fun vs H Q _=>∃(v:V)(q:Addr)(zs:List Str)(wd:Nat)(c:Cell)(ts l:List Cell),vs=[v,.ref q]/\Den K H v (wA l)/\Ls K H q (ts.map (Hl zs wd c))/\∀ H',Same H H'->Q (.bl (p7 zs wd c ts l)) H'
theorem Zw{f:Addr}{fd:FuncData} (F:Fun K "may_hold" "may_hold" tO f fd) (T:Txt K mg Z):cF P w K mg base (CXE P w) 1 f fd ["laying","asked"] (Yj K):=by
 refine F.rok qX (fun vs H Q E h=>?_) (fun cdv A outer s H vs Q E hr h=>?_)
 ·obtain⟨v,q,zs,w,c,ts,l,rfl,_⟩:=h;rfl
 ·obtain⟨v,q,zs,wd,c,ts,l,rfl,dv,lq,hq⟩:=h;have hu:=jQ hr;have hu':=Hy hr;refine⟨_,(aA (dw fY rfl (bD (K:=K) (rv 1)) (bQ (i:=2) qX.nd rfl (Or.inl rfl)) (aA (bK (i:=3) qX.nd rfl (Or.inl rfl) (bF (iD (K:=K)) rfl T.gH dY (aj (jz (by rfl) rfl (bD (K:=K) (fP (gP (K:=K)) (rv 2) aM)) (fun _ _ _=>(iK (bJ (j6.or (wZ (K:=K) hu')) (rv 0) (rv 1) (by rfl)))) (fun _ _ _=>(rv 0))) ao))) (aD (dF (lW (TV xG xG (rv 3) (fP (gP (K:=K)) (rv 2) aM) (gW gJ (rv 3) (fP (gP (K:=K)) (rv 2) aM)))) (aD (bx pC)) bL)))) (aD (bx pC))),?_⟩;obtain⟨l',rfl⟩:∃ a,v=.ref a:=by cases dv;exact⟨_,rfl⟩
  obtain⟨xs,ex,Dx⟩:=lq;have lx:xs.length=ts.length:=by rw[Dx.length,aZ]
  refine aF (fun zzs H1=>∃(v2 v3:Option V),Same H H1/\p7 zs wd c ts l=true/\zzs=[zzR l',zzR q,v2,v3]) (fun R hR=>?_) ?_
  ·refine⟨_,rfl,q,rfl,⟨_,SqL.of ex⟩,?_⟩;refine dI (K:=K) (xs:=xs) (fun i zzs H1=>∃(v2 v3:Option V),Same H H1/\(∀ t∈ts.take i,nR (aB zs wd t) (fL zs t) (yN (aB zs wd t) c) l=true)/\zzs=[zzR l',zzR q,v2,v3])
    ⟨none,none,Same.refl _,(fun t ht=>by cases ht),rfl⟩ (fun i zzs H1 _ hh=>by obtain⟨_,_,g,_⟩:=hh;exact SqL.of (g _ _ ex)) (fun i u zzs H1 hi hh=>?_) (fun zzs H1 hh=>?_)
   ·obtain⟨v2,v3,g1,g2,rfl⟩:=hh;obtain⟨d,ed,du⟩:=Dx.get hi;rw[dG] at ed;obtain⟨t,et,rfl⟩:=j8.mp ed;obtain⟨b,y,rfl,eb,dy⟩:=W2 (du.mono g1);obtain⟨yl,rfl⟩:∃ a,y=.ref a:=by cases dy;exact⟨_,rfl⟩
    have lc8:=qF zs wd t;refine aF (fun zzs H2=>Same H1 H2/\zzs=[zzR l',zzR q,zzR b,zzI (nj (aB zs wd t) l)]) (fun R' hR'=>?_) ?_
    ·refine⟨_,rfl,.inr (.inl ⟨b,_,_,_,rfl,rfl,SqT.of eb,gG (j:=1) rfl,?_⟩)⟩;cases dy with
     |lst hy Dy=>
      refine⟨yl,rfl,⟨_,hy⟩,gU (K:=K) (xs:=aB zs wd t) (enc:=au) (cG hy) Dy (small (by lia)) (fun y=>decide (y∈l)) au (fun y hy u' H5 s5 d G hG=>?_) (fun y hy _ u' H5 s5 d G hG=>⟨_,rfl,hG _ _ (Same.refl _) d⟩) (fun ys H5 s5 D5 n hn=>?_)⟩
      ·exact⟨_,rfl,_,rfl,.inr (zU d (dv.mono (g1.trans s5)) ⟨_,rfl,hG _ (Same.refl _)⟩)⟩
      ·dsimp only[nD];refine zV (Ls.new hn D5).den ?_;rw[aZ];exact hR' _ _ ⟨s5.and hn,rfl⟩
    rintro zzs H2 ⟨s2,rfl⟩;have eb2:=s2 _ _ eb;have nxt:nR (aB zs wd t) (fL zs t) (yN (aB zs wd t) c) l=true->∃(v2 v3:Option V),Same H H2/\(∀ t∈ts.take (i+1),nR (aB zs wd t) (fL zs t) (yN (aB zs wd t) c) l=true)/\[zzR l',zzR q,zzR b,zzI (nj (aB zs wd t) l)]=[some (V.ref l'),some (.ref q),v2,v3]:=fun hb=>⟨_,_,g1.trans s2,fun t' ht'=>by
     rw[kI,et] at ht';rcases cB.mp ht' with z|z
     ·exact g2 t' z
     ·rw[cL.mp z];exact hb,rfl⟩
    have bad:nR (aB zs wd t) (fL zs t) (yN (aB zs wd t) c) l=false->Q (.bl false) H2:=fun hb=>by
     have:p7 zs wd c ts l=false:=by
      cases e:p7 zs wd c ts l
      ·rfl
      ·have:=jt.mp e t (fQ et);rw[hb] at this;cases this
     rw[<- this];exact hq _ (g1.trans s2)
    refine⟨_,rfl,_,rfl,.inr (.inl ⟨b,_,_,_,rfl,rfl,SqT.of eb2,iG,?_⟩)⟩;refine⟨_,_,rfl,rfl,_,rfl,?_⟩;refine cN (fun h1=>?_) (fun h1=>?_)
    ·refine⟨_,rfl,_,rfl,.inr (.inl ⟨b,_,_,_,rfl,rfl,SqT.of eb2,gG (j:=2) rfl,?_⟩)⟩;refine⟨_,_,rfl,rfl,_,rfl,?_⟩;refine cN (fun h2=>?_) (fun h2=>?_)
     ·refine bad ?_;unfold nR;rw[show decide (fL zs t<=(nj (aB zs wd t) l:Int)+(yN (aB zs wd t) c:Int))=false by simpa only[jr] using h2,rD]
     ·refine nxt ?_;unfold nR;rw[h1,show decide (fL zs t<=(nj (aB zs wd t) l:Int)+(yN (aB zs wd t) c:Int))=true by simpa only[rG] using h2];rfl
    ·refine⟨_,rfl,BJ ?_⟩;refine bad ?_;unfold nR;rw[h1];rfl
   ·obtain⟨v2,v3,g1,g2,rfl⟩:=hh;rw[lx,kE] at g2;exact hR _ _ ⟨v2,v3,g1,jt.mpr g2,rfl⟩
  rintro zzs H1 ⟨v2,v3,s1,hk,rfl⟩;rw[hk] at hq;exact hq _ s1
theorem CW{K:ak}{H0 H:Hp}:∀ {vs:List V} {rs:List (List Cell)},gR (mH K H0) H vs rs->∃ qs:List Addr,vs=qs.map V.ref
 |_,_,.nil=>⟨[],rfl⟩
 |_,_,.cons h t=>by
  obtain⟨a,rfl,_⟩:=h;obtain⟨qs,e⟩:=CW t;exact⟨a::qs,by rw[e];rfl⟩
theorem a1p{K:ak}{H0 H:Hp}{q:Addr}{qs:List Addr}{rs:List (List Cell)}(r:gR (mH K H0) H (qs.map V.ref) rs)(nd:rs.Nodup)(nq:H q=none):qu K H0 (upd H q (.lst (qs.map V.ref))) q qs rs:=by
 have s1:=Same.put (o:=.lst (qs.map V.ref)) nq;have at_:∀(i:Nat)(a:Addr),qs[i]?=some a->∃ p,rs[i]?=some p/\mH K H0 p (.ref a) H:=fun i a e=>r.get (by rw[dG,e];rfl)
 have len:qs.length=rs.length:=by have:=r.length;rwa[aZ] at this
 refine⟨aC,len,fun i a p h1 h2=>?_,fun a ha=>?_,?_,fun z=>?_⟩
 ·obtain⟨p',e,b,eb,_,l⟩:=at_ i a h1;rw[h2] at e;cases e;cases eb;exact l.mono s1
 ·obtain⟨i,hi⟩:=Fv ha;obtain⟨p',e,b,eb,n,l⟩:=at_ i a hi;cases eb;exact n
 ·rw[List.nodup_iff_pairwise_ne,sS];intro i j hi hj hij e;obtain⟨p,ep,rp⟩:=at_ i _ (eZ hi);obtain⟨p',ep',rp'⟩:=at_ j _ (eZ hj);rw[e] at rp;have:=rp.det rp';subst this;have h1:=(mZ.mp ep)
  have h2:=(mZ.mp ep')
  have:i=j:=(List.getElem_inj nd).mp (h1.2.trans h2.2.symm);lia
 ·obtain⟨i,hi⟩:=Fv z;obtain⟨p',e,b,eb,n,xs,ex,_⟩:=at_ i q hi;cases eb;rw[ex] at nq;cases nq
def Dg(K:ak)(C NC TG:Addr):Sp:=fun vs H Q E=>∃(x:Addr)(v:V)(zs:List Str)(w:Nat)(c:Cell),vs=[.ref x,v]/\bW C H x zs w/\Den K H v (au c) /\
 (c∉bO zs w->∀ H',Same H H'->E (.ref NC) none H')/\(c∈bO zs w->12<(cg zs w c).length->∀ H',Same H H'->E (.ref TG) none H') /\
 (c∈bO zs w->(cg zs w c).length<=12->∀(q:Addr)(qs:List Addr)(H':Hp),H q=none->Same H H'->qu K H H' q qs (eV zs w (cg zs w c))->Q (.ref q) H')
theorem JX{f:Addr}{fd:FuncData} (F:Fun K "layings" "layings" wH f fd) (T:Txt K mg Z) (vA:Df P w K mg base 4 "edge" ["view"] (nC K Z.View bO)) (nG:Df P w K mg base 4 "joined" ["view","cell"] (Al K Z.View)) (vq:Df P w K mg base 4 "demands" ["view","last"] (Dd K Z.View)) (sV:Df P w K mg base 1 "may_hold" ["laying","asked"] (Yj K)) :
  cF P w K mg base (CXE P w) 5 f fd ["view","cell"] (Dg K Z.View Z.NoCell Z.TooGreat):=by
 refine F.Ey iT (fun vs H Q E h=>?_) (fun cdv A outer s H vs Q E hr h=>?_)
 ·obtain⟨x,v,zs,w,c,rfl,_⟩:=h;rfl
 ·obtain⟨x,v,zs,w,c,rfl,vt,dv,hN,hT,hq⟩:=h;have hu:=jQ hr;have hu':=Hy hr;have hd:=zA hr;have z6:=vt.vw.le;have w6:=vt.vw.w6;refine⟨_,(aA (dF (RT.nox (bJ (pA.or (zF (K:=K) hu')) (rv 1) (aX vA hr rfl aR (aj (rv 0) ao)) (by rfl))) (aD (gY T.mq rfl T.qD hd (aj gM ao))) bL) (aA (RS.nox (bK (i:=2) iT.nd rfl (Or.inl rfl) (aX nG hr rfl aR (aj (rv 0) (aj (rv 1) ao))))) (aA (dF (RT.nox (bJ CN (bF (iD (K:=K)) rfl T.gH dY (aj (rv 2) ao)) (Ka T.iz rfl) (c7 _))) (aD (gY T.jC rfl T.sY hd (aj gM ao))) bL) (aA (RS.nox (bK (i:=3) iT.nd rfl (Or.inl rfl) (fG (aj (fG ao) ao)))) (aA (RS.nox (dw fY rfl (bD (K:=K) (rv 2)) (bQ (i:=4) iT.nd rfl (Or.inr rfl)) (aA (bK (i:=5) iT.nd rfl (Or.inr rfl) (aX vq hr rfl aR (aj (rv 0) (aj (rv 4) ao)))) (aA (bK (i:=6) iT.nd rfl (Or.inl rfl) (gW gJ (rv 3) (jz (by rfl) rfl (bD (K:=K) (rv 3)) (fun _ _ _=>uP) (fun _ _ _=>(gW gJ (rv 0) (fG (aj (rv 5) ao))))))) (aD (yx (i:=3) iT.nd rfl rfl (by rfl) rfl (bD (K:=K) (rv 6)) (fun _ _ _=>(iK (iR (aX sV hr rfl aR (aj (rv 0) (aj (rv 6) ao)))))) (fun _ _ _=>(rv 0)))))))) (aD (RS.nox (bx (bF (Wc (K:=K) hu) rfl T.lJ lB (aj (rv 3) ao)))))))))),?_⟩;refine aF (fun zzs H1=>c∈bO zs w/\Same H H1/\zzs=[zzR x,some v,zzN,zzN,zzN,zzN,zzN]) (fun R hR=>?_) ?_
  ·refine⟨_,rfl,_,rfl,x,zs,w,rfl,vt,fun eg H1 fr=>.inr (zW (dv.mono fr.same) fr.ls.den ⟨_,rfl,?_⟩)⟩;refine cN (fun h1=>⟨by decide,hN (jl (by simpa only[jr] using h1)) H1 fr.same⟩) (fun h1=>hR _ _ ⟨cJ (by simpa only[rG] using h1),fr.same,rfl⟩)
  rintro zzs H1 ⟨hc,s1,rfl⟩;have hin:=jh hc;have pt:=Part.join z6 w6 hc;refine aF (fun zzs H2=>∃(pl:Addr)(ms:List V),Same H H2/\H2 pl=some (.lst ms)/\aV K H2 ms ((cg zs w c).map au)/\zzs=[zzR x,some v,zzR pl,zzN,zzN,zzN,zzN]) (fun R hR=>?_) ?_
  ·refine⟨_,rfl,_,rfl,x,_,zs,w,c,rfl,vt.mono s1,dv.mono s1,hin,fun a H2 ds na s2 la as mm=>?_⟩;have e:ds=cg zs w c:=yK as (nU z6 w6) fun y=>by rw[mm y,dD hin]
   rw[e] at la;obtain⟨ms,em,Dm⟩:=la;exact hR _ _ ⟨a,ms,s1.trans s2,em,Dm,rfl⟩
  rintro zzs H2 ⟨pl,ms,s2,em,Dm,rfl⟩;have lms:ms.length=(cg zs w c).length:=by rw[Dm.length,aZ]
  refine aF (fun zzs H3=>(cg zs w c).length<=12/\H3=H2/\zzs=[zzR x,some v,zzR pl,zzN,zzN,zzN,zzN]) (fun R hR=>?_) ?_
  ·refine⟨_,rfl,?_⟩;dsimp only[nD];refine zV (Den.lst (SqL.of em) Dm) ⟨_,_,rfl,rfl,_,rfl,?_⟩;rw[aZ];refine cN (fun h1=>⟨by decide,hT hc (by have:=cJ h1;lia) H2 s2⟩) (fun h1=>hR _ _ ⟨by have:=jl h1;lia,rfl,rfl⟩)
  rintro zzs H3 ⟨h12,rfl,rfl⟩;have hq':=hq hc h12;clear hN hT hq;generalize hps:cg zs w c=ps at *;refine aF (fun zzs H4=>∃(bl:Addr)(bs:List V),Same H H4/\H4 pl=some (.lst ms)/\aV K H4 ms (ps.map au)/\H4 bl=some (.lst bs)/\gR (mH K H) H4 bs (layAt (pP zs w ps) ps 0)/\zzs=[zzR x,some v,zzR pl,zzR bl,zzN,zzN,zzN]) (fun R hR=>?_) ?_
  ·refine⟨by decide,fun e0 n0=>?_⟩;dsimp only[nD];refine⟨sz rfl,fun bl nb=>?_⟩;have t1:=Same.put (o:=.lst []) n0;have t2:=t1.and (o:=.lst [.ref e0]) nb;refine hR _ _ ⟨bl,_,s2.trans t2,t2 _ _ em,Dm.mono t2,aC,.cons ⟨e0,rfl,s2.free n0,[],?_,.nil⟩ .nil,rfl⟩;exact(Same.put nb) _ _ aC
  rintro zzs H4 ⟨bl,bs,s4,em4,Dm4,eb4,rb4,rfl⟩;refine aF (fun zzs H5=>∃(bl:Addr)(bs:List V)(v4 v5 v6:Option V),Same H H5/\H5 bl=some (.lst bs)/\gR (mH K H) H5 bs (layAt (pP zs w ps) ps ps.length)/\zzs=[zzR x,some v,zzR pl,zzR bl,v4,v5,v6]) (fun R hR=>?_) ?_
  ·refine⟨_,rfl,pl,rfl,⟨_,SqL.of em4⟩,?_⟩;refine dI (K:=K) (xs:=ms) (fun i zzs H5=>∃(bl:Addr)(bs:List V)(v4 v5 v6:Option V),Same H H5/\H5 pl=some (.lst ms)/\aV K H5 ms (ps.map au)/\H5 bl=some (.lst bs)/\gR (mH K H) H5 bs (layAt (pP zs w ps) ps i)/\zzs=[zzR x,some v,zzR pl,zzR bl,v4,v5,v6])
    ⟨bl,bs,none,none,none,s4,em4,Dm4,eb4,rb4,rfl⟩ (fun i zzs H5 _ hh=>by obtain⟨_,_,_,_,_,_,e,_⟩:=hh;exact SqL.of e) (fun i u zzs H5 hi hh=>?_) (fun zzs H5 hh=>?_)
   ·obtain⟨bl,bs,v4,v5,v6,s5,em5,Dm5,eb5,rb5,rfl⟩:=hh;obtain⟨dm,edm,du⟩:=Dm5.get hi;rw[dG] at edm;obtain⟨m,emq,rfl⟩:=j8.mp edm;have him:i<ps.length:=(mZ.mp emq).1;have eD:ps.getD i (0,0)=m:=by rw[fU,emq];rfl
    have mps:m∈ps:=fQ emq;have lb:bs.length<=2048:=by
     rw[rb5.length];exact dN (wj _ _ _) (Vl (by decide) (show i<=11 by lia))
    have lay:(layAt (pP zs w ps) ps i).length<=2048:=by rw[<- rb5.length];exact lb
    refine aF (fun zzs H6=>∃ aq:Addr,Same H5 H6/\Ls K H6 aq ((aL zs w m).map (Hl zs w m))/\zzs=[zzR x,some v,zzR pl,zzR bl,some u,zzR aq,v6]) (fun R' hR'=>?_) ?_
    ·exact⟨_,rfl,_,rfl,x,_,zs,w,m,rfl,vt.mono s5,du,(pt.cl m mps).2,fun aq H6 f6=>hR' _ _ ⟨aq,f6.same,f6.ls,rfl⟩⟩
    rintro zzs H6 ⟨aq,s6,la,rfl⟩;refine aF (fun zzs H7=>∃(bb:Addr)(ws:List V),Same H6 H7/\H7 bb=some (.lst ws)/\gR (mH K H) H7 ws (layAt (pP zs w ps) ps i++(layAt (pP zs w ps) ps i).map (·++[m]))/\zzs=[zzR x,some v,zzR pl,zzR bl,some u,zzR aq,zzR bb]) (fun R' hR'=>?_) ?_
    ·refine⟨_,rfl,_,rfl,bl,rfl,⟨_,SqL.of (s6 _ _ eb5)⟩,?_⟩;refine Om (mH.stays) (mH.stays (K:=K) (H0:=H)) (cG (SqL.of (s6 _ _ eb5))) (rb5.mono mH.stays s6) (small (by lia)) (fun l=>l++[m]) (fun l hl y H7 s7 ry G hG=>?_) (fun ys H7 s7 D7 n hn=>?_)
     ·obtain⟨a,rfl,na,la'⟩:=ry;have ll:=rY _ l hl;refine⟨_,rfl,_,rfl,?_⟩;dsimp only[nD];refine⟨sz rfl,fun p1 n1=>?_⟩;have t1:=Same.put (o:=.lst [u]) n1;refine Tw (K:=K) (la'.mono t1) (show Ls K (upd H7 p1 (.lst [u])) p1 ([m].map au) from⟨[u],aC,.cons (du.mono ((s6.trans s7).trans t1)) .nil⟩) (by rw[aZ,aZ,jK];lia) fun r H8 fr=>?_
      refine hG _ _ (t1.trans fr.same) ⟨r,rfl,(s5.trans ((s6.trans s7).trans t1)).free fr.new,?_⟩;rw[eE];exact fr.ls
     ·have t1:=Same.put (o:=.lst ys) hn;refine⟨bs,ys,t1 _ _ (s7 _ _ (s6 _ _ eb5)),aC,small (by have:=D7.length;rw[aZ] at this;lia),fun bb nbb=>?_⟩;have t2:=t1.and (o:=.lst (bs++ys)) nbb;exact hR' _ _ ⟨bb,_,s7.trans t2,aC,(rb5.mono mH.stays (s6.trans (s7.trans t2))).append (D7.mono mH.stays t2),rfl⟩
    rintro zzs H7 ⟨bb,ws,s7,eb7,rb7,rfl⟩;have lw:(layAt (pP zs w ps) ps i++(layAt (pP zs w ps) ps i).map (·++[m])).length<=4096:=by rw[cC,aZ];lia
    refine⟨_,rfl,bb,rfl,⟨_,SqL.of eb7⟩,?_⟩;refine yU (mH.stays) (mH.stays (K:=K) (H0:=H)) (cG (SqL.of eb7)) rb7 (small (by lia)) (fun l=>p7 zs w m (aL zs w m) l) id (fun l hl y H8 s8 ry G hG=>?_) (fun l hl _ y H8 s8 ry G hG=>⟨_,rfl,hG _ _ (Same.refl _) ry⟩) (fun ys H8 s8 D8 n hn=>?_)
    ·refine⟨_,rfl,_,rfl,y,aq,zs,w,m,aL zs w m,l,rfl,ry.den,la.mono (s7.trans s8),fun H9 s9=>⟨_,rfl,hG _ s9⟩⟩
    ·have t1:=Same.put (o:=.lst ys) hn;have sA:=(s6.trans s7).trans (s8.trans t1);refine⟨n,ys,_,_,_,s5.trans sA,sA _ _ em5,Dm5.mono sA,aC,?_,rfl⟩;have e:layAt (pP zs w ps) ps (i+1)=((layAt (pP zs w ps) ps i++(layAt (pP zs w ps) ps i).map (·++[m])).filter (fun l=>p7 zs w m (aL zs w m) l)).map id:=by
      rw[List.map_id];show(layAt (pP zs w ps) ps i++(layAt (pP zs w ps) ps i).map (·++[ps.getD i (0,0)])).filter (pP zs w ps i)=_;unfold pP p7;rw[eD]
     rw[e];exact D8.mono mH.stays t1
   ·obtain⟨bl,bs,v4,v5,v6,s5,em5,Dm5,eb5,rb5,rfl⟩:=hh;rw[lms] at rb5;exact hR _ _ ⟨bl,bs,v4,v5,v6,s5,eb5,rb5,rfl⟩
  rintro zzs H5 ⟨bl,bs,v4,v5,v6,s5,eb5,rb5,rfl⟩;have nd:=xg (p:=pP zs w ps) pt.nd _ (bB ps.length);refine⟨_,rfl,bl,bs,layAt (pP zs w ps) ps ps.length,rfl,SqL.of eb5,rb5.a0I fun a v h=>h.den,fun q o nq po as=>?_⟩;have lo:∀ i∈o,i<bs.length:=fun i hi=>cH.mp (po.mem_iff.mp hi)
  have ro:=gR.by (d0:=[]) o rb5 lo;have pd:(o.map fun i=>(layAt (pP zs w ps) ps ps.length).getD i []).Perm (layAt (pP zs w ps) ps ps.length):=uM (by rw[<- rb5.length];exact po);rw[pt.lays pd as] at ro;have ndl:(eV zs w ps).Nodup:=lU.nodup_iff.mpr nd;obtain⟨qs,eqs⟩:∃ qs:List Addr,(o.map fun i=>bs.getD i .non)=qs.map V.ref:=CW ro;rw[eqs] at ro ⊢;exact hq' q qs _ (s5.free nq) (s5.and nq) (a1p ro ndl nq)
end
def uJ(zs:List Str)(w:Nat)(c:Cell):Bool:=!aH zs w c&&decide ((aB zs w c).length=0)
def yM(zs:List Str)(w:Nat)(c:Cell):Bool:=uJ zs w c&&decide (0<fL zs c)
def iY(zs:List Str)(w:Nat):List (List Cell):=if(bI zs.length w).any (yM zs w)=true then [] else [[]]
def chD(p:List Cell×List (List Cell)):Dt:=.tup [wA p.1,.lst (p.2.map wA)]
noncomputable def chL(zs:List Str)(w:Nat):List (List Cell×List (List Cell)):=([],iY zs w)::((bG zs w).map (fun p=>(p,eV zs w p))++(jY zs w).map fun c=>([c],[[],[c]]))
def U4(K:ak)(C:Addr):Sp:=fun vs H Q _=>∃(x:Addr)(v:V)(zs:List Str)(w:Nat)(c:Cell),vs=[.ref x,v]/\bW C H x zs w/\Den K H v (au c)/\inF zs.length w c/\∀ H',Same H H'->Q (.bl (uJ zs w c)) H'
def O7(K:ak)(C:Addr):Sp:=fun vs H Q _=>∃(x:Addr)(zs:List Str)(w:Nat),vs=[.ref x]/\bW C H x zs w/\∀ q H',Same H H'->Ls K H' q ((iY zs w).map wA)->Q (.ref q) H'
def CZ(K:ak)(C TG:Addr):Sp:=fun vs H Q E=>∃(x:Addr)(zs:List Str)(w:Nat),vs=[.ref x]/\bW C H x zs w /\
 ((∃ p∈bG zs w,12<p.length)->∀ H',Same H H'->E (.ref TG) none H')/\((∀ p∈bG zs w,p.length<=12)->∀ q H',Fr K H H' q ((chL zs w).map chD)->Q (.ref q) H')
section
variable{P:Program}{w:World}{K:ak}{mg:Str->Option Value}{base:Heap}{Z:Adr}
theorem Wy{f:Addr}{fd:FuncData} (F:Fun K "is_lone" "is_lone" wD f fd) (T:Txt K mg Z) (bC:Df P w K mg base 2 "is_closed" ["view","cell"] (gZ K Z.View)) (d7:Df P w K mg base 3 "closed_near" ["view","cell"] (pJ K Z.View aB)) :
  cF P w K mg base (CXE P w) 4 f fd ["view","cell"] (U4 K Z.View):=by
 refine F.rok Kl (fun vs H Q E h=>?_) (fun cdv A outer s H vs Q E hr h=>?_)
 ·obtain⟨x,v,zs,w,c,rfl,_⟩:=h;rfl
 ·obtain⟨x,v,zs,w,c,rfl,vt,dv,hin,hq⟩:=h;have hu:=jQ hr;refine⟨_,(aD (bx (Ik (a1C (aX bC hr rfl aR (aj (rv 0) (aj (rv 1) ao)))) (Im (Il (o7.or (nW (K:=K) hu)) (bF (iD (K:=K)) rfl T.gH dY (aj (aX d7 hr rfl aR (aj (rv 0) (aj (rv 1) ao))) ao)) aM (c7 _)))))),?_⟩;refine⟨_,rfl,_,rfl,x,v,zs,w,c,rfl,vt,dv,_,rfl,_,rfl,?_⟩;refine cN (fun h1=>?_) (fun h1=>?_)
  ·refine⟨_,rfl,_,rfl,x,v,zs,w,c,rfl,vt,dv,hin,fun q H' fr=>?_⟩;dsimp only[nD];refine zV fr.ls.den ?_;refine Or.inl ⟨rfl,?_⟩;rw[wX,aZ];have e:decide ((((aB zs w c).length:Nat):Int)=0)=uJ zs w c:=by
    unfold uJ;rw[h1,rM,vo];lia
   rw[e];exact hq _ fr.same
  ·have e:false=uJ zs w c:=by unfold uJ;rw[h1];rfl
   rw[e];exact hq _ (Same.refl _)
theorem Sh{f:Addr}{fd:FuncData} (F:Fun K "lone_layings" "lone_layings" m8 f fd) (T:Txt K mg Z) (kO:Df P w K mg base 1 "cells" ["view"] (pI K Z.View)) (vB:Df P w K mg base 4 "is_lone" ["view","cell"] (U4 K Z.View)) (jc:Df P w K mg base 1 "figure" ["view","cell"] (uY K Z.View)) :
  cF P w K mg base (CXE P w) 5 f fd ["view"] (O7 K Z.View):=by
 refine F.rok pR (fun vs H Q E h=>?_) (fun cdv A outer s H vs Q E hr h=>?_)
 ·obtain⟨x,zs,w,rfl,_⟩:=h;rfl
 ·obtain⟨x,zs,w,rfl,vt,hq⟩:=h;refine⟨_,(aA (dw fY rfl (bD (K:=K) (aX kO hr rfl aR (aj (rv 0) ao))) (bQ (i:=1) pR.nd rfl (Or.inl rfl)) (aD (dF (Ab (tK (iR (aX vB hr rfl aR (aj (rv 0) (aj (rv 1) ao)))) (pD (bJ CN (aX jc hr rfl aR (aj (rv 0) (aj (rv 1) ao))) aM (c7 _))))) (aD (bx (fG ao))) bL))) (aD (bx (fG (aj (fG ao) ao))))),?_⟩;refine aF (fun zzs H1=>Same H H1/\iY zs w=[[]]) (fun R hR=>?_) ?_
  ·refine⟨_,rfl,x,zs,w,rfl,vt,fun q H1 f1=>?_⟩;obtain⟨us,eu,Du⟩:=f1.ls;have lu:us.length=(bI zs.length w).length:=by rw[Du.length,aZ]
   refine⟨q,rfl,⟨_,SqL.of eu⟩,?_⟩;refine dI (K:=K) (xs:=us) (fun i zzs H2=>∃ v1:Option V,Same H1 H2/\(∀ c∈(bI zs.length w).take i,yM zs w c=false)/\zzs=[zzR x,v1])
    ⟨none,Same.refl _,(fun c hc=>by cases hc),rfl⟩ (fun i zzs H2 _ hh=>by obtain⟨_,g,_⟩:=hh;exact SqL.of (g _ _ eu)) (fun i u zzs H2 hi hh=>?_) (fun zzs H2 hh=>?_)
   ·obtain⟨v1,g1,g2,rfl⟩:=hh;obtain⟨d,ed,du⟩:=Du.get hi;rw[dG] at ed;obtain⟨c,ec,rfl⟩:=j8.mp ed;have cf:=fQ ec;have hin:=bM.mp cf;have sA:=f1.same.trans g1;have nxt:∀ H3,Same H2 H3->yM zs w c=false->∃ v1:Option V,Same H1 H3/\(∀ c∈(bI zs.length w).take (i+1),yM zs w c=false)/\[some (V.ref x),some u]=[zzR x,v1]:=fun H3 s3 hb=>⟨_,g1.trans s3,fun y hy=>by
     rw[kI,ec] at hy;rcases cB.mp hy with z|z
     ·exact g2 y z
     ·rw[cL.mp z];exact hb,rfl⟩
    refine⟨_,rfl,_,rfl,x,u,zs,w,c,rfl,vt.mono sA,du.mono g1,hin,fun H3 s3=>⟨_,rfl,?_⟩⟩;refine cN (fun h1=>?_) (fun h1=>?_)
    ·have ho:aH zs w c=false:=by
      unfold uJ at h1;rw[kj,jr] at h1;exact h1.1
     refine⟨_,rfl,_,rfl,x,u,zs,w,c,rfl,vt.mono (sA.trans s3),du.mono (g1.trans s3),hin,ho,?_⟩;refine⟨_,_,rfl,rfl,_,rfl,?_⟩;have e:yM zs w c=decide (0<fL zs c):=by unfold yM;rw[h1];rfl
     refine cN (fun h2=>?_) (fun h2=>nxt H3 s3 (by rw[e];exact h2));refine⟨by decide,fun q3 n3=>hq _ _ ((sA.trans s3).and n3) ?_⟩;have:iY zs w=[]:=aJ (Gg.mpr ⟨c,cf,by rw[e];exact h2⟩);rw[this];exact Ls.new n3 .nil
    ·exact nxt H3 s3 (by unfold yM;rw[h1];rfl)
   ·obtain⟨v1,g1,g2,rfl⟩:=hh;rw[lu,kE] at g2;refine hR _ _ ⟨f1.same.trans g1,aG fun z=>?_⟩;obtain⟨c,hc,hb⟩:=Gg.mp z;rw[g2 c hc] at hb;cases hb
  rintro zzs H1 ⟨s1,e1⟩;refine⟨by decide,fun q1 n1=>⟨sz rfl,fun q2 n2=>?_⟩⟩;have t1:=Same.put (o:=.lst []) n1;refine hq _ _ (s1.trans (t1.and n2)) ?_;rw[e1];exact Ls.new n2 (.cons (Ls.new n1 .nil).den .nil)
theorem CQ{H0 H:Hp}{q:Addr}:∀ {qs:List Addr} {ps:List (List Cell)},qs.length=ps.length->(∀(i:Nat)(a:Addr)(p:List Cell),qs[i]?=some a->ps[i]?=some p->Ls K H a (p.map au))->aV K H (qs.map V.ref) (ps.map wA)
 |[],[],_,_=>.nil
 |a::qs,p::ps,hl,h=>.cons (h 0 a p rfl rfl).den (CQ (H0:=H0) (q:=q) (Nat.succ.inj hl) fun i b c h1 h2=>h (i+1) b c h1 h2)
theorem Td{H0 H H':Hp}{q d:Addr}{qs:List Addr}{ps:List (List Cell)}{us:List V}{o:HO}(p:qu K H0 H q qs ps)(s:SameBut d H H')(e:H d=some (.lst us))(e0:H0 d=some o)(n:q≠d):qu K H0 H' q qs ps:=
 ⟨s _ _ p.at_ n,p.len,fun i a c h1 h2=>s.ls e (fun z=>by have:=p.new a (fQ h1);rw[z,e0] at this;cases this) (p.ls i a c h1 h2),p.new,p.nd,p.nq⟩
theorem wu{zs:List Str}{w:Nat}:∀(cs:List Cell)(ps:List (List Cell)),(gK zs w cs ps).length<=ps.length+cs.length
 |[],ps=>by unfold gK;exact bB _
 |c::cs,ps=>by
  unfold gK;by_cases h:∃ p∈ps,c∈p
  ·rw[aJ h];have:=wu (zs:=zs) (w:=w) cs ps;rw[fX];lia
  ·rw[aG h];have:=wu (zs:=zs) (w:=w) cs (ps++[cg zs w c]);rw[cC,jK] at this;rw[fX];lia
theorem CP{zs:List Str}{w:Nat}(v:Vw zs w):(bG zs w).length<=36:=by
 have h1:=wu (zs:=zs) (w:=w) (bO zs w) [];have h2:(bO zs w).length<=36:=dN (jL _ _) (dR v);unfold bG;rw[xT] at h1;lia
theorem Ds{H H2:Hp}{q:Addr}{us:List V}{ds:List Dt}{v:V}{d:Dt}(D:aV K (del q H) us ds)(s:Same H H2)(dv:Den K (del q H2) v d):aV K (del q (upd H2 q (.lst (us++[v])))) (us++[v]) (ds++[d]):=by
 have sb:SameBut q H2 (upd H2 q (.lst (us++[v]))):=(SameBut.refl q _).put;exact(D.mono ((s.but q).trans sb).del).append (.cons (dv.mono sb.del) .nil)
theorem JV{f:Addr}{fd:FuncData} (F:Fun K "choices" "choices" wB f fd) (T:Txt K mg Z) (Dp:Df P w K mg base 5 "parts" ["view"] (O8 K Z.View)) (vD:Df P w K mg base 5 "layings" ["view","cell"] (Dg K Z.View Z.NoCell Z.TooGreat)) (QK:Df P w K mg base 4 "far" ["view"] (nC K Z.View jY)) (lF:Df P w K mg base 5 "lone_layings" ["view"] (O7 K Z.View)) :
  cF P w K mg base (CXE P w) 6 f fd ["view"] (CZ K Z.View Z.TooGreat):=by
 refine F.Ey pH (fun vs H Q E h=>?_) (fun cdv A outer s H vs Q E hr h=>?_)
 ·obtain⟨x,zs,w,rfl,_⟩:=h;rfl
 ·obtain⟨x,zs,w,rfl,vt,he,hq⟩:=h;refine⟨_,(aA (RS.nox (bK (i:=1) pH.nd rfl (Or.inl rfl) (fG (aj (mO (aj (fG ao) (aj (aX lF hr rfl aR (aj (rv 0) ao)) ao))) ao)))) (aA (dw PassesOwn.leaving rfl (bD (K:=K) (aX Dp hr rfl aR (aj (rv 0) ao))) (bQ (i:=2) pH.nd rfl (Or.inl rfl)) (aD (eY (lR (K:=K) jZ pX pY eG (rv 1) (aj (mO (aj (rv 2) (aj (aX vD hr rfl Er (aj (rv 0) (aj (fP (gP (K:=K)) (rv 2) aM) ao))) ao))) ao))))) (aA (RS.nox (dw fY rfl (bD (K:=K) (aX QK hr rfl aR (aj (rv 0) ao))) (bQ (i:=3) pH.nd rfl (Or.inl rfl)) (aD (eY (lR (K:=K) jZ pX pY eG (rv 1) (aj (mO (aj (fG (aj (rv 3) ao)) (aj (fG (aj (fG ao) (aj (fG (aj (rv 3) ao)) ao))) ao))) ao)))))) (aD (RS.nox (bx (rv 1))))))),?_⟩;have h6:=vt.vw.le;have w6:=vt.vw.w6;obtain⟨pok,_⟩:=j7 (zs:=zs) (w:=w) h6 w6;refine aF (fun zzs H1=>∃(q:Addr)(us:List V),H q=none/\Same H H1/\H1 q=some (.lst us)/\aV K (del q H1) us [chD ([],iY zs w)]/\zzs=[zzR x,zzR q,zzN,zzN]) (fun R hR=>?_) ?_
  ·refine⟨by decide,fun q1 n1=>?_⟩;have t1:=Same.put (o:=.lst []) n1;refine⟨_,rfl,x,zs,w,rfl,vt.mono t1,fun ql H1 s1 ll=>⟨sz rfl,fun t nt=>⟨sz rfl,fun q nq=>?_⟩⟩⟩;have t2:=Same.put (o:=.tup [V.ref q1,V.ref ql]) nt;refine hR _ _ ⟨q,_,(t1.trans (s1.trans t2)).free nq,(t1.trans (s1.trans t2)).and nq,aC,?_,rfl⟩;have sd:Same (upd H1 t (.tup [V.ref q1,V.ref ql])) (del q (upd (upd H1 t (.tup [V.ref q1,V.ref ql])) q (.lst [.ref t]))):=fun b o eb=>by
    have nb:b≠q:=fun z=>by rw[z,nq] at eb;cases eb
    rw[lM nb,aN nb];exact eb
   refine .cons (Den.mono sd ?_) .nil;exact Den.tup aC (.cons (((Ls.new n1 .nil:Ls K _ q1 []).mono (s1.trans t2)).den) (.cons (ll.mono t2).den .nil))
  rintro zzs H1 ⟨q,us,nq,s1,eq1,D1,rfl⟩;refine aF (fun zzs H2=>∃(us:List V)(v2:Option V),Same H H2/\H2 q=some (.lst us)/\aV K (del q H2) us (([],iY zs w)::(bG zs w).map (fun p=>(p,eV zs w p)) |>.map chD)/\(∀ p∈bG zs w,p.length<=12)/\(bG zs w).length<=36/\zzs=[zzR x,zzR q,v2,zzN]) (fun R hR=>?_) ?_
  ·refine⟨_,rfl,x,zs,w,rfl,vt.mono s1,fun pl qs H2 npl s2 ps=>⟨pl,rfl,⟨_,SqL.of ps.at_⟩,?_⟩⟩;have npq:pl≠q:=(aQ eq1 npl).symm;have lpp:=CP vt.vw;refine dI (K:=K) (xs:=qs.map V.ref) (fun i zzs H3=>∃(us:List V)(v2:Option V),Same H H3/\qu K H1 H3 pl qs (bG zs w)/\H3 q=some (.lst us)/\aV K (del q H3) us (([],iY zs w)::((bG zs w).take i).map (fun p=>(p,eV zs w p)) |>.map chD)/\(∀ p∈(bG zs w).take i,p.length<=12)/\zzs=[zzR x,zzR q,v2,zzN])
    ⟨us,none,s1.trans s2,ps,s2 _ _ eq1,D1.mono (s2.but q).del,(fun p hp=>by cases hp),rfl⟩ (fun i zzs H3 _ hh=>by obtain⟨_,_,_,p3,_⟩:=hh;exact SqL.of p3.at_) (fun i u zzs H3 hi hh=>?_) (fun zzs H3 hh=>?_)
   ·obtain⟨us,v2,sh,ps3,eq3,D3,Vz,rfl⟩:=hh;rw[dG] at hi;obtain⟨a,ea,rfl⟩:=j8.mp hi;have iq:i<qs.length:=(mZ.mp ea).1;have ip:i<(bG zs w).length:=by rw[<- ps.len];exact iq
    have ep:(bG zs w)[i]?=some (bG zs w)[i]:=eZ ip;generalize (bG zs w)[i]=p at ep;have la:=ps3.ls i a p ea ep;have pm:p∈bG zs w:=fQ ep;obtain⟨y,hy,ey⟩:=pok.of p pm;have pp:Part zs w p:=by rw[ey];exact Part.join h6 w6 hy
    obtain⟨c0,p',rfl⟩:∃ c0 p',p=c0::p':=by
     cases p with
     |nil=>exact absurd rfl pp.ne
     |cons c0 p'=>exact⟨c0,p',rfl⟩
    have c0m:c0∈cg zs w y:=by rw[<- ey];exact cZ
    have ej:cg zs w c0=c0::p':=by rw[lQ h6 w6 hy c0m,<- ey]
    have c0e:c0∈bO zs w:=j9.edge hy ((dD (jh hy)).mp c0m);obtain⟨xs,ex,Dx⟩:=id la;obtain⟨u0,xs',rfl⟩:∃ u0 xs',xs=u0::xs':=by cases Dx;exact⟨_,_,rfl⟩
    have d0:Den K H3 u0 (au c0):=by cases Dx with|cons h _=>exact h
    have lus:us.length<=37:=by rw[D3.length,aZ,fX,aZ,sU];lia
    refine⟨_,rfl,.inl ⟨rfl,_,SqL.of eq3⟩,?_⟩;refine⟨_,rfl,_,rfl,_,rfl,.inl ⟨a,_,_,_,rfl,rfl,SqL.of ex,iG,?_⟩⟩;refine⟨x,u0,zs,w,c0,rfl,vt.mono sh,d0,fun hc=>absurd c0e hc,fun _ hl H' s'=>he ⟨c0::p',pm,by rw[<- ej];exact hl⟩ _ (sh.trans s'),fun _ hl ql qls H4 nql s4 psl=>?_⟩;rw[ej] at hl psl;have eq4:=s4 _ _ eq3;refine⟨sz rfl,fun t nt=>?_⟩;have s5:=Same.put (o:=.tup [V.ref a,V.ref ql]) nt;dsimp only[nD];refine o8 (K:=K) (s5 _ _ eq4) (by lia) ?_;have sH:=s4.trans s5;have sb:SameBut q (upd H4 t (.tup [V.ref a,V.ref ql])) (upd (upd H4 t (.tup [V.ref a,V.ref ql])) q (.lst (us++[.ref t]))):=(SameBut.refl q _).put;have naq:a≠q:=fun z=>by have:=ps3.new a (fQ ea);rw[z,eq1] at this;cases this
    have ntq:t≠q:=fun z=>by rw[z,eq4] at nt;cases nt
    have a2x:ql≠q:=fun z=>by rw[z,eq3] at nql;cases nql
    refine⟨us++[.ref t],_,sb.of (sh.trans sH) nq,Td (ps3.mono sH) sb (s5 _ _ eq4) eq1 npq,aC,?_,fun p hp=>?_,rfl⟩
    ·have et:((bG zs w).take (i+1)).map (fun p=>(p,eV zs w p))=((bG zs w).take i).map (fun p=>(p,eV zs w p))++[(c0::p',eV zs w (c0::p'))]:=by
      rw[kI,ep,eE];rfl
     rw[et,<- List.cons_append,eE];refine Ds D3 sH ?_;refine Den.tup (by rw[lM ntq];exact aC) (.cons (vQ (s5 _ _ eq4) naq (la.mono sH)).den (.cons ?_ .nil));refine Den.lst (SqL.of (show del q _ ql=_ by rw[lM a2x];exact s5 _ _ psl.at_)) (CQ (H0:=H3) (q:=ql) psl.len fun j b r h1 h2=>vQ (s5 _ _ eq4) (fun z=>by have:=psl.new b (fQ h1);rw[z,eq3] at this;cases this) ((psl.ls j b r h1 h2).mono s5))
    ·rw[kI,ep] at hp;rcases cB.mp hp with z|z
     ·exact Vz p z
     ·rw[cL.mp z];exact hl
   ·obtain⟨us,v2,sh,ps3,eq3,D3,Vz,rfl⟩:=hh;rw[aZ,ps.len,kE] at D3 Vz;exact hR _ _ ⟨us,v2,sh,eq3,D3,Vz,lpp,rfl⟩
  rintro zzs H2 ⟨us,v2,s2,eq2,D2,a0B,lp,rfl⟩;refine aF (fun zzs H3=>∃(us:List V)(v2 v3:Option V),Same H H3/\H3 q=some (.lst us)/\aV K (del q H3) us ((chL zs w).map chD)/\zzs=[zzR x,zzR q,v2,v3]) (fun R hR=>?_) ?_
  ·refine⟨_,rfl,x,zs,w,rfl,vt.mono s2,fun fl H3 ff=>?_⟩;obtain⟨fs,ef,Df'⟩:=ff.ls;have lfs:fs.length=(jY zs w).length:=by rw[Df'.length,aZ]
   have a2X:(jY zs w).length<=36:=dN (jL _ _) (dR vt.vw);have nfq:fl≠q:=(aQ eq2 ff.new).symm;refine⟨fl,rfl,⟨_,SqL.of ef⟩,?_⟩;refine dI (K:=K) (xs:=fs) (fun i zzs H4=>∃(us:List V)(v3:Option V),Same H H4/\H4 fl=some (.lst fs)/\aV K H4 fs ((jY zs w).map au)/\H4 q=some (.lst us)/\aV K (del q H4) us ((([],iY zs w)::((bG zs w).map (fun p=>(p,eV zs w p))++((jY zs w).take i).map fun c=>([c],[[],[c]]))).map chD)/\zzs=[zzR x,zzR q,v2,v3])
    ⟨us,none,s2.trans ff.same,ef,Df',ff.same _ _ eq2,by rw[Mq,Bl,rJ];exact D2.mono (ff.same.but q).del,rfl⟩ (fun i zzs H4 _ hh=>by obtain⟨_,_,_,e,_⟩:=hh;exact SqL.of e) (fun i u zzs H4 hi hh=>?_) (fun zzs H4 hh=>?_)
   ·obtain⟨us,v3,sh,ef4,Df4,eq4,D4,rfl⟩:=hh;obtain⟨d,ed,du⟩:=Df4.get hi;rw[dG] at ed;obtain⟨c,ec,rfl⟩:=j8.mp ed;have lus:us.length<=100:=by rw[D4.length,aZ,fX,cC,aZ,aZ,sU];lia
    refine⟨_,rfl,.inl ⟨rfl,_,SqL.of eq4⟩,_,rfl,sz rfl,fun q1 n1=>⟨by decide,fun q2 n2=>⟨_,rfl,sz rfl,fun q3 n3=>⟨sz rfl,fun q4 n4=>⟨sz rfl,fun t nt=>?_⟩⟩⟩⟩⟩;have t1:=Same.put (o:=.lst [u]) n1;have t2:=Same.put (o:=.lst []) n2;have t3:=Same.put (o:=.lst [u]) n3;have t4:=Same.put (o:=.lst [V.ref q2,V.ref q3]) n4;have t5:=Same.put (o:=.tup [V.ref q1,V.ref q4]) nt;have s14:=t1.trans (t2.trans (t3.trans t4));have sH:=s14.trans t5;have eqH:=sH _ _ eq4;dsimp only[nD];refine o8 (K:=K) eqH (by lia) ?_;refine⟨_,_,(SameBut.refl q _).put.of (sh.trans sH) nq,(SameBut.refl q _).put _ _ (sH _ _ ef4) nfq,(SameBut.refl q _).put.cells eqH (Df4.mono sH),aC,?_,rfl⟩;have et:(([],iY zs w)::((bG zs w).map (fun p=>(p,eV zs w p))++((jY zs w).take (i+1)).map fun c=>([c],[[],[c]])))=(([],iY zs w)::((bG zs w).map (fun p=>(p,eV zs w p))++((jY zs w).take i).map fun c=>([c],[[],[c]])))++[([c],[[],[c]])]:=by
     rw[kI,ec,eE,List.cons_append,vh];rfl
    rw[et,eE];have ne:∀ {b:Addr} {G:Hp},Same H4 G->G b=none->b≠q:=fun g e z=>by rw[z,g _ _ eq4] at e;cases e
    have na:=ne (Same.refl _) n1;have nb:=ne t1 n2;have nc:=ne (t1.trans t2) n3;have nd:=ne (t1.trans (t2.trans t3)) n4;have nt':=ne s14 nt;have l1:Ls K (upd H4 q1 (.lst [u])) q1 ([c].map au):=.new n1 (.cons du .nil);have l2:Ls K (upd (upd H4 q1 (.lst [u])) q2 (.lst [])) q2 (([]:List Cell).map au):=.new n2 .nil;have l3:Ls K (upd (upd (upd H4 q1 (.lst [u])) q2 (.lst [])) q3 (.lst [u])) q3 ([c].map au):=.new n3 (.cons (du.mono (t1.trans t2)) .nil);refine Ds D4 sH ?_;refine Den.tup (by rw[lM nt'];exact aC) (.cons (vQ eqH na (l1.mono (t2.trans (t3.trans (t4.trans t5))))).den (.cons ?_ .nil));exact Den.lst (SqL.of (show del q _ q4=_ by rw[lM nd];exact t5 _ _ aC)) (.cons (vQ eqH nb (l2.mono (t3.trans (t4.trans t5)))).den (.cons (vQ eqH nc (l3.mono (t4.trans t5))).den .nil))
   ·obtain⟨us,v3,sh,ef4,Df4,eq4,D4,rfl⟩:=hh;rw[lfs,kE] at D4;exact hR _ _ ⟨us,v2,v3,sh,eq4,D4,rfl⟩
  rintro zzs H3 ⟨us,v2,v3,s3,eq3,D3,rfl⟩;exact⟨_,rfl,hq a0B q _ ⟨s3,nq,us,eq3,D3.mono yZ⟩⟩
end
def Je(ch:List Cell×List (List Cell)):Prop:=ch.1.length<=36/\(∀ l∈ch.2,l.length<=ch.1.length)/\ch.2.length<=5000
section
variable{P:Program}{w:World}{K:ak}{mg:Str->Option Value}{base:Heap}{Z:Adr}
theorem Rc{H:Hp}{v:V}{ch:List Cell×List (List Cell)}(h:Den K H v (chD ch)):∃(t a b:Addr)(xs ys:List V),v=.ref t/\H t=some (.tup [.ref a,.ref b])/\SqL K H a xs/\aV K H xs (ch.1.map au)/\SqL K H b ys/\aV K H ys (ch.2.map wA):=by
 unfold chD at h;cases h with
 |tup ht hs=>
  cases hs with
  |cons h1 hs=>
   cases hs with
   |cons h2 hs=>
    cases hs;cases h1 with
    |lst e1 D1=>
     cases h2 with
     |lst e2 D2=>exact⟨_,_,_,_,_,rfl,ht,e1,D1,e2,D2⟩
theorem YH{zs:List Str}{w:Nat}(v:Vw zs w)(h:∀ p∈bG zs w,p.length<=12):(∀ ch∈chL zs w,Je ch)/\(chL zs w).length<=100:=by
 have h1:=CP v;have h2:(jY zs w).length<=36:=dN (jL _ _) (dR v);constructor
 ·intro ch hc;unfold chL at hc;rcases cW.mp hc with rfl|hc
  ·refine⟨mG _,fun l hl=>?_,?_⟩
   ·unfold iY at hl;split at hl
    ·cases hl
    ·rw[cL.mp hl];exact bB _
   ·show(iY zs w).length<=5000;unfold iY;split
    ·exact mG _
    ·show 1<=5000;decide
  rcases cB.mp hc with hc|hc
  ·obtain⟨p,hp,rfl⟩:=cD.mp hc;have:=h p hp;exact⟨by show p.length<=36;lia,fun l hl=>PN hl,dN (PL this) (by decide)⟩
  ·obtain⟨c,_,rfl⟩:=cD.mp hc;refine⟨by show 1<=36;decide,fun l hl=>?_,by show 2<=5000;decide⟩;rcases cW.mp hl with rfl|hl
   ·exact mG _
   ·rw[cL.mp hl];exact bB _
 ·unfold chL;rw[fX,cC,aZ,aZ];lia
end
section
variable{zs:List Str}{w:Nat}
theorem SM(h6:zs.length<=6)(w6:w<=6):(bG zs w).flatten.Nodup:=by
 obtain⟨ok,_⟩:=j7 (zs:=zs) (w:=w) h6 w6;unfold List.Nodup;rw[Vf];refine⟨fun p hp=>?_,ok.dis.imp fun h x hx y hy e=>h x hx (by rw[e];exact hy)⟩;obtain⟨x,hx,rfl⟩:=ok.of p hp;exact(Part.join h6 w6 hx).nd
theorem K8(h6:zs.length<=6)(w6:w<=6):(bG zs w).flatten.Perm (bO zs w):=by
 obtain⟨ok,cov⟩:=j7 (zs:=zs) (w:=w) h6 w6;refine(KZ (SM h6 w6) (gk (Qk h6 w6))).mpr fun y=>?_
 rw[List.mem_flatten];constructor
 ·rintro⟨p,hp,hy⟩;obtain⟨x,hx,rfl⟩:=ok.of p hp;exact j9.edge hx ((dD (jh hx)).mp hy)
 ·intro hy;obtain⟨p,hp,h⟩:=cov y hy;exact⟨p,hp,h⟩
theorem wW(h6:zs.length<=6)(w6:w<=6):((bG zs w).flatten++jY zs w).Perm (aU zs w):=by
 refine((K8 h6 w6).append_right _).trans ?_;unfold bO jY;have e:(aU zs w).filter (fun x=>decide ((aL zs w x).length=0))=(aU zs w).filter (fun x=>!decide (0<(aL zs w x).length)):=FW fun x _=>by
  rw[tW,gq,jr,Lh];lia
 rw[e];exact List.filter_append_perm _ _
theorem J1{α:Type}:∀ ls:List (List α),(ls.map fun l=>l.length).sum=ls.flatten.length
 |[]=>rfl
 |l::ls=>by rw[dM,Bh,Bs,cC,J1 ls]
theorem YL(h6:zs.length<=6)(w6:w<=6):((chL zs w).map fun ch=>ch.1.length).sum=(aU zs w).length:=by
 unfold chL;rw[dM,Bh,eE,List.sum_append,ni,ni];have e1:(bG zs w).map ((fun ch:List Cell×List (List Cell)=>ch.1.length) ∘ fun p=>(p,eV zs w p))=(bG zs w).map fun p=>p.length:=rfl
 have e2:∀ l:List Cell,(l.map ((fun ch:List Cell×List (List Cell)=>ch.1.length) ∘ fun c=>([c],[[],[c]]))).sum=l.length:=fun l=>by
  induction l with
  |nil=>rfl
  |cons a l ih=>rw[dM,Bh,ih,fX];show 1+_=_;lia
 rw[e1,J1,e2,<- (wW h6 w6).length_eq,cC];show 0+_=_;lia
end
def setC(c:Cell)(b:Bool)(ch:List Cell×List (List Cell)):List Cell×List (List Cell):=if c∈ch.1 then(ch.1,ch.2.filter fun l=>decide (decide (c∈l)=b)) else ch
theorem XC{c:Cell}{b:Bool}{ch:List Cell×List (List Cell)}(h:Je ch):Je (setC c b ch):=by
 unfold setC;by_cases hc:c∈ch.1
 ·rw[aJ hc];exact⟨h.1,fun l hl=>h.2.1 l (bZ.mp hl).1,dN (jL _ _) h.2.2⟩
 ·rw[aG hc];exact h
theorem XF{c:Cell}{b:Bool}{chs:List (List Cell×List (List Cell))}:((chs.map (setC c b)).map fun ch=>ch.1.length)=chs.map fun ch=>ch.1.length:=by
 rw[ni];refine Ax fun d _=>?_
 show(setC c b d).1.length=_;unfold setC;split<;>rfl
def Dh(K:ak):Sp:=fun vs H Q _=>∃(p:Addr)(v:V)(b:Bool)(c:Cell)(chs:List (List Cell×List (List Cell))),vs=[.ref p,v,.bl b]/\Ls K H p (chs.map chD)/\Den K H v (au c)/\(∀ ch∈chs,Je ch)/\chs.length<=100/\∀ q H',Fr K H H' q ((chs.map (setC c b)).map chD)->Q (.ref q) H'
section
variable{P:Program}{w:World}{K:ak}{mg:Str->Option Value}{base:Heap}{Z:Adr}
theorem Xq{K:ak}{H G:Hp}{α:Type}{enc:α->Dt}:∀ {vs:List V} {xs:List α},aV K H vs (xs.map enc)->gR (fun a v _=>Den K H v (enc a)) G vs xs:=by
 intro vs xs D
 induction xs generalizing vs with
 |nil=>cases D;exact .nil
 |cons c cs ih=>cases D with|cons h t=>exact .cons h (ih t)
theorem K1{f:Addr}{fd:FuncData} (F:Fun K "settled" "settled" wI f fd) (T:Txt K mg Z):cF P w K mg base (CXE P w) 1 f fd ["found","cell","stone"] (Dh K):=by
 refine F.rok tQ (fun vs H Q E h=>?_) (fun cdv A outer s H vs Q E hr h=>?_)
 ·obtain⟨p,v,b,c,chs,rfl,_⟩:=h;rfl
 ·obtain⟨p,v,b,c,chs,rfl,hp,dv,hok,h100,hq⟩:=h;have hu:=jQ hr;have hu':=Hy hr;refine⟨_,(aA (bK (i:=3) tQ.nd rfl (Or.inl rfl) (fG ao)) (aA (dw fY rfl (bD (K:=K) (rv 0)) (bQ (i:=4) tQ.nd rfl (Or.inl rfl)) (aD (dF (bJ (j6.or (wZ (K:=K) hu')) (rv 1) (fP (gP (K:=K)) (rv 4) aM) (by rfl)) (aD (eY (lR (K:=K) jZ pX pY eG (rv 3) (aj (mO (aj (fP (gP (K:=K)) (rv 4) aM) (aj (jz (by rfl) rfl (bD (K:=K) (fP (gP (K:=K)) (rv 4) aM)) (fun _ _ _=>(iK (bJ (o7.or (nW (K:=K) hu)) (Il (j6.or (wZ (K:=K) hu')) (rv 2) (rv 0) (by rfl)) (rv 3) (c7 _)))) (fun _ _ _=>(rv 0))) ao))) ao)))) (aD (eY (lR (K:=K) jZ pX pY eG (rv 3) (aj (rv 4) ao))))))) (aD (bx (rv 3))))),?_⟩;refine aF (fun zzs H1=>∃ q:Addr,H q=none/\Same H H1/\H1 q=some (.lst [])/\zzs=[zzR p,some v,some (.bl b),zzR q,zzN]) (fun R hR=>?_) ?_
  ·exact⟨by decide,fun q nq=>hR _ _ ⟨q,nq,Same.put nq,aC,rfl⟩⟩
  rintro zzs H1 ⟨q,nq,s1,eq1,rfl⟩;obtain⟨os,eo,Do⟩:=hp;have los:os.length=chs.length:=by rw[Do.length,aZ]
  refine aF (fun zzs H2=>∃(us:List V)(v4:Option V),Same H H2/\H2 q=some (.lst us)/\aV K (del q H2) us ((chs.map (setC c b)).map chD)/\zzs=[zzR p,some v,some (.bl b),zzR q,v4]) (fun R hR=>?_) ?_
  ·refine⟨_,rfl,p,rfl,⟨_,SqL.of (s1 _ _ eo)⟩,?_⟩;refine dI (K:=K) (xs:=os) (fun i zzs H2=>∃(us:List V)(v4:Option V),Same H H2/\H2 q=some (.lst us)/\aV K (del q H2) us (((chs.take i).map (setC c b)).map chD)/\zzs=[zzR p,some v,some (.bl b),zzR q,v4])
    ⟨[],none,s1,eq1,.nil,rfl⟩ (fun i zzs H2 _ hh=>by obtain⟨_,_,g,_⟩:=hh;exact SqL.of (g _ _ eo)) (fun i u zzs H2 hi hh=>?_) (fun zzs H2 hh=>?_)
   ·obtain⟨us,v4,g1,g2,D2,rfl⟩:=hh;obtain⟨d,ed,du⟩:=Do.get hi;rw[dG] at ed;obtain⟨ch,ec,rfl⟩:=j8.mp ed;have cm:=fQ ec;obtain⟨h36,hrow,h5k⟩:=hok ch cm;obtain⟨t,a,e,xs,ys,rfl,ht,ha,Da,he,De⟩:=Rc du;have lus:us.length<=100:=by
     have:us.length=(chs.take i).length:=by rw[D2.length,aZ,aZ]
     rw[this,sU];lia
    have tk:chs.take (i+1)=chs.take i++[ch]:=by rw[kI,ec];rfl
    have fin:∀(z:V)(H3:Hp),Same H2 H3->Den K (del q H3) z (chD (setC c b ch))->∃(us':List V)(v4:Option V),Same H (upd H3 q (.lst (us++[z])))/\(upd H3 q (.lst (us++[z]))) q=some (.lst us')/\aV K (del q (upd H3 q (.lst (us++[z])))) us' (((chs.take (i+1)).map (setC c b)).map chD)/\([zzR p,some v,some (.bl b),zzR q,zzR t]:L2.St)=[zzR p,some v,some (.bl b),zzR q,v4]:=fun z H3 s3 dz=>by
     refine⟨us++[z],_,(SameBut.refl q _).put.of (g1.trans s3) nq,aC,?_,rfl⟩;rw[tk,eE,eE];exact Ds D2 s3 dz
    have sd:∀ {G:Hp},Same H G->Same H (del q G):=fun g=>g.into nq
    refine⟨_,rfl,_,rfl,.inr (.inl ⟨t,_,_,_,rfl,rfl,SqT.of (g1 _ _ ht),iG,.inr (zU (dv.mono g1) (Den.mono g1 (.lst ha Da)) ⟨_,rfl,?_⟩)⟩)⟩;refine cN (fun h1=>?_) (fun h1=>?_)
    ·have hc:=cJ h1;have es:setC c b ch=(ch.1,ch.2.filter fun l=>decide (decide (c∈l)=b)):=aJ hc;refine⟨_,rfl,.inl ⟨rfl,_,SqL.of g2⟩,_,rfl,.inr (.inl ⟨t,_,_,_,rfl,rfl,SqT.of (g1 _ _ ht),iG,?_⟩)⟩;refine⟨_,rfl,.inr (.inl ⟨t,_,_,_,rfl,rfl,SqT.of (g1 _ _ ht),gG (j:=1) rfl,?_⟩)⟩;refine⟨e,rfl,⟨_,g1.seq he⟩,yU (R:=fun(l:List Cell) v _=>Den K H v (wA l)) (R2:=fun(l:List Cell) v _=>Den K H v (wA l)) (xs:=ch.2) (fun _ _ _ _ _ h=>h) (fun _ _ _ _ _ h=>h) (cG (g1.seq he)) (Xq De) (small (by lia)) (fun l=>decide (decide (c∈l)=b)) id (fun l hl u H3 s3 du G hG=>?_) (fun l hl _ u H3 s3 du G hG=>⟨_,rfl,hG _ _ (Same.refl _) du⟩) (fun zs' H3 s3 D3 n hn=>?_)⟩
     ·obtain⟨a',rfl⟩:∃ a',u=.ref a':=by cases du;exact⟨_,rfl⟩
      refine⟨_,rfl,_,rfl,.inr (zU (dv.mono (g1.trans s3)) (du.mono (g1.trans s3)) ⟨_,rfl,.inl ⟨rfl,_,rfl,?_⟩⟩)⟩;have eb:decide (V.bl (decide (c∈l))=V.bl b)=decide (decide (c∈l)=b):=by
       rw[vo];exact⟨fun z=>by injection z,fun z=>by rw[z]⟩
      rw[eb];exact hG _ (Same.refl _)
     ·rw[List.map_id] at D3;refine⟨sz rfl,fun t2 nt2=>?_⟩;have s4:=Same.put (o:=.lst zs') hn;have s5:=Same.put (o:=.tup [V.ref a,V.ref n]) nt2;have sA:=s3.trans (s4.trans s5);dsimp only[nD];refine o8 (K:=K) (sA _ _ g2) (by lia) ?_;refine fin _ _ sA ?_;rw[es];have nq2:t2≠q:=fun z=>by rw[z,(s3.trans s4) _ _ g2] at nt2;cases nt2
      have nqn:n≠q:=fun z=>by rw[z,s3 _ _ g2] at hn;cases hn
      have sH:Same H (del q (upd (upd H3 n (.lst zs')) t2 (.tup [V.ref a,V.ref n]))):=sd (g1.trans sA);refine Den.tup (by rw[lM nq2];exact aC) (.cons (Den.mono sH (.lst ha Da)) (.cons (.lst (SqL.of (show del q _ n=_ by rw[lM nqn];exact s5 _ _ aC)) ?_) .nil));exact(D3.imp (R':=fun(l:List Cell) v G=>Den K G v (wA l)) fun l v h=>h.mono sH).a0I fun l v h=>h
    ·have hc:=jl h1;have es:setC c b ch=ch:=aG hc;refine⟨_,rfl,.inl ⟨rfl,_,SqL.of g2⟩,_,rfl,?_⟩;dsimp only[nD];refine o8 (K:=K) g2 (by lia) ?_;exact fin _ _ (Same.refl _) (by rw[es];exact du.mono (sd g1))
   ·obtain⟨us,v4,g1,g2,D2,rfl⟩:=hh;rw[los,kE] at D2;exact hR _ _ ⟨us,v4,g1,g2,D2,rfl⟩
  rintro zzs H2 ⟨us,v4,s2,eq2,D2,rfl⟩;exact⟨_,rfl,hq q _ ⟨s2,nq,us,eq2,D2.mono yZ⟩⟩
end
def cM(zs:List Str)(w:Nat)(c:Cell)(b:Bool):Prop:=∃ ch∈(chL zs w).map (setC c b),ch.2=[]
noncomputable def layW(zs:List Str)(w:Nat)(c:Cell)(b:Bool):List Cell:=((chL zs w).map (setC c b)).flatMap fun ch=>ch.2.headD []
def O4(K:ak):Sp:=fun vs H Q _=>∃(p:Addr)(chs:List (List Cell×List (List Cell))),vs=[.ref p]/\Ls K H p (chs.map chD)/\(∀ ch∈chs,Je ch)/\chs.length<=100/\(chs.map fun ch=>ch.1.length).sum<=36 /\
 ((∃ ch∈chs,ch.2=[])->∀ H',Same H H'->Q .non H')/\((¬∃ ch∈chs,ch.2=[])->∀ q H' ds,Fr K H H' q (ds.map au)->ds.Perm (chs.flatMap fun ch=>ch.2.headD [])->Asc ds->Q (.ref q) H')
def qx(K:ak)(H H':Hp)(v:V)(zs:List Str)(w:Nat)(c:Cell)(b:Bool):Prop:=(cM zs w c b/\v=.non)\/(¬cM zs w c b/\∃(q:Addr)(ds:List Cell),v=.ref q/\H q=none/\Ls K H' q (ds.map au)/\ds.Perm (layW zs w c b)/\Asc ds)
theorem qx.mono{K:ak}{H H' H'':Hp}{v:V}{zs:List Str}{w:Nat}{c:Cell}{b:Bool}(h:qx K H H' v zs w c b)(s:Same H' H''):qx K H H'' v zs w c b:=by
 rcases h with h|⟨h,q,ds,e,n,l,r⟩
 ·exact .inl h
 ·exact .inr ⟨h,q,ds,e,n,l.mono s,r⟩
theorem qx.non{K:ak}{H H':Hp}{v:V}{zs:List Str}{w:Nat}{c:Cell}{b:Bool}(h:qx K H H' v zs w c b):decide (v=V.non)=true↔cM zs w c b:=by
 rw[gq];rcases h with⟨h,e⟩|⟨h,q,_,e,_⟩
 ·exact⟨fun _=>h,fun _=>e⟩
 ·exact⟨fun z=>(by rw[e] at z;cases z),fun z=>absurd z h⟩
def Mv(C NC TG IM:Addr)(zs:List Str)(w:Nat)(c:Cell)(H:Hp)(E:XK):Prop:=
 (aH zs w c=false->∀ H',Same H H'->E (.ref NC) none H')/\(aH zs w c=true->(∃ p∈bG zs w,12<p.length)->∀ H',Same H H'->E (.ref TG) none H') /\
 (aH zs w c=true->(∀ p∈bG zs w,p.length<=12)->cM zs w c false->cM zs w c true->∀ H',Same H H'->E (.ref IM) none H')
def U3(K:ak)(C NC TG IM:Addr):Sp:=fun vs H Q E=>∃(x:Addr)(v:V)(zs:List Str)(w:Nat)(c:Cell),vs=[.ref x,v]/\bW C H x zs w/\Den K H v (au c)/\Mv C NC TG IM zs w c H E /\
 (aH zs w c=true->(∀ p∈bG zs w,p.length<=12)->¬(cM zs w c false/\cM zs w c true)->∀ t v0 v1 H',Same H H'->H' t=some (.tup [v0,v1])->qx K H H' v0 zs w c false->qx K H H' v1 zs w c true->(∀ q:Addr,v0=.ref q->v1≠.ref q)->Q (.ref t) H')
open Classical in
noncomputable def jH(zs:List Str)(w:Nat)(c:Cell):Str:=if cM zs w c false then "stone" else if cM zs w c true then "none" else "open"
def U6(K:ak)(C NC TG IM:Addr):Sp:=fun vs H Q E=>∃(x:Addr)(v:V)(zs:List Str)(w:Nat)(c:Cell),vs=[.ref x,v]/\bW C H x zs w/\Den K H v (au c)/\Mv C NC TG IM zs w c H E /\
 (aH zs w c=true->(∀ p∈bG zs w,p.length<=12)->¬(cM zs w c false/\cM zs w c true)->∀ H',Same H H'->Q (.str (jH zs w c)) H')
section
variable{P:Program}{w:World}{K:ak}{mg:Str->Option Value}{base:Heap}{Z:Adr}
theorem Hv{chs:List (List Cell×List (List Cell))}(h:∀ ch∈chs,Je ch):(chs.flatMap fun ch=>ch.2.headD []).length<=(chs.map fun ch=>ch.1.length).sum:=by
 induction chs with
 |nil=>exact bB _
 |cons ch chs ih=>
  rw[xQ,cC,dM,Bh];have h1:=ih fun c hc=>h c (f9 _ hc)
  have h2:(ch.2.headD []).length<=ch.1.length:=by
   cases e:ch.2 with
   |nil=>exact mG _
   |cons l ls=>exact(h ch cZ).2.1 l (by rw[e];exact cZ)
  lia
theorem S8{f:Addr}{fd:FuncData} (F:Fun K "first_laying" "first_laying" lZ f fd) (T:Txt K mg Z):cF P w K mg base (CXE P w) 1 f fd ["found"] (O4 K):=by
 refine F.rok jV (fun vs H Q E h=>?_) (fun cdv A outer s H vs Q E hr h=>?_)
 ·obtain⟨p,chs,rfl,_⟩:=h;rfl
 ·obtain⟨p,chs,rfl,hp,hok,h100,h36,hn,hq⟩:=h;have hu:=jQ hr;refine⟨_,(aA (bK (i:=1) jV.nd rfl (Or.inl rfl) (fG ao)) (aA (dw fY rfl (bD (K:=K) (rv 0)) (bQ (i:=2) jV.nd rfl (Or.inl rfl)) (aA (dF (bJ (o7.or (nW (K:=K) hu)) (bF (iD (K:=K)) rfl T.gH dY (aj (fP (gP (K:=K)) (rv 2) aM) ao)) aM (c7 _)) (aD (bx CT)) bL) (aD (eY (lR (K:=K) jZ UJ UL (Ru (K:=K)) (rv 1) (aj (fP (gP (K:=K)) (fP (gP (K:=K)) (rv 2) aM) aM) ao)))))) (aD (bx (bF (Ni (K:=K) hu) rfl T.lJ lB (aj (rv 1) ao)))))),?_⟩;refine aF (fun zzs H1=>∃ q:Addr,H q=none/\Same H H1/\H1 q=some (.lst [])/\zzs=[zzR p,zzR q,zzN]) (fun R hR=>?_) ?_
  ·exact⟨by decide,fun q nq=>hR _ _ ⟨q,nq,Same.put nq,aC,rfl⟩⟩
  rintro zzs H1 ⟨q,nq,s1,eq1,rfl⟩;obtain⟨os,eo,Do⟩:=hp;have los:os.length=chs.length:=by rw[Do.length,aZ]
  refine aF (fun zzs H2=>∃(us:List V)(v2:Option V),Same H H2/\H2 q=some (.lst us)/\aV K H2 us ((chs.flatMap fun ch=>ch.2.headD []).map au)/\(¬∃ ch∈chs,ch.2=[])/\zzs=[zzR p,zzR q,v2]) (fun R hR=>?_) ?_
  ·refine⟨_,rfl,p,rfl,⟨_,SqL.of (s1 _ _ eo)⟩,?_⟩;refine dI (K:=K) (xs:=os) (fun i zzs H2=>∃(us:List V)(v2:Option V),Same H H2/\H2 q=some (.lst us)/\aV K H2 us (((chs.take i).flatMap fun ch=>ch.2.headD []).map au)/\(¬∃ ch∈chs.take i,ch.2=[])/\zzs=[zzR p,zzR q,v2])
    ⟨[],none,s1,eq1,.nil,(fun⟨_,h,_⟩=>by cases h),rfl⟩ (fun i zzs H2 _ hh=>by obtain⟨_,_,g,_⟩:=hh;exact SqL.of (g _ _ eo)) (fun i u zzs H2 hi hh=>?_) (fun zzs H2 hh=>?_)
   ·obtain⟨us,v2,g1,g2,D2,no,rfl⟩:=hh;obtain⟨d,ed,du⟩:=Do.get hi;rw[dG] at ed;obtain⟨ch,ec,rfl⟩:=j8.mp ed;have cm:=fQ ec;obtain⟨a2U,hrow,h5k⟩:=hok ch cm;obtain⟨t,a,e,xs,ys,rfl,ht,ha,Da,he,De⟩:=Rc du;have tk:chs.take (i+1)=chs.take i++[ch]:=by rw[kI,ec];rfl
    have at1:∀ {Q:VK},Q (.ref e) H2->rIx K (.ref t) (.int 1) H2 Q:=fun q=>.inr (.inl ⟨t,_,_,_,rfl,rfl,SqT.of (g1 _ _ ht),gG (j:=1) rfl,q⟩)
    refine aF (fun zzs H3=>H2=H3/\ch.2≠[]/\zzs=[zzR p,zzR q,zzR t]) (fun R' hR'=>?_) ?_
    ·refine⟨_,rfl,at1 ?_⟩;dsimp only[nD];refine zV (Den.mono g1 (.lst he De)) (.inl ⟨rfl,_,rfl,?_⟩);rw[wX,aZ];refine cN (fun h1=>?_) (fun h1=>?_)
     ·have h1:=cJ h1;exact hn ⟨ch,cm,Jd.mp (by lia)⟩ _ g1
     ·have h1:=jl h1;exact hR' _ _ ⟨rfl,fun z=>h1 (by rw[z];rfl),rfl⟩
    rintro zzs H3 ⟨rfl,hne,rfl⟩;obtain⟨l0,lr,el0⟩:∃ l0 lr,ch.2=l0::lr:=by
     cases e':ch.2 with
     |nil=>exact absurd e' hne
     |cons l0 lr=>exact⟨l0,lr,rfl⟩
    rw[el0] at De;obtain⟨u0,ys',rfl⟩:∃ u0 ys',ys=u0::ys':=by cases De;exact⟨_,_,rfl⟩
    have d0:Den K H u0 (wA l0):=by cases De with|cons h _=>exact h
    cases d0 with
    |@lst b zs' _ hb Db=>
     have h0:l0.length<=ch.1.length:=hrow l0 (by rw[el0];exact cZ);have lz:zs'.length<=36:=by rw[Db.length,aZ];lia
     have lus:us.length<=36:=by
      rw[D2.length,aZ];refine dN (Hv fun c hc=>hok c (Fx hc)) (dN ?_ h36);rw[List.map_take];have:=Bp i (chs.map fun ch=>ch.1.length);have e3:=congrArg List.sum this;rw[List.sum_append] at e3;lia
     refine⟨_,rfl,.inl ⟨rfl,_,SqL.of g2⟩,_,rfl,at1 (.inl ⟨e,_,_,_,rfl,rfl,g1.seq he,iG,?_⟩)⟩;refine⟨q,b,us,zs',rfl,rfl,g2,g1.seq hb,small (by lia),?_⟩;refine⟨_,_,(SameBut.refl q _).put.of g1 nq,aC,?_,?_,rfl⟩
     ·rw[tk,Ay,eE];have e4:([ch].flatMap fun ch=>ch.2.headD [])=l0:=by
       rw[xQ,el0];simp
      rw[e4];exact((SameBut.refl q _).put.cells g2 D2).append ((SameBut.refl q _).put.cells g2 (Db.mono g1))
     ·rw[tk];rintro⟨c,hc,z⟩;rcases cB.mp hc with y|y
      ·exact no ⟨c,y,z⟩
      ·rw[cL.mp y] at z;exact hne z
   ·obtain⟨us,v2,g1,g2,D2,no,rfl⟩:=hh;rw[los,kE] at D2 no;exact hR _ _ ⟨us,v2,g1,g2,D2,no,rfl⟩
  rintro zzs H2 ⟨us,v2,s2,eq2,D2,no,rfl⟩;have fl:=Hv hok;refine⟨_,rfl,q,us,_,rfl,SqL.of eq2,D2,by lia,fun l ws ds nl pm D' pc as=>?_⟩;exact hq no l _ ds ⟨s2.and nl,s2.free nl,.new nl D'⟩ pc as
theorem Wv{f:Addr}{fd:FuncData} (F:Fun K "both_ways" "both_ways" qR f fd) (T:Txt K mg Z) (bC:Df P w K mg base 2 "is_closed" ["view","cell"] (gZ K Z.View)) (vp:Df P w K mg base 6 "choices" ["view"] (CZ K Z.View Z.TooGreat)) (rO:Df P w K mg base 1 "settled" ["found","cell","stone"] (Dh K)) (jd:Df P w K mg base 1 "first_laying" ["found"] (O4 K)) :
  cF P w K mg base (CXE P w) 7 f fd ["view","cell"] (U3 K Z.View Z.NoCell Z.TooGreat Z.Impossible):=by
 refine F.Ey kY (fun vs H Q E h=>?_) (fun cdv A outer s H vs Q E hr h=>?_)
 ·obtain⟨x,v,zs,w,c,rfl,_⟩:=h;rfl
 ·obtain⟨x,v,zs,w,c,rfl,vt,dv,⟨e1,e2,e3⟩,hq⟩:=h;have hd:=zA hr;have hu:=jQ hr;refine⟨_,(aA (dF (RT.nox (lW (iR (aX bC hr rfl aR (aj (rv 0) (aj (rv 1) ao)))))) (aD (gY T.mq rfl T.qD hd (aj gM ao))) bL) (aA (bK (i:=2) kY.nd rfl (Or.inl rfl) (aX vp hr rfl Er (aj (rv 0) ao))) (aA (RS.nox (bK (i:=3) kY.nd rfl (Or.inl rfl) (aX jd hr rfl aR (aj (aX rO hr rfl aR (aj (rv 2) (aj (rv 1) (aj pC ao)))) ao)))) (aA (RS.nox (bK (i:=4) kY.nd rfl (Or.inl rfl) (aX jd hr rfl aR (aj (aX rO hr rfl aR (aj (rv 2) (aj (rv 1) (aj pC ao)))) ao)))) (aA (dF (RT.nox (Ab (tK (bJ Ep (rv 3) CT (c7 _)) (pD (bJ Ep (rv 4) CT (c7 _)))))) (aD (gY T.kZ rfl T.um hd (aj gM ao))) bL) (aD (RS.nox (bx (mO (aj (rv 3) (aj (rv 4) ao))))))))))),?_⟩;refine aF (fun zzs H1=>aH zs w c=true/\H=H1/\zzs=[zzR x,some v,zzN,zzN,zzN]) (fun R hR=>?_) ?_
  ·refine⟨_,rfl,_,rfl,x,v,zs,w,c,rfl,vt,dv,?_⟩;refine⟨_,rfl,?_⟩;exact cN (fun h1=>⟨by decide,e1 (by simpa only[jr] using h1) _ (Same.refl _)⟩) (fun h1=>hR _ _ ⟨by simpa only[rG] using h1,rfl,rfl⟩)
  rintro zzs H1 ⟨hc,rfl,rfl⟩;refine aF (fun zzs H2=>∃ q:Addr,(∀ p∈bG zs w,p.length<=12)/\Same H H2/\Ls K H2 q ((chL zs w).map chD)/\zzs=[zzR x,some v,zzR q,zzN,zzN]) (fun R hR=>?_) ?_
  ·exact⟨_,rfl,x,zs,w,rfl,vt,fun hg H' s'=>e2 hc hg _ s',fun h12 q H2 fr=>hR _ _ ⟨q,h12,fr.same,fr.ls,rfl⟩⟩
  rintro zzs H2 ⟨q,h12,s2,lq,rfl⟩;obtain⟨c1,c2⟩:=YH vt.vw h12;have csum:∀ b:Bool,(((chL zs w).map (setC c b)).map fun ch=>ch.1.length).sum<=36:=fun b=>by
   rw[XF,YL vt.vw.le vt.vw.w6];exact dR vt.vw
  have cok:∀ b:Bool,∀ ch∈(chL zs w).map (setC c b),Je ch:=fun b ch hch=>by
   obtain⟨d,hd',rfl⟩:=cD.mp hch;exact XC (c1 d hd')
  refine aF (fun zzs H3=>∃ v0:V,Same H2 H3/\qx K H H3 v0 zs w c false/\zzs=[zzR x,some v,zzR q,some v0,zzN]) (fun R hR=>?_) ?_
  ·refine⟨_,rfl,_,rfl,q,v,false,c,chL zs w,rfl,lq,dv.mono s2,c1,c2,fun q5 H5 fr=>?_⟩;refine⟨q5,_,rfl,fr.ls,cok false,by rw[aZ];exact c2,csum false,fun hn H' s'=>hR _ _ ⟨_,fr.same.trans s',.inl ⟨hn,rfl⟩,rfl⟩,fun hn q6 H' ds f6 pm as=>hR _ _ ⟨_,fr.same.trans f6.same,.inr ⟨hn,q6,ds,rfl,(s2.trans fr.same).free f6.new,f6.ls,pm,as⟩,rfl⟩⟩
  rintro zzs H3 ⟨v0,s3,w0,rfl⟩;refine aF (fun zzs H4=>∃ v1:V,Same H3 H4/\qx K H H4 v1 zs w c true/\(∀ q:Addr,v0=.ref q->v1≠.ref q)/\zzs=[zzR x,some v,zzR q,some v0,some v1]) (fun R hR=>?_) ?_
  ·refine⟨_,rfl,_,rfl,q,v,true,c,chL zs w,rfl,lq.mono s3,dv.mono (s2.trans s3),c1,c2,fun q5 H5 fr=>?_⟩;refine⟨q5,_,rfl,fr.ls,cok true,by rw[aZ];exact c2,csum true,fun hn H' s'=>hR _ _ ⟨_,fr.same.trans s',.inl ⟨hn,rfl⟩,(fun _ _ z=>by cases z),rfl⟩,fun hn q6 H' ds f6 pm as=>hR _ _ ⟨_,fr.same.trans f6.same,.inr ⟨hn,q6,ds,rfl,(s2.trans (s3.trans fr.same)).free f6.new,f6.ls,pm,as⟩,(fun q' e' z=>?_),rfl⟩⟩;injection z with z;rcases w0 with⟨_,e0⟩|⟨_,q0,_,e0,_,⟨_,l0,_⟩,_⟩
   ·rw[e0] at e';cases e'
   ·rw[e0] at e';injection e' with e';have:=f6.new;rw[z,<- e',fr.same _ _ l0] at this;cases this
  rintro zzs H4 ⟨v1,s4,w1,apart,rfl⟩;have sA:=s2.trans (s3.trans s4);refine aF (fun zzs H5=>¬(cM zs w c false/\cM zs w c true)/\H4=H5/\zzs=[zzR x,some v,zzR q,some v0,some v1]) (fun R hR=>?_) ?_
  ·refine⟨_,rfl,rfl,_,rfl,?_⟩;refine cN (fun h1=>⟨_,rfl,rfl,_,rfl,?_⟩) (fun h1=>hR _ _ ⟨fun z=>(by rw[w0.non.mpr z.1] at h1;cases h1),rfl,rfl⟩);exact cN (fun h2=>⟨by decide,e3 hc h12 (w0.non.mp h1) (w1.non.mp h2) _ sA⟩) (fun h2=>hR _ _ ⟨fun z=>(by rw[w1.non.mpr z.2] at h2;cases h2),rfl,rfl⟩)
  rintro zzs H5 ⟨hno,rfl,rfl⟩;exact⟨_,rfl,_,rfl,sz rfl,fun t nt=>hq hc h12 hno t v0 v1 _ (sA.and nt) aC ((w0.mono s4).mono (Same.put nt)) (w1.mono (Same.put nt)) apart⟩
open Classical in
theorem WK{f:Addr}{fd:FuncData} (F:Fun K "sure" "sure" Kh f fd) (T:Txt K mg Z) (qj:Df P w K mg base 7 "both_ways" ["view","cell"] (U3 K Z.View Z.NoCell Z.TooGreat Z.Impossible)) :
  cF P w K mg base (CXE P w) 8 f fd ["view","cell"] (U6 K Z.View Z.NoCell Z.TooGreat Z.Impossible):=by
 refine F.Ey NZ (fun vs H Q E h=>?_) (fun cdv A outer s H vs Q E hr h=>?_)
 ·obtain⟨x,v,zs,w,c,rfl,_⟩:=h;rfl
 ·obtain⟨x,v,zs,w,c,rfl,vt,dv,re,hq⟩:=h;refine⟨_,(aA (bK (i:=2) NZ.nd rfl (Or.inl rfl) (aX qj hr rfl Er (aj (rv 0) (aj (rv 1) ao)))) (aA (RS.nox (dF (bJ Ep (fP (gP (K:=K)) (rv 2) aM) CT (c7 _)) (aD (bx gM)) bL)) (aA (RS.nox (dF (bJ Ep (fP (gP (K:=K)) (rv 2) aM) CT (c7 _)) (aD (bx gM)) bL)) (aD (RS.nox (bx gM)))))),?_⟩;refine aF (fun zzs H1=>∃(t:Addr)(v0 v1:V),aH zs w c=true/\(∀ p∈bG zs w,p.length<=12)/\¬(cM zs w c false/\cM zs w c true)/\Same H H1/\H1 t=some (.tup [v0,v1])/\qx K H H1 v0 zs w c false/\qx K H H1 v1 zs w c true/\(∀ q:Addr,v0=.ref q->v1≠.ref q)/\zzs=[zzR x,some v,zzR t]) (fun R hR=>?_) ?_
  ·exact⟨_,rfl,_,rfl,x,v,zs,w,c,rfl,vt,dv,re,fun hc h12 hno t v0 v1 H' s' et w0 w1 ap=>hR _ _ ⟨t,v0,v1,hc,h12,hno,s',et,w0,w1,ap,rfl⟩⟩
  rintro zzs H1 ⟨t,v0,v1,hc,h12,hno,s1,et,w0,w1,ap,rfl⟩;have hq':=hq hc h12 hno _ s1;unfold jH at hq';refine aF (fun zzs H2=>¬cM zs w c false/\H1=H2/\zzs=[zzR x,some v,zzR t]) (fun R hR=>?_) ?_
  ·refine⟨_,rfl,.inr (.inl ⟨t,_,_,_,rfl,rfl,SqT.of et,iG,rfl,_,rfl,?_⟩)⟩;refine cN (fun h1=>?_) (fun h1=>hR _ _ ⟨fun z=>(by rw[w0.non.mpr z] at h1;cases h1),rfl,rfl⟩);rw[aJ (w0.non.mp h1)] at hq';exact hq'
  rintro zzs H2 ⟨h1,rfl,rfl⟩;rw[aG h1] at hq';refine aF (fun zzs H2=>¬cM zs w c true/\H1=H2/\zzs=[zzR x,some v,zzR t]) (fun R hR=>?_) ?_
  ·refine⟨_,rfl,.inr (.inl ⟨t,_,_,_,rfl,rfl,SqT.of et,gG (j:=1) rfl,rfl,_,rfl,?_⟩)⟩;refine cN (fun h2=>?_) (fun h2=>hR _ _ ⟨fun z=>(by rw[w1.non.mpr z] at h2;cases h2),rfl,rfl⟩);rw[aJ (w1.non.mp h2)] at hq';exact hq'
  rintro zzs H2 ⟨h2,rfl,rfl⟩;rw[aG h2] at hq';exact hq'
end
section
variable{zs:List Str}{w:Nat}{c:Cell}
def Gx(zs:List Str)(w:Nat):Prop:=∃ ch∈chL zs w,ch.2=[]
theorem uK(b:Bool):cM zs w c b↔(Gx zs w\/∃ p∈bG zs w,c∈p/\((eV zs w p).filter fun l=>decide (decide (c∈l)=b))=[]):=by
 constructor
 ·rintro⟨ch',hc',e⟩;obtain⟨ch,hc,rfl⟩:=cD.mp hc';unfold setC at e;by_cases z:c∈ch.1
  ·rw[aJ z] at e;have hc0:=hc;unfold chL at hc;rcases cW.mp hc with rfl|hc
   ·cases z
   rcases cB.mp hc with hc|hc
   ·obtain⟨p,hp,rfl⟩:=cD.mp hc;exact .inr ⟨p,hp,z,e⟩
   ·obtain⟨x,_,rfl⟩:=cD.mp hc;exfalso;have zx:c=x:=cL.mp z;subst zx;cases b<;>simp at e
  ·rw[aG z] at e;exact .inl ⟨ch,hc,e⟩
 ·rintro(⟨ch,hc,e⟩|⟨p,hp,z,e⟩)
  ·refine⟨setC c b ch,cD.mpr ⟨ch,hc,rfl⟩,?_⟩;unfold setC;by_cases z:c∈ch.1
   ·rw[aJ z];show ch.2.filter _=[];rw[e];rfl
   ·rw[aG z];exact e
  ·refine⟨setC c b (p,eV zs w p),cD.mpr ⟨_,f9 _ (fW _ (cD.mpr ⟨p,hp,rfl⟩)),rfl⟩,?_⟩;unfold setC;rw[aJ (show c∈(p,eV zs w p).1 from z)];exact e
theorem Sw(h6:zs.length<=6)(w6:w<=6){p q:List Cell}(hp:p∈bG zs w)(hq:q∈bG zs w)(cp:c∈p)(cq:c∈q):p=q:=by
 obtain⟨ok,_⟩:=j7 (zs:=zs) (w:=w) h6 w6;obtain⟨x,hx,rfl⟩:=ok.of p hp;obtain⟨y,hy,rfl⟩:=ok.of q hq;rw[<- lQ h6 w6 hx cp,lQ h6 w6 hy cq]
theorem QV(v:Vw zs w):(cM zs w c false/\cM zs w c true)↔Gx zs w:=by
 rw[uK,uK];constructor
 ·rintro⟨h|⟨p,hp,cp,ep⟩,h'|⟨q,hq,cq,eq⟩⟩
  ·exact h
  ·exact h
  ·exact h'
  ·have:=Sw v.le v.w6 hp hq cp cq;subst this;refine⟨(p,eV zs w p),f9 _ (fW _ (cD.mpr ⟨p,hp,rfl⟩)),?_⟩;cases e:eV zs w p with
   |nil=>rfl
   |cons l ls=>
    rw[e] at ep eq;rw[Gf] at ep eq;by_cases hl:c∈l
    ·rw[cR hl] at eq;cases eq
    ·rw[dB hl] at ep;cases ep
 ·intro h;exact⟨.inl h,.inl h⟩
end
section
variable{zs:List Str}{w:Nat}
theorem W5{x:Cell}(h:x∈jY zs w):x∉bO zs w:=fun z=>by
 have h1:=cJ (bZ.mp h).2;have h2:=cJ (bZ.mp z).2;lia
theorem R4(v:Vw zs w):(chL zs w).Pairwise fun a b=>∀ y∈a.1,y∉b.1:=by
 have h6:=v.le;have w6:=v.w6;obtain⟨ok,_⟩:=j7 (zs:=zs) (w:=w) h6 w6;unfold chL;refine rF.mpr ⟨fun b _ y hy=>(by cases hy),xO.mpr ⟨?_,?_,?_⟩⟩
 ·exact Gb.mpr ok.dis
 ·refine Gb.mpr ?_;have nd:(jY zs w).Nodup:=by
   unfold jY aU;exact(gk (nP zs.length (cH.mpr (by lia)) w (cH.mpr (by lia)))).sublist (FN.trans FN)
  exact nd.imp fun h y hy z=>h (by rw[<- cL.mp hy,<- cL.mp z])
 ·intro a ha b hb y hy z;obtain⟨p,hp,rfl⟩:=cD.mp ha;obtain⟨x,hx,rfl⟩:=cD.mp hb;have e:=cL.mp z;subst e;obtain⟨q,hq,rfl⟩:=ok.of p hp;exact W5 hx (j9.edge hq ((dD (jh hq)).mp hy))
theorem R5(v:Vw zs w):∀ ch∈chL zs w,ch.1.Nodup/\∀ l∈ch.2,l.Sublist ch.1:=fun ch hc=>by
 have h6:=v.le;have w6:=v.w6;obtain⟨ok,_⟩:=j7 (zs:=zs) (w:=w) h6 w6;unfold chL at hc;rcases cW.mp hc with rfl|hc
 ·refine⟨.nil,fun l hl=>?_⟩;unfold iY at hl;split at hl
  ·cases hl
  ·rw[cL.mp hl];exact .slnil
 rcases cB.mp hc with hc|hc
 ·obtain⟨p,hp,rfl⟩:=cD.mp hc;obtain⟨x,hx,rfl⟩:=ok.of p hp;have pp:=Part.join h6 w6 hx;exact⟨pp.nd,fun l hl=>((pp.mem l).mp hl).1⟩
 ·obtain⟨x,_,rfl⟩:=cD.mp hc;refine⟨by simp,fun l hl=>?_⟩;rcases cW.mp hl with rfl|hl
  ·exact List.nil_sublist _
  ·rw[cL.mp hl];exact Mh _
theorem GR(v:Vw zs w):((chL zs w).flatMap fun ch=>ch.1).Perm (aU zs w):=by
 have:((chL zs w).flatMap fun ch=>ch.1)=(bG zs w).flatten++jY zs w:=by
  unfold chL;rw[xQ,Ay];have e1:∀ l:List (List Cell),(l.map fun p=>(p,eV zs w p)).flatMap (fun ch=>ch.1)=l.flatten:=fun l=>by
   induction l with
   |nil=>rfl
   |cons a l ih=>rw[dM,xQ,ih,Bs]
  have e2:∀ l:List Cell,(l.map fun c=>(([c]:List Cell),([[],[c]]:List (List Cell)))).flatMap (fun ch=>ch.1)=l:=fun l=>by
   induction l with
   |nil=>rfl
   |cons a l ih=>rw[dM,xQ,ih];rfl
  rw[e1,e2];rfl
 rw[this];exact wW v.le v.w6
end
section
variable{zs:List Str}{w:Nat}{L:List Cell}
theorem Pk{a b:List Cell}(ha:a.Pairwise aP)(hb:b.Pairwise aP):a.filter (fun y=>decide (y∈b))=b.filter (fun y=>decide (y∈a)):=by
 refine yK (ha.filter _) (hb.filter _) fun y=>?_
 rw[bZ,bZ,gq,gq];exact⟨fun h=>⟨h.2,h.1⟩,fun h=>⟨h.2,h.1⟩⟩
theorem yQ(hL:∀ c∈L,aH zs w c=true)(t:Cell):mW zs.length w t L=nj (aB zs w t) L:=by
 unfold mW nj aB;rw[List.filter_filter];refine congrArg List.length (FW fun y hy=>?_);by_cases h:y∈L
 ·rw[cR h,hL y h];rfl
 ·rw[dB h];rfl
theorem Rx(v:Vw zs w)(hL:∀ c∈L,aH zs w c=true):fu zs w L=true↔∀ t,inF zs.length w t->aH zs w t=false->(nj (aB zs w t) L:Int)=fL zs t:=by
 unfold fu;rw[jt];constructor
 ·intro h t ht ho;have:=h t (bM.mpr ht);rw[ho,Gp] at this;unfold pW at this;have:=cJ this;rw[<- yQ hL];lia
 ·intro h t ht;cases ho:aH zs w t
  ·rw[Gp];unfold pW;have:=h t (bM.mp ht) ho;rw[<- yQ hL] at this;exact cR (by lia)
  ·rfl
theorem GX{ps:List Cell}(p:Part zs w ps){x t:Cell}(hx:x∈ps)(ht:t∈aL zs w x):nj (aB zs w t) (L.filter fun y=>decide (y∈ps))=nj (aB zs w t) L:=vY fun y hy=>by
 rw[vo,bZ,gq];exact⟨fun h=>h.1,fun h=>⟨h,p.all x hx t ht y hy⟩⟩
theorem Z1(v:Vw zs w){t:Cell}(ht:inF zs.length w t)(ho:aH zs w t=false):0<=fL zs t:=by
 have:=v.digit ht ho;unfold fL;lia
theorem tD(v:Vw zs w)(la:L.Pairwise aP)(hL:∀ c∈L,aH zs w c=true):fu zs w L=true↔(iY zs w=[[]]/\∀ p∈bG zs w,(L.filter fun y=>decide (y∈p))∈eV zs w p):=by
 have h6:=v.le;have w6:=v.w6;obtain⟨ok,cov⟩:=j7 (zs:=zs) (w:=w) h6 w6;rw[Rx v hL];constructor
 ·intro h;constructor
  ·unfold iY;rw[aG];rw[Gg];rintro⟨t,ht,hb⟩;unfold yM uJ at hb;simp only[kj,jr,gq] at hb;have:=h t (bM.mp ht) hb.1.1;have e:aB zs w t=[]:=Jd.mp hb.1.2;rw[e] at this;have z:nj [] L=0:=rfl;rw[z] at this;lia
  ·intro p hp;obtain⟨x,hx,rfl⟩:=ok.of p hp;have pp:=Part.join h6 w6 hx;refine(pp.mem _).mpr ⟨?_,fun y hy t ht=>?_⟩
   ·rw[Pk la pp.asc];exact FN
   ·rw[GX pp hy ht];obtain⟨a,b,_⟩:=gB ht;exact h t a b
 ·rintro⟨h1,h2⟩ t ht ho;by_cases e:aB zs w t=[]
  ·rw[e];show((0:Nat):Int)=_;have nb:yM zs w t=false:=by
    cases z:yM zs w t
    ·rfl
    ·unfold iY at h1;rw[aJ (Gg.mpr ⟨t,bM.mpr ht,z⟩)] at h1;cases h1
   unfold yM uJ at nb;rw[ho,e] at nb;have:decide (0<fL zs t)=false:=nb;have:=jl this;have:=Z1 v ht ho;lia
  ·obtain⟨y,hy⟩:=List.exists_mem_of_ne_nil _ e;have ye:=pQ ht ho hy;obtain⟨p,hp,hyp⟩:=cov y ye;obtain⟨x,hx,rfl⟩:=ok.of p hp;have pp:=Part.join h6 w6 hx;have hto:=CK hy ht ho;have:=((pp.mem _).mp (h2 _ hp)).2 y hyp t hto;rw[GX pp hyp hto] at this;exact this
theorem wV(h6:zs.length<=6)(w6:w<=6):(aU zs w).Pairwise aP:=by
 unfold aU;exact(nP zs.length (cH.mpr (by lia)) w (cH.mpr (by lia))).filter _
theorem gV{y:Cell}:y∈aU zs w↔aH zs w y=true:=by
 unfold aU;rw[bZ,bM];refine⟨fun h=>h.2,fun h=>⟨?_,h⟩⟩;unfold aH at h;exact cJ (Bool.and_eq_true_iff.mp h).1
end
section
variable{zs:List Str}{w:Nat}{c:Cell}{b:Bool}
def vZ(c:Cell)(b:Bool)(ch:List Cell×List (List Cell)):List Cell:=(setC c b ch).2.headD []
theorem zm(hn:¬cM zs w c b){ch:List Cell×List (List Cell)}(h:ch∈chL zs w):vZ c b ch∈(setC c b ch).2:=by
 unfold vZ;cases e:(setC c b ch).2 with
 |nil=>exact absurd ⟨_,cD.mpr ⟨ch,h,rfl⟩,e⟩ hn
 |cons l ls=>exact cZ
theorem Kp{ch:List Cell×List (List Cell)}{l:List Cell}(h:l∈(setC c b ch).2):l∈ch.2/\(c∈ch.1->decide (c∈l)=b):=by
 unfold setC at h;by_cases z:c∈ch.1
 ·rw[aJ z] at h;obtain⟨h1,h2⟩:=bZ.mp h;exact⟨h1,fun _=>cJ h2⟩
 ·rw[aG z] at h;exact⟨h,fun y=>absurd y z⟩
theorem zJ{y:Cell}:y∈layW zs w c b↔∃ ch∈chL zs w,y∈vZ c b ch:=by
 unfold layW;rw[Bc];constructor
 ·rintro⟨d,hd,hy⟩;obtain⟨ch,hc,rfl⟩:=cD.mp hd;exact⟨ch,hc,hy⟩
 ·rintro⟨ch,hc,hy⟩;exact⟨_,cD.mpr ⟨ch,hc,rfl⟩,hy⟩
theorem iV(v:Vw zs w)(hn:¬cM zs w c b){ch:List Cell×List (List Cell)}(h:ch∈chL zs w):(vZ c b ch).Sublist ch.1:=(R5 v ch h).2 _ (Kp (zm hn h)).1
theorem YJ(v:Vw zs w){y:Cell}{d e:List Cell×List (List Cell)}(hd:d∈chL zs w)(he:e∈chL zs w)(yd:y∈d.1)(ye:y∈e.1):d=e:=by
 have h:=R4 v;obtain⟨i,hi,rfl⟩:=LQ hd;obtain⟨j,hj,rfl⟩:=LQ he;rcases Nat.lt_trichotomy i j with z|z|z
 ·exact absurd ye (sS.mp h i j hi hj z y yd)
 ·subst z;rfl
 ·exact absurd yd (sS.mp h j i hj hi z y ye)
theorem El(v:Vw zs w)(hn:¬cM zs w c b){ch:List Cell×List (List Cell)}(h:ch∈chL zs w){y:Cell}(hy:y∈ch.1):y∈layW zs w c b↔y∈vZ c b ch:=by
 rw[zJ];constructor
 ·rintro⟨d,hd,yd⟩;rw[<- YJ v hd h ((iV v hn hd).subset yd) hy];exact yd
 ·intro z;exact⟨ch,h,z⟩
theorem Nk(v:Vw zs w)(hn:¬cM zs w c b):(layW zs w c b).Nodup:=by
 unfold layW List.Nodup;rw[List.flatMap_def,ni,Vf];constructor
 ·intro l hl;obtain⟨ch,hc,rfl⟩:=cD.mp hl;exact(R5 v ch hc).1.sublist (iV v hn hc)
 ·rw[Gb];refine(R4 v).imp_of_mem fun {d e} hd he h x hx y hy z=>?_
  subst z;exact h x ((iV v hn hd).subset hx) ((iV v hn he).subset hy)
theorem Px(v:Vw zs w){y:Cell}(hy:aH zs w y=true):∃ ch∈chL zs w,y∈ch.1:=by
 have:=(GR v).mem_iff.mpr (gV.mpr hy);exact Bc.mp this
theorem sJ(v:Vw zs w){y:Cell}{ch:List Cell×List (List Cell)}(h:ch∈chL zs w)(hy:y∈ch.1):aH zs w y=true:=gV.mp ((GR v).mem_iff.mp (Bc.mpr ⟨ch,h,hy⟩))
variable{d:List Cell}
theorem Qx(v:Vw zs w)(hn:¬cM zs w c b)(pm:d.Perm (layW zs w c b))(as:Asc d):d.Pairwise aP:=yL as (pm.nodup_iff.mpr (Nk v hn))
theorem uV(v:Vw zs w)(hn:¬cM zs w c b)(pm:d.Perm (layW zs w c b)):∀ y∈d,aH zs w y=true:=fun y hy=>by
 obtain⟨ch,hc,h⟩:=zJ.mp (pm.mem_iff.mp hy);exact sJ v hc ((iV v hn hc).subset h)
theorem Kr(v:Vw zs w)(hc:aH zs w c=true)(hn:¬cM zs w c b)(pm:d.Perm (layW zs w c b)):decide (c∈d)=b:=by
 obtain⟨ch,h,hy⟩:=Px v hc;rw[<- (Kp (zm hn h)).2 hy,vo,pm.mem_iff,El v hn h hy]
theorem Q6(hn:¬cM zs w c b):¬Gx zs w:=fun z=>hn ((uK b).mpr (.inl z))
theorem IW(v:Vw zs w)(hn:¬cM zs w c b)(pm:d.Perm (layW zs w c b))(as:Asc d):fu zs w d=true:=by
 have sa:=Qx v hn pm as;refine(tD v sa (uV v hn pm)).mpr ⟨?_,fun p hp=>?_⟩
 ·have:([],iY zs w)∈chL zs w:=cZ;unfold iY;split
  ·rename_i z;exact absurd ⟨_,this,aJ z⟩ (Q6 hn)
  ·rfl
 ·have hm:(p,eV zs w p)∈chL zs w:=f9 _ (fW _ (cD.mpr ⟨p,hp,rfl⟩));obtain⟨ok,_⟩:=j7 (zs:=zs) (w:=w) v.le v.w6;obtain⟨x,hx,rfl⟩:=ok.of p hp;have pp:=Part.join v.le v.w6 hx;have e:d.filter (fun y=>decide (y∈cg zs w x))=vZ c b (cg zs w x,eV zs w (cg zs w x)):=by
   refine yK (sa.filter _) (pp.asc.sublist (iV v hn hm)) fun y=>?_
   rw[bZ,gq];constructor
   ·rintro⟨h1,h2⟩;exact(El v hn hm h2).mp (pm.mem_iff.mp h1)
   ·intro h;have h2:=(iV v hn hm).subset h;exact⟨pm.mem_iff.mpr ((El v hn hm h2).mpr h),h2⟩
  rw[e];exact(Kp (zm hn hm)).1
end
theorem Hw(z:V):∀ k:Nat,(List.replicate k [z]).flatten=List.replicate k z
 |0=>rfl
 |k+1=>by rw[xP,Bs,Hw z k,xP];rfl
theorem Ob(h w:Nat)(r:Int)(w1:1<=w)(w6:w<=6):uQ h w [] [] r w=BR "#" w:=by
 have:∀ k,k<=6->1<=k->uQ h w [] [] r k=BR "#" (k:Int):=by
  intro k hk h1;have e:uQ h w [] [] r k=⟨(List.replicate k 35).toArray⟩:=by
   unfold uQ;have:((List.range k).map fun c:Nat=>qe h w [] [] (r,(c:Int)))=List.replicate k 35:=by
    rw[Vg];refine⟨by rw[aZ,jM],fun b hb=>?_⟩;obtain⟨c,_,rfl⟩:=cD.mp hb;rfl
   rw[this]
  rw[e];have all:=(by decide +kernel:∀ k∈[1,2,3,4,5,6],(⟨(List.replicate k 35).toArray⟩:Str)=BR "#" ((k:Nat):Int))
  refine all k ?_
  match k,h1,hk with
  |1,_,_=>decide
  |2,_,_=>decide
  |3,_,_=>decide
  |4,_,_=>decide
  |5,_,_=>decide
  |6,_,_=>decide
 exact this w w6 w1
theorem blank_eq(h w:Nat)(w1:1<=w)(w6:w<=6):(gD h w).map V.str=List.replicate h (V.str (BR "#" w)):=by
 unfold gD aO;rw[ni,Vg];refine⟨by rw[aZ,jM],fun b hb=>?_⟩;obtain⟨r,_,rfl⟩:=cD.mp hb;show V.str (uQ h w [] [] (r:Int) w)=_;rw[Ob h w r w1 w6]
theorem eF(h w:Nat):(gD h w).length=h:=by
 unfold gD aO;rw[aZ,jM]
theorem a0O{a b c:Str}{u v z:V}:(cX a v (cX b u (cX c z []))).length<1000:=by
 have h1:=dj a v (cX b u (cX c z []));have h2:=dj b u (cX c z []);have h3:=dj c z [];simp only[xT] at h3;lia
theorem zq{K:ak}{C CV:Addr}{H H':Hp}{p g:Addr}{h w:Nat}{st kn cs:List Cell}{us:List V}{lost:Bool}{f hd d:Addr}(G:bT K C CV H g h w st kn lost f hd d)(s:SameBut p H H')(hp:H p=some (.lst us))(D:aV K H us (cs.map au))(n:p≠hd):bT K C CV H' g h w st kn lost f hd d:=by
 obtain⟨dx,e⟩:=G.ob;obtain⟨dy,ly,e1,e2⟩:=G.fl.ob;have nly:ly≠p:=by
  intro z;rw[z,hp] at e2;injection e2 with e2;injection e2 with e2;obtain⟨z0,zt,ez,_⟩:=G.fl.vw.toRect.head;rw[ez] at e2;subst e2;cases cs with
  |nil=>cases D
  |cons c cs=>
   cases D with
   |cons d0 _=>
    obtain⟨a,ea,_⟩:=cV d0;cases ea
 refine⟨⟨dx,s _ _ e (fB hp e (by intro z;cases z)).symm⟩,⟨⟨dy,ly,s _ _ e1 (fB hp e1 (by intro z;cases z)).symm,s _ _ e2 nly⟩,G.fl.vw⟩,s.ls hp n.symm G.hs,s _ _ G.dc (fB hp G.dc (by intro z;cases z)).symm⟩
def Fg(K:ak)(C CV BV BL:Addr):Sp:=fun vs H Q E=>∃(x dx l:Addr)(h w:Int)(cs:List Cell),vs=[.ref x,.int h,.int w,.ref l]/\H x=some (.ins C dx [])/\Ls K H l (cs.map au)/\cs.length<=1000 /\
 (ou h w=false->∀ H',Same H H'->E (.ref BV) none H') /\
 (ou h w=true->layB (gD h.toNat w.toNat) w.toNat cs=false->∀ H',Same H H'->E (.ref BL) none H') /\
 (ou h w=true->layB (gD h.toNat w.toNat) w.toNat cs=true->∀ H' (f hd d:Addr),H f=none->H hd=none->H d=none->hd≠d->f≠x->hd≠x->d≠x->bT K C CV H' x h.toNat w.toNat cs [] false f hd d->(∀ b o,H b=some o->b≠x->H' b=some o)->Q .non H')
theorem join_ones(g:Nat->Nat):∀ l:List Nat,PySem.Txt.join "" (l.map fun c:Nat=>(⟨#[g c]⟩:Str))=⟨(l.map g).toArray⟩:=by
 have go:∀(l:List Nat)(acc:Array Nat),((l.map fun c:Nat=>(⟨#[g c]⟩:Str)).foldl (fun acc p=>acc++("" : Str).cps++p.cps) acc)=acc++(l.map g).toArray:=by
  intro l
  induction l with
  |nil=>intro acc;simp
  |cons a l ih=>
   intro acc;rw[dM,Gh,ih];have e:("" : Str).cps=#[]:=by decide +kernel
   rw[e];simp
 intro l;cases l with
 |nil=>rfl
 |cons a l=>
  show(⟨(l.map fun c:Nat=>(⟨#[g c]⟩:Str)).foldl (fun acc p=>acc++("" : Str).cps++p.cps) #[g a]⟩:Str)=_;rw[go];simp
theorem Rt(h w:Int)(st kn:List Cell)(r:Int)(n:Nat):PySem.Txt.join "" ((List.range n).map fun c:Nat=>(⟨#[qe h w st kn (r,(c:Int))]⟩:Str))=uQ h w st kn r n:=join_ones (fun c=>qe h w st kn (r,(c:Int))) (List.range n)
def ig(h w:Nat)(st kn:List Cell)(lost:Bool):Str:=if lost=true then "lost" else if kn.length+st.length=h*w then "won" else "on"
def mj(K:ak)(C CV:Addr):Sp:=fun vs H Q _=>∃(g:Addr)(h w:Nat)(st kn:List Cell)(lost:Bool)(f hd d:Addr),vs=[.ref g]/\bT K C CV H g h w st kn lost f hd d/\Q (.str (ig h w st kn lost)) H
def mR(K:ak)(C CV:Addr):Sp:=fun vs H Q _=>∃(g:Addr)(h w:Nat)(st kn:List Cell)(lost:Bool)(f hd d:Addr),vs=[.ref g]/\bT K C CV H g h w st kn lost f hd d /\
 ∀ x H',H x=none->Same H H'->bW CV H' x (aO h w st kn) w->Q (.ref x) H'
theorem mj.mk{K:ak}{C CV g f hd d:Addr}{H:Hp}{Q:VK}{E:XK}{h w:Nat}{st kn:List Cell}{lost:Bool}(G:bT K C CV H g h w st kn lost f hd d)(q:Q (.str (ig h w st kn lost)) H):mj K C CV [.ref g] H Q E:=⟨g,h,w,st,kn,lost,f,hd,d,rfl,G,q⟩
theorem mR.mk{K:ak}{C CV g f hd d:Addr}{H:Hp}{Q:VK}{E:XK}{h w:Nat}{st kn:List Cell}{lost:Bool}(G:bT K C CV H g h w st kn lost f hd d)(q:∀ x H',H x=none->Same H H'->bW CV H' x (aO h w st kn) w->Q (.ref x) H'):mR K C CV [.ref g] H Q E:=⟨g,h,w,st,kn,lost,f,hd,d,rfl,G,q⟩
theorem jE{K:ak}{C CV g f hd d:Addr}{H:Hp}{Q:VK}{h w:Nat}{st kn:List Cell}{lost:Bool}{m:Str}{v:V}{ta:TE}{zzs:L2.St}(G:bT K C CV H g h w st kn lost f hd d)(ha:∀ Q':VK,Q' (.ref g) H->ta zzs H Q')(hc:Cls K C)(hn:je K C m)(hl:(iI f hd d lost).lookup m=some v)(q:Q v H):XM K ta m zzs H Q:=
 ha _ (let ⟨dx,e⟩:=G.ob;⟨g,C,dx,_,_,rfl,e,hc,hn,hl,q⟩)
theorem qM{K:ak}{C CV g f hd d:Addr}{H:Hp}{Q:VK}{E:XK}{h w:Nat}{st kn:List Cell}{lost:Bool}{m:Str}{sp:Sp}{ta:TE}{zzs:L2.St}(G:bT K C CV H g h w st kn lost f hd d) (hm:m ≠ "lost" /\ m ≠ "figures" /\ m ≠ "hidden" /\ m ≠ "field") (ha:∀ Q':VK,Q' (.ref g) H->ta zzs H Q') (q:sp [.ref g] H Q E):J2 C m sp [] E ta nD zzs H Q:=
 ha _ (let ⟨dx,e⟩:=G.ob;⟨g,dx,_,rfl,e,JG _ _ _ _ hm.1 hm.2.1 hm.2.2.1 hm.2.2.2,q⟩)
section
variable{P:Program}{w:World}{K:ak}{mg:Str->Option Value}{base:Heap}{Z:Adr}
theorem S9{f:Addr}{fd:FuncData} (F:Fun K "__init__" "Game.__init__" jR f fd) (T:Txt K mg Z) (lA:Df P w K mg base 1 "is_size" ["height","width"] Kv) (vG:Md P w K mg base 3 "View" ["self","rows"] Z.View (Ku K Z.View Z.BadView)) (iU:Df P w K mg base 3 "is_laying" ["view","laying"] (Am K Z.View)) :
  cF P w K mg base (CXE P w) 5 f fd ["self","height","width","stones"] (Fg K Z.Game Z.View Z.BadView Z.BadLaying):=by
 refine F.Ey o9 (fun vs H Q E h=>?_) (fun cdv A outer s H vs Q E hr h=>?_)
 ·obtain⟨x,dx,l,h,w,cs,rfl,_⟩:=h;rfl
 ·obtain⟨x,dx,l,h,w,cs,rfl,hx,hl,hc,e1,e2,hq⟩:=h;have hd:=zA hr;have hu:=jQ hr;refine⟨_,(aA (dF (RT.nox (lW (iR (aX lA hr rfl aR (aj (rv 1) (aj (rv 2) ao)))))) (aD (gY T.oF rfl T.vM hd (aj gM ao))) bL) (aA (RS.nox (bK (i:=4) o9.nd rfl (Or.inl rfl) (Kc vG hr rfl aR (aj (gW mL (fG (aj (gW mL (Es T.dU rfl) (rv 2)) ao)) (rv 1)) ao)))) (aA (dF (RT.nox (lW (iR (aX iU hr rfl aR (aj (rv 4) (aj (rv 3) ao)))))) (aD (gY T.jJ rfl T.qC hd (aj gM ao))) bL) (aA (RS.nox (qO (rv 0) (rv 4))) (aA (RS.nox (qO (rv 0) (lV (zE (K:=K)) rfl T.vL uh (aj (rv 3) ao)))) (aA (RS.nox (qO (rv 0) yw)) (aD (RS.nox (qO (rv 0) pC))))))))),?_⟩;refine aF (fun zzs H1=>ou h w=true/\H1=H/\zzs=[zzR x,zzI h,zzI w,zzR l,zzN]) (fun R hR=>?_) ?_
  ·refine⟨_,rfl,_,rfl,_,_,rfl,_,rfl,?_⟩;refine cN (fun h1=>⟨by decide,e1 (by simpa only[jr] using h1) _ (Same.refl _)⟩) (fun h1=>hR _ _ ⟨by simpa only[rG] using h1,rfl,rfl⟩)
  rintro zzs H ⟨hsz,rfl,rfl⟩;obtain⟨⟨h1,h6⟩,w1,w6⟩:=uX.mp hsz;obtain⟨m,rfl⟩:∃ m:Nat,h=(m:Int):=⟨h.toNat,by lia⟩
  obtain⟨n,rfl⟩:∃ n:Nat,w=(n:Int):=⟨w.toNat,by lia⟩
  rw[jm,jm] at e2 hq;have vw:Vw (gD m n) n:=uW (by lia) (by lia) (by lia) (by lia);have bl:=eF m n;refine aF (fun zzs H1=>∃ y:Addr,H y=none/\Same H H1/\bW Z.View H1 y (gD m n) n/\zzs=[zzR x,zzI m,zzI n,zzR l,zzR y]) (fun R hR=>?_) ?_
  ·refine⟨_,rfl,by decide,by lia,by lia,sz rfl,fun p hp=>?_⟩;refine⟨_,rfl,_,aC,by lia,by lia,small (by show 1*_<=10000;lia),fun q hq'=>?_⟩;have eL:(List.replicate ((m:Nat):Int).toNat [V.str (BR "#" (n:Int))]).flatten=(gD m n).map V.str:=by rw[jm,Hw,blank_eq m n (by lia) (by lia)]
   rw[eL];have sq:=(Same.put (o:=.lst [V.str (BR "#" (n:Int))]) hp).and (o:=.lst ((gD m n).map V.str)) hq';intro y dy ny ndy ney;have n2:(upd (upd (upd H p (.lst [V.str (BR "#" (n:Int))])) q (.lst ((gD m n).map V.str))) dy (.own y)) y=none:=by rw[aN ney.symm];exact ny
   have s6:=(Same.put (o:=.own y) ndy).and (o:=.ins Z.View dy []) n2;obtain⟨z0,zt,ez,hz0⟩:=vw.toRect.head;refine⟨y,dy,q,gD m n,rfl,aC,SqL.of (s6 _ _ aC),by lia,fun r hr'=>by have:=vw.len r hr';lia,fun hv=>(by rw[vw.ok] at hv;cases hv),fun _ H' lr z0' zt' e nlr nlx hlr hx' keep=>⟨rfl,?_⟩⟩;have e0:z0'.length=n:=vw.len z0' (by rw[e];exact cZ);have n1:H y=none:=sq.free ny;refine hR _ _ ⟨y,n1,fun b o hb=>keep b o (s6 _ _ (sq _ _ hb)) (aQ hb n1),⟨⟨dy,lr,?_,hlr⟩,vw⟩,rfl⟩;rw[e0] at hx';exact hx'
  rintro zzs H1 ⟨y,ny,s1,vt,rfl⟩;refine aF (fun zzs H2=>layB (gD m n) n cs=true/\Same H H2/\bW Z.View H2 y (gD m n) n/\zzs=[zzR x,zzI m,zzI n,zzR l,zzR y]) (fun R hR=>?_) ?_
  ·refine⟨_,rfl,_,rfl,y,l,_,n,cs,rfl,vt,hl.mono s1,hc,fun H2 s2=>⟨_,rfl,?_⟩⟩;refine cN (fun h1=>⟨by decide,e2 hsz (by simpa only[jr] using h1) _ (s1.trans s2)⟩) (fun h1=>hR _ _ ⟨by simpa only[rG] using h1,s1.trans s2,vt.mono s2,rfl⟩)
  rintro zzs H2 ⟨hlay,s2,vt2,rfl⟩;obtain⟨us,eu,Du⟩:=hl.mono s2;have hx2:=s2 _ _ hx;obtain⟨dy,ly,hy2,a0W⟩:=vt2.ob;have nyx:y≠x:=(aQ hx ny).symm;have nlx:l≠x:=fB eu hx2 (by intro z;cases z);have a2s:ly≠x:=fB a0W hx2 (by intro z;cases z);refine⟨_,rfl,_,rfl,x,Z.Game,dx,_,rfl,hx2,T.bU,T.cP,(by show 0<1000;decide),?_⟩;have eu':(upd H2 x (.ins Z.Game dx (cX "field" (.ref y) []))) l=some (.lst us):=by rw[aN nlx];exact eu
  refine⟨_,rfl,l,_,rfl,.inl (SqL.of eu'),fun hd' nhd=>?_⟩;have nhx:hd'≠x:=fun z=>by rw[z,aC] at nhd;cases nhd
  have nh2:H2 hd'=none:=by rwa[aN nhx] at nhd
  refine⟨_,rfl,x,Z.Game,dx,_,rfl,(by rw[aN nhx.symm];exact aC),T.bU,T.fj,(by show 1<1000;decide),fun d nd=>?_⟩;have ndx:d≠x:=fun z=>by rw[z,aC] at nd;cases nd
  have ndh:d≠hd':=fun z=>by rw[z,aN nhx,aC] at nd;cases nd
  have nd2:H2 d=none:=by rwa[aN ndx,aN ndh,aN ndx] at nd
  refine⟨_,rfl,x,Z.Game,dx,_,rfl,(by rw[aN ndx.symm];exact aC),T.bU,T.cu,a0N,?_⟩;refine⟨_,rfl,x,Z.Game,dx,_,rfl,aC,T.bU,T.iZ,a0O,?_⟩;have keep:∀ b o,H2 b=some o->b≠x->(upd (upd (upd (upd (upd (upd H2 x (.ins Z.Game dx (cX "field" (.ref y) []))) hd' (.lst us)) x (.ins Z.Game dx (cX "hidden" (.ref hd') (cX "field" (.ref y) [])))) d (.dT [])) x (.ins Z.Game dx (cX "figures" (.ref d) (cX "hidden" (.ref hd') (cX "field" (.ref y) []))))) x (.ins Z.Game dx (iI y hd' d false))) b=some o:=fun b o e nb=>by
   rw[aN nb,aN nb,aN (aQ e nd2),aN nb,aN (aQ e nh2),aN nb];exact e
  have tp:vI H2 (upd (upd (upd (upd (upd (upd H2 x (.ins Z.Game dx (cX "field" (.ref y) []))) hd' (.lst us)) x (.ins Z.Game dx (cX "hidden" (.ref hd') (cX "field" (.ref y) [])))) d (.dT [])) x (.ins Z.Game dx (cX "figures" (.ref d) (cX "hidden" (.ref hd') (cX "field" (.ref y) []))))) x (.ins Z.Game dx (iI y hd' d false))):=fun b xs e=>keep b _ e (fB e hx2 (by intro z;cases z))
  refine hq hsz hlay _ y hd' d ny (s2.free nh2) (s2.free nd2) ndh.symm nyx nhx ndx ⟨⟨dx,aC⟩,⟨⟨dy,ly,keep _ _ hy2 nyx,keep _ _ a0W a2s⟩,vt2.vw⟩,⟨us,?_,tp.cells Du⟩,?_⟩ (fun b o e nb=>keep b o (s2 _ _ e) nb)
  ·rw[aN nhx,aN nhx,aN ndh.symm,aN nhx,aC]
  ·rw[aN ndx,aN ndx,aC];rfl
theorem Qa{f:Addr}{fd:FuncData} (F:Fun K "state" "Game.state" pF f fd) (T:Txt K mg Z):cF P w K mg base (CXE P w) 1 f fd ["self"] (mj K Z.Game Z.View):=by
 refine F.rok BW (fun vs H Q E h=>?_) (fun cdv A outer s H vs Q E hr h=>?_)
 ·obtain⟨g,h,w,st,kn,lost,f,hd,d,rfl,_⟩:=h;rfl
 ·obtain⟨g,h,w,st,kn,lost,f,hd,d,rfl,G,hq⟩:=h;have hu:=jQ hr;obtain⟨dx,hg⟩:=G.ob;obtain⟨dy,ly,hf,hly⟩:=G.fl.ob;obtain⟨us,eu,Du⟩:=G.hs;have w6:=G.fl.vw.w6;have h6:=G.fl.vw.le;rw[eF] at h6 hf;refine⟨_,(aA (dF (iR (cO (K:=K) (rv 0))) (aD (bx gM)) bL) (aA (dF (bJ (o7.or (nW (K:=K) hu)) (gW gJ (bF (Rv (K:=K)) rfl T.gH dY (aj (cO (K:=K) (rv 0)) ao)) (bF (Rv (K:=K)) rfl T.gH dY (aj (cO (K:=K) (rv 0)) ao))) (gW mL (cO (K:=K) (cO (K:=K) (rv 0))) (cO (K:=K) (cO (K:=K) (rv 0)))) (c7 _)) (aD (bx gM)) bL) (aD (bx gM)))),?_⟩;refine jE G (fun _ q=>⟨_,rfl,q⟩) T.bU T.iZ (Z2 _ _ _ _) ⟨_,rfl,?_⟩;unfold ig at hq;refine cN (fun h1=>?_) (fun h1=>?_)
  ·rw[aJ h1] at hq;exact hq
  rw[aG (by rw[h1];decide)] at hq;refine⟨_,rfl,g,Z.Game,dx,_,_,rfl,hg,T.bU,T.cu,lC _ _ _ _,.inr ⟨d,_,rfl,G.dc,?_⟩⟩;refine⟨_,rfl,g,Z.Game,dx,_,_,rfl,hg,T.bU,T.fj,zp _ _ _ _,.inl (.inl ⟨hd,_,rfl,.inl (SqL.of eu),?_⟩)⟩;refine⟨_,rfl,g,Z.Game,dx,_,_,rfl,hg,T.bU,T.cP,oY _ _ _ _,f,Z.View,dy,_,_,rfl,hf,T.dZ,T.d9,qG _ _ _,?_⟩;refine⟨_,rfl,g,Z.Game,dx,_,_,rfl,hg,T.bU,T.cP,oY _ _ _ _,f,Z.View,dy,_,_,rfl,hf,T.dZ,T.dO,uD _ _ _,.inl ⟨by lia,by lia⟩,.inl ⟨rfl,_,rfl,?_⟩⟩;have l1:(lN h w st kn).length=kn.length:=by unfold lN;rw[aZ]
  have l2:us.length=st.length:=by rw[Du.length,aZ]
  rw[wX,l1,l2];have ed:decide (((kn.length:Nat):Int)+((st.length:Nat):Int)=(h:Int)*(w:Int))=decide (kn.length+st.length=h*w):=by
   rw[vo];lia
  rw[ed];refine cN (fun h2=>?_) (fun h2=>?_)
  ·rw[aJ (cJ h2)] at hq;exact hq
  ·rw[aG (jl h2)] at hq;exact hq
theorem Sd{f:Addr}{fd:FuncData} (F:Fun K "view" "Game.view" qP f fd) (T:Txt K mg Z) (vG:Md P w K mg base 3 "View" ["self","rows"] Z.View (Ku K Z.View Z.BadView)):cF P w K mg base (CXE P w) 5 f fd ["self"] (mR K Z.Game Z.View):=by
 refine F.rok kW (fun vs H Q E h=>?_) (fun cdv A outer s H vs Q E hr h=>?_)
 ·obtain⟨g,h,w,st,kn,lost,f,hd,d,rfl,_⟩:=h;rfl
 ·obtain⟨g,h,w,st,kn,lost,f,hd,d,rfl,G,hq⟩:=h;have hu:=jQ hr;have w1:=G.fl.vw.w1;have w6:=G.fl.vw.w6;have h6:=G.fl.vw.le;have h1:=G.fl.vw.toRect.head;rw[eF] at h6;have h1:1<=h:=by
   obtain⟨z,zt,e,_⟩:=h1;have:=congrArg List.length e;rw[eF,fX] at this;lia
  refine⟨_,(aA (bK (i:=1) kW.nd rfl (Or.inl rfl) (fG ao)) (aA (dw fY rfl (iC rfl T.iy (aj (cO (K:=K) (cO (K:=K) (rv 0))) ao)) (bQ (i:=2) kW.nd rfl (Or.inr rfl)) (aA (yx (i:=3) kW.nd rfl rfl (by rfl) rfl (iC rfl T.iy (aj (cO (K:=K) (cO (K:=K) (rv 0))) ao)) (fun _ _ _=>uP) (fun _ _ _=>(lV Oe rfl T.Y6 YD (aj (NP hu (cO (K:=K) (rv 1)) (mO (aj (rv 3) (aj (rv 0) ao))) (Es T.dU rfl) ⟨by rfl,by rfl,by rfl,by rfl⟩) ao)))) (aD (eY (lR (K:=K) jZ pX pY eG (rv 1) (aj (lR (K:=K) PySem.F.plainAttrs_str PySem.F.slot_str_join PySem.F.type_str_join (Zc (K:=K)) gM (aj (rv 3) ao)) ao)))))) (aD (bx (Kc vG hr rfl aR (aj (rv 1) ao)))))),?_⟩;refine aF (fun zzs H1=>∃ p:Addr,H p=none/\Same H H1/\H1 p=some (.lst [])/\zzs=[zzR g,zzR p,zzN,zzN]) (fun R hR=>?_) ?_
  ·exact⟨by decide,fun p hp=>hR _ _ ⟨p,hp,Same.put hp,aC,rfl⟩⟩
  rintro zzs H1 ⟨p,np,s1,hp1,rfl⟩;refine aF (fun zzs H2=>∃ v2 v3:Option V,Same H H2/\H2 p=some (.lst ((aO h w st kn).map V.str))/\zzs=[zzR g,zzR p,v2,v3]) (fun R hR=>?_) ?_
  ·obtain⟨dx,hg⟩:=(G.mono s1).ob;obtain⟨dy,ly,hf,hly⟩:=(G.mono s1).fl.ob;rw[eF] at hf;refine⟨_,rfl,g,Z.Game,dx,_,_,rfl,hg,T.bU,T.cP,oY _ _ _ _,f,Z.View,dy,_,_,rfl,hf,T.dZ,T.d9,qG _ _ _,_,rfl,by lia,by lia,?_⟩;rw[jm];refine gA (lo:=0) (n:=h) (fun i zzs H2=>∃ v2 v3:Option V,Same H H2/\H2 p=some (.lst (((List.range i).map fun r:Nat=>uQ h w st kn (r:Int) w).map V.str))/\zzs=[zzR g,zzR p,v2,v3]) ⟨none,none,s1,hp1,rfl⟩ (fun i zzs H2 hi hh=>?_) (fun zzs H2 hh=>?_)
   ·obtain⟨v2,v3,g1,g2,rfl⟩:=hh;have hi:i<h:=hi;refine aF (fun zzs H4=>∃ q:Addr,Same H2 H4/\H4 q=some (.lst (((List.range w).map fun c:Nat=>(⟨#[qe h w st kn ((i:Int),(c:Int))]⟩:Str)).map V.str))/\zzs=[zzR g,zzR p,zzI (0+i),zzR q]) (fun R' hR'=>?_) ?_
    ·obtain⟨dx,hg⟩:=(G.mono g1).ob;obtain⟨dy,ly,hf,hly⟩:=(G.mono g1).fl.ob;rw[eF] at hf;refine⟨_,rfl,g,Z.Game,dx,_,_,rfl,hg,T.bU,T.cP,oY _ _ _ _,f,Z.View,dy,_,_,rfl,hf,T.dZ,T.dO,uD _ _ _,_,rfl,by lia,by lia,?_⟩;rw[jm];refine Ju (lo:=0) (n:=w) (fun k ys H4=>Same H2 H4/\ys=((List.range k).map fun c:Nat=>(⟨#[qe h w st kn ((i:Int),(c:Int))]⟩:Str)).map V.str) (small (by lia)) (fun k ys H4 _ h=>?_) ⟨Same.refl _,rfl⟩ (fun k ys H4 hk h G' hG=>?_) (fun ys H4 h q hq'=>?_)
     ·obtain⟨_,rfl⟩:=h;rw[aZ,aZ,jM];exact bB _
     ·obtain⟨t1,rfl⟩:=h;have GG:=G.mono (g1.trans t1);obtain⟨dx,hg⟩:=GG.ob;refine a2J ⟨_,rfl,g,Z.Game,dx,_,_,rfl,hg,T.bU,T.cu,lC _ _ _ _,d,rfl,.inr ⟨_,.inl GG.dc⟩,_,rfl,_,rfl,sz rfl,fun t ht=>?_⟩;have st1:=Same.put (o:=.tup [V.int (0+(i:Int)),V.int (0+(k:Int))]) ht;have et:(upd H4 t (.tup [V.int (0+(i:Int)),V.int (0+(k:Int))])) t=some (.tup ((eO ((i:Int),(k:Int))).map kV)):=by
       rw[aC,u6,u6];rfl
      refine⟨_,oH.t (st1 _ _ GG.dc) et,?_⟩;rw[nQ];have fin:∀ H5,Same H4 H5->G' (((List.range k).map fun c:Nat=>(⟨#[qe h w st kn ((i:Int),(c:Int))]⟩:Str)).map V.str++[.str ⟨#[qe h w st kn ((i:Int),(k:Int))]⟩]) H5:=fun H5 s5=>hG _ _ ⟨t1.trans s5,by rw[xU,eE,eE];rfl⟩
      by_cases hm:((i:Int),(k:Int))∈kn
      ·rw[aJ hm];have f8:=N7 h w st ((i:Int),(k:Int));have:=fin _ st1;have es:qe h w st kn ((i:Int),(k:Int))=48+oX h w st ((i:Int),(k:Int)):=by unfold qe;rw[aJ hm]
       rw[es,<- dig _ f8] at this;exact .inl ⟨_,rfl,W3 _ f8,this⟩
      ·rw[aG hm];have:=fin _ st1;have es:qe h w st kn ((i:Int),(k:Int))=35:=by unfold qe;rw[aG hm]
       have eh:(⟨#[35]⟩:Str) = "#":=by decide +kernel
       rw[es,eh] at this;exact .inr ⟨_,rfl,this⟩
     ·obtain⟨t1,rfl⟩:=h;exact hR' _ _ ⟨q,t1.and hq',aC,rfl⟩
    rintro zzs H4 ⟨q,s4,hq4,rfl⟩;have hp4:=s4 _ _ g2;refine⟨_,rfl,.inl ⟨rfl,_,SqL.of hp4⟩,rfl,_,rfl,?_⟩;refine⟨"",q,_,rfl,rfl,SqL.of hq4,?_,?_⟩
    ·have e0:("" : Str).length=0:=by decide
     rw[e0];have:∀ l:List Nat,((l.map fun c:Nat=>(⟨#[qe h w st kn ((i:Int),(c:Int))]⟩:Str)).map (·.length)).sum=l.length:=by
      intro l
      induction l with
      |nil=>rfl
      |cons a l ih=>rw[dM,dM,Bh,ih,fX];show 1+l.length=_;lia
     rw[this,aZ,jM];lia
    refine⟨p,_,_,rfl,rfl,hp4,ltl (by rw[aZ,aZ,jM];lia),?_⟩;refine⟨_,_,(SameBut.refl p _).put.of (g1.trans s4) np,?_,rfl⟩;rw[aC,Rt,xU,eE,eE];rfl
   ·obtain⟨v2,v3,g1,g2,rfl⟩:=hh;exact hR _ _ ⟨v2,v3,g1,g2,rfl⟩
  rintro zzs H2 ⟨v2,v3,s2,hp2,rfl⟩;have vw:Vw (aO h w st kn) w:=uW h1 h6 w1 w6;refine⟨_,rfl,fun y dy ny ndy ney=>?_⟩;have n2:(upd H2 dy (.own y)) y=none:=by rw[aN ney.symm];exact ny
  have s6:=(Same.put (o:=.own y) ndy).and (o:=.ins Z.View dy []) n2;have ll:(aO h w st kn).length=h:=by unfold aO;rw[aZ,jM]
  refine⟨y,dy,p,aO h w st kn,rfl,aC,SqL.of (s6 _ _ hp2),by lia,fun r hr'=>by have:=vw.len r hr';lia,fun hv=>(by rw[vw.ok] at hv;cases hv),fun _ H' lr z0' zt' e nlr nlx hlr hx' keep=>⟨rfl,?_⟩⟩;have e0:z0'.length=w:=vw.len z0' (by rw[e];exact cZ);have n1:H y=none:=s2.free ny;refine hq y _ n1 (fun b o hb=>keep b o (s6 _ _ (s2 _ _ hb)) (aQ hb n1)) ⟨⟨dy,lr,?_,hlr⟩,vw⟩;rw[e0] at hx';exact hx'
end
theorem Pn{K:ak}{C CV:Addr}{H H':Hp}{g:Addr}{h w:Nat}{st kn kn':List Cell}{lost:Bool}{f hd d:Addr}(G:bT K C CV H g h w st kn lost f hd d)(s:SameBut d H H')(e:H' d=some (.dT (lN h w st kn'))):bT K C CV H' g h w st kn' lost f hd d:=by
 obtain⟨dx,e0⟩:=G.ob;obtain⟨dy,ly,e1,e2⟩:=G.fl.ob;obtain⟨us,e3,D⟩:=G.hs;have tp:vI H H':=fun b xs eb=>s _ _ eb (fB eb G.dc (by intro z;cases z))
 exact⟨⟨dx,s _ _ e0 (fB e0 G.dc (by intro z;cases z))⟩,⟨⟨dy,ly,s _ _ e1 (fB e1 G.dc (by intro z;cases z)),s _ _ e2 (fB e2 G.dc (by intro z;cases z))⟩,G.fl.vw⟩,⟨us,s _ _ e3 (fB e3 G.dc (by intro z;cases z)),tp.cells D⟩,e⟩
theorem Pg(h w:Int)(st kn:List Cell)(c:Cell)(nc:c∉kn):putK (lN h w st kn) (eO c) (.int (oX h w st c))=lN h w st (kn++[c]):=by
 rw[zQ _ (by rw[nQ,aG nc])];unfold lN;rw[eE];rfl
structure lH(h w:Int)(st kn:List Cell)(c:Cell)(wt op:List Cell):Prop where
 nd:op.Nodup
 new:∀ y∈op,y∉kn
 rch:∀ y∈op,Reach h w st kn c y
 wtr:∀ y∈wt,inF h w y/\(y∈kn\/Reach h w st kn c y)
 has:c∈op\/c∈wt
 cl:∀ x∈op,oX h w st x=0->∀ y∈fO h w x,y∈kn\/y∈op\/y∈wt
 ln:wt.length<=1+8*op.length
theorem lH.start{h w:Int}{st kn:List Cell}{c:Cell}(hc:inF h w c):lH h w st kn c [c] []:=
 ⟨by simp,fun y hy=>(by cases hy),fun y hy=>(by cases hy),fun y hy=>(by rw[cL.mp hy];exact⟨hc,.inr .base⟩),.inr (cL.mpr rfl),fun x hx=>(by cases hx),by simp⟩
theorem lH.skip{h w:Int}{st kn wt op:List Cell}{c m:Cell}(u:lH h w st kn c (wt++[m]) op)(hm:m∈kn++op)(nc:c∉kn):lH h w st kn c wt op:=by
 have old:∀ y,y∈wt++[m]->y∈wt\/y=m:=fun y hy=>(cB.mp hy).imp id fun z=>cL.mp z
 refine⟨u.nd,u.new,u.rch,fun y hy=>u.wtr y (fW _ hy),?_,fun x hx e y hy=>?_,by have:=u.ln;rw[cC,jK] at this;lia⟩
 ·rcases u.has with z|z
  ·exact .inl z
  ·rcases old _ z with z|z
   ·exact .inr z
   ·subst z;rcases cB.mp hm with q|q
    ·exact absurd q nc
    ·exact .inl q
 ·rcases u.cl x hx e y hy with z|z|z
  ·exact .inl z
  ·exact .inr (.inl z)
  ·rcases old _ z with z|z
   ·exact .inr (.inr z)
   ·subst z;rcases cB.mp hm with q|q
    ·exact .inl q
    ·exact .inr (.inl q)
theorem lH.Sy{h w:Int}{st kn wt op:List Cell}{c m:Cell}(u:lH h w st kn c (wt++[m]) op)(hm:m∉kn++op)(more:List Cell)(hz:oX h w st m=0->more=fO h w m)(hn:oX h w st m≠0->more=[]):lH h w st kn c (wt++more) (op++[m]):=by
 have nk:m∉kn:=fun z=>hm (fW _ z)
 have no:m∉op:=fun z=>hm (fV _ z)
 have mr:inF h w m/\Reach h w st kn c m:=by
  obtain⟨a,b⟩:=u.wtr m (fV _ (cL.mpr rfl));exact⟨a,b.resolve_left nk⟩
 have old:∀ y,y∈wt++[m]->y∈wt\/y=m:=fun y hy=>(cB.mp hy).imp id fun z=>cL.mp z
 have lm:more.length<=8:=by
  by_cases e:oX h w st m=0
  ·rw[hz e];exact iB h w m
  ·rw[hn e];exact mG _
 refine⟨?_,fun y hy=>?_,fun y hy=>?_,fun y hy=>?_,?_,fun x hx e y hy=>?_,?_⟩
 ·exact vm.mpr ⟨u.nd,by simp,fun a ha b hb e=>no (by rw[<- cL.mp hb,<- e];exact ha)⟩
 ·rcases cB.mp hy with z|z
  ·exact u.new y z
  ·rw[cL.mp z];exact nk
 ·rcases cB.mp hy with z|z
  ·exact u.rch y z
  ·rw[cL.mp z];exact mr.2
 ·rcases cB.mp hy with z|z
  ·exact u.wtr y (fW _ z)
  ·by_cases e:oX h w st m=0
   ·rw[hz e] at z;refine⟨qK z,?_⟩;by_cases yk:y∈kn
    ·exact .inl yk
    ·exact .inr (.step mr.2 e z yk)
   ·rw[hn e] at z;cases z
 ·rcases u.has with z|z
  ·exact .inl (fW _ z)
  ·rcases old _ z with z|z
   ·exact .inr (fW _ z)
   ·exact .inl (fV _ (cL.mpr z))
 ·rcases cB.mp hx with z|z
  ·rcases u.cl x z e y hy with q|q|q
   ·exact .inl q
   ·exact .inr (.inl (fW _ q))
   ·rcases old _ q with q|q
    ·exact .inr (.inr (fW _ q))
    ·exact .inr (.inl (fV _ (cL.mpr q)))
  ·rw[cL.mp z] at e hy;exact .inr (.inr (fV _ (by rw[hz e];exact hy)))
 ·have:=u.ln;rw[cC,jK] at this;rw[cC,cC,jK];lia
theorem lH.done{h w:Int}{st kn op:List Cell}{c:Cell}(u:lH h w st kn c [] op)(y:Cell):y∈op↔Reach h w st kn c y:=by
 refine⟨u.rch y,fun r=>?_⟩
 induction r with
 |base=>exact u.has.resolve_right (by intro z;cases z)
 |step _ e hy hk ih=>
  rcases u.cl _ ih e _ hy with z|z|z
  ·exact absurd z hk
  ·exact z
  ·cases z
theorem lH.len{h w:Nat}{st kn wt op:List Cell}{c:Cell}(u:lH h w st kn c wt op)(hc:inF h w c)(h6:h<=6)(w6:w<=6):op.length<=36:=by
 have:=nZ (l2:=bI h w) u.nd fun y hy=>bM.mpr ((u.rch y hy).inF hc)
 rw[fK] at this;have:h*w<=6*6:=mF h6 w6;lia
theorem Tg(f h d:Addr)(b:Bool):cX "lost" (.bl true) (iI f h d b)=iI f h d true:=by
 cases b<;>rfl
theorem Pq{K:ak}{C CV:Addr}{H H':Hp}{g dx:Addr}{h w:Nat}{st kn:List Cell}{lost:Bool}{f hd d:Addr}(G:bT K C CV H g h w st kn lost f hd d)(s:SameBut g H H')(e:H' g=some (.ins C dx (iI f hd d true))):bT K C CV H' g h w st kn true f hd d:=by
 obtain⟨dx0,e0⟩:=G.ob;obtain⟨dy,ly,e1,e2⟩:=G.fl.ob;obtain⟨us,e3,D⟩:=G.hs;have nf:f≠g:=by
  intro z;rw[z,e0] at e1;injection e1 with e1;injection e1 with _ _ e1;have this:List.lookup ("rows" : Str) (iI f hd d lost)=List.lookup ("rows" : Str) (uz ly (gD h w).length w):=by rw[e1]
  rw[JC,JG _ _ _ _ (by decide +kernel) (by decide +kernel) (by decide +kernel) (by decide +kernel)] at this;cases this
 have tp:vI H H':=fun b xs eb=>s _ _ eb (fB eb e0 (by intro z;cases z))
 exact⟨⟨dx,e⟩,⟨⟨dy,ly,s _ _ e1 nf,s _ _ e2 (fB e2 e0 (by intro z;cases z))⟩,G.fl.vw⟩,⟨us,s _ _ e3 (fB e3 e0 (by intro z;cases z)),tp.cells D⟩,s _ _ G.dc (fB G.dc e0 (by intro z;cases z))⟩
theorem a2f{f h d:Addr}{b:Bool}:(iI f h d b).length<1000:=by
 unfold iI;have h1:=dj "lost" (.bl b) (cX "figures" (.ref d) (cX "hidden" (.ref h) (cX "field" (.ref f) [])));have h2:=a0O (a:="figures") (b:="hidden") (c:="field") (v:=.ref d) (u:=.ref h) (z:=.ref f);have h3:=dj "figures" (.ref d) (cX "hidden" (.ref h) (cX "field" (.ref f) []));have h4:=dj "hidden" (.ref h) (cX "field" (.ref f) []);have h5:=dj "field" (.ref f) [];simp only[xT] at h5;lia
def oE(K:ak)(C CV OV NC:Addr):Sp:=fun vs H Q E=>∃(g:Addr)(v:V)(h w:Nat)(st kn:List Cell)(lost:Bool)(f hd d:Addr)(c:Cell),vs=[.ref g,v]/\bT K C CV H g h w st kn lost f hd d/\Den K H v (au c)/\kn.length<=36 /\
 (ig h w st kn lost ≠ "on" -> ∀ H',Same H H'->E (.ref OV) none H') /\
 (ig h w st kn lost = "on" -> ¬(inF h w c/\c∉kn)->∀ H',Same H H'->E (.ref NC) none H') /\
 (ig h w st kn lost = "on" -> inF h w c->c∉kn->c∈st->∀ H',SameBut g H H'->bT K C CV H' g h w st kn true f hd d->Q .non H') /\
 (ig h w st kn lost = "on" -> inF h w c->c∉kn->c∉st->∀(q:Addr)(H':Hp)(op ds:List Cell),H q=none->SameBut d H H'->bT K C CV H' g h w st (kn++op) lost f hd d->Ls K H' q (ds.map au)->ds.Perm op->Asc ds->op.Nodup->(∀ y,y∈op↔Reach h w st kn c y)->Q (.ref q) H')
theorem oE.mk{K:ak}{C CV OV NC:Addr}{H:Hp}{Q:VK}{E:XK}{g:Addr}{v:V}{h w:Nat}{st kn:List Cell}{lost:Bool}{f hd d:Addr}{c:Cell}(G:bT K C CV H g h w st kn lost f hd d)(dv:Den K H v (au c))(kl:kn.length<=36) (e1:(ig h w st kn lost ≠ "on" -> ∀ H',Same H H'->E (.ref OV) none H')) (e2:(ig h w st kn lost = "on" -> ¬(inF h w c/\c∉kn)->∀ H',Same H H'->E (.ref NC) none H')) (q1:(ig h w st kn lost = "on" -> inF h w c->c∉kn->c∈st->∀ H',SameBut g H H'->bT K C CV H' g h w st kn true f hd d->Q .non H')) (q2:(ig h w st kn lost = "on" -> inF h w c->c∉kn->c∉st->∀(q:Addr)(H':Hp)(op ds:List Cell),H q=none->SameBut d H H'->bT K C CV H' g h w st (kn++op) lost f hd d->Ls K H' q (ds.map au)->ds.Perm op->Asc ds->op.Nodup->(∀ y,y∈op↔Reach h w st kn c y)->Q (.ref q) H')):oE K C CV OV NC [.ref g,v] H Q E:=⟨g,v,h,w,st,kn,lost,f,hd,d,c,rfl,G,dv,kl,e1,e2,q1,q2⟩
theorem Ak.mk{K:ak}{C x:Addr}{H:Hp}{Q:VK}{E:XK}{v:V}{zs:List Str}{w:Nat}{c:Cell}(vt:bW C H x zs w)(dv:Den K H v (au c))(q:Q (.bl (decide (inF zs.length w c))) H):Ak K C [.ref x,v] H Q E:=⟨x,v,zs,w,c,rfl,vt,dv,q⟩
theorem oA.mk{K:ak}{C x l:Addr}{H:Hp}{Q:VK}{E:XK}{v:V}{zs:List Str}{w:Nat}{c:Cell}{cs:List Cell}(vt:bW C H x zs w)(dv:Den K H v (au c))(hin:inF zs.length w c)(hl:Ls K H l (cs.map au))(q:∀ H',Same H H'->Q (.int (mW zs.length w c cs)) H'):oA K C [.ref x,v,.ref l] H Q E:=⟨x,l,v,zs,w,c,cs,rfl,vt,dv,hin,hl,q⟩
theorem mU.mk{K:ak}{C NC x:Addr}{H:Hp}{Q:VK}{E:XK}{v:V}{zs:List Str}{w:Nat}{c:Cell}(vt:bW C H x zs w)(dv:Den K H v (au c))(hin:inF zs.length w c)(q:∀ q H',Fr K H H' q ((fO zs.length w c).map au)->Q (.ref q) H'):mU K C NC [.ref x,v] H Q E:=⟨x,v,zs,w,c,rfl,vt,dv,fun _=>q,fun z=>absurd hin z⟩
section
variable{P:Program}{w:World}{K:ak}{mg:Str->Option Value}{base:Heap}{Z:Adr}
theorem K3{f:Addr}{fd:FuncData} (F:Fun K "uncover" "Game.uncover" lX f fd) (T:Txt K mg Z) (iw:Mth P w K mg base 1 Z.Game "state" ["self"] (mj K Z.Game Z.View)) (gb:Df P w K mg base 1 "has_cell" ["view","cell"] (Ak K Z.View))
  (gw:Df P w K mg base 3 "stones_near" ["view","cell","laying"] (oA K Z.View)) (jP:Df P w K mg base 2 "near" ["view","cell"] (mU K Z.View Z.NoCell)):cF P w K mg base (CXE P w) 4 f fd ["self","cell"] (oE K Z.Game Z.View Z.Over Z.NoCell):=by
 refine F.Ey iM (fun vs H Q E h=>?_) (fun cdv A outer s H vs Q E hr h=>?_)
 ·obtain⟨g,v,h,w,st,kn,lost,f,hd,d,c,rfl,_⟩:=h;rfl
 ·obtain⟨g,v,h,w,st,kn,lost,fl,hh,d,c,rfl,G,dv,kl,e1,e2,q1,q2⟩:=h;have hd:=zA hr;have hu:=jQ hr;have hu':=Hy hr;have w6:=G.fl.vw.w6;have h6:=G.fl.vw.le;rw[eF] at h6;obtain⟨dx,hg⟩:=G.ob;obtain⟨tv,rfl,_,htv⟩:=cV dv;refine⟨_,(aA (dF (RT.nox (bJ (Ig.or (Hz (K:=K) hu)) (uO iw hr aR (rv 0)) gM (c7 _))) (aD (gY T.Fo rfl T.R0 hd (aj gM ao))) bL) (aA (dF (RT.nox (Ab (NQ (lW (iR (aX gb hr rfl aR (aj (cO (K:=K) (rv 0)) (aj (rv 1) ao))))) (Et (bJ (Qf hu) (rv 1) (cO (K:=K) (rv 0)) (by rfl)))))) (aD (gY T.mq rfl T.qD hd (aj gM ao))) bL) (aA (RS.nox (dF (bJ (j6.or (wZ (K:=K) hu')) (rv 1) (cO (K:=K) (rv 0)) (by rfl)) (aA (qO (rv 0) pC) (aD (bx CT))) bL)) (aA (RS.nox (bK (i:=2) iM.nd rfl (Or.inl rfl) (fG ao))) (aA (RS.nox (bK (i:=3) iM.nd rfl (Or.inl rfl) (fG (aj (rv 1) ao)))) (aA (RS.nox (Iw fY (bJ CN (bF (iD (K:=K)) rfl T.gH dY (aj (rv 3) ao)) aM (c7 _)) (aA (bK (i:=4) iM.nd rfl (Or.inl rfl) (RD (K:=K) jZ Vc Vd RW (rv 3))) (aD (dF (bJ (pq hu) (rv 4) (cO (K:=K) (rv 0)) (by rfl)) (aA (Aa (aX gw hr rfl aR (aj (cO (K:=K) (rv 0)) (aj (rv 4) (aj (cO (K:=K) (rv 0)) ao)))) (Ew (cO (K:=K) (rv 0)) (rv 4) (set_dict hu))) (aA (eY (lR (K:=K) jZ pX pY eG (rv 2) (aj (rv 4) ao))) (aD (dF (bJ (o7.or (nW (K:=K) hu)) (fP (uF hu) (cO (K:=K) (rv 0)) (rv 4)) aM (c7 _)) (aD (eY (lR (K:=K) jZ UJ UL Q5 (rv 3) (aj (aX jP hr rfl aR (aj (cO (K:=K) (rv 0)) (aj (rv 4) ao))) ao)))) bL)))) bL))))) (aD (RS.nox (bx (bF (Ni (K:=K) hu) rfl T.lJ lB (aj (rv 2) ao))))))))))),?_⟩;refine aF (fun zzs H1=>H1=H/\ig h w st kn lost = "on" /\ zzs=[zzR g,zzR tv,zzN,zzN,zzN]) (fun R hR=>?_) ?_
  ·refine qM G (by decide +kernel) (fun _ q=>⟨_,rfl,q⟩) (mj.mk G (.inl ⟨rfl,_,rfl,?_⟩));have es:decide (V.str (ig h w st kn lost)=V.str "on")=decide (ig h w st kn lost = "on"):=by rw[vo];exact⟨fun z=>by injection z,fun z=>by rw[z]⟩
   rw[es];refine cN (fun hb=>⟨by decide,e1 (jl (by simpa only[jr] using hb)) _ (Same.refl _)⟩) (fun hb=>hR _ _ ⟨rfl,cJ (by simpa only[rG] using hb),rfl⟩)
  rintro zzs H ⟨rfl,son,rfl⟩;have a2S:lost=false:=by
   cases lost with
   |false=>rfl
   |true=>exact absurd son (by unfold ig;rw[aJ rfl];decide +kernel)
  have key:H tv=some (.tup ((eO c).map kV)):=htv;refine aF (fun zzs H1=>H1=H/\inF h w c/\c∉kn/\zzs=[zzR g,zzR tv,zzN,zzN,zzN]) (fun R hR=>?_) ?_
  ·refine jE G (fun _ q=>⟨_,rfl,q⟩) T.bU T.cP (oY _ _ _ _) ⟨_,rfl,?_⟩;dsimp only[nD];refine Ak.mk G.fl dv ⟨_,rfl,?_⟩;rw[eF];refine cN (fun hb=>⟨by decide,e2 son (fun z=>jl (by simpa only[jr] using hb) z.1) _ (Same.refl _)⟩) (fun hb=>?_);have hin:inF h w c:=cJ (by simpa only[rG] using hb);refine⟨_,rfl,jE G (fun _ q=>⟨_,rfl,q⟩) T.bU T.cu (lC _ _ _ _) ⟨d,_,rfl,oH.t G.dc key,_,rfl,?_⟩⟩;rw[nQ];by_cases hk:c∈kn
   ·rw[aJ hk];exact BJ ⟨by decide,e2 son (fun z=>z.2 hk) _ (Same.refl _)⟩
   ·rw[aG hk];exact qJ (hR _ _ ⟨rfl,hin,hk,rfl⟩)
  rintro zzs H ⟨rfl,hin,nk,rfl⟩;refine aF (fun zzs H1=>H1=H/\c∉st/\zzs=[zzR g,zzR tv,zzN,zzN,zzN]) (fun R hR=>?_) ?_
  ·refine⟨_,rfl,jE G (fun _ q=>⟨_,rfl,q⟩) T.bU T.fj (zp _ _ _ _) (.inr (zU dv G.hs.den ⟨_,rfl,?_⟩))⟩;refine cN (fun hb=>?_) (fun hb=>hR _ _ ⟨rfl,jl hb,rfl⟩);refine⟨_,rfl,g,Z.Game,dx,_,rfl,hg,T.bU,T.iZ,a2f,?_⟩;rw[Tg];have sb:SameBut g H (upd H g (.ins Z.Game dx (iI fl hh d true))):=(SameBut.refl g _).put;refine q1 son hin nk (cJ hb) _ sb (Pq G sb aC)
  rintro zzs H ⟨rfl,ns,rfl⟩;refine aF (fun zzs H1=>∃ ol:Addr,H ol=none/\Same H H1/\H1 ol=some (.lst [])/\zzs=[zzR g,zzR tv,zzR ol,zzN,zzN]) (fun R hR=>?_) ?_
  ·exact⟨by decide,fun ol nol=>hR _ _ ⟨ol,nol,Same.put nol,aC,rfl⟩⟩
  rintro zzs H1 ⟨ol,nol,s1,eol,rfl⟩;refine aF (fun zzs H2=>∃ wl:Addr,H wl=none/\ol≠wl/\Same H1 H2/\H2 wl=some (.lst [.ref tv])/\zzs=[zzR g,zzR tv,zzR ol,zzR wl,zzN]) (fun R hR=>?_) ?_
  ·exact⟨_,rfl,sz rfl,fun wl nwl=>hR _ _ ⟨wl,s1.free nwl,aQ eol nwl,Same.put nwl,aC,rfl⟩⟩
  rintro zzs H2 ⟨wl,nwl,now,s2,ewl,rfl⟩;have sd:=(s1.trans s2).but d;have nod:∀ a,H a=none->a≠d:=fun a z=>(aQ G.dc z).symm
  refine aF (fun zzs H3=>∃(op:List Cell)(v4:Option V),SameBut d H H3/\bT K Z.Game Z.View H3 g h w st (kn++op) lost fl hh d/\Ls K H3 ol (op.map au)/\lH h w st kn c [] op/\zzs=[zzR g,zzR tv,zzR ol,zzR wl,v4]) (fun R hR=>?_) ?_
  ·refine⟨fun m zzs H'=>∃(wt op:List Cell)(v4:Option V),SameBut d H H'/\bT K Z.Game Z.View H' g h w st (kn++op) lost fl hh d/\Ls K H' ol (op.map au)/\Ls K H' wl (wt.map au)/\lH h w st kn c wt op/\m=(36-op.length)*9+wt.length/\zzs=[zzR g,zzR tv,zzR ol,zzR wl,v4],
    ⟨_,[c],[],none,sd,by rw[rJ];exact G.mono (s1.trans s2),⟨[],s2 _ _ eol,.nil⟩,⟨_,ewl,.cons (dv.mono (s1.trans s2)) .nil⟩,.start hin,rfl,rfl⟩,?_⟩
   rintro m zzs H' ⟨wt,op,v4,sb,GG,lo,lw,ui,rfl,rfl⟩;obtain⟨xs,ex,D⟩:=id lw;have lx:xs.length=wt.length:=by rw[D.length,aZ]
   have o36:=ui.len hin h6 w6;have wln:=ui.ln;refine⟨_,rfl,.inl ⟨wl,_,rfl,.inl (SqL.of ex),_,_,rfl,rfl,_,rfl,?_⟩⟩;refine cN (fun hlt=>?_) (fun hlt=>?_)
   ·have hlt:(0:Int)<(xs.length:Int):=cJ hlt;obtain⟨wt,m,rfl⟩:∃ wt' m,wt=wt'++[m]:=by
     rcases Ve wt with z|⟨l,b,z⟩
     ·rw[z,xT] at lx;lia
     ·exact⟨l,b,by rw[z];simp⟩
    obtain⟨xs,u,rfl,Dx,du⟩:=vR D;obtain⟨tm,rfl,_,htm⟩:=cV du;have Wn:=(ui.wtr m (fV _ (cL.mpr rfl))).1;refine⟨fun bH H4=>∃(wt' op':List Cell)(v4:Option V),SameBut d H H4/\bT K Z.Game Z.View H4 g h w st (kn++op') lost fl hh d/\Ls K H4 ol (op'.map au)/\Ls K H4 wl (wt'.map au)/\lH h w st kn c wt' op'/\(36-op'.length)*9+wt'.length<(36-op.length)*9+(wt++[m]).length/\bH=[zzR g,zzR tv,zzR ol,zzR wl,v4],fun bH H4 hx=>?_,?_⟩
    ·obtain⟨wt',op',v4,a1,a2,a3,a4,a5,a6,rfl⟩:=hx;exact⟨_,a6,wt',op',v4,a1,a2,a3,a4,a5,rfl,rfl⟩
    have a2A:wl≠ol:=now.symm;have nwh:wl≠hh:=by
     obtain⟨us,e,_⟩:=G.hs;exact(aQ e nwl).symm
    have noh:ol≠hh:=by
     obtain⟨us,e,_⟩:=G.hs;exact(aQ e nol).symm
    refine aF (fun zzs H4=>SameBut d H H4/\bT K Z.Game Z.View H4 g h w st (kn++op) lost fl hh d/\Ls K H4 ol (op.map au)/\Ls K H4 wl (wt.map au)/\H4 tm=some (.tup [.int m.1,.int m.2])/\zzs=[zzR g,zzR tv,zzR ol,zzR wl,zzR tm]) (fun R' hR'=>?_) ?_
    ·refine⟨_,rfl,.inl ⟨rfl,_,SqL.of ex⟩,wl,_,V.ref tm,rfl,rfl,ex,(by simp),?_⟩;rw[Vk];have sw:SameBut wl H' (upd H' wl (.lst xs)):=(SameBut.refl wl _).put;refine hR' _ _ ⟨fun b o e nb=>sw b o (sb b o e nb) (aQ e nwl),zq GG sw ex D nwh,sw.ls ex now lo,⟨xs,aC,sw.cells ex Dx⟩,sw _ _ htm (fB htm ex (by intro z;cases z)),rfl⟩
    rintro zzs H4 ⟨b4,G4,lo4,lw4,ht4,rfl⟩;have k4:H4 tm=some (.tup ((eO m).map kV)):=ht4;obtain⟨dx4,hg4⟩:=G4.ob;refine⟨_,rfl,jE G4 (fun _ q=>⟨_,rfl,q⟩) T.bU T.cu (lC _ _ _ _) ⟨d,_,rfl,oH.t G4.dc k4,_,rfl,?_⟩⟩;rw[nQ];by_cases hk:m∈kn++op
    ·rw[aJ hk];exact qJ ⟨wt,op,_,b4,G4,lo4,lw4,ui.skip hk nk,by rw[cC,jK];lia,rfl⟩
    rw[aG hk];refine BJ ?_;have kl':(kn++op).length<=100:=by rw[cC];lia
    refine aF (fun zzs H5=>SameBut d H H5/\bT K Z.Game Z.View H5 g h w st (kn++(op++[m])) lost fl hh d/\Ls K H5 ol (op.map au)/\Ls K H5 wl (wt.map au)/\H5 tm=some (.tup [.int m.1,.int m.2])/\zzs=[zzR g,zzR tv,zzR ol,zzR wl,zzR tm]) (fun R' hR'=>?_) ?_
    ·refine jE G4 (fun _ q=>⟨_,rfl,q⟩) T.bU T.cP (oY _ _ _ _) ⟨_,rfl,jE G4 (fun _ q=>⟨_,rfl,q⟩) T.bU T.fj (zp _ _ _ _) ?_⟩;dsimp only[nD];have dm4:Den K H4 (.ref tm) (au m):=.tup ht4 (.cons (.int _) (.cons (.int _) .nil));refine oA.mk G4.fl dm4 (by rw[eF];exact Wn) G4.hs fun H5 s5=>?_
     rw[eF];have G5:=G4.mono s5;refine jE G5 (fun _ q=>⟨_,rfl,q⟩) T.bU T.cu (lC _ _ _ _) ⟨_,rfl,d,_,rfl,Jf.t G5.dc (s5 _ _ k4) (ltl (by unfold lN;rw[aZ];lia)),?_⟩;have ef:putK (lN h w st (kn++op)) (eO m) (.int (mW h w m st))=lN h w st (kn++(op++[m])):=by
      rw[<- vh];exact Pg h w st (kn++op) m hk
     rw[ef];have sdd:SameBut d H5 (upd H5 d (.dT (lN h w st (kn++(op++[m]))))):=(SameBut.refl d _).put;have tp:vI H5 (upd H5 d (.dT (lN h w st (kn++(op++[m]))))):=.put G5.dc (by intro xs z;cases z);have lsd:∀(a:Addr)(cs:List Cell),a≠d->Ls K H5 a (cs.map au)->Ls K (upd H5 d (.dT (lN h w st (kn++(op++[m]))))) a (cs.map au):=fun a cs na ⟨zs,ez,Dz⟩=>⟨zs,by rw[aN na];exact ez,tp.cells Dz⟩
     exact hR' _ _ ⟨(b4.trans (s5.but d)).trans sdd,Pn G5 sdd aC,lsd ol op (nod _ nol) (lo4.mono s5),lsd wl wt (nod _ nwl) (lw4.mono s5),tp _ _ (s5 _ _ ht4),rfl⟩
    rintro zzs H5 ⟨b5,G5,lo5,lw5,ht5,rfl⟩;have dm5:Den K H5 (.ref tm) (au m):=.tup ht5 (.cons (.int _) (.cons (.int _) .nil));refine aF (fun zzs H6=>SameBut d H H6/\bT K Z.Game Z.View H6 g h w st (kn++(op++[m])) lost fl hh d/\Ls K H6 ol ((op++[m]).map au)/\Ls K H6 wl (wt.map au)/\H6 tm=some (.tup [.int m.1,.int m.2])/\zzs=[zzR g,zzR tv,zzR ol,zzR wl,zzR tm]) (fun R' hR'=>?_) ?_
    ·obtain⟨os,eo,Do⟩:=id lo5;have lo':os.length=op.length:=by rw[Do.length,aZ]
     refine⟨_,rfl,.inl ⟨rfl,_,SqL.of eo⟩,_,rfl,ol,os,_,rfl,rfl,eo,ltl (by lia),?_⟩;have sw:SameBut ol H5 (upd H5 ol (.lst (os++[V.ref tm]))):=(SameBut.refl ol _).put;refine hR' _ _ ⟨fun b o e nb=>sw b o (b5 b o e nb) (aQ e nol),zq G5 sw eo Do noh,⟨_,aC,?_⟩,sw.ls eo a2A lw5,sw _ _ ht5 (fB ht5 eo (by intro z;cases z)),rfl⟩;rw[eE];exact(sw.cells eo Do).append (.cons (sw.cell eo dm5) .nil)
    rintro zzs H6 ⟨b6,G6,lo6,lw6,ht6,rfl⟩;have k6:H6 tm=some (.tup ((eO m).map kV)):=ht6;have dm6:Den K H6 (.ref tm) (au m):=.tup ht6 (.cons (.int _) (.cons (.int _) .nil));obtain⟨dx6,hg6⟩:=G6.ob;have mem:m∈kn++(op++[m]):=fV _ (fV _ (cL.mpr rfl));refine jE G6 (fun _ q=>⟨_,rfl,q⟩) T.bU T.cu (lC _ _ _ _) ⟨_,rfl,d,.int (oX h w st m),rfl,?_,.inl ⟨rfl,_,rfl,?_⟩⟩
    ·have:=oH.t G6.dc k6;rw[nQ,aJ mem] at this;exact this
    rw[wX];refine cN (fun hz=>?_) (fun hz=>?_)
    ·have fz:oX h w st m=0:=by have:=cJ hz;lia
     obtain⟨ws,ew,Dw⟩:=id lw6;refine⟨_,rfl,.inl ⟨rfl,_,SqL.of ew⟩,jE G6 (fun _ q=>⟨_,rfl,q⟩) T.bU T.cP (oY _ _ _ _) ⟨_,rfl,?_⟩⟩;dsimp only[nD];refine mU.mk G6.fl dm6 (by rw[eF];exact Wn) fun q H7 fr=>?_
     rw[eF] at fr;obtain⟨ns,en,Dn⟩:=fr.ls;have s7:=fr.same;have ew7:=s7 _ _ ew;have ll:ws.length+ns.length<=1000:=by
      rw[Dw.length,Dn.length,aZ,aZ];have:=iB h w m;rw[cC] at wln;lia
     refine⟨wl,q,ws,ns,rfl,rfl,ew7,en,small (by lia),?_⟩;have sw:SameBut wl H7 (upd H7 wl (.lst (ws++ns))):=(SameBut.refl wl _).put;refine⟨wt++fO h w m,op++[m],_,fun b o e nb=>sw b o (s7 _ _ (b6 b o e nb)) (aQ e nwl),zq (G6.mono s7) sw ew7 (Dw.mono s7) nwh,sw.ls ew7 now (lo6.mono s7),⟨_,aC,?_⟩,ui.Sy hk _ (fun _=>rfl) (fun z=>absurd fz z),?_,rfl⟩
     ·rw[eE];exact(sw.cells ew7 (Dw.mono s7)).append (sw.cells ew7 Dn)
     ·have:=iB h w m;have Zt:=(ui.Sy hk _ (fun _=>rfl) (fun z=>absurd fz z)).len hin h6 w6;simp only[cC,jK] at Zt ⊢;lia
    ·have fz:oX h w st m≠0:=fun e=>by rw[e] at hz;cases hz
     have ui':=ui.Sy hk [] (fun z=>absurd z fz) (fun _=>rfl);have Zt:=ui'.len hin h6 w6;rw[rJ] at ui';refine⟨wt,op++[m],_,b6,G6,lo6,lw6,ui',?_,rfl⟩;simp only[cC,jK] at Zt ⊢;lia
   ·have hlt:¬(0:Int)<(xs.length:Int):=jl hlt;have:wt=[]:=Jd.mp (by lia);subst this;exact hR _ _ ⟨op,v4,sb,GG,lo,ui,rfl⟩
  rintro zzs H3 ⟨op,v4,b3,G3,lo,ui,rfl⟩;obtain⟨us,eu,Du⟩:=lo;have o36:=ui.len hin h6 w6;refine⟨_,rfl,ol,us,op,rfl,SqL.of eu,Du,by lia,fun q ws ds hn pm D' pc as=>?_⟩;have nq:H q=none:=by
   cases e:H q with
   |none=>rfl
   |some o=>
    by_cases z:q=d
    ·rw[z] at hn;rw[G3.dc] at hn;cases hn
    ·rw[b3 _ _ e z] at hn;cases hn
  exact q2 son hin nk ns q _ op ds nq (b3.and hn) (G3.mono (Same.put hn)) (.new hn D') pc as ui.nd ui.done
end
section
variable{h w:Nat}{st kn kn' L:List Cell}
theorem qI:(aO h w st kn).length=h:=by unfold aO;rw[aZ,jM]
theorem zu{c:Cell}(hi:inF h w c)(z:c∈kn):fL (aO h w st kn) c=(mW h w c st:Int):=by
 obtain⟨⟨a1,a2⟩,a3,a4⟩:=hi;unfold fL;rw[yR (by lia) (by lia)];have e:(((c.1.toNat:Nat):Int),((c.2.toNat:Nat):Int))=c:=jD (by show _=c.1;lia) (by show _=c.2;lia);rw[e];unfold qe;rw[aJ z];have:oX h w st c=mW h w c st:=rfl;lia
theorem oZ(sub:st.Sublist (bI h w))(hk:∀ x∈kn,inF h w x/\x∉st):(∀ c∈st,aH (aO h w st kn) w c=true)/\fu (aO h w st kn) w st=true:=by
 refine⟨fun c hc=>?_,?_⟩
 ·rw[d8,cR (bM.mp (sub.subset hc)),dB fun z=>(hk c z).2 hc];rfl
 ·unfold fu;rw[jt,qI];intro c hc;have hi:=bM.mp hc;by_cases z:c∈kn
  ·refine FP.mpr (.inr ?_);unfold pW;rw[qI,zu hi z];exact cR rfl
  ·refine FP.mpr (.inl ?_);rw[d8,cR hi,dB z];rfl
theorem HF(hs:∀ x∈kn,x∈kn')(hL:∀ c∈L,aH (aO h w st kn') w c=true)(hk:fu (aO h w st kn') w L=true) :
  (∀ c∈L,aH (aO h w st kn) w c=true)/\fu (aO h w st kn) w L=true:=by
 refine⟨fun c hc=>?_,?_⟩
 ·have:=hL c hc;rw[d8,kj,gq,jr,Lh] at this;rw[d8,cR this.1,dB fun z=>this.2 (hs c z)];rfl
 ·unfold fu at hk ⊢;rw[jt,qI] at hk ⊢;intro c hc;have hi:=bM.mp hc;by_cases z:c∈kn
  ·refine FP.mpr (.inr ?_);have:=hk c hc;rw[d8,cR hi,cR (hs c z),Bool.not_true,rD,Gp] at this;unfold pW at this ⊢;rw[qI,zu hi (hs c z)] at this;rw[qI,zu hi z];exact this
  ·refine FP.mpr (.inl ?_);rw[d8,cR hi,dB z];rfl
end
section
variable{zs:List Str}{w:Nat}{c:Cell}{b:Bool}
theorem zG{L:List Cell}(v:Vw zs w)(la:L.Pairwise aP)(hL:∀ y∈L,aH zs w y=true)(hk:fu zs w L=true):¬Gx zs w:=by
 obtain⟨h1,h2⟩:=(tD v la hL).mp hk;rintro⟨ch,hc,e⟩;unfold chL at hc;rcases cW.mp hc with rfl|hc
 ·have:iY zs w=[]:=e;rw[h1] at this;cases this
 rcases cB.mp hc with hc|hc
 ·obtain⟨p,hp,rfl⟩:=cD.mp hc;have e':eV zs w p=[]:=e;have:=h2 p hp;rw[e'] at this;cases this
 ·obtain⟨x,_,rfl⟩:=cD.mp hc;cases e
theorem uG{L:List Cell}(v:Vw zs w)(la:L.Pairwise aP)(hL:∀ y∈L,aH zs w y=true)(hk:fu zs w L=true)(hb:decide (c∈L)=b):¬cM zs w c b:=fun z=>by
 rcases(uK b).mp z with z|⟨p,hp,cp,e⟩
 ·exact zG v la hL hk z
 ·have h2:=((tD v la hL).mp hk).2 p hp;have:=Lp.mp e _ h2;refine this (cR ?_);rw[<- hb,vo,bZ,gq];exact⟨fun y=>y.1,fun y=>⟨y,cp⟩⟩
theorem S5(v:Vw zs w)(hc:aH zs w c=true)(hn:¬cM zs w c b):∃ L:List Cell,L.Pairwise aP/\(∀ y∈L,aH zs w y=true)/\fu zs w L=true/\decide (c∈L)=b:=by
 have da:((aU zs w).filter fun y=>decide (y∈layW zs w c b)).Pairwise aP:=(wV v.le v.w6).filter _;have pm:((aU zs w).filter fun y=>decide (y∈layW zs w c b)).Perm (layW zs w c b):=(KZ (gk da) (Nk v hn)).mpr fun y=>by
  rw[bZ,gq];refine⟨fun z=>z.2,fun z=>⟨?_,z⟩⟩;obtain⟨ch,hch,hy⟩:=zJ.mp z;exact gV.mpr (sJ v hch ((iV v hn hch).subset hy))
 have as:Asc ((aU zs w).filter fun y=>decide (y∈layW zs w c b)):=da.imp fun {a b} h1 h2=>by unfold aP at *;lia
 exact⟨_,da,uV v hn pm,IW v hn pm as,Kr v hc hn pm⟩
end
section
variable{h w:Nat}{st kn kn':List Cell}{c:Cell}
theorem Qz(v:Vw (aO h w st kn) w)(asc:st.Pairwise aP)(sub:st.Sublist (bI h w))(hk:∀ x∈kn,inF h w x/\x∉st) :
  (jH (aO h w st kn) w c = "stone" -> c∈st)/\(jH (aO h w st kn) w c = "none" -> c∉st):=by
 obtain⟨g1,g2⟩:=oZ sub hk;have key:∀ b,decide (c∈st)=b->¬cM (aO h w st kn) w c b:=fun b hb=>uG v asc g1 g2 hb
 unfold jH;by_cases n0:cM (aO h w st kn) w c false
 ·rw[aJ n0];exact⟨fun _=>Fq fun z=>key false (dB z) n0,fun z=>absurd z (by decide)⟩
 ·rw[aG n0];by_cases n1:cM (aO h w st kn) w c true
  ·rw[aJ n1];exact⟨fun z=>absurd z (by decide),fun _ z=>key true (cR z) n1⟩
  ·rw[aG n1];exact⟨fun z=>absurd z (by decide),fun z=>absurd z (by decide)⟩
theorem KC(v:Vw (aO h w st kn) w)(v':Vw (aO h w st kn') w)(asc:st.Pairwise aP)(sub:st.Sublist (bI h w))(hk:∀ x∈kn',inF h w x/\x∉st)(hs:∀ x∈kn,x∈kn')(hc:aH (aO h w st kn') w c=true)
  (ho:jH (aO h w st kn) w c ≠ "open"):jH (aO h w st kn') w c=jH (aO h w st kn) w c:=by
 obtain⟨g1,g2⟩:=oZ sub hk;have up:∀ b,cM (aO h w st kn) w c b->cM (aO h w st kn') w c b:=fun b hb=>Fq fun z=>by
  obtain⟨L,l1,l2,l3,l4⟩:=S5 v' hc z;obtain⟨m1,m2⟩:=HF hs l2 l3;exact uG v l1 m1 m2 l4 hb
 unfold jH at ho ⊢;by_cases n0:cM (aO h w st kn) w c false
 ·rw[aJ n0,aJ (up _ n0)]
 ·rw[aG n0] at ho ⊢;by_cases n1:cM (aO h w st kn) w c true
  ·have u1:=up _ n1;have u0:¬cM (aO h w st kn') w c false:=fun z=>by
    by_cases hm:c∈st
    ·exact uG v' asc g1 g2 (cR hm) u1
    ·exact uG v' asc g1 g2 (dB hm) z
   rw[aJ n1,aG u0,aJ u1]
  ·rw[aG n1] at ho;exact absurd rfl ho
end
theorem yD(f:Cell->V)(c:Cell):∀ cs:List Cell,pK (cs.map fun c=>(eO c,f c)) (eO c)=if c∈cs then some (f c) else none
 |[]=>rfl
 |d::cs=>by
  unfold pK;rw[dM,tY];by_cases e:d=c
  ·subst e;rw[cR rfl,aJ cZ];rfl
  ·rw[dB fun z=>e (zH z)];have:=yD f c cs;unfold pK at this;show Option.map _ (List.find? _ (cs.map fun c=>(eO c,f c)))=_;rw[this];by_cases m:c∈cs
   ·rw[aJ m,aJ (f9 _ m)]
   ·rw[aG m,aG fun z=>(cW.mp z).elim (fun q=>e q.symm) m]
theorem Xj(f:Cell->V){c:Cell}{cs:List Cell}(nc:c∉cs):putK (cs.map fun c=>(eO c,f c)) (eO c) (f c)=(cs++[c]).map fun c=>(eO c,f c):=by
 rw[zQ _ (by rw[yD,aG nc]),eE];rfl
noncomputable def pU(zs:List Str)(w:Nat)(cs:List Cell):List (List Key×V):=cs.map fun c=>(eO c,V.str (jH zs w c))
def J0(K:ak)(C:Addr):Sp:=fun vs H Q _=>∃(x:Addr)(zs:List Str)(w:Nat),vs=[.ref x]/\bW C H x zs w/\¬Gx zs w /\
 ∀ d H' cs,H d=none->Same H H'->H' d=some (.dT (pU zs w cs))->(cs=[]\/cs=aU zs w)->Q (.ref d) H'
def U7(K:ak)(C CV:Addr):Sp:=fun vs H Q _=>∃(g l:Addr)(ck m:Int)(h w:Nat)(st kn fr:List Cell)(f hd d:Addr),vs=[.ref g,.ref l,.int ck,.int m]/\bT K C CV H g h w st kn false f hd d/\Ls K H l (fr.map au)/\fr.length<=36/\(h<=6/\w<=6)/\kn.Nodup/\(∀ x∈kn,inF h w x/\x∉st)/\(∀ c∈fr,inF h w c/\c∉st)/\0<=m/\m<=10 /\
 ∀(H':Hp)(kn':List Cell),SameBut d H H'->bT K C CV H' g h w st kn' false f hd d->kn'.Nodup->(∀ x∈kn',inF h w x/\x∉st)->(∀ x∈kn,x∈kn')->Q .non H'
theorem GP{d:Addr}{H H':Hp}{t:List (List Key×V)}(s:SameBut d H H')(e:H d=some (.dT t)):vI H H':=fun b xs z=>s _ _ z (fun q=>by rw[q,e] at z;cases z)
theorem DG{K:ak}{d p:Addr}{H H':Hp}{t:List (List Key×V)}{cs:List Cell}(s:SameBut d H H')(e:H d=some (.dT t))(l:Ls K H p (cs.map au)):Ls K H' p (cs.map au):=by
 obtain⟨xs,ex,D⟩:=l;exact⟨xs,s _ _ ex (fun q=>by rw[q,e] at ex;cases ex),(GP s e).cells D⟩
theorem VL{K:ak}{d a:Addr}{H H':Hp}{t:List (List Key×V)}{xs:List V}(s:SameBut d H H')(e:H d=some (.dT t))(l:SqL K H a xs):SqL K H' a xs:=by
 rcases l with(z|⟨ob,z⟩)|z
 ·exact .inl (.inl (s _ _ z (fun q=>by rw[q,e] at z;cases z)))
 ·exact .inl (.inr ⟨ob,s _ _ z (fun q=>by rw[q,e] at z;cases z)⟩)
 ·exact .inr z
theorem QZ{C d x:Addr}{H H':Hp}{t:List (List Key×V)}{zs:List Str}{w:Nat}(s:SameBut d H H')(e:H d=some (.dT t))(v:bW C H x zs w):bW C H' x zs w:=by
 obtain⟨dy,ly,e2,e3⟩:=v.ob;exact⟨⟨dy,ly,s _ _ e2 (fun q=>by rw[q,e] at e2;cases e2),s _ _ e3 (fun q=>by rw[q,e] at e3;cases e3)⟩,v.vw⟩
theorem Ao{H:Hp}{d b:Addr}{zs:List Str}{w:Nat}{cs:List Cell}{c:Cell}(e:H d=some (.dT (pU zs w cs)))(eb:H b=some (.tup [.int c.1,.int c.2]))(m:c∈cs):oH H d (.ref b) (some (.str (jH zs w c))):=by
 have:=oH.t (k:=eO c) e eb;unfold pU at this;rw[yD,aJ m] at this;exact this
theorem Xp{K:ak}{C CV BV BL l:Addr}{h w:Nat}{st:List Cell}{H:Hp}{Q:Addr->Hp->Prop}{E:XK}(lg:Ls K H l (st.map au))(l36:st.length<=36)(hsz:ou (h:Int) (w:Int)=true)(hlay:layB (gD h w) w st=true)
  (q:∀ x f hd d H',H d=none->Same H H'->bT K C CV H' x h w st [] false f hd d->Q x H'):∀ x dx,H x=none->H dx=none->dx≠x->Fg K C CV BV BL (.ref x::([.int h,.int w,.ref l]++[])) (upd (upd H dx (.own x)) x (.ins C dx [])) (fun v H2=>v=.non/\Q x H2) E:=by
 intro x dx nx ndx nex;have n2:(upd H dx (.own x)) x=none:=by rw[aN nex.symm];exact nx
 have s6:Same H (upd (upd H dx (.own x)) x (.ins C dx [])):=(Same.put ndx).and n2;refine⟨x,dx,l,h,w,st,rfl,aC,lg.mono s6,by lia,fun hb=>(by rw[hsz] at hb;cases hb),fun _ hb=>(by rw[jm,jm,hlay] at hb;cases hb),fun _ _ H' f hd d nf nhd nd n1 n2' n3 n4 G keep=>⟨rfl,?_⟩⟩;rw[jm,jm] at G;exact q x f hd d H' (s6.free nd) (fun b o e=>keep b o (s6 _ _ e) (aQ e nx)) G
section
variable{P:Program}{w:World}{K:ak}{mg:Str->Option Value}{base:Heap}{Z:Adr}
theorem Qe{f:Addr}{fd:FuncData} (F:Fun K "_law_told" "_law_told" qQ f fd) (T:Txt K mg Z) (gn:Df P w K mg base 3 "closed" ["view"] (nC K Z.View aU)) (Jg:Df P w K mg base 8 "sure" ["view","cell"] (U6 K Z.View Z.NoCell Z.TooGreat Z.Impossible)):cF P w K mg base (CXE P w) 9 f fd ["view"] (J0 K Z.View):=by
 refine F.rok pG (fun vs H Q E h=>?_) (fun cdv A outer s H vs Q E hr h=>?_)
 ·obtain⟨x,zs,w,rfl,_⟩:=h;rfl
 ·obtain⟨x,zs,w,rfl,vt,hno,hq⟩:=h;have hu:=jQ hr;refine⟨_,(aA (RS.nox (bK (i:=1) pG.nd rfl (Or.inl rfl) yw)) (aA (Xy rfl rfl (fun _ _ _ hown hpass=>(aD (dw hown rfl (bD (K:=K) (aX gn hr rfl aR (aj (rv 0) ao))) (bQ (i:=2) pG.nd rfl (Or.inl rfl)) (aD (Aa (aX Jg hr rfl hpass (aj (rv 0) (aj (rv 2) ao))) (Ew (rv 1) (rv 2) (set_dict hu))))))) (Xu rfl T.sY T.jC (fun _=>(aD (bx yw))) a0m)) (aD (RS.nox (bx (rv 1)))))),?_⟩;refine aF (fun zzs H1=>∃ d:Addr,H d=none/\Same H H1/\H1 d=some (.dT (pU zs w []))/\zzs=[zzR x,zzR d,zzN]) (fun R hR=>?_) ?_
  ·exact fun d nd=>hR _ _ ⟨d,nd,Same.put nd,aC,rfl⟩
  rintro zzs H1 ⟨d,nd,s1,e1,rfl⟩;have l36:=dR vt.vw;refine aF (fun zzs H2=>∃ v2:Option V,Same H H2/\H2 d=some (.dT (pU zs w (aU zs w)))/\zzs=[zzR x,zzR d,v2]) (fun R hR=>?_) ?_
  ·refine⟨_,rfl,x,zs,w,rfl,vt.mono s1,fun cl H2 fr=>?_⟩;obtain⟨os,eo,Do⟩:=fr.ls;have los:os.length=(aU zs w).length:=by rw[Do.length,aZ]
   have ncl:cl≠d:=(aQ e1 fr.new).symm;have nds:(aU zs w).Nodup:=gk (wV vt.vw.le vt.vw.w6);refine⟨cl,rfl,⟨_,SqL.of eo⟩,?_⟩;refine dI (K:=K) (xs:=os) (fun i zzs H3=>∃ v2:Option V,Same H H3/\H3 cl=some (.lst os)/\aV K H3 os ((aU zs w).map au)/\H3 d=some (.dT (pU zs w ((aU zs w).take i)))/\zzs=[zzR x,zzR d,v2])
    ⟨none,s1.trans fr.same,eo,Do,fr.same _ _ e1,rfl⟩ (fun i zzs H3 _ hh=>by obtain⟨_,_,g,_⟩:=hh;exact SqL.of g) (fun i u zzs H3 hi hh=>?_) (fun zzs H3 hh=>?_)
   ·obtain⟨v2,s3,g1,g2,e3,rfl⟩:=hh;obtain⟨dt,edt,du⟩:=g2.get hi;rw[dG] at edt;obtain⟨c,ec,rfl⟩:=j8.mp edt;have hc:aH zs w c=true:=gV.mp (fQ ec);have tk:(aU zs w).take (i+1)=(aU zs w).take i++[c]:=by rw[kI,ec];rfl
    have nc:c∉(aU zs w).take i:=fun z=>by
     have:=nds.sublist (M9 (i+1) _);rw[tk] at this;exact(vm.mp this).2.2 c z c (cL.mpr rfl) rfl
    refine⟨_,rfl,_,rfl,x,u,zs,w,c,rfl,vt.mono s3,du,⟨fun z=>(by rw[hc] at z;cases z),fun _ _ H4 s4=>?_,fun _ _ n0 n1=>absurd ((QV vt.vw).mp ⟨n0,n1⟩) hno⟩,fun _ _ _ H4 s4=>?_⟩
    ·refine⟨Z.TooGreat,rfl,fun bH=>.inl ⟨⟨.inl rfl,T.jC⟩,fun d' nd'=>?_⟩⟩;exact hq d' _ [] ((s3.trans s4).free nd') ((s3.trans s4).and nd') aC (.inl rfl)
    ·obtain⟨b,rfl,_,eb⟩:=cV (du.mono s4);have e4:=s4 _ _ e3;have l4:((aU zs w).take i).length<=36:=by rw[sU];lia
     refine⟨_,rfl,_,rfl,d,_,rfl,.inr ⟨_,eO c,b,e4,rfl,eb,small (by unfold pU;rw[aZ];lia),rfl⟩,?_⟩;have sb:SameBut d H4 (upd H4 d (.dT (putK (pU zs w ((aU zs w).take i)) (eO c) (.str (jH zs w c))))):=(SameBut.refl d _).put;refine⟨_,sb.of (s3.trans s4) nd,sb _ _ (s4 _ _ g1) ncl,(GP sb e4).cells (g2.mono s4),?_,rfl⟩;rw[aC,tk];unfold pU;rw[Xj (fun c=>V.str (jH zs w c)) nc]
   ·obtain⟨v2,s3,g1,g2,e3,rfl⟩:=hh;rw[los,kE] at e3;exact hR _ _ ⟨v2,s3,e3,rfl⟩
  rintro zzs H2 ⟨v2,s2,e2,rfl⟩;exact⟨_,rfl,hq d _ _ nd s2 e2 (.inr rfl)⟩
theorem WL{f:Addr}{fd:FuncData} (F:Fun K "_law_uncovered" "_law_uncovered" jA f fd) (T:Txt K mg Z) (gn:Df P w K mg base 3 "closed" ["view"] (nC K Z.View aU)) (g8:Df P w K mg base 1 "_law_mix" ["cell","k","many"] U5) (gQ:Mth P w K mg base 5 Z.Game "view" ["self"] (mR K Z.Game Z.View))
  (iw:Mth P w K mg base 1 Z.Game "state" ["self"] (mj K Z.Game Z.View)) (lG:Mth P w K mg base 4 Z.Game "uncover" ["self","cell"] (oE K Z.Game Z.View Z.Over Z.NoCell)) :
  cF P w K mg base (CXE P w) 6 f fd ["game","free","cell","many"] (U7 K Z.Game Z.View):=by
 refine F.rok gO (fun vs H Q E h=>?_) (fun cdv A outer s H vs Q E hr h=>?_)
 ·obtain⟨g,l,ck,m,h,w,st,kn,fr,f,hd,d,rfl,_⟩:=h;rfl
 ·obtain⟨g,l,ck,m,h,w,st,kn,fr,fl,hh,d,rfl,G,lf,l36,⟨h6,w6⟩,nk,hk,hfr,m0,m10,hq⟩:=h;have hu:=jQ hr;have hu':=Hy hr;refine⟨_,(aD (dw fY rfl (iC rfl T.iy (aj (rv 3) ao)) (bQ (i:=4) gO.nd rfl (Or.inl rfl)) (aA (bK (i:=5) gO.nd rfl (Or.inr rfl) (aX gn hr rfl aR (aj (uO gQ hr aR (rv 0)) ao))) (aA (yx (i:=6) gO.nd rfl rfl (by rfl) rfl (bD (K:=K) (rv 1)) (fun _ _ _=>(iK (bJ (j6.or (wZ (K:=K) hu')) (rv 0) (rv 6) (by rfl)))) (fun _ _ _=>(rv 0))) (aD (dF (Ab (tK (bJ CN (bF (iD (K:=K)) rfl T.gH dY (aj (rv 6) ao)) aM (c7 _)) (pD (bJ (o7.or (nW (K:=K) hu)) (uO iw hr aR (rv 0)) gM (c7 _))))) (aD (eY (a0k lG hr aR (rv 0) (aj (fP (gP (K:=K)) (rv 6) (aX g8 hr rfl aR (aj (rv 2) (aj (rv 4) (aj (bF (iD (K:=K)) rfl T.gH dY (aj (rv 6) ao)) ao))))) ao)))) bL)))))),?_⟩;have a2l:h*w<=6*6:=mF h6 w6;refine⟨_,rfl,_,rfl,by lia,by lia,?_⟩;refine gA (lo:=0) (n:=m.toNat) (fun i zzs H1=>∃(kn':List Cell)(v4 v5 v6:Option V),SameBut d H H1/\bT K Z.Game Z.View H1 g h w st kn' false fl hh d/\kn'.Nodup/\(∀ x∈kn',inF h w x/\x∉st)/\(∀ x∈kn,x∈kn')/\Ls K H1 l (fr.map au)/\zzs=[zzR g,zzR l,zzI ck,zzI m,v4,v5,v6])
   ⟨kn,none,none,none,SameBut.refl d H,G,nk,hk,fun x hx=>hx,lf,rfl⟩ (fun i zzs H1 hi hh'=>?_) (fun zzs H1 hh'=>?_)
  ·obtain⟨kn',v4,v5,v6,sb,G1,nk1,hk1,Kz,lf1,rfl⟩:=hh';have kl:kn'.length<=36:=by
    have:=nZ (l2:=bI h w) nk1 fun y hy=>bM.mpr (hk1 y hy).1
    rw[fK] at this;lia
   obtain⟨dx,hg⟩:=G1.ob;refine aF (fun zzs H2=>∃ ql:Addr,Same H1 H2/\Ls K H2 ql ((aU (aO h w st kn') w).map au)/\zzs=[zzR g,zzR l,zzI ck,zzI m,zzI (0+i),zzR ql,v6]) (fun R' hR'=>?_) ?_
   ·refine qM G1 (by decide +kernel) (fun _ q=>⟨_,rfl,q⟩) (mR.mk G1 fun x H2 nx s2 vt=>?_);exact⟨x,_,w,rfl,vt,fun ql H3 f3=>hR' _ _ ⟨ql,s2.trans f3.same,f3.ls,rfl⟩⟩
   rintro zzs H2 ⟨ql,s2,lq,rfl⟩;have G2:=G1.mono s2;refine aF (fun zzs H3=>∃ pl:Addr,Same H2 H3/\Ls K H3 pl ((fr.filter fun y=>decide (y∈aU (aO h w st kn') w)).map au)/\zzs=[zzR g,zzR l,zzI ck,zzI m,zzI (0+i),zzR ql,zzR pl]) (fun R' hR'=>?_) ?_
   ·obtain⟨xs,ex,Dx⟩:=id (lf1.mono s2);refine⟨_,rfl,l,rfl,⟨_,SqL.of ex⟩,gU (K:=K) (xs:=fr) (enc:=au) (cG (SqL.of ex)) Dx (small (by lia)) (fun y=>decide (y∈aU (aO h w st kn') w)) au (fun y hy u H4 s4 dd G' hG=>?_) (fun y hy _ u H4 s4 dd G' hG=>⟨_,rfl,hG _ _ (Same.refl _) dd⟩) (fun us H4 s4 D4 q4 hq4=>?_)⟩
    ·exact⟨_,rfl,_,rfl,.inr (zU dd (lq.mono s4).den ⟨_,rfl,hG _ (Same.refl _)⟩)⟩
    ·exact hR' _ _ ⟨q4,s4.and hq4,.new hq4 D4,rfl⟩
   rintro zzs H3 ⟨pl,s3,lp,rfl⟩;have G3:=G2.mono s3;have lf3:=lf1.mono (s2.trans s3);have sA:SameBut d H H3:=sb.trans ((s2.trans s3).but d);obtain⟨ys,ey,Dy⟩:=id lp;have ly:ys.length=(fr.filter fun y=>decide (y∈aU (aO h w st kn') w)).length:=by rw[Dy.length,aZ]
   have stay:∀ H4,Same H3 H4->∃(kn':List Cell)(v4 v5 v6:Option V),SameBut d H H4/\bT K Z.Game Z.View H4 g h w st kn' false fl hh d/\kn'.Nodup/\(∀ x∈kn',inF h w x/\x∉st)/\(∀ x∈kn,x∈kn')/\Ls K H4 l (fr.map au)/\([zzR g,zzR l,zzI ck,zzI m,zzI (0+i),zzR ql,zzR pl]:L2.St)=[zzR g,zzR l,zzI ck,zzI m,v4,v5,v6]:=fun H4 s4=>⟨kn',_,_,_,sA.trans (s4.but d),G3.mono s4,nk1,hk1,Kz,lf3.mono s4,rfl⟩
   obtain⟨dx3,hg3⟩:=G3.ob;refine⟨_,rfl,.inl ⟨pl,_,rfl,.inl (SqL.of ey),_,_,rfl,rfl,_,rfl,?_⟩⟩;refine cN (fun hpos=>?_) (fun _=>qJ (stay _ (Same.refl _)));have hp':0<ys.length:=by have:=cJ hpos;lia
   refine qM G3 (by decide +kernel) (fun _ q=>⟨_,rfl,q⟩) (mj.mk G3 ?_);refine Or.inl ⟨rfl,_,rfl,?_⟩;by_cases hon:ig h w st kn' false = "on"
   ·rw[hon,cR rfl];refine BJ ⟨_,rfl,g,dx3,_,rfl,hg3,JG _ _ _ _ (by decide +kernel) (by decide +kernel) (by decide +kernel) (by decide +kernel),?_⟩;refine⟨_,rfl,_,rfl,_,rfl,_,rfl,.inl ⟨pl,_,rfl,.inl (SqL.of ey),ck,_,_,rfl,by lia,fun r3 H4 a4 b4 s4=>?_⟩⟩;obtain⟨n,rfl⟩:=Lf a4;have hn:n<ys.length:=by lia
    have eyn:ys[n]?=some ys[n]:=by simp[hn]
    obtain⟨dt,ed,dd⟩:=Dy.get eyn;rw[dG] at ed;obtain⟨c,hx,rfl⟩:=j8.mp ed;obtain⟨cf,cc⟩:=bZ.mp (fQ hx);have cfr:=hfr c cf;have cnk:c∉kn':=fun z=>by
     have:=gV.mp (cJ cc);rw[d8,cR z,Bool.not_true,rD] at this;cases this
    refine .inl ⟨pl,_,_,_,rfl,rfl,SqL.of (s4 _ _ ey),gG eyn,?_⟩;dsimp only[nD];have G4:=G3.mono s4;refine oE.mk G4 (dd.mono s4) kl (fun z=>absurd hon z) (fun _ z=>absurd ⟨cfr.1,cnk⟩ z) (fun _ _ _ z=>absurd z cfr.2) (fun _ _ _ _ q2 H5 op ds nq2 sb5 G5 l2 pd ad nd mo=>?_);refine⟨kn'++op,_,_,_,(sA.trans (s4.but d)).trans sb5,G5,?_,fun y hy=>?_,fun y hy=>fW _ (Kz y hy),DG sb5 G4.dc (lf3.mono s4),rfl⟩
    ·refine vm.mpr ⟨nk1,nd,fun y hy z hz e=>?_⟩;rw[<- e] at hz;exact((mo y).mp hz).new cnk hy
    ·rcases cB.mp hy with z|z
     ·exact hk1 y z
     ·exact⟨((mo y).mp z).inF cfr.1,((mo y).mp z).free cfr.2⟩
   ·have hno:decide (V.str (ig h w st kn' false)=V.str "on")=false:=dB fun z=>hon (by injection z)
    rw[hno];exact qJ (stay _ (Same.refl _))
  ·obtain⟨kn',v4,v5,v6,sb,G1,nk1,hk1,Kz,lf1,rfl⟩:=hh';exact hq _ kn' sb G1 nk1 hk1 Kz
end
def O6(K:ak):Sp:=fun vs H Q _=>∃(a:Addr)(ns:List Int),vs=[.ref a]/\SqL K H a (ns.map V.int)/\∀ H',Q (.bl true) H'
section
variable{P:Program}{w:World}{K:ak}{mg:Str->Option Value}{base:Heap}{Z:Adr}
theorem Zv{f:Addr}{fd:FuncData} (F:Fun K "law" "law" U0 f fd) (T:Txt K mg Z) (bV:Df P w K mg base 1 "_law_cell_at" ["script","k"] (Ks K)) (jO:Df P w K mg base 2 "_law_field_by" ["script","most"] (O2 K)) (Ji:Md P w K mg base 5 "Game" ["self","height","width","stones"] Z.Game (Fg K Z.Game Z.View Z.BadView Z.BadLaying))
  (iu:Df P w K mg base 6 "_law_uncovered" ["game","free","cell","many"] (U7 K Z.Game Z.View)) (gQ:Mth P w K mg base 5 Z.Game "view" ["self"] (mR K Z.Game Z.View)) (mJ:Df P w K mg base 9 "_law_told" ["view"] (J0 K Z.View)) (yg:Df P w K mg base 4 "keeps" ["view","laying"] (O5 K Z.View Z.BadLaying)) :
  cF P w K mg base (CXE P w) 10 f fd ["script"] (O6 K):=by
 refine F.rok jj (fun vs H Q E h=>?_) (fun cdv A outer s H vs Q E hr h=>?_)
 ·obtain⟨a,ns,rfl,_⟩:=h;rfl
 ·obtain⟨a,ns,rfl,hS,hq⟩:=h;have hu:=jQ hr;have hu':=Hy hr;refine⟨_,(aA (Aa (aX jO hr rfl aR (aj (rv 0) (aj (fP (gP (K:=K)) (fG (aj aM (aj aM (aj aM ao)))) (gW qL (aX bV hr rfl aR (aj (rv 0) (aj aM ao))) aM)) ao))) (a0l rfl (zY (bQ (i:=1) jj.nd rfl (Or.inl rfl)) (zY (bQ (i:=2) jj.nd rfl (Or.inl rfl)) (zY (bQ (i:=3) jj.nd rfl (Or.inr rfl)) Xr))))) (aA (bK (i:=4) jj.nd rfl (Or.inl rfl) (fG ao)) (aA (dw fY rfl (iC rfl T.iy (aj (rv 1) ao)) (bQ (i:=5) jj.nd rfl (Or.inr rfl)) (aD (bK (i:=4) jj.nd rfl (Or.inl rfl) (gW gJ (rv 4) (jz (by rfl) rfl (iC rfl T.iy (aj (rv 2) ao)) (fun _ _ _=>(iK (bJ (pA.or (zF (K:=K) hu')) (mO (aj (rv 6) (aj (rv 0) ao))) (rv 4) (by rfl)))) (fun _ _ _=>(mO (aj (rv 6) (aj (rv 0) ao))))))))) (aA (bK (i:=6) jj.nd rfl (Or.inl rfl) (Kc Ji hr rfl aR (aj (rv 1) (aj (rv 2) (aj (lV (zE (K:=K)) rfl T.vL uh (aj (rv 3) ao)) ao))))) (aA (eY (aX iu hr rfl aR (aj (rv 6) (aj (rv 4) (aj (aX bV hr rfl aR (aj (rv 0) (aj aM ao))) (aj (gW qL (aX bV hr rfl aR (aj (rv 0) (aj aM ao))) aM) ao)))))) (aA (bK (i:=7) jj.nd rfl (Or.inl rfl) (uO gQ hr aR (rv 6))) (aA (bK (i:=8) jj.nd rfl (Or.inl rfl) (aX mJ hr rfl aR (aj (rv 7) ao))) (aA (dw fY rfl (bD (K:=K) (bF (Ek (K:=K) rfl hu) rfl T.lJ lB (aj (rv 8) ao))) (bQ (i:=9) jj.nd rfl (Or.inl rfl)) (aD (dF (Ab (NQ (Ab (tK (bJ (o7.or (nW (K:=K) hu)) (fP (uF hu) (rv 8) (rv 9)) gM (c7 _)) (pD (bJ (pA.or (zF (K:=K) hu')) (rv 9) (rv 3) (by rfl))))) (Et (Ab (tK (bJ (o7.or (nW (K:=K) hu)) (fP (uF hu) (rv 8) (rv 9)) gM (c7 _)) (pD (bJ (j6.or (wZ (K:=K) hu')) (rv 9) (rv 3) (by rfl)))))))) (aD (bx pC)) bL))) (aA (eY (aX iu hr rfl aR (aj (rv 6) (aj (rv 4) (aj (aX bV hr rfl aR (aj (rv 0) (aj aM ao))) (aj (gW qL (aX bV hr rfl aR (aj (rv 0) (aj aM ao))) aM) ao)))))) (aA (bK (i:=10) jj.nd rfl (Or.inl rfl) (uO gQ hr aR (rv 6))) (aA (dF (Ab (NQ (bJ Nx (aX yg hr rfl aR (aj (rv 7) (aj (lV (zE (K:=K)) rfl T.vL uh (aj (rv 3) ao)) ao))) pC (c7 _)) (Et (bJ Nx (aX yg hr rfl aR (aj (rv 10) (aj (lV (zE (K:=K)) rfl T.vL uh (aj (rv 3) ao)) ao))) pC (c7 _))))) (aD (bx pC)) bL) (aA (bK (i:=11) jj.nd rfl (Or.inl rfl) (aX mJ hr rfl aR (aj (rv 10) ao))) (aA (dw fY rfl (bD (K:=K) (bF (Ek (K:=K) rfl hu) rfl T.lJ lB (aj (rv 11) ao))) (bQ (i:=9) jj.nd rfl (Or.inl rfl)) (aD (dF (Ab (tK (bJ (Ig.or (Hz (K:=K) hu)) (NP hu (rv 8) (rv 9) gM ⟨by rfl,by rfl,by rfl,by rfl⟩) gM (c7 _)) (pD (bJ (Ig.or (Hz (K:=K) hu)) (fP (uF hu) (rv 11) (rv 9)) (fP (uF hu) (rv 8) (rv 9)) (c7 _))))) (aD (bx pC)) bL))) (aD (bx pC))))))))))))))),?_⟩;refine aF (fun zzs H1=>∃(p:Addr)(h w:Nat)(st:List Cell),Same H H1/\Ls K H1 p (st.map au)/\(1<=h/\h<=6)/\(1<=w/\w<=6)/\st.Sublist (bI h w)/\zzs=[zzR a,zzI h,zzI w,zzR p,zzN,zzN,zzN,zzN,zzN,zzN,zzN,zzN]) (fun R hR=>?_) ?_
  ·refine⟨_,rfl,sz rfl,fun l hl=>?_⟩;have t1:=Same.put (o:=.lst [V.int 4,V.int 4,V.int 5]) hl;refine⟨_,rfl,a,ns,20,rfl,by decide,t1.seq hS,fun r0=>⟨_,_,rfl,rfl,(by show(0:Int)<3;decide),?_⟩⟩;obtain⟨v,hv,e⟩:=QL (xs:=([4,4,5]:List Int).map V.int) (i:=r0%3) (wN _ (by decide)) (by simpa using wM r0 (by decide:(0:Int)<3));obtain⟨n,hn,rfl⟩:=cD.mp hv;have n6:1<=n/\n<=6:=(by decide:∀ x∈([4,4,5]:List Int),1<=x/\x<=6) n hn;refine .inl ⟨l,_,_,_,rfl,rfl,SqL.of aC,e,?_⟩;exact⟨a,ns,n,rfl,t1.seq hS,n6.1,n6.2,fun t p H' h w st s' np hT lp a1 a2 a3 a4 a5=>⟨t,_,rfl,hT,rfl,_,_,rfl,_,_,rfl,_,_,rfl,rfl,hR _ _ ⟨p,h,w,st,t1.trans s',lp,⟨a1,by lia⟩,⟨a3,by lia⟩,a5,rfl⟩⟩⟩
  rintro zzs H1 ⟨p,h,w,st,s1,lp,bh,bw,sub,rfl⟩;have h6:=bh.2;have w6:=bw.2;have a2l:h*w<=6*6:=mF h6 w6;have asc:st.Pairwise aP:=(nP h (cH.mpr (by lia)) w (cH.mpr (by lia))).sublist sub;have lst:st.length<=36:=by
   have:=sub.length_le;rw[fK] at this;lia
  have hsz:ou (h:Int) (w:Int)=true:=uX.mpr ⟨by lia,by lia⟩;have hlay:layB (gD h w) w st=true:=by
   refine lay_of asc fun c hc=>?_
   have hin:=bM.mp (sub.subset hc);show aH (aO h w [] []) w c=true;rw[d8,cR hin];rfl
  refine aF (fun zzs H3=>∃ e,Same H1 H3/\Ls K H3 e []/\zzs=[zzR a,zzI h,zzI w,zzR p,zzR e,zzN,zzN,zzN,zzN,zzN,zzN,zzN]) (fun R hR=>?_) ?_
  ·exact⟨by decide,fun e he=>hR _ _ ⟨e,Same.put he,.new he .nil,rfl⟩⟩
  rintro zzs H3 ⟨e,s3,le,rfl⟩;refine aF (fun zzs H4=>∃(e:Addr)(v5:Option V),Same H1 H4/\Ls K H4 e ((uE w st h).map au)/\zzs=[zzR a,zzI h,zzI w,zzR p,zzR e,v5,zzN,zzN,zzN,zzN,zzN,zzN]) (fun R hR=>?_) ?_
  ·refine⟨_,rfl,_,rfl,by lia,by lia,?_⟩;rw[jm];refine gA (lo:=0) (n:=h) (fun i zzs H4=>∃(e:Addr)(v5:Option V),Same H1 H4/\Ls K H4 e ((uE w st i).map au)/\zzs=[zzR a,zzI h,zzI w,zzR p,zzR e,v5,zzN,zzN,zzN,zzN,zzN,zzN]) ⟨e,none,s3,le,rfl⟩ (fun i zzs H4 hi hh=>?_) (fun zzs H4 hh=>hR _ _ hh);obtain⟨e,v5,g1,g2,rfl⟩:=hh;refine⟨_,rfl,_,rfl,_,rfl,by lia,by lia,?_⟩;rw[jm];have e0:∀ c:Nat,((0:Int)+(i:Int),(c:Int))=((i:Int),(c:Int)):=fun c=>by rw[u6]
   refine gU (K:=K) (xs:=List.range w) (enc:=fun c:Nat=>Dt.int (c:Int)) (Ii w) (aV.nats _) (by rw[jM];exact small (by lia)) (fun c:Nat=>!decide (((i:Int),(c:Int))∈st)) (fun c:Nat=>au ((i:Int),(c:Int))) (fun c hc v H5 s5 D G hG=>?_) (fun c hc _ v H5 s5 D G hG=>?_) (fun ys H5 s5 D q5 hq5=>?_)
   ·cases D;refine⟨_,rfl,_,rfl,sz rfl,fun t ht=>⟨_,rfl,.inr (zW nH (lp.mono (g1.trans (s5.and ht))).den ⟨_,rfl,?_⟩)⟩⟩;rw[e0];exact hG _ (Same.put ht)
   ·cases D;refine⟨_,rfl,_,rfl,sz rfl,fun t ht=>hG _ _ (Same.put ht) ?_⟩;rw[<- e0];exact nH
   ·have l1:=Cv w st i;have l2:((List.range w).filter fun c:Nat=>!decide (((i:Int),(c:Int))∈st)).length<=w:=dN (jL _ _) (by rw[jM];exact bB _);have l3:i*w<=6*6:=mF (by lia) w6;have sq:=Same.put (o:=.lst ys) hq5;refine Tw (g2.mono (s5.trans sq)) (Ls.new hq5 D) (by rw[aZ,aZ];lia) fun r H6 f6=>⟨r,_,g1.trans (s5.trans (sq.trans f6.same)),?_,rfl⟩
    rw[JF,eE,ni];exact f6.ls
  rintro zzs H4 ⟨e,v5,s4,le4,rfl⟩;have a0Q:(uE w st h).length<=36:=by have:=Cv w st h;lia
  have hfr:∀ c∈uE w st h,inF h w c/\c∉st:=fun c hc=>by
   obtain⟨c1,c2⟩:=bZ.mp hc;exact⟨bM.mp c1,by simpa using c2⟩
  refine aF (fun zzs H5=>∃ g f hd d:Addr,Same H4 H5/\bT K Z.Game Z.View H5 g h w st [] false f hd d/\zzs=[zzR a,zzI h,zzI w,zzR p,zzR e,v5,zzR g,zzN,zzN,zzN,zzN,zzN]) (fun R hR=>?_) ?_
  ·obtain⟨us,eu,Du⟩:=id (lp.mono s4);refine⟨_,rfl,_,rfl,_,rfl,p,_,rfl,.inl (SqL.of eu),fun gl ng=>?_⟩;have sg:=Same.put (o:=.lst us) ng;dsimp only[nD];refine Xp (Q:=fun g H'=>_) (.new ng Du) lst hsz hlay fun g f hd d H5 nd s5 G=>hR _ _ ⟨g,f,hd,d,sg.trans s5,G,rfl⟩
  rintro zzs H5 ⟨g,fl,hd,d,s5,G5,rfl⟩;have s15:=s1.trans (s4.trans s5);refine aF (fun zzs H6=>∃ kn:List Cell,SameBut d H5 H6/\bT K Z.Game Z.View H6 g h w st kn false fl hd d/\kn.Nodup/\(∀ x∈kn,inF h w x/\x∉st)/\zzs=[zzR a,zzI h,zzI w,zzR p,zzR e,v5,zzR g,zzN,zzN,zzN,zzN,zzN]) (fun R hR=>?_) ?_
  ·refine⟨_,rfl,_,rfl,_,rfl,a,ns,10,rfl,by decide,s15.seq hS,fun r1=>⟨_,rfl,a,ns,11,rfl,by decide,s15.seq hS,fun r2=>⟨_,_,rfl,rfl,(by show(0:Int)<4;decide),?_⟩⟩⟩;have b0:=wN r2 (by decide:(4:Int)≠0);have b1:=wM r2 (by decide:(0:Int)<4);exact⟨g,e,r1,_,h,w,st,[],_,fl,hd,d,rfl,G5,le4.mono s5,a0Q,⟨h6,w6⟩,Gk,(fun x hx=>by cases hx),hfr,by omega,by lia,fun H6 kn sb G6 nk hk _=>hR _ _ ⟨kn,sb,G6,nk,hk,rfl⟩⟩
  rintro zzs H6 ⟨kn,sb6,G6,nk,hk,rfl⟩;have hS6:=VL sb6 G5.dc (s15.seq hS);have lp6:=DG sb6 G5.dc (lp.mono (s4.trans s5));have le6:=DG sb6 G5.dc (le4.mono s5);clear sb6 G5 s15 hS le4 lp s1 s3 s4 s5 le;have v1:Vw (aO h w st kn) w:=uW bh.1 h6 bw.1 w6;obtain⟨k1,k2⟩:=oZ sub hk;refine aF (fun zzs H7=>∃ x:Addr,Same H6 H7/\bW Z.View H7 x (aO h w st kn) w/\zzs=[zzR a,zzI h,zzI w,zzR p,zzR e,v5,zzR g,zzR x,zzN,zzN,zzN,zzN]) (fun R hR=>?_) ?_
  ·exact qM G6 (by decide +kernel) (fun _ q=>⟨_,rfl,q⟩) (mR.mk G6 fun x H7 nx s7 vt=>hR _ _ ⟨x,s7,vt,rfl⟩)
  rintro zzs H7 ⟨x,s7,vt7,rfl⟩;refine aF (fun zzs H8=>∃(td:Addr)(cs:List Cell),H7 td=none/\Same H7 H8/\H8 td=some (.dT (pU (aO h w st kn) w cs))/\(cs=[]\/cs=aU (aO h w st kn) w)/\zzs=[zzR a,zzI h,zzI w,zzR p,zzR e,v5,zzR g,zzR x,zzR td,zzN,zzN,zzN]) (fun R hR=>?_) ?_
  ·exact⟨_,rfl,x,_,w,rfl,vt7,zG v1 asc k1 k2,fun td H8 cs ntd s8 e8 hcs=>hR _ _ ⟨td,cs,ntd,s8,e8,hcs,rfl⟩⟩
  rintro zzs H8 ⟨td,cs,ntd,s8,e8,hcs,rfl⟩;have lcs:cs.length<64:=by
   rcases hcs with z|z
   ·rw[z];decide
   ·have:=dR v1;rw[z];lia
  have G8:=G6.mono (s7.trans s8);have lp8:=lp6.mono (s7.trans s8);have le8:=le6.mono (s7.trans s8);have hS8:=(s7.trans s8).seq hS6;have vt8:=vt7.mono s8;have tdd:td≠d:=(aQ ((s7) _ _ G6.dc) ntd).symm;clear hS6 lp6 le6 vt7 s7 s8 ntd G6;refine aF (fun zzs H9=>∃ v9:Option V,Same H8 H9/\zzs=[zzR a,zzI h,zzI w,zzR p,zzR e,v5,zzR g,zzR x,zzR td,v9,zzN,zzN]) (fun R hR=>?_) ?_
  ·refine⟨_,rfl,td,cs,_,rfl,e8,lcs,fun l ws ds nl Dw pm as=>⟨l,rfl,⟨_,SqL.of aC⟩,?_⟩⟩;have s9:=Same.put (o:=.lst ws) nl;refine dI (K:=K) (xs:=ws) (fun i zzs H9=>∃ v9:Option V,Same (upd H8 l (.lst ws)) H9/\zzs=[zzR a,zzI h,zzI w,zzR p,zzR e,v5,zzR g,zzR x,zzR td,v9,zzN,zzN])
    ⟨none,Same.refl _,rfl⟩ (fun i zzs H9 _ hh=>by obtain⟨_,g,_⟩:=hh;exact SqL.of (g _ _ aC)) (fun i u zzs H9 hi hh=>?_) (fun zzs H9 hh=>?_)
   ·obtain⟨v9,g9,rfl⟩:=hh;obtain⟨dt,edt,du⟩:=Dw.get hi;rw[dG] at edt;obtain⟨c,ec,rfl⟩:=j8.mp edt;have cm:c∈cs:=pm.mem_iff.mp (fQ ec);have sA:=s9.trans g9;have du9:=du.mono sA;obtain⟨b,rfl,_,eb⟩:=cV du9;have dg:=Ao (sA _ _ e8) eb cm;have ls:=(lp8.mono sA).den;obtain⟨t1,t2⟩:=Qz (c:=c) v1 asc sub hk;generalize jH (aO h w st kn) w c=z at dg t1 t2;refine⟨_,rfl,_,rfl,td,_,rfl,dg,.inl ⟨rfl,_,rfl,?_⟩⟩;refine cN (fun z1=>?_) (fun z1=>?_)
    ·have e1:z = "stone":=by have:=cJ z1;injection this
     refine⟨_,rfl,_,rfl,.inr (zW du9 ls ⟨_,rfl,?_⟩)⟩;rw[cR (t1 e1)];refine qJ ⟨_,rfl,_,rfl,td,_,rfl,dg,.inl ⟨rfl,_,rfl,?_⟩⟩;rw[e1];exact qJ ⟨_,g9,rfl⟩
    ·refine⟨_,rfl,_,rfl,td,_,rfl,dg,.inl ⟨rfl,_,rfl,?_⟩⟩;refine cN (fun z2=>?_) (fun _=>⟨_,g9,rfl⟩);have e2:z = "none":=by have:=cJ z2;injection this
     refine⟨_,rfl,_,rfl,.inr (zU du9 ls ⟨_,rfl,?_⟩)⟩;rw[dB (t2 e2)];exact qJ ⟨_,g9,rfl⟩
   ·obtain⟨v9,g9,rfl⟩:=hh;exact hR _ _ ⟨v9,s9.trans g9,rfl⟩
  rintro zzs H9 ⟨v9,s9,rfl⟩;have G9:=G8.mono s9;refine aF (fun zzs H10=>∃ kn':List Cell,SameBut d H9 H10/\bT K Z.Game Z.View H10 g h w st kn' false fl hd d/\(∀ x∈kn',inF h w x/\x∉st)/\(∀ x∈kn,x∈kn')/\zzs=[zzR a,zzI h,zzI w,zzR p,zzR e,v5,zzR g,zzR x,zzR td,v9,zzN,zzN]) (fun R hR=>?_) ?_
  ·refine⟨_,rfl,_,rfl,_,rfl,a,ns,12,rfl,by decide,s9.seq hS8,fun r1=>⟨_,rfl,a,ns,13,rfl,by decide,s9.seq hS8,fun r2=>⟨_,_,rfl,rfl,(by show(0:Int)<4;decide),?_⟩⟩⟩;have b0:=wN r2 (by decide:(4:Int)≠0);have b1:=wM r2 (by decide:(0:Int)<4);exact⟨g,e,r1,_,h,w,st,kn,_,fl,hd,d,rfl,G9,le8.mono s9,a0Q,⟨h6,w6⟩,nk,hk,hfr,by omega,by lia,fun H10 kn' sb G10 _ hk' sk=>hR _ _ ⟨kn',sb,G10,hk',sk,rfl⟩⟩
  rintro zzs H10 ⟨kn',sb,G10,hk',sk,rfl⟩;have a2p:=DG sb G9.dc (lp8.mono s9);have a2L:=QZ sb G9.dc (vt8.mono s9);have e10:=sb _ _ (s9 _ _ e8) tdd;clear G8 lp8 le8 hS8 vt8 e8 s9 G9 sb tdd;have v2:Vw (aO h w st kn') w:=uW bh.1 h6 bw.1 w6;obtain⟨k3,k4⟩:=oZ sub hk';refine aF (fun zzs H11=>∃ y:Addr,Same H10 H11/\bW Z.View H11 y (aO h w st kn') w/\zzs=[zzR a,zzI h,zzI w,zzR p,zzR e,v5,zzR g,zzR x,zzR td,v9,zzR y,zzN]) (fun R hR=>?_) ?_
  ·exact qM G10 (by decide +kernel) (fun _ q=>⟨_,rfl,q⟩) (mR.mk G10 fun y H11 ny s11 vt=>hR _ _ ⟨y,s11,vt,rfl⟩)
  rintro zzs H11 ⟨y,s11,a1S,rfl⟩;refine aF (fun zzs H12=>Same H11 H12/\zzs=[zzR a,zzI h,zzI w,zzR p,zzR e,v5,zzR g,zzR x,zzR td,v9,zzR y,zzN]) (fun R hR=>?_) ?_
  ·obtain⟨us,eu,Du⟩:=id (a2p.mono s11);refine⟨_,rfl,_,rfl,p,_,rfl,.inl (SqL.of eu),fun l nl=>?_⟩;have t1:=Same.put (o:=.lst us) nl;refine⟨x,l,_,w,st,rfl,a2L.mono (s11.trans t1),.new nl Du,by lia,fun _ H12 s12=>?_,fun z=>(by rw[lay_of asc k1] at z;cases z)⟩;rw[k2];refine⟨_,_,rfl,rfl,_,rfl,qJ ?_⟩;have sB:=t1.trans s12;refine⟨_,rfl,_,rfl,p,_,rfl,.inl (SqL.of (sB _ _ eu)),fun l2 nl2=>?_⟩;have t2:=Same.put (o:=.lst us) nl2;refine⟨y,l2,_,w,st,rfl,a1S.mono (sB.trans t2),.new nl2 (Du.mono sB),by lia,fun _ H13 s13=>?_,fun z=>(by rw[lay_of asc k3] at z;cases z)⟩;rw[k4];exact⟨_,_,rfl,rfl,_,rfl,qJ (hR _ _ ⟨sB.trans (t2.trans s13),rfl⟩)⟩
  rintro zzs H12 ⟨s12,rfl⟩;refine aF (fun zzs H13=>∃(ag:Addr)(cs':List Cell),Same H12 H13/\H13 ag=some (.dT (pU (aO h w st kn') w cs'))/\(cs'=[]\/cs'=aU (aO h w st kn') w)/\zzs=[zzR a,zzI h,zzI w,zzR p,zzR e,v5,zzR g,zzR x,zzR td,v9,zzR y,zzR ag]) (fun R hR=>?_) ?_
  ·exact⟨_,rfl,y,_,w,rfl,a1S.mono s12,zG v2 asc k3 k4,fun ag H13 cs' _ s13 e13 W8=>hR _ _ ⟨ag,cs',s13,e13,W8,rfl⟩⟩
  rintro zzs H13 ⟨ag,cs',s13,e13,W8,rfl⟩;have a2o:cs'.length<64:=by
   rcases W8 with z|z
   ·rw[z];decide
   ·have:=dR v2;rw[z];lia
  have a2e:=(s11.trans (s12.trans s13)) _ _ e10;refine aF (fun zzs H14=>True) (fun R hR=>?_) ?_
  ·refine⟨_,rfl,ag,cs',_,rfl,e13,a2o,fun l ws ds nl Dw pm as=>⟨l,rfl,⟨_,SqL.of aC⟩,?_⟩⟩;have s14:=Same.put (o:=.lst ws) nl;refine dI (K:=K) (xs:=ws) (fun i zzs H14=>∃ v9:Option V,Same (upd H13 l (.lst ws)) H14/\zzs=[zzR a,zzI h,zzI w,zzR p,zzR e,v5,zzR g,zzR x,zzR td,v9,zzR y,zzR ag])
    ⟨v9,Same.refl _,rfl⟩ (fun i zzs H14 _ hh=>by obtain⟨_,g,_⟩:=hh;exact SqL.of (g _ _ aC)) (fun i u zzs H14 hi hh=>?_) (fun zzs H14 hh=>hR _ _ trivial)
   obtain⟨v9,g14,rfl⟩:=hh;obtain⟨dt,edt,du⟩:=Dw.get hi;rw[dG] at edt;obtain⟨c,ec,rfl⟩:=j8.mp edt;have cm:c∈cs':=pm.mem_iff.mp (fQ ec);have sA:=s14.trans g14;obtain⟨b,rfl,_,eb⟩:=cV (du.mono sA);have dg:=Ao (sA _ _ e13) eb cm;have cc:aH (aO h w st kn') w c=true:=by
    rcases W8 with z|z
    ·rw[z] at cm;cases cm
    ·rw[z] at cm;exact gV.mp cm
   have cc1:aH (aO h w st kn) w c=true:=by
    rw[d8,kj,gq,jr,Lh] at cc;rw[d8,cR cc.1,dB fun z=>cc.2 (sk c z)];rfl
   have et:=sA _ _ a2e;refine⟨_,rfl,td,rfl,.inr ⟨_,.inl et⟩,_,rfl,_,oH.t (k:=eO c) et eb,?_⟩;unfold pU;rw[yD];rcases hcs with rfl|rfl
   ·rw[aG (by intro z;cases z)];exact .inl ⟨rfl,_,rfl,qJ ⟨_,g14,rfl⟩⟩
   ·have cm1:c∈aU (aO h w st kn) w:=gV.mpr cc1;rw[aJ cm1];refine .inl ⟨rfl,_,rfl,?_⟩;refine cN (fun z1=>?_) (fun _=>⟨_,g14,rfl⟩);have ho:jH (aO h w st kn) w c ≠ "open":=fun z=>by
     rw[show(some (V.str (jH (aO h w st kn) w c))).getD (V.str "open")=V.str (jH (aO h w st kn) w c) from rfl,z] at z1;revert z1;decide
    have dg1:=Ao et eb cm1;rw[<- KC v1 v2 asc sub hk' sk cc ho] at dg1;refine⟨_,rfl,_,rfl,ag,_,rfl,dg,_,rfl,_,rfl,td,_,rfl,dg1,.inl ⟨rfl,_,rfl,?_⟩⟩;rw[cR rfl];exact qJ ⟨_,g14,rfl⟩
  rintro zzs H14 _;exact hq _
end
def qg(x q:Str)(st:Stmt)(ps:List Str):Prop:=∀(kV doc pm:Value)(an:Option Addr)(cdv ct:Value)(us:List Value),us.length=ps.length->bindArgs (PySem.W.fnOf x q (jg st) (gj st) (aK st) .none kV doc pm an cdv ct) ⟨us,[]⟩=pure (ps.zip us)
theorem BK{us:List Value}{n:Nat}(h:us.length=n+1):∃ u us',us=u::us'/\us'.length=n:=by
 cases us with
 |nil=>cases h
 |cons u t=>exact⟨u,t,rfl,Nat.succ.inj h⟩
theorem bind1{x q:Str}{st:Stmt}{p0:Str}(h:∀(kV doc pm:Value) (an:Option Addr) (cdv ct u0:Value),bindArgs (PySem.W.fnOf x q (jg st) (gj st) (aK st) .none kV doc pm an cdv ct) ⟨[u0],[]⟩=pure [(p0,u0)]):qg x q st [p0]:=fun kV doc pm an cdv ct us hl=>by
 obtain⟨u0,t0,rfl,g0⟩:=BK (n:=0) hl;cases t0 with
 |nil=>exact h kV doc pm an cdv ct u0
 |cons _ _=>cases g0
theorem iH{x q:Str}{st:Stmt}{p0 p1:Str}(h:∀(kV doc pm:Value) (an:Option Addr) (cdv ct u0 u1:Value),bindArgs (PySem.W.fnOf x q (jg st) (gj st) (aK st) .none kV doc pm an cdv ct) ⟨[u0,u1],[]⟩=pure [(p0,u0),(p1,u1)]):qg x q st [p0,p1]:=fun kV doc pm an cdv ct us hl=>by
 obtain⟨u0,t0,rfl,g0⟩:=BK (n:=1) hl;obtain⟨u1,t1,rfl,g1⟩:=BK (n:=0) g0;cases t1 with
 |nil=>exact h kV doc pm an cdv ct u0 u1
 |cons _ _=>cases g1
theorem QT{x q:Str}{st:Stmt}{p0 p1 p2:Str}(h:∀(kV doc pm:Value) (an:Option Addr) (cdv ct u0 u1 u2:Value),bindArgs (PySem.W.fnOf x q (jg st) (gj st) (aK st) .none kV doc pm an cdv ct) ⟨[u0,u1,u2],[]⟩=pure [(p0,u0),(p1,u1),(p2,u2)]):qg x q st [p0,p1,p2]:=fun kV doc pm an cdv ct us hl=>by
 obtain⟨u0,t0,rfl,g0⟩:=BK (n:=2) hl;obtain⟨u1,t1,rfl,g1⟩:=BK (n:=1) g0;obtain⟨u2,t2,rfl,g2⟩:=BK (n:=0) g1;cases t2 with
 |nil=>exact h kV doc pm an cdv ct u0 u1 u2
 |cons _ _=>cases g2
theorem Y7{x q:Str}{st:Stmt}{p0 p1 p2 p3:Str}(h:∀(kV doc pm:Value) (an:Option Addr) (cdv ct u0 u1 u2 u3:Value),bindArgs (PySem.W.fnOf x q (jg st) (gj st) (aK st) .none kV doc pm an cdv ct) ⟨[u0,u1,u2,u3],[]⟩=pure [(p0,u0),(p1,u1),(p2,u2),(p3,u3)]):qg x q st [p0,p1,p2,p3]:=fun kV doc pm an cdv ct us hl=>by
 obtain⟨u0,t0,rfl,g0⟩:=BK (n:=3) hl;obtain⟨u1,t1,rfl,g1⟩:=BK (n:=2) g0;obtain⟨u2,t2,rfl,g2⟩:=BK (n:=1) g1;obtain⟨u3,t3,rfl,g3⟩:=BK (n:=0) g2;cases t3 with
 |nil=>exact h kV doc pm an cdv ct u0 u1 u2 u3
 |cons _ _=>cases g3
section
variable{P:Program}{w:World}{K:ak}{mg:Str->Option Value}{base h:Heap}
def cU(K:ak)(x:Str)(st:Stmt):Prop:=∃ f,PySem.W.nsIn K mainGlobals x=some (some (.ref f))/\∃ fd,Fun K x x st f fd
def qt(K:ak)(C:Addr)(m q:Str)(st:Stmt):Prop:=∃ f,(PySem.W.findIn K (.ref C) m=some (some (.ref f))/\PySem.W.isFn K (.ref f)=true)/\∃ fd,Fun K m q st f fd
section
variable{x q:Str}{st:Stmt}{f C:Addr}{oc:Value}{od an:Option Addr}{osl:Array (Option Value)}{kV doc pm cdv ct:Value}
theorem a0H(a:PySem.W.nsIn K mainGlobals x=some (some (.ref f)))(l:K.lookup f=some ⟨oc,od,.func (PySem.W.fnOf x x (jg st) (gj st) (aK st) .none kV doc pm an cdv ct),osl⟩)(c:PySem.W.codeIn K cdv x=true)(k:PySem.W.keepIn K (.ref f)=true):cU K x st:=⟨f,a,_,Rk l c k⟩
theorem RQ(a:PySem.W.findIn K (.ref C) x=some (some (.ref f)))(i:PySem.W.isFn K (.ref f)=true)(l:K.lookup f=some ⟨oc,od,.func (PySem.W.fnOf x q (jg st) (gj st) (aK st) .none kV doc pm an cdv ct),osl⟩)(c:PySem.W.codeIn K cdv q=true)(k:PySem.W.keepIn K (.ref f)=true):qt K C x q st:=⟨f,⟨a,i⟩,_,Rk l c k⟩
end
theorem a1R{x:Str}{v:Int}{t:Tok}(h:PySem.W.nsIn K mainGlobals x=some (some (.int v t))):∃ t,PySem.W.nsIn K mainGlobals x=some (some (.int v t)):=⟨t,h⟩
theorem a2I{x v:Str}{t:Tok}(h:PySem.W.nsIn K mainGlobals x=some (some (.str v t))):∃ t,PySem.W.nsIn K mainGlobals x=some (some (.str v t)):=⟨t,h⟩
theorem a0J(X:K.In h)(G:h.Ns mainGlobals mg){x:Str}{st:Stmt}{k:Nat}{ps:List Str}{sp:Sp}(d:cU K x st)(hb:qg x x st ps)(ok:∀ f fd,Fun K x x st f fd->cF P w K mg base (CXE P w) k f fd ps sp):Df P w K mg base k x ps sp:=by
 obtain⟨f,a,fd,F⟩:=d;exact⟨⟨f,fd,ok f fd F,jN X G a,F.kp,F.binds hb⟩⟩
theorem Zi(X:K.In h)(G:h.Ns mainGlobals mg){fa:Addr}{st:Stmt}{k:Nat}{sp:Sp} (hfa:mg "law" = some (.ref fa)) (d:cU K "law" st) (hb:qg "law" "law" st ["script"]) (ok:∀ base f fd,Fun K "law" "law" st f fd->cF P w K mg base (CXE P w) k f fd ["script"] sp) :
  ∃ fd:FuncData,(∀(s:Shared)(v:Value),BindsTo s fd ⟨[v],[]⟩ [("script",v)])/\∀ base:Heap,K.In base->base.Ns mainGlobals mg->cF P w K mg base (CXE P w) k fa fd ["script"] sp:=by
 obtain⟨f,a,fd,F⟩:=d;have e:=hfa.symm.trans (jN X G a);cases e;refine⟨fd,fun s v=>?_,fun base _ _=>ok base _ _ F⟩;obtain⟨oc,od,kV,doc,pm,an,cdv,ct,osl,rfl,lk,hcd⟩:=F.ex;exact .of_eq (hb kV doc pm an cdv ct [v] rfl)
theorem a1d(X:K.In h)(G:h.Ns mainGlobals mg){x q:Str}{st:Stmt}{C:Addr}{k:Nat}{ps:List Str}{sp:Sp}(a:PySem.W.nsIn K mainGlobals x=some (some (.ref C)))(mk:PySem.W.makesIn K C=true)(kc:PySem.W.keepIn K (.ref C)=true) (m:qt K C "__init__" q st) (hb:qg "__init__" q st ps) (ok:∀ f fd,Fun K "__init__" q st f fd->cF P w K mg base (CXE P w) k f fd ps sp):Md P w K mg base k x ps C sp:=by
 obtain⟨f,⟨b,i⟩,fd,F⟩:=m;exact⟨⟨f,fd,⟨mk,b,i,kc⟩,ok f fd F,jN X G a,F.binds hb⟩⟩
theorem Zq{C:Addr}{m q:Str}{st:Stmt}{k:Nat}{ps:List Str}{sp:Sp}(d:qt K C m q st)(cl:Cls K C)(hb:qg m q st ps)(ok:∀ f fd,Fun K m q st f fd->cF P w K mg base (CXE P w) k f fd ps sp):Mth P w K mg base k C m ps sp:=by
 obtain⟨f,⟨a,i⟩,fd,F⟩:=d;exact⟨⟨f,fd,⟨a,i,F.kp⟩,ok f fd F,F.binds hb⟩,cl⟩
end
theorem all_mk{l:PySem.W.OpenLaw}{w:World}{K:ak}{h:Heap}{mg:Str->Option Value}{fa:Addr}(X:K.In h)(G:h.Ns mainGlobals mg) (hfa:mg "law" = some (.ref fa))
  {oJ:Addr}
  {vJ:Addr}
  {qy:Addr}
  {yG:Addr}
  {sW:Addr}
  {oK:Addr}
  {Jl:Addr}
  {oM:Addr}
  {jy:Addr}
  (oN:PySem.W.nsIn K mainGlobals "FieldError" = some (some (.ref oJ)))
  (vK:PySem.W.nsIn K mainGlobals "BadView" = some (some (.ref vJ)))
  (qz:PySem.W.nsIn K mainGlobals "BadLaying" = some (some (.ref qy)))
  (yH:PySem.W.nsIn K mainGlobals "NoCell" = some (some (.ref yG)))
  (sX:PySem.W.nsIn K mainGlobals "TooGreat" = some (some (.ref sW)))
  (oO:PySem.W.nsIn K mainGlobals "Impossible" = some (some (.ref oK)))
  (Jm:PySem.W.nsIn K mainGlobals "Over" = some (some (.ref Jl)))
  (Dr:PySem.W.nsIn K mainGlobals "View" = some (some (.ref oM)))
  (Dq:PySem.W.nsIn K mainGlobals "Game" = some (some (.ref jy)))
  (pL:PySem.W.excIn K oJ [.type "ValueError",.type "Exception",.type "BaseException",.type "object"] "ValueError.__new__" = true)
  (oF:PySem.W.excIn K vJ [.type "ValueError",.type "Exception",.type "BaseException",.type "object"] "ValueError.__new__" = true)
  (jJ:PySem.W.excIn K qy [.type "ValueError",.type "Exception",.type "BaseException",.type "object"] "ValueError.__new__" = true)
  (mq:PySem.W.excIn K yG [.type "ValueError",.type "Exception",.type "BaseException",.type "object"] "ValueError.__new__" = true)
  (jC:PySem.W.excIn K sW [.type "ValueError",.type "Exception",.type "BaseException",.type "object"] "ValueError.__new__" = true)
  (kZ:PySem.W.excIn K oK [.type "ValueError",.type "Exception",.type "BaseException",.type "object"] "ValueError.__new__" = true)
  (Fo:PySem.W.excIn K Jl [.type "ValueError",.type "Exception",.type "BaseException",.type "object"] "ValueError.__new__" = true)
  (xZ:qt K oM "__init__" "View.__init__" jT)
  (dZ:Cls K oM)
  (Wq:PySem.W.makesIn K oM=true)
  (Wf:PySem.W.keepIn K (.ref oM)=true)
  (j5:PySem.W.findIn K (.ref oM) "rows" = some none)
  (d9:PySem.W.findIn K (.ref oM) "height" = some none)
  (dO:PySem.W.findIn K (.ref oM) "width" = some none)
  (xY:qt K jy "__init__" "Game.__init__" jR)
  (zL:qt K jy "uncover" "Game.uncover" lX)
  (HW:qt K jy "view" "Game.view" qP)
  (En:qt K jy "state" "Game.state" pF)
  (bU:Cls K jy)
  (Wo:PySem.W.makesIn K jy=true)
  (Wd:PySem.W.keepIn K (.ref jy)=true)
  (cP:PySem.W.findIn K (.ref jy) "field" = some none)
  (fj:PySem.W.findIn K (.ref jy) "hidden" = some none)
  (cu:PySem.W.findIn K (.ref jy) "figures" = some none)
  (iZ:PySem.W.findIn K (.ref jy) "lost" = some none)
  (iW:∃ t,PySem.W.nsIn K mainGlobals "MOST_ROWS" = some (some (.int 6 t)))
  (fM:∃ t,PySem.W.nsIn K mainGlobals "MOST_COLUMNS" = some (some (.int 6 t)))
  (dU:∃ t,PySem.W.nsIn K mainGlobals "CLOSED_SIGN" = some (some (.str "#" t)))
  (rU:∃ t,PySem.W.nsIn K mainGlobals "SIGNS" = some (some (.str "#012345678" t)))
  (iz:∃ t,PySem.W.nsIn K mainGlobals "MOST_CELLS" = some (some (.int 12 t)))
  (a1U:PySem.W.nsIn K mainGlobals "all" = some none)
  (a1V:PySem.W.nsIn K mainGlobals "int" = some none)
  (a1W:PySem.W.nsIn K mainGlobals "len" = some none)
  (a0z:PySem.W.nsIn K mainGlobals "list" = some none)
  (a1X:PySem.W.nsIn K mainGlobals "max" = some none)
  (a1Y:PySem.W.nsIn K mainGlobals "min" = some none)
  (XS:PySem.W.nsIn K mainGlobals "range" = some none)
  (Us:PySem.W.nsIn K mainGlobals "sorted" = some none)
  (a1Z:PySem.W.nsIn K mainGlobals "str" = some none)
  (yV:cU K "_law_cell_at" lY)
  (Jw:cU K "_law_mix" tL)
  (xW:cU K "_law_field_by" jU)
  (R9:cU K "is_row" Ae)
  (Ov:cU K "is_size" wF)
  (Ow:cU K "is_view" wG)
  (Jx:cU K "has_cell" tM)
  (Hg:cU K "is_closed" qT)
  (VN:cU K "cells" Ez)
  (YT:cU K "near" Kg)
  (Hj:cU K "open_near" qW)
  (Bw:cU K "closed_near" nu)
  (R7:cU K "closed" Ac)
  (YQ:cU K "edge" Kf)
  (a0F:cU K "far" TY)
  (R8:cU K "figure" Ad)
  (Hh:cU K "is_laying" qU)
  (Bx:cU K "stones_near" nA)
  (VP:cU K "keeps" EY)
  (Ra:cU K "joined" Af)
  (W0:cU K "parts" Fb)
  (Oq:cU K "demands" wC)
  (Jy:cU K "may_hold" tO)
  (Ox:cU K "layings" wH)
  (Ou:cU K "is_lone" wD)
  (yX:cU K "lone_layings" m8)
  (Oo:cU K "choices" wB)
  (OD:cU K "settled" wI)
  (yW:cU K "first_laying" lZ)
  (Hf:cU K "both_ways" qR)
  (YW:cU K "sure" Kh)
  (GZ:cU K "_law_told" qQ)
  (vP:cU K "_law_uncovered" jA)
  (a0G:cU K "law" U0) :
  ∃ fd:FuncData,(∀(s:Shared)(v:Value),BindsTo s fd ⟨[v],[]⟩ [("script",v)])/\∀ base:Heap,K.In base->base.Ns mainGlobals mg->cF l.prog w K mg base (CXE l.prog w) 10 fa fd ["script"] (O6 K):=by
 obtain⟨_,iW⟩:=iW;obtain⟨_,fM⟩:=fM;obtain⟨_,dU⟩:=dU;obtain⟨_,rU⟩:=rU;obtain⟨_,iz⟩:=iz;have T:Txt K mg ⟨oJ,vJ,qy,yG,sW,oK,Jl,oM,jy⟩:={ Mz:=vf X G a1U,Y5:=vf X G a1V,gH:=vf X G a1W,vL:=vf X G a0z,QM:=vf X G a1X,QS:=vf X G a1Y,iy:=vf X G XS,lJ:=vf X G Us,Y6:=vf X G a1Z,iW:=⟨_,jN X G iW⟩,fM:=⟨_,jN X G fM⟩,dU:=⟨_,jN X G dU⟩,rU:=⟨_,jN X G rU⟩,iz:=⟨_,jN X G iz⟩,DK:=jN X G oN,pL:=⟨pL⟩,vM:=jN X G vK,oF:=⟨oF⟩,qC:=jN X G qz,jJ:=⟨jJ⟩,qD:=jN X G yH,mq:=⟨mq⟩,sY:=jN X G sX,jC:=⟨jC⟩,um:=jN X G oO,kZ:=⟨kZ⟩,R0:=jN X G Jm,Fo:=⟨Fo⟩,YG:=jN X G Dr,dZ:=dZ,j5:=j5,d9:=d9,dO:=dO,YF:=jN X G Dq,bU:=bU,cP:=cP,fj:=fj,cu:=cu,iZ:=iZ }
 refine Zi X G hfa a0G (bind1 fun _ _ _ _ _ _ _=>rfl) fun base _ _ F=>?_
 have dm:=@a0J l.prog w K mg base h X G;have cm:=@a1d l.prog w K mg base h X G;have mm:=@Zq l.prog w K mg base;have bV:=dm yV (iH fun _ _ _ _ _ _ _ _=>rfl) fun _ _ F=>Ww F T
 have g8:=dm Jw (QT fun _ _ _ _ _ _ _ _ _=>rfl) fun _ _ F=>Zx F T
 have jO:=dm xW (iH fun _ _ _ _ _ _ _ _=>rfl) fun _ _ F=>S7 F T bV g8
 have yF:=dm R9 (iH fun _ _ _ _ _ _ _ _=>rfl) fun _ _ F=>Zy F T
 have lA:=dm Ov (iH fun _ _ _ _ _ _ _ _=>rfl) fun _ _ F=>WD F T
 have vC:=dm Ow (bind1 fun _ _ _ _ _ _ _=>rfl) fun _ _ F=>WM F T yF lA
 have vG:=cm Dr Wq Wf xZ (iH fun _ _ _ _ _ _ _ _=>rfl) fun _ _ F=>Wx F T vC
 have gb:=dm Jx (iH fun _ _ _ _ _ _ _ _=>rfl) fun _ _ F=>Zu F T
 have bC:=dm Hg (iH fun _ _ _ _ _ _ _ _=>rfl) fun _ _ F=>Ia F T gb
 have kO:=dm VN (bind1 fun _ _ _ _ _ _ _=>rfl) fun _ _ F=>I9 F T
 have jP:=dm YT (iH fun _ _ _ _ _ _ _ _=>rfl) fun _ _ F=>Sv F T gb
 have cT:=dm Hj (iH fun _ _ _ _ _ _ _ _=>rfl) fun _ _ F=>Ie F T jP bC
 have d7:=dm Bw (iH fun _ _ _ _ _ _ _ _=>rfl) fun _ _ F=>BP F T jP bC
 have gn:=dm R7 (bind1 fun _ _ _ _ _ _ _=>rfl) fun _ _ F=>Q9 F T kO bC
 have vA:=dm YQ (bind1 fun _ _ _ _ _ _ _=>rfl) fun _ _ F=>Ss F T gn cT
 have QK:=dm a0F (bind1 fun _ _ _ _ _ _ _=>rfl) fun _ _ F=>Wz F T gn cT
 have jc:=dm R8 (iH fun _ _ _ _ _ _ _ _=>rfl) fun _ _ F=>JZ F T
 have iU:=dm Hh (iH fun _ _ _ _ _ _ _ _=>rfl) fun _ _ F=>Ib F T bC
 have gw:=dm Bx (QT fun _ _ _ _ _ _ _ _ _=>rfl) fun _ _ F=>Qd F T jP
 have yg:=dm VP (iH fun _ _ _ _ _ _ _ _=>rfl) fun _ _ F=>Sg F T iU kO bC jc gw
 have nG:=dm Ra (iH fun _ _ _ _ _ _ _ _=>rfl) fun _ _ F=>Qc F T cT d7
 have Dp:=dm W0 (bind1 fun _ _ _ _ _ _ _=>rfl) fun _ _ F=>Sq F T vA nG
 have vq:=dm Oq (iH fun _ _ _ _ _ _ _ _=>rfl) fun _ _ F=>JW F T cT d7 jc
 have sV:=dm Jy (iH fun _ _ _ _ _ _ _ _=>rfl) fun _ _ F=>Zw F T
 have vD:=dm Ox (iH fun _ _ _ _ _ _ _ _=>rfl) fun _ _ F=>JX F T vA nG vq sV
 have vB:=dm Ou (iH fun _ _ _ _ _ _ _ _=>rfl) fun _ _ F=>Wy F T bC d7
 have lF:=dm yX (bind1 fun _ _ _ _ _ _ _=>rfl) fun _ _ F=>Sh F T kO vB jc
 have vp:=dm Oo (bind1 fun _ _ _ _ _ _ _=>rfl) fun _ _ F=>JV F T Dp vD QK lF
 have rO:=dm OD (QT fun _ _ _ _ _ _ _ _ _=>rfl) fun _ _ F=>K1 F T
 have jd:=dm yW (bind1 fun _ _ _ _ _ _ _=>rfl) fun _ _ F=>S8 F T
 have qj:=dm Hf (iH fun _ _ _ _ _ _ _ _=>rfl) fun _ _ F=>Wv F T bC vp rO jd
 have Jg:=dm YW (iH fun _ _ _ _ _ _ _ _=>rfl) fun _ _ F=>WK F T qj
 have Ji:=cm Dq Wo Wd xY (Y7 fun _ _ _ _ _ _ _ _ _ _=>rfl) fun _ _ F=>S9 F T lA vG iU
 have iw:=mm En bU (bind1 fun _ _ _ _ _ _ _=>rfl) fun _ _ F=>Qa F T
 have gQ:=mm HW bU (bind1 fun _ _ _ _ _ _ _=>rfl) fun _ _ F=>Sd F T vG
 have lG:=mm zL bU (iH fun _ _ _ _ _ _ _ _=>rfl) fun _ _ F=>K3 F T iw gb gw jP
 have mJ:=dm GZ (bind1 fun _ _ _ _ _ _ _=>rfl) fun _ _ F=>Qe F T gn Jg
 have iu:=dm vP (Y7 fun _ _ _ _ _ _ _ _ _ _=>rfl) fun _ _ F=>WL F T gn g8 gQ iw lG
 exact Zv F T bV jO Ji iu gQ mJ yg
theorem walk{l:PySem.W.OpenLaw}{q:Program}{loose:List Str}{XP:(Str->Option Value)->Heap->Prop}{YP:World->Heap->Prop}{d:DefRec}{K:Params->ak}(hn:l.most=some 63)(hdf:d.params.defaults=[])
  (hY:∀(w:World)(h:Heap),YP w h->(K w.params).In h)
  (F:∀(w:World)(mg:Str->Option Value)(fa:Addr)(h:Heap),(K w.params).In h->h.Ns mainGlobals mg->mg d.name=some (.ref fa) ->
   ∃ fd:FuncData,(∀(s:Shared)(u:Value),BindsTo s fd ⟨[u],[]⟩ [("script",u)])/\∀ base:Heap,(K w.params).In base->base.Ns mainGlobals mg->cF l.prog w (K w.params) mg base (CXE l.prog w) 10 fa fd ["script"] (O6 (K w.params))) :
  PySem.W.WalkO q loose XP YP l.row.toRowW d [] (fun f vs=>PySem.call f vs):=
 L2.XQ (n:=63) (k:=10) (x:="script") (CX:=fun w=>CXE l.prog w) (sp:=fun w=>O6 (K w.params)) hn (by decide) hdf ⟨rfl,by decide,by decide⟩ hY F (fun _ _ a ns hl _ hS=>⟨a,ns,rfl,hS,fun _=>rfl⟩) fun _ _ _ _ _ z=>by
  obtain⟨_,_,_,_,_,_,_,_,_,z⟩:=z;exact z
end My
namespace PySem.W.Fast
def tw2962727044818674851:=0
def tw13485021720449191519:=0
def tw2268083030441647300:=0
def tw2815494481866063994:=0
def tw11076137081253350326:=0
def tw11846734831440353476:=0
def tw10645262734236991047:=0
def tw438619584075120770:=0
def tw204190721985662621:=0
def tw10783533953441556939:=0
def tw14245081953425743298:=0
def tw12030051311277655577:=0
def tw8545171320296285439:=0
def tw11171507055014703047:=0
def tw15479180785203068559:=0
def tw13728092393118534404:=0
def tw6053309156340954063:=0
def tw7091682968051052384:=0
def tw3005929413213145233:=0
def tw2871643795663733369:=0
def tw4697142562653841745:=0
def tw10889410472086109935:=0
def tw1220294758203624331:=0
def tw13221165992431389458:=0
def tw4315999940783370443:=0
def tw5513287870488066448:=0
def tw13493800743171808227:=0
def tw14643084357691080308:=0
def tw9837975881199233252:=0
def tw17319252964421117143:=0
def tw18335910396455008703:=0
def tw6328955666658160997:=0
def tw15614394524654052125:=0
def tw9613438783930462889:=0
def tw11627791085799709684:=0
def tw15821274516065584765:=0
def tw6908765573543362851:=0
def tw8122937280843687294:=0
def tw16491408085171288701:=0
def tw14618830552217947096:=0
def tw12696241072200067879:=0
def tw4360935247740272637:=0
def tw14982678225350879668:=0
def tw16513431414819393121:=0
def tw9280146620696874334:=0
def tw13576750803641599190:=0
def tw18340219269194252516:=0
def tw15636759878329911577:=0
def tw10964594471436867455:=0
def tw2724179377935156516:=0
def tw9074414402957655307:=0
def tw17427696965412674346:=0
def tw2307006530232190209:=0
def tw4957702854826504844:=0
def tw11548273880397079413:=0
def tw5088110426986934154:=0
def tw5891040611127650189:=0
def tw5246212229772431812:=0
def tw10455679282177002697:=0
def tw13510451965406685843:=0
def tw5627800155009668221:=0
def tw7075333898732494861:=0
def tw2590037446606370120:=0
def tw15251684004325721930:=0
def tw9500733826206810316:=0
def tw16834060048132465354:=0
def tw11199269631541552260:=0
def tw10644701584412942477:=0
def tw7849034857238115829:=0
def tw2697568427225028546:=0
def tw6467573893458067902:=0
def tw3958343757649513850:=0
def tw4976678922277956163:=0
def tw13428189122686905496:=0
def tw7548489936756140394:=0
def tw1847125941197321326:=0
def tw15360576758276529430:=0
def tw8351088961212425118:=0
def tw11179841892662052682:=0
def tw7983275449028995527:=0
def tw14949440738423214686:=0
def tw11328294717988602213:=0
def tw5968713512201790194:=0
def tw392856497502963289:=0
def tw16767585541573281090:=0
def tw11238599842862334426:=0
def tw12845890785918510613:=0
def tw9074588038857536644:=0
def tw16725521722570639329:=0
def tw15939526582273255466:=0
def tw18160038721128780173:=0
def tw5080023262916856080:=0
def tw2502666038871116660:=0
def tw2560255475184803874:=0
def tw5461881888558565736:=0
def tw607262517353116291:=0
def tw958064358127428612:=0
def tw3739880292883053514:=0
def tw14586038196702658079:=0
def tw8085311135014955849:=0
def tw11610556386765544266:=0
def tw15258911945367490992:=0
def tw14509720254427256522:=0
def tw10687895219927786601:=0
def tw13186823632110536364:=0
def tw3201884144886900611:=0
def tw851292353520728299:=0
def tw3005924635977184649:=0
def tw195633697837824728:=0
def tw6392562404033280502:=0
def tw3673953125149134102:=0
def tw13898164098965844936:=0
def tw2624752270535874857:=0
def tw7483390902191665074:=0
def tw7082737769579512805:=0
def tw12858660463014873918:=0
def tw16155221023177876594:=0
def tw12073570546230895764:=0
def tw14144522894023936291:=0
def tw6920797487555414508:=0
def tw3605901126501864345:=0
def tw14136689751208509792:=0
def tw17102461408223576251:=0
def tw14409011623445080258:=0
def tw2936563498978178966:=0
def tw16561368590209881956:=0
def tw1994483122455763012:=0
def tw10696634653262563807:=0
def tw7717515053629718066:=0
def tw11731740119779786183:=0
def tw10485926076575362099:=0
def tw12569912004438301633:=0
def tw12636908913079667017:=0
def tw2915076669657120099:=0
def tw6424901547386047823:=0
def tw1298763153943312440:=0
def tw13547885075924500607:=0
def tw18185674009894123579:=0
def tw12170950633397325839:=0
def tw9065591481819161883:=0
def tw575807615900190084:=0
def tw3293701393102284996:=0
def tw12422484713213679067:=0
def tw15190474933852844394:=0
def tw13911300215265591495:=0
def tw14569114419272058889:=0
def tw8193385006352175088:=0
def tw7810817177366332036:=0
def tw589274279548069737:=0
def tw14647839096109399622:=0
def tw12744270773541048426:=0
def tw11460489561862084438:=0
def tw15089088285318131483:=0
def tw3625100200624754202:=0
def tw8506096255556716586:=0
def tw12939998272629647726:=0
def tw4614832275735147060:=0
def tw5750012981552681263:=0
def tw7881970181857638366:=0
def tw11553014687469534330:=0
def tw12271917812761597154:=0
def tw2409251081403822622:=0
def tw2309908734000065759:=0
def tw5975540481476221740:=0
def tw2921530324831305611:=0
def tw9727895561466626003:=0
def tw13813950004248348171:=0
def tw14408404396750854561:=0
def tw12973881401949878717:=0
def tw3987757120359846647:=0
def tw16078555467336914872:=0
def tw11741673150698601501:=0
def tw5652283202642853436:=0
def tw17922704573976095582:=0
def tw18116659979678419806:=0
def tw1474919609614012781:=0
def tw10382249610038293432:=0
def tw15807012701556948298:=0
def tw1010654531461534449:=0
def tw664402305246582225:=0
def tw743273115906224326:=0
def tw7716117305634885338:=0
def tw8248603057082800343:=0
def tw5568448610933423622:=0
def tw6111417394659523018:=0
def tw15007008221574090560:=0
def tw8612574561210034855:=0
def tw9054957477202350018:=0
def tw15999040624112784867:=0
def tw677525164499007656:=0
def tw16562995994749139334:=0
def tw1918515636379861957:=0
def tw9769712906666340202:=0
def tw5924537466130089358:=0
def tw5318544689174086305:=0
def tw15939715751203357075:=0
def tw9095782896292983805:=0
def tw7486164714979372607:=0
def tw3995148269780978712:=0
def tw12091809052078715956:=0
def tw17735516316490513094:=0
def tw8354286376413426608:=0
def tw826674137653630403:=0
def tw10653460834679856928:=0
def tw7923193072213912036:=0
def tw17838315810570230744:=0
def tw5580710708849569721:=0
def tw16645120116307980956:=0
def tw9676749798010410131:=0
def tw17573876560106197157:=0
def tw13586757962273296248:=0
def tw15177283652809711791:=0
def tw1421995130266182053:=0
def tw8283625166533464610:=0
def tw9235949717725326242:=0
def tw12427332733450652536:=0
def tw6881597731903766097:=0
def tw16516356605802147431:=0
def tw3587233808987321704:=0
def tw8901423077995313788:=0
def tw7594810198519142715:=0
def tw13158318090535424567:=0
def tw9513145396580378572:=0
def tw7503634504771231402:=0
def tw5609302633271426004:=0
def tw5635874883498466036:=0
def tw18193766277327286600:=0
def tw6175760082051387203:=0
def tw16253138378176878942:=0
def tw14026779296818047931:=0
def tw12744684553978082565:=0
def tw17575316106249421916:=0
def tw8228462404234375733:=0
def tw9149689667113850882:=0
def tw2642175379339570127:=0
def tw5543372890766896023:=0
def tw542806071849448918:=0
def tw1034215897525531401:=0
def tw18056788134330575264:=0
def tw4438703073999458475:=0
def tw15591156885264890673:=0
def tw5838534442657372938:=0
def tw11470544595881870316:=0
def tw16573797091556094594:=0
def tw12325147230370312519:=0
def tw4730747042431705117:=0
def tw2707261028485525374:=0
def tw18383557283160915393:=0
def tw7760228880713725979:=0
def tw15182419400167693769:=0
def tw16585439989263414532:=0
def tw10881199812103277855:=0
def tw3335393420159479917:=0
def tw8124106041473760222:=0
def tw1016852228436770834:=0
def tw18188144705842903:=0
def tw10467730048176211564:=0
def tw15194672628019526464:=0
def tw11208602285146376020:=0
def tw10991159511637246693:=0
def tw118832809430138975:=0
def tw7967382183506672725:=0
def tw17371506865342739168:=0
def tw531509814530631935:=0
def tw2919850256368032913:=0
def tw8157203969868802202:=0
def tw12942387285320246600:=0
def tw15319971613705390329:=0
def tw7461910131868506493:=0
def tw6587430703146758160:=0
def tw12152686021976999089:=0
def tw12305998404371187379:=0
def tw7498276188916419667:=0
def tw8232013300866417072:=0
def tw17949284798032957965:=0
def tw813435136940782250:=0
def tw8288515050813564243:=0
def tw7753253785166525404:=0
def tw6785146890952556101:=0
def tw7152709889216853908:=0
def tw12692175323028975154:=0
def tw6559447314572246751:=0
def tw8530124417748984230:=0
def tw2658724849703145063:=0
end PySem.W.Fast
open PySem PySem.W PyProof.Rows
set_option maxRecDepth 100000 in
set_option maxHeartbeats 0 in
theorem PySem.Challenge.cw_dampfield_k12_whole_sure_is_true_and_sta_holds : PySem.Challenge.rw_dampfield_k12_whole_sure_is_true_and_sta.Holds := by
 w_on;o_law;k_head;(case hw=>w_witness2)
 k_fill
 refine My.walk (l:=PySem.Challenge.rw_dampfield_k12_whole_sure_is_true_and_sta) rfl rfl (fun w h Y=>PySem.W.kIn_of Y) ?F
 case F=>
  intro w mg fa h KX G hmg
  refine' My.all_mk KX G hmg ?oN ?vK ?qz ?yH ?sX ?oO ?Jm ?Dr ?Dq ?_ ?_ ?_ ?_ ?_ ?_ ?_ ?_ ?_ ?_ ?_ ?_ ?_ ?_ ?_ ?_ ?_ ?_ ?_ ?_ ?_ ?_ ?_ ?_ ?_ ?_ ?_ ?_ ?_ ?_ ?_ ?_ ?_ ?_ ?_ ?_ ?_ ?_ ?_ ?_ ?_ ?_ ?_ ?_ ?_ ?_ ?_ ?_ ?_ ?_ ?_ ?_ ?_ ?_ ?_ ?_ ?_ ?_ ?_ ?_ ?_ ?_ ?_ ?_ ?_ ?_ ?_ ?_ ?_ ?_ ?_ ?_ ?_
  (case oN=>k_is)
  (case vK=>k_is)
  (case qz=>k_is)
  (case yH=>k_is)
  (case sX=>k_is)
  (case oO=>k_is)
  (case Jm=>k_is)
  (case Dr=>k_is)
  (case Dq=>k_is)
  iterate 7 k_exc
  iterate 1 (refine' My.RQ ?a ?i ?b ?c ?d;(case a=>k_is);(case i=>k_is);(case b=>k_is);(case c=>k_is);(case d=>k_is))
  iterate 1 (refine' ⟨?_,?_,?_,?_⟩<;>k_is)
  iterate 5 k_is
  iterate 4 (refine' My.RQ ?a ?i ?b ?c ?d;(case a=>k_is);(case i=>k_is);(case b=>k_is);(case c=>k_is);(case d=>k_is))
  iterate 1 (refine' ⟨?_,?_,?_,?_⟩<;>k_is)
  iterate 6 k_is
  iterate 2 (refine' My.a1R ?a;(case a=>k_is))
  iterate 2 (refine' My.a2I ?a;(case a=>k_is))
  iterate 1 (refine' My.a1R ?a;(case a=>k_is))
  iterate 9 k_is
  iterate 34 (refine' My.a0H ?a ?b ?c ?d;(case a=>k_is);(case b=>k_is);(case c=>k_is);(case d=>k_is))
